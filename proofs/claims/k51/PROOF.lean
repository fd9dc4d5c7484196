import PyProof.Rows.All
import Wide.All
import OpenK.AllK
import Wide.FinOn
import Lean
import PyProof.EqAt
import PyProof.EqKinds
import PyProof.TupleCall
import PySem.Challenge.RW_dialvault_k51_whole_both_and_together
set_option compiler.extract_closed false
set_option compiler.reuse false
set_option compiler.small 0
set_option Elab.async false
set_option linter.all false
set_option maxRecDepth 100000
set_option maxHeartbeats 0
open PySem renaming wpAny_bind->VQ,wpAny_pure->VY,wpAny_field->Wz,wpAny_seqItems->WO,wpAny_callSpecial?_slot->WQ,wpAny_setField_rec->WZ,wpAny_newObj_type->Xa,wpAny_call_entry->Xg,wpAny_holding->Xm,wpAny_truthy_bool->XF,wpAny_mono->XO,wpAny_letGo->X4,wpAny_Call_Name_kw->X8,wpAny_onRaise->Yc,wpAny_typeNameOfWhole_keyiter->Ye,wpAny_attempt->Yw,wpAny_pyIter_tuple->YB,wpAny_passesOwn->YH,wpAny_updateSeq->YI,wpAny_typeNameOf_keyiter->YS,mem_of_lookup->YU,wpAny_setField->YY,wpAny_loadPart'->Y7,wpAny_pyIter_list->Y_,wpAny_isInstance->Zj,wpAny_standAt->Zr,wpAny_execs_nil->Zv,wpAny_loadPart->ZJ,wpAny_pyIter_enum->ZO,plainObj_wpAny_Assign_Attribute->ZU,call_meets->ZX,wpAny_rule->ZY,wpAny_pyIter_zip->Z0,plainId_quiet->Z7,wpAny_updateSeq_pair->Z_,wpAny_typeOf->aat,codeAny_mono->aaw,tupleKind_room_in1->aaK,wpAny_letOwnedTupleGo_enum->aaL,isSubtype_stop->aaM,wpAny_call->aaN,wpAny_tryCatch->aaR,wpAny_binaryOp_repeat_ref->aaV,wpAny_letOwnedTupleGo_zip->aaW,wpAny_assign_Name->aaZ,wpAny_loadPart_at->aa1,wpAny_dictEntries->aa3,noFill_tuple_add->abd,wpAny_pyNext_range_end->abo,wpAny_pyIter_rangeiter->abp,typeIs_int->abt,wpAny_ite_false->abK,wpAny_dictEpoch->abL,codeAny_builtin->abM,exec_Assign_Name_used->abO,codeAny_handlers_test->abR,wpAny_isOneOf_keyiter->abT,wpAny_of_eq->ab1,codeAny_call_builtin->ab2,wpAny_pyIter_keyiter->ab4,seq_tuple_add->ace,Within->acA,concat_meets->acL,seqIndex_neg->acM,callType_new->acQ,seqSlot_of->adb
open PySem.Heap renaming get?_push_of_some->VR,get?_push_size->V2,lt_size->V3,get?_update_other->Wn,get?_update_self->WL,size_push->WN,SameBut->YJ,get?_none_of_le->Za,ExtBut->adi
open List renaming replicate->VS,getElem?_eq_getElem->VT,length_map->VW,getD_eq_getElem?_getD->VZ,mem_cons_of_mem->V5,range->V6,mem_cons_self->V7,size_toArray->Wa,mem_iff_getElem->Wc,mem_cons->Wd,mem_singleton->Wi,getElem_mem->Wu,map_cons->Wv,getElem?_map->Ww,getElem?_set->Wy,map_map->WA,getElem?_eq_some_iff->WB,length_append->WD,length_range->WJ,mem_append_right->WR,length_cons->WS,mem_map->WU,getElem?_append_right->WV,take_succ_eq_append_getElem->WX,length_zip->W2,getElem?_append_left->W3,mem_range->W5,append_nil->W9,all_eq_true->W_,of_mem_zip->Xf,mem_nil_iff->Xh,mem_append->Xk,map_append->Xl,lookup_cons->Xn,replicate_succ->Xo,map_replicate->Xx,take_of_length_le->Xy,drop_eq_getElem_cons->XC,eq_of_mem_replicate->XJ,find?_cons->XN,length_zipIdx->XR,mem_append_left->XS,getElem_map->XU,flatten_cons->XZ,getElem?_range->X3,length_filter_le->X6,zip_cons_cons->X9,set_cons_zero->X_,drop_eq_nil_iff->Yh,map_congr_left->Yp,drop_eq_nil_of_le->Yq,lookup->Yu,length_drop->Yz,getElem_zip->YA,length_mapIdx->YD,mem_filter->YG,take_length->YZ,length_set->Y8,getElem?_eq_none->Y9,length->Zd,fst_mem_of_mem_zipIdx->Zh,getElem_zipIdx->Zq,nodup_cons->Zy,forIn_cons->Zz,set_cons_succ->ZA,getElem?_replicate->ZD,forIn_nil->ZP,length_replicate->ZV,zipIdx_cons->ZZ,eq_nil_iff_forall_not_mem->Z1,any_cons->Z2,getElem?_set_ne->Z8,length_nil->aae,zipIdx_nil->aaf,filterMap_cons->aam,length_zipWith->aaq,map_nil->aau,foldl->aaJ,ext_getElem?->aa2,map_id->aa6,getElem_take->aa7,length_take->abc,filter_cons_of_pos->abl,filter_cons_of_neg->abm,getElem?_set_self->abn,zipWith->abv,foldl_cons->abI,getElem?_toArray->abQ,getElem_set_self->abV,mem_of_getElem?->abZ,getElem?_mapIdx->ab3,mem_of_mem_take->ab8,getElem_of_mem->ab_,mem_filterMap->ack,getElem_of_eq->acw,zip_nil_left->acK,append_assoc->acN,nodup_append->ac2,length_tail->ade,ext_getElem->adh,nil_append->adu
open PySem.W renaming Frag->VU,kitOne->Wr,findIn->W6,keepIn->W8,kia_one->Xe,fnOf->Xr,emptyDict->XG,codeIn->Yd,instObj->Yl,callWith_K->YC,clsIn->YR,InstAt->YW,any_some->YX,typeIn->Zb,looks_findIn->Zc,isFn->Zi,Looks->Zu,takerIn->Zw,lookIn->ZH,hasDictIn->ZI,specialIn->ZK,kitx_list->ZL,kitx_dict->ZM,exmOne->ZQ,plainGet->ZW,excIn->Z6,takesIn->aad,plainGet_of->aan,looks_clsIn->aao,looks_mroIn->aap,kitAny->aaO,methodObj->aaY,mroIn->aa8,cellsFrom_some->abq,nsIn->abu,findObj->abJ,methodCall_KW->abP,kitx_float->aco,kitx_tuple->acp,check_slot->acq,isNs_of_in->acs,tail_of_in->acu,plainOver->acB,set_plain->acC,kitx_none->acG,kitx_bool->acH,handedIn->ac3,kitx_int->ac4,kitx_str->ac5,kitx_own->ac6,makesIn->ads,bind_fn->adt,exm_one->adw,mg_of->ady,KitX->adz
open Nat renaming le_refl->VX,lt_of_lt_of_le->V8,ne_of_lt->V_,zero_le->Wb,le_trans->WE,lt_or_ge->WW,lt_of_le_of_lt->Xj,pow_le_pow_right->Xw,ne_of_gt->XM,le_add_right->XT,lt_succ_self->X7,two_pow_pos->Yn,lt_irrefl->Yt,lcm->YM,le_of_lt->Y5,mul_le_mul->Zg,mul_le_mul_left->Zp,le_succ->Z9,mul_le_mul_right->aac,not_lt_zero->aai,min_le_left->aal,mul_comm->aav,succ_pos->aax,sub_self->aaB,lt_or_eq_of_le->aaT,lt_succ_of_lt->aa4,lt_succ_iff_lt_or_eq->abb,min_le_right->abe,succ_ne_self->abi,sub_zero->abw,lt_of_succ_lt_succ->abz,zero_add->abB,pow_succ->abF,le_of_dvd->acg,le_of_eq->acE,add_comm->acO,add_zero->acT,dvd_mul_right->acU,lt_trichotomy->acZ,le_of_lt_succ->ac1,le_of_not_lt->ac9,succ_lt_succ->adf,dvd_mul_left->adg,log2_lt->adj,add_mul->adm,lcm_dvd->adn,lcm_pos->ado,pow_add->adp
open PySem.Value renaming ref->V4,none->WK,type->Xp,bool->Yk,builtin->Z5,int->aaD,str->aaE,float->abW,notImplemented->ab0
open Option.some renaming inj->V9
open Int renaming mul_ediv_cancel_left->We,emod_lt_of_pos->Wm,toNat_natCast->Wq,emod_nonneg->Wx,gcd->WH,eq_of_mul_eq_mul_left->W4,dvd_zero->Xd,dvd_trans->Xi,dvd_mul_left->XA,dvd_add->XH,mul_neg_of_pos_of_neg->X5,mul_le_mul_of_nonneg_left->Yg,emod_eq_of_lt->Yi,lt_trichotomy->Yj,ediv_nonneg->Yo,mul_assoc->Yx,one_mul->Yy,mul_zero->YL,dvd_mul_of_dvd_right->YT,natAbs_mul->Y0,gcd_dvd_left->Y3,mul_le_mul_of_nonneg_right->Y4,mul_comm->Y6,fdiv_eq_ediv_of_nonneg->Ze,ediv_le_self->Zk,toNat_of_nonneg->Zo,mul_nonpos_of_nonneg_of_nonpos->ZC,natAbs_neg->ZT,sub_zero->aaz,emod_def->aaA,toNat->aaF,sub_add_cancel->aaS,lt_of_le_of_lt->aaU,natAbs_ediv_le_natAbs->aaX,neg_mul->aa5,eq_ofNat_of_zero_le->abj,lt_or_le->abA,dvd_refl->abC,sub_self->abD,add_zero->abE,zero_mul->abG,mul_ediv_add_emod->abU,mul_one->abY,mul_neg->ab6,dvd_sub->ab7,le_of_dvd->ach,mul_ediv_assoc->acy,natCast_nonneg->acz,gcd_dvd_right->acV,le_of_lt->acW,le_trans->acX,dvd_mul_right->acY,ofNat_le->ac0,sub_mul->adl,mul_pos->adq
open PySem.W.Fast renaming te4187177175401517315->Wg,te5923862056798008813->Wh,te14364793385576792824->W7,te10110043849684766642->Yv
open PySem.Builtin.SmallTypes renaming nextOf->Wj,ownedTupleIsFree->WI,ownedTupleHandOut->XE
open Option renaming map_eq_some_iff->Wo,getD_some->Xz,isSome_iff_exists->YN,bind_eq_some_iff->ZF,map_some->aak,isSome_map->aa0,getD_none->ac8,bind_some->ada
open PySem.Builtin.Range renaming rangeSize->WC,small->aar,rangeFitsLong->aaC
open PySem.Str renaming ofString->WG
open Eq renaming trans->WM
open Bool renaming and_eq_true->WT,false_ne_true->WY,false_eq_true->Xv,and_eq_true_iff->YK,eq_iff_iff->aag,false_and->abX,true_and->aci,and_true->acj,not_eq_true'->acR
open PyProof.Rows renaming callWith_type1->Xb,slot_tuple_getitem->Xc,subscriptTail_builtinR->abr,boot_zip->abN
open True renaming intro->Xq
open Ne renaming symm->Xs
open Array renaming getElem?_eq_some_iff->Xu,length_toList->XD,getElem?_eq_getElem->Zm,getElem?_eq_none->abx,getElem_toList->ab5,find?_toList->acm
open PySem.AutoSeq1 renaming wpAny_loadPart'->XI,sub_tuple_tuple->YO,idx_int->abg
open PySem.Obj renaming data_mapFields->XQ,mapFields->XX,mapSeq->Ym,isFreed_of_fields->YE,cls_mapFields->acP
open False renaming elim->XY
open PySem.PyData renaming canLay0->X0,int->Yb,depth->Ys,canLayAll0->ZS,depthAll->aaj
open PySem.Builtin.List renaming listExtendWith->Yr,listTooLong->Zt,listSameRef->aba,listItems->aby
open PySem.Builtin.Slice renaming slicePlaces->YF,sliceAdjust->Zl,sliceApplied->aaH
open PySem.Builtin.Tuple renaming tupleExact->YQ,tupleItemsOf->aaI,tupleTooMany->aaP
open PySem.Heap.SameBut renaming update->YV
open Classical renaming byContradiction->Zn,skolem->abk
open PySem.F renaming args_tuple_add_2->Zs,entry_tuple_add->ZE,slot_tuple_add->ZN,excBase_ValueError->aaQ,slot_list_append->aa9,type_list_append->aa_,attr_ValueError->abf,plainAttrs_list->abh
open Sum renaming inl->ZG,inr->ab9
open Nat.succ renaming inj->ZR
open PySem.NameKind renaming free->Z4,cell->acf
open PySem.Shared renaming heap->aaa
open PySem.Around renaming under_plainId->aab,under->acI
open PySem.Builtin.Dict_items renaming ownsTuple->aah
open PySem.Builtin.Int renaming intBits->aas
open PySem.Builtin.Builtins renaming bindParams->aay
open PySem.Calls renaming Name_function_global->aaG
open Iff renaming rfl->abH
open PySem.Builtin.Dict renaming showsAll->abS
open PySem.EntryCells renaming newEntry->acd
open PySem.W.Looks renaming here->acn
open PySem.Code renaming quiet_builtin->acr,isFrame->acJ
open PySem.Walks renaming list->acv
open PySem.Within renaming cons->acD
open PySem.Heap.Ns1 renaming of_empty->acF
open PySem.SeqAt renaming shaped->acS,noMix->adk
open PyProof.Rows.IsTup renaming new->ac7
open PySem.Flow renaming next->ac_
open ForInStep renaming yield->adv
open PySem.W.Frag renaming In->adx
set_option hygiene false
local macro_rules|`(⋯)=>`(by lia)
local macro_rules|`(↑$n:num)=>#[`(starEach (e::es) X.env=(false,eval e X.env)::starEach es X.env),`(X.fn x=true\/X.env.scope.names.lookup x=some .local),`((backTo pos (starEach es X.env)).any (·.1)=false),`(by first|exact .inl rfl|exact .inr (.inl rfl)),`(.cons rfl rfl (by walk_at "l") rfl rfl .nil),`(∀x,foldedSetIterable iter X.env x=pure x),`((x==("__classdict__" : Str))=false),`((x==("__debug__" : Str))=false),`(model X.prog X.w),`(by walk_at "l"),`(by kernel_rfl),`(model prog w),`(by decide),`(by simp)][n.getNat]!
noncomputable section
def aR(h:True:=by rfl):True:=h
def aD(h:True:=by decide):True:=h
def aI(h:True:=by intro _;rfl):True:=h
def aK(h:True:=by kernel_rfl):True:=h
def aF(h:True:=by first|exact .inl rfl|exact .inr rfl|assumption):True:=h
def aU(h:True:=by with_unfolding_all rfl):True:=h
def aN(h:True:=by decide +kernel):True:=h
def aG(h:True:=by first|exact .inl rfl|exact .inr rfl):True:=h
namespace L2
open PySem PySem.Spec PyProof.Rows
abbrev Key:=Sum Int Str
def ui:Key->Value->Bool
 | .inl k,v=>Value.isInt k v
 |.inr x,v=>Value.isStrOf x v
def OS(w:World):Key->Int
 | .inl k=>hashInt k
 |.inr x=>hashStr w x
def cH:∀{k:Key}{v:Value},ui k v=true->(∃i t,k=ZG i/\v=aaD i t)\/(∃x t,k=ab9 x/\v=aaE x t)
 | .inl i,v,h=>by
  obtain⟨t,e⟩:=Value.isInt_shape (k:=i) (v:=v) h;exact .inl ⟨i,t,rfl,e⟩
 | .inr x,v,h=>by
  obtain⟨t,e⟩:=Value.isStrOf_shape (x:=x) (v:=v) h;exact .inr ⟨x,t,rfl,e⟩
def Bs(i:Int)(t:Tok):ui (.inl i) (.int i t)=true:=by simp[ui,Value.isInt]
def Bq(x:Str)(t:Tok):ui (.inr x) (.str x t)=true:=by simp[ui,Value.isStrOf]
def MC(a b:Int):decide ((ZG a:Key)=ZG b)=(a==b):=by
 by_cases e:a=b
 .subst e;simp
 .have h:¬ (ZG a:Key)=ZG b:=λq=>e (Sum.inl.inj q);rw[decide_eq_false h];exact(beq_eq_false_iff_ne.mpr e).symm
def JP(a b:Str):decide ((ab9 a:Key)=ab9 b)=decide (a=b):=by
 by_cases e:a=b
 .subst e;simp
 .have h:¬ (ab9 a:Key)=ab9 b:=λq=>e (Sum.inr.inj q);rw[decide_eq_false h,decide_eq_false e]
def K6(a:Int)(b:Str):decide ((ZG a:Key)=ab9 b)=false:=decide_eq_false (λq=>nomatch q)
def Mw(a:Str)(b:Int):decide ((ab9 a:Key)=ZG b)=false:=decide_eq_false (λq=>nomatch q)
def cG(prog:Program)(w:World):PySem.KeyKind prog w Key where
 is:=ui
 hash:=OS w
 inj:=λv a b ha hb=>by
  rcases cH ha with ⟨i,t,rfl,rfl⟩|⟨x,t,rfl,rfl⟩
  .rcases cH hb with ⟨j,u,rfl,e⟩|⟨y,u,rfl,e⟩
   .injection e with e1 _;rw[e1]
   .exact nomatch e
  .rcases cH hb with ⟨j,u,rfl,e⟩|⟨y,u,rfl,e⟩
   .exact nomatch e
   .injection e with e1 _;rw[e1]
 byValue:=λk v h=>by
  rcases cH h with ⟨i,t,rfl,rfl⟩|⟨x,t,rfl,rfl⟩<;>rfl
 pyHash:=λhv h=>by
  rcases cH hv with ⟨i,t,rfl,rfl⟩|⟨x,t,rfl,rfl⟩
  .exact wpAny_pyHash_int h
  .exact wpAny_pyHash_str h
 eqBool:=λhu hv h=>by
  rcases cH hu with ⟨i,t,rfl,rfl⟩|⟨x,t,rfl,rfl⟩
  .rcases cH hv with ⟨j,u,rfl,rfl⟩|⟨y,u,rfl,rfl⟩
   .rw[MC] at h;exact wpAny_eqBool_int h
   .rw[K6] at h;exact SeqAt.EqAt.int_str i t y u _ _ _ _ h
  .rcases cH hv with ⟨j,u,rfl,rfl⟩|⟨y,u,rfl,rfl⟩
   .rw[Mw] at h;exact SeqAt.EqAt.str_int x t j u _ _ _ _ h
   .rw[JP] at h;exact wpAny_eqBool_str h
 «strs»:=λk x t v h=>by
  rcases cH h with ⟨i,u,rfl,e⟩|⟨y,u,rfl,e⟩
  .exact nomatch e
  .injection e with e1 _
   subst e1;cases v<;>rfl
def yn(prog:Program)(w:World)(i:Int)(t:Tok):(cG prog w).is (.inl i) (.int i t)=true:=Bs i t
def w5(prog:Program)(w:World)(x:Str)(t:Tok):(cG prog w).is (.inr x) (.str x t)=true:=Bq x t
inductive V where
 | c6|bl (b:Bool)|int (i:Int)|str (x:Str)|byt (b:Array UInt8)|JC (b:UInt64)|ref (a:Addr)|ty (n:String)
 deriving DecidableEq
def RelV:V->Value->Prop
 | .c6,u=>u=WK
 | .bl b,u=>u=Yk b
 | .int i,u=>∃t,u=aaD i t
 | .str x,u=>∃t,u=aaE x t
 | .byt b,u=>∃t,u=Value.bytes b t
 | .JC b,u=>∃t,u=abW b t
 | .ref a,u=>u=V4 a
 |.ty n,u=>u=Xp n
abbrev Vals:List V->List Value->Prop:=Paired RelV
theorem Vals.length{xs:List V}{us:List Value}(r:Vals xs us):xs.length=us.length:=Paired.length r
theorem Vals.get:∀{xs:List V}{us:List Value}{i:Nat}{x:V},Vals xs us->xs[i]?=some x->∃u,us[i]?=some u/\RelV x u
 | _,_,_,_,.nil,e=>by simp at e
 | _,_,0,_,.cons r _,e=>by simp at e;subst e;exact⟨_,rfl,r⟩
 | _,_,i+1,x,.cons _ t,e=>by
  obtain⟨u,h1,h2⟩:=Vals.get (i:=i) (x:=x) t (by simpa using e);exact⟨u,by simpa using h1,h2⟩
theorem Vals.set{x:V}{u:Value}(r:RelV x u):∀{xs:List V}{us:List Value}(i:Nat),Vals xs us->Vals (xs.set i x) (us.set i u)
 | _,_,_,.nil=>.nil
 | _,_,0,.cons _ t=>.cons r t
 |_,_,i+1,.cons q t=>.cons q (Vals.set r i t)
theorem Vals.append:∀{xs ys:List V}{us ws:List Value},Vals xs us->Vals ys ws->Vals (xs++ys) (us++ws)
 | _,_,_,_,.nil,s=>s
 |_,_,_,_,.cons r t,s=>.cons r (Vals.append t s)
theorem Vals.take:∀{xs:List V}{us:List Value}(n:Nat),Vals xs us->Vals (xs.take n) (us.take n)
 | _,_,0,_=>.nil
 | _,_,_+1,.nil=>.nil
 |_,_,n+1,.cons r t=>.cons r (Vals.take n t)
theorem Vals.drop:∀{xs:List V}{us:List Value}(n:Nat),Vals xs us->Vals (xs.drop n) (us.drop n)
 | _,_,0,r=>r
 | _,_,_+1,.nil=>.nil
 |_,_,n+1,.cons _ t=>Vals.drop n t
def k6:Option V->Option Value->Prop
 | some v,some u=>RelV v u
 | none,none=>True
 |_,_=>False
def KV{κ:Type}:List (κ×V)->List (κ×Value)->Prop:=Paired λ(p:κ×V) (q:κ×Value)=>p.1=q.1/\RelV p.2 q.2
def kV:Key->V
 | .inl i=>.int i
 |.inr x=>.str x
inductive HO where
 | lst (xs:List V)
 | tup (xs:List V)
 | dK (Q9:List (Key×V))|dT (Q9:List (List Key×V))
 | set (S:Int->Bool) (n:Nat)
 | ins (C dx:Addr) (fs:List (Str×V))
 | own (x:Addr)
 | xd (fs:List (Str×V))
 | met (f x:Addr)
 | jJ (lo hi:Int)
 | kJ (o:Obj) (u:HO)
 | Jo (ps:Array Value)
 |ext (φ:Heap->Prop)
abbrev Hp:=Addr->Option HO
def upd(H:Hp)(a:Addr)(o:HO):Hp:=λb=>if b=a then some o else H b
variable{o:HO}{a:Addr}{H:Hp}
def ay:upd H a o a=some o:=by unfold upd;rw[if_pos rfl]
variable{b:Addr}
def au(h:b≠a):upd H a o b=H b:=by unfold upd;rw[if_neg h]
def AD{u:HO}:upd (upd H a o) a u=upd H a u:=by
 funext b;unfold upd;split<;>rfl
def Es{u:HO}(h:H a=some o)(h':H b=some u)(d:o≠u):a≠b:=by
 intro e;subst e;rw[h] at h';exact d (V9 h')
def bW(h:H a=some o)(h':H b=none):a≠b:=by
 intro e;subst e;rw[h] at h';cases h'
section
variable(P:Program)(w:World)
def bD(H:Hp)(h:Heap)(a:Addr):HO->Prop
 | .lst xs=>xs.length<=sizeLine/\∃(Rb:List Value)(n:Nat),Vals xs Rb/\h.get? a=some { cls:=.type "list",data:=.seq Rb.toArray n }
 | .tup xs=>xs.length<=sizeLine/\∃Rb:List Value,Vals xs Rb/\IsTup h a Rb.toArray
 | .dK Q9=>Q9.length<=sizeLine/\(a==sysModules)=false/\∃vs,KV Q9 vs/\h.DictOf (cG P w) a vs
 | .dT Q9=>Q9.length<=sizeLine/\(a==sysModules)=false/\∃xs:List (List Key×Addr×Value),
   Paired (λ(p:List Key×V) (q:List Key×Addr×Value)=>p.1=q.1/\H q.2.1=some (.tup (p.1.map kV))/\RelV p.2 q.2.2) Q9 xs ∧
   ∃o es ep,h.get? a=some o/\o.ExactDict/\o.data=.dict es ep/\es.toList=xs.map (entryOfKey (tupleKind (cG P w)))/\(xs.map (·.1)).Nodup
 | .set S n=>h.SetOf (intKind P w) a S n
 | .ins C dx fs=>H dx=some (.own a)/\fs.length<=1000/\dx≠a/\h.get? a=some (Yl C dx) ∧
   ∃mA,h.Ns1 dx mA/\(∀f,k6 (fs.lookup f) (mA f))/\acA mA (fs.map (·.1))
 | .own _=>∃o,h.get? a=some o
 | .xd fs=>∃mA,h.Ns1 a mA/\∀f,k6 (fs.lookup f) (mA f)
 | .jJ lo hi=>∃t u v,h.get? a=some { cls:=.type "range",data:=.fields #[.int lo t,.int hi u,.int 1 v] }
 | .kJ o u=>h.get? a=some o/\bD H h a u
 | .Jo ps=>h.get? a=some { cls:=.none,data:=.fields ps }
 | .met f x=>h.get? a=some (aaY (.ref f) (.ref x))
 |.ext φ=>φ h/\(∃o,h.get? a=some o)/\∀h1 h2:Heap,φ h1->(∀o,h1.get? a=some o->h2.get? a=some o)->φ h2
def lR(H:Hp)(h:Heap):Prop:=∀a o,H a=some o->bD P w H h a o
end
variable{h h':Heap}{H':Hp}{w:World}{P:Program}
theorem bD.lt(x:bD P w H h a o):a<h.objs.size:=by
 cases o with
 | lst xs=>obtain⟨_,_,_,_,e⟩:=x;exact V3 e
 | tup xs=>obtain⟨_,_,_,p⟩:=x;exact p.lt
 | dK Q9=>obtain⟨_,_,_,_,o,_,_,e,_⟩:=x;exact V3 e
 | dT Q9=>obtain⟨_,_,_,_,o,_,_,e,_⟩:=x;exact V3 e
 | set S n=>obtain⟨o,_,_,_,e,_⟩:=x;exact V3 e
 | ins C dx fs=>obtain⟨_,_,_,e,_⟩:=x;exact V3 e
 | own y=>obtain⟨_,e⟩:=x;exact V3 e
 | xd fs=>obtain⟨_,⟨_,_,_,e,_⟩,_⟩:=x;exact V3 e
 | jJ lo hi=>obtain⟨_,_,_,e⟩:=x;exact V3 e
 | kJ ob u=>obtain⟨e,_⟩:=x;exact V3 e
 | Jo ps=>exact V3 (show h.get? a=some _ from x)
 | met f y=>exact V3 (show h.get? a=some _ from x)
 |ext φ=>obtain⟨_,⟨_,e⟩,_⟩:=x;exact V3 e
theorem Paired.Lq{α β:Type}{F G:α->β->Prop}:∀{l₁:List α}{l₂:List β},Paired F l₁ l₂->(∀a b,F a b->G a b)->Paired G l₁ l₂
 | _,_,.nil,_=>.nil
 |_,_,.cons r t,f=>.cons (f _ _ r) (Paired.Lq t f)
def bD.n5(x:bD P w H h a o)(k:∀b u,(b=a\/H b=some (.own a))->h.get? b=some u->h'.get? b=some u)(ho:∀b,H b=some (.own a)->H' b=some (.own a))(ht:∀b xs,H b=some (.tup xs)->H' b=some (.tup xs)):bD P w H' h' a o:=by
 induction o with
 | lst xs=>obtain⟨z,Rb,n,r,e⟩:=x;exact⟨z,Rb,n,r,k _ _ (.inl rfl) e⟩
 | tup xs=>obtain⟨z,Rb,r,ob,e,c⟩:=x;exact⟨z,Rb,r,ob,k _ _ (.inl rfl) e,c⟩
 | dK Q9=>obtain⟨z,y,vs,r,ob,es,ep,e,c⟩:=x;exact⟨z,y,vs,r,ob,es,ep,k _ _ (.inl rfl) e,c⟩
 | dT Q9 =>
  obtain⟨z,y,xs,r,ob,es,ep,e,c⟩:=x;exact⟨z,y,xs,Paired.Lq r λp q z=>⟨z.1,ht _ _ z.2.1,z.2.2⟩,ob,es,ep,k _ _ (.inl rfl) e,c⟩
 | set S n=>obtain⟨ob,es,ep,t,e,c⟩:=x;exact⟨ob,es,ep,t,k _ _ (.inl rfl) e,c⟩
 | ins C dx fs =>
  obtain⟨d,z,ne,e,mA,⟨od,es,ep,e2,c⟩,r⟩:=x;exact⟨ho _ d,z,ne,k _ _ (.inl rfl) e,mA,⟨od,es,ep,k _ _ (.inr d) e2,c⟩,r⟩
 | own y=>obtain⟨ob,e⟩:=x;exact⟨ob,k _ _ (.inl rfl) e⟩
 | xd fs=>obtain⟨mA,⟨od,es,ep,e,c⟩,r⟩:=x;exact⟨mA,⟨od,es,ep,k _ _ (.inl rfl) e,c⟩,r⟩
 | jJ lo hi=>obtain⟨t,u,v,e⟩:=x;exact⟨t,u,v,k _ _ (.inl rfl) e⟩
 | kJ ob u ih=>obtain⟨e,q⟩:=x;exact⟨k _ _ (.inl rfl) e,ih q⟩
 | Jo ps =>
  have e:h.get? a=some { cls:=.none,data:=.fields ps }:=x;show h'.get? a=some { cls:=.none,data:=.fields ps };exact k a _ (.inl rfl) e
 | met f y =>
  have e:h.get? a=some (aaY (.ref f) (.ref y)):=x;show h'.get? a=some (aaY (.ref f) (.ref y));exact k a _ (.inl rfl) e
 |ext φ=>obtain⟨p,⟨o,e⟩,st⟩:=x;exact⟨st _ _ p λo q=>k _ _ (.inl rfl) q,⟨o,k _ _ (.inl rfl) e⟩,st⟩
theorem lR.lt(x:lR P w H h)(e:H a=some o):a<h.objs.size:=(x a o e).lt
def lR.fresh(x:lR P w H h)(e:h.objs.size<=a):H a=none:=by
 cases q:H a with
 | none=>rfl
 |some u=>exact absurd (V8 (x.lt q) e) (Yt _)
def lR.kept(x:lR P w H h)(k:∀b u,h.get? b=some u->h'.get? b=some u):lR P w H h':=λa o e =>
 (x a o e).n5 (λb u _ q=>k b u q) (λ_ q=>q) λ_ _ q=>q
def lR.laid(x:lR P w H h)(k:∀b u,h.get? b=some u->h'.get? b=some u)(hp:h.objs.size<=a)(new:bD P w (upd H a o) h' a o):lR P w (upd H a o) h':=λb u e=>by
 have hn:=x.fresh hp
 by_cases hb:b=a
 .subst hb;rw[ay] at e;cases e;exact new
 .rw[au hb] at e;exact(x b u e).n5 (λc v _ q=>k c v q) (λc q=>by rwa[au (bW q hn)]) λc xs q=>by rwa[au (bW q hn)]
def Rd(H:Hp)(a:Addr)(u:HO):Prop:=H a=some u\/∃o,H a=some (.kJ o u)
def Rd.ok{u:HO}(r:Rd H a u)(x:lR P w H h):bD P w H h a u:=by
 rcases r with r|⟨o,r⟩
 .exact x a u r
 .obtain⟨_,q⟩:=x a _ r;exact q
def NL:Option HO->Prop
 | some (.lst _)=>True
 | some (.dK _)=>True
 | some (.dT _)=>True
 | some (.set _ _)=>True
 | some (.ins _ _ _)=>True
 | some (.ext _)=>True
 |_=>False
section
variable{x e:Addr}{o':HO}
def lR.write(ok:lR P w H h)(mu:NL (H x))(he:e=x\/H e=some (.own x))(k:∀b u,b≠e->h.get? b=some u->h'.get? b=some u)(Vb:∃u,h'.get? e=some u)(new:bD P w (upd H x o') h' x o'):lR P w (upd H x o') h':=λb u q=>by
 have VL:∀c y,H c=some (.own y)->c≠x:=λc y r z=>by subst z;rwa[r] at mu
 have ntup:∀c xs,H c=some (.tup xs)->c≠x:=λc xs r z=>by subst z;rwa[r] at mu
 by_cases hb:b=x
 .subst hb;rw[ay] at q;cases q;exact new
 .rw[au hb] at q
  by_cases TQ:b=e
  .have q':H b=some (.own x):=by
    rcases he with z|z
    .exact absurd (TQ.trans z) hb
    .rw[TQ];exact z
   rw[q] at q';cases q';obtain⟨v,hv⟩:=Vb;exact⟨v,by rwa[TQ]⟩
  .refine(ok b u q).n5 (λc v hc r=>k c v ?_ r) (λc r=>by rwa[au (VL c b r)]) λc xs r=>by rwa[au (ntup c xs r)]
   rcases hc with rfl|hc
   .exact TQ
   .rintro rfl;rcases he with z|z
    .exact VL c b hc z
    .rw[hc] at z;cases z;exact hb rfl
end
structure Un (fs ex:List Addr) (H H':Hp) (h h':Heap):Prop where
 keep:∀b o,h.get? b=some o->H b=none->b ∉ fs->b ∉ ex->h'.get? b=some o
 slot:∀b o,h.get? b=some o->H b=none->b∈fs->b ∉ ex->∃sl,h'.get? b=some { o with slots:=sl }
 free:∀b o,h.get? b=some o->H b=none->b ∉ ex->H' b=none
 there:∀b o,h.get? b=some o->b ∉ ex->∃o',h'.get? b=some o'
 qQ:∀b xs,H b=some (.tup xs)->H' b=some (.tup xs)
 mB:∀b o u,H b=some (.kJ o u)->H' b=some (.kJ o u)
 rA:∀b ps,H b=some (.Jo ps)->∃more,H' b=some (.Jo (ps++more))
section
variable{fs fs' ex ex':List Addr}{H1 H2:Hp}{h1 h2:Heap}{x e:Addr}
def Un.any(u:Un fs ex H H1 h h1){ob:Obj}(q:h.get? b=some ob)(n:H b=none)(hx:b ∉ ex):∃sl,h1.get? b=some { ob with slots:=sl }:=by
 by_cases hb:b∈fs
 .exact u.slot b ob q n hb hx
 .exact⟨ob.slots,u.keep b ob q n hb hx⟩
def Un.kept(k:∀b u,h.get? b=some u->h'.get? b=some u):Un fs ex H H h h' :=
 ⟨λb ob q _ _ _=>k b ob q,λb ob q _ _ _=>⟨ob.slots,k b ob q⟩,λ_ _ _ n _=>n,λb ob q _=>⟨ob,k b ob q⟩,λ_ _ q=>q,λ_ _ _ q=>q,λ_ ps q=>⟨#[],by rw[q];simp⟩⟩
def Un.refl:Un fs ex H H h h:=Un.kept λ_ _ q=>q
def Un.laid(k:∀b u,h.get? b=some u->h'.get? b=some u)(hp:h.objs.size<=a)(hn:H a=none):Un fs ex H (upd H a o) h h' where
 keep:=λb u q _ _ _=>k b u q
 slot:=λb u q _ _ _=>⟨u.slots,k b u q⟩
 free:=λb u q n _=>by rwa[au (V_ (V8 (V3 q) hp))]
 there:=λb u q _=>⟨u,k b u q⟩
 qQ:=λb xs q=>by rwa[au (bW q hn)]
 mB:=λb u xs q=>by rwa[au (bW q hn)]
 rA:=λb ps q=>⟨#[],by rw[au (bW q hn),q];simp⟩
def Un.write(mu:NL (H x))(he:e=x\/H e=some (.own x))(k:∀b u,b≠e->h.get? b=some u->h'.get? b=some u)(Vb:∃u,h'.get? e=some u):Un fs ex H (upd H x o) h h':=by
 have hx:∀b,H b=none->b≠x:=λb n z=>by subst z;rwa[n] at mu
 have hb:∀b,H b=none->b≠e:=λb n z=>by
  subst z;rcases he with r|r
  .exact hx b n r
  .rw[n] at r;cases r
 have hm:∀b u,H b=some u->¬ NL (some u)->b≠x:=λb u q nm z=>by subst z;rw[q] at mu;exact nm mu
 refine⟨λb u q n _ _=>k b u (hb b n) q,λb u q n _ _=>⟨u.slots,k b u (hb b n) q⟩,λb u q n _=>by rwa[au (hx b n)],λb u q _=>?_,
  λb xs q=>by rwa[au (hm b _ q λz=>z)],λb u xs q=>by rwa[au (hm b _ q λz=>z)],λb ps q=>⟨#[],by rw[au (hm b _ q λz=>z),q];simp⟩⟩
 by_cases TQ:b=e
 .subst TQ;exact Vb
 .exact⟨u,k b u TQ q⟩
end
def Oo(h:Heap)(H:Hp):List Addr:=(V6 h.objs.size).filter λa=>(H a).isSome
def u_(h:Heap)(H:Hp):Heap:=PySem.W.hideAll h (Oo h H)
def BE(h:Heap)(H:Hp):(u_ h H).objs.size=h.objs.size:=PySem.W.hideAll_size _ _
def Fj{o:Obj}(e:h.get? b=some o)(n:H b=none):(u_ h H).get? b=some o :=
 PySem.W.hideAll_get _ e λhm=>by
  have q:(H b).isSome=true:=(YG.mp hm).2;rw[n] at q;simp at q
def Hf{o:Obj}(e:(u_ h H).get? b=some o):h.get? b=some o/\H b=none:=by
 have e':h.get? b=some o:=PySem.W.of_hideAll (Oo h H) e;refine⟨e',?_⟩;cases q:H b with
 | none=>rfl
 | some x =>
  have hm:b∈Oo h H:=YG.mpr ⟨W5.mpr (V3 e'),by simp[q]⟩;have z:(u_ h H).get? b=none:=PySem.W.hideAll_none (Oo h H) hm;rw[z] at e;cases e
def Gp(g h:Heap)(L:Addr):List (Addr×Obj):=(V6 h.objs.size).filterMap λa=>if a=L\/(g.get? a).isSome=true then none else (h.get? a).map λo=>(a,o)
def rest(g h:Heap)(L d:Addr):List (Addr×Obj):=(Gp g h L).filter λp=>decide (p.1≠d)
structure Mod (K:VU) (mg:Str->Option Value) (base:Heap):Prop where
 GJ:K.In base
 glob:base.Ns mainGlobals mg
 blt:∃mb,base.Ns builtinsNs mb/\∀x:Str,x ≠ "__name__" -> mb x=bootBuiltins x
 nolimit:base.NoLimit
structure Cx where
 prog:Program
 w:World
 K:VU
 mg:Str->Option Value
 base:Heap
 A:Around
 N:List Str
 s₀:Shared
 H₀:Hp
 env:Env
 outer:List Env
 stack:List Env
 ex:List Addr
 fn:Str->Bool
 calm:Bool
 pn:List (Addr×Obj)
 xe:Value->Shared->Prop
def yG(l:List Env):List Addr:=l.filterMap (·.frame)
abbrev Cx.fs(X:Cx):List Addr:=yG X.outer
def CA(sc:Scope)(x:Str):Prop:=sc.names.lookup x=some .local\/sc.names.lookup x=some .cell\/sc.names.lookup x=some .free
def Loc(sc:Scope)(x:Str):Prop:=sc.names.lookup x=some .local\/sc.names.lookup x=some .cell
def Look(env:Env)(h:Heap)(m:Str->Option Value)(x:Str)(u:Value):Prop :=
 (env.kindOf x=some .local/\m x=some u)\/((env.kindOf x=some .cell\/env.kindOf x=some .free)/\∃c,env.cells.lookup x=some c/\h.IsCell c (some u))
structure Cx.Ok (X:Cx):Prop where
 mod:Mod X.K X.mg X.base
 kind:X.env.scope.kind=.function
 glob:X.env.globals=mainGlobals
 blt:X.env.builtins=builtinsNs
 above:X.s₀.heap.objs.size<=X.env.locals
 inj:∀x y c,X.env.cells.lookup x=some c->X.env.cells.lookup y=some c->x=y
 has:∀x,(X.env.kindOf x=some .cell\/X.env.kindOf x=some .free)->∃c,X.env.cells.lookup x=some c
 IW:∀x c,X.fn x=true->X.env.cells.lookup x=some c->X.s₀.heap.objs.size<=c
 hd:X.calm=true->X.A.handled=none
 frames:X.A.frames=some X.stack
 KR:X.stack=X.outer\/(X.stack=X.env::X.outer/\X.env.frame=some X.env.locals)
 MQ:∀b∈X.ex,b≠X.env.locals/\∀x c,X.env.cells.lookup x=some c->c≠b
 bs:∀b o,X.base.get? b=some o->X.s₀.heap.get? b=some o/\X.H₀ b=none
 Ex:X.base.objs.size<=X.s₀.heap.objs.size
 vO:∀b o,X.base.get? b=some o->b ∉ X.ex
 yp:∀b∈X.ex,b ∉ X.fs
 mw:X.s₀.heap.FunFrames X.base X.outer
 Ge:∀b∈X.fs,X.H₀ b=none
structure Inv (X:Cx) (Q6:List (Addr×Obj)) (σ:List (Option V)) (H:Hp) (s:Shared):Prop where
 ok:X.Ok
 os:s.os=X.s₀.os
 bare:AllBare s.gens
 base:Un X.fs X.ex X.H₀ H X.s₀.heap s.heap
 loc:∃m,s.heap.Ns X.env.locals m/\∀(i:Nat)(x:Str)(v:V),X.N[i]?=some x->σ[i]?=some (some v)->CA X.env.scope x->∃u,RelV v u/\Look X.env s.heap m x u
 cell:∀x c,X.env.cells.lookup x=some c->∃v,s.heap.IsCell c v
 free:H X.env.locals=none
 gU:∀x c,X.env.cells.lookup x=some c->H c=none
 pin:∀p∈X.pn++Q6,s.heap.get? p.1=some p.2/\H p.1=none/\p.1≠X.env.locals/\p.1 ∉ X.fs/\∀v,p.2.data≠.cell v
 bA:lR X.prog X.w H s.heap
 len:σ.length=X.N.length
variable{s:Shared}{Q6:List (Addr×Obj)}{X:Cx}
variable{ch:List Addr}{d':Drawn}{t':Nat}{g':Array GenState}
variable{it:Addr}
variable{x:Str}{i:Nat}{N:List Str}
variable{u:Value}{v:V}{E:Value->Shared->Prop}{A:Around}
section
variable{σ:List (Option V)}
def Cx.Ok.PB(ok:X.Ok){o:Obj}(e:X.base.get? b=some o):b ∉ X.fs:=λhb=>by
 have:=(ok.mw.mem hb).1;rw[e] at this;cases this
theorem Inv.bs(I:Inv X Q6 σ H s):∀b o,X.base.get? b=some o->s.heap.get? b=some o/\H b=none:=λb o e =>
 ⟨I.base.keep b o (I.ok.bs b o e).1 (I.ok.bs b o e).2 (I.ok.PB e) (I.ok.vO b o e),I.base.free b o (I.ok.bs b o e).1 (I.ok.bs b o e).2 (I.ok.vO b o e)⟩
def Inv.bk(I:Inv X Q6 σ H s):∀b o,X.base.get? b=some o->s.heap.get? b=some o:=λb o e=>(I.bs b o e).1
theorem Inv.mod(I:Inv X Q6 σ H s):Mod X.K X.mg X.base:=I.ok.mod
def Inv.ku(I:Inv X Q6 σ H s):X.K.In s.heap:=I.ok.mod.GJ.keeps I.bk
theorem Inv.lt(I:Inv X Q6 σ H s):X.env.locals<s.heap.objs.size:=let ⟨_,hn,_⟩:=I.loc;hn.lt
def Inv.sz(I:Inv X Q6 σ H s):X.s₀.heap.objs.size<=s.heap.objs.size:=WE I.ok.above (Y5 I.lt)
def Inv.OM(I:Inv X Q6 σ H s)(h:s.heap.objs.size<=a):a ∉ X.fs:=λhb=>by
 obtain⟨_,o,ho,_⟩:=I.ok.mw.mem hb;exact absurd (V8 (V3 ho) (WE I.sz h)) (Yt _)
def Inv.Ew(I:Inv X Q6 σ H s):∀x c,X.env.cells.lookup x=some c->c≠X.env.locals:=λx c e z=>by
 obtain⟨v,o,ho,hd⟩:=I.cell x c e;obtain⟨m,⟨o',es,ep,S6,UE,_⟩,_⟩:=I.loc;rw[z,S6] at ho;cases ho;rw[UE] at hd;cases hd
theorem Inv.mw(I:Inv X Q6 σ H s):s.heap.FunFrames X.base X.outer:=by
 have all:∀(l:List Env),(∀b∈yG l,b∈X.fs)->X.s₀.heap.FunFrames X.base l->s.heap.FunFrames X.base l:=by
  intro l
  induction l with
  | nil=>intro _ _;trivial
  | cons env r ih =>
   intro hs hl;obtain⟨hk,⟨L,o,hf,hn,ho,hd⟩,hr⟩:=hl;have hL:L∈X.fs:=hs L (by unfold yG;rw[aam,hf];exact V7);obtain⟨sl,e⟩:=I.base.slot L o ho (I.ok.Ge L hL) hL λz=>I.ok.yp L z hL;exact⟨hk,⟨L,_,hf,hn,e,hd⟩,ih (λb hb=>hs b (by unfold yG;rw[aam,hf];exact V5 _ hb)) hr⟩
 exact all X.outer (λ_ hb=>hb) I.ok.mw
theorem Inv.stack(I:Inv X Q6 σ H s):s.heap.FunFrames X.base X.stack:=by
 rcases I.ok.KR with e|⟨e,hf⟩
 .rw[e];exact I.mw
 .rw[e];obtain⟨m,hn,_⟩:=I.loc;refine .cons (by rw[I.ok.kind];decide) hf hn ?_ I.mw;exact Za (WE I.ok.Ex I.ok.above)
def Inv.vo(I:Inv X Q6 σ H s):∀b∈yG X.stack,b∈X.env.locals::X.fs:=λb hb=>by
 rcases I.ok.KR with e|⟨e,hf⟩
 .rw[e] at hb;exact V5 _ hb
 .rw[e] at hb;unfold yG at hb;rwa[aam,hf] at hb
def Inv.wH(I:Inv X Q6 σ H s):∀b∈yG X.stack,H b=none:=λb hb=>by
 rcases Wd.mp (I.vo b hb) with e|hb
 .rw[e];exact I.free
 .obtain⟨_,o,ho,_⟩:=I.ok.mw.mem hb;exact I.base.free b o ho (I.ok.Ge b hb) λz=>I.ok.yp b z hb
def Inv.step(I:Inv X Q6 σ H s)(Tf:∀b∈ch,(b∈X.ex\/X.s₀.heap.objs.size<=b)/\b≠X.env.locals/\(∀x c,X.env.cells.lookup x=some c->c≠b)/\∀p∈X.pn++Q6,p.1≠b)(keep:∀b o,b≠X.env.locals->b ∉ X.fs->b ∉ ch->s.heap.get? b=some o->H b=none->h'.get? b=some o)(slot:∀b o,b≠X.env.locals->b∈X.fs->b ∉ ch->s.heap.get? b=some o->H b=none->∃sl,h'.get? b=some { o with slots:=sl })(free:∀b o,b ∉ ch->s.heap.get? b=some o->H b=none->H' b=none)(there:∀b o,b ∉ ch->s.heap.get? b=some o->∃o',h'.get? b=some o')(qQ:∀b xs,H b=some (.tup xs)->H' b=some (.tup xs))(mB:∀b o u,H b=some (.kJ o u)->H' b=some (.kJ o u))(rA:∀b ps,H b=some (.Jo ps)->∃more,H' b=some (.Jo (ps++more)))(ns:∀m,s.heap.Ns X.env.locals m->h'.Ns X.env.locals m)(bA:lR X.prog X.w H' h')(hg:AllBare g'):Inv X Q6 σ H' { s with heap:=h',gens:=g',drawn:=d',toks:=t' }:=by
 have neL:∀b o,X.s₀.heap.get? b=some o->b≠X.env.locals:=λb o e=>V_ (V8 (V3 e) I.ok.above);have neC:∀b o,X.s₀.heap.get? b=some o->b ∉ X.ex->b ∉ ch:=λb o e hx hb=>by
  rcases(Tf b hb).1 with z|z
  .exact hx z
  .exact absurd (V8 (V3 e) z) (Yt _)
 have cellK:∀x c,X.env.cells.lookup x=some c->∀v,s.heap.IsCell c v->h'.IsCell c v:=λx c e v ⟨o,ho,hd⟩=>by
  have VJ:c ∉ ch:=λz=>(Tf c z).2.2.1 x c e rfl
  by_cases hc:c∈X.fs
  .obtain⟨sl,q⟩:=slot c o (I.Ew x c e) hc VJ ho (I.gU x c e);exact⟨_,q,hd⟩
  .exact⟨o,keep c o (I.Ew x c e) hc VJ ho (I.gU x c e),hd⟩
 refine⟨I.ok,I.os,hg,⟨λb o e n hb hx=>?_,λb o e n hb hx=>?_,λb o e n hx=>?_,λb o e hx=>?_,λb xs e=>qQ b xs (I.base.qQ b xs e),λb o xs e=>mB b o xs (I.base.mB b o xs e),λb ps e=>?_⟩,?_,λx c e=>?_,?_,λx c e=>?_,λp hp=>?_,bA,I.len⟩
 .exact keep b o (neL b o e) hb (neC b o e hx) (I.base.keep b o e n hb hx) (I.base.free b o e n hx)
 .obtain⟨sl,e1⟩:=I.base.slot b o e n hb hx;obtain⟨sl',e2⟩:=slot b _ (neL b o e) hb (neC b o e hx) e1 (I.base.free b o e n hx);exact⟨sl',e2⟩
 .obtain⟨o',e1⟩:=I.base.there b o e hx;exact free b o' (neC b o e hx) e1 (I.base.free b o e n hx)
 .obtain⟨o',e1⟩:=I.base.there b o e hx;exact there b o' (neC b o e hx) e1
 .obtain⟨m1,e1⟩:=I.base.rA b ps e;obtain⟨m2,e2⟩:=rA b _ e1;exact⟨m1++m2,by rw[e2,Array.append_assoc]⟩
 .obtain⟨m,hn,hl⟩:=I.loc;refine⟨m,ns m hn,λi x v e1 e2 e3=>?_⟩;obtain⟨u,r,l⟩:=hl i x v e1 e2 e3;refine⟨u,r,?_⟩;rcases l with l|⟨k,c,e,z⟩
  .exact .inl l
  .exact .inr ⟨k,c,e,cellK x c e _ z⟩
 .obtain⟨v,z⟩:=I.cell x c e;exact⟨v,cellK x c e v z⟩
 .obtain⟨m,⟨o,_,_,ho,_⟩,_⟩:=I.loc;exact free _ o (λz=>(Tf _ z).2.1 rfl) ho I.free
 .obtain⟨v,o,ho,hd⟩:=I.cell x c e;exact free c o (λz=>(Tf c z).2.2.1 x c e rfl) ho (I.gU x c e)
 .obtain⟨e,n,ne,nf,d⟩:=I.pin p hp;have VJ:p.1 ∉ ch:=λz=>(Tf p.1 z).2.2.2 p hp rfl;exact⟨keep p.1 p.2 ne nf VJ e n,free p.1 p.2 VJ e n,ne,nf,d⟩
def Inv.un(I:Inv X Q6 σ H s)(u:Un X.fs [] H H' s.heap h')(bA:lR X.prog X.w H' h'):Inv X Q6 σ H' { s with heap:=h',toks:=t' }:=by
 obtain⟨m,⟨o,es,ep,ho,r⟩,_⟩:=id I.loc;obtain⟨sl,hL⟩:=u.any ho I.free ↑13;exact I.step (g':=s.gens) (d':=s.drawn) (ch:=[]) (λ_ z=>nomatch z) (λb o _ hb _ e n=>u.keep b o e n hb ↑13) (λb o _ hb _ e n=>u.slot b o e n hb ↑13) (λb o _ e n=>u.free b o e n ↑13) (λb o _ e=>u.there b o e ↑13) u.qQ u.mB u.rA (λm' hm=>by
  obtain⟨o',Va,Vm,S6,r'⟩:=hm;rw[ho] at S6;cases S6;exact⟨_,Va,Vm,hL,r'⟩) bA I.bare
def Inv.call(I:Inv X Q6 σ H s)(u:Un (yG X.stack) ch H H' s.heap h')(bA:lR X.prog X.w H' h')(hg:AllBare g')(Tf:∀b∈ch,(b∈X.ex\/X.s₀.heap.objs.size<=b)/\b≠X.env.locals/\(∀x c,X.env.cells.lookup x=some c->c≠b)/\∀p∈X.pn++Q6,p.1≠b):Inv X Q6 σ H' { s with heap:=h',gens:=g',drawn:=d',toks:=t' }:=by
 obtain⟨m,⟨o,es,ep,ho,r⟩,_⟩:=id I.loc;obtain⟨sl,hL⟩:=u.any ho I.free λz=>(Tf _ z).2.1 rfl;exact I.step (ch:=ch) Tf (λb o hL hb hc e n=>u.keep b o e n (λz=>(Wd.mp (I.vo b z)).elim hL hb) hc) (λb o _ _ hc e n=>u.any e n hc) (λb o hc e n=>u.free b o e n hc) (λb o hc e=>u.there b o e hc) u.qQ u.mB u.rA (λm' hm=>by
  obtain⟨o',Va,Vm,S6,r'⟩:=hm;rw[ho] at S6;cases S6;exact⟨_,Va,Vm,hL,r'⟩) bA hg
def Inv.turned(I:Inv X Q6 σ H s)(k:∀b o,b≠it->s.heap.get? b=some o->h'.get? b=some o)(hn:H it=none)(hL:it≠X.env.locals)(h1:it∈X.ex\/X.s₀.heap.objs.size<=it)(h2:∀x c,X.env.cells.lookup x=some c->c≠it)(h3:∀p∈X.pn++Q6,p.1≠it):Inv X Q6 σ H { s with heap:=h',toks:=t' }:=by
 have nit:∀b u,H b=some u->b≠it:=λb u e z=>by rw[z,hn] at e;cases e
 refine I.step (g':=s.gens) (d':=s.drawn) (ch:=[it]) (λb hb=>?_) (λb o _ _ hc e _=>k b o (λz=>hc (by simp[z])) e) (λb o _ _ hc e _=>⟨o.slots,k b o (λz=>hc (by simp[z])) e⟩) (λ_ _ _ _ n=>n)
  (λb o hc e=>⟨o,k b o (λz=>hc (by simp[z])) e⟩) (λ_ _ e=>e) (λ_ _ _ e=>e) (λb ps e=>⟨#[],by rw[e];simp⟩) (λm hm=>?_) (λb u e=>?_) I.bare
 .have e:b=it:=by simpa using hb
  subst e;exact⟨h1,hL,h2,h3⟩
 .obtain⟨o,es,ep,ho,r⟩:=hm;exact⟨o,es,ep,k _ o (Xs hL) ho,r⟩
 .refine(I.bA b u e).n5 (λc v hc q=>k c v ?_ q) (λ_ q=>q) λ_ _ q=>q;rcases hc with z|z
  .rw[z];exact nit b u e
  .exact nit c _ z
def Inv.tok(I:Inv X Q6 σ H s)(t:Nat):Inv X Q6 σ H { s with toks:=t }:=I.un (h':=s.heap) (t':=t) Un.refl I.bA
theorem Inv.kept{t':Nat}(I:Inv X Q6 σ H s)(k:∀b u,s.heap.get? b=some u->h'.get? b=some u):Inv X Q6 σ H { s with heap:=h',toks:=t' }:=I.un (Un.kept k) (I.bA.kept k)
theorem Inv.laid{a:Addr}{o:HO}{t':Nat}(I:Inv X Q6 σ H s)(k:∀b u,s.heap.get? b=some u->h'.get? b=some u)(hp:s.heap.objs.size<=a)(new:bD X.prog X.w (upd H a o) h' a o):Inv X Q6 σ (upd H a o) { s with heap:=h',toks:=t' }:=I.un (Un.laid k hp (I.bA.fresh hp)) (I.bA.laid k hp new)
theorem Inv.write{x e:Addr}{o:HO}{t':Nat}(I:Inv X Q6 σ H s)(mu:NL (H x))(he:e=x\/H e=some (.own x))(k:∀b u,b≠e->s.heap.get? b=some u->h'.get? b=some u)(Vb:∃u,h'.get? e=some u)(new:bD X.prog X.w (upd H x o) h' x o):Inv X Q6 σ (upd H x o) { s with heap:=h',toks:=t' }:=I.un (Un.write mu he k Vb) (I.bA.write mu he k Vb new)
def Inv.Ab{Th:List (Addr×Obj)}(I:Inv X Q6 σ H s)(h:∀p∈Th,s.heap.get? p.1=some p.2/\H p.1=none/\p.1≠X.env.locals/\p.1 ∉ X.fs/\∀v,p.2.data≠.cell v):Inv X Th σ H s :=
 ⟨I.ok,I.os,I.bare,I.base,I.loc,I.cell,I.free,I.gU,λp hp=>(Xk.mp hp).elim (λz=>I.pin p (XS _ z)) (h p),I.bA,I.len⟩
def sH(hN:N.Nodup){j:Nat}(a:N[i]?=some x)(b:N[j]?=some x):i=j:=by
 obtain⟨h1,e1⟩:=WB.mp a;obtain⟨h2,e2⟩:=WB.mp b;exact(List.getElem_inj hN).mp (e1.trans e2.symm)
def oV{M:Model}{Q:Unit->Shared->Prop}(I:Inv X Q6 σ H s)(hN:X.N.Nodup)(hi:X.N[i]?=some x)(hx:Loc X.env.scope x)(r:RelV v u)(h:∀s',Inv X Q6 (σ.set i (some v)) H s'->(∃a,YJ a s.heap s'.heap/\(a=X.env.locals\/X.env.cells.lookup x=some a))->Q () s')(hf:autoParam ↑1 aF._auto_1):wpAny M A (storeName X.env x u) Q E s:=by
 obtain⟨m,hn,hl⟩:=id I.loc;have hcls:(X.env.scope.kind==.class||(X.env.scope.kind==.module&&X.env.locals != X.env.globals))=false:=by rw[I.ok.kind];rfl
 have hiσ:i<σ.length:=by rw[I.len];exact(WB.mp hi).1
 have Ew:=I.Ew;have tracked:∀{a:Addr}{h':Heap},(∃o,s.heap.get? a=some o/\H a=none)->YJ a s.heap h'->lR X.prog X.w H h':=λ{a h'} ha hs b ob e=>by
  obtain⟨_,_,TH⟩:=ha;refine(I.bA b ob e).n5 (λc w' hc q=>(hs.2 c ?_).trans q) (λ_ q=>q) λ_ _ q=>q;rintro rfl;rcases hc with rfl|hc
  .rw[TH] at e;cases e
  .rw[TH] at hc;cases hc
 rcases hx with hk|hk
 .refine wpAny_storeName_local hk hn (λh' Vz hs=>?_) hcls;obtain⟨oL,_,_,hoL,_⟩:=id hn;refine h _ ⟨I.ok,I.os,I.bare,⟨λb o e n hb hx=>?_,λb o e n hb hx=>?_,I.base.free,λb o e hx=>?_,I.base.qQ,I.base.mB,I.base.rA⟩,⟨_,Vz,λj y v' e1 e2 e3=>?_⟩,λy c e=>?_,I.free,I.gU,λp hp=>?_,tracked ⟨oL,hoL,I.free⟩ hs,by simpa using I.len⟩ ⟨_,hs,.inl rfl⟩
  .exact(hs.2 b (V_ (V8 (V3 e) I.ok.above))).trans (I.base.keep b o e n hb hx)
  .obtain⟨sl,e1⟩:=I.base.slot b o e n hb hx;exact⟨sl,(hs.2 b (V_ (V8 (V3 e) I.ok.above))).trans e1⟩
  .obtain⟨o',e1⟩:=I.base.there b o e hx;exact⟨o',(hs.2 b (V_ (V8 (V3 e) I.ok.above))).trans e1⟩
  .by_cases hj:j=i
   .subst hj;rw[hi] at e1;cases e1;rw[abn hiσ] at e2;cases e2;exact⟨u,r,.inl ⟨hk,by simp⟩⟩
   .rw[Z8 (Xs hj)] at e2;obtain⟨u',r',q⟩:=hl j y v' e1 e2 e3;refine⟨u',r',?_⟩;rcases q with ⟨k,e⟩|⟨k,c,e,z⟩
    .refine .inl ⟨k,?_⟩;have:y≠x:=λe=>hj (sH hN e1 (e▸hi));simp[this,e]
    .exact .inr ⟨k,c,e,z.sameBut hs (Ew y c e)⟩
  .obtain⟨w',z⟩:=I.cell y c e;exact⟨w',z.sameBut hs (Ew y c e)⟩
  .obtain⟨e,n,ne,nf,d⟩:=I.pin p hp;exact⟨(hs.2 p.1 ne).trans e,n,ne,nf,d⟩
 .have hfn:X.fn x=true:=by
   rcases hf with z|z
   .exact z
   .rw[z] at hk;cases hk
  obtain⟨c,hc⟩:=I.ok.has x (.inl hk);obtain⟨w',z⟩:=I.cell x c hc;refine wpAny_storeName_cell I.ok.kind hk hc z (λh' UD hs=>?_);obtain⟨oc,hoc,hocd⟩:=id z;refine h { s with heap:=h' } ⟨I.ok,I.os,I.bare,⟨λb o e n hb hx=>?_,λb o e n hb hx=>?_,I.base.free,λb o e hx=>?_,I.base.qQ,I.base.mB,I.base.rA⟩,⟨m,hn.sameBut hs (Xs (Ew x c hc)),λj y v' e1 e2 e3=>?_⟩,λy c' e=>?_,I.free,I.gU,λp hp=>?_,tracked ⟨oc,hoc,I.gU x c hc⟩ hs,by simpa using I.len⟩ ⟨c,hs,.inr hc⟩
  .exact(hs.2 b (V_ (V8 (V3 e) (I.ok.IW x c hfn hc)))).trans (I.base.keep b o e n hb hx)
  .obtain⟨sl,e1⟩:=I.base.slot b o e n hb hx;exact⟨sl,(hs.2 b (V_ (V8 (V3 e) (I.ok.IW x c hfn hc)))).trans e1⟩
  .obtain⟨o',e1⟩:=I.base.there b o e hx;exact⟨o',(hs.2 b (V_ (V8 (V3 e) (I.ok.IW x c hfn hc)))).trans e1⟩
  .by_cases hj:j=i
   .subst hj;rw[hi] at e1;cases e1;rw[abn hiσ] at e2;cases e2;exact⟨u,r,.inr ⟨.inl hk,c,hc,UD⟩⟩
   .rw[Z8 (Xs hj)] at e2;obtain⟨u',r',q⟩:=hl j y v' e1 e2 e3;refine⟨u',r',?_⟩;rcases q with q|⟨k,c',e,z'⟩
    .exact .inl q
    .refine .inr ⟨k,c',e,z'.sameBut hs ?_⟩;rintro rfl;exact hj (sH hN e1 (I.ok.inj _ _ _ e hc▸hi))
  .by_cases hcc:c'=c
   .subst hcc;exact⟨_,UD⟩
   .obtain⟨w2,z2⟩:=I.cell y c' e;exact⟨w2,z2.sameBut hs hcc⟩
  .obtain⟨e,n,ne,nf,d⟩:=I.pin p hp;refine⟨(hs.2 p.1 ?_).trans e,n,ne,nf,d⟩;intro q;rw[q,hoc] at e;have q':oc=p.2:=V9 e;exact d w' (by rwa[<- q'])
def sQ{M:Model}{Q:Unit->Shared->Prop}(I:Inv X Q6 σ H s)(hN:X.N.Nodup)(hi:X.N[i]?=some x)(hx:Loc X.env.scope x)(r:RelV v u)(h:∀s',Inv X Q6 (σ.set i (some v)) H s'->Q () s')(hf:autoParam ↑1 aF._auto_1):wpAny M A (storeName X.env x u) Q E s :=
 oV I hN hi hx r (λs' I' _=>h s' I') hf
def Inv.EU{s':Shared}(I:Inv X Q6 σ H s)(ho:s'.os=s.os)(u:Un (yG X.stack) ch H H' s.heap s'.heap)(bA:lR X.prog X.w H' s'.heap)(hg:AllBare s'.gens)(Tf:∀b∈ch,(b∈X.ex\/X.s₀.heap.objs.size<=b)/\b≠X.env.locals/\(∀x c,X.env.cells.lookup x=some c->c≠b)/\∀p∈X.pn++Q6,p.1≠b):Inv X Q6 σ H' s':=by
 obtain⟨h',g',d',t',o'⟩:=s';have e:o'=s.os:=ho;subst e;exact I.call (g':=g') (t':=t') (d':=d') u bA hg Tf
end
abbrev XK:=Value->Option Addr->Hp->Prop
abbrev St:=List (Option V)
abbrev VK:=V->Hp->Prop
abbrev TE:=St->Hp->VK->Prop
abbrev TT:=St->Hp->(Bool->Hp->Prop)->Prop
abbrev TA:=St->Hp->(List V->Hp->Prop)->Prop
structure Ends where
 nx:St->Hp->Prop
 rt:VK
 bk:St->Hp->Prop:=λ_ _=>False
 ct:St->Hp->Prop:=λ_ _=>False
abbrev TS:=Ends->St->Hp->Prop
def EP(X:Cx)(Q6:List (Addr×Obj))(σ:St)(Q:VK)(u:Value)(s':Shared):Prop:=∃v H',Inv X Q6 σ H' s'/\RelV v u/\Q v H'
def TP(X:Cx)(Q6:List (Addr×Obj))(σ:St)(Q:Bool->Hp->Prop)(b:Bool)(s':Shared):Prop:=∃H',Inv X Q6 σ H' s'/\Q b H'
def AP(X:Cx)(Q6:List (Addr×Obj))(σ:St)(Q:List V->Hp->Prop)(us:List Value)(s':Shared):Prop:=∃vs H',Inv X Q6 σ H' s'/\Vals vs us/\Q vs H'
def SP(X:Cx)(Q6:List (Addr×Obj))(D:Ends)(f:Flow)(s':Shared):Prop :=
 match f with
 | .next=>∃σ' H',Inv X Q6 σ' H' s'/\D.nx σ' H'
 | .brk=>∃σ' H',Inv X Q6 σ' H' s'/\D.bk σ' H'
 | .cont=>∃σ' H',Inv X Q6 σ' H' s'/\D.ct σ' H'
 |.ret u=>∃v σ' H',Inv X Q6 σ' H' s'/\RelV v u/\D.rt v H'
def PE(X:Cx)(e:Expr)(t:TE):Prop :=
 ∀(Q6:List (Addr×Obj))(s:Shared)(σ:St)(H:Hp)(Q:VK),Inv X Q6 σ H s->t σ H Q->wpAny ↑8 X.A (eval e X.env) (EP X Q6 σ Q) X.xe s
def PT(X:Cx)(e:Expr)(t:TT):Prop :=
 ∀(Q6:List (Addr×Obj))(s:Shared)(σ:St)(H:Hp)(Q:Bool->Hp->Prop),Inv X Q6 σ H s->t σ H Q->wpAny ↑8 X.A (isTrue e X.env (eval e X.env)) (TP X Q6 σ Q) X.xe s
def PW(X:Cx)(e:Expr)(t:TT):Prop :=
 ∀(whole:Sem Value)(Q6:List (Addr×Obj))(s:Shared)(σ:St)(H:Hp)(Q:Bool->Hp->Prop),Inv X Q6 σ H s->t σ H Q->wpAny ↑8 X.A (isTrue e X.env whole) (TP X Q6 σ Q) X.xe s
variable{e:Expr}
def PW.pt{t:TT}(h:PW X e t):PT X e t:=h _
def PA(X:Cx)(es:List Expr)(t:TA):Prop :=
 ∀(pos:Pos)(Q6:List (Addr×Obj))(s:Shared)(σ:St)(H:Hp)(Q:List V->Hp->Prop),Inv X Q6 σ H s->t σ H Q->wpAny ↑8 X.A (spliced (backTo pos (starEach es X.env))) (AP X Q6 σ Q) X.xe s
def PS(X:Cx)(st:Stmt)(t:TS):Prop :=
 ∀(Q6:List (Addr×Obj))(s:Shared)(σ:St)(H:Hp)(D:Ends),Inv X Q6 σ H s->t D σ H->wpAny ↑8 X.A (exec st X.env) (SP X Q6 D) X.xe s
def lA(X:Cx)(st:List Stmt)(t:TS):Prop :=
 ∀(Q6:List (Addr×Obj))(s:Shared)(σ:St)(H:Hp)(D:Ends),Inv X Q6 σ H s->t D σ H->wpAny ↑8 X.A (execs st X.env) (SP X Q6 D) X.xe s
def cv{α:Type}{t:Sem α}{Q Q':α->Shared->Prop}{M:Model}(h:wpAny M A t Q E s)(hQ:∀a s,Q a s->Q' a s):wpAny M A t Q' E s:=XO h hQ λ_ _ x=>x
variable{Q:Value->Shared->Prop}{σ:St}
variable{ta:TE}
variable{c:Expr}
section
def CO(i:Nat):TE:=fun σ H Q=>∃v,σ[i]?=some (some v)/\Q v H
def tC(v:V):TE:=λ_ H Q=>Q v H
def gP{pos:Pos}(hN:X.N[i]?=some x)(hv:CA X.env.scope x)(hd:autoParam ↑7 aD._auto_1)(R3:autoParam ↑6 aD._auto_1):PE X (.Name x pos) (CO i):=by
 intro Q6 s σ H Q I h;obtain⟨v,e,h⟩:=h;obtain⟨m,hn,hl⟩:=I.loc;obtain⟨u,r,l⟩:=hl i x v hN e hv;have fin:EP X Q6 σ Q u s:=⟨v,H,I,r,h⟩
 rcases l with ⟨hk,hm⟩|⟨hk,c,hc,TF⟩
 .exact wpAny_Name (wpAny_loadName_local I.ok.kind hk hn hm fin) hd
 .rcases hk with hk|hk
  .exact wpAny_Name (wpAny_loadName_cell I.ok.kind hk hc TF fin) hd
  .exact wpAny_Name (wpAny_loadName_free I.ok.kind hk hc TF fin R3) hd
def EO{i j pos}:PE X (.Constant (.int i) j pos) (tC (.int i)):=λ_ _ _ H _ I h=>wpAny_Constant_int ⟨.int i,H,I.tok _,⟨_,rfl⟩,h⟩
def NA{b j pos}:PE X (.Constant (.bool b) j pos) (tC (.bl b)):=λ_ _ _ H _ I h=>Constant_bool ⟨.bl b,H,I,rfl,h⟩
def J6{j pos}:PE X (.Constant .none j pos) (tC .c6):=λ_ _ _ H _ I h=>Constant_none ⟨.c6,H,I,rfl,h⟩
def Lk{x j pos}:PE X (.Constant (.str x) j pos) (tC (.str x)):=λ_ _ _ H _ I h=>Calls.Constant_str ⟨.str x,H,I.tok _,⟨_,rfl⟩,h⟩
def Gl(X:Cx)(x:Str):Prop:=X.env.kindOf x=some .globalImplicit
def jU{pos:Pos}(I:Inv X Q6 σ H s)(hg:Gl X x)(hm:X.mg x=some u)(h:Q u s)(hd:autoParam ↑7 aD._auto_1):wpAny ↑8 X.A (eval (.Name x pos) X.env) Q E s :=
 aaG I.ok.kind hg (Calls.loadGlobal_global (by rw[I.ok.glob];exact I.mod.glob.keeps I.bk) hm h) hd
def jK{pos:Pos}(I:Inv X Q6 σ H s)(hg:Gl X x)(hm:X.mg x=none)(hv:bootBuiltins x=some u)(h:Q u s)(hn:autoParam (x ≠ "__name__") aD._auto_1)(hd:autoParam ↑7 aD._auto_1):wpAny ↑8 X.A (eval (.Name x pos) X.env) Q E s:=by
 obtain⟨mb,h1,h2⟩:=I.mod.blt;exact aaG I.ok.kind hg (Calls.loadGlobal_builtin (by rw[I.ok.glob];exact I.mod.glob.keeps I.bk) hm (by rw[I.ok.blt];exact h1.keeps I.bk) ((h2 x hn).trans hv) h) hd
def vz{pos:Pos}(hg:Gl X x)(hm:X.mg x=some u)(r:RelV v u)(hd:autoParam ↑7 aD._auto_1):PE X (.Name x pos) (tC v) :=
 λ_ _ _ H _ I h=>jU I hg hm ⟨v,H,I,r,h⟩ hd
def h9{pos:Pos}(hg:Gl X x)(hm:X.mg x=none)(hv:bootBuiltins x=some u)(r:RelV v u)(hn:autoParam (x ≠ "__name__") aD._auto_1)(hd:autoParam ↑7 aD._auto_1):PE X (.Name x pos) (tC v) :=
 λ_ _ _ H _ I h=>jK I hg hm hv ⟨v,H,I,r,h⟩ hn hd
variable{a b:Expr}{tb:TE}{pos:Pos}
def tB(t:TE):TT:=fun σ H Q=>t σ H λx H1=>∃c,x=.bl c/\Q c H1
def Mz{t:TE}(h:PE X e t)(he:autoParam (∀whole,isTrue e X.env whole=(do let v <- whole;standAt e.pos;holding [v] (truthy v))) aI._auto_1):PT X e (tB t):=by
 intro Q6 s σ H Q I hw;refine isTrue_plain (cv (h Q6 s σ H _ I hw) λv s1 ⟨x,H1,I1,r1,q1⟩=>?_) (he _);obtain⟨d,rfl,q⟩:=q1;cases r1;exact XF ⟨H1,I1,q⟩
variable{tA tB':TT}{rest:List Expr}
def OH(t u:TT):TT:=fun σ H Q=>t σ H λc H1=>if c=true then u σ H1 Q else Q false H1
def QR(t u:TT):TT:=fun σ H Q=>t σ H λc H1=>if c=true then Q true H1 else u σ H1 Q
def Pp(t:TT):TT:=fun σ H Q=>t σ H λc H1=>Q (!c) H1
def pw_and1(ha:PT X a tA):PW X (.BoolOp .And [a] pos) tA:=by
 intro wh Q6 s σ H Q I h;refine isTrue_and (cv (ha Q6 s σ H Q I h) λc s1 e=>?_);cases c with
 | true=>exact isTrue_and_nil e
 |false=>exact e
def pw_or1(ha:PT X a tA):PW X (.BoolOp .Or [a] pos) tA:=by
 intro wh Q6 s σ H Q I h;refine isTrue_or (cv (ha Q6 s σ H Q I h) λc s1 e=>?_);cases c with
 | false=>exact isTrue_or_nil e
 |true=>exact e
def pw_and(ha:PT X a tA)(hb:PW X (.BoolOp .And (b::rest) pos) tB'):PW X (.BoolOp .And (a::b::rest) pos) (OH tA tB'):=by
 intro wh Q6 s σ H Q I h;refine isTrue_and (cv (ha Q6 s σ H _ I h) λc s1 ⟨H1,I1,q1⟩=>?_);cases c with
 | true=>exact hb wh Q6 s1 σ H1 Q I1 q1
 |false=>exact⟨H1,I1,q1⟩
def pw_or(ha:PT X a tA)(hb:PW X (.BoolOp .Or (b::rest) pos) tB'):PW X (.BoolOp .Or (a::b::rest) pos) (QR tA tB'):=by
 intro wh Q6 s σ H Q I h;refine isTrue_or (cv (ha Q6 s σ H _ I h) λc s1 ⟨H1,I1,q1⟩=>?_);cases c with
 | true=>exact⟨H1,I1,q1⟩
 |false=>exact hb wh Q6 s1 σ H1 Q I1 q1
def KW(ha:PT X a tA):PT X (.UnaryOp .Not a pos) (Pp tA):=by
 intro Q6 s σ H Q I h;exact isTrue_not (ha Q6 s σ H (λc H1=>Q (!c) H1) I h)
def NQ(ta tb:TE):TE:=fun σ H Q=>ta σ H λx H1=>∃c,x=.bl c/\if c=true then tb σ H1 Q else Q (.bl false) H1
def Nq(ta:TE):TE:=fun σ H Q=>ta σ H λx H1=>∃c,x=.bl c/\Q (.bl (!c)) H1
def yM{op}{t:TE}(h:PE X a t):PE X (.BoolOp op [a] pos) t:=λQ6 s σ H Q I hw=>BoolOp_one (h Q6 s σ H Q I hw)
def My(ha:PE X a ta)(hb:PE X (.BoolOp .And (b::rest) pos) tb):PE X (.BoolOp .And (a::b::rest) pos) (NQ ta tb):=by
 intro Q6 s σ H Q I h;refine BoolOp_and (cv (ha Q6 s σ H _ I h) λv s1 ⟨x,H1,I1,r1,q1⟩=>?_);obtain⟨c,rfl,q1⟩:=q1;cases r1;refine XF ?_;cases c with
 | true=>exact hb Q6 s1 σ H1 Q I1 q1
 |false=>exact⟨.bl false,H1,I1,rfl,q1⟩
def Lg(ha:PE X a ta):PE X (.UnaryOp .Not a pos) (Nq ta):=by
 intro Q6 s σ H Q I h;refine UnaryOp_ (cv (ha Q6 s σ H _ I h) λv s1 ⟨x,H1,I1,r1,q1⟩=>?_);obtain⟨c,rfl,q1⟩:=q1;cases r1;exact not_of (XF ⟨.bl (!c),H1,I1,rfl,q1⟩)
def QA(t:TT)(ta tb:TE):TE:=fun σ H Q=>t σ H λc H1=>if c=true then ta σ H1 Q else tb σ H1 Q
def E8(hc:PT X c tA)(ha:PE X a ta)(hb:PE X b tb):PE X (.IfExp c a b pos) (QA tA ta tb):=by
 intro Q6 s σ H Q I h;refine wpAny_IfExp (cv (hc Q6 s σ H _ I h) λd s1 ⟨H1,I1,q1⟩=>?_);cases d with
 | true=>exact ha Q6 s1 σ H1 Q I1 q1
 |false=>exact hb Q6 s1 σ H1 Q I1 q1
end
def gQ(K:VU)(H:Hp)(a:Addr)(xs:List V):Prop :=
 Rd H a (.lst xs) ∨
  ∃(o:Obj)(Rb:Array Value)(n:Nat),K.lookup a=some o/\o.cls=.type "list" /\ o.dict=none/\o.data=.seq Rb n/\Rb.size<=sizeLine/\Vals xs Rb.toList
def g9(K:VU)(H:Hp)(a:Addr)(xs:List V):Prop :=
 Rd H a (.tup xs) ∨
  ∃(o:Obj)(Rb:Array Value)(n:Nat),K.lookup a=some o/\o.cls=.type "tuple" /\ o.data=.seq Rb n/\Rb.size<=sizeLine/\Vals xs Rb.toList
def P5:Value->Option V
 | .none=>some .c6
 | .bool b=>some (.bl b)
 | .int i _=>some (.int i)
 | .str x _=>some (.str x)
 | .bytes b _=>some (.byt b)
 | .float b _=>some (.JC b)
 | .ref a=>some (.ref a)
 | .type n=>some (.ty n)
 |_=>none
def RelV.abs{x:V}(r:RelV x u):P5 u=some x:=by
 cases x with
 | c6=>cases r;rfl
 | bl _=>cases r;rfl
 | int _=>obtain⟨t,rfl⟩:=r;rfl
 | str _=>obtain⟨t,rfl⟩:=r;rfl
 | byt _=>obtain⟨t,rfl⟩:=r;rfl
 | JC _=>obtain⟨t,rfl⟩:=r;rfl
 | ref _=>cases r;rfl
 |ty _=>cases r;rfl
def RelV.inj{x y:V}{u:Value}(r:RelV x u)(q:RelV y u):x=y:=V9 (r.abs.symm.trans q.abs)
theorem Vals.inj:∀{xs ys:List V}{us:List Value},Vals xs us->Vals ys us->xs=ys
 | _,_,_,.nil,.nil=>rfl
 |_,_,_,.cons r t,.cons r' t'=>by rw[r.inj r',Vals.inj t t']
section
variable{xs ys:List V}
def gQ.of{K:VU}(h:H a=some (.lst xs)):gQ K H a xs:=.inl (.inl h)
def g9.of{K:VU}(h:H a=some (.tup xs)):g9 K H a xs:=.inl (.inl h)
theorem Inv.list(I:Inv X Q6 σ H s)(h:gQ X.K H a xs):∃Rb:List Value,Vals xs Rb/\PlainL s.heap a Rb.toArray/\xs.length<=sizeLine:=by
 rcases h with h|⟨o,Rb,n,hk,hc,hd,hs,hz,r⟩
 .obtain⟨z,Rb,n,r,e⟩:=h.ok I.bA;exact⟨Rb,r,⟨_,n,e,rfl,rfl,rfl⟩,z⟩
 .refine⟨Rb.toList,r,⟨o,n,I.ku a o hk,hc,hd,by simpa using hs⟩,?_⟩;have e:=r.length;simp only[XD] at e;lia
theorem Inv.tuple(I:Inv X Q6 σ H s)(h:g9 X.K H a xs):∃Rb:List Value,Vals xs Rb/\IsTup s.heap a Rb.toArray/\xs.length<=sizeLine:=by
 rcases h with h|⟨o,Rb,n,hk,hc,hs,hz,r⟩
 .obtain⟨z,Rb,r,p⟩:=h.ok I.bA;exact⟨Rb,r,p,z⟩
 .refine⟨Rb.toList,r,⟨o,I.ku a o hk,hc,n,by simpa using hs⟩,?_⟩;have e:=r.length;simp only[XD] at e;lia
def Inv.sU(I:Inv X Q6 σ H s)(h:gQ X.K H a xs)(h':gQ X.K H a ys):xs=ys:=by
 obtain⟨Rb,r,⟨o,n,e,_,_,d⟩,_⟩:=I.list h;obtain⟨its',r',⟨o',n',e',_,_,d'⟩,_⟩:=I.list h';rw[e] at e';cases e';rw[d] at d';injection d' with d1 _
 have:Rb=its':=by simpa using congrArg Array.toList d1
 subst this;exact r.inj r'
def Inv.oP(I:Inv X Q6 σ H s)(h:g9 X.K H a xs)(h':g9 X.K H a ys):xs=ys:=by
 obtain⟨Rb,r,⟨o,e,_,n,d⟩,_⟩:=I.tuple h;obtain⟨its',r',⟨o',e',_,n',d'⟩,_⟩:=I.tuple h';rw[e] at e';cases e';rw[d] at d';injection d' with d1 _
 have:Rb=its':=by simpa using congrArg Array.toList d1
 subst this;exact r.inj r'
end
abbrev Cx.rJ(X:Cx)(E:Value->Shared->Prop):Cx:={ X with xe:=E }
theorem Cx.Ok.rJ{X:Cx}(ok:X.Ok)(E:Value->Shared->Prop):(X.rJ E).Ok :=
 ⟨ok.mod,ok.kind,ok.glob,ok.blt,ok.above,ok.inj,ok.has,ok.IW,ok.hd,ok.frames,ok.KR,ok.MQ,ok.bs,ok.Ex,ok.vO,ok.yp,ok.mw,ok.Ge⟩
def Cx.Ok.e7(ok:(X.rJ E).Ok):X.Ok :=
 ⟨ok.mod,ok.kind,ok.glob,ok.blt,ok.above,ok.inj,ok.has,ok.IW,ok.hd,ok.frames,ok.KR,ok.MQ,ok.bs,ok.Ex,ok.vO,ok.yp,ok.mw,ok.Ge⟩
theorem Inv.rJ(I:Inv X Q6 σ H s)(E:Value->Shared->Prop):Inv (X.rJ E) Q6 σ H s:=⟨I.ok.rJ E,I.os,I.bare,I.base,I.loc,I.cell,I.free,I.gU,I.pin,I.bA,I.len⟩
theorem Inv.e7(I:Inv (X.rJ E) Q6 σ H s):Inv X Q6 σ H s:=⟨I.ok.e7,I.os,I.bare,I.base,I.loc,I.cell,I.free,I.gU,I.pin,I.bA,I.len⟩
theorem SP.e7{D:Ends}{f:Flow}{s':Shared}(h:SP (X.rJ E) Q6 D f s'):SP X Q6 D f s':=by
 cases f with
 | next=>obtain⟨σ',H',I,q⟩:=h;exact⟨σ',H',I.e7,q⟩
 | brk=>obtain⟨σ',H',I,q⟩:=h;exact⟨σ',H',I.e7,q⟩
 | cont=>obtain⟨σ',H',I,q⟩:=h;exact⟨σ',H',I.e7,q⟩
 |ret u=>obtain⟨v,σ',H',I,r,q⟩:=h;exact⟨v,σ',H',I.e7,r,q⟩
variable{te:TE}
variable{tc:TT}
section
variable{st:Stmt}{rest:List Stmt}{t u:TS}{pos:Pos}
def Az:TS:=λD σ H=>D.nx σ H
def GG(t u:TS):TS:=λD σ H=>t { D with nx:=u D } σ H
def mO:lA X [] Az:=λ_ _ σ H _ I h=>Zv ⟨σ,H,I,h⟩
def iH(h1:PS X st t)(h2:lA X rest u):lA X (st::rest) (GG t u):=by
 intro Q6 s σ H D I h;refine wpAny_execs_cons (cv (h1 Q6 s σ H { D with nx:=u D } I h) λf s1 q=>?_);cases f with
 | next =>
  obtain⟨σ',H',I',q⟩:=q;exact h2 Q6 s1 σ' H' D I' q
 | ret v=>exact q
 | brk=>exact q
 |cont=>exact q
def HN(h1:PS X st t):lA X [st] t:=by
 intro Q6 s σ H D I h;refine wpAny_execs_cons (cv (h1 Q6 s σ H D I h) λf s1 q=>?_);cases f with
 | next=>exact Zv q
 | ret v=>exact q
 | brk=>exact q
 |cont=>exact q
def Inv.quiet(I:Inv X Q6 σ H s):interactive X.env=false:=by simp[interactive,I.ok.kind]
def Js(te:TE):TS:=λD σ H=>te σ H λ_ H1=>D.nx σ H1
def qf(he:PE X e te)(hs:autoParam (swapsWith e none pos.line X.env=pure false) aR._auto_1):PS X (.Expr e pos) (Js te):=by
 intro Q6 s σ H D I h;exact wpAny_Expr_any (cv (he Q6 s σ H _ I h) λv s1 ⟨x,H1,I1,r1,q1⟩=>⟨σ,H1,I1,q1⟩) I.quiet hs
def PM(te:TE):TS:=λD σ H=>te σ H D.rt
def L4(he:PE X e te):PS X (.Return (some e) pos) (PM te):=by
 intro Q6 s σ H D I h;exact wpAny_Return_some (cv (he Q6 s σ H _ I h) λv s1 ⟨x,H1,I1,r1,q1⟩=>⟨x,σ,H1,I1,r1,q1⟩)
def MU(c:TT)(t u:TS):TS:=λD σ H=>c σ H λb H1=>if b=true then t D σ H1 else u D σ H1
def JI{a b:List Stmt}(hc:PT X c tc)(ha:lA X a t)(hb:lA X b u):PS X (.If c a b pos) (MU tc t u):=by
 intro Q6 s σ H D I h;refine wpAny_If (cv (hc Q6 s σ H _ I h) λd s1 ⟨H1,I1,q1⟩=>?_);cases d with
 | true=>exact ha Q6 s1 σ H1 D I1 q1
 |false=>exact hb Q6 s1 σ H1 D I1 q1
end
abbrev TG:=V->St->Hp->(St->Hp->Prop)->Prop
abbrev Mg:=List V->St->Hp->(St->Hp->Prop)->Prop
def PG(X:Cx)(target:Expr)(t:TG):Prop :=
 ∀ (Q6:List (Addr×Obj)) (s:Shared) (σ:St) (H:Hp) (v:V) (u:Value) (Q:St->Hp->Prop),Inv X Q6 σ H s->RelV v u->t v σ H Q ->
  wpAny ↑8 X.A (assign target X.env u) (λ_ s'=>∃σ' H',Inv X Q6 σ' H' s'/\Q σ' H') X.xe s
def OB(X:Cx)(ts:List Expr)(t:Mg):Prop :=
 ∀ (Q6:List (Addr×Obj)) (s:Shared) (σ:St) (H:Hp) (vs:List V) (us:List Value) (Q:St->Hp->Prop),Inv X Q6 σ H s->Vals vs us->t vs σ H Q ->
  wpAny ↑8 X.A (assignInOrder ((assignEach ts X.env).map (·.2)) us) (λ_ s'=>∃σ' H',Inv X Q6 σ' H' s'/\Q σ' H') X.xe s
abbrev Lm:=V->V->V->Hp->(Hp->Prop)->Prop
def MY(X:Cx)(t:Lm):Prop :=
 ∀ (Q6:List (Addr×Obj)) (s:Shared) (σ:St) (H:Hp) (o i v:V) (ov iv u:Value) (Q:Hp->Prop),Inv X Q6 σ H s->RelV o ov->RelV i iv->RelV v u->t o i v H Q ->
  wpAny ↑8 X.A (setItem ov iv u) (λ_ s'=>∃H',Inv X Q6 σ H' s'/\Q H') X.xe s
variable{es:List Expr}
variable{n k:Nat}
variable{tg:Expr}
section
variable{pos:Pos}
def aC(i:Nat):TG:=λv σ H Q=>Q (σ.set i (some v)) H
def IQ(hN:X.N.Nodup)(hi:X.N[i]?=some x)(hx:Loc X.env.scope x)(hf:autoParam ↑1 aF._auto_1):PG X (.Name x pos) (aC i):=by
 intro Q6 s σ H v u Q I r h;exact aaZ (sQ I hN hi hx r (λs' I'=>⟨_,H,I',h⟩) hf)
def jH:Mg:=λvs σ H Q=>vs=[]/\Q σ H
def bC(t:TG)(u:Mg):Mg:=λvs σ H Q=>∃v r,vs=v::r/\t v σ H fun σ' H'=>u r σ' H' Q
def cF:OB X [] jH:=by
 intro Q6 s σ H vs us Q I r h;obtain⟨e,h⟩:=h;subst e;cases r;exact assignInOrder_nil ⟨σ,H,I,h⟩
def aJ{t:TG}{u:Mg}(h1:PG X e t)(h2:OB X es u)(hs:autoParam ((assignEach (e::es) X.env).map (·.2)=assign e X.env::(assignEach es X.env).map (·.2)) aR._auto_1):OB X (e::es) (bC t u):=by
 intro Q6 s σ H vs us Q I r h;obtain⟨v,vr,e1,h⟩:=h;subst e1;cases r with
 | cons r rr =>
  rw[hs];refine assignInOrder_cons (cv (h1 Q6 s σ H _ _ _ I r h) λ_ s1 ⟨σ1,H1,I1,q1⟩=>?_);exact h2 Q6 s1 σ1 H1 _ _ Q I1 rr q1
def jz(K:VU)(n:Nat)(t:Mg):TG:=λv σ H Q=>∃a xs,v=.ref a/\g9 K H a xs/\xs.length=n/\t xs σ H Q
def dQ{t:Mg}(hc:X.calm=true)(h:OB X es t)(hn:autoParam ((assignEach es X.env).length=n) aR._auto_1)(RN:autoParam ((assignEach es X.env).findIdx? (·.1)=none) aR._auto_1):PG X (.Tuple es k pos) (jz X.K n t):=by
 intro Q6 s σ H v u Q I r hw;obtain⟨a,xs,e1,hq,hl,hw⟩:=hw;subst e1;cases r;obtain⟨Rb,rv,ht,hz⟩:=I.tuple hq;refine assign_Tuple_tuple (I.ok.hd hc) ht (by simp[hn,<- hl,rv.length]) RN λh' hx=>?_;have I1:Inv X Q6 σ H { s with heap:=h' }:=I.kept (t':=s.toks) λb o e=>hx b o (V_ (V3 e)) e;exact h Q6 _ σ H xs _ Q I1 (by simpa using rv) hw
def Pt(to ti:TE)(t:Lm):TG:=λv σ H Q=>to σ H λo H1=>ti σ H1 λi H2=>t o i v H2 λH3=>Q σ H3
def LY{o i:Expr}{to ti:TE}{t:Lm}(ho:PE X o to)(hi:PE X i ti)(hs:MY X t)
  (ha:autoParam (∀v,assign (.Subscript o i pos) X.env v=(do
   let ov <- holding [v] (eval o X.env)
   let iv <- holding [v,ov] (eval i X.env)
   standAt pos
   holding [v,ov,iv] (setItem ov iv v)
   release [v,ov,iv] [])) aI._auto_1):PG X (.Subscript o i pos) (Pt to ti t):=by
 intro Q6 s σ H v u Q I r h;rw[ha];refine VQ (Xm (cv (ho Q6 s σ H _ I h) λov s1 ⟨x,H1,I1,r1,q1⟩=>?_));refine VQ (Xm (cv (hi Q6 s1 σ H1 _ I1 q1) λiv s2 ⟨y,H2,I2,r2,q2⟩=>?_));refine VQ (Zr (VQ (Xm (cv (hs Q6 s2 σ H2 x y v ov iv u _ I2 r1 r2 r q2) λ_ s3 ⟨H3,I3,q3⟩=>?_))));exact wpAny_release ⟨σ,H3,I3,q3⟩
def BB(te:TE)(g:TG):TS:=λD σ H=>te σ H λx H1=>g x σ H1 D.nx
def Mq{g:TG}(he:PE X e te)(hg:PG X tg g)(hs:autoParam (swapsWithSole [tg] e pos.line X.env=pure false) aR._auto_1)(hw:autoParam (swappedStores [tg] e X.env=pure none) aR._auto_1)(h1:autoParam ((assignEach [tg] X.env).map (·.2)=[assign tg X.env]) aR._auto_1):PS X (.Assign [tg] e pos) (BB te g):=by
 intro Q6 s σ H D I h;refine wpAny_Assign_stores (cv (he Q6 s σ H _ I h) λv s1 ⟨x,H1,I1,r1,q1⟩=>?_) hs hw;rw[h1];exact cv (hg Q6 s1 σ H1 x v _ I1 r1 q1) λ_ s2 q=>q
def o_{pos':Pos}(hN:X.N.Nodup)(hi:X.N[i]?=some x)(hx:Loc X.env.scope x)(he:PE X e te)(hs:autoParam (swapsWith e (some (.Name x pos')) pos.line X.env=pure false) aR._auto_1)(hf:autoParam ↑1 aF._auto_1):PS X (.Assign [.Name x pos'] e pos) (BB te (aC i)):=by
 intro Q6 s σ H D I h;refine wpAny_Assign_Name (cv (he Q6 s σ H _ I h) λv s1 ⟨y,H1,I1,r1,q1⟩=>?_) hs;exact sQ I1 hN hi hx r1 (λs2 I2=>⟨_,H1,I2,q1⟩) hf
end
variable{tb:TS}{body:List Stmt}
section
variable{pos:Pos}
def LR(c:TT)(tb:TS):TS:=λD σ H=>∃W:Nat->St->Hp->Prop,(∃m,W m σ H)/\∀m σ H,W m σ H ->
 c σ H λb H1=>if b=true then ∃N:St->Hp->Prop,(∀σ' H',N σ' H'->∃m',m'<m/\W m' σ' H')/\tb { D with nx:=N,ct:=N,bk:=D.nx } σ H1 else D.nx σ H1
def F4(hp:PassesOwn ↑8 X.A X.env X.xe)(hc:PT X c tc)(hb:lA X body tb):PS X (.While c body [] pos) (LR tc tb):=by
 intro Q6 s σ H D I h;obtain⟨W,⟨m0,w0⟩,turn⟩:=h;refine wpAny_While (codeAny_whileLoop (λn s'=>∃σ' H',Inv X Q6 σ' H' s'/\W n σ' H') ?_ m0 ⟨σ,H,I,w0⟩);rintro n s1 ⟨σ1,H1,I1,w1⟩;refine YH hp (cv (hc Q6 s1 σ1 H1 _ I1 (turn n σ1 H1 w1)) λb s2 ⟨H2,I2,q2⟩=>?_);cases b with
 | true =>
  obtain⟨N,hN,q2⟩:=q2;rw[if_pos rfl];refine YH hp (cv (hb Q6 s2 σ1 H2 _ I2 q2) λf s3 q3=>?_);cases f with
  | next =>
   obtain⟨σ3,H3,I3,n3⟩:=q3;obtain⟨m',hm,w3⟩:=hN σ3 H3 n3;exact⟨m',hm,σ3,H3,I3,w3⟩
  | cont =>
   obtain⟨σ3,H3,I3,n3⟩:=q3;obtain⟨m',hm,w3⟩:=hN σ3 H3 n3;exact⟨m',hm,σ3,H3,I3,w3⟩
  | brk=>exact q3
  | ret v=>exact q3
 | false =>
  rw[if_neg WY];exact Zv ⟨σ1,H2,I2,q2⟩
end
structure It where
 go:Nat->Hp->Prop
 vx:Nat->Hp->V->Hp->Prop
 stop:Nat->Hp->Prop
def lQ(X:Cx)(Q6:List (Addr×Obj))(H:Hp)(b:Addr):Prop :=
 H b=none/\b≠X.env.locals/\b ∉ X.fs/\(b∈X.ex\/X.s₀.heap.objs.size<=b)/\(∀x c,X.env.cells.lookup x=some c->c≠b)/\∀p∈X.pn++Q6,p.1≠b
def Inv.rD(I:Inv X Q6 σ H s)(hb:s.heap.objs.size<=b)(hn:H' b=none):lQ X Q6 H' b:=by
 refine⟨hn,XM (V8 I.lt hb),I.OM hb,.inr (WE I.sz hb),λx c e z=>?_,λp hp z=>?_⟩
 .obtain⟨v,q⟩:=I.cell x c e;exact absurd (V8 q.lt (by rwa[z])) (Yt _)
 .exact absurd (V8 (V3 (I.pin p hp).1) (by rwa[z])) (Yt _)
structure Turn (P:Program) (w:World) (K:VU) (tg:Expr) (J:It) (fp:List Addr) (it:Addr) (tn:Nat->Heap->Prop):Prop where
 mem:it∈fp
 obj:∀i h,tn i h->∀b∈fp,∃o,h.get? b=some o/\∀v,o.data≠.cell v
 keep:∀i h h',tn i h->(∀b∈fp,∀o,h.get? b=some o->h'.get? b=some o)->tn i h'
 item:∀(X:Cx),X.prog=P->X.w=w->X.K=K->X.calm=true->∀(i:Nat)(Q6:List (Addr×Obj))(s:Shared)(σ:St)(H:Hp)(E:Value->Shared->Prop),Inv X Q6 σ H s->(∀b∈fp,lQ X Q6 H b)->tn i s.heap->J.go i H ->
  wpAny (model P w) X.A (pyNext (.ref it)) (λr s1=>∃u,r=some u ∧
   wpAny (model P w) X.A (letOwnedTupleGo tg (.ref it) u) (λ_ s2=>∃x H',Inv X Q6 σ H' s2/\RelV x u/\J.vx i H x H'/\tn (i+1) s2.heap/\∀b∈fp,H' b=none) E s1) E s
 done:∀(X:Cx),X.prog=P->X.w=w->X.K=K->X.calm=true->∀(i:Nat)(Q6:List (Addr×Obj))(s:Shared)(σ:St)(H:Hp)(E:Value->Shared->Prop),Inv X Q6 σ H s->(∀b∈fp,lQ X Q6 H b)->tn i s.heap->J.stop i H ->
  wpAny (model P w) X.A (pyNext (.ref it)) (λr s1=>r=none/\Inv X Q6 σ H s1) E s
 self:∀(A:Around)(i:Nat)(s:Shared)(Q:Value->Shared->Prop)(E:Value->Shared->Prop),tn i s.heap->Q (.ref it) s->wpAny (model P w) A (pyIter (.ref it)) Q E s
abbrev TI:=St->Hp->(It->Hp->Prop)->Prop
def P1(X:Cx)(Q6:List (Addr×Obj))(σ:St)(tg:Expr)(R:It->Hp->Prop)(itv:Value)(s2:Shared):Prop :=
 ∃(it:Addr)(fp:List Addr)(tn:Nat->Heap->Prop)(J:It)(H':Hp),itv=.ref it/\Inv X Q6 σ H' s2/\Turn X.prog X.w X.K tg J fp it tn/\tn 0 s2.heap/\(∀b∈fp,lQ X Q6 H' b)/\R J H'
def PI(X:Cx)(tg iter:Expr)(wi:TI):Prop :=
 ∀ (Q6:List (Addr×Obj)) (s:Shared) (σ:St) (H:Hp) (R:It->Hp->Prop),Inv X Q6 σ H s->wi σ H R ->
  wpAny ↑8 X.A (eval iter X.env) (λv s1=>wpAny ↑8 X.A (pyIter v) (P1 X Q6 σ tg R) X.xe s1) X.xe s
def wX {M : Model}{o : Obj}{n : String}{vs : Array Value}{Q : Unit -> Shared -> Prop}(ho : s.heap.get? it=some o)(hc : o.cls=.type n)(hd : o.data=.fields vs)(hn : ["enumerate","zip","dict_itemiterator","dict_reverseitemiterator","odict_iterator","itertools.zip_longest","itertools.pairwise"].contains n=false)(hQ : Q () s) : wpAny M A (letOwnedTupleGo tg (.ref it) u) Q E s := by
  unfold letOwnedTupleGo;cases tg<;>first
    | exact VY hQ
    | (cases u<;>first
        | exact VY hQ
        | (refine VQ (wpAny_load ho ?_)
           rw [hc,hd];show wpAny M A (if (["enumerate","zip","dict_itemiterator","dict_reverseitemiterator","odict_iterator","itertools.zip_longest","itertools.pairwise"].contains n && vs[0]? == some (rawInt _))=true then _ else _) Q E s;rw [if_neg (by intro h; rw [hn,abX] at h; cases h)];exact VY hQ))
def Qm(K:VU)(a:Addr):It :=
 ⟨λi H=>∃xs x,gQ K H a xs/\xs[i]?=some x,λi H x H'=>H'=H/\∀xs,gQ K H a xs->xs[i]?=some x,λi H=>∃xs,gQ K H a xs/\xs.length<=i⟩
def Qp(K:VU)(a:Addr):It :=
 ⟨λi H=>∃xs x,g9 K H a xs/\xs[i]?=some x,λi H x H'=>H'=H/\∀xs,g9 K H a xs->xs[i]?=some x,λi H=>∃xs,g9 K H a xs/\xs.length<=i⟩
def NB(lo:Int)(n:Nat):It:=⟨λi _=>i<n,λi H x H'=>H'=H/\x=.int (lo+i),λi _=>n<=i⟩
theorem uY{K:VU}(a it:Addr):Turn P w K tg (Qm K a) [it] it (λi h=>h.IsListIter it a i) where
 mem:=by simp
 obj:=λi h st b hb=>by
  have e:b=it:=by simpa using hb
  subst e;obtain⟨o,e,c,d⟩:=st;exact⟨o,e,λv z=>by rw[d] at z;cases z⟩
 keep:=λi h h' st k=>st.at λo e=>k it ↑13 o e
 item:=by
  intro X hP hw hK hc i Q6 s σ H E I hf st hg;subst hP hw hK;obtain⟨xs,x,hq,hx⟩:=hg;obtain⟨Rb,rv,p,hz⟩:=I.list hq;obtain⟨u,hu,ru⟩:=rv.get hx;obtain⟨f0,f1,f2,f3,f4,f5⟩:=hf it ↑13;refine wpAny_pyNext_list_item st p.isList (x:=u) (by simpa using hu) λh' R4 sb=>?_;have I1:Inv X Q6 σ H { s with heap:=h' }:=I.turned (t':=s.toks) (λb o hb e=>(sb.2 b hb).trans e) f0 f1 f3 f4 f5;obtain⟨o,e,c,d⟩:=id R4;exact⟨u,rfl,wX (s:={ s with heap:=h' }) e c d ↑12 ⟨x,H,I1,ru,⟨rfl,λys hy=>by rwa[I.sU hy hq]⟩,R4,λb hb=>(hf b hb).1⟩⟩
 done:=by
  intro X hP hw hK hc i Q6 s σ H E I hf st hg;subst hP hw hK;obtain⟨xs,hq,hx⟩:=hg;obtain⟨Rb,rv,p,hz⟩:=I.list hq;obtain⟨f0,f1,f2,f3,f4,f5⟩:=hf it ↑13;have hl:=rv.length;exact wpAny_pyNext_list_end (I.ok.hd hc) st p.isList (by simp;lia) λh' eb=>⟨rfl,I.turned (t':=s.toks) (λb o hb e=>eb b o hb e) f0 f1 f3 f4 f5⟩
 self:=λ_ _ _ _ _ st h=>wpAny_pyIter_listiter st h
theorem rn{K:VU}(a it:Addr):Turn P w K tg (Qp K a) [it] it (λi h=>h.IsTupleIter it a i) where
 mem:=by simp
 obj:=λi h st b hb=>by
  have e:b=it:=by simpa using hb
  subst e;obtain⟨o,e,c,d⟩:=st;exact⟨o,e,λv z=>by rw[d] at z;cases z⟩
 keep:=λi h h' st k=>st.at λo e=>k it ↑13 o e
 item:=by
  intro X hP hw hK hc i Q6 s σ H E I hf st hg;subst hP hw hK;obtain⟨xs,x,hq,hx⟩:=hg;obtain⟨Rb,rv,p,hz⟩:=I.tuple hq;obtain⟨u,hu,ru⟩:=rv.get hx;obtain⟨f0,f1,f2,f3,f4,f5⟩:=hf it ↑13;refine wpAny_pyNext_tuple_item st (show s.heap.IsTuple a Rb.toArray from p) (x:=u) (by simpa using hu) λh' R4 sb=>?_;have I1:Inv X Q6 σ H { s with heap:=h' }:=I.turned (t':=s.toks) (λb o hb e=>(sb.2 b hb).trans e) f0 f1 f3 f4 f5;obtain⟨o,e,c,d⟩:=id R4;exact⟨u,rfl,wX (s:={ s with heap:=h' }) e c d ↑12 ⟨x,H,I1,ru,⟨rfl,λys hy=>by rwa[I.oP hy hq]⟩,R4,λb hb=>(hf b hb).1⟩⟩
 done:=by
  intro X hP hw hK hc i Q6 s σ H E I hf st hg;subst hP hw hK;obtain⟨xs,hq,hx⟩:=hg;obtain⟨Rb,rv,p,hz⟩:=I.tuple hq;obtain⟨f0,f1,f2,f3,f4,f5⟩:=hf it ↑13;have hl:=rv.length;exact wpAny_pyNext_tuple_end (I.ok.hd hc) st (show s.heap.IsTuple a Rb.toArray from p) (by simp;lia) λh' eb=>⟨rfl,I.turned (t':=s.toks) (λb o hb e=>eb b o hb e) f0 f1 f3 f4 f5⟩
 self:=λ_ _ _ _ _ st h=>wpAny_pyIter_tupleiter st h
theorem zI{K:VU}(it:Addr)(lo:Int)(n:Nat):Turn P w K tg (NB lo n) [it] it (λi h=>IsRangeIter h it (lo+(i:Nat)*1) ((n:Int)-(i:Nat)) 1) where
 mem:=by simp
 obj:=λi h st b hb=>by
  have e:b=it:=by simpa using hb
  subst e;exact⟨_,st,λv z=>by
   have z':Data.fields _=Data.cell v:=z;cases z'⟩
 keep:=λi h h' st k=>k it ↑13 _ st
 item:=by
  intro X hP hw hK hc i Q6 s σ H E I hf st hg;subst hP hw hK;obtain⟨f0,f1,f2,f3,f4,f5⟩:=hf it ↑13;have W:=Walks.range (prog:=X.prog) (w:=X.w) (I.ok.hd hc) it lo 1 n;refine W.item i s _ _ hg st λv h' tk hv R4 kk=>?_;obtain⟨t,rfl⟩:=hv;have I1:Inv X Q6 σ H { s with heap:=h',toks:=tk }:=I.turned (λb o hb e=>kk b o (by simpa using hb) e) f0 f1 f3 f4 f5;refine⟨_,rfl,wX (s:={ s with heap:=h',toks:=tk }) (n := "range_iterator") R4 rfl rfl ↑12 ⟨.int (lo+i),H,I1,⟨t,?_⟩,⟨rfl,rfl⟩,R4,λb hb=>(hf b hb).1⟩⟩;rw[abY]
 done:=by
  intro X hP hw hK hc i Q6 s σ H E I hf st hg;subst hP hw hK;obtain⟨f0,f1,f2,f3,f4,f5⟩:=hf it ↑13;exact abo (I.ok.hd hc) st (by have:n<=i:=hg;lia) λh' eb=>⟨rfl,I.turned (t':=s.toks) (λb o hb e=>eb b o hb e) f0 f1 f3 f4 f5⟩
 self:=λ_ _ _ _ _ st h=>abp st h
variable{p:Pos}
variable{fp:List Addr}
theorem xE{R:It->Hp->Prop}{lo hi:Int}{t u v:Tok}{tk:Nat}(I:Inv X Q6 σ H s)(h1:-(2^62)<=lo)(h2:lo<2^62)(h3:-(2^62)<=hi)(h4:hi<2^62)(q:R (NB lo (hi-lo).toNat) H):wpAny ↑8 X.A (pyIter (.ref s.heap.objs.size)) (P1 X Q6 σ tg R) E { s with heap:=s.heap.push { cls:=.type "range",data:=.fields #[.int lo t,.int hi u,.int 1 v] },toks:=tk }:=by
 refine wpAny_pyIter_range (IsRange.new ..) (small_one h1 h2 h3 h4) ?_;have I1:Inv X Q6 σ H { s with heap:=s.heap.push { cls:=.type "range",data:=.fields #[.int lo t,.int hi u,.int 1 v] },toks:=tk }:=I.kept λb o e=>VR _ e;refine⟨(s.heap.push { cls:=.type "range",data:=.fields #[.int lo t,.int hi u,.int 1 v] }).objs.size,[(s.heap.push { cls:=.type "range",data:=.fields #[.int lo t,.int hi u,.int 1 v] }).objs.size],_,_,H,rfl,
  I1.kept (t':=tk) λb o e=>VR _ e,zI _ lo (hi-lo).toNat,?_,λb hb=>?_,q⟩
 .have e1:lo+((0:Nat):Int)*1=lo:=by simp
  have e2:(((hi-lo).toNat:Nat):Int)-((0:Nat):Int)=WC lo hi 1:=by rw[rangeSize_one];split<;>lia
  show IsRangeIter _ _ (lo+((0:Nat):Int)*1) ((((hi-lo).toNat:Nat):Int)-((0:Nat):Int)) 1;rw[e1,e2];exact V2 _ rfl
 .have e:b=(s.heap.push { cls:=.type "range",data:=.fields #[.int lo t,.int hi u,.int 1 v] }).objs.size:=by simpa using hb
  subst e;exact I1.rD (VX _) (I1.bA.fresh (VX _))
def Jn(ta:TA):TI:=fun σ H R=>ta σ H λvs H1=>∃j:Int,vs=[.int j]/\-(2^62)<=j/\j<2^62/\R (NB 0 j.toNat) H1
def Jy(ta:TA):TI:=fun σ H R=>ta σ H λvs H1=>∃i j:Int,vs=[.int i,.int j]/\(-(2^62)<=i/\i<2^62/\-(2^62)<=j/\j<2^62)/\R (NB i (j-i).toNat) H1
theorem eE{a:Expr}{ta:TA}{pos:Pos}(hg:Gl X "range")(hm:X.mg "range"=none)(ha:PA X [a] ta)(hs:autoParam (starEach [a] X.env=[(false,eval a X.env)]) aR._auto_1):PI X tg (.Call (.Name "range" p) [a] [] pos) (Jn ta):=by
 intro Q6 s σ H R I h;refine Call_ (jK I hg hm boot_range (Xb (cv (ha pos Q6 s σ H _ I h) λus s1 ⟨vs,H1,I1,r1,q1⟩=>?_) hs rfl));obtain⟨j,e,q1,q2,q⟩:=q1;subst e;cases r1 with
 | cons r rr =>
  cases rr;obtain⟨t,rfl⟩:=r;exact call_range_1 (xE I1 ⋯ ⋯ q1 q2 (by simpa using q))
def Br{a b:Expr}{ta:TA}{pos:Pos}(hg:Gl X "range")(hm:X.mg "range"=none)(ha:PA X [a,b] ta)(hs:autoParam (starEach [a,b] X.env=[(false,eval a X.env),(false,eval b X.env)]) aR._auto_1)(Sw:autoParam (starEach [b] X.env=[(false,eval b X.env)]) aR._auto_1):PI X tg (.Call (.Name "range" p) [a,b] [] pos) (Jy ta):=by
 intro Q6 s σ H R I h;refine Call_ (jK I hg hm boot_range (Xb (cv (ha pos Q6 s σ H _ I h) λus s1 ⟨vs,H1,I1,r1,q1⟩=>?_) (by rw[hs,Sw]) (by rw[Sw];rfl)));obtain⟨i,j,e,⟨q1,q2,q3,q4⟩,q⟩:=q1;subst e;cases r1 with
 | cons r rr =>
  cases rr with
  | cons r' rr =>
   cases rr;obtain⟨t,rfl⟩:=r;obtain⟨t',rfl⟩:=r';exact call_range_2 (xE I1 q1 q2 q3 q4 q)
def NC(wi:TI)(g:TG)(tb:TS):TS:=λD σ H=>wi σ H λJ H1=>∃W:Nat->Nat->St->Hp->Prop,(∃m,W 0 m σ H1)/\∀i m σ H,W i m σ H ->
 (J.stop i H/\D.nx σ H)\/(J.go i H/\∃N:St->Hp->Prop,(∀σ' H',N σ' H'->∃m',m'<m/\W (i+1) m' σ' H')/\∀x H',J.vx i H x H'->g x σ H' fun σ2 H2=>tb { D with nx:=N,ct:=N,bk:=D.nx } σ2 H2)
def oU(fp:List Addr)(h:Heap):List (Addr×Obj):=fp.filterMap λb=>(h.get? b).map λo=>(b,o)
def jS{o:Obj}(hb:b∈fp)(e:h.get? b=some o):(b,o)∈oU fp h:=ack.mpr ⟨b,hb,by rw[e];rfl⟩
def A_{p:Addr×Obj}(hp:p∈oU fp h):p.1∈fp/\h.get? p.1=some p.2:=by
 obtain⟨b,hb,e⟩:=ack.mp hp;cases q:h.get? b with
 | none=>rw[q] at e;cases e
 | some o =>
  rw[q] at e;have e':(b,o)=p:=V9 e;subst e';exact⟨hb,q⟩
def Inv.pinned(I:Inv X Q6 σ H s)(hf:∀b∈fp,lQ X Q6 H b)(ho:∀b∈fp,∃o,s.heap.get? b=some o/\∀v,o.data≠.cell v):Inv X (Q6++oU fp s.heap) σ H s :=
 I.Ab λp hp=>(Xk.mp hp).elim (λz=>I.pin p (WR _ z)) λz=>by
  obtain⟨hb,e⟩:=A_ z;obtain⟨f0,f1,f2,_⟩:=hf p.1 hb;obtain⟨o,e',d⟩:=ho p.1 hb;rw[e] at e';cases e';exact⟨e,f0,f1,f2,d⟩
def Inv.nB{pl:List (Addr×Obj)}(I:Inv X (Q6++pl) σ H s):Inv X Q6 σ H s:=I.Ab λp hp=>I.pin p (WR _ (XS _ hp))
def C2{iter:Expr}{wi:TI}{g:TG}{pos:Pos}(hp:PassesOwn ↑8 X.A X.env X.xe)(hc:X.calm=true)(hi:PI X tg iter wi)(hg:PG X tg g)(hb:lA X body tb)(hs:autoParam ↑5 aI._auto_1):PS X (.For tg iter body [] pos) (NC wi g tb):=by
 intro Q6 s σ H D I h;refine wpAny_For (cv (hi Q6 s σ H _ I h) λv s1 h1=>cv h1 λitv s2 h2=>?_) hs;obtain⟨it,fp,tn,J,H2,e,I2,T,TU,f2,W,⟨m0,w0⟩,turn⟩:=h2;subst e;have Tx:∀{H':Hp},(∀b∈fp,H' b=none)->∀b∈fp,lQ X Q6 H' b:=λhn b hb=>⟨hn b hb,(f2 b hb).2⟩
 refine codeAny_forLoop_any (λn s'=>∃i σ' H',Inv X Q6 σ' H' s'/\tn i s'.heap/\(∀b∈fp,H' b=none)/\W i n σ' H') ?_ m0 ⟨0,σ,H2,I2,TU,λb hb=>(f2 b hb).1,w0⟩;rintro n s3 ⟨i,σ3,H3,I3,Vg,fr3,w3⟩;rcases turn i n σ3 H3 w3 with ⟨stop,qn⟩|⟨go,N,hN,step⟩
 .refine YH hp (cv (T.done X rfl rfl rfl hc i Q6 s3 σ3 H3 X.xe I3 (Tx fr3) Vg stop) λr s4 ⟨hr,I4⟩=>?_);subst hr;exact Zv ⟨σ3,H3,I4,qn⟩
 .refine YH hp (cv (T.item X rfl rfl rfl hc i Q6 s3 σ3 H3 X.xe I3 (Tx fr3) Vg go) λr s4 ⟨u,hr,h4⟩=>?_);subst hr;refine YH hp (cv h4 λ_ s5 ⟨x,H5,I5,r5,y5,st5,fr5⟩=>?_);have I5':=I5.pinned (Tx fr5) (T.obj _ _ st5);refine YH hp (cv (hg _ s5 σ3 H5 x u _ I5' r5 (step x H5 y5)) λ_ s6 ⟨σ6,H6,I6,q6⟩=>?_);refine YH hp (cv (hb _ s6 σ6 H6 _ I6 q6) λf s7 q7=>?_);have again:∀{σ7:St}{H7:Hp},Inv X (Q6++oU fp s5.heap) σ7 H7 s7->N σ7 H7->∃m,m<n/\∃i σ' H',Inv X Q6 σ' H' s7/\tn i s7.heap/\(∀b∈fp,H' b=none)/\W i m σ' H':=λ{σ7 H7} I7 n7=>by
   obtain⟨m',hm,w7⟩:=hN σ7 H7 n7;refine⟨m',hm,i+1,σ7,H7,I7.nB,T.keep _ _ _ st5 λb hb o e=>(I7.pin (b,o) (WR _ (WR _ (jS hb e)))).1,λb hb=>?_,w7⟩;obtain⟨o,e,d⟩:=T.obj _ _ st5 b hb;exact(I7.pin (b,o) (WR _ (WR _ (jS hb e)))).2.1
  cases f with
  | next=>obtain⟨σ7,H7,I7,n7⟩:=q7;exact again I7 n7
  | cont=>obtain⟨σ7,H7,I7,n7⟩:=q7;exact again I7 n7
  | brk=>obtain⟨σ7,H7,I7,q7⟩:=q7;exact⟨σ7,H7,I7.nB,q7⟩
  |ret v=>obtain⟨x7,σ7,H7,I7,r7,q7⟩:=q7;exact⟨x7,σ7,H7,I7.nB,r7,q7⟩
abbrev R2:=V->V->Hp->VK->Prop
def gR(X:Cx)(f:Value->Value->Sem Value)(r:R2):Prop :=
 ∀ (Q6:List (Addr×Obj)) (s:Shared) (σ:St) (H:Hp) (x y:V) (v u:Value) (Q:VK),Inv X Q6 σ H s->RelV x v->RelV y u->r x y H Q ->
  wpAny ↑8 X.A (f v u) (EP X Q6 σ Q) X.xe s
def Qa(X:Cx)(f:Value->Sem Value)(r:V->Hp->VK->Prop):Prop :=
 ∀ (Q6:List (Addr×Obj)) (s:Shared) (σ:St) (H:Hp) (x:V) (v:Value) (Q:VK),Inv X Q6 σ H s->RelV x v->r x H Q ->
  wpAny ↑8 X.A (f v) (EP X Q6 σ Q) X.xe s
def c8(X:Cx)(f:Value)(r:List V->Hp->VK->Prop):Prop :=
 ∀ (Q6:List (Addr×Obj)) (s:Shared) (σ:St) (H:Hp) (xs:List V) (us:List Value) (Q:VK),Inv X Q6 σ H s->Vals xs us->r xs H Q ->
  wpAny ↑8 X.A (call f us) (EP X Q6 σ Q) X.xe s
def JG(r:R2)(ta tb:TE):TE:=fun σ H Q=>ta σ H λx H1=>tb σ H1 λy H2=>r x y H2 Q
def Qn(r:V->Hp->VK->Prop)(ta:TE):TE:=fun σ H Q=>ta σ H λx H1=>r x H1 Q
def rI(C:Int->Int->Prop)(g:Int->Int->V):R2:=λx y H Q=>∃i j,x=.int i/\y=.int j/\C i j/\Q (g i j) H
def zT(g:Int->Int->V):R2:=λx y H Q=>∃i j,x=.int i/\y=.int j/\Q (g i j) H
def rU(g:Int->V):V->Hp->VK->Prop:=λx H Q=>∃i,x=.int i/\Q (g i) H
variable{f:Value->Value->Sem Value}
variable{r:R2}
section
variable{a b:Expr}{tb tc:TE}{pos:Pos}
def Li(ha:PE X a ta)(hb:PE X b tb){R:V->V->Hp->Prop}(I:Inv X Q6 σ H s)(h:ta σ H λx H1=>tb σ H1 λy H2=>R x y H2)(hf:∀v u s2 x y H2,Inv X Q6 σ H2 s2->RelV x v->RelV y u->R x y H2->wpAny ↑8 X.A (f v u) Q X.xe s2):wpAny ↑8 X.A (eval a X.env) (λv s₁=>wpAny ↑8 X.A (eval b X.env) (λu s₂=>wpAny ↑8 X.A (f v u) Q X.xe s₂) X.xe s₁) X.xe s:=by
 refine cv (ha Q6 s σ H _ I h) λv s1 ⟨x,H1,I1,r1,q1⟩=>?_;refine cv (hb Q6 s1 σ H1 _ I1 q1) λu s2 ⟨y,H2,I2,r2,q2⟩=>?_;exact hf v u s2 x y H2 I2 r1 r2 q2
def JA{op:Operator}(ho:gR X (binaryOp op) r)(ha:PE X a ta)(hb:PE X b tb):PE X (.BinOp a op b pos) (JG r ta tb):=by
 intro Q6 s σ H Q I h;exact wpAny_BinOp (Li ha hb I h λv u s2 x y H2 I2 rx ry q=>ho Q6 s2 σ H2 x y v u Q I2 rx ry q)
def N3{op:UnaryOp}{r:V->Hp->VK->Prop}(ho:Qa X (unaryOp op) r)(ha:PE X a ta):PE X (.UnaryOp op a pos) (Qn r ta):=by
 intro Q6 s σ H Q I h;exact UnaryOp_ (cv (ha Q6 s σ H _ I h) λv s1 ⟨x,H1,I1,r1,q1⟩=>ho Q6 s1 σ H1 x v Q I1 r1 q1)
def P7{C:Int->Int->Prop}{g:Int->Int->Int}(rule:∀(i j:Int)(t u:Tok)(s:Shared)(Q:Value->Shared->Prop)(E:Value->Shared->Prop),C i j->Q (.int (g i j) s.toks) { s with toks:=s.toks+1 }->wpAny ↑8 X.A (f (.int i t) (.int j u)) Q E s):gR X f (rI C λi j=>.int (g i j)):=by
 intro Q6 s σ H x y v u Q I rx ry h;obtain⟨i,j,rfl,rfl,hc,q⟩:=h;obtain⟨t,rfl⟩:=rx;obtain⟨t',rfl⟩:=ry;exact rule i j t t' s _ _ hc ⟨.int (g i j),H,I.tok _,⟨_,rfl⟩,q⟩
def M4{g:Int->Int->Int}(rule:∀(i j:Int)(t u:Tok)(s:Shared)(Q:Value->Shared->Prop)(E:Value->Shared->Prop),Q (.int (g i j) s.toks) { s with toks:=s.toks+1 }->wpAny ↑8 X.A (f (.int i t) (.int j u)) Q E s):gR X f (zT λi j=>.int (g i j)):=by
 intro Q6 s σ H x y v u Q I rx ry h;obtain⟨i,j,rfl,rfl,q⟩:=h;obtain⟨t,rfl⟩:=rx;obtain⟨t',rfl⟩:=ry;exact rule i j t t' s _ _ ⟨.int (g i j),H,I.tok _,⟨_,rfl⟩,q⟩
def HS{g:Int->Int->Bool}(rule:∀(i j:Int)(t u:Tok)(s:Shared)(Q:Value->Shared->Prop)(E:Value->Shared->Prop),Q (.bool (g i j)) s->wpAny ↑8 X.A (f (.int i t) (.int j u)) Q E s):gR X f (zT λi j=>.bl (g i j)):=by
 intro Q6 s σ H x y v u Q I rx ry h;obtain⟨i,j,rfl,rfl,q⟩:=h;obtain⟨t,rfl⟩:=rx;obtain⟨t',rfl⟩:=ry;exact rule i j t t' s _ _ ⟨.bl (g i j),H,I,rfl,q⟩
def Ld:gR X (binaryOp .Add) (zT λi j=>.int (i+j)):=M4 λ_ _ _ _ _ _ _ q=>add_int q
def K_:gR X (binaryOp .Sub) (zT λi j=>.int (i-j)):=M4 λ_ _ _ _ _ _ _ q=>sub_int q
def Il:gR X (binaryOp .Mod) (rI (λ_ j=>j≠0) λi j=>.int (i.fmod j)):=P7 λ_ _ _ _ _ _ _ hc q=>mod_int' hc q
def QE{f:Value->Sem Value}{g:Int->Int}(rule:∀(i:Int)(t:Tok)(s:Shared)(Q:Value->Shared->Prop)(E:Value->Shared->Prop),Q (.int (g i) s.toks) { s with toks:=s.toks+1 }->wpAny ↑8 X.A (f (.int i t)) Q E s):Qa X f (rU λi=>.int (g i)):=by
 intro Q6 s σ H x v Q I rx h;obtain⟨i,rfl,q⟩:=h;obtain⟨t,rfl⟩:=rx;exact rule i t s _ _ ⟨.int (g i),H,I.tok _,⟨_,rfl⟩,q⟩
def Mj:Qa X (unaryOp .USub) (rU λi=>.int (-i)):=QE λ_ _ _ _ _ q=>neg_int q
end
variable{op:CmpOp}
variable{us:List Value}
section
variable{a b:Expr}{tb tc:TE}{pos:Pos}
def zg{Q:VK}{k k':Bool}(I:Inv X Q6 σ H s)(q:Q (.bl k) H)(e:k=k'):EP X Q6 σ Q (.bool k') s:=by
 subst e;exact⟨.bl k,H,I,rfl,q⟩
def w6:gR X (compareOp .Lt) (zT λi j=>.bl (decide (i<j))):=HS λ_ _ _ _ _ _ _ q=>lt_int q
def uU:gR X (compareOp .LtE) (zT λi j=>.bl (decide (i<=j))):=HS λ_ _ _ _ _ _ _ q=>le_int q
def JH:gR X (compareOp .Gt) (zT λi j=>.bl (decide (j<i))):=HS λ_ _ _ _ _ _ _ q=>gt_int q
def IZ:gR X (compareOp .GtE) (zT λi j=>.bl (decide (j<=i))):=HS λ_ _ _ _ _ _ _ q=>ge_int q
def FR:gR X (compareOp .Is) (λx y H Q=>y=.c6/\Q (.bl (decide (x=.c6))) H):=by
 intro Q6 s σ H x y v u Q I rx ry h;obtain⟨rfl,q⟩:=h;cases ry;refine is_none_gen (zg I q ?_);cases x<;>first
  | (cases rx;rfl)
  |(obtain⟨t,rfl⟩:=rx;rfl)
def gR.or{r':R2}(h:gR X f r)(h':gR X f r'):gR X f (λx y H Q=>r x y H Q\/r' x y H Q):=by
 intro Q6 s σ H x y v u Q I rx ry q;rcases q with q|q
 .exact h Q6 s σ H x y v u Q I rx ry q
 .exact h' Q6 s σ H x y v u Q I rx ry q
def eT(b:Expr)(h:autoParam (op≠.In) aD._auto_1)(h2:autoParam (op≠.NotIn) aD._auto_1):behindInMarks op b=false:=by
 have e1:(op==CmpOp.In)=false:=by cases op<;>first|rfl|exact absurd rfl h
 have e2:(op==CmpOp.NotIn)=false:=by cases op<;>first|rfl|exact absurd rfl h2
 cases b<;>simp[behindInMarks,e1,e2]
def HW(ho:gR X (compareOp op) r)(ha:PE X a ta)(hb:PE X b tb)(hm:behindInMarks op b=false):PE X (.Compare a [op] [b] pos) (JG r ta tb):=by
 intro Q6 s σ H Q I h;exact wpAny_Compare1 (Li ha hb I h λv u s2 x y H2 I2 rx ry q=>ho Q6 s2 σ H2 x y v u Q I2 rx ry q) hm
def CN(t:TE):TT:=fun σ H Q=>t σ H λx H'=>∃k,x=.bl k/\Q k H'
def vg(ho:gR X (compareOp op) r)(ha:PE X a ta)(hb:PE X b tb)(hm:behindInMarks op b=false):PT X (.Compare a [op] [b] pos) (CN (JG r ta tb)):=by
 intro Q6 s σ H Q I h;refine wpAny_isTrue_Compare1 (cv (ha Q6 s σ H _ I h) λv s1 ⟨x,H1,I1,r1,q1⟩=>cv (hb Q6 s1 σ H1 _ I1 q1) λu s2 ⟨y,H2,I2,r2,q2⟩ =>
  cv (ho Q6 s2 σ H2 x y v u _ I2 r1 r2 q2) λc s3 ⟨z,H3,I3,r3,k,e,q3⟩=>?_) hm
 subst e;cases r3;exact XF ⟨H3,I3,q3⟩
def zL(r r':R2)(ta tb tc:TE):TE:=fun σ H Q=>ta σ H λx H1=>tb σ H1 λy H2=>r x y H2 λz H3=>∃k,z=.bl k ∧
 (if k=true then tc σ H3 λw' H4=>r' y w' H4 Q else Q (.bl false) H3)
def CQ{Tu:CmpOp}{r':R2}(ho:gR X (compareOp op) r)(S6:gR X (compareOp Tu) r')(ha:PE X a ta)(hb:PE X b tb)(hc:PE X c tc)(hm:autoParam (lastMarks [op,Tu] [b,c]=false) aU._auto_1):PE X (.Compare a [op,Tu] [b,c] pos) (zL r r' ta tb tc):=by
 intro Q6 s σ H Q I h;refine Compare_chain (cv (ha Q6 s σ H _ I h) λv s1 ⟨x,H1,I1,r1,q1⟩=>chain_link (cv (hb Q6 s1 σ H1 _ I1 q1) λu s2 ⟨y,H2,I2,r2,q2⟩ =>
  cv (ho Q6 s2 σ H2 x y v u _ I2 r1 r2 q2) λd s3 ⟨z,H3,I3,r3,k,e,q3⟩=>?_)) hm
 subst e;cases r3;refine XF ?_;cases k with
 | false=>exact ite_ff ⟨.bl false,H3,I3,rfl,q3⟩
 |true=>exact ite_tt (chain_last (cv (hc Q6 s3 σ H3 _ I3 q3) λw' s4 ⟨z',H4,I4,r4,q4⟩=>S6 Q6 s4 σ H4 y z' u w' Q I4 r2 r4 q4))
def FX{Tu:CmpOp}{r':R2}(ho:gR X (compareOp op) r)(S6:gR X (compareOp Tu) r')(ha:PE X a ta)(hb:PE X b tb)(hc:PE X c tc)(hm:autoParam (lastMarks [op,Tu] [b,c]=false) aU._auto_1):PT X (.Compare a [op,Tu] [b,c] pos) (CN (zL r r' ta tb tc)):=by
 intro Q6 s σ H Q I h;refine isTrue_chain (cv (ha Q6 s σ H _ I h) λv s1 ⟨x,H1,I1,r1,q1⟩=>test_link (cv (hb Q6 s1 σ H1 _ I1 q1) λu s2 ⟨y,H2,I2,r2,q2⟩ =>
  cv (ho Q6 s2 σ H2 x y v u _ I2 r1 r2 q2) λd s3 ⟨z,H3,I3,r3,k,e,q3⟩=>?_)) hm
 subst e;cases r3;refine XF ?_;cases k with
 | false =>
  obtain⟨k',e',q'⟩:=q3;cases e';exact ite_ff ⟨H3,I3,q'⟩
 | true =>
  refine ite_tt (test_last (cv (hc Q6 s3 σ H3 _ I3 q3) λw' s4 ⟨z',H4,I4,r4,q4⟩=>cv (S6 Q6 s4 σ H4 y z' u w' _ I4 r2 r4 q4) λd' s5 ⟨z2,H5,I5,r5,k2,e2,q5⟩=>?_));subst e2;cases r5;exact XF ⟨H5,I5,q5⟩
def oj:(sizeLine:Nat)<2^63:=by rw[sizeLine_eq];decide
def zy:gR X (binaryOp .Add) (λx y H Q=>∃i j,x=.str i/\y=.str j/\i.length+j.length<=sizeLine/\Q (.str (i++j)) H):=by
 intro Q6 s σ H x y v u Q I rx ry h;obtain⟨i,j,rfl,rfl,hz,q⟩:=h;obtain⟨t,rfl⟩:=rx;obtain⟨t',rfl⟩:=ry;exact add_str (λt' tk=>⟨.str (i++j),H,I.tok _,⟨_,rfl⟩,q⟩) hz
def vals1{x:V}(r:Vals [x] us):∃u,us=[u]/\RelV x u:=by
 cases r with
 |cons r1 r2=>cases r2;exact⟨_,rfl,r1⟩
def vals2{x y:V}(r:Vals [x,y] us):∃u w',us=[u,w']/\RelV x u/\RelV y w':=by
 cases r with
 | cons r1 r2 =>
  cases r2 with
  |cons r3 r4=>cases r4;exact⟨_,_,rfl,r1,r3⟩
def BG(hc:X.calm=true):c8 X (.builtin "max") (λxs H Q=>∃i j,xs=[.int i,.int j]/\Q (.int (if j>i then j else i)) H):=by
 intro Q6 s σ H xs us Q I r h;obtain⟨i,j,rfl,q⟩:=h;obtain⟨u,w',rfl,⟨t,rfl⟩,⟨t',rfl⟩⟩:=vals2 r;refine max_two_ints (I.ok.hd hc) λh' tk k=>⟨_,H,I.kept k,?_,q⟩
 by_cases hj:j>i
 .rw[if_pos hj,if_pos hj];exact⟨_,rfl⟩
 .rw[if_neg hj,if_neg hj];exact⟨_,rfl⟩
end
structure zH (h:Heap) (x dx C:Addr) (mA:Str->Option Value):Prop where
 obj:h.get? x=some (Yl C dx)
 ns:h.Ns1 dx mA
 ne:dx≠x
variable{mA:Str->Option Value}{dx:Addr}
def oN(n:h.Ns1 dx mA):∃od,h.get? dx=some od/\∀name,ZH name od=some (mA name):=by
 obtain⟨o,es,ep,ho,hd,hk,_,hm⟩:=n;refine⟨o,ho,λname=>?_⟩;have e:=hm name;unfold nsFind findBy at e;rw[<- acm] at e;unfold ZH;rw[hd];dsimp only
 split
 .rename_i y q;rw[q] at e;exact congrArg some e
 .rename_i q;rw[q] at e;have a:es.toList.any (·.refKey)=false:=by
   rw[List.any_eq_false];intro y hy;obtain⟨z,t,hkey⟩:=hk y (Array.mem_toList_iff.mp hy);simp[DictEntry.refKey,hkey]
  have a':¬ es.toList.any (·.refKey)=true:=by rw[a];exact WY
  rw[if_neg a'];exact congrArg some e
variable{C:Addr}
def zH.look{x:Addr}(I:zH h x dx C mA):∃od,YW h x (Yl C dx) C (some od)/\∀name,ZH name od=some (mA name) :=
 let ⟨od,ho,hl⟩:=oN I.ns
 ⟨od,⟨I.obj,rfl,rfl,ho⟩,hl⟩
variable{prog:Program}
variable{pl:Sem Bool}
variable{kw:List (Str×Value)}
section
variable{K:VU}{x f:Addr}{name:Str}{v:Value}
def get_map{expr:Bool}(X:K.In s.heap)(I:zH s.heap x dx C mA)(hg:ZW K C name=true)(hh:ZI K C=true)(ha:W6 K (.ref C) name=some none)(hv:mA name=some v)(U4:ac3 v=true)(h:Q v { s with toks:=s.toks+1 }):wpAny ↑11 A (getAttr (.ref x) name expr) Q E s:=by
 obtain⟨od,J,hl⟩:=I.look;exact PySem.W.get_value X J (aan hg).1 (PySem.W.findObj_own hh ha rfl (by rw[hl,hv])) U4 h
def EM{Q:Value×List Value->Shared->Prop}(X:K.In s.heap)(I:zH s.heap x dx C mA)(hg:ZW K C name=true)(hf:W6 K (.ref C) name=some (some (.ref f)))(ht:Zi K (.ref f)=true)(hv:mA name=none)(h:Q (.ref f,[.ref x]) s):wpAny ↑11 A (getMethod (.ref x) name pl) Q E s:=by
 obtain⟨od,J,hl⟩:=I.look;exact PySem.W.method_fn X J (aan hg).1 (aan hg).2 hf (beq_iff_eq.mp ht) (by show (ZH name od).map (·.isSome)=some false;rw[hl,hv];rfl) h
theorem HY{ns:List Str}{Q:Unit->Shared->Prop}(X:K.In s.heap)(I:zH s.heap x dx C mA)(hs:W6 K (.ref C) "__setattr__"=some (some (.builtin "object.__setattr__")))(hp:acB K C=true)(ht:Zw K C name=some none)(hh:ZI K C=true)(hw:acA mA ns)(hsz:ns.length<=sizeLine)(h:∀h',zH h' x dx C (λy=>if y=name then some v else mA y)->YJ dx s.heap h'->Q () { s with heap:=h',toks:=s.toks+2 }):wpAny ↑11 A (setAttr (.ref x) name v) Q E s:=by
 obtain⟨od,J,hl⟩:=I.look;refine acC X J hs (PySem.W.osa_open (s:={ s with toks:=s.toks+1 }) (r:=none) X J hp ht λb=>?_);obtain⟨cd,hc,UE⟩:=YX hh;have hx:s.heap.get? x=some ⟨.ref C,some dx,.plain,#[]⟩:=I.obj;refine VQ (VY (VQ (VQ (ZJ hx (VQ (acn (s:={ s with toks:=s.toks+1 }) (aao X hc) ?_))))));rw[UE];refine VY (a:=some dx) (VQ (VY (VQ ?_)));refine wpAny_nsSet1 (s:={ s with toks:=s.toks+1 }) I.ns λh' UH Sw=>?_;obtain⟨oD,esD,epD,hoD,hdD,T_⟩:=UH.count (acD name v hw);refine VQ (wpAny_lookBehind hoD (by rw[hdD];exact pastItsLine_dict (WE T_ (by rw[WS];lia))) ?_);exact VY (h _ ⟨(Sw.2 _ (Xs I.ne)).trans I.obj,UH,I.ne⟩ Sw)
def C8{R:Result->Shared->Prop}{vs:List Value}(X:K.In s.heap)(hm:ads K C=true)(hi:W6 K (.ref C) "__init__"=some (some (.ref f)))(hf:Zb K (.ref f)=some (.type "function"))(h:codeAny ↑11 (A.under (.builtin "type.__call__" ⟨.ref C::vs,kw⟩)) (.call (.ref f) ⟨.ref (s.heap.objs.size+1)::vs,kw⟩) (PySem.W.InitBack (s.heap.objs.size+1) R) { s with heap:=(s.heap.push XG).push (Yl C s.heap.objs.size) }):codeAny ↑11 A (.call (.ref C) ⟨vs,kw⟩) R s:=by
 obtain⟨hh,g,d,t,os⟩:=s;exact PySem.W.make_core (PySem.W.makes_of X hm) (Zc X hi) (λself=>adt X self hf) (.inl rfl) h
end
def kH(f:Str)(v:V):List (Str×V)->List (Str×V)
 | []=>[(f,v)]
 |(g,x)::r=>if g=f then (g,v)::r else (g,x)::kH f v r
theorem pA(f g:Str)(v:V):∀fs:List (Str×V),(kH f v fs).lookup g=if g=f then some v else fs.lookup g
 | []=>by
  show Yu g [(f,v)]=_
  by_cases h:g=f
  .have hb:(g==f)=true:=beq_iff_eq.mpr h;simp only[Yu,hb,if_pos h]
  .have hb:(g==f)=false:=beq_eq_false_iff_ne.mpr h;simp only[Yu,hb,if_neg h]
 | (k,x)::r=>by
  have ih:=pA f g v r;rw[show kH f v ((k,x)::r)=(if k=f then (k,v)::r else (k,x)::kH f v r) from rfl]
  by_cases hk:k=f
  .rw[if_pos hk]
   by_cases h:g=k
   .have hb:(g==k)=true:=beq_iff_eq.mpr h;simp only[Yu,hb,if_pos (h.trans hk)]
   .have hb:(g==k)=false:=beq_eq_false_iff_ne.mpr h;simp only[Yu,hb,if_neg (λe:g=f=>h (e.trans hk.symm))]
  .rw[if_neg hk]
   by_cases h:g=k
   .have hb:(g==k)=true:=beq_iff_eq.mpr h;simp only[Yu,hb,if_neg (λe:g=f=>hk (h.symm.trans e))]
   .have hb:(g==k)=false:=beq_eq_false_iff_ne.mpr h;simp only[Yu,hb];exact ih
theorem oS(f:Str)(v:V):∀fs:List (Str×V),f∈(kH f v fs).map (·.1)/\∀g,g∈fs.map (·.1)->g∈(kH f v fs).map (·.1)
 | []=>⟨by simp[kH],λg h=>by simp at h⟩
 | (k,x)::r=>by
  obtain⟨i1,i2⟩:=oS f v r;rw[show kH f v ((k,x)::r)=(if k=f then (k,v)::r else (k,x)::kH f v r) from rfl]
  by_cases hk:k=f
  .rw[if_pos hk];subst hk;exact⟨by simp,λg h=>by simpa using h⟩
  .rw[if_neg hk];refine⟨?_,λg h=>?_⟩
   .rw[Wv];exact V5 _ i1
   .rw[Wv] at h ⊢;rcases Wd.mp h with e|e
    .exact Wd.mpr (.inl e)
    .exact V5 _ (i2 g e)
theorem pE(f:Str)(v:V):∀fs:List (Str×V),(kH f v fs).length<=fs.length+1
 | []=>by simp[kH]
 | (k,x)::r=>by
  have ih:=pE f v r;rw[show kH f v ((k,x)::r)=(if k=f then (k,v)::r else (k,x)::kH f v r) from rfl]
  by_cases hk:k=f
  .rw[if_pos hk,WS,WS];lia
  .rw[if_neg hk,WS,WS];lia
def k6.some_of{o:Option Value}(r:k6 (some v) o):∃u,o=some u/\RelV v u:=by
 cases o with
 | none=>exact(show False from r).elim
 |some u=>exact⟨u,rfl,r⟩
def k6.none_of{o:Option Value}(r:k6 none o):o=none:=by
 cases o with
 | none=>rfl
 |some u=>exact(show False from r).elim
def Bh(r:RelV v u):ac3 u=true:=by
 cases v with
 | c6=>cases (show u=WK from r);rfl
 | bl b=>cases (show u=Yk b from r);rfl
 | int i=>obtain⟨t,e⟩:=(show ∃t,u=aaD i t from r);cases e;rfl
 | str x=>obtain⟨t,e⟩:=(show ∃t,u=aaE x t from r);cases e;rfl
 | byt b=>obtain⟨t,e⟩:=(show ∃t,u=Value.bytes b t from r);cases e;rfl
 | JC b=>obtain⟨t,e⟩:=(show ∃t,u=abW b t from r);cases e;rfl
 | ref a=>cases (show u=V4 a from r);rfl
 |ty n=>cases (show u=Xp n from r);rfl
section
variable{fs fs':List (Str×V)}
def nA(bA:lR P w H h)(e:H a=some (.ins C dx fs)):∃mA,zH h a dx C mA/\(∀f,k6 (fs.lookup f) (mA f))/\acA mA (fs.map (·.1))/\fs.length<=1000/\H dx=some (.own a):=by
 obtain⟨d,z,ne,ob,mA,n,r,q⟩:=(show bD P w H h a (.ins C dx fs) from bA a _ e)
 exact⟨mA,⟨ob,n,ne⟩,r,q,z,d⟩
end
structure oh (K:VU) (C:Addr):Prop where
 pg:ZW K C Str.empty=true
 hd:ZI K C=true
 po:acB K C=true
 sa:W6 K (.ref C) "__setattr__"=some (some (.builtin "object.__setattr__"))
def oh.get{K:VU}(c:oh K C)(f:Str):ZW K C f=true:=c.pg
def cq(K:VU)(C:Addr)(f:Str):Prop:=W6 K (.ref C) f=some none
def cq.IV{K:VU}{f:Str}(n:cq K C f):Zw K C f=some none:=by
 unfold Zw;rw[show W6 K (.ref C) f=some none from n];rfl
structure Meth (K:VU) (C:Addr) (m:Str) (f:Addr):Prop where
 at_:W6 K (.ref C) m=some (some (.ref f))
 fn:Zi K (.ref f)=true
 kp:W8 K (.ref f)=true
variable{m:Str}
section
variable{fs:List (Str×V)}{f:Str}
def yP{b:Bool}(I:Inv X Q6 σ H s)(e:H a=some (.ins C dx fs))(c:oh X.K C)(n:cq X.K C f)(l:fs.lookup f=some v)(h:∀u s',Inv X Q6 σ H s'->RelV v u->Q u s'):wpAny ↑8 A (getAttr (.ref a) f b) Q E s:=by
 obtain⟨mA,O,r,_,_,_⟩:=nA I.bA e;obtain⟨u,hu,ru⟩:=k6.some_of (v:=v) (o:=mA f) (by rw[<- l];exact r f);exact get_map I.ku O (c.get f) c.hd n hu (Bh ru) (h u _ (I.tok _) ru)
def qV{g:Addr}{Q:Value×List Value->Shared->Prop}(I:Inv X Q6 σ H s)(e:H a=some (.ins C dx fs))(c:oh X.K C)(k:Meth X.K C m g)(l:fs.lookup m=none)(h:Q (.ref g,[.ref a]) s):wpAny ↑8 A (getMethod (.ref a) m pl) Q E s:=by
 obtain⟨mA,O,r,_,_,_⟩:=nA I.bA e;have hn:mA m=none:=k6.none_of (by rw[<- l];exact r m);exact EM I.ku O (c.get m) k.at_ k.fn hn h
theorem zE{y:V}{Q:Unit->Shared->Prop}(I:Inv X Q6 σ H s)(e:H a=some (.ins C dx fs))(c:oh X.K C)(n:cq X.K C f)(hl:fs.length<1000)(ry:RelV y u)(h:∀s',Inv X Q6 σ (upd H a (.ins C dx (kH f y fs))) s'->Q () s'):wpAny ↑8 A (setAttr (.ref a) f u) Q E s:=by
 obtain⟨mA,O,r,wi,_,ho⟩:=nA I.bA e;have hz:(fs.map (·.1)).length<=sizeLine:=by rw[VW,sizeLine_eq];lia
 refine HY I.ku O c.sa c.po n.IV c.hd wi hz λh' O' sb=>h _ ?_;have hd:∃o,h'.get? dx=some o:=let ⟨o,_,_,e',_⟩:=O'.ns;⟨o,e'⟩
 refine I.write (x:=a) (e:=dx) (by rw[e];exact Xq) (.inr ho) (λb q hb z=>(sb.2 b hb).trans z) hd ?_;refine⟨by rwa[au O.ne],?_,O.ne,O'.obj,_,O'.ns,λg=>?_,λg hg=>?_⟩
 .have:=pE f y fs;lia
 .show k6 ((kH f y fs).lookup g) (if g=f then some u else mA g);rw[pA]
  by_cases q:g=f
  .rw[if_pos q,if_pos q];exact ry
  .rw[if_neg q,if_neg q];exact r g
 .by_cases q:g=f
  .rw[q];exact(oS f y fs).1
  .refine(oS f y fs).2 g (wi g λz=>hg ?_);show (if g=f then some u else mA g)=none;rwa[if_neg q]
def Inv.made(I:Inv X Q6 σ H s):Inv X Q6 σ (upd (upd H s.heap.objs.size (.own (s.heap.objs.size+1))) (s.heap.objs.size+1) (.ins C s.heap.objs.size [])) { s with heap:=(s.heap.push XG).push (Yl C s.heap.objs.size) }:=by
 have e1:(s.heap.push XG).get? s.heap.objs.size=some XG:=V2 s.heap rfl;have e2:((s.heap.push XG).push (Yl C s.heap.objs.size)).get? (s.heap.objs.size+1)=some (Yl C s.heap.objs.size):=by
  have:=V2 (s.heap.push XG) (o:=Yl C s.heap.objs.size) rfl
  rwa [WN] at this
 have e3:(s.heap.push XG).Ns s.heap.objs.size (λ_=>none):=⟨XG,#[],_,e1,rfl,(λe he=>absurd he ↑13),λ_=>rfl⟩
 have I1:=I.laid (a:=s.heap.objs.size) (o:=.own (s.heap.objs.size+1)) (h':=s.heap.push XG) (t':=s.toks) (λb u q=>VR _ q) (VX _) ⟨_,e1⟩;refine I1.laid (a:=s.heap.objs.size+1) (o:=.ins C s.heap.objs.size []) (t':=s.toks) (λb u q=>VR _ q) (acE (WN _ _)) ?_;have ne:s.heap.objs.size≠s.heap.objs.size+1:=V_ (X7 _);refine⟨by rw[au ne,ay],Wb _,ne,e2,λ_=>none,(acF e3).at λo q=>VR _ q,λ_=>Xq,λy hy=>absurd rfl hy⟩
def GL{env:Env}{f:Str}{pos:Pos}(hb:attributeBase e f env (eval e env)=eval e env)(h:wpAny ↑11 A (eval e env) (λo s₁=>wpAny ↑11 A (getAttr o f true) Q E s₁) E s):wpAny ↑11 A (eval (.Attribute e f pos) env) Q E s :=
 Attribute_any_ h (by rw[arm_eval_Attribute,hb])
end
def PU(K:VU)(ta:TE)(f:Str):TE:=fun σ H Q=>ta σ H λx H1=>∃a C dx fs v,x=.ref a/\H1 a=some (.ins C dx fs)/\oh K C/\cq K C f/\fs.lookup f=some v/\Q v H1
def O9(K:VU)(ta tv:TE)(f:Str):TS:=λD σ H=>tv σ H λy H1=>ta σ H1 λx H2=>∃a C dx fs,x=.ref a/\H2 a=some (.ins C dx fs)/\oh K C/\cq K C f/\fs.length<1000 ∧
 D.nx σ (upd H2 a (.ins C dx (kH f y fs)))
section
variable{o value:Expr}{f:Str}{pos pos' VP:Pos}{tv:TE}
def K9(he:PE X e ta)(hb:attributeBase e f X.env (eval e X.env)=eval e X.env):PE X (.Attribute e f pos) (PU X.K ta f):=by
 intro Q6 s σ H Q I h;refine GL hb (cv (he Q6 s σ H _ I h) λu s1 ⟨x,H1,I1,rx,a,C,dx,fs,v,ex,ea,c,n,l,q⟩=>?_);subst ex;obtain rfl:u=V4 a:=rx;exact yP I1 ea c n l λu' s2 I2 ru=>⟨v,H1,I2,ru,q⟩
def LQ(ha:PE X o ta)(hv:PE X value tv)(hs:swapsWith value (some (.Attribute o f pos')) pos.line X.env=pure false):PS X (.Assign [.Attribute o f pos'] value pos) (O9 X.K ta tv f):=by
 intro Q6 s σ H D I h;refine ZU (cv (hv Q6 s σ H _ I h) λu s1 ⟨y,H1,I1,ry,q⟩=>cv (ha Q6 s1 σ H1 _ I1 q) λov s2 ⟨x,H2,I2,rx,a,C,dx,fs,ex,ea,c,n,l,q2⟩=>?_) hs;subst ex;obtain rfl:ov=V4 a:=rx;exact zE I2 ea c n l ry λs3 I3=>⟨σ,_,I3,q2⟩
end
section
variable{c:Value}{b:Bool}
inductive kI (K:VU) (H:Hp):V->Value->Prop where
 | c6:kI K H .c6 (.type "NoneType")
 | bl (x:Bool):kI K H (.bl x) (.type "bool")
 | int (i:Int):kI K H (.int i) (.type "int")
 | str (x:Str):kI K H (.str x) (.type "str")
 | JC (x:UInt64):kI K H (.JC x) (.type "float")
 | lst {a:Addr} {xs:List V} (e:H a=some (.lst xs)):kI K H (.ref a) (.type "list")
 | kJ {a:Addr} {o:Obj} {xs:List V} (e:H a=some (.kJ o (.lst xs))):kI K H (.ref a) (.type "list")
 | tup {a:Addr} {xs:List V} (e:H a=some (.tup xs)):kI K H (.ref a) (.type "tuple")
 | dK {a:Addr} {Q9:List (Key×V)} (e:H a=some (.dK Q9)):kI K H (.ref a) (.type "dict")
 | dT {a:Addr} {Q9:List (List Key×V)} (e:H a=some (.dT Q9)):kI K H (.ref a) (.type "dict")
 | ins {a C dx:Addr} {fs:List (Str×V)} (e:H a=some (.ins C dx fs)) (cl:oh K C) (ha:W6 K (.ref C) "__class__"=some (some (.builtin "object.__class__")))
   (hn:ZK K (.builtin "object.__class__") "__get__"=some (some (.builtin "getset_descriptor.__get__"))) (MM:aad K (.builtin "object.__class__")=some true)
   (hm:aa8 K C (.type "object")=some true):kI K H (.ref a) (.ref C)
def ux{x:V}{t:Value}(I:Inv X Q6 σ H s)(rx:RelV x u)(ty:kI X.K H x t)(e:Wr X.K t c=some b)(h:∀tk,Q (.bool b) { s with toks:=tk }):wpAny ↑8 A (call (.builtin "isinstance") [u,c]) Q E s:=by
 cases ty with
 | c6=>cases (show u=WK from rx);exact Xe acG I.ku Xq e (λz=>nomatch z) h
 | bl y=>cases (show u=Yk y from rx);exact Xe acH I.ku Xq e (λz=>nomatch z) h
 | int i=>obtain⟨t,q⟩:=(show ∃t,u=aaD i t from rx);cases q;exact Xe ac4 I.ku Xq e (λz=>nomatch z) h
 | str y=>obtain⟨t,q⟩:=(show ∃t,u=aaE y t from rx);cases q;exact Xe ac5 I.ku Xq e (λz=>nomatch z) h
 | JC y=>obtain⟨t,q⟩:=(show ∃t,u=abW y t from rx);cases q;exact Xe aco I.ku Xq e (λz=>nomatch z) h
 | @lst a xs ea =>
  cases (show u=V4 a from rx);obtain⟨_,_,n,_,h1⟩:=(show bD X.prog X.w H s.heap a (.lst xs) from I.bA a _ ea)
  exact Xe ZL I.ku ⟨_,h1,rfl⟩ e (λz=>nomatch z) h
 | @kJ a ob xs ea =>
  cases (show u=V4 a from rx);obtain⟨_,_,_,n,_,h1⟩:=(show bD X.prog X.w H s.heap a (.kJ ob (.lst xs)) from I.bA a _ ea)
  exact Xe ZL I.ku ⟨_,h1,rfl⟩ e (λz=>nomatch z) h
 | @tup a xs ea =>
  cases (show u=V4 a from rx);obtain⟨_,_,_,p⟩:=(show bD X.prog X.w H s.heap a (.tup xs) from I.bA a _ ea)
  obtain⟨o,h1,h2,_⟩:=p;exact Xe acp I.ku ⟨o,h1,h2⟩ e (λz=>nomatch z) h
 | @dK a Q9 ea =>
  cases (show u=V4 a from rx);obtain⟨_,_,vs,_,p⟩:=(show bD X.prog X.w H s.heap a (.dK Q9) from I.bA a _ ea)
  obtain⟨o,es,ep,h1,h2,_⟩:=p;exact Xe ZM I.ku ⟨o,h1,h2.1⟩ e (λz=>nomatch z) h
 | @dT a Q9 ea =>
  cases (show u=V4 a from rx);obtain⟨_,_,xs,_,o,es,ep,h1,h2,_⟩:=(show bD X.prog X.w H s.heap a (.dT Q9) from I.bA a _ ea)
  exact Xe ZM I.ku ⟨o,h1,h2.1⟩ e (λz=>nomatch z) h
 | @ins a C dx fs ea cl ha hn MM hm =>
  cases (show u=V4 a from rx);obtain⟨mA,O,_⟩:=nA I.bA ea;obtain⟨od,J,_⟩:=O.look;exact Xe (ac6 (cl.get _) cl.hd ha hn MM hm) I.ku J e (λz=>nomatch z) h
end
structure cp (k:Nat) (A:Around):Prop where
 hd:A.handled=none
 dp:A.depth+3*k+5<recursionLimit
 un:A.units+16*k+200<cLine
theorem cp.mono{j:Nat}(r:cp k A)(h:j<=k):cp j A:=⟨r.hd,by have:=r.dp;lia,by have:=r.un;lia⟩
theorem cp.deeper{k:Nat}{A:Around}(r:cp (k+1) A)(env:Env):cp k (A.deeper env) :=
 ⟨r.hd,by have:=r.dp;show A.depth+1+3*k+5<_;lia,by have:=r.un;show A.units+3+16*k+200<_;lia⟩
def zt:(A.under (.builtin "type.__call__" ⟨.ref C::us,kw⟩)).depth=A.depth+1:=by
 first|rfl|simp[acI,Code.weight,Code.isCreation,Code.isGuard,Code.isCaller,Code.frames,acJ,guardIds]
def z7:(A.under (.builtin "type.__call__" ⟨.ref C::us,kw⟩)).units=A.units+1:=by
 first|rfl|simp[acI,Code.cUnits,Code.frames,acJ]
theorem cp.make(r:cp (k+1) A)(C:Addr)(us:List Value)(kw:List (Str×Value)):cp k (A.under (.builtin "type.__call__" ⟨.ref C::us,kw⟩)) :=
 ⟨r.hd,by have:=r.dp;rw[zt];lia,by have:=r.un;rw[z7];lia⟩
theorem cp.depth{k:Nat}{A:Around}(r:cp k A):A.depth<recursionLimit:=by have:=r.dp;lia
theorem cp.units{k:Nat}{A:Around}(r:cp k A):A.units+64<cLine:=by have:=r.un;lia
theorem cp.KZ(r:cp k A):A.units<cLine:=by have:=r.un;lia
def yL:TA:=λ_ H Q=>Q [] H
def xW(ta:TE)(tr:TA):TA:=fun σ H Q=>ta σ H λx H1=>tr σ H1 λxs H2=>Q (x::xs) H2
section
variable{t:TA}{pos:Pos}
def fw:PA X [] yL:=λ_ _ _ _ H Q I h=>Calls.spliced_nil ⟨[],H,I,.nil,h⟩
def cz(ha:PE X e te)(hr:PA X es t)(hs:autoParam ↑0 aR._auto_1):PA X (e::es) (xW te t):=by
 intro pos Q6 s σ H Q I h;rw[hs];show wpAny _ _ (spliced ((false,eval e X.env)::backTo pos (starEach es X.env))) _ _ s;refine Calls.spliced_cons (cv (ha Q6 s σ H _ I h) λu s1 ⟨x,H1,I1,r1,q1⟩=>?_);exact cv (hr pos Q6 s1 σ H1 _ I1 q1) λus s2 ⟨xs,H2,I2,r2,q2⟩=>⟨x::xs,H2,I2,.cons r1 r2,q2⟩
def Pm(t:TA):TE:=fun σ H Q=>t σ H λxs H1=>xs.length<=sizeLine/\∀p,H1 p=none->Q (.ref p) (upd H1 p (.tup xs))
def GH(t:TA):TE:=fun σ H Q=>t σ H λxs H1=>xs.length<=sizeLine/\∀p,H1 p=none->Q (.ref p) (upd H1 p (.lst xs))
def Em{x1}(h:PA X es t):PE X (.Tuple es x1 pos) (Pm t):=by
 intro Q6 s σ H Q I hq;refine wpAny_Tuple_spliced (cv (h pos Q6 s σ H _ I hq) λus s1 ⟨xs,H1,I1,r,z,q⟩=>⟨by rwa[<- r.length],?_⟩);have hf:H1 s1.heap.objs.size=none:=I1.bA.fresh (VX _);refine⟨.ref s1.heap.objs.size,upd H1 s1.heap.objs.size (.tup xs),I1.laid (t':=s1.toks) (λb u e=>VR _ e) (VX _) ?_,rfl,q _ hf⟩;exact⟨z,us,r,⟨_,V2 _ rfl,rfl,_,rfl⟩⟩
def sS(h:PA X es t):PE X (.List es pos) (GH t):=by
 intro Q6 s σ H Q I hq;refine wpAny_List_spliced (cv (h pos Q6 s σ H _ I hq) λus s1 ⟨xs,H1,I1,r,z,q⟩=>⟨by rwa[<- r.length],?_⟩);have hf:H1 s1.heap.objs.size=none:=I1.bA.fresh (VX _);refine⟨.ref s1.heap.objs.size,upd H1 s1.heap.objs.size (.lst xs),I1.laid (t':=s1.toks) (λb u e=>VR _ e) (VX _) ?_,rfl,q _ hf⟩;exact⟨z,us,0,r,V2 _ rfl⟩
end
abbrev Sp:=List V->Hp->VK->XK->Prop
abbrev MI:=List Env->Hp->Shared->XK->Value->Shared->Prop
structure yJ (P:Program) (w:World) (K:VU) (mg:Str->Option Value) (base:Heap) (A:Around) (outer:List Env) (s:Shared) (H:Hp):Prop where
 frames:A.frames=some outer
 mod:Mod K mg base
 bs:∀b o,base.get? b=some o->s.heap.get? b=some o/\H b=none
 Ex:base.objs.size<=s.heap.objs.size
 mw:s.heap.FunFrames base outer
 Ge:∀b∈yG outer,H b=none
 bA:lR P w H s.heap
 bare:AllBare s.gens
def CE(outer:List Env)(P:Program)(w:World)(H:Hp)(s:Shared)(Q:VK)(u:Value)(s':Shared):Prop :=
 ∃v H',s'.os=s.os/\AllBare s'.gens/\Un (yG outer) [] H H' s.heap s'.heap/\lR P w H' s'.heap/\RelV v u/\Q v H'
def CR(CX:MI)(outer:List Env)(P:Program)(w:World)(H:Hp)(s:Shared)(Q:VK)(E:XK)(r:Result)(s':Shared):Prop :=
 match r with
 | .ok (.ret u)=>CE outer P w H s Q u s'
 | .ok _=>False
 |.error e=>CX outer H s E e s'
structure aT (P:Program) (w:World) (K:VU) (mg:Str->Option Value) (base:Heap) (CX:MI) (k:Nat) (f:Addr) (fd:FuncData) (ps:List Str) (sp:Sp):Prop where
 len:∀vs H Q E,sp vs H Q E->vs.length=ps.length
 run:∀(A:Around)(outer:List Env)(s:Shared)(H:Hp)(args:Args)(us:List Value)(vs:List V)(Q:VK)(E:XK),cp k A->yJ P w K mg base A outer s H->BindsTo s fd args (ps.zip us)->Vals vs us->sp vs H Q E ->
  codeAny (model P w) A (.call (.ref f) args) (CR CX outer P w H s Q E) s
variable{outer:List Env}{base:Heap}{mg:Str->Option Value}
def yJ.make{K:VU}(e:yJ P w K mg base A outer s H)(C:Addr)(us:List Value)(kw:List (Str×Value)):yJ P w K mg base (A.under (.builtin "type.__call__" ⟨.ref C::us,kw⟩)) outer s H:=⟨by first|exact e.frames|(simpa [acI,Code.envs,acJ,pushEnvs] using e.frames),e.mod,e.bs,e.Ex,e.mw,e.Ge,e.bA,e.bare⟩
section
variable{s':Shared}
def Inv.mW(I:Inv X Q6 σ H s):yJ X.prog X.w X.K X.mg X.base X.A X.stack s H :=
 ⟨I.ok.frames,I.ok.mod,I.bs,WE I.ok.Ex I.sz,I.stack,I.wH,I.bA,I.bare⟩
def Inv.after{Q:VK}(I:Inv X Q6 σ H s)(h:CE X.stack X.prog X.w H s Q u s'):EP X Q6 σ Q u s':=by
 obtain⟨v,H',os,bare,un,bA,r,q⟩:=h;obtain⟨hh,g,d,t,os'⟩:=s';obtain rfl:os'=s.os:=os;exact⟨v,H',I.call (h':=hh) (g':=g) (d':=d) (t':=t) (ch:=[]) un bA bare (λb z=>absurd z ↑13),r,q⟩
end
def Binds(K:VU)(fd:FuncData)(ps:List Str)(ds:List Value):Prop :=
 ∀(s:Shared)(us:List Value),K.In s.heap->(us++ds).length=ps.length->BindsTo s fd ⟨us,[]⟩ (ps.zip (us++ds))
variable{ps:List Str}{fd:FuncData}
def Binds.all{K:VU}(h:∀us:List Value,us.length=ps.length->bindArgs fd ⟨us,[]⟩=pure (ps.zip us)):Binds K fd ps []:=λs us _ hl=>by
 rw[W9] at hl ⊢;exact .of_eq (h us hl)
variable{sp:Sp}{CX:MI}
section
variable{f:Addr}{R0:List V}{ds:List Value}{E:XK}{pos apos:Pos}{o:Expr}{t:TA}
structure Mk (K:VU) (C f:Addr):Prop where
 makes:ads K C=true
 init:W6 K (.ref C) "__init__"=some (some (.ref f))
 fn:Zi K (.ref f)=true
 kp:W8 K (.ref C)=true
end
section
variable{f:Addr}{ks:List Str}{E:XK}{pos apos kpos:Pos}{o:Expr}{kws:List Keyword}{t tk:TA}{nm:Option Str}
variable{g:List Value->List Value->List Value}{gV:List V->List V->List V}
end
structure cS (N P:List Str) (sc:Scope):Prop where
 kind:sc.kind=.function
 co:sc.isCoroutine=false
 gen:sc.isGenerator=false
 nd:N.Nodup
 pre:N.take P.length=P
 par:∀x∈P,sc.names.lookup x=some .local\/sc.names.lookup x=some .cell
 LU:∀y∈sc.names,y.2≠.free
theorem uc{kindOf:Str->Option NameKind}{x:Str}:∀{binds:List (Str×Value)}{m:Str->Option Value},(∀v,(x,v) ∉ binds)->bindL kindOf binds m x=m x
 | [],_,_=>rfl
 | (n,v)::r,m,h=>by
  unfold bindL;rw[uc λw hw=>h w (V5 _ hw)]
  split
  .have:x≠n:=by rintro rfl;exact h v V7
   simp[this]
  .rfl
theorem ue{kindOf:Str->Option NameKind}{x:Str}:∀{binds:List (Str×Value)}{m:Str->Option Value},(∀v,(x,v) ∉ binds)->bindC kindOf binds m x=m x
 | [],_,_=>rfl
 | (n,v)::r,m,h=>by
  unfold bindC;rw[ue λw hw=>h w (V5 _ hw)]
  split
  .rfl
  .have:x≠n:=by rintro rfl;exact h v V7
   simp[this]
theorem uv{kindOf:Str->Option NameKind}{x:Str}{v:Value}:∀{P:List Str}{vs:List Value}{i:Nat}{m:Str->Option Value},P.Nodup->P[i]?=some x->vs[i]?=some v->kindOf x=some .local ->bindL kindOf (P.zip vs) m x=some v
 | [],_,_,_,_,h,_,_=>by simp at h
 | _::_,[],_,_,_,_,h,_=>by simp at h
 | p::P,w::vs,0,m,nd,h1,h2,hk=>by
  simp at h1 h2;subst h1;subst h2;show bindL kindOf ((p,w)::P.zip vs) m p=_;unfold bindL;rw[uc λv hv=>(Zy.mp nd).1 (Xf hv).1,if_pos hk];simp
 | p::P,w::vs,i+1,m,nd,h1,h2,hk=>by
  show bindL kindOf ((p,w)::P.zip vs) m x=_;unfold bindL;exact uv (i:=i) (Zy.mp nd).2 (by simpa using h1) (by simpa using h2) hk
theorem uq{kindOf:Str->Option NameKind}{x:Str}{v:Value}:∀{P:List Str}{vs:List Value}{i:Nat}{m:Str->Option Value},P.Nodup->P[i]?=some x->vs[i]?=some v->kindOf x≠some .local ->bindC kindOf (P.zip vs) m x=some v
 | [],_,_,_,_,h,_,_=>by simp at h
 | _::_,[],_,_,_,_,h,_=>by simp at h
 | p::P,w::vs,0,m,nd,h1,h2,hk=>by
  simp at h1 h2;subst h1;subst h2;show bindC kindOf ((p,w)::P.zip vs) m p=_;unfold bindC;rw[ue λv hv=>(Zy.mp nd).1 (Xf hv).1,if_neg hk];simp
 | p::P,w::vs,i+1,m,nd,h1,h2,hk=>by
  show bindC kindOf ((p,w)::P.zip vs) m x=_;unfold bindC;exact uq (i:=i) (Zy.mp nd).2 (by simpa using h1) (by simpa using h2) hk
def start(N:List Str)(vs:List V):St:=vs.map some++VS (N.length-vs.length) none
def mR(CX:MI)(P:Program)(w:World)(K:VU)(mg:Str->Option Value)(base:Heap)(N:List Str)(qual:Str)(scope:Scope)(f:Addr)(cd:Value)(A:Around)(outer:List Env)(s:Shared)(H:Hp)(E:XK):Cx where
 prog:=P
 w:=w
 K:=K
 mg:=mg
 base:=base
 A:=A.deeper (envOfC qual scope s.heap.objs.size f cd)
 N:=N
 s₀:=s
 H₀:=H
 env:=envOfC qual scope s.heap.objs.size f cd
 outer:=outer
 stack:=envOfC qual scope s.heap.objs.size f cd::outer
 ex:=[]
 calm:=true
 fn:=λ_=>true
 pn:=[]
 xe:=λe s'=>wpAny (model P w) (A.deeper (envOfC qual scope s.heap.objs.size f cd)) (leaving (envOfC qual scope s.heap.objs.size f cd) e) (λ_ VN=>CX outer H s E e VN) (λe' VN=>CX outer H s E e' VN) s'
def xU{sc:Scope}(h:sc.names.lookup x=some .cell):∃c,(cellsFrom n sc.names []).lookup x=some c:=by
 have q:=abq sc.names n [] (.inl h);exact YN.mp q
variable{scope:Scope}
theorem Bf{K:VU}{qual:Str}{f:Addr}{cd:Value}{s1:Shared}{E:XK}{vs:List V}(S:cS N ps scope)(hd:A.handled=none)(e0:yJ P w K mg base A outer s H)(hl:vs.length=ps.length)(r:Vals vs us)(x:InCallC s s.heap.objs.size (bindL (envOfC qual scope s.heap.objs.size f cd).kindOf (ps.zip us) λ_=>none) (cellsFrom (s.heap.objs.size+1) scope.names []) (bindC (envOfC qual scope s.heap.objs.size f cd).kindOf (ps.zip us) λ_=>none) s1):Inv (mR CX P w K mg base N qual scope f cd A outer s H E) [] (start N vs) H s1:=by
 have Rt:ps.length<=N.length:=by have:=congrArg Zd S.pre;rw[abc] at this;lia
 obtain⟨h1,tk,rfl,hk⟩:=x.done;have tD:∀b:Addr,b ∉ (mR CX P w K mg base N qual scope f cd A outer s H E).ex:=λb z=>absurd (show b∈([]:List Addr) from z) ↑13;refine⟨⟨e0.mod,S.kind,rfl,rfl,VX _,λy z c h1 h2=>?_,λy hy=>?_,λy c _ h=>?_,λ_=>hd,Around.frames_deeper e0.frames,.inr ⟨rfl,rfl⟩,λb z=>absurd z (tD b),e0.bs,e0.Ex,λb _ _=>tD b,λb z=>absurd z (tD b),e0.mw,e0.Ge⟩,
  rfl,e0.bare,Un.kept hk,⟨_,x.toInCall.ns,λi y v h1 h2 h3=>?_⟩,λy c h=>⟨_,x.cell y c h⟩,e0.bA.fresh (VX _),λy c h=>?_,λp hp=>absurd (show p∈([]:List (Addr×Obj)) from hp) ↑13,e0.bA.kept hk,?_⟩
 .exact name_of_addr x.apart (YU h1) (YU h2)
 .have hy:scope.names.lookup y=some .cell\/scope.names.lookup y=some .free:=hy;rcases hy with hy|hy
  .exact xU hy
  .exact absurd rfl (S.LU _ (YU hy))
 .exact Y5 (x.above y c (YU h))
 .have hi:i<vs.length:=by
   unfold start at h2
   by_cases hi:i<vs.length
   .exact hi
   .rw[WV (by simpa using hi)] at h2;rw[ZD] at h2
    split at h2<;>cases h2
  have ha:vs[i]?=some v:=by
   unfold start at h2;rw[W3 (by simpa using hi),Ww] at h2;cases e:vs[i]? with
   | none=>rw[e] at h2;cases h2
   | some a=>rw[e] at h2;cases h2;rfl
  obtain⟨u,hu,rv⟩:=r.get ha;have hp:ps[i]?=some y:=by
   rwa[<- S.pre,List.getElem?_take_of_lt ⋯]
  have ndP:ps.Nodup:=by rw[<- S.pre];exact S.nd.sublist (List.take_sublist _ _)
  refine⟨u,rv,?_⟩;rcases S.par y (abZ hp) with k|k
  .exact .inl ⟨k,uv ndP hp hu k⟩
  .obtain⟨c,e⟩:=xU (n:=s.heap.objs.size+1) k;refine .inr ⟨.inl k,c,e,?_⟩;have q:=x.cell y c e;rwa[uq ndP hp hu (by show scope.names.lookup y≠_;rw[k];decide)] at q
 .exact e0.bA.fresh (Y5 (x.above y c (YU h)))
 .unfold start;show _=N.length;rw[WD,VW,ZV];lia
def M3{K:VU}{f:Addr}{name qual:Str}{params:Arguments}{dV kV doc pm Rw ct oc:Value}{an od:Option Addr}{Ur:Array (Option Value)}(lk:K.lookup f=some ⟨oc,od,.func (Xr name qual params body scope dV kV doc pm an Rw ct),Ur⟩)(R3:Yd K Rw qual=true)(S:cS N ps scope)(len:∀vs H Q E,sp vs H Q E->vs.length=ps.length)(T9:∀(A:Around)(outer:List Env)(s:Shared)(H:Hp)(vs:List V)(Q:VK)(E:XK),cp k (A.deeper (envOfC qual scope s.heap.objs.size f Rw))->sp vs H Q E ->∃t,lA (mR CX P w K mg base N qual scope f Rw A outer s H E) body t/\t { nx:=λ_ H'=>Q .c6 H',rt:=Q } (start N vs) H):aT P w K mg base CX (k+1) f (Xr name qual params body scope dV kV doc pm an Rw ct) ps sp:=by
 refine⟨len,λA outer s H args us vs Q E hr e0 hb r hsp=>?_⟩;have hl:=len _ _ _ _ hsp;have KX:K.In s.heap:=e0.mod.GJ.keeps λb o e=>(e0.bs b o e).1;have lim:s.heap.NoLimit:=e0.mod.nolimit.keeps λb o e=>(e0.bs b o e).1;have Vx:∀y∈ps.zip us,scope.names.lookup y.1=some .local\/(scope.names.lookup y.1=some .cell/\((cellsFrom (s.heap.objs.size+1) scope.names []).lookup y.1).isSome=true):=λ⟨n,v⟩ hy=>by
  rcases S.par n (Xf hy).1 with q|q
  .exact .inl q
  .exact .inr ⟨q,abq _ _ _ (.inl q)⟩
 refine codeAny_call_function hr.depth (KX _ _ lk) rfl S.co S.gen rfl (PySem.W.codeRec_of KX R3) (hb _ _ _ _ ?_);refine wpAny_newFunctionEnv_cells S.kind Vx λenv he s1 x=>?_;subst he;refine⟨lim.keeps x.toInCall.keep,codeAny_func ?_⟩;obtain⟨t,ht,hq⟩:=T9 A outer s H vs Q E (hr.deeper _) hsp;have I:Inv (mR CX P w K mg base N qual scope f Rw A outer s H E) [] (start N vs) H s1:=Bf S hr.hd e0 hl r x;refine XO (ht [] s1 (start N vs) H _ I hq) (λfl s' hs=>?_) λe s' hs=>hs;have fin:∀{σ':St}{H':Hp}{v:V}{u:Value},Inv (mR CX P w K mg base N qual scope f Rw A outer s H E) [] σ' H' s'->RelV v u->Q v H'->CE outer P w H s Q u s' :=
  λ{σ' H' v u} J rv q=>⟨v,H',J.os,J.bare,J.base,J.bA,rv,q⟩
 cases fl with
 | ret u =>
  obtain⟨v,σ',H',J,rv,q⟩:=hs;exact fin J rv q
 | next =>
  obtain⟨σ',H',J,q⟩:=hs;exact fin (v:=V.c6) (u:=WK) J rfl q
 | brk =>
  obtain⟨_,_,_,q⟩:=hs;exact XY q
 | cont =>
  obtain⟨_,_,_,q⟩:=hs;exact XY q
section
variable{pos:Pos}{t:TA}{id T:String}{r:List V->Hp->VK->Prop}
def OD(r:List V->Hp->VK->Prop)(t:TA):TE:=fun σ H Q=>t σ H λvs H1=>r vs H1 Q
def jA(hc:c8 X (.builtin id) r)(hg:Gl X x)(hm:X.mg x=none)(hv:bootBuiltins x=some (.builtin id))(ha:PA X (e::es) t)(hn:autoParam (x ≠ "__name__") aD._auto_1)(Sb:autoParam ↑7 aD._auto_1)(he:autoParam ↑0 aR._auto_1)(Rt:autoParam ↑2 aR._auto_1):PE X (.Call (.Name x p) (e::es) [] pos) (OD r t):=by
 intro Q6 s σ H Q I h;refine X8 (jK I hg hm hv ?_ hn Sb);exact PyProof.Rows.callWith_builtin1 (cv (ha pos Q6 s σ H _ I h) λus s1 ⟨vs,H1,I1,r1,q1⟩=>hc Q6 s1 σ H1 vs us Q I1 r1 q1) he Rt
def oO(hc:c8 X (.type T) r)(hg:Gl X x)(hm:X.mg x=none)(hv:bootBuiltins x=some (.type T))(ha:PA X (e::es) t)(hn:autoParam (x ≠ "__name__") aD._auto_1)(Sb:autoParam ↑7 aD._auto_1)(he:autoParam ↑0 aR._auto_1)(Rt:autoParam ↑2 aR._auto_1):PE X (.Call (.Name x p) (e::es) [] pos) (OD r t):=by
 intro Q6 s σ H Q I h;refine X8 (jK I hg hm hv ?_ hn Sb);exact Xb (cv (ha pos Q6 s σ H _ I h) λus s1 ⟨vs,H1,I1,r1,q1⟩=>hc Q6 s1 σ H1 vs us Q I1 r1 q1) he Rt
end
end L2
namespace HT
open PySem PyProof.Rows
def lexLt:List Int->List Int->Bool
 | [],[]=>false
 | [],_::_=>true
 | _::_,[]=>false
 |x::xs,y::ys=>if x=y then lexLt xs ys else decide (x<y)
def fP(x y:Int)(xs ys:List Int):lexLt (x::xs) (y::ys)=if x=y then lexLt xs ys else decide (x<y):=rfl
def tM:lexLt [] []=false:=rfl
def sk(y:Int)(ys:List Int):lexLt [] (y::ys)=true:=rfl
def rP(x:Int)(xs:List Int):lexLt (x::xs) []=false:=rfl
def Fl(A:Around)(s:Shared)(a:Int)(t:Tok)(c:Int)(u:Tok):∃e,SeqAt.EqAt A s (.int a t) (.int c u) e/\(e=true ↔ a=c) :=
 ⟨(a==c),SeqAt.EqAt.int_int a t c u,by simp⟩
def D_(A:Around)(s:Shared)(a:Int)(t:Tok)(c:Int)(u:Tok)(prog:Program)(w:World)(E:Value->Shared->Prop)(Q:Value->Shared->Prop)(h:Q (.bool (decide (a<c))) s):wpAny ↑11 A (richCompare .Lt (.int a t) (.int c u)) Q E s :=
 (PyProof.Rows.lt_int h:wpAny ↑11 A (compareOp .Lt (.int a t) (.int c u)) Q E s)
section
open PySem.SeqAt
open PySem.AutoSeq1 (wpAny_loadPart')
open PySem.MeetsSeq PySem.MeetsSeq2 PySem.MeetsSeq3
def tJ(l b:Addr)(items RH:Array Value)(n n2:Nat)(dd Uz:Option Addr)(sl UU:Array (Option Value))(ns ms:List Int)(hi:IntsAre items.toList ns)(hj:IntsAre RH.toList ms):Meets (Builtin.«tuple.__lt__» ⟨[.ref l,.ref b],[]⟩) (λ_ R s=>s.heap.get? l=some { cls:=.type "tuple",dict:=dd,data:=.seq items n,slots:=sl }/\s.heap.get? b=some { cls:=.type "tuple",dict:=Uz,data:=.seq RH n2,slots:=UU } ∧R (.ok (.ret (.bool (lexLt ns ms)))) s) :=
 .of_wp λprog w A R s h=>by
  obtain⟨hp,g,d,tk,os⟩:=s;obtain⟨hl,hb,h⟩:=h;have f2:=YO;have z1:items.size=ns.length:=by rw[<- hi.length];simp
  have z2:RH.size=ms.length:=by rw[<- hj.length];simp
  wp_walk using Y7 hl,Y7 hb,wpAny_forIn_list _ (λrest b s'=>b.1=none/\s'=⟨hp,g,d,tk,os⟩/\∃(vs ws:List Value)(Vf Ve:List Int),rest=vs.zip ws ∧
   IntsAre vs Vf/\IntsAre ws Ve/\Vf.length+RH.size=Ve.length+items.size/\R (.ok (.ret (.bool (lexLt Vf Ve)))) ⟨hp,g,d,tk,os⟩) _
  case turn =>
   rintro⟨y,x⟩ rest b s' ⟨Vo,rfl,vs,ws,Vf,Ve,hz,hvi,hwi,hlen,hR⟩;cases hvi with
   | nil=>rw[acK] at hz;cases hz
   | cons a t hvi' =>
    cases hwi with
    | nil=>rw[List.zip_nil_right] at hz;cases hz
    | cons c u hwi' =>
     rw[X9] at hz;injection hz with hyx xZ
     injection hyx with hy hx
     subst hy hx;rw[fP] at hR;simp only[WS] at hlen;obtain⟨e,he,Vw⟩:=Fl A.in1 ⟨hp,g,d,tk,os⟩ a t c u;refine VQ (he prog w _ _ ?_);cases e with
     | true =>
      rw[if_pos (Vw.mp rfl)] at hR
      wp_walk
      exact⟨rfl,rfl,_,_,_,_,xZ,hvi',hwi',by lia,hR⟩
     | false =>
      rw[if_neg (λq=>absurd (Vw.mpr q) WY)] at hR;have hri:=D_ A.in1 ⟨hp,g,d,tk,os⟩ a t c u prog w
      wp_walk using hri
      exact⟨_,rfl,by simpa using hR⟩
  case fin =>
   rintro⟨b1,b2⟩ s' ⟨Vo,rfl,vs,ws,Vf,Ve,hz,hvi,hwi,hlen,hR⟩;simp only at Vo;subst Vo;have hv:lexLt Vf Ve=decide (items.size<RH.size):=by
    cases hvi with
    | nil =>
     cases hwi with
     | nil =>
      simp only[aae] at hlen;rw[tM];exact(decide_eq_false ⋯).symm
     | cons c u hw =>
      simp only[aae,WS] at hlen;rw[sk];exact(decide_eq_true ⋯).symm
    | cons a t hv =>
     cases hwi with
     | nil =>
      simp only[aae,WS] at hlen;rw[rP];exact(decide_eq_false ⋯).symm
     | cons c u hw =>
      rw[X9] at hz;cases hz
   rw[hv] at hR
   wp_walk
   exact⟨_,rfl,by simpa [Builtin.Tuple.tupleCompareSizes] using hR⟩
  case h =>
   exact⟨rfl,rfl,items.toList,RH.toList,ns,ms,rfl,hi,hj,by lia,h⟩
end
variable{Q:Value->Shared->Prop}{items:Array Value}
section
variable{prog:Program}{w:World}{A:Around}{E:Value->Shared->Prop}{s:Shared}
def zO{l b:Addr}{RH:Array Value}{ns ms:List Int}(hl:IsTup s.heap l items)(hb:IsTup s.heap b RH)(hi:IntsAre items.toList ns)(hj:IntsAre RH.toList ms)(hu:A.units<cLine)(h:Q (.bool (lexLt ns ms)) s):wpAny ↑11 A (compareOp .Lt (.ref l) (.ref b)) Q E s:=by
 obtain⟨⟨cls,dd,data,sl⟩,ho,hc,n,hd⟩:=id hl;obtain⟨⟨Vi,Uz,data2,UU⟩,Ti,TZ,n2,hd2⟩:=id hb;simp only at hc hd TZ hd2;subst hc hd TZ hd2;exact richCompare_meets_room (op:=.Lt) ⟨_,ho,rfl⟩ ⟨_,Ti,rfl⟩ PySem.F.slot_tuple_lt PySem.F.entry_tuple_lt (PySem.F.args_tuple_lt_2 _ _) (tJ l b items RH n n2 dd Uz sl UU ns ms hi hj)
  ⟨ho,Ti,show Yk (lexLt ns ms)≠ab0/\Q (.bool (lexLt ns ms)) s from ⟨(λx=>nomatch x),h⟩⟩ hu
def HP{t b:Addr}{vs ws:List Value}(ht:IsTup s.heap t vs.toArray)(hb:IsTup s.heap b ws.toArray)(hv:vs≠[])(h1:ws=[]->Q (.ref t) s)(h2:ws≠[]->Q (.ref s.heap.objs.size) { s with heap:=s.heap.push { cls:=.type "tuple",data:=.seq (vs++ws).toArray } })(hsz:vs.length+ws.length<=sizeLine):wpAny ↑11 A (binaryOp .Add (.ref t) (.ref b)) Q E s:=by
 obtain⟨⟨cls,dd,data,sl⟩,ho,hc,n,hd⟩:=id ht;obtain⟨⟨Vi,Uz,data2,UU⟩,Ti,TZ,n2,hd2⟩:=id hb;simp only at hc hd TZ hd2;subst hc hd TZ hd2;have e:vs.toArray++ws.toArray=(vs++ws).toArray:=by simp
 by_cases hw:ws=[]
 .exact acL ⟨_,ho,rfl⟩ ⟨_,Ti,rfl⟩ abd ace ZN ZE (Zs _ _)
   (tuple_addW1 t b vs.toArray ws.toArray n n2 dd Uz sl UU (by simpa using hv) (by simp[hw])) ⟨ho,Ti,h1 hw⟩
 .refine acL ⟨_,ho,rfl⟩ ⟨_,Ti,rfl⟩ abd ace ZN ZE (Zs _ _)
   (tuple_addW2 t b vs.toArray ws.toArray n n2 dd Uz sl UU (by simpa using hv) (by simpa using hw) (by rwa[Wa,Wa])) ⟨ho,Ti,?_⟩
  rw[e];exact h2 hw
def dJ(n d:Nat):Option Int->Nat
 | none=>d
 |some v=>if v<0 then (v+(n:Int)).toNat else min v.toNat n
def Ez(n d:Nat):dJ n d none=d:=rfl
theorem Hm(n d k:Nat):dJ n d (some (k:Int))=min k n:=by
 show (if (k:Int)<0 then ((k:Int)+(n:Int)).toNat else min (k:Int).toNat n)=min k n;rw[if_neg ⋯,Wq]
theorem Lo(n d:Nat)(hd:d<=n)(o:Option Int):dJ n d o<=n:=by
 cases o with
 | none=>exact hd
 | some v =>
  show (if v<0 then (v+(n:Int)).toNat else min v.toNat n)<=n
  by_cases hv:v<0
  .rw[if_pos hv];lia
  .rw[if_neg hv];exact abe _ _
theorem Ay(v:Int)(n d:Nat):(if v<0 then max (v+(n:Int)) 0 else min v (n:Int))=((dJ n d (some v):Nat):Int):=by
 show (if v<0 then max (v+(n:Int)) 0 else min v (n:Int))=(((if v<0 then (v+(n:Int)).toNat else min v.toNat n):Nat):Int)
 by_cases hv:v<0
 .simp only[if_pos hv];lia
 .simp only[if_neg hv];lia
theorem z8(lo hi:Option Int)(n:Nat):Zl lo hi 1 (n:Int)=(((dJ n 0 lo:Nat):Int),((dJ n n hi:Nat):Int)):=by
 have h1:¬ ((1:Int)<0):=by lia
 unfold Zl;simp only[h1,if_false];refine Prod.ext ?_ ?_
 .cases lo with
  | none=>rfl
  | some v=>exact Ay v n 0
 .cases hi with
  | none=>rfl
  |some v=>exact Ay v n n
theorem yW(i j:Nat):YF (i:Int) (j:Int) 1=j-i:=by
 unfold YF;have h1:(1:Int)>0:=by lia
 simp only[h1,if_true,Int.ediv_one]
 split<;>lia
def qP{v:Value}{o:Option Int}{Q:Option Int->Shared->Prop}(p:IsPart v o)(h:Q o s):wpAny ↑11 A (Builtin.Slice.slicePartIndex v) Q E s:=by
 cases p with
 | none=>exact slicePart_none h
 |int i t=>exact slicePart_int h
def jG{sl:Addr}{vl vu:Value}{lo hi:Option Int}{n:Nat}{Q:Int×Int×Nat->Shared->Prop}(hs:s.heap.IsSliceOf sl vl vu .none)(pl:IsPart vl lo)(pu:IsPart vu hi)(h:Q (((dJ n 0 lo:Nat):Int),1,dJ n n hi-dJ n 0 lo) s):wpAny ↑11 A (aaH (.ref sl) (pure (n:Int))) Q E s:=by
 obtain⟨os,U2,hcs,Vt⟩:=id hs;unfold aaH Builtin.Slice.sliceFields;refine VQ (VQ (Wz U2 Vt (x:=vl) rfl (VQ (Wz U2 Vt (x:=vu) rfl (VQ (Wz U2 Vt (x:=.none) rfl (VY ?_)))))));refine VQ (slicePart_none ?_);show wpAny _ _ (if ((1:Int)==0)=true then _ else _) _ _ s;rw[if_neg ↑12];refine VQ (qP pl (VQ (qP pu (VQ (VY ?_)))));show wpAny _ _ (match Zl lo hi 1 (n:Int) with|(lo,hi)=>pure (lo,(1:Int),YF lo hi 1)) _ _ s;rw[z8 lo hi n];show wpAny _ _ (pure (((dJ n 0 lo:Nat):Int),(1:Int),YF ((dJ n 0 lo:Nat):Int) ((dJ n n hi:Nat):Int) 1)) _ _ s;rw[yW];exact VY h
theorem FK(xs:Array Value)(i k:Nat):((V6 k).filterMap λ(m:Nat)=>xs[((i:Int)+(m:Int)*1).toNat]?).toArray=((xs.toList.drop i).take k).toArray:=by
 have e:(λ(m:Nat)=>xs[((i:Int)+(m:Int)*1).toNat]?)=λm=>xs[i+m]?:=by
  funext m
  have:((i:Int)+(m:Int)*1).toNat=i+m:=by lia
  rw[this]
 rw[e];have:=pick_run xs i k;rw[List.filterMap_map] at this;have e2:((λx=>xs[x]?)∘λx=>i+x)=λm=>xs[i+m]?:=rfl;rw[e2] at this;rw[this]
theorem nU{t sl:Addr}{vl vu:Value}{lo hi:Option Int}(ht:IsTup s.heap t items)(hs:s.heap.IsSliceOf sl vl vu .none)(pl:IsPart vl lo)(pu:IsPart vu hi)(hw:¬ (dJ items.size 0 lo=0/\dJ items.size items.size hi=items.size))(h:Q (.ref s.heap.objs.size) { s with heap:=s.heap.push { cls:=.type "tuple",data:=.seq ((items.toList.drop (dJ items.size 0 lo)).take (dJ items.size items.size hi-dJ items.size 0 lo)).toArray } })(hsz:items.size<=sizeLine):wpAny ↑11 A (getItem (.ref t) (.ref sl)) Q E s:=by
 have TM:sizeOk (.seq ((items.toList.drop (dJ items.size 0 lo)).take (dJ items.size items.size hi-dJ items.size 0 lo)).toArray):=by
  show ((items.toList.drop (dJ items.size 0 lo)).take (dJ items.size items.size hi-dJ items.size 0 lo)).toArray.size<=sizeLine;rw[Wa,abc,Yz,XD];lia
 have hj:dJ items.size items.size hi<=items.size:=Lo _ _ (VX _) hi;obtain⟨os,U2,hcs,Vt⟩:=id hs;have hTs:s.TypeIs (.ref sl) "slice" := ⟨os,U2,hcs⟩
 unfold getItem
 try with_reducible refine Xm ?_
 first|refine VQ (VY ?_)|skip
 refine VQ (wpAny_sequenceKey ht.typeIs ↑12 ?_);refine VQ (WQ (name:=WG "__getitem__") ht.typeIs Xc
  (Xg Xc ht.typeIs entry_tuple_getitem ?_ (args_tuple_getitem _ _)))
 show wpAny _ _ (aaI (.ref t) >>= _) _ _ s;refine VQ (tupleItemsOf_ ht ?_);refine VQ (aat hTs ?_);rw[if_pos ↑12];refine VQ (jG hs pl pu ?_);have hno:¬ ((((dJ items.size 0 lo:Nat):Int)==0&&(1:Int)==1&&(dJ items.size items.size hi-dJ items.size 0 lo)==items.size)=true):=by
  intro q;rw[WT,WT] at q;have q1:((dJ items.size 0 lo:Nat):Int)=0:=eq_of_beq q.1.1;have q2:dJ items.size items.size hi-dJ items.size 0 lo=items.size:=eq_of_beq q.2;exact hw ⟨by lia,by lia⟩
 show wpAny _ _ (if (((dJ items.size 0 lo:Nat):Int)==0&&(1:Int)==1&&(dJ items.size items.size hi-dJ items.size 0 lo)==items.size)=true then _ else _) _ _ s;rw[if_neg hno,FK]
 first
  | exact VQ (m:=YQ _) (Xa (VY ⟨_,rfl,VY h⟩) TM)
  | exact VQ (m:=YQ _) (Xa (VQ (VY (VY ⟨_,rfl,VY h⟩))) TM)
  | exact VQ (VQ (m:=YQ _) (Xa (VY (VY ⟨_,rfl,VY h⟩)) TM))
  |exact VQ (VQ (m:=YQ _) (Xa (VY ⟨_,rfl,VY h⟩) TM))
end
end HT
namespace L2
open PySem PySem.Spec PyProof.Rows
abbrev TO:=St->Hp->(Option Int->Hp->Prop)->Prop
def PO(X:Cx)(e:Option Expr)(t:TO):Prop :=
 ∀ (Q6:List (Addr×Obj)) (s:Shared) (σ:St) (H:Hp) (Q:Option Int->Hp->Prop),Inv X Q6 σ H s->t σ H Q ->
  wpAny ↑8 X.A (evalPart e X.env) (λu s'=>∃o H',Inv X Q6 σ H' s'/\IsPart u o/\Q o H') X.xe s
def GF:TO:=λ_ H Q=>Q none H
def M5(t:TE):TO:=fun σ H Q=>t σ H λx H1=>∃i,x=.int i/\Q (some i) H1
def intsAre_of{ns:List Int}:∀{us:List Value},Vals (ns.map V.int) us->IntsAre us ns:=by
 induction ns with
 | nil=>intro us r;rw[aau] at r;cases r;exact .nil
 | cons n ns ih =>
  intro us r;rw[Wv] at r;cases r with
  | cons r1 r2 =>
   obtain⟨t,e⟩:=r1;subst e;exact .cons n t (ih r2)
variable{e:Expr}{X:Cx}
variable{r:V->Option Int->Option Int->Hp->VK->Prop}
section
variable{te:TE}{lo hi:Option Expr}{tl th:TO}{pos p2:Pos}
def HE:PO X none GF:=by
 intro Q6 s σ H Q I h;rw[evalPart_none];exact VY ⟨none,H,I,.none,h⟩
def Gk(h:PE X e te):PO X (some e) (M5 te):=by
 intro Q6 s σ H Q I hw;rw[evalPart_some];refine cv (h Q6 s σ H _ I hw) λu s1 ⟨x,H1,I1,r1,q1⟩=>?_;obtain⟨i,rfl,q⟩:=q1;obtain⟨t,rfl⟩:=r1;exact⟨some i,H1,I1,.int i t,q⟩
def Gb(X:Cx)(r:V->Option Int->Option Int->Hp->VK->Prop):Prop :=
 ∀ (Q6:List (Addr×Obj)) (s:Shared) (σ:St) (H:Hp) (x:V) (v vl vu:Value) (lo hi:Option Int) (sl:Addr) (Q:VK),Inv X Q6 σ H s->RelV x v->s.heap.IsSliceOf sl vl vu .none->IsPart vl lo->IsPart vu hi->r x lo hi H Q ->
  ∃T id,typeLookup (.type T) "__getitem__"=pure (some (.builtin id))/\s.TypeIs v T/\wpAny ↑8 X.A (getItem v (.ref sl)) (EP X Q6 σ Q) X.xe s
def Gb.or{r':V->Option Int->Option Int->Hp->VK->Prop}(h:Gb X r)(h':Gb X r'):Gb X (λx lo hi H Q=>r x lo hi H Q\/r' x lo hi H Q):=by
 intro Q6 s σ H x v vl vu lo hi sl Q I rx hs pl pu q;rcases q with q|q
 .exact h Q6 s σ H x v vl vu lo hi sl Q I rx hs pl pu q
 .exact h' Q6 s σ H x v vl vu lo hi sl Q I rx hs pl pu q
def QB(r:V->Option Int->Option Int->Hp->VK->Prop)(te:TE)(tl th:TO):TE:=fun σ H Q=>te σ H λx H1=>tl σ H1 λl H2=>th σ H2 λu H3=>r x l u H3 Q
def CU(hr:Gb X r)(he:PE X e te)(hl:PO X lo tl)(hu:PO X hi th):PE X (.Subscript e (.Slice lo hi none p2) pos) (QB r te tl th):=by
 intro Q6 s σ H Q I h;refine Subscript_ (cv (he Q6 s σ H _ I h) λv s1 ⟨x,H1,I1,r1,q1⟩=>?_);refine wpAny_Slice (cv (hl Q6 s1 σ H1 _ I1 q1) λvl s2 ⟨l,H2,I2,pl,q2⟩=>cv (hu Q6 s2 σ H2 _ I2 q2) λvu s3 ⟨u,H3,I3,pu,q3⟩=>?_);rw[evalPart_none];refine VY ?_;have I4:Inv X Q6 σ H3 { s3 with heap:=s3.heap.push { cls:=.type "slice",data:=.fields #[vl,vu,.none] } }:=I3.kept (t':=s3.toks) λb ob q=>VR _ q;obtain⟨T,id,hT,ht,hg⟩:=hr Q6 { s3 with heap:=s3.heap.push { cls:=.type "slice",data:=.fields #[vl,vu,.none] } } σ H3 x v vl vu l u s3.heap.objs.size Q I4 r1 (Heap.IsSliceOf.new ..) pl pu q3;show wpAny ↑8 X.A (subscriptTail e (.Slice lo hi none p2) v (.ref s3.heap.objs.size)) (EP X Q6 σ Q) X.xe { s3 with heap:=s3.heap.push { cls:=.type "slice",data:=.fields #[vl,vu,.none] } };exact tail_any (ops:=[.ref s3.heap.objs.size,v]) ht hT hg (by with_unfolding_all rfl)
def xi(xs:List V)(lo hi:Option Int):List V:=(xs.drop (HT.dJ xs.length 0 lo)).take (HT.dJ xs.length xs.length hi-HT.dJ xs.length 0 lo)
theorem pf(xs:List V)(lo hi:Option Int):(xi xs lo hi).length<=xs.length:=by
 unfold xi;rw[abc,Yz];lia
def OU(K:VU):V->Option Int->Option Int->Hp->VK->Prop:=λx lo hi H Q=>∃a xs,x=.ref a/\g9 K H a xs ∧
 ¬ (HT.dJ xs.length 0 lo=0/\HT.dJ xs.length xs.length hi=xs.length)/\∀p,H p=none->Q (.ref p) (upd H p (.tup (xi xs lo hi)))
def Kt:Gb X (OU X.K):=by
 intro Q6 s σ H x v vl vu lo hi sl Q I rx hs pl pu h;obtain⟨a,xs,rfl,hx,hw,q⟩:=h;cases rx;obtain⟨Rb,r,ht,hz⟩:=I.tuple hx;have hlen:Rb.toArray.size=xs.length:=by rw[Wa];exact r.length.symm
 refine⟨"tuple",_,Xc.lookup,ht.typeIs,?_⟩;refine HT.nU ht hs pl pu (by rwa[hlen]) ?_ (by rwa[hlen]);rw[hlen];refine⟨.ref s.heap.objs.size,_,I.laid (t':=s.toks) (o:=.tup (xi xs lo hi)) (λb ob q=>VR _ q) (VX _) ?_,rfl,q _ (I.bA.fresh (VX _))⟩;exact⟨WE (pf xs lo hi) hz,_,(r.drop (HT.dJ xs.length 0 lo)).take (HT.dJ xs.length xs.length hi-HT.dJ xs.length 0 lo),ac7 _ _⟩
def JM(K:VU):R2:=λx y H Q=>∃a b xs ys,x=.ref a/\y=.ref b/\g9 K H a xs/\g9 K H b ys/\xs≠[]/\xs.length+ys.length<=sizeLine ∧
 (ys=[]->Q (.ref a) H)/\(ys≠[]->∀p,H p=none->Q (.ref p) (upd H p (.tup (xs++ys))))
def Vals.nV{xs:List V}{us:List Value}(r:Vals xs us):us=[] ↔ xs=[]:=by
 cases r with
 | nil=>simp
 |cons _ _=>simp
def Im:gR X (binaryOp .Add) (JM X.K):=by
 intro Q6 s σ H x y v u Q I rx ry h;obtain⟨a,b,xs,ys,rfl,rfl,ha,hb,hx,hz,q1,q2⟩:=h;cases rx;cases ry;obtain⟨Rb,r1,p1,_⟩:=I.tuple ha;obtain⟨SI,r2,p2,_⟩:=I.tuple hb;refine HT.HP p1 p2 (λz=>hx (r1.nV.mp z)) (λz=>⟨.ref a,H,I,rfl,q1 (r2.nV.mp z)⟩) (λz=>?_) (by rwa[<- r1.length,<- r2.length]);refine⟨.ref s.heap.objs.size,_,I.laid (t':=s.toks) (o:=.tup (xs++ys)) (λb ob q=>VR _ q) (VX _) ?_,rfl,q2 (λw=>z (r2.nV.mpr w)) _ (I.bA.fresh (VX _))⟩;exact⟨by rwa[WD],_,r1.append r2,ac7 _ _⟩
end
def CI(n:Nat)(i:Int):Option Nat:=if 0<=i then (if i<n then some i.toNat else none) else if -(n:Int)<=i then some (i+n).toNat else none
variable{α:Type}
def wN(xs:List α)(i:Int):Option α:=(CI xs.length i).bind λj=>xs[j]?
variable{j n:Nat}{i:Int}
theorem Ax(h:CI n i=some j):seqIndex? i n=some j/\j<n/\-(n:Int)<=i/\i<n:=by
 unfold CI at h
 by_cases h0:0<=i
 .rw[if_pos h0] at h
  by_cases h1:i<n
  .rw[if_pos h1] at h;have e:i.toNat=j:=V9 h;exact⟨by rw[seqIndex_of h0 h1,e],by lia,by lia,h1⟩
  .rw[if_neg h1] at h;cases h
 .rw[if_neg h0] at h
  by_cases h1:-(n:Int)<=i
  .rw[if_pos h1] at h;have e:(i+n).toNat=j:=V9 h;exact⟨by rw[acM ⋯ h1,e],by lia,h1,by lia⟩
  .rw[if_neg h1] at h;cases h
def vF{xs:List α}{v:α}(h:wN xs i=some v):∃j,seqIndex? i xs.length=some j/\xs[j]?=some v/\j<xs.length/\-(xs.length:Int)<=i/\i<xs.length:=by
 unfold wN at h;cases e:CI xs.length i with
 | none=>rw[e] at h;cases h
 | some j =>
  rw[e] at h;obtain⟨h1,h2,h3,h4⟩:=Ax e;exact⟨j,h1,h,h2,h3,h4⟩
theorem vH{xs:List α}{v:α}(h:xs[j]?=some v):wN xs (j:Int)=some v:=by
 have hj:j<xs.length:=(WB.mp h).1;have e:CI xs.length (j:Int)=some j:=by
  unfold CI;rw[if_pos ⋯,if_pos ⋯];simp
 unfold wN;rwa[e]
def wo(b:Expr):Prop:=∀o i,subscripted b false o i=operate [o,i] (getItem o i)
def G9(X:Cx)(r:R2):Prop :=
 ∀ (value slice:Expr) (Q6:List (Addr×Obj)) (s:Shared) (σ:St) (H:Hp) (x y:V) (v u:Value) (Q:VK),Inv X Q6 σ H s->RelV x v->RelV y u->r x y H Q ->
  subscripted slice false v u=operate [v,u] (getItem v u)->wpAny ↑8 X.A (subscriptTail value slice v u) (EP X Q6 σ Q) X.xe s
def QN(X:Cx)(id:String)(r:V->List V->Hp->VK->Prop):Prop :=
 ∀ (Q6:List (Addr×Obj)) (s:Shared) (σ:St) (H:Hp) (x:V) (xs:List V) (v:Value) (us:List Value) (Q:VK),Inv X Q6 σ H s->RelV x v->Vals xs us->r x xs H Q ->
  wpAny ↑8 X.A (call (.builtin id) (v::us)) (EP X Q6 σ Q) X.xe s
variable{Rb:List Value}{s:Shared}{H:Hp}{σ:St}{Q6:List (Addr×Obj)}
section
variable{a b:Expr}{ta tb:TE}{pos:Pos}
def G9.or{r r':R2}(h:G9 X r)(h':G9 X r'):G9 X (λx y H Q=>r x y H Q\/r' x y H Q):=by
 intro value slice Q6 s σ H x y v u Q I rx ry q hs;rcases q with q|q
 .exact h value slice Q6 s σ H x y v u Q I rx ry q hs
 .exact h' value slice Q6 s σ H x y v u Q I rx ry q hs
def Jj{r:R2}(hr:G9 X r)(ha:PE X a ta)(hb:PE X b tb)(hs:wo b):PE X (.Subscript a b pos) (JG r ta tb):=by
 intro Q6 s σ H Q I h;exact Subscript_ (Li ha hb I h λv u s2 x y H2 I2 rx ry q=>hr a b Q6 s2 σ H2 x y v u Q I2 rx ry q (hs _ _))
def M7(K:VU):R2:=λx y H Q=>∃p xs i v,x=.ref p/\y=.int i/\gQ K H p xs/\wN xs i=some v/\Q v H
def N7(K:VU):R2:=λx y H Q=>∃p xs i v,x=.ref p/\y=.int i/\g9 K H p xs/\wN xs i=some v/\Q v H
def M_:R2:=λx y H Q=>∃z i c,x=.str z/\y=.int i/\z.length<=sizeLine/\wN z.cps.toList i=some c/\Q (.str ⟨#[c]⟩) H
theorem Ia:G9 X (M7 X.K):=by
 intro value slice Q6 s σ H x y v u Q I rx ry h hs;obtain⟨p,xs,i,z,rfl,rfl,hq,he,q⟩:=h;cases rx;obtain⟨t,rfl⟩:=ry;obtain⟨Rb,r,pl,hz⟩:=I.list hq;obtain⟨j,h1,h2,h3,h4,h5⟩:=vF he;obtain⟨w,ew,Td⟩:=r.get h2;have hl:=r.length;have hn:=oj;have fin:EP X Q6 σ Q w s:=⟨z,H,I,Td,q⟩
 by_cases h0:0<=i
 .have hj:i.toNat=j:=by
   rw[seqIndex_of h0 h5] at h1;exact V9 h1
  exact item_listR pl.isList h0 ⋯ (by rw[hj];simpa using ew) fin hs
 .have hj:(i+(Rb.toArray.size:Int)).toNat=j:=by
   rw[acM ⋯ h4] at h1;rw[Wa,<- hl];exact V9 h1
  exact abr (x:=w) pl.isList.typeIs slot_list_getitem.lookup
   (wpAny_getItem_list_neg (Q:=λr s'=>r=w/\EP X Q6 σ Q r s') pl.isList ⋯ (by rw[Wa]<;>lia) ⋯ (by rw[hj];simpa using ew) ⟨rfl,fin⟩) hs
theorem Kk:G9 X (N7 X.K):=by
 intro value slice Q6 s σ H x y v u Q I rx ry h hs;obtain⟨p,xs,i,z,rfl,rfl,hq,he,q⟩:=h;cases rx;obtain⟨t,rfl⟩:=ry;obtain⟨Rb,r,pl,hz⟩:=I.tuple hq;obtain⟨j,h1,h2,h3,h4,h5⟩:=vF he;obtain⟨w,ew,Td⟩:=r.get h2;have hl:=r.length;have hn:=oj;have fin:EP X Q6 σ Q w s:=⟨z,H,I,Td,q⟩
 exact abr (x:=w) pl.typeIs slot_tuple_getitem.lookup
  (getItem_tuple (j:=j) (Q:=λr s'=>r=w/\EP X Q6 σ Q r s') pl ⋯ ⋯ (by rwa[Wa,<- hl]) (by simpa using ew) ⟨rfl,fin⟩) hs
theorem MA:G9 X M_:=by
 intro value slice Q6 s σ H x y v u Q I rx ry h hs;obtain⟨z,i,c,rfl,rfl,hz,he,q⟩:=h;obtain⟨t,rfl⟩:=rx;obtain⟨t',rfl⟩:=ry;obtain⟨j,h1,h2,h3,h4,h5⟩:=vF he;have hl:z.cps.toList.length=z.length:=by simp[Str.length]
 rw[hl] at h1 h4 h5;have hn:=oj;exact tail_any (typeIs_str s z t) slot_str_getitem.lookup (getItem_str (c:=c) (by
  have e1:decide (i < -(2^63:Int))=false:=decide_eq_false ⋯;have e2:decide (i>=2^63)=false:=decide_eq_false ⋯;rw[e1,e2,Bool.or_false]) (by rw[h1];simpa using h2) ⟨.str ⟨#[c]⟩,H,I.tok _,⟨_,rfl⟩,q⟩) hs
def Pf(K:VU):R2:=λx y H Q=>M7 K x y H Q\/N7 K x y H Q\/M_ x y H Q
def Eh:G9 X (Pf X.K):=Ia.or (Kk.or MA)
def y9(Rb:List Value)(n j:Nat)(u:Value):Ym (·.setIfInBounds j u) { cls:=.type "list",data:=.seq Rb.toArray n }={ cls:=.type "list",data:=.seq (Rb.set j u).toArray n }:=by
 simp[Ym]
theorem Inv.lst{Q6:List (Addr×Obj)}{σ:St}{H:Hp}{s:Shared}{p:Addr}{xs:List V}(I:Inv X Q6 σ H s)(h:H p=some (.lst xs)):∃(Rb:List Value)(n:Nat),Vals xs Rb/\s.heap.get? p=some { cls:=.type "list",data:=.seq Rb.toArray n }/\xs.length<=sizeLine:=by
 obtain⟨z,Rb,n,r,e⟩:=I.bA p _ h;exact⟨Rb,n,r,e,z⟩
def Inv.Lf{p:Addr}{xs ys:List V}{its':List Value}{n':Nat}{f:Obj->Obj}(I:Inv X Q6 σ H s)(h:H p=some (.lst xs))(ho:s.heap.get? p=some { cls:=.type "list",data:=.seq Rb.toArray n })(hf:f { cls:=.type "list",data:=.seq Rb.toArray n }={ cls:=.type "list",data:=.seq its'.toArray n' })(r:Vals ys its')(hz:ys.length<=sizeLine)(t:Nat):Inv X Q6 σ (upd H p (.lst ys)) { s with heap:=s.heap.update p f,toks:=t }:=by
 have e:(s.heap.update p f).get? p=some { cls:=.type "list",data:=.seq its'.toArray n' }:=by
  rw[WL f ho (by rw[hf]<;>rfl),hf]
 refine I.write (x:=p) (e:=p) (by rw[h];trivial) (.inl rfl) (λb u hb q=>(Wn _ _ (Xs hb)).trans q) ⟨_,e⟩ ?_;exact⟨hz,its',n',r,e⟩
def Oh:V->V->V->Hp->(Hp->Prop)->Prop:=λo i v H Q=>∃p xs k j,o=.ref p/\i=.int k/\H p=some (.lst xs)/\CI xs.length k=some j/\Q (upd H p (.lst (xs.set j v)))
theorem set_list:MY X Oh:=by
 intro Q6 s σ H o i v ov iv u Q I ro ri rv h;obtain⟨p,xs,k,j,rfl,rfl,hp,hj,q⟩:=h;cases ro;obtain⟨t,rfl⟩:=ri;obtain⟨Rb,n,r,ho,hz⟩:=I.lst hp;obtain⟨h1,h2,h3,h4⟩:=Ax hj;have hl:=r.length;have hn:=oj;have I':Inv X Q6 σ (upd H p (.lst (xs.set j v))) { s with heap:=s.heap.update p (Ym (·.setIfInBounds j u)) } :=
  I.Lf hp ho (y9 Rb n j u) (r.set rv j) (by rwa[Y8]) s.toks
 by_cases h0:0<=k
 .have hk:k.toNat=j:=by
   rw[seqIndex_of h0 h4] at h1;exact V9 h1
  exact PySem.W.ki_setAt ho h0 ⋯ (by rwa[Wa,<- hl]) (by rw[hk];exact⟨_,I',q⟩)
 .have hk:(k+(Rb.toArray.size:Int)).toNat=j:=by
   rw[acM ⋯ h3] at h1;rw[Wa,<- hl];exact V9 h1
  exact PySem.W.ki_setBack ho ⋯ (by rwa[Wa,<- hl]) ⋯ (by rw[hk];exact⟨_,I',q⟩)
theorem wL(lo hi:Option Int)(n:Nat):(sliceBounds lo hi none n).1=((HT.dJ n 0 lo:Nat):Int)/\(sliceBounds lo hi none n).2.1=((HT.dJ n n hi:Nat):Int)/\(sliceBounds lo hi none n).2.2=1:=by
 refine⟨?_,?_,rfl⟩
 .cases lo with
  | none=>simp[sliceBounds,HT.dJ]
  | some i =>
   simp only[sliceBounds,HT.dJ,ac8,show (1:Int)>0 by decide,if_true]
   by_cases h:i<0
   .simp only[h,if_true]<;>lia
   .simp only[h,if_false]<;>lia
 .cases hi with
  | none=>simp[sliceBounds,HT.dJ]
  | some i =>
   simp only[sliceBounds,HT.dJ,ac8,show (1:Int)>0 by decide,if_true]
   by_cases h:i<0
   .simp only[h,if_true]<;>lia
   .simp only[h,if_false]<;>lia
def t9(Rb:List Value)(lo hi:Option Int):slicePick Rb.toArray lo hi none=((Rb.drop (HT.dJ Rb.length 0 lo)).take (HT.dJ Rb.length Rb.length hi-HT.dJ Rb.length 0 lo)).toArray:=by
 obtain⟨h1,h2,h3⟩:=wL lo hi Rb.toArray.size;unfold slicePick;rw[h1,h2,h3];simp only[sliceRange_one,pick_run,Wa]<;>rfl
def O7(K:VU):V->Option Int->Option Int->Hp->VK->Prop:=λx lo hi H Q=>∃a xs,x=.ref a/\gQ K H a xs/\∀p,H p=none->Q (.ref p) (upd H p (.lst (xi xs lo hi)))
theorem Ij:Gb X (O7 X.K):=by
 intro Q6 s σ H x v vl vu lo hi sl Q I rx hs pl pu h;obtain⟨a,xs,rfl,hx,q⟩:=h;cases rx;obtain⟨Rb,r,ht,hz⟩:=I.list hx;have hlen:=r.length;refine⟨"list",_,slot_list_getitem.lookup,ht.isList.typeIs,?_⟩;refine wpAny_getItem_list_slice ht.isList hs pl pu .none ↑13 ?_ (by rw[Wa]<;>lia);rw[t9,<- hlen];refine⟨.ref s.heap.objs.size,_,I.laid (t':=s.toks) (o:=.lst (xi xs lo hi)) (λb ob q=>VR _ q) (VX _) ?_,rfl,q _ (I.bA.fresh (VX _))⟩;exact⟨WE (pf xs lo hi) hz,_,0,(r.drop (HT.dJ xs.length 0 lo)).take (HT.dJ xs.length xs.length hi-HT.dJ xs.length 0 lo),V2 _ rfl⟩
theorem wF:c8 X (.builtin "len") (λxs H Q=>∃p ys,xs=[.ref p]/\(gQ X.K H p ys\/g9 X.K H p ys)/\Q (.int ys.length) H):=by
 intro Q6 s σ H xs us Q I r h;obtain⟨p,ys,rfl,hq,q⟩:=h;obtain⟨u,rfl,rx⟩:=vals1 r;cases rx;have hn:=oj;rcases hq with hq|hq
 .obtain⟨Rb,r',pl,hz⟩:=I.list hq;have hlen:=r'.length;exact Calls.call_len_list pl.isList (by simp only[Wa]<;>lia) ⟨.int ys.length,H,I.tok _,⟨s.toks+1,by rw[Wa,hlen]⟩,q⟩
 .obtain⟨Rb,r',pl,hz⟩:=I.tuple hq;have hlen:=r'.length;exact len_tuple pl (by simp only[Wa]<;>lia) ⟨.int ys.length,H,I.tok _,⟨s.toks+1,by rw[Wa,hlen]⟩,q⟩
theorem vY:c8 X (.builtin "len") (λxs H Q=>∃z,xs=[.str z]/\z.length<=sizeLine/\Q (.int z.length) H):=by
 intro Q6 s σ H xs us Q I r h;obtain⟨z,rfl,hz,q⟩:=h;obtain⟨u,rfl,t,rfl⟩:=vals1 r;have hn:=oj;exact len_str ⋯ ⟨.int z.length,H,I.tok _,⟨_,rfl⟩,q⟩
def c8.or{f:Value}{r r':List V->Hp->VK->Prop}(h:c8 X f r)(h':c8 X f r'):c8 X f (λxs H Q=>r xs H Q\/r' xs H Q):=by
 intro Q6 s σ H xs us Q I rs q;rcases q with q|q
 .exact h Q6 s σ H xs us Q I rs q
 .exact h' Q6 s σ H xs us Q I rs q
theorem nJ:c8 X (.type "list") (λxs H Q=>∃p ys,xs=[.ref p]/\(gQ X.K H p ys\/g9 X.K H p ys)/\∀l,H l=none->Q (.ref l) (upd H l (.lst ys))):=by
 intro Q6 s σ H xs us Q I r h;obtain⟨p,ys,rfl,hq,q⟩:=h;obtain⟨u,rfl,rx⟩:=vals1 r;cases rx;have fin:∀(Rb:List Value),Vals ys Rb->ys.length<=sizeLine->∀(h':Heap)(c':Nat),(∀b o',s.heap.get? b=some o'->h'.get? b=some o') ->
   h'.get? s.heap.objs.size=some { cls:=.type "list",dict:=none,data:=.seq Rb.toArray c',slots:=#[] }->EP X Q6 σ Q (.ref s.heap.objs.size) { s with heap:=h' }:=λRb r' hz h' c' kp e =>
  ⟨.ref s.heap.objs.size,_,I.laid (t':=s.toks) kp (VX _) (show bD X.prog X.w _ h' _ (.lst ys) from ⟨hz,Rb,c',r',e⟩),rfl,q _ (I.bA.fresh (VX _))⟩
 rcases hq with hq|hq
 .obtain⟨Rb,r',pl,hz⟩:=I.list hq;have hlen:=r'.length;obtain⟨o,ho,hc,n,hd⟩:=pl.isList;exact call_list_seq p (.inl rfl) ho hc hd (λh' c' kp e=>fin Rb r' hz h' c' kp e) (by simp only[Wa]<;>lia)
 .obtain⟨Rb,r',pl,hz⟩:=I.tuple hq;have hlen:=r'.length;obtain⟨o,ho,hc,n,hd⟩:=pl;exact call_list_seq p (.inr rfl) ho hc hd (λh' c' kp e=>fin Rb r' hz h' c' kp e) (by simp only[Wa]<;>lia)
theorem sZ:c8 X (.type "tuple") (λxs H Q=>∃p ys,xs=[.ref p]/\((gQ X.K H p ys/\∀l,H l=none->Q (.ref l) (upd H l (.tup ys)))\/(g9 X.K H p ys/\Q (.ref p) H))):=by
 intro Q6 s σ H xs us Q I r h;obtain⟨p,ys,rfl,h⟩:=h;obtain⟨u,rfl,rx⟩:=vals1 r;cases rx;rcases h with ⟨hq,q⟩|⟨hq,q⟩
 .obtain⟨Rb,r',pl,hz⟩:=I.list hq;have hlen:=r'.length;refine call_tuple_list pl.isList (λh' kp=>?_) (by simp only[Wa]<;>lia);have I1:Inv X Q6 σ H { s with heap:=h' }:=I.kept (t':=s.toks) kp;have I2:Inv X Q6 σ (upd H h'.objs.size (.tup ys)) { s with heap:=h'.push { cls:=.type "tuple",data:=.seq Rb.toArray } } :=
   I1.laid (t':=s.toks) (λb o e=>VR _ e) (VX _) (show bD X.prog X.w _ _ _ (.tup ys) from ⟨hz,Rb,r',ac7 _ _⟩)
  exact⟨.ref h'.objs.size,_,I2,rfl,q _ (I1.bA.fresh (VX _))⟩
 .obtain⟨Rb,r',pl,hz⟩:=I.tuple hq;exact call_tuple_same pl ⟨.ref p,H,I,rfl,q⟩
def Ql(K:VU)(T:String)(x:V)(H:Hp):Prop:=match x with
 | .str _=>T="str"
 | .int _=>T="int"
 | .ref p=>(T="list" /\ ∃xs,gQ K H p xs)\/(T="tuple" /\ ∃o,K.lookup p=some o/\o.cls=.type "tuple" /\ o.dict=none) ∨
   (T="dict" /\ ((∃Q9,H p=some (.dK Q9))\/∃Q9,H p=some (.dT Q9)))\/(T="set" /\ ∃S n,H p=some (.set S n))
 |_=>False
def Ln{T:String}{x:V}{v:Value}(I:Inv X Q6 σ H s)(r:RelV x v)(ty:Ql X.K T x H):s.TypeIs v T/\∀a,v=.ref a->∃ob,s.heap.get? a=some ob/\ob.dict=none:=by
 cases x with
 | str z =>
  obtain⟨t,rfl⟩:=r;cases (show T="str" from ty);exact⟨typeIs_str s z t,λ_ e=>nomatch e⟩
 | int i =>
  obtain⟨t,rfl⟩:=r;cases (show T="int" from ty);exact⟨abt s i t,λ_ e=>nomatch e⟩
 | ref p =>
  cases r;rcases ty with ⟨rfl,xs,hq⟩|⟨rfl,o,hk,hc,hd⟩|⟨rfl,hk⟩|⟨rfl,S,n,hk⟩
  .obtain⟨Rb,_,pl,_⟩:=I.list hq;refine⟨pl.isList.typeIs,λa e=>?_⟩;cases e;obtain⟨o,n,e,c,hd,_⟩:=pl;exact⟨o,e,hd⟩
  .refine⟨⟨o,I.ku p o hk,hc⟩,λa e=>?_⟩;cases e;exact⟨o,I.ku _ o hk,hd⟩
  .have z:∃o,s.heap.get? p=some o/\o.ExactDict:=by
    rcases hk with ⟨Q9,hk⟩|⟨Q9,hk⟩
    .obtain⟨_,_,_,_,o,_,_,e,ex,_⟩:=I.bA p _ hk;exact⟨o,e,ex⟩
    .obtain⟨_,_,_,_,o,_,_,e,ex,_⟩:=I.bA p _ hk;exact⟨o,e,ex⟩
   obtain⟨o,e,ex⟩:=z;refine⟨⟨o,e,ex.1⟩,λa e2=>?_⟩;cases e2;exact⟨o,e,ex.2.1⟩
  .obtain⟨o,_,_,_,e,ex,_⟩:=I.bA p _ hk;refine⟨⟨o,e,ex.1⟩,λa e2=>?_⟩;cases e2;exact⟨o,e,ex.2.1⟩
 |_=>exact XY ty
def Qr(K:VU)(T:String)(r:V->List V->Hp->VK->Prop)(to:TE)(t:TA):TE:=fun σ H Q=>to σ H λx H1=>Ql K T x H1/\t σ H1 λxs H2=>r x xs H2 Q
variable{o:Expr}{es:List Expr}{to:TE}{t:TA}{name:Str}{apos Rz:Pos}{T id:String}{r:V->List V->Hp->VK->Prop}
def Jl(pa:PlainAttrs T)(slot:Slot T name id)(hty:typeOf (.builtin id)=pure (.type "method_descriptor"))(hm:QN X id r)(ho:PE X o to)(ha:PA X (e::es) t)(T8:autoParam (attributeBase o name X.env (eval o X.env)=eval o X.env) aR._auto_1)(UX:autoParam (((backTo Rz (starEach (e::es) X.env)).all (λx=>!x.1)&&(backToKw Rz (keywordEach [] X.env)).all (λx=>x.1.isSome) && decide ((e::es).length+([]:List Keyword).length+(if ([]:List Keyword).isEmpty then 0 else 1)<30))=true) aR._auto_1)(Ue:autoParam ((apos.endLine==Rz.line)=true) aR._auto_1)(hs:autoParam ↑0 aR._auto_1)(Tp:autoParam ((backTo Rz (starEach es X.env)).any (·.1)=false) aR._auto_1):PE X (.Call (.Attribute o name apos) (e::es) [] Rz) (Qr X.K T r to t):=by
 intro Q6 s σ H Q I h;refine wpAny_Call_method_late T8 UX Ue rfl (cv (ho Q6 s σ H _ I h) λv s1 ⟨x,H1,I1,r1,ty,q1⟩=>?_);obtain⟨h1,h2⟩:=Ln I1 r1 ty;refine⟨T,id,pa,slot,hty,h1,h2,?_⟩;have hA:=ha Rz Q6 s1 σ H1 _ I1 q1;rw[hs] at hA ⊢;refine Calls.callWith_builtin (by show (false||(backTo Rz (starEach es X.env)).any (·.1))=false;rw[Tp]<;>rfl) (Calls.evalArgs_plain ?_);exact cv hA λus s2 ⟨vs,H2,I2,r2,q2⟩=>hm Q6 s2 σ H2 x vs v us Q I2 r1 r2 q2
end
def QH(X:Cx)(id:String)(r:V->List V->Hp->VK->Prop):Prop :=
 ∀ (Q6:List (Addr×Obj)) (s:Shared) (σ:St) (H:Hp) (x:V) (xs:List V) (v:Value) (us:List Value) (Q:VK),Inv X Q6 σ H s->RelV x v->Vals xs us->r x xs H Q ->
  wpAny ↑8 X.A (call (.builtin id) (v::us)) (EP X Q6 σ Q) X.xe s
def Vals.one:∀{x:V}{us:List Value},Vals [x] us->∃u,us=[u]/\RelV x u
 |_,_,.cons r .nil=>⟨_,rfl,r⟩
theorem Vals.rep{xs:List V}{us:List Value}(h:Vals xs us):∀k:Nat,Vals (VS k xs).flatten (VS k us).flatten
 | 0=>.nil
 | k+1=>by
  rw[Xo,Xo,XZ,XZ];exact Vals.append h (Vals.rep h k)
theorem foldl_rep(Rb:List Value):∀(k:Nat)(acc:List Value),aaJ (λx1 x2=>x1++x2) acc.toArray (VS k Rb.toArray)=(acc++(VS k Rb).flatten).toArray
 | 0,acc=>by simp
 | k+1,acc=>by
  have e:acc.toArray++Rb.toArray=(acc++Rb).toArray:=by simp
  have e2:(acc++Rb)++(VS k Rb).flatten=acc++(VS (k+1) Rb).flatten:=by
   rw[Xo,XZ,acN]
  rw[<- e2,<- foldl_rep Rb k (acc++Rb),<- e,Xo,abI]
variable{b:Addr}
variable{t':Nat}
section
variable{l:Addr}{xs ys zs:List V}
def Inv.O_{its':List Value}{f:Array Value->Array Value}(I:Inv X Q6 σ H s)(hH:H l=some (.lst xs))(e:s.heap.get? l=some { cls:=.type "list",data:=.seq Rb.toArray n })(hf:f Rb.toArray=its'.toArray)(hv:Vals ys its')(hz:ys.length<=sizeLine):Inv X Q6 σ (upd H l (.lst ys)) { s with heap:=s.heap.update l (Ym f),toks:=t' }:=by
 have q:=PySem.IsL.update e f;rw[hf] at q;refine I.write (x:=l) (e:=l) (by rw[hH];exact trivial) (.inl rfl) (λb' u hb hu=>(Wn s.heap (Ym f) (Xs hb)).trans hu) ⟨_,q⟩ ?_;exact⟨hz,its',_,hv,q⟩
def Inv.Nb(I:Inv X Q6 σ H s)(hv:Vals ys Rb)(hz:ys.length<=sizeLine):Inv X Q6 σ (upd H s.heap.objs.size (.lst ys)) { s with heap:=s.heap.push { cls:=.type "list",data:=.seq Rb.toArray },toks:=t' } :=
 I.laid (λ_ _ q=>VR _ q) (VX _) ⟨hz,Rb,0,hv,V2 _ rfl⟩
theorem Inv.fresh(I:Inv X Q6 σ H s):H s.heap.objs.size=none:=I.bA.fresh (VX _)
def Inv.IG(I:Inv X Q6 σ H s)(hH:H l=some (.lst xs)):xs.length<=sizeLine/\∃(Rb:List Value)(n:Nat),Vals xs Rb/\xs.length=Rb.length/\s.heap.get? l=some { cls:=.type "list",data:=.seq Rb.toArray n }:=by
 obtain⟨z,Rb,n,r,e⟩:=I.bA l _ hH;exact⟨z,Rb,n,r,r.length,e⟩
theorem Ee(h:n<=sizeLine):Zt n=false:=by
 unfold Zt;exact decide_eq_false ⋯
end
def AY:V->List V->Hp->VK->Prop:=λx vs H Q=>∃l xs y,x=.ref l/\vs=[y]/\H l=some (.lst xs)/\xs.length<sizeLine/\Q .c6 (upd H l (.lst (xs++[y])))
theorem oq:QH X "list.append" AY:=by
 intro Q6 s σ H x vs v us Q I rx rv h;obtain⟨l,xs,y,rfl,rfl,hH,hz,q⟩:=h;cases rx;obtain⟨u,rfl,ru⟩:=rv.one;obtain⟨z,Rb,n,r,hl,e⟩:=I.IG hH;refine ZX F.slot_list_append ⟨_,e,rfl⟩ F.entry_list_append (F.args_list_append_2 _ _) (PySem.list_append l Rb.toArray n u (by rw[Wa];lia)) ⟨e,?_⟩;refine⟨.c6,_,I.O_ (its':=Rb++[u]) hH e ↑13 (r.append (.cons ru .nil)) ?_,rfl,q⟩;rw[WD,List.length_singleton];lia
def Oe:R2:=λx y H Q=>∃l b xs zs,x=.ref l/\y=.ref b/\H l=some (.lst xs)/\H b=some (.lst zs)/\xs.length+zs.length<=sizeLine/\∀p,H p=none->Q (.ref p) (upd H p (.lst (xs++zs)))
theorem K8:gR X (binaryOp .Add) Oe:=by
 intro Q6 s σ H x y v u Q I rx ry h;obtain⟨l,b,xs,zs,rfl,rfl,hH,hB,hz,q⟩:=h;cases rx;cases ry;obtain⟨z,Rb,n,r,hl,e⟩:=I.IG hH;obtain⟨z2,SI,n2,r2,SG,e2⟩:=I.IG hB;refine PySem.P.add_list e e2 ?_ (by rw[Wa,Wa];lia);have ea:Rb.toArray++SI.toArray=(Rb++SI).toArray:=by simp
 rw[ea];exact⟨.ref _,_,I.Nb (t':=s.toks) (r.append r2) (by rw[WD];lia),rfl,q _ I.fresh⟩
def M6:R2:=λx y H Q=>∃l k xs,x=.ref l/\y=.int k/\H l=some (.lst xs)/\-(2^63)<=k/\k<2^63/\xs.length*k.toNat<=sizeLine ∧
 ∀p,H p=none->Q (.ref p) (upd H p (.lst (VS k.toNat xs).flatten))
def len_rep(xs:List α)(k:Nat):(VS k xs).flatten.length=k*xs.length:=by
 induction k with
 | zero=>simp
 |succ k ih=>rw[Xo,XZ,WD,ih,Nat.succ_mul,acO]
theorem C1:gR X (binaryOp .Mult) M6:=by
 intro Q6 s σ H x y v u Q I rx ry h;obtain⟨l,k,xs,rfl,rfl,hH,h1,h2,hz,q⟩:=h;cases rx;obtain⟨t,rfl⟩:=ry;obtain⟨z,Rb,n,r,hl,e⟩:=I.IG hH;have hlen:Rb.toArray.size*k.toNat<=sizeLine:=by rwa[Wa,<- hl]
 have hcap:¬ Rb.toArray.size*k.toNat>(2^63-1)/8:=by
  have:(sizeLine:Nat)<=(2^63-1)/8:=by decide
  lia
 have hfit:¬ (!Builtin.List.listFitsIndex k)=true:=by
  rw[fitsIndex_both h1 h2];exact WY
 have Vy:¬ Zt (Rb.toArray.size*k.toNat)=true:=by
  rw[Ee hlen];exact WY
 have SH:aaJ (λx1 x2=>x1++x2) #[] (VS (if Rb.toArray.isEmpty=true then 0 else k.toNat) Rb.toArray)=(VS k.toNat Rb).flatten.toArray:=by
  have f0:∀m:Nat,aaJ (λx1 x2=>x1++x2) #[] (VS m Rb.toArray)=(VS m Rb).flatten.toArray:=λm=>by
   have:=foldl_rep Rb m [];rwa[adu] at this
  rw[f0];cases Rb with
  | nil=>simp
  | cons a r'=>rw[if_neg ↑13]
 refine aaV (T := "list") (U := "int") ↑12 ⟨_,e,rfl⟩ (λs'=>abt s' k t) noFill_list_mul F.fills_int_mul F.slot_int_rmul repeat_list F.slot_int_index.lookup
  (ZX F.slot_int_rmul (abt s k t) F.entry_int_rmul (F.args_int_rmul_2 _ _) (int___rmul___int_list k t l Rb.toArray n)
   ⟨e,rfl,⟨_,e,rfl⟩,ZX F.slot_list_mul ⟨_,e,rfl⟩ F.entry_list_mul (F.args_list_mul_2 _ _) (AutoListH.list___mul___list_int_3 l Rb.toArray n k t hfit hcap Vy) ⟨e,?_⟩⟩)
 rw[SH];exact⟨.ref _,_,I.Nb (t':=s.toks) (r.rep k.toNat) (by rwa[len_rep,aav]),rfl,q _ I.fresh⟩
variable{E:Value->Shared->Prop}{A:Around}{w:World}
section
variable{prog:Program}
end
variable{o:Option V}
variable{u:Value}{y:V}
section
variable{κ:Type}[DecidableEq κ]
def lT(Q9:List (κ×V))(k:κ):Option V:=(Q9.find? λkv=>decide (kv.1=k)).map (·.2)
def putK(Q9:List (κ×V))(k:κ)(v:V):List (κ×V) :=
 if (Q9.any λkv=>decide (kv.1=k))=true then Q9.map (λkv=>if kv.1=k then (kv.1,v) else kv) else Q9++[(k,v)]
def nq{p:κ×V}{r:List (κ×V)}{k:κ}(e:p.1=k):lT (p::r) k=some p.2:=by simp[lT,XN,e]
def mX{p:κ×V}{r:List (κ×V)}{k:κ}(e:¬ p.1=k):lT (p::r) k=lT r k:=by simp[lT,XN,e]
theorem rh(k:κ):∀Q9:List (κ×V),(Q9.any λkv=>decide (kv.1=k))=(lT Q9 k).isSome
 | []=>rfl
 | p::r=>by
  rw[Z2]
  by_cases e:p.1=k
  .simp only[nq e,decide_eq_true e,Bool.true_or,Option.isSome_some]
  .rw[mX e,decide_eq_false e,Bool.false_or];exact rh k r
theorem pq(Q9:List (κ×V))(k:κ)(v:V):(putK Q9 k v).length<=Q9.length+1:=by
 unfold putK
 split
 .rw[VW];lia
 .rw[WD,WS,aae];lia
def k6.jD{u:Option Value}(r:k6 o u):o.isSome=u.isSome:=by
 cases o with
 | none=>cases u with
  | none=>rfl
  | some _=>exact(show False from r).elim
 | some _=>cases u with
  | none=>exact(show False from r).elim
  |some _=>rfl
def KV.val{Q9:List (κ×V)}{vs:List (κ×Value)}(r:KV Q9 vs)(k:κ):k6 (lT Q9 k) (valueAt vs k):=by
 unfold KV at r
 induction r with
 | nil=>exact Xq
 | @cons p q ps qs h t ih =>
  obtain⟨h1,h2⟩:=h
  by_cases e:p.1=k
  .have e':q.1=k:=h1.symm.trans e;have b:valueAt (q::qs) k=some q.2:=by simp[valueAt,XN,e']
   rwa[nq e,b]
  .have e':¬ q.1=k:=λz=>e (h1.trans z);have b:valueAt (q::qs) k=valueAt qs k:=by simp[valueAt,XN,e']
   rwa[mX e,b]
theorem KV.any{Q9:List (κ×V)}{vs:List (κ×Value)}(r:KV Q9 vs)(k:κ):(Q9.any λkv=>decide (kv.1=k))=vs.any λkv=>decide (kv.1=k):=by
 unfold KV at r
 induction r with
 | nil=>rfl
 |cons h t ih=>rw[Z2,Z2,ih,h.1]
def KV.Lz{Q9:List (κ×V)}{vs:List (κ×Value)}(r:KV Q9 vs)(k:κ)(ry:RelV y u):KV (Q9.map λkv=>if kv.1=k then (kv.1,y) else kv) (vs.map λkv=>if kv.1=k then (kv.1,u) else kv):=by
 unfold KV at r ⊢
 induction r with
 | nil=>exact .nil
 | @cons p q ps qs h t ih =>
  rw[Wv,Wv];refine .cons ?_ ih;obtain⟨h1,h2⟩:=h
  by_cases e:p.1=k
  .rw[if_pos e,if_pos (h1.symm.trans e)];exact⟨h1,ry⟩
  .rw[if_neg e,if_neg (λz=>e (h1.trans z))];exact⟨h1,h2⟩
def KV.put{Q9:List (κ×V)}{vs:List (κ×Value)}(r:KV Q9 vs)(k:κ)(ry:RelV y u):KV (putK Q9 k y) (stored vs k u):=by
 unfold putK stored;rw[r.any k]
 by_cases e:(vs.any λkv=>decide (kv.1=k))=true
 .rw[if_pos e,if_pos e];exact r.Lz k ry
 .rw[if_neg e,if_neg e];exact Paired.snoc r ⟨rfl,ry⟩
theorem KV.length{Q9:List (κ×V)}{vs:List (κ×Value)}(r:KV Q9 vs):Q9.length=vs.length:=Paired.length r
end
variable{k:Key}{P:Program}
def AX(r:RelV (kV k) u):(cG P w).is k u=true:=by
 cases k with
 | inl i=>obtain⟨t,e⟩:=(show ∃t,u=aaD i t from r);subst e;exact yn P w i t
 |inr x=>obtain⟨t,e⟩:=(show ∃t,u=aaE x t from r);subst e;exact w5 P w x t
theorem uW{P:Program}{w:World}:∀{ks:List Key}{us:List Value},Vals (ks.map kV) us->ItemsAre (cG P w) ks us
 | [],_,r=>by rw[aau] at r;cases r;exact .nil
 | k::ks,_,r=>by
  rw[Wv] at r;cases r with
  |cons h t=>exact .cons (AX h) (uW t)
abbrev KT(H:Hp):List (List Key×V)->List (List Key×Addr×Value)->Prop:=Paired λp q=>p.1=q.1/\H q.2.1=some (.tup (p.1.map kV))/\RelV p.2 q.2.2
variable{xs:List (List Key×Addr×Value)}{Q9:List (List Key×V)}
def KT.val(r:KT H Q9 xs)(k:List Key):k6 (lT Q9 k) ((atKey xs k).map (·.2)):=by
 induction r with
 | nil=>exact Xq
 | @cons p q ps qs h t ih =>
  obtain⟨h1,_,h2⟩:=h
  by_cases e:p.1=k
  .have e':q.1=k:=h1.symm.trans e;have b:atKey (q::qs) k=some q.2:=by simp[atKey,XN,e']
   rwa[nq e,b]
  .have e':¬ q.1=k:=λz=>e (h1.trans z);have b:atKey (q::qs) k=atKey qs k:=by simp[atKey,XN,e']
   rwa[mX e,b]
def KT.Lz(r:KT H Q9 xs)(k:List Key)(ry:RelV y u):KT H (Q9.map λkv=>if kv.1=k then (kv.1,y) else kv) (xs.map (putAt k u)):=by
 induction r with
 | nil=>exact .nil
 | @cons p q ps qs h t ih =>
  rw[Wv,Wv];refine .cons ?_ ih;obtain⟨h1,h2,h3⟩:=h;unfold putAt
  by_cases e:p.1=k
  .rw[if_pos e,if_pos (h1.symm.trans e)];exact⟨h1,h2,ry⟩
  .rw[if_neg e,if_neg (λz=>e (h1.trans z))];exact⟨h1,h2,h3⟩
def KT.put(r:KT H Q9 xs)(k:List Key)(hb:H b=some (.tup (k.map kV)))(ry:RelV y u):KT H (putK Q9 k y) (storedH xs k b u):=by
 have e:(Q9.any λkv=>decide (kv.1=k))=(atKey xs k).isSome:=by
  rw[rh,(r.val k).jD,aa0]
 unfold putK storedH;rw[e]
 by_cases q:(atKey xs k).isSome=true
 .rw[if_pos q,if_pos q];exact r.Lz k ry
 .rw[if_neg q,if_neg q];exact Paired.snoc r ⟨rfl,hb,ry⟩
variable{H':Hp}
def KT.keeps(r:KT H Q9 xs)(ht:∀b ys,H b=some (.tup ys)->H' b=some (.tup ys)):KT H' Q9 xs :=
 Paired.Lq r λ_ _ z=>⟨z.1,ht _ _ z.2.1,z.2.2⟩
variable{a:Addr}
section
variable{h:Heap}
def Df{u:HO}(ok:lR P w H h)(e:Rd H a u):bD P w H h a u:=e.ok ok
def EV{Q9:List (Key×V)}(ok:lR P w H h)(e:Rd H a (.dK Q9)):Q9.length<=sizeLine/\(a==sysModules)=false/\∃vs,KV Q9 vs/\h.DictOf (cG P w) a vs :=
 show bD P w H h a (.dK Q9) from Df ok e
def Og{Q9:List (Key×V)}(ok:lR P w H h)(e:H a=some (.dK Q9)):Q9.length<=sizeLine/\(a==sysModules)=false/\∃vs,KV Q9 vs/\h.DictOf (cG P w) a vs:=EV ok (.inl e)
def rE{ks:List Key}(ok:lR P w H h)(e:H a=some (.tup (ks.map kV))):(tupleKind (cG P w)).is h ks a:=by
 obtain⟨_,Rb,r,o,h1,h2,n,h3⟩:=(show bD P w H h a (.tup (ks.map kV)) from ok a _ e)
 exact⟨o,Rb.toArray,n,h1,h2,h3,by simpa using uW r⟩
def D9(ok:lR P w H h)(e:Rd H a (.dT Q9)):Q9.length<=sizeLine/\(a==sysModules)=false ∧∃xs,KT H Q9 xs/\h.DictOfH (tupleKind (cG P w)) a xs:=by
 obtain⟨z,y,xs,r,o,es,ep,h1,h2,h3,h4,h5⟩:=(show bD P w H h a (.dT Q9) from Df ok e)
 refine⟨z,y,xs,r,o,es,ep,h1,h2,h3,h4,λx hx=>?_,h5⟩;have all:∀{l:List (List Key×V)}{m:List (List Key×Addr×Value)},KT H l m->∀x∈m,(tupleKind (cG P w)).is h x.1 x.2.1:=by
  intro l m q
  induction q with
  | nil=>intro x hx;exact nomatch hx
  | @cons p q ps qs hq t ih =>
   intro x hx;rcases Wd.mp hx with e|hx
   .subst e;exact rE ok (by rw[<- hq.1];exact hq.2.1)
   .exact ih x hx
 exact all r x hx
def JE(ok:lR P w H h)(e:H a=some (.dT Q9)):Q9.length<=sizeLine/\(a==sysModules)=false ∧∃xs,KT H Q9 xs/\h.DictOfH (tupleKind (cG P w)) a xs:=D9 ok (.inl e)
end
def Hg(H:Hp)(a:Addr)(y:V)(r:Option V):Prop :=
 (∃Q9 k,Rd H a (.dK Q9)/\y=kV k/\r=lT Q9 k)\/∃Q9 k b,Rd H a (.dT Q9)/\y=.ref b/\H b=some (.tup (k.map kV))/\r=lT Q9 k
def DW(H:Hp)(a:Addr)(y v:V)(H':Hp):Prop :=
 (∃Q9 k,H a=some (.dK Q9)/\y=kV k/\Q9.length<sizeLine/\H'=upd H a (.dK (putK Q9 k v))) ∨
 ∃Q9 k b,H a=some (.dT Q9)/\y=.ref b/\H b=some (.tup (k.map kV))/\Q9.length<sizeLine/\H'=upd H a (.dT (putK Q9 k v))
def DW.t{k:List Key}{v:V}(e:H a=some (.dT Q9))(eb:H b=some (.tup (k.map kV)))(hl:Q9.length<sizeLine):DW H a (.ref b) v (upd H a (.dT (putK Q9 k v))):=.inr ⟨Q9,k,b,e,rfl,eb,hl,rfl⟩
variable{Q:Value->Shared->Prop}
variable{h':Heap}
section
variable{v:V}{r:Value}
def Inv.big(I:Inv X Q6 σ H s):sysModules<s.heap.objs.size:=by
 have h:mainGlobals<s.heap.objs.size:=(I.mod.glob.keeps I.bk).lt;exact Nat.lt_trans ↑12 h
def OW(hu:A.units+1<cLine)(I:Inv X Q6 σ H s)(g:Hg H a y o)(ry:RelV y u)(h:∀s',Inv X Q6 σ H s'->Q (.bool o.isSome) s'):wpAny ↑8 A (compareOp .In u (.ref a)) Q E s:=by
 rcases g with ⟨Q9,k,e,ey,l⟩|⟨Q9,k,b,e,ey,eb,l⟩
 .subst ey;obtain⟨z,hd,vs,rel,dd⟩:=EV I.bA e;refine wpAny_in_of (AX ry) hd dd.mapOf ?_;rw[<- (rel.val k).jD,<- l];exact h _ (I.tok _)
 .subst ey;cases (show u=V4 b from ry);obtain⟨z,hd,xs,rel,dd⟩:=D9 I.bA e;refine wpAny_in_heap (aaK hu) (rE I.bA eb) hd dd ?_;have q:=(rel.val k).jD;rw[aa0] at q;rw[<- q,<- l];exact h _ (I.tok _)
def Gv(hu:A.units+1<cLine)(I:Inv X Q6 σ H s)(g:Hg H a y o)(ry:RelV y u)(h:∀s',Inv X Q6 σ H s'->Q (.bool (!o.isSome)) s'):wpAny ↑8 A (compareOp .NotIn u (.ref a)) Q E s:=by
 rcases g with ⟨Q9,k,e,ey,l⟩|⟨Q9,k,b,e,ey,eb,l⟩
 .subst ey;obtain⟨z,hd,vs,rel,dd⟩:=EV I.bA e;refine wpAny_notIn_of (AX ry) hd dd.mapOf ?_;rw[<- (rel.val k).jD,<- l];exact h _ (I.tok _)
 .subst ey;cases (show u=V4 b from ry);obtain⟨z,hd,xs,rel,dd⟩:=D9 I.bA e;refine wpAny_notIn_heap (aaK hu) (rE I.bA eb) hd dd ?_;have q:=(rel.val k).jD;rw[aa0] at q;rw[<- q,<- l];exact h _ (I.tok _)
def qg{ob:HO}(I:Inv X Q6 σ H s)(mu:NL (H a))(hs:YJ a s.heap h')(he:∃q,h'.get? a=some q)(new:bD X.prog X.w (upd H a ob) h' a ob):Inv X Q6 σ (upd H a ob) { s with heap:=h',toks:=t' } :=
 I.write (x:=a) (e:=a) mu (.inl rfl) (λb q hb z=>(hs.2 b hb).trans z) he new
def Lx{Q9:List (Key×V)}{vs:List (Key×Value)}(z:Q9.length<=sizeLine)(hd:(a==sysModules)=false)(rel:KV Q9 vs)(dd:h'.DictOf (cG P w) a vs):bD P w H' h' a (.dK Q9):=⟨z,hd,vs,rel,dd⟩
theorem A7{Q:Unit->Shared->Prop}(hu:A.units+1<cLine)(I:Inv X Q6 σ H s)(g:DW H a y v H')(ry:RelV y u)(rv:RelV v r)(h:∀s',Inv X Q6 σ H' s'->Q () s'):wpAny ↑8 A (setItem (.ref a) u r) Q E s:=by
 rcases g with ⟨Q9,k,e,ey,l,eH⟩|⟨Q9,k,b,e,ey,eb,l,eH⟩
 .subst ey eH;obtain⟨z,hd,vs,rel,dd⟩:=Og I.bA e;have hz:vs.length<=sizeLine:=by rwa[<- rel.length]
  have hl:(putK Q9 k v).length<=sizeLine:=by have:=pq Q9 k v;lia
  refine wpAny_setItem_pairs (hsz:=hz) (AX ry) dd λh' U9 hs=>h _ ?_;have he:∃q,h'.get? a=some q:=let ⟨q,_,_,hq,_⟩:=U9;⟨q,hq⟩
  exact qg I (by rw[e];exact Xq) hs he (Lx hl hd (rel.put k rv) U9)
 .subst ey eH;cases (show u=V4 b from ry);obtain⟨z,hd,xs,rel,dd⟩:=JE I.bA e;have hz:xs.length<=sizeLine:=by rwa[<- Paired.length rel]
  have hl:(putK Q9 k v).length<=sizeLine:=by have:=pq Q9 k v;lia
  refine wpAny_setItem_heap (hsz:=hz) (aaK hu) (rE I.bA eb) dd λh' U9 hs=>h _ ?_;obtain⟨q,es,ep,hq,h2,h3,h4,_,h5⟩:=U9;refine qg I (by rw[e];exact Xq) hs ⟨q,hq⟩ ⟨hl,hd,_,(rel.put k eb rv).keeps λc ys ec=>?_,q,es,ep,hq,h2,h3,h4,h5⟩;rwa[au (Es ec e (λz=>nomatch z))]
end
section
variable{Q9:List (Key×V)}
end
def Nw(td ty tv:TE):TS:=λD σ H=>tv σ H λv H1=>td σ H1 λx H2=>ty σ H2 λy H3=>∃a H4,x=.ref a/\DW H3 a y v H4/\D.nx σ H4
section
variable{o i value:Expr}{pos pos' VP:Pos}{td ty tv:TE}
def Ic(hu:X.A.units+1<cLine)(ho:PE X o td)(hi:PE X i ty)(hv:PE X value tv)(hs:swapsWith value (some (.Subscript o i pos')) pos.line X.env=pure false):PS X (.Assign [.Subscript o i pos'] value pos) (Nw td ty tv):=by
 intro Q6 s σ H D I h;refine wpAny_Assign_Subscript (cv (hv Q6 s σ H _ I h) λr s1 ⟨v,H1,I1,rv,q1⟩=>cv (ho Q6 s1 σ H1 _ I1 q1) λu s2 ⟨x,H2,I2,rx,q2⟩=>cv (hi Q6 s2 σ H2 _ I2 q2) λiv s3 ⟨y,H3,I3,ry,a,H4,ex,g,q3⟩=>?_) hs;subst ex;obtain rfl:u=V4 a:=rx;exact A7 hu I3 g ry rv λs4 I4=>⟨σ,H4,I4,q3⟩
end
def yb(h:Heap)(hb:sysModules<h.objs.size):bD P w H (h.push { cls:=.type "dict",data:=.dict #[] }) h.objs.size (.dT []) :=
 ⟨Wb _,beq_eq_false_iff_ne.mpr (Xs (V_ hb)),[],.nil,_,#[],0,V2 _ rfl,⟨rfl,rfl,rfl⟩,rfl,rfl,List.nodup_nil⟩
def K0:TE:=λ_ H Q=>∀p,H p=none->Q (.ref p) (upd H p (.dT []))
section
variable{pos:Pos}
def El:PE X (.Dict [] [] pos) K0:=λQ6 s σ H Q I h =>
 wpAny_Dict_empty ⟨.ref s.heap.objs.size,_,I.laid (a:=s.heap.objs.size) (o:=.dT []) (t':=s.toks) (λ_ _ q=>VR _ q) (VX _) (yb s.heap I.big),rfl,h _ (I.bA.fresh (VX _))⟩
end
def zS:List (TE×TE)->St->Hp->(List (V×V)->Hp->Prop)->Prop
 | [],_,H,Q=>Q [] H
 |(tk,tv)::r,σ,H,Q=>tk σ H λx H1=>tv σ H1 λy H2=>zS r σ H2 λps H3=>Q ((x,y)::ps) H3
abbrev VV:List (V×V)->List (Value×Value)->Prop:=Paired λp q=>RelV p.1 q.1/\RelV p.2 q.2
def PJ(X:Cx)(pos:Pos)(keys:List (Option Expr))(values:List Expr)(trs:List (TE×TE)):Prop :=
 ∀ (Q6:List (Addr×Obj)) (s:Shared) (σ:St) (H:Hp) (Q:List (V×V)->Hp->Prop),Inv X Q6 σ H s->zS trs σ H Q ->
  wpAny ↑8 X.A (evalPairs (pairTrees keys values X.env pos)) (λvs s'=>∃ps H',Inv X Q6 σ H' s'/\VV ps vs/\Q ps H') X.xe s
def HV{pos:Pos}:PJ X pos [] [] []:=λQ6 s σ H Q I h=>pairTrees_nil_walk ⟨[],H,I,.nil,h⟩
def CL{pos:Pos}{k v:Expr}{ks:List (Option Expr)}{vs:List Expr}{tk tv:TE}{trs:List (TE×TE)}(hk:PE X k tk)(hv:PE X v tv)(hr:PJ X pos ks vs trs):PJ X pos (some k::ks) (v::vs) ((tk,tv)::trs):=λQ6 s σ H Q I h =>
 pairTrees_cons_walk (cv (hk Q6 s σ H _ I h) λu s1 ⟨x,H1,I1,rx,q1⟩=>cv (hv Q6 s1 σ H1 _ I1 q1) λw2 s2 ⟨y,H2,I2,ry,q2⟩ =>
  cv (hr Q6 s2 σ H2 _ I2 q2) λws s3 ⟨ps,H3,I3,rel,q3⟩=>⟨(x,y)::ps,H3,I3,.cons ⟨rx,ry⟩ rel,q3⟩)
section
variable{d:V}{r:Value}
end
section
variable{o f:Expr}{apos Rz:Pos}{td ty tx:TE}
end
section
variable{Q9:List (Key×V)}
end
end L2
namespace Att
open PySem PySem.W PySem.Calls PyProof.Rows
variable{h:Heap}{P:Params}
def pI:∀(ns:List Int)(vs:List Value),WellAll P h vs (ns.map WData.int)->IntsAre vs ns:=by
 intro ns
 induction ns with
 | nil =>
  intro vs w;rw[aau] at w;cases w;exact .nil
 | cons n ns ih =>
  intro vs w;rw[Wv] at w;cases w with
  | cons a b =>
   cases a;exact .cons _ _ (ih _ b)
def B6{l:OpenLaw}{n:Nat}(hn:l.most=some n){args:List WData}{vals:List Value}(BZ:l.row.toRowW.claim.pre args=true)(hwl:WellAll P h vals args):∃a vs ns,vals=[V4 a]/\args=[WData.list (ns.map WData.int)]/\h.get? a=some { cls:=.type "list",data:=.seq vs.toArray }/\IntsAre vs ns/\ns.length<=n:=by
 have hsh:WShape.hasAll [] args [.list .int]=true:=(pre_splitW BZ).1;have hc:l.pre.holds [] { args:=args }=true:=(pre_splitW BZ).2;obtain⟨d,r,rfl,h1,h2⟩:=hasAllW_cons hsh;obtain rfl:=hasAllW_nil h2;obtain⟨xs,rfl,h3⟩:=hasW_list h1;obtain⟨ns,rfl⟩:=items_int h3;have hlen:ns.length<=n:=by
  unfold OpenLaw.pre at hc;have h4:(WTm.not (.lt (.lit (.int (n:Int))) (.len (.arg 0)))).holds [] { args:=[.list (ns.map .int)] }=true:=by
   have h4:=(holds_andW hc).1;rwa[hn] at h4
  have h5:=condW_of h4 (w_not (w_lt w_lit (w_len_list (w_arg rfl))));rw[VW] at h5;refine ac9 λq=>?_;have q':(n:Int)<((ns.length:Nat):Int):=by lia
  first
   | (rw[decide_eq_true q'] at h5;exact absurd h5 ↑12)
   | (simp at h5;lia)
 cases hwl with
 | cons w1 w2 =>
  cases w2;cases w1 with
  |list ho hall=>exact⟨_,_,ns,rfl,rfl,ho,pI ns _ hall,hlen⟩
def Bk(l:OpenLaw)(args:List WData):l.row.toRowW.claim.post args (.bool true) args=true :=
 postW_of (r:=l.row.toRowW) (X:=(true==true))
  (show WShape.has [] (.bool true) .bool=true by first|rfl|decide|simp[WShape.has,WShape.arms,WShape.armsAll])
  (show (WTm.eq .res (.lit (.bool true))).value [] { args:=args,res:=some (.bool true),after:=args }=some (.bool (true==true)) from w_eq_bool (w_res rfl) w_lit) rfl
section
variable{prog:Program}{w:World}{A:Around}{E:Value->Shared->Prop}{s:Shared}{K:Frag}
end
end Att
namespace L2
open PySem PySem.Spec PyProof.Rows
theorem uw:∀{vs:List Value}{ns:List Int},IntsAre vs ns->Vals (ns.map V.int) vs
 | _,_,.nil=>.nil
 |_,_,.cons n t h=>.cons ⟨t,rfl⟩ (uw h)
def M8(H:Hp):Prop:=∀b,H b=none\/∃o xs,H b=some (.kJ o (.lst xs))
variable{mg:Str->Option Value}{w:World}{P:Program}
def F1{K:VU}{mb:Str->Option Value}{CX:MI}{k:Nat}{fa a:Addr}{fd:FuncData}{x:Str}{sp:Sp}{s₁:Shared}{vs:List Value}{ns:List Int}(KX:K.In s₁.heap)(hns:s₁.heap.Ns mainGlobals mg)(hb:s₁.heap.Ns builtinsNs mb)(Vp:∀x:Str,x ≠ "__name__" -> mb x=bootBuiltins x)(hlim:s₁.heap.NoLimit)(hg:s₁.gens=#[])(ha:s₁.heap.get? a=some { cls:=.type "list",data:=.seq vs.toArray })(hi:IntsAre vs ns)(hl:ns.length<=sizeLine)(hr:cp k callerA)(F:∀base:Heap,K.In base->base.Ns mainGlobals mg->aT P w K mg base CX k fa fd [x] sp)(Vq:∀(s:Shared)(u:Value),BindsTo s fd ⟨[u],[]⟩ [(x,u)])(hsp:∀H:Hp,M8 H->gQ K H a (ns.map V.int)->sp [.ref a] H (λv _=>v=.bl true) λ_ _ _=>False)(hCX:∀H e s',CX [] H s₁ (λ_ _ _=>False) e s'->False):codeAny (model P w) callerA (.call (.ref fa) ⟨[.ref a],[]⟩) (λr s'=>r=.ok (.ret (.bool true))/\OldK s₁.heap s'.heap/\s'.os=s₁.os/\AllBare s'.gens) s₁:=by
 have rv:=uw hi;have lenV:=hi.length;have core:∀H:Hp,M8 H->gQ K H a (ns.map V.int)->lR P w H s₁.heap->(∀b,H b≠none->b=a)->(H a≠none->K.lookup a=none) ->
   codeAny (model P w) callerA (.call (.ref fa) ⟨[.ref a],[]⟩) (λr s'=>r=.ok (.ret (.bool true))/\OldK s₁.heap s'.heap/\s'.os=s₁.os/\AllBare s'.gens) s₁:=by
  intro H hO hS bA hA hK;have Tz:∀{b:Addr}{o:Obj},s₁.heap.get? b=some o->H b=none->(u_ s₁.heap H).get? b=some o:=λe n=>Fj e n;have tD:∀{b:Addr}{o:Obj}{es:Array DictEntry}{ep:Nat},s₁.heap.get? b=some o->o.data=.dict es ep->H b=none:=λ{b o es ep} e d=>by
   cases q:H b with
   | none=>rfl
   | some u =>
    have e':b=a:=hA b (by rw[q];simp);subst e';rw[ha] at e;cases e;have d':Data.seq vs.toArray _=Data.dict es ep:=d;cases d'
  have nsK:∀{b:Addr}{m:Str->Option Value},s₁.heap.Ns b m->(u_ s₁.heap H).Ns b m:=λ{b m} ⟨o,es,ep,e,d,r⟩=>⟨o,es,ep,Tz e (tD e d),d,r⟩
  have hKb:K.In (u_ s₁.heap H):=λb o e=>Tz (KX b o e) (by
   cases q:H b with
   | none=>rfl
   | some u =>
    have e':b=a:=hA b (by rw[q];simp);subst e';rw[hK (by rw[q];simp)] at e;cases e)
  have hM:Mod K mg (u_ s₁.heap H):=⟨hKb,nsK hns,⟨mb,nsK hb,Vp⟩,let ⟨mc,h1,h2⟩:=hlim;⟨mc,nsK h1,h2⟩⟩
  have e0:yJ P w K mg (u_ s₁.heap H) callerA [] s₁ H:=⟨rfl,hM,λb o e=>Hf e,acE (BE _ _),trivial,λb hb=>absurd (show b∈([]:List Addr) from hb) ↑13,bA,.of_eq hg⟩
  refine aaw ((F _ hKb (nsK hns)).run callerA [] s₁ H ⟨[.ref a],[]⟩ [.ref a] [.ref a] _ _ hr e0 (Vq s₁ (.ref a)) (.cons rfl .nil) (hsp H hO hS)) λr s' h=>?_;cases r with
  | error e=>exact(hCX H e s' h).elim
  | ok fl =>
   cases fl with
   | next=>exact XY h
   | brk=>exact XY h
   | cont=>exact XY h
   | ret u =>
    obtain⟨v,H',os,bare,un,hok',r',q⟩:=h;have q':v=.bl true:=q;subst q';obtain rfl:u=Yk true:=r';refine⟨rfl,OldK.of_keep λb o e=>?_,os,bare⟩;cases q:H b with
    | none=>exact un.keep b o e q (by intro z;exact absurd (show b∈([]:List Addr) from z) ↑13) ↑13
    | some u =>
     rcases hO b with z|⟨ob,xs,z⟩
     .rw[q] at z;cases z
     .have z2:=un.mB b ob _ z;obtain⟨e1,_⟩:=bA b _ z;obtain⟨e2,_⟩:=hok' b _ z2;rw[e] at e1;cases e1;exact e2
 cases hk:K.lookup a with
 | some o =>
  have e:=KX a o hk;rw[ha] at e;cases e;refine core (λ_=>none) (λ_=>.inl rfl) (.inr ⟨_,vs.toArray,_,hk,rfl,rfl,rfl,by rwa[Wa,lenV],by simpa using rv⟩) (λb u z=>by have z':(none:Option HO)=some u:=z;cases z') (λb z=>absurd rfl z) λz=>absurd rfl z
 | none =>
  refine core (λb=>if b=a then some (.kJ { cls:=.type "list",data:=.seq vs.toArray } (.lst (ns.map V.int))) else none) (λb=>?_) (.inl (.inr ⟨{ cls:=.type "list",data:=.seq vs.toArray },if_pos rfl⟩)) (λb u z=>?_) (λb z=>?_) λ_=>hk
  .by_cases hb:b=a
   .exact .inr ⟨_,_,if_pos hb⟩
   .exact .inl (if_neg hb)
  .by_cases hb:b=a
   .have z':=(if_pos hb).symm.trans z;cases z';subst hb;exact⟨ha,by rwa[VW],vs,_,rv,ha⟩
   .have z':=(if_neg hb).symm.trans z;cases z'
  .by_cases hb:b=a
   .exact hb
   .exact absurd (if_neg hb) z
def inClass(s:Stmt)(j:Nat):Stmt:=match s with
 | .ClassDef _ _ _ body _ _ _ _ _ _ _=>body.getD j (.Pass ⟨0,0,0,0⟩)
 |_=>.Pass ⟨0,0,0,0⟩
def i4(s:Stmt):Arguments:=match s with
 | .FunctionDef _ a _ _ _ _ _ _ _ _=>a
 |_=>{ posonlyargs:=[],args:=[],vararg:=none,kwonlyargs:=[],kw_defaults:=[],kwarg:=none,defaults:=[] }
def fg(s:Stmt):List Stmt:=match s with
 | .FunctionDef _ _ b _ _ _ _ _ _ _=>b
 |_=>[]
def ba(s:Stmt):Scope:=match s with
 | .FunctionDef _ _ _ _ _ _ sc _ _ _=>sc
 |_=>{ kind:=.function,names:=[],isGenerator:=false,isCoroutine:=false }
abbrev E0:XK:=λ_ _ _=>False
section
variable{K:VU}{base:Heap}
end
def oG{n:Nat}(h:n<=1000):n<sizeLine:=Xj h ↑12
section
variable{X:Cx}
end
def aY(H H':Hp):Prop:=∀b o,H b=some o->H' b=some o
end L2
section
namespace HD
open PySem PySem.W L2
abbrev pw:Program:=PySem.Challenge.pw_dialvault_k51_whole_both_and_together
noncomputable section
noncomputable def st(s:String)(t:Nat):Value:=.str (WG s) t
def en(P:Params)(s:String)(t:Nat)(v:Value):DictEntry:=⟨PyData.keyHash P (WG s),st s t,v⟩
def tu(xs:List Value):Obj:=⟨.type "tuple",none,.seq ⟨xs⟩ 0,⟨[]⟩⟩
def di(n:Nat)(es:List DictEntry):Obj:=⟨.type "dict",none,.dict ⟨es⟩ n,⟨[]⟩⟩
def tp(i:Nat):Stmt:=pw.main.body.getD i (.Pass ⟨0,0,0,0⟩)
def mp(i j:Nat):Stmt:=inClass (tp i) j
def co(a b:String)(t:Nat)(l n:Int)(x1 x2 x3 x4 x5:Nat)(u:Nat):Obj:=⟨.type "code",none,.fields ⟨[st a t,st b (t+1),st "/claim/cut.py" (t+2),.int l 0,.int n 0,.int 0 0,.int 0 0,.int 3 0,.ref x1,.bool true,.int 181 0,.ref x2,.none,.ref x3,.ref x4,.ref x5,.int u 0,.int l 0,st "/claim/cut.py" (u+1)]⟩,⟨[]⟩⟩
def ft(a b:String)(s:Stmt):Obj:=⟨.none,none,.func ⟨WG a,WG b,i4 s,.stmts (fg s),ba s,0,[],.none,.none,.none,.none,none,.none,.none,0⟩,⟨[]⟩⟩
def fo(a b:String)(s:Stmt)(df pm:Value)(cd:Nat):Obj:=⟨.type "function",none,.func ⟨WG a,WG b,i4 s,.stmts (fg s),ba s,3,[],df,.none,.none,pm,none,.ref cd,.none,0⟩,⟨[]⟩⟩
def J0:List Obj->List Obj
 | []=>[]
 | [a]=>[a]
 |a::_::r=>a::J0 r
def bt:Nat->List Obj->BT
 | 0,_=>.nil
 | _+1,[]=>.nil
 |n+1,a::r=>.node a (bt n (J0 r)) (bt n (J0 (r.drop 1)))
def S(L:Params->List Obj)(n k:Nat)(w:World)(os:OsState):SharedT:=⟨bt 14 (L w.params),n,{},⟨[]⟩,⟨0,0,0,0⟩,k,os⟩
def F(L:Params->List Obj)(k:Nat)(w:World)(os:OsState):Shared:=⟨⟨⟨L w.params⟩,{}⟩,⟨[]⟩,⟨0,0,0,0⟩,k,os⟩
def cc(a:String)(t:Nat)(l:Int)(x y u:Nat):Obj:=⟨.type "code",none,.fields ⟨[st a t,st a (t+1),st "/claim/cut.py" (t+2),.int l 0,.int 0 0,.int 0 0,.int 0 0,.int 0 0,.ref x,.bool false,.int 181 0,.ref y,.none,.none,.none,.none,.int u 0,.int l 0,st "/claim/cut.py" (u+1)]⟩,⟨[]⟩⟩
def fr(a b:Nat)(s:String)(t:Nat):Obj:=⟨.type "frame",none,.plain,⟨[some (.ref a),some (.ref 3),some (.ref b),none,some (st s t),none,some (.ref 0)]⟩⟩
def su(a:Nat):Obj:=⟨.type "super",none,.fields ⟨[.ref a,.ref a,.ref a]⟩,⟨[]⟩⟩
def ii(a:Nat):Obj:=⟨.type "builtin_function_or_method",none,.fields ⟨[.builtin "object.__init_subclass__",.ref a]⟩,⟨[]⟩⟩
def vv:List Nat->List Value
 | a::b::c::r=>.int a 0::.int b 0::.ref c::vv r
 |_=>[]
def fi(xs:List Nat):Obj:=⟨.none,none,.fields ⟨vv xs⟩,⟨[]⟩⟩
def cl(n:Str)(bs ms:List Value)(k:Nat)(ss:List Value)(sl:List (Option Value)):Obj:=⟨.type "type",none,.cls ⟨n,bs,ms,k,n,true,[],ss,false,none,false⟩,⟨sl⟩⟩
def pt(L:List Obj)(us:List (Nat×Obj))(ns:List Obj):List Obj:=us.foldl (λl u=>l.set u.1 u.2) L++ns
abbrev b0:=boot_o_0
abbrev b1:=boot_o_1
abbrev b2:=boot_o_2
abbrev b3:=boot_o_3
abbrev b4:=boot_o_4
abbrev b5:=boot_o_5
abbrev b6:=boot_o_6
abbrev b7:=boot_o_7
abbrev b8:=boot_o_8
abbrev b9:=boot_o_9
abbrev QD:=boot_o_10
def m0:Value:=st "__main__" 164
def m1:Value:=st "dialvault.errors" 194
def m2:Value:=st "dialvault.wholes" 386
def m3:Value:=st "dialvault.vault" 434
def m4:Value:=st "dialvault.papers" 578
def m5:Value:=st "dialvault.rungs" 586
def m6:Value:=st "dialvault.stills" 752
def m7:Value:=st "dialvault.pairs" 776
def m8:Value:=st "law_dialvault_k51_whole_both_and_together" 800
def nl:List String->Nat->List Value
 | [],_=>[]
 |x::r,t=>st x t::nl r (t+1)
def fA(P:Params)(a t:Nat)(x q:String)(s:Stmt)(l n:Int)(vs:List String)(df pm:Value):List Obj:=[b7 P,b8 P,tu (nl vs (t+3)),b7 P,ft x q s,co x q t l n a (a+1) (a+2) (a+3) (a+4) (t+3+vs.length),fo x q s df pm (a+5)]
def fT(P:Params)(a t:Nat)(x:String)(s:Stmt)(l n:Int)(vs:List String)(pm:Value):List Obj:=fA P a t x x s l n vs .none pm
def fB(P:Params)(a t:Nat)(x q:String)(s:Stmt)(l n:Int)(df pm:Value):List Obj:=[b7 P,b8 P,ft x q s,⟨.type "code",none,.fields ⟨[st x t,st q (t+1),st "/claim/cut.py" (t+2),.int l 0,.int n 0,.int 0 0,.int 0 0,.int 3 0,.ref a,.bool true,.int 181 0,.ref (a+1),.none,.none,.none,.ref (a+2),.int (t+3) 0,.int l 0,st "/claim/cut.py" (t+4)]⟩,⟨[]⟩⟩,fo x q s df pm (a+3)]
def dB(P:Params)(n t:Nat)(m:Value)(l:Int)(r:List DictEntry):Obj:=di n (en P "__module__" t m::en P "__firstlineno__" (t+4) (.int l (t+3))::r)
def dA(P:Params)(n t:Nat)(m:Value)(x:String)(l:Int)(r:List DictEntry):Obj:=di n (en P "__module__" t m::en P "__qualname__" (t+2) (st x (t+1))::en P "__firstlineno__" (t+4) (.int l (t+3))::r)
def gw(t a:Nat):Obj:=⟨.type "getset_descriptor",none,.fields ⟨[st "__weakref__" t,.ref a,.builtin "ExceptionGroup.__weakref__",.none]⟩,⟨[]⟩⟩
def gd(t a:Nat):Obj:=⟨.type "getset_descriptor",none,.fields ⟨[st "__dict__" t,.ref a,.builtin "function.__dict__",.builtin "function.__dict__#set"]⟩,⟨[]⟩⟩
def ce(x:String)(b a k:Nat)(ss:List Value)(d t u:Nat):Obj:=cl x [.ref b] [.ref a,.ref b,.type "ValueError",.type "Exception",.type "BaseException",.type "object"] k ss [some (.ref d),none,some (st x t),some (st x u),some (.builtin "ValueError.__new__"),some (.bool true)]
def gl P:=[en P "__doc__" 166 .none,en P "__package__" 167 .none,en P "__loader__" 168 (.builtin "__main__.__loader__#opaque"),en P "__spec__" 169 .none,en P "__annotations__" 170 (.ref 6),en P "__builtins__" 171 (.ref 4),en P "__file__" 173 (st "/claim/cut.py" 172),en P "__cached__" 174 .none,en P "_wall" 193 (.ref 21),en P "VaultError" 220 (.ref 38),en P "NoDial" 252 (.ref 65),en P "NoLever" 284 (.ref 91),en P "NoPrice" 316 (.ref 117),en P "NoSetting" 339 (.ref 136),en P "TooMany" 362 (.ref 155),en P "Unlike" 385 (.ref 174),en P "is_whole" 394 (.ref 183),en P "is_row" 400 (.ref 188),en P "common" 412 (.ref 195),en P "multiple_of" 421 (.ref 202),en P "unit_row" 427 (.ref 207),en P "rest_sum" 433 (.ref 212),en P "MOST_DIALS" 437 (.int 6 436),en P "LEAST_SIZE" 439 (.int 2 438),en P "MOST_SIZE" 441 (.int 360 440),en P "MOST_LEVERS" 443 (.int 8 442),en P "LEAST_PRICE" 445 (.int 1 444),en P "MOST_PRICE" 447 (.int 1000 446),en P "Vault" 505 (.ref 256),en P "is_within" 514 (.ref 267),en P "need_sizes" 523 (.ref 274),en P "need_same_sizes" 531 (.ref 281),en P "need_levers" 541 (.ref 288),en P "prices_for" 550 (.ref 295),en P "rests" 556 (.ref 300),en P "nought" 563 (.ref 307),en P "is_setting" 569 (.ref 312),en P "need_setting" 577 (.ref 319),en P "weigh" 585 (.ref 324),en P "mixed" 593 (.ref 329),en P "mixed_made" 605 (.ref 336),en P "unpulled" 613 (.ref 343),en P "pulled_once" 622 (.ref 350),en P "step_size" 632 (.ref 357),en P "taken_in" 647 (.ref 364),en P "lowered" 659 (.ref 371),en P "in_spans" 669 (.ref 378),en P "Rungs" 751 (.ref 439),en P "clear" 759 (.ref 448),en P "clear_of" 769 (.ref 455),en P "stills" 775 (.ref 460),en P "together" 785 (.ref 467),en P "both" 793 (.ref 474),en P "both_ways" 799 (.ref 479),en P "_law_cell" 809 (.ref 486),en P "_law_mix" 818 (.ref 493),en P "_law_digits" 828 (.ref 500),en P "_law_sizes" 834 (.ref 505),en P "_law_lever" 840 (.ref 510),en P "_law_doings" 846 (.ref 515),en P "_law_steps" 852 (.ref 520),en P "_law_clear" 861 (.ref 527),en P "_law_sums" 867 (.ref 532),en P "_law_led" 873 (.ref 537),en P "_law_normal" 883 (.ref 544),en P "_law_ways" 889 (.ref 549),en P "_law_refused" 900 (.ref 556),en P "_law_unlike" 913 (.ref 563),en P "law" 919 (.ref 568)]
def LA(P:Params):List Obj:=[b0 P,b1 P,b2 P,b3 P,b4 P,b5 P,b6 P,b7 P,b8 P,b9 P,QD P,b7 P,b8 P,cc "<module>" 182 1 11 12 185,fr 13 3 "__main__" 164]
def o9:Obj:=⟨.type "builtin_function_or_method",none,(.fields ⟨[.builtin "type.__prepare__",.type "type"]⟩),⟨[]⟩⟩
def QQ:Obj:=gw 216 38
def MJ:=tu [.ref 38]
def L0 P:=pt (LA P) [(3,di 15 (en P "__name__" 165 m1::(gl P).take 14)),(12,fi [1,0,20,5,0,27,9,0,47,16,0,73,23,0,99,30,0,125])] (fT P 15 187 "_wall" (tp 0) 1 1 ["k"] m0++([tu [.type "ValueError"],o9,dA P 5 203 m1 "VaultError" 5 [en P "word" 214 (.ref 35),en P "__static_attributes__" 215 (.ref 36)],b7 P,fi [7,4,34],cc "VaultError" 198 5 25 26 201,fr 27 24 "dialvault.errors" 194]++(fA P 29 208 "word" "VaultError.word" (mp 2 0) 7 1 ["self"] .none m1++([b7 P,dB P 3 203 m1 5 [en P "word" 214 (.ref 35),en P "__static_attributes__" 215 (.ref 36),en P "__weakref__" 217 (.ref 39),en P "__doc__" 218 .none],cl "VaultError" [.type "ValueError"] [.ref 38,.type "ValueError",.type "Exception",.type "BaseException",.type "object"] 37 [.ref 65,.ref 91,.ref 117,.ref 136] [some (.ref 22),none,some (st "VaultError" 196),some (st "VaultError" 204),some (.builtin "ValueError.__new__"),some (.bool true)],QQ,su 38,ii 38,MJ,o9,dA P 6 228 m1 "NoDial" 9 [en P "__init__" 240 (.ref 55),en P "word" 247 (.ref 62),en P "__static_attributes__" 249 (.ref 63)],b7 P,fi [11,4,54,14,4,61],cc "NoDial" 223 9 45 46 226,fr 47 44 "dialvault.errors" 194]++(fA P 49 233 "__init__" "NoDial.__init__" (mp 3 0) 11 2 ["self","dial"] .none m1++(fA P 56 241 "word" "NoDial.word" (mp 3 1) 14 1 ["self"] .none m1++([tu [st "dial" 248],dB P 2 228 m1 9 [en P "__init__" 240 (.ref 55),en P "word" 247 (.ref 62),en P "__static_attributes__" 249 (.ref 63),en P "__doc__" 250 .none],ce "NoDial" 38 65 64 [] 42 221 229,su 65,ii 65,MJ,o9,dA P 6 260 m1 "NoLever" 16 [en P "__init__" 272 (.ref 81),en P "word" 279 (.ref 88),en P "__static_attributes__" 281 (.ref 89)],b7 P,fi [18,4,80,21,4,87],cc "NoLever" 255 16 71 72 258,fr 73 70 "dialvault.errors" 194]++(fA P 75 265 "__init__" "NoLever.__init__" (mp 4 0) 18 2 ["self","lever"] .none m1++(fA P 82 273 "word" "NoLever.word" (mp 4 1) 21 1 ["self"] .none m1++([tu [st "lever" 280],dB P 2 260 m1 16 [en P "__init__" 272 (.ref 81),en P "word" 279 (.ref 88),en P "__static_attributes__" 281 (.ref 89),en P "__doc__" 282 .none],ce "NoLever" 38 91 90 [] 68 253 261,su 91,ii 91,MJ,o9,dA P 6 292 m1 "NoPrice" 23 [en P "__init__" 304 (.ref 107),en P "word" 311 (.ref 114),en P "__static_attributes__" 313 (.ref 115)],b7 P,fi [25,4,106,28,4,113],cc "NoPrice" 287 23 97 98 290,fr 99 96 "dialvault.errors" 194]++(fA P 101 297 "__init__" "NoPrice.__init__" (mp 5 0) 25 2 ["self","lever"] .none m1++(fA P 108 305 "word" "NoPrice.word" (mp 5 1) 28 1 ["self"] .none m1++([tu [st "lever" 312],dB P 2 292 m1 23 [en P "__init__" 304 (.ref 107),en P "word" 311 (.ref 114),en P "__static_attributes__" 313 (.ref 115),en P "__doc__" 314 .none],ce "NoPrice" 38 117 116 [] 94 285 293,su 117,ii 117,MJ,o9,dA P 5 324 m1 "NoSetting" 30 [en P "word" 335 (.ref 133),en P "__static_attributes__" 336 (.ref 134)],b7 P,fi [32,4,132],cc "NoSetting" 319 30 123 124 322,fr 125 122 "dialvault.errors" 194]++(fA P 127 329 "word" "NoSetting.word" (mp 6 0) 32 1 ["self"] .none m1++([b7 P,dB P 2 324 m1 30 [en P "word" 335 (.ref 133),en P "__static_attributes__" 336 (.ref 134),en P "__doc__" 337 .none],ce "NoSetting" 38 136 135 [] 120 317 325,su 136,ii 136])))))))))))))))
def Pg:Obj:=gd 499 256
def OJ:Obj:=gw 501 256
def L1 P:=pt (L0 P) [(3,di 43 (en P "__name__" 165 m5::(gl P).take 42)),(12,fi [1,0,20,5,0,27,9,0,47,16,0,73,23,0,99,30,0,125,34,0,144,38,0,163,43,0,182,45,0,187,49,0,194,60,0,201,65,0,206,67,0,211,76,0,218,97,0,266,99,0,273,107,0,280,110,0,287,116,0,294,125,0,299,127,0,306,129,0,311,134,0,318,138,0,323,145,0,328,147,0,335,150,0,342]),(38,cl "VaultError" [.type "ValueError"] [.ref 38,.type "ValueError",.type "Exception",.type "BaseException",.type "object"] 37 [.ref 65,.ref 91,.ref 117,.ref 136,.ref 155,.ref 174] [some (.ref 22),none,some (st "VaultError" 196),some (st "VaultError" 204),some (.builtin "ValueError.__new__"),some (.bool true)])] ([MJ,o9,dA P 5 347 m1 "TooMany" 34 [en P "word" 358 (.ref 152),en P "__static_attributes__" 359 (.ref 153)],b7 P,fi [36,4,151],cc "TooMany" 342 34 142 143 345,fr 144 141 "dialvault.errors" 194]++(fA P 146 352 "word" "TooMany.word" (mp 7 0) 36 1 ["self"] .none m1++([b7 P,dB P 2 347 m1 34 [en P "word" 358 (.ref 152),en P "__static_attributes__" 359 (.ref 153),en P "__doc__" 360 .none],ce "TooMany" 38 155 154 [] 139 340 348,su 155,ii 155,MJ,o9,dA P 5 370 m1 "Unlike" 38 [en P "word" 381 (.ref 171),en P "__static_attributes__" 382 (.ref 172)],b7 P,fi [40,4,170],cc "Unlike" 365 38 161 162 368,fr 163 160 "dialvault.errors" 194]++(fA P 165 375 "word" "Unlike.word" (mp 8 0) 40 1 ["self"] .none m1++([b7 P,dB P 2 370 m1 38 [en P "word" 381 (.ref 171),en P "__static_attributes__" 382 (.ref 172),en P "__doc__" 383 .none],ce "Unlike" 38 174 173 [] 158 363 371,su 174,ii 174]++(fT P 177 388 "is_whole" (tp 10) 43 1 ["thing"] m2++(fB P 184 395 "is_row" "is_row" (tp 11) 45 2 .none m2++(fT P 189 401 "common" (tp 12) 49 2 ["one","other","row","behind","times","rest"] m2++(fT P 196 413 "multiple_of" (tp 13) 60 1 ["numbers","multiple","number"] m2++(fB P 203 422 "unit_row" "unit_row" (tp 14) 65 2 .none m2++(fB P 208 428 "rest_sum" "rest_sum" (tp 15) 67 3 .none m2++([b7 P,o9,dA P 9 455 m3 "Vault" 76 [en P "__init__" 465 (.ref 225),en P "sizes" 472 (.ref 232),en P "levers" 479 (.ref 239),en P "prices" 486 (.ref 246),en P "around" 493 (.ref 253),en P "__static_attributes__" 498 (.ref 254)],b7 P,fi [78,4,224,86,4,231,89,4,238,92,4,245,95,4,252],cc "Vault" 450 76 216 217 453,fr 218 215 "dialvault.vault" 434,tu [.none]]++(fB P 221 460 "__init__" "Vault.__init__" (mp 23 0) 78 4 (.ref 220) m3++(fA P 226 466 "sizes" "Vault.sizes" (mp 23 1) 86 1 ["self"] .none m3++(fA P 233 473 "levers" "Vault.levers" (mp 23 2) 89 1 ["self"] .none m3++(fA P 240 480 "prices" "Vault.prices" (mp 23 3) 92 1 ["self"] .none m3++(fA P 247 487 "around" "Vault.around" (mp 23 4) 95 1 ["self"] .none m3++([tu [st "dial_sizes" 494,st "least_round" 495,st "lever_prices" 496,st "lever_settings" 497],dB P 4 455 m3 76 [en P "__init__" 465 (.ref 225),en P "sizes" 472 (.ref 232),en P "levers" 479 (.ref 239),en P "prices" 486 (.ref 246),en P "around" 493 (.ref 253),en P "__static_attributes__" 498 (.ref 254),en P "__dict__" 500 (.ref 257),en P "__weakref__" 502 (.ref 258),en P "__doc__" 503 .none],cl "Vault" [.type "object"] [.ref 256,.type "object"] 255 [] [none,none,some (st "Vault" 448),some (st "Vault" 456),some (.builtin "object.__new__"),some (.bool true)],Pg,OJ,su 256,ii 256]++(fT P 261 506 "is_within" (tp 24) 97 3 ["thing","least","most"] m3++(fT P 268 515 "need_sizes" (tp 25) 99 1 ["sizes","dial","size"] m3++(fT P 275 524 "need_same_sizes" (tp 26) 107 2 ["sizes","others"] m3++(fT P 282 532 "need_levers" (tp 27) 110 2 ["levers","dials","place","lever"] m3++(fT P 289 542 "prices_for" (tp 28) 116 2 ["levers","prices","place"] m3++(fB P 296 551 "rests" "rests" (tp 29) 125 2 .none m3++(fT P 301 557 "nought" (tp 30) 127 1 ["vault"] m3++(fB P 308 564 "is_setting" "is_setting" (tp 31) 129 2 .none m3++(fT P 313 570 "need_setting" (tp 32) 134 2 ["vault","thing"] m3++(fB P 320 580 "weigh" "weigh" (tp 34) 138 3 .none m4++(fB P 325 588 "mixed" "mixed" (tp 36) 145 4 .none m5++(fT P 330 594 "mixed_made" (tp 37) 147 5 ["sizes","made","times","other","others","doing"] m5++(fT P 337 606 "unpulled" (tp 38) 150 2 ["vault","setting"] m5)))))))))))))))))))))))))))))))
def PY:Obj:=gd 745 439
def P6:Obj:=gw 747 439
def L2 P:=pt (L1 P) [(3,di 70 (en P "__name__" 165 m8::gl P)),(12,fi [1,0,20,5,0,27,9,0,47,16,0,73,23,0,99,30,0,125,34,0,144,38,0,163,43,0,182,45,0,187,49,0,194,60,0,201,65,0,206,67,0,211,76,0,218,97,0,266,99,0,273,107,0,280,110,0,287,116,0,294,125,0,299,127,0,306,129,0,311,134,0,318,138,0,323,145,0,328,147,0,335,150,0,342,152,0,349,155,0,356,158,0,363,167,0,370,172,0,377,177,0,384,230,0,447,233,0,454,238,0,459,243,0,466,246,0,473,248,0,478,254,0,485,258,0,492,262,0,499,268,0,504,272,0,509,276,0,514,288,0,519,295,0,526,299,0,531,305,0,536,310,0,543,317,0,548,330,0,555,337,0,562,348,0,567])] (fT P 344 614 "pulled_once" (tp 39) 152 2 ["vault","lever","levers"] m5++(fT P 351 623 "step_size" (tp 40) 155 3 ["sizes","made_rows","dial","notch"] m5++(fT P 358 633 "taken_in" (tp 41) 158 3 ["sizes","made_rows","left","wider","dial","made","step","notch","found"] m5++(fT P 365 648 "lowered" (tp 42) 167 4 ["sizes","made_rows","made","first","dial","times"] m5++(fT P 372 660 "in_spans" (tp 43) 172 2 ["pulls","idle_rows","lever","row"] m5++([b7 P,o9,dA P 13 677 m5 "Rungs" 177 [en P "__init__" 687 (.ref 390),en P "steps" 693 (.ref 395),en P "rows" 699 (.ref 400),en P "spans" 705 (.ref 405),en P "idle" 712 (.ref 412),en P "brought_down" 720 (.ref 419),en P "least" 728 (.ref 426),en P "pulls_to" 734 (.ref 431),en P "weights_at" 740 (.ref 436),en P "__static_attributes__" 744 (.ref 437)],b7 P,fi [179,4,389,191,4,394,195,4,399,198,4,404,201,4,411,204,4,418,208,4,425,211,4,430,217,4,435],cc "Rungs" 672 177 382 383 675,fr 384 381 "dialvault.rungs" 586]++(fB P 386 682 "__init__" "Rungs.__init__" (mp 44 0) 179 2 .none m5++(fB P 391 688 "steps" "Rungs.steps" (mp 44 1) 191 1 .none m5++(fB P 396 694 "rows" "Rungs.rows" (mp 44 2) 195 1 .none m5++(fB P 401 700 "spans" "Rungs.spans" (mp 44 3) 198 1 .none m5++(fA P 406 706 "idle" "Rungs.idle" (mp 44 4) 201 1 ["self"] .none m5++(fA P 413 713 "brought_down" "Rungs.brought_down" (mp 44 5) 204 2 ["self","setting"] .none m5++(fA P 420 721 "least" "Rungs.least" (mp 44 6) 208 2 ["self","setting"] .none m5++(fB P 427 729 "pulls_to" "Rungs.pulls_to" (mp 44 7) 211 2 .none m5++(fB P 432 735 "weights_at" "Rungs.weights_at" (mp 44 8) 217 2 .none m5++([tu [st "idle_rows" 741,st "made_rows" 742,st "vault" 743],dB P 4 677 m5 177 [en P "__init__" 687 (.ref 390),en P "steps" 693 (.ref 395),en P "rows" 699 (.ref 400),en P "spans" 705 (.ref 405),en P "idle" 712 (.ref 412),en P "brought_down" 720 (.ref 419),en P "least" 728 (.ref 426),en P "pulls_to" 734 (.ref 431),en P "weights_at" 740 (.ref 436),en P "__static_attributes__" 744 (.ref 437),en P "__dict__" 746 (.ref 440),en P "__weakref__" 748 (.ref 441),en P "__doc__" 749 .none],cl "Rungs" [.type "object"] [.ref 439,.type "object"] 438 [] [none,none,some (st "Rungs" 670),some (st "Rungs" 678),some (.builtin "object.__new__"),some (.bool true)],PY,P6,su 439,ii 439]++(fB P 444 754 "clear" "clear" (tp 46) 230 1 .none m6++(fT P 449 760 "clear_of" (tp 47) 233 2 ["sizes","doings","cleared","doing"] m6++(fB P 456 770 "stills" "stills" (tp 48) 238 1 .none m6++(fT P 461 778 "together" (tp 50) 243 2 ["one","other"] m7++(fT P 468 786 "both" (tp 51) 246 2 ["one","other"] m7++(fB P 475 794 "both_ways" "both_ways" (tp 52) 248 2 .none m7++(fT P 480 802 "_law_cell" (tp 54) 254 2 ["_law_script","_law_k"] m8++(fT P 487 810 "_law_mix" (tp 55) 258 2 ["_law_cell_here","_law_k","_law_number"] m8++(fT P 494 819 "_law_digits" (tp 56) 262 2 ["_law_cell_here","_law_sizes_here","_law_row","_law_size"] m8++(fB P 501 829 "_law_sizes" "_law_sizes" (tp 57) 268 1 .none m8++(fB P 506 835 "_law_lever" "_law_lever" (tp 58) 272 2 .none m8++(fB P 511 841 "_law_doings" "_law_doings" (tp 59) 276 2 .none m8++(fB P 516 847 "_law_steps" "_law_steps" (tp 60) 288 2 .none m8++(fT P 521 853 "_law_clear" (tp 61) 295 3 ["_law_vault","_law_sizes_here","_law_due"] m8++(fB P 528 862 "_law_sums" "_law_sums" (tp 62) 299 3 .none m8++(fB P 533 868 "_law_led" "_law_led" (tp 63) 305 3 .none m8++(fT P 538 874 "_law_normal" (tp 64) 310 2 ["_law_pulls","_law_spans","_law_many","_law_span"] m8++(fB P 545 884 "_law_ways" "_law_ways" (tp 65) 317 4 .none m8++(fT P 550 890 "_law_refused" (tp 66) 330 3 ["_law_call","_law_one","_law_other","_law_error","e"] m8++(fT P 557 901 "_law_unlike" (tp 67) 337 3 ["_law_vault","_law_cell_here","_law_sizes_here","_law_at","_law_some","_law_other","_law_call"] m8++(fB P 564 914 "law" "law" (tp 68) 348 1 .none m8)))))))))))))))))))))))))))))))))))))
def LF(P:Params):=L2 P
def bE:List Stmt:=behindTheImports pw
def env:Env:={ scope:=pw.main.scope,locals:=mainNs,globals:=mainNs,cells:=[],code:=.ref 13,frame:=some 14 }
def cE:Code:=.body bE env
abbrev B:List Frame:=[topFrame ⟨0,0,0,0⟩]
abbrev ann:Option Value:=(some (.ref 6))
def JY:List Stmt:=(bE.drop 0).take 7
def J8:List Stmt:=(bE.drop 7).take 32
def JW:List Stmt:=(bE.drop 39).take 30
end
def BZ:∀w:World,(λos=>topGo treeTable pw w 11 ann 12 ⟨boot_heap w.params,⟨[]⟩,boot_drawn,boot_toks,os⟩ (topStub pw))=λos=>some (F LA 187 w os,⟨denote treeTable cE,cE,⟨0,0,0,0⟩,B⟩):=λw=>by
 rw[PySem.W.Fast.te15667345088766844465,W7,PySem.W.Fast.te11892475500146522536]
 kernel_rfl
def O4:∀w:World,(λos=>segRun treeTable pw w 11 ann 1 1 (F LA 187 w os) (blockOf bE env cE ⟨0,0,0,0⟩ B))=λos=>some (ac_,(S LA 15 187 w os).abs,cE,⟨0,0,0,0⟩):=λw=>by
 rw[PySem.W.Fast.te14374325043358763698,W7]
 kernel_rfl
def QP:∀w:World,(λos=>segRunT treeTable pw w 11 ann 1 1326 (S LA 15 187 w os) (piecesOf JY env cE ⟨0,0,0,0⟩ B))=λos=>some (ac_,S L0 139 340 w os,cE,⟨30,0,33,16⟩):=λw=>by
 rw[Yv,W7]
 kernel_rfl
def QY:∀w:World,(λos=>segRunT treeTable pw w 11 ann 1 1477 (S L0 139 340 w os) (piecesOf J8 env cE ⟨30,0,33,16⟩ B))=λos=>some (ac_,S L1 344 614 w os,cE,⟨150,0,151,48⟩):=λw=>by
 rw[Yv,W7]
 kernel_rfl
def F9:∀w:World,(λos=>segRunT treeTable pw w 11 ann 1 1251 (S L1 344 614 w os) (piecesOf JW env cE ⟨150,0,151,48⟩ B))=λos=>some (ac_,S L2 569 920 w os,cE,⟨348,0,368,69⟩):=λw=>by
 rw[Yv,W7]
 kernel_rfl
def JZ:∀w:World,(λos=>topRun treeTable pw w 11 ann 2 (S L2 569 920 w os).abs ⟨doneF .next,cE,⟨348,0,368,69⟩,B⟩)=λos=>some (F LF 920 w os):=λw=>by
 rw[PySem.W.Fast.te14082659384304107361,W7]
 kernel_rfl
def QS:bE=(JY++(J8++(JW++[]))):=by kernel_rfl
def xZ(w:World)(os:OsState):topRun treeTable pw w 11 ann (1326+(1477+(1251+2))) (S LA 15 187 w os).abs (restOf bE env cE ⟨0,0,0,0⟩ B)=some (F LF 920 w os):=by
 rw[show restOf bE env cE ⟨0,0,0,0⟩ B=restOf (JY++(J8++(JW++[]))) env cE ⟨0,0,0,0⟩ B from congrArg (λb=>restOf b env cE ⟨0,0,0,0⟩ B) QS];exact piece_app (segRun_of (congrFun (QP w) os)) (piece_app (segRun_of (congrFun (QY w) os)) (piece_app (segRun_of (congrFun (F9 w) os)) (piece_nil (congrFun (JZ w) os))))
def PR(w:World)(os:OsState):topRun treeTable pw w 11 ann (12+(1+(1326+(1477+(1251+2))))) ⟨boot_heap w.params,⟨[]⟩,boot_drawn,boot_toks,os⟩ (topStub pw)=some (F LF 920 w os) :=
 go_top (congrFun (BZ w) os) (piece_block (congrFun (O4 w) os) (xZ w os))
end HD
end
section
namespace HD
open PySem PySem.W L2
noncomputable section
def vw:Program:=PySem.W.view pw [0,2,3,4,5,6,7,8,10,11,12,13,14,15,17,18,19,20,21,22,23,24,25,26,27,28,29,30,31,32,34,36,37,38,39,40,41,42,43,44,46,47,48,50,51,52,54,55,56,57,58,59,60,61,62,63,64,65,66,67,68]
def loose:List Str:=[]
noncomputable def as:List Addr:=[2,3,15,17,18,20,21,22,29,31,32,34,35,36,37,38,39,42,49,51,52,54,55,56,58,59,61,62,63,64,65,68,75,77,78,80,81,82,84,85,87,88,89,90,91,94,101,103,104,106,107,108,110,111,113,114,115,116,117,120,127,129,130,132,133,134,135,136,139,146,148,149,151,152,153,154,155,158,165,167,168,170,171,172,173,174,177,179,180,182,183,184,187,188,189,191,192,194,195,196,198,199,201,202,203,206,207,208,211,212,220,221,224,225,226,228,229,231,232,233,235,236,238,239,240,242,243,245,246,247,249,250,252,253,254,255,256,257,258,261,263,264,266,267,268,270,271,273,274,275,277,278,280,281,282,284,285,287,288,289,291,292,294,295,296,299,300,301,303,304,306,307,308,311,312,313,315,316,318,319,320,323,324,325,328,329,330,332,333,335,336,337,339,340,342,343,344,346,347,349,350,351,353,354,356,357,358,360,361,363,364,365,367,368,370,371,372,374,375,377,378,386,389,390,391,394,395,396,399,400,401,404,405,406,408,409,411,412,413,415,416,418,419,420,422,423,425,426,427,430,431,432,435,436,437,438,439,440,441,444,447,448,449,451,452,454,455,456,459,460,461,463,464,466,467,468,470,471,473,474,475,478,479,480,482,483,485,486,487,489,490,492,493,494,496,497,499,500,501,504,505,506,509,510,511,514,515,516,519,520,521,523,524,526,527,528,531,532,533,536,537,538,540,541,543,544,545,548,549,550,552,553,555,556,557,559,560,562,563,564,567,568]
def K(P:Params):Frag:=as.map λa=>(a,(LF P).getD a (su 0))
def hook:Hook:=kHook K as (λ_=>by kernel_rfl)
abbrev rr:RowW:=(PySem.Challenge.rw_dialvault_k51_whole_both_and_together.row).toRowW
def Xt:Shared->Bool:=λs=>xlAt vw [] s&&recOk (RowW.records rr) s
def H1(P:Params):Heap:=⟨⟨LF P⟩,{}⟩
end
def Na:∀w:World,((boot_heap w.params).isNs mainGlobals&&(Array.mk []:Array GenState).size==0,(boot_heap w.params).objs.size,(boot_heap w.params).nsMap mainGlobals "__annotations__")=(true,11,ann):=λw=>by
 rw[PySem.W.Fast.te8920871248978507458]
 kernel_rfl
def QZ(w:World):staticsOk (importedModules pw.main.body) (boot_heap w.params) (H1 w.params)=true:=by
 first|(rw[Wg,Wh];kernel_rfl)|(rw[Wg];kernel_rfl)|(rw[Wh];kernel_rfl)|(kernel_rfl)
def QM(w:World):namesBound pw (H1 w.params)=true:=by
 first|(rw[Wg,Wh];kernel_rfl)|(rw[Wg];kernel_rfl)|(rw[Wh];kernel_rfl)|(kernel_rfl)
def QX(w:World)(os:_):gensDone ⟨H1 w.params,⟨[]⟩,⟨0,0,0,0⟩,920,os⟩=true:=by
 first|(rw[Wg,Wh];kernel_rfl)|(rw[Wg];kernel_rfl)|(rw[Wh];kernel_rfl)|(kernel_rfl)
def Qz(w:World):laidKept (boot_heap w.params) (H1 w.params)=true:=by
 first|(rw[Wg,Wh];kernel_rfl)|(rw[Wg];kernel_rfl)|(rw[Wh];kernel_rfl)|(kernel_rfl)
def QT(w:World)(os:_):openSeen vw loose (importedModules pw.main.body) Xt true ⟨H1 w.params,⟨[]⟩,⟨0,0,0,0⟩,920,os⟩=openGood vw loose:=by
 first|(rw[Wg,Wh];kernel_rfl)|(rw[Wg];kernel_rfl)|(rw[Wh];kernel_rfl)|(kernel_rfl)
def QO(w:World)(os:_):Hook.obs hook ⟨H1 w.params,⟨[]⟩,⟨0,0,0,0⟩,920,os⟩=Hook.val hook w:=by
 first|(rw[Wg,Wh];kernel_rfl)|(rw[Wg];kernel_rfl)|(rw[Wh];kernel_rfl)|(kernel_rfl)
def K2:∀w:World,(λos=>((staticsOk (importedModules pw.main.body) (boot_heap w.params) (H1 w.params)&&namesBound pw (H1 w.params)&&gensDone ⟨H1 w.params,⟨[]⟩,⟨0,0,0,0⟩,920,os⟩&&laidKept (boot_heap w.params) (H1 w.params)),openSeen vw loose (importedModules pw.main.body) Xt true ⟨H1 w.params,⟨[]⟩,⟨0,0,0,0⟩,920,os⟩,Hook.obs hook ⟨H1 w.params,⟨[]⟩,⟨0,0,0,0⟩,920,os⟩))=λ_=>(true,openGood vw loose,Hook.val hook w):=λw=>funext λos=>by
 rw[QZ,QM,QX,Qz,QT,QO];rfl
def Nc:LeftO pw vw loose Xt (Hook.obs hook) (Hook.val hook) 8228 :=
 LeftO.of_pieces (H₀:=boot_heap) (H₁:=H1) (gs₀:=⟨[]⟩) (gs₁:=⟨[]⟩) (d₀:=boot_drawn) (d₁:=⟨0,0,0,0⟩) (k₀:=boot_toks) (k₁:=920) (m₀:=11) (ann:=ann) (M:=(12+(1+(1326+(1477+(1251+2))))))
  (boot_open ↑10 ↑10 (λs=>by kernel_rfl)) Na PR ↑10 K2
end HD
end
section
open PySem PySem.W
def HD.said:PySem.Challenge.rw_dialvault_k51_whole_both_and_together.wellSaid=true:=by
 decide +kernel
end
namespace L2
open PySem PySem.Spec PyProof.Rows
variable{X:Cx}
variable{n:Nat}
def E1(_ j:Int):Prop:=j≠0/\j.natAbs.log2<9000
def DM:gR X (binaryOp .FloorDiv) (rI E1 λi j=>.int (i.fdiv j)):=P7 λ_ _ _ _ _ _ _ hc q=>floordiv_int hc.1 q (.inl (PyProof.noPylong_of_log2 hc.2))
def IP:gR X (binaryOp .Mult) (rI (λi j=>IntMulOk i j) λi j=>.int (i*j)):=P7 λ_ _ _ _ _ _ _ hc q=>mul_int q hc
def Eo{a b:Int}{m:Nat}(ha:a.natAbs<2^m)(hb:b.natAbs<2^n)(h:m+n<=134217728):IntMulOk a b:=IntMulOk.of_le (intBits_le_iff.mpr ha) (intBits_le_iff.mpr hb) h
def wu:bootBuiltins "isinstance"=some (.builtin "isinstance"):=by decide +kernel
def J9:bootBuiltins "int"=some (.type "int"):=by decide +kernel
def ID:bootBuiltins "bool"=some (.type "bool"):=by decide +kernel
def kM:bootBuiltins "tuple"=some (.type "tuple"):=by decide +kernel
def nP:bootBuiltins "list"=some (.type "list"):=by decide +kernel
def Kx:bootBuiltins "sum"=some (.builtin "sum"):=by decide +kernel
def P8(K:VU):List V->Hp->VK->Prop:=λxs H Q=>∃x T t b,xs=[x,.ty T]/\kI K H x t/\Wr K t (.type T)=some b/\Q (.bl b) H
def Qf(K:VU):List V->Hp->VK->Prop:=λxs H Q=>∃x C t b,xs=[x,.ref C]/\kI K H x t/\Wr K t (.ref C)=some b/\Q (.bl b) H
def ye:c8 X (.builtin "isinstance") (P8 X.K):=by
 intro Q6 s σ H xs us Q I r h;obtain⟨x,T,t,b,rfl,ty,e,q⟩:=h;cases r with
 | cons r1 r2 =>
  cases r2 with
  | cons r3 r4 =>
   cases r4;cases (show _=Xp T from r3);exact ux I r1 ty e λtk=>⟨.bl b,H,I.tok tk,rfl,q⟩
def Ey:c8 X (.builtin "isinstance") (Qf X.K):=by
 intro Q6 s σ H xs us Q I r h;obtain⟨x,C,t,b,rfl,ty,e,q⟩:=h;cases r with
 | cons r1 r2 =>
  cases r2 with
  | cons r3 r4 =>
   cases r4;cases (show _=V4 C from r3);exact ux I r1 ty e λtk=>⟨.bl b,H,I.tok tk,rfl,q⟩
section
variable(K:VU)
end
variable{o:HO}{a:Addr}{ch:List Addr}{t':Nat}{h':Heap}{s:Shared}{H:Hp}{σ:St}{Q6:List (Addr×Obj)}
variable{x1:Nat}{elts:List Expr}{w:World}{P:Program}
def Inv.lG(I:Inv X Q6 σ H s)(k:∀b u,b ∉ ch->s.heap.get? b=some u->h'.get? b=some u)(Tf:∀b∈ch,lQ X Q6 H b)(hp:s.heap.objs.size<=a)(hl:∀b∈ch,∃u,s.heap.get? b=some u)(new:bD X.prog X.w (upd H a o) h' a o):Inv X Q6 σ (upd H a o) { s with heap:=h',toks:=t' }:=by
 have ne:∀b u,s.heap.get? b=some u->b≠a:=λb u e=>V_ (V8 (V3 e) hp);have Uc:H a=none:=I.bA.fresh hp;have Up:∀b u,H b=some u->b ∉ ch:=λb u e z=>by rw[(Tf b z).1] at e;cases e
 have Uo:∀b u,H b=some u->b≠a:=λb u e z=>by rw[z,Uc] at e;cases e
 refine I.step (g':=s.gens) (d':=s.drawn) (ch:=ch) (λb hb=>?_) (λb u _ _ hc e _=>k b u hc e) (λb u _ _ hc e _=>⟨u.slots,k b u hc e⟩)
  (λb u _ e n=>by rwa[au (ne b u e)]) (λb u hc e=>⟨u,k b u hc e⟩)
  (λb xs e=>by rwa[au (Uo b _ e)]) (λb ob u e=>by rwa[au (Uo b _ e)]) (λb ps e=>⟨#[],by rw[au (Uo b _ e),e];simp⟩) (λm hm=>?_) (λb u e=>?_) I.bare
 .obtain⟨_,f1,_,f3,f4,f5⟩:=Tf b hb;exact⟨f3,f1,f4,f5⟩
 .obtain⟨ob,es,ep,ho,r⟩:=hm;exact⟨ob,es,ep,k _ ob (λz=>(Tf _ z).2.1 rfl) ho,r⟩
 .by_cases z:b=a
  .subst z;rw[ay] at e;cases e;exact new
  .rw[au z] at e;refine(I.bA b u e).n5 (λc v hc q=>k c v ?_ q) (λc q=>?_) λc ys q=>?_
   .rcases hc with z'|z'
    .rw[z'];exact Up b u e
    .exact Up c _ z'
   .rw[au (Uo c _ q)];exact q
   .rw[au (Uo c _ q)];exact q
def L7 (K : VU)(a : Addr) : It :=
  ⟨λi H => ∃xs x,gQ K H a xs /\ xs[i]? = some x,
   λi H y H' => ∃p x,H p=none /\ y=.ref p /\ H'=upd H p (.tup [.int i,x]) /\ ∀xs,gQ K H a xs -> xs[i]? = some x,
   λi H => ∃xs,gQ K H a xs /\ xs.length <= i⟩
theorem Cv{K:VU}{tp:Pos}(a e it:Addr)(TJ:e≠it):Turn P w K (.Tuple elts x1 tp) (L7 K a) [e,it] e (λi h=>(∃old,IsEnum h e it i old)/\h.IsListIter it a i) where
 mem:=by simp
 obj:=λi h st b hb=>by
  obtain⟨⟨old,he⟩,⟨o,e1,c,d⟩⟩:=st;rcases Wd.mp hb with z|z
  .subst z;exact⟨_,he,λv z=>by cases z⟩
  .have z':b=it:=by simpa using z
   subst z';exact⟨o,e1,λv z=>by rw[d] at z;cases z⟩
 keep:=λi h h' st k=>by
  obtain⟨⟨old,he⟩,hit⟩:=st;exact⟨⟨old,k e ↑13 _ he⟩,hit.at λo x=>k it ↑13 o x⟩
 item:=by
  intro X hP hw hK hc i Q6 s σ H E I hf st hg;subst hP hw hK;obtain⟨xs,x,hq,hx⟩:=hg;obtain⟨Rb,rv,p,hz⟩:=I.list hq;obtain⟨u,hu,ru⟩:=rv.get hx;obtain⟨⟨old,he⟩,hit⟩:=st;have Ub:e<s.heap.objs.size:=V3 he;have UY:it<s.heap.objs.size:=by obtain⟨_,z,_⟩:=hit;exact V3 z
  refine wpAny_pyNext_enum_item he hit p.isList (x:=u) (by simpa using hu) TJ λh' ho UZ hT hsz hk=>⟨_,rfl,?_⟩
  refine aaL (s:={ s with heap:=h',toks:=s.toks+1 }) ho λh2 he2 Sw=>?_;have Ul:∀b o,b ∉ [e,it]->s.heap.get? b=some o->h2.get? b=some o:=λb o hb q=>by
   have n1:b≠e:=λz=>hb (by simp[z]);have n2:b≠it:=λz=>hb (by simp[z]);exact(Sw.2 b n1).trans (hk b o n1 n2 q)
  have UB:h2.get? s.heap.objs.size=some { cls:=.type "tuple",data:=.seq #[.int i s.toks,u] }:=(Sw.2 _ (XM Ub)).trans hT;have I2:Inv X Q6 σ (upd H s.heap.objs.size (.tup [.int i,x])) { s with heap:=h2,toks:=s.toks+1 } :=
   I.lG (ch:=[e,it]) Ul hf (VX _) (λb hb=>by
    rcases Wd.mp hb with z|z
    .subst z;exact⟨_,he⟩
    .have z':b=it:=by simpa using z
     subst z';obtain⟨o,z,_⟩:=hit;exact⟨o,z⟩)
    ⟨by show 2<=sizeLine;decide,[.int i s.toks,u],.cons ⟨_,rfl⟩ (.cons ru .nil),⟨_,UB,rfl,_,rfl⟩⟩
  have SH:H s.heap.objs.size=none:=I.bA.fresh (VX _);refine⟨.ref s.heap.objs.size,_,I2,rfl,⟨_,x,SH,rfl,rfl,λys hy=>by rwa[I.sU hy hq]⟩,⟨⟨u,by simpa using he2⟩,UZ.at λo z=>(Sw.2 it (Xs TJ)).trans z⟩,λb hb=>?_⟩;have nb:b≠s.heap.objs.size:=by
   rcases Wd.mp hb with z|z
   .rw[z];exact V_ Ub
   .have z':b=it:=by simpa using z
    rw[z'];exact V_ UY
  rw[au nb];exact(hf b hb).1
 done:=by
  intro X hP hw hK hc i Q6 s σ H E I hf st hg;subst hP hw hK;obtain⟨xs,hq,hx⟩:=hg;obtain⟨Rb,rv,p,hz⟩:=I.list hq;have hl:=rv.length;obtain⟨⟨old,he⟩,hit⟩:=st;obtain⟨f0,f1,f2,f3,f4,f5⟩:=hf it ↑13;exact wpAny_pyNext_enum_end (I.ok.hd hc) he hit p.isList (by simp;lia) λh' eb=>⟨rfl,I.turned (t':=s.toks) (λb o hb e=>eb b o hb e) f0 f1 f3 f4 f5⟩
 self:=λ_ _ _ _ _ st h=>by
  obtain⟨⟨old,he⟩,_⟩:=st;exact ZO he h
variable{A:Around}{prog:Program}
variable{scope:Scope}{ifs:List Expr}{elt iter:Expr}
section
variable{R:Result->Shared->Prop}
def Bo{target:Expr}{pos:Pos}{it acc:Value}{env:Env}(I:Nat->Shared->Prop)
  (turn:∀n s,I n s->wpAny ↑11 A (pyNext it) (λr s₁=>match r with
   | none=>R (.ok .next) s₁
   | some v=>wpAny ↑11 A (letOwnedTupleGo target it v) (λ_ s₂=>wpAny ↑11 A (assign target env v) (λ_ s₃ =>
     wpAny ↑11 A (forIn ifs true λc r=>if r=true then do let ok <- isTrue c env (eval c env);pure (adv ok) else pure (adv r)) (λok s₄ =>
      if ok=true then wpAny ↑11 A (eval elt env) (λx s₅ =>
       wpAny ↑11 A (call (.builtin "list.append") [acc,x]) (λ_ s₆=>∃m,m<n/\I m s₆) (λ_ _=>False) s₅) (λ_ _=>False) s₄
      else ∃m,m<n/\I m s₄) (λ_ _=>False) s₃) (λ_ _=>False) s₂) (λ_ _=>False) s₁) (λ_ _=>False) s)
  (n:Nat) (h:I n s) :
  codeAny ↑11 A (.compLoop (.ListComp elt [⟨target,iter,ifs,0⟩] scope pos) 0 it acc env) R s:=by
 refine codeAny_loop rfl I (λn s hI=>?_) n h;show wpAny _ A ((compTurn (.ListComp elt [⟨target,iter,ifs,0⟩] scope pos) 0 it acc env).onRaise (λx=>do noteFrame x env;theTreesLotGoes x)) _ _ s;refine wpAny_noted ?_;rw[compTurn_list];refine VQ (Zr (VQ (XO (turn n s hI) (λr s₁ h₁=>?_) λ_ _ h'=>h'.elim)));cases r with
 | none=>exact VY h₁
 | some v =>
  refine VQ (XO h₁ (λ_ s₂ h₂=>VQ (XO h₂ (λ_ s₃ h₃=>VQ (XO h₃ (λok s₄ h₄=>?_) λ_ _ h'=>h'.elim)) λ_ _ h'=>h'.elim)) λ_ _ h'=>h'.elim);cases ok with
  | false=>exact VY ⟨rfl,h₄⟩
  | true =>
   exact VQ (VQ (XO h₄ (λx s₅ h₅=>VQ (XO h₅ (λ_ s₆ h₆=>VY (VY ⟨rfl,h₆⟩)) λ_ _ h'=>h'.elim)) λ_ _ h'=>h'.elim))
end
def n9(X:Cx)(scope:Scope)(cl:List (Str×Addr))(N:List Str)(C:Addr)(s₀:Shared)(H₀:Hp)(ex:List Addr)(Q6:List (Addr×Obj)):Cx :=
 { X with N:=N,s₀:=s₀,H₀:=H₀,env:=compEnvC scope cl C X.env,outer:=X.stack,stack:=X.stack,ex:=ex,fn:=λ_=>false,pn:=X.pn++Q6,xe:=λ_ _=>False }
inductive iE (X:Cx) (sc:Scope) (cl:List (Str×Addr)):List Str->List Nat->Prop where
 | nil:iE X sc cl [] []
 |cons {x:Str} {j:Nat} {c:Addr} {fs:List Str} {js:List Nat} (hN:X.N[j]?=some x) (hf:sc.names.lookup x=some .free) (hv:X.env.kindOf x=some .cell\/X.env.kindOf x=some .free) (hc:X.env.cells.lookup x=some c) (hl:cl.lookup x=some c) (r:iE X sc cl fs js):iE X sc cl (x::fs) (j::js)
inductive eI (X:Cx):List (Str×Addr)->Prop where
 | nil:eI X []
 |cons {x:Str} {c:Addr} {r:List (Str×Addr)} (h:X.env.cells.lookup x=some c) (t:eI X r):eI X ((x,c)::r)
theorem eI.at{X:Cx}:∀{cl:List (Str×Addr)},eI X cl->∀x c,cl.lookup x=some c->X.env.cells.lookup x=some c
 | _,.nil,_,_,e=>by simp at e
 | _,.cons (x:=y) (c:=d) h t,x,c,e=>by
  rw[Xn] at e;cases q:x==y with
  | true =>
   rw[q] at e;have e':d=c:=V9 e;have q':x=y:=by simpa using q
   rwa[q',<- e']
  | false =>
   rw[q] at e;exact eI.at t x c e
def gy(cl:List (Str×Addr))(names:List (Str×NameKind)):Bool:=names.all λy=>y.2 != .free||(cl.lookup y.1).isSome
def e_(names:List (Str×NameKind)):Bool:=names.all λy=>y.2 != .cell
def gu(names:List (Str×NameKind)):Bool:=names.all λy=>y.2 != .local||(names.lookup y.1==some .local)
def fZ(ts:List Str)(js:List Nat)(σ:St):St:=ts.map (λ_=>none)++js.map λj=>(σ[j]?).join
def Ac(wi:TI)(g:TG)(tt:Option TT)(te:TE)(ts:List Str)(js:List Nat):TE:=fun σ H Q=>wi σ H λJ H1=>∀D,H1 D=none ->
 ∃ W:Nat->Nat->St->Hp->Prop,(∃m,W 0 m (fZ ts js σ) (upd H1 D (.lst [])))/\∀i m σ' H',W i m σ' H' ->
  (J.stop i H'/\Q (.ref D) H')\/(J.go i H'/\∃N:St->Hp->Prop,(∀σ'' H'',N σ'' H''->∃m',m'<m/\W (i+1) m' σ'' H'') ∧
   ∀ x H2,J.vx i H' x H2->g x σ' H2 fun σ2 H3=>match tt with
    | none=>te σ2 H3 λy H4=>∃ys,H4 D=some (.lst ys)/\ys.length<sizeLine/\N σ2 (upd H4 D (.lst (ys++[y])))
    |some t=>t σ2 H3 λb Vh=>if b=true then te σ2 Vh λy H4=>∃ys,H4 D=some (.lst ys)/\ys.length<sizeLine/\N σ2 (upd H4 D (.lst (ys++[y]))) else N σ2 Vh)
variable{x:Str}{C:Addr}
def rj {cl : List (Str × Addr)}{env : Env}(h : (compEnvC scope cl C env).kindOf x=some .cell \/ (compEnvC scope cl C env).kindOf x=some .free)(nc : e_ scope.names=true) : scope.names.lookup x=some .free := by
  have key : ∀(names : List (Str × NameKind)),e_ names=true ->
      ((names.map λ(n,k) => if (k == Z4 && env.scope.kind == .function && env.kindOf n == some .cell) then (n,acf) else (n,k)).lookup x=some .cell ∨
       (names.map λ(n,k) => if (k == Z4 && env.scope.kind == .function && env.kindOf n == some .cell) then (n,acf) else (n,k)).lookup x=some .free) -> names.lookup x=some .free := by
    intro names
    induction names with
    | nil => intro _ h; simp at h
    | cons p r ih =>
      obtain ⟨n,k⟩ := p;intro nc h;have nc' : (k != .cell)=true /\ e_ r=true := by
        unfold e_ at nc;rw [List.all_cons,WT] at nc;exact nc
      rw [Wv] at h;dsimp only at h
      by_cases hc : (k == Z4 && env.scope.kind == .function && env.kindOf n == some .cell)=true
      . rw [if_pos hc] at h;rw [Xn] at h ⊢;cases q : x == n with
        | true =>
          have : k=.free := by
            rw [WT,WT] at hc;simpa using hc.1.1
          rw [this]
        | false =>
          rw [q] at h;exact ih nc'.2 h
      . rw [if_neg hc] at h;rw [Xn] at h ⊢;cases q : x == n with
        | true =>
          rw [q] at h;have nk : k ≠ .cell := by simpa using nc'.1
          rcases h with h|h
          . exact absurd (V9 h) nk
          . exact h
        | false =>
          rw [q] at h;exact ih nc'.2 h
  exact key scope.names nc h
variable{js:List Nat}{ts:List Str}{te:TE}{tt:Option TT}{Rz:Pos}{tg:Expr}
theorem qI{cl:List (Str×Addr)}{pos:Pos}{wi:TI}{g:TG}{fs:List Str}(Rh:X.calm=true)(Rr:closureFor scope X.env=pure cl)(hk:scope.kind=.function)(nc:e_ scope.names=true)(lo:gu scope.names=true)(fh:gy cl scope.names=true)(ag:eI X cl)(fr:iE X scope cl fs js)(hi:PI X tg iter wi)(hg:∀C s₀ H₀ ex Q6,PG (n9 X scope cl (ts++fs) C s₀ H₀ ex Q6) tg g)(ht:∀C s₀ H₀ ex Q6,match ifs,tt with|[],none=>True|[c],some t=>PT (n9 X scope cl (ts++fs) C s₀ H₀ ex Q6) c t|_,_=>False)(he:∀C s₀ H₀ ex Q6,PE (n9 X scope cl (ts++fs) C s₀ H₀ ex Q6) elt te)(hs:∀x,foldedSetIterable iter X.env x=pure x){Q:VK}(I:Inv X Q6 σ H s)(h:Ac wi g tt te ts js σ H Q)(use:Option (Value->Sem Unit))(Qv:Value->Shared->Prop)(JZ:∀(D:Addr)(H':Hp)(s':Shared)(C:Addr),Inv X Q6 σ H' s'->Q (.ref D) H'->(∃m,s'.heap.Ns C m)->lQ X Q6 H' C->compPost ↑8 X.A X.xe use Qv (.ref D) C (.ok .next) s'):wpAny ↑8 X.A (comprehension (.ListComp elt [⟨tg,iter,ifs,0⟩] scope pos) scope X.env Rz (newList []) false (eval iter X.env) use) Qv X.xe s:=by
 have TF:∀y∈scope.names,y.2≠.cell:=λy hy=>by
  have:=W_.mp nc y hy;simpa using this
 have U1:∀y∈scope.names,y.2=.local->scope.names.lookup y.1=some .local:=λy hy hl=>by
  have:=W_.mp lo y hy;rw[hl] at this;simpa using this
 refine wpAny_comprehension_free (use:=use) rfl hs Rr hk U1 (cv (hi Q6 s σ H _ I h) λv s1 h1=>cv h1 λitv s2 h2=>?_);obtain⟨it,fp,tn,J,H1,e,I2,T,TU,f2,hJ⟩:=h2;subst e;refine Xa (wpAny_newFunctionEnv TF (by intro y hy;simp at hy) (λh₁ hns1 hsb1=>?_) hk);dsimp only at hns1 hsb1 ⊢;generalize hH2:s2.heap.push { cls:=.type "list",dict:=none,data:=.seq ([]:List Value).toArray }=G at hns1 hsb1 ⊢;have hC:G.objs.size=s2.heap.objs.size+1:=by rw[<- hH2,WN]
 have old:∀b o,s2.heap.get? b=some o->h₁.get? b=some o:=λb o e=>by
  have hb:=V3 e;refine hsb1.extBut b o (V_ (V8 hb (Y5 (by rw[hC];exact X7 _)))) (VR _ ?_);rw[<- hH2];exact VR _ e
 have T7:h₁.get? s2.heap.objs.size=some { cls:=.type "list",dict:=none,data:=.seq #[] }:=by
  refine hsb1.extBut _ _ (V_ (by rw[hC];exact X7 _)) (VR _ ?_);rw[<- hH2];exact V2 _ rfl
 have nD:H1 s2.heap.objs.size=none:=I2.bA.fresh (VX _);have nC:H1 G.objs.size=none:=I2.bA.fresh ⋯;obtain⟨W,⟨m0,w0⟩,turn⟩:=hJ _ nD;have Vu:∀b∈fp,b<s2.heap.objs.size:=λb hb=>by
  obtain⟨o,e,_⟩:=T.obj _ _ TU b hb;exact V3 e
 have ltk:∀(x:Str)(c:Addr),cl.lookup x=some c->c<s2.heap.objs.size/\H1 c=none/\(∃v,s2.heap.IsCell c v):=λx c e=>by
  have e':=ag.at x c e;obtain⟨v,q⟩:=I2.cell x c e';exact⟨q.lt,I2.gU x c e',v,q⟩
 let X':=n9 X scope cl (ts++fs) G.objs.size s2 H1 fp Q6
 have okX:X'.Ok:=by
  refine⟨I2.ok.mod,hk,I2.ok.glob,I2.ok.blt,by show s2.heap.objs.size<=G.objs.size;lia,λx y c e1 e2=>I2.ok.inj x y c (ag.at x c e1) (ag.at y c e2),λx hx=>?_,λx c hf _=>(nomatch (show (false:Bool)=true from hf)),I2.ok.hd,I2.ok.frames,.inl rfl,λb hb=>⟨?_,λx c e z=>?_⟩,λb o e=>I2.bs b o e,WE I2.ok.Ex I2.sz,λb o e hb=>?_,λb hb hz=>?_,I2.stack,λb hb=>I2.wH b hb⟩
  .have TH:=rj (env:=X.env) hx nc;have hm:∃y∈scope.names,y.1=x/\y.2=.free:=by
    have:∀(l:List (Str×NameKind)),l.lookup x=some .free->∃y∈l,y.1=x/\y.2=.free:=by
     intro l
     induction l with
     | nil=>intro h;simp at h
     | cons p r ih =>
      intro h;rw[Xn] at h;cases q:x==p.1 with
      | true =>
       rw[q] at h;exact⟨p,V7,(by simpa using q:x=p.1).symm,V9 h⟩
      | false =>
       rw[q] at h;obtain⟨y,hy,r1,r2⟩:=ih h;exact⟨y,V5 _ hy,r1,r2⟩
    exact this _ TH
   obtain⟨y,hy,r1,r2⟩:=hm;have:=W_.mp fh y hy;rw[r2] at this;have h':(cl.lookup y.1).isSome=true:=by simpa using this
   rw[r1] at h';exact YN.mp h'
  .exact V_ (V8 (Vu b hb) (by show s2.heap.objs.size<=G.objs.size;lia))
  .exact(f2 b hb).2.2.2.2.1 x c (ag.at x c e) z
  .obtain⟨_,_,_,f3,_,_⟩:=f2 b hb;rcases f3 with z|z
   .exact I2.ok.vO b o e z
   .exact absurd (V8 (V3 (I2.ok.bs b o e).1) z) (Yt _)
  .rcases Wd.mp (I2.vo b hz) with z|z
   .exact(f2 b hb).2.1 z
   .exact(f2 b hb).2.2.1 z
 have keepB:∀b o,s2.heap.get? b=some o->h₁.get? b=some o:=old;have I3:Inv X' [] (fZ ts js σ) (upd H1 s2.heap.objs.size (.lst [])) { s2 with heap:=h₁,toks:=s2.toks+([]:List (Str×Value)).length }:=by
  have neD:∀b o,s2.heap.get? b=some o->b≠s2.heap.objs.size:=λb o e=>V_ (V3 e);refine⟨okX,rfl,I2.bare,⟨λb o e n hb hx=>old b o e,λb o e n hb hx=>⟨o.slots,old b o e⟩,λb o e n hx=>by rwa[au (neD b o e)],λb o e hx=>⟨o,old b o e⟩,λb xs e=>?_,λb o u e=>?_,λb ps e=>?_⟩,⟨_,hns1,λi x v e1 e2 e3=>?_⟩,λx c e=>?_,?_,λx c e=>?_,λp hp=>?_,?_,?_⟩
  .rw[au (bW e nD)];exact e
  .rw[au (bW e nD)];exact e
  .exact⟨#[],by rw[au (bW e nD)];exact WM e ↑13⟩
  .
   have hlen:(ts.map (λ_=>(none:Option V))).length=ts.length:=VW _;unfold fZ at e2
   by_cases RW:i<ts.length
   .rw[W3 (by rwa[hlen]),Ww] at e2;cases q:ts[i]?<;>rw[q] at e2<;>cases e2
   .rw[WV (by rw[hlen];lia),hlen] at e2;have UA:fs[i-ts.length]?=some x:=by
     have UA:(ts++fs)[i]?=some x:=e1;rwa[WV ⋯] at UA
    have all:∀{fs:List Str}{js:List Nat},iE X scope cl fs js->∀k:Nat,fs[k]?=some x->(js.map λj=>(σ[j]?).join)[k]?=some (some v) ->
      ∃(j:Nat)(c:Addr),X.N[j]?=some x/\σ[j]?=some (some v)/\(X.env.kindOf x=some .cell\/X.env.kindOf x=some .free)/\X.env.cells.lookup x=some c/\cl.lookup x=some c/\scope.names.lookup x=some .free:=by
     intro fs js r
     induction r with
     | nil=>intro k e;simp at e
     | @cons y j c fs js hN hf hv hc hl r ih =>
      intro k e e';cases k with
      | zero =>
       have e0:y=x:=by simpa using e
       subst e0;have Vj:(σ[j]?).join=some v:=by simpa using e'
       refine⟨j,c,hN,?_,hv,hc,hl,hf⟩;cases q:σ[j]? with
       | none=>rw[q] at Vj;cases Vj
       | some z=>rw[q] at Vj;cases z with
        | none=>cases Vj
        | some z =>
         have:z=v:=by simpa using Vj
         rw[this]
      | succ k=>exact ih k (by simpa using e) (by simpa using e')
    obtain⟨j,c,q1,q2,q3,q4,q5,q6⟩:=all fr (i-ts.length) UA e2;obtain⟨m,hn,hl⟩:=I2.loc;have vis:CA X.env.scope x:=by
     rcases q3 with z|z
     .exact .inr (.inl z)
     .exact .inr (.inr z)
    obtain⟨u,ru,lk⟩:=hl j x v q1 q2 vis;refine⟨u,ru,.inr ⟨?_,c,q5,?_⟩⟩
    .rcases e3 with z|z|z
     .exfalso;have key:∀(l:List (Str×NameKind)),(l.map λ(n,k)=>if (k==Z4&&X.env.scope.kind==.function&&X.env.kindOf n==some .cell) then (n,acf) else (n,k)).lookup x=some .local->l.lookup x=some .local:=by
       intro l
       induction l with
       | nil=>intro h;simp at h
       | cons p r ih =>
        obtain⟨n,k⟩:=p;intro h;rw[Wv] at h;dsimp only at h
        by_cases hc:(k==Z4&&X.env.scope.kind==.function&&X.env.kindOf n==some .cell)=true
        .rw[if_pos hc] at h;rw[Xn] at h ⊢;cases q:x==n with
         | true=>rw[q] at h;cases h
         | false=>rw[q] at h;exact ih h
        .rw[if_neg hc] at h;rw[Xn] at h ⊢;cases q:x==n with
         | true=>rwa[q] at h
         | false=>rw[q] at h;exact ih h
      have:=key _ z;rw[q6] at this;cases this
     .exact .inl z
     .exact .inr z
    .rcases lk with ⟨k,_⟩|⟨_,c',e4,z⟩
     .rcases q3 with z|z<;>rw[z] at k<;>cases k
     .rw[q4] at e4;cases e4;obtain⟨o,ho,hd⟩:=z;exact⟨o,old c o ho,hd⟩
  .obtain⟨_,_,v,o,ho,hd⟩:=ltk x c e;exact⟨v,o,old c o ho,hd⟩
  .show upd H1 s2.heap.objs.size (.lst []) G.objs.size=none;rwa[au (XM (by rw[hC];exact X7 _))]
  .obtain⟨q1,q2,_⟩:=ltk x c e;rwa[au (V_ q1)]
  .have Uv:p∈X.pn++Q6:=by
    have:p∈(X.pn++Q6)++[]:=hp
    rwa [W9] at this
   obtain⟨e,n,ne,nf,d⟩:=I2.pin p Uv;have RW:=V3 e;refine⟨old _ _ e,by rwa[au (V_ RW)],?_,λhz=>?_,d⟩
   .show p.1≠G.objs.size;exact V_ (Nat.lt_trans RW (by rw[hC];exact X7 _))
   .rcases Wd.mp (I2.vo _ hz) with z|z
    .exact ne z
    .exact nf z
  .exact I2.bA.laid old (VX _) ⟨Wb _,[],0,.nil,T7⟩
  .show (fZ ts js σ).length=(ts++fs).length;have frl:∀{fs:List Str}{js:List Nat},iE X scope cl fs js->fs.length=js.length:=by
    intro fs js r
    induction r with
    | nil=>rfl
    | cons _ _ _ _ _ _ ih=>rw[WS,WS,ih]
   unfold fZ;rw[WD,WD,VW,VW,frl fr]
 have Tx:∀{H':Hp},(∀b∈fp,H' b=none)->∀b∈fp,lQ X' [] H' b:=λ{H'} hn b hb=>by
  obtain⟨_,f1,f3,_,f4,f5⟩:=f2 b hb;refine⟨hn b hb,okX.MQ b hb |>.1,okX.yp b hb,.inl hb,λx c e=>f4 x c (ag.at x c e),λp hp=>f5 p ?_⟩;have:p∈(X.pn++Q6)++[]:=hp
  rwa [W9] at this
 have fin:∀{σ':St}{H':Hp}{s':Shared},Inv X' [] σ' H' s'->Q (.ref s2.heap.objs.size) H' ->
   compPost ↑8 X.A X.xe use Qv (.ref s2.heap.objs.size) G.objs.size (.ok .next) s':=by
  intro σ' H' s' I4 q;obtain⟨m,hn,_⟩:=I4.loc;have fC:H' G.objs.size=none:=I4.free;have Io:Inv X Q6 σ H' s':=by
   refine I2.EU (s':=s') (ch:=fp) I4.os ⟨λb o e n hb hx=>?_,λb o e n hb hx=>?_,λb o e n hx=>I4.base.free b o e n hx,λb o e hx=>?_,I4.base.qQ,I4.base.mB,I4.base.rA⟩ I4.bA I4.bare λb hb=>?_
   .exact I4.base.keep b o e n hb hx
   .exact I4.base.slot b o e n hb hx
   .exact I4.base.there b o e hx
   .obtain⟨_,f1,_,f3,f4,f5⟩:=f2 b hb;exact⟨f3,f1,f4,f5⟩
  have hCl:s2.heap.objs.size<=G.objs.size:=by rw[hC];exact Z9 _
  exact JZ _ H' s' _ Io q ⟨m,hn⟩ (I2.rD hCl fC)
 have loop:∀s3:Shared,s3={ s2 with heap:=h₁,toks:=s2.toks+([]:List (Str×Value)).length } ->
   codeAny ↑8 X.A (.compLoop (.ListComp elt [⟨tg,iter,ifs,0⟩] scope pos) 0 (.ref it) (.ref s2.heap.objs.size) (compEnvC scope cl G.objs.size X.env))
    (compPost ↑8 X.A X.xe use Qv (.ref s2.heap.objs.size) G.objs.size) s3:=by
  rintro s3 rfl;refine Bo (λn s'=>∃i σ' H',Inv X' [] σ' H' s'/\tn i s'.heap/\(∀b∈fp,H' b=none)/\W i n σ' H') ?_ m0 ⟨0,_,_,I3,T.keep _ _ _ TU λb _ o e=>old b o e,λb hb=>?_,w0⟩
  .rintro n s3 ⟨i,σ3,H3,I3,Vg,fr3,w3⟩;rcases turn i n σ3 H3 w3 with ⟨stop,qn⟩|⟨go,N,hN,step⟩
   .refine cv (T.done X' rfl rfl rfl Rh i [] s3 σ3 H3 _ I3 (Tx fr3) Vg stop) λr s4 ⟨hr,I4⟩=>?_;subst hr;exact fin I4 qn
   .refine cv (T.item X' rfl rfl rfl Rh i [] s3 σ3 H3 _ I3 (Tx fr3) Vg go) λr s4 ⟨u,hr,h4⟩=>?_;subst hr;refine cv h4 λ_ s5 ⟨x,H5,I5,r5,y5,st5,fr5⟩=>?_;have I5':=I5.pinned (Tx fr5) (T.obj _ _ st5);refine cv (hg _ _ _ _ _ _ s5 σ3 H5 x u _ I5' r5 (step x H5 y5)) λ_ s6 ⟨σ6,H6,I6,q6⟩=>?_;have again:∀{σ7:St}{H7:Hp}{s7:Shared},Inv X' ([]++oU fp s5.heap) σ7 H7 s7->N σ7 H7->∃m,m<n/\∃i σ' H',Inv X' [] σ' H' s7/\tn i s7.heap/\(∀b∈fp,H' b=none)/\W i m σ' H':=λ{σ7 H7 s7} I7 n7=>by
     obtain⟨m',hm,w7⟩:=hN σ7 H7 n7;refine⟨m',hm,i+1,σ7,H7,I7.nB,T.keep _ _ _ st5 λb hb o e=>(I7.pin (b,o) (WR _ (WR _ (jS hb e)))).1,λb hb=>?_,w7⟩;obtain⟨o,e,d⟩:=T.obj _ _ st5 b hb;exact(I7.pin (b,o) (WR _ (WR _ (jS hb e)))).2.1
    have tail:∀{H7:Hp}{s7:Shared},Inv X' ([]++oU fp s5.heap) σ6 H7 s7->(te σ6 H7 λy H4=>∃ys,H4 s2.heap.objs.size=some (.lst ys)/\ys.length<sizeLine/\N σ6 (upd H4 s2.heap.objs.size (.lst (ys++[y])))) ->
      wpAny ↑8 X.A (eval elt (compEnvC scope cl G.objs.size X.env)) (λx s₅=>wpAny ↑8 X.A (call (.builtin "list.append") [.ref s2.heap.objs.size,x])
       (λ_ s₆=>∃m,m<n/\∃i σ' H',Inv X' [] σ' H' s₆/\tn i s₆.heap/\(∀b∈fp,H' b=none)/\W i m σ' H') (λ_ _=>False) s₅) (λ_ _=>False) s7:=by
     intro H7 s7 I7 q7;refine cv (he _ _ _ _ _ _ s7 σ6 H7 _ I7 q7) λuy s8 ⟨y,H8,I8,ry,ys,hy,hl,q8⟩=>?_;refine cv (oq (X:=X') _ s8 σ6 H8 (.ref s2.heap.objs.size) [y] (.ref s2.heap.objs.size) [uy] (λ_ H9=>N σ6 H9) I8 rfl (.cons ry .nil) ⟨_,ys,y,rfl,rfl,hy,hl,q8⟩) λ_ s9 ⟨_,H9,I9,_,q9⟩=>?_;exact again I9 q9
    cases ifs with
    | nil =>
     cases tt with
     | none=>exact wpAny_tests_nil (tail I6 q6)
     | some t=>exact(ht 0 s2 H1 [] []).elim
    | cons c r =>
     cases r with
     | nil =>
      cases tt with
      | none=>exact(ht 0 s2 H1 [] []).elim
      | some t =>
       refine wpAny_tests_one (cv (ht G.objs.size s2 H1 fp Q6 _ s6 σ6 H6 _ I6 q6) λb s7 ⟨H7,I7,q7⟩=>?_);cases b with
       | true =>
        rw[if_pos rfl] at q7 ⊢;exact tail I7 q7
       | false =>
        rw[if_neg WY] at q7 ⊢;exact again I7 q7
     | cons _ _=>cases tt<;>exact(ht 0 s2 H1 [] []).elim
  .rw[au (V_ (Vu b hb))];exact(f2 b hb).1
 exact codeAny_compStart_list (loop _ rfl) (T.self _ 0 _ _ _ (T.keep _ _ _ TU λb _ o e=>old b o e) (loop _ rfl))
def Inv.other(I:Inv X Q6 σ H s)(f:lQ X Q6 H C)(hs:YJ C s.heap h'):Inv X Q6 σ H { s with heap:=h' }:=by
 obtain⟨f0,f1,_,f3,f4,f5⟩:=f;refine I.EU (s':={ s with heap:=h' }) (ch:=[C]) rfl ⟨λb o e n hb hx=>?_,λb o e n hb hx=>?_,λb o e n hx=>n,λb o e hx=>?_,λ_ _ q=>q,λ_ _ _ q=>q,λb ps q=>⟨#[],by rw[q];simp⟩⟩ (λb u e=>?_) I.bare λb hb=>?_
 .exact(hs.2 b (λz=>hx (by rw[z];exact Wi.mpr rfl))).trans e
 .exact⟨o.slots,(hs.2 b (λz=>hx (by rw[z];exact Wi.mpr rfl))).trans e⟩
 .exact⟨o,(hs.2 b (λz=>hx (by rw[z];exact Wi.mpr rfl))).trans e⟩
 .refine(I.bA b u e).n5 (λc v hc q=>(hs.2 c ?_).trans q) (λ_ q=>q) λ_ _ q=>q;rcases hc with z|z
  .rw[z];exact bW e f0
  .exact bW z f0
 .rw[Wi.mp hb];exact⟨f3,f1,f4,f5⟩
def Aj{cl:List (Str×Addr)}{pos:Pos}{wi:TI}{g:TG}{fs:List Str}(Rh:X.calm=true)(Rr:closureFor scope X.env=pure cl)(hk:scope.kind=.function)(nc:e_ scope.names=true)(lo:gu scope.names=true)(fh:gy cl scope.names=true)(ag:eI X cl)(fr:iE X scope cl fs js)(hi:PI X tg iter wi)(hg:∀C s₀ H₀ ex Q6,PG (n9 X scope cl (ts++fs) C s₀ H₀ ex Q6) tg g)(ht:∀C s₀ H₀ ex Q6,match ifs,tt with|[],none=>True|[c],some t=>PT (n9 X scope cl (ts++fs) C s₀ H₀ ex Q6) c t|_,_=>False)(he:∀C s₀ H₀ ex Q6,PE (n9 X scope cl (ts++fs) C s₀ H₀ ex Q6) elt te)(hs:autoParam ↑5 aI._auto_1):PE X (.ListComp elt [⟨tg,iter,ifs,0⟩] scope pos) (Ac wi g tt te ts js):=by
 intro Q6 s σ H Q I h;rw[eval_ListComp];refine qI Rh Rr hk nc lo fh ag fr hi hg ht he hs I h none _ λD H' s' C Io q hm f=>?_;obtain⟨m,hn⟩:=hm;exact⟨m,hn,λh' UT=>⟨.ref D,H',Io.other f UT,rfl,q⟩⟩
def zM(wi:TI)(g:TG)(te:TE)(ts:List Str)(js:List Nat):TE:=fun σ H Q=>wi σ H λJ H1=>∀D,H1 D=none ->
 ∃ W:Nat->Nat->St->Hp->Prop,(∃m,W 0 m (fZ ts js σ) (upd H1 D (.lst [])))/\∀i m σ' H',W i m σ' H' ->
  (J.stop i H'/\Q (.ref D) H')\/(J.go i H'/\∃N:St->Hp->Prop,(∀σ'' H'',N σ'' H''->∃m',m'<m/\W (i+1) m' σ'' H'') ∧
   ∀x H2,J.vx i H' x H2->g x σ' H2 fun σ2 H3=>te σ2 H3 λy H4=>∃ys,H4 D=some (.lst ys)/\ys.length<sizeLine/\N σ2 (upd H4 D (.lst (ys++[y]))))
def zu(wi:TI)(g:TG)(t:TT)(te:TE)(ts:List Str)(js:List Nat):TE:=fun σ H Q=>wi σ H λJ H1=>∀D,H1 D=none ->
 ∃ W:Nat->Nat->St->Hp->Prop,(∃m,W 0 m (fZ ts js σ) (upd H1 D (.lst [])))/\∀i m σ' H',W i m σ' H' ->
  (J.stop i H'/\Q (.ref D) H')\/(J.go i H'/\∃N:St->Hp->Prop,(∀σ'' H'',N σ'' H''->∃m',m'<m/\W (i+1) m' σ'' H'') ∧
   ∀x H2,J.vx i H' x H2->g x σ' H2 fun σ2 H3=>t σ2 H3 λb Vh=>if b=true then te σ2 Vh λy H4=>∃ys,H4 D=some (.lst ys)/\ys.length<sizeLine/\N σ2 (upd H4 D (.lst (ys++[y]))) else N σ2 Vh)
def Fp{cl:List (Str×Addr)}{pos:Pos}{wi:TI}{g:TG}{fs:List Str}(Rh:X.calm=true)(Rr:closureFor scope X.env=pure cl)(hk:scope.kind=.function)(nc:e_ scope.names=true)(lo:gu scope.names=true)(fh:gy cl scope.names=true)(ag:eI X cl)(fr:iE X scope cl fs js)(hi:PI X tg iter wi)(hg:∀C s₀ H₀ ex Q6,PG (n9 X scope cl (ts++fs) C s₀ H₀ ex Q6) tg g)(he:∀C s₀ H₀ ex Q6,PE (n9 X scope cl (ts++fs) C s₀ H₀ ex Q6) elt te)(hs:autoParam ↑5 aI._auto_1):PE X (.ListComp elt [⟨tg,iter,[],0⟩] scope pos) (zM wi g te ts js) :=
 Aj (tt:=none) Rh Rr hk nc lo fh ag fr hi hg (λ_ _ _ _ _=>trivial) he hs
variable{c:Expr}
def Fy{cl:List (Str×Addr)}{pos:Pos}{wi:TI}{g:TG}{t:TT}{fs:List Str}(Rh:X.calm=true)(Rr:closureFor scope X.env=pure cl)(hk:scope.kind=.function)(nc:e_ scope.names=true)(lo:gu scope.names=true)(fh:gy cl scope.names=true)(ag:eI X cl)(fr:iE X scope cl fs js)(hi:PI X tg iter wi)(hg:∀C s₀ H₀ ex Q6,PG (n9 X scope cl (ts++fs) C s₀ H₀ ex Q6) tg g)(ht:∀C s₀ H₀ ex Q6,PT (n9 X scope cl (ts++fs) C s₀ H₀ ex Q6) c t)(he:∀C s₀ H₀ ex Q6,PE (n9 X scope cl (ts++fs) C s₀ H₀ ex Q6) elt te)(hs:autoParam ↑5 aI._auto_1):PE X (.ListComp elt [⟨tg,iter,[c],0⟩] scope pos) (zu wi g t te ts js) :=
 Aj (tt:=some t) Rh Rr hk nc lo fh ag fr hi hg ht he hs
def gK(h:Heap)(b:Bool)(l:Addr)(xs:Array Value):Prop:=match b with
 | true=>h.IsList l xs
 |false=>h.IsTuple l xs
def eZ(h:Heap)(b:Bool)(it l:Addr)(i:Nat):Prop:=match b with
 | true=>h.IsListIter it l i
 |false=>h.IsTupleIter it l i
variable{l:Addr}{b:Bool}{h:Heap}
def gK.at{xs:Array Value}(x:gK h b l xs)(k:∀o,h.get? l=some o->h'.get? l=some o):gK h' b l xs:=by
 cases b with
 | true=>obtain⟨o,ho,r⟩:=(show h.IsList l xs from x);exact(show h'.IsList l xs from ⟨o,k o ho,r⟩)
 |false=>obtain⟨o,ho,r⟩:=(show h.IsTuple l xs from x);exact(show h'.IsTuple l xs from ⟨o,k o ho,r⟩)
variable{i:Nat}{it:Addr}
def eZ.at(x:eZ h b it l i)(k:∀o,h.get? it=some o->h'.get? it=some o):eZ h' b it l i:=by
 cases b with
 | true=>obtain⟨o,ho,r⟩:=(show h.IsListIter it l i from x);exact(show h'.IsListIter it l i from ⟨o,k o ho,r⟩)
 |false=>obtain⟨o,ho,r⟩:=(show h.IsTupleIter it l i from x);exact(show h'.IsTupleIter it l i from ⟨o,k o ho,r⟩)
def eZ.obj(x:eZ h b it l i):∃o vs,h.get? it=some o/\o.data=.fields vs:=by
 cases b with
 | true=>obtain⟨o,ho,_,hd⟩:=(show h.IsListIter it l i from x);exact⟨o,_,ho,hd⟩
 |false=>obtain⟨o,ho,_,hd⟩:=(show h.IsTupleIter it l i from x);exact⟨o,_,ho,hd⟩
def gK.obj{xs:Array Value}(x:gK h b l xs):∃o n,h.get? l=some o/\o.data=.seq xs n:=by
 cases b with
 | true=>obtain⟨o,ho,_,n,hd⟩:=(show h.IsList l xs from x);exact⟨o,n,ho,hd⟩
 |false=>obtain⟨o,ho,_,n,hd⟩:=(show h.IsTuple l xs from x);exact⟨o,n,ho,hd⟩
variable{Q:Value->Shared->Prop}{items:Array Value}
variable{ys:Array Value}{k1 k2:Nat}{l1 l2:Addr}
section
variable{E:Value->Shared->Prop}
def i6{t:Addr}{x:Value}(hit:s.heap.IsTupleIter it t i)(ht:s.heap.IsTuple t items)(hx:items[i]?=some x)(hQ:∀h',h'.IsTupleIter it t (i+1)->YJ it s.heap h'->Q x { s with heap:=h' }):wpAny ↑11 A (Wj (.ref it)) Q E s:=by
 obtain⟨o,ho,hc,hd⟩:=id hit;obtain⟨ol,hol,_,nl,hdl⟩:=ht;unfold Wj;refine VQ (WQ (name:=WG "__next__") hit.typeIs F.slot_tuple_iterator_next
  (Xg F.slot_tuple_iterator_next hit.typeIs F.entry_tuple_iterator_next ?_ (F.args_tuple_iterator_next_1 _)))
 show wpAny _ _ (field (.ref it) 0 >>= _) _ _ s;refine VQ (Wz ho hd (x:=.ref t) rfl ?_);show wpAny _ _ (if (V4 t==WK)=true then _ else _) _ _ s;rw[if_neg (show ¬ ((V4 t==WK)=true) from WY)];show wpAny _ _ (field (.ref it) 1 >>= _) _ _ s;refine VQ (Wz ho hd (x:=.int i 0) rfl ?_);show wpAny _ _ (seqItems? (.ref t) >>= _) _ _ s;refine VQ (WO hol hdl ?_);simp only[Wq,hx];refine VQ (YY ho hd ↑13 (VY ⟨x,rfl,VY (hQ _ ?_ (YV ..))⟩));exact⟨_,WL _ ho (YE (XQ hd _)),(acP ..).trans hc,by
  rw[XQ hd];simp[rawInt]⟩
def fJ{t:Addr}(hh:A.handled=none)(hit:s.heap.IsTupleIter it t i)(ht:s.heap.IsTuple t items)(hx:items[i]?=none)(hE:∀h' e,adi it s.heap h'->(∃o,h'.get? e=some o/\o.cls=.type "StopIteration")->E (.ref e) { s with heap:=h' }):wpAny ↑11 A (Wj (.ref it)) Q E s:=by
 obtain⟨o,ho,hc,hd⟩:=id hit;obtain⟨ol,hol,_,nl,hdl⟩:=ht;unfold Wj;refine VQ (WQ (name:=WG "__next__") hit.typeIs F.slot_tuple_iterator_next
  (Xg F.slot_tuple_iterator_next hit.typeIs F.entry_tuple_iterator_next ?_ (F.args_tuple_iterator_next_1 _)))
 show wpAny _ _ (field (.ref it) 0 >>= _) _ _ s;refine VQ (Wz ho hd (x:=.ref t) rfl ?_);show wpAny _ _ (if (V4 t==WK)=true then _ else _) _ _ s;rw[if_neg (show ¬ ((V4 t==WK)=true) from WY)];show wpAny _ _ (field (.ref it) 1 >>= _) _ _ s;refine VQ (Wz ho hd (x:=.int i 0) rfl ?_);show wpAny _ _ (seqItems? (.ref t) >>= _) _ _ s;refine VQ (WO hol hdl ?_);simp only[Wq,hx];refine VQ (ZY (VQ (YY ho hd ↑13 ?_)));show wpAny _ _ (newExc (.type "StopIteration") [] >>= _) _ _ _;refine VQ ?_;simp only[newExc,newTuple];refine VQ (Xa ?_ (by size_fits));refine VQ (m:=firstArgMember _ _) (ab1 (a:=WK) (by first|rfl|(simp only[firstArgMember];rfl)) ?_);refine Xa ?_ (by size_fits);simp only[raiseNew];refine VQ (wpAny_handled ?_)
 first|rw[show A.in1.handled=none from hh]|rw[hh]
 refine VQ (VY (wpAny_throw ?_));exact hE _ _ (((YV ..).extBut.push _).push _) ⟨_,V2 _ rfl,rfl⟩
def c_{x:Value}(hit:eZ s.heap b it l i)(hl:gK s.heap b l items)(hx:items[i]?=some x)(hQ:∀h',eZ h' b it l (i+1)->YJ it s.heap h'->Q x { s with heap:=h' }):wpAny ↑11 A (Wj (.ref it)) Q E s:=by
 cases b with
 | true=>exact wpAny_nextOf_list_item hit hl hx hQ
 |false=>exact i6 hit hl hx hQ
def iF(hh:A.handled=none)(hit:eZ s.heap b it l i)(hl:gK s.heap b l items)(hx:items[i]?=none)(hE:∀h' e,adi it s.heap h'->(∃o,h'.get? e=some o/\o.cls=.type "StopIteration")->E (.ref e) { s with heap:=h' }):wpAny ↑11 A (Wj (.ref it)) Q E s:=by
 cases b with
 | true=>exact wpAny_nextOf_list_end hh hit hl hx hE
 |false=>exact fJ hh hit hl hx hE
def Bb{b1 b2:Bool}{z TI TO i1 i2:Addr}{xs:Array Value}{x y a b:Value}(D:ZipApart z TI TO i1 i2 l1 l2)(hz:IsZip s.heap z TI TO .none)(RU:IsPair s.heap TI (.ref i1) (.ref i2))(RX:IsPair s.heap TO a b)(h1:eZ s.heap b1 i1 l1 k1)(h2:eZ s.heap b2 i2 l2 k2)(SE:gK s.heap b1 l1 xs)(SG:gK s.heap b2 l2 ys)(hx:xs[k1]?=some x)(hy:ys[k2]?=some y)(hQ:∀h',IsZip h' z TI TO (rawInt s.heap.objs.size)->IsPair h' TO x y->eZ h' b1 i1 l1 (k1+1)->eZ h' b2 i2 l2 (k2+1)->IsPair h' s.heap.objs.size x y->h'.objs.size=s.heap.objs.size+1 ->(∀c o,c≠z->c≠TO->c≠i1->c≠i2->s.heap.get? c=some o->h'.get? c=some o)->Q (.ref s.heap.objs.size) { s with heap:=h' }):wpAny ↑11 A (Builtin.«zip.__next__» ⟨[.ref z],[]⟩) (λfin s'=>∃v,fin=.done (.ret v)/\Q v s') E s:=by
 show wpAny _ _ (field (.ref z) 2 >>= _) _ _ _;refine VQ (Wz hz rfl (x:=.bool false) rfl ?_);show wpAny _ _ (field (.ref z) 3 >>= _) _ _ _;refine VQ (Wz hz rfl (x:=.ref TI) rfl ?_);refine VQ (WO RU rfl ?_);show wpAny _ _ (WI (.ref z) >>= _) _ _ _;refine VQ ?_;unfold WI;refine VQ (Wz hz rfl (x:=.none) rfl (VY ?_));simp only[if_true];refine VQ (ZY ?_);refine VQ (Wz hz rfl (x:=.ref TO) rfl ?_);refine VQ (WZ hz ↑13 λh₁ hz1 hs1=>?_)
 replace hz1:IsZip h₁ z TI TO .ellipsis:=hz1
 refine VQ ?_;simp only[ZZ,aaf,Zz,ZP];refine VQ (VQ (Yc ?_));show wpAny _ _ (Wj (.ref i1) >>= _) _ _ _;refine VQ (c_ (h1.at λo e=>hs1.extBut _ _ D.i1z e) (SE.at λo e=>hs1.extBut _ _ D.l1z e) hx λh₂ h1₂ hs2=>VY ?_);have hTO2:IsPair h₂ TO a b:=hs2.extBut _ _ D.TOi1 (hs1.extBut _ _ D.TOz RX);refine VQ (WO hTO2 rfl ?_);refine VQ (Z_ hTO2 λh₃ hTO3 hs3=>?_)
 replace hTO3:IsPair h₃ TO x b:=hTO3
 refine VQ (X4 (VY ?_));refine VQ (VQ (Yc ?_));show wpAny _ _ (Wj (.ref i2) >>= _) _ _ _;refine VQ (c_ (h2.at λo e=>hs3.extBut _ _ D.TOi2.symm (hs2.extBut _ _ D.i12.symm (hs1.extBut _ _ D.i2z e)))
  (SG.at λo e=>hs3.extBut _ _ D.l2TO (hs2.extBut _ _ D.l2i1 (hs1.extBut _ _ D.l2z e))) hy λh₄ h2₄ hs4=>VY ?_)
 have hTO4:IsPair h₄ TO x b:=hs4.extBut _ _ D.TOi2 hTO3;refine VQ (WO hTO4 rfl ?_);refine VQ (Z_ hTO4 λh₅ hTO5 hs5=>?_)
 replace hTO5:IsPair h₅ TO x y:=hTO5
 refine VQ (X4 (VY (VY ?_)));refine VQ (WO hTO5 rfl ?_);refine VQ (wpAny_newTuple ?_);have hsz:h₅.objs.size=s.heap.objs.size:=by rw[hs5.1,hs4.1,hs3.1,hs2.1,hs1.1]
 have hz5:IsZip h₅ z TI TO .ellipsis:=hs5.extBut _ _ D.TOz.symm (hs4.extBut _ _ D.i2z.symm (hs3.extBut _ _ D.TOz.symm (hs2.extBut _ _ D.i1z.symm hz1)));have hk5:∀c o,c≠z->c≠TO->c≠i1->c≠i2->s.heap.get? c=some o->h₅.get? c=some o:=λc o c1 c2 c3 c4 e =>
  hs5.extBut _ _ c2 (hs4.extBut _ _ c4 (hs3.extBut _ _ c2 (hs2.extBut _ _ c3 (hs1.extBut _ _ c1 e))))
 have h1₅:eZ h₅ b1 i1 l1 (k1+1):=h1₂.at λo e=>hs5.extBut _ _ D.TOi1.symm (hs4.extBut _ _ D.i12 (hs3.extBut _ _ D.TOi1.symm e));have h2₅:eZ h₅ b2 i2 l2 (k2+1):=h2₄.at λo e=>hs5.extBut _ _ D.TOi2.symm e;have Uj:z<h₅.objs.size:=V3 hz5;show wpAny _ _ (XE (.ref z) (.ref h₅.objs.size) >>= _) _ _ _;refine VQ ?_;unfold XE;have hz6:IsZip (h₅.push { cls:=.type "tuple",data:=.seq #[x,y] }) z TI TO .ellipsis:=VR _ hz5;refine VQ (WZ hz6 ↑13 λh₇ hz7 hs7=>?_)
 replace hz7:IsZip h₇ z TI TO (rawInt h₅.objs.size):=hz7
 refine WZ hz7 ↑13 λh₈ hz₈ hs8=>?_
 replace hz₈:IsZip h₈ z TI TO (rawInt h₅.objs.size):=hz₈
 have up:∀c o,c≠z->h₅.get? c=some o->h₈.get? c=some o:=λc o c1 e=>hs8.extBut _ _ c1 (hs7.extBut _ _ c1 (VR _ e));have hT8:IsPair h₈ h₅.objs.size x y:=hs8.extBut _ _ (XM Uj) (hs7.extBut _ _ (XM Uj) (V2 _ rfl));have hz8:h₈.objs.size=h₅.objs.size+1:=by rw[hs8.1,hs7.1,WN]
 rw[hsz] at hz₈ hT8 hz8;refine VY ⟨_,rfl,?_⟩;show Q (.ref h₅.objs.size) _;rw[hsz];exact hQ h₈ hz₈ (up _ _ D.TOz hTO5) (h1₅.at λo e=>up _ o D.i1z e) (h2₅.at λo e=>up _ o D.i2z e) hT8 hz8 λc o c1 c2 c3 c4 e=>up c o c1 (hk5 c o c1 c2 c3 c4 e)
def FA{b1 b2:Bool}{z TI TO i1 i2:Addr}{xs:Array Value}{a b:Value}{Q:Fin->Shared->Prop}(hh:A.handled=none)(D:ZipApart z TI TO i1 i2 l1 l2)(hz:IsZip s.heap z TI TO .none)(RU:IsPair s.heap TI (.ref i1) (.ref i2))(RX:IsPair s.heap TO a b)(h1:eZ s.heap b1 i1 l1 k1)(h2:eZ s.heap b2 i2 l2 k2)(SE:gK s.heap b1 l1 xs)(SG:gK s.heap b2 l2 ys)(SU:xs[k1]?=none\/ys[k2]?=none)(hE:∀h' e,(∀c o,c≠z->c≠TO->c≠i1->c≠i2->s.heap.get? c=some o->h'.get? c=some o)->(∃o,h'.get? e=some o/\o.cls=.type "StopIteration")->E (.ref e) { s with heap:=h' }):wpAny ↑11 A (Builtin.«zip.__next__» ⟨[.ref z],[]⟩) Q E s:=by
 show wpAny _ _ (field (.ref z) 2 >>= _) _ _ _;refine VQ (Wz hz rfl (x:=.bool false) rfl ?_);show wpAny _ _ (field (.ref z) 3 >>= _) _ _ _;refine VQ (Wz hz rfl (x:=.ref TI) rfl ?_);refine VQ (WO RU rfl ?_);show wpAny _ _ (WI (.ref z) >>= _) _ _ _;refine VQ ?_;unfold WI;refine VQ (Wz hz rfl (x:=.none) rfl (VY ?_));simp only[if_true];refine VQ (ZY ?_);refine VQ (Wz hz rfl (x:=.ref TO) rfl ?_);refine VQ (WZ hz ↑13 λh₁ hz1 hs1=>?_)
 replace hz1:IsZip h₁ z TI TO .ellipsis:=hz1
 refine VQ ?_;simp only[ZZ,aaf,Zz,ZP];refine VQ (VQ (Yc ?_));show wpAny _ _ (Wj (.ref i1) >>= _) _ _ _;cases hx:xs[k1]? with
 | none =>
  refine VQ (iF hh (h1.at λo e=>hs1.extBut _ _ D.i1z e) (SE.at λo e=>hs1.extBut _ _ D.l1z e) hx λh₂ e hs2 he=>?_);obtain⟨oe,Su,TB⟩:=he;have hz2:IsZip h₂ z TI TO .ellipsis:=hs2 _ _ D.i1z.symm hz1;have UG:e≠z:=λx=>by subst x;rw[hz2] at Su;cases Su;simp at TB
  refine WZ hz2 ↑13 λh₃ _ hs3=>hE h₃ e (λc o c1 _ c3 _ x=>hs3.extBut _ _ c1 (hs2 _ _ c3 (hs1.extBut _ _ c1 x))) ⟨oe,hs3.extBut _ _ UG Su,TB⟩
 | some x =>
  have hy:ys[k2]?=none:=by rcases SU with h|h;rw[hx] at h;cases h;exact h
  refine VQ (c_ (h1.at λo e=>hs1.extBut _ _ D.i1z e) (SE.at λo e=>hs1.extBut _ _ D.l1z e) hx λh₂ h1₂ hs2=>VY ?_);have hTO2:IsPair h₂ TO a b:=hs2.extBut _ _ D.TOi1 (hs1.extBut _ _ D.TOz RX);refine VQ (WO hTO2 rfl ?_);refine VQ (Z_ hTO2 λh₃ hTO3 hs3=>?_);refine VQ (X4 (VY ?_));refine VQ (VQ (Yc ?_));show wpAny _ _ (Wj (.ref i2) >>= _) _ _ _;refine VQ (iF hh (h2.at λo e=>hs3.extBut _ _ D.TOi2.symm (hs2.extBut _ _ D.i12.symm (hs1.extBut _ _ D.i2z e)))
   (SG.at λo e=>hs3.extBut _ _ D.l2TO (hs2.extBut _ _ D.l2i1 (hs1.extBut _ _ D.l2z e))) hy λh₄ e hs4 he=>?_)
  obtain⟨oe,Su,TB⟩:=he;have hz4:IsZip h₄ z TI TO .ellipsis:=hs4 _ _ D.i2z.symm (hs3.extBut _ _ D.TOz.symm (hs2.extBut _ _ D.i1z.symm hz1));have UG:e≠z:=λx=>by subst x;rw[hz4] at Su;cases Su;simp at TB
  refine WZ hz4 ↑13 λh₅ _ hs5=>hE h₅ e (λc o c1 c2 c3 c4 x=>hs5.extBut _ _ c1 (hs4 _ _ c4 (hs3.extBut _ _ c2 (hs2.extBut _ _ c3 (hs1.extBut _ _ c1 x))))) ⟨oe,hs5.extBut _ _ UG Su,TB⟩
def xV(hl:gK s.heap b l items)(h:∀o,o=({ cls:=.type (if b then "list_iterator" else "tuple_iterator"),data:=.fields #[.ref l,.int 0 0] }:Obj)->Q (.ref s.heap.objs.size) { s with heap:=s.heap.push o }):wpAny ↑11 A (pyIter (.ref l)) Q E s:=by
 cases b with
 | true=>exact Y_ hl (h _ rfl)
 |false=>exact YB hl (h _ rfl)
def oB{b1 b2:Bool}{z TI TO i1 i2:Addr}{xs:Array Value}{x y a b:Value}{Q:Option Value->Shared->Prop}(D:ZipApart z TI TO i1 i2 l1 l2)(hz:IsZip s.heap z TI TO .none)(RU:IsPair s.heap TI (.ref i1) (.ref i2))(RX:IsPair s.heap TO a b)(h1:eZ s.heap b1 i1 l1 k1)(h2:eZ s.heap b2 i2 l2 k2)(SE:gK s.heap b1 l1 xs)(SG:gK s.heap b2 l2 ys)(hx:xs[k1]?=some x)(hy:ys[k2]?=some y)(hQ:∀h',IsZip h' z TI TO (rawInt s.heap.objs.size)->IsPair h' TO x y->eZ h' b1 i1 l1 (k1+1)->eZ h' b2 i2 l2 (k2+1)->IsPair h' s.heap.objs.size x y->h'.objs.size=s.heap.objs.size+1 ->(∀c o,c≠z->c≠TO->c≠i1->c≠i2->s.heap.get? c=some o->h'.get? c=some o)->Q (some (.ref s.heap.objs.size)) { s with heap:=h' }):wpAny ↑11 A (pyNext (.ref z)) Q E s:=by
 have hT:s.TypeIs (.ref z) "zip" := ⟨_,hz,rfl⟩
 unfold pyNext;exact VQ (Yw (WQ (name:=WG "__next__") hT F.slot_zip_next
  (Xg F.slot_zip_next hT F.entry_zip_next
   (Bb D hz RU RX h1 h2 SE SG hx hy λh' a1 a2 a3 a4 a5 a6 a7=>VY (hQ h' a1 a2 a3 a4 a5 a6 a7)) (F.args_zip_next_1 _))))
def pK{b1 b2:Bool}{z TI TO i1 i2:Addr}{xs:Array Value}{a b:Value}{Q:Option Value->Shared->Prop}(hh:A.handled=none)(D:ZipApart z TI TO i1 i2 l1 l2)(hz:IsZip s.heap z TI TO .none)(RU:IsPair s.heap TI (.ref i1) (.ref i2))(RX:IsPair s.heap TO a b)(h1:eZ s.heap b1 i1 l1 k1)(h2:eZ s.heap b2 i2 l2 k2)(SE:gK s.heap b1 l1 xs)(SG:gK s.heap b2 l2 ys)(SU:xs[k1]?=none\/ys[k2]?=none)(hQ:∀h',(∀c o,c≠z->c≠TO->c≠i1->c≠i2->s.heap.get? c=some o->h'.get? c=some o)->Q none { s with heap:=h' }):wpAny ↑11 A (pyNext (.ref z)) Q E s:=by
 have hT:s.TypeIs (.ref z) "zip" := ⟨_,hz,rfl⟩
 unfold pyNext;refine VQ (Yw (WQ (name:=WG "__next__") hT F.slot_zip_next
  (Xg F.slot_zip_next hT F.entry_zip_next (FA hh D hz RU RX h1 h2 SE SG SU λh' e hk he=>?_) (F.args_zip_next_1 _))))
 obtain⟨o,ho,hc⟩:=he;refine VQ (Zj (T := "StopIteration") (b:=true) ⟨o,ho,hc⟩ aaM ?_);exact VY (hQ _ hk)
abbrev IE(b:Bool)(l:Addr):Obj:={ cls:=.type (if b then "list_iterator" else "tuple_iterator"),data:=.fields #[.ref l,.int 0 0] }
abbrev LO(h:Heap)(b1:Bool)(l1:Addr):Heap:=h.push (IE b1 l1)
abbrev Jb(h:Heap)(b1 b2:Bool)(l1 l2:Addr):Heap:=(LO h b1 l1).push (IE b2 l2)
abbrev Ow(h:Heap)(b1 b2:Bool)(l1 l2:Addr):Heap:=(Jb h b1 b2 l1 l2).push { cls:=.type "tuple",data:=.seq #[.ref h.objs.size,.ref (LO h b1 l1).objs.size] }
abbrev Ox(h:Heap)(b1 b2:Bool)(l1 l2:Addr):Heap:=(Ow h b1 b2 l1 l2).push { cls:=.type "tuple",data:=.seq #[.none,.none] }
abbrev MD(h:Heap)(b1 b2:Bool)(l1 l2:Addr):Heap:=(Ox h b1 b2 l1 l2).push { cls:=.type "zip",data:=.fields #[.none,.bool false,.bool false,.ref (Jb h b1 b2 l1 l2).objs.size,.ref (Ow h b1 b2 l1 l2).objs.size] }
end
def gI{E:Value->Shared->Prop}(hl:gK s.heap b l items)(h:Q (.ref s.heap.objs.size) { s with heap:=s.heap.push (IE b l) }):wpAny ↑11 A (pyIter (.ref l)) Q E s:=xV hl λo e=>by subst e;exact h
theorem gK.push{h:Heap}{b:Bool}{l:Addr}{xs:Array Value}(x:gK h b l xs)(o:Obj):gK (h.push o) b l xs:=x.at λ_ e=>VR _ e
def qL(b1 b2:Bool)(l1 l2:Addr)(xs ys:Array Value):Meets (Builtin.«zip.__new__» ⟨[.type "zip",.ref l1,.ref l2],[]⟩) (λ_ R s=>gK s.heap b1 l1 xs/\gK s.heap b2 l2 ys ∧R (.ok (.ret (.ref (Ox s.heap b1 b2 l1 l2).objs.size))) { s with heap:=MD s.heap b1 b2 l1 l2 }) :=
 .of_wp λprog w A R s h=>by
  obtain⟨hp,g,d,tk,os⟩:=s;obtain⟨SE,SG,h⟩:=h;have VC:=sub_zip;have hL1:gK (aaa ⟨hp,g,d,tk,os⟩) b1 l1 xs:=SE;have hL2:gK (aaa ⟨hp.push (IE b1 l1),g,d,tk,os⟩) b2 l2 ys:=gK.push SG _
  wp_walk using gI hL1,gI hL2
  exact⟨_,rfl,h⟩
section
variable{E:Value->Shared->Prop}
def eZ.new(h:Heap)(b:Bool)(it l:Addr)(e:h.get? it=some (IE b l)):eZ h b it l 0:=by
 cases b with
 | true=>exact⟨_,e,rfl,rfl⟩
 |false=>exact⟨_,e,rfl,rfl⟩
def Cw{b1 b2:Bool}{xs:Array Value}(SE:gK s.heap b1 l1 xs)(SG:gK s.heap b2 l2 ys)(h:∀h',IsZip h' (s.heap.objs.size+4) (s.heap.objs.size+2) (s.heap.objs.size+3) .none->IsPair h' (s.heap.objs.size+2) (.ref s.heap.objs.size) (.ref (s.heap.objs.size+1)) ->IsPair h' (s.heap.objs.size+3) .none .none->eZ h' b1 s.heap.objs.size l1 0->eZ h' b2 (s.heap.objs.size+1) l2 0->h'.objs.size=s.heap.objs.size+5 ->(∀c o,s.heap.get? c=some o->h'.get? c=some o)->Q (.ref (s.heap.objs.size+4)) { s with heap:=h' }):wpAny ↑11 A (call (.type "zip") [.ref l1,.ref l2]) Q E s:=by
 refine acQ F.called_zip ↑12 (F.typeCall_zip_2 _ _) (F.newCall_zip_2 _ _) (λobj=>F.args_object_init_3 obj _ _) F.entry_zip_new
  (qL b1 b2 l1 l2 xs ys) ⟨SE,SG,?_⟩
 have z1:(LO s.heap b1 l1).objs.size=s.heap.objs.size+1:=WN ..;have z2:(Jb s.heap b1 b2 l1 l2).objs.size=s.heap.objs.size+2:=by rw[WN,z1]
 have z3:(Ow s.heap b1 b2 l1 l2).objs.size=s.heap.objs.size+3:=by rw[WN,z2]
 have z4:(Ox s.heap b1 b2 l1 l2).objs.size=s.heap.objs.size+4:=by rw[WN,z3]
 have z5:(MD s.heap b1 b2 l1 l2).objs.size=s.heap.objs.size+5:=by rw[WN,z4]
 have g5:(MD s.heap b1 b2 l1 l2).get? (Ox s.heap b1 b2 l1 l2).objs.size=some _:=V2 _ rfl;have g4:(MD s.heap b1 b2 l1 l2).get? (Ow s.heap b1 b2 l1 l2).objs.size=some _:=VR _ (V2 _ rfl);have g3:(MD s.heap b1 b2 l1 l2).get? (Jb s.heap b1 b2 l1 l2).objs.size=some _:=VR _ (VR _ (V2 _ rfl));have g2:(MD s.heap b1 b2 l1 l2).get? (LO s.heap b1 l1).objs.size=some _:=VR _ (VR _ (VR _ (V2 _ rfl)));have g1:(MD s.heap b1 b2 l1 l2).get? s.heap.objs.size=some _:=VR _ (VR _ (VR _ (VR _ (V2 _ rfl))));show _/\_;rw[z2,z3,z4] at g5;rw[z1,z2] at g3;rw[z3] at g4;rw[z1] at g2;rw[z4];exact⟨⟨_,g5,rfl⟩,h _ g5 g3 g4 (eZ.new _ b1 _ _ g1) (eZ.new _ b2 _ _ g2) z5 λc o x =>
  VR _ (VR _ (VR _ (VR _ (VR _ x))))⟩
end
def lE(K:VU)(H:Hp)(b:Bool)(a:Addr)(xs:List V):Prop:=match b with
 | true=>gQ K H a xs
 |false=>g9 K H a xs
variable{tl:TA}
def Inv.row{xs:List V}(I:Inv X Q6 σ H s)(h:lE X.K H b a xs):∃Rb:List Value,Vals xs Rb/\gK s.heap b a Rb.toArray/\xs.length<=sizeLine:=by
 cases b with
 | true =>
  obtain⟨Rb,r,p,z⟩:=I.list h;exact⟨Rb,r,p.isList,z⟩
 | false =>
  obtain⟨Rb,r,p,z⟩:=I.tuple h;exact⟨Rb,r,p,z⟩
def Inv.mU{xs ys:List V}(I:Inv X Q6 σ H s)(h:lE X.K H b a xs)(h':lE X.K H b a ys):xs=ys:=by
 cases b with
 | true=>exact I.sU h h'
 |false=>exact I.oP h h'
def Inv.Ap(I:Inv X Q6 σ H s)(k:∀b u,b ∉ ch->s.heap.get? b=some u->h'.get? b=some u)(Tf:∀b∈ch,lQ X Q6 H b):Inv X Q6 σ H { s with heap:=h',toks:=t' }:=by
 have Up:∀b u,H b=some u->b ∉ ch:=λb u e z=>by rw[(Tf b z).1] at e;cases e
 refine I.step (g':=s.gens) (d':=s.drawn) (ch:=ch) (λb hb=>?_) (λb u _ _ hc e _=>k b u hc e) (λb u _ _ hc e _=>⟨u.slots,k b u hc e⟩)
  (λb u _ e n=>n) (λb u hc e=>⟨u,k b u hc e⟩) (λb xs e=>e) (λb ob u e=>e) (λb ps e=>⟨#[],by rw[e];simp⟩) (λm hm=>?_) (λb u e=>?_) I.bare
 .obtain⟨_,f1,_,f3,f4,f5⟩:=Tf b hb;exact⟨f3,f1,f4,f5⟩
 .obtain⟨ob,es,ep,ho,r⟩:=hm;exact⟨ob,es,ep,k _ ob (λz=>(Tf _ z).2.1 rfl) ho,r⟩
 .refine(I.bA b u e).n5 (λc v hc q=>k c v ?_ q) (λc q=>q) λc ys q=>q;rcases hc with z'|z'
  .rw[z'];exact Up b u e
  .exact Up c _ z'
def cM{c:Addr}{xs:List V}(I:Inv X Q6 σ H s)(h:lE X.K H b a xs)(f:lQ X Q6 H c):a≠c:=by
 have rd:∀{u:HO},Rd H a u->a≠c:=λ{u} r=>by
  rcases r with r|⟨o,r⟩
  .exact bW r f.1
  .exact bW r f.1
 have mk:∀{o:Obj},X.K.lookup a=some o->a≠c:=λ{o} e z=>by
  subst z;have e':=I.ok.mod.GJ _ _ e;rcases f.2.2.2.1 with q|q
  .exact I.ok.vO _ _ e' q
  .exact absurd (V8 (V3 (I.ok.bs _ _ e').1) q) (Yt _)
 cases b with
 | true =>
  rcases(show gQ X.K H a xs from h) with r|⟨o,Rb,n,e,_⟩
  .exact rd r
  .exact mk e
 | false =>
  rcases(show g9 X.K H a xs from h) with r|⟨o,Rb,n,e,_⟩
  .exact rd r
  .exact mk e
def Pc (K : VU)(b1 b2 : Bool)(a1 a2 : Addr) : It :=
  ⟨λi H => ∃xs ys x y,lE K H b1 a1 xs /\ lE K H b2 a2 ys /\ xs[i]? = some x /\ ys[i]? = some y,
   λi H v H' => ∃p x y,H p=none /\ v=.ref p /\ H'=upd H p (.tup [x,y]) /\ (∀xs,lE K H b1 a1 xs -> xs[i]? = some x) /\ (∀ys,lE K H b2 a2 ys -> ys[i]? = some y),
   λi H => ∃xs ys,lE K H b1 a1 xs /\ lE K H b2 a2 ys /\ (xs.length <= i \/ ys.length <= i)⟩
theorem DG{K:VU}{tp:Pos}(b1 b2:Bool)(a1 a2 z TI TO i1 i2:Addr)(D:TI≠z/\TO≠z/\i1≠z/\i2≠z/\TI≠TO/\TI≠i1/\TI≠i2/\TO≠i1/\TO≠i2/\i1≠i2):Turn P w K (.Tuple elts x1 tp) (Pc K b1 b2 a1 a2) [z,TO,i1,i2,TI] z (λi h=>IsZip h z TI TO .none/\IsPair h TI (.ref i1) (.ref i2)/\(∃a b,IsPair h TO a b)/\eZ h b1 i1 a1 i/\eZ h b2 i2 a2 i) where
 mem:=by simp
 obj:=λi h st b hb=>by
  obtain⟨hz,RU,⟨a,c,RX⟩,h1,h2⟩:=st;simp only[Wd,Xh,or_false] at hb;rcases hb with q|q|q|q|q<;>subst q
  .exact⟨_,hz,λv z=>by cases z⟩
  .exact⟨_,RX,λv z=>by cases z⟩
  .obtain⟨o,vs,e,d⟩:=h1.obj;exact⟨o,e,λv z=>by rw[d] at z;cases z⟩
  .obtain⟨o,vs,e,d⟩:=h2.obj;exact⟨o,e,λv z=>by rw[d] at z;cases z⟩
  .exact⟨_,RU,λv z=>by cases z⟩
 keep:=λi h h' st k=>by
  obtain⟨hz,RU,⟨a,c,RX⟩,h1,h2⟩:=st;exact⟨k z ↑13 _ hz,k TI ↑13 _ RU,⟨a,c,k TO ↑13 _ RX⟩,h1.at λo e=>k i1 ↑13 o e,h2.at λo e=>k i2 ↑13 o e⟩
 item:=by
  intro X hP hw hK hc i Q6 s σ H E I hf st hg;subst hP hw hK;obtain⟨xs,ys,x,y,RV,RO,hx,hy⟩:=hg;obtain⟨Uk,UM,p1,Vd⟩:=I.row RV;obtain⟨SI,UN,p2,VD⟩:=I.row RO;obtain⟨u1,hu1,ru1⟩:=UM.get hx;obtain⟨u2,hu2,ru2⟩:=UN.get hy;obtain⟨hz,RU,⟨a,c,RX⟩,h1,h2⟩:=st;obtain⟨d1,d2,d3,d4,d5,d6,d7,d8,d9,d10⟩:=D;obtain⟨o1,n1,e1,dd1⟩:=p1.obj;obtain⟨o2,n2,e2,Uz⟩:=p2.obj;obtain⟨oi1,vs1,Vk,di1⟩:=h1.obj;obtain⟨oi2,vs2,Vl,di2⟩:=h2.obj;have D:ZipApart z TI TO i1 i2 a1 a2:=⟨d1,d2,d3,d4,d5,d6,d7,d8,d9,d10,cM I RV (hf z ↑13),cM I RV (hf TO ↑13),cM I RV (hf i1 ↑13),cM I RV (hf i2 ↑13),
   cM I RO (hf z ↑13),cM I RO (hf TO ↑13),cM I RO (hf i1 ↑13),cM I RO (hf i2 ↑13)⟩
  refine oB D hz RU RX h1 h2 p1 p2 (x:=u1) (y:=u2) (by simpa using hu1) (by simpa using hu2) λh' g1 g2 g3 g4 g5 g6 g7=>⟨_,rfl,?_⟩
  refine aaW (s:={ s with heap:=h' }) g1 λh3 hz3 TK=>?_;have SH:H s.heap.objs.size=none:=I.bA.fresh (VX _);have lt:∀{c:Addr}{o:Obj},s.heap.get? c=some o->c≠s.heap.objs.size:=λe=>V_ (V3 e);have Um:∀b o,b ∉ [z,TO,i1,i2,TI]->s.heap.get? b=some o->h3.get? b=some o:=λb o hb q=>by
   simp only[Wd,Xh,or_false,not_or] at hb;exact(TK.2 b hb.1).trans (g7 b o hb.1 hb.2.1 hb.2.2.1 hb.2.2.2.1 q)
  have hT3:h3.get? s.heap.objs.size=some { cls:=.type "tuple",data:=.seq #[u1,u2] }:=(TK.2 _ (lt hz).symm).trans g5;have I3:Inv X Q6 σ (upd H s.heap.objs.size (.tup [x,y])) { s with heap:=h3,toks:=s.toks } :=
   I.lG (ch:=[z,TO,i1,i2,TI]) Um hf (VX _) (λb hb=>by
    simp only[Wd,Xh,or_false] at hb;rcases hb with q|q|q|q|q<;>subst q
    .exact⟨_,hz⟩
    .exact⟨_,RX⟩
    .exact⟨_,Vk⟩
    .exact⟨_,Vl⟩
    .exact⟨_,RU⟩)
    ⟨by show 2<=sizeLine;decide,[u1,u2],.cons ru1 (.cons ru2 .nil),⟨_,hT3,rfl,_,rfl⟩⟩
  refine⟨.ref s.heap.objs.size,_,I3,rfl,⟨_,x,y,SH,rfl,rfl,λzs UK=>by rwa[I.mU UK RV],λzs UK=>by rwa[I.mU UK RO]⟩,
   ⟨hz3,(TK.2 TI d1).trans (g7 TI _ d1 d5 d6 d7 RU),⟨_,_,(TK.2 TO d2).trans g2⟩,g3.at λo e=>(TK.2 i1 d3).trans e,g4.at λo e=>(TK.2 i2 d4).trans e⟩,λb hb=>?_⟩
  have nb:b≠s.heap.objs.size:=by
   simp only[Wd,Xh,or_false] at hb;rcases hb with q|q|q|q|q<;>subst q
   .exact lt hz
   .exact lt RX
   .exact lt Vk
   .exact lt Vl
   .exact lt RU
  rw[au nb];exact(hf b hb).1
 done:=by
  intro X hP hw hK hc i Q6 s σ H E I hf st hg;subst hP hw hK;obtain⟨xs,ys,RV,RO,SU⟩:=hg;obtain⟨Uk,UM,p1,Vd⟩:=I.row RV;obtain⟨SI,UN,p2,VD⟩:=I.row RO;obtain⟨hz,RU,⟨a,c,RX⟩,h1,h2⟩:=st;obtain⟨d1,d2,d3,d4,d5,d6,d7,d8,d9,d10⟩:=D;have D:ZipApart z TI TO i1 i2 a1 a2:=⟨d1,d2,d3,d4,d5,d6,d7,d8,d9,d10,cM I RV (hf z ↑13),cM I RV (hf TO ↑13),cM I RV (hf i1 ↑13),cM I RV (hf i2 ↑13),
   cM I RO (hf z ↑13),cM I RO (hf TO ↑13),cM I RO (hf i1 ↑13),cM I RO (hf i2 ↑13)⟩
  have l1:=UM.length;have l2:=UN.length;refine pK (I.ok.hd hc) D hz RU RX h1 h2 p1 p2 ?_ λh' k=>⟨rfl,?_⟩
  .rcases SU with q|q
   .exact .inl (by simp;lia)
   .exact .inr (by simp;lia)
  .exact I.Ap (t':=s.toks) (ch:=[z,TO,i1,i2,TI]) (λb u hb e=>by
    simp only[Wd,Xh,or_false,not_or] at hb;exact k b u hb.1 hb.2.1 hb.2.2.1 hb.2.2.2.1 e) hf
 self:=λ_ _ _ _ _ st h=>by
  obtain⟨hz,_⟩:=st;exact Z0 hz h
theorem JN(n:Nat):n+2≠n+4/\n+3≠n+4/\n≠n+4/\n+1≠n+4/\n+2≠n+3/\n+2≠n/\n+2≠n+1/\n+3≠n/\n+3≠n+1/\n≠n+1:=by
 refine⟨?_,?_,?_,?_,?_,?_,?_,?_,?_,?_⟩<;>lia
def Od(K:VU)(tl:TA):TI:=fun σ H R=>tl σ H λvs H1=>∃b1 b2 a1 a2,vs=[.ref a1,.ref a2]/\(∃xs,lE K H1 b1 a1 xs)/\(∃ys,lE K H1 b2 a2 ys)/\R (Pc K b1 b2 a1 a2) H1
def kW{tp:Pos}{l1 l2:Expr}{p pos:Pos}(hg:Gl X "zip")(hm:X.mg "zip"=none)(hl:PA X [l1,l2] tl)(hs:autoParam (starEach [l1,l2] X.env=[(false,eval l1 X.env),(false,eval l2 X.env)]) aR._auto_1)(Sw:autoParam (starEach [l2] X.env=[(false,eval l2 X.env)]) aR._auto_1):PI X (.Tuple elts x1 tp) (.Call (.Name "zip" p) [l1,l2] [] pos) (Od X.K tl):=by
 intro Q6 s σ H R I h;refine Call_ (jK I hg hm abN (Xb (cv (hl pos Q6 s σ H _ I h) λus s1 ⟨vs,H1,I1,r1,q1⟩=>?_) (by rw[hs,Sw]) (by rw[Sw];rfl)));obtain⟨b1,b2,a1,a2,e,⟨xs,RV⟩,⟨ys,RO⟩,q⟩:=q1;subst e;cases r1 with
 | cons r rr =>
  cases rr with
  | cons r' rr =>
   cases rr;cases (show _=V4 a1 from r);cases (show _=V4 a2 from r');obtain⟨Uk,UM,p1,Vd⟩:=I1.row RV;obtain⟨SI,UN,p2,VD⟩:=I1.row RO;refine Cw p1 p2 λh' g1 g2 g3 g4 g5 g6 g7=>?_;have I2:Inv X Q6 σ H1 { s1 with heap:=h' }:=I1.kept (t':=s1.toks) g7;refine Z0 (s:={ s1 with heap:=h' }) g1 ?_;refine⟨s1.heap.objs.size+4,[s1.heap.objs.size+4,s1.heap.objs.size+3,s1.heap.objs.size,s1.heap.objs.size+1,s1.heap.objs.size+2],_,_,H1,rfl,I2,
    DG b1 b2 a1 a2 _ _ _ _ _ (JN s1.heap.objs.size),⟨g1,g2,⟨_,_,g3⟩,g4,g5⟩,λb hb=>?_,q⟩
   have hle:s1.heap.objs.size<=b:=by
    simp only[Wd,Xh,or_false] at hb;rcases hb with q|q|q|q|q
    .rw[q];exact XT _ 4
    .rw[q];exact XT _ 3
    .rw[q];exact VX _
    .rw[q];exact XT _ 1
    .rw[q];exact XT _ 2
   exact I1.rD hle (I1.bA.fresh hle)
def NH(K:VU)(b:Bool)(a:Addr):It:=match b with
 | true=>Qm K a
 |false=>Qp K a
def NN(K:VU)(tl:TE):TI:=fun σ H R=>tl σ H λx H1=>∃b a,x=.ref a/\(∃xs,lE K H1 b a xs)/\R (NH K b a) H1
def eJ{l:Expr}{tl:TE}(hl:PE X l tl):PI X tg l (NN X.K tl):=by
 intro Q6 s σ H R I h;refine cv (hl Q6 s σ H _ I h) λv s1 ⟨x,H1,I1,r1,q1⟩=>?_;obtain⟨b,a,e,⟨xs,hq⟩,q⟩:=q1;subst e;cases r1;cases b with
 | true =>
  obtain⟨Rb,rv,p,hz⟩:=I1.list hq;refine Y_ p.isList ?_;refine⟨s1.heap.objs.size,[s1.heap.objs.size],_,_,H1,rfl,I1.kept (t':=s1.toks) λb o e=>VR _ e,uY a _,⟨_,V2 _ rfl,rfl,rfl⟩,λb hb=>?_,q⟩;have e:b=s1.heap.objs.size:=by simpa using hb
  subst e;exact I1.rD (VX _) (I1.bA.fresh (VX _))
 | false =>
  obtain⟨Rb,rv,p,hz⟩:=I1.tuple hq;refine YB (show s1.heap.IsTuple a Rb.toArray from p) ?_;refine⟨s1.heap.objs.size,[s1.heap.objs.size],_,_,H1,rfl,I1.kept (t':=s1.toks) λb o e=>VR _ e,rn a _,⟨_,V2 _ rfl,rfl,rfl⟩,λb hb=>?_,q⟩;have e:b=s1.heap.objs.size:=by simpa using hb
  subst e;exact I1.rD (VX _) (I1.bA.fresh (VX _))
def BK(hc:X.calm=true):c8 X (.builtin "sum") (λxs H Q=>∃(a:Addr)(ns:List Int),xs=[.ref a]/\gQ X.K H a (ns.map V.int)/\Q (.int ns.sum) H):=by
 intro Q6 s σ H xs us Q I r h;obtain⟨a,ns,rfl,hq,q⟩:=h;cases r with
 | cons r1 r2 =>
  cases r2;cases (show _=V4 a from r1);obtain⟨Rb,rv,p,hz⟩:=I.list hq;have hi:=intsAre_of rv;obtain⟨xs',e⟩:=hi.allInts.items;have e3:numsOf (intItems xs').toList=ns:=by rw[<- e];exact hi.numsOf
  rw[nums_intItems] at e3;refine sum_intListG (I.ok.hd hc) (by rw[<- e];exact p.isList) λh' tk t' hk=>⟨.int ns.sum,H,I.kept (t':=tk) hk,⟨t',?_⟩,q⟩
  rw[preSum_eq,Xy ↑13,e3]
structure gG (K:VU) (C:Addr):Prop where
 ga:W6 K (.ref C) "__getattribute__"=some (some (.builtin "BaseException.__getattribute__"))
 gn:W6 K (.ref C) "__getattr__"=some none
 hd:ZI K C=true
 sa:W6 K (.ref C) "__setattr__"=some (some (.builtin "object.__setattr__"))
 mb:aa8 K C (.type "BaseException")=some true
 mo:aa8 K C (.type "object")=some true
 ca:W6 K (.ref C) "__class__"=some (some (.builtin "object.__class__"))
 cg:ZK K (.builtin "object.__class__") "__get__"=some (some (.builtin "getset_descriptor.__get__"))
 ct:aad K (.builtin "object.__class__")=some true
variable{name:Str}{ox:Obj}
section
variable{E:Value->Shared->Prop}{K:VU}{x:Addr}{od:Option Obj}
def C9:builtinKind "BaseException.__getattribute__"=some .slot:=by decide +kernel
def BU:splitId "BaseException.__getattribute__"=some ("BaseException","__getattribute__"):=by decide +kernel
def K5{tk:Tok}{fill expr:Bool}(c:gG K C)(X:K.In s.heap)(I:YW s.heap x ox C od)(h:wpAny ↑11 A.in1 (Builtin.«object.__getattribute__» ⟨[.ref x,.str name tk],[]⟩) (λfin s'=>match fin with|.done (.ret v)=>wpAny ↑11 A (handedOut v) Q E s'|_=>False) (λ_ _=>False) s):wpAny ↑11 A (getAttrBy (.ref x) (.str name tk) fill expr) Q E s:=by
 have SW:(Z5 "BaseException.__getattribute__" == Z5 "object.__getattribute__")=false:=by decide +kernel
 have Vc:(onTheHeap (V4 C)&&Z5 "BaseException.__getattribute__" == Z5 "object.__getattribute__")=false:=by rw[SW];rfl
 have hx0:(expr&&onTheHeap (Z5 "BaseException.__getattribute__"))=false:=by cases expr<;>rfl
 have sub:Zu ↑11 s.heap (isInstance (.ref x) (.type "BaseException")) true:=I.type.andThen (aap X c.mb);unfold getAttrBy;refine Xm (VQ (I.type.here (VQ ((Zc X c.ga).here ?_))));dsimp only;rw[Vc,if_neg WY];unfold getAttrByItsOwn hookBefore;refine VQ ?_;show wpAny _ _ (typeLookup (.ref C) "__getattr__") _ _ _;refine(Zc X c.gn).here ?_;refine VQ (Yw (Xm ?_));unfold callGetattribute;rw[hx0,if_neg WY];unfold boundAndCalled;refine VQ (ab1 (abf.ga.bind _) ?_);refine aaN (ab2 abf.ga.plain PySem.F.entry_bexc_ga (@acq ↑11 _ _ s "BaseException.__getattribute__" "BaseException" "__getattribute__" (.ref x) [.str name tk] [] _ C9 BU sub (PySem.F.args_bexc_ga _ _) ?_));refine XO h (λfin s' z=>?_) (λ_ _ z=>z.elim);rcases fin with (v|_|_|_)|_<;>first|exact z|exact z.elim
end
variable{newId:String}{dd:Option Addr}
variable{f:Addr}
section
open PySem.Builtin.ObjectAttr (storeInOwnDict storeTaker? setByDescriptor)
abbrev fW:List Value:=[.type "ValueError",.type "Exception",.type "BaseException",.type "object"]
def g8:List Value->Bool
 | .ref _::r=>g8 r
 |l=>l==fW
def qr(self:Value):refuseLoop self "__setattr__" fW=pure ():=by kernel_rfl
theorem pC(self:Value):∀{l:List Value},g8 l=true->refuseLoop self "__setattr__" l=pure ()
 | .ref c::r,e=>by rw[PySem.refuseLoop_ref];exact pC self e
 | [],e=>by cases (show false=true from e)
 | .type n::r,e=>by rw[show Xp n::r=fW from beq_iff_eq.mp e];exact qr self
 |.none::r,e=>by rw[show WK::r=fW from beq_iff_eq.mp e];exact qr self
section
variable{E:Value->Shared->Prop}{K:VU}{x:Addr}{od:Option Obj}
def ua{a g:Value}(hc:(YR K C).isSome=true)(ha:W6 K (.ref C) name=some (some a))(hg:ZK K a "__get__"=some (some g))(ht:aad K a=some true):abJ K C od name=some (.bind g a):=by
 obtain⟨cd,hc⟩:=YN.mp hc;unfold abJ;rw[hc,ada,ha,ada];simp[hg,ht]
def Cr{Q:Option Value->Shared->Prop}(c:gG K C)(X:K.In s.heap)(I:YW s.heap x ox C od)(h:Q (some (.ref C)) { s with toks:=s.toks+1 }):wpAny ↑11 A (getAttr? (.ref x) "__class__") Q E s:=by
 have hc:(YR K C).isSome=true:=by obtain⟨cd,hc,_⟩:=YX c.hd;rw[hc];rfl
 have hf:abJ K C od "__class__"=some (.bind (.builtin "getset_descriptor.__get__") (.builtin "object.__class__")):=ua hc c.ca c.cg c.ct;unfold getAttr? getAttrBy?;refine VQ (wpAny_mkText (VQ (Yw ?_)));refine K5 (s:={ s with toks:=s.toks+1 }) c X I ?_;unfold Builtin.«object.__getattribute__»;refine VQ (VY ?_);dsimp only;refine VQ (VY ?_);refine VQ (I.type.here (s:={ s with toks:=s.toks+1 }) (VQ ((PySem.W.looks_find X I hf).here (s:={ s with toks:=s.toks+1 }) ?_)));show wpAny _ _ (holding [.builtin "object.__class__"] (call (.builtin "getset_descriptor.__get__") [.builtin "object.__class__",.ref x,.ref C]) >>= ret) _ _ _;refine VQ (Xm (aaN (PySem.W.class_get (s:={ s with toks:=s.toks+1 }) (ox:=ox) (od:=od) X I c.mo ?_)));refine VY ?_;exact PySem.W.handed_on rfl (VY h)
def xc(c:gG K C):adz K (.ref x) (.ref C) (λh=>YW h x ox C od) where
 ty:=λ_ _ _ I=>I.type
 it:=λ_ _ X _=>by
  obtain⟨cdD,T_,_⟩:=YX c.hd;unfold YR at T_
  split at T_
  .rename_i c' d' cd' sl' ho;intro A' Q' E' s' k q;unfold isType loadHead;exact VQ (ZJ (k _ _ (X _ _ ho)) (VY q))
  .cases T_
 ne:=λh tp dd Rb n sl X htp=>by
  obtain⟨cdD,T_,_⟩:=YX c.hd;refine Bool.eq_false_iff.mpr λq=>?_;have e:C=tp:=Value.ref.inj (beq_iff_eq.mp q);subst e;unfold YR at T_
  split at T_
  .rename_i c' d' cd' sl' ho;have z:=(X _ _ ho).symm.trans htp;cases z
  .cases T_
 ca:=λX I k=>Cr c X I k
def G4{tk:Tok}{v:Value}{R:Result->Shared->Prop}(po:((YR K C).any λcd=>g8 cd.mro)=true)(c:gG K C)(X:K.In s.heap)(I:YW s.heap x ox C od)(ht:Zw K C name=some none)(h:∀b,wpAny ↑11 A.in1 (storeInOwnDict (.ref x) (.ref C) (.str name tk) name v b) (λfin s'=>match fin with|.done f=>R (.ok f) s'|.again c'=>c'.quiet=true/\codeAny ↑11 A c' R s') (λe s'=>R (.error e) s') s):codeAny ↑11 A (.call (.builtin "object.__setattr__") ⟨[.ref x,.str name tk,v],[]⟩) R s:=by
 have SF:=PySem.F.store_object;obtain⟨cd,hc,ho⟩:=YX po;have sub:Zu ↑11 s.heap (isInstance (.ref x) (.type "object")) true:=I.type.andThen (aap X c.mo);refine ab2 SF.slot.plain SF.entry (@acq ↑11 _ _ s "object.__setattr__" "object" "__setattr__" (.ref x) [.str name tk,v] [] _ SF.kind SF.split sub (SF.args (.ref x) (.str name tk) v) ?_);obtain⟨attr,ha,hr⟩:=ZF.mp ht;have hm:Zu ↑11 s.heap (mroOf (.ref C)) cd.mro:=(aao X hc).andThen .now;have L3:Zu ↑11 s.heap (storeTaker? attr) none:=by
  cases attr with
  | none=>cases hr;exact .now
  | some a =>
   obtain⟨b,hb,e⟩:=Wo.mp hr;refine(PySem.W.looks_takesIn X hb).andThen ?_;cases b with
   | true=>cases e
   | false=>exact .now
 rw[PySem.W.osa_eq,PySem.refuse_eq];refine VQ (VQ (I.type.here (VQ (hm.here ?_))));rw[pC _ ho];refine VY (VQ (I.type.here (VQ ((Zc X ha).here (VQ (L3.here ?_))))));exact h _
def Ed{vs:Array Value}{v:Value}{Q:Unit->Shared->Prop}(po:((YR K C).any λcd=>g8 cd.mro)=true)(c:gG K C)(X:K.In s.heap)(hx:s.heap.get? x=some ⟨.ref C,none,.fields vs,#[]⟩)(ht:Zw K C name=some none)(h:∀h' tk d,h'.get? x=some ⟨.ref C,some d,.fields vs,#[]⟩->s.heap.get? d=none->h'.Ns1 d (λy=>if y=name then some v else none)->(∀b o,b≠x->s.heap.get? b=some o->h'.get? b=some o)->Q () { s with heap:=h',toks:=tk }):wpAny ↑11 A (setAttr (.ref x) name v) Q E s:=by
 have I:YW s.heap x ⟨.ref C,none,.fields vs,#[]⟩ C none:=⟨hx,rfl,rfl,trivial⟩
 refine acC X I c.sa (G4 (s:={ s with toks:=s.toks+1 }) po c X I ht λb=>?_);obtain⟨cd,hc,UE⟩:=YX c.hd;have RW:=V3 hx;refine VQ (VY (VQ (VQ (ZJ hx (VQ (acn (s:={ s with toks:=s.toks+1 }) (aao X hc) ?_))))));rw[UE];refine VQ (wpAny_alloc ?_);have Vc:(s.heap.push { cls:=.type "dict",data:=.dict #[] }).get? x=some ⟨.ref C,none,.fields vs,#[]⟩:=VR _ hx;refine VQ (wpAny_update Vc ?_);refine VY (a:=some s.heap.objs.size) (VQ (VY (VQ ?_)));have SW:((s.heap.push { cls:=.type "dict",data:=.dict #[] }).update x λo=>{ o with dict:=some s.heap.objs.size }).get? x=some ⟨.ref C,some s.heap.objs.size,.fields vs,#[]⟩:=WL _ Vc rfl;have e1:(s.heap.push { cls:=.type "dict",data:=.dict #[] }).get? s.heap.objs.size=some { cls:=.type "dict",data:=.dict #[] }:=V2 s.heap rfl;have nxd:s.heap.objs.size≠x:=XM RW;have e2:((s.heap.push { cls:=.type "dict",data:=.dict #[] }).update x λo=>{ o with dict:=some s.heap.objs.size }).get? s.heap.objs.size=some { cls:=.type "dict",data:=.dict #[] }:=by
  rwa[Wn _ _ (Xs nxd)]
 have e3:((s.heap.push { cls:=.type "dict",data:=.dict #[] }).update x λo=>{ o with dict:=some s.heap.objs.size }).Ns s.heap.objs.size (λ_=>none):=⟨_,#[],_,e2,rfl,(λe he=>absurd he ↑13),λ_=>rfl⟩
 refine wpAny_nsSet1 (s:={ s with heap:=(s.heap.push { cls:=.type "dict",data:=.dict #[] }).update x λo=>{ o with dict:=some s.heap.objs.size },toks:=s.toks+1 }) (acF e3) λh' UH Sw=>?_;obtain⟨oD,esD,epD,hoD,hdD,T_⟩:=UH.count (acD (ns:=[]) name v (λy hy=>absurd rfl hy));refine VQ (wpAny_lookBehind hoD (by rw[hdD];exact pastItsLine_dict (WE T_ (by show 1<=sizeLine+1;exact Nat.le_add_left _ _))) ?_);refine VY (h h' _ s.heap.objs.size ((Sw.2 x (Xs nxd)).trans SW) (Za (VX _)) UH λb o hb e=>?_);refine(Sw.2 b (V_ (V3 e))).trans ?_;rw[Wn _ _ (Xs hb)];exact VR _ e
end
def se(K:VU)(C:Addr)(newId:String)(f:Addr):Bool:=match K.lookup C with
 | some ⟨.type "type",_,.cls cd,sl⟩=>(match cd.mro,sl.toList with
  | .ref C'::bm,[_,_,_,_,some (.builtin n),_]=>C'==C&&n==newId&&!cd.hasDel&&PySem.W.tailIn K fW bm&&PySem.W.nsOkIn K cd.ns&&abu K cd.ns "__init__" == some (some (.ref f))
  | _,_=>false)
 |_=>false
section
variable{E:Value->Shared->Prop}{g:Array GenState}{d:Drawn}{t:Nat}{os:OsState}
variable{nm q:Str}{N:Addr}{bs bm:List Value}{Tj:Bool}{sn:List Str}{sub:List Value}{ab:Bool}{col:Option Bool}{k0 k1 k2 k3 k5:Option Value}{U5:String}
def qD(F:ExcBaseFacts "ValueError" newId U5 fW)(T:OwnTail h fW bm){mN:Str->Option Value}{rest:List Value}{Q:Fin->Shared->Prop}(hC:h.get? C=some (excClassObj nm q C N bs bm Tj sn sub ab col dd k0 k1 k2 k3 k5 newId))(hn:h.Ns N mN)(TR:mN "__init__"=some (.ref f))(hb:∀h':Heap,(∀b o,h.get? b=some o->h'.get? b=some o)->∀self,Zu ↑11 h' (bindSpecial (.ref f) self) (.ref f,[self]))(hq:∀h':Heap,(∀b o,h.get? b=some o->h'.get? b=some o)->h'.get? h.objs.size=some { cls:=.type "tuple",data:=.seq rest.toArray } ->h'.get? (h.objs.size+1)=some { cls:=.ref C,data:=.fields #[.ref h.objs.size,.none,.none,.none,.bool false,.none] }->h'.objs.size=h.objs.size+2 ->wpAny ↑11 A (call (.ref f) (.ref (h.objs.size+1)::rest)) (λv s'=>v=.none/\Q (.done (.ret (.ref (h.objs.size+1)))) s') E ⟨h',g,d,t,os⟩)(xZ:rest.length<=sizeLine:=by size_fits):wpAny ↑11 A (Builtin.«type.__call__» ⟨.ref C::rest,[]⟩) Q E ⟨h,g,d,t,os⟩:=by
 repeat (first|with_reducible refine aa1 hC ?_|with_reducible refine wpAny_madeBy_exc hC ?_|wp_step)
 refine codeAny_call_builtin_code (acr _ F.quiet) (wpAny_check_new_subT F T hC ?_);refine codeAny_exc_new_subT F T hC ?_ xZ;show wpAny _ _ _ _ _ _;have kp:∀b o,h.get? b=some o->((h.push { cls:=.type "tuple",data:=.seq rest.toArray }).push { cls:=.ref C,data:=.fields #[.ref h.objs.size,.none,.none,.none,.bool false,.none] }).get? b=some o:=λb o e=>VR _ (VR _ e);have hC1:=kp _ _ hC;have hn₁:((h.push { cls:=.type "tuple",data:=.seq rest.toArray }).push { cls:=.ref C,data:=.fields #[.ref h.objs.size,.none,.none,.none,.bool false,.none] }).Ns N mN:=hn.keeps kp;have Vv:((h.push { cls:=.type "tuple",data:=.seq rest.toArray }).push
   { cls:=.ref C,data:=.fields #[.ref h.objs.size,.none,.none,.none,.bool false,.none] }).get? (h.objs.size+1)=some
   { cls:=.ref C,data:=.fields #[.ref h.objs.size,.none,.none,.none,.bool false,.none] }:=by heap_get
 have htup:((h.push { cls:=.type "tuple",data:=.seq rest.toArray }).push
   { cls:=.ref C,data:=.fields #[.ref h.objs.size,.none,.none,.none,.bool false,.none] }).get? h.objs.size=some { cls:=.type "tuple",data:=.seq rest.toArray }:=VR _ (V2 _ rfl)
 have hsz:((h.push { cls:=.type "tuple",data:=.seq rest.toArray }).push { cls:=.ref C,data:=.fields #[.ref h.objs.size,.none,.none,.none,.bool false,.none] }).objs.size=h.objs.size+2:=by rw[WN,WN]
 have hcC:(V4 C::bm).contains (.ref C)=true:=by simp
 have T₁:=T.keeps kp;have hb₁:=hb _ kp (.ref (h.objs.size+1));have fin:=hq _ kp htup Vv hsz;generalize ((h.push { cls:=.type "tuple",data:=.seq rest.toArray }).push { cls:=.ref C,data:=.fields #[.ref h.objs.size,.none,.none,.none,.bool false,.none] })=h1 at *;unfold isInstance
 repeat (first|with_reducible refine aa1 Vv ?_|(with_reducible refine wpAny_isSubtype_exc hC1 ?_;rw[hcC])|wp_step)
 show wpAny _ _ (typeLookup (.ref C) _) _ _ _;refine wpAny_typeLookup_tail hC1 hn₁ T₁ F.mroIs F.init.lookup ?_;rw[TR];refine Xm (VQ (hb₁.here ?_));refine VQ (XO fin (λv s' z=>?_) λ_ _ z=>z);obtain⟨rfl,z⟩:=z
 wp_walk
 exact z
end
end
def iW(C:Addr)(dd:Option Addr)(e:Addr):HO:=.ext λh=>∃vs,h.get? e=some ⟨.ref C,dd,.fields vs,#[]⟩
def Gu{e:Addr}{vs:Array Value}(he:h.get? e=some ⟨.ref C,dd,.fields vs,#[]⟩):bD P w H h e (iW C dd e) :=
 ⟨⟨vs,he⟩,⟨_,he⟩,λ_ _ ⟨vs,q⟩ k=>⟨vs,k _ q⟩⟩
def ExcAt(H:Hp)(e C:Addr)(fo:Option (List (Str×V))):Prop:=match fo with
 | none=>H e=some (iW C none e)
 |some fs=>∃d,H e=some (iW C (some d) e)/\H d=some (.xd fs)
def Inv.qF(I:Inv X Q6 σ H s){e:Addr}(he:H e=some (iW C dd e)):∃vs,s.heap.get? e=some ⟨.ref C,dd,.fields vs,#[]⟩:=(I.bA e _ he).1
def Inv.HK(I:Inv X Q6 σ H s){e:Addr}{fo:Option (List (Str×V))}(h:ExcAt H e C fo):∃ox od,YW s.heap e ox C od/\(fo=none->od=none) ∧∀fs,fo=some fs->∃(o:Obj)(mA:Str->Option Value),od=some o/\(∀n,ZH n o=some (mA n))/\∀f,k6 (fs.lookup f) (mA f):=by
 cases fo with
 | none =>
  obtain⟨vs,q⟩:=I.qF h;exact⟨_,none,⟨q,rfl,rfl,trivial⟩,λ_=>rfl,λfs z=>(by cases z)⟩
 | some fs =>
  obtain⟨d,h1,h2⟩:=h;obtain⟨vs,q⟩:=I.qF h1;obtain⟨mA,n,r⟩:=(show ∃mA,s.heap.Ns1 d mA/\∀f,k6 (fs.lookup f) (mA f) from I.bA d _ h2)
  obtain⟨o,ho,hl⟩:=oN n;refine⟨_,some o,⟨q,rfl,rfl,ho⟩,λz=>(by cases z),λfs' z=>?_⟩;cases z;exact⟨o,mA,rfl,hl,r⟩
def Inv.vn(I:Inv X Q6 σ H s)(hn:s.heap.get? a=none):H a=none:=by
 cases q:H a with
 | none=>rfl
 | some u =>
  exfalso;have:∀(u:HO),bD X.prog X.w H s.heap a u->∃ob,s.heap.get? a=some ob:=by
   intro u
   induction u with
   | lst xs=>intro ⟨_,_,_,_,e⟩;exact⟨_,e⟩
   | tup xs=>intro ⟨_,_,_,p⟩;obtain⟨ob,e,_⟩:=p;exact⟨ob,e⟩
   | dK Q9=>intro ⟨_,_,_,_,p⟩;obtain⟨ob,_,_,e,_⟩:=p;exact⟨ob,e⟩
   | dT Q9=>intro ⟨_,_,_,_,ob,_,_,e,_⟩;exact⟨ob,e⟩
   | set S n=>intro p;obtain⟨es,ob,xs,ep,e,_⟩:=p;exact⟨_,e⟩
   | ins C dx fs=>intro ⟨_,_,_,e,_⟩;exact⟨_,e⟩
   | own x=>intro ⟨ob,e⟩;exact⟨ob,e⟩
   | xd fs=>intro ⟨mA,n,_⟩;obtain⟨ob,e,_⟩:=oN n;exact⟨ob,e⟩
   | met f x=>intro e;exact⟨_,e⟩
   | jJ lo hi=>intro ⟨_,_,_,e⟩;exact⟨_,e⟩
   | kJ o u _=>intro ⟨e,_⟩;exact⟨_,e⟩
   | Jo ps=>intro e;exact⟨_,e⟩
   | ext φ=>intro ⟨_,⟨ob,e⟩,_⟩;exact⟨ob,e⟩
  obtain⟨ob,e⟩:=this u (I.bA a u q);rw[hn] at e;cases e
def Inv.Ji(I:Inv X Q6 σ H s)(k:∀b u,s.heap.get? b=some u->h'.get? b=some u)(hn:s.heap.get? a=none)(new:bD X.prog X.w (upd H a o) h' a o):Inv X Q6 σ (upd H a o) { s with heap:=h',toks:=t' }:=by
 have ne:∀b u,s.heap.get? b=some u->b≠a:=λb u e z=>by rw[z,hn] at e;cases e
 have Uc:H a=none:=I.vn hn;have Uo:∀b u,H b=some u->b≠a:=λb u e z=>by rw[z,Uc] at e;cases e
 refine I.un ⟨λb u e _ _ _=>k b u e,λb u e _ _ _=>⟨u.slots,k b u e⟩,λb u e n _=>by rwa[au (ne b u e)],λb u e _=>⟨u,k b u e⟩,
  λb xs e=>by rwa[au (Uo b _ e)],λb ob u e=>by rwa[au (Uo b _ e)],λb ps e=>⟨#[],by rw[au (Uo b _ e),e];simp⟩⟩ λb u e=>?_
 by_cases z:b=a
 .subst z;rw[ay] at e;cases e;exact new
 .rw[au z] at e;refine(I.bA b u e).n5 (λc v _ q=>k c v q) (λc q=>?_) λc ys q=>?_
  .rw[au (Uo c _ q)];exact q
  .rw[au (Uo c _ q)];exact q
variable{apos:Pos}{m:Str}{ta:TE}
section
variable{o:Expr}{f:Str}{pos:Pos}
def Pj(K:VU):List V->Hp->VK->Prop:=λxs H Q=>∃e C fo b,gG K C/\ExcAt H e C fo ∧
 ((∃T,xs=[.ref e,.ty T]/\Wr K (.ref C) (.type T)=some b)\/(∃D,xs=[.ref e,.ref D]/\Wr K (.ref C) (.ref D)=some b))/\Q (.bl b) H
def rR:c8 X (.builtin "isinstance") (Pj X.K):=by
 intro Q6 s σ H xs us Q I r h;obtain⟨e,C,fo,b,c,ha,hc,q⟩:=h;obtain⟨ox,od,J,_⟩:=I.HK ha;rcases hc with ⟨T,rfl,hk⟩|⟨D,rfl,hk⟩
 .cases r with
  | cons r1 r2 =>
   cases r2 with
   | cons r3 r4 =>
    cases r4;cases (show _=V4 e from r1);cases (show _=Xp T from r3);exact Xe (xc c) I.ku J hk (λz=>nomatch z) λtk=>⟨.bl b,H,I.tok tk,rfl,q⟩
 .cases r with
  | cons r1 r2 =>
   cases r2 with
   | cons r3 r4 =>
    cases r4;cases (show _=V4 e from r1);cases (show _=V4 D from r3);exact Xe (xc c) I.ku J hk (λz=>nomatch z) λtk=>⟨.bl b,H,I.tok tk,rfl,q⟩
end
variable{mg:Str->Option Value}
def zP{K:VU}{N:Addr}{n:Str}{v:Value}(X:K.In h)(G:h.Ns N mg)(e:abu K N n=some (some v)):mg n=some v:=by
 obtain⟨o,es,ep,ho,hd,_,hf⟩:=G;unfold abu at e
 split at e
 .rename_i c d Va n' sl q;have:=X _ _ q;rw[ho] at this;cases this;cases hd
  split at e
  .rename_i en he;cases e;rw[<- hf];unfold nsFind findBy;rw[<- acm,he];rfl
  .split at e<;>cases e
 .cases e
def HG{K:VU}(X:K.In h)(q:Z6 K C fW newId=true):∃bm N nm qn bs Tj sn sub ab col dd k0 k1 k2 k3 k5 mN,h.get? C=some (excClassObj nm qn C N bs bm Tj sn sub ab col dd k0 k1 k2 k3 k5 newId)/\h.Ns N mN/\mN "__init__"=none/\OwnTail h fW bm:=by
 unfold Z6 at q
 split at q
 .rename_i dd cd sl ho
  split at q
  .rename_i C' bm k0 k1 k2 k3 n k5 hm hs;simp only[WT,beq_iff_eq,acR] at q;obtain⟨⟨⟨⟨⟨rfl,rfl⟩,Ua⟩,ht⟩,bA⟩,TR⟩:=q;obtain⟨nm,bs,mro,ns,qn,hd,sn,sub,ab,col,del⟩:=cd;dsimp only at hm Ua bA TR;subst hm Ua;have hsl:sl=#[k0,k1,k2,k3,some (.builtin n),k5]:=by
    obtain⟨l⟩:=sl;simp only at hs;rw[hs]
   subst hsl;exact⟨bm,ns,nm,qn,bs,hd,sn,sub,ab,col,dd,k0,k1,k2,k3,k5,_,X _ _ ho,.of_isNs (acs X bA),PySem.W.nsMap_none_of_in X bA TR,acu X ht⟩
  .cases q
 .cases q
def En{K:VU}(X:K.In h)(q:se K C newId f=true):∃bm N nm qn bs Tj sn sub ab col dd k0 k1 k2 k3 k5 mN,h.get? C=some (excClassObj nm qn C N bs bm Tj sn sub ab col dd k0 k1 k2 k3 k5 newId)/\h.Ns N mN/\mN "__init__"=some (.ref f)/\OwnTail h fW bm:=by
 unfold se at q
 split at q
 .rename_i dd cd sl ho
  split at q
  .rename_i C' bm k0 k1 k2 k3 n k5 hm hs;simp only[WT,beq_iff_eq,acR] at q;obtain⟨⟨⟨⟨⟨rfl,rfl⟩,Ua⟩,ht⟩,bA⟩,TR⟩:=q;obtain⟨nm,bs,mro,ns,qn,hd,sn,sub,ab,col,del⟩:=cd;dsimp only at hm Ua bA TR;subst hm Ua;have hsl:sl=#[k0,k1,k2,k3,some (.builtin n),k5]:=by
    obtain⟨l⟩:=sl;simp only at hs;rw[hs]
   subst hsl;have hN:=Heap.Ns.of_isNs (acs X bA);exact⟨bm,ns,nm,qn,bs,hd,sn,sub,ab,col,dd,k0,k1,k2,k3,k5,_,X _ _ ho,hN,zP X hN TR,acu X ht⟩
  .cases q
 .cases q
variable{k:Nat}{es:List Expr}{e:Expr}{sp:Sp}{ps:List Str}{fd:FuncData}
section
variable{p pos:Pos}{t:TA}
end
section
open PySem.SeqAt (shaped noMix noMixAll)
end
section
open PySem.SeqAt (shaped noMix noMixAll)
def Gw{x:V}{u t:Value}(I:Inv X Q6 σ H s)(rx:RelV x u)(ty:kI X.K H x t):∃HH:Heap->Prop,adz X.K u t HH/\HH s.heap/\u≠.builtin "__main__.__loader__#opaque" := by
 cases ty with
 | c6=>cases (show u=WK from rx);exact⟨_,acG,Xq,λz=>nomatch z⟩
 | bl y=>cases (show u=Yk y from rx);exact⟨_,acH,Xq,λz=>nomatch z⟩
 | int i=>obtain⟨t,q⟩:=(show ∃t,u=aaD i t from rx);cases q;exact⟨_,ac4,Xq,λz=>nomatch z⟩
 | str y=>obtain⟨t,q⟩:=(show ∃t,u=aaE y t from rx);cases q;exact⟨_,ac5,Xq,λz=>nomatch z⟩
 | JC y=>obtain⟨t,q⟩:=(show ∃t,u=abW y t from rx);cases q;exact⟨_,aco,Xq,λz=>nomatch z⟩
 | @lst a xs ea =>
  cases (show u=V4 a from rx);obtain⟨_,_,n,_,h1⟩:=(show bD X.prog X.w H s.heap a (.lst xs) from I.bA a _ ea)
  exact⟨_,ZL,⟨_,h1,rfl⟩,λz=>nomatch z⟩
 | @kJ a ob xs ea =>
  cases (show u=V4 a from rx);obtain⟨_,_,_,n,_,h1⟩:=(show bD X.prog X.w H s.heap a (.kJ ob (.lst xs)) from I.bA a _ ea)
  exact⟨_,ZL,⟨_,h1,rfl⟩,λz=>nomatch z⟩
 | @tup a xs ea =>
  cases (show u=V4 a from rx);obtain⟨_,_,_,o,h1,h2,_⟩:=(show bD X.prog X.w H s.heap a (.tup xs) from I.bA a _ ea)
  exact⟨_,acp,⟨o,h1,h2⟩,λz=>nomatch z⟩
 | @dK a Q9 ea =>
  cases (show u=V4 a from rx);obtain⟨_,_,vs,_,o,es,ep,h1,h2,_⟩:=(show bD X.prog X.w H s.heap a (.dK Q9) from I.bA a _ ea)
  exact⟨_,ZM,⟨o,h1,h2.1⟩,λz=>nomatch z⟩
 | @dT a Q9 ea =>
  cases (show u=V4 a from rx);obtain⟨_,_,xs,_,o,es,ep,h1,h2,_⟩:=(show bD X.prog X.w H s.heap a (.dT Q9) from I.bA a _ ea)
  exact⟨_,ZM,⟨o,h1,h2.1⟩,λz=>nomatch z⟩
 | @ins a C dx fs ea cl ha hn MM hm =>
  cases (show u=V4 a from rx);obtain⟨mA,O,_⟩:=nA I.bA ea;obtain⟨od,J,_⟩:=O.look;exact⟨_,ac6 (cl.get _) cl.hd ha hn MM hm,J,λz=>nomatch z⟩
def Nx(K:VU):List V->Hp->VK->Prop:=λxs H Q=>∃(x:V)(tp:Addr)(Ts:List String)(t:Value)(b:Bool),xs=[x,.ref tp]/\H tp=some (.tup (Ts.map V.ty))/\kI K H x t/\aaO K t (Ts.map Xp)=some b/\Q (.bl b) H
theorem Ar:∀{Ts:List String}{us:List Value},Vals (Ts.map V.ty) us->us=Ts.map Xp
 | [],us,r=>by rw[aau] at r;cases r;rfl
 | T::Ts,us,r=>by
  rw[Wv] at r;cases r with
  | cons r1 r2 =>
   cases (show _=Xp T from r1);rw[Ar r2];rfl
def BN:c8 X (.builtin "isinstance") (Nx X.K):=by
 intro Q6 s σ H xs us Q I r h;obtain⟨x,tp,Ts,t,b,rfl,htp,ty,e,q⟩:=h;cases r with
 | cons r1 r2 =>
  cases r2 with
  | cons r3 r4 =>
   cases r4;cases (show _=V4 tp from r3);obtain⟨HH,Z,p,ne⟩:=Gw I r1 ty;obtain⟨_,Rb,rv,o,h1,h2,n,h3⟩:=(show bD X.prog X.w H s.heap tp (.tup (Ts.map V.ty)) from I.bA tp _ htp)
   have ei:=Ar rv;subst ei;obtain⟨cls,dd,data,sl⟩:=o;dsimp only at h2 h3;subst h2 h3;exact PySem.W.kia_tup Z I.ku p h1 e ne λtk=>⟨.bl b,H,I.tok tk,rfl,q⟩
theorem AL:∀{bs:List Bool}{us:List Value},Vals (bs.map V.bl) us->us=bs.map Yk
 | [],us,r=>by rw[aau] at r;cases r;rfl
 | b::bs,us,r=>by
  rw[Wv] at r;cases r with
  | cons r1 r2 =>
   cases (show _=Yk b from r1);rw[AL r2];rfl
def Mu:bootBuiltins "all"=some (.builtin "all"):=by decide +kernel
def B8(hc:X.calm=true):c8 X (.builtin "all") (λxs H Q=>∃(a:Addr)(bs:List Bool),xs=[.ref a]/\gQ X.K H a (bs.map V.bl)/\Q (.bl (bs.all id)) H):=by
 intro Q6 s σ H xs us Q I r h;obtain⟨a,bs,rfl,hq,q⟩:=h;cases r with
 | cons r1 r2 =>
  cases r2;cases (show _=V4 a from r1);obtain⟨Rb,rv,p,hz⟩:=I.list hq;have ei:=AL rv;subst ei;have hl:=p.isList;have RW:a<s.heap.objs.size:=by obtain⟨_,e,_⟩:=hl;exact V3 e
  refine call_all_walk (Y_ hl ?_);refine⟨s.heap.objs.size,[s.heap.objs.size,a],[s.heap.objs.size],(bs.map Yk).toArray.size,_,_,λi=>(bs[i]?).getD true,rfl,acv (A:=X.A.in1) (I.ok.hd hc) _ a (V_ RW) (bs.map Yk).toArray,
   ⟨⟨_,V2 _ rfl,rfl,rfl⟩,hl.push _⟩,λi v s' Q' E' hP hQ=>?_,λh' tk hk=>?_⟩
  .have hP':(bs.map Yk)[i]?=some v:=by simpa using hP
   rw[Ww] at hP';obtain⟨b,e1,e2⟩:=Wo.mp hP';subst e2;simp only[e1,Xz] at hQ;exact XF hQ
  .have e:((V6 (bs.map Yk).toArray.size).all λi=>(bs[i]?).getD true)=bs.all id:=by
    rw[Wa,VW];rw[aag,W_,W_];constructor
    .intro h b hb;obtain⟨i,hi,e⟩:=ab_ hb;have:=h i (W5.mpr hi);simp only[VT hi,Xz,e] at this;exact this
    .intro h i hi;have UR:=W5.mp hi;simp only[VT UR,Xz];exact h _ (Wu UR)
   rw[e];refine⟨.bl _,H,I.kept (t':=tk) (λb x e=>?_),rfl,q⟩;exact hk b x (λhm=>by rw[Wi.mp hm] at e;exact Yt _ (V3 e)) (VR _ e)
end
section
open PySem.MeetsSeq PySem.MeetsSeq2 PySem.MeetsSeq3
def oY:fillsNumberSlot (.type "tuple") "mul"=pure false :=
 PySem.fillsNumberSlot_seq (id := "tuple.__mul__") (r:=some (.builtin "tuple.__rmul__")) F.slot_tuple_mul.lookup (by decide +kernel) F.slot_tuple_rmul.lookup (by decide +kernel)
def vT:seqRepeat? (.type "tuple")=pure (some (.builtin "tuple.__mul__")):=by
 unfold seqRepeat?;rw[adb (T := "tuple") (name := "__mul__") (id := "tuple.__mul__") F.slot_tuple_mul.lookup (by decide +kernel),adb (T := "tuple") (name := "__rmul__") (id := "tuple.__rmul__") F.slot_tuple_rmul.lookup (by decide +kernel)];rfl
def wG(a:Int)(t:Tok)(l:Addr)(items:Array Value)(n:Nat)(dd:Option Addr)(sl:Array (Option Value)):Meets (Builtin.«int.__rmul__» ⟨[.int a t,.ref l],[]⟩) (λ_ R s=>s.heap.get? l=some ⟨.type "tuple",dd,.seq items n,sl⟩/\R (.ok (.ret ab0)) s) :=
 .of_wp λprog w A R s h=>by obtain⟨hp,g,d,tk,os⟩:=s;obtain⟨hl,h⟩:=h;wp_walk;exact⟨_,rfl,h⟩
def Bj(l:Addr)(items:Array Value)(n:Nat)(dd:Option Addr)(sl:Array (Option Value))(u:Tok):Meets (Builtin.«tuple.__mul__» ⟨[.ref l,.int 1 u],[]⟩) (λ_ R s=>s.heap.get? l=some ⟨.type "tuple",dd,.seq items n,sl⟩/\R (.ok (.ret (.ref l))) s) :=
 .of_wp λprog w A R s h=>by
  obtain⟨hp,g,d,tk,os⟩:=s;obtain⟨hl,h⟩:=h;have f1:=abg;have f2:=YO
  wp_walk using XI hl
  exact⟨_,rfl,h⟩
def Ba(l:Addr)(items:Array Value)(n:Nat)(dd:Option Addr)(sl:Array (Option Value))(x:Int)(u:Tok)(c0:¬ (decide (x < -2^63)||decide (x>=2^63))=true)(c1:¬ (items.isEmpty||x==1)=true)(c2:¬ (decide (x<=0)||items.isEmpty)=true)(c3:¬ (items.size:Int)*x>(2^63-1)/8)(c4:¬ aaP ((items.size:Int)*x)=true)(hsz:(aaJ (λx1 x2=>x1++x2) #[] (VS x.toNat items)).size<=sizeLine):Meets (Builtin.«tuple.__mul__» ⟨[.ref l,.int x u],[]⟩) (λ_ R s=>s.heap.get? l=some ⟨.type "tuple",dd,.seq items n,sl⟩/\R (.ok (.ret (.ref s.heap.objs.size))) { s with heap:=s.heap.push { cls:=.type "tuple",data:=.seq (aaJ (λx1 x2=>x1++x2) #[] (VS x.toNat items)) },toks:=s.toks }) :=
 .of_wp λprog w A R s h=>by
  obtain⟨hp,g,d,tk,os⟩:=s;obtain⟨hl,h⟩:=h;have f1:=abg;have f2:=YO
  wp_walk using XI hl
  refine abK (decide_eq_false c0) ?_;wp_walk using XI hl;refine abK (decide_eq_false c3) ?_;wp_walk using XI hl;exact⟨_,rfl,h⟩
def Cy(l:Addr)(items:Array Value)(n:Nat)(dd:Option Addr)(sl:Array (Option Value))(x:Int)(u:Tok)(c0:¬ (decide (x < -2^63)||decide (x>=2^63))=true)(c1:¬ (items.isEmpty||x==1)=true)(c2:(decide (x<=0)||items.isEmpty)=true):Meets (Builtin.«tuple.__mul__» ⟨[.ref l,.int x u],[]⟩) (λ_ R s=>s.heap.get? l=some ⟨.type "tuple",dd,.seq items n,sl⟩/\R (.ok (.ret (.ref s.heap.objs.size))) { s with heap:=s.heap.push { cls:=.type "tuple",data:=.seq #[] },toks:=s.toks }) :=
 .of_wp λprog w A R s h=>by
  obtain⟨hp,g,d,tk,os⟩:=s;obtain⟨hl,h⟩:=h;have f1:=abg;have f2:=YO
  wp_walk using XI hl
  refine abK (decide_eq_false c0) ?_;wp_walk using XI hl;exact⟨_,rfl,h⟩
def Jf(K:VU):R2:=λx y H Q=>∃a k xs,x=.ref a/\y=.int k/\g9 K H a xs/\xs≠[]/\-(2^63)<=k/\k<2^63/\xs.length*k.toNat<=sizeLine/\(k=1->Q (.ref a) H)/\(k≠1->∀p,H p=none->Q (.ref p) (upd H p (.tup (VS k.toNat xs).flatten)))
theorem Hh:gR X (binaryOp .Mult) (Jf X.K):=by
 intro Q6 s σ H x y v u Q I rx ry h;obtain⟨a,k,xs,rfl,rfl,hq,TJ,h1,h2,hz,q1,q2⟩:=h;cases rx;obtain⟨t,rfl⟩:=ry;obtain⟨Rb,r,⟨o,e,hc,n,hd⟩,_⟩:=I.tuple hq;obtain⟨cls,dd,data,sl⟩:=o;dsimp only at hc hd;subst hc hd;have hl:=r.length;refine aaV (T := "tuple") (U := "int") ↑12 ⟨_,e,rfl⟩ (λs'=>abt s' k t) oY F.fills_int_mul F.slot_int_rmul vT F.slot_int_index.lookup
  (ZX F.slot_int_rmul (abt s k t) F.entry_int_rmul (F.args_int_rmul_2 _ _) (wG k t a Rb.toArray n dd sl) ⟨e,rfl,⟨_,e,rfl⟩,?_⟩)
 by_cases hk1:k=1
 .subst hk1;exact ZX F.slot_tuple_mul ⟨_,e,rfl⟩ F.entry_tuple_mul (F.args_tuple_mul_2 _ _) (Bj a Rb.toArray n dd sl t) ⟨e,⟨.ref a,H,I,rfl,q1 rfl⟩⟩
 .have hb1:(k==1)=false:=by simpa using hk1
  have TR:Rb≠[]:=λz=>TJ (r.nV.mp z);have hie:Rb.toArray.isEmpty=false:=by cases Rb with|nil=>exact absurd rfl TR|cons _ _=>rfl
  have c0:¬ (decide (k < -2^63)||decide (k>=2^63))=true:=by simp;lia
  have c1:¬ (Rb.toArray.isEmpty||k==1)=true:=by rw[hie,hb1];simp
  have fin:∀ys,ys=(VS k.toNat Rb).flatten.toArray->EP X Q6 σ Q (.ref s.heap.objs.size) { s with heap:=s.heap.push { cls:=.type "tuple",data:=.seq ys },toks:=s.toks }:=λys ey=>by
   subst ey;refine⟨.ref s.heap.objs.size,_,I.laid (t':=s.toks) (o:=.tup (VS k.toNat xs).flatten) (λb ob q=>VR _ q) (VX _) ?_,rfl,q2 hk1 _ (I.bA.fresh (VX _))⟩;exact⟨by rwa[len_rep,aav],_,r.rep k.toNat,ac7 _ _⟩
  have SH:aaJ (λx1 x2=>x1++x2) #[] (VS k.toNat Rb.toArray)=(VS k.toNat Rb).flatten.toArray:=by
   have:=foldl_rep Rb k.toNat [];rwa[adu] at this
  by_cases hk0:k<=0
  .have c2:(decide (k<=0)||Rb.toArray.isEmpty)=true:=by rw[decide_eq_true hk0];rfl
   refine ZX F.slot_tuple_mul ⟨_,e,rfl⟩ F.entry_tuple_mul (F.args_tuple_mul_2 _ _) (Cy a Rb.toArray n dd sl k t c0 c1 c2) ⟨e,fin _ ?_⟩;rw[show k.toNat=0 by lia];rfl
  .have c2:¬ (decide (k<=0)||Rb.toArray.isEmpty)=true:=by rw[decide_eq_false hk0,hie];simp
   have em:((Rb.toArray.size:Nat):Int)*k=((xs.length*k.toNat:Nat):Int):=by
    rw[Wa,<- hl,Int.natCast_mul,Zo ⋯]
   have hs:(sizeLine:Int)<=(2^63-1)/8:=by decide
   refine ZX F.slot_tuple_mul ⟨_,e,rfl⟩ F.entry_tuple_mul (F.args_tuple_mul_2 _ _) (Ba a Rb.toArray n dd sl k t c0 c1 c2 ?_ ?_ ?_) ⟨e,fin _ SH⟩
   .rw[em];lia
   .rw[em];unfold aaP;simp only[decide_eq_true_eq];lia
   .rw[SH,Wa,len_rep,aav,<- hl];exact hz
end
structure bj (K:VU) (x qual:Str) (st:Stmt) (dv:Value) (f:Addr) (fd:FuncData):Prop where
 ex:∃(oc:Value)(od:Option Addr)(kV doc pm:Value)(an:Option Addr)(Rw ct:Value)(Ur:Array (Option Value)),
  fd=Xr x qual (i4 st) (fg st) (ba st) dv kV doc pm an Rw ct/\K.lookup f=some ⟨oc,od,.func fd,Ur⟩/\Yd K Rw qual=true
 kp:W8 K (.ref f)=true
variable{base:Heap}
variable{ds:List Value}{T:Addr}{qual:Str}
section
variable{K:VU}
def bj.binds{st:Stmt}{o:Obj}(F:bj K x qual st (.ref T) f fd)(ho:K.lookup T=some o)(hs:o.data=.seq items n)(h:∀(kV doc pm:Value)(an:Option Addr)(Rw ct:Value)(us:List Value),(us++ds).length=ps.length->∃k,bindArgs (Xr x qual (i4 st) (fg st) (ba st) (.ref T) kV doc pm an Rw ct) ⟨us,[]⟩=seqItems? (.ref T) >>= k/\k (some items)=pure (ps.zip (us++ds))):Binds K fd ps ds:=by
 obtain⟨oc,od,kV,doc,pm,an,Rw,ct,Ur,rfl,lk,R3⟩:=F.ex;intro s us X hl;obtain⟨k,h1,h2⟩:=h kV doc pm an Rw ct us hl;exact BindsTo.of_defaults rfl (X _ _ ho) hs h1 h2
end
variable{v:V}
def NT{pos:Pos}(hg:Gl X x)(hm:∃u,X.mg x=some u/\RelV v u)(hd:autoParam ↑7 aD._auto_1):PE X (.Name x pos) (tC v):=by
 obtain⟨u,h1,h2⟩:=hm;exact vz hg h1 h2 hd
def Ma:bootBuiltins "max"=some (.builtin "max"):=by decide +kernel
def KC:bootBuiltins "min"=some (.builtin "min"):=by decide +kernel
variable{y:Str}
def Gf{cl:List (Str×Addr)}{pos SM py:Pos}{wi:TI}{g:TG}{fs:List Str}(hN:X.N.Nodup)(U0:X.N[i]?=some y)(hy:Loc X.env.scope y)(Rh:X.calm=true)(Rr:closureFor scope X.env=pure cl)(hk:scope.kind=.function)(nc:e_ scope.names=true)(lo:gu scope.names=true)(fh:gy cl scope.names=true)(ag:eI X cl)(fr:iE X scope cl fs js)(hi:PI X tg iter wi)(hg:∀C s₀ H₀ ex Q6,PG (n9 X scope cl (ts++fs) C s₀ H₀ ex Q6) tg g)(he:∀C s₀ H₀ ex Q6,PE (n9 X scope cl (ts++fs) C s₀ H₀ ex Q6) elt te)(hs:autoParam ↑5 aI._auto_1)(UJ:autoParam (swapsWith (.ListComp elt [⟨tg,iter,[],0⟩] scope pos) (some (.Name y py)) SM.line X.env=pure true) aR._auto_1)(hf:autoParam (X.fn y=true\/X.env.scope.names.lookup y=some .local) aF._auto_1):PS X (.Assign [.Name y py] (.ListComp elt [⟨tg,iter,[],0⟩] scope pos) SM) (BB (zM wi g te ts js) (aC i)):=by
 intro Q6 s σ H D I h;rw[abO _ _ _ _ UJ];refine VQ (Zr (VQ ?_));show wpAny _ X.A (do let _ <- comprehension (.ListComp elt [⟨tg,iter,[],0⟩] scope pos) scope X.env _ (newList []) false (eval iter X.env) (some (assign (.Name y py) X.env))) _ _ s;refine VQ (XO (qI (tt:=none) Rh Rr hk nc lo fh ag fr hi hg (λ_ _ _ _ _=>trivial) he hs I (show Ac wi g none te ts js σ H (λx H1=>D.nx (σ.set i (some x)) H1) from h) (some (assign (.Name y py) X.env)) (λ_ s'=>SP X Q6 D .next s') λDd H' s' C Io q hm f=>?_) (λ_ s' hq=>VY (VY hq)) λ_ _ e=>e);show wpAny _ X.A (assign (.Name y py) X.env (.ref Dd)) _ _ s';refine aaZ (oV Io hN U0 hy (v:=.ref Dd) rfl (λVN I'' ⟨a,sb,ha⟩=>?_) hf);obtain⟨m,hn⟩:=hm;obtain⟨f0,f1,f2,f3,f4,f5⟩:=f;have naC:a≠C:=by
  rcases ha with z|z
  .rw[z];exact λw=>f1 w.symm
  .exact f4 y a z
 refine⟨m,hn.sameBut sb (Xs naC),λh' UT=>?_⟩;exact⟨_,H',I''.other ⟨f0,f1,f2,f3,f4,f5⟩ UT,q⟩
def rf(a b c:Value):checkTypeCall "zip" ⟨[a,b,c],[]⟩=pure ():=by kernel_rfl
def t7(a b c:Value):checkBuiltinCall "zip.__new__" ⟨[.type "zip",a,b,c],[]⟩=pure ():=by kernel_rfl
abbrev bO(h:Heap)(T:Addr)(a b c:Value):Prop:=h.get? T=some { cls:=.type "tuple",data:=.seq #[a,b,c] }
structure Z3 (z TI TO i1 i2 i3:Addr):Prop where
 TIz:TI≠z
 TOz:TO≠z
 i1z:i1≠z
 i2z:i2≠z
 MT:i3≠z
 TITO:TI≠TO
 TIi1:TI≠i1
 TIi2:TI≠i2
 Qh:TI≠i3
 TOi1:TO≠i1
 TOi2:TO≠i2
 Ih:TO≠i3
 i12:i1≠i2
 OX:i1≠i3
 O1:i2≠i3
structure L3 (z TO i1 i2 i3 l:Addr):Prop where
 z:l≠z
 o:l≠TO
 i1:l≠i1
 i2:l≠i2
 i3:l≠i3
section
variable{E:Value->Shared->Prop}
def dS{a b c x:Value}{Q:Unit->Shared->Prop}(hT:bO s.heap T a b c)(h:∀h',h'.get? T=some { cls:=.type "tuple",data:=.seq ((#[a,b,c]:Array Value).setIfInBounds k x) }->YJ T s.heap h'->Q () { s with heap:=h' }):wpAny ↑11 A (updateSeq T (·.setIfInBounds k x)) Q E s:=by
 refine YI hT rfl (h _ ?_ (YV ..));rw[WL _ hT rfl];simp[Ym]
variable{b1 b2 b3:Bool}{z TI TO i1 i2 i3 l3:Addr}{k3:Nat}{xs zs:Array Value}{x y v a b c:Value}
def Co(D:Z3 z TI TO i1 i2 i3)(D1:L3 z TO i1 i2 i3 l1)(D2:L3 z TO i1 i2 i3 l2)(D3:L3 z TO i1 i2 i3 l3)(hz:IsZip s.heap z TI TO .none)(RU:bO s.heap TI (.ref i1) (.ref i2) (.ref i3))(RX:bO s.heap TO a b c)(h1:eZ s.heap b1 i1 l1 k1)(h2:eZ s.heap b2 i2 l2 k2)(h3:eZ s.heap b3 i3 l3 k3)(SE:gK s.heap b1 l1 xs)(SG:gK s.heap b2 l2 ys)(Ud:gK s.heap b3 l3 zs)(hx:xs[k1]?=some x)(hy:ys[k2]?=some y)(hv:zs[k3]?=some v)(hQ:∀h',IsZip h' z TI TO (rawInt s.heap.objs.size)->bO h' TO x y v->eZ h' b1 i1 l1 (k1+1)->eZ h' b2 i2 l2 (k2+1)->eZ h' b3 i3 l3 (k3+1)->bO h' s.heap.objs.size x y v->h'.objs.size=s.heap.objs.size+1 ->(∀c o,c≠z->c≠TO->c≠i1->c≠i2->c≠i3->s.heap.get? c=some o->h'.get? c=some o)->Q (.ref s.heap.objs.size) { s with heap:=h' }):wpAny ↑11 A (Builtin.«zip.__next__» ⟨[.ref z],[]⟩) (λfin s'=>∃v,fin=.done (.ret v)/\Q v s') E s:=by
 show wpAny _ _ (field (.ref z) 2 >>= _) _ _ _;refine VQ (Wz hz rfl (x:=.bool false) rfl ?_);show wpAny _ _ (field (.ref z) 3 >>= _) _ _ _;refine VQ (Wz hz rfl (x:=.ref TI) rfl ?_);refine VQ (WO RU rfl ?_);show wpAny _ _ (WI (.ref z) >>= _) _ _ _;refine VQ ?_;unfold WI;refine VQ (Wz hz rfl (x:=.none) rfl (VY ?_));simp only[if_true];refine VQ (ZY ?_);refine VQ (Wz hz rfl (x:=.ref TO) rfl ?_);refine VQ (WZ hz ↑13 λh₁ hz1 hs1=>?_)
 replace hz1:IsZip h₁ z TI TO .ellipsis:=hz1
 refine VQ ?_;simp only[ZZ,aaf,Zz,ZP];refine VQ (VQ (Yc ?_));show wpAny _ _ (Wj (.ref i1) >>= _) _ _ _;refine VQ (c_ (h1.at λo e=>hs1.extBut _ _ D.i1z e) (SE.at λo e=>hs1.extBut _ _ D1.z e) hx λh₂ h1₂ hs2=>VY ?_);have hTO2:bO h₂ TO a b c:=hs2.extBut _ _ D.TOi1 (hs1.extBut _ _ D.TOz RX);refine VQ (WO hTO2 rfl ?_);refine VQ (dS hTO2 λh₃ hTO3 hs3=>?_)
 replace hTO3:bO h₃ TO x b c:=hTO3
 refine VQ (X4 (VY ?_));have Ux:∀q o,q≠z->q≠TO->q≠i1->s.heap.get? q=some o->h₃.get? q=some o:=λq o c1 c2 c3 e=>hs3.extBut _ _ c2 (hs2.extBut _ _ c3 (hs1.extBut _ _ c1 e));refine VQ (VQ (Yc ?_));show wpAny _ _ (Wj (.ref i2) >>= _) _ _ _;refine VQ (c_ (h2.at λo e=>Ux _ o D.i2z D.TOi2.symm D.i12.symm e) (SG.at λo e=>Ux _ o D2.z D2.o D2.i1 e) hy λh₄ h2₄ hs4=>VY ?_);have hTO4:bO h₄ TO x b c:=hs4.extBut _ _ D.TOi2 hTO3;refine VQ (WO hTO4 rfl ?_);refine VQ (dS hTO4 λh₅ hTO5 hs5=>?_)
 replace hTO5:bO h₅ TO x y c:=hTO5
 refine VQ (X4 (VY ?_));have k5:∀q o,q≠z->q≠TO->q≠i1->q≠i2->s.heap.get? q=some o->h₅.get? q=some o:=λq o c1 c2 c3 c4 e=>hs5.extBut _ _ c2 (hs4.extBut _ _ c4 (Ux q o c1 c2 c3 e));refine VQ (VQ (Yc ?_));show wpAny _ _ (Wj (.ref i3) >>= _) _ _ _;refine VQ (c_ (h3.at λo e=>k5 _ o D.MT D.Ih.symm D.OX.symm D.O1.symm e) (Ud.at λo e=>k5 _ o D3.z D3.o D3.i1 D3.i2 e) hv λh₆ h3₆ hs6=>VY ?_);have hTO6:bO h₆ TO x y c:=hs6.extBut _ _ D.Ih hTO5;refine VQ (WO hTO6 rfl ?_);refine VQ (dS hTO6 λh₇ hTO7 hs7=>?_)
 replace hTO7:bO h₇ TO x y v:=hTO7
 refine VQ (X4 (VY (VY ?_)));refine VQ (WO hTO7 rfl ?_);refine VQ (wpAny_newTuple ?_);have hsz:h₇.objs.size=s.heap.objs.size:=by rw[hs7.1,hs6.1,hs5.1,hs4.1,hs3.1,hs2.1,hs1.1]
 have hz₃:IsZip h₃ z TI TO .ellipsis:=hs3.extBut _ _ D.TOz.symm (hs2.extBut _ _ D.i1z.symm hz1);have hz5:IsZip h₅ z TI TO .ellipsis:=hs5.extBut _ _ D.TOz.symm (hs4.extBut _ _ D.i2z.symm hz₃);have hz7:IsZip h₇ z TI TO .ellipsis:=hs7.extBut _ _ D.TOz.symm (hs6.extBut _ _ D.MT.symm hz5);have k7:∀q o,q≠z->q≠TO->q≠i1->q≠i2->q≠i3->s.heap.get? q=some o->h₇.get? q=some o:=λq o c1 c2 c3 c4 c5 e=>hs7.extBut _ _ c2 (hs6.extBut _ _ c5 (k5 q o c1 c2 c3 c4 e));have h1₇:eZ h₇ b1 i1 l1 (k1+1):=h1₂.at λo e=>hs7.extBut _ _ D.TOi1.symm (hs6.extBut _ _ D.OX (hs5.extBut _ _ D.TOi1.symm (hs4.extBut _ _ D.i12 (hs3.extBut _ _ D.TOi1.symm e))));have h2₇:eZ h₇ b2 i2 l2 (k2+1):=h2₄.at λo e=>hs7.extBut _ _ D.TOi2.symm (hs6.extBut _ _ D.O1 (hs5.extBut _ _ D.TOi2.symm e));have h3₇:eZ h₇ b3 i3 l3 (k3+1):=h3₆.at λo e=>hs7.extBut _ _ D.Ih.symm e;have Uj:z<h₇.objs.size:=V3 hz7;show wpAny _ _ (XE (.ref z) (.ref h₇.objs.size) >>= _) _ _ _;refine VQ ?_;unfold XE;have hz₈:IsZip (h₇.push { cls:=.type "tuple",data:=.seq #[x,y,v] }) z TI TO .ellipsis:=VR _ hz7;refine VQ (WZ hz₈ ↑13 λh₉ hz9 hs9=>?_)
 replace hz9:IsZip h₉ z TI TO (rawInt h₇.objs.size):=hz9
 refine WZ hz9 ↑13 λhA hzA hsA=>?_
 replace hzA:IsZip hA z TI TO (rawInt h₇.objs.size):=hzA
 have up:∀c o,c≠z->h₇.get? c=some o->hA.get? c=some o:=λc o c1 e=>hsA.extBut _ _ c1 (hs9.extBut _ _ c1 (VR _ e));have hTA:bO hA h₇.objs.size x y v:=hsA.extBut _ _ (XM Uj) (hs9.extBut _ _ (XM Uj) (V2 _ rfl));have VE:hA.objs.size=h₇.objs.size+1:=by rw[hsA.1,hs9.1,WN]
 rw[hsz] at hzA hTA VE;refine VY ⟨_,rfl,?_⟩;show Q (.ref h₇.objs.size) _;rw[hsz];exact hQ hA hzA (up _ _ D.TOz hTO7) (h1₇.at λo e=>up _ o D.i1z e) (h2₇.at λo e=>up _ o D.i2z e) (h3₇.at λo e=>up _ o D.MT e) hTA VE λc o c1 c2 c3 c4 c5 e=>up c o c1 (k7 c o c1 c2 c3 c4 c5 e)
def DN{Q:Fin->Shared->Prop}(hh:A.handled=none)(D:Z3 z TI TO i1 i2 i3)(D1:L3 z TO i1 i2 i3 l1)(D2:L3 z TO i1 i2 i3 l2)(D3:L3 z TO i1 i2 i3 l3)(hz:IsZip s.heap z TI TO .none)(RU:bO s.heap TI (.ref i1) (.ref i2) (.ref i3))(RX:bO s.heap TO a b c)(h1:eZ s.heap b1 i1 l1 k1)(h2:eZ s.heap b2 i2 l2 k2)(h3:eZ s.heap b3 i3 l3 k3)(SE:gK s.heap b1 l1 xs)(SG:gK s.heap b2 l2 ys)(Ud:gK s.heap b3 l3 zs)(SU:xs[k1]?=none\/ys[k2]?=none\/zs[k3]?=none)(hE:∀h' e,(∀c o,c≠z->c≠TO->c≠i1->c≠i2->c≠i3->s.heap.get? c=some o->h'.get? c=some o)->(∃o,h'.get? e=some o/\o.cls=.type "StopIteration")->E (.ref e) { s with heap:=h' }):wpAny ↑11 A (Builtin.«zip.__next__» ⟨[.ref z],[]⟩) Q E s:=by
 show wpAny _ _ (field (.ref z) 2 >>= _) _ _ _;refine VQ (Wz hz rfl (x:=.bool false) rfl ?_);show wpAny _ _ (field (.ref z) 3 >>= _) _ _ _;refine VQ (Wz hz rfl (x:=.ref TI) rfl ?_);refine VQ (WO RU rfl ?_);show wpAny _ _ (WI (.ref z) >>= _) _ _ _;refine VQ ?_;unfold WI;refine VQ (Wz hz rfl (x:=.none) rfl (VY ?_));simp only[if_true];refine VQ (ZY ?_);refine VQ (Wz hz rfl (x:=.ref TO) rfl ?_);refine VQ (WZ hz ↑13 λh₁ hz1 hs1=>?_)
 replace hz1:IsZip h₁ z TI TO .ellipsis:=hz1
 refine VQ ?_;simp only[ZZ,aaf,Zz,ZP];refine VQ (VQ (Yc ?_));show wpAny _ _ (Wj (.ref i1) >>= _) _ _ _;cases hx:xs[k1]? with
 | none =>
  refine VQ (iF hh (h1.at λo e=>hs1.extBut _ _ D.i1z e) (SE.at λo e=>hs1.extBut _ _ D1.z e) hx λh₂ e hs2 he=>?_);obtain⟨oe,Su,TB⟩:=he;have hz2:IsZip h₂ z TI TO .ellipsis:=hs2 _ _ D.i1z.symm hz1;have UG:e≠z:=λx=>by subst x;rw[hz2] at Su;cases Su;simp at TB
  refine WZ hz2 ↑13 λh₃ _ hs3=>hE h₃ e (λc o c1 _ c3 _ _ x=>hs3.extBut _ _ c1 (hs2 _ _ c3 (hs1.extBut _ _ c1 x))) ⟨oe,hs3.extBut _ _ UG Su,TB⟩
 | some x =>
  refine VQ (c_ (h1.at λo e=>hs1.extBut _ _ D.i1z e) (SE.at λo e=>hs1.extBut _ _ D1.z e) hx λh₂ h1₂ hs2=>VY ?_);have hTO2:bO h₂ TO a b c:=hs2.extBut _ _ D.TOi1 (hs1.extBut _ _ D.TOz RX);refine VQ (WO hTO2 rfl ?_);refine VQ (dS hTO2 λh₃ hTO3 hs3=>?_)
  replace hTO3:bO h₃ TO x b c:=hTO3
  refine VQ (X4 (VY ?_));have Ux:∀q o,q≠z->q≠TO->q≠i1->s.heap.get? q=some o->h₃.get? q=some o:=λq o c1 c2 c3 e=>hs3.extBut _ _ c2 (hs2.extBut _ _ c3 (hs1.extBut _ _ c1 e));have hz₃:IsZip h₃ z TI TO .ellipsis:=hs3.extBut _ _ D.TOz.symm (hs2.extBut _ _ D.i1z.symm hz1);refine VQ (VQ (Yc ?_));show wpAny _ _ (Wj (.ref i2) >>= _) _ _ _;cases hy:ys[k2]? with
  | none =>
   refine VQ (iF hh (h2.at λo e=>Ux _ o D.i2z D.TOi2.symm D.i12.symm e) (SG.at λo e=>Ux _ o D2.z D2.o D2.i1 e) hy λh₄ e hs4 he=>?_);obtain⟨oe,Su,TB⟩:=he;have hz4:IsZip h₄ z TI TO .ellipsis:=hs4 _ _ D.i2z.symm hz₃;have UG:e≠z:=λx=>by subst x;rw[hz4] at Su;cases Su;simp at TB
   refine WZ hz4 ↑13 λh₅ _ hs5=>hE h₅ e (λc o c1 c2 c3 c4 _ x=>hs5.extBut _ _ c1 (hs4 _ _ c4 (Ux c o c1 c2 c3 x))) ⟨oe,hs5.extBut _ _ UG Su,TB⟩
  | some y =>
   have hv:zs[k3]?=none:=by
    rcases SU with h|h|h
    .rw[hx] at h;cases h
    .rw[hy] at h;cases h
    .exact h
   refine VQ (c_ (h2.at λo e=>Ux _ o D.i2z D.TOi2.symm D.i12.symm e) (SG.at λo e=>Ux _ o D2.z D2.o D2.i1 e) hy λh₄ h2₄ hs4=>VY ?_);have hTO4:bO h₄ TO x b c:=hs4.extBut _ _ D.TOi2 hTO3;refine VQ (WO hTO4 rfl ?_);refine VQ (dS hTO4 λh₅ hTO5 hs5=>?_);refine VQ (X4 (VY ?_));have k5:∀q o,q≠z->q≠TO->q≠i1->q≠i2->s.heap.get? q=some o->h₅.get? q=some o:=λq o c1 c2 c3 c4 e=>hs5.extBut _ _ c2 (hs4.extBut _ _ c4 (Ux q o c1 c2 c3 e));have hz5:IsZip h₅ z TI TO .ellipsis:=hs5.extBut _ _ D.TOz.symm (hs4.extBut _ _ D.i2z.symm hz₃);refine VQ (VQ (Yc ?_));show wpAny _ _ (Wj (.ref i3) >>= _) _ _ _;refine VQ (iF hh (h3.at λo e=>k5 _ o D.MT D.Ih.symm D.OX.symm D.O1.symm e) (Ud.at λo e=>k5 _ o D3.z D3.o D3.i1 D3.i2 e) hv λh₆ e hs6 he=>?_);obtain⟨oe,Su,TB⟩:=he;have hz6:IsZip h₆ z TI TO .ellipsis:=hs6 _ _ D.MT.symm hz5;have UG:e≠z:=λx=>by subst x;rw[hz6] at Su;cases Su;simp at TB
   refine WZ hz6 ↑13 λh₇ _ hs7=>hE h₇ e (λc o c1 c2 c3 c4 c5 x=>hs7.extBut _ _ c1 (hs6 _ _ c5 (k5 c o c1 c2 c3 c4 x))) ⟨oe,hs7.extBut _ _ UG Su,TB⟩
end
section
variable{E:Value->Shared->Prop}
variable{b1 b2 b3:Bool}{z TI TO i1 i2 i3 l3:Addr}{k3:Nat}{xs zs:Array Value}{x y v a b c:Value}
def oQ{Q:Option Value->Shared->Prop}(D:Z3 z TI TO i1 i2 i3)(D1:L3 z TO i1 i2 i3 l1)(D2:L3 z TO i1 i2 i3 l2)(D3:L3 z TO i1 i2 i3 l3)(hz:IsZip s.heap z TI TO .none)(RU:bO s.heap TI (.ref i1) (.ref i2) (.ref i3))(RX:bO s.heap TO a b c)(h1:eZ s.heap b1 i1 l1 k1)(h2:eZ s.heap b2 i2 l2 k2)(h3:eZ s.heap b3 i3 l3 k3)(SE:gK s.heap b1 l1 xs)(SG:gK s.heap b2 l2 ys)(Ud:gK s.heap b3 l3 zs)(hx:xs[k1]?=some x)(hy:ys[k2]?=some y)(hv:zs[k3]?=some v)(hQ:∀h',IsZip h' z TI TO (rawInt s.heap.objs.size)->bO h' TO x y v->eZ h' b1 i1 l1 (k1+1)->eZ h' b2 i2 l2 (k2+1)->eZ h' b3 i3 l3 (k3+1)->bO h' s.heap.objs.size x y v->h'.objs.size=s.heap.objs.size+1 ->(∀c o,c≠z->c≠TO->c≠i1->c≠i2->c≠i3->s.heap.get? c=some o->h'.get? c=some o)->Q (some (.ref s.heap.objs.size)) { s with heap:=h' }):wpAny ↑11 A (pyNext (.ref z)) Q E s:=by
 have hT:s.TypeIs (.ref z) "zip" := ⟨_,hz,rfl⟩
 unfold pyNext;exact VQ (Yw (WQ (name:=WG "__next__") hT F.slot_zip_next
  (Xg F.slot_zip_next hT F.entry_zip_next
   (Co D D1 D2 D3 hz RU RX h1 h2 h3 SE SG Ud hx hy hv λh' a1 a2 a3 a4 a5 a6 a7 a8=>VY (hQ h' a1 a2 a3 a4 a5 a6 a7 a8)) (F.args_zip_next_1 _))))
def pX{Q:Option Value->Shared->Prop}(hh:A.handled=none)(D:Z3 z TI TO i1 i2 i3)(D1:L3 z TO i1 i2 i3 l1)(D2:L3 z TO i1 i2 i3 l2)(D3:L3 z TO i1 i2 i3 l3)(hz:IsZip s.heap z TI TO .none)(RU:bO s.heap TI (.ref i1) (.ref i2) (.ref i3))(RX:bO s.heap TO a b c)(h1:eZ s.heap b1 i1 l1 k1)(h2:eZ s.heap b2 i2 l2 k2)(h3:eZ s.heap b3 i3 l3 k3)(SE:gK s.heap b1 l1 xs)(SG:gK s.heap b2 l2 ys)(Ud:gK s.heap b3 l3 zs)(SU:xs[k1]?=none\/ys[k2]?=none\/zs[k3]?=none)(hQ:∀h',(∀c o,c≠z->c≠TO->c≠i1->c≠i2->c≠i3->s.heap.get? c=some o->h'.get? c=some o)->Q none { s with heap:=h' }):wpAny ↑11 A (pyNext (.ref z)) Q E s:=by
 have hT:s.TypeIs (.ref z) "zip" := ⟨_,hz,rfl⟩
 unfold pyNext;refine VQ (Yw (WQ (name:=WG "__next__") hT F.slot_zip_next
  (Xg F.slot_zip_next hT F.entry_zip_next (DN hh D D1 D2 D3 hz RU RX h1 h2 h3 SE SG Ud SU λh' e hk he=>?_) (F.args_zip_next_1 _))))
 obtain⟨o,ho,hc⟩:=he;refine VQ (Zj (T := "StopIteration") (b:=true) ⟨o,ho,hc⟩ aaM ?_);exact VY (hQ _ hk)
end
abbrev OA(h:Heap)(b1 b2 b3:Bool)(l1 l2 l3:Addr):Heap:=(Jb h b1 b2 l1 l2).push (IE b3 l3)
abbrev Ov(h:Heap)(b1 b2 b3:Bool)(l1 l2 l3:Addr):Heap:=(OA h b1 b2 b3 l1 l2 l3).push { cls:=.type "tuple",data:=.seq #[.ref h.objs.size,.ref (LO h b1 l1).objs.size,.ref (Jb h b1 b2 l1 l2).objs.size] }
abbrev Oq(h:Heap)(b1 b2 b3:Bool)(l1 l2 l3:Addr):Heap:=(Ov h b1 b2 b3 l1 l2 l3).push { cls:=.type "tuple",data:=.seq #[.none,.none,.none] }
abbrev Mb(h:Heap)(b1 b2 b3:Bool)(l1 l2 l3:Addr):Heap:=(Oq h b1 b2 b3 l1 l2 l3).push { cls:=.type "zip",data:=.fields #[.none,.bool false,.bool false,.ref (OA h b1 b2 b3 l1 l2 l3).objs.size,.ref (Ov h b1 b2 b3 l1 l2 l3).objs.size] }
def qG(b1 b2 b3:Bool)(l1 l2 l3:Addr)(xs ys zs:Array Value):Meets (Builtin.«zip.__new__» ⟨[.type "zip",.ref l1,.ref l2,.ref l3],[]⟩) (λ_ R s=>gK s.heap b1 l1 xs/\gK s.heap b2 l2 ys/\gK s.heap b3 l3 zs ∧R (.ok (.ret (.ref (Oq s.heap b1 b2 b3 l1 l2 l3).objs.size))) { s with heap:=Mb s.heap b1 b2 b3 l1 l2 l3 }) :=
 .of_wp λprog w A R s h=>by
  obtain⟨hp,g,d,tk,os⟩:=s;obtain⟨SE,SG,Ud,h⟩:=h;have VC:=sub_zip;have hL1:gK (aaa ⟨hp,g,d,tk,os⟩) b1 l1 xs:=SE;have hL2:gK (aaa ⟨hp.push (IE b1 l1),g,d,tk,os⟩) b2 l2 ys:=gK.push SG _;have hL3:gK (aaa ⟨(hp.push (IE b1 l1)).push (IE b2 l2),g,d,tk,os⟩) b3 l3 zs:=gK.push (gK.push Ud _) _
  wp_walk using gI hL1,gI hL2,gI hL3
  exact⟨_,rfl,h⟩
section
variable{E:Value->Shared->Prop}
def Cb{b1 b2 b3:Bool}{l3:Addr}{xs zs:Array Value}(SE:gK s.heap b1 l1 xs)(SG:gK s.heap b2 l2 ys)(Ud:gK s.heap b3 l3 zs)(h:∀h',IsZip h' (s.heap.objs.size+5) (s.heap.objs.size+3) (s.heap.objs.size+4) .none->bO h' (s.heap.objs.size+3) (.ref s.heap.objs.size) (.ref (s.heap.objs.size+1)) (.ref (s.heap.objs.size+2)) ->bO h' (s.heap.objs.size+4) .none .none .none->eZ h' b1 s.heap.objs.size l1 0->eZ h' b2 (s.heap.objs.size+1) l2 0->eZ h' b3 (s.heap.objs.size+2) l3 0 ->(∀c o,s.heap.get? c=some o->h'.get? c=some o)->Q (.ref (s.heap.objs.size+5)) { s with heap:=h' }):wpAny ↑11 A (call (.type "zip") [.ref l1,.ref l2,.ref l3]) Q E s:=by
 refine acQ F.called_zip ↑12 (rf _ _ _) (t7 _ _ _) (λobj=>F.initArgs_range_3 obj _ _ _) F.entry_zip_new
  (qG b1 b2 b3 l1 l2 l3 xs ys zs) ⟨SE,SG,Ud,?_⟩
 have z1:(LO s.heap b1 l1).objs.size=s.heap.objs.size+1:=WN ..;have z2:(Jb s.heap b1 b2 l1 l2).objs.size=s.heap.objs.size+2:=by rw[WN,z1]
 have z3:(OA s.heap b1 b2 b3 l1 l2 l3).objs.size=s.heap.objs.size+3:=by rw[WN,z2]
 have z4:(Ov s.heap b1 b2 b3 l1 l2 l3).objs.size=s.heap.objs.size+4:=by rw[WN,z3]
 have z5:(Oq s.heap b1 b2 b3 l1 l2 l3).objs.size=s.heap.objs.size+5:=by rw[WN,z4]
 have g6:(Mb s.heap b1 b2 b3 l1 l2 l3).get? (Oq s.heap b1 b2 b3 l1 l2 l3).objs.size=some _:=V2 _ rfl;have g5:(Mb s.heap b1 b2 b3 l1 l2 l3).get? (Ov s.heap b1 b2 b3 l1 l2 l3).objs.size=some _:=VR _ (V2 _ rfl);have g4:(Mb s.heap b1 b2 b3 l1 l2 l3).get? (OA s.heap b1 b2 b3 l1 l2 l3).objs.size=some _:=VR _ (VR _ (V2 _ rfl));have g3:(Mb s.heap b1 b2 b3 l1 l2 l3).get? (Jb s.heap b1 b2 l1 l2).objs.size=some _:=VR _ (VR _ (VR _ (V2 _ rfl)));have g2:(Mb s.heap b1 b2 b3 l1 l2 l3).get? (LO s.heap b1 l1).objs.size=some _:=VR _ (VR _ (VR _ (VR _ (V2 _ rfl))));have g1:(Mb s.heap b1 b2 b3 l1 l2 l3).get? s.heap.objs.size=some _:=VR _ (VR _ (VR _ (VR _ (VR _ (V2 _ rfl)))));show _/\_;rw[z3,z4,z5] at g6;rw[z1,z2,z3] at g4;rw[z4] at g5;rw[z2] at g3;rw[z1] at g2;rw[z5];exact⟨⟨_,g6,rfl⟩,h _ g6 g4 g5 (eZ.new _ b1 _ _ g1) (eZ.new _ b2 _ _ g2) (eZ.new _ b3 _ _ g3) λc o x =>
  VR _ (VR _ (VR _ (VR _ (VR _ (VR _ x)))))⟩
end
def O5 (K : VU)(b1 b2 b3 : Bool)(a1 a2 a3 : Addr) : It :=
  ⟨λi H => ∃xs ys zs x y v,lE K H b1 a1 xs /\ lE K H b2 a2 ys /\ lE K H b3 a3 zs /\ xs[i]? = some x /\ ys[i]? = some y /\ zs[i]? = some v,
   λi H r H' => ∃p x y v,H p=none /\ r=.ref p /\ H'=upd H p (.tup [x,y,v]) /\ (∀xs,lE K H b1 a1 xs -> xs[i]? = some x) /\ (∀ys,lE K H b2 a2 ys -> ys[i]? = some y) /\ (∀zs,lE K H b3 a3 zs -> zs[i]? = some v),
   λi H => ∃xs ys zs,lE K H b1 a1 xs /\ lE K H b2 a2 ys /\ lE K H b3 a3 zs /\ (xs.length <= i \/ ys.length <= i \/ zs.length <= i)⟩
def uE{z TI TO i1 i2 i3:Addr}{xs:List V}(I:Inv X Q6 σ H s)(h:lE X.K H b a xs)(hf:∀b∈[z,TO,i1,i2,i3,TI],lQ X Q6 H b):L3 z TO i1 i2 i3 a :=
 ⟨cM I h (hf z ↑13),cM I h (hf TO ↑13),cM I h (hf i1 ↑13),cM I h (hf i2 ↑13),cM I h (hf i3 ↑13)⟩
theorem A4{K:VU}{tp:Pos}(b1 b2 b3:Bool)(a1 a2 a3 z TI TO i1 i2 i3:Addr)(D:Z3 z TI TO i1 i2 i3):Turn P w K (.Tuple elts x1 tp) (O5 K b1 b2 b3 a1 a2 a3) [z,TO,i1,i2,i3,TI] z (λi h=>IsZip h z TI TO .none/\bO h TI (.ref i1) (.ref i2) (.ref i3)/\(∃a b c,bO h TO a b c)/\eZ h b1 i1 a1 i/\eZ h b2 i2 a2 i/\eZ h b3 i3 a3 i) where
 mem:=by simp
 obj:=λi h st b hb=>by
  obtain⟨hz,RU,⟨a,c,d,RX⟩,h1,h2,h3⟩:=st;simp only[Wd,Xh,or_false] at hb;rcases hb with q|q|q|q|q|q<;>subst q
  .exact⟨_,hz,λv z=>by cases z⟩
  .exact⟨_,RX,λv z=>by cases z⟩
  .obtain⟨o,vs,e,d⟩:=h1.obj;exact⟨o,e,λv z=>by rw[d] at z;cases z⟩
  .obtain⟨o,vs,e,d⟩:=h2.obj;exact⟨o,e,λv z=>by rw[d] at z;cases z⟩
  .obtain⟨o,vs,e,d⟩:=h3.obj;exact⟨o,e,λv z=>by rw[d] at z;cases z⟩
  .exact⟨_,RU,λv z=>by cases z⟩
 keep:=λi h h' st k=>by
  obtain⟨hz,RU,⟨a,c,d,RX⟩,h1,h2,h3⟩:=st;exact⟨k z ↑13 _ hz,k TI ↑13 _ RU,⟨a,c,d,k TO ↑13 _ RX⟩,h1.at λo e=>k i1 ↑13 o e,h2.at λo e=>k i2 ↑13 o e,h3.at λo e=>k i3 ↑13 o e⟩
 item:=by
  intro X hP hw hK hc i Q6 s σ H E I hf st hg;subst hP hw hK;obtain⟨xs,ys,zs,x,y,v,RV,RO,Tr,hx,hy,hv⟩:=hg;obtain⟨Uk,UM,p1,Vd⟩:=I.row RV;obtain⟨SI,UN,p2,VD⟩:=I.row RO;obtain⟨VF,rv3,p3,hz3'⟩:=I.row Tr;obtain⟨u1,hu1,ru1⟩:=UM.get hx;obtain⟨u2,hu2,ru2⟩:=UN.get hy;obtain⟨u3,hu3,ru3⟩:=rv3.get hv;obtain⟨hz,RU,⟨a,c,d,RX⟩,h1,h2,h3⟩:=st;obtain⟨oi1,vs1,Vk,di1⟩:=h1.obj;obtain⟨oi2,vs2,Vl,di2⟩:=h2.obj;obtain⟨oi3,vs3,ei3,di3⟩:=h3.obj;refine oQ D (uE I RV hf) (uE I RO hf) (uE I Tr hf) hz RU RX h1 h2 h3 p1 p2 p3 (x:=u1) (y:=u2) (v:=u3) (by simpa using hu1) (by simpa using hu2) (by simpa using hu3) λh' g1 g2 g3 g4 g4' g5 g6 g7=>⟨_,rfl,?_⟩
  refine aaW (s:={ s with heap:=h' }) g1 λhN hz3 TK=>?_;have SH:H s.heap.objs.size=none:=I.bA.fresh (VX _);have lt:∀{c:Addr}{o:Obj},s.heap.get? c=some o->c≠s.heap.objs.size:=λe=>V_ (V3 e);have Um:∀b o,b ∉ [z,TO,i1,i2,i3,TI]->s.heap.get? b=some o->hN.get? b=some o:=λb o hb q=>by
   simp only[Wd,Xh,or_false,not_or] at hb;exact(TK.2 b hb.1).trans (g7 b o hb.1 hb.2.1 hb.2.2.1 hb.2.2.2.1 hb.2.2.2.2.1 q)
  have hT3:hN.get? s.heap.objs.size=some { cls:=.type "tuple",data:=.seq #[u1,u2,u3] }:=(TK.2 _ (lt hz).symm).trans g5;have I3:Inv X Q6 σ (upd H s.heap.objs.size (.tup [x,y,v])) { s with heap:=hN,toks:=s.toks } :=
   I.lG (ch:=[z,TO,i1,i2,i3,TI]) Um hf (VX _) (λb hb=>by
    simp only[Wd,Xh,or_false] at hb;rcases hb with q|q|q|q|q|q<;>subst q
    .exact⟨_,hz⟩
    .exact⟨_,RX⟩
    .exact⟨_,Vk⟩
    .exact⟨_,Vl⟩
    .exact⟨_,ei3⟩
    .exact⟨_,RU⟩)
    ⟨by show 3<=sizeLine;decide,[u1,u2,u3],.cons ru1 (.cons ru2 (.cons ru3 .nil)),⟨_,hT3,rfl,_,rfl⟩⟩
  refine⟨.ref s.heap.objs.size,_,I3,rfl,⟨_,x,y,v,SH,rfl,rfl,λzs' UK=>by rwa[I.mU UK RV],λzs' UK=>by rwa[I.mU UK RO],λzs' UK=>by rwa[I.mU UK Tr]⟩,
   ⟨hz3,(TK.2 TI D.TIz).trans (g7 TI _ D.TIz D.TITO D.TIi1 D.TIi2 D.Qh RU),⟨_,_,_,(TK.2 TO D.TOz).trans g2⟩,g3.at λo e=>(TK.2 i1 D.i1z).trans e,g4.at λo e=>(TK.2 i2 D.i2z).trans e,g4'.at λo e=>(TK.2 i3 D.MT).trans e⟩,λb hb=>?_⟩
  have nb:b≠s.heap.objs.size:=by
   simp only[Wd,Xh,or_false] at hb;rcases hb with q|q|q|q|q|q<;>subst q
   .exact lt hz
   .exact lt RX
   .exact lt Vk
   .exact lt Vl
   .exact lt ei3
   .exact lt RU
  rw[au nb];exact(hf b hb).1
 done:=by
  intro X hP hw hK hc i Q6 s σ H E I hf st hg;subst hP hw hK;obtain⟨xs,ys,zs,RV,RO,Tr,SU⟩:=hg;obtain⟨Uk,UM,p1,Vd⟩:=I.row RV;obtain⟨SI,UN,p2,VD⟩:=I.row RO;obtain⟨VF,rv3,p3,hz3'⟩:=I.row Tr;obtain⟨hz,RU,⟨a,c,d,RX⟩,h1,h2,h3⟩:=st;have l1:=UM.length;have l2:=UN.length;have l3:=rv3.length;refine pX (I.ok.hd hc) D (uE I RV hf) (uE I RO hf) (uE I Tr hf) hz RU RX h1 h2 h3 p1 p2 p3 ?_ λh' k=>⟨rfl,?_⟩
  .rcases SU with q|q|q
   .exact .inl (by simp;lia)
   .exact .inr (.inl (by simp;lia))
   .exact .inr (.inr (by simp;lia))
  .exact I.Ap (t':=s.toks) (ch:=[z,TO,i1,i2,i3,TI]) (λb u hb e=>by
    simp only[Wd,Xh,or_false,not_or] at hb;exact k b u hb.1 hb.2.1 hb.2.2.1 hb.2.2.2.1 hb.2.2.2.2.1 e) hf
 self:=λ_ _ _ _ _ st h=>by
  obtain⟨hz,_⟩:=st;exact Z0 hz h
theorem Hi(n:Nat):Z3 (n+5) (n+3) (n+4) n (n+1) (n+2):=by
 refine⟨?_,?_,?_,?_,?_,?_,?_,?_,?_,?_,?_,?_,?_,?_,?_⟩<;>(show @Ne Nat _ _;lia)
def Jm(K:VU)(tl:TA):TI:=fun σ H R=>tl σ H λvs H1=>∃b1 b2 b3 a1 a2 a3,vs=[.ref a1,.ref a2,.ref a3]/\(∃xs,lE K H1 b1 a1 xs)/\(∃ys,lE K H1 b2 a2 ys)/\(∃zs,lE K H1 b3 a3 zs)/\R (O5 K b1 b2 b3 a1 a2 a3) H1
def vN{tp:Pos}{l1 l2 l3:Expr}{p pos:Pos}(hg:Gl X "zip")(hm:X.mg "zip"=none)(hl:PA X [l1,l2,l3] tl)(hs:autoParam (starEach [l1,l2,l3] X.env=[(false,eval l1 X.env),(false,eval l2 X.env),(false,eval l3 X.env)]) aR._auto_1)(Sw:autoParam (starEach [l2,l3] X.env=[(false,eval l2 X.env),(false,eval l3 X.env)]) aR._auto_1):PI X (.Tuple elts x1 tp) (.Call (.Name "zip" p) [l1,l2,l3] [] pos) (Jm X.K tl):=by
 intro Q6 s σ H R I h;refine Call_ (jK I hg hm abN (Xb (cv (hl pos Q6 s σ H _ I h) λus s1 ⟨vs,H1,I1,r1,q1⟩=>?_) (by rw[hs,Sw]) (by rw[Sw];rfl)));obtain⟨b1,b2,b3,a1,a2,a3,e,⟨xs,RV⟩,⟨ys,RO⟩,⟨zs,Tr⟩,q⟩:=q1;subst e;cases r1 with
 | cons r rr =>
  cases rr with
  | cons r' rr =>
   cases rr with
   | cons VM rr =>
    cases rr;cases (show _=V4 a1 from r);cases (show _=V4 a2 from r');cases (show _=V4 a3 from VM);obtain⟨Uk,UM,p1,Vd⟩:=I1.row RV;obtain⟨SI,UN,p2,VD⟩:=I1.row RO;obtain⟨VF,rv3,p3,hz3⟩:=I1.row Tr;refine Cb p1 p2 p3 λh' g1 g2 g3 g4 g5 g6 g7=>?_;have I2:Inv X Q6 σ H1 { s1 with heap:=h' }:=I1.kept (t':=s1.toks) g7;refine Z0 (s:={ s1 with heap:=h' }) g1 ?_;refine⟨s1.heap.objs.size+5,[s1.heap.objs.size+5,s1.heap.objs.size+4,s1.heap.objs.size,s1.heap.objs.size+1,s1.heap.objs.size+2,s1.heap.objs.size+3],_,_,H1,rfl,I2,
     A4 b1 b2 b3 a1 a2 a3 _ _ _ _ _ _ (Hi s1.heap.objs.size),⟨g1,g2,⟨_,_,_,g3⟩,g4,g5,g6⟩,λb hb=>?_,q⟩
    have hle:s1.heap.objs.size<=b:=by
     simp only[Wd,Xh,or_false] at hb;rcases hb with q|q|q|q|q|q
     .rw[q];exact XT _ 5
     .rw[q];exact XT _ 4
     .rw[q];exact VX _
     .rw[q];exact XT _ 1
     .rw[q];exact XT _ 2
     .rw[q];exact XT _ 3
    exact I1.rD hle (I1.bA.fresh hle)
variable{oe:Obj}{outer:List Env}
variable{to:Option Addr}
section
variable{M:Model}{E:Value->Shared->Prop}
def uF{env:Env}{L e:Addr}{vs:Array Value}{head:Value}{UC:Bool}{Q:Unit->Shared->Prop}
  (Uc:A.frames=some (env::outer)) (hl:s.heap.FunFrames base (env::outer)) (hf:env.frame=some L)
  (he:s.heap.get? e=some oe) (hd:oe.data=.fields vs) (hsz:1<vs.size)
  (h:∀h' T oT ts,h'.get? e=some (XX (·.setIfInBounds 1 (.ref T)) oe)->s.heap.objs.size<=T->T≠e->h'.get? T=some oT->oT.data=.fields ts->ts[3]?=some (rawInt L) ->
   (∀b o,b≠e->b ∉ yG (env::outer)->s.heap.get? b=some o->h'.get? b=some o)->(∀b o,b≠e->s.heap.get? b=some o->∃sl,h'.get? b=some { o with slots:=sl })->Q () { s with heap:=h' }) :
  wpAny M A (do let a <- frameOf env;let pl <- entryPlaceOf L UC;let b <- acd head a .none (rawInt L) .none pl;setField (.ref e) 1 b) Q E s:=by
 have hene:e ∉ (env::outer).filterMap (·.frame):=λhm=>by
  obtain⟨_,o,ho,VA⟩:=hl.mem hm;rw[he] at ho;injection ho with ho;subst ho;exact VA vs hd
 refine VQ (wpAny_frameOf_fun Uc hl hf λh₁ hs1=>?_);refine VQ (wpAny_entryPlaceOf λpl Rt=>?_);unfold acd newFields;refine VQ (Xa ?_ (Rt.sizeOk5 _ _ _ _ _));have he1:h₁.get? e=some oe:=(hs1.2.1 e hene).trans he;have he₂:=VR (h:=h₁) { cls:=.type "traceback",dict:=none,data:=.fields ([head,.ref L,.none,rawInt L,.none]++(if pl.isEmpty then VS 6 WK else pl)).toArray } he1;have hTe:h₁.objs.size≠e:=XM (V3 he1);have hd3:=XQ hd (·.setIfInBounds 1 (V4 h₁.objs.size));have he3:=WL (XX (·.setIfInBounds 1 (V4 h₁.objs.size))) he₂ (YE hd3);have hT₃:=(Wn (h₁.push { cls:=.type "traceback",dict:=none,data:=.fields ([head,.ref L,.none,rawInt L,.none]++(if pl.isEmpty then VS 6 WK else pl)).toArray })
  (XX (·.setIfInBounds 1 (V4 h₁.objs.size))) (Xs hTe)).trans (V2 h₁ rfl)
 have keep:∀b o,b≠e->h₁.get? b=some o ->
   ((h₁.push { cls:=.type "traceback",dict:=none,data:=.fields ([head,.ref L,.none,rawInt L,.none]++(if pl.isEmpty then VS 6 WK else pl)).toArray }).update e (XX (·.setIfInBounds 1 (V4 h₁.objs.size)))).get? b=some o:=λb o TQ hb=>by
  rw[Wn _ _ (Xs TQ)];exact VR _ hb
 refine YY he₂ hd hsz (h _ h₁.objs.size _ _ he3 ?_ hTe hT₃ rfl (by first|(simp;done)|(rcases Rt with rfl|⟨_,_,_,_,_,_,_,rfl⟩<;>simp)) ?_ ?_)
 .exact acE hs1.1.symm
 .intro b o TQ hbf hb;exact keep b o TQ ((hs1.2.1 b hbf).trans hb)
 .intro b o TQ hb;obtain⟨sl,hs⟩:=hs1.2.2 b o hb;exact⟨sl,keep b _ TQ hs⟩
def Lies(h:Heap)(e:Addr)(vs:Array Value)(to:Option Addr):Prop:=match to with
 | none=>vs[1]?=some .none
 |some T=>vs[1]?=some (.ref T)/\T≠e/\∃oT ts,h.get? T=some oT/\oT.data=.fields ts/\ts[3]?=some .none
def Bv{env:Env}{L e:Addr}{vs:Array Value}{Q:Unit->Shared->Prop}(Uc:A.frames=some (env::outer))(hl:s.heap.FunFrames base (env::outer))(hf:env.frame=some L)(he:s.heap.get? e=some oe)(hd:oe.data=.fields vs)(hto:Lies s.heap e vs to)(h:∀h' T oT ts,h'.get? e=some (XX (·.setIfInBounds 1 (.ref T)) oe)->s.heap.objs.size<=T->T≠e->h'.get? T=some oT->oT.data=.fields ts->ts[3]?=some (rawInt L) ->(∀b o,b≠e->(∀T,to=some T->b≠T)->b ∉ yG (env::outer)->s.heap.get? b=some o->h'.get? b=some o) ->(∀b o,b≠e->(∀T,to=some T->b≠T)->s.heap.get? b=some o->∃sl,h'.get? b=some { o with slots:=sl })->(∀b o,s.heap.get? b=some o->∃o',h'.get? b=some o')->Q () { s with heap:=h' }):wpAny M A (noteFrame (.ref e) env) Q E s:=by
 unfold noteFrame;simp only[hf];cases to with
 | none =>
  have h1:vs[1]?=some .none:=hto;refine VQ (Wz he hd h1 ?_);rw[if_neg ↑12];refine uF Uc hl hf he hd (Xu.mp h1).1 λh' T oT ts a1 a2 a3 a4 a5 a6 a7 a8=>?_;refine h h' T oT ts a1 a2 a3 a4 a5 a6 (λb o n1 _ n2 q=>a7 b o n1 n2 q) (λb o n1 _ q=>a8 b o n1 q) λb o q=>?_
  by_cases z:b=e
  .subst z;exact⟨_,a1⟩
  .obtain⟨sl,r⟩:=a8 b o z q;exact⟨_,r⟩
 | some T0 =>
  obtain⟨h1,hTe,oT,ts,hT,hdT,h3⟩:=hto;refine VQ (Wz he hd h1 ?_);rw[if_pos (show (V4 T0 != WK)=true from by simp)];refine VQ (Wz hT hdT h3 ?_);rw[if_neg (show ¬ ((WK==rawInt L)=true) from by simp[rawInt])];refine VQ (YY hT hdT (Xu.mp h3).1 ?_);have other:∀b,b≠T0->(s.heap.update T0 (XX (·.setIfInBounds 3 WK))).get? b=s.heap.get? b:=λb hb=>Wn _ _ (Xs hb);have Uq:∀b o,s.heap.get? b=some o->(∀vs,o.data≠.fields vs)->b≠T0:=λb o hb VA q=>by
   rw[q,hT] at hb;injection hb with hb;subst hb;exact VA ts hdT
  have UB:=WL (XX (·.setIfInBounds 3 WK)) hT (YE (XQ hdT _));refine uF Uc (hl.of_keeps λb o hb VA=>⟨o,(other b (Uq b o hb VA)).trans hb,rfl⟩) hf ((other e (Xs hTe)).trans he) hd (Xu.mp h1).1 λh' T oT' ts' a1 a2 a3 a4 a5 a6 a7 a8=>?_;refine h h' T oT' ts' a1 (by simpa [Heap.update] using a2) a3 a4 a5 a6 (λb o n1 n2 n3 q=>a7 b o n1 n3 ((other b (n2 T0 rfl)).trans q)) (λb o n1 n2 q=>a8 b o n1 ((other b (n2 T0 rfl)).trans q)) λb o q=>?_
  by_cases z:b=e
  .subst z;exact⟨_,a1⟩
  .by_cases z2:b=T0
   .subst z2;obtain⟨sl,r⟩:=a8 b _ z UB;exact⟨_,r⟩
   .obtain⟨sl,r⟩:=a8 b o z ((other b z2).trans q);exact⟨_,r⟩
end
def lW(C:Addr)(dd:Option Addr)(e:Addr):HO:=.ext λh=>∃t,h.get? e=some ⟨.ref C,dd,.fields #[.ref t,.none,.none,.none,.bool false,.none],#[]⟩
def Ng(C:Addr)(dd:Option Addr)(e T:Addr):HO:=.ext λh=>∃vs,h.get? e=some ⟨.ref C,dd,.fields vs,#[]⟩/\vs[1]?=some (.ref T)
def Qo(fl:Value)(T:Addr):HO:=.ext λh=>∃oT ts,h.get? T=some oT/\oT.data=.fields ts/\ts[3]?=some fl
def oH(Hc:Hp)(e T C:Addr)(dd:Option Addr)(fl:Value):Hp:=upd (upd Hc T (Qo fl T)) e (Ng C dd e T)
variable{fl:Value}{Hc:Hp}
def qw{e:Addr}:oH Hc e T C dd fl e=some (Ng C dd e T):=ay
def q_{e:Addr}(n:T≠e):oH Hc e T C dd fl T=some (Qo fl T):=by unfold oH;rw[au n,ay]
def j5{e b:Addr}(n:b≠e)(n2:b≠T):oH Hc e T C dd fl b=Hc b:=by unfold oH;rw[au n,au n2]
def Inv.note{e:Addr}{vs:Array Value}{φ:Heap->Prop}{Q:Unit->Shared->Prop}{E:Value->Shared->Prop}(I:Inv X Q6 σ H s)(RN:X.stack=X.env::X.outer)(hf:X.env.frame=some X.env.locals)(he:H e=some (.ext φ))(hx:s.heap.get? e=some ⟨.ref C,dd,.fields vs,#[]⟩)(lies:Lies s.heap e vs to)(hT:∀T,to=some T->(∃ψ,H T=some (.ext ψ))/\Hc T=none)(hc:∀b,b≠e->(∀T,to=some T->b≠T)->Hc b=H b)(h:∀h' T,Hc T=none->T≠e->Inv X Q6 σ (oH Hc e T C dd (rawInt X.env.locals)) { s with heap:=h' }->Q () { s with heap:=h' }):wpAny ↑8 X.A (noteFrame (.ref e) X.env) Q E s:=by
 have hl:=I.stack;have Uc:=I.ok.frames;have sf:=I.wH;rw[RN] at hl Uc sf;refine Bv (base:=X.base) Uc hl hf hx rfl lies λh' T oT ts a1 a2 a3 a4 a5 a6 a7 a8 a9=>?_;have hTn:H T=none:=I.bA.fresh a2;have nT:∀b u,H b=some u->b≠T:=λb u q z=>by rw[z,hTn] at q;cases q
 have T6:∀b u,H b=some u->(∀ψ,u≠.ext ψ)->b≠e/\∀T0,to=some T0->b≠T0:=by
  intro b u q hu;refine⟨λz=>?_,λT0 z w=>?_⟩
  .rw[z,he] at q;exact hu _ (V9 q).symm
  .obtain⟨⟨ψ,q2⟩,_⟩:=hT T0 z;rw[w,q2] at q;exact hu _ (V9 q).symm
 have old:∀b u,H b=some u->(∀ψ,u≠.ext ψ)->oH Hc e T C dd (rawInt X.env.locals) b=some u:=λb u q hu=>by
  obtain⟨n1,n2⟩:=T6 b u q hu;rwa[j5 n1 (nT b u q),hc b n1 n2]
 have hcT:Hc T=none:=by
  by_cases z:∃T0,to=some T0/\T=T0
  .obtain⟨T0,z1,z2⟩:=z;rw[z2];exact(hT T0 z1).2
  .rw[hc T a3 λT0 z1 z2=>z ⟨T0,z1,z2⟩];exact hTn
 have un:∀b o,s.heap.get? b=some o->H b=none->b≠e/\(∀T0,to=some T0->b≠T0)/\b≠T:=by
  intro b o q n;refine⟨λz=>?_,λT0 z w=>?_,V_ (V8 (V3 q) a2)⟩
  .rw[z,he] at n;cases n
  .obtain⟨⟨ψ,q2⟩,_⟩:=hT T0 z;rw[w,q2] at n;cases n
 refine h h' T hcT a3 ?_;have U:Un (yG X.stack) [] H (oH Hc e T C dd (rawInt X.env.locals)) s.heap h':=by
  rw[RN];refine⟨λb o q n nf _=>?_,λb o q n _ _=>?_,λb o q n _=>?_,λb o q _=>a9 b o q,λb xs q=>old b _ q (λ_ z=>nomatch z),λb ob u q=>old b _ q (λ_ z=>nomatch z),λb ps q=>⟨#[],?_⟩⟩
  .obtain⟨n1,n2,_⟩:=un b o q n;exact a7 b o n1 n2 nf q
  .obtain⟨n1,n2,_⟩:=un b o q n;exact a8 b o n1 n2 q
  .obtain⟨n1,n2,n3⟩:=un b o q n;rwa[j5 n1 n3,hc b n1 n2]
  .rw[old b _ q (λ_ z=>nomatch z)];simp
 have ok:lR X.prog X.w (oH Hc e T C dd (rawInt X.env.locals)) h':=λb u q=>by
  by_cases z:b=e
  .subst z;rw[qw] at q;cases q;refine⟨⟨_,a1,?_⟩,⟨_,a1⟩,λh1 h2 ⟨ws,q1,q2⟩ k=>⟨ws,k _ q1,q2⟩⟩;have hsz:1<vs.size:=by
    cases to with
    | none=>exact(Xu.mp (show vs[1]?=some .none from lies)).1
    | some T0=>exact(Xu.mp lies.1).1
   simp[hsz]
  .by_cases z2:b=T
   .subst z2;rw[q_ a3] at q;cases q;exact⟨⟨oT,ts,a4,a5,a6⟩,⟨_,a4⟩,λh1 h2 ⟨o1,t1,q1,q2,q3⟩ k=>⟨o1,t1,k _ q1,q2,q3⟩⟩
   .rw[j5 z z2] at q;have z3:∀T0,to=some T0->b≠T0:=λT0 w w2=>by rw[w2,(hT T0 w).2] at q;cases q
    rw[hc b z z3] at q;have nf:∀c u',H c=some u'->c ∉ yG (X.env::X.outer):=λc u' q' hm=>by have:=sf c hm;rw[q'] at this;cases this
    refine(I.bA b u q).n5 (λc v UD q'=>?_) (λc q'=>old c _ q' (λ_ z=>nomatch z)) λc xs q'=>old c _ q' (λ_ z=>nomatch z);rcases UD with rfl|UD
    .exact a7 c v z z3 (nf c u q) q'
    .obtain⟨n1,n2⟩:=T6 c _ UD (λ_ z=>nomatch z);exact a7 c v n1 n2 (nf c _ UD) q'
 exact I.call (ch:=[]) U ok I.bare (λb z=>absurd z ↑13)
def Inv.BW{e:Addr}(I:Inv X Q6 σ (oH Hc e T C dd fl) s)(n:T≠e):∃vs oT ts,s.heap.get? e=some ⟨.ref C,dd,.fields vs,#[]⟩/\vs[1]?=some (.ref T)/\s.heap.get? T=some oT/\oT.data=.fields ts/\ts[3]?=some fl:=by
 obtain⟨vs,h1,h2⟩:=(I.bA e _ qw).1;obtain⟨oT,ts,q⟩:=(I.bA T _ (q_ n)).1;exact⟨vs,oT,ts,h1,h2,q⟩
def Inv.Oi{e:Addr}{Q:Unit->Shared->Prop}{E:Value->Shared->Prop}(I:Inv X Q6 σ (oH Hc e T C dd fl) s)(hfl:fl=.none\/fl=rawInt X.env.locals)(n:T≠e)(hcT:Hc T=none)(RN:X.stack=X.env::X.outer)(hf:X.env.frame=some X.env.locals)(h:∀h' T,Hc T=none->T≠e->Inv X Q6 σ (oH Hc e T C dd (rawInt X.env.locals)) { s with heap:=h' }->Q () { s with heap:=h' }):wpAny ↑8 X.A (noteFrame (.ref e) X.env) Q E s:=by
 obtain⟨vs,oT,ts,hx,h1,hT,hd,h3⟩:=I.BW n;rcases hfl with rfl|rfl
 .refine I.note (Hc:=Hc) (to:=some T) RN hf qw hx ⟨h1,n,oT,ts,hT,hd,h3⟩ (λT0 z=>?_) (λb n1 n2=>(j5 n1 (n2 T rfl)).symm) h;cases z;exact⟨⟨_,q_ n⟩,hcT⟩
 .unfold noteFrame;simp only[hf];refine VQ (Wz hx rfl h1 ?_);rw[if_pos (show (V4 T != WK)=true from by simp)];refine VQ (Wz hT hd h3 ?_);rw[if_pos (show (rawInt X.env.locals==rawInt X.env.locals)=true from by simp)];exact VY (h s.heap T hcT n I)
def Inv.Nd{e:Addr}{Q:Unit->Shared->Prop}{E:Value->Shared->Prop}(I:Inv X Q6 σ H s)(he:H e=some (lW C dd e))(RN:X.stack=X.env::X.outer)(hf:X.env.frame=some X.env.locals)(h:∀h' T,upd H e (iW C dd e) T=none->T≠e->Inv X Q6 σ (oH (upd H e (iW C dd e)) e T C dd (rawInt X.env.locals)) { s with heap:=h' }->Q () { s with heap:=h' }):wpAny ↑8 X.A (noteFrame (.ref e) X.env) Q E s:=by
 obtain⟨t,hx⟩:=(I.bA e _ he).1;exact I.note (Hc:=upd H e (iW C dd e)) (to:=none) RN hf he hx rfl (λ_ z=>by cases z) (λb n1 _=>au n1) h
def Inv.sy{e:Addr}{fr:Option Addr}{Q:Unit->Shared->Prop}{E:Value->Shared->Prop}(I:Inv X Q6 σ (oH Hc e T C dd fl) s)(n:T≠e)(h:∀h',Inv X Q6 σ (oH Hc e T C dd (fr.elim .none λf=>rawInt f)) { s with heap:=h' }->Q () { s with heap:=h' }):wpAny ↑8 X.A (setFlight (.ref e) fr) Q E s:=by
 obtain⟨vs,oT,ts,hx,h1,hT,hd,h3⟩:=I.BW n;unfold setFlight;refine VQ (Wz hx rfl h1 ?_);rw[if_pos (show (V4 T != WK)=true from by simp)];have hsz:3<ts.size:=(Xu.mp h3).1;refine YY hT hd hsz (h _ ?_);have other:∀b,b≠T->(s.heap.update T (XX (·.setIfInBounds 3 (fr.elim WK λf=>rawInt f)))).get? b=s.heap.get? b:=λb hb=>Wn _ _ (Xs hb);have UB:=WL (XX (·.setIfInBounds 3 (fr.elim WK λf=>rawInt f))) hT (YE (XQ hd _));have nT:∀b,oH Hc e T C dd fl b=none->b≠T:=λb q z=>by rw[z,q_ n] at q;cases q
 have same:∀b,b≠T->oH Hc e T C dd (fr.elim .none λf=>rawInt f) b=oH Hc e T C dd fl b:=λb z=>by
  by_cases w:b=e
  .subst w;rw[qw,qw]
  .rw[j5 w z,j5 w z]
 have ne:∀b u,oH Hc e T C dd fl b=some u->(∀ψ,u≠.ext ψ)->b≠T:=λb u q hu z=>by rw[z,q_ n] at q;exact hu _ (V9 q).symm
 refine I.un (t':=s.toks) ⟨λb o q z _ _=>(other b (nT b z)).trans q,λb o q z _ _=>⟨o.slots,(other b (nT b z)).trans q⟩,λb o q z _=>by rwa[same b (nT b z)],λb o q _=>?_,λb xs q=>?_,λb ob u q=>?_,λb ps q=>⟨#[],?_⟩⟩ λb u q=>?_
 .by_cases z:b=T
  .subst z;exact⟨_,UB⟩
  .exact⟨o,(other b z).trans q⟩
 .rw[same b (ne b _ q λ_ z=>nomatch z)];exact q
 .rw[same b (ne b _ q λ_ z=>nomatch z)];exact q
 .rw[same b (ne b _ q λ_ z=>nomatch z),q];simp
 .by_cases z:b=T
  .subst z;rw[q_ n] at q;cases q;refine⟨⟨_,_,UB,XQ hd _,?_⟩,⟨_,UB⟩,λh1 h2 ⟨o1,t1,q1,q2,q3⟩ k=>⟨o1,t1,k _ q1,q2,q3⟩⟩;simp[hsz]
  .rw[same b z] at q;refine(I.bA b u q).n5 (λc v hc q'=>(other c ?_).trans q') (λc q'=>?_) λc xs q'=>?_
   .rcases hc with rfl|hc
    .exact z
    .exact ne c _ hc λ_ z=>nomatch z
   .rw[same c (ne c _ q' λ_ z=>nomatch z)];exact q'
   .rw[same c (ne c _ q' λ_ z=>nomatch z)];exact q'
def bX(P:Program)(w:World):MI:=λouter H s E e s'=>∃(ea T C:Addr)(dd:Option Addr)(Hc:Hp),e=.ref ea/\s'.os=s.os/\AllBare s'.gens/\Un (yG outer) [] H (oH Hc ea T C dd .none) s.heap s'.heap/\lR P w (oH Hc ea T C dd .none) s'.heap ∧
 Hc ea=some (iW C dd ea)/\Hc T=none/\T≠ea/\E (.ref ea) none Hc
def Zx (X : Cx)(E : St -> XK)(e : Value)(s : Shared) : Prop := ∃(ea C : Addr)(dd : Option Addr)(Q6 : List (Addr × Obj))(σ : St),e=.ref ea ∧
  ((∃H,Inv X Q6 σ H s /\ H ea=some (lW C dd ea) /\ E σ (.ref ea) none (upd H ea (iW C dd ea))) ∨
   (∃Hc T fl,Inv X Q6 σ (oH Hc ea T C dd fl) s /\ (fl=.none \/ fl=rawInt X.env.locals) /\ Hc ea=some (iW C dd ea) /\ Hc T=none /\ T ≠ ea /\ E σ (.ref ea) none Hc))
variable{E:St->XK}
def Zx.note{e:Value}{Q:Unit->Shared->Prop}{F:Value->Shared->Prop}(z:Zx X E e s)(RN:X.stack=X.env::X.outer)(hf:X.env.frame=some X.env.locals)(h:∀s' ea C dd Q6 σ Hc T,e=.ref ea->Inv X Q6 σ (oH Hc ea T C dd (rawInt X.env.locals)) s'->Hc ea=some (iW C dd ea)->Hc T=none->T≠ea->E σ (.ref ea) none Hc->Q () s'):wpAny ↑8 X.A (noteFrame e X.env) Q F s:=by
 obtain⟨ea,C,dd,Q6,σ,rfl,⟨H,I,h1,h2⟩|⟨Hc,T,fl,I,h1,h2,h3,h4,h5⟩⟩:=z
 .exact I.Nd h1 RN hf λh' T q1 q2 I2=>h _ ea C dd Q6 σ _ T rfl I2 ay q1 q2 h2
 .exact I.Oi h1 h4 h3 RN hf λh' T q1 q2 I2=>h _ ea C dd Q6 σ _ T rfl I2 h2 q1 q2 h5
def Zx.Mc{E:XK}{e:Value}{F:Value->Shared->Prop}(z:Zx X (λ_=>E) e s)(RN:X.stack=X.env::X.outer)(hf:X.env.frame=some X.env.locals)(hex:X.ex=[]):wpAny ↑8 X.A (leaving X.env e) (λ_ s'=>bX X.prog X.w X.outer X.H₀ X.s₀ E e s') F s:=by
 unfold leaving;refine VQ (z.note RN hf λs' ea C dd Q6 σ Hc T he I h1 h2 h3 h4=>?_);subst he;refine I.sy h3 λh' I2=>⟨ea,T,C,dd,Hc,rfl,I2.os,I2.bare,?_,I2.bA,h1,h2,h3,h4⟩
 have:=I2.base;rwa[hex] at this
def Zx.own(RN:X.stack=X.env::X.outer)(hf:X.env.frame=some X.env.locals):PassesOwn ↑8 X.A X.env (Zx X E):=by
 intro e s z;refine z.note RN hf λs' ea C dd Q6 σ Hc T he I h1 h2 h3 h4=>?_;subst he;obtain⟨vs,oT,ts,hx,q1,_⟩:=I.BW h3;show wpAny _ _ _ _ _ _;refine VQ (Wz hx rfl q1 ?_);rw[if_neg (show ¬ ((V4 T==WK)=true) from by simp)];rw[hf];refine I.sy h3 λh' I2=>⟨ea,C,dd,Q6,σ,rfl,.inr ⟨Hc,T,_,I2,.inr rfl,h1,h2,h3,h4⟩⟩
structure fk (X:Cx) (E:St->XK):Prop where
 pass:∀(Q6:List (Addr×Obj))(σ:St)(H:Hp)(s:Shared)(e:Value)(s':Shared),Inv X Q6 σ H s->bX X.prog X.w X.stack H s (E σ) e s'->X.xe e s'
 new:∀(Q6:List (Addr×Obj))(σ:St)(H:Hp)(s:Shared)(e C:Addr)(dd:Option Addr),Inv X Q6 σ H s->H e=some (lW C dd e)->E σ (.ref e) none (upd H e (iW C dd e))->X.xe (.ref e) s
 own:PassesOwn ↑8 X.A X.env X.xe
abbrev Cx.out(X:Cx)(E:St->XK):Cx:=X.rJ (Zx X E)
def ED(RN:X.stack=X.env::X.outer)(hf:X.env.frame=some X.env.locals):fk (X.out E) E where
 pass:=by
  intro Q6 σ H s e s' I h;obtain⟨ea,T,C,dd,Hc,rfl,os,bare,un,bA,h1,h2,h3,hE⟩:=h;have I':=I.e7.EU (ch:=[]) os un bA bare (λb z=>absurd z ↑13);exact⟨ea,C,dd,Q6,σ,rfl,.inr ⟨Hc,T,.none,I',.inl rfl,h1,h2,h3,hE⟩⟩
 new:=λQ6 σ H s e C dd I he hE=>⟨e,C,dd,Q6,σ,rfl,.inl ⟨H,I.e7,he,hE⟩⟩
 own:=Zx.own RN hf
variable{N:List Str}{Ur:Array (Option Value)}{od:Option Addr}{body:List Stmt}{params:Arguments}
def zQ{K:VU}{dV kV doc pm Rw ct oc:Value}{an:Option Addr}(lk:K.lookup f=some ⟨oc,od,.func (Xr name qual params body scope dV kV doc pm an Rw ct),Ur⟩)(R3:Yd K Rw qual=true)(S:cS N ps scope)(len:∀vs H Q E,sp vs H Q E->vs.length=ps.length)(T9:∀(A:Around)(outer:List Env)(s:Shared)(H:Hp)(vs:List V)(Q:VK)(E:XK),cp k (A.deeper (envOfC qual scope s.heap.objs.size f Rw))->sp vs H Q E ->∃t,lA ((mR (bX P w) P w K mg base N qual scope f Rw A outer s H E).out λ_=>E) body t/\t { nx:=λ_ H'=>Q .c6 H',rt:=Q } (start N vs) H):aT P w K mg base (bX P w) (k+1) f (Xr name qual params body scope dV kV doc pm an Rw ct) ps sp:=by
 refine M3 lk R3 S len λA outer s H vs Q E hr hs=>?_;obtain⟨t,h1,h2⟩:=T9 A outer s H vs Q E hr hs;refine⟨t,λQ6 s1 σ H1 D I q=>?_,h2⟩;refine XO (h1 Q6 s1 σ H1 D (I.rJ _) q) (λf s' z=>z.e7) λe s' z=>?_;exact z.Mc rfl rfl rfl
variable{pos':Pos}
section
open PySem.Builtin.ObjectAttr (storeInOwnDict storeTaker? setByDescriptor)
def vt{e t:Addr}(he:h.get? e=some ⟨.ref C,dd,.fields #[.ref t,.none,.none,.none,.bool false,.none],#[]⟩):bD P w H h e (lW C dd e) :=
 ⟨⟨t,he⟩,⟨_,he⟩,λ_ _ ⟨t,q⟩ k=>⟨t,k _ q⟩⟩
section
variable{p pos:Pos}{t:TA}
def Nm(C:Addr)(t:TA):TE:=fun σ H Q=>t σ H λvs H1=>vs.length<=sizeLine/\∀a,H1 a=none->Q (.ref a) (upd H1 a (lW C none a))
def Ie(hc:Z6 X.K C fW "ValueError.__new__"=true)(kp:W8 X.K (.ref C)=true)(hg:Gl X x)(hm:X.mg x=some (.ref C))(ha:PA X (e::es) t)(Sb:autoParam ↑7 aD._auto_1)(he:autoParam ↑0 aR._auto_1)(Rt:autoParam ↑2 aR._auto_1):PE X (.Call (.Name x p) (e::es) [] pos) (Nm C t):=by
 intro Q6 s σ H Q I h;refine X8 (jU I hg hm ?_ Sb);refine YC (h₀:=X.base) I.ok.mod.GJ kp (cv (ha pos Q6 s σ H _ I h) λus s1 ⟨vs,H1,I1,r,hl,q⟩=>⟨I1.ku,?_⟩) he Rt;obtain⟨bm,N,nm,qn,bs,Tj,sn,sub,ab,col,dd,k0,k1,k2,k3,k5,mN,hC,hN,TR,T⟩:=HG I1.ku hc;obtain⟨hp,g,d,tk,os⟩:=s1;refine wpAny_call_exc_subT aaQ T hC hN TR (λh' a M=>?_) (by show us.length<=sizeLine;rwa[<- r.length]);obtain⟨t',e1,_,_⟩:=M.there;have I2:Inv X Q6 σ (upd H1 a (lW C none a)) ⟨h',g,d,tk,os⟩:=I1.Ji (t':=tk) M.keeps M.new (vt e1);have hn:H1 a=none:=I1.vn M.new;exact⟨.ref a,_,I2,rfl,q a hn⟩
def JX(C:Addr)(sp:Sp)(t:TA):TE:=fun σ H Q=>t σ H λvs H1=>vs.length<=sizeLine/\∀a,H1 a=none->sp (.ref a::vs) (upd H1 a (lW C none a)) (λv H2=>v=.c6/\Q (.ref a) H2) E0
def DZ(hc:se X.K C "ValueError.__new__" f=true)(hf:Zi X.K (.ref f)=true)(kp:W8 X.K (.ref C)=true)(F:aT X.prog X.w X.K X.mg X.base (bX X.prog X.w) k f fd ps sp)(hr:cp (k+1) X.A)(hb:Binds X.K fd ps [])(hg:Gl X x)(hm:X.mg x=some (.ref C))(ha:PA X (e::es) t)(Sb:autoParam ↑7 aD._auto_1)(he:autoParam ↑0 aR._auto_1)(Rt:autoParam ↑2 aR._auto_1):PE X (.Call (.Name x p) (e::es) [] pos) (JX C sp t):=by
 intro Q6 s σ H Q I h;refine X8 (jU I hg hm ?_ Sb);refine YC (h₀:=X.base) I.ok.mod.GJ kp (cv (ha pos Q6 s σ H _ I h) λus s1 ⟨vs,H1,I1,r,hl,q⟩=>⟨I1.ku,?_⟩) he Rt;have X1:=I1.ku;obtain⟨bm,N,nm,qn,bs,Tj,sn,sub,ab,col,dd,k0,k1,k2,k3,k5,mN,hC,hN,TR,T⟩:=En X1 hc;obtain⟨hp,g,d,tk,os⟩:=s1;have f1:=tc_lookup;have f2:=tc_bind (.ref C);have hT:(⟨hp,g,d,tk,os⟩:Shared).TypeIs (.ref C) "type" := ⟨_,hC,rfl⟩
 refine aaN (codeAny_of_tree ?_);show wpAny _ _ (callAny (.ref C) _) _ _ _
 repeat (any_goals (first|assumption|with_reducible refine aa1 hC ?_|wp_step))
 refine⟨rfl,?_⟩;refine codeAny_call_builtin_at (acr _ (by decide +kernel)) entry_typeCall (wpAny_check_type_call_sub hC (qD aaQ T hC hN TR
  (λh' kk self=>adt (λb o z=>kk b o (X1 b o z)) self (beq_iff_eq.mp hf)) (λh' kk ht hx hz=>?_) (by show us.length<=sizeLine;rwa[<- r.length])))
 have I2:Inv X Q6 σ (upd H1 (hp.objs.size+1) (lW C none (hp.objs.size+1))) ⟨h',g,d,tk,os⟩:=I1.Ji (t':=tk) kk (Za (Z9 _)) (vt hx);have hq:=q (hp.objs.size+1) (I1.vn (Za (Z9 _)));have r2:Vals (V.ref (hp.objs.size+1)::vs) (V4 (hp.objs.size+1)::us):=.cons rfl r;have hlen:(V4 (hp.objs.size+1)::us++[]).length=ps.length:=by
  rw[W9,<- r2.length];exact F.len _ _ _ _ hq
 refine aaN (aaw (F.run _ X.stack _ _ ⟨V4 (hp.objs.size+1)::us,[]⟩ (V4 (hp.objs.size+1)::us) _ _ E0 (hr.make C us []) (I2.mW.make C us []) (by have:=hb _ (V4 (hp.objs.size+1)::us) I2.ku hlen;rwa [W9] at this) r2 hq) λr s' Tq=>?_);cases r with
 | error e =>
  obtain⟨_,_,_,_,_,_,_,_,_,_,_,_,_,z⟩:=Tq;exact z.elim
 | ok fl =>
  cases fl with
  | ret u =>
   obtain⟨v,H',I3,rv,ev,q3⟩:=I2.after Tq;subst ev;exact⟨rv,⟨V.ref (hp.objs.size+1),H',I3,rfl,q3⟩⟩
  | next=>exact XY Tq
  | brk=>exact XY Tq
  |cont=>exact XY Tq
def LX(K:VU)(ta tv:TE)(f:Str):TS:=λD σ H=>tv σ H λy H1=>ta σ H1 λx H2=>∃a C,x=.ref a/\H2 a=some (lW C none a)/\gG K C/\((YR K C).any λcd=>g8 cd.mro)=true/\cq K C f ∧
 ∀d,H2 d=none->d≠a->D.nx σ (upd (upd H2 d (.xd [(f,y)])) a (lW C (some d) a))
def C5{o value:Expr}{tv:TE}{n:Str}(ha:PE X o ta)(hv:PE X value tv)(hs:swapsWith value (some (.Attribute o n pos')) pos.line X.env=pure false):PS X (.Assign [.Attribute o n pos'] value pos) (LX X.K ta tv n):=by
 intro Q6 s σ H D I h;refine ZU (cv (hv Q6 s σ H _ I h) λu s1 ⟨y,H1,I1,ry,q⟩=>cv (ha Q6 s1 σ H1 _ I1 q) λov s2 ⟨x,H2,I2,rx,a,C,ex,ea,c,po,na,q2⟩=>?_) hs;subst ex;obtain rfl:ov=V4 a:=rx;obtain⟨tt,hx⟩:=(I2.bA a _ ea).1;refine Ed po c I2.ku hx na.IV λh' tk d e1 e2 e3 e4=>?_;have hd:H2 d=none:=I2.vn e2;have nda:d≠a:=λz=>by rw[z,ea] at hd;cases hd
 refine⟨σ,_,?_,q2 d hd nda⟩;have up:∀b,b≠a->b≠d->upd (upd H2 d (.xd [(n,y)])) a (lW C (some d) a) b=H2 b:=λb h1 h2=>by rw[au h1,au h2]
 have nd:∀b u,s2.heap.get? b=some u->b≠d:=λb u e z=>by rw[z,e2] at e;cases e
 have nH:∀b u,H2 b=some u->b≠d:=λb u e z=>by rw[z,hd] at e;cases e
 have nE:∀b u,H2 b=some u->(∀C dd,u≠lW C dd a)->b≠a:=λb u e hu z=>by
  rw[z,ea] at e;exact hu C none (V9 e).symm
 refine I2.un (t':=tk) ⟨λb u e z _ _=>e4 b u (λw=>by rw[w,ea] at z;cases z) e,λb u e z _ _=>⟨u.slots,e4 b u (λw=>by rw[w,ea] at z;cases z) e⟩,λb u e z _=>?_,λb u e _=>?_,λb xs e=>?_,λb ob u e=>?_,λb ps e=>?_⟩ λb u e=>?_
 .rw[up b (λw=>by rw[w,ea] at z;cases z) (nd b u e)];exact z
 .by_cases w:b=a
  .rw[w];exact⟨_,e1⟩
  .exact⟨u,e4 b u w e⟩
 .rw[up b (nE b _ e λ_ _ z=>by cases z) (nH b _ e)];exact e
 .rw[up b (nE b _ e λ_ _ z=>by cases z) (nH b _ e)];exact e
 .exact⟨#[],by rw[up b (nE b _ e λ_ _ z=>by cases z) (nH b _ e),e];simp⟩
 .by_cases w:b=a
  .subst w;rw[ay] at e;cases e;exact vt e1
  .rw[au w] at e
   by_cases w2:b=d
   .subst w2;rw[ay] at e;cases e;refine⟨_,e3,λg=>?_⟩;show k6 (Yu g [(n,y)]) (if g=n then some _ else none);rw[Xn]
    by_cases z:g=n
    .rw[if_pos z,show (g==n)=true from by simp[z]];exact ry
    .rw[if_neg z,show (g==n)=false from by simp[z]];exact Xq
   .rw[au w2] at e;refine(I2.bA b u e).n5 (λc v hc z=>e4 c v ?_ z) (λc z=>?_) λc ys z=>?_
    .rcases hc with z'|z'
     .rw[z'];exact w
     .exact nE c _ z' λ_ _ z=>by cases z
    .rw[up c (nE c _ z λ_ _ z=>by cases z) (nH c _ z)];exact z
    .rw[up c (nE c _ z λ_ _ z=>by cases z) (nH c _ z)];exact z
end
end
section
variable{M:Model}{E:Value->Shared->Prop}
def DC{e:Addr}{o:Obj}(hx:s.heap.get? e=some o)(h:Q o.cls s):wpAny M A (typeOf (.ref e)) Q E s:=by
 unfold typeOf;exact VQ (ZJ hx (VY h))
def Al{e:Addr}{o:Obj}{vs:Array Value}{Q:Bool->Shared->Prop}(hx:s.heap.get? e=some o)(hd:o.data=.fields vs)(h:Q false s):wpAny M A (isType (.ref e)) Q E s:=by
 unfold isType loadHead;refine VQ (ZJ hx (VY ?_));rwa[hd]
end
def Ll(K:VU)(E:St->XK)(te:TE):TS:=λD σ H=>te σ H λv H1=>∃e C dd,v=.ref e/\H1 e=some (lW C dd e)/\gG K C/\Zb K (.ref C)=some (.type "type")/\E σ (.ref e) none (upd H1 e (iW C dd e))
def xO{exc:Expr}{pos:Pos}(O:fk X E)(Rh:X.calm=true)(he:PE X exc te):PS X (.Raise (some exc) none pos) (Ll X.K E te):=by
 intro Q6 s σ H D I h;rw[arm_exec_Raise];refine VQ (Zr ?_);unfold raiseStmt;dsimp only [evalOpt,Option.map];refine VQ (VQ (cv (he Q6 s σ H _ I h) λu s1 hq=>VQ (Zr (VY ?_))));obtain⟨v,H1,I1,rv,e,C,dd,ev,hN,c,ht,hE⟩:=hq;subst ev;obtain rfl:u=V4 e:=rv;obtain⟨t,hx⟩:=(I1.bA e _ hN).1;have X1:=I1.ku;refine VQ (VY ?_);refine VQ (Xm ?_);unfold excFromValue isExcClass;refine VQ (VQ (Al hx rfl ?_));refine VY ?_;refine VQ ?_;unfold isInstance;refine VQ (DC hx ((aap X1 c.mb).here ?_));refine VY ?_;dsimp only;refine VQ (Al hx rfl ?_);unfold raisedInstance;refine VQ (VQ (DC hx (VQ ((PySem.W.looks_typeIn X1 ht).here ?_))));refine VY ?_;unfold setFlight;refine VQ (VQ (Wz hx rfl (x:=.none) rfl ?_));refine VY ?_;exact wpAny_raiseNew_none (I1.ok.hd Rh) (O.new Q6 σ H1 s1 e C dd I1 hN hE)
inductive PV where
 | c6|bl (b:Bool)|int (i:Int)|str (x:Str)
 | tup (xs:List PV)|lst (xs:List PV)
 | kC (xs:List PV)
 | obj (C:Addr) (fs:List (Str×PV))
 | exc (C:Addr) (fo:Option (List (Str×PV)))
 | emp
 | jB (Q9:List (List Int×PV))
 | fn (a:Addr)
 deriving Inhabited
mutual
inductive Rep (H:Hp):PV->V->Prop where
 | c6:Rep H .c6 .c6
 | bl (b:Bool):Rep H (.bl b) (.bl b)
 | int (i:Int):Rep H (.int i) (.int i)
 | str (x:Str):Rep H (.str x) (.str x)
 | tup {a:Addr} {xs:List PV} {vs:List V}:H a=some (.tup vs)->aL H xs vs->Rep H (.tup xs) (.ref a)
 | lst {a:Addr} {xs:List PV} {vs:List V}:H a=some (.lst vs)->aL H xs vs->Rep H (.lst xs) (.ref a)
 | kC {a:Addr} {o:Obj} {xs:List PV} {vs:List V}:H a=some (.kJ o (.lst vs))->aL H xs vs->Rep H (.kC xs) (.ref a)
 | obj {a C dx:Addr} {fs:List (Str×PV)} {vs:List (Str×V)}:H a=some (.ins C dx vs)->hG H fs vs->Rep H (.obj C fs) (.ref a)
 | wK {a C:Addr}:H a=some (iW C none a)->Rep H (.exc C none) (.ref a)
 | vP {a C d:Addr} {fs:List (Str×PV)} {vs:List (Str×V)}:H a=some (iW C (some d) a)->H d=some (.xd vs)->hG H fs vs->Rep H (.exc C (some fs)) (.ref a)
 | emp {a:Addr}:H a=some (.dK [])->Rep H .emp (.ref a)
 | jB {a:Addr} {o:Obj} {Q9:List (List Int×PV)} {us:List (List Key×V)}:H a=some (.kJ o (.dT us))->eU H Q9 us->Rep H (.jB Q9) (.ref a)
 |fn (a:Addr):Rep H (.fn a) (.ref a)
inductive aL (H:Hp):List PV->List V->Prop where
 | nil:aL H [] []
 |cons {p:PV} {v:V} {ps:List PV} {vs:List V}:Rep H p v->aL H ps vs->aL H (p::ps) (v::vs)
inductive hG (H:Hp):List (Str×PV)->List (Str×V)->Prop where
 | nil:hG H [] []
 |cons {n:Str} {p:PV} {v:V} {ps:List (Str×PV)} {vs:List (Str×V)}:Rep H p v->hG H ps vs->hG H ((n,p)::ps) ((n,v)::vs)
inductive eU (H:Hp):List (List Int×PV)->List (List Key×V)->Prop where
 | nil:eU H [] []
 |cons {k:List Int} {p:PV} {v:V} {ps:List (List Int×PV)} {vs:List (List Key×V)}:Rep H p v->eU H ps vs->eU H ((k,p)::ps) ((k.map ZG,v)::vs)
end
mutual
theorem Rep.mono{H H':Hp}(s:aY H H'):∀{p:PV}{v:V},Rep H p v->Rep H' p v
 | _,_,.c6=>.c6
 | _,_,.bl b=>.bl b
 | _,_,.int i=>.int i
 | _,_,.str x=>.str x
 | _,_,.tup h r=>.tup (s _ _ h) (r.mono s)
 | _,_,.lst h r=>.lst (s _ _ h) (r.mono s)
 | _,_,.kC h r=>.kC (s _ _ h) (r.mono s)
 | _,_,.obj h r=>.obj (s _ _ h) (r.mono s)
 | _,_,.wK h=>.wK (s _ _ h)
 | _,_,.vP h h2 r=>.vP (s _ _ h) (s _ _ h2) (r.mono s)
 | _,_,.emp h=>.emp (s _ _ h)
 | _,_,.jB h r=>.jB (s _ _ h) (r.mono s)
 |_,_,.fn a=>.fn a
theorem aL.mono{H H':Hp}(s:aY H H'):∀{p:List PV}{v:List V},aL H p v->aL H' p v
 | _,_,.nil=>.nil
 |_,_,.cons h r=>.cons (h.mono s) (r.mono s)
theorem hG.mono{H H':Hp}(s:aY H H'):∀{p:List (Str×PV)}{v:List (Str×V)},hG H p v->hG H' p v
 | _,_,.nil=>.nil
 |_,_,.cons h r=>.cons (h.mono s) (r.mono s)
theorem eU.mono{H H':Hp}(s:aY H H'):∀{p:List (List Int×PV)}{v:List (List Key×V)},eU H p v->eU H' p v
 | _,_,.nil=>.nil
 |_,_,.cons h r=>.cons (h.mono s) (r.mono s)
end
theorem aL.length{H:Hp}:∀{p:List PV}{v:List V},aL H p v->p.length=v.length
 | _,_,.nil=>rfl
 |_,_,.cons _ r=>by simp[r.length]
theorem aL.get{H:Hp}:∀{p:List PV}{v:List V}{i:Nat}{x:PV},aL H p v->p[i]?=some x->∃u,v[i]?=some u/\Rep H x u
 | _,_,_,_,.nil,e=>by simp at e
 | _,_,0,_,.cons h _,e=>by simp at e;subst e;exact⟨_,rfl,h⟩
 | _,_,i+1,x,.cons _ r,e=>by
  obtain⟨u,h1,h2⟩:=aL.get (i:=i) (x:=x) r (by simpa using e);exact⟨u,by simpa using h1,h2⟩
theorem aL.append{H:Hp}:∀{p q:List PV}{v u:List V},aL H p v->aL H q u->aL H (p++q) (v++u)
 | _,_,_,_,.nil,s=>s
 |_,_,_,_,.cons h r,s=>.cons h (r.append s)
theorem aL.take{H:Hp}:∀{p:List PV}{v:List V}(n:Nat),aL H p v->aL H (p.take n) (v.take n)
 | _,_,0,_=>.nil
 | _,_,_+1,.nil=>.nil
 |_,_,n+1,.cons h r=>.cons h (r.take n)
theorem aL.drop{H:Hp}:∀{p:List PV}{v:List V}(n:Nat),aL H p v->aL H (p.drop n) (v.drop n)
 | _,_,0,r=>r
 | _,_,_+1,.nil=>.nil
 |_,_,n+1,.cons _ r=>r.drop n
theorem aL.set{H:Hp}{x:PV}{u:V}(h:Rep H x u):∀{p:List PV}{v:List V}(i:Nat),aL H p v->aL H (p.set i x) (v.set i u)
 | _,_,_,.nil=>.nil
 | _,_,0,.cons _ r=>.cons h r
 |_,_,i+1,.cons q r=>.cons q (r.set h i)
def aL.snoc{p:List PV}{v:List V}{x:PV}{u:V}(r:aL H p v)(h:Rep H x u):aL H (p++[x]) (v++[u]):=r.append (.cons h .nil)
theorem hG.look{H:Hp}{f:Str}:∀{p:List (Str×PV)}{v:List (Str×V)}{x:PV},hG H p v->p.lookup f=some x->∃u,v.lookup f=some u/\Rep H x u
 | _,_,_,.nil,e=>by simp at e
 | (n,_)::_,_,x,.cons h r,e=>by
  rw[Xn] at e ⊢;cases q:f==n with
  | true=>rw[q] at e;cases e;exact⟨_,rfl,h⟩
  |false=>rw[q] at e;exact r.look e
theorem hG.none{H:Hp}{f:Str}:∀{p:List (Str×PV)}{v:List (Str×V)},hG H p v->p.lookup f=none->v.lookup f=none
 | _,_,.nil,_=>rfl
 | (n,_)::_,_,.cons h r,e=>by
  rw[Xn] at e ⊢;cases q:f==n with
  | true=>rw[q] at e;cases e
  |false=>rw[q] at e;exact r.none e
theorem aL.ints{H:Hp}:∀{ns:List Int}{v:List V},aL H (ns.map PV.int) v->v=ns.map V.int
 | [],_,.nil=>rfl
 |_::_,_,.cons (.int i) r=>by rw[r.ints];rfl
theorem aL.Qu{H:Hp}:∀{ns:List Bool}{v:List V},aL H (ns.map PV.bl) v->v=ns.map V.bl
 | [],_,.nil=>rfl
 |_::_,_,.cons (.bl i) r=>by rw[r.Qu];rfl
structure bb (Hs H Ra H':Hp):Prop where
 st:aY Hs Ra
 al:aY H H'
 sub:aY Ra H'
 nw:∀a o,Hs a=none->H a=some o->(∀ws,o≠.tup ws)->Ra a=none
variable{Hs:Hp}
def bb.refl(s:aY Hs H):bb Hs H Hs H:=⟨λ_ _ e=>e,λ_ _ e=>e,s,λ_ _ e _ _=>e⟩
variable{Rm:Hp}
def bb.trans{H1 Rl H2:Hp}(a:bb Hs H Rm H1)(b:bb Rm H1 Rl H2):bb Hs H Rl H2 :=
 ⟨λc o e=>b.st c o (a.st c o e),λc o e=>b.al c o (a.al c o e),b.sub,λc o e q t=>b.nw c o (a.nw c o e q t) (a.al c o q) t⟩
def bb.new{p:Addr}(s:aY Hs H)(n:H p=none):bb Hs H (upd Hs p o) (upd H p o):=by
 have ne:∀c u,H c=some u->c≠p:=λc u e z=>by rw[z,n] at e;cases e
 refine⟨λc u e=>?_,λc u e=>?_,λc u e=>?_,λc u e q _=>?_⟩
 .rw[au (ne c u (s c u e))];exact e
 .rw[au (ne c u e)];exact e
 .by_cases z:c=p
  .subst z;rw[ay] at e ⊢;exact e
  .rw[au z] at e ⊢;exact s c u e
 .rw[au (ne c u q)];exact e
inductive SV where
 | sh (p:PV)
 | ow (xs:List PV)
 | bd (a C:Addr) (fs:List (Str×PV))
 |dw (Q9:List (List Int×PV))
abbrev af:=List (Option SV)
def iJ:SV->Bool
 | .sh _=>false
 |_=>true
def Ho(H₀ Hs H:Hp):SV->V->Prop
 | .sh p,v=>Rep Hs p v
 | .ow xs,v=>∃a vs,v=.ref a/\H a=some (.lst vs)/\Hs a=none/\H₀ a=none/\aL Hs xs vs
 | .bd a C fs,v=>∃dx vs,v=.ref a/\H a=some (.ins C dx vs)/\Hs a=none/\H₀ a=none/\hG Hs fs vs
 |.dw Q9,v=>∃a us,v=.ref a/\H a=some (.dT us)/\Hs a=none/\H₀ a=none/\eU Hs Q9 us
structure SR (B H₀ Hs H:Hp) (σ:St) (env:af):Prop where
 gr:bb B H₀ Hs H
 len:σ.length=env.length
 at_:∀(i:Nat)(x:SV),env[i]?=some (some x)->∃v,σ[i]?=some (some v)/\Ho H₀ Hs H x v
 ap:∀(i j:Nat)(x y:SV)(a:Addr),i≠j->env[i]?=some (some x)->env[j]?=some (some y)->iJ x=true->iJ y=true->σ[i]?=some (some (.ref a))->σ[j]?≠some (some (.ref a))
variable{H₀:Hp}
variable{j:Nat}
section
variable{B B' H₀' Ra H':Hp}{σ':St}{env Rc:af}{x:Option SV}{v:Option V}
theorem SR.sh(r:SR B H₀ Hs H σ env)(i:Nat)(p:PV)(e:env[i]?=some (some (.sh p))):∃v,σ[i]?=some (some v)/\Rep Hs p v:=r.at_ i _ e
theorem SR.ow(r:SR B H₀ Hs H σ env)(i:Nat)(xs:List PV)(e:env[i]?=some (some (.ow xs))):∃a vs,σ[i]?=some (some (.ref a))/\H a=some (.lst vs)/\Hs a=none/\H₀ a=none/\aL Hs xs vs :=
 let ⟨_,h1,a,vs,z,h⟩:=r.at_ i _ e;⟨a,vs,z▸h1,h⟩
theorem SR.bd(r:SR B H₀ Hs H σ env)(i:Nat)(a C:Addr)(fs:List (Str×PV))(e:env[i]?=some (some (.bd a C fs))):∃dx vs,σ[i]?=some (some (.ref a))/\H a=some (.ins C dx vs)/\Hs a=none/\H₀ a=none/\hG Hs fs vs :=
 let ⟨_,h1,dx,vs,z,h⟩:=r.at_ i _ e;⟨dx,vs,z▸h1,h⟩
theorem SR.dw(r:SR B H₀ Hs H σ env)(i:Nat)(Q9:List (List Int×PV))(e:env[i]?=some (some (.dw Q9))):∃a us,σ[i]?=some (some (.ref a))/\H a=some (.dT us)/\Hs a=none/\H₀ a=none/\eU Hs Q9 us :=
 let ⟨_,h1,a,vs,z,h⟩:=r.at_ i _ e;⟨a,vs,z▸h1,h⟩
def Ho.kX{x:SV}{v:V}(h:Ho H₀ Hs H x v)(o:iJ x=true):∃a u,v=.ref a/\H a=some u/\Hs a=none/\H₀ a=none/\∀ws,u≠.tup ws:=by
 cases x with
 | sh p=>cases o
 | ow xs=>obtain⟨a,vs,z,h1,h2,h3,_⟩:=h;exact⟨a,_,z,h1,h2,h3,λ_=>nofun⟩
 | bd a C fs=>obtain⟨dx,vs,z,h1,h2,h3,_⟩:=h;exact⟨a,_,z,h1,h2,h3,λ_=>nofun⟩
 |dw Q9=>obtain⟨a,vs,z,h1,h2,h3,_⟩:=h;exact⟨a,_,z,h1,h2,h3,λ_=>nofun⟩
theorem Ho.mono{x:SV}{v:V}(h:Ho H₀ Hs H x v)(s:aY Hs Ra)(k:∀a u,iJ x=true->v=.ref a->H a=some u->Hs a=none->H₀ a=none->(∀ws,u≠.tup ws)->H' a=some u/\Ra a=none/\H₀' a=none):Ho H₀' Ra H' x v:=by
 cases x with
 | sh p=>exact Rep.mono s h
 | ow xs=>obtain⟨a,vs,z,h1,h2,h3,h4⟩:=h;obtain⟨q1,q2,q3⟩:=k a _ rfl z h1 h2 h3 (λ_=>nofun);exact⟨a,vs,z,q1,q2,q3,h4.mono s⟩
 | bd a C fs=>obtain⟨dx,vs,z,h1,h2,h3,h4⟩:=h;obtain⟨q1,q2,q3⟩:=k a _ rfl z h1 h2 h3 (λ_=>nofun);exact⟨dx,vs,z,q1,q2,q3,h4.mono s⟩
 |dw Q9=>obtain⟨a,vs,z,h1,h2,h3,h4⟩:=h;obtain⟨q1,q2,q3⟩:=k a _ rfl z h1 h2 h3 (λ_=>nofun);exact⟨a,vs,z,q1,q2,q3,h4.mono s⟩
def SR.mv(r:SR B H₀ Hs H σ env)(gr:bb B' H₀' Ra H')(hl:σ'.length=Rc.length)(s:aY Hs Ra)(c:∀(j:Nat)(x:SV),Rc[j]?=some (some x)->env[j]?=some (some x)/\σ'[j]?=σ[j]?/\∀a u,iJ x=true->σ[j]?=some (some (.ref a))->H a=some u->Hs a=none->H₀ a=none->(∀ws,u≠.tup ws)->H' a=some u/\Ra a=none/\H₀' a=none):SR B' H₀' Ra H' σ' Rc where
 gr:=gr
 len:=hl
 at_:=λj x e=>by
  obtain⟨e1,e2,k⟩:=c j x e;obtain⟨v,h1,h2⟩:=r.at_ j x e1;exact⟨v,e2.trans h1,h2.mono s λa u o z=>k a u o (z▸h1)⟩
 ap:=λj k x y a n e1 e2 o1 o2=>by
  rw[(c j x e1).2.1,(c k y e2).2.1];exact r.ap j k x y a n (c j x e1).1 (c k y e2).1 o1 o2
def qE{y:SV}(e:(env.set i x)[j]?=some (some y)):(i≠j/\env[j]?=some (some y))\/(i=j/\x=some y/\i<env.length):=by
 rw[Wy] at e
 by_cases z:i=j
 .rw[if_pos z] at e
  split at e
  .exact .inr ⟨z,V9 e,by assumption⟩
  .cases e
 .rw[if_neg z] at e;exact .inl ⟨z,e⟩
def SR.chg(r:SR B H₀ Hs H σ env)(gr:bb B H₀ Ra H')(s:aY Hs Ra)(new:∀y,x=some y->∃w,v=some w/\Ho H₀ Ra H' y w)(kp:∀(j:Nat)(y:SV)(a:Addr)(u:HO),i≠j->env[j]?=some (some y)->iJ y=true->σ[j]?=some (some (.ref a))->H a=some u->Hs a=none->(∀ws,u≠.tup ws)->H' a=some u/\Ra a=none)(sp:∀y,x=some y->iJ y=true->∀(k:Nat)(z:SV),i≠k->env[k]?=some (some z)->iJ z=true->σ[k]?≠some v):SR B H₀ Ra H' (σ.set i v) (env.set i x) where
 gr:=gr
 len:=by rw[Y8,Y8];exact r.len
 at_:=λj y e=>by
  rcases qE e with ⟨n,e⟩|⟨rfl,e,l⟩
  .obtain⟨w,h1,h2⟩:=r.at_ j y e;refine⟨w,by rwa[Wy,if_neg n],h2.mono s λa u o z q1 q2 q3 t=>?_⟩;obtain⟨p1,p2⟩:=kp j y a u n e o (z▸h1) q1 q2 t;exact⟨p1,p2,q3⟩
  .obtain⟨w,rfl,h⟩:=new y e;exact⟨w,by rw[Wy,if_pos rfl,if_pos (by rwa[r.len])],h⟩
 ap:=λj k y z a n e1 e2 o1 o2 q1 q2=>by
  rw[Wy] at q1 q2;rcases qE e1 with ⟨n1,e1⟩|⟨rfl,e1,l⟩
  .rw[if_neg n1] at q1;rcases qE e2 with ⟨n2,e2⟩|⟨rfl,e2,l⟩
   .rw[if_neg n2] at q2;exact r.ap j k y z a n e1 e2 o1 o2 q1 q2
   .rw[if_pos rfl,if_pos (by rwa[r.len])] at q2;exact sp z e2 o2 j y n1 e1 o1 (q1.trans q2.symm)
  .rw[if_pos rfl,if_pos (by rwa[r.len])] at q1;rcases qE e2 with ⟨n2,e2⟩|⟨z2,_,_⟩
   .rw[if_neg n2] at q2;exact sp y e1 o1 k z n2 e2 o2 (q2.trans q1.symm)
   .exact n z2
def SR.EZ(r:SR B H₀ Hs H σ env)(hv:σ[i]?=some v)(gr:bb B H₀ Ra H')(s:aY Hs Ra)(new:∀y,x=some y->∃w,v=some w/\Ho H₀ Ra H' y w)(kp:∀(j:Nat)(y:SV)(a:Addr)(u:HO),i≠j->env[j]?=some (some y)->iJ y=true->σ[j]?=some (some (.ref a))->H a=some u->Hs a=none->(∀ws,u≠.tup ws)->H' a=some u/\Ra a=none)(sp:∀y,x=some y->iJ y=true->∀(k:Nat)(z:SV),i≠k->env[k]?=some (some z)->iJ z=true->σ[k]?≠some v):SR B H₀ Ra H' σ (env.set i x):=by
 have e:σ.set i v=σ:=aa2 λj=>by
  rw[Wy]
  by_cases z:i=j
  .subst z;rw[if_pos rfl,if_pos (WB.mp hv).1,hv]
  .rw[if_neg z]
 have:=r.chg gr s new kp sp
 rwa [e] at this
def SR.held{p:Addr}(r:SR B H₀ Hs H σ env)(n:H p=none):∀(j:Nat)(y:SV),env[j]?=some (some y)->iJ y=true->σ[j]?≠some (some (.ref p)):=λj y e o z=>by
 obtain⟨v,h1,h2⟩:=r.at_ j y e;obtain⟨a,u,rfl,q,_⟩:=h2.kX o;rw[h1] at z;cases z;rw[n] at q;cases q
def SR.free{p:Addr}(r:SR B H₀ Hs H σ env)(n:H p=none):Hs p=none/\H₀ p=none:=by
 refine⟨?_,?_⟩
 .cases q:Hs p with
  | none=>rfl
  | some o=>have:=r.gr.sub _ _ q;rw[n] at this;cases this
 .cases q:H₀ p with
  | none=>rfl
  |some o=>have:=r.gr.al _ _ q;rw[n] at this;cases this
def bb.kX{p:Addr}(g:bb B H₀ Hs H)(h1:Hs p=none)(h2:H₀ p=none):bb B H₀ Hs (upd H p o) :=
 ⟨g.st,λc u q=>by rw[au (λz=>by rw[z,h2] at q;cases q)];exact g.al c u q,λc u q=>by rw[au (λz=>by rw[z,h1] at q;cases q)];exact g.sub c u q,g.nw⟩
def bb.into{p:Addr}(g:bb B H₀ Hs H)(h:H p=some o)(h1:Hs p=none)(h2:H₀ p=none):bb B H₀ (upd Hs p o) H/\aY Hs (upd Hs p o):=by
 have st:aY Hs (upd Hs p o):=λc u q=>by rwa[au (λz=>by rw[z,h1] at q;cases q)]
 refine⟨⟨λc u q=>st c u (g.st c u q),g.al,λc u q=>?_,λc u q1 q2 q3=>?_⟩,st⟩
 .by_cases z:c=p
  .subst z;rw[ay] at q;rw[h,q]
  .rw[au z] at q;exact g.sub c u q
 .rw[au (λz=>by rw[z,h2] at q2;cases q2)];exact g.nw c u q1 q2 q3
def SR.grow(r:SR B H₀ Hs H σ env)(g:bb Hs H Ra H'):SR B H₀ Ra H' σ env :=
 r.mv (r.gr.trans g) r.len g.st λ_ _ e=>⟨e,rfl,λa u _ _ h1 h2 h3 t=>⟨g.al _ _ h1,g.nw _ _ h2 h1 t,h3⟩⟩
end
abbrev EX:=Addr×Option (List (Str×PV))
abbrev M(α:Type):=Option (Except EX α)
def M.ok{α:Type}(a:α):M α:=some (.ok a)
variable{α:Type}
noncomputable def M.bind{β:Type}(x:M α)(f:α->M β):M β:=match x with
 | some (.ok a)=>f a
 | some (.error e)=>some (.error e)
 |none=>none
instance:Monad M where
 pure:=M.ok
 bind:=M.bind
def aw(r:M α)(Q:α->Prop)(E:EX->Prop):Prop:=match r with
 | some (.ok a)=>Q a
 | some (.error e)=>E e
 |none=>False
variable{E':EX->Prop}
def aw.imp{r:M α}{Q Q':α->Prop}{E:EX->Prop}(h:aw r Q E)(hq:∀a,Q a->Q' a)(he:∀e,E e->E' e):aw r Q' E':=by
 cases r with
 | none=>exact h
 | some x=>cases x with
  | ok a=>exact hq a h
  |error e=>exact he e h
theorem aw.bind{α β:Type}{x:M α}{f:α->M β}{Q:β->Prop}{E:EX->Prop}(h:aw (x.bind f) Q E):aw x (λa=>aw (f a) Q E) E:=by
 cases x with
 | none=>exact h
 | some x=>cases x with
  | ok a=>exact h
  |error e=>exact h
def XW(E:XK)(Hs H:Hp)(x:EX):Prop:=∀ea Ra H',bb Hs H Ra H'->Rep Ra (.exc x.1 x.2) (.ref ea)->E (.ref ea) none H'
def XW.grow{E:XK}{Ra H':Hp}{x:EX}(h:XW E Hs H x)(g:bb Hs H Ra H'):XW E Ra H' x:=λea Rl H2 g2 r=>h ea Rl H2 (g.trans g2) r
def tE(E:St->XK)(f:af->M PV):TE:=fun σ H Q=>∃B H₀ Hs env,SR B H₀ Hs H σ env/\aw (f env) (λp=>∀v Ra H',bb Hs H Ra H'->Rep Ra p v->Q v H') (XW (E σ) Hs H)
def PE.imp{t t':TE}(h:PE X e t)(i:∀σ H Q,t' σ H Q->t σ H Q):PE X e t':=λQ6 s σ H Q I q=>h Q6 s σ H Q I (i σ H Q q)
def v8{f:af->M PV}{g:af->PV->M PV}{Q R:VK}(h:tE E (λenv=>(f env).bind (g env)) σ H Q)(k:∀B H₀ Hs H1 env p v,SR B H₀ Hs H1 σ env->Rep Hs p v->aw (g env p) (λq=>∀u Ra H',bb Hs H1 Ra H'->Rep Ra q u->Q u H') (XW (E σ) Hs H1)->R v H1):tE E f σ H R:=by
 obtain⟨B,H₀,Hs,env,sr,h⟩:=h;refine⟨B,H₀,Hs,env,sr,(aw.bind h).imp (λp hp v Ra H' g r=>?_) λe he=>he⟩;exact k B H₀ Ra H' env p v (sr.grow g) r (hp.imp (λq hq u Rl H2 g2 r2=>hq u Rl H2 (g.trans g2) r2) λe he=>he.grow g)
def AM{f g:af->M PV}{op:PV->PV->M PV}{r:R2}{Q:VK}(h:tE E (λenv=>(f env).bind λp=>(g env).bind λq=>op p q) σ H Q)(k:∀Hs H1 p q v u,aY Hs H1->Rep Hs p v->Rep Hs q u->aw (op p q) (λz=>∀w Ra H',bb Hs H1 Ra H'->Rep Ra z w->Q w H') (XW (E σ) Hs H1)->r v u H1 Q):JG r (tE E f) (tE E g) σ H Q:=by
 refine v8 h λB H₀ Hs H1 env p v sr rp hp=>?_;refine⟨B,H₀,Hs,env,sr,(aw.bind hp).imp (λq hq u Ra H' g ru=>?_) λe he=>he⟩;exact k Ra H' p q v u (sr.grow g).gr.sub (rp.mono g.st) ru (hq.imp (λz hz w Rl H2 g2 r2=>hz w Rl H2 (g.trans g2) r2) λe he=>he.grow g)
def N2{f:af->M PV}{op:PV->M PV}{r:V->Hp->VK->Prop}{Q:VK}(h:tE E (λenv=>(f env).bind op) σ H Q)(k:∀Hs H1 p v,aY Hs H1->Rep Hs p v->aw (op p) (λz=>∀w Ra H',bb Hs H1 Ra H'->Rep Ra z w->Q w H') (XW (E σ) Hs H1)->r v H1 Q):Qn r (tE E f) σ H Q :=
 v8 h λB H₀ Hs H1 env p v sr rp hp=>k Hs H1 p v sr.gr.sub rp hp
def JV(sp:Sp)(R0:List V)(E:St->XK)(t:TA):TE:=fun σ H Q=>t σ H λvs H1=>sp (vs++R0) H1 Q (E σ)
def Eg(C:Addr)(m:Str)(sp:Sp)(R0:List V)(E:St->XK)(ta:TE)(t:TA):TE:=fun σ H Q=>ta σ H λx H1=>∃a dx fs,x=.ref a/\H1 a=some (.ins C dx fs)/\fs.lookup m=none ∧
 t σ H1 λvs H2=>sp (x::(vs++R0)) H2 Q (E σ)
def J1(C:Addr)(sp:Sp)(R0:List V)(E:St->XK)(t:TA):TE:=fun σ H Q=>t σ H λvs H1=>∀x dx,H1 x=none->H1 dx=none->dx≠x ->
 sp (.ref x::(vs++R0)) (upd (upd H1 dx (.own x)) x (.ins C dx [])) (λv H2=>v=.c6/\Q (.ref x) H2) (E σ)
variable{R0:List V}
variable{vs:List V}{us:List Value}
variable{pl:Sem Bool}
section
variable{p pos:Pos}{o:Expr}{t:TA}
def qm{Q:VK}(F:aT X.prog X.w X.K X.mg X.base (bX X.prog X.w) k f fd ps sp)(hr:cp k X.A)(hb:Binds X.K fd ps ds)(hd:Vals R0 ds)(hx:fk X E)(I:Inv X Q6 σ H s)(r:Vals vs us)(h:sp (vs++R0) H Q (E σ)):wpAny ↑8 X.A (call (.ref f) us) (EP X Q6 σ Q) X.xe s:=by
 have r2:Vals (vs++R0) (us++ds):=r.append hd;have hl:(us++ds).length=ps.length:=by rw[<- r2.length];exact F.len _ _ _ _ h
 refine aaN (aaw (F.run X.A X.stack s H ⟨us,[]⟩ (us++ds) (vs++R0) Q (E σ) hr I.mW (hb s us I.ku hl) r2 h) λr s' hq=>?_);cases r with
 | error e=>exact hx.pass Q6 σ H s e s' I hq
 | ok fl =>
  cases fl with
  | ret u=>exact I.after hq
  | next=>exact XY hq
  | brk=>exact XY hq
  |cont=>exact XY hq
def FU(F:aT X.prog X.w X.K X.mg X.base (bX X.prog X.w) k f fd ps sp)(hr:cp k X.A)(hg:Gl X x)(hm:X.mg x=some (.ref f))(hk:W8 X.K (.ref f)=true)(hb:Binds X.K fd ps ds)(hd:Vals R0 ds)(hx:fk X E)(ha:PA X (e::es) t)(Sb:autoParam ↑7 aD._auto_1)(he:autoParam ↑0 aR._auto_1)(Rt:autoParam ↑2 aR._auto_1):PE X (.Call (.Name x p) (e::es) [] pos) (JV sp R0 E t):=by
 intro Q6 s σ H Q I h;refine X8 (jU I hg hm ?_ Sb);refine YC (h₀:=X.base) I.ok.mod.GJ hk (cv (ha pos Q6 s σ H _ I h) λus s1 ⟨vs,H1,I1,r,q⟩=>⟨I1.ku,?_⟩) he Rt;exact qm F hr hb hd hx I1 r q
def FH(he:PE X o ta)(c:oh X.K C)(hm:Meth X.K C m f)(F:aT X.prog X.w X.K X.mg X.base (bX X.prog X.w) k f fd ps sp)(hr:cp k X.A)(hb:Binds X.K fd ps ds)(hd:Vals R0 ds)(hx:fk X E)(ha:PA X (e::es) t)
  (RN:autoParam ↑0 aR._auto_1) (Rt:autoParam ↑2 aR._auto_1)
  (ht:autoParam (eval (.Call (.Attribute o m apos) (e::es) [] pos) X.env=(do
   let ov <- eval o X.env
   standAt apos.atName
   let (f,first) <- holding [ov] (getMethod ov m pl)
   callWith pos f first (backTo pos (starEach (e::es) X.env)) (backToKw pos (keywordEach [] X.env)))) aR._auto_1) :
  PE X (.Call (.Attribute o m apos) (e::es) [] pos) (Eg C m sp R0 E ta t):=by
 intro Q6 s σ H Q I h;refine abP (pl:=pl) (cv (he Q6 s σ H _ I h) λu s1 ⟨x,H1,I1,rx,a,dx,fs,ex,ea,l,q⟩=>?_) ht;subst ex;obtain rfl:u=V4 a:=rx;refine qV I1 ea c hm l ?_;refine YC (first:=[.ref a]) (h₀:=X.base) I.ok.mod.GJ hm.kp (cv (ha pos Q6 s1 σ H1 _ I1 q) λus s2 ⟨vs,H2,I2,r,q2⟩=>⟨I2.ku,?_⟩) RN Rt;exact qm (us:=.ref a::us) (vs:=.ref a::vs) F hr hb hd hx I2 (.cons rfl r) q2
def Bl(he:PE X o ta)(c:oh X.K C)(hm:Meth X.K C m f)(F:aT X.prog X.w X.K X.mg X.base (bX X.prog X.w) k f fd ps sp)(hr:cp k X.A)(hb:Binds X.K fd ps ds)(hd:Vals R0 ds)(hx:fk X E)
  (ht:autoParam (eval (.Call (.Attribute o m apos) [] [] pos) X.env=(do
   let ov <- eval o X.env
   standAt apos.atName
   let (f,first) <- holding [ov] (getMethod ov m pl)
   callWith pos f first (backTo pos (starEach [] X.env)) (backToKw pos (keywordEach [] X.env)))) aR._auto_1) :
  PE X (.Call (.Attribute o m apos) [] [] pos) (Eg C m sp R0 E ta yL):=by
 intro Q6 s σ H Q I h;refine abP (pl:=pl) (cv (he Q6 s σ H _ I h) λu s1 ⟨x,H1,I1,rx,a,dx,fs,ex,ea,l,q⟩=>?_) ht;subst ex;obtain rfl:u=V4 a:=rx;refine qV I1 ea c hm l ?_;exact PySem.W.callWith_K0 (first:=[.ref a]) I1.ku hm.kp (qm (us:=[.ref a]) (vs:=[.ref a]) F hr hb hd hx I1 (.cons rfl .nil) q)
def CC{Q:VK}(M:Mk X.K C f)(F:aT X.prog X.w X.K X.mg X.base (bX X.prog X.w) k f fd ps sp)(hr:cp (k+1) X.A)(hb:Binds X.K fd ps ds)(hd:Vals R0 ds)(hx:fk X E)(I:Inv X Q6 σ H s)(r:Vals vs us)(h:∀x dx,H x=none->H dx=none->dx≠x->sp (.ref x::(vs++R0)) (upd (upd H dx (.own x)) x (.ins C dx [])) (λv H2=>v=.c6/\Q (.ref x) H2) (E σ)):wpAny ↑8 X.A (call (.ref C) us) (EP X Q6 σ Q) X.xe s:=by
 have hq:=h (s.heap.objs.size+1) s.heap.objs.size (I.bA.fresh (Z9 _)) (I.bA.fresh (VX _)) (V_ (X7 _));have I2:=Inv.made (C:=C) I;have r2:Vals (V.ref (s.heap.objs.size+1)::(vs++R0)) (V4 (s.heap.objs.size+1)::(us++ds)):=.cons rfl (r.append hd);have hl:(V4 (s.heap.objs.size+1)::us++ds).length=ps.length:=by
  have e:=r2.length;rw[F.len _ _ _ _ hq] at e;exact e.symm
 refine aaN (C8 (f:=f) I.ku M.makes M.init (beq_iff_eq.mp M.fn) (aaw (F.run _ X.stack _ _ ⟨V4 (s.heap.objs.size+1)::us,[]⟩ (V4 (s.heap.objs.size+1)::(us++ds)) _ _ (E σ) (hr.make C us [])
  (I2.mW.make C us []) (hb _ (V4 (s.heap.objs.size+1)::us) I2.ku hl) r2 hq) λr s' Tq=>?_))
 cases r with
 | error e=>exact hx.pass Q6 σ _ _ e s' I2 Tq
 | ok fl =>
  cases fl with
  | ret u =>
   obtain⟨v,H',I3,rv,ev,q3⟩:=I2.after Tq;subst ev;exact⟨rv,⟨V.ref (s.heap.objs.size+1),H',I3,rfl,q3⟩⟩
  | next=>exact XY Tq
  | brk=>exact XY Tq
  |cont=>exact XY Tq
def FE(M:Mk X.K C f)(F:aT X.prog X.w X.K X.mg X.base (bX X.prog X.w) k f fd ps sp)(hr:cp (k+1) X.A)(hg:Gl X x)(hm:X.mg x=some (.ref C))(hb:Binds X.K fd ps ds)(hd:Vals R0 ds)(hx:fk X E)(ha:PA X (e::es) t)(Sb:autoParam ↑7 aD._auto_1)(he:autoParam ↑0 aR._auto_1)(Rt:autoParam ↑2 aR._auto_1):PE X (.Call (.Name x p) (e::es) [] pos) (J1 C sp R0 E t):=by
 intro Q6 s σ H Q I h;refine X8 (jU I hg hm ?_ Sb);refine YC (h₀:=X.base) I.ok.mod.GJ M.kp (cv (ha pos Q6 s σ H _ I h) λus s1 ⟨vs,H1,I1,r,q⟩=>⟨I1.ku,?_⟩) he Rt;exact CC M F hr hb hd hx I1 r q
end
abbrev eK(Hs H:Hp)(Q:VK):PV->Prop:=λz=>∀w Ra H',bb Hs H Ra H'->Rep Ra z w->Q w H'
variable{p:PV}
def eK.flat{Q:VK}(h:eK Hs H Q p)(s:aY Hs H)(r:Rep Hs p v):Q v H:=h v Hs H (.refl s) r
theorem eK.tup{Hs H:Hp}{Q:VK}{xs:List PV}{vs:List V}(h:eK Hs H Q (.tup xs))(s:aY Hs H)(r:aL Hs xs vs):∀p,H p=none->Q (.ref p) (upd H p (.tup vs)) :=
 λp n=>h _ (upd Hs p (.tup vs)) _ (bb.new s n) (.tup ay (r.mono (bb.new s n).st))
theorem eK.lst{Hs H:Hp}{Q:VK}{xs:List PV}{vs:List V}(h:eK Hs H Q (.lst xs))(s:aY Hs H)(r:aL Hs xs vs):∀p,H p=none->Q (.ref p) (upd H p (.lst vs)) :=
 λp n=>h _ (upd Hs p (.lst vs)) _ (bb.new s n) (.lst ay (r.mono (bb.new s n).st))
namespace HT
def CY{prog:Program}{w:World}{A:Around}{E:Value->Shared->Prop}{s:Shared}{t b:Addr}{ws:List Value}{Q:Value->Shared->Prop}(ht:IsTup s.heap t #[])(hb:IsTup s.heap b ws.toArray)(h1:Q (.ref b) s):wpAny ↑11 A (binaryOp .Add (.ref t) (.ref b)) Q E s:=by
 obtain⟨⟨cls,dd,data,sl⟩,ho,hc,n,hd⟩:=id ht;obtain⟨⟨Vi,Uz,data2,UU⟩,Ti,TZ,n2,hd2⟩:=id hb;simp only at hc hd TZ hd2;subst hc hd TZ hd2;exact acL ⟨_,ho,rfl⟩ ⟨_,Ti,rfl⟩ abd ace ZN ZE (Zs _ _)
   (tuple_addW0 t b #[] ws.toArray n n2 dd Uz sl UU rfl) ⟨ho,Ti,h1⟩
end HT
def DA(K:VU):R2:=λx y H Q=>∃a b ys,x=.ref a/\y=.ref b/\g9 K H a []/\g9 K H b ys/\Q (.ref b) H
def EY:gR X (binaryOp .Add) (DA X.K):=by
 intro Q6 s σ H x y v u Q I rx ry h;obtain⟨a,b,ys,rfl,rfl,ha,hb,q1⟩:=h;cases rx;cases ry;obtain⟨Rb,r1,p1,_⟩:=I.tuple ha;obtain⟨SI,r2,p2,_⟩:=I.tuple hb;have e:Rb=[]:=r1.nV.mpr rfl;subst e;exact HT.CY p1 p2 ⟨.ref b,H,I,rfl,q1⟩
def cO(c:Prop)[Decidable c](x:M α):M α:=if c then x else none
theorem aw.cO{α:Type}{c:Prop}[Decidable c]{x:M α}{Q:α->Prop}{E:EX->Prop}(h:aw (L2.cO c x) Q E):c/\aw x Q E:=by
 unfold L2.cO at h
 by_cases hc:c
 .rw[if_pos hc] at h;exact⟨hc,h⟩
 .rw[if_neg hc] at h;exact h.elim
def e9(o:Option PV):M PV:=match o with
 | some x=>M.ok x
 |none=>none
def aw.opt{o:Option PV}{Q:PV->Prop}{E:EX->Prop}(h:aw (e9 o) Q E):∃x,o=some x/\Q x:=by
 cases o with
 | none=>exact h.elim
 |some x=>exact⟨x,rfl,h⟩
variable{op:CmpOp}
section
variable{a b:Expr}{pos:Pos}{f g h:af->M PV}
def ae(i:Nat)(env:af):M PV:=match env[i]? with
 | some (some (.sh p))=>M.ok p
 |_=>none
def L9(hN:X.N[i]?=some x)(hv:CA X.env.scope x)(hd:autoParam ↑7 aD._auto_1)(R3:autoParam ↑6 aD._auto_1):PE X (.Name x pos) (tE E (ae i)):=by
 refine(gP hN hv hd R3).imp fun σ H Q q=>?_;obtain⟨B,H₀,Hs,env,sr,q⟩:=q;unfold ae at q
 split at q
 .rename_i p e;obtain⟨v,h1,h2⟩:=sr.sh i p e;exact⟨v,h1,eK.flat q sr.gr.sub h2⟩
 .exact q.elim
def lr(he:PE X e (tC v))(r:∀H,Rep H p v):PE X e (tE E λ_=>M.ok p):=by
 refine he.imp fun σ H Q q=>?_;obtain⟨B,H₀,Hs,env,sr,q⟩:=q;exact eK.flat q sr.gr.sub (r Hs)
def LV{i:Int}:PE X (.Constant (.int i) j pos) (tE E λ_=>M.ok (.int i)):=lr EO λ_=>.int i
def N_{i:Bool}:PE X (.Constant (.bool i) j pos) (tE E λ_=>M.ok (.bl i)):=lr NA λ_=>.bl i
def Ka:PE X (.Constant .none j pos) (tE E λ_=>M.ok .c6):=lr J6 λ_=>.c6
def JQ{i:Str}:PE X (.Constant (.str i) j pos) (tE E λ_=>M.ok (.str i)):=lr Lk λ_=>.str i
def aj(op:PV->PV->M PV)(f g:af->M PV):af->M PV:=λenv=>(f env).bind λp=>(g env).bind λq=>op p q
def n_(E:St->XK)(r:R2)(op:PV->PV->M PV):Prop:=∀(σ:St)(Hs H:Hp)(p q:PV)(v u:V)(Q:VK),aY Hs H->Rep Hs p v->Rep Hs q u->aw (op p q) (eK Hs H Q) (XW (E σ) Hs H)->r v u H Q
def rB{op:Operator}{r:R2}{o:PV->PV->M PV}(ho:gR X (binaryOp op) r)(hv:n_ E r o)(ha:PE X a (tE E f))(hb:PE X b (tE E g)):PE X (.BinOp a op b pos) (tE E (aj o f g)) :=
 (JA ho ha hb).imp fun σ H Q q=>AM q λHs H1 p q v u s rp rq h=>hv σ Hs H1 p q v u Q s rp rq h
def my{r:R2}{o:PV->PV->M PV}(ho:gR X (compareOp op) r)(hv:n_ E r o)(ha:PE X a (tE E f))(hb:PE X b (tE E g))(hm:behindInMarks op b=false):PE X (.Compare a [op] [b] pos) (tE E (aj o f g)) :=
 (HW ho ha hb hm).imp fun σ H Q q=>AM q λHs H1 p q v u s rp rq h=>hv σ Hs H1 p q v u Q s rp rq h
def c7:PV->PV->M PV
 | .int i,.int j=>M.ok (.int (i+j))
 | .str x,.str y=>cO (x.length+y.length<=sizeLine) (M.ok (.str (x++y)))
 | .tup xs,.tup ys=>cO (xs.length+ys.length<=sizeLine) (M.ok (.tup (xs++ys)))
 | .lst xs,.lst ys=>cO (xs.length+ys.length<=sizeLine) (M.ok (.lst (xs++ys)))
 |_,_=>none
def Je(K:VU):R2:=λx y H Q=>(∃i j,x=.int i/\y=.int j/\Q (.int (i+j)) H)\/(∃i j,x=.str i/\y=.str j/\i.length+j.length<=sizeLine/\Q (.str (i++j)) H)\/JM K x y H Q\/Oe x y H Q\/DA K x y H Q
def HC:gR X (binaryOp .Add) (Je X.K):=gR.or Ld (gR.or zy (gR.or Im (gR.or K8 EY)))
def KN{K:VU}:n_ E (Je K) c7:=by
 intro σ Hs H p q v u Q s rp rq h;cases rp with
 | int i=>cases rq with
  | int j=>exact .inl ⟨i,j,rfl,rfl,eK.flat h s (.int _)⟩
  | _=>exact h.elim
 | str i=>cases rq with
  | str j =>
   obtain⟨hz,h⟩:=aw.cO h;exact .inr (.inl ⟨i,j,rfl,rfl,hz,eK.flat h s (.str _)⟩)
  | _=>exact h.elim
 | @tup a xs vs ha hx=>cases rq with
  | @tup b ys us hb hy =>
   obtain⟨hz,h⟩:=aw.cO h;cases hx with
   | nil=>exact .inr (.inr (.inr (.inr ⟨a,b,us,rfl,rfl,g9.of (s _ _ ha),g9.of (s _ _ hb),eK.flat h s (.tup hb hy)⟩)))
   | cons Vc SW =>
    have hx:=aL.cons Vc SW;refine .inr (.inr (.inl ⟨a,b,_,us,rfl,rfl,g9.of (s _ _ ha),g9.of (s _ _ hb),(λz=>nomatch z),by rwa[<- hx.length,<- hy.length],λz=>?_,λz=>eK.tup h s (hx.append hy)⟩));have e:ys=[]:=by cases hy with|nil=>rfl|cons _ _=>cases z
    subst e;rw[W9] at h;exact eK.flat h s (.tup ha hx)
  | _=>exact h.elim
 | @lst a xs vs ha hx=>cases rq with
  | @lst b ys us hb hy =>
   obtain⟨hz,h⟩:=aw.cO h;exact .inr (.inr (.inr (.inl ⟨a,b,vs,us,rfl,rfl,s _ _ ha,s _ _ hb,by rwa[<- hx.length,<- hy.length],eK.lst h s (hx.append hy)⟩)))
  | _=>exact h.elim
 |_=>exact h.elim
def D7(c:Int->Int->Bool)(o:Int->Int->Int):PV->PV->M PV
 | .int i,.int j=>cO (c i j=true) (M.ok (.int (o i j)))
 |_,_=>none
def FY{C:Int->Int->Prop}{c:Int->Int->Bool}{o:Int->Int->Int}(hc:∀i j,c i j=true->C i j):n_ E (rI C λi j=>.int (o i j)) (D7 c o):=by
 intro σ Hs H p q v u Q s rp rq h;cases rp with
 | int i=>cases rq with
  | int j =>
   obtain⟨hz,h⟩:=aw.cO h;exact⟨i,j,rfl,rfl,hc i j hz,eK.flat h s (.int _)⟩
  | _=>exact h.elim
 |_=>exact h.elim
def pH:PV->PV->M PV
 | .int i,.int j=>M.ok (.int (i-j))
 |_,_=>none
def J2:n_ E (zT λi j=>.int (i-j)) pH:=by
 intro σ Hs H p q v u Q s rp rq h;cases rp with
 | int i=>cases rq with
  | int j=>exact⟨i,j,rfl,rfl,eK.flat h s (.int _)⟩
  | _=>exact h.elim
 |_=>exact h.elim
def Dw(o:Int->Int->Bool):PV->PV->M PV
 | .int i,.int j=>M.ok (.bl (o i j))
 |_,_=>none
def v9{o:Int->Int->Bool}:n_ E (zT λi j=>.bl (o i j)) (Dw o):=by
 intro σ Hs H p q v u Q s rp rq h;cases rp with
 | int i=>cases rq with
  | int j=>exact⟨i,j,rfl,rfl,eK.flat h s (.bl _)⟩
  | _=>exact h.elim
 |_=>exact h.elim
def aH:PV->PV->M PV
 | .tup xs,.int i=>e9 (wN xs i)
 | .lst xs,.int i=>e9 (wN xs i)
 | .kC xs,.int i=>e9 (wN xs i)
 | .str z,.int i=>cO (z.length<=sizeLine) (e9 ((wN z.cps.toList i).map λc=>.str ⟨#[c]⟩))
 |_,_=>none
theorem aL.wN{H:Hp}{xs:List PV}{vs:List V}{i:Int}{x:PV}(r:aL H xs vs)(e:L2.wN xs i=some x):∃v,L2.wN vs i=some v/\Rep H x v:=by
 unfold L2.wN at e ⊢;rw[<- r.length];obtain⟨j,h1,h2⟩:=ZF.mp e;obtain⟨v,h3,h4⟩:=r.get h2;exact⟨v,by rwa[h1],h4⟩
def Kf{K:VU}:n_ E (Pf K) aH:=by
 intro σ Hs H p q v u Q s rp rq h;cases rp with
 | @tup a xs vs ha hx=>cases rq with
  | int i =>
   obtain⟨x,ex,h⟩:=aw.opt h;obtain⟨v,h1,h2⟩:=hx.wN ex;exact .inr (.inl ⟨a,vs,i,v,rfl,rfl,g9.of (s _ _ ha),h1,eK.flat h s h2⟩)
  | _=>exact h.elim
 | @lst a xs vs ha hx=>cases rq with
  | int i =>
   obtain⟨x,ex,h⟩:=aw.opt h;obtain⟨v,h1,h2⟩:=hx.wN ex;exact .inl ⟨a,vs,i,v,rfl,rfl,gQ.of (s _ _ ha),h1,eK.flat h s h2⟩
  | _=>exact h.elim
 | @kC a o xs vs ha hx=>cases rq with
  | int i =>
   obtain⟨x,ex,h⟩:=aw.opt h;obtain⟨v,h1,h2⟩:=hx.wN ex;exact .inl ⟨a,vs,i,v,rfl,rfl,.inl (.inr ⟨o,s _ _ ha⟩),h1,eK.flat h s h2⟩
  | _=>exact h.elim
 | str z=>cases rq with
  | int i =>
   obtain⟨hz,h⟩:=aw.cO h;obtain⟨x,ex,h⟩:=aw.opt h;obtain⟨c,ec,rfl⟩:=Wo.mp ex;exact .inr (.inr ⟨z,i,c,rfl,rfl,hz,ec,eK.flat h s (.str _)⟩)
  | _=>exact h.elim
 |_=>exact h.elim
def J4(ha:PE X a (tE E f))(hb:PE X b (tE E g))(hs:wo b):PE X (.Subscript a b pos) (tE E (aj aH f g)) :=
 (Jj Eh ha hb hs).imp fun σ H Q q=>AM q λHs H1 p q v u s rp rq h=>Kf σ Hs H1 p q v u Q s rp rq h
end
def tG(E:St->XK)(f:af->M α)(K:Hp->Hp->α->Prop):St->Hp->Prop:=fun σ H=>∃B H₀ Hs env,SR B H₀ Hs H σ env/\aw (f env) (K Hs H) (XW (E σ) Hs H)
def KG(K:Hp->Hp->α->Prop):Prop:=∀Hs H Ra H' b,K Hs H b->bb Hs H Ra H'->K Ra H' b
abbrev KB(Q:Bool->Hp->Prop):Hp->Hp->Bool->Prop:=λHs H k=>∀Ra H',bb Hs H Ra H'->Q k H'
abbrev kj(Q:VK):Hp->Hp->PV->Prop:=λHs H p=>eK Hs H Q p
abbrev KL(Q:List V->Hp->Prop):Hp->Hp->List PV->Prop:=λHs H ps=>∀vs Ra H',bb Hs H Ra H'->aL Ra ps vs->Q vs H'
theorem KB.g{Q:Bool->Hp->Prop}:KG (KB Q):=λHs H Ra H' b k g Rl H2 g2=>k Rl H2 (g.trans g2)
theorem kj.g{Q:VK}:KG (kj Q):=λHs H Ra H' b k g w Rl H2 g2 r=>k w Rl H2 (g.trans g2) r
theorem KL.g{Q:List V->Hp->Prop}:KG (KL Q):=λHs H Ra H' b k g w Rl H2 g2 r=>k w Rl H2 (g.trans g2) r
def tT(E:St->XK)(f:af->M Bool):TT:=fun σ H Q=>tG E f (KB Q) σ H
def tL(E:St->XK)(f:af->M (List PV)):TA:=fun σ H Q=>tG E f (KL Q) σ H
def PT.imp{t t':TT}(h:PT X e t)(i:∀σ H Q,t' σ H Q->t σ H Q):PT X e t':=λQ6 s σ H Q I q=>h Q6 s σ H Q I (i σ H Q q)
def PW.imp{t t':TT}(h:PW X e t)(i:∀σ H Q,t' σ H Q->t σ H Q):PW X e t':=λw Q6 s σ H Q I q=>h w Q6 s σ H Q I (i σ H Q q)
def PA.imp{e:List Expr}{t t':TA}(h:PA X e t)(i:∀σ H Q,t' σ H Q->t σ H Q):PA X e t':=λw Q6 s σ H Q I q=>h w Q6 s σ H Q I (i σ H Q q)
section
variable{β:Type}{K:Hp->Hp->β->Prop}
def bK{f:af->M PV}{g:af->PV->M β}{R:VK}(kg:KG K)(h:tG E (λenv=>(f env).bind (g env)) K σ H)(k:∀B H₀ Hs H1 env p v,SR B H₀ Hs H1 σ env->Rep Hs p v->aw (g env p) (K Hs H1) (XW (E σ) Hs H1)->R v H1):tE E f σ H R:=by
 obtain⟨B,H₀,Hs,env,sr,h⟩:=h;refine⟨B,H₀,Hs,env,sr,(aw.bind h).imp (λp hp v Ra H' g r=>?_) λe he=>he⟩;exact k B H₀ Ra H' env p v (sr.grow g) r (hp.imp (λq hq=>kg _ _ _ _ q hq g) λe he=>he.grow g)
def ni{f:af->M Bool}{g:af->Bool->M β}{R:Bool->Hp->Prop}(kg:KG K)(h:tG E (λenv=>(f env).bind (g env)) K σ H)(k:∀B H₀ Hs H1 env p,SR B H₀ Hs H1 σ env->aw (g env p) (K Hs H1) (XW (E σ) Hs H1)->R p H1):tT E f σ H R:=by
 obtain⟨B,H₀,Hs,env,sr,h⟩:=h;refine⟨B,H₀,Hs,env,sr,(aw.bind h).imp (λp hp Ra H' g=>?_) λe he=>he⟩;exact k B H₀ Ra H' env p (sr.grow g) (hp.imp (λq hq=>kg _ _ _ _ q hq g) λe he=>he.grow g)
def dW{f:af->M (List PV)}{g:af->List PV->M β}{R:List V->Hp->Prop}(kg:KG K)(h:tG E (λenv=>(f env).bind (g env)) K σ H)(k:∀B H₀ Hs H1 env p v,SR B H₀ Hs H1 σ env->aL Hs p v->aw (g env p) (K Hs H1) (XW (E σ) Hs H1)->R v H1):tL E f σ H R:=by
 obtain⟨B,H₀,Hs,env,sr,h⟩:=h;refine⟨B,H₀,Hs,env,sr,(aw.bind h).imp (λp hp v Ra H' g r=>?_) λe he=>he⟩;exact k B H₀ Ra H' env p v (sr.grow g) r (hp.imp (λq hq=>kg _ _ _ _ q hq g) λe he=>he.grow g)
end
def yN:PV->M Bool
 | .bl b=>M.ok b
 |_=>none
def dm(f:af->M PV):af->M Bool:=λenv=>(f env).bind yN
def aw.Ot{Q:Bool->Prop}{E:EX->Prop}(h:aw (yN p) Q E):∃b,p=.bl b/\Q b:=by
 cases p with
 | bl b=>exact⟨b,rfl,h⟩
 |_=>exact h.elim
variable{r:List V->Hp->VK->Prop}
section
variable{a b:Expr}{pos:Pos}{f g h:af->M PV}{u v:af->M Bool}{rest:List Expr}
def mQ{Q:Bool->Hp->Prop}(q:tT E (dm f) σ H Q):tB (tE E f) σ H Q:=by
 refine bK KB.g q λB H₀ Hs H1 env p v sr rp hp=>?_;obtain⟨k,rfl,hp⟩:=aw.Ot hp;cases rp;exact⟨k,rfl,hp Hs H1 (.refl sr.gr.sub)⟩
def wD(he:PE X e (tE E f))(hw:autoParam (∀whole,isTrue e X.env whole=(do let v <- whole;standAt e.pos;holding [v] (truthy v))) aI._auto_1):PT X e (tT E (dm f)) :=
 (Mz he hw).imp fun σ H Q q=>mQ q
def k4{r:R2}{o:PV->PV->M PV}(ho:gR X (compareOp op) r)(hv:n_ E r o)(ha:PE X a (tE E f))(hb:PE X b (tE E g))(hm:behindInMarks op b=false):PT X (.Compare a [op] [b] pos) (tT E (dm (aj o f g))):=by
 refine(vg ho ha hb hm).imp fun σ H Q q=>?_;have q':=mQ q;exact AM q' λHs H1 p q v u s rp rq h=>hv σ Hs H1 p q v u _ s rp rq h
def gX(u:af->M Bool):af->M Bool:=λenv=>(u env).bind λb=>M.ok (!b)
def vZ(u v:af->M Bool):af->M Bool:=λenv=>(u env).bind λb=>if b=true then v env else M.ok false
def Aw(u v:af->M Bool):af->M Bool:=λenv=>(u env).bind λb=>if b=true then M.ok true else v env
def Mp(ha:PT X a (tT E u)):PT X (.UnaryOp .Not a pos) (tT E (gX u)) :=
 (KW ha).imp fun σ H Q q=>ni KB.g q λB H₀ Hs H1 env p sr hp=>hp Hs H1 (.refl sr.gr.sub)
def AO(ha:PT X a (tT E u)):PW X (.BoolOp .And [a] pos) (tT E u):=pw_and1 ha
def gM(ha:PT X a (tT E u)):PW X (.BoolOp .Or [a] pos) (tT E u):=pw_or1 ha
def FF(ha:PT X a (tT E u))(hb:PW X (.BoolOp .And (b::rest) pos) (tT E v)):PW X (.BoolOp .And (a::b::rest) pos) (tT E (vZ u v)):=by
 refine(pw_and ha hb).imp fun σ H Q q=>ni KB.g q λB H₀ Hs H1 env p sr hp=>?_;cases p with
 | true=>exact⟨B,H₀,Hs,env,sr,hp⟩
 |false=>exact hp Hs H1 (.refl sr.gr.sub)
def kA(ha:PT X a (tT E u))(hb:PW X (.BoolOp .Or (b::rest) pos) (tT E v)):PW X (.BoolOp .Or (a::b::rest) pos) (tT E (Aw u v)):=by
 refine(pw_or ha hb).imp fun σ H Q q=>ni KB.g q λB H₀ Hs H1 env p sr hp=>?_;cases p with
 | true=>exact hp Hs H1 (.refl sr.gr.sub)
 |false=>exact⟨B,H₀,Hs,env,sr,hp⟩
def GI(f:af->M PV):af->M PV:=λenv=>(f env).bind λp=>(yN p).bind λb=>M.ok (.bl (!b))
def Cf(f g:af->M PV):af->M PV:=λenv=>(f env).bind λp=>(yN p).bind λb=>if b=true then g env else M.ok (.bl false)
def QW(f g:af->M PV):af->M PV:=λenv=>(f env).bind λp=>(yN p).bind λb=>if b=true then M.ok (.bl true) else g env
def DF(ha:PE X a (tE E f)):PE X (.UnaryOp .Not a pos) (tE E (GI f)):=by
 refine(Lg ha).imp fun σ H Q q=>bK (K:=kj Q) kj.g q λB H₀ Hs H1 env p v sr rp hp=>?_;obtain⟨k,rfl,hp⟩:=aw.Ot (aw.bind hp);cases rp;exact⟨k,rfl,eK.flat hp sr.gr.sub (.bl _)⟩
def u9(ha:PE X a (tE E f))(hb:PE X (.BoolOp .And (b::rest) pos) (tE E g)):PE X (.BoolOp .And (a::b::rest) pos) (tE E (Cf f g)):=by
 refine(My ha hb).imp fun σ H Q q=>bK (K:=kj Q) kj.g q λB H₀ Hs H1 env p v sr rp hp=>?_;obtain⟨k,rfl,hp⟩:=aw.Ot (aw.bind hp);cases rp;refine⟨k,rfl,?_⟩;cases k with
 | true=>exact⟨B,H₀,Hs,env,sr,hp⟩
 |false=>exact eK.flat hp sr.gr.sub (.bl _)
def CF(u:af->M Bool)(f g:af->M PV):af->M PV:=λenv=>(u env).bind λb=>if b=true then f env else g env
def LG(hc:PT X c (tT E u))(ha:PE X a (tE E f))(hb:PE X b (tE E g)):PE X (.IfExp c a b pos) (tE E (CF u f g)):=by
 refine(E8 hc ha hb).imp fun σ H Q q=>ni (K:=kj Q) kj.g q λB H₀ Hs H1 env p sr hp=>?_;cases p with
 | true=>exact⟨B,H₀,Hs,env,sr,hp⟩
 |false=>exact⟨B,H₀,Hs,env,sr,hp⟩
def ak:af->M (List PV):=λ_=>M.ok []
def aa(f:af->M PV)(fs:af->M (List PV)):af->M (List PV):=λenv=>(f env).bind λp=>(fs env).bind λps=>M.ok (p::ps)
variable{fs:af->M (List PV)}
def JO:PA X [] (tL E ak):=by
 refine fw.imp fun σ H Q q=>?_;obtain⟨B,H₀,Hs,env,sr,q⟩:=q;exact q [] Hs H (.refl sr.gr.sub) .nil
def Hy(ha:PE X e (tE E f))(hr:PA X es (tL E fs))(hs:autoParam ↑0 aR._auto_1):PA X (e::es) (tL E (aa f fs)):=by
 refine(cz ha hr hs).imp fun σ H Q q=>bK (K:=KL Q) KL.g q λB H₀ Hs H1 env p v sr rp hp=>?_;refine⟨B,H₀,Hs,env,sr,(aw.bind hp).imp (λps Ug vs Ra H' g r=>?_) λe he=>he⟩;exact Ug (v::vs) Ra H' g (.cons (rp.mono g.st) r)
def kG(fs:af->M (List PV)):af->M PV:=λenv=>(fs env).bind λps=>cO (ps.length<=sizeLine) (M.ok (.tup ps))
def mq(fs:af->M (List PV)):af->M PV:=λenv=>(fs env).bind λps=>cO (ps.length<=sizeLine) (M.ok (.lst ps))
def K3(hr:PA X es (tL E fs)):PE X (.Tuple es x1 pos) (tE E (kG fs)):=by
 refine(Em hr).imp fun σ H Q q=>dW (K:=kj Q) kj.g q λB H₀ Hs H1 env p v sr rp hp=>?_;obtain⟨hz,hp⟩:=aw.cO hp;exact⟨by rwa[<- rp.length],eK.tup hp sr.gr.sub rp⟩
def Le(hr:PA X es (tL E fs)):PE X (.List es pos) (tE E (mq fs)):=by
 refine(sS hr).imp fun σ H Q q=>dW (K:=kj Q) kj.g q λB H₀ Hs H1 env p v sr rp hp=>?_;obtain⟨hz,hp⟩:=aw.cO hp;exact⟨by rwa[<- rp.length],eK.lst hp sr.gr.sub rp⟩
def ai(o:List PV->M PV)(fs:af->M (List PV)):af->M PV:=λenv=>(fs env).bind o
def l5(E:St->XK)(r:List V->Hp->VK->Prop)(o:List PV->M PV):Prop:=∀(σ:St)(Hs H:Hp)(ps:List PV)(vs:List V)(Q:VK),aY Hs H->aL Hs ps vs->aw (o ps) (eK Hs H Q) (XW (E σ) Hs H)->r vs H Q
def ES{o:List PV->M PV}{Q:VK}(hv:l5 E r o)(q:tE E (ai o fs) σ H Q):OD r (tL E fs) σ H Q :=
 dW (K:=kj Q) kj.g q λB H₀ Hs H1 env p v sr rp hp=>hv σ Hs H1 p v Q sr.gr.sub rp hp
variable{p:Pos}{id T:String}
def lh{o:List PV->M PV}(hc:c8 X (.builtin id) r)(hv:l5 E r o)(hg:Gl X x)(hm:X.mg x=none)(hx:bootBuiltins x=some (.builtin id))(ha:PA X (e::es) (tL E fs))(hn:autoParam (x ≠ "__name__") aD._auto_1)(Sb:autoParam ↑7 aD._auto_1)(he:autoParam ↑0 aR._auto_1)(Rt:autoParam ↑2 aR._auto_1):PE X (.Call (.Name x p) (e::es) [] pos) (tE E (ai o fs)) :=
 (jA hc hg hm hx ha hn Sb he Rt).imp fun σ H Q q=>ES hv q
def uQ{o:List PV->M PV}(hc:c8 X (.type T) r)(hv:l5 E r o)(hg:Gl X x)(hm:X.mg x=none)(hx:bootBuiltins x=some (.type T))(ha:PA X (e::es) (tL E fs))(hn:autoParam (x ≠ "__name__") aD._auto_1)(Sb:autoParam ↑7 aD._auto_1)(he:autoParam ↑0 aR._auto_1)(Rt:autoParam ↑2 aR._auto_1):PE X (.Call (.Name x p) (e::es) [] pos) (tE E (ai o fs)) :=
 (oO hc hg hm hx ha hn Sb he Rt).imp fun σ H Q q=>ES hv q
end
variable{xs:List PV}
def bP:PV->Option (List PV)
 | .tup xs=>some xs
 | .lst xs=>some xs
 | .kC xs=>some xs
 |_=>none
def zw{K:VU}(s:aY Hs H)(r:Rep Hs p v)(e:bP p=some xs):∃a vs,v=.ref a/\(gQ K H a vs\/g9 K H a vs)/\aL Hs xs vs:=by
 cases r with
 | tup h r=>cases e;exact⟨_,_,rfl,.inr (g9.of (s _ _ h)),r⟩
 | lst h r=>cases e;exact⟨_,_,rfl,.inl (gQ.of (s _ _ h)),r⟩
 | kC h r=>cases e;exact⟨_,_,rfl,.inl (.inl (.inr ⟨_,s _ _ h⟩)),r⟩
 |_=>cases e
def vi:PV->M PV
 | .str z=>cO (z.length<=sizeLine) (M.ok (.int z.length))
 |p=>e9 ((bP p).map λxs=>.int xs.length)
def dH:List PV->M PV
 | [p]=>vi p
 |_=>none
def aL.one(r:aL H [p] vs):∃v,vs=[v]/\Rep H p v:=by
 cases r with
 |cons h r=>cases r;exact⟨_,rfl,h⟩
def aL.two{q:PV}(r:aL H [p,q] vs):∃v u,vs=[v,u]/\Rep H p v/\Rep H q u:=by
 cases r with
 |cons h r=>obtain⟨u,rfl,h2⟩:=r.one;exact⟨_,_,rfl,h,h2⟩
def DP(K:VU):List V->Hp->VK->Prop:=λxs H Q=>(∃p ys,xs=[.ref p]/\(gQ K H p ys\/g9 K H p ys)/\Q (.int ys.length) H)\/∃z,xs=[.str z]/\z.length<=sizeLine/\Q (.int z.length) H
def uO:c8 X (.builtin "len") (DP X.K):=c8.or wF vY
def Ks{K:VU}:l5 E (DP K) dH:=by
 intro σ Hs H ps vs Q s r h
 match ps,r with
 | [],_=>exact h.elim
 | _::_::_,_=>exact h.elim
 | [p],r =>
  obtain⟨v,rfl,rp⟩:=r.one;cases hp:bP p with
  | none =>
   cases p with
   | str z =>
    cases rp;obtain⟨hz,h⟩:=aw.cO h;exact .inr ⟨z,rfl,hz,eK.flat h s (.int _)⟩
   | tup _=>cases hp
   | lst _=>cases hp
   | kC _=>cases hp
   | _=>exact h.elim
  | some xs =>
   obtain⟨a,us,rfl,hq,hx⟩:=zw (K:=K) s rp hp;have h':aw (e9 ((bP p).map λxs=>PV.int xs.length)) (eK Hs H Q) (XW (E σ) Hs H):=by
    cases p with
    | str z=>cases hp
    | _=>exact h
   rw[hp] at h';refine .inl ⟨a,us,rfl,hq,?_⟩;rw[<- hx.length];exact eK.flat h' s (.int _)
def sx:List PV->M PV
 | [p]=>e9 ((bP p).map .lst)
 |_=>none
def IK{K:VU}:l5 E (λxs H Q=>∃p ys,xs=[.ref p]/\(gQ K H p ys\/g9 K H p ys)/\∀l,H l=none->Q (.ref l) (upd H l (.lst ys))) sx:=by
 intro σ Hs H ps vs Q s r h
 match ps,r with
 | [],_=>exact h.elim
 | _::_::_,_=>exact h.elim
 | [p],r =>
  obtain⟨v,rfl,rp⟩:=r.one;obtain⟨x,ex,h⟩:=aw.opt h;obtain⟨xs,hp,rfl⟩:=Wo.mp ex;obtain⟨a,us,rfl,hq,hx⟩:=zw (K:=K) s rp hp;exact⟨a,us,rfl,hq,eK.lst h s hx⟩
def cA:List PV->M PV
 | [p]=>e9 ((bP p).map .tup)
 |_=>none
def EW{K:VU}:l5 E (λxs H Q=>∃p ys,xs=[.ref p]/\((gQ K H p ys/\∀l,H l=none->Q (.ref l) (upd H l (.tup ys)))\/(g9 K H p ys/\Q (.ref p) H))) cA:=by
 intro σ Hs H ps vs Q s r h
 match ps,r with
 | [],_=>exact h.elim
 | _::_::_,_=>exact h.elim
 | [p],r =>
  obtain⟨v,rfl,rp⟩:=r.one;obtain⟨x,ex,h⟩:=aw.opt h;obtain⟨xs,hp,rfl⟩:=Wo.mp ex;cases rp with
  | tup ha hx=>cases hp;exact⟨_,_,rfl,.inr ⟨g9.of (s _ _ ha),eK.flat h s (.tup ha hx)⟩⟩
  | lst ha hx=>cases hp;exact⟨_,_,rfl,.inl ⟨gQ.of (s _ _ ha),eK.tup h s hx⟩⟩
  | kC ha hx=>cases hp;exact⟨_,_,rfl,.inl ⟨.inl (.inr ⟨_,s _ _ ha⟩),eK.tup h s hx⟩⟩
  |_=>cases hp
def nr:List PV->Option (List Int)
 | []=>some []
 | .int i::r=>(nr r).map (i::·)
 |_=>none
def D4:List PV->Option (List Bool)
 | []=>some []
 | .bl i::r=>(D4 r).map (i::·)
 |_=>none
theorem Ao:∀{ps:List PV}{ns:List Int},nr ps=some ns->ps=ns.map PV.int
 | [],_,e=>by cases e;rfl
 | .int i::r,_,e=>by
  obtain⟨ms,h1,rfl⟩:=Wo.mp e;rw[Ao h1];rfl
theorem F2:∀{ps:List PV}{ns:List Bool},D4 ps=some ns->ps=ns.map PV.bl
 | [],_,e=>by cases e;rfl
 | .bl i::r,_,e=>by
  obtain⟨ms,h1,rfl⟩:=Wo.mp e;rw[F2 h1];rfl
theorem o4:∀(ns:List Int),nr (ns.map PV.int)=some ns
 | []=>rfl
 |n::r=>by show (nr (r.map PV.int)).map (n::·)=_;rw[o4 r];rfl
theorem xf:∀(ns:List Bool),D4 (ns.map PV.bl)=some ns
 | []=>rfl
 |n::r=>by show (D4 (r.map PV.bl)).map (n::·)=_;rw[xf r];rfl
def NR:PV->M PV
 | .lst xs=>e9 ((nr xs).map λns=>.int ns.sum)
 |_=>none
def Cj:List PV->M PV
 | [p]=>NR p
 |_=>none
def J5{K:VU}:l5 E (λxs H Q=>∃(a:Addr)(ns:List Int),xs=[.ref a]/\gQ K H a (ns.map V.int)/\Q (.int ns.sum) H) Cj:=by
 intro σ Hs H ps vs Q s r h
 match ps,r with
 | [],_=>exact h.elim
 | _::_::_,_=>exact h.elim
 | [p],r =>
  obtain⟨v,rfl,rp⟩:=r.one;cases rp with
  | lst ha hx =>
   obtain⟨x,ex,h⟩:=aw.opt h;obtain⟨ns,hn,rfl⟩:=Wo.mp ex;rw[Ao hn] at hx;exact⟨_,ns,rfl,hx.ints▸gQ.of (s _ _ ha),eK.flat h s (.int _)⟩
  |_=>exact h.elim
def all1:PV->M PV
 | .lst xs=>e9 ((D4 xs).map λns=>.bl (ns.all id))
 |_=>none
def yC:List PV->M PV
 | [p]=>all1 p
 |_=>none
def Kl{K:VU}:l5 E (λxs H Q=>∃(a:Addr)(bs:List Bool),xs=[.ref a]/\gQ K H a (bs.map V.bl)/\Q (.bl (bs.all id)) H) yC:=by
 intro σ Hs H ps vs Q s r h
 match ps,r with
 | [],_=>exact h.elim
 | _::_::_,_=>exact h.elim
 | [p],r =>
  obtain⟨v,rfl,rp⟩:=r.one;cases rp with
  | lst ha hx =>
   obtain⟨x,ex,h⟩:=aw.opt h;obtain⟨ns,hn,rfl⟩:=Wo.mp ex;rw[F2 hn] at hx;exact⟨_,ns,rfl,hx.Qu▸gQ.of (s _ _ ha),eK.flat h s (.bl _)⟩
  |_=>exact h.elim
def OG(o:Int->Int->Int):PV->PV->M PV
 | .int i,.int j=>M.ok (.int (o i j))
 |_,_=>none
def Dl(o:Int->Int->Int):List PV->M PV
 | [p,q]=>OG o p q
 |_=>none
def GQ{o:Int->Int->Int}:l5 E (λxs H Q=>∃i j,xs=[.int i,.int j]/\Q (.int (o i j)) H) (Dl o):=by
 intro σ Hs H ps vs Q s r h
 match ps,r with
 | [],_=>exact h.elim
 | [_],_=>exact h.elim
 | _::_::_::_,_=>exact h.elim
 | [p,q],r =>
  obtain⟨v,u,rfl,rp,rq⟩:=r.two;cases rp with
  | int i=>cases rq with
   | int j=>exact⟨i,j,rfl,eK.flat h s (.int _)⟩
   | _=>exact h.elim
  |_=>exact h.elim
def dX(n:Nat)(sem:List PV->M PV):Sp:=λvs H Q E=>vs.length=n/\∃Hs ps,aY Hs H/\aL Hs ps vs/\aw (sem ps) (eK Hs H Q) (XW E Hs H)
variable{S8:List PV}
section
variable{sem:List PV->M PV}{p pos:Pos}{o:Expr}{fs:af->M (List PV)}{g:af->M PV}
def G6(F:aT X.prog X.w X.K X.mg X.base (bX X.prog X.w) k f fd ps (dX n sem))(hr:cp k X.A)(hg:Gl X x)(hm:X.mg x=some (.ref f))(hk:W8 X.K (.ref f)=true)(hb:Binds X.K fd ps ds)(hd:Vals R0 ds)(hdp:∀H,aL H S8 R0)(O:fk X E)(hl:∀ps,sem (ps++S8)≠none->ps.length+S8.length=n)(ha:PA X (e::es) (tL E fs))(Sb:autoParam ↑7 aD._auto_1)(he:autoParam ↑0 aR._auto_1)(Rt:autoParam ↑2 aR._auto_1):PE X (.Call (.Name x p) (e::es) [] pos) (tE E (ai (λps=>sem (ps++S8)) fs)):=by
 refine(FU F hr hg hm hk hb hd O ha Sb he Rt).imp fun σ H Q q=>dW (K:=kj Q) kj.g q λB H₀ Hs H1 env SJ v sr rp hp=>?_;have r2:aL Hs (SJ++S8) (v++R0):=rp.append (hdp Hs);have hn:sem (SJ++S8)≠none:=λz=>by rwa[z] at hp
 refine⟨?_,Hs,SJ++S8,sr.gr.sub,r2,hp⟩;rw[<- r2.length,WD];exact hl SJ hn
def eG(ok:Addr->Bool)(f:Str)(g:af->M PV):af->M PV:=λenv=>(g env).bind λp=>match p with
 | .obj C fs=>cO (ok C=true) (e9 (fs.lookup f))
 |_=>none
def L5{ok:Addr->Bool}{fl:Str}(he:PE X e (tE E g))(bA:∀C,ok C=true->oh X.K C/\cq X.K C fl)(hb:attributeBase e fl X.env (eval e X.env)=eval e X.env):PE X (.Attribute e fl pos) (tE E (eG ok fl g)):=by
 refine(K9 he hb).imp fun σ H Q q=>bK (K:=kj Q) kj.g q λB H₀ Hs H1 env p v sr rp hp=>?_;cases rp with
 | obj ha hx =>
  obtain⟨hc,hp⟩:=aw.cO hp;obtain⟨x,ex,hp⟩:=aw.opt hp;obtain⟨u,h1,h2⟩:=hx.look ex;exact⟨_,_,_,_,u,rfl,sr.gr.sub _ _ ha,(bA _ hc).1,(bA _ hc).2,h1,eK.flat hp sr.gr.sub h2⟩
 |_=>exact hp.elim
def bc(C:Addr)(m:Str)(sem:List PV->M PV)(g:af->M PV)(fs:af->M (List PV)):af->M PV:=λenv=>(g env).bind λp=>match p with
 | .obj C' fl=>cO (C'=C/\fl.lookup m=none) ((fs env).bind λps=>sem (.obj C' fl::ps))
 |_=>none
def Hl(he:PE X o (tE E g))(c:oh X.K C)(hm:Meth X.K C m f)(F:aT X.prog X.w X.K X.mg X.base (bX X.prog X.w) k f fd ps (dX n sem))(hr:cp k X.A)(hb:Binds X.K fd ps [])(O:fk X E)(hl:∀ps,sem ps≠none->ps.length=n)(ha:PA X (e::es) (tL E fs))
  (RN:autoParam ↑0 aR._auto_1) (Rt:autoParam ↑2 aR._auto_1)
  (ht:autoParam (eval (.Call (.Attribute o m apos) (e::es) [] pos) X.env=(do
   let ov <- eval o X.env
   standAt apos.atName
   let (f,first) <- holding [ov] (getMethod ov m pl)
   callWith pos f first (backTo pos (starEach (e::es) X.env)) (backToKw pos (keywordEach [] X.env)))) aR._auto_1) :
  PE X (.Call (.Attribute o m apos) (e::es) [] pos) (tE E (bc C m sem g fs)):=by
 refine(FH he c hm F hr hb .nil O ha RN Rt ht).imp fun σ H Q q=>bK (K:=kj Q) kj.g q λB H₀ Hs H1 env p v sr rp hp=>?_;cases rp with
 | @obj a C' dx fl fvs ho hx =>
  obtain⟨⟨e1,hn⟩,F9⟩:=aw.cO hp;subst e1;refine⟨a,dx,fvs,rfl,sr.gr.sub _ _ ho,hx.none hn,B,H₀,Hs,env,sr,(aw.bind F9).imp (λSJ Ug vs Ra H' g' r=>?_) λe he=>he⟩;have r2:aL Ra (.obj C' fl::SJ) (V.ref a::(vs++[])):=by rw[W9];exact .cons ((Rep.obj ho hx).mono g'.st) r
  have hn:sem (.obj C' fl::SJ)≠none:=λz=>by rwa[z] at Ug
  refine⟨by rw[<- r2.length];exact hl _ hn,Ra,_,g'.sub,r2,Ug.imp (λz hz w Rl H2 g2 r2=>hz w Rl H2 (g'.trans g2) r2) λe he=>he.grow g'⟩
 |_=>exact hp.elim
def FN(he:PE X o (tE E g))(c:oh X.K C)(hm:Meth X.K C m f)(F:aT X.prog X.w X.K X.mg X.base (bX X.prog X.w) k f fd ps (dX n sem))(hr:cp k X.A)(hb:Binds X.K fd ps [])(O:fk X E)(hl:∀ps,sem ps≠none->ps.length=n)
  (ht:autoParam (eval (.Call (.Attribute o m apos) [] [] pos) X.env=(do
   let ov <- eval o X.env
   standAt apos.atName
   let (f,first) <- holding [ov] (getMethod ov m pl)
   callWith pos f first (backTo pos (starEach [] X.env)) (backToKw pos (keywordEach [] X.env)))) aR._auto_1) :
  PE X (.Call (.Attribute o m apos) [] [] pos) (tE E (bc C m sem g ak)):=by
 refine(Bl he c hm F hr hb .nil O ht).imp fun σ H Q q=>bK (K:=kj Q) kj.g q λB H₀ Hs H1 env p v sr rp hp=>?_;cases rp with
 | @obj a C' dx fl fvs ho hx =>
  obtain⟨⟨e1,hn⟩,F9⟩:=aw.cO hp;subst e1;have r2:aL Hs [.obj C' fl] [V.ref a]:=.cons (Rep.obj ho hx) .nil;have Vz:sem [.obj C' fl]≠none:=λz=>by
   have Uv:aw (sem [.obj C' fl]) (eK Hs H1 Q) (XW (E σ) Hs H1):=F9;rwa[z] at Uv
  exact⟨a,dx,fvs,rfl,sr.gr.sub _ _ ho,hx.none hn,by rw[show ([]:List V)++[]=[] from rfl];exact r2.length▸hl _ Vz,Hs,_,sr.gr.sub,r2,F9⟩
 |_=>exact hp.elim
end
inductive Out where
 |nx (env:af)|rt (p:PV)|bk (env:af)|ct (env:af)
def KS(D:Ends)(B H₀:Hp):Out->Prop
 | .nx env=>∀σ Hs H,SR B H₀ Hs H σ env->D.nx σ H
 | .rt p=>∀v Hs H,bb B H₀ Hs H->Rep Hs p v->D.rt v H
 | .bk env=>∀σ Hs H,SR B H₀ Hs H σ env->D.bk σ H
 |.ct env=>∀σ Hs H,SR B H₀ Hs H σ env->D.ct σ H
def tS(E:XK)(f:af->M Out):TS:=λD σ H=>∃B H₀ Hs env,SR B H₀ Hs H σ env/\aw (f env) (KS D B H₀) (XW E B H₀)
def PS.imp{st:Stmt}{t t':TS}(h:PS X st t)(i:∀D σ H,t' D σ H->t D σ H):PS X st t':=λQ6 s σ H D I q=>h Q6 s σ H D I (i D σ H q)
def lA.imp{st:List Stmt}{t t':TS}(h:lA X st t)(i:∀D σ H,t' D σ H->t D σ H):lA X st t':=λQ6 s σ H D I q=>h Q6 s σ H D I (i D σ H q)
def av:af->M Out:=λenv=>M.ok (.nx env)
def Ak(g:af->M Out):Out->M Out
 | .nx env=>g env
 |o=>M.ok o
noncomputable def aq(f g:af->M Out):af->M Out:=λenv=>(f env).bind (Ak g)
def jv{E:XK}{f:af->M PV}{g:af->PV->M Out}{D:Ends}{R:VK}(h:tS E (λenv=>(f env).bind (g env)) D σ H)(k:∀B H₀ Hs H1 env p v,SR B H₀ Hs H1 σ env->Rep Hs p v->aw (g env p) (KS D B H₀) (XW E B H₀)->R v H1):tE (λ_=>E) f σ H R:=by
 obtain⟨B,H₀,Hs,env,sr,h⟩:=h;refine⟨B,H₀,Hs,env,sr,(aw.bind h).imp (λp hp v Ra H' g r=>?_) λe he=>he.grow sr.gr⟩;exact k B H₀ Ra H' env p v (sr.grow g) r hp
def E7{E:XK}{f:af->M Bool}{g:af->Bool->M Out}{D:Ends}{R:Bool->Hp->Prop}(h:tS E (λenv=>(f env).bind (g env)) D σ H)(k:∀B H₀ Hs H1 env p,SR B H₀ Hs H1 σ env->aw (g env p) (KS D B H₀) (XW E B H₀)->R p H1):tT (λ_=>E) f σ H R:=by
 obtain⟨B,H₀,Hs,env,sr,h⟩:=h;refine⟨B,H₀,Hs,env,sr,(aw.bind h).imp (λp hp Ra H' g=>?_) λe he=>he.grow sr.gr⟩;exact k B H₀ Ra H' env p (sr.grow g) hp
def xn{E:XK}{f:af->M (List PV)}{g:af->List PV->M Out}{D:Ends}{R:List V->Hp->Prop}(h:tS E (λenv=>(f env).bind (g env)) D σ H)(k:∀B H₀ Hs H1 env p v,SR B H₀ Hs H1 σ env->aL Hs p v->aw (g env p) (KS D B H₀) (XW E B H₀)->R v H1):tL (λ_=>E) f σ H R:=by
 obtain⟨B,H₀,Hs,env,sr,h⟩:=h;refine⟨B,H₀,Hs,env,sr,(aw.bind h).imp (λp hp v Ra H' g r=>?_) λe he=>he.grow sr.gr⟩;exact k B H₀ Ra H' env p v (sr.grow g) r hp
theorem SR.set{B H₀ Hs H:Hp}{σ:St}{env:af}{p:PV}{v:V}{i:Nat}(r:SR B H₀ Hs H σ env)(h:Rep Hs p v):SR B H₀ Hs H (σ.set i (some v)) (env.set i (some (.sh p))) :=
 r.chg r.gr (λ_ _ q=>q) (λ_ e=>by cases e;exact⟨v,rfl,h⟩) (λ_ _ _ _ _ _ _ _ h1 h2 _=>⟨h1,h2⟩) λ_ e o=>by cases e;cases o
def SR.own{B:Hp}{env:af}{p:Addr}(r:SR B H₀ Hs H σ env)(h:aL Hs xs vs)(n:H p=none):SR B H₀ Hs (upd H p (.lst vs)) (σ.set i (some (.ref p))) (env.set i (some (.ow xs))) :=
 r.chg (r.gr.kX (r.free n).1 (r.free n).2) (λ_ _ q=>q) (λ_ e=>by cases e;exact⟨_,rfl,p,vs,rfl,ay,(r.free n).1,(r.free n).2,h⟩) (λ_ _ a u _ _ _ _ h1 h2 _=>⟨by rwa[au (λz=>by rw[z,n] at h1;cases h1)],h2⟩) λ_ _ _ k z _=>r.held n k z
def pP(i:Nat)(env:af):af:=match env[i]? with
 | some (some (.ow xs))=>env.set i (some (.sh (.lst xs)))
 |_=>env
def SR.NV{B:Hp}{env:af}(r:SR B H₀ Hs H σ env)(e:env[i]?=some (some (.ow xs))):∃a vs,Hs a=none/\H a=some (.lst vs)/\SR B H₀ (upd Hs a (.lst vs)) H σ (env.set i (some (.sh (.lst xs))))/\aY Hs (upd Hs a (.lst vs)):=by
 obtain⟨a,vs,h1,h2,h3,h4,h5⟩:=r.ow i xs e;obtain⟨g,st⟩:=r.gr.into h2 h3 h4;refine⟨a,vs,h3,h2,r.EZ h1 g st (λ_ q=>by cases q;exact⟨_,rfl,.lst ay (h5.mono st)⟩) (λj y b u n ej o z q1 q2 _=>⟨q1,by rwa[au (λw=>by subst w;exact r.ap i j _ y b n e ej rfl o h1 z)]⟩) λ_ q o=>(by cases q;cases o),st⟩
def SR.kJ{B:Hp}{env:af}(i:Nat)(r:SR B H₀ Hs H σ env):∃Ra,SR B H₀ Ra H σ (pP i env)/\aY Hs Ra:=by
 unfold pP
 split
 .obtain⟨a,vs,_,_,h⟩:=r.NV (by assumption);exact⟨_,h⟩
 .exact⟨Hs,r,λ_ _ q=>q⟩
def vj(is:List Nat)(f:af->M Out):af->M Out:=λenv=>f (is.foldl (λe i=>pP i e) env)
theorem SR.mB{B H₀ H:Hp}{σ:St}:∀{is:List Nat}{Hs:Hp}{env:af},SR B H₀ Hs H σ env->∃Ra,SR B H₀ Ra H σ (is.foldl (λe i=>pP i e) env)/\aY Hs Ra
 | [],Hs,_,r=>⟨Hs,r,λ_ _ q=>q⟩
 | i::is,_,_,r=>by
  obtain⟨Rm,r1,s1⟩:=r.kJ i;obtain⟨Rl,r2,s2⟩:=SR.mB (is:=is) r1;exact⟨Rl,r2,λc u q=>s2 c u (s1 c u q)⟩
section
variable{E:XK}{pos:Pos}{f:af->M PV}{st:Stmt}{sts rest:List Stmt}{u:af->M Bool}{g h:af->M Out}
def LD(is:List Nat)(hs:PS X st (tS E g)):PS X st (tS E (vj is g)):=hs.imp λD σ H q=>by
 obtain⟨B,H₀,Hs,env,sr,q⟩:=q;obtain⟨Ra,r,_⟩:=sr.mB (is:=is);exact⟨B,H₀,Ra,_,r,q⟩
def HZ:lA X [] (tS E av):=mO.imp λD σ H q=>by
 obtain⟨B,H₀,Hs,env,sr,q⟩:=q;exact q σ Hs H sr
def Dp(h1:PS X st (tS E g))(h2:lA X rest (tS E h)):lA X (st::rest) (tS E (aq g h)):=by
 refine(iH h1 h2).imp λD σ H q=>?_;obtain⟨B,H₀,Hs,env,sr,q⟩:=q;refine⟨B,H₀,Hs,env,sr,(aw.bind q).imp (λo ho=>?_) λe he=>he⟩;cases o with
 | nx Rc=>exact fun σ' Ra H' S7=>⟨B,H₀,Ra,Rc,S7,ho⟩
 | rt p=>exact ho
 | bk Rc=>exact ho
 |ct Rc=>exact ho
def bo(i:Nat)(f:af->M PV):af->M Out:=λenv=>(f env).bind λp=>M.ok (.nx (env.set i (some (.sh p))))
def K4(hN:X.N.Nodup)(hi:X.N[i]?=some x)(hx:Loc X.env.scope x)(he:PE X e (tE (λ_=>E) f))(hs:autoParam (swapsWith e (some (.Name x pos')) pos.line X.env=pure false) aR._auto_1)(hf:autoParam ↑1 aF._auto_1):PS X (.Assign [.Name x pos'] e pos) (tS E (bo i f)) :=
 (o_ hN hi hx he hs hf).imp λD σ H q=>jv q λB H₀ Hs H1 env p v sr rp hp=>hp _ Hs H1 (sr.set rp)
def retS(f:af->M PV):af->M Out:=λenv=>(f env).bind λp=>M.ok (.rt p)
def KH(he:PE X e (tE (λ_=>E) f)):PS X (.Return (some e) pos) (tS E (retS f)) :=
 (L4 he).imp λD σ H q=>jv q λB H₀ Hs H1 env p v sr rp hp=>hp v Hs H1 sr.gr rp
def kO(f:af->M PV):af->M Out:=λenv=>(f env).bind λ_=>M.ok (.nx env)
def GX(he:PE X e (tE (λ_=>E) f))(hs:autoParam (swapsWith e none pos.line X.env=pure false) aR._auto_1):PS X (.Expr e pos) (tS E (kO f)) :=
 (qf he hs).imp λD σ H q=>jv q λB H₀ Hs H1 env p v sr rp hp=>hp σ Hs H1 sr
def kU(u:af->M Bool)(g h:af->M Out):af->M Out:=λenv=>(u env).bind λb=>if b=true then g env else h env
def NI{a b:List Stmt}(hc:PT X c (tT (λ_=>E) u))(ha:lA X a (tS E g))(hb:lA X b (tS E h)):PS X (.If c a b pos) (tS E (kU u g h)):=by
 refine(JI hc ha hb).imp λD σ H q=>E7 q λB H₀ Hs H1 env p sr hp=>?_;cases p with
 | true=>exact⟨B,H₀,Hs,env,sr,hp⟩
 |false=>exact⟨B,H₀,Hs,env,sr,hp⟩
end
def ov(Hs H₀:Hp):Hp:=λa=>match Hs a with
 | some o=>some o
 |none=>H₀ a
def vG(h:Hs a=some o):ov Hs H₀ a=some o:=by unfold ov;rw[h]
def n6(h:Hs a=none):ov Hs H₀ a=H₀ a:=by unfold ov;rw[h]
def Ik(s:aY Hs H)(t:aY H₀ H):aY (ov Hs H₀) H:=λa o e=>by
 cases q:Hs a with
 | some o'=>rw[vG q] at e;cases e;exact s _ _ q
 |none=>rw[n6 q] at e;exact t _ _ e
def SR.rebase{B:Hp}{env:af}(r:SR B H₀ Hs H σ env):SR Hs (ov Hs H₀) Hs H σ env :=
 r.mv ⟨λ_ _ e=>e,Ik r.gr.sub r.gr.al,r.gr.sub,λ_ _ e _ _=>e⟩ r.len (λ_ _ q=>q) λ_ _ e=>⟨e,rfl,λa u _ _ h1 h2 h3 _=>⟨h1,h2,by rwa[n6 h2]⟩⟩
def bb.mz{B Rl H2:Hp}(g:bb B H₀ Hs H)(g2:bb Hs (ov Hs H₀) Rl H2):bb B H₀ Rl H2 where
 st:=λa o e=>g2.st a o (g.st a o e)
 al:=λa o e=>by
  cases q:Hs a with
  | some o' =>
   have h1:=g.sub a o' q;have h2:=g.al a o e;rw[h1] at h2;cases h2;exact g2.al a _ (vG q)
  | none=>exact g2.al a o (by rwa[n6 q])
 sub:=g2.sub
 nw:=λa o e q t=>by
  have h1:=g.nw a o e q t;exact g2.nw a o h1 (by rwa[n6 h1]) t
theorem SR.mz{B H₀ Hs H Rl H2:Hp}{σ:St}{env:af}(g:bb B H₀ Hs H)(r:SR Hs (ov Hs H₀) Rl H2 σ env):SR B H₀ Rl H2 σ env :=
 r.mv (g.mz r.gr) r.len (λ_ _ q=>q) λ_ _ e=>⟨e,rfl,λa u _ _ h1 h2 h4 _=>⟨h1,h2,by
  cases q:Hs a with
  | some o=>rw[vG q] at h4;cases h4
  |none=>rwa[n6 q] at h4⟩⟩
def XW.rebase{E:XK}{B:Hp}(g:bb B H₀ Hs H){x:EX}(h:XW E B H₀ x):XW E Hs (ov Hs H₀) x:=λea Rl H2 r q=>h ea Rl H2 (g.mz r) q
def NS(k:af->M Out):Out->M Out
 | .nx env=>k env
 | .ct env=>k env
 | .bk env=>M.ok (.nx env)
 |.rt p=>M.ok (.rt p)
def l4(set:PV->af->M af)(body:af->M Out):List PV->af->M Out
 | [],env=>M.ok (.nx env)
 |x::xs,env=>(set x env).bind λRc=>(body Rc).bind (NS (l4 set body xs))
def CP(E:XK)(g:TG)(set:PV->af->M af):Prop:=∀(B H₀ Hs H:Hp)(σ:St)(env:af)(p:PV)(v:V)(Q:St->Hp->Prop)(Z:EX->Prop),SR B H₀ Hs H σ env->Rep Hs p v->aw (set p env) (λRc=>∀σ',SR B H₀ Hs H σ' Rc->Q σ' H) Z->g v σ H Q
def bG(i:Nat)(p:PV)(env:af):M af:=M.ok (env.set i (some (.sh p)))
def a_{E:XK}:CP E (aC i) (bG i):=λB H₀ Hs H σ env p v Q Z sr r h=>h _ (sr.set r)
def cC(i j:Nat):PV->af->M af
 | .tup [p,q],env=>M.ok ((env.set i (some (.sh p))).set j (some (.sh q)))
 |_,_=>none
def dE{E:XK}{K:VU}:CP E (jz K 2 (bC (aC i) (bC (aC j) jH))) (cC i j):=by
 intro B H₀ Hs H σ env p v Q Z sr r h;cases r with
 | @tup a xs vs ha hx =>
  match xs,hx with
  | [p,q],hx =>
   obtain⟨v,u,rfl,rp,rq⟩:=hx.two;exact⟨a,[v,u],rfl,g9.of (sr.gr.sub _ _ ha),rfl,v,[u],rfl,u,[],rfl,rfl,h _ ((sr.set rp).set rq)⟩
  | [],_=>exact h.elim
  | [_],_=>exact h.elim
  | _::_::_::_,_=>exact h.elim
 |_=>exact h.elim
section
variable{E:XK}{g:TG}{set:PV->af->M af}{body:af->M Out}{D:Ends}{B:Hp}
def Jv(E:XK)(set:PV->af->M af)(body:af->M Out)(D:Ends)(B H₀ Rm:Hp)(xs:List PV)(i:Nat)(σ:St)(H:Hp):Prop:=∃Hs env,SR B H₀ Hs H σ env/\aY Rm Hs/\aw (l4 set body (xs.drop i) env) (KS D B H₀) (XW E B H₀)
def Jv.done(j:Jv E set body D B H₀ Rm xs n σ H)(hn:xs.length<=n):D.nx σ H:=by
 obtain⟨Hs,env,sr,_,h⟩:=j;rw[Yq hn] at h;exact h σ Hs H sr
def Jv.turn{H1 Hx:Hp}{x:PV}(tg:CP E g set)(hx:xs[i]?=some x){env:af}(sr:SR B H₀ Hs H σ env)(s1:aY Rm Hs)(h:aw (l4 set body (xs.drop i) env) (KS D B H₀) (XW E B H₀)){Rl H2:Hp}(gr:bb Hs H Rl H2)(rv:Rep Rl x v):g v σ H2 fun σ2 H3=>tS E body { D with nx:=Jv E set body D B H₀ Rm xs (i+1),ct:=Jv E set body D B H₀ Rm xs (i+1),bk:=D.nx } σ2 H3:=by
 have RW:i<xs.length:=(WB.mp hx).1;have hd:xs.drop i=x::xs.drop (i+1):=by
  rw[XC RW];rw[VT RW] at hx;rw[V9 hx]
 rw[hd] at h;have RF:=sr.grow gr;refine tg B H₀ Rl H2 σ env x v _ _ RF rv ((aw.bind h).imp (λRc h' σ' S7=>?_) λ_ z=>z);refine⟨Rl,ov Rl H₀,Rl,Rc,S7.rebase,(aw.bind h').imp (λo ho=>?_) λe he=>he.rebase S7.gr⟩;cases o with
 | nx e2=>exact fun σ3 SS H3 r=>⟨SS,e2,r.mz S7.gr,λa o z=>r.gr.st a o (gr.st a o (s1 a o z)),ho⟩
 | ct e2=>exact fun σ3 SS H3 r=>⟨SS,e2,r.mz S7.gr,λa o z=>r.gr.st a o (gr.st a o (s1 a o z)),ho⟩
 | bk e2=>exact fun σ3 SS H3 r=>ho σ3 SS H3 (r.mz S7.gr)
 |rt p=>exact λv3 SS H3 r q=>ho v3 SS H3 (S7.gr.mz r) q
end
def jn(it:af->M (List PV))(set:PV->af->M af)(body:af->M Out):af->M Out:=λenv=>(it env).bind λxs=>l4 set body xs env
def itemsOf(f:af->M PV):af->M (List PV):=λenv=>(f env).bind λp=>match bP p with|some xs=>M.ok xs|none=>none
def jW{K:VU}(s:aY Hs H)(r:Rep Hs p v)(e:bP p=some xs):∃b a vs,v=.ref a/\(∀Ra H',aY Hs Ra->aY Ra H'->lE K H' b a vs)/\aL Hs xs vs:=by
 cases r with
 | tup h r=>cases e;exact⟨false,_,_,rfl,λRa H' s1 s2=>g9.of (s2 _ _ (s1 _ _ h)),r⟩
 | lst h r=>cases e;exact⟨true,_,_,rfl,λRa H' s1 s2=>gQ.of (s2 _ _ (s1 _ _ h)),r⟩
 | kC h r=>cases e;exact⟨true,_,_,rfl,λRa H' s1 s2=>.inl (.inr ⟨_,s2 _ _ (s1 _ _ h)⟩),r⟩
 |_=>cases e
section
variable{E:XK}{pos p:Pos}{f f2:af->M PV}{g:TG}{set:PV->af->M af}{body:af->M Out}{bd:List Stmt}
end
def Px:PV->M (List PV)
 | .int n=>cO (-(2^62)<=n/\n<2^62) (M.ok ((V6 n.toNat).map λ(i:Nat)=>.int (0+(i:Int))))
 |_=>none
def O0:PV->PV->M (List PV)
 | .int a,.int b=>cO (-(2^62)<=a/\a<2^62/\-(2^62)<=b/\b<2^62) (M.ok ((V6 (b-a).toNat).map λ(i:Nat)=>.int (a+(i:Int))))
 |_,_=>none
def oy:List PV->M (List PV)
 | [p]=>Px p
 |_=>none
def B5:List PV->M (List PV)
 | [p,q]=>O0 p q
 |_=>none
variable{Z:EX->Prop}
def BA{ps:List PV}{k:List PV->M α}{Q:α->Prop}(h:aw ((oy ps).bind k) Q Z):∃n:Int,ps=[.int n]/\-(2^62)<=n/\n<2^62/\aw (k ((V6 n.toNat).map λ(i:Nat)=>.int (0+(i:Int)))) Q Z:=by
 match ps with
 | []=>exact h.elim
 | _::_::_=>exact h.elim
 | [p] =>
  cases p with
  | int n =>
   obtain⟨hc,h⟩:=aw.cO (aw.bind h);exact⟨n,rfl,hc.1,hc.2,h⟩
  |_=>exact h.elim
def BC{ps:List PV}{k:List PV->M α}{Q:α->Prop}(h:aw ((B5 ps).bind k) Q Z):∃a b:Int,ps=[.int a,.int b]/\(-(2^62)<=a/\a<2^62/\-(2^62)<=b/\b<2^62)/\aw (k ((V6 (b-a).toNat).map λ(i:Nat)=>.int (a+(i:Int)))) Q Z:=by
 match ps with
 | []=>exact h.elim
 | [_]=>exact h.elim
 | _::_::_::_=>exact h.elim
 | [p,q] =>
  cases p with
  | int a=>cases q with
   | int b =>
    obtain⟨hc,h⟩:=aw.cO (aw.bind h);exact⟨a,b,rfl,hc,h⟩
   | _=>exact h.elim
  |_=>exact h.elim
def zip2:List PV->M (List PV)
 | [p,q]=>match bP p,bP q with
  | some xs,some ys=>M.ok (abv (λa b=>.tup [a,b]) xs ys)
  | _,_=>none
 |_=>none
def B0{ps:List PV}{k:List PV->M α}{Q:α->Prop}(h:aw ((zip2 ps).bind k) Q Z):∃p q xs ys,ps=[p,q]/\bP p=some xs/\bP q=some ys/\aw (k (abv (λa b=>.tup [a,b]) xs ys)) Q Z:=by
 match ps with
 | []=>exact h.elim
 | [_]=>exact h.elim
 | _::_::_::_=>exact h.elim
 | [p,q] =>
  unfold zip2 at h;dsimp only at h;cases e1:bP p with
  | none=>rw[e1] at h;exact h.elim
  | some xs =>
   cases e2:bP q with
   | none=>rw[e1,e2] at h;exact h.elim
   |some ys=>rw[e1,e2] at h;exact⟨p,q,xs,ys,rfl,e1,e2,h⟩
def BX{f:Nat->PV}(h:i<n):((V6 n).map f)[i]?=some (f i):=by
 rw[Ww,X3 h];rfl
section
variable{E:XK}{a b l l1 l2:Expr}{pos p tp:Pos}{fs:af->M (List PV)}{g:TG}{set:PV->af->M af}{body:af->M Out}{bd:List Stmt}
end
def KO(Q:VK):Hp->Hp->List PV->Prop:=λHs H ps=>∀vs p Ra H',bb Hs H Ra H'->aL Ra ps vs->H' p=none->Q (.ref p) (upd H' p (.lst vs))
def tO(E:St->XK)(f:af->M (List PV)):TE:=fun σ H Q=>tG E f (KO Q) σ H
section
variable{E:XK}{pos:Pos}{fs:af->M (List PV)}{f:af->M PV}
def tH(i:Nat)(f:af->M (List PV)):af->M Out:=λenv=>(f env).bind λps=>M.ok (.nx (env.set i (some (.ow ps))))
def IH(hN:X.N.Nodup)(hi:X.N[i]?=some x)(hx:Loc X.env.scope x)(he:PE X e (tO (λ_=>E) fs))(hs:autoParam (swapsWith e (some (.Name x pos')) pos.line X.env=pure false) aR._auto_1)(hf:autoParam ↑1 aF._auto_1):PS X (.Assign [.Name x pos'] e pos) (tS E (tH i fs)):=by
 refine(o_ hN hi hx he hs hf).imp λD σ H q=>?_;obtain⟨B,H₀,Hs,env,sr,q⟩:=q;refine⟨B,H₀,Hs,env,sr,(aw.bind q).imp (λps hp vs p Ra H' g r n=>?_) λe he=>he.grow sr.gr⟩;exact hp _ Ra _ ((sr.grow g).own r n)
def ph(fs:af->M (List PV)):af->M (List PV):=λenv=>(fs env).bind λps=>if ps.length<=sizeLine then M.ok ps else none
def Mo{E:St->XK}(hr:PA X es (tL E fs)):PE X (.List es pos) (tO E (ph fs)):=by
 refine(sS hr).imp fun σ H Q q=>?_;obtain⟨B,H₀,Hs,env,sr,q⟩:=q;refine⟨B,H₀,Hs,env,sr,(aw.bind q).imp (λps hp vs Ra H' g r=>?_) λe he=>he⟩
 by_cases hz:ps.length<=sizeLine
 .rw[if_pos hz] at hp;exact⟨by rwa[<- r.length],λp n=>hp vs p Ra H' g r n⟩
 .rw[if_neg hz] at hp;exact hp.elim
def AF(f:af->M PV):af->M (List PV):=itemsOf f
def oo(i:Nat)(f:af->M PV):af->M Out:=λenv=>match env[i]? with
 | some (some (.ow xs))=>(f env).bind λp=>if xs.length<sizeLine then M.ok (.nx (env.set i (some (.ow (xs++[p]))))) else none
 |_=>none
def SR.put{B:Hp}{env:af}{ys:List PV}{us:List V}(r:SR B H₀ Hs H σ env)(e:env[i]?=some (some (.ow xs)))(hi:σ[i]?=some (some (.ref a)))(h:aL Hs ys us):SR B H₀ Hs (upd H a (.lst us)) σ (env.set i (some (.ow ys))):=by
 obtain⟨a',vs,h1,h2,h3,h4,h5⟩:=r.ow i xs e;rw[hi] at h1;cases h1;exact r.EZ hi (r.gr.kX h3 h4) (λ_ _ q=>q) (λ_ q=>by cases q;exact⟨_,rfl,a,us,rfl,ay,h3,h4,h⟩) (λj y b u n ej o z q1 q2 _=>⟨by rwa[au (λw=>by subst w;exact r.ap i j _ y b n e ej rfl o hi z)],q2⟩) λ_ _ _ k z n ek o=>r.ap i k _ z a n e ek rfl o hi
def BR{px:Pos}(hi:X.N[i]?=some x)(hv:CA X.env.scope x)(he:PE X e (tE (λ_=>E) f))(hd:autoParam ↑7 aD._auto_1)(R3:autoParam ↑6 aD._auto_1)(T8:autoParam (attributeBase (.Name x px) "append" X.env (eval (.Name x px) X.env)=eval (.Name x px) X.env) aR._auto_1)(UX:autoParam (((backTo Rz (starEach [e] X.env)).all (λx=>!x.1)&&(backToKw Rz (keywordEach [] X.env)).all (λx=>x.1.isSome) && decide (([e]:List Expr).length+([]:List Keyword).length+(if ([]:List Keyword).isEmpty then 0 else 1)<30))=true) aR._auto_1)(Ue:autoParam ((apos.endLine==Rz.line)=true) aR._auto_1)(RN:autoParam (starEach [e] X.env=(false,eval e X.env)::starEach [] X.env) aR._auto_1)(Tp:autoParam ((backTo Rz (starEach [] X.env)).any (·.1)=false) aR._auto_1)(hs:autoParam (swapsWith (.Call (.Attribute (.Name x px) "append" apos) [e] [] Rz) none pos.line X.env=pure false) aR._auto_1):PS X (.Expr (.Call (.Attribute (.Name x px) "append" apos) [e] [] Rz) pos) (tS E (oo i f)):=by
 refine(qf (Jl abh aa9 aa_ oq (gP hi hv hd R3) (cz he fw RN) T8 UX Ue RN Tp) hs).imp λD σ H q=>?_;obtain⟨B,H₀,Hs,env,sr,q⟩:=q;unfold oo at q
 split at q
 .rename_i xs ex;obtain⟨a,vs,h1,h2,h3,h4,h5⟩:=sr.ow i xs ex;refine⟨.ref a,h1,.inl ⟨rfl,vs,gQ.of h2⟩,B,H₀,Hs,env,sr,(aw.bind q).imp (λp hp v Ra H' g r=>?_) λe he=>he.grow sr.gr⟩
  by_cases hz:xs.length<sizeLine
  .rw[if_pos hz] at hp;have S7:=sr.grow g;have r5:aL Ra (xs++[p]) (vs++[v]):=(h5.mono g.st).snoc r;exact⟨a,vs,v,rfl,rfl,g.al _ _ h2,by rwa[<- h5.length],hp σ Ra _ (S7.put ex h1 r5)⟩
  .rw[if_neg hz] at hp;exact hp.elim
 .exact q.elim
end
def LJ:Out->M PV
 | .rt p=>M.ok p
 | .nx _=>M.ok .c6
 |_=>none
def mW(m:Nat)(ps:List PV):af:=ps.map (λp=>some (.sh p))++VS (m-ps.length) none
def aA(m:Nat)(g:af->M Out)(ps:List PV):M PV:=(g (mW m ps)).bind LJ
theorem SR.start{Hs H:Hp}{N:List Str}{ps:List PV}{vs:List V}(s:aY Hs H)(r:aL Hs ps vs):SR Hs H Hs H (start N vs) (mW N.length ps):=by
 have key:∀(i:Nat)(x:SV),(mW N.length ps)[i]?=some (some x)->∃p v,x=.sh p/\(L2.start N vs)[i]?=some (some v)/\Rep Hs p v:=λi x e=>by
  unfold mW at e;unfold L2.start
  by_cases hi:i<ps.length
  .rw[W3 (by simpa using hi),Ww,VT hi] at e;cases e;obtain⟨v,h1,h2⟩:=r.get (VT hi);exact⟨_,v,rfl,by rw[W3 (by simpa using (r.length▸hi)),Ww,h1];rfl,h2⟩
  .rw[WV (by simpa using hi),ZD] at e
   split at e<;>cases e
 exact⟨.refl s,by unfold L2.start mW;simp[r.length],λi x e=>by obtain⟨p,v,rfl,h⟩:=key i x e;exact⟨v,h⟩,λi j x y a _ e _ o=>by obtain⟨p,v,rfl,h⟩:=key i x e;cases o⟩
def KY{K:VU}{dV kV doc pm Rw ct oc:Value}{an:Option Addr}{g:af->M Out}(lk:K.lookup f=some ⟨oc,od,.func (Xr name qual params body scope dV kV doc pm an Rw ct),Ur⟩)(R3:Yd K Rw qual=true)(S:cS N ps scope)(hb:∀(A:Around)(outer:List Env)(s:Shared)(H:Hp)(E:XK),cp k (A.deeper (envOfC qual scope s.heap.objs.size f Rw))->lA ((mR (bX P w) P w K mg base N qual scope f Rw A outer s H E).out λ_=>E) body (tS E g)):aT P w K mg base (bX P w) (k+1) f (Xr name qual params body scope dV kV doc pm an Rw ct) ps (dX ps.length (aA N.length g)):=by
 refine zQ lk R3 S (λvs H Q E h=>h.1) λA outer s H vs Q E hr hs=>⟨_,hb A outer s H E hr,?_⟩
 obtain⟨_,Hs,SJ,sm,r,h⟩:=hs;refine⟨Hs,H,Hs,_,SR.start sm r,(aw.bind h).imp (λo ho=>?_) λe he=>he⟩;cases o with
 | rt p=>exact λv Ra H' gr rv=>ho v Ra H' gr rv
 | nx env=>exact fun σ Ra H' sr=>ho .c6 Ra H' sr.gr .c6
 | bk env=>exact ho.elim
 |ct env=>exact ho.elim
section
variable{E:XK}{pos p:Pos}{fs:af->M (List PV)}
def kS(C:Addr)(fs:af->M (List PV)):af->M Out:=λenv=>(fs env).bind λps=>cO (ps.length<=sizeLine) (some (.error (C,none)))
def BO(O:fk X λ_=>E)(Rh:X.calm=true)(hc:Z6 X.K C fW "ValueError.__new__"=true)(c:gG X.K C)(ht:Zb X.K (.ref C)=some (.type "type"))(kp:W8 X.K (.ref C)=true)(hg:Gl X x)(hm:X.mg x=some (.ref C))(ha:PA X (e::es) (tL (λ_=>E) fs))(Sb:autoParam ↑7 aD._auto_1)(he:autoParam ↑0 aR._auto_1)(Rt:autoParam ((backTo Rz (starEach es X.env)).any (·.1)=false) aR._auto_1):PS X (.Raise (some (.Call (.Name x p) (e::es) [] Rz)) none pos) (tS E (kS C fs)):=by
 refine(xO O Rh (Ie hc kp hg hm ha Sb he Rt)).imp λD σ H q=>xn q λB H₀ Hs H1 env SJ v sr rp hp=>?_;obtain⟨hz,hp⟩:=aw.cO hp;refine⟨by rwa[<- rp.length],λa n=>⟨a,C,none,rfl,ay,c,ht,?_⟩⟩;rw[AD];exact hp a (upd Hs a (iW C none a)) _ (sr.gr.trans (bb.new sr.gr.sub n)) (.wK ay)
def Bn(K:VU)(C:Addr)(fl:Str):Sp:=λvs H Q _=>∃a y,vs=[.ref a,y]/\H a=some (lW C none a)/\∀d,H d=none->d≠a->Q .c6 (upd (upd H d (.xd [(fl,y)])) a (lW C (some d) a))
def kh(C:Addr)(fl:Str)(fs:af->M (List PV)):af->M Out:=λenv=>(fs env).bind λps=>match ps with
 | [p]=>some (.error (C,some [(fl,p)]))
 |_=>none
def A9{fl:Str}(O:fk X λ_=>E)(Rh:X.calm=true)(hc:se X.K C "ValueError.__new__" f=true)(hf:Zi X.K (.ref f)=true)(c:gG X.K C)(ht:Zb X.K (.ref C)=some (.type "type"))(kp:W8 X.K (.ref C)=true)(F:aT X.prog X.w X.K X.mg X.base (bX X.prog X.w) k f fd ps (Bn X.K C fl))(hr:cp (k+1) X.A)(hb:Binds X.K fd ps [])(hg:Gl X x)(hm:X.mg x=some (.ref C))(ha:PA X [e] (tL (λ_=>E) fs))(Sb:autoParam ↑7 aD._auto_1)(he:autoParam (starEach [e] X.env=(false,eval e X.env)::starEach [] X.env) aR._auto_1)(Rt:autoParam ((backTo Rz (starEach [] X.env)).any (·.1)=false) aR._auto_1):PS X (.Raise (some (.Call (.Name x p) [e] [] Rz)) none pos) (tS E (kh C fl fs)):=by
 refine(xO O Rh (DZ hc hf kp F hr hb hg hm ha Sb he Rt)).imp λD σ H q=>xn q λB H₀ Hs H1 env SJ v sr rp hp=>?_
 match SJ,rp,hp with
 | [],_,hp=>exact hp.elim
 | _::_::_,_,hp=>exact hp.elim
 | [y],rp,hp =>
  obtain⟨v,rfl,ry⟩:=rp.one;refine⟨by show 1<=sizeLine;decide,λa n=>⟨a,v,rfl,ay,λd hd hda=>⟨rfl,a,C,some d,rfl,ay,c,ht,?_⟩⟩⟩;rw[AD];have hd1:H1 d=none:=by rwa[au hda] at hd
  have g1:=bb.new (o:=.xd [(fl,v)]) sr.gr.sub hd1;have UH:upd H1 d (.xd [(fl,v)]) a=none:=by rwa[au (Xs hda)]
  have g2:=bb.new (o:=iW C (some d) a) g1.sub UH;have hH:upd (upd (upd H1 a (lW C none a)) d (.xd [(fl,v)])) a (iW C (some d) a)=upd (upd H1 d (.xd [(fl,v)])) a (iW C (some d) a):=by
   funext b
   by_cases z:b=a
   .subst z;rw[ay,ay]
   .rw[au z,au z]
    by_cases z2:b=d
    .subst z2;rw[ay,ay]
    .rw[au z2,au z2,au z]
  rw[hH];refine hp a (upd (upd Hs d (.xd [(fl,v)])) a (iW C (some d) a)) _ ((sr.gr.trans g1).trans g2) ?_;exact .vP ay (by rw[au hda];exact ay) (.cons ((ry.mono g1.st).mono g2.st) .nil)
def sD{K:VU}{dV kV doc pm Rw ct oc:Value}{an:Option Addr}{n0 n1 fl:Str}{p0 p1 p2 p3:Pos}(lk:K.lookup f=some ⟨oc,od,.func (Xr name qual params [.Assign [.Attribute (.Name n0 p0) fl p1] (.Name n1 p2) p3] scope dV kV doc pm an Rw ct),Ur⟩)(R3:Yd K Rw qual=true)(S:cS [n0,n1] [n0,n1] scope)(c:gG K C)(ho:((YR K C).any λcd=>g8 cd.mro)=true)(na:cq K C fl)(v0:CA scope n0)(v1:CA scope n1)(d0:(n0==("__debug__" : Str))=false)(d1:(n1==("__debug__" : Str))=false)(c0:(n0==("__classdict__" : Str))=false)(c1:(n1==("__classdict__" : Str))=false)(hs:∀env,swapsWith (.Name n1 p2) (some (.Attribute (.Name n0 p0) fl p1)) p3.line env=pure false):aT P w K mg base (bX P w) 1 f (Xr name qual params [.Assign [.Attribute (.Name n0 p0) fl p1] (.Name n1 p2) p3] scope dV kV doc pm an Rw ct) [n0,n1] (Bn K C fl):=by
 refine zQ (k:=0) lk R3 S (λvs H Q E h=>by obtain⟨a,y,rfl,_⟩:=h;rfl) λA outer s H vs Q E hr h=>?_;obtain⟨a,y,rfl,ha,hq⟩:=h;refine⟨_,HN (C5 (gP (i:=0) rfl v0 d0 c0) (gP (i:=1) rfl v1 d1 c1) (hs _)),?_⟩;exact⟨y,rfl,.ref a,rfl,a,C,rfl,ha,c,ho,na,hq⟩
end
structure j7 (J:It) (Rm:Hp) (xs:List PV):Prop where
 stop:∀(i:Nat)(Hs H:Hp),aY Rm Hs->aY Hs H->xs.length<=i->J.stop i H
 go:∀(i:Nat)(Hs H:Hp),aY Rm Hs->aY Hs H->i<xs.length->J.go i H
 vx:∀(i:Nat)(Hs H:Hp)(x:V)(H2:Hp),aY Rm Hs->aY Hs H->i<xs.length->J.vx i H x H2->∃p Rl,xs[i]?=some p/\bb Hs H Rl H2/\Rep Rl p x
def KI(R:It->Hp->Prop):Hp->Hp->List PV->Prop:=λHs H xs=>∀J Ra H',bb Hs H Ra H'->j7 J Ra xs->R J H'
def yg(E:St->XK)(wi:TI)(it:af->M (List PV)):Prop:=∀(σ:St)(H:Hp)(R:It->Hp->Prop),tG E it (KI R) σ H->wi σ H R
theorem KI.g{R:It->Hp->Prop}:KG (KI R):=λHs H Ra H' b k g J Rl H2 g2 o=>k J Rl H2 (g.trans g2) o
section
variable{K:VU}{f:af->M PV}{fs:af->M (List PV)}
def w_(hq:∀Ra H',aY Rm Ra->aY Ra H'->lE K H' b a vs)(hr:aL Rm xs vs):j7 (NH K b a) Rm xs where
 stop:=λi Hs H s1 s2 hi=>by
  have q:=hq Hs H s1 s2;cases b with
  | true=>exact⟨vs,q,by rwa[<- hr.length]⟩
  | false=>exact⟨vs,q,by rwa[<- hr.length]⟩
 go:=λi Hs H s1 s2 hi=>by
  have q:=hq Hs H s1 s2;obtain⟨v,e,_⟩:=hr.get (VT hi);cases b with
  | true=>exact⟨vs,v,q,e⟩
  | false=>exact⟨vs,v,q,e⟩
 vx:=λi Hs H x H2 s1 s2 hi y=>by
  have q:=hq Hs H s1 s2;obtain⟨v,e,r⟩:=hr.get (VT hi);have z:H2=H/\vs[i]?=some x:=by
   cases b with
   | true=>exact⟨y.1,y.2 vs q⟩
   | false=>exact⟨y.1,y.2 vs q⟩
  obtain⟨rfl,z⟩:=z;rw[e] at z;cases z;exact⟨xs[i],Hs,VT hi,.refl s2,r.mono s1⟩
def cT:yg E (NN K (tE E f)) (itemsOf f):=by
 intro σ H R q;refine bK (K:=KI R) KI.g q λB H₀ Hs H1 env p v sr rp hp=>?_;cases e:bP p with
 | none=>rw[e] at hp;exact hp.elim
 | some xs =>
  rw[e] at hp;obtain⟨b,a,vs,rfl,hq,hr⟩:=jW (K:=K) sr.gr.sub rp e;exact⟨b,a,rfl,⟨vs,hq Hs H1 (λ_ _ z=>z) sr.gr.sub⟩,hp (NH K b a) Hs H1 (.refl sr.gr.sub) (w_ hq hr)⟩
def kK(o:List PV->M (List PV))(fs:af->M (List PV)):af->M (List PV):=λenv=>(fs env).bind o
def wQ{lo:Int}:j7 (NB lo n) Rm ((V6 n).map λ(i:Nat)=>PV.int (lo+(i:Int))) where
 stop:=λi Hs H s1 s2 hi=>show n<=i by simpa using hi
 go:=λi Hs H s1 s2 hi=>show i<n by simpa using hi
 vx:=λi Hs H x H2 s1 s2 hi y=>by
  obtain⟨rfl,rfl⟩:=y;exact⟨_,Hs,BX (by simpa using hi),.refl s2,.int _⟩
def aE(x:M α):x.bind M.ok=x:=by
 cases x with
 | none=>rfl
 |some x=>cases x<;>rfl
def fe:yg E (Jn (tL E fs)) (kK oy fs):=by
 intro σ H R q;refine dW (K:=KI R) KI.g q λB H₀ Hs H1 env ps v sr rp hp=>?_;rw[<- aE (oy ps)] at hp;obtain⟨n,rfl,h1,h2,hp⟩:=BA hp;obtain⟨w,rfl,Td⟩:=rp.one;cases Td;exact⟨n,rfl,h1,h2,hp _ Hs H1 (.refl sr.gr.sub) wQ⟩
def DU:yg E (Jy (tL E fs)) (kK B5 fs):=by
 intro σ H R q;refine dW (K:=KI R) KI.g q λB H₀ Hs H1 env ps v sr rp hp=>?_;rw[<- aE (B5 ps)] at hp;obtain⟨n,m,rfl,h1,hp⟩:=BC hp;obtain⟨w,u,rfl,Td,ru⟩:=rp.two;cases Td;cases ru;exact⟨n,m,rfl,h1,hp _ Hs H1 (.refl sr.gr.sub) wQ⟩
def EH{ys:List PV}(h1:i<xs.length)(h2:i<ys.length):(abv (λa b=>PV.tup [a,b]) xs ys)[i]?=some (.tup [xs[i],ys[i]]):=by
 rw[List.getElem?_zipWith,VT h1,VT h2]
theorem Dz{b1 b2:Bool}{a1 a2:Addr}{ys:List PV}{us:List V}(RV:∀Ra H',aY Rm Ra->aY Ra H'->lE K H' b1 a1 vs)(Uh:aL Rm xs vs)(RO:∀Ra H',aY Rm Ra->aY Ra H'->lE K H' b2 a2 us)(Ui:aL Rm ys us):j7 (Pc K b1 b2 a1 a2) Rm (abv (λa b=>PV.tup [a,b]) xs ys) where
 stop:=λi Hs H s1 s2 hi=>by
  rw[aaq,Uh.length,Ui.length] at hi;exact⟨vs,us,RV Hs H s1 s2,RO Hs H s1 s2,by lia⟩
 go:=λi Hs H s1 s2 hi=>by
  rw[aaq] at hi;obtain⟨v,e,_⟩:=Uh.get (VT (show i<xs.length by lia));obtain⟨u,e',_⟩:=Ui.get (VT (show i<ys.length by lia));exact⟨vs,us,v,u,RV Hs H s1 s2,RO Hs H s1 s2,e,e'⟩
 vx:=λi Hs H x H2 s1 s2 hi y=>by
  rw[aaq] at hi;have l1:i<xs.length:=by lia
  have l2:i<ys.length:=by lia
  obtain⟨v,e,r⟩:=Uh.get (VT l1);obtain⟨u,e',r'⟩:=Ui.get (VT l2);obtain⟨pa,v',u',hn,rfl,rfl,y1,y2⟩:=y;have z1:=y1 vs (RV Hs H s1 s2);have z2:=y2 us (RO Hs H s1 s2);rw[e] at z1;cases z1;rw[e'] at z2;cases z2;have gr:=bb.new (o:=.tup [v,u]) s2 hn;exact⟨_,_,EH l1 l2,gr,.tup ay (.cons ((r.mono s1).mono gr.st) (.cons ((r'.mono s1).mono gr.st) .nil))⟩
def jc:yg E (Od K (tL E fs)) (kK zip2 fs):=by
 intro σ H R q;refine dW (K:=KI R) KI.g q λB H₀ Hs H1 env ps v sr rp hp=>?_;rw[<- aE (zip2 ps)] at hp;obtain⟨p,q,xs,ys,rfl,e1,e2,hp⟩:=B0 hp;obtain⟨w,u,rfl,Td,ru⟩:=rp.two;obtain⟨b1,a1,vs,rfl,RV,Uh⟩:=jW (K:=K) sr.gr.sub Td e1;obtain⟨b2,a2,us,rfl,RO,Ui⟩:=jW (K:=K) sr.gr.sub ru e2;exact⟨b1,b2,a1,a2,rfl,⟨vs,RV Hs H1 (λ_ _ z=>z) sr.gr.sub⟩,⟨us,RO Hs H1 (λ_ _ z=>z) sr.gr.sub⟩,hp _ Hs H1 (.refl sr.gr.sub) (Dz RV Uh RO Ui)⟩
end
theorem cn{E:XK}{pos:Pos}{g:TG}{set:PV->af->M af}{body:af->M Out}{bd:List Stmt}{wi:TI}{it:af->M (List PV)}(O:fk X λ_=>E)(hc:X.calm=true)(hi:PI X tg iter wi)(hv:yg (λ_=>E) wi it)(hg:PG X tg g)(TV:CP E g set)(hb:lA X bd (tS E body))(hs:autoParam ↑5 aI._auto_1):PS X (.For tg iter bd [] pos) (tS E (jn it set body)):=by
 refine(C2 O.own hc hi hg hb hs).imp λD σ H q=>hv σ H _ ?_;obtain⟨B,H₀,Hs,env,sr,q⟩:=q;refine⟨B,H₀,Hs,env,sr,(aw.bind q).imp (λxs hp J Ra H' gr ok=>?_) λe he=>he.grow sr.gr⟩;have S7:=sr.grow gr;refine⟨λi m σ H=>m=xs.length-i/\i<=xs.length/\Jv E set body D B H₀ Ra xs i σ H,⟨xs.length,by simp,Wb _,Ra,env,S7,λ_ _ z=>z,hp⟩,?_⟩;rintro i m σ' H2 ⟨rfl,hi,Rl,env2,RF,s2,h2⟩
 by_cases RW:i<xs.length
 .refine .inr ⟨ok.go i Rl H2 s2 RF.gr.sub RW,Jv E set body D B H₀ Ra xs (i+1),fun σ3 H3 j=>⟨xs.length-(i+1),by lia,rfl,RW,j⟩,λx H3 y=>?_⟩;obtain⟨p,SS,ep,g3,r3⟩:=ok.vx i Rl H2 x H3 s2 RF.gr.sub RW y;exact Jv.turn (Hx:=H2) (H1:=H2) TV ep RF s2 h2 g3 r3
 .have e:i=xs.length:=by lia
  refine .inl ⟨ok.stop i Rl H2 s2 RF.gr.sub ⋯,?_⟩;exact Jv.done (E:=E) (set:=set) (body:=body) (xs:=xs) (B:=B) (H₀:=H₀) (Rm:=Ra) (n:=i) ⟨Rl,env2,RF,s2,h2⟩ ⋯
abbrev EF:St->XK:=λ_ _ _ _=>False
def lX(env:af):Prop:=∀(i:Nat)(x:SV),env[i]?=some (some x)->∃p,x=.sh p
def lX.no{env:af}(n:lX env){x:SV}(e:env[i]?=some (some x))(o:iJ x=true):False:=by obtain⟨p,rfl⟩:=n i _ e;cases o
def DB:M α->M α
 | some (.ok a)=>some (.ok a)
 |_=>none
theorem aw.DB{α:Type}{x:M α}{Q:α->Prop}{E:EX->Prop}(h:aw (L2.DB x) Q E):aw x Q (λ_=>False):=by
 cases x with
 | none=>exact h
 | some x=>cases x with
  | ok a=>exact h
  |error e=>exact h
def mJ(n:Nat)(js:List Nat)(env:af):af:=VS n none++js.map λj=>match env[j]? with
 | some (some (.sh p))=>some (.sh p)
 |_=>none
theorem uh{env:af}{x:SV}(h:(mJ n js env)[i]?=some (some x)):∃j p,n<=i/\js[i-n]?=some j/\env[j]?=some (some (.sh p))/\x=.sh p:=by
 unfold mJ at h
 by_cases hi:i<n
 .rw[W3 (by simpa using hi),ZD] at h
  split at h<;>cases h
 .rw[WV (by simpa using hi),Ww,ZV] at h;cases hj:js[i-n]? with
  | none=>rw[hj] at h;cases h
  | some j =>
   rw[hj] at h;have h':(match env[j]? with|some (some (.sh p))=>some (SV.sh p)|_=>none)=some x:=V9 h
   split at h'
   .rename_i p e;cases h';exact⟨j,p,by lia,rfl,e,rfl⟩
   .cases h'
def mj{env:af}:lX (mJ n js env):=λi xs e=>by
 obtain⟨_,p,_,_,_,z⟩:=uh e;exact⟨p,z⟩
variable{D:Addr}
def SR.block{B:Hp}{env:af}(r:SR B H₀ Hs H σ env)(hD:H D=none):SR Hs H Hs (upd H D (.lst [])) (fZ ts js σ) (mJ ts.length js env) where
 gr:=(bb.refl r.gr.sub).kX (r.free hD).1 hD
 len:=by unfold fZ mJ;simp
 at_:=λi x e=>by
  obtain⟨j,q,hn,hj,he,rfl⟩:=uh e;obtain⟨v,h1,h2⟩:=r.sh j q he;refine⟨v,?_,h2⟩;unfold fZ;rw[WV (by simpa using hn),Ww,VW,hj];show some (σ[j]?).join=_;rw[h1];rfl
 ap:=λi j x y a _ e _ o=>(mj.no e o).elim
def SR.oE{B:Hp}{env:af}(r:SR B H₀ Hs H σ env)(n:lX env)(h1:Hs D=none)(h2:H₀ D=none):SR B H₀ Hs (upd H D o) σ env :=
 r.mv (r.gr.kX h1 h2) r.len (λ_ _ q=>q) λ_ _ e=>⟨e,rfl,λ_ _ o=>(n.no e o).elim⟩
def bF(set:PV->af->M af)(t:Option (af->M Bool))(f:af->M PV):List PV->af->M (List PV)
 | [],_=>M.ok []
 | x::xs,env=>(set x env).bind λe=>match t with
  | none=>(f e).bind λy=>(bF set t f xs e).bind λys=>M.ok (y::ys)
  |some t'=>(t' e).bind λb=>if b=true then (f e).bind λy=>(bF set t f xs e).bind λys=>M.ok (y::ys) else bF set t f xs e
def bR(it:af->M (List PV))(set:PV->af->M af)(t:Option (af->M Bool))(f:af->M PV)(n:Nat)(js:List Nat):af->M (List PV):=λenv=>(it env).bind λxs=>cO (xs.length<=sizeLine) (DB (bF set t f xs (mJ n js env)))
def mP(set:PV->af->M af):Prop:=∀p env e,set p env=some (.ok e)->lX env->lX e
def kn{env:af}(n:lX env):lX (env.set i (some (.sh p))):=λj xs e=>by
 rw[Wy] at e
 by_cases z:i=j
 .rw[if_pos z] at e
  split at e
  .cases e;exact⟨p,rfl⟩
  .cases e
 .rw[if_neg z] at e;exact n j xs e
def br:mP (bG i):=λp env e h n=>by
 cases h;exact kn n
def dj:mP (cC i j):=λp env e h n=>by
 unfold cC at h
 split at h
 .cases h;exact kn (kn n)
 .cases h
section
variable{set:PV->af->M af}{t:Option (af->M Bool)}{f:af->M PV}{Q:VK}{H1:Hp}
def Jc(set:PV->af->M af)(t:Option (af->M Bool))(f:af->M PV)(Q:VK)(Rm H1:Hp)(D:Addr)(xs:List PV)(i:Nat)(σ:St)(H:Hp):Prop:=∃Hs env ys vs,SR Rm H1 Hs H σ env/\lX env/\H D=some (.lst vs)/\Hs D=none/\aL Hs ys vs/\ys.length<=i ∧
 aw (bF set t f (xs.drop i) env) (λzs=>KO Q Rm H1 (ys++zs)) (λ_=>False)
def rem(H:Hp)(D:Addr):Hp:=λa=>if a=D then none else H a
def Fz:rem H D D=none:=by unfold rem;rw[if_pos rfl]
def jl(n:a≠D):rem H D a=H a:=by unfold rem;rw[if_neg n]
def IL(h:H D=some o):upd (rem H D) D o=H:=by
 funext a
 by_cases z:a=D
 .subst z;rw[ay,h]
 .rw[au z,jl z]
def Jc.done(hD:H1 D=none)(j:Jc set t f Q Rm H1 D xs i σ H)(hi:xs.length<=i):Q (.ref D) H:=by
 obtain⟨Hs,env,ys,vs,sr,n,h1,h2,r,_,h⟩:=j;rw[Yq hi] at h;have h':KO Q Rm H1 (ys++[]):=h;rw[W9] at h';have gr:bb Rm H1 Hs (rem H D):=by
  refine⟨sr.gr.st,λc u q=>?_,λc u q=>?_,sr.gr.nw⟩
  .rw[jl (λz=>by rw[z,hD] at q;cases q)];exact sr.gr.al c u q
  .rw[jl (λz=>by rw[z,h2] at q;cases q)];exact sr.gr.sub c u q
 have:=h' vs D Hs (rem H D) gr r Fz;rwa[IL h1] at this
theorem Jc.put{env:af}{ys:List PV}{y:PV}(hD:H1 D=none)(sr:SR Rm H1 Hs H σ env)(n:lX env)(h1:H D=some (.lst vs))(h2:Hs D=none)(r:aL Hs ys vs)(hy:ys.length<=i)(hi:i<sizeLine)(rv:Rep Hs y v)(h:aw ((bF set t f (xs.drop (i+1)) env).bind λzs=>M.ok (y::zs)) (λzs=>KO Q Rm H1 (ys++zs)) (λ_=>False)):∃us,H D=some (.lst us)/\us.length<sizeLine/\Jc set t f Q Rm H1 D xs (i+1) σ (upd H D (.lst (us++[v]))):=by
 refine⟨vs,h1,by rw[<- r.length];lia,Hs,env,ys++[y],vs++[v],sr.oE n h2 hD,n,ay,h2,r.snoc rv,by rw[WD];show ys.length+1<=i+1;lia,(aw.bind h).imp (λzs hz=>?_) λ_ z=>z⟩;have Uw:KO Q Rm H1 (ys++(y::zs)):=hz;rwa[acN]
end
section
variable{cl:List (Str×Addr)}{pos:Pos}{wi:TI}{it:af->M (List PV)}{g:TG}{set:PV->af->M af}{f:af->M PV}{u:af->M Bool}{fs:List Str}
def AW{s₀:Shared}{ex:List Addr}:fk (n9 X scope cl N C s₀ H₀ ex Q6) EF where
 pass:=λ_ _ _ _ _ _ _ h=>by
  obtain⟨_,_,_,_,_,_,_,_,_,_,_,_,_,z⟩:=h;exact z.elim
 new:=λ_ _ _ _ _ _ _ _ _ z=>z.elim
 own:=PassesOwn.never
theorem yv{Q:VK}(hv:yg E wi it)(TV:∀E,CP E g set)(so:mP set)(q:tO E (bR it set none f ts.length js) σ H Q):zM wi g (tE EF f) ts js σ H Q:=by
 refine hv σ H _ ?_;obtain⟨B,H₀,Hs,env,sr,q⟩:=q;refine⟨B,H₀,Hs,env,sr,(aw.bind q).imp (λxs hp J Rm H1 gr ok D hD=>?_) λe he=>he⟩;obtain⟨hz,hp⟩:=aw.cO hp;have hp:=aw.DB hp;have Ut:=sr.grow gr;refine⟨λi m σ H=>m=xs.length-i/\i<=xs.length/\Jc set none f Q Rm H1 D xs i σ H,⟨xs.length,by simp,Wb _,Rm,_,[],[],Ut.block hD,mj,ay,?_,.nil,VX _,hp.imp (λzs hz vs p Rl H2 g2 r n=>hz vs p Rl H2 (gr.trans g2) r n) λ_ z=>z⟩,?_⟩
 .cases z:Rm D with
  | none=>rfl
  | some o=>have:=gr.sub _ _ z;rw[hD] at this;cases this
 rintro i m σ' H2 ⟨rfl,hi,Rl,env2,ys,vs,RF,n2,d1,d2,r2,l2,h2⟩
 by_cases RW:i<xs.length
 .refine .inr ⟨ok.go i Rl H2 RF.gr.st RF.gr.sub RW,Jc set none f Q Rm H1 D xs (i+1),fun σ3 H3 j=>⟨xs.length-(i+1),by lia,rfl,RW,j⟩,λx H3 y=>?_⟩;obtain⟨p,SS,ep,g3,r3⟩:=ok.vx i Rl H2 x H3 RF.gr.st RF.gr.sub RW y;have hd:xs.drop i=p::xs.drop (i+1):=by
   rw[XC RW];rw[VT RW] at ep;rw[V9 ep]
  rw[hd] at h2;have h3:=aw.bind h2;have Tv:=RF.grow g3;refine TV (λ_ _ _=>False) Rm H1 SS H3 σ' env2 p x _ (λ_=>False) Tv r3 ?_;cases hset:set p env2 with
  | none=>rwa[hset] at h3
  | some z=>cases z with
   | error e=>rwa[hset] at h3
   | ok e3 =>
    rw[hset] at h3;intro σ4 sr4;have n4:=so p env2 e3 hset n2;refine⟨Rm,H1,SS,e3,sr4,(aw.bind h3).imp (λy hy v T3 H5 g5 r5=>?_) λ_ z=>z.elim⟩;exact Jc.put (set:=set) (t:=none) (f:=f) hD (sr4.grow g5) n4 (g5.al _ _ (g3.al _ _ d1)) (g5.nw _ _ (g3.nw _ _ d2 d1 (λ_=>nofun)) (g3.al _ _ d1) (λ_=>nofun)) ((r2.mono g3.st).mono g5.st) l2 ⋯ r5 hy
 .refine .inl ⟨ok.stop i Rl H2 RF.gr.st RF.gr.sub ⋯,?_⟩;exact Jc.done (set:=set) (t:=none) (f:=f) (xs:=xs) (Rm:=Rm) (H1:=H1) (i:=i) hD ⟨Rl,env2,ys,vs,RF,n2,d1,d2,r2,l2,h2⟩ ⋯
theorem xm{Q:VK}(hv:yg E wi it)(TV:∀E,CP E g set)(so:mP set)(q:tO E (bR it set (some u) f ts.length js) σ H Q):zu wi g (tT EF u) (tE EF f) ts js σ H Q:=by
 refine hv σ H _ ?_;obtain⟨B,H₀,Hs,env,sr,q⟩:=q;refine⟨B,H₀,Hs,env,sr,(aw.bind q).imp (λxs hp J Rm H1 gr ok D hD=>?_) λe he=>he⟩;obtain⟨hz,hp⟩:=aw.cO hp;have hp:=aw.DB hp;have Ut:=sr.grow gr;refine⟨λi m σ H=>m=xs.length-i/\i<=xs.length/\Jc set (some u) f Q Rm H1 D xs i σ H,⟨xs.length,by simp,Wb _,Rm,_,[],[],Ut.block hD,mj,ay,?_,.nil,VX _,hp.imp (λzs hz vs p Rl H2 g2 r n=>hz vs p Rl H2 (gr.trans g2) r n) λ_ z=>z⟩,?_⟩
 .cases z:Rm D with
  | none=>rfl
  | some o=>have:=gr.sub _ _ z;rw[hD] at this;cases this
 rintro i m σ' H2 ⟨rfl,hi,Rl,env2,ys,vs,RF,n2,d1,d2,r2,l2,h2⟩
 by_cases RW:i<xs.length
 .refine .inr ⟨ok.go i Rl H2 RF.gr.st RF.gr.sub RW,Jc set (some u) f Q Rm H1 D xs (i+1),fun σ3 H3 j=>⟨xs.length-(i+1),by lia,rfl,RW,j⟩,λx H3 y=>?_⟩;obtain⟨p,SS,ep,g3,r3⟩:=ok.vx i Rl H2 x H3 RF.gr.st RF.gr.sub RW y;have hd:xs.drop i=p::xs.drop (i+1):=by
   rw[XC RW];rw[VT RW] at ep;rw[V9 ep]
  rw[hd] at h2;have h3:=aw.bind h2;have Tv:=RF.grow g3;refine TV (λ_ _ _=>False) Rm H1 SS H3 σ' env2 p x _ (λ_=>False) Tv r3 ?_;cases hset:set p env2 with
  | none=>rwa[hset] at h3
  | some z=>cases z with
   | error e=>rwa[hset] at h3
   | ok e3 =>
    rw[hset] at h3;intro σ4 sr4;have n4:=so p env2 e3 hset n2;refine⟨Rm,H1,SS,e3,sr4,(aw.bind h3).imp (λb hb T3 H5 g5=>?_) λ_ z=>z.elim⟩;have d5:=g5.al _ _ (g3.al _ _ d1);have e5:=g5.nw _ _ (g3.nw _ _ d2 d1 (λ_=>nofun)) (g3.al _ _ d1) (λ_=>nofun);cases b with
    | true =>
     refine⟨Rm,H1,T3,e3,sr4.grow g5,(aw.bind hb).imp (λy hy v Hs6 H6 g6 r6=>?_) λ_ z=>z.elim⟩;exact Jc.put (set:=set) (t:=some u) (f:=f) hD ((sr4.grow g5).grow g6) n4 (g6.al _ _ d5) (g6.nw _ _ e5 d5 (λ_=>nofun)) (((r2.mono g3.st).mono g5.st).mono g6.st) l2 ⋯ r6 hy
    | false=>exact⟨T3,e3,ys,vs,sr4.grow g5,n4,d5,e5,(r2.mono g3.st).mono g5.st,by lia,hb⟩
 .refine .inl ⟨ok.stop i Rl H2 RF.gr.st RF.gr.sub ⋯,?_⟩;exact Jc.done (set:=set) (t:=some u) (f:=f) (xs:=xs) (Rm:=Rm) (H1:=H1) (i:=i) hD ⟨Rl,env2,ys,vs,RF,n2,d1,d2,r2,l2,h2⟩ ⋯
def bx(Rh:X.calm=true)(Rr:closureFor scope X.env=pure cl)(hk:scope.kind=.function)(nc:e_ scope.names=true)(lo:gu scope.names=true)(fh:gy cl scope.names=true)(ag:eI X cl)(fr:iE X scope cl fs js)(hi:PI X tg iter wi)(hv:yg E wi it)(hg:∀C s₀ H₀ ex Q6,PG (n9 X scope cl (ts++fs) C s₀ H₀ ex Q6) tg g)(TV:∀E,CP E g set)(so:mP set)(he:∀C s₀ H₀ ex Q6,PE (n9 X scope cl (ts++fs) C s₀ H₀ ex Q6) elt (tE EF f))(hs:autoParam ↑5 aI._auto_1):PE X (.ListComp elt [⟨tg,iter,[],0⟩] scope pos) (tO E (bR it set none f ts.length js)):=by
 exact(Fp Rh Rr hk nc lo fh ag fr hi hg he hs).imp fun σ H Q q=>yv hv TV so q
def w8(Rh:X.calm=true)(Rr:closureFor scope X.env=pure cl)(hk:scope.kind=.function)(nc:e_ scope.names=true)(lo:gu scope.names=true)(fh:gy cl scope.names=true)(ag:eI X cl)(fr:iE X scope cl fs js)(hi:PI X tg iter wi)(hv:yg E wi it)(hg:∀C s₀ H₀ ex Q6,PG (n9 X scope cl (ts++fs) C s₀ H₀ ex Q6) tg g)(TV:∀E,CP E g set)(so:mP set)(ht:∀C s₀ H₀ ex Q6,PT (n9 X scope cl (ts++fs) C s₀ H₀ ex Q6) c (tT EF u))(he:∀C s₀ H₀ ex Q6,PE (n9 X scope cl (ts++fs) C s₀ H₀ ex Q6) elt (tE EF f))(hs:autoParam ↑5 aI._auto_1):PE X (.ListComp elt [⟨tg,iter,[c],0⟩] scope pos) (tO E (bR it set (some u) f ts.length js)):=by
 exact(Fy Rh Rr hk nc lo fh ag fr hi hg ht he hs).imp fun σ H Q q=>xm hv TV so q
def bZ(fo:af->M (List PV)):af->M PV:=λenv=>(fo env).bind λps=>M.ok (.lst ps)
def bY{fo:af->M (List PV)}(he:PE X e (tO E fo)):PE X e (tE E (bZ fo)):=he.imp fun σ H Q q=>by
 obtain⟨B,H₀,Hs,env,sr,q⟩:=q;refine⟨B,H₀,Hs,env,sr,(aw.bind q).imp (λps hp vs p Ra H' g r n=>?_) λe he=>he⟩;have gn:=bb.new (o:=.lst vs) g.sub n;exact hp _ _ _ (g.trans gn) (.lst ay (r.mono gn.st))
end
def u6(f:Str)(v:PV):List (Str×PV)->List (Str×PV)
 | []=>[(f,v)]
 |(g,x)::r=>if g=f then (g,v)::r else (g,x)::u6 f v r
theorem hG.put{H:Hp}{f:Str}{p:PV}{v:V}(h:Rep H p v):∀{fs:List (Str×PV)}{vs:List (Str×V)},hG H fs vs->hG H (u6 f p fs) (kH f v vs)
 | _,_,.nil=>.cons h .nil
 | (g,x)::r,_,.cons hx hr=>by
  unfold u6 kH
  by_cases z:g=f
  .rw[if_pos z,if_pos z];exact .cons h hr
  .rw[if_neg z,if_neg z];exact .cons hx (hr.put h)
theorem hG.length{H:Hp}:∀{fs:List (Str×PV)}{vs:List (Str×V)},hG H fs vs->fs.length=vs.length
 | _,_,.nil=>rfl
 |_,_,.cons _ r=>by simp[r.length]
def SR.PF{B:Hp}{env:af}{dx:Addr}{fs gs:List (Str×PV)}{us:List (Str×V)}(r:SR B H₀ Hs H σ env)(e:env[i]?=some (some (.bd a C fs)))(h:hG Hs gs us):SR B H₀ Hs (upd H a (.ins C dx us)) σ (env.set i (some (.bd a C gs))):=by
 obtain⟨dx0,vs,h1,h2,h3,h4,h5⟩:=r.bd i a C fs e;exact r.EZ h1 (r.gr.kX h3 h4) (λ_ _ q=>q) (λ_ q=>by cases q;exact⟨_,rfl,dx,us,rfl,ay,h3,h4,h⟩) (λj y b u n ej o z q1 q2 _=>⟨by rwa[au (λw=>by subst w;exact r.ap i j _ y b n e ej rfl o h1 z)],q2⟩) λ_ _ _ k z n ek o=>r.ap i k _ z a n e ek rfl o h1
def DQ(i:Nat)(C:Addr)(f:Str)(p:PV)(env:af):M Out:=match env[i]? with
 | some (some (.bd a C' fs))=>cO (C'=C/\fs.length<1000) (M.ok (.nx (env.set i (some (.bd a C (u6 f p fs))))))
 |_=>none
def mI(i:Nat)(C:Addr)(fl:Str)(f:af->M PV):af->M Out:=λenv=>(f env).bind λp=>DQ i C fl p env
section
variable{E:XK}{pos px:Pos}{f:af->M PV}{fl:Str}
def mE(hi:X.N[i]?=some x)(hv:CA X.env.scope x)(c:oh X.K C)(na:cq X.K C fl)(he:PE X e (tE (λ_=>E) f))(hd:autoParam ↑7 aD._auto_1)(R3:autoParam ↑6 aD._auto_1)(hs:autoParam (swapsWith e (some (.Attribute (.Name x px) fl pos')) pos.line X.env=pure false) aR._auto_1):PS X (.Assign [.Attribute (.Name x px) fl pos'] e pos) (tS E (mI i C fl f)):=by
 refine(LQ (gP hi hv hd R3) he hs).imp λD σ H q=>jv q λB H₀ Hs H1 env p v sr rp hp=>?_;unfold DQ at hp
 split at hp
 .rename_i a C' fs ex;obtain⟨⟨rfl,hz⟩,hp⟩:=aw.cO hp;obtain⟨dx,vs,h1,h2,h3,h4,h5⟩:=sr.bd i a _ fs ex;exact⟨.ref a,h1,a,_,dx,vs,rfl,h2,c,na,by rwa[<- h5.length],hp σ Hs _ (sr.PF ex (h5.put rp))⟩
 .exact hp.elim
end
def BV(m:Nat)(a C:Addr)(ps:List PV):af:=some (.bd a C [])::mW (m-1) ps
def Ff(a C:Addr)(env:af):M (List (Str×PV)):=match (env[0]?:Option (Option SV)) with
 | some (some (.bd b D fs))=>cO (b=a/\D=C) (M.ok fs)
 |_=>none
def outI(a C:Addr):Out->M (List (Str×PV))
 | .nx env=>Ff a C env
 |_=>none
def Be(m:Nat)(g:af->M Out)(C a:Addr)(ps:List PV):M (List (Str×PV)):=(g (BV m a C ps)).bind (outI a C)
def Kj(s:Addr->M α):M α:=open Classical in if h:∃r,∀a,s a=r then h.choose else none
def yY{s:Addr->M α}{r:M α}(h:∀a,s a=r):Kj s=r:=by
 have hx:∃r,∀a,s a=r:=⟨r,h⟩
 unfold Kj;rw[dif_pos hx,<- hx.choose_spec 0,h 0]
theorem aw.Kj{α:Type}{s:Addr->M α}{Q:α->Prop}{E:EX->Prop}(h:aw (L2.Kj s) Q E)(a:Addr):aw (s a) Q E:=by
 unfold L2.Kj at h
 split at h
 .rename_i hx;rwa[hx.choose_spec a]
 .exact h.elim
def Ja(n:Nat)(C:Addr)(sem:Addr->List PV->M (List (Str×PV))):Sp:=λvs H Q E=>vs.length=n/\∃a dx us Hs H1 ps,vs=.ref a::us/\H1 a=none/\H1 dx=none/\dx≠a/\H=upd (upd H1 dx (.own a)) a (.ins C dx [])/\aY Hs H1/\aL Hs ps us ∧
 aw (sem a ps) (λfs=>∀U_ ws Ra H',bb Hs H1 Ra H'->H' a=some (.ins C U_ ws)->Ra a=none->hG Ra fs ws->Q .c6 H') (XW E Hs H1)
def SR.Mr{dx:Addr}{ps:List PV}(s:aY Hs H₀)(hN:0<N.length)(ha:H₀ a=none)(r:aL Hs ps vs)(hH:H=upd H₀ a (.ins C dx [])):SR Hs H₀ Hs H (L2.start N (.ref a::vs)) (BV N.length a C ps):=by
 have hs:Hs a=none:=by
  cases q:Hs a with
  | none=>rfl
  | some o=>have:=s _ _ q;rw[ha] at this;cases this
 have ne:∀c u,H₀ c=some u->c≠a:=λc u e z=>by rw[z,ha] at e;cases e
 have s0:=SR.start (N:=N.tail) s r;have e1:L2.start N (.ref a::vs)=some (.ref a)::L2.start N.tail vs:=by
  unfold L2.start;simp only[Wv,List.cons_append,WS,ade];rw[Nat.sub_sub,acO]
 have e2:BV N.length a C ps=some (.bd a C [])::mW N.tail.length ps:=by unfold BV;rw[ade]
 have al:aY H₀ H:=λc u q=>by rwa[hH,au (ne c u q)]
 rw[e1,e2];have no:∀(j:Nat)(x:SV),(mW N.tail.length ps)[j]?=some (some x)->iJ x=true->False:=λj x e o=>by
  obtain⟨v,h1,h2⟩:=s0.at_ j x e;obtain⟨b,u,_,q1,_,q2,_⟩:=h2.kX o;rw[q2] at q1;cases q1
 refine⟨⟨λ_ _ e=>e,al,λc u q=>al c u (s c u q),λc u q _ _=>q⟩,by simp[s0.len],λj x ej=>?_,λj k x y b nj e1 e2 o1 o2=>?_⟩
 .cases j with
  | zero=>cases ej;exact⟨_,rfl,dx,[],rfl,by rw[hH];exact ay,hs,ha,.nil⟩
  | succ j =>
   have ej:(mW N.tail.length ps)[j]?=some (some x):=by simpa using ej
   obtain⟨v,h1,h2⟩:=s0.at_ j x ej;exact⟨v,by simpa using h1,h2.mono (λ_ _ q=>q) λ_ _ o=>(no j x ej o).elim⟩
 .cases j with
  | zero=>cases k with
   | zero=>exact absurd rfl nj
   | succ k=>exact(no k y (by simpa using e2) o2).elim
  |succ j=>exact(no j x (by simpa using e1) o1).elim
def Hj{K:VU}{dV kV doc pm Rw ct oc:Value}{an:Option Addr}{g:af->M Out}(lk:K.lookup f=some ⟨oc,od,.func (Xr name qual params body scope dV kV doc pm an Rw ct),Ur⟩)(R3:Yd K Rw qual=true)(S:cS N ps scope)(hN:0<N.length)(hb:∀(A:Around)(outer:List Env)(s:Shared)(H:Hp)(E:XK),cp k (A.deeper (envOfC qual scope s.heap.objs.size f Rw))->lA ((mR (bX P w) P w K mg base N qual scope f Rw A outer s H E).out λ_=>E) body (tS E g)):aT P w K mg base (bX P w) (k+1) f (Xr name qual params body scope dV kV doc pm an Rw ct) ps (Ja ps.length C (Be N.length g C)):=by
 refine zQ lk R3 S (λvs H Q E h=>h.1) λA outer s H vs Q E hr hs=>⟨_,hb A outer s H E hr,?_⟩
 obtain⟨_,a,dx,us,Hs,H1,SJ,rfl,ha,hdx,TJ,hH,sm,r,h⟩:=hs;have ne:∀c u,H1 c=some u->c≠dx:=λc u e z=>by rw[z,hdx] at e;cases e
 have s0:aY H1 (upd H1 dx (.own a)):=λc u q=>by rwa[au (ne c u q)]
 have g0:bb Hs H1 Hs (upd H1 dx (.own a)):=⟨λ_ _ e=>e,s0,λc u q=>s0 c u (sm c u q),λ_ _ e _ _=>e⟩
 refine⟨Hs,_,Hs,_,SR.Mr (dx:=dx) g0.sub hN (by rwa[au (Xs TJ)]) r hH,(aw.bind h).imp (λo ho=>?_) λe he=>he.grow g0⟩;cases o with
 | rt p=>exact ho.elim
 | bk env=>exact ho.elim
 | ct env=>exact ho.elim
 | nx env =>
  intro σ Ra H' sr;have S6:aw (Ff a C env) _ _:=ho;unfold Ff at S6
  split at S6
  .rename_i b D fs ex;obtain⟨⟨rfl,rfl⟩,hp⟩:=aw.cO S6;obtain⟨U_,ws,h1,h2,h3,h4,h5⟩:=sr.bd 0 _ _ fs ex;exact hp U_ ws Ra H' (g0.trans sr.gr) h2 h3 h5
  .exact S6.elim
def cU(C:Addr)(sem:Addr->List PV->M (List (Str×PV)))(S8:List PV)(ps:List PV):M PV:=(Kj λa=>sem a (ps++S8)).bind λfs=>M.ok (.obj C fs)
section
variable{ns:List Str}{sem:Addr->List PV->M (List (Str×PV))}{p pos:Pos}{fs:af->M (List PV)}
def Gi(Mk:Mk X.K C f)(F:aT X.prog X.w X.K X.mg X.base (bX X.prog X.w) k f fd ns (Ja n C sem))(hr:cp (k+1) X.A)(hg:Gl X x)(hm:X.mg x=some (.ref C))(hb:Binds X.K fd ns ds)(hd:Vals R0 ds)(hdp:∀H,aL H S8 R0)(O:fk X E)(hl:∀a ps,sem a (ps++S8)≠none->ps.length+S8.length+1=n)(ha:PA X (e::es) (tL E fs))(Sb:autoParam ↑7 aD._auto_1)(he:autoParam ↑0 aR._auto_1)(Rt:autoParam ↑2 aR._auto_1):PE X (.Call (.Name x p) (e::es) [] pos) (tE E (ai (cU C sem S8) fs)):=by
 refine(FE Mk F hr hg hm hb hd O ha Sb he Rt).imp fun σ H Q q=>dW (K:=kj Q) kj.g q λB H₀ Hs H1 env SJ v sr rp hp=>?_;intro a dx ha hdx TJ;have r2:aL Hs (SJ++S8) (v++R0):=rp.append (hdp Hs);have Uv:=(aw.bind hp).Kj a;have hn:sem a (SJ++S8)≠none:=λz=>by
  rwa[z] at Uv
 refine⟨?_,a,dx,v++R0,Hs,H1,SJ++S8,rfl,ha,hdx,TJ,rfl,sr.gr.sub,r2,Uv.imp (λfl hfl U_ ws Ra H' g hw UJ Td=>⟨rfl,?_⟩) λe he=>he⟩
 .show (v++R0).length+1=n;rw[<- r2.length,WD];exact hl a SJ hn
 .have ne:∀c u,Ra c=some u->c≠a:=λc u q z=>by rw[z,UJ] at q;cases q
  have RN:aY Ra (upd Ra a (.ins C U_ ws)):=λc u q=>by rwa[au (ne c u q)]
  refine hfl (.ref a) (upd Ra a (.ins C U_ ws)) H' ⟨λc u q=>RN c u (g.st c u q),g.al,λc u q=>?_,λc u q1 q2 q3=>?_⟩ (.obj ay (Td.mono RN))
  .by_cases z:c=a
   .subst z;rw[ay] at q;cases q;exact hw
   .rw[au z] at q;exact g.sub c u q
  .have z:c≠a:=λz=>by rw[z,ha] at q2;cases q2
   rw[au z];exact g.nw c u q1 q2 q3
end
section
variable{a b:Expr}{pos:Pos}{f g h:af->M PV}
def pF{m:Nat}(h:n.log2<m):n<2^m:=by
 by_cases z:n=0
 .subst z;exact Yn m
 .exact(adj z).mp h
theorem aL.rep{H:Hp}{xs:List PV}{vs:List V}(r:aL H xs vs):∀k:Nat,aL H (VS k xs).flatten (VS k vs).flatten
 | 0=>.nil
 |k+1=>by rw[Xo,Xo,XZ,XZ];exact r.append (r.rep k)
def cP:PV->PV->M PV
 | .int i,.int j=>cO (i.natAbs.log2<67108864/\j.natAbs.log2<67108864) (M.ok (.int (i*j)))
 | .tup xs,.int k=>cO (xs.isEmpty=false/\-(2^63)<=k/\k<2^63/\xs.length*k.toNat<=sizeLine) (M.ok (.tup (VS k.toNat xs).flatten))
 | .lst xs,.int k=>cO (-(2^63)<=k/\k<2^63/\xs.length*k.toNat<=sizeLine) (M.ok (.lst (VS k.toNat xs).flatten))
 |_,_=>none
def IX(K:VU):R2:=λx y H Q=>(rI (λi j=>IntMulOk i j) λi j=>.int (i*j)) x y H Q\/Jf K x y H Q\/M6 x y H Q
def IF:gR X (binaryOp .Mult) (IX X.K):=gR.or IP (gR.or Hh C1)
def Kd{K:VU}:n_ E (IX K) cP:=by
 intro σ Hs H p q v u Q s rp rq h;cases rp with
 | int i=>cases rq with
  | int j =>
   obtain⟨hz,h⟩:=aw.cO h;exact .inl ⟨i,j,rfl,rfl,Eo (pF hz.1) (pF hz.2) (VX _),eK.flat h s (.int _)⟩
  | _=>exact h.elim
 | @tup a xs vs ha hx=>cases rq with
  | int k =>
   obtain⟨⟨h0,h1,h2,h3⟩,h⟩:=aw.cO h;have n1:vs≠[]:=λz=>by
    have:=hx.length;rw[z] at this;cases xs with
    | nil=>cases h0
    | cons _ _=>cases this
   refine .inr (.inl ⟨a,k,vs,rfl,rfl,g9.of (s _ _ ha),n1,h1,h2,by rwa[<- hx.length],λz=>?_,λz=>eK.tup h s (hx.rep _)⟩);subst z;rw[show (1:Int).toNat=1 from rfl,Xo,List.replicate_zero,XZ,List.flatten_nil,W9] at h;exact eK.flat h s (.tup ha hx)
  | _=>exact h.elim
 | @lst a xs vs ha hx=>cases rq with
  | int k =>
   obtain⟨⟨h1,h2,h3⟩,h⟩:=aw.cO h;exact .inr (.inr ⟨a,k,vs,rfl,rfl,s _ _ ha,h1,h2,by rwa[<- hx.length],eK.lst h s (hx.rep _)⟩)
  | _=>exact h.elim
 |_=>exact h.elim
def Iy:n_ E (rI E1 λi j=>.int (i.fdiv j)) (D7 (λ_ j=>decide (j≠0/\j.natAbs.log2<9000)) λi j=>i.fdiv j):=FY λi j z=>(of_decide_eq_true z:j≠0/\j.natAbs.log2<9000)
def Kc:n_ E (rI (λ_ j=>j≠0) λi j=>.int (i.fmod j)) (D7 (λ_ j=>decide (j≠0)) λi j=>i.fmod j):=FY λi j z=>of_decide_eq_true z
def Oc:PV->M PV
 | .int i=>M.ok (.int (-i))
 |_=>none
def lY(f:af->M PV):af->M PV:=λenv=>(f env).bind Oc
def Mf(ha:PE X a (tE E f)):PE X (.UnaryOp .USub a pos) (tE E (lY f)) :=
 (N3 Mj ha).imp fun σ H Q q=>N2 q λHs H1 p v s rp h=>by
  cases rp with
  | int i=>exact⟨i,rfl,eK.flat h s (.int _)⟩
  |_=>exact h.elim
def A0:PV->Bool
 | .c6=>true
 |_=>false
def FZ(r:Rep H p v):decide (v=.c6)=A0 p:=by
 cases r<;>rfl
def zF:PV->PV->M PV
 | p,.c6=>M.ok (.bl (A0 p))
 |_,_=>none
def Ea:n_ E (λx y H Q=>y=.c6/\Q (.bl (decide (x=.c6))) H) zF:=by
 intro σ Hs H p q v u Q s rp rq h;cases rq with
 | c6 =>
  have h':aw (M.ok (PV.bl (A0 p))) (eK Hs H Q) (XW (E σ) Hs H):=by cases p<;>exact h
  exact⟨rfl,by rw[FZ rp];exact eK.flat h' s (.bl _)⟩
 |_=>cases p<;>exact h.elim
def kf(o o':PV->PV->M PV)(f g h:af->M PV):af->M PV:=λenv=>(f env).bind λp=>(g env).bind λq=>(o p q).bind λz=>(yN z).bind λk=>if k=true then (h env).bind λr=>o' q r else M.ok (.bl false)
def yq{r r':R2}{o o':PV->PV->M PV}(hv:n_ E r o)(U4:n_ E r' o'){Q:VK}(q:tE E (kf o o' f g h) σ H Q):zL r r' (tE E f) (tE E g) (tE E h) σ H Q:=by
 refine bK (K:=kj Q) kj.g q λB H₀ Hs H1 env p v sr rp hp=>?_;refine⟨B,H₀,Hs,env,sr,(aw.bind hp).imp (λq hq u Rl H2 g2 ru=>?_) λe he=>he⟩;have RF:=sr.grow g2;refine hv σ Rl H2 p q v u _ RF.gr.sub (rp.mono g2.st) ru ((aw.bind hq).imp (λz hz w SS H3 g3 Td=>?_) λe he=>he.grow g2);obtain⟨k,ek,hk⟩:=aw.Ot (aw.bind hz);subst ek;cases Td;refine⟨k,rfl,?_⟩;have Tv:=RF.grow g3;cases k with
 | false=>exact hk _ _ _ (g2.trans g3) (.bl _)
 | true =>
  have SN:aw ((h env).bind λr=>o' q r) (kj Q Hs H1) (XW (E σ) Hs H1):=hk;refine⟨B,H₀,SS,env,Tv,(aw.bind SN).imp (λr hr w Uy H4 g4 rw4=>?_) λe he=>he.grow (g2.trans g3)⟩;exact U4 σ Uy H4 q r u w Q (Tv.grow g4).gr.sub ((ru.mono g3.st).mono g4.st) rw4 (hr.imp (λz hz w' T3 H5 g5 r5=>hz w' T3 H5 ((g2.trans g3).trans (g4.trans g5)) r5) λe he=>he.grow ((g2.trans g3).trans g4))
def xw{Tu:CmpOp}{r r':R2}{o o':PV->PV->M PV}(ho:gR X (compareOp op) r)(hv:n_ E r o)(S6:gR X (compareOp Tu) r')(U4:n_ E r' o')(ha:PE X a (tE E f))(hb:PE X b (tE E g))(hc:PE X c (tE E h))(hm:autoParam (lastMarks [op,Tu] [b,c]=false) aU._auto_1):PE X (.Compare a [op,Tu] [b,c] pos) (tE E (kf o o' f g h)) :=
 (CQ ho S6 ha hb hc hm).imp fun σ H Q q=>yq hv U4 q
def C0{Tu:CmpOp}{r r':R2}{o o':PV->PV->M PV}(ho:gR X (compareOp op) r)(hv:n_ E r o)(S6:gR X (compareOp Tu) r')(U4:n_ E r' o')(ha:PE X a (tE E f))(hb:PE X b (tE E g))(hc:PE X c (tE E h))(hm:autoParam (lastMarks [op,Tu] [b,c]=false) aU._auto_1):PT X (.Compare a [op,Tu] [b,c] pos) (tT E (dm (kf o o' f g h))) :=
 (FX ho S6 ha hb hc hm).imp fun σ H Q q=>yq hv U4 (mQ q)
def cY(u:af->M Bool)(b:af->M Out):Nat->af->M Out
 | 0,_=>none
 | n+1,env=>(u env).bind λt=>if t=true then (b env).bind λo=>match o with
   | .nx Rc=>cY u b n Rc
   | .ct Rc=>cY u b n Rc
   | .bk Rc=>M.ok (.nx Rc)
   | .rt p=>M.ok (.rt p)
  else M.ok (.nx env)
def Cn{E:XK}{u:af->M Bool}{g:af->M Out}(n:af->Nat)(O:fk X λ_=>E)(hc:PT X c (tT (λ_=>E) u))(hb:lA X body (tS E g)):PS X (.While c body [] pos) (tS E λenv=>cY u g (n env) env):=by
 refine(F4 O.own hc hb).imp λD σ H q=>?_;obtain⟨B,H₀,Hs,env,sr,q⟩:=q;refine⟨λm σ H=>∃Hs env,SR B H₀ Hs H σ env/\aw (cY u g m env) (KS D B H₀) (XW E B H₀),⟨n env,Hs,env,sr,q⟩,?_⟩;rintro m σ1 H1 ⟨Rm,env1,Ut,q1⟩;cases m with
 | zero=>exact q1.elim
 | succ m =>
  refine⟨B,H₀,Rm,env1,Ut,(aw.bind q1).imp (λt ht Rl H2 g2=>?_) λe he=>he.grow Ut.gr⟩;have RF:=Ut.grow g2;cases t with
  | false=>exact ht σ1 Rl H2 RF
  | true =>
   refine⟨fun σ' H'=>∃Ra Rc,SR B H₀ Ra H' σ' Rc/\aw (cY u g m Rc) (KS D B H₀) (XW E B H₀),fun σ' H' z=>⟨m,X7 m,z⟩,B,H₀,Rl,env1,RF,(aw.bind ht).imp (λo ho=>?_) λe he=>he⟩;cases o with
   | nx Rc=>exact fun σ' Ra H' S7=>⟨Ra,Rc,S7,ho⟩
   | ct Rc=>exact fun σ' Ra H' S7=>⟨Ra,Rc,S7,ho⟩
   | bk Rc=>exact ho
   |rt p=>exact ho
theorem j6{u:af->M Bool}{g:af->M Out}:∀(n k:Nat)(env:af),cY u g n env≠none->cY u g (n+k) env=cY u g n env
 | 0,_,_,h=>(h rfl).elim
 | n+1,k,env,h=>by
  rw[show n+1+k=(n+k)+1 by lia];unfold cY at h ⊢;cases hu:u env with
  | none=>rfl
  | some z =>
   cases z with
   | error e=>rfl
   | ok t =>
    rw[hu] at h;cases t with
    | false=>rfl
    | true =>
     show M.bind (g env) _=M.bind (g env) _;have h':M.bind (g env) (λo=>match o with
      | .nx Rc=>cY u g n Rc
      | .ct Rc=>cY u g n Rc
      | .bk Rc=>M.ok (.nx Rc)
      | .rt p=>M.ok (.rt p))≠none:=h
     cases hg:g env with
     | none=>rfl
     | some z =>
      cases z with
      | error e=>rfl
      | ok o =>
       rw[hg] at h';cases o with
       | nx Rc=>exact j6 n k Rc h'
       | ct Rc=>exact j6 n k Rc h'
       | bk Rc=>rfl
       |rt p=>rfl
def mG(u:af->M Bool)(b:af->M Out)(env:af):M Out:=open Classical in cY u b (if h:∃n,cY u b n env≠none then h.choose else 0) env
def CG{u:af->M Bool}{b:af->M Out}{env:af}(h:cY u b n env≠none):mG u b env=cY u b n env:=by
 have hx:∃n,cY u b n env≠none:=⟨n,h⟩
 unfold mG;rw[dif_pos hx];have h1:=hx.choose_spec;rw[<- j6 _ n env h1,<- j6 n hx.choose env h,acO]
def yl{E:XK}{u:af->M Bool}{g:af->M Out}(O:fk X λ_=>E)(hc:PT X c (tT (λ_=>E) u))(hb:lA X body (tS E g)):PS X (.While c body [] pos) (tS E (mG u g)) :=
 Cn (λenv=>open Classical in if h:∃n,cY u g n env≠none then h.choose else 0) O hc hb
end
def I_:PV->Option String
 | .c6=>some "NoneType"
 | .bl _=>some "bool"
 | .int _=>some "int"
 | .str _=>some "str"
 | .lst _=>some "list"
 | .kC _=>some "list"
 | .tup _=>some "tuple"
 | .emp=>some "dict"
 |_=>none
def oA(a t:String):Bool:=a==t||(a == "bool" && t == "int")
def pO(K:VU):Wr K (.type "NoneType") (.type "int")=some false:=by with_unfolding_all kernel_rfl
def yx(K:VU):Wr K (.type "bool") (.type "int")=some true:=by with_unfolding_all kernel_rfl
def tys:List String:=["int","bool","str","list","tuple"]
def Ny(K:VU){a t:String}(ha:I_ p=some a)(ht:t∈tys):Wr K (.type a) (.type t)=some (oA a t):=by
 have ht2:t="int" \/ t="bool" \/ t="str" \/ t="list" \/ t="tuple" := by simpa [tys] using ht
 cases p<;>cases ha<;>rcases ht2 with rfl|rfl|rfl|rfl|rfl<;>first
  | exact pO K
  | exact kt_NoneType_bool K
  | exact kt_NoneType_str K
  | exact kt_NoneType_list K
  | exact kt_NoneType_tuple K
  | exact yx K
  | exact kt_bool_bool K
  | exact kt_bool_str K
  | exact kt_bool_list K
  | exact kt_bool_tuple K
  | exact kt_int_int K
  | exact kt_int_bool K
  | exact kt_int_str K
  | exact kt_int_list K
  | exact kt_int_tuple K
  | exact kt_str_int K
  | exact kt_str_bool K
  | exact kt_str_str K
  | exact kt_str_list K
  | exact kt_str_tuple K
  | exact kt_list_int K
  | exact kt_list_bool K
  | exact kt_list_str K
  | exact kt_list_list K
  | exact kt_list_tuple K
  | exact kt_tuple_int K
  | exact kt_tuple_bool K
  | exact kt_tuple_str K
  | exact kt_tuple_list K
  | exact kt_tuple_tuple K
  | exact kt_dict_int K
  | exact kt_dict_bool K
  | exact kt_dict_str K
  | exact kt_dict_list K
  |exact kt_dict_tuple K
def yT{K:VU}{a:String}(s:aY Hs H)(r:Rep Hs p v)(ha:I_ p=some a):kI K H v (.type a):=by
 cases r with
 | c6=>cases ha;exact .c6
 | bl b=>cases ha;exact .bl b
 | int i=>cases ha;exact .int i
 | str x=>cases ha;exact .str x
 | tup h _=>cases ha;exact .tup (s _ _ h)
 | lst h _=>cases ha;exact .lst (s _ _ h)
 | kC h _=>cases ha;exact .kJ (s _ _ h)
 | emp h=>cases ha;exact .dK (s _ _ h)
 |_=>cases ha
theorem AG(K:VU){p:PV}{a:String}(ha:I_ p=some a):∀{Ts:List String},(∀t∈Ts,t∈tys)->aaO K (.type a) (Ts.map Xp)=some (Ts.any λt=>oA a t)
 | [],_=>rfl
 | t::r,h=>by
  have h1:=Ny K ha (h t V7);have h2:=AG K ha (Ts:=r) λt q=>h t (V5 _ q);simp only[Wv,aaO,h1,Z2];cases oA a t with
  | true=>rfl
  |false=>exact h2
structure zz (K:VU) (C:Addr):Prop where
 cls:oh K C
 ha:W6 K (.ref C) "__class__"=some (some (.builtin "object.__class__"))
 hn:ZK K (.builtin "object.__class__") "__get__"=some (some (.builtin "getset_descriptor.__get__"))
 MM:aad K (.builtin "object.__class__")=some true
 hm:aa8 K C (.type "object")=some true
def Cg(b:String->Bool)(ob oe:Addr->Option Bool):PV->M PV
 | .obj C _=>e9 ((ob C).map .bl)
 | .exc C _=>e9 ((oe C).map .bl)
 |p=>e9 ((I_ p).map λa=>.bl (b a))
section
variable{pos p px pt:Pos}{f:af->M PV}{T:String}{ob oe:Addr->Option Bool}
def z_{fo:Option (List (Str×PV))}(s:aY Hs H)(r:Rep Hs (.exc C fo) v):∃a UW,v=.ref a/\ExcAt H a C UW:=by
 cases r with
 | @wK a _ h=>exact⟨a,none,rfl,s _ _ h⟩
 |@vP a _ d _ vs h h2 _=>exact⟨a,some vs,rfl,d,s _ _ h,s _ _ h2⟩
def zY(b:String->Bool)(ob oe:Addr->Option Bool)(f:af->M PV):af->M PV:=λenv=>(f env).bind (Cg b ob oe)
def qJ{b:String->Bool}{p:PV}{Q:PV->Prop}{F:EX->Prop}(h:aw (Cg b ob oe p) Q F):(∃a,I_ p=some a/\Q (.bl (b a)))\/(∃C fs k,p=.obj C fs/\ob C=some k/\Q (.bl k))\/∃C fo k,p=.exc C fo/\oe C=some k/\Q (.bl k):=by
 cases p with
 | obj C fs =>
  obtain⟨z,e,q⟩:=aw.opt h;obtain⟨k,e2,rfl⟩:=Wo.mp e;exact .inr (.inl ⟨C,fs,k,rfl,e2,q⟩)
 | exc C fo =>
  obtain⟨z,e,q⟩:=aw.opt h;obtain⟨k,e2,rfl⟩:=Wo.mp e;exact .inr (.inr ⟨C,fo,k,rfl,e2,q⟩)
 | c6=>exact .inl ⟨_,rfl,h⟩
 | bl _=>exact .inl ⟨_,rfl,h⟩
 | int _=>exact .inl ⟨_,rfl,h⟩
 | str _=>exact .inl ⟨_,rfl,h⟩
 | tup _=>exact .inl ⟨_,rfl,h⟩
 | lst _=>exact .inl ⟨_,rfl,h⟩
 | kC _=>exact .inl ⟨_,rfl,h⟩
 | emp=>exact .inl ⟨_,rfl,h⟩
 | jB _=>exact h.elim
 |fn _=>exact h.elim
def yI{K:VU}{fs:List (Str×PV)}(s:aY Hs H)(r:Rep Hs (.obj C fs) v)(c:zz K C):kI K H v (.ref C):=by
 cases r with
 |obj h _=>exact .ins (s _ _ h) c.cls c.ha c.hn c.MM c.hm
def oz(hg:Gl X "isinstance")(hm:X.mg "isinstance"=none)(hT:PE X (.Name x pt) (tC (.ty T)))(ht:T∈tys)(US:∀C b,ob C=some b->zz X.K C/\Wr X.K (.ref C) (.type T)=some b)(Su:∀C b,oe C=some b->gG X.K C/\Wr X.K (.ref C) (.type T)=some b)(he:PE X e (tE E f))(h1:autoParam (starEach [e,.Name x pt] X.env=(false,eval e X.env)::starEach [.Name x pt] X.env) aR._auto_1)(h2:autoParam (starEach [.Name x pt] X.env=(false,eval (.Name x pt) X.env)::starEach [] X.env) aR._auto_1)(Rt:autoParam ((backTo pos (starEach [.Name x pt] X.env)).any (·.1)=false) aR._auto_1):PE X (.Call (.Name "isinstance" p) [e,.Name x pt] [] pos) (tE E (zY (λa=>oA a T) ob oe f)):=by
 refine(jA (c8.or ye rR) hg hm wu (cz he (cz hT fw h2) h1) ↑12 ↑12 h1 Rt).imp fun σ H Q q=>bK (K:=kj Q) kj.g q λB H₀ Hs H1 env p v sr rp hp=>?_;rcases qJ hp with ⟨a,ha,q⟩|⟨C,fs,k,rfl,e,q⟩|⟨C,fo,k,rfl,e,q⟩
 .exact .inl ⟨v,T,_,_,rfl,yT sr.gr.sub rp ha,Ny X.K ha ht,eK.flat q sr.gr.sub (.bl _)⟩
 .exact .inl ⟨v,T,_,_,rfl,yI sr.gr.sub rp (US C k e).1,(US C k e).2,eK.flat q sr.gr.sub (.bl _)⟩
 .obtain⟨a,UW,rfl,hx⟩:=z_ sr.gr.sub rp;exact .inr ⟨a,C,UW,k,(Su C k e).1,hx,.inl ⟨T,rfl,(Su C k e).2⟩,eK.flat q sr.gr.sub (.bl _)⟩
def LK(hg:Gl X "isinstance")(hm:X.mg "isinstance"=none)(hT:PE X (.Name x pt) (tC (.ref D)))(hk:∀p a,I_ p=some a->Wr X.K (.type a) (.ref D)=some false)(US:∀C b,ob C=some b->zz X.K C/\Wr X.K (.ref C) (.ref D)=some b)(Su:∀C b,oe C=some b->gG X.K C/\Wr X.K (.ref C) (.ref D)=some b)(he:PE X e (tE E f))(h1:autoParam (starEach [e,.Name x pt] X.env=(false,eval e X.env)::starEach [.Name x pt] X.env) aR._auto_1)(h2:autoParam (starEach [.Name x pt] X.env=(false,eval (.Name x pt) X.env)::starEach [] X.env) aR._auto_1)(Rt:autoParam ((backTo pos (starEach [.Name x pt] X.env)).any (·.1)=false) aR._auto_1):PE X (.Call (.Name "isinstance" p) [e,.Name x pt] [] pos) (tE E (zY (λ_=>false) ob oe f)):=by
 refine(jA (c8.or Ey rR) hg hm wu (cz he (cz hT fw h2) h1) ↑12 ↑12 h1 Rt).imp fun σ H Q q=>bK (K:=kj Q) kj.g q λB H₀ Hs H1 env p v sr rp hp=>?_;rcases qJ hp with ⟨a,ha,q⟩|⟨C,fs,k,rfl,e,q⟩|⟨C,fo,k,rfl,e,q⟩
 .exact .inl ⟨v,D,_,_,rfl,yT sr.gr.sub rp ha,hk p a ha,eK.flat q sr.gr.sub (.bl _)⟩
 .exact .inl ⟨v,D,_,_,rfl,yI sr.gr.sub rp (US C k e).1,(US C k e).2,eK.flat q sr.gr.sub (.bl _)⟩
 .obtain⟨a,UW,rfl,hx⟩:=z_ sr.gr.sub rp;exact .inr ⟨a,C,UW,k,(Su C k e).1,hx,.inr ⟨D,rfl,(Su C k e).2⟩,eK.flat q sr.gr.sub (.bl _)⟩
def GV{e2:Expr}{t2:TE}{Ts:List String}(hg:Gl X "isinstance")(hm:X.mg "isinstance"=none)(hT:PE X e2 t2)(ht2:∀σ H R,(∀p,H p=none->R (.ref p) (upd H p (.tup (Ts.map V.ty))))->t2 σ H R)(ht:∀t∈Ts,t∈tys)(US:∀C b,ob C=some b->zz X.K C/\aaO X.K (.ref C) (Ts.map Xp)=some b)(he:PE X e (tE E f))(h1:autoParam (starEach [e,e2] X.env=(false,eval e X.env)::starEach [e2] X.env) aR._auto_1)(h2:autoParam (starEach [e2] X.env=(false,eval e2 X.env)::starEach [] X.env) aR._auto_1)(Rt:autoParam ((backTo pos (starEach [e2] X.env)).any (·.1)=false) aR._auto_1):PE X (.Call (.Name "isinstance" p) [e,e2] [] pos) (tE E (zY (λa=>Ts.any λt=>oA a t) ob (λ_=>none) f)):=by
 refine(jA BN hg hm wu (cz he (cz hT fw h2) h1) ↑12 ↑12 h1 Rt).imp fun σ H Q q=>bK (K:=kj Q) kj.g q λB H₀ Hs H1 env p v sr rp hp=>?_;refine ht2 σ H1 _ λtp hn=>?_;have g:=bb.new (o:=.tup (Ts.map V.ty)) sr.gr.sub hn;rcases qJ hp with ⟨a,ha,q⟩|⟨C,fs,k,rfl,e,q⟩|⟨C,fo,k,rfl,e,q⟩
 .exact⟨v,tp,Ts,_,_,rfl,ay,yT g.sub (rp.mono g.st) ha,AG X.K ha ht,q _ _ _ g (.bl _)⟩
 .exact⟨v,tp,Ts,_,_,rfl,ay,yI g.sub (rp.mono g.st) (US C k e).1,(US C k e).2,q _ _ _ g (.bl _)⟩
 .cases e
end
section
open PySem.SeqAt (shaped noMix noMixAll)
mutual
def dat:PV->Option PyData
 | .c6=>some .none
 | .bl b=>some (.bool b)
 | .int i=>some (.int i)
 | .str x=>some (.str x)
 | .tup xs=>(oZ xs).map .tuple
 | .lst xs=>(oZ xs).map .list
 | .kC xs=>(oZ xs).map .list
 | .obj _ _=>none
 | .exc _ _=>none
 | .emp=>none
 | .jB _=>none
 |.fn _=>none
def oZ:List PV->Option (List PyData)
 | []=>some []
 |p::r=>(dat p).bind λd=>(oZ r).map (d::·)
end
mutual
theorem Rep.reads{Hs:Hp}(I:Inv X Q6 σ H s)(sm:aY Hs H):∀{p:PV}{v:V}{u:Value}{d:PyData},Rep Hs p v->RelV v u->dat p=some d->∃as,Reads s.heap u d as
 | _,_,u,d,.c6,r,e=>by
  cases e;cases (show u=WK from r);exact⟨_,.none⟩
 | _,_,u,d,.bl b,r,e=>by
  cases e;cases (show u=Yk b from r);exact⟨_,.bool b⟩
 | _,_,u,d,.int i,r,e=>by
  cases e;obtain⟨t,rfl⟩:=(show ∃t,u=aaD i t from r);exact⟨_,.int i t⟩
 | _,_,u,d,.str i,r,e=>by
  cases e;obtain⟨t,rfl⟩:=(show ∃t,u=aaE i t from r);exact⟨_,.str i t⟩
 | _,_,u,d,.tup (a:=a) ha hx,r,e=>by
  obtain⟨ds,e2,rfl⟩:=Wo.mp (show (oZ _).map PyData.tuple=some d from e);cases (show u=V4 a from r);obtain⟨Rb,r1,⟨o,ho,hc,n,hd⟩,_⟩:=I.tuple (g9.of (sm _ _ ha));obtain⟨as,ra⟩:=aL.reads I sm hx r1 e2;exact⟨_,.tuple ho hc hd (by simpa using ra)⟩
 | _,_,u,d,.lst (a:=a) ha hx,r,e=>by
  obtain⟨ds,e2,rfl⟩:=Wo.mp (show (oZ _).map PyData.list=some d from e);cases (show u=V4 a from r);obtain⟨Rb,r1,⟨o,n,ho,hc,_,hd⟩,_⟩:=I.list (gQ.of (sm _ _ ha));obtain⟨as,ra⟩:=aL.reads I sm hx r1 e2;exact⟨_,.list ho hc hd (by simpa using ra)⟩
 | _,_,u,d,.kC (a:=a) (o:=ob) ha hx,r,e=>by
  obtain⟨ds,e2,rfl⟩:=Wo.mp (show (oZ _).map PyData.list=some d from e);cases (show u=V4 a from r);obtain⟨Rb,r1,⟨o,n,ho,hc,_,hd⟩,_⟩:=I.list (.inl (.inr ⟨ob,sm _ _ ha⟩));obtain⟨as,ra⟩:=aL.reads I sm hx r1 e2;exact⟨_,.list ho hc hd (by simpa using ra)⟩
 | _,_,u,d,.obj _ _,r,e=>by cases e
 | _,_,u,d,.wK _,r,e=>by cases e
 | _,_,u,d,.vP _ _ _,r,e=>by cases e
 | _,_,u,d,.emp _,r,e=>by cases e
 | _,_,u,d,.jB _ _,r,e=>by cases e
 |_,_,u,d,.fn _,r,e=>by cases e
theorem aL.reads{Hs:Hp}(I:Inv X Q6 σ H s)(sm:aY Hs H):∀{p:List PV}{v:List V}{u:List Value}{d:List PyData},aL Hs p v->Vals v u->oZ p=some d->∃as,ReadsAll s.heap u d as
 | _,_,_,_,.nil,.nil,e=>by cases e;exact⟨_,.nil⟩
 | _,_,_,d,.cons (p:=p) (ps:=ps) h hr,.cons r rr,e=>by
  obtain⟨d1,e1,e2⟩:=ZF.mp (show (dat p).bind (λd=>(oZ ps).map (d::·))=some d from e);obtain⟨ds,e3,rfl⟩:=Wo.mp e2;obtain⟨as,ra⟩:=Rep.reads I sm h r e1;obtain⟨bs,rb⟩:=aL.reads I sm hr rr e3;exact⟨_,.cons ra rb⟩
end
def G0(d e:PyData):M Bool:=cO (shaped d=true/\shaped e=true/\noMix d e=true) (M.ok (same d e))
def p5(o:Bool->PV)(p q:PV):M PV:=match dat p,dat q with
 | some d,some e=>(G0 d e).bind λb=>M.ok (o b)
 |_,_=>none
def sW:PV->PV->M PV:=p5 λb=>.bl b
def n8:PV->PV->M PV:=p5 λb=>.bl (!b)
def F3(o:Bool->Bool):R2:=λx y H Q=>∃Hs p q d e,aY Hs H/\Rep Hs p x/\Rep Hs q y/\dat p=some d/\dat q=some e/\shaped d=true/\shaped e=true/\noMix d e=true/\Q (.bl (o (same d e))) H
def Fe(hu:X.A.units+64<cLine):gR X (compareOp .Eq) (F3 id):=by
 intro Q6 s σ H x y v u Q I rx ry h;obtain⟨Hs,p,q,d,e,sm,rp,rq,hd,he,h1,h2,h3,hq⟩:=h;obtain⟨as,ra⟩:=Rep.reads I sm rp rx hd;obtain⟨bs,rb⟩:=Rep.reads I sm rq ry he;exact eq_dataH_same ra rb h1 h2 hu h3 (zg I hq rfl)
def CT(hu:X.A.units+64<cLine):gR X (compareOp .NotEq) (F3 not):=by
 intro Q6 s σ H x y v u Q I rx ry h;obtain⟨Hs,p,q,d,e,sm,rp,rq,hd,he,h1,h2,h3,hq⟩:=h;obtain⟨as,ra⟩:=Rep.reads I sm rp rx hd;obtain⟨bs,rb⟩:=Rep.reads I sm rq ry he;exact ne_dataH_same ra rb h1 h2 hu h3 (zg I hq rfl)
def E5{o:Bool->Bool}:n_ E (F3 o) (p5 λb=>.bl (o b)):=by
 intro σ Hs H p q v u Q s rp rq h;unfold p5 at h
 split at h
 .rename_i d e hd he;have h':=aw.bind h;obtain⟨⟨h1,h2,h3⟩,h⟩:=aw.cO h';exact⟨Hs,p,q,d,e,s,rp,rq,hd,he,h1,h2,h3,eK.flat h s (.bl _)⟩
 .exact h.elim
def Ju:n_ E (F3 id) sW:=E5
def JF:n_ E (F3 not) n8:=E5
def p4(xs:List PV)(lo hi:Option Int):List PV:=(xs.drop (HT.dJ xs.length 0 lo)).take (HT.dJ xs.length xs.length hi-HT.dJ xs.length 0 lo)
def aL.cut(r:aL H xs vs)(lo hi:Option Int):aL H (p4 xs lo hi) (xi vs lo hi):=by
 unfold p4 xi;rw[r.length];exact(r.drop _).take _
abbrev N5(Q:Option Int->Hp->Prop):Hp->Hp->Option Int->Prop:=λHs H k=>∀Ra H',bb Hs H Ra H'->Q k H'
def Oz(E:St->XK)(g:af->M (Option Int)):TO:=fun σ H Q=>tG E g (N5 Q) σ H
def PO.imp{e:Option Expr}{t t':TO}(h:PO X e t)(i:∀σ H Q,t' σ H Q->t σ H Q):PO X e t':=λQ6 s σ H Q I q=>h Q6 s σ H Q I (i σ H Q q)
def Km:PV->M (Option Int)
 | .int i=>M.ok (some i)
 |_=>none
def Gs:af->M (Option Int):=λ_=>M.ok none
def mi(f:af->M PV):af->M (Option Int):=λenv=>(f env).bind Km
section
variable{lo hi:Option Expr}{pos p2:Pos}{f:af->M PV}{gl gh:af->M (Option Int)}
theorem N5.g{Q:Option Int->Hp->Prop}:KG (N5 Q):=λHs H Ra H' b k g Rl H2 g2=>k Rl H2 (g.trans g2)
def GW:PO X none (Oz E Gs):=HE.imp fun σ H Q q=>by
 obtain⟨B,H₀,Hs,env,sr,q⟩:=q;exact q Hs H (.refl sr.gr.sub)
def u7(he:PE X e (tE E f)):PO X (some e) (Oz E (mi f)):=(Gk he).imp fun σ H Q q=>bK (K:=N5 Q) N5.g q λB H₀ Hs H1 env p v sr rp hp=>by
 cases rp with
 | int i=>exact⟨i,rfl,hp Hs H1 (.refl sr.gr.sub)⟩
 |_=>exact hp.elim
end
def i9(xs:List PV):List PV:=xs.mapIdx λi x=>.tup [.int (i:Nat),x]
section
variable{K:VU}{fs:af->M (List PV)}
def uX(hq:∀Ra H',aY Rm Ra->aY Ra H'->gQ K H' a vs)(hr:aL Rm xs vs):j7 (L7 K a) Rm (i9 xs) where
 stop:=λi Hs H s1 s2 hi=>by
  unfold i9 at hi;rw[YD,hr.length] at hi;exact⟨vs,hq Hs H s1 s2,hi⟩
 go:=λi Hs H s1 s2 hi=>by
  unfold i9 at hi;rw[YD] at hi;obtain⟨v,e,_⟩:=hr.get (VT hi);exact⟨vs,v,hq Hs H s1 s2,e⟩
 vx:=λi Hs H x H2 s1 s2 hi y=>by
  unfold i9 at hi;rw[YD] at hi;obtain⟨v,e,r⟩:=hr.get (VT hi);obtain⟨pa,v',hn,rfl,rfl,y1⟩:=y;have z1:=y1 vs (hq Hs H s1 s2);rw[e] at z1;cases z1;have gr:=bb.new (o:=.tup [.int (i:Nat),v]) s2 hn;refine⟨.tup [.int (i:Nat),xs[i]],_,?_,gr,.tup ay (.cons (.int _) (.cons ((r.mono s1).mono gr.st) .nil))⟩;unfold i9;rw[ab3,VT hi];rfl
end
end
def Iz(lo st:Int)(n:Nat):It:=⟨λi _=>i<n,λi H x H'=>H'=H/\x=.int (lo+(i:Nat)*st),λi _=>n<=i⟩
theorem wY{K:VU}(it:Addr)(lo st:Int)(n:Nat):Turn P w K tg (Iz lo st n) [it] it (λi h=>IsRangeIter h it (lo+(i:Nat)*st) ((n:Int)-(i:Nat)) st) where
 mem:=by simp
 obj:=λi h st b hb=>by
  have e:b=it:=by simpa using hb
  subst e;exact⟨_,st,λv z=>by
   have z':Data.fields _=Data.cell v:=z;cases z'⟩
 keep:=λi h h' st k=>k it ↑13 _ st
 item:=by
  intro X hP hw hK hc i Q6 s σ H E I hf R4 hg;subst hP hw hK;obtain⟨f0,f1,f2,f3,f4,f5⟩:=hf it ↑13;have W:=Walks.range (prog:=X.prog) (w:=X.w) (I.ok.hd hc) it lo st n;refine W.item i s _ _ hg R4 λv h' tk hv VO kk=>?_;obtain⟨t,rfl⟩:=hv;have I1:Inv X Q6 σ H { s with heap:=h',toks:=tk }:=I.turned (λb o hb e=>kk b o (by simpa using hb) e) f0 f1 f3 f4 f5;exact⟨_,rfl,wX (s:={ s with heap:=h',toks:=tk }) (n := "range_iterator") VO rfl rfl ↑12 ⟨.int (lo+(i:Nat)*st),H,I1,⟨t,rfl⟩,⟨rfl,rfl⟩,VO,λb hb=>(hf b hb).1⟩⟩
 done:=by
  intro X hP hw hK hc i Q6 s σ H E I hf R4 hg;subst hP hw hK;obtain⟨f0,f1,f2,f3,f4,f5⟩:=hf it ↑13;exact abo (I.ok.hd hc) R4 (by have:n<=i:=hg;lia) λh' eb=>⟨rfl,I.turned (t':=s.toks) (λb o hb e=>eb b o hb e) f0 f1 f3 f4 f5⟩
 self:=λ_ _ _ _ _ st h=>abp st h
theorem wA(a b c:Int):0<=WC a b c:=by
 unfold WC
 split
 .split
  .have:=Yo (a:=b-a-1) (b:=c) ⋯ ⋯;lia
  .lia
 .split
  .have:=Yo (a:=a-b-1) (b:=-c) ⋯ ⋯;lia
  .lia
theorem Cp{R:It->Hp->Prop}{E:Value->Shared->Prop}{lo hi st:Int}{t u v:Tok}{tk:Nat}(I:Inv X Q6 σ H s)(hsm:aar lo hi st=true)(q:R (Iz lo st (WC lo hi st).toNat) H):wpAny ↑8 X.A (pyIter (.ref s.heap.objs.size)) (P1 X Q6 σ tg R) E { s with heap:=s.heap.push { cls:=.type "range",data:=.fields #[.int lo t,.int hi u,.int st v] },toks:=tk }:=by
 refine wpAny_pyIter_range (IsRange.new ..) hsm ?_;have I1:Inv X Q6 σ H { s with heap:=s.heap.push { cls:=.type "range",data:=.fields #[.int lo t,.int hi u,.int st v] },toks:=tk }:=I.kept λb o e=>VR _ e;refine⟨(s.heap.push { cls:=.type "range",data:=.fields #[.int lo t,.int hi u,.int st v] }).objs.size,[(s.heap.push { cls:=.type "range",data:=.fields #[.int lo t,.int hi u,.int st v] }).objs.size],_,_,H,rfl,
  I1.kept (t':=tk) λb o e=>VR _ e,wY _ lo st (WC lo hi st).toNat,?_,λb hb=>?_,q⟩
 .have e1:lo+((0:Nat):Int)*st=lo:=by simp
  have e2:(((WC lo hi st).toNat:Nat):Int)-((0:Nat):Int)=WC lo hi st:=by have:=wA lo hi st;lia
  show IsRangeIter _ _ (lo+((0:Nat):Int)*st) ((((WC lo hi st).toNat:Nat):Int)-((0:Nat):Int)) st;rw[e1,e2];exact V2 _ rfl
 .have e:b=(s.heap.push { cls:=.type "range",data:=.fields #[.int lo t,.int hi u,.int st v] }).objs.size:=by simpa using hb
  subst e;exact I1.rD (VX _) (I1.bA.fresh (VX _))
def C3(i j k:Int):Bool:=decide (k≠0)&&decide (k.natAbs<1073741824)&&aar i j k
def Jg(ta:TA):TI:=fun σ H R=>ta σ H λvs H1=>∃i j k:Int,vs=[.int i,.int j,.int k]/\C3 i j k=true/\R (Iz i k (WC i j k).toNat) H1
def uP{a b:Expr}{ta:TA}{p pos:Pos}(hg:Gl X "range")(hm:X.mg "range"=none)(ha:PA X [a,b,c] ta)(hs:autoParam (starEach [a,b,c] X.env=[(false,eval a X.env),(false,eval b X.env),(false,eval c X.env)]) aR._auto_1)(Sw:autoParam (starEach [b,c] X.env=[(false,eval b X.env),(false,eval c X.env)]) aR._auto_1):PI X tg (.Call (.Name "range" p) [a,b,c] [] pos) (Jg ta):=by
 intro Q6 s σ H R I h;refine Call_ (jK I hg hm boot_range (Xb (cv (ha pos Q6 s σ H _ I h) λus s1 ⟨vs,H1,I1,r1,q1⟩=>?_) (by rw[hs,Sw]) (by rw[Sw];rfl)));obtain⟨i,j,k,e,hc,q⟩:=q1;subst e;cases r1 with
 | cons r rr =>
  cases rr with
  | cons r' rr =>
   cases rr with
   | cons VM rr =>
    cases rr;obtain⟨t,rfl⟩:=r;obtain⟨t',rfl⟩:=r';obtain⟨t'',rfl⟩:=VM;unfold C3 at hc;rw[WT,WT] at hc;exact call_range_3 (of_decide_eq_true hc.1.1) (Cp I1 hc.2 q) (.inl (PyProof.noPylong_small (of_decide_eq_true hc.1.2)))
def Cs:List PV->M (List PV)
 | [.int i,.int j,.int k]=>cO (C3 i j k=true) (M.ok ((V6 (WC i j k).toNat).map λ(n:Nat)=>.int (i+n*k)))
 |_=>none
section
variable{K:VU}{fs:af->M (List PV)}
def Bz{lo st:Int}:j7 (Iz lo st n) Rm ((V6 n).map λ(i:Nat)=>PV.int (lo+(i:Int)*st)) where
 stop:=λi Hs H s1 s2 hi=>show n<=i by simpa using hi
 go:=λi Hs H s1 s2 hi=>show i<n by simpa using hi
 vx:=λi Hs H x H2 s1 s2 hi y=>by
  obtain⟨rfl,rfl⟩:=y;have UR:i<n:=by simpa using hi
  exact⟨.int (lo+(i:Int)*st),Hs,by simp[UR],.refl s2,.int _⟩
def BQ{ps:List PV}{Q:List PV->Prop}{F:EX->Prop}(h:aw (Cs ps) Q F):∃i j k,ps=[.int i,.int j,.int k]/\C3 i j k=true/\Q ((V6 (WC i j k).toNat).map λ(n:Nat)=>.int (i+n*k)):=by
 unfold Cs at h
 split at h
 .obtain⟨hc,h⟩:=aw.cO h;exact⟨_,_,_,rfl,hc,h⟩
 .exact h.elim
def aL.three{q r:PV}(h:aL H [p,q,r] vs):∃v u w,vs=[v,u,w]/\Rep H p v/\Rep H q u/\Rep H r w:=by
 cases h with
 |cons h r=>obtain⟨u,w,rfl,h2,h3⟩:=r.two;exact⟨_,_,_,rfl,h,h2,h3⟩
def xI:yg E (Jg (tL E fs)) (kK Cs fs):=by
 intro σ H R q;refine dW (K:=KI R) KI.g q λB H₀ Hs H1 env ps v sr rp hp=>?_;obtain⟨i,j,k,rfl,hc,hp⟩:=BQ hp;obtain⟨w,u,z,rfl,Td,ru,rz⟩:=rp.three;cases Td;cases ru;cases rz;exact⟨i,j,k,rfl,hc,hp _ Hs H1 (.refl sr.gr.sub) Bz⟩
end
def kB:List PV->List PV->List PV->List PV
 | x::xs,y::ys,z::zs=>.tup [x,y,z]::kB xs ys zs
 |_,_,_=>[]
theorem uA:∀{xs ys zs:List PV}{i:Nat}(h1:i<xs.length)(h2:i<ys.length)(h3:i<zs.length),(kB xs ys zs)[i]?=some (.tup [xs[i],ys[i],zs[i]])
 | x::xs,y::ys,z::zs,0,_,_,_=>rfl
 | x::xs,y::ys,z::zs,i+1,h1,h2,h3=>by
  show (kB xs ys zs)[i]?=_;exact uA (xs:=xs) (ys:=ys) (zs:=zs) (i:=i) (by simpa using h1) (by simpa using h2) (by simpa using h3)
 | [],_,_,_,h1,_,_=>by simp at h1
 | _::_,[],_,_,_,h2,_=>by simp at h2
 |_::_,_::_,[],_,_,_,h3=>by simp at h3
theorem lu:∀{xs ys zs:List PV},(kB xs ys zs).length=min xs.length (min ys.length zs.length)
 | x::xs,y::ys,z::zs=>by
  show (kB xs ys zs).length+1=_;rw[lu];simp only[WS];lia
 | [],_,_=>by simp[kB]
 | _::_,[],_=>by simp[kB]
 |_::_,_::_,[]=>by simp[kB]
def yh:List PV->M (List PV)
 | [p,q,r]=>match bP p,bP q,bP r with
  | some xs,some ys,some zs=>M.ok (kB xs ys zs)
  | _,_,_=>none
 |_=>none
section
variable{K:VU}{fs:af->M (List PV)}
theorem A5{b1 b2 b3:Bool}{a1 a2 a3:Addr}{ys zs:List PV}{us ws:List V}(RV:∀Ra H',aY Rm Ra->aY Ra H'->lE K H' b1 a1 vs)(Uh:aL Rm xs vs)(RO:∀Ra H',aY Rm Ra->aY Ra H'->lE K H' b2 a2 us)(Ui:aL Rm ys us)(Tr:∀Ra H',aY Rm Ra->aY Ra H'->lE K H' b3 a3 ws)(VB:aL Rm zs ws):j7 (O5 K b1 b2 b3 a1 a2 a3) Rm (kB xs ys zs) where
 stop:=λi Hs H s1 s2 hi=>by
  rw[lu,Uh.length,Ui.length,VB.length] at hi;exact⟨vs,us,ws,RV Hs H s1 s2,RO Hs H s1 s2,Tr Hs H s1 s2,by lia⟩
 go:=λi Hs H s1 s2 hi=>by
  rw[lu] at hi;obtain⟨v,e,_⟩:=Uh.get (VT (show i<xs.length by lia));obtain⟨u,e',_⟩:=Ui.get (VT (show i<ys.length by lia));obtain⟨w,e'',_⟩:=VB.get (VT (show i<zs.length by lia));exact⟨vs,us,ws,v,u,w,RV Hs H s1 s2,RO Hs H s1 s2,Tr Hs H s1 s2,e,e',e''⟩
 vx:=λi Hs H x H2 s1 s2 hi y=>by
  rw[lu] at hi;have l1:i<xs.length:=by lia
  have l2:i<ys.length:=by lia
  have l3:i<zs.length:=by lia
  obtain⟨v,e,r⟩:=Uh.get (VT l1);obtain⟨u,e',r'⟩:=Ui.get (VT l2);obtain⟨w,e'',VM⟩:=VB.get (VT l3);obtain⟨pa,v',u',w',hn,rfl,rfl,y1,y2,y3⟩:=y;have z1:=y1 vs (RV Hs H s1 s2);have z2:=y2 us (RO Hs H s1 s2);have z3:=y3 ws (Tr Hs H s1 s2);rw[e] at z1;cases z1;rw[e'] at z2;cases z2;rw[e''] at z3;cases z3;have gr:=bb.new (o:=.tup [v,u,w]) s2 hn;exact⟨_,_,uA l1 l2 l3,gr,.tup ay (.cons ((r.mono s1).mono gr.st) (.cons ((r'.mono s1).mono gr.st) (.cons ((VM.mono s1).mono gr.st) .nil)))⟩
def BH{ps:List PV}{Q:List PV->Prop}{F:EX->Prop}(h:aw (yh ps) Q F):∃p q r xs ys zs,ps=[p,q,r]/\bP p=some xs/\bP q=some ys/\bP r=some zs/\Q (kB xs ys zs):=by
 unfold yh at h
 split at h
 .split at h
  .exact⟨_,_,_,_,_,_,rfl,by assumption,by assumption,by assumption,h⟩
  .exact h.elim
 .exact h.elim
def sN:yg E (Jm K (tL E fs)) (kK yh fs):=by
 intro σ H R q;refine dW (K:=KI R) KI.g q λB H₀ Hs H1 env ps v sr rp hp=>?_;obtain⟨p,q,r,xs,ys,zs,rfl,e1,e2,e3,hp⟩:=BH hp;obtain⟨w,u,z,rfl,Td,ru,rz⟩:=rp.three;obtain⟨b1,a1,vs,rfl,RV,Uh⟩:=jW (K:=K) sr.gr.sub Td e1;obtain⟨b2,a2,us,rfl,RO,Ui⟩:=jW (K:=K) sr.gr.sub ru e2;obtain⟨b3,a3,ws,rfl,Tr,VB⟩:=jW (K:=K) sr.gr.sub rz e3;exact⟨b1,b2,b3,a1,a2,a3,rfl,⟨vs,RV Hs H1 (λ_ _ z=>z) sr.gr.sub⟩,⟨us,RO Hs H1 (λ_ _ z=>z) sr.gr.sub⟩,⟨ws,Tr Hs H1 (λ_ _ z=>z) sr.gr.sub⟩,hp _ Hs H1 (.refl sr.gr.sub) (A5 RV Uh RO Ui Tr VB)⟩
end
def ma(i j k:Nat):PV->af->M af
 | .tup [p,q,r],env=>M.ok (((env.set i (some (.sh p))).set j (some (.sh q))).set k (some (.sh r)))
 |_,_=>none
def vQ{E:XK}{K:VU}:CP E (jz K 3 (bC (aC i) (bC (aC j) (bC (aC k) jH)))) (ma i j k):=by
 intro B H₀ Hs H σ env p v Q Z sr r h;cases r with
 | @tup a xs vs ha hx =>
  match xs,hx with
  | [p,q,r],hx =>
   obtain⟨v,u,w,rfl,rp,rq,rr⟩:=hx.three;exact⟨a,[v,u,w],rfl,g9.of (sr.gr.sub _ _ ha),rfl,v,[u,w],rfl,u,[w],rfl,w,[],rfl,rfl,h _ (((sr.set rp).set rq).set rr)⟩
  | [],_=>exact h.elim
  | [_],_=>exact h.elim
  | [_,_],_=>exact h.elim
  | _::_::_::_::_,_=>exact h.elim
 |_=>exact h.elim
def mf:mP (ma i j k):=λp env e h n=>by
 unfold ma at h
 split at h
 .cases h;exact kn (kn (kn n))
 .cases h
section
variable{E:XK}{pos px:Pos}{fs:af->M (List PV)}{f h:af->M PV}
def ownAt(i:Nat)(env:af):M (List PV):=match env[i]? with
 | some (some (.ow xs))=>M.ok xs
 |_=>none
def aw.own{env:af}{Q:List PV->Prop}{F:EX->Prop}(h:aw (ownAt i env) Q F):∃xs,env[i]?=some (some (.ow xs))/\Q xs:=by
 unfold ownAt at h
 split at h
 .exact⟨_,by assumption,h⟩
 .exact h.elim
def Jw(i:Nat)(xs:List PV)(p:PV)(env:af):PV->M Out
 | .int n=>match CI xs.length n with
  | some j=>M.ok (.nx (env.set i (some (.ow (xs.set j p)))))
  | none=>none
 |_=>none
def JD(i:Nat)(g f:af->M PV):af->M Out:=λenv=>(f env).bind λp=>(ownAt i env).bind λxs=>(g env).bind (Jw i xs p env)
def C6{ie:Expr}(hi:X.N[i]?=some x)(hv:CA X.env.scope x)(hk:PE X ie (tE (λ_=>E) h))(he:PE X e (tE (λ_=>E) f))(hd:autoParam ↑7 aD._auto_1)(R3:autoParam ↑6 aD._auto_1)
  (ha:autoParam (∀v,assign (.Subscript (.Name x px) ie pos') X.env v=(do
   let ov <- holding [v] (eval (.Name x px) X.env)
   let iv <- holding [v,ov] (eval ie X.env)
   standAt pos'
   holding [v,ov,iv] (setItem ov iv v)
   release [v,ov,iv] [])) aI._auto_1)
  (hs:autoParam (swapsWithSole [.Subscript (.Name x px) ie pos'] e pos.line X.env=pure false) aR._auto_1) (hw:autoParam (swappedStores [.Subscript (.Name x px) ie pos'] e X.env=pure none) aR._auto_1)
  (h1:autoParam ((assignEach [.Subscript (.Name x px) ie pos'] X.env).map (·.2)=[assign (.Subscript (.Name x px) ie pos') X.env]) aR._auto_1):PS X (.Assign [.Subscript (.Name x px) ie pos'] e pos) (tS E (JD i h f)):=by
 refine(Mq he (LY (gP hi hv hd R3) hk set_list ha) hs hw h1).imp λD σ H q=>jv q λB H₀ Hs H1 env p v sr rp hp=>?_;obtain⟨xs,ex,hp⟩:=aw.own (aw.bind hp);obtain⟨a,vs,h1,h2,h3,h4,h5⟩:=sr.ow i xs ex;refine⟨.ref a,h1,B,H₀,Hs,env,sr,(aw.bind hp).imp (λk hk w Rl H2 g2 rk=>?_) λe he=>he.grow sr.gr⟩;have RF:=sr.grow g2;cases rk with
 | int n =>
  have SN:aw (match CI xs.length n with|some j=>M.ok (Out.nx (env.set i (some (.ow (xs.set j p)))))|none=>none) (KS D B H₀) (XW E B H₀):=hk
  split at SN
  .rename_i j ej;exact⟨a,vs,n,j,rfl,rfl,g2.al _ _ h2,by rwa[<- h5.length],SN σ Rl _ (RF.put ex h1 ((h5.mono g2.st).set (rp.mono g2.st) j))⟩
  .exact SN.elim
 |_=>exact hk.elim
end
def KO.gr{Q:VK}:KG (KO Q):=λHs H Ra H' b k g vs p Rl H2 g2 r n=>k vs p Rl H2 (g.trans g2) r n
section
variable{sem:List PV->M (List PV)}{p pos:Pos}{o:Expr}{fs:af->M (List PV)}{g:af->M PV}
end
mutual
def sR:PV->Bool
 | .c6=>true
 | .bl _=>true
 | .int _=>true
 | .str _=>true
 | .tup xs=>ot xs
 |_=>false
def ot:List PV->Bool
 | []=>true
 |p::r=>sR p&&ot r
end
mutual
theorem Rep.away{Hs:Hp}{a:Addr}{ws:List V}(ha:Hs a=some (.lst ws)):∀{p:PV}{v:V},Rep Hs p v->sR p=true->Rep (rem Hs a) p v
 | _,_,.c6,_=>.c6
 | _,_,.bl b,_=>.bl b
 | _,_,.int b,_=>.int b
 | _,_,.str b,_=>.str b
 | _,_,.tup (a:=c) h r,n=>by
  have nc:c≠a:=λz=>by subst z;rw[ha] at h;cases h
  exact .tup (by unfold rem;rwa[if_neg nc]) (r.away ha n)
 | _,_,.lst _ _,n=>by cases n
 | _,_,.kC _ _,n=>by cases n
 | _,_,.obj _ _,n=>by cases n
 | _,_,.wK _,n=>by cases n
 | _,_,.vP _ _ _,n=>by cases n
 | _,_,.emp _,n=>by cases n
 | _,_,.jB _ _,n=>by cases n
 |_,_,.fn _,n=>by cases n
theorem aL.away{Hs:Hp}{a:Addr}{ws:List V}(ha:Hs a=some (.lst ws)):∀{p:List PV}{v:List V},aL Hs p v->ot p=true->aL (rem Hs a) p v
 | _,_,.nil,_=>.nil
 | _,_,.cons h r,n=>by
  have n':=YK.mp (show (sR _&&ot _)=true from n);exact .cons (h.away ha n'.1) (r.away ha n'.2)
end
def Cz:M PV->M PV
 | some (.ok p)=>cO (sR p=true) (M.ok p)
 |_=>none
def DS:M Bool->M Bool
 | some (.ok p)=>M.ok p
 |_=>none
theorem aw.Cz{r:M PV}{Q:PV->Prop}{E:EX->Prop}(h:aw (L2.Cz r) Q E):aw r (λp=>sR p=true/\Q p) (λ_=>False):=by
 cases r with
 | none=>exact h
 | some r=>cases r with
  | error e=>exact h
  | ok p =>
   obtain⟨n,h⟩:=aw.cO h;exact⟨n,h⟩
theorem aw.DS{r:M Bool}{Q:Bool->Prop}{E:EX->Prop}(h:aw (L2.DS r) Q E):aw r Q (λ_=>False):=by
 cases r with
 | none=>exact h
 | some r=>cases r with
  | error e=>exact h
  |ok p=>exact h
def bb.back{Ra H':Hp}{ws:List V}(h1:Hs a=none)(hH:H a=some (.lst ws))(s:aY Hs H)(g:bb (upd Hs a (.lst ws)) H Ra H'):bb Hs H (rem Ra a) H'/\Ra a=some (.lst ws):=by
 have e:Ra a=some (.lst ws):=g.st _ _ ay;refine⟨⟨λc u q=>?_,g.al,λc u q=>?_,λc u q1 q2 q3=>?_⟩,e⟩
 .have nc:c≠a:=λz=>by subst z;rw[h1] at q;cases q
  unfold rem;rw[if_neg nc];exact g.st c u (by rwa[au nc])
 .unfold rem at q
  split at q
  .cases q
  .exact g.sub c u q
 .unfold rem
  by_cases nc:c=a
  .rw[if_pos nc]
  .rw[if_neg nc];exact g.nw c u (by rwa[au nc]) q2 q3
def SR.lend{B:Hp}{env:af}(r:SR B H₀ Hs H σ env)(e:env[i]?=some (some (.ow xs))):∃a vs,Hs a=none/\H a=some (.lst vs)/\SR B H₀ (upd Hs a (.lst vs)) H σ (pP i env):=by
 obtain⟨a,vs,h1,h2,h3,_⟩:=r.NV e;unfold pP;rw[e];exact⟨a,vs,h1,h2,h3⟩
def kY(i:Nat)(f:af->M PV):af->M PV:=λenv=>(ownAt i env).bind λ_=>Cz (f (pP i env))
def pd(i:Nat)(f:af->M Bool):af->M Bool:=λenv=>(ownAt i env).bind λ_=>DS (f (pP i env))
section
variable{f:af->M PV}{u:af->M Bool}
def qi(i:Nat)(he:PE X e (tE E f)):PE X e (tE E (kY i f)):=he.imp fun σ H Q q=>by
 obtain⟨B,H₀,Hs,env,sr,q⟩:=q;obtain⟨xs,ex,q⟩:=aw.own (aw.bind q);obtain⟨a,vs,h3,h2,RF⟩:=sr.lend ex;refine⟨B,H₀,_,_,RF,(aw.Cz q).imp (λp hp v Ra H' g r=>?_) λ_ z=>z.elim⟩;obtain⟨g2,ea⟩:=bb.back h3 h2 sr.gr.sub g;exact hp.2 v _ _ g2 (r.away ea hp.1)
def Aq(i:Nat)(he:PT X e (tT E u)):PT X e (tT E (pd i u)):=he.imp fun σ H Q q=>by
 obtain⟨B,H₀,Hs,env,sr,q⟩:=q;obtain⟨xs,ex,q⟩:=aw.own (aw.bind q);obtain⟨a,vs,h3,h2,RF⟩:=sr.lend ex;refine⟨B,H₀,_,_,RF,(aw.DS q).imp (λp hp Ra H' g=>?_) λ_ z=>z.elim⟩;obtain⟨g2,ea⟩:=bb.back h3 h2 sr.gr.sub g;exact hp _ _ g2
end
def bQ:PV->PV->M PV:=D7 (λ_ j=>decide (j≠0/\j.natAbs.log2<9000)) λi j=>i.fdiv j
def cQ:PV->PV->M PV:=D7 (λ_ j=>decide (j≠0)) λi j=>i.fmod j
def DX:PV->PV->M PV:=Dw λi j=>decide (i<j)
def F6:PV->PV->M PV:=Dw λi j=>decide (i<=j)
def Jd:PV->PV->M PV:=Dw λi j=>decide (j<i)
def MS:PV->PV->M PV:=Dw λi j=>decide (j<=i)
def Dy:n_ E (rI E1 λi j=>.int (i.fdiv j)) bQ:=Iy
def Hu:n_ E (rI (λ_ j=>j≠0) λi j=>.int (i.fmod j)) cQ:=Kc
def wb:n_ E (zT λi j=>.bl (decide (i<j))) DX:=v9
def oR:n_ E (zT λi j=>.bl (decide (i<=j))) F6:=v9
def Fi:n_ E (zT λi j=>.bl (decide (j<i))) Jd:=v9
def CV:n_ E (zT λi j=>.bl (decide (j<=i))) MS:=v9
def bw(n:Nat)(s:List PV->M PV):List PV->M PV:=λps=>cO (ps.length=n) (s ps)
def mZ{s:List PV->M PV}{ps:List PV}(h:bw n s ps≠none):ps.length=n:=by
 unfold bw cO at h
 split at h
 .assumption
 .exact(h rfl).elim
variable{dv:Value}
section
variable{K:VU}
def CZ{s:List PV->M PV}(F:aT P w K mg base (bX P w) k f fd ps (dX n s)):aT P w K mg base (bX P w) k f fd ps (dX n (bw n s)) where
 len:=λvs H Q E h=>by
  obtain⟨h0,Hs,qs,sm,r,h⟩:=h;exact F.len vs H Q E ⟨h0,Hs,qs,sm,r,(aw.cO h).2⟩
 run:=λA outer s H args us vs Q E hr e hb rv h=>by
  obtain⟨h0,Hs,qs,sm,r,h⟩:=h;exact F.run A outer s H args us vs Q E hr e hb rv ⟨h0,Hs,qs,sm,r,(aw.cO h).2⟩
structure dG (P:Program) (w:World) (K:VU) (mg:Str->Option Value) (base:Heap) (n:Nat) (x:Str) (m:Nat) (sem:List PV->M PV):Prop where
 ex:∃(f:Addr)(fd:FuncData)(ps:List Str),mg x=some (.ref f)/\W8 K (.ref f)=true/\ps.length=m/\Binds K fd ps []/\aT P w K mg base (bX P w) n f fd ps (dX m (bw m sem))
def bj.QF{st:Stmt}{g:af->M Out}(F:bj K x qual st dv f fd)(S:cS N ps (ba st))(hb:∀(Rw:Value)(A:Around)(outer:List Env)(s:Shared)(H:Hp)(E:XK),cp k (A.deeper (envOfC qual (ba st) s.heap.objs.size f Rw))->fk ((mR (bX P w) P w K mg base N qual (ba st) f Rw A outer s H E).out λ_=>E) (λ_=>E)->lA ((mR (bX P w) P w K mg base N qual (ba st) f Rw A outer s H E).out λ_=>E) (fg st) (tS E g)):aT P w K mg base (bX P w) (k+1) f fd ps (dX ps.length (bw ps.length (aA N.length g))):=by
 obtain⟨oc,od,kV,doc,pm,an,Rw,ct,Ur,rfl,lk,R3⟩:=F.ex;exact CZ (KY lk R3 S λA outer s H E hr=>hb Rw A outer s H E hr (ED rfl rfl))
end
section
variable{m:Nat}{sem:List PV->M PV}{fs:af->M (List PV)}{p pos:Pos}
def dG.call(F:dG X.prog X.w X.K X.mg X.base n x m sem)(hr:cp k X.A)(hn:n<=k)(hg:Gl X x)(O:fk X E)(ha:PA X (e::es) (tL E fs))(Sb:autoParam ↑7 aD._auto_1)(he:autoParam ↑0 aR._auto_1)(Rt:autoParam ↑2 aR._auto_1):PE X (.Call (.Name x p) (e::es) [] pos) (tE E (ai (bw m sem) fs)):=by
 obtain⟨f,fd,ps,h1,h2,h3,h4,h5⟩:=F.ex;have:=G6 (p:=p) (S8:=[]) h5 (hr.mono hn) hg h1 h2 h4 .nil (λ_=>.nil) O (λSJ hp=>by rw[W9] at hp;exact mZ hp) ha Sb he Rt;refine this.imp fun σ H Q q=>?_;have e:(λps=>bw m sem (ps++[]))=bw m sem:=by funext ps;rw[W9]
 rwa[e]
structure lj (P:Program) (w:World) (K:VU) (mg:Str->Option Value) (base:Heap) (C:Addr) (n:Nat) (x:Str) (m:Nat) (sem:List PV->M PV):Prop where
 ex:∃(f:Addr)(fd:FuncData)(ps:List Str),oh K C/\Meth K C x f/\Binds K fd ps []/\aT P w K mg base (bX P w) n f fd ps (dX m (bw m sem))
def lj.call{o:Expr}{g:af->M PV}(F:lj X.prog X.w X.K X.mg X.base C n x m sem)(hr:cp k X.A)(hn:n<=k)(O:fk X E)(ho:PE X o (tE E g))(ha:PA X (e::es) (tL E fs))
  (RN:autoParam ↑0 aR._auto_1) (Rt:autoParam ↑2 aR._auto_1)
  (ht:autoParam (eval (.Call (.Attribute o x apos) (e::es) [] pos) X.env=(do
   let ov <- eval o X.env
   standAt apos.atName
   let (f,first) <- holding [ov] (getMethod ov x pl)
   callWith pos f first (backTo pos (starEach (e::es) X.env)) (backToKw pos (keywordEach [] X.env)))) aR._auto_1) :
  PE X (.Call (.Attribute o x apos) (e::es) [] pos) (tE E (bc C x (bw m sem) g fs)):=by
 obtain⟨f,fd,ps,h1,h2,h3,h4⟩:=F.ex;exact Hl ho h1 h2 h4 (hr.mono hn) h3 O (λSJ hp=>mZ hp) ha RN Rt ht
def lj.NF{o:Expr}{g:af->M PV}(F:lj X.prog X.w X.K X.mg X.base C n x m sem)(hr:cp k X.A)(hn:n<=k)(O:fk X E)(ho:PE X o (tE E g))
  (ht:autoParam (eval (.Call (.Attribute o x apos) [] [] pos) X.env=(do
   let ov <- eval o X.env
   standAt apos.atName
   let (f,first) <- holding [ov] (getMethod ov x pl)
   callWith pos f first (backTo pos (starEach [] X.env)) (backToKw pos (keywordEach [] X.env)))) aR._auto_1) :
  PE X (.Call (.Attribute o x apos) [] [] pos) (tE E (bc C x (bw m sem) g ak)):=by
 obtain⟨f,fd,ps,h1,h2,h3,h4⟩:=F.ex;exact FN ho h1 h2 h4 (hr.mono hn) h3 O (λSJ hp=>mZ hp) ht
end
structure z6 (P:Program) (w:World) (K:VU) (mg:Str->Option Value) (base:Heap) (C:Addr) (n:Nat) (x:Str) (m:Nat) (S8:List PV) (sem:Addr->List PV->M (List (Str×PV))):Prop where
 ex:∃(f:Addr)(fd:FuncData)(ps:List Str)(ds:List Value)(R0:List V),mg x=some (.ref C)/\Mk K C f/\Binds K fd ps ds/\Vals R0 ds/\(∀H,aL H S8 R0)/\aT P w K mg base (bX P w) n f fd ps (Ja m C sem)
def wI(m:Nat)(sem:Addr->List PV->M (List (Str×PV))):Addr->List PV->M (List (Str×PV)):=λa ps=>cO (ps.length+1=m) (sem a ps)
def Ct{K:VU}{s:Addr->List PV->M (List (Str×PV))}(F:aT P w K mg base (bX P w) k f fd ps (Ja n C s)):aT P w K mg base (bX P w) k f fd ps (Ja n C (wI n s)) where
 len:=λvs H Q E h=>by
  obtain⟨h0,a,dx,us,Hs,H1,qs,e1,e2,e3,e4,e5,sm,r,h⟩:=h;exact F.len vs H Q E ⟨h0,a,dx,us,Hs,H1,qs,e1,e2,e3,e4,e5,sm,r,(aw.cO h).2⟩
 run:=λA outer s H args us vs Q E hr e hb rv h=>by
  obtain⟨h0,a,dx,us',Hs,H1,qs,e1,e2,e3,e4,e5,sm,r,h⟩:=h;exact F.run A outer s H args us vs Q E hr e hb rv ⟨h0,a,dx,us',Hs,H1,qs,e1,e2,e3,e4,e5,sm,r,(aw.cO h).2⟩
def bj.Qs{K:VU}{st:Stmt}{g:af->M Out}(F:bj K x qual st dv f fd)(S:cS N ps (ba st))(hN:0<N.length)(hb:∀(Rw:Value)(A:Around)(outer:List Env)(s:Shared)(H:Hp)(E:XK),cp k (A.deeper (envOfC qual (ba st) s.heap.objs.size f Rw))->fk ((mR (bX P w) P w K mg base N qual (ba st) f Rw A outer s H E).out λ_=>E) (λ_=>E)->lA ((mR (bX P w) P w K mg base N qual (ba st) f Rw A outer s H E).out λ_=>E) (fg st) (tS E g)):aT P w K mg base (bX P w) (k+1) f fd ps (Ja ps.length C (wI ps.length (Be N.length g C))):=by
 obtain⟨oc,od,kV,doc,pm,an,Rw,ct,Ur,rfl,lk,R3⟩:=F.ex;exact Ct <| Hj lk R3 S hN λA outer s H E hr=>hb Rw A outer s H E hr (ED rfl rfl)
section
variable{m:Nat}{fs:af->M (List PV)}{p pos:Pos}
def z6.make{sem:Addr->List PV->M (List (Str×PV))}(F:z6 X.prog X.w X.K X.mg X.base C n x m S8 (wI m sem))(hr:cp k X.A)(hn:n+1<=k)(hg:Gl X x)(O:fk X E)(ha:PA X (e::es) (tL E fs))(Sb:autoParam ↑7 aD._auto_1)(he:autoParam ↑0 aR._auto_1)(Rt:autoParam ↑2 aR._auto_1):PE X (.Call (.Name x p) (e::es) [] pos) (tE E (ai (cU C (wI m sem) S8) fs)):=by
 obtain⟨f,fd,ps,ds,R0,h1,h2,h4,h5,h6,h7⟩:=F.ex;refine Gi (p:=p) h2 h7 (hr.mono hn) hg h1 h4 h5 h6 O (λa SJ hp=>?_) ha Sb he Rt;unfold wI cO at hp
 split at hp
 .rename_i h;rwa [WD] at h
 .exact(hp rfl).elim
def He{f:af->M PV}(hg:Gl X "list")(hm:X.mg "list"=none)(he:PE X e (tE E f))(h1:autoParam (starEach [e] X.env=(false,eval e X.env)::starEach [] X.env) aR._auto_1)(Rt:autoParam ((backTo pos (starEach [] X.env)).any (·.1)=false) aR._auto_1):PE X (.Call (.Name "list" p) [e] [] pos) (tO E (AF f)):=by
 refine(oO nJ hg hm nP (cz he fw h1) ↑12 ↑12 h1 Rt).imp fun σ H Q q=>bK (K:=KO Q) KO.gr q λB H₀ Hs H1 env p v sr rp hp=>?_;cases hs:bP p with
 | none=>rw[hs] at hp;exact hp.elim
 | some xs =>
  rw[hs] at hp;obtain⟨a,us,rfl,hq,hx⟩:=zw (K:=X.K) sr.gr.sub rp hs;exact⟨a,us,rfl,hq,λl n=>hp us l Hs H1 (.refl sr.gr.sub) hx n⟩
end
def tD:Addr->Option Bool:=λ_=>none
def oM{P:Addr->Bool->Prop}:∀C b,tD C=some b->P C b:=λ_ _ h=>by cases h
def vr{pos:Pos}(i:Nat)(hN:autoParam (X.N[i]?=some x) aR._auto_1)(hv:CA X.env.scope x:=by first|exact .inl rfl|exact .inr (.inl rfl)|exact .inr (.inr rfl))(hd:autoParam ↑7 aD._auto_1)(R3:autoParam ↑6 aD._auto_1):PE X (.Name x pos) (tE E (ae i)):=L9 hN hv hd R3
def ND{env:Env}(h:(match e with|.Starred ..=>true|_=>false)=false):starEach (e::es) env=(false,eval e env)::starEach es env:=by
 cases e<;>first|rfl|cases h
section
variable{pos:Pos}
end
def Fo:PV->PV->M (List PV)
 | .lst xs,.int k=>cO (-(2^63)<=k/\k<2^63/\xs.length*k.toNat<=sizeLine) (M.ok (VS k.toNat xs).flatten)
 |_,_=>none
def Mv(f g:af->M PV):af->M (List PV):=λenv=>(f env).bind λp=>(g env).bind λq=>Fo p q
section
variable{a b:Expr}{pos:Pos}{f g:af->M PV}
def Kr(ha:PE X a (tE E f))(hb:PE X b (tE E g)):PE X (.BinOp a .Mult b pos) (tO E (Mv f g)):=by
 refine(JA C1 ha hb).imp fun σ H Q q=>bK (K:=KO Q) KO.gr q λB H₀ Hs H1 env p v sr rp hp=>?_;refine⟨B,H₀,Hs,env,sr,(aw.bind hp).imp (λq hq u Ra H' g' ru=>?_) λe he=>he⟩;have S7:=sr.grow g';have rp':=rp.mono g'.st;cases rp' with
 | @lst l xs vs ha hx=>cases ru with
  | int k =>
   obtain⟨⟨h1,h2,h3⟩,h⟩:=aw.cO hq;exact⟨l,k,vs,rfl,rfl,S7.gr.sub _ _ ha,h1,h2,by rwa[<- hx.length],λp n=>h _ p Ra H' g' (hx.rep _) n⟩
  | _=>exact hq.elim
 |_=>exact hq.elim
end
structure Bu (K:VU) (mg:Str->Option Value) (C:Addr) (x:Str):Prop where
 hc:Z6 K C fW "ValueError.__new__"=true
 c:gG K C
 ht:Zb K (.ref C)=some (.type "type")
 kp:W8 K (.ref C)=true
 m:mg x=some (.ref C)
structure tV (P:Program) (w:World) (K:VU) (mg:Str->Option Value) (base:Heap) (C:Addr) (x fl:Str):Prop where
 ex:∃(f:Addr)(fd:FuncData)(ps:List Str),se K C "ValueError.__new__" f=true/\Zi K (.ref f)=true/\aT P w K mg base (bX P w) 1 f fd ps (Bn K C fl)/\Binds K fd ps []
 c:gG K C
 ht:Zb K (.ref C)=some (.type "type")
 kp:W8 K (.ref C)=true
 m:mg x=some (.ref C)
section
variable{E:XK}{pos p:Pos}{fl:Str}{fs:af->M (List PV)}
def Bu.raise(F:Bu X.K X.mg C x)(O:fk X λ_=>E)(Rh:X.calm=true)(hg:Gl X x)(ha:PA X (e::es) (tL (λ_=>E) fs))(Sb:autoParam ↑7 aD._auto_1)(he:autoParam ↑0 aR._auto_1)(Rt:autoParam ((backTo Rz (starEach es X.env)).any (·.1)=false) aR._auto_1):PS X (.Raise (some (.Call (.Name x p) (e::es) [] Rz)) none pos) (tS E (kS C fs)):=BO O Rh F.hc F.c F.ht F.kp hg F.m ha Sb he Rt
def tV.raise(F:tV X.prog X.w X.K X.mg X.base C x fl)(hr:cp k X.A)(hn:2<=k)(O:fk X λ_=>E)(Rh:X.calm=true)(hg:Gl X x)(ha:PA X [e] (tL (λ_=>E) fs))(Sb:autoParam ↑7 aD._auto_1)(he:autoParam (starEach [e] X.env=(false,eval e X.env)::starEach [] X.env) aR._auto_1)(Rt:autoParam ((backTo Rz (starEach [] X.env)).any (·.1)=false) aR._auto_1):PS X (.Raise (some (.Call (.Name x p) [e] [] Rz)) none pos) (tS E (kh C fl fs)):=by
 obtain⟨f,fd,ps,h1,h2,h3,h4⟩:=F.ex;exact A9 O Rh h1 h2 F.c F.ht F.kp h3 (hr.mono hn) h4 hg F.m ha Sb he Rt
end
section
variable{pos:Pos}
end
section
variable{cl:List (Str×Addr)}{pos:Pos}{wi:TI}{it:af->M (List PV)}{g:TG}{set:PV->af->M af}{f:af->M PV}{fs:List Str}
variable{E:XK}{py SM:Pos}
def vR(Rh:X.calm=true)(Rr:closureFor scope X.env=pure cl)(hk:scope.kind=.function)(nc:e_ scope.names=true)(lo:gu scope.names=true)(fh:gy cl scope.names=true)(ag:eI X cl)(fr:iE X scope cl fs js)(hi:PI X tg iter wi)(hv:yg (λ_=>E) wi it)(hg:∀C s₀ H₀ ex Q6,PG (n9 X scope cl (ts++fs) C s₀ H₀ ex Q6) tg g)(TV:∀E,CP E g set)(so:mP set)(he:∀C s₀ H₀ ex Q6,PE (n9 X scope cl (ts++fs) C s₀ H₀ ex Q6) elt (tE EF f))(hN:X.N.Nodup)(U0:X.N[i]?=some y)(hy:Loc X.env.scope y)(hs:autoParam ↑5 aI._auto_1)(UJ:autoParam (swapsWith (.ListComp elt [⟨tg,iter,[],0⟩] scope pos) (some (.Name y py)) SM.line X.env=pure true) aR._auto_1)(hf:autoParam (X.fn y=true\/X.env.scope.names.lookup y=some .local) aF._auto_1):PS X (.Assign [.Name y py] (.ListComp elt [⟨tg,iter,[],0⟩] scope pos) SM) (tS E (bo i (bZ (bR it set none f ts.length js)))):=by
 refine(Gf hN U0 hy Rh Rr hk nc lo fh ag fr hi hg he hs UJ hf).imp λD σ H q=>?_;refine yv hv TV so ?_;obtain⟨B,H₀,Hs,env,sr,q⟩:=q;refine⟨B,H₀,Hs,env,sr,(aw.bind (aw.bind q)).imp (λps hp vs p Ra H' g r n=>?_) λe he=>he.grow sr.gr⟩;have gn:=bb.new (o:=.lst vs) g.sub n;exact hp _ _ _ ((sr.grow (g.trans gn)).set (.lst ay (r.mono gn.st)))
end
section
variable{a:Expr}{ta:TA}{p pos:Pos}
end
section
variable{fs:af->M (List PV)}{a:Expr}{p p2 pos pos2:Pos}
end
section
open AutoSeq1 (wpAny_loadPart')
def BS(l:Addr)(items:Array Value)(n:Nat)(jB:Option Addr)(sl:Array (Option Value)):Meets (Builtin.«enumerate.__new__» ⟨[.type "enumerate",.ref l],[]⟩) (λ_ R s=>s.heap.get? l=some { cls:=.type "tuple",dict:=jB,data:=.seq items n,slots:=sl } ∧R (.ok (.ret (.ref (s.heap.push { cls:=.type "tuple_iterator",data:=.fields #[.ref l,.int 0 0] }).objs.size))) { s with heap:=(s.heap.push { cls:=.type "tuple_iterator",data:=.fields #[.ref l,.int 0 0] }).push { cls:=.type "enumerate",data:=.fields #[.none,.bool false,.ref s.heap.objs.size,rawInt 0,.none,.none] } }) :=
 .of_wp λprog w A R s h=>by
  obtain⟨hp,g,d,tk,os⟩:=s;obtain⟨hl,h⟩:=h;have VC:=sub_enumerate;have hL:Heap.IsTuple (aaa ⟨hp,g,d,tk,os⟩) l items:=⟨_,hl,rfl,n,rfl⟩
  wp_walk using Y7 hl
  refine wpAny_stack_any λst=>VY ?_
  split
  .rename_i c _ _ _ _ _;cases (c==Xp "enumerate")
   .wp_walk using Y7 hl,YB hL
    exact⟨_,rfl,h⟩
   .wp_walk using Y7 hl,YB hL
    exact⟨_,rfl,h⟩
  .wp_walk using Y7 hl,YB hL
   exact⟨_,rfl,h⟩
section
variable{E:Value->Shared->Prop}
def zc(hL:s.heap.IsTuple l items)(h:∀h',IsEnum h' (s.heap.objs.size+1) s.heap.objs.size 0 .none->h'.IsTupleIter s.heap.objs.size l 0->h'.objs.size=s.heap.objs.size+2 ->(∀b o,s.heap.get? b=some o->h'.get? b=some o)->Q (.ref (s.heap.objs.size+1)) { s with heap:=h' }):wpAny ↑11 A (call (.type "enumerate") [.ref l]) Q E s:=by
 obtain⟨⟨c,jB,dt,sl⟩,hl,hc,n,hd⟩:=hL
 replace hc:c=.type "tuple" := hc
 replace hd:dt=.seq items n:=hd
 subst hc hd;refine acQ F.called_enumerate ↑12 (F.typeCall_enumerate_1 _) (F.newCall_enumerate_1 _) (λobj=>F.args_object_init_2 obj _) F.entry_enumerate_new
  (BS l items n jB sl) ⟨hl,?_⟩
 have hz:(s.heap.push { cls:=.type "tuple_iterator",data:=.fields #[.ref l,.int 0 0] }).objs.size=s.heap.objs.size+1:=WN ..;show _/\_;rw[hz];have he:IsEnum ((s.heap.push { cls:=.type "tuple_iterator",data:=.fields #[.ref l,.int 0 0] }).push
   { cls:=.type "enumerate",data:=.fields #[.none,.bool false,.ref s.heap.objs.size,rawInt 0,.none,.none] }) (s.heap.objs.size+1) s.heap.objs.size 0 .none:=by
  have:=V2 (s.heap.push { cls:=.type "tuple_iterator",data:=.fields #[.ref l,.int 0 0] })
   (o:={ cls:=.type "enumerate",data:=.fields #[.none,.bool false,.ref s.heap.objs.size,rawInt 0,.none,.none] }) rfl
  rwa[hz] at this
 refine⟨⟨_,he,rfl⟩,h _ he ⟨_,VR _ (V2 _ rfl),rfl,rfl⟩ (by rw[WN,hz]) λb o x=>VR _ (VR _ x)⟩
end
def Lh(hh:A.handled=none)(it t:Addr)(items:Array Value):Draws prog w A it [it,t] items.size (λi v=>items[i]?=some v) (λi h=>h.IsTupleIter it t i/\h.IsTuple t items) where
 live:=λ_ _ st=>let ⟨⟨o,ho,_⟩,_⟩:=st;⟨o,ho⟩
 frame:=λ_ _ _ st hk=>by
  obtain⟨⟨o,ho,r⟩,⟨o2,Ti,r2⟩⟩:=st;exact⟨⟨o,hk it ↑13 o ho,r⟩,⟨o2,hk t ↑13 o2 Ti,r2⟩⟩
 item:=λi s Q E hi st hQ=>by
  obtain⟨st,tt⟩:=st;refine i6 st tt (x:=items[i]) (by simp[hi]) λh' UZ UT=>?_;refine hQ _ h' s.toks (by simp[hi]) ⟨UZ,?_⟩ UT;obtain⟨o,ho,c1,_⟩:=st;obtain⟨o2,Ti,c2,r2⟩:=tt;refine⟨o2,(UT.2 t λz=>?_).trans Ti,c2,r2⟩;rw[z,ho] at Ti;cases Ti;rw[c1] at c2;exact absurd c2 ↑12
 done:=λs Q E st hE=>fJ hh st.1 st.2 ↑13 hE
def LB (K : VU)(a : Addr) : It :=
  ⟨λi H => ∃xs x,g9 K H a xs /\ xs[i]? = some x,
   λi H y H' => ∃p x,H p=none /\ y=.ref p /\ H'=upd H p (.tup [.int i,x]) /\ ∀xs,g9 K H a xs -> xs[i]? = some x,
   λi H => ∃xs,g9 K H a xs /\ xs.length <= i⟩
theorem yK{K:VU}{tp:Pos}(a e it:Addr)(TJ:e≠it):Turn P w K (.Tuple elts x1 tp) (LB K a) [e,it] e (λi h=>(∃old,IsEnum h e it i old)/\h.IsTupleIter it a i) where
 mem:=by simp
 obj:=λi h st b hb=>by
  obtain⟨⟨old,he⟩,⟨o,e1,c,d⟩⟩:=st;rcases Wd.mp hb with z|z
  .subst z;exact⟨_,he,λv z=>by cases z⟩
  .have z':b=it:=by simpa using z
   subst z';exact⟨o,e1,λv z=>by rw[d] at z;cases z⟩
 keep:=λi h h' st k=>by
  obtain⟨⟨old,he⟩,⟨o,ho,r⟩⟩:=st;exact⟨⟨old,k e ↑13 _ he⟩,⟨o,k it ↑13 o ho,r⟩⟩
 item:=by
  intro X hP hw hK hc i Q6 s σ H E I hf st hg;subst hP hw hK;obtain⟨xs,x,hq,hx⟩:=hg;obtain⟨Rb,rv,p,hz⟩:=I.tuple hq;obtain⟨u,hu,ru⟩:=rv.get hx;obtain⟨⟨old,he⟩,hit⟩:=st;have Ub:e<s.heap.objs.size:=V3 he;have UY:it<s.heap.objs.size:=by obtain⟨_,z,_⟩:=hit;exact V3 z
  have hea:e ∉ [it,a]:=λz=>by
   rcases Wd.mp z with z|z
   .exact TJ z
   .obtain⟨o,ho,c,_⟩:=p;rw[<- Wi.mp z,he] at ho;cases ho;exact absurd (show Xp "enumerate"=Xp "tuple" from c) ↑12
  have UR:i<Rb.toArray.size:=by
   have:=(WB.mp hu).1;simpa using this
  refine wpAny_pyNext_enum_itemD (Lh (A:=X.A.in1) (I.ok.hd hc) it a Rb.toArray) he ⟨hit,p⟩ UR TJ hea λu' h' tk hu' ho RN hT hsz hk=>⟨_,rfl,?_⟩
  have eu:u'=u:=by
   rw[abQ,hu] at hu';exact(V9 hu').symm
  subst eu;refine aaL (s:={ s with heap:=h',toks:=tk+1 }) ho λh2 he2 Sw=>?_;have Ul:∀b o,b ∉ [e,it]->s.heap.get? b=some o->h2.get? b=some o:=λb o hb q=>by
   have n1:b≠e:=λz=>hb (by simp[z]);have n2:b≠it:=λz=>hb (by simp[z]);exact(Sw.2 b n1).trans (hk b o n1 n2 q)
  have UB:h2.get? s.heap.objs.size=some { cls:=.type "tuple",data:=.seq #[.int i tk,u'] }:=(Sw.2 _ (XM Ub)).trans hT;have I2:Inv X Q6 σ (upd H s.heap.objs.size (.tup [.int i,x])) { s with heap:=h2,toks:=tk+1 } :=
   I.lG (ch:=[e,it]) Ul hf (VX _) (λb hb=>by
    rcases Wd.mp hb with z|z
    .subst z;exact⟨_,he⟩
    .have z':b=it:=by simpa using z
     subst z';obtain⟨o,z,_⟩:=hit;exact⟨o,z⟩)
    ⟨by show 2<=sizeLine;decide,[.int i tk,u'],.cons ⟨_,rfl⟩ (.cons ru .nil),⟨_,UB,rfl,_,rfl⟩⟩
  have SH:H s.heap.objs.size=none:=I.bA.fresh (VX _);obtain⟨oi,hoi,ri⟩:=RN.1;refine⟨.ref s.heap.objs.size,_,I2,rfl,⟨_,x,SH,rfl,rfl,λys hy=>by rwa[I.oP hy hq]⟩,⟨⟨u',by simpa using he2⟩,⟨oi,(Sw.2 it (Xs TJ)).trans hoi,ri⟩⟩,λb hb=>?_⟩;have nb:b≠s.heap.objs.size:=by
   rcases Wd.mp hb with z|z
   .rw[z];exact V_ Ub
   .have z':b=it:=by simpa using z
    rw[z'];exact V_ UY
  rw[au nb];exact(hf b hb).1
 done:=by
  intro X hP hw hK hc i Q6 s σ H E I hf st hg;subst hP hw hK;obtain⟨xs,hq,hx⟩:=hg;obtain⟨Rb,rv,p,hz⟩:=I.tuple hq;have hl:=rv.length;obtain⟨⟨old,he⟩,hit⟩:=st;obtain⟨f0,f1,f2,f3,f4,f5⟩:=hf it ↑13;have hT:s.TypeIs (.ref e) "enumerate" := ⟨_,he,rfl⟩
  unfold pyNext;refine VQ (Yw (WQ (name:=WG "__next__") hT F.slot_enumerate_next
   (Xg F.slot_enumerate_next hT F.entry_enumerate_next ?_ (F.args_enumerate_next_1 _))))
  show wpAny _ _ (field (.ref e) 2 >>= _) _ _ _;refine VQ (Wz he rfl (x:=.ref it) rfl ?_);refine VQ (fJ (I.ok.hd hc) hit p (by simp;lia) λh' x he' hx'=>?_);obtain⟨o,ho,UD⟩:=hx';refine VQ (Zj (T := "StopIteration") (b:=true) ⟨o,ho,UD⟩ aaM ?_);exact VY ⟨rfl,I.turned (t':=s.toks) (λb o hb e=>he' b o hb e) f0 f1 f3 f4 f5⟩
 self:=λ_ _ _ _ _ st h=>by
  obtain⟨⟨old,he⟩,_⟩:=st;exact ZO he h
def Nv(K:VU)(tl:TA):TI:=fun σ H R=>tl σ H λvs H1=>∃a,vs=[.ref a]/\(((∃xs,gQ K H1 a xs)/\R (L7 K a) H1)\/((∃xs,g9 K H1 a xs)/\R (LB K a) H1))
def o5{tp:Pos}{l:Expr}{p pos:Pos}(hg:Gl X "enumerate")(hm:X.mg "enumerate"=none)(hl:PA X [l] tl)(hs:autoParam (starEach [l] X.env=[(false,eval l X.env)]) aR._auto_1):PI X (.Tuple elts x1 tp) (.Call (.Name "enumerate" p) [l] [] pos) (Nv X.K tl):=by
 intro Q6 s σ H R I h;refine Call_ (jK I hg hm PyProof.Rows.boot_enumerate (Xb (cv (hl pos Q6 s σ H _ I h) λus s1 ⟨vs,H1,I1,r1,q1⟩=>?_) hs rfl));obtain⟨a,e,q⟩:=q1;subst e;cases r1 with
 | cons r rr =>
  cases rr;cases (show _=V4 a from r);have fp:∀b∈[s1.heap.objs.size+1,s1.heap.objs.size],lQ X Q6 H1 b:=λb hb=>by
   rcases Wd.mp hb with z|z
   .subst z;exact I1.rD (Z9 _) (I1.bA.fresh (Z9 _))
   .have z':b=s1.heap.objs.size:=by simpa using z
    subst z';exact I1.rD (VX _) (I1.bA.fresh (VX _))
  rcases q with ⟨⟨xs,hq⟩,q⟩|⟨⟨xs,hq⟩,q⟩
  .obtain⟨Rb,rv,pl,hz⟩:=I1.list hq;refine call_enumerate_list pl.isList λh' he hit hsz hk=>?_;refine ZO (s:={ s1 with heap:=h' }) he ?_;exact⟨s1.heap.objs.size+1,[s1.heap.objs.size+1,s1.heap.objs.size],_,_,H1,rfl,I1.kept (t':=s1.toks) hk,Cv a _ _ (abi _),⟨⟨_,he⟩,hit⟩,fp,q⟩
  .obtain⟨Rb,rv,pl,hz⟩:=I1.tuple hq;refine zc pl λh' he hit hsz hk=>?_;refine ZO (s:={ s1 with heap:=h' }) he ?_;exact⟨s1.heap.objs.size+1,[s1.heap.objs.size+1,s1.heap.objs.size],_,_,H1,rfl,I1.kept (t':=s1.toks) hk,yK a _ _ (abi _),⟨⟨_,he⟩,hit⟩,fp,q⟩
def P_(p:PV):M (List PV):=match bP p with
 | some xs=>M.ok (i9 xs)
 |none=>none
def F_:List PV->M (List PV)
 | [p]=>P_ p
 |_=>none
section
variable{K:VU}{fs:af->M (List PV)}
def Dr(hq:∀Ra H',aY Rm Ra->aY Ra H'->g9 K H' a vs)(hr:aL Rm xs vs):j7 (LB K a) Rm (i9 xs) where
 stop:=λi Hs H s1 s2 hi=>by
  unfold i9 at hi;rw[YD,hr.length] at hi;exact⟨vs,hq Hs H s1 s2,hi⟩
 go:=λi Hs H s1 s2 hi=>by
  unfold i9 at hi;rw[YD] at hi;obtain⟨v,e,_⟩:=hr.get (VT hi);exact⟨vs,v,hq Hs H s1 s2,e⟩
 vx:=λi Hs H x H2 s1 s2 hi y=>by
  unfold i9 at hi;rw[YD] at hi;obtain⟨v,e,r⟩:=hr.get (VT hi);obtain⟨pa,v',hn,rfl,rfl,y1⟩:=y;have z1:=y1 vs (hq Hs H s1 s2);rw[e] at z1;cases z1;have gr:=bb.new (o:=.tup [.int (i:Nat),v]) s2 hn;refine⟨.tup [.int (i:Nat),xs[i]],_,?_,gr,.tup ay (.cons (.int _) (.cons ((r.mono s1).mono gr.st) .nil))⟩;unfold i9;rw[ab3,VT hi];rfl
def lq:yg E (Nv K (tL E fs)) (kK F_ fs):=by
 intro σ H R q;refine dW (K:=KI R) KI.g q λB H₀ Hs H1 env ps v sr rp hp=>?_
 match ps,rp,hp with
 | [],_,hp=>exact hp.elim
 | _::_::_,_,hp=>exact hp.elim
 | [p],rp,hp =>
  obtain⟨w,rfl,Td⟩:=rp.one;cases Td with
  | lst ha hx=>exact⟨_,rfl,.inl ⟨⟨_,gQ.of (sr.gr.sub _ _ ha)⟩,hp _ Hs H1 (.refl sr.gr.sub) (uX (λRa H' s1 s2=>gQ.of (s2 _ _ (s1 _ _ ha))) hx)⟩⟩
  | kC ha hx=>exact⟨_,rfl,.inl ⟨⟨_,.inl (.inr ⟨_,sr.gr.sub _ _ ha⟩)⟩,hp _ Hs H1 (.refl sr.gr.sub) (uX (λRa H' s1 s2=>.inl (.inr ⟨_,s2 _ _ (s1 _ _ ha)⟩)) hx)⟩⟩
  | tup ha hx=>exact⟨_,rfl,.inr ⟨⟨_,g9.of (sr.gr.sub _ _ ha)⟩,hp _ Hs H1 (.refl sr.gr.sub) (Dr (λRa H' s1 s2=>g9.of (s2 _ _ (s1 _ _ ha))) hx)⟩⟩
  |_=>exact hp.elim
end
end
def PC(E:St->XK)(f:af->M Out):TS:=λD σ H=>∃B H₀ Hs env,SR B H₀ Hs H σ env/\aw (f env) (KS D B H₀) (XW (E σ) Hs H)
def BL{f:af->M PV}{g:af->PV->M Out}{D:Ends}{R:VK}(h:PC E (λenv=>(f env).bind (g env)) D σ H)(k:∀B H₀ Hs H1 env p v,SR B H₀ Hs H1 σ env->Rep Hs p v->aw (g env p) (KS D B H₀) (λ_=>True)->R v H1):tE E f σ H R:=by
 obtain⟨B,H₀,Hs,env,sr,h⟩:=h;refine⟨B,H₀,Hs,env,sr,(aw.bind h).imp (λp hp v Ra H' g r=>?_) λe he=>he⟩;exact k B H₀ Ra H' env p v (sr.grow g) r (hp.imp (λ_ z=>z) λ_ _=>trivial)
section
variable{pos:Pos}{f:af->M PV}
def GU(he:PE X e (tE E f))(hs:autoParam (swapsWith e none pos.line X.env=pure false) aR._auto_1):lA X [.Expr e pos] (PC E (kO f)):=by
 intro Q6 s σ H D I q;exact iH (qf he hs) mO Q6 s σ H D I (BL q λB H₀ Hs H1 env p v sr rp hp=>hp σ Hs H1 sr)
end
def SR.unset{B:Hp}{env:af}(r:SR B H₀ Hs H σ env):SR B H₀ Hs H (σ.set i none) (env.set i none) :=
 r.chg r.gr (λ_ _ q=>q) (λ_ e=>nomatch e) (λ_ _ _ _ _ _ _ _ h1 h2 _=>⟨h1,h2⟩) λ_ e=>nomatch e
section
variable{pos:Pos}{f:af->M PV}
end
abbrev Cx.rT(X:Cx)(pn:List (Addr×Obj)):Cx:={ X with pn:=pn }
abbrev Cx.hand(X:Cx)(ea:Addr):Cx:={ X with A:=X.A.mark (some (.ref ea)),calm:=false,xe:=λ_ _=>False }
section
variable{Th:List (Addr×Obj)}{ea:Addr}
theorem Cx.Ok.rT(ok:X.Ok)(pn:List (Addr×Obj)):(X.rT pn).Ok:=⟨ok.mod,ok.kind,ok.glob,ok.blt,ok.above,ok.inj,ok.has,ok.IW,ok.hd,ok.frames,ok.KR,ok.MQ,ok.bs,ok.Ex,ok.vO,ok.yp,ok.mw,ok.Ge⟩
def Cx.Ok.qT{pn:List (Addr×Obj)}(ok:(X.rT pn).Ok):X.Ok:=⟨ok.mod,ok.kind,ok.glob,ok.blt,ok.above,ok.inj,ok.has,ok.IW,ok.hd,ok.frames,ok.KR,ok.MQ,ok.bs,ok.Ex,ok.vO,ok.yp,ok.mw,ok.Ge⟩
theorem Cx.Ok.hand(ok:X.Ok)(ea:Addr):(X.hand ea).Ok:=⟨ok.mod,ok.kind,ok.glob,ok.blt,ok.above,ok.inj,ok.has,ok.IW,(λz=>nomatch z),ok.frames,ok.KR,ok.MQ,ok.bs,ok.Ex,ok.vO,ok.yp,ok.mw,ok.Ge⟩
theorem Inv.rT(I:Inv X Q6 σ H s):Inv (X.rT (X.pn++Q6)) [] σ H s:=⟨I.ok.rT _,I.os,I.bare,I.base,I.loc,I.cell,I.free,I.gU,(λp hp=>I.pin p (by rwa[W9] at hp)),I.bA,I.len⟩
theorem Inv.qT(I:Inv (X.rT (X.pn++Q6)) Th σ H s):Inv X Q6 σ H s:=⟨I.ok.qT,I.os,I.bare,I.base,I.loc,I.cell,I.free,I.gU,(λp hp=>I.pin p (XS _ hp)),I.bA,I.len⟩
theorem Inv.hand(I:Inv X Q6 σ H s)(ea:Addr):Inv (X.hand ea) Q6 σ H s:=⟨I.ok.hand ea,I.os,I.bare,I.base,I.loc,I.cell,I.free,I.gU,I.pin,I.bA,I.len⟩
def Inv.ji(I:Inv (X.hand ea) Q6 σ H s)(ok:X.Ok):Inv X Q6 σ H s:=⟨ok,I.os,I.bare,I.base,I.loc,I.cell,I.free,I.gU,I.pin,I.bA,I.len⟩
def Inv.C4(I:Inv X Q6 σ (oH Hc ea T C dd fl) s)(h1:Hc ea=some (iW C dd ea))(h2:Hc T=none)(h3:T≠ea):Inv X Q6 σ Hc s:=by
 have no:∀b,oH Hc ea T C dd fl b=none->Hc b=none:=λb e=>by
  by_cases z:b=ea
  .rw[z,qw] at e;cases e
  .by_cases z2:b=T
   .rw[z2];exact h2
   .rw[j5 z z2] at e;exact e
 have so:∀b o,oH Hc ea T C dd fl b=some o->(∀φ,o≠.ext φ)->Hc b=some o:=λb o e n=>by
  by_cases z:b=ea
  .rw[z,qw] at e;cases e;exact absurd rfl (n _)
  .by_cases z2:b=T
   .rw[z2,q_ h3] at e;cases e;exact absurd rfl (n _)
   .rw[j5 z z2] at e;exact e
 refine⟨I.ok,I.os,I.bare,⟨I.base.keep,I.base.slot,λb o e n hx=>no b (I.base.free b o e n hx),I.base.there,λb xs e=>so b _ (I.base.qQ b xs e) (λ_ z=>nomatch z),λb o u e=>so b _ (I.base.mB b o u e) (λ_ z=>nomatch z),λb ps e=>?_⟩,I.loc,I.cell,no _ I.free,λx c e=>no _ (I.gU x c e),λp hp=>?_,λb o e=>?_,I.len⟩
 .obtain⟨more,q⟩:=I.base.rA b ps e;exact⟨more,so b _ q λ_ z=>nomatch z⟩
 .obtain⟨e,n,r⟩:=I.pin p hp;exact⟨e,no _ n,r⟩
 .by_cases z:b=ea
  .subst z;rw[h1] at e;cases e;obtain⟨vs,_,_,hx,_⟩:=I.BW h3;exact Gu hx
  .by_cases z2:b=T
   .rw[z2,h2] at e;cases e
   .refine(I.bA b o (by rwa[j5 z z2])).n5 (λ_ _ _ q=>q) (λc q=>so c _ q λ_ z=>nomatch z) λc xs q=>so c _ q λ_ z=>nomatch z
def Inv.gone{E:Value->Shared->Prop}{n:Str}{pos:Pos}{Q:Unit->Shared->Prop}(I:Inv X Q6 σ H s)(hN:X.N.Nodup)(hi:X.N[i]?=some n)(hx:X.env.scope.names.lookup n=some .local)
  (h:∀s',Inv X Q6 (σ.set i none) H s'->Q () s'):wpAny ↑8 A (do bindName X.env n .none;unbindBehindTheSuite X.env n pos) Q E s:=by
 obtain⟨m,hn,hl⟩:=id I.loc;have Ew:=I.Ew;refine wpAny_nameGoes_keeps hx hn (by rw[I.ok.kind];rfl) λh' v Vz hs=>?_;obtain⟨oL,_,_,hoL,_⟩:=id hn;have tracked:lR X.prog X.w H h':=λb ob e=>by
  refine(I.bA b ob e).n5 (λc w' hc q=>(hs.2 c ?_).trans q) (λ_ q=>q) λ_ _ q=>q;rintro rfl;rcases hc with z|hc
  .rw[<- z,I.free] at e;cases e
  .rw[I.free] at hc;cases hc
 refine h _ ⟨I.ok,I.os,I.bare,⟨λb o e n hb hx=>?_,λb o e n hb hx=>?_,I.base.free,λb o e hx=>?_,I.base.qQ,I.base.mB,I.base.rA⟩,⟨_,Vz,λj y v' e1 e2 e3=>?_⟩,λy c e=>?_,I.free,I.gU,λp hp=>?_,tracked,by simpa using I.len⟩
 .exact(hs.2 b (V_ (V8 (V3 e) I.ok.above))).trans (I.base.keep b o e n hb hx)
 .obtain⟨sl,e1⟩:=I.base.slot b o e n hb hx;exact⟨sl,(hs.2 b (V_ (V8 (V3 e) I.ok.above))).trans e1⟩
 .obtain⟨o',e1⟩:=I.base.there b o e hx;exact⟨o',(hs.2 b (V_ (V8 (V3 e) I.ok.above))).trans e1⟩
 .have hj:i≠j:=λz=>by
   subst z;rw[Wy,if_pos rfl] at e2
   split at e2<;>cases e2
  rw[Z8 hj] at e2;obtain⟨u',r',q⟩:=hl j y v' e1 e2 e3;refine⟨u',r',?_⟩;rcases q with ⟨k,e⟩|⟨k,c,e,z⟩
  .refine .inl ⟨k,?_⟩;have:y≠n:=λe=>hj (sH hN hi (e▸e1));simp[this,e]
  .exact .inr ⟨k,c,e,z.sameBut hs (Ew y c e)⟩
 .obtain⟨w',z⟩:=I.cell y c e;exact⟨w',z.sameBut hs (Ew y c e)⟩
 .obtain⟨e,n,ne,nf,d⟩:=I.pin p hp;exact⟨(hs.2 p.1 ne).trans e,n,ne,nf,d⟩
end
abbrev Hd:=(Addr->Option Bool)×Option Nat×(af->M Out)
def vL(i:Nat):Out->Out
 | .nx e=>.nx (e.set i none)
 | .bk e=>.bk (e.set i none)
 | .ct e=>.ct (e.set i none)
 |.rt p=>.rt p
def qv(o:Option Nat)(h:af->M Out)(x:EX)(env:af):M Out:=match o with
 | none=>DB (h env)
 |some i=>(DB (h (env.set i (some (.sh (.exc x.1 x.2)))))).bind λout=>M.ok (vL i out)
def wB(b:Option Bool)(x y:M Out):M Out:=match b with
 | some true=>x
 | some false=>y
 |none=>none
def jE:List Hd->EX->af->M Out
 | [],_,_=>none
 |(t,o,h)::r,x,env=>wB (t x.1) (qv o h x env) (jE r x env)
def zR(r:M Out)(k:EX->M Out):M Out:=match r with
 | some (.error x)=>k x
 |r=>r
def G2(f:af->M Out)(hs:List Hd):af->M Out:=λenv=>zR (f env) λx=>jE hs x env
inductive Jx (X:Cx) (E:XK):List ExceptHandler->List Hd->Prop where
 | nil:Jx X E [] []
 | NK {x:Str} {np pos:Pos} {b₀:Stmt} {S5:List Stmt} {rest:List ExceptHandler} {t:Addr->Option Bool} {h:af->M Out} {hs:List Hd} {D:Addr} (hg:Gl X x) (hm:X.mg x=some (.ref D)) (hd:(x==("__debug__" : Str))=false)
   (ht:∀C b,t C=some b->ZQ X.K (.ref C) (.ref D)=some b) (hb:∀ea,lA (X.hand ea) (b₀::S5) (tS E h)) (r:Jx X E rest hs):Jx X E (.ExceptHandler (some (.Name x np)) none (b₀::S5) pos::rest) ((t,none,h)::hs)
 | JL {x n:Str} {i:Nat} {np pos:Pos} {b₀:Stmt} {S5:List Stmt} {rest:List ExceptHandler} {t:Addr->Option Bool} {h:af->M Out} {hs:List Hd} {D:Addr} (hg:Gl X x) (hm:X.mg x=some (.ref D)) (hd:(x==("__debug__" : Str))=false)
   (hN:X.N.Nodup) (hi:X.N[i]?=some n) (hx:X.env.scope.names.lookup n=some .local)
   (ht:∀C b,t C=some b->ZQ X.K (.ref C) (.ref D)=some b) (hb:∀ea,lA (X.hand ea) (b₀::S5) (tS E h)) (r:Jx X E rest hs):Jx X E (.ExceptHandler (some (.Name x np)) (some n) (b₀::S5) pos::rest) ((t,some i,h)::hs)
variable{hd:List Hd}{hls:List ExceptHandler}
section
variable{B:Hp}{ea:Addr}{E:XK}{env:af}{fo:Option (List (Str×PV))}{D:Ends}{F:Value->Shared->Prop}
theorem SP.ji{D:Ends}{f:Flow}{s':Shared}(h:SP (X.hand ea) Q6 D f s')(ok:X.Ok):SP X Q6 D f s':=by
 cases f with
 | next=>obtain⟨σ',H',I,q⟩:=h;exact⟨σ',H',I.ji ok,q⟩
 | brk=>obtain⟨σ',H',I,q⟩:=h;exact⟨σ',H',I.ji ok,q⟩
 | cont=>obtain⟨σ',H',I,q⟩:=h;exact⟨σ',H',I.ji ok,q⟩
 |ret u=>obtain⟨v,σ',H',I,r,q⟩:=h;exact⟨v,σ',H',I.ji ok,r,q⟩
def aw.err{r:M α}{Q:α->Prop}(h:aw r Q (λ_=>False)):aw r Q E':=h.imp (λ_ z=>z) λ_ z=>z.elim
def Ends.gone(D:Ends)(i:Nat):Ends:=⟨fun σ H=>D.nx (σ.set i none) H,D.rt,fun σ H=>D.bk (σ.set i none) H,fun σ H=>D.ct (σ.set i none) H⟩
theorem KS.gone{i:Nat}{o:Out}(h:KS D B H₀ (vL i o)):KS (D.gone i) B H₀ o:=by
 cases o with
 | nx e=>exact fun σ Hs H sr=>h _ Hs H sr.unset
 | bk e=>exact fun σ Hs H sr=>h _ Hs H sr.unset
 | ct e=>exact fun σ Hs H sr=>h _ Hs H sr.unset
 |rt p=>exact h
def DK{M:Model}{o:Obj}(hx:s.heap.get? ea=some o):Zu M s.heap (typeOf (.ref ea)) o.cls:=by
 intro A Q E s' k q;exact DC (k _ _ hx) q
def Jx.run(hh:Jx X E hls hd):∀{s:Shared},Inv X Q6 σ (oH Hc ea T C dd .none) s->Hc ea=some (iW C dd ea)->Hc T=none->T≠ea->SR B H₀ Hs Hc σ env->Rep Hs (.exc C fo) (.ref ea) ->aw (jE hd (C,fo) env) (KS D B H₀) Z->wpAny ↑8 X.A (handleBy (.ref ea) X.env hls) (SP X Q6 D) F s:=by
 induction hh with
 | nil=>intro s I h1 h2 h3 sr rp q;exact q.elim
 | @NK x np pos b₀ S5 rest t h hs Dc hg hm hd ht hb r ih =>
  intro s I h1 h2 h3 sr rp q;obtain⟨vs,oT,ts,hx,_⟩:=I.BW h3;refine wpAny_handleBy_cons (abR (jU (I.hand ea) hg hm ?_ hd)) (λq=>nomatch q);have LT:=DK (M:=model X.prog X.w) hx;cases e:t C with
  | none=>simp only[jE,e,wB] at q;exact q.elim
  | some b =>
   refine(adw I.ku LT (ht C b e)).here ?_;cases b with
   | false =>
    simp only[jE,e,wB] at q;exact ih I h1 h2 h3 sr rp q
   | true =>
    simp only[jE,e,wB,qv] at q;refine codeAny_handlers_suite ((I.hand ea).sy (fr:=none) h3 λh' I2=>?_);refine XO (hb ea Q6 _ σ Hc D (I2.C4 h1 h2 h3) ⟨B,H₀,Hs,env,sr,(aw.DB q).err⟩) (λf s' z=>z.ji I.ok) λ_ _ z=>z.elim
 | @JL x n i np pos b₀ S5 rest t h hs Dc hg hm hd hN hi hxn ht hb r ih =>
  intro s I h1 h2 h3 sr rp q;obtain⟨vs,oT,ts,hx,_⟩:=I.BW h3;refine wpAny_handleBy_cons (abR (jU (I.hand ea) hg hm ?_ hd)) (λq=>nomatch q);have LT:=DK (M:=model X.prog X.w) hx;cases e:t C with
  | none=>simp only[jE,e,wB] at q;exact q.elim
  | some b =>
   refine(adw I.ku LT (ht C b e)).here ?_;cases b with
   | false =>
    simp only[jE,e,wB] at q;exact ih I h1 h2 h3 sr rp q
   | true =>
    simp only[jE,e,wB,qv] at q;refine codeAny_handlers_suite_as ((I.hand ea).sy (fr:=none) h3 λh' I2=>?_);refine sQ (X:=X.hand ea) (v:=.ref ea) (i:=i) (I2.C4 h1 h2 h3) hN hi (.inl hxn) rfl (λs3 I3=>?_) (.inr hxn);refine XO (hb ea Q6 _ _ Hc (D.gone i) I3 ⟨B,H₀,Hs,_,sr.set rp,(aw.DB (E:=Z) ?_).err⟩) (λf s' z=>?_) λ_ _ z=>z.elim
    .exact(aw.bind q).imp (λo z=>KS.gone z) λ_ z=>z
    .cases f with
     | next=>obtain⟨σ',H',I4,d⟩:=z;exact(I4.ji I.ok).gone hN hi hxn λs5 I5=>⟨_,H',I5,d⟩
     | brk=>obtain⟨σ',H',I4,d⟩:=z;exact(I4.ji I.ok).gone hN hi hxn λs5 I5=>⟨_,H',I5,d⟩
     | cont=>obtain⟨σ',H',I4,d⟩:=z;exact(I4.ji I.ok).gone hN hi hxn λs5 I5=>⟨_,H',I5,d⟩
     |ret u=>obtain⟨v,σ',H',I4,rv,d⟩:=z;exact(I4.ji I.ok).gone hN hi hxn λs5 I5=>⟨v,_,H',I5,rv,d⟩
def La{h₀:ExceptHandler}{pos:Pos}{f:af->M Out}(RN:X.stack=X.env::X.outer)(hf:X.env.frame=some X.env.locals)(hb:∀(pn:List (Addr×Obj))(E2:St->XK),fk ((X.rT pn).out E2) E2->lA ((X.rT pn).out E2) body (PC E2 f))(hh:Jx X E (h₀::hls) hd):PS X (.Try body (h₀::hls) [] [] pos) (tS E (G2 f hd)):=by
 intro Q6 s σ H D I q;obtain⟨B,H₀,Hs,env,sr,q⟩:=q;refine wpAny_Try_except ?_
 let E2:St->XK:=fun σ v _ Hc=>∃Hs C fo ea,v=.ref ea/\SR B H₀ Hs Hc σ env/\Rep Hs (.exc C fo) (.ref ea)/\aw (jE hd (C,fo) env) (KS D B H₀) (XW E B H₀)
 have q1:aw (f env) (KS D B H₀) (XW (E2 σ) Hs H):=by
  unfold G2 at q;cases e:f env with
  | none=>rwa[e] at q
  | some r =>
   rw[e] at q;cases r with
   | ok o=>exact q
   | error x=>exact λea Ra H' g rp=>⟨Ra,x.1,x.2,ea,rfl,sr.grow g,rp,q⟩
 refine XO (hb (X.pn++Q6) E2 (ED RN hf) [] s σ H D (I.rT.rJ _) ⟨B,H₀,Hs,env,sr,q1⟩) (λfl s1 hq=>?_) (λe s1 z=>?_)
 .cases fl with
  | next=>obtain⟨σ',H',I',d⟩:=hq;exact Zv ⟨σ',H',I'.e7.qT,d⟩
  | brk=>obtain⟨σ',H',I',d⟩:=hq;exact⟨σ',H',I'.e7.qT,d⟩
  | cont=>obtain⟨σ',H',I',d⟩:=hq;exact⟨σ',H',I'.e7.qT,d⟩
  | ret u=>obtain⟨v,σ',H',I',r,d⟩:=hq;exact⟨v,σ',H',I'.e7.qT,r,d⟩
 .refine Zx.note (X:=X.rT (X.pn++Q6)) z RN hf λs' ea C dd Th σ' Hc T he I2 h1 h2 h3 h4=>?_;subst he;refine I2.sy (fr:=none) h3 λh' I3=>?_;obtain⟨Ra,C',fo,ea',ee,S7,rp,hp⟩:=h4;cases ee;have I4:=I3.C4 h1 h2 h3;have eC:C'=C:=by
   obtain⟨vs,hx⟩:=I4.qF h1;cases rp with
   | wK hr =>
    obtain⟨vs2,SW⟩:=I4.qF (S7.gr.sub _ _ hr);rw[hx] at SW;injection SW with SW;injection SW with SW;injection SW with SW;exact SW.symm
   | vP hr _ _ =>
    obtain⟨vs2,SW⟩:=I4.qF (S7.gr.sub _ _ hr);rw[hx] at SW;injection SW with SW;injection SW with SW;injection SW with SW;exact SW.symm
  subst eC;exact hh.run I3.qT h1 h2 h3 S7 rp hp
end
def sX(ys ns:List Addr)(C:Addr):Option Bool:=if ys.contains C=true then some true else if ns.contains C=true then some false else none
variable{ns:List Addr}
def sF{ys:List Addr}(h:sX ys ns C=some b):(b=true/\C∈ys)\/(b=false/\C∈ns):=by
 unfold sX at h
 by_cases h1:ys.contains C=true
 .rw[if_pos h1] at h;cases h;exact .inl ⟨rfl,by simpa using h1⟩
 .rw[if_neg h1] at h
  by_cases h2:ns.contains C=true
  .rw[if_pos h2] at h;cases h;exact .inr ⟨rfl,by simpa using h2⟩
  .rw[if_neg h2] at h;cases h
def F8(f:Addr->Option Bool)(ys ns:List Addr):Bool:=ys.all (λC=>f C==some true)&&ns.all λC=>f C==some false
def zh{f:Addr->Option Bool}{ys:List Addr}(h:F8 f ys ns=true)(e:sX ys ns C=some b):f C=some b:=by
 unfold F8 at h;rw[WT,W_,W_] at h;rcases sF e with ⟨rfl,m⟩|⟨rfl,m⟩
 .exact eq_of_beq (h.1 C m)
 .exact eq_of_beq (h.2 C m)
structure Py (K:VU) (mg:Str->Option Value) (x:Str) (D:Addr) (ys ns:List Addr):Prop where
 mg:mg x=some (.ref D)
 ok:∀C b,sX ys ns C=some b->ZQ K (.ref C) (.ref D)=some b
def Py.of{K:VU}{ys:List Addr}(h1:mg x=some (.ref D))(h2:F8 (λC=>ZQ K (.ref C) (.ref D)) ys ns=true):Py K mg x D ys ns:=⟨h1,λ_ _ e=>zh h2 e⟩
def tK:bootBuiltins "ValueError"=some (.type "ValueError"):=by decide +kernel
def vM{p:α->Prop}:∀x∈([]:List α),p x:=λ_ h=>nomatch h
def wM{p:α->Prop}{a:α}{l:List α}(h:p a)(r:∀x∈l,p x):∀x∈a::l,p x:=λx m=>by
 rcases Wd.mp m with rfl|m
 .exact h
 .exact r x m
def HB:List String:=["NoneType","bool","int","str","tuple","list","dict"]
def GR{a:String}(h:I_ p=some a):a∈HB:=by
 cases p<;>first|(cases h;decide)|cases h
structure MN (K:VU) (mg:Str->Option Value) (x:Str) (D:Addr) (ys ns yo no:List Addr):Prop where
 mg:mg x=some (.ref D)
 ty:∀p a,I_ p=some a->Wr K (.type a) (.ref D)=some false
 ob:∀C b,sX yo no C=some b->zz K C/\Wr K (.ref C) (.ref D)=some b
 oe:∀C b,sX ys ns C=some b->gG K C/\Wr K (.ref C) (.ref D)=some b
def MN.of{K:VU}{ys yo no:List Addr}(h1:mg x=some (.ref D))(h2:(HB.all λa=>Wr K (.type a) (.ref D)==some false)=true)(h3:F8 (λC=>Wr K (.ref C) (.ref D)) yo no=true)(h4:F8 (λC=>Wr K (.ref C) (.ref D)) ys ns=true)(o1:∀C∈yo,zz K C)(o2:∀C∈no,zz K C)(e1:∀C∈ys,gG K C)(e2:∀C∈ns,gG K C):MN K mg x D ys ns yo no where
 mg:=h1
 ty:=λp a h=>by
  rw[W_] at h2;exact eq_of_beq (h2 a (GR h))
 ob:=λC b h=>⟨by rcases sF h with ⟨_,m⟩|⟨_,m⟩<;>first|exact o1 C m|exact o2 C m,zh h3 h⟩
 oe:=λC b h=>⟨by rcases sF h with ⟨_,m⟩|⟨_,m⟩<;>first|exact e1 C m|exact e2 C m,zh h4 h⟩
section
variable{pos p px pt:Pos}{f:af->M PV}{ys yo no:List Addr}
def MN.is(c:MN X.K X.mg x D ys ns yo no)(hg:Gl X "isinstance")(hm:X.mg "isinstance"=none)(hx:Gl X x)(he:PE X e (tE E f))(hd:autoParam ↑7 aD._auto_1)(h1:autoParam (starEach [e,.Name x pt] X.env=(false,eval e X.env)::starEach [.Name x pt] X.env) aR._auto_1)(h2:autoParam (starEach [.Name x pt] X.env=(false,eval (.Name x pt) X.env)::starEach [] X.env) aR._auto_1)(Rt:autoParam ((backTo pos (starEach [.Name x pt] X.env)).any (·.1)=false) aR._auto_1):PE X (.Call (.Name "isinstance" p) [e,.Name x pt] [] pos) (tE E (zY (λ_=>false) (sX yo no) (sX ys ns) f)) :=
 LK hg hm (vz hx c.mg rfl hd) c.ty c.ob c.oe he h1 h2 Rt
def NW(ys:List Addr):PV->M PV
 | .exc C _=>cO (ys.contains C=true) (M.ok (.bl true))
 |_=>none
def Ms(ys:List Addr)(f:af->M PV):af->M PV:=λenv=>(f env).bind (NW ys)
def Gg(hg:Gl X "isinstance")(hm:X.mg "isinstance"=none)(hT:PE X (.Name x pt) (tC (.ty "ValueError")))(Su:∀C∈ys,gG X.K C/\Wr X.K (.ref C) (.type "ValueError")=some true)(he:PE X e (tE E f))(h1:autoParam (starEach [e,.Name x pt] X.env=(false,eval e X.env)::starEach [.Name x pt] X.env) aR._auto_1)(h2:autoParam (starEach [.Name x pt] X.env=(false,eval (.Name x pt) X.env)::starEach [] X.env) aR._auto_1)(Rt:autoParam ((backTo pos (starEach [.Name x pt] X.env)).any (·.1)=false) aR._auto_1):PE X (.Call (.Name "isinstance" p) [e,.Name x pt] [] pos) (tE E (Ms ys f)):=by
 refine(jA (c8.or ye rR) hg hm wu (cz he (cz hT fw h2) h1) ↑12 ↑12 h1 Rt).imp fun σ H Q q=>bK (K:=kj Q) kj.g q λB H₀ Hs H1 env p v sr rp hp=>?_;cases p with
 | exc C fo =>
  obtain⟨m,q⟩:=aw.cO hp;obtain⟨a,UW,rfl,hx⟩:=z_ sr.gr.sub rp;have m':C∈ys:=by simpa using m
  exact .inr ⟨a,C,UW,true,(Su C m').1,hx,.inl ⟨"ValueError",rfl,(Su C m').2⟩,eK.flat q sr.gr.sub (.bl _)⟩
 |_=>exact hp.elim
end
section
variable{o:Expr}{pos:Pos}{f g:af->M PV}
end
section
open PySem PySem.Spec PyProof.Rows _root_.HT
section
variable{E:Value->Shared->Prop}
def nv{t sl:Addr}{vl vu:Value}{lo hi:Option Int}(ht:IsTup s.heap t items)(hs:s.heap.IsSliceOf sl vl vu .none)(pl:IsPart vl lo)(pu:IsPart vu hi)(hw:dJ items.size 0 lo=0/\dJ items.size items.size hi=items.size)(h:Q (.ref t) s):wpAny ↑11 A (getItem (.ref t) (.ref sl)) Q E s:=by
 obtain⟨os,U2,hcs,Vt⟩:=id hs;have hTs:s.TypeIs (.ref sl) "slice" := ⟨os,U2,hcs⟩
 unfold getItem
 try with_reducible refine Xm ?_
 first|refine VQ (VY ?_)|skip
 refine VQ (wpAny_sequenceKey ht.typeIs ↑12 ?_);refine VQ (WQ (name:=WG "__getitem__") ht.typeIs Xc
  (Xg Xc ht.typeIs entry_tuple_getitem ?_ (args_tuple_getitem _ _)))
 show wpAny _ _ (aaI (.ref t) >>= _) _ _ s;refine VQ (tupleItemsOf_ ht ?_);refine VQ (aat hTs ?_);rw[if_pos ↑12];refine VQ (jG hs pl pu ?_);have hyes:(((dJ items.size 0 lo:Nat):Int)==0&&(1:Int)==1&&(dJ items.size items.size hi-dJ items.size 0 lo)==items.size)=true:=by
  rw[hw.1,hw.2];simp
 show wpAny _ _ (if (((dJ items.size 0 lo:Nat):Int)==0&&(1:Int)==1&&(dJ items.size items.size hi-dJ items.size 0 lo)==items.size)=true then _ else _) _ _ s;rw[if_pos hyes];unfold Builtin.Tuple.tupleIsExact;refine VQ (VQ (aat ht.typeIs (VY ?_)));rw[if_pos (show ((Xp "tuple" == Xp "tuple")=true) from beq_self_eq_true _)];refine VQ (ZY ?_)
 first
  | exact VQ (VY (VY ⟨_,rfl,VY h⟩))
  | exact VQ (VY ⟨_,rfl,VY h⟩)
  |exact VY ⟨_,rfl,VY h⟩
end
section
variable{lo hi:Option Expr}{pos p2:Pos}{f:af->M PV}{gl gh:af->M (Option Int)}
def Pw(K:VU):V->Option Int->Option Int->Hp->VK->Prop:=λx lo hi H Q=>∃a xs,x=.ref a/\g9 K H a xs/\(dJ xs.length 0 lo=0/\dJ xs.length xs.length hi=xs.length)/\Q (.ref a) H
def GY:Gb X (Pw X.K):=by
 intro Q6 s σ H x v vl vu lo hi sl Q I rx hs pl pu h;obtain⟨a,xs,rfl,hx,hw,q⟩:=h;cases rx;obtain⟨Rb,r,ht,hz⟩:=I.tuple hx;have hlen:Rb.toArray.size=xs.length:=by rw[Wa];exact r.length.symm
 refine⟨"tuple",_,Xc.lookup,ht.typeIs,?_⟩;exact nv ht hs pl pu (by rwa[hlen]) ⟨.ref a,H,I,rfl,q⟩
def Om(p:PV)(lo hi:Option Int):M PV:=match p with
 | .tup xs=>M.ok (.tup (p4 xs lo hi))
 | .lst xs=>M.ok (.lst (p4 xs lo hi))
 | .kC xs=>M.ok (.lst (p4 xs lo hi))
 |_=>none
def oX(f:af->M PV)(lo hi:af->M (Option Int)):af->M PV:=λenv=>(f env).bind λp=>(lo env).bind λl=>(hi env).bind λh=>Om p l h
def uC(he:PE X e (tE E f))(hl:PO X lo (Oz E gl))(hh:PO X hi (Oz E gh)):PE X (.Subscript e (.Slice lo hi none p2) pos) (tE E (oX f gl gh)):=by
 refine(CU (Gb.or Kt (Gb.or GY Ij)) he hl hh).imp fun σ H Q q=>bK (K:=kj Q) kj.g q λB H₀ Hs H1 env p v sr rp hp=>?_;refine⟨B,H₀,Hs,env,sr,(aw.bind hp).imp (λl hl Rl H2 g2=>?_) λe he=>he⟩;have RF:=sr.grow g2;refine⟨B,H₀,Rl,env,RF,(aw.bind hl).imp (λh hh SS H3 g3=>?_) λe he=>he.grow g2⟩;have Tv:=RF.grow g3;have hz:aw (Om p l h) (eK SS H3 Q) (λ_=>True):=hh.imp (λz hz w Uy H4 g4 r=>hz w Uy H4 ((g2.trans g3).trans g4) r) λ_ _=>trivial;have rp3:=(rp.mono g2.st).mono g3.st;cases rp3 with
 | @tup a xs vs ha hx =>
  by_cases hn:dJ xs.length 0 l=0/\dJ xs.length xs.length h=xs.length
  .refine .inr (.inl ⟨_,_,rfl,g9.of (Tv.gr.sub _ _ ha),by rwa[<- hx.length],?_⟩);have e:p4 xs l h=xs:=by
    unfold p4;rw[hn.1,hn.2,List.drop_zero,abw,YZ]
   have Uw:eK SS H3 Q (.tup xs):=by
    have z:eK SS H3 Q (.tup (p4 xs l h)):=hz;rwa[e] at z
   exact eK.flat Uw Tv.gr.sub (.tup ha hx)
  .exact .inl ⟨_,_,rfl,g9.of (Tv.gr.sub _ _ ha),by rwa[<- hx.length],eK.tup hz Tv.gr.sub (hx.cut l h)⟩
 | lst ha hx=>exact .inr (.inr ⟨_,_,rfl,gQ.of (Tv.gr.sub _ _ ha),eK.lst hz Tv.gr.sub (hx.cut l h)⟩)
 | kC ha hx=>exact .inr (.inr ⟨_,_,rfl,.inl (.inr ⟨_,Tv.gr.sub _ _ ha⟩),eK.lst hz Tv.gr.sub (hx.cut l h)⟩)
 |_=>exact hz.elim
end
end
section
variable{o:Expr}{pos:Pos}{g:af->M PV}{fs:af->M (List PV)}{L:List (Addr×(List PV->M PV))}{K:VU}
def Qj(L:List (Addr×(List PV->M PV)))(C:Addr)(ps:List PV):M PV:=match L.lookup C with
 | some sem=>sem ps
 |none=>none
end
section
open PySem.SeqAt (shaped EqAt RcAt RcNeAt)
section
variable{b:Addr}
end
end
end L2
namespace HT
open PySem PyProof.Rows
variable{E:Value->Shared->Prop}{A:Around}{w:World}{prog:Program}
section
variable{a b v:Value}{k:Bool}{I S ax:Addr}{t:Shared}{n:Nat}{R:Result->Shared->Prop}
end
section
open PySem.SeqAt
open PySem.AutoSeq1 (wpAny_loadPart')
open PySem.MeetsSeq PySem.MeetsSeq2 PySem.MeetsSeq3
end
section
variable{s:Shared}
end
end HT
namespace L2
open PySem PySem.Spec PyProof.Rows
def zC{xs:List PV}:∀{ns:List Int},nr xs=some ns->xs=ns.map PV.int:=by
 induction xs with
 | nil=>intro ns h;cases h;rfl
 | cons p r ih =>
  intro ns h;cases p with
  | int i =>
   obtain⟨m,e,rfl⟩:=Wo.mp (show (nr r).map (i::·)=some ns from h);rw[ih e];rfl
  |_=>cases h
def D8:PV->Option (List Int)
 | .tup xs=>nr xs
 |_=>none
variable{E:St->XK}{X:Cx}
def BM{Hs:Hp}{p:PV}{v:V}{ns:List Int}(r:Rep Hs p v)(h:D8 p=some ns):∃a,v=.ref a/\Hs a=some (.tup (ns.map V.int)):=by
 cases r with
 | tup ht hx =>
  have e:=zC (show nr _=some ns from h);subst e;rw[hx.ints] at ht;exact⟨_,rfl,ht⟩
 |_=>cases h
variable{js:List Nat}{ts:List Str}{f:af->M PV}{it:af->M (List PV)}{wi:TI}{scope:Scope}
variable{y:Str}{i:Nat}
section
variable{tg elt iter c:Expr}{cl:List (Str×Addr)}{pos:Pos}{g:TG}{set:PV->af->M af}{fs:List Str}
variable{E:XK}{py SM:Pos}
end
def FI{tg elt iter c:Expr}{cl:List (Str×Addr)}{pos SM py:Pos}{g:TG}{t:TT}{te:TE}{fs:List Str}(hN:X.N.Nodup)(U0:X.N[i]?=some y)(hy:Loc X.env.scope y)(Rh:X.calm=true)(Rr:closureFor scope X.env=pure cl)(hk:scope.kind=.function)(nc:e_ scope.names=true)(lo:gu scope.names=true)(fh:gy cl scope.names=true)(ag:eI X cl)(fr:iE X scope cl fs js)(hi:PI X tg iter wi)(hg:∀C s₀ H₀ ex Q6,PG (n9 X scope cl (ts++fs) C s₀ H₀ ex Q6) tg g)(ht:∀C s₀ H₀ ex Q6,PT (n9 X scope cl (ts++fs) C s₀ H₀ ex Q6) c t)(he:∀C s₀ H₀ ex Q6,PE (n9 X scope cl (ts++fs) C s₀ H₀ ex Q6) elt te)(hs:autoParam ↑5 aI._auto_1)(UJ:autoParam (swapsWith (.ListComp elt [⟨tg,iter,[c],0⟩] scope pos) (some (.Name y py)) SM.line X.env=pure true) aR._auto_1)(hf:autoParam (X.fn y=true\/X.env.scope.names.lookup y=some .local) aF._auto_1):PS X (.Assign [.Name y py] (.ListComp elt [⟨tg,iter,[c],0⟩] scope pos) SM) (BB (zu wi g t te ts js) (aC i)):=by
 intro Q6 s σ H D I h;rw[abO _ _ _ _ UJ];refine VQ (Zr (VQ ?_));show wpAny _ X.A (do let _ <- comprehension (.ListComp elt [⟨tg,iter,[c],0⟩] scope pos) scope X.env _ (newList []) false (eval iter X.env) (some (assign (.Name y py) X.env))) _ _ s;refine VQ (XO (qI (ifs:=[c]) (tt:=some t) Rh Rr hk nc lo fh ag fr hi hg ht he hs I (show Ac wi g (some t) te ts js σ H (λx H1=>D.nx (σ.set i (some x)) H1) from h) (some (assign (.Name y py) X.env)) (λ_ s'=>SP X Q6 D .next s') λDd H' s' C Io q hm f=>?_) (λ_ s' hq=>VY (VY hq)) λ_ _ e=>e);show wpAny _ X.A (assign (.Name y py) X.env (.ref Dd)) _ _ s';refine aaZ (oV Io hN U0 hy (v:=.ref Dd) rfl (λVN I'' ⟨a,sb,ha⟩=>?_) hf);obtain⟨m,hn⟩:=hm;obtain⟨f0,f1,f2,f3,f4,f5⟩:=f;have naC:a≠C:=by
  rcases ha with z|z
  .rw[z];exact λw=>f1 w.symm
  .exact f4 y a z
 refine⟨m,hn.sameBut sb (Xs naC),λh' UT=>?_⟩;exact⟨_,H',I''.other ⟨f0,f1,f2,f3,f4,f5⟩ UT,q⟩
section
variable{tg elt iter c:Expr}{cl:List (Str×Addr)}{pos:Pos}{g:TG}{set:PV->af->M af}{u:af->M Bool}{fs:List Str}
variable{E:XK}{py SM:Pos}
def FD(Rh:X.calm=true)(Rr:closureFor scope X.env=pure cl)(hk:scope.kind=.function)(nc:e_ scope.names=true)(lo:gu scope.names=true)(fh:gy cl scope.names=true)(ag:eI X cl)(fr:iE X scope cl fs js)(hi:PI X tg iter wi)(hv:yg (λ_=>E) wi it)(hg:∀C s₀ H₀ ex Q6,PG (n9 X scope cl (ts++fs) C s₀ H₀ ex Q6) tg g)(TV:∀E,CP E g set)(so:mP set)(ht:∀C s₀ H₀ ex Q6,PT (n9 X scope cl (ts++fs) C s₀ H₀ ex Q6) c (tT EF u))(he:∀C s₀ H₀ ex Q6,PE (n9 X scope cl (ts++fs) C s₀ H₀ ex Q6) elt (tE EF f))(hN:X.N.Nodup)(U0:X.N[i]?=some y)(hy:Loc X.env.scope y)(hs:autoParam ↑5 aI._auto_1)(UJ:autoParam (swapsWith (.ListComp elt [⟨tg,iter,[c],0⟩] scope pos) (some (.Name y py)) SM.line X.env=pure true) aR._auto_1)(hf:autoParam (X.fn y=true\/X.env.scope.names.lookup y=some .local) aF._auto_1):PS X (.Assign [.Name y py] (.ListComp elt [⟨tg,iter,[c],0⟩] scope pos) SM) (tS E (bo i (bZ (bR it set (some u) f ts.length js)))):=by
 refine(FI hN U0 hy Rh Rr hk nc lo fh ag fr hi hg ht he hs UJ hf).imp λD σ H q=>?_;refine xm hv TV so ?_;obtain⟨B,H₀,Hs,env,sr,q⟩:=q;refine⟨B,H₀,Hs,env,sr,(aw.bind (aw.bind q)).imp (λps hp vs p Ra H' g r n=>?_) λe he=>he.grow sr.gr⟩;have gn:=bb.new (o:=.lst vs) g.sub n;exact hp _ _ _ ((sr.grow (g.trans gn)).set (.lst ay (r.mono gn.st)))
end
section
variable{o:Expr}{apos Rz:Pos}
end
section
open PySem.SeqAt (shaped)
end
end L2
local macro_rules|`(tactic| walk_at "u1")=>`(tactic| unfold $(Lean.mkIdent (Lean.mkPrivateNameCore `PySem.Builtin.List.W1All `PySem.Builtin.gallop)):ident)
namespace Srt
open PySem PyProof.Rows
section
variable{prog:Program}{w:World}{A:Around}{E:Value->Shared->Prop}{s:Shared}{κ:KeyKind}{k:SortKind}
end
end Srt
namespace Srt
open PySem PyProof.Rows
variable{R:Keyed->Keyed->Prop}{tot A B A1 A2 out:List Keyed}
section
variable{prog:Program}{w:World}{A:Around}{E:Value->Shared->Prop}{s:Shared}{κ:KeyKind}{k:SortKind}
end
end Srt
local macro_rules|`(tactic| walk_at "u2")=>`(tactic| unfold $(Lean.mkIdent (Lean.mkPrivateNameCore `PySem.Builtin.List.W1All `PySem.Builtin.mergeLo)):ident)
namespace Srt
open PySem PyProof.Rows
section
variable{κ:KeyKind}{a b out:Array Keyed}{ia ib m:Nat}
end
section
variable{prog:Program}{w:World}{A:Around}{E:Value->Shared->Prop}{s:Shared}{κ:KeyKind}{k:SortKind}
end
end Srt
local macro_rules|`(tactic| walk_at "u3")=>`(tactic| unfold $(Lean.mkIdent (Lean.mkPrivateNameCore `PySem.Builtin.List.W1All `PySem.Builtin.mergeHi)):ident)
namespace Srt
open PySem PyProof.Rows
section
variable{κ:KeyKind}{a b out:Array Keyed}{na nb m:Nat}
end
section
variable{prog:Program}{w:World}{A:Around}{E:Value->Shared->Prop}{s:Shared}{κ:KeyKind}{k:SortKind}
end
end Srt
local macro_rules|`(tactic| walk_at "u4")=>`(tactic| unfold $(Lean.mkIdent (Lean.mkPrivateNameCore `PySem.Builtin.List.W1All `PySem.Builtin.countRun)):ident)
local macro_rules|`(tactic| walk_at "u5")=>`(tactic| unfold $(Lean.mkIdent (Lean.mkPrivateNameCore `PySem.Builtin.List.W1All `PySem.Builtin.binarySort)):ident)
namespace Srt
open PySem PyProof.Rows
section
variable{κ:KeyKind}{st R4 TU:SortSt}{lo hi:Nat}
end
section
variable{prog:Program}{w:World}{A:Around}{E:Value->Shared->Prop}{s:Shared}{κ:KeyKind}{k:SortKind}
end
end Srt
local macro_rules|`(tactic| walk_at "u6")=>`(tactic| unfold $(Lean.mkIdent (Lean.mkPrivateNameCore `PySem.Builtin.List.W1All `PySem.Builtin.mergeAt)):ident)
namespace Srt
open PySem PyProof.Rows
section
variable{prog:Program}{w:World}{A:Around}{E:Value->Shared->Prop}{s:Shared}{κ:KeyKind}{k:SortKind}
end
end Srt
local macro_rules|`(tactic| walk_at "u7")=>`(tactic| unfold $(Lean.mkIdent (Lean.mkPrivateNameCore `PySem.Builtin.List.W1All `PySem.Builtin.sortRuns)):ident)
namespace Srt
open PySem PyProof.Rows
section
variable{κ:KeyKind}{a a':Array Keyed}
end
section
variable{prog:Program}{w:World}{A:Around}{E:Value->Shared->Prop}{s:Shared}{κ:KeyKind}{k:SortKind}{a0:Array Keyed}
end
end Srt
local macro_rules|`(tactic| walk_at "u8")=>`(tactic| unfold $(Lean.mkIdent (Lean.mkPrivateNameCore `PySem.Builtin.List.W1All `PySem.Builtin.keyLt)):ident)
namespace Srt
open PySem PyProof.Rows
theorem FL:∀a:List Int,HT.lexLt a a=false
 | []=>rfl
 |x::a=>by rw[HT.fP,if_pos rfl];exact FL a
theorem Jh:∀a b c:List Int,HT.lexLt a b=true->HT.lexLt b c=true->HT.lexLt a c=true
 | [],[],_,h,_=>by cases h
 | [],_::_,[],_,h=>by cases h
 | [],_::_,_::_,_,_=>rfl
 | _::_,[],_,h,_=>by cases h
 | _::_,_::_,[],_,h=>by cases h
 | x::a,y::b,z::c,h,h'=>by
  rw[HT.fP] at h h' ⊢
  by_cases e:x=y
  .subst e;rw[if_pos rfl] at h
   split
   .rename_i e;rw[if_pos e] at h';exact Jh a b c h h'
   .rename_i e;rw[if_neg e] at h';exact h'
  .rw[if_neg e] at h;have h:=of_decide_eq_true h
   by_cases e':y=z
   .subst e';rw[if_neg e];exact decide_eq_true h
   .rw[if_neg e'] at h';have h':=of_decide_eq_true h';rw[if_neg ⋯];exact decide_eq_true ⋯
section
variable{prog:Program}{w:World}{A:Around}{E:Value->Shared->Prop}{s:Shared}
end
end Srt
namespace Srt
open PySem PyProof.Rows
section
variable{prog:Program}{w:World}{A:Around}{E:Value->Shared->Prop}{s:Shared}
end
end Srt
namespace L2
open PySem PySem.Spec PyProof.Rows
variable{x:Str}{i:Nat}{f:af->M PV}{e:Expr}{X:Cx}
section
variable{E:XK}{pos:Pos}
end
theorem ur:∀{as:List Addr}{us:List Value},Vals (as.map V.ref) us->us=as.map V4
 | [],_,.nil=>rfl
 |_::_,_,.cons h t=>by cases h;rw[ur t];rfl
def uK:List PV->Option (List (List Int))
 | []=>some []
 | p::ps=>match D8 p,uK ps with
  | some (n::ns),some ks=>some ((n::ns)::ks)
  |_,_=>none
def Fm(a b:List Int):((!HT.lexLt b a)||(!HT.lexLt a b))=true:=by
 cases h:HT.lexLt b a
 .rfl
 .cases h':HT.lexLt a b
  .rfl
  .have:=Srt.Jh _ _ _ h h';rw[Srt.FL] at this;cases this
theorem uo{Hs:Hp}:∀{xs:List PV}{vs:List V}{ks:List (List Int)},aL Hs xs vs->uK xs=some ks->∃as:List Addr,vs=as.map V.ref/\as.length=ks.length/\(∀a k,(a,k)∈as.zip ks->Hs a=some (.tup (k.map V.int))/\k≠[])
 | _,_,_,.nil,e=>by cases e;exact⟨[],rfl,rfl,λ_ _ h=>nomatch h⟩
 | _,_,_,.cons (p:=p) (ps:=ps) h t,e=>by
  unfold uK at e
  split at e
  .rename_i n ns ks h1 h2;cases e;obtain⟨a,rfl,ea⟩:=BM h h1;obtain⟨as,rfl,hl,hk⟩:=uo t h2;refine⟨a::as,rfl,by simp[hl],λb k q=>?_⟩;rw[X9] at q;rcases Wd.mp q with e|q
   .cases e;exact⟨ea,List.cons_ne_nil _ _⟩
   .exact hk b k q
  .cases e
variable{es:Array DictEntry}{d:Addr}{s:Shared}{w:World}{prog:Program}
variable{Q:Option Value->Shared->Prop}
section
variable{A:Around}{E:Value->Shared->Prop}{it:Addr}{ep:Nat}
def oJ(h:Heap)(d:Addr)(es:Array DictEntry)(ep:Nat):Prop:=∃o,h.get? d=some o/\o.ExactDict/\o.data=.dict es ep
def oJ.ty(x:oJ s.heap d es ep):s.TypeIs (.ref d) "dict" := by
 obtain⟨o,a,b,_⟩:=x;exact⟨o,a,b.1⟩
def oJ.keep{h h':Heap}(x:oJ h d es ep)(k:∀o,h.get? d=some o->h'.get? d=some o):oJ h' d es ep:=by
 obtain⟨o,a,b⟩:=x;exact⟨o,k o a,b⟩
def wC{Q:Value->Shared->Prop}(nd:(d==sysModules)=false)(x:oJ s.heap d es ep)(q:Q (.ref s.heap.objs.size) { s with heap:=s.heap.push { cls:=.type "dict_keyiterator",data:=.fields #[.ref d,.int 0 0,.int es.size 0,.int ep 0] } }):wpAny ↑11 A (pyIter (.ref d)) Q E s:=by
 have ty:=x.ty;obtain⟨o,x1,x2,x3⟩:=x;refine wpAny_pyIter_slot ty F.slot_dict_iter (Xg F.slot_dict_iter ty F.entry_dict_iter ?_ (F.args_dict_iter_1 _));unfold Builtin.«dict.__iter__»;refine VQ ?_;unfold Builtin.Dict.dictSlotNone;refine VQ (wpAny_notOrdered_dict ty ?_);show wpAny _ _ (pure (V4 d)) _ _ s;refine VY ?_;show wpAny _ _ (abS d >>= _) _ _ s;unfold abS;rw[if_neg (by rw[nd];exact WY)];refine VQ (VY ?_);refine VQ (aa3 x1 x3 (VQ (abL x1 x3 ?_)));refine VQ (Xa (VY ⟨_,rfl,"dict_keyiterator",_,⟨_,V2 _ rfl,rfl⟩,F.slot_dict_keyiterator_next.lookup,?_⟩));simpa [rawInt] using q
theorem AI(y:s.heap.IsKeyIter it d i es.size ep)(x:oJ s.heap d es ep)(lt:i<es.size)(q:∀h',h'.IsKeyIter it d (i+1) es.size ep->YJ it s.heap h'->Q (some es[i].key) { s with heap:=h' }):wpAny ↑11 A (pyNext (.ref it)) Q E s:=by
 have yt:=y.typeIs;obtain⟨o,y1,y2,y3⟩:=y;obtain⟨p,x1,x2,x3⟩:=x;unfold pyNext;refine VQ (Yw (WQ (name:=WG "__next__") yt F.slot_dict_keyiterator_next (Xg F.slot_dict_keyiterator_next yt F.entry_dict_keyiterator_next ?_ (F.args_dict_keyiterator_next_1 _))));refine VQ (VY (VQ (VQ ?_)))
 first|refine VQ (Ye yt (VY ?_))|refine VQ (YS yt (VY ?_))
 refine VQ (wpAny_fieldsOf y1 y3 ?_);simp only[show aah "dict_keyiterator"=false by decide,Xv,if_false];show wpAny _ _ (if (V4 d==WK)=true then _ else _) _ _ s;rw[if_neg (show ¬ ((V4 d==WK)=true) from WY)];refine VQ (VY (VQ (aa3 x1 x3 ?_)));rw[if_neg ↑13];refine VQ (VY (VQ (abL x1 x3 ?_)));rw[if_neg ↑13];refine VY ?_;simp only[show ¬ ((i:Int)<0) from by lia,if_false,Wq,Zm lt];refine VQ ?_
 first|refine VQ (Ye yt (VY ?_))|refine VQ (YS yt (VY ?_))
 refine VQ (abT yt ?_);show wpAny _ _ (setField (.ref it) 1 (rawInt ((i:Int)+1)) >>= _) _ _ s;refine VQ (YY y1 y3 ↑13 ?_);have y':(s.heap.update it (XX (·.setIfInBounds 1 (rawInt ((i:Int)+1))))).IsKeyIter it d (i+1) es.size ep:=⟨_,WL _ y1 (YE (XQ y3 _)),(acP ..).trans y2,by rw[XQ y3];simp[rawInt]⟩
 refine VQ (Xm (VQ (abT (s:={ s with heap:=s.heap.update it (XX (·.setIfInBounds 1 (rawInt ((i:Int)+1)))) }) y'.typeIs ?_)));show wpAny _ _ (pure es[i].key) _ _ _;exact VY (VY ⟨_,rfl,VY (q _ y' (YV ..))⟩)
theorem Fn(hh:A.handled=none)(y:s.heap.IsKeyIter it d i es.size ep)(x:oJ s.heap d es ep)(ge:es.size<=i)(q:∀h',adi it s.heap h'->Q none { s with heap:=h' }):wpAny ↑11 A (pyNext (.ref it)) Q E s:=by
 have yt:=y.typeIs;obtain⟨o,y1,y2,y3⟩:=y;obtain⟨p,x1,x2,x3⟩:=x;unfold pyNext;refine VQ (Yw (WQ (name:=WG "__next__") yt F.slot_dict_keyiterator_next (Xg F.slot_dict_keyiterator_next yt F.entry_dict_keyiterator_next ?_ (F.args_dict_keyiterator_next_1 _))));refine VQ (VY (VQ (VQ ?_)))
 first|refine VQ (Ye yt (VY ?_))|refine VQ (YS yt (VY ?_))
 refine VQ (wpAny_fieldsOf y1 y3 ?_);simp only[show aah "dict_keyiterator"=false by decide,Xv,if_false];show wpAny _ _ (if (V4 d==WK)=true then _ else _) _ _ s;rw[if_neg (show ¬ ((V4 d==WK)=true) from WY)];refine VQ (VY (VQ (aa3 x1 x3 ?_)));rw[if_neg ↑13];refine VQ (VY (VQ (abL x1 x3 ?_)));rw[if_neg ↑13];refine VY ?_;simp only[show ¬ ((i:Int)<0) from by lia,if_false,Wq,abx ge];refine VQ ?_
 first|refine VQ (Ye yt (VY ?_))|refine VQ (YS yt (VY ?_))
 show wpAny _ _ (setField (.ref it) 0 .none >>= _) _ _ s;refine VQ (YY y1 y3 ↑13 ?_);show wpAny _ _ (newExc (.type "StopIteration") [] >>= _) _ _ _;refine VQ ?_;simp only[newExc,newTuple];refine VQ (Xa (VQ (m:=firstArgMember _ _) (ab1 (a:=WK) (by first|rfl|(simp only[firstArgMember];rfl)) (Xa ?_ (by size_fits)))) (by size_fits));simp only[raiseNew];refine VQ (wpAny_handled ?_);rw[show A.in1.handled=none from hh];refine VQ (VY (wpAny_throw ?_));refine VQ (Zj (T := "StopIteration") (b:=true) ⟨_,V2 _ rfl,rfl⟩ aaM ?_);exact VY (q _ (((YV ..).extBut.push _).push _))
def E9(hh:A.handled=none)(I d:Addr)(ne:d≠I)(es:Array DictEntry)(ep:Nat):Walks prog w A I [I,d] [I] es.size (λi v=>∃h:i<es.size,v=es[i].key) (λi h=>h.IsKeyIter I d i es.size ep/\oJ h d es ep) where
 sub:=λb hb=>by simp at hb;simp[hb]
 frame:=λ_ _ _ st hk=>⟨st.1.at λo e=>hk I ↑13 o e,st.2.keep λo e=>hk d ↑13 o e⟩
 item:=λi s Q E hi st q=>AI st.1 st.2 hi λh' y' sb=>q _ h' s.toks ⟨hi,rfl⟩ ⟨y',st.2.keep λo e=>sb.extBut _ _ ne e⟩ λb o hb e=>sb.extBut b o (λz=>hb (by simp[z])) e
 done:=λs Q E st q=>Fn hh st.1 st.2 (VX _) λh' sb=>q h' s.toks λb o hb e=>sb b o (λz=>hb (by simp[z])) e
 self:=λ_ _ _ _ st q=>ab4 st.1 q
def xx:typeLookup (.type "dict") "__len__"=pure (some (.builtin "dict.__len__")):=by rw[typeLookup_type,builtinLookup_eq_fast];kernel_rfl
def Bi{R:Result->Shared->Prop}(hh:A.handled=none)(nd:(d==sysModules)=false)(x:oJ s.heap d es ep)(S:Addr)(res:Value)(c:Nat)(hS:s.heap.get? S=some { cls:=.type "list",data:=.seq #[] c })(ne:S≠d)(q:∀h' tk Tc c',(∀b o,b≠S->s.heap.get? b=some o->h'.get? b=some o)->h'.get? S=some { cls:=.type "list",dict:=none,data:=.seq Tc c',slots:=#[] }->ItemsOf (λi v=>∃h:i<es.size,v=es[i].key) Tc es.size->R (.ok (.ret res)) { s with heap:=h',toks:=tk })(hn:es.size<=sizeLine):wpAny ↑11 A.in1 (Yr (.ref S) (.ref d) res) (λfin s'=>match fin with|.done f=>R (.ok f) s'|.again c'=>c'.quiet=true/\codeAny ↑11 A c' R s') (λe s'=>R (.error e) s') s:=by
 have lS:=V3 hS;have ld:d<s.heap.objs.size:=by obtain⟨o,a,_⟩:=x;exact V3 a
 unfold Yr;refine VQ (aat x.ty ?_);simp only[show aba (.ref S) (.ref d)=false by simp[aba,ne],show (Xp "dict" == Xp "list")=false by decide,show (Xp "dict" == Xp "tuple")=false by decide,Bool.or_false,Xv,if_false];refine VQ (wC nd x ?_);have x':oJ (s.heap.push { cls:=.type "dict_keyiterator",data:=.fields #[.ref d,.int 0 0,.int es.size 0,.int ep 0] }) d es ep:=x.keep λo e=>VR _ e;have y':(s.heap.push { cls:=.type "dict_keyiterator",data:=.fields #[.ref d,.int 0 0,.int es.size 0,.int ep 0] }).IsKeyIter s.heap.objs.size d 0 es.size ep:=⟨_,V2 _ rfl,rfl,rfl⟩
 have t':=oJ.ty (s:={ s with heap:=s.heap.push { cls:=.type "dict_keyiterator",data:=.fields #[.ref d,.int 0 0,.int es.size 0,.int ep 0] } }) x';refine VQ (Xm ?_);unfold Builtin.List.listLengthHint;refine VQ (wpAny_specialOf t' xx ?_)
 wp_delta
 refine VQ (Zj (T := "dict") (b:=true) t' (by rw[isSubtype_type];kernel_rfl) ?_);show wpAny _ _ (typeOf (V4 d) >>= _) _ _ _;refine VQ (aat t' (VY ?_));rw[if_pos ↑12];refine VQ (ZY (VQ ?_));show wpAny _ A.in1 (updateSeq S (·.push .none) >>= λ_=>updateSeq S (·.pop)) _ _ _;have e1:(s.heap.push { cls:=.type "dict_keyiterator",data:=.fields #[.ref d,.int 0 0,.int es.size 0,.int ep 0] }).get? S=some { cls:=.type "list",data:=.seq #[] c }:=VR _ hS;refine VQ (YI e1 rfl ?_);have e2:=WL (Ym (·.push WK)) e1 rfl;refine YI (hz:=by seq_fits) e2 rfl ?_;have e3:=WL (Ym (·.pop)) e2 rfl;have kp:∀b o,b≠S->(s.heap.push { cls:=.type "dict_keyiterator",data:=.fields #[.ref d,.int 0 0,.int es.size 0,.int ep 0] }).get? b=some o->(((s.heap.push { cls:=.type "dict_keyiterator",data:=.fields #[.ref d,.int 0 0,.int es.size 0,.int ep 0] }).update S (Ym (·.push WK))).update S (Ym (·.pop))).get? b=some o:=λb o hb e=>(Wn _ _ hb.symm).trans ((Wn _ _ hb.symm).trans e);have sf:S ∉ [s.heap.objs.size,d]:=λm=>by
  rcases Wd.mp m with z|z
  .exact V_ lS z
  .exact ne (Wi.mp z)
 have W:=E9 (prog:=prog) (w:=w) (A:=A.in1) hh s.heap.objs.size d (V_ ld) es ep;refine VY ⟨Z7 F.plain_extend_loop _,codeAny_extend_loopS W.toS hn _ sf _ es.size 0 _ _ _ rfl (Wb _) ?_ e3 (ItemsOf.nil _) λs' Tc c' hm TY T7=>?_⟩
 .exact⟨y'.at λo e=>kp _ o (XM lS) e,x'.keep λo e=>kp _ o ne.symm e⟩
 .rw[Moved.eq_with hm];refine q s'.heap s'.toks Tc c' (λb ob hb e=>hm.heap b ob (λmem=>?_) (kp b ob hb (VR _ e))) TY T7;rcases Wd.mp mem with z|z
  .exact hb z
  .have:=V3 e;rw[Wi.mp z] at this;exact Yt _ this
def GK{Q:Value->Shared->Prop}(hh:A.handled=none)(nd:(d==sysModules)=false)(x:oJ s.heap d es ep)(q:∀h' tk Tc c',(∀b o,s.heap.get? b=some o->h'.get? b=some o)->h'.get? s.heap.objs.size=some { cls:=.type "list",dict:=none,data:=.seq Tc c',slots:=#[] }->ItemsOf (λi v=>∃h:i<es.size,v=es[i].key) Tc es.size->Q (.ref s.heap.objs.size) { s with heap:=h',toks:=tk })(hn:es.size<=sizeLine):wpAny ↑11 A (call (.type "list") [.ref d]) Q E s:=by
 have ld:d<s.heap.objs.size:=by obtain⟨o,a,_⟩:=x;exact V3 a
 refine callType_codes (Q₁:=λob s₁=>ob=.ref s.heap.objs.size/\s₁={ s with heap:=s.heap.push { cls:=.type "list",data:=.seq #[] } }) F.called_list (F.typeCall_list_1 _) F.entry_list_init (code_list_new _ ⟨rfl,rfl⟩) λob s₁ e=>?_;obtain⟨rfl,rfl⟩:=e;have e0:(s.heap.push { cls:=.type "list",data:=.seq #[] }).get? s.heap.objs.size=some { cls:=.type "list",data:=.seq #[] }:=V2 _ rfl;refine⟨⟨_,e0,rfl⟩,F.args_list_init_2 _ _,?_⟩;show wpAny _ _ (do let old <- aby (.ref s.heap.objs.size);Builtin.List.listUpdate (.ref s.heap.objs.size) (λ_=>#[]);letGo old.toList.reverse;Yr (.ref s.heap.objs.size) (.ref d) .none) _ _ _;refine VQ ?_;unfold aby;refine VQ (WO e0 rfl (VY ?_));show wpAny _ _ (updateSeq s.heap.objs.size (λ_=>#[]) >>= λ_=>letGo (#[]:Array Value).toList.reverse >>= λ_=>Yr (.ref s.heap.objs.size) (.ref d) .none) _ _ _;refine VQ (YI e0 rfl (VQ (X4 ?_)));have e1:=WL (Ym (λ_=>(#[]:Array Value))) e0 rfl;have kp:∀b o,b≠s.heap.objs.size->(s.heap.push { cls:=.type "list",data:=.seq #[] }).get? b=some o->((s.heap.push { cls:=.type "list",data:=.seq #[] }).update s.heap.objs.size (Ym (λ_=>(#[]:Array Value)))).get? b=some o:=λb o hb e=>(Wn _ _ hb.symm).trans e;refine Bi (A:=A.in1) (s:={ s with heap:=(s.heap.push { cls:=.type "list",data:=.seq #[] }).update s.heap.objs.size (Ym (λ_=>(#[]:Array Value))) }) hh nd (x.keep λo e=>kp _ o (V_ ld) (VR _ e)) _ _ _ e1 (XM ld) (λh' tk Tc c' hk TY T7=>?_) hn;exact⟨rfl,q h' tk Tc c' (λb o e=>hk b o (V_ (V3 e)) (kp b o (V_ (V3 e)) (VR _ e))) TY T7⟩
end
def Ha{α β γ:Type}(x:M α)(f:α->M β)(g:β->M γ):(x.bind f).bind g=x.bind λa=>(f a).bind g:=by
 cases x with
 | none=>rfl
 |some y=>cases y<;>rfl
variable{σ:St}{H₀ Hs H:Hp}
def SR.forget{B:Hp}{env:af}(r:SR B H₀ Hs H σ env):SR B H₀ Hs H σ (env.set i none) :=
 r.mv r.gr (by rw[Y8];exact r.len) (λ_ _ q=>q) λ_ _ e=>by
  rcases qE e with ⟨_,e⟩|⟨_,e,_⟩
  .exact⟨e,rfl,λ_ _ _ _ h1 h2 h3 _=>⟨h1,h2,h3⟩⟩
  .cases e
def SR.over{B:Hp}{env:af}{w:Option V}(r:SR B H₀ Hs H σ env)(n:env[i]?=some none):SR B H₀ Hs H (σ.set i w) env :=
 r.mv r.gr (by rw[Y8];exact r.len) (λ_ _ q=>q) λj _ e=>⟨e,by rw[Wy,if_neg (λz=>by rw[<- z,n] at e;cases e)],λ_ _ _ _ h1 h2 h3 _=>⟨h1,h2,h3⟩⟩
variable{a:Addr}
def SR.lay{B:Hp}{env:af}{o:HO}(r:SR B H₀ Hs H σ env)(n:lX env)(h:H a=some o)(h1:Hs a=none)(h2:H₀ a=none):SR B H₀ (upd Hs a o) H σ env :=
 r.mv (r.gr.into h h1 h2).1 r.len (r.gr.into h h1 h2).2 λ_ _ e=>⟨e,rfl,λ_ _ o=>(n.no e o).elim⟩
def FO(env:af):Bool:=env.all λo=>match o with
 | some (.ow _)=>false
 | some (.bd _ _ _)=>false
 | some (.dw _)=>false
 |_=>true
def DV{env:af}(h:FO env=true):lX env:=λi x e=>by
 have:=W_.mp h (some x) (abZ e);cases x with
 | sh p=>exact⟨p,rfl⟩
 | ow xs=>cases this
 | bd a C fs=>cases this
 |dw _=>cases this
def xj{env:af}(n:lX env):lX (env.set i none):=λj x e=>by
 rw[Wy] at e
 by_cases z:i=j
 .rw[if_pos z] at e
  split at e<;>cases e
 .rw[if_neg z] at e;exact n j x e
def G8(fi fv:af->M PV)(e:af)(xs ys:List PV):M (List PV×List PV):=(fi e).bind λk=>match k with
 | .int 0=>if xs.length<8 then (fv e).bind λv=>M.ok (xs++[v],ys) else M.ok (xs,ys)
 | .int 1=>if ys.length<8 then (fv e).bind λv=>M.ok (xs,ys++[v]) else M.ok (xs,ys)
 |_=>none
def yS(ic:Nat)(fi fv:af->M PV):List PV->af->List PV->List PV->M (af×List PV×List PV)
 | [],e,xs,ys=>M.ok (e,xs,ys)
 |p::r,e,xs,ys=>(G8 fi fv (e.set ic (some (.sh p))) xs ys).bind λz=>yS ic fi fv r (e.set ic (some (.sh p))) z.1 z.2
def Lu(iL:Nat)(z:af×List PV×List PV):M Out:=M.ok (.nx (z.1.set iL (some (.sh (.lst [.lst z.2.1,.lst z.2.2])))))
def NG(iL iS ic:Nat)(it:af->M (List PV))(fi fv:af->M PV)(env:af):M Out :=
 cO (FO env=true/\iL<env.length/\iS<env.length) ((it ((env.set iL none).set iS none)).bind λxs=>(yS ic fi fv xs ((env.set iL none).set iS none) [] []).bind (Lu iL))
def KA(iL iS ic:Nat)(it:af->M (List PV))(fi fv:af->M PV)(g:af->M Out):af->M Out:=aq (NG iL iS ic it fi fv) g
structure Tw (iL iS:Nat) (a b0 b1:Addr) (B H₀ Hs H:Hp) (σ:St) (env:af) (xs ys:List PV) (vs ws:List V):Prop where
 sr:SR B H₀ Hs H σ env
 no:lX env
 sl:σ[iL]?=some (some (.ref a))
 nL:env[iL]?=some none
 nS:env[iS]?=some none
 ha:H a=some (.lst [.ref b0,.ref b1])
 h0:H b0=some (.lst vs)
 h1:H b1=some (.lst ws)
 sa:Hs a=none
 s0:Hs b0=none
 s1:Hs b1=none
 oa:H₀ a=none
 o0:H₀ b0=none
 o1:H₀ b1=none
 d0:a≠b0
 d1:a≠b1
 d2:b0≠b1
 rx:aL Hs xs vs
 ry:aL Hs ys ws
variable{ws:List V}
variable{v:V}{p:PV}
section
variable{iL iS ic:Nat}{b0 b1:Addr}{B:Hp}{env:af}{xs ys:List PV}{vs:List V}
theorem Tw.grow{Ra H':Hp}(t:Tw iL iS a b0 b1 B H₀ Hs H σ env xs ys vs ws)(g:bb Hs H Ra H'):Tw iL iS a b0 b1 B H₀ Ra H' σ env xs ys vs ws :=
 ⟨t.sr.grow g,t.no,t.sl,t.nL,t.nS,g.al _ _ t.ha,g.al _ _ t.h0,g.al _ _ t.h1,g.nw _ _ t.sa t.ha (λ_=>nofun),g.nw _ _ t.s0 t.h0 (λ_=>nofun),g.nw _ _ t.s1 t.h1 (λ_=>nofun),t.oa,t.o0,t.o1,t.d0,t.d1,t.d2,t.rx.mono g.st,t.ry.mono g.st⟩
def Tw.item(t:Tw iL iS a b0 b1 B H₀ Hs H σ env xs ys vs ws)(r:Rep Hs p v)(n1:ic≠iL)(n2:ic≠iS):Tw iL iS a b0 b1 B H₀ Hs H (σ.set ic (some v)) (env.set ic (some (.sh p))) xs ys vs ws :=
 ⟨t.sr.set r,kn t.no,by rw[Wy,if_neg n1];exact t.sl,by rw[Wy,if_neg n1];exact t.nL,by rw[Wy,if_neg n2];exact t.nS,t.ha,t.h0,t.h1,t.sa,t.s0,t.s1,t.oa,t.o0,t.o1,t.d0,t.d1,t.d2,t.rx,t.ry⟩
def Tw.pick{w:Option V}(t:Tw iL iS a b0 b1 B H₀ Hs H σ env xs ys vs ws)(n:iS≠iL):Tw iL iS a b0 b1 B H₀ Hs H (σ.set iS w) env xs ys vs ws :=
 ⟨t.sr.over t.nS,t.no,by rw[Wy,if_neg n];exact t.sl,t.nL,t.nS,t.ha,t.h0,t.h1,t.sa,t.s0,t.s1,t.oa,t.o0,t.o1,t.d0,t.d1,t.d2,t.rx,t.ry⟩
def Tw.Pr(t:Tw iL iS a b0 b1 B H₀ Hs H σ env xs ys vs ws)(r:Rep Hs p v):Tw iL iS a b0 b1 B H₀ Hs (upd H b0 (.lst (vs++[v]))) σ env (xs++[p]) ys (vs++[v]) ws :=
 ⟨t.sr.oE t.no t.s0 t.o0,t.no,t.sl,t.nL,t.nS,by rw[au t.d0];exact t.ha,ay,by rw[au t.d2.symm];exact t.h1,t.sa,t.s0,t.s1,t.oa,t.o0,t.o1,t.d0,t.d1,t.d2,t.rx.snoc r,t.ry⟩
def Tw.Pd(t:Tw iL iS a b0 b1 B H₀ Hs H σ env xs ys vs ws)(r:Rep Hs p v):Tw iL iS a b0 b1 B H₀ Hs (upd H b1 (.lst (ws++[v]))) σ env xs (ys++[p]) vs (ws++[v]) :=
 ⟨t.sr.oE t.no t.s1 t.o1,t.no,t.sl,t.nL,t.nS,by rw[au t.d1];exact t.ha,by rw[au t.d2];exact t.h0,ay,t.sa,t.s0,t.s1,t.oa,t.o0,t.o1,t.d0,t.d1,t.d2,t.rx,t.ry.snoc r⟩
def Tw.fin(t:Tw iL iS a b0 b1 B H₀ Hs H σ env xs ys vs ws):∃Ra,SR B H₀ Ra H σ (env.set iL (some (.sh (.lst [.lst xs,.lst ys])))):=by
 have r0:=t.sr.lay t.no t.h0 t.s0 t.o0;have r1:=r0.lay t.no t.h1 (by rw[au t.d2.symm];exact t.s1) t.o1;have r2:=r1.lay t.no t.ha (by rw[au t.d1,au t.d0];exact t.sa) t.oa;have m0:aY Hs (upd Hs b0 (.lst vs)):=λc u q=>by rwa[au (λz=>by rw[z,t.s0] at q;cases q)]
 have m1:aY (upd Hs b0 (.lst vs)) (upd (upd Hs b0 (.lst vs)) b1 (.lst ws)):=λc u q=>by rwa[au (λz=>by rw[z,au t.d2.symm,t.s1] at q;cases q)]
 have m2:aY (upd (upd Hs b0 (.lst vs)) b1 (.lst ws)) (upd (upd (upd Hs b0 (.lst vs)) b1 (.lst ws)) a (.lst [.ref b0,.ref b1])):=λc u q=>by rwa[au (λz=>by rw[z,au t.d1,au t.d0,t.sa] at q;cases q)]
 have rep:Rep (upd (upd (upd Hs b0 (.lst vs)) b1 (.lst ws)) a (.lst [.ref b0,.ref b1])) (.lst [.lst xs,.lst ys]) (.ref a) :=
  .lst ay (.cons (.lst (by rw[au t.d0.symm,au t.d2,ay]) (((t.rx.mono m0).mono m1).mono m2)) (.cons (.lst (by rw[au t.d1.symm,ay]) (((t.ry.mono m0).mono m1).mono m2)) .nil))
 have:=r2.set (i:=iL) rep;have e:σ.set iL (some (.ref a))=σ:=by
  refine aa2 λj=>?_;rw[Wy]
  split
  .rename_i z;subst z;rw[t.sl]
   split
   .rfl
   .rename_i h;have:=Y9 (ac9 h);rw[t.sl] at this;cases this
  .rfl
 rw[e] at this;exact⟨_,this⟩
end
def PN(K:VU)(iL iS:Nat)(ti tv:TE):TS:=GG (BB (JG (Pf K) (CO iL) ti) (aC iS)) (GG (MU (CN (JG (zT λi j=>.bl (decide (i<j))) (OD (DP K) (xW (CO iS) yL)) (tC (.int 8)))) (GG (Js (Qr K "list" AY (CO iS) (xW tv yL))) Az) Az) Az)
variable{it:af->M (List PV)}{wi:TI}
section
variable{E:XK}{st1 TU:Stmt}{rest:List Stmt}{iL iS ic:Nat}{fi fv:af->M PV}{g:af->M Out}
theorem G3(h1:PS X st1 (BB (GH (xW (GH yL) (xW (GH yL) yL))) (aC iL)))(h2:PS X TU (NC wi (aC ic) (PN X.K iL iS (tE (λ_=>E) fi) (tE (λ_=>E) fv))))(hv:yg (λ_=>E) wi it)(n1:ic≠iL)(n2:ic≠iS)(n3:iS≠iL)(h3:lA X rest (tS E g)):lA X (st1::TU::rest) (tS E (KA iL iS ic it fi fv g)):=by
 refine(iH h1 (iH h2 h3)).imp λD σ H q=>?_;obtain⟨B,H₀,Hs,env,sr,q⟩:=q;have q:=aw.bind q;obtain⟨⟨no,lL,lS⟩,q⟩:=aw.cO q;have no:=DV no;have q:=aw.bind q;refine⟨Wb _,λb0 e0=>⟨Wb _,λb1 e1=>⟨by show 2<=sizeLine;decide,λa ea=>?_⟩⟩⟩;have z:∀c:Addr,H c=none->Hs c=none/\H₀ c=none:=λc h=>by
  constructor
  .cases y:Hs c with
   | none=>rfl
   | some o =>
    have:=sr.gr.sub _ _ y;rw[h] at this;cases this
  .cases y:H₀ c with
   | none=>rfl
   | some o =>
    have:=sr.gr.al _ _ y;rw[h] at this;cases this
 have d2:b0≠b1:=λy=>by rw[<- y,ay] at e1;cases e1
 have UA:H b1=none:=by rwa[au d2.symm] at e1
 have d1:a≠b1:=λy=>by rw[y,ay] at ea;cases ea
 rw[au d1] at ea;have d0:a≠b0:=λy=>by rw[y,ay] at ea;cases ea
 rw[au d0] at ea;have t0:Tw iL iS a b0 b1 B H₀ Hs (upd (upd (upd H b0 (.lst [])) b1 (.lst [])) a (.lst [.ref b0,.ref b1])) (σ.set iL (some (.ref a))) ((env.set iL none).set iS none) [] [] [] []:=by
  have nn:lX ((env.set iL none).set iS none):=xj (xj no);have gL:((env.set iL none).set iS none)[iL]?=some none:=by rw[Wy,if_neg n3,Wy,if_pos rfl,if_pos (by simpa using lL)]
  have gS:((env.set iL none).set iS none)[iS]?=some none:=by rw[Wy,if_pos rfl,if_pos (by simpa using lS)]
  exact⟨(((((sr.forget (i:=iL)).forget (i:=iS)).over gL).oE nn (z b0 e0).1 (z b0 e0).2).oE nn (z b1 UA).1 (z b1 UA).2).oE nn (z a ea).1 (z a ea).2,nn,by rw[Wy,if_pos rfl,if_pos (by rwa[sr.len])],gL,gS,ay,by rw[au d0.symm,au d2,ay],by rw[au d1.symm,ay],(z a ea).1,(z b0 e0).1,(z b1 UA).1,(z a ea).2,(z b0 e0).2,(z b1 UA).2,d0,d1,d2,.nil,.nil⟩
 refine hv _ _ _ ⟨B,H₀,Hs,_,t0.sr,q.imp (λitems hp J Ra H' gr ok=>?_) λe he=>he.grow t0.sr.gr⟩
 let Jt:Nat->St->Hp->Prop:=λi σ H=>∃Hs env xs ys vs ws,Tw iL iS a b0 b1 B H₀ Hs H σ env xs ys vs ws/\aY Ra Hs/\aw ((yS ic fi fv (items.drop i) env xs ys).bind (Lu iL)) (λo=>aw (Ak g o) (KS D B H₀) (XW E B H₀)) (XW E B H₀)
 refine⟨λi m σ H=>m=items.length-i/\i<=items.length/\Jt i σ H,⟨items.length,by simp,Wb _,Ra,_,[],[],[],[],t0.grow gr,λ_ _ z=>z,hp⟩,?_⟩;rintro i m σ' H2 ⟨rfl,hi,Rl,env2,xs,ys,vs,ws,t2,s2,h2⟩
 by_cases RW:i<items.length
 .refine .inr ⟨ok.go i Rl H2 s2 t2.sr.gr.sub RW,Jt (i+1),fun σ3 H3 j=>⟨items.length-(i+1),by lia,rfl,RW,j⟩,λx H3 y=>?_⟩;obtain⟨p,SS,ep,g3,r3⟩:=ok.vx i Rl H2 x H3 s2 t2.sr.gr.sub RW y;have hd:items.drop i=p::items.drop (i+1):=by
   rw[XC RW];rw[VT RW] at ep;rw[V9 ep]
  rw[hd,yS,Ha] at h2;have h2:=aw.bind h2;have t3:=(t2.grow g3).item (ic:=ic) r3 n1 n2;have s3:aY Ra SS:=λc u e=>g3.st c u (s2 c u e);refine⟨.ref a,t3.sl,B,H₀,SS,_,t3.sr,(aw.bind h2).imp (λk hk v Uy H4 g4 r4=>?_) λe he=>he.grow t3.sr.gr⟩;have t4:=t3.grow g4;have s4:aY Ra Uy:=λc u e=>g4.st c u (s3 c u e);have len:iS<(σ'.set ic (some x)).length:=by
   rw[t4.sr.len];exact(WB.mp t4.nS).1
  cases r4 with
  | int j =>
   by_cases j0:j=0
   .subst j0;refine .inl ⟨a,[.ref b0,.ref b1],0,.ref b0,rfl,rfl,gQ.of t4.ha,rfl,?_⟩;have t5:=t4.pick (w:=some (.ref b0)) n3;have gs:((σ'.set ic (some x)).set iS (some (.ref b0)))[iS]?=some (some (.ref b0)):=by rw[Wy,if_pos rfl,if_pos len]
    refine⟨.ref b0,gs,.inl ⟨b0,vs,rfl,.inl (gQ.of t5.h0),vs.length,8,rfl,rfl,_,rfl,?_⟩⟩;have el:xs.length=vs.length:=t5.rx.length
    by_cases hz:xs.length<8
    .have hk:=(if_pos hz▸hk:aw ((fv _).bind λv=>M.ok _) _ _)
     rw[decide_eq_true (show (vs.length:Int)<8 by lia)];show ite (true=true) _ _;rw[if_pos rfl];refine⟨.ref b0,gs,.inl ⟨rfl,vs,gQ.of t5.h0⟩,B,H₀,Uy,_,t5.sr,(aw.bind hk).imp (λp hp v T3 H5 g5 r5=>?_) λe he=>he.grow t5.sr.gr⟩;exact⟨b0,vs,v,rfl,rfl,(t5.grow g5).h0,V8 (show vs.length<8 by lia) ↑12,T3,_,_,_,_,_,(t5.grow g5).Pr r5,λc u e=>g5.st c u (s4 c u e),hp⟩
    .have hk:=(if_neg hz▸hk:aw (M.ok _) _ _)
     rw[decide_eq_false (show ¬ (vs.length:Int)<8 by lia)];show ite (false=true) _ _;rw[if_neg ↑12];exact⟨Uy,_,_,_,_,_,t5,s4,hk⟩
   by_cases j1:j=1
   .subst j1;refine .inl ⟨a,[.ref b0,.ref b1],1,.ref b1,rfl,rfl,gQ.of t4.ha,rfl,?_⟩;have t5:=t4.pick (w:=some (.ref b1)) n3;have gs:((σ'.set ic (some x)).set iS (some (.ref b1)))[iS]?=some (some (.ref b1)):=by rw[Wy,if_pos rfl,if_pos len]
    refine⟨.ref b1,gs,.inl ⟨b1,ws,rfl,.inl (gQ.of t5.h1),ws.length,8,rfl,rfl,_,rfl,?_⟩⟩;have el:ys.length=ws.length:=t5.ry.length
    by_cases hz:ys.length<8
    .have hk:=(if_pos hz▸hk:aw ((fv _).bind λv=>M.ok _) _ _)
     rw[decide_eq_true (show (ws.length:Int)<8 by lia)];show ite (true=true) _ _;rw[if_pos rfl];refine⟨.ref b1,gs,.inl ⟨rfl,ws,gQ.of t5.h1⟩,B,H₀,Uy,_,t5.sr,(aw.bind hk).imp (λp hp v T3 H5 g5 r5=>?_) λe he=>he.grow t5.sr.gr⟩;exact⟨b1,ws,v,rfl,rfl,(t5.grow g5).h1,V8 (show ws.length<8 by lia) ↑12,T3,_,_,_,_,_,(t5.grow g5).Pd r5,λc u e=>g5.st c u (s4 c u e),hp⟩
    .have hk:=(if_neg hz▸hk:aw (M.ok _) _ _)
     rw[decide_eq_false (show ¬ (ws.length:Int)<8 by lia)];show ite (false=true) _ _;rw[if_neg ↑12];exact⟨Uy,_,_,_,_,_,t5,s4,hk⟩
   .split at hk
    .rename_i e;cases e;exact(j0 rfl).elim
    .rename_i e;cases e;exact(j1 rfl).elim
    .exact hk.elim
  | _=>exact hk.elim
 .refine .inl ⟨ok.stop i Rl H2 s2 t2.sr.gr.sub ⋯,?_⟩;rw[Yq ⋯] at h2;obtain⟨T3,sr5⟩:=t2.fin;exact⟨B,H₀,T3,_,sr5,h2⟩
end
theorem KT.at{H:Hp}:∀{Q9:List (List Key×V)}{xs:List (List Key×Addr×Value)},KT H Q9 xs->∀i (h:i<Q9.length) (h':i<xs.length),H xs[i].2.1=some (.tup (Q9[i].1.map kV))
 | _,_,.nil,i,h,_=>absurd h (aai i)
 | _,_,.cons a t,0,_,_=>a.2.1
 |_,_,.cons a t,i+1,h,h'=>KT.at t i (abz h) (abz h')
def KP(tk tv:TE):TE:=fun σ H Q=>∀p,H p=none->zS [(tk,tv)] σ (upd H p (.dT [])) λps H2=>∃v b k,ps=[(.ref b,v)]/\H2 b=some (.tup (k.map kV))/\H2 p=some (.dT [])/\Q (.ref p) (upd H2 p (.dT [(k,v)]))
def DH{k v:Expr}{tk tv:TE}{pos:Pos}(hu:X.A.units<cLine)(hk:PE X k tk)(hv:PE X v tv):PE X (.Dict [some k] [v] pos) (KP tk tv):=by
 intro Q6 s σ H Q I q;have hn:=I.bA.fresh (VX s.heap.objs.size);have I1:=I.laid (a:=s.heap.objs.size) (o:=.dT []) (h':=s.heap.push { cls:=.type "dict",data:=.dict #[] }) (t':=s.toks) (λ_ _ q=>VR _ q) (VX _) (yb s.heap I.big);refine wpAny_Dict_any rfl rfl (λz=>nomatch z) (show 1<=15 by decide) (cv ((CL hk hv HV) Q6 _ σ _ _ I1 (q _ hn)) λws s2 h=>?_);obtain⟨_,H2,I2,rel,x,b,ks,rfl,hb,hp,q2⟩:=h;obtain⟨u1,u2⟩:∃w1 w2,ws=[(w1,w2)]/\RelV (.ref b) w1/\RelV x w2:=by
  cases rel with
  | cons a t=>cases t;exact⟨_,_,rfl,a.1,a.2⟩
 obtain⟨w2,rfl,r1,r2⟩:=u2;cases (show u1=V4 b from r1);obtain⟨z,nd,xs,rl,dd⟩:=JE I2.bA hp;cases rl;unfold storeAll;rw[Zz];refine VQ (VQ (wpAny_dictSet_heap (hsz:=Wb _) (knd:=tupleKind (cG X.prog X.w)) hu (rE I2.bA hb) dd λh' U9 hs=>VY ?_));show wpAny _ _ (forIn [] PUnit.unit _) _ _ _;rw[ZP];refine VY ⟨.ref s.heap.objs.size,_,?_,rfl,q2⟩;obtain⟨o,es,ep,hq,h2,h3,h4,_,h5⟩:=U9;have:=qg (t':=s2.toks+(tupleKind (cG X.prog X.w)).draws ks) (ob:=.dT [(ks,x)]) I2 (by rw[hp];exact Xq) hs ⟨o,hq⟩ ⟨by show 1<=sizeLine;decide,nd,_,?_,o,es,ep,hq,h2,h3,h4,h5⟩
 .exact this
 .exact .cons ⟨rfl,by rwa[au (Es hb hp (λz=>nomatch z))],r2⟩ .nil
abbrev ky(A:List Int):List Key:=A.map ZG
def EL(A:List Int):(ky A).map kV=A.map V.int:=by rw[WA];rfl
def DI{A B:List Int}(h:ky A=ky B):A=B:=(List.map_inj_right λa b h=>Sum.inl.inj h).mp h
section
variable{κ:Type}[DecidableEq κ]
end
section
variable(sm:List Int->List Int->List Int)(z r:List Int)
end
section
variable{p:Addr}{H':Hp}{Q9 kvs':List (List Key×V)}{vs vs':List Int}
end
variable{E:St->XK}{sem:List PV->M PV}
section
variable{K:VU}{sm:List Int->List Int->List Int}{S:List Int}
end
variable{base:Heap}{mg:Str->Option Value}{P:Program}
section
variable{K:VU}
end
theorem cp.u1{k:Nat}{A:Around}(r:cp k A):A.units+1<cLine:=by have:=r.units;lia
abbrev KD:=List (List Int×PV)
def nI(Q9:KD)(k:List Int):Option PV:=(Q9.find? λz=>decide (z.1=k)).map (·.2)
def putD(Q9:KD)(k:List Int)(p:PV):KD:=if (Q9.any λz=>decide (z.1=k))=true then Q9.map (λz=>if z.1=k then (z.1,p) else z) else Q9++[(k,p)]
def rH:List PV->Option (List Int)
 | []=>some []
 | .int i::r=>(rH r).map (i::·)
 |_=>none
def B7:PV->Option (List Int)
 | .tup xs=>rH xs
 |_=>none
theorem uZ:∀ns:List Int,rH (ns.map PV.int)=some ns
 | []=>rfl
 |n::r=>by show (rH (r.map PV.int)).map (n::·)=_;rw[uZ r];rfl
theorem yr:∀{xs:List PV}{ns:List Int},rH xs=some ns->xs=ns.map PV.int
 | [],_,h=>by cases h;rfl
 | .int i::r,ns,h=>by
  obtain⟨ms,e,rfl⟩:=Wo.mp (show (rH r).map (i::·)=some ns from h);rw[yr e];rfl
variable{k:List Int}
def wt(r:Rep Hs p v)(e:B7 p=some k):∃b,v=.ref b/\Hs b=some (.tup ((ky k).map kV)):=by
 cases r with
 | @tup a xs vs h rl =>
  have:=yr (show rH xs=some k from e);subst this;rw[EL,<- rl.ints];exact⟨a,rfl,h⟩
 |_=>cases e
theorem eU.length{H:Hp}:∀{Q9:KD}{us:List (List Key×V)},eU H Q9 us->Q9.length=us.length
 | _,_,.nil=>rfl
 |_,_,.cons _ r=>by simp[r.length]
theorem eU.val{H:Hp}:∀{Q9:KD}{us:List (List Key×V)}(k:List Int),eU H Q9 us->(∀p,nI Q9 k=some p->∃v,lT us (ky k)=some v/\Rep H p v)/\(nI Q9 k).isSome=(lT us (ky k)).isSome
 | _,_,k,.nil=>⟨λp h=>(by cases h),rfl⟩
 | _,_,k,.cons (k:=l) (p:=q) (v:=v) (ps:=ps) (vs:=vs) h r=>by
  obtain⟨i1,i2⟩:=r.val k
  by_cases e:l=k
  .subst e;have e1:nI ((l,q)::ps) l=some q:=by simp[nI,XN]
   have e2:lT ((ky l,v)::vs) (ky l)=some v:=nq rfl;rw[e1];exact⟨λp hp=>by cases hp;exact⟨v,e2,h⟩,by rw[show ((l.map ZG,v)::vs)=(ky l,v)::vs from rfl,e2];rfl⟩
  .have e1:nI ((l,q)::ps) k=nI ps k:=by simp[nI,XN,e]
   have e2:lT ((ky l,v)::vs) (ky k)=lT vs (ky k):=mX (λz=>e (DI z));rw[e1,show ((l.map ZG,v)::vs)=(ky l,v)::vs from rfl,e2];exact⟨i1,i2⟩
def nW(k:List Int)(Q9:KD):(Q9.any λz=>decide (z.1=k))=(nI Q9 k).isSome:=by
 induction Q9 with
 | nil=>rfl
 | cons z r ih =>
  rw[Z2]
  by_cases e:z.1=k
  .simp[nI,XN,e]
  .rw[decide_eq_false e,Bool.false_or,ih];simp[nI,XN,e]
theorem eU.map_put{H:Hp}{k:List Int}{p:PV}{v:V}(h:Rep H p v):∀{Q9:KD}{us:List (List Key×V)},eU H Q9 us->eU H (Q9.map λz=>if z.1=k then (z.1,p) else z) (us.map λz=>if z.1=ky k then (z.1,v) else z)
 | _,_,.nil=>.nil
 | _,_,.cons (k:=l) (p:=q) (v:=u) h2 r=>by
  rw[Wv,Wv]
  by_cases e:l=k
  .rw[if_pos e,if_pos (show l.map ZG=ky k by rw[e])];exact .cons h (r.map_put h)
  .rw[if_neg e,if_neg (λz=>e (DI z))];exact .cons h2 (r.map_put h)
theorem eU.snoc{H:Hp}{k:List Int}{p:PV}{v:V}(h:Rep H p v):∀{Q9:KD}{us:List (List Key×V)},eU H Q9 us->eU H (Q9++[(k,p)]) (us++[(ky k,v)])
 | _,_,.nil=>.cons h .nil
 |_,_,.cons h2 r=>.cons h2 (r.snoc h)
variable{us:List (List Key×V)}{Q9:KD}
def eU.put(h:Rep H p v)(r:eU H Q9 us):eU H (putD Q9 k p) (putK us (ky k) v):=by
 unfold putD putK;have e:(Q9.any λz=>decide (z.1=k))=us.any λz=>decide (z.1=ky k):=by rw[nW,rh];exact(r.val k).2
 rw[e]
 split
 .exact r.map_put h
 .exact r.snoc h
def AU(sm:aY Hs H)(hd:Rd H a (.dT us))(r:Rep Hs p v)(e:B7 p=some k):Hg H a v (lT us (ky k)):=by
 obtain⟨b,rfl,hb⟩:=wt r e;exact .inr ⟨us,ky k,b,hd,rfl,sm _ _ hb,rfl⟩
variable{px:Pos}
variable{n:Bool}
section
variable{a b:Expr}{pos:Pos}{g:af->M PV}
def Dj(n:Bool):R2:=λy x H Q=>∃a o,x=.ref a/\Hg H a y o/\Q (.bl (n ^^ o.isSome)) H
def JS(hu:X.A.units+1<cLine):gR X (compareOp .In) (Dj false):=by
 intro Q6 s σ H y x iv u Q I ry rx h;obtain⟨a,o,rfl,g,q⟩:=h;cases rx;exact OW hu I g ry λs3 I3=>⟨.bl o.isSome,H,I3,rfl,by rwa [Bool.false_xor] at q⟩
def Hn(hu:X.A.units+1<cLine):gR X (compareOp .NotIn) (Dj true):=by
 intro Q6 s σ H y x iv u Q I ry rx h;obtain⟨a,o,rfl,g,q⟩:=h;cases rx;exact Gv hu I g ry λs3 I3=>⟨.bl (!o.isSome),H,I3,rfl,by rwa [Bool.true_xor] at q⟩
def KU(n:Bool)(Q9:KD)(p:PV):M PV:=match B7 p with
 | some k=>M.ok (.bl (n ^^ (nI Q9 k).isSome))
 |none=>none
def Gh(n:Bool):PV->PV->M PV
 | p,.jB Q9=>KU n Q9 p
 |_,_=>none
def LP:n_ E (Dj n) (Gh n):=by
 intro σ Hs H p q v u Q s rp rq h;cases rq with
 | @jB a o Q9 us hd rd =>
  have h':aw (KU n Q9 p) (eK Hs H Q) (XW (E σ) Hs H):=h;unfold KU at h'
  split at h'
  .rename_i k hk;refine⟨a,_,rfl,AU s (.inr ⟨o,s _ _ hd⟩) rp hk,?_⟩;rw[<- (rd.val k).2];exact eK.flat h' s (.bl _)
  .exact h'.elim
 |_=>exact h.elim
end
def o7(i:Nat)(env:af):M KD:=match env[i]? with
 | some (some (.dw Q9))=>M.ok Q9
 |_=>none
theorem aw.o7{i:Nat}{env:af}{Q:KD->Prop}{E:EX->Prop}(h:aw (L2.o7 i env) Q E):∃Q9,env[i]?=some (some (.dw Q9))/\Q Q9:=by
 unfold L2.o7 at h
 split at h
 .exact⟨_,by assumption,h⟩
 .exact h.elim
def SR.NP{B:Hp}{env:af}{p:Addr}(r:SR B H₀ Hs H σ env)(hs:Hs p=none)(h0:H₀ p=none)(na:∀(j:Nat)(y:SV),env[j]?=some (some y)->iJ y=true->σ[j]?≠some (some (.ref p)))(h:eU Hs Q9 us):SR B H₀ Hs (upd H p (.dT us)) (σ.set i (some (.ref p))) (env.set i (some (.dw Q9))) :=
 r.chg (r.gr.kX hs h0) (λ_ _ q=>q) (λ_ e=>by cases e;exact⟨_,rfl,p,us,rfl,ay,hs,h0,h⟩) (λj y a u _ ej o z h1 h2 _=>⟨by rwa[au (λw=>by subst w;exact na j y ej o z)],h2⟩) λ_ _ _ k z _=>na k z
def SR.Nt{B:Hp}{env:af}{xs ys:KD}(r:SR B H₀ Hs H σ env)(e:env[i]?=some (some (.dw xs)))(hi:σ[i]?=some (some (.ref a)))(h:eU Hs ys us):SR B H₀ Hs (upd H a (.dT us)) σ (env.set i (some (.dw ys))):=by
 obtain⟨a',vs,h1,h2,h3,h4,h5⟩:=r.dw i xs e;rw[hi] at h1;cases h1;exact r.EZ hi (r.gr.kX h3 h4) (λ_ _ q=>q) (λ_ q=>by cases q;exact⟨_,rfl,a,us,rfl,ay,h3,h4,h⟩) (λj y b u n ej o z q1 q2 _=>⟨by rwa[au (λw=>by subst w;exact r.ap i j _ y b n e ej rfl o hi z)],q2⟩) λ_ _ _ k z n ek o=>r.ap i k _ z a n e ek rfl o hi
section
variable{E:XK}{ie:Expr}{pos pos':Pos}{g h:af->M PV}
def newD(i:Nat):af->M Out:=λenv=>M.ok (.nx (env.set i (some (.dw []))))
def Gy(hN:X.N.Nodup)(hi:X.N[i]?=some x)(hx:Loc X.env.scope x)(hs:autoParam (swapsWith (.Dict [] [] px) (some (.Name x pos')) pos.line X.env=pure false) aR._auto_1)(hf:autoParam ↑1 aF._auto_1):PS X (.Assign [.Name x pos'] (.Dict [] [] px) pos) (tS E (newD i)):=by
 refine(o_ hN hi hx El hs hf).imp λD σ H q=>?_;obtain⟨B,H₀,Hs,env,sr,q⟩:=q;intro p n;exact q _ Hs _ (sr.NP (sr.free n).1 (sr.free n).2 (sr.held n) .nil)
def Ly(i:Nat)(f g:af->M PV):af->M Out:=λenv=>(f env).bind λp=>(g env).bind λq=>match B7 p with
 | some k=>M.ok (.nx (env.set i (some (.dw [(k,q)]))))
 |none=>none
def bb.side{p:Addr}{o:HO}(s:aY Hs H)(n:H p=none):bb Hs H Hs (upd H p o):=by
 have ne:∀c u,H c=some u->c≠p:=λc u e z=>by rw[z,n] at e;cases e
 exact⟨λ_ _ e=>e,λc u e=>by rwa[au (ne c u e)],λc u e=>by rw[au (ne c u (s c u e))];exact s c u e,λ_ _ e _ _=>e⟩
def H0{ke ve:Expr}(hu:X.A.units<cLine)(hN:X.N.Nodup)(hi:X.N[i]?=some x)(hx:Loc X.env.scope x)(hk:PE X ke (tE (λ_=>E) f))(hv:PE X ve (tE (λ_=>E) g))(hs:autoParam (swapsWith (.Dict [some ke] [ve] px) (some (.Name x pos')) pos.line X.env=pure false) aR._auto_1)(hf:autoParam ↑1 aF._auto_1):PS X (.Assign [.Name x pos'] (.Dict [some ke] [ve] px) pos) (tS E (Ly i f g)):=by
 refine(o_ hN hi hx (DH hu hk hv) hs hf).imp λD σ H q=>?_;obtain⟨B,H₀,Hs,env,sr,q⟩:=q;intro p n;have sf:=sr.free n;have hd:=sr.held n;have g0:bb Hs H Hs (upd H p (.dT [])):=bb.side sr.gr.sub n;have sr0:=sr.grow g0;refine⟨B,H₀,Hs,env,sr0,(aw.bind q).imp (λpk hp v Rm H1 g1 rk=>?_) λe he=>he.grow sr0.gr⟩;have Ut:=sr0.grow g1;refine⟨B,H₀,Rm,env,Ut,(aw.bind hp).imp (λpv hq u Rl H2 g2 rv=>?_) λe he=>he.grow Ut.gr⟩;have RF:=Ut.grow g2
 split at hq
 .rename_i k hk;obtain⟨b,rfl,hb⟩:=wt (rk.mono g2.st) hk;have F9:H2 p=some (.dT []):=g2.al _ _ (g1.al _ _ ay);have Sw:Rl p=none:=g2.nw _ _ (g1.nw _ _ sf.1 ay (λ_=>nofun)) (g1.al _ _ ay) (λ_=>nofun);exact⟨u,b,ky k,rfl,RF.gr.sub _ _ hb,F9,hq _ Rl _ (RF.NP Sw sf.2 hd (.cons rv .nil))⟩
 .exact hq.elim
def wZ(i:Nat)(g f:af->M PV):af->M Out:=λenv=>(f env).bind λp=>(o7 i env).bind λQ9=>(g env).bind λq=>match B7 q with
 | some k=>if Q9.length<sizeLine then M.ok (.nx (env.set i (some (.dw (putD Q9 k p))))) else none
 |none=>none
def As(hu:X.A.units+1<cLine)(hi:X.N[i]?=some x)(hv:CA X.env.scope x)(hk:PE X ie (tE (λ_=>E) g))(he:PE X e (tE (λ_=>E) f))(hd:autoParam ↑7 aD._auto_1)(R3:autoParam ↑6 aD._auto_1)(hs:autoParam (swapsWith e (some (.Subscript (.Name x px) ie pos')) pos.line X.env=pure false) aR._auto_1):PS X (.Assign [.Subscript (.Name x px) ie pos'] e pos) (tS E (wZ i g f)):=by
 refine(Ic hu (gP hi hv hd R3) hk he hs).imp λD σ H q=>jv q λB H₀ Hs H1 env p v sr rp hp=>?_;obtain⟨Q9,ex,hp⟩:=aw.o7 (aw.bind hp);obtain⟨a,us,h1,h2,h3,h4,h5⟩:=sr.dw i Q9 ex;refine⟨.ref a,h1,B,H₀,Hs,env,sr,(aw.bind hp).imp (λkp hq w Rl H2 g2 rk=>?_) λe he=>he.grow sr.gr⟩;have RF:=sr.grow g2
 split at hq
 .rename_i k hk
  split at hq
  .rename_i hz;obtain⟨b,rfl,hb⟩:=wt rk hk;have h2':=g2.al _ _ h2;exact⟨a,_,rfl,DW.t h2' (RF.gr.sub _ _ hb) (by rwa[<- h5.length]),hq _ Rl _ (RF.Nt ex h1 ((h5.mono g2.st).put (rp.mono g2.st)))⟩
  .exact hq.elim
 .exact hq.elim
end
section
variable{ie:Expr}{pos pos':Pos}{g h:af->M PV}
def Nk(n:Bool)(i:Nat)(f:af->M PV):af->M PV:=λenv=>(f env).bind λp=>(o7 i env).bind λQ9=>KU n Q9 p
def J_{Q:VK}(q:tE E (Nk n i f) σ H Q):JG (Dj n) (tE E f) (CO i) σ H Q:=by
 refine v8 q λB H₀ Hs H1 env p v sr rp hp=>?_;obtain⟨Q9,ex,hp⟩:=aw.o7 (aw.bind hp);obtain⟨a,us,h1,h2,h3,h4,h5⟩:=sr.dw i Q9 ex;unfold KU at hp
 split at hp
 .rename_i k hk;refine⟨.ref a,h1,a,_,rfl,AU sr.gr.sub (.inl h2) rp hk,?_⟩;rw[<- (h5.val k).2];exact eK.flat hp sr.gr.sub (.bl _)
 .exact hp.elim
def LI{op:CmpOp}(ho:gR X (compareOp op) (Dj n))(hi:X.N[i]?=some x)(hv:CA X.env.scope x)(he:PE X e (tE E f))(hm:behindInMarks op (.Name x px)=false)(hd:autoParam ↑7 aD._auto_1)(R3:autoParam ↑6 aD._auto_1):PT X (.Compare e [op] [.Name x px] pos) (tT E (dm (Nk n i f))):=(vg ho he (gP hi hv hd R3) hm).imp fun σ H Q q=>J_ (mQ q)
end
variable{Q6:List (Addr×Obj)}
def Inv.fz(I:Inv X Q6 σ H s)(e:H a=some (.dT us)):∃o,Inv X Q6 σ (upd H a (.kJ o (.dT us))) s:=by
 obtain⟨z,y,ks,rel,o,es,ep,h1,h2⟩:=(show bD X.prog X.w H s.heap a (.dT us) from I.bA a _ e)
 refine⟨o,qg (t':=s.toks) I (by rw[e];exact Xq) ⟨rfl,λ_ _=>rfl⟩ ⟨o,h1⟩ ⟨h1,z,y,ks,?_,o,es,ep,h1,h2⟩⟩;exact(show KT H us ks from rel).keeps λc ys ec=>by rwa[au (Es ec e (λz=>nomatch z))]
def Ou(i:Nat)(env:af):af:=match env[i]? with
 | some (some (.dw Q9))=>env.set i (some (.sh (.jB Q9)))
 |_=>env
variable{o:Obj}
def SR.fz{B:Hp}{env:af}(r:SR B H₀ Hs H σ env)(e:env[i]?=some (some (.dw Q9)))(h1:σ[i]?=some (some (.ref a)))(h2:H a=some (.dT us))(h3:Hs a=none)(h4:H₀ a=none)(h5:eU Hs Q9 us):SR B H₀ (upd Hs a (.kJ o (.dT us))) (upd H a (.kJ o (.dT us))) σ (env.set i (some (.sh (.jB Q9)))):=by
 obtain⟨g,st⟩:=(r.gr.kX (o:=.kJ o (.dT us)) h3 h4).into ay h3 h4;exact r.EZ h1 g st (λ_ q=>by cases q;exact⟨_,rfl,.jB ay (h5.mono st)⟩) (λj y b u n ej o z q1 q2 _=>by
  have nb:b≠a:=λw=>by subst w;exact r.ap i j _ y b n e ej rfl o h1 z
  rw[au nb,au nb];exact⟨q1,q2⟩) λ_ q o=>by cases q;cases o
def MK(i:Nat)(f:af->M Out):af->M Out:=λenv=>f (Ou i env)
def Jk{E:XK}{st:Stmt}{g:af->M Out}(i:Nat)(hs:PS X st (tS E g)):PS X st (tS E (MK i g)):=by
 intro Q6 s σ H D I q;obtain⟨B,H₀,Hs,env,sr,q⟩:=q;unfold MK Ou at q
 split at q
 .rename_i Q9 e;obtain⟨a,us,h1,h2,h3,h4,h5⟩:=sr.dw i Q9 e;obtain⟨o,I2⟩:=I.fz h2;exact hs Q6 s σ _ D I2 ⟨B,H₀,_,_,sr.fz e h1 h2 h3 h4 h5,q⟩
 .exact hs Q6 s σ H D I ⟨B,H₀,Hs,env,sr,q⟩
def MP(d:Addr)(o:Obj)(us:List (List Key×V)):It:=⟨λi H=>i<us.length/\H d=some (.kJ o (.dT us)),λi H x H'=>H'=H/\∃k b,us[i]?=some k/\x=.ref b/\H b=some (.tup (k.1.map kV)),λi H=>us.length<=i/\H d=some (.kJ o (.dT us))⟩
def wx(I:Inv X Q6 σ H s)(e:H d=some (.kJ o (.dT us))):∃(es:Array DictEntry)(ep:Nat)(as:List Addr),o.data=.dict es ep/\s.heap.get? d=some o/\o.ExactDict/\(d==sysModules)=false/\us.length<=sizeLine/\es.size=us.length/\as.length=us.length ∧(∀i (h:i<es.size) (h':i<as.length),es[i].key=.ref as[i])/\∀i (h:i<as.length) (h':i<us.length),H as[i]=some (.tup (us[i].1.map kV)):=by
 obtain⟨e0,z,y,ks,rel,o',es,ep,h1,h2,h3,h4,h5⟩:=(show bD X.prog X.w H s.heap d (.kJ o (.dT us)) from I.bA d _ e)
 rw[e0] at h1;cases h1;have hl:ks.length=us.length:=(Paired.length rel).symm;refine⟨es,ep,ks.map (·.2.1),h3,e0,h2,y,z,by rw[<- hl,<- XD,h4,VW],by rw[VW,hl],λi h h'=>?_,λi h h'=>?_⟩
 .have hi:i<ks.length:=by rw[VW] at h';exact h'
  have e2:es.toList[i]'(by rwa[XD])=entryOfKey (tupleKind (cG X.prog X.w)) ks[i]:=by
   have:=acw h4 (i:=i) (by rwa[XD]);rw[this,XU]
  rw[ab5] at e2;rw[e2,XU];rfl
 .rw[XU];exact KT.at rel i h' (by rwa[VW] at h)
variable{tg:Expr}
def wO{K:VU}(it d:Addr)(o:Obj)(us:List (List Key×V))(es:Array DictEntry)(ep:Nat)(hd:o.data=.dict es ep)(hs:es.size=us.length):Turn P w K tg (MP d o us) [it] it (λi h=>h.IsKeyIter it d i es.size ep) where
 mem:=by simp
 obj:=λi h st b hb=>by
  have e:b=it:=by simpa using hb
  subst e;obtain⟨o,e,c,d⟩:=st;exact⟨o,e,λv z=>by rw[d] at z;cases z⟩
 keep:=λi h h' st k=>st.at λo e=>k it ↑13 o e
 item:=by
  intro X hP hw hK hc i Q6 s σ H E I hf st hg;subst hP hw hK;obtain⟨f0,f1,f2,f3,f4,f5⟩:=hf it ↑13;obtain⟨Va,Vm,as,q1,q2,q3,q4,q5,q6,q7,q8,q9⟩:=wx I hg.2;rw[hd] at q1;cases q1;have lt:i<es.size:=by rw[hs];exact hg.1
  have la:i<as.length:=by rw[q7];exact hg.1
  refine AI st ⟨o,q2,q3,hd⟩ lt λh' y' sb=>?_;have I1:Inv X Q6 σ H { s with heap:=h' }:=I.turned (t':=s.toks) (λb o hb e=>sb.extBut b o hb e) f0 f1 f3 f4 f5;refine⟨_,rfl,?_⟩;obtain⟨o2,e2,c2,d2⟩:=id y';refine wX (s:={ s with heap:=h' }) e2 c2 d2 ↑12 ⟨.ref as[i],H,I1,q8 i lt la,⟨rfl,us[i]'hg.1,as[i],VT hg.1,rfl,q9 i la hg.1⟩,y',λb hb=>(hf b hb).1⟩
 done:=by
  intro X hP hw hK hc i Q6 s σ H E I hf st hg;subst hP hw hK;obtain⟨f0,f1,f2,f3,f4,f5⟩:=hf it ↑13;obtain⟨Va,Vm,as,q1,q2,q3,q4,q5,q6,q7,q8,q9⟩:=wx I hg.2;rw[hd] at q1;cases q1;exact Fn (I.ok.hd hc) st ⟨o,q2,q3,hd⟩ (by rw[hs];exact hg.1) λh' eb=>⟨rfl,I.turned (t':=s.toks) (λb o hb e=>eb b o hb e) f0 f1 f3 f4 f5⟩
 self:=λ_ _ _ _ _ st h=>ab4 st h
variable{tl:TE}{l:Expr}
def MW(tl:TE):TI:=fun σ H R=>tl σ H λx H1=>∃d o us,x=.ref d/\H1 d=some (.kJ o (.dT us))/\R (MP d o us) H1
def zK(hl:PE X l tl):PI X tg l (MW tl):=by
 intro Q6 s σ H R I h;refine cv (hl Q6 s σ H _ I h) λv s1 ⟨x,H1,I1,r1,q1⟩=>?_;obtain⟨d,o,us,e,hd,q⟩:=q1;subst e;obtain rfl:v=V4 d:=r1;obtain⟨es,ep,as,q1,q2,q3,q4,q5,q6,q7,q8,q9⟩:=wx I1 hd;refine wC q4 ⟨o,q2,q3,q1⟩ ?_;have fp:∀(h':Heap) b,b∈[s1.heap.objs.size]->lQ X Q6 H1 b:=λh' b hb=>by
  have e:b=s1.heap.objs.size:=by simpa using hb
  subst e;exact I1.rD (VX _) (I1.bA.fresh (VX _))
 exact⟨s1.heap.objs.size,[s1.heap.objs.size],_,_,H1,rfl,I1.kept (t':=s1.toks) λb o e=>VR _ e,wO _ d o us es ep q1 q6,⟨_,V2 _ rfl,rfl,rfl⟩,fp s1.heap,q⟩
theorem eU.at{H:Hp}:∀{Q9:KD}{us:List (List Key×V)}{i:Nat}{k:List Key×V},eU H Q9 us->us[i]?=some k->∃z,Q9[i]?=some z/\k.1=ky z.1
 | _,_,_,_,.nil,h=>by simp at h
 | _,_,0,_,.cons (k:=l) (p:=p) _ _,h=>by simp at h;subst h;exact⟨(l,p),rfl,rfl⟩
 | _,_,i+1,_,.cons _ r,h=>by
  obtain⟨z,e1,e2⟩:=eU.at (i:=i) r (by simpa using h);exact⟨z,by simpa using e1,e2⟩
theorem aL.vy{H:Hp}:∀ns:List Int,aL H (ns.map PV.int) (ns.map V.int)
 | []=>.nil
 |n::r=>.cons (.int n) (aL.vy r)
def bb.QI{b:Addr}(s:aY Hs H)(h:H b=some (.tup ws)):bb Hs H (upd Hs b (.tup ws)) H:=by
 refine⟨λc u q=>?_,λ_ _ q=>q,λc u q=>?_,λc u q1 q2 q3=>?_⟩
 .by_cases z:c=b
  .subst z;rw[ay];have:=s _ _ q;rwa[h] at this
  .rw[au z];exact q
 .by_cases z:c=b
  .subst z;rw[ay] at q;rwa[h]
  .rw[au z] at q;exact s _ _ q
 .by_cases z:c=b
  .subst z;rw[h] at q2;cases q2;exact absurd rfl (q3 _)
  .rw[au z];exact q1
def yD{Rm:Hp}(hd:Rm d=some (.kJ o (.dT us)))(r:eU Rm Q9 us):j7 (MP d o us) Rm (Q9.map λz=>.tup (z.1.map PV.int)) where
 stop:=λi Hs H s1 s2 hi=>⟨by rw[<- r.length];simpa using hi,s2 _ _ (s1 _ _ hd)⟩
 go:=λi Hs H s1 s2 hi=>⟨by rw[<- r.length];simpa using hi,s2 _ _ (s1 _ _ hd)⟩
 vx:=λi Hs H x H2 s1 s2 hi y=>by
  obtain⟨rfl,k,b,e1,rfl,e2⟩:=y;obtain⟨z,e3,e4⟩:=r.at e1;rw[e4,EL] at e2;exact⟨.tup (z.1.map PV.int),_,by rw[Ww,e3];rfl,bb.QI s2 e2,.tup ay (aL.vy _)⟩
def mY(Q9:KD):List PV:=Q9.map λz=>.tup (z.1.map PV.int)
def Jq:PV->M (List PV)
 | .jB Q9=>M.ok (mY Q9)
 |_=>none
def keysOf(f:af->M PV):af->M (List PV):=λenv=>(f env).bind Jq
def wg:yg E (MW (tE E f)) (keysOf f):=by
 intro σ H R q;refine bK (K:=KI R) KI.g q λB H₀ Hs H1 env p v sr rp hp=>?_;cases rp with
 | @jB a o Q9 us hd rd=>exact⟨a,o,us,rfl,sr.gr.sub _ _ hd,hp (MP a o us) Hs H1 (.refl sr.gr.sub) (yD hd rd)⟩
 |_=>exact hp.elim
def t8(Hs H:Hp)(as:List Addr):Hp:=λc=>match Hs c with
 | some o=>some o
 |none=>if c∈as then H c else none
theorem bb.t8{Hs H:Hp}{as:List Addr}(s:aY Hs H)(h:∀a∈as,∃ws,H a=some (.tup ws)):bb Hs H (L2.t8 Hs H as) H:=by
 refine⟨λc u q=>by unfold L2.t8;rw[q],λ_ _ q=>q,λc u q=>?_,λc u q1 q2 q3=>?_⟩
 .unfold L2.t8 at q;cases e:Hs c with
  | some o=>rw[e] at q;cases q;exact s _ _ e
  | none =>
   rw[e] at q;have q':(if c∈as then H c else none)=some u:=q
   split at q'
   .exact q'
   .cases q'
 .unfold L2.t8;rw[q1];show (if c∈as then H c else none)=none
  split
  .rename_i m;obtain⟨ws,e⟩:=h c m;rw[q2] at e;cases e;exact absurd rfl (q3 _)
  .rfl
def IS{as:List Addr}(s:aY Hs H)(m:a∈as)(h:H a=some (.tup ws)):t8 Hs H as a=some (.tup ws):=by
 unfold t8;cases e:Hs a with
 | some o=>rw[<- h];exact(s _ _ e).symm
 |none=>show (if a∈as then H a else none)=_;rwa[if_pos m]
def Mt:List V->Hp->VK->Prop:=λxs H Q=>∃d us,xs=[.ref d]/\Rd H d (.dT us)/\∀(l:Addr)(as:List Addr),H l=none->as.length=us.length->(∀i (h:i<as.length) (h':i<us.length),H as[i]=some (.tup (us[i].1.map kV)))->Q (.ref l) (upd H l (.lst (as.map V.ref)))
theorem zo(hc:X.calm=true):c8 X (.type "list") Mt:=by
 intro Q6 s σ H xs us Q I r h;obtain⟨d,Q9,rfl,hd,q⟩:=h;obtain⟨u,rfl,rx⟩:=vals1 r;cases rx;obtain⟨z,y,ks,rel,o,es,ep,h1,h2,h3,h4,h5⟩:=(show bD X.prog X.w H s.heap d (.dT Q9) from Df I.bA hd)
 have hl:ks.length=Q9.length:=(Paired.length rel).symm;have he:es.size=Q9.length:=by rw[<- hl,<- XD,h4,VW]
 refine GK (I.ok.hd hc) y ⟨o,h1,h2,h3⟩ (λh' tk acc c kp e it=>?_) (by rwa[he]);have ac:acc.toList=(ks.map λx=>V4 x.2.1):=by
  refine aa2 λi=>?_;rw[Array.getElem?_toList,Ww];rcases WW i ks.length with lt|ge
  .have la:i<acc.size:=by rw[it.1,he];lia
   obtain⟨hi,ev⟩:=it.2 i acc[i] (Zm la);rw[Zm la,ev,VT lt];have:es[i]=entryOfKey (tupleKind (cG X.prog X.w)) ks[i]:=by
    have e2:es.toList[i]'(by rwa[XD])=_:=acw h4 _;rwa[ab5,XU] at e2
   rw[this];rfl
  .rw[abx (by rw[it.1,he];lia),Y9 ge];rfl
 refine⟨.ref s.heap.objs.size,_,I.laid (t':=tk) kp (VX _) (show bD X.prog X.w _ h' _ (.lst ((ks.map (·.2.1)).map V.ref)) from ⟨by simp;lia,acc.toList,c,?_,e⟩),rfl,q _ (ks.map (·.2.1)) (I.bA.fresh (VX _)) (by simp[hl]) λi h h'=>?_⟩
 .rw[ac,WA];have:∀l:List (List Key×Addr×Value),Vals (l.map (V.ref∘λx=>x.2.1)) (l.map λx=>V4 x.2.1):=λl=>by
   induction l with
   | nil=>exact .nil
   | cons a r ih=>exact .cons rfl ih
  exact this ks
 .rw[XU];exact KT.at rel i h' ⋯
def E6{Ra:Hp}{as:List Addr}(r:eU Ra Q9 us)(hl:as.length=us.length)(h:∀i (h:i<as.length) (h':i<us.length),H as[i]=some (.tup (us[i].1.map kV)))(s:aY Hs H):aL (t8 Hs H as) (mY Q9) (as.map V.ref):=by
 have gen:∀(bs:List Addr)(Q9:KD)(us:List (List Key×V)),eU Ra Q9 us->bs.length=us.length->(∀b∈bs,b∈as)->(∀i (h:i<bs.length) (h':i<us.length),H bs[i]=some (.tup (us[i].1.map kV)))->aL (t8 Hs H as) (mY Q9) (bs.map V.ref):=λbs=>by
  induction bs with
  | nil =>
   intro Q9 us r hl _ _;cases r with
   | nil=>exact .nil
   | cons _ _=>cases hl
  | cons b bs ih =>
   intro Q9 us r hl hm h;cases r with
   | nil=>cases hl
   | @cons k p v ps vs rp r =>
    have h0:=h 0 (aax _) (aax _);refine .cons (.tup (IS s (hm b V7) ?_) (aL.vy k)) (ih ps vs r (ZR hl) (λc hc=>hm c (V5 _ hc)) λi h1 h2=>h (i+1) (adf h1) (adf h2));have:(ky k).map kV=k.map V.int:=EL k;rwa[<- this]
 exact gen as Q9 us r hl (λ_ h=>h) h
theorem GA{as:List Addr}(hl:as.length=us.length)(h:∀i (h:i<as.length) (h':i<us.length),H as[i]=some (.tup (us[i].1.map kV))):∀a∈as,∃ws,H a=some (.tup ws):=λa m=>by
 obtain⟨i,hi,rfl⟩:=ab_ m;exact⟨_,h i hi ⋯⟩
section
variable{pos p:Pos}
def zG(i:Nat):af->M (List PV):=λenv=>(o7 i env).bind λQ9=>M.ok (mY Q9)
def Bw(hc:X.calm=true)(hg:Gl X "list")(hm:X.mg "list"=none)(hi:X.N[i]?=some x)(hv:CA X.env.scope x)(hd:autoParam ↑7 aD._auto_1)(R3:autoParam ↑6 aD._auto_1)(h1:autoParam (starEach [.Name x px] X.env=(false,eval (.Name x px) X.env)::starEach [] X.env) aR._auto_1)(Rt:autoParam ((backTo pos (starEach [] X.env)).any (·.1)=false) aR._auto_1):PE X (.Call (.Name "list" p) [.Name x px] [] pos) (tO E (zG i)):=(oO (zo hc) hg hm nP (cz (gP hi hv hd R3) fw h1) ↑12 ↑12 h1 Rt).imp fun σ H Q q=>by
 obtain⟨B,H₀,Hs,env,sr,q⟩:=q;obtain⟨Q9,ex,q⟩:=aw.o7 (aw.bind q);obtain⟨a,us,h1,h2,h3,h4,h5⟩:=sr.dw i Q9 ex;exact⟨.ref a,h1,a,us,rfl,.inl h2,λl as n hl hk=>q _ _ _ _ (bb.t8 sr.gr.sub (GA hl hk)) (E6 h5 hl hk sr.gr.sub) n⟩
end
section
variable{A:Around}{E:Value->Shared->Prop}{ep:Nat}
end
def Ol(K:VU)(tl:TE):TI:=fun σ H R=>tl σ H λx H1=>(∃b a,x=.ref a/\(∃xs,lE K H1 b a xs)/\R (NH K b a) H1)\/∃d o us,x=.ref d/\H1 d=some (.kJ o (.dT us))/\R (MP d o us) H1
def Ku(hl:PE X l tl):PI X tg l (Ol X.K tl):=by
 intro Q6 s σ H R I h;refine cv (hl Q6 s σ H _ I h) λv s1 ⟨x,H1,I1,r1,q1⟩=>?_;have fp:∀b,b∈[s1.heap.objs.size]->lQ X Q6 H1 b:=λb hb=>by
  have e:b=s1.heap.objs.size:=by simpa using hb
  subst e;exact I1.rD (VX _) (I1.bA.fresh (VX _))
 rcases q1 with ⟨b,a,e,⟨xs,hq⟩,q⟩|⟨d,o,us,e,hd,q⟩
 .subst e;cases r1;cases b with
  | true =>
   obtain⟨Rb,rv,p,hz⟩:=I1.list hq;refine Y_ p.isList ?_;exact⟨s1.heap.objs.size,[s1.heap.objs.size],_,_,H1,rfl,I1.kept (t':=s1.toks) λb o e=>VR _ e,uY a _,⟨_,V2 _ rfl,rfl,rfl⟩,fp,q⟩
  | false =>
   obtain⟨Rb,rv,p,hz⟩:=I1.tuple hq;refine YB (show s1.heap.IsTuple a Rb.toArray from p) ?_;exact⟨s1.heap.objs.size,[s1.heap.objs.size],_,_,H1,rfl,I1.kept (t':=s1.toks) λb o e=>VR _ e,rn a _,⟨_,V2 _ rfl,rfl,rfl⟩,fp,q⟩
 .subst e;obtain rfl:v=V4 d:=r1;obtain⟨es,ep,as,q1,q2,q3,q4,q5,q6,q7,q8,q9⟩:=wx I1 hd;refine wC q4 ⟨o,q2,q3,q1⟩ ?_;exact⟨s1.heap.objs.size,[s1.heap.objs.size],_,_,H1,rfl,I1.kept (t':=s1.toks) λb o e=>VR _ e,wO _ d o us es ep q1 q6,⟨_,V2 _ rfl,rfl,rfl⟩,fp,q⟩
def LN:PV->M (List PV)
 | .jB Q9=>M.ok (mY Q9)
 | p=>match bP p with
  | some xs=>M.ok xs
  |none=>none
def anyOf(f:af->M PV):af->M (List PV):=λenv=>(f env).bind LN
def Ir{K:VU}:yg E (Ol K (tE E f)) (anyOf f):=by
 intro σ H R q;refine bK (K:=KI R) KI.g q λB H₀ Hs H1 env p v sr rp hp=>?_;cases e:bP p with
 | none =>
  cases rp with
  | @jB a o Q9 us hd rd=>exact .inr ⟨a,o,us,rfl,sr.gr.sub _ _ hd,hp (MP a o us) Hs H1 (.refl sr.gr.sub) (yD hd rd)⟩
  | _=>first|exact hp.elim|cases e
 | some xs =>
  have Uv:aw (M.ok xs) (KI R Hs H1) (XW (E σ) Hs H1):=by
   cases p with
   | jB _=>cases e
   | fn _=>cases e
   | _=>first|(cases e;exact hp)|cases e
  obtain⟨b,a,vs,rfl,hq,hr⟩:=jW (K:=K) sr.gr.sub rp e;exact .inl ⟨b,a,rfl,⟨vs,hq Hs H1 (λ_ _ z=>z) sr.gr.sub⟩,Uv (NH K b a) Hs H1 (.refl sr.gr.sub) (w_ hq hr)⟩
section
variable{E:XK}{pos p1 p2 VP:Pos}{j:Nat}
end
section
variable{E:XK}{pos:Pos}{st:Stmt}{rest:List Stmt}{f:af->M Out}{g:af->M (List PV)}
end
section
variable{E:XK}{st:List Stmt}{g:af->M (List PV)}
end
section
variable{k n:Nat}{f:Addr}{fd:FuncData}{ps:List Str}{sem:List PV->M (List PV)}{p pos:Pos}{es:List Expr}{fs:af->M (List PV)}
end
section
variable{E:XK}{pos apos Rz:Pos}
end
section
variable{B Ra H':Hp}{env:af}{as:List Addr}
end
variable{js:List Nat}{ts:List Str}
section
variable{g:TG}{set:PV->af->M af}{fo:af->M (List PV)}{fs:List Str}
end
section
variable{ih:Nat}{D:Addr}{as:List Addr}{zs:List PV}{vs:List V}{B Ra H':Hp}{env:af}
end
section
variable{E:XK}{st1:Stmt}{e2 e3 e4:Expr}{rest body:List Stmt}{ih ig:Nat}{g:TG}{set:PV->af->M af}{fo:af->M (List PV)}{g2:af->M PV}{u3:af->M Bool}{fb f:af->M Out}{TU Vg st4:Stmt}
end
mutual
def yy:PV->Bool
 | .kC _=>false
 | .tup xs=>rV xs
 | .lst xs=>rV xs
 | .obj _ fs=>rZ fs
 | .exc _ (some fs)=>rZ fs
 | .jB _=>false
 |_=>true
def rV:List PV->Bool
 | []=>true
 |p::r=>yy p&&rV r
def rZ:List (Str×PV)->Bool
 | []=>true
 |p::r=>yy p.2&&rZ r
end
mutual
theorem Rep.l7{Hs:Hp}{a:Addr}{ob:Obj}{ws:List V}(ha:Hs a=some (.kJ ob (.lst ws))):∀{p:PV}{v:V},Rep Hs p v->yy p=true->Rep (rem Hs a) p v
 | _,_,.c6,_=>.c6
 | _,_,.bl b,_=>.bl b
 | _,_,.int b,_=>.int b
 | _,_,.str b,_=>.str b
 | _,_,.fn b,_=>.fn b
 | _,_,.tup h r,n=>.tup (by rwa[jl (λz=>by rw[z,ha] at h;cases h)]) (r.l7 ha n)
 | _,_,.lst h r,n=>.lst (by rwa[jl (λz=>by rw[z,ha] at h;cases h)]) (r.l7 ha n)
 | _,_,.obj h r,n=>.obj (by rwa[jl (λz=>by rw[z,ha] at h;cases h)]) (r.l7 ha n)
 | _,_,.wK h,n=>.wK (by rwa[jl (λz=>by rw[z,ha] at h;cases h)])
 | _,_,.vP h h2 r,n=>.vP (by rwa[jl (λz=>by rw[z,ha] at h;cases h)]) (by rwa[jl (λz=>by rw[z,ha] at h2;cases h2)]) (r.l7 ha n)
 | _,_,.emp h,n=>.emp (by rwa[jl (λz=>by rw[z,ha] at h;cases h)])
 | _,_,.kC _ _,n=>by cases n
 |_,_,.jB _ _,n=>by cases n
theorem aL.l7{Hs:Hp}{a:Addr}{ob:Obj}{ws:List V}(ha:Hs a=some (.kJ ob (.lst ws))):∀{p:List PV}{v:List V},aL Hs p v->rV p=true->aL (rem Hs a) p v
 | _,_,.nil,_=>.nil
 | _,_,.cons h r,n=>by
  have n':=YK.mp (show (yy _&&rV _)=true from n);exact .cons (h.l7 ha n'.1) (r.l7 ha n'.2)
theorem hG.l7{Hs:Hp}{a:Addr}{ob:Obj}{ws:List V}(ha:Hs a=some (.kJ ob (.lst ws))):∀{p:List (Str×PV)}{v:List (Str×V)},hG Hs p v->rZ p=true->hG (rem Hs a) p v
 | _,_,.nil,_=>.nil
 | _,_,.cons h r,n=>by
  have n':=YK.mp (show (yy _&&rZ _)=true from n);exact .cons (h.l7 ha n'.1) (r.l7 ha n'.2)
end
section
variable{o:Expr}{es:List Expr}{pos p:Pos}{k:Nat}{g:af->M PV}{fs:af->M (List PV)}{L:List (Addr×(List PV->M PV))}{K:VU}
def Ft{f:Addr}(hm:X.mg x=some (.ref f))(hg:Gl X x)(hd:autoParam ↑7 aD._auto_1):PE X (.Name x p) (tE E (λ_=>M.ok (.fn f))) :=
 lr (vz (v:=.ref f) hg hm rfl hd) λ_=>.fn f
structure CH (P:Program) (w:World) (K:VU) (mg:Str->Option Value) (base:Heap) (k:Nat) (L:List (Addr×(List PV->M PV))):Prop where
 ex:∀f sem,L.lookup f=some sem->∃n fd ps j,n<=k/\W8 K (.ref f)=true/\Binds K fd ps []/\aT P w K mg base (bX P w) n f fd ps (dX j sem)/\∀ps,sem ps≠none->ps.length=j
def CH.nil:CH P w K mg base k []:=⟨λC sem h=>by cases h⟩
def CH.cons{f:Addr}{n j:Nat}(F:dG P w K mg base n x j sem)(hm:mg x=some (.ref f))(hn:n<=k)(r:CH P w K mg base k L):CH P w K mg base k ((f,bw j sem)::L):=⟨λf' sem' h=>by
 rw[Xn] at h
 by_cases e:f'=f
 .rw[e,beq_self_eq_true] at h;cases h;obtain⟨f1,fd,ps,h1,h2,h3,h4,h5⟩:=F.ex;rw[hm] at h1;cases h1;rw[e];exact⟨n,fd,ps,j,hn,h2,h4,h5,λSJ hp=>mZ hp⟩
 .rw[beq_false_of_ne e] at h;exact r.ex f' sem' h⟩
def OE(L:List (Addr×(List PV->M PV)))(p:PV)(x:M (List PV)):M PV:=match p with
 | .fn f=>cO ((L.lookup f).isSome) (x.bind λps=>Qj L f ps)
 |_=>none
def yO(L:List (Addr×(List PV->M PV)))(g:af->M PV)(fs:af->M (List PV)):af->M PV:=λenv=>(g env).bind λp=>OE L p (fs env)
def CH.call(hr:cp k X.A)(F:CH X.prog X.w X.K X.mg X.base k L)(O:fk X E)(he:PE X (.Name x p) (tE E g))(ha:PA X (e::es) (tL E fs))(RN:autoParam ↑0 aR._auto_1)(Rt:autoParam ↑2 aR._auto_1):PE X (.Call (.Name x p) (e::es) [] pos) (tE E (yO L g fs)):=by
 intro Q6 s σ H Q I h;have h':tE E g σ H λv H1=>∃f sem,v=.ref f/\L.lookup f=some sem/\tL E fs σ H1 λvs H2=>∀j,(∀ps,sem ps≠none->ps.length=j)->dX j sem (vs++[]) H2 Q (E σ):=by
  refine bK (K:=kj Q) kj.g h λB H₀ Hs H1 env p v sr rp hp=>?_;cases rp with
  | fn f =>
   obtain⟨e1,F9⟩:=aw.cO hp;obtain⟨sem,es⟩:=YN.mp e1;refine⟨f,sem,rfl,es,B,H₀,Hs,env,sr,(aw.bind F9).imp (λSJ Ug vs Ra H' g' r j hl=>?_) λe he=>he⟩;unfold Qj at Ug;rw[es] at Ug;have hn:sem SJ≠none:=λz=>by simp only[z] at Ug;exact Ug
   rw[W9];exact⟨by rw[<- r.length];exact hl _ hn,Ra,SJ,g'.sub,r,Ug.imp (λz hz w Rl H2 g2 r2=>hz w Rl H2 (g'.trans g2) r2) λe he=>he.grow g'⟩
  | _=>exact hp.elim
 refine X8 (cv (he Q6 s σ H _ I h') λu s1 ⟨v,H1,I1,rx,f,sem,ev,el,q⟩=>?_);subst ev;obtain rfl:u=V4 f:=rx;obtain⟨n,fd,ps,j,hn,kp,hb,F',hl⟩:=F.ex f sem el;refine YC (first:=[]) (h₀:=X.base) I1.ok.mod.GJ kp (cv (ha pos Q6 s1 σ H1 _ I1 q) λus s2 ⟨vs,H2,I2,r,q2⟩=>⟨I2.ku,?_⟩) RN Rt;exact qm F' (hr.mono hn) hb .nil O I2 r (q2 j hl)
end
end L2
namespace HT
open PySem PyProof.Rows
def tF(lt:Nat->Nat->Bool):Nat->Nat->Nat->Nat
 | 0,_,j=>j
 |n+1,i,j=>if lt i j then tF lt n (i+1) i else tF lt n (i+1) j
section
variable{prog:Program}{w:World}{A:Around}{E:Value->Shared->Prop}{I S ax:Addr}{R:Result->Shared->Prop}{items:Array Value}{lt:Nat->Nat->Bool}
theorem zm(hn:ax≠I)(hs:S≠I/\S≠ax)(hh:A.handled=none):∀(m i j:Nat)(t:Shared)(n:Nat)(v:Value),items.size=i+m->items[j]?=some v->j<i ->t.heap.get? S=some { cls:=.type "list",dict:=none,data:=.seq #[v,v] n,slots:=#[] }->(t.heap.IsListIter I ax i/\t.heap.IsList ax items) ->(∀i j u v h' tk,items[i]?=some u->items[j]?=some v->(∀c o,c≠I->c≠S->t.heap.get? c=some o->h'.get? c=some o)->∀Q E,Q (.bool (lt i j)) { t with heap:=h',toks:=tk }->wpAny ↑11 A.in1 (richCompare .Lt u v) Q E { t with heap:=h',toks:=tk }) ->(∀v h' tk,items[tF lt m i j]?=some v->(∀c o,c≠I->c≠S->t.heap.get? c=some o->h'.get? c=some o)->R (.ok (.ret v)) { t with heap:=h',toks:=tk }) ->codeAny ↑11 A (.builtin "min.loop" ⟨[.ref I,.none,.ref S],[]⟩) R t
 | 0,i,j,t,n,v,hsz,hv,hj,hS,hi,hc,h=>by
  have W:=acv (prog:=prog) (w:=w) (A:=A.in1) hh I ax hn items;obtain rfl:i=items.size:=by lia
  refine abM F.entry_min_loop ?_;rw[aab F.plain_min_loop _];show wpAny _ A.in1 (seqItems? (.ref S) >>= _) _ _ t;refine VQ (WO hS rfl ?_);show wpAny _ A.in1 (tryCatch (pyNext (.ref I)) _ >>= _) _ _ t;refine VQ (aaR (W.done t _ _ hi λh' tk SN=>?_));have TY:=SN S _ (by simp[hs.1]) hS;show wpAny _ A.in1 (updateSeq S (λ_=>#[]) >>= _) _ _ _;refine VQ ?_;refine YI TY rfl (VQ (X4 (VY ?_)));exact h v _ tk hv λc o h1 h2 e=>(Wn _ _ (Xs h2)).trans (SN c o (by simp[h1]) e)
 | m+1,i,j,t,n,v,hsz,hv,hj,hS,hi,hc,h=>by
  have W:=acv (prog:=prog) (w:=w) (A:=A.in1) hh I ax hn items;have S9:(toString "min" ++ toString ".loop" : String)="min.loop" := by decide
  refine abM F.entry_min_loop ?_;rw[aab F.plain_min_loop _];show wpAny _ A.in1 (seqItems? (.ref S) >>= _) _ _ t;refine VQ (WO hS rfl ?_);show wpAny _ A.in1 (tryCatch (pyNext (.ref I)) _ >>= _) _ _ t;refine VQ (aaR (W.item i t _ _ ⋯ hi λx h' tk hP UI SN=>?_));have TY:=SN S _ (by simp[hs.1]) hS;show wpAny _ A.in1 (tryCatch (holding [x,x] (richCompare .Lt x v >>= _)) _ >>= _) _ _ _;refine VQ (aaR (Xm (VQ (hc i j x v h' tk hP hv (λc o h1 h2 e=>SN c o (by simp[h1]) e) _ _ ?_))));refine VQ (Xm (XF ?_));refine VQ (X4 (VY ?_));rw[tF] at h;cases k:lt i j with
  | true =>
   rw[k,if_pos rfl] at h;simp only[if_true];refine VQ ?_;refine YI TY rfl (VQ (X4 ?_));rw[S9];refine VY ⟨Z7 F.plain_min_loop _,zm hn hs hh m (i+1) i _ _ x ⋯ hP ⋯ (WL _ TY rfl) (W.frame _ _ _ UI λc hb o e=>?_) (λi' j' u' v' h2 Uu e1 e2 k2=>?_) λv' h2 Uu e1 k2=>?_⟩
   .exact(Wn _ _ (λz:S=c=>by subst z;simp at hb;rcases hb with z|z;exact hs.1 z;exact hs.2 z)).trans e
   .exact hc i' j' u' v' h2 Uu e1 e2 λc o h1 h3 e=>k2 c o h1 h3 ((Wn _ _ (Xs h3)).trans (SN c o (by simp[h1]) e))
   .exact h v' h2 Uu e1 λc o h1 h3 e=>k2 c o h1 h3 ((Wn _ _ (Xs h3)).trans (SN c o (by simp[h1]) e))
  | false =>
   rw[k,if_neg ↑12] at h;simp only[Xv,if_false];refine VQ (X4 ?_);rw[S9];exact VY ⟨Z7 F.plain_min_loop _,zm hn hs hh m (i+1) j _ _ v ⋯ hv ⋯ TY UI (λi' j' u' v' h2 Uu e1 e2 k2=>hc i' j' u' v' h2 Uu e1 e2 λc o h1 h3 e=>k2 c o h1 h3 (SN c o (by simp[h1]) e)) λv' h2 Uu e1 k2=>h v' h2 Uu e1 λc o h1 h3 e=>k2 c o h1 h3 (SN c o (by simp[h1]) e)⟩
theorem Bt{t:Shared}{n:Nat}(hn:ax≠I)(hs:S≠I/\S≠ax)(hh:A.handled=none)(h0:0<items.size)(hS:t.heap.get? S=some { cls:=.type "list",dict:=none,data:=.seq #[] n,slots:=#[] })(hi:t.heap.IsListIter I ax 0/\t.heap.IsList ax items)(hc:∀i j u v h' tk,items[i]?=some u->items[j]?=some v->(∀c o,c≠I->c≠S->t.heap.get? c=some o->h'.get? c=some o)->∀Q E,Q (.bool (lt i j)) { t with heap:=h',toks:=tk }->wpAny ↑11 A.in1 (richCompare .Lt u v) Q E { t with heap:=h',toks:=tk })(h:∀v h' tk,items[tF lt (items.size-1) 1 0]?=some v->(∀c o,c≠I->c≠S->t.heap.get? c=some o->h'.get? c=some o)->R (.ok (.ret v)) { t with heap:=h',toks:=tk }):codeAny ↑11 A (.builtin "min.loop" ⟨[.ref I,.none,.ref S],[]⟩) R t:=by
 have W:=acv (prog:=prog) (w:=w) (A:=A.in1) hh I ax hn items;have S9:(toString "min" ++ toString ".loop" : String)="min.loop" := by decide
 refine abM F.entry_min_loop ?_;rw[aab F.plain_min_loop _];show wpAny _ A.in1 (seqItems? (.ref S) >>= _) _ _ t;refine VQ (WO hS rfl ?_);show wpAny _ A.in1 (tryCatch (pyNext (.ref I)) _ >>= _) _ _ t;refine VQ (aaR (W.item 0 t _ _ h0 hi λv h' tk hP UI SN=>?_));have TY:=SN S _ (by simp[hs.1]) hS;show wpAny _ A.in1 (updateSeq S (λ_=>#[v,v]) >>= _) _ _ _;refine VQ ?_;refine YI TY rfl ?_;rw[S9];refine VY ⟨Z7 F.plain_min_loop _,zm (lt:=lt) hn hs hh (items.size-1) 1 0 _ _ v ⋯ hP ↑12 (WL _ TY rfl) (W.frame _ _ _ UI λc hb o e=>?_) (λi j u v h2 Uu e1 e2 k2=>?_) λv h2 Uu e1 k2=>?_⟩
 .exact(Wn _ _ (λz:S=c=>by subst z;simp at hb;rcases hb with z|z;exact hs.1 z;exact hs.2 z)).trans e
 .exact hc i j u v h2 Uu e1 e2 λc o h1 h3 e=>k2 c o h1 h3 ((Wn _ _ (Xs h3)).trans (SN c o (by simp[h1]) e))
 .exact h v h2 Uu e1 λc o h1 h3 e=>k2 c o h1 h3 ((Wn _ _ (Xs h3)).trans (SN c o (by simp[h1]) e))
def Gn{s:Shared}{Q:Value->Shared->Prop}{l:Addr}(hl:s.heap.IsList l items)(h0:0<items.size)(hh:A.handled=none)(hc:∀i j u v h' tk,items[i]?=some u->items[j]?=some v->(∀c o,s.heap.get? c=some o->h'.get? c=some o)->∀Q E,Q (.bool (lt i j)) { s with heap:=h',toks:=tk }->wpAny ↑11 A.in1 (richCompare .Lt u v) Q E { s with heap:=h',toks:=tk })(h:∀v h' tk,items[tF lt (items.size-1) 1 0]?=some v->(∀c o,s.heap.get? c=some o->h'.get? c=some o)->Q v { s with heap:=h',toks:=tk }):wpAny ↑11 A (call (.builtin "min") [.ref l]) Q E s:=by
 have S9:(toString "min" ++ toString ".loop" : String)="min.loop" := by decide
 obtain⟨ob,eo,_⟩:=id hl;have RW:l<s.heap.objs.size:=V3 eo;refine call_function_tree F.kind_min F.plain_min F.entry_min (F.args_min1 _) ?_;show wpAny _ A.in1 (aay "min" ["key","default"] 0 ⟨[],[]⟩ >>= _) _ _ s;refine VQ (ab1 (show aay "min" ["key","default"] 0 ⟨[],[]⟩=pure [none,none] from rfl) ?_);refine VQ (VY ?_);refine VQ (Y_ hl ?_);refine VQ (Xa ?_);rw[S9];have hsz:(s.heap.push { cls:=.type "list_iterator",data:=.fields #[.ref l,.int 0 0] }).objs.size=s.heap.objs.size+1:=WN ..;have n1:l≠s.heap.objs.size:=V_ RW;have n2:s.heap.objs.size+1≠s.heap.objs.size:=abi _;have n3:s.heap.objs.size+1≠l:=XM (aa4 RW);refine VY ⟨Z7 F.plain_min_loop _,Bt (lt:=lt) (I:=s.heap.objs.size) (ax:=l) (items:=items) n1 ⟨by rwa[hsz],by rwa[hsz]⟩ hh h0 (V2 _ rfl) ⟨⟨_,VR _ (V2 _ rfl),rfl,rfl⟩,(hl.push _).push _⟩ (λi j u v h' tk e1 e2 k'=>?_) λv h' tk e1 k'=>?_⟩
 .exact hc i j u v h' tk e1 e2 λc o e=>k' c o (V_ (V3 e)) (by rw[hsz];exact V_ (aa4 (V3 e))) (VR _ (VR _ e))
 .exact h v h' tk e1 λc o e=>k' c o (V_ (V3 e)) (by rw[hsz];exact V_ (aa4 (V3 e))) (VR _ (VR _ e))
end
end HT
namespace L2
open PySem PySem.Spec PyProof.Rows
def AZ:List (List Int)->List Int
 | []=>[]
 |x::r=>r.foldl (λb y=>if HT.lexLt y b then y else b) x
theorem qq(ks:List (List Int)):∀(m i j:Nat),ks.length=i+m->j<ks.length->HT.tF (λi j=>HT.lexLt (ks.getD i []) (ks.getD j [])) m i j<ks.length/\ks.getD (HT.tF (λi j=>HT.lexLt (ks.getD i []) (ks.getD j [])) m i j) []=(ks.drop i).foldl (λb y=>if HT.lexLt y b then y else b) (ks.getD j [])
 | 0,i,j,hl,hj=>by
  rw[Yq ⋯];exact⟨hj,rfl⟩
 | m+1,i,j,hl,hj=>by
  have hi:i<ks.length:=by lia
  have e:ks[i]=ks.getD i []:=by rw[VZ,VT hi];rfl
  rw[XC hi,abI,HT.tF,e];cases k:HT.lexLt (ks.getD i []) (ks.getD j []) with
  | true=>rw[if_pos rfl,if_pos rfl];exact qq ks m (i+1) i ⋯ hi
  |false=>rw[if_neg ↑12,if_neg ↑12];exact qq ks m (i+1) j ⋯ hj
def wV:List PV->M PV
 | [.lst xs]=>match uK xs with
  | some (k::ks)=>M.ok (.tup ((AZ (k::ks)).map PV.int))
  | _=>none
 |_=>none
def IU(K:VU):List V->Hp->VK->Prop:=λxs H Q=>∃(l:Addr)(as:List Addr)(ks:List (List Int)),xs=[.ref l]/\gQ K H l (as.map V.ref)/\as.length=ks.length/\(∀i a,as[i]?=some a->H a=some (.tup ((ks.getD i []).map V.int)))/\0<as.length ∧
 ∀a,as[HT.tF (λi j=>HT.lexLt (ks.getD i []) (ks.getD j [])) (as.length-1) 1 0]?=some a->Q (.ref a) H
variable{X:Cx}
def Cd(hc:X.calm=true)(hu:X.A.units+64<cLine):c8 X (.builtin "min") (IU X.K):=by
 intro Q6 s σ H xs us Q I r h;obtain⟨l,as,ks,rfl,hq,hl,ha,h0,q⟩:=h;cases r with
 | cons r1 r2 =>
  cases r2;cases (show _=V4 l from r1);obtain⟨Rb,rv,p,hz⟩:=I.list hq;obtain rfl:=ur rv;have at_:∀{i:Nat}{u:Value},(as.map V4).toArray[i]?=some u->∃a,as[i]?=some a/\u=.ref a:=λ{i u} e=>by
   rw[abQ,Ww] at e;cases e2:as[i]? with
   | none=>rw[e2] at e;cases e
   | some a=>rw[e2] at e;cases e;exact⟨a,rfl,rfl⟩
  refine HT.Gn (lt:=λi j=>HT.lexLt (ks.getD i []) (ks.getD j [])) p.isList (by simpa using h0) (I.ok.hd hc) (λi j u v h' tk e1 e2 kp Q' E' hq=>?_) λv h' tk e1 kp=>?_
  .obtain⟨a,ea,rfl⟩:=at_ e1;obtain⟨b,eb,rfl⟩:=at_ e2;have I':=I.kept (t':=tk) kp;obtain⟨Rb,r1,p1,_⟩:=I'.tuple (g9.of (ha i a ea));obtain⟨SI,r2,p2,_⟩:=I'.tuple (g9.of (ha j b eb));have i1:IntsAre Rb.toArray.toList (ks.getD i []):=intsAre_of r1;have i2:IntsAre SI.toArray.toList (ks.getD j []):=intsAre_of r2;exact HT.zO (A:=X.A.in1) p1 p2 i1 i2 (by show X.A.units+1<cLine;lia) hq
  .obtain⟨a,ea,rfl⟩:=at_ e1;exact⟨.ref a,H,I.kept kp,rfl,q a (by simpa using ea)⟩
theorem HU{K:VU}{E:St->XK}:l5 E (IU K) wV:=by
 intro σ Hs H ps vs Q s r h;unfold wV at h
 split at h
 .rename_i xs
  split at h
  .rename_i k ks hk;cases r with
   | cons r1 r2 =>
    cases r2;cases r1 with
    | @lst l _ vs hl hx =>
     obtain⟨as,rfl,el,hz⟩:=uo hx hk;have at_:∀i a,as[i]?=some a->Hs a=some (.tup (((k::ks).getD i []).map V.int)):=λi a e=>by
      have hi:=(WB.mp e).1;have:=hz a ((k::ks).getD i []) (Wc.mpr ⟨i,by rw[W2];lia,by
       rw[YA,VZ,VT ⋯];rw[(WB.mp e).2];rfl⟩)
      first|exact this.1|exact this
     refine⟨l,as,k::ks,rfl,gQ.of (s _ _ hl),el,λi a e=>s _ _ (at_ i a e),by rw[el];exact aax _,λa e=>?_⟩;obtain⟨b1,b2⟩:=qq (k::ks) ((k::ks).length-1) 1 0 (by simp;lia) (aax _);rw[el] at e;have:=at_ _ a e;rw[b2] at this;exact h (.ref a) Hs H (.refl s) (.tup this (aL.vy _))
  .exact h.elim
 .exact h.elim
variable{α β:Type}
variable{x0:Option SV}{f:af->M PV}
variable{p:PV}
variable{k:Nat}{i:Int}
variable{j:Int}
variable{xs:List PV}
variable{body:af->M Out}
variable{n:Nat}
section
open PySem.SeqAt (shaped noMix noMixAll)
def M.aE(a:α)(f:α->M β):M.bind (M.ok a) f=f a:=WM rfl rfl
def M.ET(e:EX)(f:α->M β):M.bind (some (Except.error e)) f=some (.error e):=WM rfl rfl
def M.bind_none(f:α->M β):M.bind none f=none:=WM rfl rfl
def M.bind_some(a:α)(f:α->M β):M.bind (some (Except.ok a)) f=f a:=WM rfl rfl
def M.bind_assoc{γ:Type}(x:M α)(f:α->M β)(g:β->M γ):M.bind (M.bind x f) g=M.bind x λa=>M.bind (f a) g:=by
 cases x with
 | none=>rfl
 |some x=>cases x<;>rfl
def ar{c:Prop}[Decidable c]{x:M α}(h:c):cO c x=x:=if_pos h
def Kg(a:α):DB (M.ok a)=M.ok a:=WM rfl rfl
def Cu(x:PV):e9 (some x)=M.ok x:=WM rfl rfl
def yB(g:af->M Out)(env:af):Ak g (.nx env)=g env:=WM rfl rfl
def ym(g:af->M Out)(p:PV):Ak g (.rt p)=M.ok (.rt p):=WM rfl rfl
def GP(b:Bool):yN (.bl b)=M.ok b:=WM rfl rfl
def IA(p:PV):LJ (.rt p)=M.ok p:=WM rfl rfl
def H_(e:af):LJ (.nx e)=M.ok .c6:=WM rfl rfl
def tI(xs:List Int):PV:=.tup (xs.map PV.int)
def lI(xs:List Int):PV:=.lst (xs.map PV.int)
def GS(xs:List Int):bP (tI xs)=some (xs.map PV.int):=WM rfl rfl
def GB(xs:List Int):bP (lI xs)=some (xs.map PV.int):=WM rfl rfl
def FP(xs:List PV):bP (.tup xs)=some xs:=WM rfl rfl
def wU(xs:List PV):bP (.lst xs)=some xs:=WM rfl rfl
def C7(xs:List PV):bP (.kC xs)=some xs:=WM rfl rfl
def Ig(xs:List Int):vi (tI xs)=M.ok (.int xs.length):=by simp[vi,tI,bP,e9]
def G7(xs:List Int):vi (lI xs)=M.ok (.int xs.length):=by simp[vi,lI,bP,e9]
def Fx(xs:List PV):vi (.tup xs)=M.ok (.int xs.length):=WM rfl rfl
def DE(xs:List PV):vi (.lst xs)=M.ok (.int xs.length):=WM rfl rfl
def FJ(xs:List PV):vi (.kC xs)=M.ok (.int xs.length):=WM rfl rfl
def Fb(xs:List Int):Cj [.lst (xs.map PV.int)]=M.ok (.int xs.sum):=by simp[Cj,NR,o4,e9]
def x9(xs:List Bool):yC [.lst (xs.map PV.bl)]=M.ok (.bl (xs.all id)):=by simp[yC,all1,xf,e9]
def fx{inj h:α->PV}{rest:af}(xs:List α)(H:∀a∈xs,f (some (.sh (inj a))::rest)=M.ok (h a)):bF (bG 0) none f (xs.map inj) (x0::rest)=M.ok (xs.map h):=by
 induction xs generalizing x0 with
 | nil=>rfl
 | cons a r ih =>
  rw[Wv,bF];show M.bind (M.ok ((x0::rest).set 0 (some (.sh (inj a))))) _=_;rw[M.aE,X_];show M.bind (f _) _=_;rw[H a V7,M.aE,ih λb hb=>H b (V5 _ hb)];rfl
def j9{p q h:α->PV}{rest:af}{x1:Option SV}(xs:List α)(H:∀a∈xs,f (some (.sh (p a))::some (.sh (q a))::rest)=M.ok (h a)):bF (cC 0 1) none f (xs.map λa=>.tup [p a,q a]) (x0::x1::rest)=M.ok (xs.map h):=by
 induction xs generalizing x0 x1 with
 | nil=>rfl
 | cons a r ih =>
  rw[Wv,bF];show M.bind (M.ok (((x0::x1::rest).set 0 (some (.sh (p a)))).set 1 (some (.sh (q a))))) _=_;rw[M.aE,X_,ZA,X_];show M.bind (f _) _=_;rw[H a V7,M.aE,ih λb hb=>H b (V5 _ hb)];rfl
def y_{p q s h:α->PV}{rest:af}{x1 x2:Option SV}(xs:List α)(H:∀a∈xs,f (some (.sh (p a))::some (.sh (q a))::some (.sh (s a))::rest)=M.ok (h a)):bF (ma 0 1 2) none f (xs.map λa=>.tup [p a,q a,s a]) (x0::x1::x2::rest)=M.ok (xs.map h):=by
 induction xs generalizing x0 x1 x2 with
 | nil=>rfl
 | cons a r ih =>
  rw[Wv,bF];show M.bind (M.ok ((((x0::x1::x2::rest).set 0 (some (.sh (p a)))).set 1 (some (.sh (q a)))).set 2 (some (.sh (s a))))) _=_;rw[M.aE,X_,ZA,X_,ZA,ZA,X_];show M.bind (f _) _=_;rw[H a V7,M.aE,ih λb hb=>H b (V5 _ hb)];rfl
def gC{f:α->PV}{g:β->PV}{q:PV}(xs:List α)(ys:List β)(hp:bP p=some (xs.map f))(hq:bP q=some (ys.map g)):zip2 [p,q]=M.ok ((xs.zip ys).map λz=>.tup [f z.1,g z.2]):=by
 simp only[zip2,hp,hq];congr 2;rw[List.zipWith_map,List.zip_eq_zipWith,List.map_zipWith]
def m_{γ:Type}{f:α->PV}{g:β->PV}{h:γ->PV}{q r:PV}(xs:List α)(ys:List β)(zs:List γ)(hp:bP p=some (xs.map f))(hq:bP q=some (ys.map g))(hr:bP r=some (zs.map h)):yh [p,q,r]=M.ok ((xs.zip (ys.zip zs)).map λz=>.tup [f z.1,g z.2.1,h z.2.2]):=by
 simp only[yh,hp,hq,hr];congr 2;clear hp hq hr
 induction xs generalizing ys zs with
 | nil=>cases ys<;>cases zs<;>rfl
 | cons a r ih =>
  cases ys with
  | nil=>rfl
  | cons b s =>
   cases zs with
   | nil=>rfl
   |cons c t=>simp only[Wv,kB,X9,ih]
def Bp{f:α->PV}(xs:List α):i9 (xs.map f)=(xs.zipIdx).map λz=>.tup [.int (z.2:Int),f z.1]:=by
 unfold i9;rw[List.mapIdx_eq_zipIdx_map,List.zipIdx_map,WA];rfl
theorem xD{set:PV->af->M af}{body:af->M Out}{α:Type}{inj:α->PV}(J:List α->af->Prop)(H:∀a r env,J (a::r) env->∃e' Rc,set (inj a) env=M.ok e'/\body e'=M.ok (.nx Rc)/\J r Rc):∀(xs:List α)(env:af),J xs env->∃Rc,l4 set body (xs.map inj) env=M.ok (.nx Rc)/\J [] Rc
 | [],env,h=>⟨env,rfl,h⟩
 | a::r,env,h=>by
  obtain⟨e',Rc,h1,h2,h3⟩:=H a r env h;obtain⟨T5,h4,h5⟩:=xD J H r Rc h3;refine⟨T5,?_,h5⟩;rwa[Wv,l4,h1,M.aE,h2,M.aE]
theorem uI{u:af->M Bool}{b:af->M Out}(J:af->Prop)(m:af->Nat)(H:∀env,J env->(u env=M.ok false)\/(u env=M.ok true/\∃Rc,b env=M.ok (.nx Rc)/\J Rc/\m Rc<m env))(env:af)(h:J env):∃Rc,mG u b env=M.ok (.nx Rc)/\J Rc/\u Rc=M.ok false:=by
 have key:∀(n:Nat)(env:af),J env->m env<n->∃Rc,cY u b n env=M.ok (.nx Rc)/\J Rc/\u Rc=M.ok false:=by
  intro n
  induction n with
  | zero=>intro env _ hn;lia
  | succ n ih =>
   intro env h hn;rcases H env h with hu|⟨hu,Rc,hb,hj,hm⟩
   .exact⟨env,by rw[cY,hu,M.aE];rfl,h,hu⟩
   .obtain⟨T5,h1,h2,h3⟩:=ih Rc hj ⋯;exact⟨T5,by rwa[cY,hu,M.aE,if_pos rfl,hb,M.aE],h2,h3⟩
 obtain⟨Rc,h1,h2,h3⟩:=key (m env+1) env h (X7 _);refine⟨Rc,?_,h2,h3⟩;rw[CG (n:=m env+1) (by rw[h1];exact λz=>nomatch z),h1]
theorem log2_small(h:i.natAbs<2^k)(hk:k<=9000):i.natAbs.log2<67108864:=by
 by_cases z:i.natAbs=0
 .rw[z];decide
 .have:=(adj z).mpr h;lia
def b_{l:Nat}(hi:i.natAbs<2^k)(hj:j.natAbs<2^l)(hk:autoParam (k<=9000) aD._auto_1)(hl:autoParam (l<=9000) aD._auto_1):cP (.int i) (.int j)=M.ok (.int (i*j)):=by
 rw[cP,ar ⟨log2_small hi hk,log2_small hj hl⟩]
theorem uV(h0:j≠0)(h:j.natAbs<2^9000):bQ (.int i) (.int j)=M.ok (.int (i.fdiv j)):=by
 show cO _ _=_;refine ar (decide_eq_true ⟨h0,(adj ⋯).mpr h⟩)
def D5(h0:j≠0):cQ (.int i) (.int j)=M.ok (.int (i.fmod j)):=by
 show cO _ _=_;exact ar (decide_eq_true h0)
theorem bh(h0:0<j)(h:j<2^64):bQ (.int i) (.int j)=M.ok (.int (i/j)):=by
 rw[uV ⋯ (V8 (show j.natAbs<2^64 by lia) (Xw ↑12 ↑12)),Ze _ ⋯]
theorem aV(h0:0<j):cQ (.int i) (.int j)=M.ok (.int (i%j)):=by
 rw[D5 ⋯,Int.fmod_eq_emod_of_nonneg _ ⋯]
def bu{j:Nat}{x:PV}(hs:bP p=some xs)(h:xs[j]?=some x):aH p (.int (j:Int))=M.ok x:=by
 cases p with
 | tup ys=>cases hs;simp only[aH,vH h,e9]
 | lst ys=>cases hs;simp only[aH,vH h,e9]
 | kC ys=>cases hs;simp only[aH,vH h,e9]
 |_=>cases hs
section
variable{b:String->Bool}{ob oe:Addr->Option Bool}
def Kn(xs:List Int):Cg b ob oe (tI xs)=M.ok (.bl (b "tuple")):=WM rfl rfl
def L_(xs:List Int):Cg b ob oe (lI xs)=M.ok (.bl (b "list")):=WM rfl rfl
def Gm(xs:List PV):Cg b ob oe (.tup xs)=M.ok (.bl (b "tuple")):=WM rfl rfl
def Gq(xs:List PV):Cg b ob oe (.lst xs)=M.ok (.bl (b "list")):=WM rfl rfl
def IC(i:Int):Cg b ob oe (.int i)=M.ok (.bl (b "int")):=WM rfl rfl
def J3(i:Bool):Cg b ob oe (.bl i)=M.ok (.bl (b "bool")):=WM rfl rfl
def GN:Cg b ob oe .c6=M.ok (.bl (b "NoneType")):=WM rfl rfl
def HJ(x:Str):Cg b ob oe (.str x)=M.ok (.bl (b "str")):=WM rfl rfl
def HR:Cg b ob oe .emp=M.ok (.bl (b "dict")):=WM rfl rfl
end
def HA(i j:Int):n8 (.int i) (.int j)=M.ok (.bl (!decide (i=j))):=by
 simp only[n8,p5,dat,G0,shaped,X0,Ys,noMix];rw[ar ⟨rfl,rfl,trivial⟩];unfold same;rw[M.aE];congr
def GZ(i j:Int):sW (.int i) (.int j)=M.ok (.bl (decide (i=j))):=by
 simp only[sW,p5,dat,G0,shaped,X0,Ys,noMix];rw[ar ⟨rfl,rfl,trivial⟩];unfold same;rw[M.aE];congr
def Ml(i j:Bool):n8 (.bl i) (.bl j)=M.ok (.bl (!decide (i=j))):=by
 simp only[n8,p5,dat,G0,shaped,X0,Ys,noMix];rw[ar ⟨rfl,rfl,trivial⟩];unfold same;rw[M.aE];congr
def Lj(i j:Bool):sW (.bl i) (.bl j)=M.ok (.bl (decide (i=j))):=by
 simp only[sW,p5,dat,G0,shaped,X0,Ys,noMix];rw[ar ⟨rfl,rfl,trivial⟩];unfold same;rw[M.aE];congr
def o8(xs:List Int):oZ (xs.map PV.int)=some (xs.map Yb):=by
 induction xs with
 | nil=>rfl
 |cons a r ih=>simp[oZ,dat,ih]
def k8(xs:List Int):ZS (xs.map Yb)=true:=by
 induction xs with
 | nil=>rfl
 |cons a r ih=>simp[ZS,X0,ih]
def mh(xs:List Int):aaj (xs.map Yb)=0:=by
 induction xs with
 | nil=>rfl
 |cons a r ih=>simp[aaj,Ys,ih]
theorem noMix_ints:∀(xs ys:List Int),noMixAll (xs.map Yb) (ys.map Yb)=true
 | [],[]=>by simp[noMixAll]
 | [],_::_=>by simp[noMixAll]
 | _::_,[]=>by simp[noMixAll]
 |a::r,b::s=>by simp[noMixAll,noMix,noMix_ints r s]
theorem same_ints:∀(xs ys:List Int),sameAll (xs.map Yb) (ys.map Yb)=decide (xs=ys)
 | [],[]=>by simp[sameAll]
 | [],_::_=>by simp[sameAll]
 | _::_,[]=>by simp[sameAll]
 | a::r,b::s=>by
  simp only[Wv,sameAll,same_ints r s];unfold same;rw[aag];simp
def uf(xs:List (List Int)):oZ (xs.map tI)=some (xs.map λr=>.tuple (r.map Yb)):=by
 induction xs with
 | nil=>rfl
 |cons a r ih=>simp[oZ,dat,tI,o8] at ih ⊢;simp[ih]
def pG(xs:List (List Int)):ZS (xs.map λr=>.tuple (r.map Yb))=true:=by
 induction xs with
 | nil=>rfl
 |cons a r ih=>simp[ZS,X0,ih,k8]
def jY(xs:List (List Int)):aaj (xs.map λr=>.tuple (r.map Yb))<=1:=by
 induction xs with
 | nil=>exact Wb _
 |cons a r ih=>simp[aaj,Ys,mh,ih]
theorem mD:∀(xs ys:List (List Int)),noMixAll (xs.map λr=>.tuple (r.map Yb)) (ys.map λr=>.tuple (r.map Yb))=true
 | [],[]=>by simp[noMixAll]
 | [],_::_=>by simp[noMixAll]
 | _::_,[]=>by simp[noMixAll]
 |a::r,b::s=>by simp[noMixAll,noMix,noMix_ints,mD r s]
theorem pb:∀(xs ys:List (List Int)),sameAll (xs.map λr=>.tuple (r.map Yb)) (ys.map λr=>.tuple (r.map Yb))=decide (xs=ys)
 | [],[]=>by simp[sameAll]
 | [],_::_=>by simp[sameAll]
 | _::_,[]=>by simp[sameAll]
 | a::r,b::s=>by
  simp only[Wv,sameAll,pb r s];unfold same;rw[same_ints,aag];simp
def ou(xs ys:List Int):n8 (tI xs) (tI ys)=M.ok (.bl (!decide (xs=ys))):=by
 simp only[n8,p5,dat,tI,o8,aak,G0];rw[ar (by simp[shaped,X0,Ys,k8,mh,noMix,noMix_ints])];unfold same;rw[same_ints];rfl
def Gj(i j:Int):DX (.int i) (.int j)=M.ok (.bl (decide (i<j))):=WM rfl rfl
def G1(i j:Int):F6 (.int i) (.int j)=M.ok (.bl (decide (i<=j))):=WM rfl rfl
def HM(i j:Int):Jd (.int i) (.int j)=M.ok (.bl (decide (j<i))):=WM rfl rfl
def Gz(i j:Int):MS (.int i) (.int j)=M.ok (.bl (decide (j<=i))):=WM rfl rfl
def Dx(i j:Int):c7 (.int i) (.int j)=M.ok (.int (i+j)):=WM rfl rfl
def De(i j:Int):pH (.int i) (.int j)=M.ok (.int (i-j)):=WM rfl rfl
theorem dU{n:Int}(h:0<=n)(h2:n<2^62):oy [.int n]=M.ok ((V6 n.toNat).map λ(i:Nat)=>.int (i:Int)):=by
 show cO (-(2^62)<=n/\n<2^62) _=_;rw[ar ⋯];simp
def eV{set:PV->af->M af}{inj:α->PV}{k:Out->M β}{r:M β}(xs:List α)(J:List α->af->Prop){env:af}(h:J xs env)(H:∀a r env,J (a::r) env->∃e' Rc,set (inj a) env=M.ok e'/\body e'=M.ok (.nx Rc)/\J r Rc)(hk:∀Rc,J [] Rc->k (.nx Rc)=r):M.bind (l4 set body (xs.map inj) env) k=r:=by
 obtain⟨Rc,e,h'⟩:=xD J H xs env h;rw[e,M.aE];exact hk Rc h'
def aM(h:n<=1000):n<=sizeLine:=Y5 (oG h)
def tupK(ps:List PV):M PV:=cO (ps.length<=sizeLine) (M.ok (.tup ps))
def lstK(ps:List PV):M PV:=cO (ps.length<=sizeLine) (M.ok (.lst ps))
def Hb(fs:af->M (List PV))(env:af):kG fs env=(fs env).bind tupK:=rfl
def HI(fs:af->M (List PV))(env:af):mq fs env=(fs env).bind lstK:=rfl
def LS:tupK []=M.ok (.tup []):=ar (aM (show 0<=1000 by decide))
def Lw:lstK []=M.ok (.lst []):=ar (aM (show 0<=1000 by decide))
def MG(a:PV):tupK [a]=M.ok (.tup [a]):=ar (aM (show 1<=1000 by decide))
def LW(a:PV):lstK [a]=M.ok (.lst [a]):=ar (aM (show 1<=1000 by decide))
def L6(a b:PV):tupK [a,b]=M.ok (.tup [a,b]):=ar (aM (show 2<=1000 by decide))
def JR(a b:PV):lstK [a,b]=M.ok (.lst [a,b]):=ar (aM (show 2<=1000 by decide))
def LZ(a b c:PV):tupK [a,b,c]=M.ok (.tup [a,b,c]):=ar (aM (show 3<=1000 by decide))
def Mm(a b c:PV):lstK [a,b,c]=M.ok (.lst [a,b,c]):=ar (aM (show 3<=1000 by decide))
def ME(a b c d:PV):tupK [a,b,c,d]=M.ok (.tup [a,b,c,d]):=ar (aM (show 4<=1000 by decide))
def Lr(a b c d:PV):lstK [a,b,c,d]=M.ok (.lst [a,b,c,d]):=ar (aM (show 4<=1000 by decide))
def Md(a b c d e:PV):tupK [a,b,c,d,e]=M.ok (.tup [a,b,c,d,e]):=ar (aM (show 5<=1000 by decide))
def JT(a b c d e:PV):lstK [a,b,c,d,e]=M.ok (.lst [a,b,c,d,e]):=ar (aM (show 5<=1000 by decide))
def JU(a b c d e f:PV):tupK [a,b,c,d,e,f]=M.ok (.tup [a,b,c,d,e,f]):=ar (aM (show 6<=1000 by decide))
def Mx(a b c d e f:PV):lstK [a,b,c,d,e,f]=M.ok (.lst [a,b,c,d,e,f]):=ar (aM (show 6<=1000 by decide))
end
def jj(m:M α)(Q:α->Prop):Prop:=∃a,m=M.ok a/\Q a
section
variable{γ:Type}{Q Q':α->Prop}{m:M α}
def jj.eq{a:α}(h:jj m λx=>x=a):m=M.ok a:=by obtain⟨b,e,rfl⟩:=h;exact e
def Tn(J:af->Prop)(B:af->Prop)(R:PV->Prop):Out->Prop
 | .nx e=>J e
 | .ct e=>J e
 | .bk e=>B e
 |.rt p=>R p
theorem jj.Ds{set:PV->af->M af}{body:af->M Out}{inj:γ->PV}{B:af->Prop}{R:PV->Prop}(J:List γ->af->Prop)(H:∀a r env,J (a::r) env->jj (M.bind (set (inj a) env) body) (Tn (J r) B R)):∀(xs:List γ)(env:af),J xs env->jj (l4 set body (xs.map inj) env) λo=>(∃e,o=.nx e/\(J [] e\/B e))\/∃p,o=.rt p/\R p
 | [],env,h=>⟨_,rfl,.inl ⟨_,rfl,.inl h⟩⟩
 | a::r,env,h=>by
  obtain⟨o,e,q⟩:=H a r env h;rw[Wv,l4,<- M.bind_assoc,e,M.aE];cases o with
  | nx e'=>exact jj.Ds J H r e' q
  | ct e'=>exact jj.Ds J H r e' q
  | bk e'=>exact⟨_,rfl,.inl ⟨_,rfl,.inr q⟩⟩
  |rt p=>exact⟨_,rfl,.inr ⟨_,rfl,q⟩⟩
def jj.loop{R:β->Prop}{set:PV->af->M af}{inj:γ->PV}{k:Out->M β}{xs:List γ}{env:af}(J:List γ->af->Prop)(h:J xs env)(H:∀a r env,J (a::r) env->jj (M.bind (set (inj a) env) body) (Tn (J r) (λ_=>False) λ_=>False))(hk:∀Rc,J [] Rc->jj (k (.nx Rc)) R):jj (M.bind (l4 set body (xs.map inj) env) k) R:=by
 obtain⟨o,e,q⟩:=jj.Ds J H xs env h;rw[e,M.aE];rcases q with ⟨e',rfl,q|q⟩|⟨p,_,q⟩
 .exact hk e' q
 .exact q.elim
 .exact q.elim
end
def N1(i:Nat)(env:af)(xs:List PV)(p:PV):M Out:=if xs.length<sizeLine then M.ok (.nx (env.set i (some (.ow (xs++[p]))))) else none
def qh(i:Nat)(f:af->M PV)(env:af):oo i f env=(ownAt i env).bind λxs=>(f env).bind λp=>N1 i env xs p:=by
 unfold oo ownAt;rcases env[i]? with _|_|(_|_|_)<;>rfl
def p_{i:Nat}{env:af}(h:xs.length<1000):N1 i env xs p=M.ok (.nx (env.set i (some (.ow (xs++[p]))))):=if_pos (oG (Y5 h))
def sC(C:Addr)(m:Str)(sem:List PV->M PV)(p:PV)(x:M (List PV)):M PV:=match p with
 | .obj C' fl=>cO (C'=C/\fl.lookup m=none) (x.bind λps=>sem (.obj C' fl::ps))
 |_=>none
def ck(C:Addr)(m:Str)(sem:List PV->M PV)(g:af->M PV)(fs:af->M (List PV))(env:af):bc C m sem g fs env=(g env).bind λp=>sC C m sem p (fs env):=rfl
variable{sem:List PV->M PV}{C:Addr}
def jI{m:Str}{fl:List (Str×PV)}{x:M (List PV)}(h:fl.lookup m=none):sC C m sem (.obj C fl) x=x.bind λps=>sem (.obj C fl::ps):=ar ⟨rfl,h⟩
def EG(ok:Addr->Bool)(f:Str)(p:PV):M PV:=match p with
 | .obj C fs=>cO (ok C=true) (e9 (fs.lookup f))
 |_=>none
def lN(ok:Addr->Bool)(f:Str)(g:af->M PV)(env:af):eG ok f g env=(g env).bind (EG ok f):=rfl
def rL{ok:Addr->Bool}{f:Str}{fs:List (Str×PV)}{x:PV}(h:ok C=true)(hl:fs.lookup f=some x):EG ok f (.obj C fs)=M.ok x:=by
 show cO _ _=_;rw[ar h,hl];rfl
def K1(xs ys:List Int):sW (lI xs) (lI ys)=M.ok (.bl (decide (xs=ys))):=by
 simp only[sW,p5,dat,lI,o8,aak,G0];rw[ar (by simp[acS,X0,Ys,k8,mh,adk,noMix_ints])];unfold same;rw[same_ints];rfl
def Cq(xs:List Int)(x:Int):xs.map PV.int++[.int x]=(xs++[x]).map PV.int:=by simp
def vV{f:α->PV}(xs:List α)(h:bP p=some (xs.map f)):F_ [p]=M.ok (xs.zipIdx.map λz=>.tup [.int (z.2:Int),f z.1]):=by
 show P_ p=_;unfold P_;rw[h];show M.ok (i9 _)=_;rw[Bp]
def Ki(xs:List Int):F_ [lI xs]=M.ok (xs.zipIdx.map λz=>.tup [.int (z.2:Int),.int z.1]):=vV xs rfl
def p6{f:α->PV}(xs:List α):F_ [.lst (xs.map f)]=M.ok (xs.zipIdx.map λz=>.tup [.int (z.2:Int),f z.1]):=vV xs rfl
def Iq(f:af->M Out)(hs:List Hd)(env:af):G2 f hs env=zR (f env) λx=>jE hs x env:=rfl
def ze(x:EX)(k:EX->M Out):zR (some (.error x)) k=k x:=WM rfl rfl
def zq(t:Addr->Option Bool)(o:Option Nat)(h:af->M Out)(r:List Hd)(x:EX)(env:af):jE ((t,o,h)::r) x env=wB (t x.1) (qv o h x env) (jE r x env):=WM rfl rfl
def Ky(x y:M Out):wB (some true) x y=x:=WM rfl rfl
def Fv(i:Nat)(h:af->M Out)(x:EX)(env:af):qv (some i) h x env=(DB (h (env.set i (some (.sh (.exc x.1 x.2)))))).bind λout=>M.ok (vL i out):=WM rfl rfl
def Qx{us:List α}(h:us.length=1):∃a,us=[a]:=by
 cases us with
 | nil=>cases h
 | cons a t=>cases t with
  | nil=>exact⟨a,rfl⟩
  |cons b t=>cases h
def ln2{us:List α}(h:us.length=2):∃a b,us=[a,b]:=by
 cases us with
 | nil=>cases h
 |cons a t=>obtain⟨b,rfl⟩:=Qx (ZR h);exact⟨a,b,rfl⟩
def Qw{us:List α}(h:us.length=3):∃a b c,us=[a,b,c]:=by
 cases us with
 | nil=>cases h
 |cons a t=>obtain⟨b,c,rfl⟩:=ln2 (ZR h);exact⟨a,b,c,rfl⟩
def Q4{us:List α}(h:us.length=4):∃a b c d,us=[a,b,c,d]:=by
 cases us with
 | nil=>cases h
 |cons a t=>obtain⟨b,c,d,rfl⟩:=Qw (ZR h);exact⟨a,b,c,d,rfl⟩
def AQ(K:VU):Bool:=K.all λp=>match p.2.cls with
 | .type t=>t != "list"
 |_=>true
def Er{K:VU}(h:AQ K=true){a:Addr}{o:Obj}(e:K.lookup a=some o):o.cls≠.type "list" := by
 induction K with
 | nil=>cases e
 | cons p r ih =>
  obtain⟨b,u⟩:=p;rw[AQ,List.all_cons,WT] at h;rw[Xn] at e;cases q:a==b with
  | true =>
   rw[q] at e;cases e;intro z;have h1:=h.1;simp only[z] at h1;exact absurd h1 ↑12
  |false=>rw[q] at e;exact ih h.2 e
theorem uu{H:Hp}:∀ns:List Int,aL H (ns.map PV.int) (ns.map V.int)
 | []=>.nil
 |i::r=>.cons (.int i) (uu r)
variable{x:Str}
def zX{l:PySem.W.OpenLaw}{q:Program}{loose:List Str}{XP:(Str->Option Value)->Heap->Prop}{YP:World->Heap->Prop}{d:DefRec}{K:Params->VU}(hn:l.most=some n)(UH:n<=sizeLine)(hdf:d.params.defaults=[])(hr:cp k callerA)(hY:∀(w:World)(h:Heap),YP w h->(K w.params).In h)(hK:∀w:World,AQ (K w.params)=true)(F:∀(w:World)(mg:Str->Option Value)(fa:Addr)(h:Heap),(K w.params).In h->h.Ns mainGlobals mg->mg d.name=some (.ref fa) ->∃ fd:FuncData,(∀(s:Shared)(u:Value),BindsTo s fd ⟨[u],[]⟩ [(x,u)]) ∧∀base:Heap,(K w.params).In base->base.Ns mainGlobals mg->aT l.prog w (K w.params) mg base (bX l.prog w) k fa fd [x] (dX 1 sem))(U3:∀ns:List Int,ns.length<=n->(∀i∈ns,aas i<=1048576)->sem [.kC (ns.map PV.int)]=M.ok (.bl true)):PySem.W.WalkO q loose XP YP l.row.toRowW d [] (λf vs=>PySem.call f vs):=by
 intro w s₀ s₁ mg mb G Y fa o pm cd doc dV kV ho hd R3 hD hmg hg args vals as BZ hlay hrd hwl hlo;obtain rfl:dV=.none:=PySem.W.Dflts.none hD hdf;obtain rfl:kV=.none:=PySem.W.Dflts.noKw hD;obtain⟨a,vs,ns,rfl,rfl,hobj,hints,hlen⟩:=Att.B6 hn BZ hwl;have Vs:∀i∈ns,aas i<=1048576:=λi hi=>by
  have h1:=PySem.W.layableW_arg hlay _ (Wi.mpr rfl);have h2:=PySem.W.layableW_item h1 (.int i) (WU.mpr ⟨i,hi,rfl⟩);exact intBits_le_of_layable h2
 have KX:=hY w _ Y;obtain⟨fd,hb,hF⟩:=F w mg fa _ KX G.T.g hmg;have hs:=U3 ns hlen Vs;refine PySem.W.enter_call (aaw (F1 KX G.T.g G.T.b G.T.builtins G.T.nolimit hg hobj hints (WE hlen UH) hr hF hb (λH hO hS=>⟨rfl,H,[.kC (ns.map PV.int)],λ_ _ e=>e,?_,?_⟩) λH e s' z=>?_) λr s' hq=>?_)
 .rcases hS with (hS|⟨ob,hS⟩)|⟨ob,Rb,m,e1,e2,_⟩
  .rcases hO a with z|⟨ob,xs,z⟩
   .rw[z] at hS;cases hS
   .rw[z] at hS;cases hS
  .exact .cons (.kC hS (uu ns)) .nil
  .exact absurd e2 (Er (hK w) e1)
 .rw[hs];intro v Ra H' g r;cases r;rfl
 .obtain⟨ea,T,C,dd,Hc,_,_,_,_,_,_,_,_,z⟩:=z;exact z
 .obtain⟨rfl,h2,h3,h4⟩:=hq;exact⟨.inl ⟨.bool true,.bool true,[],rfl,λ_=>rfl,.bool true,Att.Bk l _,λ_=>⟨List.Pairwise.nil,λ_ hm=>(nomatch hm)⟩⟩,h2,h3,h4⟩
abbrev Ca(x q:Str)(t:Stmt)(s:Value)(c:Addr):FuncData:=Xr x q (i4 t) (fg t) (ba t) .none .none .none s none (.ref c) .none
def bj.of{K:VU}{q:Str}{t:Stmt}{dv kV doc pm:Value}{an:Option Addr}{Rw ct:Value}{f:Addr}(h1:K.lookup f=some ⟨.type "function",none,.func (Xr x q (i4 t) (fg t) (ba t) dv kV doc pm an Rw ct),⟨[]⟩⟩)(h2:Yd K Rw q=true)(h3:W8 K (.ref f)=true):bj K x q t dv f (Xr x q (i4 t) (fg t) (ba t) dv kV doc pm an Rw ct):=⟨⟨_,_,_,_,_,_,_,_,_,rfl,h1,h2⟩,h3⟩
section
variable{P:List α->Prop}
def Oy(h:∀a b,P [a,b]):∀us,us.length=2->P us:=λus hl=>by obtain⟨a,b,rfl⟩:=ln2 hl;exact h a b
end
def cS.of{N P:List Str}{sc:Scope}(h1:autoParam (sc.kind=.function) aR._auto_1)(h2:autoParam (sc.isCoroutine=false) aR._auto_1)(h3:autoParam (sc.isGenerator=false) aR._auto_1)(h4:autoParam (N.Nodup) aN._auto_1)(h5:autoParam (N.take P.length=P) aR._auto_1)(h6:autoParam (∀x∈P,sc.names.lookup x=some .local\/sc.names.lookup x=some .cell) aN._auto_1)(h7:autoParam (∀y∈sc.names,y.2≠.free) aN._auto_1):cS N P sc:=⟨h1,h2,h3,h4,h5,h6,h7⟩
def aO{pos:Pos}{i:Nat}(hN:X.N.Nodup)(hi:autoParam (X.N[i]?=some x) aR._auto_1)(hx:autoParam (Loc X.env.scope x) aG._auto_1)(hf:autoParam ↑1 aG._auto_1):PG X (.Name x pos) (aC i):=IQ hN hi hx hf
def HQ:Nat->(List Value->Prop)->Prop
 | 0,P=>P []
 |n+1,P=>∀a,HQ n λl=>P (a::l)
theorem vd:∀{n:Nat}{P:List Value->Prop},HQ n P->∀us:List Value,us.length=n->P us
 | 0,_,h,[],_=>h
 |n+1,_,h,a::r,e=>vd (h a) r (ZR e)
variable{ps:List Str}{mg:Str->Option Value}
section
variable{K:VU}{h:Heap}{q:Str}{t:Stmt}{m:Nat}{tO:List PV->M (List PV)}
def jf(P:Program)(w:World)(base:Heap)(X:K.In h)(G:h.Ns mainGlobals mg)(a c:Addr)(s:Value)(ok:bj K x q t .none a (Ca x q t s c)->aT P w K mg base (bX P w) n a (Ca x q t s c) ps (dX m (bw m sem)))(h1:autoParam (K.lookup a=some ⟨.type "function",none,.func (Ca x q t s c),⟨[]⟩⟩) aK._auto_1)(h2:autoParam (Yd K (.ref c) q=true) aK._auto_1)(h3:autoParam (W8 K (.ref a)=true) aK._auto_1)(h4:autoParam (abu K mainGlobals x=some (some (.ref a))) aK._auto_1)(h5:autoParam (ps.length=m) aR._auto_1)(h6:HQ ps.length λus=>bindArgs (Ca x q t s c) ⟨us,[]⟩=pure (ps.zip us):=by (repeat intro _);rfl):dG P w K mg base n x m sem :=
 ⟨⟨a,_,ps,ady X G h4,h3,h5,.all (vd h6),ok (.of h1 h2 h3)⟩⟩
def F5(P:Program)(w:World)(base:Heap)(cc:oh K C)(a c:Addr)(s:Value)(ok:bj K x q t .none a (Ca x q t s c)->aT P w K mg base (bX P w) n a (Ca x q t s c) ps (dX m (bw m sem)))(h1:autoParam (K.lookup a=some ⟨.type "function",none,.func (Ca x q t s c),⟨[]⟩⟩) aK._auto_1)(h2:autoParam (Yd K (.ref c) q=true) aK._auto_1)(h3:autoParam (W8 K (.ref a)=true) aK._auto_1)(h4:autoParam (W6 K (.ref C) x=some (some (.ref a))) aK._auto_1)(h5:autoParam (Zi K (.ref a)=true) aK._auto_1)(h6:HQ ps.length λus=>bindArgs (Ca x q t s c) ⟨us,[]⟩=pure (ps.zip us):=by (repeat intro _);rfl):lj P w K mg base C n x m sem :=
 ⟨⟨a,_,ps,cc,⟨h4,h5,h3⟩,.all (vd h6),ok (.of h1 h2 h3)⟩⟩
end
def bj.fF{P:Program}{w:World}{K:VU}{base:Heap}{qual:Str}{st:Stmt}{dv:Value}{f:Addr}{fd:FuncData}{g:af->M Out}(F:bj K x qual st dv f fd)(N:List Str)(hb:N.Nodup->∀(Rw:Value)(A:Around)(outer:List Env)(s:Shared)(H:Hp)(E:XK),cp k (A.deeper (envOfC qual (ba st) s.heap.objs.size f Rw))->fk ((mR (bX P w) P w K mg base N qual (ba st) f Rw A outer s H E).out λ_=>E) (λ_=>E)->lA ((mR (bX P w) P w K mg base N qual (ba st) f Rw A outer s H E).out λ_=>E) (fg st) (tS E g))(S:cS N ps (ba st):=by exact .of):aT P w K mg base (bX P w) (k+1) f fd ps (dX ps.length (bw ps.length (aA N.length g))):=F.QF S (hb S.nd)
end L2
namespace yF
open PySem L2 PyProof.Rows
def jm:Addr:=474
def cu:Addr:=479
def cN:Addr:=467
def du:Addr:=65
def eB:Addr:=91
def dD:Addr:=117
def dR:Addr:=136
def az:Addr:=439
def cB:Addr:=155
def bg:Addr:=174
def ao:Addr:=256
def nu:Addr:=38
def gq:List Addr:=[du,eB,dD,dR,cB,bg]
def gz:List Addr:=[]
def fH:List Addr:=[cB]
def fO:List Addr:=[du,eB,dD,dR,bg]
def kc:List Addr:=[]
def jO:List Addr:=[]
def iB:List Addr:=[bg]
def iD:List Addr:=[du,eB,dD,dR,cB]
def lC:List Addr:=[]
def lB:List Addr:=[]
def OQ:List Addr:=[du,eB,dD,dR,cB,bg]
abbrev cI(i:Int):af->M PV:=λ_=>M.ok (.int i)
def jZ:af->M Out :=
 (aq (retS (Cf (zY (λa=>oA a "int") tD tD (ae 0)) (GI (zY (λa=>oA a "bool") tD tD (ae 0)))))
 av)
def fU:List PV->M PV:=bw 1 (aA 1 jZ)
def kL:af->M Out :=
 (aq (kU (Aw (gX (dm (zY (λa=>["list","tuple"].any λt=>oA a t) tD tD (ae 0)))) (dm (aj n8 (ai dH (aa (ae 0) ak)) (ae 1)))) (aq (retS (λ_=>M.ok (.bl false)))
 av) av)
 (aq (retS (ai yC (aa (bZ (bR (itemsOf (ae 0)) (bG 0) none (ai fU (aa (ae 0) ak)) 1 [])) ak)))
 av))
def gF:List PV->M PV:=bw 2 (aA 2 kL)
def k9:af->M Out :=
 (aq (bo 2 (kG (aa (ae 0) (aa (cI 1) (aa (cI 0) ak)))))
 (aq (bo 3 (kG (aa (ae 1) (aa (cI 0) (aa (cI 1) ak)))))
 (aq (mG (dm (aj n8 (aj aH (ae 3) (cI 0)) (cI 0))) (aq (bo 4 (aj bQ (aj aH (ae 2) (cI 0)) (aj aH (ae 3) (cI 0))))
 (aq (bo 5 (kG (aa (aj pH (aj aH (ae 2) (cI 0)) (aj cP (ae 4) (aj aH (ae 3) (cI 0)))) (aa (aj pH (aj aH (ae 2) (cI 1)) (aj cP (ae 4) (aj aH (ae 3) (cI 1)))) (aa (aj pH (aj aH (ae 2) (cI 2)) (aj cP (ae 4) (aj aH (ae 3) (cI 2)))) ak)))))
 (aq (bo 2 (ae 3))
 (aq (bo 3 (ae 5))
 av)))))
 (aq (kU (dm (aj DX (aj aH (ae 2) (cI 0)) (cI 0))) (aq (retS (kG (aa (lY (aj aH (ae 2) (cI 0))) (aa (lY (aj aH (ae 2) (cI 1))) (aa (lY (aj aH (ae 2) (cI 2))) ak)))))
 av) av)
 (aq (retS (ae 2))
 av)))))
def gH:List PV->M PV:=bw 2 (aA 6 k9)
def gc:af->M Out :=
 (aq (bo 1 (cI 1))
 (aq (jn (itemsOf (ae 0)) (bG 2) (aq (bo 1 (aj cP (aj bQ (ae 1) (aj aH (ai gH (aa (ae 1) (aa (ae 2) ak))) (cI 0))) (ae 2)))
 av))
 (aq (retS (ae 1))
 av)))
def gm:List PV->M PV:=bw 1 (aA 3 gc)
def jT:af->M Out :=
 (aq (retS (ai cA (aa (bZ (bR (kK oy (aa (ae 0) ak)) (bG 0) none (CF (dm (aj sW (ae 0) (ae 1))) (cI 1) (cI 0)) 1 [1])) ak)))
 av)
def jN:List PV->M PV:=bw 2 (aA 2 jT)
def j4:af->M Out :=
 (aq (retS (aj cQ (ai Cj (aa (bZ (bR (kK zip2 (aa (ae 0) (aa (ae 1) ak))) (cC 0 1) none (aj cP (ae 0) (ae 1)) 2 [])) ak)) (ae 2)))
 av)
def j_:List PV->M PV:=bw 3 (aA 3 j4)
def eW:af->M Out :=
 (aq (retS (Cf (ai fU (aa (ae 0) ak)) (kf F6 F6 (ae 1) (ae 0) (ae 2))))
 av)
def dP:List PV->M PV:=bw 3 (aA 3 eW)
def ij:af->M Out :=
 (aq (kU (dm (aj Jd (ai dH (aa (ae 0) ak)) (cI 6))) (aq (kS cB (aa (λ_=>M.ok (.str "a vault has at most six dials")) ak))
 av) av)
 (aq (kU (dm (aj sW (ai dH (aa (ae 0) ak)) (cI 0))) (aq (kh du "dial" (aa (cI 0) ak))
 av) av)
 (aq (jn (kK F_ (aa (ae 0) ak)) (cC 1 2) (aq (kU (gX (dm (ai dP (aa (ae 2) (aa (cI 2) (aa (cI 360) ak)))))) (aq (kh du "dial" (aa (ae 1) ak))
 av) av)
 av))
 av)))
def gZ:List PV->M PV:=bw 1 (aA 3 ij)
def cJ:af->M Out :=
 (aq (kU (dm (aj n8 (ae 0) (ae 1))) (aq (kS bg (aa (λ_=>M.ok (.str "these dials have unlike sizes")) ak))
 av) av)
 av)
def bT:List PV->M PV:=bw 2 (aA 2 cJ)
def f6:af->M Out :=
 (aq (kU (dm (aj Jd (ai dH (aa (ae 0) ak)) (cI 8))) (aq (kS cB (aa (λ_=>M.ok (.str "a vault has at most eight levers")) ak))
 av) av)
 (aq (jn (kK F_ (aa (ae 0) ak)) (cC 2 3) (aq (kU (gX (dm (ai gF (aa (ae 3) (aa (ae 1) ak))))) (aq (kh eB "lever" (aa (ae 2) ak))
 av) av)
 av))
 av))
def f_:List PV->M PV:=bw 2 (aA 4 f6)
def fj:af->M Out :=
 (aq (kU (dm (aj zF (ae 1) (λ_=>M.ok .c6))) (aq (retS (aj cP (kG (aa (cI 1) ak)) (ai dH (aa (ae 0) ak))))
 av) av)
 (aq (jn (kK oy (aa (ai (Dl λi j=>if j>i then j else i) (aa (ai dH (aa (ae 0) ak)) (aa (ai dH (aa (ae 1) ak)) ak))) ak)) (bG 2) (aq (kU (Aw (dm (aj MS (ae 2) (ai dH (aa (ae 0) ak)))) (dm (aj MS (ae 2) (ai dH (aa (ae 1) ak))))) (aq (kh dD "lever" (aa (ae 2) ak))
 av) av)
 (aq (kU (gX (dm (ai dP (aa (aj aH (ae 1) (ae 2)) (aa (cI 1) (aa (cI 1000) ak)))))) (aq (kh dD "lever" (aa (ae 2) ak))
 av) av)
 av)))
 (aq (retS (ai cA (aa (ae 1) ak)))
 av)))
def de:List PV->M PV:=bw 2 (aA 3 fj)
def nY:af->M Out :=
 (aq (retS (ai cA (aa (bZ (bR (kK zip2 (aa (ae 0) (aa (ae 1) ak))) (cC 0 1) none (aj cQ (ae 0) (ae 1)) 2 [])) ak)))
 av)
def lK:List PV->M PV:=bw 2 (aA 2 nY)
def ny:af->M Out :=
 (aq (retS (ai cA (aa (bZ (bR (kK zip2 (aa (ae 0) (aa (ae 2) ak))) (cC 0 1) none (aj c7 (aj cP (ae 2) (ae 0)) (aj cP (ae 3) (ae 1))) 2 [1,3])) ak)))
 av)
def lp:List PV->M PV:=bw 4 (aA 4 ny)
def e6:af->M Out :=
 (aq (bo 5 (ai lp (aa (aj aH (ae 1) (cI 0)) (aa (ae 2) (aa (aj aH (ae 3) (cI 0)) (aa (ae 4) ak))))))
 (aq (retS (kG (aa (ai lK (aa (ae 5) (aa (ae 0) ak))) (aa (ai lp (aa (aj aH (ae 1) (cI 1)) (aa (ae 2) (aa (aj aH (ae 3) (cI 1)) (aa (ae 4) ak))))) ak))))
 av))
def eg:List PV->M PV:=bw 5 (aA 6 e6)
def eY:af->M Out :=
 (aq (bo 3 (aj aH (aj aH (aj aH (ae 1) (ae 2)) (cI 0)) (ae 2)))
 (aq (retS (CF (dm (aj sW (ae 3) (cI 0))) (aj aH (ae 0) (ae 2)) (ae 3)))
 av))
def dM:List PV->M PV:=bw 3 (aA 4 eY)
def jR:af->M Out :=
 (aq (tH 3 (ph ak))
 (aq (jn (kK F_ (aa (ae 1) ak)) (cC 4 5) (aq (bo 6 (ai dM (aa (ae 0) (aa (ae 1) (aa (ae 4) ak)))))
 (aq (bo 7 (aj aH (aj aH (ae 2) (cI 0)) (ae 4)))
 (aq (bo 8 (ai gH (aa (ae 6) (aa (ae 7) ak))))
 (aq (oo 3 (ai eg (aa (ae 0) (aa (ae 5) (aa (aj aH (ae 8) (cI 1)) (aa (ae 2) (aa (aj aH (ae 8) (cI 2)) ak)))))))
 (aq (bo 2 (ai eg (aa (ae 0) (aa (ae 2) (aa (aj bQ (ae 6) (aj aH (ae 8) (cI 0))) (aa (ae 5) (aa (lY (aj bQ (ae 7) (aj aH (ae 8) (cI 0)))) ak)))))))
 av))))))
 (aq (vj [3] (retS (kG (aa (ae 3) (aa (aj aH (ae 2) (cI 1)) ak)))))
 av)))
def jL:List PV->M PV:=bw 3 (aA 9 jR)
def jw:af->M Out :=
 (aq (jn (kK B5 (aa (ae 3) (aa (ai dH (aa (ae 0) ak)) ak))) (bG 4) (aq (bo 5 (aj bQ (aj aH (aj aH (ae 2) (cI 0)) (ae 4)) (ai dM (aa (ae 0) (aa (ae 1) (aa (ae 4) ak))))))
 (aq (bo 2 (ai eg (aa (ae 0) (aa (ae 2) (aa (cI 1) (aa (aj aH (ae 1) (ae 4)) (aa (lY (ae 5)) ak)))))))
 av)))
 (aq (retS (ae 2))
 av))
def fM:List PV->M PV:=bw 4 (aA 6 jw)
def iO:af->M Out :=
 (aq (jn (kK Cs (aa (aj pH (ai dH (aa (ae 1) ak)) (cI 1)) (aa (lY (cI 1)) (aa (lY (cI 1)) ak)))) (bG 2) (aq (bo 3 (aj aH (ae 1) (ae 2)))
 (aq (bo 0 (ai lp (aa (ae 0) (aa (cI 1) (aa (ae 3) (aa (lY (aj bQ (aj aH (ae 0) (ae 2)) (aj aH (ae 3) (ae 2)))) ak))))))
 av)))
 (aq (retS (ae 0))
 av))
def iT:List PV->M PV:=bw 2 (aA 4 iO)
def ja:af->M Out :=
 (aq (kU (dm (aj DX (ae 1) (ai dH (aa (ae 0) ak)))) (aq (retS (aj aH (ae 0) (ae 1)))
 av) av)
 (aq (retS (aj cQ (aj cP (aj c7 (ae 1) (cI 2)) (cI 104729)) (cI 65537)))
 av))
def i7:List PV->M PV:=bw 2 (aA 2 ja)
def fL:af->M Out :=
 (aq (bo 2 (aj cQ (aj c7 (aj c7 (aj cP (aj cQ (ae 0) (cI 2147483647)) (cI 48271)) (aj cP (cI 7919) (ae 1))) (cI 13)) (cI 2147483629)))
 (aq (bo 2 (aj cQ (aj c7 (aj c7 (aj cP (ae 2) (ae 2)) (aj cP (cI 104729) (ae 1))) (cI 7)) (cI 2147483587)))
 (aq (retS (aj cQ (aj cP (ae 2) (ae 2)) (cI 2147483579)))
 av)))
def bV:List PV->M PV:=bw 2 (aA 3 fL)
def eQ:af->M Out :=
 (aq (tH 2 (ph ak))
 (aq (jn (itemsOf (ae 1)) (bG 3) (aq (oo 2 (aj cQ (ae 0) (ae 3)))
 (aq (bo 0 (aj bQ (ae 0) (ae 3)))
 av)))
 (aq (vj [2] (retS (ai cA (aa (ae 2) ak))))
 av)))
def dC:List PV->M PV:=bw 2 (aA 4 eQ)
def hV:af->M Out :=
 (aq (kU (dm (aj sW (aj cQ (ae 0) (cI 2)) (cI 0))) (aq (retS (bZ (bR (itemsOf (ai dC (aa (aj bQ (ae 0) (cI 6)) (aa (aj cP (mq (aa (cI 4) ak)) (aj c7 (cI 1) (aj cQ (aj bQ (ae 0) (cI 2)) (cI 3)))) ak)))) (bG 0) none (aj c7 (cI 2) (ae 0)) 1 [])))
 av) av)
 (aq (retS (bZ (bR (kK oy (aa (aj c7 (cI 1) (aj cQ (aj bQ (ae 0) (cI 2)) (cI 3))) ak)) (bG 0) none (aj c7 (cI 2) (aj cQ (ai bV (aa (aj bQ (ae 1) (cI 6)) (aa (ae 0) ak))) (cI 4))) 1 [0])))
 av))
def h_:List PV->M PV:=bw 1 (aA 1 hV)
def ip:af->M Out :=
 (aq (kU (dm (aj sW (aj cQ (ae 0) (cI 2)) (cI 0))) (aq (retS (ai dC (aa (aj bQ (ae 0) (cI 2)) (aa (ae 1) ak))))
 av) av)
 (aq (retS (ai cA (aa (bZ (bR (kK F_ (aa (ae 1) ak)) (cC 0 1) none (aj cQ (aj bQ (aj cQ (ai bV (aa (aj bQ (ae 2) (cI 2)) (aa (ae 0) ak))) (aj cP (cI 2) (ae 1))) (cI 2)) (ae 1)) 2 [0])) ak)))
 av))
def eh:List PV->M PV:=bw 2 (aA 2 ip)
def f9:af->M Out :=
 (aq (Ly 2 (ai cA (aa (aj cP (mq (aa (cI 0) ak)) (ai dH (aa (ae 0) ak))) ak)) (λ_=>M.ok (.bl true)))
 (aq (tH 3 (zG 2))
 (aq (bo 4 (cI 0))
 (aq (mG (pd 3 (dm (aj DX (ae 4) (ai dH (aa (ae 3) ak))))) (aq (jn (itemsOf (ae 1)) (bG 5) (aq (bo 6 (kY 3 (ai cA (aa (bZ (bR (kK yh (aa (aj aH (ae 3) (ae 4)) (aa (ae 5) (aa (ae 0) ak)))) (ma 0 1 2) none (aj cQ (aj c7 (ae 0) (ae 1)) (ae 2)) 3 [])) ak))))
 (aq (kU (dm (Nk true 2 (ae 6))) (aq (wZ 2 (ae 6) (λ_=>M.ok (.bl true)))
 (aq (oo 3 (ae 6))
 av)) av)
 av)))
 (aq (bo 4 (aj c7 (ae 4) (cI 1)))
 av)))
 (aq (MK 2 (retS (ae 2)))
 av)))))
def dy:List PV->M PV:=bw 2 (aA 7 f9)
def iz:af->M Out :=
 (aq (tH 2 (ph ak))
 (aq (jn (kK oy (aa (ai dH (aa (ae 0) ak)) ak)) (bG 3) (aq (bo 4 (bZ (bR (anyOf (ae 1)) (bG 0) (some (vZ (dm (aj Jd (aj aH (ae 0) (ae 1)) (cI 0))) (dm (aj sW (ai sx (aa (oX (ae 0) Gs (mi (ae 1))) ak)) (aj cP (mq (aa (cI 0) ak)) (ae 1)))))) (ae 0) 1 [3])))
 (aq (kU (dm (aj n8 (ae 4) (mq ak))) (aq (oo 2 (ai wV (aa (ae 4) ak)))
 av) av)
 av)))
 (aq (vj [2] (retS (ai cA (aa (ae 2) ak))))
 av)))
def fu:List PV->M PV:=bw 2 (aA 5 iz)
def jb:af->M Out :=
 (aq (newD 3)
 (aq (jn (keysOf (ae 1)) (bG 4) (aq (jn (keysOf (ae 2)) (bG 5) (aq (wZ 3 (ai cA (aa (bZ (bR (kK yh (aa (ae 4) (aa (ae 5) (aa (ae 0) ak)))) (ma 0 1 2) none (aj cQ (aj c7 (ae 0) (ae 1)) (ae 2)) 3 [])) ak)) (λ_=>M.ok (.bl true)))
 av))
 av))
 (aq (MK 3 (retS (ae 3)))
 av)))
def gE:List PV->M PV:=bw 3 (aA 6 jb)
def ki:af->M Out :=
 (aq (bo 3 (aj cP (mq (aa (cI 0) ak)) (ai dH (aa (ae 0) ak))))
 (aq (jn (kK zip2 (aa (ae 2) (aa (ae 1) ak))) (cC 4 5) (aq (bo 3 (bZ (bR (kK yh (aa (ae 3) (aa (ae 5) (aa (ae 0) ak)))) (ma 0 1 2) none (aj cQ (aj c7 (ae 0) (aj cP (ae 3) (ae 1))) (ae 2)) 3 [4])))
 av))
 (aq (retS (ai cA (aa (ae 3) ak)))
 av)))
def fY:List PV->M PV:=bw 3 (aA 6 ki)
def gk:af->M Out :=
 (aq (kU (Aw (gX (dm (zY (λa=>oA a "tuple") tD tD (ae 0)))) (dm (aj n8 (ai dH (aa (ae 0) ak)) (ai dH (aa (ae 1) ak))))) (aq (retS (λ_=>M.ok (.bl false)))
 av) av)
 (aq (jn (kK zip2 (aa (ae 0) (aa (ae 1) ak))) (cC 2 3) (aq (kU (gX (dm (kf F6 DX (cI 0) (ae 2) (ae 3)))) (aq (retS (λ_=>M.ok (.bl false)))
 av) av)
 av))
 (aq (retS (λ_=>M.ok (.bl true)))
 av)))
def dz:List PV->M PV:=bw 2 (aA 4 gk)
def kd:af->M Out :=
 (aq (kO (ai gZ (aa (ae 1) ak)))
 (aq (kO (ai f_ (aa (ae 2) (aa (ai dH (aa (ae 1) ak)) ak))))
 (aq (mI 0 ao "dial_sizes" (ai cA (aa (ae 1) ak)))
 (aq (mI 0 ao "lever_settings" (ai cA (aa (bZ (bR (itemsOf (ae 2)) (bG 0) none (ai lK (aa (ae 0) (aa (ae 1) ak))) 1 [1])) ak)))
 (aq (mI 0 ao "lever_prices" (ai de (aa (ae 2) (aa (ae 3) ak))))
 (aq (mI 0 ao "least_round" (ai gm (aa (ae 1) ak)))
 av))))))
def bM:Addr->List PV->M (List (Str×PV)):=wI 4 (Be 4 kd ao)
def aZ:af->M Out :=
 (aq (retS (eG (λc=>c==ao) "dial_sizes" (ae 0)))
 av)
def aP:List PV->M PV:=bw 1 (aA 1 aZ)
def bq:af->M Out :=
 (aq (retS (eG (λc=>c==ao) "lever_settings" (ae 0)))
 av)
def aS:List PV->M PV:=bw 1 (aA 1 bq)
def e8:af->M Out :=
 (aq (retS (eG (λc=>c==ao) "lever_prices" (ae 0)))
 av)
def dN:List PV->M PV:=bw 1 (aA 1 e8)
def dI:af->M Out :=
 (aq (retS (eG (λc=>c==ao) "least_round" (ae 0)))
 av)
def cW:List PV->M PV:=bw 1 (aA 1 dI)
def gj:af->M Out :=
 (aq (bo 1 (bc ao "sizes" aP (eG (λc=>c==az) "vault" (ae 0)) ak))
 (aq (retS (ai cA (aa (bZ (bR (kK oy (aa (ai dH (aa (ae 1) ak)) ak)) (bG 0) none (ai dM (aa (ae 2) (aa (eG (λc=>c==az) "made_rows" (ae 1)) (aa (ae 0) ak)))) 1 [0,1])) ak)))
 av))
def gB:List PV->M PV:=bw 1 (aA 2 gj)
def iq:af->M Out :=
 (aq (retS (bZ (bR (itemsOf (eG (λc=>c==az) "made_rows" (ae 0))) (bG 0) none (aj aH (ae 0) (cI 0)) 1 [])))
 av)
def hZ:List PV->M PV:=bw 1 (aA 1 iq)
def gb:af->M Out :=
 (aq (retS (ai cA (aa (bZ (bR (kK F_ (aa (eG (λc=>c==az) "idle_rows" (ae 0)) ak)) (cC 0 1) none (aj aH (ae 1) (ae 0)) 2 [])) ak)))
 av)
def eP:List PV->M PV:=bw 1 (aA 1 gb)
def jx:af->M Out :=
 (aq (retS (aj cP (kG (aa (cI 0) ak)) (ai dH (aa (bc ao "sizes" aP (ae 0) ak) ak))))
 av)
def iI:List PV->M PV:=bw 1 (aA 1 jx)
def iw:af->M Out :=
 (aq (bo 2 (bc ao "sizes" aP (ae 0) ak))
 (aq (kU (Aw (gX (dm (zY (λa=>oA a "tuple") tD tD (ae 1)))) (gX (dm (ai gF (aa (ae 1) (aa (ai dH (aa (ae 2) ak)) ak)))))) (aq (retS (λ_=>M.ok (.bl false)))
 av) av)
 (aq (retS (ai yC (aa (bZ (bR (kK zip2 (aa (ae 1) (aa (ae 2) ak))) (cC 0 1) none (kf F6 DX (cI 0) (ae 0) (ae 1)) 2 [])) ak)))
 av)))
def ik:List PV->M PV:=bw 2 (aA 3 iw)
def dO:af->M Out :=
 (aq (kU (gX (dm (ai ik (aa (ae 0) (aa (ae 1) ak))))) (aq (kS dR (aa (λ_=>M.ok (.str "this is no setting of the vault")) ak))
 av) av)
 av)
def cV:List PV->M PV:=bw 2 (aA 2 dO)
def qk:af->M Out :=
 (aq (kO (ai cV (aa (ae 0) (aa (ae 1) ak))))
 (aq (kO (ai cV (aa (ae 0) (aa (ae 2) ak))))
 (aq (bo 3 (bc ao "around" cW (ae 0) ak))
 (aq (bo 4 (bZ (bR (kK zip2 (aa (ae 1) (aa (bc ao "sizes" aP (ae 0) ak) ak))) (cC 0 1) none (aj cP (ae 0) (aj bQ (ae 2) (ae 1))) 2 [3])))
 (aq (retS (ai j_ (aa (ae 4) (aa (ae 2) (aa (ae 3) ak)))))
 av)))))
def qo:List PV->M PV:=bw 3 (aA 5 qk)
def iM:af->M Out :=
 (aq (retS (kG (aa (ae 1) (aa (aj cP (kG (aa (cI 0) ak)) (ai dH (aa (bc ao "levers" aS (ae 0) ak) ak))) ak))))
 av)
def fS:List PV->M PV:=bw 2 (aA 2 iM)
def gi:af->M Out :=
 (aq (bo 2 (bc ao "levers" aS (ae 0) ak))
 (aq (retS (kG (aa (aj aH (ae 2) (ae 1)) (aa (ai jN (aa (ai dH (aa (ae 2) ak)) (aa (ae 1) ak))) ak))))
 av))
def f7:List PV->M PV:=bw 2 (aA 3 gi)
def iu:af->M Out :=
 (aq (kU (Aw (dm (aj n8 (bc ao "sizes" aP (ae 0) ak) (ai cA (aa (ae 1) ak)))) (dm (aj n8 (bc ao "prices" dN (ae 0) ak) (aj cP (kG (aa (cI 1) ak)) (ai dH (aa (ae 2) ak)))))) (aq (retS (λ_=>M.ok (.bl false)))
 av) av)
 (aq (retS (aj sW (bc ao "levers" aS (ae 0) ak) (ae 2)))
 av))
def dh:List PV->M PV:=bw 3 (aA 3 iu)
def jX:af->M Out :=
 (aq (bo 2 (bc ao "sizes" aP (ae 1) ak))
 (aq (bo 3 (bZ (bR (itemsOf (ae 2)) (bG 0) none (ai fS (aa (ae 1) (aa (ai iI (aa (ae 1) ak)) ak))) 1 [1])))
 (aq (tH 4 (ph ak))
 (aq (jn (kK oy (aa (ai dH (aa (bc ao "levers" aS (ae 1) ak) ak)) ak)) (bG 5) (aq (bo 6 (ai jL (aa (ae 2) (aa (ae 3) (aa (ai f7 (aa (ae 1) (aa (ae 5) ak))) ak)))))
 (aq (bo 3 (aj aH (ae 6) (cI 0)))
 (aq (oo 4 (kY 4 (ai iT (aa (aj aH (ae 6) (cI 1)) (aa (ae 4) ak)))))
 av))))
 (aq (mI 0 az "vault" (ae 1))
 (aq (mI 0 az "made_rows" (bZ (bR (kK F_ (aa (ae 3) ak)) (cC 0 1) none (ai fM (aa (ae 2) (aa (ae 3) (aa (ae 1) (aa (aj c7 (ae 0) (cI 1)) ak))))) 2 [2,3])))
 (aq (vj [4] (mI 0 az "idle_rows" (ae 4)))
 av)))))))
def cR:Addr->List PV->M (List (Str×PV)):=wI 2 (Be 7 jX az)
def cD:af->M Out :=
 (aq (kO (ai cV (aa (eG (λc=>c==az) "vault" (ae 0)) (aa (ae 1) ak))))
 (aq (retS (ai fM (aa (bc ao "sizes" aP (eG (λc=>c==az) "vault" (ae 0)) ak) (aa (eG (λc=>c==az) "made_rows" (ae 0)) (aa (ai fS (aa (eG (λc=>c==az) "vault" (ae 0)) (aa (ae 1) ak))) (aa (cI 0) ak))))))
 av))
def bS:List PV->M PV:=bw 2 (aA 2 cD)
def dZ:af->M Out :=
 (aq (bo 2 (bc az "brought_down" bS (ae 0) (aa (ae 1) ak)))
 (aq (kU (dm (aj n8 (aj aH (ae 2) (cI 0)) (ai iI (aa (eG (λc=>c==az) "vault" (ae 0)) ak)))) (aq (retS (λ_=>M.ok .c6))
 av) av)
 (aq (retS (ai iT (aa (ai cA (aa (bZ (bR (itemsOf (aj aH (ae 2) (cI 1))) (bG 0) none (lY (ae 0)) 1 [])) ak)) (aa (eG (λc=>c==az) "idle_rows" (ae 0)) ak))))
 av)))
def bJ:List PV->M PV:=bw 2 (aA 3 dZ)
def dc:af->M Out :=
 (aq (bo 2 (bc ao "sizes" aP (eG (λc=>c==az) "vault" (ae 0)) ak))
 (aq (kU (gX (dm (ai dP (aa (ae 1) (aa (cI 0) (aa (aj pH (ai dH (aa (ae 2) ak)) (cI 1)) ak)))))) (aq (kh du "dial" (aa (ae 1) ak))
 av) av)
 (aq (bo 3 (bZ (bR (kK zip2 (aa (ae 2) (aa (bc az "steps" gB (ae 0) ak) ak))) (cC 0 1) none (aj bQ (ae 0) (ae 1)) 2 [])))
 (aq (tH 4 (Mv (mq (aa (cI 0) ak)) (ai dH (aa (ae 2) ak))))
 (aq (JD 4 (ae 1) (aj cQ (aj aH (ae 3) (ae 1)) (aj aH (ae 2) (ae 1))))
 (aq (jn (kK Cs (aa (aj pH (ae 1) (cI 1)) (aa (lY (cI 1)) (aa (lY (cI 1)) ak)))) (bG 5) (aq (bo 6 (kY 4 (ai qo (aa (eG (λc=>c==az) "vault" (ae 0)) (aa (ai cA (aa (ae 4) ak)) (aa (aj aH (aj aH (eG (λc=>c==az) "made_rows" (ae 0)) (ae 5)) (cI 0)) ak))))))
 (aq (bo 7 (aj bQ (bc ao "around" cW (eG (λc=>c==az) "vault" (ae 0)) ak) (aj aH (ae 3) (ae 5))))
 (aq (JD 4 (ae 5) (aj cQ (lY (aj bQ (ae 6) (ae 7))) (aj aH (ae 3) (ae 5))))
 av))))
 (aq (vj [4] (retS (ai cA (aa (ae 4) ak))))
 av)))))))
def bH:List PV->M PV:=bw 2 (aA 8 dc)
def mS:af->M Out :=
 (aq (bo 1 (ai iI (aa (ae 0) ak)))
 (aq (retS (ai (cU ao bM [.c6]) (aa (bc ao "sizes" aP (ae 0) ak) (aa (bZ (bR (itemsOf (bc az "rows" hZ (ai (cU az cR []) (aa (ae 0) ak)) ak)) (bG 0) (some (dm (aj n8 (ae 0) (ae 1)))) (ae 0) 1 [1])) ak))))
 av))
def lM:List PV->M PV:=bw 1 (aA 2 mS)
def j3:af->M Out :=
 (aq (bo 2 (ai (cU ao bM [.c6]) (aa (ae 0) (aa (mq ak) ak))))
 (aq (jn (itemsOf (ae 1)) (bG 3) (aq (bo 2 (ai lM (aa (ai (cU ao bM [.c6]) (aa (ae 0) (aa (aj c7 (ai sx (aa (bc ao "levers" aS (ae 2) ak) ak)) (mq (aa (ae 3) ak))) ak))) ak)))
 av))
 (aq (retS (ae 2))
 av)))
def iN:List PV->M PV:=bw 2 (aA 4 j3)
def mT:af->M Out :=
 (aq (bo 1 (ai (cU az cR []) (aa (ae 0) ak)))
 (aq (bo 2 (bc ao "sizes" aP (ae 0) ak))
 (aq (retS (ai lM (aa (ai (cU ao bM [.c6]) (aa (ae 2) (aa (bZ (bR (kK oy (aa (ai dH (aa (ae 2) ak)) ak)) (bG 0) none (bc az "weights_at" bH (ae 1) (aa (ae 0) ak)) 1 [1])) ak))) ak)))
 av)))
def iQ:List PV->M PV:=bw 1 (aA 3 mT)
def eS:af->M Out :=
 (aq (kO (ai bT (aa (bc ao "sizes" aP (ae 0) ak) (aa (bc ao "sizes" aP (ae 1) ak) ak))))
 (aq (retS (ai iN (aa (bc ao "sizes" aP (ae 0) ak) (aa (aj c7 (bc ao "levers" aS (ae 0) ak) (bc ao "levers" aS (ae 1) ak)) ak))))
 av))
def cx:List PV->M PV:=bw 2 (aA 2 eS)
def mr:af->M Out :=
 (aq (retS (ai iQ (aa (ai cx (aa (ai iQ (aa (ae 0) ak)) (aa (ai iQ (aa (ae 1) ak)) ak))) ak)))
 av)
def gO:List PV->M PV:=bw 2 (aA 2 mr)
def eX:af->M Out :=
 (aq (bo 2 (bc ao "levers" aS (ai gO (aa (ae 0) (aa (ae 1) ak))) ak))
 (aq (bo 3 (ai (cU az cR []) (aa (ae 0) ak)))
 (aq (bo 4 (ai (cU az cR []) (aa (ae 1) ak)))
 (aq (retS (bZ (bR (itemsOf (ae 2)) (bG 0) none (kG (aa (ae 0) (aa (bc az "pulls_to" bJ (ae 1) (aa (ae 0) ak)) (aa (bc az "pulls_to" bJ (ae 2) (aa (ae 0) ak)) ak)))) 1 [3,4])))
 av))))
def c9:List PV->M PV:=bw 2 (aA 5 eX)
def i_:af->M Out :=
 (aq (bo 4 (ai c9 (aa (ae 0) (aa (ae 1) ak))))
 (aq (kU (Aw (gX (dm (zY (λa=>oA a "list") tD tD (ae 4)))) (dm (aj n8 (bZ (bR (itemsOf (ae 4)) (bG 0) none (aj aH (ae 0) (cI 0)) 1 [])) (ai sx (aa (ae 3) ak))))) (aq (retS (λ_=>M.ok (.bl false)))
 av) av)
 (aq (bo 5 (mq (aa (bc az "spans" eP (ai (cU az cR []) (aa (ae 0) ak)) ak) (aa (bc az "spans" eP (ai (cU az cR []) (aa (ae 1) ak)) ak) ak))))
 (aq (jn (itemsOf (ae 4)) (bG 6) (aq (kU (Aw (gX (dm (zY (λa=>oA a "tuple") tD tD (ae 6)))) (dm (aj n8 (ai dH (aa (ae 6) ak)) (cI 3)))) (aq (retS (λ_=>M.ok (.bl false)))
 av) av)
 (aq (kU (Aw (gX (dm (ai dz (aa (aj aH (ae 6) (cI 1)) (aa (aj aH (ae 5) (cI 0)) ak))))) (gX (dm (ai dz (aa (aj aH (ae 6) (cI 2)) (aa (aj aH (ae 5) (cI 1)) ak)))))) (aq (retS (λ_=>M.ok (.bl false)))
 av) av)
 (aq (kU (Aw (dm (aj n8 (ai fY (aa (ae 2) (aa (bc ao "levers" aS (ae 0) ak) (aa (aj aH (ae 6) (cI 1)) ak)))) (aj aH (ae 6) (cI 0)))) (dm (aj n8 (ai fY (aa (ae 2) (aa (bc ao "levers" aS (ae 1) ak) (aa (aj aH (ae 6) (cI 2)) ak)))) (aj aH (ae 6) (cI 0))))) (aq (retS (λ_=>M.ok (.bl false)))
 av) av)
 av))))
 (aq (retS (λ_=>M.ok (.bl true)))
 av)))))
def iY:List PV->M PV:=bw 4 (aA 7 i_)
def fm:af->M Out :=
 (aq (bo 3 (λ_=>M.ok .c6))
 (aq (G2 (kO (yO [(cN,cx),(jm,gO),(cu,c9)] (ae 0) (aa (ae 1) (aa (ae 2) ak)))) [(sX gq gz,some 4,(aq (bo 3 (ae 4))
 av))])
 (aq (retS (Cf (zY (λ_=>false) (sX lC lB) (sX iB iD) (ae 3)) (Cf (Ms OQ (ae 3)) (GI (zY (λ_=>false) (sX kc jO) (sX fH fO) (ae 3))))))
 av)))
def cy:List PV->M PV:=bw 3 (aA 5 fm)
def gg:af->M Out :=
 (aq (bo 3 (aj cQ (aj bQ (ae 1) (cI 8)) (ai dH (aa (ae 2) ak))))
 (aq (tH 4 (AF (ae 2)))
 (aq (JD 4 (ae 3) (kY 4 (aj c7 (cI 2) (aj cQ (aj c7 (aj aH (ae 4) (ae 3)) (aj cQ (aj bQ (ae 1) (cI 8)) (cI 3))) (cI 4)))))
 (aq (kU (pd 4 (dm (aj sW (aj aH (ae 4) (ae 3)) (aj aH (ae 2) (ae 3))))) (aq (oo 4 (cI 2))
 av) av)
 (aq (vj [4] (bo 5 (ai (cU ao bM [.c6]) (aa (ae 4) (aa (mq ak) ak)))))
 (aq (jn (itemsOf (mq (aa (λ_=>M.ok (.fn cN)) (aa (λ_=>M.ok (.fn jm)) (aa (λ_=>M.ok (.fn cu)) ak))))) (bG 6) (aq (kU (Aw (gX (dm (ai cy (aa (ae 6) (aa (ae 0) (aa (ae 5) ak)))))) (gX (dm (ai cy (aa (ae 6) (aa (ae 5) (aa (ae 0) ak))))))) (aq (retS (λ_=>M.ok (.bl false)))
 av) av)
 av))
 (aq (retS (λ_=>M.ok (.bl true)))
 av)))))))
def gA:List PV->M PV:=bw 3 (aA 7 gg)
def Fg:af->M Out :=
 (aq (bo 1 (ai i7 (aa (ae 0) (aa (cI 0) ak))))
 (aq (bo 2 (ai h_ (aa (ae 1) ak)))
 (KA 3 5 4 (itemsOf (oX (ae 0) (mi (cI 1)) (mi (cI 17)))) (aj cQ (aj bQ (ae 4) (cI 9)) (cI 2)) (ai eh (aa (aj bQ (ae 4) (cI 18)) (aa (ae 2) ak)))
 (aq (bo 6 (ai (cU ao bM []) (aa (ae 2) (aa (aj aH (ae 3) (cI 0)) (aa (bZ (bR (kK oy (aa (ai dH (aa (aj aH (ae 3) (cI 0)) ak)) ak)) (bG 0) none (aj c7 (cI 1) (aj cQ (ai bV (aa (ae 1) (aa (aj c7 (cI 90) (ae 0)) ak))) (cI 1000))) 1 [1])) ak)))))
 (aq (bo 7 (ai (cU ao bM []) (aa (ae 2) (aa (aj aH (ae 3) (cI 1)) (aa (bZ (bR (kK oy (aa (ai dH (aa (aj aH (ae 3) (cI 1)) ak)) ak)) (bG 0) none (aj c7 (cI 2) (ae 0)) 1 [])) ak)))))
 (aq (bo 8 (ai dy (aa (ae 2) (aa (aj aH (ae 3) (cI 0)) ak))))
 (aq (bo 9 (ai dy (aa (ae 2) (aa (aj aH (ae 3) (cI 1)) ak))))
 (aq (bo 10 (ai fu (aa (ae 2) (aa (bZ (bR (keysOf (ae 8)) (bG 0) (some (dm (aj (Gh false) (ae 0) (ae 1)))) (ae 0) 1 [9])) ak))))
 (aq (bo 11 (ai fu (aa (ae 2) (aa (ai gE (aa (ae 2) (aa (ae 8) (aa (ae 9) ak)))) ak))))
 (aq (kU (Aw (gX (dm (ai dh (aa (ai gO (aa (ae 6) (aa (ae 7) ak))) (aa (ae 2) (aa (ae 10) ak)))))) (gX (dm (ai dh (aa (ai gO (aa (ae 7) (aa (ae 6) ak))) (aa (ae 2) (aa (ae 10) ak))))))) (aq (retS (λ_=>M.ok (.bl false)))
 av) av)
 (aq (kU (Aw (gX (dm (ai dh (aa (ai cx (aa (ae 6) (aa (ae 7) ak))) (aa (ae 2) (aa (ae 11) ak)))))) (gX (dm (ai dh (aa (ai cx (aa (ae 7) (aa (ae 6) ak))) (aa (ae 2) (aa (ae 11) ak))))))) (aq (retS (λ_=>M.ok (.bl false)))
 av) av)
 (aq (kU (vZ (dm (aj sW (aj cQ (ae 1) (cI 4)) (cI 1))) (gX (dm (ai gA (aa (ae 6) (aa (ae 1) (aa (ae 2) ak))))))) (aq (retS (λ_=>M.ok (.bl false)))
 av) av)
 (aq (retS (ai iY (aa (ae 6) (aa (ae 7) (aa (ae 2) (aa (ae 10) ak))))))
 av)))))))))))))
def uS:List PV->M PV:=bw 1 (aA 12 Fg)
end yF
namespace yF
open PySem L2 PyProof.Rows
local macro_rules|`(tactic| walk_at "s")=>`(tactic| exact⟨rfl,rfl,rfl,by decide +kernel,rfl,by decide +kernel,by decide +kernel⟩)
local macro_rules|`(tactic| walk_at "l")=>`(tactic| first|exact .inl rfl|exact .inr rfl)
local macro_rules|`(tactic| walk_at "pp")=>do
 let mut st:Array (Array Lean.Term):=#[#[]]
 for k in "( lA _ _ ( tS _ ( aq _ _ ) ) ) ( Dp 0 0 ) ( lA _ _ ( tS _ av ) ) ( HZ ) ( PE _ _ ( tE _ ( ae _ ) ) ) ( vr _ ) ( PA _ _ ( tL _ ( aa _ _ ) ) ) ( Hy 0 0 ( ND rfl ) ) ( PA _ _ ( tL _ ak ) ) ( JO ) ( PE _ _ ( tE _ ( aj c7 _ _ ) ) ) ( rB HC KN 0 0 ) ( PE _ _ ( tE _ ( aj pH _ _ ) ) ) ( rB K_ J2 0 0 ) ( PE _ _ ( tE _ ( aj cP _ _ ) ) ) ( rB IF Kd 0 0 ) ( PE _ _ ( tE _ ( aj bQ _ _ ) ) ) ( rB DM Dy 0 0 ) ( PE _ _ ( tE _ ( aj cQ _ _ ) ) ) ( rB Il Hu 0 0 ) ( PE _ _ ( tE _ ( aj aH _ _ ) ) ) ( J4 0 0 0 ) ( PT _ _ ( tT _ ( dm ( aj sW _ _ ) ) ) ) ( k4 ( Fe ( cp.units 1 ) ) Ju 0 0 ( eT _ ) ) ( PE _ _ ( tE _ ( aj sW _ _ ) ) ) ( my ( Fe ( cp.units 1 ) ) Ju 0 0 ( eT _ ) ) ( PT _ _ ( tT _ ( dm ( aj n8 _ _ ) ) ) ) ( k4 ( CT ( cp.units 1 ) ) JF 0 0 ( eT _ ) ) ( PE _ _ ( tE _ ( aj n8 _ _ ) ) ) ( my ( CT ( cp.units 1 ) ) JF 0 0 ( eT _ ) ) ( PT _ _ ( tT _ ( dm ( aj DX _ _ ) ) ) ) ( k4 w6 wb 0 0 ( eT _ ) ) ( PE _ _ ( tE _ ( aj DX _ _ ) ) ) ( my w6 wb 0 0 ( eT _ ) ) ( PT _ _ ( tT _ ( dm ( aj F6 _ _ ) ) ) ) ( k4 uU oR 0 0 ( eT _ ) ) ( PE _ _ ( tE _ ( aj F6 _ _ ) ) ) ( my uU oR 0 0 ( eT _ ) ) ( PT _ _ ( tT _ ( dm ( aj Jd _ _ ) ) ) ) ( k4 JH Fi 0 0 ( eT _ ) ) ( PE _ _ ( tE _ ( aj Jd _ _ ) ) ) ( my JH Fi 0 0 ( eT _ ) ) ( PT _ _ ( tT _ ( dm ( aj MS _ _ ) ) ) ) ( k4 IZ CV 0 0 ( eT _ ) ) ( PE _ _ ( tE _ ( aj MS _ _ ) ) ) ( my IZ CV 0 0 ( eT _ ) ) ( PT _ _ ( tT _ ( dm ( aj zF _ _ ) ) ) ) ( k4 FR Ea 0 0 ( eT _ ) ) ( PE _ _ ( tE _ ( aj zF _ _ ) ) ) ( my FR Ea 0 0 ( eT _ ) ) ( PT _ _ ( tT _ ( gX _ ) ) ) ( Mp 0 ) ( PT _ _ ( tT _ ( dm ( ai _ _ ) ) ) ) ( wD 0 ) ( PT _ _ ( tT _ ( dm ( zY _ _ _ _ ) ) ) ) ( wD 0 ) ( PT _ _ ( tT _ ( dm ( bc _ _ _ _ _ ) ) ) ) ( wD 0 ) ( PT _ _ ( tT _ ( dm ( ae _ ) ) ) ) ( wD 0 ) ( PS _ _ ( tS _ ( retS _ ) ) ) ( KH 0 ) ( PS _ _ ( tS _ ( bo _ _ ) ) ) ( K4 1 rfl 4 0 ) ( PS _ _ ( tS _ ( kU _ _ _ ) ) ) ( NI 0 0 0 ) ( PS _ _ ( tS _ ( oo _ _ ) ) ) ( BR rfl 5 0 ) ( PS _ _ ( tS _ ( tH _ _ ) ) ) ( IH 1 rfl 4 0 ) ( PE _ _ ( tO _ ( ph _ ) ) ) ( Mo 0 ) ( PS _ _ ( tS _ ( vj _ _ ) ) ) ( LD _ 0 ) ( PS _ _ ( tS _ ( kO _ ) ) ) ( GX 0 ) ( PS _ _ ( tS _ ( kS _ _ ) ) ) ( Bu.raise 1 1 rfl 2 0 ) ( PS _ _ ( tS _ ( kh _ _ _ ) ) ) ( tV.raise 1 1 3 1 rfl 2 0 ) ( PE _ _ ( tE _ ( kG _ ) ) ) ( K3 0 ) ( PE _ _ ( tE _ ( mq _ ) ) ) ( Le 0 ) ( PE _ _ ( tE _ ( lY _ ) ) ) ( Mf 0 ) ( PE _ _ ( tE _ ( CF _ _ _ ) ) ) ( LG 0 0 0 ) ( PE _ _ ( tE _ ( eG _ _ _ ) ) ) ( L5 0 1 rfl ) ( PE _ _ ( tE _ ( ai dH _ ) ) ) ( lh uO Ks 2 1 PySem.boot_len 0 ) ( PE _ _ ( tE _ ( ai cA _ ) ) ) ( uQ sZ EW 2 1 kM 0 ) ( PE _ _ ( tE _ ( ai sx _ ) ) ) ( uQ nJ IK 2 1 nP 0 ) ( PE _ _ ( tE _ ( ai Cj _ ) ) ) ( lh ( BK rfl ) J5 2 1 Kx 0 ) ( PE _ _ ( tE _ ( ai yC _ ) ) ) ( lh ( B8 rfl ) Kl 2 1 Mu 0 ) ( PE _ _ ( tE _ ( ai ( cU _ _ _ ) _ ) ) ) ( z6.make 1 1 3 2 6 0 ) ( PE _ _ ( tE _ ( ai _ _ ) ) ) ( dG.call 1 1 3 2 6 0 ) ( PE _ _ ( tE _ ( bc _ _ _ _ ak ) ) ) ( lj.NF 1 1 3 6 0 ) ( PE _ _ ( tE _ ( bc _ _ _ _ _ ) ) ) ( lj.call 1 1 3 6 0 0 )".splitOn " " do
  if k=="(" then st:=st.push #[]
  else
   let t:Lean.Term<-if k==")" then do
     let a:=st.back!
     st:=st.pop
     if a.size==1 then pure a[0]! else `($(a[0]!) $(a.extract 1 a.size)*)
    else if k=="_" then `(_) else if k=="0" then `(?_) else if k=="1" then `(by assumption) else if k=="2" then `(by rfl) else if k=="3" then `(by lia) else if k=="4" then `(by walk_at "l") else if k=="5" then `(by first|exact .inl rfl|exact .inr (.inl rfl)) else if k=="6" then `(by first|assumption|exact AW) else pure (Lean.mkIdent k.toName)
   st:=st.modify (st.size-1) (·.push t)
 let a:=st[0]!
 let mut c:Array (Lean.TSyntax `Lean.Parser.Tactic.tacticSeq):=#[]
 for i in [0:a.size/2] do c:=c.push (<-`(tacticSeq|((with_reducible show $(a[2*i]!));refine $(a[2*i+1]!))))
 `(tactic|all_goals repeat' (first $[|$c]*|((with_reducible show PE _ _ (tE _ (λ_=>M.ok (.int _))));first|exact LV|exact lr (NT (by rfl) (by assumption)) λ_=>.int _)|((with_reducible show PE _ _ (tE _ (λ_=>M.ok (.bl _))));exact N_)|((with_reducible show PE _ _ (tE _ (λ_=>M.ok .c6)));exact Ka)|((with_reducible show PE _ _ (tE _ (λ_=>M.ok (.str _))));exact JQ)|((with_reducible show wo _);exact λ_ _=>rfl)))
def top(i:Nat):Stmt:=PySem.Challenge.pw_dialvault_k51_whole_both_and_together.main.body.getD i (.Pass ⟨0,0,0,0⟩)
structure Txt (K:VU) (mg:Str->Option Value):Prop where
 nM:mg "ValueError"=none
 Oj:mg "all"=none
 Fu:mg "bool"=none
 dY:mg "enumerate"=none
 Jz:mg "int"=none
 bL:mg "isinstance"=none
 Jr:mg "len"=none
 rW:mg "list"=none
 I0:mg "max"=none
 Jp:mg "min"=none
 d_:mg "range"=none
 Ni:mg "sum"=none
 nO:mg "tuple"=none
 kr:mg "zip"=none
 s_:∃u,mg "LEAST_PRICE"=some u/\RelV (.int 1) u
 vE:∃u,mg "LEAST_SIZE"=some u/\RelV (.int 2) u
 wm:∃u,mg "MOST_DIALS"=some u/\RelV (.int 6) u
 tW:∃u,mg "MOST_LEVERS"=some u/\RelV (.int 8) u
 vD:∃u,mg "MOST_PRICE"=some u/\RelV (.int 1000) u
 xP:∃u,mg "MOST_SIZE"=some u/\RelV (.int 360) u
 ql:oh K az
 nX:oh K ao
 xp:Bu K mg dR "NoSetting"
 BI:Bu K mg cB "TooMany"
 EC:Bu K mg bg "Unlike"
 jP:Py K mg "VaultError" nu gq gz
 ub:MN K mg "TooMany" cB fH fO kc jO
 xR:MN K mg "Unlike" bg iB iD lC lB
 zZ:mg "both"=some (.ref jm)
 k_:mg "both_ways"=some (.ref cu)
 mL:mg "together"=some (.ref cN)
 Qk:∀C∈OQ,gG K C/\Wr K (.ref C) (.type "ValueError")=some true
 iZ:cq K az "idle_rows"
 je:cq K az "made_rows"
 lZ:cq K az "vault"
 iP:cq K ao "dial_sizes"
 gT:cq K ao "least_round"
 gJ:cq K ao "lever_prices"
 fq:cq K ao "lever_settings"
 wj:∀C,(C==ao)=true->oh K C/\cq K C "dial_sizes"
 yi:∀C,(C==az)=true->oh K C/\cq K C "idle_rows"
 tU:∀C,(C==ao)=true->oh K C/\cq K C "least_round"
 sd:∀C,(C==ao)=true->oh K C/\cq K C "lever_prices"
 oI:∀C,(C==ao)=true->oh K C/\cq K C "lever_settings"
 xS:∀C,(C==az)=true->oh K C/\cq K C "made_rows"
 IT:∀C,(C==az)=true->oh K C/\cq K C "vault"
local macro_rules|`(tactic| walk_at "t")=>`(tactic| (have z:=‹Txt _ _›;cases z))
variable{P:Program}{w:World}{K:VU}{mg:Str->Option Value}{base:Heap}{f:Addr}{fd:FuncData}{dv:Value}
def xt(F:bj K "is_whole" "is_whole" (top 10) dv f fd)(T:Txt K mg)  : aT P w K mg base (bX P w) 1 f fd ["thing"] (dX 1 fU) :=
 F.fF ["thing"] λnd _ _ _ _ _ _ hr O=>by
 unfold jZ;walk_at "t";walk_at "pp";refine(u9 ?_ (yM ?_));walk_at "pp";refine(oz (T := "int") (by rfl) T.bL (h9 (v:=.ty "int") (by rfl) T.Jz J9 rfl) ↑12 oM oM ?_);walk_at "pp";refine(DF ?_);walk_at "pp";refine(oz (T := "bool") (by rfl) T.bL (h9 (v:=.ty "bool") (by rfl) T.Fu ID rfl) ↑12 oM oM ?_);walk_at "pp"
def xv:((["number"]:List Str)++([]:List Str)).Nodup:=by decide +kernel
def Bx(F:bj K "is_row" "is_row" (top 11) dv f fd)(T:Txt K mg)(RQ:dG P w K mg base 1 "is_whole" 1 (aA 1 jZ)):aT P w K mg base (bX P w) 2 f fd ["thing","length"] (dX 2 gF) :=
 F.fF ["thing","length"] λnd _ _ _ _ _ _ hr O=>by
 unfold kL;walk_at "t";walk_at "pp";refine(kA ?_ (gM ?_)).pt;walk_at "pp";refine(GV (Ts:=["list","tuple"]) (by rfl) T.bL (Em (cz (h9 (v:=.ty "list") (by rfl) T.rW nP rfl) (cz (h9 (v:=.ty "tuple") (by rfl) T.nO kM rfl) fw))) (fun σ H R h=>⟨by show 2<=sizeLine;decide,h⟩) ↑12 oM ?_);walk_at "pp";refine(bY (bx (g:=(aC 0)) (ts:=["number"]) (fs:=[]) (js:=[]) (cl:=[]) rfl rfl rfl rfl rfl rfl .nil .nil (eJ ?_) cT (λ_ _ _ _ _=>(aO (i:=0) xv)) (λ_=>a_) br (λ_ _ _ _ _=>?_)));walk_at "pp"
def Ck(F:bj K "common" "common" (top 12) dv f fd)(T:Txt K mg)  : aT P w K mg base (bX P w) 1 f fd ["one","other"] (dX 2 gH) :=
 F.fF ["one","other","row","behind","times","rest"] λnd _ _ _ _ _ _ hr O=>by
 unfold k9;walk_at "t";walk_at "pp";refine(yl O ?_ ?_);walk_at "pp"
def rY(F:bj K "multiple_of" "multiple_of" (top 13) dv f fd)(T:Txt K mg)(Sk:dG P w K mg base 1 "common" 2 (aA 6 k9)):aT P w K mg base (bX P w) 2 f fd ["numbers"] (dX 1 gm) :=
 F.fF ["numbers","multiple","number"] λnd _ _ _ _ _ _ hr O=>by
 unfold gc;walk_at "t";walk_at "pp";refine(cn (g:=(aC 2)) O rfl (eJ ?_) cT (aO (i:=2) nd) a_ ?_);walk_at "pp"
def tj:((["other"]:List Str)++(["place"]:List Str)).Nodup:=by decide +kernel
def w9(F:bj K "unit_row" "unit_row" (top 14) dv f fd)(T:Txt K mg)  : aT P w K mg base (bX P w) 1 f fd ["length","place"] (dX 2 jN) :=
 F.fF ["length","place"] λnd _ _ _ _ _ _ hr O=>by
 unfold jT;walk_at "t";walk_at "pp";refine(bY (bx (g:=(aC 0)) (ts:=["other"]) (fs:=["place"]) (js:=[1]) rfl rfl rfl rfl rfl rfl (.cons rfl .nil) ↑4 (eE (by rfl) T.d_ ?_) fe (λ_ _ _ _ _=>(aO (i:=0) tj)) (λ_=>a_) br (λ_ _ _ _ _=>?_)));walk_at "pp"
def l9:((["number","other"]:List Str)++([]:List Str)).Nodup:=by decide +kernel
def xF(F:bj K "rest_sum" "rest_sum" (top 15) dv f fd)(T:Txt K mg)  : aT P w K mg base (bX P w) 1 f fd ["numbers","others","by"] (dX 3 j_) :=
 F.fF ["numbers","others","by"] λnd _ _ _ _ _ _ hr O=>by
 unfold j4;walk_at "t";walk_at "pp";refine(bY (bx (g:=(jz K 2 (bC (aC 0) (bC (aC 1) jH)))) (ts:=["number","other"]) (fs:=[]) (js:=[]) (cl:=[]) rfl rfl rfl rfl rfl rfl .nil .nil (kW (by rfl) T.kr ?_) jc (λ_ _ _ _ _=>(dQ (n:=2) rfl (aJ (aO (i:=0) l9) (aJ (aO (i:=1) l9) cF)))) (λ_=>dE) dj (λ_ _ _ _ _=>?_)));walk_at "pp"
def wq(F:bj K "is_within" "is_within" (top 24) dv f fd)(T:Txt K mg)(RQ:dG P w K mg base 1 "is_whole" 1 (aA 1 jZ)):aT P w K mg base (bX P w) 2 f fd ["thing","least","most"] (dX 3 dP) :=
 F.fF ["thing","least","most"] λnd _ _ _ _ _ _ hr O=>by
 unfold eW;walk_at "t";walk_at "pp";refine(u9 ?_ (yM ?_));walk_at "pp";refine(xw uU oR uU oR ?_ ?_ ?_);walk_at "pp"
def t_(F:bj K "need_sizes" "need_sizes" (top 25) dv f fd)(T:Txt K mg)(Sr:tV P w K mg base du "NoDial" "dial")(Rp:dG P w K mg base 2 "is_within" 3 (aA 3 eW)):aT P w K mg base (bX P w) 3 f fd ["sizes"] (dX 1 gZ) :=
 F.fF ["sizes","dial","size"] λnd _ _ _ _ _ _ hr O=>by
 unfold ij;walk_at "t";walk_at "pp";refine(cn (g:=(jz K 2 (bC (aC 1) (bC (aC 2) jH)))) O rfl (o5 (by rfl) T.dY ?_) lq (dQ (n:=2) rfl (aJ (aO (i:=1) nd) (aJ (aO (i:=2) nd) cF))) dE ?_);walk_at "pp"
def mC(F:bj K "need_same_sizes" "need_same_sizes" (top 26) dv f fd)(T:Txt K mg)  : aT P w K mg base (bX P w) 1 f fd ["sizes","others"] (dX 2 bT) :=
 F.fF ["sizes","others"] λnd _ _ _ _ _ _ hr O=>by
 unfold cJ;walk_at "t";walk_at "pp"
def qN(F:bj K "need_levers" "need_levers" (top 27) dv f fd)(T:Txt K mg)(Sl:dG P w K mg base 2 "is_row" 2 (aA 2 kL))(S_:tV P w K mg base eB "NoLever" "lever"):aT P w K mg base (bX P w) 3 f fd ["levers","dials"] (dX 2 f_) :=
 F.fF ["levers","dials","place","lever"] λnd _ _ _ _ _ _ hr O=>by
 unfold f6;walk_at "t";walk_at "pp";refine(cn (g:=(jz K 2 (bC (aC 2) (bC (aC 3) jH)))) O rfl (o5 (by rfl) T.dY ?_) lq (dQ (n:=2) rfl (aJ (aO (i:=2) nd) (aJ (aO (i:=3) nd) cF))) dE ?_);walk_at "pp"
def tm(F:bj K "prices_for" "prices_for" (top 28) dv f fd)(T:Txt K mg)(Ta:tV P w K mg base dD "NoPrice" "lever")(Rp:dG P w K mg base 2 "is_within" 3 (aA 3 eW)):aT P w K mg base (bX P w) 3 f fd ["levers","prices"] (dX 2 de) :=
 F.fF ["levers","prices","place"] λnd _ _ _ _ _ _ hr O=>by
 unfold fj;walk_at "t";walk_at "pp";refine(cn (g:=(aC 2)) O rfl (eE (by rfl) T.d_ ?_) fe (aO (i:=2) nd) a_ ?_);walk_at "pp";refine(lh (BG rfl) GQ (by rfl) T.I0 Ma ?_);walk_at "pp";refine(kA ?_ (gM ?_)).pt;walk_at "pp"
def qY:((["number","size"]:List Str)++([]:List Str)).Nodup:=by decide +kernel
def DJ(F:bj K "rests" "rests" (top 29) dv f fd)(T:Txt K mg)  : aT P w K mg base (bX P w) 1 f fd ["numbers","sizes"] (dX 2 lK) :=
 F.fF ["numbers","sizes"] λnd _ _ _ _ _ _ hr O=>by
 unfold nY;walk_at "t";walk_at "pp";refine(bY (bx (g:=(jz K 2 (bC (aC 0) (bC (aC 1) jH)))) (ts:=["number","size"]) (fs:=[]) (js:=[]) (cl:=[]) rfl rfl rfl rfl rfl rfl .nil .nil (kW (by rfl) T.kr ?_) jc (λ_ _ _ _ _=>(dQ (n:=2) rfl (aJ (aO (i:=0) qY) (aJ (aO (i:=1) qY) cF)))) (λ_=>dE) dj (λ_ _ _ _ _=>?_)));walk_at "pp"
def rK:((["one","two"]:List Str)++(["times","others"]:List Str)).Nodup:=by decide +kernel
def EN(F:bj K "mixed" "mixed" (top 36) dv f fd)(T:Txt K mg)  : aT P w K mg base (bX P w) 1 f fd ["row","times","other","others"] (dX 4 lp) :=
 F.fF ["row","times","other","others"] λnd _ _ _ _ _ _ hr O=>by
 unfold ny;walk_at "t";walk_at "pp";refine(bY (bx (g:=(jz K 2 (bC (aC 0) (bC (aC 1) jH)))) (ts:=["one","two"]) (fs:=["times","others"]) (js:=[1,3]) rfl rfl rfl rfl rfl rfl (.cons rfl (.cons rfl .nil)) (.cons rfl rfl ↑9 rfl rfl ↑4) (kW (by rfl) T.kr ?_) jc (λ_ _ _ _ _=>(dQ (n:=2) rfl (aJ (aO (i:=0) rK) (aJ (aO (i:=1) rK) cF)))) (λ_=>dE) dj (λ_ _ _ _ _=>?_)));walk_at "pp"
def tf(F:bj K "mixed_made" "mixed_made" (top 37) dv f fd)(T:Txt K mg)(SQ:dG P w K mg base 1 "mixed" 4 (aA 4 ny))(Sq:dG P w K mg base 1 "rests" 2 (aA 2 nY)):aT P w K mg base (bX P w) 2 f fd ["sizes","made","times","other","others"] (dX 5 eg) :=
 F.fF ["sizes","made","times","other","others","doing"] λnd _ _ _ _ _ _ hr O=>by
 unfold e6;walk_at "t";walk_at "pp"
def vq(F:bj K "step_size" "step_size" (top 40) dv f fd)(T:Txt K mg)  : aT P w K mg base (bX P w) 1 f fd ["sizes","made_rows","dial"] (dX 3 dM) :=
 F.fF ["sizes","made_rows","dial","notch"] λnd _ _ _ _ _ _ hr O=>by
 unfold eY;walk_at "t";walk_at "pp"
def xH(F:bj K "taken_in" "taken_in" (top 41) dv f fd)(T:Txt K mg)(Rq:dG P w K mg base 1 "step_size" 3 (aA 4 eY))(Sk:dG P w K mg base 1 "common" 2 (aA 6 k9))(RD:dG P w K mg base 2 "mixed_made" 5 (aA 6 e6)):aT P w K mg base (bX P w) 3 f fd ["sizes","made_rows","left"] (dX 3 jL) :=
 F.fF ["sizes","made_rows","left","wider","dial","made","step","notch","found"] λnd _ _ _ _ _ _ hr O=>by
 unfold jR;walk_at "t";walk_at "pp";refine(cn (g:=(jz K 2 (bC (aC 4) (bC (aC 5) jH)))) O rfl (o5 (by rfl) T.dY ?_) lq (dQ (n:=2) rfl (aJ (aO (i:=4) nd) (aJ (aO (i:=5) nd) cF))) dE ?_);walk_at "pp"
def yV(F:bj K "lowered" "lowered" (top 42) dv f fd)(T:Txt K mg)(Rq:dG P w K mg base 1 "step_size" 3 (aA 4 eY))(RD:dG P w K mg base 2 "mixed_made" 5 (aA 6 e6)):aT P w K mg base (bX P w) 3 f fd ["sizes","made_rows","made","first"] (dX 4 fM) :=
 F.fF ["sizes","made_rows","made","first","dial","times"] λnd _ _ _ _ _ _ hr O=>by
 unfold jw;walk_at "t";walk_at "pp";refine(cn (g:=(aC 4)) O rfl (Br (by rfl) T.d_ ?_) DU (aO (i:=4) nd) a_ ?_);walk_at "pp"
def ya(F:bj K "in_spans" "in_spans" (top 43) dv f fd)(T:Txt K mg)(SQ:dG P w K mg base 1 "mixed" 4 (aA 4 ny)):aT P w K mg base (bX P w) 2 f fd ["pulls","idle_rows"] (dX 2 iT) :=
 F.fF ["pulls","idle_rows","lever","row"] λnd _ _ _ _ _ _ hr O=>by
 unfold iO;walk_at "t";walk_at "pp";refine(cn (g:=(aC 2)) O rfl (uP (by rfl) T.d_ ?_) xI (aO (i:=2) nd) a_ ?_);walk_at "pp"
def vc(F:bj K "_law_cell" "_law_cell" (top 54) dv f fd)(T:Txt K mg)  : aT P w K mg base (bX P w) 1 f fd ["_law_script","_law_k"] (dX 2 i7) :=
 F.fF ["_law_script","_law_k"] λnd _ _ _ _ _ _ hr O=>by
 unfold ja;walk_at "t";walk_at "pp"
def xo(F:bj K "_law_mix" "_law_mix" (top 55) dv f fd)(T:Txt K mg)  : aT P w K mg base (bX P w) 1 f fd ["_law_cell_here","_law_k"] (dX 2 bV) :=
 F.fF ["_law_cell_here","_law_k","_law_number"] λnd _ _ _ _ _ _ hr O=>by
 unfold fL;walk_at "t";walk_at "pp"
def qz(F:bj K "_law_digits" "_law_digits" (top 56) dv f fd)(T:Txt K mg)  : aT P w K mg base (bX P w) 1 f fd ["_law_cell_here","_law_sizes_here"] (dX 2 dC) :=
 F.fF ["_law_cell_here","_law_sizes_here","_law_row","_law_size"] λnd _ _ _ _ _ _ hr O=>by
 unfold eQ;walk_at "t";walk_at "pp";refine(cn (g:=(aC 3)) O rfl (eJ ?_) cT (aO (i:=3) nd) a_ ?_);walk_at "pp"
def pZ:((["_law_number"]:List Str)++([]:List Str)).Nodup:=by decide +kernel
def pY:((["_law_k"]:List Str)++(["_law_cell_here"]:List Str)).Nodup:=by decide +kernel
def tQ(F:bj K "_law_sizes" "_law_sizes" (top 57) dv f fd)(T:Txt K mg)(Ry:dG P w K mg base 1 "_law_digits" 2 (aA 4 eQ))(Rx:dG P w K mg base 1 "_law_mix" 2 (aA 3 fL)):aT P w K mg base (bX P w) 2 f fd ["_law_cell_here"] (dX 1 h_) :=
 F.fF ["_law_cell_here"] λnd _ _ _ _ _ _ hr O=>by
 unfold hV;walk_at "t";walk_at "pp";refine(bY (bx (g:=(aC 0)) (ts:=["_law_number"]) (fs:=[]) (js:=[]) (cl:=[]) rfl rfl rfl rfl rfl rfl .nil .nil (eJ ?_) cT (λ_ _ _ _ _=>(aO (i:=0) pZ)) (λ_=>a_) br (λ_ _ _ _ _=>?_)));walk_at "pp";refine(bY (bx (g:=(aC 0)) (ts:=["_law_k"]) (fs:=["_law_cell_here"]) (js:=[0]) rfl rfl rfl rfl rfl rfl (.cons rfl .nil) ↑4 (eE (by rfl) T.d_ ?_) fe (λ_ _ _ _ _=>(aO (i:=0) pY)) (λ_=>a_) br (λ_ _ _ _ _=>?_)));walk_at "pp"
def kq:((["_law_k","_law_size"]:List Str)++(["_law_cell_here"]:List Str)).Nodup:=by decide +kernel
def tZ(F:bj K "_law_lever" "_law_lever" (top 58) dv f fd)(T:Txt K mg)(Ry:dG P w K mg base 1 "_law_digits" 2 (aA 4 eQ))(Rx:dG P w K mg base 1 "_law_mix" 2 (aA 3 fL)):aT P w K mg base (bX P w) 2 f fd ["_law_cell_here","_law_sizes_here"] (dX 2 eh) :=
 F.fF ["_law_cell_here","_law_sizes_here"] λnd _ _ _ _ _ _ hr O=>by
 unfold ip;walk_at "t";walk_at "pp";refine(bY (bx (g:=(jz K 2 (bC (aC 0) (bC (aC 1) jH)))) (ts:=["_law_k","_law_size"]) (fs:=["_law_cell_here"]) (js:=[0]) rfl rfl rfl rfl rfl rfl (.cons rfl .nil) ↑4 (o5 (by rfl) T.dY ?_) lq (λ_ _ _ _ _=>(dQ (n:=2) rfl (aJ (aO (i:=0) kq) (aJ (aO (i:=1) kq) cF)))) (λ_=>dE) dj (λ_ _ _ _ _=>?_)));walk_at "pp"
def fG:((["_law_here","_law_more","_law_size"]:List Str)++([]:List Str)).Nodup:=by decide +kernel
def sv(F:bj K "_law_doings" "_law_doings" (top 59) dv f fd)(T:Txt K mg)  : aT P w K mg base (bX P w) 1 f fd ["_law_sizes_here","_law_levers"] (dX 2 dy) :=
 F.fF ["_law_sizes_here","_law_levers","_law_found","_law_line","_law_at","_law_lever_here","_law_one"] λnd _ _ _ _ _ _ hr O=>by
 unfold f9;walk_at "t";walk_at "pp";refine(H0 (i:=2) hr.KZ nd rfl ↑9 ?_ ?_);walk_at "pp";exact(Bw (i:=2) rfl (by rfl) T.rW rfl ↑3);walk_at "pp";refine(yl O ?_ ?_);walk_at "pp";refine(Aq 3 ?_);walk_at "pp";refine(cn (g:=(aC 5)) O rfl (eJ ?_) cT (aO (i:=5) nd) a_ ?_);walk_at "pp";refine(qi 3 ?_);walk_at "pp";refine(bY (bx (g:=(jz K 3 (bC (aC 0) (bC (aC 1) (bC (aC 2) jH))))) (ts:=["_law_here","_law_more","_law_size"]) (fs:=[]) (js:=[]) (cl:=[]) rfl rfl rfl rfl rfl rfl .nil .nil (vN (by rfl) T.kr ?_) sN (λ_ _ _ _ _=>(dQ (n:=3) rfl (aJ (aO (i:=0) fG) (aJ (aO (i:=1) fG) (aJ (aO (i:=2) fG) cF))))) (λ_=>vQ) mf (λ_ _ _ _ _=>?_)));walk_at "pp";refine(LI (i:=2) (Hn hr.u1) rfl ↑3 ?_ (by rfl));walk_at "pp";refine(As (i:=2) hr.u1 rfl ↑3 ?_ ?_);walk_at "pp";refine(Jk 2 ?_);walk_at "pp"
def pV:((["_law_one"]:List Str)++(["_law_dial"]:List Str)).Nodup:=by decide +kernel
def tN(F:bj K "_law_steps" "_law_steps" (top 60) dv f fd)(T:Txt K mg)  : aT P w K mg base (bX P w) 1 f fd ["_law_sizes_here","_law_doings_here"] (dX 2 fu) :=
 F.fF ["_law_sizes_here","_law_doings_here","_law_rows","_law_dial","_law_some"] λnd _ _ _ _ _ _ hr O=>by
 unfold iz;walk_at "t";walk_at "pp";refine(cn (g:=(aC 3)) O rfl (eE (by rfl) T.d_ ?_) fe (aO (i:=3) nd) a_ ?_);walk_at "pp";refine(FD (i:=4) (g:=(aC 0)) (ts:=["_law_one"]) (fs:=["_law_dial"]) (js:=[3]) rfl rfl rfl rfl rfl rfl (.cons rfl .nil) ↑4 (Ku ?_) Ir (λ_ _ _ _ _=>(aO (i:=0) pV)) (λ_=>a_) br (λ_ _ _ _ _=>?_) (λ_ _ _ _ _=>?_) nd rfl ↑9);walk_at "pp";refine(FF ?_ (AO ?_)).pt;walk_at "pp";refine(uC ?_ GW (u7 ?_));walk_at "pp";refine(lh (Cd rfl hr.units) HU (by rfl) T.Jp KC ?_);walk_at "pp"
def iU:((["_law_here","_law_there","_law_size"]:List Str)++([]:List Str)).Nodup:=by decide +kernel
def vp(F:bj K "_law_sums" "_law_sums" (top 62) dv f fd)(T:Txt K mg)  : aT P w K mg base (bX P w) 1 f fd ["_law_sizes_here","_law_ones","_law_others"] (dX 3 gE) :=
 F.fF ["_law_sizes_here","_law_ones","_law_others","_law_found","_law_one","_law_other"] λnd _ _ _ _ _ _ hr O=>by
 unfold jb;walk_at "t";walk_at "pp";exact(Gy (i:=3) nd rfl ↑9);walk_at "pp";refine(cn (g:=(aC 4)) O rfl (zK ?_) wg (aO (i:=4) nd) a_ ?_);walk_at "pp";refine(cn (g:=(aC 5)) O rfl (zK ?_) wg (aO (i:=5) nd) a_ ?_);walk_at "pp";refine(As (i:=3) hr.u1 rfl ↑3 ?_ ?_);walk_at "pp";refine(bY (bx (g:=(jz K 3 (bC (aC 0) (bC (aC 1) (bC (aC 2) jH))))) (ts:=["_law_here","_law_there","_law_size"]) (fs:=[]) (js:=[]) (cl:=[]) rfl rfl rfl rfl rfl rfl .nil .nil (vN (by rfl) T.kr ?_) sN (λ_ _ _ _ _=>(dQ (n:=3) rfl (aJ (aO (i:=0) iU) (aJ (aO (i:=1) iU) (aJ (aO (i:=2) iU) cF))))) (λ_=>vQ) mf (λ_ _ _ _ _=>?_)));walk_at "pp";refine(Jk 3 ?_);walk_at "pp"
def jh:((["_law_here","_law_more","_law_size"]:List Str)++(["_law_many"]:List Str)).Nodup:=by decide +kernel
def xk(F:bj K "_law_led" "_law_led" (top 63) dv f fd)(T:Txt K mg)  : aT P w K mg base (bX P w) 1 f fd ["_law_sizes_here","_law_levers","_law_pulls"] (dX 3 fY) :=
 F.fF ["_law_sizes_here","_law_levers","_law_pulls","_law_found","_law_many","_law_lever_here"] λnd _ _ _ _ _ _ hr O=>by
 unfold ki;walk_at "t";walk_at "pp";refine(cn (g:=(jz K 2 (bC (aC 4) (bC (aC 5) jH)))) O rfl (kW (by rfl) T.kr ?_) jc (dQ (n:=2) rfl (aJ (aO (i:=4) nd) (aJ (aO (i:=5) nd) cF))) dE ?_);walk_at "pp";refine(vR (i:=3) (g:=(jz K 3 (bC (aC 0) (bC (aC 1) (bC (aC 2) jH))))) (ts:=["_law_here","_law_more","_law_size"]) (fs:=["_law_many"]) (js:=[4]) rfl rfl rfl rfl rfl rfl (.cons rfl .nil) ↑4 (vN (by rfl) T.kr ?_) sN (λ_ _ _ _ _=>(dQ (n:=3) rfl (aJ (aO (i:=0) jh) (aJ (aO (i:=1) jh) (aJ (aO (i:=2) jh) cF))))) (λ_=>vQ) mf (λ_ _ _ _ _=>?_) nd rfl ↑9);walk_at "pp"
def qR(F:bj K "_law_normal" "_law_normal" (top 64) dv f fd)(T:Txt K mg)  : aT P w K mg base (bX P w) 1 f fd ["_law_pulls","_law_spans"] (dX 2 dz) :=
 F.fF ["_law_pulls","_law_spans","_law_many","_law_span"] λnd _ _ _ _ _ _ hr O=>by
 unfold gk;walk_at "t";walk_at "pp";refine(kA ?_ (gM ?_)).pt;walk_at "pp";refine(oz (T := "tuple") (by rfl) T.bL (h9 (v:=.ty "tuple") (by rfl) T.nO kM rfl) ↑12 oM oM ?_);walk_at "pp";refine(cn (g:=(jz K 2 (bC (aC 2) (bC (aC 3) jH)))) O rfl (kW (by rfl) T.kr ?_) jc (dQ (n:=2) rfl (aJ (aO (i:=2) nd) (aJ (aO (i:=3) nd) cF))) dE ?_);walk_at "pp";refine(C0 uU oR w6 wb ?_ ?_ ?_);walk_at "pp"
def l8:cS ["self","sizes","levers","prices"] ["self","sizes","levers","prices"] (ba (inClass (top 23) 0)):=.of
def pS:((["lever"]:List Str)++(["sizes"]:List Str)).Nodup:=by decide +kernel
def l_(F:bj K "__init__" "Vault.__init__" (inClass (top 23) 0) dv f fd)(T:Txt K mg)(RR:dG P w K mg base 3 "need_sizes" 1 (aA 3 ij))(RJ:dG P w K mg base 3 "need_levers" 2 (aA 4 f6))(Sq:dG P w K mg base 1 "rests" 2 (aA 2 nY))(RS:dG P w K mg base 3 "prices_for" 2 (aA 3 fj))(RI:dG P w K mg base 2 "multiple_of" 1 (aA 3 gc)):aT P w K mg base (bX P w) 4 f fd ["self","sizes","levers","prices"] (Ja 4 ao bM) :=
 F.Qs l8 ↑12 λ_ _ _ _ _ _ hr O=>by
 unfold kd;have:=l8.nd;have T2:=T;cases T2;walk_at "pp";refine(mE (i:=0) rfl ↑3 T.nX T.iP ?_);walk_at "pp";refine(mE (i:=0) rfl ↑3 T.nX T.fq ?_);walk_at "pp";refine(bY (bx (g:=(aC 0)) (ts:=["lever"]) (fs:=["sizes"]) (js:=[1]) rfl rfl rfl rfl rfl rfl (.cons rfl .nil) ↑4 (eJ ?_) cT (λ_ _ _ _ _=>(aO (i:=0) pS)) (λ_=>a_) br (λ_ _ _ _ _=>?_)));walk_at "pp";refine(mE (i:=0) rfl ↑3 T.nX T.gJ ?_);walk_at "pp";refine(mE (i:=0) rfl ↑3 T.nX T.gT ?_);walk_at "pp"
def qu(F:bj K "sizes" "Vault.sizes" (inClass (top 23) 1) dv f fd)(T:Txt K mg)  : aT P w K mg base (bX P w) 1 f fd ["self"] (dX 1 aP) :=
 F.fF ["self"] λnd _ _ _ _ _ _ hr O=>by
 unfold aZ;walk_at "t";walk_at "pp"
def pR(F:bj K "levers" "Vault.levers" (inClass (top 23) 2) dv f fd)(T:Txt K mg)  : aT P w K mg base (bX P w) 1 f fd ["self"] (dX 1 aS) :=
 F.fF ["self"] λnd _ _ _ _ _ _ hr O=>by
 unfold bq;walk_at "t";walk_at "pp"
def pN(F:bj K "prices" "Vault.prices" (inClass (top 23) 3) dv f fd)(T:Txt K mg)  : aT P w K mg base (bX P w) 1 f fd ["self"] (dX 1 dN) :=
 F.fF ["self"] λnd _ _ _ _ _ _ hr O=>by
 unfold e8;walk_at "t";walk_at "pp"
def pQ(F:bj K "around" "Vault.around" (inClass (top 23) 4) dv f fd)(T:Txt K mg)  : aT P w K mg base (bX P w) 1 f fd ["self"] (dX 1 cW) :=
 F.fF ["self"] λnd _ _ _ _ _ _ hr O=>by
 unfold dI;walk_at "t";walk_at "pp"
def oK:((["dial"]:List Str)++(["self","sizes"]:List Str)).Nodup:=by decide +kernel
def qX(F:bj K "steps" "Rungs.steps" (inClass (top 44) 1) dv f fd)(T:Txt K mg)(Q8:lj P w K mg base ao 1 "sizes" 1 (aA 1 aZ))(Rq:dG P w K mg base 1 "step_size" 3 (aA 4 eY)):aT P w K mg base (bX P w) 2 f fd ["self"] (dX 1 gB) :=
 F.fF ["self","sizes"] λnd _ _ _ _ _ _ hr O=>by
 unfold gj;walk_at "t";walk_at "pp";refine(bY (bx (g:=(aC 0)) (ts:=["dial"]) (fs:=["self","sizes"]) (js:=[0,1]) rfl rfl rfl rfl rfl rfl (.cons rfl (.cons rfl .nil)) (.cons rfl rfl ↑9 rfl rfl ↑4) (eE (by rfl) T.d_ ?_) fe (λ_ _ _ _ _=>(aO (i:=0) oK)) (λ_=>a_) br (λ_ _ _ _ _=>?_)));walk_at "pp"
def pU:((["made"]:List Str)++([]:List Str)).Nodup:=by decide +kernel
def sY(F:bj K "rows" "Rungs.rows" (inClass (top 44) 2) dv f fd)(T:Txt K mg)  : aT P w K mg base (bX P w) 1 f fd ["self"] (dX 1 hZ) :=
 F.fF ["self"] λnd _ _ _ _ _ _ hr O=>by
 unfold iq;walk_at "t";walk_at "pp";refine(bY (bx (g:=(aC 0)) (ts:=["made"]) (fs:=[]) (js:=[]) (cl:=[]) rfl rfl rfl rfl rfl rfl .nil .nil (eJ ?_) cT (λ_ _ _ _ _=>(aO (i:=0) pU)) (λ_=>a_) br (λ_ _ _ _ _=>?_)));walk_at "pp"
def jy:((["lever","row"]:List Str)++([]:List Str)).Nodup:=by decide +kernel
def sA(F:bj K "spans" "Rungs.spans" (inClass (top 44) 3) dv f fd)(T:Txt K mg)  : aT P w K mg base (bX P w) 1 f fd ["self"] (dX 1 eP) :=
 F.fF ["self"] λnd _ _ _ _ _ _ hr O=>by
 unfold gb;walk_at "t";walk_at "pp";refine(bY (bx (g:=(jz K 2 (bC (aC 0) (bC (aC 1) jH)))) (ts:=["lever","row"]) (fs:=[]) (js:=[]) (cl:=[]) rfl rfl rfl rfl rfl rfl .nil .nil (o5 (by rfl) T.dY ?_) lq (λ_ _ _ _ _=>(dQ (n:=2) rfl (aJ (aO (i:=0) jy) (aJ (aO (i:=1) jy) cF)))) (λ_=>dE) dj (λ_ _ _ _ _=>?_)));walk_at "pp"
def BJ(F:bj K "nought" "nought" (top 30) dv f fd)(T:Txt K mg)(Q8:lj P w K mg base ao 1 "sizes" 1 (aA 1 aZ)):aT P w K mg base (bX P w) 2 f fd ["vault"] (dX 1 iI) :=
 F.fF ["vault"] λnd _ _ _ _ _ _ hr O=>by
 unfold jx;walk_at "t";walk_at "pp"
def kz:((["notch","size"]:List Str)++([]:List Str)).Nodup:=by decide +kernel
def tX(F:bj K "is_setting" "is_setting" (top 31) dv f fd)(T:Txt K mg)(Q8:lj P w K mg base ao 1 "sizes" 1 (aA 1 aZ))(Sl:dG P w K mg base 2 "is_row" 2 (aA 2 kL)):aT P w K mg base (bX P w) 3 f fd ["vault","thing"] (dX 2 ik) :=
 F.fF ["vault","thing","sizes"] λnd _ _ _ _ _ _ hr O=>by
 unfold iw;walk_at "t";walk_at "pp";refine(kA ?_ (gM ?_)).pt;walk_at "pp";refine(oz (T := "tuple") (by rfl) T.bL (h9 (v:=.ty "tuple") (by rfl) T.nO kM rfl) ↑12 oM oM ?_);walk_at "pp";refine(bY (bx (g:=(jz K 2 (bC (aC 0) (bC (aC 1) jH)))) (ts:=["notch","size"]) (fs:=[]) (js:=[]) (cl:=[]) rfl rfl rfl rfl rfl rfl .nil .nil (kW (by rfl) T.kr ?_) jc (λ_ _ _ _ _=>(dQ (n:=2) rfl (aJ (aO (i:=0) kz) (aJ (aO (i:=1) kz) cF)))) (λ_=>dE) dj (λ_ _ _ _ _=>?_)));walk_at "pp";refine(xw uU oR w6 wb ?_ ?_ ?_);walk_at "pp"
def pL(F:bj K "need_setting" "need_setting" (top 32) dv f fd)(T:Txt K mg)(Sn:dG P w K mg base 3 "is_setting" 2 (aA 3 iw)):aT P w K mg base (bX P w) 4 f fd ["vault","thing"] (dX 2 cV) :=
 F.fF ["vault","thing"] λnd _ _ _ _ _ _ hr O=>by
 unfold dO;walk_at "t";walk_at "pp"
def rM:((["weight","size"]:List Str)++(["around"]:List Str)).Nodup:=by decide +kernel
def EK(F:bj K "weigh" "weigh" (top 34) dv f fd)(T:Txt K mg)(Rv:dG P w K mg base 4 "need_setting" 2 (aA 2 dO))(Ru:lj P w K mg base ao 1 "around" 1 (aA 1 dI))(Q8:lj P w K mg base ao 1 "sizes" 1 (aA 1 aZ))(S0:dG P w K mg base 1 "rest_sum" 3 (aA 3 j4)):aT P w K mg base (bX P w) 5 f fd ["vault","weights","setting"] (dX 3 qo) :=
 F.fF ["vault","weights","setting","around","worths"] λnd _ _ _ _ _ _ hr O=>by
 unfold qk;walk_at "t";walk_at "pp";refine(vR (i:=4) (g:=(jz K 2 (bC (aC 0) (bC (aC 1) jH)))) (ts:=["weight","size"]) (fs:=["around"]) (js:=[3]) rfl rfl rfl rfl rfl rfl (.cons rfl .nil) ↑4 (kW (by rfl) T.kr ?_) jc (λ_ _ _ _ _=>(dQ (n:=2) rfl (aJ (aO (i:=0) rM) (aJ (aO (i:=1) rM) cF)))) (λ_=>dE) dj (λ_ _ _ _ _=>?_) nd rfl ↑9);walk_at "pp"
def xT(F:bj K "unpulled" "unpulled" (top 38) dv f fd)(T:Txt K mg)(Q_:lj P w K mg base ao 1 "levers" 1 (aA 1 bq)):aT P w K mg base (bX P w) 2 f fd ["vault","setting"] (dX 2 fS) :=
 F.fF ["vault","setting"] λnd _ _ _ _ _ _ hr O=>by
 unfold iM;walk_at "t";walk_at "pp"
def qK(F:bj K "pulled_once" "pulled_once" (top 39) dv f fd)(T:Txt K mg)(Q_:lj P w K mg base ao 1 "levers" 1 (aA 1 bq))(S2:dG P w K mg base 1 "unit_row" 2 (aA 2 jT)):aT P w K mg base (bX P w) 2 f fd ["vault","lever"] (dX 2 f7) :=
 F.fF ["vault","lever","levers"] λnd _ _ _ _ _ _ hr O=>by
 unfold gi;walk_at "t";walk_at "pp"
def tP(F:bj K "_law_clear" "_law_clear" (top 61) dv f fd)(T:Txt K mg)(Q8:lj P w K mg base ao 1 "sizes" 1 (aA 1 aZ))(RY:lj P w K mg base ao 1 "prices" 1 (aA 1 e8))(Q_:lj P w K mg base ao 1 "levers" 1 (aA 1 bq)):aT P w K mg base (bX P w) 2 f fd ["_law_vault","_law_sizes_here","_law_due"] (dX 3 dh) :=
 F.fF ["_law_vault","_law_sizes_here","_law_due"] λnd _ _ _ _ _ _ hr O=>by
 unfold iu;walk_at "t";walk_at "pp";refine(kA ?_ (gM ?_)).pt;walk_at "pp"
def jr:cS ["self","vault","sizes","made_rows","idle_rows","lever","taken"] ["self","vault"] (ba (inClass (top 44) 0)):=.of
def pW:((["size"]:List Str)++(["vault"]:List Str)).Nodup:=by decide +kernel
def ko:((["dial","made"]:List Str)++(["sizes","made_rows"]:List Str)).Nodup:=by decide +kernel
def tq(F:bj K "__init__" "Rungs.__init__" (inClass (top 44) 0) dv f fd)(T:Txt K mg)(Q8:lj P w K mg base ao 1 "sizes" 1 (aA 1 aZ))(RM:dG P w K mg base 2 "nought" 1 (aA 1 jx))(RT:dG P w K mg base 2 "unpulled" 2 (aA 2 iM))(Q_:lj P w K mg base ao 1 "levers" 1 (aA 1 bq))(Sa:dG P w K mg base 2 "pulled_once" 2 (aA 3 gi))(S1:dG P w K mg base 3 "taken_in" 3 (aA 9 jR))(RP:dG P w K mg base 2 "in_spans" 2 (aA 4 iO))(R1:dG P w K mg base 3 "lowered" 4 (aA 6 jw)):aT P w K mg base (bX P w) 4 f fd ["self","vault"] (Ja 2 az cR) :=
 F.Qs jr ↑12 λ_ _ _ _ _ _ hr O=>by
 unfold jX;have:=jr.nd;have T2:=T;cases T2;walk_at "pp";refine(bY (bx (g:=(aC 0)) (ts:=["size"]) (fs:=["vault"]) (js:=[1]) rfl rfl rfl rfl rfl rfl (.cons rfl .nil) ↑4 (eJ ?_) cT (λ_ _ _ _ _=>(aO (i:=0) pW)) (λ_=>a_) br (λ_ _ _ _ _=>?_)));walk_at "pp";refine(cn (g:=(aC 5)) O rfl (eE (by rfl) T.d_ ?_) fe (aO (i:=5) jr.nd) a_ ?_);walk_at "pp";refine(qi 4 ?_);walk_at "pp";refine(mE (i:=0) rfl ↑3 T.ql T.lZ ?_);walk_at "pp";refine(mE (i:=0) rfl ↑3 T.ql T.je ?_);walk_at "pp";refine(bY (bx (g:=(jz K 2 (bC (aC 0) (bC (aC 1) jH)))) (ts:=["dial","made"]) (fs:=["sizes","made_rows"]) (js:=[2,3]) rfl rfl rfl rfl rfl rfl (.cons rfl (.cons rfl .nil)) (.cons rfl rfl ↑9 rfl rfl ↑4) (o5 (by rfl) T.dY ?_) lq (λ_ _ _ _ _=>(dQ (n:=2) rfl (aJ (aO (i:=0) ko) (aJ (aO (i:=1) ko) cF)))) (λ_=>dE) dj (λ_ _ _ _ _=>?_)));walk_at "pp";refine(mE (i:=0) rfl ↑3 T.ql T.iZ ?_);walk_at "pp"
def kE(F:bj K "brought_down" "Rungs.brought_down" (inClass (top 44) 5) dv f fd)(T:Txt K mg)(Rv:dG P w K mg base 4 "need_setting" 2 (aA 2 dO))(RT:dG P w K mg base 2 "unpulled" 2 (aA 2 iM))(Q8:lj P w K mg base ao 1 "sizes" 1 (aA 1 aZ))(R1:dG P w K mg base 3 "lowered" 4 (aA 6 jw)):aT P w K mg base (bX P w) 5 f fd ["self","setting"] (dX 2 bS) :=
 F.fF ["self","setting"] λnd _ _ _ _ _ _ hr O=>by
 unfold cD;walk_at "t";walk_at "pp"
def lV:((["times"]:List Str)++([]:List Str)).Nodup:=by decide +kernel
def nN(F:bj K "pulls_to" "Rungs.pulls_to" (inClass (top 44) 7) dv f fd)(T:Txt K mg)(RA:lj P w K mg base az 5 "brought_down" 2 (aA 2 cD))(RM:dG P w K mg base 2 "nought" 1 (aA 1 jx))(RP:dG P w K mg base 2 "in_spans" 2 (aA 4 iO)):aT P w K mg base (bX P w) 6 f fd ["self","setting"] (dX 2 bJ) :=
 F.fF ["self","setting","made"] λnd _ _ _ _ _ _ hr O=>by
 unfold dZ;walk_at "t";walk_at "pp";refine(bY (bx (g:=(aC 0)) (ts:=["times"]) (fs:=[]) (js:=[]) (cl:=[]) rfl rfl rfl rfl rfl rfl .nil .nil (eJ ?_) cT (λ_ _ _ _ _=>(aO (i:=0) lV)) (λ_=>a_) br (λ_ _ _ _ _=>?_)));walk_at "pp"
def fE:((["size","step"]:List Str)++([]:List Str)).Nodup:=by decide +kernel
def lU(F:bj K "weights_at" "Rungs.weights_at" (inClass (top 44) 8) dv f fd)(T:Txt K mg)(Q8:lj P w K mg base ao 1 "sizes" 1 (aA 1 aZ))(Rp:dG P w K mg base 2 "is_within" 3 (aA 3 eW))(Sr:tV P w K mg base du "NoDial" "dial")(R6:lj P w K mg base az 2 "steps" 1 (aA 2 gj))(TN:dG P w K mg base 5 "weigh" 3 (aA 5 qk))(Ru:lj P w K mg base ao 1 "around" 1 (aA 1 dI)):aT P w K mg base (bX P w) 6 f fd ["self","dial"] (dX 2 bH) :=
 F.fF ["self","dial","sizes","fills","weights","ahead","weighed","share"] λnd _ _ _ _ _ _ hr O=>by
 unfold dc;walk_at "t";walk_at "pp";refine(vR (i:=3) (g:=(jz K 2 (bC (aC 0) (bC (aC 1) jH)))) (ts:=["size","step"]) (fs:=[]) (js:=[]) (cl:=[]) rfl rfl rfl rfl rfl rfl .nil .nil (kW (by rfl) T.kr ?_) jc (λ_ _ _ _ _=>(dQ (n:=2) rfl (aJ (aO (i:=0) fE) (aJ (aO (i:=1) fE) cF)))) (λ_=>dE) dj (λ_ _ _ _ _=>?_) nd rfl ↑9);walk_at "pp";refine(Kr ?_ ?_);walk_at "pp";refine(C6 (i:=4) rfl ↑3 ?_ ?_);walk_at "pp";refine(cn (g:=(aC 5)) O rfl (uP (by rfl) T.d_ ?_) xI (aO (i:=5) nd) a_ ?_);walk_at "pp";refine(qi 4 ?_);walk_at "pp";refine(C6 (i:=4) rfl ↑3 ?_ ?_);walk_at "pp"
def zv:((["row"]:List Str)++(["none"]:List Str)).Nodup:=by decide +kernel
def Ec(F:bj K "clear" "clear" (top 46) dv f fd)(T:Txt K mg)(RM:dG P w K mg base 2 "nought" 1 (aA 1 jx))(Ri:z6 P w K mg base az 4 "Rungs" 2 [] cR)(Se:lj P w K mg base az 1 "rows" 1 (aA 1 iq))(Q8:lj P w K mg base ao 1 "sizes" 1 (aA 1 aZ))(Rj:z6 P w K mg base ao 4 "Vault" 4 [.c6] bM):aT P w K mg base (bX P w) 6 f fd ["vault"] (dX 1 lM) :=
 F.fF ["vault","none"] λnd _ _ _ _ _ _ hr O=>by
 unfold mS;walk_at "t";walk_at "pp";refine(bY (w8 (g:=(aC 0)) (ts:=["row"]) (fs:=["none"]) (js:=[1]) rfl rfl rfl rfl rfl rfl (.cons rfl .nil) ↑4 (eJ ?_) cT (λ_ _ _ _ _=>(aO (i:=0) zv)) (λ_=>a_) br (λ_ _ _ _ _=>?_) (λ_ _ _ _ _=>?_)));walk_at "pp"
def xC(F:bj K "clear_of" "clear_of" (top 47) dv f fd)(T:Txt K mg)(Rj:z6 P w K mg base ao 4 "Vault" 4 [.c6] bM)(Q_:lj P w K mg base ao 1 "levers" 1 (aA 1 bq))(SO:dG P w K mg base 6 "clear" 1 (aA 2 mS)):aT P w K mg base (bX P w) 7 f fd ["sizes","doings"] (dX 2 iN) :=
 F.fF ["sizes","doings","cleared","doing"] λnd _ _ _ _ _ _ hr O=>by
 unfold j3;walk_at "t";walk_at "pp";refine(cn (g:=(aC 3)) O rfl (eJ ?_) cT (aO (i:=3) nd) a_ ?_);walk_at "pp"
def xA:((["dial"]:List Str)++(["rungs"]:List Str)).Nodup:=by decide +kernel
def BF(F:bj K "stills" "stills" (top 48) dv f fd)(T:Txt K mg)(Ri:z6 P w K mg base az 4 "Rungs" 2 [] cR)(Q8:lj P w K mg base ao 1 "sizes" 1 (aA 1 aZ))(RE:lj P w K mg base az 6 "weights_at" 2 (aA 8 dc))(Rj:z6 P w K mg base ao 4 "Vault" 4 [.c6] bM)(SO:dG P w K mg base 6 "clear" 1 (aA 2 mS)):aT P w K mg base (bX P w) 7 f fd ["vault"] (dX 1 iQ) :=
 F.fF ["vault","rungs","sizes"] λnd _ _ _ _ _ _ hr O=>by
 unfold mT;walk_at "t";walk_at "pp";refine(bY (bx (g:=(aC 0)) (ts:=["dial"]) (fs:=["rungs"]) (js:=[1]) rfl rfl rfl rfl rfl rfl (.cons rfl .nil) ↑4 (eE (by rfl) T.d_ ?_) fe (λ_ _ _ _ _=>(aO (i:=0) xA)) (λ_=>a_) br (λ_ _ _ _ _=>?_)));walk_at "pp"
def xr(F:bj K "together" "together" (top 50) dv f fd)(T:Txt K mg)(Q8:lj P w K mg base ao 1 "sizes" 1 (aA 1 aZ))(RG:dG P w K mg base 1 "need_same_sizes" 2 (aA 2 cJ))(Q_:lj P w K mg base ao 1 "levers" 1 (aA 1 bq))(SY:dG P w K mg base 7 "clear_of" 2 (aA 4 j3)):aT P w K mg base (bX P w) 8 f fd ["one","other"] (dX 2 cx) :=
 F.fF ["one","other"] λnd _ _ _ _ _ _ hr O=>by
 unfold eS;walk_at "t";walk_at "pp"
def IJ(F:bj K "both" "both" (top 51) dv f fd)(T:Txt K mg)(Tg:dG P w K mg base 7 "stills" 1 (aA 3 mT))(Ro:dG P w K mg base 8 "together" 2 (aA 2 eS)):aT P w K mg base (bX P w) 9 f fd ["one","other"] (dX 2 gO) :=
 F.fF ["one","other"] λnd _ _ _ _ _ _ hr O=>by
 unfold mr;walk_at "t";walk_at "pp"
def qM:((["lever"]:List Str)++(["first","second"]:List Str)).Nodup:=by decide +kernel
def vC(F:bj K "both_ways" "both_ways" (top 52) dv f fd)(T:Txt K mg)(Sd:dG P w K mg base 9 "both" 2 (aA 2 mr))(Q_:lj P w K mg base ao 1 "levers" 1 (aA 1 bq))(Ri:z6 P w K mg base az 4 "Rungs" 2 [] cR)(RL:lj P w K mg base az 6 "pulls_to" 2 (aA 3 dZ)):aT P w K mg base (bX P w) 10 f fd ["one","other"] (dX 2 c9) :=
 F.fF ["one","other","levers","first","second"] λnd _ _ _ _ _ _ hr O=>by
 unfold eX;walk_at "t";walk_at "pp";refine(bY (bx (g:=(aC 0)) (ts:=["lever"]) (fs:=["first","second"]) (js:=[3,4]) rfl rfl rfl rfl rfl rfl (.cons rfl (.cons rfl .nil)) (.cons rfl rfl ↑9 rfl rfl ↑4) (eJ ?_) cT (λ_ _ _ _ _=>(aO (i:=0) qM)) (λ_=>a_) br (λ_ _ _ _ _=>?_)));walk_at "pp"
def sG:((["_law_row"]:List Str)++([]:List Str)).Nodup:=by decide +kernel
def vX(F:bj K "_law_ways" "_law_ways" (top 65) dv f fd)(T:Txt K mg)(RB:dG P w K mg base 10 "both_ways" 2 (aA 5 eX))(Ri:z6 P w K mg base az 4 "Rungs" 2 [] cR)(R5:lj P w K mg base az 1 "spans" 1 (aA 1 gb))(R9:dG P w K mg base 1 "_law_normal" 2 (aA 4 gk))(Q_:lj P w K mg base ao 1 "levers" 1 (aA 1 bq))(SX:dG P w K mg base 1 "_law_led" 3 (aA 6 ki)):aT P w K mg base (bX P w) 11 f fd ["_law_one","_law_other","_law_sizes_here","_law_due"] (dX 4 iY) :=
 F.fF ["_law_one","_law_other","_law_sizes_here","_law_due","_law_found","_law_spans","_law_row"] λnd _ _ _ _ _ _ hr O=>by
 unfold i_;walk_at "t";walk_at "pp";refine(kA ?_ (gM ?_)).pt;walk_at "pp";refine(oz (T := "list") (by rfl) T.bL (h9 (v:=.ty "list") (by rfl) T.rW nP rfl) ↑12 oM oM ?_);walk_at "pp";refine(bY (bx (g:=(aC 0)) (ts:=["_law_row"]) (fs:=[]) (js:=[]) (cl:=[]) rfl rfl rfl rfl rfl rfl .nil .nil (eJ ?_) cT (λ_ _ _ _ _=>(aO (i:=0) sG)) (λ_=>a_) br (λ_ _ _ _ _=>?_)));walk_at "pp";refine(cn (g:=(aC 6)) O rfl (eJ ?_) cT (aO (i:=6) nd) a_ ?_);walk_at "pp";refine(kA ?_ (gM ?_)).pt;walk_at "pp";refine(oz (T := "tuple") (by rfl) T.bL (h9 (v:=.ty "tuple") (by rfl) T.nO kM rfl) ↑12 oM oM ?_);walk_at "pp";refine(kA ?_ (gM ?_)).pt;walk_at "pp";refine(kA ?_ (gM ?_)).pt;walk_at "pp"
def pT(F:bj K "_law_refused" "_law_refused" (top 66) dv f fd)(T:Txt K mg)(Ro:dG P w K mg base 8 "together" 2 (aA 2 eS))(Sd:dG P w K mg base 9 "both" 2 (aA 2 mr))(RB:dG P w K mg base 10 "both_ways" 2 (aA 5 eX)):aT P w K mg base (bX P w) 11 f fd ["_law_call","_law_one","_law_other"] (dX 3 cy) :=
 F.fF ["_law_call","_law_one","_law_other","_law_error","e"] λnd _ _ _ _ _ _ hr O=>by
 unfold fm;walk_at "t";walk_at "pp";refine(La rfl rfl (λpn E2 O2=>(GU ?_)) (.JL (i:=4) (by rfl) T.jP.mg ↑12 nd rfl rfl T.jP.ok (λea=>?_) .nil));walk_at "pp";refine(CH.call hr (CH.cons Ro T.mL ⋯ (CH.cons Sd T.zZ ⋯ (CH.cons RB T.k_ ⋯ CH.nil))) O2 ?_ ?_);walk_at "pp";refine(u9 ?_ (u9 ?_ (yM ?_)));walk_at "pp";refine(T.xR.is (by rfl) T.bL (by rfl) ?_);walk_at "pp";refine(Gg (by rfl) T.bL (h9 (v:=.ty "ValueError") (by rfl) T.nM tK rfl) T.Qk ?_);walk_at "pp";refine(DF ?_);walk_at "pp";refine(T.ub.is (by rfl) T.bL (by rfl) ?_);walk_at "pp"
def sP(F:bj K "_law_unlike" "_law_unlike" (top 67) dv f fd)(T:Txt K mg)(Rj:z6 P w K mg base ao 4 "Vault" 4 [.c6] bM)(RZ:dG P w K mg base 11 "_law_refused" 3 (aA 5 fm)):aT P w K mg base (bX P w) 12 f fd ["_law_vault","_law_cell_here","_law_sizes_here"] (dX 3 gA) :=
 F.fF ["_law_vault","_law_cell_here","_law_sizes_here","_law_at","_law_some","_law_other","_law_call"] λnd _ _ _ _ _ _ hr O=>by
 unfold gg;walk_at "t";walk_at "pp";refine(He (by rfl) T.rW ?_);walk_at "pp";refine(C6 (i:=4) rfl ↑3 ?_ ?_);walk_at "pp";refine(qi 4 ?_);walk_at "pp";refine(Aq 4 ?_);walk_at "pp";refine(cn (g:=(aC 6)) O rfl (eJ ?_) cT (aO (i:=6) nd) a_ ?_);walk_at "pp";exact(Ft T.mL (by rfl));walk_at "pp";exact(Ft T.zZ (by rfl));walk_at "pp";exact(Ft T.k_ (by rfl));walk_at "pp";refine(kA ?_ (gM ?_)).pt;walk_at "pp"
def F0:((["_law_k"]:List Str)++(["_law_first"]:List Str)).Nodup:=by decide +kernel
def CW:((["_law_k"]:List Str)++([]:List Str)).Nodup:=by decide +kernel
def EB:((["_law_doing"]:List Str)++(["_law_others"]:List Str)).Nodup:=by decide +kernel
def Ko(F:bj K "law" "law" (top 68) dv f fd)(T:Txt K mg)(Sy:dG P w K mg base 1 "_law_cell" 2 (aA 2 ja))(Si:dG P w K mg base 2 "_law_sizes" 1 (aA 1 hV))(Sh:dG P w K mg base 2 "_law_lever" 2 (aA 2 ip))(Rx:dG P w K mg base 1 "_law_mix" 2 (aA 3 fL))(R7:z6 P w K mg base ao 4 "Vault" 4 [] bM)(R8:dG P w K mg base 1 "_law_doings" 2 (aA 7 f9))(Sj:dG P w K mg base 1 "_law_steps" 2 (aA 5 iz))(SA:dG P w K mg base 1 "_law_sums" 3 (aA 6 jb))(Sd:dG P w K mg base 9 "both" 2 (aA 2 mr))(Sg:dG P w K mg base 2 "_law_clear" 3 (aA 3 iu))(Ro:dG P w K mg base 8 "together" 2 (aA 2 eS))(R_:dG P w K mg base 12 "_law_unlike" 3 (aA 7 gg))(SD:dG P w K mg base 11 "_law_ways" 4 (aA 7 i_)):aT P w K mg base (bX P w) 13 f fd ["_law_script"] (dX 1 uS) :=
 F.fF ["_law_script","_law_first","_law_sizes_here","_law_levers","_law_cell_here","_law_some","_law_one","_law_other","_law_ones","_law_others","_law_due","_law_sums_here"] λnd _ _ _ _ _ _ hr O=>by
 unfold Fg;walk_at "t";walk_at "pp";refine(G3 (iL:=3) (iS:=5) (ic:=4) (o_ (i:=3) nd rfl ↑9 (sS (cz (sS fw) (cz (sS fw) fw)))) (C2 O.own rfl (eJ ?_) (aO (i:=4) nd) (iH (o_ (i:=5) nd rfl ↑9 (Jj Eh (gP (i:=3) rfl ↑3) ?_ (λ_ _=>rfl))) (iH (JI (vg w6 (jA uO (by rfl) T.Jr PySem.boot_len (cz (gP (i:=5) rfl ↑3) fw)) EO (eT _)) (iH (qf (Jl abh aa9 aa_ oq (gP (i:=5) rfl ↑3) (cz ?_ fw))) mO) mO) mO))) cT ↑12 ↑12 ↑12   ?_);walk_at "pp";refine(uC ?_ (u7 ?_) (u7 ?_));walk_at "pp";refine(bY (bx (g:=(aC 0)) (ts:=["_law_k"]) (fs:=["_law_first"]) (js:=[1]) rfl rfl rfl rfl rfl rfl (.cons rfl .nil) ↑4 (eE (by rfl) T.d_ ?_) fe (λ_ _ _ _ _=>(aO (i:=0) F0)) (λ_=>a_) br (λ_ _ _ _ _=>?_)));walk_at "pp";refine(bY (bx (g:=(aC 0)) (ts:=["_law_k"]) (fs:=[]) (js:=[]) (cl:=[]) rfl rfl rfl rfl rfl rfl .nil .nil (eE (by rfl) T.d_ ?_) fe (λ_ _ _ _ _=>(aO (i:=0) CW)) (λ_=>a_) br (λ_ _ _ _ _=>?_)));walk_at "pp";refine(bY (w8 (g:=(aC 0)) (ts:=["_law_doing"]) (fs:=["_law_others"]) (js:=[9]) rfl rfl rfl rfl rfl rfl (.cons rfl .nil) ↑4 (zK ?_) wg (λ_ _ _ _ _=>(aO (i:=0) EB)) (λ_=>a_) br (λ_ _ _ _ _=>?_) (λ_ _ _ _ _=>?_)));walk_at "pp";refine(k4 (JS hr.u1) LP ?_ ?_ (by rfl));walk_at "pp";refine(kA ?_ (gM ?_)).pt;walk_at "pp";refine(kA ?_ (gM ?_)).pt;walk_at "pp";refine(FF ?_ (AO ?_)).pt;walk_at "pp"
end yF
namespace yF
open PySem L2 PyProof.Rows
open PySem.W (nsIn findIn codeIn keepIn isFn mroIn specialIn takesIn hasDictIn typeIn plainGet plainOver makesIn mg_of mg_none_of fnOf excIn clsIn)
abbrev κ(w:World):VU:=HD.K w.params
variable(w:World)
abbrev ML:Value:=HD.st "dialvault.wholes" 386
abbrev Am:Value:=HD.st "dialvault.vault" 434
abbrev zj:Value:=HD.st "dialvault.rungs" 586
abbrev yZ:Value:=HD.st "law_dialvault_k51_whole_both_and_together" 800
abbrev QG:Value:=HD.st "dialvault.papers" 578
abbrev md5:Value:=HD.st "dialvault.stills" 752
abbrev OT:Value:=HD.st "dialvault.pairs" 776
abbrev OZ:Value:=HD.st "dialvault.errors" 194
def eM:FuncData:=fnOf "__init__" "Vault.__init__" (i4 (inClass (top 23) 0)) (fg (inClass (top 23) 0)) (ba (inClass (top 23) 0)) (.ref 220) .none .none Am none (.ref 224) .none
def hU:bj (κ w) "__init__" "Vault.__init__" (inClass (top 23) 0) (.ref 220) 225 eM:=.of ↑10 ↑10 ↑10
def jg:FuncData:=Ca "__init__" "Rungs.__init__" (inClass (top 44) 0) zj 389
def v_:bj (κ w) "__init__" "Rungs.__init__" (inClass (top 44) 0) .none 390 jg:=.of ↑10 ↑10 ↑10
def wJ:Binds (κ w) jg ["self","vault"] []:=Binds.all (Oy λ_ _=>rfl)
def z9:FuncData:=Ca "law" "law" (top 68) yZ 567
def N0:bj (κ w) "law" "law" (top 68) .none 568 z9:=.of ↑10 ↑10 ↑10
def g_:gG (κ w) dR:=⟨↑10,↑10,↑10,↑10,↑10,↑10,↑10,↑10,↑10⟩
def j8:gG (κ w) cB:=⟨↑10,↑10,↑10,↑10,↑10,↑10,↑10,↑10,↑10⟩
def lD:gG (κ w) bg:=⟨↑10,↑10,↑10,↑10,↑10,↑10,↑10,↑10,↑10⟩
def jF:gG (κ w) du:=⟨↑10,↑10,↑10,↑10,↑10,↑10,↑10,↑10,↑10⟩
def i5:FuncData:=Ca "__init__" "NoDial.__init__" (inClass (top 3) 0) OZ 54
def PD:(κ w).lookup 55=some ⟨.type "function",none,.func i5,⟨[]⟩⟩:=by kernel_rfl
def Qe:codeIn (κ w) (.ref 54) "NoDial.__init__"=true:=by kernel_rfl
def zk:Binds (κ w) i5 ["self","dial"] []:=Binds.all (Oy λ_ _=>rfl)
def zA:cS ["self","dial"] ["self","dial"] (ba (inClass (top 3) 0)):=.of
def Qc:((clsIn (κ w) 65).any λcd=>g8 cd.mro)=true:=by kernel_rfl
def Pu:findIn (κ w) (.ref 65) "dial"=some none:=by kernel_rfl
def zd{P:Program}{w:World}{mg:Str->Option Value}{base:Heap}:aT P w (κ w) mg base (bX P w) 1 55 i5 ["self","dial"] (Bn (κ w) du "dial") :=
 sD (n0 := "self") (n1 := "dial") (fl := "dial") (PD w) (Qe w) zA (jF w) (Qc w) (Pu w) ↑3 ↑3 ↑12 ↑12 ↑12 ↑12 (λ_=>rfl)
def iV:gG (κ w) eB:=⟨↑10,↑10,↑10,↑10,↑10,↑10,↑10,↑10,↑10⟩
def gY:FuncData:=Ca "__init__" "NoLever.__init__" (inClass (top 4) 0) OZ 80
def OP:(κ w).lookup 81=some ⟨.type "function",none,.func gY,⟨[]⟩⟩:=by kernel_rfl
def PQ:codeIn (κ w) (.ref 80) "NoLever.__init__"=true:=by kernel_rfl
def xG:Binds (κ w) gY ["self","lever"] []:=Binds.all (Oy λ_ _=>rfl)
def wR:cS ["self","lever"] ["self","lever"] (ba (inClass (top 4) 0)):=.of
def Pe:((clsIn (κ w) 91).any λcd=>g8 cd.mro)=true:=by kernel_rfl
def OY:findIn (κ w) (.ref 91) "lever"=some none:=by kernel_rfl
def yu{P:Program}{w:World}{mg:Str->Option Value}{base:Heap}:aT P w (κ w) mg base (bX P w) 1 81 gY ["self","lever"] (Bn (κ w) eB "lever") :=
 sD (n0 := "self") (n1 := "lever") (fl := "lever") (OP w) (PQ w) wR (iV w) (Pe w) (OY w) ↑3 ↑3 ↑12 ↑12 ↑12 ↑12 (λ_=>rfl)
def iG:gG (κ w) dD:=⟨↑10,↑10,↑10,↑10,↑10,↑10,↑10,↑10,↑10⟩
def ir:FuncData:=Ca "__init__" "NoPrice.__init__" (inClass (top 5) 0) OZ 106
def Pq:(κ w).lookup 107=some ⟨.type "function",none,.func ir,⟨[]⟩⟩:=by kernel_rfl
def PH:codeIn (κ w) (.ref 106) "NoPrice.__init__"=true:=by kernel_rfl
def yz:Binds (κ w) ir ["self","lever"] []:=Binds.all (Oy λ_ _=>rfl)
def yw:cS ["self","lever"] ["self","lever"] (ba (inClass (top 5) 0)):=.of
def OR:((clsIn (κ w) 117).any λcd=>g8 cd.mro)=true:=by kernel_rfl
def Qg:findIn (κ w) (.ref 117) "lever"=some none:=by kernel_rfl
def xY{P:Program}{w:World}{mg:Str->Option Value}{base:Heap}:aT P w (κ w) mg base (bX P w) 1 107 ir ["self","lever"] (Bn (κ w) dD "lever") :=
 sD (n0 := "self") (n1 := "lever") (fl := "lever") (Pq w) (PH w) yw (iG w) (OR w) (Qg w) ↑3 ↑3 ↑12 ↑12 ↑12 ↑12 (λ_=>rfl)
def eO:oh (κ w) az:=⟨↑10,↑10,↑10,↑10⟩
def ff:oh (κ w) ao:=⟨↑10,↑10,↑10,↑10⟩
def Nu:findIn (κ w) (.ref 439) "idle_rows"=some none:=by kernel_rfl
def MV:findIn (κ w) (.ref 439) "made_rows"=some none:=by kernel_rfl
def Oa:findIn (κ w) (.ref 439) "vault"=some none:=by kernel_rfl
def Nn:findIn (κ w) (.ref 256) "dial_sizes"=some none:=by kernel_rfl
def Of:findIn (κ w) (.ref 256) "least_round"=some none:=by kernel_rfl
def M0:findIn (κ w) (.ref 256) "lever_prices"=some none:=by kernel_rfl
def Nz:findIn (κ w) (.ref 256) "lever_settings"=some none:=by kernel_rfl
def O6:nsIn (κ w) mainGlobals "LEAST_PRICE"=some (some (.int 1 444)):=by kernel_rfl
def PL:nsIn (κ w) mainGlobals "LEAST_SIZE"=some (some (.int 2 438)):=by kernel_rfl
def OV:nsIn (κ w) mainGlobals "MOST_DIALS"=some (some (.int 6 436)):=by kernel_rfl
def PX:nsIn (κ w) mainGlobals "MOST_LEVERS"=some (some (.int 8 442)):=by kernel_rfl
def PZ:nsIn (κ w) mainGlobals "MOST_PRICE"=some (some (.int 1000 446)):=by kernel_rfl
def O8:nsIn (κ w) mainGlobals "MOST_SIZE"=some (some (.int 360 440)):=by kernel_rfl
def Pk:nsIn (κ w) mainGlobals "VaultError"=some (some (.ref 38)):=by kernel_rfl
def Pa:F8 (λC=>ZQ (κ w) (.ref C) (.ref nu)) gq gz=true:=by kernel_rfl
def P9:nsIn (κ w) mainGlobals "TooMany"=some (some (.ref 155)):=by kernel_rfl
def Po:(HB.all λa=>Wr (κ w) (.type a) (.ref cB)==some false)=true:=by kernel_rfl
def OF:F8 (λC=>Wr (κ w) (.ref C) (.ref cB)) kc jO=true:=by kernel_rfl
def P2:F8 (λC=>Wr (κ w) (.ref C) (.ref cB)) fH fO=true:=by kernel_rfl
def P4:nsIn (κ w) mainGlobals "Unlike"=some (some (.ref 174)):=by kernel_rfl
def Ph:(HB.all λa=>Wr (κ w) (.type a) (.ref bg)==some false)=true:=by kernel_rfl
def ON:F8 (λC=>Wr (κ w) (.ref C) (.ref bg)) lC lB=true:=by kernel_rfl
def Pz:F8 (λC=>Wr (κ w) (.ref C) (.ref bg)) iB iD=true:=by kernel_rfl
def Nh:(κ w).lookup 220=some (HD.tu [.none]):=by kernel_rfl
def wa:Binds (κ w) eM ["self","sizes","levers","prices"] [.none]:=(hU w).binds (Nh w) rfl λ_ _ _ _ _ _ us hl=>by obtain⟨a,b,c,rfl⟩:=Qw (show _=3 from (by simpa using hl));exact⟨_,rfl,rfl⟩
def tY:Binds (κ w) eM ["self","sizes","levers","prices"] []:=(hU w).binds (Nh w) rfl λ_ _ _ _ _ _ us hl=>by obtain⟨a,b,c,d,rfl⟩:=Q4 (show _=4 from (by simpa using hl));exact⟨_,rfl,rfl⟩
variable{h:Heap}
def txt{w:World}{mg:Str->Option Value}(X:adx (κ w) h)(G:h.Ns mainGlobals mg):Txt (κ w) mg where
 nM:=mg_none_of X G ↑10
 Oj:=mg_none_of X G ↑10
 Fu:=mg_none_of X G ↑10
 dY:=mg_none_of X G ↑10
 Jz:=mg_none_of X G ↑10
 bL:=mg_none_of X G ↑10
 Jr:=mg_none_of X G ↑10
 rW:=mg_none_of X G ↑10
 I0:=mg_none_of X G ↑10
 Jp:=mg_none_of X G ↑10
 d_:=mg_none_of X G ↑10
 Ni:=mg_none_of X G ↑10
 nO:=mg_none_of X G ↑10
 kr:=mg_none_of X G ↑10
 s_:=⟨_,mg_of X G (O6 w),⟨_,rfl⟩⟩
 vE:=⟨_,mg_of X G (PL w),⟨_,rfl⟩⟩
 wm:=⟨_,mg_of X G (OV w),⟨_,rfl⟩⟩
 tW:=⟨_,mg_of X G (PX w),⟨_,rfl⟩⟩
 vD:=⟨_,mg_of X G (PZ w),⟨_,rfl⟩⟩
 xP:=⟨_,mg_of X G (O8 w),⟨_,rfl⟩⟩
 ql:=eO w
 nX:=ff w
 xp:=⟨↑10,g_ w,↑10,↑10,mg_of X G ↑10⟩
 BI:=⟨↑10,j8 w,↑10,↑10,mg_of X G ↑10⟩
 EC:=⟨↑10,lD w,↑10,↑10,mg_of X G ↑10⟩
 jP:=.of (mg_of X G (Pk w)) (Pa w)
 ub:=.of (mg_of X G (P9 w)) (Po w) (OF w) (P2 w) vM vM (wM (j8 w) vM) (wM (jF w) (wM (iV w) (wM (iG w) (wM (g_ w) (wM (lD w) vM)))))
 xR:=.of (mg_of X G (P4 w)) (Ph w) (ON w) (Pz w) vM vM (wM (lD w) vM) (wM (jF w) (wM (iV w) (wM (iG w) (wM (g_ w) (wM (j8 w) vM)))))
 zZ:=mg_of X G ↑10
 k_:=mg_of X G ↑10
 mL:=mg_of X G ↑10
 Qk:=(wM ⟨jF w,↑10⟩ (wM ⟨iV w,↑10⟩ (wM ⟨iG w,↑10⟩ (wM ⟨g_ w,↑10⟩ (wM ⟨j8 w,↑10⟩ (wM ⟨lD w,↑10⟩ vM))))))
 iZ:=(Nu w)
 je:=(MV w)
 lZ:=(Oa w)
 iP:=(Nn w)
 gT:=(Of w)
 gJ:=(M0 w)
 fq:=(Nz w)
 wj:=λC h=>by obtain rfl:=eq_of_beq h;exact⟨ff w,(Nn w)⟩
 yi:=λC h=>by obtain rfl:=eq_of_beq h;exact⟨eO w,(Nu w)⟩
 tU:=λC h=>by obtain rfl:=eq_of_beq h;exact⟨ff w,(Of w)⟩
 sd:=λC h=>by obtain rfl:=eq_of_beq h;exact⟨ff w,(M0 w)⟩
 oI:=λC h=>by obtain rfl:=eq_of_beq h;exact⟨ff w,(Nz w)⟩
 xS:=λC h=>by obtain rfl:=eq_of_beq h;exact⟨eO w,(MV w)⟩
 IT:=λC h=>by obtain rfl:=eq_of_beq h;exact⟨eO w,(Oa w)⟩
def Mh{P:Program}{w:World}{mg:Str->Option Value}(X:adx (κ w) h)(G:h.Ns mainGlobals mg)(base:Heap):aT P w (κ w) mg base (bX P w) 13 568 z9 ["_law_script"] (dX 1 uS):=by
 have T:=txt X G;have Sr:tV P w (κ w) mg base du "NoDial" "dial" := ⟨⟨55,i5,["self","dial"],↑10,↑10,zd,zk w⟩,jF w,↑10,↑10,mg_of X G ↑10⟩
 have S_:tV P w (κ w) mg base eB "NoLever" "lever" := ⟨⟨81,gY,["self","lever"],↑10,↑10,yu,xG w⟩,iV w,↑10,↑10,mg_of X G ↑10⟩
 have Ta:tV P w (κ w) mg base dD "NoPrice" "lever" := ⟨⟨107,ir,["self","lever"],↑10,↑10,xY,yz w⟩,iG w,↑10,↑10,mg_of X G ↑10⟩
 have RQ:=jf P w base X G 183 182 ML λD=>xt D T;have Sl:=jf P w base X G 188 187 ML λD=>Bx D T RQ;have Sk:=jf P w base X G 195 194 ML λD=>Ck D T;have RI:=jf P w base X G 202 201 ML λD=>rY D T Sk;have S2:=jf P w base X G 207 206 ML λD=>w9 D T;have S0:=jf P w base X G 212 211 ML λD=>xF D T;have Rp:=jf P w base X G 267 266 Am λD=>wq D T RQ;have RR:=jf P w base X G 274 273 Am λD=>t_ D T Sr Rp;have RG:=jf P w base X G 281 280 Am λD=>mC D T;have RJ:=jf P w base X G 288 287 Am λD=>qN D T Sl S_;have RS:=jf P w base X G 295 294 Am λD=>tm D T Ta Rp;have Sq:=jf P w base X G 300 299 Am λD=>DJ D T;have SQ:=jf P w base X G 329 328 zj λD=>EN D T;have RD:=jf P w base X G 336 335 zj λD=>tf D T SQ Sq;have Rq:=jf P w base X G 357 356 zj λD=>vq D T;have S1:=jf P w base X G 364 363 zj λD=>xH D T Rq Sk RD;have R1:=jf P w base X G 371 370 zj λD=>yV D T Rq RD;have RP:=jf P w base X G 378 377 zj λD=>ya D T SQ;have Sy:=jf P w base X G 486 485 yZ λD=>vc D T;have Rx:=jf P w base X G 493 492 yZ λD=>xo D T;have Ry:=jf P w base X G 500 499 yZ λD=>qz D T;have Si:=jf P w base X G 505 504 yZ λD=>tQ D T Ry Rx;have Sh:=jf P w base X G 510 509 yZ λD=>tZ D T Ry Rx;have R8:=jf P w base X G 515 514 yZ λD=>sv D T;have Sj:=jf P w base X G 520 519 yZ λD=>tN D T;have SA:=jf P w base X G 532 531 yZ λD=>vp D T;have SX:=jf P w base X G 537 536 yZ λD=>xk D T;have R9:=jf P w base X G 544 543 yZ λD=>qR D T;have Rj:z6 P w (κ w) mg base ao 4 "Vault" 4 [.c6] bM:=⟨⟨225,eM,["self","sizes","levers","prices"],[.none],[.c6],mg_of X G ↑10,⟨↑10,↑10,↑10,↑10⟩,wa w,(.cons rfl .nil),λ_=>(.cons .c6 .nil),l_ (hU w) T RR RJ Sq RS RI⟩⟩
 have R7:z6 P w (κ w) mg base ao 4 "Vault" 4 [] bM:=⟨⟨225,eM,["self","sizes","levers","prices"],[],[],mg_of X G ↑10,⟨↑10,↑10,↑10,↑10⟩,tY w,.nil,λ_=>.nil,l_ (hU w) T RR RJ Sq RS RI⟩⟩
 have Q8:=F5 P w base (ff w) 232 231 Am λD=>qu D T;have Q_:=F5 P w base (ff w) 239 238 Am λD=>pR D T;have RY:=F5 P w base (ff w) 246 245 Am λD=>pN D T;have Ru:=F5 P w base (ff w) 253 252 Am λD=>pQ D T;have R6:=F5 P w base (eO w) 395 394 zj λD=>qX D T Q8 Rq;have Se:=F5 P w base (eO w) 400 399 zj λD=>sY D T;have R5:=F5 P w base (eO w) 405 404 zj λD=>sA D T;have RM:=jf P w base X G 307 306 Am λD=>BJ D T Q8;have Sn:=jf P w base X G 312 311 Am λD=>tX D T Q8 Sl;have Rv:=jf P w base X G 319 318 Am λD=>pL D T Sn;have TN:=jf P w base X G 324 323 QG λD=>EK D T Rv Ru Q8 S0;have RT:=jf P w base X G 343 342 zj λD=>xT D T Q_;have Sa:=jf P w base X G 350 349 zj λD=>qK D T Q_ S2;have Sg:=jf P w base X G 527 526 yZ λD=>tP D T Q8 RY Q_;have Ri:z6 P w (κ w) mg base az 4 "Rungs" 2 [] cR:=⟨⟨390,jg,["self","vault"],[],[],mg_of X G ↑10,⟨↑10,↑10,↑10,↑10⟩,wJ w,.nil,λ_=>.nil,tq (v_ w) T Q8 RM RT Q_ Sa S1 RP R1⟩⟩
 have RA:=F5 P w base (eO w) 419 418 zj λD=>kE D T Rv RT Q8 R1;have RL:=F5 P w base (eO w) 431 430 zj λD=>nN D T RA RM RP;have RE:=F5 P w base (eO w) 436 435 zj λD=>lU D T Q8 Rp Sr R6 TN Ru;have SO:=jf P w base X G 448 447 md5 λD=>Ec D T RM Ri Se Q8 Rj;have SY:=jf P w base X G 455 454 md5 λD=>xC D T Rj Q_ SO;have Tg:=jf P w base X G 460 459 md5 λD=>BF D T Ri Q8 RE Rj SO;have Ro:=jf P w base X G 467 466 OT λD=>xr D T Q8 RG Q_ SY;have Sd:=jf P w base X G 474 473 OT λD=>IJ D T Tg Ro;have RB:=jf P w base X G 479 478 OT λD=>vC D T Sd Q_ Ri RL;have SD:=jf P w base X G 549 548 yZ λD=>vX D T RB Ri R5 R9 Q_ SX;have RZ:=jf P w base X G 556 555 yZ λD=>pT D T Ro Sd RB;have R_:=jf P w base X G 563 562 yZ λD=>sP D T Rj RZ;exact Ko (N0 w) T Sy Si Sh Rx R7 R8 Sj SA Sd Sg Ro R_ SD
def OK:AQ (κ w)=true:=by kernel_rfl
def OL:nsIn (κ w) mainGlobals "law"=some (some (.ref 568)):=by kernel_rfl
end yF
open PySem PySem.W
def yF.hold(said:PySem.Challenge.rw_dialvault_k51_whole_both_and_together.wellSaid=true)(U3:∀ns:List Int,ns.length<=63->(∀i∈ns,aas i<=1048576)->yF.uS [.kC (ns.map L2.PV.int)]=L2.M.ok (.bl true)):PySem.Challenge.rw_dialvault_k51_whole_both_and_together.Holds:=by
 refine holds_law said λsaid=>?_;refine holds_open (q:=HD.vw) (loose:=HD.loose) (Xt:=HD.Xt) (XP:=XL HD.vw []) (Yf:=Hook.obs HD.hook) (Ya:=Hook.val HD.hook) (YP:=Hook.says HD.hook) HD.Nc (Hook.of HD.hook) (Hook.keeps HD.hook) (λs e=>xl_of s (YK.mp e).1) XL.keeps (by rfl) (by rfl) (by rfl) (λs e=>recFacts_of (YK.mp e).2) (by rfl) said (by decide +kernel) ⟨rfl,rfl,rfl,rfl,rfl,by decide +kernel⟩ ?hw ?hc
 case hw=>w_witness2
 refine L2.zX (l:=PySem.Challenge.rw_dialvault_k51_whole_both_and_together) (n:=63) (k:=13) (x := "_law_script") (K:=HD.K) (sem:=yF.uS) rfl ↑12 rfl ⟨rfl,by decide,by decide⟩ (λw h Y=>PySem.W.kIn_of Y) (λw=>yF.OK w) (λw mg fa h X G hmg=>?_) U3;have e:=hmg.symm.trans (ady X G (yF.OL w));cases e;exact⟨yF.z9,λs v=>.of_eq rfl,λbase X' G'=>yF.Mh X' G' base⟩
namespace Eu
def uJ(a b:Int)(hb:b≠0):(a-a.fdiv b*b).natAbs<b.natAbs/\0<=(a-a.fdiv b*b)*b/\(0<=a*b->a.natAbs=(a.fdiv b).natAbs*b.natAbs+(a-a.fdiv b*b).natAbs):=by
 have pos:∀(a b:Int),0<b->(a-a/b*b).natAbs<b.natAbs/\0<=(a-a/b*b)*b/\(0<=a*b->a.natAbs=(a/b).natAbs*b.natAbs+(a-a/b*b).natAbs):=by
  intro a b hb;have e:a-a/b*b=a%b:=by
   have h:=abU a b;rw[Y6] at h;lia
  have h0:=Wx a (by lia:b≠0);have h1:=Wm a hb;rw[e];refine⟨by lia,Int.mul_nonneg h0 ⋯,λhab=>?_⟩;have ha:0<=a:=by
   rcases abA a 0 with h|h
   .have:=Int.mul_neg_of_neg_of_pos h hb;lia
   .exact h
  have hq:0<=a/b:=Yo ha ⋯;have h2:=abU a b;have h3:((a/b).natAbs*b.natAbs:Nat)=(b*(a/b)).natAbs:=by
   rw[Y0,aav]
  rw[h3];have h4:0<=b*(a/b):=Int.mul_nonneg ⋯ hq;lia
 rcases abA 0 b with h|h
 .rw[Ze a ⋯];exact pos a b h
 .have h':0 < -b:=by lia
  have e:a.fdiv b=(-a)/(-b):=by
   rw[<- Ze (-a) (by lia:0<=-b),Int.neg_fdiv_neg]
  obtain⟨p1,p2,p3⟩:=pos (-a) (-b) h';have e2:-a-(-a)/(-b)*(-b)=-(a-a.fdiv b*b):=by
   rw[<- e,ab6];lia
  rw[e2] at p1 p2 p3;rw[<- e] at p3;simp only[ZT,Int.neg_mul_neg] at p1 p2 p3;exact⟨p1,p2,p3⟩
structure St (a b:Int) (r s t r' s' t':Int):Prop where
 c0:r=s*a+t*b
 c1:r'=s'*a+t'*b
 dv:∀d:Int,d∣r->d∣r'->d∣a/\d∣b
 bd:s'.natAbs*r.natAbs+s.natAbs*r'.natAbs<=b.natAbs
 sg:s'=0\/0<=r*r'
 b0:s.natAbs<=b.natAbs+1
 b1:s'.natAbs<=b.natAbs+1
 d0:t.natAbs<=a.natAbs+(b.natAbs+1)*a.natAbs+b.natAbs+1
 d1:t'.natAbs<=a.natAbs+(b.natAbs+1)*a.natAbs+b.natAbs+1
 m0:r.natAbs<=a.natAbs+b.natAbs
 m1:r'.natAbs<=b.natAbs
def start(a b:Int):St a b a 1 0 b 0 1 where
 c0:=by lia
 c1:=by lia
 dv:=λd h1 h2=>⟨h1,h2⟩
 bd:=by simp
 sg:=.inl rfl
 b0:=by lia
 b1:=by lia
 d0:=by simp
 d1:=by lia
 m0:=by lia
 m1:=by lia
def turn{a b r s t r' s' t':Int}(h:St a b r s t r' s' t')(h0:r'≠0):St a b r' s' t' (r-r.fdiv r'*r') (s-r.fdiv r'*s') (t-r.fdiv r'*t')/\(r-r.fdiv r'*r').natAbs<r'.natAbs:=by
 obtain⟨f1,f2,f3⟩:=uJ r r' h0;generalize hq:r.fdiv r'=q at *;have hb:b≠0:=by
  intro z;have:=h.m1;lia
 have hr':1<=r'.natAbs:=by lia
 have c1':r-q*r'=(s-q*s')*a+(t-q*t')*b:=by
  rw[h.c0,h.c1,adl,adl,Int.mul_add,Yx,Yx];lia
 have bd':(s-q*s').natAbs*r'.natAbs+s'.natAbs*(r-q*r').natAbs<=b.natAbs:=by
  have vv:(s-q*s').natAbs<=s.natAbs+q.natAbs*s'.natAbs:=by
   rw[<- Y0];lia
  have hbd:=h.bd;rcases h.sg with z|z
  .subst z;simp only[YL,aaz,Int.natAbs_zero,Nat.zero_mul,abB,acT] at hbd ⊢;exact hbd
  .have e:=f3 z;have k1:(s-q*s').natAbs*r'.natAbs<=(s.natAbs+q.natAbs*s'.natAbs)*r'.natAbs:=aac _ vv;have k2:(s.natAbs+q.natAbs*s'.natAbs)*r'.natAbs+s'.natAbs*(r-q*r').natAbs=s'.natAbs*r.natAbs+s.natAbs*r'.natAbs:=by
    rw[e,adm,Nat.mul_add,aav q.natAbs s'.natAbs,Nat.mul_assoc];lia
   lia
 have b1':(s-q*s').natAbs<=b.natAbs:=by
  have:(s-q*s').natAbs*1<=(s-q*s').natAbs*r'.natAbs:=Zp _ hr';lia
 have mm:(r-q*r').natAbs<=b.natAbs:=by
  have:=h.m1;lia
 have d1':(t-q*t').natAbs<=a.natAbs+(b.natAbs+1)*a.natAbs+b.natAbs+1:=by
  have e:(t-q*t')*b=(r-q*r')-(s-q*s')*a:=by lia
  have e1:((t-q*t')*b).natAbs<=(r-q*r').natAbs+((s-q*s')*a).natAbs:=by lia
  rw[Y0,Y0] at e1;have k1:(t-q*t').natAbs*1<=(t-q*t').natAbs*b.natAbs:=Zp _ ⋯;have k2:(s-q*s').natAbs*a.natAbs<=(b.natAbs+1)*a.natAbs:=aac _ ⋯;lia
 refine⟨⟨h.c1,c1',λd e1 e2=>?_,bd',?_,h.b1,by lia,h.d1,d1',?_,mm⟩,f1⟩
 .refine h.dv d ?_ e1;have e3:d∣q*r':=Xi e1 (XA _ _);have e4:=XH e2 e3
  rwa [aaS] at e4
 .exact .inr (by rwa[Y6])
 .have:=h.m1;lia
def done{a b r s t s' t':Int}(h:St a b r s t 0 s' t'):r∣a/\r∣b:=h.dv r (abC r) (Xd r)
end Eu
namespace Lc
def Dq(ns:List Nat):Nat:=ns.foldl YM 1
theorem AR:∀(ns:List Nat)(m:Nat),m∣ns.foldl YM m/\(∀n∈ns,n∣ns.foldl YM m)/\(∀k,m∣k->(∀n∈ns,n∣k)->ns.foldl YM m∣k)
 | [],m=>⟨Nat.dvd_refl m,(λ_ h=>nomatch h),λk h _=>h⟩
 | n::ns,m=>by
  obtain⟨h1,h2,h3⟩:=AR ns (YM m n);refine⟨Nat.dvd_trans (Nat.dvd_lcm_left m n) h1,λx hx=>?_,λk hm hk=>?_⟩
  .rcases Wd.mp hx with e|hx
   .rw[e];exact Nat.dvd_trans (Nat.dvd_lcm_right m n) h1
   .exact h2 x hx
  .exact h3 k (adn hm (hk n V7)) λx hx=>hk x (V5 _ hx)
variable{ns:List Nat}
def lcm_dvd{n:Nat}(h:n∈ns):n∣Dq ns:=(AR ns 1).2.1 n h
theorem pj:∀(ns:List Nat)(m:Nat),0<m->(∀n∈ns,0<n)->0<ns.foldl YM m
 | [],m,h,_=>h
 |n::ns,m,h,hp=>pj ns (YM m n) (ado h (hp n V7)) λx hx=>hp x (V5 _ hx)
def lcm_pos(h:∀n∈ns,0<n):0<Dq ns:=pj ns 1 ↑12 h
theorem qA(B:Nat):∀(ns:List Nat)(m k:Nat),0<m->m<=2^k->(∀n∈ns,0<n/\n<=2^B)->ns.foldl YM m<=2^(k+B*ns.length)
 | [],m,k,_,h,_=>by simpa using h
 | n::ns,m,k,h0,h,hp=>by
  have hn:=hp n V7;have h1:YM m n<=2^(k+B):=by
   have:YM m n<=m*n:=acg (Nat.mul_pos h0 hn.1) (adn (acU m n) (adg n m));rw[adp];exact WE this (Zg h hn.2)
  have h2:=qA B ns (YM m n) (k+B) (ado h0 hn.1) h1 λx hx=>hp x (V5 _ hx);have e:k+B*(n::ns).length=k+B+B*ns.length:=by
   rw[WS,Nat.mul_succ];lia
  rwa[e]
def CK(m n:Nat):m/Nat.gcd m n*n=YM m n:=by
 unfold YM;rw[Nat.div_mul_right_comm (Nat.gcd_dvd_left m n)]
end Lc
namespace Rg
abbrev bN:=Nat->Int
def aX(s:bN)(D:Nat->bN)(d:Nat):Int:=if D d d=0 then s d else D d d
def G(n:Nat)(s:bN)(D:Nat->bN):Nat->Nat->bN->Prop
 | 0,_,v=>∀i,i<n->s i∣v i
 |k+1,d,v=>aX s D d∣v d/\G n s D k (d+1) λi=>v i-v d/aX s D d*D d i
def U(i:Nat)(c:Int):bN:=λj=>if j=i then c else 0
variable{D:Nat->bN}{s:bN}{n:Nat}
theorem G.ext:∀{k d:Nat}{v w:bN},d+k=n->(∀i,i<n->v i=w i)->G n s D k d v->G n s D k d w
 | 0,d,v,w,_,e,h=>λi hi=>by rw[<- e i hi];exact h i hi
 | k+1,d,v,w,hn,e,h=>by
  have ed:=e d ⋯;refine⟨by rw[<- ed];exact h.1,G.ext ⋯ (λi hi=>?_) h.2⟩;rw[e i hi,ed]
theorem G.add:∀{k d:Nat}{v w:bN},d+k=n->G n s D k d v->G n s D k d w->G n s D k d λi=>v i+w i
 | 0,d,v,w,_,h,h'=>λi hi=>XH (h i hi) (h' i hi)
 | k+1,d,v,w,hn,h,h'=>by
  refine⟨XH h.1 h'.1,G.ext ⋯ (λi hi=>?_) (G.add ⋯ h.2 h'.2)⟩;show _=v i+w i-(v d+w d)/aX s D d*D d i;rw[Int.add_ediv_of_dvd_left h.1,Int.add_mul];lia
theorem G.mul(c:Int):∀{k d:Nat}{v:bN},d+k=n->G n s D k d v->G n s D k d λi=>c*v i
 | 0,d,v,_,h=>λi hi=>Xi (h i hi) (XA _ _)
 | k+1,d,v,hn,h=>by
  refine⟨Xi h.1 (XA _ _),G.ext ⋯ (λi hi=>?_) (G.mul c ⋯ h.2)⟩;show _=c*v i-c*v d/aX s D d*D d i;rw[acy c h.1,Int.mul_sub,Yx]
theorem G.zero:∀{k d:Nat},d+k=n->G n s D k d λ_=>0
 | 0,d,_=>λi _=>Xd _
 |k+1,d,hn=>⟨Xd _,G.ext ⋯ (λi hi=>by simp) (G.zero (k:=k) (d:=d+1) ⋯)⟩
theorem G.skip{v:bN}:∀{j k d:Nat},d+(j+k)=n->(∀i,d<=i->i<d+j->v i=0)->G n s D k (d+j) v->G n s D (j+k) d v
 | 0,k,d,_,_,h=>by rwa[abB]
 | j+1,k,d,hn,hz,h=>by
  rw[show j+1+k=(j+k)+1 by lia];have z:=hz d (VX _) ⋯;refine⟨by rw[z];exact Xd _,G.ext (v:=v) ⋯ (λi hi=>by rw[z];simp) (G.skip ⋯ (λi h1 h2=>hz i ⋯ ⋯) (by rwa[show d+1+j=d+(j+1) by lia]))⟩
structure Good (n:Nat) (s:bN) (D:Nat->bN):Prop where
 sp:∀i,i<n->0<s i
 jJ:∀d,d<n->∀i,i<n->0<=D d i/\D d i<s i
 vv:∀d,d<n->∀i,i<d->D d i=0
 dv:∀d,d<n->aX s D d∣s d
 NX:∀d k,d+(k+1)=n->G n s D k (d+1) λi=>s d/aX s D d*D d i
variable{d:Nat}
variable{v:bN}{k:Nat}
theorem Good.pos(g:Good n s D)(h:d<n):0<aX s D d/\aX s D d<=s d:=by
 have h1:=g.jJ d h d h;have h2:=g.sp d h;unfold aX
 split<;>lia
theorem Good.diag(g:Good n s D)(h:d<n):s d∣D d d-aX s D d:=by
 unfold aX
 split
 .rename_i z;rw[z];exact⟨-1,by lia⟩
 .rw[abD];exact Xd _
theorem Good.turn(g:Good n s D):∀{k d i:Nat}(c:Int),d+k=n->i<n->G n s D k d (U i (c*s i))
 | 0,d,i,c,_,hi=>λj hj=>by
  unfold U
  split
  .rename_i z;rw[z];exact XA _ _
  .exact Xd _
 | k+1,d,i,c,hn,hi=>by
  have hd:d<n:=by lia
  by_cases z:i=d
  .subst z;have dv:=g.dv i hi;refine⟨by show _∣U i _ i;rw[U,if_pos rfl];exact Xi dv (XA _ _),?_⟩;refine G.ext ⋯ (λj hj=>?_) (G.add ⋯ (g.turn (k:=k) (d:=i+1) (i:=i) c ⋯ hi) (G.mul (-c) ⋯ (g.NX i k hn)));show U i (c*s i) j+-c*(s i/aX s D i*D i j)=U i (c*s i) j-U i (c*s i) i/aX s D i*D i j;rw[show U i (c*s i) i=c*s i by rw[U,if_pos rfl],acy c dv,aa5,Yx];lia
  .have u0:U i (c*s i) d=0:=by rw[U,if_neg (Xs z)]
   refine⟨by rw[u0];exact Xd _,G.ext ⋯ (λj hj=>?_) (g.turn (k:=k) (d:=d+1) (i:=i) c ⋯ hi)⟩;rw[u0];simp
def G.nZ{w:bN}(ht:∀i c,i<n->G n s D k d (U i (c*s i)))(hn:d+k=n)(h:∀i,i<n->s i∣w i-v i)(hv:G n s D k d v):G n s D k d w:=by
 have key:∀m,m<=n->G n s D k d λi=>if i<m then w i else v i:=by
  intro m
  induction m with
  | zero=>intro _;exact G.ext hn (λi _=>by simp) hv
  | succ m ih =>
   intro hm;obtain⟨c,hc⟩:=h m ⋯;refine G.ext hn (λi hi=>?_) (G.add hn (ih ⋯) (ht m c ⋯));show (if i<m then w i else v i)+U m (c*s m) i=if i<m+1 then w i else v i;unfold U
   by_cases z:i=m
   .subst z;rw[if_neg ⋯,if_pos rfl,if_pos ⋯,Y6 c];lia
   .rw[if_neg z]
    by_cases q:i<m
    .rw[if_pos q,if_pos ⋯];lia
    .rw[if_neg q,if_neg ⋯];lia
 exact G.ext hn (λi hi=>by simp[hi]) (key n (VX _))
theorem Good.nZ(g:Good n s D){k d:Nat}{v w:bN}(hn:d+k=n)(h:∀i,i<n->s i∣w i-v i)(hv:G n s D k d v):G n s D k d w :=
 G.nZ (λi c hi=>g.turn c hn hi) hn h hv
def Good.sub(g:Good n s D){w:bN}(hn:d+k=n)(hv:G n s D k d v)(hw:G n s D k d w):G n s D k d λi=>v i-w i :=
 G.ext hn (λi _=>by lia) (G.add hn hv (G.mul (-1) hn hw))
theorem Good.own(g:Good n s D)(hn:d+(k+1)=n):G n s D (k+1) d (D d):=by
 have hd:d<n:=by lia
 by_cases z:D d d=0
 .have e:aX s D d=s d:=by unfold aX;rw[if_pos z]
  have c:=g.NX d k hn;rw[e] at c;refine⟨by rw[z];exact Xd _,G.ext ⋯ (λi hi=>?_) c⟩;rw[z,Int.ediv_self (by have:=g.sp d hd;lia)];simp
 .have e:aX s D d=D d d:=by unfold aX;rw[if_neg z]
  refine⟨by rw[e];exact abC _,G.ext ⋯ (λi hi=>?_) (G.zero (k:=k) (d:=d+1) ⋯)⟩;rw[e,Int.ediv_self z];lia
theorem Good.row(g:Good n s D)(hd:d<n):∀{k e:Nat},e+k=n->e<=d->G n s D k e (D d):=by
 intro k e hn he;have h:=g.own (d:=d) (k:=n-d-1) ⋯;have:=G.skip (n:=n) (s:=s) (D:=D) (v:=D d) (j:=d-e) (k:=n-d-1+1) (d:=e) ⋯ (λi h1 h2=>g.vv d hd i ⋯) (by rwa[show e+(d-e)=d by lia]);rwa[show d-e+(n-d-1+1)=k by lia] at this
structure Tk (n:Nat) (s:bN) (D D' L:Nat->bN) (u v g:Nat->Int):Prop where
 gp:∀d,d<n->0<g d
 bz:∀d,d<n->u d*aX s D d+v d*L d d=g d
 g1:∀d,d<n->g d∣aX s D d
 g2:∀d,d<n->g d∣L d d
 Nl:∀d,d<n->∀i,i<n->D' d i=(u d*D d i+v d*L d i)%s i
 M1:∀d,d<n->∀i,i<n->L (d+1) i=(aX s D d/g d*L d i+-(L d d/g d)*D d i)%s i
 l0:∀i,i<n->0<=L 0 i/\L 0 i<s i
variable{a b:Int}
section
variable{D' L:Nat->bN}{u v g:Nat->Int}
theorem cX(a b:Int):b∣a%b-a:=⟨-(a/b),by have:=aaA a b;rw[ab6];lia⟩
theorem uM(a b:Int):b∣a-a%b:=⟨a/b,by have:=aaA a b;lia⟩
theorem Tk.kept(t:Tk n s D D' L u v g)(G:Good n s D):∀d,d<=n->∀i,i<n->0<=L d i/\L d i<s i:=by
 intro d hd i hi;cases d with
 | zero=>exact t.l0 i hi
 | succ d =>
  rw[t.M1 d ⋯ i hi];have:=G.sp i hi;exact⟨Wx _ ⋯,Wm _ this⟩
theorem iA(h0:0<=a)(h1:a<b)(h:b∣a):a=0:=by
 obtain⟨c,rfl⟩:=h;rcases abA 0 c with hc|hc
 .have:b*1<=b*c:=Yg hc ⋯;lia
 .have:b*c<=0:=ZC ⋯ hc;lia
theorem Tk.zero(t:Tk n s D D' L u v g)(G:Good n s D):∀d,d<=n->∀i,i<d->L d i=0:=by
 intro d
 induction d with
 | zero=>intro _ i hi;lia
 | succ d ih =>
  intro hd i hi;have UP:d<n:=by lia
  have k:=t.kept G (d+1) hd i ⋯;refine iA k.1 k.2 ?_;rw[t.M1 d UP i ⋯];rcases WW i d with h|h
  .rw[ih ⋯ i h,G.vv d UP i h];simp
  .obtain rfl:i=d:=by lia
   refine Xi ?_ (abC _);obtain⟨c,hc⟩:=G.diag UP;obtain⟨a,ha⟩:=t.g1 i UP;obtain⟨b,hb⟩:=t.g2 i UP;have gp:=t.gp i UP;have e1:aX s D i/g i=a:=by rw[ha];exact We a ⋯
   have e2:L i i/g i=b:=by rw[hb];exact We b ⋯
   rw[e1,e2];have e3:a*L i i+-b*D i i=s i*(-b*c):=by
    have:D i i=aX s D i+s i*c:=by lia
    rw[this,ha,hb];grind
   rw[e3,Int.mul_emod_right];exact Xd _
theorem Tk.step(t:Tk n s D D' L u v g)(G:Good n s D)(hd:d<n):aX s D' d=g d:=by
 obtain⟨c,hc⟩:=G.diag hd;have gp:=t.gp d hd;have sp:=G.sp d hd;have st:=G.pos hd;have le:g d<=aX s D d:=ach st.1 (t.g1 d hd);have e:D' d d=g d%s d:=by
  rw[t.Nl d hd d hd,<- t.bz d hd];have:D d d=aX s D d+s d*c:=by lia
  rw[this,show u d*(aX s D d+s d*c)+v d*L d d=(u d*aX s D d+v d*L d d)+s d*(u d*c) by grind,Int.add_mul_emod_self_left]
 unfold aX;rw[e]
 by_cases z:g d=s d
 .rw[z,Int.emod_self,if_pos rfl]
 .rw[Yi ⋯ ⋯,if_neg ⋯]
theorem Tk.main(t:Tk n s D D' L u v g)(Gd:Good n s D):∀k d,d+k=n->(∀w,G n s D k d w->G n s D' k d w)/\G n s D' k d (L d)
 | 0,d,hn=>by
  refine⟨λw h=>h,λi hi=>?_⟩;rw[t.zero Gd d ⋯ i ⋯];exact Xd _
 | k+1,d,hn=>by
  obtain⟨i1,i2⟩:=t.main Gd k (d+1) ⋯;have hd:d<n:=by lia
  have turn:∀i c,i<n->G n s D' k (d+1) (U i (c*s i)):=λi c hi=>i1 _ (Gd.turn c ⋯ hi);have st:=t.step Gd hd;have gp:=t.gp d hd;obtain⟨a,ha⟩:=t.g1 d hd;obtain⟨b,hb⟩:=t.g2 d hd;have e1:aX s D d/g d=a:=by rw[ha];exact We a ⋯
  have e2:L d d/g d=b:=by rw[hb];exact We b ⋯
  have bz:u d*a+v d*b=1:=by
   have:=t.bz d hd;rw[ha,hb,show u d*(g d*a)+v d*(g d*b)=g d*(u d*a+v d*b) by grind] at this;have h2:g d*(u d*a+v d*b)=g d*1:=by lia
   exact W4 ⋯ h2
  have w1:∀i,i<n->∃c,D' d i=u d*D d i+v d*L d i+s i*c:=λi hi=>by
   obtain⟨c,hc⟩:=cX (u d*D d i+v d*L d i) (s i);exact⟨c,by rw[t.Nl d hd i hi];lia⟩
  have w2:∀i,i<n->∃c,L (d+1) i=a*L d i+-b*D d i+s i*c:=λi hi=>by
   obtain⟨c,hc⟩:=cX (a*L d i+-b*D d i) (s i);exact⟨c,by rw[t.M1 d hd i hi,e1,e2];lia⟩
  constructor
  .intro w h;obtain⟨h1,h2⟩:=h;refine⟨by rw[st];exact Xi (t.g1 d hd) h1,?_⟩;obtain⟨q,hq⟩:=h1;have sp:=(Gd.pos hd).1;have q1:w d/aX s D d=q:=by rw[hq];exact We q ⋯
   have q2:w d/aX s D' d=q*a:=by
    rw[st,hq,ha,show g d*a*q=g d*(q*a) by grind];exact We _ ⋯
   rw[q2];rw[q1] at h2;refine G.nZ turn ⋯ (λi hi=>?_) (G.add ⋯ (i1 _ h2) (G.mul (q*-(v d)) ⋯ i2));obtain⟨c1,hc1⟩:=w1 i hi;obtain⟨c2,TZ⟩:=w2 i hi;refine⟨q*(v d*c2-a*c1),?_⟩;rw[hc1,TZ];grind
  .refine⟨by rw[st];exact t.g2 d hd,?_⟩;rw[st,e2];refine G.nZ turn ⋯ (λi hi=>?_) (G.mul (u d) ⋯ i2);obtain⟨c1,hc1⟩:=w1 i hi;obtain⟨c2,TZ⟩:=w2 i hi;refine⟨-(b*c1)-u d*c2,?_⟩;rw[hc1,TZ];grind
theorem Tk.good(t:Tk n s D D' L u v g)(Gd:Good n s D):Good n s D' where
 sp:=Gd.sp
 jJ:=λd hd i hi=>by
  rw[t.Nl d hd i hi];have:=Gd.sp i hi;exact⟨Wx _ ⋯,Wm _ this⟩
 vv:=λd hd i hi=>by
  rw[t.Nl d hd i ⋯,Gd.vv d hd i hi,t.zero Gd d ⋯ i hi];simp
 dv:=λd hd=>by
  rw[t.step Gd hd];exact Xi (t.g1 d hd) (Gd.dv d hd)
 NX:=λd k hn=>by
  have hd:d<n:=by lia
  have h1:=(t.main Gd (k+1) d hn).1 _ (Gd.turn (i:=d) 1 hn hd);have h2:=(t.main Gd k (d+1) ⋯).1 _ (Gd.turn (i:=d) 1 ⋯ hd);have h3:=h1.2;have ud:U d (1*s d) d=s d:=by rw[U,if_pos rfl,Yy]
  rw[ud] at h3;refine G.ext ⋯ (λi hi=>?_) (G.add ⋯ h2 (G.mul (-1) ⋯ h3));show U d (1*s d) i+-1*(U d (1*s d) i-s d/aX s D' d*D' d i)=_;lia
end
variable{W:Nat->bN}
variable{i:Nat}
section
variable{D':Nat->bN}
theorem Good.HL(Gd:Good n s D)(jJ:∀d,d<n->∀i,i<n->0<=D' d i/\D' d i<s i)(vv:∀d,d<n->∀i,i<d->D' d i=0)(dv:∀d,d<n->aX s D' d∣s d)(h:∀k d,d+k=n->∀w,G n s D k d w->G n s D' k d w):Good n s D' where
 sp:=Gd.sp
 jJ:=jJ
 vv:=vv
 dv:=dv
 NX:=λd k hn=>by
  have hd:d<n:=by lia
  have h1:=h (k+1) d hn _ (Gd.turn (i:=d) 1 hn hd);have h2:=h k (d+1) ⋯ _ (Gd.turn (i:=d) 1 ⋯ hd);have h3:=h1.2;have ud:U d (1*s d) d=s d:=by rw[U,if_pos rfl,Yy]
  rw[ud] at h3;refine G.ext ⋯ (λi hi=>?_) (G.add ⋯ h2 (G.mul (-1) ⋯ h3));show U d (1*s d) i+-1*(U d (1*s d) i-s d/aX s D' d*D' d i)=_;lia
structure Dn (n:Nat) (s:bN) (D:Nat->bN) (f:Nat) (W:Nat->bN):Prop where
 w0:∀i,i<n->0<=W f i/\W f i<s i
 ws:∀d,f<=d->d<n->∀i,i<n->W (d+1) i=(1*W d i+-(W d d/aX s D d)*D d i)%s i
variable{f:Nat}
theorem Dn.kept(h:Dn n s D f W)(Gd:Good n s D):∀d,f<=d->d<=n->∀i,i<n->0<=W d i/\W d i<s i:=by
 intro d hf hd i hi;rcases WW f d with q|q
 .obtain⟨e,rfl⟩:∃e,d=e+1:=⟨d-1,by lia⟩
  rw[h.ws e ⋯ ⋯ i hi];have:=Gd.sp i hi;exact⟨Wx _ ⋯,Wm _ this⟩
 .obtain rfl:d=f:=by lia
  exact h.w0 i hi
theorem Dn.ahead(h:Dn n s D f W)(Gd:Good n s D)(hf:f<=d)(hd:d<n)(hi:i<d):W (d+1) i=W d i:=by
 have k:=h.kept Gd d hf ⋯ i ⋯;rw[h.ws d hf hd i ⋯,Gd.vv d hd i hi,YL,abE,Yy,Yi k.1 k.2]
theorem Dn.at_(h:Dn n s D f W)(Gd:Good n s D)(hf:f<=d)(hd:d<n):W (d+1) d=W d d%aX s D d:=by
 have k:=h.kept Gd d hf ⋯ d hd;have p:=Gd.pos hd;rw[h.ws d hf hd d hd];have e:=aaA (W d d) (aX s D d);have q0:=Wx (W d d) (show aX s D d≠0 by lia);have q1:=Wm (W d d) p.1
 by_cases z:D d d=0
 .have st:aX s D d=s d:=by unfold aX;rw[if_pos z]
  rw[z,st,Yi k.1 k.2,YL,abE,Yy,Yi k.1 k.2]
 .have st:aX s D d=D d d:=by unfold aX;rw[if_neg z]
  rw[<- st,show 1*W d d+-(W d d/aX s D d)*aX s D d=W d d%aX s D d by rw[e];grind];exact Yi q0 ⋯
theorem Dn.low(h:Dn n s D f W)(Gd:Good n s D):∀d,f<=d->d<=n->∀e,f<=e->e<d->0<=W d e/\W d e<aX s D e:=by
 intro d
 induction d with
 | zero=>intro _ _ e _ he;lia
 | succ d ih =>
  intro hf hd e he hed;rcases WW e d with q|q
  .rw[h.ahead Gd ⋯ ⋯ q];exact ih ⋯ ⋯ e he q
  .obtain rfl:e=d:=by lia
   have p:=Gd.pos (show e<n by lia);rw[h.at_ Gd he ⋯];exact⟨Wx _ ⋯,Wm _ p.1⟩
theorem Dn.front(h:Dn n s D f W)(Gd:Good n s D):∀d,f<=d->d<=n->∀i,i<f->W d i=W f i:=by
 intro d
 induction d with
 | zero=>intro h1 _ i hi;lia
 | succ d ih =>
  intro hf hd i hi;rcases WW d f with q|q
  .rw[show d+1=f by lia]
  .rw[h.ahead Gd q ⋯ ⋯];exact ih q ⋯ i hi
theorem Dn.run(h:Dn n s D f W)(Gd:Good n s D):∀k d,f<=d->d+k=n->G n s D k d (W d)->∀i,i<n->W n i=0
 | 0,d,hf,hn,g,i,hi=>by
  rw[acT] at hn;subst hn;have k:=h.kept Gd d hf (VX _) i hi;exact iA k.1 k.2 (g i hi)
 | k+1,d,hf,hn,g,i,hi=>by
  refine h.run Gd k (d+1) ⋯ ⋯ (Gd.nZ ⋯ (λj hj=>?_) g.2) i hi;rw[h.ws d hf ⋯ j hj];have:=cX (1*W d j+-(W d d/aX s D d)*D d j) (s j);rw[show 1*W d j+-(W d d/aX s D d)*D d j=W d j-W d d/aX s D d*D d j by grind] at this;rw[show 1*W d j+-(W d d/aX s D d)*D d j=W d j-W d d/aX s D d*D d j by grind];exact this
theorem Dn.away(h:Dn n s D f W)(Gd:Good n s D):∀d,f<=d->d<=n->∀k,f+k=n->G n s D k f λi=>W f i-W d i:=by
 intro d
 induction d with
 | zero =>
  intro hf _ k hn;obtain rfl:f=0:=by lia
  exact G.ext hn (λi _=>by lia) (G.zero hn)
 | succ d ih =>
  intro hf hd k hn;rcases WW d f with q|q
  .rw[show d+1=f by lia];exact G.ext hn (λi _=>by lia) (G.zero hn)
  .refine Gd.nZ hn (λi hi=>?_) (G.add hn (ih q ⋯ k hn) (G.mul (W d d/aX s D d) hn (Gd.row (show d<n by lia) hn q)));rw[h.ws d q ⋯ i hi];have:=uM (1*W d i+-(W d d/aX s D d)*D d i) (s i);obtain⟨c,hc⟩:=this;exact⟨c,by rw[<- hc];grind⟩
theorem G.small(Gd:Good n s D):∀k d (v:bN),d+k=n->(∀i,i<n->0<=v i/\v i<s i)->(∀i,d<=i->i<n->v i<aX s D i)->G n s D k d v->∀i,i<n->v i=0
 | 0,d,v,hn,h0,_,g,i,hi=>iA (h0 i hi).1 (h0 i hi).2 (g i hi)
 | k+1,d,v,hn,h0,h1,g,i,hi=>by
  have z:v d=0:=iA (h0 d ⋯).1 (h1 d (VX _) ⋯) g.1;refine G.small Gd k (d+1) v ⋯ h0 (λj hj=>h1 j ⋯) (G.ext ⋯ (λj hj=>?_) g.2) i hi;rw[z];simp
theorem xg(Gd:Good n s D)(W:Nat->Nat->bN)(hW:∀d,d<n->Dn n s D (d+1) (W d))(h0:∀d,d<n->∀i,i<n->W d (d+1) i=D d i)(hD:∀d,d<n->∀i,i<n->D' d i=W d n i):Good n s D'/\(∀d,d<n->aX s D' d=aX s D d)/\(∀d,d<n->∀e,d<e->e<n->D' d e<aX s D e)/\(∀d,d<n->D' d d=0->∀i,i<n->D' d i=0)/\(∀k d,d+k=n->∀w,G n s D k d w->G n s D' k d w):=by
 have dg:∀d,d<n->∀i,i<=d->D' d i=D d i:=λd hd i hi=>by
  rw[hD d hd i ⋯,(hW d hd).front Gd n ⋯ (VX _) i ⋯,h0 d hd i ⋯]
 have st:∀d,d<n->aX s D' d=aX s D d:=λd hd=>by
  unfold aX;rw[dg d hd d (VX _)]
 have pM:∀k d,d+k=n->∀w,G n s D k d w->G n s D' k d w:=by
  intro k
  induction k with
  | zero=>intro d _ w h;exact h
  | succ k ih =>
   intro d hn w h;have hd:d<n:=by lia
   refine⟨by rw[st d hd];exact h.1,ih (d+1) ⋯ _ ?_⟩;rw[st d hd];refine G.ext ⋯ (λi hi=>?_) (G.add ⋯ h.2 (G.mul (w d/aX s D d) ⋯ ((hW d hd).away Gd n ⋯ (VX _) k ⋯)));show w i-w d/aX s D d*D d i+w d/aX s D d*(W d (d+1) i-W d n i)=_;rw[h0 d hd i hi,hD d hd i hi];grind
 have good:Good n s D':=Gd.HL (λd hd i hi=>by rw[hD d hd i hi];exact(hW d hd).kept Gd n ⋯ (VX _) i hi) (λd hd i hi=>by rw[dg d hd i ⋯];exact Gd.vv d hd i hi) (λd hd=>by rw[st d hd];exact Gd.dv d hd) pM;have lt:∀d,d<n->∀e,d<e->e<n->D' d e<aX s D e:=λd hd e he hen=>by
  rw[hD d hd e hen];exact((hW d hd).low Gd n ⋯ (VX _) e ⋯ hen).2
 refine⟨good,st,lt,λd hd z=>?_,pM⟩;have h1:=good.own (d:=d) (k:=n-d-1) ⋯;have h2:=h1.2;refine G.small good (n-d-1) (d+1) (D' d) ⋯ (good.jJ d hd) (λi h1 h2=>by rw[st i h2];exact lt d hd i ⋯ h2) (G.ext ⋯ (λi hi=>?_) h2);rw[z];simp
end
def bI:Nat->(Nat->Int)->Int
 | 0,_=>0
 |m+1,f=>bI m f+f m
theorem iR(a b:Int)(f g h:Nat->Int):∀m,(∀l,l<m->h l=a*f l+b*g l)->bI m h=a*bI m f+b*bI m g
 | 0,_=>by simp[bI]
 | m+1,e=>by
  rw[bI,bI,bI,iR a b f g h m λl hl=>e l ⋯,e m ⋯];grind
theorem dq{f g:Nat->Int}:∀{m:Nat},(∀l,l<m->f l=g l)->bI m f=bI m g
 | 0,_=>rfl
 |m+1,e=>by rw[bI,bI,dq λl hl=>e l ⋯,e m ⋯]
theorem fK:∀m,bI m (λ_=>0)=0
 | 0=>rfl
 |m+1=>by rw[bI,fK m];rfl
theorem fX(k:Nat)(a:Int):∀m,k<m->∀f:Nat->Int,(∀l,l<m->f l=if l=k then a else 0)->bI m f=a
 | 0,h,_,_=>by lia
 | m+1,h,f,e=>by
  rw[bI]
  by_cases z:k=m
  .subst z;rw[dq (g:=λ_=>0) λl hl=>by rw[e l ⋯,if_neg ⋯],fK,e k ⋯,if_pos rfl];lia
  .rw[fX k a m ⋯ f λl hl=>e l ⋯,e m ⋯,if_neg ⋯];lia
def Led(n:Nat)(s:bN)(m:Nat)(A:Nat->bN)(v P:bN):Prop:=∀i,i<n->s i∣v i-bI m λl=>P l*A l i
variable{m:Nat}
theorem Led.mix{A:Nat->bN}{w x P Q R:bN}(h1:Led n s m A v P)(h2:Led n s m A w Q)(hx:∀i,i<n->s i∣x i-(a*v i+b*w i))(hR:∀l,l<m->R l=a*P l+b*Q l):Led n s m A x R:=λi hi=>by
 obtain⟨c1,e1⟩:=h1 i hi;obtain⟨c2,e2⟩:=h2 i hi;obtain⟨c3,e3⟩:=hx i hi;rw[iR a b (λl=>P l*A l i) (λl=>Q l*A l i) (λl=>R l*A l i) m λl hl=>by rw[hR l hl];grind];exact⟨a*c1+b*c2+c3,by grind⟩
def bB:Nat->(Nat->Int)->Int
 | 0,_=>1
 |m+1,f=>bB m f*f m
theorem uL{f g h:Nat->Int}:∀{m:Nat},(∀l,l<m->f l=g l*h l)->bB m f=bB m g*bB m h
 | 0,_=>rfl
 |m+1,e=>by rw[bB,bB,bB,uL λl hl=>e l ⋯,e m ⋯];grind
theorem ju{f g:Nat->Int}:∀{m:Nat},(∀l,l<m->f l=g l)->bB m f=bB m g
 | 0,_=>rfl
 |m+1,e=>by rw[bB,bB,ju λl hl=>e l ⋯,e m ⋯]
theorem lH{f:Nat->Int}:∀{m:Nat},(∀l,l<m->0<f l)->0<bB m f
 | 0,_=>(by decide:(0:Int)<1)
 |m+1,e=>adq (lH λl hl=>e l ⋯) (e m ⋯)
def vf(xs:List Int):bN:=λi=>xs.getD i 0
variable{xs:List Int}
def aQ(h:i<xs.length):vf xs i=xs[i]:=by
 unfold vf;rw[VZ,VT h];rfl
def sM(h:xs.length<=i):vf xs i=0:=by
 unfold vf;rw[VZ,Y9 h];rfl
def pJ(xs:List Int)(a:Int)(ys:List Int)(b:Int):List Int:=(xs.zip ys).map λz=>a*z.1+b*z.2
def BP(xs Q5:List Int):List Int:=(xs.zip Q5).map λz=>z.1%z.2
variable{ys:List Int}
def cj:(pJ xs a ys b).length=min xs.length ys.length:=by simp[pJ]
def kZ:(BP xs ys).length=min xs.length ys.length:=by simp[BP]
theorem fN(h1:i<xs.length)(h2:i<ys.length):vf (pJ xs a ys b) i=a*vf xs i+b*vf ys i:=by
 rw[aQ (by rw[cj];lia),aQ h1,aQ h2];simp[pJ]
theorem kT(h1:i<xs.length)(h2:i<ys.length):vf (BP xs ys) i=vf xs i%vf ys i:=by
 rw[aQ (by rw[kZ];lia),aQ h1,aQ h2];simp[BP]
def mK(hl:xs.length=ys.length)(h:∀i,i<xs.length->vf xs i=vf ys i):xs=ys:=by
 refine adh hl λi h1 h2=>?_;have:=h i h1
 rwa [aQ h1,aQ h2] at this
def cZ(n:Nat)(i:Nat):vf (VS n 0) i=0:=by
 rcases WW i n with h|h
 .rw[aQ (by simpa using h)];simp
 .rw[sM (by simpa using h)]
def Bd(B:Nat)(xs:List Int):Prop:=∀x∈xs,x.natAbs<2^B
def Bd.mono{B C:Nat}(h:Bd B xs)(hc:B<=C):Bd C xs:=λx hx=>V8 (h x hx) (Xw ↑12 hc)
theorem Bd.vf{B:Nat}{xs:List Int}(h:Bd B xs)(i:Nat):(vf xs i).natAbs<2^B:=by
 rcases WW i xs.length with q|q
 .rw[aQ q];exact h _ (Wu q)
 .rw[sM q];exact Yn B
def yX{A B:Nat}(ha:a.natAbs<2^A)(hb:b.natAbs<2^B):(a*b).natAbs<2^(A+B):=by
 rw[Y0,adp];have h0:0<2^A:=Yn A;have h1:0<2^B:=Yn B;exact Nat.mul_lt_mul_of_lt_of_le ha (Y5 hb) h1
theorem KJ{A:Nat}(ha:a.natAbs<2^A)(hb:b.natAbs<2^A):(a+b).natAbs<2^(A+1):=by
 rw[abF];lia
def Bd.mix{A B:Nat}(hx:Bd B xs)(hy:Bd B ys)(ha:a.natAbs<2^A)(hb:b.natAbs<2^A):Bd (A+B+1) (pJ xs a ys b):=by
 intro z hz;obtain⟨w,hw,rfl⟩:=WU.mp hz;have:=Xf (a:=w.1) (b:=w.2) hw;exact KJ (yX ha (hx _ this.1)) (yX hb (hy _ this.2))
abbrev Row:=List Int×List Int
def row(rows:List Row)(d:Nat):Row:=rows.getD d ([],[])
def DD(rows:List Row):Nat->bN:=λd=>vf (row rows d).1
def PP(rows:List Row):Nat->bN:=λd=>vf (row rows d).2
structure Wf (n m:Nat) (rows:List Row):Prop where
 len:rows.length=n
 l1:∀r∈rows,r.1.length=n
 l2:∀r∈rows,r.2.length=m
variable{rows:List Row}
def gN(h:d<rows.length):row rows d=rows[d]:=by
 unfold row;rw[VZ,VT h];rfl
def Wf.og(w:Wf n m rows)(h:d<n):(row rows d).1.length=n:=by
 rw[gN (by rwa[w.len])];exact w.l1 _ (Wu _)
def Wf.at2(w:Wf n m rows)(h:d<n):(row rows d).2.length=m:=by
 rw[gN (by rwa[w.len])];exact w.l2 _ (Wu _)
def sV(Q5:List Int)(r:Row)(a:Int)(q:Row)(b:Int):Row:=(BP (pJ r.1 a q.1 b) Q5,pJ r.2 a q.2 b)
def aB(c:Int->Int->Int×Int)(Q5:List Int)(rows:List Row)(left:Row):Nat->Row
 | 0=>left
 | d+1 =>
  let l:=aB c Q5 rows left d
  let st:=aX (vf Q5) (DD rows) d
  let nt:=vf l.1 d
  sV Q5 l (st/(WH st nt:Nat)) (row rows d) (-(nt/(WH st nt:Nat)))
def eR(c:Int->Int->Int×Int)(Q5:List Int)(rows:List Row)(left:Row)(d:Nat):Row :=
 let l:=aB c Q5 rows left d
 let st:=aX (vf Q5) (DD rows) d
 let nt:=vf l.1 d
 sV Q5 (row rows d) (c st nt).1 l (c st nt).2
def cL(c:Int->Int->Int×Int)(Q5:List Int)(rows:List Row)(left:Row)(n:Nat):List Row:=(V6 n).map (eR c Q5 rows left)
variable{left:Row}{Q5:List Int}{c:Int->Int->Int×Int}
theorem dr(w:Wf n m rows)(hs:Q5.length=n)(h1:left.1.length=n)(h2:left.2.length=m):∀d,d<=n->(aB c Q5 rows left d).1.length=n/\(aB c Q5 rows left d).2.length=m
 | 0,_=>⟨h1,h2⟩
 | d+1,hd=>by
  obtain⟨i1,i2⟩:=dr w hs h1 h2 d ⋯;have e1:=w.og (d:=d) ⋯;have e2:=w.at2 (d:=d) ⋯;simp only[aB,sV];rw[kZ,cj,cj];exact⟨by lia,by lia⟩
def lx(h:d<n):row (cL c Q5 rows left n) d=eR c Q5 rows left d:=by
 rw[gN (by simp[cL,h])];simp[cL]
theorem E3(w:Wf n m rows)(hs:Q5.length=n)(h1:left.1.length=n)(h2:left.2.length=m):Wf n m (cL c Q5 rows left n):=by
 have key:∀d,d<n->(eR c Q5 rows left d).1.length=n/\(eR c Q5 rows left d).2.length=m:=λd hd=>by
  obtain⟨i1,i2⟩:=dr (c:=c) w hs h1 h2 d ⋯;have e1:=w.og (d:=d) hd;have e2:=w.at2 (d:=d) hd;simp only[eR,sV];rw[kZ,cj,cj];exact⟨by lia,by lia⟩
 refine⟨by simp[cL],λr hr=>?_,λr hr=>?_⟩
 .obtain⟨d,hd,rfl⟩:=WU.mp hr;exact(key d (W5.mp hd)).1
 .obtain⟨d,hd,rfl⟩:=WU.mp hr;exact(key d (W5.mp hd)).2
theorem gW(h:0<a):0<(WH a b:Int):=by
 have:=Int.gcd_pos_of_ne_zero_left b (show a≠0 by lia);lia
theorem N8(w:Wf n m rows)(hs:Q5.length=n)(h1:left.1.length=n)(h2:left.2.length=m)(Gd:Good n (vf Q5) (DD rows))(h0:∀i,i<n->0<=vf left.1 i/\vf left.1 i<vf Q5 i)(hc:∀d,d<n->(c (aX (vf Q5) (DD rows) d) (vf (aB c Q5 rows left d).1 d)).1*aX (vf Q5) (DD rows) d+(c (aX (vf Q5) (DD rows) d) (vf (aB c Q5 rows left d).1 d)).2*vf (aB c Q5 rows left d).1 d=(WH (aX (vf Q5) (DD rows) d) (vf (aB c Q5 rows left d).1 d):Nat)):Tk n (vf Q5) (DD rows) (DD (cL c Q5 rows left n)) (λd=>vf (aB c Q5 rows left d).1) (λd=>(c (aX (vf Q5) (DD rows) d) (vf (aB c Q5 rows left d).1 d)).1) (λd=>(c (aX (vf Q5) (DD rows) d) (vf (aB c Q5 rows left d).1 d)).2) (λd=>(WH (aX (vf Q5) (DD rows) d) (vf (aB c Q5 rows left d).1 d):Nat)) where
 gp:=λd hd=>gW (Gd.pos hd).1
 bz:=hc
 g1:=λd hd=>Y3 ..
 g2:=λd hd=>acV ..
 Nl:=λd hd i hi=>by
  obtain⟨i1,i2⟩:=dr (c:=c) w hs h1 h2 d ⋯;have e1:=w.og (d:=d) hd;show vf (row (cL c Q5 rows left n) d).1 i=_;rw[lx hd];simp only[eR,sV];rw[kT (by rw[cj];lia) ⋯,fN ⋯ ⋯];rfl
 M1:=λd hd i hi=>by
  obtain⟨i1,i2⟩:=dr (c:=c) w hs h1 h2 d ⋯;have e1:=w.og (d:=d) hd;simp only[aB,sV];rw[kT (by rw[cj];lia) ⋯,fN ⋯ ⋯];rfl
 l0:=h0
section
variable{A:Nat->bN}
def CB(c:Int->Int->Int×Int):Prop:=∀a b:Int,0<a->a<=360->0<=b->b<=360->(c a b).1*a+(c a b).2*b=(WH a b:Nat)/\(c a b).1.natAbs<2^20/\(c a b).2.natAbs<2^20
theorem kQ(h:0<a)(h2:a<=360):0<a/(WH a b:Nat)/\a/(WH a b:Nat)<=360:=by
 have g:=gW (b:=b) h;obtain⟨q,hq⟩:((WH a b:Nat):Int)∣a:=Y3 ..;have e:a/(WH a b:Nat)=q:=by
  have:((WH a b:Nat):Int)≠0:=by lia
  exact Int.ediv_eq_of_eq_mul_right this hq
 rw[e];have q0:0<q:=by
  rcases abA 0 q with z|z
  .exact z
  .have:=ZC (acW g) z;lia
 refine⟨q0,?_⟩;have:1*q<=(WH a b:Nat)*q:=Y4 ⋯ ⋯;lia
theorem nG(h:0<a)(h1:0<=b)(h2:b<=360):0<=b/(WH a b:Nat)/\b/(WH a b:Nat)<=360:=by
 have g:=gW (b:=b) h;exact⟨Yo h1 ⋯,acX (Zk _ h1) h2⟩
def Zf(k m:Nat)(P:bN):Prop:=∀l,k<=l->l<m->P l=0
structure St (n m:Nat) (Q5:List Int) (A:Nat->bN) (k:Nat) (rows:List Row):Prop where
 wf:Wf n m rows
 hs:Q5.length=n
 sm:∀i,i<n->vf Q5 i<=360
 gd:Good n (vf Q5) (DD rows)
 led:∀d,d<n->Led n (vf Q5) m A (DD rows d) (PP rows d)
 zf:∀d,d<n->Zf k m (PP rows d)
 bd:∀d,d<n->Bd (150*k+1) (row rows d).2
 cl:∀l,l<k->G n (vf Q5) (DD rows) n 0 (A l)
structure Lv (n m:Nat) (Q5:List Int) (A:Nat->bN) (k:Nat) (left:Row):Prop where
 l1:left.1.length=n
 l2:left.2.length=m
 km:k<m
 at_:∀i,i<n->vf left.1 i=A k i
 jJ:∀i,i<n->0<=A k i/\A k i<vf Q5 i
 un:∀l,l<m->vf left.2 l=if l=k then 1 else 0
theorem lF(h:St n m Q5 A k rows)(L:Lv n m Q5 A k left):∀d,d<=n->∀i,i<n->0<=vf (aB c Q5 rows left d).1 i/\vf (aB c Q5 rows left d).1 i<vf Q5 i
 | 0,_,i,hi=>by show 0<=vf left.1 i/\vf left.1 i<vf Q5 i;rw[L.at_ i hi];exact L.jJ i hi
 | d+1,hd,i,hi=>by
  obtain⟨i1,i2⟩:=dr (c:=c) h.wf h.hs L.l1 L.l2 d ⋯;have e1:=h.wf.og (d:=d) ⋯;have hs:=h.hs;simp only[aB,sV];rw[kT (by rw[cj];lia) ⋯];have:=h.gd.sp i hi;exact⟨Wx _ ⋯,Wm _ this⟩
theorem St.tk(h:St n m Q5 A k rows)(L:Lv n m Q5 A k left)(cb:CB c):Tk n (vf Q5) (DD rows) (DD (cL c Q5 rows left n)) (λd=>vf (aB c Q5 rows left d).1) (λd=>(c (aX (vf Q5) (DD rows) d) (vf (aB c Q5 rows left d).1 d)).1) (λd=>(c (aX (vf Q5) (DD rows) d) (vf (aB c Q5 rows left d).1 d)).2) (λd=>(WH (aX (vf Q5) (DD rows) d) (vf (aB c Q5 rows left d).1 d):Nat)) :=
 N8 h.wf h.hs L.l1 L.l2 h.gd (λi hi=>by rw[L.at_ i hi];exact L.jJ i hi) λd hd=>by
  have p:=h.gd.pos hd;have q:=lF (c:=c) h L d ⋯ d hd;have s:=h.sm d hd;exact(cb _ _ p.1 ⋯ q.1 ⋯).1
theorem sL(h:St n m Q5 A k rows)(L:Lv n m Q5 A k left):∀d,d<=n->Led n (vf Q5) m A (vf (aB c Q5 rows left d).1) (vf (aB c Q5 rows left d).2)
 | 0,_=>λi hi=>by
  show vf Q5 i∣vf left.1 i-bI m λl=>vf left.2 l*A l i;rw[L.at_ i hi,fX k (A k i) m L.km (λl=>vf left.2 l*A l i) λl hl=>by
   rw[L.un l hl]
   by_cases z:l=k
   .subst z;rw[if_pos rfl,if_pos rfl,Yy]
   .rw[if_neg z,if_neg z,abG]]
  rw[abD];exact Xd _
 | d+1,hd=>by
  obtain⟨i1,i2⟩:=dr (c:=c) h.wf h.hs L.l1 L.l2 d ⋯;have e1:=h.wf.og (d:=d) ⋯;have e2:=h.wf.at2 (d:=d) ⋯;have hs:=h.hs;refine Led.mix (a:=aX (vf Q5) (DD rows) d/(WH (aX (vf Q5) (DD rows) d) (vf (aB c Q5 rows left d).1 d):Nat)) (b:=-(vf (aB c Q5 rows left d).1 d/(WH (aX (vf Q5) (DD rows) d) (vf (aB c Q5 rows left d).1 d):Nat))) (sL h L d ⋯) (h.led d ⋯) (λi hi=>?_) λl hl=>?_
  .simp only[aB,sV];rw[kT (by rw[cj];lia) ⋯,fN ⋯ ⋯];exact cX _ _
  .simp only[aB,sV];rw[fN ⋯ ⋯];rfl
theorem vk(h:St n m Q5 A k rows)(L:Lv n m Q5 A k left):∀d,d<=n->Zf (k+1) m (vf (aB c Q5 rows left d).2)/\vf (aB c Q5 rows left d).2 k=bB d λe=>aX (vf Q5) (DD rows) e/(WH (aX (vf Q5) (DD rows) e) (vf (aB c Q5 rows left e).1 e):Nat)
 | 0,_=>⟨λl h1 h2=>by show vf left.2 l=0;rw[L.un l h2,if_neg ⋯],by show vf left.2 k=1;rw[L.un k L.km,if_pos rfl]⟩
 | d+1,hd=>by
  obtain⟨i1,i2⟩:=dr (c:=c) h.wf h.hs L.l1 L.l2 d ⋯;have e2:=h.wf.at2 (d:=d) ⋯;obtain⟨j1,j2⟩:=vk h L d ⋯;have z:=h.zf d ⋯;have km:=L.km;constructor
  .intro l h1 h2;simp only[aB,sV];rw[fN ⋯ ⋯,j1 l h1 h2,show vf (row rows d).2 l=0 from z l ⋯ h2];simp
  .rw[bB,<- j2];simp only[aB,sV];rw[fN ⋯ ⋯,show vf (row rows d).2 k=0 from z k (VX _) km]
   grind
theorem qe(h:St n m Q5 A k rows)(L:Lv n m Q5 A k left)(hn:n<=6):∀d,d<=n->Bd (150*k+1+11*d) (aB c Q5 rows left d).2
 | 0,_=>λx hx=>by
  have hx:x∈left.2:=hx;obtain⟨i,hi,rfl⟩:=Wc.mp hx;have hm:i<m:=by rwa[<- L.l2]
  have e:=L.un i hm;rw[aQ hi] at e;show (left.2[i]).natAbs<_;rw[e];have:2^1<=2^(150*k+1+11*0):=Xw ↑12 ⋯;refine V8 ?_ this
  split
  .decide
  .decide
 | d+1,hd=>by
  have p:=h.gd.pos (show d<n by lia);have s:=h.sm d ⋯;have q:=lF (c:=c) h L d ⋯ d ⋯;have a1:=kQ (b:=vf (aB c Q5 rows left d).1 d) p.1 ⋯;have a2:=nG (b:=vf (aB c Q5 rows left d).1 d) p.1 q.1 ⋯;have:=Bd.mix (A:=9+1) (qe h L hn d ⋯) ((h.bd d ⋯).mono (show 150*k+1<=150*k+1+11*d by lia)) (a:=aX (vf Q5) (DD rows) d/(WH (aX (vf Q5) (DD rows) d) (vf (aB c Q5 rows left d).1 d):Nat)) (b:=-(vf (aB c Q5 rows left d).1 d/(WH (aX (vf Q5) (DD rows) d) (vf (aB c Q5 rows left d).1 d):Nat))) ⋯ ⋯;exact this.mono ⋯
theorem St.next(h:St n m Q5 A k rows)(L:Lv n m Q5 A k left)(cb:CB c)(hn:n<=6):St n m Q5 A (k+1) (cL c Q5 rows left n):=by
 have T:=h.tk L cb;have hs:=h.hs;refine⟨E3 h.wf h.hs L.l1 L.l2,h.hs,h.sm,T.good h.gd,λd hd=>?_,λd hd=>?_,λd hd=>?_,λl hl=>?_⟩
 .obtain⟨i1,i2⟩:=dr (c:=c) h.wf h.hs L.l1 L.l2 d ⋯;have e1:=h.wf.og (d:=d) hd;have e2:=h.wf.at2 (d:=d) hd;unfold DD PP;rw[lx hd];refine Led.mix (a:=(c (aX (vf Q5) (DD rows) d) (vf (aB c Q5 rows left d).1 d)).1) (b:=(c (aX (vf Q5) (DD rows) d) (vf (aB c Q5 rows left d).1 d)).2) (h.led d hd) (sL (c:=c) h L d ⋯) (λi hi=>?_) λl hl=>?_
  .simp only[eR,sV];rw[kT (by rw[cj];lia) ⋯,fN ⋯ ⋯];exact cX _ _
  .simp only[eR,sV];rw[fN ⋯ ⋯];rfl
 .obtain⟨i1,i2⟩:=dr (c:=c) h.wf h.hs L.l1 L.l2 d ⋯;have e2:=h.wf.at2 (d:=d) hd;intro l h1 h2;unfold PP;rw[lx hd];simp only[eR,sV];rw[fN ⋯ ⋯,(vk (c:=c) h L d ⋯).1 l h1 h2,show vf (row rows d).2 l=0 from h.zf d hd l ⋯ h2];simp
 .rw[lx hd];have p:=h.gd.pos hd;have s:=h.sm d hd;have q:=lF (c:=c) h L d ⋯ d hd;have b:=cb (aX (vf Q5) (DD rows) d) (vf (aB c Q5 rows left d).1 d) p.1 ⋯ q.1 ⋯;have:=Bd.mix (A:=20) ((h.bd d hd).mono (show 150*k+1<=150*k+1+11*d by lia)) (qe (c:=c) h L hn d ⋯) b.2.1 b.2.2;exact this.mono ⋯
 .rcases WW l k with q|q
  .exact(T.main h.gd n 0 ⋯).1 _ (h.cl l q)
  .obtain rfl:l=k:=by lia
   exact G.ext ⋯ (λi hi=>L.at_ i hi) (T.main h.gd n 0 ⋯).2
end
def aW(Q7:List (List Int))(k:Nat)(P:List Int):Nat->List Int
 | 0=>P
 | c+1 =>
  let z:=aW Q7 k P c
  let r:=Q7.getD (k-1-c) []
  pJ z 1 r (-(vf z (k-1-c)/vf r (k-1-c)))
def II(Q7:List (List Int)):Nat->bN:=λj=>vf (Q7.getD j [])
structure AK (n m:Nat) (s:bN) (A:Nat->bN) (k:Nat) (Q7:List (List Int)):Prop where
 len:Q7.length=k
 l2:∀j,j<k->(Q7.getD j []).length=m
 pos:∀j,j<k->0<II Q7 j j
 le:∀j,j<k->II Q7 j j<2^60
 zero:∀j,j<k->∀l,j<l->l<m->II Q7 j l=0
 nf:∀j,j<k->∀l,l<j->0<=II Q7 j l/\II Q7 j l<II Q7 l l
 wz:∀j,j<k->Led n s m A (λ_=>0) (II Q7 j)
variable{Q7:List (List Int)}
variable{j:Nat}
section
variable{A:Nat->bN}{P:List Int}
theorem AK.bd(h:AK n m s A k Q7)(hj:j<k)(hm:k<=m):Bd 60 (Q7.getD j []):=λx hx=>by
 obtain⟨l,hl,rfl⟩:=Wc.mp hx;rw[h.l2 j hj] at hl;have e:II Q7 j l=(Q7.getD j [])[l]'(by rwa[h.l2 j hj]):=aQ _;rw[<- e];rcases WW l j with q|q
 .have h1:=h.nf j hj l q;have h2:=h.le l ⋯;lia
 .rcases WW j l with q2|q2
  .rw[h.zero j hj l q2 hl];exact Yn _
  .obtain rfl:l=j:=by lia
   have h1:=h.pos l hj;have h2:=h.le l hj;lia
theorem span_len(h:AK n m s A k Q7)(hP:P.length=m):∀c,c<=k->(aW Q7 k P c).length=m
 | 0,_=>hP
 | c+1,hc=>by
  simp only[aW];rw[cj,span_len h hP c ⋯,h.l2 _ ⋯];lia
theorem qa(h:AK n m s A k Q7)(hP:P.length=m){c l:Nat}(hc:c<k)(hl:l<m):vf (aW Q7 k P (c+1)) l=vf (aW Q7 k P c) l-vf (aW Q7 k P c) (k-1-c)/II Q7 (k-1-c) (k-1-c)*II Q7 (k-1-c) l:=by
 simp only[aW];rw[fN (by rwa[span_len h hP c ⋯]) (by rwa[h.l2 _ ⋯])];unfold II
 grind
theorem xM(h:AK n m s A k Q7)(hP:P.length=m):∀c,c<=k->∀l,k<=l->l<m->vf (aW Q7 k P c) l=vf P l
 | 0,_,_,_,_=>rfl
 | c+1,hc,l,h1,h2=>by
  rw[qa h hP ⋯ h2,h.zero _ ⋯ l ⋯ h2,xM h hP c ⋯ l h1 h2];simp
theorem vK(h:AK n m s A k Q7)(hP:P.length=m)(hm:k<=m):∀c,c<=k->∀l,k-c<=l->l<k->0<=vf (aW Q7 k P c) l/\vf (aW Q7 k P c) l<II Q7 l l
 | 0,_,l,h1,h2=>by lia
 | c+1,hc,l,h1,h2=>by
  rw[qa h hP ⋯ ⋯];rcases WW (k-1-c) l with q|q
  .rw[h.zero _ ⋯ l q ⋯,YL,aaz];exact vK h hP hm c ⋯ l ⋯ h2
  .obtain rfl:l=k-1-c:=by lia
   have p:=h.pos (k-1-c) ⋯;have e:=aaA (vf (aW Q7 k P c) (k-1-c)) (II Q7 (k-1-c) (k-1-c));rw[Y6 (vf (aW Q7 k P c) (k-1-c)/_),<- e];exact⟨Wx _ ⋯,Wm _ p⟩
theorem sJ(h:AK n m s A k Q7)(hP:P.length=m){v:bN}(hv:Led n s m A v (vf P)):∀c,c<=k->Led n s m A v (vf (aW Q7 k P c))
 | 0,_=>hv
 | c+1,hc=>by
  refine Led.mix (a:=1) (b:=-(vf (aW Q7 k P c) (k-1-c)/II Q7 (k-1-c) (k-1-c))) (sJ h hP hv c ⋯) (h.wz (k-1-c) ⋯) (λi hi=>?_) λl hl=>?_
  .rw[YL,abE,Yy,abD];exact Xd _
  .rw[qa h hP ⋯ hl];grind
theorem AH(h:AK n m s A k Q7)(hP:P.length=m)(hm:k<=m){B:Nat}(hB:60<=B)(hb:Bd B P):∀c,c<=k->Bd (B+62*c) (aW Q7 k P c)
 | 0,_=>hb
 | c+1,hc=>by
  have ih:=AH h hP hm hB hb c ⋯;intro x hx;obtain⟨l,hl,rfl⟩:=Wc.mp hx;rw[span_len h hP (c+1) hc] at hl;rw[<- aQ,qa h hP ⋯ hl];have p:=h.pos (k-1-c) ⋯;have q1:(vf (aW Q7 k P c) (k-1-c)/II Q7 (k-1-c) (k-1-c)).natAbs<2^(B+62*c+1):=by
   have h1:=ih.vf (k-1-c);have h2:=aaX (vf (aW Q7 k P c) (k-1-c)) (II Q7 (k-1-c) (k-1-c));rw[abF];lia
  have q2:(II Q7 (k-1-c) l).natAbs<2^60:=(h.bd (j:=k-1-c) ⋯ hm).vf l;have q3:=yX q1 q2;have q4:=ih.vf l;have q5:2^(B+62*c)<=2^(B+62*c+1+60):=Xw ↑12 ⋯;have q6:(2:Nat)^(B+62*(c+1))=2^(B+62*c+1+60)*2:=by rw[<- abF];congr 1
  rw[q6];lia
end
section
variable{A:Nat->bN}
theorem Tk.order{s:bN}{D D' L:Nat->bN}{u v g:Nat->Int}(t:Tk n s D D' L u v g)(Gd:Good n s D):∀(k d:Nat)(x:Int),d+k=n->G n s D k d (λi=>x*L d i)->bB n (λe=>aX s D e/g e)∣x*bB d (λe=>aX s D e/g e)
 | 0,d,x,hn,h=>by
  obtain rfl:d=n:=by lia
  exact XA _ _
 | k+1,d,x,hn,h=>by
  have hd:d<n:=by lia
  obtain⟨a,ha⟩:=t.g1 d hd;obtain⟨b,hb⟩:=t.g2 d hd;have gp:=t.gp d hd;have sp:=(Gd.pos hd).1;have e1:aX s D d/g d=a:=by rw[ha];exact We a ⋯
  have e2:L d d/g d=b:=by rw[hb];exact We b ⋯
  have bz:u d*a+v d*b=1:=by
   have:=t.bz d hd;rw[ha,hb,show u d*(g d*a)+v d*(g d*b)=g d*(u d*a+v d*b) by grind] at this;have h2:g d*(u d*a+v d*b)=g d*1:=by lia
   exact W4 ⋯ h2
  obtain⟨q,hq⟩:=h.1;have hax:a∣x:=by
   have h3:g d*(x*b)=g d*(a*q):=by
    have:x*L d d=aX s D d*q:=hq;rw[hb,ha] at this;grind
   have h4:x*b=a*q:=W4 ⋯ h3;exact⟨u d*x+v d*q,by
    have:x=x*(u d*a+v d*b):=by rw[bz,abY]
    rw[this];have:x*(u d*a+v d*b)=a*(u d*x)+v d*(x*b):=by grind
    rw[this,h4];grind⟩
  obtain⟨y,hy⟩:=hax;have RO:q=b*y:=by
   have h3:g d*(a*q)=g d*(a*(b*y)):=by
    have:x*L d d=aX s D d*q:=hq;rw[hb,ha,hy] at this;grind
   have ap:a≠0:=by intro z;rw[z,YL] at ha;lia
   exact W4 ap (W4 ⋯ h3)
  have h2:=h.2;have q1:x*L d d/aX s D d=q:=by
   show x*L d d/aX s D d=q;rw[show x*L d d=aX s D d*q from hq];exact We q ⋯
  have:=t.order Gd k (d+1) y ⋯ (Gd.nZ ⋯ (λi hi=>?_) h2)
  .rw[bB,e1] at this;rw[hy,show a*y*bB d (λe=>aX s D e/g e)=y*(bB d (λe=>aX s D e/g e)*a) by grind];exact this
  .show s i∣y*L (d+1) i-(x*L d i-x*L d d/aX s D d*D d i);rw[q1,t.M1 d hd i hi,e1,e2];obtain⟨z,hz⟩:=cX (a*L d i+-b*D d i) (s i);refine⟨y*z,?_⟩;have:(a*L d i+-b*D d i)%s i=a*L d i+-b*D d i+s i*z:=by lia
   rw[this,hy,RO];grind
theorem G.sum(Gd:Good n (vf Q5) (DD rows)){P:bN}:∀k',(∀l,l<k'->G n (vf Q5) (DD rows) n 0 (A l))->G n (vf Q5) (DD rows) n 0 (λi=>bI k' λl=>P l*A l i)
 | 0,_=>G.zero ⋯
 |k'+1,h=>G.ext ⋯ (λi _=>rfl) (G.add ⋯ (G.sum Gd k' λl hl=>h l ⋯) (G.mul (P k') ⋯ (h k' ⋯)))
end
def pe(m k:Nat):List Int:=(V6 m).map λl=>if l=k then 1 else 0
def xN{l:Nat}(h:l<m):vf (pe m k) l=if l=k then 1 else 0:=by
 rw[aQ (by simp[pe,h])];simp[pe]
def AA(Ls:List (List Int)):Nat->bN:=λl=>vf (Ls.getD l [])
def bU(Ls:List (List Int))(m k:Nat):Row:=(Ls.getD k [],pe m k)
def RK(c:Int->Int->Int×Int)(Q5:List Int)(Ls:List (List Int))(n m:Nat):Nat->List Row×List (List Int)
 | 0=>(VS n (VS n 0,VS m 0),[])
 | k+1 =>
  (cL c Q5 (RK c Q5 Ls n m k).1 (bU Ls m k) n,(RK c Q5 Ls n m k).2++[aW (RK c Q5 Ls n m k).2 k (aB c Q5 (RK c Q5 Ls n m k).1 (bU Ls m k) n).2 k])
structure MR (n m:Nat) (Q5:List Int) (Ls:List (List Int)):Prop where
 len:Ls.length=m
 at_:∀l,l<m->(Ls.getD l []).length=n
 jJ:∀l,l<m->∀i,i<n->0<=AA Ls l i/\AA Ls l i<vf Q5 i
structure CJ (n m:Nat) (Q5:List Int) (Ls:List (List Int)) (k:Nat) (r:List Row×List (List Int)):Prop where
 st:St n m Q5 (AA Ls) k r.1
 wz:AK n m (vf Q5) (AA Ls) k r.2
 pr:bB k (λj=>II r.2 j j)*bB n (aX (vf Q5) (DD r.1))=bB n (vf Q5)
 ord:∀j,j<k->∀P:bN,Zf (j+1) m P->Led n (vf Q5) m (AA Ls) (λ_=>0) P->II r.2 j j∣P j
variable{x:List Int}
section
variable{Ls:List (List Int)}
def jq(h:j<Q7.length):II (Q7++[x]) j=II Q7 j:=by
 unfold II;rw[VZ,W3 h,<- VZ]
def kR:II (Q7++[x]) Q7.length=vf x:=by
 unfold II;rw[VZ,WV (VX _)];simp
def Ef(h:j<Q7.length):(Q7++[x]).getD j []=Q7.getD j []:=by
 rw[VZ,W3 h,<- VZ]
def Di:(Q7++[x]).getD Q7.length []=x:=by
 rw[VZ,WV (VX _)];simp
theorem sT{f:Nat->Int}{k:Nat}:∀{m:Nat},k<m->(∀l,k<l->l<m->f l=0)->bI m f=bI k f+f k
 | 0,h,_=>by lia
 | m+1,h,e=>by
  rw[bI]
  by_cases z:k=m
  .subst z;rfl
  .rw[sT (m:=m) ⋯ λl h1 h2=>e l h1 ⋯,e m ⋯ ⋯];lia
theorem xy:∀{n:Nat}{f:Nat->Int},(∀i,i<n->0<f i/\f i<=360)->bB n f<=360^n
 | 0,f,_=>by simp[bB]
 | n+1,f,h=>by
  rw[bB,Int.pow_succ];exact Int.mul_le_mul (xy λi hi=>h i ⋯) (h n ⋯).2 (by have:=(h n ⋯).1;lia) (Int.pow_nonneg ↑12)
theorem OO(h:n<=6):(360:Int)^n<=360^6:=by
 have:n=0\/n=1\/n=2\/n=3\/n=4\/n=5\/n=6:=by lia
 rcases this with rfl|rfl|rfl|rfl|rfl|rfl|rfl<;>decide
theorem CJ.next{r:List Row×List (List Int)}(h:CJ n m Q5 Ls k r)(LL:MR n m Q5 Ls)(cb:CB c)(hn:n<=6)(hk:k<m):CJ n m Q5 Ls (k+1) (cL c Q5 r.1 (bU Ls m k) n,r.2++[aW r.2 k (aB c Q5 r.1 (bU Ls m k) n).2 k]):=by
 have L:Lv n m Q5 (AA Ls) k (bU Ls m k):=⟨LL.at_ k hk,by simp[bU,pe],hk,λi hi=>rfl,LL.jJ k hk,λl hl=>xN hl⟩
 have T:=h.st.tk L cb;have ll:=dr (c:=c) h.st.wf h.st.hs L.l1 L.l2 n (VX _);have zf:=vk (c:=c) h.st L n (VX _);have led:=sL (c:=c) h.st L n (VX _);have l0:=T.zero h.st.gd n (VX _);have il:r.2.length=k:=h.wz.len;have out:=xM h.wz ll.2 k (VX _);have jk:vf (aW r.2 k (aB c Q5 r.1 (bU Ls m k) n).2 k) k=bB n λe=>aX (vf Q5) (DD r.1) e/(WH (aX (vf Q5) (DD r.1) e) (vf (aB c Q5 r.1 (bU Ls m k) e).1 e):Nat):=by
  rw[out k (VX _) hk];exact zf.2
 have pos:∀e,e<n->0<aX (vf Q5) (DD r.1) e/(WH (aX (vf Q5) (DD r.1) e) (vf (aB c Q5 r.1 (bU Ls m k) e).1 e):Nat):=λe he=>by
  have p:=h.st.gd.pos he;have s:=h.st.sm e he;exact(kQ p.1 ⋯).1
 have pr:bB (k+1) (λj=>II (r.2++[aW r.2 k (aB c Q5 r.1 (bU Ls m k) n).2 k]) j j)*bB n (aX (vf Q5) (DD (cL c Q5 r.1 (bU Ls m k) n)))=bB n (vf Q5):=by
  rw[bB,show II (r.2++[aW r.2 k (aB c Q5 r.1 (bU Ls m k) n).2 k]) k=vf (aW r.2 k (aB c Q5 r.1 (bU Ls m k) n).2 k) by rw[<- il];exact kR];rw[ju (g:=λj=>II r.2 j j) λj hj=>by rw[jq ⋯],<- h.pr,jk];rw[ju (g:=λd=>((WH (aX (vf Q5) (DD r.1) d) (vf (aB c Q5 r.1 (bU Ls m k) d).1 d):Nat):Int)) λd hd=>T.step h.st.gd hd];rw[uL (f:=aX (vf Q5) (DD r.1)) (g:=λd=>((WH (aX (vf Q5) (DD r.1) d) (vf (aB c Q5 r.1 (bU Ls m k) d).1 d):Nat):Int)) (h:=λe=>aX (vf Q5) (DD r.1) e/(WH (aX (vf Q5) (DD r.1) e) (vf (aB c Q5 r.1 (bU Ls m k) e).1 e):Nat)) λd hd=>(Int.mul_ediv_cancel' (Y3 ..)).symm]
  grind
 have jpos:0<vf (aW r.2 k (aB c Q5 r.1 (bU Ls m k) n).2 k) k:=by rw[jk];exact lH pos
 have St':=h.st.next L cb hn;have jle:vf (aW r.2 k (aB c Q5 r.1 (bU Ls m k) n).2 k) k<2^60:=by
  have b:bB n (vf Q5)<=360^n:=xy λi hi=>⟨h.st.gd.sp i hi,h.st.sm i hi⟩
  have b2:(360:Int)^n<=360^6:=OO hn;have b3:(360:Int)^6<2^60:=by decide
  rw[bB,show II (r.2++[aW r.2 k (aB c Q5 r.1 (bU Ls m k) n).2 k]) k=vf (aW r.2 k (aB c Q5 r.1 (bU Ls m k) n).2 k) by rw[<- il];exact kR] at pr;have p1:0<bB k (λj=>II (r.2++[aW r.2 k (aB c Q5 r.1 (bU Ls m k) n).2 k]) j j):=lH λj hj=>by rw[jq ⋯];exact h.wz.pos j hj
  have p2:0<bB n (aX (vf Q5) (DD (cL c Q5 r.1 (bU Ls m k) n))):=lH λd hd=>(St'.gd.pos hd).1;generalize bB k (λj=>II (r.2++[aW r.2 k (aB c Q5 r.1 (bU Ls m k) n).2 k]) j j)=a at *;generalize bB n (aX (vf Q5) (DD (cL c Q5 r.1 (bU Ls m k) n)))=b' at *;generalize vf (aW r.2 k (aB c Q5 r.1 (bU Ls m k) n).2 k) k=x at *;have e1:1*x<=a*x:=Y4 ⋯ ⋯;have e2:a*x*1<=a*x*b':=Yg ⋯ ⋯;lia
 refine⟨St',⟨by simp[il],λj hj=>?_,λj hj=>?_,λj hj=>?_,λj hj l h1 h2=>?_,λj hj l hl=>?_,λj hj=>?_⟩,pr,λj hj P hz hP=>?_⟩
 all_goals
  rcases WW j k with q|q
 .rw[Ef ⋯];exact h.wz.l2 j q
 .obtain rfl:j=r.2.length:=by lia
  rw[Di];exact span_len h.wz ll.2 k (VX _)
 .rw[jq ⋯];exact h.wz.pos j q
 .obtain rfl:j=r.2.length:=by lia
  rwa[kR,il]
 .rw[jq ⋯];exact h.wz.le j q
 .obtain rfl:j=r.2.length:=by lia
  rwa[kR,il]
 .rw[jq ⋯];exact h.wz.zero j q l h1 h2
 .obtain rfl:j=r.2.length:=by lia
  rw[kR,out l ⋯ h2];exact zf.1 l ⋯ h2
 .rw[jq ⋯,jq ⋯];exact h.wz.nf j q l hl
 .obtain rfl:j=r.2.length:=by lia
  rw[kR,jq ⋯];exact vK h.wz ll.2 ⋯ k (VX _) l ⋯ ⋯
 .rw[jq ⋯];exact h.wz.wz j q
 .obtain rfl:j=r.2.length:=by lia
  rw[kR];refine sJ h.wz ll.2 (λi hi=>?_) k (VX _);have:=led i hi;rwa[show vf (aB c Q5 r.1 (bU Ls m k) n).1 i=0 from l0 i hi] at this
 .rw[jq ⋯];exact h.ord j q P hz hP
 .obtain rfl:j=k:=by lia
  rw[show II (r.2++[aW r.2 j (aB c Q5 r.1 (bU Ls m j) n).2 j]) j=vf (aW r.2 j (aB c Q5 r.1 (bU Ls m j) n).2 j) by rw[<- il];exact kR,jk];have:=T.order h.st.gd n 0 (P j) ⋯ ?_
  .rwa [bB,abY] at this
  .refine h.st.gd.nZ ⋯ (λi hi=>?_) (G.mul (-1) ⋯ (G.sum (A:=AA Ls) (P:=P) h.st.gd j h.st.cl));have e:=hP i hi;rw[sT hk λl h1 h2=>by rw[hz l ⋯ h2,abG]] at e;obtain⟨x,hx⟩:=e;have hx:(0:Int)-(bI j (λl=>P l*AA Ls l i)+P j*AA Ls j i)=vf Q5 i*x:=hx;show vf Q5 i∣P j*AA Ls j i - -1*bI j λl=>P l*AA Ls l i;exact⟨-x,by rw[ab6];lia⟩
theorem CJ.start(hs:Q5.length=n)(hp:∀i,i<n->0<vf Q5 i/\vf Q5 i<=360):CJ n m Q5 Ls 0 (VS n (VS n 0,VS m 0),[]):=by
 have rw0:∀d,d<n->row (VS n (VS n 0,VS m 0)) d=(VS n 0,VS m 0):=λd hd=>by
  rw[gN (by simpa using hd)];simp
 have D0:∀d,d<n->∀i,DD (VS n (VS n 0,VS m 0)) d i=0:=λd hd i=>by
  unfold DD;rw[rw0 d hd];exact cZ n i
 have P0:∀d,d<n->∀i,PP (VS n (VS n 0,VS m 0)) d i=0:=λd hd i=>by
  unfold PP;rw[rw0 d hd];exact cZ m i
 have st:∀d,d<n->aX (vf Q5) (DD (VS n (VS n 0,VS m 0))) d=vf Q5 d:=λd hd=>by
  unfold aX;rw[if_pos (D0 d hd d)]
 refine⟨⟨⟨by simp,λr hr=>by rw[XJ hr];simp,λr hr=>by rw[XJ hr];simp⟩,hs,λi hi=>(hp i hi).2,⟨λi hi=>(hp i hi).1,λd hd i hi=>?_,λd hd i hi=>D0 d hd i,λd hd=>by rw[st d hd];exact abC _,λd k hn=>?_⟩,λd hd i hi=>?_,λd hd l _ _=>P0 d hd l,λd hd=>?_,λl hl=>by lia⟩,⟨rfl,λj hj=>by lia,λj hj=>by lia,λj hj=>by lia,λj hj=>by lia,λj hj=>by lia,λj hj=>by lia⟩,?_,λj hj=>by lia⟩
 .rw[D0 d hd i];have:=(hp i hi).1;lia
 .exact G.ext ⋯ (λi hi=>by rw[D0 d ⋯ i,YL]) (G.zero ⋯)
 .rw[D0 d hd i,dq (g:=λ_=>0) λl hl=>by rw[P0 d hd l,abG],fK];exact Xd _
 .rw[rw0 d hd];intro x hx;rw[XJ hx];exact Yn _
 .rw[bB,Yy];exact ju λd hd=>st d hd
theorem CJ.all(hs:Q5.length=n)(hp:∀i,i<n->0<vf Q5 i/\vf Q5 i<=360)(LL:MR n m Q5 Ls)(cb:CB c)(hn:n<=6):∀k,k<=m->CJ n m Q5 Ls k (RK c Q5 Ls n m k)
 | 0,_=>CJ.start hs hp
 |k+1,hk=>(CJ.all hs hp LL cb hn k ⋯).next LL cb hn ⋯
end
theorem ly(h:b∣a)(h1:-b<a)(h2:a<b):a=0:=by
 obtain⟨c,rfl⟩:=h;rcases Yj c 0 with q|q|q
 .have:b*c<=b*(-1):=Yg ⋯ ⋯;lia
 .rw[q,YL]
 .have:b*1<=b*c:=Yg ⋯ ⋯;lia
theorem G.diff(Gd:Good n s D):∀k d (v:bN),d+k=n->(∀i,i<n->-(s i)<v i/\v i<s i)->(∀i,d<=i->i<n->-(aX s D i)<v i/\v i<aX s D i)->G n s D k d v->∀i,i<n->v i=0
 | 0,d,v,hn,h0,_,g,i,hi=>ly (g i hi) (h0 i hi).1 (h0 i hi).2
 | k+1,d,v,hn,h0,h1,g,i,hi=>by
  have z:=ly g.1 (h1 d (VX _) ⋯).1 (h1 d (VX _) ⋯).2;refine G.diff Gd k (d+1) v ⋯ h0 (λi hi=>h1 i ⋯) (G.ext ⋯ (λi _=>?_) g.2) i hi;show v i-v d/aX s D d*D d i=v i;rw[z];simp
def fc(n:Nat)(s:bN)(Q:Int)(w v:bN):Int:=bI n λi=>w i*v i*(Q/s i)
variable{u:bN}{Q:Int}
variable{Rf:Nat}
section
variable{D:Nat->bN}{w:bN}
theorem nK(a b:Int){x:bN}(h:∀i,i<n->x i=a*v i+b*u i):fc n s Q w x=a*fc n s Q w v+b*fc n s Q w u :=
 iR a b _ _ _ n λi hi=>by rw[h i hi];grind
theorem qZ{f:Nat->Int}{q:Int}:∀{m:Nat},(∀l,l<m->q∣f l)->q∣bI m f
 | 0,_=>Xd _
 |m+1,h=>XH (qZ λl hl=>h l ⋯) (h m ⋯)
theorem Ah(hq:∀i,i<n->s i∣Q)(h:∀i,i<n->s i∣v i):Q∣fc n s Q w v:=qZ λi hi=>by
 obtain⟨c,hc⟩:=h i hi;obtain⟨e,he⟩:=hq i hi
 by_cases z:s i=0
 .rw[hc,z];simp
 .rw[hc,he,We _ z];exact⟨w i*c,by grind⟩
theorem yk(hq:∀i,i<n->s i∣Q)(h:∀i,i<n->s i∣v i-u i):Q∣fc n s Q w v-fc n s Q w u:=by
 have:=nK (s:=s) (Q:=Q) (w:=w) (n:=n) 1 (-1) (v:=v) (u:=u) (x:=λi=>v i-u i) λi _=>by lia
 have h2:=Ah (w:=w) hq h;rw[this] at h2;rwa[show fc n s Q w v-fc n s Q w u=1*fc n s Q w v+-1*fc n s Q w u by lia]
theorem x_(hq:∀i,i<n->s i∣Q):∀(k d:Nat)(v:bN),d+k=n->(∀b,d<=b->b<n->Q∣fc n s Q w (D b))->G n s D k d v->Q∣fc n s Q w v
 | 0,d,v,_,_,g=>Ah hq g
 | k+1,d,v,hn,hD,g=>by
  have h1:=x_ hq k (d+1) _ ⋯ (λb h1 h2=>hD b ⋯ h2) g.2;have h2:=hD d (VX _) ⋯;have e:=nK (s:=s) (Q:=Q) (w:=w) (n:=n) 1 (v d/aX s D d) (v:=λi=>v i-v d/aX s D d*D d i) (u:=D d) (x:=v) λi _=>by lia
  rw[e];exact XH (Xi h1 (XA _ _)) (Xi h2 (XA _ _))
theorem Ii{c:Nat}(hc:c<n){x:Int}{w':bN}(h0:w c=0)(h1:w' c=x)(h2:∀i,i<n->i≠c->w' i=w i):fc n s Q w' v=fc n s Q w v+x*v c*(Q/s c):=by
 have e1:fc n s Q w' v=1*fc n s Q w v+1*bI n λi=>if i=c then x*v c*(Q/s c) else 0:=iR 1 1 _ _ _ n λi hi=>by
  by_cases z:i=c
  .rw[z,h1,h0];simp
  .rw[h2 i hi z];simp[z]
 have e2:=fX c (x*v c*(Q/s c)) n hc (λi=>if i=c then x*v c*(Q/s c) else 0) λ_ _=>rfl;rw[e1,e2];lia
def xq(h:∀i,i<n->w i*v i=0):fc n s Q w v=0:=by
 unfold fc;rw[dq (g:=λ_=>0) λi hi=>by rw[h i hi];simp,fK]
def gf(s:bN)(D:Nat->bN)(d:Nat):Int:=s d/aX s D d
theorem jM(g:Good n s D)(h:d<n):gf s D d*aX s D d=s d/\0<gf s D d/\gf s D d<=s d:=by
 have p:=g.pos h;obtain⟨c,hc⟩:=g.dv d h;have e:gf s D d=c:=by unfold gf;rw[hc,We _ ⋯]
 have sp:=g.sp d h;have c0:0<c:=by
  rcases Yj c 0 with q|q|q
  .have:=X5 p.1 q;lia
  .rw[q] at hc;lia
  .exact q
 refine⟨by rw[e,hc,Y6],by lia,?_⟩;rw[e];have:1*c<=aX s D d*c:=Y4 ⋯ ⋯;lia
structure Wk (n:Nat) (s:bN) (D:Nat->bN) (Q:Int) (Rf a:Nat) (w:bN):Prop where
 beh:∀i,Rf<i->i<n->w i=0
 at_:w Rf=gf s D Rf%s Rf
 ah:∀i,a<=i->i<Rf->0<=w i/\w i<gf s D i
 no:∀i,i<a->w i=0
 kill:∀b,a<=b->b<n->Q∣fc n s Q w (D b)
theorem Wk.start(g:Good n s D)(hq:∀i,i<n->s i∣Q)(hd:Rf<n){w:bN}(h:∀i,i<n->w i=if i=Rf then gf s D Rf%s Rf else 0):Wk n s D Q Rf Rf w where
 beh:=λi h1 h2=>by rw[h i h2,if_neg ⋯]
 at_:=by rw[h Rf hd,if_pos rfl]
 ah:=λi h1 h2=>by lia
 no:=λi hi=>by rw[h i ⋯,if_neg ⋯]
 kill:=λb h1 h2=>by
  by_cases z:b=Rf
  .subst z;obtain⟨f1,f2,f3⟩:=jM g h2;obtain⟨e,he⟩:=hq b h2;obtain⟨x,hx⟩:=g.diag h2;obtain⟨y,hy⟩:=cX (gf s D b) (s b);have sp:=g.sp b h2;have e1:fc n s Q w (D b)=1*bI n (λi=>if i=b then (gf s D b%s b)*D b b*(Q/s b) else 0)+0*0:=by
    have:=iR 1 0 (λi=>if i=b then (gf s D b%s b)*D b b*(Q/s b) else 0) (λ_=>0) (λi=>w i*D b i*(Q/s i)) n λi hi=>by
     rw[h i hi]
     by_cases z:i=b
     .subst z;simp
     .simp[z]
    rw[show fc n s Q w (D b)=bI n λi=>w i*D b i*(Q/s i) from rfl,this];lia
   rw[e1,fX b _ n h2 _ λ_ _=>rfl,he,We _ ⋯];have hy':gf s D b%s b=gf s D b+s b*y:=by lia
   have hx':D b b=aX s D b+s b*x:=by lia
   refine⟨1+gf s D b*x+y*D b b,?_⟩;rw[hy',hx'];generalize gf s D b=F at *;generalize aX s D b=T at *;generalize s b=S at *;subst f1
   grind
  .rw[xq λi hi=>?_]
   .exact Xd _
   .rcases WW i b with q|q
    .rw[g.vv b h2 i q];simp
    .rw[h i hi,if_neg ⋯];simp
theorem Wk.next(g:Good n s D)(hQ:0<Q)(hq:∀i,i<n->s i∣Q){c:Nat}(hd:Rf<n){w w':bN}(W:Wk n s D Q Rf (c+1) w)(hc:c<Rf)(h1:w' c=-(fc n s Q w (D c)%Q/(Q/gf s D c))%gf s D c)(h2:∀i,i<n->i≠c->w' i=w i):Wk n s D Q Rf c w':=by
 obtain⟨f1,f2,f3⟩:=jM g (show c<n by lia);obtain⟨e,he⟩:=hq c ⋯;have sp:=g.sp c ⋯;have sh:Q/gf s D c=aX s D c*e:=by
  rw[he,<- f1,Yx,We _ ⋯]
 have hs:Q/s c=e:=by rw[he,We _ ⋯]
 have fQ:gf s D c*(aX s D c*e)=Q:=by rw[<- Yx,f1,he]
 have sh0:0<aX s D c*e:=by
  rcases Yj (aX s D c*e) 0 with q|q|q
  .have:=X5 f2 q;lia
  .rw[q] at fQ;lia
  .exact q
 have cl:=g.NX c (n-(c+1)) ⋯;have k1:=x_ (w:=w) hq (n-(c+1)) (c+1) _ ⋯ (λb h1 h2=>W.kill b h1 h2) cl;rw[nK (s:=s) (Q:=Q) (w:=w) (n:=n) (gf s D c) 0 (v:=D c) (u:=D c) (x:=λi=>s c/aX s D c*D c i) λi _=>by unfold gf;lia] at k1;obtain⟨x,hx⟩:=k1;have dv:(aX s D c*e)∣fc n s Q w (D c):=⟨x,by
  have:gf s D c*fc n s Q w (D c)=gf s D c*(aX s D c*e*x):=by
   rw[<- Yx,fQ];lia
  exact W4 ⋯ this⟩
 have ed:=aaA (fc n s Q w (D c)) Q;have dv2:(aX s D c*e)∣fc n s Q w (D c)%Q:=by
  rw[ed];exact ab7 dv (Xi ⟨gf s D c,by rw[Y6];exact fQ.symm⟩ (acY _ _))
 obtain⟨q,Tq⟩:=dv2;rw[sh] at h1;have eq1:fc n s Q w (D c)%Q/(aX s D c*e)=q:=by rw[Tq,We _ ⋯]
 rw[eq1] at h1;obtain⟨y,hy⟩:=cX (-q) (gf s D c);obtain⟨z,hz⟩:=g.diag (show c<n by lia);refine⟨λi a b=>?_,?_,λi a b=>?_,λi a=>?_,λb a1 a2=>?_⟩
 .rw[h2 i b ⋯];exact W.beh i a b
 .rw[h2 Rf hd ⋯];exact W.at_
 .by_cases q2:i=c
  .rw[q2,h1];exact⟨Wx _ ⋯,Wm _ f2⟩
  .rw[h2 i ⋯ q2];exact W.ah i ⋯ b
 .rw[h2 i ⋯ ⋯];exact W.no i ⋯
 .rw[Ii (w:=w) (show c<n by lia) (W.no c ⋯) rfl h2]
  by_cases q2:b=c
  .subst q2;rw[hs];have e1:w' b=-q+gf s D b*y:=by lia
   have e2:D b b=aX s D b+s b*z:=by lia
   have e3:fc n s Q w (D b)=Q*(fc n s Q w (D b)/Q)+aX s D b*e*q:=by lia
   refine⟨fc n s Q w (D b)/Q+y+w' b*z,?_⟩;rw[e2];generalize fc n s Q w (D b)/Q=p at *;rw[e3,e1];generalize gf s D b=F at *;generalize aX s D b=T at *;generalize s b=S at *;subst f1;rw[he]
   grind
  .rw[g.vv b a2 c ⋯];simp only[YL,abG,abE];exact W.kill b ⋯ a2
theorem Wk.first(g:Good n s D)(hQ:0<Q)(hq:∀i,i<n->s i∣Q)(hd:Rf<n){w l:bN}(W:Wk n s D Q Rf 0 w)(l0:∀i,i<Rf->l i=0)(l1:0<l Rf)(l2:l Rf<aX s D Rf):¬ Q∣fc n s Q w l:=by
 obtain⟨f1,f2,f3⟩:=jM g hd;obtain⟨e,he⟩:=hq Rf hd;have sp:=g.sp Rf hd;have lt:gf s D Rf<s Rf:=by
  rcases Int.lt_or_eq_of_le f3 with q|q
  .exact q
  .rw[q] at f1;have:aX s D Rf=1:=by
    have:s Rf*aX s D Rf=s Rf*1:=by rwa[abY]
    exact W4 ⋯ this
   lia
 have wd:w Rf=gf s D Rf:=by rw[W.at_,Yi ⋯ lt]
 have e1:fc n s Q w l=bI n (λi=>if i=Rf then gf s D Rf*l Rf*e else 0):=dq λi hi=>by
  by_cases z:i=Rf
  .rw[z,wd,he,We _ ⋯];simp
  .rcases WW i Rf with q|q
   .rw[l0 i q];simp[z]
   .rw[W.beh i ⋯ hi];simp[z]
 rw[e1,fX Rf _ n hd _ λ_ _=>rfl];rintro⟨c,hc⟩;have e0:0<e:=by
  rcases Yj e 0 with q|q|q
  .have:=X5 sp q;lia
  .rw[q] at he;lia
  .exact q
 have e2:gf s D Rf*e*l Rf=gf s D Rf*e*(aX s D Rf*c):=by
  rw[he,<- f1] at hc
  grind
 have e3:l Rf=aX s D Rf*c:=W4 (by
  have:=adq f2 e0;lia) e2
 have:=iA (a:=l Rf) (b:=aX s D Rf) ⋯ l2 ⟨c,e3⟩;lia
end
def fy(w v:bN):fc n s Q w v=fc n s Q v w:=dq λi _=>by rw[Y6 (w i)]
theorem MB(g:Good n s D)(hd:d<n)(z:∀i,d<i->i<n->u i=0):fc n s Q u (D d)=u d*D d d*(Q/s d) :=
 fX d _ n hd _ λi hi=>by
  by_cases e:i=d
  .rw[e];simp
  .rcases WW i d with q|q
   .rw[g.vv d hd i q];simp[e]
   .rw[z i ⋯ hi];simp[e]
theorem B9(hQ:0<Q){x:Int}(hx:0<x)(h:x∣Q):0<Q/x/\Q=x*(Q/x):=by
 obtain⟨c,hc⟩:=h;have e:Q/x=c:=by rw[hc,We _ ⋯]
 refine⟨?_,by rwa[e]⟩;rw[e];rcases Yj c 0 with q|q|q
 .have:=X5 hx q;lia
 .rw[q] at hc;lia
 .exact q
theorem HX(g:Good n s D)(hQ:0<Q)(hq:∀i,i<n->s i∣Q)(hd:d<n)(z:∀i,d<i->i<n->u i=0)(k:Q∣fc n s Q u (D d)):gf s D d∣u d:=by
 obtain⟨f1,f2,f3⟩:=jM g hd;have p:=g.pos hd
 by_cases h0:D d d=0
 .have e1:aX s D d=s d:=by unfold aX;rw[if_pos h0]
  have e2:gf s D d=1:=by
   have:gf s D d*s d=1*s d:=by rw[e1] at f1;lia
   exact Int.eq_of_mul_eq_mul_right (by have:=g.sp d hd;lia) this
  rw[e2];exact Int.one_dvd _
 .have e1:D d d=aX s D d:=by unfold aX;rw[if_neg h0]
  rw[MB g hd z,e1] at k;obtain⟨e0,eq⟩:=B9 hQ (g.sp d hd) (hq d hd);obtain⟨c,hc⟩:=k;generalize Q/s d=e at *;refine⟨c,?_⟩;have:aX s D d*e*u d=aX s D d*e*(gf s D d*c):=by
   rw[eq,<- f1] at hc
   grind
  exact W4 (by have:=adq p.1 e0;lia) this
theorem AB(hq:∀i,i<n->s i∣Q){A:Nat->bN}{P w:bN}(hA:∀l,l<m->Q∣fc n s Q w (A l))(h:∀i,i<n->s i∣v i-bI m λl=>P l*A l i):Q∣fc n s Q w v:=by
 have c1:=yk (n:=n) (s:=s) (Q:=Q) (w:=w) hq h;have key:∀k,k<=m->Q∣fc n s Q w (λi=>bI k λd=>P d*A d i):=λk=>by
  induction k with
  | zero =>
   intro _;rw[xq λi _=>by simp[bI]];exact Xd _
  | succ k ih =>
   intro hm;have l1:=nK (n:=n) (s:=s) (Q:=Q) (w:=w) 1 (P k) (v:=λi=>bI k λd=>P d*A d i) (u:=A k) (x:=λi=>bI (k+1) λd=>P d*A d i) λi _=>by simp[bI]
   rw[l1];exact XH (YT (ih ⋯)) (YT (hA k ⋯))
 have:=XH c1 (key m (VX _));rwa[aaS] at this
def EJ(hq:∀i,i<n->s i∣Q)(hW:∀d,d<n->Wk n s D Q d 0 (W d)){t:bN}(h:∀i,i<n->s i∣u i-bI n λd=>t d*W d i){b:Nat}(hb:b<n):Q∣fc n s Q u (D b):=by
 rw[fy];exact AB hq (λd hd=>by rw[fy];exact(hW d hd).kill b (Wb _) hb) h
section
variable{D':Nat->bN}
def mH(hq:∀i,i<n->s i∣Q){x y:bN}(h:∀i,i<n->s i∣u i-(a*x i+b*y i))(hx:Q∣fc n s Q x v)(hy:Q∣fc n s Q y v):Q∣fc n s Q u v:=by
 rw[fy] at hx hy ⊢;have c:=yk (n:=n) (s:=s) (Q:=Q) (w:=v) hq h;rw[nK a b (v:=x) (u:=y) (x:=λi=>a*x i+b*y i) λ_ _=>rfl] at c;have:=XH c (XH (YT (a:=Q) (b:=a) hx) (YT (b:=b) hy))
 rwa [aaS] at this
theorem qU(g:Good n s D)(hQ:0<Q)(hq:∀i,i<n->s i∣Q)(hW:∀d,d<n->Wk n s D Q d 0 (W d)):∀j,j<=n->∀u:bN,(∀i,j<=i->i<n->u i=0)->(∀b,b<n->Q∣fc n s Q u (D b))->∃t:bN,(∀d,j<=d->t d=0)/\∀i,i<n->s i∣u i-bI n λd=>t d*W d i
 | 0,_,u,z,_=>⟨λ_=>0,λ_ _=>rfl,λi hi=>by
   rw[z i ⋯ hi,dq (g:=λ_=>0) λd _=>by simp,fK];exact⟨0,by simp⟩⟩
 | j+1,hj,u,z,k=>by
  have hjn:j<n:=by lia
  obtain⟨q,Tq⟩:=HX g hQ hq hjn (λi h1 h2=>z i ⋯ h2) (k j hjn);have w:=hW j hjn;have eu:∀i,i<n->s i∣(if i<j then u i-q*W j i else 0)-(1*u i+(-q)*W j i):=λi hi=>by
   rcases acZ i j with c|c|c
   .rw[if_pos c];exact⟨0,by rw[aa5];lia⟩
   .subst c;rw[if_neg ⋯,w.at_,Tq];obtain⟨x,hx⟩:=uM (gf s D i) (s i);refine⟨-(q*x),?_⟩;rw[show gf s D i%s i=gf s D i-s i*x by lia];generalize gf s D i=r
    grind
   .rw[if_neg ⋯,z i ⋯ hi,w.beh i c hi];exact⟨0,by simp⟩
  obtain⟨t,t0,ht⟩:=qU g hQ hq hW j ⋯ (λi=>if i<j then u i-q*W j i else 0) (λi h1 _=>if_neg ⋯) λb hb=>mH hq eu (k b hb) (w.kill b (Wb _) hb);refine⟨λd=>if d=j then q else t d,λd hd=>by show (if d=j then q else t d)=0;rw[if_neg ⋯];exact t0 d ⋯,λi hi=>?_⟩;have e:bI n (λd=>(if d=j then q else t d)*W d i)=1*bI n (λd=>t d*W d i)+1*bI n (λd=>if d=j then q*W j i else 0):=iR 1 1 _ _ _ n λd hd=>by
   by_cases x:d=j
   .subst x;simp[t0 d (VX _)]
   .simp[x]
  rw[fX j (q*W j i) n hjn (λd=>if d=j then q*W j i else 0) λ_ _=>rfl] at e;obtain⟨a,ha⟩:=eu i hi;obtain⟨b,hb⟩:=ht i hi;refine⟨b-a,?_⟩;rw[Int.mul_sub,<- ha,<- hb,e,aa5];lia
theorem qt(g':Good n s D')(h:∀d,d<n->G n s D' n 0 (D d)):∀k d (v:bN),d+k=n->G n s D k d v->G n s D' n 0 v
 | 0,d,v,_,hv=>g'.nZ ⋯ (λi hi=>by rw[aaz];exact hv i hi) (G.zero ⋯)
 | k+1,d,v,hn,hv=>by
  have a:=qt g' h k (d+1) _ ⋯ hv.2;exact G.ext ⋯ (λi _=>by lia) (G.add ⋯ a (G.mul (v d/aX s D d) ⋯ (h d ⋯)))
theorem G.at_{j:Nat}:∀{k d:Nat}{v:bN},G n s D k d v->(∀i,d<=i->i<j->v i=0)->d<=j->j<d+k->aX s D j∣v j
 | 0,d,v,_,_,h1,h2=>by lia
 | k+1,d,v,g,h0,h1,h2=>by
  rcases aaT h1 with q|q
  .have z:=h0 d (VX _) q;have e:(λi=>v i-v d/aX s D d*D d i)=v:=by funext i;rw[z];simp
   have g2:=g.2;rw[e] at g2;exact G.at_ g2 (λi a b=>h0 i ⋯ b) ⋯ ⋯
  .subst q;exact g.1
end
theorem zi(g:Good n s D)(low:∀d,d<n->∀e,d<e->e<n->D d e<aX s D e)(hd:d<n)(nz:D d d≠0){x:bN}(hx:∀i,i<n->0<=x i)(gx:G n s D n 0 x)(z:∀i,i<d->x i=0)(p:0<x d):(∀i,i<n->x i=D d i)\/∃e,e<n/\(∀i,i<e->x i=D d i)/\D d e<x e:=by
 have key:∀m,m<=n->(∀i,i<m->x i=D d i)\/∃e,e<n/\(∀i,i<e->x i=D d i)/\D d e<x e:=by
  intro m
  induction m with
  | zero=>exact λ_=>.inl λi hi=>absurd hi (aai i)
  | succ m ih =>
   intro hm;rcases ih ⋯ with h|h
   .by_cases e:x m=D d m
    .exact .inl λi hi=>by
      rcases abb.mp hi with c|c
      .exact h i c
      .rw[c];exact e
    .refine .inr ⟨m,by lia,h,?_⟩;have rm:=g.jJ d hd m ⋯;have pm:=g.pos (d:=m) ⋯;rcases acZ m d with c|c|c
     .exact absurd ((z m c).trans (g.vv d hd m c).symm) e
     .subst c;have dv:=gx.at_ (j:=m) (λi _ hi=>z i hi) (Wb _) ⋯;have sm:aX s D m=D m m:=by unfold aX;rw[if_neg nz]
      rw[sm] at dv;have:=ach p dv;lia
     .have gv:=g.sub ⋯ gx (g.row hd ⋯ (Wb _));have dv:=gv.at_ (j:=m) (λi _ hi=>by rw[h i hi];lia) (Wb _) ⋯;have l:=low d hd m c ⋯;have h0:=hx m ⋯;rcases Yj (D d m) (x m) with q|q|q
      .exact q
      .exact absurd q.symm e
      .exfalso;have:=ly dv ⋯ ⋯;lia
   .exact .inr h
 exact key n (VX n)
theorem A6(g:Good n s D)(hd:d<n)(nz:D d d=0){x:bN}(hx:0<=x d/\x d<s d)(gx:G n s D n 0 x)(z:∀i,i<d->x i=0):x d=0:=by
 have dv:=gx.at_ (j:=d) (λi _ hi=>z i hi) (Wb _) ⋯;unfold aX at dv;rw[if_pos nz] at dv;exact iA hx.1 hx.2 dv
end Rg
namespace L2
theorem Aa:∀a:List Int,HT.lexLt a a=false
 | []=>rfl
 |x::xs=>by rw[HT.fP,if_pos rfl];exact Aa xs
def Dm{a b:List Int}(h:HT.lexLt a b=true):HT.lexLt b a=false:=by
 have:=Fm a b;rw[h] at this;simpa using this
theorem Ej:∀{a b:List Int}(e:Nat),a.length=b.length->e<a.length->(∀i,i<e->a.getD i 0=b.getD i 0)->a.getD e 0<b.getD e 0->HT.lexLt a b=true
 | [],_,_,_,he,_,_=>absurd he (aai _)
 | _::_,[],_,hl,_,_,_=>by cases hl
 | x::xs,y::ys,0,_,_,_,lt=>by
  have lt:x<y:=lt;rw[HT.fP,if_neg ⋯];exact decide_eq_true lt
 | x::xs,y::ys,e+1,hl,he,pre,lt=>by
  have:x=y:=pre 0 (aax _);rw[HT.fP,if_pos this];exact Ej e (by simpa using hl) (by simpa using he) (λi hi=>pre (i+1) ⋯) lt
theorem fold_min{r:List Int}:∀(l:List (List Int))(b:List Int),(b=r\/HT.lexLt r b=true)->(∀k∈l,k=r\/HT.lexLt r k=true)->r∈b::l->l.foldl (λb y=>if HT.lexLt y b then y else b) b=r
 | [],b,_,_,m=>by simpa using (Wi.mp m).symm
 | y::l,b,hb,hl,m=>by
  rw[abI];have hy:=hl y V7;have hl':∀k∈l,k=r\/HT.lexLt r k=true:=λk h=>hl k (V5 _ h);cases e:HT.lexLt y b with
  | true =>
   rw[if_pos rfl];refine fold_min l y hy hl' ?_;rcases Wd.mp m with c|c
   .exfalso;subst c;rcases hy with c|c
    .rw[c,Aa] at e;cases e
    .rw[Dm c] at e;cases e
   .exact c
  | false =>
   rw[if_neg ↑12];refine fold_min l b hb hl' ?_;rcases Wd.mp m with c|c
   .exact c▸V7
   .rcases Wd.mp c with c|c
    .subst c;rcases hb with c|c
     .rw[c];exact V7
     .rw[c] at e;cases e
    .exact V5 _ c
def DO{ks:List (List Int)}{r:List Int}(hr:r∈ks)(h:∀k∈ks,k=r\/HT.lexLt r k=true):AZ ks=r:=by
 cases ks with
 | nil=>cases hr
 |cons k l=>exact fold_min l k (h k V7) (λy hy=>h y (V5 _ hy)) hr
end L2
namespace yF
open PySem L2 PyProof.Rows Rg
local macro_rules|`(tactic| dsimp? [$ts,*])=>do
 let l<-("cI bw aA mW aq yB ym retS bo tH kO kU av M.aE M.bind_some M.bind_none M.ET M.bind_assoc ae aj ai aa ak Hb HI LS Lw MG LW L6 JR LZ Mm ME Lr Md JT JU Mx dm gX vZ Aw GI Cf QW CF lY Oc kf GP itemsOf kK IA H_ Cu Ig G7 Fx DE FJ GS GB FP wU C7 dH cA sx Kg List.length_cons List.length_nil List.map_cons List.map_nil List.cons_append List.nil_append List.replicate List.getElem?_cons_zero List.getElem?_cons_succ List.getElem?_nil List.set_cons_zero List.set_cons_succ List.set_nil Nat.reduceAdd Nat.reduceSub if_true if_false Bool.not_true Bool.not_false Bool.false_eq_true ite_true ite_false reduceIte reduceCtorEq Nat.sub_self mJ bZ bR Option.map_some Option.map_none zY Kn L_ Gm Gq IC J3 GN HJ HR oA List.any_cons List.any_nil String.reduceBEq Bool.or_false Bool.or_true Bool.true_or Bool.false_or Bool.and_true Bool.and_false Bool.true_and Bool.false_and HA GZ Ml Lj Gj G1 HM Gz Dx De jn vj List.foldl_cons List.foldl_nil pP".splitOn " ").toArray.mapM fun n=>`(Lean.Parser.Tactic.simpLemma|$(Lean.mkIdent n.toName):term)
 `(tactic| simp only[$(⟨(Lean.Syntax.TSepArray.ofElems (sep:=",") l).elemsAndSeps⟩),*,ar trivial,$(⟨ts.elemsAndSeps⟩),*])
def oW(i:Int):fU [.int i]=M.ok (.bl true):=by rfl
variable{p:PV}{α:Type}
def AN{inj:α->PV}{h:α->Bool}(xs:List α)(n:Int)(hp:p=.tup (xs.map inj)\/p=.lst (xs.map inj))(H:∀a∈xs,fU [inj a]=M.ok (.bl (h a)))(hz:xs.length<=sizeLine):gF [p,.int n]=M.ok (.bl (decide ((xs.length:Int)=n)&&xs.all h)):=by
 have key:bF (bG 0) none (ai fU (aa (ae 0) ak)) (xs.map inj) [none]=M.ok (xs.map λa=>.bl (h a)):=fx xs λa ha=>by dsimp? [H a ha]
 have UL:yC [.lst (xs.map λa=>.bl (h a))]=M.ok (.bl (xs.all h)):=by
  have:=x9 (xs.map h);rw[WA] at this;rw[show (λa=>PV.bl (h a))=PV.bl∘h from rfl,this];simp[List.all_map]
 unfold gF kL;rcases hp with rfl|rfl
 all_goals
  dsimp? [VW]
  by_cases e:(xs.length:Int)=n
  .simp only[e,decide_true,Bool.not_true,M.aE,Xv,if_false,yB,aci];dsimp? [VW,ar hz,key,UL]
  .simp only[e,decide_false,Bool.not_false,M.aE,if_true,ym,abX];dsimp? []
def EA(xs:List Int)(n:Int)(hz:xs.length<=sizeLine):gF [tI xs,.int n]=M.ok (.bl (decide ((xs.length:Int)=n))):=by
 exact(AN (p:=tI xs) (h:=λ_=>true) xs n (.inl rfl) (λa _=>oW a) hz).trans (by rw[W_.mpr λ_ _=>rfl,acj])
def Kz(xs:List Int)(n:Int)(hz:xs.length<=sizeLine):gF [lI xs,.int n]=M.ok (.bl (decide ((xs.length:Int)=n))):=by
 exact(AN (p:=lI xs) (h:=λ_=>true) xs n (.inr rfl) (λa _=>oW a) hz).trans (by rw[W_.mpr λ_ _=>rfl,acj])
def N9{f:List Int->PV}(hf:f=tI\/f=lI)(xs:List Int)(n:Int)(hz:xs.length<=sizeLine):gF [f xs,.int n]=M.ok (.bl (decide ((xs.length:Int)=n))):=by
 rcases hf with rfl|rfl
 .exact EA xs n hz
 .exact Kz xs n hz
def NM{f:List Int->PV}(hf:f=tI\/f=lI)(xs:List Int):bP (f xs)=some (xs.map PV.int):=by rcases hf with rfl|rfl<;>rfl
def within_int(x a b:Int):dP [.int x,.int a,.int b]=M.ok (.bl (decide (a<=x/\x<=b))):=by
 unfold dP eW;dsimp? [oW]
 by_cases h:a<=x
 .simp only[h,decide_true,if_true,true_and];dsimp? []
 .simp only[h,decide_false,false_and];dsimp? []
def iK{xs:List PV}(h:bP p=some xs):vi p=M.ok (.int xs.length):=by
 cases p<;>first|(cases h;rfl)|cases h
theorem tR(xs:List Int)(hp:bP p=some (xs.map PV.int))(h1:1<=xs.length)(h6:xs.length<=6)(hx:∀x∈xs,2<=x/\x<=360):gZ [p]=M.ok .c6:=by
 unfold gZ ij;have a1:¬ (6:Int)<xs.length:=by lia
 have a2:¬ (xs.length:Int)=0:=by lia
 dsimp? [a1,a2,decide_false,iK hp,VW,vV xs hp];refine eV xs.zipIdx (λzs env=>(∃b c,env=[some (.sh p),b,c])/\∀z∈zs,2<=z.1/\z.1<=360) ⟨⟨_,_,rfl⟩,λz hz=>hx z.1 (Zh hz)⟩ ?_ ?_
 .rintro⟨a,i⟩ r env ⟨⟨b,c,rfl⟩,hz⟩;have ha:=hz (a,i) V7;refine⟨_,[some (.sh p),some (.sh (.int i)),some (.sh (.int a))],rfl,?_,⟨_,_,rfl⟩,λz Uw=>hz z (V5 _ Uw)⟩;dsimp? [within_int,ha,and_self,decide_true]
 .rintro Rc ⟨⟨b,c,rfl⟩,_⟩;rfl
theorem rQ{f:List Int->PV}(hf:f=tI\/f=lI)(n:Nat)(xs:List (List Int))(h8:xs.length<=8)(hx:∀x∈xs,x.length=n)(hn:n<=100):f_ [.lst (xs.map f),.int n]=M.ok .c6:=by
 unfold f_ f6;have a1:¬ (8:Int)<xs.length:=by lia
 dsimp? [a1,decide_false,VW,p6];refine eV xs.zipIdx (λzs env=>(∃b c,env=[some (.sh (.lst (xs.map f))),some (.sh (.int n)),b,c])/\∀z∈zs,z.1.length=n) ⟨⟨_,_,rfl⟩,λz hz=>hx z.1 (Zh hz)⟩ ?_ ?_
 .rintro⟨a,i⟩ r env ⟨⟨b,c,rfl⟩,hz⟩;have ha:a.length=n:=hz (a,i) V7;refine⟨_,[some (.sh (.lst (xs.map f))),some (.sh (.int n)),some (.sh (.int i)),some (.sh (f a))],rfl,?_,⟨_,_,rfl⟩,λz Uw=>hz z (V5 _ Uw)⟩;dsimp? [N9 hf a n (aM ⋯),ha,decide_true]
 .rintro Rc ⟨⟨b,c,rfl⟩,_⟩;rfl
def si(n:Nat)(p:PV):(VS n [p]).flatten=VS n p:=by
 induction n with
 | zero=>rfl
 |succ n ih=>rw[Xo,XZ,ih];rfl
theorem mul_one(p:PV)(n:Nat)(h8:n<=1000):cP (.tup [p]) (.int (n:Int))=M.ok (.tup (VS n p)):=by
 have h2:[p].length*(n:Int).toNat<=sizeLine:=by
  rw[Wq];exact aM (by show 1*n<=1000;lia)
 have h3:(n:Int)<2^63:=aaU (ac0.mpr h8) ↑12;have h4:-(2^63)<=(n:Int):=acX ↑12 (acz n);rw[cP,ar ⟨rfl,h4,h3,h2⟩,Wq,si]
theorem Bm(xs:List PV)(h8:xs.length<=8):de [.lst xs,.c6]=M.ok (tI (VS xs.length 1)):=by
 unfold de fj;dsimp? [zF,A0,mul_one (.int 1) xs.length ⋯];rw[tI,Xx]
def v7(xs Q5:List Int):List Int:=(xs.zip Q5).map λz=>z.1%z.2
def yA(p q:PV)(xs Q5:List Int)(hp:bP p=some (xs.map PV.int))(hq:bP q=some (Q5.map PV.int))(hs:∀s∈Q5,0<s)(hz:xs.length<=1000):lK [p,q]=M.ok (tI (v7 xs Q5)):=by
 have key:bF (cC 0 1) none (aj cQ (ae 0) (ae 1)) ((xs.zip Q5).map λz=>.tup [.int z.1,.int z.2]) [none,none]=M.ok ((xs.zip Q5).map λz=>.int (z.1%z.2)):=by
  refine j9 (p:=λz:Int×Int=>PV.int z.1) (q:=λz:Int×Int=>PV.int z.2) (xs.zip Q5) λz hz=>?_;have:=hs z.2 (Xf (a:=z.1) (b:=z.2) hz).2;dsimp? [aV this]
 unfold lK nY;have hl:(xs.zip Q5).length<=sizeLine:=by rw[W2];exact aM (WE (aal _ _) hz)
 dsimp? [gC xs Q5 hp hq,VW,ar hl,key];rw[tI,v7,WA];rfl
def zp(a b c:PV):aH (.tup [a,b,c]) (.int 0)=M.ok a:=bu (j:=0) rfl rfl
def Kb(a b c:PV):aH (.tup [a,b,c]) (.int 1)=M.ok b:=bu (j:=1) rfl rfl
def Kq(a b c:PV):aH (.tup [a,b,c]) (.int 2)=M.ok c:=bu (j:=2) rfl rfl
theorem uD(a b:Int)(ha:a.natAbs<2^60)(hb:b.natAbs<2^60):∃s t,gH [.int a,.int b]=M.ok (.tup [.int (WH a b),.int s,.int t])/\s*a+t*b=WH a b/\s.natAbs<=b.natAbs+1/\t.natAbs<=a.natAbs+(b.natAbs+1)*a.natAbs+b.natAbs+1:=by
 let J:af->Prop:=λenv=>∃r s t r' s' t' x y,env=[some (.sh (.int a)),some (.sh (.int b)),some (.sh ((PV.tup [PV.int r,PV.int s,PV.int t]))),some (.sh ((PV.tup [PV.int r',PV.int s',PV.int t']))),x,y]/\Eu.St a b r s t r' s' t'
 let m:af->Nat:=λenv=>match env with
  | [_,_,_,some (.sh (.tup [.int r,_,_])),_,_]=>r.natAbs
  | _=>0
 have hk:(b.natAbs+1)*a.natAbs<=2^60*2^60:=Zg ⋯ ⋯;have hk2:(2:Nat)^60*2^60=2^120:=by decide
 have start:J [some (.sh (.int a)),some (.sh (.int b)),some (.sh ((PV.tup [PV.int a,PV.int 1,PV.int 0]))),some (.sh ((PV.tup [PV.int b,PV.int 0,PV.int 1]))),none,none]:=⟨_,_,_,_,_,_,_,_,rfl,Eu.start a b⟩
 have loop:=uI (u:=dm (aj n8 (aj aH (ae 3) (λ_=>M.ok (.int 0))) (λ_=>M.ok (.int 0)))) (b:=(aq (bo 4 (aj bQ (aj aH (ae 2) (λ_=>M.ok (.int 0))) (aj aH (ae 3) (λ_=>M.ok (.int 0)))))
  (aq (bo 5 (kG (aa (aj pH (aj aH (ae 2) (λ_=>M.ok (.int 0))) (aj cP (ae 4) (aj aH (ae 3) (λ_=>M.ok (.int 0))))) (aa (aj pH (aj aH (ae 2) (λ_=>M.ok (.int 1))) (aj cP (ae 4) (aj aH (ae 3) (λ_=>M.ok (.int 1))))) (aa (aj pH (aj aH (ae 2) (λ_=>M.ok (.int 2))) (aj cP (ae 4) (aj aH (ae 3) (λ_=>M.ok (.int 2))))) ak)))))
  (aq (bo 2 (ae 3))
  (aq (bo 3 (ae 5))
  av))))) J m ?_ _ start
 .obtain⟨Rc,e1,⟨r,s,t,r',s',t',x,y,rfl,st⟩,e2⟩:=loop;have hr':r'=0:=by
   revert e2;dsimp? [zp];intro e2;have:(!decide (r'=0))=false:=by injection e2 with e2;injection e2
   simpa using this
  subst hr';obtain⟨d1,d2⟩:=Eu.done st;have hg:(r.natAbs:Int)=WH a b:=by
   have h1:r.natAbs∣WH a b:=Int.dvd_gcd (Int.natAbs_dvd.mpr d1) (Int.natAbs_dvd.mpr d2);have h2:((WH a b:Nat):Int)∣r:=by
    rw[st.c0];exact XH (Xi (Y3 ..) (XA _ _)) (Xi (acV ..) (XA _ _))
   have h3:WH a b∣r.natAbs:=Int.ofNat_dvd_left.mp h2;rw[Nat.dvd_antisymm h1 h3]
  unfold gH k9;dsimp? [];rw[e1];dsimp? [zp,Kb,Kq]
  by_cases hneg:r<0
  .refine⟨-s,-t,?_,?_,by rw[ZT];exact st.b0,by rw[ZT];exact st.d0⟩
   .simp only[hneg,decide_true,if_true];dsimp? [];rw[show -r=(WH a b:Int) by lia]
   .have:=st.c0;rw[aa5,aa5];lia
  .refine⟨s,t,?_,?_,st.b0,st.d0⟩
   .simp only[hneg,decide_false,Xv,if_false];dsimp? [];rw[show r=(WH a b:Int) by lia]
   .have:=st.c0;lia
 .rintro env ⟨r,s,t,r',s',t',x,y,rfl,st⟩
  by_cases h0:r'=0
  .refine .inl ?_;dsimp? [zp];simp[h0]
  .refine .inr ⟨?_,?_⟩
   .dsimp? [zp];simp[h0]
   .obtain⟨TU,lt⟩:=Eu.turn st h0;have b1:=st.m1;have b0:=st.m0;have c1:=st.b1;have c2:=st.d1;have c3:=TU.m1;have q1:(r.fdiv r').natAbs<=r.natAbs+1:=by
     obtain⟨f1,f2,f3⟩:=Eu.uJ r r' h0;generalize r.fdiv r'=q at *;have e:q*r'=r-(r-q*r'):=by lia
     have e2:(q*r').natAbs<=r.natAbs+(r-q*r').natAbs:=by lia
     rw[Y0] at e2;have:q.natAbs*1<=q.natAbs*r'.natAbs:=Zp _ ⋯;rcases WW (r.natAbs+1) q.natAbs with h|h
     .have h5:(r.natAbs+2)*r'.natAbs<=q.natAbs*r'.natAbs:=aac _ ⋯;have h6:r.natAbs*1<=r.natAbs*r'.natAbs:=Zp _ ⋯;rw[adm] at h5;lia
     .exact h
    have q2:(r.fdiv r').natAbs<2^200:=by lia
    refine⟨[some (.sh (.int a)),some (.sh (.int b)),some (.sh ((PV.tup [PV.int r',PV.int s',PV.int t']))),some (.sh ((PV.tup [PV.int (r-r.fdiv r'*r'),PV.int (s-r.fdiv r'*s'),PV.int (t-r.fdiv r'*t')]))),some (.sh (.int (r.fdiv r'))),some (.sh ((PV.tup [PV.int (r-r.fdiv r'*r'),PV.int (s-r.fdiv r'*s'),PV.int (t-r.fdiv r'*t')])))],?_,⟨_,_,_,_,_,_,_,_,rfl,TU⟩,lt⟩;dsimp? [zp,Kb,Kq,uV h0 (V8 (show r'.natAbs<2^200 by lia) (Xw ↑12 ↑12)),b_ (k:=200) (l:=200) q2 (show r'.natAbs<2^200 by lia),b_ (k:=200) (l:=200) q2 (show s'.natAbs<2^200 by lia),b_ (k:=200) (l:=200) q2 (show t'.natAbs<2^200 by lia)]
def R(Q5:List Int):Int:=(Lc.Dq (Q5.map aaF):Nat)
structure Sz (Q5:List Int):Prop where
 h1:1<=Q5.length
 h6:Q5.length<=6
 hx:∀x∈Q5,2<=x/\x<=360
variable{Q5:List Int}
theorem uz(h:Sz Q5):0<R Q5:=by
 refine Int.ofNat_lt.mpr (Lc.lcm_pos λn hn=>?_);obtain⟨x,hx,rfl⟩:=WU.mp hn;have:=h.hx x hx;lia
theorem MZ(h:Sz Q5):R Q5<2^60:=by
 have h1:=Lc.qA 9 (Q5.map aaF) 1 0 ↑12 ↑12 λn hn=>by
  obtain⟨x,hx,rfl⟩:=WU.mp hn;have:=h.hx x hx;lia
 have h2:(2:Nat)^(0+9*(Q5.map aaF).length)<=2^54:=Xw ↑12 (by rw[VW];have:=h.h6;lia);have h3:Lc.Dq (Q5.map aaF)<=2^54:=WE h1 h2;unfold R;lia
theorem NZ(h:Sz Q5){x:Int}(hx:x∈Q5):x∣R Q5:=by
 have h1:=Lc.lcm_dvd (ns:=Q5.map aaF) (WU.mpr ⟨x,hx,rfl⟩);have h2:=Int.ofNat_dvd.mpr h1;rwa[Zo (by have:=h.hx x hx;lia)] at h2
structure Acc (Q5 r:List Int) (acc:Nat):Prop where
 pos:0<acc
 le:acc<=2^(9*(6-r.length))
 len:r.length<=6
 val:(r.map aaF).foldl YM acc=Lc.Dq (Q5.map aaF)
 jJ:∀x∈r,2<=x/\x<=360
def Acc.start(h:Sz Q5):Acc Q5 Q5 1:=⟨by decide,Nat.one_le_two_pow,h.h6,rfl,h.hx⟩
variable{acc:Nat}
theorem Acc.lt{r:List Int}(h:Acc Q5 r acc):acc<2^60:=by
 have h2:(2:Nat)^(9*(6-r.length))<=2^54:=Xw ↑12 ⋯;have:=h.le;lia
theorem Acc.turn{r:List Int}{x:Int}(h:Acc Q5 (x::r) acc):Acc Q5 r (YM acc x.toNat)/\(acc:Int)/(WH acc x:Nat)*x=(YM acc x.toNat:Nat)/\(acc:Int)/(WH acc x:Nat)<=acc/\0<WH acc x:=by
 have hx:=h.jJ x V7;have hp:=h.pos;obtain⟨n,rfl⟩:=abj (show 0<=x by lia);have hg:WH (acc:Int) (n:Int)=Nat.gcd acc n:=rfl;refine⟨⟨ado hp ⋯,?_,?_,h.val,λy hy=>h.jJ y (V5 _ hy)⟩,?_,?_,?_⟩
 .have h1:YM acc n<=acc*n:=acg (Nat.mul_pos hp ⋯) (adn (acU ..) (adg ..));have h2:acc*n<=2^(9*(6-(r.length+1)))*2^9:=Zg h.le ⋯;have hl:r.length+1<=6:=h.len;rw[<- adp,show 9*(6-(r.length+1))+9=9*(6-r.length) by lia] at h2;exact WE h1 h2
 .have hl:r.length+1<=6:=h.len;lia
 .rw[hg,Wq,<- Lc.CK];norm_cast
 .rw[hg];exact ac0.mpr (Nat.div_le_self acc (Nat.gcd acc n))
 .rw[hg];exact Nat.gcd_pos_of_pos_left _ hp
theorem i8(Q5:List Int)(hp:bP p=some (Q5.map PV.int))(h:Sz Q5):gm [p]=M.ok (.int (R Q5)):=by
 unfold gm gc;dsimp? [hp];refine eV Q5 (λr env=>∃acc x,env=[some (.sh p),some (.sh (.int (acc:Nat))),x]/\Acc Q5 r acc) ⟨1,_,rfl,.start h⟩ ?_ ?_
 .rintro a r env ⟨acc,x,rfl,A⟩;obtain⟨A2,e1,e2,e3⟩:=A.turn;have l1:=A.lt;have ha:=A.jJ a V7;obtain⟨s,t,ec,_,_,_⟩:=uD (acc:Int) a ⋯ ⋯;have g1:WH acc a<=acc:=acg A.pos (Int.ofNat_dvd.mp (Y3 ..));have d0:0<=(acc:Int)/(WH acc a:Nat):=Yo ⋯ ⋯;refine⟨_,[some (.sh p),some (.sh (.int (YM acc a.toNat:Nat))),some (.sh (.int a))],rfl,?_,_,_,rfl,A2⟩;dsimp? [ec,zp,bh (i:=(acc:Int)) (show (0:Int)<(WH acc a:Nat) by lia) (show ((WH acc a:Nat):Int)<2^64 by lia),b_ (k:=64) (l:=64) (show ((acc:Int)/(WH acc a:Nat)).natAbs<2^64 by lia) (show a.natAbs<2^64 by lia),e1]
 .rintro Rc ⟨acc,x,rfl,A⟩;dsimp? [];have:=A.val;rw[R,<- this];rfl
def o3(pz Q5:List Int)(levers:List (List Int)):List (Str×PV):=[("dial_sizes",tI Q5),("lever_settings",.tup (levers.map tI)),("lever_prices",tI pz),("least_round",.int (R Q5))]
def cK(pz Q5:List Int)(levers:List (List Int)):PV:=.obj ao (o3 pz Q5 levers)
structure F7 (Q5 xs:List Int):Prop where
 len:xs.length=Q5.length
 jJ:∀z∈xs.zip Q5,0<=z.1/\z.1<z.2
variable{xs:List Int}
def m9(h:F7 Q5 xs):v7 xs Q5=xs:=by
 obtain⟨hl,hr⟩:=h;unfold v7
 induction xs generalizing Q5 with
 | nil=>rfl
 | cons x r ih =>
  cases Q5 with
  | nil=>cases hl
  | cons s t =>
   have h1:=hr (x,s) ↑13;rw[X9,Wv,ih (ZR hl) λz hz=>hr z (by rw[X9];exact V5 _ hz)];rw[show ((x,s):Int×Int).1%((x,s):Int×Int).2=x from Yi h1.1 h1.2]
theorem yf(f:Str)(p:PV):∀fs:List (Str×PV),(u6 f p fs).length<=fs.length+1
 | []=>by simp[u6]
 | (g,q)::r=>by
  have:=yf f p r;unfold u6
  split
  .simp
  .simp;lia
variable{n:Nat}
theorem jV{f:Str}{fs:List (Str×PV)}(h:fs.length<=n):(u6 f p fs).length<=n+1:=WE (yf f p fs) ⋯
def jQ(a C:Addr)(f:Str)(p:PV)(fs:List (Str×PV))(r:af)(h:fs.length<1000):DQ 0 C f p (some (.bd a C fs)::r)=M.ok (.nx (some (.bd a C (u6 f p fs))::r)):=by
 show cO _ _=_;rw[ar ⟨rfl,h⟩];rfl
variable{pz:List Int}
theorem xJ{pp:PV}{f:List Int->PV}(hf:f=tI\/f=lI)(Q5:List Int)(levers:List (List Int))(hpp:de [.lst (levers.map f),pp]=M.ok (tI pz))(hp:bP p=some (Q5.map PV.int))(h:Sz Q5)(h8:levers.length<=8)(hl:∀l∈levers,l.length=Q5.length):∀a,bM a [p,.lst (levers.map f),pp]=M.ok (o3 pz Q5 (levers.map λl=>v7 l Q5)):=by
  intro a;have e1:bF (bG 0) none (ai lK (aa (ae 0) (aa (ae 1) ak))) (levers.map f) [none,some (.sh p)]=M.ok (levers.map λl=>tI (v7 l Q5)):=by
   refine fx levers λl hm=>?_;have hs:=hl l hm;have:=yA (f l) p l Q5 (NM hf l) hp (λs hs=>by have:=h.hx s hs;lia) (by rw[hs];have:=h.h6;lia);dsimp? [this]
  unfold bM kd;simp only[wI];rw[ar (show ([p,PV.lst (levers.map f),pp]).length+1=4 from rfl)];simp only[Be,BV];dsimp? [hp,iK hp,tR Q5 hp h.h1 h.h6 h.hx,rQ hf Q5.length levers h8 hl (by have:=h.h6;lia),mI,hp,iK hp,VW,ar (aM (show levers.length<=1000 by lia)),e1,hpp,i8 Q5 hp h];rw[jQ _ _ _ _ _ _ ↑13];dsimp? [mI,hp,iK hp,VW,ar (aM (show levers.length<=1000 by lia)),e1,hpp,i8 Q5 hp h];rw[jQ _ _ _ _ _ _ (Xj (jV (Wb 0)) ↑12)];dsimp? [mI,hp,iK hp,VW,ar (aM (show levers.length<=1000 by lia)),e1,hpp,i8 Q5 hp h];rw[jQ _ _ _ _ _ _ (Xj (jV (jV (Wb 0))) ↑12)];dsimp? [mI,hp,iK hp,VW,ar (aM (show levers.length<=1000 by lia)),e1,hpp,i8 Q5 hp h];rw[jQ _ _ _ _ _ _ (Xj (jV (jV (jV (Wb 0)))) ↑12)];dsimp? [];show cO _ _=_;rw[ar ⟨rfl,rfl⟩];rw[o3,WA];rfl
def ones(Ls:List (List Int)):List Int:=VS Ls.length 1
def Ae{f:List Int->PV}(hf:f=tI\/f=lI)(Q5:List Int)(levers:List (List Int))(hp:bP p=some (Q5.map PV.int))(h:Sz Q5)(h8:levers.length<=8)(hl:∀l∈levers,l.length=Q5.length):cU ao bM [.c6] [p,.lst (levers.map f)]=M.ok (cK (ones (levers.map λl=>v7 l Q5)) Q5 (levers.map λl=>v7 l Q5)):=by
 unfold cU;have key:=xJ (pz:=ones (levers.map λl=>v7 l Q5)) hf Q5 levers ((Bm _ (show (levers.map f).length<=8 by rwa[VW])).trans (by rw[ones,VW,VW])) hp h h8 hl;rw[show ([p,.lst (levers.map f)]++[.c6]:List PV)=[p,.lst (levers.map f),.c6] from rfl,yY key];rfl
theorem yQ(xs:List PV)(pz:List Int)(sq:bP p=some (pz.map PV.int))(nn:zF p .c6=M.ok (.bl false))(h8:xs.length<=8)(hl:pz.length=xs.length)(hx:∀x∈pz,1<=x/\x<=1000):de [.lst xs,p]=M.ok (tI pz):=by
 have ix:∀i:Nat,i<pz.length->aH p (.int (i:Int))=M.ok (.int (pz.getD i 0)):=λi hi=>bu (j:=i) sq (by rw[Ww,VT hi,VZ,VT hi];rfl);have l1:=iK sq;rw[VW,hl] at l1;have mx:Dl (λi j=>if j>i then j else i) [.int (xs.length:Int),.int (xs.length:Int)]=M.ok (.int (xs.length:Int)):=by
  show M.ok (PV.int (if (xs.length:Int)>(xs.length:Int) then _ else _))=_;rw[if_neg ⋯]
 unfold de fj;dsimp? [nn,l1,mx,dU (n:=(xs.length:Int)) ⋯ ⋯,Wq];refine eV (V6 xs.length) (λzs env=>(∃y,env=[some (.sh (.lst xs)),some (.sh p),y])/\∀z∈zs,z<xs.length) ⟨⟨_,rfl⟩,λz hz=>W5.mp hz⟩ ?_ ?_
 .rintro i r env ⟨⟨y,rfl⟩,hz⟩;have hi:=hz i V7;have hv:=hx (pz.getD i 0) (by rw[VZ,VT ⋯];exact Wu _);have n1:¬ (xs.length:Int)<=(i:Int):=by lia
  refine⟨_,[some (.sh (.lst xs)),some (.sh p),some (.sh (.int (i:Int)))],rfl,?_,⟨_,rfl⟩,λz h=>hz z (V5 _ h)⟩;dsimp? [l1,n1,decide_false,ix i ⋯,within_int,hv,and_self,decide_true]
 .rintro Rc ⟨⟨y,rfl⟩,_⟩;dsimp? [sq];rfl
def D6{pp:PV}{f:List Int->PV}(hf:f=tI\/f=lI)(Q5:List Int)(levers:List (List Int))(sq:bP pp=some (pz.map PV.int))(nn:zF pp .c6=M.ok (.bl false))(Rt:pz.length=levers.length)(hpx:∀x∈pz,1<=x/\x<=1000)(hp:bP p=some (Q5.map PV.int))(h:Sz Q5)(h8:levers.length<=8)(hl:∀l∈levers,l.length=Q5.length):cU ao bM [] [p,.lst (levers.map f),pp]=M.ok (cK pz Q5 (levers.map λl=>v7 l Q5)):=by
 unfold cU;have key:=xJ hf Q5 levers (yQ (levers.map f) pz sq nn (by rwa[VW]) (by rwa[VW]) hpx) hp h h8 hl;rw[show ([p,.lst (levers.map f),pp]++[]:List PV)=[p,.lst (levers.map f),pp] from rfl,yY key];rfl
def Bc(Q5:List Int)(levers:List (List Int)):(o3 pz Q5 levers).lookup (WG "lever_prices")=some (tI pz):=rfl
def A8(Q5:List Int)(levers:List (List Int)):dN [cK pz Q5 levers]=M.ok (tI pz):=by
 unfold dN e8;dsimp? [eG,cK,beq_self_eq_true,Bc]
def Dh(Q5:List Int)(levers:List (List Int)):(o3 pz Q5 levers).lookup (WG "dial_sizes")=some (tI Q5):=rfl
def BY(Q5:List Int)(levers:List (List Int)):(o3 pz Q5 levers).lookup (WG "lever_settings")=some (.tup (levers.map tI)):=rfl
def Dk(Q5:List Int)(levers:List (List Int)):(o3 pz Q5 levers).lookup (WG "least_round")=some (.int (R Q5)):=rfl
def Nj(Q5:List Int)(levers:List (List Int)):(o3 pz Q5 levers).lookup (WG "sizes")=none:=rfl
def Np(Q5:List Int)(levers:List (List Int)):(o3 pz Q5 levers).lookup (WG "levers")=none:=rfl
def yc(Q5:List Int)(levers:List (List Int)):aP [cK pz Q5 levers]=M.ok (tI Q5):=by
 unfold aP aZ;dsimp? [eG,cK,beq_self_eq_true,Dh]
def ug(Q5:List Int)(levers:List (List Int)):aS [cK pz Q5 levers]=M.ok (.tup (levers.map tI)):=by
 unfold aS bq;dsimp? [eG,cK,beq_self_eq_true,BY]
variable{levers:List (List Int)}
def qj{g:af->M PV}{env:af}(h:g env=M.ok (cK pz Q5 levers)):bc ao "sizes" aP g ak env=M.ok (tI Q5):=by
 have:=yc (pz:=pz) Q5 levers;rw[bc,h,M.aE];show cO _ (M.bind (ak env) _)=_;rw[ar ⟨rfl,Nj Q5 levers⟩];exact this
def rG{g:af->M PV}{env:af}(h:g env=M.ok (cK pz Q5 levers)):bc ao "levers" aS g ak env=M.ok (.tup (levers.map tI)):=by
 have:=ug (pz:=pz) Q5 levers;rw[bc,h,M.aE];show cO _ (M.bind (ak env) _)=_;rw[ar ⟨rfl,Np Q5 levers⟩];exact this
def GD(Q5 xs:List Int):Bool:=decide ((xs.length:Int)=Q5.length)&&(xs.zip Q5).all λz=>decide (0<=z.1/\z.1<z.2)
theorem G5:GD Q5 xs=true ↔ F7 Q5 xs:=by
 unfold GD;constructor
 .intro h;simp only[WT,decide_eq_true_eq,W_] at h;exact⟨by lia,h.2⟩
 .intro h;simp only[WT,decide_eq_true_eq,W_];exact⟨by rw[h.len],h.jJ⟩
def Du(x s:Int):∀env:af,env=[some (.sh (.int x)),some (.sh (.int s))]->kf F6 DX (λ_=>M.ok (.int 0)) (ae 0) (ae 1) env=M.ok (.bl (decide (0<=x/\x<s))):=by
 rintro env rfl;dsimp? []
 by_cases h:0<=x
 .simp only[h,decide_true,if_true,true_and]
  try dsimp? []
 .simp only[h,decide_false,false_and]
  try dsimp? []
def K7(h:α->Bool)(xs:List α):yC [.lst (xs.map λa=>.bl (h a))]=M.ok (.bl (xs.all h)):=by
 have:=x9 (xs.map h);rw[WA] at this;rw[show (λa=>PV.bl (h a))=PV.bl∘h from rfl,this];simp[List.all_map]
def zN(h:Sz Q5)(xs:List Int)(hz:xs.length<=1000):ik [cK pz Q5 levers,tI xs]=M.ok (.bl (GD Q5 xs)):=by
 have key:bF (cC 0 1) none (kf F6 DX (λ_=>M.ok (.int 0)) (ae 0) (ae 1)) ((xs.zip Q5).map λz=>.tup [.int z.1,.int z.2]) [none,none]=M.ok ((xs.zip Q5).map λz=>.bl (decide (0<=z.1/\z.1<z.2))) :=
  j9 (p:=λz:Int×Int=>PV.int z.1) (q:=λz:Int×Int=>PV.int z.2) (xs.zip Q5) λz hz=>Du z.1 z.2 _ rfl
 have hl:(xs.zip Q5).length<=sizeLine:=by rw[W2];exact aM (WE (aal _ _) hz)
 unfold ik iw;dsimp? [qj (Q5:=Q5) (levers:=levers) (g:=ae 0) (env:=[some (.sh (cK pz Q5 levers)),some (.sh (tI xs)),none]) rfl,EA xs Q5.length (aM hz)];unfold GD
 by_cases e:(xs.length:Int)=Q5.length
 .simp only[e,decide_true,Bool.not_true,Xv,if_false,aci];dsimp? [gC (p:=tI xs) (q:=tI Q5) xs Q5 rfl rfl,VW,ar hl,key,K7]
 .simp only[e,decide_false,Bool.not_false,if_true,abX];dsimp? []
theorem vB(h:Sz Q5)(hs:F7 Q5 xs):cV [cK pz Q5 levers,tI xs]=M.ok .c6:=by
 unfold cV dO;dsimp? [zN (levers:=levers) h xs (by rw[hs.len];have:=h.h6;lia),G5.mpr hs]
variable{ys:List Int}
def p7{z:Int×Int}(h:z∈xs.zip ys):z.1∈xs/\z.2∈ys:=Xf (a:=z.1) (b:=z.2) h
theorem vA(h:Sz Q5)(hs:F7 Q5 xs){x:Int}(hx:x∈xs):0<=x/\x<360:=by
 obtain⟨i,hi,rfl⟩:=Wc.mp hx;have hj:i<Q5.length:=by rwa[<- hs.len]
 have:=hs.jJ (xs[i],Q5[i]) (by
  rw[Wc];exact⟨i,by rw[W2];lia,by rw[YA]⟩)
 have h2:=h.hx Q5[i] (Wu hj);exact⟨this.1,by have:=this.2;simp only at this;lia⟩
def FG(xs Q5:List Int):v7 xs Q5=BP xs Q5:=rfl
def cf(a b:Int):Int×Int:=open Classical in if h:∃p:Int×Int,gH [.int a,.int b]=M.ok (.tup [.int (WH a b),.int p.1,.int p.2])/\p.1*a+p.2*b=WH a b/\p.1.natAbs<=b.natAbs+1/\p.2.natAbs<=a.natAbs+(b.natAbs+1)*a.natAbs+b.natAbs+1 then h.choose else (0,0)
def JJ(a b:Int)(ha:a.natAbs<2^60)(hb:b.natAbs<2^60):gH [.int a,.int b]=M.ok (.tup [.int (WH a b),.int (cf a b).1,.int (cf a b).2])/\(cf a b).1*a+(cf a b).2*b=WH a b/\(cf a b).1.natAbs<=b.natAbs+1/\(cf a b).2.natAbs<=a.natAbs+(b.natAbs+1)*a.natAbs+b.natAbs+1:=by
 have h:∃p:Int×Int,gH [.int a,.int b]=M.ok (.tup [.int (WH a b),.int p.1,.int p.2])/\p.1*a+p.2*b=WH a b/\p.1.natAbs<=b.natAbs+1/\p.2.natAbs<=a.natAbs+(b.natAbs+1)*a.natAbs+b.natAbs+1:=by
  obtain⟨s,t,h⟩:=uD a b ha hb;exact⟨(s,t),h⟩
 unfold cf;rw[dif_pos h];exact h.choose_spec
theorem Ad:CB cf:=λa b h1 h2 h3 h4=>by
 obtain⟨_,e,b1,b2⟩:=JJ a b ⋯ ⋯;refine⟨e,by lia,?_⟩;have:(b.natAbs+1)*a.natAbs<=361*360:=Zg ⋯ ⋯;lia
def mk(r:Row):PV:=.tup [tI r.1,tI r.2]
def uN(r:Row):aH (mk r) (.int 0)=M.ok (tI r.1):=bu (p:=mk r) (j:=0) rfl rfl
def Fh(r:Row):aH (mk r) (.int 1)=M.ok (tI r.2):=bu (p:=mk r) (j:=1) rfl rfl
variable{i:Nat}
def jo(h:i<xs.length):aH (tI xs) (.int (i:Int))=M.ok (.int (vf xs i)) :=
 bu (p:=tI xs) rfl (by rw[Ww,VT h,aQ h];rfl)
variable{d:Nat}{rows:List Row}
def qB(h:d<rows.length):aH (.lst (rows.map mk)) (.int (d:Int))=M.ok (mk (row rows d)) :=
 bu (p:=.lst (rows.map mk)) rfl (by rw[Ww,VT h,gN h];rfl)
def qH{A B:Nat}(p q:PV)(xs ys:List Int)(a b:Int)(hp:bP p=some (xs.map PV.int))(hq:bP q=some (ys.map PV.int))(hx:Bd B xs)(hy:Bd B ys)(ha:a.natAbs<2^A)(hb:b.natAbs<2^A)(hB:B<=9000)(hA:A<=9000)(hz:xs.length<=1000):lp [p,.int a,q,.int b]=M.ok (tI (pJ xs a ys b)):=by
 have key:bF (cC 0 1) none (aj c7 (aj cP (ae 2) (ae 0)) (aj cP (ae 3) (ae 1))) ((xs.zip ys).map λz=>.tup [.int z.1,.int z.2]) [none,none,some (.sh (.int a)),some (.sh (.int b))]=M.ok ((xs.zip ys).map λz=>.int (a*z.1+b*z.2)):=by
  refine j9 (p:=λz:Int×Int=>PV.int z.1) (q:=λz:Int×Int=>PV.int z.2) (xs.zip ys) λz hz=>?_;have m:=Xf (a:=z.1) (b:=z.2) hz;dsimp? [b_ (k:=A) (l:=B) ha (hx _ m.1) hA hB,b_ (k:=A) (l:=B) hb (hy _ m.2) hA hB]
 have hl:(xs.zip ys).length<=sizeLine:=by rw[W2];exact aM (WE (aal _ _) hz)
 unfold lp ny;dsimp? [gC xs ys hp hq,VW,ar hl,key];rw[tI,pJ,WA];rfl
variable{r:Row}
theorem zJ{A B:Nat}{q:Row}{a b:Int}(hs:∀s∈Q5,0<s)(h1:Bd B r.1)(h2:Bd B r.2)(h3:Bd B q.1)(h4:Bd B q.2)(ha:a.natAbs<2^A)(hb:b.natAbs<2^A)(hB:B<=9000)(hA:A<=9000)(z1:r.1.length<=100)(z2:r.2.length<=100):eg [tI Q5,mk r,.int a,mk q,.int b]=M.ok (mk (sV Q5 r a q b)):=by
 unfold eg e6;dsimp? [uN,Fh,qH (tI r.1) (tI q.1) r.1 q.1 a b rfl rfl h1 h3 ha hb hB hA ⋯,qH (tI r.2) (tI q.2) r.2 q.2 a b rfl rfl h2 h4 ha hb hB hA ⋯,yA (tI (pJ r.1 a q.1 b)) (tI Q5) (pJ r.1 a q.1 b) Q5 rfl rfl hs (by rw[cj];lia)];rfl
variable{m:Nat}
theorem vm(w:Wf n m rows)(hs:Q5.length=n)(hd:d<n):dM [tI Q5,.lst (rows.map mk),.int (d:Int)]=M.ok (.int (aX (vf Q5) (DD rows) d)):=by
 unfold dM eY;have e1:=w.og hd;dsimp? [qB (rows:=rows) (d:=d) (by rwa[w.len]),uN,jo (xs:=(row rows d).1) (i:=d) ⋯];unfold aX
 by_cases z:DD rows d d=0
 .have z':vf (row rows d).1 d=0:=z;simp only[z',z,decide_true,if_true];dsimp? [jo (xs:=Q5) (i:=d) ⋯]
 .have z':¬ vf (row rows d).1 d=0:=z;simp only[z',z,decide_false,Xv,if_false];dsimp? [];rfl
def drop_cons{xs:List α}{a:α}{r:List α}(h:xs.drop d=a::r):d<xs.length/\xs[d]?=some a/\xs.drop (d+1)=r:=by
 have hd:d<xs.length:=by
  rcases WW d xs.length with q|q
  .exact q
  .rw[Yq q] at h;cases h
 rw[XC hd] at h;injection h with h1 h2
 exact⟨hd,by rw[VT hd,h1],h2⟩
def lP(env:af):ph ak env=M.ok []:=by
 simp only[ph,ak,M.aE];exact if_pos (Wb _)
def AV{f:af->M PV}{env:af}{xs:List PV}(h:env[i]?=some (some (.ow xs)))(hf:f env=M.ok p)(hz:xs.length<1000):oo i f env=M.ok (.nx (env.set i (some (.ow (xs++[p]))))):=by
 unfold oo;rw[h];show M.bind (f env) _=_;rw[hf,M.aE,if_pos (oG (Y5 hz))]
theorem va(hl:xs.length=n)(h:∀i,i<n->0<=vf xs i/\vf xs i<vf Q5 i)(hs:∀i,i<n->vf Q5 i<=360):Bd 9 xs:=λx hx=>by
 obtain⟨i,hi,rfl⟩:=Wc.mp hx;have h1:=h i ⋯;have h2:=hs i ⋯;rw[aQ hi] at h1;lia
theorem Fc{a b:Int}(h1:-1000<=a)(h2:a<=1000)(h3:-1000<=b)(h4:b<=1000):B5 [.int a,.int b]=M.ok ((V6 (b-a).toNat).map λ(i:Nat)=>.int (a+(i:Int))):=by
 have h:-(2^62)<=a/\a<2^62/\-(2^62)<=b/\b<2^62:=by lia
 show cO (-(2^62)<=a/\a<2^62/\-(2^62)<=b/\b<2^62) _=_;rw[ar h]
variable{k:Nat}
section
variable{A:Nat->bN}{left:Row}
def St.Ei(h:St n m Q5 A k rows)(hd:d<n):Bd 9 (row rows d).1:=va (h.wf.og hd) (λi hi=>h.gd.jJ d hd i hi) h.sm
def CM(h:St n m Q5 A k rows):∀s∈Q5,0<s:=λs hs=>by
 obtain⟨i,hi,rfl⟩:=Wc.mp hs;have:=h.gd.sp i (by rwa[<- h.hs])
 rwa [aQ hi] at this
theorem DL(h:St n m Q5 A k rows)(L:Lv n m Q5 A k left)(hn:n<=6)(hm:m<=8):jL [tI Q5,.lst (rows.map mk),mk left]=M.ok (.tup [.lst ((cL cf Q5 rows left n).map mk),tI (aB cf Q5 rows left n).2]):=by
 have rl:=h.wf.len;have hkm:=L.km;unfold jL jR;dsimp? [lP,p6];refine eV rows.zipIdx (λzs env=>∃d x4 x5 x6 x7 x8,d<=n/\rows.zipIdx.drop d=zs/\env=[some (.sh (tI Q5)),some (.sh (.lst (rows.map mk))),some (.sh (mk (aB cf Q5 rows left d))),some (.ow ((cL cf Q5 rows left d).map mk)),x4,x5,x6,x7,x8]) ⟨0,none,none,none,none,none,Wb _,rfl,rfl⟩ ?_ ?_
 .rintro⟨a,i⟩ zs env ⟨d,x4,x5,x6,x7,x8,hd,To,rfl⟩;obtain⟨h1,h2,h3⟩:=drop_cons To;rw[XR,rl] at h1;have h4:a=row rows d/\i=d:=by
   rw[List.getElem?_zipIdx] at h2;rw[gN (by rwa[rl])];rw[VT (by rwa[rl])] at h2;simp at h2;exact⟨h2.1.symm,h2.2.symm⟩
  obtain⟨rfl,rfl⟩:=h4;have ll:=dr (c:=cf) h.wf h.hs L.l1 L.l2 i ⋯;have lk:=lF (c:=cf) h L i ⋯;have lb:=qe (c:=cf) h L hn i ⋯;have st:=h.gd.pos h1;have sm:=h.sm i h1;have nt:=lk i h1;have e1:=h.wf.og h1;have e2:=h.wf.at2 h1;generalize RN:aX (vf Q5) (DD rows) i=R4 at *;generalize hnt:vf (aB cf Q5 rows left i).1 i=nt' at *;obtain⟨c1,c2,c3,c4⟩:=JJ R4 nt' ⋯ ⋯;have cb:=Ad R4 nt' st.1 ⋯ nt.1 ⋯;have gp:=gW (b:=nt') st.1;have gl:(WH R4 nt':Int)<=R4:=ach st.1 (Y3 ..);have a1:=kQ (b:=nt') st.1 ⋯;have a2:=nG (b:=nt') st.1 nt.1 ⋯;have B1:Bd 1300 (row rows i).1:=(St.Ei h h1).mono ⋯;have B2:Bd 1300 (row rows i).2:=(h.bd i h1).mono ⋯;have B3:Bd 1300 (aB cf Q5 rows left i).1:=(va ll.1 lk h.sm).mono ⋯;have B4:Bd 1300 (aB cf Q5 rows left i).2:=lb.mono ⋯;have w1:=zJ (A:=20) (Q5:=Q5) (CM h) B1 B2 B3 B4 cb.2.1 cb.2.2 ↑12 ↑12 ⋯ ⋯;have w2:=zJ (A:=20) (Q5:=Q5) (a:=R4/(WH R4 nt':Nat)) (b:=-(nt'/(WH R4 nt':Nat))) (CM h) B3 B4 B1 B2 ⋯ ⋯ ↑12 ↑12 ⋯ ⋯;have ew:eR cf Q5 rows left i=sV Q5 (row rows i) (cf R4 nt').1 (aB cf Q5 rows left i) (cf R4 nt').2:=by
   simp only[eR,RN,hnt]
  have el:aB cf Q5 rows left (i+1)=sV Q5 (aB cf Q5 rows left i) (R4/(WH R4 nt':Nat)) (row rows i) (-(nt'/(WH R4 nt':Nat))):=by
   simp only[aB,RN,hnt]
  refine⟨_,[some (.sh (tI Q5)),some (.sh (.lst (rows.map mk))),some (.sh (mk (aB cf Q5 rows left (i+1)))),some (.ow ((cL cf Q5 rows left (i+1)).map mk)),some (.sh (.int i)),some (.sh (mk (row rows i))),some (.sh (.int R4)),some (.sh (.int nt')),some (.sh (.tup [.int (WH R4 nt'),.int (cf R4 nt').1,.int (cf R4 nt').2]))],rfl,?_,i+1,_,_,_,_,_,by lia,h3,rfl⟩;have sok:=vm h.wf h.hs h1;rw[RN] at sok;have nok:=jo (xs:=(aB cf Q5 rows left i).1) (i:=i) ⋯;rw[hnt] at nok;dsimp? [sok,uN,nok,c1];rw[AV (i:=3) rfl (p:=mk (eR cf Q5 rows left i)) (by dsimp? [Kb,Kq,w1,ew]) (by simp[cL];lia)];dsimp? [zp,bh (i:=R4) gp ⋯,bh (i:=nt') gp ⋯,w2,el];rw[cL,cL,List.range_succ,Xl,Xl];rfl
 .rintro env ⟨d,x4,x5,x6,x7,x8,hd,To,rfl⟩;have UP:d=n:=by
   have:=congrArg Zd To;rw[Yz,XR,rl] at this;simp at this;lia
  subst UP;dsimp? [Fh]
def bf(Q5:List Int)(rows:List Row)(r:Row)(f:Nat):Nat->Row
 | 0=>r
 | c+1 =>
  let l:=bf Q5 rows r f c
  sV Q5 l 1 (row rows (f+c)) (-(vf l.1 (f+c)/aX (vf Q5) (DD rows) (f+c)))
theorem jd(h:St n m Q5 A k rows){r:Row}{f:Nat}(h1:r.1.length=n)(h2:r.2.length=m):∀c,f+c<=n->(bf Q5 rows r f c).1.length=n/\(bf Q5 rows r f c).2.length=m
 | 0,_=>⟨h1,h2⟩
 | c+1,hc=>by
  obtain⟨i1,i2⟩:=jd h (f:=f) h1 h2 c ⋯;have e1:=h.wf.og (d:=f+c) ⋯;have e2:=h.wf.at2 (d:=f+c) ⋯;have hs:=h.hs;simp only[bf,sV];rw[kZ,cj,cj];exact⟨by lia,by lia⟩
theorem oC(h:St n m Q5 A k rows){f:Nat}(h1:r.1.length=n)(h2:r.2.length=m)(h0:∀i,i<n->0<=vf r.1 i/\vf r.1 i<vf Q5 i):Dn n (vf Q5) (DD rows) f (λd=>vf (bf Q5 rows r f (d-f)).1) where
 w0:=λi hi=>by rw[aaB];exact h0 i hi
 ws:=λd hf hd i hi=>by
  obtain⟨c,rfl⟩:∃c,d=f+c:=⟨d-f,by lia⟩
  obtain⟨i1,i2⟩:=jd h (f:=f) h1 h2 c ⋯;have e1:=h.wf.og (d:=f+c) ⋯;have hs:=h.hs;show vf (bf Q5 rows r f (f+c+1-f)).1 i=_;rw[show f+c+1-f=c+1 by lia,show f+c-f=c by lia];simp only[bf,sV];rw[kT (by rw[cj];lia) ⋯,fN ⋯ ⋯];rfl
theorem wc(h:St n m Q5 A k rows){r:Row}{f:Nat}(h1:r.1.length=n)(h2:r.2.length=m){P₀:bN}{B:bN}(hl:Led n (vf Q5) m A (λi=>vf r.1 i-B i) (λl=>vf r.2 l-P₀ l)):∀c,f+c<=n->Led n (vf Q5) m A (λi=>vf (bf Q5 rows r f c).1 i-B i) (λl=>vf (bf Q5 rows r f c).2 l-P₀ l)
 | 0,_=>hl
 | c+1,hc=>by
  obtain⟨i1,i2⟩:=jd h (f:=f) h1 h2 c ⋯;have e1:=h.wf.og (d:=f+c) ⋯;have e2:=h.wf.at2 (d:=f+c) ⋯;have hs:=h.hs;refine Led.mix (a:=1) (b:=-(vf (bf Q5 rows r f c).1 (f+c)/aX (vf Q5) (DD rows) (f+c))) (wc h (f:=f) h1 h2 hl c ⋯) (h.led (f+c) ⋯) (λi hi=>?_) λl hl=>?_
  .simp only[bf,sV];rw[kT (by rw[cj];lia) ⋯,fN ⋯ ⋯];obtain⟨z,hz⟩:=cX (1*vf (bf Q5 rows r f c).1 i+-(vf (bf Q5 rows r f c).1 (f+c)/aX (vf Q5) (DD rows) (f+c))*vf (row rows (f+c)).1 i) (vf Q5 i);refine⟨z,?_⟩;rw[<- hz];unfold DD
   grind
  .simp only[bf,sV];rw[fN ⋯ ⋯];unfold PP
   grind
theorem vS(h:St n m Q5 A k rows){r:Row}{f B:Nat}(h1:r.1.length=n)(h2:r.2.length=m)(h0:∀i,i<n->0<=vf r.1 i/\vf r.1 i<vf Q5 i)(hB:150*k+1<=B)(hb:Bd B r.2):∀c,f+c<=n->Bd (B+11*c) (bf Q5 rows r f c).2
 | 0,_=>hb
 | c+1,hc=>by
  have k0:=(oC h (f:=f) h1 h2 h0).kept h.gd (f+c) ⋯ ⋯ (f+c) ⋯;rw[show f+c-f=c by lia] at k0;have sm:=h.sm (f+c) ⋯;have p:=h.gd.pos (d:=f+c) ⋯;have q:=Zk (aX (vf Q5) (DD rows) (f+c)) k0.1;have q0:=Yo k0.1 (acW p.1);have:=Bd.mix (A:=10) (vS h (f:=f) h1 h2 h0 hB hb c ⋯) ((h.bd (f+c) ⋯).mono (show 150*k+1<=B+11*c by lia)) (a:=1) (b:=-(vf (bf Q5 rows r f c).1 (f+c)/aX (vf Q5) (DD rows) (f+c))) ↑12 ⋯;exact this.mono ⋯
theorem qy(h:St n m Q5 A k rows){f B:Nat}(hn:n<=6)(hm:m<=8)(h1:r.1.length=n)(h2:r.2.length=m)(h0:∀i,i<n->0<=vf r.1 i/\vf r.1 i<vf Q5 i)(hB:150*k+1<=B)(hB2:B<=8000)(hb:Bd B r.2)(hf:f<=n):fM [tI Q5,.lst (rows.map mk),mk r,.int (f:Int)]=M.ok (mk (bf Q5 rows r f (n-f))):=by
 have hs:=h.hs;have rl:=h.wf.len;unfold fM jw;have jJ:B5 [.int (f:Int),.int (Q5.length:Int)]=M.ok ((V6 (n-f)).map λ(i:Nat)=>.int ((f+i:Nat):Int)):=by
  rw[Fc ⋯ ⋯ ⋯ ⋯,hs,show ((n:Int)-(f:Int)).toNat=n-f by lia];simp
 dsimp? [jJ];refine eV (V6 (n-f)) (λzs env=>∃c x4 x5,c<=n-f/\(V6 (n-f)).drop c=zs/\env=[some (.sh (tI Q5)),some (.sh (.lst (rows.map mk))),some (.sh (mk (bf Q5 rows r f c))),some (.sh (.int (f:Int))),x4,x5]) ⟨0,none,none,Wb _,rfl,rfl⟩ ?_ ?_
 .rintro i zs env ⟨c,x4,x5,hc,To,rfl⟩;obtain⟨c1,c2,c3⟩:=drop_cons To;rw[WJ] at c1;obtain rfl:i=c:=by
   rw[X3 c1] at c2;exact(V9 c2).symm
  have UQ:f+i<n:=by lia
  have ll:=jd h (f:=f) h1 h2 i ⋯;have lk:=(oC h (f:=f) h1 h2 h0).kept h.gd (f+i) ⋯ ⋯;rw[show f+i-f=i by lia] at lk;have k0:=lk (f+i) UQ;have sm:=h.sm (f+i) UQ;have p:=h.gd.pos UQ;have e1:=h.wf.og UQ;have e2:=h.wf.at2 UQ;have B1:Bd 8200 (row rows (f+i)).1:=(St.Ei h UQ).mono ⋯;have B2:Bd 8200 (row rows (f+i)).2:=(h.bd _ UQ).mono ⋯;have B3:Bd 8200 (bf Q5 rows r f i).1:=(va ll.1 lk h.sm).mono ⋯;have B4:Bd 8200 (bf Q5 rows r f i).2:=(vS h (f:=f) h1 h2 h0 hB hb i ⋯).mono ⋯;have q:=Zk (aX (vf Q5) (DD rows) (f+i)) k0.1;have q0:=Yo k0.1 (acW p.1);have w:=zJ (A:=20) (Q5:=Q5) (a:=1) (b:=-(vf (bf Q5 rows r f i).1 (f+i)/aX (vf Q5) (DD rows) (f+i))) (CM h) B3 B4 B1 B2 ↑12 ⋯ ↑12 ↑12 ⋯ ⋯;refine⟨_,[some (.sh (tI Q5)),some (.sh (.lst (rows.map mk))),some (.sh (mk (bf Q5 rows r f (i+1)))),some (.sh (.int (f:Int))),some (.sh (.int ((f+i:Nat):Int))),some (.sh (.int (vf (bf Q5 rows r f i).1 (f+i)/aX (vf Q5) (DD rows) (f+i))))],rfl,?_,i+1,_,_,by lia,c3,rfl⟩;dsimp? [uN,jo (xs:=(bf Q5 rows r f i).1) (i:=f+i) ⋯,vm h.wf h.hs UQ,bh (i:=vf (bf Q5 rows r f i).1 (f+i)) p.1 ⋯,qB (rows:=rows) (d:=f+i) ⋯,w];rfl
 .rintro env ⟨c,x4,x5,hc,To,rfl⟩;have:c=n-f:=by
   have:=congrArg Zd To;rw[Yz,WJ] at this;simp at this;lia
  subst this;dsimp? []
end
theorem Gr(m k:Nat)(hm:m<=1000):jN [.int (m:Int),.int (k:Int)]=M.ok (tI (pe m k)):=by
 have key:bF (bG 0) none (CF (dm (aj sW (ae 0) (ae 1))) (λ_=>M.ok (.int 1)) (λ_=>M.ok (.int 0))) ((V6 m).map λ(i:Nat)=>.int (i:Int)) [none,some (.sh (.int (k:Int)))]=M.ok ((V6 m).map λ(i:Nat)=>.int (if i=k then 1 else 0)):=by
  refine fx (inj:=λ(i:Nat)=>PV.int (i:Int)) (V6 m) λi hi=>?_;dsimp? []
  by_cases z:i=k
  .subst z;simp only[decide_true,if_true]
  .have z':¬ (i:Int)=(k:Int):=by lia
   simp only[z,z',decide_false,Xv,if_false]
 unfold jN jT;dsimp? [dU (n:=(m:Int)) ⋯ ⋯,Wq,VW,WJ,ar (aM hm),key];rw[tI,pe,WA];rfl
theorem u4{n:Int}(h:0<=n):WC (n-1) (-1) (-1)=n:=by
 unfold WC;rw[if_neg ↑12]
 split
 .rw[show -(-1:Int)=1 from rfl,Int.ediv_one];lia
 .lia
theorem Hz{n:Int}(h:0<=n)(h2:n<=1000):C3 (n-1) (-1) (-1)=true:=by
 unfold C3 aar;have f:∀x:Int,-(2^40)<x->x<2^40->aaC x=true:=λx h1 h2=>by
  unfold aaC;simp only[WT,decide_eq_true_eq];lia
 simp only[u4 h,f (n-1) ⋯ ⋯,f (-1) ↑12 ↑12,f n ⋯ ⋯,f (n-1+n*-1) ⋯ ⋯,acj,aci,Bool.and_self,WT,decide_eq_true_eq];refine⟨by decide,?_⟩;rw[if_neg ↑12,f (-1+(-1+1)) ↑12 ↑12,Bool.or_true]
theorem xX(k:Nat)(hk:k<=1000):Cs [.int ((k:Int)-1),.int (-1),.int (-1)]=M.ok ((V6 k).map λ(i:Nat)=>.int ((k:Int)-1+(i:Int)*-1)):=by
 show cO (C3 ((k:Int)-1) (-1) (-1)=true) _=_;rw[ar (Hz ⋯ ⋯),u4 ⋯,Wq]
variable{j:Nat}{Q7:List (List Int)}
def Iu(h:j<Q7.length):aH (.lst (Q7.map tI)) (.int (j:Int))=M.ok (tI (Q7.getD j [])) :=
 bu (p:=.lst (Q7.map tI)) rfl (by rw[Ww,VT h,VZ,VT h];rfl)
theorem yE{B:Nat}{s:bN}{A:Nat->bN}{P:List Int}(h:AK n m s A k Q7)(hP:P.length=m)(hm:m<=8)(hk:k<=m)(hB:60<=B)(hB2:B<=8000)(hb:Bd B P):iT [tI P,.lst (Q7.map tI)]=M.ok (tI (aW Q7 k P k)):=by
 have il:=h.len;unfold iT iO;dsimp? [VW,il,xX k ⋯];refine eV (V6 k) (λzs env=>∃c x2 x3,c<=k/\(V6 k).drop c=zs/\env=[some (.sh (tI (aW Q7 k P c))),some (.sh (.lst (Q7.map tI))),x2,x3]) ⟨0,none,none,Wb _,rfl,rfl⟩ ?_ ?_
 .rintro i zs env ⟨c,x2,x3,hc,To,rfl⟩;obtain⟨c1,c2,c3⟩:=drop_cons To;rw[WJ] at c1;obtain rfl:i=c:=by
   rw[X3 c1] at c2;exact(V9 c2).symm
  have hj:k-1-i<k:=by lia
  have ej:(k:Int)-1+(i:Int)*-1=((k-1-i:Nat):Int):=by lia
  have sl:=span_len h hP i ⋯;have rl:=h.l2 (k-1-i) hj;have p:=h.pos (k-1-i) hj;have pl60:=h.le (k-1-i) hj;have zb:=AH h hP hk hB hb i ⋯;have B1:Bd 8600 (aW Q7 k P i):=zb.mono ⋯;have B2:Bd 8600 (Q7.getD (k-1-i) []):=(h.bd hj hk).mono ⋯;have q:(-(vf (aW Q7 k P i) (k-1-i)/vf (Q7.getD (k-1-i) []) (k-1-i))).natAbs<2^8600:=by
   rw[ZT];exact Xj (aaX ..) (B1.vf _)
  have w:=qH (A:=8600) (tI (aW Q7 k P i)) (tI (Q7.getD (k-1-i) [])) (aW Q7 k P i) (Q7.getD (k-1-i) []) 1 (-(vf (aW Q7 k P i) (k-1-i)/vf (Q7.getD (k-1-i) []) (k-1-i))) rfl rfl B1 B2 (Nat.one_lt_two_pow ↑12) q ↑12 ↑12 ⋯;refine⟨_,[some (.sh (tI (aW Q7 k P (i+1)))),some (.sh (.lst (Q7.map tI))),some (.sh (.int ((k-1-i:Nat):Int))),some (.sh (tI (Q7.getD (k-1-i) [])))],rfl,?_,i+1,_,_,by lia,c3,rfl⟩;rw[ej];dsimp? [Iu (Q7:=Q7) (j:=k-1-i) ⋯,jo (xs:=aW Q7 k P i) (i:=k-1-i) ⋯,jo (xs:=Q7.getD (k-1-i) []) (i:=k-1-i) ⋯,bh (i:=vf (aW Q7 k P i) (k-1-i)) (j:=vf (Q7.getD (k-1-i) []) (k-1-i)) p (by show II Q7 (k-1-i) (k-1-i)<2^64;lia),w];rfl
 .rintro env ⟨c,x2,x3,hc,To,rfl⟩;have:c=k:=by
   have:=congrArg Zd To;rw[Yz,WJ] at this;simp at this;lia
  subst this;dsimp? []
variable{Ls:List (List Int)}
theorem o6(h:Q5.length<=6):iI [cK pz Q5 Ls]=M.ok (tI (VS Q5.length 0)):=by
 unfold iI jx;dsimp? [qj (Q5:=Q5) (levers:=Ls) (g:=ae 0) (env:=[some (.sh (cK pz Q5 Ls))]) rfl,mul_one (.int 0) Q5.length ⋯];rw[tI,Xx]
theorem pD(hm:Ls.length<=8)(xs:List Int):fS [cK pz Q5 Ls,tI xs]=M.ok (mk (xs,VS Ls.length 0)):=by
 unfold fS iM;dsimp? [rG (Q5:=Q5) (levers:=Ls) (g:=ae 0) (env:=[some (.sh (cK pz Q5 Ls)),some (.sh (tI xs))]) rfl,VW,mul_one (.int 0) Ls.length ⋯];rw[mk,tI,tI,Xx]
theorem Ib(hm:Ls.length<=8)(hk:k<Ls.length):f7 [cK pz Q5 Ls,.int (k:Int)]=M.ok (mk (bU Ls Ls.length k)):=by
 have e:aH (.tup (Ls.map tI)) (.int (k:Int))=M.ok (tI (Ls.getD k [])):=bu (p:=.tup (Ls.map tI)) rfl (by rw[Ww,VT hk,VZ,VT hk];rfl);unfold f7 gi;dsimp? [rG (Q5:=Q5) (levers:=Ls) (g:=ae 0) (env:=[some (.sh (cK pz Q5 Ls)),some (.sh (.int (k:Int))),none]) rfl,VW,e,Gr Ls.length k ⋯];rfl
def yd:∀xs:List Int,sR (tI xs)=true:=by
 intro xs;have:∀ys:List Int,ot (ys.map PV.int)=true:=by
  intro ys
  induction ys with
  | nil=>rfl
  | cons a r ih=>simp[ot,sR,ih]
 exact this xs
def M9(x y:PV):aH (.tup [x,y]) (.int 0)=M.ok x:=bu (j:=0) rfl rfl
def Nf(x y:PV):aH (.tup [x,y]) (.int 1)=M.ok y:=bu (j:=1) rfl rfl
def om(Q5:List Int)(rows:List Row)(n:Nat):List Row:=(V6 n).map λd=>bf Q5 rows (row rows d) (d+1) (n-(d+1))
def xQ(V:PV)(rows:List Row)(Q7:List (List Int)):List (Str×PV):=[("vault",V),("made_rows",.lst (rows.map mk)),("idle_rows",.lst (Q7.map tI))]
theorem Ek(hn1:1<=Q5.length)(hn:Q5.length<=6)(hm:Ls.length<=8)(hp:∀i,i<Q5.length->0<vf Q5 i/\vf Q5 i<=360)(LL:MR Q5.length Ls.length Q5 Ls):cU az cR [] [cK pz Q5 Ls]=M.ok (.obj az (xQ (cK pz Q5 Ls) (om Q5 (RK cf Q5 Ls Q5.length Ls.length Ls.length).1 Q5.length) (RK cf Q5 Ls Q5.length Ls.length Ls.length).2)):=by
 have all:=λk hk=>CJ.all (c:=cf) rfl hp LL Ad hn k hk;have key:∀a,cR a ([cK pz Q5 Ls]++[])=M.ok (xQ (cK pz Q5 Ls) (om Q5 (RK cf Q5 Ls Q5.length Ls.length Ls.length).1 Q5.length) (RK cf Q5 Ls Q5.length Ls.length Ls.length).2):=by
  intro a;have e1:bF (bG 0) none (ai fS (aa (ae 1) (aa (ai iI (aa (ae 1) ak)) ak))) (Q5.map PV.int) [none,some (.sh (cK pz Q5 Ls))]=M.ok ((VS Q5.length ((VS Q5.length (0:Int)),(VS Ls.length (0:Int)))).map mk):=by
   rw[fx (h:=λ_=>mk (VS Q5.length 0,VS Ls.length 0)) Q5 λx _=>by dsimp? [o6 (Ls:=Ls) hn,pD (Q5:=Q5) hm (VS Q5.length 0)]];congr 1;rw[List.map_const',Xx]
  have e2:bF (cC 0 1) none (ai fM (aa (ae 2) (aa (ae 3) (aa (ae 1) (aa (aj c7 (ae 0) (λ_=>M.ok (.int 1))) ak))))) ((RK cf Q5 Ls Q5.length Ls.length Ls.length).1.zipIdx.map λz=>.tup [.int (z.2:Int),mk z.1]) [none,none,some (.sh (tI Q5)),some (.sh (.lst ((RK cf Q5 Ls Q5.length Ls.length Ls.length).1.map mk)))]=M.ok ((om Q5 (RK cf Q5 Ls Q5.length Ls.length Ls.length).1 Q5.length).map mk):=by
   have I:=all Ls.length (VX _);generalize RK cf Q5 Ls Q5.length Ls.length Ls.length=rk at *;have rl:=I.st.wf.len;rw[j9 (p:=λz:Row×Nat=>PV.int (z.2:Int)) (q:=λz:Row×Nat=>mk z.1) (h:=λz:Row×Nat=>mk (bf Q5 rk.1 z.1 (z.2+1) (Q5.length-(z.2+1)))) rk.1.zipIdx λz hz=>?_]
   .congr 1;rw[om,WA];refine adh (by simp[rl]) λi h1 h2=>?_;have hi:i<rk.1.length:=by simpa using h1
    simp[gN hi]
   .obtain⟨i,hi,e⟩:=Wc.mp hz;rw[XR] at hi;rw[Zq] at e;have ez:z=(row rk.1 i,i):=by rw[<- e,gN hi];simp
    subst ez;have hin:i<Q5.length:=by lia
    have:=qy (f:=i+1) (B:=150*Ls.length+1) I.st hn hm (I.st.wf.og hin) (I.st.wf.at2 hin) (λj hj=>I.st.gd.jJ i hin j hj) (VX _) ⋯ (I.st.bd i hin) ⋯;rw[show ((i+1:Nat):Int)=(i:Int)+1 by lia] at this;dsimp? [this]
  have zl:Q5.length<=sizeLine:=aM ⋯;have I:=all Ls.length (VX _);have rl:=I.st.wf.len;unfold cR jX;simp only[wI];rw[ar (show ([cK pz Q5 Ls]++([]:List PV)).length+1=2 from rfl)];simp only[Be,BV];dsimp? [qj (Q5:=Q5) (levers:=Ls) (g:=ae 1) (env:=[some (.bd a az []),some (.sh (cK pz Q5 Ls)),none,none,none,none,none]) rfl,VW,ar zl,e1,lP,rG (Q5:=Q5) (levers:=Ls) (g:=ae 1) (env:=[some (.bd a az []),some (.sh (cK pz Q5 Ls)),some (.sh (tI Q5)),some (.sh (.lst ((VS Q5.length ((VS Q5.length (0:Int)),(VS Ls.length (0:Int)))).map mk))),some (.ow []),none,none]) rfl,dU (n:=(Ls.length:Int)) ⋯ ⋯,Wq];refine eV (V6 Ls.length) (λzs env=>∃k x5 x6,k<=Ls.length/\(V6 Ls.length).drop k=zs/\env=[some (.bd a az []),some (.sh (cK pz Q5 Ls)),some (.sh (tI Q5)),some (.sh (.lst ((RK cf Q5 Ls Q5.length Ls.length k).1.map mk))),some (.ow ((RK cf Q5 Ls Q5.length Ls.length k).2.map tI)),x5,x6]) ⟨0,none,none,Wb _,rfl,rfl⟩ ?_ ?_
  .rintro i zs env ⟨k,x5,x6,hk,To,rfl⟩;obtain⟨c1,c2,c3⟩:=drop_cons To;rw[WJ] at c1;obtain rfl:i=k:=by
    rw[X3 c1] at c2;exact(V9 c2).symm
   have J:=all i hk;have L:Lv Q5.length Ls.length Q5 (AA Ls) i (bU Ls Ls.length i):=⟨LL.at_ i c1,by simp[bU,pe],c1,λj hj=>rfl,LL.jJ i c1,λl hl=>xN hl⟩
   have tk:=DL J.st L hn hm;have ll:=dr (c:=cf) J.st.wf J.st.hs L.l1 L.l2 Q5.length (VX _);have lb:=qe (c:=cf) J.st L hn Q5.length (VX _);have sp:=yE (B:=1400) J.wz ll.2 hm ⋯ ↑12 ↑12 (lb.mono ⋯);have il:=J.wz.len;refine⟨_,[some (.bd a az []),some (.sh (cK pz Q5 Ls)),some (.sh (tI Q5)),some (.sh (.lst ((RK cf Q5 Ls Q5.length Ls.length (i+1)).1.map mk))),some (.ow ((RK cf Q5 Ls Q5.length Ls.length (i+1)).2.map tI)),some (.sh (.int (i:Int))),some (.sh (.tup [.lst ((cL cf Q5 (RK cf Q5 Ls Q5.length Ls.length i).1 (bU Ls Ls.length i) Q5.length).map mk),tI (aB cf Q5 (RK cf Q5 Ls Q5.length Ls.length i).1 (bU Ls Ls.length i) Q5.length).2]))],rfl,?_,i+1,_,_,by lia,c3,rfl⟩;dsimp? [Ib (Q5:=Q5) hm c1,tk,M9];rw[AV (i:=4) rfl (p:=tI (aW (RK cf Q5 Ls Q5.length Ls.length i).2 i (aB cf Q5 (RK cf Q5 Ls Q5.length Ls.length i).1 (bU Ls Ls.length i) Q5.length).2 i)) (by
    dsimp? [kY,ownAt,Nf,sp];exact ar (yd _)) (by simp[il];lia)]
   dsimp? [RK,Xl]
  .rintro env ⟨k,x5,x6,hk,To,rfl⟩;have:k=Ls.length:=by
    have:=congrArg Zd To;rw[Yz,WJ] at this;simp at this;lia
   subst this;dsimp? [mI];rw[jQ _ _ _ _ _ _ ↑13];dsimp? [mI,p6,VW,XR,rl,ar zl,e2];rw[jQ _ _ _ _ _ _ (Xj (jV (Wb 0)) ↑12)];dsimp? [mI];rw[jQ _ _ _ _ _ _ (Xj (jV (jV (Wb 0))) ↑12)];dsimp? [];show cO _ _=_;rw[ar ⟨rfl,rfl⟩];rfl
 unfold cU;rw[yY key];rfl
section
variable{A:Nat->bN}
def nR(h:d<n):row (om Q5 rows n) d=bf Q5 rows (row rows d) (d+1) (n-(d+1)):=by
 rw[gN (by simp[om,h])];simp[om]
theorem Kv(h:St n m Q5 A m rows)(hn:n<=6)(hA:∀i,A m i=0):St n m Q5 A (m+1) (om Q5 rows n):=by
 have hl:∀d,d<n->(bf Q5 rows (row rows d) (d+1) (n-(d+1))).1.length=n/\(bf Q5 rows (row rows d) (d+1) (n-(d+1))).2.length=m:=λd hd=>jd h (h.wf.og hd) (h.wf.at2 hd) _ ⋯;have lg:=xg (D':=DD (om Q5 rows n)) h.gd (λd e=>vf (bf Q5 rows (row rows d) (d+1) (e-(d+1))).1) (λd hd=>oC h (h.wf.og hd) (h.wf.at2 hd) λi hi=>h.gd.jJ d hd i hi) (λd hd i hi=>by
  show vf (bf Q5 rows (row rows d) (d+1) (d+1-(d+1))).1 i=_;rw[aaB];rfl) λd hd i hi=>by
  unfold DD;rw[nR hd]
 refine⟨⟨by simp[om],λr hr=>?_,λr hr=>?_⟩,h.hs,h.sm,lg.1,λd hd=>?_,λd hd l h1 h2=>by lia,λd hd=>?_,λl hl=>?_⟩
 .obtain⟨d,hd,rfl⟩:=WU.mp hr;exact(hl d (W5.mp hd)).1
 .obtain⟨d,hd,rfl⟩:=WU.mp hr;exact(hl d (W5.mp hd)).2
 .unfold DD PP;rw[nR hd];have:=wc h (f:=d+1) (h.wf.og hd) (h.wf.at2 hd) (P₀:=λ_=>0) (B:=λ_=>0) (by
   have q:=h.led d hd;intro i hi;have:=q i hi;simp only[aaz];exact this) (n-(d+1)) ⋯
  intro i hi;have:=this i hi;simp only[aaz] at this;exact this
 .rw[nR hd];exact(vS h (f:=d+1) (h.wf.og hd) (h.wf.at2 hd) (λi hi=>h.gd.jJ d hd i hi) (VX _) (h.bd d hd) (n-(d+1)) ⋯).mono ⋯
 .rcases WW l m with q|q
  .exact lg.2.2.2.2 n 0 ⋯ _ (h.cl l q)
  .obtain rfl:l=m:=by lia
   exact G.ext ⋯ (λi _=>(hA i).symm) (G.zero ⋯)
end
def mM(pz Q5:List Int)(Ls:List (List Int))(R:List Row)(Q7:List (List Int)):PV:=.obj az (xQ (cK pz Q5 Ls) R Q7)
section
variable{R:List Row}
def NO:(xQ (cK pz Q5 Ls) R Q7).lookup (WG "vault")=some (cK pz Q5 Ls):=rfl
def MX:(xQ (cK pz Q5 Ls) R Q7).lookup (WG "made_rows")=some (.lst (R.map mk)):=rfl
def NJ:(xQ (cK pz Q5 Ls) R Q7).lookup (WG "idle_rows")=some (.lst (Q7.map tI)):=rfl
def Pl:(xQ (cK pz Q5 Ls) R Q7).lookup (WG "brought_down")=none:=rfl
def OI{g:af->M PV}{env:af}(h:g env=M.ok (mM pz Q5 Ls R Q7)):eG (λc=>c==az) "vault" g env=M.ok (cK pz Q5 Ls):=by
 rw[eG,h,M.aE];show cO _ (e9 (Yu _ _))=_;rw[ar (beq_self_eq_true _),NO];rfl
def QV{g:af->M PV}{env:af}(h:g env=M.ok (mM pz Q5 Ls R Q7)):eG (λc=>c==az) "made_rows" g env=M.ok (.lst (R.map mk)):=by
 rw[eG,h,M.aE];show cO _ (e9 (Yu _ _))=_;rw[ar (beq_self_eq_true _),MX];rfl
def Q3{g:af->M PV}{env:af}(h:g env=M.ok (mM pz Q5 Ls R Q7)):eG (λc=>c==az) "idle_rows" g env=M.ok (.lst (Q7.map tI)):=by
 rw[eG,h,M.aE];show cO _ (e9 (Yu _ _))=_;rw[ar (beq_self_eq_true _),NJ];rfl
theorem Hk{A:Nat->bN}(S:Sz Q5)(hm:Ls.length<=8)(h:St Q5.length Ls.length Q5 A k R)(hk:k<=9)(hx:F7 Q5 xs)(h0:∀i,i<Q5.length->0<=vf xs i/\vf xs i<vf Q5 i):bS [mM pz Q5 Ls R Q7,tI xs]=M.ok (mk (bf Q5 R (xs,VS Ls.length 0) 0 Q5.length)):=by
 have lo:=qy (f:=0) (B:=150*k+1) (r:=(xs,VS Ls.length 0)) h S.h6 hm hx.len ↑13 h0 (VX _) ⋯ (λx hx=>by rw[XJ hx];exact Yn _) (Wb _);rw[abw] at lo;unfold bS cD;dsimp? [OI (Q5:=Q5) (Ls:=Ls) (R:=R) (Q7:=Q7) (g:=ae 0) (env:=[some (.sh (mM pz Q5 Ls R Q7)),some (.sh (tI xs))]) rfl,QV (Q5:=Q5) (Ls:=Ls) (R:=R) (Q7:=Q7) (g:=ae 0) (env:=[some (.sh (mM pz Q5 Ls R Q7)),some (.sh (tI xs))]) rfl,vB (levers:=Ls) S hx,pD (Q5:=Q5) hm xs,qj (Q5:=Q5) (levers:=Ls) (g:=eG (λc=>c==az) "vault" (ae 0)) (env:=[some (.sh (mM pz Q5 Ls R Q7)),some (.sh (tI xs))]) (OI (R:=R) (Q7:=Q7) rfl),show fM [tI Q5,.lst (R.map mk),mk (xs,VS Ls.length 0),.int 0]=_ from lo]
end
def r_(xs:List Int):List Int:=xs.map λx=>-x
def Kw(xs:List Int)(i:Nat):vf (r_ xs) i=-vf xs i:=by
 rcases WW i xs.length with h|h
 .rw[aQ (by simpa [r_] using h),aQ h];simp[r_]
 .rw[sM (by simpa [r_] using h),sM h];rfl
def Lp{B:Nat}(h:Bd B xs):Bd B (r_ xs):=λx hx=>by
 obtain⟨y,hy,rfl⟩:=WU.mp hx;rw[ZT];exact h y hy
section
variable{R:List Row}
def told(Q5:List Int)(Ls:List (List Int))(R:List Row)(Q7:List (List Int))(xs:List Int):List Int:=aW Q7 Ls.length (r_ (bf Q5 R (xs,VS Ls.length 0) 0 Q5.length).2) Ls.length
theorem DY{A:Nat->bN}(S:Sz Q5)(hm:Ls.length<=8)(h:St Q5.length Ls.length Q5 A k R)(hk:k<=9)(I:AK Q5.length Ls.length (vf Q5) A Ls.length Q7)(hx:F7 Q5 xs)(h0:∀i,i<Q5.length->0<=vf xs i/\vf xs i<vf Q5 i)(hg:G Q5.length (vf Q5) (DD R) Q5.length 0 (vf xs)):bJ [mM pz Q5 Ls R Q7,tI xs]=M.ok (tI (told Q5 Ls R Q7 xs))/\(told Q5 Ls R Q7 xs).length=Ls.length/\Led Q5.length (vf Q5) Ls.length A (vf xs) (vf (told Q5 Ls R Q7 xs))/\∀l,l<Ls.length->0<=vf (told Q5 Ls R Q7 xs) l/\vf (told Q5 Ls R Q7 xs) l<II Q7 l l:=by
 have l6:=S.h6;have r2:(VS Ls.length (0:Int)).length=Ls.length:=by simp
 have ll:=jd h (f:=0) (r:=(xs,VS Ls.length 0)) hx.len r2 Q5.length ⋯;have dn:=oC h (f:=0) (r:=(xs,VS Ls.length 0)) hx.len r2 h0;have z:=dn.run h.gd Q5.length 0 (VX _) ⋯ (by rwa[aaB]);rw[abw] at z;have nz:(bf Q5 R (xs,VS Ls.length 0) 0 Q5.length).1=VS Q5.length 0:=mK (by rw[ll.1];simp) λi hi=>by rw[z i ⋯,cZ]
 have b:=vS h (f:=0) (B:=150*k+1) (r:=(xs,VS Ls.length 0)) hx.len r2 h0 (VX _) (λx hx=>by rw[XJ hx];exact Yn _) Q5.length ⋯;have nl:(r_ (bf Q5 R (xs,VS Ls.length 0) 0 Q5.length).2).length=Ls.length:=by rw[r_,VW];exact ll.2
 have sp:=yE (B:=1500) I nl hm (VX _) ↑12 ↑12 (Lp (b.mono ⋯));have led:=wc h (f:=0) (r:=(xs,VS Ls.length 0)) hx.len r2 (P₀:=λ_=>0) (B:=vf xs) (by
  intro i hi;rw[dq (g:=λ_=>0) λl hl=>by
   show (vf (VS Ls.length 0) l-0)*A l i=0;rw[cZ];simp,fK]
  show vf Q5 i∣vf xs i-vf xs i-0;rw[abD];exact Xd _) Q5.length ⋯
 have led2:Led Q5.length (vf Q5) Ls.length A (vf xs) (vf (r_ (bf Q5 R (xs,VS Ls.length 0) 0 Q5.length).2)):=by
  refine Led.mix (a:=-1) (b:=0) led led (λi hi=>?_) λl hl=>?_
  .rw[z i hi];exact⟨0,by lia⟩
  .rw[Kw];lia
 refine⟨?_,span_len I nl _ (VX _),sJ I nl led2 _ (VX _),λl hl=>vK I nl (VX _) _ (VX _) l ⋯ hl⟩;have dk:=Hk (Q7:=Q7) (pz:=pz) S hm h hk hx h0;have md:∀y,bc az "brought_down" bS (ae 0) (aa (ae 1) ak) [some (.sh (mM pz Q5 Ls R Q7)),some (.sh (tI xs)),y]=M.ok (mk (bf Q5 R (xs,VS Ls.length 0) 0 Q5.length)):=λy=>by
  show M.bind (M.ok (mM pz Q5 Ls R Q7)) _=_;rw[M.aE];show cO _ (M.bind (M.ok [tI xs]) _)=_;rw[ar ⟨rfl,Pl⟩,M.aE];exact dk
 have cm:bF (bG 0) none (lY (ae 0)) ((bf Q5 R (xs,VS Ls.length 0) 0 Q5.length).2.map PV.int) [none]=M.ok ((bf Q5 R (xs,VS Ls.length 0) 0 Q5.length).2.map λx=>.int (-x)):=fx _ λx _=>by dsimp? []
 have lz:(bf Q5 R (xs,VS Ls.length 0) 0 Q5.length).2.length<=sizeLine:=by rw[ll.2];exact aM ⋯
 have en:PV.tup ((bf Q5 R (xs,VS Ls.length 0) 0 Q5.length).2.map λx=>PV.int (-x))=tI (r_ (bf Q5 R (xs,VS Ls.length 0) 0 Q5.length).2):=by rw[tI,r_,WA];rfl
 unfold bJ dZ;dsimp? [md,uN,Fh,OI (Q5:=Q5) (Ls:=Ls) (R:=R) (Q7:=Q7) (g:=ae 0) (env:=[some (.sh (mM pz Q5 Ls R Q7)),some (.sh (tI xs)),some (.sh (mk (bf Q5 R (xs,VS Ls.length 0) 0 Q5.length)))]) rfl,o6 (Ls:=Ls) l6,nz,ou,decide_true,Q3 (Q5:=Q5) (Ls:=Ls) (R:=R) (Q7:=Q7) (g:=ae 0) (env:=[some (.sh (mM pz Q5 Ls R Q7)),some (.sh (tI xs)),some (.sh (mk (bf Q5 R (xs,VS Ls.length 0) 0 Q5.length)))]) rfl,VW,ar lz,cm,en,sp];rfl
end
def t6(Q5 xs ys:List Int)(t:Int):List Int:=(xs.zip (ys.zip Q5)).map λz=>(z.1+t*z.2.1)%z.2.2
theorem qO{t:Int}(h1:xs.length=Q5.length)(h2:ys.length=Q5.length):(t6 Q5 xs ys t).length=Q5.length:=by
 simp[t6];lia
theorem zU{t:Int}(h1:xs.length=Q5.length)(h2:ys.length=Q5.length)(hi:i<Q5.length):vf (t6 Q5 xs ys t) i=(vf xs i+t*vf ys i)%vf Q5 i:=by
 rw[aQ (by rwa[qO h1 h2]),aQ ⋯,aQ ⋯,aQ hi];simp[t6]
theorem nh(p:PV)(n:Nat)(h8:n<=1000):cP (.lst [p]) (.int (n:Int))=M.ok (.lst (VS n p)):=by
 have h2:[p].length*(n:Int).toNat<=sizeLine:=by
  rw[Wq];exact aM (by show 1*n<=1000;lia)
 have h3:(n:Int)<2^63:=aaU (ac0.mpr h8) ↑12;have h4:-(2^63)<=(n:Int):=acX ↑12 (acz n);rw[cP,ar ⟨h4,h3,h2⟩,Wq,si]
def HF{a b:Int}(h:b∈VS n a):b=a:=XJ h
theorem two{c:Int}:c%2=0\/c%2=1:=by lia
def qx(h:i<xs.length):aH (lI xs) (.int (i:Int))=M.ok (.int (vf xs i)) :=
 bu (p:=lI xs) rfl (by rw[Ww,VT h,aQ h];rfl)
def getD_at{β:Type}(f:α->β){xs:List α}{a:α}{b:β}{l:Nat}(h:l<xs.length):(xs.map f).getD l b=f (xs.getD l a):=by
 rw[VZ,VZ,Ww,VT h];rfl
def getD_mem{xs:List α}{a:α}{l:Nat}(h:l<xs.length):xs.getD l a∈xs:=by
 rw[VZ,VT h];exact Wu h
variable{Rn:List (List Int)}
theorem Et(S:Sz Q5)(hr:∀l∈Rn,l.length=Q5.length/\Bd 200 l):MR Q5.length Rn.length Q5 (Rn.map λl=>v7 l Q5)/\∀l,l<Rn.length->∀i,i<Q5.length->AA (Rn.map λl=>v7 l Q5) l i=vf (Rn.getD l []) i%vf Q5 i:=by
 have e:∀l,l<Rn.length->∀i,i<Q5.length->AA (Rn.map λl=>v7 l Q5) l i=vf (Rn.getD l []) i%vf Q5 i:=λl hl i hi=>by
  unfold AA;rw[getD_at (a:=[]) _ hl,FG,kT (by rwa[(hr _ (getD_mem hl)).1]) hi]
 refine⟨⟨by simp,λl hl=>?_,λl hl i hi=>?_⟩,e⟩
 .rw[getD_at (a:=[]) _ hl,FG,kZ,(hr _ (getD_mem hl)).1];lia
 .rw[e l hl i hi];have:=S.hx _ (Wu hi);rw[<- aQ hi] at this;exact⟨Wx _ ⋯,Wm _ ⋯⟩
theorem me(S:Sz Q5):∀i,i<Q5.length->0<vf Q5 i/\vf Q5 i<=360:=λi hi=>by
 have:=S.hx _ (Wu hi);rw[<- aQ hi] at this;lia
theorem zW(h:xs.length=Q5.length)(h0:∀i,i<Q5.length->0<=vf xs i/\vf xs i<vf Q5 i):F7 Q5 xs:=⟨h,λz hz=>by
 obtain⟨i,hi,rfl⟩:=Wc.mp hz;rw[W2] at hi;have:=h0 i ⋯;rw[aQ ⋯,aQ ⋯] at this;simpa using this⟩
def w4(ns:List Int)(a b:Nat):List Int:=(ns.drop (HT.dJ ns.length 0 (some (a:Int)))).take (HT.dJ ns.length ns.length (some (b:Int))-HT.dJ ns.length 0 (some (a:Int)))
def GO(ns:List Int)(a b:Nat):Om (.kC (ns.map PV.int)) (some (a:Int)) (some (b:Int))=M.ok (.lst ((w4 ns a b).map PV.int)):=by
 show M.ok (PV.lst (p4 (ns.map PV.int) _ _))=_;rw[p4,w4,List.map_take,List.map_drop,VW]
def yH{z:Int×Nat}(h:z∈xs.zipIdx):z.2<xs.length:=by
 obtain⟨i,hi,rfl⟩:=Wc.mp h;simp at hi ⊢;exact hi
def L8(Ls:List (List Int))(i:Nat):AA Ls Ls.length i=0:=by
 unfold AA;rw[VZ,Y9 (VX _)];exact sM (Wb _)
section
variable{R:List Row}{A:Nat->bN}
def Fq{m:Str}{sem:List PV->M PV}{x:M (List PV)}(h:(xQ (cK pz Q5 Ls) R Q7).lookup m=none):sC az m sem (mM pz Q5 Ls R Q7) x=x.bind λps=>sem (mM pz Q5 Ls R Q7::ps):=jI h
def PK:EG (λc=>c==az) "vault" (mM pz Q5 Ls R Q7)=M.ok (cK pz Q5 Ls):=rL (beq_self_eq_true _) NO
def Qd:EG (λc=>c==az) "made_rows" (mM pz Q5 Ls R Q7)=M.ok (.lst (R.map mk)):=rL (beq_self_eq_true _) MX
def QJ:EG (λc=>c==az) "idle_rows" (mM pz Q5 Ls R Q7)=M.ok (.lst (Q7.map tI)):=rL (beq_self_eq_true _) NJ
def JB:sC ao "sizes" aP (cK pz Q5 Ls) (M.ok [])=M.ok (tI Q5):=(jI (fl:=o3 pz Q5 Ls) rfl).trans (yc Q5 Ls)
def lst(Q5:List Int)(Ls:List (List Int))(R:List Row)(xs:List Int):List Int:=(bf Q5 R (xs,VS Ls.length 0) 0 Q5.length).1
theorem um(h:St Q5.length Ls.length Q5 A k R)(hl:xs.length=Q5.length)(h0:∀i,i<Q5.length->0<=vf xs i/\vf xs i<vf Q5 i):(lst Q5 Ls R xs).length=Q5.length/\(∀i,i<Q5.length->0<=vf (lst Q5 Ls R xs) i/\vf (lst Q5 Ls R xs) i<aX (vf Q5) (DD R) i)/\(∀i,i<Q5.length->0<=vf (lst Q5 Ls R xs) i/\vf (lst Q5 Ls R xs) i<vf Q5 i)/\G Q5.length (vf Q5) (DD R) Q5.length 0 (λi=>vf xs i-vf (lst Q5 Ls R xs) i):=by
 have r2:(VS Ls.length (0:Int)).length=Ls.length:=by simp
 have ll:=jd h (f:=0) (r:=(xs,VS Ls.length 0)) hl r2 Q5.length ⋯;have dn:=oC h (f:=0) (r:=(xs,VS Ls.length 0)) hl r2 h0;exact⟨ll.1,λi hi=>dn.low h.gd Q5.length (Wb _) (VX _) i (Wb _) hi,λi hi=>dn.kept h.gd Q5.length (Wb _) (VX _) i hi,dn.away h.gd Q5.length (Wb _) (VX _) Q5.length ⋯⟩
def mV(Q5:List Int)(R:List Row):List Int:=(V6 Q5.length).map λd=>aX (vf Q5) (DD R) d
def kN:(mV Q5 R).length=Q5.length:=by simp[mV]
def Au(h:i<Q5.length):vf (mV Q5 R) i=aX (vf Q5) (DD R) i:=by
 rw[aQ (by rwa[kN])];simp[mV]
def IM(Q7:List (List Int)):List Int:=Q7.zipIdx.map λz=>vf z.1 z.2
def qp:(IM Q7).length=Q7.length:=by simp[IM]
def LH(h:i<Q7.length):vf (IM Q7) i=II Q7 i i:=by
 rw[aQ (by rwa[qp])];simp only[IM,XU,Zq,abB];unfold II;rw[VZ,VT h];rfl
theorem Dv(S:Sz Q5)(h:St Q5.length Ls.length Q5 A k R):gB [mM pz Q5 Ls R Q7]=M.ok (tI (mV Q5 R)):=by
 have l6:=S.h6;have key:bF (bG 0) none (ai dM (aa (ae 2) (aa (eG (λc=>c==az) "made_rows" (ae 1)) (aa (ae 0) ak)))) ((V6 Q5.length).map λ(i:Nat)=>.int (i:Int)) [none,some (.sh (mM pz Q5 Ls R Q7)),some (.sh (tI Q5))]=M.ok ((V6 Q5.length).map λd=>.int (aX (vf Q5) (DD R) d)):=by
  refine fx (inj:=λ(i:Nat)=>PV.int (i:Int)) (V6 Q5.length) λi hi=>?_;dsimp? [lN,Qd,vm h.wf h.hs (W5.mp hi)]
 unfold gB gj;dsimp? [lN,PK,ck,JB,dU (n:=(Q5.length:Int)) ⋯ ⋯,Wq,VW,WJ,ar (aM (show Q5.length<=1000 by lia)),key];rw[tI,mV,WA];rfl
theorem uj(hm:Ls.length<=8)(I:AK Q5.length Ls.length (vf Q5) A Ls.length Q7):eP [mM pz Q5 Ls R Q7]=M.ok (tI (IM Q7)):=by
 have il:=I.len;have key:bF (cC 0 1) none (aj aH (ae 1) (ae 0)) (Q7.zipIdx.map λz=>.tup [.int (z.2:Int),tI z.1]) [none,none]=M.ok (Q7.zipIdx.map λz=>.int (vf z.1 z.2)):=by
  refine j9 (p:=λz:List Int×Nat=>PV.int (z.2:Int)) (q:=λz:List Int×Nat=>tI z.1) Q7.zipIdx λz hz=>?_;obtain⟨i,hi,rfl⟩:=Wc.mp hz;rw[XR] at hi;have:=I.l2 i ⋯;rw[VZ,VT hi] at this;simp only[Zq,abB];dsimp? [jo (xs:=Q7[i]) (i:=i) (by rw[show Q7[i].length=Ls.length from this];lia)]
 unfold eP gb;dsimp? [lN,QJ,p6,VW,XR,ar (aM (show Q7.length<=1000 by lia)),key];rw[tI,IM,WA];rfl
end
section
variable{R:List Row}
theorem DR(S:Sz Q5):∀i,i<Q5.length->0<=vf (VS Q5.length 0) i/\vf (VS Q5.length 0) i<vf Q5 i:=λi hi=>by rw[cZ];have:=me S i hi;lia
theorem y8(S:Sz Q5){F:List Int}(h:F.length=Q5.length)(k:∀i,i<Q5.length->0<=vf F i/\vf F i<vf Q5 i):Bd 200 F:=λx hx=>by
 obtain⟨i,hi,rfl⟩:=Wc.mp hx;have h2:=k i ⋯;rw[aQ hi] at h2;have:=me S i ⋯;lia
structure gD (ns:List Int) (Q5:List Int) (Rn Ls:List (List Int)) (R:List Row) (Q7:List (List Int)):Prop where
 S:Sz Q5
 hr:∀l∈Rn,l.length=Q5.length/\Bd 200 l
 eL:Ls=Rn.map λl=>v7 l Q5
 hm:Rn.length=Ls.length
 m8:Ls.length<=8
 eA:∀l,l<Rn.length->∀i,i<Q5.length->AA Ls l i=vf (Rn.getD l []) i%vf Q5 i
 LL:MR Q5.length Ls.length Q5 Ls
 st:St Q5.length Ls.length Q5 (AA Ls) (Ls.length+1) R
 I:AK Q5.length Ls.length (vf Q5) (AA Ls) Ls.length Q7
 pr:bB Ls.length (λj=>II Q7 j j)*bB Q5.length (aX (vf Q5) (DD R))=bB Q5.length (vf Q5)
 ord:∀j,j<Ls.length->∀P:bN,Zf (j+1) Ls.length P->Led Q5.length (vf Q5) Ls.length (AA Ls) (λ_=>0) P->II Q7 j j∣P j
 low:∀d,d<Q5.length->∀e,d<e->e<Q5.length->DD R d e<aX (vf Q5) (DD R) e
 nul:∀d,d<Q5.length->DD R d d=0->∀i,i<Q5.length->DD R d i=0
 MO:∀{p:PV}{f:List Int->PV},(f=tI\/f=lI)->bP p=some (Q5.map PV.int)->cU ao bM [.c6] [p,.lst (Rn.map f)]=M.ok (cK (ones Ls) Q5 Ls)
 IY:∀{pz:List Int},cU az cR [] [cK pz Q5 Ls]=M.ok (mM pz Q5 Ls R Q7)
theorem gD.get(ns:List Int)(S:Sz Q5)(r8:Rn.length<=8)(hr:∀l∈Rn,l.length=Q5.length/\Bd 200 l):∃Ls R Q7,gD ns Q5 Rn Ls R Q7:=by
 have l6:=S.h6;have sp:=me S;obtain⟨LL,eA⟩:=Et S hr;have MO:=λ{p:PV} {f:List Int->PV} (hf:f=tI\/f=lI) hp=>Ae (p:=p) hf Q5 Rn hp S r8 λl h=>(hr l h).1;have hm:Rn.length=(Rn.map λl=>v7 l Q5).length:=by simp
 generalize hLs:(Rn.map λl=>v7 l Q5)=Ls at *;rw[hm] at LL r8;have K:=CJ.all (c:=cf) rfl sp LL Ad l6 Ls.length (VX _);have IY:=λ{pz:List Int}=>Ek (pz:=pz) S.h1 l6 r8 sp LL;generalize RK cf Q5 Ls Q5.length Ls.length Ls.length=rk at *;have h:=K.st;have hl:∀d,d<Q5.length->(bf Q5 rk.1 (row rk.1 d) (d+1) (Q5.length-(d+1))).1.length=Q5.length:=λd hd=>(jd h (h.wf.og hd) (h.wf.at2 hd) _ ⋯).1;have lg:=xg (D':=DD (om Q5 rk.1 Q5.length)) h.gd (λd e=>vf (bf Q5 rk.1 (row rk.1 d) (d+1) (e-(d+1))).1) (λd hd=>oC h (h.wf.og hd) (h.wf.at2 hd) λi hi=>h.gd.jJ d hd i hi) (λd hd i hi=>by
  show vf (bf Q5 rk.1 (row rk.1 d) (d+1) (d+1-(d+1))).1 i=_;rw[aaB];rfl) (λd hd i hi=>by unfold DD;rw[nR hd])
 refine⟨Ls,om Q5 rk.1 Q5.length,rk.2,S,hr,hLs.symm,hm,r8,eA,LL,Kv K.st l6 (L8 Ls),K.wz,?_,K.ord,?_,?_,MO,IY⟩
 .rw[ju (f:=aX (vf Q5) (DD (om Q5 rk.1 Q5.length))) (g:=aX (vf Q5) (DD rk.1)) lg.2.1];exact K.pr
 .intro d hd e h1 h2;rw[lg.2.1 e h2];exact lg.2.2.1 d hd e h1 h2
 .exact lg.2.2.2.1
end
def Cc(Q5:List Int)(levers:List (List Int)):cW [cK pz Q5 levers]=M.ok (.int (R Q5)):=by
 unfold cW dI;dsimp? [eG,cK,beq_self_eq_true,Dk]
def Qi:sC ao "around" cW (cK pz Q5 Ls) (M.ok [])=M.ok (.int (R Q5)):=(jI (fl:=o3 pz Q5 Ls) rfl).trans (Cc Q5 Ls)
def OC(Q5 ws xs:List Int):Int:=((((ws.zip Q5).map λz=>z.1*(R Q5/z.2)).zip xs).map λz=>z.1*z.2).sum%R Q5
variable{s:Int}
theorem wW(h:Sz Q5)(hs:s∈Q5):0<=R Q5/s/\R Q5/s<2^60:=by
 have h1:=uz h;have h2:=MZ h;have h3:=h.hx s hs;refine⟨Yo ⋯ ⋯,aaU (Zk s ⋯) h2⟩
theorem FW(h:Sz Q5){w:Int}(hw:0<=w/\w<360)(hs:s∈Q5):(w*(R Q5/s)).natAbs<2^80:=by
 have h1:=wW h hs;rw[Y0];have:w.natAbs*(R Q5/s).natAbs<=2^9*2^60:=Zg ⋯ ⋯;exact Xj this ↑12
theorem FV(h:Sz Q5){ws:List Int}(hw:F7 Q5 ws)(hs:F7 Q5 xs):qo [cK pz Q5 levers,tI ws,tI xs]=M.ok (.int (OC Q5 ws xs)):=by
 have l6:=h.h6;have k1:bF (cC 0 1) none (aj cP (ae 0) (aj bQ (ae 2) (ae 1))) ((ws.zip Q5).map λz=>.tup [.int z.1,.int z.2]) [none,none,some (.sh (.int (R Q5)))]=M.ok ((ws.zip Q5).map λz=>.int (z.1*(R Q5/z.2))):=by
  refine j9 (p:=λz:Int×Int=>PV.int z.1) (q:=λz:Int×Int=>PV.int z.2) (ws.zip Q5) λz hz=>?_;obtain⟨m1,m2⟩:=p7 hz;have a1:=h.hx z.2 m2;have a2:=vA h hw m1;have a3:=wW h m2;dsimp? [bh (i:=R Q5) (show 0<z.2 by lia) (show z.2<2^64 by lia),b_ (k:=64) (l:=64) (show z.1.natAbs<2^64 by lia) (show (R Q5/z.2).natAbs<2^64 by lia)]
 have z1:(ws.zip Q5).length<=sizeLine:=by rw[W2];exact aM (WE (abe _ _) ⋯)
 let us:=(ws.zip Q5).map λz=>z.1*(R Q5/z.2)
 have k2:bF (cC 0 1) none (aj cP (ae 0) (ae 1)) ((us.zip xs).map λz=>.tup [.int z.1,.int z.2]) [none,none]=M.ok ((us.zip xs).map λz=>.int (z.1*z.2)):=by
  refine j9 (p:=λz:Int×Int=>PV.int z.1) (q:=λz:Int×Int=>PV.int z.2) (us.zip xs) λz hz=>?_;obtain⟨m1,m2⟩:=p7 hz;obtain⟨y,hy,e⟩:=WU.mp m1;obtain⟨n1,n2⟩:=p7 hy;have a1:=FW h (vA h hw n1) n2;rw[e] at a1;have a2:=vA h hs m2;dsimp? [b_ (k:=80) (l:=64) a1 (show z.2.natAbs<2^64 by lia)]
 have z2:(us.zip xs).length<=sizeLine:=by rw[W2];exact aM (WE (abe _ _) (by rw[hs.len];lia))
 have k3:j_ [.lst ((ws.zip Q5).map λz=>.int (z.1*(R Q5/z.2))),tI xs,.int (R Q5)]=M.ok (.int (OC Q5 ws xs)):=by
  have e0:bP (.lst ((ws.zip Q5).map λz=>PV.int (z.1*(R Q5/z.2))))=some (us.map PV.int):=by
   rw[wU,WA];rfl
  have e1:Cj [.lst ((us.zip xs).map λz=>PV.int (z.1*z.2))]=M.ok (.int ((us.zip xs).map λz=>z.1*z.2).sum):=by
   have:=Fb ((us.zip xs).map λz=>z.1*z.2);rwa[WA] at this
  unfold j_ j4;dsimp? [gC (q:=tI xs) us xs e0 rfl,VW,ar z2,k2,e1,aV (uz h)];rfl
 unfold qo qk;dsimp? [vB (levers:=levers) h hw,vB (levers:=levers) h hs,ck,Qi,JB,gC (p:=tI ws) (q:=tI Q5) ws Q5 rfl rfl,VW,ar z1,k1,k3]
theorem xu(xs:List Int):∀m,m<=xs.length->(xs.take m).sum=bI m (vf xs)
 | 0,_=>by simp[bI]
 | m+1,h=>by
  rw[bI,<- xu xs m ⋯,WX ⋯,List.sum_append,aQ ⋯];simp
def EE(xs:List Int):xs.sum=bI xs.length (vf xs):=by
 rw[<- xu xs _ (VX _),YZ]
theorem Hr{ws:List Int}(h1:ws.length=Q5.length)(h2:xs.length=Q5.length):OC Q5 ws xs=fc Q5.length (vf Q5) (R Q5) (vf ws) (vf xs)%R Q5:=by
 unfold OC fc;rw[EE];have hl:((((ws.zip Q5).map λz=>z.1*(R Q5/z.2)).zip xs).map λz=>z.1*z.2).length=Q5.length:=by simp;lia
 rw[hl];congr 1;refine dq λi hi=>?_;rw[aQ (by rwa[hl]),aQ ⋯,aQ ⋯,aQ ⋯];simp only[XU,YA];rw[Yx,Y6 (R Q5/_),<- Yx]
variable{T:List Row}{ns:List Int}
def zD(S:Sz Q5):∀i,i<Q5.length->vf Q5 i∣R Q5:=λi hi=>by rw[aQ hi];exact NZ S (Wu hi)
def vJ(Q5:List Int)(T:List Row):List Int:=(Q5.zip (mV Q5 T)).map λz=>z.1/z.2
def qW:(vJ Q5 T).length=Q5.length:=by simp[vJ,kN]
def Af(h:i<Q5.length):vf (vJ Q5 T) i=gf (vf Q5) (DD T) i:=by
 have e:=Au (R:=T) h;rw[aQ (by rwa[kN])] at e;rw[aQ (by rwa[qW])];simp only[vJ,XU,YA];rw[e,<- aQ h];rfl
theorem KQ(h:j<n):CI n (j:Int)=some j:=by
 unfold CI;rw[if_pos ⋯,if_pos ⋯];simp
def nQ{v:Int}{env:af}(h:j<xs.length):Jw i (xs.map PV.int) (.int v) env (.int (j:Int))=M.ok (.nx (env.set i (some (.ow ((xs.set j v).map PV.int))))):=by
 show (match CI (xs.map PV.int).length (j:Int) with|some j=>_|none=>_)=_;rw[VW,KQ h,List.map_set]
def rO{v:Int}(h:i<xs.length):vf (xs.set j v) i=if i=j then v else vf xs i:=by
 rw[aQ (by rwa[Y8]),List.getElem_set,aQ h]
 by_cases z:i=j
 .rw[if_pos z,if_pos z.symm]
 .rw[if_neg z,if_neg (Xs z)]
def sj(x:Int):Cz (M.ok (.int x))=M.ok (.int x):=WM rfl rfl
theorem y0(Q:gD ns Q5 Rn Ls T Q7)(hd:d<Q5.length):jj (bH [mM pz Q5 Ls T Q7,.int (d:Int)]) λp=>∃W:List Int,p=tI W/\W.length=Q5.length/\(∀i,i<Q5.length->0<=vf W i/\vf W i<vf Q5 i)/\Wk Q5.length (vf Q5) (DD T) (R Q5) d 0 (vf W):=by
 have l6:=Q.S.h6;have l1:=Q.S.h1;have g:=Q.st.gd;have rl:=Q.st.wf.len;have qd:=zD Q.S;have q0:=uz Q.S;have q1:=MZ Q.S;have so:=Dv (Q7:=Q7) (pz:=pz) Q.S Q.st;have fl:∀i,i<Q5.length->0<gf (vf Q5) (DD T) i/\gf (vf Q5) (DD T) i<=vf Q5 i/\vf Q5 i<=360:=λi hi=>⟨(jM g hi).2.1,(jM g hi).2.2,(me Q.S i hi).2⟩
 have key:bF (cC 0 1) none (aj bQ (ae 0) (ae 1)) ((Q5.zip (mV Q5 T)).map λz=>.tup [.int z.1,.int z.2]) [none,none]=M.ok ((Q5.zip (mV Q5 T)).map λz=>.int (z.1/z.2)):=by
  refine j9 (p:=λz:Int×Int=>PV.int z.1) (q:=λz:Int×Int=>PV.int z.2) (Q5.zip (mV Q5 T)) λz hz=>?_;obtain⟨i,hi,e⟩:=Wc.mp (p7 hz).2;rw[kN] at hi;have e2:=Au (R:=T) hi;rw[aQ (by rwa[kN]),e] at e2;have p:=g.pos hi;have:=me Q.S i hi;dsimp? [bh (i:=z.1) (j:=z.2) ⋯ ⋯]
 have zl:(Q5.zip (mV Q5 T)).length<=sizeLine:=by rw[W2];exact aM (WE (aal _ _) ⋯)
 have ef:PV.lst ((Q5.zip (mV Q5 T)).map λz=>PV.int (z.1/z.2))=lI (vJ Q5 T):=by rw[lI,vJ,WA];rfl
 have wi:dP [.int (d:Int),.int 0,.int ((Q5.length:Int)-1)]=M.ok (.bl true):=by
  rw[within_int,decide_eq_true ⋯]
 have e0:Fo (.lst [.int 0]) (.int (Q5.length:Int))=M.ok ((VS Q5.length 0).map PV.int):=by
  rw[Fo,ar ⟨by lia,by lia,by rw[Wq];exact aM (by show 1*Q5.length<=1000;lia)⟩,Wq,si,Xx]
 unfold bH dc;dsimp? [lN,PK,ck,JB,wi,Fq (m := "steps") rfl,so,gC (p:=tI Q5) (q:=tI (mV Q5 T)) Q5 (mV Q5 T) rfl rfl,VW,ar zl,key,ef,Mv,e0,JD,ownAt,qx (xs:=vJ Q5 T) (i:=d) (by rwa[qW]),Af hd,jo (xs:=Q5) (i:=d) hd,aV (i:=gf (vf Q5) (DD T) d) (j:=vf Q5 d) (by have:=fl d hd;lia),nQ (i:=4) (xs:=VS Q5.length 0) (j:=d) (by simp;exact hd),xX d ⋯];refine jj.loop (xs:=V6 d) (inj:=λ(i:Nat)=>.int ((d:Int)-1+(i:Int)*-1)) (λzs env=>∃(c:Nat)(W:List Int)(y5 y6 y7:Option SV),env=[some (.sh (mM pz Q5 Ls T Q7)),some (.sh (.int (d:Int))),some (.sh (tI Q5)),some (.sh (lI (vJ Q5 T))),some (.ow (W.map PV.int)),y5,y6,y7]/\c<=d/\zs=(V6 d).drop c/\W.length=Q5.length/\(∀i,i<Q5.length->0<=vf W i/\vf W i<vf Q5 i)/\Wk Q5.length (vf Q5) (DD T) (R Q5) d (d-c) (vf W)) ⟨0,_,_,_,_,rfl,by lia,rfl,by simp,λi hi=>?_,Wk.start g qd hd λi hi=>?_⟩ ?_ ?_
 .rw[rO (by simp;exact hi),cZ];have:=fl i hi
  split
  .rename_i z;subst z;exact⟨Wx _ ⋯,Wm _ ⋯⟩
  .lia
 .rw[rO (by simp;exact hi),cZ]
 .rintro k r env ⟨c,W,y5,y6,y7,rfl,hc,hz,Wl,W0,Wt⟩;obtain⟨c1,c2,c3⟩:=drop_cons hz.symm;rw[WJ] at c1;have ek:k=c:=by rw[X3 c1] at c2;exact(V9 c2).symm
  subst ek;obtain⟨a,ha⟩:∃a,a=d-1-k:=⟨_,rfl⟩
  have ea:((d:Int)-1+(k:Int)*-1)=(a:Int):=by lia
  have an:a<Q5.length:=by lia
  have fa:=fl a an;have r1:=Q.st.wf.og an;have rk:∀i,i<Q5.length->0<=vf (row T a).1 i/\vf (row T a).1 i<vf Q5 i:=λi hi=>g.jJ a an i hi;have we:=FV (pz:=pz) (levers:=Ls) Q.S (zW Wl W0) (zW r1 rk);rw[Hr Wl r1] at we;have eq:vf (row T a).1=DD T a:=rfl;rw[eq] at we;have p0:0<=fc Q5.length (vf Q5) (R Q5) (vf W) (DD T a)%R Q5:=Wx _ ⋯;have p1:fc Q5.length (vf Q5) (R Q5) (vf W) (DD T a)%R Q5<R Q5:=Wm _ q0;have fR:gf (vf Q5) (DD T) a∣R Q5:=Xi ⟨_,(jM g an).1.symm⟩ (qd a an);have s0:0<R Q5/gf (vf Q5) (DD T) a:=by
   obtain⟨x,hx⟩:=fR;rw[hx,We _ ⋯];rcases Yj x 0 with q|q|q
   .have:=X5 fa.1 q;lia
   .rw[q] at hx;lia
   .exact q
  have s1:R Q5/gf (vf Q5) (DD T) a<=R Q5:=Zk _ ⋯;have tw:PV.tup (W.map PV.int)=tI W:=rfl;dsimp? [bG,ea,kY,ownAt,pP,lN,PK,tw,Qd,qB (rows:=T) (d:=a) ⋯,uN,we,sj,ck,Qi,qx (xs:=vJ Q5 T) (i:=a) (by rw[qW];exact an),Af an,bh (i:=R Q5) (j:=gf (vf Q5) (DD T) a) ⋯ ⋯,bh (i:=fc Q5.length (vf Q5) (R Q5) (vf W) (DD T a)%R Q5) (j:=R Q5/gf (vf Q5) (DD T) a) ⋯ ⋯,aV (i:=-(fc Q5.length (vf Q5) (R Q5) (vf W) (DD T a)%R Q5/(R Q5/gf (vf Q5) (DD T) a))) (j:=gf (vf Q5) (DD T) a) ⋯,JD,nQ (i:=4) (xs:=W) (j:=a) ⋯];refine⟨_,rfl,k+1,_,_,_,_,rfl,by lia,c3.symm,by simpa using Wl,λi hi=>?_,?_⟩
  .rw[rO ⋯]
   split
   .rename_i z;subst z;have h1:=Wx (-(fc Q5.length (vf Q5) (R Q5) (vf W) (DD T i)%R Q5/(R Q5/gf (vf Q5) (DD T) i))) (show gf (vf Q5) (DD T) i≠0 by lia);have h2:=Wm (-(fc Q5.length (vf Q5) (R Q5) (vf W) (DD T i)%R Q5/(R Q5/gf (vf Q5) (DD T) i))) fa.1;lia
   .exact W0 i hi
  .rw[show d-(k+1)=a by lia];refine Wk.next g q0 qd hd (w:=vf W) (by rwa[show a+1=d-k by lia]) ⋯ ?_ λi hi TJ=>?_
   .rw[rO ⋯,if_pos rfl]
   .rw[rO ⋯,if_neg TJ]
 .rintro env ⟨c,W,y5,y6,y7,rfl,hc,hz,Wl,W0,Wt⟩;have:c=d:=by
   have:=congrArg Zd hz;rw[Yz,WJ] at this;simp at this;lia
  subst this;rw[aaB] at Wt;exact⟨_,rfl,W,rfl,Wl,W0,Wt⟩
def Ob:sC ao "levers" aS (cK pz Q5 Ls) (M.ok [])=M.ok (.tup (Ls.map tI)):=(jI (fl:=o3 pz Q5 Ls) rfl).trans (ug Q5 Ls)
def ad(Q5 xs ys:List Int)(t:Int):List Int:=v7 ((xs.zip ys).map λz=>z.1+t*z.2) Q5
structure Ws (Q5:List Int) (T:List Row) (d:Nat) (W:List Int):Prop where
 len:W.length=Q5.length
 jJ:∀i,i<Q5.length->0<=vf W i/\vf W i<vf Q5 i
 wk:Wk Q5.length (vf Q5) (DD T) (R Q5) d 0 (vf W)
def Kp(Q5 xs:List Int):Prop:=xs.length=Q5.length/\∀i,i<Q5.length->0<=vf xs i/\vf xs i<vf Q5 i
def Kp.NU(h:Kp Q5 xs):F7 Q5 xs:=zW h.1 h.2
def Kp.bd(S:Sz Q5)(h:Kp Q5 xs):Bd 200 xs:=y8 S h.1 h.2
theorem Hq(ns:List Int)(k:Nat)(hk:k<=100):∃c,i7 [.kC (ns.map PV.int),.int (k:Int)]=M.ok (.int c):=by
 unfold i7 ja
 by_cases h:(k:Int)<(ns.length:Int)
 .have h':k<ns.length:=by lia
  exact⟨ns[k],by dsimp? [VW,h,decide_true,bu (p:=.kC (ns.map PV.int)) (j:=k) (x:=.int ns[k]) rfl (by rw[Ww,VT h'];rfl)]⟩
 .exact⟨((k:Int)+2)*104729%65537,by dsimp? [VW,h,decide_false,b_ (i:=(k:Int)+2) (j:=104729) (k:=31) (l:=31) ⋯ ↑12,aV (i:=((k:Int)+2)*104729) (j:=65537) ↑12]⟩
theorem yR(c:Int)(k:Nat)(hk:k<=100):∃x,bV [.int c,.int (k:Int)]=M.ok (.int x)/\0<=x/\x<2147483579:=by
 obtain⟨a,ea,a0⟩:∃a,cQ (.int (c%2147483647*48271+7919*(k:Int)+13)) (.int 2147483629)=M.ok (.int a)/\0<=a/\a<2147483629:=⟨_,aV ↑12,Wx _ ↑12,Wm _ ↑12⟩
 obtain⟨b,eb,b0⟩:∃b,cQ (.int (a*a+104729*(k:Int)+7)) (.int 2147483587)=M.ok (.int b)/\0<=b/\b<2147483587:=⟨_,aV ↑12,Wx _ ↑12,Wm _ ↑12⟩
 refine⟨b*b%2147483579,?_,Wx _ ↑12,Wm _ ↑12⟩;unfold bV fL;dsimp? [aV (i:=c) (j:=2147483647) ↑12,b_ (i:=c%2147483647) (j:=48271) (k:=32) (l:=31) ⋯ ↑12,b_ (i:=7919) (j:=(k:Int)) (k:=31) (l:=31) ↑12 ⋯,ea,b_ (i:=a) (j:=a) (k:=32) (l:=32) ⋯ ⋯,b_ (i:=104729) (j:=(k:Int)) (k:=31) (l:=31) ↑12 ⋯,eb,b_ (i:=b) (j:=b) (k:=32) (l:=32) ⋯ ⋯,aV (i:=b*b) (j:=2147483579) ↑12]
theorem uR(c:Int)(p:PV)(bases:List Int)(hp:bP p=some (bases.map PV.int))(hb:∀b∈bases,0<b/\b<2^60)(hl:bases.length<=100):∃xs:List Int,dC [.int c,p]=M.ok (tI xs)/\xs.length=bases.length/\∀z∈xs.zip bases,0<=z.1/\z.1<z.2:=by
 suffices h:jj (dC [.int c,p]) λq=>∃xs:List Int,q=tI xs/\xs.length=bases.length/\∀z∈xs.zip bases,0<=z.1/\z.1<z.2 by
  obtain⟨_,e,xs,rfl,q⟩:=h;exact⟨xs,e,q⟩
 unfold dC eQ;dsimp? [lP,hp];refine jj.loop (xs:=bases) (inj:=PV.int) (λr env=>∃(d xs:List Int)(left:Int)(y:Option SV),env=[some (.sh (.int left)),some (.sh p),some (.ow (xs.map PV.int)),y]/\bases=d++r/\xs.length=d.length/\∀z∈xs.zip d,0<=z.1/\z.1<z.2) ⟨[],[],c,none,rfl,rfl,rfl,λ_ h=>nomatch h⟩ ?_ ?_
 .rintro b r env ⟨d,xs,left,y,rfl,hd,hx,hz⟩;have Vp:=hb b (by rw[hd];simp);have dl:d.length<=100:=by
   have:=congrArg Zd hd;rw[WD] at this;lia
  dsimp? [bG,qh,ownAt,aV (i:=left) Vp.1,p_ (xs:=xs.map PV.int) (show (xs.map PV.int).length<1000 by simp;lia),Cq,bh (i:=left) Vp.1 (show b<2^64 by lia)];refine⟨_,rfl,d++[b],xs++[left%b],left/b,_,rfl,by rw[hd];simp,by simp[hx],λz Uw=>?_⟩;rw[List.zip_append hx] at Uw;rcases Xk.mp Uw with q|q
  .exact hz z q
  .rw[X9,acK] at q;rw[Wi.mp q];exact⟨Wx _ ⋯,Wm _ Vp.1⟩
 .rintro env ⟨d,xs,left,y,rfl,hd,hx,hz⟩;rw[W9] at hd;subst hd;dsimp? [];exact⟨_,rfl,xs,rfl,hx,hz⟩
theorem MF(hl:xs.length=ys.length)(h:∀z∈xs.zip ys,0<=z.1/\z.1<z.2):∀i,i<ys.length->0<=vf xs i/\vf xs i<vf ys i:=λi hi=>by
 have:=h (xs[i]'(by lia),ys[i]) (Wc.mpr ⟨i,by simp;lia,by simp⟩);rw[aQ ⋯,aQ hi];exact this
def Kh(S:Sz Q5)(h:xs.length=Q5.length/\∀z∈xs.zip Q5,0<=z.1/\z.1<z.2):Kp Q5 xs:=⟨h.1,MF h.1 h.2⟩
structure Ga (Q5:List Int):Prop where
 S:Sz Q5
 h3:Q5.length<=3
 h5:∀x∈Q5,2<=x/\x<=5
theorem Ce(c:Int):jj (h_ [.int c]) λp=>∃xs:List Int,p=lI xs/\Ga xs:=by
 have fin:∀xs:List Int,1<=xs.length->xs.length<=3->(∀x∈xs,2<=x/\x<=5)->Ga xs:=λxs h1 h3 h5=>⟨⟨h1,by lia,λx hx=>by have:=h5 x hx;lia⟩,h3,h5⟩
 unfold h_ hV;obtain⟨m,em,m1,m6⟩:∃m:Nat,1+c/2%3=(m:Int)/\1<=m/\m<=3:=⟨(1+c/2%3).toNat,by lia,by lia,by lia⟩
 dsimp? [aV (i:=c) (j:=2) ↑12];rcases two (c:=c) with h|h
 .simp only[h,decide_true];obtain⟨xs,ex,xl,xb⟩:=uR (c/6) (.lst (VS m (.int 4))) (VS m 4) (by rw[Xx];rfl) (λb hb=>by rw[HF hb];decide) (by simp;lia);rw[ZV] at xl;dsimp? [bh (i:=c) (j:=2) ↑12 ↑12,aV (i:=c/2) (j:=3) ↑12,em,bh (i:=c) (j:=6) ↑12 ↑12,nh (.int 4) m ⋯,ex,VW,ar (aM (show xs.length<=1000 by lia)),fx (f:=aj c7 (λ_=>M.ok (.int 2)) (ae 0)) (inj:=PV.int) (h:=λx=>.int (2+x)) (rest:=[]) (x0:=none) xs λa _=>by dsimp? []];refine⟨_,rfl,xs.map (2+·),by rw[lI,WA];rfl,fin _ (by simp;lia) (by simp;lia) λx hx=>?_⟩;obtain⟨y,hy,rfl⟩:=WU.mp hx;obtain⟨i,hi,rfl⟩:=Wc.mp hy;have:=xb (xs[i],4) (Wc.mpr ⟨i,by simp;lia,by simp⟩);simp at this;lia
 .simp only[h,show ¬ (1:Int)=0 by decide,decide_false];have ex:∀k:Nat,∃y:Int,k<=100->bV [.int (c/6),.int (k:Int)]=M.ok (.int y):=λk=>by
   by_cases hk:k<=100
   .obtain⟨y,ey,_⟩:=yR (c/6) k hk;exact⟨y,λ_=>ey⟩
   .exact⟨0,λh=>(hk h).elim⟩
  obtain⟨f,hf⟩:=abk.mp ex;have key:bF (bG 0) none (aj c7 (λ_=>M.ok (.int 2)) (aj cQ (ai bV (aa (aj bQ (ae 1) (λ_=>M.ok (.int 6))) (aa (ae 0) ak))) (λ_=>M.ok (.int 4)))) ((V6 m).map λ(i:Nat)=>.int (i:Int)) [none,some (.sh (.int c))]=M.ok ((V6 m).map λk=>.int (2+f k%4)):=by
   refine fx (inj:=λ(i:Nat)=>PV.int (i:Int)) (V6 m) λi hi=>?_;have:=W5.mp hi;dsimp? [bh (i:=c) (j:=6) ↑12 ↑12,hf i ⋯,aV (i:=f i) (j:=4) ↑12]
  dsimp? [bh (i:=c) (j:=2) ↑12 ↑12,aV (i:=c/2) (j:=3) ↑12,em,dU (n:=(m:Int)) ⋯ ⋯,Wq,VW,WJ,ar (aM (show m<=1000 by lia)),key];refine⟨_,rfl,(V6 m).map λk=>2+f k%4,by rw[lI,WA];rfl,fin _ (by simp;lia) (by simp;lia) λx hx=>?_⟩;obtain⟨k,hk,rfl⟩:=WU.mp hx;show 2<=2+f k%4/\2+f k%4<=5;lia
theorem Bg(S:Sz Q5)(c:Int):jj (eh [.int c,lI Q5]) λp=>∃xs:List Int,p=tI xs/\xs.length=Q5.length/\∀z∈xs.zip Q5,0<=z.1/\z.1<z.2:=by
 have l6:=S.h6;unfold eh ip;dsimp? [aV (i:=c) (j:=2) ↑12];rcases two (c:=c) with h|h
 .simp only[h,decide_true];obtain⟨xs,ex,xl,xb⟩:=uR (c/2) (lI Q5) Q5 rfl (λb hb=>by have:=S.hx b hb;lia) ⋯;dsimp? [bh (i:=c) (j:=2) ↑12 ↑12,ex];exact⟨_,rfl,xs,rfl,xl,xb⟩
 .simp only[h,show ¬ (1:Int)=0 by decide,decide_false];have ex:∀k:Nat,∃y:Int,k<=100->bV [.int (c/2),.int (k:Int)]=M.ok (.int y)/\0<=y/\y<2147483579:=λk=>by
   by_cases hk:k<=100
   .obtain⟨y,ey,q⟩:=yR (c/2) k hk;exact⟨y,λ_=>⟨ey,q⟩⟩
   .exact⟨0,λh=>(hk h).elim⟩
  obtain⟨f,hf⟩:=abk.mp ex;have key:bF (cC 0 1) none (aj cQ (aj bQ (aj cQ (ai bV (aa (aj bQ (ae 2) (λ_=>M.ok (.int 2))) (aa (ae 0) ak))) (aj cP (λ_=>M.ok (.int 2)) (ae 1))) (λ_=>M.ok (.int 2))) (ae 1)) (Q5.zipIdx.map λz=>.tup [.int (z.2:Int),.int z.1]) [none,none,some (.sh (.int c))]=M.ok ((Q5.zipIdx.map λz=>f z.2%(2*z.1)/2%z.1).map PV.int):=by
   rw[WA];refine j9 (p:=λz:Int×Nat=>PV.int (z.2:Int)) (q:=λz=>PV.int z.1) Q5.zipIdx λz hz=>?_;have hi:=yH hz;have hs:=S.hx _ (Zh hz);dsimp? [bh (i:=c) (j:=2) ↑12 ↑12,(hf z.2 ⋯).1,b_ (i:=2) (j:=z.1) (k:=31) (l:=31) ↑12 ⋯,aV (i:=f z.2) (j:=2*z.1) ⋯,bh (i:=f z.2%(2*z.1)) (j:=2) ↑12 ↑12,aV (i:=f z.2%(2*z.1)/2) (j:=z.1) ⋯];rfl
  have zl:Q5.zipIdx.length<=sizeLine:=by rw[XR];exact aM ⋯
  dsimp? [Ki,VW,ar zl,key];refine⟨_,rfl,_,rfl,by simp,λz hz=>?_⟩;obtain⟨i,hi,rfl⟩:=Wc.mp hz;simp only[W2,VW,XR,Nat.min_self] at hi;rw[YA,XU,Zq];have:=S.hx _ (Wu hi);exact⟨Wx _ ⋯,Wm _ ⋯⟩
variable{Rk RC:List (List Int)}{T':List Row}
variable{v:bN}
section
variable{P W:List Int}
theorem C_(Q:gD ns Q5 Rn Ls T Q7){d:List Int}(h:Kp Q5 d):lst Q5 Ls T d=VS Q5.length 0 ↔ G Q5.length (vf Q5) (DD T) Q5.length 0 (vf d):=by
 obtain⟨b1,b2,b3,b4⟩:=um Q.st h.1 h.2;constructor
 .intro z;exact G.ext ⋯ (λi hi=>by rw[z,cZ];lia) b4
 .intro gx;refine mK (by simpa using b1) λi hi=>?_;have g:=Q.st.gd.sub ⋯ gx b4;have:=G.diff Q.st.gd Q5.length 0 (λi=>vf (lst Q5 Ls T d) i) ⋯ (λi hi=>by have:=b3 i hi;lia) (λi _ hi=>by have:=b2 i hi;lia) (G.ext ⋯ (λi _=>by lia) g) i ⋯;rw[cZ];exact this
def vW{t:af->M Bool}{f:af->M PV}{inj h:α->PV}{b:α->Bool}{rest:af}{x0:Option SV}(xs:List α)(Ht:∀a∈xs,t (some (.sh (inj a))::rest)=M.ok (b a))(H:∀a∈xs,f (some (.sh (inj a))::rest)=M.ok (h a)):bF (bG 0) (some t) f (xs.map inj) (x0::rest)=M.ok ((xs.filter b).map h):=by
 induction xs generalizing x0 with
 | nil=>rfl
 | cons a r ih =>
  have i:=ih (x0:=some (.sh (inj a))) (λc hc=>Ht c (V5 _ hc)) λc hc=>H c (V5 _ hc);rw[Wv,bF];show M.bind (M.ok ((x0::rest).set 0 (some (.sh (inj a))))) _=_;rw[M.aE,X_];show M.bind (t _) _=_;rw[Ht a V7,M.aE];cases e:b a with
  | true=>rw[if_pos rfl,H a V7,M.aE,i,abl e];rfl
  |false=>rw[if_neg ↑13,i,abm (by simp[e])]
def GC(h:T.length<=1000):hZ [mM pz Q5 Ls T Q7]=M.ok (.lst (T.map λr=>tI r.1)):=by
 have key:bF (bG 0) none (aj aH (ae 0) (λ_=>M.ok (.int 0))) (T.map mk) [none]=M.ok (T.map λr=>tI r.1):=fx T λr _=>by dsimp? [show aH (mk r) (.int 0)=M.ok (tI r.1) from bu (j:=0) rfl rfl]
 unfold hZ iq;dsimp? [lN,Qd,VW,ar (aM h),key]
def nz(n:Nat)(T:List Row):List (List Int):=(T.filter λr=>!decide (r.1=VS n 0)).map (·.1)
def rN{l:List Int}(h:l∈nz n T):∃d,d<T.length/\(row T d).1=l:=by
 obtain⟨r,hr,rfl⟩:=WU.mp h;obtain⟨d,hd,e⟩:=Wc.mp (YG.mp hr).1;exact⟨d,hd,by rw[gN hd,e]⟩
def Fd(h:d<T.length)(z:(row T d).1≠VS n 0):(row T d).1∈nz n T :=
 WU.mpr ⟨row T d,YG.mpr ⟨by rw[gN h];exact Wu _,by simpa using z⟩,rfl⟩
def pB(Q:gD ns Q5 Rn Ls T Q7):∃Wf:Nat->List Int,∀d,d<Q5.length->bH [mM pz Q5 Ls T Q7,.int (d:Int)]=M.ok (tI (Wf d))/\Ws Q5 T d (Wf d):=by
 have h:∀d:Nat,∃W,d<Q5.length->bH [mM pz Q5 Ls T Q7,.int (d:Int)]=M.ok (tI W)/\Ws Q5 T d W:=λd=>by
  by_cases hd:d<Q5.length
  .obtain⟨_,e,W,rfl,a,b,c⟩:=y0 Q hd;exact⟨W,λ_=>⟨e,a,b,c⟩⟩
  .exact⟨[],λh=>absurd h hd⟩
 exact⟨λd=>Classical.choose (h d),λd hd=>Classical.choose_spec (h d) hd⟩
theorem zV{A:Nat->bN}{P:bN}(g:Good n (vf Q5) (DD T))(h:∀l,l<m->G n (vf Q5) (DD T) n 0 (A l))(led:∀i,i<n->vf Q5 i∣v i-bI m λl=>P l*A l i):G n (vf Q5) (DD T) n 0 v :=
 g.nZ ⋯ led (G.sum (A:=A) (P:=P) g m h)
def p8{l:List Int}(h:l∈Ls):∃k,k<Ls.length/\AA Ls k=vf l:=by
 obtain⟨k,hk,e⟩:=Wc.mp h;exact⟨k,hk,by unfold AA;rw[VZ,VT hk,Xz,e]⟩
theorem rS(Q:gD ns Q5 Rn Ls T Q7):∃RC T' Rk,(∀pz,lM [cK pz Q5 Ls]=M.ok (cK (ones RC) Q5 RC))/\gD ns Q5 (nz Q5.length T) RC T' Rk/\RC=nz Q5.length T:=by
 have tl:=Q.st.wf.len;have l6:=Q.S.h6;have kp:∀l∈nz Q5.length T,Kp Q5 l:=λl hl=>by
  obtain⟨d,hd,rfl⟩:=rN hl;exact⟨Q.st.wf.og ⋯,Q.st.gd.jJ d ⋯⟩
 have nl:(nz Q5.length T).length<=T.length:=by unfold nz;rw[VW];exact X6 _ _
 obtain⟨RC,T',Rk,Q'⟩:=gD.get ns Q.S (Rn:=nz Q5.length T) ⋯ λl hl=>⟨(kp l hl).1,(kp l hl).bd Q.S⟩
 refine⟨RC,T',Rk,?_,Q',?_⟩
 .have key:bF (bG 0) (some (dm (aj n8 (ae 0) (ae 1)))) (ae 0) (T.map λr=>tI r.1) [none,some (.sh (tI (VS Q5.length 0)))]=M.ok ((nz Q5.length T).map tI):=by
   have:=vW (t:=dm (aj n8 (ae 0) (ae 1))) (f:=ae 0) (inj:=λr:Row=>tI r.1) (h:=λr:Row=>tI r.1) (b:=λr=>!decide (r.1=VS Q5.length 0)) (rest:=[some (.sh (tI (VS Q5.length 0)))]) (x0:=none) T (λr _=>by dsimp? [ou]) (λr _=>by dsimp? []);rw[this,nz,WA];rfl
  intro pz;unfold lM mS;dsimp? [o6 (Ls:=Ls) Q.S.h6,ck,JB,Q.IY,Fq (m := "rows") rfl,GC (T:=T) ⋯,VW,ar (aM (show T.length<=1000 by lia)),key,Q'.MO (f:=tI) (p:=tI Q5) (.inl rfl) rfl]
 .rw[Q'.eL];exact(Yp λl hl=>m9 (kp l hl).NU).trans (aa6 _)
abbrev GT(Q5:List Int)(T:List Row)(v:bN):Prop:=G Q5.length (vf Q5) (DD T) Q5.length 0 v
structure QK (pz ns Q5:List Int) (Ls:List (List Int)) (T:List Row) (Q7:List (List Int)) (RC:List (List Int)) (T':List Row) (Rk:List (List Int)):Prop where
 Q:(∃S4,gD ns Q5 S4 RC T' Rk)/\RC.length<=Q5.length
 cw:∃SK Ss T1 Sx,gD ns Q5 SK Ss T1 Sx/\RC=nz Q5.length T1/\∀v,GT Q5 T1 v ↔ GT Q5 T' v
 ev:iQ [cK pz Q5 Ls]=M.ok (cK (ones RC) Q5 RC)
 dead:∀l,l<RC.length->∀b,b<Q5.length->R Q5∣fc Q5.length (vf Q5) (R Q5) (AA RC l) (DD T b)
 all:∀u:bN,(∀b,b<Q5.length->R Q5∣fc Q5.length (vf Q5) (R Q5) u (DD T b))->G Q5.length (vf Q5) (DD T') Q5.length 0 u
theorem CD(Q:gD ns Q5 Rn Ls T Q7):∃RC T' Rk,QK pz ns Q5 Ls T Q7 RC T' Rk:=by
 have S:=Q.S;have l6:=S.h6;have g:=Q.st.gd;have hq:=zD S;have hQ:=uz S;obtain⟨Wf,hW⟩:=pB (pz:=pz) Q;have kp:∀l∈(V6 Q5.length).map Wf,Kp Q5 l:=λl hl=>by
  obtain⟨d,hd,rfl⟩:=WU.mp hl;exact⟨(hW d (W5.mp hd)).2.len,(hW d (W5.mp hd)).2.jJ⟩
 obtain⟨Ss,T1,Sx,Q1⟩:=gD.get ns S (Rn:=(V6 Q5.length).map Wf) (by simp;lia) λl hl=>⟨(kp l hl).1,(kp l hl).bd S⟩
 have eL:Ss=(V6 Q5.length).map Wf:=by rw[Q1.eL];exact(Yp λl hl=>m9 (kp l hl).NU).trans (aa6 _)
 have L1:Ss.length=Q5.length:=by rw[eL];simp
 have eA:∀d,d<Q5.length->AA Ss d=vf (Wf d):=λd hd=>by
  unfold AA;rw[eL,VZ,Ww,X3 hd];rfl
 have wk:∀d,d<Q5.length->Wk Q5.length (vf Q5) (DD T) (R Q5) d 0 (AA Ss d):=λd hd=>by rw[eA d hd];exact(hW d hd).2.wk
 have s1:=Q1.st;rw[L1] at s1;obtain⟨RC,T',Rk,ec,Q',T4⟩:=rS Q1;have g1:=s1.gd;have g':=Q'.st.gd;have t1:=s1.wf.len;have a1:∀l,l<RC.length->∃d,d<Q5.length/\AA RC l=DD T1 d:=λl hl=>by
  obtain⟨d,hd,e⟩:=rN (T:=T1) (n:=Q5.length) (l:=RC[l]) (by rw[<- T4];exact Wu _);refine⟨d,by lia,?_⟩;unfold AA DD;rw[VZ,VT hl,Xz,e]
 have i1:∀d,d<Q5.length->G Q5.length (vf Q5) (DD T1) Q5.length 0 (DD T' d):=λd hd=>zV g1 (λl hl=>by
  obtain⟨e,he,ea⟩:=a1 l hl;rw[ea];exact g1.row he ⋯ (Wb _)) (Q'.st.led d hd)
 have i2:∀d,d<Q5.length->G Q5.length (vf Q5) (DD T') Q5.length 0 (DD T1 d):=λd hd=>by
  by_cases z:(row T1 d).1=VS Q5.length 0
  .exact G.ext ⋯ (λi hi=>by show 0=vf (row T1 d).1 i;rw[z,cZ]) (G.zero ⋯)
  .obtain⟨k,hk,e⟩:=p8 (Ls:=RC) (l:=(row T1 d).1) (by rw[T4];exact Fd ⋯ z);show G Q5.length (vf Q5) (DD T') Q5.length 0 (vf (row T1 d).1);rw[<- e];exact Q'.st.cl k ⋯
 refine⟨RC,T',Rk,⟨⟨_,Q'⟩,by rw[T4,<- t1];unfold nz;rw[VW];exact X6 _ _⟩,⟨_,_,T1,_,Q1,T4,λv=>⟨qt g' i2 Q5.length 0 v ⋯,qt g1 i1 Q5.length 0 v ⋯⟩⟩,?_,λl hl b hb=>?_,λu hu=>?_⟩
 .have key:bF (bG 0) none (bc az "weights_at" bH (ae 1) (aa (ae 0) ak)) ((V6 Q5.length).map λ(i:Nat)=>.int (i:Int)) [none,some (.sh (mM pz Q5 Ls T Q7))]=M.ok (((V6 Q5.length).map Wf).map tI):=by
   rw[WA];refine fx (inj:=λ(i:Nat)=>PV.int (i:Int)) (V6 Q5.length) λi hi=>?_;dsimp? [ck,Fq (m := "weights_at") rfl,(hW i (W5.mp hi)).1];rfl
  unfold iQ mT;dsimp? [Q.IY,ck,JB,dU (n:=(Q5.length:Int)) ⋯ ⋯,Wq,VW,WJ,ar (aM (show Q5.length<=1000 by lia)),key,Q1.MO (f:=tI) (p:=tI Q5) (.inl rfl) rfl,ec (ones Ss)]
 .obtain⟨d,hd,e⟩:=a1 l hl;rw[e];exact EJ hq wk (t:=PP T1 d) (s1.led d hd) hb
 .obtain⟨t,_,ht⟩:=qU g hQ hq wk Q5.length (VX _) u (λi h1 h2=>by lia) hu;exact zV g' (λd hd=>qt g' i2 Q5.length 0 _ ⋯ (s1.cl d ⋯)) ht
def gD.kp(Q:gD ns Q5 Rn Ls T Q7):∀l∈Ls,Kp Q5 l:=λl hl=>by
 obtain⟨k,hk,e⟩:=p8 hl;have a:=Q.LL.at_ k hk;have b:=Q.LL.jJ k hk;rw[e] at b;obtain⟨k',SN,e'⟩:=Wc.mp hl;have c:=Q.LL.at_ k' SN;rw[VZ,VT SN,Xz,e'] at c;exact⟨c,b⟩
def sI(S:Sz Q5):Kp Q5 (VS Q5.length 0):=⟨by simp,DR S⟩
end
variable{H:bN->Prop}{L X:List (List Int)}
section
variable{S4 Y rX:List (List Int)}{TL TX:List Row}{iL iX:List (List Int)}{q r s:PV}{K:bN->Prop}
structure Pn (Q5:List Int) (Ls:List (List Int)) (T:List Row) (Q7:List (List Int)):Prop where
 S:Sz Q5
 gd:Good Q5.length (vf Q5) (DD T)
 ld:∀d,d<Q5.length->∃P,Led Q5.length (vf Q5) Ls.length (AA Ls) (DD T d) P
 cl:∀l,l<Ls.length->GT Q5 T (AA Ls l)
 I:AK Q5.length Ls.length (vf Q5) (AA Ls) Ls.length Q7
 pr:bB Ls.length (λj=>II Q7 j j)*bB Q5.length (aX (vf Q5) (DD T))=bB Q5.length (vf Q5)
 ord:∀j,j<Ls.length->∀P:bN,Zf (j+1) Ls.length P->Led Q5.length (vf Q5) Ls.length (AA Ls) (λ_=>0) P->II Q7 j j∣P j
theorem gD.pn(Q:gD ns Q5 Rn Ls T Q7):Pn Q5 Ls T Q7:=⟨Q.S,Q.st.gd,λd hd=>⟨_,Q.st.led d hd⟩,λl hl=>Q.st.cl l ⋯,Q.I,Q.pr,Q.ord⟩
def Pn.E4(Q:Pn Q5 Ls T Q7){l:Nat}(h:l<Ls.length):GT Q5 T (AA Ls l):=Q.cl l h
def Pn.kept(S:Sz Q5)(h:∀l∈L,Kp Q5 l):∃T Q7,Pn Q5 L T Q7:=by
 have LL:MR Q5.length L.length Q5 L:=by
  have g:∀l,l<L.length->Kp Q5 (L.getD l []):=λl hl=>h _ (getD_mem hl);exact⟨rfl,λl hl=>(g l hl).1,λl hl=>(g l hl).2⟩
 have K:=CJ.all (c:=cf) rfl (me S) LL Ad S.h6 L.length (VX _);exact⟨_,_,S,K.st.gd,λd hd=>⟨_,K.st.led d hd⟩,λl hl=>K.st.cl l hl,K.wz,K.pr,K.ord⟩
theorem Pn.led(Q:Pn Q5 Ls T Q7)(h:GT Q5 T v):∃P,Led Q5.length (vf Q5) Ls.length (AA Ls) v P:=by
 have key:∀k d (v:bN),d+k=Q5.length->G Q5.length (vf Q5) (DD T) k d v->∃P,Led Q5.length (vf Q5) Ls.length (AA Ls) v P:=by
  intro k
  induction k with
  | zero=>intro d v _ h;exact⟨λ_=>0,λi hi=>by rw[dq (g:=λ_=>0) λl _=>by simp,fK];simpa using h i hi⟩
  | succ k ih =>
   intro d v hn h;obtain⟨P,hP⟩:=ih (d+1) _ ⋯ h.2;obtain⟨P',hP'⟩:=Q.ld d ⋯;exact⟨_,Led.mix (a:=1) (b:=v d/aX (vf Q5) (DD T) d) hP hP' (λi hi=>⟨0,by lia⟩) λl _=>rfl⟩
 exact key _ 0 v ⋯ h
def Pn.pM(Q:Pn Q5 Ls T Q7)(g':Good Q5.length (vf Q5) (DD T'))(h:∀l,l<Ls.length->GT Q5 T' (AA Ls l))(hv:GT Q5 T v):GT Q5 T' v:=by
 obtain⟨P,hP⟩:=Q.led hv;exact zV g' h hP
theorem gD.led(Q:gD ns Q5 Rn Ls T Q7){v:bN}(h:GT Q5 T v):∃P,Led Q5.length (vf Q5) Ls.length (AA Ls) v P:=Q.pn.led h
theorem gD.pM(Q:gD ns Q5 Rn Ls T Q7)(g':Good Q5.length (vf Q5) (DD T'))(h:∀l,l<Ls.length->GT Q5 T' (AA Ls l)){v:bN}(hv:GT Q5 T v):GT Q5 T' v:=Q.pn.pM g' h hv
theorem gD.E4(Q:gD ns Q5 Rn Ls T Q7){l:Nat}(h:l<Ls.length):GT Q5 T (AA Ls l):=Q.st.cl l ⋯
def gD.kept(ns:List Int)(S:Sz Q5)(h8:L.length<=8)(h:∀l∈L,Kp Q5 l):∃T Q7,gD ns Q5 L L T Q7:=by
 obtain⟨Ls,T,Q7,Q⟩:=gD.get ns S h8 λl hl=>⟨(h l hl).1,(h l hl).bd S⟩
 have e:Ls=L:=by rw[Q.eL];exact(Yp λl hl=>m9 (h l hl).NU).trans (aa6 _)
 subst e;exact⟨T,Q7,Q⟩
theorem Ai(Q:gD ns Q5 Rn Ls T Q7):∃S4 RC T' Rk,((∀pz,lM [cK pz Q5 Ls]=M.ok (cK (ones RC) Q5 RC))/\RC=nz Q5.length T)/\gD ns Q5 S4 RC T' Rk/\RC.length<=Q5.length/\∀v,GT Q5 T' v ↔ GT Q5 T v:=by
 obtain⟨RC,T',Rk,ec,Q',T4⟩:=rS Q;have t1:=Q.st.wf.len;have g1:=Q.st.gd;have g':=Q'.st.gd;refine⟨_,RC,T',Rk,⟨ec,T4⟩,Q',by rw[T4,<- t1];unfold nz;rw[VW];exact X6 _ _,λv=>⟨Q'.pM g1 λl hl=>?_,qt g' (λd hd=>?_) Q5.length 0 v ⋯⟩⟩
 .obtain⟨d,hd,e⟩:=rN (T:=T) (n:=Q5.length) (l:=RC[l]) (by rw[<- T4];exact Wu _);have ea:AA RC l=DD T d:=by
   unfold AA DD;rw[VZ,VT hl,Xz,e]
  rw[ea];exact g1.row ⋯ ⋯ (Wb _)
 .by_cases z:(row T d).1=VS Q5.length 0
  .exact G.ext ⋯ (λi hi=>by show 0=vf (row T d).1 i;rw[z,cZ]) (G.zero ⋯)
  .obtain⟨k,hk,e⟩:=p8 (Ls:=RC) (l:=(row T d).1) (by rw[T4];exact Fd ⋯ z);show G Q5.length (vf Q5) (DD T') Q5.length 0 (vf (row T d).1);rw[<- e];exact Q'.E4 hk
theorem sep(Q:gD ns Q5 Rn Ls T Q7)(h:∀u:bN,(∀b,b<Q5.length->R Q5∣fc Q5.length (vf Q5) (R Q5) u (DD T b))->R Q5∣fc Q5.length (vf Q5) (R Q5) u v):GT Q5 T v:=by
 have S:=Q.S;have hq:=zD S;obtain⟨xs,kx,dv⟩:∃xs,Kp Q5 xs/\∀i,i<Q5.length->vf Q5 i∣vf xs i-v i:=by
  have e:∀i,i<Q5.length->vf ((V6 Q5.length).map λi=>v i%vf Q5 i) i=v i%vf Q5 i:=λi hi=>by
   rw[aQ (by simpa using hi)];simp
  refine⟨(V6 Q5.length).map λi=>v i%vf Q5 i,⟨by simp,λi hi=>?_⟩,λi hi=>?_⟩
  .rw[e i hi];have:=me S i hi;exact⟨Wx _ ⋯,Wm _ ⋯⟩
  .rw[e i hi];exact cX _ _
 suffices gx:GT Q5 T (vf xs) from Q.st.gd.nZ ⋯ (λi hi=>by
  obtain⟨x,hx⟩:=dv i hi;exact⟨-x,by rw[ab6,<- hx];lia⟩) gx
 apply Zn;intro ng;obtain⟨b1,b2,b3,b4⟩:=um Q.st kx.1 kx.2;have z:¬ lst Q5 Ls T xs=VS Q5.length 0:=λe=>ng ((C_ Q kx).mp e);have ex:∃c,c<Q5.length/\(∀i,i<c->vf (lst Q5 Ls T xs) i=0)/\vf (lst Q5 Ls T xs) c≠0:=by
  have:¬ ∀c,c<=Q5.length->∀i,i<c->vf (lst Q5 Ls T xs) i=0:=λh=>z (mK (by simpa using b1) λi hi=>by rw[cZ];exact h Q5.length (VX _) i ⋯);apply Zn;intro no;refine this λc=>?_
  induction c with
  | zero=>intro _ i hi;lia
  | succ c ih =>
   intro hc i hi;rcases aaT (ac1 hi) with q|q
   .exact ih ⋯ i q
   .subst q;apply Zn;intro nz;exact no ⟨i,by lia,ih ⋯,nz⟩
 obtain⟨c,hc,c0,c1⟩:=ex;obtain⟨Wf,hW⟩:=pB (pz:=[]) Q;have w:=(hW c hc).2;have r:=b3 c hc;refine Wk.first Q.st.gd (uz S) hq hc w.wk c0 ⋯ (b2 c hc).2 ?_;have k1:=h (vf (Wf c)) λb hb=>w.wk.kill b (Wb _) hb;have k2:=x_ (w:=vf (Wf c)) hq Q5.length 0 _ ⋯ (λb _ hb=>w.wk.kill b (Wb _) hb) b4;rw[fy] at k1 k2 ⊢;exact mH hq (a:=1) (b:=-1) (λi hi=>by
  obtain⟨x,hx⟩:=dv i hi;exact⟨x,by rw[<- hx];lia⟩) k1 k2
def Vr(ns Q5:List Int)(p:PV)(H:bN->Prop):Prop:=∃pz Rn Ls T Q7,p=cK pz Q5 Ls/\gD ns Q5 Rn Ls T Q7/\∀v,H v ↔ GT Q5 T v
def An(Q5:List Int)(H:bN->Prop)(u:bN):Prop:=∀v,H v->R Q5∣fc Q5.length (vf Q5) (R Q5) u v
theorem kP(h:Vr ns Q5 p H):∃r,iQ [p]=M.ok r/\Vr ns Q5 r (An Q5 H)/\∃SK Ss T1 Sx,gD ns Q5 SK Ss T1 Sx/\r=cK (ones (nz Q5.length T1)) Q5 (nz Q5.length T1)/\∀v,An Q5 H v ↔ GT Q5 T1 v:=by
 obtain⟨pz,Rn,Ls,T,Q7,rfl,Q,hH⟩:=h;obtain⟨RC,T',Rk,E⟩:=CD (pz:=pz) Q;obtain⟨⟨S4,Q'⟩,ln⟩:=E.Q;obtain⟨SK,Ss,T1,i1,Q1,e1,c1⟩:=E.cw;have hq:=zD Q.S;have key:∀u,An Q5 H u ↔ GT Q5 T' u:=λu=>⟨λh=>E.all u λb hb=>h _ ((hH _).mpr (Q.st.gd.row hb ⋯ (Wb _))),λh v hv=>by
  obtain⟨P,hP⟩:=Q'.led h;rw[fy];refine AB hq (λl hl=>?_) hP;rw[fy];exact x_ hq Q5.length 0 v ⋯ (λb _ hb=>E.dead l hl b hb) ((hH v).mp hv)⟩
 exact⟨_,E.ev,⟨_,S4,RC,T',Rk,rfl,Q',key⟩,SK,Ss,T1,i1,Q1,by rw[e1],λv=>(key v).trans (c1 v).symm⟩
theorem Vr.an(h:Vr ns Q5 p H)(k:∀u,An Q5 H u->R Q5∣fc Q5.length (vf Q5) (R Q5) u v):H v:=by
 obtain⟨pz,Rn,Ls,T,Q7,rfl,Q,hH⟩:=h;exact(hH v).mpr (sep Q λu hu=>k u λw hw=>x_ (zD Q.S) Q5.length 0 w ⋯ (λb _ hb=>hu b hb) ((hH w).mp hw))
def Vr.ext(h:Vr ns Q5 p H)(e:∀v,H v ↔ K v):Vr ns Q5 p K:=by
 obtain⟨pz,Rn,Ls,T,Q7,rfl,Q,hH⟩:=h;exact⟨_,Rn,Ls,T,Q7,rfl,Q,λv=>(e v).symm.trans (hH v)⟩
def Cm:bT [tI Q5,tI Q5]=M.ok .c6:=by
 unfold bT cJ;dsimp? [ou,decide_true]
end
theorem AJ{x:Int}:vf (xs++[x]) i=if i<xs.length then vf xs i else if i=xs.length then x else vf (xs++[x]) i:=by
 split
 .rename_i h;rw[aQ (by simp;lia),aQ h,List.getElem_append_left h]
 .split
  .rename_i h;subst h;rw[aQ ↑13,List.getElem_append_right ⋯];simp
  .rfl
def qb(k:List Int):B7 (tI k)=some k:=uZ k
def FT(Q9:KD)(k:List Int):(nI Q9 k).isSome=true ↔ k∈Q9.map (·.1):=by
 rw[<- nW,List.any_eq_true];constructor
 .rintro⟨x,h,e⟩;exact WU.mpr ⟨x,h,of_decide_eq_true e⟩
 .intro h;obtain⟨x,h,e⟩:=WU.mp h;exact⟨x,h,decide_eq_true e⟩
def jt(l:List (List Int)):KD:=l.map λk=>(k,.bl true)
def Ep(l:List (List Int)):(jt l).map (·.1)=l:=by unfold jt;rw[WA];exact aa6 _
def uB(l:List (List Int)):mY (jt l)=l.map tI:=by unfold mY jt;rw[WA];rfl
def yU(l:List (List Int))(k:List Int):(nI (jt l) k).isSome=decide (k∈l):=by
 rw[aag,FT,Ep,decide_eq_true_eq]
def v5(n:Bool)(l:List (List Int))(k:List Int):KU n (jt l) (tI k)=M.ok (.bl (n ^^ decide (k∈l))):=by
 unfold KU;rw[qb];show M.ok (PV.bl (n ^^ (nI (jt l) k).isSome))=_;rw[yU]
variable{l:List (List Int)}
def xB{k:List Int}(h:k ∉ l):putD (jt l) k (.bl true)=jt (l++[k]):=by
 unfold putD;rw[nW,yU,decide_eq_false h,if_neg ↑13];unfold jt;rw[Xl];rfl
def jj.N4{β:Type}{R:β->Prop}{u:af->M Bool}{b:af->M Out}{k:Out->M β}(J:af->Prop)(m:af->Nat){env:af}(h:J env)(H:∀env,J env->(u env=M.ok false)\/(u env=M.ok true/\∃Rc,b env=M.ok (.nx Rc)/\J Rc/\m Rc<m env))(hk:∀Rc,J Rc->u Rc=M.ok false->jj (k (.nx Rc)) R):jj (M.bind (mG u b env) k) R:=by
 obtain⟨Rc,e,h',hu⟩:=uI J m H env h;rw[e,M.aE];exact hk Rc h' hu
theorem JK{α:Type}[DecidableEq α]:∀(l m:List α),l.Nodup->(∀x∈l,x∈m)->l.length<=m.length
 | [],_,_,_=>Wb _
 | a::l,m,nd,h=>by
  have ha:=h a V7;obtain⟨na,nd'⟩:=Zy.mp nd;have:=JK l (m.erase a) nd' λx hx=>(List.mem_erase_of_ne (λe:x=a=>na (by rwa[<- e]))).mpr (h x (V5 _ hx));rw[List.length_erase_of_mem ha] at this;have:=List.length_pos_of_mem ha;simp only[WS];lia
def MH(ls:List (List Int))(s:Int):List (List Int):=ls.flatMap λl=>(V6 s.toNat).map λ(k:Nat)=>l++[(k:Int)]
def vU(Q5:List Int):List (List Int):=Q5.foldl MH [[]]
theorem Iv(ls:List (List Int))(s:Int):(MH ls s).length=ls.length*s.toNat:=by
 unfold MH
 induction ls with
 | nil=>simp
 |cons l r ih=>rw[List.flatMap_cons,WD,ih,VW,WJ,WS,adm];lia
variable{x:List Int}
theorem Hw{ls:List (List Int)}:x∈MH ls s ↔ ∃l k,l∈ls/\0<=k/\k<s/\x=l++[k]:=by
 unfold MH;rw[List.mem_flatMap];constructor
 .rintro⟨l,hl,h⟩;obtain⟨k,hk,rfl⟩:=WU.mp h;have:=W5.mp hk;exact⟨l,k,hl,by lia,by lia,rfl⟩
 .rintro⟨l,k,hl,h0,h1,rfl⟩;exact⟨l,hl,WU.mpr ⟨k.toNat,W5.mpr ⋯,by rw[Zo h0]⟩⟩
def u5(d:List Int)(s:Int):vU (d++[s])=MH (vU d) s:=by unfold vU;rw[List.foldl_append];rfl
variable{c:Nat}
def take_snoc(Q5:List Int)(h:c<Q5.length):Q5.take (c+1)=Q5.take c++[Q5[c]]:=WX h
theorem uk{Q5:List Int}:∀c,c<=Q5.length->∀x:List Int,x∈vU (Q5.take c) ↔ x.length=c/\∀i,i<c->0<=vf x i/\vf x i<vf Q5 i
 | 0,_,x=>by
  rw[List.take_zero,show vU []=[[]] from rfl,Wi];exact⟨λh=>by rw[h];exact⟨rfl,λi hi=>absurd hi (aai i)⟩,λh=>List.length_eq_zero_iff.mp h.1⟩
 | c+1,h,x=>by
  rw[take_snoc Q5 h,u5,Hw];have ih:=uk (Q5:=Q5) c ⋯;constructor
  .rintro⟨l,k,hl,h0,h1,rfl⟩;obtain⟨e,q⟩:=(ih l).mp hl;refine⟨by rw[WD,e];rfl,λi hi=>?_⟩;rcases abb.mp hi with z|z
   .rw[AJ,if_pos ⋯];exact q i z
   .subst z;rw[AJ,if_neg ⋯,if_pos ⋯,aQ h];exact⟨h0,h1⟩
  .rintro⟨e,q⟩;have qc:=q c ⋯;rw[aQ ⋯,aQ (xs:=Q5) h] at qc;refine⟨x.take c,x[c]'(by lia),(ih _).mpr ⟨by simp;lia,λi hi=>?_⟩,qc.1,qc.2,?_⟩
   .have:=q i ⋯;rw[aQ ⋯] at this;rw[aQ (by simp;lia),aa7];exact this
   .rw[<- WX ⋯,Xy ⋯]
def DT:x∈vU Q5 ↔ Kp Q5 x:=by
 have:=uk (Q5:=Q5) Q5.length (VX _) x;rw[YZ] at this;exact this.trans ⟨λh=>⟨h.1,h.2⟩,λh=>⟨h.1,h.2⟩⟩
theorem AE{Q5:List Int}(h5:∀x∈Q5,2<=x/\x<=5):∀c,c<=Q5.length->(vU (Q5.take c)).length<=5^c
 | 0,_=>VX 1
 | c+1,h=>by
  rw[take_snoc Q5 h,u5,Iv,abF];have:=h5 _ (Wu h);exact Zg (AE h5 c ⋯) ⋯
def Ga.all(S:Ga Q5):(vU Q5).length<=125:=by
 have h:=AE S.h5 Q5.length (VX _);rw[YZ] at h;exact WE h (WE (Xw ↑12 S.h3) ↑12)
def Ga.Hv(S:Ga Q5)(nd:l.Nodup)(h:∀x∈l,Kp Q5 x):l.length<=125:=WE (JK l (vU Q5) nd λx hx=>DT.mpr (h x hx)) S.all
def sm(s x y:List Int):List Int:=(x.zip (y.zip s)).map λz=>(z.1+z.2.1)%z.2.2
theorem sO{y:List Int}(S:Sz Q5)(h1:x.length=Q5.length)(h2:y.length=Q5.length):Kp Q5 (sm Q5 x y)/\∀i,i<Q5.length->vf Q5 i∣vf (sm Q5 x y) i-(vf x i+vf y i):=by
 have e:sm Q5 x y=t6 Q5 x y 1:=Yp λz _=>by rw[Yy]
 have k:∀i,i<Q5.length->vf (sm Q5 x y) i=(vf x i+vf y i)%vf Q5 i:=λi hi=>by rw[e,zU h1 h2 hi,Yy]
 refine⟨⟨by rw[e];exact qO h1 h2,λi hi=>?_⟩,λi hi=>?_⟩
 .rw[k i hi];have:=me S i hi;exact⟨Wx _ ⋯,Wm _ ⋯⟩
 .rw[k i hi];exact cX _ _
theorem vh{y:List Int}(h:Kp Q5 x)(k:Kp Q5 y)(d:∀i,i<Q5.length->vf Q5 i∣vf x i-vf y i):x=y:=by
 refine mK (by rw[h.1,k.1]) λi hi=>?_;rw[h.1] at hi;have a:=h.2 i hi;have b:=k.2 i hi;have:=ly (d i hi) ⋯ ⋯;lia
section
variable{line:List (List Int)}
theorem zx(Q:gD ns Q5 Rn Ls T Q7)(kp:∀x∈line,Kp Q5 x)(z:VS Q5.length 0∈line)(cl:∀x∈line,∀l∈Ls,sm Q5 x l∈line)(hx:Kp Q5 x)(gx:GT Q5 T (vf x)):x∈line:=by
 have S:=Q.S;have hR:=uz S;have hq:=zD S;obtain⟨P,hP⟩:=Q.led gx;have one:∀(v:bN) l,l<Ls.length->(∃y∈line,∀i,i<Q5.length->vf Q5 i∣vf y i-v i)->∃y∈line,∀i,i<Q5.length->vf Q5 i∣vf y i-(v i+AA Ls l i):=by
  rintro v l hl ⟨y,hy,d⟩;have ml:Ls[l]∈Ls:=Wu hl;have ea:AA Ls l=vf Ls[l]:=by unfold AA;rw[VZ,VT hl,Xz]
  refine⟨_,cl y hy _ ml,λi hi=>?_⟩;have:=XH ((sO S (kp y hy).1 (Q.kp _ ml).1).2 i hi) (d i hi);rw[ea]
  rwa [show ∀a b c e:Int,a-(b+c)+(b-e)=a-(e+c) by intros;lia] at this
 have many:∀(v:bN) l,l<Ls.length->(∃y∈line,∀i,i<Q5.length->vf Q5 i∣vf y i-v i)->∀k:Nat,∃y∈line,∀i,i<Q5.length->vf Q5 i∣vf y i-(v i+(k:Int)*AA Ls l i):=by
  intro v l hl h k
  induction k with
  | zero=>obtain⟨y,hy,d⟩:=h;exact⟨y,hy,λi hi=>by have:=d i hi;simpa using this⟩
  | succ k ih =>
   obtain⟨y,hy,d⟩:=one _ l hl ih;refine⟨y,hy,λi hi=>?_⟩;have:=d i hi
   rwa [show ∀a b:Int,a+(k:Int)*b+b=a+((k+1:Nat):Int)*b by intros;rw[Int.natCast_add,Int.add_mul];lia] at this
 have all:∀m,m<=Ls.length->∃y∈line,∀i,i<Q5.length->vf Q5 i∣vf y i-bI m λl=>P l%R Q5*AA Ls l i:=by
  intro m
  induction m with
  | zero=>exact λ_=>⟨_,z,λi hi=>by rw[cZ];exact⟨0,by simp[bI]⟩⟩
  | succ m ih =>
   intro hm;obtain⟨y,hy,d⟩:=many _ m ⋯ (ih ⋯) (P m%R Q5).toNat;rw[Zo (Wx _ ⋯)] at d;exact⟨y,hy,d⟩
 obtain⟨y,hy,d⟩:=all Ls.length (VX _);have:x=y:=vh hx (kp y hy) λi hi=>by
  have h1:vf Q5 i∣(bI Ls.length λl=>P l*AA Ls l i)-bI Ls.length λl=>P l%R Q5*AA Ls l i:=by
   have e:=iR 1 (-1) (λl=>P l*AA Ls l i) (λl=>P l%R Q5*AA Ls l i) (λl=>(P l-P l%R Q5)*AA Ls l i) Ls.length λl _=>by rw[adl];lia
   have d:vf Q5 i∣bI Ls.length λl=>(P l-P l%R Q5)*AA Ls l i:=qZ λl hl=>Xi (Xi (hq i hi) (Int.dvd_self_sub_emod)) (acY _ _);rw[e] at d
   rwa [show ∀a b:Int,1*a+-1*b=a-b by intros;lia] at d
  have:=ab7 (XH (hP i hi) h1) (d i hi)
  rwa [show ∀a b c e:Int,a-b+(b-c)-(e-c)=a-e by intros;lia] at this
 rwa[this]
end
abbrev zr(Q5:List Int):List Int:=VS Q5.length 0
def Eb(xs:List Int):Cz (M.ok (tI xs))=M.ok (tI xs):=ar (yd xs)
def sE(b:Bool):DS (M.ok b)=M.ok b:=WM rfl rfl
def Ke(n:Nat):PV.tup (VS n (.int 0))=tI (VS n 0):=by rw[tI,Xx]
theorem jj.nx{b:M Out}{J:af->Prop}(h:jj b λo=>∃e,o=.nx e/\J e):∃e,b=M.ok (.nx e)/\J e:=by
 obtain⟨_,e,e',rfl,j⟩:=h;exact⟨e',e,j⟩
structure Dg (Q5:List Int) (Ls:List (List Int)) (T:List Row) (line:List (List Int)) (c:Nat):Prop where
 nd:line.Nodup
 kp:∀x∈line,Kp Q5 x/\GT Q5 T (vf x)
 z:zr Q5∈line
 cl:∀x∈line.take c,∀l∈Ls,sm Q5 x l∈line
 le:c<=line.length
theorem Dg.Hv{line:List (List Int)}{c:Nat}(D:Dg Q5 Ls T line c)(S3:Ga Q5):line.length<=125:=S3.Hv D.nd λx hx=>(D.kp x hx).1
theorem N6(Q:gD ns Q5 Rn Ls T Q7){l:List Int}(hx:Kp Q5 x/\GT Q5 T (vf x))(hl:l∈Ls):Kp Q5 (sm Q5 x l)/\GT Q5 T (vf (sm Q5 x l)):=by
 obtain⟨a,b⟩:=sO Q.S hx.1.1 (Q.kp l hl).1;obtain⟨k,hk,e⟩:=p8 hl;exact⟨a,Q.st.gd.nZ ⋯ b (G.add ⋯ hx.2 (by rw[<- e];exact Q.E4 hk))⟩
theorem uT(S3:Ga Q5)(Q:gD ns Q5 Rn Ls T Q7):∃ks:List (List Int),dy [lI Q5,.lst (Ls.map tI)]=M.ok (.jB (jt ks))/\ks.Nodup/\∀x,x∈ks ↔ Kp Q5 x/\GT Q5 T (vf x):=by
 suffices h:jj (dy [lI Q5,.lst (Ls.map tI)]) λp=>∃ks:List (List Int),p=.jB (jt ks)/\ks.Nodup/\∀x,x∈ks ↔ Kp Q5 x/\GT Q5 T (vf x) by
  obtain⟨_,e,ks,rfl,q⟩:=h;exact⟨ks,e,q⟩
 have S:=S3.S;have l6:=S.h6;have m8:=Q.m8;have D0:Dg Q5 Ls T [zr Q5] 0:=⟨by simp,λx hx=>by
  rw[Wi.mp hx];exact⟨sI S,G.ext ⋯ (λi hi=>by rw[cZ]) (G.zero ⋯)⟩,V7,(λx hx=>by cases hx),Wb _⟩
 unfold dy f9;dsimp? [Ly,VW,nh (.int 0) Q5.length ⋯,Ke,qb,zG,o7];refine jj.N4 (λenv=>∃(line:List (List Int))(c:Nat)(y5 y6:Option SV),env=[some (.sh (lI Q5)),some (.sh (.lst (Ls.map tI))),some (.dw (jt line)),some (.ow (line.map tI)),some (.sh (.int (c:Int))),y5,y6]/\Dg Q5 Ls T line c) (λenv=>match env with
  | [_,_,_,_,some (.sh (.int q)),_,_]=>125-q.toNat
  | _=>0) ⟨[zr Q5],0,none,none,rfl,D0⟩ ?_ ?_
 .rintro env ⟨line,c,y5,y6,rfl,D⟩;have Hv:=D.Hv S3
  by_cases lt:(c:Int)<(line.length:Int)
  .have c1:c<line.length:=by lia
   obtain⟨x0,hx0⟩:∃x0,x0=line[c]:=⟨_,rfl⟩
   have kx:=D.kp x0 (by rw[hx0];exact Wu _);refine .inr ⟨by dsimp? [pd,ownAt,VW,lt,decide_true,sE],jj.nx ?_⟩;dsimp? [];refine jj.loop (xs:=Ls) (inj:=tI) (λzs env=>∃(ln:List (List Int))(d:Nat)(y5 y6:Option SV),env=[some (.sh (lI Q5)),some (.sh (.lst (Ls.map tI))),some (.dw (jt ln)),some (.ow (ln.map tI)),some (.sh (.int (c:Int))),y5,y6]/\Dg Q5 Ls T ln c/\ln[c]?=some x0/\zs=Ls.drop d/\∀l∈Ls.take d,sm Q5 x0 l∈ln) ⟨line,0,_,_,rfl,D,by rw[VT c1,hx0],rfl,λl hl=>by cases hl⟩ ?_ ?_
   .rintro l rr env ⟨ln,d,y5,y6,rfl,D',hc,hd,hl⟩;have Vn:=D'.Hv S3;obtain⟨d1,d2,d3⟩:=drop_cons hd.symm;rw[VT d1] at d2;have el:Ls[d]=l:=V9 d2;have ml:l∈Ls:=by rw[<- el];exact Wu _
    have kl:=Q.kp l ml;have ix:aH (.lst (ln.map tI)) (.int (c:Int))=M.ok (tI x0):=bu (p:=.lst (ln.map tI)) rfl (by rw[Ww,hc];rfl);have key:bF (ma 0 1 2) none (aj cQ (aj c7 (ae 0) (ae 1)) (ae 2)) ((x0.zip (l.zip Q5)).map λz=>.tup [.int z.1,.int z.2.1,.int z.2.2]) [none,none,none]=M.ok ((sm Q5 x0 l).map PV.int):=by
     rw[sm,WA];refine y_ (p:=λz:Int×Int×Int=>PV.int z.1) (q:=λz=>PV.int z.2.1) (s:=λz=>PV.int z.2.2) (x0.zip (l.zip Q5)) λz hz=>?_;obtain⟨n1,n2⟩:=Xf (a:=z.1) (b:=z.2) hz;obtain⟨n3,n4⟩:=Xf (a:=z.2.1) (b:=z.2.2) n2;have:=S.hx _ n4;dsimp? [aV (i:=z.1+z.2.1) (j:=z.2.2) ⋯];rfl
    have z1:(x0.zip (l.zip Q5)).length<=sizeLine:=by simp only[W2];exact aM ⋯
    have et:PV.tup ((sm Q5 x0 l).map PV.int)=tI (sm Q5 x0 l):=rfl;have ts:∀k:List Int,k∈Ls.take (d+1)->k∈Ls.take d\/k=l:=λk hk=>by
     rw[WX d1,el] at hk;rcases Xk.mp hk with h|h
     .exact .inl h
     .exact .inr (Wi.mp h)
    by_cases mem:sm Q5 x0 l∈ln
    .dsimp? [bG,kY,ownAt,ix,m_ (p:=tI x0) (q:=tI l) (r:=lI Q5) x0 l Q5 rfl rfl rfl,VW,ar z1,key,et,Eb,Nk,o7,v5,decide_eq_true mem];exact⟨_,rfl,ln,d+1,_,_,rfl,D',hc,d3.symm,λk hk=>(ts k hk).elim (hl k) λe=>by rwa[e]⟩
    .have lz:(jt ln).length<sizeLine:=by rw[jt,VW];exact Xj Vn ↑12
     dsimp? [bG,kY,ownAt,ix,m_ (p:=tI x0) (q:=tI l) (r:=lI Q5) x0 l Q5 rfl rfl rfl,VW,ar z1,key,et,Eb,Nk,o7,v5,decide_eq_false mem,wZ,qb,lz,xB mem,qh,p_ (xs:=ln.map tI) (show (ln.map tI).length<1000 by simp;lia)];refine⟨_,rfl,ln++[sm Q5 x0 l],d+1,_,_,by rw[Xl];rfl,⟨?_,λx hx=>?_,XS _ D'.z,λx hx k hk=>?_,by rw[WD];have:=D'.le;lia⟩,?_,d3.symm,λk hk=>(ts k hk).elim (λh=>XS _ (hl k h)) λe=>by rw[e];exact WR _ V7⟩
     .rw[ac2];exact⟨D'.nd,by simp,λa ha b hb e=>mem (by rwa[<- Wi.mp hb,<- e])⟩
     .rcases Xk.mp hx with h|h
      .exact D'.kp x h
      .rw[Wi.mp h];exact N6 Q kx ml
     .rw[List.take_append_of_le_length D'.le] at hx;exact XS _ (D'.cl x hx k hk)
     .rw[W3 (by have:=WB.mp hc;exact this.1)];exact hc
   .rintro env ⟨ln,d,y5,y6,rfl,D',hc,hd,hl⟩;have Vn:=D'.Hv S3;have UE:Ls.length<=d:=Yh.mp hd.symm;rw[Xy UE] at hl;obtain⟨h1,h2⟩:=WB.mp hc;dsimp? [];refine⟨_,rfl,_,rfl,⟨ln,c+1,_,_,rfl,D'.nd,D'.kp,D'.z,λx hx k hk=>?_,h1⟩,?_⟩
    .rw[WX h1,h2] at hx;rcases Xk.mp hx with h|h
     .exact D'.cl x h k hk
     .rw[Wi.mp h];exact hl k hk
    .show 125-((c:Int)+1).toNat<125-((c:Int)).toNat;lia
  .exact .inl (by dsimp? [pd,ownAt,VW,lt,decide_false,sE])
 .rintro env ⟨line,c,y5,y6,rfl,D⟩ hu;have ge:¬ (c:Int)<(line.length:Int):=by
   intro lt;revert hu;dsimp? [pd,ownAt,VW,lt,decide_true,sE];intro hu;injection hu with hu
   injection hu with hu
   cases hu
  have le:=D.le;have ec:c=line.length:=by lia
  have cl:=D.cl;rw[ec,YZ] at cl;dsimp? [MK,Ou];exact⟨_,rfl,line,rfl,D.nd,λx=>⟨D.kp x,λh=>zx Q (λy hy=>(D.kp y hy).1) D.z cl h.1 h.2⟩⟩
theorem xK:∀S:List (List Int),(∀x∈S,x≠[])->uK (S.map tI)=some S
 | [],_=>rfl
 | []::S,h=>absurd rfl (h _ (.head _))
 | (n::x)::S,h=>by
  rw[Wv,uK,xK S λy hy=>h y (.tail _ hy)];rw[show D8 (tI (n::x))=some (n::x) from o4 _]
theorem oF(xs ys:List (List Int)):n8 (.lst (xs.map tI)) (.lst (ys.map tI))=M.ok (.bl (!decide (xs=ys))):=by
 simp only[n8,p5,dat,uf,aak,G0];have h1:=jY xs;have h2:=jY ys;rw[ar (by simp[acS,X0,Ys,pG,adk,mD];lia)];unfold Spec.same;rw[pb];rfl
def Me(xs:List Int)(c:Nat):Om (tI xs) none (some (c:Int))=M.ok (tI (xs.take c)):=by
 show M.ok (PV.tup (p4 (xs.map PV.int) none (some (c:Int))))=_;have:xs.take (min c xs.length)=xs.take c:=by
  rcases Nat.le_total c xs.length with h|h
  .rw[Nat.min_eq_left h]
  .rw[Nat.min_eq_right h,YZ,Xy h]
 rw[p4,HT.Ez,HT.Hm,List.drop_zero,VW,abw,<- List.map_take,this];rfl
def EI(n:Nat):PV.lst (VS n (.int 0))=lI (VS n 0):=by rw[lI,Xx]
def FC{F:List (List Int)}(h:F≠[])(hn:∀x∈F,x≠[]):wV [.lst (F.map tI)]=M.ok (tI (AZ F)):=by
 simp only[wV];rw[xK F hn];cases F with
 | nil=>exact absurd rfl h
 |cons x r=>rfl
def Av(h:c<T.length):nz Q5.length (T.take (c+1))=if (row T c).1=zr Q5 then nz Q5.length (T.take c) else nz Q5.length (T.take c)++[(row T c).1]:=by
 unfold nz;rw[WX h,List.filter_append,Xl,<- gN h]
 by_cases z:(row T c).1=zr Q5
 .rw[if_pos z,abm (by simp[z])];simp
 .rw[if_neg z,abl (by simpa using z)];simp
theorem lJ(Q:gD ns Q5 Rn Ls T Q7){D:PV}{ks:List (List Int)}(hD:LN D=M.ok (ks.map tI))(hl:ks.length<=1000)(hk:∀x,x∈ks ↔ Kp Q5 x/\GT Q5 T (vf x)):fu [lI Q5,D]=M.ok (.tup ((nz Q5.length T).map tI)):=by
 have S:=Q.S;have l6:=S.h6;have tl:=Q.st.wf.len;have g:=Q.st.gd;refine jj.eq ?_;unfold fu iz;dsimp? [lP,VW,dU (n:=(Q5.length:Int)) ⋯ ⋯,Wq];refine jj.loop (xs:=V6 Q5.length) (inj:=λ(i:Nat)=>.int (i:Int)) (λzs env=>∃(c:Nat)(y3 y4:Option SV),env=[some (.sh (lI Q5)),some (.sh D),some (.ow ((nz Q5.length (T.take c)).map tI)),y3,y4]/\zs=(V6 Q5.length).drop c/\c<=Q5.length) ⟨0,_,_,rfl,rfl,Wb _⟩ ?_ ?_
 .rintro i rr env ⟨c,y3,y4,rfl,hd,hc⟩;obtain⟨c1,c2,c3⟩:=drop_cons hd.symm;rw[WJ] at c1;rw[X3 c1] at c2;obtain rfl:c=i:=V9 c2;have key:bF (bG 0) (some (vZ (dm (aj Jd (aj aH (ae 0) (ae 1)) (λ_=>M.ok (.int 0)))) (dm (aj sW (ai sx (aa (oX (ae 0) Gs (mi (ae 1))) ak)) (aj cP (mq (aa (λ_=>M.ok (.int 0)) ak)) (ae 1)))))) (ae 0) (ks.map tI) [none,some (.sh (.int (c:Int)))]=M.ok ((ks.filter λx=>decide (0<vf x c)&&decide (x.take c=VS c 0)).map tI):=by
   refine vW (inj:=tI) ks (λx hx=>?_) λx hx=>by dsimp? []
   have kx:=((hk x).mp hx).1;have xl:=kx.1
   by_cases p:0<vf x c
   .dsimp? [vZ,jo (xs:=x) (i:=c) ⋯,p,decide_true,oX,Gs,mi,Km,Me,nh (.int 0) c ⋯,EI,show PV.lst ((x.take c).map PV.int)=lI (x.take c) from rfl,K1]
   .dsimp? [vZ,jo (xs:=x) (i:=c) ⋯,p,decide_false]
  have zl:ks.length<=sizeLine:=aM hl;have tc:c<T.length:=by lia
  obtain⟨F,hF⟩:∃F,F=ks.filter λx=>decide (0<vf x c)&&decide (x.take c=VS c 0):=⟨_,rfl⟩
  rw[<- hF] at key;have mF:∀x,x∈F ↔ (Kp Q5 x/\GT Q5 T (vf x))/\0<vf x c/\∀i,i<c->vf x i=0:=λx=>by
   rw[hF,YG,hk x];refine and_congr_right λh=>?_;rw[WT,decide_eq_true_eq,decide_eq_true_eq];refine and_congr_right λ_=>⟨λe i hi=>?_,λe=>?_⟩
   .have xl:=h.1.1;have:=congrArg (λl=>vf l i) e;simp only[cZ] at this;rw[aQ (by simp;lia),aa7] at this;rw[aQ ⋯];exact this
   .have xl:=h.1.1;refine mK (by simp;lia) λi hi=>?_;have UR:i<c:=by simp at hi;lia
    rw[cZ,aQ (by simp;lia),aa7,<- aQ ⋯];exact e i UR
  by_cases z:DD T c c=0
  .have eF:F=[]:=Z1.mpr λx hx=>by
    obtain⟨h1,h2,h3⟩:=(mF x).mp hx;have:=A6 g c1 z (h1.1.2 c c1) h1.2 h3;lia
   have rz:(row T c).1=zr Q5:=mK (by rw[Q.st.wf.og c1];simp) λi hi=>by
    rw[Q.st.wf.og c1] at hi;rw[cZ];exact Q.nul c c1 z i hi
   rw[eF] at key;dsimp? [bG,anyOf,hD,VW,ar zl,key,show n8 (.lst ([]:List PV)) (.lst [])=M.ok (.bl false) from oF [] []];exact⟨_,rfl,c+1,_,_,by rw[Av tc,if_pos rz],c3.symm,c1⟩
  .have rg:=g.jJ c c1;have p:0<DD T c c:=by have:=(rg c c1).1;lia
   have rk:Kp Q5 (row T c).1/\GT Q5 T (vf (row T c).1):=⟨⟨Q.st.wf.og c1,rg⟩,g.row c1 ⋯ (Wb _)⟩
   have rF:(row T c).1∈F:=(mF _).mpr ⟨rk,p,λi hi=>g.vv c c1 i hi⟩;have nF:F≠[]:=λe=>by rw[e] at rF;cases rF
   have rz:¬ (row T c).1=zr Q5:=λe=>z (by show vf (row T c).1 c=0;rw[e,cZ]);have mn:AZ F=(row T c).1:=DO rF λk SN=>by
    obtain⟨h1,h2,h3⟩:=(mF k).mp SN;rcases zi g Q.low c1 z (λi hi=>(h1.1.2 i hi).1) h1.2 h3 h2 with e|⟨e,he,pre,lt⟩
    .exact .inl (mK (by rw[h1.1.1,rk.1.1]) λi hi=>e i (by rwa[h1.1.1] at hi))
    .exact .inr (Ej e (by rw[h1.1.1,rk.1.1]) (by rwa[rk.1.1]) (λi hi=>(pre i hi).symm) lt)
   have mt:=FC nF λx hx e=>by
    have:=((mF x).mp hx).1.1.1;rw[e] at this;have:=S.h1;simp at *;lia
   rw[mn] at mt;have ne:n8 (.lst (F.map tI)) (.lst [])=M.ok (.bl true):=(oF F []).trans (by rw[decide_eq_false nF];rfl);have nl:(nz Q5.length (T.take c)).length<=6:=by
    unfold nz;rw[VW];refine WE (X6 _ _) ?_;simp;lia
   dsimp? [bG,anyOf,hD,VW,ar zl,key,ne,mt,qh,ownAt,p_ (xs:=(nz Q5.length (T.take c)).map tI) (show ((nz Q5.length (T.take c)).map tI).length<1000 by simp;lia)];exact⟨_,rfl,c+1,_,_,by rw[Av tc,if_neg rz,Xl];rfl,c3.symm,c1⟩
 .rintro env ⟨c,y3,y4,rfl,hd,hc⟩;have UE:(V6 Q5.length).length<=c:=Yh.mp hd.symm;rw[WJ] at UE;dsimp? [];exact⟨_,rfl,by rw[Xy ⋯]⟩
theorem BD(xs ys:List (List Int)):sW (.tup (xs.map tI)) (.tup (ys.map tI))=M.ok (.bl (decide (xs=ys))):=by
 simp only[sW,p5,dat,uf,aak,G0];have h1:=jY xs;have h2:=jY ys;rw[ar (by simp[acS,X0,Ys,pG,adk,mD];lia)];unfold Spec.same;rw[pb];rfl
def QU:sC ao "prices" dN (cK pz Q5 Ls) (M.ok [])=M.ok (tI pz):=(jI (fl:=o3 pz Q5 Ls) rfl).trans (A8 Q5 Ls)
theorem lO(h:X.length<=6):dh [cK (ones X) Q5 X,lI Q5,.tup (X.map tI)]=M.ok (.bl true):=by
 have e1:PV.tup (VS X.length (.int 1))=tI (ones X):=by rw[tI,ones,Xx]
 unfold dh iu;dsimp? [ck,JB,QU,Ob,ou,show PV.tup (Q5.map PV.int)=tI Q5 from rfl,decide_true,VW,mul_one (.int 1) X.length ⋯,e1,BD]
def G_{k:List Int}(h:k∈l):putD (jt l) k (.bl true)=jt l:=by
 unfold putD;rw[nW,yU,decide_eq_true h,if_pos rfl];unfold jt;rw[WA];refine Yp λx _=>?_;show (if x=k then (x,PV.bl true) else (x,PV.bl true))=_
 split<;>rfl
section
variable{f r:List Int}{t:List (List Int)}{Te:List Row}{ie:List (List Int)}
theorem uG(Q:gD ns f Rn Ls T Q7):(nz f.length T).length<=6:=by
 have:=Q.S.h6;have tl:=Q.st.wf.len;unfold nz;rw[VW];exact WE (X6 _ _) ⋯
def Fs(h:∀l∈L,Kp f l):(L.map λl=>v7 l f)=L:=(Yp λl hl=>m9 (h l hl).NU).trans (aa6 _)
end
def E_(xs ys:List (List Int))(f:List Int->PV)(h:xs.length+ys.length<=1000):c7 (.lst (xs.map f)) (.lst (ys.map f))=M.ok (.lst ((xs++ys).map f)):=by
 rw[c7,ar (aM (by simpa using h)),Xl]
def CS(xs ys:List (List Int))(f:List Int->PV)(h:xs.length+ys.length<=1000):c7 (.tup (xs.map f)) (.tup (ys.map f))=M.ok (.tup ((xs++ys).map f)):=by
 rw[c7,ar (aM (by simpa using h)),Xl]
def p9{Y:List (List Int)}{l:Nat}(h:l<X.length):AA (X++Y) l=AA X l:=by
 unfold AA;rw[VZ,VZ,W3 h]
theorem qC{Y:List (List Int)}{l:Nat}:AA (X++Y) (X.length+l)=AA Y l:=by
 unfold AA;rw[VZ,VZ,WV ⋯,Nat.add_sub_cancel_left]
theorem xh(f:Nat->Int)(a:Nat):∀b,bI (a+b) f=bI a f+bI b λl=>f (a+l)
 | 0=>by simp[bI]
 |b+1=>by rw[<- Nat.add_assoc,bI,xh f a b,bI];lia
section
variable{S4 Y rX:List (List Int)}{TL TX:List Row}{iL iX:List (List Int)}{q r s:PV}{K:bN->Prop}
def Sm(Q5:List Int)(H K:bN->Prop)(v:bN):Prop:=∃a b:bN,H a/\K b/\∀i,i<Q5.length->vf Q5 i∣v i-(a i+b i)
def NY{l:List Int}(h:l∈nz n T):l≠VS n 0:=by
 obtain⟨r,hr,rfl⟩:=WU.mp h;simpa using (YG.mp hr).2
theorem J7(Q:gD ns Q5 Rn [] T Q7):nz Q5.length T=[]:=Z1.mpr λl hl=>by
 have tl:=Q.st.wf.len;obtain⟨d,hd,e⟩:=rN hl;have g:GT Q5 T (vf (row T d).1):=Q.st.gd.row ⋯ ⋯ (Wb _);obtain⟨P,hP⟩:=Q.led g;refine NY hl (vh (Q5:=Q5) ⟨by rw[<- e];exact Q.st.wf.og ⋯,by rw[<- e];exact Q.st.gd.jJ d ⋯⟩ (sI Q.S) λi hi=>?_);rw[cZ,<- e];have:=hP i hi;simpa [bI] using this
theorem yj(QL:Pn Q5 L TL iL)(hL:∀l∈L,Kp Q5 l):∃Rn Ls T Q7,gD ns Q5 Rn Ls T Q7/\iN [tI Q5,.tup (L.map tI)]=M.ok (cK (ones (nz Q5.length T)) Q5 (nz Q5.length T))/\∀v,GT Q5 T v ↔ GT Q5 TL v:=by
 suffices h:jj (iN [tI Q5,.tup (L.map tI)]) λp=>∃Rn Ls T Q7,p=cK (ones (nz Q5.length T)) Q5 (nz Q5.length T)/\gD ns Q5 Rn Ls T Q7/\∀v,GT Q5 T v ↔ GT Q5 TL v by
  obtain⟨_,e,Rn,Ls,T,Q7,rfl,Q,h⟩:=h;exact⟨Rn,Ls,T,Q7,Q,e,h⟩
 have S:=QL.S;obtain⟨T0,i0,Q0⟩:=gD.kept ns S (L:=[]) ↑13 ↑13;unfold iN j3;dsimp? [show cU ao bM [.c6] [tI Q5,.lst []]=M.ok (cK (ones []) Q5 []) from Q0.MO (f:=tI) (p:=tI Q5) (.inl rfl) rfl];refine jj.loop (xs:=L) (inj:=tI) (λzs env=>∃(y3:Option SV)(Rn Ls:List (List Int))(T:List Row)(iC:List (List Int))(c:Nat),env=[some (.sh (tI Q5)),some (.sh (.tup (L.map tI))),some (.sh (cK (ones (nz Q5.length T)) Q5 (nz Q5.length T))),y3]/\gD ns Q5 Rn Ls T iC/\zs=L.drop c/\(∀j,j<c->j<L.length->GT Q5 T (AA L j))/\∀v,GT Q5 T v->GT Q5 TL v) ⟨_,_,_,T0,_,0,by rw[J7 Q0],Q0,rfl,λj hj=>by lia,λv hv=>Q0.pM QL.gd (λl hl=>by simp at hl) hv⟩ ?_ ?_
 .rintro l r env ⟨y3,Rn,Ls,T,iC,c,rfl,Q,hz,hd,hi⟩;obtain⟨c1,c2,c3⟩:=drop_cons hz.symm;rw[VT c1] at c2;have el:L[c]=l:=V9 c2;have ea:AA L c=vf l:=by unfold AA;rw[VZ,VT c1,Xz,el]
  have kl:Kp Q5 l:=hL l (by rw[<- el];exact Wu _);have l6:=uG Q;obtain⟨rC,LC,TC,jC,⟨_,eL⟩,QC,_,eC⟩:=Ai Q;rw[<- eL] at l6 ⊢;obtain⟨T1,i1,Q1⟩:=gD.kept ns S (L:=LC++[l]) (by simp;lia) λx hx=>by
   rcases Xk.mp hx with h|h
   .exact QC.kp x h
   .rw[Wi.mp h];exact kl
  obtain⟨RC,T',Rk,ec,Q',T4⟩:=rS Q1;rw[T4] at ec;have al:AA (LC++[l]) LC.length=vf l:=by
   have:=qC (X:=LC) (Y:=[l]) (l:=0);rw[acT] at this;rw[this];rfl
  have big:∀v,GT Q5 T v->GT Q5 T1 v:=λv hv=>QC.pM Q1.st.gd (λj hj=>by
   rw[<- p9 (Y:=[l]) hj];exact Q1.E4 (by simp;lia)) ((eC v).mpr hv)
  dsimp? [bG,ck,Ob,show c7 (.lst (LC.map tI)) (.lst [tI l])=M.ok (.lst ((LC++[l]).map tI)) from E_ LC [l] tI (by simp;lia),Q1.MO (f:=tI) (p:=tI Q5) (.inl rfl) rfl,ec];refine⟨_,rfl,_,_,_,T1,_,c+1,rfl,Q1,c3.symm,λj h1 h2=>?_,λv hv=>Q1.pM QL.gd (λj hj=>?_) hv⟩
  .rcases aaT (ac1 h1) with h|h
   .exact big _ (hd j h h2)
   .subst h;rw[ea,<- al];exact Q1.E4 ↑13
  .rcases WW j LC.length with h|h
   .rw[p9 h];exact hi _ ((eC _).mp (QC.E4 h))
   .obtain rfl:j=LC.length:=by simp at hj;lia
    rw[al,<- ea];exact QL.E4 c1
 .rintro env ⟨y3,Rn,Ls,T,iC,c,rfl,Q,hz,hd,hi⟩;have hc:L.length<=c:=Yh.mp hz.symm;dsimp? [];exact⟨_,rfl,Rn,Ls,T,iC,rfl,Q,λv=>⟨hi v,QL.pM Q.st.gd λj hj=>hd j ⋯ hj⟩⟩
theorem zB(h:Vr ns Q5 p H)(k:Vr ns Q5 q K):∃r,cx [p,q]=M.ok r/\Vr ns Q5 r (Sm Q5 H K)/\∃SK Ss T1 Sx,gD ns Q5 SK Ss T1 Sx/\r=cK (ones (nz Q5.length T1)) Q5 (nz Q5.length T1)/\∀v,Sm Q5 H K v ↔ GT Q5 T1 v:=by
 obtain⟨pz1,SK,Ss,T1,i1,rfl,Q1,h1⟩:=h;obtain⟨pz2,raw2,UO,T2,i2,rfl,Q2,h2⟩:=k;have S:=Q1.S;have m1:=Q1.m8;have m2:=Q2.m8;have kk:∀x∈Ss++UO,Kp Q5 x:=λx hx=>by
  rcases Xk.mp hx with h|h
  .exact Q1.kp x h
  .exact Q2.kp x h
 obtain⟨TL,iL,QL⟩:=Pn.kept S kk;obtain⟨Rn,Ls,T,Q7,Q,ec,eq⟩:=yj (ns:=ns) QL kk;obtain⟨rC,LC,TC,jC,⟨_,eL⟩,QC,_,eC⟩:=Ai Q
 suffices key:cx [cK pz1 Q5 Ss,cK pz2 Q5 UO]=M.ok (cK (ones (nz Q5.length T)) Q5 (nz Q5.length T))/\∀v,Sm Q5 H K v ↔ GT Q5 T v from ⟨_,key.1,⟨_,rC,LC,TC,jC,by rw[eL],QC,λv=>(key.2 v).trans (eC v).symm⟩,Rn,Ls,T,Q7,Q,rfl,key.2⟩
 refine⟨?_,λv=>?_⟩
 .unfold cx eS;dsimp? [ck,JB,Ob,Cm,CS Ss UO tI ⋯,ec]
 rw[eq v];constructor
 .rintro⟨a,b,ha,hb,e⟩;refine QL.gd.nZ ⋯ e (G.add ⋯ (Q1.pM QL.gd (λl hl=>?_) ((h1 a).mp ha)) (Q2.pM QL.gd (λl hl=>?_) ((h2 b).mp hb)))
  .rw[<- p9 (Y:=UO) hl];exact QL.E4 (by simp;lia)
  .rw[<- qC (X:=Ss) (l:=l)];exact QL.E4 (by simp;lia)
 .intro g;obtain⟨P,hP⟩:=QL.led g;refine⟨λi=>bI Ss.length λl=>P l*AA Ss l i,λi=>bI UO.length λl=>P (Ss.length+l)*AA UO l i,(h1 _).mpr (G.sum Q1.st.gd _ λl hl=>Q1.E4 hl),(h2 _).mpr (G.sum (P:=λl=>P (Ss.length+l)) Q2.st.gd _ λl hl=>Q2.E4 hl),λi hi=>?_⟩;have:=hP i hi;rwa[WD,xh,dq (g:=λl=>P l*AA Ss l i) λl hl=>by rw[p9 hl],dq (m:=UO.length) (g:=λl=>P (Ss.length+l)*AA UO l i) λl hl=>by rw[qC]] at this
theorem Vr.S(h:Vr ns Q5 p H):Sz Q5:=by obtain⟨_,_,_,_,_,_,Q,_⟩:=h;exact Q.S
theorem Vr.Qq(h:Vr ns Q5 p H){a b:bN}(x y:Int)(ha:H a)(hb:H b)(e:∀i,i<Q5.length->vf Q5 i∣v i-(x*a i+y*b i)):H v:=by
 obtain⟨pz,Rn,Ls,T,Q7,rfl,Q,hH⟩:=h;exact(hH v).mpr (Q.st.gd.nZ ⋯ e (G.add ⋯ (G.mul x ⋯ ((hH a).mp ha)) (G.mul y ⋯ ((hH b).mp hb))))
theorem Vr.zero(h:Vr ns Q5 p H):H λ_=>0:=by
 obtain⟨pz,Rn,Ls,T,Q7,rfl,Q,hH⟩:=h;exact(hH _).mpr (G.zero ⋯)
theorem A3(h:Vr ns Q5 p H)(k:Vr ns Q5 q K):∃r,gO [p,q]=M.ok r/\Vr ns Q5 r (λv=>H v/\K v)/\∃SK Ss T1 Sx,gD ns Q5 SK Ss T1 Sx/\r=cK (ones (nz Q5.length T1)) Q5 (nz Q5.length T1)/\∀v,H v/\K v ↔ GT Q5 T1 v:=by
 obtain⟨r1,e1,v1,_⟩:=kP h;obtain⟨r2,e2,v2,_⟩:=kP k;obtain⟨r3,e3,v3,_⟩:=zB v1 v2;obtain⟨r4,e4,v4,SK,Ss,T1,i1,Q1,er,c1⟩:=kP v3;have hq:=zD h.S
 suffices key:∀v,An Q5 (Sm Q5 (An Q5 H) (An Q5 K)) v ↔ H v/\K v from ⟨r4,by unfold gO mr;dsimp? [e1,e2,e3,e4],v4.ext key,SK,Ss,T1,i1,Q1,er,λv=>(key v).symm.trans (c1 v)⟩
 refine λv=>⟨λh'=>⟨h.an λu hu=>?_,k.an λu hu=>?_⟩,?_⟩
 .rw[fy];exact h' u ⟨u,_,hu,v2.zero,λi hi=>⟨0,by lia⟩⟩
 .rw[fy];exact h' u ⟨_,u,v1.zero,hu,λi hi=>⟨0,by lia⟩⟩
 .rintro⟨a,b⟩ u ⟨x,y,hx,hy,e⟩;rw[fy];exact mH hq (a:=1) (b:=1) (λi hi=>by rw[Yy,Yy];exact e i hi) (hx v a) (hy v b)
end
def ins(D:List (List Int))(k:List Int):List (List Int):=if k∈D then D else D++[k]
def Dt(D:List (List Int))(k:List Int):putD (jt D) k (.bl true)=jt (ins D k):=by
 unfold ins
 split
 .rename_i h;exact G_ h
 .rename_i h;exact xB h
variable{D:List (List Int)}
def Iw{k:List Int}:x∈ins D k ↔ x∈D\/k=x:=by
 unfold ins
 split
 .rename_i h;exact⟨.inl,λq=>q.elim id λe=>by rwa[<- e]⟩
 .rw[Xk,Wi];exact or_congr abH eq_comm
def LM(k:List Int)(h:D.Nodup):(ins D k).Nodup:=by
 unfold ins
 split
 .exact h
 .rename_i n;rw[ac2];exact⟨h,by simp,λa ha b hb e=>n (by rwa[<- Wi.mp hb,<- e])⟩
def Ag{l:List α}(h:c<l.length)(P:α->Prop):(∃a∈l.take (c+1),P a) ↔ (∃a∈l.take c,P a)\/P l[c]:=by
 rw[WX h];constructor
 .rintro⟨y,hy,e⟩;rcases Xk.mp hy with h|h
  .exact .inl ⟨y,h,e⟩
  .rw[Wi.mp h] at e;exact .inr e
 .rintro(⟨y,hy,e⟩|e)
  .exact⟨y,XS _ hy,e⟩
  .exact⟨_,WR _ V7,e⟩
def dk(D:List (List Int)):Jq (.jB (jt D))=M.ok (D.map tI):=by show M.ok (mY (jt D))=_;rw[uB]
section
variable{S4:List (List Int)}{A B:List (List Int)}
theorem Gx(S3:Ga Q5)(hA:∀x∈A,Kp Q5 x)(hB:∀x∈B,Kp Q5 x):∃D:List (List Int),gE [lI Q5,.jB (jt A),.jB (jt B)]=M.ok (.jB (jt D))/\D.Nodup/\∀x,x∈D ↔ ∃a∈A,∃b∈B,sm Q5 a b=x:=by
 suffices h:jj (gE [lI Q5,.jB (jt A),.jB (jt B)]) λp=>∃D:List (List Int),p=.jB (jt D)/\D.Nodup/\∀x,x∈D ↔ ∃a∈A,∃b∈B,sm Q5 a b=x by
  obtain⟨_,e,ks,rfl,q⟩:=h;exact⟨ks,e,q⟩
 have S:=S3.S;have l6:=S.h6;unfold gE jb;dsimp? [newD,keysOf,dk];refine jj.loop (xs:=A) (inj:=tI) (λzs env=>∃(c:Nat)(D:List (List Int))(y4 y5:Option SV),env=[some (.sh (lI Q5)),some (.sh (.jB (jt A))),some (.sh (.jB (jt B))),some (.dw (jt D)),y4,y5]/\zs=A.drop c/\D.Nodup/\∀x,x∈D ↔ ∃a∈A.take c,∃b∈B,sm Q5 a b=x) ⟨0,[],_,_,rfl,rfl,by simp,by simp⟩ ?_ ?_
 .rintro a rr env ⟨c,D,y4,y5,rfl,hd,nd,hD⟩;obtain⟨c1,c2,c3⟩:=drop_cons hd.symm;rw[VT c1] at c2;have ea:A[c]=a:=V9 c2;have ka:=hA a (by rw[<- ea];exact Wu _);dsimp? [bG,keysOf,dk];refine jj.loop (xs:=B) (inj:=tI) (λzs env=>∃(d:Nat)(D:List (List Int))(y5:Option SV),env=[some (.sh (lI Q5)),some (.sh (.jB (jt A))),some (.sh (.jB (jt B))),some (.dw (jt D)),some (.sh (tI a)),y5]/\zs=B.drop d/\D.Nodup/\∀x,x∈D ↔ (∃a∈A.take c,∃b∈B,sm Q5 a b=x)\/∃b∈B.take d,sm Q5 a b=x) ⟨0,D,_,rfl,rfl,nd,λx=>by rw[hD];simp⟩ ?_ ?_
  .rintro b rr env ⟨d,D,y5,rfl,hd,nd,hD⟩;obtain⟨d1,d2,d3⟩:=drop_cons hd.symm;rw[VT d1] at d2;have eb:B[d]=b:=V9 d2;have kb:=hB b (by rw[<- eb];exact Wu _);have kD:∀x∈D,Kp Q5 x:=λx hx=>by
    rcases(hD x).mp hx with ⟨a,ha,b,hb,rfl⟩|⟨b,hb,rfl⟩
    .exact(sO S (hA a (ab8 ha)).1 (hB b hb).1).1
    .exact(sO S ka.1 (hB b (ab8 hb)).1).1
   have fD:=S3.Hv nd kD;have lz:(jt D).length<sizeLine:=by rw[jt,VW];exact Xj fD ↑12
   have key:bF (ma 0 1 2) none (aj cQ (aj c7 (ae 0) (ae 1)) (ae 2)) ((a.zip (b.zip Q5)).map λz=>.tup [.int z.1,.int z.2.1,.int z.2.2]) [none,none,none]=M.ok ((sm Q5 a b).map PV.int):=by
    rw[sm,WA];refine y_ (p:=λz:Int×Int×Int=>PV.int z.1) (q:=λz=>PV.int z.2.1) (s:=λz=>PV.int z.2.2) (a.zip (b.zip Q5)) λz hz=>?_;obtain⟨n1,n2⟩:=Xf (a:=z.1) (b:=z.2) hz;obtain⟨n3,n4⟩:=Xf (a:=z.2.1) (b:=z.2.2) n2;have:=S.hx _ n4;dsimp? [aV (i:=z.1+z.2.1) (j:=z.2.2) ⋯];rfl
   have z1:(a.zip (b.zip Q5)).length<=sizeLine:=by simp only[W2];exact aM ⋯
   dsimp? [bG,wZ,o7,m_ (p:=tI a) (q:=tI b) (r:=lI Q5) a b Q5 rfl rfl rfl,VW,ar z1,key,show PV.tup ((sm Q5 a b).map PV.int)=tI (sm Q5 a b) from rfl,qb,lz,Dt];refine⟨_,rfl,d+1,ins D (sm Q5 a b),_,rfl,d3.symm,LM _ nd,λx=>?_⟩;rw[Iw,hD,Ag d1,eb,or_assoc]
  .rintro env ⟨d,D,y5,rfl,hd,nd,hD⟩;have e:B.length<=d:=Yh.mp hd.symm;rw[Xy e] at hD;dsimp? [];refine⟨_,rfl,c+1,D,_,_,rfl,c3.symm,nd,λx=>?_⟩;rw[hD,Ag c1,ea]
 .rintro env ⟨c,D,y4,y5,rfl,hd,nd,hD⟩;have e:A.length<=c:=Yh.mp hd.symm;rw[Xy e] at hD;dsimp? [MK,Ou];exact⟨_,rfl,D,rfl,nd,hD⟩
theorem IB(Q:gD ns Q5 Rn Ls T Q7){P:List Int}(kx:Kp Q5 x)(hl:P.length=Ls.length)(hb:∀p∈P,p.natAbs<2^64)(led:Led Q5.length (vf Q5) Ls.length (AA Ls) (vf x) (vf P)):fY [lI Q5,.tup (Ls.map tI),tI P]=M.ok (tI x):=by
 have S:=Q.S;have l6:=S.h6;refine jj.eq ?_;unfold fY ki;dsimp? [VW,nh (.int 0) Q5.length ⋯,EI,gC (p:=tI P) (q:=.tup (Ls.map tI)) (f:=PV.int) (g:=tI) P Ls rfl rfl];refine jj.loop (xs:=P.zip Ls) (inj:=λz=>.tup [.int z.1,tI z.2]) (λzs env=>∃(c:Nat)(F:List Int)(y4 y5:Option SV),env=[some (.sh (lI Q5)),some (.sh (.tup (Ls.map tI))),some (.sh (tI P)),some (.sh (lI F)),y4,y5]/\zs=(P.zip Ls).drop c/\c<=Ls.length/\Kp Q5 F/\∀i,i<Q5.length->vf Q5 i∣vf F i-bI c λl=>vf P l*AA Ls l i) ⟨0,zr Q5,_,_,rfl,rfl,Wb _,sI S,λi hi=>by rw[cZ];exact⟨0,by simp[bI]⟩⟩ ?_ ?_
 .rintro⟨p,l⟩ rr env ⟨c,F,y4,y5,rfl,hd,hc,kF,dF⟩;obtain⟨c1,c2,c3⟩:=drop_cons hd.symm;rw[VT c1] at c2;have e2:=V9 c2;rw[YA] at e2;have c1':c<Ls.length:=by rw[W2] at c1;lia
  have ep:P[c]'(by lia)=p:=congrArg Prod.fst e2;have el:Ls[c]=l:=congrArg Prod.snd e2;have kl:=Q.kp l (by rw[<- el];exact Wu _);have bp:=hb p (by rw[<- ep];exact Wu _);have key:bF (ma 0 1 2) none (aj cQ (aj c7 (ae 0) (aj cP (ae 3) (ae 1))) (ae 2)) ((F.zip (l.zip Q5)).map λz=>.tup [.int z.1,.int z.2.1,.int z.2.2]) [none,none,none,some (.sh (.int p))]=M.ok ((t6 Q5 F l p).map PV.int):=by
   rw[t6,WA];refine y_ (p:=λz:Int×Int×Int=>PV.int z.1) (q:=λz=>PV.int z.2.1) (s:=λz=>PV.int z.2.2) (F.zip (l.zip Q5)) λz hz=>?_;obtain⟨n1,n2⟩:=Xf (a:=z.1) (b:=z.2) hz;obtain⟨n3,n4⟩:=Xf (a:=z.2.1) (b:=z.2.2) n2;have:=S.hx _ n4;dsimp? [b_ (i:=p) (j:=z.2.1) (k:=64) (l:=200) bp (kl.bd S _ n3),aV (i:=z.1+p*z.2.1) (j:=z.2.2) ⋯];rfl
  have z1:(F.zip (l.zip Q5)).length<=sizeLine:=by simp only[W2];exact aM ⋯
  dsimp? [cC,m_ (p:=lI F) (q:=tI l) (r:=lI Q5) F l Q5 rfl rfl rfl,VW,ar z1,key];refine⟨_,rfl,c+1,t6 Q5 F l p,_,_,rfl,c3.symm,c1',⟨qO kF.1 kl.1,λi hi=>?_⟩,λi hi=>?_⟩
  .rw[zU kF.1 kl.1 hi];have:=me S i hi;exact⟨Wx _ ⋯,Wm _ ⋯⟩
  .have h1:vf Q5 i∣vf (t6 Q5 F l p) i-(vf F i+p*vf l i):=by rw[zU kF.1 kl.1 hi];exact cX _ _
   have h2:=XH h1 (dF i hi);show vf Q5 i∣vf (t6 Q5 F l p) i-(bI c (λl=>vf P l*AA Ls l i)+vf P c*AA Ls c i);rw[aQ (xs:=P) ⋯,ep,show AA Ls c=vf l by unfold AA;rw[VZ,VT c1',Xz,el]]
   rwa [show ∀a b c d:Int,a-(b+c)+(b-d)=a-(d+c) by intros;lia] at h2
 .rintro env ⟨c,F,y4,y5,rfl,hd,hc,kF,dF⟩;have e:(P.zip Ls).length<=c:=Yh.mp hd.symm;rw[W2] at e;have ec:c=Ls.length:=by lia
  subst ec;have:F=x:=vh kF kx λi hi=>by
   have:=ab7 (dF i hi) (led i hi)
   rwa [show ∀a b c:Int,a-b-(c-b)=a-c by intros;lia] at this
  dsimp? [];exact⟨_,rfl,by rw[this];rfl⟩
theorem B_{P R:List Int}(hl:P.length=R.length)(h6:R.length<=100)(h:∀i,i<R.length->0<=vf P i/\vf P i<vf R i):dz [tI P,tI R]=M.ok (.bl true):=by
 refine jj.eq ?_;unfold dz gk;dsimp? [VW,hl,decide_true,gC (p:=tI P) (q:=tI R) (f:=PV.int) (g:=PV.int) P R rfl rfl];refine jj.loop (xs:=P.zip R) (inj:=λz=>.tup [.int z.1,.int z.2]) (λzs env=>(∀z∈zs,z∈P.zip R)/\∃y2 y3,env=[some (.sh (tI P)),some (.sh (tI R)),y2,y3]) ⟨λz h=>h,_,_,rfl⟩ ?_ ?_
 .rintro⟨a,b⟩ rr env ⟨hz,y2,y3,rfl⟩;obtain⟨i,hi,e⟩:=Wc.mp (hz _ V7);rw[YA] at e;rw[W2] at hi;have ea:P[i]'(by lia)=a:=congrArg Prod.fst e;have eb:R[i]'(by lia)=b:=congrArg Prod.snd e;have q:=h i ⋯;rw[aQ ⋯,aQ ⋯,ea,eb] at q;dsimp? [cC,q,and_self,decide_true];exact⟨_,rfl,λz h=>hz z (V5 _ h),_,_,rfl⟩
 .rintro env ⟨_,y2,y3,rfl⟩;exact⟨_,rfl,rfl⟩
end
section
variable{S4:List (List Int)}{Us:List Int}
theorem vI(Q:gD ns Q5 Rn Ls T Q7)(kx:Kp Q5 x)(gx:GT Q5 T (vf x)):bJ [mM pz Q5 Ls T Q7,tI x]=M.ok (tI (told Q5 Ls T Q7 x))/\dz [tI (told Q5 Ls T Q7 x),tI (IM Q7)]=M.ok (.bl true)/\fY [lI Q5,.tup (Ls.map tI),tI (told Q5 Ls T Q7 x)]=M.ok (tI x):=by
 have m8:=Q.m8;have il:=Q.I.len;obtain⟨e1,e2,e3,e4⟩:=DY (pz:=pz) (k:=Ls.length+1) Q.S m8 Q.st ⋯ Q.I kx.NU kx.2 gx;refine⟨e1,B_ (by rw[qp,il,e2]) (by rw[qp,il];lia) λi hi=>?_,IB Q kx e2 (λp hp=>?_) e3⟩
 .rw[qp,il] at hi;rw[LH (Q7:=Q7) (i:=i) ⋯];exact e4 i hi
 .obtain⟨i,hi,e⟩:=Wc.mp hp;have h:=e4 i ⋯;rw[aQ hi,e] at h;have:=Q.I.le i ⋯;lia
theorem Ci(Q:gD ns Q5 Rn Ls T Q7)(Q':gD ns Q5 S4 RC T' Rk)(hX:∀x∈X,Kp Q5 x/\GT Q5 T (vf x)/\GT Q5 T' (vf x))(h6:X.length<=6)(hb:gO [cK pz Q5 Ls,cK Us Q5 RC]=M.ok (cK (ones X) Q5 X)):c9 [cK pz Q5 Ls,cK Us Q5 RC]=M.ok (.lst (X.map λx=>.tup [tI x,tI (told Q5 Ls T Q7 x),tI (told Q5 RC T' Rk x)])):=by
 have key:bF (bG 0) none (kG (aa (ae 0) (aa (bc az "pulls_to" bJ (ae 1) (aa (ae 0) ak)) (aa (bc az "pulls_to" bJ (ae 2) (aa (ae 0) ak)) ak)))) (X.map tI) [none,some (.sh (mM pz Q5 Ls T Q7)),some (.sh (mM Us Q5 RC T' Rk))]=M.ok (X.map λx=>.tup [tI x,tI (told Q5 Ls T Q7 x),tI (told Q5 RC T' Rk x)]):=by
  refine fx (inj:=tI) X λx hx=>?_;obtain⟨k,g1,g2⟩:=hX x hx;dsimp? [ck,Fq (m := "pulls_to") rfl,(vI (pz:=pz) Q k g1).1,(vI (pz:=Us) Q' k g2).1]
 have zl:X.length<=sizeLine:=aM ⋯;unfold c9 eX;dsimp? [hb,ck,Ob,Q.IY,Q'.IY,VW,ar zl,key]
theorem Ip(Q:gD ns Q5 Rn Ls T Q7)(Q':gD ns Q5 S4 RC T' Rk)(hX:∀x∈X,Kp Q5 x/\GT Q5 T (vf x)/\GT Q5 T' (vf x))(h6:X.length<=6)(hb:gO [cK pz Q5 Ls,cK Us Q5 RC]=M.ok (cK (ones X) Q5 X)):iY [cK pz Q5 Ls,cK Us Q5 RC,lI Q5,.tup (X.map tI)]=M.ok (.bl true):=by
 have wp:=Ci Q Q' hX h6 hb;have zl:X.length<=sizeLine:=aM ⋯;have i0:∀a b c:PV,aH (.tup [a,b,c]) (.int 0)=M.ok a:=λa b c=>bu (p:=.tup [a,b,c]) (j:=0) rfl rfl;have i1:∀a b c:PV,aH (.tup [a,b,c]) (.int 1)=M.ok b:=λa b c=>bu (p:=.tup [a,b,c]) (j:=1) rfl rfl;have i2:∀a b c:PV,aH (.tup [a,b,c]) (.int 2)=M.ok c:=λa b c=>bu (p:=.tup [a,b,c]) (j:=2) rfl rfl;have j0:∀a b:PV,aH (.lst [a,b]) (.int 0)=M.ok a:=λa b=>bu (p:=.lst [a,b]) (j:=0) rfl rfl;have j1:∀a b:PV,aH (.lst [a,b]) (.int 1)=M.ok b:=λa b=>bu (p:=.lst [a,b]) (j:=1) rfl rfl;have key:bF (bG 0) none (aj aH (ae 0) (λ_=>M.ok (.int 0))) (X.map λx=>.tup [tI x,tI (told Q5 Ls T Q7 x),tI (told Q5 RC T' Rk x)]) [none]=M.ok (X.map tI):=fx (inj:=λx=>.tup [tI x,tI (told Q5 Ls T Q7 x),tI (told Q5 RC T' Rk x)]) X λx _=>by dsimp? [i0]
 refine jj.eq ?_;unfold iY i_;dsimp? [wp,VW,ar zl,key,oF,decide_true,Q.IY,Q'.IY,ck,Fq (m := "spans") rfl,uj (R:=T) Q.m8 Q.I,uj (R:=T') Q'.m8 Q'.I];refine jj.loop (xs:=X) (inj:=λx=>.tup [tI x,tI (told Q5 Ls T Q7 x),tI (told Q5 RC T' Rk x)]) (λzs env=>(∀z∈zs,z∈X)/\∃y6,env=[some (.sh (cK pz Q5 Ls)),some (.sh (cK Us Q5 RC)),some (.sh (lI Q5)),some (.sh (.tup (X.map tI))),some (.sh (.lst (X.map λx=>.tup [tI x,tI (told Q5 Ls T Q7 x),tI (told Q5 RC T' Rk x)]))),some (.sh (.lst [tI (IM Q7),tI (IM Rk)])),y6]) ⟨λz h=>h,_,rfl⟩ ?_ ?_
 .rintro x rr env ⟨hz,y6,rfl⟩;obtain⟨k,g1,g2⟩:=hX x (hz x V7);obtain⟨_,n1,l1⟩:=vI (pz:=pz) Q k g1;obtain⟨_,n2,l2⟩:=vI (pz:=Us) Q' k g2;dsimp? [bG,show decide (((3:Nat):Int)=3)=true from rfl,i0,i1,i2,j0,j1,n1,n2,ck,Ob,l1,l2,ou,decide_true];exact⟨_,rfl,λz h=>hz z (V5 _ h),_,rfl⟩
 .rintro env ⟨_,y6,rfl⟩;exact⟨_,rfl,rfl⟩
end
variable{a:Addr}
section
variable{f o:List Int}{Us:List Int}{q:PV}{K:bN->Prop}
def ER(h:f≠o):bT [tI f,tI o]=some (.error (bg,none)):=by
 unfold bT cJ;dsimp? [ou,decide_eq_false h,kS,ar (aM (show 1<=1000 by decide))]
def AS(h:f≠o):cx [cK pz f Ls,cK Us o RC]=some (.error (bg,none)):=by
 unfold cx eS;dsimp? [ck,JB,ER h]
def tab:List (Addr×(List PV->M PV)):=[(cN,cx),(jm,gO),(cu,c9)]
def FQ(hp:Vr ns f p H)(hq:Vr ns o q K)(h:f≠o)(ha:a∈[cN,jm,cu]):OE tab (.fn a) (M.ok [p,q])=some (.error (bg,none)):=by
 obtain⟨r1,e1,_,_,_,T1,_,_,rfl,_⟩:=kP hp;obtain⟨r2,e2,_,_,_,T2,_,_,rfl,_⟩:=kP hq;have b:gO [p,q]=some (.error (bg,none)):=by
  unfold gO mr;dsimp? [e1,e2,AS h]
 show cO _ _=_;rcases Wd.mp ha with rfl|ha
 .rw[ar (by rfl)];obtain⟨pz,_,_,_,_,rfl,_,_⟩:=hp;obtain⟨Us,_,_,_,_,rfl,_,_⟩:=hq;exact AS h
 .rcases Wd.mp ha with rfl|ha
  .rw[ar (by rfl)];exact b
  .obtain rfl:=Wi.mp ha;rw[ar (by rfl)];show c9 [p,q]=_;unfold c9 eX;dsimp? [ck,b]
def O3:sX gq gz bg=some true:=by decide
def Pb:Cg (λ_=>false) (sX lC lB) (sX iB iD) (.exc bg none)=M.ok (.bl true):=by
 show e9 ((sX iB iD bg).map .bl)=_;rw[show sX iB iD bg=some true by decide];rfl
def isTm:Cg (λ_=>false) (sX kc jO) (sX fH fO) (.exc bg none)=M.ok (.bl false):=by
 show e9 ((sX fH fO bg).map .bl)=_;rw[show sX fH fO bg=some false by decide];rfl
def Qy:NW OQ (.exc bg none)=M.ok (.bl true):=ar ↑12
def r9(c:OE tab (.fn a) (M.ok [p,q])=some (.error (bg,none))):cy [.fn a,p,q]=M.ok (.bl true):=by
 unfold tab at c;unfold cy fm;dsimp? [Iq,yO,c,ze,zq,O3,Ky,Fv,vL,Pb,Ms,Qy,isTm]
def Mn(h:i<xs.length){v:Int}(hv:v≠vf xs i):xs≠xs.set i v:=λe=>by
 have:vf (xs.set i v) i=vf xs i:=by rw[<- e]
 rw[aQ (by simpa using h),abV] at this;exact hv this
theorem By(S3:Ga f)(hp:Vr ns f p H)(c:Int):gA [p,.int c,lI f]=M.ok (.bl true):=by
 have l1:=S3.S.h1;have l3:=S3.h3;obtain⟨k,hk⟩:=abj (Wx (c/8) (show (f.length:Int)≠0 by lia));have k1:k<f.length:=by have:=Wm (c/8) (show (0:Int)<f.length by lia);lia
 obtain⟨v,hv⟩:∃v,v=2+(vf f k+c/8%3)%4:=⟨_,rfl⟩
 have vb:2<=v/\v<=5:=by lia
 have Sv:∀x∈f.set k v,2<=x/\x<=360:=λx hx=>by
  rcases List.mem_or_eq_of_mem_set hx with h|h
  .have:=S3.h5 x h;lia
  .lia
 have ix:aH (.lst (f.map PV.int)) (.int (k:Int))=M.ok (.int (vf f k)):=qx (xs:=f) k1;have ix':aH (lI f) (.int (k:Int))=M.ok (.int (vf f k)):=qx (xs:=f) k1;have iy:aH (.lst ((f.set k v).map PV.int)) (.int (k:Int))=M.ok (.int v):=by
  have:=qx (xs:=f.set k v) (i:=k) (by simpa using k1);rwa[aQ (by simpa using k1),abV] at this
 have run:∀o,Sz o->f≠o->∀(k:Out->M PV),True->cU ao bM [.c6] [.lst (o.map PV.int),.lst []]=M.ok (cK (ones []) o [])/\∀a∈[cN,jm,cu],cy [.fn a,p,cK (ones []) o []]=M.ok (.bl true)/\cy [.fn a,cK (ones []) o [],p]=M.ok (.bl true):=λo So ne _ _=>by
  obtain⟨T0,i0,Q0⟩:=gD.kept ns So (L:=[]) ↑13 ↑13;have V0:Vr ns o (cK (ones []) o []) (GT o T0):=⟨_,_,_,_,_,rfl,Q0,λ_=>abH⟩
  exact⟨Ae (p:=lI o) (f:=tI) (.inl rfl) o [] rfl So ↑12 ↑13,λa ha=>⟨r9 (FQ hp V0 ne ha),r9 (FQ V0 hp ne.symm ha)⟩⟩
 have d8:=bh (i:=c) (j:=8) ↑12 ↑12;refine jj.eq ?_;unfold gA gg
 by_cases h:v=vf f k
 .have So:Sz (f.set k v++[2]):=⟨by simp,by simp;lia,λx hx=>by
   rcases Xk.mp hx with h|h
   .exact Sv x h
   .rw[Wi.mp h];decide⟩
  obtain⟨m,r⟩:=run _ So (λe=>by have:=congrArg Zd e;simp at this) (λ_=>none) trivial;generalize ho:f.set k v++[2]=o at *;have S6:(f.set k v).map PV.int++[PV.int 2]=o.map PV.int:=by rw[<- ho,Xl];rfl
  dsimp? [d8,VW,aV (i:=c/8) (j:=(f.length:Int)) ⋯,hk,AF,JD,kY,pd,ownAt,pP,ix,ix',aV (i:=c/8) (j:=3) ↑12,aV (i:=vf f k+c/8%3) (j:=4) ↑12,hv.symm,sj,nQ (i:=4) (xs:=f) (j:=k) k1,iy,decide_eq_true h,sE,qh,p_ (xs:=(f.set k v).map PV.int) (show ((f.set k v).map PV.int).length<1000 by simp;lia),S6,m];refine jj.loop (xs:=[cN,jm,cu]) (inj:=PV.fn) (λzs env=>(∀z∈zs,z∈[cN,jm,cu])/\∃y6,env=[some (.sh p),some (.sh (.int c)),some (.sh (lI f)),some (.sh (.int (k:Int))),some (.sh (.lst (o.map PV.int))),some (.sh (cK (ones []) o [])),y6]) ⟨λz h=>h,_,rfl⟩ ?_ ?_
  .rintro a rr env ⟨hz,y6,rfl⟩;obtain⟨r1,r2⟩:=r a (hz a V7);dsimp? [bG,r1,r2];exact⟨_,rfl,λz h=>hz z (V5 _ h),_,rfl⟩
  .rintro env ⟨_,y6,rfl⟩;exact⟨_,rfl,rfl⟩
 .have So:Sz (f.set k v):=⟨by simpa using l1,by simp;lia,Sv⟩
  obtain⟨m,r⟩:=run _ So (Mn k1 h) (λ_=>none) trivial;dsimp? [d8,VW,aV (i:=c/8) (j:=(f.length:Int)) ⋯,hk,AF,JD,kY,pd,ownAt,pP,ix,ix',aV (i:=c/8) (j:=3) ↑12,aV (i:=vf f k+c/8%3) (j:=4) ↑12,hv.symm,sj,nQ (i:=4) (xs:=f) (j:=k) k1,iy,decide_eq_false h,sE,m];refine jj.loop (xs:=[cN,jm,cu]) (inj:=PV.fn) (λzs env=>(∀z∈zs,z∈[cN,jm,cu])/\∃y6,env=[some (.sh p),some (.sh (.int c)),some (.sh (lI f)),some (.sh (.int (k:Int))),some (.sh (.lst ((f.set k v).map PV.int))),some (.sh (cK (ones []) (f.set k v) [])),y6]) ⟨λz h=>h,_,rfl⟩ ?_ ?_
  .rintro a rr env ⟨hz,y6,rfl⟩;obtain⟨r1,r2⟩:=r a (hz a V7);dsimp? [bG,r1,r2];exact⟨_,rfl,λz h=>hz z (V5 _ h),_,rfl⟩
  .rintro env ⟨_,y6,rfl⟩;exact⟨_,rfl,rfl⟩
end
section
variable{f:List Int}{K:bN->Prop}
theorem reduce(S:Sz f)(v:bN):∃xs,Kp f xs/\∀i,i<f.length->vf f i∣vf xs i-v i:=by
 have e:∀i,i<f.length->vf ((V6 f.length).map λi=>v i%vf f i) i=v i%vf f i:=λi hi=>by
  rw[aQ (by simpa using hi)];simp
 refine⟨(V6 f.length).map λi=>v i%vf f i,⟨by simp,λi hi=>?_⟩,λi hi=>?_⟩
 .rw[e i hi];have:=me S i hi;exact⟨Wx _ ⋯,Wm _ ⋯⟩
 .rw[e i hi];exact cX _ _
def uH(S:Sz f)(h8:L.length<=8)(hL:∀l∈L,Kp f l){w:Nat->Int}(hw:∀k,k<L.length->1<=w k/\w k<=1000):cU ao bM [] [lI f,.lst (L.map tI),.lst ((V6 L.length).map λ(k:Nat)=>.int (w k))]=M.ok (cK ((V6 L.length).map w) f L):=by
 have:=D6 (p:=lI f) (pp:=.lst ((V6 L.length).map λ(k:Nat)=>.int (w k))) (pz:=(V6 L.length).map w) (f:=tI) (.inl rfl) f L (by rw[WA];rfl) rfl ↑13 (λx hx=>by
  obtain⟨k,hk,rfl⟩:=WU.mp hx;exact hw k (W5.mp hk)) rfl S h8 λl hl=>(hL l hl).1
 rwa [Fs hL] at this
theorem Nr(Q:gD ns f Rn Ls T Q7)(h:x∈nz f.length T):Kp f x/\GT f T (vf x):=by
 have tl:=Q.st.wf.len;obtain⟨d,hd,rfl⟩:=rN h;exact⟨⟨Q.st.wf.og ⋯,Q.st.gd.jJ d ⋯⟩,Q.st.gd.row ⋯ ⋯ (Wb _)⟩
theorem Fw{q:PV}(hp:Vr ns f p H)(hq:Vr ns f q K)(x:List Int):(∃a,(Kp f a/\H (vf a))/\∃b,(Kp f b/\K (vf b))/\sm f a b=x) ↔ Kp f x/\Sm f H K (vf x):=by
 have S:=hp.S;constructor
 .rintro⟨a,⟨ka,ha⟩,b,⟨kb,hb⟩,rfl⟩;obtain⟨k,d⟩:=sO S ka.1 kb.1;exact⟨k,vf a,vf b,ha,hb,d⟩
 .rintro⟨kx,a,b,ha,hb,e⟩;obtain⟨xa,ka,da⟩:=reduce S a;obtain⟨xb,kb,db⟩:=reduce S b;refine⟨xa,⟨ka,hp.Qq 1 0 ha ha λi hi=>by have:=da i hi;rwa [show ∀u v:Int,u-v=u-(1*v+0*v) by intros;lia] at this⟩,xb,⟨kb,hq.Qq 1 0 hb hb λi hi=>by have:=db i hi;rwa [show ∀u v:Int,u-v=u-(1*v+0*v) by intros;lia] at this⟩,vh (sO S ka.1 kb.1).1 kx λi hi=>?_⟩;have h1:=(sO S ka.1 kb.1).2 i hi;have:=ab7 (XH h1 (XH (da i hi) (db i hi))) (e i hi)
  rwa [show ∀u v w y z t:Int,u-(v+w)+(v-y+(w-z))-(t-(y+z))=u-t by intros;lia] at this
end
abbrev fI:af->M PV:=aj cQ (aj bQ (ae 4) (λ_=>M.ok (.int 9))) (λ_=>M.ok (.int 2))
abbrev fV:af->M PV:=ai eh (aa (aj bQ (ae 4) (λ_=>M.ok (.int 18))) (aa (ae 2) ak))
abbrev eN(ns f:List Int)(c:Int)(y:Option SV):af:=[some (.sh (.kC (ns.map PV.int))),some (.sh (.int c)),some (.sh (lI f)),none,y,none,none,none,none,none,none,none]
theorem qS{ns f:List Int}{c0:Int}(Sf:Sz f):∀(cs:List Int)(L0 L1:List (List Int))(y:Option SV),(∀l∈L0,Kp f l)->(∀l∈L1,Kp f l)->L0.length<=8->L1.length<=8 ->∃(U7 U8:List (List Int))(y':Option SV),yS 4 fI fV (cs.map PV.int) (eN ns f c0 y) (L0.map tI) (L1.map tI)=M.ok (eN ns f c0 y',U7.map tI,U8.map tI)/\(∀l∈U7,Kp f l)/\(∀l∈U8,Kp f l)/\U7.length<=8/\U8.length<=8
 | [],L0,L1,y,h0,h1,m0,m1=>⟨L0,L1,y,rfl,h0,h1,m0,m1⟩
 | c::cs,L0,L1,y,h0,h1,m0,m1=>by
  have d9:=bh (i:=c) (j:=9) ↑12 ↑12;have d18:=bh (i:=c) (j:=18) ↑12 ↑12;have m2:=aV (i:=c/9) (j:=2) ↑12;obtain⟨_,el,l,rfl,lk⟩:=Bg Sf (c/18);have kl:=Kh Sf lk;have ad:∀L:List (List Int),(∀l∈L,Kp f l)->∀x∈L++[l],Kp f x:=λL h x hx=>by
   rcases Xk.mp hx with q|q
   .exact h x q
   .rw[Wi.mp q];exact kl
  have ev:fV (eN ns f c0 (some (.sh (.int c))))=M.ok (tI l):=by
   unfold fV eN;dsimp? [d18,el]
  rw[Wv,yS];show ∃(U7 U8:List (List Int))(y':Option SV),M.bind (G8 fI fV (eN ns f c0 (some (.sh (.int c)))) _ _) _=_/\_;rcases show c/9%2=0\/c/9%2=1 by lia with z|z
  .have ei:fI (eN ns f c0 (some (.sh (.int c))))=M.ok (.int 0):=by
    unfold fI eN;dsimp? [d9,m2,z]
   rw[G8,ei,M.aE];show ∃(U7 U8:List (List Int))(y':Option SV),M.bind (if (L0.map tI).length<8 then (fV (eN ns f c0 (some (.sh (.int c))))).bind λv=>M.ok (L0.map tI++[v],L1.map tI) else M.ok (L0.map tI,L1.map tI)) _=_/\_
   by_cases q:(L0.map tI).length<8
   .rw[if_pos q,ev,M.aE,M.aE];have:=qS (ns:=ns) (c0:=c0) Sf cs (L0++[l]) L1 (some (.sh (.int c))) (ad L0 h0) h1 (by simp at q ⊢;lia) m1;rwa[Xl] at this
   .rw[if_neg q,M.aE];exact qS Sf cs L0 L1 _ h0 h1 m0 m1
  .have ei:fI (eN ns f c0 (some (.sh (.int c))))=M.ok (.int 1):=by
    unfold fI eN;dsimp? [d9,m2,z]
   rw[G8,ei,M.aE];show ∃(U7 U8:List (List Int))(y':Option SV),M.bind (if (L1.map tI).length<8 then (fV (eN ns f c0 (some (.sh (.int c))))).bind λv=>M.ok (L0.map tI,L1.map tI++[v]) else M.ok (L0.map tI,L1.map tI)) _=_/\_
   by_cases q:(L1.map tI).length<8
   .rw[if_pos q,ev,M.aE,M.aE];have:=qS (ns:=ns) (c0:=c0) Sf cs L0 (L1++[l]) (some (.sh (.int c))) h0 (ad L1 h1) m0 (by simp at q ⊢;lia);rwa[Xl] at this
   .rw[if_neg q,M.aE];exact qS Sf cs L0 L1 _ h0 h1 m0 m1
theorem Mi(ns:List Int):uS [.kC (ns.map PV.int)]=M.ok (.bl true):=by
 obtain⟨c0,ec0⟩:=Hq ns 0 ↑12;rw[show ((0:Nat):Int)=0 from rfl] at ec0;obtain⟨_,es,f,rfl,Sf⟩:=Ce c0;obtain⟨L0,L1,y4,e2,k0,k1,m0,m1⟩:=qS (ns:=ns) (c0:=c0) Sf.S (w4 ns 1 17) [] [] none ↑13 ↑13 ↑13 ↑13;obtain⟨T0,i0,Q0⟩:=gD.kept ns Sf.S m0 k0;obtain⟨T1,i1,Q1⟩:=gD.kept ns Sf.S m1 k1;obtain⟨a0,ea0,nd0,h0⟩:=uT Sf Q0;obtain⟨a1,ea1,nd1,h1⟩:=uT Sf Q1;have few0:=Sf.Hv nd0 λx hx=>((h0 x).mp hx).1;obtain⟨D,eD,ndD,hD⟩:=Gx Sf (λx hx=>((h0 x).mp hx).1) (λx hx=>((h1 x).mp hx).1);have exm:∀k:Nat,∃y:Int,k<=10->bV [.int c0,.int (90+(k:Int))]=M.ok (.int y):=λk=>by
  by_cases hk:k<=10
  .obtain⟨y,ey,_⟩:=yR c0 (90+k) ⋯;rw[show ((90+k:Nat):Int)=90+(k:Int) by lia] at ey;exact⟨y,λ_=>ey⟩
  .exact⟨0,λh=>(hk h).elim⟩
 obtain⟨w,hw⟩:=abk.mp exm;have p0:=uH Sf.S m0 k0 (w:=λk=>1+w k%1000) λk _=>by show 1<=1+w k%1000/\1+w k%1000<=1000;lia
 have p1:=uH Sf.S m1 k1 (w:=λk=>2+(k:Int)) λk hk=>by show 1<=2+(k:Int)/\2+(k:Int)<=1000;lia
 generalize hz0:((V6 L0.length).map λk=>1+w k%1000)=z0 at p0;generalize Vd:((V6 L1.length).map λ(k:Nat)=>2+(k:Int))=z1 at p1;have V0:Vr ns f (cK z0 f L0) (GT f T0):=⟨_,_,_,_,_,rfl,Q0,λ_=>abH⟩
 have V1:Vr ns f (cK z1 f L1) (GT f T1):=⟨_,_,_,_,_,rfl,Q1,λ_=>abH⟩
 obtain⟨_,eb,_,rb,Lb,Tb,ib,Qb,rfl,hb⟩:=A3 V0 V1;obtain⟨_,eb',_,rb',Lb',Tb',ib',Qb',rfl,Vo⟩:=A3 V1 V0;obtain⟨_,et,_,rt,Lt,Tt,it,Qt,rfl,ht⟩:=zB V0 V1;obtain⟨_,et',_,rt',Lt',Tt',it',Qt',rfl,ht'⟩:=zB V1 V0;have VG:bF (bG 0) none (aj c7 (λ_=>M.ok (.int 1)) (aj cQ (ai bV (aa (ae 1) (aa (aj c7 (λ_=>M.ok (.int 90)) (ae 0)) ak))) (λ_=>M.ok (.int 1000)))) ((V6 L0.length).map λ(i:Nat)=>.int (i:Int)) [none,some (.sh (.int c0))]=M.ok ((V6 L0.length).map λ(k:Nat)=>.int (1+w k%1000)):=by
  refine fx (inj:=λ(i:Nat)=>PV.int (i:Int)) (V6 L0.length) λk hk=>?_;have:=W5.mp hk;dsimp? [hw k ⋯,aV (i:=w k) (j:=1000) ↑12]
 have UL:bF (bG 0) none (aj c7 (λ_=>M.ok (.int 2)) (ae 0)) ((V6 L1.length).map λ(i:Nat)=>.int (i:Int)) [none]=M.ok ((V6 L1.length).map λ(k:Nat)=>.int (2+(k:Int))):=fx (inj:=λ(i:Nat)=>PV.int (i:Int)) (V6 L1.length) λk _=>by dsimp? []
 have VH:bF (bG 0) (some (dm (aj (Gh false) (ae 0) (ae 1)))) (ae 0) (a0.map tI) [none,some (.sh (.jB (jt a1)))]=M.ok ((a0.filter λx=>decide (x∈a1)).map tI):=vW (inj:=tI) a0 (λx _=>by dsimp? [Gh,v5,Bool.false_xor]) λx _=>by dsimp? []
 have fl:(a0.filter λx=>decide (x∈a1)).length<=1000:=WE (X6 _ _) ⋯;have VI:∀x,x∈(a0.filter λx=>decide (x∈a1)) ↔ Kp f x/\GT f T0 (vf x)/\GT f T1 (vf x):=λx=>by
  rw[YG,decide_eq_true_eq,h0,h1];exact⟨λh=>⟨h.1.1,h.1.2,h.2.2⟩,λh=>⟨⟨h.1,h.2.1⟩,h.1,h.2.2⟩⟩
 have sb:=lJ Qb (D:=.lst ((a0.filter λx=>decide (x∈a1)).map tI)) rfl fl λx=>(VI x).trans (and_congr abH (hb _));have sb':=lJ Qb' (D:=.lst ((a0.filter λx=>decide (x∈a1)).map tI)) rfl fl λx=>(VI x).trans (and_congr abH (and_comm.trans (Vo _)));have U6:∀x,x∈D ↔ Kp f x/\Sm f (GT f T0) (GT f T1) (vf x):=λx=>by
  rw[hD,<- Fw V0 V1];constructor
  .rintro⟨a,ha,b,hb,e⟩;exact⟨a,(h0 a).mp ha,b,(h1 b).mp hb,e⟩
  .rintro⟨a,ha,b,hb,e⟩;exact⟨a,(h0 a).mpr ha,b,(h1 b).mpr hb,e⟩
 have comm:∀v,Sm f (GT f T0) (GT f T1) v ↔ Sm f (GT f T1) (GT f T0) v:=λv=>by
  constructor
  .rintro⟨a,b,ha,hb,e⟩;exact⟨b,a,hb,ha,λi hi=>by rw[Int.add_comm];exact e i hi⟩
  .rintro⟨a,b,ha,hb,e⟩;exact⟨b,a,hb,ha,λi hi=>by rw[Int.add_comm];exact e i hi⟩
 have fewD:=Sf.Hv ndD λx hx=>((U6 x).mp hx).1;have aD:LN (.jB (jt D))=M.ok (D.map tI):=by show M.ok (mY (jt D))=_;rw[uB]
 have st:=lJ Qt (D:=.jB (jt D)) aD ⋯ λx=>(U6 x).trans (and_congr abH (ht _));have R4:=lJ Qt' (D:=.jB (jt D)) aD ⋯ λx=>(U6 x).trans (and_congr abH ((comm _).trans (ht' _)));have inj:∀{a b:PV},M.ok a=M.ok b->a=b:=λh=>Except.ok.inj (V9 h);have lb:=lO (Q5:=f) (uG Qb);have lb':=lO (Q5:=f) (uG Qb');rw[<- inj (sb.symm.trans sb')] at lb';have lt:=lO (Q5:=f) (uG Qt);have lt':=lO (Q5:=f) (uG Qt');rw[<- inj (st.symm.trans R4)] at lt';have wy:=Ip Q0 Q1 (X:=nz f.length Tb) (λx hx=>by
  have:=Nr Qb hx;exact⟨this.1,(hb _).mpr this.2⟩) (uG Qb) eb
 have un:=By Sf V0 c0;have j0:aH (.lst [.lst (L0.map tI),.lst (L1.map tI)]) (.int 0)=M.ok (.lst (L0.map tI)):=bu (p:=.lst [.lst (L0.map tI),.lst (L1.map tI)]) (j:=0) rfl rfl;have j1:aH (.lst [.lst (L0.map tI),.lst (L1.map tI)]) (.int 1)=M.ok (.lst (L1.map tI)):=bu (p:=.lst [.lst (L0.map tI),.lst (L1.map tI)]) (j:=1) rfl rfl;have gw:(FO [some (.sh (.kC (ns.map PV.int))),some (.sh (.int c0)),some (.sh (lI f)),none,none,none,none,none,none,none,none,none]=true/\3<12/\5<12):=⟨rfl,by decide,by decide⟩
 have zl0:L0.length<=sizeLine:=aM ⋯;have zl1:L1.length<=sizeLine:=aM ⋯;have za:a0.length<=sizeLine:=aM ⋯;unfold uS Fg KA NG;dsimp? [ec0,es];rw[ar gw];dsimp? [oX,mi,Km,show Om (.kC (ns.map PV.int)) (some 1) (some 17)=M.ok (.lst ((w4 ns 1 17).map PV.int)) from GO ns 1 17];have e2':yS 4 (aj cQ (aj bQ (ae 4) λ_=>M.ok (.int 9)) λ_=>M.ok (.int 2)) (ai eh (aa (aj bQ (ae 4) λ_=>M.ok (.int 18)) (aa (ae 2) ak))) ((w4 ns 1 17).map PV.int) [some (.sh (.kC (ns.map PV.int))),some (.sh (.int c0)),some (.sh (lI f)),none,none,none,none,none,none,none,none,none] [] []=M.ok (eN ns f c0 y4,L0.map tI,L1.map tI):=e2;rw[e2',M.aE,Lu,M.aE];unfold eN
 by_cases h:c0%4=1
 .dsimp? [j0,j1,VW,dU (n:=(L0.length:Int)) ⋯ ⋯,dU (n:=(L1.length:Int)) ⋯ ⋯,Wq,WJ,ar zl0,ar zl1,VG,UL,p0,p1,ea0,ea1,keysOf,dk,ar za,VH,sb,eD,st,eb,eb',et,et',lb,lb',lt,lt',vZ,aV (i:=c0) (j:=4) ↑12,h,decide_true,un,wy]
 .dsimp? [j0,j1,VW,dU (n:=(L0.length:Int)) ⋯ ⋯,dU (n:=(L1.length:Int)) ⋯ ⋯,Wq,WJ,ar zl0,ar zl1,VG,UL,p0,p1,ea0,ea1,keysOf,dk,ar za,VH,sb,eD,st,eb,eb',et,et',lb,lb',lt,lt',vZ,aV (i:=c0) (j:=4) ↑12,h,decide_false,wy]
end yF
theorem PySem.Challenge.cw_dialvault_k51_whole_both_and_together_holds : PySem.Challenge.rw_dialvault_k51_whole_both_and_together.Holds :=
  yF.hold HD.said λns _ _ => yF.Mi ns
end