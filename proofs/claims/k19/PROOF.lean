import PyProof.Rows.All
import Wide.All
import OpenK.AllK
import Wide.FinOn
import Lean
import PyProof.EqAt
import PyProof.EqKinds
import PyProof.TupleCall
import KE.KSortAsk
import KE.KSortTup
import KE.KRevIter
import KE.LcSums
import KE.KDictSum
import KE.KDictList
import PyProof.AttrMissHeap
import PySem.Challenge.RW_gaze_k19_listens
set_option Elab.async false
set_option linter.all false
set_option maxRecDepth 100000
set_option maxHeartbeats 4000000
set_option exponentiation.threshold 2000
set_option compiler.extract_closed false
set_option hygiene false
open Option renaming some->O,none->J
theorem Y{α:Sort u}{a:α}:a=a:=rfl
local macro_rules|`(#[$a,*])=>`(⟨$a,*⟩)
open PySem.W renaming Frag->SV,findIn->TK,nsIn->Um,keepIn->Ux,mg_of->Uy,mg_none_of->UO,emptyDict->UY,kitOne->U7,instObj->Vy,makesIn->VA,callWith_K->VI,hideAll->VS,fnOf->V6,subIn->Wc,exmOne->Wi,methodCall_KW->Ws,kas_item->WL,typeIn->Xe,codeIn->Xf,plainGet->Xs,hideAll_get->XI,plainGet_of->XM,findCls->XU,of_hideAll->X8,lookIn->Yj,methodObj->Yr,hasDictIn->Ys,specialIn->Yt,clsIn->YJ,cellsFrom_some->YZ,fresh_of_stays->Y4,isFn->Y7,takerIn->Y9,kas_swaps_map->Zo,OpenLaw->Zq,hideAll_none->Zy,plainOver->Z9,handedIn->aay,kat_snds->aaI,kat_kind->aaJ,kat_item->aaP,KatTups->aa2,readsIn->aa3,exm_one->aa8,kas_rev->abc,KdlSrc->abk,kat_lt->abl,Looks->abH,WalkO->abL
open PySem renaming wpAny_bind->SW,Shared->SX,Value->SY,wpAny_pure->Tc,Addr->Td,Program->Tv,sizeLine->TB,mainGlobals->TN,wpAny->TX,starEach->TZ,wpAny_mono->Ue,Around->Uk,World->Ul,wpAny_newObj_type->UL,lookup_relabel_local->UM,Heap->UU,wpAny_truthy_bool->UW,bootBuiltins->Vb,compareOp->Vd,FuncData->Vg,Expr->Vh,sysModules->Vl,wpAny_typeNameOfWhole_keyiter->Vr,Stmt->Vt,foldedSetIterable->Vu,mem_of_lookup->VB,behindInMarks->VH,wpAny_missedRemoval_other->VP,wpAny_execs_nil->VT,wpAny_passesOwn->VU,wpAny_dictEntries->VX,wpAny_typeNameOf_keyiter->VY,sizeLine_eq->V8,wpAny_holding->V9,wpAny_callSpecial?_slot->Wa,wpAny_call_entry->Wh,backTo->Wm,wpAny_Call_Name_kw->Wo,tupleKind_room_in1->Wq,letOwnedTupleGo->Wr,PyData->Wu,binaryOp->Ww,compEnvC->Wz,DictEntry->WJ,wpAny_comprehension_free->WR,attributeBase->WX,keywordEach->W8,wpAny_field->Xa,sliceBounds->Xb,Scope->Xj,swapsWith->Xk,wpAny_isOneOf_keyiter->Xq,wpAny_rule->XF,tupleKind->XH,codeAny->XN,size_of_entries->XX,codeAny_mono->Yc,intKind->Yi,wpAny_fieldsOf->Ym,wpAny_setField->Yn,list_append->Yv,wpAny_Call_method->Yw,getItem->YF,wpAny_attempt->YQ,wpAny_execs_cons->YV,codeAny_compStart_list->Y2,wpAny_isTrue_Compare1->Y6,getMethod->Y8,codeAny_builtin->Zd,notedBy->Ze,wpAny_notOrdered_dict->Zh,wpAny_dictEpoch->Zi,wpAny_looks_onW->Zl,codeAny_handlers_test->Zm,assignEach->Zr,backToKw->Zs,NameKind->Zt,call_meets->Zv,SetTable->Zx,cLine->Zz,codeAny_call_builtin->ZA,wpAny_newFunctionEnv->ZC,atKey->ZM,Builtin->ZN,wpAny_handleBy_cons->ZQ,rawInt->ZV,IsPart->ZW,noteFrame->ZZ,wpAny_newList->Z2,Tok->Z4,wpAny_pyIter_list->Z8,BindsTo->aaa,Keyword->aab,wpAny_sequenceKey->aac,valueAt->aad,closureFor->aag,wpAny_pyIter_enum->aai,Within->aan,wpAny_typeOf->aap,seqIndex_neg->aar,call_meetsIn->aas,wpAny_landsW->aau,passOn->aav,checkBuiltinCall->aaB,wpAny_pyIter_zip->aaD,wpAny_Try_except->aaK,hashInt->aaR,standAt->aaS,seqIndex_of->aaT,callerA->aaW,wpAny_throw->aa4,setFlight->aa7,entryOfKey->abr,builtinsNs->abt,isTrue->abu,wpAny_Name->abv,Result->abw,wpAny_call->abx,typeIs_int->abz,typeOf->abA,CmpOp->abE,callWith->abF,Paired->abO,lastMarks->abQ,ClassData->abT,bindL->abZ,bindC->ab0,newList->ab2,pyNext->ab4,Model->ab5,Addr->ab6,Fin->ab7,Str->ab8
open Array renaming getElem_toList->S6,toList_append->S7,toList_push->S9,toList_reverse->Tp,length_toList->TU,getElem_mem->Uj,getElem?_eq_getElem->UB,mem_toList_iff->UD,getD_eq_getD_getElem?->UK,size_extract->Vo,getElem?_eq_some_iff->VF,perm_iff_toList_perm->WC,toList_extract->WE,append_assoc->WU,map_extract->Yz,getElem_extract->Zp,size_map->ZH,back?->ZS,map_reverse->aak,map_append->aaM,toList_map->aaO,map_push->abm,toList->abP
open List renaming getD_eq_getElem?_getD->S8,mem_append_right->Te,append_assoc->Tf,singleton_append->Ti,getElem?_eq_getElem->Tj,length_map->Tn,size_toArray->To,reverse_reverse->Tq,toList_toArray->Tr,nil_append->Ts,reverse_append->Tt,reverse_cons->Tw,mem_cons->Tz,cons_append->TC,append_nil->TF,reverse_nil->TH,map_cons->TJ,drop_zero->TM,mem_append->TQ,mem_append_left->TR,mem_singleton->TY,replicate->T5,length_append->T8,mem_map->Ua,length_take->Uc,getElem?_eq_some_iff->Ug,mem_of_getElem?->Ui,pairwise_append->Ur,drop_eq_getElem_cons->Ut,take_of_length_le->Uu,mem_cons_of_mem->Uw,length_cons->Uz,length_drop->UA,mem_of_mem_take->UE,pairwise_cons->UG,nodup_cons->UH,length_replicate->UI,length_singleton->UJ,map_append->UQ,pairwise_iff_getElem->UR,filter_cons->US,filterMap_cons->UT,find?_cons->U9,map_singleton->Va,all_eq_true->Vc,drop_eq_nil_of_le->Ve,toArray->Vj,take_append_drop->Vk,take_append_getElem->Vn,getElem?_cons_succ->Vs,getElem?_map->Vv,length_range->Vw,getElem_drop->Vx,replicate_succ->VC,getElem?_append_right->VE,drop_sublist->V0,pairwise_singleton->We,getElem?_eq_none->Wt,take_sublist->Wx,flatten_cons->Wy,getElem_take->WB,mem_of_mem_drop->WG,getElem?_append_left->WH,filter_eq_self->WN,map_map->WS,mem_filter->WV,mem_cons_self->WW,foldl_cons->WY,length_eq_zero_iff->W0,getElem?_set_self->W4,lookup->W6,not_mem_nil->Xt,any_eq_true->Xu,getElem?_set_ne->Xw,any_cons->Xz,map_congr_left->XW,mem_filterMap->Yb,getElem?_drop->Ye,getElem?_zip_eq_some->Yl,extract_eq_take_drop->Yo,take_succ->Yp,findIdx?_eq_none_iff->Yq,foldl_append->Yy,getElem?_replicate->YE,eraseIdx_cons_succ->YO,zipIdx_cons->YY,of_mem_zip->Za,length_filter_le->Zc,range_succ->Zg,perm_append_comm->Zn,foldl->Zu,mem_range->ZF,nodup_nil->ZG,filter_sublist->ZP,take_succ_cons->ZR,mem_replicate->Z5,push_toArray->aah,pairwise_map->aal,map_nil->aaq,map_id'->aax,drop_length->aaC,take_length->aaF,getElem_mem->aaG,ext_getElem->aaH,range'_succ->aaL,perm_middle->aaN,length_set->aaU,length_nil->aaX,length_zip->aaZ,forIn_cons->aba,range'->abb,take_zero->abn,drop_drop->abo,findIdx?->abN
open PySem.Heap renaming get?_push_of_some->Ta,lt_size->Tg,get?_push_size->TV,get?_update_other->Ud,get?_update_self->VJ,FlyingW->Xm,size_push->Yk
open Nat renaming le_refl->Th,lt_of_lt_of_le->Tu,le_trans->TL,ne_of_lt->T6,sub_zero->Ub,lt_of_le_of_lt->Uh,zero_le->Uq,zero_add->Uv,le_of_lt->UN,lt_irrefl->U8,lt_or_ge->VM,pow_le_pow_right->VR,add_zero->V7,min_eq_left->XQ,ne_of_gt->X9,add_sub_cancel->Yg,gcd_pos_of_pos_right->Yx,gcd->YM,max_eq_right->YX,le_succ->ZK,lt_succ_self->aaz,min_eq_right->aaE,two_pow_pos->aaY,le_of_eq->abR,pow_succ->abS,gcd_comm->abU,lt_trans->abV,log2_lt->ab1
open Bool renaming false_ne_true->T7,false_eq_true->T9,and_eq_true->Vq,eq_iff_iff->XJ,and_self->YL,eq_false_iff->aaf,or_eq_true->abd,not_true->abJ,and_true->abK
open PySem.Value renaming ref->Uo,bool->W5,isInt->XG,builtin->YI,type->Z7,isStrOf->abD,bytes->abX,float->abY
open PyProof.Rows renaming Keyed->Us,envOfC->UP,slot_tuple_getitem->Vf,seqObj->Vm,callWith_type1->Vz,tuples'->VZ,wpS_bind->WM,kindOf->Xx,listUpdate_at->XA,get?_update_seq->XY,elem'->X7,pendingOf->YA,AllBare->YD,IntsAre->YG,mirror_perm->YN,seqEpoch_at->YS,wpS_pure->YT,subscriptTail_builtinR->Y0,failedOf->Zw,entry_tuple_getitem->ZL,Constant_none->ZU,args_tuple_getitem->ZX,subscriptTail->ZY,arrOf->Z3,callWith_builtin1->aao,list_sort_plain->aa5,SortSt->aa9,mulOk_of_bits->abg,Subscript_->aby,gallopOf->abI
open PyProof.Rows.SortSt renaming mk'->UC
open False renaming elim->UX
open Ne renaming symm->UZ
open PySem.F renaming slot_dict_keyiterator_next->U6,slot_list_append->V4,type_list_append->V5,plainAttrs_list->Wg,args_dict_keyiterator_next_1->WK,entry_dict_keyiterator_next->WO,plainAttrs_dict->WZ,slot_dict_get->Xl,slot_dict_pop->Xo,args_list_append_2->Xy,entry_list_append->XO,excBase_ValueError->X6,slot_list_append->Yd,args_dict_get_2->YH,entry_dict_get->Y1,slot_dict_iter->Y3,type_dict_pop->Zk,slot_int_rmul->aaV
open ForInStep renaming yield->Vi
open Int renaming mul_one->Vp,emod_nonneg->VD,emod_lt_of_pos->VL,mul_fdiv_cancel_left->VW,le_refl->Wv,lt_of_mul_lt_mul_right->WD,zero_add->WT,toNat_natCast->W9,natAbs_mul->Xg,mul_le_mul_of_nonneg_right->Xn,mul_ediv_mul_of_pos_left->XB,mul_ne_zero->XS,mul_lt_mul_of_pos_right->XT,toNat_of_nonneg->X1,add_mul_ediv_right->Y5,mul_comm->Zf,mul_nonneg->ZI,mul_le_mul->ZJ,mul_pos->ZO,one_mul->ZT,natAbs_natCast->Z0,ofNat_dvd_left->Z1,mul_left_comm->aaj,le_of_lt->aat,ne_of_gt->aaw,neg_mul_neg->aa0,mul_eq_zero->aa1,natAbs_neg->abj,mul_assoc->abG,add_comm->abW,neg_mul->ab3
open PySem.Obj renaming mapSeq->VG,data_mapFields->W3,mapFields->YR,isFreed_of_fields->Zj,data_mapDictKeys->ZD,putSet->abC
open Classical renaming choose_spec->VN,choose->Xv
open PySem.Builtin.Slice renaming slicePlaces->VO,sliceAdjust->WI,sliceApplied->X3,slicePartIndex->aaQ,sliceFields->abi
open PySem.Calls renaming evalArgs_plain->VQ,callWith_builtin->Wk,spliced_cons->Wn,spliced_nil->W7,Name_function_global->X2
open PySem.Builtin.Tuple renaming tupleExact->VV,tupleItemsOf->X4,tupleIsExact->abh
open PySem.SetTable.below renaming go->V1
open PySem.SetTable.probe renaming go->V2
open PySem.PassesOwn renaming never->V3,leaving->YB
open PySem.Builtin.Int renaming intBits->Wb
open PySem.Heap.SameBut renaming update->Wd
open PySem.W.WData renaming weightAll->Wf,layable->Xr,weight->ZE,layableAll->abB
open PySem.PyData renaming eqv->Wj,canLayAll0->Xc,canLay0->Xi,depthAll->XR,eqvAll->YK
open Option renaming map->WA,isSome_iff_exists->Yu,isSome_map->aae,getD_none->aaA
open PySem.Builtin.List renaming listTooLong->WQ,listExtendWith->aa6,listFitsIndex->abf
open PySem.SetTable renaming insertAt->Xd,probeStart->XZ,has->Yh,fill->YU,freeSlot->aam,runEnd->abe,probe->abp,turns->abq,slot->abM
open True renaming intro->XD
open Sum renaming inl->YC,inr->Z6
open PySem.IsL renaming update->YW
open PySem.Str renaming ofString->Zb
namespace L2
open PySem PySem.Spec PyProof.Rows
abbrev Key:=Sum Int Str
noncomputable def mq:Key->SY->Bool
 | .inl k,v=>XG k v
 | .inr x,v=>abD x v
noncomputable def GQ(w:Ul):Key->Int
 | .inl k=>aaR k
 | .inr x=>hashStr w x
theorem iY:∀ {k:Key} {v:SY},mq k v=true->(∃ i t,k=YC i/\v=Value.int i t)∨(∃ x t,k=Z6 x/\v=Value.str x t)
 | .inl i,v,h=>by obtain⟨t,e⟩:=Value.isInt_shape (k:=i) (v:=v) h;exact .inl #[i,t,Y,e]
 | .inr x,v,h=>by obtain⟨t,e⟩:=Value.isStrOf_shape (x:=x) (v:=v) h;exact .inr #[x,t,Y,e]
theorem GR(i:Int)(t:Tok):mq (.inl i) (.int i t)=true:=by simp[mq,XG]
theorem GS(x:Str)(t:Tok):mq (.inr x) (.str x t)=true:=by simp[mq,abD]
theorem GU(a b:Int):decide ((YC a:Key)=YC b)=(a == b):=by
 by_cases e:a=b
 .subst e;simp
 .have h:¬ (YC a:Key)=YC b:=λq=>e (Sum.inl.inj q);rw[decide_eq_false h];exact (beq_eq_false_iff_ne.mpr e).symm
theorem GV(a b:Str):decide ((Z6 a:Key)=Z6 b)=decide (a=b):=by
 by_cases e:a=b
 .subst e;simp
 .have h:¬ (Z6 a:Key)=Z6 b:=λq=>e (Sum.inr.inj q);rw[decide_eq_false h,decide_eq_false e]
theorem GW(a:Int)(b:Str):decide ((YC a:Key)=Z6 b)=false:=decide_eq_false (λq=>nomatch q)
theorem GX(a:Str)(b:Int):decide ((Z6 a:Key)=YC b)=false:=decide_eq_false (λq=>nomatch q)
noncomputable def dt(prog:Tv)(w:Ul):PySem.KeyKind prog w Key where
 is:=mq
 hash:=GQ w
 inj:=λv a b ha hb=>by
  rcases iY ha with ⟨i,t,rfl,rfl⟩|⟨x,t,rfl,rfl⟩
  .rcases iY hb with ⟨j,u,rfl,e⟩|⟨y,u,rfl,e⟩
   .injection e with e1 _;rw[e1]
   .exact nomatch e
  .rcases iY hb with ⟨j,u,rfl,e⟩|⟨y,u,rfl,e⟩
   .exact nomatch e
   .injection e with e1 _;rw[e1]
 byValue:=λk v h=>by
  rcases iY h with ⟨i,t,rfl,rfl⟩|⟨x,t,rfl,rfl⟩<;>rfl
 pyHash:=λhv h=>by
  rcases iY hv with ⟨i,t,rfl,rfl⟩|⟨x,t,rfl,rfl⟩
  .exact wpAny_pyHash_int h
  .exact wpAny_pyHash_str h
 eqBool:=λhu hv h=>by
  rcases iY hu with ⟨i,t,rfl,rfl⟩|⟨x,t,rfl,rfl⟩
  .rcases iY hv with ⟨j,u,rfl,rfl⟩|⟨y,u,rfl,rfl⟩
   .rw[GU] at h;exact wpAny_eqBool_int h
   .rw[GW] at h;exact SeqAt.EqAt.int_str i t y u _ _ _ _ h
  .rcases iY hv with ⟨j,u,rfl,rfl⟩|⟨y,u,rfl,rfl⟩
   .rw[GX] at h;exact SeqAt.EqAt.str_int x t j u _ _ _ _ h
   .rw[GV] at h;exact wpAny_eqBool_str h
 «strs»:=λk x t v h=>by
  rcases iY h with ⟨i,u,rfl,e⟩|⟨y,u,rfl,e⟩
  .exact nomatch e
  .injection e with e1 _;subst e1;cases v<;>rfl
theorem GY(prog:Tv)(w:Ul)(i:Int)(t:Tok):(dt prog w).is (.inl i) (.int i t)=true:=GR i t
theorem GZ(prog:Tv)(w:Ul)(x:Str)(t:Tok):(dt prog w).is (.inr x) (.str x t)=true:=GS x t
inductive V where
 | non|bl (b:Bool)|int (i:Int)|str (x:Str)|byt (b:Array UInt8)|flt (b:UInt64)|ref (a:Td)|ty (n:String)
 deriving DecidableEq
def RelV:V->SY->Prop
 | .non,u=>u=Value.none
 | .bl b,u=>u=W5 b
 | .int i,u=>∃ t,u=Value.int i t
 | .str x,u=>∃ t,u=Value.str x t
 | .byt b,u=>∃ t,u=abX b t
 | .flt b,u=>∃ t,u=abY b t
 | .ref a,u=>u=Uo a
 | .ty n,u=>u=Z7 n
abbrev Vals:List V->List SY->Prop:=abO RelV
theorem Vals.length{xs:List V}{us:List SY}(r:Vals xs us):xs.length=us.length:=Paired.length r
theorem Vals.get:∀ {xs:List V} {us:List SY} {i:Nat} {x:V},Vals xs us->xs[i]?=O x->∃ u,us[i]?=O u/\RelV x u
 | _,_,_,_,.nil,e=>by simp at e
 | _,_,0,_,.cons r _,e=>by simp at e;subst e;exact#[_,Y,r]
 | _,_,i+1,x,.cons _ t,e=>by obtain⟨u,h1,h2⟩:=Vals.get (i:=i) (x:=x) t (by simpa using e);exact#[u,by simpa using h1,h2]
theorem Vals.set{x:V}{u:SY}(r:RelV x u):∀ {xs:List V} {us:List SY} (i:Nat),Vals xs us->Vals (xs.set i x) (us.set i u)
 | _,_,_,.nil=>.nil
 | _,_,0,.cons _ t=>.cons r t
 | _,_,i+1,.cons q t=>.cons q (Vals.set r i t)
theorem Vals.append:∀ {xs ys:List V} {us ws:List SY},Vals xs us->Vals ys ws->Vals (xs++ys) (us++ws):=by
 intro xs ys us ws h s
 induction h with
 | nil=>exact s
 | cons r t ih=>exact .cons r ih
theorem Vals.take:∀ {xs:List V} {us:List SY} (n:Nat),Vals xs us->Vals (xs.take n) (us.take n)
 | _,_,0,_=>.nil
 | _,_,_+1,.nil=>.nil
 | _,_,n+1,.cons r t=>.cons r (Vals.take n t)
theorem Vals.drop:∀ {xs:List V} {us:List SY} (n:Nat),Vals xs us->Vals (xs.drop n) (us.drop n)
 | _,_,0,r=>r
 | _,_,_+1,.nil=>.nil
 | _,_,n+1,.cons _ t=>Vals.drop n t
def dh:Option V->Option SY->Prop
 | some v,O u=>RelV v u
 | none,J=>True
 | _,_=>False
def KV{κ:Type}:List (κ × V)->List (κ × SY)->Prop:=abO λ(p:κ × V) (q:κ × SY)=>p.1=q.1/\RelV p.2 q.2
noncomputable def kV:Key->V
 | .inl i=>.int i
 | .inr x=>.str x
inductive HO where
 | lst (xs:List V)
 | tup (xs:List V)
 | dK (kvs:List (Key × V))|dT (kvs:List (List Key × V))
 | set (S:Int->Bool) (n:Nat)
 | ins (C dx:Td) (fs:List (Str × V))
 | own (x:Td)
 | xd (fs:List (Str × V))
 | met (f x:Td)
 | kE (lo hi:Int)
 | dw (o:Obj) (u:HO)
 | tbl (ps:Array SY)
 | ext (φ:UU->Prop)
abbrev Hp:=Td->Option HO
noncomputable def upd(H:Hp)(a:Td)(o:HO):Hp:=λb=>if b=a then O o else H b
theorem ao{H:Hp}{a:Td}{o:HO}:upd H a o a=O o:=by unfold upd;rw[if_pos Y]
theorem az{H:Hp}{a b:Td}{o:HO}(h:b≠a):upd H a o b=H b:=by unfold upd;rw[if_neg h]
theorem ix{H:Hp}{a:Td}{o u:HO}:upd (upd H a o) a u=upd H a u:=by funext b;unfold upd;split<;>rfl
theorem mx{H:Hp}{a b:Td}{o u:HO}(h:H a=O o)(h':H b=O u)(d:o≠u):a≠b:=by intro e;subst e;rw[h] at h';exact d (Option.some.inj h')
theorem jG{H:Hp}{a b:Td}{o:HO}(h:H a=O o)(h':H b=J):a≠b:=by intro e;subst e;rw[h] at h';cases h'
section
variable(P:Tv)(w:Ul)
def bH(H:Hp)(h:UU)(a:Td):HO->Prop
 | .lst xs=>xs.length<=TB/\∃ (af:List SY) (n:Nat),Vals xs af/\h.get? a=O { cls:=.type "list",data:=.seq af.toArray n }
 | .tup xs=>xs.length<=TB/\∃ af:List SY,Vals xs af/\IsTup h a af.toArray
 | .dK kvs=>kvs.length<=TB/\(a == Vl)=false/\∃ vs,KV kvs vs/\h.DictOf (dt P w) a vs
 | .dT kvs=>kvs.length<=TB/\(a == Vl)=false/\∃ xs:List (List Key × Td × SY),
  abO (λ(p:List Key × V) (q:List Key × Td × SY)=>p.1=q.1/\H q.2.1=O (.tup (p.1.map kV))/\RelV p.2 q.2.2) kvs xs /\
  ∃ o es ep,h.get? a=O o/\o.ExactDict/\o.data = .dict es ep/\es.toList=xs.map (abr (XH (dt P w)))/\(xs.map (·.1)).Nodup
 | .set S n=>h.SetOf (Yi P w) a S n
 | .ins C dx fs=>H dx=O (.own a)/\fs.length<=1000/\dx≠a/\h.get? a=O (Vy C dx) /\
  ∃ mA,h.Ns1 dx mA/\(∀ f,dh (fs.lookup f) (mA f))/\aan mA (fs.map (·.1))
 | .own _=>∃ o,h.get? a=O o
 | .xd fs=>∃ mA,h.Ns1 a mA/\∀ f,dh (fs.lookup f) (mA f)
 | .kE lo hi=>∃ t u v,h.get? a=O { cls:=.type "range",data:=.fields (List.toArray [.int lo t,.int hi u,.int 1 v]) }
 | .dw o u=>h.get? a=O o/\bH H h a u
 | .tbl ps=>h.get? a=O { cls:=.none,data:=.fields ps }
 | .met f x=>h.get? a=O (Yr (.ref f) (.ref x))
 | .ext φ=>φ h/\(∃ o,h.get? a=O o)/\∀ h1 h2:UU,φ h1->(∀ o,h1.get? a=O o->h2.get? a=O o)->φ h2
def bu(H:Hp)(h:UU):Prop:=∀ a o,H a=O o->bH P w H h a o
end
section
variable{P:Tv}{w:Ul}{H H':Hp}{h h':UU}{a:Td}{o:HO}
theorem bH.lt(x:bH P w H h a o):a<h.objs.size:=by
 cases o with
 | lst xs=>obtain⟨z,z,z,z,e⟩:=x;exact Tg e
 | tup xs=>obtain⟨z,z,z,p⟩:=x;exact p.lt
 | dK kvs=>obtain⟨z,z,z,z,o,z,z,e,z⟩:=x;exact Tg e
 | dT kvs=>obtain⟨z,z,z,z,o,z,z,e,z⟩:=x;exact Tg e
 | set S n=>obtain⟨o,z,z,z,e,z⟩:=x;exact Tg e
 | ins C dx fs=>obtain⟨z,z,z,e,z⟩:=x;exact Tg e
 | own y=>obtain⟨z,e⟩:=x;exact Tg e
 | xd fs=>obtain⟨z,⟨z,z,z,e,z⟩,z⟩:=x;exact Tg e
 | kE lo hi=>obtain⟨z,z,z,e⟩:=x;exact Tg e
 | dw ob u=>obtain⟨e,z⟩:=x;exact Tg e
 | tbl ps=>exact Tg (show h.get? a=O _ from x)
 | met f y=>exact Tg (show h.get? a=O _ from x)
 | ext φ=>obtain⟨z,⟨z,e⟩,z⟩:=x;exact Tg e
theorem Paired.zT{α β:Type}{F G9q:α->β->Prop}:∀ {l₁:List α} {l₂:List β},abO F l₁ l₂->(∀ a b,F a b->G9q a b)->abO G9q l₁ l₂:=by
 intro y y h f
 induction h with
 | nil=>exact .nil
 | cons r t ih=>exact .cons (f _ _ r) ih
theorem bH.fU(x:bH P w H h a o)(k:∀ b u,(b=a∨H b=O (.own a))->h.get? b=O u->h'.get? b=O u)
 (ho:∀ b,H b=O (.own a)->H' b=O (.own a)) (ht:∀ b xs,H b=O (.tup xs)->H' b=O (.tup xs)):bH P w H' h' a o:=by
 induction o with
 | lst xs=>obtain⟨z,af,n,r,e⟩:=x;exact#[z,af,n,r,k _ _ (.inl rfl) e]
 | tup xs=>obtain⟨z,af,r,ob,e,c⟩:=x;exact#[z,af,r,ob,k _ _ (.inl rfl) e,c]
 | dK kvs=>obtain⟨z,y,vs,r,ob,es,ep,e,c⟩:=x;exact#[z,y,vs,r,ob,es,ep,k _ _ (.inl rfl) e,c]
 | dT kvs =>
  obtain⟨z,y,xs,r,ob,es,ep,e,c⟩:=x;exact#[z,y,xs,Paired.zT r λp q z=>#[z.1,ht _ _ z.2.1,z.2.2],ob,es,ep,k _ _ (.inl rfl) e,c]
 | set S n=>obtain⟨ob,es,ep,t,e,c⟩:=x;exact#[ob,es,ep,t,k _ _ (.inl rfl) e,c]
 | ins C dx fs =>
  obtain⟨d,z,ne,e,mA,⟨od,es,ep,e2,c⟩,r⟩:=x;exact#[ho _ d,z,ne,k _ _ (.inl rfl) e,mA,#[od,es,ep,k _ _ (.inr d) e2,c],r]
 | own y=>obtain⟨ob,e⟩:=x;exact#[ob,k _ _ (.inl rfl) e]
 | xd fs=>obtain⟨mA,⟨od,es,ep,e,c⟩,r⟩:=x;exact#[mA,#[od,es,ep,k _ _ (.inl rfl) e,c],r]
 | kE lo hi=>obtain⟨t,u,v,e⟩:=x;exact#[t,u,v,k _ _ (.inl rfl) e]
 | dw ob u ih=>obtain⟨e,q⟩:=x;exact#[k _ _ (.inl rfl) e,ih q]
 | tbl ps =>
  have e:h.get? a=O { cls:=.none,data:=.fields ps }:=x;show h'.get? a=O { cls:=.none,data:=.fields ps };exact k a _ (.inl rfl) e
 | met f y =>
  have e:h.get? a=O (Yr (.ref f) (.ref y)):=x;show h'.get? a=O (Yr (.ref f) (.ref y));exact k a _ (.inl rfl) e
 | ext φ=>obtain⟨p,⟨o,e⟩,st⟩:=x;exact#[st _ _ p λo q=>k _ _ (.inl rfl) q,#[o,k _ _ (.inl rfl) e],st]
theorem bu.lt(x:bu P w H h)(e:H a=O o):a<h.objs.size:=(x a o e).lt
theorem bu.fresh(x:bu P w H h)(e:h.objs.size<=a):H a=J:=by
 cases q:H a with
 | none=>rfl
 | some u=>exact absurd (Tu (x.lt q) e) (U8 _)
theorem bu.kept(x:bu P w H h)(k:∀ b u,h.get? b=O u->h'.get? b=O u):bu P w H h':=λa o e =>
 (x a o e).fU (λb u y q=>k b u q) (λy q=>q) λy y q=>q
theorem bu.laid(x:bu P w H h)(k:∀ b u,h.get? b=O u->h'.get? b=O u)(hp:h.objs.size<=a)(new:bH P w (upd H a o) h' a o):bu P w (upd H a o) h':=λb u e=>by
 have hn:=x.fresh hp;by_cases hb:b=a
 .subst hb;rw[ao] at e;cases e;exact new
 .rw[az hb] at e;exact (x b u e).fU (λc v y q=>k c v q) (λc q=>by rw[az (jG q hn)];exact q) λc xs q=>by rw[az (jG q hn)];exact q
end
def Rd(H:Hp)(a:Td)(u:HO):Prop:=H a=O u ∨ ∃ o,H a=O (.dw o u)
theorem Rd.of{H:Hp}{a:Td}{u:HO}(h:H a=O u):Rd H a u:=.inl h
theorem Rd.ok{P:Tv}{w:Ul}{H:Hp}{h:UU}{a:Td}{u:HO}(r:Rd H a u)(x:bu P w H h):bH P w H h a u:=by
 rcases r with r|⟨o,r⟩
 .exact x a u r
 .obtain⟨y,q⟩:=x a _ r;exact q
def n9:Option HO->Prop
 | some (.lst _)=>True
 | some (.dK _)=>True
 | some (.dT _)=>True
 | some (.set _ _)=>True
 | some (.ins _ _ _)=>True
 | some (.ext _)=>True
 | _=>False
section
variable{P:Tv}{w:Ul}{H:Hp}{h h':UU}{x e:Td}{o':HO}
theorem bu.write(ok:bu P w H h)(mu:n9 (H x))(he:e=x∨H e=O (.own x))(k:∀ b u,b≠e->h.get? b=O u->h'.get? b=O u)(my:∃ u,h'.get? e=O u)
 (new:bH P w (upd H x o') h' x o'):bu P w (upd H x o') h':=λb u q=>by
 have zU:∀ c y,H c=O (.own y)->c≠x:=λc y r z=>by subst z;rw[r] at mu;exact mu
 have G0:∀ c xs,H c=O (.tup xs)->c≠x:=λc xs r z=>by subst z;rw[r] at mu;exact mu
 by_cases hb:b=x
 .subst hb;rw[ao] at q;cases q;exact new
 .rw[az hb] at q;by_cases hbe:b=e
  .have q':H b=O (.own x):=by
    rcases he with z|z
    .exact absurd (hbe.trans z) hb
    .rw[hbe];exact z
   rw[q] at q';cases q';obtain⟨v,hv⟩:=my;exact#[v,by rw[hbe];exact hv]
  .refine (ok b u q).fU (λc v hc r=>k c v ?_ r) (λc r=>by rw[az (zU c b r)];exact r) λc xs r=>by rw[az (G0 c xs r)];exact r
   rcases hc with rfl|hc
   .exact hbe
   .rintro rfl;rcases he with z|z
    .exact zU c b hc z
    .rw[hc] at z;cases z;exact hb rfl
end
structure Un(fs ex:List Td)(H H':Hp)(h h':UU):Prop where
 keep:∀ b o,h.get? b=O o->H b=J->b∉fs->b∉ex->h'.get? b=O o
 slot:∀ b o,h.get? b=O o->H b=J->b∈fs->b∉ex->∃ sl,h'.get? b=O { o with slots:=sl }
 free:∀ b o,h.get? b=O o->H b=J->b∉ex->H' b=J
 there:∀ b o,h.get? b=O o->b∉ex->∃ o',h'.get? b=O o'
 b9:∀ b xs,H b=O (.tup xs)->H' b=O (.tup xs)
 cg:∀ b o u,H b=O (.dw o u)->H' b=O (.dw o u)
 cv:∀ b ps,H b=O (.tbl ps)->∃ more,H' b=O (.tbl (ps++more))
section
variable{fs G1 ex Sj:List Td}{H H1 H2:Hp}{h h1 h2 h':UU}{a x e:Td}{o:HO}
theorem Un.any(u:Un fs ex H H1 h h1){b:Td}{ob:Obj}(q:h.get? b=O ob)(n:H b=J)(hx:b∉ex):∃ sl,h1.get? b=O { ob with slots:=sl }:=by
 by_cases hb:b∈fs
 .exact u.slot b ob q n hb hx
 .exact#[ob.slots,u.keep b ob q n hb hx]
theorem Un.trans(a:Un fs ex H H1 h h1)(b:Un fs ex H1 H2 h1 h2):Un fs ex H H2 h h2 where
 keep:=λc ob q n hc hx=>b.keep c ob (a.keep c ob q n hc hx) (a.free c ob q n hx) hc hx
 slot:=λc ob q n hc hx=>by obtain⟨sl,e1⟩:=a.slot c ob q n hc hx;obtain⟨di,e2⟩:=b.slot c _ e1 (a.free c ob q n hx) hc hx;exact#[di,e2]
 free:=λc ob q n hx=>by obtain⟨o',e1⟩:=a.there c ob q hx;exact b.free c o' e1 (a.free c ob q n hx) hx
 there:=λc ob q hx=>by obtain⟨o',e1⟩:=a.there c ob q hx;exact b.there c o' e1 hx
 b9:=λc xs q=>b.b9 c xs (a.b9 c xs q)
 cg:=λc ob xs q=>b.cg c ob xs (a.cg c ob xs q)
 cv:=λc ps q=>by obtain⟨m1,e1⟩:=a.cv c ps q;obtain⟨m2,e2⟩:=b.cv c _ e1;exact#[m1++m2,by rw[e2,WU]]
theorem Un.kept(k:∀ b u,h.get? b=O u->h'.get? b=O u):Un fs ex H H h h' :=
 #[λb ob q y y y=>k b ob q,λb ob q y y y=>#[ob.slots,k b ob q],λy y y n y=>n,λb ob q y=>#[ob,k b ob q],λy y q=>q,λy y y q=>q,λy ps q=>#[(List.toArray []),by rw[q];simp]]
theorem Un.refl:Un fs ex H H h h:=Un.kept λy y q=>q
theorem Un.laid(k:∀ b u,h.get? b=O u->h'.get? b=O u)(hp:h.objs.size<=a)(hn:H a=J):Un fs ex H (upd H a o) h h' where
 keep:=λb u q y y y=>k b u q
 slot:=λb u q y y y=>#[u.slots,k b u q]
 free:=λb u q n y=>by rw[az (T6 (Tu (Tg q) hp))];exact n
 there:=λb u q y=>#[u,k b u q]
 b9:=λb xs q=>by rw[az (jG q hn)];exact q
 cg:=λb u xs q=>by rw[az (jG q hn)];exact q
 cv:=λb ps q=>#[(List.toArray []),by rw[az (jG q hn),q];simp]
theorem Un.write(mu:n9 (H x))(he:e=x∨H e=O (.own x))(k:∀ b u,b≠e->h.get? b=O u->h'.get? b=O u)(my:∃ u,h'.get? e=O u):Un fs ex H (upd H x o) h h':=by
 have hx:∀ b,H b=J->b≠x:=λb n z=>by subst z;rw[n] at mu;exact mu
 have hb:∀ b,H b=J->b≠e:=λb n z=>by
  subst z;rcases he with r|r
  .exact hx b n r
  .rw[n] at r;cases r
 have hm:∀ b u,H b=O u->¬ n9 (O u)->b≠x:=λb u q nm z=>by subst z;rw[q] at mu;exact nm mu
 refine#[λb u q n y y=>k b u (hb b n) q,λb u q n y y=>#[u.slots,k b u (hb b n) q],λb u q n y=>by rw[az (hx b n)];exact n,λb u q y=>?_,
  λb xs q=>by rw[az (hm b _ q λz=>z)];exact q,λb u xs q=>by rw[az (hm b _ q λz=>z)];exact q,λb ps q=>#[(List.toArray []),by rw[az (hm b _ q λz=>z),q];simp]]
 by_cases hbe:b=e
 .subst hbe;exact my
 .exact#[u,k b u hbe q]
end
noncomputable def qV(h:UU)(H:Hp):List Td:=(List.range h.objs.size).filter λa=>(H a).isSome
noncomputable def iZ(h:UU)(H:Hp):UU:=VS h (qV h H)
theorem G2(h:UU)(H:Hp):(iZ h H).objs.size=h.objs.size:=PySem.W.hideAll_size _ _
theorem G3{h:UU}{H:Hp}{b:Td}{o:Obj}(e:h.get? b=O o)(n:H b=J):(iZ h H).get? b=O o :=
 XI _ e λhm=>by have q:(H b).isSome=true:=(WV.mp hm).2;rw[n] at q;simp at q
theorem G4{h:UU}{H:Hp}{b:Td}{o:Obj}(e:(iZ h H).get? b=O o):h.get? b=O o/\H b=J:=by
 have e':h.get? b=O o:=X8 (qV h H) e;refine#[e',?_];cases q:H b with
 | none=>rfl
 | some x =>
  have hm:b∈qV h H:=WV.mpr #[ZF.mpr (Tg e'),by simp[q]];have z:(iZ h H).get? b=J:=Zy (qV h H) hm;rw[z] at e;cases e
noncomputable def G5(g h:UU)(L:Td):List (Td × Obj):=(List.range h.objs.size).filterMap λa=>if a=L∨(g.get? a).isSome=true then J else (h.get? a).map λo=>(a,o)
noncomputable def rest(g h:UU)(L d:Td):List (Td × Obj):=(G5 g h L).filter λp=>decide (p.1≠d)
structure Mod(K:SV)(mg:Str->Option SY)(base:UU):Prop where
 kin:K.In base
 glob:base.Ns TN mg
 blt:∃ mb,base.Ns abt mb/\∀ x:Str,x ≠ "__name__" -> mb x=Vb x
 nolimit:base.NoLimit
structure Cx where
 prog:Tv
 w:Ul
 K:SV
 mg:Str->Option SY
 base:UU
 A:Uk
 N:List Str
 s₀:SX
 H₀:Hp
 env:Env
 outer:List Env
 stack:List Env
 ex:List Td
 fn:Str->Bool
 calm:Bool
 pn:List (Td × Obj)
 xe:SY->SX->Prop
noncomputable def ay(l:List Env):List Td:=l.filterMap (·.frame)
noncomputable abbrev Cx.fs(X:Cx):List Td:=ay X.outer
def qW(sc:Xj)(x:Str):Prop:=sc.names.lookup x=O .local∨sc.names.lookup x=O .cell∨sc.names.lookup x=O .free
def Loc(sc:Xj)(x:Str):Prop:=sc.names.lookup x=O .local∨sc.names.lookup x=O .cell
def Look(env:Env)(h:UU)(m:Str->Option SY)(x:Str)(u:SY):Prop :=
 (env.kindOf x=O .local/\m x=O u)∨((env.kindOf x=O .cell∨env.kindOf x=O .free)/\∃ c,env.cells.lookup x=O c/\h.IsCell c (O u))
structure Cx.Ok(X:Cx):Prop where
 mod:Mod X.K X.mg X.base
 kind:X.env.scope.kind = .function
 glob:X.env.globals=TN
 blt:X.env.builtins=abt
 above:X.s₀.heap.objs.size<=X.env.locals
 inj:∀ x y c,X.env.cells.lookup x=O c->X.env.cells.lookup y=O c->x=y
 has:∀ x,(X.env.kindOf x=O .cell∨X.env.kindOf x=O .free)->∃ c,X.env.cells.lookup x=O c
 cab:∀ x c,X.fn x=true->X.env.cells.lookup x=O c->X.s₀.heap.objs.size<=c
 hd:X.calm=true->X.A.handled=J
 frames:X.A.frames=O X.stack
 eR:X.stack=X.outer∨(X.stack=X.env::X.outer/\X.env.frame=O X.env.locals)
 exf:∀ b∈X.ex,b≠X.env.locals/\∀ x c,X.env.cells.lookup x=O c->c≠b
 bs:∀ b o,X.base.get? b=O o->X.s₀.heap.get? b=O o/\X.H₀ b=J
 bsz:X.base.objs.size<=X.s₀.heap.objs.size
 noex:∀ b o,X.base.get? b=O o->b∉X.ex
 exfs:∀ b∈X.ex,b∉X.fs
 dZ:X.s₀.heap.FunFrames X.base X.outer
 frf:∀ b∈X.fs,X.H₀ b=J
structure Inv(X:Cx)(pins:List (Td × Obj))(G:List (Option V))(H:Hp)(s:SX):Prop where
 ok:X.Ok
 os:s.os=X.s₀.os
 bare:YD s.gens
 base:Un X.fs X.ex X.H₀ H X.s₀.heap s.heap
 loc:∃ m,s.heap.Ns X.env.locals m/\∀ (i:Nat) (x:Str) (v:V),X.N[i]?=O x->G[i]?=O (O v)->qW X.env.scope x->∃ u,RelV v u/\Look X.env s.heap m x u
 cell:∀ x c,X.env.cells.lookup x=O c->∃ v,s.heap.IsCell c v
 free:H X.env.locals=J
 dz:∀ x c,X.env.cells.lookup x=O c->H c=J
 pin:∀ p∈X.pn++pins,s.heap.get? p.1=O p.2/\H p.1=J/\p.1≠X.env.locals/\p.1∉X.fs/\∀ v,p.2.data ≠ .cell v
 ah:bu X.prog X.w H s.heap
 len:G.length=X.N.length
section
variable{X:Cx}{pins:List (Td × Obj)}{G:List (Option V)}{H H':Hp}{s:SX}{h':UU}
theorem Cx.Ok.ft(ok:X.Ok){b:Td}{o:Obj}(e:X.base.get? b=O o):b∉X.fs:=λhb=>by have:=(ok.dZ.mem hb).1;rw[e] at this;cases this
theorem Inv.bs(I:Inv X pins G H s):∀ b o,X.base.get? b=O o->s.heap.get? b=O o/\H b=J:=λb o e =>
 #[I.base.keep b o (I.ok.bs b o e).1 (I.ok.bs b o e).2 (I.ok.ft e) (I.ok.noex b o e),I.base.free b o (I.ok.bs b o e).1 (I.ok.bs b o e).2 (I.ok.noex b o e)]
theorem Inv.bk(I:Inv X pins G H s):∀ b o,X.base.get? b=O o->s.heap.get? b=O o:=λb o e=>(I.bs b o e).1
theorem Inv.mod(I:Inv X pins G H s):Mod X.K X.mg X.base:=I.ok.mod
theorem Inv.cw(I:Inv X pins G H s):X.K.In s.heap:=I.ok.mod.kin.keeps I.bk
theorem Inv.fr(I:Inv X pins G H s):∃ m,Fr X.base X.env.locals s.heap m :=
 let ⟨m,hn,_⟩:=I.loc
 #[m,hn,I.bk,TL I.ok.bsz I.ok.above]
theorem Inv.lt(I:Inv X pins G H s):X.env.locals<s.heap.objs.size:=let ⟨_,hn,_⟩:=I.loc;hn.lt
theorem Inv.sz(I:Inv X pins G H s):X.s₀.heap.objs.size<=s.heap.objs.size:=TL I.ok.above (UN I.lt)
theorem Inv.qX(I:Inv X pins G H s){a:Td}(h:s.heap.objs.size<=a):a∉X.fs:=λhb=>by obtain⟨y,o,ho,y⟩:=I.ok.dZ.mem hb;exact absurd (Tu (Tg ho) (TL I.sz h)) (U8 _)
theorem Inv.gA(I:Inv X pins G H s):∀ x c,X.env.cells.lookup x=O c->c≠X.env.locals:=λx c e z=>by obtain⟨v,o,ho,hd⟩:=I.cell x c e;obtain⟨m,⟨o',es,ep,bI,og,y⟩,y⟩:=I.loc;rw[z,bI] at ho;cases ho;rw[og] at hd;cases hd
theorem Inv.dZ(I:Inv X pins G H s):s.heap.FunFrames X.base X.outer:=by
 have all:∀ (l:List Env),(∀ b∈ay l,b∈X.fs)->X.s₀.heap.FunFrames X.base l->s.heap.FunFrames X.base l:=by
  intro l
  induction l with
  | nil=>intro y y;trivial
  | cons env r ih =>
   intro hs hl;obtain⟨hk,⟨L,o,hf,hn,ho,hd⟩,hr⟩:=hl;have hL:L∈X.fs:=hs L (by unfold ay;rw[UT,hf];exact WW);obtain⟨sl,e⟩:=I.base.slot L o ho (I.ok.frf L hL) hL λz=>I.ok.exfs L z hL;exact#[hk,#[L,_,hf,hn,e,hd],ih (λb hb=>hs b (by unfold ay;rw[UT,hf];exact Uw _ hb)) hr]
 exact all X.outer (λy hb=>hb) I.ok.dZ
theorem Inv.stack(I:Inv X pins G H s):s.heap.FunFrames X.base X.stack:=by
 rcases I.ok.eR with e|⟨e,hf⟩
 .rw[e];exact I.dZ
 .rw[e];obtain⟨m,hn,y⟩:=I.loc;refine .cons (by rw[I.ok.kind];decide) hf hn ?_ I.dZ;exact Heap.get?_none_of_le (TL I.ok.bsz I.ok.above)
theorem Inv.iz(I:Inv X pins G H s):∀ b∈ay X.stack,b∈X.env.locals::X.fs:=λb hb=>by
 rcases I.ok.eR with e|⟨e,hf⟩
 .rw[e] at hb;exact Uw _ hb
 .rw[e] at hb;unfold ay at hb;rw[UT,hf] at hb;exact hb
theorem Inv.jH(I:Inv X pins G H s):∀ b∈ay X.stack,H b=J:=λb hb=>by
 rcases Tz.mp (I.iz b hb) with e|hb
 .rw[e];exact I.free
 .obtain⟨y,o,ho,y⟩:=I.ok.dZ.mem hb;exact I.base.free b o ho (I.ok.frf b hb) λz=>I.ok.exfs b z hb
theorem Inv.step{g':Array GenState}{t':Nat}{d':Drawn}{ch:List Td}(I:Inv X pins G H s)
 (iA:∀ b∈ch,(b∈X.ex∨X.s₀.heap.objs.size<=b)/\b≠X.env.locals/\(∀ x c,X.env.cells.lookup x=O c->c≠b)/\∀ p∈X.pn++pins,p.1≠b)
 (keep:∀ b o,b≠X.env.locals->b∉X.fs->b∉ch->s.heap.get? b=O o->H b=J->h'.get? b=O o)
 (slot:∀ b o,b≠X.env.locals->b∈X.fs->b∉ch->s.heap.get? b=O o->H b=J->∃ sl,h'.get? b=O { o with slots:=sl }) (free:∀ b o,b∉ch->s.heap.get? b=O o->H b=J->H' b=J)
 (there:∀ b o,b∉ch->s.heap.get? b=O o->∃ o',h'.get? b=O o')
 (b9:∀ b xs,H b=O (.tup xs)->H' b=O (.tup xs)) (cg:∀ b o u,H b=O (.dw o u)->H' b=O (.dw o u)) (cv:∀ b ps,H b=O (.tbl ps)->∃ more,H' b=O (.tbl (ps++more)))
 (ns:∀ m,s.heap.Ns X.env.locals m->h'.Ns X.env.locals m) (ah:bu X.prog X.w H' h') (hg:YD g') :
 Inv X pins G H' { s with heap:=h',gens:=g',drawn:=d',toks:=t' }:=by
 have jI:∀ b o,X.s₀.heap.get? b=O o->b≠X.env.locals:=λb o e=>T6 (Tu (Tg e) I.ok.above);have fV:∀ b o,X.s₀.heap.get? b=O o->b∉X.ex->b∉ch:=λb o e hx hb=>by
  rcases (iA b hb).1 with z|z
  .exact hx z
  .exact absurd (Tu (Tg e) z) (U8 _)
 have cellK:∀ x c,X.env.cells.lookup x=O c->∀ v,s.heap.IsCell c v->h'.IsCell c v:=λx c e v ⟨o,ho,hd⟩=>by
  have jJ:c∉ch:=λz=>(iA c z).2.2.1 x c e rfl;by_cases hc:c∈X.fs
  .obtain⟨sl,q⟩:=slot c o (I.gA x c e) hc jJ ho (I.dz x c e);exact#[_,q,hd]
  .exact#[o,keep c o (I.gA x c e) hc jJ ho (I.dz x c e),hd]
 refine#[I.ok,I.os,hg,#[λb o e n hb hx=>?_,λb o e n hb hx=>?_,λb o e n hx=>?_,λb o e hx=>?_,λb xs e=>b9 b xs (I.base.b9 b xs e),λb o xs e=>cg b o xs (I.base.cg b o xs e),λb ps e=>?_],?_,λx c e=>?_,?_,λx c e=>?_,λp hp=>?_,ah,I.len]
 .exact keep b o (jI b o e) hb (fV b o e hx) (I.base.keep b o e n hb hx) (I.base.free b o e n hx)
 .obtain⟨sl,e1⟩:=I.base.slot b o e n hb hx;obtain⟨di,e2⟩:=slot b _ (jI b o e) hb (fV b o e hx) e1 (I.base.free b o e n hx);exact#[di,e2]
 .obtain⟨o',e1⟩:=I.base.there b o e hx;exact free b o' (fV b o e hx) e1 (I.base.free b o e n hx)
 .obtain⟨o',e1⟩:=I.base.there b o e hx;exact there b o' (fV b o e hx) e1
 .obtain⟨m1,e1⟩:=I.base.cv b ps e;obtain⟨m2,e2⟩:=cv b _ e1;exact#[m1++m2,by rw[e2,WU]]
 .obtain⟨m,hn,hl⟩:=I.loc;refine#[m,ns m hn,λi x v e1 e2 e3=>?_];obtain⟨u,r,l⟩:=hl i x v e1 e2 e3;refine#[u,r,?_];rcases l with l|⟨k,c,e,z⟩
  .exact .inl l
  .exact .inr #[k,c,e,cellK x c e _ z]
 .obtain⟨v,z⟩:=I.cell x c e;exact#[v,cellK x c e v z]
 .obtain⟨m,⟨o,y,y,ho,y⟩,y⟩:=I.loc;exact free _ o (λz=>(iA _ z).2.1 rfl) ho I.free
 .obtain⟨v,o,ho,hd⟩:=I.cell x c e;exact free c o (λz=>(iA c z).2.2.1 x c e Y) ho (I.dz x c e)
 .obtain⟨e,n,ne,nf,d⟩:=I.pin p hp;have jJ:p.1∉ch:=λz=>(iA p.1 z).2.2.2 p hp rfl;exact#[keep p.1 p.2 ne nf jJ e n,free p.1 p.2 jJ e n,ne,nf,d]
theorem Inv.un{t':Nat}(I:Inv X pins G H s)(u:Un X.fs [] H H' s.heap h')(ah:bu X.prog X.w H' h'):Inv X pins G H' { s with heap:=h',toks:=t' }:=by
 obtain⟨m,⟨o,es,ep,ho,r⟩,y⟩:=id I.loc;obtain⟨sl,hL⟩:=u.any ho I.free (by simp);exact I.step (g':=s.gens) (d':=s.drawn) (ch:=[]) (λy z=>nomatch z) (λb o y hb y e n=>u.keep b o e n hb (by simp)) (λb o y hb y e n=>u.slot b o e n hb (by simp)) (λb o y e n=>u.free b o e n (by simp)) (λb o y e=>u.there b o e (by simp)) u.b9 u.cg u.cv (λm' hm=>by
  obtain⟨o',es',ur,bI,r'⟩:=hm;rw[ho] at bI;cases bI;exact#[_,es',ur,hL,r']) ah I.bare
theorem Inv.call{g':Array GenState}{t':Nat}{d':Drawn}{ch:List Td}(I:Inv X pins G H s)(u:Un (ay X.stack) ch H H' s.heap h')(ah:bu X.prog X.w H' h')(hg:YD g')
 (iA:∀ b∈ch,(b∈X.ex∨X.s₀.heap.objs.size<=b)/\b≠X.env.locals/\(∀ x c,X.env.cells.lookup x=O c->c≠b)/\∀ p∈X.pn++pins,p.1≠b) :
 Inv X pins G H' { s with heap:=h',gens:=g',drawn:=d',toks:=t' }:=by
 obtain⟨m,⟨o,es,ep,ho,r⟩,y⟩:=id I.loc;obtain⟨sl,hL⟩:=u.any ho I.free λz=>(iA _ z).2.1 rfl;exact I.step (ch:=ch) iA (λb o hL hb hc e n=>u.keep b o e n (λz=>(Tz.mp (I.iz b z)).elim hL hb) hc) (λb o y y hc e n=>u.any e n hc) (λb o hc e n=>u.free b o e n hc) (λb o hc e=>u.there b o e hc) u.b9 u.cg u.cv (λm' hm=>by
  obtain⟨o',es',ur,bI,r'⟩:=hm;rw[ho] at bI;cases bI;exact#[_,es',ur,hL,r']) ah hg
theorem Inv.turned{t':Nat}{it:Td}(I:Inv X pins G H s)(k:∀ b o,b≠it->s.heap.get? b=O o->h'.get? b=O o)(hn:H it=J)(hL:it≠X.env.locals)
 (h1:it∈X.ex∨X.s₀.heap.objs.size<=it) (h2:∀ x c,X.env.cells.lookup x=O c->c≠it) (h3:∀ p∈X.pn++pins,p.1≠it):Inv X pins G H { s with heap:=h',toks:=t' }:=by
 have zV:∀ b u,H b=O u->b≠it:=λb u e z=>by rw[z,hn] at e;cases e
 refine I.step (g':=s.gens) (d':=s.drawn) (ch:=[it]) (λb hb=>?_) (λb o y y hc e y=>k b o (λz=>hc (by simp[z])) e) (λb o y y hc e y=>#[o.slots,k b o (λz=>hc (by simp[z])) e]) (λy y y y n=>n)
  (λb o hc e=>#[o,k b o (λz=>hc (by simp[z])) e]) (λy y e=>e) (λy y y e=>e) (λb ps e=>#[(List.toArray []),by rw[e];simp]) (λm hm=>?_) (λb u e=>?_) I.bare
 .have e:b=it:=by simpa using hb
  subst e;exact#[h1,hL,h2,h3]
 .obtain⟨o,es,ep,ho,r⟩:=hm;exact#[o,es,ep,k _ o (UZ hL) ho,r]
 .refine (I.ah b u e).fU (λc v hc q=>k c v ?_ q) (λy q=>q) λy y q=>q;rcases hc with z|z
  .rw[z];exact zV b u e
  .exact zV c _ z
theorem Inv.tok(I:Inv X pins G H s)(t:Nat):Inv X pins G H { s with toks:=t }:=I.un (h':=s.heap) (t':=t) Un.refl I.ah
theorem Inv.kept{t':Nat}(I:Inv X pins G H s)(k:∀ b u,s.heap.get? b=O u->h'.get? b=O u):Inv X pins G H { s with heap:=h',toks:=t' }:=I.un (Un.kept k) (I.ah.kept k)
theorem Inv.laid{a:Td}{o:HO}{t':Nat}(I:Inv X pins G H s)(k:∀ b u,s.heap.get? b=O u->h'.get? b=O u)(hp:s.heap.objs.size<=a)(new:bH X.prog X.w (upd H a o) h' a o) :
 Inv X pins G (upd H a o) { s with heap:=h',toks:=t' }:=I.un (Un.laid k hp (I.ah.fresh hp)) (I.ah.laid k hp new)
theorem Inv.write{x e:Td}{o:HO}{t':Nat}(I:Inv X pins G H s)(mu:n9 (H x))(he:e=x∨H e=O (.own x))(k:∀ b u,b≠e->s.heap.get? b=O u->h'.get? b=O u)(my:∃ u,h'.get? e=O u)
 (new:bH X.prog X.w (upd H x o) h' x o):Inv X pins G (upd H x o) { s with heap:=h',toks:=t' }:=I.un (Un.write mu he k my) (I.ah.write mu he k my new)
theorem Inv.weak{σ':List (Option V)}(I:Inv X pins G H s)(hl:σ'.length=G.length)(w:∀ (i:Nat) v,σ'[i]?=O (O v)->G[i]?=O (O v)):Inv X pins σ' H s :=
 #[I.ok,I.os,I.bare,I.base,let ⟨m,hn,G6⟩:=I.loc;#[m,hn,λi x v e1 e2 e3=>G6 i x v e1 (w i v e2) e3],I.cell,I.free,I.dz,I.pin,I.ah,hl.trans I.len]
theorem Inv.kF{i0:List (Td × Obj)}(I:Inv X pins G H s)(h:∀ p∈i0,s.heap.get? p.1=O p.2/\H p.1=J/\p.1≠X.env.locals/\p.1∉X.fs/\∀ v,p.2.data ≠ .cell v):Inv X i0 G H s :=
 #[I.ok,I.os,I.bare,I.base,I.loc,I.cell,I.free,I.dz,λp hp=>(TQ.mp hp).elim (λz=>I.pin p (TR _ z)) (h p),I.ah,I.len]
theorem uu{N:List Str}(hN:N.Nodup){i j:Nat}{x:Str}(a:N[i]?=O x)(b:N[j]?=O x):i=j:=by obtain⟨h1,e1⟩:=Ug.mp a;obtain⟨h2,e2⟩:=Ug.mp b;exact (List.getElem_inj hN).mp (e1.trans e2.symm)
theorem G7{M:ab5}{A:Uk}{E:SY->SX->Prop}{i:Nat}{x:Str}{v:V}{u:SY}{Q:Unit->SX->Prop}(I:Inv X pins G H s)(hN:X.N.Nodup)(hi:X.N[i]?=O x)(hx:Loc X.env.scope x)(r:RelV v u)
 (h:∀ s',Inv X pins (G.set i (O v)) H s'->(∃ a,Heap.SameBut a s.heap s'.heap/\(a=X.env.locals∨X.env.cells.lookup x=O a))->Q () s') (hf:X.fn x=true∨X.env.scope.names.lookup x=O .local:=by first|exact .inl rfl|exact .inr rfl|assumption):TX M A (storeName X.env x u) Q E s:=by
 obtain⟨m,hn,hl⟩:=id I.loc;have uv:(X.env.scope.kind == .class || (X.env.scope.kind == .module && X.env.locals != X.env.globals))=false:=by rw[I.ok.kind];rfl
 have zW:i<G.length:=by rw[I.len];exact (Ug.mp hi).1
 have gA:=I.gA;have tracked:∀ {a:Td} {h':UU},(∃ o,s.heap.get? a=O o/\H a=J)->Heap.SameBut a s.heap h'->bu X.prog X.w H h':=λ{a h'} ha hs b ob e=>by
  obtain⟨g,g,hfree⟩:=ha;refine (I.ah b ob e).fU (λc w' hc q=>(hs.2 c ?_).trans q) (λg q=>q) λg g q=>q;rintro rfl;rcases hc with rfl|hc
  .rw[hfree] at e;cases e
  .rw[hfree] at hc;cases hc
 rcases hx with hk|hk
 .refine wpAny_storeName_local hk hn (λh' uw hs=>?_) uv;obtain⟨oL,g,g,zX,g⟩:=id hn;refine h _ #[I.ok,I.os,I.bare,#[λb o e n hb hx=>?_,λb o e n hb hx=>?_,I.base.free,λb o e hx=>?_,I.base.b9,I.base.cg,I.base.cv],#[_,uw,λj y v' e1 e2 e3=>?_],λy c e=>?_,I.free,I.dz,λp hp=>?_,tracked #[oL,zX,I.free] hs,by simpa using I.len] #[_,hs,.inl rfl]
  .exact (hs.2 b (T6 (Tu (Tg e) I.ok.above))).trans (I.base.keep b o e n hb hx)
  .obtain⟨sl,e1⟩:=I.base.slot b o e n hb hx;exact#[sl,(hs.2 b (T6 (Tu (Tg e) I.ok.above))).trans e1]
  .obtain⟨o',e1⟩:=I.base.there b o e hx;exact#[o',(hs.2 b (T6 (Tu (Tg e) I.ok.above))).trans e1]
  .by_cases hj:j=i
   .subst hj;rw[hi] at e1;cases e1;rw[W4 zW] at e2;cases e2;exact#[u,r,.inl #[hk,by simp]]
   .rw[Xw (UZ hj)] at e2;obtain⟨u',r',q⟩:=hl j y v' e1 e2 e3;refine#[u',r',?_];rcases q with ⟨k,e⟩|⟨k,c,e,z⟩
    .refine .inl #[k,?_];have:y≠x:=λe=>hj (uu hN e1 (e ▸ hi));simp[this,e]
    .exact .inr #[k,c,e,z.sameBut hs (gA y c e)]
  .obtain⟨w',z⟩:=I.cell y c e;exact#[w',z.sameBut hs (gA y c e)]
  .obtain⟨e,n,ne,nf,d⟩:=I.pin p hp;exact#[(hs.2 p.1 ne).trans e,n,ne,nf,d]
 .have ux:X.fn x=true:=by
   rcases hf with z|z
   .exact z
   .rw[z] at hk;cases hk
  obtain⟨c,hc⟩:=I.ok.has x (.inl hk);obtain⟨w',z⟩:=I.cell x c hc;refine wpAny_storeName_cell I.ok.kind hk hc z (λh' dA hs=>?_);obtain⟨oc,hoc,hocd⟩:=id z;refine h { s with heap:=h' } #[I.ok,I.os,I.bare,#[λb o e n hb hx=>?_,λb o e n hb hx=>?_,I.base.free,λb o e hx=>?_,I.base.b9,I.base.cg,I.base.cv],#[m,hn.sameBut hs (UZ (gA x c hc)),λj y v' e1 e2 e3=>?_],λy c' e=>?_,I.free,I.dz,λp hp=>?_,tracked #[oc,hoc,I.dz x c hc] hs,by simpa using I.len] #[c,hs,.inr hc]
  .exact (hs.2 b (T6 (Tu (Tg e) (I.ok.cab x c ux hc)))).trans (I.base.keep b o e n hb hx)
  .obtain⟨sl,e1⟩:=I.base.slot b o e n hb hx;exact#[sl,(hs.2 b (T6 (Tu (Tg e) (I.ok.cab x c ux hc)))).trans e1]
  .obtain⟨o',e1⟩:=I.base.there b o e hx;exact#[o',(hs.2 b (T6 (Tu (Tg e) (I.ok.cab x c ux hc)))).trans e1]
  .by_cases hj:j=i
   .subst hj;rw[hi] at e1;cases e1;rw[W4 zW] at e2;cases e2;exact#[u,r,.inr #[.inl hk,c,hc,dA]]
   .rw[Xw (UZ hj)] at e2;obtain⟨u',r',q⟩:=hl j y v' e1 e2 e3;refine#[u',r',?_];rcases q with q|⟨k,c',e,z'⟩
    .exact .inl q
    .refine .inr #[k,c',e,z'.sameBut hs ?_];rintro rfl;exact hj (uu hN e1 (I.ok.inj _ _ _ e hc ▸ hi))
  .by_cases hcc:c'=c
   .subst hcc;exact#[_,dA]
   .obtain⟨w2,z2⟩:=I.cell y c' e;exact#[w2,z2.sameBut hs hcc]
  .obtain⟨e,n,ne,nf,d⟩:=I.pin p hp;refine#[(hs.2 p.1 ?_).trans e,n,ne,nf,d];intro q;rw[q,hoc] at e;have q':oc=p.2:=Option.some.inj e;exact d w' (by rw[<- q'];exact hocd)
theorem uy{M:ab5}{A:Uk}{E:SY->SX->Prop}{i:Nat}{x:Str}{v:V}{u:SY}{Q:Unit->SX->Prop}(I:Inv X pins G H s)(hN:X.N.Nodup)(hi:X.N[i]?=O x)(hx:Loc X.env.scope x)(r:RelV v u)
 (h:∀ s',Inv X pins (G.set i (O v)) H s'->Q () s') (hf:X.fn x=true∨X.env.scope.names.lookup x=O .local:=by first|exact .inl rfl|exact .inr rfl|assumption):TX M A (storeName X.env x u) Q E s :=
 G7 I hN hi hx r (λs' I' y=>h s' I') hf
theorem Inv.kG{s':SX}{ch:List Td}(I:Inv X pins G H s)(ho:s'.os=s.os)(u:Un (ay X.stack) ch H H' s.heap s'.heap)(ah:bu X.prog X.w H' s'.heap)(hg:YD s'.gens)
 (iA:∀ b∈ch,(b∈X.ex∨X.s₀.heap.objs.size<=b)/\b≠X.env.locals/\(∀ x c,X.env.cells.lookup x=O c->c≠b)/\∀ p∈X.pn++pins,p.1≠b):Inv X pins G H' s':=by
 obtain⟨h',g',d',t',o'⟩:=s';have e:o'=s.os:=ho;subst e;exact I.call (g':=g') (t':=t') (d':=d') u ah hg iA
end
abbrev XK:=SY->Option Td->Hp->Prop
abbrev St:=List (Option V)
abbrev VK:=V->Hp->Prop
abbrev TE:=St->Hp->VK->Prop
abbrev TT:=St->Hp->(Bool->Hp->Prop)->Prop
abbrev TA:=St->Hp->(List V->Hp->Prop)->Prop
structure Ends where
 nx:St->Hp->Prop
 rt:VK
 bk:St->Hp->Prop:=λ_ _=>False
 ct:St->Hp->Prop:=λ_ _=>False
abbrev TS:=Ends->St->Hp->Prop
def EP(X:Cx)(pins:List (Td × Obj))(G:St)(Q:VK)(u:SY)(s':SX):Prop:=∃ v H',Inv X pins G H' s'/\RelV v u/\Q v H'
def TP(X:Cx)(pins:List (Td × Obj))(G:St)(Q:Bool->Hp->Prop)(b:Bool)(s':SX):Prop:=∃ H',Inv X pins G H' s'/\Q b H'
def AP(X:Cx)(pins:List (Td × Obj))(G:St)(Q:List V->Hp->Prop)(us:List SY)(s':SX):Prop:=∃ vs H',Inv X pins G H' s'/\Vals vs us/\Q vs H'
def SP(X:Cx)(pins:List (Td × Obj))(D:Ends)(f:Flow)(s':SX):Prop :=
 match f with
 | .next=>∃ σ' H',Inv X pins σ' H' s'/\D.nx σ' H'
 | .brk=>∃ σ' H',Inv X pins σ' H' s'/\D.bk σ' H'
 | .cont=>∃ σ' H',Inv X pins σ' H' s'/\D.ct σ' H'
 | .ret u=>∃ v σ' H',Inv X pins σ' H' s'/\RelV v u/\D.rt v H'
def PE(X:Cx)(e:Vh)(t:TE):Prop :=
 ∀ (pins:List (Td × Obj)) (s:SX) (G:St) (H:Hp) (Q:VK),Inv X pins G H s->t G H Q->TX (model X.prog X.w) X.A (eval e X.env) (EP X pins G Q) X.xe s
def PT(X:Cx)(e:Vh)(t:TT):Prop :=
 ∀ (pins:List (Td × Obj)) (s:SX) (G:St) (H:Hp) (Q:Bool->Hp->Prop),Inv X pins G H s->t G H Q->TX (model X.prog X.w) X.A (abu e X.env (eval e X.env)) (TP X pins G Q) X.xe s
def PW(X:Cx)(e:Vh)(t:TT):Prop :=
 ∀ (whole:Sem SY) (pins:List (Td × Obj)) (s:SX) (G:St) (H:Hp) (Q:Bool->Hp->Prop),Inv X pins G H s->t G H Q->TX (model X.prog X.w) X.A (abu e X.env whole) (TP X pins G Q) X.xe s
theorem PW.pt{X:Cx}{e:Vh}{t:TT}(h:PW X e t):PT X e t:=h _
def PA(X:Cx)(es:List Vh)(t:TA):Prop :=
 ∀ (pos:Pos) (pins:List (Td × Obj)) (s:SX) (G:St) (H:Hp) (Q:List V->Hp->Prop),Inv X pins G H s->t G H Q->TX (model X.prog X.w) X.A (spliced (Wm pos (TZ es X.env))) (AP X pins G Q) X.xe s
def PS(X:Cx)(st:Vt)(t:TS):Prop :=
 ∀ (pins:List (Td × Obj)) (s:SX) (G:St) (H:Hp) (D:Ends),Inv X pins G H s->t D G H->TX (model X.prog X.w) X.A (exec st X.env) (SP X pins D) X.xe s
def aR(X:Cx)(st:List Vt)(t:TS):Prop :=
 ∀ (pins:List (Td × Obj)) (s:SX) (G:St) (H:Hp) (D:Ends),Inv X pins G H s->t D G H->TX (model X.prog X.w) X.A (execs st X.env) (SP X pins D) X.xe s
theorem ax{α:Type}{t:Sem α}{Q Q':α->SX->Prop}{M:ab5}{A:Uk}{E:SY->SX->Prop}{s:SX}(h:TX M A t Q E s)(hQ:∀ a s,Q a s->Q' a s):TX M A t Q' E s:=Ue h hQ λy y x=>x
section
variable{X:Cx}
def uz(i:Nat):TE:=λG H Q=>∃ v,G[i]?=O (O v)/\Q v H
def tC(v:V):TE:=λy H Q=>Q v H
theorem G8{i:Nat}{x:Str}{pos:Pos}(hN:X.N[i]?=O x)(hv:qW X.env.scope x)(hd:(x == ("__debug__" : Str))=false:=by decide)(dB:(x == ("__classdict__" : Str))=false:=by decide):PE X (.Name x pos) (uz i):=by
 intro pins s G H Q I h;obtain⟨v,e,h⟩:=h;obtain⟨m,hn,hl⟩:=I.loc;obtain⟨u,r,l⟩:=hl i x v hN e hv;have fin:EP X pins G Q u s:=#[v,H,I,r,h]
 rcases l with ⟨hk,hm⟩|⟨hk,c,hc,hcell⟩
 .exact abv (wpAny_loadName_local I.ok.kind hk hn hm fin) hd
 .rcases hk with hk|hk
  .exact abv (wpAny_loadName_cell I.ok.kind hk hc hcell fin) hd
  .exact abv (wpAny_loadName_free I.ok.kind hk hc hcell fin dB) hd
theorem ag{i j pos}:PE X (.Constant (.int i) j pos) (tC (.int i)):=λy y y H y I h=>wpAny_Constant_int #[.int i,H,I.tok _,#[_,Y],h]
theorem dN{b j pos}:PE X (.Constant (.bool b) j pos) (tC (.bl b)):=λy y y H y I h=>Constant_bool #[.bl b,H,I,Y,h]
theorem ck{j pos}:PE X (.Constant .none j pos) (tC .non):=λy y y H y I h=>ZU #[.non,H,I,Y,h]
theorem iB{x j pos}:PE X (.Constant (.str x) j pos) (tC (.str x)):=λy y y H y I h=>Calls.Constant_str #[.str x,H,I.tok _,#[_,Y],h]
def Gl(X:Cx)(x:Str):Prop:=X.env.kindOf x=O .globalImplicit
theorem kH{E:SY->SX->Prop}{pins:List (Td × Obj)}{s:SX}{G:St}{H:Hp}{x:Str}{u:SY}{pos:Pos}{Q:SY->SX->Prop}(I:Inv X pins G H s)(hg:Gl X x)(hm:X.mg x=O u)(h:Q u s)
 (hd:(x == ("__debug__" : Str))=false:=by decide):TX (model X.prog X.w) X.A (eval (.Name x pos) X.env) Q E s :=
 X2 I.ok.kind hg (Calls.loadGlobal_global (by rw[I.ok.glob];exact I.mod.glob.keeps I.bk) hm h) hd
theorem oh{E:SY->SX->Prop}{pins:List (Td × Obj)}{s:SX}{G:St}{H:Hp}{x:Str}{u:SY}{pos:Pos}{Q:SY->SX->Prop}(I:Inv X pins G H s)(hg:Gl X x)(hm:X.mg x=J)(hv:Vb x=O u)(h:Q u s)
 (hn:x ≠ "__name__" := by decide) (hd:(x == ("__debug__" : Str))=false:=by decide):TX (model X.prog X.w) X.A (eval (.Name x pos) X.env) Q E s:=by
 obtain⟨mb,h1,h2⟩:=I.mod.blt;exact X2 I.ok.kind hg (Calls.loadGlobal_builtin (by rw[I.ok.glob];exact I.mod.glob.keeps I.bk) hm (by rw[I.ok.blt];exact h1.keeps I.bk) ((h2 x hn).trans hv) h) hd
theorem mz{x:Str}{v:V}{u:SY}{pos:Pos}(hg:Gl X x)(hm:X.mg x=O u)(r:RelV v u)(hd:(x == ("__debug__" : Str))=false:=by decide):PE X (.Name x pos) (tC v) :=
 λy y y H y I h=>kH I hg hm #[v,H,I,r,h] hd
variable{a b:Vh}{ta tb:TE}{pos:Pos}
def PC(X:Cx)(op:abE)(a b:Vh)(t:TE):Prop :=
 ∀ (pins:List (Td × Obj)) (s:SX) (G:St) (H:Hp) (Q:VK),Inv X pins G H s->t G H Q ->
  TX (model X.prog X.w) X.A (eval a X.env) (λv s₁=>TX (model X.prog X.w) X.A (eval b X.env) (λu s₂=>TX (model X.prog X.w) X.A (Vd op v u) (EP X pins G Q) X.xe s₂) X.xe s₁) X.xe s
theorem zY(b:Vh){op:abE}(h:op ≠ .In)(h2:op ≠ .NotIn):VH op b=false:=by
 have e1:(op == CmpOp.In)=false:=by cases op<;>first|rfl|exact absurd Y h
 have e2:(op == CmpOp.NotIn)=false:=by cases op<;>first|rfl|exact absurd Y h2
 cases b<;>simp[VH,e1,e2]
def zZ(ta:TE):TE:=λG H Q=>ta G H λx H1=>Q (.bl (decide (x = .non))) H1
def z0(ta:TE):TE:=λG H Q=>ta G H λx H1=>Q (.bl (!decide (x = .non))) H1
theorem RelV.z5{x:V}{v:SY}(r:RelV x v):(v == Value.none)=decide (x = .non):=by
 cases x with
 | non=>cases r;rfl
 | bl _=>cases r;rfl
 | int _=>obtain⟨t,rfl⟩:=r;rfl
 | str _=>obtain⟨t,rfl⟩:=r;rfl
 | byt _=>obtain⟨t,rfl⟩:=r;rfl
 | flt _=>obtain⟨t,rfl⟩:=r;rfl
 | ref _=>cases r;rfl
 | ty _=>cases r;rfl
theorem G9{j pos'}(ha:PE X a ta):PC X .Is a (.Constant .none j pos') (zZ ta):=by intro pins s G H Q I h;refine ax (ha pins s G H _ I h) λv s1 zq=>?_;obtain⟨x,H1,I1,r1,q1⟩:=zq;exact ZU (is_none_gen #[.bl _,H1,I1,by rw[r1.z5];rfl,q1])
theorem uA{j pos'}(ha:PE X a ta):PC X .IsNot a (.Constant .none j pos') (z0 ta):=by intro pins s G H Q I h;refine ax (ha pins s G H _ I h) λv s1 zq=>?_;obtain⟨x,H1,I1,r1,q1⟩:=zq;exact ZU (isnot_none_gen #[.bl _,H1,I1,by rw[r1.z5];rfl,q1])
def tB(t:TE):TT:=λG H Q=>t G H λx H1=>∃ c,x = .bl c/\Q c H1
theorem z8{op:abE}{t:TE}(h:PC X op a b t)(h1:VH op b=false:=by first|exact zY _ (by decide) (by decide)|rfl):PE X (.Compare a [op] [b] pos) t:=λpins s G H Q I hw=>wpAny_Compare1 (h pins s G H Q I hw) h1
theorem uB{op:abE}{t:TE}(h:PC X op a b t)(h1:VH op b=false:=by first|exact zY _ (by decide) (by decide)|rfl):PT X (.Compare a [op] [b] pos) (tB t):=by intro pins s G H Q I hw;refine Y6 (ax (h pins s G H _ I hw) λv s1 h1=>ax h1 λu s2 h2=>ax h2 λc s3 zq=>?_) h1;obtain⟨x,H1,I1,r1,q1⟩:=zq;obtain⟨d,rfl,q⟩:=q1;cases r1;exact UW #[H1,I1,q]
theorem Ha{e:Vh}{t:TE}(h:PE X e t)(he:∀ whole,abu e X.env whole=(do let v <- whole;aaS e.pos;holding [v] (truthy v)):=by intro y;rfl):PT X e (tB t):=by intro pins s G H Q I hw;refine isTrue_plain (ax (h pins s G H _ I hw) λv s1 zq=>?_) (he _);obtain⟨x,H1,I1,r1,q1⟩:=zq;obtain⟨d,rfl,q⟩:=q1;cases r1;exact UW #[H1,I1,q]
variable{tA z9:TT}{rest:List Vh}
def Hb(t u:TT):TT:=λG H Q=>t G H λc H1=>if c=true then u G H1 Q else Q false H1
def Aa(t u:TT):TT:=λG H Q=>t G H λc H1=>if c=true then Q true H1 else u G H1 Q
def Ab(t:TT):TT:=λG H Q=>t G H λc H1=>Q (!c) H1
theorem mB(ha:PT X a tA):PW X (.BoolOp .Or [a] pos) tA:=by
 intro wh pins s G H Q I h;refine isTrue_or (ax (ha pins s G H Q I h) λc s1 e=>?_);cases c with
 | false=>exact isTrue_or_nil e
 | true=>exact e
theorem i3(ha:PT X a tA)(hb:PW X (.BoolOp .Or (b::rest) pos) z9):PW X (.BoolOp .Or (a::b::rest) pos) (Aa tA z9):=by
 intro wh pins s G H Q I h;refine isTrue_or (ax (ha pins s G H _ I h) λc s1 zq=>?_);obtain⟨H1,I1,q1⟩:=zq;cases c with
 | true=>exact#[H1,I1,q1]
 | false=>exact hb wh pins s1 G H1 Q I1 q1
theorem d0(ha:PT X a tA):PT X (.UnaryOp .Not a pos) (Ab tA):=by intro pins s G H Q I h;exact isTrue_not (ha pins s G H (λc H1=>Q (!c) H1) I h)
def Ac(ta tb:TE):TE:=λG H Q=>ta G H λx H1=>∃ c,x = .bl c/\if c=true then tb G H1 Q else Q (.bl false) H1
def Hc(ta tb:TE):TE:=λG H Q=>ta G H λx H1=>∃ c,x = .bl c/\if c=true then Q (.bl true) H1 else tb G H1 Q
def Ad(ta:TE):TE:=λG H Q=>ta G H λx H1=>∃ c,x = .bl c/\Q (.bl (!c)) H1
theorem oi{op}{t:TE}(h:PE X a t):PE X (.BoolOp op [a] pos) t:=λpins s G H Q I hw=>BoolOp_one (h pins s G H Q I hw)
theorem Hd(ha:PE X a ta)(hb:PE X (.BoolOp .And (b::rest) pos) tb):PE X (.BoolOp .And (a::b::rest) pos) (Ac ta tb):=by
 intro pins s G H Q I h;refine BoolOp_and (ax (ha pins s G H _ I h) λv s1 zq=>?_);obtain⟨x,H1,I1,r1,q1⟩:=zq;obtain⟨c,rfl,q1⟩:=q1;cases r1;refine UW ?_;cases c with
 | true=>exact hb pins s1 G H1 Q I1 q1
 | false=>exact#[.bl false,H1,I1,Y,q1]
theorem He(ha:PE X a ta):PE X (.UnaryOp .Not a pos) (Ad ta):=by intro pins s G H Q I h;refine UnaryOp_ (ax (ha pins s G H _ I h) λv s1 zq=>?_);obtain⟨x,H1,I1,r1,q1⟩:=zq;obtain⟨c,rfl,q1⟩:=q1;cases r1;exact not_of (UW #[.bl (!c),H1,I1,Y,q1])
def Ae(t:TT)(ta tb:TE):TE:=λG H Q=>t G H λc H1=>if c=true then ta G H1 Q else tb G H1 Q
theorem kI{c:Vh}(hc:PT X c tA)(ha:PE X a ta)(hb:PE X b tb):PE X (.IfExp c a b pos) (Ae tA ta tb):=by
 intro pins s G H Q I h;refine wpAny_IfExp (ax (hc pins s G H _ I h) λd s1 zq=>?_);obtain⟨H1,I1,q1⟩:=zq;cases d with
 | true=>exact ha pins s1 G H1 Q I1 q1
 | false=>exact hb pins s1 G H1 Q I1 q1
end
def ak(K:SV)(H:Hp)(a:Td)(xs:List V):Prop :=
 Rd H a (.lst xs) ∨
  ∃ (o:Obj) (af:Array SY) (n:Nat),K.lookup a=O o/\o.cls = .type "list" /\ o.dict=J/\o.data = .seq af n/\af.size<=TB/\Vals xs af.toList
def aC(K:SV)(H:Hp)(a:Td)(xs:List V):Prop :=
 Rd H a (.tup xs) ∨
  ∃ (o:Obj) (af:Array SY) (n:Nat),K.lookup a=O o/\o.cls = .type "tuple" /\ o.data = .seq af n/\af.size<=TB/\Vals xs af.toList
noncomputable def Hf:SY->Option V
 | .none=>O .non
 | .bool b=>O (.bl b)
 | .int i _=>O (.int i)
 | .str x _=>O (.str x)
 | .bytes b _=>O (.byt b)
 | .float b _=>O (.flt b)
 | .ref a=>O (.ref a)
 | .type n=>O (.ty n)
 | _=>J
theorem RelV.abs{x:V}{u:SY}(r:RelV x u):Hf u=O x:=by
 cases x with
 | non=>cases r;rfl
 | bl _=>cases r;rfl
 | int _=>obtain⟨t,rfl⟩:=r;rfl
 | str _=>obtain⟨t,rfl⟩:=r;rfl
 | byt _=>obtain⟨t,rfl⟩:=r;rfl
 | flt _=>obtain⟨t,rfl⟩:=r;rfl
 | ref _=>cases r;rfl
 | ty _=>cases r;rfl
theorem RelV.inj{x y:V}{u:SY}(r:RelV x u)(q:RelV y u):x=y:=Option.some.inj (r.abs.symm.trans q.abs)
theorem Vals.inj:∀ {xs ys:List V} {us:List SY},Vals xs us->Vals ys us->xs=ys:=by
 intro xs ys us h h'
 induction h generalizing ys with
 | nil=>cases h';rfl
 | cons r t ih =>
  cases h' with
  | cons r' t'=>rw[r.inj r',ih t']
section
variable{X:Cx}{pins:List (Td × Obj)}{G:St}{H:Hp}{s:SX}{a:Td}{xs ys:List V}
theorem ak.of{K:SV}(h:H a=O (.lst xs)):ak K H a xs:=.inl (.inl h)
theorem aC.of{K:SV}(h:H a=O (.tup xs)):aC K H a xs:=.inl (.inl h)
theorem Inv.list(I:Inv X pins G H s)(h:ak X.K H a xs):∃ af:List SY,Vals xs af/\PlainL s.heap a af.toArray/\xs.length<=TB:=by
 rcases h with h|⟨o,af,n,hk,hc,hd,hs,hz,r⟩
 .obtain⟨z,af,n,r,e⟩:=h.ok I.ah;exact#[af,r,#[_,n,e,Y,Y,Y],z]
 .refine#[af.toList,r,#[o,n,I.cw a o hk,hc,hd,by simpa using hs],?_];have e:=r.length;simp only[TU] at e;omega
theorem Inv.tuple(I:Inv X pins G H s)(h:aC X.K H a xs):∃ af:List SY,Vals xs af/\IsTup s.heap a af.toArray/\xs.length<=TB:=by
 rcases h with h|⟨o,af,n,hk,hc,hs,hz,r⟩
 .obtain⟨z,af,r,p⟩:=h.ok I.ah;exact#[af,r,p,z]
 .refine#[af.toList,r,#[o,I.cw a o hk,hc,n,by simpa using hs],?_];have e:=r.length;simp only[TU] at e;omega
theorem Inv.qY(I:Inv X pins G H s)(h:ak X.K H a xs)(h':ak X.K H a ys):xs=ys:=by
 obtain⟨af,r,⟨o,n,e,y,y,d⟩,y⟩:=I.list h;obtain⟨its',r',⟨o',n',e',y,y,d'⟩,y⟩:=I.list h';rw[e] at e';cases e';rw[d] at d';injection d' with d1 _;have:af=its':=by simpa using congrArg abP d1
 subst this;exact r.inj r'
theorem Inv.Hg(I:Inv X pins G H s)(h:aC X.K H a xs)(h':aC X.K H a ys):xs=ys:=by
 obtain⟨af,r,⟨o,e,y,n,d⟩,y⟩:=I.tuple h;obtain⟨its',r',⟨o',e',y,n',d'⟩,y⟩:=I.tuple h';rw[e] at e';cases e';rw[d] at d';injection d' with d1 _;have:af=its':=by simpa using congrArg abP d1
 subst this;exact r.inj r'
end
noncomputable abbrev Cx.fW(X:Cx)(E:SY->SX->Prop):Cx:={ X with xe:=E }
noncomputable abbrev Cx.fX(X:Cx):Cx:=X.fW λy y=>False
theorem Cx.Ok.fW{X:Cx}(ok:X.Ok)(E:SY->SX->Prop):(X.fW E).Ok :=
 #[ok.mod,ok.kind,ok.glob,ok.blt,ok.above,ok.inj,ok.has,ok.cab,ok.hd,ok.frames,ok.eR,ok.exf,ok.bs,ok.bsz,ok.noex,ok.exfs,ok.dZ,ok.frf]
theorem Cx.Ok.iC{X:Cx}{E:SY->SX->Prop}(ok:(X.fW E).Ok):X.Ok :=
 #[ok.mod,ok.kind,ok.glob,ok.blt,ok.above,ok.inj,ok.has,ok.cab,ok.hd,ok.frames,ok.eR,ok.exf,ok.bs,ok.bsz,ok.noex,ok.exfs,ok.dZ,ok.frf]
section
variable{X:Cx}{pins:List (Td × Obj)}{G:St}{H:Hp}{s:SX}{E:SY->SX->Prop}
theorem Inv.fW(I:Inv X pins G H s)(E:SY->SX->Prop):Inv (X.fW E) pins G H s:=#[I.ok.fW E,I.os,I.bare,I.base,I.loc,I.cell,I.free,I.dz,I.pin,I.ah,I.len]
theorem Inv.iC(I:Inv (X.fW E) pins G H s):Inv X pins G H s:=#[I.ok.iC,I.os,I.bare,I.base,I.loc,I.cell,I.free,I.dz,I.pin,I.ah,I.len]
theorem SP.iC{D:Ends}{f:Flow}{s':SX}(h:SP (X.fW E) pins D f s'):SP X pins D f s':=by
 cases f with
 | next=>obtain⟨σ',H',I,q⟩:=h;exact#[σ',H',I.iC,q]
 | brk=>obtain⟨σ',H',I,q⟩:=h;exact#[σ',H',I.iC,q]
 | cont=>obtain⟨σ',H',I,q⟩:=h;exact#[σ',H',I.iC,q]
 | ret u=>obtain⟨v,σ',H',I,r,q⟩:=h;exact#[v,σ',H',I.iC,r,q]
theorem PE.fX{e:Vh}{t:TE}(h:PE X.fX e t):PE X e t:=λpins s G H Q I hw =>
 Ue (h pins s G H Q (I.fW _) hw) (λ_ _ ⟨v,H',I',r,q⟩=>#[v,H',I'.iC,r,q]) λy y z=>UX z
theorem PT.fX{e:Vh}{t:TT}(h:PT X.fX e t):PT X e t:=λpins s G H Q I hw =>
 Ue (h pins s G H Q (I.fW _) hw) (λ_ _ ⟨H',I',q⟩=>#[H',I'.iC,q]) λy y z=>UX z
theorem aR.fX{st:List Vt}{t:TS}(h:aR X.fX st t):aR X st t:=λpins s G H D I hw =>
 Ue (h pins s G H D (I.fW _) hw) (λy y q=>q.iC) λy y z=>UX z
end
section
variable{X:Cx}{st:Vt}{rest:List Vt}{t u:TS}{e:Vh}{te:TE}{pos:Pos}
def Af:TS:=λD G H=>D.nx G H
def uC(t u:TS):TS:=λD G H=>t { D with nx:=u D } G H
theorem aS:aR X [] Af:=λy y G H y I h=>VT #[G,H,I,h]
theorem au(h1:PS X st t)(h2:aR X rest u):aR X (st::rest) (uC t u):=by
 intro pins s G H D I h;refine YV (ax (h1 pins s G H { D with nx:=u D } I h) λf s1 q=>?_);cases f with
 | next =>
  obtain⟨σ',H',I',q⟩:=q;exact h2 pins s1 σ' H' D I' q
 | ret v=>exact q
 | brk=>exact q
 | cont=>exact q
theorem ar(h1:PS X st t):aR X [st] t:=by
 intro pins s G H D I h;refine YV (ax (h1 pins s G H D I h) λf s1 q=>?_);cases f with
 | next=>exact VT q
 | ret v=>exact q
 | brk=>exact q
 | cont=>exact q
theorem Inv.quiet{pins:List (Td × Obj)}{G:St}{H:Hp}{s:SX}(I:Inv X pins G H s):interactive X.env=false:=by simp[interactive,I.ok.kind]
def uD(te:TE):TS:=λD G H=>te G H λy H1=>D.nx G H1
theorem dC(he:PE X e te)(hs:Xk e J pos.line X.env=pure false:=by rfl):PS X (.Expr e pos) (uD te):=by intro pins s G H D I h;exact wpAny_Expr_any (ax (he pins s G H _ I h) λv s1 ⟨x,H1,I1,r1,q1⟩=>#[G,H1,I1,q1]) I.quiet hs
def Ag(te:TE):TS:=λD G H=>te G H D.rt
theorem aD(he:PE X e te):PS X (.Return (O e) pos) (Ag te):=by intro pins s G H D I h;exact wpAny_Return_some (ax (he pins s G H _ I h) λv s1 ⟨x,H1,I1,r1,q1⟩=>#[x,G,H1,I1,r1,q1])
def Ah(c:TT)(t u:TS):TS:=λD G H=>c G H λb H1=>if b=true then t D G H1 else u D G H1
theorem aM{c:Vh}{a b:List Vt}{tc:TT}(hc:PT X c tc)(ha:aR X a t)(hb:aR X b u):PS X (.If c a b pos) (Ah tc t u):=by
 intro pins s G H D I h;refine wpAny_If (ax (hc pins s G H _ I h) λd s1 zq=>?_);obtain⟨H1,I1,q1⟩:=zq;cases d with
 | true=>exact ha pins s1 G H1 D I1 q1
 | false=>exact hb pins s1 G H1 D I1 q1
def Hh:TS:=λy y y=>False
theorem Hi:PS X st Hh:=λy y y y y y h=>h.elim
end
abbrev TG:=V->St->Hp->(St->Hp->Prop)->Prop
abbrev kJ:=List V->St->Hp->(St->Hp->Prop)->Prop
def PG(X:Cx)(target:Vh)(t:TG):Prop :=
 ∀ (pins:List (Td × Obj)) (s:SX) (G:St) (H:Hp) (v:V) (u:SY) (Q:St->Hp->Prop),Inv X pins G H s->RelV v u->t v G H Q ->
  TX (model X.prog X.w) X.A (assign target X.env u) (λy s'=>∃ σ' H',Inv X pins σ' H' s'/\Q σ' H') X.xe s
def qZ(X:Cx)(ts:List Vh)(t:kJ):Prop :=
 ∀ (pins:List (Td × Obj)) (s:SX) (G:St) (H:Hp) (vs:List V) (us:List SY) (Q:St->Hp->Prop),Inv X pins G H s->Vals vs us->t vs G H Q ->
  TX (model X.prog X.w) X.A (assignInOrder ((Zr ts X.env).map (·.2)) us) (λy s'=>∃ σ' H',Inv X pins σ' H' s'/\Q σ' H') X.xe s
abbrev Ai:=V->V->V->Hp->(Hp->Prop)->Prop
def Hj(X:Cx)(t:Ai):Prop :=
 ∀ (pins:List (Td × Obj)) (s:SX) (G:St) (H:Hp) (o i v:V) (ov iv u:SY) (Q:Hp->Prop),Inv X pins G H s->RelV o ov->RelV i iv->RelV v u->t o i v H Q ->
  TX (model X.prog X.w) X.A (setItem ov iv u) (λy s'=>∃ H',Inv X pins G H' s'/\Q H') X.xe s
section
variable{X:Cx}{pos:Pos}
def fu(i:Nat):TG:=λv G H Q=>Q (G.set i (O v)) H
theorem mC{i:Nat}{x:Str}(hN:X.N.Nodup)(hi:X.N[i]?=O x)(hx:Loc X.env.scope x)(hf:X.fn x=true∨X.env.scope.names.lookup x=O .local:=by first|exact .inl rfl|exact .inr rfl|assumption):PG X (.Name x pos) (fu i):=by intro pins s G H v u Q I r h;exact wpAny_assign_Name (uy I hN hi hx r (λs' I'=>#[_,H,I',h]) hf)
def oj:kJ:=λvs G H Q=>vs=[]/\Q G H
def jK(t:TG)(u:kJ):kJ:=λvs G H Q=>∃ v r,vs=v::r/\t v G H λσ' H'=>u r σ' H' Q
theorem q8:qZ X [] oj:=by intro pins s G H vs us Q I r h;obtain⟨e,h⟩:=h;subst e;cases r;exact assignInOrder_nil #[G,H,I,h]
theorem jL{e:Vh}{es:List Vh}{t:TG}{u:kJ}(h1:PG X e t)(h2:qZ X es u)
 (hs:(Zr (e::es) X.env).map (·.2)=assign e X.env::(Zr es X.env).map (·.2):=by rfl):qZ X (e::es) (jK t u):=by
 intro pins s G H vs us Q I r h;obtain⟨v,vr,e1,h⟩:=h;subst e1;cases r with
 | cons r rr =>
  rw[hs];refine assignInOrder_cons (ax (h1 pins s G H _ _ _ I r h) λy s1 zq=>?_);obtain⟨σ1,H1,I1,q1⟩:=zq;exact h2 pins s1 σ1 H1 _ _ Q I1 rr q1
def q9(K:SV)(n:Nat)(t:kJ):TG:=λv G H Q=>∃ a xs,v = .ref a/\aC K H a xs/\xs.length=n/\t xs G H Q
theorem rf{es:List Vh}{k:Nat}{t:kJ}{n:Nat}(hc:X.calm=true)(h:qZ X es t)
 (hn:(Zr es X.env).length=n:=by rfl) (fy:(Zr es X.env).findIdx? (·.1)=J:=by rfl):PG X (.Tuple es k pos) (q9 X.K n t):=by
 intro pins s G H v u Q I r hw;obtain⟨a,xs,e1,hq,hl,hw⟩:=hw;subst e1;cases r;obtain⟨af,rv,ht,hz⟩:=I.tuple hq;refine assign_Tuple_tuple (I.ok.hd hc) ht (by simp[hn,<- hl,rv.length]) fy λh' hx=>?_;have I1:Inv X pins G H { s with heap:=h' }:=I.kept (t':=s.toks) λb o e=>hx b o (T6 (Tg e)) e;exact h pins _ G H xs _ Q I1 (by simpa using rv) hw
def Hk(to ti:TE)(t:Ai):TG:=λv G H Q=>to G H λo H1=>ti G H1 λi H2=>t o i v H2 λH3=>Q G H3
def uE(te:TE)(g:TG):TS:=λD G H=>te G H λx H1=>g x G H1 D.nx
theorem Hl{i:Nat}{x:Str}{e:Vh}{te:TE}{pos':Pos}(hN:X.N.Nodup)(hi:X.N[i]?=O x)(hx:Loc X.env.scope x)(he:PE X e te)(hs:Xk e (O (.Name x pos')) pos.line X.env=pure false:=by rfl)(hf:X.fn x=true∨X.env.scope.names.lookup x=O .local:=by first|exact .inl rfl|exact .inr rfl|assumption) :
 PS X (.Assign [.Name x pos'] e pos) (uE te (fu i)):=by
 intro pins s G H D I h;refine wpAny_Assign_Name (ax (he pins s G H _ I h) λv s1 zq=>?_) hs;obtain⟨y,H1,I1,r1,q1⟩:=zq;exact uy I1 hN hi hx r1 (λs2 I2=>#[_,H1,I2,q1]) hf
def Aj(c:TT)(tb:TS):TS:=λD G H=>∃ W:Nat->St->Hp->Prop,(∃ m,W m G H)/\∀ m G H,W m G H ->
 c G H λb H1=>if b=true then ∃ N:St->Hp->Prop,(∀ σ' H',N σ' H'->∃ m',m'<m/\W m' σ' H')/\tb { D with nx:=N,ct:=N,bk:=D.nx } G H1 else D.nx G H1
theorem Hm{c:Vh}{body:List Vt}{tc:TT}{tb:TS}(hp:PassesOwn (model X.prog X.w) X.A X.env X.xe)(hc:PT X c tc)(hb:aR X body tb):PS X (.While c body [] pos) (Aj tc tb):=by
 intro pins s G H D I h;obtain⟨W,⟨m0,w0⟩,turn⟩:=h;refine wpAny_While (codeAny_whileLoop (λn s'=>∃ σ' H',Inv X pins σ' H' s'/\W n σ' H') ?_ m0 #[G,H,I,w0]);rintro n s1 ⟨σ1,H1,I1,w1⟩;refine VU hp (ax (hc pins s1 σ1 H1 _ I1 (turn n σ1 H1 w1)) λb s2 zq=>?_);obtain⟨H2,I2,q2⟩:=zq;cases b with
 | true =>
  obtain⟨N,hN,q2⟩:=q2;rw[if_pos Y];refine VU hp (ax (hb pins s2 σ1 H2 _ I2 q2) λf s3 q3=>?_);cases f with
  | next =>
   obtain⟨σ3,H3,I3,n3⟩:=q3;obtain⟨m',hm,w3⟩:=hN σ3 H3 n3;exact#[m',hm,σ3,H3,I3,w3]
  | cont =>
   obtain⟨σ3,H3,I3,n3⟩:=q3;obtain⟨m',hm,w3⟩:=hN σ3 H3 n3;exact#[m',hm,σ3,H3,I3,w3]
  | brk=>exact q3
  | ret v=>exact q3
 | false =>
  rw[if_neg T7];exact VT #[σ1,H2,I2,q2]
end
structure It where
 go:Nat->Hp->Prop
 aY:Nat->Hp->V->Hp->Prop
 stop:Nat->Hp->Prop
def cF(X:Cx)(pins:List (Td × Obj))(H:Hp)(b:Td):Prop :=
 H b=J/\b≠X.env.locals/\b∉X.fs/\(b∈X.ex∨X.s₀.heap.objs.size<=b)/\(∀ x c,X.env.cells.lookup x=O c->c≠b)/\∀ p∈X.pn++pins,p.1≠b
theorem Inv.jM{X:Cx}{pins:List (Td × Obj)}{G:St}{H H':Hp}{s:SX}{b:Td}(I:Inv X pins G H s)(hb:s.heap.objs.size<=b)(hn:H' b=J):cF X pins H' b:=by
 refine#[hn,X9 (Tu I.lt hb),I.qX hb,.inr (TL I.sz hb),λx c e z=>?_,λp hp z=>?_]
 .obtain⟨v,q⟩:=I.cell x c e;exact absurd (Tu q.lt (by rw[z];exact hb)) (U8 _)
 .exact absurd (Tu (Tg (I.pin p hp).1) (by rw[z];exact hb)) (U8 _)
structure Turn(P:Tv)(w:Ul)(K:SV)(tg:Vh)(J9q:It)(fp:List Td)(it:Td)(tn:Nat->UU->Prop):Prop where
 mem:it∈fp
 obj:∀ i h,tn i h->∀ b∈fp,∃ o,h.get? b=O o/\∀ v,o.data ≠ .cell v
 keep:∀ i h h',tn i h->(∀ b∈fp,∀ o,h.get? b=O o->h'.get? b=O o)->tn i h'
 item:∀ (X:Cx),X.prog=P->X.w=w->X.K=K->X.calm=true->∀ (i:Nat) (pins:List (Td × Obj)) (s:SX) (G:St) (H:Hp) (E:SY->SX->Prop),Inv X pins G H s->(∀ b∈fp,cF X pins H b)->tn i s.heap->J9q.go i H ->
  TX (model P w) X.A (ab4 (.ref it)) (λr s1=>∃ u,r=O u /\
   TX (model P w) X.A (Wr tg (.ref it) u) (λ_ s2=>∃ x H',Inv X pins G H' s2/\RelV x u/\J9q.aY i H x H'/\tn (i+1) s2.heap/\∀ b∈fp,H' b=J) E s1) E s
 done:∀ (X:Cx),X.prog=P->X.w=w->X.K=K->X.calm=true->∀ (i:Nat) (pins:List (Td × Obj)) (s:SX) (G:St) (H:Hp) (E:SY->SX->Prop),Inv X pins G H s->(∀ b∈fp,cF X pins H b)->tn i s.heap->J9q.stop i H ->
  TX (model P w) X.A (ab4 (.ref it)) (λr s1=>r=J/\Inv X pins G H s1) E s
 self:∀ (A:Uk) (i:Nat) (s:SX) (Q:SY->SX->Prop) (E:SY->SX->Prop),tn i s.heap->Q (.ref it) s->TX (model P w) A (pyIter (.ref it)) Q E s
abbrev TI:=St->Hp->(It->Hp->Prop)->Prop
def Ak(X:Cx)(pins:List (Td × Obj))(G:St)(tg:Vh)(R:It->Hp->Prop)(oq:SY)(s2:SX):Prop :=
 ∃ (it:Td) (fp:List Td) (tn:Nat->UU->Prop) (J9q:It) (H':Hp),oq = .ref it/\Inv X pins G H' s2/\Turn X.prog X.w X.K tg J9q fp it tn/\tn 0 s2.heap/\(∀ b∈fp,cF X pins H' b)/\R J9q H'
def PI(X:Cx)(tg iter:Vh)(wi:TI):Prop :=
 ∀ (pins:List (Td × Obj)) (s:SX) (G:St) (H:Hp) (R:It->Hp->Prop),Inv X pins G H s->wi G H R ->
  TX (model X.prog X.w) X.A (eval iter X.env) (λv s1=>TX (model X.prog X.w) X.A (pyIter v) (Ak X pins G tg R) X.xe s1) X.xe s
theorem uF{M:ab5}{A:Uk}{E:SY->SX->Prop}{s:SX}{tg:Vh}{it:Td}{u:SY}{o:Obj}{n:String}{vs:Array SY}{Q:Unit->SX->Prop}(ho:s.heap.get? it=O o)(hc:o.cls = .type n)(hd:o.data = .fields vs)
 (hn:["enumerate","zip","dict_itemiterator","dict_reverseitemiterator","odict_iterator","itertools.zip_longest","itertools.pairwise"].contains n=false) (hQ:Q () s):TX M A (Wr tg (.ref it) u) Q E s:=by
 unfold Wr;cases tg<;>first
  | exact Tc hQ
  | (cases u<;>first
      | exact Tc hQ
      | (refine SW (wpAny_load ho ?_)
         rw[hc,hd];show TX M A (if (["enumerate","zip","dict_itemiterator","dict_reverseitemiterator","odict_iterator","itertools.zip_longest","itertools.pairwise"].contains n && vs[0]? == O (ZV _))=true then _ else _) Q E s;rw[if_neg (by intro h;rw[hn,Bool.false_and] at h;cases h)];exact Tc hQ))
noncomputable def jN(K:SV)(a:Td):It :=
 #[λi H=>∃ xs x,ak K H a xs/\xs[i]?=O x,λi H x H'=>H'=H/\∀ xs,ak K H a xs->xs[i]?=O x,λi H=>∃ xs,ak K H a xs/\xs.length<=i]
noncomputable def kK(K:SV)(a:Td):It :=
 #[λi H=>∃ xs x,aC K H a xs/\xs[i]?=O x,λi H x H'=>H'=H/\∀ xs,aC K H a xs->xs[i]?=O x,λi H=>∃ xs,aC K H a xs/\xs.length<=i]
noncomputable def gB(lo:Int)(n:Nat):It:=#[λi y=>i<n,λi H x H'=>H'=H/\x = .int (lo+i),λi y=>n<=i]
theorem Hn{P:Tv}{w:Ul}{K:SV}{tg:Vh}(a it:Td):Turn P w K tg (jN K a) [it] it (λi h=>h.IsListIter it a i) where
 mem:=by simp
 obj:=λi h st b hb=>by
  have e:b=it:=by simpa using hb
  subst e;obtain⟨o,e,c,d⟩:=st;exact#[o,e,λv z=>by rw[d] at z;cases z]
 keep:=λi h h' st k=>st.at λo e=>k it (by simp) o e
 item:=by intro X hP hw hK hc i pins s G H E I hf st hg;subst hP hw hK;obtain⟨xs,x,hq,hx⟩:=hg;obtain⟨af,rv,p,hz⟩:=I.list hq;obtain⟨u,hu,ru⟩:=rv.get hx;obtain⟨f0,f1,f2,f3,f4,f5⟩:=hf it (by simp);refine wpAny_pyNext_list_item st p.isList (x:=u) (by simpa using hu) λh' gC sb=>?_;have I1:Inv X pins G H { s with heap:=h' }:=I.turned (t':=s.toks) (λb o hb e=>(sb.2 b hb).trans e) f0 f1 f3 f4 f5;obtain⟨o,e,c,d⟩:=id gC;exact#[u,Y,uF (s:={ s with heap:=h' }) e c d (by decide) #[x,H,I1,ru,#[Y,λys hy=>by rw[I.qY hy hq];exact hx],gC,λb hb=>(hf b hb).1]]
 done:=by
  intro X hP hw hK hc i pins s G H E I hf st hg;subst hP hw hK;obtain⟨xs,hq,hx⟩:=hg;obtain⟨af,rv,p,hz⟩:=I.list hq;obtain⟨f0,f1,f2,f3,f4,f5⟩:=hf it (by simp);have hl:=rv.length;exact wpAny_pyNext_list_end (I.ok.hd hc) st p.isList (by simp;omega) λh' eb=>#[Y,I.turned (t':=s.toks) (λb o hb e=>eb b o hb e) f0 f1 f3 f4 f5]
 self:=λy y y y y st h=>wpAny_pyIter_listiter st h
theorem Ho{P:Tv}{w:Ul}{K:SV}{tg:Vh}(a it:Td):Turn P w K tg (kK K a) [it] it (λi h=>h.IsTupleIter it a i) where
 mem:=by simp
 obj:=λi h st b hb=>by
  have e:b=it:=by simpa using hb
  subst e;obtain⟨o,e,c,d⟩:=st;exact#[o,e,λv z=>by rw[d] at z;cases z]
 keep:=λi h h' st k=>st.at λo e=>k it (by simp) o e
 item:=by intro X hP hw hK hc i pins s G H E I hf st hg;subst hP hw hK;obtain⟨xs,x,hq,hx⟩:=hg;obtain⟨af,rv,p,hz⟩:=I.tuple hq;obtain⟨u,hu,ru⟩:=rv.get hx;obtain⟨f0,f1,f2,f3,f4,f5⟩:=hf it (by simp);refine wpAny_pyNext_tuple_item st (show s.heap.IsTuple a af.toArray from p) (x:=u) (by simpa using hu) λh' gC sb=>?_;have I1:Inv X pins G H { s with heap:=h' }:=I.turned (t':=s.toks) (λb o hb e=>(sb.2 b hb).trans e) f0 f1 f3 f4 f5;obtain⟨o,e,c,d⟩:=id gC;exact#[u,Y,uF (s:={ s with heap:=h' }) e c d (by decide) #[x,H,I1,ru,#[Y,λys hy=>by rw[I.Hg hy hq];exact hx],gC,λb hb=>(hf b hb).1]]
 done:=by
  intro X hP hw hK hc i pins s G H E I hf st hg;subst hP hw hK;obtain⟨xs,hq,hx⟩:=hg;obtain⟨af,rv,p,hz⟩:=I.tuple hq;obtain⟨f0,f1,f2,f3,f4,f5⟩:=hf it (by simp);have hl:=rv.length;exact wpAny_pyNext_tuple_end (I.ok.hd hc) st (show s.heap.IsTuple a af.toArray from p) (by simp;omega) λh' eb=>#[Y,I.turned (t':=s.toks) (λb o hb e=>eb b o hb e) f0 f1 f3 f4 f5]
 self:=λy y y y y st h=>wpAny_pyIter_tupleiter st h
theorem Hq{P:Tv}{w:Ul}{K:SV}{tg:Vh}(it:Td)(lo:Int)(n:Nat):Turn P w K tg (gB lo n) [it] it (λi h=>IsRangeIter h it (lo+(i:Nat) * 1) ((n:Int)-(i:Nat)) 1) where
 mem:=by simp
 obj:=λi h st b hb=>by
  have e:b=it:=by simpa using hb
  subst e;exact#[_,st,λv z=>by
   have z':Data.fields _=Data.cell v:=z;cases z']
 keep:=λi h h' st k=>k it (by simp) _ st
 item:=by intro X hP hw hK hc i pins s G H E I hf st hg;subst hP hw hK;obtain⟨f0,f1,f2,f3,f4,f5⟩:=hf it (by simp);have W:=Walks.range (prog:=X.prog) (w:=X.w) (I.ok.hd hc) it lo 1 n;refine W.item i s _ _ hg st λv h' tk hv gC kk=>?_;obtain⟨t,rfl⟩:=hv;have I1:Inv X pins G H { s with heap:=h',toks:=tk }:=I.turned (λb o hb e=>kk b o (by simpa using hb) e) f0 f1 f3 f4 f5;refine#[_,Y,uF (s:={ s with heap:=h',toks:=tk }) (n := "range_iterator") gC Y Y (by decide) #[.int (lo+i),H,I1,#[t,?_],#[Y,Y],gC,λb hb=>(hf b hb).1]];rw[Vp]
 done:=by
  intro X hP hw hK hc i pins s G H E I hf st hg;subst hP hw hK;obtain⟨f0,f1,f2,f3,f4,f5⟩:=hf it (by simp);exact wpAny_pyNext_range_end (I.ok.hd hc) st (by have:n<=i:=hg;omega) λh' eb=>#[Y,I.turned (t':=s.toks) (λb o hb e=>eb b o hb e) f0 f1 f3 f4 f5]
 self:=λy y y y y st h=>wpAny_pyIter_rangeiter st h
section
variable{X:Cx}{tg:Vh}
def uG(K:SV)(tl:TE):TI:=λG H R=>tl G H λx H1=>∃ a,x = .ref a/\(∃ xs,ak K H1 a xs)/\R (jN K a) H1
def uH(K:SV)(tl:TE):TI:=λG H R=>tl G H λx H1=>∃ a,x = .ref a/\(∃ xs,aC K H1 a xs)/\R (kK K a) H1
theorem kL{l:Vh}{tl:TE}(hl:PE X l tl):PI X tg l (uG X.K tl):=by
 intro pins s G H R I h;refine ax (hl pins s G H _ I h) λv s1 zq=>?_;obtain⟨x,H1,I1,r1,q1⟩:=zq;obtain⟨a,e,⟨xs,hq⟩,q⟩:=q1;subst e;cases r1;obtain⟨af,rv,p,hz⟩:=I1.list hq;refine Z8 p.isList ?_;refine#[s1.heap.objs.size,[s1.heap.objs.size],_,_,H1,Y,I1.kept (t':=s1.toks) λb o e=>Ta _ e,Hn a _,#[_,TV _ Y,Y,Y],λb hb=>?_,q];have e:b=s1.heap.objs.size:=by simpa using hb
 subst e;exact I1.jM (Th _) (I1.ah.fresh (Th _))
theorem Hr{l:Vh}{tl:TE}(hl:PE X l tl):PI X tg l (uH X.K tl):=by
 intro pins s G H R I h;refine ax (hl pins s G H _ I h) λv s1 zq=>?_;obtain⟨x,H1,I1,r1,q1⟩:=zq;obtain⟨a,e,⟨xs,hq⟩,q⟩:=q1;subst e;cases r1;obtain⟨af,rv,p,hz⟩:=I1.tuple hq;refine wpAny_pyIter_tuple (show s1.heap.IsTuple a af.toArray from p) ?_;refine#[s1.heap.objs.size,[s1.heap.objs.size],_,_,H1,Y,I1.kept (t':=s1.toks) λb o e=>Ta _ e,Ho a _,#[_,TV _ Y,Y,Y],λb hb=>?_,q];have e:b=s1.heap.objs.size:=by simpa using hb
 subst e;exact I1.jM (Th _) (I1.ah.fresh (Th _))
theorem Hs{pins:List (Td × Obj)}{G:St}{H:Hp}{s:SX}{R:It->Hp->Prop}{E:SY->SX->Prop}{lo hi:Int}{t u v:Tok}{tk:Nat}(I:Inv X pins G H s)(h1 : -(2 ^ 62)<=lo)(h2:lo<2 ^ 62)(h3 : -(2 ^ 62)<=hi)(h4:hi<2 ^ 62)
 (q:R (gB lo (hi-lo).toNat) H):TX (model X.prog X.w) X.A (pyIter (.ref s.heap.objs.size)) (Ak X pins G tg R) E { s with heap:=s.heap.push { cls:=.type "range",data:=.fields (List.toArray [.int lo t,.int hi u,.int 1 v]) },toks:=tk }:=by
 refine wpAny_pyIter_range (IsRange.new ..) (small_one h1 h2 h3 h4) ?_;have I1:Inv X pins G H { s with heap:=s.heap.push { cls:=.type "range",data:=.fields (List.toArray [.int lo t,.int hi u,.int 1 v]) },toks:=tk }:=I.kept λb o e=>Ta _ e;refine#[(s.heap.push { cls:=.type "range",data:=.fields (List.toArray [.int lo t,.int hi u,.int 1 v]) }).objs.size,[(s.heap.push { cls:=.type "range",data:=.fields (List.toArray [.int lo t,.int hi u,.int 1 v]) }).objs.size],_,_,H,Y,
  I1.kept (t':=tk) λb o e=>Ta _ e,Hq _ lo (hi-lo).toNat,?_,λb hb=>?_,q]
 .have e1:lo+((0:Nat):Int) * 1=lo:=by simp
  have e2:(((hi-lo).toNat:Nat):Int)-((0:Nat):Int)=Builtin.Range.rangeSize lo hi 1:=by rw[rangeSize_one];split<;>omega
  show IsRangeIter _ _ (lo+((0:Nat):Int) * 1) ((((hi-lo).toNat:Nat):Int)-((0:Nat):Int)) 1;rw[e1,e2];exact TV _ rfl
 .have e:b=(s.heap.push { cls:=.type "range",data:=.fields (List.toArray [.int lo t,.int hi u,.int 1 v]) }).objs.size:=by simpa using hb
  subst e;exact I1.jM (Th _) (I1.ah.fresh (Th _))
def uI(ta:TA):TI:=λG H R=>ta G H λvs H1=>∃ j:Int,vs=[.int j]/\-(2 ^ 62)<=j/\j<2 ^ 62/\R (gB 0 j.toNat) H1
def Al(ta:TA):TI:=λG H R=>ta G H λvs H1=>∃ i j:Int,vs=[.int i,.int j]/\(-(2 ^ 62)<=i/\i<2 ^ 62/\-(2 ^ 62)<=j/\j<2 ^ 62)/\R (gB i (j-i).toNat) H1
theorem rg{a:Vh}{ta:TA}{p pos:Pos}(hg:Gl X "range")(hm:X.mg "range" = J)(ha:PA X [a] ta)(hs:TZ [a] X.env=[(false,eval a X.env)]:=by rfl):PI X tg (.Call (.Name "range" p) [a] [] pos) (uI ta):=by
 intro pins s G H R I h;refine Call_ (oh I hg hm boot_range (Vz (ax (ha pos pins s G H _ I h) λus s1 zq=>?_) hs Y));obtain⟨vs,H1,I1,r1,q1⟩:=zq;obtain⟨j,e,q1,q2,q⟩:=q1;subst e;cases r1 with
 | cons r rr =>
  cases rr;obtain⟨t,rfl⟩:=r;exact call_range_1 (Hs I1 (by omega) (by omega) q1 q2 (by simpa using q))
def i4(wi:TI)(g:TG)(tb:TS):TS:=λD G H=>wi G H λJ9q H1=>∃ W:Nat->Nat->St->Hp->Prop,(∃ m,W 0 m G H1)/\∀ i m G H,W i m G H ->
 (J9q.stop i H/\D.nx G H)∨(J9q.go i H/\∃ N:St->Hp->Prop,(∀ σ' H',N σ' H'->∃ m',m'<m/\W (i+1) m' σ' H')/\∀ x H',J9q.aY i H x H'->g x G H' λσ2 H2=>tb { D with nx:=N,ct:=N,bk:=D.nx } σ2 H2)
noncomputable def mD(fp:List Td)(h:UU):List (Td × Obj):=fp.filterMap λb=>(h.get? b).map λo=>(b,o)
theorem mE{fp:List Td}{h:UU}{b:Td}{o:Obj}(hb:b∈fp)(e:h.get? b=O o):(b,o)∈mD fp h:=Yb.mpr #[b,hb,by rw[e];rfl]
theorem Ht{fp:List Td}{h:UU}{p:Td × Obj}(hp:p∈mD fp h):p.1∈fp/\h.get? p.1=O p.2:=by
 obtain⟨b,hb,e⟩:=Yb.mp hp;cases q:h.get? b with
 | none=>rw[q] at e;cases e
 | some o =>
  rw[q] at e;have e':(b,o)=p:=Option.some.inj e;subst e';exact#[hb,q]
theorem Inv.pinned{pins:List (Td × Obj)}{G:St}{H:Hp}{s:SX}{fp:List Td}(I:Inv X pins G H s)(hf:∀ b∈fp,cF X pins H b)(ho:∀ b∈fp,∃ o,s.heap.get? b=O o/\∀ v,o.data ≠ .cell v):Inv X (pins++mD fp s.heap) G H s :=
 I.kF λp hp=>(TQ.mp hp).elim (λz=>I.pin p (Te _ z)) λz=>by obtain⟨hb,e⟩:=Ht z;obtain⟨f0,f1,f2,y⟩:=hf p.1 hb;obtain⟨o,e',d⟩:=ho p.1 hb;rw[e] at e';cases e';exact#[e,f0,f1,f2,d]
theorem Inv.rh{pins pl:List (Td × Obj)}{G:St}{H:Hp}{s:SX}(I:Inv X (pins++pl) G H s):Inv X pins G H s:=I.kF λp hp=>I.pin p (Te _ (TR _ hp))
theorem i5{iter:Vh}{body:List Vt}{wi:TI}{g:TG}{tb:TS}{pos:Pos}(hp:PassesOwn (model X.prog X.w) X.A X.env X.xe)(hc:X.calm=true)(hi:PI X tg iter wi)(hg:PG X tg g)(hb:aR X body tb)
 (hs:∀ x,Vu iter X.env x=pure x:=by intro _;rfl):PS X (.For tg iter body [] pos) (i4 wi g tb):=by
 intro pins s G H D I h;refine wpAny_For (ax (hi pins s G H _ I h) λv s1 h1=>ax h1 λoq s2 h2=>?_) hs;obtain⟨it,fp,tn,J9q,H2,e,I2,T,dO,f2,W,⟨m0,w0⟩,turn⟩:=h2;subst e;have uJ:∀ {H':Hp},(∀ b∈fp,H' b=J)->∀ b∈fp,cF X pins H' b:=λhn b hb=>#[hn b hb,(f2 b hb).2]
 refine codeAny_forLoop_any (λn s'=>∃ i σ' H',Inv X pins σ' H' s'/\tn i s'.heap/\(∀ b∈fp,H' b=J)/\W i n σ' H') ?_ m0 #[0,G,H2,I2,dO,λb hb=>(f2 b hb).1,w0];rintro n s3 ⟨i,σ3,H3,I3,jO,jP,w3⟩;rcases turn i n σ3 H3 w3 with ⟨stop,qn⟩|⟨go,N,hN,step⟩
 .refine VU hp (ax (T.done X Y Y Y hc i pins s3 σ3 H3 X.xe I3 (uJ jP) jO stop) λr s4 zq=>?_);obtain⟨hr,I4⟩:=zq;subst hr;exact VT #[σ3,H3,I4,qn]
 .refine VU hp (ax (T.item X Y Y Y hc i pins s3 σ3 H3 X.xe I3 (uJ jP) jO go) λr s4 zq=>?_);obtain⟨u,hr,h4⟩:=zq;subst hr;refine VU hp (ax h4 λ_ s5 zq=>?_);obtain⟨x,H5,I5,r5,y5,gD,kM⟩:=zq;have ot:=I5.pinned (uJ kM) (T.obj _ _ gD);refine VU hp (ax (hg _ s5 σ3 H5 x u _ ot r5 (step x H5 y5)) λ_ s6 zq=>?_);obtain⟨σ6,H6,I6,q6⟩:=zq;refine VU hp (ax (hb _ s6 σ6 H6 _ I6 q6) λf s7 q7=>?_);have again:∀ {σ7:St} {H7:Hp},Inv X (pins++mD fp s5.heap) σ7 H7 s7->N σ7 H7->∃ m,m<n/\∃ i σ' H',Inv X pins σ' H' s7/\tn i s7.heap/\(∀ b∈fp,H' b=J)/\W i m σ' H':=λ{σ7 H7} I7 n7=>by obtain⟨m',hm,w7⟩:=hN σ7 H7 n7;refine#[m',hm,i+1,σ7,H7,I7.rh,T.keep _ _ _ gD λb hb o e=>(I7.pin (b,o) (Te _ (Te _ (mE hb e)))).1,λb hb=>?_,w7];obtain⟨o,e,d⟩:=T.obj _ _ gD b hb;exact (I7.pin (b,o) (Te _ (Te _ (mE hb e)))).2.1
  cases f with
  | next=>obtain⟨σ7,H7,I7,n7⟩:=q7;exact again I7 n7
  | cont=>obtain⟨σ7,H7,I7,n7⟩:=q7;exact again I7 n7
  | brk=>obtain⟨σ7,H7,I7,q7⟩:=q7;exact#[σ7,H7,I7.rh,q7]
  | ret v=>obtain⟨x7,σ7,H7,I7,r7,q7⟩:=q7;exact#[x7,σ7,H7,I7.rh,r7,q7]
end
theorem Hu{K:SV}{a:Td}{xs:List V}{g:TG}{tb:TS}{D:Ends}{G:St}{H:Hp}(Pv:Nat->St->Hp->Prop)(h0:Pv 0 G H)(hl:∀ i G H,i<=xs.length->Pv i G H->ak K H a xs)
 (hs:∀ i x G H,xs[i]?=O x->Pv i G H->g x G H λσ2 H2=>tb { D with nx:=Pv (i+1),ct:=Pv (i+1),bk:=D.nx } σ2 H2) (hd:∀ G H,Pv xs.length G H->D.nx G H) :
 ∃ W:Nat->Nat->St->Hp->Prop,(∃ m,W 0 m G H)/\∀ i m G H,W i m G H ->
  ((jN K a).stop i H/\D.nx G H)∨((jN K a).go i H/\∃ N:St->Hp->Prop,(∀ σ' H',N σ' H'->∃ m',m'<m/\W (i+1) m' σ' H')/\∀ x H',(jN K a).aY i H x H'->g x G H' λσ2 H2=>tb { D with nx:=N,ct:=N,bk:=D.nx } σ2 H2):=by
 refine#[λi m G H=>m=xs.length-i/\i<=xs.length/\Pv i G H,#[xs.length,by simp,Uq _,h0],?_];rintro i m G H ⟨rfl,hi,p⟩;have q:=hl i G H hi p;by_cases aQ:i<xs.length
 .refine .inr #[#[xs,xs[i],q,by simp[aQ]],Pv (i+1),λσ' H' p'=>#[xs.length-(i+1),by omega,Y,aQ,p'],λx H' y=>?_];obtain⟨e,y⟩:=y;subst e;exact hs i x G _ (y xs q) p
 .have e:i=xs.length:=by omega
  subst e;exact .inl #[#[xs,q,Th _],hd G H p]
theorem Hv{K:SV}{a:Td}{xs:List V}{g:TG}{tb:TS}{D:Ends}{G:St}{H:Hp}(Pv:Nat->St->Hp->Prop)(h0:Pv 0 G H)(hl:∀ i G H,i<=xs.length->Pv i G H->aC K H a xs)
 (hs:∀ i x G H,xs[i]?=O x->Pv i G H->g x G H λσ2 H2=>tb { D with nx:=Pv (i+1),ct:=Pv (i+1),bk:=D.nx } σ2 H2) (hd:∀ G H,Pv xs.length G H->D.nx G H) :
 ∃ W:Nat->Nat->St->Hp->Prop,(∃ m,W 0 m G H)/\∀ i m G H,W i m G H ->
  ((kK K a).stop i H/\D.nx G H)∨((kK K a).go i H/\∃ N:St->Hp->Prop,(∀ σ' H',N σ' H'->∃ m',m'<m/\W (i+1) m' σ' H')/\∀ x H',(kK K a).aY i H x H'->g x G H' λσ2 H2=>tb { D with nx:=N,ct:=N,bk:=D.nx } σ2 H2):=by
 refine#[λi m G H=>m=xs.length-i/\i<=xs.length/\Pv i G H,#[xs.length,by simp,Uq _,h0],?_];rintro i m G H ⟨rfl,hi,p⟩;have q:=hl i G H hi p;by_cases aQ:i<xs.length
 .refine .inr #[#[xs,xs[i],q,by simp[aQ]],Pv (i+1),λσ' H' p'=>#[xs.length-(i+1),by omega,Y,aQ,p'],λx H' y=>?_];obtain⟨e,y⟩:=y;subst e;exact hs i x G _ (y xs q) p
 .have e:i=xs.length:=by omega
  subst e;exact .inl #[#[xs,q,Th _],hd G H p]
theorem Hw{lo:Int}{n:Nat}{g:TG}{tb:TS}{D:Ends}{G:St}{H:Hp}(Pv:Nat->St->Hp->Prop)(h0:Pv 0 G H)
 (hs:∀ i G H,i<n->Pv i G H->g (.int (lo+i)) G H λσ2 H2=>tb { D with nx:=Pv (i+1),ct:=Pv (i+1),bk:=D.nx } σ2 H2) (hd:∀ G H,Pv n G H->D.nx G H) :
 ∃ W:Nat->Nat->St->Hp->Prop,(∃ m,W 0 m G H)/\∀ i m G H,W i m G H ->
  ((gB lo n).stop i H/\D.nx G H)∨((gB lo n).go i H/\∃ N:St->Hp->Prop,(∀ σ' H',N σ' H'->∃ m',m'<m/\W (i+1) m' σ' H')/\∀ x H',(gB lo n).aY i H x H'->g x G H' λσ2 H2=>tb { D with nx:=N,ct:=N,bk:=D.nx } σ2 H2):=by
 refine#[λi m G H=>m=n-i/\i<=n/\Pv i G H,#[n,by simp,Uq _,h0],?_];rintro i m G H ⟨rfl,hi,p⟩;by_cases aQ:i<n
 .refine .inr #[aQ,Pv (i+1),λσ' H' p'=>#[n-(i+1),by omega,Y,aQ,p'],λx H' y=>?_];obtain⟨e,y⟩:=y;subst e y;exact hs i G _ aQ p
 .have e:i=n:=by omega
  subst e;exact .inl #[Th _,hd G H p]
theorem Hy{c:TT}{tb:TS}{D:Ends}{G:St}{H:Hp}(Pv:St->Hp->Prop)(μ:St->Hp->Nat)(h0:Pv G H)
 (hs:∀ G H,Pv G H->c G H λb H1=>if b=true then tb { D with nx:=λσ' H'=>Pv σ' H'/\μ σ' H'<μ G H,ct:=λσ' H'=>Pv σ' H'/\μ σ' H'<μ G H,bk:=D.nx } G H1 else D.nx G H1)
 (mono:∀ G H Q Q',(∀ b H1,Q b H1->Q' b H1)->c G H Q->c G H Q'):Aj c tb D G H:=by
 refine#[λm G H=>m=μ G H/\Pv G H,#[_,Y,h0],?_];rintro m G H ⟨rfl,p⟩;refine mono G H _ _ (λb H1 q=>?_) (hs G H p);cases b with
 | true=>exact#[_,λσ' H' ⟨p',l⟩=>#[_,l,Y,p'],q]
 | false=>exact q
abbrev R2:=V->V->Hp->VK->Prop
def aT(X:Cx)(f:SY->SY->Sem SY)(r:R2):Prop :=
 ∀ (pins:List (Td × Obj)) (s:SX) (G:St) (H:Hp) (x y:V) (v u:SY) (Q:VK),Inv X pins G H s->RelV x v->RelV y u->r x y H Q ->
  TX (model X.prog X.w) X.A (f v u) (EP X pins G Q) X.xe s
def mF(X:Cx)(f:SY->Sem SY)(r:V->Hp->VK->Prop):Prop :=
 ∀ (pins:List (Td × Obj)) (s:SX) (G:St) (H:Hp) (x:V) (v:SY) (Q:VK),Inv X pins G H s->RelV x v->r x H Q ->
  TX (model X.prog X.w) X.A (f v) (EP X pins G Q) X.xe s
def gF(X:Cx)(f:SY)(r:List V->Hp->VK->Prop):Prop :=
 ∀ (pins:List (Td × Obj)) (s:SX) (G:St) (H:Hp) (xs:List V) (us:List SY) (Q:VK),Inv X pins G H s->Vals xs us->r xs H Q ->
  TX (model X.prog X.w) X.A (call f us) (EP X pins G Q) X.xe s
def kN(r:R2)(ta tb:TE):TE:=λG H Q=>ta G H λx H1=>tb G H1 λy H2=>r x y H2 Q
def Am(r:V->Hp->VK->Prop)(ta:TE):TE:=λG H Q=>ta G H λx H1=>r x H1 Q
def rI(C:Int->Int->Prop)(g:Int->Int->V):R2:=λx y H Q=>∃ i j,x = .int i/\y = .int j/\C i j/\Q (g i j) H
def eU(g:Int->Int->V):R2:=λx y H Q=>∃ i j,x = .int i/\y = .int j/\Q (g i j) H
def rU(g:Int->V):V->Hp->VK->Prop:=λx H Q=>∃ i,x = .int i/\Q (g i) H
section
variable{X:Cx}{a b c:Vh}{ta tb tc:TE}{pos:Pos}
theorem uK(ha:PE X a ta)(hb:PE X b tb){pins:List (Td × Obj)}{s:SX}{G:St}{H:Hp}{R:V->V->Hp->Prop}(I:Inv X pins G H s)
 (h:ta G H λx H1=>tb G H1 λy H2=>R x y H2) {Q:SY->SX->Prop} {f:SY->SY->Sem SY}
 (hf:∀ v u s2 x y H2,Inv X pins G H2 s2->RelV x v->RelV y u->R x y H2->TX (model X.prog X.w) X.A (f v u) Q X.xe s2) :
 TX (model X.prog X.w) X.A (eval a X.env) (λv s₁=>TX (model X.prog X.w) X.A (eval b X.env) (λu s₂=>TX (model X.prog X.w) X.A (f v u) Q X.xe s₂) X.xe s₁) X.xe s:=by
 refine ax (ha pins s G H _ I h) λv s1 zq=>?_;obtain⟨x,H1,I1,r1,q1⟩:=zq;refine ax (hb pins s1 G H1 _ I1 q1) λu s2 zq=>?_;obtain⟨y,H2,I2,r2,q2⟩:=zq;exact hf v u s2 x y H2 I2 r1 r2 q2
theorem aw{op:Operator}{r:R2}(ho:aT X (Ww op) r)(ha:PE X a ta)(hb:PE X b tb):PE X (.BinOp a op b pos) (kN r ta tb):=by intro pins s G H Q I h;exact wpAny_BinOp (uK ha hb I h λv u s2 x y H2 I2 rx ry q=>ho pins s2 G H2 x y v u Q I2 rx ry q)
theorem i6{op:UnaryOp}{r:V->Hp->VK->Prop}(ho:mF X (unaryOp op) r)(ha:PE X a ta):PE X (.UnaryOp op a pos) (Am r ta):=by intro pins s G H Q I h;exact UnaryOp_ (ax (ha pins s G H _ I h) λv s1 ⟨x,H1,I1,r1,q1⟩=>ho pins s1 G H1 x v Q I1 r1 q1)
theorem ou{f:SY->SY->Sem SY}{C:Int->Int->Prop}{g:Int->Int->Int}
 (rule:∀ (i j:Int) (t u:Tok) (s:SX) (Q:SY->SX->Prop) (E:SY->SX->Prop),C i j->Q (.int (g i j) s.toks) { s with toks:=s.toks+1 }->TX (model X.prog X.w) X.A (f (.int i t) (.int j u)) Q E s) :
 aT X f (rI C λi j=>.int (g i j)):=by
 intro pins s G H x y v u Q I rx ry h;obtain⟨i,j,rfl,rfl,hc,q⟩:=h;obtain⟨t,rfl⟩:=rx;obtain⟨t',rfl⟩:=ry;exact rule i j t t' s _ _ hc #[.int (g i j),H,I.tok _,#[_,Y],q]
theorem An{f:SY->SY->Sem SY}{g:Int->Int->Int}
 (rule:∀ (i j:Int) (t u:Tok) (s:SX) (Q:SY->SX->Prop) (E:SY->SX->Prop),Q (.int (g i j) s.toks) { s with toks:=s.toks+1 }->TX (model X.prog X.w) X.A (f (.int i t) (.int j u)) Q E s) :
 aT X f (eU λi j=>.int (g i j)):=by
 intro pins s G H x y v u Q I rx ry h;obtain⟨i,j,rfl,rfl,q⟩:=h;obtain⟨t,rfl⟩:=rx;obtain⟨t',rfl⟩:=ry;exact rule i j t t' s _ _ #[.int (g i j),H,I.tok _,#[_,Y],q]
theorem rj{f:SY->SY->Sem SY}{g:Int->Int->Bool}
 (rule:∀ (i j:Int) (t u:Tok) (s:SX) (Q:SY->SX->Prop) (E:SY->SX->Prop),Q (.bool (g i j)) s->TX (model X.prog X.w) X.A (f (.int i t) (.int j u)) Q E s) :
 aT X f (eU λi j=>.bl (g i j)):=by
 intro pins s G H x y v u Q I rx ry h;obtain⟨i,j,rfl,rfl,q⟩:=h;obtain⟨t,rfl⟩:=rx;obtain⟨t',rfl⟩:=ry;exact rule i j t t' s _ _ #[.bl (g i j),H,I,Y,q]
def Hz(i j:Int):Prop:=0<=j/\j<=1000000/\i.natAbs<2 ^ 64
def Ao(i j:Int):Prop:=(-(2 ^ 64)<i/\i<2 ^ 64)∨(-(2 ^ 64)<j/\j<2 ^ 64)
theorem Ao.ok{i j:Int}(h:Ao i j):IntMulOk i j:=by
 rcases h with ⟨h1,h2⟩|⟨h1,h2⟩
 .exact .of_left (intBits_le_64 h1 h2)
 .exact .of_right (intBits_le_64 h1 h2)
theorem HA:aT X (Ww .Add) (eU λi j=>.int (i+j)):=An λy y y y y y y q=>add_int q
theorem HB:aT X (Ww .Sub) (eU λi j=>.int (i-j)):=An λy y y y y y y q=>sub_int q
theorem HC:aT X (Ww .Mod) (rI (λy j=>0<j) λi j=>.int (i % j)):=ou λi j y y y y y hc q=>by have h1:(0:Int)<j:=hc;exact mod_int' (by omega) (by rw[Int.fmod_eq_emod_of_nonneg i (by omega)];exact q)
theorem mG:aT X (Ww .Pow) (rI Hz λi j=>.int (i ^ j.toNat)):=ou λy y y y y y y hc q=>pow_int_small hc.1 hc.2.1 hc.2.2 q
theorem HD{f:SY->Sem SY}{g:Int->Int}
 (rule:∀ (i:Int) (t:Tok) (s:SX) (Q:SY->SX->Prop) (E:SY->SX->Prop),Q (.int (g i) s.toks) { s with toks:=s.toks+1 }->TX (model X.prog X.w) X.A (f (.int i t)) Q E s) :
 mF X f (rU λi=>.int (g i)):=by
 intro pins s G H x v Q I rx h;obtain⟨i,rfl,q⟩:=h;obtain⟨t,rfl⟩:=rx;exact rule i t s _ _ #[.int (g i),H,I.tok _,#[_,Y],q]
theorem HE:mF X (unaryOp .USub) (rU λi=>.int (-i)):=HD λy y y y y q=>neg_int q
end
noncomputable def i7:V->V->Bool
 | .non,.non=>true|.non,.int _=>true|.int _,.non=>true|.non,.bl _=>true|.bl _,.non=>true|.non,.str _=>true|.str _,.non=>true
 | .int _,.int _=>true|.bl _,.bl _=>true|.str _,.str _=>true|.byt _,.byt _=>true
 | .int _,.str _=>true|.str _,.int _=>true|.bl _,.str _=>true|.str _,.bl _=>true
 | _,_=>false
def Ap:R2:=λx y H Q=>i7 x y=true/\Q (.bl (decide (x=y))) H
def Aq:R2:=λx y H Q=>i7 x y=true/\Q (.bl (!decide (x=y))) H
theorem Ar{i j:Int}:decide (V.int i=V.int j)=(i == j):=by rw[XJ];simp
theorem As{i j:Bool}:decide (V.bl i=V.bl j)=(i == j):=by rw[XJ];simp
theorem Au{i j:Str}:decide (V.str i=V.str j)=(i == j):=by rw[XJ];simp
theorem Av{i j:Array UInt8}:decide (V.byt i=V.byt j)=(i.toList == j.toList):=by rw[XJ];cases i;cases j;simp
section
variable{X:Cx}{a b c:Vh}{ta tb tc:TE}{pos:Pos}
theorem bM{pins:List (Td × Obj)}{G:St}{H:Hp}{s:SX}{Q:VK}{k k':Bool}(I:Inv X pins G H s)(q:Q (.bl k) H)(e:k=k'):EP X pins G Q (.bool k') s:=by subst e;exact#[.bl k,H,I,Y,q]
theorem HF:aT X (Vd .Eq) Ap:=by
 intro pins s G H x y v u Q I rx ry h;obtain⟨hs,q⟩:=h;cases x with
 | non =>
  cases rx;cases y with
  | non=>cases ry;exact PySem.EqNone.eq_none_none (bM I q (by simp))
  | bl j=>cases ry;exact PySem.EqNone.eq_none_bool (bM I q (by simp))
  | int j=>obtain⟨t',rfl⟩:=ry;exact PySem.EqNone.eq_none_int (bM I q (by simp))
  | str j=>obtain⟨t',rfl⟩:=ry;exact PySem.EqNone.eq_none_str (bM I q (by simp))
  | _=>exact absurd (show false=true from hs) T7
 | bl i =>
  cases rx;cases y with
  | non=>cases ry;exact PySem.EqNone.eq_bool_none (bM I q (by simp))
  | bl j=>cases ry;exact eq_bool (bM I q As)
  | str j=>obtain⟨t',rfl⟩:=ry;exact PySem.EqMixed.eq_bool_str (bM I q (by simp))
  | _=>exact absurd (show false=true from hs) T7
 | int i =>
  obtain⟨t,rfl⟩:=rx;cases y with
  | non=>cases ry;exact PySem.EqNone.eq_int_none (bM I q (by simp))
  | int j=>obtain⟨t',rfl⟩:=ry;exact eq_int (bM I q Ar)
  | str j=>obtain⟨t',rfl⟩:=ry;exact PySem.EqMixed.eq_int_str (bM I q (by simp))
  | _=>exact absurd (show false=true from hs) T7
 | str i =>
  obtain⟨t,rfl⟩:=rx;cases y with
  | non=>cases ry;exact PySem.EqNone.eq_str_none (bM I q (by simp))
  | bl j=>cases ry;exact PySem.EqMixed.eq_str_bool (bM I q (by simp))
  | int j=>obtain⟨t',rfl⟩:=ry;exact PySem.EqMixed.eq_str_int (bM I q (by simp))
  | str j=>obtain⟨t',rfl⟩:=ry;exact eq_str (bM I q Au)
  | _=>exact absurd (show false=true from hs) T7
 | byt i =>
  obtain⟨t,rfl⟩:=rx;cases y with
  | byt j=>obtain⟨t',rfl⟩:=ry;exact PySem.W.eq_bytes (bM I q Av)
  | _=>exact absurd (show false=true from hs) T7
 | _=>cases y<;>exact absurd (show false=true from hs) T7
theorem HG:aT X (Vd .NotEq) Aq:=by
 intro pins s G H x y v u Q I rx ry h;obtain⟨hs,q⟩:=h;cases x with
 | non =>
  cases rx;cases y with
  | non=>cases ry;exact PySem.EqNone.ne_none_none (bM I q (by simp))
  | bl j=>cases ry;exact PySem.EqNone.ne_none_bool (bM I q (by simp))
  | int j=>obtain⟨t',rfl⟩:=ry;exact PySem.EqNone.ne_none_int (bM I q (by simp))
  | str j=>obtain⟨t',rfl⟩:=ry;exact PySem.EqNone.ne_none_str (bM I q (by simp))
  | _=>exact absurd (show false=true from hs) T7
 | bl i =>
  cases rx;cases y with
  | non=>cases ry;exact PySem.EqNone.ne_bool_none (bM I q (by simp))
  | bl j=>cases ry;exact ne_bool (bM I q (congrArg not As))
  | str j=>obtain⟨t',rfl⟩:=ry;exact PySem.EqMixed.ne_bool_str (bM I q (by simp))
  | _=>exact absurd (show false=true from hs) T7
 | int i =>
  obtain⟨t,rfl⟩:=rx;cases y with
  | non=>cases ry;exact PySem.EqNone.ne_int_none (bM I q (by simp))
  | int j=>obtain⟨t',rfl⟩:=ry;exact ne_int (bM I q (congrArg not Ar))
  | str j=>obtain⟨t',rfl⟩:=ry;exact PySem.EqMixed.ne_int_str (bM I q (by simp))
  | _=>exact absurd (show false=true from hs) T7
 | str i =>
  obtain⟨t,rfl⟩:=rx;cases y with
  | non=>cases ry;exact PySem.EqNone.ne_str_none (bM I q (by simp))
  | bl j=>cases ry;exact PySem.EqMixed.ne_str_bool (bM I q (by simp))
  | int j=>obtain⟨t',rfl⟩:=ry;exact PySem.EqMixed.ne_str_int (bM I q (by simp))
  | str j=>obtain⟨t',rfl⟩:=ry;exact ne_str (bM I q (congrArg not Au))
  | _=>exact absurd (show false=true from hs) T7
 | byt i =>
  obtain⟨t,rfl⟩:=rx;cases y with
  | byt j=>obtain⟨t',rfl⟩:=ry;exact PySem.W.ne_bytes (bM I q (congrArg not Av))
  | _=>exact absurd (show false=true from hs) T7
 | _=>cases y<;>exact absurd (show false=true from hs) T7
theorem oy:aT X (Vd .Lt) (eU λi j=>.bl (decide (i<j))):=rj λy y y y y y y q=>lt_int q
theorem jQ:aT X (Vd .LtE) (eU λi j=>.bl (decide (i<=j))):=rj λy y y y y y y q=>le_int q
theorem Aw:aT X (Vd .Gt) (eU λi j=>.bl (decide (j<i))):=rj λy y y y y y y q=>gt_int q
theorem HH:aT X (Vd .GtE) (eU λi j=>.bl (decide (j<=i))):=rj λy y y y y y y q=>ge_int q
theorem gG(b:Vh){op:abE}(h:op ≠ .In:=by decide)(h2:op ≠ .NotIn:=by decide):VH op b=false:=by
 have e1:(op == CmpOp.In)=false:=by cases op<;>first|rfl|exact absurd Y h
 have e2:(op == CmpOp.NotIn)=false:=by cases op<;>first|rfl|exact absurd Y h2
 cases b<;>simp[VH,e1,e2]
theorem oz{op:abE}{r:R2}(ho:aT X (Vd op) r)(ha:PE X a ta)(hb:PE X b tb)(hm:VH op b=false):PE X (.Compare a [op] [b] pos) (kN r ta tb):=by intro pins s G H Q I h;exact wpAny_Compare1 (uK ha hb I h λv u s2 x y H2 I2 rx ry q=>ho pins s2 G H2 x y v u Q I2 rx ry q) hm
def uL(t:TE):TT:=λG H Q=>t G H λx H'=>∃ k,x = .bl k/\Q k H'
theorem rk{op:abE}{r:R2}(ho:aT X (Vd op) r)(ha:PE X a ta)(hb:PE X b tb)(hm:VH op b=false):PT X (.Compare a [op] [b] pos) (uL (kN r ta tb)):=by
 intro pins s G H Q I h;refine Y6 (ax (ha pins s G H _ I h) λv s1 ⟨x,H1,I1,r1,q1⟩=>ax (hb pins s1 G H1 _ I1 q1) λu s2 ⟨y,H2,I2,r2,q2⟩ =>
  ax (ho pins s2 G H2 x y v u _ I2 r1 r2 q2) λc s3 ⟨z,H3,I3,r3,k,e,q3⟩=>?_) hm
 subst e;cases r3;exact UW #[H3,I3,q3]
def uM(r r':R2)(ta tb tc:TE):TE:=λG H Q=>ta G H λx H1=>tb G H1 λy H2=>r x y H2 λz H3=>∃ k,z = .bl k /\
 (if k=true then tc G H3 λw' H4=>r' y w' H4 Q else Q (.bl false) H3)
theorem Ax{op gH:abE}{r r':R2}(ho:aT X (Vd op) r)(bI:aT X (Vd gH) r')(ha:PE X a ta)(hb:PE X b tb)(hc:PE X c tc)
 (hm:abQ [op,gH] [b,c]=false:=by with_unfolding_all rfl):PE X (.Compare a [op,gH] [b,c] pos) (uM r r' ta tb tc):=by
 intro pins s G H Q I h;refine Compare_chain (ax (ha pins s G H _ I h) λv s1 ⟨x,H1,I1,r1,q1⟩=>chain_link (ax (hb pins s1 G H1 _ I1 q1) λu s2 ⟨y,H2,I2,r2,q2⟩ =>
  ax (ho pins s2 G H2 x y v u _ I2 r1 r2 q2) λd s3 ⟨z,H3,I3,r3,k,e,q3⟩=>?_)) hm
 subst e;cases r3;refine UW ?_;cases k with
 | false=>exact ite_ff #[.bl false,H3,I3,Y,q3]
 | true=>exact ite_tt (chain_last (ax (hc pins s3 G H3 _ I3 q3) λw' s4 ⟨z',H4,I4,r4,q4⟩=>bI pins s4 G H4 y z' u w' Q I4 r2 r4 q4))
theorem HI{op gH:abE}{r r':R2}(ho:aT X (Vd op) r)(bI:aT X (Vd gH) r')(ha:PE X a ta)(hb:PE X b tb)(hc:PE X c tc)
 (hm:abQ [op,gH] [b,c]=false:=by with_unfolding_all rfl):PT X (.Compare a [op,gH] [b,c] pos) (uL (uM r r' ta tb tc)):=by
 intro pins s G H Q I h;refine isTrue_chain (ax (ha pins s G H _ I h) λv s1 ⟨x,H1,I1,r1,q1⟩=>test_link (ax (hb pins s1 G H1 _ I1 q1) λu s2 ⟨y,H2,I2,r2,q2⟩ =>
  ax (ho pins s2 G H2 x y v u _ I2 r1 r2 q2) λd s3 ⟨z,H3,I3,r3,k,e,q3⟩=>?_)) hm
 subst e;cases r3;refine UW ?_;cases k with
 | false =>
  obtain⟨k',e',q'⟩:=q3;cases e';exact ite_ff #[H3,I3,q']
 | true =>
  refine ite_tt (test_last (ax (hc pins s3 G H3 _ I3 q3) λw' s4 ⟨z',H4,I4,r4,q4⟩=>ax (bI pins s4 G H4 y z' u w' _ I4 r2 r4 q4) λd' s5 zq=>?_));obtain⟨z2,H5,I5,r5,k2,e2,q5⟩:=zq;subst e2;cases r5;exact UW #[H5,I5,q5]
theorem oA:(TB:Nat)<2 ^ 63:=by rw[V8];decide
theorem vals1{x:V}{us:List SY}(r:Vals [x] us):∃ u,us=[u]/\RelV x u:=by
 cases r with
 | cons r1 r2=>cases r2;exact#[_,Y,r1]
theorem vals2{x y:V}{us:List SY}(r:Vals [x,y] us):∃ u w',us=[u,w']/\RelV x u/\RelV y w':=by
 cases r with
 | cons r1 r2 =>
  cases r2 with
  | cons r3 r4=>cases r4;exact#[_,_,Y,r1,r3]
theorem rm:gF X (.builtin "abs") (λxs H Q=>∃ i,xs=[.int i]/\Q (.int (if i<0 then -i else i)) H):=by
 intro pins s G H xs us Q I r h;obtain⟨i,rfl,q⟩:=h;obtain⟨u,rfl,t,rfl⟩:=vals1 r;exact call_abs_int λu tk=>#[.int (if i<0 then -i else i),H,I.tok _,#[_,Y],q]
def Ay(K:SV)(x:V)(H:Hp)(n:Nat):Prop :=
 match x with
 | .str y=>y.length<=TB/\n=y.length
 | .byt y=>y.size<=TB/\n=y.size
 | .ref p=>(∃ xs,ak K H p xs/\n=xs.length) ∨ ∃ xs,aC K H p xs/\n=xs.length
 | _=>False
theorem mH:gF X (.builtin "len") (λxs H Q=>∃ x n,xs=[x]/\Ay X.K x H n/\Q (.int n) H):=by
 intro pins s G H xs us Q I r h;obtain⟨x,n,rfl,e,q⟩:=h;obtain⟨u,rfl,rx⟩:=vals1 r;have hl:=oA;have hs:TB=16777216:=V8;cases x with
 | str y =>
  obtain⟨t,rfl⟩:=rx;obtain⟨hy,e'⟩:y.length<=TB/\n=y.length:=e;subst e';exact len_str (by omega) #[.int _,H,I.tok _,#[_,Y],q]
 | byt y =>
  obtain⟨t,rfl⟩:=rx;obtain⟨hy,e'⟩:y.size<=TB/\n=y.size:=e;subst e';exact PySem.W.len_bytes (by omega) #[.int _,H,I.tok _,#[_,Y],q]
 | ref p =>
  cases rx;have e':(∃ xs,ak X.K H p xs/\n=xs.length) ∨ ∃ xs,aC X.K H p xs/\n=xs.length:=e;rcases e' with ⟨xs,hx,e'⟩|⟨xs,hx,e'⟩
  .subst e';obtain⟨af,r',pl,hz⟩:=I.list hx;have hlen:=r'.length;exact Calls.call_len_list pl.isList (by simp only[To];omega) #[.int xs.length,H,I.tok _,#[_,by simp only[To];rw[hlen]],q]
  .subst e';obtain⟨af,r',pl,hz⟩:=I.tuple hx;have hlen:=r'.length;exact len_tuple pl (by simp only[To];omega) #[.int xs.length,H,I.tok _,#[_,by simp only[To];rw[hlen]],q]
 | _=>exact (show False from e).elim
end
structure kO(h:UU)(x dx C:Td)(mA:Str->Option SY):Prop where
 obj:h.get? x=O (Vy C dx)
 ns:h.Ns1 dx mA
 ne:dx≠x
theorem HJ{h:UU}{dx:Td}{mA:Str->Option SY}(n:h.Ns1 dx mA):∃ od,h.get? dx=O od/\∀ name,Yj name od=O (mA name):=by
 obtain⟨o,es,ep,ho,hd,hk,_,hm⟩:=n;refine#[o,ho,λname=>?_];have e:=hm name;unfold nsFind findBy at e;rw[<- Array.find?_toList] at e;unfold Yj;rw[hd];dsimp only;split
 .rename_i y q;rw[q] at e;exact congrArg O e
 .rename_i q;rw[q] at e;have a:es.toList.any (·.refKey)=false:=by rw[List.any_eq_false];intro y hy;obtain⟨z,t,i8⟩:=hk y (UD.mp hy);simp[DictEntry.refKey,i8]
  have a':¬ es.toList.any (·.refKey)=true:=by rw[a];exact T7
  rw[if_neg a'];exact congrArg O e
theorem kO.look{h:UU}{x dx C:Td}{mA:Str->Option SY}(I:kO h x dx C mA):∃ od,PySem.W.InstAt h x (Vy C dx) C (O od)/\∀ name,Yj name od=O (mA name) :=
 let ⟨od,ho,hl⟩:=HJ I.ns
 #[od,#[I.obj,Y,Y,ho],hl]
section
variable{prog:Tv}{w:Ul}{A:Uk}{E:SY->SX->Prop}{s:SX}{K:SV}{x dx C f:Td}{mA:Str->Option SY}{name:Str}{v:SY}
theorem get_map{expr:Bool}{Q:SY->SX->Prop}(X:K.In s.heap)(I:kO s.heap x dx C mA)(hg:Xs K C name=true)(hh:Ys K C=true)
 (ha:TK K (.ref C) name=O J) (hv:mA name=O v) (HL:aay v=true) (h:Q v { s with toks:=s.toks+1 }) :
 TX (model prog w) A (getAttr (.ref x) name expr) Q E s:=by
 obtain⟨od,J9q,hl⟩:=I.look;exact PySem.W.get_value X J9q (XM hg).1 (PySem.W.findObj_own hh ha Y (by rw[hl,hv])) HL h
theorem HM{pl:Sem Bool}{Q:SY × List SY->SX->Prop}(X:K.In s.heap)(I:kO s.heap x dx C mA)(hg:Xs K C name=true)
 (hf:TK K (.ref C) name=O (O (.ref f))) (ht:Y7 K (.ref f)=true) (hv:mA name=J) (h:Q (.ref f,[.ref x]) s) :
 TX (model prog w) A (Y8 (.ref x) name pl) Q E s:=by
 obtain⟨od,J9q,hl⟩:=I.look;exact PySem.W.method_fn X J9q (XM hg).1 (XM hg).2 hf (beq_iff_eq.mp ht) (by show (Yj name od).map (·.isSome)=O false;rw[hl,hv];rfl) h
theorem HN{ns:List Str}{Q:Unit->SX->Prop}(X:K.In s.heap)(I:kO s.heap x dx C mA)
 (hs:TK K (.ref C) "__setattr__" = O (O (.builtin "object.__setattr__"))) (hp:Z9 K C=true) (ht:Y9 K C name=O J) (hh:Ys K C=true)
 (hw:aan mA ns) (hsz:ns.length<=TB)
 (h:∀ h',kO h' x dx C (λy=>if y=name then O v else mA y)->Heap.SameBut dx s.heap h'->Q () { s with heap:=h',toks:=s.toks+2 }) :
 TX (model prog w) A (setAttr (.ref x) name v) Q E s:=by
 obtain⟨od,J9q,hl⟩:=I.look;refine PySem.W.set_plain X J9q hs (PySem.W.osa_open (s:={ s with toks:=s.toks+1 }) (r:=J) X J9q hp ht λb=>?_);obtain⟨cd,hc,og⟩:=PySem.W.any_some hh;have hx:s.heap.get? x=O #[.ref C,O dx,.plain,(List.toArray [])]:=I.obj;refine SW (Tc (SW (SW (wpAny_loadPart hx (SW (PySem.W.Looks.here (s:={ s with toks:=s.toks+1 }) (PySem.W.looks_clsIn X hc) ?_))))));rw[og];refine Tc (a:=O dx) (SW (Tc (SW ?_)));refine wpAny_nsSet1 (s:={ s with toks:=s.toks+1 }) I.ns λh' kP gI=>?_;obtain⟨oD,Sk,Sl,HP,HQ,HR⟩:=kP.count (PySem.Within.cons name v hw);refine SW (wpAny_lookBehind HP (by rw[HQ];exact pastItsLine_dict (TL HR (by rw[Uz];omega))) ?_);exact Tc (h _ #[(gI.2 _ (UZ I.ne)).trans I.obj,kP,I.ne] gI)
theorem HS{R:abw->SX->Prop}{vs:List SY}{kw:List (Str × SY)}(X:K.In s.heap)(hm:VA K C=true)
 (hi:TK K (.ref C) "__init__" = O (O (.ref f))) (hf:Xe K (.ref f)=O (.type "function"))
 (h:XN (model prog w) (A.under (.builtin "type.__call__" #[.ref C::vs,kw])) (.call (.ref f) #[.ref (s.heap.objs.size+1)::vs,kw]) (PySem.W.InitBack (s.heap.objs.size+1) R)
   { s with heap:=(s.heap.push UY).push (Vy C s.heap.objs.size) }) :
 XN (model prog w) A (.call (.ref C) #[vs,kw]) R s:=by
 obtain⟨hh,g,d,t,os⟩:=s;exact PySem.W.make_core (PySem.W.makes_of X hm) (PySem.W.looks_findIn X hi) (λself=>PySem.W.bind_fn X self hf) (.inl rfl) h
end
noncomputable def c6(f:Str)(v:V):List (Str × V)->List (Str × V)
 | []=>[(f,v)]
 | (g,x)::r=>if g=f then (g,v)::r else (g,x)::c6 f v r
theorem Az(f g:Str)(v:V):∀ fs:List (Str × V),(c6 f v fs).lookup g=if g=f then O v else fs.lookup g
 | []=>by
  show W6 g [(f,v)]=_;by_cases h:g=f
  .have hb:(g == f)=true:=beq_iff_eq.mpr h;simp only[W6,hb,if_pos h]
  .have hb:(g == f)=false:=beq_eq_false_iff_ne.mpr h;simp only[W6,hb,if_neg h]
 | (k,x)::r=>by
  have ih:=Az f g v r;rw[show c6 f v ((k,x)::r)=(if k=f then (k,v)::r else (k,x)::c6 f v r) from Y];by_cases hk:k=f
  .rw[if_pos hk];by_cases h:g=k
   .have hb:(g == k)=true:=beq_iff_eq.mpr h;simp only[W6,hb,if_pos (h.trans hk)]
   .have hb:(g == k)=false:=beq_eq_false_iff_ne.mpr h;simp only[W6,hb,if_neg (λe:g=f=>h (e.trans hk.symm))]
  .rw[if_neg hk];by_cases h:g=k
   .have hb:(g == k)=true:=beq_iff_eq.mpr h;simp only[W6,hb,if_neg (λe:g=f=>hk (h.symm.trans e))]
   .have hb:(g == k)=false:=beq_eq_false_iff_ne.mpr h;simp only[W6,hb];exact ih
theorem uN(f:Str)(v:V):∀ fs:List (Str × V),f∈(c6 f v fs).map (·.1)/\∀ g,g∈fs.map (·.1)->g∈(c6 f v fs).map (·.1)
 | []=>#[by simp[c6],λg h=>by simp at h]
 | (k,x)::r=>by
  obtain⟨i1,i2⟩:=uN f v r;rw[show c6 f v ((k,x)::r)=(if k=f then (k,v)::r else (k,x)::c6 f v r) from Y];by_cases hk:k=f
  .rw[if_pos hk];subst hk;exact#[by simp,λg h=>by simpa using h]
  .rw[if_neg hk];refine#[?_,λg h=>?_]
   .rw[TJ];exact Uw _ i1
   .rw[TJ] at h ⊢;rcases Tz.mp h with e|e
    .exact Tz.mpr (.inl e)
    .exact Uw _ (i2 g e)
theorem uO(f:Str)(v:V):∀ fs:List (Str × V),(c6 f v fs).length<=fs.length+1
 | []=>by simp[c6]
 | (k,x)::r=>by
  have ih:=uO f v r;rw[show c6 f v ((k,x)::r)=(if k=f then (k,v)::r else (k,x)::c6 f v r) from Y];by_cases hk:k=f
  .rw[if_pos hk,Uz,Uz];omega
  .rw[if_neg hk,Uz,Uz];omega
theorem dh.some_of{v:V}{o:Option SY}(r:dh (O v) o):∃ u,o=O u/\RelV v u:=by
 cases o with
 | none=>exact (show False from r).elim
 | some u=>exact#[u,Y,r]
theorem dh.none_of{o:Option SY}(r:dh J o):o=J:=by
 cases o with
 | none=>rfl
 | some u=>exact (show False from r).elim
theorem HU{v:V}{u:SY}(r:RelV v u):aay u=true:=by
 cases v with
 | non=>cases (show u=Value.none from r);rfl
 | bl b=>cases (show u=W5 b from r);rfl
 | int i=>obtain⟨t,e⟩:=(show ∃ t,u=Value.int i t from r);cases e;rfl
 | str x=>obtain⟨t,e⟩:=(show ∃ t,u=Value.str x t from r);cases e;rfl
 | byt b=>obtain⟨t,e⟩:=(show ∃ t,u=abX b t from r);cases e;rfl
 | flt b=>obtain⟨t,e⟩:=(show ∃ t,u=abY b t from r);cases e;rfl
 | ref a=>cases (show u=Uo a from r);rfl
 | ty n=>cases (show u=Z7 n from r);rfl
section
variable{P:Tv}{w:Ul}{H H':Hp}{h h':UU}{a C dx:Td}{fs G1:List (Str × V)}
theorem uR(ah:bu P w H h)(e:H a=O (.ins C dx fs)):∃ mA,kO h a dx C mA/\(∀ f,dh (fs.lookup f) (mA f))/\aan mA (fs.map (·.1))/\fs.length<=1000/\H dx=O (.own a):=by
 obtain⟨d,z,ne,ob,mA,n,r,q⟩:=(show bH P w H h a (.ins C dx fs) from ah a _ e)
 exact#[mA,#[ob,n,ne],r,q,z,d]
end
structure bP(K:SV)(C:Td):Prop where
 pg:Xs K C Str.empty=true
 hd:Ys K C=true
 po:Z9 K C=true
 sa:TK K (.ref C) "__setattr__" = O (O (.builtin "object.__setattr__"))
theorem bP.get{K:SV}{C:Td}(c:bP K C)(f:Str):Xs K C f=true:=c.pg
def bA(K:SV)(C:Td)(f:Str):Prop:=TK K (.ref C) f=O J
theorem bA.HV{K:SV}{C:Td}{f:Str}(n:bA K C f):Y9 K C f=O J:=by unfold Y9;rw[show TK K (.ref C) f=O J from n];rfl
structure Meth(K:SV)(C:Td)(m:Str)(f:Td):Prop where
 at_:TK K (.ref C) m=O (O (.ref f))
 fn:Y7 K (.ref f)=true
 kp:Ux K (.ref f)=true
section
variable{X:Cx}{pins:List (Td × Obj)}{G:St}{H:Hp}{s:SX}{a C dx:Td}{fs:List (Str × V)}{f:Str}{v:V}{A:Uk}{E:SY->SX->Prop}
theorem HW{b:Bool}{Q:SY->SX->Prop}(I:Inv X pins G H s)(e:H a=O (.ins C dx fs))(c:bP X.K C)(n:bA X.K C f)(l:fs.lookup f=O v)
 (h:∀ u s',Inv X pins G H s'->RelV v u->Q u s'):TX (model X.prog X.w) A (getAttr (.ref a) f b) Q E s:=by
 obtain⟨mA,O9q,r,y,y,y⟩:=uR I.ah e;obtain⟨u,hu,ru⟩:=dh.some_of (v:=v) (o:=mA f) (by rw[<- l];exact r f);exact get_map I.cw O9q (c.get f) c.hd n hu (HU ru) (h u _ (I.tok _) ru)
theorem uS{m:Str}{g:Td}{pl:Sem Bool}{Q:SY × List SY->SX->Prop}(I:Inv X pins G H s)(e:H a=O (.ins C dx fs))(c:bP X.K C)(k:Meth X.K C m g)(l:fs.lookup m=J)
 (h:Q (.ref g,[.ref a]) s):TX (model X.prog X.w) A (Y8 (.ref a) m pl) Q E s:=by
 obtain⟨mA,O9q,r,y,y,y⟩:=uR I.ah e;have hn:mA m=J:=dh.none_of (by rw[<- l];exact r m);exact HM I.cw O9q (c.get m) k.at_ k.fn hn h
theorem HX{y:V}{u:SY}{Q:Unit->SX->Prop}(I:Inv X pins G H s)(e:H a=O (.ins C dx fs))(c:bP X.K C)(n:bA X.K C f)(hl:fs.length<1000)(ry:RelV y u)
 (h:∀ s',Inv X pins G (upd H a (.ins C dx (c6 f y fs))) s'->Q () s'):TX (model X.prog X.w) A (setAttr (.ref a) f u) Q E s:=by
 obtain⟨mA,O9q,r,wi,v,ho⟩:=uR I.ah e;have hz:(fs.map (·.1)).length<=TB:=by rw[Tn,V8];omega
 refine HN I.cw O9q c.sa c.po n.HV c.hd wi hz λh' O' sb=>h _ ?_;have hd:∃ o,h'.get? dx=O o:=let ⟨o,_,_,e',_⟩:=O'.ns;#[o,e'];refine I.write (x:=a) (e:=dx) (by rw[e];exact XD) (.inr ho) (λb q hb z=>(sb.2 b hb).trans z) hd ?_;refine#[by rw[az O9q.ne];exact ho,?_,O9q.ne,O'.obj,_,O'.ns,λg=>?_,λg hg=>?_]
 .have:=uO f y fs;omega
 .show dh ((c6 f y fs).lookup g) (if g=f then O u else mA g);rw[Az];by_cases q:g=f
  .rw[if_pos q,if_pos q];exact ry
  .rw[if_neg q,if_neg q];exact r g
 .by_cases q:g=f
  .rw[q];exact (uN f y fs).1
  .refine (uN f y fs).2 g (wi g λz=>hg ?_);show (if g=f then O u else mA g)=J;rw[if_neg q];exact z
theorem Inv.made(I:Inv X pins G H s):Inv X pins G (upd (upd H s.heap.objs.size (.own (s.heap.objs.size+1))) (s.heap.objs.size+1) (.ins C s.heap.objs.size []))
 { s with heap:=(s.heap.push UY).push (Vy C s.heap.objs.size) }:=by
 have e1:(s.heap.push UY).get? s.heap.objs.size=O UY:=TV s.heap rfl;have e2:((s.heap.push UY).push (Vy C s.heap.objs.size)).get? (s.heap.objs.size+1)=O (Vy C s.heap.objs.size):=by
  have:=TV (s.heap.push UY) (o:=Vy C s.heap.objs.size) rfl
  rwa [Yk] at this
 have e3:(s.heap.push UY).Ns s.heap.objs.size (λy=>J):=#[UY,(List.toArray []),_,e1,Y,(λe he=>absurd he (by simp)),λy=>rfl]
 have I1:=I.laid (a:=s.heap.objs.size) (o:=.own (s.heap.objs.size+1)) (h':=s.heap.push UY) (t':=s.toks) (λb u q=>Ta _ q) (Th _) #[_,e1];refine I1.laid (a:=s.heap.objs.size+1) (o:=.ins C s.heap.objs.size []) (t':=s.toks) (λb u q=>Ta _ q) (abR (Yk _ _)) ?_;have ne:s.heap.objs.size≠s.heap.objs.size+1:=T6 (aaz _);refine#[by rw[az ne,ao],Uq _,ne,e2,λy=>J,(Heap.Ns1.of_empty e3).at λo q=>Ta _ q,λy=>XD,λy hy=>absurd Y hy]
theorem HY{prog:Tv}{w:Ul}{env:Env}{e:Vh}{f:Str}{pos:Pos}{s:SX}{Q:SY->SX->Prop}(hb:WX e f env (eval e env)=eval e env)
 (h:TX (model prog w) A (eval e env) (λo s₁=>TX (model prog w) A (getAttr o f true) Q E s₁) E s):TX (model prog w) A (eval (.Attribute e f pos) env) Q E s :=
 Attribute_any_ h (by rw[arm_eval_Attribute,hb])
end
def AA(K:SV)(ta:TE)(f:Str):TE:=λG H Q=>ta G H λx H1=>∃ a C dx fs v,x = .ref a/\H1 a=O (.ins C dx fs)/\bP K C/\bA K C f/\fs.lookup f=O v/\Q v H1
def AB(K:SV)(ta tv:TE)(f:Str):TS:=λD G H=>tv G H λy H1=>ta G H1 λx H2=>∃ a C dx fs,x = .ref a/\H2 a=O (.ins C dx fs)/\bP K C/\bA K C f/\fs.length<1000 /\
 D.nx G (upd H2 a (.ins C dx (c6 f y fs)))
section
variable{X:Cx}{o e value:Vh}{f:Str}{pos pos' HZ:Pos}{ta tv:TE}
theorem Ia(he:PE X e ta)(hb:WX e f X.env (eval e X.env)=eval e X.env):PE X (.Attribute e f pos) (AA X.K ta f):=by
 intro pins s G H Q I h;refine HY hb (ax (he pins s G H _ I h) λu s1 zq=>?_);obtain⟨x,H1,I1,rx,a,C,dx,fs,v,ex,ea,c,n,l,q⟩:=zq;subst ex;obtain rfl:u=Uo a:=rx;exact HW I1 ea c n l λu' s2 I2 ru=>#[v,H1,I2,ru,q]
theorem Ib(ha:PE X o ta)(hv:PE X value tv)(hs:Xk value (O (.Attribute o f pos')) pos.line X.env=pure false):PS X (.Assign [.Attribute o f pos'] value pos) (AB X.K ta tv f):=by
 intro pins s G H D I h;refine plainObj_wpAny_Assign_Attribute (ax (hv pins s G H _ I h) λu s1 ⟨y,H1,I1,ry,q⟩=>ax (ha pins s1 G H1 _ I1 q) λov s2 zq=>?_) hs;obtain⟨x,H2,I2,rx,a,C,dx,fs,ex,ea,c,n,l,q2⟩:=zq;subst ex;obtain rfl:ov=Uo a:=rx;exact HX I2 ea c n l ry λs3 I3=>#[G,_,I3,q2]
end
section
variable{X:Cx}{pins:List (Td × Obj)}{G:St}{H:Hp}{s:SX}{A:Uk}{E:SY->SX->Prop}{Q:SY->SX->Prop}{c:SY}{b:Bool}
inductive fY(K:SV)(H:Hp):V->SY->Prop where
 | non:fY K H .non (.type "NoneType")
 | bl (x:Bool):fY K H (.bl x) (.type "bool")
 | int (i:Int):fY K H (.int i) (.type "int")
 | str (x:Str):fY K H (.str x) (.type "str")
 | flt (x:UInt64):fY K H (.flt x) (.type "float")
 | lst {a:Td} {xs:List V} (e:H a=O (.lst xs)):fY K H (.ref a) (.type "list")
 | dw {a:Td} {o:Obj} {xs:List V} (e:H a=O (.dw o (.lst xs))):fY K H (.ref a) (.type "list")
 | tup {a:Td} {xs:List V} (e:H a=O (.tup xs)):fY K H (.ref a) (.type "tuple")
 | dK {a:Td} {kvs:List (Key × V)} (e:H a=O (.dK kvs)):fY K H (.ref a) (.type "dict")
 | dT {a:Td} {kvs:List (List Key × V)} (e:H a=O (.dT kvs)):fY K H (.ref a) (.type "dict")
 | ins {a C dx:Td} {fs:List (Str × V)} (e:H a=O (.ins C dx fs)) (cl:bP K C) (ha:TK K (.ref C) "__class__" = O (O (.builtin "object.__class__")))
  (hn:Yt K (.builtin "object.__class__") "__get__" = O (O (.builtin "getset_descriptor.__get__"))) (Sm:PySem.W.takesIn K (.builtin "object.__class__")=O true)
  (hm:PySem.W.mroIn K C (.type "object")=O true):fY K H (.ref a) (.ref C)
end
structure aZ(k:Nat)(A:Uk):Prop where
 hd:A.handled=J
 dp:A.depth+3 * k+5<recursionLimit
 un:A.units+16 * k+200<Zz
theorem aZ.mono{j k:Nat}{A:Uk}(r:aZ k A)(h:j<=k):aZ j A:=#[r.hd,by have:=r.dp;omega,by have:=r.un;omega]
theorem aZ.deeper{k:Nat}{A:Uk}(r:aZ (k+1) A)(env:Env):aZ k (A.deeper env) :=
 #[r.hd,by have:=r.dp;show A.depth+1+3 * k+5<_;omega,by have:=r.un;show A.units+3+16 * k+200<_;omega]
theorem Ic{A:Uk}{C:Td}{us:List SY}{kw:List (Str × SY)}:(A.under (.builtin "type.__call__" #[.ref C::us,kw])).depth=A.depth+1:=by
 first|rfl|simp[Around.under,Code.weight,Code.isCreation,Code.isGuard,Code.isCaller,Code.frames,Code.isFrame,guardIds]
theorem Ie{A:Uk}{C:Td}{us:List SY}{kw:List (Str × SY)}:(A.under (.builtin "type.__call__" #[.ref C::us,kw])).units=A.units+1:=by
 first|rfl|simp[Around.under,Code.cUnits,Code.frames,Code.isFrame]
theorem aZ.make{k:Nat}{A:Uk}(r:aZ (k+1) A)(C:Td)(us:List SY)(kw:List (Str × SY)):aZ k (A.under (.builtin "type.__call__" #[.ref C::us,kw])) :=
 #[r.hd,by have:=r.dp;rw[Ic];omega,by have:=r.un;rw[Ie];omega]
theorem aZ.depth{k:Nat}{A:Uk}(r:aZ k A):A.depth<recursionLimit:=by have:=r.dp;omega
theorem aZ.units{k:Nat}{A:Uk}(r:aZ k A):A.units+64<Zz:=by have:=r.un;omega
def rn:TA:=λy H Q=>Q [] H
def uT(ta:TE)(tr:TA):TA:=λG H Q=>ta G H λx H1=>tr G H1 λxs H2=>Q (x::xs) H2
section
variable{X:Cx}{e:Vh}{es:List Vh}{te:TE}{t:TA}{pos:Pos}
theorem ai:PA X [] rn:=λy y y y H Q I h=>W7 #[[],H,I,.nil,h]
theorem ae(ha:PE X e te)(hr:PA X es t)(hs:TZ (e::es) X.env=(false,eval e X.env)::TZ es X.env:=by rfl):PA X (e::es) (uT te t):=by
 intro pos pins s G H Q I h;rw[hs];show TX _ _ (spliced ((false,eval e X.env)::Wm pos (TZ es X.env))) _ _ s;refine Wn (ax (ha pins s G H _ I h) λu s1 zq=>?_);obtain⟨x,H1,I1,r1,q1⟩:=zq;exact ax (hr pos pins s1 G H1 _ I1 q1) λus s2 ⟨xs,H2,I2,r2,q2⟩=>#[x::xs,H2,I2,.cons r1 r2,q2]
def AD(t:TA):TE:=λG H Q=>t G H λxs H1=>xs.length<=TB/\∀ p,H1 p=J->Q (.ref p) (upd H1 p (.tup xs))
def AE(t:TA):TE:=λG H Q=>t G H λxs H1=>xs.length<=TB/\∀ p,H1 p=J->Q (.ref p) (upd H1 p (.lst xs))
theorem bw{x1}(h:PA X es t):PE X (.Tuple es x1 pos) (AD t):=by intro pins s G H Q I hq;refine wpAny_Tuple_spliced (ax (h pos pins s G H _ I hq) λus s1 ⟨xs,H1,I1,r,z,q⟩=>#[by rw[<- r.length];exact z,?_]);have hf:H1 s1.heap.objs.size=J:=I1.ah.fresh (Th _);refine#[.ref s1.heap.objs.size,upd H1 s1.heap.objs.size (.tup xs),I1.laid (t':=s1.toks) (λb u e=>Ta _ e) (Th _) ?_,Y,q _ hf];exact#[z,us,r,#[_,TV _ Y,Y,_,Y]]
theorem eV(h:PA X es t):PE X (.List es pos) (AE t):=by intro pins s G H Q I hq;refine wpAny_List_spliced (ax (h pos pins s G H _ I hq) λus s1 ⟨xs,H1,I1,r,z,q⟩=>#[by rw[<- r.length];exact z,?_]);have hf:H1 s1.heap.objs.size=J:=I1.ah.fresh (Th _);refine#[.ref s1.heap.objs.size,upd H1 s1.heap.objs.size (.lst xs),I1.laid (t':=s1.toks) (λb u e=>Ta _ e) (Th _) ?_,Y,q _ hf];exact#[z,us,0,r,TV _ Y]
end
abbrev Sp:=List V->Hp->VK->XK->Prop
abbrev cU:=List Env->Hp->SX->XK->SY->SX->Prop
structure kQ(P:Tv)(w:Ul)(K:SV)(mg:Str->Option SY)(base:UU)(A:Uk)(outer:List Env)(s:SX)(H:Hp):Prop where
 frames:A.frames=O outer
 mod:Mod K mg base
 bs:∀ b o,base.get? b=O o->s.heap.get? b=O o/\H b=J
 bsz:base.objs.size<=s.heap.objs.size
 dZ:s.heap.FunFrames base outer
 frf:∀ b∈ay outer,H b=J
 ah:bu P w H s.heap
 bare:YD s.gens
def CE(outer:List Env)(P:Tv)(w:Ul)(H:Hp)(s:SX)(Q:VK)(u:SY)(s':SX):Prop :=
 ∃ v H',s'.os=s.os/\YD s'.gens/\Un (ay outer) [] H H' s.heap s'.heap/\bu P w H' s'.heap/\RelV v u/\Q v H'
def CR(CX:cU)(outer:List Env)(P:Tv)(w:Ul)(H:Hp)(s:SX)(Q:VK)(E:XK)(r:abw)(s':SX):Prop :=
 match r with
 | .ok (.ret u)=>CE outer P w H s Q u s'
 | .ok _=>False
 | .error e=>CX outer H s E e s'
structure cn(P:Tv)(w:Ul)(K:SV)(mg:Str->Option SY)(base:UU)(CX:cU)(k:Nat)(f:Td)(fd:Vg)(ps:List Str)(sp:Sp):Prop where
 len:∀ vs H Q E,sp vs H Q E->vs.length=ps.length
 run:∀ (A:Uk) (outer:List Env) (s:SX) (H:Hp) (args:Args) (us:List SY) (vs:List V) (Q:VK) (E:XK),aZ k A->kQ P w K mg base A outer s H->aaa s fd args (ps.zip us)->Vals vs us->sp vs H Q E ->
  XN (model P w) A (.call (.ref f) args) (CR CX outer P w H s Q E) s
theorem cn.imp{P:Tv}{w:Ul}{K:SV}{mg:Str->Option SY}{base:UU}{CX:cU}{k:Nat}{f:Td}{fd:Vg}{ps:List Str}{sp AF:Sp}(F:cn P w K mg base CX k f fd ps sp)
 (h:∀ vs H Q E,AF vs H Q E->sp vs H Q E):cn P w K mg base CX k f fd ps AF :=
 #[λvs H Q E q=>F.len vs H Q E (h _ _ _ _ q),λA outer s H args us vs Q E hr he hb hv hs=>F.run A outer s H args us vs Q E hr he hb hv (h _ _ _ _ hs)]
theorem kQ.make{P:Tv}{w:Ul}{K:SV}{mg:Str->Option SY}{base:UU}{A:Uk}{outer:List Env}{s:SX}{H:Hp}(e:kQ P w K mg base A outer s H)(C:Td)(us:List SY)(kw:List (Str × SY)) :
 kQ P w K mg base (A.under (.builtin "type.__call__" #[.ref C::us,kw])) outer s H:=#[by first|exact e.frames|(simpa [Around.under,Code.envs,Code.isFrame,pushEnvs] using e.frames),e.mod,e.bs,e.bsz,e.dZ,e.frf,e.ah,e.bare]
section
variable{X:Cx}{pins:List (Td × Obj)}{G:St}{H:Hp}{s s':SX}
theorem Inv.uU(I:Inv X pins G H s):kQ X.prog X.w X.K X.mg X.base X.A X.stack s H :=
 #[I.ok.frames,I.ok.mod,I.bs,TL I.ok.bsz I.sz,I.stack,I.jH,I.ah,I.bare]
theorem Inv.after{Q:VK}{u:SY}(I:Inv X pins G H s)(h:CE X.stack X.prog X.w H s Q u s'):EP X pins G Q u s':=by obtain⟨v,H',os,bare,un,ah,r,q⟩:=h;obtain⟨hh,g,d,t,rp⟩:=s';obtain rfl:rp=s.os:=os;exact#[v,H',I.call (h':=hh) (g':=g) (d':=d) (t':=t) (ch:=[]) un ah bare (λb z=>absurd z (by simp)),r,q]
end
def mI(sp:Sp)(a9:List V)(E:XK)(t:TA):TE:=λG H Q=>t G H λvs H1=>sp (vs++a9) H1 Q E
def uV(C:Td)(m:Str)(sp:Sp)(a9:List V)(E:XK)(ta:TE)(t:TA):TE:=λG H Q=>ta G H λx H1=>∃ a dx fs,x = .ref a/\H1 a=O (.ins C dx fs)/\fs.lookup m=J /\
 t G H1 λvs H2=>sp (x::(vs++a9)) H2 Q E
def AG(C:Td)(sp:Sp)(a9:List V)(E:XK)(t:TA):TE:=λG H Q=>t G H λvs H1=>∀ x dx,H1 x=J->H1 dx=J->dx≠x ->
 sp (.ref x::(vs++a9)) (upd (upd H1 dx (.own x)) x (.ins C dx [])) (λv H2=>v = .non/\Q (.ref x) H2) E
def Binds(K:SV)(fd:Vg)(ps:List Str)(ds:List SY):Prop :=
 ∀ (s:SX) (us:List SY),K.In s.heap->(us++ds).length=ps.length->aaa s fd #[us,[]] (ps.zip (us++ds))
theorem Binds.all{K:SV}{fd:Vg}{ps:List Str}(h:∀ us:List SY,us.length=ps.length->bindArgs fd #[us,[]]=pure (ps.zip us)):Binds K fd ps []:=λs us y hl=>by rw[TF] at hl ⊢;exact .of_eq (h us hl)
def Passes(CX:cU)(X:Cx)(E:XK):Prop:=∀ (pins:List (Td × Obj)) (G:St) (H:Hp) (s:SX) (e:SY) (s':SX),Inv X pins G H s->CX X.stack H s E e s'->X.xe e s'
section
variable{X:Cx}{CX:cU}{k:Nat}{f C:Td}{fd:Vg}{ps:List Str}{sp:Sp}{a9:List V}{ds:List SY}{E:XK}{x m:Str}{p pos apos:Pos}{e o:Vh}{es:List Vh}{ta:TE}{t:TA}
theorem oB{pins:List (Td × Obj)}{G:St}{H:Hp}{s:SX}{Q:VK}{us:List SY}{vs:List V}(F:cn X.prog X.w X.K X.mg X.base CX k f fd ps sp)(hr:aZ k X.A)(hb:Binds X.K fd ps ds)(hd:Vals a9 ds)(hx:Passes CX X E)
 (I:Inv X pins G H s) (r:Vals vs us) (h:sp (vs++a9) H Q E):TX (model X.prog X.w) X.A (call (.ref f) us) (EP X pins G Q) X.xe s:=by
 have r2:Vals (vs++a9) (us++ds):=r.append hd;have hl:(us++ds).length=ps.length:=by rw[<- r2.length];exact F.len _ _ _ _ h
 refine abx (Yc (F.run X.A X.stack s H #[us,[]] (us++ds) (vs++a9) Q E hr I.uU (hb s us I.cw hl) r2 h) λr s' hq=>?_);cases r with
 | error e=>exact hx pins G H s e s' I hq
 | ok fl =>
  cases fl with
  | ret u=>exact I.after hq
  | next=>exact UX hq
  | brk=>exact UX hq
  | cont=>exact UX hq
theorem rq(F:cn X.prog X.w X.K X.mg X.base CX k f fd ps sp)(hr:aZ k X.A)(hg:Gl X x)(hm:X.mg x=O (.ref f))(hk:Ux X.K (.ref f)=true)(hb:Binds X.K fd ps ds)(hd:Vals a9 ds)(hx:Passes CX X E)
 (ha:PA X (e::es) t) (d6:(x == ("__debug__" : Str))=false:=by decide) (he:TZ (e::es) X.env=(false,eval e X.env)::TZ es X.env:=by rfl) (cG:(Wm pos (TZ es X.env)).any (·.1)=false:=by rfl) :
 PE X (.Call (.Name x p) (e::es) [] pos) (mI sp a9 E t):=by
 intro pins s G H Q I h;refine Wo (kH I hg hm ?_ d6);refine VI (h₀:=X.base) I.ok.mod.kin hk (ax (ha pos pins s G H _ I h) λus s1 ⟨vs,H1,I1,r,q⟩=>#[I1.cw,?_]) he cG;exact oB F hr hb hd hx I1 r q
theorem c7{pl:Sem Bool}(he:PE X o ta)(c:bP X.K C)(hm:Meth X.K C m f)(F:cn X.prog X.w X.K X.mg X.base CX k f fd ps sp)(hr:aZ k X.A)(hb:Binds X.K fd ps ds)(hd:Vals a9 ds)(hx:Passes CX X E)(ha:PA X (e::es) t)
 (fy:TZ (e::es) X.env=(false,eval e X.env)::TZ es X.env:=by rfl) (cG:(Wm pos (TZ es X.env)).any (·.1)=false:=by rfl)
 (ht:eval (.Call (.Attribute o m apos) (e::es) [] pos) X.env=(do
   let ov <- eval o X.env
   aaS apos.atName
   let (f,first) <- holding [ov] (Y8 ov m pl)
   abF pos f first (Wm pos (TZ (e::es) X.env)) (Zs pos (W8 [] X.env))):=by rfl) :
 PE X (.Call (.Attribute o m apos) (e::es) [] pos) (uV C m sp a9 E ta t):=by
 intro pins s G H Q I h;refine Ws (pl:=pl) (ax (he pins s G H _ I h) λu s1 zq=>?_) ht;obtain⟨x,H1,I1,rx,a,dx,fs,ex,ea,l,q⟩:=zq;subst ex;obtain rfl:u=Uo a:=rx;refine uS I1 ea c hm l ?_;refine VI (first:=[.ref a]) (h₀:=X.base) I.ok.mod.kin hm.kp (ax (ha pos pins s1 G H1 _ I1 q) λus s2 ⟨vs,H2,I2,r,q2⟩=>#[I2.cw,?_]) fy cG;exact oB (us:=.ref a::us) (vs:=.ref a::vs) F hr hb hd hx I2 (.cons rfl r) q2
theorem AH{pl:Sem Bool}(he:PE X o ta)(c:bP X.K C)(hm:Meth X.K C m f)(F:cn X.prog X.w X.K X.mg X.base CX k f fd ps sp)(hr:aZ k X.A)(hb:Binds X.K fd ps ds)(hd:Vals a9 ds)(hx:Passes CX X E)
 (ht:eval (.Call (.Attribute o m apos) [] [] pos) X.env=(do
   let ov <- eval o X.env
   aaS apos.atName
   let (f,first) <- holding [ov] (Y8 ov m pl)
   abF pos f first (Wm pos (TZ [] X.env)) (Zs pos (W8 [] X.env))):=by rfl) :
 PE X (.Call (.Attribute o m apos) [] [] pos) (uV C m sp a9 E ta rn):=by
 intro pins s G H Q I h;refine Ws (pl:=pl) (ax (he pins s G H _ I h) λu s1 zq=>?_) ht;obtain⟨x,H1,I1,rx,a,dx,fs,ex,ea,l,q⟩:=zq;subst ex;obtain rfl:u=Uo a:=rx;refine uS I1 ea c hm l ?_;exact PySem.W.callWith_K0 (first:=[.ref a]) I1.cw hm.kp (oB (us:=[.ref a]) (vs:=[.ref a]) F hr hb hd hx I1 (.cons rfl .nil) q)
structure Mk(K:SV)(C f:Td):Prop where
 makes:VA K C=true
 init:TK K (.ref C) "__init__" = O (O (.ref f))
 fn:Y7 K (.ref f)=true
 kp:Ux K (.ref C)=true
theorem Ig{pins:List (Td × Obj)}{G:St}{H:Hp}{s:SX}{Q:VK}{us:List SY}{vs:List V}(M:Mk X.K C f)(F:cn X.prog X.w X.K X.mg X.base CX k f fd ps sp)(hr:aZ (k+1) X.A)(hb:Binds X.K fd ps ds)(hd:Vals a9 ds)
 (hx:Passes CX X E) (I:Inv X pins G H s) (r:Vals vs us)
 (h:∀ x dx,H x=J->H dx=J->dx≠x->sp (.ref x::(vs++a9)) (upd (upd H dx (.own x)) x (.ins C dx [])) (λv H2=>v = .non/\Q (.ref x) H2) E) :
 TX (model X.prog X.w) X.A (call (.ref C) us) (EP X pins G Q) X.xe s:=by
 have hq:=h (s.heap.objs.size+1) s.heap.objs.size (I.ah.fresh (ZK _)) (I.ah.fresh (Th _)) (T6 (aaz _));have I2:=Inv.made (C:=C) I;have r2:Vals (V.ref (s.heap.objs.size+1)::(vs++a9)) (Uo (s.heap.objs.size+1)::(us++ds)):=.cons rfl (r.append hd);have hl:(Uo (s.heap.objs.size+1)::us++ds).length=ps.length:=by have e:=r2.length;rw[F.len _ _ _ _ hq] at e;exact e.symm
 refine abx (HS (f:=f) I.cw M.makes M.init (beq_iff_eq.mp M.fn) (Yc (F.run _ X.stack _ _ #[Uo (s.heap.objs.size+1)::us,[]] (Uo (s.heap.objs.size+1)::(us++ds)) _ _ E (hr.make C us [])
  (I2.uU.make C us []) (hb _ (Uo (s.heap.objs.size+1)::us) I2.cw hl) r2 hq) λr s' oE=>?_))
 cases r with
 | error e=>exact hx pins G _ _ e s' I2 oE
 | ok fl =>
  cases fl with
  | ret u =>
   obtain⟨v,H',I3,rv,ev,q3⟩:=I2.after oE;subst ev;exact#[rv,#[V.ref (s.heap.objs.size+1),H',I3,Y,q3]]
  | next=>exact UX oE
  | brk=>exact UX oE
  | cont=>exact UX oE
theorem oF(M:Mk X.K C f)(F:cn X.prog X.w X.K X.mg X.base CX k f fd ps sp)(hr:aZ (k+1) X.A)(hg:Gl X x)(hm:X.mg x=O (.ref C))(hb:Binds X.K fd ps ds)(hd:Vals a9 ds)(hx:Passes CX X E)
 (ha:PA X (e::es) t) (d6:(x == ("__debug__" : Str))=false:=by decide) (he:TZ (e::es) X.env=(false,eval e X.env)::TZ es X.env:=by rfl) (cG:(Wm pos (TZ es X.env)).any (·.1)=false:=by rfl) :
 PE X (.Call (.Name x p) (e::es) [] pos) (AG C sp a9 E t):=by
 intro pins s G H Q I h;refine Wo (kH I hg hm ?_ d6);refine VI (h₀:=X.base) I.ok.mod.kin M.kp (ax (ha pos pins s G H _ I h) λus s1 ⟨vs,H1,I1,r,q⟩=>#[I1.cw,?_]) he cG;exact Ig M F hr hb hd hx I1 r q
end
section
variable{X:Cx}{CX:cU}{k:Nat}{f C:Td}{fd:Vg}{ps ks:List Str}{sp:Sp}{E:XK}{x m:Str}{p pos apos Sn:Pos}{e o:Vh}{es:List Vh}{So:List aab}{te ta:TE}{t tk:TA}{nm:Option Str}
variable{g:List SY->List SY->List SY}{gV:List V->List V->List V}
end
structure mJ(N P:List Str)(sc:Xj):Prop where
 kind:sc.kind = .function
 co:sc.isCoroutine=false
 gen:sc.isGenerator=false
 nd:N.Nodup
 pre:N.take P.length=P
 par:∀ x∈P,sc.names.lookup x=O .local∨sc.names.lookup x=O .cell
 nofree:∀ y∈sc.names,y.2 ≠ .free
theorem AI{Xx:Str->Option Zt}{x:Str}:∀ {binds:List (Str × SY)} {m:Str->Option SY},(∀ v,(x,v)∉binds)->abZ Xx binds m x=m x
 | [],_,_=>rfl
 | (n,v)::r,m,h=>by
  unfold abZ;rw[AI λw hw=>h w (Uw _ hw)];split
  .have:x≠n:=by rintro rfl;exact h v WW
   simp[this]
  .rfl
theorem AJ{Xx:Str->Option Zt}{x:Str}:∀ {binds:List (Str × SY)} {m:Str->Option SY},(∀ v,(x,v)∉binds)->ab0 Xx binds m x=m x
 | [],_,_=>rfl
 | (n,v)::r,m,h=>by
  unfold ab0;rw[AJ λw hw=>h w (Uw _ hw)];split
  .rfl
  .have:x≠n:=by rintro rfl;exact h v WW
   simp[this]
theorem AK{Xx:Str->Option Zt}{x:Str}{v:SY}:∀ {P:List Str} {vs:List SY} {i:Nat} {m:Str->Option SY},P.Nodup->P[i]?=O x->vs[i]?=O v->Xx x=O .local ->
 abZ Xx (P.zip vs) m x=O v
 | [],_,_,_,_,h,_,_=>by simp at h
 | _::_,[],_,_,_,_,h,_=>by simp at h
 | p::P,w::vs,0,m,nd,h1,h2,hk=>by simp at h1 h2;subst h1;subst h2;show abZ Xx ((p,w)::P.zip vs) m p=_;unfold abZ;rw[AI λv hv=>(UH.mp nd).1 (Za hv).1,if_pos hk];simp
 | p::P,w::vs,i+1,m,nd,h1,h2,hk=>by show abZ Xx ((p,w)::P.zip vs) m x=_;unfold abZ;exact AK (i:=i) (UH.mp nd).2 (by simpa using h1) (by simpa using h2) hk
theorem AL{Xx:Str->Option Zt}{x:Str}{v:SY}:∀ {P:List Str} {vs:List SY} {i:Nat} {m:Str->Option SY},P.Nodup->P[i]?=O x->vs[i]?=O v->Xx x≠O .local ->
 ab0 Xx (P.zip vs) m x=O v
 | [],_,_,_,_,h,_,_=>by simp at h
 | _::_,[],_,_,_,_,h,_=>by simp at h
 | p::P,w::vs,0,m,nd,h1,h2,hk=>by simp at h1 h2;subst h1;subst h2;show ab0 Xx ((p,w)::P.zip vs) m p=_;unfold ab0;rw[AJ λv hv=>(UH.mp nd).1 (Za hv).1,if_neg hk];simp
 | p::P,w::vs,i+1,m,nd,h1,h2,hk=>by show ab0 Xx ((p,w)::P.zip vs) m x=_;unfold ab0;exact AL (i:=i) (UH.mp nd).2 (by simpa using h1) (by simpa using h2) hk
noncomputable def start(N:List Str)(vs:List V):St:=vs.map O++T5 (N.length-vs.length) J
noncomputable def cV(CX:cU)(P:Tv)(w:Ul)(K:SV)(mg:Str->Option SY)(base:UU)(N:List Str)(qual:Str)(scope:Xj)(f:Td)(cd:SY)(A:Uk)(outer:List Env)(s:SX)(H:Hp)(E:XK):Cx where
 prog:=P
 w:=w
 K:=K
 mg:=mg
 base:=base
 A:=A.deeper (UP qual scope s.heap.objs.size f cd)
 N:=N
 s₀:=s
 H₀:=H
 env:=UP qual scope s.heap.objs.size f cd
 outer:=outer
 stack:=UP qual scope s.heap.objs.size f cd::outer
 ex:=[]
 calm:=true
 fn:=λy=>true
 pn:=[]
 xe:=λe s'=>TX (model P w) (A.deeper (UP qual scope s.heap.objs.size f cd)) (leaving (UP qual scope s.heap.objs.size f cd) e) (λy oG=>CX outer H s E e oG) (λe' oG=>CX outer H s E e' oG) s'
theorem AM{sc:Xj}{n:Nat}{x:Str}(h:sc.names.lookup x=O .cell):∃ c,(cellsFrom n sc.names []).lookup x=O c:=by have q:=YZ sc.names n [] (.inl h);exact Yu.mp q
theorem Ih{CX:cU}{P:Tv}{w:Ul}{K:SV}{mg:Str->Option SY}{base:UU}{N ps:List Str}{qual:Str}{scope:Xj}{f:Td}{cd:SY}{A:Uk}{outer:List Env}{s s1:SX}{H:Hp}{E:XK}{us:List SY}{vs:List V}
 (S:mJ N ps scope) (hd:A.handled=J) (e0:kQ P w K mg base A outer s H) (hl:vs.length=ps.length) (r:Vals vs us)
 (x:InCallC s s.heap.objs.size (abZ (UP qual scope s.heap.objs.size f cd).kindOf (ps.zip us) λm=>J) (cellsFrom (s.heap.objs.size+1) scope.names []) (ab0 (UP qual scope s.heap.objs.size f cd).kindOf (ps.zip us) λm=>J) s1) :
 Inv (cV CX P w K mg base N qual scope f cd A outer s H E) [] (start N vs) H s1:=by
 have cG:ps.length<=N.length:=by have:=congrArg List.length S.pre;rw[Uc] at this;omega
 obtain⟨h1,tk,rfl,hk⟩:=x.done;have kR:∀ b:Td,b∉(cV CX P w K mg base N qual scope f cd A outer s H E).ex:=λb z=>absurd (show b∈([]:List Td) from z) (by simp);refine#[#[e0.mod,S.kind,Y,Y,Th _,λy z c h1 h2=>?_,λy hy=>?_,λy c m h=>?_,λm=>hd,Around.frames_deeper e0.frames,.inr #[Y,Y],λb z=>absurd z (kR b),e0.bs,e0.bsz,λb m m=>kR b,λb z=>absurd z (kR b),e0.dZ,e0.frf],
  rfl,e0.bare,Un.kept hk,#[_,x.toInCall.ns,λi y v h1 h2 h3=>?_],λy c h=>#[_,x.cell y c h],e0.ah.fresh (Th _),λy c h=>?_,λp hp=>absurd (show p∈([]:List (Td × Obj)) from hp) (by simp),e0.ah.kept hk,?_]
 .exact name_of_addr x.apart (VB h1) (VB h2)
 .have hy:scope.names.lookup y=O .cell∨scope.names.lookup y=O .free:=hy;rcases hy with hy|hy
  .exact AM hy
  .exact absurd Y (S.nofree _ (VB hy))
 .exact UN (x.above y c (VB h))
 .have hi:i<vs.length:=by
   unfold start at h2;by_cases hi:i<vs.length
   .exact hi
   .rw[VE (by simpa using hi)] at h2;rw[YE] at h2;split at h2<;>cases h2
  have ha:vs[i]?=O v:=by
   unfold start at h2;rw[WH (by simpa using hi),Vv] at h2;cases e:vs[i]? with
   | none=>rw[e] at h2;cases h2
   | some a=>rw[e] at h2;cases h2;rfl
  obtain⟨u,hu,rv⟩:=r.get ha;have hp:ps[i]?=O y:=by rw[<- S.pre,List.getElem?_take_of_lt (by omega)];exact h1
  have AN:ps.Nodup:=by rw[<- S.pre];exact S.nd.sublist (Wx _ _)
  refine#[u,rv,?_];rcases S.par y (Ui hp) with k|k
  .exact .inl #[k,AK AN hp hu k]
  .obtain⟨c,e⟩:=AM (n:=s.heap.objs.size+1) k;refine .inr #[.inl k,c,e,?_];have q:=x.cell y c e;rw[AL AN hp hu (by show scope.names.lookup y≠_;rw[k];decide)] at q;exact q
 .exact e0.ah.fresh (UN (x.above y c (VB h)))
 .unfold start;show _=N.length;rw[T8,Tn,UI];omega
theorem uW{CX:cU}{P:Tv}{w:Ul}{K:SV}{mg:Str->Option SY}{base:UU}{k:Nat}{f:Td}{name qual:Str}{params:Arguments}{body:List Vt}{scope:Xj}{dV kV doc pm aJ ct oc:SY}{an od:Option Td}
 {gJ:Array (Option SY)} {N ps:List Str} {sp:Sp} (lk:K.lookup f=O #[oc,od,.func (V6 name qual params body scope dV kV doc pm an aJ ct),gJ]) (dB:Xf K aJ qual=true) (S:mJ N ps scope)
 (len:∀ vs H Q E,sp vs H Q E->vs.length=ps.length)
 (d9:∀ (A:Uk) (outer:List Env) (s:SX) (H:Hp) (vs:List V) (Q:VK) (E:XK),aZ k (A.deeper (UP qual scope s.heap.objs.size f aJ))->sp vs H Q E ->
   ∃ t,aR (cV CX P w K mg base N qual scope f aJ A outer s H E) body t/\t { nx:=λ_ H'=>Q .non H',rt:=Q } (start N vs) H) :
 cn P w K mg base CX (k+1) f (V6 name qual params body scope dV kV doc pm an aJ ct) ps sp:=by
 refine#[len,λA outer s H args us vs Q E hr e0 hb r iD=>?_];have hl:=len _ _ _ _ iD;have KX:K.In s.heap:=e0.mod.kin.keeps λb o e=>(e0.bs b o e).1;have lim:s.heap.NoLimit:=e0.mod.nolimit.keeps λb o e=>(e0.bs b o e).1;have Ii:∀ y∈ps.zip us,scope.names.lookup y.1=O .local∨(scope.names.lookup y.1=O .cell/\((cellsFrom (s.heap.objs.size+1) scope.names []).lookup y.1).isSome=true):=λ⟨n,v⟩ hy=>by
  rcases S.par n (Za hy).1 with q|q
  .exact .inl q
  .exact .inr #[q,YZ _ _ _ (.inl q)]
 refine codeAny_call_function hr.depth (KX _ _ lk) Y S.co S.gen Y (PySem.W.codeRec_of KX dB) (hb _ _ _ _ ?_);refine wpAny_newFunctionEnv_cells S.kind Ii λenv he s1 x=>?_;subst he;refine#[lim.keeps x.toInCall.keep,codeAny_func ?_];obtain⟨t,ht,hq⟩:=d9 A outer s H vs Q E (hr.deeper _) iD;have I:Inv (cV CX P w K mg base N qual scope f aJ A outer s H E) [] (start N vs) H s1:=Ih S hr.hd e0 hl r x;refine Ue (ht [] s1 (start N vs) H _ I hq) (λfl s' hs=>?_) λe s' hs=>hs;have fin:∀ {σ':St} {H':Hp} {v:V} {u:SY},Inv (cV CX P w K mg base N qual scope f aJ A outer s H E) [] σ' H' s'->RelV v u->Q v H'->CE outer P w H s Q u s' :=
  λ{σ' H' v u} J9q rv q=>#[v,H',J9q.os,J9q.bare,J9q.base,J9q.ah,rv,q]
 cases fl with
 | ret u =>
  obtain⟨v,σ',H',J9q,rv,q⟩:=hs;exact fin J9q rv q
 | next =>
  obtain⟨σ',H',J9q,q⟩:=hs;exact fin (v:=V.non) (u:=Value.none) J9q Y q
 | brk =>
  obtain⟨_,_,_,q⟩:=hs;exact UX q
 | cont =>
  obtain⟨_,_,_,q⟩:=hs;exact UX q
section
variable{X:Cx}{x:Str}{p pos:Pos}{e:Vh}{es:List Vh}{t:TA}{id T:String}{r:List V->Hp->VK->Prop}
def uX(r:List V->Hp->VK->Prop)(t:TA):TE:=λG H Q=>t G H λvs H1=>r vs H1 Q
theorem dD(hc:gF X (.builtin id) r)(hg:Gl X x)(hm:X.mg x=J)(hv:Vb x=O (.builtin id))(ha:PA X (e::es) t)(hn:x ≠ "__name__" := by decide)(d6:(x == ("__debug__" : Str))=false:=by decide)
 (he:TZ (e::es) X.env=(false,eval e X.env)::TZ es X.env:=by rfl) (cG:(Wm pos (TZ es X.env)).any (·.1)=false:=by rfl):PE X (.Call (.Name x p) (e::es) [] pos) (uX r t):=by
 intro pins s G H Q I h;refine Wo (oh I hg hm hv ?_ hn d6);exact aao (ax (ha pos pins s G H _ I h) λus s1 ⟨vs,H1,I1,r1,q1⟩=>hc pins s1 G H1 vs us Q I1 r1 q1) he cG
theorem uY(hc:gF X (.type T) r)(hg:Gl X x)(hm:X.mg x=J)(hv:Vb x=O (.type T))(ha:PA X (e::es) t)(hn:x ≠ "__name__" := by decide)(d6:(x == ("__debug__" : Str))=false:=by decide)
 (he:TZ (e::es) X.env=(false,eval e X.env)::TZ es X.env:=by rfl) (cG:(Wm pos (TZ es X.env)).any (·.1)=false:=by rfl):PE X (.Call (.Name x p) (e::es) [] pos) (uX r t):=by
 intro pins s G H Q I h;refine Wo (oh I hg hm hv ?_ hn d6);exact Vz (ax (ha pos pins s G H _ I h) λus s1 ⟨vs,H1,I1,r1,q1⟩=>hc pins s1 G H1 vs us Q I1 r1 q1) he cG
end
end L2
namespace HT
open PySem PyProof.Rows
noncomputable def lexLt:List Int->List Int->Bool
 | [],[]=>false
 | [],_::_=>true
 | _::_,[]=>false
 | x::xs,y::ys=>if x=y then lexLt xs ys else decide (x<y)
theorem oH(x y:Int)(xs ys:List Int):lexLt (x::xs) (y::ys)=if x=y then lexLt xs ys else decide (x<y):=rfl
section
open PySem.SeqAt
open PySem.AutoSeq1 (wpAny_loadPart')
open PySem.MeetsSeq PySem.MeetsSeq2 PySem.MeetsSeq3
end
section
variable{prog:Tv}{w:Ul}{A:Uk}{E:SY->SX->Prop}{s:SX}
noncomputable def aA(n d:Nat):Option Int->Nat
 | none=>d
 | some v=>if v<0 then (v+(n:Int)).toNat else min v.toNat n
theorem AO(n d:Nat):aA n d J=d:=rfl
theorem AQ(n d k:Nat):aA n d (O (k:Int))=min k n:=by show (if (k:Int)<0 then ((k:Int)+(n:Int)).toNat else min (k:Int).toNat n)=min k n;rw[if_neg (by omega),W9]
theorem Ij(n d:Nat)(hd:d<=n)(o:Option Int):aA n d o<=n:=by
 cases o with
 | none=>exact hd
 | some v =>
  show (if v<0 then (v+(n:Int)).toNat else min v.toNat n)<=n;by_cases hv:v<0
  .rw[if_pos hv];omega
  .rw[if_neg hv];exact Nat.min_le_right _ _
theorem AR(v:Int)(n d:Nat):(if v<0 then max (v+(n:Int)) 0 else min v (n:Int))=((aA n d (O v):Nat):Int):=by
 show (if v<0 then max (v+(n:Int)) 0 else min v (n:Int))=(((if v<0 then (v+(n:Int)).toNat else min v.toNat n):Nat):Int);by_cases hv:v<0
 .simp only[if_pos hv];omega
 .simp only[if_neg hv];omega
theorem Ik(lo hi:Option Int)(n:Nat):WI lo hi 1 (n:Int)=(((aA n 0 lo:Nat):Int),((aA n n hi:Nat):Int)):=by
 have h1:¬ ((1:Int)<0):=by omega
 unfold WI;simp only[h1,if_false];refine Prod.ext ?_ ?_
 .cases lo with
  | none=>rfl
  | some v=>exact AR v n 0
 .cases hi with
  | none=>rfl
  | some v=>exact AR v n n
theorem Il(i j:Nat):VO (i:Int) (j:Int) 1=j-i:=by
 unfold VO;have h1:(1:Int) > 0:=by omega
 simp only[h1,if_true,Int.ediv_one];split<;>omega
theorem AS{v:SY}{o:Option Int}{Q:Option Int->SX->Prop}(p:ZW v o)(h:Q o s):TX (model prog w) A (aaQ v) Q E s:=by
 cases p with
 | none=>exact slicePart_none h
 | int i t=>exact slicePart_int h
theorem AU{sl:Td}{vl vu:SY}{lo hi:Option Int}{n:Nat}{Q:Int × Int × Nat->SX->Prop}(hs:s.heap.IsSliceOf sl vl vu .none)(pl:ZW vl lo)(pu:ZW vu hi)
 (h:Q (((aA n 0 lo:Nat):Int),1,aA n n hi-aA n 0 lo) s):TX (model prog w) A (X3 (.ref sl) (pure (n:Int))) Q E s:=by
 obtain⟨os,gK,hcs,hds⟩:=id hs;unfold X3 abi;refine SW (SW (Xa gK hds (x:=vl) Y (SW (Xa gK hds (x:=vu) Y (SW (Xa gK hds (x:=.none) Y (Tc ?_)))))));refine SW (slicePart_none ?_);show TX _ _ (if ((1:Int) == 0)=true then _ else _) _ _ s;rw[if_neg (by decide)];refine SW (AS pl (SW (AS pu (SW (Tc ?_)))));show TX _ _ (match WI lo hi 1 (n:Int) with|(lo,hi)=>pure (lo,(1:Int),VO lo hi 1)) _ _ s;rw[Ik lo hi n];show TX _ _ (pure (((aA n 0 lo:Nat):Int),(1:Int),VO ((aA n 0 lo:Nat):Int) ((aA n n hi:Nat):Int) 1)) _ _ s;rw[Il];exact Tc h
theorem Im(xs:Array SY)(i k:Nat):((List.range k).filterMap λ(m:Nat)=>xs[((i:Int)+(m:Int) * 1).toNat]?).toArray=((xs.toList.drop i).take k).toArray:=by
 have e:(λ(m:Nat)=>xs[((i:Int)+(m:Int) * 1).toNat]?)=λm=>xs[i+m]?:=by
  funext m;have:((i:Int)+(m:Int) * 1).toNat=i+m:=by omega
  rw[this]
 rw[e];have:=pick_run xs i k;rw[List.filterMap_map] at this;have e2:((λx=>xs[x]?) ∘ λx=>i+x)=λm=>xs[i+m]?:=rfl;rw[e2] at this;rw[this]
theorem Io{t sl:Td}{items:Array SY}{vl vu:SY}{lo hi:Option Int}{Q:SY->SX->Prop}(ht:IsTup s.heap t items)(hs:s.heap.IsSliceOf sl vl vu .none)(pl:ZW vl lo)(pu:ZW vu hi)
 (hw:¬ (aA items.size 0 lo=0/\aA items.size items.size hi=items.size))
 (h:Q (.ref s.heap.objs.size) { s with heap:=s.heap.push { cls:=.type "tuple",data:=.seq ((items.toList.drop (aA items.size 0 lo)).take (aA items.size items.size hi-aA items.size 0 lo)).toArray } })
 (hsz:items.size<=TB):TX (model prog w) A (YF (.ref t) (.ref sl)) Q E s:=by
 have rA:sizeOk (.seq ((items.toList.drop (aA items.size 0 lo)).take (aA items.size items.size hi-aA items.size 0 lo)).toArray):=by show ((items.toList.drop (aA items.size 0 lo)).take (aA items.size items.size hi-aA items.size 0 lo)).toArray.size<=TB;rw[To,Uc,UA,TU];omega
 have hj:aA items.size items.size hi<=items.size:=Ij _ _ (Th _) hi;obtain⟨os,gK,hcs,hds⟩:=id hs;have uZ:s.TypeIs (.ref sl) "slice" := #[os,gK,hcs];unfold YF
 try with_reducible refine V9 ?_
 first|refine SW (Tc ?_)|skip
 refine SW (aac ht.typeIs (by decide) ?_);refine SW (Wa (name:=Zb "__getitem__") ht.typeIs Vf
  (Wh Vf ht.typeIs ZL ?_ (ZX _ _)))
 show TX _ _ (X4 (.ref t) >>= _) _ _ s;refine SW (tupleItemsOf_ ht ?_);refine SW (aap uZ ?_);rw[if_pos (by decide)];refine SW (AU hs pl pu ?_);have jR:¬ ((((aA items.size 0 lo:Nat):Int) == 0 && (1:Int) == 1 && (aA items.size items.size hi-aA items.size 0 lo) == items.size)=true):=by intro q;rw[Vq,Vq] at q;have q1:((aA items.size 0 lo:Nat):Int)=0:=eq_of_beq q.1.1;have q2:aA items.size items.size hi-aA items.size 0 lo=items.size:=eq_of_beq q.2;exact hw #[by omega,by omega]
 show TX _ _ (if (((aA items.size 0 lo:Nat):Int) == 0 && (1:Int) == 1 && (aA items.size items.size hi-aA items.size 0 lo) == items.size)=true then _ else _) _ _ s;rw[if_neg jR,Im]
 first
  | exact SW (m:=VV _) (UL (Tc #[_,Y,Tc h]) rA)
  | exact SW (m:=VV _) (UL (SW (Tc (Tc #[_,Y,Tc h]))) rA)
  | exact SW (SW (m:=VV _) (UL (Tc (Tc #[_,Y,Tc h])) rA))
  | exact SW (SW (m:=VV _) (UL (Tc #[_,Y,Tc h]) rA))
end
end HT
namespace L2
open PySem PySem.Spec PyProof.Rows
abbrev TO:=St->Hp->(Option Int->Hp->Prop)->Prop
def PO(X:Cx)(e:Option Vh)(t:TO):Prop :=
 ∀ (pins:List (Td × Obj)) (s:SX) (G:St) (H:Hp) (Q:Option Int->Hp->Prop),Inv X pins G H s->t G H Q ->
  TX (model X.prog X.w) X.A (evalPart e X.env) (λu s'=>∃ o H',Inv X pins G H' s'/\ZW u o/\Q o H') X.xe s
noncomputable def AV:TO:=λy H Q=>Q J H
noncomputable def AW(t:TE):TO:=λG H Q=>t G H λx H1=>∃ i,x = .int i/\Q (O i) H1
theorem intsAre_of{ns:List Int}:∀ {us:List SY},Vals (ns.map V.int) us->YG us ns:=by
 induction ns with
 | nil=>intro us r;rw[aaq] at r;cases r;exact .nil
 | cons n ns ih =>
  intro us r;rw[TJ] at r;cases r with
  | cons r1 r2 =>
   obtain⟨t,e⟩:=r1;subst e;exact .cons n t (ih r2)
section
variable{X:Cx}{e:Vh}{te:TE}{lo hi:Option Vh}{tl th:TO}{pos p2:Pos}
theorem rB:PO X J AV:=by intro pins s G H Q I h;rw[evalPart_none];exact Tc #[J,H,I,.none,h]
theorem rC(h:PE X e te):PO X (O e) (AW te):=by intro pins s G H Q I hw;rw[evalPart_some];refine ax (h pins s G H _ I hw) λu s1 zq=>?_;obtain⟨x,H1,I1,r1,q1⟩:=zq;obtain⟨i,rfl,q⟩:=q1;obtain⟨t,rfl⟩:=r1;exact#[O i,H1,I1,.int i t,q]
def i9(X:Cx)(r:V->Option Int->Option Int->Hp->VK->Prop):Prop :=
 ∀ (pins:List (Td × Obj)) (s:SX) (G:St) (H:Hp) (x:V) (v vl vu:SY) (lo hi:Option Int) (sl:Td) (Q:VK),Inv X pins G H s->RelV x v->s.heap.IsSliceOf sl vl vu .none->ZW vl lo->ZW vu hi->r x lo hi H Q ->
  ∃ T id,typeLookup (.type T) "__getitem__" = pure (O (.builtin id))/\s.TypeIs v T/\TX (model X.prog X.w) X.A (YF v (.ref sl)) (EP X pins G Q) X.xe s
theorem i9.or{r r':V->Option Int->Option Int->Hp->VK->Prop}(h:i9 X r)(h':i9 X r'):i9 X (λx lo hi H Q=>r x lo hi H Q∨r' x lo hi H Q):=by
 intro pins s G H x v vl vu lo hi sl Q I rx hs pl pu q;rcases q with q|q
 .exact h pins s G H x v vl vu lo hi sl Q I rx hs pl pu q
 .exact h' pins s G H x v vl vu lo hi sl Q I rx hs pl pu q
def AX(r:V->Option Int->Option Int->Hp->VK->Prop)(te:TE)(tl th:TO):TE:=λG H Q=>te G H λx H1=>tl G H1 λl H2=>th G H2 λu H3=>r x l u H3 Q
theorem rD{r:V->Option Int->Option Int->Hp->VK->Prop}(hr:i9 X r)(he:PE X e te)(hl:PO X lo tl)(hu:PO X hi th):PE X (.Subscript e (.Slice lo hi J p2) pos) (AX r te tl th):=by intro pins s G H Q I h;refine aby (ax (he pins s G H _ I h) λv s1 zq=>?_);obtain⟨x,H1,I1,r1,q1⟩:=zq;refine wpAny_Slice (ax (hl pins s1 G H1 _ I1 q1) λvl s2 ⟨l,H2,I2,pl,q2⟩=>ax (hu pins s2 G H2 _ I2 q2) λvu s3 zq=>?_);obtain⟨u,H3,I3,pu,q3⟩:=zq;rw[evalPart_none];refine Tc ?_;have I4:Inv X pins G H3 { s3 with heap:=s3.heap.push { cls:=.type "slice",data:=.fields (List.toArray [vl,vu,.none]) } }:=I3.kept (t':=s3.toks) λb ob q=>Ta _ q;obtain⟨T,id,hT,ht,hg⟩:=hr pins { s3 with heap:=s3.heap.push { cls:=.type "slice",data:=.fields (List.toArray [vl,vu,.none]) } } G H3 x v vl vu l u s3.heap.objs.size Q I4 r1 (Heap.IsSliceOf.new ..) pl pu q3;show TX (model X.prog X.w) X.A (ZY e (.Slice lo hi J p2) v (.ref s3.heap.objs.size)) (EP X pins G Q) X.xe { s3 with heap:=s3.heap.push { cls:=.type "slice",data:=.fields (List.toArray [vl,vu,.none]) } };exact tail_any (ops:=[.ref s3.heap.objs.size,v]) ht hT hg (by with_unfolding_all rfl)
noncomputable def gL(xs:List V)(lo hi:Option Int):List V:=(xs.drop (HT.aA xs.length 0 lo)).take (HT.aA xs.length xs.length hi-HT.aA xs.length 0 lo)
theorem AY(xs:List V)(lo hi:Option Int):(gL xs lo hi).length<=xs.length:=by unfold gL;rw[Uc,UA];omega
def u7(K:SV):V->Option Int->Option Int->Hp->VK->Prop:=λx lo hi H Q=>∃ a xs,x = .ref a/\aC K H a xs /\
 ¬ (HT.aA xs.length 0 lo=0/\HT.aA xs.length xs.length hi=xs.length)/\∀ p,H p=J->Q (.ref p) (upd H p (.tup (gL xs lo hi)))
theorem Ip:i9 X (u7 X.K):=by
 intro pins s G H x v vl vu lo hi sl Q I rx hs pl pu h;obtain⟨a,xs,rfl,hx,hw,q⟩:=h;cases rx;obtain⟨af,r,ht,hz⟩:=I.tuple hx;have hlen:af.toArray.size=xs.length:=by rw[To];exact r.length.symm
 refine#["tuple",_,PyProof.Rows.slot_tuple_getitem.lookup,ht.typeIs,?_];refine HT.Io ht hs pl pu (by rw[hlen];exact hw) ?_ (by rw[hlen];exact hz);rw[hlen];refine#[.ref s.heap.objs.size,_,I.laid (t':=s.toks) (o:=.tup (gL xs lo hi)) (λb ob q=>Ta _ q) (Th _) ?_,Y,q _ (I.ah.fresh (Th _))];exact#[TL (AY xs lo hi) hz,_,(r.drop (HT.aA xs.length 0 lo)).take (HT.aA xs.length xs.length hi-HT.aA xs.length 0 lo),IsTup.new _ _]
end
noncomputable def kS(n:Nat)(i:Int):Option Nat:=if 0<=i then (if i<n then O i.toNat else J) else if -(n:Int)<=i then O (i+n).toNat else J
noncomputable def ef{α:Type}(xs:List α)(i:Int):Option α:=(kS xs.length i).bind λj=>xs[j]?
theorem AZ{n:Nat}{i:Int}{j:Nat}(h:kS n i=O j):seqIndex? i n=O j/\j<n/\-(n:Int)<=i/\i<n:=by
 unfold kS at h;by_cases h0:0<=i
 .rw[if_pos h0] at h;by_cases h1:i<n
  .rw[if_pos h1] at h;have e:i.toNat=j:=Option.some.inj h;exact#[by rw[aaT h0 h1,e],by omega,by omega,h1]
  .rw[if_neg h1] at h;cases h
 .rw[if_neg h0] at h;by_cases h1 : -(n:Int)<=i
  .rw[if_pos h1] at h;have e:(i+n).toNat=j:=Option.some.inj h;exact#[by rw[aar (by omega) h1,e],by omega,h1,by omega]
  .rw[if_neg h1] at h;cases h
theorem u9{α:Type}{xs:List α}{i:Int}{v:α}(h:ef xs i=O v):∃ j,seqIndex? i xs.length=O j/\xs[j]?=O v/\j<xs.length/\-(xs.length:Int)<=i/\i<xs.length:=by
 unfold ef at h;cases e:kS xs.length i with
 | none=>rw[e] at h;cases h
 | some j =>
  rw[e] at h;obtain⟨h1,h2,h3,h4⟩:=AZ e;exact#[j,h1,h,h2,h3,h4]
theorem oI{α:Type}{xs:List α}{j:Nat}{v:α}(h:xs[j]?=O v):ef xs (j:Int)=O v:=by
 have hj:j<xs.length:=(Ug.mp h).1;have e:kS xs.length (j:Int)=O j:=by unfold kS;rw[if_pos (by omega),if_pos (by omega)];simp
 unfold ef;rw[e];exact h
def vb(b:Vh):Prop:=∀ o i,subscripted b false o i=operate [o,i] (YF o i)
def iE(X:Cx)(r:R2):Prop :=
 ∀ (value slice:Vh) (pins:List (Td × Obj)) (s:SX) (G:St) (H:Hp) (x y:V) (v u:SY) (Q:VK),Inv X pins G H s->RelV x v->RelV y u->r x y H Q ->
  subscripted slice false v u=operate [v,u] (YF v u)->TX (model X.prog X.w) X.A (ZY value slice v u) (EP X pins G Q) X.xe s
def Iq(X:Cx)(id:String)(r:V->List V->Hp->VK->Prop):Prop :=
 ∀ (pins:List (Td × Obj)) (s:SX) (G:St) (H:Hp) (x:V) (xs:List V) (v:SY) (us:List SY) (Q:VK),Inv X pins G H s->RelV x v->Vals xs us->r x xs H Q ->
  TX (model X.prog X.w) X.A (call (.builtin id) (v::us)) (EP X pins G Q) X.xe s
section
variable{X:Cx}{a b:Vh}{ta tb:TE}{pos:Pos}
theorem iE.or{r r':R2}(h:iE X r)(h':iE X r'):iE X (λx y H Q=>r x y H Q∨r' x y H Q):=by
 intro value slice pins s G H x y v u Q I rx ry q hs;rcases q with q|q
 .exact h value slice pins s G H x y v u Q I rx ry q hs
 .exact h' value slice pins s G H x y v u Q I rx ry q hs
theorem A0{r:R2}(hr:iE X r)(ha:PE X a ta)(hb:PE X b tb)(hs:vb b):PE X (.Subscript a b pos) (kN r ta tb):=by intro pins s G H Q I h;exact aby (uK ha hb I h λv u s2 x y H2 I2 rx ry q=>hr a b pins s2 G H2 x y v u Q I2 rx ry q (hs _ _))
def A6(K:SV):R2:=λx y H Q=>∃ p xs i v,x = .ref p/\y = .int i/\ak K H p xs/\ef xs i=O v/\Q v H
def A7(K:SV):R2:=λx y H Q=>∃ p xs i v,x = .ref p/\y = .int i/\aC K H p xs/\ef xs i=O v/\Q v H
def A8:R2:=λx y H Q=>∃ z i c,x = .str z/\y = .int i/\z.length<=TB/\ef z.cps.toList i=O c/\Q (.str #[(List.toArray [c])]) H
theorem Ir:iE X (A6 X.K):=by
 intro value slice pins s G H x y v u Q I rx ry h hs;obtain⟨p,xs,i,z,rfl,rfl,hq,he,q⟩:=h;cases rx;obtain⟨t,rfl⟩:=ry;obtain⟨af,r,pl,hz⟩:=I.list hq;obtain⟨j,h1,h2,h3,h4,h5⟩:=u9 he;obtain⟨w,ew,eo⟩:=r.get h2;have hl:=r.length;have hn:=oA;have fin:EP X pins G Q w s:=#[z,H,I,eo,q]
 by_cases h0:0<=i
 .have hj:i.toNat=j:=by rw[aaT h0 h5] at h1;exact Option.some.inj h1
  exact item_listR pl.isList h0 (by omega) (by rw[hj];simpa using ew) fin hs
 .have hj:(i+(af.toArray.size:Int)).toNat=j:=by rw[aar (by omega) h4] at h1;rw[To,<- hl];exact Option.some.inj h1
  exact Y0 (x:=w) pl.isList.typeIs slot_list_getitem.lookup
   (wpAny_getItem_list_neg (Q:=λr s'=>r=w/\EP X pins G Q r s') pl.isList (by omega) (by rw[To]<;>omega) (by omega) (by rw[hj];simpa using ew) #[Y,fin]) hs
theorem Iu:iE X (A7 X.K):=by
 intro value slice pins s G H x y v u Q I rx ry h hs;obtain⟨p,xs,i,z,rfl,rfl,hq,he,q⟩:=h;cases rx;obtain⟨t,rfl⟩:=ry;obtain⟨af,r,pl,hz⟩:=I.tuple hq;obtain⟨j,h1,h2,h3,h4,h5⟩:=u9 he;obtain⟨w,ew,eo⟩:=r.get h2;have hl:=r.length;have hn:=oA;have fin:EP X pins G Q w s:=#[z,H,I,eo,q]
 exact Y0 (x:=w) pl.typeIs slot_tuple_getitem.lookup
  (getItem_tuple (j:=j) (Q:=λr s'=>r=w/\EP X pins G Q r s') pl (by omega) (by omega) (by rw[To,<- hl];exact h1) (by simpa using ew) #[Y,fin]) hs
theorem Iv:iE X A8:=by
 intro value slice pins s G H x y v u Q I rx ry h hs;obtain⟨z,i,c,rfl,rfl,hz,he,q⟩:=h;obtain⟨t,rfl⟩:=rx;obtain⟨t',rfl⟩:=ry;obtain⟨j,h1,h2,h3,h4,h5⟩:=u9 he;have hl:z.cps.toList.length=z.length:=by simp[Str.length]
 rw[hl] at h1 h4 h5;have hn:=oA;exact tail_any (typeIs_str s z t) slot_str_getitem.lookup (getItem_str (c:=c) (by
  have e1:decide (i < -(2 ^ 63:Int))=false:=decide_eq_false (by omega);have e2:decide (i ≥ 2 ^ 63)=false:=decide_eq_false (by omega);rw[e1,e2,Bool.or_false]) (by rw[h1];simpa using h2) #[.str #[(List.toArray [c])],H,I.tok _,#[_,Y],q]) hs
def kT(K:SV):R2:=λx y H Q=>A6 K x y H Q∨A7 K x y H Q∨A8 x y H Q
theorem A9:iE X (kT X.K):=Ir.or (Iu.or Iv)
theorem Iw(af:List SY)(n j:Nat)(u:SY):VG (·.setIfInBounds j u) { cls:=.type "list",data:=.seq af.toArray n } = { cls:=.type "list",data:=.seq (af.set j u).toArray n }:=by simp[VG]
theorem Inv.lst{pins:List (Td × Obj)}{G:St}{H:Hp}{s:SX}{p:Td}{xs:List V}(I:Inv X pins G H s)(h:H p=O (.lst xs)) :
 ∃ (af:List SY) (n:Nat),Vals xs af/\s.heap.get? p=O { cls:=.type "list",data:=.seq af.toArray n }/\xs.length<=TB:=by
 obtain⟨z,af,n,r,e⟩:=I.ah p _ h;exact#[af,n,r,e,z]
theorem Inv.Iy{pins:List (Td × Obj)}{G:St}{H:Hp}{s:SX}{p:Td}{xs ys:List V}{af its':List SY}{n n':Nat}{f:Obj->Obj}(I:Inv X pins G H s)(h:H p=O (.lst xs))
 (ho:s.heap.get? p=O { cls:=.type "list",data:=.seq af.toArray n }) (hf:f { cls:=.type "list",data:=.seq af.toArray n } = { cls:=.type "list",data:=.seq its'.toArray n' }) (r:Vals ys its') (hz:ys.length<=TB) (t:Nat) :
 Inv X pins G (upd H p (.lst ys)) { s with heap:=s.heap.update p f,toks:=t }:=by
 have e:(s.heap.update p f).get? p=O { cls:=.type "list",data:=.seq its'.toArray n' }:=by rw[VJ f ho (by rw[hf]<;>rfl),hf]
 refine I.write (x:=p) (e:=p) (by rw[h];trivial) (.inl rfl) (λb u hb q=>(Ud _ _ (UZ hb)).trans q) #[_,e] ?_;exact#[hz,its',n',r,e]
def Ba:V->V->V->Hp->(Hp->Prop)->Prop:=λo i v H Q=>∃ p xs k j,o = .ref p/\i = .int k/\H p=O (.lst xs)/\kS xs.length k=O j/\Q (upd H p (.lst (xs.set j v)))
theorem set_list:Hj X Ba:=by
 intro pins s G H o i v ov iv u Q I ro ri rv h;obtain⟨p,xs,k,j,rfl,rfl,hp,hj,q⟩:=h;cases ro;obtain⟨t,rfl⟩:=ri;obtain⟨af,n,r,ho,hz⟩:=I.lst hp;obtain⟨h1,h2,h3,h4⟩:=AZ hj;have hl:=r.length;have hn:=oA;have I':Inv X pins G (upd H p (.lst (xs.set j v))) { s with heap:=s.heap.update p (VG (·.setIfInBounds j u)) } :=
  I.Iy hp ho (Iw af n j u) (r.set rv j) (by rw[aaU];exact hz) s.toks
 by_cases h0:0<=k
 .have hk:k.toNat=j:=by rw[aaT h0 h4] at h1;exact Option.some.inj h1
  exact PySem.W.ki_setAt ho h0 (by omega) (by rw[To,<- hl];exact h4) (by rw[hk];exact#[_,I',q])
 .have hk:(k+(af.toArray.size:Int)).toNat=j:=by rw[aar (by omega) h3] at h1;rw[To,<- hl];exact Option.some.inj h1
  exact PySem.W.ki_setBack ho (by omega) (by rw[To,<- hl];exact h3) (by omega) (by rw[hk];exact#[_,I',q])
theorem Iz(lo hi:Option Int)(n:Nat):(Xb lo hi J n).1=((HT.aA n 0 lo:Nat):Int)/\(Xb lo hi J n).2.1=((HT.aA n n hi:Nat):Int)/\(Xb lo hi J n).2.2=1:=by
 refine#[?_,?_,Y]
 .cases lo with
  | none=>simp[Xb,HT.aA]
  | some i =>
   simp only[Xb,HT.aA,aaA,show (1:Int) > 0 by decide,if_true];by_cases h:i<0
   .simp only[h,if_true]<;>omega
   .simp only[h,if_false]<;>omega
 .cases hi with
  | none=>simp[Xb,HT.aA]
  | some i =>
   simp only[Xb,HT.aA,aaA,show (1:Int) > 0 by decide,if_true];by_cases h:i<0
   .simp only[h,if_true]<;>omega
   .simp only[h,if_false]<;>omega
theorem IA(af:List SY)(lo hi:Option Int):slicePick af.toArray lo hi J=((af.drop (HT.aA af.length 0 lo)).take (HT.aA af.length af.length hi-HT.aA af.length 0 lo)).toArray:=by obtain⟨h1,h2,h3⟩:=Iz lo hi af.toArray.size;unfold slicePick;rw[h1,h2,h3];simp only[sliceRange_one,pick_run,To]<;>rfl
def Bb(K:SV):V->Option Int->Option Int->Hp->VK->Prop:=λx lo hi H Q=>∃ a xs,x = .ref a/\ak K H a xs/\∀ p,H p=J->Q (.ref p) (upd H p (.lst (gL xs lo hi)))
theorem vc:i9 X (Bb X.K):=by intro pins s G H x v vl vu lo hi sl Q I rx hs pl pu h;obtain⟨a,xs,rfl,hx,q⟩:=h;cases rx;obtain⟨af,r,ht,hz⟩:=I.list hx;have hlen:=r.length;refine#["list",_,slot_list_getitem.lookup,ht.isList.typeIs,?_];refine wpAny_getItem_list_slice ht.isList hs pl pu .none (by simp) ?_ (by rw[To]<;>omega);rw[IA,<- hlen];refine#[.ref s.heap.objs.size,_,I.laid (t':=s.toks) (o:=.lst (gL xs lo hi)) (λb ob q=>Ta _ q) (Th _) ?_,Y,q _ (I.ah.fresh (Th _))];exact#[TL (AY xs lo hi) hz,_,0,(r.drop (HT.aA xs.length 0 lo)).take (HT.aA xs.length xs.length hi-HT.aA xs.length 0 lo),TV _ Y]
theorem Bc:gF X (.type "list") (λxs H Q=>∃ p ys,xs=[.ref p]/\(ak X.K H p ys∨aC X.K H p ys)/\∀ l,H l=J->Q (.ref l) (upd H l (.lst ys))):=by
 intro pins s G H xs us Q I r h;obtain⟨p,ys,rfl,hq,q⟩:=h;obtain⟨u,rfl,rx⟩:=vals1 r;cases rx;have fin:∀ (af:List SY),Vals ys af->ys.length<=TB->∀ (h':UU) (c':Nat),(∀ b o',s.heap.get? b=O o'->h'.get? b=O o') ->
  h'.get? s.heap.objs.size=O { cls:=.type "list",dict:=J,data:=.seq af.toArray c',slots:=(List.toArray []) }->EP X pins G Q (.ref s.heap.objs.size) { s with heap:=h' }:=λaf r' hz h' c' kp e =>
  #[.ref s.heap.objs.size,_,I.laid (t':=s.toks) kp (Th _) (show bH X.prog X.w _ h' _ (.lst ys) from #[hz,af,c',r',e]),Y,q _ (I.ah.fresh (Th _))]
 rcases hq with hq|hq
 .obtain⟨af,r',pl,hz⟩:=I.list hq;have hlen:=r'.length;obtain⟨o,ho,hc,n,hd⟩:=pl.isList;exact call_list_seq p (.inl rfl) ho hc hd (λh' c' kp e=>fin af r' hz h' c' kp e) (by simp only[To]<;>omega)
 .obtain⟨af,r',pl,hz⟩:=I.tuple hq;have hlen:=r'.length;obtain⟨o,ho,hc,n,hd⟩:=pl;exact call_list_seq p (.inr rfl) ho hc hd (λh' c' kp e=>fin af r' hz h' c' kp e) (by simp only[To]<;>omega)
def vd(K:SV)(T:String)(x:V)(H:Hp):Prop:=match x with
 | .str _=>T = "str"
 | .int _=>T = "int"
 | .ref p=>(T = "list" /\ ∃ xs,ak K H p xs)∨(T = "tuple" /\ ∃ o,K.lookup p=O o/\o.cls = .type "tuple" /\ o.dict=J) ∨
  (T = "dict" /\ ((∃ kvs,H p=O (.dK kvs)) ∨ ∃ kvs,H p=O (.dT kvs)))∨(T = "set" /\ ∃ S n,H p=O (.set S n))
 | _=>False
theorem IB{pins:List (Td × Obj)}{G:St}{H:Hp}{s:SX}{T:String}{x:V}{v:SY}(I:Inv X pins G H s)(r:RelV x v)(ty:vd X.K T x H) :
 s.TypeIs v T/\∀ a,v = .ref a->∃ ob,s.heap.get? a=O ob/\ob.dict=J:=by
 cases x with
 | str z =>
  obtain⟨t,rfl⟩:=r;cases (show T = "str" from ty);exact#[typeIs_str s z t,λy e=>nomatch e]
 | int i =>
  obtain⟨t,rfl⟩:=r;cases (show T = "int" from ty);exact#[abz s i t,λy e=>nomatch e]
 | ref p =>
  cases r;rcases ty with ⟨rfl,xs,hq⟩|⟨rfl,o,hk,hc,hd⟩|⟨rfl,hk⟩|⟨rfl,S,n,hk⟩
  .obtain⟨af,y,pl,y⟩:=I.list hq;refine#[pl.isList.typeIs,λa e=>?_];cases e;obtain⟨o,n,e,c,hd,y⟩:=pl;exact#[o,e,hd]
  .refine#[#[o,I.cw p o hk,hc],λa e=>?_];cases e;exact#[o,I.cw _ o hk,hd]
  .have z:∃ o,s.heap.get? p=O o/\o.ExactDict:=by
    rcases hk with ⟨kvs,hk⟩|⟨kvs,hk⟩
    .obtain⟨y,y,y,y,o,y,y,e,ex,y⟩:=I.ah p _ hk;exact#[o,e,ex]
    .obtain⟨y,y,y,y,o,y,y,e,ex,y⟩:=I.ah p _ hk;exact#[o,e,ex]
   obtain⟨o,e,ex⟩:=z;refine#[#[o,e,ex.1],λa e2=>?_];cases e2;exact#[o,e,ex.2.1]
  .obtain⟨o,y,y,y,e,ex,y⟩:=I.ah p _ hk;refine#[#[o,e,ex.1],λa e2=>?_];cases e2;exact#[o,e,ex.2.1]
 | _=>exact UX ty
def IC(K:SV)(T:String)(r:V->List V->Hp->VK->Prop)(to:TE):TE:=λG H Q=>to G H λx H1=>vd K T x H1/\r x [] H1 Q
def Be(K:SV)(T:String)(r:V->List V->Hp->VK->Prop)(to:TE)(t:TA):TE:=λG H Q=>to G H λx H1=>vd K T x H1/\t G H1 λxs H2=>r x xs H2 Q
variable{o e:Vh}{es:List Vh}{to:TE}{t:TA}{name:Str}{apos bN:Pos}{T id:String}{r:V->List V->Hp->VK->Prop}
theorem rE(pa:PlainAttrs T)(slot:Slot T name id)(ID:abA (.builtin id)=pure (.type "method_descriptor"))(hm:Iq X id r)(ho:PE X o to)(ha:PA X (e::es) t)
 (IE:WX o name X.env (eval o X.env)=eval o X.env:=by rfl)
 (IF:((Wm bN (TZ (e::es) X.env)).all (λx=>!x.1) && (Zs bN (W8 [] X.env)).all (λx=>x.1.isSome)
   && decide ((e::es).length+([]:List aab).length+(if ([]:List aab).isEmpty then 0 else 1)<30))=true:=by rfl)
 (IG:(apos.endLine == bN.line)=true:=by rfl) (hs:TZ (e::es) X.env=(false,eval e X.env)::TZ es X.env:=by rfl) (IH:(Wm bN (TZ es X.env)).any (·.1)=false:=by rfl) :
 PE X (.Call (.Attribute o name apos) (e::es) [] bN) (Be X.K T r to t):=by
 intro pins s G H Q I h;refine wpAny_Call_method_late IE IF IG Y (ax (ho pins s G H _ I h) λv s1 zq=>?_);obtain⟨x,H1,I1,r1,ty,q1⟩:=zq;obtain⟨h1,h2⟩:=IB I1 r1 ty;refine#[T,id,pa,slot,ID,h1,h2,?_];have hA:=ha bN pins s1 G H1 _ I1 q1;rw[hs] at hA ⊢;refine Wk (by show (false || (Wm bN (TZ es X.env)).any (·.1))=false;rw[IH]<;>rfl) (VQ ?_);exact ax hA λus s2 ⟨vs,H2,I2,r2,q2⟩=>hm pins s2 G H2 x vs v us Q I2 r1 r2 q2
end
def II(X:Cx)(id:String)(r:V->List V->Hp->VK->Prop):Prop :=
 ∀ (pins:List (Td × Obj)) (s:SX) (G:St) (H:Hp) (x:V) (xs:List V) (v:SY) (us:List SY) (Q:VK),Inv X pins G H s->RelV x v->Vals xs us->r x xs H Q ->
  TX (model X.prog X.w) X.A (call (.builtin id) (v::us)) (EP X pins G Q) X.xe s
theorem Vals.one:∀ {x:V} {us:List SY},Vals [x] us->∃ u,us=[u]/\RelV x u:=by
 intro x us h;cases h with
 | cons r t=>cases t;exact#[_,Y,r]
theorem Vals.zero:∀ {us:List SY},Vals [] us->us=[]
 | _,.nil=>rfl
theorem Vals.reverse{xs:List V}{us:List SY}(h:Vals xs us):Vals xs.reverse us.reverse:=by
 induction h with
 | nil=>exact .nil
 | cons r t ih=>rw[Tw,Tw];exact Vals.append ih (.cons r .nil)
theorem Vals.rep{xs:List V}{us:List SY}(h:Vals xs us):∀ k:Nat,Vals (T5 k xs).flatten (T5 k us).flatten
 | 0=>.nil
 | k+1=>by rw[VC,VC,Wy,Wy];exact Vals.append h (Vals.rep h k)
theorem foldl_rep(af:List SY):∀ (k:Nat) (acc:List SY),
 Zu (λx1 x2=>x1++x2) acc.toArray (T5 k af.toArray)=(acc++(T5 k af).flatten).toArray
 | 0,acc=>by simp
 | k+1,acc=>by
  have e:acc.toArray++af.toArray=(acc++af).toArray:=by simp
  have e2:(acc++af)++(T5 k af).flatten=acc++(T5 (k+1) af).flatten:=by rw[VC,Wy,Tf]
  rw[<- e2,<- foldl_rep af k (acc++af),<- e,VC,WY]
section
variable{X:Cx}{pins:List (Td × Obj)}{G:St}{H:Hp}{s:SX}{l b:Td}{xs ys zs:List V}
theorem Inv.IJ{af its':List SY}{n:Nat}{f:Array SY->Array SY}{t':Nat}(I:Inv X pins G H s)(hH:H l=O (.lst xs))
 (e:s.heap.get? l=O { cls:=.type "list",data:=.seq af.toArray n }) (hf:f af.toArray=its'.toArray) (hv:Vals ys its') (hz:ys.length<=TB) :
 Inv X pins G (upd H l (.lst ys)) { s with heap:=s.heap.update l (VG f),toks:=t' }:=by
 have q:=YW e f;rw[hf] at q;refine I.write (x:=l) (e:=l) (by rw[hH];exact trivial) (.inl rfl) (λb' u hb hu=>(Ud s.heap (VG f) (UZ hb)).trans hu) #[_,q] ?_;exact#[hz,its',_,hv,q]
theorem Inv.Bf{af:List SY}{t':Nat}(I:Inv X pins G H s)(hv:Vals ys af)(hz:ys.length<=TB) :
 Inv X pins G (upd H s.heap.objs.size (.lst ys)) { s with heap:=s.heap.push { cls:=.type "list",data:=.seq af.toArray },toks:=t' } :=
 I.laid (λy y q=>Ta _ q) (Th _) #[hz,af,0,hv,TV _ Y]
theorem Inv.fresh(I:Inv X pins G H s):H s.heap.objs.size=J:=I.ah.fresh (Th _)
theorem Inv.rF(I:Inv X pins G H s)(hH:H l=O (.lst xs)):xs.length<=TB/\∃ (af:List SY) (n:Nat),Vals xs af/\xs.length=af.length/\s.heap.get? l=O { cls:=.type "list",data:=.seq af.toArray n }:=by obtain⟨z,af,n,r,e⟩:=I.ah l _ hH;exact#[z,af,n,r,r.length,e]
theorem IK{n:Nat}(h:n<=TB):WQ n=false:=by unfold WQ;exact decide_eq_false (by omega)
end
section
variable{X:Cx}
def Bg:V->List V->Hp->VK->Prop:=λx vs H Q=>∃ l xs y,x = .ref l/\vs=[y]/\H l=O (.lst xs)/\xs.length<TB/\Q .non (upd H l (.lst (xs++[y])))
theorem rG:II X "list.append" Bg:=by intro pins s G H x vs v us Q I rx rv h;obtain⟨l,xs,y,rfl,rfl,hH,hz,q⟩:=h;cases rx;obtain⟨u,rfl,ru⟩:=rv.one;obtain⟨z,af,n,r,hl,e⟩:=I.rF hH;refine Zv Yd #[_,e,Y] XO (Xy _ _) (Yv l af.toArray n u (by rw[To];omega)) #[e,?_];refine#[.non,_,I.IJ (its':=af++[u]) hH e (by simp) (r.append (.cons ru .nil)) ?_,Y,q];rw[T8,UJ];omega
def IL:V->List V->Hp->VK->Prop:=λx vs H Q=>∃ l b xs zs,x = .ref l/\vs=[.ref b]/\H l=O (.lst xs)/\H b=O (.lst zs)/\xs.length+zs.length<=TB/\Q .non (upd H l (.lst (xs++zs)))
def Bh:R2:=λx y H Q=>∃ l b xs zs,x = .ref l/\y = .ref b/\H l=O (.lst xs)/\H b=O (.lst zs)/\xs.length+zs.length<=TB/\∀ p,H p=J->Q (.ref p) (upd H p (.lst (xs++zs)))
theorem ve:aT X (Ww .Add) Bh:=by
 intro pins s G H x y v u Q I rx ry h;obtain⟨l,b,xs,zs,rfl,rfl,hH,hB,hz,q⟩:=h;cases rx;cases ry;obtain⟨z,af,n,r,hl,e⟩:=I.rF hH;obtain⟨z2,Bi,n2,r2,cH,e2⟩:=I.rF hB;refine PySem.P.add_list e e2 ?_ (by rw[To,To];omega);have ea:af.toArray++Bi.toArray=(af++Bi).toArray:=by simp
 rw[ea];exact#[.ref _,_,I.Bf (t':=s.toks) (r.append r2) (by rw[T8];omega),Y,q _ I.fresh]
def Bj:R2:=λx y H Q=>∃ l k xs,x = .ref l/\y = .int k/\H l=O (.lst xs)/\-(2 ^ 63)<=k/\k<2 ^ 63/\xs.length * k.toNat<=TB /\
 ∀ p,H p=J->Q (.ref p) (upd H p (.lst (T5 k.toNat xs).flatten))
theorem len_rep{α:Type}(xs:List α)(k:Nat):(T5 k xs).flatten.length=k * xs.length:=by
 induction k with
 | zero=>simp
 | succ k ih=>rw[VC,Wy,T8,ih,Nat.succ_mul,Nat.add_comm]
theorem Bk:aT X (Ww .Mult) Bj:=by
 intro pins s G H x y v u Q I rx ry h;obtain⟨l,k,xs,rfl,rfl,hH,h1,h2,hz,q⟩:=h;cases rx;obtain⟨t,rfl⟩:=ry;obtain⟨z,af,n,r,hl,e⟩:=I.rF hH;have hlen:af.toArray.size * k.toNat<=TB:=by rw[To,<- hl];exact hz
 have IM:¬ af.toArray.size * k.toNat > (2 ^ 63-1) / 8:=by
  have:(TB:Nat)<=(2 ^ 63-1) / 8:=by decide
  omega
 have IP:¬ (!abf k)=true:=by rw[fitsIndex_both h1 h2];exact T7
 have IQ:¬ WQ (af.toArray.size * k.toNat)=true:=by rw[IK hlen];exact T7
 have IT:Zu (λx1 x2=>x1++x2) (List.toArray []) (T5 (if af.toArray.isEmpty=true then 0 else k.toNat) af.toArray)=(T5 k.toNat af).flatten.toArray:=by
  have f0:∀ m:Nat,Zu (λx1 x2=>x1++x2) (List.toArray []) (T5 m af.toArray)=(T5 m af).flatten.toArray:=λm=>by have:=foldl_rep af m [];rw[Ts] at this;exact this
  rw[f0];cases af with
  | nil=>simp
  | cons a r'=>rw[if_neg (by simp)]
 refine wpAny_binaryOp_repeat_ref (T := "list") (U := "int") (by decide) #[_,e,Y] (λs'=>abz s' k t) noFill_list_mul F.fills_int_mul aaV repeat_list F.slot_int_index.lookup
  (Zv aaV (abz s k t) F.entry_int_rmul (F.args_int_rmul_2 _ _) (int___rmul___int_list k t l af.toArray n)
    #[e,Y,#[_,e,Y],Zv F.slot_list_mul #[_,e,Y] F.entry_list_mul (F.args_list_mul_2 _ _) (AutoListH.list___mul___list_int_3 l af.toArray n k t IP IM IQ) #[e,?_]])
 rw[IT];exact#[.ref _,_,I.Bf (t':=s.toks) (r.rep k.toNat) (by rw[len_rep,Nat.mul_comm];exact hz),Y,q _ I.fresh]
end
section
variable{prog:Tv}{w:Ul}{A:Uk}{E:SY->SX->Prop}{s:SX}
set_option maxRecDepth 100000 in
end
section
variable{X:Cx}
end
end L2
namespace vf
open PySem PySem.W PySem.Calls PyProof.Rows
theorem IU{P:Params}{h:UU}:∀ (ns:List Int) (vs:List SY),WellAll P h vs (ns.map WData.int)->YG vs ns:=by
 intro ns
 induction ns with
 | nil =>
  intro vs w;rw[aaq] at w;cases w;exact .nil
 | cons n ns ih =>
  intro vs w;rw[TJ] at w;cases w with
  | cons a b =>
   cases a;exact .cons _ _ (ih _ b)
theorem IV{l:OpenLaw}{n:Nat}(hn:l.most=O n){P:Params}{h:UU}{args:List WData}{vals:List SY}
 (Bl:l.row.toRowW.claim.pre args=true) (IW:WellAll P h vals args) :
 ∃ a vs ns,vals=[Uo a]/\args=[WData.list (ns.map WData.int)]/\h.get? a=O { cls:=.type "list",data:=.seq vs.toArray }/\YG vs ns/\ns.length<=n:=by
 have IX:WShape.hasAll [] args [.list .int]=true:=(pre_splitW Bl).1;have hc:l.pre.holds [] { args:=args }=true:=(pre_splitW Bl).2;obtain⟨d,r,rfl,h1,h2⟩:=hasAllW_cons IX;obtain rfl:=hasAllW_nil h2;obtain⟨xs,rfl,h3⟩:=hasW_list h1;obtain⟨ns,rfl⟩:=items_int h3;have hlen:ns.length<=n:=by
  unfold OpenLaw.pre at hc;have h4:(WTm.not (.lt (.lit (.int (n:Int))) (.len (.arg 0)))).holds [] { args:=[.list (ns.map .int)] }=true:=by have h4:=(holds_andW hc).1;rw[hn] at h4;exact h4
  have h5:=condW_of h4 (w_not (w_lt w_lit (w_len_list (w_arg Y))));rw[Tn] at h5;refine Nat.le_of_not_lt λq=>?_;have q':(n:Int)<((ns.length:Nat):Int):=by omega
  first
   | (rw[decide_eq_true q'] at h5;exact absurd h5 (by decide))
   | (simp at h5;omega)
 cases IW with
 | cons w1 w2 =>
  cases w2;cases w1 with
  | list ho oJ=>exact#[_,_,ns,Y,Y,ho,IU ns _ oJ,hlen]
theorem IY(l:OpenLaw)(args:List WData):l.row.toRowW.claim.post args (.bool true) args=true :=
 postW_of (r:=l.row.toRowW) (X:=(true == true))
  (show WShape.has [] (.bool true) .bool=true by first|rfl|decide|simp[WShape.has,WShape.arms,WShape.armsAll])
  (show (WTm.eq .res (.lit (.bool true))).value [] { args:=args,res:=O (.bool true),after:=args }=O (.bool (true == true)) from w_eq_bool (w_res Y) w_lit) rfl
section
variable{prog:Tv}{w:Ul}{A:Uk}{E:SY->SX->Prop}{s:SX}{K:Frag}
end
end vf
namespace L2
open PySem PySem.Spec PyProof.Rows
theorem Bm:∀ {vs:List SY} {ns:List Int},YG vs ns->Vals (ns.map V.int) vs:=by
 intro y y h
 induction h with
 | nil=>exact .nil
 | cons n t h ih=>exact .cons #[t,Y] ih
def Bn(H:Hp):Prop:=∀ b,H b=J ∨ ∃ o xs,H b=O (.dw o (.lst xs))
theorem IZ{P:Tv}{w:Ul}{K:SV}{mg mb:Str->Option SY}{CX:cU}{k:Nat}{fa a:Td}{fd:Vg}{x:Str}{sp:Sp}{s₁:SX}{vs:List SY}{ns:List Int}
 (KX:K.In s₁.heap) (fZ:s₁.heap.Ns TN mg) (hb:s₁.heap.Ns abt mb) (I0:∀ x:Str,x ≠ "__name__" -> mb x=Vb x) (Ja:s₁.heap.NoLimit) (hg:s₁.gens = (List.toArray []))
 (ha:s₁.heap.get? a=O { cls:=.type "list",data:=.seq vs.toArray }) (hi:YG vs ns) (hl:ns.length<=TB) (hr:aZ k aaW)
 (F:∀ base:UU,K.In base->base.Ns TN mg->cn P w K mg base CX k fa fd [x] sp) (Jb:∀ (s:SX) (u:SY),aaa s fd #[[u],[]] [(x,u)])
 (iD:∀ H:Hp,Bn H->ak K H a (ns.map V.int)->sp [.ref a] H (λv _=>v = .bl true) λ_ _ _=>False)
 (Jc:∀ H e s',CX [] H s₁ (λ_ _ _=>False) e s'->False) :
 XN (model P w) aaW (.call (.ref fa) #[[.ref a],[]]) (λr s'=>r = .ok (.ret (.bool true))/\OldK s₁.heap s'.heap/\s'.os=s₁.os/\YD s'.gens) s₁:=by
 have rv:=Bm hi;have Jd:=hi.length;have core:∀ H:Hp,Bn H->ak K H a (ns.map V.int)->bu P w H s₁.heap->(∀ b,H b≠J->b=a)->(H a≠J->K.lookup a=J) ->
  XN (model P w) aaW (.call (.ref fa) #[[.ref a],[]]) (λr s'=>r = .ok (.ret (.bool true))/\OldK s₁.heap s'.heap/\s'.os=s₁.os/\YD s'.gens) s₁:=by
  intro H hO hS ah hA hK;have Bo:∀ {b:Td} {o:Obj},s₁.heap.get? b=O o->H b=J->(iZ s₁.heap H).get? b=O o:=λe n=>G3 e n;have kR:∀ {b:Td} {o:Obj} {es:Array WJ} {ep:Nat},s₁.heap.get? b=O o->o.data = .dict es ep->H b=J:=λ{b o es ep} e d=>by
   cases q:H b with
   | none=>rfl
   | some u =>
    have e':b=a:=hA b (by rw[q];simp);subst e';rw[ha] at e;cases e;have d':Data.seq vs.toArray _=Data.dict es ep:=d;cases d'
  have rH:∀ {b:Td} {m:Str->Option SY},s₁.heap.Ns b m->(iZ s₁.heap H).Ns b m:=λ{b m} ⟨o,es,ep,e,d,r⟩=>#[o,es,ep,Bo e (kR e d),d,r]
  have Bp:K.In (iZ s₁.heap H):=λb o e=>Bo (KX b o e) (by
   cases q:H b with
   | none=>rfl
   | some u =>
    have e':b=a:=hA b (by rw[q];simp);subst e';rw[hK (by rw[q];simp)] at e;cases e)
  have hM:Mod K mg (iZ s₁.heap H):=#[Bp,rH fZ,#[mb,rH hb,I0],let ⟨mc,h1,h2⟩:=Ja;#[mc,rH h1,h2]]
  have e0:kQ P w K mg (iZ s₁.heap H) aaW [] s₁ H:=#[Y,hM,λb o e=>G4 e,abR (G2 _ _),trivial,λb hb=>absurd (show b∈([]:List Td) from hb) (by simp),ah,.of_eq hg]
  refine Yc ((F _ Bp (rH fZ)).run aaW [] s₁ H #[[.ref a],[]] [.ref a] [.ref a] _ _ hr e0 (Jb s₁ (.ref a)) (.cons rfl .nil) (iD H hO hS)) λr s' h=>?_;cases r with
  | error e=>exact (Jc H e s' h).elim
  | ok fl =>
   cases fl with
   | next=>exact UX h
   | brk=>exact UX h
   | cont=>exact UX h
   | ret u =>
    obtain⟨v,H',os,bare,un,Je,r',q⟩:=h;have q':v = .bl true:=q;subst q';obtain rfl:u=W5 true:=r';refine#[Y,OldK.of_keep λb o e=>?_,os,bare];cases q:H b with
    | none=>exact un.keep b o e q (by intro z;exact absurd (show b∈([]:List Td) from z) (by simp)) (by simp)
    | some u =>
     rcases hO b with z|⟨ob,xs,z⟩
     .rw[q] at z;cases z
     .have z2:=un.cg b ob _ z;obtain⟨e1,_⟩:=ah b _ z;obtain⟨e2,_⟩:=Je b _ z2;rw[e] at e1;cases e1;exact e2
 cases hk:K.lookup a with
 | some o =>
  have e:=KX a o hk;rw[ha] at e;cases e;refine core (λ_=>J) (λ_=>.inl rfl) (.inr #[_,vs.toArray,_,hk,Y,Y,Y,by rw[To,Jd];exact hl,by simpa using rv]) (λb u z=>by have z':(J:Option HO)=O u:=z;cases z') (λb z=>absurd Y z) λz=>absurd Y z
 | none =>
  refine core (λb=>if b=a then O (.dw { cls:=.type "list",data:=.seq vs.toArray } (.lst (ns.map V.int))) else J) (λb=>?_) (.inl (.inr #[{ cls:=.type "list",data:=.seq vs.toArray },if_pos Y])) (λb u z=>?_) (λb z=>?_) λ_=>hk
  .by_cases hb:b=a
   .exact .inr #[_,_,if_pos hb]
   .exact .inl (if_neg hb)
  .by_cases hb:b=a
   .have z':=(if_pos hb).symm.trans z;cases z';subst hb;exact#[ha,by rw[Tn];exact hl,vs,_,rv,ha]
   .have z':=(if_neg hb).symm.trans z;cases z'
  .by_cases hb:b=a
   .exact hb
   .exact absurd (if_neg hb) z
def inClass(s:Vt)(j:Nat):Vt:=match s with
 | .ClassDef _ _ _ body _ _ _ _ _ _ _=>body.getD j (.Pass #[0,0,0,0])
 | _=>.Pass #[0,0,0,0]
noncomputable def kU(s:Vt):Arguments:=match s with
 | .FunctionDef _ a _ _ _ _ _ _ _ _=>a
 | _=>{ posonlyargs:=[],args:=[],vararg:=J,kwonlyargs:=[],kw_defaults:=[],kwarg:=J,defaults:=[] }
noncomputable def eW(s:Vt):List Vt:=match s with
 | .FunctionDef _ _ b _ _ _ _ _ _ _=>b
 | _=>[]
noncomputable def cc(s:Vt):Xj:=match s with
 | .FunctionDef _ _ _ _ _ _ sc _ _ _=>sc
 | _=>{ kind:=.function,names:=[],isGenerator:=false,isCoroutine:=false }
abbrev Bq:cU:=λy y y y y y=>False
abbrev E0:XK:=λy y y=>False
structure iF(K:SV)(x qual:Str)(st:Vt)(f:Td)(fd:Vg):Prop where
 ex:∃ (oc:SY) (od:Option Td) (kV doc pm:SY) (an:Option Td) (aJ ct:SY) (gJ:Array (Option SY)),
  fd=V6 x qual (kU st) (eW st) (cc st) .none kV doc pm an aJ ct/\K.lookup f=O #[oc,od,.func fd,gJ]/\Xf K aJ qual=true
 kp:Ux K (.ref f)=true
section
variable{P:Tv}{w:Ul}{K:SV}{mg:Str->Option SY}{base:UU}
theorem iF.ok{x qual:Str}{st:Vt}{f:Td}{fd:Vg}{N ps:List Str}{k:Nat}{sp:Sp}(F:iF K x qual st f fd)(S:mJ N ps (cc st))(len:∀ vs H Q E,sp vs H Q E->vs.length=ps.length)
 (d9:∀ (aJ:SY) (A:Uk) (outer:List Env) (s:SX) (H:Hp) (vs:List V) (Q:VK) (E:XK),aZ k (A.deeper (UP qual (cc st) s.heap.objs.size f aJ))->sp vs H Q E ->
   ∃ t,aR (cV Bq P w K mg base N qual (cc st) f aJ A outer s H E).fX (eW st) t/\t { nx:=λy H'=>Q .non H',rt:=Q } (start N vs) H):cn P w K mg base Bq (k+1) f fd ps sp:=by
 obtain⟨oc,od,kV,doc,pm,an,aJ,ct,gJ,rfl,lk,dB⟩:=F.ex;refine uW lk dB S len λA outer s H vs Q E hr iD=>?_;obtain⟨t,h,q⟩:=d9 aJ A outer s H vs Q E hr iD;exact#[t,h.fX,q]
theorem iF.binds{x qual:Str}{st:Vt}{f:Td}{fd:Vg}{ps:List Str}(F:iF K x qual st f fd)
 (h:∀ (kV doc pm:SY) (an:Option Td) (aJ ct:SY) (us:List SY),us.length=ps.length->bindArgs (V6 x qual (kU st) (eW st) (cc st) .none kV doc pm an aJ ct) #[us,[]]=pure (ps.zip us)):Binds K fd ps []:=by
 obtain⟨oc,od,kV,doc,pm,an,aJ,ct,gJ,rfl,lk,dB⟩:=F.ex;exact .all (h kV doc pm an aJ ct)
theorem jc{x qual:Str}{st:Vt}{f:Td}{oc:SY}{od an:Option Td}{gJ:Array (Option SY)}{kV doc pm aJ ct:SY}(l:K.lookup f=O #[oc,od,.func (V6 x qual (kU st) (eW st) (cc st) .none kV doc pm an aJ ct),gJ])
 (c:Xf K aJ qual=true) (k:Ux K (.ref f)=true):iF K x qual st f (V6 x qual (kU st) (eW st) (cc st) .none kV doc pm an aJ ct):=#[#[oc,od,kV,doc,pm,an,aJ,ct,gJ,Y,l,c],k]
end
theorem jd{A:Uk}{k:Nat}(hr:aZ k A):A.units+1<Zz:=Uh (Nat.add_le_add_left (by decide:1<=64) _) hr.units
section
variable{X:Cx}
theorem pv(i:Nat){x:Str}{pos:Pos}(hN:X.N[i]?=O x:=by rfl)(hv:qW X.env.scope x:=by first|exact Or.inl rfl|exact Or.inr (Or.inl Y)|exact Or.inr (Or.inr Y))(hd:(x == ("__debug__" : Str))=false:=by decide)
 (dB:(x == ("__classdict__" : Str))=false:=by decide):PE X (.Name x pos) (uz i):=G8 hN hv hd dB
end
def aj(H H':Hp):Prop:=∀ b o,H b=O o->H' b=O o
theorem aj.refl(H:Hp):aj H H:=λy y h=>h
theorem aj.trans{H H1 H2:Hp}(a:aj H H1)(b:aj H1 H2):aj H H2:=λc o h=>b c o (a c o h)
theorem aj.free{H H':Hp}(e:aj H H'){l:Td}(h:H' l=Option.none):H l=Option.none:=by
 cases q:H l with
 | none=>rfl
 | some o =>
  rw[e l o q] at h;cases h
theorem aj.seq{K:SV}{H H':Hp}{a:Td}{xs:List V}(e:aj H H')(h:ak K H a xs):ak K H' a xs:=by
 rcases h with (h|⟨o,h⟩)|h
 .exact .inl (.inl (e _ _ h))
 .exact .inl (.inr #[o,e _ _ h])
 .exact .inr h
section
variable{κ:Type}[DecidableEq κ]
noncomputable def bJ(kvs:List (κ × V))(k:κ):Option V:=(kvs.find? λkv=>decide (kv.1=k)).map (·.2)
noncomputable def putK(kvs:List (κ × V))(k:κ)(v:V):List (κ × V) :=
 if (kvs.any λkv=>decide (kv.1=k))=true then kvs.map (λkv=>if kv.1=k then (kv.1,v) else kv) else kvs++[(k,v)]
noncomputable def iG(kvs:List (κ × V))(k:κ):List (κ × V):=kvs.filter λkv=>decide (kv.1≠k)
theorem rJ{p:κ × V}{r:List (κ × V)}{k:κ}(e:p.1=k):bJ (p::r) k=O p.2:=by simp[bJ,U9,e]
theorem rK{p:κ × V}{r:List (κ × V)}{k:κ}(e:¬ p.1=k):bJ (p::r) k=bJ r k:=by simp[bJ,U9,e]
theorem Br(k:κ):∀ kvs:List (κ × V),(kvs.any λkv=>decide (kv.1=k))=(bJ kvs k).isSome
 | []=>rfl
 | p::r=>by
  rw[Xz];by_cases e:p.1=k
  .simp only[rJ e,decide_eq_true e,Bool.true_or,Option.isSome_some]
  .rw[rK e,decide_eq_false e,Bool.false_or];exact Br k r
theorem Bs(kvs:List (κ × V))(k:κ)(v:V):(putK kvs k v).length<=kvs.length+1:=by
 unfold putK;split
 .rw[Tn];omega
 .rw[T8,Uz,aaX];omega
theorem dh.vg{o:Option V}{u:Option SY}(r:dh o u):o.isSome=u.isSome:=by
 cases o with
 | none=>cases u with
  | none=>rfl
  | some _=>exact (show False from r).elim
 | some _=>cases u with
  | none=>exact (show False from r).elim
  | some _=>rfl
theorem dh.getD{o:Option V}{u:Option SY}{d:V}{d':SY}(r:dh o u)(rd:RelV d d'):RelV (o.getD d) (u.getD d'):=by
 cases o with
 | none=>cases u with
  | none=>exact rd
  | some _=>exact (show False from r).elim
 | some _=>cases u with
  | none=>exact (show False from r).elim
  | some _=>exact r
theorem KV.val{kvs:List (κ × V)}{vs:List (κ × SY)}(r:KV kvs vs)(k:κ):dh (bJ kvs k) (aad vs k):=by
 unfold KV at r
 induction r with
 | nil=>exact XD
 | @cons p q ps qs h t ih =>
  obtain⟨h1,h2⟩:=h;by_cases e:p.1=k
  .have e':q.1=k:=h1.symm.trans e;have b:aad (q::qs) k=O q.2:=by simp[aad,U9,e']
   rw[rJ e,b];exact h2
  .have e':¬ q.1=k:=λz=>e (h1.trans z);have b:aad (q::qs) k=aad qs k:=by simp[aad,U9,e']
   rw[rK e,b];exact ih
theorem KV.any{kvs:List (κ × V)}{vs:List (κ × SY)}(r:KV kvs vs)(k:κ):(kvs.any λkv=>decide (kv.1=k))=vs.any λkv=>decide (kv.1=k):=by
 unfold KV at r
 induction r with
 | nil=>rfl
 | cons h t ih=>rw[Xz,Xz,ih,h.1]
theorem KV.mK{kvs:List (κ × V)}{vs:List (κ × SY)}(r:KV kvs vs)(k:κ){y:V}{u:SY}(ry:RelV y u) :
 KV (kvs.map λkv=>if kv.1=k then (kv.1,y) else kv) (vs.map λkv=>if kv.1=k then (kv.1,u) else kv):=by
 unfold KV at r ⊢
 induction r with
 | nil=>exact .nil
 | @cons p q ps qs h t ih =>
  rw[TJ,TJ];refine .cons ?_ ih;obtain⟨h1,h2⟩:=h;by_cases e:p.1=k
  .rw[if_pos e,if_pos (h1.symm.trans e)];exact#[h1,ry]
  .rw[if_neg e,if_neg (λz=>e (h1.trans z))];exact#[h1,h2]
theorem KV.put{kvs:List (κ × V)}{vs:List (κ × SY)}(r:KV kvs vs)(k:κ){y:V}{u:SY}(ry:RelV y u):KV (putK kvs k y) (stored vs k u):=by
 unfold putK stored;rw[r.any k];by_cases e:(vs.any λkv=>decide (kv.1=k))=true
 .rw[if_pos e,if_pos e];exact r.mK k ry
 .rw[if_neg e,if_neg e];exact Paired.snoc r #[Y,ry]
theorem KV.length{kvs:List (κ × V)}{vs:List (κ × SY)}(r:KV kvs vs):kvs.length=vs.length:=Paired.length r
theorem Jf(kvs:List (κ × V))(k:κ):(iG kvs k).length<=kvs.length:=Zc _ _
end
theorem oK{P:Tv}{w:Ul}{k:Key}{u:SY}(r:RelV (kV k) u):(dt P w).is k u=true:=by
 cases k with
 | inl i=>obtain⟨t,e⟩:=(show ∃ t,u=Value.int i t from r);subst e;exact GY P w i t
 | inr x=>obtain⟨t,e⟩:=(show ∃ t,u=Value.str x t from r);subst e;exact GZ P w x t
theorem Bu{P:Tv}{w:Ul}:∀ {ks:List Key} {us:List SY},Vals (ks.map kV) us->ItemsAre (dt P w) ks us
 | [],_,r=>by rw[aaq] at r;cases r;exact .nil
 | k::ks,_,r=>by
  rw[TJ] at r;cases r with
  | cons h t=>exact .cons (oK h) (Bu t)
abbrev KT(H:Hp):List (List Key × V)->List (List Key × Td × SY)->Prop:=abO λp q=>p.1=q.1/\H q.2.1=O (.tup (p.1.map kV))/\RelV p.2 q.2.2
theorem KT.val{H:Hp}{kvs:List (List Key × V)}{xs:List (List Key × Td × SY)}(r:KT H kvs xs)(k:List Key):dh (bJ kvs k) ((ZM xs k).map (·.2)):=by
 induction r with
 | nil=>exact XD
 | @cons p q ps qs h t ih =>
  obtain⟨h1,y,h2⟩:=h;by_cases e:p.1=k
  .have e':q.1=k:=h1.symm.trans e;have b:ZM (q::qs) k=O q.2:=by simp[ZM,U9,e']
   rw[rJ e,b];exact h2
  .have e':¬ q.1=k:=λz=>e (h1.trans z);have b:ZM (q::qs) k=ZM qs k:=by simp[ZM,U9,e']
   rw[rK e,b];exact ih
theorem KT.mK{H:Hp}{kvs:List (List Key × V)}{xs:List (List Key × Td × SY)}(r:KT H kvs xs)(k:List Key){y:V}{u:SY}(ry:RelV y u) :
 KT H (kvs.map λkv=>if kv.1=k then (kv.1,y) else kv) (xs.map (putAt k u)):=by
 induction r with
 | nil=>exact .nil
 | @cons p q ps qs h t ih =>
  rw[TJ,TJ];refine .cons ?_ ih;obtain⟨h1,h2,h3⟩:=h;unfold putAt;by_cases e:p.1=k
  .rw[if_pos e,if_pos (h1.symm.trans e)];exact#[h1,h2,ry]
  .rw[if_neg e,if_neg (λz=>e (h1.trans z))];exact#[h1,h2,h3]
theorem KT.put{H:Hp}{kvs:List (List Key × V)}{xs:List (List Key × Td × SY)}(r:KT H kvs xs)(k:List Key){b:Td}{y:V}{u:SY}(hb:H b=O (.tup (k.map kV)))(ry:RelV y u) :
 KT H (putK kvs k y) (storedH xs k b u):=by
 have e:(kvs.any λkv=>decide (kv.1=k))=(ZM xs k).isSome:=by rw[Br,(r.val k).vg,aae]
 unfold putK storedH;rw[e];by_cases q:(ZM xs k).isSome=true
 .rw[if_pos q,if_pos q];exact r.mK k ry
 .rw[if_neg q,if_neg q];exact Paired.snoc r #[Y,hb,ry]
theorem KT.keeps{H H':Hp}{kvs:List (List Key × V)}{xs:List (List Key × Td × SY)}(r:KT H kvs xs)(ht:∀ b ys,H b=O (.tup ys)->H' b=O (.tup ys)):KT H' kvs xs :=
 Paired.zT r λy y z=>#[z.1,ht _ _ z.2.1,z.2.2]
section
variable{P:Tv}{w:Ul}{H:Hp}{h:UU}{a:Td}
theorem Bv{u:HO}(ok:bu P w H h)(e:Rd H a u):bH P w H h a u:=e.ok ok
theorem mL{kvs:List (Key × V)}(ok:bu P w H h)(e:Rd H a (.dK kvs)):kvs.length<=TB/\(a == Vl)=false/\∃ vs,KV kvs vs/\h.DictOf (dt P w) a vs :=
 show bH P w H h a (.dK kvs) from Bv ok e
theorem Jg{kvs:List (Key × V)}(ok:bu P w H h)(e:H a=O (.dK kvs)):kvs.length<=TB/\(a == Vl)=false/\∃ vs,KV kvs vs/\h.DictOf (dt P w) a vs:=mL ok (.inl e)
theorem mM{ks:List Key}(ok:bu P w H h)(e:H a=O (.tup (ks.map kV))):(XH (dt P w)).is h ks a:=by
 obtain⟨y,af,r,o,h1,h2,n,h3⟩:=(show bH P w H h a (.tup (ks.map kV)) from ok a _ e)
 exact#[o,af.toArray,n,h1,h2,h3,by simpa using Bu r]
theorem mO{kvs:List (List Key × V)}(ok:bu P w H h)(e:Rd H a (.dT kvs)):kvs.length<=TB/\(a == Vl)=false /\
 ∃ xs,KT H kvs xs/\h.DictOfH (XH (dt P w)) a xs:=by
 obtain⟨z,y,xs,r,o,es,ep,h1,h2,h3,h4,h5⟩:=(show bH P w H h a (.dT kvs) from Bv ok e)
 refine#[z,y,xs,r,o,es,ep,h1,h2,h3,h4,λx hx=>?_,h5];have all:∀ {l:List (List Key × V)} {m:List (List Key × Td × SY)},KT H l m->∀ x∈m,(XH (dt P w)).is h x.1 x.2.1:=by
  intro l m q
  induction q with
  | nil=>intro x hx;exact nomatch hx
  | @cons p q ps qs hq t ih =>
   intro x hx;rcases Tz.mp hx with e|hx
   .subst e;exact mM ok (by rw[<- hq.1];exact hq.2.1)
   .exact ih x hx
 exact all r x hx
theorem vh{kvs:List (List Key × V)}(ok:bu P w H h)(e:H a=O (.dT kvs)):kvs.length<=TB/\(a == Vl)=false /\
 ∃ xs,KT H kvs xs/\h.DictOfH (XH (dt P w)) a xs:=mO ok (.inl e)
end
def dj(H:Hp)(a:Td)(y:V)(r:Option V):Prop :=
 (∃ kvs k,Rd H a (.dK kvs)/\y=kV k/\r=bJ kvs k) ∨ ∃ kvs k b,Rd H a (.dT kvs)/\y = .ref b/\H b=O (.tup (k.map kV))/\r=bJ kvs k
def je(H:Hp)(a:Td)(y v:V)(H':Hp):Prop :=
 (∃ kvs k,H a=O (.dK kvs)/\y=kV k/\kvs.length<TB/\H'=upd H a (.dK (putK kvs k v))) ∨
 ∃ kvs k b,H a=O (.dT kvs)/\y = .ref b/\H b=O (.tup (k.map kV))/\kvs.length<TB/\H'=upd H a (.dT (putK kvs k v))
theorem dj.k{H:Hp}{a:Td}{kvs:List (Key × V)}{k:Key}(e:H a=O (.dK kvs)):dj H a (kV k) (bJ kvs k):=.inl #[kvs,k,.inl e,Y,Y]
theorem dj.t{H:Hp}{a b:Td}{kvs:List (List Key × V)}{k:List Key}(e:H a=O (.dT kvs))(eb:H b=O (.tup (k.map kV))):dj H a (.ref b) (bJ kvs k):=.inr #[kvs,k,b,.inl e,Y,eb,Y]
theorem je.k{H:Hp}{a:Td}{kvs:List (Key × V)}{k:Key}{v:V}(e:H a=O (.dK kvs))(hl:kvs.length<TB):je H a (kV k) v (upd H a (.dK (putK kvs k v))):=.inl #[kvs,k,e,Y,hl,Y]
theorem je.t{H:Hp}{a b:Td}{kvs:List (List Key × V)}{k:List Key}{v:V}(e:H a=O (.dT kvs))(eb:H b=O (.tup (k.map kV)))(hl:kvs.length<TB) :
 je H a (.ref b) v (upd H a (.dT (putK kvs k v))):=.inr #[kvs,k,b,e,Y,eb,hl,Y]
section
variable{X:Cx}{pins:List (Td × Obj)}{G:St}{H:Hp}{s:SX}{a:Td}{y v:V}{u r:SY}{o:Option V}{A:Uk}{E:SY->SX->Prop}
theorem Jh{Q:SY->SX->Prop}(hu:A.units+1<Zz)(I:Inv X pins G H s)(g:dj H a y (O v))(ry:RelV y u)(h:∀ w' s',Inv X pins G H s'->RelV v w'->Q w' s') :
 TX (model X.prog X.w) A (YF (.ref a) u) Q E s:=by
 rcases g with ⟨kvs,k,e,ey,l⟩|⟨kvs,k,b,e,ey,eb,l⟩
 .subst ey;obtain⟨z,hd,vs,rel,dd⟩:=mL I.ah e;obtain⟨w',hw,eo⟩:=dh.some_of (v:=v) (o:=aad vs k) (by rw[l];exact rel.val k);exact wpAny_getItem_of (oK ry) dd.mapOf hw (h w' _ (I.tok _) eo)
 .subst ey;cases (show u=Uo b from ry);obtain⟨z,hd,xs,rel,dd⟩:=mO I.ah e;obtain⟨w',hw,eo⟩:=dh.some_of (v:=v) (o:=(ZM xs k).map (·.2)) (by rw[l];exact rel.val k);obtain⟨p,hp,c8⟩:=Option.map_eq_some_iff.mp hw;refine wpAny_getItem_heap (Wq hu) (mM I.ah eb) dd hp ?_;rw[c8];exact h w' _ (I.tok _) eo
theorem Ji{Q:SY->SX->Prop}(hu:A.units+1<Zz)(I:Inv X pins G H s)(g:dj H a y o)(ry:RelV y u)(h:∀ s',Inv X pins G H s'->Q (.bool (!o.isSome)) s') :
 TX (model X.prog X.w) A (Vd .NotIn u (.ref a)) Q E s:=by
 rcases g with ⟨kvs,k,e,ey,l⟩|⟨kvs,k,b,e,ey,eb,l⟩
 .subst ey;obtain⟨z,hd,vs,rel,dd⟩:=mL I.ah e;refine wpAny_notIn_of (oK ry) hd dd.mapOf ?_;rw[<- (rel.val k).vg,<- l];exact h _ (I.tok _)
 .subst ey;cases (show u=Uo b from ry);obtain⟨z,hd,xs,rel,dd⟩:=mO I.ah e;refine wpAny_notIn_heap (Wq hu) (mM I.ah eb) hd dd ?_;have q:=(rel.val k).vg;rw[aae] at q;rw[<- q,<- l];exact h _ (I.tok _)
theorem vi{h':UU}{t':Nat}{ob:HO}(I:Inv X pins G H s)(mu:n9 (H a))(hs:Heap.SameBut a s.heap h')(he:∃ q,h'.get? a=O q)(new:bH X.prog X.w (upd H a ob) h' a ob) :
 Inv X pins G (upd H a ob) { s with heap:=h',toks:=t' } :=
 I.write (x:=a) (e:=a) mu (.inl rfl) (λb q hb z=>(hs.2 b hb).trans z) he new
theorem Bw{P:Tv}{w:Ul}{H':Hp}{h':UU}{kvs:List (Key × V)}{vs:List (Key × SY)}(z:kvs.length<=TB)(hd:(a == Vl)=false)(rel:KV kvs vs)(dd:h'.DictOf (dt P w) a vs) :
 bH P w H' h' a (.dK kvs):=#[z,hd,vs,rel,dd]
theorem Jj{H':Hp}{Q:Unit->SX->Prop}(hu:A.units+1<Zz)(I:Inv X pins G H s)(g:je H a y v H')(ry:RelV y u)(rv:RelV v r)(h:∀ s',Inv X pins G H' s'->Q () s') :
 TX (model X.prog X.w) A (setItem (.ref a) u r) Q E s:=by
 rcases g with ⟨kvs,k,e,ey,l,eH⟩|⟨kvs,k,b,e,ey,eb,l,eH⟩
 .subst ey eH;obtain⟨z,hd,vs,rel,dd⟩:=Jg I.ah e;have hz:vs.length<=TB:=by rw[<- rel.length];exact z
  have hl:(putK kvs k v).length<=TB:=by have:=Bs kvs k v;omega
  refine wpAny_setItem_pairs (hsz:=hz) (oK ry) dd λh' kW hs=>h _ ?_;have he:∃ q,h'.get? a=O q:=let ⟨q,_,_,hq,_⟩:=kW;#[q,hq];exact vi I (by rw[e];exact XD) hs he (Bw hl hd (rel.put k rv) kW)
 .subst ey eH;cases (show u=Uo b from ry);obtain⟨z,hd,xs,rel,dd⟩:=vh I.ah e;have hz:xs.length<=TB:=by rw[<- Paired.length rel];exact z
  have hl:(putK kvs k v).length<=TB:=by have:=Bs kvs k v;omega
  refine wpAny_setItem_heap (hsz:=hz) (Wq hu) (mM I.ah eb) dd λh' kW hs=>h _ ?_;obtain⟨q,es,ep,hq,h2,h3,h4,c,h5⟩:=kW;refine vi I (by rw[e];exact XD) hs #[q,hq] #[hl,hd,_,(rel.put k eb rv).keeps λc ys ec=>?_,q,es,ep,hq,h2,h3,h4,h5];rw[az (mx ec e (λz=>nomatch z))];exact ec
end
section
variable{X:Cx}{pins:List (Td × Obj)}{G:St}{H:Hp}{s:SX}{a:Td}{kvs:List (Key × V)}{k:Key}{u:SY}{A:Uk}{E:SY->SX->Prop}
end
def vj(i:Vh):Prop:=∀ ov iv,subscripted i false ov iv=operate [ov,iv] (YF ov iv)
theorem Jk{prog:Tv}{w:Ul}{A:Uk}{E:SY->SX->Prop}{s:SX}{env:Env}{value slice:Vh}{pos:Pos}{T id:String}{Q:SY->SX->Prop}
 (hl:typeLookup (.type T) "__getitem__" = pure (O (.builtin id))) (hs:vj slice)
 (h:TX (model prog w) A (eval value env) (λo s₁=>TX (model prog w) A (eval slice env) (λi s₂=>s₂.TypeIs o T/\TX (model prog w) A (YF o i) Q E s₂) E s₁) E s) :
 TX (model prog w) A (eval (.Subscript value slice pos) env) Q E s:=by
 refine aby (Ue h (λo s₁ h₁=>Ue h₁ (λi s₂ h₂=>?_) λy y x=>x) λy y x=>x);obtain⟨hT,h₂⟩:=h₂;unfold ZY;refine SW ?_;rw[getitemInPython_of_ne hT.not_modules];refine SW (wpAny_specialOf hT hl ?_);have fin:TX (model prog w) A (subscripted slice false o i) (λr s₃=>TX (model prog w) A (letTemporaryGo value o r >>= λy=>pure r) Q E s₃) E s₂:=by rw[hs o i];exact wpAny_operating (Ue h₂ (λr s₃ h₃=>SW (wpAny_letTemporaryGo (Tc h₃))) λy y x=>x)
 first
  | exact Tc (SW fin)
  | exact SW (Tc (SW fin))
  | exact SW fin
theorem Jl{X:Cx}{pins:List (Td × Obj)}{G:St}{H:Hp}{s:SX}{a:Td}{y:V}{o:Option V}(I:Inv X pins G H s)(g:dj H a y o):s.TypeIs (.ref a) "dict" := by
 rcases g with ⟨kvs,k,e,z,z⟩|⟨kvs,k,b,e,z,z,z⟩
 .obtain⟨z,z,vs,z,dd⟩:=mL I.ah e;exact dd.typeIs
 .obtain⟨z,z,xs,z,dd⟩:=mO I.ah e;exact dd.typeIs
def vm(td ty:TE):TE:=λG H Q=>td G H λx H1=>ty G H1 λy H2=>∃ a v,x = .ref a/\dj H2 a y (O v)/\Q v H2
def Jm(ty td:TE):TE:=λG H Q=>ty G H λy H1=>td G H1 λx H2=>∃ a o,x = .ref a/\dj H2 a y o/\Q (.bl o.isSome) H2
def Bx(ty td:TE):TE:=λG H Q=>ty G H λy H1=>td G H1 λx H2=>∃ a o,x = .ref a/\dj H2 a y o/\Q (.bl (!o.isSome)) H2
def By(td ty tv:TE):TS:=λD G H=>tv G H λv H1=>td G H1 λx H2=>ty G H2 λy H3=>∃ a H4,x = .ref a/\je H3 a y v H4/\D.nx G H4
section
variable{X:Cx}{o i e value:Vh}{pos pos' HZ:Pos}{td ty tv:TE}
theorem Jn(hu:X.A.units+1<Zz)(ho:PE X o td)(hi:PE X i ty)(hs:vj i):PE X (.Subscript o i pos) (vm td ty):=by intro pins s G H Q I h;refine Jk PySem.F.slot_dict_getitem.lookup hs (ax (ho pins s G H _ I h) λu s1 ⟨x,H1,I1,rx,q1⟩=>ax (hi pins s1 G H1 _ I1 q1) λiv s2 zq=>?_);obtain⟨y,H2,I2,ry,a,v,ex,g,q2⟩:=zq;subst ex;obtain rfl:u=Uo a:=rx;exact#[Jl I2 g,Jh hu I2 g ry λw' s3 I3 eo=>#[v,H2,I3,eo,q2]]
theorem Jo(hu:X.A.units+1<Zz)(hi:PE X i ty)(ho:PE X o td):PC X .NotIn i o (Bx ty td):=by
 intro pins s G H Q I h;refine ax (hi pins s G H _ I h) λiv s1 ⟨y,H1,I1,ry,q1⟩=>ax (ho pins s1 G H1 _ I1 q1) λu s2 zq=>?_;obtain⟨x,H2,I2,rx,a,ov,ex,g,q2⟩:=zq;subst ex;obtain rfl:u=Uo a:=rx;exact Ji hu I2 g ry λs3 I3=>#[.bl (!ov.isSome),H2,I3,Y,q2]
theorem vn(hu:X.A.units+1<Zz)(ho:PE X o td)(hi:PE X i ty)(hv:PE X value tv)(hs:Xk value (O (.Subscript o i pos')) pos.line X.env=pure false) :
 PS X (.Assign [.Subscript o i pos'] value pos) (By td ty tv):=by
 intro pins s G H D I h;refine wpAny_Assign_Subscript (ax (hv pins s G H _ I h) λr s1 ⟨v,H1,I1,rv,q1⟩=>ax (ho pins s1 G H1 _ I1 q1) λu s2 ⟨x,H2,I2,rx,q2⟩=>ax (hi pins s2 G H2 _ I2 q2) λiv s3 zq=>?_) hs;obtain⟨y,H3,I3,ry,a,H4,ex,g,q3⟩:=zq;subst ex;obtain rfl:u=Uo a:=rx;exact Jj hu I3 g ry rv λs4 I4=>#[G,H4,I4,q3]
end
section
variable{X:Cx}{pos:Pos}
end
noncomputable def Jp(kvs more:List (Key × V)):List (Key × V):=more.foldl (λacc kv=>putK acc kv.1 kv.2) kvs
theorem KV.merge:∀ {more:List (Key × V)} {rs:List (Key × SY)} {kvs:List (Key × V)} {vs:List (Key × SY)},KV more rs->KV kvs vs->KV (Jp kvs more) (merged vs rs):=by
 intro more rs kvs vs r;unfold KV at r
 induction r generalizing kvs vs with
 | nil=>intro q;exact q
 | @cons p q ps qs h t ih =>
  intro r0;have e:KV (putK kvs p.1 p.2) (stored vs q.1 q.2):=by have:=r0.put p.1 h.2;rw[<- h.1];exact this
  exact ih e
structure M1(X:Cx)(o:Vh)(m:Str)(apos:Pos)(e:Vh)(bN:Pos):Prop where
 base:WX o m X.env (eval o X.env)=eval o X.env
 few:((Wm bN (TZ [e] X.env)).all (λx=>!x.1) && (Zs bN (W8 [] X.env)).all (λx=>x.1.isSome)
  && decide (([e]:List Vh).length+([]:List aab).length+(if ([]:List aab).isEmpty then 0 else 1)<30))=true
 line:(apos.endLine == bN.line)=true
 trees:Wm bN (TZ [e] X.env)=[(false,eval e X.env)]
structure M2(X:Cx)(o:Vh)(m:Str)(apos:Pos)(e f:Vh)(bN:Pos):Prop where
 base:WX o m X.env (eval o X.env)=eval o X.env
 few:((Wm bN (TZ [e,f] X.env)).all (λx=>!x.1) && (Zs bN (W8 [] X.env)).all (λx=>x.1.isSome)
  && decide (([e,f]:List Vh).length+([]:List aab).length+(if ([]:List aab).isEmpty then 0 else 1)<30))=true
 line:(apos.endLine == bN.line)=true
 trees:Wm bN (TZ [e,f] X.env)=[(false,eval e X.env),(false,eval f X.env)]
def rL(H:Hp)(a:Td):Prop:=(∃ kvs,Rd H a (.dK kvs)) ∨ ∃ kvs,Rd H a (.dT kvs)
theorem vo{X:Cx}{pins:List (Td × Obj)}{G:St}{H:Hp}{s:SX}{a:Td}(I:Inv X pins G H s)(d:rL H a) :
 s.TypeIs (.ref a) "dict" /\ (∀ b,Uo a = .ref b->∃ ob,s.heap.get? b=O ob/\ob.dict=J)/\(a == Vl)=false:=by
 rcases d with ⟨kvs,e⟩|⟨kvs,e⟩
 .obtain⟨y,hd,vs,y,dd⟩:=mL I.ah e;refine#[dd.typeIs,λb q=>?_,hd];cases q;obtain⟨ob,y,y,h1,h2,y⟩:=dd;exact#[ob,h1,h2.2.1]
 .obtain⟨y,hd,xs,y,dd⟩:=mO I.ah e;refine#[dd.typeIs,λb q=>?_,hd];cases q;obtain⟨ob,y,y,h1,h2,y⟩:=dd;exact#[ob,h1,h2.2.1]
section
variable{X:Cx}{pins:List (Td × Obj)}{G:St}{H:Hp}{s:SX}{a:Td}{y d:V}{u r:SY}{o:Option V}{A:Uk}{E:SY->SX->Prop}
theorem Jq{Q:SY->SX->Prop}(hu:A.units+1<Zz)(I:Inv X pins G H s)(g:dj H a y o)(ry:RelV y u)(h:∀ w' s',Inv X pins G H s'->RelV (o.getD .non) w'->Q w' s') :
 TX (model X.prog X.w) A (call (.builtin "dict.get") [.ref a,u]) Q E s:=by
 rcases g with ⟨kvs,k,e,ey,l⟩|⟨kvs,k,b,e,ey,eb,l⟩
 .subst ey;obtain⟨z,hd,vs,rel,dd⟩:=mL I.ah e;refine aas Xl dd.typeIs Y1 (YH _ _) (meets_dict_get (dt X.prog X.w) a (oK ry) hd) #[_,dd.mapOf,h _ _ (I.tok _) ?_];rw[l];exact (rel.val k).getD rfl
 .subst ey;cases (show u=Uo b from ry);obtain⟨z,hd,xs,rel,dd⟩:=mO I.ah e;refine aas Xl dd.typeIs Y1 (YH _ _) (meetsH_dict_get (XH (dt X.prog X.w)) a b hd) #[Wq hu,k,xs,mM I.ah eb,dd,h _ _ (I.tok _) ?_];rw[l];exact (rel.val k).getD rfl
end
def Bz(td ty:TE):TE:=λG H Q=>td G H λx H1=>∃ a,x = .ref a/\rL H1 a/\ty G H1 λy H2=>∃ o,dj H2 a y o/\Q (o.getD .non) H2
section
variable{X:Cx}{o e f:Vh}{apos bN:Pos}{td ty tx:TE}
theorem Jr(hu:X.A.units+1<Zz)(ho:PE X o td)(he:PE X e ty)(m:M1 X o "get" apos e bN):PE X (.Call (.Attribute o "get" apos) [e] [] bN) (Bz td ty):=by
 intro pins s G H Q I h;refine Yw m.base m.few m.line WZ Xl PySem.F.type_dict_get (ax (ho pins s G H _ I h) λu s1 zq=>?_);obtain⟨x,H1,I1,rx,a,ex,d,q1⟩:=zq;subst ex;obtain rfl:u=Uo a:=rx;obtain⟨t1,t2,z⟩:=vo I1 d;refine#[t1,t2,?_];rw[m.trees];refine Wk Y (VQ (Wn (ax (he pins s1 G H1 _ I1 q1) λiv s2 ⟨y,H2,I2,ry,ov,g,q2⟩=>W7 ?_)));exact Jq hu I2 g ry λw' s3 I3 eo=>#[_,H2,I3,eo,q2]
end
section
variable{X:Cx}{pins:List (Td × Obj)}{G:St}{H:Hp}{s:SX}{a:Td}{kvs:List (Key × V)}{A:Uk}{E:SY->SX->Prop}
end
section
variable{X:Cx}{pins:List (Td × Obj)}{G:St}{H:Hp}{s:SX}{a:Td}{y:V}{u:SY}{A:Uk}{E:SY->SX->Prop}
end
section
variable{κ:Type}[DecidableEq κ]
theorem BA:∀ {l:List κ} {k:κ},l.Nodup->¬ k∈l->(l++[k]).Nodup
 | [],k,_,_=>by simp
 | a::r,k,h,hk=>by
  obtain⟨h1,h2⟩:=UH.mp h;show (a::(r++[k])).Nodup;refine UH.mpr #[λm=>?_,BA h2 λm=>hk (Tz.mpr (Or.inr m))];rcases TQ.mp m with q|q
  .exact h1 q
  .exact hk (Tz.mpr (Or.inl (TY.mp q).symm))
end
end L2
namespace Gz
open PySem PySem.Spec PyProof.Rows L2
def Bd(n:Nat)(x:Int):Prop:=x.natAbs<2 ^ n
theorem Bd.of{n:Nat}{x:Int}(h1 : -((2 ^ n:Nat):Int)<x)(h2:x<((2 ^ n:Nat):Int)):Bd n x:=by unfold Bd;lia
theorem Bd.up{n m:Nat}{x:Int}(h:Bd n x)(hm:n<=m):Bd m x:=Tu h (VR (by decide) hm)
theorem Bd.bits{n:Nat}{x:Int}(h:Bd n x):Wb x<=n:=by
 unfold Wb;by_cases e:x=0
 .subst e;simp
 .have e0:¬ ((x == 0)=true):=by simpa using e
  rw[if_neg e0];have hn:x.natAbs≠0:=by lia
  have:=(ab1 hn).mpr h;lia
theorem Bd.mul{n m:Nat}{x y:Int}(h:Bd n x)(h':Bd m y):Bd (n+m) (x * y):=by
 unfold Bd at *;rw[Xg,Nat.pow_add];by_cases e:y.natAbs=0
 .rw[e,Nat.mul_zero];exact Nat.mul_pos (aaY _) (aaY _)
 .exact Tu ((Nat.mul_lt_mul_right (by lia)).mpr h) (Nat.mul_le_mul_left _ (UN h'))
theorem Bd.add{n m k:Nat}{x y:Int}(h:Bd n x)(h':Bd m y)(h1:n<k)(h2:m<k):Bd k (x+y):=by
 have a:=Bd.up h (m:=k-1) (by lia);have b:=Bd.up h' (m:=k-1) (by lia);unfold Bd at *;have e:2 ^ k=2 ^ (k-1)+2 ^ (k-1):=by
  obtain⟨j,rfl⟩:∃ j,k=j+1:=#[k-1,by lia]
  rw[abS];simp;lia
 lia
theorem Bd.neg{n:Nat}{x:Int}(h:Bd n x):Bd n (-x):=by unfold Bd at *;lia
theorem Bd.sub{n m k:Nat}{x y:Int}(h:Bd n x)(h':Bd m y)(h1:n<k)(h2:m<k):Bd k (x-y):=by rw[Int.sub_eq_add_neg];exact h.add h'.neg h1 h2
theorem Bd.log{n:Nat}{x:Int}(h:Bd n x)(hn:n<=9000)(h0:0<n):x.natAbs.log2<9000:=by
 by_cases e:x.natAbs=0
 .rw[e];decide
 .have:=(ab1 e).mpr h;lia
def mP(i j:Int):Prop:=Bd 4000 i/\Bd 4000 j
theorem mP.ok{i j:Int}(h:mP i j):IntMulOk i j :=
 IntMulOk.of_bits (TL h.1.bits (by decide)) (TL h.2.bits (by decide))
section
variable{X:Cx}
theorem Js:aT X (Ww .Mult) (rI mP λi j=>.int (i * j)):=ou λy y y y y y y hc q=>mul_int q hc.ok
theorem eX:aT X (Ww .FloorDiv) (rI (λy j=>0<j/\Bd 4000 j) λi j=>.int (i / j)):=ou λi j y y y y y hc q=>by have h1:(0:Int)<j:=hc.1;exact floordiv_int (by lia) (by rw[Int.fdiv_eq_ediv_of_nonneg i (by lia)];exact q) (.inl (PyProof.noPylong_of_log2 (hc.2.log (by decide) (by decide))))
theorem BB:aT X (Ww .FloorDiv) (rI (λy j=>j≠0/\Bd 4000 j) λi j=>.int (i.fdiv j)):=ou λi j y y y y y hc q=>by exact floordiv_int hc.1 q (.inl (PyProof.noPylong_of_log2 (hc.2.log (by decide) (by decide))))
noncomputable def kX:V->SY
 | .ref a=>.ref a
 | .ty n=>.type n
 | _=>.none
end
theorem mQ:Vb "len" = O (.builtin "len"):=by decide +kernel
theorem rM:Vb "abs" = O (.builtin "abs"):=by decide +kernel
theorem rN:Vb "isinstance" = O (.builtin "isinstance"):=by decide +kernel
theorem BC:Vb "sorted" = O (.builtin "sorted"):=by decide +kernel
theorem Jt:Vb "all" = O (.builtin "all"):=by decide +kernel
theorem vq:Vb "list" = O (.type "list"):=by decide +kernel
theorem Ju:Vb "enumerate" = O (.type "enumerate"):=by decide +kernel
theorem Jv:Vb "zip" = O (.type "zip"):=by decide +kernel
noncomputable def Jw:V->V->Option Bool
 | .int _,.ty n=>if n = "int" then O true else if n = "bool" then O false else J
 | .bl _,.ty n=>if n = "int" then O true else if n = "bool" then O true else J
 | .non,.ty n=>if n = "int" then O false else if n = "tuple" then O false else J
 | _,_=>J
def mR(K:SV)(x c:V)(H:Hp)(Q:VK):Prop:=match Jw x c with
 | some b=>Q (.bl b) H
 | none=>∃ t b,fY K H x t/\kX c ≠ .none/\U7 K t (kX c)=O b/\Q (.bl b) H
section
variable{X:Cx}
end
section
variable{K:SV}{H:Hp}{Q:VK}{i:Int}{b:Bool}{p:Td}{xs:List V}
theorem Jx:mR K (.int i) (.ty "int") H Q=Q (.bl true) H:=rfl
theorem Jy:mR K (.int i) (.ty "bool") H Q=Q (.bl false) H:=rfl
theorem Jz:mR K (.bl b) (.ty "int") H Q=Q (.bl true) H:=rfl
theorem JA:mR K (.bl b) (.ty "bool") H Q=Q (.bl true) H:=rfl
theorem JB:mR K .non (.ty "int") H Q=Q (.bl false) H:=rfl
theorem JC:mR K .non (.ty "tuple") H Q=Q (.bl false) H:=rfl
end
def bW(P:Tv)(w:Ul):cU:=λouter H s E e s' =>
 ∃ (x:Td) (cls a0:SY) (H':Hp) (B:UU),e = .ref x/\s'.os=s.os/\YD s'.gens/\Un (ay outer) [] H H' s.heap s'.heap /\
  (∀ b o,s.heap.get? b=O o->H b=J->b∉ay outer->B.get? b=O o)/\(∀ b o,s.heap.get? b=O o->b∉ay outer->∃ o',B.get? b=O o')/\bu P w H' B/\H' x=J/\s.heap.get? x=J /\
  Xm B outer x cls a0 s'.heap/\E cls J H'
theorem cW{P:Tv}{w:Ul}{X:Cx}:Passes (bW P w) X E0:=λ_ _ _ _ _ _ _ ⟨_,_,_,_,_,_,_,_,_,_,_,_,_,_,_,h⟩=>h.elim
theorem JD{P:Tv}{w:Ul}{outer:List Env}{H:Hp}{s s':SX}{e:SY}(h:bW P w outer H s (λy y y=>False) e s'):False:=by obtain⟨y,y,y,y,y,y,y,y,y,y,y,y,y,y,y,h⟩:=h;exact h
section
variable{P:Tv}{w:Ul}{K:SV}{mg:Str->Option SY}{base:UU}
theorem okN{x qual:Str}{st:Vt}{f:Td}{fd:Vg}{N ps:List Str}{k:Nat}{sp:Sp}(F:iF K x qual st f fd)(S:mJ N ps (cc st))(len:∀ vs H Q E,sp vs H Q E->vs.length=ps.length)
 (d9:∀ (aJ:SY) (A:Uk) (outer:List Env) (s:SX) (H:Hp) (vs:List V) (Q:VK) (E:XK),aZ k (A.deeper (UP qual (cc st) s.heap.objs.size f aJ))->sp vs H Q E ->
   ∃ t,aR (cV (bW P w) P w K mg base N qual (cc st) f aJ A outer s H E).fX (eW st) t/\t { nx:=λy H'=>Q .non H',rt:=Q } (start N vs) H):cn P w K mg base (bW P w) (k+1) f fd ps sp:=by
 obtain⟨oc,od,kV,doc,pm,an,aJ,ct,gJ,rfl,lk,dB⟩:=F.ex;refine uW lk dB S len λA outer s H vs Q E hr iD=>?_;obtain⟨t,h,q⟩:=d9 aJ A outer s H vs Q E hr iD;exact#[t,h.fX,q]
end
theorem JE(a b:Int):i7 (.int a) (.int b)=true:=rfl
theorem JF(a b:Bool):i7 (.bl a) (.bl b)=true:=rfl
theorem JG(a:Int):i7 (.int a) .non=true:=rfl
theorem JH(a:Int):i7 .non (.int a)=true:=rfl
theorem JI:i7 .non .non=true:=rfl
theorem ite_tt{A B:Prop}:(if true=true then A else B)=A:=if_pos rfl
theorem ite_ff{A B:Prop}:(if false=true then A else B)=B:=if_neg T7
theorem JJ{CX:cU}{P:Tv}{w:Ul}{K:SV}{mg:Str->Option SY}{base:UU}{N:List Str}{qual:Str}{scope:Xj}{f:Td}{cd:SY}{A:Uk}{outer:List Env}{s:SX}{H:Hp}{E:XK} :
 (cV CX P w K mg base N qual scope f cd A outer s H E).K=K:=rfl
theorem JK{CX:cU}{P:Tv}{w:Ul}{K:SV}{mg:Str->Option SY}{base:UU}{N:List Str}{qual:Str}{scope:Xj}{f:Td}{cd:SY}{A:Uk}{outer:List Env}{s:SX}{H:Hp}{E:XK} :
 (cV CX P w K mg base N qual scope f cd A outer s H E).N=N:=rfl
section
variable{K:SV}{H H':Hp}{a p:Td}{xs ys:List V}{i:Int}{v:V}{Q:VK}
theorem av{o:HO}(h:H p=J):aj H (upd H p o):=λb u e=>by rw[az (jG e h)];exact e
theorem aV(h:aC K H p xs)(e:ef xs i=O v)(q:Q v H):kT K (.ref p) (.int i) H Q:=.inr (.inl #[p,xs,i,v,Y,Y,h,e,q])
theorem bX(h:ak K H p xs)(e:ef xs i=O v)(q:Q v H):kT K (.ref p) (.int i) H Q:=.inl #[p,xs,i,v,Y,Y,h,e,q]
theorem mS(h:ak K H p xs):Ay K (.ref p) H xs.length:=.inl #[xs,h,Y]
end
def FJ(J9q:It)(g:TG)(tb:TS)(D:Ends)(G:L2.St)(H:Hp):Prop:=∃ W:Nat->Nat->L2.St->Hp->Prop,(∃ m,W 0 m G H)/\∀ i m G H,W i m G H ->
 (J9q.stop i H/\D.nx G H)∨(J9q.go i H/\∃ N:L2.St->Hp->Prop,(∀ σ' H',N σ' H'->∃ m',m'<m/\W (i+1) m' σ' H')/\∀ x H',J9q.aY i H x H'->g x G H' λσ2 H2=>tb { D with nx:=N,ct:=N,bk:=D.nx } σ2 H2)
section
variable{K:SV}{g:TG}{tb:TS}{D:Ends}{G:L2.St}{H:Hp}{a:Td}{xs:List V}{lo:Int}{n:Nat}
theorem JL{ta:TA}:i4 (uI ta) g tb D G H=ta G H (λvs H1=>∃ j:Int,vs=[.int j]/\-(2 ^ 62)<=j/\j<2 ^ 62/\FJ (gB 0 j.toNat) g tb D G H1):=rfl
theorem JM{tl:TE}:i4 (uG K tl) g tb D G H=tl G H (λx H1=>∃ a,x = .ref a/\(∃ xs,ak K H1 a xs)/\FJ (jN K a) g tb D G H1):=rfl
theorem JN{tl:TE}:i4 (uH K tl) g tb D G H=tl G H (λx H1=>∃ a,x = .ref a/\(∃ xs,aC K H1 a xs)/\FJ (kK K a) g tb D G H1):=rfl
theorem vt(Pv:Nat->L2.St->Hp->Prop)(h0:Pv 0 G H)
 (hs:∀ i G H,i<n->Pv i G H->g (.int (lo+i)) G H λσ2 H2=>tb { D with nx:=Pv (i+1),ct:=Pv (i+1),bk:=D.nx } σ2 H2) (hd:∀ G H,Pv n G H->D.nx G H):FJ (gB lo n) g tb D G H:=Hw Pv h0 hs hd
theorem BD(Pv:Nat->L2.St->Hp->Prop)(h0:Pv 0 G H)(hl:∀ i G H,i<=xs.length->Pv i G H->ak K H a xs)
 (hs:∀ i x G H,xs[i]?=O x->Pv i G H->g x G H λσ2 H2=>tb { D with nx:=Pv (i+1),ct:=Pv (i+1),bk:=D.nx } σ2 H2) (hd:∀ G H,Pv xs.length G H->D.nx G H):FJ (jN K a) g tb D G H:=Hu Pv h0 hl hs hd
theorem JO(Pv:Nat->L2.St->Hp->Prop)(h0:Pv 0 G H)(hl:∀ i G H,i<=xs.length->Pv i G H->aC K H a xs)
 (hs:∀ i x G H,xs[i]?=O x->Pv i G H->g x G H λσ2 H2=>tb { D with nx:=Pv (i+1),ct:=Pv (i+1),bk:=D.nx } σ2 H2) (hd:∀ G H,Pv xs.length G H->D.nx G H):FJ (kK K a) g tb D G H:=Hv Pv h0 hl hs hd
end
theorem aU:(2:Nat)<=TB:=by decide
theorem eY{x:Int}(h:x.natAbs<2 ^ 200):Bd 4000 x:=Bd.up (n:=200) h (by decide)
theorem rO{x y:Int}(h:x.natAbs<2 ^ 200)(h':y.natAbs<2 ^ 200):mP x y:=#[eY h,eY h']
section
variable{X:Cx}
end
section
variable{K:SV}{H H1:Hp}{l p:Td}{xs ys:List V}{o:HO}
theorem kY(hl:H l=J)(s:aj H H1):aj H (upd H1 l o):=λb u e=>by rw[az (jG e hl)];exact s b u e
theorem JP(h:aC K H1 p xs)(hl:H1 l=O (.lst ys)):aC K (upd H1 l o) p xs:=by
 rcases h with (h|⟨z,h⟩)|h
 .exact .inl (.inl (by rw[az (mx h hl (λe=>nomatch e))];exact h))
 .exact .inl (.inr #[z,by rw[az (mx h hl (λe=>nomatch e))];exact h])
 .exact .inr h
def eZ(K:SV)(H:Hp)(v:V)(a b:Int):Prop:=∃ p,v = .ref p/\aC K H p [.int a,.int b]
theorem eZ.put{v:V}{a b:Int}(h:eZ K H1 v a b)(hl:H1 l=O (.lst ys)):eZ K (upd H1 l o) v a b:=by obtain⟨p,e,h⟩:=h;exact#[p,e,JP h hl]
end
end Gz
namespace Gz
open PySem PySem.W PySem.Spec PySem.Calls PyProof.Rows Builtin Builtin.ObjectAttr Builtin.Getset_descriptor
section
variable{prog:Tv}{w:Ul}{A:Uk}{E:SY->SX->Prop}{s:SX}{K:Frag}{x C:Td}{oe:Obj}{R:abw->SX->Prop}
theorem JQ{tp:SY}(X:K.In s.heap)(he:s.heap.get? x=O oe)(hc:oe.cls = .ref C)(hm:mroIn K C (.type "object")=O true)
 (h:R (.ok (.ret (.ref C))) s):XN (model prog w) A (.call (.builtin "getset_descriptor.__get__") #[[.builtin "object.__class__",.ref x,tp],[]]) R s:=by
 obtain⟨hh,g,dr,t,os⟩:=s;have L0:Looks (model prog w) hh (abA (.ref x)) (.ref C):=hc ▸ (Looks.ld he).andThen .now;have L1:=looks_mroIn (M:=model prog w) X hm;refine ZA KF.slot_gs.plain KF.entry_gs (KF.slot_gs.check _ _ _ _ _ _ _ _ KF.type_class (KF.args_gs _ _ _) ?_);unfold ZN.«getset_descriptor.__get__» descrGet;rw[dga_obj];refine SW (Tc ?_);unfold descrGetter descrCheckInstance descrNameAndClass isInstance;simp only[KF.owner_class]
 repeat lk
 refine#[Code.quiet_builtin _ (by decide +kernel),Zd KF.entry_class ?_];unfold ZN.«object.__class__» shownTypeOf
 repeat lk
 exact h
theorem JR{tk:Tok}{Q:Fin->SX->Prop}(X:K.In s.heap)(he:s.heap.get? x=O oe)(hc:oe.cls = .ref C)(hm:mroIn K C (.type "object")=O true)
 (g3:findIn K (.ref C) "__class__" = O (O (.builtin "object.__class__"))) (h:Q (.done (.ret (.ref C))) s) :
 TX (model prog w) A (ZN.«object.__getattribute__» #[[.ref x,.str "__class__" tk],[]]) Q E s:=by
 obtain⟨hh,g,dr,t,os⟩:=s;have L0:Looks (model prog w) hh (abA (.ref x)) (.ref C):=hc ▸ (Looks.ld he).andThen .now;have L1:=looks_findIn (M:=model prog w) X g3;have f5:=KF.type_class;have f6:=F.slot_gs_get.lookup;have f7:=F.slot_gs_set.lookup
 repeat (any_goals (first|assumption|(with_reducible refine L0.at ?_)|(with_reducible refine L1.at ?_)|wp_step))
 refine JQ X he hc hm ?_
 repeat (any_goals (first|assumption|wp_step))
theorem JS{BE:SY}{Q:Unit->SX->Prop}(X:K.In s.heap)(he:s.heap.get? x=O oe)(hc:oe.cls = .ref C)(hb:mroIn K C (.type "BaseException")=O true)(h:Q () s) :
 TX (model prog w) A (aaB "BaseException.__getattribute__" #[[.ref x,BE],[]]) Q E s:=by
 obtain⟨hh,g,dr,t,os⟩:=s;have hk:builtinKind "BaseException.__getattribute__" = O .slot:=by decide +kernel
 have JT:splitId "BaseException.__getattribute__" = O ("BaseException","__getattribute__"):=by decide +kernel
 have ha:=F.args_bexc_ga (.ref x) BE;have L0:Looks (model prog w) hh (abA (.ref x)) (.ref C):=hc ▸ (Looks.ld he).andThen .now;have L1:=looks_mroIn (M:=model prog w) X hb;simp only[aaB,hk,JT];refine SW ?_;unfold isInstance
 repeat (first|(with_reducible refine L0.at ?_)|(with_reducible refine L1.at ?_)|wp_step)
 exact h
theorem JU{Q:Option SY->SX->Prop}(X:K.In s.heap)(he:s.heap.get? x=O oe)(hc:oe.cls = .ref C)(hm:mroIn K C (.type "object")=O true)(hb:mroIn K C (.type "BaseException")=O true)
 (g1:findIn K (.ref C) "__getattribute__" = O (O (.builtin "BaseException.__getattribute__"))) (g2:findIn K (.ref C) "__getattr__" = O J)
 (g3:findIn K (.ref C) "__class__" = O (O (.builtin "object.__class__"))) (h:Q (O (.ref C)) { s with toks:=s.toks+1 }) :
 TX (model prog w) A (getAttr? (.ref x) "__class__") Q E s:=by
 obtain⟨hh,g,dr,t,os⟩:=s;have L0:Looks (model prog w) hh (abA (.ref x)) (.ref C):=hc ▸ (Looks.ld he).andThen .now;have L1:=looks_findIn (M:=model prog w) X g1;have L2:=looks_findIn (M:=model prog w) X g2;have f3:=F.excAttr_ValueError.ga.bind (.ref x);have eB:(YI "BaseException.__getattribute__" == YI "object.__getattribute__")=false:=by decide +kernel
 have cI:(onTheHeap (Uo C) && YI "BaseException.__getattribute__" == YI "object.__getattribute__")=false:=by rw[eB];rfl
 unfold getAttr? getAttrBy?
 repeat (any_goals (first|assumption|(with_reducible refine L0.at ?_)|(with_reducible refine L1.at ?_)|(with_reducible refine L2.at ?_)|wp_step))
 refine ZA F.excAttr_ValueError.ga.plain F.entry_bexc_ga (JS X he hc hb (JR X he hc hm g3 ?_))
 repeat (any_goals (first|assumption|wp_step))
end
structure XC(K:Frag)(C:Td):Prop where
 ex:excIn K C [.type "ValueError",.type "Exception",.type "BaseException",.type "object"] "ValueError.__new__" = true
 mo:mroIn K C (.type "object")=O true
 mb:mroIn K C (.type "BaseException")=O true
 ga:findIn K (.ref C) "__getattribute__" = O (O (.builtin "BaseException.__getattribute__"))
 gr:findIn K (.ref C) "__getattr__" = O J
 gc:findIn K (.ref C) "__class__" = O (O (.builtin "object.__class__"))
theorem XC.cls{K:Frag}{C:Td}(x:XC K C):∃ c d cd sl,K.lookup C=O #[c,d,.cls cd,sl]:=by
 have q:=x.ex;unfold excIn at q;split at q
 .rename_i dd cd sl ho;exact#[_,_,_,_,ho]
 .cases q
theorem JV{K:Frag}{x C:Td}(c:XC K C):KitX K (.ref x) (.ref C) (λh=>∃ oe:Obj,h.get? x=O oe/\oe.cls = .ref C) where
 ty:=λ_ _ _ ⟨oe,he,hc⟩=>hc ▸ (Looks.ld he).andThen .now
 it:=λy y X y=>by obtain⟨a,b,cd,sl,ho⟩:=c.cls;intro A' Q' E' s' k q;unfold isType loadHead;exact SW (wpAny_loadPart (k _ _ (X _ _ ho)) (Tc q))
 ne:=λh tp dd af n sl X JW=>by obtain⟨a,b,cd,sl,ho⟩:=c.cls;refine aaf.mpr λq=>?_;have e:C=tp:=Value.ref.inj (beq_iff_eq.mp q);subst e;have z:=(X _ _ ho).symm.trans JW;cases z
 ca:=λX ⟨oe,he,hc⟩ k=>JU X he hc c.mo c.mb c.ga c.gr c.gc k
theorem JX{K:Frag}{h:UU}{C:Td}(X:K.In h)(c:XC K C) :
 ∃ bm N nm q bs hdct sn sub ab col dd k0 k1 k2 k3 k5 mN,h.get? C=O (excClassObj nm q C N bs bm hdct sn sub ab col dd k0 k1 k2 k3 k5 "ValueError.__new__")/\h.Ns N mN/\mN "__init__" = J /\
  OwnTail h [.type "ValueError",.type "Exception",.type "BaseException",.type "object"] bm:=by
 have q:=c.ex;unfold excIn at q;split at q
 .rename_i dd cd sl ho;split at q
  .rename_i C' bm k0 k1 k2 k3 n k5 hm hs;simp only[Vq,beq_iff_eq,Bool.not_eq_true'] at q;obtain⟨⟨⟨⟨⟨rfl,rfl⟩,hdel⟩,ht⟩,ah⟩,hni⟩:=q;obtain⟨nm,bs,mro,ns,qn,hd,sn,sub,ab,col,del⟩:=cd;dsimp only at hm hdel ah hni;subst hm hdel;have JY:sl = (List.toArray [k0,k1,k2,k3,O (.builtin "ValueError.__new__"),k5]):=by obtain⟨l⟩:=sl;simp only at hs;rw[hs]
   subst JY;exact#[bm,ns,nm,qn,bs,hd,sn,sub,ab,col,dd,k0,k1,k2,k3,k5,_,X _ _ ho,.of_isNs (isNs_of_in X ah),nsMap_none_of_in X ah hni,tail_of_in X ht]
  .cases q
 .cases q
end Gz
namespace Gz
open PySem PySem.Spec PyProof.Rows L2
noncomputable def fb(a C:Td):HO:=.ext λh=>∃ oe:Obj,h.get? a=O oe/\oe.cls = .ref C
theorem JZ{P:Tv}{w:Ul}{H:Hp}{h:UU}{a C:Td}{oe:Obj}(he:h.get? a=O oe)(hc:oe.cls = .ref C):bH P w H h a (fb a C) :=
 #[#[oe,he,hc],#[oe,he],λh1 h2 ⟨o,e,c⟩ k=>#[o,k o e,c]]
section
variable{X:Cx}
def BF(K:SV)(a:Td)(c:V)(H:Hp)(Q:VK):Prop:=∃ C b,H a=O (fb a C)/\XC K C/\kX c ≠ .none/\U7 K (.ref C) (kX c)=O b/\Q (.bl b) H
theorem rP{K:SV}(hK:X.K=K):gF X (.builtin "isinstance") (λxs H Q=>∃ a c,xs=[.ref a,c]/\BF K a c H Q):=by
 subst hK;intro pins s G H xs us Q I r h;obtain⟨a,c,rfl,C,b,ha,xc,hc,e,q⟩:=h;obtain⟨u,v,rfl,rx,rc⟩:=vals2 r;have ev:v=kX c:=by
  cases c with
  | ref a=>exact rc
  | ty n=>exact rc
  | non=>exact absurd Y hc
  | bl _=>exact absurd Y hc
  | int _=>exact absurd Y hc
  | str _=>exact absurd Y hc
  | byt _=>exact absurd Y hc
  | flt _=>exact absurd Y hc
 subst ev;cases (show u=Uo a from rx);obtain⟨hp,y,y⟩:=(show bH X.prog X.w H s.heap a (fb a C) from I.ah a _ ha)
 exact PySem.W.kia_one (JV xc) I.cw hp e (λz=>nomatch z) λtk=>#[.bl b,H,I.tok tk,Y,q]
end
theorem oM{K:SV}{a C:Td}{c:V}{H:Hp}{Q:VK}{b:Bool}(h:H a=O (fb a C))(xc:XC K C)(hc:kX c ≠ .none)(e:U7 K (.ref C) (kX c)=O b)(q:Q (.bl b) H):BF K a c H Q:=#[C,b,h,xc,hc,e,q]
theorem bH.some{P:Tv}{w:Ul}{H:Hp}{h:UU}{a:Td}{o:HO}(x:bH P w H h a o):∃ ob,h.get? a=O ob:=by
 cases o with
 | lst xs=>obtain⟨z,z,z,z,e⟩:=x;exact#[_,e]
 | tup xs=>obtain⟨z,z,z,o,e,z⟩:=x;exact#[_,e]
 | dK kvs=>obtain⟨z,z,z,z,o,z,z,e,z⟩:=x;exact#[_,e]
 | dT kvs=>obtain⟨z,z,z,z,o,z,z,e,z⟩:=x;exact#[_,e]
 | set S n=>obtain⟨o,z,z,z,e,z⟩:=x;exact#[_,e]
 | ins C dx fs=>obtain⟨z,z,z,e,z⟩:=x;exact#[_,e]
 | own y=>exact x
 | xd fs=>obtain⟨z,⟨z,z,z,e,z⟩,z⟩:=x;exact#[_,e]
 | kE lo hi=>obtain⟨z,z,z,e⟩:=x;exact#[_,e]
 | dw ob u=>obtain⟨e,z⟩:=x;exact#[_,e]
 | tbl ps=>exact#[_,x]
 | met f y=>exact#[_,x]
 | ext φ=>exact x.2.1
def BG(X:Cx)(E:XK):Prop:=∀ (pins:List (Td × Obj)) (G:L2.St) (H:Hp) (s:SX) (e C:Td) (vs:List SY) (h':UU),Inv X pins G H s->Heap.MadeExcOf s.heap h' e (.ref C) vs->E (.ref C) J H->X.xe (.ref e) { s with heap:=h' }
def BH(C:Td)(E:XK)(ta:TA):TS:=λD G H=>ta G H λvs H1=>vs.length<=TB/\E (.ref C) J H1
section
variable{X:Cx}
theorem iH{x:Str}{np bN pos:Pos}{e₀:Vh}{rest:List Vh}{ta:TA}{C:Td}{E:XK}(hx:BG X E)(hg:Gl X x)(hm:X.mg x=O (.ref C))(xc:XC X.K C)(hc:X.calm=true)(ha:PA X (e₀::rest) ta)
 (hd:(x == ("__debug__" : Str))=false:=by decide) (he:TZ (e₀::rest) X.env=(false,eval e₀ X.env)::TZ rest X.env:=by rfl)
 (cG:(Wm bN (TZ rest X.env)).any (·.1)=false:=by rfl) :
 PS X (.Raise (O (.Call (.Name x np) (e₀::rest) [] bN)) J pos) (BH C E ta):=by
 intro pins s G H D I h;obtain⟨tl,N,nm,q,bs,hdct,sn,sub,ab,col,dd,k0,k1,k2,k3,k5,mN,hC,hN,hni,T⟩:=JX I.ok.mod.kin xc;refine wpAny_Raise_call_subU (C:=C) (nm:=nm) (q:=q) (N:=N) (bs:=bs) (bm:=tl) (hdct:=hdct) (sn:=sn) (sub:=sub) (ab:=ab) (col:=col) (dd:=dd) (k0:=k0) (k1:=k1) (k2:=k2) (k3:=k3) (k5:=k5)
  X6 (by decide +kernel) X6 (mN:=mN) (T.hasType PySem.F.excBase_ValueError.hasBase) (I.ok.hd hc) (by rw[he];show (false || (Wm bN (TZ rest X.env)).any (·.1))=false;rw[cG];rfl) hni (kH I hg hm #[Y,?_] hd)
 have BI:=ha bN pins s G H _ I h;rw[he] at BI ⊢;refine VQ (Ue BI (λus s₂ h₂=>?_) λz z y=>y);obtain⟨vs,H1,I1,r,hl,hE⟩:=h₂;exact#[Y,by rw[<- r.length];exact hl,I1.bk _ _ hC,hN.keeps I1.bk,T.keeps I1.bk,λh' e hm=>hx pins G H1 s₂ e C us h' I1 hm hE]
end
section
variable{P:Tv}{w:Ul}{K:SV}{mg:Str->Option SY}{base:UU}{N:List Str}{qual:Str}{scope:Xj}{f:Td}{cd:SY}{A:Uk}{outer:List Env}{s:SX}{H:Hp}{E:XK}
theorem vw{env:Env}{b L:Td}(hf:env.frame=O L)(h:b∈ay (env::outer)):b=L∨b∈ay outer:=by unfold ay at h;rw[UT,hf] at h;exact Tz.mp h
theorem iI:BG (cV (bW P w) P w K mg base N qual scope f cd A outer s H E) E:=by
 intro pins G H1 s1 e C vs h1 I hx hE;have fz:(cV (bW P w) P w K mg base N qual scope f cd A outer s H E).A.frames=O (UP qual scope s.heap.objs.size f cd::outer):=I.ok.frames;have hF:s1.heap.FunFrames base (UP qual scope s.heap.objs.size f cd::outer):=I.stack;have bO:∀ env∈(UP qual scope s.heap.objs.size f cd::outer),∀ b,env.frame=O b->b∈ay (UP qual scope s.heap.objs.size f cd::outer):=λenv he b hb=>Yb.mpr #[env,he,hb];have J0:∀ b∈ay (UP qual scope s.heap.objs.size f cd::outer),H1 b=J:=I.jH;have jI:∀ b o,s.heap.get? b=O o->b≠s.heap.objs.size:=λb o e=>T6 (Tg e);have ft:∀ b o,s.heap.get? b=O o->b∉ay outer->b∉ay (UP qual scope s.heap.objs.size f cd::outer):=λb o e hb z=>by
  rcases vw rfl z with z|z
  .exact jI b o e z
  .exact hb z
 have ub:Un (ay outer) [] H H1 s.heap s1.heap:=I.base;refine wpAny_leaves_madeW (base:=VS s1.heap (ay (UP qual scope s.heap.objs.size f cd::outer))) fz Y (λb o q=>X8 _ q) (PySem.W.funFrames_hide hF bO) hx λh' t fl tup bt up=>?_;have stays:=fl.1;have dP:∀ b o,s1.heap.get? b=O o->b∉ay (UP qual scope s.heap.objs.size f cd::outer)->(VS s1.heap (ay (UP qual scope s.heap.objs.size f cd::outer))).get? b=O o:=λb o q hb=>XI _ q hb;have dE:∀ b∈ay (UP qual scope s.heap.objs.size f cd::outer),∀ o,s1.heap.get? b=O o->∃ sl,h'.get? b=O { o with slots:=sl }:=λb hb o q=>by obtain⟨y,o',bI,hnf⟩:=hF.mem hb;rw[q] at bI;cases bI;exact up b o (hx.keeps b o q) hnf
 refine#[e,.ref C,.ref t,H1,_,Y,I.os,I.bare,#[λb o q n hb aN=>?_,λb o q n hb aN=>?_,ub.free,λb o q aN=>?_,ub.b9,ub.cg,ub.cv],λb o q n hb=>?_,λb o q hb=>?_,λa o q=>?_,?_,?_,fl,hE]
 .exact stays b o (dP b o (ub.keep b o q n hb aN) (ft b o q hb))
 .obtain⟨sl,e1⟩:=ub.slot b o q n hb aN;obtain⟨di,e2⟩:=dE b (by unfold ay;rw[UT];exact Uw _ hb) _ e1;exact#[di,e2]
 .obtain⟨o',e1⟩:=ub.there b o q aN;by_cases hb:b∈ay (UP qual scope s.heap.objs.size f cd::outer)
  .obtain⟨sl,e2⟩:=dE b hb o' e1;exact#[_,e2]
  .exact#[o',stays b o' (dP b o' e1 hb)]
 .exact dP b o (ub.keep b o q n hb (by simp)) (ft b o q hb)
 .obtain⟨o',e1⟩:=ub.there b o q (by simp);exact#[o',dP b o' e1 (ft b o q hb)]
 .refine (I.ah a o q).fU (λb u hb z=>dP b u z λhm=>?_) (λy z=>z) λy y z=>z;have:=J0 b hm;rcases hb with hb|hb
  .rw[hb,q] at this;cases this
  .rw[hb] at this;cases this
 .cases q:H1 e with
  | none=>rfl
  | some u =>
   obtain⟨ob,z⟩:=bH.some (I.ah e u q);rw[hx.new] at z;cases z
 .cases q:s.heap.get? e with
  | none=>rfl
  | some u =>
   obtain⟨o',z⟩:=ub.there e u q (by simp);rw[hx.new] at z;cases z
theorem gM:Passes (bW P w) (cV (bW P w) P w K mg base N qual scope f cd A outer s H E) E:=by
 intro pins G H1 s1 ev s2 I cx;obtain⟨x,cls,a0,H',B,rfl,os,bare,un,kb,tb,ah,hx,hn,fl,hE⟩:=cx;have fz:(cV (bW P w) P w K mg base N qual scope f cd A outer s H E).A.frames=O (UP qual scope s.heap.objs.size f cd::outer):=I.ok.frames;have hF:s1.heap.FunFrames base (UP qual scope s.heap.objs.size f cd::outer):=I.stack;have jI:∀ b o,s.heap.get? b=O o->b≠s.heap.objs.size:=λb o e=>T6 (Tg e);have ft:∀ b o,s.heap.get? b=O o->b∉ay outer->b∉ay (UP qual scope s.heap.objs.size f cd::outer):=λb o e hb z=>by
  rcases vw rfl z with z|z
  .exact jI b o e z
  .exact hb z
 have vx:∀ b,b∈ay outer->b∈ay (UP qual scope s.heap.objs.size f cd::outer):=λb hb=>by unfold ay;rw[UT];exact Uw _ hb
 have ub:Un (ay outer) [] H H1 s.heap s1.heap:=I.base;have oN:Un (ay (UP qual scope s.heap.objs.size f cd::outer)) [] H1 H' s1.heap s2.heap:=un;have BJ:∀ b o,s1.heap.get? b=O o->H1 b=J->b∉ay (UP qual scope s.heap.objs.size f cd::outer)->B.get? b=O o:=kb;have bB:∀ b o,s1.heap.get? b=O o->b∉ay (UP qual scope s.heap.objs.size f cd::outer)->∃ o',B.get? b=O o':=tb;have kZ:∀ b∈ay (UP qual scope s.heap.objs.size f cd::outer),H1 b=J:=I.jH;refine wpAny_leaves_onW fz Y fl λh' jf up=>?_;have stays:=jf.1;have dE:∀ b∈ay (UP qual scope s.heap.objs.size f cd::outer),∀ o,s1.heap.get? b=O o->∃ sl,h'.get? b=O { o with slots:=sl }:=λb hb o q=>by obtain⟨y,o',bI,hnf⟩:=hF.mem hb;rw[q] at bI;cases bI;obtain⟨sl,e1⟩:=oN.slot b o q (kZ b hb) hb (by simp);obtain⟨di,e2⟩:=up b _ e1 hnf;exact#[di,e2]
 refine#[x,cls,a0,H',B,Y,os.trans I.os,bare,#[λb o q n hb aN=>?_,λb o q n hb aN=>?_,λb o q n aN=>?_,λb o q aN=>?_,λb xs q=>un.b9 _ _ (ub.b9 _ _ q),λb o u q=>un.cg _ _ _ (ub.cg _ _ _ q),λb ps q=>?_],λb o q n hb=>?_,λb o q hb=>?_,ah,hx,?_,jf,hE]
 .exact stays b o (BJ b o (ub.keep b o q n hb aN) (ub.free b o q n aN) (ft b o q hb))
 .obtain⟨sl,e1⟩:=ub.slot b o q n hb aN;obtain⟨di,e2⟩:=dE b (vx b hb) _ e1;exact#[di,e2]
 .obtain⟨o',e1⟩:=ub.there b o q aN;exact oN.free b o' e1 (ub.free b o q n aN) (by simp)
 .obtain⟨o',e1⟩:=ub.there b o q aN;by_cases hb:b∈ay (UP qual scope s.heap.objs.size f cd::outer)
  .obtain⟨sl,e2⟩:=dE b hb o' e1;exact#[_,e2]
  .obtain⟨o2,e2⟩:=bB b o' e1 hb;exact#[o2,stays b o2 e2]
 .obtain⟨m1,e1⟩:=ub.cv b ps q;obtain⟨m2,e2⟩:=un.cv b _ e1;exact#[m1++m2,by rw[e2,WU]]
 .exact BJ b o (ub.keep b o q n hb (by simp)) (ub.free b o q n (by simp)) (ft b o q hb)
 .obtain⟨o',e1⟩:=ub.there b o q (by simp);exact bB b o' e1 (ft b o q hb)
 .cases q:s.heap.get? x with
  | none=>rfl
  | some u =>
   obtain⟨o',z⟩:=ub.there x u q (by simp);rw[hn] at z;cases z
theorem dF{x qual:Str}{st:Vt}{f:Td}{fd:Vg}{N ps:List Str}{k:Nat}{sp:Sp}(F:iF K x qual st f fd)(S:mJ N ps (cc st))(len:∀ vs H Q E,sp vs H Q E->vs.length=ps.length)
 (d9:∀ (aJ:SY) (A:Uk) (outer:List Env) (s:SX) (H:Hp) (vs:List V) (Q:VK) (E:XK),aZ k (A.deeper (UP qual (cc st) s.heap.objs.size f aJ))->sp vs H Q E ->
   ∃ t,aR (cV (bW P w) P w K mg base N qual (cc st) f aJ A outer s H E) (eW st) t/\t { nx:=λy H'=>Q .non H',rt:=Q } (start N vs) H):cn P w K mg base (bW P w) (k+1) f fd ps sp:=by
 obtain⟨oc,od,kV,doc,pm,an,aJ,ct,gJ,rfl,lk,dB⟩:=F.ex;refine uW lk dB S len λA outer s H vs Q E hr iD=>?_;exact d9 aJ A outer s H vs Q E hr iD
end
noncomputable abbrev Xp(X:Cx)(F:SY->SX->Prop)(pn:List (Td × Obj)):Cx:={ X with xe:=F,pn:=pn }
noncomputable abbrev Xh(X:Cx)(A':Uk)(pn:List (Td × Obj)):Cx:={ X with A:=A',calm:=false,xe:=λy y=>False,pn:=pn }
section
variable{X:Cx}{F:SY->SX->Prop}{pins pn:List (Td × Obj)}{G:L2.St}{H:Hp}{s:SX}{A':Uk}
theorem BK(ok:X.Ok):(Xp X F pn).Ok:=#[ok.mod,ok.kind,ok.glob,ok.blt,ok.above,ok.inj,ok.has,ok.cab,ok.hd,ok.frames,ok.eR,ok.exf,ok.bs,ok.bsz,ok.noex,ok.exfs,ok.dZ,ok.frf]
theorem BL(ok:(Xp X F pn).Ok):X.Ok:=#[ok.mod,ok.kind,ok.glob,ok.blt,ok.above,ok.inj,ok.has,ok.cab,ok.hd,ok.frames,ok.eR,ok.exf,ok.bs,ok.bsz,ok.noex,ok.exfs,ok.dZ,ok.frf]
theorem J1(ok:X.Ok)(hA:A'.frames=X.A.frames):(Xh X A' pn).Ok:=#[ok.mod,ok.kind,ok.glob,ok.blt,ok.above,ok.inj,ok.has,ok.cab,(λz=>nomatch z),hA.trans ok.frames,ok.eR,ok.exf,ok.bs,ok.bsz,ok.noex,ok.exfs,ok.dZ,ok.frf]
theorem BM(I:Inv X pins G H s):Inv (Xp X F (X.pn++pins)) [] G H s:=#[BK I.ok,I.os,I.bare,I.base,I.loc,I.cell,I.free,I.dz,λp hp=>I.pin p (by simpa using hp),I.ah,I.len]
theorem rQ(I:Inv (Xp X F (X.pn++pins)) [] G H s):Inv X pins G H s:=#[BL I.ok,I.os,I.bare,I.base,I.loc,I.cell,I.free,I.dz,λp hp=>I.pin p (by simpa using hp),I.ah,I.len]
theorem rR{i0:List (Td × Obj)}(I:Inv (Xp X F pn) i0 G H s)(hA:A'.frames=X.A.frames):Inv (Xh X A' pn) [] G H s :=
 #[J1 (BL I.ok) hA,I.os,I.bare,I.base,I.loc,I.cell,I.free,I.dz,λp hp=>I.pin p (by simp at hp;exact TR _ hp),I.ah,I.len]
theorem SP.BN{D:Ends}{f:Flow}{s':SX}(h:SP (Xp X F (X.pn++pins)) [] D f s'):SP X pins D f s':=by
 cases f with
 | next=>obtain⟨σ',H',I,q⟩:=h;exact#[σ',H',rQ I,q]
 | brk=>obtain⟨σ',H',I,q⟩:=h;exact#[σ',H',rQ I,q]
 | cont=>obtain⟨σ',H',I,q⟩:=h;exact#[σ',H',rQ I,q]
 | ret u=>obtain⟨v,σ',H',I,r,q⟩:=h;exact#[v,σ',H',rQ I,r,q]
theorem rS{M:ab5}{A:Uk}{E:SY->SX->Prop}{n:Str}{i:Nat}{k4:Pos}{Q:Unit->SX->Prop}(dF:X.Ok)(I:Inv (Xh X A' (X.pn++pins)) [] G H s)(hN:X.N.Nodup)(hi:X.N[i]?=O n)(hl:X.env.scope.names.lookup n=O .local)
 (h:∀ s',Inv X pins (G.set i J) H s'->Q () s'):TX M A (do bindName X.env n .none;unbindBehindTheSuite X.env n k4) Q E s:=by
 obtain⟨m,hn,hlk⟩:=id I.loc;have uv:(X.env.scope.kind == .class || (X.env.scope.kind == .module && X.env.locals != X.env.globals))=false:=by rw[I.ok.kind];rfl
 have gA:∀ x c,X.env.cells.lookup x=O c->c≠X.env.locals:=I.gA;have BO:H X.env.locals=J:=I.free;obtain⟨oL,u,u,zX,u⟩:=id hn;refine wpAny_nameGoes_keeps hl hn uv λh' v uw hs=>?_;have tracked:bu X.prog X.w H h':=λb ob e=>by
  refine (I.ah b ob e).fU (λc w' hc q=>(hs.2 c ?_).trans q) (λu q=>q) λu u q=>q;rintro rfl;rcases hc with hc|hc
  .rw[<- hc,BO] at e;cases e
  .rw[BO] at hc;cases hc
 have iJ:X.s₀.heap.objs.size<=X.env.locals:=dF.above;refine h _ #[dF,I.os,I.bare,#[λb o e nn hb hx=>?_,λb o e nn hb hx=>?_,I.base.free,λb o e hx=>?_,I.base.b9,I.base.cg,I.base.cv],#[_,uw,λj y v' e1 e2 e3=>?_],λy c e=>?_,I.free,I.dz,λp hp=>?_,tracked,by simpa using I.len]
 .exact (hs.2 b (T6 (Tu (Tg e) iJ))).trans (I.base.keep b o e nn hb hx)
 .obtain⟨sl,e1⟩:=I.base.slot b o e nn hb hx;exact#[sl,(hs.2 b (T6 (Tu (Tg e) iJ))).trans e1]
 .obtain⟨o',e1⟩:=I.base.there b o e hx;exact#[o',(hs.2 b (T6 (Tu (Tg e) iJ))).trans e1]
 .have rT:j≠i:=by
   rintro rfl;by_cases aQ:j<G.length
   .rw[W4 aQ] at e2;cases e2
   .rw[Wt (by rw[aaU];lia)] at e2;cases e2
  rw[Xw (UZ rT)] at e2;obtain⟨u',r',q⟩:=hlk j y v' e1 e2 e3;refine#[u',r',?_];rcases q with ⟨k,e⟩|⟨k,c,e,z⟩
  .refine .inl #[k,?_];have:y≠n:=λe=>rT (uu hN e1 (e ▸ hi));simp[this,e]
  .exact .inr #[k,c,e,z.sameBut hs (gA y c e)]
 .obtain⟨w',z⟩:=I.cell y c e;exact#[w',z.sameBut hs (gA y c e)]
 .obtain⟨e,nn,ne,nf,d⟩:=I.pin p (by simpa using hp);exact#[(hs.2 p.1 ne).trans e,nn,ne,nf,d]
end
theorem vy{K:SV}{C G9q:Td}{cd:abT}{b:Bool}(h1:YJ K G9q=O cd)(h2:Xe K (.ref G9q)=O (.type "type"))(h3:Wc K (.ref C) (.ref G9q)=O b)(h4:Wc K (.ref G9q) (.type "BaseException")=O true) :
 Wi K (.ref C) (.ref G9q)=O b:=by
 unfold Wi;rw[if_pos (by rw[h4];rfl)];show (if ((YJ K G9q).isSome && Xe K (.ref G9q) == O (.type "type"))=true then Wc K (.ref C) (.ref G9q) else J)=O b;rw[if_pos (by rw[h1,h2];rfl)];exact h3
local macro_rules|`(tactic|walk_at "o")=>`(tactic|((try simp only [PySem.Addr] at *); lia))
inductive fA(X:Cx)(scope:Xj)(cl:List (Str × Td)):List Nat->List Str->Prop where
 | nil:fA X scope cl [] []
 | cons {j:Nat} {y:Str} {c:Td} {js:List Nat} {ys:List Str} (hN:X.N[j]?=O y) (hk:X.env.kindOf y=O .cell) (h1:cl.lookup y=O c) (h2:X.env.cells.lookup y=O c) (h:fA X scope cl js ys):fA X scope cl (j::js) (y::ys)
inductive gN(X:Cx):List (Str × Td)->Prop where
 | nil:gN X []
 | cons {n:Str} {a:Td} {r:List (Str × Td)} (h:X.env.cells.lookup n=O a) (t:gN X r):gN X ((n,a)::r)
theorem gN.get{X:Cx}:∀ {cl:List (Str × Td)},gN X cl->∀ y c,cl.lookup y=O c->X.env.cells.lookup y=O c:=by
 intro z h y c
 induction h with
 | nil=>intro e;cases e
 | @cons n _ _ h t ih =>
  intro e;rw[List.lookup_cons] at e;by_cases hy:(y == n)=true
  .rw[hy] at e;have e1:y=n:=by simpa using hy
   cases e;rw[e1];exact h
  .rw[aaf.mpr hy] at e;exact ih e
theorem fA.get{X:Cx}{scope:Xj}{cl:List (Str × Td)}{G:L2.St}:∀ {js:List Nat} {ys:List Str},fA X scope cl js ys->∀ (i:Nat) (y:Str) (v:V),ys[i]?=O y->(js.map λj=>(G[j]?).join)[i]?=O (O v) ->
 ∃ (j:Nat) (c:Td),X.N[j]?=O y/\G[j]?=O (O v)/\X.env.kindOf y=O .cell/\cl.lookup y=O c/\X.env.cells.lookup y=O c:=by
 intro js ys h
 induction h with
 | nil=>intro i y v e;cases e
 | cons hN hk h1 h2 h ih =>
  rename_i j _ _ _ _;intro i y v e q;cases i with
  | zero =>
   cases e;refine#[j,_,hN,?_,hk,h1,h2];cases z:G[j]? with
   | none=>rw[TJ,z] at q;cases q
   | some o=>rw[TJ,z] at q;cases q;rfl
  | succ i=>exact ih i y v e q
theorem fA.len{X:Cx}{scope:Xj}{cl:List (Str × Td)}:∀ {js:List Nat} {ys:List Str},fA X scope cl js ys->js.length=ys.length:=by
 intro y y h
 induction h with
 | nil=>rfl
 | cons _ _ _ _ _ ih=>exact congrArg (· + 1) ih
noncomputable def cy(X:Cx)(N':List Str)(scope:Xj)(cl:List (Str × Td))(C:Td)(s2:SX)(H2:Hp)(ex:List Td)(pn:List (Td × Obj)):Cx :=
 { X with N:=N',s₀:=s2,H₀:=H2,env:=Wz scope cl C X.env,outer:=X.stack,ex:=ex,fn:=λy=>false,pn:=pn,xe:=λy y=>False }
structure gO(X:Cx)(x:Str)(scope:Xj)(cl:List (Str × Td))(fr:List Nat)(ys:List Str):Prop where
 clos:aag scope X.env=pure cl
 nocell:(scope.names.all λp=>p.2 != .cell)=true
 kind:scope.kind = .function
 names:(scope.names.all λp=>p.2 != .local || scope.names.lookup p.1 == O .local)=true
 own:scope.names.lookup x=O .local
 kinds:((relabel scope X.env).names.all λp=>(p.2 != .cell && p.2 != .free) || (cl.lookup p.1).isSome)=true
 cls:gN X cl
 ay:fA X scope cl fr ys
 nd:(x::ys).Nodup
 kfr:(ys.all λy=>(relabel scope X.env).names.lookup y == O .cell)=true
def iK(X:Cx)(ifs:List Vh)(t:TT):Prop :=
 ∀ (pins:List (Td × Obj)) (s:SX) (G:L2.St) (H:Hp) (Q:Bool->Hp->Prop),Inv X pins G H s->t G H Q ->
  TX (model X.prog X.w) X.A (forIn ifs true λc r=>if r=true then do let ok <- abu c X.env (eval c X.env);pure (Vi ok) else pure (Vi r)) (TP X pins G Q) X.xe s
def BP:TT:=λy H Q=>Q true H
theorem k6{X:Cx}:iK X [] BP:=λy y y H y I h=>wpAny_tests_nil #[H,I,h]
def mT(J9q:It)(ρ:L2.St)(tt:TT)(te:TE)(H:Hp)(Q:VK):Prop:=∃ W:Nat->Nat->List V->Hp->Prop,(∃ m,W 0 m [] H)/\∀ i m ys H,W i m ys H ->
 (J9q.stop i H/\ys.length<=TB/\∀ l,H l=J->Q (.ref l) (upd H l (.lst ys)))∨(J9q.go i H/\ys.length<TB/\∃ N:List V->Hp->Prop,(∀ zs H',N zs H'->∃ m',m'<m/\W (i+1) m' zs H') /\
  ∀ x H',J9q.aY i H x H'->tt (O x::ρ) H' λb H1=>if b=true then te (O x::ρ) H1 λy H2=>N (ys++[y]) H2 else N ys H1)
def rV(wi:TI)(fr:List Nat)(tt:TT)(te:TE):TE:=λG H Q=>wi G H λJ9q H1=>mT J9q (fr.map λj=>(G[j]?).join) tt te H1 Q
structure k7(X:Cx)(own:List Str)(scope:Xj)(cl:List (Str × Td))(fr:List Nat)(ys:List Str):Prop where
 clos:aag scope X.env=pure cl
 nocell:(scope.names.all λp=>p.2 != .cell)=true
 kind:scope.kind = .function
 names:(scope.names.all λp=>p.2 != .local || scope.names.lookup p.1 == O .local)=true
 kinds:((relabel scope X.env).names.all λp=>(p.2 != .cell && p.2 != .free) || (cl.lookup p.1).isSome)=true
 cls:gN X cl
 ay:fA X scope cl fr ys
 kfr:(ys.all λy=>(relabel scope X.env).names.lookup y == O .cell)=true
def jS(k:Nat)(J9q:It)(g:TG)(ρ:L2.St)(tt:TT)(te:TE)(H:Hp)(Q:VK):Prop:=∃ W:Nat->Nat->List V->Hp->Prop,(∃ m,W 0 m [] H)/\∀ i m ys H,W i m ys H ->
 (J9q.stop i H/\ys.length<=TB/\∀ l,H l=J->Q (.ref l) (upd H l (.lst ys)))∨(J9q.go i H/\ys.length<TB/\∃ N:List V->Hp->Prop,(∀ zs H',N zs H'->∃ m',m'<m/\W (i+1) m' zs H') /\
  ∀ os:List (Option V),os.length=k->∀ x H',J9q.aY i H x H'->g x (os++ρ) H' λσ2 H2=>∃ rp,rp.length=k/\σ2=rp++ρ/\tt σ2 H2 λb H1=>if b=true then te σ2 H1 λy H2=>N (ys++[y]) H2 else N ys H1)
def BR(k:Nat)(wi:TI)(g:TG)(fr:List Nat)(tt:TT)(te:TE):TE:=λG H Q=>wi G H λJ9q H1=>jS k J9q g (fr.map λj=>(G[j]?).join) tt te H1 Q
theorem J5{prog:Tv}{w:Ul}{A:Uk}{s:SX}{R:abw->SX->Prop}{elt target iter:Vh}{ifs:List Vh}{scope:Xj}{pos:Pos}{it acc:SY}{env:Env}(I:Nat->SX->Prop)
 (turn:∀ n s,I n s->TX (model prog w) A (ab4 it) (λr s₁=>match r with
   | none=>R (.ok .next) s₁
   | some v=>TX (model prog w) A (Wr target it v) (λ_ BS=>TX (model prog w) A (assign target env v) (λ_ s₂ =>
    TX (model prog w) A (forIn ifs true λc r=>if r=true then do let ok <- abu c env (eval c env);pure (Vi ok) else pure (Vi r)) (λok s₃ =>
     if ok=true then TX (model prog w) A (eval elt env) (λx s₄ =>
      TX (model prog w) A (call (.builtin "list.append") [acc,x]) (λ_ s₅=>∃ m,m<n/\I m s₅) (Ze (model prog w) A env λe s'=>R (.error e) s') s₄) (Ze (model prog w) A env λe s'=>R (.error e) s') s₃
     else ∃ m,m<n/\I m s₃) (Ze (model prog w) A env λe s'=>R (.error e) s') s₂) (Ze (model prog w) A env λe s'=>R (.error e) s') BS) (Ze (model prog w) A env λe s'=>R (.error e) s') s₁) (Ze (model prog w) A env λe s'=>R (.error e) s') s)
 (n:Nat) (h:I n s) :
 XN (model prog w) A (.compLoop (.ListComp elt [#[target,iter,ifs,0]] scope pos) 0 it acc env) R s:=by
 refine codeAny_loop Y I (λn s hI=>?_) n h;show TX _ A ((compTurn (.ListComp elt [#[target,iter,ifs,0]] scope pos) 0 it acc env).onRaise (λx=>do ZZ x env;theTreesLotGoes x)) _ _ s;refine wpAny_noted ?_;rw[compTurn_list];refine SW (wpAny_standAt (SW (Ue (turn n s hI) (λr s₁ h₁=>?_) λ_ _ h'=>h')));cases r with
 | none=>exact Tc h₁
 | some v =>
  refine SW (Ue h₁ (λ_ BS J6=>?_) λ_ _ h'=>h');refine SW (Ue J6 (λ_ s₂ h₂=>SW (Ue h₂ (λok s₃ h₃=>?_) λ_ _ h'=>h')) λ_ _ h'=>h');cases ok with
  | false=>exact Tc #[Y,h₃]
  | true =>
   exact SW (SW (Ue h₃ (λx s₄ h₄=>SW (Ue h₄ (λ_ s₅ h₅=>Tc (Tc #[Y,h₅])) λ_ _ h'=>h')) λ_ _ h'=>h'))
theorem BU{l:List (Str × Zt)}{p:Str × Zt->Bool}(h:l.all p=true){y:Str}{k:Zt}(e:l.lookup y=O k):p (y,k)=true:=by exact Vc.mp h _ (VB e)
def vz(i:Nat)(te:TE):TS:=λD G H=>te G H λv H1=>D.nx (G.set i (O v)) H1
section
variable{X:Cx}{pins:List (Td × Obj)}{G:L2.St}{H2:Hp}{s2:SX}{own:List Str}{tg:Vh}{g:TG}{pos:Pos}{elt iter:Vh}{ifs:List Vh}{scope:Xj}{cl:List (Str × Td)}{fr:List Nat}{ys:List Str}{tt:TT}{te:TE}
theorem BV{C:Td}{ex:List Td}{pn:List (Td × Obj)}(S:k7 X own scope cl fr ys)(I2:Inv X pins G H2 s2)(f2:∀ b∈ex,cF X pins H2 b)(hC:s2.heap.objs.size<=C)(hex:∀ b∈ex,b<s2.heap.objs.size):(cy X (own++ys) scope cl C s2 H2 ex pn).Ok:=by
 refine#[I2.ok.mod,S.kind,I2.ok.glob,I2.ok.blt,hC,λa b c h1 h2=>?_,λy hy=>?_,λv v z=>(nomatch z),I2.ok.hd,I2.ok.frames,.inl rfl,λb hb=>#[?_,λy c e z=>?_],I2.bs,TL I2.ok.bsz I2.sz,λb o e hb=>?_,λb hb z=>?_,I2.stack,I2.jH]
 .exact I2.ok.inj a b c (S.cls.get a c h1) (S.cls.get b c h2)
 .have J9:(relabel scope X.env).names.lookup y=O .cell∨(relabel scope X.env).names.lookup y=O .free:=hy;have q:(cl.lookup y).isSome=true:=by
   rcases J9 with e|e
   .simpa using BU S.kinds e
   .simpa using BU S.kinds e
  exact Yu.mp q
 .exact T6 (Tu (hex b hb) hC)
 .exact (f2 b hb).2.2.2.2.1 y c (S.cls.get y c e) z
 .obtain⟨v,v,v,d,v,v⟩:=f2 b hb;rcases d with d|d
  .exact I2.ok.noex b o e d
  .exact absurd (Tu (Tg e) (TL I2.ok.bsz d)) (U8 _)
 .obtain⟨v,d1,d2,v⟩:=f2 b hb;rcases Tz.mp (I2.iz b z) with q|q
  .exact d1 q
  .exact d2 q
noncomputable def gP(X:Cx)(N':List Str)(fn:Str->Bool)(scope:Xj)(cl:List (Str × Td))(C:Td)(s2:SX)(H2:Hp)(ex:List Td)(pn:List (Td × Obj)):Cx :=
 { X with N:=N',s₀:=s2,H₀:=H2,env:=Wz scope cl C X.env,outer:=X.stack,ex:=ex,fn:=fn,pn:=pn,xe:=λy y=>False }
theorem BW{C D:Td}{fp:List Td}(I2:Inv X pins G H2 s2)(f2:∀ b∈fp,cF X pins H2 b)(hC:s2.heap.objs.size<=C)(hD:s2.heap.objs.size<=D):∀ p∈X.pn++pins,p.1≠C/\p.1≠D/\p.1∉ay X.stack/\∀ b∈fp,p.1≠b:=λp hp=>by
 obtain⟨e,n,nL,nf,y⟩:=I2.pin p hp;have lt:=Tg e;refine#[by walk_at "o",by walk_at "o",λz=>?_,λb hb=>(f2 b hb).2.2.2.2.2 p hp];rcases Tz.mp (I2.iz _ z) with q|q
 .exact nL q
 .exact nf q
theorem Ka{J9q:It}{fp:List Td}{it C D:Td}{tn:Nat->UU->Prop}{Q:VK}{RR:SY->Td->abw->SX->Prop}{nm:List Str}{fn:Str->Bool}{k:Nat}{vA ρ:List (Option V)}{h1:UU}{tk:Nat}
 (hc:X.calm=true) (hg:PG (gP X nm fn scope cl C s2 H2 fp (X.pn++pins)) tg g) (hb:iK (gP X nm fn scope cl C s2 H2 fp (X.pn++pins)) ifs tt/\PE (gP X nm fn scope cl C s2 H2 fp (X.pn++pins)) elt te)
 (I2:Inv X pins G H2 s2) (T:Turn X.prog X.w X.K tg J9q fp it tn) (dO:tn 0 s2.heap) (f2:∀ b∈fp,cF X pins H2 b)
 (h:jS k J9q g ρ tt te H2 Q)
 (oO:∀ D C s' H',Inv X pins G H' s'->(∃ m,s'.heap.Ns C m)->cF X pins H' C->Q (.ref D) H'->RR (.ref D) C (.ok .next) s')
 (gK:vA.length=k) (I4:Inv (gP X nm fn scope cl C s2 H2 fp (X.pn++pins)) [] (vA++ρ) H2 { s2 with heap:=h1,toks:=tk }) (keep:∀ b o,s2.heap.get? b=O o->h1.get? b=O o)
 (hD:h1.get? D=O { cls:=.type "list",data:=.seq ([]:List SY).toArray 0 }) (eD:s2.heap.objs.size=D) (eC:s2.heap.objs.size+1=C)
 (BX:∀ y c,cl.lookup y=O c->c≠D/\∀ b∈fp,c≠b) :
 XN (model X.prog X.w) X.A (.compStart (.ListComp elt [#[tg,iter,ifs,0]] scope pos) 0 (.ref it) (.ref D) (Wz scope cl C X.env)) (RR (.ref D) C) { s2 with heap:=h1,toks:=tk }:=by
 obtain⟨W,⟨m0,w0⟩,turn⟩:=h;have fc:D≠C:=by walk_at "o"
 have gQ:s2.heap.objs.size<=C:=by walk_at "o"
 have jT:s2.heap.objs.size<=D:=by walk_at "o"
 have jg:∀ b∈fp,b<D:=λb hb=>by obtain⟨o,e,_⟩:=T.obj 0 _ dO b hb;exact eD ▸ Tg e
 have rW:∀ b,D<=b->b∉ay X.stack:=λb hle z=>by
  rcases Tz.mp (I2.iz b z) with q|q
  .have:=I2.lt;walk_at "o"
  .exact I2.qX (eD ▸ hle) q
 have mU:=BW I2 f2 gQ jT;have oP:tn 0 h1:=T.keep 0 _ _ dO λb _ o e=>keep b o e;have k8:∀ (H':Hp) (o:Obj),(∀ b∈fp,H' b=J)->∀ b∈fp,cF (gP X nm fn scope cl C s2 H2 fp (X.pn++pins)) [(D,o)] H' b:=λH' o hn b hb=>by
  obtain⟨_,d1,d2,d3,d4,d5⟩:=f2 b hb;have lt:=jg b hb;refine#[hn b hb,?_,λz=>?_,.inl hb,λy c e z=>(BX y c e).2 b hb z,λp hp=>?_]
  .show b≠C;walk_at "o"
  .rcases Tz.mp (I2.iz b z) with q|q
   .exact d1 q
   .exact d2 q
  .have cp:p∈(X.pn++pins)++[(D,o)]:=hp;rcases TQ.mp cp with z|z
   .exact d5 p z
   .have:p=(D,o):=by simpa using z
    subst this;show D≠b;walk_at "o"
 have loop:∀ s':SX,s' = { s2 with heap:=h1,toks:=tk } ->
  XN (model X.prog X.w) X.A (.compLoop (.ListComp elt [#[tg,iter,ifs,0]] scope pos) 0 (.ref it) (.ref D) (Wz scope cl C X.env)) (RR (.ref D) C) s':=by
  rintro s' rfl;refine J5 (λn s'=>∃ i zs H' os af nn,os.length=k/\Inv (gP X nm fn scope cl C s2 H2 fp (X.pn++pins)) [] (os++ρ) H' s'/\tn i s'.heap/\(∀ b∈fp,H' b=J)/\H' D=J /\
   s'.heap.get? D=O { cls:=.type "list",data:=.seq (af:List SY).toArray nn }/\Vals zs af/\W i n zs H') ?_ m0 #[0,[],H2,vA,[],0,gK,I4,oP,λb hb=>(f2 b hb).1,I2.ah.fresh jT,hD,.nil,w0]
  rintro n s3 ⟨i,zs,H3,BY,af,nn,Kb,I3,jO,jP,k9,vB,r3,w3⟩;have oQ:Inv (gP X nm fn scope cl C s2 H2 fp (X.pn++pins)) [(D,{ cls:=.type "list",data:=.seq af.toArray nn })] (BY++ρ) H3 s3:=I3.kF λp hp=>by
   have:p=(D,{ cls:=.type "list",data:=.seq af.toArray nn }):=by simpa using hp
   subst this;exact#[vB,k9,fc,rW D (Th _),λv z=>nomatch z]
  rcases turn i n zs H3 w3 with ⟨stop,hlen,q⟩|⟨go,hlen,N,oR,step⟩
  .refine Ue (T.done (gP X nm fn scope cl C s2 H2 fp (X.pn++pins)) Y Y Y hc i _ s3 _ H3 (λ_ _=>False) oQ (k8 H3 _ jP) jO stop) (λr s4 zq=>?_) λ_ _ z=>z.elim;obtain⟨hr,J4⟩:=zq;subst hr;have un:=J4.base;have vC:∀ b o,s2.heap.get? b=O o->b≠D:=λb o e=>by have:=Tg e;walk_at "o"
   have fB:∀ b u,H3 b=O u->b≠D:=λb u e z=>by rw[z,k9] at e;cases e
   refine oO D C s4 (upd H3 D (.lst zs)) ?_ ?_ ?_ (q D k9)
   .refine I2.kG (ch:=fp) J4.os #[un.keep,un.slot,λb o e nn hx=>?_,un.there,λb xs e=>?_,λb o u e=>?_,λb ps e=>?_] (λa o e=>?_) J4.bare λb hb=>?_
    .rw[az (vC b o e)];exact un.free b o e nn hx
    .have:=un.b9 b xs e;rw[az (fB b _ this)];exact this
    .have:=un.cg b o u e;rw[az (fB b _ this)];exact this
    .obtain⟨more,this⟩:=un.cv b ps e;exact#[more,by rw[az (fB b _ this)];exact this]
    .by_cases ha:a=D
     .subst ha;rw[ao] at e;cases e;exact#[hlen,af,nn,r3,(J4.pin (a,_) (Te _ (TY.mpr Y))).1]
     .rw[az ha] at e;exact (J4.ah a o e).fU (λ_ _ _ z=>z) (λb z=>by rw[az (fB b _ z)];exact z) λb xs z=>by rw[az (fB b _ z)];exact z
    .obtain⟨_,d1,d2,d3,d4,d5⟩:=f2 b hb;exact#[d3,d1,d4,d5]
   .obtain⟨m,hm,_⟩:=J4.loc;exact#[m,hm]
   .exact I2.jM gQ (by rw[az (UZ fc)];exact J4.free)
  .refine Ue (T.item (gP X nm fn scope cl C s2 H2 fp (X.pn++pins)) Y Y Y hc i _ s3 _ H3 (λ_ _=>False) oQ (k8 H3 _ jP) jO go) (λr s4 zq=>?_) λ_ _ z=>z.elim;obtain⟨u,hr,h4⟩:=zq;subst hr;refine Ue h4 (λ_ s5 zq=>?_) λ_ _ z=>z.elim;obtain⟨y5,H5,I5,r5,yl,gD,kM⟩:=zq;have ot:=I5.pinned (k8 H5 _ kM) (T.obj _ _ gD);refine Ue (hg _ s5 _ H5 y5 u _ ot r5 (step BY Kb y5 H5 yl)) (λ_ s6 zq=>?_) λ_ _ z=>z.elim;obtain⟨σ6,H6,I6,rX,BZ,e6,q6⟩:=zq;subst e6;have after:∀ (s7:SX) (H7:Hp),Inv (gP X nm fn scope cl C s2 H2 fp (X.pn++pins)) ([(D,{ cls:=.type "list",data:=.seq af.toArray nn })]++mD fp s5.heap) (rX++ρ) H7 s7 ->
    Inv (gP X nm fn scope cl C s2 H2 fp (X.pn++pins)) [] (rX++ρ) H7 s7/\tn (i+1) s7.heap/\(∀ b∈fp,H7 b=J)/\H7 D=J/\s7.heap.get? D=O { cls:=.type "list",data:=.seq af.toArray nn }:=λs7 H7 I7=>by
    have pD:=I7.pin (D,{ cls:=.type "list",data:=.seq af.toArray nn }) (Te _ (TR _ (TY.mpr Y)));refine#[I7.kF λp hp=>absurd hp (by simp),T.keep _ _ _ gD λb hb o e=>(I7.pin (b,o) (Te _ (Te _ (mE hb e)))).1,λb hb=>?_,pD.2.1,pD.1];obtain⟨o,e,_⟩:=T.obj _ _ gD b hb;exact (I7.pin (b,o) (Te _ (Te _ (mE hb e)))).2.1
   refine Ue (hb.1 _ s6 _ H6 _ I6 q6) (λok s7 zq=>?_) λ_ _ z=>z.elim;obtain⟨H7,I7,q7⟩:=zq
   try dsimp only at q7
   by_cases ah:ok=true
   .rw[if_pos ah] at q7 ⊢;refine Ue (hb.2 _ s7 _ H7 _ I7 q7) (λyv s8 zq=>?_) λ_ _ z=>z.elim;obtain⟨y8,H8,I8,r8,n8⟩:=zq;obtain⟨m',lg,w8⟩:=oR _ _ n8;obtain⟨J8,vD,vE,oU,lj⟩:=after s8 H8 I8;have hl:=r3.length;refine Zv Yd #[_,lj,Y] XO (Xy _ _) (Yv D af.toArray nn yv (by rw[To];walk_at "o")) #[lj,?_];have oV:=YW lj (λa=>a.push yv);rw[aah] at oV;refine#[m',lg,i+1,zs++[y8],H8,rX,af++[yv],_,BZ,J8.turned (it:=D) (λb o aL e=>(Ud _ _ (UZ aL)).trans e) oU fc (.inr jT) (λy c e z=>?_) (λp hp=>?_),T.keep _ _ _ vD λb aL o e=>?_,vE,oU,oV,r3.append (.cons r8 .nil),w8]
    .exact (BX y c e).1 z
    .have cp:p∈X.pn++pins:=by have:p∈(X.pn++pins)++[]:=hp;simpa using this
     exact (mU p cp).2.1
    .have:=jg b aL;exact (Ud _ _ (by walk_at "o")).trans e
   .rw[if_neg ah] at q7 ⊢;obtain⟨m',lg,w7⟩:=oR _ _ q7;obtain⟨J7,vF,vG,vH,vI⟩:=after s7 H7 I7;exact#[m',lg,i+1,zs,H7,rX,af,nn,BZ,J7,vF,vG,vH,vI,r3,w7]
 exact Y2 (loop _ Y) (T.self X.A 0 _ _ _ oP (loop _ Y))
theorem B0{J9q:It}{fp:List Td}{it:Td}{tn:Nat->UU->Prop}{E:SY->SX->Prop}{Q:VK}{RR:SY->Td->abw->SX->Prop}
 (S:k7 X own scope cl fr ys) (hc:X.calm=true) (hg:∀ (C:Td) (s:SX) (H:Hp) (ex:List Td) (pn:List (Td × Obj)),PG (cy X (own++ys) scope cl C s H ex pn) tg g)
 (hb:∀ (C:Td) (s:SX) (H:Hp) (ex:List Td) (pn:List (Td × Obj)),iK (cy X (own++ys) scope cl C s H ex pn) ifs tt/\PE (cy X (own++ys) scope cl C s H ex pn) elt te)
 (I2:Inv X pins G H2 s2) (T:Turn X.prog X.w X.K tg J9q fp it tn) (dO:tn 0 s2.heap) (f2:∀ b∈fp,cF X pins H2 b)
 (h:jS own.length J9q g (fr.map λj=>(G[j]?).join) tt te H2 Q)
 (oO:∀ D C s' H',Inv X pins G H' s'->(∃ m,s'.heap.Ns C m)->cF X pins H' C->Q (.ref D) H'->RR (.ref D) C (.ok .next) s') :
 TX (model X.prog X.w) X.A (ab2 []) (λacc s3=>TX (model X.prog X.w) X.A (newFunctionEnv scope X.env.globals cl [] X.env.qual J .none (O X.env)) (λoW s4 =>
  XN (model X.prog X.w) X.A (.compStart (.ListComp elt [#[tg,iter,ifs,0]] scope pos) 0 (.ref it) acc { oW with scope:=relabel scope X.env }) (RR acc oW.locals) s4) E s3) E s2:=by
 refine UL (ZC (λy hy=>by simpa using Vc.mp S.nocell y hy) (λy hy=>absurd hy (by simp)) (λh1 fZ dQ=>?_) S.kind);dsimp only at fZ dQ ⊢;generalize eP:s2.heap.push { cls:=.type "list",dict:=J,data:=.seq ([]:List SY).toArray }=P2 at fZ dQ ⊢;have sz:P2.objs.size=s2.heap.objs.size+1:=by rw[<- eP,Yk]
 have fc:s2.heap.objs.size≠P2.objs.size:=by walk_at "o"
 have keep:∀ b o,s2.heap.get? b=O o->h1.get? b=O o:=λb o e=>by have lt:=Tg e;exact dQ.extBut b o (by walk_at "o") (Ta _ (eP ▸ Ta _ e))
 have hD:h1.get? s2.heap.objs.size=O { cls:=.type "list",data:=.seq ([]:List SY).toArray 0 } :=
  dQ.extBut _ _ fc (Ta _ (eP ▸ TV _ Y))
 generalize eC:P2.objs.size=C at fZ dQ fc ⊢;generalize eD:s2.heap.objs.size=D at fc hD;have gQ:s2.heap.objs.size<=C:=by walk_at "o"
 have jT:s2.heap.objs.size<=D:=by walk_at "o"
 have jg:∀ b∈fp,b<s2.heap.objs.size:=λb hb=>by obtain⟨o,e,_⟩:=T.obj 0 _ dO b hb;exact Tg e
 have vJ:(cy X (own++ys) scope cl C s2 H2 fp (X.pn++pins)).Ok:=BV S I2 f2 gQ (λb hb=>by have:=jg b hb;walk_at "o");have mU:=BW I2 f2 gQ jT;have I4:Inv (cy X (own++ys) scope cl C s2 H2 fp (X.pn++pins)) [] ((own.map λ_=>J)++fr.map λj=>(G[j]?).join) H2 { s2 with heap:=h1,toks:=s2.toks+([]:List (Str × SY)).length }:=by
  refine#[vJ,Y,I2.bare,Un.kept keep,#[_,fZ,λi y v e1 e2 e3=>?_],λy c e=>?_,I2.ah.fresh gQ,λy c e=>I2.dz y c (S.cls.get y c e),λp hp=>?_,I2.ah.kept keep,?_]
  .by_cases hio:i<own.length
   .rw[WH (by simpa using hio)] at e2;simp[hio] at e2
   .rw[VE (by simp;lia)] at e2;have oX:ys[i-own.length]?=O y:=by
     have:(own++ys)[i]?=O y:=e1
     rwa [VE (by lia)] at this
    rw[Tn] at e2;obtain⟨j,c,hN,hσ,hk,vK,vL⟩:=S.ay.get (i-own.length) y v oX e2;obtain⟨m,hm,hl⟩:=I2.loc;obtain⟨u,ru,lu⟩:=hl j y v hN hσ (.inr (.inl hk));refine#[u,ru,.inr #[.inl ?_,c,vK,?_]]
    .have z:=Vc.mp S.kfr y (Ui oX);exact (by simpa using z:(relabel scope X.env).names.lookup y=O .cell)
    .rcases lu with ⟨z,_⟩|⟨_,c',e',q'⟩
     .rw[hk] at z;cases z
     .rw[vL] at e';cases e';obtain⟨o,ho,hd⟩:=q';exact#[o,keep _ _ ho,hd]
  .obtain⟨v,o,ho,hd⟩:=I2.cell y c (S.cls.get y c e);exact#[v,o,keep _ _ ho,hd]
  .have cp:p∈X.pn++pins:=by have:p∈(X.pn++pins)++[]:=hp;simpa using this
   obtain⟨e,n,_,_,d⟩:=I2.pin p cp;obtain⟨p1,_,p3,_⟩:=mU p cp;exact#[keep _ _ e,n,p1,p3,d]
  .show ((own.map λ_=>(J:Option V))++fr.map λj=>(G[j]?).join).length=(own++ys).length;simp[S.ay.len]
 refine Ka hc (hg C s2 H2 fp (X.pn++pins)) (hb C s2 H2 fp (X.pn++pins)) I2 T dO f2 h oO (by simp) I4 keep hD eD (sz.symm.trans eC) λy c e=>?_;obtain⟨v,o,ho,_⟩:=I2.cell y c (S.cls.get y c e);have:=Tg ho;exact#[by walk_at "o",λb hb z=>(f2 b hb).2.2.2.2.1 y c (S.cls.get y c e) z]
theorem B1{wi:TI}{B:L2.St->It->Hp->VK->Prop}(S:k7 X own scope cl fr ys)(hc:X.calm=true)(hi:PI X tg iter wi)(hg:∀ (C:Td) (s:SX) (H:Hp) (ex:List Td) (pn:List (Td × Obj)),PG (cy X (own++ys) scope cl C s H ex pn) tg g)
 (hb:∀ (C:Td) (s:SX) (H:Hp) (ex:List Td) (pn:List (Td × Obj)),iK (cy X (own++ys) scope cl C s H ex pn) ifs tt/\PE (cy X (own++ys) scope cl C s H ex pn) elt te)
 (hB:∀ ρ J9q H Q,B ρ J9q H Q->jS own.length J9q g ρ tt te H Q) (hs:∀ z,Vu iter X.env z=pure z:=by intro v;rfl):PE X (.ListComp elt [#[tg,iter,ifs,0]] scope pos) (λG H Q=>wi G H λJ9q H1=>B (fr.map λj=>(G[j]?).join) J9q H1 Q):=by
 intro pins s G H Q I h;rw[eval_ListComp];refine WR (use:=J) Y hs S.clos S.kind (λy hy hl=>?_) (ax (hi pins s G H _ I h) λxv s1 h1=>ax h1 λoq s2 h2=>?_)
 .have z:=Vc.mp S.names y hy;rw[hl] at z;simpa using z
 .obtain⟨it,fp,tn,J9q,H2,rfl,I2,T,dO,f2,f9⟩:=h2;refine B0 (RR:=λacc C=>compPost (model X.prog X.w) X.A X.xe J (EP X pins G Q) acc C) S hc hg hb I2 T dO f2 (hB _ _ _ _ f9) λD C s' H' J' hn fC q=>?_;obtain⟨m,hm⟩:=hn;obtain⟨c0,c1,c2,c3,c4,c5⟩:=fC;exact#[m,hm,λh' sb=>#[.ref D,H',J'.turned (it:=C) (λb o hb e=>sb.extBut b o hb e) c0 c1 c3 c4 c5,Y,q]]
theorem Kc{wi:TI}{B:L2.St->It->Hp->VK->Prop}{y:Str}{py oY:Pos}{i:Nat}(S:k7 X own scope cl fr ys)(hc:X.calm=true)(hN:X.N.Nodup)(hy:X.N[i]?=O y)(hl:X.env.scope.names.lookup y=O .local)(hi:PI X tg iter wi)(hg:∀ (C:Td) (s:SX) (H:Hp) (ex:List Td) (pn:List (Td × Obj)),PG (cy X (own++ys) scope cl C s H ex pn) tg g)
 (hb:∀ (C:Td) (s:SX) (H:Hp) (ex:List Td) (pn:List (Td × Obj)),iK (cy X (own++ys) scope cl C s H ex pn) ifs tt/\PE (cy X (own++ys) scope cl C s H ex pn) elt te)
 (hB:∀ ρ J9q H Q,B ρ J9q H Q->jS own.length J9q g ρ tt te H Q) (vM:Xk (.ListComp elt [#[tg,iter,ifs,0]] scope pos) (O (.Name y py)) oY.line X.env=pure true:=by rfl)
 (hs:∀ z,Vu iter X.env z=pure z:=by intro _;rfl):PS X (.Assign [.Name y py] (.ListComp elt [#[tg,iter,ifs,0]] scope pos) oY) (vz i λG H Q=>wi G H λJ9q H1=>B (fr.map λj=>(G[j]?).join) J9q H1 Q):=by
 intro pins s G H Dn I h;rw[exec_Assign_Name_used _ _ _ _ vM];refine SW (wpAny_standAt (SW ?_));show TX _ X.A (do let _ <- comprehension (.ListComp elt [#[tg,iter,ifs,0]] scope pos) scope X.env _ (ab2 []) false (eval iter X.env) (O (assign (.Name y py) X.env))) _ _ s;refine SW (ax (WR (use:=O (assign (.Name y py) X.env)) (Q:=λ_ s'=>SP X pins Dn .next s') Y hs S.clos S.kind (λz hz hl=>?_) (ax (hi pins s G H _ I h) λxv s1 h1=>ax h1 λoq s2 h2=>?_)) λ_ s' hq=>Tc (Tc hq))
 .have z':=Vc.mp S.names z hz;rw[hl] at z';simpa using z'
 .obtain⟨it,fp,tn,J9q,H2,rfl,I2,T,dO,f2,f9⟩:=h2;refine B0 (RR:=λacc C=>compPost (model X.prog X.w) X.A X.xe (O (assign (.Name y py) X.env)) (λ_ s'=>SP X pins Dn .next s') acc C) S hc hg hb I2 T dO f2 (hB _ _ _ _ f9) λD C s' H' J' hn fC q=>?_;obtain⟨m,oC,es,ep,ho,hd,hr⟩:=hn;obtain⟨c0,c1,c2,c3,c4,c5⟩:=fC;have J2:Inv X (pins++[(C,oC)]) G H' s':=J'.kF λp hp=>by
   rcases TQ.mp hp with z|z
   .exact J'.pin p (Te _ z)
   .have:p=(C,oC):=by simpa using z
    subst this;exact#[ho,c0,c1,c2,λv z=>by rw[hd] at z;cases z]
  show TX _ X.A (assign (.Name y py) X.env (.ref D)) _ _ _;refine ax (mC (X:=X) hN hy (.inl hl) (.inr hl) _ s' G H' (.ref D) (.ref D) (λσ' jh=>σ'=G.set i (O (.ref D))/\jh=H') J2 Y #[Y,Y]) λ_ s3 zq=>?_;obtain⟨σ3,H3,J3,e1,e2⟩:=zq;subst e1 e2;obtain⟨pc,Sq,_⟩:=J3.pin (C,oC) (Te _ (Te _ (TY.mpr Y)));refine#[m,#[oC,es,ep,pc,hd,hr],λh' sb=>#[_,H3,J3.rh.turned (it:=C) (λb o hb e=>sb.extBut b o hb e) c0 c1 c3 c4 c5,q]]
theorem Kd{wi:TI}(S:k7 X own scope cl fr ys)(hc:X.calm=true)(hi:PI X tg iter wi)(hg:∀ (C:Td) (s:SX) (H:Hp) (ex:List Td) (pn:List (Td × Obj)),PG (cy X (own++ys) scope cl C s H ex pn) tg g)
 (hb:∀ (C:Td) (s:SX) (H:Hp) (ex:List Td) (pn:List (Td × Obj)),iK (cy X (own++ys) scope cl C s H ex pn) ifs tt/\PE (cy X (own++ys) scope cl C s H ex pn) elt te)
 (hs:∀ z,Vu iter X.env z=pure z:=by intro y;rfl):PE X (.ListComp elt [#[tg,iter,ifs,0]] scope pos) (BR own.length wi g fr tt te):=B1 (B:=λρ J9q H Q=>jS own.length J9q g ρ tt te H Q) S hc hi hg hb (λy y y y h=>h) hs
end
theorem B2{J9q:It}{ρ:L2.St}{tt:TT}{te:TE}{H:Hp}{Q:VK}(h:mT J9q ρ tt te H Q):jS 1 J9q (fu 0) ρ tt te H Q:=by
 obtain⟨W,w0,turn⟩:=h;refine#[W,w0,λi m ys H hw=>(turn i m ys H hw).imp id λ⟨a,b,N,hN,st⟩=>#[a,b,N,hN,λos ho x H' y=>?_]]
 match os,ho with
 | [_],_=>exact#[[O x],Y,Y,st x H' y]
section
variable{X:Cx}{x:Str}{px pos:Pos}{elt iter:Vh}{ifs:List Vh}{scope:Xj}{cl:List (Str × Td)}{fr:List Nat}{ys:List Str}{tt:TT}{te:TE}
theorem gO.g(S:gO X x scope cl fr ys):k7 X [x] scope cl fr ys:=#[S.clos,S.nocell,S.kind,S.names,S.kinds,S.cls,S.ay,S.kfr]
theorem Ke{pins:List (Td × Obj)}{G:L2.St}{H2:Hp}{s2:SX}{C:Td}{ex:List Td}{pn:List (Td × Obj)}(S:gO X x scope cl fr ys)(I2:Inv X pins G H2 s2)(f2:∀ b∈ex,cF X pins H2 b)(hC:s2.heap.objs.size<=C)(hex:∀ b∈ex,b<s2.heap.objs.size):(cy X (x::ys) scope cl C s2 H2 ex pn).Ok:=BV S.g I2 f2 hC hex
theorem gO.pg(S:gO X x scope cl fr ys)(C:Td)(s:SX)(H:Hp)(ex:List Td)(pn:List (Td × Obj)):PG (cy X ([x]++ys) scope cl C s H ex pn) (.Name x px) (fu 0) :=
 mC (X:=cy X (x::ys) scope cl C s H ex pn) (i:=0) S.nd Y (.inl (UM S.own)) (.inr (UM S.own))
theorem B3{wi:TI}(S:gO X x scope cl fr ys)(hc:X.calm=true)(hi:PI X (.Name x px) iter wi)
 (hb:∀ (C:Td) (s:SX) (H:Hp) (ex:List Td) (pn:List (Td × Obj)),iK (cy X (x::ys) scope cl C s H ex pn) ifs tt/\PE (cy X (x::ys) scope cl C s H ex pn) elt te)
 (hs:∀ z,Vu iter X.env z=pure z:=by intro y;rfl):PE X (.ListComp elt [#[.Name x px,iter,ifs,0]] scope pos) (rV wi fr tt te):=B1 (B:=λρ J9q H Q=>mT J9q ρ tt te H Q) S.g hc hi S.pg hb (λy y y y h=>B2 h) hs
theorem vN{wi:TI}{y:Str}{py oY:Pos}{i:Nat}(S:gO X x scope cl fr ys)(hc:X.calm=true)(hN:X.N.Nodup)(hy:X.N[i]?=O y)(hl:X.env.scope.names.lookup y=O .local)(hi:PI X (.Name x px) iter wi)
 (hb:∀ (C:Td) (s:SX) (H:Hp) (ex:List Td) (pn:List (Td × Obj)),iK (cy X (x::ys) scope cl C s H ex pn) ifs tt/\PE (cy X (x::ys) scope cl C s H ex pn) elt te)
 (vM:Xk (.ListComp elt [#[.Name x px,iter,ifs,0]] scope pos) (O (.Name y py)) oY.line X.env=pure true:=by rfl)
 (hs:∀ z,Vu iter X.env z=pure z:=by intro v;rfl):PS X (.Assign [.Name y py] (.ListComp elt [#[.Name x px,iter,ifs,0]] scope pos) oY) (vz i (rV wi fr tt te)):=Kc (B:=λρ J9q H Q=>mT J9q ρ tt te H Q) S.g hc hN hy hl hi S.pg hb (λv v v v h=>B2 h) vM hs
end
def jU(Ok:Hp->Prop)(ρ:L2.St)(tt:TT)(te:TE):List V->List V->Hp->(List V->Hp->Prop)->Prop
 | [],ys,H,Q=>Ok H/\Q ys H
 | x::r,ys,H,Q=>Ok H/\tt (O x::ρ) H λb H1=>if b=true then te (O x::ρ) H1 λy H2=>jU Ok ρ tt te r (ys++[y]) H2 Q else jU Ok ρ tt te r ys H1 Q
structure vO(J9q:It)(Ok:Hp->Prop)(xs:List V):Prop where
 go:∀ i H x,Ok H->xs[i]?=O x->J9q.go i H
 aY:∀ i H x H',Ok H->J9q.aY i H x H'->H'=H/\(i<xs.length->xs[i]?=O x)
 stop:∀ i H,Ok H->xs.length<=i->J9q.stop i H
section
variable{J9q:It}{Ok:Hp->Prop}{xs:List V}{ρ:L2.St}{tt:TT}{te:TE}{H:Hp}{Q:VK}{K:SV}{a:Td}
theorem mV(O9q:vO J9q Ok xs)(hn:xs.length<=TB)(h:jU Ok ρ tt te xs [] H λys H'=>∀ l,H' l=J->Q (.ref l) (upd H' l (.lst ys))):mT J9q ρ tt te H Q:=by
 refine#[λi m ys H=>m=xs.length-i/\i<=xs.length/\ys.length<=i/\jU Ok ρ tt te (xs.drop i) ys H λys H'=>∀ l,H' l=J->Q (.ref l) (upd H' l (.lst ys)),#[_,Y,Uq _,Th _,h],?_];rintro i m ys H ⟨rfl,hi,hy,g⟩;by_cases aQ:i<xs.length
 .have e:=Ut aQ;rw[e] at g;obtain⟨g0,g1⟩:=g;refine .inr #[O9q.go i H _ g0 (Tj aQ),by walk_at "o",λzs H'=>zs.length<=i+1/\jU Ok ρ tt te (xs.drop (i+1)) zs H' λys H'=>∀ l,H' l=J->Q (.ref l) (upd H' l (.lst ys)),λzs H' q=>#[_,by walk_at "o",Y,aQ,q.1,q.2],λx H' y=>?_];obtain⟨rfl,ex⟩:=O9q.aY i H x H' g0 y;have ex:=ex aQ;rw[Tj aQ] at ex;cases ex;have l1:∀ y:V,(ys++[y]).length<=i+1:=λy=>by rw[T8,UJ];walk_at "o"
  have l2:ys.length<=i+1:=by walk_at "o"
  simp only[l1,l2,true_and];exact g1
 .have e:i=xs.length:=by walk_at "o"
  subst e;rw[aaC] at g;exact .inl #[O9q.stop _ H g.1 (Th _),by walk_at "o",g.2]
theorem oZ:vO (jN K a) (λH=>ak K H a xs) xs :=
 #[λz z z h e=>#[xs,_,h,e],λz z z z h y=>#[y.1,λz=>y.2 xs h],λz z h hi=>#[xs,h,hi]]
theorem Kf{lo:Int}{n:Nat}:vO (gB lo n) (λz=>True) ((List.range n).map λk=>V.int (lo+(k:Nat))) :=
 #[λi z z z e=>by
  have:=(Ug.mp e).1;show i<n;simpa using this,λi z z z z y=>#[y.1,λhi=>by
   have ji:i<n:=by simpa using hi
   rw[y.2,Vv,List.getElem?_range ji];rfl],λi z z hi=>by
   show n<=i;simpa using hi]
end
section
variable{X:Cx}{K:SV}
theorem Kg(h:X.K=K):iE X (kT K):=h ▸ A9
end
section
variable{X:Cx}{e d:Vh}{te td:TE}{p pos kp:Pos}
noncomputable def Kh(f:List Int->Int):List Int->V->V
 | [],y=>y
 | n::ns,_=>.int (f (n::ns))
def Ki(K:SV)(f:List Int->Int)(te td:TE):TE:=λG H Q=>te G H λx H1=>td G H1 λy H2=>∃ a ns,x = .ref a/\ak K H2 a (ns.map V.int)/\Q (Kh f ns y) H2
end
section
variable{X:Cx}{pins:List (Td × Obj)}{G:L2.St}{H:Hp}{s:SX}{h':UU}
theorem B4{ch:List Td}(I:Inv X pins G H s)(k:∀ b o,b∉ch->s.heap.get? b=O o->h'.get? b=O o)(hf:∀ b∈ch,cF X pins H b){H':Hp}(up:∀ b u,H b=O u->H' b=O u):∀ b u,H b=O u->bH X.prog X.w H' h' b u:=by
 have jJ:∀ b u,H b=O u->b∉ch:=λb u e z=>by rw[(hf b z).1] at e;cases e
 intro b u e;refine (I.ah b u e).fU (λc v hc q=>k c v ?_ q) (λc q=>up c _ q) λc xs q=>up c _ q;rcases hc with z|z
 .rw[z];exact jJ b u e
 .exact jJ c _ z
theorem B5{t':Nat}{ch:List Td}(I:Inv X pins G H s)(k:∀ b o,b∉ch->s.heap.get? b=O o->h'.get? b=O o)(hf:∀ b∈ch,cF X pins H b):Inv X pins G H { s with heap:=h',toks:=t' }:=by
 refine I.step (g':=s.gens) (d':=s.drawn) (ch:=ch) (λb hb=>?_) (λb o y y hc e y=>k b o hc e) (λb o y y hc e y=>#[o.slots,k b o hc e]) (λy y y y n=>n)
  (λb o hc e=>#[o,k b o hc e]) (λy y e=>e) (λy y y e=>e) (λb ps e=>#[(List.toArray []),by rw[e];simp]) (λm hm=>?_) (λb u e=>B4 I k hf (λy y q=>q) b u e) I.bare
 .obtain⟨y,d1,d2,d3,d4,d5⟩:=hf b hb;exact#[d3,d1,d4,d5]
 .obtain⟨o,es,ep,ho,r⟩:=hm;exact#[o,es,ep,k _ o (λz=>(hf _ z).2.1 rfl) ho,r]
theorem B6{t':Nat}{ch:List Td}{T:Td}{o:HO}(I:Inv X pins G H s)(k:∀ b o,b∉ch->s.heap.get? b=O o->h'.get? b=O o)(hf:∀ b∈ch,cF X pins H b)(hT:s.heap.objs.size<=T)
 (new:bH X.prog X.w (upd H T o) h' T o):Inv X pins G (upd H T o) { s with heap:=h',toks:=t' }:=by
 have hn:=I.ah.fresh hT;have neT:∀ b u,s.heap.get? b=O u->b≠T:=λb u e=>T6 (Tu (Tg e) hT);have fB:∀ b u,H b=O u->b≠T:=λb u e=>jG e hn;have up:∀ b u,H b=O u->upd H T o b=O u:=λb u e=>by rw[az (fB b u e)];exact e
 refine I.step (g':=s.gens) (d':=s.drawn) (ch:=ch) (λb hb=>?_) (λb o y y hc e y=>k b o hc e) (λb o y y hc e y=>#[o.slots,k b o hc e]) (λb u y e n=>by rw[az (neT b u e)];exact n)
  (λb o hc e=>#[o,k b o hc e]) (λb xs e=>up b _ e) (λb y y e=>up b _ e) (λb ps e=>#[(List.toArray []),by rw[up b _ e];simp]) (λm hm=>?_) (λb u e=>?_) I.bare
 .obtain⟨y,d1,d2,d3,d4,d5⟩:=hf b hb;exact#[d3,d1,d4,d5]
 .obtain⟨o,es,ep,ho,r⟩:=hm;exact#[o,es,ep,k _ o (λz=>(hf _ z).2.1 rfl) ho,r]
 .by_cases hb:b=T
  .subst hb;rw[ao] at e;cases e;exact new
  .rw[az hb] at e;exact B4 I k hf up b u e
end
noncomputable def B7(K:SV)(a:Td)(n:Nat):It :=
 #[λi H=>∃ xs x,ak K H a xs/\xs.length=n/\xs.reverse[i]?=O x,λi H x H'=>H'=H/\∀ xs,ak K H a xs->xs.length=n->xs.reverse[i]?=O x,λi y=>i=n]
def B8(K:SV)(ta:TA):TI:=λG H R=>ta G H λvs H1=>∃ a xs,vs=[.ref a]/\ak K H1 a xs/\R (B7 K a xs.length) H1
noncomputable def rY(K:SV)(a:Td):It :=
 #[λi H=>∃ xs x,ak K H a xs/\xs[i]?=O x,λi H v H'=>∃ (p:Td) (x:V),v = .ref p/\H p=J/\H'=upd H p (.tup [.int i,x])/\∀ xs,ak K H a xs->xs[i]?=O x,λi H=>∃ xs,ak K H a xs/\xs.length<=i]
theorem B9:2<=TB:=by decide
theorem Kj{P:Tv}{w:Ul}{K:SV}{es:List Vh}{k:Nat}{tp:Pos}(a e it:Td)(Ca:e≠it):Turn P w K (.Tuple es k tp) (rY K a) [e,it] e (λi h=>(∃ old,IsEnum h e it (i:Nat) old)/\h.IsListIter it a i) where
 mem:=by simp
 obj:=λi h st b hb=>by
  obtain⟨⟨old,he⟩,o,ho,c,d⟩:=st;have aL:b=e∨b=it:=by simpa using hb
  rcases aL with rfl|rfl
  .exact#[_,he,λv z=>by
    have z':Data.fields _=Data.cell v:=z;cases z']
  .exact#[o,ho,λv z=>by rw[d] at z;cases z]
 keep:=λi h h' st kk=>by obtain⟨⟨old,he⟩,hi⟩:=st;exact#[#[old,kk e (by simp) _ he],hi.at λo e=>kk it (by simp) o e]
 item:=by
  intro X hP hw hK hc i pins s G H E I hf st hg;subst hP hw hK;obtain⟨xs,x,hq,hx⟩:=hg;obtain⟨⟨old,he⟩,hit⟩:=st;obtain⟨af,rv,p,hz⟩:=I.list hq;obtain⟨u,hu,ru⟩:=rv.get hx;refine wpAny_pyNext_enum_item he hit p.isList (x:=u) (by simpa using hu) Ca λh1 ho Kk hT hsz hk=>?_;refine#[_,Y,wpAny_letOwnedTupleGo_enum ho λh2 Kl gI=>?_];have vP:Heap.SameBut e h1 h2:=gI;have neT:s.heap.objs.size≠e:=X9 (Tg he);have up:∀ b o,b∉[e,it]->s.heap.get? b=O o->h2.get? b=O o:=λb o hb q=>by
   have aL:b≠e/\b≠it:=by simpa using hb
   exact vP.extBut b o aL.1 (hk b o aL.1 aL.2 q)
  have hn:H s.heap.objs.size=J:=I.ah.fresh (Th _);refine#[.ref s.heap.objs.size,upd H s.heap.objs.size (.tup [.int i,x]),B6 (s:=s) (h':=h2) (t':=s.toks+1) I up hf (Th _) #[B9,[.int i s.toks,u],.cons #[_,Y] (.cons ru .nil),?_],Y,#[_,x,Y,hn,Y,λys hy=>by rw[I.qY hy hq];exact hx],#[#[u,?_],?_],λb hb=>?_]
  .have:=vP.extBut _ _ neT hT;exact#[_,this,Y,_,Y]
  .have:((i:Int)+1)=((i+1:Nat):Int):=by lia
   rw[<- this];exact Kl
  .exact Kk.at λo q=>vP.extBut _ _ (UZ Ca) q
  .rw[az]
   .exact (hf b hb).1
   .have aL:b=e∨b=it:=by simpa using hb
    rcases aL with rfl|rfl
    .exact UZ neT
    .obtain⟨o,q,y⟩:=hit;exact T6 (Tg q)
 done:=by
  intro X hP hw hK hc i pins s G H E I hf st hg;subst hP hw hK;obtain⟨xs,hq,hx⟩:=hg;obtain⟨⟨old,he⟩,hit⟩:=st;obtain⟨af,rv,p,hz⟩:=I.list hq;have hl:=rv.length;refine wpAny_pyNext_enum_end (I.ok.hd hc) he hit p.isList (by simp;lia) λh' eb=>#[Y,B5 (t':=s.toks) I (λb o hb q=>?_) hf]
  have aL:b≠e/\b≠it:=by simpa using hb
  exact eb b o aL.2 q
 self:=λy i s Q E st h=>by obtain⟨⟨old,he⟩,y⟩:=st;exact aai he h
def vQ(K:SV)(ta:TA):TI:=λG H R=>ta G H λvs H1=>∃ a,vs=[.ref a]/\(∃ xs,ak K H1 a xs)/\R (rY K a) H1
theorem Cb{X:Cx}{es:List Vh}{k:Nat}{tp:Pos}{e:Vh}{ta:TA}{p pos:Pos}(hg:Gl X "enumerate")(hm:X.mg "enumerate" = J)(ha:PA X [e] ta)(hs:TZ [e] X.env=[(false,eval e X.env)]:=by rfl):PI X (.Tuple es k tp) (.Call (.Name "enumerate" p) [e] [] pos) (vQ X.K ta):=by
 intro pins s G H R I h;refine Call_ (oh I hg hm Ju (Vz (ax (ha pos pins s G H _ I h) λus s1 zq=>?_) hs Y));obtain⟨vs,H1,I1,r1,q1⟩:=zq;obtain⟨a,rfl,⟨xs,hq⟩,q⟩:=q1;obtain⟨u,rfl,ru⟩:=vals1 r1;cases ru;obtain⟨af,rv,p,hz⟩:=I1.list hq;refine call_enumerate_list p.isList λh' he hit hsz hk=>?_;refine aai he ?_;have I2:Inv X pins G H1 { s1 with heap:=h' }:=I1.kept (t':=s1.toks) hk;refine#[s1.heap.objs.size+1,[s1.heap.objs.size+1,s1.heap.objs.size],_,_,H1,Y,I2,Kj a _ _ (by walk_at "o"),#[#[.none,he],hit],λb hb=>?_,q];have aL:b=s1.heap.objs.size+1∨b=s1.heap.objs.size:=by simpa using hb
 rcases aL with rfl|rfl
 .exact I1.jM (ZK _) (I1.ah.fresh (ZK _))
 .exact I1.jM (Th _) (I1.ah.fresh (Th _))
noncomputable def o4(K:SV)(a b:Td):It :=
 #[λi H=>∃ xs ys x y,ak K H a xs/\ak K H b ys/\xs[i]?=O x/\ys[i]?=O y,λi H v H'=>∃ (p:Td) (x y:V),v = .ref p/\H p=J/\H'=upd H p (.tup [x,y])/\(∀ xs,ak K H a xs->xs[i]?=O x)/\∀ ys,ak K H b ys->ys[i]?=O y,
  λi H=>∃ xs ys,ak K H a xs/\ak K H b ys/\(xs.length<=i∨ys.length<=i)]
theorem Km{P:Tv}{w:Ul}{K:SV}{es:List Vh}{k:Nat}{tp:Pos}(a b z TI TO i1 i2:Td)(D:ZipApart z TI TO i1 i2 a b):Turn P w K (.Tuple es k tp) (o4 K a b) [z,TI,TO,i1,i2] z
 (λi h=>IsZip h z TI TO .none/\IsPair h TI (.ref i1) (.ref i2)/\(∃ a b,IsPair h TO a b)/\h.IsListIter i1 a i/\h.IsListIter i2 b i) where
 mem:=by simp
 obj:=λi h st c hc=>by
  obtain⟨hz,gR,⟨ta,tb,iL⟩,⟨o1,h1,c1,d1⟩,⟨o2,h2,c2,d2⟩⟩:=st;have dA:c=z∨c=TI∨c=TO∨c=i1∨c=i2:=by simpa using hc
  rcases dA with rfl|rfl|rfl|rfl|rfl
  .exact#[_,hz,λv q=>by
    have q':Data.fields _=Data.cell v:=q;cases q']
  .exact#[_,gR,λv q=>by
    have q':Data.seq _ _=Data.cell v:=q;cases q']
  .exact#[_,iL,λv q=>by
    have q':Data.seq _ _=Data.cell v:=q;cases q']
  .exact#[o1,h1,λv q=>by rw[d1] at q;cases q]
  .exact#[o2,h2,λv q=>by rw[d2] at q;cases q]
 keep:=λi h h' st kk=>by obtain⟨hz,gR,⟨ta,tb,iL⟩,h1,h2⟩:=st;exact#[kk z (by simp) _ hz,kk TI (by simp) _ gR,#[ta,tb,kk TO (by simp) _ iL],h1.at λo e=>kk i1 (by simp) o e,h2.at λo e=>kk i2 (by simp) o e]
 item:=by
  intro X hP hw hK hc i pins s G H E I hf st hg;subst hP hw hK;obtain⟨xs,ys,x,y,hqx,hqy,hx,hy⟩:=hg;obtain⟨hz,gR,⟨ta,tb,iL⟩,h1,h2⟩:=st;obtain⟨af,rv,p1,m⟩:=I.list hqx;obtain⟨jts,rZ,p2,m⟩:=I.list hqy;obtain⟨u,hu,ru⟩:=rv.get hx;obtain⟨v,hv,Kn⟩:=rZ.get hy;refine wpAny_pyNext_zip_item D hz gR iL h1 h2 p1.isList p2.isList (x:=u) (y:=v) (by simpa using hu) (by simpa using hv) λh' z1 t1 l1 l2 pT hsz hk=>?_;refine#[_,Y,wpAny_letOwnedTupleGo_zip z1 λh3 z3 Ko=>?_];have mW:Heap.SameBut z h' h3:=Ko;have neT:s.heap.objs.size≠z:=X9 (Tg hz);have up:∀ b o,b∉[z,TI,TO,i1,i2]->s.heap.get? b=O o->h3.get? b=O o:=λb o hb q=>by
   have aL:b≠z/\b≠TI/\b≠TO/\b≠i1/\b≠i2:=by simpa using hb
   exact mW.extBut b o aL.1 (hk b o aL.1 aL.2.2.1 aL.2.2.2.1 aL.2.2.2.2 q)
  have hn:H s.heap.objs.size=J:=I.ah.fresh (Th _);refine#[.ref s.heap.objs.size,upd H s.heap.objs.size (.tup [x,y]),B6 (s:=s) (h':=h3) (t':=s.toks) I up hf (Th _) #[B9,[u,v],.cons ru (.cons Kn .nil),?_],Y,#[_,x,y,Y,hn,Y,λzs vR=>by rw[I.qY vR hqx];exact hx,λzs vR=>by rw[I.qY vR hqy];exact hy],
   #[z3,mW.extBut _ _ D.TIz (hk _ _ D.TIz D.TITO D.TIi1 D.TIi2 gR),#[_,_,mW.extBut _ _ D.TOz t1],l1.at λo q=>mW.extBut _ _ D.i1z q,l2.at λo q=>mW.extBut _ _ D.i2z q],λb hb=>?_]
  .have:=mW.extBut _ _ neT pT;exact#[_,this,Y,_,Y]
  .rw[az]
   .exact (hf b hb).1
   .have aL:b=z∨b=TI∨b=TO∨b=i1∨b=i2:=by simpa using hb
    rcases aL with rfl|rfl|rfl|rfl|rfl
    .exact UZ neT
    .exact T6 (Tg gR)
    .exact T6 (Tg iL)
    .obtain⟨o,q,m⟩:=h1;exact T6 (Tg q)
    .obtain⟨o,q,m⟩:=h2;exact T6 (Tg q)
 done:=by
  intro X hP hw hK hc i pins s G H E I hf st hg;subst hP hw hK;obtain⟨xs,ys,hqx,hqy,hx⟩:=hg;obtain⟨hz,gR,⟨ta,tb,iL⟩,h1,h2⟩:=st;obtain⟨af,rv,p1,m⟩:=I.list hqx;obtain⟨jts,rZ,p2,m⟩:=I.list hqy;have l1:=rv.length;have l2:=rZ.length;refine wpAny_pyNext_zip_end (I.ok.hd hc) D hz gR iL h1 h2 p1.isList p2.isList (hx.imp (λq=>by simp;lia) λq=>by simp;lia) λh' hk=>#[Y,B5 (t':=s.toks) I (λb o hb q=>?_) hf]
  have aL:b≠z/\b≠TI/\b≠TO/\b≠i1/\b≠i2:=by simpa using hb
  exact hk b o aL.1 aL.2.2.1 aL.2.2.2.1 aL.2.2.2.2 q
 self:=λm i s Q E st h=>aaD st.1 h
def vS(K:SV)(ta:TA):TI:=λG H R=>ta G H λvs H1=>∃ a b,vs=[.ref a,.ref b]/\(∃ xs,ak K H1 a xs)/\(∃ ys,ak K H1 b ys)/\R (o4 K a b) H1
theorem Cc{X:Cx}{es:List Vh}{k:Nat}{tp:Pos}{e f:Vh}{ta:TA}{p pos:Pos}(hg:Gl X "zip")(hm:X.mg "zip" = J)(ha:PA X [e,f] ta)(hs:TZ [e,f] X.env=(false,eval e X.env)::TZ [f] X.env:=by rfl)(gI:TZ [f] X.env=[(false,eval f X.env)]:=by rfl):PI X (.Tuple es k tp) (.Call (.Name "zip" p) [e,f] [] pos) (vS X.K ta):=by
 intro pins s G H R I h;refine Call_ (oh I hg hm Jv (Vz (ax (ha pos pins s G H _ I h) λus s1 ⟨vs,H1,I1,r1,q1⟩=>?_) hs (by rw[gI];rfl)));obtain⟨a,b,rfl,⟨xs,hqx⟩,⟨ys,hqy⟩,q⟩:=q1;obtain⟨u,v,rfl,ru,Kq⟩:=vals2 r1;cases ru;cases Kq;obtain⟨af,rv,p1,y⟩:=I1.list hqx;obtain⟨jts,rZ,p2,y⟩:=I1.list hqy;have a1:a<s1.heap.objs.size:=by obtain⟨y,e,y⟩:=p1.isList;exact Tg e
 have a2:b<s1.heap.objs.size:=by obtain⟨y,e,y⟩:=p2.isList;exact Tg e
 refine call_zip_2 p1.isList p2.isList λh' hz gR iL h1 h2 hsz hk=>?_;refine aaD hz ?_;have I2:Inv X pins G H1 { s1 with heap:=h' }:=I1.kept (t':=s1.toks) hk;refine#[s1.heap.objs.size+4,[s1.heap.objs.size+4,s1.heap.objs.size+2,s1.heap.objs.size+3,s1.heap.objs.size,s1.heap.objs.size+1],_,_,H1,Y,I2,Km a b _ _ _ _ _ (zipApart_new a1 a2),#[hz,gR,#[_,_,iL],h1,h2],λc hc=>?_,q];have dA:s1.heap.objs.size<=c:=by simp only[Tz,Xt,or_false] at hc;walk_at "o"
 exact I1.jM dA (I1.ah.fresh dA)
section
variable{X:Cx}
theorem Cd:∀ {bs:List Bool} {af:List SY},Vals (bs.map V.bl) af->af=bs.map W5
 | [],af,r=>by cases r;rfl
 | b::bs,af,r=>by
  cases r with
  | cons r1 r2 =>
   cases r1;rw[Cd r2];rfl
theorem Kr(hc:X.calm=true):gF X (.builtin "all") (λxs H Q=>∃ (a:Td) (bs:List Bool),xs=[.ref a]/\ak X.K H a (bs.map V.bl)/\Q (.bl (bs.all id)) H):=by
 intro pins s G H xs us Q I r h;obtain⟨a,bs,rfl,hS,q⟩:=h;obtain⟨u,rfl,ru⟩:=vals1 r;cases ru;obtain⟨af,rv,hp,y⟩:=I.list hS;have e:=Cd rv;subst e;have hl:=hp.isList;have aQ:a<s.heap.objs.size:=by obtain⟨y,e,y⟩:=hl;exact Tg e
 refine call_all_walk (Z8 hl ?_);refine#[s.heap.objs.size,[s.heap.objs.size,a],[s.heap.objs.size],(bs.map W5).toArray.size,_,_,λi=>(bs[i]?).getD true,Y,Walks.list (A:=X.A.in1) (I.ok.hd hc) _ a (T6 aQ) (bs.map W5).toArray,#[#[_,TV _ Y,Y,Y],hl.push _],λi v s' Q' E' hP hQ=>?_,λh' tk hk=>?_]
 .have r6:(bs[i]?).map W5=O v:=by simpa using hP
  cases e:bs[i]? with
  | none=>rw[e] at r6;cases r6
  | some b =>
   rw[e] at r6;cases r6;simp only[e,Option.getD_some] at hQ;exact UW hQ
 .have e:((List.range (bs.map W5).toArray.size).all λi=>(bs[i]?).getD true)=bs.all id:=by rw[To,Tn];exact PyProof.Rows.LSm.range_all bs
  rw[e];exact#[.bl (bs.all id),H,I.kept (λb o q=>hk b o (λz=>by
   have:b=s.heap.objs.size:=by simpa using z
   rw[this] at q;exact U8 _ (Tg q)) (Ta _ q)),Y,q]
end
section
variable{K:SV}{g:TG}{tb:TS}{D:Ends}{G:L2.St}{H:Hp}{a b:Td}{xs ys:List V}
theorem Ks{ta:TA}:i4 (B8 K ta) g tb D G H=ta G H (λvs H1=>∃ a xs,vs=[.ref a]/\ak K H1 a xs/\FJ (B7 K a xs.length) g tb D G H1):=rfl
theorem Kt{ta:TA}:i4 (vQ K ta) g tb D G H=ta G H (λvs H1=>∃ a,vs=[.ref a]/\(∃ xs,ak K H1 a xs)/\FJ (rY K a) g tb D G H1):=rfl
theorem Ku{ta:TA}:i4 (vS K ta) g tb D G H=ta G H (λvs H1=>∃ a b,vs=[.ref a,.ref b]/\(∃ xs,ak K H1 a xs)/\(∃ ys,ak K H1 b ys)/\FJ (o4 K a b) g tb D G H1):=rfl
theorem Ce(Pv:Nat->L2.St->Hp->Prop)(h0:Pv 0 G H)(hl:∀ i G H,i<=xs.length->Pv i G H->ak K H a xs)
 (hs:∀ i x G H p,xs[i]?=O x->Pv i G H->H p=J->g (.ref p) G (upd H p (.tup [.int i,x])) λσ2 H2=>tb { D with nx:=Pv (i+1),ct:=Pv (i+1),bk:=D.nx } σ2 H2) (hd:∀ G H,Pv xs.length G H->D.nx G H):FJ (rY K a) g tb D G H:=by
 refine#[λi m G H=>m=xs.length-i/\i<=xs.length/\Pv i G H,#[_,Y,Uq _,h0],?_];rintro i m G H ⟨rfl,hi,p⟩;have q:=hl i G H hi p;by_cases aQ:i<xs.length
 .refine .inr #[#[xs,xs[i],q,by simp[aQ]],Pv (i+1),λσ' H' p'=>#[xs.length-(i+1),by lia,Y,aQ,p'],λv H' y=>?_];obtain⟨w,x,rfl,hw,rfl,y⟩:=y;exact hs i x G _ w (y xs q) p hw
 .have e:i=xs.length:=by lia
  subst e;exact .inl #[#[xs,q,Th _],hd G H p]
theorem Kv(Pv:Nat->L2.St->Hp->Prop)(h0:Pv 0 G H)(hl:∀ i G H,Pv i G H->ak K H a xs/\ak K H b ys)
 (hs:∀ i x y G H p,xs[i]?=O x->ys[i]?=O y->Pv i G H->H p=J->g (.ref p) G (upd H p (.tup [x,y])) λσ2 H2=>tb { D with nx:=Pv (i+1),ct:=Pv (i+1),bk:=D.nx } σ2 H2) (hd:∀ G H,Pv (min xs.length ys.length) G H->D.nx G H):FJ (o4 K a b) g tb D G H:=by
 refine#[λi m G H=>m=min xs.length ys.length-i/\i<=min xs.length ys.length/\Pv i G H,#[_,Y,Uq _,h0],?_];rintro i m G H ⟨rfl,hi,p⟩;have q:=hl i G H p;by_cases aQ:i<min xs.length ys.length
 .have h1:i<xs.length:=by lia
  have h2:i<ys.length:=by lia
  refine .inr #[#[xs,ys,xs[i],ys[i],q.1,q.2,by simp[h1],by simp[h2]],Pv (i+1),λσ' H' p'=>#[min xs.length ys.length-(i+1),by lia,Y,aQ,p'],λv H' y=>?_];obtain⟨w,x,y',rfl,hw,rfl,e1,e2⟩:=y;exact hs i x y' G _ w (e1 xs q.1) (e2 ys q.2) p hw
 .have e:i=min xs.length ys.length:=by lia
  refine .inl #[#[xs,ys,q.1,q.2,by lia],hd G H (e ▸ p)]
end
theorem r9{K:SV}{i j:Nat}{p:Td}{x y:V}{G:L2.St}{H:Hp}{Q:L2.St->Hp->Prop}(h:aC K H p [x,y])(q:Q ((G.set i (O x)).set j (O y)) H):q9 K 2 (jK (fu i) (jK (fu j) oj)) (.ref p) G H Q :=
 #[p,[x,y],Y,h,Y,x,[y],Y,y,[],Y,Y,q]
section
variable{X:Cx}{K:SV}
def mX(Ok:Hp->Prop)(ρ:L2.St)(tt:TT)(te:TE):List (V × V)->List V->Hp->(List V->Hp->Prop)->Prop
 | [],zs,H,Q=>Ok H/\Q zs H
 | (x,y)::r,zs,H,Q=>Ok H/\∀ p,H p=J->tt (O x::O y::ρ) (upd H p (.tup [x,y])) λb H1=>if b=true then te (O x::O y::ρ) H1 λz H2=>mX Ok ρ tt te r (zs++[z]) H2 Q else mX Ok ρ tt te r zs H1 Q
theorem Kw{os:List (Option V)}(h:os.length=2):∃ a b,os=[a,b]:=by
 match os,h with
 | [a,b],_=>exact#[a,b,Y]
variable{ρ:L2.St}{tt:TT}{te:TE}{H:Hp}{Q:VK}{a b:Td}{xs ys:List V}
theorem Kx(hn:(xs.zip ys).length<=TB)(h:mX (λH=>ak K H a xs/\ak K H b ys) ρ tt te (xs.zip ys) [] H λzs H'=>∀ l,H' l=J->Q (.ref l) (upd H' l (.lst zs))) :
 jS 2 (o4 K a b) (q9 K 2 (jK (fu 0) (jK (fu 1) oj))) ρ tt te H Q:=by
 have hlen:(xs.zip ys).length=min xs.length ys.length:=aaZ;refine#[λi m zs H=>m=(xs.zip ys).length-i/\i<=(xs.zip ys).length/\zs.length<=i/\mX (λH=>ak K H a xs/\ak K H b ys) ρ tt te ((xs.zip ys).drop i) zs H λzs H'=>∀ l,H' l=J->Q (.ref l) (upd H' l (.lst zs)),#[_,Y,Uq _,Th _,h],?_];rintro i m zs H ⟨rfl,hi,hy,g⟩;by_cases aQ:i<(xs.zip ys).length
 .have e:=Ut aQ;have h1:i<xs.length:=by lia
  have h2:i<ys.length:=by lia
  have e2:(xs.zip ys)[i]=(xs[i],ys[i]):=List.getElem_zip;rw[e,e2] at g;obtain⟨⟨g0,se⟩,g1⟩:=g;have l1:∀ y:V,(zs++[y]).length<=i+1:=λy=>by rw[T8,UJ];lia
  have l2:zs.length<=i+1:=by lia
  refine .inr #[#[xs,ys,xs[i],ys[i],g0,se,by simp[h1],by simp[h2]],by lia,λws H'=>ws.length<=i+1/\mX (λH=>ak K H a xs/\ak K H b ys) ρ tt te ((xs.zip ys).drop (i+1)) ws H' λzs H'=>∀ l,H' l=J->Q (.ref l) (upd H' l (.lst zs)),λzs H' q=>#[_,by lia,Y,aQ,q.1,q.2],λos gK v H' y=>?_];obtain⟨p,x,y',rfl,hp,rfl,ex,ey⟩:=y;have ex:=ex xs g0;have ey:=ey ys se;rw[Tj h1] at ex;rw[Tj h2] at ey;cases ex;cases ey;obtain⟨o1,o2,rfl⟩:=Kw gK;refine r9 (aC.of ao) #[[O xs[i],O ys[i]],Y,Y,?_];simp only[l1,l2,true_and];exact g1 p hp
 .have e:i=(xs.zip ys).length:=by lia
  subst e;rw[aaC] at g;obtain⟨⟨g0,se⟩,g1⟩:=g;exact .inl #[#[xs,ys,g0,se,by lia],by lia,g1]
theorem vT{Ok:Hp->Prop}{p:V × V->Bool}{f:V × V->V}{Q':List V->Hp->Prop}:∀ {rows:List (V × V)} {H:Hp} {zs:List V},(∀ H',aj H H'->Ok H')->(∀ r∈rows,∀ H',aj H H'->∀ Q,Q (p r) H'->tt (O r.1::O r.2::ρ) H' Q) ->
 (∀ r∈rows,p r=true->∀ H',aj H H'->∀ Q,Q (f r) H'->te (O r.1::O r.2::ρ) H' Q)->(∀ H',aj H H'->Q' (zs++(rows.filter p).map f) H')->mX Ok ρ tt te rows zs H Q'
 | [],H,zs,cX,_,_,q=>#[cX H (aj.refl H),by simpa using q H (aj.refl H)]
 | (x,y)::r,H,zs,cX,ht,he,q=>by
  refine#[cX H (aj.refl H),λw hw=>?_];have s:=Gz.av (o:=.tup [x,y]) hw;refine ht _ (.head _) _ s _ ?_;by_cases hb:p (x,y)=true
  .rw[if_pos hb];refine he _ (.head _) hb _ s _ (vT (λH' s'=>cX H' (s.trans s')) (λz hz H' s'=>ht z (.tail _ hz) H' (s.trans s')) (λz hz hb H' s'=>he z (.tail _ hz) hb H' (s.trans s')) λH' s'=>?_);have:=q H' (s.trans s');rw[US,if_pos hb] at this;simpa using this
  .rw[if_neg hb];refine vT (λH' s'=>cX H' (s.trans s')) (λz hz H' s'=>ht z (.tail _ hz) H' (s.trans s')) (λz hz hb H' s'=>he z (.tail _ hz) hb H' (s.trans s')) λH' s'=>?_;have:=q H' (s.trans s');rw[US,if_neg hb] at this;exact this
end
mutual
inductive Dat(K:SV)(H:Hp):V->Wu->Prop where
 | non:Dat K H .non .none
 | bl (b:Bool):Dat K H (.bl b) (.bool b)
 | int (i:Int):Dat K H (.int i) (.int i)
 | str (x:Str):Dat K H (.str x) (.str x)
 | tup {a:Td} {xs:List V} {ds:List Wu} (h:aC K H a xs) (r:jV K H xs ds):Dat K H (.ref a) (.tuple ds)
 | lst {a:Td} {xs:List V} {ds:List Wu} (h:ak K H a xs) (r:jV K H xs ds):Dat K H (.ref a) (.list ds)
inductive jV(K:SV)(H:Hp):List V->List Wu->Prop where
 | nil:jV K H [] []
 | cons {x:V} {d:Wu} {xs:List V} {ds:List Wu} (h:Dat K H x d) (r:jV K H xs ds):jV K H (x::xs) (d::ds)
end
section
variable{X:Cx}{pins:List (Td × Obj)}{G:L2.St}{H:Hp}{s:SX}
theorem Dat.reads(I:Inv X pins G H s)(d:Wu){v:V}{u:SY}(h:Dat X.K H v d):RelV v u->∃ as,Reads s.heap u d as:=by
 refine Dat.rec (motive_1:=λv d y=>∀ u,RelV v u->∃ as,Reads s.heap u d as) (motive_2:=λvs ds y=>∀ us,Vals vs us->∃ as,ReadsAll s.heap us ds as) ?_ ?_ ?_ ?_ ?_ ?_ ?_ ?_ h u
 .intro u r;cases r;exact#[_,.none]
 .intro b u r;cases r;exact#[_,.bool b]
 .rintro i u ⟨t,rfl⟩;exact#[_,.int i t]
 .rintro x u ⟨t,rfl⟩;exact#[_,.str x t]
 .intro a xs ds h q ih u r;cases r;obtain⟨af,rv,⟨o,ho,hc,n,hd⟩,y⟩:=I.tuple h;obtain⟨as,ra⟩:=ih af rv;exact#[_,.tuple ho hc hd (by simpa using ra)]
 .intro a xs ds h q ih u r;cases r;obtain⟨af,rv,⟨o,n,ho,hc,y,hd⟩,y⟩:=I.list h;obtain⟨as,ra⟩:=ih af rv;exact#[_,.list ho hc hd (by simpa using ra)]
 .intro us r;cases r;exact#[_,.nil]
 .intro x d xs ds h q vU vV us r;cases r with
  | cons r1 r2 =>
   obtain⟨as,ra⟩:=vU _ r1;obtain⟨bs,rb⟩:=vV _ r2;exact#[_,.cons ra rb]
def o5(K:SV)(neg:Bool):R2:=λx y H Q=>∃ d e,Dat K H x d/\Dat K H y e/\d.canLay0=true/\e.canLay0=true/\d.depth<=60/\Q (.bl (if neg=true then !Wj d e else Wj d e)) H
theorem Cf(hu:X.A.units+64<Zz):aT X (Vd .Eq) (o5 X.K false):=by intro pins s G H x y v u Q I rx ry h;obtain⟨d,e,dx,dy,c1,c2,dd,q⟩:=h;obtain⟨as,ra⟩:=Dat.reads I d dx rx;obtain⟨bs,rb⟩:=Dat.reads I e dy ry;exact SeqAt.compareEq_reads ra rb c1 c2 (by lia) #[.bl _,H,I,Y,q]
theorem Ky(hu:X.A.units+64<Zz):aT X (Vd .NotEq) (o5 X.K true):=by intro pins s G H x y v u Q I rx ry h;obtain⟨d,e,dx,dy,c1,c2,dd,q⟩:=h;obtain⟨as,ra⟩:=Dat.reads I d dx rx;obtain⟨bs,rb⟩:=Dat.reads I e dy ry;exact SeqAt.compareNe_reads ra rb c1 c2 (by lia) #[.bl _,H,I,Y,q]
end
noncomputable def Cg(lo st:Int)(n:Nat):It:=#[λi y=>i<n,λi H x H'=>H'=H/\x = .int (lo+(i:Int) * st),λi y=>n<=i]
noncomputable def Ci(lo hi st:Int):Nat:=(Builtin.Range.rangeSize lo hi st).toNat
def Cj(ta:TA):TI:=λG H R=>ta G H λvs H1=>∃ i j c:Int,vs=[.int i,.int j,.int c]/\(-1000000<=i/\i<=1000000/\-1000000<=j/\j<=1000000/\-1000000<=c/\c<=1000000/\c≠0)/\R (Cg i c (Ci i j c)) H1
section
variable{g:TG}{tb:TS}{D:Ends}{G:L2.St}{H:Hp}{lo st:Int}{n:Nat}
theorem Kz{ta:TA}:i4 (Al ta) g tb D G H=ta G H (λvs H1=>∃ i j:Int,vs=[.int i,.int j]/\(-(2 ^ 62)<=i/\i<2 ^ 62/\-(2 ^ 62)<=j/\j<2 ^ 62)/\FJ (gB i (j-i).toNat) g tb D G H1):=rfl
theorem KA{ta:TA}:i4 (Cj ta) g tb D G H=ta G H (λvs H1=>∃ i j c:Int,vs=[.int i,.int j,.int c]/\(-1000000<=i/\i<=1000000/\-1000000<=j/\j<=1000000/\-1000000<=c/\c<=1000000/\c≠0)/\FJ (Cg i c (Ci i j c)) g tb D G H1):=rfl
end
theorem KC(xs:List V)(b:Nat):gL xs J (O (b:Int))=xs.take b:=by
 unfold gL;rw[HT.AQ,HT.AO,TM,Ub];by_cases h:b<=xs.length
 .rw[XQ h]
 .rw[aaE (by lia),aaF,Uu (by lia)]
theorem Ck(xs:List V)(a:Nat):gL xs (O (a:Int)) J=xs.drop a:=by
 unfold gL;rw[HT.AQ,HT.AO];by_cases h:a<=xs.length
 .rw[XQ h,Uu (by rw[UA];lia)]
 .rw[aaE (by lia),Ve (Th _),Ve (by lia)];simp
theorem Cn{K:SV}{H:Hp}:∀ (ns:List Int),jV K H (ns.map V.int) (ns.map PyData.int)
 | []=>.nil
 | n::ns=>.cons (.int n) (Cn ns)
mutual
noncomputable def fe:Nat->Wu->Bool
 | _,.none=>true
 | _,.bool _=>true
 | _,.int _=>true
 | n+1,.tuple ds=>jW n ds
 | n+1,.list ds=>jW n ds
 | _,_=>false
noncomputable def jW:Nat->List Wu->Bool
 | _,[]=>true
 | n,d::ds=>fe n d && jW n ds
end
mutual
theorem vW:∀ (d:Wu) {n:Nat},fe n d=true->Wj d d=true/\d.canLay0=true/\d.depth<=n
 | .none,n,_=>#[Y,Y,Uq _]
 | .bool b,n,_=>#[by simp[Wj],Y,Uq _]
 | .int i,n,_=>#[by simp[Wj],Y,Uq _]
 | .str x,0,h=>by simp[fe] at h
 | .str x,n+1,h=>by simp[fe] at h
 | .dict x,0,h=>by simp[fe] at h
 | .dict x,n+1,h=>by simp[fe] at h
 | .tuple ds,0,h=>by simp[fe] at h
 | .list ds,0,h=>by simp[fe] at h
 | .tuple ds,n+1,h=>by obtain⟨a,b,c⟩:=vX ds (n:=n) (by simpa [fe] using h);exact#[by simpa only [Wj] using a,by simpa only [Xi] using b,by simp only[PyData.depth];lia]
 | .list ds,n+1,h=>by obtain⟨a,b,c⟩:=vX ds (n:=n) (by simpa [fe] using h);exact#[by simpa only [Wj] using a,by simpa only [Xi] using b,by simp only[PyData.depth];lia]
theorem vX:∀ (ds:List Wu) {n:Nat},jW n ds=true->YK ds ds=true/\Xc ds=true/\XR ds<=n
 | [],n,_=>#[Y,Y,Uq _]
 | d::ds,n,h=>by
  have h':fe n d=true/\jW n ds=true:=by simpa [jW] using h
  obtain⟨a,b,c⟩:=vW d h'.1;obtain⟨a',b',c'⟩:=vX ds h'.2;exact#[by simp only[YK,a,a',YL],by simp only[Xc,b,b',YL],by simp only[XR];lia]
end
theorem KG{K:SV}{H:Hp}{x y:V}{d:Wu}{n:Nat}{neg:Bool}{Q:VK}(hx:Dat K H x d)(hy:Dat K H y d)(hp:fe n d=true)(hn:n<=60)(q:Q (.bl (!neg)) H):o5 K neg x y H Q:=by obtain⟨a,b,c⟩:=vW d hp;refine#[d,d,hx,hy,b,b,TL c hn,?_];rw[a];cases neg<;>exact q
end Gz
namespace Gz
noncomputable def ll(ns:List Int)(k:Int):Int:=ns.getD k.toNat 0
noncomputable def ff(x:Int):Int:=if x<0 then -x else x
theorem Co(x:Int):0<=ff x:=by unfold ff;split<;>lia
theorem Cp(x:Int):ff x=(x.natAbs:Int):=by unfold ff;split<;>lia
noncomputable def aW(a b:Int):Int:=((YM a.natAbs b.natAbs:Nat):Int)
theorem KH{a b:Int}(ha:0<=a)(hb:0<b):aW b (a % b)=aW a b:=by
 unfold aW;have e:(a % b).natAbs=a.natAbs % b.natAbs:=by rw[Int.natAbs_emod_of_nonneg ha]
 rw[e,abU b.natAbs,<- Nat.gcd_rec,abU]
theorem gcd_zero{a:Int}(ha:0<=a):aW a 0=a:=by unfold aW;rw[Int.natAbs_zero,Nat.gcd_zero_right];lia
theorem KI(a b:Int):aW (ff a) (ff b)=aW a b:=by unfold aW;rw[Cp,Cp,Z0,Z0]
theorem KJ{a b:Int}(h:a≠0∨b≠0):0<aW a b:=by
 unfold aW;have:0<YM a.natAbs b.natAbs:=by
  rcases h with h|h
  .exact Nat.gcd_pos_of_pos_left _ (by lia)
  .exact Yx _ (by lia)
 lia
theorem gcd_dvd_left(a b:Int):aW a b ∣ a:=by unfold aW;exact Z1.mpr (Nat.gcd_dvd_left _ _)
theorem gcd_dvd_right(a b:Int):aW a b ∣ b:=by unfold aW;exact Z1.mpr (Nat.gcd_dvd_right _ _)
theorem Cq(t:Int){b:Int}(hb:0<b):t <= -(-t / b) * b/\(-(-t / b)-1) * b<t:=by have h1:=Int.emod_add_mul_ediv (-t) b;have h2:=VD (-t) (show b≠0 by lia);have h3:=VL (-t) hb;rw[Int.sub_mul,ab3,Zf (-t / b) b];lia
noncomputable def sg(t b:Int):Int:=if b<0 then -aW t b else aW t b
noncomputable def rt(t b:Int):Int:=t.fdiv (sg t b)
noncomputable def rb(t b:Int):Int:=b.fdiv (sg t b)
theorem KL{t b:Int}(hb:b≠0):∃ g x y:Int,0<g/\g=aW t b/\t=g * x/\b=g * y/\aW x y=1:=by
 have hg:=KJ (a:=t) (b:=b) (.inr hb);obtain⟨x,hx⟩:=gcd_dvd_left t b;obtain⟨y,hy⟩:=gcd_dvd_right t b;refine#[aW t b,x,y,hg,Y,hx,hy,?_];have e:YM t.natAbs b.natAbs=(aW t b).natAbs * YM x.natAbs y.natAbs:=by
  have h1:t.natAbs=(aW t b).natAbs * x.natAbs:=by rw[<- Xg,<- hx]
  have h2:b.natAbs=(aW t b).natAbs * y.natAbs:=by rw[<- Xg,<- hy]
  rw[<- Nat.gcd_mul_left,<- h1,<- h2]
 have e2:(aW t b).natAbs=YM t.natAbs b.natAbs:=by unfold aW;lia
 rw[e2] at e;have hp:0<YM t.natAbs b.natAbs:=Yx _ (by lia);have e3:YM x.natAbs y.natAbs=1:=by
  have:YM t.natAbs b.natAbs * 1=YM t.natAbs b.natAbs * YM x.natAbs y.natAbs:=by rw[Nat.mul_one];exact e
  exact (Nat.eq_of_mul_eq_mul_left hp this).symm
 unfold aW;rw[e3];rfl
theorem KO{t b:Int}(hb:b≠0):∃ g x y:Int,0<g/\t=g * x/\b=g * y/\aW x y=1/\sg t b≠0/\(sg t b).natAbs=g.natAbs/\((0<y/\rt t b=x/\rb t b=y)∨(y<0/\rt t b = -x/\rb t b = -y)):=by
 obtain⟨g,x,y,hg,e,ht,aL,h1⟩:=KL (t:=t) hb;refine#[g,x,y,hg,ht,aL,h1,?_,?_,?_]
 .unfold sg;rw[<- e];split<;>lia
 .unfold sg;rw[<- e];split<;>lia
 .by_cases hy:y<0
  .right;have aQ:b<0:=by rw[aL];exact Int.mul_neg_of_pos_of_neg hg hy
   have es:sg t b = -g:=by unfold sg;rw[if_pos aQ,<- e]
   refine#[hy,?_,?_]
   .unfold rt;rw[es,ht,show g * x=(-g) * (-x) by rw[aa0]];exact VW _ (by lia)
   .unfold rb;rw[es,aL,show g * y=(-g) * (-y) by rw[aa0]];exact VW _ (by lia)
  .left;have Sr:y≠0:=by rintro rfl;rw[Int.mul_zero] at aL;exact hb aL
   have KP:¬ b<0:=by have:0<g * y:=ZO hg (by lia);lia
   have es:sg t b=g:=by unfold sg;rw[if_neg KP,<- e]
   refine#[by lia,?_,?_]
   .unfold rt;rw[es,ht];exact VW _ (by lia)
   .unfold rb;rw[es,aL];exact VW _ (by lia)
theorem o6{g x:Int}(hg:0<g):x.natAbs<=(g * x).natAbs:=by rw[Xg];exact Nat.le_mul_of_pos_left _ (by lia)
theorem KQ(x y:Int):aW (-x) (-y)=aW x y:=by unfold aW;rw[abj,abj]
theorem lq{t b:Int}(hb:b≠0):1<=rb t b/\rt t b * b=t * rb t b/\aW (rt t b) (rb t b)=1/\(rt t b).natAbs<=t.natAbs/\(rb t b).natAbs<=b.natAbs/\sg t b≠0/\(sg t b).natAbs<=b.natAbs:=by
 obtain⟨g,x,y,hg,ht,aL,h1,s0,s1,h|h⟩:=KO (t:=t) hb
 .obtain⟨hy,e1,e2⟩:=h;rw[e1,e2,s1];have n1:=o6 (x:=x) hg;have n2:=o6 (x:=y) hg;have n3:=o6 (x:=g) hy;rw[Zf] at n3;rw[<- ht] at n1;rw[<- aL] at n2 n3;refine#[by lia,?_,h1,n1,n2,s0,n3];rw[aL,ht,abG,aaj]
 .obtain⟨hy,e1,e2⟩:=h;rw[e1,e2,s1];have n1:=o6 (x:=x) hg;have n2:=o6 (x:=y) hg;have n3:g.natAbs<=(g * y).natAbs:=by rw[Xg];exact Nat.le_mul_of_pos_right _ (by lia)
  rw[<- ht] at n1;rw[<- aL] at n2 n3;refine#[by lia,?_,by rw[KQ];exact h1,by lia,by lia,s0,n3];rw[aL,ht,ab3,Int.mul_neg,abG,aaj]
end Gz
namespace Gz
open PySem PySem.Spec PyProof.Rows L2
def aq{α:Type}(R:V->α->Prop):List V->List α->Prop
 | [],[]=>True
 | x::xs,a::as=>R x a/\aq R xs as
 | _,_=>False
section
variable{α:Type}{R R':V->α->Prop}
theorem aq.len:∀ {xs:List V} {as:List α},aq R xs as->xs.length=as.length
 | [],[],_=>rfl
 | _::_,_::_,h=>by simp[aq.len h.2]
 | [],_::_,h=>h.elim
 | _::_,[],h=>h.elim
theorem aq.imp(f:∀ x a,R x a->R' x a):∀ {xs:List V} {as:List α},aq R xs as->aq R' xs as
 | [],[],_=>trivial
 | _::_,_::_,h=>#[f _ _ h.1,aq.imp f h.2]
 | [],_::_,h=>h.elim
 | _::_,[],h=>h.elim
theorem aq.get:∀ {xs:List V} {as:List α},aq R xs as->∀ {i:Nat} {x:V},xs[i]?=O x->∃ a,as[i]?=O a/\R x a
 | [],[],_,i,x,e=>by simp at e
 | _::_,a::_,h,0,x,e=>by simp at e;subst e;exact#[a,by simp,h.1]
 | _::_,_::_,h,i+1,x,e=>by simp only[Vs] at e ⊢;exact aq.get h.2 e
 | [],_::_,h,_,_,_=>h.elim
 | _::_,[],h,_,_,_=>h.elim
theorem aq.at:∀ {xs:List V} {as:List α},aq R xs as->∀ {i:Nat} {a:α},as[i]?=O a->∃ x,xs[i]?=O x/\R x a
 | [],[],_,i,x,e=>by simp at e
 | x::_,_::_,h,0,a,e=>by simp at e;subst e;exact#[x,by simp,h.1]
 | _::_,_::_,h,i+1,a,e=>by simp only[Vs] at e ⊢;exact aq.at h.2 e
 | [],_::_,h,_,_,_=>h.elim
 | _::_,[],h,_,_,_=>h.elim
theorem aq.app:∀ {xs ys:List V} {as bs:List α},aq R xs as->aq R ys bs->aq R (xs++ys) (as++bs)
 | [],_,[],_,_,h=>h
 | _::_,_,_::_,_,h,h'=>#[h.1,aq.app h.2 h']
 | [],_,_::_,_,h,_=>h.elim
 | _::_,_,[],_,h,_=>h.elim
theorem aq.snoc{xs:List V}{as:List α}{x:V}{a:α}(h:aq R xs as)(h':R x a):aq R (xs++[x]) (as++[a]):=h.app #[h',trivial]
theorem aq.take:∀ {xs:List V} {as:List α} (n:Nat),aq R xs as->aq R (xs.take n) (as.take n)
 | [],[],n,_=>by simp[aq]
 | _::_,_::_,0,_=>by simp[aq]
 | _::_,_::_,n+1,h=>by simpa [aq] using #[h.1,aq.take n h.2]
 | [],_::_,_,h=>h.elim
 | _::_,[],_,h=>h.elim
theorem aq.kE{lo:Int}(n:Nat):aq (λx (k:Nat)=>x=V.int (lo+k)) ((List.range n).map λk=>V.int (lo+(k:Nat))) (List.range n):=by
 suffices ∀ l:List Nat,aq (λx (k:Nat)=>x=V.int (lo+k)) (l.map λk=>V.int (lo+(k:Nat))) l from this _
 intro l
 induction l with
 | nil=>trivial
 | cons a l ih=>exact#[Y,ih]
end
theorem sf{α:Type}{R:V->α->Prop}{Ok:Hp->Prop}{ρ:L2.St}{tt:TT}{te:TE}{p:α->Bool}{f:α->V}{Q':List V->Hp->Prop}{H:Hp}(cX:Ok H):∀ {xs:List V} {as:List α} {ys:List V},aq R xs as ->
 (∀ x a,a∈as->R x a->∀ Q,Q (p a) H->tt (O x::ρ) H Q)->(∀ x a,a∈as->p a=true->R x a->∀ Q:VK,Q (f a) H->te (O x::ρ) H Q) ->
 Q' (ys++(as.filter p).map f) H->jU Ok ρ tt te xs ys H Q'
 | [],[],ys,_,_,_,q=>#[cX,by simpa using q]
 | x::xs,a::as,ys,h,ht,he,q=>by
  refine#[cX,ht x a (.head _) h.1 _ ?_];by_cases hb:p a=true
  .rw[if_pos hb];refine he x a (.head _) hb h.1 _ (sf cX h.2 (λx a ha=>ht x a (.tail _ ha)) (λx a ha=>he x a (.tail _ ha)) ?_);rw[US,if_pos hb] at q;simpa using q
  .rw[if_neg hb];refine sf cX h.2 (λx a ha=>ht x a (.tail _ ha)) (λx a ha=>he x a (.tail _ ha)) ?_;rw[US,if_neg hb] at q;exact q
 | [],_::_,_,h,_,_,_=>h.elim
 | _::_,[],_,h,_,_,_=>h.elim
theorem filter_tt{α:Type}(l:List α):l.filter (λy=>true)=l:=WN.mpr λy y=>rfl
abbrev P2:=Int × Int
def bQ(H:Hp)(v:V)(p:P2):Prop:=∃ a,v = .ref a/\H a=O (.tup [.int p.1,.int p.2])
theorem bQ.same{H H':Hp}{v:V}{p:P2}(h:bQ H v p)(s:aj H H'):bQ H' v p:=let ⟨a,e,q⟩:=h;#[a,e,s _ _ q]
theorem bQ.new{H:Hp}{a:Td}{x y:Int}:bQ (upd H a (.tup [.int x,.int y])) (.ref a) (x,y):=#[a,Y,ao]
theorem bQ.put{H:Hp}{v:V}{p:P2}{r:Td}{ys zs:List V}(h:bQ H v p)(hr:H r=O (.lst ys)):bQ (upd H r (.lst zs)) v p:=by obtain⟨a,e,q⟩:=h;refine#[a,e,?_];rw[az (mx q hr (λz=>nomatch z))];exact q
abbrev iM(H:Hp):List V->List P2->Prop:=aq (bQ H)
theorem iM.same{H H':Hp}{xs:List V}{ps:List P2}(h:iM H xs ps)(s:aj H H'):iM H' xs ps:=aq.imp (λy y r=>r.same s) h
theorem iM.put{H:Hp}{xs:List V}{ps:List P2}{r:Td}{ys zs:List V}(h:iM H xs ps)(hr:H r=O (.lst ys)):iM (upd H r (.lst zs)) xs ps:=aq.imp (λy y x=>x.put hr) h
noncomputable def gT(ns:List Int):Bool:=(ns.zip (ns.drop 1)).all λr=>decide (r.1<r.2)
theorem KR{ns:List Int}:gT ns=true ↔ ∀ i,i+1<ns.length->ns.getD i 0<ns.getD (i+1) 0:=by
 unfold gT;rw[Vc];constructor
 .intro h i hi;have e:(ns.zip (ns.drop 1))[i]?=O (ns.getD i 0,ns.getD (i+1) 0):=by rw[Yl,Ye,S8,S8,Tj (show i<ns.length by lia),show 1+i=i+1 by lia,Tj hi];exact#[Y,Y]
  simpa using h _ (Ui e)
 .intro h r hr;obtain⟨i,hi⟩:=List.mem_iff_getElem?.mp hr;rw[Yl,Ye] at hi;have h1:=(Ug.mp hi.2).1;have:=h i (by lia);rw[S8,S8,hi.1,show i+1=1+i by lia,hi.2] at this;simpa using this
noncomputable def ltV:V × V->V
 | (.int a,.int b)=>.bl (decide (a<b))
 | _=>.non
theorem Cr(ns ms:List Int):(ns.map V.int).zip (ms.map V.int)=(ns.zip ms).map λr=>(V.int r.1,V.int r.2):=by rw[List.zip_map];rfl
noncomputable def aE(ps:List P2)(i:Nat):P2:=ps.getD i (0,0)
theorem KS{x:Int}(h:x.natAbs<2 ^ 300):Bd 300 x:=h
def BQ(ps:List P2):Prop:=∀ p∈ps,Bd 250 p.1/\Bd 250 p.2
def jX(s e:P2)(p q t b:Int):Prop:=(t-s.2 * b) * (e.1-s.1) * q=(p-s.1 * q) * (e.2-s.2) * b
theorem KU{y1 v y2 x1 x2 m1 m2 s1 s2 q dr p r dv:Int}(h1:s1 * dr=dv * s2)(h2:m1 * q=(p-r * q) * m2)(h3:x1 * (m2 * s2)=m1 * s1 * x2)(h4:y1 * x2=(v * x2+x1) * y2)(n1:x2≠0)(n2:m2≠0)(n3:s2≠0) :
 (y1-v * y2) * dr * q=(p-r * q) * dv * y2:=by
 have h:((y1-v * y2) * dr * q-(p-r * q) * dv * y2) * (x2 * m2 * s2)=0:=by grind
 have n:x2 * m2 * s2≠0:=XS (XS n1 n2) n3;have:=(aa1.mp h).resolve_right n;lia
def jj(ks:List P2)(p q:Int)(i:Nat):Prop:=i+1<ks.length/\(aE ks i).1 * q<=p/\p<=(aE ks (i+1)).1 * q
def hit(ks:List P2)(p q:Int):Prop:=∃ i,jj ks p q i
structure Led(ks:List P2)(p q t b:Int):Prop where
 pos:1<=b
 low:aW t b=1
 on:∀ i,jj ks p q i->jX (aE ks i) (aE ks (i+1)) p q t b
def mY(ks:List P2):Prop:=2<=ks.length/\gT (ks.map (·.1))=true/\gT (ks.map (·.2))=true
theorem Cs{ks:List P2}{i:Nat}(h:i<ks.length):(ks.map (·.1)).getD i 0=(aE ks i).1:=by unfold aE;rw[S8,Vv,S8,Tj h];rfl
theorem si{ks:List P2}(h:gT (ks.map (·.1))=true):∀ {i j:Nat},i<j->j<ks.length->(aE ks i).1<(aE ks j).1:=by
 rw[KR] at h;have st:∀ i,i+1<ks.length->(aE ks i).1<(aE ks (i+1)).1:=λi hi=>by
  have:=h i (by rw[Tn];exact hi)
  rwa [Cs (by lia),Cs hi] at this
 intro i j bT hj
 induction j with
 | zero=>lia
 | succ j ih =>
  by_cases e:i=j
  .subst e;exact st i hj
  .exact Int.lt_trans (ih (by lia) (by lia)) (st j hj)
theorem KW{a b c:P2}{p q t w:Int}(hq:0<q)(iJ:a.1<b.1)(h1:p=b.1 * q)(h:jX a b p q t w):jX b c p q t w:=by
 unfold jX at *;subst h1;have e:(t-b.2 * w) * ((b.1-a.1) * q)=0:=by grind
 have n:(b.1-a.1) * q≠0:=XS (by lia) (by lia);have:=(aa1.mp e).resolve_right n;have e2:t-b.2 * w=0:=this;rw[e2];grind
theorem Led.of{ks:List P2}{p q t b:Int}{i:Nat}(hr:gT (ks.map (·.1))=true)(hq:0<q)(h1:1<=b)(h2:aW t b=1)(hi:jj ks p q i)(first:∀ j,j<i->¬ jj ks p q j)(h:jX (aE ks i) (aE ks (i+1)) p q t b):Led ks p q t b:=by
 refine#[h1,h2,λj hj=>?_];by_cases e:j=i
 .rw[e];exact h
 by_cases lt:j<i
 .exact absurd hj (first j lt)
 by_cases e1:j=i+1
 .subst e1;have l1:=si hr (i:=i) (j:=i+1) (by lia) (by have:=hj.1;lia);exact KW hq l1 (by have:=hi.2.2;have:=hj.2.1;lia) h
 .have l1:=si hr (i:=i+1) (j:=j) (by lia) (by have:=hj.1;lia);have:(aE ks (i+1)).1 * q<(aE ks j).1 * q:=XT l1 hq;have a1:=hi.2.2;have a2:=hj.2.1;lia
def cq(H:Hp)(v:V)(t b:Int):Prop:=∃ a,v = .ref a/\H a=O (.tup [.int t,.int b])
theorem cq.same{H H':Hp}{v:V}{t b:Int}(h:cq H v t b)(s:aj H H'):cq H' v t b:=let ⟨a,e,q⟩:=h;#[a,e,s _ _ q]
theorem cq.p{K:SV}{H:Hp}{v:V}{t b:Int}(h:cq H v t b):eZ K H v t b:=let ⟨a,e,q⟩:=h;#[a,e,aC.of q]
def mZ(C:Td)(H:Hp)(v:V)(ks:List P2):Prop:=∃ x dx l xs,v = .ref x/\H x=O (.ins C dx [("knots",.ref l)])/\H l=O (.lst xs)/\iM H xs ks
theorem mZ.same{C:Td}{H H':Hp}{v:V}{ks:List P2}(h:mZ C H v ks)(s:aj H H'):mZ C H' v ks:=by obtain⟨x,dx,l,xs,e,h1,h2,h3⟩:=h;exact#[x,dx,l,xs,e,s _ _ h1,s _ _ h2,h3.same s]
def SameBut(x:Td)(H H':Hp):Prop:=∀ b o,b≠x->H b=O o->H' b=O o
theorem sj{α β:Type}{R:Hp->V->α->Prop}{R':Hp->V->β->Prop}{Ok:Hp->Prop}{ρ:L2.St}{tt:TT}{te:TE}{f:α->β}{Q':List V->Hp->Prop}(mono:∀ H H' x a,aj H H'->R H x a->R H' x a)(o7:∀ H H' x a,aj H H'->R' H x a->R' H' x a) :
 ∀ {xs:List V} {as:List α} {ys:List V} {bs:List β} {H:Hp},aq (R H) xs as->aq (R' H) ys bs->(∀ H',aj H H'->Ok H')->(∀ x a,a∈as->∀ H',aj H H'->R H' x a->∀ Q,Q true H'->tt (O x::ρ) H' Q) ->
 (∀ x a,a∈as->∀ H',aj H H'->R H' x a->∀ Q:VK,(∀ jh y,aj H' jh->R' jh y (f a)->Q y jh)->te (O x::ρ) H' Q) ->
 (∀ H' zs,aj H H'->aq (R' H') zs (bs++as.map f)->Q' zs H')->jU Ok ρ tt te xs ys H Q'
 | [],[],ys,bs,H,_,hy,cX,_,_,q=>#[cX H (aj.refl H),q H ys (aj.refl H) (by simpa using hy)]
 | x::xs,a::as,ys,bs,H,h,hy,cX,ht,he,q=>by
  refine#[cX H (aj.refl H),ht x a (.head _) H (aj.refl H) h.1 _ ?_];rw[if_pos Y];refine he x a (.head _) H (aj.refl H) h.1 _ λH2 y s2 r2=>?_;refine sj mono o7 (bs:=bs++[f a]) (h.2.imp λx a r=>mono _ _ _ _ s2 r) ((hy.imp λx a r=>o7 _ _ _ _ s2 r).snoc r2) (λH' s'=>cX H' (s2.trans s')) (λx a ha H' s'=>ht x a (.tail _ ha) H' (s2.trans s')) (λx a ha H' s'=>he x a (.tail _ ha) H' (s2.trans s')) λH' zs s' hz=>?_;refine q H' zs (s2.trans s') ?_;rw[TJ]
  rwa [Tf] at hz
 | [],_::_,_,_,_,h,_,_,_,_,_=>h.elim
 | _::_,[],_,_,_,h,_,_,_,_,_=>h.elim
noncomputable def sw(ks:List P2):List P2:=ks.map λp=>(p.2,p.1)
end Gz
namespace Gz
open PySem PySem.W PyProof.Rows
def cY{α:Type}(lt:Nat->Nat->Bool)(n:Nat):KasT α->(α->Prop)->Prop
 | .ret a,P=>P a
 | .ask i j k,P=>i<n/\j<n/\cY lt n (k (lt i j)) P
section
variable{lt:Nat->Nat->Bool}{n:Nat}
theorem m6{α β:Type}{f:α->KasT β}{P:β->Prop}:∀ (t:KasT α),cY lt n t (λa=>cY lt n (f a) P)->cY lt n (t.bind f) P
 | .ret _,h=>h
 | .ask _ _ k,h=>#[h.1,h.2.1,m6 (k _) h.2.2]
theorem Ct{α:Type}{P P':α->Prop}(h:∀ a,P a->P' a):∀ (t:KasT α),cY lt n t P->cY lt n t P'
 | .ret _,q=>h _ q
 | .ask _ _ k,q=>#[q.1,q.2.1,Ct h (k _) q.2.2]
theorem Cu{α:Type}{cmp:Nat->Nat->(Bool->SX->Prop)->SX->Prop}{Ok:SX->Prop}(hc:∀ i j C s,i<n->j<n->Ok s->(∀ s',Ok s'->C (lt i j) s')->cmp i j C s){P:α->Prop}{Q:α->SX->Prop}(hQ:∀ a s,Ok s->P a->Q a s) :
 ∀ (t:KasT α) (s:SX),Ok s->cY lt n t P->t.kasWp cmp Q s
 | .ret a,s,o,h=>hQ a s o h
 | .ask i j k,s,o,h=>hc i j _ s h.1 h.2.1 o λs' o'=>Cu hc hQ (k (lt i j)) s' o' h.2.2
structure Ord(lt:Nat->Nat->Bool):Prop where
 asym:∀ {a b},lt a b=true->lt b a=false
 tr:∀ {a b c},lt b a=false->lt c b=false->lt c a=false
theorem Ord.rfl'(O9q:Ord lt)(a:Nat):lt a a=false:=by
 cases h:lt a a with
 | false=>rfl
 | true=>rw[O9q.asym h] at h;cases h
def cJ(lt:Nat->Nat->Bool)(p:Array Nat)(k:Nat):Prop:=∀ i j,i<=j->j<k->lt (p.getD j 0) (p.getD i 0)=false
def dR(lt:Nat->Nat->Bool)(p:Array Nat)(k:Nat):Prop:=∀ i j,i<=j->j<k->lt (p.getD i 0) (p.getD j 0)=false
def bC(n:Nat)(p:Array Nat):Prop:=p.toList.Perm (List.range n)
theorem bC.size{p:Array Nat}(h:bC n p):p.size=n:=by have:=h.length_eq;simpa using this
theorem bC.below{p:Array Nat}(h:bC n p){i:Nat}(hi:i<n):p.getD i 0<n:=by
 have hs:=h.size;have ji:i<p.size:=by lia
 have e:p.getD i 0=p[i]:=by simp[Array.getD,ji]
 rw[e];have m:p[i]∈p.toList:=by simp
 simpa using h.mem_iff.mp m
theorem bC.of{p q:Array Nat}(h:bC n p)(hq:q.Perm p):bC n q:=(WC.mp hq).trans h
theorem cJ.one(O9q:Ord lt){p:Array Nat}:cJ lt p 1:=λi j bT hj=>by
 have:i=j:=by lia
 subst this;exact O9q.rfl' _
theorem dR.one(O9q:Ord lt){p:Array Nat}:dR lt p 1:=λi j bT hj=>by
 have:i=j:=by lia
 subst this;exact O9q.rfl' _
theorem cJ.succ(O9q:Ord lt){p:Array Nat}{k:Nat}(h:cJ lt p k)(hk:1<=k)(hn:lt (p.getD k 0) (p.getD (k-1) 0)=false):cJ lt p (k+1):=λi j bT hj=>by
 by_cases e:j=k
 .subst e;by_cases ei:i=j
  .subst ei;exact O9q.rfl' _
  .exact O9q.tr (h i (j-1) (by lia) (by lia)) hn
 .exact h i j bT (by lia)
theorem dR.succ(O9q:Ord lt){p:Array Nat}{k:Nat}(h:dR lt p k)(hk:1<=k)(hn:lt (p.getD (k-1) 0) (p.getD k 0)=false):dR lt p (k+1):=λi j bT hj=>by
 by_cases e:j=k
 .subst e;by_cases ei:i=j
  .subst ei;exact O9q.rfl' _
  .exact O9q.tr hn (h i (j-1) (by lia) (by lia))
 .exact h i j bT (by lia)
theorem iN{p:Array Nat}{i j:Nat}(hj:j<=p.size)(k:Nat):(kas_rev p i j).getD k 0=if i<=k/\k<j then p.getD (i+j-1-k) 0 else p.getD k 0:=by simp only[UK];unfold kas_rev;rw[getElem?_mirror_all hj];split<;>rfl
theorem o8{p:Array Nat}{k l:Nat}(hk:k<p.size)(hl:l<=k)(i:Nat):(bubble p k (k-l)).getD i 0=if i=l then p.getD k 0 else if l<i/\i<=k then p.getD (i-1) 0 else p.getD i 0:=by
 simp only[UK];rw[getElem?_bubble hk _ (by lia)];have e:k-(k-l)=l:=by lia
 rw[e];split
 .rfl
 .split<;>rfl
theorem Cv(O9q:Ord lt){p:Array Nat}(hp:bC n p){P:Nat->Prop}:∀ (f a:Nat),1<=a->a+f<=n->cJ lt p a->(∀ m,a<=m->m<=a+f->cJ lt p m->P m)->cY lt n (kas_asc p f a) P
 | 0,a,h1,h2,hs,q=>q a (Th _) (by lia) hs
 | f+1,a,h1,h2,hs,q=>by
  refine#[hp.below (by lia),hp.below (by lia),?_];cases c:lt (p.getD a 0) (p.getD (a-1) 0) with
  | true =>
   simp only[↓reduceIte];exact q a (Th _) (by lia) hs
  | false =>
   simp only[T9,↓reduceIte];exact Cv O9q hp f (a+1) (by lia) (by lia) (hs.succ O9q h1 c) λm m1 m2=>q m (by lia) (by lia)
theorem dR.rev{p:Array Nat}{k i:Nat}(h:dR lt p k)(hk:k<=p.size)(hi:i<=k)(he:∀ j,i<=j->j<k->lt (p.getD (k-1) 0) (p.getD j 0)=false)(O9q:Ord lt):dR lt (kas_rev p i k) k:=λa b iJ hb=>by
 rw[iN hk,iN hk];have eqv:∀ x y,i<=x->x<k->i<=y->y<k->lt (p.getD x 0) (p.getD y 0)=false:=λx y x1 x2 y1 y2=>O9q.tr (he y y1 y2) (h x (k-1) (by lia) (by lia));split
 .split
  .exact eqv _ _ (by lia) (by lia) (by lia) (by lia)
  .exfalso;lia
 .split
  .exact h _ _ (by lia) (by lia)
  .exact h _ _ iJ hb
theorem sm(O9q:Ord lt){P:Array Nat × Nat × Nat->Prop}:∀ (f:Nat) (p:Array Nat) (k q:Nat),bC n p->1<=k->k+f<=n->q+1<=k->dR lt p k->(∀ j,k-(q+1)<=j->j<k->lt (p.getD (k-1) 0) (p.getD j 0)=false) ->
 (∀ p' k' q',bC n p'->k<=k'->k'<=k+f->q' + 1<=k'->dR lt p' k'->(∀ j,k' - (q' + 1)<=j->j<k'->lt (p'.getD (k' - 1) 0) (p'.getD j 0)=false)->P (p',k',q'))->cY lt n (kas_desc f p k q) P
 | 0,p,k,q,hp,h1,h2,h3,hd,he,fin=>fin p k q hp (Th _) (by lia) h3 hd he
 | f+1,p,k,q,hp,h1,h2,h3,hd,he,fin=>by
  have hs:=hp.size;have one:∀ (p':Array Nat),∀ j,(k+1)-(0+1)<=j->j<k+1->lt (p'.getD (k+1-1) 0) (p'.getD j 0)=false:=λp' j j1 j2=>by
   have:j=k:=by lia
   subst this;exact O9q.rfl' _
  refine#[hp.below (by lia),hp.below (by lia),?_];cases c:lt (p.getD k 0) (p.getD (k-1) 0) with
  | true =>
   simp only[↓reduceIte];have c':=O9q.asym c;by_cases hq:q > 0
   .rw[if_pos hq];have cp:bC n (kas_rev p (k-(q+1)) k):=hp.of (YN _ _ _ _);have og:dR lt (kas_rev p (k-(q+1)) k) k:=hd.rev (by lia) (by lia) he O9q;refine sm O9q f _ (k+1) 0 cp (by lia) (by lia) (by lia) (og.succ O9q h1 ?_) (one _) λp2 k2 q2 a1 a2 a3 a4 a5 a6=>fin p2 k2 q2 a1 (by lia) (by lia) a4 a5 a6;rw[iN (by lia),iN (by lia),if_pos (by lia),if_neg (by lia)];have e1:k-(q+1)+k-1-(k-1)=k-(q+1):=by lia
    rw[e1];exact O9q.tr c' (hd _ (k-1) (by lia) (by lia))
   .rw[if_neg hq];exact sm O9q f p (k+1) 0 hp (by lia) (by lia) (by lia) (hd.succ O9q h1 c') (one _) λp2 k2 q2 a1 a2 a3 a4 a5 a6=>fin p2 k2 q2 a1 (by lia) (by lia) a4 a5 a6
  | false =>
   simp only[T9,↓reduceIte];refine#[hp.below (by lia),hp.below (by lia),?_];cases d:lt (p.getD (k-1) 0) (p.getD k 0) with
   | true =>
    simp only[↓reduceIte];exact fin p k q hp (Th _) (by lia) h3 hd he
   | false =>
    simp only[T9,↓reduceIte];refine sm O9q f p (k+1) (q+1) hp (by lia) (by lia) (by lia) (hd.succ O9q h1 d) (λj j1 j2=>?_) λp2 k2 q2 a1 a2 a3 a4 a5 a6=>fin p2 k2 q2 a1 (by lia) (by lia) a4 a5 a6;have ek:k+1-1=k:=by lia
    rw[ek];by_cases ej:j=k
    .subst ej;exact O9q.rfl' _
    .exact O9q.tr (he j (by lia) (by lia)) c
theorem dR.whole{p:Array Nat}{k:Nat}(h:dR lt p k)(hk:k<=p.size):cJ lt (kas_rev p 0 k) k:=λa b iJ hb=>by rw[iN hk,iN hk,if_pos (by lia),if_pos (by lia)];exact h _ _ (by lia) (by lia)
theorem Cw(O9q:Ord lt){P:Nat × Array Nat->Prop}{p:Array Nat}{k:Nat}(hp:bC n p)(h1:1<=k)(h2:k<=n)(hd:dR lt p k)(fin:∀ m p',bC n p'->1<=m->m<=n->cJ lt p' m->P (m,p')):cY lt n (kas_tail3 k n p) P:=by have cp:bC n (kas_rev p 0 k):=hp.of (YN _ _ _ _);have hs:=hp.size;unfold kas_tail3;refine m6 _ (Cv O9q cp (n-k) k h1 (by lia) (hd.whole (by lia)) λm m1 m2 ms=>?_);exact fin m _ cp (by lia) (by lia) ms
theorem Cy(O9q:Ord lt){P:Nat × Array Nat->Prop}{p:Array Nat}{k:Nat}(hp:bC n p)(h1:1<=k)(h2:k+1<=n)(hd:dR lt p (k+1))(fin:∀ m p',bC n p'->1<=m->m<=n->cJ lt p' m->P (m,p')):cY lt n (kas_descPart k n p) P:=by
 unfold kas_descPart;refine m6 _ (sm O9q (n-(k+1)) p (k+1) 0 hp (by lia) (by lia) (by lia) hd (λj j1 j2=>?_) λp2 k2 q2 a1 a2 a3 a4 a5 a6=>?_)
 .have:j=k:=by lia
  subst this;exact O9q.rfl' _
 .have hs:=a1.size;dsimp only;by_cases hq:q2 > 0
  .rw[if_pos hq];exact Cw O9q (a1.of (YN _ _ _ _)) (by lia) (by lia) (a5.rev (by lia) (by lia) a6 O9q) fin
  .rw[if_neg hq];exact Cw O9q a1 (by lia) (by lia) a5 fin
theorem KY(O9q:Ord lt){P:Nat × Array Nat->Prop}{p:Array Nat}(hp:bC n p)(hn:1<=n)(fin:∀ m p',bC n p'->1<=m->m<=n->cJ lt p' m->P (m,p')):cY lt n (kas_count n p) P:=by
 have hs:=hp.size;unfold kas_count;have key:cY lt n (kas_asc p (n-1) 1) (λm=>1<=m/\m<=n/\cJ lt p m/\(m<n->lt (p.getD m 0) (p.getD (m-1) 0)=true)):=by
  have gen:∀ (f a:Nat),1<=a->a+f=n->cJ lt p a->cY lt n (kas_asc p f a) (λm=>1<=m/\m<=n/\cJ lt p m/\(m<n->lt (p.getD m 0) (p.getD (m-1) 0)=true)):=by
   intro f
   induction f with
   | zero=>intro a h1 h2 hs;exact#[h1,by lia,hs,λz=>absurd z (by lia)]
   | succ f ih =>
    intro a h1 h2 hs;refine#[hp.below (by lia),hp.below (by lia),?_];cases c:lt (p.getD a 0) (p.getD (a-1) 0) with
    | true =>
     simp only[↓reduceIte];exact#[h1,by lia,hs,λv=>c]
    | false =>
     simp only[T9,↓reduceIte];exact ih (a+1) (by lia) (by lia) (hs.succ O9q h1 c)
  exact gen (n-1) 1 (Th _) (by lia) (cJ.one O9q)
 refine m6 _ (Ct (λm hm=>?_) _ key);obtain⟨m1,m2,ms,mc⟩:=hm;by_cases e:(m == n)=true
 .rw[if_pos e];exact fin m p hp m1 m2 ms
 .rw[if_neg e];have KZ:m<n:=by
   have:m≠n:=by simpa using e
   lia
  have mc:=mc KZ;by_cases h2:m > 1
  .rw[if_pos h2];refine#[hp.below (by lia),hp.below (by lia),?_];cases c:lt (p.getD 0 0) (p.getD (m-1) 0) with
   | true =>
    simp only[↓reduceIte];exact fin m p hp m1 m2 ms
   | false =>
    simp only[T9,↓reduceIte];have eqv:∀ x y,x<m->y<m->lt (p.getD x 0) (p.getD y 0)=false:=λx y hx hy =>
     O9q.tr (ms y (m-1) (by lia) (by lia)) (O9q.tr c (ms 0 x (by lia) hx))
    have cp:bC n (kas_rev p 0 m):=hp.of (YN _ _ _ _);refine Cy O9q cp m1 (by lia) (λi j bT hj=>?_) fin;rw[iN (by lia),iN (by lia)];by_cases ej:j=m
    .subst ej;rw[if_neg (show ¬ (0<=j/\j<j) by lia)];split
     .exact O9q.tr (O9q.asym mc) (eqv _ _ (by lia) (by lia))
     .have:i=j:=by lia
      subst this;exact O9q.rfl' _
    .rw[if_pos (by lia),if_pos (by lia)];exact eqv _ _ (by lia) (by lia)
  .rw[if_neg h2];have e1:m=1:=by lia
   subst e1;exact Cy O9q hp (Th _) (by lia) ((dR.one O9q).succ O9q (Th _) (O9q.asym mc)) fin
theorem vY{p:Array Nat}{k:Nat}{P:Nat->Prop}(O9q:Ord lt)(hp:bC n p)(hk:k<n)(hs:cJ lt p k)(fin:∀ m,m<=k->(∀ i,i<m->lt (p.getD k 0) (p.getD i 0)=false)->(∀ i,m<=i->i<k->lt (p.getD i 0) (p.getD k 0)=false)->P m) :
 ∀ (f l r:Nat),r-l<=f->l<=r->r<=k->(∀ i,i<l->lt (p.getD k 0) (p.getD i 0)=false)->(∀ i,r<=i->i<k->lt (p.getD i 0) (p.getD k 0)=false)->cY lt n (kas_place p k f l r) P
 | 0,l,r,h1,h2,h3,a,b=>by
  have:l=r:=by lia
  subst this;exact fin l h3 a b
 | f+1,l,r,h1,h2,h3,a,b=>by
  unfold kas_place;by_cases ly:l ≥ r
  .rw[if_pos ly];have:l=r:=by lia
   subst this;exact fin l h3 a b
  .rw[if_neg ly];refine#[hp.below hk,hp.below (by lia),?_];cases c:lt (p.getD k 0) (p.getD ((l+r) / 2) 0) with
   | true =>
    simp only[↓reduceIte];refine vY O9q hp hk hs fin f l ((l+r) / 2) (by lia) (by lia) (by lia) a λi i1 i2=>?_;exact O9q.tr (O9q.asym c) (hs _ _ i1 i2)
   | false =>
    simp only[T9,↓reduceIte];refine vY O9q hp hk hs fin f ((l+r) / 2+1) r (by lia) (by lia) h3 (λi i1=>?_) b;exact O9q.tr (hs i ((l+r) / 2) (by lia) (by lia)) c
theorem Cz(O9q:Ord lt){P:Array Nat->Prop}(fin:∀ p,bC n p->cJ lt p n->P p):∀ (f:Nat) (p:Array Nat) (k:Nat),k+f=n->bC n p->cJ lt p k->cY lt n (kas_bin f p k) P
 | 0,p,k,h,hp,hs=>fin p hp (by rw[<- h];exact hs)
 | f+1,p,k,h,hp,hs=>by
  have sz:=hp.size;unfold kas_bin;refine m6 _ (vY O9q hp (by lia) hs (λm m1 ma mb=>?_) k 0 k (by lia) (by lia) (Th _) (λy z=>absurd z (by lia)) λy z1 z2=>absurd z2 (by lia));refine Cz O9q fin f _ (k+1) (by lia) (hp.of (bubble_perm _ _ _)) λi j bT hj=>?_;rw[o8 (by lia) m1,o8 (by lia) m1];by_cases ei:i=m
  .rw[if_pos ei];by_cases ej:j=m
   .rw[if_pos ej];exact O9q.rfl' _
   .rw[if_neg ej,if_pos (by lia)];exact mb _ (by lia) (by lia)
  .rw[if_neg ei];by_cases ej:j=m
   .rw[if_pos ej,if_neg (by lia)];exact ma _ (by lia)
   .rw[if_neg ej];split
    .split
     .exact hs _ _ (by lia) (by lia)
     .exact hs _ _ (by lia) (by lia)
    .split
     .exfalso;lia
     .exact hs _ _ (by lia) (by lia)
theorem CA(O9q:Ord lt)(hn:1<=n):cY lt n (kas_sort n) (λp=>bC n p/\cJ lt p n):=by
 unfold kas_sort;have h0:bC n (Vj (List.range n)):=by unfold bC;simp
 refine m6 _ (KY O9q h0 hn λm p hp m1 m2 ms=>?_);dsimp only;by_cases h:m<n
 .rw[if_pos h];have e:max m 1=m:=by lia
  rw[e];exact Cz O9q (λp hp hs=>#[hp,hs]) (n-m) p m (by lia) hp ms
 .rw[if_neg h];have e:m=n:=by lia
  subst e;exact#[hp,ms]
noncomputable def sr{α:Type}(lt:Nat->Nat->Bool):KasT α->α
 | .ret a=>a
 | .ask i j k=>sr lt (k (lt i j))
theorem CB{α:Type}{P:α->Prop}:∀ (t:KasT α),cY lt n t P->P (sr lt t)
 | .ret _,h=>h
 | .ask i j k,h=>CB (k (lt i j)) h.2.2
theorem CC{α:Type}{P:α->Prop}:∀ (t:KasT α),cY lt n t P->cY lt n t (λa=>a=sr lt t)
 | .ret _,_=>rfl
 | .ask i j k,h=>#[h.1,h.2.1,CC (k (lt i j)) h.2.2]
noncomputable def eF(lt:Nat->Nat->Bool)(n:Nat):Array Nat:=if n<2 then Vj (List.range n) else sr lt (kas_sort n)
theorem su(O9q:Ord lt):bC n (eF lt n)/\cJ lt (eF lt n) n:=by
 unfold eF;split
 .rename_i h;refine#[by unfold bC;simp,λi j bT hj=>?_];have:i=j:=by lia
  subst this;exact O9q.rfl' _
 .rename_i h;exact CB _ (CA O9q (by lia))
end
end Gz
namespace Gz
open PySem PySem.Spec PyProof.Rows L2
local macro_rules|`(tactic|walk_at "o")=>`(tactic|((try simp only [PySem.Addr] at *); lia))
theorem CD:∀ {a b:List Int},HT.lexLt a b=true->HT.lexLt b a=false
 | [],[],h=>by cases h
 | [],_::_,_=>rfl
 | _::_,[],h=>by cases h
 | x::a,y::b,h=>by
  rw[HT.oH] at h ⊢;by_cases e:x=y
  .subst e;rw[if_pos Y] at h ⊢;exact CD h
  .rw[if_neg e] at h;rw[if_neg (UZ e)];have:x<y:=by simpa using h
   simpa using (by walk_at "o" : ¬ y<x)
theorem CF:∀ {a b c:List Int},HT.lexLt b a=false->HT.lexLt c b=false->HT.lexLt c a=false
 | [],[],[],_,_=>rfl
 | [],[],_::_,_,_=>rfl
 | [],_::_,[],_,h=>by cases h
 | [],_::_,_::_,_,_=>rfl
 | _::_,[],_,h,_=>by cases h
 | _::_,_::_,[],_,h=>by cases h
 | x::a,y::b,z::c,h1,h2=>by
  rw[HT.oH] at h1 h2 ⊢;by_cases e1:y=x
  .subst e1;rw[if_pos Y] at h1;by_cases e2:z=y
   .subst e2;rw[if_pos Y] at h2 ⊢;exact CF h1 h2
   .rw[if_neg e2] at h2 ⊢;exact h2
  .rw[if_neg e1] at h1;have jY:¬ y<x:=by simpa using h1
   by_cases e2:z=y
   .subst e2;rw[if_neg e1];exact h1
   .rw[if_neg e2] at h2;have gU:¬ z<y:=by simpa using h2
    rw[if_neg (by walk_at "o")];simpa using (by walk_at "o" : ¬ z<x)
section
variable{prog:Tv}{w:Ul}{A:Uk}{E:SY->SX->Prop}{s:SX}
theorem K0{a b:Int}{t u:Tok}{Q:Bool->SX->Prop}(h:Q (a == b) s):TX (model prog w) A (eqBool (.int a t) (.int b u)) Q E s:=SeqAt.EqAt.int_int a t b u prog w E Q h
theorem CG{b fin:Bool}{Q:Bool->SX->Prop}:∀ {ns ms:List Int} {us ws:List SY} {i:Nat},YG us ns->YG ws ms->fin=decide (ns.length<ms.length)->Q (HT.lexLt ns ms) s->PySem.W.KatLex prog w A b fin Q (us.zip ws) i s:=by
 intro ns
 induction ns with
 | nil =>
  intro ms us ws i r q e h;cases r;cases q with
  | nil=>subst e;exact h
  | cons=>subst e;exact h
 | cons n ns ih =>
  intro ms us ws i r q e h;cases r with
  | cons _ t r =>
   cases q with
   | nil=>subst e;exact h
   | cons m t' q =>
    rw[List.zip_cons_cons];refine PySem.W.kat_cons (K0 (PySem.W.kat_go (λhh=>PySem.W.kat_yes ?_) λhh=>PySem.W.kat_no ?_))
    .have e1:n=m:=by simpa using hh
     subst e1;rw[HT.oH,if_pos Y] at h;exact ih r q (by subst e;simp) h
    .have e1:n≠m:=by simpa using hh
     rw[HT.oH,if_neg e1] at h;cases (b && i == 0) with
     | true=>exact oneLt_int h
     | false=>exact PySem.W.kat_one _ _ (lt_int h)
end
def CH(sp:Sp):List V->List V->Hp->(List V->Hp->Prop)->Prop
 | [],ks,H,Q=>Q ks H
 | x::r,ks,H,Q=>sp [x] H (λk H1=>CH sp r (ks++[k]) H1 Q) E0
def dG(K:SV)(H:Hp):List V->List (List Int)->Prop
 | [],[]=>True
 | k::ks,n::ns=>(∃ p,k = .ref p/\aC K H p (n.map V.int)/\n≠[])/\dG K H ks ns
 | _,_=>False
theorem dG.len{K:SV}{H:Hp}:∀ {ks:List V} {ns:List (List Int)},dG K H ks ns->ks.length=ns.length
 | [],[],_=>rfl
 | _::_,_::_,h=>by simp[dG.len h.2]
 | [],_::_,h=>h.elim
 | _::_,[],h=>h.elim
theorem dG.get{K:SV}{H:Hp}:∀ {ks:List V} {ns:List (List Int)} {i:Nat} {k:V},dG K H ks ns->ks[i]?=O k->∃ p,k = .ref p/\aC K H p ((ns.getD i []).map V.int)
 | [],[],_,_,_,e=>by simp at e
 | k::_,n::_,0,_,h,e=>by simp at e;subst e;obtain⟨⟨p,a,b,y⟩,y⟩:=h;exact#[p,a,b]
 | _::_,_::_,i+1,_,h,e=>by have:=dG.get (i:=i) h.2 (by simpa using e);simpa using this
 | [],_::_,_,_,h,_=>h.elim
 | _::_,[],_,_,h,_=>h.elim
section
variable{X:Cx}{pins:List (Td × Obj)}{G:L2.St}{H:Hp}{s:SX}
theorem dG.b9(I:Inv X pins G H s):∀ {ks:List V} {ns:List (List Int)} {us:List SY},dG X.K H ks ns->Vals ks us->∃ fs,aa2 s.heap us fs/\fs.length=us.length/\∀ v∈fs,∃ i t,v = .int i t
 | [],[],_,_,.nil=>#[[],trivial,Y,λy z=>(nomatch z)]
 | k::ks,n::ns,_,h,.cons r rs=>by
  obtain⟨⟨p,rfl,hp,hn⟩,h⟩:=h;cases r;obtain⟨fs,a,b,c⟩:=dG.b9 I h rs;obtain⟨af,rv,⟨o,ho,hc,m,hd⟩,y⟩:=I.tuple hp;cases n with
  | nil=>exact absurd Y hn
  | cons z zs =>
   cases rv with
   | cons r1 r2 =>
    obtain⟨t,rfl⟩:=r1;refine#[.int z t::fs,PySem.W.KatTups.cons ho hc hd (by simp) a,by simp[b],λv hv=>?_];rcases Tz.mp hv with rfl|hv
    .exact#[_,_,Y]
    .exact c v hv
 | [],_::_,_,h,_=>h.elim
 | _::_,[],_,h,_=>h.elim
noncomputable def bD(kis:List (List Int))(i j:Nat):Bool:=HT.lexLt (kis.getD i []) (kis.getD j [])
theorem iO(kis:List (List Int)):Ord (bD kis):=#[λh=>CD h,λh1 h2=>CF h1 h2]
noncomputable def lz{α:Type}(kis:List (List Int))(d:α)(as:List α):List α:=(eF (bD kis) as.length).toList.map λi=>as.getD i d
end
section
variable{X:Cx}{pins:List (Td × Obj)}{G:L2.St}{H:Hp}{s:SX}{CX:cU}{k:Nat}{fa a:Td}{fd:Vg}{y:Str}{sp:Sp}{xs:List V}{Q:VK}
def K1(K:SV)(sp:Sp)(x:V)(H1:Hp)(Q:VK):Prop:=∃ (a:Td) (xs:List V),x = .ref a/\ak K H1 a xs/\xs.length<64/\CH sp xs [] H1 λks H2=>∃ kis,dG K H2 ks kis/\∀ l,H2 l=J->Q (.ref l) (upd H2 l (.lst (lz kis .non xs)))
def K2(K:SV)(sp:Sp)(te:TE):TE:=λG H Q=>te G H λx H1=>K1 K sp x H1 Q
end
abbrev En:=Option Int
noncomputable def ev:En->V
 | none=>.non
 | some i=>.int i
theorem K3:ev J = .non:=rfl
theorem K5(i:Int):ev (O i) = .int i:=rfl
noncomputable def gb:En->En->Bool
 | some x,O y=>decide (y<x)
 | _,_=>false
def aO(H:Hp)(v:V)(a b:En):Prop:=∃ p,v = .ref p/\H p=O (.tup [ev a,ev b])
theorem aO.same{H H1:Hp}{v:V}{a b:En}(h:aO H v a b)(s:aj H H1):aO H1 v a b:=by obtain⟨p,e,h⟩:=h;exact#[p,e,s _ _ h]
theorem aO.new{H:Hp}{p:Td}{a b:En}:aO (upd H p (.tup [ev a,ev b])) (.ref p) a b:=#[p,Y,ao]
noncomputable def hold(a b:En)(n:Int):Bool:=!gb a (O n) && !gb (O n) b
noncomputable def vZ:En->Int->En
 | some x,k=>O (x-k)
 | none,_=>J
noncomputable def v3:En->Int->En
 | some x,k=>O (x+k)
 | none,_=>J
end Gz
namespace Gz
open L2
abbrev S2:=En × En
noncomputable def hs(s:S2)(n:Int):Bool:=hold s.1 s.2 n
def CI(s:S2):Prop:=gb s.1 s.2=false
def m7(a b:En):Prop:=a=J ∨ ∃ x y,a=O x/\b=O y/\x<=y
theorem m7.refl(a:En):m7 a a:=by
 rcases a with y|x
 .exact .inl rfl
 .exact .inr #[x,x,Y,Y,Wv _]
theorem m7.trans{a b c:En}(h:m7 a b)(h':m7 b c):m7 a c:=by
 rcases h with rfl|⟨x,y,rfl,rfl,h1⟩
 .exact .inl rfl
 .rcases h' with h'|⟨x',y',e,rfl,h2⟩
  .cases h'
  .cases e;exact .inr #[_,_,Y,Y,by lia]
def m8(p q:S2):Prop:=∃ h l,p.2=O h/\q.1=O l/\h+2<=l
def Apart:List S2->Prop
 | x::y::r=>m8 x y/\Apart (y::r)
 | _=>True
theorem Apart.get:∀ {l:List S2} {k:Nat} {p q:S2},Apart l->l[k]?=O p->l[k+1]?=O q->m8 p q
 | [],_,_,_,_,e,_=>by simp at e
 | [_],_,_,_,_,_,e=>by simp at e
 | x::y::r,0,p,q,h,e,e'=>by simp at e e';subst e e';exact h.1
 | x::y::r,k+1,p,q,h,e,e'=>Apart.get (l:=y::r) (k:=k) h.2 (by simpa using e) (by simpa using e')
def m9(a b:En):Prop:=b=J ∨ ∃ x y,a=O x/\b=O y/\x<=y
theorem m9.refl(a:En):m9 a a:=by
 rcases a with y|x
 .exact .inl rfl
 .exact .inr #[x,x,Y,Y,Wv _]
theorem m9.trans{a b c:En}(h:m9 a b)(h':m9 b c):m9 a c:=by
 rcases h' with rfl|⟨x',y',rfl,rfl,h2⟩
 .exact .inl rfl
 .rcases h with h|⟨x,y,rfl,e,h1⟩
  .cases h
  .cases e;exact .inr #[_,_,Y,Y,by lia]
open PySem in
def cz(H:Hp):List V->List S2->Prop
 | [],[]=>True
 | v::vs,s::ss=>aO H v s.1 s.2/\cz H vs ss
 | _,_=>False
section
variable{H H1:Hp}{K:SV}
theorem aO.put{v:V}{a b:En}{l:ab6}{ys:List V}{o:HO}(h:aO H v a b)(hl:H l=O (.lst ys)):aO (upd H l o) v a b:=by obtain⟨p,e,h⟩:=h;exact#[p,e,by rw[az (mx h hl λz=>nomatch z)];exact h]
theorem cz.put{l:ab6}{ys:List V}{o:HO}(hl:H l=O (.lst ys)):∀ {vs:List V} {ss:List S2},cz H vs ss->cz (upd H l o) vs ss
 | [],[],_=>trivial
 | _::_,_::_,h=>#[h.1.put hl,cz.put hl h.2]
 | [],_::_,h=>h.elim
 | _::_,[],h=>h.elim
theorem cz.len:∀ {vs:List V} {ss:List S2},cz H vs ss->vs.length=ss.length
 | [],[],_=>rfl
 | _::_,_::_,h=>by simp[cz.len h.2]
 | [],_::_,h=>h.elim
 | _::_,[],h=>h.elim
theorem cz.get:∀ {vs:List V} {ss:List S2} {i:Nat} {v:V},cz H vs ss->vs[i]?=O v->∃ s,ss[i]?=O s/\aO H v s.1 s.2
 | [],[],_,_,_,e=>by simp at e
 | _::_,s::_,0,_,h,e=>by simp at e;subst e;exact#[s,Y,h.1]
 | _::_,_::_,i+1,_,h,e=>by obtain⟨s,a,b⟩:=cz.get (i:=i) h.2 (by simpa using e);exact#[s,by simpa using a,b]
 | [],_::_,_,_,h,_=>h.elim
 | _::_,[],_,_,h,_=>h.elim
theorem cz.app:∀ {vs ws:List V} {ss ts:List S2},cz H vs ss->cz H ws ts->cz H (vs++ws) (ss++ts)
 | [],_,[],_,_,h=>h
 | _::_,_,_::_,_,h,h'=>#[h.1,cz.app h.2 h']
 | [],_,_::_,_,h,_=>h.elim
 | _::_,_,[],_,h,_=>h.elim
theorem cz.sort{xs:List V}{as:List S2}{kis:List (List Int)}(h:cz H xs as):cz H (lz kis .non xs) (lz kis (J,J) as):=by
 have hl:=h.len;have hp:=(su (n:=xs.length) (iO kis)).1;unfold lz;rw[<- hl];have gen:∀ l:List Nat,(∀ i∈l,i<xs.length)->cz H (l.map λi=>xs.getD i .non) (l.map λi=>as.getD i (J,J)):=by
  intro l
  induction l with
  | nil=>intro y;exact trivial
  | cons i l ih =>
   intro q;have hi:=q i (.head _);obtain⟨s,es,hs⟩:=h.get (Tj hi);refine#[?_,ih λj hj=>q j (.tail _ hj)];show aO H (xs.getD i .non) (as.getD i (J,J)).1 (as.getD i (J,J)).2;rw[S8,S8,es,Tj hi];exact hs
 exact gen _ λi hi=>by simpa using hp.mem_iff.mp hi
open PySem
noncomputable def sx:En->Wu
 | none=>.none
 | some i=>.int i
noncomputable def sy(s:S2):Wu:=.tuple [sx s.1,sx s.2]
theorem v5(e:En):Dat K H (ev e) (sx e):=by
 rcases e with y|x
 .exact .non
 .exact .int x
theorem aO.dat{v:V}{a b:En}(h:aO H v a b):Dat K H v (sy (a,b)):=by obtain⟨p,rfl,h⟩:=h;exact .tup (aC.of h) (.cons (v5 a) (.cons (v5 b) .nil))
end
end Gz
namespace Gz
open PySem PySem.Spec PyProof.Rows L2
structure CJ(K:SV)(C:Td)(m:Str)(f:Td):Prop where
 ga:Yt K (.ref C) "__getattribute__" = O (O (.builtin "type.__getattribute__"))
 rd:aa3 K C (.type "type")=true
 fd:XU K (.ref C) (.type "type") m=O (.val (.ref f))
 kp:Ux K (.ref f)=true
section
variable{X:Cx}{CX:cU}{k:Nat}{f C:Td}{fd:Vg}{ps:List Str}{ds:List SY}{a9:List V}{sp:Sp}{E:XK}{x m:Str}{p pos apos:Pos}{e:Vh}{es:List Vh}{t:TA}
theorem CK{pl:Sem Bool}(hg:Gl X x)(hm:X.mg x=O (.ref C))(c:CJ X.K C m f)(F:cn X.prog X.w X.K X.mg X.base CX k f fd ps sp)(hr:aZ k X.A)(hb:Binds X.K fd ps ds)(hd:Vals a9 ds)(hx:Passes CX X E)(ha:PA X (e::es) t)
 (d6:(x == ("__debug__" : Str))=false:=by decide) (fy:TZ (e::es) X.env=(false,eval e X.env)::TZ es X.env:=by rfl) (cG:(Wm pos (TZ es X.env)).any (·.1)=false:=by rfl)
 (ht:eval (.Call (.Attribute (.Name x p) m apos) (e::es) [] pos) X.env=(do
   let ov <- eval (.Name x p) X.env
   aaS apos.atName
   let (f,first) <- holding [ov] (Y8 ov m pl)
   abF pos f first (Wm pos (TZ (e::es) X.env)) (Zs pos (W8 [] X.env))):=by rfl) :
 PE X (.Call (.Attribute (.Name x p) m apos) (e::es) [] pos) (mI sp a9 E t):=by
 intro pins s G H Q I h;refine Ws (pl:=pl) (ax (mz (X:=X) (v:=.ref C) hg hm Y d6 pins s G H (λv H1=>v = .ref C/\H1=H) I #[Y,Y]) λu s1 zq=>?_) ht;obtain⟨y,H1,I1,rx,e1,e2⟩:=zq;subst e1 e2;obtain rfl:u=Uo C:=rx;refine PySem.W.method_cls I1.cw c.ga (PySem.W.cls_value I1.cw c.rd c.fd Y ?_);have I2:Inv X pins G H1 { s1 with toks:=s1.toks+1 }:=I1.tok _;refine VI (first:=[]) (h₀:=X.base) I.ok.mod.kin c.kp (ax (ha pos pins _ G H1 _ I2 h) λus s2 ⟨vs,H2,I3,r,q2⟩=>#[I3.cw,?_]) fy cG;exact oB (us:=us) (vs:=vs) F hr hb hd hx I3 r q2
end
section
variable{X:Cx}
def K6(ta:TA):TE:=λG H Q=>ta G H λvs H1=>∃ j:Int,vs=[.int j]/\0<=j/\j<=1000/\∀ r,H1 r=J->Q (.ref r) (upd H1 r (.kE 0 j))
end
section
variable{X:Cx}{CX:cU}{k:Nat}{f:Td}{fd:Vg}{ps:List Str}{ds:List SY}{a9:List V}{sp:Sp}{E:XK}{m:Str}{pos apos:Pos}{o e:Vh}{es:List Vh}{ta:TE}{t:TA}
def CL(K:SV)(m:Str)(f:Td)(sp:Sp)(a9:List V)(E:XK)(ta:TE)(t:TA):TE:=λG H Q=>ta G H λx H1=>∃ a C dx fs,x = .ref a/\H1 a=O (.ins C dx fs)/\bP K C/\Meth K C m f/\fs.lookup m=J /\
 t G H1 λvs H2=>sp (.ref a::(vs++a9)) H2 Q E
theorem K7{pl:Sem Bool}(he:PE X o ta)(F:cn X.prog X.w X.K X.mg X.base CX k f fd ps sp)(hr:aZ k X.A)(hb:Binds X.K fd ps ds)(hd:Vals a9 ds)(hx:Passes CX X E)(ha:PA X (e::es) t)
 (fy:TZ (e::es) X.env=(false,eval e X.env)::TZ es X.env:=by rfl) (cG:(Wm pos (TZ es X.env)).any (·.1)=false:=by rfl)
 (ht:eval (.Call (.Attribute o m apos) (e::es) [] pos) X.env=(do
   let ov <- eval o X.env
   aaS apos.atName
   let (f,first) <- holding [ov] (Y8 ov m pl)
   abF pos f first (Wm pos (TZ (e::es) X.env)) (Zs pos (W8 [] X.env))):=by rfl) :
 PE X (.Call (.Attribute o m apos) (e::es) [] pos) (CL X.K m f sp a9 E ta t):=by
 intro pins s G H Q I h;refine Ws (pl:=pl) (ax (he pins s G H _ I h) λu s1 zq=>?_) ht;obtain⟨x,H1,I1,rx,a,C,dx,fs,ex,ea,c,hm,l,q⟩:=zq;subst ex;obtain rfl:u=Uo a:=rx;refine uS I1 ea c hm l ?_;refine VI (first:=[.ref a]) (h₀:=X.base) I.ok.mod.kin hm.kp (ax (ha pos pins s1 G H1 _ I1 q) λus s2 ⟨vs,H2,I2,r,q2⟩=>#[I2.cw,?_]) fy cG;exact oB (us:=.ref a::us) (vs:=.ref a::vs) F hr hb hd hx I2 (.cons rfl r) q2
end
noncomputable def jZ(t b:Int):Int:=-(-t / b)
theorem K8{t b c d:Int}(hb:0<b)(h1:t<=c * b)(h2:(c-1) * b<t)(h3:t<=d * b)(h4:(d-1) * b<t):c=d:=by
 have a1:(c-1) * b<d * b:=by lia
 have a2:(d-1) * b<c * b:=by lia
 have b1:=WD a1 (aat hb);have b2:=WD a2 (aat hb);lia
theorem K9{t b:Int}(hb:0<b):jZ (rt t b) (rb t b)=jZ t b:=by
 obtain⟨r1,r2,y⟩:=lq (t:=t) (b:=b) (by lia);have p1:=Cq t hb;have p2:=Cq (rt t b) (b:=rb t b) (by lia);show -(-rt t b / rb t b) = -(-t / b);generalize -(-t / b)=c at p1;generalize -(-rt t b / rb t b)=d at p2;refine K8 hb ?_ ?_ p1.1 p1.2
 .refine Int.le_of_mul_le_mul_right (a:=rb t b) ?_ (by lia);have:=Xn p2.1 (aat hb);grind
 .refine WD (a:=rb t b) ?_ (by lia);have:=XT p2.2 hb;grind
abbrev W2:=Option S2
def aH(H:Hp)(v:V):W2->Prop
 | none=>v = .non
 | some s=>aO H v s.1 s.2
theorem aH.same{H H':Hp}{v:V}{w:W2}(h:aH H v w)(s:aj H H'):aH H' v w:=by
 cases w with
 | none=>exact h
 | some a=>exact aO.same h s
theorem aH.put{H:Hp}{v:V}{w:W2}{l:Td}{ys:List V}{o:HO}(h:aH H v w)(hl:H l=O (.lst ys)):aH (upd H l o) v w:=by
 cases w with
 | none=>exact h
 | some a=>exact aO.put h hl
noncomputable def gf(k:Int)(w:W2):W2:=w.map λs=>(vZ s.1 k,v3 s.2 k)
noncomputable def cK(sl:Int->Int):Int->List W2->List W2
 | _,[]=>[]
 | i,w::ws=>gf (sl i) w::cK sl (i+1) ws
theorem o9(sl:Int->Int):∀ (i:Int) (ws:List W2) (w:W2),cK sl i (ws++[w])=cK sl i ws++[gf (sl (i+ws.length)) w]
 | i,[],w=>by simp[cK]
 | i,x::ws,w=>by show gf (sl i) x::cK sl (i+1) (ws++[w])=_;rw[o9 sl (i+1) ws w];show _=gf (sl i) x::(cK sl (i+1) ws++[gf (sl (i+(ws.length+1:Nat))) w]);rw[show i+1+(ws.length:Int)=i+((ws.length+1:Nat):Int) by lia]
theorem pb(sl:Int->Int):∀ (i:Int) (ws:List W2),(cK sl i ws).length=ws.length
 | _,[]=>rfl
 | i,w::ws=>by show (cK sl (i+1) ws).length+1=_;rw[pb];rfl
noncomputable def lA(bs:List Int):Nat->Nat
 | 0=>0
 | i+1=>if 0<i/\bs.getD i 0=bs.getD (i-1) 0 then lA bs i+1 else 1
noncomputable def gW(bs:List Int)(m:Nat)(v:V):Nat->V
 | 0=>v
 | i+1=>if m<=lA bs (i+1) then .int (bs.getD i 0) else gW bs m v i
def bits(bs:List Int):Prop:=∀ x∈bs,x=0∨x=1
noncomputable def gX(bs:List Int):Nat->V
 | 0=>.non
 | i+1=>.int (bs.getD i 0)
noncomputable def stN(low high:Int)(p:V)(n:Int):V:=if high<=n then .int 1 else if n<=low then .int 0 else p
noncomputable def c9(low high:Int)(ns:List Int):V:=ns.foldl (stN low high) .non
def fD(v:V):Prop:=v = .non∨v = .int 0∨v = .int 1
noncomputable def pd(low high:Int)(v:V):S2:=if v = .int 1 then (O (low+1),J) else (J,O (high-1))
theorem sC{H:Hp}{x dx C:Td}{fs:List (Str × V)}(hx:H x=J)(hd:H dx=J)(hn:dx≠x):aj H (upd (upd H dx (.own x)) x (.ins C dx fs)) :=
 (av hd).trans (av (by rw[az (UZ hn)];exact hx))
theorem La{X:Cx}{K:SV}(h:X.K=K):gF X (.type "list") (λxs H Q=>∃ p ys,xs=[.ref p]/\(ak K H p ys∨aC K H p ys)/\∀ l,H l=J->Q (.ref l) (upd H l (.lst ys))):=by subst h;exact Bc
abbrev Lk:=Option (List Int)
def nc(xs:List Td)(H:Hp)(v:V):Lk->Prop
 | none=>v = .non
 | some bs=>∃ l,v = .ref l/\l∉xs/\H l=O (.lst (bs.map V.int))
abbrev IsL:=nc []
theorem nc.put{xs:List Td}{H:Hp}{v:V}{k:Lk}{c:Td}{o:HO}(h:nc xs H v k)(hc:c∈xs):nc xs (upd H c o) v k:=by
 cases k with
 | none=>exact h
 | some bs=>obtain⟨l,a,b,e⟩:=h;exact#[l,a,b,by rw[az (show l≠c from λz=>b (by rw[z];exact hc))];exact e]
theorem nc.l{xs:List Td}{H:Hp}{v:V}{k:Lk}(h:nc xs H v k):IsL H v k:=by
 cases k with
 | none=>exact h
 | some bs=>obtain⟨l,a,b,c⟩:=h;exact#[l,a,(λz=>nomatch z),c]
def pf(n:Nat):Lk->Prop
 | none=>True
 | some bs=>bits bs/\bs.length<=n
noncomputable def ng(m:Nat)(v:V):Lk->V
 | none=>v
 | some bs=>gW bs m v bs.length
noncomputable def dk(m:Nat)(ks:List Lk):V:=ks.foldl (ng m) .non
theorem v7(m:Nat)(ks:List Lk)(k:Lk):dk m (ks++[k])=ng m (dk m ks) k:=by unfold dk;rw[Yy];rfl
theorem v8{bs:List Int}{m:Nat}{v:V}(hb:bits bs)(hv:fD v):∀ n,n<=bs.length->fD (gW bs m v n)
 | 0,_=>hv
 | n+1,hn=>by
  unfold gW;split
  .have hx:bs.getD n 0=0∨bs.getD n 0=1:=by rw[S8,Tj (by lia)];exact hb _ (aaG _)
   rcases hx with h|h<;>rw[h]
   .exact .inr (.inl rfl)
   .exact .inr (.inr rfl)
  .exact v8 hb hv n (by lia)
theorem CM{m n:Nat}{v:V}{k:Lk}(hk:pf n k)(hv:fD v):fD (ng m v k):=by
 cases k with
 | none=>exact hv
 | some bs=>exact v8 hk.1 hv _ (Th _)
theorem Lb{m n:Nat}{ks:List Lk}(hk:∀ k∈ks,pf n k):fD (dk m ks):=by
 have go:∀ (ks:List Lk) (v:V),(∀ k∈ks,pf n k)->fD v->fD (ks.foldl (ng m) v):=by
  intro ks
  induction ks with
  | nil=>intro v y h;exact h
  | cons k ks ih=>intro v h hv;exact ih _ (λk hk=>h k (.tail _ hk)) (CM (h k (.head _)) hv)
 exact go ks _ hk (.inl rfl)
noncomputable def gY(low high:Int)(v:V):W2:=if v = .non then J else O (pd low high v)
theorem v9{low high:Int}:gY low high .non=J:=if_pos rfl
theorem wa{low high:Int}:gY low high (.int 1)=O (O (low+1),J):=by unfold gY pd;rw[if_neg (by intro z;cases z),if_pos Y]
theorem wb{low high:Int}:gY low high (.int 0)=O (J,O (high-1)):=by unfold gY pd;rw[if_neg (by intro z;cases z),if_neg (by intro z;cases z)]
noncomputable def sD(low high:Int)(v:V):Lk->W2
 | none=>J
 | some _=>gY low high v
noncomputable def fE(m:Nat)(low high:Int)(ks:List Lk):List W2:=(List.range ks.length).map λi=>sD low high (dk m (ks.take (i+1))) (ks.getD i J)
theorem CN(m:Nat)(low high:Int)(ks:List Lk)(k:Lk):fE m low high (ks++[k])=fE m low high ks++[sD low high (dk m (ks++[k])) k]:=by
 unfold fE;rw[T8,UJ,Zg,UQ,Va]
 congr 1
 .refine XW λi hi=>?_;have ji:=ZF.mp hi;rw[List.take_append_of_le_length (by lia),S8,S8,WH ji]
 .rw[Uu (by rw[T8,UJ];lia),S8,VE (Th _),Nat.sub_self];rfl
theorem CO(m:Nat)(low high:Int)(ks:List Lk):(fE m low high ks).length=ks.length:=by unfold fE;rw[Tn,Vw]
local macro_rules|`(tactic|walk_at "o")=>`(tactic|((try simp only [PySem.Addr] at *); lia))
section
variable{κ:Type}[DecidableEq κ]
noncomputable def eG(xs:List (κ × Td × SY))(k:κ):List (κ × Td × SY):=xs.filter λx=>decide (x.1≠k)
theorem Lc{xs:List (κ × Td × SY)}{k:κ}(h:k∉xs.map (·.1)):eG xs k=xs:=by unfold eG;rw[WN];intro x hx;rw[decide_eq_true_eq];exact λz=>h (Ua.mpr #[x,hx,z])
theorem CP:∀ {xs:List (κ × Td × SY)} {k:κ} {j:Nat} {p:Td × SY},(xs.map (·.1)).Nodup->xs[j]?=O (k,p)->xs.eraseIdx j=eG xs k
 | [],_,_,_,_,h=>by simp at h
 | x::r,k,0,p,hn,h=>by
  rw[TJ,UH] at hn;simp at h;subst h;have e:eG ((k,p)::r) k=eG r k:=by unfold eG;rw[US,if_neg (by simp)]
  rw[e,Lc hn.1];rfl
 | x::r,k,j+1,p,hn,h=>by
  rw[TJ,UH] at hn;rw[Vs] at h;have ne:¬ x.1=k:=λz=>hn.1 (z ▸ Ua.mpr #[_,Ui h,Y]);have e:eG (x::r) k=x::eG r k:=by unfold eG;rw[US,if_pos (by simpa using ne)]
  rw[e,YO,CP hn.2 h]
theorem CQ{α β:Type}(f:α->β):∀ (l:List α) (j:Nat),(l.map f).eraseIdx j=(l.eraseIdx j).map f
 | [],_=>rfl
 | _::_,0=>rfl
 | x::l,j+1=>by rw[TJ,YO,CQ f l j];rfl
theorem Ld{xs:List (κ × Td × SY)}{k:κ}(hn:(xs.map (·.1)).Nodup):((eG xs k).map (·.1)).Nodup:=hn.sublist ((ZP).map _)
end
theorem CS{prog:Tv}{w:Ul}{K:Type}[DecidableEq K]{knd:HeapKind prog w K}{es:Array WJ}{xs:List (K × Td × SY)}{k:K}(he:es.toList=xs.map (abr knd))(h:es.isEmpty=true):ZM xs k=J:=by
 have e:es.size=0:=by simpa using h
 have l:=XX he;have:xs=[]:=W0.mp (by lia);rw[this];rfl
theorem KT.out{H:Hp}{kvs:List (List Key × V)}{xs:List (List Key × Td × SY)}(r:KT H kvs xs)(k:List Key):KT H (iG kvs k) (eG xs k):=by
 unfold iG eG
 induction r with
 | nil=>exact .nil
 | @cons p q ps qs h t ih =>
  rw[US,US];by_cases e:p.1=k
  .rw[if_neg (by simp[e]),if_neg (by simp[h.1.symm.trans e])];exact ih
  .rw[if_pos (by simp[e]),if_pos (by rw[decide_eq_true_eq];exact λz=>e (h.1.trans z))];exact .cons h ih
section
variable{prog:Tv}{w:Ul}{K:Type}[DecidableEq K]{knd:HeapKind prog w K}{A:Uk}{E:SY->SX->Prop}{s:SX}
theorem CT{d a:Td}{xs:List (K × Td × SY)}{k:K}{Q:Option WJ->SX->Prop}(hu:knd.room A)(i8:knd.is s.heap k a)(hm:s.heap.DictOfH knd d xs)(hsz:xs.length<=TB)
 (h0:ZM xs k=J->Q J { s with toks:=s.toks+knd.draws k })
 (h1:∀ p e,ZM xs k=O p->e.val=p.2->∀ h',h'.DictOfH knd d (eG xs k)->Heap.SameBut d s.heap h'->Q (O e) { s with heap:=h',toks:=s.toks+knd.draws k }):TX (model prog w) A (Builtin.Dict.takeOut d (.ref a)) Q E s:=by
 obtain⟨o,es,ep,ho,hc,hd,he,his,hn⟩:=hm;have Le:es.size<=TB:=by have e:=XX he;lia
 unfold Builtin.Dict.takeOut
 try with_reducible refine V9 ?_
 refine SW (knd.pyHash hu i8 ?_);refine SW (wpAny_dictFind_heap (s:={ s with toks:=s.toks+knd.draws k }) hu i8 ho hd he his hn (λjR=>?_) λj p hj=>?_)
 .exact Tc (h0 (atKey_none_of_get jR))
 .refine SW (VX (s:={ s with toks:=s.toks+knd.draws k }) ho hd ?_);have ej:=entry_at he j;rw[hj] at ej;rw[ej];refine SW (wpAny_updateDictKeys (hz:=Le) (s:={ s with toks:=s.toks+knd.draws k }) ho hd (Tc (h1 p (abr knd (k,p)) (atKey_of_get hn hj) Y _ #[_,_,ep+1,VJ _ ho (Obj.isFreed_of_dict (ZD hd _)),hc.mapDictKeys _,ZD hd _,?_,?_,Ld hn] (Wd ..))))
  .rw[<- CP hn hj];have lt:j<es.size:=by rw[XX he];exact (Ug.mp hj).1
   rw[Array.eraseIdxIfInBounds,dif_pos lt,Array.toList_eraseIdx,he,CQ]
  .exact λx hx=>knd.keeps (his x (WV.mp hx).1) ho hd (Wd ..)
theorem Lg{d a:Td}{more:List SY}{Q:SY->SX->Prop}{xs:List (K × Td × SY)}{k:K}(hu:knd.room A.in1)(i8:knd.is s.heap k a)(hd:(d == Vl)=false)(hm:s.heap.DictOfH knd d xs)(hsz:xs.length<=TB)(CU:more=[] ∨ ∃ x,more=[x])
 (h1:∀ p,ZM xs k=O p->∀ h' tk,h'.DictOfH knd d (eG xs k)->Heap.SameBut d s.heap h'->Q p.2 { s with heap:=h',toks:=tk })
 (h0:ZM xs k=J->∃ x,more=[x]/\∀ tk,Q x { s with toks:=tk }):TX (model prog w) A (call (.builtin "dict.pop") (.ref d :: .ref a::more)) Q E s:=by
 have ha:argsOk "dict.pop" #[.ref d :: .ref a::more,[]]:=by
  rcases CU with q|⟨x,q⟩
  .subst q;exact PySem.F.args_dict_pop_2 _ _
  .subst q;exact PySem.F.args_dict_pop_3 _ _ _
 have g:MeetsIn prog w (ZN.«dict.pop» #[.ref d :: .ref a::more,[]]) (λA R s=>knd.room A.in1/\knd.is s.heap k a/\s.heap.DictOfH knd d xs/\(∀ p,ZM xs k=O p->∀ h' tk,h'.DictOfH knd d (eG xs k)->Heap.SameBut d s.heap h'->R (.ok (.ret p.2)) { s with heap:=h',toks:=tk }) /\
  (ZM xs k=J->∃ x,more=[x]/\∀ tk,R (.ok (.ret x)) { s with toks:=tk })):=.of_wp λA R s ⟨hu,i8,hm,h1,h0⟩=>by
  obtain⟨o,es,ep,ho,hc,hda,he,his,hn⟩:=id hm;refine SW ?_;refine SW (Zh hm.typeIs ?_);rcases CU with rfl|⟨dflt,rfl⟩
  .refine Tc ?_;dsimp only;refine SW (VX ho hda (SW (Tc ?_)));by_cases hemp:es.isEmpty=true
   .rw[if_pos hemp];refine SW (XF (SW (Tc ?_)));refine SW (VP hd ?_);obtain⟨x,ex,hq⟩:=h0 (CS he hemp);cases ex
   .rw[if_neg hemp];refine SW (CT hu i8 hm hsz (λwc=>?_) λp e hp we h' dd hs=>?_)
    .refine SW (VP hd ?_);obtain⟨x,ex,hq⟩:=h0 wc;cases ex
    .exact SW (wpAny_letGo (Tc #[e.val,Y,by rw[we];exact h1 p hp h' _ dd hs]))
  .refine Tc ?_;dsimp only;refine SW (VX ho hda (SW (Tc ?_)));by_cases hemp:es.isEmpty=true
   .rw[if_pos hemp];refine SW (XF (SW (Tc ?_)));refine SW (VP hd ?_);obtain⟨x,ex,hq⟩:=h0 (CS he hemp);cases ex;exact SW (XF (Tc #[dflt,Y,hq _]))
   .rw[if_neg hemp];refine SW (CT hu i8 hm hsz (λwc=>?_) λp e hp we h' dd hs=>?_)
    .refine SW (VP hd ?_);obtain⟨x,ex,hq⟩:=h0 wc;cases ex;exact SW (XF (Tc #[dflt,Y,hq _]))
    .exact SW (wpAny_letGo (Tc #[e.val,Y,by rw[we];exact h1 p hp h' _ dd hs]))
 exact aas Xo hm.typeIs PySem.F.entry_dict_pop ha g #[hu,i8,hm,h1,h0]
end
def dm(h:UU)(d:Td)(es:Array WJ)(ep:Nat):Prop:=∃ o,h.get? d=O o/\o.ExactDict/\o.data = .dict es ep
theorem dm.at{h h':UU}{d:Td}{es:Array WJ}{ep:Nat}(x:dm h d es ep)(e:∀ o,h.get? d=O o->h'.get? d=O o):dm h' d es ep:=let ⟨o,ho,r⟩:=x;#[o,e o ho,r]
theorem dm.lt{h:UU}{d:Td}{es:Array WJ}{ep:Nat}(x:dm h d es ep):d<h.objs.size:=let ⟨_,ho,_⟩:=x;Tg ho
theorem dm.ty{s:SX}{d:Td}{es:Array WJ}{ep:Nat}(x:dm s.heap d es ep):s.TypeIs (.ref d) "dict" := let ⟨o,ho,hc,_⟩:=x;#[o,ho,hc.1]
section
variable{prog:Tv}{w:Ul}{A:Uk}{E:SY->SX->Prop}{s:SX}{d it:Td}{es:Array WJ}{i ep:Nat}
theorem Lh{Q:SY->SX->Prop}(lo:(d == Vl)=false)(x:dm s.heap d es ep)
 (q:Q (.ref s.heap.objs.size) { s with heap:=s.heap.push { cls:=.type "dict_keyiterator",data:=.fields (List.toArray [.ref d,.int 0 0,.int es.size 0,.int ep 0]) } }):TX (model prog w) A (pyIter (.ref d)) Q E s:=by
 have T:=x.ty;obtain⟨o,ho,hc,hq⟩:=x;refine wpAny_pyIter_slot T Y3 (Wh Y3 T PySem.F.entry_dict_iter ?_ (PySem.F.args_dict_iter_1 _));unfold ZN.«dict.__iter__»;refine SW ?_;unfold Builtin.Dict.dictSlotNone;refine SW (Zh T ?_);refine Tc (a:=Uo d) ?_;show TX _ A.in1 (Builtin.Dict.showsAll d >>= _) _ _ s;unfold Builtin.Dict.showsAll;rw[if_neg (by rw[lo];exact T7)];refine SW (Tc (SW (VX ho hq (SW (Zi ho hq ?_)))));refine SW (UL (Tc #[_,Y,"dict_keyiterator",_,#[_,TV _ Y,Y],PySem.F.slot_dict_keyiterator_next.lookup,?_]));simpa [ZV] using q
theorem Li{Q:Option SY->SX->Prop}(hit:s.heap.IsKeyIter it d i es.size ep)(x:dm s.heap d es ep)(hi:i<es.size)
 (q:∀ h',h'.IsKeyIter it d (i+1) es.size ep->Heap.SameBut it s.heap h'->Q (O es[i].key) { s with heap:=h' }):TX (model prog w) A (ab4 (.ref it)) Q E s:=by
 obtain⟨o,ho,hc,hd⟩:=id hit;obtain⟨od,hod,dB,hdd⟩:=x;have T:=hit.typeIs;refine SW (YQ (Wa (name:=Zb "__next__") T U6 (Wh U6 T WO ?_ (WK _))));refine SW (Tc (SW (SW ?_)))
 first|refine SW (Vr T (Tc (SW (Ym ho hd ?_))))|refine SW (VY T (Tc (SW (Ym ho hd ?_))))
 have ow:Builtin.Dict_items.ownsTuple "dict_keyiterator" = false:=by decide
 simp only[ow,T9,if_false];show TX _ A.in1 (if (Uo d == Value.none)=true then _ else _) _ _ s;refine SW (Tc (SW (VX hod hdd ?_)));rw[if_neg (by simp)];refine SW (Tc (SW (Zi hod hdd ?_)));rw[if_neg (by simp)];refine Tc ?_;simp only[show ¬ (i:Int)<0 by lia,if_false,W9,UB hi];refine SW ?_
 first|refine SW (Vr T (Tc (SW (Xq T ?_))))|refine SW (VY T (Tc (SW (Xq T ?_))))
 show TX _ A.in1 (setField (.ref it) 1 (ZV ((i:Int)+1)) >>= _) _ _ s;refine SW (Yn ho hd (by simp) ?_);have sE:(s.heap.update it (YR (·.setIfInBounds 1 (ZV ((i:Int)+1))))).IsKeyIter it d (i+1) es.size ep:=#[_,VJ _ ho (Zj (W3 hd _)),(Obj.cls_mapFields ..).trans hc,by rw[W3 hd];simp[ZV]]
 refine SW (V9 (SW (Xq (s:={ s with heap:=s.heap.update it (YR (·.setIfInBounds 1 (ZV ((i:Int)+1)))) }) sE.typeIs ?_)));exact Tc (Tc #[_,Y,Tc (q _ sE (Wd ..))])
theorem Lj{Q:Option SY->SX->Prop}(hh:A.handled=J)(hit:s.heap.IsKeyIter it d es.size es.size ep)(x:dm s.heap d es ep)
 (q:∀ h',Heap.ExtBut it s.heap h'->Q J { s with heap:=h' }):TX (model prog w) A (ab4 (.ref it)) Q E s:=by
 obtain⟨o,ho,hc,hd⟩:=id hit;obtain⟨od,hod,dB,hdd⟩:=x;have T:=hit.typeIs;refine SW (YQ (Wa (name:=Zb "__next__") T U6 (Wh U6 T WO ?_ (WK _))));refine SW (Tc (SW (SW ?_)))
 first|refine SW (Vr T (Tc (SW (Ym ho hd ?_))))|refine SW (VY T (Tc (SW (Ym ho hd ?_))))
 have ow:Builtin.Dict_items.ownsTuple "dict_keyiterator" = false:=by decide
 simp only[ow,T9,if_false];show TX _ A.in1 (if (Uo d == Value.none)=true then _ else _) _ _ s;refine SW (Tc (SW (VX hod hdd ?_)));rw[if_neg (by simp)];refine SW (Tc (SW (Zi hod hdd ?_)));rw[if_neg (by simp)];refine Tc ?_;simp only[show ¬ (es.size:Int)<0 by lia,if_false,W9,Array.getElem?_eq_none (Th es.size)];refine SW ?_
 first|refine SW (Vr T (Tc ?_))|refine SW (VY T (Tc ?_))
 show TX _ A.in1 (setField (.ref it) 0 .none >>= _) _ _ s;refine SW (Yn ho hd (by simp) ?_);show TX _ A.in1 (newExc (.type "StopIteration") [] >>= _) _ _ _;refine SW ?_;simp only[newExc,newTuple];refine SW (UL ?_ (by size_fits));refine SW (m:=firstArgMember _ _) (wpAny_of_eq (a:=Value.none) (by first|rfl|(simp only[firstArgMember];rfl)) ?_);refine UL ?_ (by size_fits);simp only[raiseNew];refine SW (wpAny_handled ?_);rw[show A.in1.handled=J from hh];refine SW (Tc (aa4 ?_));refine SW (wpAny_isInstance (T := "StopIteration") (b:=true) #[_,TV _ Y,Y] isSubtype_stop ?_);exact Tc (q _ (((Wd ..).extBut.push _).push _))
theorem Ll(hh:A.handled=J)(I d:Td)(jk:d≠I)(es:Array WJ)(ep:Nat) :
 Walks prog w A I [I,d] [I] es.size (λi v=>∃ e,es[i]?=O e/\v=e.key) (λi h=>h.IsKeyIter I d i es.size ep/\dm h d es ep) where
 sub:=λb hb=>by simp at hb;simp[hb]
 frame:=λy y y st hk=>#[st.1.at λo e=>hk I (by simp) o e,st.2.at λo e=>hk d (by simp) o e]
 item:=λi s Q E hi st hQ=>by refine Li st.1 st.2 hi λh' sE bY=>?_;exact hQ _ h' s.toks #[es[i],UB hi,Y] #[sE,st.2.at λo e=>bY.extBut d o jk e] λb o hb e=>bY.extBut b o (λh=>hb (by simp[h])) e
 done:=λs Q E st hQ=>Lj hh st.1 st.2 λh' Lm=>hQ h' s.toks λb o hb e=>Lm b o (λh=>hb (by simp[h])) e
 self:=λy y y y st hQ=>wpAny_pyIter_keyiter st.1 hQ
theorem CV(lo:(d == Vl)=false):abk prog w "dict" d d es.size (λi v=>∃ e,es[i]?=O e/\v=e.key) (λh=>dm h d es ep) where
 type:=λy x=>x.ty
 there:=λy x=>#[x.lt,x.lt]
 keep:=λy y x hk=>x.at λo e=>hk d (.inl rfl) o e
 notList:=by decide
 notTuple:=by decide
 hint:=λy y y y x hq=>PySem.W.kdl_hint_dict x.ty hq
 iter:=λy y hh x=>#[_,_,(λy y hq=>Lh lo x hq),Ll hh _ d (T6 x.lt) es ep,#[#[_,TV _ Y,Y,Y],x.at λo e=>Ta _ e]]
end
section
variable{prog:Tv}{w:Ul}{A:Uk}{E:SY->SX->Prop}{s:SX}
def jl(h:UU)(vs:List SY)(kis:List (List Int))(i:Nat):Prop:=∃ (p:Td) (o:Obj) (af:List SY) (m:Nat),vs[i]?=O (.ref p)/\h.get? p=O o/\o.cls = .type "tuple" /\ o.data = .seq af.toArray m/\YG af (kis.getD i [])/\af≠[]
theorem jl.keep{h h':UU}{vs:List SY}{kis:List (List Int)}{i:Nat}(x:jl h vs kis i)(k:∀ b o,h.get? b=O o->(∀ n xs,o≠Vm "list" xs n)->h'.get? b=O o):jl h' vs kis i:=by obtain⟨p,o,af,m,h1,h2,h3,r⟩:=x;exact#[p,o,af,m,h1,k p o h2 (λn xs z=>by rw[z] at h3;exact absurd (Value.type.inj h3) (by decide)),h3,r]
theorem Ln{af:List SY}{ns:List Int}(h:YG af ns)(hn:af≠[]):∃ i t,af[0]?=O (.int i t):=by
 cases h with
 | nil=>exact absurd Y hn
 | cons=>exact#[_,_,Y]
theorem wg{h:UU}:∀ (vs:List SY) (kis:List (List Int)),kis.length=vs.length->(∀ i,i<vs.length->jl h vs kis i)->∃ fs,aa2 h vs fs/\fs.length=vs.length/\∀ v∈fs,∃ i t,v = .int i t
 | [],_,_,_=>#[[],PySem.W.KatTups.nil,Y,λv z=>by simp at z]
 | v::vs,[],e,_=>by simp at e
 | v::vs,k::kis,e,hh=>by
  obtain⟨p,o,af,m,h1,h2,h3,h4,h5,h6⟩:=hh 0 (by simp);have jY:v = .ref p:=by simpa using h1
  subst jY;obtain⟨i,t,hf⟩:=Ln h5 h6;obtain⟨fs,a1,a2,a3⟩:=wg vs kis (by simpa using e) λi hi=>by obtain⟨p,o,af,m,h1,r⟩:=hh (i+1) (by simpa using hi);exact#[p,o,af,m,by simpa using h1,by simpa using r]
  refine#[.int i t::fs,PySem.W.KatTups.cons h2 h3 h4 (by simpa using hf) a1,by simp[a2],λv hv=>?_];rcases Tz.mp hv with z|z
  .exact#[i,t,z]
  .exact a3 v z
def CW(prog:Tv)(w:Ul)(h:UU)(vs:List SY)(kis:List (List Int)):Prop :=
 2<=vs.length->∃ κ,∀ (A:Uk) (E:SY->SX->Prop) (s:SX),s.heap=h->(∀ Q:SortKind->SX->Prop,Q κ s->TX (model prog w) A (keyKind' vs.toArray) Q E s) /\
  ∀ i j,i<vs.length->j<vs.length->∀ C:Bool->SX->Prop,C (bD kis i j) s->TX (model prog w) A (keyLt' κ (vs.getD i Value.none) (vs.getD j Value.none)) C E s
theorem Lo{a:Td}{vs:List SY}{kis:List (List Int)}{n:Nat}{P:ab7->SX->Prop}(ho:s.heap.get? a=O (Vm "list" vs.toArray n))(hl:kis.length=vs.length)(gZ:vs.length<64)(hk:∀ g:UU,(∀ b o,(∀ n xs,o≠Vm "list" xs n)->s.heap.get? b=O o->g.get? b=O o)->CW prog w g vs kis)
 (fin:∀ h',(∀ b o,b≠a->s.heap.get? b=O o->h'.get? b=O o)->(∃ c,h'.get? a=O (Vm "list" (Vj ((eF (bD kis) vs.length).toList.map λi=>vs.getD i Value.none)) c))->P (.done (.ret .none)) { s with heap:=h' }) :
 TX (model prog w) A (ZN.«list.sort» #[[.ref a],[]]) P E s:=by
 rw[aa5];refine SW (listItems_at ho Y (SW (XA ho Y ?_ (by rw[To,V8];walk_at "o") (Uq _))));obtain⟨e1,oa⟩:∃ e1,(s.heap.update a (VG λv=>((List.toArray []):Array SY))).get? a=O (Vm "list" (List.toArray []) e1):=#[_,XY ho λv=>(List.toArray [])]
 have keep:∀ b o,b≠a->s.heap.get? b=O o->(s.heap.update a (VG λv=>((List.toArray []):Array SY))).get? b=O o:=λb o z e=>(Ud _ _ (UZ z)).trans e;refine SW (YS oa Y ?_);generalize s.heap.update a (VG λv=>((List.toArray []):Array SY))=g at oa keep ⊢;refine SW (wpAny_newTuple ?_ (by show vs.length<=_;rw[V8];walk_at "o"));refine SW (Z2 ?_ (Uq _));refine V9 ?_;show TX (model prog w) A _ P E { s with heap:=(g.push (Vm "tuple" vs.toArray 0)).push (Vm "list" (List.toArray []) 0) };have g8:((g.push (Vm "tuple" vs.toArray 0)).push (Vm "list" (List.toArray []) 0)).get? a=O (Vm "list" (List.toArray []) e1):=Ta _ (Ta _ oa);have lB:∀ b o,b≠a->s.heap.get? b=O o->((g.push (Vm "tuple" vs.toArray 0)).push (Vm "list" (List.toArray []) 0)).get? b=O o:=λb o z e=>Ta _ (Ta _ (keep b o z e));generalize (g.push (Vm "tuple" vs.toArray 0)).push (Vm "list" (List.toArray []) 0)=g2 at g8 lB ⊢;dsimp only;have neT:∀ b o,s.heap.get? b=O o->(∀ n xs,o≠Vm "list" xs n)->b≠a:=λb o e z y=>by rw[y,ho] at e;cases e;exact z _ _ rfl
 have lC:((eF (bD kis) vs.length).toList.map λi=>vs.getD i Value.none).length=vs.length:=by rw[Tn,(su (n:=vs.length) (iO kis)).1.length_eq,Vw]
 have sz:(Vj ((eF (bD kis) vs.length).toList.map λi=>vs.getD i Value.none)).size<=TB+1:=by rw[To,lC,V8];walk_at "o"
 have done:P (.done (.ret .none)) { s with heap:=g2.update a (VG λv=>Vj ((eF (bD kis) vs.length).toList.map λi=>vs.getD i Value.none)) } :=
  fin _ (λb o z e=>(Ud _ _ (UZ z)).trans (lB b o z e)) #[_,XY g8 λv=>_]
 by_cases h2:vs.toArray.size<2
 .rw[if_pos h2,if_pos h2];refine SW (Tc ?_);refine SW (Tc ?_);dsimp only;have self:(List.range vs.length).map (λi=>vs.getD i Value.none)=vs:=by
   apply aaH
   .simp
   .intro i h1 h2;simp[S8,h2]
  have e0:(Z3 (UC general' (vs.toArray.zip vs.toArray) (List.toArray []) 7 J)).map (·.2)=Vj ((eF (bD kis) vs.length).toList.map λi=>vs.getD i Value.none):=by unfold eF;rw[if_pos (by simpa using h2)];apply Array.toList_inj.mp;rw[show (List.range vs.length).toArray.toList=List.range vs.length from Y,self];show ((vs.toArray.zip vs.toArray).map (·.2)).toList=_;simp[List.map_snd_zip]
  rw[e0];refine SW (YS g8 Y (SW (XA g8 Y ?_ (Uq _) sz)));simp only[bne_self_eq_false,T9,if_false];exact Tc done
 .rw[if_neg h2,if_neg h2];have gU:2<=vs.length:=by rw[To] at h2;walk_at "o"
  obtain⟨κ,hκ⟩:=hk g2 (λb o z e=>lB b o (neT b o e z) e) gU;refine SW ((hκ A E { s with heap:=g2 } rfl).1 _ ?_);have ask:(PySem.W.kas_sort vs.length).kasWp (PySem.W.kas_ask prog w A κ vs) (λp s'=>s' = { s with heap:=g2 }/\p=eF (bD kis) vs.length) { s with heap:=g2 }:=by
   have pv:=CC _ (CA (n:=vs.length) (iO kis) (by walk_at "o"));refine Cu (lt:=bD kis) (n:=vs.length) (Ok:=λs'=>s' = { s with heap:=g2 }) (λi j C s' hi hj e q=>?_) (λp s' e q=>#[e,?_]) _ _ Y pv
   .subst e;exact (hκ _ _ _ Y).2 i j hi hj C (q _ Y)
   .rw[q];unfold eF;rw[if_neg (by walk_at "o")]
  refine SW (Ue (PySem.W.kat_run (κ:=κ) (ks:=vs) (vs:=vs) (Q:=λst s'=>s' = { s with heap:=g2 }/\Z3 st=(eF (bD kis) vs.length).map (WL (vs.toArray.zip vs.toArray))/\Zw st=J)
   Y gU gZ (λp st s' b1 b2 b3 b4=>#[b4.1,by rw[b2,b4.2],b3]) ask) ?_ λv v z=>z)
  rintro ⟨⟨⟩,st⟩ s' ⟨rfl,har,hf⟩;rw[aaI Y har];refine SW (YS g8 Y (SW (XA g8 Y ?_ (Uq _) sz)));rw[hf];simp only[bne_self_eq_false,T9,if_false];exact Tc done
theorem Lp{h:UU}{vs:List SY}{kis:List (List Int)}(hl:kis.length=vs.length)(hk:∀ i,i<vs.length->jl h vs kis i):CW prog w h vs kis:=λh2=>by
 obtain⟨fs,ht,lf,hi⟩:=wg vs kis hl hk;refine#[VZ true,λA E s e=>?_];subst e;refine#[λQ q=>aaJ (T:=.type "int") ht (by walk_at "o") (λv hv=>?_) (by decide) q,λi j hi hj C q=>?_]
 .obtain⟨i,t,rfl⟩:=hi v hv;exact PySem.W.Looks.now
 .obtain⟨p1,o1,i1,m1,a1,b1,y,c1,d1,y⟩:=hk i hi;obtain⟨p2,o2,i2,m2,a2,b2,y,c2,d2,y⟩:=hk j hj;rw[S8,S8,a1,a2];have z1:=d1.length;have z2:=d2.length;exact abl b1 c1 b2 c2 (by simpa using CG (b:=true) (i:=0) d1 d2 (by simp[z1,z2]) q)
theorem Lq{T:String}{r d:Td}{n:Nat}{P:Nat->SY->Prop}{OK:UU->Prop}{Q:List SY->SX->Prop}(K:abk prog w T r d n P OK)(hh:A.handled=J)(ah:OK s.heap)(hn:n<=TB)
 (q:∀ h' tk acc,(∀ b o,s.heap.get? b=O o->h'.get? b=O o)->s.heap.objs.size<=h'.objs.size->ItemsOf P acc n->Q acc.toList { s with heap:=h',toks:=tk }):TX (model prog w) A (collect (.ref r)) Q E s:=by
 have lt:=K.there _ ah;unfold collect;refine SW (wpAny_runValue (Zd entry_proto_collect' ?_));rw[Around.under_plainId PySem.F.plain_proto_collect _];show TX _ A.in1 (ab2 [] >>= λl=>again (.builtin "list.__iadd__" #[[l,.ref r],[]])) _ _ s;refine SW (UL (Tc #[Code.quiet_builtin _ (by decide +kernel),Zd entry_list_iadd' ?_]));rw[Around.under_plainId PySem.F.plain_list_iadd _];have oS:(s.heap.push { cls:=.type "list",data:=.seq ([]:List SY).toArray }).get? s.heap.objs.size=O { cls:=.type "list",data:=.seq (List.toArray []) 0 }:=TV _ rfl;show TX _ A.in1 (aa6 (.ref s.heap.objs.size) (.ref r) (.ref s.heap.objs.size)) _ _ { s with heap:=s.heap.push { cls:=.type "list",data:=.seq ([]:List SY).toArray } };refine PySem.W.kdl_extend (R:=λr s'=>match r with
  | .ok (.ret v)=>TX (model prog w) A (match v with|.ref a=>(do match (<- load a).data with|.seq xs _=>pure xs.toList|_=>unsupported "internal:collect")|_=>unsupported "internal:collect") Q E s'
  | .ok _=>False
  | .error e=>E e s') (s:={ s with heap:=s.heap.push { cls:=.type "list",data:=.seq ([]:List SY).toArray } }) K hh (K.keep _ _ ah λb y o e=>Ta _ e) s.heap.objs.size (X9 lt.1) (X9 lt.2) (.ref s.heap.objs.size) 0 oS (λh' tk acc c hk hS ph=>?_) hn
 show TX _ A (load s.heap.objs.size >>= _) _ _ _;refine SW (wpAny_load hS (Tc ?_));exact q h' tk acc (λb o e=>hk b o (T6 (Tg e)) (Ta _ e)) (UN (Tg hS)) ph
end
def jm(H:Hp)(xs:List V)(kvs:List (List Key × V)):Prop:=aq (λx (kv:List Key × V)=>∃ a,x = .ref a/\H a=O (.tup (kv.1.map kV))) xs kvs
theorem KT.Lr{H:Hp}{kvs:List (List Key × V)}{xs:List (List Key × Td × SY)}(r:KT H kvs xs):jm H ((xs.map (·.2.1)).map V.ref) kvs:=by
 induction r with
 | nil=>exact trivial
 | cons h t ih=>exact#[#[_,Y,h.2.1],ih]
theorem jm.CY{K:SV}{H:Hp}:∀ {ys:List V} {kvs:List (List Key × V)} {kis:List (List Int)},jm H ys kvs->kvs.map (·.1)=kis.map (λk=>k.map YC)->(∀ k∈kis,k≠[])->dG K H ys kis
 | [],[],[],_,_,_=>trivial
 | [],[],_::_,_,e,_=>by simp at e
 | _::_,kv::kvs,[],_,e,_=>by simp at e
 | y::ys,kv::kvs,k::kis,h,e,hn=>by rw[TJ,TJ] at e;injection e with e1 e2;obtain⟨⟨a,rfl,ha⟩,t⟩:=h;refine#[#[a,Y,?_,hn k (.head _)],jm.CY t e2 λk hk=>hn k (.tail _ hk)];rw[e1,WS] at ha;exact .inl (.inl ha)
 | [],_::_,_,h,_,_=>h.elim
 | _::_,[],_,h,_,_=>h.elim
theorem wj:∀ (as:List Td),Vals (as.map V.ref) (as.map Uo)
 | []=>.nil
 | _::as=>.cons rfl (wj as)
section
variable{X:Cx}{pins:List (Td × Obj)}{G:L2.St}{H:Hp}{s:SX}{p:Td}{kvs:List (List Key × V)}
theorem CZ(I:Inv X pins G H s)(e:H p=O (.dT kvs)):∃ (as:List Td) (es:Array WJ) (ep:Nat),jm H (as.map V.ref) kvs/\(p == Vl)=false/\dm s.heap p es ep/\es.size=as.length/\(∀ acc:Array SY,ItemsOf (λi v=>∃ e,es[i]?=O e/\v=e.key) acc es.size->acc.toList=as.map Uo)/\as.length<=TB:=by
 obtain⟨z,hd,xs,rel,o,es,ep,ho,hc,hdt,he,his,hn⟩:=vh I.ah e;have hl:xs.length=kvs.length:=(Paired.length rel).symm;have hs:es.size=xs.length:=XX he;refine#[xs.map (·.2.1),es,ep,KT.Lr rel,hd,#[o,ho,hc,hdt],by rw[Tn];exact hs,λacc ha=>?_,by rw[Tn,hl];exact z];refine List.ext_getElem? λi=>?_;rw[Vv,Vv];have la:acc.toList.length=es.size:=by rw[TU];exact ha.1
 by_cases hi:i<es.size
 .obtain⟨v,hv⟩:∃ v,acc.toList[i]?=O v:=#[_,Tj (by lia)]
  obtain⟨en,h1,h2⟩:=ha.2 i v (by rw[<- Array.getElem?_toList];exact hv);rw[entry_at he i] at h1;cases hx:xs[i]? with
  | none=>rw[hx] at h1;cases h1
  | some y=>rw[hx] at h1;cases h1;rw[hv,h2];rfl
 .rw[Wt (by lia),Wt (by lia)];rfl
theorem Ls(hc:X.calm=true):gF X (.type "list") (λxs H Q=>∃ p kvs,xs=[.ref p]/\H p=O (.dT kvs)/\∀ l ys,H l=J->jm H ys kvs->Q (.ref l) (upd H l (.lst ys))):=by intro pins s G H xs us Q I r h;obtain⟨p,kvs,rfl,e,q⟩:=h;obtain⟨u,rfl,rx⟩:=vals1 r;cases rx;obtain⟨as,es,ep,hk,lo,ra,hs,ph,hz⟩:=CZ I e;refine PySem.W.kdl_call (CV lo) (I.ok.hd hc) ra (by rw[hs];exact hz) λh' tk acc c keep hD ha=>?_;have ea:=ph acc ha;exact#[.ref s.heap.objs.size,_,I.laid (t':=tk) keep (Th _) (show bH X.prog X.w _ h' _ (.lst (as.map V.ref)) from #[by rw[Tn];exact hz,as.map Uo,c,wj as,by rw[<- ea,Array.toArray_toList];exact hD]),Y,q _ _ (I.ah.fresh (Th _)) hk]
theorem C0(I:Inv X pins G H s){ks:List V}{kis:List (List Int)}{us:List SY}(h:dG X.K H ks kis)(r:Vals ks us):∀ i,i<us.length->jl s.heap us kis i:=λi hi=>by
 have hk:i<ks.length:=by rw[r.length];exact hi
 have fg:i<kis.length:=by rw[<- h.len];exact hk
 obtain⟨p,ep,hp⟩:=h.get (Tj hk);obtain⟨u,eu,ru⟩:=r.get (Tj hk);rw[ep] at ru;cases ru;obtain⟨af,rv,⟨o,ho,hc,m,hd⟩,y⟩:=I.tuple hp;refine#[p,o,af,m,eu,ho,hc,hd,intsAre_of rv,λz=>?_];have nn:kis.getD i []≠[]:=by
  have all:∀ {ks:List V} {ns:List (List Int)},dG X.K H ks ns->∀ n∈ns,n≠[]:=by
   intro ks
   induction ks with
   | nil=>intro ns h n hn;cases ns with
    | nil=>simp at hn
    | cons _ _=>exact h.elim
   | cons k ks ih=>intro ns h n hn;cases ns with
    | nil=>exact h.elim
    | cons m ns =>
     obtain⟨⟨y,y,y,jk⟩,t⟩:=h;rcases Tz.mp hn with z|z
     .rw[z];exact jk
     .exact ih t n z
  rw[S8,Tj fg];exact all h _ (aaG _)
 have:=rv.length;rw[Tn,z] at this;exact nn (W0.mp this)
end
theorem Lu{P:Tv}{w:Ul}{H':Hp}{h':UU}{a:Td}{kvs:List (List Key × V)}{xs:List (List Key × Td × SY)}(z:kvs.length<=TB)(lo:(a == Vl)=false)(rel:KT H' kvs xs)(dd:h'.DictOfH (XH (dt P w)) a xs):bH P w H' h' a (.dT kvs):=by obtain⟨o,es,ep,h1,h2,h3,h4,y,h5⟩:=dd;exact#[z,lo,xs,rel,o,es,ep,h1,h2,h3,h4,h5]
section
variable{X:Cx}{pins:List (Td × Obj)}{G:L2.St}{H:Hp}{s:SX}{p b:Td}{kvs:List (List Key × V)}{k:List Key}{A:Uk}{E:SY->SX->Prop}
theorem Lv{ob:HO}{xs:List (List Key × Td × SY)}(e:H p=O (.dT kvs)){nh:List (List Key × V)}(r:KT H nh xs):KT (upd H p ob) nh xs :=
 KT.keeps r λb ys z=>by rw[az (λy=>by rw[y,e] at z;cases z)];exact z
theorem C1{more:List SY}{Q:SY->SX->Prop}(hu:A.units+1<Zz)(I:Inv X pins G H s)(e:H p=O (.dT kvs))(eb:H b=O (.tup (k.map kV)))(hm:more=[] ∨ ∃ x,more=[x])
 (h1:∀ v,bJ kvs k=O v->∀ w' s',Inv X pins G (upd H p (.dT (iG kvs k))) s'->RelV v w'->Q w' s') (h0:bJ kvs k=J->∃ x,more=[x]/\∀ s',Inv X pins G H s'->Q x s') :
 TX (model X.prog X.w) A (call (.builtin "dict.pop") (.ref p :: .ref b::more)) Q E s:=by
 obtain⟨z,lo,xs,rel,dd⟩:=vh I.ah e;have hl:xs.length=kvs.length:=(Paired.length rel).symm;refine Lg (Wq hu) (mM I.ah eb) lo dd (by rw[hl];exact z) hm (λy hy h' tk kW hs=>?_) λhn=>?_
 .have rv:=rel.val k;rw[hy] at rv;cases hv:bJ kvs k with
  | none=>rw[hv] at rv;exact (show False from rv).elim
  | some v =>
   rw[hv] at rv;have he:∃ q,h'.get? p=O q:=let ⟨q,_,_,hq,_⟩:=kW;#[q,hq];exact h1 v hv _ _ (vi (t':=tk) I (by rw[e];exact XD) hs he (Lu (TL (Jf kvs k) z) lo (Lv e (KT.out rel k)) kW)) rv
 .have rv:=rel.val k;rw[hn] at rv;cases hv:bJ kvs k with
  | some v=>rw[hv] at rv;exact (show False from rv).elim
  | none =>
   obtain⟨x,ex,q⟩:=h0 hv;exact#[x,ex,λtk=>q _ (I.tok tk)]
end
def C2(td ty:TE):TE:=λG H Q=>td G H λx H1=>∃ a,x = .ref a/\rL H1 a/\ty G H1 λy H2=>∃ b kvs k v,y = .ref b/\H2 a=O (.dT kvs)/\H2 b=O (.tup (k.map kV))/\bJ kvs k=O v/\Q v (upd H2 a (.dT (iG kvs k)))
def C3(td ty tx:TE):TE:=λG H Q=>td G H λx H1=>∃ a,x = .ref a/\rL H1 a/\ty G H1 λy H2=>tx G H2 λz H3=>∃ b kvs k,y = .ref b/\H3 a=O (.dT kvs)/\H3 b=O (.tup (k.map kV)) /\
 (∀ v,bJ kvs k=O v->Q v (upd H3 a (.dT (iG kvs k))))/\(bJ kvs k=J->Q z H3)
section
variable{X:Cx}{o e f:Vh}{td ty tx:TE}{apos bN:Pos}
theorem Lw(hu:X.A.units+1<Zz)(ho:PE X o td)(he:PE X e ty)(m:M1 X o "pop" apos e bN):PE X (.Call (.Attribute o "pop" apos) [e] [] bN) (C2 td ty):=by
 intro pins s G H Q I h;refine Yw m.base m.few m.line WZ Xo Zk (ax (ho pins s G H _ I h) λu s1 zq=>?_);obtain⟨x,H1,I1,rx,a,ex,d,q1⟩:=zq;subst ex;obtain rfl:u=Uo a:=rx;obtain⟨t1,t2,z⟩:=vo I1 d;refine#[t1,t2,?_];rw[m.trees];refine Wk Y (VQ (Wn (ax (he pins s1 G H1 _ I1 q1) λiv s2 ⟨y,H2,I2,ry,b,kvs,k,v,ey,ea,eb,l,q2⟩=>W7 ?_)));subst ey;obtain rfl:iv=Uo b:=ry;exact C1 hu I2 ea eb (.inl rfl) (λv' l' w' s3 I3 eo=>#[v',_,I3,eo,by rw[l] at l';cases l';exact q2]) λl'=>by rw[l] at l';cases l'
theorem Ly(hu:X.A.units+1<Zz)(ho:PE X o td)(he:PE X e ty)(hf:PE X f tx)(m:M2 X o "pop" apos e f bN):PE X (.Call (.Attribute o "pop" apos) [e,f] [] bN) (C3 td ty tx):=by
 intro pins s G H Q I h;refine Yw m.base m.few m.line WZ Xo Zk (ax (ho pins s G H _ I h) λu s1 zq=>?_);obtain⟨x,H1,I1,rx,a,ex,d,q1⟩:=zq;subst ex;obtain rfl:u=Uo a:=rx;obtain⟨t1,t2,v⟩:=vo I1 d;refine#[t1,t2,?_];rw[m.trees];refine Wk Y (VQ (Wn (ax (he pins s1 G H1 _ I1 q1) λiv s2 ⟨y,H2,I2,ry,q2⟩=>Wn (ax (hf pins s2 G H2 _ I2 q2) λfv s3 ⟨z,H3,I3,rz,b,kvs,k,ey,ea,eb,q3,q4⟩=>W7 ?_))));subst ey;obtain rfl:iv=Uo b:=ry;exact C1 hu I3 ea eb (.inr #[fv,Y]) (λv' l' w' s4 I4 eo=>#[v',_,I4,eo,q3 v' l']) λl'=>#[fv,Y,λs4 I4=>#[z,H3,I4,rz,q4 l']]
end
section
variable{prog:Tv}{w:Ul}{K:Type}[DecidableEq K]{knd:KeyKind prog w K}{A:Uk}{E:SY->SX->Prop}{s:SX}{o d:Td}{es:Array WJ}{ep:Nat}
end
section
variable{prog:Tv}{w:Ul}{A:Uk}{E:SY->SX->Prop}{s:SX}
end
noncomputable abbrev KD(prog:Tv)(w:Ul):=XH (dt prog w)
abbrev Row:=Td × List Key × Td × SY
section
variable{prog:Tv}{w:Ul}{A:Uk}{E:SY->SX->Prop}{s:SX}
theorem Lz{h h':UU}{k:List Key}{a:Td}(x:(KD prog w).is h k a)(e:∀ o,h.get? a=O o->h'.get? a=O o):(KD prog w).is h' k a :=
 let ⟨o,af,n,h1,r⟩:=x;#[o,af,n,e o h1,r]
def wk(prog:Tv)(w:Ul)(h:UU)(r:Row):Prop:=(∃ o m,h.get? r.1=O o/\o.cls = .type "tuple" /\ o.data = .seq (List.toArray [.ref r.2.2.1,r.2.2.2]) m)/\(KD prog w).is h r.2.1 r.2.2.1
theorem wk.keep{h h':UU}{r:Row}(x:wk prog w h r)(e1:∀ o,h.get? r.1=O o->h'.get? r.1=O o)(e2:∀ o,h.get? r.2.2.1=O o->h'.get? r.2.2.1=O o):wk prog w h' r :=
 let ⟨⟨o,m,a,b⟩,c⟩:=x;#[#[o,m,e1 o a,b],Lz c e2]
end
section
variable{X:Cx}{pins:List (Td × Obj)}{G:L2.St}{H:Hp}{s:SX}
end
theorem dS{c:Prop}[Decidable c]{a b:Prop}(h:c->a)(h':¬ c->b):if c then a else b:=by
 by_cases z:c
 .rw[if_pos z];exact h z
 .rw[if_neg z];exact h' z
theorem Bw{P:Tv}{w:Ul}{H:Hp}(h:UU)(hb:Vl<h.objs.size):bH P w H (h.push { cls:=.type "dict",data:=.dict (List.toArray []) }) h.objs.size (.dK []) :=
 #[Uq _,beq_eq_false_iff_ne.mpr (UZ (T6 hb)),[],.nil,Heap.DictOf.new h]
section
variable{X:Cx}{pos:Pos}
theorem Inv.LA{pins:List (Td × Obj)}{G:L2.St}{H:Hp}{s:SX}(I:Inv X pins G H s):Vl<s.heap.objs.size:=by have h:TN<s.heap.objs.size:=(I.mod.glob.keeps I.bk).lt;exact abV (by decide) h
def C4:TE:=λy H Q=>∀ p,H p=J->Q (.ref p) (upd H p (.dT []))
theorem C5:PE X (.Dict [] [] pos) C4:=λpins s G H Q I h=>wpAny_Dict_empty
 #[.ref s.heap.objs.size,_,I.laid (a:=s.heap.objs.size) (o:=.dT []) (t':=s.toks) (λy y z=>Ta _ z) (Th _)
  #[Uq _,beq_eq_false_iff_ne.mpr (UZ (T6 (Inv.LA I))),[],.nil,_,(List.toArray []),0,TV _ Y,#[Y,Y,Y],Y,Y,ZG],Y,h _ (I.ah.fresh (Th _))]
theorem C6{x:Str}{n:Int}(h:∃ t,X.mg x=O (.int n t))(hg:Gl X x)(hd:(x == ("__debug__" : Str))=false:=by decide):PE X (.Name x pos) (tC (.int n)):=by obtain⟨t,ht⟩:=h;exact mz (v:=.int n) hg ht #[t,Y] hd
end
def fF(B:UU)(l:List Env)(x:Td)(cls a0 mk:SY)(h:UU):Prop:=B.StaysIn h/\B.get? x=J/\h.FunFrames B l/\h.TracedAtW B x cls a0 mk
section
variable{M:ab5}{A:Uk}{E:SY->SX->Prop}{s:SX}{B:UU}{l outer:List Env}{env:Env}{L x C:Td}{cls a0 mk:SY}{Q:Unit->SX->Prop}
theorem LB(fz:A.frames=O (env::outer))(hf:env.frame=O L)(fl:fF B (env::outer) x cls a0 mk s.heap)
 (k:∀ h',Xm B outer x cls a0 h'->s.heap.UpToSlots h'->Q () { s with heap:=h' }):TX M A (leaving env (.ref x)) Q E s:=by
 obtain⟨f1,f2,f3,f4⟩:=fl;by_cases q:mk=ZV L
 .subst q;unfold leaving;exact SW (wpAny_noteFrame_againW hf f4 (aau #[f1,f2,f3,f4] λh' g sl=>k h' #[g.1,g.2.1,g.2.2.1.2.2,g.2.2.2] sl))
 .obtain⟨ox,us,T,oT,ts,e1,⟨rfl,e2⟩,e3,e4,e5,e6,e7,e8,e9⟩:=f4;unfold leaving ZZ;simp only[hf];refine SW (SW (Xa e1 e3 e4 ?_));rw[if_pos (by simp)];refine SW (Xa e7 e8 e9 ?_);rw[if_neg (by simpa using q)];refine SW (Yn e7 e8 (VF.mp e9).1 ?_);have jn:∀ b,b≠T->(s.heap.update T (YR (·.setIfInBounds 3 Value.none))).get? b=s.heap.get? b:=λb z=>Ud _ _ (UZ z);have neT:∀ b o,s.heap.get? b=O o->(∀ us,o.data ≠ .fields us)->b≠T:=λb o z n y=>by rw[y,e7] at z;cases z;exact n ts e8
  refine wpAny_newEntryW fz (f3.of_keeps λb o z n=>#[o,(jn b (neT b o z n)).trans z,Y]) hf ((jn x (UZ e6)).trans e1) (λb o z=>(jn b λy=>by rw[y,e5] at z;cases z).trans (f1 b o z)) f2 e3 (VF.mp e4).1 e2 λh' g=>?_;obtain⟨g1,⟨v,v,g2⟩,g3,g4⟩:=g;exact k h' #[g1,f2,g2,g3] λb o z n=>g4 b o ((jn b (neT b o z n)).trans z) n
theorem LC{α:Type}{LD:String}{Qa:α->SX->Prop}(fl:fF B l x cls a0 mk s.heap)(k:∀ h' mk',fF B l x cls a0 mk' h'->s.heap.UpToSlots h'->E (.ref x) { s with heap:=h' }):TX M A (aav LD (.ref x) env:Sem α) Qa E s:=by
 obtain⟨f1,f2,f3,ox,us,T,oT,ts,e1,e2,e3,e4,e5,e6,e7,e8,e9⟩:=fl;unfold aav;refine SW (Xa e1 e3 e4 ?_);rw[if_neg (by simp)];have go:TX M A (aa7 (.ref x) env.frame) (λv s'=>E (.ref x) s') E s:=by
  unfold aa7;refine SW (Xa e1 e3 e4 ?_);rw[if_pos (by simp)];refine Yn e7 e8 (VF.mp e9).1 ?_;have jn:∀ b,b≠T->(s.heap.update T (YR (·.setIfInBounds 3 (env.frame.elim Value.none λf=>ZV f)))).get? b=s.heap.get? b:=λb z=>Ud _ _ (UZ z);have neT:∀ b o,s.heap.get? b=O o->(∀ us,o.data ≠ .fields us)->b≠T:=λb o z n y=>by rw[y,e7] at z;cases z;exact n ts e8
  have l3:=(VF.mp e9).1;refine k _ (env.frame.elim Value.none λf=>ZV f) #[λb o z=>(jn b λy=>by rw[y,e5] at z;cases z).trans (f1 b o z),f2,f3.of_keeps λb o z n=>#[o,(jn b (neT b o z n)).trans z,Y],?_] λb o z n=>#[o.slots,(jn b (neT b o z n)).trans z]
  exact#[ox,us,T,_,_,(jn x (UZ e6)).trans e1,e2,e3,e4,e5,e6,VJ _ e7 (Zj (W3 e8 _)),W3 e8 _,by simp[l3]]
 first
  | exact SW (Tc (SW (Ue go (λv v z=>aa4 z) λv v z=>z)))
  | exact SW (Ue go (λv v z=>aa4 z) λv v z=>z)
theorem fF.but{h h':UU}{ob:Obj}(fl:fF B l x cls a0 mk h)(hC:h.get? C=O ob)(hn:∀ us,ob.data ≠ .fields us)(hB:B.get? C=J)(hl:C∉ay l)(sb:Heap.SameBut C h h'):fF B l x cls a0 mk h':=by
 obtain⟨f1,f2,f3,ox,us,T,oT,ts,e1,e2,e3,e4,e5,e6,e7,e8,e9⟩:=fl;have nx:x≠C:=λz=>by rw[z,hC] at e1;cases e1;exact hn _ e3
 have nT:T≠C:=λz=>by rw[z,hC] at e7;cases e7;exact hn _ e8
 have all:∀ (l:List Env),C∉ay l->h.FunFrames B l->h'.FunFrames B l:=by
  intro l
  induction l with
  | nil=>intro v v;trivial
  | cons env r ih =>
   intro hs hl;obtain⟨hk,⟨L,o,hf,hn,ho,hd⟩,hr⟩:=hl;unfold ay at hs;rw[UT,hf] at hs;exact#[hk,#[L,o,hf,hn,(sb.2 L λz=>hs (by rw[z];exact WW)).trans ho,hd],ih (λz=>hs (Uw _ z)) hr]
 exact#[λb o z=>(sb.2 b λy=>by rw[y,hB] at z;cases z).trans (f1 b o z),f2,all l hl f3,ox,us,T,oT,ts,(sb.2 x nx).trans e1,e2,e3,e4,e5,e6,(sb.2 T nT).trans e7,e8,e9]
theorem fF.less{B' h:UU}(fl:fF B l x cls a0 mk h)(k:B'.StaysIn B):fF B' l x cls a0 mk h:=by obtain⟨f1,f2,f3,ox,us,T,oT,ts,e1,e2,e3,e4,e5,e6⟩:=fl;exact#[λb o z=>f1 b o (k b o z),Y4 k f2,PySem.W.funFrames_base k f3,ox,us,T,oT,ts,e1,e2,e3,e4,Y4 k e5,e6]
end
def LF(P:Tv)(w:Ul)(C:Td)(outer:List Env)(H:Hp)(s:SX)(E:XK)(e:SY)(s':SX):Prop :=
 ∃ (x:Td) (cls a0 mk:SY) (H':Hp) (B:UU),e = .ref x/\s'.os=s.os/\YD s'.gens/\Un (ay outer) [C] H H' s.heap s'.heap /\
  (∀ b o,s.heap.get? b=O o->H b=J->b∉ay outer->b≠C->B.get? b=O o)/\(∀ b o,s.heap.get? b=O o->b∉ay outer->b≠C->∃ o',B.get? b=O o')/\bu P w H' B/\H' x=J/\s.heap.get? x=J /\
  fF B outer x cls a0 mk s'.heap/\E cls J H'
structure C7(P:Tv)(w:Ul)(X:Cx)(E:XK):Prop where
 eR:X.stack=X.env::X.outer
 frm:X.env.frame=O X.env.locals
 on:∀ (C:Td),X.s₀.heap.objs.size<=C->∀ (pins:List (Td × Obj)) (G:L2.St) (H:Hp) (s:SX) (e:SY) (s':SX),Inv X pins G H s->LF P w C X.stack H s E e s'->X.xe e s'
section
variable{P:Tv}{w:Ul}{K:SV}{mg:Str->Option SY}{base:UU}{N:List Str}{qual:Str}{scope:Xj}{f:Td}{cd:SY}{A:Uk}{outer:List Env}{s:SX}{H:Hp}{E:XK}
theorem LG:C7 P w (cV (bW P w) P w K mg base N qual scope f cd A outer s H E) E:=by
 refine#[Y,Y,?_];intro C hC pins G H1 s1 ev s2 I cx;obtain⟨x,cls,a0,mk,H',B,rfl,os,bare,un,kb,tb,ah,hx,hn,fl,hE⟩:=cx;have ni:s.heap.objs.size<=C:=hC;have fz:(cV (bW P w) P w K mg base N qual scope f cd A outer s H E).A.frames=O (UP qual scope s.heap.objs.size f cd::outer):=I.ok.frames;have hF:s1.heap.FunFrames base (UP qual scope s.heap.objs.size f cd::outer):=I.stack;have jI:∀ b o,s.heap.get? b=O o->b≠s.heap.objs.size:=λb o e=>T6 (Tg e);have fV:∀ b o,s.heap.get? b=O o->b≠C:=λb o e=>T6 (Tu (Tg e) ni);have LH:∀ b o,s.heap.get? b=O o->b∉[C]:=λb o e z=>fV b o e (TY.mp z);have ft:∀ b o,s.heap.get? b=O o->b∉ay outer->b∉ay (UP qual scope s.heap.objs.size f cd::outer):=λb o e hb z=>by
  rcases vw rfl z with z|z
  .exact jI b o e z
  .exact hb z
 have vx:∀ b,b∈ay outer->b∈ay (UP qual scope s.heap.objs.size f cd::outer):=λb hb=>by unfold ay;rw[UT];exact Uw _ hb
 have ub:Un (ay outer) [] H H1 s.heap s1.heap:=I.base;have oN:Un (ay (UP qual scope s.heap.objs.size f cd::outer)) [C] H1 H' s1.heap s2.heap:=un;have kZ:∀ b∈ay (UP qual scope s.heap.objs.size f cd::outer),H1 b=J:=I.jH;refine LB fz Y fl λh' jf up=>?_;have stays:=jf.1;have dE:∀ b∈ay (UP qual scope s.heap.objs.size f cd::outer),b≠C->∀ o,s1.heap.get? b=O o->∃ sl,h'.get? b=O { o with slots:=sl }:=λb hb hc o q=>by obtain⟨y,o',bI,hnf⟩:=hF.mem hb;rw[q] at bI;cases bI;obtain⟨sl,e1⟩:=oN.slot b o q (kZ b hb) hb (λz=>hc (TY.mp z));obtain⟨di,e2⟩:=up b _ e1 hnf;exact#[di,e2]
 refine#[x,cls,a0,H',B,Y,os.trans I.os,bare,#[λb o q n hb aN=>?_,λb o q n hb aN=>?_,λb o q n aN=>?_,λb o q aN=>?_,λb xs q=>un.b9 _ _ (ub.b9 _ _ q),λb o u q=>un.cg _ _ _ (ub.cg _ _ _ q),λb ps q=>?_],λb o q n hb=>?_,λb o q hb=>?_,ah,hx,?_,jf,hE]
 .exact stays b o (kb b o (ub.keep b o q n hb aN) (ub.free b o q n aN) (ft b o q hb) (fV b o q))
 .obtain⟨sl,e1⟩:=ub.slot b o q n hb aN;obtain⟨di,e2⟩:=dE b (vx b hb) (fV b o q) _ e1;exact#[di,e2]
 .obtain⟨o',e1⟩:=ub.there b o q aN;exact oN.free b o' e1 (ub.free b o q n aN) (LH b o q)
 .obtain⟨o',e1⟩:=ub.there b o q aN;by_cases hb:b∈ay (UP qual scope s.heap.objs.size f cd::outer)
  .obtain⟨sl,e2⟩:=dE b hb (fV b o q) o' e1;exact#[_,e2]
  .obtain⟨o2,e2⟩:=tb b o' e1 hb (fV b o q);exact#[o2,stays b o2 e2]
 .obtain⟨m1,e1⟩:=ub.cv b ps q;obtain⟨m2,e2⟩:=un.cv b _ e1;exact#[m1++m2,by rw[e2,WU]]
 .exact kb b o (ub.keep b o q n hb (by simp)) (ub.free b o q n (by simp)) (ft b o q hb) (fV b o q)
 .obtain⟨o',e1⟩:=ub.there b o q (by simp);exact tb b o' e1 (ft b o q hb) (fV b o q)
 .cases q:s.heap.get? x with
  | none=>rfl
  | some u =>
   obtain⟨o',z⟩:=ub.there x u q (by simp);rw[hn] at z;cases z
end
def sF(X:Cx)(C:Td)(e:SY)(s':SX):Prop:=∃ m,s'.heap.Ns C m/\∀ h',Heap.SameBut C s'.heap h'->∀ env:Env,env.locals=C->TX (model X.prog X.w) X.A (aav "comprehension.variables-let-go" e env:Sem SY) (λy y=>False) X.xe { s' with heap:=h' }
noncomputable def cZ(X:Cx)(N':List Str)(scope:Xj)(cl:List (Str × Td))(C:Td)(s2:SX)(H2:Hp)(ex:List Td)(pn:List (Td × Obj)):Cx :=
 Xp (cy X N' scope cl C s2 H2 ex pn) (Ze (model X.prog X.w) X.A (Wz scope cl C X.env) (sF X C)) pn
def sG(X:Cx)(C:Td)(s2:SX)(H2:Hp)(ex:List Td):Prop:=∃ (pins:List (Td × Obj)) (G:L2.St),Inv X pins G H2 s2/\s2.heap.objs.size<=C/\∀ b∈ex,cF X pins H2 b
section
variable{X:Cx}{pins:List (Td × Obj)}{G:L2.St}{H2:Hp}{s2:SX}{x:Str}{px pos:Pos}{elt iter:Vh}{ifs:List Vh}{scope:Xj}{cl:List (Str × Td)}{fr:List Nat}{ys:List Str}{tt:TT}{te:TE}
theorem LI{C:Td}{ex:List Td}{pn:List (Td × Obj)}(S:gO X x scope cl fr ys)(I2:Inv X pins G H2 s2)(f2:∀ b∈ex,cF X pins H2 b)(hC:s2.heap.objs.size<=C)(hex:∀ b∈ex,b<s2.heap.objs.size):(cZ X (x::ys) scope cl C s2 H2 ex pn).Ok:=BK (Ke S I2 f2 hC hex)
theorem LJ{P:Tv}{w:Ul}{N':List Str}{C:Td}{ex:List Td}{pn:List (Td × Obj)}{E:XK}(hP:X.prog=P)(hw:X.w=w)(F:C7 P w X E)(bk:sG X C s2 H2 ex):Passes (bW P w) (cZ X N' scope cl C s2 H2 ex pn) E:=by
 subst hP hw;obtain⟨pins,G,I2,hC,f2⟩:=bk;intro i0 σ' H1 s1 ev s3 I cx;obtain⟨x,cls,a0,H',B,rfl,os,bare,un,kb,tb,ah,hx,hn,fl,hE⟩:=cx;have I1:Inv X pins G H1 s1:=I2.kG (ch:=ex) I.os I.base I.ah I.bare λb hb=>by obtain⟨v,d1,d2,d3,d4,d5⟩:=f2 b hb;exact#[d3,d1,d4,d5]
 have LK:X.s₀.heap.objs.size<=C:=TL I2.sz hC;obtain⟨m,⟨oC,es,ep,sH,C8,LL⟩,v⟩:=I.loc;have sH:s1.heap.get? C=O oC:=sH;have C9:H1 C=J:=I.free;have eR:(cZ X N' scope cl C s2 H2 ex pn).stack=X.stack:=rfl;rw[eR] at un kb tb fl;have wm:C∉ay X.stack:=λz=>by
  rcases Tz.mp (I2.iz C z) with q|q
  .have:=I2.lt;walk_at "o"
  .exact I2.qX hC q
 have LM:B.get? C=O oC:=kb C oC sH C9 wm;have LN:=I1.jH;have hF:=I1.stack;have fz:X.A.frames=O (X.env::X.outer):=I1.ok.frames.trans (congrArg O F.eR);rw[F.eR] at fl;show TX (model X.prog X.w) X.A (ZZ (.ref x) X.env) (λv oG=>sF X C (.ref x) oG) (sF X C) s3;refine Zl fz F.frm fl λh4 LO LP=>?_;obtain⟨a1,a2,a3,a4⟩:=LO;have c4:h4.get? C=O oC:=a1 C oC LM;have nf:∀ us,oC.data ≠ .fields us:=λus z=>by rw[C8] at z;cases z
 refine#[m,#[oC,es,ep,c4,C8,LL],λh5 sb env he=>?_];have kB:(VS B [C]).StaysIn B:=λb o z=>X8 _ z;have LQ:C∉ay (X.env::X.outer):=by rw[<- F.eR];exact wm
 have g5:fF (VS B [C]) (X.env::X.outer) x cls a0 (ZV X.env.locals) h5:=fF.but (fF.less #[a1,a2,a3,a4] kB) c4 nf (Zy _ (by simp)) LQ sb;refine LC g5 λh6 mk' g6 pj=>?_;have dP:∀ b o,B.get? b=O o->b≠C->(VS B [C]).get? b=O o:=λb o z n=>XI _ z (by simpa using n);have Dc:∀ b o,B.get? b=O o->b≠C->h6.get? b=O o:=λb o z n=>g6.1 b o (dP b o z n);have dE:∀ b∈ay X.stack,∀ o,s1.heap.get? b=O o->∃ sl,h6.get? b=O { o with slots:=sl }:=λb hb o q=>by have LR:b≠C:=λz=>wm (z ▸ hb);obtain⟨v,o',bI,hnf⟩:=hF.mem hb;rw[q] at bI;cases bI;obtain⟨sl,e1⟩:=un.slot b o q (LN b hb) hb (by simp);obtain⟨di,e2⟩:=LP b _ e1 hnf;obtain⟨LS,e3⟩:=pj b _ ((sb.2 b LR).trans e2) hnf;exact#[LS,e3]
 refine F.on C LK pins G H1 s1 (.ref x) _ I1 #[x,cls,a0,mk',H',VS B [C],Y,os,bare,#[λb o q n hb aN=>?_,λb o q n hb aN=>?_,λb o q n aN=>un.free b o q n (by simp),λb o q aN=>?_,un.b9,un.cg,un.cv],λb o q n hb hc=>dP b o (kb b o q n hb) hc,λb o q hb hc=>?_,λa o q=>?_,hx,hn,by rw[F.eR];exact g6,hE]
 .exact Dc b o (kb b o q n hb) (by simpa using aN)
 .exact dE b hb o q
 .by_cases hb:b∈ay X.stack
  .obtain⟨sl,e⟩:=dE b hb o q;exact#[_,e]
  .obtain⟨o',e⟩:=tb b o q hb;exact#[o',Dc b o' e (by simpa using aN)]
 .obtain⟨o',e⟩:=tb b o q hb;exact#[o',dP b o' e hc]
 .have ni:H' C=J:=un.free C oC sH C9 (by simp);refine (ah a o q).fU (λb u hb z=>dP b u z λy=>?_) (λv z=>z) λv v z=>z;subst y;rcases hb with hb|hb
  .rw[hb,q] at ni;cases ni
  .rw[hb] at ni;cases ni
theorem LU{J9q:It}{fp:List Td}{it:Td}{tn:Nat->UU->Prop}{E:SY->SX->Prop}{Q:VK}{RR:SY->Td->abw->SX->Prop}
 (S:gO X x scope cl fr ys) (hc:X.calm=true)
 (hb:∀ (C:Td) (s:SX) (H:Hp) (ex:List Td) (pn:List (Td × Obj)),sG X C s H ex->iK (cZ X (x::ys) scope cl C s H ex pn) ifs tt/\PE (cZ X (x::ys) scope cl C s H ex pn) elt te)
 (I2:Inv X pins G H2 s2) (T:Turn X.prog X.w X.K (.Name x px) J9q fp it tn) (dO:tn 0 s2.heap) (f2:∀ b∈fp,cF X pins H2 b)
 (h:mT J9q (fr.map λj=>(G[j]?).join) tt te H2 Q)
 (oO:∀ D C s' H',Inv X pins G H' s'->(∃ m,s'.heap.Ns C m)->cF X pins H' C->Q (.ref D) H'->RR (.ref D) C (.ok .next) s')
 (Dd:∀ D C e s',sF X C e s'->RR (.ref D) C (.error e) s') :
 TX (model X.prog X.w) X.A (ab2 []) (λacc s3=>TX (model X.prog X.w) X.A (newFunctionEnv scope X.env.globals cl [] X.env.qual J .none (O X.env)) (λoW s4 =>
  XN (model X.prog X.w) X.A (.compStart (.ListComp elt [#[.Name x px,iter,ifs,0]] scope pos) 0 (.ref it) acc { oW with scope:=relabel scope X.env }) (RR acc oW.locals) s4) E s3) E s2:=by
 obtain⟨W,⟨m0,w0⟩,turn⟩:=h;refine UL (ZC (λy hy=>by simpa using Vc.mp S.nocell y hy) (λy hy=>absurd hy (by simp)) (λh1 fZ dQ=>?_) S.kind);dsimp only at fZ dQ ⊢;generalize eP:s2.heap.push { cls:=.type "list",dict:=J,data:=.seq ([]:List SY).toArray }=P2 at fZ dQ ⊢;have sz:P2.objs.size=s2.heap.objs.size+1:=by rw[<- eP,Yk]
 have fc:s2.heap.objs.size≠P2.objs.size:=by walk_at "o"
 have keep:∀ b o,s2.heap.get? b=O o->h1.get? b=O o:=λb o e=>by have lt:=Tg e;exact dQ.extBut b o (by walk_at "o") (Ta _ (eP ▸ Ta _ e))
 have hD:h1.get? s2.heap.objs.size=O { cls:=.type "list",data:=.seq ([]:List SY).toArray 0 } :=
  dQ.extBut _ _ fc (Ta _ (eP ▸ TV _ Y))
 have jg:∀ b∈fp,b<s2.heap.objs.size:=λb hb=>by obtain⟨o,e,_⟩:=T.obj 0 _ dO b hb;exact Tg e
 have rW:∀ b,s2.heap.objs.size<=b->b∉ay X.stack:=λb hle z=>by
  rcases Tz.mp (I2.iz b z) with q|q
  .have:=I2.lt;walk_at "o"
  .exact I2.qX hle q
 generalize eC:P2.objs.size=C at fZ dQ fc ⊢;generalize eD:s2.heap.objs.size=D at fc hD jg rW;have gQ:s2.heap.objs.size<=C:=by walk_at "o"
 have jT:s2.heap.objs.size<=D:=by walk_at "o"
 have bk:sG X C s2 H2 fp:=#[pins,G,I2,gQ,f2]
 have vJ:(cZ X (x::ys) scope cl C s2 H2 fp (X.pn++pins)).Ok:=LI S I2 f2 gQ (λb hb=>by have:=jg b hb;walk_at "o");have mU:∀ p∈X.pn++pins,p.1≠C/\p.1≠D/\p.1∉ay X.stack/\∀ b∈fp,p.1≠b:=λp hp=>by
  obtain⟨e,n,nL,nf,_⟩:=I2.pin p hp;have lt:=Tg e;refine#[by walk_at "o",by walk_at "o",λz=>?_,λb hb=>(f2 b hb).2.2.2.2.2 p hp];rcases Tz.mp (I2.iz _ z) with q|q
  .exact nL q
  .exact nf q
 have I4:Inv (cZ X (x::ys) scope cl C s2 H2 fp (X.pn++pins)) [] (J::fr.map λj=>(G[j]?).join) H2 { s2 with heap:=h1,toks:=s2.toks+([]:List (Str × SY)).length }:=by
  refine#[vJ,Y,I2.bare,Un.kept keep,#[_,fZ,λi y v e1 e2 e3=>?_],λy c e=>?_,I2.ah.fresh gQ,λy c e=>I2.dz y c (S.cls.get y c e),λp hp=>?_,I2.ah.kept keep,?_]
  .cases i with
   | zero=>simp at e2
   | succ i =>
    simp only[Vs] at e1 e2;have oX:ys[i]?=O y:=e1;obtain⟨j,c,hN,hσ,hk,vK,vL⟩:=S.ay.get i y v oX e2;obtain⟨m,hm,hl⟩:=I2.loc;obtain⟨u,ru,lu⟩:=hl j y v hN hσ (.inr (.inl hk));refine#[u,ru,.inr #[.inl ?_,c,vK,?_]]
    .have z:=Vc.mp S.kfr y (Ui oX);exact (by simpa using z:(relabel scope X.env).names.lookup y=O .cell)
    .rcases lu with ⟨z,_⟩|⟨_,c',e',q'⟩
     .rw[hk] at z;cases z
     .rw[vL] at e';cases e';obtain⟨o,ho,hd⟩:=q';exact#[o,keep _ _ ho,hd]
  .obtain⟨v,o,ho,hd⟩:=I2.cell y c (S.cls.get y c e);exact#[v,o,keep _ _ ho,hd]
  .have cp:p∈X.pn++pins:=by have:p∈(X.pn++pins)++[]:=hp;simpa using this
   obtain⟨e,n,_,_,d⟩:=I2.pin p cp;obtain⟨p1,_,p3,_⟩:=mU p cp;exact#[keep _ _ e,n,p1,p3,d]
  .show (J::fr.map λj=>(G[j]?).join).length=(x::ys).length;simp[S.ay.len]
 have oP:tn 0 h1:=T.keep 0 _ _ dO λb _ o e=>keep b o e;have k8:∀ (H':Hp) (o:Obj),(∀ b∈fp,H' b=J)->∀ b∈fp,cF (cZ X (x::ys) scope cl C s2 H2 fp (X.pn++pins)) [(D,o)] H' b:=λH' o hn b hb=>by
  obtain⟨_,d1,d2,d3,d4,d5⟩:=f2 b hb;have lt:=jg b hb;refine#[hn b hb,?_,λz=>?_,.inl hb,λy c e=>d4 y c (S.cls.get y c e),λp hp=>?_]
  .show b≠C;walk_at "o"
  .rcases Tz.mp (I2.iz b z) with q|q
   .exact d1 q
   .exact d2 q
  .have cp:p∈(X.pn++pins)++[(D,o)]:=hp;rcases TQ.mp cp with z|z
   .exact d5 p z
   .have:p=(D,o):=by simpa using z
    subst this;show D≠b;walk_at "o"
 have loop:∀ s':SX,s' = { s2 with heap:=h1,toks:=s2.toks+([]:List (Str × SY)).length } ->
  XN (model X.prog X.w) X.A (.compLoop (.ListComp elt [#[.Name x px,iter,ifs,0]] scope pos) 0 (.ref it) (.ref D) (Wz scope cl C X.env)) (RR (.ref D) C) s':=by
  rintro s' rfl;refine codeAny_compLoop_tests (λn s'=>∃ i zs H' o af nn,Inv (cZ X (x::ys) scope cl C s2 H2 fp (X.pn++pins)) [] (o::fr.map λj=>(G[j]?).join) H' s'/\tn i s'.heap/\(∀ b∈fp,H' b=J)/\H' D=J /\
   s'.heap.get? D=O { cls:=.type "list",data:=.seq (af:List SY).toArray nn }/\Vals zs af/\W i n zs H') ?_ m0 #[0,[],H2,J,[],0,I4,oP,λb hb=>(f2 b hb).1,I2.ah.fresh jT,hD,.nil,w0]
  rintro n s3 ⟨i,zs,H3,o3,af,nn,I3,jO,jP,k9,vB,r3,w3⟩;have oQ:Inv (cZ X (x::ys) scope cl C s2 H2 fp (X.pn++pins)) [(D,{ cls:=.type "list",data:=.seq af.toArray nn })] (o3::fr.map λj=>(G[j]?).join) H3 s3:=I3.kF λp hp=>by
   have:p=(D,{ cls:=.type "list",data:=.seq af.toArray nn }):=by simpa using hp
   subst this;exact#[vB,k9,fc,rW D (Th _),λv z=>nomatch z]
  have sI:∀ e s',(cZ X (x::ys) scope cl C s2 H2 fp (X.pn++pins)).xe e s'->Ze (model X.prog X.w) X.A (Wz scope cl C X.env) (λe s'=>RR (.ref D) C (.error e) s') e s':=λe s' z=>Ue z (λ_ _ y=>Dd D C _ _ y) λ_ _ y=>Dd D C _ _ y;generalize Ze (model X.prog X.w) X.A (Wz scope cl C X.env) (λe s'=>RR (.ref D) C (.error e) s')=XE at sI ⊢;rcases turn i n zs H3 w3 with ⟨stop,hlen,q⟩|⟨go,hlen,N,oR,step⟩
  .refine Ue (T.done (cZ X (x::ys) scope cl C s2 H2 fp (X.pn++pins)) Y Y Y hc i _ s3 _ H3 (λ_ _=>False) oQ (k8 H3 _ jP) jO stop) (λr s4 zq=>?_) λ_ _ z=>z.elim;obtain⟨hr,J4⟩:=zq;subst hr;have un:=J4.base;have vC:∀ b o,s2.heap.get? b=O o->b≠D:=λb o e=>by have:=Tg e;walk_at "o"
   have fB:∀ b u,H3 b=O u->b≠D:=λb u e z=>by rw[z,k9] at e;cases e
   refine oO D C s4 (upd H3 D (.lst zs)) ?_ ?_ ?_ (q D k9)
   .refine I2.kG (ch:=fp) J4.os #[un.keep,un.slot,λb o e nn hx=>?_,un.there,λb xs e=>?_,λb o u e=>?_,λb ps e=>?_] (λa o e=>?_) J4.bare λb hb=>?_
    .rw[az (vC b o e)];exact un.free b o e nn hx
    .have:=un.b9 b xs e;rw[az (fB b _ this)];exact this
    .have:=un.cg b o u e;rw[az (fB b _ this)];exact this
    .obtain⟨more,this⟩:=un.cv b ps e;exact#[more,by rw[az (fB b _ this)];exact this]
    .by_cases ha:a=D
     .subst ha;rw[ao] at e;cases e;exact#[hlen,af,nn,r3,(J4.pin (a,_) (Te _ (TY.mpr Y))).1]
     .rw[az ha] at e;exact (J4.ah a o e).fU (λ_ _ _ z=>z) (λb z=>by rw[az (fB b _ z)];exact z) λb xs z=>by rw[az (fB b _ z)];exact z
    .obtain⟨_,d1,d2,d3,d4,d5⟩:=f2 b hb;exact#[d3,d1,d4,d5]
   .obtain⟨m,hm,_⟩:=J4.loc;exact#[m,hm]
   .exact I2.jM gQ (by rw[az (UZ fc)];exact J4.free)
  .refine Ue (T.item (cZ X (x::ys) scope cl C s2 H2 fp (X.pn++pins)) Y Y Y hc i _ s3 _ H3 XE oQ (k8 H3 _ jP) jO go) (λr s4 zq=>?_) λ_ _ z=>z;obtain⟨u,hr,h4⟩:=zq;subst hr;have go':TX (model X.prog X.w) X.A (Wr (.Name x px) (.ref it) u >>= λ_=>assign (.Name x px) (Wz scope cl C X.env) u) (λ_ s5 =>
    TX (model X.prog X.w) X.A (forIn ifs true λc r=>if r=true then do let ok <- abu c (Wz scope cl C X.env) (eval c (Wz scope cl C X.env));pure (Vi ok) else pure (Vi r)) (λok s6 =>
     if ok=true then TX (model X.prog X.w) X.A (eval elt (Wz scope cl C X.env)) (λy s7 =>
      TX (model X.prog X.w) X.A (call (.builtin "list.append") [.ref D,y]) (λ_ s8=>∃ m,m<n/\∃ i zs H' o af nn,Inv (cZ X (x::ys) scope cl C s2 H2 fp (X.pn++pins)) [] (o::fr.map λj=>(G[j]?).join) H' s8/\tn i s8.heap/\(∀ b∈fp,H' b=J)/\H' D=J /\
       s8.heap.get? D=O { cls:=.type "list",data:=.seq (af:List SY).toArray nn }/\Vals zs af/\W i m zs H') XE s7) XE s6
     else ∃ m,m<n/\∃ i zs H' o af nn,Inv (cZ X (x::ys) scope cl C s2 H2 fp (X.pn++pins)) [] (o::fr.map λj=>(G[j]?).join) H' s6/\tn i s6.heap/\(∀ b∈fp,H' b=J)/\H' D=J /\
      s6.heap.get? D=O { cls:=.type "list",data:=.seq (af:List SY).toArray nn }/\Vals zs af/\W i m zs H') XE s5) XE s4:=by
    refine SW (ax h4 λ_ s5 zq=>?_);obtain⟨y5,H5,I5,r5,yl,gD,kM⟩:=zq;have ot:=I5.pinned (k8 H5 _ kM) (T.obj _ _ gD);refine Ue (mC (X:=cZ X (x::ys) scope cl C s2 H2 fp (X.pn++pins)) (i:=0) S.nd Y (.inl (UM S.own)) (.inr (UM S.own)) _ s5 _ H5 y5 u (λσ' H'=>σ'=(O y5::fr.map λj=>(G[j]?).join)/\H'=H5) ot r5 #[Y,Y]) (λ_ s6 zq=>?_) sI;obtain⟨σ6,H6,I6,e6,LV⟩:=zq;subst e6 LV;have after:∀ (s7:SX) (H7:Hp),Inv (cZ X (x::ys) scope cl C s2 H2 fp (X.pn++pins)) ([(D,{ cls:=.type "list",data:=.seq af.toArray nn })]++mD fp s5.heap) (O y5::fr.map λj=>(G[j]?).join) H7 s7 ->
     Inv (cZ X (x::ys) scope cl C s2 H2 fp (X.pn++pins)) [] (O y5::fr.map λj=>(G[j]?).join) H7 s7/\tn (i+1) s7.heap/\(∀ b∈fp,H7 b=J)/\H7 D=J/\s7.heap.get? D=O { cls:=.type "list",data:=.seq af.toArray nn }:=λs7 H7 I7=>by
     have pD:=I7.pin (D,{ cls:=.type "list",data:=.seq af.toArray nn }) (Te _ (TR _ (TY.mpr Y)));refine#[I7.kF λp hp=>absurd hp (by simp),T.keep _ _ _ gD λb hb o e=>(I7.pin (b,o) (Te _ (Te _ (mE hb e)))).1,λb hb=>?_,pD.2.1,pD.1];obtain⟨o,e,_⟩:=T.obj _ _ gD b hb;exact (I7.pin (b,o) (Te _ (Te _ (mE hb e)))).2.1
    refine Ue ((hb C s2 H2 fp (X.pn++pins) bk).1 _ s6 _ H6 _ I6 (step y5 H6 yl)) (λok s7 zq=>?_) sI;obtain⟨H7,I7,q7⟩:=zq
    try dsimp only at q7
    by_cases ah:ok=true
    .rw[if_pos ah] at q7 ⊢;refine Ue ((hb C s2 H2 fp (X.pn++pins) bk).2 _ s7 _ H7 _ I7 q7) (λyv s8 zq=>?_) sI;obtain⟨y8,H8,I8,r8,n8⟩:=zq;obtain⟨m',lg,w8⟩:=oR _ _ n8;obtain⟨J8,vD,vE,oU,lj⟩:=after s8 H8 I8;have hl:=r3.length;refine Zv Yd #[_,lj,Y] XO (Xy _ _) (Yv D af.toArray nn yv (by rw[To];walk_at "o")) #[lj,?_];have oV:=YW lj (λa=>a.push yv);rw[aah] at oV;refine#[m',lg,i+1,zs++[y8],H8,O y5,af++[yv],_,J8.turned (it:=D) (λb o aL e=>(Ud _ _ (UZ aL)).trans e) oU fc (.inr jT) (λy c e z=>?_) (λp hp=>?_),T.keep _ _ _ vD λb aL o e=>?_,vE,oU,oV,r3.append (.cons r8 .nil),w8]
     .obtain⟨v,o,ho,_⟩:=I2.cell y c (S.cls.get y c e);have:=Tg ho;walk_at "o"
     .have cp:p∈X.pn++pins:=by have:p∈(X.pn++pins)++[]:=hp;simpa using this
      exact (mU p cp).2.1
     .have:=jg b aL;exact (Ud _ _ (by walk_at "o")).trans e
    .rw[if_neg ah] at q7 ⊢;obtain⟨m',lg,w7⟩:=oR _ _ q7;obtain⟨J7,vF,vG,vH,vI⟩:=after s7 H7 I7;exact#[m',lg,i+1,zs,H7,O y5,af,nn,J7,vF,vG,vH,vI,r3,w7]
   have e0:(Wr (.Name x px) (.ref it) u >>= λ_=>assign (.Name x px) (Wz scope cl C X.env) u)=assign (.Name x px) (Wz scope cl C X.env) u:=rfl;rw[e0] at go';exact go'
 exact Y2 (loop _ Y) (T.self X.A 0 _ _ _ oP (loop _ Y))
theorem LW{wi:TI}(S:gO X x scope cl fr ys)(hc:X.calm=true)(hi:PI X (.Name x px) iter wi)
 (hb:∀ (C:Td) (s:SX) (H:Hp) (ex:List Td) (pn:List (Td × Obj)),sG X C s H ex->iK (cZ X (x::ys) scope cl C s H ex pn) ifs tt/\PE (cZ X (x::ys) scope cl C s H ex pn) elt te)
 (hs:∀ z,Vu iter X.env z=pure z:=by intro v;rfl):PE X (.ListComp elt [#[.Name x px,iter,ifs,0]] scope pos) (rV wi fr tt te):=by
 intro pins s G H Q I h;rw[eval_ListComp];refine WR (use:=J) Y hs S.clos S.kind (λy hy hl=>?_) (ax (hi pins s G H _ I h) λxv s1 h1=>ax h1 λoq s2 h2=>?_)
 .have z:=Vc.mp S.names y hy;rw[hl] at z;simpa using z
 .obtain⟨it,fp,tn,J9q,H2,rfl,I2,T,dO,f2,hB⟩:=h2;refine LU (RR:=λacc C=>compPost (model X.prog X.w) X.A X.xe J (EP X pins G Q) acc C) S hc hb I2 T dO f2 hB (λD C s' H' J' hn fC q=>?_) λD C e s' z=>z;obtain⟨m,hm⟩:=hn;obtain⟨c0,c1,c2,c3,c4,c5⟩:=fC;exact#[m,hm,λh' sb=>#[.ref D,H',J'.turned (it:=C) (λb o hb e=>sb.extBut b o hb e) c0 c1 c3 c4 c5,Y,q]]
end
def LX(K:SV)(m:Nat)(G9q:Td)(tb th:TS)(E':XK):TS:=λD G H=>tb D G H/\∀ cls H',E' cls J H'->∃ C,cls = .ref C/\Wi K (.ref C) (.ref G9q)=O true/\th D (T5 m J) H'
section
variable{X:Cx}{F:SY->SX->Prop}{pins pn:List (Td × Obj)}{G:L2.St}{H:Hp}{s:SX}{A':Uk}
theorem sJ(ok:X.Ok)(I:Inv (Xh X A' (X.pn++pins)) [] G H s):Inv X pins G H s:=#[ok,I.os,I.bare,I.base,I.loc,I.cell,I.free,I.dz,λp hp=>I.pin p (by simpa using hp),I.ah,I.len]
theorem LY{body lD:List Vt}{b₀:Vt}{x:Str}{np k4 pos:Pos}{tb th:TS}{G9q:Td}(E':XK)(fy:X.stack=X.env::X.outer)(wq:X.env.frame=O X.env.locals)(hg:Gl X x)(hm:X.mg x=O (.ref G9q))
 (hb:∀ F pn,Passes (bW X.prog X.w) (Xp X F pn) E'->aR (Xp X F pn) body tb) (hh:∀ A' pn,aR (Xh X A' pn) (b₀::lD) th) (hd:(x == ("__debug__" : Str))=false:=by decide) :
 PS X (.Try body [.ExceptHandler (O (.Name x np)) J (b₀::lD) k4] [] [] pos) (LX X.K X.N.length G9q tb th E'):=by
 intro pins s G H D I h;obtain⟨h1,h2⟩:=h;refine aaK ?_;refine Ue (hb (λe s₁=>TX (model X.prog X.w) X.A (ZZ e X.env) (λ_ s₂=>TX (model X.prog X.w) X.A (aa7 e J) (λ_ s₃=>TX (model X.prog X.w) X.A (handleBy e X.env [.ExceptHandler (O (.Name x np)) J (b₀::lD) k4]) (SP X pins D) X.xe s₃) X.xe s₂) X.xe s₁) (X.pn++pins) ?_ [] s G H D (BM I) h1) (λf s1 q=>?_) λe s1 q=>q
 .intro i0 σ' H1 s1 ev s2 I1 cx;obtain⟨xx,cls,a0,H',B,rfl,os,bare,un,kb,bB,ah,hx,hn,fl,hE⟩:=cx;obtain⟨C,rfl,hmt,hth⟩:=h2 cls H' hE;have dF:=I.ok;have fz:X.A.frames=O (X.env::X.outer):=by rw[<- fy];exact dF.frames
  have jf:Xm B (X.env::X.outer) xx (.ref C) a0 s2.heap:=by have z:Xm B X.stack xx (.ref C) a0 s2.heap:=fl;rw[fy] at z;exact z
  have hF:s1.heap.FunFrames X.base X.stack:=I1.stack;have kZ:∀ b∈ay X.stack,H1 b=J:=I1.jH;have pk:∀ h:UU,B.StaysIn h->s2.heap.UpToSlots h->Un (ay X.stack) [] H1 H' s1.heap h:=λh stays up=>by
   have dE:∀ b∈ay X.stack,∀ o,s1.heap.get? b=O o->∃ sl,h.get? b=O { o with slots:=sl }:=λb hb o q=>by obtain⟨_,o',bI,hnf⟩:=hF.mem hb;rw[q] at bI;cases bI;obtain⟨sl,e1⟩:=un.slot b o q (kZ b hb) hb (by simp);obtain⟨di,e2⟩:=up b _ e1 hnf;exact#[di,e2]
   refine#[λb o q nn hb aN=>stays b o (kb b o q nn hb),λb o q nn hb aN=>dE b hb o q,un.free,λb o q aN=>?_,un.b9,un.cg,un.cv];by_cases hb:b∈ay X.stack
   .obtain⟨sl,e2⟩:=dE b hb o q;exact#[_,e2]
   .obtain⟨o2,e2⟩:=bB b o q hb;exact#[o2,stays b o2 e2]
  refine Zl fz wq jf λh₄ wt wu=>?_;refine aau wt λh₅ jo wx=>?_;have pq:s2.heap.UpToSlots h₅:=wu.trans wx;have I5:Inv (Xh X (X.A.mark (O (.ref xx))) (X.pn++pins)) [] σ' H' { s2 with heap:=h₅ }:=by
   refine rR (I1.kG (s':={ s2 with heap:=h₅ }) (ch:=[]) os (pk h₅ jo.1 pq) (ah.kept λb u q=>jo.1 b u q) bare (λb z=>absurd z (by simp))) ?_
   first|rfl|simp
  refine ZQ (Zm ?_) (by intro q;cases q);refine kH (X:=Xh X (X.A.mark (O (.ref xx))) (X.pn++pins)) I5 hg hm ?_ hd;obtain⟨ob,hob,hobc⟩:=jo.there;have LT:abH (model X.prog X.w) h₅ (abA (.ref xx)) (.ref C):=hobc ▸ (PySem.W.Looks.ld hob).andThen .now;refine (aa8 (M:=model X.prog X.w) (h:=h₅) I5.cw LT hmt).here ?_;refine codeAny_handlers_suite ?_;refine lands_againW jo λh₆ nj wy=>?_;have pj:s2.heap.UpToSlots h₆:=pq.trans wy;have I6:Inv (Xh X (X.A.mark (O (.ref xx))) (X.pn++pins)) [] σ' H' { s2 with heap:=h₆ }:=by
   refine rR (I1.kG (s':={ s2 with heap:=h₆ }) (ch:=[]) os (pk h₆ nj.1 pj) (ah.kept λb u q=>nj.1 b u q) bare (λb z=>absurd z (by simp))) ?_
   first|rfl|simp
  have I7:Inv (Xh X (X.A.mark (O (.ref xx))) (X.pn++pins)) [] (T5 X.N.length J) H' { s2 with heap:=h₆ } :=
   I6.weak (by rw[UI,I6.len]) λj v z=>by rw[YE] at z;split at z<;>cases z
  refine Ue (hh (X.A.mark (O (.ref xx))) (X.pn++pins) [] _ _ _ _ I7 hth) (λfl s9 q=>?_) λ_ _ z=>z.elim;cases fl with
  | next =>
   obtain⟨σ9,H9,I9,q⟩:=q;exact#[_,_,sJ dF I9,q]
  | brk =>
   obtain⟨σ9,H9,I9,q⟩:=q;exact#[_,_,sJ dF I9,q]
  | cont =>
   obtain⟨σ9,H9,I9,q⟩:=q;exact#[_,_,sJ dF I9,q]
  | ret u =>
   obtain⟨v,σ9,H9,I9,r,q⟩:=q;exact#[v,_,_,sJ dF I9,r,q]
 .have q':=SP.BN q;cases f with
  | next =>
   obtain⟨σ',H',I',q'⟩:=q';exact VT #[σ',H',I',q']
  | brk=>exact q'
  | cont=>exact q'
  | ret u=>exact q'
end
theorem De{α β:Type}{R:Hp->V->α->Prop}{R':Hp->V->β->Prop}{Ok:Hp->Prop}{ρ:L2.St}{tt:TT}{te:TE}{f:α->β}{good:α->Prop}{Q':List V->Hp->Prop}(mono:∀ H H' x a,aj H H'->R H x a->R H' x a)(o7:∀ H H' x a,aj H H'->R' H x a->R' H' x a) :
 ∀ {xs:List V} {as:List α} {ys:List V} {bs:List β} {H:Hp},aq (R H) xs as->aq (R' H) ys bs->(∀ H',aj H H'->Ok H')->(∀ x a,a∈as->∀ H',aj H H'->R H' x a->∀ Q,Q true H'->tt (O x::ρ) H' Q) ->
 (∀ x a,a∈as->∀ H',aj H H'->R H' x a->good a->∀ Q:VK,(∀ jh y,aj H' jh->R' jh y (f a)->Q y jh)->te (O x::ρ) H' Q) ->
 (∀ x a,a∈as->∀ H',aj H H'->R H' x a->¬ good a->∀ Q:VK,te (O x::ρ) H' Q) ->
 ((∀ a∈as,good a)->∀ H' zs,aj H H'->aq (R' H') zs (bs++as.map f)->Q' zs H')->jU Ok ρ tt te xs ys H Q'
 | [],[],ys,bs,H,_,hy,cX,_,_,_,q=>#[cX H (aj.refl H),q (λa h=>by simp at h) H ys (aj.refl H) (by simpa using hy)]
 | x::xs,a::as,ys,bs,H,h,hy,cX,ht,he,hx,q=>by
  refine#[cX H (aj.refl H),ht x a (.head _) H (aj.refl H) h.1 _ ?_];rw[if_pos Y];by_cases hg:good a
  .refine he x a (.head _) H (aj.refl H) h.1 hg _ λH2 y s2 r2=>?_;refine De mono o7 (bs:=bs++[f a]) (h.2.imp λx a r=>mono _ _ _ _ s2 r) ((hy.imp λx a r=>o7 _ _ _ _ s2 r).snoc r2) (λH' s'=>cX H' (s2.trans s')) (λx a ha H' s'=>ht x a (.tail _ ha) H' (s2.trans s')) (λx a ha H' s'=>he x a (.tail _ ha) H' (s2.trans s')) (λx a ha H' s'=>hx x a (.tail _ ha) H' (s2.trans s')) λoJ H' zs s' hz=>?_;refine q (λb hb=>?_) H' zs (s2.trans s') ?_
   .rcases Tz.mp hb with e|hb
    .rw[e];exact hg
    .exact oJ b hb
   .rw[TJ]
    rwa [Tf] at hz
  .exact hx x a (.head _) H (aj.refl H) h.1 hg _
 | [],_::_,_,_,_,h,_,_,_,_,_,_=>h.elim
 | _::_,[],_,_,_,h,_,_,_,_,_,_=>h.elim
theorem Df{a b c d:Int}(hb:0<b)(hd:0<d)(h:a * d=c * b):a / b=c / d:=by have e1:a * d / (b * d)=a / b:=XB a b hd;have e2:c * b / (d * b)=c / d:=XB c d hb;rw[<- e1,h,Zf b d,e2]
noncomputable def nq(s e:P2)(r:Int):Int:=(e.2-s.2) * (r-s.1)
noncomputable def wz(s e:P2)(r:Int):Int:=s.2+nq s e r / (e.1-s.1)
noncomputable def wA(s e:P2)(r:Int):Int:=s.2-(-nq s e r) / (e.1-s.1)
noncomputable def dP(ks:List P2)(r:Int)(i:Nat):Bool:=decide ((aE ks i).1<=r) && decide (r<=(aE ks (i+1)).1)
noncomputable def nr(ks:List P2)(r:Int):Nat->Nat->Option Nat
 | _,0=>J
 | i,n+1=>if dP ks r i=true then O i else nr ks r (i+1) n
theorem Dg{ks:List P2}{r:Int}:∀ {n i j:Nat},nr ks r i n=O j->i<=j/\j<i+n/\dP ks r j=true
 | 0,i,j,h=>by cases h
 | n+1,i,j,h=>by
  unfold nr at h;split at h
  .rename_i hb;cases h;exact#[Th _,by lia,hb]
  .obtain⟨h1,h2,h3⟩:=Dg h;exact#[by lia,by lia,h3]
theorem Dh{ks:List P2}{r:Int}:∀ {n i:Nat},nr ks r i n=J->∀ j,i<=j->j<i+n->dP ks r j=false
 | 0,i,h,j,h1,h2=>by lia
 | n+1,i,h,j,h1,h2=>by
  unfold nr at h;split at h
  .cases h
  .rename_i hb;by_cases e:j=i
   .subst e;simpa using hb
   .exact Dh h j (by lia) (by lia)
noncomputable def lE(ks:List P2)(r:Int):Option Nat:=nr ks r 0 (ks.length-1)
noncomputable def gg(ks:List P2)(r:Int):En:=(lE ks r).map λi=>wz (aE ks i) (aE ks (i+1)) r
noncomputable def gh(ks:List P2)(r:Int):En:=(lE ks r).map λi=>wA (aE ks i) (aE ks (i+1)) r
theorem Di{ks:List P2}{r:Int}{i:Nat}:dP ks r i=true↔(aE ks i).1 * 1<=r/\r<=(aE ks (i+1)).1 * 1:=by unfold dP;rw[Vq,decide_eq_true_eq,decide_eq_true_eq,Vp,Vp]
theorem Dj{ks:List P2}{r:Int}{i:Nat}(h:lE ks r=O i):jj ks r 1 i:=by obtain⟨y,h2,h3⟩:=Dg h;exact#[by lia,Di.mp h3]
theorem Dk{ks:List P2}{r:Int}:(∃ i,lE ks r=O i)↔hit ks r 1:=by
 refine#[λ⟨i,h⟩=>#[i,Dj h],λzq=>?_];obtain⟨i,h⟩:=zq;cases e:lE ks r with
 | some j=>exact#[j,Y]
 | none =>
  have:=Dh e i (by lia) (by have:=h.1;lia);rw[Di.mpr h.2] at this;cases this
theorem LZ{ks:List P2}{r t b:Int}(hk:gT (ks.map (·.1))=true)(h:Led ks r 1 t b)(hh:hit ks r 1):gg ks r=O (t / b)/\gh ks r=O (jZ t b):=by
 obtain⟨i,e⟩:=Dk.mpr hh;have hi:=Dj e;have hl:=si hk (i:=i) (j:=i+1) (by lia) hi.1;have on:=h.on i hi;have hb:=h.pos;unfold jX at on;have e1:t * ((aE ks (i+1)).1-(aE ks i).1)=((aE ks i).2 * ((aE ks (i+1)).1-(aE ks i).1)+nq (aE ks i) (aE ks (i+1)) r) * b:=by unfold nq;grind
 have hd:0<(aE ks (i+1)).1-(aE ks i).1:=by lia
 have q1:=Df (show 0<b by lia) hd e1;have q2:=Df (a:=-t) (c:=-((aE ks i).2 * ((aE ks (i+1)).1-(aE ks i).1)+nq (aE ks i) (aE ks (i+1)) r)) (show 0<b by lia) hd (by grind);have z1:gg ks r=O (wz (aE ks i) (aE ks (i+1)) r):=by unfold gg;rw[e];rfl
 have z2:gh ks r=O (wA (aE ks i) (aE ks (i+1)) r):=by unfold gh;rw[e];rfl
 rw[z1,z2];unfold wz wA jZ;generalize nq (aE ks i) (aE ks (i+1)) r=c at q1 q2 ⊢;generalize (aE ks (i+1)).1-(aE ks i).1=d at hd q1 q2 ⊢;rw[q1,q2];have n:d≠0:=by lia
 constructor
 .rw[abW ((aE ks i).2 * d) c,Y5 _ _ n,abW]
 .rw[show -((aE ks i).2 * d+c) = -c+(-(aE ks i).2) * d by grind,Y5 _ _ n]
  congr 1;lia
theorem L5{ks:List P2}{r:Int}(hh:¬ hit ks r 1):gg ks r=J/\gh ks r=J:=by
 have e:lE ks r=J:=by
  cases e:lE ks r with
  | none=>rfl
  | some j=>exact absurd (Dk.mp #[j,e]) hh
 unfold gg gh;rw[e];exact#[Y,Y]
noncomputable def lF(ks:List P2)(er:Int)(r:En):W2:=r.map λn=>(gg ks (n-er),gh ks (n+er))
def nu(ks:List P2)(r:En):Prop:=∀ n,r=O n->hit ks n 1
def nv(C G9q:Td)(H:Hp)(v:V)(d1 d2 s er:Int)(ks:List P2):Prop:=∃ x dx w gv,v = .ref x/\H x=O (.ins C dx [("drift",w),("since",.int s),("gauge",gv),("error",.int er)])/\cq H w d1 d2/\mZ G9q H gv ks
theorem nv.same{C G9q:Td}{H H':Hp}{v:V}{d1 d2 s er:Int}{ks:List P2}(h:nv C G9q H v d1 d2 s er ks)(e:aj H H'):nv C G9q H' v d1 d2 s er ks:=by obtain⟨x,dx,w,gv,h1,h2,h3,h4⟩:=h;exact#[x,dx,w,gv,h1,e _ _ h2,h3.same e,h4.same e]
def sL(H:Hp)(v:V)(lo hi:En):Prop:=(v = .non/\lo=J/\hi=J) ∨ ∃ t b,cq H v t b/\1<=b/\Bd 300 b/\lo=O (t / b)/\hi=O (jZ t b)
theorem sL.same{H H':Hp}{v:V}{lo hi:En}(h:sL H v lo hi)(s:aj H H'):sL H' v lo hi:=by
 rcases h with h|⟨t,b,h1,h2⟩
 .exact .inl h
 .exact .inr #[t,b,h1.same s,h2]
theorem Dl:∀ (rs:List En),aq (λx r=>x=ev r) (rs.map ev) rs
 | []=>trivial
 | _::rs=>#[Y,Dl rs]
theorem good_none{ks:List P2}:nu ks J:=λy h=>nomatch h
theorem Dm{ks:List P2}{n:Int}:nu ks (O n)↔hit ks n 1:=#[λh=>h n Y,λh m e=>by cases e;exact h]
theorem Dp{X:Cx}{A:Uk}{o i:Vh}{pos:Pos}{td ty:TE}(hu:A.units+1<Zz)(ho:PE X o td)(hi:PE X i ty)(hs:vj i)(eA:X.A=A:=by rfl):PE X (.Subscript o i pos) (vm td ty):=by subst eA;exact Jn hu ho hi hs
abbrev Tb:=List (P2 × S2)
noncomputable def a8(i j:Int):List Key:=[.inl i,.inl j]
theorem sM{a b:P2}(h:a8 a.1 a.2=a8 b.1 b.2):a=b:=by unfold a8 at h;injection h with h1 h2;injection h2 with h2 _;exact Prod.ext (Sum.inl.inj h1) (Sum.inl.inj h2)
noncomputable def dU(tb:Tb)(s:P2):Option S2:=(tb.find? λr=>decide (r.1=s)).map (·.2)
noncomputable def fh(tb:Tb)(s:P2)(w:S2):Tb:=if (tb.any λr=>decide (r.1=s))=true then tb.map (λr=>if r.1=s then (r.1,w) else r) else tb++[(s,w)]
noncomputable def cM(tb:Tb)(s:P2):Tb:=tb.filter λr=>decide (r.1≠s)
def aK(H:Hp):List (List Key × V)->Tb->Prop
 | [],[]=>True
 | kv::kvs,r::tb=>(kv.1=a8 r.1.1 r.1.2/\aO H kv.2 r.2.1 r.2.2)/\aK H kvs tb
 | _,_=>False
section
variable{H H':Hp}{kvs:List (List Key × V)}{tb:Tb}
theorem aK.len:∀ {kvs:List (List Key × V)} {tb:Tb},aK H kvs tb->kvs.length=tb.length
 | [],[],_=>rfl
 | _::kvs,_::tb,h=>congrArg (· + 1) (aK.len (kvs:=kvs) (tb:=tb) h.2)
 | [],_::_,h=>h.elim
 | _::_,[],h=>h.elim
theorem aK.imp(f:∀ v a b,aO H v a b->aO H' v a b):∀ {kvs:List (List Key × V)} {tb:Tb},aK H kvs tb->aK H' kvs tb
 | [],[],_=>trivial
 | _::kvs,_::tb,h=>#[#[h.1.1,f _ _ _ h.1.2],aK.imp f (kvs:=kvs) (tb:=tb) h.2]
 | [],_::_,h=>h.elim
 | _::_,[],h=>h.elim
theorem aK.app:∀ {kvs nh:List (List Key × V)} {tb bB:Tb},aK H kvs tb->aK H nh bB->aK H (kvs++nh) (tb++bB)
 | [],_,[],_,_,h=>h
 | _::kvs,nh,_::tb,bB,h,h'=>#[h.1,aK.app (kvs:=kvs) (tb:=tb) h.2 h']
 | [],_,_::_,_,h,_=>h.elim
 | _::_,_,[],_,h,_=>h.elim
theorem aK.keys:∀ {kvs:List (List Key × V)} {tb:Tb},aK H kvs tb->kvs.map (·.1)=tb.map λr=>a8 r.1.1 r.1.2
 | [],[],_=>rfl
 | kv::kvs,r::tb,h=>by rw[TJ,TJ,h.1.1,aK.keys (kvs:=kvs) (tb:=tb) h.2]
 | [],_::_,h=>h.elim
 | _::_,[],h=>h.elim
theorem aK.any(s:P2):∀ {kvs:List (List Key × V)} {tb:Tb},aK H kvs tb->(kvs.any λkv=>decide (kv.1=a8 s.1 s.2))=tb.any λr=>decide (r.1=s)
 | [],[],_=>rfl
 | kv::kvs,r::tb,h=>by
  rw[Xz,Xz,aK.any s (kvs:=kvs) (tb:=tb) h.2,h.1.1]
  congr 1
  by_cases e:r.1=s
  .rw[e,decide_eq_true Y,decide_eq_true Y]
  .rw[decide_eq_false e,decide_eq_false λz=>e (sM z)]
 | [],_::_,h=>h.elim
 | _::_,[],h=>h.elim
theorem aK.val(s:P2):∀ {kvs:List (List Key × V)} {tb:Tb},aK H kvs tb->(dU tb s=J->bJ kvs (a8 s.1 s.2)=J)/\∀ w,dU tb s=O w->∃ v,bJ kvs (a8 s.1 s.2)=O v/\aO H v w.1 w.2
 | [],[],_=>#[λy=>rfl,λw h=>by cases h]
 | kv::kvs,r::tb,h=>by
  have ih:=aK.val s (kvs:=kvs) (tb:=tb) h.2;by_cases e:r.1=s
  .have e1:dU (r::tb) s=O r.2:=by simp[dU,U9,e]
   rw[e1,rJ (h.1.1.trans (by rw[e]))];exact#[λz=>(by cases z),λw z=>(by cases z;exact#[_,Y,h.1.2])]
  .have e1:dU (r::tb) s=dU tb s:=by simp[dU,U9,e]
   rw[e1,rK (λz=>e (sM (h.1.1.symm.trans z)))];exact ih
 | [],_::_,h=>h.elim
 | _::_,[],h=>h.elim
theorem aK.mK{s:P2}{v:V}{w:S2}(hv:aO H v w.1 w.2):∀ {kvs:List (List Key × V)} {tb:Tb},aK H kvs tb->aK H (kvs.map λkv=>if kv.1=a8 s.1 s.2 then (kv.1,v) else kv) (tb.map λr=>if r.1=s then (r.1,w) else r)
 | [],[],_=>trivial
 | kv::kvs,r::tb,h=>by
  rw[TJ,TJ];refine#[?_,aK.mK hv (kvs:=kvs) (tb:=tb) h.2];by_cases e:r.1=s
  .rw[if_pos e,if_pos (h.1.1.trans (by rw[e]))];exact#[h.1.1,hv]
  .rw[if_neg e,if_neg (λz=>e (sM (h.1.1.symm.trans z)))];exact h.1
 | [],_::_,h=>h.elim
 | _::_,[],h=>h.elim
theorem aK.put{s:P2}{v:V}{w:S2}(h:aK H kvs tb)(hv:aO H v w.1 w.2):aK H (putK kvs (a8 s.1 s.2) v) (fh tb s w):=by
 unfold putK fh;rw[h.any s];split
 .exact h.mK hv
 .exact h.app #[#[Y,hv],trivial]
theorem aK.drop{s:P2}:∀ {kvs:List (List Key × V)} {tb:Tb},aK H kvs tb->aK H (iG kvs (a8 s.1 s.2)) (cM tb s)
 | [],[],_=>trivial
 | kv::kvs,r::tb,h=>by
  have ih:=aK.drop (s:=s) (kvs:=kvs) (tb:=tb) h.2;unfold iG cM at *;rw[US,US];by_cases e:r.1=s
  .have e2:kv.1=a8 s.1 s.2:=h.1.1.trans (by rw[e]);rw[if_neg (by simp[e2]),if_neg (by simp[e])];exact ih
  .have e2:¬ kv.1=a8 s.1 s.2:=λz=>e (sM (h.1.1.symm.trans z));rw[if_pos (by simp[e2]),if_pos (by simp[e])];exact#[h.1,ih]
 | [],_::_,h=>h.elim
 | _::_,[],h=>h.elim
theorem aK.wB:∀ {ys:List V} {kvs:List (List Key × V)} {tb:Tb},aK H kvs tb->jm H ys kvs->iM H ys (tb.map (·.1))
 | [],[],[],_,_=>trivial
 | y::ys,kv::kvs,r::tb,h,⟨⟨a,e,ha⟩,t⟩=>#[#[a,e,by rw[h.1.1] at ha;exact ha],aK.wB (ys:=ys) (kvs:=kvs) (tb:=tb) h.2 t]
 | [],_::_,_,_,h=>h.elim
 | _::_,[],_,_,h=>h.elim
 | _,[],_::_,h,_=>h.elim
 | _,_::_,[],h,_=>h.elim
end
def TabAt(H:Hp)(p:Td)(tb:Tb):Prop:=∃ kvs,H p=O (.dT kvs)/\aK H kvs tb
def Fr(H H':Hp):Prop:=∀ b o,(∀ kvs,o≠HO.dT kvs)->H b=O o->H' b=O o
def fG(ps:List Td)(H H':Hp):Prop:=∀ b o,b∉ps->H b=O o->H' b=O o
def sN(H:Hp)(ps:List Td):Prop:=∀ p∈ps,∃ kvs,H p=O (.dT kvs)
section
variable{H H' H2:Hp}{ps qs:List Td}{p q:Td}{tb:Tb}
theorem Fr.trans(a:Fr H H')(b:Fr H' H2):Fr H H2:=λc o h e=>b c o h (a c o h e)
theorem Fr.refl(H:Hp):Fr H H:=λy y y e=>e
theorem _root_.L2.aj.fr(s:aj H H'):Fr H H':=λb o y e=>s b o e
theorem fG.trans(a:fG ps H H')(b:fG ps H' H2):fG ps H H2:=λc o h e=>b c o h (a c o h e)
theorem SameBut.but(a:SameBut p H H')(h:p∈ps):fG ps H H':=λc o z e=>a c o (λy=>z (y ▸ h)) e
theorem fG.fr(a:fG ps H H')(d:sN H ps):Fr H H':=λb o ho e=>by
 by_cases hb:b∈ps
 .obtain⟨kvs,hk⟩:=d b hb;rw[hk] at e;exact absurd (Option.some.inj e).symm (ho kvs)
 .exact a b o hb e
theorem pA{kvs:List (List Key × V)}(h:H p=O (.dT kvs)):sN H [p]:=λb hb=>#[kvs,(TY.mp hb) ▸ h]
theorem SameBut.fr{kvs:List (List Key × V)}(a:SameBut p H H')(h:H p=O (.dT kvs)):Fr H H':=fG.fr (SameBut.but a (.head _)) (pA h)
theorem fG.new(s:aj H H')(a:fG ps H' H2)(h:∀ b∈ps,b∉qs->H b=J):fG qs H H2:=λb o hb e=>by
 by_cases hp:b∈ps
 .have:=h b hp hb;rw[this] at e;cases e
 .exact a b o hp (s b o e)
theorem aO.fr{v:V}{a b:En}(h:aO H v a b)(f:Fr H H'):aO H' v a b:=let ⟨p,e,hp⟩:=h;#[p,e,f _ _ (λy z=>nomatch z) hp]
theorem bQ.fr{v:V}{a:P2}(h:bQ H v a)(f:Fr H H'):bQ H' v a:=let ⟨p,e,hp⟩:=h;#[p,e,f _ _ (λy z=>nomatch z) hp]
theorem TabAt.fr(h:TabAt H p tb)(f:Fr H H')(e:∀ kvs,H p=O (.dT kvs)->H' p=O (.dT kvs)):TabAt H' p tb:=let ⟨kvs,a,b⟩:=h;#[kvs,e _ a,b.imp λy y y z=>z.fr f]
theorem TabAt.same(h:TabAt H p tb)(s:aj H H'):TabAt H' p tb:=h.fr s.fr λy e=>s _ _ e
theorem TabAt.but(h:TabAt H p tb)(b:fG ps H H')(d:sN H ps)(hp:p∉ps):TabAt H' p tb:=h.fr (b.fr d) λy e=>b _ _ hp e
theorem TabAt.ne(h:TabAt H p tb)(hq:H q=J):p≠q:=λz=>by obtain⟨kvs,a,y⟩:=h;rw[z,hq] at a;cases a
theorem wC{K:SV}{a:Td}{xs:List V}(h:ak K H a xs)(f:Fr H H'):ak K H' a xs:=by
 rcases h with (h|⟨o,h⟩)|h
 .exact .inl (.inl (f _ _ (λy z=>nomatch z) h))
 .exact .inl (.inr #[o,f _ _ (λy z=>nomatch z) h])
 .exact .inr h
end
theorem Dq{tb:Tb}{r:P2 × S2}(hn:(tb.map (·.1)).Nodup)(h:r∈tb):dU tb r.1=O r.2:=by
 induction tb with
 | nil=>cases h
 | cons x l ih =>
  rw[TJ,UH] at hn;rcases Tz.mp h with z|z
  .rw[<- z];simp[dU,U9]
  .have e:¬ x.1=r.1:=λy=>hn.1 (y ▸ Ua.mpr #[r,z,Y]);have:dU (x::l) r.1=dU l r.1:=by simp[dU,U9,e]
   rw[this,ih hn.2 z]
def pB(e t:Int)(s:P2):Prop:=(0<=s.1/\s.1<e)/\0<=s.2/\s.2<t
instance (e t:Int) (s:P2):Decidable (pB e t s):=by unfold pB;infer_instance
def cC(e t:Int)(tb:Tb):Prop:=(tb.map (·.1)).Nodup/\∀ r∈tb,pB e t r.1
theorem cC.put{e t:Int}{tb:Tb}{s:P2}{w:S2}(h:cC e t tb)(hs:pB e t s):cC e t (fh tb s w):=by
 unfold fh;split
 .refine#[?_,λr hr=>?_]
  .have:(tb.map λr=>if r.1=s then (r.1,w) else r).map (·.1)=tb.map (·.1):=by rw[WS];refine XW λr _=>?_;show (if r.1=s then (r.1,w) else r).1=r.1;split<;>rfl
   rw[this];exact h.1
  .obtain⟨x,hx,rfl⟩:=Ua.mp hr;have:=h.2 x hx;split<;>exact this
 .rename_i z;refine#[?_,λr hr=>?_]
  .rw[UQ];refine BA h.1 λy=>z ?_;obtain⟨x,hx,e⟩:=Ua.mp y;rw[Xu];exact#[x,hx,by simpa using e]
  .rcases TQ.mp hr with y|y
   .exact h.2 r y
   .rw[TY.mp y];exact hs
theorem cC.drop{e t:Int}{tb:Tb}{s:P2}(h:cC e t tb):cC e t (cM tb s) :=
 #[h.1.sublist ((ZP).map _),λr hr=>h.2 r (WV.mp hr).1]
theorem cC.nil{e t:Int}:cC e t []:=#[ZG,λr h=>by cases h]
noncomputable def fH(tb:Tb):List (List Int):=tb.map λr=>[r.1.1,r.1.2]
theorem aq.sort{α:Type}{R:V->α->Prop}{xs:List V}{as:List α}{d:α}{kis:List (List Int)}(h:aq R xs as):aq R (lz kis .non xs) (lz kis d as):=by
 have hl:=h.len;have hp:=(su (n:=xs.length) (iO kis)).1;unfold lz;rw[<- hl];have gen:∀ l:List Nat,(∀ i∈l,i<xs.length)->aq R (l.map λi=>xs.getD i .non) (l.map λi=>as.getD i d):=by
  intro l
  induction l with
  | nil=>intro y;exact trivial
  | cons i l ih =>
   intro q;have hi:=q i (.head _);obtain⟨s,es,hs⟩:=h.get (Tj hi);refine#[?_,ih λj hj=>q j (.tail _ hj)];show R (xs.getD i .non) (as.getD i d);rw[S8,S8,es,Tj hi];exact hs
 exact gen _ λi hi=>by simpa using hp.mem_iff.mp hi
theorem aq.bind{α β:Type}{R:V->α->Prop}{f:β->α}:∀ {xs:List V} {bs:List β},aq R xs (bs.map f)->aq (λx b=>R x (f b)) xs bs
 | [],[],_=>trivial
 | _::_,_::_,h=>#[h.1,aq.bind h.2]
 | [],_::_,h=>h.elim
 | _::_,[],h=>h.elim
theorem L6{H:Hp}{kvs:List (List Key × V)}{tb:Tb}(h:aK H kvs tb):kvs.map (·.1)=(fH tb).map λk=>k.map YC:=by rw[h.keys];unfold fH;rw[WS];rfl
theorem L7{tb:Tb}:∀ k∈fH tb,k≠[]:=λk hk=>by
 obtain⟨r,y,rfl⟩:=Ua.mp hk;exact λz=>nomatch z
theorem Dr{K:SV}{H:Hp}:∀ {ys:List V} {tb:Tb},aq (λx (r:P2 × S2)=>bQ H x r.1) ys tb->dG K H ys (fH tb)
 | [],[],_=>trivial
 | y::ys,r::tb,⟨⟨a,e,ha⟩,t⟩=>#[#[a,e,.inl (.inl ha),λz=>nomatch z],Dr (ys:=ys) (tb:=tb) t]
 | [],_::_,h=>h.elim
 | _::_,[],h=>h.elim
def dH(H:Hp)(v:V)(r:P2 × S2):Prop:=∃ a w,v = .ref a/\H a=O (.tup [.int r.1.1,.int r.1.2,w])/\aO H w r.2.1 r.2.2
theorem dH.same{H H':Hp}{v:V}{r:P2 × S2}(h:dH H v r)(s:aj H H'):dH H' v r:=let ⟨a,w,e,ha,hw⟩:=h;#[a,w,e,s _ _ ha,hw.same s]
theorem dH.fr{H H':Hp}{v:V}{r:P2 × S2}(h:dH H v r)(s:Fr H H'):dH H' v r:=let ⟨a,w,e,ha,hw⟩:=h;#[a,w,e,s _ _ (λy z=>nomatch z) ha,hw.fr s]
noncomputable def Ds(r:P2 × S2):Wu:=.tuple [.int r.1.1,.int r.1.2,sy r.2]
theorem wD{K:SV}{H:Hp}:∀ {xs:List V} {tb:Tb},aq (dH H) xs tb->jV K H xs (tb.map Ds)
 | [],[],_=>.nil
 | x::xs,r::tb,⟨⟨a,w,e,ha,hw⟩,t⟩=>by subst e;exact .cons (.tup (aC.of ha) (.cons (.int _) (.cons (.int _) (.cons (aO.dat hw) .nil)))) (wD t)
 | [],_::_,h=>h.elim
 | _::_,[],h=>h.elim
abbrev SM:=StateT aa9 Sem
structure IS where
 p:Array Nat
 q:Array (Nat × Nat × Nat)
 g:Nat
noncomputable def up(ι:Nat->Us)(G:IS):aa9:=UC (VZ true) (G.p.map ι) G.q G.g J
def Cm(lt:Nat->Nat->Bool)(n:Nat)(prog:Tv)(w:Ul)(A:Uk)(s:SX)(ι:Nat->Us):Prop :=
 ∀ i j,i<n->j<n->∀ (E:SY->SX->Prop) (Q:Bool->SX->Prop),Q (lt i j) s->TX (model prog w) A (keyLt' (VZ true) (ι i).1 (ι j).1) Q E s
def Runs{α β:Type}(lt:Nat->Nat->Bool)(n:Nat)(m:(Nat->Us)->SM α)(G:IS)(val:β->(Nat->Us)->α)(P:β->IS->Prop):Prop :=
 ∃ b σ',P b σ'/\∀ (prog:Tv) (w:Ul) (A:Uk) (E:SY->SX->Prop) (s:SX) (ι:Nat->Us),Cm lt n prog w A s ι->∀ Q:α->aa9->Prop,Q (val b ι) (up ι σ')->wpS (model prog w) A E s (m ι) Q (up ι G)
noncomputable def gi{α β:Type}(v:β->(Nat->Us)->α)(r:ForInStep β)(ι:Nat->Us):ForInStep α:=match r with
 | .done b=>.done (v b ι)
 | .yield b=>.yield (v b ι)
def gj{β:Type}(R I:β->IS->Prop)(r:ForInStep β)(σ':IS):Prop:=match r with
 | .done b=>R b σ'
 | .yield b=>I b σ'
section
variable{lt:Nat->Nat->Bool}{n:Nat}{α β γ δ:Type}{G σ':IS}{val:β->(Nat->Us)->α}{P P':β->IS->Prop}
theorem Runs.ret{b:β}{m:(Nat->Us)->SM α}(e:∀ ι,m ι=pure (val b ι))(h:P b G):Runs lt n m G val P :=
 #[b,G,h,λy y y y y ι y Q q=>by rw[e];exact YT q]
theorem Runs.mono{m:(Nat->Us)->SM α}(h:Runs lt n m G val P)(f:∀ b σ',P b σ'->P' b σ'):Runs lt n m G val P' :=
 let ⟨b,σ',hp,k⟩:=h;#[b,σ',f b σ' hp,k]
theorem Runs.bind{m:(Nat->Us)->SM γ}{v:δ->(Nat->Us)->γ}{R:δ->IS->Prop}{f:(Nat->Us)->γ->SM α}(h:Runs lt n m G v R)(k:∀ d σ',R d σ'->Runs lt n (λι=>f ι (v d ι)) σ' val P) :
 Runs lt n (λι=>m ι >>= f ι) G val P:=by
 obtain⟨d,σ1,hr,h1⟩:=h;obtain⟨b,σ2,hp,h2⟩:=k d σ1 hr;exact#[b,σ2,hp,λprog w A E s ι c Q q=>WM (h1 prog w A E s ι c _ (h2 prog w A E s ι c Q q))]
theorem Runs.get{f:(Nat->Us)->aa9->SM α}(h:Runs lt n (λι=>f ι (up ι G)) G val P):Runs lt n (λι=>MonadState.get >>= f ι) G val P:=by obtain⟨b,σ2,hp,h2⟩:=h;exact#[b,σ2,hp,λprog w A E s ι c Q q=>WM (wpS_get (h2 prog w A E s ι c Q q))]
theorem Runs.mod{g:(Nat->Us)->aa9->aa9}{f:(Nat->Us)->PUnit->SM α}(e:∀ ι,g ι (up ι G)=up ι σ')(h:Runs lt n (λι=>f ι #[]) σ' val P):Runs lt n (λι=>modify (g ι) >>= f ι) G val P:=by obtain⟨b,σ2,hp,h2⟩:=h;exact#[b,σ2,hp,λprog w A E s ι c Q q=>WM (wpS_modify (by rw[e];exact h2 prog w A E s ι c Q q))]
theorem Runs.rule{x:String}{f:(Nat->Us)->Unit->SM α}(h:Runs lt n (λι=>f ι ()) G val P):Runs lt n (λι=>(liftM (rule x):SM Unit) >>= f ι) G val P:=by obtain⟨b,σ2,hp,h2⟩:=h;exact#[b,σ2,hp,λprog w A E s ι c Q q=>WM (wpS_lift (XF #[Y,h2 prog w A E s ι c Q q]))]
theorem Runs.elem{q:Array Nat}{i:Nat}{f:(Nat->Us)->Us->SM α}(hi:i<q.size)(h:Runs lt n (λι=>f ι (ι q[i])) G val P):Runs lt n (λι=>X7 (q.map ι) i >>= f ι) G val P:=by obtain⟨b,σ2,hp,h2⟩:=h;refine#[b,σ2,hp,λprog w A E s ι c Q q'=>?_];dsimp only;rw[elem'_eq,Array.getElem?_map,UB hi];exact WM (YT (h2 prog w A E s ι c Q q'))
theorem Runs.cmp{i j:Nat}{f:(Nat->Us)->Option Bool->SM α}(hi:i<n)(hj:j<n)(h:Runs lt n (λι=>f ι (O (lt i j))) G val P):Runs lt n (λι=>lt' (ι i) (ι j) >>= f ι) G val P:=by obtain⟨b,σ2,hp,h2⟩:=h;refine#[b,σ2,hp,λprog w A E s ι c Q q'=>?_];dsimp only;rw[lt'_eq];refine WM (WM (wpS_get ?_));refine WM (wpS_lift (YQ (c i j hi hj _ _ #[Y,?_])));exact YT (h2 prog w A E s ι c Q q')
theorem Runs.L8{i j:Nat}(hi:i<n)(hj:j<n):Runs lt n (λι=>lt' (ι i) (ι j)) G (λ(b:Option Bool) _=>b) (λb σ'=>b=O (lt i j)/\σ'=G):=by refine#[_,G,#[Y,Y],λprog w A E s ι c Q q'=>?_];dsimp only;rw[lt'_eq];refine WM (wpS_get ?_);refine WM (wpS_lift (YQ (c i j hi hj _ _ #[Y,?_])));exact YT q'
theorem Runs.list{ξ:Type}{v:β->(Nat->Us)->α}{f:(Nat->Us)->Nat->α->SM (ForInStep α)}(I:List Nat->β->IS->Prop)(R:β->IS->Prop)
 (hs:∀ x xs b G,I (x::xs) b G->Runs lt n (λι=>f ι x (v b ι)) G (gi v) (gj R (I xs)))
 (he:∀ b G,I [] b G->R b G):∀ (xs:List Nat) (b:β) (G:IS),I xs b G->Runs lt n (λι=>forIn xs (v b ι) (f ι)) G v R
 | [],b,G,h=>#[b,G,he b G h,λy y y y y ι y Q q=>by dsimp only;rw[List.forIn_nil];exact YT q]
 | x::xs,b,G,h=>by
  obtain⟨r,σ1,hr,h1⟩:=hs x xs b G h;cases r with
  | done b'=>exact#[b',σ1,hr,λprog w A E s ι c Q q=>by dsimp only;rw[aba];exact WM (h1 prog w A E s ι c _ (YT q))]
  | yield b' =>
   obtain⟨b2,σ2,sO,h2⟩:=Runs.list (ξ:=ξ) I R hs he xs b' σ1 hr;exact#[b2,σ2,sO,λprog w A E s ι c Q q=>by dsimp only;rw[aba];exact WM (h1 prog w A E s ι c _ (h2 prog w A E s ι c Q q))]
theorem Runs.cN{v:β->(Nat->Us)->α}{m:(Nat->Us)->SM (ForInStep α)}{R I:β->IS->Prop}(b:β)(e:∀ ι,m ι=pure (.done (v b ι)))(h:R b G):Runs lt n m G (gi v) (gj R I) :=
 #[.done b,G,h,λy y y y y ι y Q q=>by rw[e];exact YT q]
theorem Runs.aY{v:β->(Nat->Us)->α}{m:(Nat->Us)->SM (ForInStep α)}{R I:β->IS->Prop}(b:β)(e:∀ ι,m ι=pure (.yield (v b ι)))(h:I b G):Runs lt n m G (gi v) (gj R I) :=
 #[.yield b,G,h,λy y y y y ι y Q q=>by rw[e];exact YT q]
theorem Runs.range{v:β->(Nat->Us)->α}{a z:Nat}{f:(Nat->Us)->Nat->α->SM (ForInStep α)}{b:β}(I:Nat->β->IS->Prop)(R:β->IS->Prop)(h0:I a b G)
 (hs:∀ x b G,a<=x->x<z->I x b G->Runs lt n (λι=>f ι x (v b ι)) G (gi v) (gj R (I (x+1))))
 (he:∀ b G,I (max a z) b G->R b G):Runs lt n (λι=>forIn [a:z] (v b ι) (f ι)) G v R:=by
 have hsz:([a:z]:Std.Legacy.Range).size=z-a:=by simp[Std.Legacy.Range.size]
 have key:=Runs.list (ξ:=Unit) (lt:=lt) (n:=n) (v:=v) (f:=f) (λl c st=>∃ i,a<=i/\i<=max a z/\l=abb i (max a z-i) 1/\I i c st) R ?_ ?_ (abb a (z-a) 1) b G #[a,Th _,by omega,by congr 1;omega,h0]
 .obtain⟨b',σ1,hr,h1⟩:=key;refine#[b',σ1,hr,λprog w A E s ι c Q q=>?_];dsimp only;rw[Std.Legacy.Range.forIn_eq_forIn_range'];show wpS _ _ _ _ (forIn (abb a ([a:z]:Std.Legacy.Range).size 1) (v b ι) (f ι)) Q _;rw[hsz];exact h1 prog w A E s ι c Q q
 .rintro x rest c st ⟨i,hai,hib,hl,hI⟩;have aQ:i<max a z:=by
   rcases VM i (max a z) with h'|h'
   .exact h'
   .rw[show max a z-i=0 by omega] at hl;simp at hl
  obtain⟨k,hk⟩:∃ k,max a z-i=k+1:=#[max a z-i-1,by omega]
  rw[hk,aaL] at hl;obtain⟨rfl,rfl⟩:=List.cons.inj hl;refine Runs.mono (hs x c st hai (by omega) hI) λr σ' h'=>?_;cases r with
  | done c'=>exact h'
  | yield c'=>exact#[x+1,by omega,by omega,by congr 1;omega,h']
 .rintro c st ⟨i,hai,hib,hl,hI⟩;have:i=max a z:=by
   rcases VM i (max a z) with h'|h'
   .obtain⟨k,hk⟩:∃ k,max a z-i=k+1:=#[max a z-i-1,by omega]
    rw[hk,aaL] at hl;simp at hl
   .omega
  subst this;exact he _ _ hI
end
noncomputable def j3:Bool->Us->Array Us->Nat->Nat->Nat->SM (Option Nat):=sortPriv% PySem.Builtin.gallop
theorem L9(left:Bool)(key:Us)(arr:Array Us)(base n hint:Nat):j3 left key arr base n hint=(do
 let beyond (i:Nat):SM (Option Bool):=do
  let x <- X7 arr (base+i)
  if left then lt' x key else return (<- lt' key x).map (!·)
 let mut lastofs:=0
 let mut ofs:=1
 let mut lo:=0
 let mut hi:=0
 let O right <- beyond hint|return J
 if right then
  let maxofs:=n-hint
  for _ in [0:n] do
   if ofs ≥ maxofs then break
   let O more <- beyond (hint+ofs)|return J
   if !more then break
   lastofs:=ofs
   ofs:=2 * ofs+1
  lo:=hint+lastofs+1
  hi:=hint+min ofs maxofs
 else
  let maxofs:=hint+1
  for _ in [0:n] do
   if ofs ≥ maxofs then break
   let O found <- beyond (hint-ofs)|return J
   if found then break
   lastofs:=ofs
   ofs:=2 * ofs+1
  lo:=hint+1-min ofs maxofs
  hi:=hint-lastofs
 for _ in [0:n] do
  if lo ≥ hi then break
  let m:=lo+(hi-lo) / 2
  let O more <- beyond m|return J
  if more then lo:=m+1 else hi:=m
 return O hi):=rfl
section
variable{lt:Nat->Nat->Bool}{n:Nat}{G:IS}
end
def Lf(n:Nat)(f:(Nat->Us)->Array Us):Prop:=∃ o:Array Nat,(∀ x∈o,x<n)/\∀ ι,f ι=o.map ι
section
variable{n x:Nat}{f g:(Nat->Us)->Array Us}{o:Array Nat}
theorem Lf.of(h:∀ x∈o,x<n):Lf n (λι=>o.map ι):=#[o,h,λy=>rfl]
theorem Lf.one(hx:x<n):Lf n (λι=>(List.toArray [ι x])):=#[(List.toArray [x]),λy hy=>by simp at hy;rw[hy];exact hx,λι=>by simp]
theorem Lf.push(h:Lf n f)(hx:x<n):Lf n (λι=>(f ι).push (ι x)):=by
 obtain⟨o,ho,e⟩:=h;refine#[o.push x,λy hy=>?_,λι=>by dsimp only;rw[e,abm]];rcases Array.mem_push.mp hy with h|h
 .exact ho y h
 .rw[h];exact hx
theorem Lf.app(h:Lf n f)(h':Lf n g):Lf n (λι=>f ι++g ι):=by
 obtain⟨o,ho,e⟩:=h;obtain⟨p,hp,e'⟩:=h';refine#[o++p,λy hy=>?_,λι=>by dsimp only;rw[e,e',aaM]];rcases Array.mem_append.mp hy with h|h
 .exact ho y h
 .exact hp y h
theorem pC{a:Array Nat}{i j y:Nat}(h:y∈a.extract i j):y∈a:=by rw[<- UD,WE] at h;rw[<- UD];exact WG (UE (by simpa using h))
theorem Lf.ext{a:Array Nat}{i j:Nat}(h:∀ x∈a,x<n):Lf n (λι=>(a.map ι).extract i j) :=
 #[a.extract i j,λy hy=>h y (pC hy),λι=>(Yz).symm]
theorem Lf.rev(h:Lf n f):Lf n (λι=>(f ι).reverse):=by obtain⟨o,ho,e⟩:=h;exact#[o.reverse,λy hy=>ho y (by simpa using hy),λι=>by dsimp only;rw[e,aak]]
end
noncomputable abbrev MB(τ:Type):=Option (Array Nat) × Array Nat × τ
noncomputable def mv{τ:Type}(b:MB τ)(ι:Nat->Us):Option (Array Us) × Array Us × τ:=(b.1.map (·.map ι),b.2.1.map ι,b.2.2)
section
variable{lt:Nat->Nat->Bool}{n:Nat}{G σ':IS}{α β τ:Type}{val:β->(Nat->Us)->α}{P:β->IS->Prop}{X Y9q:(Nat->Us)->Array Us}{c:τ}{R I:MB τ->IS->Prop}
theorem Runs.ite{c:Prop}{inst:(Nat->Us)->Decidable c}{f g:(Nat->Us)->SM α}(h1:c->Runs lt n f G val P)(h2:¬ c->Runs lt n g G val P):Runs lt n (λι=>@_root_.ite _ c (inst ι) (f ι) (g ι)) G val P:=by
 by_cases h:c
 .have e:(λι=>@_root_.ite _ c (inst ι) (f ι) (g ι))=f:=funext λι=>if_pos h;rw[e];exact h1 h
 .have e:(λι=>@_root_.ite _ c (inst ι) (f ι) (g ι))=g:=funext λι=>if_neg h;rw[e];exact h2 h
theorem Runs.setG{k:Nat}{f:(Nat->Us)->PUnit->SM α}(h:Runs lt n (λι=>f ι #[]) { G with g:=k } val P):Runs lt n (λι=>modify (λs=>UC (Xx s) (Z3 s) (YA s) k (Zw s)) >>= f ι) G val P:=Runs.mod (λι=>rfl) h
theorem Dt(ι:Nat->Us):abI (up ι G)=G.g:=rfl
end
noncomputable def pE:Nat->SM Unit:=sortPriv% PySem.Builtin.setMinGallop
theorem Du(g:Nat):pE g=modify λs=>UC (Xx s) (Z3 s) (YA s) g (Zw s):=rfl
noncomputable def wG:Array Us->Array Us->SM (Array Us):=sortPriv% PySem.Builtin.mergeLo
theorem Ma(a b:Array Us):wG a b=(do
 rule "list.sort.merge-lo"
 let total:=a.size+b.size;let done (out:Array Us) (ia ib:Nat):=out++a.extract ia a.size++b.extract ib b.size;let sR (out:Array Us) (ia ib:Nat):=out++b.extract ib b.size++a.extract ia a.size
 let mut out:Array Us:=(List.toArray [<- X7 b 0])
 let mut ia:=0
 let mut ib:=1
 if ib == b.size then return done out ia ib
 if ia+1 == a.size then return sR out ia ib
 let mut minGallop:=abI (<- get)
 for _ in [0:total] do
  let mut acount:=0
  let mut bcount:=0
  for _ in [0:total] do
   let O Mb <- lt' (<- X7 b ib) (<- X7 a ia)|return done out ia ib
   if Mb then
    out:=out.push (<- X7 b ib);ib:=ib+1;bcount:=bcount+1;acount:=0
    if ib == b.size then return done out ia ib
    if bcount ≥ minGallop then break
   else
    out:=out.push (<- X7 a ia);ia:=ia+1;acount:=acount+1;bcount:=0
    if ia+1 == a.size then return sR out ia ib
    if acount ≥ minGallop then break
  rule "list.sort.gallop"
  minGallop:=minGallop+1
  for _ in [0:total] do
   if minGallop > 1 then minGallop:=minGallop-1
   pE minGallop
   let O k <- j3 false (<- X7 b ib) a ia (a.size-ia) 0|return done out ia ib
   acount:=k
   if k > 0 then
    out:=out++a.extract ia (ia+k);ia:=ia+k
    if ia+1 == a.size then return sR out ia ib
    if ia == a.size then return done out ia ib
   out:=out.push (<- X7 b ib);ib:=ib+1
   if ib == b.size then return done out ia ib
   let O k <- j3 true (<- X7 a ia) b ib (b.size-ib) 0|return done out ia ib
   bcount:=k
   if k > 0 then
    out:=out++b.extract ib (ib+k);ib:=ib+k
    if ib == b.size then return done out ia ib
   out:=out.push (<- X7 a ia);ia:=ia+1
   if ia+1 == a.size then return sR out ia ib
   if acount<7 && bcount<7 then break
  minGallop:=minGallop+1
  pE minGallop
 unsupported "internal:list.sort.merge-bound"):=rfl
section
variable{lt:Nat->Nat->Bool}{n:Nat}{G:IS}
noncomputable def bK(lt:Nat->Nat->Bool)(left:Bool)(key:Nat)(q:Array Nat)(i:Nat):Bool:=if left then lt (q.getD i 0) key else !lt key (q.getD i 0)
theorem j4{left:Bool}{key:Nat}{q:Array Nat}{base m hint:Nat}(hq:∀ x∈q,x<n)(hk:key<n)(hb:base+m<=q.size)(hh:hint<m) :
 Runs lt n (λι=>j3 left (ι key) (q.map ι) base m hint) G (λb y=>b) (λb σ'=>σ'=G/\∃ k,b=O k/\k<=m/\(0<k->bK lt left key q (base+(k-1))=true)/\(k<m->bK lt left key q (base+k)=false)):=by
 simp only[L9];have pF:∀ (i:Nat),i<m->∀ G:IS,Runs lt n (λι=>(do let x <- X7 (q.map ι) (base+i);if left=true then lt' x (ι key) else do let r <- lt' (ι key) x;pure (r.map (!·)):SM (Option Bool))) G (λb y=>b) (λb' σ'=>b'=O (bK lt left key q (base+i))/\σ'=G):=by
  intro i hi G;have hx:base+i<q.size:=by omega
  have Dv:q[base+i]<n:=hq _ (Uj hx);have eg:q.getD (base+i) 0=q[base+i]:=by rw[UK,UB hx];rfl
  unfold bK;rw[eg];cases left with
  | true =>
   refine Runs.elem hx ?_;simp only[if_true];exact Runs.L8 Dv hk
  | false =>
   refine Runs.elem hx ?_;simp only[T9,if_false];exact Runs.cmp hk Dv (Runs.ret (b:=O (!lt key q[base+i])) (λy=>rfl) #[Y,Y])
 refine Runs.bind (pF hint hh G) λd σ1 he=>?_;obtain⟨rfl,rfl⟩:=he;cases b0:bK lt left key q (base+hint) with
 | true =>
  simp only[if_true];refine Runs.bind (Runs.range (b:=((J:Option (Option Nat)),0,1)) (v:=λb y=>b) (λx b σ'=>b.1=J/\σ'=σ1/\b.2.1<b.2.2/\hint+b.2.1<m/\x+1<=b.2.2/\bK lt left key q (base+(hint+b.2.1))=true) (λb σ'=>b.1=J/\σ'=σ1/\b.2.1<b.2.2/\hint+b.2.1<m/\bK lt left key q (base+(hint+b.2.1))=true/\(hint+b.2.2<m->bK lt left key q (base+(hint+b.2.2))=false)) #[Y,Y,by decide,hh,by decide,b0] ?_ ?_) λb σ2 h2=>?_
  .rintro x ⟨b1,lastofs,ofs⟩ σ2 y y ⟨e1,rfl,p1,p2,p3,p4⟩;dsimp only at e1 p1 p2 p3 p4;subst e1;dsimp only;refine Runs.ite (λhc=>?_) λhc=>?_
   .exact Runs.cN (v:=λb y=>b) (J,lastofs,ofs) (λy=>rfl) #[Y,Y,p1,p2,p4,λz=>by dsimp only at z;omega]
   .refine Runs.bind (pF (hint+ofs) (by omega) σ2) λd σ3 he=>?_;obtain⟨rfl,rfl⟩:=he;cases b2:bK lt left key q (base+(hint+ofs)) with
    | true=>exact Runs.aY (v:=λb y=>b) (J,ofs,2 * ofs+1) (λy=>rfl) #[Y,Y,by dsimp only;omega,by dsimp only;omega,by dsimp only;omega,b2]
    | false=>exact Runs.cN (v:=λb y=>b) (J,lastofs,ofs) (λy=>rfl) #[Y,Y,p1,p2,p4,λy=>b2]
  .rintro ⟨b1,lastofs,ofs⟩ σ2 ⟨e1,rfl,p1,p2,p3,p4⟩;dsimp only at e1 p1 p2 p3 p4;exact#[e1,Y,p1,p2,p4,λz=>by dsimp only at z;omega]
  .obtain⟨b1,lastofs,ofs⟩:=b;obtain⟨e1,rfl,p1,p2,p4,p5⟩:=h2;dsimp only at e1 p1 p2 p4 p5;subst e1;dsimp only;have q1:0<hint+lastofs+1->bK lt left key q (base+(hint+lastofs+1-1))=true:=λy=>by rw[Yg];exact p4
   have q2:hint+min ofs (m-hint)<m->bK lt left key q (base+(hint+min ofs (m-hint)))=false:=λz=>by
    have:min ofs (m-hint)=ofs:=by omega
    rw[this] at z ⊢;exact p5 z
   have q3:hint+lastofs+1<=hint+min ofs (m-hint)/\hint+min ofs (m-hint)<=m:=by omega
   generalize hint+lastofs+1=sS at q1 q3 ⊢;generalize hint+min ofs (m-hint)=sT at q2 q3 ⊢;refine Runs.bind (Runs.range (b:=((J:Option (Option Nat)),sS,sT)) (v:=λb y=>b) (λx b σ'=>b.1=J/\σ'=σ2/\b.2.1<=b.2.2/\b.2.2<=m/\b.2.2-b.2.1+x<=m/\(0<b.2.1->bK lt left key q (base+(b.2.1-1))=true)/\(b.2.2<m->bK lt left key q (base+b.2.2)=false)) (λb σ'=>b.1=J/\σ'=σ2/\b.2.1=b.2.2/\b.2.2<=m/\(0<b.2.1->bK lt left key q (base+(b.2.1-1))=true)/\(b.2.2<m->bK lt left key q (base+b.2.2)=false)) #[Y,Y,q3.1,q3.2,by dsimp only;omega,q1,q2] ?_ ?_) λb σ3 h3=>?_
   .rintro x ⟨b1,lo,hi⟩ σ3 y y ⟨e1,rfl,r1,r2,r3,r4,r5⟩;dsimp only at e1 r1 r2 r3 r4 r5;subst e1;dsimp only;refine Runs.ite (λhc=>?_) λhc=>?_
    .exact Runs.cN (v:=λb y=>b) (J,lo,hi) (λy=>rfl) #[Y,Y,by dsimp only;omega,r2,r4,r5]
    .refine Runs.bind (pF (lo+(hi-lo) / 2) (by omega) σ3) λd σ4 he=>?_;obtain⟨rfl,rfl⟩:=he;cases b2:bK lt left key q (base+(lo+(hi-lo) / 2)) with
     | true=>exact Runs.aY (v:=λb y=>b) (J,lo+(hi-lo) / 2+1,hi) (λy=>rfl) #[Y,Y,by dsimp only;omega,r2,by dsimp only;omega,(λy=>by dsimp only;rw[Yg];exact b2),r5]
     | false=>exact Runs.aY (v:=λb y=>b) (J,lo,lo+(hi-lo) / 2) (λy=>rfl) #[Y,Y,by dsimp only;omega,by dsimp only;omega,by dsimp only;omega,r4,λy=>b2]
   .rintro ⟨b1,lo,hi⟩ σ3 ⟨e1,rfl,r1,r2,r3,r4,r5⟩;dsimp only at e1 r1 r2 r3 r4 r5;exact#[e1,Y,by dsimp only;omega,r2,r4,r5]
   .obtain⟨b1,lo,hi⟩:=b;obtain⟨e1,rfl,r1,r2,r4,r5⟩:=h3;dsimp only at e1 r1 r2 r4 r5;subst e1 r1;dsimp only;exact Runs.ret (b:=O lo) (λy=>rfl) #[Y,lo,Y,r2,r4,r5]
 | false =>
  simp only[T9,if_false];refine Runs.bind (Runs.range (b:=((J:Option (Option Nat)),0,1)) (v:=λb y=>b) (λx b σ'=>b.1=J/\σ'=σ1/\b.2.1<b.2.2/\b.2.1<=hint/\x+1<=b.2.2/\bK lt left key q (base+(hint-b.2.1))=false) (λb σ'=>b.1=J/\σ'=σ1/\b.2.1<b.2.2/\b.2.1<=hint/\bK lt left key q (base+(hint-b.2.1))=false/\(b.2.2<=hint->bK lt left key q (base+(hint-b.2.2))=true)) #[Y,Y,by decide,Uq _,by decide,b0] ?_ ?_) λb σ2 h2=>?_
  .rintro x ⟨b1,lastofs,ofs⟩ σ2 y y ⟨e1,rfl,p1,p2,p3,p4⟩;dsimp only at e1 p1 p2 p3 p4;subst e1;dsimp only;refine Runs.ite (λhc=>?_) λhc=>?_
   .exact Runs.cN (v:=λb y=>b) (J,lastofs,ofs) (λy=>rfl) #[Y,Y,p1,p2,p4,λz=>by dsimp only at z;omega]
   .refine Runs.bind (pF (hint-ofs) (by omega) σ2) λd σ3 he=>?_;obtain⟨rfl,rfl⟩:=he;cases b2:bK lt left key q (base+(hint-ofs)) with
    | true=>exact Runs.cN (v:=λb y=>b) (J,lastofs,ofs) (λy=>rfl) #[Y,Y,p1,p2,p4,λy=>b2]
    | false=>exact Runs.aY (v:=λb y=>b) (J,ofs,2 * ofs+1) (λy=>rfl) #[Y,Y,by dsimp only;omega,by dsimp only;omega,by dsimp only;omega,b2]
  .rintro ⟨b1,lastofs,ofs⟩ σ2 ⟨e1,rfl,p1,p2,p3,p4⟩;dsimp only at e1 p1 p2 p3 p4;exact#[e1,Y,p1,p2,p4,λz=>by dsimp only at z;omega]
  .obtain⟨b1,lastofs,ofs⟩:=b;obtain⟨e1,rfl,p1,p2,p4,p5⟩:=h2;dsimp only at e1 p1 p2 p4 p5;subst e1;dsimp only;have q1:0<hint+1-min ofs (hint+1)->bK lt left key q (base+(hint+1-min ofs (hint+1)-1))=true:=λz=>by rw[show hint+1-min ofs (hint+1)-1=hint-ofs by omega];exact p5 (by omega)
   have q2:hint-lastofs<m->bK lt left key q (base+(hint-lastofs))=false:=λy=>p4;have q3:hint+1-min ofs (hint+1)<=hint-lastofs/\hint-lastofs<=m:=by omega
   generalize hint+1-min ofs (hint+1)=sS at q1 q3 ⊢;generalize hint-lastofs=sT at q2 q3 ⊢;refine Runs.bind (Runs.range (b:=((J:Option (Option Nat)),sS,sT)) (v:=λb y=>b) (λx b σ'=>b.1=J/\σ'=σ2/\b.2.1<=b.2.2/\b.2.2<=m/\b.2.2-b.2.1+x<=m/\(0<b.2.1->bK lt left key q (base+(b.2.1-1))=true)/\(b.2.2<m->bK lt left key q (base+b.2.2)=false)) (λb σ'=>b.1=J/\σ'=σ2/\b.2.1=b.2.2/\b.2.2<=m/\(0<b.2.1->bK lt left key q (base+(b.2.1-1))=true)/\(b.2.2<m->bK lt left key q (base+b.2.2)=false)) #[Y,Y,q3.1,q3.2,by dsimp only;omega,q1,q2] ?_ ?_) λb σ3 h3=>?_
   .rintro x ⟨b1,lo,hi⟩ σ3 y y ⟨e1,rfl,r1,r2,r3,r4,r5⟩;dsimp only at e1 r1 r2 r3 r4 r5;subst e1;dsimp only;refine Runs.ite (λhc=>?_) λhc=>?_
    .exact Runs.cN (v:=λb y=>b) (J,lo,hi) (λy=>rfl) #[Y,Y,by dsimp only;omega,r2,r4,r5]
    .refine Runs.bind (pF (lo+(hi-lo) / 2) (by omega) σ3) λd σ4 he=>?_;obtain⟨rfl,rfl⟩:=he;cases b2:bK lt left key q (base+(lo+(hi-lo) / 2)) with
     | true=>exact Runs.aY (v:=λb y=>b) (J,lo+(hi-lo) / 2+1,hi) (λy=>rfl) #[Y,Y,by dsimp only;omega,r2,by dsimp only;omega,(λy=>by dsimp only;rw[Yg];exact b2),r5]
     | false=>exact Runs.aY (v:=λb y=>b) (J,lo,lo+(hi-lo) / 2) (λy=>rfl) #[Y,Y,by dsimp only;omega,by dsimp only;omega,by dsimp only;omega,r4,λy=>b2]
   .rintro ⟨b1,lo,hi⟩ σ3 ⟨e1,rfl,r1,r2,r3,r4,r5⟩;dsimp only at e1 r1 r2 r3 r4 r5;exact#[e1,Y,by dsimp only;omega,r2,r4,r5]
   .obtain⟨b1,lo,hi⟩:=b;obtain⟨e1,rfl,r1,r2,r4,r5⟩:=h3;dsimp only at e1 r1 r2 r4 r5;subst e1 r1;dsimp only;exact Runs.ret (b:=O lo) (λy=>rfl) #[Y,lo,Y,r2,r4,r5]
end
abbrev Up(lt:Nat->Nat->Bool)(l:List Nat):Prop:=l.Pairwise λx y=>lt y x=false
def Gm(lt:Nat->Nat->Bool)(A B out:List Nat)(ia ib:Nat):Prop:=(out++(A.drop ia++B.drop ib)).Perm (A++B)/\Up lt out/\∀ x∈out,∀ y∈A.drop ia++B.drop ib,lt y x=false
def Gf(lt:Nat->Nat->Bool)(A B o:List Nat):Prop:=o.Perm (A++B)/\Up lt o
section
variable{lt:Nat->Nat->Bool}{A B out:List Nat}{ia ib:Nat}
theorem Gm.fin{R:List Nat}(h:Gm lt A B out ia ib)(hR:R.Perm (A.drop ia++B.drop ib))(hs:Up lt R):Gf lt A B (out++R):=by refine#[(hR.append_left out).trans h.1,Ur.mpr #[h.2.1,hs,λx hx y hy=>h.2.2 x hx y (hR.mem_iff.mp hy)]]
theorem Gm.iP(h:Gm lt A B out ia ib)(sB:Up lt B)(hi:ib<B.length)(hc:∀ y∈A.drop ia,lt y B[ib]=false):Gm lt A B (out++[B[ib]]) ia (ib+1):=by
 obtain⟨h1,h2,h3⟩:=h;have ed:B.drop ib=B[ib]::B.drop (ib+1):=Ut hi;have sd:Up lt (B.drop ib):=sB.sublist (V0 _ _);rw[ed] at h1 h3 sd;have wH:=UG.mp sd;refine#[?_,?_,?_]
 .refine List.Perm.trans ?_ h1;rw[Tf];refine List.Perm.append_left out ?_;show (B[ib]::(A.drop ia++B.drop (ib+1))).Perm _;exact aaN.symm
 .refine Ur.mpr #[h2,We _ _,λx hx y hy=>?_];rw[TY.mp hy];exact h3 x hx _ (Te _ (.head _))
 .intro x hx y hy;rcases TQ.mp hx with hx|hx
  .refine h3 x hx y ?_;rcases TQ.mp hy with hy|hy
   .exact TR _ hy
   .exact Te _ (.tail _ hy)
  .rw[TY.mp hx];rcases TQ.mp hy with hy|hy
   .exact hc y hy
   .exact wH.1 y hy
theorem Gm.fi(h:Gm lt A B out ia ib)(sA:Up lt A)(hi:ia<A.length)(hc:∀ y∈B.drop ib,lt y A[ia]=false):Gm lt A B (out++[A[ia]]) (ia+1) ib:=by
 obtain⟨h1,h2,h3⟩:=h;have ed:A.drop ia=A[ia]::A.drop (ia+1):=Ut hi;have sd:Up lt (A.drop ia):=sA.sublist (V0 _ _);rw[ed] at h1 h3 sd;have wH:=UG.mp sd;refine#[?_,?_,?_]
 .refine List.Perm.trans ?_ h1;rw[Tf];exact List.Perm.append_left out (List.Perm.refl _)
 .refine Ur.mpr #[h2,We _ _,λx hx y hy=>?_];rw[TY.mp hy];exact h3 x hx _ (TR _ (.head _))
 .intro x hx y hy;rcases TQ.mp hx with hx|hx
  .refine h3 x hx y ?_;rcases TQ.mp hy with hy|hy
   .exact TR _ (.tail _ hy)
   .exact Te _ hy
  .rw[TY.mp hx];rcases TQ.mp hy with hy|hy
   .exact wH.1 y hy
   .exact hc y hy
theorem Mc(sB:Up lt B)(hi:ib<B.length):∀ y∈B.drop ib,lt y B[ib]=false∨y=B[ib]:=λy hy=>by
 have ed:B.drop ib=B[ib]::B.drop (ib+1):=Ut hi;have sd:Up lt (B.drop ib):=sB.sublist (V0 _ _);rw[ed] at hy sd;rcases Tz.mp hy with z|z
 .exact .inr z
 .exact .inl ((UG.mp sd).1 y z)
theorem gk(O9q:Ord lt)(sB:Up lt B)(hi:ib<B.length):∀ y∈B.drop ib,lt y B[ib]=false:=λy hy=>by
 rcases Mc sB hi y hy with h|h
 .exact h
 .rw[h];exact O9q.rfl' _
theorem Gm.pG(O9q:Ord lt)(sA:Up lt A)(sB:Up lt B)(hb:ib<B.length):∀ (k:Nat) {out:List Nat} {ia:Nat},Gm lt A B out ia ib->(hk:ia+k<=A.length)->(∀ i (hi:i<k),lt B[ib] (A[ia+i]'(by omega))=false)->Gm lt A B (out++(A.drop ia).take k) (ia+k) ib
 | 0,out,ia,h,_,_=>by simpa using h
 | k+1,out,ia,h,hk,hc=>by
  have hi:ia<A.length:=by omega
  have h1:=h.fi sA hi λy hy=>O9q.tr (hc 0 (by omega)) (gk O9q sB hb y hy);have h2:=Gm.pG O9q sA sB hb k h1 (by omega) λi ji=>by have:=hc (i+1) (by omega);simpa only [show ia+1+i=ia+(i+1) by omega] using this
  have ed:A.drop ia=A[ia]::A.drop (ia+1):=Ut hi;rw[ed,ZR];rw[Tf,show ia+1+k=ia+(k+1) by omega] at h2;exact h2
theorem Gm.lG(O9q:Ord lt)(sA:Up lt A)(sB:Up lt B)(ha:ia<A.length):∀ (k:Nat) {out:List Nat} {ib:Nat},Gm lt A B out ia ib->(hk:ib+k<=B.length)->(∀ i (hi:i<k),lt (B[ib+i]'(by omega)) A[ia]=true)->Gm lt A B (out++(B.drop ib).take k) ia (ib+k)
 | 0,out,ib,h,_,_=>by simpa using h
 | k+1,out,ib,h,hk,hc=>by
  have hi:ib<B.length:=by omega
  have h1:=h.iP sB hi λy hy=>O9q.tr (O9q.asym (hc 0 (by omega))) (gk O9q sA ha y hy);have h2:=Gm.lG O9q sA sB ha k h1 (by omega) λi ji=>by have:=hc (i+1) (by omega);simpa only [show ib+1+i=ib+(i+1) by omega] using this
  have ed:B.drop ib=B[ib]::B.drop (ib+1):=Ut hi;rw[ed,ZR];rw[Tf,show ib+1+k=ib+(k+1) by omega] at h2;exact h2
theorem Gm.done(h:Gm lt A B out ia ib)(sA:Up lt A)(sB:Up lt B)(he:A.length<=ia∨B.length<=ib):Gf lt A B (out++A.drop ia++B.drop ib):=by
 rw[Tf];refine h.fin (List.Perm.refl _) ?_;rcases he with z|z
 .rw[Ve z,Ts];exact sB.sublist (V0 _ _)
 .rw[Ve z,TF];exact sA.sublist (V0 _ _)
theorem Gm.last(h:Gm lt A B out ia ib)(sB:Up lt B)(he:ia+1=A.length)(hg:∀ y∈B,lt (A[ia]'(by omega)) y=false):Gf lt A B (out++B.drop ib++A.drop ia):=by
 rw[Tf];refine h.fin Zn ?_;have ed:A.drop ia=[A[ia]'(by omega)]:=by rw[Ut (by omega),Ve (by omega)]
 rw[ed];refine Ur.mpr #[sB.sublist (V0 _ _),We _ _,λx hx y hy=>?_];rw[TY.mp hy];exact hg x (WG hx)
end
theorem bE(a:Array Nat)(i k:Nat):(a.extract i (i+k)).toList=(a.toList.drop i).take k:=by rw[WE];simp[Yo]
theorem bZ(a:Array Nat)(i:Nat):(a.extract i a.size).toList=a.toList.drop i:=by rw[WE,Yo];exact Uu (by simp)
def Lx(f:(Nat->Us)->Array Us)(o:Array Nat):Prop:=∀ ι,f ι=o.map ι
section
variable{x:Nat}{f g:(Nat->Us)->Array Us}{o p:Array Nat}
theorem Lx.of:Lx (λι=>o.map ι) o:=λy=>rfl
theorem Lx.one:Lx (λι=>(List.toArray [ι x])) (List.toArray [x]):=λι=>by simp
theorem Lx.push(h:Lx f o):Lx (λι=>(f ι).push (ι x)) (o.push x):=λι=>by dsimp only;rw[h ι,abm]
theorem Lx.app(h:Lx f o)(h':Lx g p):Lx (λι=>f ι++g ι) (o++p):=λι=>by dsimp only;rw[h ι,h' ι,aaM]
theorem Lx.ext{a:Array Nat}{i j:Nat}:Lx (λι=>(a.map ι).extract i j) (a.extract i j):=λι=>(Yz).symm
theorem Lx.rev(h:Lx f o):Lx (λι=>(f ι).reverse) o.reverse:=λι=>by dsimp only;rw[h ι,aak]
end
local macro_rules|`(tactic|walk_at "lx")=>`(tactic|repeat (first | with_reducible exact Lx.of | with_reducible exact Lx.ext | with_reducible exact Lx.one | with_reducible apply Lx.push | with_reducible apply Lx.app | with_reducible apply Lx.rev))
section
variable{lt:Nat->Nat->Bool}{n:Nat}{G σ':IS}{τ:Type}{X Y9q:(Nat->Us)->Array Us}{o p:Array Nat}{c:τ}{R I:MB τ->IS->Prop}
theorem fj(hX:Lx X o)(hY:Lx Y9q p)(h:R (O o,p,c) G):Runs lt n (λι=>pure (ForInStep.done (O (X ι),Y9q ι,c))) G (gi mv) (gj R I):=by refine Runs.cN (v:=mv) (O o,p,c) (λι=>?_) h;rw[hX ι,hY ι];rfl
theorem ny(hY:Lx Y9q p)(h:R (J,p,c) G):Runs lt n (λι=>pure (ForInStep.done (J,Y9q ι,c))) G (gi mv) (gj R I):=by refine Runs.cN (v:=mv) (J,p,c) (λι=>?_) h;rw[hY ι];rfl
theorem lH(hY:Lx Y9q p)(h:I (J,p,c) G):Runs lt n (λι=>pure (Vi (J,Y9q ι,c))) G (gi mv) (gj R I):=by refine Runs.aY (v:=mv) (J,p,c) (λι=>?_) h;rw[hY ι];rfl
theorem nz{P:Array Nat->IS->Prop}(hX:Lx X o)(h:P o G):Runs lt n (λι=>pure (X ι)) G (λ(o:Array Nat) ι=>o.map ι) P:=by refine Runs.ret (b:=o) (λι=>?_) h;exact congrArg pure (hX ι)
theorem Runs.wI{z:Nat}{f:(Nat->Us)->Nat->Option (Array Us) × Array Us × τ->SM (ForInStep (Option (Array Us) × Array Us × τ))}(hY:Lx Y9q o)(I:Nat->MB τ->IS->Prop)(R:MB τ->IS->Prop)(h0:I 0 (J,o,c) G)
 (hs:∀ x b G,x<z->I x b G->Runs lt n (λι=>f ι x (mv b ι)) G (gi mv) (gj R (I (x+1))))
 (he:∀ b G,I z b G->R b G):Runs lt n (λι=>forIn [0:z] (J,Y9q ι,c) (f ι)) G mv R:=by
 have e2:(λι=>forIn [0:z] (J,Y9q ι,c) (f ι):(Nat->Us)->SM _)=λι=>forIn [0:z] (mv (J,o,c) ι) (f ι):=funext λι=>by rw[hY ι];rfl
 rw[e2];exact Runs.range (v:=mv) I R h0 (λx b G y hz h=>hs x b G hz h) λb G h=>he b G (by rwa [YX (Uq z)] at h)
end
section
variable{lt:Nat->Nat->Bool}{n:Nat}{G:IS}
theorem lI{key:Nat}{q:Array Nat}{i:Nat}(hi:i<q.size):bK lt false key q i = !lt key q[i]:=by unfold bK;rw[UK,UB hi];rfl
theorem gm{key:Nat}{q:Array Nat}{i:Nat}(hi:i<q.size):bK lt true key q i=lt q[i] key:=by unfold bK;rw[UK,UB hi];rfl
theorem nA{a:Array Nat}(sA:Up lt a.toList){i j:Nat}(bT:i<j)(hj:j<a.size):lt a[j] (a[i]'(by omega))=false:=by have:=UR.mp sA i j (by simpa using (by omega:i<a.size)) (by simpa using hj) bT;simpa using this
theorem Md{a b:Array Nat}(O9q:Ord lt)(ha:∀ x∈a,x<n)(hb:∀ x∈b,x<n)(sA:Up lt a.toList)(sB:Up lt b.toList)(a1:1<=a.size)(b1:1<=b.size)(P1:∀ y∈a.toList,lt y b[0]=false)(P2:∀ y∈b.toList,lt a[a.size-1] y=false) :
 Runs lt n (λι=>wG (a.map ι) (b.map ι)) G (λ(o:Array Nat) ι=>o.map ι) (λo σ'=>Gf lt a.toList b.toList o.toList/\σ'.p=G.p/\σ'.q=G.q):=by
 simp only[Ma,Du,ZH];refine Runs.rule (Runs.elem (by omega) ?_);have la:a.toList.length=a.size:=TU;have lb:b.toList.length=b.size:=TU;have g0:Gm lt a.toList b.toList [] 0 0:=#[by simp,List.Pairwise.nil,λx hx=>by cases hx]
 have g1:Gm lt a.toList b.toList [b[0]] 0 1:=by have:=g0.iP sB (by omega) (λy hy=>by simpa using P1 y (by simpa using hy));simpa using this
 have lJ:∀ {o:List Nat} {ia ib:Nat},Gm lt a.toList b.toList o ia ib->ia+1=a.size->Gf lt a.toList b.toList (o++b.toList.drop ib++a.toList.drop ia):=λ{o ia ib} h e=>h.last sB (by omega) λy hy=>by
  have:=P2 y hy;have e2:a.size-1=ia:=by omega
  simpa only [e2,S6] using this
 refine Runs.ite (λh1=>?_) λh1=>?_
 .have h':1=b.size:=by simpa using h1
  (apply nz;(case hX=>walk_at "lx");(case h=>exact#[by simpa only [S7,S9,bZ,bE,Tr,TF] using g1.done sA sB (.inr (by omega)),Y,Y]))
 refine Runs.ite (λh2=>?_) λh2=>?_
 .have h':0+1=a.size:=by simpa using h2
  (apply nz;(case hX=>walk_at "lx");(case h=>exact#[by simpa only [S7,S9,bZ,bE,Tr,TF] using lJ g1 (by omega),Y,Y]))
 refine Runs.get ?_;simp only[Dt];have jY:1<b.size:=by simp at h1;omega
 have gU:1<a.size:=by simp at h2;omega
 refine Runs.bind (Runs.wI Lx.one (λx b' σ'=>b'.1=J/\Gm lt a.toList b.toList b'.2.1.toList b'.2.2.1 b'.2.2.2.1/\b'.2.2.1+1<a.size/\b'.2.2.2.1<b.size/\x+1<=b'.2.2.1+b'.2.2.2.1/\σ'.p=G.p/\σ'.q=G.q) (λb' σ'=>(∃ o:Array Nat,b'.1=O o/\Gf lt a.toList b.toList o.toList)/\σ'.p=G.p/\σ'.q=G.q) #[Y,g1,by dsimp only;omega,jY,Th _,Y,Y] ?_ ?_) ?_
 .rintro x ⟨ro,out,ia,ib,mg⟩ σ1 hx ⟨e1,hout,hia,hib,hs,hp,hq⟩;dsimp only at e1 hout hia hib hs;subst e1;dsimp only [mv];refine Runs.bind (Runs.wI Lx.of (λx' b' σ'=>b'.1=J/\Gm lt a.toList b.toList b'.2.1.toList b'.2.2.1 b'.2.2.2.1/\b'.2.2.1+1<a.size/\b'.2.2.2.1<b.size/\ia+ib+min x' 1<=b'.2.2.1+b'.2.2.2.1/\σ'=σ1) (λb' σ'=>(b'.1=J->Gm lt a.toList b.toList b'.2.1.toList b'.2.2.1 b'.2.2.2.1/\b'.2.2.1+1<a.size/\b'.2.2.2.1<b.size/\ia+ib+1<=b'.2.2.1+b'.2.2.2.1)/\(∀ o,b'.1=O o->Gf lt a.toList b.toList o.toList)/\σ'=σ1) #[Y,hout,hia,hib,by dsimp only;omega,Y] ?_ ?_) ?_
  .rintro x' ⟨ro,o,ja,jb,ac,bc⟩ σ2 aN ⟨e1,hG,hja,hjb,bY,rfl⟩;dsimp only at e1 hG hja hjb bY;subst e1;dsimp only [mv];have hB:b[jb]<n:=hb _ (Uj _);have Dw:ja<a.size:=by omega
   have hA:a[ja]<n:=ha _ (Uj _);refine Runs.elem hjb (Runs.elem Dw (Runs.cmp hB hA ?_));dsimp only;refine Runs.ite (λhw=>?_) λhw=>?_
   .have da:=hG.iP sB (by omega:jb<b.toList.length) (λy hy=>by simpa only [S6] using O9q.tr (O9q.asym hw) (gk O9q sA (by omega:ja<a.toList.length) y hy));simp only[S6] at da;refine Runs.elem hjb ?_;refine Runs.ite (λh=>?_) λh=>?_
    .have h':jb+1=b.size:=by simpa using h
     (apply fj;(case hX=>walk_at "lx");(case hY=>walk_at "lx");(case h=>exact#[(λz=>nomatch z),(λo' e=>by cases e;simpa only [S7,S9,bZ,bE,Tr,TF] using da.done sA sB (.inr (by omega))),Y]))
    have h':jb+1≠b.size:=by simpa using h
    refine Runs.ite (λv=>?_) λv=>?_
    . (apply ny;(case hY=>walk_at "lx");(case h=>exact#[(λv=>#[by simpa only [S7,S9,bZ,bE,Tr,TF] using da,hja,by dsimp only;omega,by dsimp only;omega]),(λo e=>nomatch e),Y]))
    . (apply lH;(case hY=>walk_at "lx");(case h=>exact#[Y,by simpa only [S7,S9,bZ,bE,Tr,TF] using da,hja,by dsimp only;omega,by dsimp only;omega,Y]))
   .have pH:lt b[jb] a[ja]=false:=by simpa using hw
    have da:=hG.fi sA (by omega:ja<a.toList.length) (λy hy=>by simpa only [S6] using O9q.tr pH (gk O9q sB (by omega:jb<b.toList.length) y hy));simp only[S6] at da;refine Runs.elem Dw ?_;refine Runs.ite (λh=>?_) λh=>?_
    .have h':ja+1+1=a.size:=by simpa using h
     (apply fj;(case hX=>walk_at "lx");(case hY=>walk_at "lx");(case h=>exact#[(λz=>nomatch z),(λo' e=>by cases e;simpa only [S7,S9,bZ,bE,Tr,TF] using lJ da (by omega)),Y]))
    have h':ja+1+1≠a.size:=by simpa using h
    refine Runs.ite (λv=>?_) λv=>?_
    . (apply ny;(case hY=>walk_at "lx");(case h=>exact#[(λv=>#[by simpa only [S7,S9,bZ,bE,Tr,TF] using da,by dsimp only;omega,hjb,by dsimp only;omega]),(λo e=>nomatch e),Y]))
    . (apply lH;(case hY=>walk_at "lx");(case h=>exact#[Y,by simpa only [S7,S9,bZ,bE,Tr,TF] using da,by dsimp only;omega,hjb,by dsimp only;omega,Y]))
  .rintro ⟨ro,o,ja,jb,ac,bc⟩ σ2 ⟨e1,hG,hja,hjb,bY,rfl⟩;dsimp only at e1 hG hja hjb bY;subst e1;exact#[(λv=>#[hG,hja,hjb,by dsimp only;omega]),(λo e=>nomatch e),Y]
  .rintro ⟨ro,o,ja,jb,ac,bc⟩ σ2 ⟨hn,hsm,rfl⟩;dsimp only at hn hsm;cases ro with
   | some o' =>
    dsimp only [mv,WA];exact fj Lx.of Lx.of #[#[o',Y,hsm o' Y],hp,hq]
   | none =>
    obtain⟨hG,hja,hjb,bY⟩:=hn rfl;dsimp only [mv,WA];refine Runs.rule ?_;refine Runs.bind (Runs.wI Lx.of (λv b' σ'=>b'.1=J/\Gm lt a.toList b.toList b'.2.1.toList b'.2.2.1 b'.2.2.2.1/\b'.2.2.1+1<a.size/\b'.2.2.2.1<b.size/\x+2<=b'.2.2.1+b'.2.2.2.1/\σ'.p=G.p/\σ'.q=G.q) (λb' σ'=>(b'.1=J->Gm lt a.toList b.toList b'.2.1.toList b'.2.2.1 b'.2.2.2.1/\b'.2.2.1+1<a.size/\b'.2.2.2.1<b.size/\x+2<=b'.2.2.1+b'.2.2.2.1)/\(∀ o,b'.1=O o->Gf lt a.toList b.toList o.toList)/\σ'.p=G.p/\σ'.q=G.q) #[Y,hG,hja,hjb,by dsimp only;omega,hp,hq] ?_ ?_) ?_
    .clear hja hjb bY hG hn hsm;rintro x' ⟨ro,o,ja,jb,pI,ac,bc⟩ σ2 aN ⟨e1,hG,hja,hjb,bY,hp,hq⟩;dsimp only at e1 hG hja hjb bY;subst e1;dsimp only [mv];refine Runs.ite (λhg=>?_) λhg=>?_
     all_goals
      refine Runs.setG ?_;have hB:b[jb]<n:=hb _ (Uj _);refine Runs.elem hjb ?_;refine Runs.bind (j4 ha hB (by omega) (by omega)) λd σ3 hd=>?_;obtain⟨rfl,k,rfl,hk,v1,v2⟩:=hd;dsimp only;have ta:∀ i (hi:i<k),lt b[jb] (a[ja+i]'(by omega))=false:=λi hi=>by
       have z:=v1 (by omega);rw[lI (by omega)] at z;have z':lt b[jb] (a[ja+(k-1)]'(by omega))=false:=by simpa using z
       rcases VM i (k-1) with h|h
       .exact O9q.tr (nA sA (i:=ja+i) (j:=ja+(k-1)) (by omega) (by omega)) z'
       .have e:i=k-1:=by omega
        subst e;exact z'
      refine Runs.ite (λg9=>?_) λg9=>?_
      .have nB:=Gm.pG O9q sA sB (by omega:jb<b.toList.length) k hG (by omega) (λi hi=>by simpa only [S6] using ta i hi);refine Runs.ite (λh=>?_) λh2=>?_
       .have h':ja+k+1=a.size:=by simpa using h
        (apply fj;(case hX=>walk_at "lx");(case hY=>walk_at "lx");(case h=>exact#[(λz=>nomatch z),(λo' e=>by cases e;simpa only [S7,S9,bZ,bE,Tr,TF] using lJ nB (by omega)),hp,hq]))
       have gU:ja+k+1≠a.size:=by simpa using h2
       refine Runs.ite (λh=>?_) λh3=>?_
       .have h':ja+k=a.size:=by simpa using h
        (apply fj;(case hX=>walk_at "lx");(case hY=>walk_at "lx");(case h=>exact#[(λz=>nomatch z),(λo' e=>by cases e;simpa only [S7,S9,bZ,bE,Tr,TF] using nB.done sA sB (.inl (by omega))),hp,hq]))
       have sU:ja+k≠a.size:=by simpa using h3
       have nk:lt b[jb] a[ja+k]=true:=by have z:=v2 (by omega);rw[lI (by omega)] at z;simpa using z
       have cB:∀ y∈a.toList.drop (ja+k),lt y b[jb]=false:=λy hy=>O9q.tr (O9q.asym nk) (gk O9q sA (by omega) y hy);have de:=Gm.iP nB sB (by omega:jb<b.toList.length) (λy hy=>by simpa only [S6] using cB y hy);simp only[S6] at de;refine Runs.elem hjb ?_;refine Runs.ite (λh=>?_) λh4=>?_
       .have h':jb+1=b.size:=by simpa using h
        (apply fj;(case hX=>walk_at "lx");(case hY=>walk_at "lx");(case h=>exact#[(λz=>nomatch z),(λo' e=>by cases e;simpa only [S7,S9,bZ,bE,Tr,TF] using de.done sA sB (.inr (by omega))),hp,hq]))
       have sV:jb+1≠b.size:=by simpa using h4
       have hA:a[ja+k]<n:=ha _ (Uj _);refine Runs.elem (by omega) ?_;refine Runs.bind (j4 hb hA (by omega) (by omega)) λd σ4 hd=>?_;obtain⟨rfl,k1,rfl,fI,w1,w2⟩:=hd;dsimp only;have tb:∀ i (hi:i<k1),lt (b[jb+1+i]'(by omega)) a[ja+k]=true:=λi hi=>by
        have z:=w1 (by omega);rw[gm (by omega)] at z;rcases VM i (k1-1) with h|h
        .cases zz:lt (b[jb+1+i]'(by omega)) a[ja+k] with
         | true=>rfl
         | false=>rw[O9q.tr zz (nA sB (i:=jb+1+i) (j:=jb+1+(k1-1)) (by omega) (by omega))] at z;cases z
        .have e:i=k1-1:=by omega
         subst e;exact z
       refine Runs.ite (λg9=>?_) λg9=>?_
       .have fJ:=Gm.lG O9q sA sB (by omega:ja+k<a.toList.length) k1 de (by omega) (λi hi=>by simpa only [S6] using tb i hi);refine Runs.ite (λh=>?_) λh5=>?_
        .have h':jb+1+k1=b.size:=by simpa using h
         (apply fj;(case hX=>walk_at "lx");(case hY=>walk_at "lx");(case h=>exact#[(λz=>nomatch z),(λo' e=>by cases e;simpa only [S7,S9,bZ,bE,Tr,TF] using fJ.done sA sB (.inr (by omega))),hp,hq]))
        have pJ:jb+1+k1≠b.size:=by simpa using h5
        have lK:lt b[jb+1+k1] a[ja+k]=false:=by have z:=w2 (by omega);rw[gm (by omega)] at z;exact z
        have cA:∀ y∈b.toList.drop (jb+1+k1),lt y a[ja+k]=false:=λy hy=>O9q.tr lK (gk O9q sB (by omega) y hy);have a7:=Gm.fi fJ sA (by omega:ja+k<a.toList.length) (λy hy=>by simpa only [S6] using cA y hy);simp only[S6] at a7;refine Runs.elem (by omega) ?_;refine Runs.ite (λh=>?_) λh7=>?_
        .have h':ja+k+1+1=a.size:=by simpa using h
         (apply fj;(case hX=>walk_at "lx");(case hY=>walk_at "lx");(case h=>exact#[(λz=>nomatch z),(λo' e=>by cases e;simpa only [S7,S9,bZ,bE,Tr,TF] using lJ a7 (by omega)),hp,hq]))
        have lL:ja+k+1+1≠a.size:=by simpa using h7
        refine Runs.ite (λv=>?_) λv=>?_
        . (apply ny;(case hY=>walk_at "lx");(case h=>exact#[(λv=>#[by simpa only [S7,S9,bZ,bE,Tr,TF] using a7,by dsimp only;omega,by dsimp only;omega,by dsimp only;omega]),(λo e=>nomatch e),hp,hq]))
        .exact lH (by walk_at "lx") #[Y,by simpa only [S7,S9,bZ,bE,Tr,TF] using a7,by dsimp only;omega,by dsimp only;omega,by dsimp only;omega,hp,hq]
       .have wJ:k1=0:=by omega
        have lK:lt b[jb+1] a[ja+k]=false:=by have z:=w2 (by omega);rw[gm (by omega)] at z;simpa only [wJ,V7] using z
        have cA:∀ y∈b.toList.drop (jb+1),lt y a[ja+k]=false:=λy hy=>O9q.tr lK (gk O9q sB (by omega) y hy);have a7:=Gm.fi de sA (by omega:ja+k<a.toList.length) (λy hy=>by simpa only [S6] using cA y hy);simp only[S6] at a7;refine Runs.elem (by omega) ?_;refine Runs.ite (λh=>?_) λh7=>?_
        .have h':ja+k+1+1=a.size:=by simpa using h
         (apply fj;(case hX=>walk_at "lx");(case hY=>walk_at "lx");(case h=>exact#[(λz=>nomatch z),(λo' e=>by cases e;simpa only [S7,S9,bZ,bE,Tr,TF] using lJ a7 (by omega)),hp,hq]))
        have lL:ja+k+1+1≠a.size:=by simpa using h7
        refine Runs.ite (λv=>?_) λv=>?_
        . (apply ny;(case hY=>walk_at "lx");(case h=>exact#[(λv=>#[by simpa only [S7,S9,bZ,bE,Tr,TF] using a7,by dsimp only;omega,by dsimp only;omega,by dsimp only;omega]),(λo e=>nomatch e),hp,hq]))
        .exact lH (by walk_at "lx") #[Y,by simpa only [S7,S9,bZ,bE,Tr,TF] using a7,by dsimp only;omega,by dsimp only;omega,by dsimp only;omega,hp,hq]
      .have k0:k=0:=by omega
       have nk:lt b[jb] a[ja]=true:=by have z:=v2 (by omega);rw[lI (by omega)] at z;simpa [k0] using z
       have cB:∀ y∈a.toList.drop (ja),lt y b[jb]=false:=λy hy=>O9q.tr (O9q.asym nk) (gk O9q sA (by omega) y hy);have de:=Gm.iP hG sB (by omega:jb<b.toList.length) (λy hy=>by simpa only [S6] using cB y hy);simp only[S6] at de;refine Runs.elem hjb ?_;refine Runs.ite (λh=>?_) λh4=>?_
       .have h':jb+1=b.size:=by simpa using h
        (apply fj;(case hX=>walk_at "lx");(case hY=>walk_at "lx");(case h=>exact#[(λz=>nomatch z),(λo' e=>by cases e;simpa only [S7,S9,bZ,bE,Tr,TF] using de.done sA sB (.inr (by omega))),hp,hq]))
       have sV:jb+1≠b.size:=by simpa using h4
       have hA:a[ja]<n:=ha _ (Uj _);refine Runs.elem (by omega) ?_;refine Runs.bind (j4 hb hA (by omega) (by omega)) λd σ4 hd=>?_;obtain⟨rfl,k1,rfl,fI,w1,w2⟩:=hd;dsimp only;have tb:∀ i (hi:i<k1),lt (b[jb+1+i]'(by omega)) a[ja]=true:=λi hi=>by
        have z:=w1 (by omega);rw[gm (by omega)] at z;rcases VM i (k1-1) with h|h
        .cases zz:lt (b[jb+1+i]'(by omega)) a[ja] with
         | true=>rfl
         | false=>rw[O9q.tr zz (nA sB (i:=jb+1+i) (j:=jb+1+(k1-1)) (by omega) (by omega))] at z;cases z
        .have e:i=k1-1:=by omega
         subst e;exact z
       refine Runs.ite (λg9=>?_) λg9=>?_
       .have fJ:=Gm.lG O9q sA sB (by omega:ja<a.toList.length) k1 de (by omega) (λi hi=>by simpa only [S6] using tb i hi);refine Runs.ite (λh=>?_) λh5=>?_
        .have h':jb+1+k1=b.size:=by simpa using h
         (apply fj;(case hX=>walk_at "lx");(case hY=>walk_at "lx");(case h=>exact#[(λz=>nomatch z),(λo' e=>by cases e;simpa only [S7,S9,bZ,bE,Tr,TF] using fJ.done sA sB (.inr (by omega))),hp,hq]))
        have pJ:jb+1+k1≠b.size:=by simpa using h5
        have lK:lt b[jb+1+k1] a[ja]=false:=by have z:=w2 (by omega);rw[gm (by omega)] at z;exact z
        have cA:∀ y∈b.toList.drop (jb+1+k1),lt y a[ja]=false:=λy hy=>O9q.tr lK (gk O9q sB (by omega) y hy);have a7:=Gm.fi fJ sA (by omega:ja<a.toList.length) (λy hy=>by simpa only [S6] using cA y hy);simp only[S6] at a7;refine Runs.elem (by omega) ?_;refine Runs.ite (λh=>?_) λh7=>?_
        .have h':ja+1+1=a.size:=by simpa using h
         (apply fj;(case hX=>walk_at "lx");(case hY=>walk_at "lx");(case h=>exact#[(λz=>nomatch z),(λo' e=>by cases e;simpa only [S7,S9,bZ,bE,Tr,TF] using lJ a7 (by omega)),hp,hq]))
        have lL:ja+1+1≠a.size:=by simpa using h7
        refine Runs.ite (λv=>?_) λv=>?_
        . (apply ny;(case hY=>walk_at "lx");(case h=>exact#[(λv=>#[by simpa only [S7,S9,bZ,bE,Tr,TF] using a7,by dsimp only;omega,by dsimp only;omega,by dsimp only;omega]),(λo e=>nomatch e),hp,hq]))
        .exact lH (by walk_at "lx") #[Y,by simpa only [S7,S9,bZ,bE,Tr,TF] using a7,by dsimp only;omega,by dsimp only;omega,by dsimp only;omega,hp,hq]
       .have wJ:k1=0:=by omega
        have lK:lt b[jb+1] a[ja]=false:=by have z:=w2 (by omega);rw[gm (by omega)] at z;simpa only [wJ,V7] using z
        have cA:∀ y∈b.toList.drop (jb+1),lt y a[ja]=false:=λy hy=>O9q.tr lK (gk O9q sB (by omega) y hy);have a7:=Gm.fi de sA (by omega:ja<a.toList.length) (λy hy=>by simpa only [S6] using cA y hy);simp only[S6] at a7;refine Runs.elem (by omega) ?_;refine Runs.ite (λh=>?_) λh7=>?_
        .have h':ja+1+1=a.size:=by simpa using h
         (apply fj;(case hX=>walk_at "lx");(case hY=>walk_at "lx");(case h=>exact#[(λz=>nomatch z),(λo' e=>by cases e;simpa only [S7,S9,bZ,bE,Tr,TF] using lJ a7 (by omega)),hp,hq]))
        have lL:ja+1+1≠a.size:=by simpa using h7
        refine Runs.ite (λv=>?_) λv=>?_
        . (apply ny;(case hY=>walk_at "lx");(case h=>exact#[(λv=>#[by simpa only [S7,S9,bZ,bE,Tr,TF] using a7,by dsimp only;omega,by dsimp only;omega,by dsimp only;omega]),(λo e=>nomatch e),hp,hq]))
        .exact lH (by walk_at "lx") #[Y,by simpa only [S7,S9,bZ,bE,Tr,TF] using a7,by dsimp only;omega,by dsimp only;omega,by dsimp only;omega,hp,hq]
    .rintro ⟨ro,o,ja,jb,pI,ac,bc⟩ σ2 ⟨e1,hG,hja,hjb,bY,hp,hq⟩;dsimp only at e1 hG hja hjb bY;subst e1;exact#[(λv=>#[hG,hja,hjb,bY]),(λo e=>nomatch e),hp,hq]
    .rintro ⟨ro,o,ja,jb,pI,ac,bc⟩ σ2 ⟨hn,hsm,hp,hq⟩;dsimp only at hn hsm;cases ro with
     | some o' =>
      dsimp only [mv,WA];exact fj Lx.of Lx.of #[#[o',Y,hsm o' Y],hp,hq]
     | none =>
      obtain⟨hG,hja,hjb,bY⟩:=hn rfl;dsimp only [mv,WA];refine Runs.setG ?_;exact lH Lx.of #[Y,hG,hja,hjb,by dsimp only;omega,hp,hq]
 .rintro ⟨ro,out,ia,ib,mg⟩ σ1 ⟨e1,hout,hia,hib,hs,hp,hq⟩;dsimp only at e1 hia hib hs;omega
 .rintro ⟨ro,out,ia,ib,mg⟩ σ1 ⟨⟨o,e1,ho⟩,hp,hq⟩;dsimp only at e1;subst e1;dsimp only [mv,WA];exact nz Lx.of #[ho,hp,hq]
end
noncomputable abbrev MC(τ:Type):=Option (Array Nat) × Nat × Nat × Array Nat × τ
noncomputable def mw{τ:Type}(b:MC τ)(ι:Nat->Us):Option (Array Us) × Nat × Nat × Array Us × τ:=(b.1.map (·.map ι),b.2.1,b.2.2.1,b.2.2.2.1.map ι,b.2.2.2.2)
section
variable{lt:Nat->Nat->Bool}{n:Nat}{G σ':IS}{τ:Type}{X Y9q:(Nat->Us)->Array Us}{c:τ}{u v:Nat}{R I:MC τ->IS->Prop}
theorem Runs.sW{α β:Type}{val:β->(Nat->Us)->α}{P:β->IS->Prop}{c:(Nat->Us)->Prop}{inst:∀ ι,Decidable (c ι)}{f g:(Nat->Us)->SM α}(e:∀ ι ι',c ι=c ι')(h1:Runs lt n f G val P)(h2:Runs lt n g G val P):Runs lt n (λι=>@_root_.ite _ (c ι) (inst ι) (f ι) (g ι)) G val P:=by
 by_cases h:c (λy=>(.none,.none))
 .have e:(λι=>@_root_.ite _ (c ι) (inst ι) (f ι) (g ι))=f:=funext λι=>if_pos (by rw[e ι (λy=>(.none,.none))];exact h);rw[e];exact h1
 .have e:(λι=>@_root_.ite _ (c ι) (inst ι) (f ι) (g ι))=g:=funext λι=>if_neg (by rw[e ι (λy=>(.none,.none))];exact h);rw[e];exact h2
end
noncomputable def wK:Array Us->Array Us->SM (Array Us):=sortPriv% PySem.Builtin.mergeHi
theorem Me(a b:Array Us):wK a b=(do
 rule "list.sort.merge-hi"
 let total:=a.size+b.size;let done (out:Array Us) (na nb:Nat):=a.extract 0 na++b.extract 0 nb++out.reverse;let sX (out:Array Us) (na nb:Nat):=b.extract 0 nb++a.extract 0 na++out.reverse
 let mut na:=a.size-1
 let mut nb:=b.size
 let mut out:Array Us:=(List.toArray [<- X7 a na])
 if na == 0 then return done out na nb
 if nb == 1 then return sX out na nb
 let mut minGallop:=abI (<- get)
 for _ in [0:total] do
  let mut acount:=0
  let mut bcount:=0
  for _ in [0:total] do
   let O Mf <- lt' (<- X7 b (nb-1)) (<- X7 a (na-1))|return done out na nb
   if Mf then
    na:=na-1;out:=out.push (<- X7 a na);acount:=acount+1;bcount:=0
    if na == 0 then return done out na nb
    if acount ≥ minGallop then break
   else
    nb:=nb-1;out:=out.push (<- X7 b nb);bcount:=bcount+1;acount:=0
    if nb == 1 then return sX out na nb
    if bcount ≥ minGallop then break
  rule "list.sort.gallop"
  minGallop:=minGallop+1
  for _ in [0:total] do
   if minGallop > 1 then minGallop:=minGallop-1
   pE minGallop
   let O at_ <- j3 false (<- X7 b (nb-1)) a 0 na (na-1)|return done out na nb
   let k:=na-at_
   acount:=k
   if k > 0 then
    out:=out++(a.extract at_ na).reverse;na:=at_
    if na == 0 then return done out na nb
   nb:=nb-1;out:=out.push (<- X7 b nb)
   if nb == 1 then return sX out na nb
   let O at_ <- j3 true (<- X7 a (na-1)) b 0 nb (nb-1)|return done out na nb
   let k:=nb-at_
   bcount:=k
   if k > 0 then
    out:=out++(b.extract at_ nb).reverse;nb:=at_
    if nb == 1 then return sX out na nb
    if nb == 0 then return done out na nb
   na:=na-1;out:=out.push (<- X7 a na)
   if na == 0 then return done out na nb
   if acount<7 && bcount<7 then break
  minGallop:=minGallop+1
  pE minGallop
 unsupported "internal:list.sort.merge-bound"):=rfl
section
variable{lt:Nat->Nat->Bool}{n:Nat}{G:IS}
end
def Gh(lt:Nat->Nat->Bool)(A B S:List Nat)(na nb:Nat):Prop:=(A.take na++B.take nb++S).Perm (A++B)/\Up lt S/\∀ x∈S,∀ y∈A.take na++B.take nb,lt x y=false
section
variable{lt:Nat->Nat->Bool}{A B S:List Nat}{na nb:Nat}
theorem Gh.fin{R:List Nat}(h:Gh lt A B S na nb)(hR:R.Perm (A.take na++B.take nb))(hs:Up lt R):Gf lt A B (R++S) :=
 #[(hR.append_right S).trans h.1,Ur.mpr #[hs,h.2.1,λx hx y hy=>h.2.2 y hy x (hR.mem_iff.mp hx)]]
theorem nC(O9q:Ord lt)(sB:Up lt B){i:Nat}(hi:i<B.length):∀ y∈B.take (i+1),lt B[i] y=false:=λy hy=>by
 obtain⟨j,hj,e⟩:=List.mem_iff_getElem.mp hy;rw[WB] at e;rw[Uc] at hj;rw[<- e];rcases VM j i with h|h
 .exact UR.mp sB j i (by omega) hi h
 .have:j=i:=by omega
  subst this;exact O9q.rfl' _
theorem Gh.fi(h:Gh lt A B S (na+1) nb)(O9q:Ord lt)(sA:Up lt A)(hi:na<A.length)(hc:∀ y∈B.take nb,lt A[na] y=false):Gh lt A B (A[na]::S) na nb:=by
 obtain⟨h1,h2,h3⟩:=h;have et:A.take (na+1)=A.take na++[A[na]]:=(Vn hi).symm;refine#[?_,?_,?_]
 .refine List.Perm.trans ?_ h1;rw[et];have:(B.take nb++A[na]::S).Perm ([A[na]]++(B.take nb++S)):=aaN;have:=this.append_left (A.take na);simpa only [Tf] using this
 .refine UG.mpr #[λy hy=>h3 y hy _ ?_,h2];rw[et];exact TR _ (Te _ (.head _))
 .intro x hx y hy;rcases Tz.mp hx with z|z
  .rw[z];rcases TQ.mp hy with hy|hy
   .exact nC O9q sA hi y (by rw[et];exact TR _ hy)
   .exact hc y hy
  .refine h3 x z y ?_;rcases TQ.mp hy with hy|hy
   .exact TR _ (by rw[et];exact TR _ hy)
   .exact Te _ hy
theorem Gh.iP(h:Gh lt A B S na (nb+1))(O9q:Ord lt)(sB:Up lt B)(hi:nb<B.length)(hc:∀ y∈A.take na,lt B[nb] y=false):Gh lt A B (B[nb]::S) na nb:=by
 obtain⟨h1,h2,h3⟩:=h;have et:B.take (nb+1)=B.take nb++[B[nb]]:=(Vn hi).symm;refine#[?_,?_,?_]
 .refine List.Perm.trans ?_ h1;rw[et];simp only[Tf,Ti];exact List.Perm.refl _
 .refine UG.mpr #[λy hy=>h3 y hy _ ?_,h2];rw[et];exact Te _ (Te _ (.head _))
 .intro x hx y hy;rcases Tz.mp hx with z|z
  .rw[z];rcases TQ.mp hy with hy|hy
   .exact hc y hy
   .exact nC O9q sB hi y (by rw[et];exact TR _ hy)
  .refine h3 x z y ?_;rcases TQ.mp hy with hy|hy
   .exact TR _ hy
   .exact Te _ (by rw[et];exact TR _ hy)
theorem Gh.pG(O9q:Ord lt)(sA:Up lt A){k:Nat}:∀ (j:Nat) {S:List Nat},Gh lt A B S (k+j) nb->(hk:k+j<=A.length)->(∀ i (hi:i<k+j),k<=i->∀ y∈B.take nb,lt (A[i]'(by omega)) y=false)->Gh lt A B ((A.drop k).take j++S) k nb
 | 0,S,h,_,_=>by simpa using h
 | j+1,S,h,hk,hc=>by
  have h1:=Gh.fi (na:=k+j) h O9q sA (by omega) (hc (k+j) (by omega) (by omega));have h2:=Gh.pG O9q sA j h1 (by omega) λi hi fg=>hc i (by omega) fg;have e:(A.drop k).take (j+1)=(A.drop k).take j++[A[k+j]'(by omega)]:=by have:=Vn (l:=A.drop k) (i:=j) (by simp;omega);rw[Vx] at this;exact this.symm
  rw[e,Tf];exact h2
theorem Gh.lG(O9q:Ord lt)(sB:Up lt B){k:Nat}:∀ (j:Nat) {S:List Nat},Gh lt A B S na (k+j)->(hk:k+j<=B.length)->(∀ i (hi:i<k+j),k<=i->∀ y∈A.take na,lt (B[i]'(by omega)) y=false)->Gh lt A B ((B.drop k).take j++S) na k
 | 0,S,h,_,_=>by simpa using h
 | j+1,S,h,hk,hc=>by
  have h1:=Gh.iP (nb:=k+j) h O9q sB (by omega) (hc (k+j) (by omega) (by omega));have h2:=Gh.lG O9q sB j h1 (by omega) λi hi fg=>hc i (by omega) fg;have e:(B.drop k).take (j+1)=(B.drop k).take j++[B[k+j]'(by omega)]:=by have:=Vn (l:=B.drop k) (i:=j) (by simp;omega);rw[Vx] at this;exact this.symm
  rw[e,Tf];exact h2
theorem Gh.done(h:Gh lt A B S na nb)(sA:Up lt A)(sB:Up lt B)(he:na=0∨nb=0):Gf lt A B (A.take na++B.take nb++S):=by
 refine h.fin (List.Perm.refl _) ?_;rcases he with z|z
 .rw[z,abn,Ts];exact sB.sublist (Wx _ _)
 .rw[z,abn,TF];exact sA.sublist (Wx _ _)
theorem Gh.first(h:Gh lt A B S na 1)(sA:Up lt A)(hb:0<B.length)(hg:∀ y∈A,lt y B[0]=false):Gf lt A B (B.take 1++A.take na++S):=by
 refine h.fin Zn ?_;have e:B.take 1=[B[0]]:=by have:=Vn (l:=B) (i:=0) hb;simpa using this.symm
 rw[e];refine Ur.mpr #[We _ _,sA.sublist (Wx _ _),λx hx y hy=>?_];rw[TY.mp hx];exact hg y (UE hy)
end
theorem bx(a:Array Nat)(i j:Nat):(a.extract i j).toList=(a.toList.drop i).take (j-i):=by rw[WE]
theorem bU(a:Array Nat)(i:Nat):(a.extract 0 i).toList=a.toList.take i:=by rw[bx];rfl
section
variable{lt:Nat->Nat->Bool}{n:Nat}{G σ':IS}{τ:Type}{X Y9q:(Nat->Us)->Array Us}{o p:Array Nat}{c:τ}{u v:Nat}{R I:MC τ->IS->Prop}
theorem eJ(hX:Lx X o)(hY:Lx Y9q p)(h:R (O o,u,v,p,c) G):Runs lt n (λι=>pure (ForInStep.done (O (X ι),u,v,Y9q ι,c))) G (gi mw) (gj R I):=by refine Runs.cN (v:=mw) (O o,u,v,p,c) (λι=>?_) h;rw[hX ι,hY ι];rfl
theorem nD(hY:Lx Y9q p)(h:R (J,u,v,p,c) G):Runs lt n (λι=>pure (ForInStep.done (J,u,v,Y9q ι,c))) G (gi mw) (gj R I):=by refine Runs.cN (v:=mw) (J,u,v,p,c) (λι=>?_) h;rw[hY ι];rfl
theorem lM(hY:Lx Y9q p)(h:I (J,u,v,p,c) G):Runs lt n (λι=>pure (Vi (J,u,v,Y9q ι,c))) G (gi mw) (gj R I):=by refine Runs.aY (v:=mw) (J,u,v,p,c) (λι=>?_) h;rw[hY ι];rfl
theorem Runs.wL{z:Nat}{f:(Nat->Us)->Nat->Option (Array Us) × Nat × Nat × Array Us × τ->SM (ForInStep (Option (Array Us) × Nat × Nat × Array Us × τ))}(hY:Lx Y9q o)(I:Nat->MC τ->IS->Prop)(R:MC τ->IS->Prop)(h0:I 0 (J,u,v,o,c) G)
 (hs:∀ x b G,x<z->I x b G->Runs lt n (λι=>f ι x (mw b ι)) G (gi mw) (gj R (I (x+1))))
 (he:∀ b G,I z b G->R b G):Runs lt n (λι=>forIn [0:z] (J,u,v,Y9q ι,c) (f ι)) G mw R:=by
 have e2:(λι=>forIn [0:z] (J,u,v,Y9q ι,c) (f ι):(Nat->Us)->SM _)=λι=>forIn [0:z] (mw (J,u,v,o,c) ι) (f ι):=funext λι=>by rw[hY ι];rfl
 rw[e2];exact Runs.range (v:=mw) I R h0 (λx b G y hz h=>hs x b G hz h) λb G h=>he b G (by rwa [YX (Uq z)] at h)
end
section
variable{lt:Nat->Nat->Bool}{n:Nat}{G:IS}
theorem Mg{a b:Array Nat}(O9q:Ord lt)(ha:∀ x∈a,x<n)(hb:∀ x∈b,x<n)(sA:Up lt a.toList)(sB:Up lt b.toList)(a1:1<=a.size)(b1:1<=b.size)(P1:∀ y∈a.toList,lt y b[0]=false)(P2:∀ y∈b.toList,lt a[a.size-1] y=false) :
 Runs lt n (λι=>wK (a.map ι) (b.map ι)) G (λ(o:Array Nat) ι=>o.map ι) (λo σ'=>Gf lt a.toList b.toList o.toList/\σ'.p=G.p/\σ'.q=G.q):=by
 simp only[Me,Du,ZH];refine Runs.rule (Runs.elem (by omega) ?_);have la:a.toList.length=a.size:=TU;have lb:b.toList.length=b.size:=TU;have g0:Gh lt a.toList b.toList [] a.size b.size:=#[by rw[Uu (by omega),Uu (by omega),TF],List.Pairwise.nil,λx hx=>by cases hx]
 have g1:Gh lt a.toList b.toList [a[a.size-1]] (a.size-1) b.size:=by
  have e:a.size=(a.size-1)+1:=by omega
  rw[e] at g0;have:=g0.fi O9q sA (by omega) (λy hy=>by simpa only [S6] using P2 y (UE hy));simpa only [S6] using this
 have nE:∀ {S:List Nat} {na nb:Nat},Gh lt a.toList b.toList S na nb->nb=1->Gf lt a.toList b.toList (b.toList.take nb++a.toList.take na++S):=λ{S na nb} h e=>by
  subst e;exact h.first sA (by omega) λy hy=>by simpa only [S6] using P1 y hy
 have cA:∀ {ma mb:Nat} (hm:ma<a.size) (hn:mb<b.size),lt b[mb] a[ma]=true->∀ y∈b.toList.take (mb+1),lt a[ma] y=false:=λ{ma mb} hm hn h y hy=>by have:=nC O9q sB (i:=mb) (by omega) y hy;simp only[S6] at this;exact O9q.tr this (O9q.asym h)
 have cB:∀ {ma mb:Nat} (hm:ma<a.size) (hn:mb<b.size),lt b[mb] a[ma]=false->∀ y∈a.toList.take (ma+1),lt b[mb] y=false:=λ{ma mb} hm hn h y hy=>by have:=nC O9q sA (i:=ma) (by omega) y hy;simp only[S6] at this;exact O9q.tr this h
 refine Runs.ite (λh1=>?_) λh1=>?_
 .have h':a.size-1=0:=by simpa using h1
  (apply nz;(case hX=>walk_at "lx");(case h=>exact#[by simpa only [S7,S9,Tp,Tt,Tq,Tw,TH,Ts,TC,Ti,bU,bx,Tf,Ub,TM] using g1.done sA sB (.inl (by omega)),Y,Y]))
 refine Runs.ite (λh2=>?_) λh2=>?_
 .have h':b.size=1:=by simpa using h2
  (apply nz;(case hX=>walk_at "lx");(case h=>exact#[by simpa only [S7,S9,Tp,Tt,Tq,Tw,TH,Ts,TC,Ti,bU,bx,Tf,Ub,TM] using nE g1 (by omega),Y,Y]))
 refine Runs.get ?_;simp only[Dt];have jY:1<a.size:=by simp at h1;omega
 have gU:1<b.size:=by simp at h2;omega
 refine Runs.bind (Runs.wL Lx.one (λx b' σ'=>b'.1=J/\Gh lt a.toList b.toList b'.2.2.2.1.toList.reverse b'.2.1 b'.2.2.1/\1<=b'.2.1/\b'.2.1<a.size/\2<=b'.2.2.1/\b'.2.2.1<=b.size/\b'.2.1+b'.2.2.1+x+1<=a.size+b.size/\σ'.p=G.p/\σ'.q=G.q) (λb' σ'=>(∃ o:Array Nat,b'.1=O o/\Gf lt a.toList b.toList o.toList)/\σ'.p=G.p/\σ'.q=G.q) #[Y,by simpa using g1,by dsimp only;omega,by dsimp only;omega,by dsimp only;omega,Th _,by dsimp only;omega,Y,Y] ?_ ?_) ?_
 .rintro x ⟨ro,na,nb,out,mg⟩ σ1 hx ⟨e1,hout,sY,kP,sZ,tf,hs,hp,hq⟩;dsimp only at e1 hout sY kP sZ tf hs;subst e1;dsimp only [mw];refine Runs.bind (Runs.wL Lx.of (λx' b' σ'=>b'.1=J/\Gh lt a.toList b.toList b'.2.2.2.1.toList.reverse b'.2.1 b'.2.2.1/\1<=b'.2.1/\b'.2.1<a.size/\2<=b'.2.2.1/\b'.2.2.1<=b.size/\b'.2.1+b'.2.2.1+min x' 1<=na+nb/\σ'=σ1) (λb' σ'=>(b'.1=J->Gh lt a.toList b.toList b'.2.2.2.1.toList.reverse b'.2.1 b'.2.2.1/\1<=b'.2.1/\b'.2.1<a.size/\2<=b'.2.2.1/\b'.2.2.1<=b.size/\b'.2.1+b'.2.2.1+1<=na+nb)/\(∀ o,b'.1=O o->Gf lt a.toList b.toList o.toList)/\σ'=σ1) #[Y,hout,sY,kP,sZ,tf,by dsimp only;omega,Y] ?_ ?_) ?_
  .rintro x' ⟨ro,ma,mb,o,ac,bc⟩ σ2 aN ⟨e1,hG,m1,m2,m3,m4,bY,rfl⟩;dsimp only at e1 hG m1 m2 m3 m4 bY;subst e1;dsimp only [mw];have hB:b[mb-1]<n:=hb _ (Uj _);have hA:a[ma-1]<n:=ha _ (Uj _);refine Runs.elem (by omega) (Runs.elem (by omega) (Runs.cmp hB hA ?_));dsimp only;refine Runs.ite (λhw=>?_) λhw=>?_
   .have da:=Gh.fi (na:=ma-1) (by rw[show ma-1+1=ma by omega];exact hG) O9q sA (by omega) (λy hy=>by
     have z:=cA (ma:=ma-1) (mb:=mb-1) (by omega) (by omega) hw;have e:mb-1+1=mb:=by omega
     rw[e] at z;simpa only [S6] using z y hy)
    simp only[S6] at da;refine Runs.elem (by omega) ?_;refine Runs.ite (λh=>?_) λh=>?_
    .have h':ma-1=0:=by simpa using h
     (apply eJ;(case hX=>walk_at "lx");(case hY=>walk_at "lx");(case h=>exact#[(λz=>nomatch z),(λo' e=>by cases e;simpa only [S7,S9,Tp,Tt,Tq,Tw,TH,Ts,TC,Ti,bU,bx,Tf,Ub,TM] using da.done sA sB (.inl (by omega))),Y]))
    have z:ma-1≠0:=by simpa using h
    have h':2<=ma:=by omega
    clear z;refine Runs.ite (λv=>?_) λv=>?_
    . (apply nD;(case hY=>walk_at "lx");(case h=>exact#[(λv=>#[by simpa only [S7,S9,Tp,Tt,Tq,Tw,TH,Ts,TC,Ti,bU,bx,Tf,Ub,TM] using da,by dsimp only;omega,by dsimp only;omega,by dsimp only;omega,by dsimp only;omega,by dsimp only;omega]),(λo e=>nomatch e),Y]))
    . (apply lM;(case hY=>walk_at "lx");(case h=>exact#[Y,by simpa only [S7,S9,Tp,Tt,Tq,Tw,TH,Ts,TC,Ti,bU,bx,Tf,Ub,TM] using da,by dsimp only;omega,by dsimp only;omega,by dsimp only;omega,by dsimp only;omega,by dsimp only;omega,Y]))
   .have pH:lt b[mb-1] a[ma-1]=false:=by simpa using hw
    have da:=Gh.iP (nb:=mb-1) (by rw[show mb-1+1=mb by omega];exact hG) O9q sB (by omega) (λy hy=>by
     have z:=cB (ma:=ma-1) (mb:=mb-1) (by omega) (by omega) pH;have e:ma-1+1=ma:=by omega
     rw[e] at z;simpa only [S6] using z y hy)
    simp only[S6] at da;refine Runs.elem (by omega) ?_;refine Runs.ite (λh=>?_) λh=>?_
    .have h':mb-1=1:=by simpa using h
     (apply eJ;(case hX=>walk_at "lx");(case hY=>walk_at "lx");(case h=>exact#[(λz=>nomatch z),(λo' e=>by cases e;simpa only [S7,S9,Tp,Tt,Tq,Tw,TH,Ts,TC,Ti,bU,bx,Tf,Ub,TM] using nE da (by omega)),Y]))
    have z:mb-1≠1:=by simpa using h
    have h':3<=mb:=by omega
    clear z;refine Runs.ite (λv=>?_) λv=>?_
    . (apply nD;(case hY=>walk_at "lx");(case h=>exact#[(λv=>#[by simpa only [S7,S9,Tp,Tt,Tq,Tw,TH,Ts,TC,Ti,bU,bx,Tf,Ub,TM] using da,by dsimp only;omega,by dsimp only;omega,by dsimp only;omega,by dsimp only;omega,by dsimp only;omega]),(λo e=>nomatch e),Y]))
    . (apply lM;(case hY=>walk_at "lx");(case h=>exact#[Y,by simpa only [S7,S9,Tp,Tt,Tq,Tw,TH,Ts,TC,Ti,bU,bx,Tf,Ub,TM] using da,by dsimp only;omega,by dsimp only;omega,by dsimp only;omega,by dsimp only;omega,by dsimp only;omega,Y]))
  .rintro ⟨ro,ma,mb,o,ac,bc⟩ σ2 ⟨e1,hG,m1,m2,m3,m4,bY,rfl⟩;dsimp only at e1 hG m1 m2 m3 m4 bY;subst e1;exact#[(λv=>#[hG,m1,m2,m3,m4,by dsimp only;omega]),(λo e=>nomatch e),Y]
  .rintro ⟨ro,ma,mb,o,ac,bc⟩ σ2 ⟨hn,hsm,rfl⟩;dsimp only at hn hsm;cases ro with
   | some o' =>
    dsimp only [mw,WA];exact eJ Lx.of Lx.of #[#[o',Y,hsm o' Y],hp,hq]
   | none =>
    obtain⟨hG,m1,m2,m3,m4,bY⟩:=hn rfl;dsimp only [mw,WA];refine Runs.rule ?_;refine Runs.bind (Runs.wL Lx.of (λv b' σ'=>b'.1=J/\Gh lt a.toList b.toList b'.2.2.2.1.toList.reverse b'.2.1 b'.2.2.1/\1<=b'.2.1/\b'.2.1<a.size/\2<=b'.2.2.1/\b'.2.2.1<=b.size/\b'.2.1+b'.2.2.1+x+2<=a.size+b.size/\σ'.p=G.p/\σ'.q=G.q) (λb' σ'=>(b'.1=J->Gh lt a.toList b.toList b'.2.2.2.1.toList.reverse b'.2.1 b'.2.2.1/\1<=b'.2.1/\b'.2.1<a.size/\2<=b'.2.2.1/\b'.2.2.1<=b.size/\b'.2.1+b'.2.2.1+x+2<=a.size+b.size)/\(∀ o,b'.1=O o->Gf lt a.toList b.toList o.toList)/\σ'.p=G.p/\σ'.q=G.q) #[Y,hG,m1,m2,m3,m4,by dsimp only;omega,hp,hq] ?_ ?_) ?_
    .clear m1 m2 m3 m4 bY hG hn hsm;rintro x' ⟨ro,ma,mb,o,pI,ac,bc⟩ σ2 aN ⟨e1,hG,m1,m2,m3,m4,bY,hp,hq⟩;dsimp only at e1 hG m1 m2 m3 m4 bY;subst e1;dsimp only [mw];refine Runs.ite (λhg=>?_) λhg=>?_
     all_goals
      refine Runs.setG ?_;have hB:b[mb-1]<n:=hb _ (Uj _);refine Runs.elem (by omega) ?_;refine Runs.bind (j4 ha hB (by omega) (by omega)) λd σ3 hd=>?_;obtain⟨rfl,k,rfl,hk,v1,v2⟩:=hd;dsimp only;have ta:∀ i (hi:i<ma),k<=i->lt b[mb-1] (a[i]'(by omega))=true:=λi hi fg=>by
       have z:=v2 (by omega);rw[Uv,lI (by omega)] at z;have z':lt b[mb-1] (a[k]'(by omega))=true:=by simpa using z
       rcases VM k i with h|h
       .cases zz:lt b[mb-1] (a[i]'(by omega)) with
        | true=>rfl
        | false=>rw[O9q.tr (nA sA (i:=k) (j:=i) h (by omega)) zz] at z';cases z'
       .have e:i=k:=by omega
        subst e;exact z'
      have Dx:0<k->lt b[mb-1] (a[k-1]'(by omega))=false:=λh=>by have z:=v1 h;rw[Uv,lI (by omega)] at z;simpa using z
      refine Runs.ite (λg9=>?_) λg9=>?_
      .have nB:=Gh.pG (nb:=mb) (k:=k) O9q sA (ma-k) (by rw[show k+(ma-k)=ma by omega];exact hG) (by omega) (λi hi fg y hy=>by
        have z:=cA (ma:=i) (mb:=mb-1) (by omega) (by omega) (ta i (by omega) fg);have e:mb-1+1=mb:=by omega
        rw[e] at z;simpa only [S6] using z y hy)
       refine Runs.ite (λh=>?_) λh2=>?_
       .have h':k=0:=by simpa using h
        (apply eJ;(case hX=>walk_at "lx");(case hY=>walk_at "lx");(case h=>exact#[(λz=>nomatch z),(λo' e=>by cases e;simpa only [S7,S9,Tp,Tt,Tq,Tw,TH,Ts,TC,Ti,bU,bx,Tf,Ub,TM] using nB.done sA sB (.inl (by omega))),hp,hq]))
       have z2:k≠0:=by simpa using h2
       have gU:1<=k:=by omega
       clear z2;have nk:=Dx (by omega);have de:=Gh.iP (nb:=mb-1) (by rw[show mb-1+1=mb by omega];exact nB) O9q sB (by omega) (λy hy=>by
        have z:=cB (ma:=k-1) (mb:=mb-1) (by omega) (by omega) nk;have e:k-1+1=k:=by omega
        rw[e] at z;simpa only [S6] using z y hy)
       simp only[S6] at de;have iQ:b[mb-1]<n:=hb _ (Uj _);refine Runs.elem (by omega) ?_;refine Runs.ite (λh=>?_) λh4=>?_
       .have h':mb-1=1:=by simpa using h
        (apply eJ;(case hX=>walk_at "lx");(case hY=>walk_at "lx");(case h=>exact#[(λz=>nomatch z),(λo' e=>by cases e;simpa only [S7,S9,Tp,Tt,Tq,Tw,TH,Ts,TC,Ti,bU,bx,Tf,Ub,TM] using nE de (by omega)),hp,hq]))
       have z4:mb-1≠1:=by simpa using h4
       have sV:3<=mb:=by omega
       clear z4;have hA:a[k-1]<n:=ha _ (Uj _);refine Runs.elem (by omega) ?_;refine Runs.bind (j4 hb hA (by omega) (by omega)) λd σ4 hd=>?_;obtain⟨rfl,k1,rfl,fI,w1,w2⟩:=hd;dsimp only;have tb:∀ i (hi:i<mb-1),k1<=i->lt (b[i]'(by omega)) (a[k-1]'(by omega))=false:=λi hi fg=>by
        have z:=w2 (by omega);rw[Uv,gm (by omega)] at z;rcases VM k1 i with h|h
        .exact O9q.tr z (nA sB (i:=k1) (j:=i) h (by omega))
        .have e:i=k1:=by omega
         subst e;exact z
       have pK:0<k1->lt (b[k1-1]'(by omega)) (a[k-1]'(by omega))=true:=λh=>by have z:=w1 h;rw[Uv,gm (by omega)] at z;exact z
       refine Runs.ite (λg9=>?_) λg9=>?_
       .have fJ:=Gh.lG (na:=k) (k:=k1) O9q sB (mb-1-k1) (by rw[show k1+(mb-1-k1)=mb-1 by omega];exact de) (by omega) (λi hi fg y hy=>by
         have z:=cB (ma:=k-1) (mb:=i) (by omega) (by omega) (tb i (by omega) fg);have e:k-1+1=k:=by omega
         rw[e] at z;simpa only [S6] using z y hy)
        refine Runs.ite (λh=>?_) λh5=>?_
        .have h':k1=1:=by simpa using h
         (apply eJ;(case hX=>walk_at "lx");(case hY=>walk_at "lx");(case h=>exact#[(λz=>nomatch z),(λo' e=>by cases e;simpa only [S7,S9,Tp,Tt,Tq,Tw,TH,Ts,TC,Ti,bU,bx,Tf,Ub,TM] using nE fJ (by omega)),hp,hq]))
        have pJ:k1≠1:=by simpa using h5
        refine Runs.ite (λh=>?_) λh6=>?_
        .have h':k1=0:=by simpa using h
         (apply eJ;(case hX=>walk_at "lx");(case hY=>walk_at "lx");(case h=>exact#[(λz=>nomatch z),(λo' e=>by cases e;simpa only [S7,S9,Tp,Tt,Tq,Tw,TH,Ts,TC,Ti,bU,bx,Tf,Ub,TM] using fJ.done sA sB (.inr (by omega))),hp,hq]))
        have z6:k1≠0:=by simpa using h6
        have Mh:2<=k1:=by omega
        clear pJ z6;have ht:=pK (by omega);have a7:=Gh.fi (na:=k-1) (by rw[show k-1+1=k by omega];exact fJ) O9q sA (by omega) (λy hy=>by
         have z:=cA (ma:=k-1) (mb:=k1-1) (by omega) (by omega) ht;have e:k1-1+1=k1:=by omega
         rw[e] at z;simpa only [S6] using z y hy)
        simp only[S6] at a7;refine Runs.elem (by omega) ?_;refine Runs.ite (λh=>?_) λh7=>?_
        .have h':k-1=0:=by simpa using h
         (apply eJ;(case hX=>walk_at "lx");(case hY=>walk_at "lx");(case h=>exact#[(λz=>nomatch z),(λo' e=>by cases e;simpa only [S7,S9,Tp,Tt,Tq,Tw,TH,Ts,TC,Ti,bU,bx,Tf,Ub,TM] using a7.done sA sB (.inl (by omega))),hp,hq]))
        have z7:k-1≠0:=by simpa using h7
        have lL:2<=k:=by omega
        clear z7;refine Runs.sW (λv v=>rfl) ?_ ?_
        . (apply nD;(case hY=>walk_at "lx");(case h=>exact#[(λv=>#[by simpa only [S7,S9,Tp,Tt,Tq,Tw,TH,Ts,TC,Ti,bU,bx,Tf,Ub,TM] using a7,by dsimp only;omega,by dsimp only;omega,by dsimp only;omega,by dsimp only;omega,by dsimp only;omega]),(λo e=>nomatch e),hp,hq]))
        . (apply lM;(case hY=>walk_at "lx");(case h=>exact#[Y,by simpa only [S7,S9,Tp,Tt,Tq,Tw,TH,Ts,TC,Ti,bU,bx,Tf,Ub,TM] using a7,by dsimp only;omega,by dsimp only;omega,by dsimp only;omega,by dsimp only;omega,by dsimp only;omega,hp,hq]))
       .have ek:k1=mb-1:=by omega
        have ht:lt (b[mb-1-1]'(by omega)) (a[k-1]'(by omega))=true:=by have z:=pK (by omega);simpa only [ek] using z
        have a7:=Gh.fi (na:=k-1) (by rw[show k-1+1=k by omega];exact de) O9q sA (by omega) (λy hy=>by
         have z:=cA (ma:=k-1) (mb:=(mb-1)-1) (by omega) (by omega) ht;have e:(mb-1)-1+1=(mb-1):=by omega
         rw[e] at z;simpa only [S6] using z y hy)
        simp only[S6] at a7;refine Runs.elem (by omega) ?_;refine Runs.ite (λh=>?_) λh7=>?_
        .have h':k-1=0:=by simpa using h
         (apply eJ;(case hX=>walk_at "lx");(case hY=>walk_at "lx");(case h=>exact#[(λz=>nomatch z),(λo' e=>by cases e;simpa only [S7,S9,Tp,Tt,Tq,Tw,TH,Ts,TC,Ti,bU,bx,Tf,Ub,TM] using a7.done sA sB (.inl (by omega))),hp,hq]))
        have z7:k-1≠0:=by simpa using h7
        have lL:2<=k:=by omega
        clear z7;refine Runs.sW (λv v=>rfl) ?_ ?_
        . (apply nD;(case hY=>walk_at "lx");(case h=>exact#[(λv=>#[by simpa only [S7,S9,Tp,Tt,Tq,Tw,TH,Ts,TC,Ti,bU,bx,Tf,Ub,TM] using a7,by dsimp only;omega,by dsimp only;omega,by dsimp only;omega,by dsimp only;omega,by dsimp only;omega]),(λo e=>nomatch e),hp,hq]))
        . (apply lM;(case hY=>walk_at "lx");(case h=>exact#[Y,by simpa only [S7,S9,Tp,Tt,Tq,Tw,TH,Ts,TC,Ti,bU,bx,Tf,Ub,TM] using a7,by dsimp only;omega,by dsimp only;omega,by dsimp only;omega,by dsimp only;omega,by dsimp only;omega,hp,hq]))
      .have ek:k=ma:=by omega
       have nk:lt b[mb-1] (a[ma-1]'(by omega))=false:=by have z:=Dx (by omega);simpa only [ek] using z
       have de:=Gh.iP (nb:=mb-1) (by rw[show mb-1+1=mb by omega];exact hG) O9q sB (by omega) (λy hy=>by
        have z:=cB (ma:=ma-1) (mb:=mb-1) (by omega) (by omega) nk;have e:ma-1+1=ma:=by omega
        rw[e] at z;simpa only [S6] using z y hy)
       simp only[S6] at de;have iQ:b[mb-1]<n:=hb _ (Uj _);refine Runs.elem (by omega) ?_;refine Runs.ite (λh=>?_) λh4=>?_
       .have h':mb-1=1:=by simpa using h
        (apply eJ;(case hX=>walk_at "lx");(case hY=>walk_at "lx");(case h=>exact#[(λz=>nomatch z),(λo' e=>by cases e;simpa only [S7,S9,Tp,Tt,Tq,Tw,TH,Ts,TC,Ti,bU,bx,Tf,Ub,TM] using nE de (by omega)),hp,hq]))
       have z4:mb-1≠1:=by simpa using h4
       have sV:3<=mb:=by omega
       clear z4;have hA:a[ma-1]<n:=ha _ (Uj _);refine Runs.elem (by omega) ?_;refine Runs.bind (j4 hb hA (by omega) (by omega)) λd σ4 hd=>?_;obtain⟨rfl,k1,rfl,fI,w1,w2⟩:=hd;dsimp only;have tb:∀ i (hi:i<mb-1),k1<=i->lt (b[i]'(by omega)) (a[ma-1]'(by omega))=false:=λi hi fg=>by
        have z:=w2 (by omega);rw[Uv,gm (by omega)] at z;rcases VM k1 i with h|h
        .exact O9q.tr z (nA sB (i:=k1) (j:=i) h (by omega))
        .have e:i=k1:=by omega
         subst e;exact z
       have pK:0<k1->lt (b[k1-1]'(by omega)) (a[ma-1]'(by omega))=true:=λh=>by have z:=w1 h;rw[Uv,gm (by omega)] at z;exact z
       refine Runs.ite (λg9=>?_) λg9=>?_
       .have fJ:=Gh.lG (na:=ma) (k:=k1) O9q sB (mb-1-k1) (by rw[show k1+(mb-1-k1)=mb-1 by omega];exact de) (by omega) (λi hi fg y hy=>by
         have z:=cB (ma:=ma-1) (mb:=i) (by omega) (by omega) (tb i (by omega) fg);have e:ma-1+1=ma:=by omega
         rw[e] at z;simpa only [S6] using z y hy)
        refine Runs.ite (λh=>?_) λh5=>?_
        .have h':k1=1:=by simpa using h
         (apply eJ;(case hX=>walk_at "lx");(case hY=>walk_at "lx");(case h=>exact#[(λz=>nomatch z),(λo' e=>by cases e;simpa only [S7,S9,Tp,Tt,Tq,Tw,TH,Ts,TC,Ti,bU,bx,Tf,Ub,TM] using nE fJ (by omega)),hp,hq]))
        have pJ:k1≠1:=by simpa using h5
        refine Runs.ite (λh=>?_) λh6=>?_
        .have h':k1=0:=by simpa using h
         (apply eJ;(case hX=>walk_at "lx");(case hY=>walk_at "lx");(case h=>exact#[(λz=>nomatch z),(λo' e=>by cases e;simpa only [S7,S9,Tp,Tt,Tq,Tw,TH,Ts,TC,Ti,bU,bx,Tf,Ub,TM] using fJ.done sA sB (.inr (by omega))),hp,hq]))
        have z6:k1≠0:=by simpa using h6
        have Mh:2<=k1:=by omega
        clear pJ z6;have ht:=pK (by omega);have a7:=Gh.fi (na:=ma-1) (by rw[show ma-1+1=ma by omega];exact fJ) O9q sA (by omega) (λy hy=>by
         have z:=cA (ma:=ma-1) (mb:=k1-1) (by omega) (by omega) ht;have e:k1-1+1=k1:=by omega
         rw[e] at z;simpa only [S6] using z y hy)
        simp only[S6] at a7;refine Runs.elem (by omega) ?_;refine Runs.ite (λh=>?_) λh7=>?_
        .have h':ma-1=0:=by simpa using h
         (apply eJ;(case hX=>walk_at "lx");(case hY=>walk_at "lx");(case h=>exact#[(λz=>nomatch z),(λo' e=>by cases e;simpa only [S7,S9,Tp,Tt,Tq,Tw,TH,Ts,TC,Ti,bU,bx,Tf,Ub,TM] using a7.done sA sB (.inl (by omega))),hp,hq]))
        have z7:ma-1≠0:=by simpa using h7
        have lL:2<=ma:=by omega
        clear z7;refine Runs.sW (λv v=>rfl) ?_ ?_
        . (apply nD;(case hY=>walk_at "lx");(case h=>exact#[(λv=>#[by simpa only [S7,S9,Tp,Tt,Tq,Tw,TH,Ts,TC,Ti,bU,bx,Tf,Ub,TM] using a7,by dsimp only;omega,by dsimp only;omega,by dsimp only;omega,by dsimp only;omega,by dsimp only;omega]),(λo e=>nomatch e),hp,hq]))
        . (apply lM;(case hY=>walk_at "lx");(case h=>exact#[Y,by simpa only [S7,S9,Tp,Tt,Tq,Tw,TH,Ts,TC,Ti,bU,bx,Tf,Ub,TM] using a7,by dsimp only;omega,by dsimp only;omega,by dsimp only;omega,by dsimp only;omega,by dsimp only;omega,hp,hq]))
       .have ek:k1=mb-1:=by omega
        have ht:lt (b[mb-1-1]'(by omega)) (a[ma-1]'(by omega))=true:=by have z:=pK (by omega);simpa only [ek] using z
        have a7:=Gh.fi (na:=ma-1) (by rw[show ma-1+1=ma by omega];exact de) O9q sA (by omega) (λy hy=>by
         have z:=cA (ma:=ma-1) (mb:=(mb-1)-1) (by omega) (by omega) ht;have e:(mb-1)-1+1=(mb-1):=by omega
         rw[e] at z;simpa only [S6] using z y hy)
        simp only[S6] at a7;refine Runs.elem (by omega) ?_;refine Runs.ite (λh=>?_) λh7=>?_
        .have h':ma-1=0:=by simpa using h
         (apply eJ;(case hX=>walk_at "lx");(case hY=>walk_at "lx");(case h=>exact#[(λz=>nomatch z),(λo' e=>by cases e;simpa only [S7,S9,Tp,Tt,Tq,Tw,TH,Ts,TC,Ti,bU,bx,Tf,Ub,TM] using a7.done sA sB (.inl (by omega))),hp,hq]))
        have z7:ma-1≠0:=by simpa using h7
        have lL:2<=ma:=by omega
        clear z7;refine Runs.sW (λv v=>rfl) ?_ ?_
        . (apply nD;(case hY=>walk_at "lx");(case h=>exact#[(λv=>#[by simpa only [S7,S9,Tp,Tt,Tq,Tw,TH,Ts,TC,Ti,bU,bx,Tf,Ub,TM] using a7,by dsimp only;omega,by dsimp only;omega,by dsimp only;omega,by dsimp only;omega,by dsimp only;omega]),(λo e=>nomatch e),hp,hq]))
        . (apply lM;(case hY=>walk_at "lx");(case h=>exact#[Y,by simpa only [S7,S9,Tp,Tt,Tq,Tw,TH,Ts,TC,Ti,bU,bx,Tf,Ub,TM] using a7,by dsimp only;omega,by dsimp only;omega,by dsimp only;omega,by dsimp only;omega,by dsimp only;omega,hp,hq]))
    .rintro ⟨ro,ma,mb,o,pI,ac,bc⟩ σ2 ⟨e1,hG,m1,m2,m3,m4,bY,hp,hq⟩;dsimp only at e1 hG m1 m2 m3 m4 bY;subst e1;exact#[(λv=>#[hG,m1,m2,m3,m4,bY]),(λo e=>nomatch e),hp,hq]
    .rintro ⟨ro,ma,mb,o,pI,ac,bc⟩ σ2 ⟨hn,hsm,hp,hq⟩;dsimp only at hn hsm;cases ro with
     | some o' =>
      dsimp only [mw,WA];exact eJ Lx.of Lx.of #[#[o',Y,hsm o' Y],hp,hq]
     | none =>
      obtain⟨hG,m1,m2,m3,m4,bY⟩:=hn rfl;dsimp only [mw,WA];refine Runs.setG ?_;exact lM Lx.of #[Y,hG,m1,m2,m3,m4,by dsimp only;omega,hp,hq]
 .rintro ⟨ro,na,nb,out,mg⟩ σ1 ⟨e1,hout,sY,kP,sZ,tf,hs,hp,hq⟩;dsimp only at sY kP sZ tf hs;omega
 .rintro ⟨ro,na,nb,out,mg⟩ σ1 ⟨⟨o,e1,ho⟩,hp,hq⟩;dsimp only at e1;subst e1;dsimp only [mw,WA];exact nz Lx.of #[ho,hp,hq]
end
section
variable{lt:Nat->Nat->Bool}{n N:Nat}{G σ':IS}{α β:Type}{val:β->(Nat->Us)->α}{P:β->IS->Prop}
def Wl(n N:Nat)(q:Array (Nat × Nat × Nat))(G:IS):Prop:=(∀ x∈G.p,x<n)/\G.p.size=N/\G.q=q
theorem Runs.ltAt{i j:Nat}{f:(Nat->Us)->Option Bool->SM α}(hp:∀ x∈G.p,x<n)(hi:i<G.p.size)(hj:j<G.p.size)(h:Runs lt n (λι=>f ι (O (lt G.p[i] G.p[j]))) G val P):Runs lt n (λι=>ltAt' i j >>= f ι) G val P:=by simp only[ltAt'_eq,bind_assoc];refine Runs.get ?_;exact Runs.elem hi (Runs.elem hj (Runs.cmp (hp _ (Uj _)) (hp _ (Uj _)) h))
theorem Runs.rev{i j:Nat}{f:(Nat->Us)->PUnit->SM α}(h:Runs lt n (λι=>f ι #[]) { G with p:=mirror G.p i j ((j-i) / 2) } val P):Runs lt n (λι=>reverseSlice' i j >>= f ι) G val P:=by simp only[reverseSlice'_eq];refine Runs.mod (σ':={ G with p:=mirror G.p i j ((j-i) / 2) }) (λι=>?_) h;show UC (VZ true) (mirror (G.p.map ι) i j ((j-i) / 2)) G.q G.g J=UC (VZ true) ((mirror G.p i j ((j-i) / 2)).map ι) G.q G.g J;have e1:mirror (G.p.map ι) i j ((j-i) / 2)=(mirror G.p i j ((j-i) / 2)).map ι:=Zo ι (λk=>i+k) (λk=>j-1-k) _ G.p;rw[e1]
theorem Runs.down{i j:Nat}{f:(Nat->Us)->PUnit->SM α}(h:Runs lt n (λι=>f ι #[]) { G with p:=bubble G.p i (i-j) } val P):Runs lt n (λι=>moveDown' i j >>= f ι) G val P:=by simp only[moveDown'_eq];refine Runs.mod (σ':={ G with p:=bubble G.p i (i-j) }) (λι=>?_) h;show UC (VZ true) (bubble (G.p.map ι) i (i-j)) G.q G.g J=UC (VZ true) ((bubble G.p i (i-j)).map ι) G.q G.g J;have e1:bubble (G.p.map ι) i (i-j)=(bubble G.p i (i-j)).map ι:=Zo ι (λk=>i-k) (λk=>i-k-1) _ G.p;rw[e1]
theorem wM{u v:Nat->Nat}:∀ (l:List Nat) (xs:Array Nat),(∀ x∈l.foldl (λa k=>a.swapIfInBounds (u k) (v k)) xs,x∈xs)/\(l.foldl (λa k=>a.swapIfInBounds (u k) (v k)) xs).size=xs.size
 | [],xs=>#[λy h=>h,Y]
 | k::l,xs=>by
  have ih:=wM (u:=u) (v:=v) l (xs.swapIfInBounds (u k) (v k));have m1:∀ x∈xs.swapIfInBounds (u k) (v k),x∈xs:=λx hx=>by
   rw[Array.swapIfInBounds_def] at hx;split at hx
   .split at hx
    .exact (Array.swap_perm _ _).mem_iff.mp hx
    .exact hx
   .exact hx
  refine#[λx hx=>m1 x (ih.1 x hx),?_];rw[WY,ih.2];simp
theorem Wl.rev{q:Array (Nat × Nat × Nat)}{i j:Nat}(h:Wl n N q G):Wl n N q { G with p:=mirror G.p i j ((j-i) / 2) }:=by obtain⟨h1,h2,h3⟩:=h;have k:=wM (u:=λk=>i+k) (v:=λk=>j-1-k) (List.range ((j-i) / 2)) G.p;exact#[λx hx=>h1 x (k.1 x hx),k.2.trans h2,h3]
theorem Wl.down{q:Array (Nat × Nat × Nat)}{i j:Nat}(h:Wl n N q G):Wl n N q { G with p:=bubble G.p i (i-j) }:=by obtain⟨h1,h2,h3⟩:=h;have k:=wM (u:=λk=>i-k) (v:=λk=>i-k-1) (List.range (i-j)) G.p;exact#[λx hx=>h1 x (k.1 x hx),k.2.trans h2,h3]
end
theorem Mi(i:Nat):mergeAt' i=(do
 let s <- get
 let (O (sa,na,power),O (sb,nb,_)):=((YA s)[i]?,(YA s)[i+1]?)|unsupported "internal:list.sort.pending"
 set (UC (Xx s) (Z3 s) (((YA s).setIfInBounds i (sa,na+nb,power)).eraseIdxIfInBounds (i+1)) (abI s) (Zw s))
 let O k <- j3 false (<- X7 (Z3 s) sb) (Z3 s) sa na 0|return false
 let (sa,na):=(sa+k,na-k)
 if na == 0 then return true
 let O nb <- j3 true (<- X7 (Z3 s) (sa+na-1)) (Z3 s) sb nb (nb-1)|return false
 if nb == 0 then return true
 let x:=(Z3 s).extract sa sb;let y:=(Z3 s).extract sb (sb+nb)
 let merged <- if na<=nb then wG x y else wK x y
 modify λs=>setArr s (merged.toList.zipIdx.foldl (λa (p,j)=>a.setIfInBounds (sa+j) p) (Z3 s))
 return (Zw (<- get)).isNone):=rfl
section
variable{lt:Nat->Nat->Bool}{n N:Nat}{G σ':IS}{α β:Type}{val:β->(Nat->Us)->α}{P:β->IS->Prop}
theorem Mj{M:ab5}{A:Uk}{E:SY->SX->Prop}{s:SX}{G:Type}{Q:PUnit->G->Prop}{st gC:G}(h:Q #[] gC):wpS M A E s (set gC:StateT G Sem PUnit) Q st:=by unfold wpS;rw[StateT.run_set];exact Tc #[Y,h]
theorem Runs.Ml{g:(Nat->Us)->aa9}{f:(Nat->Us)->PUnit->SM α}(e:∀ ι,g ι=up ι σ')(h:Runs lt n (λι=>f ι #[]) σ' val P):Runs lt n (λι=>set (g ι) >>= f ι) G val P:=by obtain⟨b,σ2,hp,h2⟩:=h;exact#[b,σ2,hp,λprog w A E s ι c Q q=>WM (Mj (by rw[e];exact h2 prog w A E s ι c Q q))]
noncomputable def laid(sa:Nat)(o:List Nat)(p:Array Nat):Array Nat:=o.zipIdx.foldl (λa (x,j)=>a.setIfInBounds (sa+j) x) p
theorem wN(ι:Nat->Us)(sa:Nat):∀ (o:List Nat) (k:Nat) (p:Array Nat),((o.map ι).zipIdx k).foldl (λa (x,j)=>a.setIfInBounds (sa+j) x) (p.map ι)=((o.zipIdx k).foldl (λa (x,j)=>a.setIfInBounds (sa+j) x) p).map ι
 | [],_,_=>rfl
 | x::o,k,p=>by rw[TJ,YY,YY,WY,WY];dsimp only;rw[<- Array.map_setIfInBounds,wN ι sa o (k+1)]
theorem Runs.Mm{m m':(Nat->Us)->SM α}(e:∀ ι,m ι=m' ι)(h:Runs lt n m' G val P):Runs lt n m G val P:=by have:m=m':=funext e;rw[this];exact h
theorem wO(ι:Nat->Us)(G:IS):YA (up ι G)=G.q:=rfl
end
theorem set_list{l:List Nat}{i x:Nat}(hi:i<l.length):l.set i x=l.take i++x::l.drop (i+1):=List.set_eq_take_append_cons_drop .. |>.trans (by rw[if_pos hi])
theorem wQ(sa:Nat):∀ (o:List Nat) (k:Nat) (p:Array Nat),sa+k+o.length<=p.size->((o.zipIdx k).foldl (λa (x,j)=>a.setIfInBounds (sa+j) x) p).toList=p.toList.take (sa+k)++o++p.toList.drop (sa+k+o.length)
 | [],k,p,_=>by simp
 | x::o,k,p,h=>by
  rw[Uz] at h;rw[YY,WY];dsimp only;have ih:=wQ sa o (k+1) (p.setIfInBounds (sa+k) x) (by simp;omega);rw[ih,Array.toList_setIfInBounds];have hl:sa+k<p.toList.length:=by rw[TU];omega
  have e1:(p.toList.set (sa+k) x).take (sa+(k+1))=p.toList.take (sa+k)++[x]:=by rw[set_list hl,List.take_append];rw[Uu (by simp;omega),Uc,XQ (UN hl),show sa+(k+1)-(sa+k)=1 by omega];rfl
  have e2:(p.toList.set (sa+k) x).drop (sa+(k+1)+o.length)=p.toList.drop (sa+k+(o.length+1)):=by rw[List.drop_set_of_lt (by omega),show sa+(k+1)+o.length=sa+k+(o.length+1) by omega]
  rw[e1,e2,Uz];simp
section
variable{lt:Nat->Nat->Bool}{n:Nat}{G:IS}
theorem Dy(O9q:Ord lt){P A B Z o:List Nat}(Mn:Up lt (P++A))(Mo:Up lt (B++Z))(h1:∀ x∈P,∀ y∈B,lt y x=false)(h2:∀ x∈A,∀ y∈Z,lt y x=false)(h3:∀ x∈P,∀ y∈Z,lt y x=false)(g:Gf lt A B o):Up lt (P++o++Z)/\(P++o++Z).Perm (P++A++(B++Z)):=by
 have a:=Ur.mp Mn;have b:=Ur.mp Mo;refine#[?_,?_]
 .refine Ur.mpr #[Ur.mpr #[a.1,g.2,λx hx y hy=>?_],b.2.1,λx hx y hy=>?_]
  .rcases TQ.mp (g.1.mem_iff.mp hy) with z|z
   .exact a.2.2 x hx y z
   .exact h1 x hx y z
  .rcases TQ.mp hx with hx|hx
   .exact h3 x hx y hy
   .rcases TQ.mp (g.1.mem_iff.mp hx) with z|z
    .exact h2 x z y hy
    .exact b.2.2 x z y hy
 .have:=(g.1.append_left P).append_right Z;simpa only [Tf] using this
theorem Mp{n1 n2 pw z:Nat}(O9q:Ord lt)(hp:∀ x∈G.p,x<n)(hs:G.p.size=n1+n2)(h1:1<=n1)(h2:1<=n2)(hq:G.q = (List.toArray [(0,n1,pw),(n1,n2,z)]))(sP:Up lt (G.p.toList.take n1))(sQ:Up lt (G.p.toList.drop n1)) :
 Runs lt n (λv=>mergeAt' 0) G (λ(b:Bool) _=>b) (λb σ'=>b=true/\σ'.p.toList.Perm G.p.toList/\Up lt σ'.p.toList/\σ'.q.size=1):=by
 have hL:G.p.toList.length=n1+n2:=by rw[TU];exact hs
 have uQ:∀ j (hj:j<n1+n2),n1<=j->∀ y∈G.p.toList.drop j,lt y (G.p[j]'(by omega))=false:=λj hj hn y hy=>by have:=gk O9q sQ (ib:=j-n1) (by rw[UA];omega) y (by rw[abo,show n1+(j-n1)=j by omega];exact hy);rw[Vx] at this;simpa only [show n1+(j-n1)=j by omega,S6] using this
 have uP:∀ i (hi:i<n1),∀ x∈G.p.toList.take (i+1),lt (G.p[i]'(by omega)) x=false:=λi hi x hx=>by have:=nC O9q sP (i:=i) (by rw[Uc];omega) x (by rw[List.take_take,XQ (by omega)];exact hx);rw[WB] at this;simpa only [S6] using this
 simp only[Mi];refine Runs.get ?_;have e1:∀ ι,(YA (up ι G)) = (List.toArray [(0,n1,pw),(n1,n2,z)]):=λι=>hq;have e2:∀ ι,Z3 (up ι G)=G.p.map ι:=λι=>rfl;simp only[e1,e2,List.getElem?_toArray,List.getElem?_cons_zero,Vs,Uv,<- Yz];refine Runs.Ml (σ':={ G with q:=((List.toArray [(0,n1,pw),(n1,n2,z)]).setIfInBounds 0 (0,n1+n2,pw)).eraseIdxIfInBounds 1 }) (λι=>rfl) ?_;have tj:({ G with q:=((List.toArray [(0,n1,pw),(n1,n2,z)]).setIfInBounds 0 (0,n1+n2,pw)).eraseIdxIfInBounds 1 }:IS).q.size=1:=by simp
 have df:({ G with q:=((List.toArray [(0,n1,pw),(n1,n2,z)]).setIfInBounds 0 (0,n1+n2,pw)).eraseIdxIfInBounds 1 }:IS).p=G.p:=rfl;generalize ({ G with q:=((List.toArray [(0,n1,pw),(n1,n2,z)]).setIfInBounds 0 (0,n1+n2,pw)).eraseIdxIfInBounds 1 }:IS)=σ1 at tj df ⊢;have flat:(∀ x∈G.p.toList.take n1,∀ y∈G.p.toList.drop n1,lt y x=false)->(true=true)/\σ1.p.toList.Perm G.p.toList/\Up lt σ1.p.toList/\σ1.q.size=1:=λh=>by refine#[Y,by rw[df],?_,tj];rw[df,<- Vk n1 G.p.toList];exact Ur.mpr #[sP,sQ,h]
 refine Runs.elem (by omega) ?_;refine Runs.bind (j4 (q:=G.p) hp (hp _ (Uj _)) (by omega) (by omega)) λd σ3 hd=>?_;obtain⟨rfl,k,rfl,hk,v1,v2⟩:=hd;dsimp only;have f1:∀ x∈G.p.toList.take k,lt (G.p[n1]'(by omega)) x=false:=λx hx=>by
  rcases Nat.eq_zero_or_pos k with h|h
  .rw[h] at hx;simp at hx
  .have w:=v1 h;rw[Uv,lI (by omega)] at w;have w':lt (G.p[n1]'(by omega)) (G.p[k-1]'(by omega))=false:=by simpa using w
   exact O9q.tr (uP (k-1) (by omega) x (by rw[show k-1+1=k by omega];exact hx)) w'
 have tm:∀ x∈G.p.toList.take k,∀ y∈G.p.toList.drop n1,lt y x=false:=λx hx y hy=>O9q.tr (f1 x hx) (uQ n1 (by omega) (Th _) y hy);refine Runs.ite (λh=>?_) λh3=>?_
 .have h':n1-k=0:=by simpa using h
  have ek:k=n1:=by omega
  exact Runs.ret (b:=true) (λv=>rfl) (flat (by rw[ek] at tm;exact tm))
 have sU:n1-k≠0:=by simpa using h3
 have f2:lt (G.p[n1]'(by omega)) (G.p[k]'(by omega))=true:=by have w:=v2 (by omega);rw[Uv,lI (by omega)] at w;simpa using w
 have Mq:k+(n1-k)-1=n1-1:=by omega
 refine Runs.elem (by omega) ?_;refine Runs.bind (j4 (q:=G.p) hp (hp _ (Uj _)) (by omega) (by omega)) λd σ4 hd=>?_;obtain⟨rfl,k2,rfl,j5,w1,w2⟩:=hd;simp only[Mq] at w1 w2;dsimp only;have gx:∀ x∈G.p.toList.take n1,lt (G.p[n1-1]'(by omega)) x=false:=λx hx=>uP (n1-1) (by omega) x (by rw[show n1-1+1=n1 by omega];exact hx);have g2:∀ y∈G.p.toList.drop (n1+k2),lt y (G.p[n1-1]'(by omega))=false:=λy hy=>by
  rcases VM k2 n2 with h|h
  .have w:=w2 h;rw[gm (by omega)] at w;exact O9q.tr w (uQ (n1+k2) (by omega) (by omega) y hy)
  .rw[Ve (by omega)] at hy;cases hy
 refine Runs.ite (λh=>?_) λh4=>?_
 .have h':k2=0:=by simpa using h
  exact Runs.ret (b:=true) (λv=>rfl) (flat λx hx y hy=>O9q.tr (gx x hx) (g2 y (by rw[h',V7];exact hy)))
 have sV:k2≠0:=by simpa using h4
 have g3:lt (G.p[n1+(k2-1)]'(by omega)) (G.p[n1-1]'(by omega))=true:=by have w:=w1 (by omega);rw[gm (by omega)] at w;exact w
 have nF:G.p.toList.take k++(G.p.toList.drop k).take (n1-k)=G.p.toList.take n1:=by
  have:=(List.take_add (l:=G.p.toList) (i:=k) (j:=n1-k)).symm
  rwa [show k+(n1-k)=n1 by omega] at this
 have pL:(G.p.toList.drop n1).take k2++G.p.toList.drop (n1+k2)=G.p.toList.drop n1:=by rw[<- abo];exact Vk _ _
 have sA:Up lt ((G.p.toList.drop k).take (n1-k)):=by rw[<- nF] at sP;exact (Ur.mp sP).2.1
 have sB:Up lt ((G.p.toList.drop n1).take k2):=sQ.sublist (Wx _ _);have Mr:∀ x∈(G.p.toList.drop k).take (n1-k),x∈G.p.toList.take n1:=λx hx=>by rw[<- nF];exact Te _ hx
 have Ms:∀ y∈G.p.toList.drop (n1+k2),y∈G.p.toList.drop n1:=λy hy=>by rw[<- pL];exact Te _ hy
 have jY:∀ x∈G.p.toList.take k,∀ y∈(G.p.toList.drop n1).take k2,lt y x=false:=λx hx y hy=>tm x hx y (UE hy);have Mt:∀ x∈G.p.toList.take k,∀ y∈G.p.toList.drop (n1+k2),lt y x=false:=λx hx y hy=>tm x hx y (Ms y hy);have sU:=Mt;have gU:∀ x∈(G.p.toList.drop k).take (n1-k),∀ y∈G.p.toList.drop (n1+k2),lt y x=false:=λx hx y hy=>O9q.tr (gx x (Mr x hx)) (g2 y hy);have Dz:(G.p.extract n1 (n1+k2))[0]'(by rw[Vo];omega)=G.p[n1]'(by omega):=by rw[Zp];simp
 have DB:(G.p.extract k n1)[(G.p.extract k n1).size-1]'(by rw[Vo];omega)=G.p[n1-1]'(by omega):=by
  rw[Zp];simp only[Vo]
  congr 1
  omega
 have PA:∀ y∈(G.p.toList.drop k).take (n1-k),lt y (G.p[n1]'(by omega))=false:=λy hy=>by
  have sd:∀ y∈(G.p.toList.drop k).take (n1-k),lt y (G.p[k]'(by omega))=false:=λy hy=>by have:=gk O9q sA (ib:=0) (by rw[Uc,UA];omega) y hy;rw[WB,Vx] at this;simpa only [V7,S6] using this
  exact O9q.tr (O9q.asym f2) (sd y hy)
 have PB:∀ y∈(G.p.toList.drop n1).take k2,lt (G.p[n1-1]'(by omega)) y=false:=λy hy=>by have:=nC O9q sQ (i:=k2-1) (by rw[UA];omega) y (by rw[show k2-1+1=k2 by omega];exact hy);rw[Vx] at this;simp only[S6] at this;exact O9q.tr this (O9q.asym g3)
 refine Runs.ite (λh=>?_) λh=>?_
 .
  refine Runs.bind (Md (a:=G.p.extract k n1) (b:=G.p.extract n1 (n1+k2)) O9q (λx hx=>hp x (pC hx)) (λx hx=>hp x (pC hx)) (by rw[bx];exact sA) (by rw[bE];exact sB) (by rw[Vo];omega) (by rw[Vo];omega) (by rw[Dz,bx];exact PA) (by rw[DB,bE];exact PB)) λo σ2 ho=>?_;obtain⟨ho,c8,wR⟩:=ho;rw[bx,bE] at ho;have lo:o.toList.length=(n1-k)+k2:=by have:=ho.1.length_eq;rw[T8,Uc,Uc,UA,UA,hL] at this;omega
  refine Runs.mod (σ':={ σ2 with p:=laid k o.toList σ2.p }) (λι=>?_) ?_
  .show UC (VZ true) (Zu (λa x=>a.setIfInBounds (k+x.snd) x.fst) (σ2.p.map ι) (o.map ι).toList.zipIdx) σ2.q σ2.g J=UC (VZ true) ((laid k o.toList σ2.p).map ι) σ2.q σ2.g J;rw[aaO];exact congrArg (λz=>UC (VZ true) z σ2.q σ2.g J) (wN ι k o.toList 0 σ2.p)
  refine Runs.get ?_;have pM:(laid k o.toList σ2.p).toList=G.p.toList.take k++o.toList++G.p.toList.drop (n1+k2):=by have:=wQ k o.toList 0 σ2.p (by rw[c8,df,hs];omega);rw[c8,df,lo,V7,show k+(n1-k+k2)=n1+k2 by omega] at this;rw[c8,df];exact this
  have mr:=Dy O9q (P:=G.p.toList.take k) (Z:=G.p.toList.drop (n1+k2)) (by rw[nF];exact sP) (by rw[pL];exact sQ) jY gU sU ho;rw[nF,pL,Vk] at mr;exact Runs.ret (b:=true) (λι=>rfl) #[Y,by show (laid k o.toList σ2.p).toList.Perm _;rw[pM];exact mr.2,by show Up lt (laid k o.toList σ2.p).toList;rw[pM];exact mr.1,by show σ2.q.size=1;rw[wR];exact tj]
 .
  refine Runs.bind (Mg (a:=G.p.extract k n1) (b:=G.p.extract n1 (n1+k2)) O9q (λx hx=>hp x (pC hx)) (λx hx=>hp x (pC hx)) (by rw[bx];exact sA) (by rw[bE];exact sB) (by rw[Vo];omega) (by rw[Vo];omega) (by rw[Dz,bx];exact PA) (by rw[DB,bE];exact PB)) λo σ2 ho=>?_;obtain⟨ho,c8,wR⟩:=ho;rw[bx,bE] at ho;have lo:o.toList.length=(n1-k)+k2:=by have:=ho.1.length_eq;rw[T8,Uc,Uc,UA,UA,hL] at this;omega
  refine Runs.mod (σ':={ σ2 with p:=laid k o.toList σ2.p }) (λι=>?_) ?_
  .show UC (VZ true) (Zu (λa x=>a.setIfInBounds (k+x.snd) x.fst) (σ2.p.map ι) (o.map ι).toList.zipIdx) σ2.q σ2.g J=UC (VZ true) ((laid k o.toList σ2.p).map ι) σ2.q σ2.g J;rw[aaO];exact congrArg (λz=>UC (VZ true) z σ2.q σ2.g J) (wN ι k o.toList 0 σ2.p)
  refine Runs.get ?_;have pM:(laid k o.toList σ2.p).toList=G.p.toList.take k++o.toList++G.p.toList.drop (n1+k2):=by have:=wQ k o.toList 0 σ2.p (by rw[c8,df,hs];omega);rw[c8,df,lo,V7,show k+(n1-k+k2)=n1+k2 by omega] at this;rw[c8,df];exact this
  have mr:=Dy O9q (P:=G.p.toList.take k) (Z:=G.p.toList.drop (n1+k2)) (by rw[nF];exact sP) (by rw[pL];exact sQ) jY gU sU ho;rw[nF,pL,Vk] at mr;exact Runs.ret (b:=true) (λι=>rfl) #[Y,by show (laid k o.toList σ2.p).toList.Perm _;rw[pM];exact mr.2,by show Up lt (laid k o.toList σ2.p).toList;rw[pM];exact mr.1,by show σ2.q.size=1;rw[wR];exact tj]
end
def SA(lt:Nat->Nat->Bool)(p:Array Nat)(lo k:Nat):Prop:=∀ i j,i<=j->j<k->lt (p.getD (lo+j) 0) (p.getD (lo+i) 0)=false
def DA(lt:Nat->Nat->Bool)(p:Array Nat)(lo k:Nat):Prop:=∀ i j,i<=j->j<k->lt (p.getD (lo+i) 0) (p.getD (lo+j) 0)=false
section
variable{lt:Nat->Nat->Bool}{n N:Nat}{G σ':IS}{p:Array Nat}{lo k:Nat}
theorem gd{i:Nat}(hi:i<p.size):p[i]=p.getD i 0:=by rw[UK,UB hi];rfl
theorem SA.one(O9q:Ord lt):SA lt p lo 1:=λi j bT hj=>by
 have e:i=j:=by omega
 subst e;exact O9q.rfl' _
theorem DA.one(O9q:Ord lt):DA lt p lo 1:=λi j bT hj=>by
 have e:i=j:=by omega
 subst e;exact O9q.rfl' _
theorem SA.succ(O9q:Ord lt)(h:SA lt p lo k)(hk:1<=k)(hn:lt (p.getD (lo+k) 0) (p.getD (lo+k-1) 0)=false):SA lt p lo (k+1):=λi j bT hj=>by
 by_cases e:j=k
 .subst e;by_cases e2:i=j
  .subst e2;exact O9q.rfl' _
  .have:=h i (j-1) (by omega) (by omega);rw[show lo+(j-1)=lo+j-1 by omega] at this;exact O9q.tr this hn
 .exact h i j bT (by omega)
theorem DA.succ(O9q:Ord lt)(h:DA lt p lo k)(hk:1<=k)(hn:lt (p.getD (lo+k-1) 0) (p.getD (lo+k) 0)=false):DA lt p lo (k+1):=λi j bT hj=>by
 by_cases e:j=k
 .subst e;by_cases e2:i=j
  .subst e2;exact O9q.rfl' _
  .have:=h i (j-1) (by omega) (by omega);rw[show lo+(j-1)=lo+j-1 by omega] at this;exact O9q.tr hn this
 .exact h i j bT (by omega)
theorem j6{i j:Nat}(hj:lo+j<=p.size)(m:Nat):(mirror p (lo+i) (lo+j) ((lo+j-(lo+i)) / 2)).getD (lo+m) 0=if i<=m/\m<j then p.getD (lo+(i+j-1-m)) 0 else p.getD (lo+m) 0:=by
 have:=iN (p:=p) (i:=lo+i) (j:=lo+j) hj (lo+m);rw[show (mirror p (lo+i) (lo+j) ((lo+j-(lo+i)) / 2))=abc p (lo+i) (lo+j) from Y,this];by_cases c:i<=m/\m<j
 .rw[if_pos c,if_pos (by omega),show lo+i+(lo+j)-1-(lo+m)=lo+(i+j-1-m) by omega]
 .rw[if_neg c,if_neg (by omega)]
theorem Mu{i j m:Nat}(hj:lo+j<=p.size)(hm:m<lo):(mirror p (lo+i) (lo+j) ((lo+j-(lo+i)) / 2)).getD m 0=p.getD m 0:=by have:=iN (p:=p) (i:=lo+i) (j:=lo+j) hj m;rw[show (mirror p (lo+i) (lo+j) ((lo+j-(lo+i)) / 2))=abc p (lo+i) (lo+j) from Y,this,if_neg (by omega)]
theorem DA.rev{i:Nat}(h:DA lt p lo k)(hk:lo+k<=p.size)(hi:i<=k)(he:∀ j,i<=j->j<k->lt (p.getD (lo+k-1) 0) (p.getD (lo+j) 0)=false)(O9q:Ord lt):DA lt (mirror p (lo+i) (lo+k) ((lo+k-(lo+i)) / 2)) lo k:=λa b iJ hb=>by
 rw[j6 hk,j6 hk];have eqv:∀ x y,i<=x->x<k->i<=y->y<k->lt (p.getD (lo+x) 0) (p.getD (lo+y) 0)=false:=λx y x1 x2 y1 y2=>by have:=h x (k-1) (by omega) (by omega);rw[show lo+(k-1)=lo+k-1 by omega] at this;exact O9q.tr (he y y1 y2) this
 split
 .split
  .exact eqv _ _ (by omega) (by omega) (by omega) (by omega)
  .exfalso;omega
 .split
  .exact h _ _ (by omega) (by omega)
  .exact h _ _ iJ hb
theorem DA.whole(h:DA lt p lo k)(hk:lo+k<=p.size):SA lt (mirror p lo (lo+k) ((lo+k-lo) / 2)) lo k:=λa b iJ hb=>by have e:=j6 (p:=p) (lo:=lo) (i:=0) (j:=k) hk;simp only[V7] at e;rw[e,e,if_pos (by omega),if_pos (by omega)];exact h _ _ (by omega) (by omega)
def Kp(G σ':IS)(lo:Nat):Prop:=σ'.p.Perm G.p/\∀ i,i<lo->σ'.p.getD i 0=G.p.getD i 0
theorem Kp.rev{τ:IS}{i j:Nat}(h:Kp G σ' lo)(hj:lo+j<=σ'.p.size):Kp G { σ' with p:=mirror σ'.p (lo+i) (lo+j) ((lo+j-(lo+i)) / 2) } lo :=
 #[(YN _ _ _ _).trans h.1,λm hm=>(Mu hj hm).trans (h.2 m hm)]
theorem Kp.pN{j:Nat}(h:Kp G σ' lo)(hj:lo+j<=σ'.p.size):Kp G { σ' with p:=mirror σ'.p lo (lo+j) ((lo+j-lo) / 2) } lo:=Kp.rev (τ:=G) (i:=0) h hj
theorem Mv{q:Array (Nat × Nat × Nat)}{cu:Nat}(O9q:Ord lt)(h:Wl n N q G)(hl:lo+cu<=N)(h1:1<=cu):Runs lt n (λu=>countRun' lo cu) G (λ(b:Option Nat) _=>b) (λb σ'=>Wl n N q σ'/\Kp G σ' lo/\∃ k,b=O k/\1<=k/\k<=cu/\SA lt σ'.p lo k):=by
 simp only[countRun'_eq];have hW:=h;have hK:Kp G G lo:=#[Array.Perm.refl _,λu u=>rfl]
 refine Runs.bind (Runs.range (b:=((J:Option (Option Nat)),1)) (v:=λb u=>b) (λx b σ'=>b.1=J/\b.2=x/\SA lt G.p lo x/\σ'=G) (λb σ'=>b.1=J/\1<=b.2/\b.2<=cu/\SA lt G.p lo b.2/\(b.2<cu->lt (G.p.getD (lo+b.2) 0) (G.p.getD (lo+b.2-1) 0)=true)/\σ'=G) #[Y,Y,SA.one O9q,Y] ?_ ?_) ?_
 .rintro x ⟨b1,bb⟩ σ' cI eB ⟨e1,e2,hS,rfl⟩;dsimp only at e1 e2;subst e1 e2;dsimp only;refine Runs.ltAt hW.1 (by rw[hW.2.1];omega) (by rw[hW.2.1];omega) ?_;rw[gd (by rw[hW.2.1];omega),gd (by rw[hW.2.1];omega)];dsimp only;refine Runs.ite (λhc=>?_) λhc=>?_
  .exact Runs.cN (v:=λb u=>b) (J,bb) (λu=>rfl) #[Y,cI,UN eB,hS,(λu=>hc),Y]
  .exact Runs.aY (v:=λb u=>b) (J,bb+1) (λu=>rfl) #[Y,Y,hS.succ O9q (by omega) (by simpa using hc),Y]
 .rintro ⟨b1,bb⟩ σ' ⟨e1,e2,hS,rfl⟩;dsimp only at e1 e2;subst e1;have e3:bb=cu:=by omega
  subst e3;exact#[Y,by dsimp only;omega,Th _,by rw[e2];exact hS,(λz=>absurd z (U8 _)),Y]
 rintro ⟨b1,c⟩ σ1 ⟨e1,h3,h4,hS,hC,rfl⟩;dsimp only at e1 h3 h4 hS hC;subst e1;dsimp only;have Ss:=hW.2.1;refine Runs.ite (λu=>?_) λjk=>?_
 .exact Runs.ret (b:=O c) (λu=>rfl) #[hW,hK,c,Y,h3,h4,hS]
 have Su:c≠cu:=by simpa using jk
 replace hC:=hC (by omega);refine Runs.ite (λhc=>?_) λhc=>?_
 .refine Runs.ltAt hW.1 (by rw[hW.2.1];omega) (by rw[hW.2.1];omega) ?_;rw[gd (by rw[hW.2.1];omega),gd (by rw[hW.2.1];omega)];dsimp only;refine Runs.ite (λu=>?_) λhr=>?_
  .exact Runs.ret (b:=O c) (λu=>rfl) #[hW,hK,c,Y,h3,h4,hS]
  have Mw:lt (σ1.p.getD lo 0) (σ1.p.getD (lo+c-1) 0)=false:=by simpa using hr
  have eqv:∀ x y,x<c->y<c->lt (σ1.p.getD (lo+x) 0) (σ1.p.getD (lo+y) 0)=false:=λx y hx hy=>by have z1:=hS y (c-1) (by omega) (by omega);have z2:=hS 0 x (by omega) hx;rw[show lo+(c-1)=lo+c-1 by omega] at z1;rw[V7] at z2;exact O9q.tr z1 (O9q.tr Mw z2)
  have Mx:DA lt (mirror σ1.p lo (lo+c) ((lo+c-lo) / 2)) lo (c+1):=λi j bT hj=>by
   have e:=j6 (p:=σ1.p) (lo:=lo) (i:=0) (j:=c) (by omega);simp only[V7] at e;rw[e,e];by_cases ej:j=c
   .subst ej;rw[if_neg (show ¬ (0<=j/\j<j) by omega)];split
    .have z:=eqv (0+j-1-i) (j-1) (by omega) (by omega);rw[show lo+(j-1)=lo+j-1 by omega] at z;exact O9q.tr (O9q.asym hC) z
    .have:i=j:=by omega
     subst this;exact O9q.rfl' _
   .rw[if_pos (by omega),if_pos (by omega)];exact eqv _ _ (by omega) (by omega)
  refine Runs.rev ?_;replace hK:=hK.pN (j:=c) (by omega);replace hW:=hW.rev (i:=lo) (j:=lo+c);obtain⟨σ5,wU⟩:∃ σ5:IS,σ5 = { σ1 with p:=mirror σ1.p lo (lo+c) ((lo+c-lo) / 2) }:=#[_,Y]
  have wV:DA lt σ5.p lo (c+1):=by rw[wU];exact Mx
  rw[<- wU] at hW hK ⊢;clear wU;refine Runs.rule ?_;refine Runs.bind (Runs.range (b:=((J:Option (Option Nat)),c+1,0)) (v:=λb u=>b) (λx b σ'=>b.1=J/\b.2.1=x/\Wl n N q σ'/\Kp σ1 σ' lo/\b.2.2+1<=x/\DA lt σ'.p lo x/\∀ j,x-(b.2.2+1)<=j->j<x->lt (σ'.p.getD (lo+x-1) 0) (σ'.p.getD (lo+j) 0)=false) (λb σ'=>b.1=J/\c+1<=b.2.1/\b.2.1<=cu/\Wl n N q σ'/\Kp σ1 σ' lo/\b.2.2+1<=b.2.1/\DA lt σ'.p lo b.2.1/\∀ j,b.2.1-(b.2.2+1)<=j->j<b.2.1->lt (σ'.p.getD (lo+b.2.1-1) 0) (σ'.p.getD (lo+j) 0)=false) #[Y,Y,hW,hK,by dsimp only;omega,wV,(λj j1 j2=>by
   have e:j=c:=by dsimp only at j1;omega
   subst e;rw[show lo+(j+1)-1=lo+j by omega];exact O9q.rfl' _)] ?_ ?_) ?_
  .rintro x ⟨b1,b2,b3⟩ σ' cI eB ⟨e1,e2,hW,hK,dI,hD,hE⟩;dsimp only at e1 e2 dI hE;subst e1 e2;dsimp only;have hsz:=hW.2.1;have one:∀ (p':Array Nat),∀ j,(b2+1)-(0+1)<=j->j<b2+1->lt (p'.getD (lo+(b2+1)-1) 0) (p'.getD (lo+j) 0)=false:=λp' j j1 j2=>by
    have e:j=b2:=by omega
    subst e;rw[show lo+(j+1)-1=lo+j by omega];exact O9q.rfl' _
   refine Runs.ltAt hW.1 (by rw[hW.2.1];omega) (by rw[hW.2.1];omega) ?_;rw[gd (by rw[hW.2.1];omega),gd (by rw[hW.2.1];omega)];dsimp only;refine Runs.ite (λhc=>?_) λhc=>?_
   .have dA:=O9q.asym hc;refine Runs.ite (λu=>?_) λu=>?_
    .refine Runs.rev ?_;have es:lo+b2-(b3+1)=lo+(b2-(b3+1)):=by omega
     rw[es];have wW:=hD.rev (i:=b2-(b3+1)) (by omega) (by omega) hE O9q;have wX:=hW.rev (i:=lo+(b2-(b3+1))) (j:=lo+b2);have wY:=hK.rev (τ:=σ1) (i:=b2-(b3+1)) (j:=b2) (by omega);refine Runs.aY (v:=λb u=>b) (J,b2+1,0) (λu=>rfl) #[Y,Y,wX,wY,by dsimp only;omega,wW.succ O9q (by omega) ?_,one _];have r1:=j6 (p:=σ'.p) (lo:=lo) (i:=b2-(b3+1)) (j:=b2) (by omega) (b2-1);have r2:=j6 (p:=σ'.p) (lo:=lo) (i:=b2-(b3+1)) (j:=b2) (by omega) b2;rw[if_pos (by omega),show b2-(b3+1)+b2-1-(b2-1)=b2-(b3+1) by omega,show lo+(b2-1)=lo+b2-1 by omega] at r1;rw[if_neg (by omega)] at r2;dsimp only;rw[r1,r2];have z:=hD (b2-(b3+1)) (b2-1) (by omega) (by omega);rw[show lo+(b2-1)=lo+b2-1 by omega] at z;exact O9q.tr dA z
    .exact Runs.aY (v:=λb u=>b) (J,b2+1,0) (λu=>rfl) #[Y,Y,hW,hK,by dsimp only;omega,hD.succ O9q (by omega) dA,one _]
   .have dA:lt (σ'.p.getD (lo+b2) 0) (σ'.p.getD (lo+b2-1) 0)=false:=by simpa using hc
    refine Runs.ltAt hW.1 (by rw[hW.2.1];omega) (by rw[hW.2.1];omega) ?_;rw[gd (by rw[hW.2.1];omega),gd (by rw[hW.2.1];omega)];dsimp only;refine Runs.ite (λhd=>?_) λhd=>?_
    .exact Runs.cN (v:=λb u=>b) (J,b2,b3) (λu=>rfl) #[Y,cI,UN eB,hW,hK,dI,hD,hE]
    .refine Runs.aY (v:=λb u=>b) (J,b2+1,b3+1) (λu=>rfl) #[Y,Y,hW,hK,by dsimp only;omega,hD.succ O9q (by omega) (by simpa using hd),λj j1 j2=>?_];dsimp only at j1;rw[show lo+(b2+1)-1=lo+b2 by omega];by_cases ej:j=b2
     .subst ej;exact O9q.rfl' _
     .exact O9q.tr (hE j (by omega) (by omega)) dA
  .rintro ⟨b1,b2,b3⟩ σ' ⟨e1,e2,hW,hK,dI,hD,hE⟩;dsimp only at e1 e2 dI hE;subst e1;have e3:b2=cu:=by omega
   rw[<- e2] at hD hE dI;exact#[Y,by dsimp only;omega,by dsimp only;omega,hW,hK,dI,hD,hE]
  rintro ⟨b1,b2,b3⟩ σ2 ⟨e1,h3,h4,hW,hK,dI,hD,hE⟩;dsimp only at e1 h3 h4 dI hD hE;subst e1;dsimp only;have hsz:=hW.2.1;refine Runs.ite (λu=>?_) λu=>?_
  .refine Runs.rev (Runs.rev ?_);have es:lo+b2-(b3+1)=lo+(b2-(b3+1)):=by omega
   rw[es];have lN:=hD.rev (i:=b2-(b3+1)) (by omega) (by omega) hE O9q;have fK:=hW.rev (i:=lo+(b2-(b3+1))) (j:=lo+b2);have pO:=hK.rev (τ:=σ1) (i:=b2-(b3+1)) (j:=b2) (by omega);obtain⟨σ3,lO⟩:∃ σ3:IS,σ3 = { σ2 with p:=mirror σ2.p (lo+(b2-(b3+1))) (lo+b2) ((lo+b2-(lo+(b2-(b3+1)))) / 2) }:=#[_,Y]
   have lN:DA lt σ3.p lo b2:=by rw[lO];exact lN
   rw[<- lO] at fK pO ⊢;clear lO;have eK:SA lt ({ σ3 with p:=mirror σ3.p lo (lo+b2) ((lo+b2-lo) / 2) }:IS).p lo b2:=lN.whole (by have:=fK.2.1;omega);have hW:=fK.rev (i:=lo) (j:=lo+b2);have hK:=pO.pN (j:=b2) (by have:=fK.2.1;omega);generalize ({ σ3 with p:=mirror σ3.p lo (lo+b2) ((lo+b2-lo) / 2) }:IS)=σ4 at eK hW hK ⊢;refine Runs.bind (Runs.range (b:=((J:Option (Option Nat)),b2)) (v:=λb u=>b) (λx b σ'=>b.1=J/\b.2=x/\SA lt σ4.p lo x/\σ'=σ4) (λb σ'=>b.1=J/\b2<=b.2/\b.2<=cu/\SA lt σ4.p lo b.2/\(b.2<cu->lt (σ4.p.getD (lo+b.2) 0) (σ4.p.getD (lo+b.2-1) 0)=true)/\σ'=σ4) #[Y,Y,eK,Y] ?_ ?_) ?_
   .rintro x ⟨b1,bb⟩ σ' cI eB ⟨e1,e2,hS,rfl⟩;dsimp only at e1 e2;subst e1 e2;dsimp only;refine Runs.ltAt hW.1 (by rw[hW.2.1];omega) (by rw[hW.2.1];omega) ?_;rw[gd (by rw[hW.2.1];omega),gd (by rw[hW.2.1];omega)];dsimp only;refine Runs.ite (λhc=>?_) λhc=>?_
    .exact Runs.cN (v:=λb u=>b) (J,bb) (λu=>rfl) #[Y,cI,UN eB,hS,(λu=>hc),Y]
    .exact Runs.aY (v:=λb u=>b) (J,bb+1) (λu=>rfl) #[Y,Y,hS.succ O9q (by omega) (by simpa using hc),Y]
   .rintro ⟨b1,bb⟩ σ' ⟨e1,e2,hS,rfl⟩;dsimp only at e1 e2;subst e1;have e3:bb=cu:=by omega
    subst e3;exact#[Y,by dsimp only;omega,Th _,by rw[e2];exact hS,(λz=>absurd z (U8 _)),Y]
   rintro ⟨b1,b5⟩ σ' ⟨e1,h5,h6,hS,u,rfl⟩;dsimp only at e1 h5 h6 hS;subst e1;dsimp only;exact Runs.ret (b:=O b5) (λu=>rfl) #[hW,hK,b5,Y,by omega,h6,hS]
  .refine Runs.rev ?_;have eK:SA lt ({ σ2 with p:=mirror σ2.p lo (lo+b2) ((lo+b2-lo) / 2) }:IS).p lo b2:=hD.whole (by have:=hW.2.1;omega);have My:=hW.2.1;have hK:=hK.pN (j:=b2) (by omega);have hW:=hW.rev (i:=lo) (j:=lo+b2);generalize ({ σ2 with p:=mirror σ2.p lo (lo+b2) ((lo+b2-lo) / 2) }:IS)=σ4 at eK hW hK ⊢;refine Runs.bind (Runs.range (b:=((J:Option (Option Nat)),b2)) (v:=λb u=>b) (λx b σ'=>b.1=J/\b.2=x/\SA lt σ4.p lo x/\σ'=σ4) (λb σ'=>b.1=J/\b2<=b.2/\b.2<=cu/\SA lt σ4.p lo b.2/\(b.2<cu->lt (σ4.p.getD (lo+b.2) 0) (σ4.p.getD (lo+b.2-1) 0)=true)/\σ'=σ4) #[Y,Y,eK,Y] ?_ ?_) ?_
   .rintro x ⟨b1,bb⟩ σ' cI eB ⟨e1,e2,hS,rfl⟩;dsimp only at e1 e2;subst e1 e2;dsimp only;refine Runs.ltAt hW.1 (by rw[hW.2.1];omega) (by rw[hW.2.1];omega) ?_;rw[gd (by rw[hW.2.1];omega),gd (by rw[hW.2.1];omega)];dsimp only;refine Runs.ite (λhc=>?_) λhc=>?_
    .exact Runs.cN (v:=λb u=>b) (J,bb) (λu=>rfl) #[Y,cI,UN eB,hS,(λu=>hc),Y]
    .exact Runs.aY (v:=λb u=>b) (J,bb+1) (λu=>rfl) #[Y,Y,hS.succ O9q (by omega) (by simpa using hc),Y]
   .rintro ⟨b1,bb⟩ σ' ⟨e1,e2,hS,rfl⟩;dsimp only at e1 e2;subst e1;have e3:bb=cu:=by omega
    subst e3;exact#[Y,by dsimp only;omega,Th _,by rw[e2];exact hS,(λz=>absurd z (U8 _)),Y]
   rintro ⟨b1,b5⟩ σ' ⟨e1,h5,h6,hS,u,rfl⟩;dsimp only at e1 h5 h6 hS;subst e1;dsimp only;exact Runs.ret (b:=O b5) (λu=>rfl) #[hW,hK,b5,Y,by omega,h6,hS]
 .have e1:c=1:=by omega
  have wV:DA lt σ1.p lo (c+1):=(by rw[e1];exact DA.one O9q:DA lt σ1.p lo c).succ O9q (by omega) (O9q.asym hC);refine Runs.rule ?_;refine Runs.bind (Runs.range (b:=((J:Option (Option Nat)),c+1,0)) (v:=λb u=>b) (λx b σ'=>b.1=J/\b.2.1=x/\Wl n N q σ'/\Kp σ1 σ' lo/\b.2.2+1<=x/\DA lt σ'.p lo x/\∀ j,x-(b.2.2+1)<=j->j<x->lt (σ'.p.getD (lo+x-1) 0) (σ'.p.getD (lo+j) 0)=false) (λb σ'=>b.1=J/\c+1<=b.2.1/\b.2.1<=cu/\Wl n N q σ'/\Kp σ1 σ' lo/\b.2.2+1<=b.2.1/\DA lt σ'.p lo b.2.1/\∀ j,b.2.1-(b.2.2+1)<=j->j<b.2.1->lt (σ'.p.getD (lo+b.2.1-1) 0) (σ'.p.getD (lo+j) 0)=false) #[Y,Y,hW,hK,by dsimp only;omega,wV,(λj j1 j2=>by
   have e:j=c:=by dsimp only at j1;omega
   subst e;rw[show lo+(j+1)-1=lo+j by omega];exact O9q.rfl' _)] ?_ ?_) ?_
  .rintro x ⟨b1,b2,b3⟩ σ' cI eB ⟨e1,e2,hW,hK,dI,hD,hE⟩;dsimp only at e1 e2 dI hE;subst e1 e2;dsimp only;have hsz:=hW.2.1;have one:∀ (p':Array Nat),∀ j,(b2+1)-(0+1)<=j->j<b2+1->lt (p'.getD (lo+(b2+1)-1) 0) (p'.getD (lo+j) 0)=false:=λp' j j1 j2=>by
    have e:j=b2:=by omega
    subst e;rw[show lo+(j+1)-1=lo+j by omega];exact O9q.rfl' _
   refine Runs.ltAt hW.1 (by rw[hW.2.1];omega) (by rw[hW.2.1];omega) ?_;rw[gd (by rw[hW.2.1];omega),gd (by rw[hW.2.1];omega)];dsimp only;refine Runs.ite (λhc=>?_) λhc=>?_
   .have dA:=O9q.asym hc;refine Runs.ite (λu=>?_) λu=>?_
    .refine Runs.rev ?_;have es:lo+b2-(b3+1)=lo+(b2-(b3+1)):=by omega
     rw[es];have wW:=hD.rev (i:=b2-(b3+1)) (by omega) (by omega) hE O9q;have wX:=hW.rev (i:=lo+(b2-(b3+1))) (j:=lo+b2);have wY:=hK.rev (τ:=σ1) (i:=b2-(b3+1)) (j:=b2) (by omega);refine Runs.aY (v:=λb u=>b) (J,b2+1,0) (λu=>rfl) #[Y,Y,wX,wY,by dsimp only;omega,wW.succ O9q (by omega) ?_,one _];have r1:=j6 (p:=σ'.p) (lo:=lo) (i:=b2-(b3+1)) (j:=b2) (by omega) (b2-1);have r2:=j6 (p:=σ'.p) (lo:=lo) (i:=b2-(b3+1)) (j:=b2) (by omega) b2;rw[if_pos (by omega),show b2-(b3+1)+b2-1-(b2-1)=b2-(b3+1) by omega,show lo+(b2-1)=lo+b2-1 by omega] at r1;rw[if_neg (by omega)] at r2;dsimp only;rw[r1,r2];have z:=hD (b2-(b3+1)) (b2-1) (by omega) (by omega);rw[show lo+(b2-1)=lo+b2-1 by omega] at z;exact O9q.tr dA z
    .exact Runs.aY (v:=λb u=>b) (J,b2+1,0) (λu=>rfl) #[Y,Y,hW,hK,by dsimp only;omega,hD.succ O9q (by omega) dA,one _]
   .have dA:lt (σ'.p.getD (lo+b2) 0) (σ'.p.getD (lo+b2-1) 0)=false:=by simpa using hc
    refine Runs.ltAt hW.1 (by rw[hW.2.1];omega) (by rw[hW.2.1];omega) ?_;rw[gd (by rw[hW.2.1];omega),gd (by rw[hW.2.1];omega)];dsimp only;refine Runs.ite (λhd=>?_) λhd=>?_
    .exact Runs.cN (v:=λb u=>b) (J,b2,b3) (λu=>rfl) #[Y,cI,UN eB,hW,hK,dI,hD,hE]
    .refine Runs.aY (v:=λb u=>b) (J,b2+1,b3+1) (λu=>rfl) #[Y,Y,hW,hK,by dsimp only;omega,hD.succ O9q (by omega) (by simpa using hd),λj j1 j2=>?_];dsimp only at j1;rw[show lo+(b2+1)-1=lo+b2 by omega];by_cases ej:j=b2
     .subst ej;exact O9q.rfl' _
     .exact O9q.tr (hE j (by omega) (by omega)) dA
  .rintro ⟨b1,b2,b3⟩ σ' ⟨e1,e2,hW,hK,dI,hD,hE⟩;dsimp only at e1 e2 dI hE;subst e1;have e3:b2=cu:=by omega
   rw[<- e2] at hD hE dI;exact#[Y,by dsimp only;omega,by dsimp only;omega,hW,hK,dI,hD,hE]
  rintro ⟨b1,b2,b3⟩ σ2 ⟨e1,h3,h4,hW,hK,dI,hD,hE⟩;dsimp only at e1 h3 h4 dI hD hE;subst e1;dsimp only;have hsz:=hW.2.1;refine Runs.ite (λu=>?_) λu=>?_
  .refine Runs.rev (Runs.rev ?_);have es:lo+b2-(b3+1)=lo+(b2-(b3+1)):=by omega
   rw[es];have lN:=hD.rev (i:=b2-(b3+1)) (by omega) (by omega) hE O9q;have fK:=hW.rev (i:=lo+(b2-(b3+1))) (j:=lo+b2);have pO:=hK.rev (τ:=σ1) (i:=b2-(b3+1)) (j:=b2) (by omega);obtain⟨σ3,lO⟩:∃ σ3:IS,σ3 = { σ2 with p:=mirror σ2.p (lo+(b2-(b3+1))) (lo+b2) ((lo+b2-(lo+(b2-(b3+1)))) / 2) }:=#[_,Y]
   have lN:DA lt σ3.p lo b2:=by rw[lO];exact lN
   rw[<- lO] at fK pO ⊢;clear lO;have eK:SA lt ({ σ3 with p:=mirror σ3.p lo (lo+b2) ((lo+b2-lo) / 2) }:IS).p lo b2:=lN.whole (by have:=fK.2.1;omega);have hW:=fK.rev (i:=lo) (j:=lo+b2);have hK:=pO.pN (j:=b2) (by have:=fK.2.1;omega);generalize ({ σ3 with p:=mirror σ3.p lo (lo+b2) ((lo+b2-lo) / 2) }:IS)=σ4 at eK hW hK ⊢;refine Runs.bind (Runs.range (b:=((J:Option (Option Nat)),b2)) (v:=λb u=>b) (λx b σ'=>b.1=J/\b.2=x/\SA lt σ4.p lo x/\σ'=σ4) (λb σ'=>b.1=J/\b2<=b.2/\b.2<=cu/\SA lt σ4.p lo b.2/\(b.2<cu->lt (σ4.p.getD (lo+b.2) 0) (σ4.p.getD (lo+b.2-1) 0)=true)/\σ'=σ4) #[Y,Y,eK,Y] ?_ ?_) ?_
   .rintro x ⟨b1,bb⟩ σ' cI eB ⟨e1,e2,hS,rfl⟩;dsimp only at e1 e2;subst e1 e2;dsimp only;refine Runs.ltAt hW.1 (by rw[hW.2.1];omega) (by rw[hW.2.1];omega) ?_;rw[gd (by rw[hW.2.1];omega),gd (by rw[hW.2.1];omega)];dsimp only;refine Runs.ite (λhc=>?_) λhc=>?_
    .exact Runs.cN (v:=λb u=>b) (J,bb) (λu=>rfl) #[Y,cI,UN eB,hS,(λu=>hc),Y]
    .exact Runs.aY (v:=λb u=>b) (J,bb+1) (λu=>rfl) #[Y,Y,hS.succ O9q (by omega) (by simpa using hc),Y]
   .rintro ⟨b1,bb⟩ σ' ⟨e1,e2,hS,rfl⟩;dsimp only at e1 e2;subst e1;have e3:bb=cu:=by omega
    subst e3;exact#[Y,by dsimp only;omega,Th _,by rw[e2];exact hS,(λz=>absurd z (U8 _)),Y]
   rintro ⟨b1,b5⟩ σ' ⟨e1,h5,h6,hS,u,rfl⟩;dsimp only at e1 h5 h6 hS;subst e1;dsimp only;exact Runs.ret (b:=O b5) (λu=>rfl) #[hW,hK,b5,Y,by omega,h6,hS]
  .refine Runs.rev ?_;have eK:SA lt ({ σ2 with p:=mirror σ2.p lo (lo+b2) ((lo+b2-lo) / 2) }:IS).p lo b2:=hD.whole (by have:=hW.2.1;omega);have My:=hW.2.1;have hK:=hK.pN (j:=b2) (by omega);have hW:=hW.rev (i:=lo) (j:=lo+b2);generalize ({ σ2 with p:=mirror σ2.p lo (lo+b2) ((lo+b2-lo) / 2) }:IS)=σ4 at eK hW hK ⊢;refine Runs.bind (Runs.range (b:=((J:Option (Option Nat)),b2)) (v:=λb u=>b) (λx b σ'=>b.1=J/\b.2=x/\SA lt σ4.p lo x/\σ'=σ4) (λb σ'=>b.1=J/\b2<=b.2/\b.2<=cu/\SA lt σ4.p lo b.2/\(b.2<cu->lt (σ4.p.getD (lo+b.2) 0) (σ4.p.getD (lo+b.2-1) 0)=true)/\σ'=σ4) #[Y,Y,eK,Y] ?_ ?_) ?_
   .rintro x ⟨b1,bb⟩ σ' cI eB ⟨e1,e2,hS,rfl⟩;dsimp only at e1 e2;subst e1 e2;dsimp only;refine Runs.ltAt hW.1 (by rw[hW.2.1];omega) (by rw[hW.2.1];omega) ?_;rw[gd (by rw[hW.2.1];omega),gd (by rw[hW.2.1];omega)];dsimp only;refine Runs.ite (λhc=>?_) λhc=>?_
    .exact Runs.cN (v:=λb u=>b) (J,bb) (λu=>rfl) #[Y,cI,UN eB,hS,(λu=>hc),Y]
    .exact Runs.aY (v:=λb u=>b) (J,bb+1) (λu=>rfl) #[Y,Y,hS.succ O9q (by omega) (by simpa using hc),Y]
   .rintro ⟨b1,bb⟩ σ' ⟨e1,e2,hS,rfl⟩;dsimp only at e1 e2;subst e1;have e3:bb=cu:=by omega
    subst e3;exact#[Y,by dsimp only;omega,Th _,by rw[e2];exact hS,(λz=>absurd z (U8 _)),Y]
   rintro ⟨b1,b5⟩ σ' ⟨e1,h5,h6,hS,u,rfl⟩;dsimp only at e1 h5 h6 hS;subst e1;dsimp only;exact Runs.ret (b:=O b5) (λu=>rfl) #[hW,hK,b5,Y,by omega,h6,hS]
theorem SA.put(O9q:Ord lt){l:Nat}(hs:SA lt p lo k)(hk:lo+k<p.size)(hl:l<=k)(ma:∀ i,i<l->lt (p.getD (lo+k) 0) (p.getD (lo+i) 0)=false)(mb:∀ i,l<=i->i<k->lt (p.getD (lo+i) 0) (p.getD (lo+k) 0)=false):SA lt (bubble p (lo+k) (lo+k-(lo+l))) lo (k+1):=λi j bT hj=>by
 rw[o8 (by omega) (by omega),o8 (by omega) (by omega)];by_cases ei:i=l
 .rw[if_pos (show lo+i=lo+l by omega)];by_cases ej:j=l
  .rw[if_pos (show lo+j=lo+l by omega)];exact O9q.rfl' _
  .rw[if_neg (show ¬ lo+j=lo+l by omega),if_pos (show lo+l<lo+j/\lo+j<=lo+k by omega),show lo+j-1=lo+(j-1) by omega];exact mb _ (by omega) (by omega)
 .rw[if_neg (show ¬ lo+i=lo+l by omega)];by_cases ej:j=l
  .rw[if_pos (show lo+j=lo+l by omega),if_neg (show ¬ (lo+l<lo+i/\lo+i<=lo+k) by omega)];exact ma _ (by omega)
  .rw[if_neg (show ¬ lo+j=lo+l by omega)];by_cases cj:l<j
   .rw[if_pos (show lo+l<lo+j/\lo+j<=lo+k by omega),show lo+j-1=lo+(j-1) by omega];by_cases ci:l<i
    .rw[if_pos (show lo+l<lo+i/\lo+i<=lo+k by omega),show lo+i-1=lo+(i-1) by omega];exact hs _ _ (by omega) (by omega)
    .rw[if_neg (show ¬ (lo+l<lo+i/\lo+i<=lo+k) by omega)];exact hs _ _ (by omega) (by omega)
   .rw[if_neg (show ¬ (lo+l<lo+j/\lo+j<=lo+k) by omega),if_neg (show ¬ (lo+l<lo+i/\lo+i<=lo+k) by omega)];exact hs _ _ (by omega) (by omega)
theorem Kp.put{l:Nat}(h:Kp G σ' lo)(hk:lo+k<σ'.p.size)(hl:l<=k):Kp G { σ' with p:=bubble σ'.p (lo+k) (lo+k-(lo+l)) } lo :=
 #[(bubble_perm _ _ _).trans h.1,λm hm=>by
  show (bubble σ'.p (lo+k) (lo+k-(lo+l))).getD m 0=_;rw[o8 hk (by omega),if_neg (by omega),if_neg (by omega)];exact h.2 m hm]
theorem Mz{q:Array (Nat × Nat × Nat)}{m ok:Nat}(O9q:Ord lt)(h:Wl n N q G)(hl:lo+m<=N)(h1:1<=ok)(h2:ok<=m)(hs:SA lt G.p lo ok):Runs lt n (λy=>binarySort' lo m ok) G (λ(b:Bool) _=>b) (λb σ'=>Wl n N q σ'/\Kp G σ' lo/\b=true/\SA lt σ'.p lo m):=by
 simp only[binarySort'_eq];rw[Nat.max_eq_left h1];refine Runs.bind (Runs.range (b:=((J:Option Bool),())) (v:=λb y=>b) (λx b σ'=>b.1=J/\Wl n N q σ'/\Kp G σ' lo/\SA lt σ'.p lo x) (λb σ'=>b.1=J/\Wl n N q σ'/\Kp G σ' lo/\SA lt σ'.p lo m) #[Y,h,#[Array.Perm.refl _,λy y=>rfl],hs] ?_ λy y h=>by rwa [YX h2] at h) ?_
 .rintro k ⟨b1,b2⟩ σ1 fI j5 ⟨e1,hW,hK,hS⟩;dsimp only at e1;subst e1;have hz:=hW.2.1;refine Runs.bind (Runs.range (b:=((J:Option Bool),0,k)) (v:=λb y=>b)
   (λx b σ'=>b.1=J/\b.2.1<=b.2.2/\b.2.2<=k/\b.2.2-b.2.1<=k-x/\(∀ i,i<b.2.1->lt (σ1.p.getD (lo+k) 0) (σ1.p.getD (lo+i) 0)=false)/\(∀ i,b.2.2<=i->i<k->lt (σ1.p.getD (lo+i) 0) (σ1.p.getD (lo+k) 0)=false)/\σ'=σ1)
   (λb σ'=>b.1=J/\b.2.1<=k/\(∀ i,i<b.2.1->lt (σ1.p.getD (lo+k) 0) (σ1.p.getD (lo+i) 0)=false)/\(∀ i,b.2.1<=i->i<k->lt (σ1.p.getD (lo+i) 0) (σ1.p.getD (lo+k) 0)=false)/\σ'=σ1)
   #[Y,Uq _,Th _,Th _,(λy z=>absurd z (Nat.not_lt_zero _)),(λy z1 z2=>absurd z2 (Nat.not_lt.mpr z1)),Y] ?_ ?_) ?_
  .rintro x ⟨b1,l,r⟩ σ' y hx ⟨e1,wZ,hr,hf,ma,mb,rfl⟩;dsimp only at e1 wZ hr hf ma mb;subst e1;dsimp only;refine Runs.ite (λMA=>?_) λly=>?_
   .have e:l=r:=by omega
    subst e;exact Runs.cN (v:=λb y=>b) (J,l,l) (λy=>rfl) #[Y,hr,ma,mb,Y]
   refine Runs.ltAt hW.1 (by rw[hW.2.1];omega) (by rw[hW.2.1];omega) ?_;rw[gd (by rw[hW.2.1];omega),gd (by rw[hW.2.1];omega)];dsimp only;refine Runs.ite (λhc=>?_) λhc=>?_
   .refine Runs.aY (v:=λb y=>b) (J,l,(l+r) / 2) (λy=>rfl) #[Y,by dsimp only;omega,by dsimp only;omega,by dsimp only;omega,ma,λi i1 i2=>?_,Y];exact O9q.tr (O9q.asym hc) (hS _ _ i1 i2)
   .refine Runs.aY (v:=λb y=>b) (J,(l+r) / 2+1,r) (λy=>rfl) #[Y,by dsimp only;omega,hr,by dsimp only;omega,λi i1=>?_,mb,Y];dsimp only at i1;exact O9q.tr (hS i ((l+r) / 2) (by omega) (by omega)) (by simpa using hc)
  .rintro ⟨b1,l,r⟩ σ' ⟨e1,wZ,hr,hf,ma,mb,rfl⟩;dsimp only at e1 wZ hr hf ma mb;have e:l=r:=by omega
   subst e;exact#[e1,hr,ma,mb,Y]
  .rintro ⟨b1,l,r⟩ σ' ⟨e1,hr,ma,mb,rfl⟩;dsimp only at e1 hr ma mb;subst e1;dsimp only;refine Runs.down ?_;exact Runs.aY (v:=λb y=>b) (J,()) (λy=>rfl) #[Y,hW.down,hK.put (by omega) hr,hS.put O9q (by omega) hr ma mb]
 .rintro ⟨b1,b2⟩ σ1 ⟨e1,hW,hK,hS⟩;dsimp only at e1;subst e1;dsimp only;exact Runs.ret (b:=true) (λy=>rfl) #[hW,hK,Y,hS]
theorem Kp.trans{σ2:IS}(h:Kp G σ' lo)(h2:Kp σ' σ2 lo):Kp G σ2 lo:=#[h2.1.trans h.1,λi hi=>(h2.2 i hi).trans (h.2 i hi)]
theorem Kp.sa(h:Kp G σ' lo)(hs:SA lt G.p 0 lo):SA lt σ'.p 0 lo:=λi j bT hj=>by rw[h.2 (0+j) (by omega),h.2 (0+i) (by omega)];exact hs i j bT hj
theorem SA.MD(h:SA lt p 0 k)(hk:k<=p.size):Up lt (p.toList.take k):=by rw[Up,UR];intro i j hi hj bT;rw[Uc,TU] at hi hj;have:=h i j (by omega) (by omega);rw[Uv,Uv,<- gd (by omega),<- gd (by omega)] at this;rw[WB,WB,S6,S6];exact this
theorem SA.ME(h:SA lt p lo k)(hk:p.size=lo+k):Up lt (p.toList.drop lo):=by rw[Up,UR];intro i j hi hj bT;rw[UA,TU] at hi hj;have:=h i j (by omega) (by omega);rw[<- gd (by omega),<- gd (by omega)] at this;rw[Vx,Vx,S6,S6];exact this
theorem MF(O9q:Ord lt)(h:Up lt p.toList):SA lt p 0 p.size:=λi j bT hj=>by
 rw[Up,UR] at h;by_cases e:i=j
 .subst e;exact O9q.rfl' _
 .have:=h i j (by rw[TU];omega) (by rw[TU];omega) (by omega);rw[Uv,Uv,<- gd (by omega),<- gd (by omega)];simpa only [S6] using this
theorem MG(O9q:Ord lt)(hN:64<=N)(Sv:N<128)(hp:∀ x∈G.p,x<n)(hs:G.p.size=N)(hq:G.q = (List.toArray [])):Runs lt n (λu=>sortRuns') G (λ(b:Unit) _=>b) (λu σ'=>σ'.p.Perm G.p/\SA lt σ'.p 0 N):=by
 have hm:minRun' N N 0=N / 2+N % 2:=by
  obtain⟨f,rfl⟩:∃ f,N=f+2:=#[N-2,by omega]
  rw[show f+2=(f+1)+1 from Y,minRun'_succ,if_neg (by omega),minRun'_succ,if_pos (by omega)];omega
 simp only[sortRuns'_eq];refine Runs.get ?_;have e2:∀ ι,(Z3 (up ι G)).size=N:=λι=>by show (G.p.map ι).size=N;rw[ZH];exact hs
 simp only[e2,hm];refine Runs.bind (Runs.range (b:=((J:Option Unit),0)) (v:=λb u=>b) (λx b σ'=>b.1=J/\(∀ y∈σ'.p,y<n)/\σ'.p.size=N/\σ'.p.Perm G.p/\((x=0/\b.2=0/\σ'.q = (List.toArray []))∨(x=1/\N / 2+N % 2<=b.2/\b.2<=N/\σ'.q = (List.toArray [(0,b.2,0)])/\SA lt σ'.p 0 b.2)∨(2<=x/\∃ n1 n2 pw,1<=n1/\1<=n2/\b.2=N/\n1+n2=N/\σ'.q = (List.toArray [(0,n1,pw),(n1,n2,0)])/\SA lt σ'.p 0 n1/\SA lt σ'.p n1 n2)))
  (λb σ'=>b.1=J/\(∀ y∈σ'.p,y<n)/\σ'.p.size=N/\σ'.p.Perm G.p/\((∃ n1,σ'.q = (List.toArray [(0,n1,0)])/\SA lt σ'.p 0 N) ∨ ∃ n1 n2 pw,1<=n1/\1<=n2/\n1+n2=N/\σ'.q = (List.toArray [(0,n1,pw),(n1,n2,0)])/\SA lt σ'.p 0 n1/\SA lt σ'.p n1 n2)) #[Y,hp,hs,Array.Perm.refl _,.inl #[Y,Y,hq]] ?_ ?_) ?_
 .rintro x ⟨b1,b2⟩ σ1 u hx ⟨e1,df,nG,hJ,hd⟩;dsimp only at e1 hd;subst e1;dsimp only;refine Runs.ite (λMA=>?_) λaQ=>?_
  .refine Runs.cN (v:=λb u=>b) (J,b2) (λu=>rfl) #[Y,df,nG,hJ,?_];rcases hd with ⟨u,h5,u⟩|⟨u,u,h6,h5,h7⟩|⟨u,n1,n2,pw,a1,a2,u,a3,a4⟩
   .omega
   .have eN:b2=N:=by omega
    exact .inl #[_,h5,by rw[<- eN];exact h7]
   .exact .inr #[n1,n2,pw,a1,a2,a3,a4]
  have Sw:b2=0∨N / 2+N % 2<=b2:=by
   rcases hd with ⟨u,h5,u⟩|⟨u,h5,u,u⟩|⟨u,n1,n2,pw,a1,a2,h5,a3,a4⟩<;>omega
  refine Runs.bind (Mv (q:=σ1.q) O9q #[df,nG,Y] (by omega) (by omega)) λd σ2 hd2=>?_;obtain⟨hW,hK,k,rfl,fI,j5,hS⟩:=hd2;dsimp only;refine Runs.ite (λhk=>?_) λhk=>?_
  .refine Runs.rule ?_;refine Runs.bind (Mz O9q hW (by omega) fI (by omega) hS) λd σ3 w4=>?_;obtain⟨pP,MH,rfl,pQ⟩:=w4;replace hK:=hK.trans MH;clear hW hS;have hW:=pP;have hS:=pQ;clear pP pQ;simp only[abJ,T9,if_false];have DC:min (N-b2) (N / 2+N % 2)=if b2=0 then N / 2+N % 2 else N-b2:=by split<;>omega
   refine Runs.get ?_;simp only[wO];rcases hd with ⟨lP,rfl,fM⟩|⟨lP,h5,h6,fM,eK⟩|⟨lP,u,u,u,u,u,rfl,u⟩
   .rw[hW.2.2,fM];dsimp only [ZS];refine Runs.mod (σ':={ σ3 with q:=σ3.q.push (0,min (N-0) (N / 2+N % 2),0) }) (λι=>rfl) ?_;refine Runs.aY (v:=λb u=>b) (J,0+min (N-0) (N / 2+N % 2)) (λu=>rfl) #[Y,hW.1,hW.2.1,hK.1.trans hJ,.inr (.inl #[by omega,by dsimp only;omega,by dsimp only;omega,?_,by dsimp only;rw[Uv];exact hS])];show σ3.q.push _=_;rw[hW.2.2,fM,Uv];rfl
   .rw[hW.2.2,fM];dsimp only [ZS];refine Runs.bind (Runs.range (b:=((J:Option Unit),())) (v:=λb u=>b) (λu b σ'=>b.1=J/\σ'=σ3) (λb σ'=>b.1=J/\σ'=σ3) #[Y,Y] ?_ λu u h=>h) ?_
    .rintro y ⟨c1,c2⟩ σ' u u ⟨e1,rfl⟩;dsimp only at e1;subst e1;refine Runs.get ?_;have sq:σ'.q = (List.toArray [(0,b2,0)]):=hW.2.2.trans fM;obtain⟨s1,s2,s3⟩:=σ';dsimp only at sq;subst sq;exact Runs.cN (v:=λb u=>b) (J,()) (λu=>rfl) #[Y,Y]
    .rintro ⟨c1,c2⟩ σ' ⟨e1,rfl⟩;dsimp only at e1;subst e1;dsimp only;refine Runs.mod (σ':={ σ' with q:=(List.toArray [(0,b2,power' N (2 * 0+b2) (2 * 0+b2+b2+min (N-b2) (N / 2+N % 2)) N)]) }) (λι=>?_) ?_
     .show UC (VZ true) (σ'.p.map ι) (σ'.q.modify (σ'.q.size-1) _) σ'.g J=UC (VZ true) (σ'.p.map ι) _ σ'.g J;rw[hW.2.2,fM];rfl
     refine Runs.mod (σ':={ σ' with q:=(List.toArray [(0,b2,power' N (2 * 0+b2) (2 * 0+b2+b2+min (N-b2) (N / 2+N % 2)) N),(b2,min (N-b2) (N / 2+N % 2),0)]) }) (λι=>rfl) ?_;exact Runs.aY (v:=λb u=>b) (J,b2+min (N-b2) (N / 2+N % 2)) (λu=>rfl) #[Y,hW.1,hW.2.1,hK.1.trans hJ,.inr (.inr #[by omega,b2,min (N-b2) (N / 2+N % 2),_,by omega,by omega,by dsimp only;omega,by omega,Y,hK.sa eK,hS])]
   .omega
  .
   refine Runs.get ?_;simp only[wO];rcases hd with ⟨lP,rfl,fM⟩|⟨lP,h5,h6,fM,eK⟩|⟨lP,u,u,u,u,u,rfl,u⟩
   .rw[hW.2.2,fM];dsimp only [ZS];refine Runs.mod (σ':={ σ2 with q:=σ2.q.push (0,k,0) }) (λι=>rfl) ?_;refine Runs.aY (v:=λb u=>b) (J,0+k) (λu=>rfl) #[Y,hW.1,hW.2.1,hK.1.trans hJ,.inr (.inl #[by omega,by dsimp only;omega,by dsimp only;omega,?_,by dsimp only;rw[Uv];exact hS])];show σ2.q.push _=_;rw[hW.2.2,fM,Uv];rfl
   .rw[hW.2.2,fM];dsimp only [ZS];refine Runs.bind (Runs.range (b:=((J:Option Unit),())) (v:=λb u=>b) (λu b σ'=>b.1=J/\σ'=σ2) (λb σ'=>b.1=J/\σ'=σ2) #[Y,Y] ?_ λu u h=>h) ?_
    .rintro y ⟨c1,c2⟩ σ' u u ⟨e1,rfl⟩;dsimp only at e1;subst e1;refine Runs.get ?_;have sq:σ'.q = (List.toArray [(0,b2,0)]):=hW.2.2.trans fM;obtain⟨s1,s2,s3⟩:=σ';dsimp only at sq;subst sq;exact Runs.cN (v:=λb u=>b) (J,()) (λu=>rfl) #[Y,Y]
    .rintro ⟨c1,c2⟩ σ' ⟨e1,rfl⟩;dsimp only at e1;subst e1;dsimp only;refine Runs.mod (σ':={ σ' with q:=(List.toArray [(0,b2,power' N (2 * 0+b2) (2 * 0+b2+b2+k) N)]) }) (λι=>?_) ?_
     .show UC (VZ true) (σ'.p.map ι) (σ'.q.modify (σ'.q.size-1) _) σ'.g J=UC (VZ true) (σ'.p.map ι) _ σ'.g J;rw[hW.2.2,fM];rfl
     refine Runs.mod (σ':={ σ' with q:=(List.toArray [(0,b2,power' N (2 * 0+b2) (2 * 0+b2+b2+k) N),(b2,k,0)]) }) (λι=>rfl) ?_;exact Runs.aY (v:=λb u=>b) (J,b2+k) (λu=>rfl) #[Y,hW.1,hW.2.1,hK.1.trans hJ,.inr (.inr #[by omega,b2,k,_,by omega,by omega,by dsimp only;omega,by omega,Y,hK.sa eK,hS])]
   .omega
 .rintro ⟨b1,b2⟩ σ1 ⟨e1,df,nG,hJ,hd⟩;dsimp only at e1 hd;subst e1;refine#[Y,df,nG,hJ,?_];rcases hd with ⟨h5,u,u⟩|⟨h5,u,u,u,u⟩|⟨u,n1,n2,pw,a1,a2,u,a3,a4⟩
  .omega
  .omega
  .exact .inr #[n1,n2,pw,a1,a2,a3,a4]
 .rintro ⟨b1,b2⟩ σ1 ⟨e1,df,nG,hJ,hd⟩;dsimp only at e1;subst e1;dsimp only;refine Runs.bind (Runs.range (b:=((J:Option Unit),())) (v:=λb u=>b) (λx b σ'=>b.1=J/\(∀ y∈σ'.p,y<n)/\σ'.p.size=N/\σ'.p.Perm G.p/\((σ'.q.size<=1/\SA lt σ'.p 0 N)∨x=0/\∃ n1 n2 pw,1<=n1/\1<=n2/\n1+n2=N/\σ'.q = (List.toArray [(0,n1,pw),(n1,n2,0)])/\SA lt σ'.p 0 n1/\SA lt σ'.p n1 n2)) (λb σ'=>b.1=J/\σ'.p.Perm G.p/\SA lt σ'.p 0 N) #[Y,df,nG,hJ,?_] ?_ λb σ' h=>#[h.1,h.2.2.2.1,?_]) ?_
  .rcases hd with ⟨n1,e,hS⟩|h
   .exact .inl #[by rw[e];exact Th 1,hS]
   .exact .inr #[Y,h]
  .rintro x ⟨c1,c2⟩ σ2 u u ⟨e1,c8,gI,DD,hd2⟩;dsimp only at e1;subst e1;refine Runs.get ?_;simp only[wO];rcases hd2 with ⟨h,hS⟩|⟨u,n1,n2,pw,a1,a2,a3,a4,a5,a6⟩
   .refine Runs.ite (λu=>?_) λz=>absurd h z;exact Runs.cN (v:=λb u=>b) (J,()) (λu=>rfl) #[Y,DD,hS]
   .have mr:=Mp (lt:=lt) (n:=n) (G:=σ2) O9q c8 (gI.trans a3.symm) a1 a2 a4 (a5.MD (by omega)) (a6.ME (by omega));obtain⟨s1,s2,s3⟩:=σ2;dsimp only at a4;subst a4;refine Runs.Mm (m':=λu=>mergeAt' 0 >>= λr=>if (!r)=true then pure (ForInStep.done (O (),())) else pure (Vi (J,()))) (λι=>rfl) ?_;refine Runs.bind mr λd σ3 w4=>?_;obtain⟨rfl,g1,g2,g3⟩:=w4;have DE:σ3.p.size=N:=by rw[<- TU,g1.length_eq,TU];exact gI
    have MI:∀ y∈σ3.p,y<n:=λy hy=>c8 y (UD.mp (g1.mem_iff.mp (UD.mpr hy)));simp only[abJ,T9,if_false];exact Runs.aY (v:=λb u=>b) (J,()) (λu=>rfl) #[Y,MI,DE,(WC.mpr g1).trans DD,.inl #[by omega,DE ▸ MF O9q g2]]
  .rcases h.2.2.2.2 with z|z
   .exact z.2
   .exfalso;have:=z.1;omega
  .rintro ⟨c1,c2⟩ σ2 ⟨e1,c8,gI⟩;dsimp only at e1;subst e1;exact Runs.ret (b:=()) (λu=>rfl) #[c8,gI]
end
local macro_rules|`(tactic|walk_at "o")=>`(tactic|((try simp only [PySem.Addr] at *); omega))
theorem tq{lt:Nat->Nat->Bool}(O9q:Ord lt)(n:Nat)(h:64<=n/\n<128):∃ p:Array Nat,(∀ x∈p,x<n)/\p.size=n/\(bC n p/\cJ lt p n)/\∀ (prog:Tv) (w:Ul) (A:Uk) (E:SY->SX->Prop) (s:SX) (ι:Nat->Us),Cm lt n prog w A s ι->∀ Q:Unit->aa9->Prop,(∀ q g,Q () (UC (VZ true) (p.map ι) q g J))->wpS (model prog w) A E s sortRuns' Q (up ι #[(List.range n).toArray,(List.toArray []),7]):=by
 obtain⟨b,G,⟨h1,h2⟩,h3⟩:=MG (lt:=lt) (n:=n) (N:=n) (G:=#[(List.range n).toArray,(List.toArray []),7]) O9q h.1 h.2 (λx hx=>by simpa using hx) (by simp) rfl;have hP:bC n G.p:=(WC.mp h1).trans (by simp);refine#[G.p,λx hx=>by simpa using hP.mem_iff.mp (UD.mpr hx),hP.size,#[hP,λi j bT hj=>?_],λprog w A E s ι c Q q=>h3 prog w A E s ι c Q (q G.q G.g)];have:=h2 i j bT hj
 rwa [Uv,Uv] at this
open Classical in
noncomputable def b6(lt:Nat->Nat->Bool)(n:Nat):Array Nat:=if h:(64<=n/\n<128)/\Ord lt then Xv (tq h.2 n h.1) else eF lt n
theorem MJ{lt:Nat->Nat->Bool}{n:Nat}(h:n<64):b6 lt n=eF lt n:=by unfold b6;rw[dif_neg (by omega)]
theorem w5{lt:Nat->Nat->Bool}{n:Nat}(O9q:Ord lt):bC n (b6 lt n)/\cJ lt (b6 lt n) n:=by
 unfold b6;split
 .rename_i h;exact (VN (tq h.2 n h.1)).2.2.1
 .exact su O9q
theorem w6{kis:List (List Int)}{n:Nat}(h:n<128):(∀ x∈b6 (bD kis) n,x<n)/\(b6 (bD kis) n).size=n:=by have p:=(w5 (n:=n) (iO kis)).1;exact#[λx hx=>by simpa using p.mem_iff.mp (UD.mpr hx),by have:=p.length_eq;simpa using this]
section
variable{prog:Tv}{w:Ul}{A:Uk}{E:SY->SX->Prop}{s:SX}
theorem MK{a:Td}{vs:List SY}{kis:List (List Int)}{n:Nat}{P:ab7->SX->Prop}(ho:s.heap.get? a=O (Vm "list" vs.toArray n))(hl:kis.length=vs.length)(hU:vs.length<128)(hk:∀ i,i<vs.length->jl s.heap vs kis i)
 (fin:∀ h',(∀ b o,b≠a->s.heap.get? b=O o->h'.get? b=O o)->(∃ c,h'.get? a=O (Vm "list" (Vj ((b6 (bD kis) vs.length).toList.map λi=>vs.getD i Value.none)) c))->P (.done (.ret .none)) { s with heap:=h' }) :
 TX (model prog w) A (ZN.«list.sort» #[[.ref a],[]]) P E s:=by
 by_cases gZ:vs.length<64
 .rw[MJ gZ] at fin;exact Lo ho hl gZ (λg z=>Lp hl λi hi=>(hk i hi).keep λb o e n=>z b o n e) fin
 have hb:64<=vs.length/\vs.length<128:=#[by omega,hU]
 have eI:b6 (bD kis) vs.length=Xv (tq (iO kis) vs.length hb):=by unfold b6;rw[dif_pos #[hb,iO kis]]
 have spec:=VN (tq (iO kis) vs.length hb);rw[<- eI] at spec;rw[aa5];have la:a<s.heap.objs.size:=Tg ho;refine SW (listItems_at ho Y (SW (XA ho Y ?_ (by rw[To,V8];walk_at "o") (Uq _))));obtain⟨e1,oa⟩:∃ e1,(s.heap.update a (VG λu=>((List.toArray []):Array SY))).get? a=O (Vm "list" (List.toArray []) e1):=#[_,XY ho λu=>(List.toArray [])]
 have keep:∀ b o,b≠a->s.heap.get? b=O o->(s.heap.update a (VG λu=>((List.toArray []):Array SY))).get? b=O o:=λb o z e=>(Ud _ _ (UZ z)).trans e;refine SW (YS oa Y ?_);generalize s.heap.update a (VG λu=>((List.toArray []):Array SY))=g at oa keep ⊢;refine SW (wpAny_newTuple ?_ (by show vs.length<=_;rw[V8];walk_at "o"));refine SW (Z2 ?_ (Uq _));refine V9 ?_;show TX (model prog w) A _ P E { s with heap:=(g.push (Vm "tuple" vs.toArray 0)).push (Vm "list" (List.toArray []) 0) };have g8:((g.push (Vm "tuple" vs.toArray 0)).push (Vm "list" (List.toArray []) 0)).get? a=O (Vm "list" (List.toArray []) e1):=Ta _ (Ta _ oa);have lB:∀ b o,b≠a->s.heap.get? b=O o->((g.push (Vm "tuple" vs.toArray 0)).push (Vm "list" (List.toArray []) 0)).get? b=O o:=λb o z e=>Ta _ (Ta _ (keep b o z e));generalize (g.push (Vm "tuple" vs.toArray 0)).push (Vm "list" (List.toArray []) 0)=g2 at g8 lB ⊢;dsimp only;have neT:∀ b o,s.heap.get? b=O o->(∀ n xs,o≠Vm "list" xs n)->b≠a:=λb o e z y=>by rw[y,ho] at e;cases e;exact z _ _ rfl
 have lC:((b6 (bD kis) vs.length).toList.map λi=>vs.getD i Value.none).length=vs.length:=by rw[Tn,TU];exact spec.2.1
 have sz:(Vj ((b6 (bD kis) vs.length).toList.map λi=>vs.getD i Value.none)).size<=TB+1:=by rw[To,lC,V8];walk_at "o"
 have done:P (.done (.ret .none)) { s with heap:=g2.update a (VG λu=>Vj ((b6 (bD kis) vs.length).toList.map λi=>vs.getD i Value.none)) } :=
  fin _ (λb o z e=>(Ud _ _ (UZ z)).trans (lB b o z e)) #[_,XY g8 λu=>_]
 have h2:¬ vs.toArray.size<2:=by rw[To];omega
 rw[if_neg h2,if_neg h2];have gU:2<=vs.length:=by rw[To] at h2;walk_at "o"
 have j5:∀ i,i<vs.length->jl g2 vs kis i:=λi hi=>(hk i hi).keep λb o e z=>lB b o (neT b o e z) e;obtain⟨fs,ht,lf,hi⟩:=wg vs kis hl j5;have eT:(Z7 "int" != Z7 "tuple")=true:=by decide
 refine SW (aaJ (s:={ s with heap:=g2 }) (T:=.type "int") ht (by walk_at "o") (λv hv=>?_) (by decide) ?_)
 .obtain⟨i,t,rfl⟩:=hi v hv;exact PySem.W.Looks.now
 rw[eT];have cm:Cm (bD kis) vs.length prog w A { s with heap:=g2 } (WL (vs.toArray.zip vs.toArray)):=λi j hi hj E Q q=>by obtain⟨p1,o1,i1,m1,a1,b1,u,c1,d1,u⟩:=j5 i hi;obtain⟨p2,o2,i2,m2,a2,b2,u,c2,d2,u⟩:=j5 j hj;rw[aaP Y,aaP Y];show TX _ _ (keyLt' (VZ true) (vs.getD i Value.none) (vs.getD j Value.none)) Q _ _;rw[S8,S8,a1,a2];have z1:=d1.length;have z2:=d2.length;exact abl b1 c1 b2 c2 (by simpa using CG (b:=true) (i:=0) d1 d2 (by simp[z1,z2]) q)
 have gn:UC (VZ true) (vs.toArray.zip vs.toArray) (List.toArray []) 7 J=up (WL (vs.toArray.zip vs.toArray)) #[(List.range vs.length).toArray,(List.toArray []),7]:=by have e:=PySem.W.kas_range (vs.toArray.zip vs.toArray);rw[show (vs.toArray.zip vs.toArray).size=vs.length by simp] at e;show _=UC (VZ true) ((Vj (List.range vs.length)).map (WL (vs.toArray.zip vs.toArray))) (List.toArray []) 7 J;rw[e]
 have run:=spec.2.2.2 prog w A E { s with heap:=g2 } _ cm (λu st=>Z3 st=(b6 (bD kis) vs.length).map (WL (vs.toArray.zip vs.toArray))/\Zw st=J) λq g=>#[Y,Y]
 rw[<- gn] at run;refine SW (Ue run ?_ λu u z=>z);rintro ⟨⟨⟩,st⟩ s' ⟨rfl,har,hf⟩;dsimp only;rw[aaI Y har];refine SW (YS g8 Y (SW (XA g8 Y ?_ (Uq _) sz)));rw[show Zw st=J from hf];simp only[bne_self_eq_false,T9,if_false];exact Tc done
theorem DF{r:Td}{vs:List SY}{kis:List (List Int)}{Q:SY->SX->Prop}(hl:kis.length=vs.length)(hU:vs.length<128)(hk:∀ i,i<vs.length->jl s.heap vs kis i)
 (ML:∀ (A':Uk) (Q':List SY->SX->Prop) (E':SY->SX->Prop),A'.handled=A.handled->(∀ h' tk,(∀ b o,s.heap.get? b=O o->h'.get? b=O o)->s.heap.objs.size<=h'.objs.size->Q' vs { s with heap:=h',toks:=tk })->TX (model prog w) A' (collect (.ref r)) Q' E' s)
 (q:∀ l h' tk,s.heap.objs.size<=l->(∀ b o,s.heap.get? b=O o->h'.get? b=O o)->(∃ c,h'.get? l=O (Vm "list" (Vj ((b6 (bD kis) vs.length).toList.map λi=>vs.getD i Value.none)) c))->Q (.ref l) { s with heap:=h',toks:=tk }) :
 TX (model prog w) A (call (.builtin "sorted") [.ref r]) Q E s:=by
 refine Calls.call_function_entry kind_sorted plain_sorted entry_sorted (args_sorted1 _) ?_;unfold ZN.«sorted»;refine SW (m:=checkCount "sorted" 1 1 _) (Tc (SW (ML _ _ _ Y λh1 tk keep hsz=>?_)));refine SW (Z2 ?_ (by rw[V8];walk_at "o"));have oL:(h1.push (Vm "list" vs.toArray 0)).get? h1.objs.size=O (Vm "list" vs.toArray 0):=TV _ rfl;have pR:∀ b o,s.heap.get? b=O o->b≠h1.objs.size/\(h1.push (Vm "list" vs.toArray 0)).get? b=O o:=λb o e=>by have:=Tg e;exact#[by walk_at "o",Ta _ (keep b o e)]
 show TX _ A.in1 (holding [.ref h1.objs.size] (call (.builtin "list.sort") [.ref h1.objs.size]) >>= _) _ _ { s with heap:=h1.push (Vm "list" vs.toArray 0),toks:=tk };generalize h1.push (Vm "list" vs.toArray 0)=h2 at oL pR ⊢;generalize h1.objs.size=l at oL pR hsz ⊢;refine SW (V9 (Wh slot_list_sort #[_,oL,Y] entry_list_sort ?body (args_list_sort _)))
 case body =>
  refine MK (s:={ s with heap:=h2,toks:=tk }) oL hl hU (λi hi=>(hk i hi).keep λb o e y=>(pR b o e).2) λh' k c=>#[_,Y,Tc #[_,Y,q l h' tk hsz (λb o e=>k b o (pR b o e).1 (pR b o e).2) c]]
end
noncomputable def cD{α:Type}(kis:List (List Int))(d:α)(as:List α):List α:=(b6 (bD kis) as.length).toList.map λi=>as.getD i d
theorem MM{α:Type}{kis:List (List Int)}{d:α}{as:List α}(h:as.length<128):(cD kis d as).length=as.length:=by unfold cD;rw[Tn,TU];exact (w6 h).2
theorem tu{α:Type}{kis:List (List Int)}{d:α}{as:List α}:(cD kis d as).Perm as:=by
 have h:=(w5 (n:=as.length) (iO kis)).1;have q:=h.map (λi=>as.getD i d);have self:(List.range as.length).map (λi=>as.getD i d)=as:=by
  apply aaH
  .simp
  .intro i h1 h2;simp[S8,h2]
 rw[self] at q;exact q
theorem MN{α:Type}{kis:List (List Int)}{d:α}{as:List α}{f:α->List Int}(hk:kis=as.map f):(cD kis d as).Pairwise (λa b=>HT.lexLt (f b) (f a)=false):=by
 obtain⟨hp,hs⟩:=w5 (n:=as.length) (iO kis);have sz:=hp.size;unfold cD;rw[aal];refine UR.mpr λi j hi hj bT=>?_;have ji:i<(b6 (bD kis) as.length).size:=by simpa using hi
 have MO:j<(b6 (bD kis) as.length).size:=by simpa using hj
 have q:=hs i j (by omega) (by omega);have e1:(b6 (bD kis) as.length).getD i 0=(b6 (bD kis) as.length)[i]:=by simp[Array.getD,ji]
 have e2:(b6 (bD kis) as.length).getD j 0=(b6 (bD kis) as.length)[j]:=by simp[Array.getD,MO]
 have l1:=bC.below hp (i:=i) (by omega);have l2:=bC.below hp (i:=j) (by omega);rw[e1,e2] at q;rw[e1] at l1;rw[e2] at l2;have q2:HT.lexLt (kis.getD (b6 (bD kis) as.length)[j] []) (kis.getD (b6 (bD kis) as.length)[i] [])=false:=q;have g:∀ k,k<as.length->kis.getD k []=f (as.getD k d):=λk MP=>by subst hk;simp[S8,MP]
 simp only[S6];rw[g _ l1,g _ l2] at q2;exact q2
theorem aq.cD{α:Type}{R:V->α->Prop}{xs:List V}{as:List α}{d:α}{kis:List (List Int)}(h:aq R xs as)(hU:as.length<128):aq R (Gz.cD kis .non xs) (Gz.cD kis d as):=by
 have hl:=h.len;have hp:=(w6 (kis:=kis) (n:=xs.length) (by omega)).1;unfold Gz.cD;rw[<- hl];have gen:∀ l:List Nat,(∀ i∈l,i<xs.length)->aq R (l.map λi=>xs.getD i .non) (l.map λi=>as.getD i d):=by
  intro l
  induction l with
  | nil=>intro y;exact trivial
  | cons i l ih =>
   intro q;have hi:=q i (.head _);obtain⟨s,es,hs⟩:=h.get (Tj hi);refine#[?_,ih λj hj=>q j (.tail _ hj)];show R (xs.getD i .non) (as.getD i d);rw[S8,S8,es,Tj hi];exact hs
 exact gen _ λi hi=>hp i (UD.mp hi)
theorem DG{xs:List V}{vs:List SY}(r:Vals xs vs):∀ (l:List Nat),(∀ i∈l,i<xs.length)->Vals (l.map λi=>xs.getD i .non) (l.map λi=>vs.getD i Value.none)
 | [],_=>.nil
 | i::l,h=>by have hi:=h i (.head _);obtain⟨u,eu,ru⟩:=r.get (Tj hi);refine .cons ?_ (DG r l λj hj=>h j (.tail _ hj));show L2.RelV (xs.getD i .non) (vs.getD i Value.none);rw[S8,S8,eu,Tj hi];exact ru
section
variable{X:Cx}{pins:List (Td × Obj)}{G:L2.St}{H:Hp}{s:SX}{p:Td}{kvs:List (List Key × V)}
theorem DH(I:Inv X pins G H s){ks:List V}{kis:List (List Int)}{us:List SY}{Q:VK}{l:Td}{h':UU}{tk:Nat}(r:Vals ks us)(hU:ks.length<128)(hl:s.heap.objs.size<=l)(keep:∀ b o,s.heap.get? b=O o->h'.get? b=O o)
 (hD:∃ c,h'.get? l=O (Vm "list" (Vj ((b6 (bD kis) us.length).toList.map λi=>us.getD i Value.none)) c)) (q:∀ l,H l=J->Q (.ref l) (upd H l (.lst (cD kis .non ks)))):EP X pins G Q (.ref l) { s with heap:=h',toks:=tk }:=by
 obtain⟨c,hD⟩:=hD;have sv:Vals (cD kis .non ks) ((b6 (bD kis) us.length).toList.map λi=>us.getD i Value.none):=by unfold cD;rw[<- r.length];exact DG r _ λi hi=>(w6 hU).1 i (UD.mp hi)
 exact#[.ref l,_,I.laid (t':=tk) keep hl (show bH X.prog X.w _ h' _ (.lst (cD kis .non ks)) from #[by rw[MM hU];exact TL (UN hU) (by decide),_,c,sv,hD]),Y,q l (I.ah.fresh hl)]
theorem MQ:gF X (.builtin "sorted") (λxs H Q=>∃ (a:Td) (ks:List V) (kis:List (List Int)),xs=[.ref a]/\ak X.K H a ks/\dG X.K H ks kis/\ks.length<128/\∀ l,H l=J->Q (.ref l) (upd H l (.lst (cD kis .non ks)))):=by
 intro pins s G H xs us Q I r h;obtain⟨a,ks,kis,rfl,hS,hK,hU,q⟩:=h;obtain⟨u,rfl,ru⟩:=vals1 r;cases ru;obtain⟨af,rv,hp,hz⟩:=I.list hS;have hl:af.length=ks.length:=rv.length.symm;refine DF (kis:=kis) (by rw[<- hK.len,hl]) (by omega) (C0 I hK rv) (λA' Q' E' y hq=>collect_list hp.isList (hq _ s.toks (λb o e=>?_) ?_) (by rw[hl];exact hz)) λl h' tk h1 h2 h3=>DH I rv hU h1 h2 h3 q
 .have:=Tg e;exact (Ud _ _ (by walk_at "o")).trans (Ta _ e)
 .rw[Heap.size_update,size_push'];exact ZK _
theorem MR(hc:X.calm=true):gF X (.builtin "sorted") (λxs H Q=>∃ (p:Td) (kvs:List (List Key × V)) (kis:List (List Int)),xs=[.ref p]/\H p=O (.dT kvs)/\kvs.map (·.1)=kis.map (λk=>k.map YC)/\(∀ k∈kis,k≠[])/\kvs.length<128 /\
 ∀ l ys,H l=J->jm H ys kvs->Q (.ref l) (upd H l (.lst (cD kis .non ys)))):=by
 intro pins s G H xs us Q I r h;obtain⟨p,kvs,kis,rfl,e,ek,jk,hU,q⟩:=h;obtain⟨u,rfl,rx⟩:=vals1 r;cases rx;obtain⟨as,es,ep,hk,lo,ra,hs,ph,hz⟩:=CZ I e;have la:as.length=kvs.length:=by have:=hk.len;rwa [Tn] at this
 have lk:kis.length=kvs.length:=by have:=congrArg List.length ek;simpa using this.symm
 have hK:dG X.K H (as.map V.ref) kis:=hk.CY ek jk;have rv:=wj as;refine DF (kis:=kis) (vs:=as.map Uo) (by rw[Tn];omega) (by rw[Tn];omega) (C0 I hK rv) (λA' Q' E' hA hq=>Lq (CV lo) (hA.trans (I.ok.hd hc)) ra (by rw[hs];exact hz) λh' tk acc k1 k2 ha=>?_) λl h' tk h1 h2 h3=>DH I rv (by rw[Tn];omega) h1 h2 h3 λl hl=>q l _ hl hk;rw[ph acc ha];exact hq h' tk k1 k2
end
theorem DI:∀ {a b:List Int},HT.lexLt a b=false->HT.lexLt b a=false->a=b
 | [],[],_,_=>rfl
 | [],_::_,h,_=>by cases h
 | _::_,[],_,h=>by cases h
 | x::a,y::b,h1,h2=>by
  rw[HT.oH] at h1 h2;by_cases e:x=y
  .subst e;rw[if_pos Y] at h1 h2;rw[DI h1 h2]
  .rw[if_neg e] at h1;rw[if_neg (UZ e)] at h2;have a1:¬ x<y:=by simpa using h1
   have a2:¬ y<x:=by simpa using h2
   exact absurd (Int.le_antisymm (Int.not_lt.mp a2) (Int.not_lt.mp a1)) e
theorem DJ{α:Type}{R:α->α->Prop}:∀ {as bs:List α},(∀ x∈as,∀ y∈as,R x y->R y x->x=y)->as.Pairwise R->bs.Pairwise R->as.Perm bs->as=bs
 | [],bs,_,_,_,h=>h.nil_eq
 | a::as,[],_,_,_,h=>by cases h.length_eq
 | a::as,b::bs,ha,s1,s2,h=>by
  have e:a=b:=by
   have m1:a∈b::bs:=h.mem_iff.mp (.head _);have m2:b∈a::as:=h.mem_iff.mpr (.head _);rcases Tz.mp m1 with z|z
   .exact z
   .rcases Tz.mp m2 with y|y
    .exact y.symm
    .exact ha a (.head _) b (.tail _ y) ((UG.mp s1).1 b y) ((UG.mp s2).1 a z)
  subst e;rw[DJ (λx hx y hy=>ha x (.tail _ hx) y (.tail _ hy)) (UG.mp s1).2 (UG.mp s2).2 (List.Perm.cons_inv h)]
noncomputable def j7(tb:Tb):Tb:=cD (fH tb) ((0,0),(J,J)) tb
theorem tD{tb:Tb}{r:P2 × S2}(h:r∈j7 tb):r∈tb:=tu.mem_iff.mp h
theorem DK{tb:Tb}:(j7 tb).length=tb.length:=tu.length_eq
theorem DL{tb:Tb}:(j7 tb).Pairwise λa b=>HT.lexLt [b.1.1,b.1.2] [a.1.1,a.1.2]=false:=MN (f:=λr:P2 × S2=>[r.1.1,r.1.2]) rfl
theorem MS{tb:Tb}(hn:(tb.map (·.1)).Nodup){x y:P2 × S2}(hx:x∈tb)(hy:y∈tb)(e:x.1=y.1):x=y:=by
 induction tb with
 | nil=>cases hx
 | cons r tb ih =>
  rw[TJ,UH] at hn;rcases Tz.mp hx with a|a<;>rcases Tz.mp hy with b|b
  .rw[a,b]
  .exact absurd (Ua.mpr #[y,b,by rw[<- e,a]]) hn.1
  .exact absurd (Ua.mpr #[x,a,by rw[e,b]]) hn.1
  .exact ih hn.2 a b
theorem DM{tb bB:Tb}(hn:(tb.map (·.1)).Nodup)(h:tb.Perm bB):j7 tb=j7 bB:=by refine DJ (λx hx y hy r1 r2=>MS hn (tD hx) (tD hy) ?_) DL DL (tu.trans (h.trans tu.symm));have:=DI r1 r2;injection this with e1 e2;injection e2 with e2 _;exact Prod.ext e1.symm e2.symm
theorem DN{H:Hp}{kvs:List (List Key × V)}{ys:List V}{tb:Tb}(h:aK H kvs tb)(hk:jm H ys kvs)(hl:tb.length<128):aq (λx (r:P2 × S2)=>bQ H x r.1) (cD (fH tb) .non ys) (j7 tb):=aq.cD (aq.bind (h.wB hk)) hl
def DO(t1 t2:TE):TE:=λG H Q=>t1 G H Q∨t2 G H Q
theorem DP{X:Cx}{e:Vh}{t1 t2:TE}(h1:PE X e t1)(h2:PE X e t2):PE X e (DO t1 t2):=λpins s G H Q I h=>h.elim (h1 pins s G H Q I) (h2 pins s G H Q I)
theorem DQ{tb bB:Tb}{s:P2}(h:tb.Perm bB):(cM tb s).Perm (cM bB s):=h.filter _
theorem DR{tb:Tb}{s:P2}(h:s∉tb.map (·.1)):cM tb s=tb:=WN.mpr λr hr=>by have:r.1≠s:=λe=>h (Ua.mpr #[r,hr,e]);simpa using this
theorem MT{tb:Tb}{s:P2}{w:S2}(h:s∉tb.map (·.1)):tb.map (λr=>if r.1=s then (r.1,w) else r)=tb:=by
 conv=>rhs;rw[<- List.map_id tb]
 refine XW λr hr=>?_;rw[if_neg λe=>h (Ua.mpr #[r,hr,e])];rfl
theorem DS{s:P2}{w:S2}:∀ {tb:Tb},(tb.map (·.1)).Nodup->s∈tb.map (·.1)->(tb.map (λr=>if r.1=s then (r.1,w) else r)).Perm (cM tb s++[(s,w)])
 | [],_,h=>by cases h
 | r::tb,hn,h=>by
  rw[TJ,UH] at hn;by_cases e:r.1=s
  .have hs:s∉tb.map (·.1):=e ▸ hn.1;have d:cM (r::tb) s=tb:=by show List.filter _ (r::tb)=tb;rw[List.filter_cons_of_neg (by simpa using e)];exact DR hs
   rw[d,TJ,MT hs,if_pos e,e];exact (List.perm_append_singleton _ _).symm
  .have d:cM (r::tb) s=r::cM tb s:=List.filter_cons_of_pos (by simpa using e);rw[d,TJ,if_neg e,TC];refine (DS hn.2 ?_).cons r;rw[TJ] at h;rcases Tz.mp h with z|z
   .exact absurd z.symm e
   .exact z
theorem MU{tb:Tb}{s:P2}{w:S2}(hn:(tb.map (·.1)).Nodup):(fh tb s w).Perm (cM tb s++[(s,w)]):=by
 unfold fh;split
 .rename_i h;obtain⟨x,hx,e⟩:=Xu.mp h;exact DS hn (Ua.mpr #[x,hx,by simpa using e])
 .rename_i h;rw[DR λz=>h ?_];obtain⟨x,hx,e⟩:=Ua.mp z;exact Xu.mpr #[x,hx,by simpa using e]
end Gz
namespace Gz
open PySem L2 PySem.W PySem.Spec PyProof.Rows
def Bt(n:Nat)(x:Int):Prop:=Wb x<=n
theorem Bt.up{n m:Nat}{x:Int}(h:Bt n x)(hm:n<=m):Bt m x:=TL h hm
def DT(i j:Int):Prop:=Bt 40000000 i/\Bt 40000000 j
theorem DT.ok{i j:Int}(h:DT i j):IntMulOk i j:=abg h.1 h.2 (by decide)
def DU(ns:List Int):Prop:=ns.length<=63/\∀ x∈ns,Bt 1048576 x
theorem weigh:∀ (ns:List Int) (x:Int),x∈ns->Wb x<=Wf (ns.map PySem.W.WData.int)
 | [],x,h=>by simp at h
 | y::ns,x,h=>by
  have e:Wf ((y::ns).map PySem.W.WData.int)=(if y == 0 then 0 else y.natAbs.log2+1)+1+Wf (ns.map PySem.W.WData.int):=by rw[TJ];simp only[Wf,ZE]
  rw[e];rcases Tz.mp h with rfl|h
  .unfold Wb;lia
  .have:=weigh ns x h;lia
theorem MV{ns:List Int}(h:abB [PySem.W.WData.list (ns.map PySem.W.WData.int)]=true):∀ x∈ns,Bt 1048576 x:=by
 intro x hx;have h1:Xr (PySem.W.WData.list (ns.map PySem.W.WData.int))=true:=by
  have:(Xr (PySem.W.WData.list (ns.map PySem.W.WData.int)) && true)=true:=h
  rwa [abK] at this
 unfold Xr at h1;rw[Vq] at h1;have h2:=of_decide_eq_true h1.2;have h3:=weigh ns x hx;simp only[ZE] at h2;unfold Bt;lia
theorem MW{l:Zq}{k:Nat}{q:Tv}{loose:List Str}{XP:(Str->Option SY)->UU->Prop}{YP:Ul->UU->Prop}{d:DefRec}{K:Params->SV}{CX:Ul->cU}{sp:Ul->Sp}{x:Str}
 (most:l.most=O 63) (plain:d.params.defaults=[]) (room:aZ k aaW)
 (MX:∀ (w:Ul) (h:UU),YP w h->(K w.params).In h)
 (F:∀ (w:Ul) (mg:Str->Option SY) (fa:Td) (h:UU),(K w.params).In h->h.Ns TN mg->mg d.name=O (.ref fa) ->
   ∃ fd:Vg,(∀ (s:SX) (u:SY),aaa s fd #[[u],[]] [(x,u)]) /\
    ∀ base:UU,(K w.params).In base->base.Ns TN mg->cn l.prog w (K w.params) mg base (CX w) k fa fd [x] (sp w))
 (law:∀ (w:Ul) (H:Hp) (a:Td) (ns:List Int),DU ns->ak (K w.params) H a (ns.map V.int)->sp w [.ref a] H (λv y=>v = .bl true) λy y y=>False)
 (calm:∀ (w:Ul) (H:Hp) (s:SX) (e:SY) (s':SX),CX w [] H s (λy y y=>False) e s'->False) :
 abL q loose XP YP l.row.toRowW d [] (λf vs=>PySem.call f vs):=by
 intro w t₀ t mg mb G9q Y9q f ob pm cd doc dV kV look data code defs at_ gens args vals as pre lay y well y;have e1:dV = .none:=Dflts.none defs plain;have e2:kV = .none:=Dflts.noKw defs;cases e1;cases e2;obtain⟨a,vs,ns,e3,e4,obj,are,len⟩:=vf.IV most pre well;cases e3;cases e4;have KX:=MX w _ Y9q;obtain⟨fd,bind,ok⟩:=F w mg f _ KX G9q.T.g at_;have run:=IZ KX G9q.T.g G9q.T.b G9q.T.builtins G9q.T.nolimit gens obj are (TL len (by decide)) room ok bind
  (λH y S=>law w H a ns #[len,MV lay] S) λH e s'=>calm w H t e s'
 refine enter_call (Yc run ?_);rintro r s' ⟨rfl,old,os,bare⟩;exact#[.inl #[.bool true,.bool true,[],Y,λy=>rfl,.bool true,vf.IY l _,λy=>#[List.Pairwise.nil,λy z=>(nomatch z)]],old,os,bare]
end Gz
namespace Gz
open PySem PySem.Spec PyProof.Rows L2
end Gz
namespace Gz
end Gz
namespace Gz
open PySem L2
theorem bf{a b:TS}{D:Ends}{G:L2.St}{H:Hp}(I:L2.St->Hp->Prop)(h1:∀ N:L2.St->Hp->Prop,(∀ G H,I G H->N G H)->a { D with nx:=N } G H)(h2:∀ R:TS,R=b->∀ G H,I G H->R D G H):uC a b D G H:=h1 _ (h2 _ Y)
end Gz
namespace Gz
open PySem PySem.Spec PyProof.Rows L2
local macro_rules|`(tactic|walk_at "o")=>`(tactic|((try simp only [PySem.Addr] at *); lia))
structure DV(X:Cx)(x:Str)(scope:Xj)(cl:List (Str × Td))(fr:List Nat)(ys:List Str):Prop where
 clos:aag scope X.env=pure cl
 one:∀ n acc,PySem.cellsFrom n scope.names acc=(x,n)::acc
 push:∀ h,pushCells h scope.names=h.push { cls:=.type "cell",data:=.cell J }
 kind:scope.kind = .function
 names:(scope.names.all λp=>p.2 != .local || scope.names.lookup p.1 == O .local)=true
 own:scope.names.lookup x=O .cell
 kinds:((relabel scope X.env).names.all λp=>(p.2 != .cell && p.2 != .free) || p.1 == x || (cl.lookup p.1).isSome)=true
 cls:gN X cl
 ay:fA X scope cl fr ys
 nd:(x::ys).Nodup
 kfr:(ys.all λy=>(relabel scope X.env).names.lookup y == O .cell)=true
section
variable{X:Cx}{pins:List (Td × Obj)}{G:L2.St}{H2:Hp}{s2:SX}{x:Str}{px pos:Pos}{elt iter:Vh}{ifs:List Vh}{scope:Xj}{cl:List (Str × Td)}{fr:List Nat}{ys:List Str}{tt:TT}{te:TE}
theorem DV.low(S:DV X x scope cl fr ys)(I2:Inv X pins G H2 s2){y:Str}{c:Td}(e:cl.lookup y=O c):c<s2.heap.objs.size:=by obtain⟨v,o,ho,z⟩:=I2.cell y c (S.cls.get y c e);exact Tg ho
end
def iR:L2.St->Nat->(V->Prop)->Prop
 | [],_,_=>False
 | x::_,0,Q=>match x with|some v=>Q v|none=>False
 | _::G,n+1,Q=>iR G n Q
def bR(x:V)(Q:Int->Prop):Prop:=match x with|.int i=>Q i|_=>False
def lQ(x:V)(Q:Bool->Prop):Prop:=match x with|.bl i=>Q i|_=>False
def pS(x:V)(Q:Td->Prop):Prop:=match x with|.ref i=>Q i|_=>False
def w9(xs:List V)(Q:V->Prop):Prop:=match xs with|[x]=>Q x|_=>False
def xa(xs:List V)(Q:V->V->Prop):Prop:=match xs with|[x,y]=>Q x y|_=>False
def j8(x:V)(Q:Bool->Prop):Prop:=match x with|.non=>Q true|_=>Q false
def jq(x:V)(Q:Bool->Prop):Prop:=match x with|.non=>Q false|_=>Q true
section
variable{v:V}{o:Option V}{G:L2.St}{n:Nat}{Q:V->Prop}{i:Int}{b:Bool}{a:Td}{QI:Int->Prop}{QB:Bool->Prop}{QR:Td->Prop}{x y:V}{Q2:V->V->Prop}
theorem MY:iR (O v::G) 0 Q=Q v:=rfl
theorem MZ:iR (o::G) (n+1) Q=iR G n Q:=rfl
theorem M0:bR (.int i) QI=QI i:=rfl
theorem M3:lQ (.bl b) QB=QB b:=rfl
theorem M4:pS (.ref a) QR=QR a:=rfl
theorem M5:w9 [x] Q=Q x:=rfl
theorem M6:xa [x,y] Q2=Q2 x y:=rfl
theorem M7:j8 .non QB=QB true:=rfl
theorem M8:j8 (.int i) QB=QB false:=rfl
theorem M9:j8 (.bl b) QB=QB false:=rfl
theorem Na:j8 (.ref a) QB=QB false:=rfl
theorem Nb:jq .non QB=QB false:=rfl
theorem Nc:jq (.int i) QB=QB true:=rfl
theorem Nd:jq (.bl b) QB=QB true:=rfl
theorem Nf:jq (.ref a) QB=QB true:=rfl
theorem Ng{s:Str}:jq (.str s) QB=QB true:=rfl
theorem Nh{s:Str}:j8 (.str s) QB=QB false:=rfl
theorem iR.ex:∀ {G:L2.St} {n:Nat},iR G n Q->∃ v,G[n]?=O (O v)/\Q v
 | [],_,h=>h.elim
 | some v::_,0,h=>#[v,Y,h]
 | none::_,0,h=>h.elim
 | _::G,n+1,h=>iR.ex (G:=G) (n:=n) h
theorem bR.ex(h:bR x QI):∃ i,x = .int i/\QI i:=by cases x<;>first|exact#[_,Y,h]|exact h.elim
theorem lQ.ex(h:lQ x QB):∃ i,x = .bl i/\QB i:=by cases x<;>first|exact#[_,Y,h]|exact h.elim
theorem pS.ex(h:pS x QR):∃ i,x = .ref i/\QR i:=by cases x<;>first|exact#[_,Y,h]|exact h.elim
theorem w9.ex{xs:List V}(h:w9 xs Q):∃ x,xs=[x]/\Q x:=by
 match xs,h with
 | [x],h=>exact#[x,Y,h]
theorem xa.ex{xs:List V}(h:xa xs Q2):∃ x y,xs=[x,y]/\Q2 x y:=by
 match xs,h with
 | [x,y],h=>exact#[x,y,Y,h]
theorem jq.ex(h:jq x QB):QB (!decide (x = .non)):=by cases x<;>exact h
theorem j8.ex(h:j8 x QB):QB (decide (x = .non)):=by cases x<;>exact h
end
section
variable{X:Cx}{e a b c:Vh}{pos:Pos}{ta tb tc:TE}{op gH:abE}
def Ni(t:TE):TE:=λG H Q=>∃ Q':VK,(∀ v H1,Q' v H1->Q v H1)/\t G H Q'
theorem dJ(h:PE X e ta):PE X e (Ni ta):=λpins s G H Q I ⟨Q',k,q⟩=>ax (h pins s G H Q' I q) λ_ _ ⟨x,H1,I1,r1,q1⟩=>#[x,H1,I1,r1,k _ _ q1]
theorem tE{t':TE}(h:PE X e ta)(k:∀ G H Q,t' G H Q->ta G H Q):PE X e t':=λpins s G H Q I q=>h pins s G H Q I (k G H Q q)
theorem lR{t t':TT}(h:PT X e t)(k:∀ G H Q,t' G H Q->t G H Q):PT X e t':=λpins s G H Q I q=>h pins s G H Q I (k G H Q q)
theorem xb{f:SY->SY->Sem SY}{r r':R2}(h:aT X f r)(k:∀ x y H Q,r' x y H Q->r x y H Q):aT X f r':=λpins s G H x y v u Q I rx ry q=>h pins s G H x y v u Q I rx ry (k _ _ _ _ q)
def DW(i:Nat):TE:=λG H Q=>iR G i λv=>Q v H
theorem aa(i:Nat){x:Str}{pos:Pos}(hN:X.N[i]?=O x:=by rfl)(hv:qW X.env.scope x:=by first|exact Or.inl rfl|exact Or.inr (Or.inl Y)|exact Or.inr (Or.inr Y))(hd:(x == ("__debug__" : Str))=false:=by decide)
 (dB:(x == ("__classdict__" : Str))=false:=by decide):PE X (.Name x pos) (DW i):=tE (pv i hN hv hd dB) λy y y h=>h.ex
def tF(C:Int->Int->Prop)(g:Int->Int->V):R2:=λx y H Q=>bR x λi=>bR y λj=>C i j/\Q (g i j) H
def tG(g:Int->Int->V):R2:=λx y H Q=>bR x λi=>bR y λj=>Q (g i j) H
def xf(g:Int->V):V->Hp->VK->Prop:=λx H Q=>bR x λi=>Q (g i) H
def xg(p:Int->Int->Prop)[∀ i j,Decidable (p i j)]:R2:=λx y H Q=>bR x λi=>bR y λj=>if p i j then Q (.bl true) H else Q (.bl false) H
theorem DX{f:SY->SY->Sem SY}{C:Int->Int->Prop}{g:Int->Int->V}(h:aT X f (rI C g)):aT X f (tF C g):=xb h λx y H Q q=>by obtain⟨i,rfl,q1⟩:=bR.ex q;obtain⟨j,rfl,q5⟩:=bR.ex q1;exact#[i,j,Y,Y,q5]
theorem pU{f:SY->SY->Sem SY}{g:Int->Int->V}(h:aT X f (eU g)):aT X f (tG g):=xb h λx y H Q q=>by obtain⟨i,rfl,q1⟩:=bR.ex q;obtain⟨j,rfl,q5⟩:=bR.ex q1;exact#[i,j,Y,Y,q5]
theorem xh{f:SY->SY->Sem SY}{p:Int->Int->Prop}[∀ i j,Decidable (p i j)](h:aT X f (eU λi j=>.bl (decide (p i j)))):aT X f (xg p):=xb h λx y H Q q=>by
 obtain⟨i,rfl,q1⟩:=bR.ex q;obtain⟨j,rfl,q5⟩:=bR.ex q1;clear q q1;refine#[i,j,Y,Y,?_];by_cases z:p i j
 .rw[if_pos z] at q5;show Q (.bl (decide (p i j))) H;rw[decide_eq_true z];exact q5
 .rw[if_neg z] at q5;show Q (.bl (decide (p i j))) H;rw[decide_eq_false z];exact q5
theorem Nj{f:SY->Sem SY}{g:Int->V}(h:mF X f (rU g)):mF X f (xf g):=λpins s G H x v Q I rx q=>h pins s G H x v Q I rx q.ex
theorem cR:aT X (Ww .Add) (tG λi j=>.int (i+j)):=pU HA
theorem dn:aT X (Ww .Sub) (tG λi j=>.int (i-j)):=pU HB
theorem dq:aT X (Ww .Mod) (tF (λy j=>0<j) λi j=>.int (i % j)):=DX HC
theorem eM:aT X (Ww .Mult) (tF mP λi j=>.int (i * j)):=DX Js
theorem jr:mF X (unaryOp .USub) (xf λi=>.int (-i)):=Nj HE
def DY(t:TE):TT:=λG H Q=>t G H λx H'=>lQ x λk=>Q k H'
theorem eO(h:PE X e ta)(he:∀ whole,abu e X.env whole=(do let v <- whole;aaS e.pos;holding [v] (truthy v)):=by intro y;rfl):PT X e (DY ta):=lR (Ha (dJ h) he) λG H Q q=>#[_,λy y h=>h.ex,q]
def pV(p:Int->Int->Prop)[∀ i j,Decidable (p i j)](ta tb:TE):TT:=λG H Q=>ta G H λx H1=>tb G H1 λy H2=>bR x λi=>bR y λj=>if p i j then Q true H2 else Q false H2
theorem DZ{p:Int->Int->Prop}[∀ i j,Decidable (p i j)]{x y:V}{H:Hp}{Q:Bool->Hp->Prop}(q:bR x λi=>bR y λj=>if p i j then Q true H else Q false H):xg p x y H (λz H'=>∃ k,z = .bl k/\Q k H'):=by
 obtain⟨i,rfl,q1⟩:=bR.ex q;obtain⟨j,rfl,q5⟩:=bR.ex q1;clear q q1;by_cases z:p i j
 .rw[if_pos z] at q5;exact (show _=_ from if_pos z).mpr #[_,Y,q5]
 .rw[if_neg z] at q5;exact (show _=_ from if_neg z).mpr #[_,Y,q5]
theorem xi{p:Int->Int->Prop}[∀ i j,Decidable (p i j)](ho:aT X (Vd op) (eU λi j=>.bl (decide (p i j))))(ha:PE X a ta)(hb:PE X b tb)(hm:VH op b=false):PT X (.Compare a [op] [b] pos) (pV p ta tb) :=
 lR (rk (xh ho) (dJ ha) (dJ hb) hm) λG H Q q=>#[_,λx H1 q1=>#[_,λy H2 q2=>DZ q2,q1],q]
theorem nH(ha:PE X a ta)(hb:PE X b tb):PT X (.Compare a [.Lt] [b] pos) (pV (λi j=>i<j) ta tb):=xi oy ha hb (gG _)
theorem D0(ha:PE X a ta)(hb:PE X b tb):PT X (.Compare a [.Gt] [b] pos) (pV (λi j=>j<i) ta tb):=xi Aw ha hb (gG _)
theorem D1(ha:PE X a ta)(hb:PE X b tb):PT X (.Compare a [.GtE] [b] pos) (pV (λi j=>j<=i) ta tb):=xi HH ha hb (gG _)
def eqT(x y:V)(Q:Bool->Prop):Prop:=match x with
 | .int i=>(match y with|.int j=>if i=j then Q true else Q false|.non=>Q false|.str _=>Q false|_=>False)
 | .str i=>(match y with|.str j=>if i=j then Q true else Q false|.non=>Q false|.int _=>Q false|_=>False)
 | .bl i=>(match y with|.bl j=>if i=j then Q true else Q false|.non=>Q false|_=>False)
 | .non=>(match y with|.non=>Q true|.int _=>Q false|.bl _=>Q false|.str _=>Q false|_=>False)
 | _=>False
def neT(x y:V)(Q:Bool->Prop):Prop:=match x with
 | .int i=>(match y with|.int j=>if ¬ i=j then Q true else Q false|.non=>Q true|.str _=>Q true|_=>False)
 | .str i=>(match y with|.str j=>if ¬ i=j then Q true else Q false|.non=>Q true|.int _=>Q true|_=>False)
 | .bl i=>(match y with|.bl j=>if ¬ i=j then Q true else Q false|.non=>Q true|_=>False)
 | .non=>(match y with|.non=>Q false|.int _=>Q true|.bl _=>Q true|.str _=>Q true|_=>False)
 | _=>False
section
variable{i j:Int}{x y:V}{s t:Str}{b' b1:Bool}{Q:Bool->Prop}
theorem Nk:eqT (.int i) (.int j) Q=if i=j then Q true else Q false:=rfl
theorem Nl:eqT (.str s) (.str t) Q=if s=t then Q true else Q false:=rfl
theorem Nm:eqT (.bl b') (.bl b1) Q=if b'=b1 then Q true else Q false:=rfl
theorem Nn:eqT .non .non Q=Q true:=rfl
theorem Np:eqT .non (.int j) Q=Q false:=rfl
theorem Nq:eqT (.int i) .non Q=Q false:=rfl
theorem Nr:eqT (.int i) (.str s) Q=Q false:=rfl
theorem Nt:eqT .non (.str s) Q=Q false:=rfl
theorem Nu:neT (.int i) (.int j) Q=if ¬ i=j then Q true else Q false:=rfl
theorem Nv:neT (.str s) (.str t) Q=if ¬ s=t then Q true else Q false:=rfl
theorem Nw:neT .non .non Q=Q false:=rfl
theorem Nx:neT .non (.int j) Q=Q true:=rfl
theorem Ny:neT (.int i) .non Q=Q true:=rfl
theorem D2{c:Prop}[Decidable c]{Q:Bool->Prop}(q:if c then Q true else Q false):Q (decide c):=by
 by_cases z:c
 .rw[if_pos z] at q;rw[decide_eq_true z];exact q
 .rw[if_neg z] at q;rw[decide_eq_false z];exact q
theorem eqT.ex(h:eqT x y Q):i7 x y=true/\Q (decide (x=y)):=by
 cases x<;>cases y<;>first
  | exact h.elim
  | exact#[Y,h]
  | (refine#[Y,?_];have:=D2 h;simpa using this)
theorem neT.ex(h:neT x y Q):i7 x y=true/\Q (!decide (x=y)):=by
 cases x<;>cases y<;>first
  | exact h.elim
  | exact#[Y,h]
  | (refine#[Y,?_];have:=D2 h;simpa using this)
end
def D3(ta tb:TE):TT:=λG H Q=>ta G H λx H1=>tb G H1 λy H2=>eqT x y λk=>Q k H2
def D4(ta tb:TE):TT:=λG H Q=>ta G H λx H1=>tb G H1 λy H2=>neT x y λk=>Q k H2
theorem dW(ha:PE X a ta)(hb:PE X b tb):PT X (.Compare a [.Eq] [b] pos) (D3 ta tb) :=
 lR (rk HF (dJ ha) (dJ hb) (gG _)) λG H Q q=>#[_,λx H1 q1=>#[_,λy H2 q2=>#[(eqT.ex q2).1,_,Y,(eqT.ex q2).2],q1],q]
theorem D5(ha:PE X a ta)(hb:PE X b tb):PT X (.Compare a [.NotEq] [b] pos) (D4 ta tb) :=
 lR (rk HG (dJ ha) (dJ hb) (gG _)) λG H Q q=>#[_,λx H1 q1=>#[_,λy H2 q2=>#[(neT.ex q2).1,_,Y,(neT.ex q2).2],q1],q]
def D6(ta:TE):TT:=λG H Q=>ta G H λx H1=>j8 x λk=>Q k H1
def D7(ta:TE):TT:=λG H Q=>ta G H λx H1=>jq x λk=>Q k H1
theorem j9{j pos'}(ha:PE X a ta):PT X (.Compare a [.Is] [.Constant .none j pos'] pos) (D6 ta):=lR (uB (G9 (dJ ha))) λG H Q q=>#[_,λx H1 q1=>#[_,Y,q1.ex],q]
theorem tH{j pos'}(ha:PE X a ta):PT X (.Compare a [.IsNot] [.Constant .none j pos'] pos) (D7 ta):=lR (uB (uA (dJ ha))) λG H Q q=>#[_,λx H1 q1=>#[_,Y,jq.ex q1],q]
def D8(p q:Int->Int->Prop)[∀ i j,Decidable (p i j)][∀ i j,Decidable (q i j)](ta tb tc:TE):TT:=λG H Q=>ta G H λx H1=>tb G H1 λy H2=>bR x λi=>bR y λj=>if p i j then (tc G H2 λz H3=>bR z λk=>if q j k then Q true H3 else Q false H3) else Q false H2
theorem xj{p q:Int->Int->Prop}[∀ i j,Decidable (p i j)][∀ i j,Decidable (q i j)](ho:aT X (Vd op) (eU λi j=>.bl (decide (p i j))))(bI:aT X (Vd gH) (eU λi j=>.bl (decide (q i j))))(ha:PE X a ta)(hb:PE X b tb)(hc:PE X c tc)
 (hm:abQ [op,gH] [b,c]=false:=by with_unfolding_all rfl):PT X (.Compare a [op,gH] [b,c] pos) (D8 p q ta tb tc) :=
 lR (HI (xh ho) (xh bI) (dJ ha) (dJ hb) (dJ hc) hm) λG H Q q=>#[_,λx H1 q1=>#[_,λy H2 q2=>by
  obtain⟨i,rfl,q3⟩:=bR.ex q2;obtain⟨j,rfl,q5⟩:=bR.ex q3;clear q2 q3;by_cases z:p i j
  .rw[if_pos z] at q5;exact (show _=_ from if_pos z).mpr #[_,Y,_,λw' H4 q4=>by
    obtain⟨k,rfl,y⟩:=bR.ex q4;exact DZ (x:=.int j) q4,q5]
  .rw[if_neg z] at q5;exact (show _=_ from if_neg z).mpr #[_,Y,#[_,Y,q5]],q1],q]
variable{rest:List Vh}
def D9(ta tb:TE):TE:=λG H Q=>ta G H λx H1=>lQ x λc=>if c=true then tb G H1 Q else Q (.bl false) H1
def Nz(ta tb:TE):TE:=λG H Q=>ta G H λx H1=>lQ x λc=>if c=true then Q (.bl true) H1 else tb G H1 Q
def Ea(ta:TE):TE:=λG H Q=>ta G H λx H1=>lQ x λc=>Q (.bl (!c)) H1
theorem nI(ha:PE X a ta)(hb:PE X (.BoolOp .And (b::rest) pos) tb):PE X (.BoolOp .And (a::b::rest) pos) (D9 ta tb):=tE (Hd (dJ ha) hb) λG H Q q=>#[_,λx H1 q1=>q1.ex,q]
theorem tI(ha:PE X a ta):PE X (.UnaryOp .Not a pos) (Ea ta):=tE (He (dJ ha)) λG H Q q=>#[_,λx H1 q1=>q1.ex,q]
def Eb(K:SV)(ta:TE)(f:Str):TE:=λG H Q=>ta G H λx H1=>pS x λa=>∃ C dx fs,H1 a=O (.ins C dx fs)/\bP K C/\bA K C f/\∃ v,fs.lookup f=O v/\Q v H1
theorem bL{f:Str}{K:SV}(hK:X.K=K)(he:PE X e ta)(hb:WX e f X.env (eval e X.env)=eval e X.env):PE X (.Attribute e f pos) (Eb K ta f):=by
 subst hK;exact tE (Ia (dJ he) hb) λG H Q q=>#[_,λx H1 q1=>by
  obtain⟨a,rfl,C,dx,fs,h1,h2,h3,v,h4,q2⟩:=q1.ex;exact#[a,C,dx,fs,v,Y,h1,h2,h3,h4,q2],q]
def Ec(K:SV)(ta tv:TE)(f:Str):TS:=λD G H=>tv G H λy H1=>ta G H1 λx H2=>pS x λa=>∃ C dx fs,H2 a=O (.ins C dx fs)/\bP K C/\bA K C f/\fs.length<1000 /\
 D.nx G (upd H2 a (.ins C dx (c6 f y fs)))
theorem fk{o value:Vh}{f:Str}{pos':Pos}{tv:TE}(ha:PE X o ta)(hv:PE X value tv)(hs:Xk value (O (.Attribute o f pos')) pos.line X.env=pure false):PS X (.Assign [.Attribute o f pos'] value pos) (Ec X.K ta tv f):=λpins s G H D I h =>
 Ib (dJ ha) (dJ hv) hs pins s G H D I #[_,λy H1 q1=>#[_,λx H2 q2=>by
  obtain⟨a,rfl,C,dx,fs,h⟩:=q2.ex;exact#[a,C,dx,fs,Y,h],q1],h]
end
section
variable{X:Cx}{K:SV}{a b e:Vh}{es:List Vh}{ta tb:TE}{t:TA}{pos p:Pos}
theorem aF(ha:PE X a ta)(hb:PE X b tb)(hs:vb b:=by exact λy y=>rfl):PE X (.Subscript a b pos) (kN (kT X.K) ta tb):=A0 A9 ha hb hs
theorem nJ(ha:PE X a ta)(hb:PE X b tb)(h:X.K=K:=by rfl)(hs:vb b:=by exact λy y=>rfl):PE X (.Subscript a b pos) (kN (kT K) ta tb):=A0 (Kg h) ha hb hs
end
structure Fn(K:SV)(mg:Str->Option SY)(x:Str)(st:Vt)(ps:List Str) where
 a:Td
 fd:Vg
 F:iF K x x st a fd
 m:mg x=O (.ref a)
 b:Binds K fd ps []
structure Fm(K:SV)(x q:Str)(st:Vt)(ps:List Str) where
 a:Td
 fd:Vg
 F:iF K x q st a fd
 b:Binds K fd ps []
inductive FA(K:SV)(x q:Str)(st:Vt)(f:Td):Prop
 | mk {od an:Option Td} {sl:Array (Option SY)} {oc kV dc pm cd ct:SY} (_:K.lookup f=O #[oc,od,.func (V6 x q (kU st) (eW st) (cc st) .none kV dc pm an cd ct),sl]) (_:Xf K cd q=true) (_:Ux K (.ref f)=true)
theorem FA.fn{K:SV}{x q:Str}{st:Vt}{f:Td}(h:FA K x q st f):∃ fd,iF K x q st f fd:=let ⟨l,c,k⟩:=h;#[_,jc l c k]
section
variable{X:Cx}{e:Vh}{es:List Vh}{t:TA}{pos p:Pos}
theorem NA{CX:cU}{k n:Nat}{ps:List Str}{sp:Sp}{x:Str}{st:Vt}(N:Fn X.K X.mg x st ps)(F:cn X.prog X.w X.K X.mg X.base CX k N.a N.fd ps sp)(hr:aZ n X.A)(hx:Passes CX X E0)(ha:PA X (e::es) t)
 (hk:k<=n:=by decide) (hg:Gl X x:=by rfl) (d6:(x == ("__debug__" : Str))=false:=by decide) (he:TZ (e::es) X.env=(false,eval e X.env)::TZ es X.env:=by rfl) (cG:(Wm pos (TZ es X.env)).any (·.1)=false:=by rfl) :
 PE X (.Call (.Name x p) (e::es) [] pos) (mI sp [] E0 t):=rq F (hr.mono hk) hg N.m N.F.kp N.b .nil hx ha d6 he cG
end
theorem NB{α:Type}{n:Nat}{p:List α->Prop}(h:∀ u vs,vs.length=n->p (u::vs)):∀ us:List α,us.length=n+1->p us
 | u::vs,e=>h u vs (Nat.succ.inj e)
theorem NC{α:Type}{p:List α->Prop}(h:p []):∀ us:List α,us.length=0->p us
 | [],_=>h
structure Sc(N ps:List Str)(st:Vt):Prop extends mJ N ps (cc st) where
 b:∀ (x q:Str) (kV doc pm:SY) (an:Option Td) (aJ ct:SY) (us:List SY),us.length=ps.length->bindArgs (V6 x q (kU st) (eW st) (cc st) .none kV doc pm an aJ ct) #[us,[]]=pure (ps.zip us)
section
variable{P:Tv}{w:Ul}{K:SV}{mg:Str->Option SY}{base h:UU}{x q:Str}{st:Vt}{N ps:List Str}{k:Nat}{sp:Sp}{C:Td}
inductive Fb(K:SV)(x q:Str)(st:Vt)(p:Td->Prop):Prop
 | mk {f:Td} {od an:Option Td} {sl:Array (Option SY)} {oc kV dc pm cd ct:SY} (_:p f) (_:K.lookup f=O #[oc,od,.func (V6 x q (kU st) (eW st) (cc st) .none kV dc pm an cd ct),sl]) (_:Xf K cd q=true) (_:Ux K (.ref f)=true)
def bF(K:SV)(x:Str)(f:Td):Prop:=Um K TN x=O (O (.ref f))
def bz(K:SV)(C:Td)(x:Str)(f:Td):Prop:=TK K (.ref C) x=O (O (.ref f))/\Y7 K (.ref f)=true
theorem Fb.fn(b:Fb K x x st (bF K x))(X:K.In h)(G9q:h.Ns TN mg)(S:Sc N ps st):Nonempty (Fn K mg x st ps) :=
 let ⟨a,l,c,k⟩:=b;#[#[_,_,jc l c k,Uy X G9q a,(jc l c k).binds (S.b x x)]]
theorem Fb.fm(b:Fb K x q st (bz K C x))(S:Sc N ps st):∃ F:Fm K x q st ps,bz K C x F.a :=
 let ⟨a,l,c,k⟩:=b;#[#[_,_,jc l c k,(jc l c k).binds (S.b x q)],a]
theorem Fn.bt{y:Str}(F:Fn K mg x st [y])(S:Sc N [y] st)(s:SX)(v:SY):aaa s F.fd #[[v],[]] [(y,v)]:=by obtain⟨oc,od,kV,doc,pm,an,aJ,ct,gJ,e,lk,dB⟩:=F.F.ex;rw[e];exact .of_eq (S.b _ _ _ _ _ _ _ _ [v] Y)
abbrev Ok(P:Tv)(w:Ul){K:SV}{mg:Str->Option SY}(base:UU)(k:Nat){x:Str}{st:Vt}{ps:List Str}(F:Fn K mg x st ps)(sp:Sp):Prop:=cn P w K mg base (bW P w) k F.a F.fd ps sp
abbrev Om(P:Tv)(w:Ul){K:SV}(mg:Str->Option SY)(base:UU)(k:Nat){x q:Str}{st:Vt}{ps:List Str}(F:Fm K x q st ps)(sp:Sp):Prop:=cn P w K mg base (bW P w) k F.a F.fd ps sp
theorem b7{F:Fn K mg x st ps}(S:Sc N ps st)
 (d9:∀ (aJ:SY) (A:Uk) (outer:List Env) (s:SX) (H:Hp) (vs:List V) (Q:VK) (E:XK),aZ k (A.deeper (UP x (cc st) s.heap.objs.size F.a aJ))->sp vs H Q E ->
   ∃ t,aR (cV (bW P w) P w K mg base N x (cc st) F.a aJ A outer s H E).fX (eW st) t/\t { nx:=λy H'=>Q .non H',rt:=Q } (start N vs) H)
 (len:∀ vs H Q E,sp vs H Q E->vs.length=ps.length:=by intro y y y y h;cases h;subst_vars;rfl):Ok P w base (k+1) F sp:=okN F.F S.1 len d9
theorem tJ{F:Fn K mg x st ps}(S:Sc N ps st)
 (d9:∀ (aJ:SY) (A:Uk) (outer:List Env) (s:SX) (H:Hp) (vs:List V) (Q:VK) (E:XK),aZ k (A.deeper (UP x (cc st) s.heap.objs.size F.a aJ))->sp vs H Q E ->
   ∃ t,aR (cV (bW P w) P w K mg base N x (cc st) F.a aJ A outer s H E) (eW st) t/\t { nx:=λy H'=>Q .non H',rt:=Q } (start N vs) H)
 (len:∀ vs H Q E,sp vs H Q E->vs.length=ps.length:=by intro y y y y h;cases h;subst_vars;rfl):Ok P w base (k+1) F sp:=dF F.F S.1 len d9
theorem jt{F:Fm K x q st ps}(S:Sc N ps st)
 (d9:∀ (aJ:SY) (A:Uk) (outer:List Env) (s:SX) (H:Hp) (vs:List V) (Q:VK) (E:XK),aZ k (A.deeper (UP q (cc st) s.heap.objs.size F.a aJ))->sp vs H Q E ->
   ∃ t,aR (cV (bW P w) P w K mg base N q (cc st) F.a aJ A outer s H E).fX (eW st) t/\t { nx:=λy H'=>Q .non H',rt:=Q } (start N vs) H)
 (len:∀ vs H Q E,sp vs H Q E->vs.length=ps.length:=by intro y y y y h;cases h;subst_vars;rfl):Om P w mg base (k+1) F sp:=okN F.F S.1 len d9
theorem hV{F:Fm K x q st ps}(S:Sc N ps st)
 (d9:∀ (aJ:SY) (A:Uk) (outer:List Env) (s:SX) (H:Hp) (vs:List V) (Q:VK) (E:XK),aZ k (A.deeper (UP q (cc st) s.heap.objs.size F.a aJ))->sp vs H Q E ->
   ∃ t,aR (cV (bW P w) P w K mg base N q (cc st) F.a aJ A outer s H E) (eW st) t/\t { nx:=λy H'=>Q .non H',rt:=Q } (start N vs) H)
 (len:∀ vs H Q E,sp vs H Q E->vs.length=ps.length:=by intro y y y y h;cases h;subst_vars;rfl):Om P w mg base (k+1) F sp:=dF F.F S.1 len d9
end
section
variable{X:Cx}{x:Str}{e:Vh}{es:List Vh}{te:TE}{t:TA}{p pos pos':Pos}
theorem aG(i:Nat)(hN:X.N.Nodup)(he:PE X e te)(hi:X.N[i]?=O x:=by rfl)(hx:Loc X.env.scope x:=by first|exact Or.inl rfl|exact Or.inr Y)(hs:Xk e (O (.Name x pos')) pos.line X.env=pure false:=by rfl)(hf:X.fn x=true∨X.env.scope.names.lookup x=O .local:=by first|exact .inl rfl|exact .inr rfl) :
 PS X (.Assign [.Name x pos'] e pos) (uE te (fu i)):=Hl hN hi hx he hs hf
theorem gp(i:Nat)(hN:X.N.Nodup)(hi:X.N[i]?=O x:=by rfl)(hx:Loc X.env.scope x:=by first|exact Or.inl rfl|exact Or.inr Y)(hf:X.fn x=true∨X.env.scope.names.lookup x=O .local:=by first|exact .inl rfl|exact .inr rfl):PG X (.Name x pos) (fu i):=mC hN hi hx hf
theorem aP{k n:Nat}{ps:List Str}{sp:Sp}{st:Vt}{CX:cU}{N:Fn X.K X.mg x st ps}(F:cn X.prog X.w X.K X.mg X.base CX k N.a N.fd ps sp)(hr:aZ n X.A)(ha:PA X (e::es) t)(hx:Passes CX X E0:=by exact cW)
 (hk:k<=n:=by decide) (hg:Gl X x:=by rfl) (d6:(x == ("__debug__" : Str))=false:=by decide) (he:TZ (e::es) X.env=(false,eval e X.env)::TZ es X.env:=by rfl) (cG:(Wm pos (TZ es X.env)).any (·.1)=false:=by rfl) :
 PE X (.Call (.Name x p) (e::es) [] pos) (mI sp [] E0 t):=NA N F hr hx ha hk hg d6 he cG
end
theorem _root_.L2.aZ.m{j k:Nat}{A:Uk}(r:aZ k A)(h:j<=k:=by decide):aZ j A:=r.mono h
theorem ic{K:SV}{H:Hp}{p:Td}{xs:List V}{i:Int}{v:V}{Q:VK}(h:H p=O (.tup xs))(q:Q v H)(e:ef xs i=O v:=by rfl):kT K (.ref p) (.int i) H Q:=aV (aC.of h) e q
theorem cO{X:Cx}{x:Str}{scope:Xj}{cl:List (Str × Td)}(fr:List Nat)(ys:List Str)(a:aag scope X.env=pure cl:=by rfl)(b:(scope.names.all λp=>p.2 != .cell)=true:=by decide +kernel)(c:scope.kind = .function:=by rfl)
 (d:(scope.names.all λp=>p.2 != .local || scope.names.lookup p.1 == O .local)=true:=by decide +kernel) (e:scope.names.lookup x=O .local:=by rfl) (f:((relabel scope X.env).names.all λp=>(p.2 != .cell && p.2 != .free) || (cl.lookup p.1).isSome)=true:=by rfl)
 (g:gN X cl:=by repeat' first|exact gN.nil|refine gN.cons Y ?_) (h:fA X scope cl fr ys:=by repeat' first|exact fA.nil|refine fA.cons Y Y Y Y ?_) (i:(x::ys).Nodup:=by decide) (j:(ys.all λy=>(relabel scope X.env).names.lookup y == O .cell)=true:=by rfl):gO X x scope cl fr ys:=#[a,b,c,d,e,f,g,h,i,j]
noncomputable abbrev aI{N ps:List Str}{st:Vt}(_:Sc N ps st):List Str:=ps
noncomputable abbrev Fq(K:SV)(mg:Str->Option SY)(x:Str){N ps:List Str}{st:Vt}(_:Sc N ps st):=Fn K mg x st ps
abbrev Ed(K:SV)(x:Str){N ps:List Str}{st:Vt}(_:Sc N ps st):Prop:=Fb K x x st (bF K x)
abbrev pX(K:SV)(C:Td)(x q:Str){N ps:List Str}{st:Vt}(_:Sc N ps st):Prop:=Fb K x q st (bz K C x)
abbrev kc(K:SV)(x q:Str){N ps:List Str}{st:Vt}(_:Sc N ps st)(p:Td->Prop):Prop:=Fb K x q st p
noncomputable def Ed.c{K:SV}{mg:Str->Option SY}{h:UU}{x:Str}{st:Vt}{N ps:List Str}{S:Sc N ps st}(b:Ed K x S)(X:K.In h)(G9q:h.Ns TN mg):Fq K mg x S:=Classical.choice (Fb.fn b X G9q S)
section
variable{X:Cx}{x:Str}{e:Vh}{es:List Vh}{t:TA}{p pos:Pos}
end
noncomputable abbrev Fy(K:SV)(_:Td)(x q:Str){N ps:List Str}{st:Vt}(_:Sc N ps st):=Fm K x q st ps
noncomputable abbrev Fv(K:SV)(x q:Str){N ps:List Str}{st:Vt}(_:Sc N ps st)(_:Td->Prop):=Fm K x q st ps
section
variable{K:SV}{C:Td}{x q y:Str}{N ps:List Str}{st:Vt}{S:Sc N ps st}{p:Td->Prop}
theorem Fb.fx(b:Fb K x q st p)(S:Sc N ps st):∃ F:Fm K x q st ps,p F.a :=
 let ⟨a,l,c,k⟩:=b;#[#[_,_,jc l c k,(jc l c k).binds (S.b x q)],a]
noncomputable def kc.c(b:kc K x q S p):Fv K x q S p:=Xv (Fb.fx b S)
noncomputable def pX.c(b:pX K C x q S):Fy K C x q S:=Xv (Fb.fx b S)
theorem kc.i{b:kc K x q S p}(h:∀ f,p f->bz K C y f):bz K C y (kc.c b).a:=h _ (VN (Fb.fx b S))
theorem pX.i{b:pX K C x q S}:bz K C x (pX.c b).a:=VN (Fb.fx b S)
theorem kc.j{b:kc K x q S p}{v u:SY}(h:∀ f,p f->XU K v u y=O (.val (.ref f))):XU K v u y=O (.val (.ref (kc.c b).a)):=h _ (VN (Fb.fx b S))
end
end Gz
namespace Gz
open PySem L2 PySem.W PySem.Spec PyProof.Rows
noncomputable def pre(f:P2->Int)(ps:List P2)(i:Nat):Int:=((ps.take i).map f).sum
noncomputable def pY(ps:List P2)(i j:Nat):Int:=if i<=j then pre (·.2) ps j-pre (·.2) ps i else pre (·.1) ps j-pre (·.1) ps i
end Gz
namespace Gz
open PySem PySem.Spec PyProof.Rows L2
abbrev Pa:=Str × Int × S2
def tK(H:Hp)(v:V)(p:Pa):Prop:=∃ (t q:Td),v = .ref t/\H t=O (.tup [.str p.1,.int p.2.1,.ref q])/\H q=O (.tup [ev p.2.2.1,ev p.2.2.2])
abbrev xk(H:Hp):List V->List Pa->Prop:=aq (tK H)
theorem tK.fr{H:Hp}{v:V}{p:Pa}{r:Td}{ys:List V}{o:HO}(h:tK H v p)(hr:H r=O (.lst ys)):tK (upd H r o) v p:=by
 obtain⟨t,q,e,a,b⟩:=h;have h1:t≠r:=λz=>by rw[z,hr] at a;cases a
 have h2:q≠r:=λz=>by rw[z,hr] at b;cases b
 exact#[t,q,e,by rw[az h1];exact a,by rw[az h2];exact b]
theorem xk.put{H:Hp}{xs:List V}{ps:List Pa}{r:Td}{ys:List V}{o:HO}(h:xk H xs ps)(hr:H r=O (.lst ys)):xk (upd H r o) xs ps:=aq.imp (λy y x=>x.fr hr) h
structure Gd(n:Nat)(d:Wu):Prop where
 eqv:Wj d d=true
 lay:d.canLay0=true
 dep:d.depth<=n
theorem Gd.up{n m:Nat}{d:Wu}(h:Gd n d)(hm:n<=m):Gd m d:=#[h.eqv,h.lay,TL h.dep hm]
theorem Gd.of{n:Nat}{d:Wu}(h:fe n d=true):Gd n d:=let ⟨a,b,c⟩:=vW d h;#[a,b,c]
theorem Gd.str{x:Str}(h:PyData.strOk x=true):Gd 0 (.str x):=#[by simp[Wj],by simpa [Xi] using h,Th _]
theorem Gd.int(i:Int):Gd 0 (.int i):=.of rfl
theorem Gd.all:∀ {ds:List Wu} {n:Nat},(∀ d∈ds,Gd n d)->YK ds ds=true/\Xc ds=true/\XR ds<=n
 | [],n,_=>#[Y,Y,Uq _]
 | d::ds,n,h=>by obtain⟨a,b,c⟩:=h d (.head _);obtain⟨a',b',c'⟩:=Gd.all (ds:=ds) λx hx=>h x (.tail _ hx);exact#[by simp only[YK,a,a',YL],by simp only[Xc,b,b',YL],by simp only[XR];lia]
theorem Gd.lst{ds:List Wu}{n:Nat}(h:∀ d∈ds,Gd n d):Gd (n+1) (.list ds):=by obtain⟨a,b,c⟩:=Gd.all h;exact#[by simpa only [Wj] using a,by simpa only [Xi] using b,by simp only[PyData.depth];lia]
theorem Gd.tup{ds:List Wu}{n:Nat}(h:∀ d∈ds,Gd n d):Gd (n+1) (.tuple ds):=by obtain⟨a,b,c⟩:=Gd.all h;exact#[by simpa only [Wj] using a,by simpa only [Xi] using b,by simp only[PyData.depth];lia]
theorem ND{K:SV}{H:Hp}{x y:V}{d:Wu}{n:Nat}{neg:Bool}{Q:VK}(hx:Dat K H x d)(hy:Dat K H y d)(g:Gd n d)(hn:n<=60)(q:Q (.bl (!neg)) H):o5 K neg x y H Q:=by refine#[d,d,hx,hy,g.lay,g.lay,TL g.dep hn,?_];rw[g.eqv];cases neg<;>exact q
noncomputable def xm:W2->Wu
 | none=>.none
 | some s=>sy s
theorem aH.dat{K:SV}{H:Hp}{v:V}{w:W2}(h:aH H v w):Dat K H v (xm w):=by
 cases w with
 | none=>obtain rfl:v = .non:=h;exact .non
 | some s=>exact aO.dat (a:=s.1) (b:=s.2) h
theorem NF(s:S2):Gd 1 (sy s):=.of (by
 obtain⟨a,b⟩:=s;cases a<;>cases b<;>rfl)
theorem NG(w:W2):Gd 1 (xm w):=by
 cases w with
 | none=>exact .of rfl
 | some s=>exact NF s
end Gz
namespace Gz
open PySem L2
theorem NH{H:Hp}{x dx C:Td}{fs:List (Str × V)}(hx:H x=J)(hd:H dx=J)(hn:dx≠x):aj H (upd (upd H dx (.own x)) x (.ins C dx fs)) :=
 (av hd).trans (av (by rw[az (UZ hn)];exact hx))
def Ee(s:S2)(x:Int):Prop:=(∀ a,s.1=O a->a<=x)/\∀ b,s.2=O b->x<=b
def Ef(w:W2)(x:Int):Prop:=∃ s,w=O s/\Ee s x
abbrev Mk:=Nat × S2
structure Eg(ps:List P2)(ms:List Mk)(tp:Nat->Option P2):Prop where
 val:∀ t v k,t<=ps.length->tp t=O (v,k)->∃ (i:Nat) (m:Mk) (h:Int),k=(i:Int)/\ms[i]?=O m/\m.2.2=O h/\h+pY ps m.1 t<=v
 top:∀ m∈ms,∀ h,m.2.2=O h->∃ v k,tp m.1=O (v,k)/\v<=h
 fwd:∀ t v k,t<ps.length->tp t=O (v,k)->∃ v' k',tp (t+1)=O (v',k')/\v'<=v+(aE ps t).2
 bwd:∀ t v k,t<ps.length->tp (t+1)=O (v,k)->∃ v' k',tp t=O (v',k')/\v'<=v-(aE ps t).1
def xn(ps:List P2)(a b:Mk):Prop:=∃ h l,a.2.2=O h/\b.2.1=O l/\h+pY ps a.1 b.1<l
noncomputable def Eh(a b:P2):Bool:=decide (a.1<b.1) || (decide (a.1=b.1) && decide (a.2<b.2))
noncomputable def gq(a b:P2):P2:=if Eh b a=true then b else a
noncomputable def lS:Option P2->Option P2->Option P2
 | none,b=>b
 | some a,J=>O a
 | some a,O b=>O (gq a b)
theorem xo(a b:P2):(gq a b=a∨gq a b=b)/\(gq a b).1<=a.1/\(gq a b).1<=b.1:=by
 unfold gq Eh;split
 .rename_i h;simp only[abd,Vq,decide_eq_true_eq] at h;exact#[.inr rfl,by lia,by lia]
 .rename_i h;simp only[abd,Vq,decide_eq_true_eq,not_or,not_and] at h;exact#[.inl rfl,by lia,by lia]
theorem NI(a b:Option P2):lS a b=a∨lS a b=b:=by
 rcases a with y|a<;>rcases b with y|b
 .exact .inl rfl
 .exact .inr rfl
 .exact .inl rfl
 .show O (gq a b)=O a∨O (gq a b)=O b;rcases (xo a b).1 with h|h<;>rw[h]
  .exact .inl rfl
  .exact .inr rfl
def eQ(a:Option P2)(v:Int):Prop:=∃ w k,a=O (w,k)/\w<=v
theorem NJ{a b:Option P2}{v:Int}(h:eQ a v):eQ (lS a b) v:=by
 obtain⟨w,k,rfl,hw⟩:=h;rcases b with y|b
 .exact#[w,k,Y,hw]
 .have:=(xo (w,k) b).2.1;exact#[(gq (w,k) b).1,(gq (w,k) b).2,Y,by dsimp only at this;lia]
theorem NK{a b:Option P2}{v:Int}(h:eQ b v):eQ (lS a b) v:=by
 obtain⟨w,k,rfl,hw⟩:=h;rcases a with y|a
 .exact#[w,k,Y,hw]
 .have:=(xo a (w,k)).2.2;exact#[(gq a (w,k)).1,(gq a (w,k)).2,Y,by dsimp only at this;lia]
def kd(ps:List P2)(ms:List Mk)(t:Nat)(a:Option P2):Prop:=∀ v k,a=O (v,k)->∃ (i:Nat) (m:Mk) (h:Int),k=(i:Int)/\ms[i]?=O m/\m.2.2=O h/\h+pY ps m.1 t<=v
theorem kd.NL{ps:List P2}{ms:List Mk}{t:Nat}{a b:Option P2}(ha:kd ps ms t a)(hb:kd ps ms t b):kd ps ms t (lS a b):=by
 rcases NI a b with h|h<;>rw[h]
 .exact ha
 .exact hb
theorem NM(ps:List P2)(t:Nat):pY ps t t=0:=by unfold pY;rw[if_pos (Th _)];lia
noncomputable def tL(tp:Nat->Option P2)(i:Nat)(x:Option P2):Nat->Option P2:=λt=>if t=i then x else tp t
theorem xp{tp:Nat->Option P2}{i:Nat}{x:Option P2}:tL tp i x i=x:=if_pos rfl
theorem Ei{tp:Nat->Option P2}{i t:Nat}{x:Option P2}(h:t≠i):tL tp i x t=tp t:=if_neg h
theorem NN{tp:Nat->Option P2}{i t:Nat}{b:Option P2}{v:Int}(h:eQ (tp t) v):eQ (tL tp i (lS (tp i) b) t) v:=by
 by_cases e:t=i
 .subst e;rw[xp];exact NJ h
 .rw[Ei e];exact h
structure T1(ps:List P2)(ms:List Mk)(j:Nat)(tp:Nat->Option P2):Prop where
 val:∀ t,t<=ps.length->kd ps ms t (tp t)
 top:∀ m∈ms.take j,∀ h,m.2.2=O h->eQ (tp m.1) h
theorem T1.nil{ps:List P2}{ms:List Mk}:T1 ps ms 0 λy=>J:=#[λy y y y e=>(nomatch e),λy h=>by simp at h]
theorem T1.put{ps:List P2}{ms:List Mk}{j:Nat}{tp:Nat->Option P2}{m:Mk}{h:Int}(T:T1 ps ms j tp)(hm:ms[j]?=O m)(hh:m.2.2=O h):T1 ps ms (j+1) (tL tp m.1 (lS (tp m.1) (O (h,(j:Int))))):=by
 have hv:kd ps ms m.1 (O (h,(j:Int))):=λv k e=>by cases e;exact#[j,m,h,Y,hm,hh,by rw[NM];lia]
 refine#[λt ht=>?_,λq hq x e=>?_]
 .by_cases e:t=m.1
  .subst e;rw[xp];exact (T.val _ ht).NL hv
  .rw[Ei e];exact T.val t ht
 .rw[Yp,hm] at hq;rcases TQ.mp hq with z|z
  .exact NN (T.top q z x e)
  .obtain rfl:q=m:=by simpa using z
   rw[hh] at e;cases e;rw[xp];exact NK #[h,j,Y,Wv _]
structure T2(ps:List P2)(ms:List Mk)(j:Nat)(tp:Nat->Option P2):Prop where
 val:∀ t,t<=ps.length->kd ps ms t (tp t)
 top:∀ m∈ms,∀ h,m.2.2=O h->eQ (tp m.1) h
 fwd:∀ t,t<j->∀ v,eQ (tp t) v->eQ (tp (t+1)) (v+(aE ps t).2)
structure T3(ps:List P2)(ms:List Mk)(j:Nat)(tp:Nat->Option P2):Prop where
 val:∀ t,t<=ps.length->kd ps ms t (tp t)
 top:∀ m∈ms,∀ h,m.2.2=O h->eQ (tp m.1) h
 fwd:∀ t,t<ps.length->∀ v,eQ (tp t) v->eQ (tp (t+1)) (v+(aE ps t).2)
 bwd:∀ t,j<=t->t<ps.length->∀ v,eQ (tp (t+1)) v->eQ (tp t) (v-(aE ps t).1)
theorem Eg.xn{ps:List P2}{ms:List Mk}{tp:Nat->Option P2}(T:Eg ps ms tp){b:Mk}{v k l:Int}(hb:b.1<=ps.length)(e:tp b.1=O (v,k))(hl:b.2.1=O l)(hv:v<l):∃ (i:Nat) (a:Mk),k=(i:Int)/\ms[i]?=O a/\xn ps a b:=by obtain⟨i,m,h,e1,e2,e3,h4⟩:=T.val _ v k hb e;exact#[i,m,e1,e2,h,l,e3,hl,by lia]
end Gz
namespace Gz
open PySem PySem.Spec PyProof.Rows L2
section
variable{K:SV}{ρ:L2.St}{tt:TT}{te:TE}{H:Hp}{Q:VK}{a:Td}{xs:List V}{row:V->List V}
end
section
variable{X:Cx}{e st:Vh}{te ts:TE}{p2 pos:Pos}
end
theorem Bm{us:List SY}{ns:List Int}(h:YG us ns):Vals (ns.map V.int) us:=by
 induction h with
 | nil=>exact .nil
 | cons n t r ih=>exact .cons #[t,Y] ih
abbrev NO(H:Hp)(v:V)(s:S2):Prop:=aO H v s.1 s.2
theorem cz.all:∀ {H:Hp} {xs:List V} {ss:List S2},cz H xs ss->aq (NO H) xs ss
 | _,[],[],_=>trivial
 | _,_::_,_::_,h=>#[h.1,cz.all h.2]
 | _,[],_::_,h=>h.elim
 | _,_::_,[],h=>h.elim
noncomputable def cellsFrom:En->List Int->List S2
 | lo,[]=>[(lo,J)]
 | lo,z::zs=>(lo,O (z-1))::cellsFrom (O z) zs
theorem m8.trans{p q r:S2}(hq:CI q)(h:m8 p q)(h':m8 q r):m8 p r:=by
 obtain⟨a,b,e1,e2,h1⟩:=h;obtain⟨c,d,e3,e4,h2⟩:=h';unfold CI at hq;rw[e2,e3] at hq;have:b<=c:=by simpa [gb] using hq
 exact#[a,d,e1,e4,by lia]
theorem i3{α:Type}{R:α->α->Prop}:∀ {l:List α},l.Pairwise R->∀ {p q:α},p∈l->q∈l->p=q∨R p q∨R q p
 | [],_,_,_,h,_=>by cases h
 | x::l,h,p,q,hp,hq=>by
  have h1:=UG.mp h;rcases Tz.mp hp with e1|i1<;>rcases Tz.mp hq with e2|i2
  .exact .inl (e1.trans e2.symm)
  .rw[e1];exact .inr (.inl (h1.1 q i2))
  .rw[e2];exact .inr (.inr (h1.1 p i1))
  .exact i3 h1.2 i1 i2
local macro_rules|`(tactic|walk_at "o")=>`(tactic|((try simp only [PySem.Addr] at *); lia))
section
variable{prog:Tv}{w:Ul}{A:Uk}{E:SY->SX->Prop}{s:SX}
end
section
variable{X:Cx}{pins:List (Td × Obj)}{G:L2.St}{H:Hp}{s:SX}{a:Td}{kvs:List (List Key × V)}{o:Obj}{u u':HO}
end
theorem NP{H:Hp}{a p:Td}{u v w:HO}(e:H a=O u)(h:H p=O v)(ne:v≠u):upd H a w p=O v:=by rw[az (mx h e ne)];exact h
section
variable{H H0 H1:Hp}{a p:Td}{kvs:List (List Key × V)}{o:Obj}
theorem NQ{xs:List V}(e:H a=O (.dT kvs))(h:H p=O (.tup xs)){u:HO}:upd H a u p=O (.tup xs):=NP e h λz=>nomatch z
theorem aO.dw{v:V}{x y:En}(h:aO H v x y)(e:H a=O (.dT kvs)){u:HO}:aO (upd H a u) v x y:=let ⟨t,e1,h1⟩:=h;#[t,e1,NQ e h1]
theorem aK.dw{tb:Tb}(h:aK H kvs tb)(e:H a=O (.dT kvs)){u:HO}:aK (upd H a u) kvs tb:=h.imp λy y y z=>z.dw e
end
theorem dj.z{H:Hp}{a b:Td}{kvs:List (List Key × V)}{k:List Key}{o:Obj}(e:H a=O (.dw o (.dT kvs)))(eb:H b=O (.tup (k.map kV))):dj H a (.ref b) (bJ kvs k):=.inr #[kvs,k,b,.inr #[o,e],Y,eb,Y]
section
variable{X:Cx}{pos:Pos}
end
abbrev Cl:=(En × Nat) × (En × Nat)
noncomputable def Ej(e:Int)(c:Cl):Bool:=decide (c.1.1=O e) || decide (c.2.1=O e)
noncomputable def wo(e:Int)(cs:List Cl):List Cl:=cs.filter λc=>!Ej e c
def kR:Nat->List Cl->Prop
 | 0,_=>True
 | _+1,[]=>False
 | n+1,c::cs=>∀ e,Ej e c=true->kR n (wo e (c::cs))
abbrev Gp:=En × List Mk
def xq(ps:List P2)(g h:Gp)(cs:List Cl):Prop:=∀ m∈g.2,∀ n∈h.2,xn ps m n->∃ c∈cs,c.1.1=g.1/\c.2.1=h.1
theorem xq.more{ps:List P2}{g h:Gp}{cs ds:List Cl}(x:xq ps g h cs):xq ps g h (cs++ds):=λm hm n hn hc=>let ⟨c,h1,h2⟩:=x m hm n hn hc;#[c,TR _ h1,h2]
end Gz
namespace Gz
open PySem L2
theorem Ek:∀ {xs ys:List Int},xs.Nodup->(∀ x∈xs,x∈ys)->xs.length<=ys.length
 | [],_,_,_=>Uq _
 | x::xs,ys,h,k=>by obtain⟨h1,h2⟩:=UH.mp h;have hx:=k x (.head _);have ih:=Ek (ys:=ys.erase x) h2 λy hy=>(List.mem_erase_of_ne (λz=>h1 (by rw[<- z];exact hy))).mpr (k y (.tail _ hy));rw[List.length_erase_of_mem hx] at ih;have:=List.length_pos_of_mem hx;rw[Uz];omega
end Gz
namespace Gz
open PySem PySem.Spec PyProof.Rows L2
end Gz
namespace Gz
open PySem
theorem slot1{t:Zx}{q:Nat}(hp:t.place = (List.toArray [q]))(hd:t.dummies = (List.toArray []))(j:Nat):t.slot j=if q=j then .live 0 else .empty:=by
 unfold abM Yh;rw[hp,hd];simp only[SetTable.below,V1,To,Uz,aaX];by_cases h:q<j
 .have:q≠j:=by lia
  simp[h,this]
 .by_cases e:q=j<;>simp[h,e]
theorem El{t:Zx}{q:Nat}(hp:t.place = (List.toArray [q]))(hd:t.dummies = (List.toArray []))(hm:t.mask=7){f:Nat->Int}{h:Int}(hf:∀ i,(f i == h)=false) :
 ∀ (n m:Nat) (p:SetTable.Probe),p.more=0->p.j=p.i->p.dummy=J->p.perturb<32 ^ n->p.i<=7->∃ j,j≠q/\V2 t f h (n+(m+2)) p=O (.empty j J)
 | n,m,⟨j,mo,i,pe,du⟩,h1,h2,h3,h4,h5=>by
  dsimp only at h1 h2 h3 h4 h5;subst h1 h3;obtain rfl:i=j:=h2.symm;have ad:t.advance #[i,0,i,pe,J]=#[(i * 5+1+pe / 32) % 8,0,(i * 5+1+pe / 32) % 8,pe / 32,J]:=by simp[SetTable.advance,SetTable.leap,hm,abe]
  have le:(i * 5+1+pe / 32) % 8<=7:=by lia
  by_cases e:q=i
  .cases n with
   | zero =>
    have z:(i * 5+1+pe / 32) % 8≠q:=by lia
    refine#[_,z,?_];rw[show 0+(m+2)=(m+1)+1 by lia,V2,slot1 hp hd,if_pos e];simp only[hf,T9,if_false];rw[ad,V2,slot1 hp hd,if_neg (UZ z)]
   | succ n =>
    obtain⟨j,j1,j2⟩:=El hp hd hm hf n m #[_,0,_,pe / 32,J] Y Y Y (by dsimp only;rw[abS] at h4;exact Nat.div_lt_of_lt_mul (by lia)) le;refine#[j,j1,?_];rw[show n+1+(m+2)=(n+(m+2))+1 by lia,V2,slot1 hp hd,if_pos e];simp only[hf,T9,if_false];rw[ad];exact j2
  .refine#[i,UZ e,?_];rw[show n+(m+2)=(n+m+1)+1 by lia,V2,slot1 hp hd,if_neg e]
structure iS(t:Zx)(L:List (Nat × Int × SY)):Prop where
 pl:t.place=(L.map (·.1)).toArray
 du:t.dummies = (List.toArray [])
 ma:t.mask=7
 sh:L=[]∨(∃ a,L=[a]) ∨ ∃ a b,L=[a,b]/\a.1<b.1
section
variable{t:Zx}{L:List (Nat × Int × SY)}
theorem iS.fits(k:iS t L):t.fits (L.map (·.2)).toArray.size=true:=by obtain⟨h1,h2,h3,h4⟩:=k;rcases h4 with rfl|⟨a,rfl⟩|⟨a,b,rfl,y⟩<;>simp[SetTable.fits,YU,h1,h2,h3]
theorem iS.zero(k:iS t L):SetTable.below t.place 0=0:=by obtain⟨h1,h2,h3,h4⟩:=k;rcases h4 with rfl|⟨a,rfl⟩|⟨a,b,rfl,y⟩<;>simp[h1,SetTable.below,V1]
theorem iS.free(k:iS t L)(hl:L.length<=1)(h:Int):∃ j,t.freeSlot h=O (j,false)/\j∉L.map (·.1):=by
 obtain⟨h1,h2,h3,h4⟩:=k;rcases h4 with rfl|⟨a,rfl⟩|⟨a,b,rfl,y⟩
 .refine#[SetTable.bits h % 8,?_,λhx=>nomatch hx];simp[aam,abp,abq,XZ,h3,V2,abM,Yh,h1,h2,SetTable.below,V1]
 .have bt:SetTable.bits h<2 ^ 64:=by unfold SetTable.bits;lia
  obtain⟨j,j1,j2⟩:=El (q:=a.1) h1 h2 h3 (f:=λy=>h+1) (h:=h) (λy=>by simp;lia) 13 205 (t.probeStart h) (by simp[XZ,h3,abe]) Y Y (Tu bt (by decide)) (by simp only[XZ,h3];lia);refine#[j,?_,by simpa using j1];unfold aam abp abq;rw[h3,j2];rfl
 .simp at hl
theorem iS.put(k:iS t L)(hl:L.length<=1){j:Nat}(hj:j∉L.map (·.1))(h:Int)(x:SY) :
 ∃ t' p L',t.put j=(t',p)/\iS t' L'/\Xd (L.map (·.2)).toArray p (h,x)=(L'.map (·.2)).toArray/\t'.led=t.led/\t'.plain=t.plain/\t'.fill=L.length+1/\L'.Perm ((j,h,x)::L):=by
 obtain⟨h1,h2,h3,h4⟩:=k;rcases h4 with rfl|⟨a,rfl⟩|⟨a,b,rfl,y⟩
 .refine#[_,_,[(j,h,x)],Y,#[?_,?_,h3,.inr (.inl #[_,Y])],?_,Y,Y,?_,.refl _]<;>simp[YU,Yh,Xd,h1,h2,SetTable.below,V1]
 .have hj:j≠a.1:=by simpa using hj
  by_cases z:a.1<j
  .refine#[_,_,[a,(j,h,x)],Y,#[?_,?_,h3,.inr (.inr #[_,_,Y,z])],?_,Y,Y,?_,.swap _ _ _]<;>simp[YU,Yh,Xd,h1,h2,SetTable.below,V1,z]
  .refine#[_,_,[(j,h,x),a],Y,#[?_,?_,h3,.inr (.inr #[_,_,Y,show j<a.1 by lia])],?_,Y,Y,?_,.refl _]<;>simp[YU,Yh,Xd,h1,h2,SetTable.below,V1,z]
 .simp at hl
end
end Gz
namespace Gz
open PySem PySem.Spec PyProof.Rows L2
section
variable{prog:Tv}{w:Ul}{A:Uk}{E:SY->SX->Prop}{s:SX}{d I:Td}{ep:Nat}{t:Zx}
end
section
variable{X:Cx}
end
def xr(h:UU)(a:Td)(p:P2):Prop:=∃ o t u n,h.get? a=O o/\o.cls = .type "tuple" /\ o.data = .seq (List.toArray [.int p.1 t,.int p.2 u]) n
theorem xr.keep{h h':UU}{a:Td}{p:P2}(x:xr h a p)(k:∀ o,h.get? a=O o->h'.get? a=O o):xr h' a p:=let ⟨o,t,u,n,e,r⟩:=x;#[o,t,u,n,k o e,r]
section
variable{prog:Tv}{w:Ul}{A:Uk}{E:SY->SX->Prop}{s:SX}
end
section
variable{X:Cx}
end
local macro_rules|`(tactic|walk_at "o")=>`(tactic|((try simp only [PySem.Addr] at *); lia))
section
variable{prog:Tv}{w:Ul}{A:Uk}{E:SY->SX->Prop}{s:SX}
end
section
variable{prog:Tv}{w:Ul}{A:Uk}{E:SY->SX->Prop}{s:SX}
theorem NR{h:UU}{S:Td}{o:Obj}{es es':Array (Int × SY)}{ep:Nat}{t t':Zx}(g1:h.get? S=O o)(g3:o.data = .set es ep t) :
 (h.update S (abC es' t')).get? S=O { o with data:=.set es' (ep+1) t' }:=by
 have:=VJ (abC es' t') g1 (by rw[putSet_of es' t' g3];rfl);rw[putSet_of es' t' g3] at this;exact this
theorem NS{α β:Type}{f:α->β}:∀ {xs:List α} {l:List β},l.Perm (xs.map f)->∃ ys:List α,l=ys.map f/\ys.Perm xs:=by
 intro xs l h;generalize hz:xs.map f=z at h
 induction h generalizing xs with
 | nil=>exact#[[],Y,by cases xs with|nil=>exact .nil|cons=>cases hz]
 | @cons a l1 l2 p ih =>
  cases xs with
  | nil=>cases hz
  | cons x xs =>
   obtain⟨e1,e2⟩:=List.cons.inj hz;obtain⟨ys,rfl,q⟩:=ih e2;exact#[x::ys,by rw[<- e1];rfl,q.cons x]
 | swap a b l =>
  cases xs with
  | nil=>cases hz
  | cons x xs =>
   cases xs with
   | nil=>simp at hz
   | cons y xs =>
    simp only[TJ,List.cons.injEq] at hz;obtain⟨e1,e2,e3⟩:=hz;exact#[y::x::xs,by simp[e1,e2,e3],.swap x y xs]
 | trans p q vU vV =>
  obtain⟨ys,e,r⟩:=vV hz;obtain⟨zs,e',r'⟩:=vU e.symm;exact#[zs,e',r'.trans r]
end
section
variable{prog:Tv}{w:Ul}{A:Uk}{E:SY->SX->Prop}{s:SX}{S I:Td}{o:Obj}{ep:Nat}{t:Zx}{L:List (Nat × Int × SY)}
end
section
variable{prog:Tv}{w:Ul}{A:Uk}{E:SY->SX->Prop}{s:SX}
noncomputable abbrev lT(m:Int × Z4):Int × SY:=(aaR m.1,.int m.1 m.2)
def Em(h:UU)(S:Td)(M:List (Int × Z4))(led:Bool):Prop :=
 ∃ o ep t L,h.get? S=O o/\o.cls = .type "set" /\ o.data = .set (L.map (·.2)).toArray ep t/\iS t L/\t.led=led/\t.plain=true/\L.map (·.2)=M.map lT
theorem NT(prog:Tv)(w:Ul){M:List (Int × Z4)}:ElemsOf (Yi prog w) (M.map lT):=λe he=>by obtain⟨m,y,rfl⟩:=Ua.mp he;exact#[#[m.1,by simp[Yi,XG],Y],Y]
theorem add_int{S:Td}{k:Int}{tt:Z4}{M:List (Int × Z4)}{led:Bool}{Q:Bool->SX->Prop}(hS:Em s.heap S M led)(hlen:M.length<2)
 (h0:k∈M.map (·.1)->Q false s)
 (h1:k∉M.map (·.1)->∀ h' M',Heap.SameBut S s.heap h'->Em h' S M' led->M'.Perm ((k,tt)::M)->Q true { s with heap:=h' }) :
 TX (model prog w) A (setAddHashed S (.int k tt) (aaR k)) Q E s:=by
 obtain⟨o,ep,t,L,g1,g2,g3,tk,g4,g5,g7⟩:=hS;have Sx:L.length=M.length:=by have:=congrArg List.length g7;simpa using this
 have Eo:ElemsOf (Yi prog w) (L.map (·.2)).toArray.toList:=by rw[Tr,g7];exact NT prog w
 unfold setAddHashed setAddHashedIn;refine V9 (SW (wpAny_setState_of g1 g3 tk.fits ?_));dsimp only;rw[byScan_of (knd:=Yi prog w) Y (by rw[To,Tn];unfold scanBound;lia) Eo];simp only[if_true];unfold setAddByScan;refine SW (SW (XF ?_));refine SW (wpAny_setScan_of (knd:=Yi prog w) (k:=k) (by simp[Yi,XG]) g1 g3 tk.fits Eo ?_);rw[Tr,g7];by_cases bO:k∈M.map (·.1)
 .obtain⟨m,hm,hmk⟩:=Ua.mp bO;cases hf:abN (λe=>(Yi prog w).is k e.2) (M.map lT) with
  | none =>
   have:=Yq.mp hf (lT m) (Ua.mpr #[m,hm,Y]);rw[<- hmk] at this;simp[Yi,XG] at this
  | some j =>
   dsimp only;exact Tc (Tc (h0 bO))
 .have hf:abN (λe=>(Yi prog w).is k e.2) (M.map lT)=J:=by refine Yq.mpr λe he=>?_;obtain⟨m,hm,rfl⟩:=Ua.mp he;simp only[Yi,XG];exact beq_eq_false_iff_ne.mpr λz=>bO (Ua.mpr #[m,hm,z])
  rw[hf];dsimp only;obtain⟨j,j0,j1⟩:=tk.free (by lia) (aaR k);obtain⟨t',p,L',p1,p2,p3,p5,p6,p7,hperm⟩:=tk.put (by lia) j1 (aaR k) (Value.int k tt);have NU:layNew t (M.map lT).toArray (aaR k) (.int k tt)=((L'.map (·.2)).toArray,t',false,false):=by rw[<- g7];unfold layNew;rw[j0];dsimp only;rw[p1,p3];have:=p2.fits;unfold SetTable.orStandIn;rw[this];rfl
  rw[NU];dsimp only;refine SW ?_;show TX _ _ (pure ()) _ _ _;refine Tc ?_;rw[p6,g5];simp only[if_true];refine SW ?_;rw[hashByValue_scannable 8 (show (Value.int k tt).scannable=true from Y)];refine Tc ?_;rw[show plainKind (Value.int k tt)=true from Y];simp only[if_true];have hsz:(L'.map (·.2)).toArray.size<=TB:=by have:=hperm.length_eq;simp at this ⊢;rw[this];exact TL (show _<=64 by lia) (by decide)
  refine SW (wpAny_storeSet_of g1 g3 ?_ hsz);have gS:=NR (es':=(L'.map (·.2)).toArray) (t':=t') g1 g3;have NV:=Wd s.heap S (abC (L'.map (·.2)).toArray t');have nK:(L'.map (·.2)).Perm (((k,tt)::M).map lT):=by refine (hperm.map (·.2)).trans ?_;simp only[TJ,g7];exact .refl _
  have NW:t'.tooFull=false:=by unfold SetTable.tooFull;rw[p7,p2.ma];simp;lia
  rw[NW];simp only[Bool.and_false,T9,if_false];obtain⟨M',e1,e2⟩:=NS nK;exact Tc (Tc (h1 bO _ M' NV #[_,_,t',_,gS,g2,Y,p2,p5.trans g4,p6.trans g5,e1] e2))
end
section
variable{X:Cx}
end
def xt(sw gw:List W2)(tb:Tb)(m:Int)(L:List Int)(c:Nat->Int):Prop:=(L.length:Int)<=m/\(∀ (j:Nat) w,sw[j]?=O w->Ef w (c (j+1)-c j))/\(∀ (j:Nat) w,gw[j]?=O w->Ef w (c j))/\∀ r∈tb,r.1.1∉L->Ee r.2 (c r.1.2.toNat)
theorem xt.of{sw gw:List W2}{tb bB:Tb}{m:Int}{L:List Int}{c:Nat->Int}(h:xt sw gw tb m L c)(s:∀ r∈bB,r∈tb):xt sw gw bB m L c:=#[h.1,h.2.1,h.2.2.1,λr hr=>h.2.2.2 r (s r hr)]
theorem pZ{e t:Int}{tb:Tb}(h:cC e t tb)(he:0<=e)(ht:0<=t):(tb.length:Int)<=e * t:=by
 have z:∀ {i i' j j':Int},i<i'->j<t->0<=j'->i * t+j<i' * t+j':=λ{i i' j j'} a b c=>by have:=Xn (show i+1<=i' by lia) ht;rw[Int.add_mul,ZT] at this;lia
 have:=Ek (xs:=tb.map λr=>r.1.1 * t+r.1.2) (ys:=(List.range (e * t).toNat).map λn:Nat=>(n:Int)) ?_ ?_
 .rw[Tn,Tn,Vw] at this;have:=ZI he ht;lia
 .have hn:=h.1;unfold List.Nodup at hn ⊢;rw[aal] at hn ⊢;refine hn.imp_of_mem λ{a b} ha hb jk q=>jk ?_;obtain⟨⟨a1,a2⟩,a3,a4⟩:=h.2 a ha;obtain⟨⟨b1,b2⟩,b3,b4⟩:=h.2 b hb;rcases Int.lt_trichotomy a.1.1 b.1.1 with c|c|c
  .have:=z c a4 b3;lia
  .rw[c] at q;exact Prod.ext c (by lia)
  .have:=z c b4 a3;lia
 .intro x hx;obtain⟨r,hr,rfl⟩:=Ua.mp hx;obtain⟨⟨a1,a2⟩,a3,a4⟩:=h.2 r hr;have q:=z a2 a4 (Wv 0);have q0:=ZI a1 ht;exact Ua.mpr #[(r.1.1 * t+r.1.2).toNat,ZF.mpr (by lia),by lia]
theorem cC.Ep{e t:Int}{tb bB:Tb}(h:cC e t tb)(p:tb.Perm bB):cC e t bB:=#[(p.map _).nodup_iff.mp h.1,λr hr=>h.2 r (p.mem_iff.mpr hr)]
def Er(X:Cx)(body:List Vt)(tb:TS)(E':XK):Prop:=∀ (pins:List (Td × Obj)) (s:SX) (G:L2.St) (H:Hp) (D:Ends),Inv X pins G H s->tb D G H ->
 (∀ (i0:List (Td × Obj)) (H1:Hp) (s1:SX) (ev:SY) (s2:SX),Inv X i0 G H1 s1->bW X.prog X.w X.stack H1 s1 E' ev s2->X.xe ev s2)->TX (model X.prog X.w) X.A (execs body X.env) (SP X pins D) X.xe s
def NX(K:SV)(i:Nat)(G9q:Td)(tb th:TS)(E':XK):TS:=λD G H=>tb D G H/\∀ cls H',E' cls J H'->∃ C,cls = .ref C/\Wi K (.ref C) (.ref G9q)=O true /\
 ∀ a,H' a=J->th { nx:=λσ' H2=>D.nx (σ'.set i J) H2,rt:=D.rt,bk:=λσ' H2=>D.bk (σ'.set i J) H2,ct:=λσ' H2=>D.ct (σ'.set i J) H2 } (G.set i (O (.ref a))) (upd H' a (fb a C))
section
variable{X:Cx}{F:SY->SX->Prop}{pins pn:List (Td × Obj)}{G:L2.St}{H:Hp}{s:SX}{A':Uk}
theorem NY{body lD:List Vt}{b₀:Vt}{x n:Str}{np k4 pos:Pos}{tb th:TS}{G9q:Td}(E':XK)(i:Nat)(fy:X.stack=X.env::X.outer)(wq:X.env.frame=O X.env.locals)(hg:Gl X x)(hm:X.mg x=O (.ref G9q))
 (hN:X.N.Nodup) (hi:X.N[i]?=O n) (hl:X.env.scope.names.lookup n=O .local)
 (hb:∀ F pn,Er (Xp X F pn) body tb E') (hh:∀ A' pn,aR (Xh X A' pn) (b₀::lD) th) (hd:(x == ("__debug__" : Str))=false:=by decide)
 (hf:X.fn n=true∨X.env.scope.names.lookup n=O .local:=by first|exact .inl rfl|exact .inr rfl|assumption) :
 PS X (.Try body [.ExceptHandler (O (.Name x np)) (O n) (b₀::lD) k4] [] [] pos) (NX X.K i G9q tb th E'):=by
 intro pins s G H D I h;obtain⟨h1,h2⟩:=h;refine aaK ?_;refine Ue (hb (λe s₁=>TX (model X.prog X.w) X.A (ZZ e X.env) (λ_ s₂=>TX (model X.prog X.w) X.A (aa7 e J) (λ_ s₃=>TX (model X.prog X.w) X.A (handleBy e X.env [.ExceptHandler (O (.Name x np)) (O n) (b₀::lD) k4]) (SP X pins D) X.xe s₃) X.xe s₂) X.xe s₁) (X.pn++pins) [] s G H D (BM I) h1 ?_) (λf s1 q=>?_) λe s1 q=>q
 .intro i0 H1 s1 ev s2 I1 cx;obtain⟨xx,cls,a0,H',B,rfl,os,bare,un,kb,bB,ah,hx,hn,fl,hE⟩:=cx;obtain⟨C,rfl,hmt,hth⟩:=h2 cls H' hE;have dF:=I.ok;have fz:X.A.frames=O (X.env::X.outer):=by rw[<- fy];exact dF.frames
  have jf:Xm B (X.env::X.outer) xx (.ref C) a0 s2.heap:=by have z:Xm B X.stack xx (.ref C) a0 s2.heap:=fl;rw[fy] at z;exact z
  have hF:s1.heap.FunFrames X.base X.stack:=I1.stack;have kZ:∀ b∈ay X.stack,H1 b=J:=I1.jH;have pk:∀ h:UU,B.StaysIn h->s2.heap.UpToSlots h->Un (ay X.stack) [] H1 H' s1.heap h:=λh stays up=>by
   have dE:∀ b∈ay X.stack,∀ o,s1.heap.get? b=O o->∃ sl,h.get? b=O { o with slots:=sl }:=λb hb o q=>by obtain⟨_,o',bI,hnf⟩:=hF.mem hb;rw[q] at bI;cases bI;obtain⟨sl,e1⟩:=un.slot b o q (kZ b hb) hb (by simp);obtain⟨di,e2⟩:=up b _ e1 hnf;exact#[di,e2]
   refine#[λb o q nn hb aN=>stays b o (kb b o q nn hb),λb o q nn hb aN=>dE b hb o q,un.free,λb o q aN=>?_,un.b9,un.cg,un.cv];by_cases hb:b∈ay X.stack
   .obtain⟨sl,e2⟩:=dE b hb o q;exact#[_,e2]
   .obtain⟨o2,e2⟩:=bB b o q hb;exact#[o2,stays b o2 e2]
  refine Zl fz wq jf λh₄ wt wu=>?_;refine aau wt λh₅ jo wx=>?_;have pq:s2.heap.UpToSlots h₅:=wu.trans wx;have I5:Inv (Xh X (X.A.mark (O (.ref xx))) (X.pn++pins)) [] G H' { s2 with heap:=h₅ }:=by
   refine rR (I1.kG (s':={ s2 with heap:=h₅ }) (ch:=[]) os (pk h₅ jo.1 pq) (ah.kept λb u q=>jo.1 b u q) bare (λb z=>absurd z (by simp))) ?_
   first|rfl|simp
  refine ZQ (Zm ?_) (by intro q;cases q);refine kH (X:=Xh X (X.A.mark (O (.ref xx))) (X.pn++pins)) I5 hg hm ?_ hd;obtain⟨ob,hob,hobc⟩:=jo.there;have LT:abH (model X.prog X.w) h₅ (abA (.ref xx)) (.ref C):=hobc ▸ (PySem.W.Looks.ld hob).andThen .now;refine (aa8 (M:=model X.prog X.w) (h:=h₅) I5.cw LT hmt).here ?_;refine codeAny_handlers_suite_as ?_;refine lands_againW jo λh₆ nj wy=>?_;have pj:s2.heap.UpToSlots h₆:=pq.trans wy;obtain⟨oe,hoe,hoec⟩:=nj.there;have u6:=pk h₆ nj.1 pj;have NZ:∀ b o,s1.heap.get? b=O o->b≠xx:=λb o q z=>by rw[z,hn] at q;cases q
  have p8:∀ b o,H' b=O o->b≠xx:=λb o q z=>by rw[z,hx] at q;cases q
  have N0:Un (ay X.stack) [] H1 (upd H' xx (fb xx C)) s1.heap h₆:=by
   refine#[u6.keep,u6.slot,λb o q nn aN=>?_,u6.there,λb xs q=>?_,λb o u q=>?_,λb ps q=>?_]
   .rw[az (NZ b o q)];exact u6.free b o q nn aN
   .have:=u6.b9 b xs q;rw[az (p8 b _ this)];exact this
   .have:=u6.cg b o u q;rw[az (p8 b _ this)];exact this
   .obtain⟨more,z⟩:=u6.cv b ps q;exact#[more,by rw[az (p8 b _ z)];exact z]
  have N1:bu X.prog X.w (upd H' xx (fb xx C)) h₆:=λb u q=>by
   by_cases aL:b=xx
   .subst aL;rw[ao] at q;cases q;exact JZ hoe hoec
   .rw[az aL] at q;exact (ah b u q).fU (λc v _ z=>nj.1 c v z) (λc z=>by rw[az (p8 c _ z)];exact z) λc xs z=>by rw[az (p8 c _ z)];exact z
  have I6:Inv (Xh X (X.A.mark (O (.ref xx))) (X.pn++pins)) [] G (upd H' xx (fb xx C)) { s2 with heap:=h₆ }:=by
   refine rR (I1.kG (s':={ s2 with heap:=h₆ }) (ch:=[]) os N0 N1 bare (λb z=>absurd z (by simp))) ?_
   first|rfl|simp
  refine uy (X:=Xh X (X.A.mark (O (.ref xx))) (X.pn++pins)) (v:=.ref xx) I6 hN hi (.inl hl) Y (λs8 I8=>?_) hf;refine Ue (hh (X.A.mark (O (.ref xx))) (X.pn++pins) [] s8 _ _ _ I8 (hth xx hx)) (λfl s9 q=>?_) λ_ _ z=>z.elim;cases fl with
  | next =>
   obtain⟨σ9,H9,I9,q⟩:=q;exact rS dF I9 hN hi hl λs' J9q=>#[_,_,J9q,q]
  | brk =>
   obtain⟨σ9,H9,I9,q⟩:=q;exact rS dF I9 hN hi hl λs' J9q=>#[_,_,J9q,q]
  | cont =>
   obtain⟨σ9,H9,I9,q⟩:=q;exact rS dF I9 hN hi hl λs' J9q=>#[_,_,J9q,q]
  | ret u =>
   obtain⟨v,σ9,H9,I9,r,q⟩:=q;exact rS dF I9 hN hi hl λs' J9q=>#[v,_,_,J9q,r,q]
 .have q':=SP.BN q;cases f with
  | next =>
   obtain⟨σ',H',I',q'⟩:=q';exact VT #[σ',H',I',q']
  | brk=>exact q'
  | cont=>exact q'
  | ret u=>exact q'
end
section
variable{X:Cx}{k:Nat}{f:Td}{fd:Vg}{ps:List Str}{sp:Sp}{a9:List V}{ds:List SY}{E:XK}{x:Str}{p pos apos:Pos}{e tg:Vh}{es:List Vh}{t:TA}{g:TG}
end
section
variable{X:Cx}{k:Nat}{f:Td}{fd:Vg}{ps:List Str}{sp:Sp}{a9:List V}{ds:List SY}{E:XK}{x:Str}{p pos apos:Pos}{e:Vh}{es:List Vh}{t:TA}
theorem N2(F:cn X.prog X.w X.K X.mg X.base (bW X.prog X.w) k f fd ps sp)(hr:aZ k X.A)(hg:Gl X x)(hm:X.mg x=O (.ref f))(hk:Ux X.K (.ref f)=true)(hb:Binds X.K fd ps ds)(hd:Vals a9 ds)
 (ha:PA X (e::es) t) (d6:(x == ("__debug__" : Str))=false:=by decide) (he:TZ (e::es) X.env=(false,eval e X.env)::TZ es X.env:=by rfl) (cG:(Wm pos (TZ es X.env)).any (·.1)=false:=by rfl)
 (hs:Xk (.Call (.Name x p) (e::es) [] pos) J apos.line X.env=pure false:=by rfl):Er X [.Expr (.Call (.Name x p) (e::es) [] pos) apos] (uD (mI sp a9 E t)) E:=by
 intro pins s G H D I h hx;refine YV (ax (Q:=SP X pins D) (wpAny_Expr_any (ax (Q:=EP X pins G λ_ H1=>D.nx G H1) (Wo (kH I hg hm ?_ d6)) λv s1 ⟨y,H1,I1,r1,q1⟩=>#[G,H1,I1,q1]) I.quiet hs) λf s1 q=>?_)
 .refine VI (h₀:=X.base) I.ok.mod.kin hk (ax (ha pos pins s G H _ I h) λus s1 ⟨vs,H1,I1,r,q⟩=>#[I1.cw,?_]) he cG;have r2:Vals (vs++a9) (us++ds):=r.append hd;have hl:(us++ds).length=ps.length:=by rw[<- r2.length];exact F.len _ _ _ _ q
  refine abx (Yc (F.run X.A X.stack s1 H1 #[us,[]] (us++ds) (vs++a9) _ E hr I1.uU (hb s1 us I1.cw hl) r2 q) λr s' hq=>?_);cases r with
  | error e=>exact hx pins H1 s1 e s' I1 hq
  | ok fl =>
   cases fl with
   | ret u=>exact I1.after hq
   | next=>exact UX hq
   | brk=>exact UX hq
   | cont=>exact UX hq
 .cases f with
  | next=>exact VT q
  | ret v=>exact q
  | brk=>exact q
  | cont=>exact q
end
section
variable{X:Cx}
end
end Gz
namespace Gz
open PySem PySem.Spec PyProof.Rows L2 Builtin Builtin.Str StrLaws
section
variable{X:Cx}
end
end Gz
namespace Gz
open PySem PySem.Spec PyProof.Rows L2 PySem.W PySem.NumText
section
variable{X:Cx}
end
end Gz
namespace Gz
open PySem PySem.Spec PyProof.Rows L2
section
variable{g:TG}{tb:TS}{D:Ends}{G:L2.St}{H:Hp}{x:ab8}
end
end Gz
namespace Gz
open PySem PySem.Spec PyProof.Rows L2 Builtin Builtin.Str
end Gz
namespace Gz
open PySem PySem.Spec PyProof.Rows L2 HT
section
variable{prog:Tv}{w:Ul}{A:Uk}{E:SY->SX->Prop}{s:SX}
theorem N3{t sl:Td}{items:Array SY}{vl vu:SY}{lo hi:Option Int}{Q:SY->SX->Prop}(ht:IsTup s.heap t items)(hs:s.heap.IsSliceOf sl vl vu .none)(pl:ZW vl lo)(pu:ZW vu hi)
 (hw:aA items.size 0 lo=0/\aA items.size items.size hi=items.size) (h:Q (.ref t) s):TX (model prog w) A (YF (.ref t) (.ref sl)) Q E s:=by
 obtain⟨os,gK,hcs,hds⟩:=id hs;have uZ:s.TypeIs (.ref sl) "slice" := #[os,gK,hcs];unfold YF
 try with_reducible refine V9 ?_
 first|refine SW (Tc ?_)|skip
 refine SW (aac ht.typeIs (by decide) ?_);refine SW (Wa (name:=Zb "__getitem__") ht.typeIs Vf
  (Wh Vf ht.typeIs ZL ?_ (ZX _ _)))
 show TX _ _ (X4 (.ref t) >>= _) _ _ s;refine SW (tupleItemsOf_ ht ?_);refine SW (aap uZ ?_);rw[if_pos (by decide)];refine SW (AU hs pl pu ?_);have N4:(((aA items.size 0 lo:Nat):Int) == 0 && (1:Int) == 1 && (aA items.size items.size hi-aA items.size 0 lo) == items.size)=true:=by rw[hw.1,hw.2];simp
 show TX _ _ (if (((aA items.size 0 lo:Nat):Int) == 0 && (1:Int) == 1 && (aA items.size items.size hi-aA items.size 0 lo) == items.size)=true then _ else _) _ _ s;rw[if_pos N4];unfold abh;refine SW (SW (aap ht.typeIs (Tc ?_)));rw[if_pos (by decide)];refine SW (XF ?_);exact Tc #[_,Y,Tc h]
end
def xu(K:SV):V->Option Int->Option Int->Hp->VK->Prop:=λx lo hi H Q=>∃ a xs,x = .ref a/\aC K H a xs/\(HT.aA xs.length 0 lo=0/\HT.aA xs.length xs.length hi=xs.length)/\Q (.ref a) H
theorem N5{X:Cx}:i9 X (xu X.K):=by
 intro pins s G H x v vl vu lo hi sl Q I rx hs pl pu h;obtain⟨a,xs,rfl,hx,hw,q⟩:=h;cases rx;obtain⟨af,r,ht,hz⟩:=I.tuple hx;have hlen:af.toArray.size=xs.length:=by rw[To];exact r.length.symm
 exact#["tuple",_,PyProof.Rows.slot_tuple_getitem.lookup,ht.typeIs,N3 ht hs pl pu (by rw[hlen];exact hw) #[.ref a,H,I,Y,q]]
theorem N6{X:Cx}:i9 X (λx lo hi H Q=>xu X.K x lo hi H Q∨u7 X.K x lo hi H Q):=N5.or Ip
end Gz
namespace xw
open PySem L2 Gz
local macro_rules|`(tactic|walk_at "d")=>do{let a←("seval Nat.reduceAdd Nat.reduceSub uC Ah uL kN Am uz tC Ag Af uE fu uX uT rn mI zZ z0 tB Hb Aa Ab Ac Hc Ad Ae uD rI eU rU Ap Aq JE JF JG JH JI Jx Jy Jz JA JB JC ite_tt ite_ff _root_.L2.start JJ JK List.map_cons List.map_nil List.length_cons List.length_nil List.replicate List.nil_append List.cons_append List.getElem?_cons_zero List.getElem?_cons_succ List.set_cons_zero List.set_cons_succ Bool.not_true Bool.not_false AD AE Be IC Bg IL JL JM JN rV Ki K2 vz uH uG BP Hk Ba Cj Al uI Kz KA AA AB uV AG AX AV AW Bb Bh Ks Kt Ku uM BR B8 vQ vS DW MY MZ M0 M3 M4 M5 M6 M7 M8 M9 Na Nh Nb Nc Nd Nf Ng tF tG xf xg DY pV D3 D4 Nk Nl Nm Nn Np Nq Nr Nt Nu Nv Nw Nx Ny D6 D7 D8 D9 Nz Ea Eb Ec K3 K5 CL K6 C4 vm Jm Bx By Bz C2 C3 DO jK oj Bj".splitOn " ").toArray.mapM fun s=>`(Lean.Parser.Tactic.simpLemma|$(Lean.mkIdent s.toName):ident);`(tactic|dsimp only[↓reduceIte,$a,*])}
local macro_rules|`(tactic|walk_at "s")=>do{let a←("seval Nat.reduceAdd Nat.reduceSub reduceCtorEq ite_tt ite_ff List.map_cons List.map_nil List.length_cons List.length_nil List.nil_append List.cons_append Option.some.injEq V.int.injEq V.bl.injEq V.ref.injEq List.cons.injEq exists_eq_left exists_eq_left' exists_and_left true_and and_true decide_eq_true_eq Nat.zero_add Nat.sub_self Nat.add_one_sub_one decide_true decide_false Bool.not_eq_true' decide_eq_false_iff_not false_and exists_false and_assoc not_false_eq_true not_true_eq_false List.append_nil Option.join_some".splitOn " ").toArray.mapM fun s=>`(Lean.Parser.Tactic.simpLemma|$(Lean.mkIdent s.toName):ident);`(tactic|simp only[↓reduceIte,$a,*])}
local macro_rules|`(tactic|walk_at "p")=>`(tactic|first | (walk_at "d"; repeat (first | walk_at "s" | walk_at "d")) | (walk_at "s"; repeat (first | walk_at "d" | walk_at "s")))
local macro_rules|`(tactic|walk_at "g")=>`(tactic|try walk_at "p")
local macro_rules|`(tactic|rfl')=>`(tactic|walk_at "g")
local macro_rules|`(tactic|walk_at "c")=>`(tactic|(refine ⟨⟨rfl, rfl, rfl, by decide +kernel, rfl, by decide +kernel, by decide +kernel⟩, fun _ _ _ _ _ _ _ _ => ?_⟩; (repeat (refine NB fun _ => ?_)); exact NC rfl))
def top(i:Nat):Vt:=PySem.Challenge.pw_gaze_k19_listens.main.body.getD i (.Pass #[0,0,0,0])
abbrev xy:Vt:=top 10
abbrev xA:Vt:=top 12
abbrev xB:Vt:=top 13
abbrev xC:Vt:=inClass (top 17) 0
abbrev xD:Vt:=inClass (top 17) 1
abbrev xE:Vt:=inClass (top 17) 2
abbrev xF:Vt:=inClass (top 17) 3
abbrev xG:Vt:=inClass (top 17) 4
abbrev xH:Vt:=inClass (top 17) 5
abbrev xI:Vt:=inClass (top 17) 6
abbrev xJ:Vt:=inClass (top 17) 10
abbrev xK:Vt:=inClass (top 17) 11
abbrev xM:Vt:=top 19
abbrev xN:Vt:=top 20
abbrev xO:Vt:=top 21
abbrev xP:Vt:=top 22
abbrev xQ:Vt:=top 23
abbrev xR:Vt:=top 24
abbrev xS:Vt:=top 25
abbrev xT:Vt:=top 26
abbrev xU:Vt:=top 28
abbrev xV:Vt:=top 29
abbrev xW:Vt:=top 30
abbrev xX:Vt:=top 31
abbrev xY:Vt:=inClass (top 32) 0
abbrev xZ:Vt:=inClass (top 32) 1
abbrev x3:Vt:=top 34
abbrev x6:Vt:=top 35
abbrev x8:Vt:=top 36
abbrev x9:Vt:=inClass (top 38) 0
abbrev ya:Vt:=inClass (top 38) 1
abbrev yb:Vt:=inClass (top 38) 2
abbrev yc:Vt:=inClass (top 39) 0
abbrev yd:Vt:=top 40
abbrev ye:Vt:=inClass (top 41) 0
abbrev yf:Vt:=inClass (top 41) 1
abbrev yg:Vt:=inClass (top 41) 2
abbrev yh:Vt:=inClass (top 42) 0
abbrev yi:Vt:=inClass (top 42) 1
abbrev yj:Vt:=top 44
abbrev yk:Vt:=top 45
abbrev ym:Vt:=top 46
abbrev yn:Vt:=top 47
abbrev yo:Vt:=top 48
abbrev yp:Vt:=top 49
abbrev yq:Vt:=top 50
abbrev yr:Vt:=top 51
abbrev yt:Vt:=top 52
abbrev yu:Vt:=top 53
abbrev yw:Vt:=top 54
theorem nM:Sc ["board","eye","sort","words","told","turn","word"] ["board","eye","sort","words"] xy:=by walk_at "c"
theorem yx:Sc ["lo","hi"] ["lo","hi"] xA:=by walk_at "c"
theorem p9:Sc ["one","by","lo","hi"] ["one","by"] xB:=by walk_at "c"
theorem yy:Sc ["self","eyes","turns","up","down","most"] ["self","eyes","turns","up","down","most"] xC:=by walk_at "c"
theorem yz:Sc ["self","eye"] ["self","eye"] xD:=by walk_at "c"
theorem yA:Sc ["self","turn"] ["self","turn"] xE:=by walk_at "c"
theorem yB:Sc ["self","eye","turn","lo","hi"] ["self","eye","turn","lo","hi"] xF:=by walk_at "c"
theorem yC:Sc ["self","eye","turn"] ["self","eye","turn"] xG:=by walk_at "c"
theorem yD:Sc ["self","eye","turn"] ["self","eye","turn"] xH:=by walk_at "c"
theorem yE:Sc ["self"] ["self"] xI:=by walk_at "c"
theorem yF:Sc ["self","eye","turn"] ["self","eye","turn"] xJ:=by walk_at "c"
theorem yG:Sc ["self","eye","turn"] ["self","eye","turn"] xK:=by walk_at "c"
theorem nN:Sc ["one","other","rest"] ["one","other"] xM:=by walk_at "c"
theorem qa:Sc ["top","bottom","divisor"] ["top","bottom"] xN:=by walk_at "c"
theorem yH:Sc ["one","other"] ["one","other"] xO:=by walk_at "c"
theorem yI:Sc ["one","other"] ["one","other"] xP:=by walk_at "c"
theorem yJ:Sc ["one","other"] ["one","other"] xQ:=by walk_at "c"
theorem yK:Sc ["one","other"] ["one","other"] xR:=by walk_at "c"
theorem yL:Sc ["one"] ["one"] xS:=by walk_at "c"
theorem yM:Sc ["one"] ["one"] xT:=by walk_at "c"
theorem yN:Sc ["numbers"] ["numbers"] xU:=by walk_at "c"
theorem tM:Sc ["start","end","one","slope"] ["start","end","one"] xV:=by walk_at "c"
theorem yO:Sc ["start","end","one"] ["start","end","one"] xW:=by walk_at "c"
theorem qb:Sc ["pairs","one","start","end"] ["pairs","one"] xX:=by walk_at "c"
theorem qc:Sc ["self","knots","raws","values"] ["self","knots"] xY:=by walk_at "c"
theorem yP:Sc ["self","raw"] ["self","raw"] xZ:=by walk_at "c"
theorem iT:Sc ["looks","many","before","state","last","row","look"] ["looks","many","before"] x3:=by walk_at "c"
theorem yQ:Sc ["low","high"] ["low","high"] x6:=by walk_at "c"
theorem yS:Sc ["state","low","high"] ["state","low","high"] x8:=by walk_at "c"
theorem yT:Sc ["self","drift","since"] ["self","drift","since"] x9:=by walk_at "c"
theorem yU:Sc ["self","turn"] ["self","turn"] ya:=by walk_at "c"
theorem nO:Sc ["self","words","told","turn","word"] ["self","words"] yb:=by walk_at "c"
theorem yV:Sc ["self","words"] ["self","words"] yc:=by walk_at "c"
theorem yW:Sc ["gauge","raw"] ["gauge","raw"] yd:=by walk_at "c"
theorem yX:Sc ["self","drift","since","gauge","error"] ["self","drift","since","gauge","error"] ye:=by walk_at "c"
theorem lU:Sc ["self","raw","least","greatest","lo","hi"] ["self","raw"] yf:=by walk_at "c"
theorem yY:Sc ["self","words"] ["self","words"] yg:=by walk_at "c"
theorem yZ:Sc ["self","drift","since","many","low","high"] ["self","drift","since","many","low","high"] yh:=by walk_at "c"
theorem lV:Sc ["self","words","told","state","looks"] ["self","words"] yi:=by walk_at "c"
theorem y0:Sc ["_law_script","_law_k"] ["_law_script","_law_k"] yj:=by walk_at "c"
theorem y9:Sc ["_law_cell_here"] ["_law_cell_here"] yk:=by walk_at "c"
theorem tN:Sc ["_law_cell_here","_law_sort","_law_lo"] ["_law_cell_here","_law_sort"] ym:=by walk_at "c"
theorem lW:Sc ["_law_raw_here","_law_slack","_law_lo","_law_hi"] ["_law_raw_here","_law_slack"] yn:=by walk_at "c"
theorem fN:Sc ["_law_raws","_law_sort","_law_since","_law_words_here","_law_state","_law_k","_law_slack","_law_word"] ["_law_raws","_law_sort","_law_since"] yo:=by walk_at "c"
theorem za:Sc ["_law_sort","_law_since"] ["_law_sort","_law_since"] yp:=by walk_at "c"
theorem lX:Sc ["_law_board","_law_eye_here","_law_by","_law_raws","_law_off","_law_told","e"] ["_law_board","_law_eye_here","_law_by","_law_raws","_law_off"] yq:=by walk_at "c"
theorem zb:Sc ["_law_table"] ["_law_table"] yr:=by walk_at "c"
theorem qd:Sc ["_law_board","_law_eye_here","_law_by","_law_sort","_law_raws","_law_more"] ["_law_board","_law_eye_here","_law_by","_law_sort","_law_raws"] yt:=by walk_at "c"
theorem fO:Sc ["_law_board","_law_table","_law_script","_law_at","_law_cell_here","_law_eye_here","_law_sort","_law_since","_law_many","_law_raws","_law_by","_law_handed","_law_words_here","_law_k"] ["_law_board","_law_table","_law_script","_law_at"] yu:=by walk_at "c"
theorem ju:Sc ["_law_script","_law_board","_law_table","_law_k","_law_spot","_law_at"] ["_law_script"] yw:=by walk_at "c"
set_option genInjectivity false
set_option genSizeOf false
structure Tx(K:SV)(mg:Str->Option SY) where
 ie:Fn K mg "listen" xy (aI nM)
 qe:Fn K mg "is_crossed" xA (aI yx)
 qf:Fn K mg "widened" xB (aI p9)
 lY:Fm K "__init__" "Board.__init__" xC (aI yy)
 jv:Fm K "has_eye" "Board.has_eye" xD (aI yz)
 ke:Fm K "has_turn" "Board.has_turn" xE (aI yA)
 jw:Fm K "tell" "Board.tell" xF (aI yB)
 kf:Fm K "hush" "Board.hush" xG (aI yC)
 kg:Fm K "word" "Board.word" xH (aI yD)
 jx:Fm K "tellings" "Board.tellings" xI (aI yE)
 jy:Fm K "check_spot" "Board.check_spot" xJ (aI yF)
 kh:Fm K "check_word" "Board.check_word" xK (aI yG)
 qg:Fn K mg "greatest_divisor" xM (aI nN)
 qh:Fn K mg "ratio" xN (aI qa)
 qi:Fn K mg "plus" xO (aI yH)
 qj:Fn K mg "minus" xP (aI yI)
 qk:Fn K mg "times" xQ (aI yJ)
 ql:Fn K mg "under" xR (aI yK)
 qm:Fn K mg "floored" xS (aI yL)
 qo:Fn K mg "raised" xT (aI yM)
 qp:Fn K mg "is_rising" xU (aI yN)
 qr:Fn K mg "on_line" xV (aI tM)
 qt:Fn K mg "lies_between" xW (aI yO)
 ki:Fn K mg "led" xX (aI qb)
 lZ:Fm K "__init__" "Gauge.__init__" xY (aI qc)
 jz:Fm K "forth" "Gauge.forth" xZ (aI yP)
 qu:Fn K mg "settled" x3 (aI iT)
 kj:Fn K mg "check_sills" x6 (aI yQ)
 qv:Fn K mg "by_state" x8 (aI yS)
 gs:Fm K "__init__" "Eye.__init__" x9 (aI yT)
 dg:Fm K "slack" "Eye.slack" ya (aI yU)
 cS:Fm K "slackened" "Eye.slackened" yb (aI nO)
 km:Fm K "stretches" "Plain.stretches" yc (aI yV)
 qw:Fn K mg "forth_or_none" yd (aI yW)
 l0:Fm K "__init__" "Gauged.__init__" ye (aI yX)
 kn:Fm K "seen" "Gauged.seen" yf (aI lU)
 ko:Fm K "stretches" "Gauged.stretches" yg (aI yY)
 l5:Fm K "__init__" "Contact.__init__" yh (aI yZ)
 kq:Fm K "stretches" "Contact.stretches" yi (aI lV)
 qx:Fn K mg "_law_cell" yj (aI y0)
 qy:Fn K mg "_law_end" yk (aI y9)
 qz:Fn K mg "_law_raw" ym (aI tN)
 qA:Fn K mg "_law_gauged_word" yn (aI lW)
 qB:Fn K mg "_law_words" yo (aI fN)
 qC:Fn K mg "_law_eye" yp (aI za)
 qD:Fn K mg "_law_refused" yq (aI lX)
 qE:Fn K mg "_law_due" yr (aI zb)
 qF:Fn K mg "_law_no_deeds" yt (aI qd)
 qG:Fn K mg "_law_heard" yu (aI fO)
 l6:Fn K mg "law" yw (aI ju)
 tO:mg "abs" = J
 N7:mg "all" = J
 Es:mg "enumerate" = J
 tP:mg "isinstance" = J
 nP:mg "len" = J
 zc:mg "list" = J
 tQ:mg "range" = J
 Et:mg "sorted" = J
 Eu:mg "zip" = J
 ig:Td
 N8:mg "GazeError" = O (.ref ig)
 tR:Td
 Sy:mg "NoRatio" = O (.ref tR)
 l7:Td
 N9:mg "NoGauge" = O (.ref l7)
 bg:Td
 tS:mg "OffGauge" = O (.ref bg)
 kr:Td
 Oa:mg "NoSills" = O (.ref kr)
 ku:Td
 zd:mg "NoBoard" = O (.ref ku)
 bS:Td
 nQ:mg "NoTelling" = O (.ref bS)
 aB:Td
 Ob:mg "Board" = O (.ref aB)
 cT:Td
 Oc:mg "Gauge" = O (.ref cT)
 cP:Td
 Ew:mg "Eye" = O (.ref cP)
 b8:Td
 Od:mg "Plain" = O (.ref b8)
 bj:Td
 Oe:mg "Gauged" = O (.ref bj)
 bG:Td
 Of:mg "Contact" = O (.ref bG)
 aX:bP K aB
 iU:bA K aB "eyes"
 iV:bA K aB "turns"
 ze:bA K aB "up"
 zf:bA K aB "down"
 zg:bA K aB "most"
 jA:bA K aB "told"
 zh:Mk K aB lY.a
 Ex:Meth K aB "has_eye" jv.a
 Og:Meth K aB "has_turn" ke.a
 Ey:Meth K aB "tell" jw.a
 Oh:Meth K aB "hush" kf.a
 Oi:Meth K aB "word" kg.a
 Ez:Meth K aB "tellings" jx.a
 EA:Meth K aB "check_spot" jy.a
 Oj:Meth K aB "check_word" kh.a
 nR:bP K cT
 tT:bA K cT "knots"
 zi:Mk K cT lZ.a
 EB:Meth K cT "forth" jz.a
 EC:bP K cP
 ED:bA K cP "drift"
 EE:bA K cP "since"
 EF:Mk K cP gs.a
 Sz:Meth K cP "slack" dg.a
 SD:Meth K cP "slackened" cS.a
 nS:bP K b8
 tU:bA K b8 "drift"
 tV:bA K b8 "since"
 zj:Mk K b8 gs.a
 Ol:Meth K b8 "slack" dg.a
 EG:Meth K b8 "slackened" cS.a
 Oo:Meth K b8 "stretches" km.a
 fo:bP K bj
 tW:bA K bj "drift"
 tX:bA K bj "since"
 nU:bA K bj "gauge"
 qH:bA K bj "error"
 zk:Mk K bj l0.a
 Oq:Meth K bj "slack" dg.a
 EH:Meth K bj "slackened" cS.a
 Ot:Meth K bj "stretches" ko.a
 Ou:Meth K bj "seen" kn.a
 gu:bP K bG
 tY:bA K bG "drift"
 tZ:bA K bG "since"
 t4:bA K bG "many"
 t5:bA K bG "low"
 t6:bA K bG "high"
 zm:Mk K bG l5.a
 Ov:Meth K bG "slack" dg.a
 EI:Meth K bG "slackened" cS.a
 Ow:Meth K bG "stretches" kq.a
 EJ:CJ K cP "__init__" gs.a
 zo:XC K l7
 nV:XC K bg
 zp:XC K kr
 qI:XC K ku
 kx:XC K bS
 Ox:Wi K (.ref bg) (.ref ig)=O true
 Oy:Wi K (.ref bS) (.ref ig)=O true
 Oz:Wi K (.ref bg) (.ref bg)=O true
 OA:U7 K (.ref bg) (.ref bg)=O true
 EK:U7 K (.ref bg) (.ref bS)=O false
 OB:U7 K (.ref bS) (.ref bS)=O true
 OC:U7 K (.ref bS) (.ref bg)=O false
 OD:∃ t,mg "EYES_AT_MOST" = O (.int 7 t)
 OE:∃ t,mg "TURNS_AT_MOST" = O (.int 12 t)
set_option genInjectivity true
set_option genSizeOf true
section
seal L2.PE L2.PS L2.aR L2.PA
variable{P:Tv}{w:Ul}{K:SV}{mg:Str->Option SY}{base:UU}
inductive OF(K:SV)(vs:List V)(H:Hp)(Q:VK)(bo:XK):Prop
 | mk(a:Td)(ns:List Int)(k:Int)(_:vs=[.ref a,.int k])(_:ak K H a (ns.map V.int))(_:0<=k)(_:Q (.int (ll ns k)) H)
theorem nW(T:Tx K mg):Ok P w base 1 T.qx (OF K):=by
 refine b7 y0 ?_;rintro y y y y y y y y y ⟨a,ns,k,rfl,hS,hk,q⟩;refine#[_,(au (aM (nH (aa 1) (dD mH (by rfl) T.nP mQ (ae (aa 0) ai))) (ar (aD (aF (aa 0) (aa 1)))) aS) (ar (aD ag))),?_];rfl';refine#[_,mS hS,?_];rw[Tn];by_cases aQ:k<(ns.length:Int)
 .rw[if_pos aQ];have e:ns[k.toNat]?=O (ll ns k):=by unfold ll;rw[S8,Tj (by lia)];rfl
  refine bX hS ?_ q;have ek:k=((k.toNat:Nat):Int):=by lia
  refine (congrArg (ef _) ek).trans (oI ?_);rw[Vv,e];rfl
 .rw[if_neg aQ];have e:ll ns k=0:=by unfold ll;rw[S8,Wt (by lia)];rfl
  rw[e] at q;exact q
theorem OG{Q R:V->Prop}(hQ:∀ v,Q v->R v){G:L2.St}{n:Nat}(h:iR G n Q):iR G n R:=by
 induction G generalizing n with
 | nil=>exact h
 | cons x G ih =>
  cases n with
  | zero=>cases x with
   | none=>exact h
   | some v=>exact hQ _ h
  | succ n=>exact ih h
theorem OH{x y:V}{Q R:Bool->Prop}(h:neT x y Q)(hQ:∀ b,Q b->R b):neT x y R:=by
 cases x<;>cases y<;>first|exact hQ _ h|exact h.elim|(revert h;show (if _ then _ else _)->(if _ then _ else _);split<;>exact hQ _)
inductive OI(vs:List V)(H:Hp)(Q:VK)(bo:XK):Prop
 | mk(a b:Int)(_:vs=[.int a,.int b])(_:0<=a)(_:0<=b)(_:Q (.int (aW a b)) H)
inductive OJ(a b:Int)(H:Hp)(G:St)(H1:Hp):Prop
 | mk(x y:Int)(z:Option V)(_:G=[O (.int x),O (.int y),z])(_:H1=H)(_:0<=x)(_:0<=y)(_:aW x y=aW a b)
noncomputable def OL(G:St)(_:Hp):Nat:=match G with|[_,O (.int y),_]=>y.toNat|_=>0
theorem OM(T:Tx K mg):Ok P w base 1 T.qg OI:=by
 refine b7 nN ?_;rintro _ _ _ _ H _ _ _ hr ⟨a,b,rfl,ha,hb,q⟩;refine#[_,(au (Hm V3 (D5 (aa 1) ag) (au (aG 2 nN.nd (aw dq (aa 0) (aa 1))) (au (aG 0 nN.nd (aa 1)) (ar (aG 1 nN.nd (aa 2)))))) (ar (aD (aa 0)))),?_];rfl';refine Hy (OJ a b H) OL #[_,_,_,Y,Y,ha,hb,Y] ?_ ?_
 .rintro G H1 ⟨x,y,z,rfl,rfl,hx,hy,hg⟩;rfl';split
  .rename_i hp;have cp:(0:Int)<y:=by lia
   refine#[cp,#[_,_,_,Y,Y,hy,VD x (by lia),?_],?_]
   .rw[KH hx cp];exact hg
   .have:=VL x cp;have:=VD x (show y≠0 by lia);show (x % y).toNat<y.toNat;lia
  .rename_i hp;have:y=0:=by lia
   subst this;rw[gcd_zero hx] at hg;rw[hg];exact q
 .intro G H1 Q1 Q2 hQ h;exact OG (Q:=λv=>neT v (.int 0) λb=>Q1 b H1) (λv z=>OH z λb=>hQ _ _) h
inductive ON(vs:List V)(H:Hp)(Q:VK)(bo:XK):Prop
 | mk(t b:Int)(_:vs=[.int t,.int b])(_:b≠0)(_:Bd 3000 t)(_:Bd 3000 b)(_:∀ p,H p=J->Q (.ref p) (upd H p (.tup [.int (rt t b),.int (rb t b)])))
theorem t7(T:Tx K mg):Ok P w base 2 T.qh ON:=by
 refine b7 qa ?_;rintro _ _ _ _ _ _ _ _ hr ⟨t,b,rfl,hb,t1,b1,q⟩;refine#[_,(au (aM (dW (aa 1) ag) (ar Hi) aS) (au (aG 2 qa.nd (aP (OM T) hr (ae (dD rm (by rfl) T.tO rM (ae (aa 0) ai)) (ae (dD rm (by rfl) T.tO rM (ae (aa 1) ai)) ai)))) (au (aM (nH (aa 1) ag) (ar (aG 2 qa.nd (i6 jr (aa 2)))) aS) (ar (aD (bw (ae (aw BB (aa 0) (aa 2)) (ae (aw BB (aa 1) (aa 2)) ai)))))))),?_];rfl';rw[if_neg hb];have e:aW (if t<0 then -t else t) (if b<0 then -b else b)=aW t b:=KI t b;refine#[_,_,Y,Co t,Co b,?_];rw[e];rfl';obtain⟨_,_,_,_,_,s0,s1⟩:=lq (t:=t) hb;have sB:Bd 4000 (sg t b):=Bd.up (n:=3000) (Uh s1 b1) (by decide);unfold rt rb at q;split
 .rename_i h;have es:sg t b = -aW t b:=if_pos h;rw[es] at s0 sB q;exact#[s0,sB,s0,sB,aU,q]
 .rename_i h;have es:sg t b=aW t b:=if_neg h;rw[es] at s0 sB q;exact#[s0,sB,s0,sB,aU,q]
inductive OO(K:SV)(vs:List V)(H:Hp)(Q:VK)(bo:XK):Prop
 | mk(v u:V)(a b c d:Int)(_:vs=[v,u])(_:eZ K H v a b)(_:eZ K H u c d)(_:1<=b)(_:1<=d)(_:Bd 1000 a)(_:Bd 1000 b)(_:Bd 1000 c)(_:Bd 1000 d)(_:∀ p,H p=J->Q (.ref p) (upd H p (.tup [.int (rt (a * d+c * b) (b * d)),.int (rb (a * d+c * b) (b * d))])))
theorem OP(T:Tx K mg):Ok P w base 3 T.qi (OO K):=by refine b7 yH ?_;rintro z z z z z z z z hr ⟨v,u,a,b,c,d,rfl,⟨x,rfl,hx⟩,⟨y,rfl,hy⟩,hb,hd,ba,bb,bc,bd,q⟩;refine#[_,(ar (aD (aP (t7 T) hr (ae (aw cR (aw eM (aF (aa 0) ag) (aF (aa 1) ag)) (aw eM (aF (aa 1) ag) (aF (aa 0) ag))) (ae (aw eM (aF (aa 0) ag) (aF (aa 1) ag)) ai))))),?_];rfl';refine aV hx Y (aV hy Y ?_);rfl';refine#[#[ba.up (by decide),bd.up (by decide)],aV hy Y (aV hx Y ?_)];rfl';refine#[#[bc.up (by decide),bb.up (by decide)],aV hx Y (aV hy Y ?_)];rfl';refine#[#[bb.up (by decide),bd.up (by decide)],_,_,Y,aaw (ZO (by lia) (by lia)),(Bd.add (ba.mul bd) (bc.mul bb) (by decide) (by decide)),Bd.up (bb.mul bd) (by decide),q]
inductive OQ(K:SV)(vs:List V)(H:Hp)(Q:VK)(bo:XK):Prop
 | mk(v u:V)(a b c d:Int)(_:vs=[v,u])(_:eZ K H v a b)(_:eZ K H u c d)(_:1<=b)(_:1<=d)(_:Bd 1000 a)(_:Bd 1000 b)(_:Bd 1000 c)(_:Bd 1000 d)(_:∀ p,H p=J->Q (.ref p) (upd H p (.tup [.int (rt (a * d-c * b) (b * d)),.int (rb (a * d-c * b) (b * d))])))
theorem OR(T:Tx K mg):Ok P w base 3 T.qj (OQ K):=by refine b7 yI ?_;rintro z z z z z z z z hr ⟨v,u,a,b,c,d,rfl,⟨x,rfl,hx⟩,⟨y,rfl,hy⟩,hb,hd,ba,bb,bc,bd,q⟩;refine#[_,(ar (aD (aP (t7 T) hr (ae (aw dn (aw eM (aF (aa 0) ag) (aF (aa 1) ag)) (aw eM (aF (aa 1) ag) (aF (aa 0) ag))) (ae (aw eM (aF (aa 0) ag) (aF (aa 1) ag)) ai))))),?_];rfl';refine aV hx Y (aV hy Y ?_);rfl';refine#[#[ba.up (by decide),bd.up (by decide)],aV hy Y (aV hx Y ?_)];rfl';refine#[#[bc.up (by decide),bb.up (by decide)],aV hx Y (aV hy Y ?_)];rfl';refine#[#[bb.up (by decide),bd.up (by decide)],_,_,Y,aaw (ZO (by lia) (by lia)),(Bd.sub (ba.mul bd) (bc.mul bb) (by decide) (by decide)),Bd.up (bb.mul bd) (by decide),q]
inductive OS(K:SV)(vs:List V)(H:Hp)(Q:VK)(bo:XK):Prop
 | mk(v u:V)(a b c d:Int)(_:vs=[v,u])(_:eZ K H v a b)(_:eZ K H u c d)(_:1<=b)(_:1<=d)(_:Bd 1000 a)(_:Bd 1000 b)(_:Bd 1000 c)(_:Bd 1000 d)(_:∀ p,H p=J->Q (.ref p) (upd H p (.tup [.int (rt (a * c) (b * d)),.int (rb (a * c) (b * d))])))
theorem EL(T:Tx K mg):Ok P w base 3 T.qk (OS K):=by refine b7 yJ ?_;rintro z z z z z z z z hr ⟨v,u,a,b,c,d,rfl,⟨x,rfl,hx⟩,⟨y,rfl,hy⟩,hb,hd,ba,bb,bc,bd,q⟩;refine#[_,(ar (aD (aP (t7 T) hr (ae (aw eM (aF (aa 0) ag) (aF (aa 1) ag)) (ae (aw eM (aF (aa 0) ag) (aF (aa 1) ag)) ai))))),?_];rfl';refine aV hx Y (aV hy Y ?_);rfl';refine#[#[ba.up (by decide),bc.up (by decide)],aV hx Y (aV hy Y ?_)];rfl';refine#[#[bb.up (by decide),bd.up (by decide)],_,_,Y,aaw (ZO (by lia) (by lia)),Bd.up (ba.mul bc) (by decide),Bd.up (bb.mul bd) (by decide),q]
inductive OT(K:SV)(vs:List V)(H:Hp)(Q:VK)(bo:XK):Prop
 | mk(v u:V)(a b c d:Int)(_:vs=[v,u])(_:eZ K H v a b)(_:eZ K H u c d)(_:Bd 1000 a)(_:Bd 1000 b)(_:Bd 1000 c)(_:Bd 1000 d)(_:Q (.bl (decide (a * d<c * b))) H)
theorem EM(T:Tx K mg):Ok P w base 1 T.ql (OT K):=by refine b7 yK ?_;rintro z z z z z z z z z ⟨v,u,a,b,c,d,rfl,⟨x,rfl,hx⟩,⟨y,rfl,hy⟩,ba,bb,bc,bd,q⟩;refine#[_,(ar (aD (oz (pU oy) (aw eM (aF (aa 0) ag) (aF (aa 1) ag)) (aw eM (aF (aa 1) ag) (aF (aa 0) ag)) (gG _)))),?_];rfl';refine aV hx Y (aV hy Y ?_);rfl';refine#[#[ba.up (by decide),bd.up (by decide)],aV hy Y (aV hx Y ?_)];rfl';exact#[#[bc.up (by decide),bb.up (by decide)],q]
inductive OU(K:SV)(vs:List V)(H:Hp)(Q:VK)(bo:XK):Prop
 | mk(a:Td)(ns:List Int)(_:vs=[.ref a])(_:ak K H a (ns.map V.int))(_:ns.length<=1000)(_:∀ H',aj H H'->Q (.bl (gT ns)) H')
theorem EN(T:Tx K mg):Ok P w base 1 T.qp (OU K):=by
 refine b7 yN ?_;rintro z z z s H z Q z z ⟨a,ns,rfl,hS,hn,q⟩;refine#[_,(ar (aD (dD (Kr Y) (by rfl) T.N7 Jt (ae (Kd (g:=q9 K 2 (jK (fu 0) (jK (fu 1) oj))) (k7.mk (own:=["one","later"]) (fr:=[]) (ys:=[]) Y (by decide +kernel) Y (by decide +kernel) Y .nil .nil rfl) Y (Cc Y T.Eu (ae (aa 0) (ae (rD vc (aa 0) (rC ag) rB) ai))) (λC s2 H2 ex pn=>rf (n:=2) Y (jL (mC (i:=0) (show (["one","later"]:List Str).Nodup by decide) Y (.inl (UM Y)) (.inr (UM Y))) (jL (mC (i:=1) (show (["one","later"]:List Str).Nodup by decide) Y (.inl (UM Y)) (.inr (UM Y))) q8))) (λC s2 H2 ex pn=>#[k6,(oz (pU oy) (aa 0) (aa 1) (gG _))])) ai)))),?_];rfl';refine#[_,hS,λp hp=>?_];rw[show (1:Int)=((1:Nat):Int) from Y,Ck,<- List.map_drop];have s1:=av (o:=.lst ((ns.drop 1).map V.int)) hp;have P1:upd H p (.lst ((ns.drop 1).map V.int)) p=O (.lst ((ns.drop 1).map V.int)):=ao;generalize upd H p (.lst ((ns.drop 1).map V.int))=H1 at s1 P1 ⊢;have hz:((ns.map V.int).zip ((ns.drop 1).map V.int)).length<=TB:=by rw[aaZ,Tn];exact TL (Nat.min_le_left _ _) (TL hn (by decide))
 refine#[#[_,s1.seq hS],#[_,ak.of P1],Kx (xs:=ns.map V.int) (ys:=(ns.drop 1).map V.int) hz (vT (p:=λz=>true) (f:=ltV) (λH' s'=>#[(s1.trans s').seq hS,ak.of (s' _ _ P1)]) (λr fP H' s' Q h=>?_) (λr fP z H' s' Q h=>?_) λH' s'=>?_)]
 .rfl';exact h
 .rw[Cr] at fP;obtain⟨⟨x,y⟩,z,rfl⟩:=Ua.mp fP;rfl';exact h
 .rw[Ts,filter_tt,Cr,WS];intro l hl;refine#[l,Y,(ns.zip (ns.drop 1)).map λr=>decide (r.1<r.2),ak.of ?_,?_]
  .rw[ao,WS];rfl
  .rw[List.all_map];exact q _ ((s1.trans s').trans (av hl))
inductive OV(vs:List V)(H:Hp)(Q:VK)(bo:XK):Prop
 | mk(a b:En)(_:vs=[ev a,ev b])(_:Q (.bl (gb a b)) H)
theorem OW(T:Tx K mg):Ok P w base 1 T.qe OV:=by
 refine b7 yx ?_;rintro z z z z z z z z z ⟨a,b,rfl,q⟩;refine#[_,(ar (aD (nI (z8 (uA (aa 0))) (nI (z8 (uA (aa 1))) (oi (oz (pU Aw) (aa 0) (aa 1) (gG _))))))),?_];rcases a with z|x
 .rfl';exact q
 rcases b with z|y
 .rfl';exact q
 rfl';exact q
inductive OX(vs:List V)(H:Hp)(Q:VK)(bo:XK):Prop
 | mk(v:V)(a b:En)(k:Int)(_:vs=[v,.int k])(_:aO H v a b)(_:∀ p,H p=J->Q (.ref p) (upd H p (.tup [ev (vZ a k),ev (v3 b k)])))
theorem OY(T:Tx K mg):Ok P w base 1 T.qf OX:=by
 refine b7 p9 ?_;rintro z z z z z z z z z ⟨v,a,b,k,rfl,⟨p,rfl,hp⟩,q⟩;refine#[_,(au (aG 2 p9.nd (kI (j9 (aF (aa 0) ag)) ck (aw dn (aF (aa 0) ag) (aa 1)))) (au (aG 3 p9.nd (kI (j9 (aF (aa 0) ag)) ck (aw cR (aF (aa 0) ag) (aa 1)))) (ar (aD (bw (ae (aa 2) (ae (aa 3) ai))))))),?_];rcases a with z|x
 .rfl';refine ic hp ?_;rfl';refine ic hp ?_;rcases b with z|y
  .rfl';exact#[aU,q]
  .rfl';refine ic hp ?_;rfl';exact#[aU,q]
 .rfl';refine ic hp ?_;rfl';refine ic hp ?_;rfl';refine ic hp ?_;rcases b with z|y
  .rfl';exact#[aU,q]
  .rfl';refine ic hp ?_;rfl';exact#[aU,q]
inductive OZ(K:SV)(vs:List V)(H:Hp)(Q:VK)(bo:XK):Prop
 | mk(v:V)(t b:Int)(_:vs=[v])(_:eZ K H v t b)(_:0<b)(_:Bd 4000 b)(_:Q (.int (t / b)) H)
theorem O0(T:Tx K mg):Ok P w base 1 T.qm (OZ K):=by refine b7 yL ?_;rintro y y y y y y y y y ⟨v,t,b,rfl,⟨p,rfl,hS⟩,h0,hb,q⟩;refine#[_,(ar (aD (aw eX (aF (aa 0) ag) (aF (aa 0) ag)))),?_];rfl';refine aV hS Y (aV hS Y ?_);rfl';exact#[h0,hb,q]
inductive O1(K:SV)(vs:List V)(H:Hp)(Q:VK)(bo:XK):Prop
 | mk(v:V)(t b:Int)(_:vs=[v])(_:eZ K H v t b)(_:0<b)(_:Bd 4000 b)(_:Q (.int (jZ t b)) H)
theorem EO(T:Tx K mg):Ok P w base 1 T.qo (O1 K):=by refine b7 yM ?_;rintro y y y y y y y y y ⟨v,t,b,rfl,⟨p,rfl,hS⟩,h0,hb,q⟩;refine#[_,(ar (aD (i6 jr (aw eX (i6 jr (aF (aa 0) ag)) (aF (aa 0) ag))))),?_];rfl';refine aV hS Y ?_;rfl';refine aV hS Y ?_;rfl';exact#[h0,hb,q]
noncomputable def t8(P N:Nat):Nat:=max P (N+250)+253
inductive O2(K:SV)(vs:List V)(H:Hp)(Q:VK)(bo:XK):Prop
 | mk(u v w:V)(s e:P2)(p q:Int)(P N:Nat)(_:vs=[u,v,w])(_:bQ H u s)(_:bQ H v e)(_:cq H w p q)(_:(Bd 250 s.1/\Bd 250 s.2))(_:(Bd 250 e.1/\Bd 250 e.2))(_:Bd P p)(_:Bd N q)(_:P<=653)(_:N<=352)(_:1<=q)(_:s.1<e.1)(_:∀ v t b H',aj H H'->cq H' v t b->1<=b->aW t b=1->jX s e p q t b->Bd (t8 P N) t->Bd (N+252) b->Q v H')
theorem O3(T:Tx K mg):Ok P w base 4 T.qr (O2 K):=by
 refine b7 tM ?_;rintro y y y s H y y y hr ⟨u,v,w,s,e,p,q,P,N,rfl,⟨ua,rfl,hu⟩,⟨va,rfl,hv⟩,hw,bs,be,bp,bq,l9,nX,hq,aQ,qq⟩;refine#[_,(au (aG 3 tM.nd (aP (t7 T) hr (ae (aw dn (aF (aa 1) ag) (aF (aa 0) ag)) (ae (aw dn (aF (aa 1) ag) (aF (aa 0) ag)) ai)))) (ar (aD (aP (OP T) hr (ae (bw (ae (aF (aa 0) ag) (ae ag ai))) (ae (aP (EL T) hr (ae (aP (OR T) hr (ae (aa 2) (ae (bw (ae (aF (aa 0) ag) (ae ag ai))) ai))) (ae (aa 3) ai))) ai)))))),?_];have b1:=be.1.sub bs.1 (k:=251) (by decide) (by decide);have b2:=be.2.sub bs.2 (k:=251) (by decide) (by decide);rfl';refine ic hv (ic hu ?_);rfl';refine ic hv (ic hu ?_);rfl';refine#[_,_,Y,by lia,b2.up (by decide),b1.up (by decide),λa1 qJ=>?_];obtain⟨r1,r2,y,r4,r5,y,y⟩:=lq (t:=e.2-s.2) (b:=e.1-s.1) (by lia);have c1:Bd 251 (rt (e.2-s.2) (e.1-s.1)):=Uh r4 b2;have c2:Bd 251 (rb (e.2-s.2) (e.1-s.1)):=Uh r5 b1;generalize rt (e.2-s.2) (e.1-s.1)=s1 at r2 c1 ⊢;generalize rb (e.2-s.2) (e.1-s.1)=s2 at r1 r2 c2 ⊢;have S1:=av (o:=.tup [.int s1,.int s2]) qJ;have A1:cq (upd H a1 (.tup [.int s1,.int s2])) (.ref a1) s1 s2:=#[_,Y,ao]
 generalize upd H a1 (.tup [.int s1,.int s2])=H1 at S1 A1 ⊢;rfl';refine aV (aC.of (S1 _ _ hu)) Y #[aU,λa2 dM=>?_];have S2:=av (o:=.tup [.int s.2,.int 1]) dM;have A2:cq (upd H1 a2 (.tup [.int s.2,.int 1])) (.ref a2) s.2 1:=#[_,Y,ao]
 generalize upd H1 a2 (.tup [.int s.2,.int 1])=H2 at S2 A2 ⊢;refine aV (aC.of ((S1.trans S2) _ _ hu)) Y #[aU,λa3 O4=>?_];have S3:=av (o:=.tup [.int s.1,.int 1]) O4;have A3:cq (upd H2 a3 (.tup [.int s.1,.int 1])) (.ref a3) s.1 1:=#[_,Y,ao]
 generalize upd H2 a3 (.tup [.int s.1,.int 1])=H3 at S3 A3 ⊢;have T3:=S1.trans (S2.trans S3);have ij:Bd 1000 1:=Bd.up (n:=1) (by show 1<2;decide) (by decide);refine#[_,_,p,q,s.1,1,Y,(hw.same T3).p,A3.p,hq,Wv _,bp.up (by lia),bq.up (by lia),bs.1.up (by decide),ij,λa4 O5=>?_];have DC:P<=max P (N+250):=Nat.le_max_left ..;have O6:N+250<=max P (N+250):=Nat.le_max_right ..;have hm:max P (N+250)<=653:=Nat.max_le.mpr #[l9,by lia];have O7:t8 P N=max P (N+250)+253:=rfl;rw[O7] at qq;generalize max P (N+250)=m at DC O6 hm qq;have bm:Bd (m+1) (p * 1-s.1 * q):=by rw[Vp];exact bp.sub (bs.1.mul bq) (by lia) (by lia)
 obtain⟨m1,m2,y,m4,m5,y,y⟩:=lq (t:=p * 1-s.1 * q) (b:=q * 1) (by lia);have d1:Bd (m+1) (rt (p * 1-s.1 * q) (q * 1)):=Uh m4 bm;have d2:Bd N (rb (p * 1-s.1 * q) (q * 1)):=by have:=Uh m5 (show (q * 1).natAbs<2 ^ N by rw[Vp];exact bq);exact this
 generalize rt (p * 1-s.1 * q) (q * 1)=iW at m2 d1 ⊢;generalize rb (p * 1-s.1 * q) (q * 1)=ik at m1 m2 d2 ⊢;have S4:=av (o:=.tup [.int iW,.int ik]) O5;have A4:cq (upd H3 a4 (.tup [.int iW,.int ik])) (.ref a4) iW ik:=#[_,Y,ao]
 generalize upd H3 a4 (.tup [.int iW,.int ik])=H4 at S4 A4 ⊢;refine#[_,_,iW,ik,s1,s2,Y,A4.p,((A1.same S2).same (S3.trans S4)).p,m1,r1,d1.up (by lia),d2.up (by lia),c1.up (by decide),c2.up (by decide),λa5 O8=>?_];have n1:ik * s2≠0:=XS (by lia) (by lia);obtain⟨x1,x2,y,x4,x5,y,y⟩:=lq (t:=iW * s1) (b:=ik * s2) n1;have f1:Bd (m+1+251) (rt (iW * s1) (ik * s2)):=Uh x4 (d1.mul c1);have f2:Bd (N+251) (rb (iW * s1) (ik * s2)):=Uh x5 (d2.mul c2);generalize rt (iW * s1) (ik * s2)=md at x2 f1 ⊢;generalize rb (iW * s1) (ik * s2)=jB at x1 x2 f2 ⊢;have S5:=av (o:=.tup [.int md,.int jB]) O8;have A5:cq (upd H4 a5 (.tup [.int md,.int jB])) (.ref a5) md jB:=#[_,Y,ao]
 generalize upd H4 a5 (.tup [.int md,.int jB])=H5 at S5 A5 ⊢;refine#[_,_,s.2,1,md,jB,Y,(A2.same (S3.trans (S4.trans S5))).p,A5.p,Wv _,x1,bs.2.up (by decide),ij,f1.up (by lia),f2.up (by lia),λa6 O9=>?_];have n2:(1:Int) * jB≠0:=by lia
 obtain⟨y1,y2,y3,y4,y5,y,y⟩:=lq (t:=s.2 * jB+md * 1) (b:=1 * jB) n2;have g1:Bd (m+253) (s.2 * jB+md * 1):=by rw[Vp];exact (bs.2.mul f2).add f1 (by lia) (by lia)
 refine qq _ _ _ _ (T3.trans (S4.trans (S5.trans (av O9)))) #[_,Y,ao] y1 y3 ?_ (Uh y4 g1) ?_
 .unfold jX;rw[Vp,ZT] at y2;rw[Vp,Vp] at m2;rw[Vp,ZT];exact KU r2 m2 x2 y2 (by lia) (by lia) (by lia)
 .refine Bd.up (n:=N+251) (Uh y5 ?_) (by lia);rw[ZT];exact f2
noncomputable def ky(s e:P2)(p q:Int):Bool:=decide (s.1 * q<=p) && decide (p<=e.1 * q)
inductive Pb(K:SV)(vs:List V)(H:Hp)(Q:VK)(bo:XK):Prop
 | mk(u v w:V)(s e:P2)(p q:Int)(P N:Nat)(_:vs=[u,v,w])(_:bQ H u s)(_:bQ H v e)(_:cq H w p q)(_:Bd 250 s.1)(_:Bd 250 e.1)(_:Bd P p)(_:Bd N q)(_:P<=653)(_:N<=352)(_:∀ H',aj H H'->Q (.bl (ky s e p q)) H')
theorem Pc(T:Tx K mg):Ok P w base 2 T.qt (Pb K):=by
 refine b7 yO ?_;rintro y y y s H y y y hr ⟨u,v,w,s,e,p,q,P,N,rfl,⟨ua,rfl,hu⟩,⟨va,rfl,hv⟩,hw,bs,be,bp,bq,l9,nX,qq⟩;refine#[_,(ar (aD (nI (tI (aP (EM T) hr (ae (aa 2) (ae (bw (ae (aF (aa 0) ag) (ae ag ai))) ai)))) (oi (tI (aP (EM T) hr (ae (bw (ae (aF (aa 1) ag) (ae ag ai))) (ae (aa 2) ai)))))))),?_];have ij:Bd 1000 1:=Bd.up (n:=1) (by show 1<2;decide) (by decide);rfl';refine aV (aC.of hu) Y #[aU,λa1 qJ=>?_];have S1:=av (o:=.tup [.int s.1,.int 1]) qJ;have A1:cq (upd H a1 (.tup [.int s.1,.int 1])) (.ref a1) s.1 1:=#[_,Y,ao]
 generalize upd H a1 (.tup [.int s.1,.int 1])=H1 at S1 A1 ⊢;refine#[_,_,p,q,s.1,1,Y,(hw.same S1).p,A1.p,bp.up (by lia),bq.up (by lia),bs.up (by decide),ij,?_];rw[Vp];by_cases h1:p<s.1 * q
 .rw[decide_eq_true h1];rfl';have e:ky s e p q=false:=by unfold ky;rw[decide_eq_false (by lia)];rfl
  rw[e] at qq;exact qq _ S1
 .rw[decide_eq_false h1];rfl';refine aV (aC.of (S1 _ _ hv)) Y #[aU,λa2 dM=>?_];have S2:=av (o:=.tup [.int e.1,.int 1]) dM;have A2:cq (upd H1 a2 (.tup [.int e.1,.int 1])) (.ref a2) e.1 1:=#[_,Y,ao]
  generalize upd H1 a2 (.tup [.int e.1,.int 1])=H2 at S2 A2 ⊢;refine#[_,_,e.1,1,p,q,Y,A2.p,(hw.same (S1.trans S2)).p,be.up (by decide),ij,bp.up (by lia),bq.up (by lia),?_];rw[Vp];have e0:ky s e p q = !decide (e.1 * q<p):=by
   unfold ky;rw[decide_eq_true (by lia),Bool.true_and];by_cases h2:e.1 * q<p
   .rw[decide_eq_true h2,decide_eq_false (by lia)];rfl
   .rw[decide_eq_false h2,decide_eq_true (by lia)];rfl
  rw[e0] at qq;rfl';exact qq _ (S1.trans S2)
inductive Pd(K:SV)(C:Td)(vs:List V)(H:Hp)(Q:VK)(E:XK):Prop
 | mk(a:Td)(xs:List V)(ks:List P2)(w:V)(p q:Int)(P N:Nat)(_:vs=[.ref a,w])(_:ak K H a xs)(_:iM H xs ks)(_:BQ ks)(_:ks.length<=1000)(_:gT (ks.map (·.1))=true)(_:cq H w p q)(_:Bd P p)(_:Bd N q)(_:P<=653)(_:N<=352)(_:1<=q)(_:(hit ks p q->∀ v t b H',aj H H'->cq H' v t b->Led ks p q t b->Bd (t8 P N) t->Bd (N+252) b->Q v H'))(_:(¬ hit ks p q->∀ H',aj H H'->E (.ref C) J H'))
inductive Pe(H:Hp)(a m:Td)(w:V)(ks:List P2)(p q:Int)(ys:List V)(i:Nat)(G:St)(H1:Hp):Prop
 | mk(e1 e2:Option V)(_:G=[O (.ref a),O w,e1,e2])(_:aj H H1)(_:H1 m=O (.lst ys))(_:∀ j,j<i->¬ jj ks p q j)
theorem Pf(T:Tx K mg):Ok P w base 5 T.ki (Pd K T.bg):=by
 refine tJ qb ?_;rintro u u u s H u u u hr ⟨a,xs,ks,w,p,q,P,N,rfl,hS,hP,hB,hn,ER,hw,bp,bq,l9,nX,hq,q1,q0⟩;refine#[_,(au (i5 YB Y (Cc Y T.Eu (ae (aa 0) (ae (rD vc (aa 0) (rC ag) rB) ai))) (rf Y (jL (gp 2 qb.nd) (jL (gp 3 qb.nd) q8))) (ar (aM (eO (aP (Pc T) hr (ae (aa 2) (ae (aa 3) (ae (aa 1) ai))))) (ar (aD (aP (O3 T) hr (ae (aa 2) (ae (aa 3) (ae (aa 1) ai)))))) aS))) (ar (iH iI Y T.tS T.nV Y (ae iB ai)))),?_];have hl:=hP.len;rfl';refine#[_,hS,λm hm=>?_];rw[show (1:Int)=((1:Nat):Int) from Y,Ck];have S1:=av (o:=.lst (xs.drop 1)) hm;have M1:upd H m (.lst (xs.drop 1)) m=O (.lst (xs.drop 1)):=ao;generalize upd H m (.lst (xs.drop 1))=H1 at S1 M1 ⊢;refine#[#[_,S1.seq hS],#[_,ak.of M1],Kv (xs:=xs) (ys:=xs.drop 1) (Pe H a m w ks p q (xs.drop 1)) #[_,_,Y,S1,M1,λj h=>absurd h (by lia)] ?_ ?_ ?_]
 .rintro i G H2 ⟨u,u,u,s2,m2,u⟩;exact#[s2.seq hS,ak.of m2]
 .rintro i x y G H2 z hx hy ⟨e1,e2,rfl,s2,m2,jR⟩ hz;rw[Ye] at hy;obtain⟨s,es,rs⟩:=hP.get hx;obtain⟨e,ee,re⟩:=hP.get hy;have hi:i+1<ks.length:=by have:=(Ug.mp ee).1;lia
  have eS:aE ks i=s:=by unfold aE;rw[S8,es];rfl
  have eE:aE ks (i+1)=e:=by unfold aE;rw[S8,show i+1=1+i by lia,ee];rfl
  have s3:=av (o:=.tup [x,y]) hz;have S3:=s2.trans s3;refine r9 (aC.of ao) ?_;have m3:=s3 _ _ m2;generalize upd H2 z (.tup [x,y])=H3 at S3 m3 ⊢;rfl';refine#[_,_,_,s,e,p,q,P,N,Y,rs.same S3,re.same S3,hw.same S3,(hB s (Ui es)).1,(hB e (Ui ee)).1,bp,bq,l9,nX,λH4 s4=>?_];have S4:=S3.trans s4;cases hc:ky s e p q with
  | true =>
   rfl';have bO:jj ks p q i:=by
    unfold ky at hc;rw[Vq,decide_eq_true_eq,decide_eq_true_eq] at hc;refine#[hi,?_,?_]
    .rw[eS];exact hc.1
    .rw[eE];exact hc.2
   have aQ:=si ER (i:=i) (j:=i+1) (by lia) hi;rw[eS,eE] at aQ;refine#[_,_,_,s,e,p,q,P,N,Y,rs.same S4,re.same S4,hw.same S4,hB s (Ui es),hB e (Ui ee),bp,bq,l9,nX,hq,aQ,λv t b H5 s5 hv h1 h2 h3 h4 h5=>?_];refine q1 #[i,bO] v t b H5 (S4.trans s5) hv (Led.of ER (by lia) h1 h2 bO jR ?_) h4 h5;rw[eS,eE];exact h3
  | false =>
   rfl';refine#[_,_,Y,S4,s4 _ _ m3,λj hj ES=>?_];by_cases rT:j=i
   .subst rT;obtain⟨u,k1,k2⟩:=ES;rw[eS] at k1;rw[eE] at k2;unfold ky at hc;rw[decide_eq_true k1,decide_eq_true k2] at hc;cases hc
   .exact jR j (by lia) ES
 .rintro G H2 ⟨e1,e2,rfl,s2,m2,jR⟩;rfl';refine#[by decide,q0 ?_ _ s2];rintro ⟨j,hj⟩;refine jR j ?_ hj;have:=hj.1;rw[UA];lia
inductive Pg(K:SV)(C G9q:Td)(vs:List V)(H:Hp)(Q:VK)(E:XK):Prop
 | mk(x dx a:Td)(xs:List V)(ks:List P2)(_:vs=[.ref x,.ref a])(_:H x=O (.ins G9q dx []))(_:ak K H a xs)(_:iM H xs ks)(_:ks.length<=1000)(_:(¬ mY ks->∀ H',aj H H'->E (.ref C) J H'))(_:(mY ks->∀ l H',SameBut x H H'->H' x=O (.ins G9q dx [("knots",.ref l)])->H l=J->H' l=O (.lst xs)->Q .non H'))
theorem Ph(T:Tx K mg):Om P w mg base 2 T.lZ (Pg K T.l7 T.cT):=by
 refine hV qc ?_;rintro _ _ _ _ H _ Q _ hr ⟨x,dx,a,xs,ks,rfl,hx,hS,hP,hn,q0,q⟩;refine#[_,(au (vN (i:=2) (cO [] []) Y qc.nd Y Y (kL (aa 1)) (λC s2 H2 ex pn=>#[k6,(nJ (K:=K) (aa 0) ag)])) (au (vN (i:=3) (cO [] []) Y qc.nd Y Y (kL (aa 1)) (λC s2 H2 ex pn=>#[k6,(nJ (K:=K) (aa 0) ag)])) (au (aM (PW.pt (i3 (nH (dD mH (by rfl) T.nP mQ (ae (aa 1) ai)) ag) (i3 (d0 (eO (aP (EN T) hr (ae (aa 2) ai)))) (mB (d0 (eO (aP (EN T) hr (ae (aa 3) ai)))))))) (ar (iH iI Y T.N9 T.zo Y (ae iB ai))) aS) (ar (fk (aa 0) (uY Bc (by rfl) T.zc vq (ae (aa 1) ai)) Y))))),?_];have hl:=hP.len;rfl';refine#[#[_,hS],mV oZ (TL (by lia:xs.length<=1000) (by decide)) (sf (R:=bQ H) (p:=λ_=>true) (f:=λp=>.int p.1) hS hP (λx a _ r Q h=>?_) (λx a _ _ r Q h=>?_) ?_)]
 .rfl';exact h
 .obtain⟨t,rfl,ht⟩:=r;rfl';exact aV (aC.of ht) Y h
 rw[Ts,filter_tt,show (ks.map λp=>V.int p.1)=(ks.map (·.1)).map V.int by rw[WS];rfl];intro l1 zr;have S1:=av (o:=.lst ((ks.map (·.1)).map V.int)) zr;have A1:upd H l1 (.lst ((ks.map (·.1)).map V.int)) l1=O (.lst ((ks.map (·.1)).map V.int)):=ao;generalize upd H l1 (.lst ((ks.map (·.1)).map V.int))=H1 at S1 A1 ⊢;have hJ:=hP.same S1;rfl';refine#[#[_,S1.seq hS],mV oZ (TL (by lia:xs.length<=1000) (by decide)) (sf (R:=bQ H1) (p:=λ_=>true) (f:=λp=>.int p.2) (S1.seq hS) hJ (λx a _ r Q h=>?_) (λx a _ _ r Q h=>?_) ?_)]
 .rfl';exact h
 .obtain⟨t,rfl,ht⟩:=r;rfl';exact aV (aC.of ht) Y h
 rw[Ts,filter_tt,show (ks.map λp=>V.int p.2)=(ks.map (·.2)).map V.int by rw[WS];rfl];intro l2 cH;have S2:=av (o:=.lst ((ks.map (·.2)).map V.int)) cH;have A2:upd H1 l2 (.lst ((ks.map (·.2)).map V.int)) l2=O (.lst ((ks.map (·.2)).map V.int)):=ao;generalize upd H1 l2 (.lst ((ks.map (·.2)).map V.int))=H2 at S2 A2 ⊢;have T2:=S1.trans S2;rfl';refine#[_,mS (T2.seq hS),?_];split
 .rename_i h;exact#[by decide,q0 (λz=>by have:=z.1;lia) _ T2]
 rename_i h;refine#[l1,_,Y,ak.of (S2 _ _ A1),by rw[Tn];exact hn,λH3 s3=>?_];cases c1:gT (ks.map (·.1)) with
 | false =>
  rfl';exact#[by decide,q0 (λz=>by rw[z.2.1] at c1;cases c1) _ (T2.trans s3)]
 | true =>
  rfl';refine#[l2,_,Y,ak.of (s3 _ _ A2),by rw[Tn];exact hn,λH4 s4=>?_];have T4:=T2.trans (s3.trans s4);cases c2:gT (ks.map (·.2)) with
  | false =>
   rfl';exact#[by decide,q0 (λz=>by rw[z.2.2] at c2;cases c2) _ T4]
  | true =>
   rfl';refine#[_,.inl (T4.seq hS),λl3 fQ=>?_];have S5:=av (o:=.lst xs) fQ;have X5:=(T4.trans S5) _ _ hx;refine#[_,_,_,X5,T.nR,T.tT,by decide,?_];refine q #[by lia,c1,c2] l3 _ (λb o hb e=>?_) ao (T4.free fQ) ?_
   .rw[az hb];exact (T4.trans S5) _ _ e
   .have:l3≠x:=λz=>by rw[z] at fQ;rw[T4 _ _ hx] at fQ;cases fQ
    rw[az this];exact ao
inductive Pj(G9q C:Td)(vs:List V)(H:Hp)(Q:VK)(E:XK):Prop
 | mk(v w:V)(ks:List P2)(p q:Int)(P N:Nat)(_:vs=[v,w])(_:mZ G9q H v ks)(_:BQ ks)(_:ks.length<=1000)(_:mY ks)(_:cq H w p q)(_:Bd P p)(_:Bd N q)(_:P<=653)(_:N<=352)(_:1<=q)(_:(hit ks p q->∀ v t b H',aj H H'->cq H' v t b->Led ks p q t b->Bd (t8 P N) t->Bd (N+252) b->Q v H'))(_:(¬ hit ks p q->∀ H',aj H H'->E (.ref C) J H'))
theorem ET(T:Tx K mg):Om P w mg base 6 T.jz (Pj T.cT T.bg):=by refine hV yP ?_;rintro y y y y y y y y hr ⟨v,w,ks,p,q,P,N,rfl,⟨x,dx,l,xs,rfl,hx,hl,hP⟩,hB,hn,ah,hw,bp,bq,l9,nX,hq,q1,q0⟩;refine#[_,(ar (aD (rq (Pf T) hr.m Y T.ki.m T.ki.F.kp T.ki.b .nil gM (ae (bL Y (aa 0) Y) (ae (aa 1) ai))))),?_];rfl';refine#[_,_,_,hx,T.nR,T.tT,_,Y,?_];exact#[l,xs,ks,w,p,q,P,N,Y,ak.of hl,hP,hB,hn,ah.2.1,hw,bp,bq,l9,nX,hq,q1,q0]
noncomputable def cf(d1 d2 s t:Int):Int:=jZ (d1 * ff (t-s)) d2
structure qK(K:SV)(C fS fL:Td):Prop where
 cl:bP K C
 nd:bA K C "drift"
 ns:bA K C "since"
 sl:Meth K C "slack" fS
 sk:Meth K C "slackened" fL
def jC(C:Td)(H:Hp)(v:V)(d1 d2 s:Int):Prop:=∃ x dx fs w,v = .ref x/\H x=O (.ins C dx fs)/\fs.lookup ("drift" : Str)=O w/\cq H w d1 d2/\fs.lookup ("since" : Str)=O (.int s)/\fs.lookup ("slack" : Str)=J/\fs.lookup ("slackened" : Str)=J/\fs.lookup ("stretches" : Str)=J
theorem jC.same{C:Td}{H H':Hp}{v:V}{d1 d2 s:Int}(h:jC C H v d1 d2 s)(e:aj H H'):jC C H' v d1 d2 s:=by obtain⟨x,dx,fs,w,h1,h2,h3,h4,h5⟩:=h;exact#[x,dx,fs,w,h1,e _ _ h2,h3,h4.same e,h5]
inductive Pk(K:SV)(vs:List V)(H:Hp)(Q:VK)(bo:XK):Prop
 | mk(x C dx:Td)(fs:List (Str × V))(d s:V)(_:vs=[.ref x,d,s])(_:H x=O (.ins C dx fs))(_:bP K C)(_:bA K C "drift")(_:bA K C "since")(_:fs.length<=10)(_:Q .non (upd H x (.ins C dx (c6 "since" s (c6 "drift" d fs)))))
theorem zt(T:Tx K mg):Om P w mg base 1 T.gs (Pk K):=by refine jt yT ?_;rintro y y y y y y y y y ⟨x,C,dx,fs,d,s,rfl,hx,cl,nd,ns,hl,q⟩;refine#[_,(au (fk (aa 0) (aa 1) Y) (ar (fk (aa 0) (aa 2) Y))),?_];rfl';have l1:=uO "drift" d fs;refine#[_,_,_,hx,cl,nd,by lia,_,_,_,ao,cl,ns,by lia,?_];rw[ix];exact q
inductive Pl(K:SV)(fS fL:Td)(vs:List V)(H:Hp)(Q:VK)(bo:XK):Prop
 | mk(C:Td)(v:V)(d1 d2 s t:Int)(_:vs=[v,.int t])(_:qK K C fS fL)(_:jC C H v d1 d2 s)(_:1<=d2)(_:Bd 300 d1)(_:Bd 300 d2)(_:Bd 300 s)(_:Bd 300 t)(_:∀ H',aj H H'->Q (.int (cf d1 d2 s t)) H')
theorem Pm(T:Tx K mg):Om P w mg base 4 T.dg (Pl K T.dg.a T.cS.a):=by
 refine jt yU ?_;rintro y y y s H y y y hr ⟨C,v,d1,d2,s,t,rfl,ec,⟨x,dx,fs,w,rfl,hx,ld,hw,ls,y⟩,h2,b1,b2,bs,bt,q⟩;refine#[_,(ar (aD (aP (EO T) hr (ae (aP (EL T) hr (ae (bL Y (aa 0) Y) (ae (bw (ae (dD rm (by rfl) T.tO rM (ae (aw dn (aa 1) (bL Y (aa 0) Y)) ai)) (ae ag ai))) ai))) ai)))),?_];have bk:=bt.sub bs (k:=301) (by decide) (by decide);have Pn:Bd 301 (ff (t-s)):=by unfold Bd ff at *;split<;>lia
 have ij:Bd 1000 1:=Bd.up (n:=1) (by show 1<2;decide) (by decide);rfl';refine#[_,_,_,hx,ec.cl,ec.nd,_,ld,?_];rfl';refine#[_,_,_,hx,ec.cl,ec.ns,?_];rw[ls];rfl';refine#[aU,λp hp=>?_];have S1:=av (o:=.tup [.int (if t-s<0 then -(t-s) else t-s),.int 1]) hp;have A1:cq (upd H p (.tup [.int (if t-s<0 then -(t-s) else t-s),.int 1])) (.ref p) (ff (t-s)) 1:=#[p,Y,ao]
 generalize upd H p (.tup [.int (if t-s<0 then -(t-s) else t-s),.int 1])=H1 at S1 A1 ⊢;refine#[_,_,d1,d2,ff (t-s),1,Y,(hw.same S1).p,A1.p,h2,Wv _,b1.up (by decide),b2.up (by decide),Pn.up (by decide),ij,λp2 c8=>?_];rw[Vp];have n0:(d2:Int)≠0:=by lia
 obtain⟨r1,r2,y,r4,r5,y,y⟩:=lq (t:=d1 * ff (t-s)) (b:=d2) n0;have cb:Bd 300 (rb (d1 * ff (t-s)) d2):=Uh r5 b2;refine#[_,_,_,Y,#[p2,Y,aC.of ao],by lia,cb.up (by decide),?_];rw[K9 (show 0<d2 by lia)];exact q _ (S1.trans (av c8))
inductive Po(K:SV)(fS fL:Td)(vs:List V)(H:Hp)(Q:VK)(bo:XK):Prop
 | mk(C:Td)(v:V)(d1 d2 s:Int)(a:Td)(xs:List V)(ws:List W2)(_:vs=[v,.ref a])(_:qK K C fS fL)(_:jC C H v d1 d2 s)(_:1<=d2)(_:Bd 300 d1)(_:Bd 300 d2)(_:Bd 300 s)(_:ak K H a xs)(_:aq (aH H) xs ws)(_:ws.length<=100)(_:∀ l ys H',aj H H'->H l=J->H' l=O (.lst ys)->aq (aH H') ys (cK (cf d1 d2 s) 0 ws)->Q (.ref l) H')
inductive EU(H:Hp)(v:V)(a l:Td)(sl:Int->Int)(ws:List W2)(i:Nat)(G:St)(H1:Hp):Prop
 | mk(ys:List V)(e1 e2:Option V)(_:G=[O v,O (.ref a),O (.ref l),e1,e2])(_:aj H H1)(_:H1 l=O (.lst ys))(_:aq (aH H1) ys (cK sl 0 (ws.take i)))
theorem zu(T:Tx K mg):Om P w mg base 5 T.cS (Po K T.dg.a T.cS.a):=by
 refine jt nO ?_;rintro z z z s H z z z hr ⟨C,v,d1,d2,s,a,xs,ws,rfl,ec,he,h2,b1,b2,bs,hS,hW,hn,q⟩;refine#[_,(au (aG 2 nO.nd (eV ai)) (au (i5 V3 Y (Cb Y T.Es (ae (aa 1) ai)) (rf Y (jL (gp 3 nO.nd) (jL (gp 4 nO.nd) q8))) (ar (dC (rE Wg V4 V5 rG (aa 2) (ae (kI (j9 (aa 4)) ck (aP (OY T) hr (ae (aa 4) (ae (K7 (aa 0) (Pm T) hr.m T.dg.b .nil cW (ae (aa 3) ai)) ai)))) ai))))) (ar (aD (aa 2))))),?_];have hl:=hW.len;rfl';refine#[by decide,λl jD=>?_];have s1:=av (o:=.lst []) jD;refine#[#[_,s1.seq hS],Ce (xs:=xs) (EU H v a l (cf d1 d2 s) ws) #[[],_,_,Y,s1,ao,trivial] ?_ ?_ ?_]
 .rintro i G H1 z ⟨z,z,z,z,s,z⟩;exact s.seq hS
 .rintro i x G H1 p hx ⟨ys,e1,e2,rfl,s2,L2,hY⟩ hp;obtain⟨w,ew,hw⟩:=hW.get hx;have hi:i<ws.length:=(Ug.mp ew).1;have zv:=hY.len;rw[pb,Uc] at zv;have tk:ws.take (i+1)=ws.take i++[w]:=by rw[Yp,ew];rfl
  have tl:(ws.take i).length=i:=by rw[Uc];lia
  have s3:=av (o:=.tup [.int i,x]) hp;refine r9 (aC.of ao) ?_;have L3:=s3 _ _ L2;have S3:=s2.trans s3;have qL:=hY.imp λx a r=>aH.same r s3;have zw:=aH.same hw S3;generalize upd H1 p (.tup [.int i,x])=H3 at S3 L3 qL zw ⊢;have zl:ys.length<TB:=Uh (by lia:ys.length<=100) (by decide);have app:∀ y H4,aj H3 H4->aH H4 y (gf (cf d1 d2 s i) w)->∃ me,H4 l=O (.lst me)/\me.length<TB/\EU H v a l (cf d1 d2 s) ws (i+1) [O v,O (.ref a),O (.ref l),O (.int i),O x] (upd H4 l (.lst (me++[y]))):=λy H4 s4 hy=>by have L4:=s4 _ _ L3;refine#[ys,L4,zl,ys++[y],O (.int i),O x,Y,kY jD (S3.trans s4),ao,?_];rw[tk,o9,tl,WT];exact aq.imp (λx a r=>aH.put r L4) ((qL.imp λx a r=>aH.same r s4).snoc hy)
  rfl';refine#[.inl #[Y,_,ak.of L3],?_];rcases w with z|⟨c,d⟩
  .have lP:x = .non:=zw;subst lP;rfl';exact app _ _ (aj.refl _) rfl
  .obtain⟨t,rfl,ht⟩:=zw;rfl';obtain⟨ex,edx,efs,Pp,e1,e2,e3,e4,e5,e6,e7⟩:=he.same S3;subst e1;have bi:Bd 300 (i:Int):=KS (Tu (show (i:Int).natAbs<2 ^ 20 by lia) (VR (by decide) (by decide)));refine#[ex,Y,_,_,_,e2,ec.cl,ec.sl,e6,C,_,d1,d2,s,i,Y,ec,#[ex,edx,efs,Pp,Y,e2,e3,e4,e5,e6,e7],h2,b1,b2,bs,bi,λH4 s4=>?_];refine#[_,c,d,_,Y,#[t,Y,s4 _ _ ht],λp5 zx=>?_];exact app _ _ (s4.trans (av zx)) aO.new
 .rintro G H1 ⟨ys,e1,e2,rfl,s2,L2,hY⟩;rfl';rw[Uu (by lia)] at hY;exact q _ _ _ s2 jD L2 hY
theorem Pq(T:Tx K mg):qK K T.b8 T.dg.a T.cS.a:=#[T.nS,T.tU,T.tV,T.Ol,T.EG]
inductive Pr(K:SV)(C:Td)(vs:List V)(H:Hp)(Q:VK)(bo:XK):Prop
 | mk(v:V)(d1 d2 s:Int)(a:Td)(xs:List V)(ws:List W2)(_:vs=[v,.ref a])(_:jC C H v d1 d2 s)(_:1<=d2)(_:Bd 300 d1)(_:Bd 300 d2)(_:Bd 300 s)(_:ak K H a xs)(_:aq (aH H) xs ws)(_:ws.length<=100)(_:∀ l ys H',aj H H'->H l=J->H' l=O (.lst ys)->aq (aH H') ys (cK (cf d1 d2 s) 0 ws)->Q (.ref l) H')
theorem Pt(T:Tx K mg):Om P w mg base 6 T.km (Pr K T.b8):=by refine jt yV ?_;rintro y y y s y y y y hr ⟨v,d1,d2,s,a,xs,ws,rfl,he,h2,b1,b2,bs,hS,hW,hn,q⟩;refine#[_,(ar (aD (c7 (aa 0) T.nS T.EG (zu T) hr.m T.cS.b .nil cW (ae (aa 1) ai)))),?_];obtain⟨x,dx,fs,w,rfl,hx,e3,e4,e5,e6,e7,e8⟩:=id he;rfl';exact#[_,_,hx,e7,T.b8,_,d1,d2,s,a,xs,ws,Y,Pq T,he,h2,b1,b2,bs,hS,hW,hn,q]
inductive Pu(C:Td)(vs:List V)(H:Hp)(Q:VK)(E:XK):Prop
 | mk(low high:Int)(_:vs=[.int low,.int high])(_:(high<=low->E (.ref C) J H))(_:(low<high->Q .non H))
theorem Pw(T:Tx K mg):Ok P w base 1 T.kj (Pu T.kr):=by
 refine tJ yQ ?_;rintro _ _ _ _ _ _ _ _ _ ⟨low,high,rfl,q0,q⟩;refine#[_,(ar (aM (D1 (aa 0) (aa 1)) (ar (iH iI Y T.Oa T.zp Y (ae iB ai))) aS)),?_];rfl';split
 .rename_i hb;exact#[by decide,q0 hb]
 .rename_i hb;exact q (by lia)
inductive Px(G9q C:Td)(vs:List V)(H:Hp)(Q:VK)(E:XK):Prop
 | mk(x dx:Td)(d:V)(s m low high:Int)(_:vs=[.ref x,d,.int s,.int m,.int low,.int high])(_:H x=O (.ins G9q dx []))(_:(high<=low->E (.ref C) J H))(_:(low<high->Q .non (upd H x (.ins G9q dx [("drift",d),("since",.int s),("many",.int m),("low",.int low),("high",.int high)]))))
theorem Py(T:Tx K mg):Om P w mg base 2 T.l5 (Px T.bG T.kr):=by refine hV yZ ?_;rintro y y y s y y y y hr ⟨x,dx,d,s,m,low,high,rfl,hx,q0,q⟩;refine#[_,(au (dC (rq (Pw T) hr.m Y T.kj.m T.kj.F.kp T.kj.b .nil gM (ae (aa 4) (ae (aa 5) ai)))) (au (dC (CK Y T.Ew T.EJ (zt T) hr.m T.gs.b .nil cW (ae (aa 0) (ae (aa 1) (ae (aa 2) ai))))) (au (fk (aa 0) (aa 3) Y) (au (fk (aa 0) (aa 4) Y) (ar (fk (aa 0) (aa 5) Y)))))),?_];rfl';refine#[low,high,Y,q0,λaQ=>?_];replace q:=q aQ;rfl';refine#[x,_,dx,_,d,.int s,Y,hx,T.gu,T.tY,T.tZ,by decide,?_];rfl';refine#[_,_,_,ao,T.gu,T.t4,(by show 2<1000;decide),_,_,_,ao,T.gu,T.t5,(by show 3<1000;decide),_,_,_,ao,T.gu,T.t6,(by show 4<1000;decide),?_];rw[ix,ix,ix];exact q
inductive Pz(G9q:Td)(vs:List V)(H:Hp)(Q:VK)(bo:XK):Prop
 | mk(x dx:Td)(d v e:V)(s:Int)(_:vs=[.ref x,d,.int s,v,e])(_:H x=O (.ins G9q dx []))(_:Q .non (upd H x (.ins G9q dx [("drift",d),("since",.int s),("gauge",v),("error",e)])))
theorem PD(T:Tx K mg):Om P w mg base 2 T.l0 (Pz T.bj):=by refine jt yX ?_;rintro y y y s y y y y hr ⟨x,dx,d,v,e,s,rfl,hx,q⟩;refine#[_,(au (dC (CK Y T.Ew T.EJ (zt T) hr.m T.gs.b .nil cW (ae (aa 0) (ae (aa 1) (ae (aa 2) ai))))) (au (fk (aa 0) (aa 3) Y) (ar (fk (aa 0) (aa 4) Y)))),?_];rfl';refine#[x,_,dx,_,d,.int s,Y,hx,T.fo,T.tW,T.tX,by decide,?_];rfl';refine#[_,_,_,ao,T.fo,T.nU,(by show 2<1000;decide),_,_,_,ao,T.fo,T.qH,(by show 3<1000;decide),?_];rw[ix,ix];exact q
inductive PF(K:SV)(vs:List V)(H:Hp)(Q:VK)(bo:XK):Prop
 | mk(a:Td)(bs:List Int)(m:Nat)(v:V)(_:vs=[.ref a,.int m,v])(_:ak K H a (bs.map V.int))(_:1<=m)(_:Q (gW bs m v bs.length) H)
inductive PH(H:Hp)(a:Td)(bs:List Int)(m:Nat)(v:V)(i:Nat)(G:St)(H1:Hp):Prop
 | mk(e:Option V)(_:G=[O (.ref a),O (.int m),O v,O (gW bs m v i),O (gX bs i),O (.int (lA bs i:Nat)),e])(_:H1=H)
theorem PJ(T:Tx K mg):Ok P w base 1 T.qu (PF K):=by
 refine b7 iT ?_;rintro _ _ _ _ H _ _ _ _ ⟨a,bs,m,v,rfl,hS,hm,q⟩;refine#[_,(au (aG 3 iT.nd (aa 2)) (au (aG 4 iT.nd ck) (au (aG 5 iT.nd ag) (au (i5 V3 Y (kL (aa 0)) (gp 6 iT.nd) (au (aG 5 iT.nd (kI (dW (aa 6) (aa 4)) (aw cR (aa 5) ag) ag)) (au (aG 4 iT.nd (aa 6)) (ar (aM (D1 (aa 5) (aa 1)) (ar (aG 3 iT.nd (aa 6))) aS))))) (ar (aD (aa 3))))))),?_];rfl';refine#[#[_,hS],BD (xs:=bs.map V.int) (PH H a bs m v) #[_,Y,Y] ?_ ?_ ?_]
 .rintro i G H1 _ ⟨_,_,rfl⟩;exact hS
 .rintro i x G H1 hx ⟨e,rfl,rfl⟩;obtain⟨b,hb,rfl⟩:∃ b,bs[i]?=O b/\x = .int b:=by
   rw[Vv] at hx;cases h:bs[i]? with
   | none=>rw[h] at hx;cases hx
   | some b=>rw[h] at hx;cases hx;exact#[b,Y,Y]
  have eb:bs.getD i 0=b:=by rw[S8,hb];rfl
  rfl';have el:(V.int b=gX bs i)↔(0<i/\bs.getD i 0=bs.getD (i-1) 0):=by
   rw[eb];cases i with
   | zero=>simp[gX]
   | succ i=>simp[gX]
  have er:lA bs (i+1)=if V.int b=gX bs i then lA bs i+1 else 1:=by
   show (if 0<i/\bs.getD i 0=bs.getD (i-1) 0 then lA bs i+1 else 1)=_;by_cases hc:V.int b=gX bs i
   .rw[if_pos hc,if_pos (el.mp hc)]
   .rw[if_neg hc,if_neg λz=>hc (el.mpr z)]
  have ed:gW bs m v (i+1)=if m<=lA bs (i+1) then .int b else gW bs m v i:=by rw[<- eb];rfl
  have eL:gX bs (i+1) = .int b:=by rw[<- eb];rfl
  have PK:∀ R:Bool->Prop,R (decide (V.int b=gX bs i))->eqT (.int b) (gX bs i) R:=λR h=>by
   cases i with
   | zero=>exact h
   | succ i =>
    show if b=bs.getD i 0 then R true else R false
    by_cases f9:b=bs.getD i 0
    .rw[if_pos f9];rw[show decide (V.int b=gX bs (i+1))=true from decide_eq_true (congrArg V.int f9)] at h;exact h
    .rw[if_neg f9];rw[show decide (V.int b=gX bs (i+1))=false from decide_eq_false λz=>f9 (V.int.inj z)] at h;exact h
  refine PK _ ?_;simp only[decide_eq_true_eq];split
  .rename_i hc;rw[if_pos hc] at er;split
   .rename_i h2;refine#[O (.int b),?_,Y];rw[ed,er,if_pos (by lia),eL];rfl
   .rename_i h2;refine#[O (.int b),?_,Y];rw[ed,er,if_neg (by lia),eL];rfl
  .rename_i hc;rw[if_neg hc] at er;split
   .rename_i h2;refine#[O (.int b),?_,Y];rw[ed,er,if_pos (by lia),eL];rfl
   .rename_i h2;refine#[O (.int b),?_,Y];rw[ed,er,if_neg (by lia),eL];rfl
 .rintro G H1 ⟨e,rfl,rfl⟩;rfl';rw[Tn];exact q
inductive PL(vs:List V)(H:Hp)(Q:VK)(bo:XK):Prop
 | mk(v:V)(low high:Int)(_:vs=[v,.int low,.int high])(_:(v = .non∨v = .int 0∨v = .int 1))(_:(v = .non->Q .non H))(_:(v ≠ .non->∀ p,H p=J->Q (.ref p) (upd H p (.tup [ev (pd low high v).1,ev (pd low high v).2]))))
theorem PM(T:Tx K mg):Ok P w base 1 T.qv PL:=by
 refine b7 yS ?_;rintro y y y y y y y y y ⟨v,low,high,rfl,hv,q0,q⟩;refine#[_,(au (aM (j9 (aa 0)) (ar (aD ck)) aS) (au (aM (dW (aa 0) ag) (ar (aD (bw (ae (aw cR (aa 1) ag) (ae ck ai))))) aS) (ar (aD (bw (ae ck (ae (aw dn (aa 2) ag) ai))))))),?_];rcases hv with rfl|rfl|rfl
 .rfl';exact q0 rfl
 .rfl';exact#[aU,q (λz=>nomatch z)]
 .rfl';exact#[aU,q (λz=>nomatch z)]
theorem PN(T:Tx K mg):qK K T.bG T.dg.a T.cS.a:=#[T.gu,T.tY,T.tZ,T.Ov,T.EI]
def mf(C:Td)(H:Hp)(v:V)(d:V)(d1 d2 s m low high:Int):Prop:=∃ x dx,v = .ref x/\H x=O (.ins C dx [("drift",d),("since",.int s),("many",.int m),("low",.int low),("high",.int high)])/\cq H d d1 d2
theorem mf.same{C:Td}{H H':Hp}{v d:V}{d1 d2 s m low high:Int}(h:mf C H v d d1 d2 s m low high)(e:aj H H'):mf C H' v d d1 d2 s m low high:=by obtain⟨x,dx,h1,h2,h3⟩:=h;exact#[x,dx,h1,e _ _ h2,h3.same e]
theorem mf.eye{C:Td}{H:Hp}{v d:V}{d1 d2 s m low high:Int}(h:mf C H v d d1 d2 s m low high):jC C H v d1 d2 s:=by obtain⟨x,dx,h1,h2,h3⟩:=h;exact#[x,dx,_,d,h1,h2,Y,h3,Y,Y,Y,Y]
inductive PQ(K:SV)(C:Td)(vs:List V)(H:Hp)(Q:VK)(bo:XK):Prop
 | mk(v d:V)(d1 d2 s low high:Int)(m:Nat)(a:Td)(xs:List V)(ks:List Lk)(_:vs=[v,.ref a])(_:mf C H v d d1 d2 s m low high)(_:1<=d2)(_:Bd 300 d1)(_:Bd 300 d2)(_:Bd 300 s)(_:ak K H a xs)(_:aq (IsL H) xs ks)(_:(∀ k∈ks,pf 20 k))(_:1<=m)(_:ks.length<=100)(_:∀ l ys H',aj H H'->H l=J->H' l=O (.lst ys)->aq (aH H') ys (cK (cf d1 d2 s) 0 (fE m low high ks))->Q (.ref l) H')
inductive EV(H:Hp)(v:V)(a l:Td)(m:Nat)(low high:Int)(ks:List Lk)(i:Nat)(G:St)(H1:Hp):Prop
 | mk(ys:List V)(e:Option V)(_:G=[O v,O (.ref a),O (.ref l),O (dk m (ks.take i)),e])(_:aj H H1)(_:H1 l=O (.lst ys))(_:aq (aH H1) ys (fE m low high (ks.take i)))
theorem PR(T:Tx K mg):Om P w mg base 6 T.kq (PQ K T.bG):=by
 refine jt lV ?_;rintro u u u s H u u u hr ⟨v,d,d1,d2,s,low,high,m,a,xs,ks,rfl,he,h2,b1,b2,bs,hS,hK,hk,hm,hn,q⟩;refine#[_,(au (aG 2 lV.nd (eV ai)) (au (aG 3 lV.nd ck) (au (i5 V3 Y (kL (aa 1)) (gp 4 lV.nd) (ar (aM (j9 (aa 4)) (ar (dC (rE Wg V4 V5 rG (aa 2) (ae ck ai)))) (au (aG 3 lV.nd (aP (PJ T) hr (ae (aa 4) (ae (bL Y (aa 0) Y) (ae (aa 3) ai))))) (ar (dC (rE Wg V4 V5 rG (aa 2) (ae (aP (PM T) hr (ae (aa 3) (ae (bL Y (aa 0) Y) (ae (bL Y (aa 0) Y) ai)))) ai)))))))) (ar (aD (c7 (aa 0) T.gu T.EI (zu T) hr.m T.cS.b .nil cW (ae (aa 2) ai))))))),?_];have hl:=hK.len;rfl';refine#[by decide,λl jD=>?_];have s1:=av (o:=.lst []) jD;refine#[#[_,s1.seq hS],BD (xs:=xs) (EV H v a l m low high ks) #[[],_,Y,s1,ao,trivial] ?_ ?_ ?_]
 .rintro i G H1 u ⟨u,u,u,s,u⟩;exact s.seq hS
 .rintro i x G H1 hx ⟨ys,e,rfl,s2,L2,hY⟩;obtain⟨k,ek,fI⟩:=hK.get hx;have hi:i<ks.length:=(Ug.mp ek).1;have zv:=hY.len;rw[CO,Uc] at zv;have zl:ys.length<TB:=Uh (by lia:ys.length<=100) (by decide);have tk:ks.take (i+1)=ks.take i++[k]:=by rw[Yp,ek];rfl
  have j5:=hk k (Ui ek);have vk:fD (dk m (ks.take i)):=Lb (n:=20) λk h=>hk k (UE h);have t9:=CM (m:=m) j5 vk;have es:dk m (ks.take (i+1))=ng m (dk m (ks.take i)) k:=by rw[tk,v7]
  have app:∀ y H4 x',aj H1 H4->aH H4 y (sD low high (dk m (ks.take (i+1))) k)->∃ me,H4 l=O (.lst me)/\me.length<TB/\EV H v a l m low high ks (i+1) [O v,O (.ref a),O (.ref l),O (dk m (ks.take (i+1))),x'] (upd H4 l (.lst (me++[y]))):=λy H4 x' s4 hy=>by have L4:=s4 _ _ L2;refine#[ys,L4,zl,ys++[y],x',Y,kY jD (s2.trans s4),ao,?_];rw[tk] at hy ⊢;rw[CN];exact aq.imp (λx a r=>aH.put r L4) ((hY.imp λx a r=>aH.same r s4).snoc hy)
  rcases k with u|bs
  .have ex:x = .non:=fI;subst ex;rfl';have es':dk m (ks.take (i+1))=dk m (ks.take i):=es;refine#[.inl #[Y,_,ak.of L2],?_];rw[<- es'];exact app _ _ _ (aj.refl _) rfl
  .obtain⟨lk,rfl,u,hlk⟩:=fI;rfl';obtain⟨ex,edx,rfl,cI,hR⟩:=he.same s2;replace es:dk m (ks.take (i+1))=gW bs m (dk m (ks.take i)) bs.length:=es;replace t9:fD (gW bs m (dk m (ks.take i)) bs.length):=t9;refine#[_,_,_,cI,T.gu,T.t4,_,Y,lk,bs,m,_,Y,ak.of (s2 _ _ hlk),hm,?_];rw[<- es] at t9 ⊢;refine#[.inl #[Y,_,ak.of L2],_,_,_,cI,T.gu,T.t5,_,Y,_,_,_,cI,T.gu,T.t6,_,Y,_,low,high,Y,t9,λz=>?_,λz p hp=>?_]
   .refine app _ _ _ (aj.refl _) ?_;show aH H1 .non (gY low high _);rw[z,v9];rfl
   .refine app _ _ _ (av hp) ?_;show aH _ _ (gY low high _);unfold gY;rw[if_neg z];exact#[p,Y,ao]
 .rintro G H1 ⟨ys,e,rfl,s2,L2,hY⟩;rfl';have EW:=he.same s2;obtain⟨ex,edx,rfl,cI,hR⟩:=id EW;rw[Uu (by lia)] at hY;refine#[ex,Y,_,_,cI,Y,T.bG,_,d1,d2,s,l,ys,_,Y,PN T,EW.eye,h2,b1,b2,bs,ak.of L2,hY,by rw[CO];exact hn,λl2 SE H2 s3 cH e2 nY=>q _ _ _ (s2.trans s3) (s2.free cH) e2 nY]
inductive PU(G9q:Td)(vs:List V)(H:Hp)(Q:VK)(bo:XK):Prop
 | mk(v:V)(r:Int)(ks:List P2)(_:vs=[v,.int r])(_:mZ G9q H v ks)(_:BQ ks)(_:ks.length<=1000)(_:mY ks)(_:Bd 250 r)(_:∀ v H',aj H H'->sL H' v (gg ks r) (gh ks r)->Q v H')
theorem EX(T:Tx K mg):Ok P w base 7 T.qw (PU T.cT):=by
 refine b7 yW ?_;rintro y A y y H y y y hr ⟨v,r,ks,rfl,hG,hB,hn,ah,br,q⟩;refine#[_,(ar (LY (λcls y H1=>cls = .ref T.bg/\aj H H1/\¬ hit ks r 1) Y Y Y T.tS (λF pn hx=>(ar (aD (c7 (aa 0) T.nR T.EB (ET T) hr.m T.jz.b .nil hx (ae (bw (ae (aa 1) (ae ag ai))) ai))))) (λA' pn=>(ar (aD ck))))),?_];refine#[?_,λcls H1 z=>?_]
 .obtain⟨x,dx,l,xs,rfl,hx,hl,hP⟩:=id hG;have ij:Bd 1 1:=by show 1<2;decide
  rfl';refine#[_,_,hx,Y,aU,λp hp=>?_];have s1:=av (o:=.tup [.int r,.int 1]) hp;refine#[_,_,ks,r,1,250,1,Y,hG.same s1,hB,hn,ah,#[p,Y,ao],br,ij,by decide,by decide,Wv _,λhh v t b H' s2 hv hL y hb=>?_,λhh H' s2=>#[Y,s1.trans s2,hh]];obtain⟨e1,e2⟩:=LZ ah.2.1 hL hh;exact q v H' (s1.trans s2) (.inr #[t,b,hv,hL.pos,hb.up (by decide),e1,e2])
 .obtain⟨rfl,s1,hh⟩:=z;refine#[_,Y,T.Oz,?_];rfl';exact q _ _ s1 (.inl #[Y,L5 hh])
inductive PV(C G9q X:Td)(vs:List V)(H:Hp)(Q:VK)(E:XK):Prop
 | mk(v:V)(r d1 d2 s er:Int)(ks:List P2)(_:vs=[v,.int r])(_:nv C G9q H v d1 d2 s er ks)(_:BQ ks)(_:ks.length<=1000)(_:mY ks)(_:Bd 240 r)(_:Bd 240 er)(_:(hit ks r 1->∀ v H',aj H H'->aO H' v (gg ks (r-er)) (gh ks (r+er))->Q v H'))(_:(¬ hit ks r 1->∀ H',aj H H'->E (.ref X) J H'))
theorem PX(T:Tx K mg):Om P w mg base 8 T.kn (PV T.bj T.cT T.bg):=by
 refine hV lU ?_;rintro y y y y H y Q y hr ⟨v,r,d1,d2,s,er,ks,rfl,⟨x,dx,w,gv,rfl,hx,hw,hG⟩,hB,hn,ah,br,ber,q1,q0⟩;refine#[_,(au (dC (c7 (bL Y (aa 0) Y) T.nR T.EB (ET T) hr.m T.jz.b .nil gM (ae (bw (ae (aa 1) (ae ag ai))) ai))) (au (aG 2 lU.nd (aP (EX T) hr (ae (bL Y (aa 0) Y) (ae (aw dn (aa 1) (bL Y (aa 0) Y)) ai)))) (au (aG 3 lU.nd (aP (EX T) hr (ae (bL Y (aa 0) Y) (ae (aw cR (aa 1) (bL Y (aa 0) Y)) ai)))) (au (aG 4 lU.nd (kI (j9 (aa 2)) ck (aP (O0 T) hr (ae (aa 2) ai)))) (au (aG 5 lU.nd (kI (j9 (aa 3)) ck (aP (EO T) hr (ae (aa 3) ai)))) (ar (aD (bw (ae (aa 4) (ae (aa 5) ai)))))))))),?_];have ij:Bd 1 1:=by show 1<2;decide
 have bl:=br.sub ber (k:=250) (by decide) (by decide);have bh:=br.add ber (k:=250) (by decide) (by decide);obtain⟨gx,zy,gl,gxs,rfl,uc,hgl,hP⟩:=id hG;rfl';refine#[_,_,_,hx,T.fo,T.nU,_,Y,gx,Y,_,_,uc,Y,aU,λp hp=>?_];have s1:=av (o:=.tup [.int r,.int 1]) hp;refine#[_,_,ks,r,1,250,1,Y,hG.same s1,hB,hn,ah,#[p,Y,ao],br.up (by decide),ij,by decide,by decide,Wv _,λhh v1 t1 b1 H1 s2 y y y y=>?_,λhh H' s2=>q0 hh _ (s1.trans s2)];replace q1:=q1 hh;have S:=s1.trans s2;refine#[_,_,_,S _ _ hx,T.fo,T.nU,_,Y,_,_,_,S _ _ hx,T.fo,T.qH,_,Y,?_];rfl';refine#[_,_,ks,Y,hG.same S,hB,hn,ah,bl,λu2 H2 s3 o2=>?_];have S3:=S.trans s3;refine#[_,_,_,S3 _ _ hx,T.fo,T.nU,_,Y,_,_,_,S3 _ _ hx,T.fo,T.qH,_,Y,?_];rfl';refine#[_,_,ks,Y,hG.same S3,hB,hn,ah,bh,λu3 H3 s4 o3=>?_];have S4:=S3.trans s4;have o2:=o2.same s4;generalize gg ks (r-er)=lo at q1 o2;generalize gh ks (r-er)=sT at o2;generalize gh ks (r+er)=hi at q1 o3;generalize gg ks (r+er)=sS at o3;have fin:∀ (a b:En),lo=a->hi=b->2<=TB/\∀ (p:Td),H3 p=J->Q (.ref p) (upd H3 p (.tup [ev a,ev b])):=λa b e1 e2=>#[aU,λp hp=>q1 _ _ (S4.trans (av hp)) #[p,Y,by rw[ao,e1,e2]]]
 rfl';rcases o2 with ⟨rfl,el,y⟩|⟨t2,b2,dX,p2,c2,el,y⟩
 .rfl';rcases o3 with ⟨rfl,y,eh⟩|⟨t3,b3,qM,p3,c3,y,eh⟩
  .rfl';exact fin _ _ el eh
  .obtain⟨a3,rfl,h3⟩:=id qM;rfl';exact#[_,_,_,Y,qM.p,by lia,c3.up (by decide),fin _ _ el eh]
 .obtain⟨a2,rfl,h2⟩:=id dX;rfl';refine#[_,_,_,Y,dX.p,by lia,c2.up (by decide),?_];rcases o3 with ⟨rfl,y,eh⟩|⟨t3,b3,qM,p3,c3,y,eh⟩
  .rfl';exact fin _ _ el eh
  .obtain⟨a3,rfl,h3⟩:=id qM;rfl';exact#[_,_,_,Y,qM.p,by lia,c3.up (by decide),fin _ _ el eh]
theorem PY(T:Tx K mg):qK K T.bj T.dg.a T.cS.a:=#[T.fo,T.tW,T.tX,T.Oq,T.EH]
inductive PZ(K:SV)(C G9q X:Td)(vs:List V)(H:Hp)(Q:VK)(E:XK):Prop
 | mk(v:V)(d1 d2 s er:Int)(ks:List P2)(a:Td)(rs:List En)(_:vs=[v,.ref a])(_:nv C G9q H v d1 d2 s er ks)(_:BQ ks)(_:ks.length<=1000)(_:mY ks)(_:1<=d2)(_:Bd 300 d1)(_:Bd 300 d2)(_:Bd 300 s)(_:Bd 240 er)(_:ak K H a (rs.map ev))(_:(∀ n,O n∈rs->Bd 240 n))(_:rs.length<=100)(_:((∀ r∈rs,nu ks r)->∀ l ys H',aj H H'->H l=J->H' l=O (.lst ys)->aq (aH H') ys (cK (cf d1 d2 s) 0 (rs.map (lF ks er)))->Q (.ref l) H'))(_:((∃ r∈rs,¬ nu ks r)->∀ H',aj H H'->E (.ref X) J H'))
theorem P4(T:Tx K mg):Om P w mg base 9 T.ko (PZ K T.bj T.cT T.bg):=by
 refine hV yY ?_;rintro u u u s H u Q u hr ⟨v,d1,d2,s,er,ks,a,rs,rfl,hE,hB,hn,ah,h2,b1,b2,bs,ber,hS,br,hl,q1,q0⟩;refine#[_,(ar (aD (c7 (aa 0) T.fo T.EH (zu T) hr.m T.cS.b .nil cW (ae (LW (cO [0] ["self"]) Y (kL (aa 1)) (λC s2 H2 ex pn bk=>#[k6,(kI (j9 (aa 0)) ck (c7 (aa 1) T.fo T.Ou (PX T) hr.m T.kn.b .nil (LJ Y Y LG bk) (ae (aa 0) ai)))])) ai)))),?_];obtain⟨x,dx,w,gv,rfl,hx,hw,hG⟩:=id hE;rfl';refine#[_,_,hx,Y,#[_,hS],mV oZ (TL (by rw[Tn];exact hl:_<=100) (by decide)) (De (R:=λ_ x (r:En)=>x=ev r) (R':=λH y (w:W2)=>aH H y w) (f:=lF ks er) (good:=nu ks) (bs:=[]) (λu u u u u r=>r) (λu u u u s r=>aH.same r s) (Dl rs) trivial (λH' s'=>s'.seq hS) (λy r u H' s' e Q h=>?_) (λy r fP H' s' e hg Q h=>?_) (λy r fP H' s' e hg Q=>?_) λoJ H' zs s' hz=>?_)]
 .rfl';exact h
 .subst e;rcases r with u|n
  .rfl';exact h _ _ (aj.refl _) rfl
  .rfl';exact#[_,_,s' _ _ hx,Y,_,n,d1,d2,s,er,ks,Y,hE.same s',hB,hn,ah,br n fP,ber,λu v H2 s2 hv=>h _ _ s2 hv,λz=>absurd (Dm.mp hg) z]
 .subst e;rcases r with u|n
  .exact absurd good_none hg
  .rfl';exact#[_,_,s' _ _ hx,Y,_,n,d1,d2,s,er,ks,Y,hE.same s',hB,hn,ah,br n fP,ber,λz=>absurd (Dm.mpr z) hg,λu H2 s2=>q0 #[_,fP,hg] _ (s'.trans s2)]
 rw[Ts] at hz;intro l jD;have s2:=s'.trans (av (o:=.lst zs) jD);have P5:=hz.imp λx a r=>aH.same r (av (o:=.lst zs) jD);obtain⟨x',SF,w',SG,e1,aN,pH,u⟩:=hE.same s2;cases e1;refine#[T.bj,_,d1,d2,s,l,zs,_,Y,PY T,#[x,_,_,w',Y,aN,Y,pH,Y,Y,Y,Y],h2,b1,b2,bs,ak.of ao,P5,by rw[Tn];exact hl,λl3 ys H3 s3 n3 L3 hY=>q1 oJ l3 ys H3 (s2.trans s3) (s2.free n3) L3 hY]
def fR(e t u d m:Int):Prop:=(1<=e/\e<=7)/\(1<=t/\t<=12)/\0<=u/\0<=d/\0<=m/\m<=e
noncomputable def zA(e t u d m:Int)(p:Td):List (Str × V):=[("eyes",.int e),("turns",.int t),("up",.int u),("down",.int d),("most",.int m),("told",.ref p)]
inductive P6(B C:Td)(vs:List V)(H:Hp)(Q:VK)(E:XK):Prop
 | mk(x dx:Td)(e t u d m:Int)(_:vs=[.ref x,.int e,.int t,.int u,.int d,.int m])(_:H x=O (.ins B dx []))(_:(¬ fR e t u d m->E (.ref C) J H))(_:(fR e t u d m->∀ p H',H p=J->SameBut x H H'->H' x=O (.ins B dx (zA e t u d m p))->H' p=O (.dT [])->Q .non H'))
theorem P7(T:Tx K mg):Om P w mg base 1 T.lY (P6 T.aB T.ku):=by
 refine hV yy ?_;rintro y y y y H y y E y ⟨x,dx,e,t,u,d,m,rfl,hx,q0,q⟩;refine#[_,(au (aM (PW.pt (i3 (d0 (xj jQ jQ ag (aa 1) (C6 T.OD Y))) (mB (d0 (xj jQ jQ ag (aa 2) (C6 T.OE Y)))))) (ar (iH iI Y T.zd T.qI Y (ae iB ai))) aS) (au (aM (PW.pt (i3 (nH (aa 3) ag) (mB (nH (aa 4) ag)))) (ar (iH iI Y T.zd T.qI Y (ae iB ai))) aS) (au (aM (d0 (xj jQ jQ ag (aa 5) (aa 1))) (ar (iH iI Y T.zd T.qI Y (ae iB ai))) aS) (au (fk (aa 0) (aa 1) Y) (au (fk (aa 0) (aa 2) Y) (au (fk (aa 0) (aa 3) Y) (au (fk (aa 0) (aa 4) Y) (au (fk (aa 0) (aa 5) Y) (ar (fk (aa 0) C5 Y)))))))))),?_];have no:∀ D G,¬ fR e t u d m->∀ x,BH T.ku E (uT (tC (.str x)) rn) D G H:=λD G z x=>#[by show 1<=TB;decide,q0 z]
 refine bf (λG H1=>G=[O (.ref x),O (.int e),O (.int t),O (.int u),O (.int d),O (.int m)]/\H=H1/\(1<=e/\e<=7)/\1<=t/\t<=12) (λN hN=>?_) ?_
 .rfl';exact dS (λh1=>dS (λh2=>dS (λh3=>dS (λh4=>hN _ _ #[Y,Y,#[h1,h2],h3,h4]) λh4=>no _ _ (λz=>by unfold fR at z;lia) _) λh3=>no _ _ (λz=>by unfold fR at z;lia) _) λh2=>no _ _ (λz=>by unfold fR at z;lia) _) λh1=>no _ _ (λz=>by unfold fR at z;lia) _
 rintro y yR G y ⟨rfl,rfl,e1,t1⟩;subst yR;refine bf (λG H1=>G=[O (.ref x),O (.int e),O (.int t),O (.int u),O (.int d),O (.int m)]/\H=H1/\0<=u/\0<=d) (λN hN=>?_) ?_
 .rfl';exact dS (λh5=>no _ _ (λz=>by unfold fR at z;lia) _) λh5=>dS (λh6=>no _ _ (λz=>by unfold fR at z;lia) _) λh6=>hN _ _ #[Y,Y,by lia,by lia]
 rintro y yR G y ⟨rfl,rfl,u1,d1⟩;subst yR;refine bf (λG H1=>G=[O (.ref x),O (.int e),O (.int t),O (.int u),O (.int d),O (.int m)]/\H=H1/\0<=m/\m<=e) (λN hN=>?_) ?_
 .rfl';exact dS (λh7=>dS (λh8=>hN _ _ #[Y,Y,h7,h8]) λh8=>no _ _ (λz=>by unfold fR at z;lia) _) λh7=>no _ _ (λz=>by unfold fR at z;lia) _
 rintro y yR G y ⟨rfl,rfl,m1⟩;subst yR;replace q:=q #[e1,t1,u1,d1,m1];rfl';refine#[_,_,_,hx,T.aX,T.iU,(by show 0<1000;decide),_,_,_,ao,T.aX,T.iV,(by show 1<1000;decide),_,_,_,ao,T.aX,T.ze,(by show 2<1000;decide),_,_,_,ao,T.aX,T.zf,(by show 3<1000;decide),_,_,_,ao,T.aX,T.zg,(by show 4<1000;decide),?_];rw[ix,ix,ix,ix];intro p hp;have EY:p≠x:=λz=>by rw[z,ao] at hp;cases hp
 refine#[_,_,_,(av hp) _ _ ao,T.aX,T.jA,(by show 5<1000;decide),q p _ (by rw[az EY] at hp;exact hp) (λb o hb e=>?_) ao ?_]
 .rw[az hb];exact (av hp) _ _ (by rw[az hb];exact e)
 .rw[az EY,ao]
structure mh(B:Td)(H:Hp)(x:Td)(e t u d m:Int)(p:Td)(kvs:List (List Key × V)):Prop where
 ob:∃ dx,H x=O (.ins B dx (zA e t u d m p))
 tb:H p=O (.dT kvs)
inductive P8(B:Td)(vs:List V)(H:Hp)(Q:VK)(bo:XK):Prop
 | mk(x p:Td)(e t u d m i:Int)(kvs:List (List Key × V))(_:vs=[.ref x,.int i])(_:mh B H x e t u d m p kvs)(_:Q (.bl (decide (0<=i/\i<e))) H)
inductive P9(B:Td)(vs:List V)(H:Hp)(Q:VK)(bo:XK):Prop
 | mk(x p:Td)(e t u d m i:Int)(kvs:List (List Key × V))(_:vs=[.ref x,.int i])(_:mh B H x e t u d m p kvs)(_:Q (.bl (decide (0<=i/\i<t))) H)
theorem EZ(T:Tx K mg):Om P w mg base 1 T.jv (P8 T.aB):=by
 refine jt yz ?_;rintro y y y y y y y y y ⟨x,p,e,t,u,d,m,i,kvs,rfl,⟨⟨dx,hx⟩,hp⟩,q⟩;refine#[_,(ar (aD (Ax jQ oy ag (aa 1) (bL Y (aa 0) Y)))),?_];rfl';refine dS (λh1=>?_) λh1=>?_
 .refine#[_,_,_,hx,T.aX,T.iU,_,Y,?_];rfl';rw[show decide (0<=i/\i<e)=decide (i<e) by simp[h1]] at q;exact q
 .rw[show decide (0<=i/\i<e)=false by simp[h1]] at q;exact q
theorem Qb(T:Tx K mg):Om P w mg base 1 T.ke (P9 T.aB):=by
 refine jt yA ?_;rintro y y y y y y y y y ⟨x,p,e,t,u,d,m,i,kvs,rfl,⟨⟨dx,hx⟩,hp⟩,q⟩;refine#[_,(ar (aD (Ax jQ oy ag (aa 1) (bL Y (aa 0) Y)))),?_];rfl';refine dS (λh1=>?_) λh1=>?_
 .refine#[_,_,_,hx,T.aX,T.iV,_,Y,?_];rfl';rw[show decide (0<=i/\i<t)=decide (i<t) by simp[h1]] at q;exact q
 .rw[show decide (0<=i/\i<t)=false by simp[h1]] at q;exact q
inductive Qc(B C:Td)(vs:List V)(H:Hp)(Q:VK)(E:XK):Prop
 | mk(x p:Td)(e t u d m i j:Int)(kvs:List (List Key × V))(_:vs=[.ref x,.int i,.int j])(_:mh B H x e t u d m p kvs)(_:(¬ ((0<=i/\i<e)/\0<=j/\j<t)->E (.ref C) J H))(_:((0<=i/\i<e)/\0<=j/\j<t->Q .non H))
theorem E2(T:Tx K mg):Om P w mg base 2 T.jy (Qc T.aB T.bS):=by
 refine hV yF ?_;rintro y y y y y y y y hr ⟨x,p,e,t,u,d,m,i,j,kvs,rfl,hb,q0,q⟩;refine#[_,(ar (aM (PW.pt (i3 (d0 (eO (c7 (aa 0) T.aX T.Ex (EZ T) hr.m T.jv.b .nil cW (ae (aa 1) ai)))) (mB (d0 (eO (c7 (aa 0) T.aX T.Og (Qb T) hr.m T.ke.b .nil cW (ae (aa 2) ai))))))) (ar (iH iI Y T.nQ T.kx Y (ae iB ai))) aS)),?_];obtain⟨⟨dx,hx⟩,hp⟩:=id hb;rfl';refine#[_,_,hx,Y,x,p,e,t,u,d,m,i,kvs,Y,hb,?_];by_cases h1:0<=i/\i<e
 .rw[decide_eq_true h1];rfl';refine#[_,_,hx,Y,x,p,e,t,u,d,m,j,kvs,Y,hb,?_];by_cases h2:0<=j/\j<t
  .rw[decide_eq_true h2];rfl';exact q #[h1,h2]
  .rw[decide_eq_false h2];rfl';exact#[by decide,q0 λz=>h2 z.2]
 .rw[decide_eq_false h1];rfl';exact#[by decide,q0 λz=>h1 z.1]
inductive Qd(B C:Td)(vs:List V)(H:Hp)(Q:VK)(E:XK):Prop
 | mk(x p:Td)(e t u d m i j:Int)(kvs:List (List Key × V))(_:vs=[.ref x,.int i,.int j])(_:mh B H x e t u d m p kvs)(_:(bJ kvs (a8 i j)=J->∀ H',aj H H'->E (.ref C) J H'))(_:(∀ v,bJ kvs (a8 i j)=O v->∀ H',aj H H'->Q .non H'))
theorem Qe(T:Tx K mg):Om P w mg base 1 T.kh (Qd T.aB T.bS):=by
 refine hV yG ?_;rintro y y y y y y y y hr ⟨x,p,e,t,u,d,m,i,j,kvs,rfl,hb,q0,q⟩;refine#[_,(ar (aM (uB (Jo (jd hr) (bw (ae (aa 1) (ae (aa 2) ai))) (bL Y (aa 0) Y))) (ar (iH iI Y T.nQ T.kx Y (ae iB ai))) aS)),?_];obtain⟨⟨dx,hx⟩,hp⟩:=id hb;rfl';refine#[aU,λk hk=>#[_,_,_,(av hk) _ _ hx,T.aX,T.jA,_,Y,p,Y,bJ kvs (a8 i j),dj.t (k:=a8 i j) ((av hk) _ _ hp) ao,?_]];cases hv:bJ kvs (a8 i j) with
 | none=>exact#[by decide,q0 hv _ (av hk)]
 | some v=>exact q v hv _ (av hk)
inductive Qf(B C:Td)(vs:List V)(H:Hp)(Q:VK)(E:XK):Prop
 | mk(x p:Td)(e t u d m i j:Int)(lo hi:En)(kvs:List (List Key × V))(_:vs=[.ref x,.int i,.int j,ev lo,ev hi])(_:mh B H x e t u d m p kvs)(_:kvs.length<1000)(_:(¬ (((0<=i/\i<e)/\0<=j/\j<t)/\gb lo hi=false)->E (.ref C) J H))(_:(((0<=i/\i<e)/\0<=j/\j<t)/\gb lo hi=false->∀ v H',SameBut p H H'->H' p=O (.dT (putK kvs (a8 i j) v))->aO H' v lo hi->Q .non H'))
theorem E3(T:Tx K mg):Om P w mg base 3 T.jw (Qf T.aB T.bS):=by
 refine hV yB ?_;rintro c c c c c c c c hr ⟨x,p,e,t,u,d,m,i,j,lo,hi,kvs,rfl,hb,hl,q0,q⟩;refine#[_,(au (dC (c7 (aa 0) T.aX T.EA (E2 T) hr.m T.jy.b .nil gM (ae (aa 1) (ae (aa 2) ai)))) (au (aM (eO (aP (OW T) hr (ae (aa 3) (ae (aa 4) ai)))) (ar (iH iI Y T.nQ T.kx Y (ae iB ai))) aS) (ar (vn (jd hr) (bL Y (aa 0) Y) (bw (ae (aa 1) (ae (aa 2) ai))) (bw (ae (aa 3) (ae (aa 4) ai))) Y)))),?_];obtain⟨⟨dx,hx⟩,hp⟩:=id hb;rfl';refine#[_,_,hx,Y,x,p,e,t,u,d,m,i,j,kvs,Y,hb,λz=>q0 λy=>z y.1,λbO=>?_];refine#[lo,hi,Y,?_];cases hc:gb lo hi with
 | true =>
  rfl';exact#[by decide,q0 λz=>by rw[hc] at z;cases z.2]
 | false =>
  rfl';refine#[aU,λv hv=>#[_,_,_,(av hv) _ _ hx,T.aX,T.jA,_,Y,aU,λk hk=>?_]];have s2:=(av (o:=.tup [ev lo,ev hi]) hv).trans (av (o:=.tup [.int i,.int j]) hk);refine#[p,Y,_,je.t (k:=a8 i j) (s2 _ _ hp) ao (abV hl (by decide)),q #[bO,hc] (.ref v) _ (λb o f9 e=>?_) ao #[v,Y,?_]]
  .rw[az f9];exact s2 _ _ e
  .have vp:v≠p:=λz=>by rw[z] at hv;rw[hp] at hv;cases hv
   rw[az vp];exact (av hk) _ _ ao
inductive Qg(B C:Td)(vs:List V)(H:Hp)(Q:VK)(E:XK):Prop
 | mk(x p:Td)(e t u d m i j:Int)(kvs:List (List Key × V))(_:vs=[.ref x,.int i,.int j])(_:mh B H x e t u d m p kvs)(_:(¬ ((0<=i/\i<e)/\0<=j/\j<t)->E (.ref C) J H))(_:((0<=i/\i<e)/\0<=j/\j<t->∀ H',aj H H'->Q ((bJ kvs (a8 i j)).getD .non) H'))
theorem Qh(T:Tx K mg):Om P w mg base 3 T.kg (Qg T.aB T.bS):=by refine hV yD ?_;rintro y y y y y y y y hr ⟨x,p,e,t,u,d,m,i,j,kvs,rfl,hb,q0,q⟩;refine#[_,(au (dC (c7 (aa 0) T.aX T.EA (E2 T) hr.m T.jy.b .nil gM (ae (aa 1) (ae (aa 2) ai)))) (ar (aD (Jr (jd hr) (bL Y (aa 0) Y) (bw (ae (aa 1) (ae (aa 2) ai))) #[Y,Y,Y,Y])))),?_];obtain⟨⟨dx,hx⟩,hp⟩:=id hb;rfl';refine#[_,_,hx,Y,x,p,e,t,u,d,m,i,j,kvs,Y,hb,q0,λbO=>?_];rfl';exact#[_,_,_,hx,T.aX,T.jA,_,Y,p,Y,.inr #[kvs,.inl hp],aU,λk hk=>#[_,dj.t (k:=a8 i j) ((av hk) _ _ hp) ao,q bO _ (av hk)]]
structure cE(B:Td)(H:Hp)(x:Td)(e t u d m:Int)(p:Td)(tb:Tb):Prop where
 ob:∃ dx,H x=O (.ins B dx (zA e t u d m p))
 tb:TabAt H p tb
theorem cE.same{B:Td}{H H':Hp}{x p:Td}{e t u d m:Int}{tb:Tb}(h:cE B H x e t u d m p tb)(s:aj H H'):cE B H' x e t u d m p tb:=let ⟨⟨dx,a⟩,b⟩:=h;#[#[dx,s _ _ a],b.same s]
theorem cE.but{B:Td}{H H':Hp}{x p:Td}{e t u d m:Int}{tb:Tb}{ps:List Td}(h:cE B H x e t u d m p tb)(s:fG ps H H')(c:sN H ps)(hp:p∉ps):cE B H' x e t u d m p tb:=let ⟨⟨dx,a⟩,b⟩:=h;#[#[dx,s.fr c _ _ (λy z=>nomatch z) a],b.but s c hp]
theorem cE.now{B:Td}{H H':Hp}{x p:Td}{e t u d m:Int}{tb bB:Tb}(h:cE B H x e t u d m p tb)(s:Fr H H')(hp:TabAt H' p bB):cE B H' x e t u d m p bB:=let ⟨⟨dx,a⟩,_⟩:=h;#[#[dx,s _ _ (λy z=>nomatch z) a],hp]
inductive Qi(B C:Td)(vs:List V)(H:Hp)(Q:VK)(E:XK):Prop
 | mk(x p:Td)(e t u d m i j:Int)(kvs:List (List Key × V))(_:vs=[.ref x,.int i,.int j])(_:mh B H x e t u d m p kvs)(_:(bJ kvs (a8 i j)=J->∀ H',aj H H'->E (.ref C) J H'))(_:(∀ v,bJ kvs (a8 i j)=O v->∀ H',SameBut p H H'->H' p=O (.dT (iG kvs (a8 i j)))->Q .non H'))
theorem Qj(T:Tx K mg):Om P w mg base 2 T.kf (Qi T.aB T.bS):=by refine hV yC ?_;rintro y y y y y y y y hr ⟨x,p,e,t,u,d,m,i,j,kvs,rfl,hb,q0,q⟩;refine#[_,(au (dC (c7 (aa 0) T.aX T.Oj (Qe T) hr.m T.kh.b .nil gM (ae (aa 1) (ae (aa 2) ai)))) (ar (dC (Lw (jd hr) (bL Y (aa 0) Y) (bw (ae (aa 1) (ae (aa 2) ai))) #[Y,Y,Y,Y])))),?_];obtain⟨⟨dx,hx⟩,hp⟩:=id hb;rfl';refine#[_,_,hx,Y,x,p,e,t,u,d,m,i,j,kvs,Y,hb,q0,λv hv H1 s1=>?_];have cI:=s1 _ _ hx;have df:=s1 _ _ hp;rfl';refine#[_,_,_,cI,T.aX,T.jA,_,Y,p,Y,.inr #[kvs,.inl df],aU,λk hk=>?_];refine#[kvs,(av hk) _ _ df,a8 i j,ao,v,hv,q v hv _ (λb o f9 e=>?_) ao];rw[az f9];exact (av hk) _ _ (s1 _ _ e)
inductive Qk(B:Td)(vs:List V)(H:Hp)(Q:VK)(bo:XK):Prop
 | mk(x p:Td)(e t u d m:Int)(tb:Tb)(_:vs=[.ref x])(_:cE B H x e t u d m p tb)(_:(tb.map (·.1)).Nodup)(_:tb.length<128)(_:∀ l xs H',aj H H'->H l=J->H' l=O (.lst xs)->aq (dH H') xs (j7 tb)->Q (.ref l) H')
theorem E4(T:Tx K mg):Om P w mg base 1 T.jx (Qk T.aB):=by
 refine jt yE ?_;rintro v v v s H v Q v hr ⟨x,p,e,t,u,d,m,tb,rfl,⟨⟨dx,hx⟩,kvs,hp,hT⟩,hn,gZ,q⟩;refine#[_,(ar (aD (B3 (cO [0] ["self"]) Y (kL (dD (MR Y) (by rfl) T.Et BC (ae (bL Y (aa 0) Y) ai))) (λC s2 H2 ex pn=>#[k6,(bw (ae (nJ (K:=K) (aa 0) ag) (ae (nJ (K:=K) (aa 0) ag) (ae (Dp (jd hr) (bL (K:=K) Y (aa 1) Y) (aa 0) (λv v=>rfl)) ai))))])))),?_];rfl';refine#[_,_,_,hx,T.aX,T.jA,_,Y,p,Y,kvs,hp,fH tb,L6 hT,L7,by rw[hT.len];exact gZ,λl ys hl hk=>?_];have PS:=DN hT hk gZ;have s1:=av (o:=.lst (cD (fH tb) .non ys)) hl;have L1:upd H l (.lst (cD (fH tb) .non ys)) l=O (.lst (cD (fH tb) .non ys)):=ao;generalize upd H l (.lst (cD (fH tb) .non ys))=H1 at s1 L1 ⊢;refine#[#[_,ak.of L1],mV oZ (TL (by rw[PS.len,DK];exact UN gZ:_<=128) (by decide)) (sj (R:=λH x (r:P2 × S2)=>bQ H x r.1) (R':=λH y (r:P2 × S2)=>dH H y r) (f:=λr=>r) (bs:=[]) (λv v v v s r=>bQ.same r s) (λv v v v s r=>dH.same r s) (PS.imp λx r z=>bQ.same z s1) trivial (λH' s'=>ak.of (s' _ _ L1)) (λx r v H' s' fP Q h=>?_) (λx r fP H' s' h0 Q h=>?_) λH2 zs s2 hz=>?_)]
 .rfl';exact h
 .obtain⟨a,rfl,ha⟩:=id h0;have S:=s1.trans s';have Ql:=hT.imp λv a b z=>aO.same z S;obtain⟨w,hw,iw⟩:=(Ql.val r.1).2 _ (Dq hn (tD fP));rfl';refine aV (aC.of ha) Y (aV (aC.of ha) Y #[_,_,_,S _ _ hx,T.aX,T.jA,_,Y,p,Y,w,?_,?_])
  .rw[<- hw];exact dj.t (k:=a8 r.1.1 r.1.2) (S _ _ hp) ha
  .exact#[by decide,λz hz=>h _ _ (av hz) #[z,w,Y,ao,aO.same iw (av hz)]]
 rw[Ts,aax] at hz;exact λl2 cH=>q l2 zs _ (s1.trans (s2.trans (av cH))) ((s1.trans s2).free cH) ao (hz.imp λx r z=>dH.same z (av cH))
inductive Raw where
 | p (ws:List W2)|g (rs:List En)|c (ks:List Lk)
noncomputable def KN:List P2:=[(0,0),(10,30)]
def dm(H:Hp)(a:Td):Raw->Prop
 | .p ws=>∃ xs,H a=O (.lst xs)/\aq (aH H) xs ws
 | .g rs=>H a=O (.lst (rs.map ev))
 | .c ks=>∃ xs,H a=O (.lst xs)/\aq (IsL H) xs ks
noncomputable def gy:Raw->Nat
 | .p ws=>ws.length|.g rs=>rs.length|.c ks=>ks.length
noncomputable def fq(s:Int):Raw->List W2
 | .p ws=>cK (cf 1 2 s) 0 ws
 | .g rs=>cK (cf 1 2 s) 0 (rs.map (lF KN 1))
 | .c ks=>cK (cf 1 2 s) 0 (fE 2 (-5) 5 ks)
def zB:Raw->Prop
 | .p _=>True
 | .g rs=>∀ n,O n∈rs->Bd 240 n
 | .c ks=>∀ k∈ks,pf 20 k
def goodW:Raw->Prop
 | .g rs=>∀ r∈rs,Gz.nu KN r
 | _=>True
def kz(T:Tx K mg)(H:Hp)(v:V)(s:Int):Raw->Prop
 | .p _=>jC T.b8 H v 1 2 s
 | .g _=>nv T.bj T.cT H v 1 2 s 1 KN
 | .c _=>∃ d,mf T.bG H v d 1 2 s (2:Nat) (-5) 5
theorem lC(s:Int)(r:Raw):(fq s r).length=gy r:=by
 cases r with
 | p ws=>exact pb ..
 | g rs=>exact (pb ..).trans (Tn _)
 | c ks=>exact (pb ..).trans (by unfold fE;rw[Tn,Vw];rfl)
theorem Qm{H:Hp}{a:Td}{r:Raw}(h:dm H a r):∃ xs,H a=O (.lst xs)/\xs.length=gy r:=by
 cases r with
 | p ws=>obtain⟨xs,e,h⟩:=h;exact#[xs,e,h.len]
 | g rs=>exact#[_,h,Tn _]
 | c ks=>obtain⟨xs,e,h⟩:=h;exact#[xs,e,h.len]
noncomputable def qN(tb:Tb)(i k:Int)(w:W2):Tb:=match w with|some s=>fh tb (i,k) s|none=>cM tb (i,k)
noncomputable def ip(tb:Tb)(i:Int)(ws:List W2)(n:Nat):Tb:=(List.range n).foldl (λt (k:Nat)=>qN t i (k:Int) (ws.getD k J)) tb
theorem zC(tb:Tb)(i:Int)(ws:List W2)(n:Nat):ip tb i ws (n+1)=qN (ip tb i ws n) i (n:Int) (ws.getD n J):=by unfold ip;rw[Zg,Yy];rfl
theorem ud{e t:Int}{tb:Tb}{i:Int}{ws:List W2}(h:cC e t tb)(hi:0<=i/\i<e):∀ n:Nat,(n:Int)<=t->cC e t (ip tb i ws n)
 | 0,_=>h
 | n+1,hn=>by
  rw[zC];have ih:=ud h hi (ws:=ws) n (by lia);unfold qN;cases ws.getD n J with
  | none=>exact ih.drop
  | some s=>exact ih.put #[hi,by show (0:Int)<=n;lia,by show (n:Int)<t;lia]
theorem E5{tb:Tb}{s:P2}(h:dU tb s=J):cM tb s=tb:=by unfold cM;refine WN.mpr λr hr=>?_;refine decide_eq_true λe=>?_;unfold dU at h;rw[Option.map_eq_none_iff,List.find?_eq_none] at h;exact h r hr (decide_eq_true e)
theorem ue{n:Int}(h:n.natAbs<2 ^ 8):Bd 300 n:=Tu h (VR (by decide) (by decide))
theorem E6{n:Int}(h:n.natAbs<2 ^ 8):Bd 250 n:=Tu h (VR (by decide) (by decide))
theorem zD{n:Int}(h:n.natAbs<2 ^ 8):Bd 240 n:=Tu h (VR (by decide) (by decide))
inductive E7(T:Tx K mg)(H:Hp)(σ0:St)(x p l:Td)(i e t u d m:Int)(tb:Tb)(ws:List W2)(ys:List V)(n:Nat)(G:St)(H1:Hp):Prop
 | mk(e1 e2:Option V)(_:G=(σ0.set 5 e1).set 6 e2)(_:SameBut p H H1)(_:H1 l=O (.lst ys))(_:aq (aH H1) ys ws)(_:cE T.aB H1 x e t u d m p (ip tb i ws n))
inductive Qn(T:Tx K mg)(vs:List V)(H:Hp)(Q:VK)(E:XK):Prop
 | mk(x p a:Td)(sv:V)(i e t u d m s:Int)(tb:Tb)(r:Raw)(_:vs=[.ref x,.int i,sv,.ref a])(_:cE T.aB H x e t u d m p tb)(_:(1<=e/\e<=7))(_:(1<=t/\t<=12))(_:cC e t tb)(_:dm H a r)(_:zB r)(_:gy r<=100)(_:kz T H sv s r)(_:Bd 300 s)(_:(goodW r->∀ z,O z∈fq s r->gb z.1 z.2=false))(_:(¬ ((0<=i/\i<e)/\(gy r:Int)<=t)->E (.ref T.bS) J H))(_:((0<=i/\i<e)/\(gy r:Int)<=t->¬ goodW r->∀ H',aj H H'->E (.ref T.bg) J H'))(_:((0<=i/\i<e)/\(gy r:Int)<=t->goodW r->∀ H',SameBut p H H'->cE T.aB H' x e t u d m p (ip tb i (fq s r) (gy r))->Q .non H'))
theorem E8(T:Tx K mg):Ok P w base 10 T.ie (Qn T):=by
 refine tJ nM ?_;rintro j j j s H j j j hr ⟨x,p,a,sv,i,e,t,u,d,m,s,tb,r,rfl,hB,he,ht,hot,hR,ah,qO,dY,bs,hcr,q0,q1,q⟩;refine#[_,(au (aM (PW.pt (i3 (d0 (eO (c7 (aa 0) T.aX T.Ex (EZ T) hr.m T.jv.b .nil cW (ae (aa 1) ai)))) (mB (D0 (dD mH (by rfl) T.nP mQ (ae (aa 3) ai)) (bL Y (aa 0) Y))))) (ar (iH iI Y T.nQ T.kx Y (ae iB ai))) aS) (au (aG 4 nM.nd (DP (c7 (aa 2) T.nS T.Oo (Pt T) hr.m T.km.b .nil cW (ae (aa 3) ai)) (DP (c7 (aa 2) T.fo T.Ot (P4 T) hr.m T.ko.b .nil gM (ae (aa 3) ai)) (c7 (aa 2) T.gu T.Ow (PR T) hr.m T.kq.b .nil cW (ae (aa 3) ai))))) (ar (i5 YB Y (Cb Y T.Es (ae (aa 4) ai)) (rf Y (jL (gp 5 nM.nd) (jL (gp 6 nM.nd) q8))) (ar (aM (tH (aa 6)) (ar (dC (c7 (aa 0) T.aX T.Ey (E3 T) hr.m T.jw.b .nil gM (ae (aa 1) (ae (aa 5) (ae (aF (aa 6) ag) (ae (aF (aa 6) ag) ai))))))) (ar (aM (tH (c7 (aa 0) T.aX T.Oi (Qh T) hr.m T.kg.b .nil gM (ae (aa 1) (ae (aa 5) ai)))) (ar (dC (c7 (aa 0) T.aX T.Oh (Qj T) hr.m T.kf.b .nil gM (ae (aa 1) (ae (aa 5) ai))))) aS)))))))),?_];obtain⟨⟨dx,hx⟩,kvs,hk,hA⟩:=id hB;obtain⟨rx,hrx,rxl⟩:=Qm hR;refine bf (λG H1=>G=[O (.ref x),O (.int i),O sv,O (.ref a),J,J,J]/\H=H1/\(0<=i/\i<e)/\(gy r:Int)<=t) (λN hN=>?_) ?_
 .rfl';refine#[_,_,hx,Y,x,p,e,t,u,d,m,i,kvs,Y,#[#[dx,hx],hk],?_];by_cases bO:0<=i/\i<e
  .rw[decide_eq_true bO];rfl';refine#[_,mS (ak.of hrx),_,_,_,hx,T.aX,T.iV,_,Y,?_];rw[rxl];rfl';exact dS (λz=>#[by decide,q0 λy=>by lia]) λz=>hN _ _ #[Y,Y,bO,by lia]
  .rw[decide_eq_false bO];rfl';exact#[by decide,q0 λy=>bO y.1]
 rintro j yR G j ⟨rfl,rfl,bO,aQ⟩;subst yR;replace q:=q #[bO,aQ];replace q1:=q1 #[bO,aQ];refine bf (λG H1=>∃ l ys,G=[O (.ref x),O (.int i),O sv,O (.ref a),O (.ref l),J,J]/\aj H H1/\H l=J/\H1 l=O (.lst ys)/\aq (aH H1) ys (fq s r)/\goodW r) (λN hN=>?_) ?_
 .rfl';have b1:Bd 300 1:=ue (by decide);have b2:Bd 300 2:=ue (by decide);cases r with
  | p ws =>
   obtain⟨xs,qP,hW⟩:=hR;obtain⟨ex,edx,efs,ew,rfl,e2,e3,e4,e5,e6,e7,e8⟩:=id dY;exact .inl #[ex,Y,_,_,e2,e8,_,1,2,s,a,xs,ws,Y,dY,by decide,b1,b2,bs,ak.of qP,hW,qO,λl ys H1 s1 fl hl hY=>hN _ _ #[l,ys,Y,s1,fl,hl,hY,trivial]]
  | g rs =>
   obtain⟨ex,edx,ew,egv,rfl,e2,e3,e4⟩:=id dY;refine .inr (.inl #[ex,Y,_,_,e2,Y,_,1,2,s,1,KN,a,rs,Y,dY,?_,by decide,#[by decide,by decide,by decide],by decide,b1,b2,bs,zD (by decide),ak.of hR,ah,qO,λhg l ys H1 s1 fl hl hY=>hN _ _ #[l,ys,Y,s1,fl,hl,hY,hg],λhb=>q1 λhg=>?_])
   .intro z hz;simp only[KN,Tz,Xt,or_false] at hz;rcases hz with rfl|rfl<;>exact#[E6 (by decide),E6 (by decide)]
   .obtain⟨z,hz,hn⟩:=hb;exact hn (hg z hz)
  | c ks =>
   obtain⟨xs,qP,hW⟩:=hR;obtain⟨dd,hC⟩:=dY;obtain⟨ex,edx,rfl,e2,e3⟩:=id hC;exact .inr (.inr #[ex,Y,_,_,e2,Y,_,dd,1,2,s,-5,5,2,a,xs,ks,Y,hC,by decide,b1,b2,bs,ak.of qP,hW,ah,by decide,qO,λl ys H1 s1 fl hl hY=>hN _ _ #[l,ys,Y,s1,fl,hl,hY,trivial]])
 rintro j yR G H1 ⟨l,ys,rfl,s1,fl,hl,hY,hg⟩;subst yR;have ol:=lC s r;have yl:=hY.len;have lp:l≠p:=λz=>by rw[z,hk] at fl;cases fl
 replace hcr:=hcr hg;generalize hws:fq s r=ws at *;rfl';refine#[#[_,ak.of hl],Ce (xs:=ys) (E7 T H [O (.ref x),O (.int i),O sv,O (.ref a),O (.ref l),J,J] x p l i e t u d m tb ws ys) #[_,_,Y,λz o j h=>s1 _ _ h,hl,hY,hB.same s1] ?_ ?_ ?_]
 .rintro n G H2 j ⟨j,j,j,j,h,j,j⟩;exact ak.of h
 .rintro n v G H2 p2 hv ⟨e1,e2,rfl,sb,cH,nY,iQ⟩ c8;obtain⟨w,hw,iw⟩:=nY.get hv;have SH:n<ws.length:=(Ug.mp hw).1;have nt:(n:Int)<t:=by lia
  have gw:ws.getD n J=w:=by rw[S8,hw];rfl
  have jE:=ud (ws:=ws) hot bO n (by lia);have E9:pB e t (i,(n:Int)):=#[bO,by show (0:Int)<=n;lia,nt]
  have s3:=av (o:=.tup [.int n,v]) c8;refine r9 (aC.of ao) ?_;have fQ:=s3 _ _ cH;have qL:=nY.imp λj j r=>aH.same r s3;have zE:=aH.same iw s3;have iX:=iQ.same s3;have Fc:SameBut p H (upd H2 p2 (.tup [.int n,v])):=λz o hz h=>s3 _ _ (sb _ _ hz h);generalize upd H2 p2 (.tup [.int n,v])=H3 at fQ qL zE iX Fc ⊢;clear s3 c8 iQ nY cH iw sb;obtain⟨⟨qQ,iq⟩,mi,ir,jF⟩:=id iX;have tl:=pZ jE (by lia) (by lia);have et:e * t<=7 * 12:=ZJ he.2 ht.2 (by lia) (by decide);have kl:=jF.len;have fin:∀ H4 zF,SameBut p H3 H4->TabAt H4 p zF->qN (ip tb i ws n) i n w=zF->E7 T H [O (.ref x),O (.int i),O sv,O (.ref a),O (.ref l),J,J] x p l i e t u d m tb ws ys (n+1) [O (.ref x),O (.int i),O sv,O (.ref a),O (.ref l),O (.int n),O v] H4:=λH4 zF s4 h4 e4=>by
   have F:Fr H3 H4:=SameBut.fr s4 ir;refine#[_,_,Y,λz o hz h=>s4 _ _ hz (Fc _ _ hz h),s4 _ _ lp fQ,qL.imp λv w r=>?_,by rw[zC,gw,e4];exact iX.now F h4];cases w with
   | none=>exact r
   | some z=>exact aO.fr r F
  cases w with
  | some z =>
   obtain⟨pz,rfl,hpz⟩:=id zE;rfl';refine#[_,_,iq,Y,aV (aC.of hpz) (v:=ev z.1) Y (aV (aC.of hpz) (v:=ev z.2) Y ?_)];refine#[x,p,e,t,u,d,m,i,n,z.1,z.2,mi,Y,#[#[qQ,iq],ir],by lia,λy=>absurd #[E9,hcr z (Ui hw)] y,λj vv H4 s4 h4 iv=>fin _ _ s4 #[_,h4,aK.put (s:=(i,(n:Int))) (w:=z) (jF.imp λv a b y=>y.fr (SameBut.fr s4 ir)) iv] Y]
  | none =>
   obtain rfl:v = .non:=zE;rfl';refine#[_,_,iq,Y,x,p,e,t,u,d,m,i,n,mi,Y,#[#[qQ,iq],ir],λy=>absurd E9 y,λj H4 s4=>?_];cases kA:dU (ip tb i ws n) (i,(n:Int)) with
   | none =>
    rw[show bJ mi (a8 i (n:Int))=J from (jF.val (i,(n:Int))).1 kA];exact fin _ _ (λz o j h=>s4 _ _ h) #[_,s4 _ _ ir,jF.imp λv a b y=>y.same s4] (E5 kA)
   | some z =>
    obtain⟨vv,hvv,va,rfl,hva⟩:=(jF.val (i,(n:Int))).2 _ kA;rw[show bJ mi (a8 i (n:Int))=O (.ref va) from hvv];rfl';have Qo:=jF.imp λv a b y=>aO.same y s4;refine#[_,_,s4 _ _ iq,Y,x,p,e,t,u,d,m,i,n,mi,Y,#[#[qQ,s4 _ _ iq],s4 _ _ ir],λy=>absurd (hvv.symm.trans y) (λz=>nomatch z),λj j H5 Fd h5=>fin _ _ (λz o hz h=>Fd _ _ hz (s4 _ _ h)) #[_,h5,aK.drop (s:=(i,(n:Int))) (Qo.imp λv a b y=>y.fr (SameBut.fr Fd (s4 _ _ ir)))] Y]
 .rintro G H2 ⟨e1,e2,rfl,sb,cH,nY,iQ⟩;rfl';rw[yl,ol] at iQ;exact q hg _ sb iQ
inductive Fe(T:Tx K mg)(vs:List V)(H:Hp)(Q:VK)(bo:XK):Prop
 | mk(x p a:Td)(sv:V)(i e t u d m s:Int)(tb:Tb)(r:Raw)(off:Bool)(_:vs=[.ref x,.int i,sv,.ref a,.bl off])(_:cE T.aB H x e t u d m p tb)(_:(1<=e/\e<=7))(_:(1<=t/\t<=12))(_:cC e t tb)(_:dm H a r)(_:zB r)(_:gy r<=100)(_:kz T H sv s r)(_:Bd 300 s)(_:(goodW r->∀ z,O z∈fq s r->gb z.1 z.2=false))(_:((off=false/\¬ ((0<=i/\i<e)/\(gy r:Int)<=t))∨(off=true/\((0<=i/\i<e)/\(gy r:Int)<=t)/\¬ goodW r)))(_:∀ H',aj H H'->Q (.bl true) H')
theorem nZ(T:Tx K mg):Ok P w base 11 T.qD (Fe T):=by
 refine b7 lX ?_;rintro c A c s H c c c hr ⟨x,p,a,sv,i,e,t,u,d,m,s,tb,r,off,rfl,hB,he,ht,hot,hR,ah,qO,dY,bs,hcr,qR,q⟩;refine#[_,(au (aG 5 lX.nd dN) (au (NY (λcls c H1=>aj H H1/\((cls = .ref T.bS/\off=false)∨(cls = .ref T.bg/\off=true))) 6 Y Y Y T.N8 lX.nd Y Y (λF pn=>N2 (E8 T) hr.m Y T.ie.m T.ie.F.kp T.ie.b .nil (ae (aa 0) (ae (aa 1) (ae (aa 2) (ae (aa 3) ai))))) (λA' pn=>(au (aG 5 lX.nd (nI (dD (rP (K:=K) Y) (by rfl) T.tP rN (ae (aa 6) (ae (mz (v:=.ref T.bS) Y T.nQ Y) ai))) (oi (tI (dD (rP (K:=K) Y) (by rfl) T.tP rN (ae (aa 6) (ae (mz (v:=.ref T.bg) Y T.tS Y) ai))))))) (ar (aM (eO (aa 4)) (ar (aG 5 lX.nd (nI (dD (rP (K:=K) Y) (by rfl) T.tP rN (ae (aa 6) (ae (mz (v:=.ref T.bg) Y T.tS Y) ai))) (oi (tI (dD (rP (K:=K) Y) (by rfl) T.tP rN (ae (aa 6) (ae (mz (v:=.ref T.bS) Y T.nQ Y) ai)))))))) aS))))) (ar (aD (aa 5))))),?_];rfl';refine#[?_,?_]
 .rfl';refine#[x,p,a,sv,i,e,t,u,d,m,s,tb,r,Y,hB,he,ht,hot,hR,ah,qO,dY,bs,hcr,λz=>#[aj.refl _,.inl #[Y,?_]],λz1 z2 H' s'=>#[s',.inr #[Y,?_]],λz1 z2=>?_]
  .rcases qR with y|y
   .exact y.1
   .exact absurd y.2.1 z
  .rcases qR with y|y
   .exact absurd z1 y.2
   .exact y.1
  .rcases qR with y|y
   .exact absurd z1 y.2
   .exact absurd z2 y.2.2
 .rintro cls H' ⟨hs,⟨rfl,rfl⟩|⟨rfl,rfl⟩⟩
  .refine#[_,Y,T.Oy,λa ha=>?_];have X0:=ao (H:=H') (a:=a) (o:=fb a T.bS);have S0:=hs.trans (av (o:=fb a T.bS) ha);generalize upd H' a (fb a T.bS)=Hx at X0 S0 ⊢;rfl';refine oM X0 T.kx (λz=>nomatch z) T.OB ?_;rfl';refine oM X0 T.kx (λz=>nomatch z) T.OC ?_;rfl';exact q _ S0
  .refine#[_,Y,T.Ox,λa ha=>?_];have X0:=ao (H:=H') (a:=a) (o:=fb a T.bg);have S0:=hs.trans (av (o:=fb a T.bg) ha);generalize upd H' a (fb a T.bg)=Hx at X0 S0 ⊢;rfl';refine oM X0 T.nV (λz=>nomatch z) T.EK ?_;rfl';refine oM X0 T.nV (λz=>nomatch z) T.OA ?_;rfl';refine oM X0 T.nV (λz=>nomatch z) T.EK ?_;rfl';exact q _ S0
inductive Qp(vs:List V)(H:Hp)(Q:VK)(bo:XK):Prop
 | mk(c:Int)(_:vs=[.int c])(_:∀ n:Int,-100000000000000000000000000000000000000000000000000<=n->n<=100000000000000000000000000000000000000000000000000->Q (.int n) H)
theorem Qq(T:Tx K mg):Ok P w base 1 T.qy Qp:=by
 refine b7 y9 ?_;rintro y y y y y y y y y ⟨c,rfl,q⟩;refine#[_,(au (aM (dW (aw dq (aa 0) ag) ag) (ar (aD (aw dn (aw dq (aw eX (aa 0) ag) ag) ag))) aS) (ar (aD (aw dn (aw dq (aw eM (aw dq (aw eX (aa 0) ag) (aw mG ag ag)) (aw mG ag ag)) (aw cR (aw eM ag (aw mG ag ag)) ag)) (aw mG ag ag))))),?_];rfl';have b1:=VD (c / 3) (show (1000000000000000000000000000000:Int)≠0 by decide);have b2:=VL (c / 3) (show (0:Int)<1000000000000000000000000000000 by decide);refine dS (λy=>#[eY (by decide),q _ (by lia) (by lia)]) λy=>#[eY (by decide),#[by decide,by decide,by decide],#[by decide,by decide,by decide],rO (by lia) (by decide),#[by decide,by decide,by decide],rO (by decide) (by decide),#[by decide,by decide,by decide],q _ (by lia) (by lia)]
inductive One where
 | p (w:W2)|g (o:En)|c (k:Lk)
def bV(H:Hp)(v:V):One->Prop
 | .p w=>aH H v w
 | .g o=>v=ev o
 | .c k=>IsL H v k
noncomputable def FV:List (List Int):=[[0,0],[1,1],[0,1],[1,0,0],[0,1,1]]
inductive cQ:Nat->One->Prop
 | p0:cQ 0 (.p J)
 | p1 (lo hi:Int) (_:lo<=hi):cQ 0 (.p (O (O lo,O hi)))
 | g0:cQ 1 (.g J)
 | g1 (n:Int) (_:0<=n) (_:n<=10):cQ 1 (.g (O n))
 | c0:cQ 2 (.c J)
 | c1 (bs:List Int) (_:bs∈FV):cQ 2 (.c (O bs))
noncomputable def zG:Nat->One
 | 0=>.p J|1=>.g J|_=>.c J
theorem bV.same{H H':Hp}{v:V}{o:One}(h:bV H v o)(s:aj H H'):bV H' v o:=by
 cases o with
 | p w=>exact aH.same h s
 | g o=>exact h
 | c k=>cases k with
  | none=>exact h
  | some bs=>obtain⟨l,e,n,hl⟩:=h;exact#[l,e,n,s _ _ hl]
inductive Qr(vs:List V)(H:Hp)(Q:VK)(bo:XK):Prop
 | mk(c:Int)(so:Nat)(_:vs=[.int c,.int (so:Int)])(_:so<3)(_:∀ (v:V) (o:One) (H':Hp),aj H H'->bV H' v o->cQ so o->Q v H')
theorem Qs(T:Tx K mg):Ok P w base 2 T.qz Qr:=by
 refine b7 tN ?_;rintro y y y y y y y y hr ⟨c,so,rfl,hs,q⟩;refine#[_,(au (aM (dW (aw dq (aa 0) ag) ag) (ar (aD ck)) aS) (au (aM (dW (aa 1) ag) (au (aG 2 tN.nd (aP (Qq T) hr (ae (aw eX (aa 0) ag) ai))) (ar (aD (bw (ae (aa 2) (ae (aw cR (aa 2) (aw dq (aw eX (aa 0) ag) (aw mG ag ag))) ai)))))) aS) (au (aM (dW (aa 1) ag) (ar (aD (aw dq (aw eX (aa 0) ag) ag))) aS) (ar (aD (aF (eV (ae (eV (ae ag (ae ag ai))) (ae (eV (ae ag (ae ag ai))) (ae (eV (ae ag (ae ag ai))) (ae (eV (ae ag (ae ag (ae ag ai)))) (ae (eV (ae ag (ae ag (ae ag ai)))) ai)))))) (aw dq (aw eX (aa 0) ag) ag))))))),?_];rcases (by lia:so=0∨so=1∨so=2) with rfl|rfl|rfl
 .rfl';refine dS (λy=>q _ (.p J) _ (aj.refl _) Y .p0) λy=>?_;refine#[eY (by decide),_,Y,λn n1 n2=>#[eY (by decide),#[by decide,by decide,by decide],by decide,λr hr=>?_]];exact q _ (.p (O (O n,O _))) _ (av hr) #[r,Y,ao] (.p1 _ _ (by lia))
 .rfl';refine dS (λy=>q _ (.g J) _ (aj.refl _) Y .g0) λy=>?_;exact#[eY (by decide),q _ (.g (O _)) _ (aj.refl _) Y (.g1 _ (by lia) (by lia))]
 .rfl';refine dS (λy=>q _ (.c J) _ (aj.refl _) Y .c0) λy=>?_;refine#[aU,λp1 h1=>#[aU,λp2 h2=>#[aU,λp3 h3=>#[by decide,λp4 h4=>#[by decide,λp5 h5=>#[by decide,λp6 h6=>#[eY (by decide),?_]]]]]]];have u1:=av (o:=.lst [.int 0,.int 0]) h1;have u2:=av (o:=.lst [.int 1,.int 1]) h2;have u3:=av (o:=.lst [.int 0,.int 1]) h3;have u4:=av (o:=.lst [.int 1,.int 0,.int 0]) h4;have u5:=av (o:=.lst [.int 0,.int 1,.int 1]) h5;have u6:=av (o:=.lst [.ref p1,.ref p2,.ref p3,.ref p4,.ref p5]) h6;have U5:=u5.trans u6;have U4:=u4.trans U5;have U3:=u3.trans U4;have U2:=u2.trans U3;have U1:=u1.trans U2;rcases (by lia:c / 5 % 5=0∨c / 5 % 5=1∨c / 5 % 5=2∨c / 5 % 5=3∨c / 5 % 5=4) with e|e|e|e|e
  all_goals rw[e]
  .exact bX (ak.of ao) (v:=.ref p1) Y (q _ (.c (O [0,0])) _ U1 #[p1,Y,by simp,U2 _ _ ao] (.c1 _ (by decide)))
  .exact bX (ak.of ao) (v:=.ref p2) Y (q _ (.c (O [1,1])) _ U1 #[p2,Y,by simp,U3 _ _ ao] (.c1 _ (by decide)))
  .exact bX (ak.of ao) (v:=.ref p3) Y (q _ (.c (O [0,1])) _ U1 #[p3,Y,by simp,U4 _ _ ao] (.c1 _ (by decide)))
  .exact bX (ak.of ao) (v:=.ref p4) Y (q _ (.c (O [1,0,0])) _ U1 #[p4,Y,by simp,U5 _ _ ao] (.c1 _ (by decide)))
  .exact bX (ak.of ao) (v:=.ref p5) Y (q _ (.c (O [0,1,1])) _ U1 #[p5,Y,by simp,u6 _ _ ao] (.c1 _ (by decide)))
noncomputable def mj(n k:Int):S2:=(if 0<n then O (3 * n-3-k) else J,if n<10 then O (3 * n+3+k) else J)
inductive Qt(vs:List V)(H:Hp)(Q:VK)(bo:XK):Prop
 | mk(n k:Int)(_:vs=[.int n,.int k])(_:0<=n)(_:n<=10)(_:∀ p H',aj H H'->H' p=O (.tup [ev (mj n k).1,ev (mj n k).2])->Q (.ref p) H')
theorem Qu(T:Tx K mg):Ok P w base 1 T.qA Qt:=by
 refine b7 lW ?_;rintro y y y y y y y y y ⟨n,k,rfl,n0,n1,q⟩;refine#[_,(au (aG 2 lW.nd ck) (au (aG 3 lW.nd ck) (au (aM (D0 (aa 0) ag) (ar (aG 2 lW.nd (aw dn (aw dn (aw eM ag (aa 0)) ag) (aa 1)))) aS) (au (aM (nH (aa 0) ag) (ar (aG 3 lW.nd (aw cR (aw cR (aw eM ag (aa 0)) ag) (aa 1)))) aS) (ar (aD (bw (ae (aa 2) (ae (aa 3) ai))))))))),?_];unfold mj at q;have mb:mP 3 n:=rO (by decide) (by lia);rfl';by_cases h0:0<n<;>by_cases h1:n<10
 .rw[if_pos h0,if_pos h1];rw[if_pos h0,if_pos h1] at q;exact#[mb,mb,aU,λp hp=>q p _ (av hp) ao]
 .rw[if_pos h0,if_neg h1];rw[if_pos h0,if_neg h1] at q;exact#[mb,aU,λp hp=>q p _ (av hp) ao]
 .rw[if_neg h0,if_pos h1];rw[if_neg h0,if_pos h1] at q;exact#[mb,aU,λp hp=>q p _ (av hp) ao]
 .lia
noncomputable def pW:One->W2
 | .p w=>w|_=>J
noncomputable def gE:One->En
 | .g o=>o|_=>J
noncomputable def cL:One->Lk
 | .c k=>k|_=>J
noncomputable def rawOf(so:Nat)(os:List One):Raw:=match so with|0=>.p (os.map pW)|1=>.g (os.map gE)|_=>.c (os.map cL)
theorem uf(so:Nat)(os:List One):gy (rawOf so os)=os.length:=by unfold rawOf;split<;>exact Tn _
theorem aq.bind'{α β:Type}{R:V->α->Prop}{f:β->α}:∀ {xs:List V} {bs:List β},aq (λx b=>R x (f b)) xs bs->aq R xs (bs.map f)
 | [],[],_=>trivial
 | _::_,_::_,h=>#[h.1,aq.bind' h.2]
theorem aq.Ff{β:Type}{f:β->En}:∀ {xs:List V} {bs:List β},aq (λx b=>x=ev (f b)) xs bs->xs=(bs.map f).map ev
 | [],[],_=>rfl
 | _::_,_::_,h=>by rw[TJ,TJ,<- aq.Ff h.2,h.1]
theorem Fg{H:Hp}{a:Td}{so:Nat}{xs:List V}{os:List One}(ha:H a=O (.lst xs))(h:aq (bV H) xs os)(hk:∀ o∈os,(so=0/\∃ w,o = .p w)∨(so=1/\∃ z,o = .g z)∨(so=2/\∃ k,o = .c k)):dm H a (rawOf so os):=by
 have gen:∀ (R:V->One->Prop) (R':V->One->Prop) (xs:List V) (os:List One),aq R xs os->(∀ x,∀ o∈os,R x o->R' x o)->aq R' xs os:=λR R' xs=>by
  induction xs with
  | nil=>intro os h v;cases os with|nil=>trivial|cons _ _=>exact h.elim
  | cons x xs ih=>intro os h hm;cases os with
   | nil=>exact h.elim
   | cons o os=>exact#[hm x o (.head _) h.1,ih os h.2 λy z hz=>hm y z (.tail _ hz)]
 rcases os with v|⟨o0,os⟩
 .rcases xs with v|⟨x,xs⟩
  .unfold rawOf;split
   .exact#[[],ha,trivial]
   .exact ha
   .exact#[[],ha,trivial]
  .exact h.elim
 .have dY:so=0∨so=1∨so=2:=by rcases hk o0 (.head _) with z|z|z<;>lia
  rcases dY with rfl|rfl|rfl
  .refine#[xs,ha,aq.bind' (f:=pW) (gen _ _ _ _ h λx o ho r=>?_)];rcases hk o ho with ⟨v,w,rfl⟩|⟨z,v⟩|⟨z,v⟩
   .exact r
   .cases z
   .cases z
  .have e:xs=((o0::os).map gE).map ev:=aq.Ff (gen _ (λx o=>x=ev (gE o)) _ _ h λx o ho r=>by
    rcases hk o ho with ⟨z,v⟩|⟨v,w,rfl⟩|⟨z,v⟩
    .cases z
    .exact r
    .cases z)
   show H a=_;rw[ha,e]
  .refine#[xs,ha,aq.bind' (f:=cL) (gen _ _ _ _ h λx o ho r=>?_)];rcases hk o ho with ⟨z,v⟩|⟨z,v⟩|⟨v,w,rfl⟩
   .cases z
   .cases z
   .exact r
theorem Fh(s k:Int):cf 1 2 s k=((if k-s<0 then -(k-s) else k-s)+1) / 2:=by unfold cf jZ ff;split<;>lia
theorem Qv:∀ n:Int,0<=n->n<=10->gg KN (n-1)=(if 0<n then O (3 * n-3) else J)/\gh KN (n+1)=(if n<10 then O (3 * n+3) else J):=by intro n h0 h1;rcases (by lia:n=0∨n=1∨n=2∨n=3∨n=4∨n=5∨n=6∨n=7∨n=8∨n=9∨n=10) with rfl|rfl|rfl|rfl|rfl|rfl|rfl|rfl|rfl|rfl|rfl<;>exact#[by decide +kernel,by decide +kernel]
theorem Fi{n k:Int}(h0:0<=n)(h1:n<=10):gf k (lF KN 1 (O n))=O (mj n k):=by obtain⟨a,b⟩:=Qv n h0 h1;show O (vZ (gg KN (n-1)) k,v3 (gh KN (n+1)) k)=O (mj n k);rw[a,b];unfold mj;split<;>split<;>rfl
noncomputable def c9(so:Nat)(os:List One):V:=if so=2 then dk 2 (os.map cL) else .non
noncomputable def n4(s:Int)(so:Nat)(os:List One)(o:One):W2:=gf (cf 1 2 s os.length) (match so with|0=>pW o|1=>lF KN 1 (gE o)|_=>sD (-5) 5 (c9 2 (os++[o])) (cL o))
theorem Fj{s:Int}{so:Nat}(hs:so<3)(os:List One)(o:One):fq s (rawOf so (os++[o]))=fq s (rawOf so os)++[n4 s so os o]:=by
 rcases (by lia:so=0∨so=1∨so=2) with rfl|rfl|rfl
 .show cK _ 0 ((os++[o]).map pW)=cK _ 0 (os.map pW)++_;rw[UQ,Va,o9,Tn,WT];rfl
 .show cK _ 0 (((os++[o]).map gE).map _)=cK _ 0 ((os.map gE).map _)++_;rw[UQ,Va,UQ,Va,o9,Tn,Tn,WT];rfl
 .show cK _ 0 (fE 2 (-5) 5 ((os++[o]).map cL))=cK _ 0 (fE 2 (-5) 5 (os.map cL))++_;rw[UQ,Va,CN,o9,show (fE 2 (-5) 5 (os.map cL)).length=os.length by unfold fE;rw[Tn,Vw,Tn],WT];unfold n4 c9;rw[if_pos Y,UQ,Va];rfl
theorem Qw{xs:List V}{i:Int}{v:V}(h:ef xs i=O v):v∈xs:=by unfold ef at h;obtain⟨j,y,hj⟩:=Option.bind_eq_some_iff.mp h;exact Ui hj
theorem ug{bs:List Int}(h:bs∈FV)(v:V):bits bs/\bs.length<=20/\∃ x y,ef (bs.map V.int) (-1)=O (.int x)/\ef (bs.map V.int) (-2)=O (.int y)/\gW bs 2 v bs.length=if x=y then .int x else v:=by
 simp only[FV,Tz,Xt,or_false] at h;rcases h with rfl|rfl|rfl|rfl|rfl
 .exact#[by intro x hx;simp at hx;lia,by decide,0,0,Y,Y,Y]
 .exact#[by intro x hx;simp at hx;lia,by decide,1,1,Y,Y,Y]
 .exact#[by intro x hx;simp at hx;lia,by decide,1,0,Y,Y,Y]
 .exact#[by intro x hx;simp at hx;lia,by decide,0,0,Y,Y,Y]
 .exact#[by intro x hx;simp at hx;lia,by decide,1,1,Y,Y,Y]
theorem Fl{so:Nat}{os:List One}(h:∀ o∈os,cQ so o):fD (c9 so os):=by
 unfold c9;split
 .rename_i e;subst e;have gen:∀ (os:List One) (v:V),fD v->(∀ o∈os,cQ 2 o)->fD ((os.map cL).foldl (ng 2) v):=by
   intro os
   induction os with
   | nil=>exact λv hv _=>hv
   | cons o os ih =>
    intro v hv ho;refine ih _ ?_ λz hz=>ho z (.tail _ hz);cases ho o (.head _) with
    | c0=>exact hv
    | c1 bs hb=>exact v8 (ug hb v).1 hv _ (Th _)
  exact gen os .non (.inl rfl) h
 .exact .inl rfl
inductive Qx(K:SV)(vs:List V)(H:Hp)(Q:VK)(bo:XK):Prop
 | mk(a:Td)(so:Nat)(s:Int)(xs:List V)(os:List One)(_:vs=[.ref a,.int (so:Int),.int s])(_:so<3)(_:H a=O (.lst xs))(_:aq (bV H) xs os)(_:(∀ o∈os,cQ so o))(_:os.length<=12)(_:(-3<=s/\s<=14))(_:∀ l ys H',aj H H'->H l=J->H' l=O (.lst ys)->aq (aH H') ys (fq s (rawOf so os))->Q (.ref l) H')
inductive Qy(H:Hp)(σ0:St)(lw:Td)(so:Nat)(s:Int)(os:List One)(i:Nat)(G:St)(H1:Hp):Prop
 | mk(e1 e2 e3:Option V)(ys:List V)(_:G=(((σ0.set 4 (O (c9 so (os.take i)))).set 5 e1).set 6 e2).set 7 e3)(_:aj H H1)(_:H1 lw=O (.lst ys))(_:aq (aH H1) ys (fq s (rawOf so (os.take i))))
theorem Qz(T:Tx K mg):Ok P w base 2 T.qB (Qx K):=by
 refine b7 fN ?_;rintro u u u s H u u u hr ⟨a,so,s,xs,os,rfl,hs,ha,hO,ah,SI,dQ,q⟩;refine#[_,(au (aG 3 fN.nd (eV ai)) (au (aG 4 fN.nd ck) (au (i5 V3 Y (rg Y T.tQ (ae (dD mH (by rfl) T.nP mQ (ae (aa 0) ai)) ai)) (gp 5 fN.nd) (au (aG 6 fN.nd (aw eX (aw cR (dD rm (by rfl) T.tO rM (ae (aw dn (aa 5) (aa 2)) ai)) ag) ag)) (au (aG 7 fN.nd ck) (au (aM (tH (aF (aa 0) (aa 5))) (au (aM (dW (aa 1) ag) (ar (aG 7 fN.nd (bw (ae (aw dn (aF (aF (aa 0) (aa 5)) ag) (aa 6)) (ae (aw cR (aF (aF (aa 0) (aa 5)) ag) (aa 6)) ai))))) aS) (au (aM (dW (aa 1) ag) (ar (aG 7 fN.nd (aP (Qu T) hr (ae (aF (aa 0) (aa 5)) (ae (aa 6) ai))))) aS) (ar (aM (dW (aa 1) ag) (au (aM (dW (aF (aF (aa 0) (aa 5)) (i6 jr ag)) (aF (aF (aa 0) (aa 5)) (i6 jr ag))) (ar (aG 4 fN.nd (aF (aF (aa 0) (aa 5)) (i6 jr ag)))) aS) (au (aM (dW (aa 4) ag) (ar (aG 7 fN.nd (bw (ae ck (ae (aw cR ag (aa 6)) ai))))) aS) (ar (aM (dW (aa 4) ag) (ar (aG 7 fN.nd (bw (ae (aw dn (i6 jr ag) (aa 6)) (ae ck ai))))) aS)))) aS)))) aS) (ar (dC (rE Wg V4 V5 rG (aa 3) (ae (aa 7) ai)))))))) (ar (aD (aa 3)))))),?_];have xl:=hO.len;refine bf (λG H1=>∃ lw,G=[O (.ref a),O (.int (so:Int)),O (.int s),O (.ref lw),J,J,J,J]/\aj H H1/\H lw=J/\H1 lw=O (.lst [])) (λN hN=>?_) ?_
 .rfl';exact#[by decide,λlw kC=>hN _ _ #[lw,Y,av kC,kC,ao]]
 rintro u yR G H1 ⟨lw,rfl,s1,flw,kC⟩;subst yR;refine bf (λG H2=>G=[O (.ref a),O (.int (so:Int)),O (.int s),O (.ref lw),O .non,J,J,J]/\H1=H2) (λN hN=>?_) ?_
 .rfl';exact hN _ _ #[Y,Y]
 rintro u yR G u ⟨rfl,rfl⟩;subst yR;have QA:c9 so (os.take 0) = .non:=by unfold c9;split<;>rfl
 rfl';refine#[_,mS (ak.of (s1 _ _ ha)),by lia,by lia,vt (Qy H [O (.ref a),O (.int (so:Int)),O (.int s),O (.ref lw),O .non,J,J,J] lw so s os) #[J,J,J,[],by rw[QA];rfl,s1,kC,?_] ?_ ?_]
 .rcases (by lia:so=0∨so=1∨so=2) with rfl|rfl|rfl<;>trivial
 .rintro i G H2 hi ⟨e1,e2,e3,ys,rfl,s2,cH,hY⟩;rw[WT];have il:i<os.length:=by lia
  have ho:=Tj il;obtain⟨v,hv,io⟩:=hO.at ho;have oo:=ah _ (Ui ho);generalize os[i]=o at ho io oo;have tk:os.take (i+1)=os.take i++[o]:=by rw[Yp,ho];rfl
  have tl:(os.take i).length=i:=by rw[Uc];lia
  have QC:=Fl (so:=so) (os:=os.take i) λz hz=>ah z (UE hz);have dX:=oI hv;have dM:=s2 _ _ ha;have n5:=io.same s2;have yl:=hY.len;rw[lC,uf,tl] at yl;refine bf (λG H3=>G=[O (.ref a),O (.int (so:Int)),O (.int s),O (.ref lw),O (c9 so (os.take i)),O (.int (i:Int)),O (.int (cf 1 2 s i)),e3]/\H2=H3) (λN hN=>?_) ?_
  .rfl';rw[<- Fh];exact#[eY (by decide),hN _ _ #[Y,Y]]
  rintro u yR G u ⟨rfl,rfl⟩;subst yR;refine bf (λG H3=>G=[O (.ref a),O (.int (so:Int)),O (.int s),O (.ref lw),O (c9 so (os.take i)),O (.int (i:Int)),O (.int (cf 1 2 s i)),O .non]/\H2=H3) (λN hN=>?_) ?_
  .rfl';exact hN _ _ #[Y,Y]
  rintro u yR G u ⟨rfl,rfl⟩;subst yR;refine bf (λG H3=>∃ y,G=[O (.ref a),O (.int (so:Int)),O (.int s),O (.ref lw),O (c9 so (os.take (i+1))),O (.int (i:Int)),O (.int (cf 1 2 s i)),O y]/\aj H2 H3/\aH H3 y (n4 s so (os.take i) o)) (λN hN=>?_) ?_
  .unfold n4 at hN;rw[tk,tl] at hN;cases oo with
   | p0 =>
    obtain rfl:v = .non:=n5;rfl';refine bX (ak.of dM) dX ?_;rfl';exact hN _ _ #[.non,Y,aj.refl _,Y]
   | g0 =>
    obtain rfl:v = .non:=n5;rfl';refine bX (ak.of dM) dX ?_;rfl';exact hN _ _ #[.non,Y,aj.refl _,Y]
   | c0 =>
    obtain rfl:v = .non:=n5;rfl';refine bX (ak.of dM) dX ?_;rfl';exact hN _ _ #[.non,by unfold c9;rw[if_pos Y,if_pos Y,UQ,Va,v7];rfl,aj.refl _,Y]
   | p1 lo hi hle =>
    obtain⟨pz,rfl,hpz⟩:∃ p,v = .ref p/\H2 p=O (.tup [.int lo,.int hi]):=n5;rfl';refine bX (ak.of dM) dX ?_;rfl';refine bX (ak.of dM) dX (aV (aC.of hpz) (v:=.int lo) Y ?_);rfl';exact bX (ak.of dM) dX (aV (aC.of hpz) (v:=.int hi) Y #[aU,λr hr=>hN _ _ #[.ref r,Y,av hr,#[r,Y,ao]]])
   | g1 n n0 n1 =>
    obtain rfl:v = .int n:=n5;rfl';refine bX (ak.of dM) dX ?_;rfl';refine bX (ak.of dM) dX #[n,_,Y,n0,n1,λr H3 s3 h3=>hN _ _ #[.ref r,Y,s3,?_]];show aH H3 _ (gf (cf 1 2 s i) (lF KN 1 (O n)));rw[Fi n0 n1];exact#[r,Y,h3]
   | c1 bs hb =>
    obtain⟨lb,rfl,_,hlb⟩:∃ l,v = .ref l/\l∉([]:List Td)/\H2 l=O (.lst (bs.map V.int)):=n5;obtain⟨hbits,u,x,y,hx,hy,hd⟩:=ug hb (c9 2 (os.take i));have gn:c9 2 (os.take i++[One.c (O bs)])=if x=y then .int x else c9 2 (os.take i):=by rw[<- hd];unfold c9;rw[if_pos Y,if_pos Y,UQ,Va,v7];rfl
    have QD:x=0∨x=1:=by have:V.int x∈bs.map V.int:=Qw hx;obtain⟨z,hz,e⟩:=Ua.mp this;cases e;exact hbits _ hz
    have w0:∀ z,c9 2 (os.take i++[One.c (O bs)])=z->∀ (y:V) (H3:Hp),aj H2 H3->aH H3 y (gf (cf 1 2 s i) (gY (-5) 5 z))->N [O (.ref a),O (.int 2),O (.int s),O (.ref lw),O z,O (.int (i:Int)),O (.int (cf 1 2 s i)),O y] H3:=λz ez y H3 s3 hy=>hN _ _ #[y,by rw[ez];rfl,s3,by rw[ez];exact hy];rfl';refine bX (ak.of dM) dX ?_;rfl';refine bX (ak.of dM) dX (bX (ak.of hlb) hx (bX (ak.of dM) dX (bX (ak.of hlb) hy ?_)));by_cases hxy:x=y
    .rw[if_pos hxy] at gn;subst hxy;rcases QD with rfl|rfl
     .rfl';refine bX (ak.of dM) dX (bX (ak.of hlb) hx ?_);rfl';refine#[aU,λr hr=>w0 _ gn _ _ (av hr) ?_];rw[wb];exact#[r,Y,ao]
     .rfl';refine bX (ak.of dM) dX (bX (ak.of hlb) hx ?_);rfl';refine#[aU,λr hr=>w0 _ gn _ _ (av hr) ?_];rw[wa];exact#[r,Y,ao]
    .rw[if_neg hxy] at gn;rfl';rw[if_neg hxy];rcases QC with e|e|e
     .rw[e] at gn ⊢;rfl';exact w0 _ gn _ _ (aj.refl _) (by rw[v9];rfl)
     .rw[e] at gn ⊢;rfl';refine#[aU,λr hr=>w0 _ gn _ _ (av hr) ?_];rw[wb];exact#[r,Y,ao]
     .rw[e] at gn ⊢;rfl';refine#[aU,λr hr=>w0 _ gn _ _ (av hr) ?_];rw[wa];exact#[r,Y,ao]
  rintro u yR G H3 ⟨y,rfl,s3,iy⟩;subst yR;rfl';have fQ:=s3 _ _ cH;refine#[.inl #[Y,_,ak.of fQ],ys,fQ,Uh (by lia:ys.length<=12) (by decide),_,_,_,ys++[y],Y,kY flw (s2.trans s3),ao,?_];rw[tk,Fj hs];exact aq.imp (λx a r=>aH.put r fQ) ((hY.imp λx a r=>aH.same r s3).snoc iy)
 .rintro G H2 ⟨e1,e2,e3,ys,rfl,s2,cH,hY⟩;rfl';rw[W9,xl,aaF] at hY;exact q lw ys H2 s2 flw cH hY
theorem Fo{so:Nat}{o:One}(h:cQ so o):(so=0/\∃ w,o = .p w)∨(so=1/\∃ z,o = .g z)∨(so=2/\∃ k,o = .c k):=by
 cases h with
 | p0=>exact .inl #[Y,_,Y]
 | p1=>exact .inl #[Y,_,Y]
 | g0=>exact .inr (.inl #[Y,_,Y])
 | g1=>exact .inr (.inl #[Y,_,Y])
 | c0=>exact .inr (.inr #[Y,_,Y])
 | c1=>exact .inr (.inr #[Y,_,Y])
theorem Fp{so:Nat}(h:so<3):cQ so (zG so)/\∀ H:Hp,bV H .non (zG so):=by
 rcases (by lia:so=0∨so=1∨so=2) with rfl|rfl|rfl
 .exact#[.p0,λy=>rfl]
 .exact#[.g0,λy=>rfl]
 .exact#[.c0,λy=>rfl]
theorem QE(s k:Int):0<=cf 1 2 s k:=by rw[Fh];split<;>lia
theorem QF{s:Int}{so:Nat}{os:List One}{o:One}(h:cQ so o)(hb:fD (c9 so (os++[o])))(z:S2)(hz:n4 s so os o=O z):gb z.1 z.2=false:=by
 have nn:=QE s os.length;unfold n4 at hz;cases h with
 | p0=>cases hz
 | g0=>cases hz
 | c0=>cases hz
 | p1 lo hi hle =>
  cases hz;exact decide_eq_false (show ¬ hi+cf 1 2 s os.length<lo-cf 1 2 s os.length by lia)
 | g1 n n0 n1 =>
  replace hz:gf (cf 1 2 s os.length) (lF KN 1 (O n))=O z:=hz;rw[Fi n0 n1] at hz;cases hz;unfold mj;split<;>split
  .exact decide_eq_false (by lia)
  .rfl
  .rfl
  .rfl
 | c1 bs hbs =>
  replace hz:gf (cf 1 2 s os.length) (gY (-5) 5 (c9 2 (os++[One.c (O bs)])))=O z:=hz;rcases hb with e|e|e
  .rw[e,v9] at hz;cases hz
  .rw[e,wb] at hz;cases hz;rfl
  .rw[e,wa] at hz;cases hz;rfl
theorem Fs{s:Int}{so:Nat}(hs:so<3):∀ (n:Nat) (os:List One),os.length=n->(∀ o∈os,cQ so o)->∀ z,O z∈fq s (rawOf so os)->gb z.1 z.2=false:=by
 intro n
 induction n with
 | zero =>
  intro os hl v z hz;rw[W0.mp hl] at hz;rcases (by lia:so=0∨so=1∨so=2) with rfl|rfl|rfl<;>cases hz
 | succ n ih =>
  intro os hl ah z hz;rcases List.eq_nil_or_concat os with e|⟨ps,o,e⟩
  .rw[e] at hl;cases hl
  .rw[List.concat_eq_append] at e;subst e;rw[T8,UJ] at hl;rw[Fj hs] at hz;rcases TQ.mp hz with y|y
   .exact ih ps (by lia) (λo ho=>ah o (TR _ ho)) z y
   .exact QF (ah o (Te _ (by simp))) (Fl ah) z (TY.mp y).symm
theorem rw_good{so:Nat}(hs:so<3){os:List One}(ah:∀ o∈os,cQ so o∨(so=1/\o = .g (O 11))):zB (rawOf so os):=by
 rcases (by lia:so=0∨so=1∨so=2) with rfl|rfl|rfl
 .trivial
 .intro n hn;obtain⟨o,ho,e⟩:=Ua.mp hn;rcases ah o ho with h|⟨y,rfl⟩
  .cases h with
   | g0=>cases e
   | g1 m m0 m1=>cases e;exact zD (by lia)
  .cases e;exact zD (by decide)
 .intro k hk;obtain⟨o,ho,rfl⟩:=Ua.mp hk;rcases ah o ho with h|⟨z,y⟩
  .cases h with
   | c0=>trivial
   | c1 bs hb=>exact#[(ug hb .non).1,(ug hb .non).2.1]
  .cases z
theorem Ft{os:List One}(h:One.g (O 11)∈os):¬ goodW (rawOf 1 os):=λz=>by
 have:=z (O 11) (Ua.mpr #[_,h,Y]) 11 rfl;obtain⟨i,hi⟩:=this;unfold jj at hi;have h1:i+1<2:=hi.1;obtain rfl:i=0:=by lia
 exact absurd hi.2 (by decide)
inductive QG(T:Tx K mg)(vs:List V)(H:Hp)(Q:VK)(bo:XK):Prop
 | mk(x p a:Td)(sv:V)(i e t u d m s:Int)(tb:Tb)(so:Nat)(xs:List V)(os:List One)(_:vs=[.ref x,.int i,sv,.int (so:Int),.ref a])(_:cE T.aB H x e t u d m p tb)(_:(1<=e/\e<=7))(_:(1<=t/\t<=12))(_:cC e t tb)(_:so<3)(_:H a=O (.lst xs))(_:aq (bV H) xs os)(_:(∀ o∈os,cQ so o))(_:(os.length:Int)<=t)(_:(∀ os,kz T H sv s (rawOf so os)))(_:(-3<=s/\s<=14))(_:(0<=i/\i<e))(_:∀ H',aj H H'->Q (.bl true) H')
theorem kz.same{T:Tx K mg}{H H':Hp}{v:V}{s:Int}{r:Raw}(h:kz T H v s r)(x:aj H H'):kz T H' v s r:=by
 cases r with
 | p ws=>exact jC.same h x
 | g rs=>obtain⟨a,b,c,d,e,f,g,k⟩:=h;exact#[a,b,c,d,e,x _ _ f,g.same x,k.same x]
 | c ks=>obtain⟨dd,a,b,c,d,e⟩:=h;exact#[dd,a,b,c,x _ _ d,e.same x]
theorem QH(T:Tx K mg):Ok P w base 12 T.qF (QG T):=by
 refine b7 qd ?_;rintro c c c s H c c c hr ⟨x,p,a,sv,i,e,t,u,d,m,s,tb,so,xs,os,rfl,hB,he,ht,hot,hs,ha,hO,ah,aQ,dY,dQ,bO,q⟩;refine#[_,(au (aM (d0 (eO (aP (nZ T) hr (ae (aa 0) (ae (bL Y (aa 0) Y) (ae (aa 2) (ae (aa 4) (ae dN ai)))))))) (ar (aD dN)) aS) (au (aM (d0 (eO (aP (nZ T) hr (ae (aa 0) (ae (i6 jr ag) (ae (aa 2) (ae (aa 4) (ae dN ai)))))))) (ar (aD dN)) aS) (au (aG 5 qd.nd (aw ve (aa 4) (aw Bk (eV (ae ck ai)) (aw dn (aw cR (bL Y (aa 0) Y) ag) (dD mH (by rfl) T.nP mQ (ae (aa 4) ai)))))) (au (aM (d0 (eO (aP (nZ T) hr (ae (aa 0) (ae (aa 1) (ae (aa 2) (ae (aa 5) (ae dN ai)))))))) (ar (aD dN)) aS) (au (aM (D5 (aa 3) ag) (ar (aD dN)) aS) (au (aM (d0 (eO (aP (nZ T) hr (ae (aa 0) (ae (bL Y (aa 0) Y) (ae (aa 2) (ae (eV (ae ag ai)) (ae dN ai)))))))) (ar (aD dN)) aS) (au (aG 5 qd.nd (aw ve (aa 4) (aw Bk (eV (ae ag ai)) (aw dn (aw cR (bL Y (aa 0) Y) ag) (dD mH (by rfl) T.nP mQ (ae (aa 4) ai)))))) (au (aM (d0 (eO (aP (nZ T) hr (ae (aa 0) (ae (aa 1) (ae (aa 2) (ae (aa 5) (ae dN ai)))))))) (ar (aD dN)) aS) (ar (aD (aP (nZ T) hr (ae (aa 0) (ae (aa 1) (ae (aa 2) (ae (aw ve (rD vc (aa 4) rB (rC (aw dn (bL Y (aa 0) Y) ag))) (eV (ae ag ai))) (ae dN ai)))))))))))))))),?_];have bs:Bd 300 s:=ue (by lia);obtain⟨⟨dx,hx⟩,c⟩:=id hB;have xl:=hO.len;have ref:∀ (H1:Hp) (a1:Td) (zH:List V) (iu:List One) (i1:Int) (off:Bool) (R:VK) (E1:XK),aj H H1->H1 a1=O (.lst zH)->aq (bV H1) zH iu->(∀ o∈iu,cQ so o∨(so=1/\o = .g (O 11)))->iu.length<=100->((off=false/\¬ ((0<=i1/\i1<e)/\(iu.length:Int)<=t))∨(off=true/\((0<=i1/\i1<e)/\(iu.length:Int)<=t)/\so=1/\One.g (O 11)∈iu))->(∀ H',aj H H'->R (.bl true) H')->Fe T [.ref x,.int i1,sv,.ref a1,.bl off] H1 R E1:=λH1 a1 zH iu i1 off R E1 s1 qJ QJ fI zr qR hR=>by
  refine#[x,p,a1,sv,i1,e,t,u,d,m,s,tb,rawOf so iu,off,Y,hB.same s1,he,ht,hot,Fg qJ QJ λo ho=>?_,rw_good hs fI,by rw[uf];exact zr,(dY iu).same s1,bs,λhg z hz=>?_,?_,λH' s'=>hR _ (s1.trans s')]
  .rcases fI o ho with h|⟨h,rfl⟩
   .exact Fo h
   .exact .inr (.inl #[h,_,Y])
  .by_cases Fu:∃ o∈iu,so=1/\o = .g (O 11)
   .obtain⟨o,ho,rfl,rfl⟩:=Fu;exact absurd hg (Ft ho)
   .exact Fs hs _ iu Y (λo ho=>(fI o ho).elim id λy=>absurd #[o,ho,y] Fu) z hz
  .rw[uf];rcases qR with y|⟨y1,y2,y3,y4⟩
   .exact .inl y
   .subst y3;exact .inr #[y1,y2,Ft y4]
 refine bf (λG H1=>G=[O (.ref x),O (.int i),O sv,O (.int (so:Int)),O (.ref a),J]/\aj H H1) (λN hN=>?_) ?_
 .rfl';refine#[_,_,_,hx,T.aX,T.iU,_,Y,ref _ a xs os e false _ _ (aj.refl _) ha hO (λo ho=>.inl (ah o ho)) (by lia) (.inl #[Y,by lia]) λH' s'=>?_];rfl';exact hN _ _ #[Y,s']
 rintro c yR G H1 ⟨rfl,s1⟩;subst yR;refine bf (λG H2=>G=[O (.ref x),O (.int i),O sv,O (.int (so:Int)),O (.ref a),J]/\aj H H2) (λN hN=>?_) ?_
 .rfl';refine ref _ a xs os (-1) false _ _ s1 (s1 _ _ ha) (hO.imp λc c r=>r.same s1) (λo ho=>.inl (ah o ho)) (by lia) (.inl #[Y,by lia]) λH' s'=>?_;rfl';exact hN _ _ #[Y,s']
 rintro c yR G H2 ⟨rfl,s2⟩;subst yR;have rep:∀ (v:V) (n:Nat),(T5 n [v]).flatten=T5 n v:=λv n=>by
  induction n with
  | zero=>rfl
  | succ n ih=>rw[VC,Wy,ih];rfl
 have all:∀ (H1:Hp) (v:V) (o:One) (n:Nat),bV H1 v o->aq (bV H1) (T5 n v) (T5 n o):=λH1 v o n h=>by
  induction n with
  | zero=>trivial
  | succ n ih=>exact#[h,ih]
 refine bf (λG H3=>∃ lm,G=[O (.ref x),O (.int i),O sv,O (.int (so:Int)),O (.ref a),O (.ref lm)]/\aj H H3/\H3 lm=O (.lst (xs++T5 (t+1-os.length).toNat .non))) (λN hN=>?_) ?_
 .rfl';refine#[by decide,λp1 h1=>?_];have u1:=av (o:=.lst [.non]) h1;have S1:=s2.trans u1;refine#[_,_,_,S1 _ _ hx,T.aX,T.iV,_,Y,?_];rfl';refine#[_,mS (ak.of (S1 _ _ ha)),_,ao,by lia,by lia,TL (by show 1 * (t+1-(xs.length:Int)).toNat<=13;lia) (by decide),λp2 h2=>?_];rw[rep,xl];have u2:=av (o:=.lst (T5 (t+1-(os.length:Int)).toNat (.non))) h2;exact#[xs,(S1.trans u2) _ _ ha,_,ao,TL (by rw[UI];lia:_<=40) (by decide),λp3 h3=>hN _ _ #[p3,Y,(S1.trans u2).trans (av h3),ao]]
 rintro c yR G H3 ⟨lm,rfl,s3,hlm⟩;subst yR;refine bf (λG H4=>G=[O (.ref x),O (.int i),O sv,O (.int (so:Int)),O (.ref a),O (.ref lm)]/\aj H H4) (λN hN=>?_) ?_
 .rfl';refine ref _ lm _ (os++T5 (t+1-os.length).toNat (zG so)) i false _ _ s3 hlm (aq.app (hO.imp λc c r=>r.same s3) (all _ _ _ _ ((Fp hs).2 _))) (λo ho=>?_) ?_ (.inl #[Y,?_]) λH' s'=>?_
  .rcases TQ.mp ho with y|y
   .exact .inl (ah o y)
   .rw[(Z5.mp y).2];exact .inl (Fp hs).1
  .rw[T8,UI];lia
  .rw[T8,UI];lia
  .rfl';exact hN _ _ #[Y,s']
 rintro c yR G H4 ⟨rfl,s4⟩;subst yR;by_cases h1:so=1
 rotate_left
 .refine bf (λc c=>False) (λN hN=>?_) (λc c c c h=>h.elim);rfl';rw[if_pos (by lia)];exact q _ s4
 subst h1;have zI:∀ H1:Hp,bV H1 (.int 11) (.g (O 11)):=λc=>rfl;refine bf (λG H5=>G=[O (.ref x),O (.int i),O sv,O (.int ((1:Nat):Int)),O (.ref a),O (.ref lm)]/\H4=H5) (λN hN=>?_) ?_
 .rfl';exact hN _ _ #[Y,Y]
 rintro c yR G c ⟨rfl,rfl⟩;subst yR;refine bf (λG H5=>G=[O (.ref x),O (.int i),O sv,O (.int ((1:Nat):Int)),O (.ref a),O (.ref lm)]/\aj H H5) (λN hN=>?_) ?_
 .rfl';refine#[_,_,_,s4 _ _ hx,T.aX,T.iU,_,Y,by decide,λp1 h1=>?_];have u1:=av (o:=.lst [.int 11]) h1;refine ref _ p1 _ [.g (O 11)] e false _ _ (s4.trans u1) ao #[zI _,trivial] (λo ho=>.inr #[Y,TY.mp ho]) (by decide) (.inl #[Y,by lia]) λH' s'=>?_;rfl';exact hN _ _ #[Y,s']
 rintro c yR G H5 ⟨rfl,s5⟩;subst yR;refine bf (λG H6=>∃ lm,G=[O (.ref x),O (.int i),O sv,O (.int ((1:Nat):Int)),O (.ref a),O (.ref lm)]/\aj H H6/\H6 lm=O (.lst (xs++T5 (t+1-os.length).toNat (.int 11)))) (λN hN=>?_) ?_
 .rfl';refine#[by decide,λp1 h1=>?_];have u1:=av (o:=.lst [.int 11]) h1;have S1:=s5.trans u1;refine#[_,_,_,S1 _ _ hx,T.aX,T.iV,_,Y,?_];rfl';refine#[_,mS (ak.of (S1 _ _ ha)),_,ao,by lia,by lia,TL (by show 1 * (t+1-(xs.length:Int)).toNat<=13;lia) (by decide),λp2 h2=>?_];rw[rep,xl];have u2:=av (o:=.lst (T5 (t+1-(os.length:Int)).toNat (.int 11))) h2;exact#[xs,(S1.trans u2) _ _ ha,_,ao,TL (by rw[UI];lia:_<=40) (by decide),λp3 h3=>hN _ _ #[p3,Y,(S1.trans u2).trans (av h3),ao]]
 rintro c yR G H6 ⟨Fw,rfl,s6,QK⟩;subst yR;refine bf (λG H7=>G=[O (.ref x),O (.int i),O sv,O (.int ((1:Nat):Int)),O (.ref a),O (.ref Fw)]/\aj H H7) (λN hN=>?_) ?_
 .rfl';refine ref _ Fw _ (os++T5 (t+1-os.length).toNat (.g (O 11))) i false _ _ s6 QK (aq.app (hO.imp λc c r=>r.same s6) (all _ _ _ _ (zI _))) (λo ho=>?_) ?_ (.inl #[Y,?_]) λH' s'=>?_
  .rcases TQ.mp ho with y|y
   .exact .inl (ah o y)
   .exact .inr #[Y,(Z5.mp y).2]
  .rw[T8,UI];lia
  .rw[T8,UI];lia
  .rfl';exact hN _ _ #[Y,s']
 rintro c yR G H7 ⟨rfl,s7⟩;subst yR;rfl';refine#[_,_,_,s7 _ _ hx,T.aX,T.iV,_,Y,?_];rfl';have ct:gL xs J (O (t-1))=xs.take (t-1).toNat:=by rw[show t-1=(((t-1).toNat:Nat):Int) by lia,KC];simp
 refine#[xs,ak.of (s7 _ _ ha),λp1 h1=>#[by decide,λp2 h2=>?_]];rw[ct] at *;have u1:=av (o:=.lst (xs.take (t-1).toNat)) h1;have u2:=av (o:=.lst [.int 11]) h2;refine#[_,u2 _ _ ao,_,ao,TL (by rw[Uc];show min _ _+1<=40;lia:_<=40) (by decide),λp3 h3=>?_];have u3:=av (o:=.lst (xs.take (t-1).toNat++[.int 11])) h3;have U:=s7.trans (u1.trans (u2.trans u3));refine ref _ p3 _ (os.take (t-1).toNat++[.g (O 11)]) i true _ _ U ao (aq.app (aq.take _ (hO.imp λc c r=>r.same U)) #[zI _,trivial]) (λo ho=>?_) ?_ (.inr #[Y,#[bO,?_],Y,Te _ (by simp)]) λH' s'=>q _ s'
 .rcases TQ.mp ho with y|y
  .exact .inl (ah o (UE y))
  .exact .inr #[Y,TY.mp y]
 .rw[T8,Uc,UJ];lia
 .rw[T8,Uc,UJ];lia
inductive QL(T:Tx K mg)(vs:List V)(H:Hp)(Q:VK)(bo:XK):Prop
 | mk(so:Nat)(s:Int)(_:vs=[.int (so:Int),.int s])(_:so<3)(_:∀ (v:V) (H':Hp),aj H H'->(∀ os,kz T H' v s (rawOf so os))->Q v H')
theorem QM(T:Tx K mg):Ok P w base 4 T.qC (QL T):=by
 refine b7 za ?_;rintro y y y s H y y y hr ⟨so,s,rfl,hs,q⟩;refine#[_,(au (aM (dW (aa 0) ag) (ar (aD (oF T.zj (zt T) hr.m Y T.Od T.gs.b .nil cW (ae (bw (ae ag (ae ag ai))) (ae (aa 1) ai))))) aS) (au (aM (dW (aa 0) ag) (ar (aD (oF T.zk (PD T) hr.m Y T.Oe T.l0.b .nil cW (ae (bw (ae ag (ae ag ai))) (ae (aa 1) (ae (oF T.zi (Ph T) hr.m Y T.Oc T.lZ.b .nil cW (ae (eV (ae (bw (ae ag (ae ag ai))) (ae (bw (ae ag (ae ag ai))) ai))) ai)) (ae ag ai))))))) aS) (ar (aD (oF T.zm (Py T) hr.m Y T.Of T.l5.b .nil cW (ae (bw (ae ag (ae ag ai))) (ae (aa 1) (ae ag (ae (i6 jr ag) (ae ag ai)))))))))),?_];rcases (by lia:so=0∨so=1∨so=2) with rfl|rfl|rfl
 .rfl';refine#[aU,λp hp x dx hx ml mm=>?_];have u1:=av (o:=.tup [.int 1,.int 2]) hp;have M:=sC (C:=T.b8) (fs:=[]) hx ml mm;have px:p≠x:=λz=>by rw[<- z,ao] at hx;cases hx
  refine#[x,T.b8,dx,[],.ref p,.int s,Y,ao,T.nS,T.tU,T.tV,by decide,Y,q _ _ (kY (u1.free hx) (u1.trans M)) λos=>?_];exact#[x,dx,_,.ref p,Y,ao,Y,#[p,Y,by rw[az px];exact M _ _ ao],Y,Y,Y,Y]
 .rfl';refine#[aU,λp hp=>#[aU,λp1 h1=>#[aU,λp2 h2=>#[aU,λp3 h3 gx zy uc QN QO=>?_]]]];have u0:=av (o:=.tup [.int 1,.int 2]) hp;have u1:=av (o:=.tup [.int 0,.int 0]) h1;have u2:=av (o:=.tup [.int 10,.int 30]) h2;have u3:=av (o:=.lst [.ref p1,.ref p2]) h3;have U2:=u2.trans u3;have U1:=u1.trans U2;have U0:=u0.trans U1;have e0:=U1 _ _ (ao (H:=_) (a:=p) (o:=.tup [.int 1,.int 2]));have e1:=U2 _ _ (ao (a:=p1) (o:=.tup [.int 0,.int 0]));have e2:=u3 _ _ (ao (a:=p2) (o:=.tup [.int 10,.int 30]));have M1:=sC (C:=T.cT) (fs:=[]) uc QN QO;refine#[gx,zy,p3,[.ref p1,.ref p2],KN,Y,ao,ak.of (M1 _ _ ao),#[#[p1,Y,M1 _ _ e1],#[p2,Y,M1 _ _ e2],trivial],by decide,λz=>absurd #[by decide,by decide,by decide] z,λy l H4 sb QP fl uh=>#[Y,λx dx hx ml mm=>?_]];have S4:aj _ H4:=λb o e=>sb b o (λz=>by rw[z,uc] at e;cases e) (M1 _ _ e);have M2:=sC (C:=T.bj) (fs:=[]) hx ml mm;refine#[x,dx,.ref p,.ref gx,.int 1,s,Y,ao,Y,q _ _ (kY ((U0.trans S4).free hx) ((U0.trans S4).trans M2)) λos=>?_];have kp:∀ b o,H4 b=O o->upd (upd (upd H4 dx (.own x)) x (.ins T.bj dx [])) x (.ins T.bj dx [("drift",.ref p),("since",.int s),("gauge",.ref gx),("error",.int 1)]) b=O o:=kY hx M2;exact#[x,dx,.ref p,.ref gx,Y,ao,#[p,Y,kp _ _ (S4 _ _ e0)],gx,zy,l,[.ref p1,.ref p2],Y,kp _ _ QP,kp _ _ uh,#[#[p1,Y,kp _ _ (S4 _ _ e1)],#[p2,Y,kp _ _ (S4 _ _ e2)],trivial]]
 .rfl';refine#[aU,λp hp x dx hx ml mm=>?_];have u1:=av (o:=.tup [.int 1,.int 2]) hp;have M:=sC (C:=T.bG) (fs:=[]) hx ml mm;have px:p≠x:=λz=>by rw[<- z,ao] at hx;cases hx
  refine#[x,dx,.ref p,s,2,-5,5,Y,ao,λz=>absurd z (by decide),λy=>#[Y,q _ _ (kY (u1.free hx) (u1.trans M)) λos=>?_]];exact#[.ref p,x,dx,Y,ao,#[p,Y,by rw[az px];exact M _ _ ao]]
inductive QQ(K:SV)(vs:List V)(H:Hp)(Q:VK)(bo:XK):Prop
 | mk(w:Td)(e t:Int)(tb:Tb)(_:vs=[.ref w])(_:TabAt H w tb)(_:cC e t tb)(_:tb.length<128)(_:∀ (l:Td) (ts:List V) (H':Hp),aj H H'->H l=J->H' l=O (.lst ts)->aq (dH H') ts (j7 tb)->Q (.ref l) H')
theorem Fx(T:Tx K mg):Ok P w base 1 T.qE (QQ K):=by
 refine b7 zb ?_;rintro y y y s H y Q y hr ⟨w,e,t,tb,rfl,hT,ah,gZ,q⟩;refine#[_,(ar (aD (B3 (cO [0] ["_law_table"]) Y (kL (dD MQ (by rfl) T.Et BC (ae (uY (Ls Y) (by rfl) T.zc vq (ae (aa 0) ai)) ai))) (λC s2 H2 ex pn=>#[k6,(bw (ae (nJ (K:=K) (aa 0) ag) (ae (nJ (K:=K) (aa 0) ag) (ae (Dp (jd hr) (aa 1) (aa 0) (λy y=>rfl)) ai))))])))),?_];obtain⟨kvs,hkv,hA⟩:=id hT;rfl';refine#[kvs,hkv,λl ys hl Fz=>?_];have P0:aq (λv (r:P2 × S2)=>bQ H v r.1) ys tb:=aq.bind (hA.wB Fz);have u1:=av (o:=.lst ys) hl;refine#[ys,ak.of ao,fH tb,Dr (P0.imp λy y r=>bQ.same r u1),by rw[P0.len];exact gZ,λl2 cH=>?_];have PS:=DN hA Fz gZ;have pl:=PS.len;rw[DK] at pl;generalize cD (fH tb) .non ys=zs at PS pl;have u2:=av (o:=.lst zs) cH;have SS:=u1.trans u2;have z2:upd (upd H l (.lst ys)) l2 (.lst zs) l2=O (.lst zs):=ao;generalize upd (upd H l (.lst ys)) l2 (.lst zs)=H2 at SS z2;refine#[#[_,ak.of z2],mV oZ (TL (by lia:zs.length<=128) (by decide)) (sj (R:=λHx v (r:P2 × S2)=>bQ Hx v r.1) (R':=λHx v (r:P2 × S2)=>dH Hx v r) (f:=λr=>r) (bs:=[]) (λy y y y s r=>bQ.same r s) (λy y y y s r=>dH.same r s) (PS.imp λy y r=>bQ.same r SS) trivial (λH' s'=>ak.of (s' _ _ z2)) (λx r y H4 s4 h0 Q h=>?_) (λx r fP H4 s4 h0 Q h=>?_) λH4 ts s4 FC=>?_)]
 .rfl';exact h
 .obtain⟨ka,rfl,hka⟩:=id h0;have S4:=SS.trans s4;obtain⟨v,hv,iv⟩:=(hA.val r.1).2 _ (Dq ah.1 (tD fP));rfl';refine aV (aC.of hka) Y (aV (aC.of hka) Y #[v,?_,?_])
  .rw[<- hv];exact dj.t (k:=a8 r.1.1 r.1.2) (S4 _ _ hkv) hka
  .exact#[by decide,λz hz=>h _ _ (av hz) #[z,v,Y,ao,aO.same iv (S4.trans (av hz))]]
 rw[Ts,aax] at FC;intro l4 uh;have u4:=av (o:=.lst ts) uh;exact q l4 ts _ (SS.trans (s4.trans u4)) ((SS.trans s4).free uh) ao (FC.imp λy y r=>dH.same r u4)
theorem FD:∀ (tb:Tb),jW 2 (tb.map Ds)=true
 | []=>rfl
 | r::tb=>by rw[TJ];simp only[jW,FD tb,abK];obtain⟨⟨i,j⟩,lo,hi⟩:=r;rcases lo with y|lo<;>rcases hi with y|hi<;>rfl
theorem FE{K:SV}{H:Hp}{a b:Td}{xs ys:List V}{tb bB:Tb}{neg:Bool}{Q:VK}(ha:H a=O (.lst xs))(hb:H b=O (.lst ys))(h:aq (dH H) xs tb)(h':aq (dH H) ys bB)(e:tb=bB)(q:Q (.bl (!neg)) H):o5 K neg (.ref a) (.ref b) H Q :=
 KG (n:=3) (.lst (ak.of ha) (wD h)) (.lst (ak.of hb) (wD (e ▸ h'))) (by simp only[fe,FD]) (by decide) q
theorem FF{α:Type}{P:V->α->Prop}:∀ {xs:List V} {ks:List Nat},aq (λv (_:Nat)=>∃ o,P v o) xs ks->∃ os,aq P xs os/\os.length=ks.length
 | [],[],_=>#[[],trivial,Y]
 | x::xs,k::ks,h=>by obtain⟨o,ho⟩:=h.1;obtain⟨os,h1,h2⟩:=FF h.2;exact#[o::os,#[ho,h1],by rw[Uz,Uz,h2]]
theorem FG{H:Hp}{so:Nat}:∀ {xs:List V} {os:List One},aq (λv o=>bV H v o/\cQ so o) xs os->aq (bV H) xs os/\∀ o∈os,cQ so o
 | [],[],_=>#[trivial,λu h=>nomatch h]
 | x::xs,o::os,h=>by
  obtain⟨h1,h2⟩:=FG h.2;refine#[#[h.1.1,h1],λz hz=>?_];rcases Tz.mp hz with rfl|y
  .exact h.1.2
  .exact h2 z y
theorem bV.fr{H H':Hp}{v:V}{o:One}(h:bV H v o)(s:Fr H H'):bV H' v o:=by
 cases o with
 | p w=>cases w with
  | none=>exact h
  | some z=>exact aO.fr h s
 | g o=>exact h
 | c k=>cases k with
  | none=>exact h
  | some bs=>obtain⟨l,e,n,hl⟩:=h;exact#[l,e,n,s _ _ (λy z=>nomatch z) hl]
theorem aH.FH{H H':Hp}{v:V}{w:W2}(h:aH H v w)(f:Fr H H'):aH H' v w:=by
 cases w with
 | none=>exact h
 | some z=>exact aO.fr h f
noncomputable def zJ:One->Wu
 | .p w=>xm w
 | .g o=>sx o
 | .c J=>.none
 | .c (O bs)=>.list (bs.map .int)
theorem QS{K:SV}{H:Hp}{v:V}{o:One}(h:bV H v o):Dat K H v (zJ o):=by
 cases o with
 | p w=>exact aH.dat h
 | g o=>obtain rfl:v=ev o:=h;exact v5 o
 | c k=>cases k with
  | none=>obtain rfl:v = .non:=h;exact .non
  | some bs=>obtain⟨l,rfl,y,hl⟩:=h;exact .lst (ak.of hl) (Cn bs)
theorem zK{K:SV}{H:Hp}:∀ {xs:List V} {os:List One},aq (bV H) xs os->jV K H xs (os.map zJ)
 | [],[],_=>.nil
 | _::_,_::_,h=>.cons (QS h.1) (zK h.2)
theorem QT(o:One):Gd 1 (zJ o):=by
 cases o with
 | p w=>exact NG w
 | g o=>cases o with
  | none=>exact .of rfl
  | some i=>exact (Gd.int i).up (by decide)
 | c k=>cases k with
  | none=>exact .of rfl
  | some bs =>
   refine .lst λd hd=>?_;obtain⟨i,y,rfl⟩:=Ua.mp hd;exact Gd.int i
theorem QU{so:Nat}{os:List One}(hs:so<3)(h:∀ o∈os,cQ so o):goodW (rawOf so os):=by
 rcases (by lia:so=0∨so=1∨so=2) with rfl|rfl|rfl
 .trivial
 .intro r hr;obtain⟨o,ho,rfl⟩:=Ua.mp hr;cases h o ho with
  | g0=>exact λn z=>by cases z
  | g1 n n0 n1 =>
   intro k z;obtain rfl:n=k:=Option.some.inj z;refine#[0,?_];unfold jj;refine#[by decide,?_];show (0:Int) * 1<=n/\n<=10 * 1;lia
 .trivial
noncomputable def ui(tb:Tb)(i k:Int)(w:W2):Tb:=match w with|some s=>fh (cM tb (i,k)) (i,k) s|none=>cM tb (i,k)
noncomputable def fT(tb:Tb)(i:Int)(ws:List W2)(n:Nat):Tb:=(List.range n).foldl (λt (k:Nat)=>ui t i (k:Int) (ws.getD k J)) tb
theorem FI(tb:Tb)(i:Int)(ws:List W2)(n:Nat):fT tb i ws (n+1)=ui (fT tb i ws n) i (n:Int) (ws.getD n J):=by unfold fT;rw[Zg,Yy];rfl
theorem QV(tb:Tb)(s:P2):s∉(cM tb s).map (·.1):=λh=>by obtain⟨r,hr,e⟩:=Ua.mp h;exact absurd e (of_decide_eq_true (WV.mp hr).2)
theorem FK{e t:Int}{tw tb:Tb}{i:Int}{ws:List W2}(h:tw.Perm tb)(ah:cC e t tb)(hi:0<=i/\i<e):∀ n:Nat,(n:Int)<=t->(fT tw i ws n).Perm (ip tb i ws n)
 | 0,_=>h
 | n+1,hn=>by
  have ih:=FK h ah hi (ws:=ws) n (by lia);have jE:=ud (ws:=ws) ah hi n (by lia);rw[FI,zC];unfold ui qN;cases ws.getD n J with
  | none=>exact DQ ih
  | some z =>
   show (fh (cM _ _) _ z).Perm (fh _ _ z);have e1:fh (cM (fT tw i ws n) (i,(n:Int))) (i,(n:Int)) z=cM (fT tw i ws n) (i,(n:Int))++[((i,(n:Int)),z)]:=by unfold fh;rw[if_neg];intro y;obtain⟨r,hr,e⟩:=Xu.mp y;exact QV _ _ (Ua.mpr #[r,hr,by simpa using e])
   rw[e1];exact ((DQ ih).append_right _).trans (MU jE.1).symm
inductive QW(T:Tx K mg)(vs:List V)(H:Hp)(Q:VK)(bo:XK):Prop
 | mk(x p w a:Td)(ns:List Int)(at_ e t u d m:Int)(tb tw:Tb)(_:vs=[.ref x,.ref w,.ref a,.int at_])(_:cE T.aB H x e t u d m p tb)(_:(1<=e/\e<=7))(_:(1<=t/\t<=12))(_:cC e t tb)(_:TabAt H w tw)(_:tw.Perm tb)(_:w≠p)(_:ak K H a (ns.map V.int))(_:0<=at_)(_:∀ bB FL H',(∀ z o,z≠p->z≠w->H z=O o->H' z=O o)->cE T.aB H' x e t u d m p bB->cC e t bB->TabAt H' w FL->FL.Perm bB->Q (.bl true) H')
def FN(H:Hp)(σ0:St)(w:Td)(i:Int)(tw:Tb)(ws:List W2)(n:Nat)(G:St)(H1:Hp):Prop:=(∃ e1,G=σ0.set 13 e1)/\SameBut w H H1/\TabAt H1 w (fT tw i ws n)
theorem QX(T:Tx K mg):Ok P w base 13 T.qG (QW T):=by
 refine tJ fO ?_;rintro j j j s H j Q j hr ⟨x,p,w,a,ns,at_,e,t,u,d,m,tb,tw,rfl,hB,he,ht,hot,hW,nK,wp,hS,h0,q⟩;refine#[_,(au (aG 4 fO.nd (aP (nW T) hr (ae (aa 2) (ae (aa 3) ai)))) (au (aG 5 fO.nd (aw dq (aa 4) (bL Y (aa 0) Y))) (au (aG 6 fO.nd (aw dq (aw eX (aa 4) ag) ag)) (au (aG 7 fO.nd (aw dn (aw dq (aw eX (aa 4) ag) ag) ag)) (au (aG 8 fO.nd (aw dq (aw eX (aa 4) ag) (aw cR (bL Y (aa 0) Y) ag))) (au (vN (i:=9) (cO [6,2,3] ["_law_sort","_law_script","_law_at"]) Y fO.nd Y Y (rg Y T.tQ (ae (aa 8) ai)) (λC s2 H2 ex pn=>#[k6,(aP (Qs T) hr (ae (aP (nW T) hr (ae (aa 2) (ae (aw cR (aw cR (aa 3) ag) (aa 0)) ai))) (ae (aa 1) ai)))])) (au (aG 10 fO.nd (aP (QM T) hr (ae (aa 6) (ae (aa 7) ai)))) (au (aM (PW.pt (i3 (d0 (eO (aP (QH T) hr (ae (aa 0) (ae (aa 5) (ae (aa 10) (ae (aa 6) (ae (aa 9) ai)))))))) (mB (rk (Ky hr.units) (AH (aa 0) T.aX T.Ez (E4 T) hr.m T.jx.b .nil cW) (aP (Fx T) hr (ae (aa 1) ai)) (gG _))))) (ar (aD dN)) aS) (au (aG 11 fO.nd (uY (La Y) (by rfl) T.zc vq (ae (aa 9) ai))) (au (dC (rq (E8 T) hr.m Y T.ie.m T.ie.F.kp T.ie.b .nil gM (ae (aa 0) (ae (aa 5) (ae (aa 10) (ae (aa 11) ai)))))) (au (aG 12 fO.nd (aP (Qz T) hr (ae (aa 9) (ae (aa 6) (ae (aa 7) ai))))) (au (i5 YB Y (rg Y T.tQ (ae (aa 8) ai)) (gp 13 fO.nd) (au (dC (Ly (jd hr) (aa 1) (bw (ae (aa 5) (ae (aa 13) ai))) ck #[Y,Y,Y,Y])) (ar (aM (tH (aF (aa 12) (aa 13))) (ar (vn (jd hr) (aa 1) (bw (ae (aa 5) (ae (aa 13) ai))) (aF (aa 12) (aa 13)) Y)) aS)))) (ar (aD (nI (oz (Cf hr.units) (aa 11) (aa 9) (gG _)) (oi (oz (Cf hr.units) (AH (aa 0) T.aX T.Ez (E4 T) hr.m T.jx.b .nil cW) (aP (Fx T) hr (ae (aa 1) ai)) (gG _)))))))))))))))))),?_];obtain⟨⟨dx,hx⟩,kvs,hk,hA⟩:=id hB;refine bf (λG H1=>∃ c:Int,G=[O (.ref x),O (.ref w),O (.ref a),O (.int at_),O (.int c),J,J,J,J,J,J,J,J,J]/\H=H1) (λN hN=>?_) ?_
 .rfl';exact#[a,ns,_,Y,hS,h0,hN _ _ #[_,Y,Y]]
 rintro j yR G j ⟨c,rfl,rfl⟩;subst yR;refine bf (λG H1=>∃ i:Int,G=[O (.ref x),O (.ref w),O (.ref a),O (.int at_),O (.int c),O (.int i),J,J,J,J,J,J,J,J]/\H=H1/\0<=i/\i<e) (λN hN=>?_) ?_
 .rfl';refine#[_,_,_,hx,T.aX,T.iU,_,Y,?_];rfl';exact#[by lia,hN _ _ #[_,Y,Y,VD _ (by lia),VL _ (by lia)]]
 rintro j yR G j ⟨i,rfl,rfl,bO⟩;subst yR;refine bf (λG H1=>∃ so:Nat,G=[O (.ref x),O (.ref w),O (.ref a),O (.int at_),O (.int c),O (.int i),O (.int (so:Int)),J,J,J,J,J,J,J]/\H=H1/\so<3) (λN hN=>?_) ?_
 .rfl';refine#[eY (by decide),hN _ _ #[(c / 7 % 3).toNat,?_,Y,by lia]];rw[X1 (by lia)]
 rintro j yR G j ⟨so,rfl,rfl,hs⟩;subst yR;refine bf (λG H1=>∃ s:Int,G=[O (.ref x),O (.ref w),O (.ref a),O (.int at_),O (.int c),O (.int i),O (.int (so:Int)),O (.int s),J,J,J,J,J,J]/\H=H1/\-3<=s/\s<=14) (λN hN=>?_) ?_
 .rfl';exact#[eY (by decide),hN _ _ #[_,Y,Y,by lia,by lia]]
 rintro j yR G j ⟨s,rfl,rfl,dQ⟩;subst yR;refine bf (λG H1=>∃ n:Nat,G=[O (.ref x),O (.ref w),O (.ref a),O (.int at_),O (.int c),O (.int i),O (.int (so:Int)),O (.int s),O (.int (n:Int)),J,J,J,J,J]/\H=H1/\(n:Int)<=t) (λN hN=>?_) ?_
 .rfl';refine#[eY (by decide),_,_,_,hx,T.aX,T.iV,_,Y,?_];rfl';refine#[by lia,hN _ _ #[(c / 5 % (t+1)).toNat,?_,Y,?_]]
  .rw[X1 (VD _ (by lia))]
  .rw[X1 (VD _ (by lia))];have:=VL (c / 5) (show 0<t+1 by lia);lia
 rintro j yR G j ⟨n,rfl,rfl,hn⟩;subst yR;refine bf (λG H1=>∃ lr xs os,G=[O (.ref x),O (.ref w),O (.ref a),O (.int at_),O (.int c),O (.int i),O (.int (so:Int)),O (.int s),O (.int (n:Int)),O (.ref lr),J,J,J,J]/\aj H H1/\H lr=J/\H1 lr=O (.lst xs)/\aq (bV H1) xs os/\(∀ o∈os,cQ so o)/\os.length=n) (λN hN=>?_) ?_
 .rfl';refine#[by lia,by lia,mV Kf (by rw[Tn,Vw];exact TL (by lia:_<=12) (by decide)) (sj (R:=λ_ x (k:Nat)=>x=V.int ((0:Int)+k)) (R':=λH v (_:Nat)=>∃ o,bV H v o/\cQ so o) (f:=λ(k:Nat)=>k) (λj j j j j h=>h) (λj j j j s' h=>#[h.choose,h.choose_spec.1.same s',h.choose_spec.2]) (aq.kE _) (bs:=[]) trivial (λj j=>trivial) (λx k j H2 s2 r Q h=>?_) (λx k j H2 s2 r Q h=>?_) λH2 zs s2 hz=>?_)]
  .rfl';exact h
  .obtain rfl:=r;rfl';refine#[a,ns,_,Y,s2.seq hS,by lia,?_];rfl';exact#[_,so,Y,hs,λv o H3 s3 ho oo=>h _ _ s3 #[o,ho,oo]]
  .intro l hl;rw[Ts,aax] at hz;obtain⟨os,ho,hlen⟩:=FF hz;obtain⟨h1,h2⟩:=FG ho;have u1:=av (o:=.lst zs) hl;refine hN _ _ #[l,zs,os,Y,s2.trans u1,s2.free hl,ao,h1.imp λj j r=>bV.same r u1,h2,?_];rw[hlen,Vw];lia
 rintro j yR G H1 ⟨lr,xs,os,rfl,s1,flr,ly,hO,ah,hol⟩;subst yR;have zL:=hB.same s1;have fK:=hW.same s1;clear hB hW hS;obtain⟨kvw,hkw,j⟩:=id fK;refine bf (λG H2=>∃ sv,G=[O (.ref x),O (.ref w),O (.ref a),O (.int at_),O (.int c),O (.int i),O (.int (so:Int)),O (.int s),O (.int (n:Int)),O (.ref lr),O sv,J,J,J]/\aj H1 H2/\(∀ os,kz T H2 sv s (rawOf so os))) (λN hN=>?_) ?_
 .rfl';exact#[so,s,Y,hs,λv H2 s2 hv=>hN _ _ #[v,Y,s2,hv]]
 rintro j yR G H2 ⟨sv,rfl,s2,dY⟩;subst yR;have tl:=pZ hot (by lia) (by lia);have et:e * t<=7 * 12:=ZJ he.2 ht.2 (by lia) (by decide);have wl:=nK.length_eq;have xl:=hO.len;refine bf (λG H3=>G=[O (.ref x),O (.ref w),O (.ref a),O (.int at_),O (.int c),O (.int i),O (.int (so:Int)),O (.int s),O (.int (n:Int)),O (.ref lr),O sv,J,J,J]/\aj H2 H3) (λN hN=>?_) ?_
 .rfl';refine#[x,p,lr,sv,i,e,t,u,d,m,s,tb,so,xs,os,Y,zL.same s2,he,ht,hot,hs,s2 _ _ ly,hO.imp λj j r=>bV.same r s2,ah,by lia,dY,dQ,bO,λH3 s3=>?_];rfl';have S3:=s2.trans s3;refine#[_,_,S3 _ _ (s1 _ _ hx),Y,x,p,e,t,u,d,m,_,Y,zL.same S3,hot.1,by lia,λl ys H4 s4 j hl hY=>?_];refine#[w,e,t,tw,Y,(fK.same S3).same s4,hot.Ep nK.symm,by lia,λl2 zs H5 s5 j cH hZ=>?_];exact FE (s5 _ _ hl) cH (hY.imp λj j r=>r.same s5) hZ (DM hot.1 nK.symm) #[false,Y,hN _ _ #[Y,s3.trans (s4.trans s5)]]
 rintro j yR G H3 ⟨rfl,s3⟩;subst yR;have S3:=s2.trans s3;replace dY:=λos=>(dY os).same s3;refine bf (λG H4=>∃ lh,G=[O (.ref x),O (.ref w),O (.ref a),O (.int at_),O (.int c),O (.int i),O (.int (so:Int)),O (.int s),O (.int (n:Int)),O (.ref lr),O sv,O (.ref lh),J,J]/\aj H3 H4/\H4 lh=O (.lst xs)/\H3 lh=J) (λN hN=>?_) ?_
 .rfl';refine#[xs,.inl (ak.of (S3 _ _ ly)),λl hl=>hN _ _ #[l,Y,av hl,ao,hl]]
 rintro j yR G H4 ⟨lh,rfl,s4,hlh,flh⟩;subst yR;have S4:=S3.trans s4;have FO:=zL.same S4;have QY:=fK.same S4;have FP:=hO.imp λj j r=>bV.same r S4;have QZ:=S4 _ _ ly;have K4:=s1.trans S4;have rl:=uf so os;obtain⟨j,Q0,n6,j⟩:=id FO;refine bf (λG H5=>G=[O (.ref x),O (.ref w),O (.ref a),O (.int at_),O (.int c),O (.int i),O (.int (so:Int)),O (.int s),O (.int (n:Int)),O (.ref lr),O sv,O (.ref lh),J,J]/\SameBut p H4 H5/\cE T.aB H5 x e t u d m p (ip tb i (fq s (rawOf so os)) n)) (λN hN=>?_) ?_
 .rfl';refine#[x,p,lh,sv,i,e,t,u,d,m,s,tb,rawOf so os,Y,FO,he,ht,hot,Fg hlh FP λo ho=>Fo (ah o ho),rw_good hs λo ho=>.inl (ah o ho),by lia,(dY os).same s4,ue (by lia),λj=>Fs hs _ os Y ah,λz=>absurd #[bO,by lia] z,λj z=>absurd (QU hs ah) z,λj j H5 s5 h5=>hN _ _ #[Y,s5,?_]];rw[rl,hol] at h5;exact h5
 rintro j yR G H5 ⟨rfl,s5,qS⟩;subst yR;have F5:Fr H4 H5:=SameBut.fr s5 n6;have Q3:lr≠p:=λz=>by rw[z] at flr;rw[hk] at flr;cases flr
 have FQ:=s5 _ _ Q3 QZ;have Q4:lh≠p:=λz=>by rw[z,n6] at hlh;cases hlh
 have Q5:=s5 _ _ Q4 hlh;have FR:=FP.imp λj j r=>bV.fr r F5;have qT:TabAt H5 w tw:=QY.but (SameBut.but s5 (.head _)) (pA n6) (by simpa using wp);have ol:=lC s (rawOf so os);rw[rl,hol] at ol;refine bf (λG H6=>∃ lw ys,G=[O (.ref x),O (.ref w),O (.ref a),O (.int at_),O (.int c),O (.int i),O (.int (so:Int)),O (.int s),O (.int (n:Int)),O (.ref lr),O sv,O (.ref lh),O (.ref lw),J]/\aj H5 H6/\H5 lw=J/\H6 lw=O (.lst ys)/\aq (aH H6) ys (fq s (rawOf so os))) (λN hN=>?_) ?_
 .rfl';exact#[lr,so,s,xs,os,Y,hs,FQ,FR,ah,by lia,dQ,λl ys H6 s6 fl hl hY=>hN _ _ #[l,ys,Y,s6,fl,hl,hY]]
 rintro j yR G H6 ⟨lw,ys,rfl,s6,flw,kC,hY⟩;subst yR;have yl:=hY.len;generalize fq s (rawOf so os)=ws at *;have zM:=qS.same s6;have uj:=qT.same s6;have Q6:=FR.imp λj j r=>bV.same r s6;have FT:=s6 _ _ FQ;have FU:=s6 _ _ Q5;obtain⟨SJ,uk,j⟩:=id uj;have pm:=λk hk=>FK (ws:=ws) nK hot bO k hk;have FW:=λk hk=>ud (ws:=ws) hot bO k hk;have nw:∀ z l,H6 z=O (.lst l)->z≠w:=λz l h y=>by rw[y,uk] at h;cases h
 refine bf (λG H7=>(∃ e1,G=([O (.ref x),O (.ref w),O (.ref a),O (.int at_),O (.int c),O (.int i),O (.int (so:Int)),O (.int s),O (.int (n:Int)),O (.ref lr),O sv,O (.ref lh),O (.ref lw),J]:St).set 13 e1)/\SameBut w H6 H7/\TabAt H7 w (fT tw i ws n)) (λN hN=>?_) ?_
 .rfl';refine#[by lia,by lia,vt (FN H6 [O (.ref x),O (.ref w),O (.ref a),O (.int at_),O (.int c),O (.int i),O (.int (so:Int)),O (.int s),O (.int (n:Int)),O (.ref lr),O sv,O (.ref lh),O (.ref lw),J] w i tw ws) #[#[J,Y],λj j j h=>h,uj] ?_ ?_]
  .rintro k G H7 hk ⟨⟨e1,rfl⟩,s7,kD⟩;rw[WT];have il:k<ys.length:=by lia
   have hv:=Tj il;obtain⟨wd,hwd,iw⟩:=hY.get hv;generalize ys[k]=v at hv iw;have gw:ws.getD k J=wd:=by rw[S8,hwd];rfl
   have F7:Fr H6 H7:=SameBut.fr s7 uk;have Q7:=s7 _ _ (nw _ _ kC) kC;have Q8:=aH.FH iw F7;have SK:=(pm k (by lia)).length_eq;have SN:=pZ (FW k (by lia)) (by lia) (by lia);refine bf (λG H8=>G=[O (.ref x),O (.ref w),O (.ref a),O (.int at_),O (.int c),O (.int i),O (.int (so:Int)),O (.int s),O (.int (n:Int)),O (.ref lr),O sv,O (.ref lh),O (.ref lw),O (.int k)]/\SameBut w H7 H8/\TabAt H8 w (cM (fT tw i ws k) (i,(k:Int)))) (λN hN=>?_) ?_
   .obtain⟨zN,qU,zO⟩:=id kD;rfl';refine#[.inr #[_,.inl qU],aU,λpt mn=>?_];have u1:=av (o:=.tup [.int i,.int k]) mn;refine#[zN,u1 _ _ qU,a8 i (k:Int),ao,λv j=>?_,λQ9=>?_]
    .have sb:SameBut w H7 (upd (upd H7 pt (.tup [.int i,.int k])) w (.dT (iG zN (a8 i (k:Int))))):=λz o hz h=>by rw[az hz];exact u1 _ _ h
     exact hN _ _ #[Y,sb,_,ao,aK.drop (s:=(i,(k:Int))) (zO.imp λv a b y=>y.fr (SameBut.fr sb qU))]
    .refine hN _ _ #[Y,λz o j h=>u1 _ _ h,?_];cases kA:dU (fT tw i ws k) (i,(k:Int)) with
     | none=>rw[E5 kA];exact kD.same u1
     | some z =>
      obtain⟨vv,hvv,j⟩:=(zO.val (i,(k:Int))).2 _ kA;exact absurd (hvv.symm.trans Q9) λz=>nomatch z
   rintro j yR G H8 ⟨rfl,s8,FX⟩;subst yR;obtain⟨zN,qU,zO⟩:=id kD;have F8:Fr H7 H8:=SameBut.fr s8 qU;have zP:=s8 _ _ (nw _ _ kC) Q7;have zQ:=aH.FH Q8 F8;have fin:∀ H9,SameBut w H8 H9->TabAt H9 w (ui (fT tw i ws k) i (k:Int) wd)->FN H6 [O (.ref x),O (.ref w),O (.ref a),O (.int at_),O (.int c),O (.int i),O (.int (so:Int)),O (.int s),O (.int (n:Int)),O (.ref lr),O sv,O (.ref lh),O (.ref lw),J] w i tw ws (k+1) [O (.ref x),O (.ref w),O (.ref a),O (.int at_),O (.int c),O (.int i),O (.int (so:Int)),O (.int s),O (.int (n:Int)),O (.ref lr),O sv,O (.ref lh),O (.ref lw),O (.int k)] H9:=λH9 s9 h9=>#[#[_,Y],λz o hz h=>s9 _ _ hz (s8 _ _ hz (s7 _ _ hz h)),by rw[FI,gw];exact h9]
   cases wd with
   | none =>
    obtain rfl:v = .non:=zQ;rfl';refine bX (ak.of zP) (oI hv) ?_;rfl';exact fin _ (λj j j h=>h) FX
   | some z =>
    obtain⟨pz,rfl,hpz⟩:=id zQ;obtain⟨FY,FZ,F0⟩:=id FX;have l8:=F0.len;have d8:(cM (fT tw i ws k) (i,(k:Int))).length<=(fT tw i ws k).length:=Zc _ _;rfl';refine bX (ak.of zP) (oI hv) ?_;rfl';refine bX (ak.of zP) (oI hv) #[aU,λpt mn=>?_];have u1:=av (o:=.tup [.int i,.int k]) mn;refine#[_,je.t (k:=a8 i (k:Int)) (u1 _ _ FZ) ao (Uh (by lia:FY.length<=100) (by decide)),?_];have sb:SameBut w H8 (upd (upd H8 pt (.tup [.int i,.int k])) w (.dT (putK FY (a8 i (k:Int)) (.ref pz)))):=λz o hz h=>by rw[az hz];exact u1 _ _ h
    have fr:=SameBut.fr sb FZ;exact fin _ sb #[_,ao,aK.put (s:=(i,(k:Int))) (w:=z) (F0.imp λv a b y=>y.fr fr) (aO.fr zQ fr)]
  .rintro G H7 ⟨⟨e1,rfl⟩,s7,kD⟩;exact hN _ _ #[#[e1,Y],s7,kD]
 rintro j yR G H7 ⟨⟨e1,rfl⟩,s7,kD⟩;subst yR;have F7:Fr H6 H7:=SameBut.fr s7 uk;have zR:cE T.aB H7 x e t u d m p (ip tb i ws n):=zM.but (SameBut.but s7 (.head _)) (pA uk) (by simpa using λz=>wp z.symm);have F1:=Q6.imp λj j r=>bV.fr r F7;have Ra:=s7 _ _ (nw _ _ FT) FT;have Rb:=s7 _ _ (nw _ _ FU) FU;have SO:=(pm n hn).length_eq;have jE:=FW n hn;have SQ:=pZ jE (by lia) (by lia);obtain⟨⟨d7,Rc⟩,j⟩:=id zR;rfl';refine ND (.lst (ak.of Rb) (zK F1)) (.lst (ak.of Ra) (zK F1)) (.lst (n:=1) λd hd=>?_) (by decide) ?_
 .obtain⟨o,j,rfl⟩:=Ua.mp hd;exact QT o
 rfl';refine#[_,_,Rc,Y,x,p,e,t,u,d,m,_,Y,zR,jE.1,by lia,λl ys H8 s8 j hl hY=>?_];refine#[w,e,t,_,Y,kD.same s8,jE.Ep (pm n hn).symm,by lia,λl2 zs H9 s9 j cH hZ=>?_];exact FE (s9 _ _ hl) cH (hY.imp λj j r=>r.same s9) hZ (DM jE.1 (pm n hn).symm) (q _ _ _ (λz o z1 z2 h=>(s8.trans s9) _ _ (s7 _ _ z2 (s6 _ _ (s5 _ _ z1 (K4 _ _ h))))) (zR.same (s8.trans s9)) jE (kD.same (s8.trans s9)) (pm n hn))
theorem Rf{K:SV}{H:Hp}{a:Td}{m:Int}{Q:VK}(ha:H a=O (.tup [.int 4,.int 17,.int 30]))(m1:1<=m)(m3:m<=3)(q:∀ pt xs H',aj H H'->H' pt=O (.tup xs)->(∀ v∈xs,v∈[V.int 4,V.int 17,V.int 30])->Q (.ref pt) H'):xu K (.ref a) J (O m) H Q∨u7 K (.ref a) J (O m) H Q:=by
 rcases (by lia:m=1∨m=2∨m=3) with rfl|rfl|rfl
 .exact .inr #[a,_,Y,aC.of ha,by decide,λp hp=>q p _ _ (av hp) ao λv hv=>WG (UE hv)]
 .exact .inr #[a,_,Y,aC.of ha,by decide,λp hp=>q p _ _ (av hp) ao λv hv=>WG (UE hv)]
 .exact .inl #[a,_,Y,aC.of ha,by decide,q a _ _ (aj.refl _) ha λv hv=>hv]
theorem um{H H1:Hp}{p w:Td}{k1 k2:List (List Key × V)}(h:∀ z o,z≠p->z≠w->H z=O o->H1 z=O o)(hp:H p=O (.dT k1))(hw:H w=O (.dT k2)):Fr H H1:=λz o hz e=>h z o (λy=>by rw[y,hp] at e;exact hz _ (Option.some.inj e).symm) (λy=>by rw[y,hw] at e;exact hz _ (Option.some.inj e).symm) e
inductive uo(K:SV)(vs:List V)(H:Hp)(Q:VK)(bo:XK):Prop
 | mk(a:Td)(ns:List Int)(_:vs=[.ref a])(_:ak K H a (ns.map V.int))(_:DU ns)(_:∀ H',Q (.bl true) H')
inductive F2(T:Tx K mg)(H:Hp)(a x p w:Td)(e t:Int)(_:Nat)(G:St)(H1:Hp):Prop
 | mk(z1 z2:Option V)(tb:Tb)(_:G=[O (.ref a),O (.ref x),O (.ref w),z1,z2,J])(_:(∀ z o,z≠p->z≠w->H z=O o->H1 z=O o))(_:cE T.aB H1 x e t 3 100000000000000000000000000000000000000000000000000 1 p tb)(_:cC e t tb)(_:TabAt H1 w tb)
inductive Rg(T:Tx K mg)(H:Hp)(a x p w:Td)(z1 z2:Option V)(e t:Int)(_:Nat)(G:St)(H1:Hp):Prop
 | mk(z3:Option V)(tb tw:Tb)(_:G=[O (.ref a),O (.ref x),O (.ref w),z1,z2,z3])(_:(∀ z o,z≠p->z≠w->H z=O o->H1 z=O o))(_:cE T.aB H1 x e t 3 100000000000000000000000000000000000000000000000000 1 p tb)(_:cC e t tb)(_:TabAt H1 w tw)(_:tw.Perm tb)
theorem Rh(T:Tx K mg):Ok P w base 14 T.l6 (uo K):=by
 refine b7 ju ?_;rintro u u u s H u u u hr ⟨a,ns,rfl,hS,hn,q⟩;refine#[_,(au (aG 1 ju.nd (oF T.zh (P7 T) hr.m Y T.Ob T.lY.b .nil cW (ae (aw cR ag (aw dq (aP (nW T) hr (ae (aa 0) (ae ag ai))) ag)) (ae (aw cR ag (aw dq (aP (nW T) hr (ae (aa 0) (ae ag ai))) ag)) (ae ag (ae (aw mG ag ag) (ae ag ai))))))) (au (aG 2 ju.nd C5) (au (i5 V3 Y (rg Y T.tQ (ae (aw eM (bL Y (aa 1) Y) (bL Y (aa 1) Y)) ai)) (gp 3 ju.nd) (ar (aM (dW (aw dq (aw eX (aP (nW T) hr (ae (aa 0) (ae ag ai))) (aw cR (aa 3) ag)) ag) ag) (au (aG 4 ju.nd (bw (ae (aw dq (aa 3) (bL Y (aa 1) Y)) (ae (aw eX (aa 3) (bL Y (aa 1) Y)) ai)))) (au (dC (c7 (aa 1) T.aX T.Ey (E3 T) hr.m T.jw.b .nil cW (ae (aF (aa 4) ag) (ae (aF (aa 4) ag) (ae (aa 3) (ae ck ai)))))) (ar (vn (jd hr) (aa 2) (aa 4) (bw (ae (aa 3) (ae ck ai))) Y)))) aS))) (au (i5 V3 Y (Hr (rD N6 (bw (ae ag (ae ag (ae ag ai)))) rB (rC (aw cR ag (aw dq (aP (nW T) hr (ae (aa 0) (ae ag ai))) ag))))) (gp 5 ju.nd) (ar (aM (d0 (eO (aP (QX T) hr (ae (aa 1) (ae (aa 2) (ae (aa 0) (ae (aa 5) ai))))))) (ar (aD dN)) aS))) (ar (aD dN)))))),?_];refine bf (λG H1=>∃ (x p:Td) (e t:Int),G=[O (.ref a),O (.ref x),J,J,J,J]/\aj H H1/\cE T.aB H1 x e t 3 100000000000000000000000000000000000000000000000000 1 p []/\(1<=e/\e<=7)/\(1<=t/\t<=12)) (λN hN=>?_) ?_
 .rfl';refine#[a,ns,_,Y,hS,by decide,?_];rfl';refine#[a,ns,_,Y,hS,by decide,?_];rfl';refine#[#[by decide,by decide,by decide],λx dx hx ml mm=>?_];generalize he:1+ll ns 0 % 7=e;generalize ht:1+ll ns 1 % 12=t;have Ri:fR e t 3 100000000000000000000000000000000000000000000000000 1:=by unfold fR;lia
  exact#[x,dx,_,_,_,_,_,Y,ao,λz=>absurd Ri z,λu p H5 fp s5 Rj zx=>#[Y,hN _ _ #[x,p,e,t,Y,λb o e=>s5 b o (λz=>by rw[z,hx] at e;cases e) (NH hx ml mm _ _ e),#[#[dx,Rj],[],zx,trivial],by lia,by lia]]]
 rintro u yR G H1 ⟨x,p,e,t,rfl,s1,hB,he,ht⟩;subst yR;refine bf (λG H2=>∃ w,G=[O (.ref a),O (.ref x),O (.ref w),J,J,J]/\aj H1 H2/\H1 w=J/\H2 w=O (.dT [])) (λN hN=>?_) ?_
 .rfl';exact λw hw=>hN _ _ #[w,Y,av hw,hw,ao]
 rintro u yR G H2 ⟨w,rfl,s2,fw,hw⟩;subst yR;have iQ:=hB.same s2;obtain⟨u,kvp,hkp,u⟩:=id hB;have wp:w≠p:=λz=>by rw[z,hkp] at fw;cases fw
 have et:e * t<=7 * 12:=ZJ he.2 ht.2 (by lia) (by decide);have e0:0<=e * t:=ZI (by lia) (by lia);refine bf (λG H3=>∃ n,F2 T H2 a x p w e t n G H3) (λN hN=>?_) ?_
 .obtain⟨⟨dx,hx⟩,u⟩:=id iQ;rfl';refine#[_,_,_,hx,T.aX,T.iU,_,Y,?_];rfl';refine#[_,_,_,hx,T.aX,T.iV,_,Y,?_];rfl';refine#[rO (by lia) (by lia),by lia,by lia,vt (F2 T H2 a x p w e t) #[J,J,[],Y,λu u u u h=>h,iQ,#[ZG,λu h=>nomatch h],[],hw,trivial] ?_ λG H3 h3=>hN _ _ #[_,h3]];rintro k G H3 hk ⟨z1,z2,tb,rfl,s3,iX,hot,pP⟩;rw[WT];have kl:(k:Int)<e * t:=by lia
  have fr:=um s3 (s2 _ _ hkp) hw;have tl:=pZ hot (by lia) (by lia);obtain⟨⟨qQ,iq⟩,mi,ir,jF⟩:=id iX;rfl';refine#[a,ns,_,Y,wC ((s1.trans s2).seq hS) fr,by decide,?_];rfl';refine#[by lia,eY (by lia),dS (λu=>?_) λu=>#[_,_,tb,Y,s3,iX,hot,pP]];refine#[_,_,_,iq,T.aX,T.iU,_,Y,?_];rfl';refine#[by lia,_,_,_,iq,T.aX,T.iU,_,Y,_,Y,by lia,eY (by lia),aU,λpt mn=>?_];have on:(0<=(k:Int) % e/\(k:Int) % e<e)/\0<=(k:Int) / e/\(k:Int) / e<t:=#[#[VD _ (by lia),VL _ (by lia)],Int.ediv_nonneg (by lia) (by lia),Int.ediv_lt_of_lt_mul (by lia) (by rw[Zf];exact kl)]
  generalize (k:Int) % e=i at on ⊢;generalize (k:Int) / e=j at on ⊢;have u1:=av (o:=.tup [.int i,.int j]) mn;have uq:upd H3 pt (.tup [.int i,.int j]) pt=O (.tup [.int i,.int j]):=ao;generalize upd H3 pt (.tup [.int i,.int j])=H4 at u1 uq ⊢;have fQ:=jF.len;refine#[_,_,u1 _ _ iq,Y,aV (aC.of uq) (v:=.int i) Y (aV (aC.of uq) (v:=.int j) Y ?_)];refine#[x,p,e,t,3,_,1,i,j,O (k:Int),J,mi,Y,#[#[qQ,u1 _ _ iq],u1 _ _ ir],by lia,λy=>absurd #[on,Y] y,λu v H5 s5 h5 iv=>?_];have f5:Fr H4 H5:=SameBut.fr s5 (u1 _ _ ir);have qT:TabAt H5 w tb:=(pP.same u1).but (SameBut.but s5 (.head _)) (pA (u1 _ _ ir)) (by simpa using wp);have qS:cE T.aB H5 x e t 3 100000000000000000000000000000000000000000000000000 1 p (fh tb (i,j) (O (k:Int),J)):=(iX.same u1).now f5 #[_,h5,aK.put (s:=(i,j)) (w:=(O (k:Int),J)) (jF.imp λv a b y=>(y.same u1).fr f5) iv];obtain⟨F3,zS,F4⟩:=id qT;have SR:=F4.len;refine#[aU,λr hr=>?_];have u2:=av (o:=.tup [.int k,.non]) hr;have sO:upd H5 r (.tup [.int k,.non]) r=O (.tup [.int k,.non]):=ao;generalize upd H5 r (.tup [.int k,.non])=H6 at u2 sO ⊢;refine#[_,je.t (k:=a8 i j) (u2 _ _ zS) (u2 _ _ (f5 _ _ (λu z=>nomatch z) uq)) (Uh (by lia:F3.length<=100) (by decide)),?_];have sb:SameBut w H6 (upd H6 w (.dT (putK F3 (a8 i j) (.ref r)))):=λz o hz h=>by rw[az hz];exact h
  have f7:=SameBut.fr sb (u2 _ _ zS);refine#[_,_,fh tb (i,j) (O (k:Int),J),Y,λz o z1 z2 h=>sb _ _ z2 (u2 _ _ (s5 _ _ z1 (u1 _ _ (s3 _ _ z1 z2 h)))),(qS.same u2).but (SameBut.but sb (.head _)) (pA (u2 _ _ zS)) (by simpa using λz=>wp z.symm),hot.put on,_,ao,?_];exact aK.put (s:=(i,j)) (w:=(O (k:Int),J)) (F4.imp λv a b y=>(y.same u2).fr f7) (aO.fr #[r,Y,sO] f7)
 rintro u yR G H3 ⟨u,z1,z2,tb,rfl,s3,iX,hot,hW⟩;subst yR;have fr:=um s3 (s2 _ _ hkp) hw;have pQ:=wC ((s1.trans s2).seq hS) fr;rfl';refine#[by decide,λpt mn=>?_];have u1:=av (o:=.tup [.int 4,.int 17,.int 30]) mn;refine#[a,ns,_,Y,u1.seq pQ,by decide,?_];rfl';refine Rf ao (by lia) (by lia) λpt xs H4 s4 F6 qP=>#[_,Y,#[_,aC.of F6],?_]
 have S4:=u1.trans s4;obtain⟨u,Q0,n6,u⟩:=id (iX.same S4);obtain⟨SU,F9,u⟩:=id (hW.same S4);refine JO (xs:=xs) (Rg T H4 a x p w z1 z2 e t) #[J,tb,tb,Y,λu u u u h=>h,iX.same S4,hot,hW.same S4,.refl _] ?_ ?_ ?_
 .rintro i G H5 u ⟨u,u,u,u,s5,u⟩;exact aC.of (um s5 n6 F9 _ _ (λu z=>nomatch z) F6)
 .rintro i v G H5 hv ⟨z3,Rk,tw5,rfl,s5,qS,Rl,qT,Rm⟩;have kM:=um s5 n6 F9;have kA:∃ n:Int,v = .int n/\0<=n:=by
   have:=qP v (Ui hv);simp only[Tz,Xt,or_false] at this;rcases this with rfl|rfl|rfl
   .exact#[4,Y,by decide]
   .exact#[17,Y,by decide]
   .exact#[30,Y,by decide]
  obtain⟨n,rfl,n0⟩:=kA;rfl';refine#[x,p,w,a,ns,n,e,t,3,_,1,Rk,tw5,Y,qS,he,ht,Rl,qT,Rm,wp,wC (S4.seq pQ) kM,n0,λRn tw6 H6 s6 zM Ro uj Rp=>?_];rfl';exact#[_,Rn,tw6,Y,λz o z1 z2 h=>s6 _ _ z1 z2 (s5 _ _ z1 z2 h),zM,Ro,uj,Rp]
 .rintro G H5 ⟨u,u,u,rfl,u⟩;rfl';exact q _
end
theorem Fb.fp{K:SV}{x q:Str}{st:Vt}{N ps:List Str}{p:Td->Prop}(b:Fb K x q st p)(S:Sc N ps st):∃ F:Fm K x q st ps,p F.a :=
 let ⟨a,l,c,k⟩:=b;#[#[_,_,jc l c k,(jc l c k).binds (S.b x q)],a]
theorem Rq{l:Zq}{w:Ul}{K:SV}{h:UU}{mg:Str->Option SY}{fa:Td}(X:K.In h)(G9q:h.Ns TN mg)(Rr:mg "law" = O (.ref fa)){ig tR:Td}{l7 bg:Td}{kr ku:Td}{bS aB:Td}{cT cP:Td}{b8 bj bG:Td}{Rt Ru:abT}{Rv Rw:Tok}(Rx:Um K TN "GazeError" = O (O (.ref ig)))(Ry:Um K TN "NoRatio" = O (O (.ref tR)))(Rz:Um K TN "NoGauge" = O (O (.ref l7)))(RA:Um K TN "OffGauge" = O (O (.ref bg)))(RB:Um K TN "NoSills" = O (O (.ref kr)))(RC:Um K TN "NoBoard" = O (O (.ref ku)))(RD:Um K TN "NoTelling" = O (O (.ref bS)))(RE:Um K TN "Board" = O (O (.ref aB)))(RF:Um K TN "Gauge" = O (O (.ref cT)))(RG:Um K TN "Eye" = O (O (.ref cP)))(RH:Um K TN "Plain" = O (O (.ref b8)))(RI:Um K TN "Gauged" = O (O (.ref bj)))(RJ:Um K TN "Contact" = O (O (.ref bG)))(ie:Fb K "listen" "listen" xy (bF K "listen"))(qe:Fb K "is_crossed" "is_crossed" xA (bF K "is_crossed"))(qf:Fb K "widened" "widened" xB (bF K "widened"))(lY:Fb K "__init__" "Board.__init__" xC (bz K aB "__init__"))(jv:Fb K "has_eye" "Board.has_eye" xD (bz K aB "has_eye"))(ke:Fb K "has_turn" "Board.has_turn" xE (bz K aB "has_turn"))(jw:Fb K "tell" "Board.tell" xF (bz K aB "tell"))(kf:Fb K "hush" "Board.hush" xG (bz K aB "hush"))(kg:Fb K "word" "Board.word" xH (bz K aB "word"))(jx:Fb K "tellings" "Board.tellings" xI (bz K aB "tellings"))(jy:Fb K "check_spot" "Board.check_spot" xJ (bz K aB "check_spot"))(kh:Fb K "check_word" "Board.check_word" xK (bz K aB "check_word"))(qg:Fb K "greatest_divisor" "greatest_divisor" xM (bF K "greatest_divisor"))(qh:Fb K "ratio" "ratio" xN (bF K "ratio"))(qi:Fb K "plus" "plus" xO (bF K "plus"))(qj:Fb K "minus" "minus" xP (bF K "minus"))(qk:Fb K "times" "times" xQ (bF K "times"))(ql:Fb K "under" "under" xR (bF K "under"))(qm:Fb K "floored" "floored" xS (bF K "floored"))(qo:Fb K "raised" "raised" xT (bF K "raised"))(qp:Fb K "is_rising" "is_rising" xU (bF K "is_rising"))(qr:Fb K "on_line" "on_line" xV (bF K "on_line"))(qt:Fb K "lies_between" "lies_between" xW (bF K "lies_between"))(ki:Fb K "led" "led" xX (bF K "led"))(lZ:Fb K "__init__" "Gauge.__init__" xY (bz K cT "__init__"))(jz:Fb K "forth" "Gauge.forth" xZ (bz K cT "forth"))(qu:Fb K "settled" "settled" x3 (bF K "settled"))(kj:Fb K "check_sills" "check_sills" x6 (bF K "check_sills"))(qv:Fb K "by_state" "by_state" x8 (bF K "by_state"))(gs:Fb K "__init__" "Eye.__init__" x9 λf=>bz K cP "__init__" f/\bz K b8 "__init__" f/\XU K (.ref cP) (.type "type") "__init__" = O (.val (.ref f)))(dg:Fb K "slack" "Eye.slack" ya λf=>bz K cP "slack" f/\bz K b8 "slack" f/\bz K bj "slack" f/\bz K bG "slack" f)(cS:Fb K "slackened" "Eye.slackened" yb λf=>bz K cP "slackened" f/\bz K b8 "slackened" f/\bz K bj "slackened" f/\bz K bG "slackened" f)(km:Fb K "stretches" "Plain.stretches" yc (bz K b8 "stretches"))(qw:Fb K "forth_or_none" "forth_or_none" yd (bF K "forth_or_none"))(l0:Fb K "__init__" "Gauged.__init__" ye (bz K bj "__init__"))(kn:Fb K "seen" "Gauged.seen" yf (bz K bj "seen"))(ko:Fb K "stretches" "Gauged.stretches" yg (bz K bj "stretches"))(l5:Fb K "__init__" "Contact.__init__" yh (bz K bG "__init__"))(kq:Fb K "stretches" "Contact.stretches" yi (bz K bG "stretches"))(qx:Fb K "_law_cell" "_law_cell" yj (bF K "_law_cell"))(qy:Fb K "_law_end" "_law_end" yk (bF K "_law_end"))(qz:Fb K "_law_raw" "_law_raw" ym (bF K "_law_raw"))(qA:Fb K "_law_gauged_word" "_law_gauged_word" yn (bF K "_law_gauged_word"))(qB:Fb K "_law_words" "_law_words" yo (bF K "_law_words"))(qC:Fb K "_law_eye" "_law_eye" yp (bF K "_law_eye"))(qD:Fb K "_law_refused" "_law_refused" yq (bF K "_law_refused"))(qE:Fb K "_law_due" "_law_due" yr (bF K "_law_due"))(qF:Fb K "_law_no_deeds" "_law_no_deeds" yt (bF K "_law_no_deeds"))(qG:Fb K "_law_heard" "_law_heard" yu (bF K "_law_heard"))(l6:Fb K "law" "law" yw (bF K "law"))(RK:Um K TN "abs" = O J)(RL:Um K TN "all" = O J)(RM:Um K TN "enumerate" = O J)(RN:Um K TN "isinstance" = O J)(RO:Um K TN "len" = O J)(RP:Um K TN "list" = O J)(RQ:Um K TN "range" = O J)(RS:Um K TN "sorted" = O J)(RT:Um K TN "zip" = O J)(aX:bP K aB)(iU:TK K (.ref aB) "eyes" = O J)(iV:TK K (.ref aB) "turns" = O J)(ze:TK K (.ref aB) "up" = O J)(zf:TK K (.ref aB) "down" = O J)(zg:TK K (.ref aB) "most" = O J)(jA:TK K (.ref aB) "told" = O J)(zh:VA K aB=true)(RU:Ux K (.ref aB)=true)(nR:bP K cT)(tT:TK K (.ref cT) "knots" = O J)(zi:VA K cT=true)(RV:Ux K (.ref cT)=true)(EC:bP K cP)(ED:TK K (.ref cP) "drift" = O J)(EE:TK K (.ref cP) "since" = O J)(EF:VA K cP=true)(RW:Ux K (.ref cP)=true)(nS:bP K b8)(tU:TK K (.ref b8) "drift" = O J)(tV:TK K (.ref b8) "since" = O J)(zj:VA K b8=true)(RX:Ux K (.ref b8)=true)(fo:bP K bj)(tW:TK K (.ref bj) "drift" = O J)(tX:TK K (.ref bj) "since" = O J)(nU:TK K (.ref bj) "gauge" = O J)(qH:TK K (.ref bj) "error" = O J)(zk:VA K bj=true)(RY:Ux K (.ref bj)=true)(gu:bP K bG)(tY:TK K (.ref bG) "drift" = O J)(tZ:TK K (.ref bG) "since" = O J)(t4:TK K (.ref bG) "many" = O J)(t5:TK K (.ref bG) "low" = O J)(t6:TK K (.ref bG) "high" = O J)(zm:VA K bG=true)(RZ:Ux K (.ref bG)=true)(R0:Yt K (.ref cP) "__getattribute__" = O (O (.builtin "type.__getattribute__")))(R1:aa3 K cP (.type "type")=true)(zo:XC K l7)(nV:XC K bg)(zp:XC K kr)(qI:XC K ku)(kx:XC K bS)(Ga:YJ K ig=O Rt)(Gb:Xe K (.ref ig)=O (.type "type"))(Ge:Wc K (.ref ig) (.type "BaseException")=O true)(R3:Wc K (.ref bg) (.ref ig)=O true)(R4:Wc K (.ref bS) (.ref ig)=O true)(R5:YJ K bg=O Ru)(R6:Xe K (.ref bg)=O (.type "type"))(R7:Wc K (.ref bg) (.type "BaseException")=O true)(R8:Wc K (.ref bg) (.ref bg)=O true)(R9:U7 K (.ref bg) (.ref bg)=O true)(Sa:U7 K (.ref bg) (.ref bS)=O false)(Sb:U7 K (.ref bS) (.ref bS)=O true)(Sd:U7 K (.ref bS) (.ref bg)=O false)(Se:Um K TN "EYES_AT_MOST" = O (O (.int 7 Rv)))(Sf:Um K TN "TURNS_AT_MOST" = O (O (.int 12 Rw)))
 : ∃ fd:Vg,(∀ (s:SX)(v:SY),aaa s fd #[[v],[]] [("_law_script",v)])/\∀ base:UU,K.In base->base.Ns TN mg->cn l.prog w K mg base (bW l.prog w) 14 fa fd ["_law_script"] (uo K):=by
 obtain⟨ie⟩:=ie.fn X G9q nM;obtain⟨qe⟩:=qe.fn X G9q yx;obtain⟨qf⟩:=qf.fn X G9q p9;obtain⟨lY,Gg⟩:=lY.fm yy;obtain⟨jv,Gi⟩:=jv.fm yz;obtain⟨ke,Gj⟩:=ke.fm yA;obtain⟨jw,Gk⟩:=jw.fm yB;obtain⟨kf,Gn⟩:=kf.fm yC;obtain⟨kg,Gq⟩:=kg.fm yD;obtain⟨jx,Gr⟩:=jx.fm yE;obtain⟨jy,Gs⟩:=jy.fm yF;obtain⟨kh,Gu⟩:=kh.fm yG;obtain⟨qg⟩:=qg.fn X G9q nN;obtain⟨qh⟩:=qh.fn X G9q qa;obtain⟨qi⟩:=qi.fn X G9q yH;obtain⟨qj⟩:=qj.fn X G9q yI;obtain⟨qk⟩:=qk.fn X G9q yJ;obtain⟨ql⟩:=ql.fn X G9q yK;obtain⟨qm⟩:=qm.fn X G9q yL;obtain⟨qo⟩:=qo.fn X G9q yM;obtain⟨qp⟩:=qp.fn X G9q yN;obtain⟨qr⟩:=qr.fn X G9q tM;obtain⟨qt⟩:=qt.fn X G9q yO;obtain⟨ki⟩:=ki.fn X G9q qb;obtain⟨lZ,Gv⟩:=lZ.fm qc;obtain⟨jz,Gw⟩:=jz.fm yP;obtain⟨qu⟩:=qu.fn X G9q iT;obtain⟨kj⟩:=kj.fn X G9q yQ;obtain⟨qv⟩:=qv.fn X G9q yS;obtain⟨gs,Gx,Gy,Sg⟩:=Fb.fp gs yT;obtain⟨dg,GA,GB,GC,GD⟩:=Fb.fp dg yU;obtain⟨cS,GF,GG,GH,GI⟩:=Fb.fp cS nO;obtain⟨km,GJ⟩:=km.fm yV;obtain⟨qw⟩:=qw.fn X G9q yW;obtain⟨l0,GK⟩:=l0.fm yX;obtain⟨kn,GL⟩:=kn.fm lU;obtain⟨ko,GN⟩:=ko.fm yY;obtain⟨l5,GO⟩:=l5.fm yZ;obtain⟨kq,GP⟩:=kq.fm lV;obtain⟨qx⟩:=qx.fn X G9q y0;obtain⟨qy⟩:=qy.fn X G9q y9;obtain⟨qz⟩:=qz.fn X G9q tN;obtain⟨qA⟩:=qA.fn X G9q lW;obtain⟨qB⟩:=qB.fn X G9q fN;obtain⟨qC⟩:=qC.fn X G9q za;obtain⟨qD⟩:=qD.fn X G9q lX;obtain⟨qE⟩:=qE.fn X G9q zb;obtain⟨qF⟩:=qF.fn X G9q qd;obtain⟨qG⟩:=qG.fn X G9q fO;obtain⟨l6⟩:=l6.fn X G9q ju;cases Rr.symm.trans l6.m;exact#[_,l6.bt ju,λy y y=>Rh (#[ie,qe,qf,lY,jv,ke,jw,kf,kg,jx,jy,kh,qg,qh,qi,qj,qk,ql,qm,qo,qp,qr,qt,ki,lZ,jz,qu,kj,qv,gs,dg,cS,km,qw,l0,kn,ko,l5,kq,qx,qy,qz,qA,qB,qC,qD,qE,qF,qG,l6,UO X G9q RK,UO X G9q RL,UO X G9q RM,UO X G9q RN,UO X G9q RO,UO X G9q RP,UO X G9q RQ,UO X G9q RS,UO X G9q RT,ig,Uy X G9q Rx,tR,Uy X G9q Ry,l7,Uy X G9q Rz,bg,Uy X G9q RA,kr,Uy X G9q RB,ku,Uy X G9q RC,bS,Uy X G9q RD,aB,Uy X G9q RE,cT,Uy X G9q RF,cP,Uy X G9q RG,b8,Uy X G9q RH,bj,Uy X G9q RI,bG,Uy X G9q RJ,aX,iU,iV,ze,zf,zg,jA,#[zh,Gg.1,Gg.2,RU],#[Gi.1,Gi.2,jv.F.kp],#[Gj.1,Gj.2,ke.F.kp],#[Gk.1,Gk.2,jw.F.kp],#[Gn.1,Gn.2,kf.F.kp],#[Gq.1,Gq.2,kg.F.kp],#[Gr.1,Gr.2,jx.F.kp],#[Gs.1,Gs.2,jy.F.kp],#[Gu.1,Gu.2,kh.F.kp],nR,tT,#[zi,Gv.1,Gv.2,RV],#[Gw.1,Gw.2,jz.F.kp],EC,ED,EE,#[EF,Gx.1,Gx.2,RW],#[GA.1,GA.2,dg.F.kp],#[GF.1,GF.2,cS.F.kp],nS,tU,tV,#[zj,Gy.1,Gy.2,RX],#[GB.1,GB.2,dg.F.kp],#[GG.1,GG.2,cS.F.kp],#[GJ.1,GJ.2,km.F.kp],fo,tW,tX,nU,qH,#[zk,GK.1,GK.2,RY],#[GC.1,GC.2,dg.F.kp],#[GH.1,GH.2,cS.F.kp],#[GN.1,GN.2,ko.F.kp],#[GL.1,GL.2,kn.F.kp],gu,tY,tZ,t4,t5,t6,#[zm,GO.1,GO.2,RZ],#[GD.1,GD.2,dg.F.kp],#[GI.1,GI.2,cS.F.kp],#[GP.1,GP.2,kq.F.kp],#[R0,R1,Sg,gs.F.kp],zo,nV,zp,qI,kx,vy Ga Gb R3 Ge,vy Ga Gb R4 Ge,vy R5 R6 R8 R7,R9,Sa,Sb,Sd,#[_,Uy X G9q Se],#[_,Uy X G9q Sf]]:Tx K mg)]
theorem walk{l:Zq}{q:Tv}{loose:List Str}{XP:(Str->Option SY)->UU->Prop}{YP:Ul->UU->Prop}{d:DefRec}{K:Params->SV}(hn:l.most=O 63)(Sh:d.params.defaults=[])
 (hY:∀ (w:Ul) (h:UU),YP w h->(K w.params).In h)
 (F:∀ (w:Ul) (mg:Str->Option SY) (fa:Td) (h:UU),(K w.params).In h->h.Ns TN mg->mg d.name=O (.ref fa) ->
   ∃ fd:Vg,(∀ (s:SX) (u:SY),aaa s fd #[[u],[]] [("_law_script",u)])/\∀ base:UU,(K w.params).In base->base.Ns TN mg->cn l.prog w (K w.params) mg base (bW l.prog w) 14 fa fd ["_law_script"] (uo (K w.params))) :
 abL q loose XP YP l.row.toRowW d [] (λf vs=>PySem.call f vs) :=
 Gz.MW (k:=14) (x := "_law_script") (CX:=λw=>bW l.prog w) (sp:=λw=>uo (K w.params)) hn Sh #[Y,by decide,by decide] hY F (λy y a ns hl hS=>#[a,ns,Y,hS,hl,λy=>rfl]) λy y y y y z=>JD z
end xw
set_option hygiene true
local macro_rules|`(tactic|walk_at "gzin")=>`(tactic|first | (show _ = _; k_is) | (refine' And.intro ?y7 ?y8; (case y7 => walk_at "gzin"); (case y8 => walk_at "gzin")))
local macro_rules|`(tactic|walk_at "f")=>`(tactic|(refine' Gz.Fb.mk ?y1 ?y2 ?y3 ?y4; (case y1 => first | (show _ = _; k_is) | (refine' ⟨?y5, ?y6⟩; (case y5 => k_is); (case y6 => k_is))); (case y2 => k_is); (case y3 => k_is); (case y4 => k_is)))
local macro_rules|`(tactic|walk_at "gzfi")=>`(tactic|(refine' Gz.Fb.mk ?y1 ?y2 ?y3 ?y4; (case y1 => walk_at "gzin"); (case y2 => k_is); (case y3 => k_is); (case y4 => k_is)))
local macro_rules|`(tactic|walk_at "l")=>`(tactic|(refine' L2.bP.mk ?_ ?_ ?_ ?_ <;> k_is))
local macro_rules|`(tactic|walk_at "x")=>`(tactic|(refine' Gz.XC.mk ?y1 ?y2 ?y3 ?y4 ?y5 ?y6; (case y1 => k_exc); (case y2 => k_is); (case y3 => k_is); (case y4 => k_is); (case y5 => k_is); (case y6 => k_is)))
namespace HK
theorem cut{A B C D:Type}{f:A->C}{g:B->C}{a b:D}{l:List A}{m:List B}(n:Nat)(x:((l.take n).map f,a)=((m.take n).map g,b))(y:a=b->(l.drop n).map f=(m.drop n).map g):l.map f=m.map g:=by rw[<- Vk n l,<- Vk n m,UQ,UQ,(Prod.mk.inj x).1,y (Prod.mk.inj x).2]
noncomputable def q:PySem.Program:={ PySem.Challenge.pw_gaze_k19_listens with main:={ PySem.Challenge.pw_gaze_k19_listens.main with body:=PySem.Challenge.pw_gaze_k19_listens.main.body.drop 54 } }
noncomputable def l:List ab8:=["_wall","__name__","GazeError","NoRatio","NoGauge","OffGauge","NoSills","NoBoard","NoTelling","listen","is_crossed","widened","EYES_AT_MOST","TURNS_AT_MOST","Board","greatest_divisor","ratio","plus","minus","times","under","floored","raised","is_rising","on_line","lies_between","led","Gauge","settled","check_sills","by_state","Eye","Plain","forth_or_none","Gauged","Contact","_law_cell","_law_end","_law_raw","_law_gauged_word","_law_words","_law_eye","_law_refused","_law_due","_law_no_deeds","_law_heard"].map PySem.Str.ofString
end HK
local macro_rules | `(tactic| refine $t) => do { let s := t.raw; let as := s[1].getArgs; if s.isOfKind ``Lean.Parser.Term.app && Nat.blt 18 as.size && as[4]![3].isOfKind ``Lean.Parser.Term.app then { let H : Lean.Term := Lean.TSyntax.mk as[4]![3][1][0]; let c := Lean.quote 60; let go (a f : Lean.Term) : Lean.MacroM Lean.Term := do { let mut ls := [a]; for _ in List.range 9 do { ls := (<- `(List.drop $c $(ls.head!))) :: ls }; let mut x <- `(List.map $f $(ls.head!)); for l in ls.tail do { x <- `((List.map $f (List.take $c $l), $x)) }; return x }; let mut p <- `(e); for _ in List.range 9 do { p <- `(HK.cut $c e fun e => $p) }; let nm (w : String) (v : Lean.Term) : Lean.MacroM Lean.Syntax := do { return (<- `(f ($(Lean.mkIdent (.mkSimple w)) := $v))).raw[1][0] }; let q0 := as[0]![3]; let q1 <- `(HK.q); let sub (x : Lean.Syntax) : Lean.Syntax := Id.run (x.replaceM fun y => if y.structEq q0 then some q1.raw else none); let y1 <- go (Lean.TSyntax.mk H.raw[1][1][1]) (<- `(s.heap.get?)); let y2 <- go (<- `($(Lean.TSyntax.mk H.raw[1][1][0]) w.params)) (<- `(fun p => some p.2)); let as := (((((as.set! 0 (<- nm "q" q1)).set! 1 (<- nm "loose" (<- `(HK.l)))).set! 2 (sub as[2]!)).set! 3 (sub as[3]!)).set! 4 (<- nm "Yf" (<- `(fun s => $y1)))).set! 5 (<- nm "Ya" (<- `(fun w => $y2))); let as := as.set! 9 (<- `((fun w s e => PySem.W.Hook.of $H w s $p))); `(tactic| refine $(Lean.TSyntax.mk (s.setArg 1 (Lean.mkNullNode as)))) } else { Lean.Macro.throwUnsupported } }
namespace PySem.W.Fast
def Z:=Nat
local macro_rules|`(command|#print $s:str)=>do
 let mut r:=Array.empty;let mut n:=0;let mut k:=0
 for c in s.getString.toList do
  n:=n*62+(c.toNat-48-c.toNat/65*7-c.toNat/97*6);k:=k+1
  if k%11=0 then
   let i:=Lean.mkIdent (.mkSimple s!"tw{n}");r:=r.push (←`(command|def $i:ident:=Z));n:=0
 return Lean.mkNullNode r
#print"9dLLULo8PRSFGUYlGWUl751DYj2ZK0fAA3mLZ5SxnUBO9mo2oVsz85t0cBEWkV8lLwK4JN0kBDRC5EWCtJVE1DdP6ouaMTQUD434TADy0qrc22GRC4Am7JkBGDgHY2xkSjbf3UfX9sfgpnQ3UlFOH6IuV9FxDjw3i0yIa2tAg2CMmvSE4n0QMmOjcckAgbHYkRish6LDnW92hJwN1B0ZOlzXhvBD86dJAVnhYzKHpRGyNYs8SZCSahdd9sgyfIxjjPfpZQKEHLw9ARPtukgEIIyszNvSyV3pMVsWGTBZg8Z1iwcznYlmGUs3uZu9Q0R7YMUVQXAWnP5nHcJ9lRzxFKNf7tnBVhNdA6U8giTIjXxGnCVAJ7y9fv9NuysREIqZ0JoK6ofwvS0N8JNYGeiThmy5VvVKQhiusD4lvQlZfjREY5jRHes5vTqW6ooHOPlaO8JCrwi1COrjYK1REjvLkl5HKCgFEmrfPqx5IRhENLtx9Iu0yQXrTmYfwZEvSWt89fFL43N0XbdjhJ1y2pmdkfl5G4RLcxVs2h37aH76XcyzQNIOY2WLr8pAKCIB6D4FzGsK63qEr8isLt9Ul3H4etTOD9KwF3IIjQwHhLJwEF2E8aAH0BaIQLN3EH1vCf2Z0YT4bFOZh9UVTVr4ntgMGZ3oxaT5ewh0BW2G3LqzGAKZVT251iCrhISQvTmeRy3AAd4725mgm8M5JFaDdYkg7y6fERKkbZ7dwDpC6HQcA9Ax1OJ6XNuQRWVHoUBY30RoYsGl2wTnygJdy1ywpLXkPb08ClMnpDztQ59Bh1Y3TBCP63Hcl05GWQkuW2jFYeOI5gvk2fFgDpzOuLG4iVHmYwlDphD75JHy2sgVA3I1ohoPixR0Fs94IWbEuLtGWnxUOCl3XtInsBXfYkN7IGt8pkZ7Cpze1PT4lcwzSYpGES2KuI9xOGG4a530AtZB7G5pKcUO2lJ9Lg2oTQMV6PjEzbjrFjqvhcFHNMysoOQ15GBpC1gZz1fGHHkpZRrYZ9DKe9zOUenzek7GUlH8cWOmWKWTsOapaeHjHgBVkkDNNv0IayxrIUEmkRJYW0VuF04yMG5uMprVyOMrJZuuHRIfq5L4lDEgRSJweNFI9D2EmWA1eKt6uFXJKNVU25apyhCl57SBxowhpZhlQRIQ2I00r4BriD0CWXAblTJ57SaCvsxDQk7H8jZSa6JtTG4bEXx9fdLu9FVYJfetm3Dk27vVW5qoWjC8La6ftmbDR4A1bETwBK4ByDS1CB1UHG6JI3uXTCAc7lc0oYyYmOCM83F7xljRK5UcI6Y6y8KbWTUSFiV7eutIXldJIObx53YyHuCgs6lLlnmEcHpMFImOF92y8zv41bhKxLE5ebqvkMQA7KDyt0O1xIbLK3hgiuzmkgvZIKnsizrSMxE7G0HQ6hU5c7GokR6uXzWSOA9WF3d7vqLq8qC5nCyqaep1QGL8WaFZelC6s7lLzLagaIIWswZJy1kv2dG1z5Wxm5o0q36zNzFNobFlKILcbE4VWAFELXN6uQdR2NVmvvxfVDC7UqJlFHrORDJ22sLyqTqmu5qXVjsrHvEhHs768VxqLH68tWmiROcrLoBSIRput7pvVBGWXOEr9xdC3KvnwGjiE6v1bLRNJwLyGPAbGMIpqtS5c9zVOXZ0KidJ3CzIApCPqnTImkDnDigfwb0tyYG8eEq8FG8lS4iXR2XL56wQTors6B53nNAvukn5UrJeV9kQ89N8e3OWktYIzGQFEg0bqnIy1zZ1VnGDuZJowVJPolMiDPPg21AQUs7oA3sn3J783CLdfFK8kroIjjsw9aKvKXUn5OCDsAjUFUibqolmGHs3nQNYLBOHByeScH3yCGLGj1HYqpVJL4M6ZJmwTHBU0xasBBJGGtYLBfBKXh4g5p0F1iOf45mDBLOBBV9Fnwgo6lJGzLAxda8KMFW9hd6ojpDt6dhXQ5My0JFxaLrs7O736NIJgpgiNwt62MHGvB5zwuDaQpXFROhYJ09FP5TpJqjN5YTMYjqw2Jy5yUX2xI6ybKJDbjAZDsKCRCoPA3IxuO0o6OdDgjwNwb5KMecHiBGcb5LE8O6QKS86FFrpxJ3XQtla25P1wX9nGaTLeLo9byzFjV4xf18rGtERKKam5shmoKeqEoECEyezHiMKY0Xp5fYca0CbcDWLRNfGbHzjBGgbvUqAHFb8qJfeajW6tpHJM8akXYIoMzGgKEKVt0r3XIEcJq7g4DOFeatDo4X14qQNM9Nfcw9AKmQSKrwLRExsrJe6G07x5Bf58oFZDUNK4PuWbFRdOtKmxyqLA6yiIB9CQ6FSCd7D3wOZIauzVfuKb5xqhjRZs0FLzO6M1ZAyT7rljCXD47xUCWnSyRQGEM06lQNY7cdRrn4WDue8FIXCgGmgUzMR6NvwJ1SH8LaVNUW7tworYRPnG1CoL29c83ohoLPuLImBBJrUIN37vI3yPbmDH6qWKofdU2Lec821SB1hh1f8TPLMcEwV0wqHI9EeE7xKq485cH7O23L5thq3VTmG8GEB29oDd1aE7OdiPIyUa28CvLFh0dcCx2ELlNlemv7S5CemEeXHMG4638deYW7f6HoA3TVEvTwHwfDfy73ws2CLVE5p2Dy3EDCp1dDZvdvs8Rn5GEzLxSqhFd1AQDdHCIEpZ3YdS2h5S3qU3S9vTBvBKIr9kQ26udNimCCLQXE2GSwW64kM35SHKt5T8lg8D0rphM05k810NQ6gcxAjERcDtVvMPKy5gZxEjALqI1V0lAu2Gp1FS6TR1CuU5zBgTgEPqG0rx6fo9TtRF2QfDGtFBVeSG7K0rPD83LqhHi8MFqy5kW9eV9jUCXHFnXW01KUxJoCsz2TLqGikrS5WXs4sD0ZGW8fS7BNN5e2dEseY0673keFxjLi9r83Ol3xWLI2ihuqSrah3X79fyRT6os4B1UGguKr2njs2FRmKVpc7cg3bJZclT7OlZC7TdAKkOz6k2ROgLP4XYin3pP0IW03DOkEjuZ6ruV8NaLvtqlVLq7T5Eqy6FduzzBMAUZgmxmnbRc8UdH6SMRDh0AHZMsVQEvz760KEjbxhNo76BApPa9GMO7FRjrSzUo8DfD0UkTbaLY9ALFetWfEQbNtJMMHP2AoEHUHGAVi1kn9Q38NHw5k0iK4J80ggzRAKMNC6QK6dmwzWX13b1pAJv1tqFCr2OEALmZKu4B1iV1Db23t54x4BcHDh9NDOEYeDkdPfpEmkjxGOruuMJMnEcNlLZwk0OR4aE64Vqv980tVfaRwtVB1ODddXYmLN09nC3E4qLEsJ5GDc0Xp75iCn0HBwPoz45LPhlA6Ff5Cl0JGiKXMwipa0DuMdKh93YF4GbunNsnazRFRa6j5dSG1P8ti5Wwr9kqYEXeAKfJIom5AfIEtmwkjUmI9y1vXkmNABCE1VaVxoH8H56UoCohFEQtLVi8UfDYXNS5C5nlXsNYUB16jqAUTDxot8Jz6jYNxZJN4WLkZaJz70rCO77iBa2X1cHULz2QtBq5i8dVSHDP9xIA2tY5ywatelfKyUkmo9X8FqAz1MOKLV6cvLnZxDslFqWx38Wg5jfnYjB9JeukFsHhWW465VvOqDY3B0xR4ZfbF9yE9VMKSlQfR5mIPxRuFh5RegBFBmyRGfGUICVq4YWa2suKFESzPUoT3rT9nwqGhe2Xjm03MzmJOy9ltERppTCPZvqF0iyPvpST0M7Ew3SK8Hy9B6Ku4VW1af5fB1rS8jnTkBpe4AidqAPIWBuBhd2CGd98dW7Cvc3TfG6DH8Mqhov0Uie1IcATZgO37F2AyV34ZBstkV2sgBMmVJ5vbDVLsG0pUUSi9WObLqtlpJXIFeTxor9HCaC8iJY6XI3trExDxjuDIa2tA8DNfI0VSinDaEEeOYmauL18ULYcDoY6M5Oa86jWPn4a9YpUot5mwYrHw5otwir7dtFigbrXdNueD6Hm8VD7PiNX5SiFhBZ5UIY5sXTHcoJPC89HCbK9udXXs1xm3uAI4xK74JHCXd6nQTZ1dGWIpkRE5d70Nr3Tc4DNF69lbpaDk6Nt0ibRhK2jycC9JKVOc5qSLp0d0PiKIbAKzFcMvXa216QfB906vZXFodfKj3L59jb5wsIRvvLnLXpME9HaLoTUTpAT1bJMPT0P4MN7fmHVBiZdeeAuqcgzOTe389O6wWUNpJmwAsdXkNUwDvoBBzV0L0OqtIBNPPiBNBuBz8bvhhdBJC6wCL3onX1OmkOK44Iz6wiAghIGx1PmzCM59Cxeu6cgyYUzHinBUwmKeHrKeB1LAcGpJ5GTOotJ3AMTX93nE8Q668bHHR4z2FCScyEETTXy7gdROxETcBS5Qu0jh8hes3nRFXPU2VxijajKqJeCdcT9mU7oHi5FoWuKusLcpJgfN8RoKrOp904SkRUQHEA5E5u9fALeHh8kLJhnxfT6pKNlsGA1ncA3K2HrQ6xsR1I964uiDE9flPGj3GGfdhF5o8FAIH7nFe9E77oYDFuICPv9EygORBkcEZ7Dz5RX1Z1iNKcOEO0YEzqPLTg0YWbvQg0CFcDMSv05Zq2HM7hxvrbXK0UvqrUMseYW4nNF7uhIWOpFdpGS1u4HdOBsumrIT4MrG9PrkoyZ1DAC4b5LjRObAwo6MqqeBFzfFOLqOVc4p9IE2EowFco7i33O72n1xE4IVEAEsewAGiomO0AIeI0VgLDjWKUmSEa09yhzCBi27pWLg155XrMq6FMizlDc3VAh3ghM6HJaizT6WlAbFAA36peZqBQALqr2tsaG6d52oUB1SZHgL9a8v3ZSvhoHGDlo0uQB2thD8JoqxANjJn9ZVxUgMTPRt9snAquxWWLG029ZbWFi5mOEYMZmPejFuH8hJQbPzNGqNDbL6DyhRhrULklokORh7xNFI27jZggZFaL1N3zV9nXhTDrszRaVqqtMJt55QUoObf3KRGTTRdwbVhEnjYftl9XYg8K9vNHMegUQBjVKRQxOismBVcLhNpOcvs5zqkWGyFHykF9EEFzyuVSsG3BGWI0NTzSKXJKIV6FhA5LBBeBeuuDZZCw5UkmLp4fQKbOlBhuWr8t8CiduuHgR36JY8UHuBv74D5c4ndHMdEuk6WssMIRtmik84DX3Oc6VxR7sIhn1wl7Rs7kZBtKOS0XKEqZhMfJz68V1R1YNYYHAymDayv3PdDVLkAu6lEGj6izz1I138VnnzaiImryf8j8J39ARGiLjfrW0DIvroDD2PK039r0PxHVlDnK6Kl6xWooMGDI6xvIENnG7Z2ngWPAid41CEltLcOfz7OGGv4ppqIKeKr0ggUuDgxKtwJc6vl1wgXai0CFZjfPEtHFHZWeyapwJts8aQbdY4m3oqJADB3FN1D2yCIgo6Veni4IDHjlOsdJYXiDWp4o30szrmLeqQgnaLv2h5Yghy6e5dp45UaFYlKCZht3BzOYAKpZxNGkOz7MBjqN40OWR4O2IbOuD1omudHYuizBvoiQ4EeOK95i2k4hersecBCqSLYUrXIC25HjaWy2Nwi58ExXdcXZhhCkyBCuHZ8Pu4tZX5G3Z4DD01dHPgDaRwxHmtv6Q29zfj71iCQ4CQD8GJOyS5BxO4MqAeRTlwUQopX7kqwQCsSRotL9kmWmP9mUX7iyuexHD35qFSisHgdpXtzGvbYeJNBbl2IMm3KY2NsSw82kNCwZYJ6gGBJTdD9Qdr88Q1qn8S2crm7b9Ej8yARnn0bFJOwgMm9zCQ6UUq9rCfcAx2lnYCQi7s85nlQKSonXuBgcQPgyAcMc7aC0ip45rg5EDnQwuVMNAiEOxWNuFtxfkCWNHRV4TpPY4q4A7oEnvxQCLOD1iX3n2AL1NeT9ySFas"
end PySem.W.Fast
open PySem PySem.W PyProof.Rows
set_option maxRecDepth 100000 in
set_option maxHeartbeats 0 in
theorem PySem.Challenge.cw_gaze_k19_listens_holds : PySem.Challenge.rw_gaze_k19_listens.Holds := by
 w_on;o_law;k_head;(case hw=>w_witness2)
 k_fill
 refine xw.walk (l:=PySem.Challenge.rw_gaze_k19_listens) Y Y (λw h Y9q=>PySem.W.kIn_of Y9q) ?F
 case F =>
  intro w mg fa h KX G9q Si;refine' xw.Rq KX G9q Si ?_ ?_ ?_ ?_ ?_ ?_ ?_ ?_ ?_ ?_ ?_ ?_ ?_ ?_ ?_ ?_ ?_ ?_ ?_ ?_ ?_ ?_ ?_ ?_ ?_ ?_ ?_ ?_ ?_ ?_ ?_ ?_ ?_ ?_ ?_ ?_ ?_ ?_ ?_ ?_ ?_ ?_ ?_ ?_ ?_ ?_ ?_ ?_ ?_ ?_ ?_ ?_ ?_ ?_ ?_ ?_ ?_ ?_ ?_ ?_ ?_ ?_ ?_ ?_ ?_ ?_ ?_ ?_ ?_ ?_ ?_ ?_ ?_ ?_ ?_ ?_ ?_ ?_ ?_ ?_ ?_ ?_ ?_ ?_ ?_ ?_ ?_ ?_ ?_ ?_ ?_ ?_ ?_ ?_ ?_ ?_ ?_ ?_ ?_ ?_ ?_ ?_ ?_ ?_ ?_ ?_ ?_ ?_ ?_ ?_ ?_ ?_ ?_ ?_ ?_ ?_ ?_ ?_ ?_ ?_ ?_ ?_ ?_ ?_ ?_ ?_ ?_ ?_ ?_ ?_ ?_ ?_
  rotate_left 17
  iterate 13 k_is
  iterate 29 walk_at "f"
  iterate 3 walk_at "gzfi"
  iterate 18 walk_at "f"
  iterate 9 k_is
  walk_at "l"
  iterate 8 k_is
  walk_at "l"
  iterate 3 k_is
  walk_at "l"
  iterate 4 k_is
  walk_at "l"
  iterate 4 k_is
  walk_at "l"
  iterate 6 k_is
  walk_at "l"
  iterate 9 k_is
  iterate 5 walk_at "x"
  iterate 9 k_is
  iterate 4 kit_is
  iterate 2 k_is
#print axioms PySem.Challenge.cw_gaze_k19_listens_holds
