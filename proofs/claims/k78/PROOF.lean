import PyProof.Rows.All
import Wide.All
import OpenK.AllK
import Wide.FinOn
import Lean
import PyProof.EqAt
import PyProof.EqKinds
import PyProof.TupleCall
import KE.KSortAsk
import KE.KSortTup
import KE.KRevIter
import KE.LcSums
import KE.KDictSum
import KE.KDictList
import PyProof.AttrMissHeap
import PySem.Challenge.RW_gaze_k78_lyings_in_events
set_option Elab.async false
set_option linter.all false
set_option maxRecDepth 100000
set_option maxHeartbeats 4000000
set_option exponentiation.threshold 2000
set_option compiler.extract_closed false
set_option hygiene false
local macro_rules|`(tactic|walk_at "o")=>`(tactic|((try simp only [PySem.Addr] at *); lia))
open Option renaming some->U,none->O
theorem Y{α:Sort u}{a:α}:a=a:=rfl
local macro_rules|`(#[$a,*])=>`(⟨$a,*⟩)
open PySem renaming wpAny_bind->aeM,wpAny_pure->aeR,Value->aeX,Addr->ae0,Shared->ae4,starEach->afb,mainGlobals->afc,wpAny->afe,lookup_relabel_local->afk,sizeLine->afl,bootBuiltins->afC,Program->afG,wpAny_truthy_bool->afH,wpAny_newObj_type->afI,compareOp->af6,wpAny_call_entry->af9,codeAny_builtin->agb,wpAny_mono->age,wpAny_callSpecial?_slot->agl,World->agn,wpAny_Call_Name_kw->ago,wpAny_holding->agr,intItems->agv,backTo->agA,Around->agD,sysModules->agI,wpAny_typeNameOfWhole_keyiter->agK,plainId_quiet->agM,wpAny_dictEntries->agP,mem_of_lookup->agR,wpAny_updateSeq->agS,behindInMarks->agY,builtinLookup_eq_fast->ag2,Heap->ag3,foldedSetIterable->ag8,wpAny_typeNameOf_keyiter->ahc,wpAny_isInstance->ahm,Builtin->ahq,tupleKind_room_in1->ahv,keywordEach->ahx,wpAny_field->ahz,wpAny_specialOf->ahB,tupleKeyHash->ahC,FuncData->ahI,pyNext->ahN,DictEntry->ahP,wpAny_seqItems->ahQ,wpAny_tryCatch->ahR,wpAny_fieldsOf->ahT,binaryOp->ahV,wpAny_askSetting->ahX,codeAny->ahY,sliceBounds->ah0,wpAny_passesOwn->ah6,attributeBase->ah7,wpAny_attempt->ah9,typeLookup_type->aia,wpAny_ite_split->aib,rawInt->aie,PyData->aii,wpAny_pyIter_list->ail,sizeLine_eq->aim,wpAny_setState_of->air,wpAny_setField->ait,codeAny_mono->aix,wpAny_isOneOf_keyiter->aiC,Expr->aiF,intKind->aiG,argBest->aiI,wpAny_execs_nil->aiR,swapsWith->aiS,letOwnedTupleGo->aiT,getMethod->aiV,intItems_at->aiZ,wpAny_dictEpoch->ai5,wpAny_setEntries_of->ai7,Tok->ai8,wpAny_pyIter_tuple->aje,backToKw->ajg,entryFor->ajh,wpAny_setField_rec->ajk,firstArgMember->ajr,tupleKind->ajv,assignEach->ajx,wpAny_getItem_list_slice->ajB,wpAny_comprehension_free->ajC,updateSeq->ajD,wpAny_pyIter_enum->ajE,wpAny_pyIter_slot->ajG,Stmt->ajO,hashInt->ajP,richCompare->ajS,wpAny_letGo->ajT,wpAny_of_eq->ajU,wpAny_eqBool_int->aj2,wpAny_pyNext_range_end->aj8,wpAny_pyIter_rangeiter->aj9,cLine->aka,numAt->akd,wpAny_pyNext_enum_item->ake,wpAny_isTrue_Compare1->akl,standAt->akm,wpAny_typeOf->akr,argsOk->aks,wpAny_pyNext_enum_end->akt,wpAny_notOrdered_dict->akv,size_of_entries->akw,NameKind->akF,typeLookup->akG,wpAny_rule->akH,Scope->akI,codeAny_call_builtin->akM,wpAny_pyIter_revIter->akN,wpAny_pyIter_keyiter->akP,isSubtype_stop->akT,isSubtype_type->akV,IsRangeIter->akX,getItem->akY,call_enumerate_list->ak1,wpAny_standAt->ak9,wpAny_pyIter_range->ala,callWith->alb,evalPart_none->ald,seqItems?->alg,wpAny_tupleItemsOf->alq,BindsTo->alA,wpAny_call->alB,call_meets->alD,list_append->alE,valueAt->alJ,Within->alO,Result->alQ,seqIndex_neg->alT,wpAny_execs_cons->alY,checkBuiltinCall->al0,wpAny_pyIter_zip->al2,wpAny_forIn_list->al4,setField->al8,lastMarks->ama,IsPart->amc,seqIndex_of->amd,slicePick->amf,Keyword->amg,callerA->amh,notedBy->amj,builtinKind->amk,plainId->aml,codeAny_of_tree->amz,entryOfKey->amP,builtinsNs->amQ,wpAny_Name->amR,typeIs_int->amT,closureFor->amU,setsByText->amZ,compEnvC->am2,newTuple->am4,SetTable->am6,Paired->ane,isTrue->anf,pyIter->ang,atKey->anm,pickOrder->ano,bindL->anw,bindC->anx,newList->anz,setNext->anA
open PySem.W renaming Frag->aeN,findIn->afg,nsIn->afo,mg_none_of->afu,mg_of->afL,kitOne->afM,keepIn->af2,kia_one->agq,emptyDict->ags,makesIn->agx,methodCall_KW->agH,instObj->agQ,callWith_K->ahu,fnOf->ahy,specialIn->ahG,mroIn->ahH,subIn->ah8,plainGet->aiH,plainGet_of->aiU,callWith_K0->aiW,lookIn->ajn,typeIn->ajo,codeIn->ajp,exmOne->ajq,methodObj->ajw,hasDictIn->ajy,cellsFrom_some->akb,hideAll->akj,isFn->akn,takerIn->ako,takesIn->akp,OpenLaw->aku,KdlSrc->akU,hideAll_get->akW,of_hideAll->ak6,clsIn->alf,plainOver->alx,kitx_list->aly,kitx_dict->alz,handedIn->alZ,kitMeta->ami,readsIn->ams,findCls->amt,WalkO->am3
open List renaming length_map->aeO,getD_eq_getElem?_getD->aeP,getElem?_eq_getElem->aeQ,getElem?_eq_some_iff->aeW,mem_map->aeY,length_append->ae1,mem_cons->ae2,size_toArray->ae3,getElem?_map->ae5,nil_append->ae6,map_cons->ae7,mem_of_getElem?->ae8,length_range->ae9,mem_singleton->afd,length_singleton->afh,range->afp,mem_append->afq,mem_filter->afr,mem_append_right->afs,map_map->afA,length_cons->afD,mem_iff_getElem?->afF,mem_cons_of_mem->afJ,length_filter_le->afN,all_eq_true->afT,filter_cons->afU,take_length->afV,any_cons->afX,drop_eq_getElem_cons->afY,take_succ->afZ,map_append->af0,mem_range->af1,getElem?_append_right->af4,getElem?_range->af5,nodup_cons->af8,any_eq_true->agc,getElem?_append_left->agf,filterMap_cons->agh,getElem?_eq_none->agj,take_append_drop->agt,find?_cons->agy,length_take->agB,not_mem_nil->agC,length_reverse->agF,mem_append_left->agL,map_congr_left->agV,getElem?_reverse->ag0,toArray->ag1,replicate->ag5,map_nil->ahg,getElem?_replicate->ahh,length_eq_zero_iff->ahj,filter_eq_self->ahk,eq_nil_of_length_eq_zero->ahn,mem_flatMap->aho,drop_eq_nil_of_le->ahr,mem_cons_self->aht,length_nil->ahA,ext_getElem?->ahK,length_drop->ahW,lookup->ahZ,take_of_length_le->aih,drop_of_length_le->aij,reverse_cons->aio,nodup_nil->aiu,length_replicate->aiy,all_cons->aiM,sum_append->ai4,toList_toArray->ai9,mem_filterMap->ajf,all_map->aji,findIdx?_eq_none_iff->ajs,getElem?_take_of_lt->ajA,append_assoc->ajF,foldl_append->ajH,flatMap_cons->ajI,length_erase_of_mem->ajK,nodup_append->ajL,getElem?_cons_succ->ajX,sum_cons->ajY,drop_length->aj3,getElem_mem->aj5,ext_getElem->aj6,getElem?_set_self->aj7,length_pos_of_mem->aki,of_mem_zip->akq,map_id'->akC,any_map->akD,any_append->akE,getElem?_set_ne->akJ,mem_erase_of_ne->akR,length_pos_iff->ak0,getElem_of_mem->ak3,flatMap_append->ak4,length_flatMap->ak5,filterMap_map->alc,pairwise_cons->alp,getElem?_drop->alr,filter_append->alu,any_eq_false->alw,pairwise_map->alI,any_flatMap->al6,append_nil->amb,length_set->ame,foldl_cons->amm,length_zip->amo,getD->amB,range_succ->amC,all_append->amD,findIdx?->am8,map_take->am9,sum_nil->anl,all_nil->anp
open PySem.Heap renaming get?_push_of_some->aeS,lt_size->aeU,get?_push_size->aeZ,get?_update_other->aff,get?_update_self->afE,size_push->ag4,FlyingW->alV,ExtBut->amv
open Nat renaming le_trans->aeT,le_refl->aeV,ne_of_lt->afa,zero_le->afi,lt_of_lt_of_le->afm,lt_of_le_of_lt->afy,ne_of_gt->af3,lt_succ_self->af7,not_lt_zero->agd,lt_irrefl->agk,lt_succ_of_lt->ahe,le_add_left->aid,le_of_lt->aiw,le_succ->aiX,min_eq_left->ai1,min_eq_right->aj4,lt_of_succ_lt_succ->akg,sub_self->akB,eq_zero_or_pos->alo,le_succ_of_le->alL,lt_trans->alW,succ_ne_self->al5,mul_le_mul->amO,le_of_eq->ani,zero_add->anq,add_comm->anr
open Bool renaming false_ne_true->afj,false_eq_true->afn,and_eq_true->aga,eq_iff_iff->agp,not_true->aiO,or_eq_true->ai0,false_and->ajm,and_self->ajW,and_eq_false_iff->akx,and_false->akS,and_true->alh,false_or->alk,true_and->als,eq_false_iff->alF,not_not->alX,not_false->amM,or_false->am1,not_and->ans
open PySem.Value renaming ref->aft,bool->agz,isInt->aik,type->aju,float->al9,isStrOf->am0,builtin->am5,bytes->anu
open Option renaming map_eq_some_iff->afv,isNone->ahL,isSome_iff_exists->ah3,getD_some->aiJ,ne_none_iff_exists'->ajd,toList_some->alj,isSome_map->alK
open PyProof.Rows renaming callWith_type1->afw,envOfC->agJ,callWith_builtin1->ahf,seqObj->ahw,slot_tuple_getitem->ain,kindOf->ajz,IntsAre->ajQ,subscriptTail->ajR,subscriptTail_builtinR->akc,AllBare->akk,mirror_perm->ak2,Constant_none->ak8,listUpdate_at->aln,Subscript_->alC,get?_update_seq->amw,seqEpoch_at->amx,mulOk_of_bits->amF,boot_range->amS,test_link->anh,bits_add->anj,bits_mul->ank,Call_->anv
open PySem.F renaming plainAttrs_list->afx,slot_list_append->afP,type_list_append->afQ,slot_dict_keyiterator_next->agw,slot_enumerate_next->agW,plain_min_loop->agX,plain_extend_loop->ag7,args_dict_keyiterator_next_1->ahS,entry_dict_keyiterator_next->ah1,slot_list_index->aic,entry_min_loop->aif,args_enumerate_next_1->aiK,entry_enumerate_next->aiP,excBase_ValueError->ajc,entry_extend_loop->ajt,slot_list_extend->ajM,type_list_extend->ajN,type_list_index->aj1,slot_dict_iter->akf,slot_tuple_lt->aky,plain_set_new->akz,args_list_append_2->akL,entry_list_append->akZ,slot_list_append->ale,plain_min->alG,entry_min->alH,kind_min->al1,slot_set_iter->amA
open PySem.PassesOwn renaming never->afz,leaving->ahM
open Array renaming getElem?_eq_getElem->afB,length_toList->agE,getElem?_eq_none->ahs,getElem?_toList->aiD,mem_toList_iff->aiL,getD_eq_getD_getElem?->ai3,append_assoc->ak7,toList_push->alN,toList->alP,getD->amV
open PySem.Around renaming under_plainId->afK,under->alR
open Int renaming toNat_natCast->afO,le_refl->afS,toNat_of_nonneg->agG,natCast_add->ahE,natCast_mul->ahF,le_trans->ah5,mul_nonneg->aiv,zero_add->ajl,toNat->akA,emod_lt_of_pos->ali,ediv_one->alS,ediv_le_self->al3,le_antisymm->amn,ediv_nonneg->amq,emod_nonneg->amu,mul_le_mul->amN
open Ne renaming symm->afR
open PySem.Builtin.Range renaming rangeSize->afW,rangeFitsLong->amr
open PySem.Str renaming ofString->agg
open PySem.Heap.SameBut renaming update->agi
open PySem.Obj renaming mapSeq->agm,mapFields->ahJ,data_mapDictKeys->akQ,data_mapFields->alm,putSet->amY
open PySem.SetTable.below renaming go->agu
open PyProof.Rows.F renaming plain_set_update_loop->agN,entry_set_update_loop->ahU
open False renaming elim->agO
open PySem.Builtin.Builtins renaming bindParams->agT
open PySem.Builtin.List renaming listExtendWith->agU,listLengthHint->ahD,listTooLong->ah4,listSameRef->ajJ,listItems->akh,listUpdate->ana,listTouch->anc
open PySem.Calls renaming spliced_cons->agZ,spliced_nil->aha,Name_function_global->aja,evalArgs_plain->akK
open PySem.Builtin.Slice renaming slicePlaces->ag6,sliceAdjust->ahO,sliceApplied->ajb,slicePartIndex->al7,sliceFields->amG
open True renaming intro->ag9
open PySem.Builtin.Tuple renaming tupleExact->ahb,tupleItemsOf->amE,tupleHashOf->amJ
open PySem.SetTable.probe renaming go->ahd
open PySem.Builtin.Int renaming intBits->ahi
open PySem.W.WData renaming weightAll->ahl,layable->aiA,weight->akO,layableAll->amW
open PySem.PyData renaming eqv->ahp,canLayAll0->aip,canLay0->ais,strOk->aiE,depthAll->ai2,eqvAll->ajV
open PySem.Builtin.SmallTypes renaming ownedTupleIsFree->ah2
open PySem.SetTable renaming insertAt->aiq,probeStart->ai6,has->ajj,fill->aj0,freeSlot->alM,runEnd->amy,probe->amK,turns->amL,slot->am7
open Or renaming inl->aiz,inr->alU
open PySem.Builtin.Dict renaming showsAll->aiB,entriesForEmpty->aiN,updateFrom->ajZ,dictSlotNone->amH,readDirectly->amI,selfAndRest->amX,mergeDict->anb,quietEq->ant,merge->anB
open Sum renaming inl->aiQ,inr->alv
open ForInStep renaming yield->aiY
namespace L2
open PySem PySem.Spec PyProof.Rows
abbrev Key:=Sum Int Str
noncomputable def rf:Key->aeX->Bool
 | .inl k,v=>aik k v
 | .inr x,v=>am0 x v
noncomputable def PR(w:agn):Key->Int
 | .inl k=>ajP k
 | .inr x=>hashStr w x
theorem lU:∀ {k:Key} {v:aeX},rf k v=true->(∃ i t,k=aiQ i/\v=Value.int i t)∨(∃ x t,k=alv x/\v=Value.str x t)
 | .inl i,v,h=>by obtain⟨t,e⟩:=Value.isInt_shape (k:=i) (v:=v) h;exact .inl #[i,t,Y,e]
 | .inr x,v,h=>by obtain⟨t,e⟩:=Value.isStrOf_shape (x:=x) (v:=v) h;exact .inr #[x,t,Y,e]
theorem PU(i:Int)(t:Tok):rf (.inl i) (.int i t)=true:=by simp[rf,aik]
theorem PV(x:Str)(t:Tok):rf (.inr x) (.str x t)=true:=by simp[rf,am0]
theorem PX(a b:Int):decide ((aiQ a:Key)=aiQ b)=(a == b):=by
 by_cases e:a=b
 .subst e;simp
 .have h:¬ (aiQ a:Key)=aiQ b:=λq=>e (Sum.inl.inj q);rw[decide_eq_false h];exact (beq_eq_false_iff_ne.mpr e).symm
theorem PY(a b:Str):decide ((alv a:Key)=alv b)=decide (a=b):=by
 by_cases e:a=b
 .subst e;simp
 .have h:¬ (alv a:Key)=alv b:=λq=>e (Sum.inr.inj q);rw[decide_eq_false h,decide_eq_false e]
theorem PZ(a:Int)(b:Str):decide ((aiQ a:Key)=alv b)=false:=decide_eq_false (λq=>nomatch q)
theorem P4(a:Str)(b:Int):decide ((alv a:Key)=aiQ b)=false:=decide_eq_false (λq=>nomatch q)
noncomputable def dr(prog:afG)(w:agn):PySem.KeyKind prog w Key where
 is:=rf
 hash:=PR w
 inj:=λv a b ha hb=>by
  rcases lU ha with ⟨i,t,rfl,rfl⟩|⟨x,t,rfl,rfl⟩
  .rcases lU hb with ⟨j,u,rfl,e⟩|⟨y,u,rfl,e⟩
   .injection e with e1 _;rw[e1]
   .exact nomatch e
  .rcases lU hb with ⟨j,u,rfl,e⟩|⟨y,u,rfl,e⟩
   .exact nomatch e
   .injection e with e1 _;rw[e1]
 byValue:=λk v h=>by
  rcases lU h with ⟨i,t,rfl,rfl⟩|⟨x,t,rfl,rfl⟩<;>rfl
 pyHash:=λhv h=>by
  rcases lU hv with ⟨i,t,rfl,rfl⟩|⟨x,t,rfl,rfl⟩
  .exact wpAny_pyHash_int h
  .exact wpAny_pyHash_str h
 eqBool:=λhu hv h=>by
  rcases lU hu with ⟨i,t,rfl,rfl⟩|⟨x,t,rfl,rfl⟩
  .rcases lU hv with ⟨j,u,rfl,rfl⟩|⟨y,u,rfl,rfl⟩
   .rw[PX] at h;exact aj2 h
   .rw[PZ] at h;exact SeqAt.EqAt.int_str i t y u _ _ _ _ h
  .rcases lU hv with ⟨j,u,rfl,rfl⟩|⟨y,u,rfl,rfl⟩
   .rw[P4] at h;exact SeqAt.EqAt.str_int x t j u _ _ _ _ h
   .rw[PY] at h;exact wpAny_eqBool_str h
 «strs»:=λk x t v h=>by
  rcases lU h with ⟨i,u,rfl,e⟩|⟨y,u,rfl,e⟩
  .exact nomatch e
  .injection e with e1 _;subst e1;cases v<;>rfl
theorem P5(prog:afG)(w:agn)(i:Int)(t:Tok):(dr prog w).is (.inl i) (.int i t)=true:=PU i t
theorem P6(prog:afG)(w:agn)(x:Str)(t:Tok):(dr prog w).is (.inr x) (.str x t)=true:=PV x t
inductive V where
 | non|bl (b:Bool)|int (i:Int)|str (x:Str)|byt (b:Array UInt8)|flt (b:UInt64)|ref (a:ae0)|ty (n:String)
 deriving DecidableEq
def RelV:V->aeX->Prop
 | .non,u=>u=Value.none
 | .bl b,u=>u=agz b
 | .int i,u=>∃ t,u=Value.int i t
 | .str x,u=>∃ t,u=Value.str x t
 | .byt b,u=>∃ t,u=anu b t
 | .flt b,u=>∃ t,u=al9 b t
 | .ref a,u=>u=aft a
 | .ty n,u=>u=aju n
abbrev Vals:List V->List aeX->Prop:=ane RelV
theorem Vals.length(r:Vals xs us):xs.length=us.length:=Paired.length r
theorem Vals.get:∀ {xs:List V} {us:List aeX} {i:Nat} {x:V},Vals xs us->xs[i]?=U x->∃ u,us[i]?=U u/\RelV x u
 | _,_,_,_,.nil,e=>by simp at e
 | _,_,0,_,.cons r _,e=>by simp at e;subst e;exact#[_,Y,r]
 | _,_,i+1,x,.cons _ t,e=>by obtain⟨u,h1,h2⟩:=Vals.get (i:=i) (x:=x) t (by simpa using e);exact#[u,by simpa using h1,h2]
theorem Vals.set(r:RelV x u):∀ {xs:List V} {us:List aeX} (i:Nat),Vals xs us->Vals (xs.set i x) (us.set i u)
 | _,_,_,.nil=>.nil
 | _,_,0,.cons _ t=>.cons r t
 | _,_,i+1,.cons q t=>.cons q (Vals.set r i t)
theorem Vals.append:∀ {xs ys:List V} {us ws:List aeX},Vals xs us->Vals ys ws->Vals (xs++ys) (us++ws):=by
 intro xs ys us ws h s
 induction h with
 | nil=>exact s
 | cons r t ih=>exact .cons r ih
theorem Vals.take:∀ {xs:List V} {us:List aeX} (n:Nat),Vals xs us->Vals (xs.take n) (us.take n)
 | _,_,0,_=>.nil
 | _,_,_+1,.nil=>.nil
 | _,_,n+1,.cons r t=>.cons r (Vals.take n t)
theorem Vals.drop:∀ {xs:List V} {us:List aeX} (n:Nat),Vals xs us->Vals (xs.drop n) (us.drop n)
 | _,_,0,r=>r
 | _,_,_+1,.nil=>.nil
 | _,_,n+1,.cons _ t=>Vals.drop n t
def gD:Option V->Option aeX->Prop
 | some v,U u=>RelV v u
 | none,O=>True
 | _,_=>False
def KV{κ:Type}:List (κ × V)->List (κ × aeX)->Prop:=ane λ(p:κ × V) (q:κ × aeX)=>p.1=q.1/\RelV p.2 q.2
noncomputable def kV:Key->V
 | .inl i=>.int i
 | .inr x=>.str x
inductive HO where
 | lst (xs:List V)
 | tup (xs:List V)
 | dK (kvs:List (Key × V))|dT (kvs:List (List Key × V))
 | set (S:Int->Bool) (n:Nat)
 | ins (C dx:ae0) (fs:List (Str × V))
 | own (x:ae0)
 | xd (fs:List (Str × V))
 | met (f x:ae0)
 | jt (lo hi:Int)
 | aN (o:Obj) (u:HO)
 | tbl (ps:Array aeX)
 | ext (φ:ag3->Prop)
abbrev Hp:=ae0->Option HO
noncomputable def upd(H:Hp)(a:ae0)(o:HO):Hp:=λb=>if b=a then U o else H b
theorem ar:upd H a o a=U o:=by unfold upd;rw[if_pos Y]
theorem aI(h:b≠a):upd H a o b=H b:=by unfold upd;rw[if_neg h]
theorem oU:upd (upd H a o) a u=upd H a u:=by funext b;unfold upd;split<;>rfl
theorem rg{H:Hp}{a b:ae0}{o u:HO}(h:H a=U o)(h':H b=U u)(d:o≠u):a≠b:=by intro e;subst e;rw[h] at h';exact d (Option.some.inj h')
theorem jW{H:Hp}{a b:ae0}{o:HO}(h:H a=U o)(h':H b=O):a≠b:=by intro e;subst e;rw[h] at h';cases h'
section
variable(P:afG)(w:agn)
def b9(H:Hp)(h:ag3)(a:ae0):HO->Prop
 | .lst xs=>xs.length<=afl/\∃ (aw:List aeX) (n:Nat),Vals xs aw/\h.get? a=U { cls:=.type "list",data:=.seq aw.toArray n }
 | .tup xs=>xs.length<=afl/\∃ aw:List aeX,Vals xs aw/\IsTup h a aw.toArray
 | .dK kvs=>kvs.length<=afl/\(a == agI)=false/\∃ vs,KV kvs vs/\h.DictOf (dr P w) a vs
 | .dT kvs=>kvs.length<=afl/\(a == agI)=false/\∃ xs:List (List Key × ae0 × aeX),
  ane (λ(p:List Key × V) (q:List Key × ae0 × aeX)=>p.1=q.1/\H q.2.1=U (.tup (p.1.map kV))/\RelV p.2 q.2.2) kvs xs /\
  ∃ o es ep,h.get? a=U o/\o.ExactDict/\o.data = .dict es ep/\es.toList=xs.map (amP (ajv (dr P w)))/\(xs.map (·.1)).Nodup
 | .set S n=>h.SetOf (aiG P w) a S n
 | .ins C dx fs=>H dx=U (.own a)/\fs.length<=1000/\dx≠a/\h.get? a=U (agQ C dx) /\
  ∃ mA,h.Ns1 dx mA/\(∀ f,gD (fs.lookup f) (mA f))/\alO mA (fs.map (·.1))
 | .own _=>∃ o,h.get? a=U o
 | .xd fs=>∃ mA,h.Ns1 a mA/\∀ f,gD (fs.lookup f) (mA f)
 | .jt lo hi=>∃ t u v,h.get? a=U { cls:=.type "range",data:=.fields (List.toArray [.int lo t,.int hi u,.int 1 v]) }
 | .aN o u=>h.get? a=U o/\b9 H h a u
 | .tbl ps=>h.get? a=U { cls:=.none,data:=.fields ps }
 | .met f x=>h.get? a=U (ajw (.ref f) (.ref x))
 | .ext φ=>φ h/\(∃ o,h.get? a=U o)/\∀ h1 h2:ag3,φ h1->(∀ o,h1.get? a=U o->h2.get? a=U o)->φ h2
def cF(H:Hp)(h:ag3):Prop:=∀ a o,H a=U o->b9 P w H h a o
end
section
theorem b9.lt(x:b9 P w H h a o):a<h.objs.size:=by
 cases o with
 | lst xs=>obtain⟨z,z,z,z,e⟩:=x;exact aeU e
 | tup xs=>obtain⟨z,z,z,p⟩:=x;exact p.lt
 | dK kvs=>obtain⟨z,z,z,z,o,z,z,e,z⟩:=x;exact aeU e
 | dT kvs=>obtain⟨z,z,z,z,o,z,z,e,z⟩:=x;exact aeU e
 | set S n=>obtain⟨o,z,z,z,e,z⟩:=x;exact aeU e
 | ins C dx fs=>obtain⟨z,z,z,e,z⟩:=x;exact aeU e
 | own y=>obtain⟨z,e⟩:=x;exact aeU e
 | xd fs=>obtain⟨z,⟨z,z,z,e,z⟩,z⟩:=x;exact aeU e
 | jt lo hi=>obtain⟨z,z,z,e⟩:=x;exact aeU e
 | aN ob u=>obtain⟨e,z⟩:=x;exact aeU e
 | tbl ps=>exact aeU (show h.get? a=U _ from x)
 | met f y=>exact aeU (show h.get? a=U _ from x)
 | ext φ=>obtain⟨z,⟨z,e⟩,z⟩:=x;exact aeU e
theorem Paired.GI:∀ {l₁:List α} {l₂:List β},ane F l₁ l₂->(∀ a b,F a b->G a b)->ane G l₁ l₂:=by
 intro y y h f
 induction h with
 | nil=>exact .nil
 | cons r t ih=>exact .cons (f _ _ r) ih
theorem b9.ju(x:b9 P w H h a o)(k:∀ b u,(b=a∨H b=U (.own a))->h.get? b=U u->h'.get? b=U u)(ho:∀ b,H b=U (.own a)->H' b=U (.own a))(ht:∀ b xs,H b=U (.tup xs)->H' b=U (.tup xs)):b9 P w H' h' a o:=by
 induction o with
 | lst xs=>obtain⟨z,aw,n,r,e⟩:=x;exact#[z,aw,n,r,k _ _ (.inl rfl) e]
 | tup xs=>obtain⟨z,aw,r,ob,e,c⟩:=x;exact#[z,aw,r,ob,k _ _ (.inl rfl) e,c]
 | dK kvs=>obtain⟨z,y,vs,r,ob,es,ep,e,c⟩:=x;exact#[z,y,vs,r,ob,es,ep,k _ _ (.inl rfl) e,c]
 | dT kvs =>
  obtain⟨z,y,xs,r,ob,es,ep,e,c⟩:=x;exact#[z,y,xs,Paired.GI r λp q z=>#[z.1,ht _ _ z.2.1,z.2.2],ob,es,ep,k _ _ (.inl rfl) e,c]
 | set S n=>obtain⟨ob,es,ep,t,e,c⟩:=x;exact#[ob,es,ep,t,k _ _ (.inl rfl) e,c]
 | ins C dx fs =>
  obtain⟨d,z,ne,e,mA,⟨od,es,ep,e2,c⟩,r⟩:=x;exact#[ho _ d,z,ne,k _ _ (.inl rfl) e,mA,#[od,es,ep,k _ _ (.inr d) e2,c],r]
 | own y=>obtain⟨ob,e⟩:=x;exact#[ob,k _ _ (.inl rfl) e]
 | xd fs=>obtain⟨mA,⟨od,es,ep,e,c⟩,r⟩:=x;exact#[mA,#[od,es,ep,k _ _ (.inl rfl) e,c],r]
 | jt lo hi=>obtain⟨t,u,v,e⟩:=x;exact#[t,u,v,k _ _ (.inl rfl) e]
 | aN ob u ih=>obtain⟨e,q⟩:=x;exact#[k _ _ (.inl rfl) e,ih q]
 | tbl ps =>
  have e:h.get? a=U { cls:=.none,data:=.fields ps }:=x;show h'.get? a=U { cls:=.none,data:=.fields ps };exact k a _ (.inl rfl) e
 | met f y =>
  have e:h.get? a=U (ajw (.ref f) (.ref y)):=x;show h'.get? a=U (ajw (.ref f) (.ref y));exact k a _ (.inl rfl) e
 | ext φ=>obtain⟨p,⟨o,e⟩,st⟩:=x;exact#[st _ _ p λo q=>k _ _ (.inl rfl) q,#[o,k _ _ (.inl rfl) e],st]
theorem cF.lt(x:cF P w H h)(e:H a=U o):a<h.objs.size:=(x a o e).lt
theorem cF.fresh(x:cF P w H h)(e:h.objs.size<=a):H a=O:=by
 cases q:H a with
 | none=>rfl
 | some u=>exact absurd (afm (x.lt q) e) (agk _)
theorem cF.kept(x:cF P w H h)(k:∀ b u,h.get? b=U u->h'.get? b=U u):cF P w H h':=λa o e =>
 (x a o e).ju (λb u y q=>k b u q) (λy q=>q) λy y q=>q
theorem cF.laid(x:cF P w H h)(k:∀ b u,h.get? b=U u->h'.get? b=U u)(hp:h.objs.size<=a)(new:b9 P w (upd H a o) h' a o):cF P w (upd H a o) h':=λb u e=>by
 have hn:=x.fresh hp;by_cases hb:b=a
 .subst hb;rw[ar] at e;cases e;exact new
 .rw[aI hb] at e;exact (x b u e).ju (λc v y q=>k c v q) (λc q=>by rw[aI (jW q hn)];exact q) λc xs q=>by rw[aI (jW q hn)];exact q
end
def Rd(H:Hp)(a:ae0)(u:HO):Prop:=H a=U u ∨ ∃ o,H a=U (.aN o u)
theorem Rd.ok(r:Rd H a u)(x:cF P w H h):b9 P w H h a u:=by
 rcases r with r|⟨o,r⟩
 .exact x a u r
 .obtain⟨y,q⟩:=x a _ r;exact q
def t7:Option HO->Prop
 | some (.lst _)=>True
 | some (.dK _)=>True
 | some (.dT _)=>True
 | some (.set _ _)=>True
 | some (.ins _ _ _)=>True
 | some (.ext _)=>True
 | _=>False
section
theorem cF.write(ok:cF P w H h)(mu:t7 (H x))(he:e=x∨H e=U (.own x))(k:∀ b u,b≠e->h.get? b=U u->h'.get? b=U u)(rh:∃ u,h'.get? e=U u)(new:b9 P w (upd H x o') h' x o'):cF P w (upd H x o') h':=λb u q=>by
 have GJ:∀ c y,H c=U (.own y)->c≠x:=λc y r z=>by subst z;rw[r] at mu;exact mu
 have P8:∀ c xs,H c=U (.tup xs)->c≠x:=λc xs r z=>by subst z;rw[r] at mu;exact mu
 by_cases hb:b=x
 .subst hb;rw[ar] at q;cases q;exact new
 .rw[aI hb] at q;by_cases kH:b=e
  .have q':H b=U (.own x):=by
    rcases he with z|z
    .exact absurd (kH.trans z) hb
    .rw[kH];exact z
   rw[q] at q';cases q';obtain⟨v,hv⟩:=rh;exact#[v,by rw[kH];exact hv]
  .refine (ok b u q).ju (λc v hc r=>k c v ?_ r) (λc r=>by rw[aI (GJ c b r)];exact r) λc xs r=>by rw[aI (P8 c xs r)];exact r
   rcases hc with rfl|hc
   .exact kH
   .rintro rfl;rcases he with z|z
    .exact GJ c b hc z
    .rw[hc] at z;cases z;exact hb rfl
end
structure Un(fs ex:List ae0)(H H':Hp)(h h':ag3):Prop where
 keep:∀ b o,h.get? b=U o->H b=O->b∉fs->b∉ex->h'.get? b=U o
 slot:∀ b o,h.get? b=U o->H b=O->b∈fs->b∉ex->∃ sl,h'.get? b=U { o with slots:=sl }
 free:∀ b o,h.get? b=U o->H b=O->b∉ex->H' b=O
 there:∀ b o,h.get? b=U o->b∉ex->∃ o',h'.get? b=U o'
 iB:∀ b xs,H b=U (.tup xs)->H' b=U (.tup xs)
 gE:∀ b o u,H b=U (.aN o u)->H' b=U (.aN o u)
 iC:∀ b ps,H b=U (.tbl ps)->∃ more,H' b=U (.tbl (ps++more))
section
variable{fs fs' ex ex':List ae0}{H H1 H2:Hp}{h h1 h2 h':ag3}{a x e:ae0}{o:HO}
theorem Un.any(u:Un fs ex H H1 h h1)(q:h.get? b=U ob)(n:H b=O)(hx:b∉ex):∃ sl,h1.get? b=U { ob with slots:=sl }:=by
 by_cases hb:b∈fs
 .exact u.slot b ob q n hb hx
 .exact#[ob.slots,u.keep b ob q n hb hx]
theorem Un.kept(k:∀ b u,h.get? b=U u->h'.get? b=U u):Un fs ex H H h h' :=
 #[λb ob q y y y=>k b ob q,λb ob q y y y=>#[ob.slots,k b ob q],λy y y n y=>n,λb ob q y=>#[ob,k b ob q],λy y q=>q,λy y y q=>q,λy ps q=>#[(List.toArray []),by rw[q];simp]]
theorem Un.refl:Un fs ex H H h h:=Un.kept λy y q=>q
theorem Un.laid(k:∀ b u,h.get? b=U u->h'.get? b=U u)(hp:h.objs.size<=a)(hn:H a=O):Un fs ex H (upd H a o) h h' where
 keep:=λb u q y y y=>k b u q
 slot:=λb u q y y y=>#[u.slots,k b u q]
 free:=λb u q n y=>by rw[aI (afa (afm (aeU q) hp))];exact n
 there:=λb u q y=>#[u,k b u q]
 iB:=λb xs q=>by rw[aI (jW q hn)];exact q
 gE:=λb u xs q=>by rw[aI (jW q hn)];exact q
 iC:=λb ps q=>#[(List.toArray []),by rw[aI (jW q hn),q];simp]
theorem Un.write(mu:t7 (H x))(he:e=x∨H e=U (.own x))(k:∀ b u,b≠e->h.get? b=U u->h'.get? b=U u)(rh:∃ u,h'.get? e=U u):Un fs ex H (upd H x o) h h':=by
 have hx:∀ b,H b=O->b≠x:=λb n z=>by subst z;rw[n] at mu;exact mu
 have hb:∀ b,H b=O->b≠e:=λb n z=>by
  subst z;rcases he with r|r
  .exact hx b n r
  .rw[n] at r;cases r
 have hm:∀ b u,H b=U u->¬ t7 (U u)->b≠x:=λb u q nm z=>by subst z;rw[q] at mu;exact nm mu
 refine#[λb u q n y y=>k b u (hb b n) q,λb u q n y y=>#[u.slots,k b u (hb b n) q],λb u q n y=>by rw[aI (hx b n)];exact n,λb u q y=>?_,
  λb xs q=>by rw[aI (hm b _ q λz=>z)];exact q,λb u xs q=>by rw[aI (hm b _ q λz=>z)];exact q,λb ps q=>#[(List.toArray []),by rw[aI (hm b _ q λz=>z),q];simp]]
 by_cases kH:b=e
 .subst kH;exact rh
 .exact#[u,k b u kH q]
end
noncomputable def xj(h:ag3)(H:Hp):List ae0:=(afp h.objs.size).filter λa=>(H a).isSome
noncomputable def lV(h:ag3)(H:Hp):ag3:=akj h (xj h H)
theorem P9(h:ag3)(H:Hp):(lV h H).objs.size=h.objs.size:=PySem.W.hideAll_size _ _
theorem Qa(e:h.get? b=U o)(n:H b=O):(lV h H).get? b=U o :=
 akW _ e λhm=>by have q:(H b).isSome=true:=(afr.mp hm).2;rw[n] at q;simp at q
theorem Qb(e:(lV h H).get? b=U o):h.get? b=U o/\H b=O:=by
 have e':h.get? b=U o:=ak6 (xj h H) e;refine#[e',?_];cases q:H b with
 | none=>rfl
 | some x =>
  have hm:b∈xj h H:=afr.mpr #[af1.mpr (aeU e'),by simp[q]];have z:(lV h H).get? b=O:=PySem.W.hideAll_none (xj h H) hm;rw[z] at e;cases e
noncomputable def Qc(g h:ag3)(L:ae0):List (ae0 × Obj):=(afp h.objs.size).filterMap λa=>if a=L∨(g.get? a).isSome=true then O else (h.get? a).map λo=>(a,o)
noncomputable def rest(g h:ag3)(L d:ae0):List (ae0 × Obj):=(Qc g h L).filter λp=>decide (p.1≠d)
structure Mod(K:aeN)(mg:Str->Option aeX)(base:ag3):Prop where
 kin:K.In base
 glob:base.Ns afc mg
 blt:∃ mb,base.Ns amQ mb/\∀ x:Str,x ≠ "__name__" -> mb x=afC x
 nolimit:base.NoLimit
structure Cx where
 prog:afG
 w:agn
 K:aeN
 mg:Str->Option aeX
 base:ag3
 A:agD
 N:List Str
 s₀:ae4
 H₀:Hp
 env:Env
 outer:List Env
 stack:List Env
 ex:List ae0
 fn:Str->Bool
 calm:Bool
 pn:List (ae0 × Obj)
 xe:aeX->ae4->Prop
noncomputable def bq(l:List Env):List ae0:=l.filterMap (·.frame)
noncomputable abbrev Cx.fs(X:Cx):List ae0:=bq X.outer
def xk(sc:akI)(x:Str):Prop:=sc.names.lookup x=U .local∨sc.names.lookup x=U .cell∨sc.names.lookup x=U .free
def Loc(sc:akI)(x:Str):Prop:=sc.names.lookup x=U .local∨sc.names.lookup x=U .cell
def Look(env:Env)(h:ag3)(m:Str->Option aeX)(x:Str)(u:aeX):Prop :=
 (env.kindOf x=U .local/\m x=U u)∨((env.kindOf x=U .cell∨env.kindOf x=U .free)/\∃ c,env.cells.lookup x=U c/\h.IsCell c (U u))
structure Cx.Ok(X:Cx):Prop where
 mod:Mod X.K X.mg X.base
 kind:X.env.scope.kind = .function
 glob:X.env.globals=afc
 blt:X.env.builtins=amQ
 above:X.s₀.heap.objs.size<=X.env.locals
 inj:∀ x y c,X.env.cells.lookup x=U c->X.env.cells.lookup y=U c->x=y
 has:∀ x,(X.env.kindOf x=U .cell∨X.env.kindOf x=U .free)->∃ c,X.env.cells.lookup x=U c
 cab:∀ x c,X.fn x=true->X.env.cells.lookup x=U c->X.s₀.heap.objs.size<=c
 hd:X.calm=true->X.A.handled=O
 frames:X.A.frames=U X.stack
 stk:X.stack=X.outer∨(X.stack=X.env::X.outer/\X.env.frame=U X.env.locals)
 exf:∀ b∈X.ex,b≠X.env.locals/\∀ x c,X.env.cells.lookup x=U c->c≠b
 bs:∀ b o,X.base.get? b=U o->X.s₀.heap.get? b=U o/\X.H₀ b=O
 bsz:X.base.objs.size<=X.s₀.heap.objs.size
 noex:∀ b o,X.base.get? b=U o->b∉X.ex
 exfs:∀ b∈X.ex,b∉X.fs
 hV:X.s₀.heap.FunFrames X.base X.outer
 frf:∀ b∈X.fs,X.H₀ b=O
structure Inv(X:Cx)(pins:List (ae0 × Obj))(J:List (Option V))(H:Hp)(s:ae4):Prop where
 ok:X.Ok
 os:s.os=X.s₀.os
 bare:akk s.gens
 base:Un X.fs X.ex X.H₀ H X.s₀.heap s.heap
 loc:∃ m,s.heap.Ns X.env.locals m/\∀ (i:Nat) (x:Str) (v:V),X.N[i]?=U x->J[i]?=U (U v)->xk X.env.scope x->∃ u,RelV v u/\Look X.env s.heap m x u
 cell:∀ x c,X.env.cells.lookup x=U c->∃ v,s.heap.IsCell c v
 free:H X.env.locals=O
 gF:∀ x c,X.env.cells.lookup x=U c->H c=O
 pin:∀ p∈X.pn++pins,s.heap.get? p.1=U p.2/\H p.1=O/\p.1≠X.env.locals/\p.1∉X.fs/\∀ v,p.2.data ≠ .cell v
 aB:cF X.prog X.w H s.heap
 len:J.length=X.N.length
section
variable{X:Cx}{pins:List (ae0 × Obj)}{J:List (Option V)}{H H':Hp}{s:ae4}{h':ag3}
theorem Cx.Ok.lW(ok:X.Ok){b:ae0}{o:Obj}(e:X.base.get? b=U o):b∉X.fs:=λhb=>by have:=(ok.hV.mem hb).1;rw[e] at this;cases this
theorem Inv.bs(I:Inv X pins J H s):∀ b o,X.base.get? b=U o->s.heap.get? b=U o/\H b=O:=λb o e =>
 #[I.base.keep b o (I.ok.bs b o e).1 (I.ok.bs b o e).2 (I.ok.lW e) (I.ok.noex b o e),I.base.free b o (I.ok.bs b o e).1 (I.ok.bs b o e).2 (I.ok.noex b o e)]
theorem Inv.bk(I:Inv X pins J H s):∀ b o,X.base.get? b=U o->s.heap.get? b=U o:=λb o e=>(I.bs b o e).1
theorem Inv.mod(I:Inv X pins J H s):Mod X.K X.mg X.base:=I.ok.mod
theorem Inv.cG(I:Inv X pins J H s):X.K.In s.heap:=I.ok.mod.kin.keeps I.bk
theorem Inv.lt(I:Inv X pins J H s):X.env.locals<s.heap.objs.size:=let ⟨_,hn,_⟩:=I.loc;hn.lt
theorem Inv.sz(I:Inv X pins J H s):X.s₀.heap.objs.size<=s.heap.objs.size:=aeT I.ok.above (aiw I.lt)
theorem Inv.GK(I:Inv X pins J H s)(h:s.heap.objs.size<=a):a∉X.fs:=λhb=>by obtain⟨y,o,ho,y⟩:=I.ok.hV.mem hb;exact absurd (afm (aeU ho) (aeT I.sz h)) (agk _)
theorem Inv.kI(I:Inv X pins J H s):∀ x c,X.env.cells.lookup x=U c->c≠X.env.locals:=λx c e z=>by obtain⟨v,o,ho,hd⟩:=I.cell x c e;obtain⟨m,⟨o',es,ep,di,jX,y⟩,y⟩:=I.loc;rw[z,di] at ho;cases ho;rw[jX] at hd;cases hd
theorem Inv.hV(I:Inv X pins J H s):s.heap.FunFrames X.base X.outer:=by
 have all:∀ (l:List Env),(∀ b∈bq l,b∈X.fs)->X.s₀.heap.FunFrames X.base l->s.heap.FunFrames X.base l:=by
  intro l
  induction l with
  | nil=>intro y y;trivial
  | cons env r ih =>
   intro hs hl;obtain⟨hk,⟨L,o,hf,hn,ho,hd⟩,hr⟩:=hl;have hL:L∈X.fs:=hs L (by unfold bq;rw[agh,hf];exact aht);obtain⟨sl,e⟩:=I.base.slot L o ho (I.ok.frf L hL) hL λz=>I.ok.exfs L z hL;exact#[hk,#[L,_,hf,hn,e,hd],ih (λb hb=>hs b (by unfold bq;rw[agh,hf];exact afJ _ hb)) hr]
 exact all X.outer (λy hb=>hb) I.ok.hV
theorem Inv.stack(I:Inv X pins J H s):s.heap.FunFrames X.base X.stack:=by
 rcases I.ok.stk with e|⟨e,hf⟩
 .rw[e];exact I.hV
 .rw[e];obtain⟨m,hn,y⟩:=I.loc;refine .cons (by rw[I.ok.kind];decide) hf hn ?_ I.hV;exact Heap.get?_none_of_le (aeT I.ok.bsz I.ok.above)
theorem Inv.rj(I:Inv X pins J H s):∀ b∈bq X.stack,b∈X.env.locals::X.fs:=λb hb=>by
 rcases I.ok.stk with e|⟨e,hf⟩
 .rw[e] at hb;exact afJ _ hb
 .rw[e] at hb;unfold bq at hb;rw[agh,hf] at hb;exact hb
theorem Inv.t8(I:Inv X pins J H s):∀ b∈bq X.stack,H b=O:=λb hb=>by
 rcases ae2.mp (I.rj b hb) with e|hb
 .rw[e];exact I.free
 .obtain⟨y,o,ho,y⟩:=I.ok.hV.mem hb;exact I.base.free b o ho (I.ok.frf b hb) λz=>I.ok.exfs b z hb
theorem Inv.step{g':Array GenState}{t':Nat}{d':Drawn}{ch:List ae0}(I:Inv X pins J H s)
 (kJ:∀ b∈ch,(b∈X.ex∨X.s₀.heap.objs.size<=b)/\b≠X.env.locals/\(∀ x c,X.env.cells.lookup x=U c->c≠b)/\∀ p∈X.pn++pins,p.1≠b)
 (keep:∀ b o,b≠X.env.locals->b∉X.fs->b∉ch->s.heap.get? b=U o->H b=O->h'.get? b=U o)
 (slot:∀ b o,b≠X.env.locals->b∈X.fs->b∉ch->s.heap.get? b=U o->H b=O->∃ sl,h'.get? b=U { o with slots:=sl }) (free:∀ b o,b∉ch->s.heap.get? b=U o->H b=O->H' b=O)
 (there:∀ b o,b∉ch->s.heap.get? b=U o->∃ o',h'.get? b=U o')
 (iB:∀ b xs,H b=U (.tup xs)->H' b=U (.tup xs)) (gE:∀ b o u,H b=U (.aN o u)->H' b=U (.aN o u)) (iC:∀ b ps,H b=U (.tbl ps)->∃ more,H' b=U (.tbl (ps++more)))
 (ns:∀ m,s.heap.Ns X.env.locals m->h'.Ns X.env.locals m) (aB:cF X.prog X.w H' h') (hg:akk g') :
 Inv X pins J H' { s with heap:=h',gens:=g',drawn:=d',toks:=t' }:=by
 have rk:∀ b o,X.s₀.heap.get? b=U o->b≠X.env.locals:=λb o e=>afa (afm (aeU e) I.ok.above);have xq:∀ b o,X.s₀.heap.get? b=U o->b∉X.ex->b∉ch:=λb o e hx hb=>by
  rcases (kJ b hb).1 with z|z
  .exact hx z
  .exact absurd (afm (aeU e) z) (agk _)
 have cellK:∀ x c,X.env.cells.lookup x=U c->∀ v,s.heap.IsCell c v->h'.IsCell c v:=λx c e v ⟨o,ho,hd⟩=>by
  have nB:c∉ch:=λz=>(kJ c z).2.2.1 x c e rfl;by_cases hc:c∈X.fs
  .obtain⟨sl,q⟩:=slot c o (I.kI x c e) hc nB ho (I.gF x c e);exact#[_,q,hd]
  .exact#[o,keep c o (I.kI x c e) hc nB ho (I.gF x c e),hd]
 refine#[I.ok,I.os,hg,#[λb o e n hb hx=>?_,λb o e n hb hx=>?_,λb o e n hx=>?_,λb o e hx=>?_,λb xs e=>iB b xs (I.base.iB b xs e),λb o xs e=>gE b o xs (I.base.gE b o xs e),λb ps e=>?_],?_,λx c e=>?_,?_,λx c e=>?_,λp hp=>?_,aB,I.len]
 .exact keep b o (rk b o e) hb (xq b o e hx) (I.base.keep b o e n hb hx) (I.base.free b o e n hx)
 .obtain⟨sl,e1⟩:=I.base.slot b o e n hb hx;obtain⟨fX,e2⟩:=slot b _ (rk b o e) hb (xq b o e hx) e1 (I.base.free b o e n hx);exact#[fX,e2]
 .obtain⟨o',e1⟩:=I.base.there b o e hx;exact free b o' (xq b o e hx) e1 (I.base.free b o e n hx)
 .obtain⟨o',e1⟩:=I.base.there b o e hx;exact there b o' (xq b o e hx) e1
 .obtain⟨m1,e1⟩:=I.base.iC b ps e;obtain⟨m2,e2⟩:=iC b _ e1;exact#[m1++m2,by rw[e2,ak7]]
 .obtain⟨m,hn,hl⟩:=I.loc;refine#[m,ns m hn,λi x v e1 e2 e3=>?_];obtain⟨u,r,l⟩:=hl i x v e1 e2 e3;refine#[u,r,?_];rcases l with l|⟨k,c,e,z⟩
  .exact .inl l
  .exact .inr #[k,c,e,cellK x c e _ z]
 .obtain⟨v,z⟩:=I.cell x c e;exact#[v,cellK x c e v z]
 .obtain⟨m,⟨o,y,y,ho,y⟩,y⟩:=I.loc;exact free _ o (λz=>(kJ _ z).2.1 rfl) ho I.free
 .obtain⟨v,o,ho,hd⟩:=I.cell x c e;exact free c o (λz=>(kJ c z).2.2.1 x c e Y) ho (I.gF x c e)
 .obtain⟨e,n,ne,nf,d⟩:=I.pin p hp;have nB:p.1∉ch:=λz=>(kJ p.1 z).2.2.2 p hp rfl;exact#[keep p.1 p.2 ne nf nB e n,free p.1 p.2 nB e n,ne,nf,d]
theorem Inv.un(I:Inv X pins J H s)(u:Un X.fs [] H H' s.heap h')(aB:cF X.prog X.w H' h'):Inv X pins J H' { s with heap:=h',toks:=t' }:=by
 obtain⟨m,⟨o,es,ep,ho,r⟩,y⟩:=id I.loc;obtain⟨sl,hL⟩:=u.any ho I.free (by simp);exact I.step (g':=s.gens) (d':=s.drawn) (ch:=[]) (λy z=>nomatch z) (λb o y hb y e n=>u.keep b o e n hb (by simp)) (λb o y hb y e n=>u.slot b o e n hb (by simp)) (λb o y e n=>u.free b o e n (by simp)) (λb o y e=>u.there b o e (by simp)) u.iB u.gE u.iC (λm' hm=>by
  obtain⟨o',es',lX,di,r'⟩:=hm;rw[ho] at di;cases di;exact#[_,es',lX,hL,r']) aB I.bare
theorem Inv.call(I:Inv X pins J H s)(u:Un (bq X.stack) ch H H' s.heap h')(aB:cF X.prog X.w H' h')(hg:akk g')(kJ:∀ b∈ch,(b∈X.ex∨X.s₀.heap.objs.size<=b)/\b≠X.env.locals/\(∀ x c,X.env.cells.lookup x=U c->c≠b)/\∀ p∈X.pn++pins,p.1≠b) :
 Inv X pins J H' { s with heap:=h',gens:=g',drawn:=d',toks:=t' }:=by
 obtain⟨m,⟨o,es,ep,ho,r⟩,y⟩:=id I.loc;obtain⟨sl,hL⟩:=u.any ho I.free λz=>(kJ _ z).2.1 rfl;exact I.step (ch:=ch) kJ (λb o hL hb hc e n=>u.keep b o e n (λz=>(ae2.mp (I.rj b z)).elim hL hb) hc) (λb o y y hc e n=>u.any e n hc) (λb o hc e n=>u.free b o e n hc) (λb o hc e=>u.there b o e hc) u.iB u.gE u.iC (λm' hm=>by
  obtain⟨o',es',lX,di,r'⟩:=hm;rw[ho] at di;cases di;exact#[_,es',lX,hL,r']) aB hg
theorem Inv.turned(I:Inv X pins J H s)(k:∀ b o,b≠it->s.heap.get? b=U o->h'.get? b=U o)(hn:H it=O)(hL:it≠X.env.locals)(h1:it∈X.ex∨X.s₀.heap.objs.size<=it)(h2:∀ x c,X.env.cells.lookup x=U c->c≠it)(h3:∀ p∈X.pn++pins,p.1≠it):Inv X pins J H { s with heap:=h',toks:=t' }:=by
 have GL:∀ b u,H b=U u->b≠it:=λb u e z=>by rw[z,hn] at e;cases e
 refine I.step (g':=s.gens) (d':=s.drawn) (ch:=[it]) (λb hb=>?_) (λb o y y hc e y=>k b o (λz=>hc (by simp[z])) e) (λb o y y hc e y=>#[o.slots,k b o (λz=>hc (by simp[z])) e]) (λy y y y n=>n)
  (λb o hc e=>#[o,k b o (λz=>hc (by simp[z])) e]) (λy y e=>e) (λy y y e=>e) (λb ps e=>#[(List.toArray []),by rw[e];simp]) (λm hm=>?_) (λb u e=>?_) I.bare
 .have e:b=it:=by simpa using hb
  subst e;exact#[h1,hL,h2,h3]
 .obtain⟨o,es,ep,ho,r⟩:=hm;exact#[o,es,ep,k _ o (afR hL) ho,r]
 .refine (I.aB b u e).ju (λc v hc q=>k c v ?_ q) (λy q=>q) λy y q=>q;rcases hc with z|z
  .rw[z];exact GL b u e
  .exact GL c _ z
theorem Inv.tok(I:Inv X pins J H s)(t:Nat):Inv X pins J H { s with toks:=t }:=I.un (h':=s.heap) (t':=t) Un.refl I.aB
theorem Inv.kept(I:Inv X pins J H s)(k:∀ b u,s.heap.get? b=U u->h'.get? b=U u):Inv X pins J H { s with heap:=h',toks:=t' }:=I.un (Un.kept k) (I.aB.kept k)
theorem Inv.laid(I:Inv X pins J H s)(k:∀ b u,s.heap.get? b=U u->h'.get? b=U u)(hp:s.heap.objs.size<=a)(new:b9 X.prog X.w (upd H a o) h' a o) :
 Inv X pins J (upd H a o) { s with heap:=h',toks:=t' }:=I.un (Un.laid k hp (I.aB.fresh hp)) (I.aB.laid k hp new)
theorem Inv.write(I:Inv X pins J H s)(mu:t7 (H x))(he:e=x∨H e=U (.own x))(k:∀ b u,b≠e->s.heap.get? b=U u->h'.get? b=U u)(rh:∃ u,h'.get? e=U u)(new:b9 X.prog X.w (upd H x o) h' x o):Inv X pins J (upd H x o) { s with heap:=h',toks:=t' }:=I.un (Un.write mu he k rh) (I.aB.write mu he k rh new)
theorem Inv.weak(I:Inv X pins J H s)(hl:σ'.length=J.length)(w:∀ (i:Nat) v,σ'[i]?=U (U v)->J[i]?=U (U v)):Inv X pins σ' H s :=
 #[I.ok,I.os,I.bare,I.base,let ⟨m,hn,ua⟩:=I.loc;#[m,hn,λi x v e1 e2 e3=>ua i x v e1 (w i v e2) e3],I.cell,I.free,I.gF,I.pin,I.aB,hl.trans I.len]
theorem Inv.ue(I:Inv X pins J H s)(h:∀ p∈AS,s.heap.get? p.1=U p.2/\H p.1=O/\p.1≠X.env.locals/\p.1∉X.fs/\∀ v,p.2.data ≠ .cell v):Inv X AS J H s :=
 #[I.ok,I.os,I.bare,I.base,I.loc,I.cell,I.free,I.gF,λp hp=>(afq.mp hp).elim (λz=>I.pin p (agL _ z)) (h p),I.aB,I.len]
theorem GN{N:List Str}(hN:N.Nodup){i j:Nat}{x:Str}(a:N[i]?=U x)(b:N[j]?=U x):i=j:=by obtain⟨h1,e1⟩:=aeW.mp a;obtain⟨h2,e2⟩:=aeW.mp b;exact (List.getElem_inj hN).mp (e1.trans e2.symm)
theorem Qd(I:Inv X pins J H s)(hN:X.N.Nodup)(hi:X.N[i]?=U x)(hx:Loc X.env.scope x)(r:RelV v u)(h:∀ s',Inv X pins (J.set i (U v)) H s'->(∃ a,Heap.SameBut a s.heap s'.heap/\(a=X.env.locals∨X.env.cells.lookup x=U a))->Q () s')(hf:X.fn x=true∨X.env.scope.names.lookup x=U .local:=by first|exact .inl rfl|exact .inr rfl|assumption):afe M A (storeName X.env x u) Q E s:=by
 obtain⟨m,hn,hl⟩:=id I.loc;have Qe:(X.env.scope.kind == .class || (X.env.scope.kind == .module && X.env.locals != X.env.globals))=false:=by rw[I.ok.kind];rfl
 have GO:i<J.length:=by rw[I.len];exact (aeW.mp hi).1
 have kI:=I.kI;have tracked:∀ {a:ae0} {h':ag3},(∃ o,s.heap.get? a=U o/\H a=O)->Heap.SameBut a s.heap h'->cF X.prog X.w H h':=λ{a h'} ha hs b ob e=>by
  obtain⟨g,g,hfree⟩:=ha;refine (I.aB b ob e).ju (λc w' hc q=>(hs.2 c ?_).trans q) (λg q=>q) λg g q=>q;rintro rfl;rcases hc with rfl|hc
  .rw[hfree] at e;cases e
  .rw[hfree] at hc;cases hc
 rcases hx with hk|hk
 .refine wpAny_storeName_local hk hn (λh' nC hs=>?_) Qe;obtain⟨oL,g,g,Qf,g⟩:=id hn;refine h _ #[I.ok,I.os,I.bare,#[λb o e n hb hx=>?_,λb o e n hb hx=>?_,I.base.free,λb o e hx=>?_,I.base.iB,I.base.gE,I.base.iC],#[_,nC,λj y v' e1 e2 e3=>?_],λy c e=>?_,I.free,I.gF,λp hp=>?_,tracked #[oL,Qf,I.free] hs,by simpa using I.len] #[_,hs,.inl rfl]
  .exact (hs.2 b (afa (afm (aeU e) I.ok.above))).trans (I.base.keep b o e n hb hx)
  .obtain⟨sl,e1⟩:=I.base.slot b o e n hb hx;exact#[sl,(hs.2 b (afa (afm (aeU e) I.ok.above))).trans e1]
  .obtain⟨o',e1⟩:=I.base.there b o e hx;exact#[o',(hs.2 b (afa (afm (aeU e) I.ok.above))).trans e1]
  .by_cases hj:j=i
   .subst hj;rw[hi] at e1;cases e1;rw[aj7 GO] at e2;cases e2;exact#[u,r,.inl #[hk,by simp]]
   .rw[akJ (afR hj)] at e2;obtain⟨u',r',q⟩:=hl j y v' e1 e2 e3;refine#[u',r',?_];rcases q with ⟨k,e⟩|⟨k,c,e,z⟩
    .refine .inl #[k,?_];have:y≠x:=λe=>hj (GN hN e1 (e ▸ hi));simp[this,e]
    .exact .inr #[k,c,e,z.sameBut hs (kI y c e)]
  .obtain⟨w',z⟩:=I.cell y c e;exact#[w',z.sameBut hs (kI y c e)]
  .obtain⟨e,n,ne,nf,d⟩:=I.pin p hp;exact#[(hs.2 p.1 ne).trans e,n,ne,nf,d]
 .have AU:X.fn x=true:=by
   rcases hf with z|z
   .exact z
   .rw[z] at hk;cases hk
  obtain⟨c,hc⟩:=I.ok.has x (.inl hk);obtain⟨w',z⟩:=I.cell x c hc;refine wpAny_storeName_cell I.ok.kind hk hc z (λh' lY hs=>?_);obtain⟨oc,hoc,hocd⟩:=id z;refine h { s with heap:=h' } #[I.ok,I.os,I.bare,#[λb o e n hb hx=>?_,λb o e n hb hx=>?_,I.base.free,λb o e hx=>?_,I.base.iB,I.base.gE,I.base.iC],#[m,hn.sameBut hs (afR (kI x c hc)),λj y v' e1 e2 e3=>?_],λy c' e=>?_,I.free,I.gF,λp hp=>?_,tracked #[oc,hoc,I.gF x c hc] hs,by simpa using I.len] #[c,hs,.inr hc]
  .exact (hs.2 b (afa (afm (aeU e) (I.ok.cab x c AU hc)))).trans (I.base.keep b o e n hb hx)
  .obtain⟨sl,e1⟩:=I.base.slot b o e n hb hx;exact#[sl,(hs.2 b (afa (afm (aeU e) (I.ok.cab x c AU hc)))).trans e1]
  .obtain⟨o',e1⟩:=I.base.there b o e hx;exact#[o',(hs.2 b (afa (afm (aeU e) (I.ok.cab x c AU hc)))).trans e1]
  .by_cases hj:j=i
   .subst hj;rw[hi] at e1;cases e1;rw[aj7 GO] at e2;cases e2;exact#[u,r,.inr #[.inl hk,c,hc,lY]]
   .rw[akJ (afR hj)] at e2;obtain⟨u',r',q⟩:=hl j y v' e1 e2 e3;refine#[u',r',?_];rcases q with q|⟨k,c',e,z'⟩
    .exact .inl q
    .refine .inr #[k,c',e,z'.sameBut hs ?_];rintro rfl;exact hj (GN hN e1 (I.ok.inj _ _ _ e hc ▸ hi))
  .by_cases xr:c'=c
   .subst xr;exact#[_,lY]
   .obtain⟨w2,z2⟩:=I.cell y c' e;exact#[w2,z2.sameBut hs xr]
  .obtain⟨e,n,ne,nf,d⟩:=I.pin p hp;refine#[(hs.2 p.1 ?_).trans e,n,ne,nf,d];intro q;rw[q,hoc] at e;have q':oc=p.2:=Option.some.inj e;exact d w' (by rw[<- q'];exact hocd)
theorem GP(I:Inv X pins J H s)(hN:X.N.Nodup)(hi:X.N[i]?=U x)(hx:Loc X.env.scope x)(r:RelV v u)(h:∀ s',Inv X pins (J.set i (U v)) H s'->Q () s')(hf:X.fn x=true∨X.env.scope.names.lookup x=U .local:=by first|exact .inl rfl|exact .inr rfl|assumption):afe M A (storeName X.env x u) Q E s :=
 Qd I hN hi hx r (λs' I' y=>h s' I') hf
theorem Inv.AV(I:Inv X pins J H s)(ho:s'.os=s.os)(u:Un (bq X.stack) ch H H' s.heap s'.heap)(aB:cF X.prog X.w H' s'.heap)(hg:akk s'.gens)(kJ:∀ b∈ch,(b∈X.ex∨X.s₀.heap.objs.size<=b)/\b≠X.env.locals/\(∀ x c,X.env.cells.lookup x=U c->c≠b)/\∀ p∈X.pn++pins,p.1≠b):Inv X pins J H' s':=by obtain⟨h',g',d',t',o'⟩:=s';have e:o'=s.os:=ho;subst e;exact I.call (g':=g') (t':=t') (d':=d') u aB hg kJ
end
abbrev XK:=aeX->Option ae0->Hp->Prop
abbrev St:=List (Option V)
abbrev VK:=V->Hp->Prop
abbrev TE:=St->Hp->VK->Prop
abbrev TT:=St->Hp->(Bool->Hp->Prop)->Prop
abbrev TA:=St->Hp->(List V->Hp->Prop)->Prop
structure Ends where
 nx:St->Hp->Prop
 rt:VK
 bk:St->Hp->Prop:=λ_ _=>False
 ct:St->Hp->Prop:=λ_ _=>False
abbrev TS:=Ends->St->Hp->Prop
def EP(X:Cx)(pins:List (ae0 × Obj))(J:St)(Q:VK)(u:aeX)(s':ae4):Prop:=∃ v H',Inv X pins J H' s'/\RelV v u/\Q v H'
def TP(X:Cx)(pins:List (ae0 × Obj))(J:St)(Q:Bool->Hp->Prop)(b:Bool)(s':ae4):Prop:=∃ H',Inv X pins J H' s'/\Q b H'
def AP(X:Cx)(pins:List (ae0 × Obj))(J:St)(Q:List V->Hp->Prop)(us:List aeX)(s':ae4):Prop:=∃ vs H',Inv X pins J H' s'/\Vals vs us/\Q vs H'
def SP(X:Cx)(pins:List (ae0 × Obj))(D:Ends)(f:Flow)(s':ae4):Prop :=
 match f with
 | .next=>∃ σ' H',Inv X pins σ' H' s'/\D.nx σ' H'
 | .brk=>∃ σ' H',Inv X pins σ' H' s'/\D.bk σ' H'
 | .cont=>∃ σ' H',Inv X pins σ' H' s'/\D.ct σ' H'
 | .ret u=>∃ v σ' H',Inv X pins σ' H' s'/\RelV v u/\D.rt v H'
def PE(X:Cx)(e:aiF)(t:TE):Prop :=
 ∀ (pins:List (ae0 × Obj)) (s:ae4) (J:St) (H:Hp) (Q:VK),Inv X pins J H s->t J H Q->afe (model X.prog X.w) X.A (eval e X.env) (EP X pins J Q) X.xe s
def PT(X:Cx)(e:aiF)(t:TT):Prop :=
 ∀ (pins:List (ae0 × Obj)) (s:ae4) (J:St) (H:Hp) (Q:Bool->Hp->Prop),Inv X pins J H s->t J H Q->afe (model X.prog X.w) X.A (anf e X.env (eval e X.env)) (TP X pins J Q) X.xe s
def PW(X:Cx)(e:aiF)(t:TT):Prop :=
 ∀ (whole:Sem aeX) (pins:List (ae0 × Obj)) (s:ae4) (J:St) (H:Hp) (Q:Bool->Hp->Prop),Inv X pins J H s->t J H Q->afe (model X.prog X.w) X.A (anf e X.env whole) (TP X pins J Q) X.xe s
theorem PW.pt(h:PW X e t):PT X e t:=h _
def PA(X:Cx)(es:List aiF)(t:TA):Prop :=
 ∀ (pos:Pos) (pins:List (ae0 × Obj)) (s:ae4) (J:St) (H:Hp) (Q:List V->Hp->Prop),Inv X pins J H s->t J H Q->afe (model X.prog X.w) X.A (spliced (agA pos (afb es X.env))) (AP X pins J Q) X.xe s
def PS(X:Cx)(st:ajO)(t:TS):Prop :=
 ∀ (pins:List (ae0 × Obj)) (s:ae4) (J:St) (H:Hp) (D:Ends),Inv X pins J H s->t D J H->afe (model X.prog X.w) X.A (exec st X.env) (SP X pins D) X.xe s
def aS(X:Cx)(st:List ajO)(t:TS):Prop :=
 ∀ (pins:List (ae0 × Obj)) (s:ae4) (J:St) (H:Hp) (D:Ends),Inv X pins J H s->t D J H->afe (model X.prog X.w) X.A (execs st X.env) (SP X pins D) X.xe s
theorem aF(h:afe M A t Q E s)(hQ:∀ a s,Q a s->Q' a s):afe M A t Q' E s:=age h hQ λy y x=>x
section
variable{X:Cx}
def AW(i:Nat):TE:=λJ H Q=>∃ v,J[i]?=U (U v)/\Q v H
def tC(v:V):TE:=λy H Q=>Q v H
theorem Qg(hN:X.N[i]?=U x)(hv:xk X.env.scope x)(hd:(x == ("__debug__" : Str))=false:=by decide)(ia:(x == ("__classdict__" : Str))=false:=by decide):PE X (.Name x pos) (AW i):=by
 intro pins s J H Q I h;obtain⟨v,e,h⟩:=h;obtain⟨m,hn,hl⟩:=I.loc;obtain⟨u,r,l⟩:=hl i x v hN e hv;have fin:EP X pins J Q u s:=#[v,H,I,r,h]
 rcases l with ⟨hk,hm⟩|⟨hk,c,hc,hcell⟩
 .exact amR (wpAny_loadName_local I.ok.kind hk hn hm fin) hd
 .rcases hk with hk|hk
  .exact amR (wpAny_loadName_cell I.ok.kind hk hc hcell fin) hd
  .exact amR (wpAny_loadName_free I.ok.kind hk hc hcell fin ia) hd
theorem af:PE X (.Constant (.int i) j pos) (tC (.int i)):=λy y y H y I h=>wpAny_Constant_int #[.int i,H,I.tok _,#[_,Y],h]
theorem cH:PE X (.Constant (.bool b) j pos) (tC (.bl b)):=λy y y H y I h=>Constant_bool #[.bl b,H,I,Y,h]
theorem cj:PE X (.Constant .none j pos) (tC .non):=λy y y H y I h=>ak8 #[.non,H,I,Y,h]
theorem aU:PE X (.Constant (.str x) j pos) (tC (.str x)):=λy y y H y I h=>Calls.Constant_str #[.str x,H,I.tok _,#[_,Y],h]
def Gl(X:Cx)(x:Str):Prop:=X.env.kindOf x=U .globalImplicit
theorem uf(I:Inv X pins J H s)(hg:Gl X x)(hm:X.mg x=U u)(h:Q u s)(hd:(x == ("__debug__" : Str))=false:=by decide):afe (model X.prog X.w) X.A (eval (.Name x pos) X.env) Q E s :=
 aja I.ok.kind hg (Calls.loadGlobal_global (by rw[I.ok.glob];exact I.mod.glob.keeps I.bk) hm h) hd
theorem gG(I:Inv X pins J H s)(hg:Gl X x)(hm:X.mg x=O)(hv:afC x=U u)(h:Q u s)(hn:x ≠ "__name__" := by decide)(hd:(x == ("__debug__" : Str))=false:=by decide):afe (model X.prog X.w) X.A (eval (.Name x pos) X.env) Q E s:=by obtain⟨mb,h1,h2⟩:=I.mod.blt;exact aja I.ok.kind hg (Calls.loadGlobal_builtin (by rw[I.ok.glob];exact I.mod.glob.keeps I.bk) hm (by rw[I.ok.blt];exact h1.keeps I.bk) ((h2 x hn).trans hv) h) hd
theorem AX(hg:Gl X x)(hm:X.mg x=U u)(r:RelV v u)(hd:(x == ("__debug__" : Str))=false:=by decide):PE X (.Name x pos) (tC v) :=
 λy y y H y I h=>uf I hg hm #[v,H,I,r,h] hd
theorem jv(hg:Gl X x)(hm:X.mg x=O)(hv:afC x=U u)(r:RelV v u)(hn:x ≠ "__name__" := by decide)(hd:(x == ("__debug__" : Str))=false:=by decide):PE X (.Name x pos) (tC v) :=
 λy y y H y I h=>gG I hg hm hv #[v,H,I,r,h] hn hd
variable{a b:aiF}{ta tb:TE}{pos:Pos}
def PC(X:Cx)(op:CmpOp)(a b:aiF)(t:TE):Prop :=
 ∀ (pins:List (ae0 × Obj)) (s:ae4) (J:St) (H:Hp) (Q:VK),Inv X pins J H s->t J H Q ->
  afe (model X.prog X.w) X.A (eval a X.env) (λv s₁=>afe (model X.prog X.w) X.A (eval b X.env) (λu s₂=>afe (model X.prog X.w) X.A (af6 op v u) (EP X pins J Q) X.xe s₂) X.xe s₁) X.xe s
theorem GQ(b:aiF)(h:op ≠ .In)(h2:op ≠ .NotIn):agY op b=false:=by
 have e1:(op == CmpOp.In)=false:=by cases op<;>first|rfl|exact absurd Y h
 have e2:(op == CmpOp.NotIn)=false:=by cases op<;>first|rfl|exact absurd Y h2
 cases b<;>simp[agY,e1,e2]
def GR(ta:TE):TE:=λJ H Q=>ta J H λx H1=>Q (.bl (decide (x = .non))) H1
def GS(ta:TE):TE:=λJ H Q=>ta J H λx H1=>Q (.bl (!decide (x = .non))) H1
theorem RelV.GU(r:RelV x v):(v == Value.none)=decide (x = .non):=by
 cases x with
 | non=>cases r;rfl
 | bl _=>cases r;rfl
 | int _=>obtain⟨t,rfl⟩:=r;rfl
 | str _=>obtain⟨t,rfl⟩:=r;rfl
 | byt _=>obtain⟨t,rfl⟩:=r;rfl
 | flt _=>obtain⟨t,rfl⟩:=r;rfl
 | ref _=>cases r;rfl
 | ty _=>cases r;rfl
theorem oV(ha:PE X a ta):PC X .Is a (.Constant .none j pos') (GR ta):=by intro pins s J H Q I h;refine aF (ha pins s J H _ I h) λv s1 zq=>?_;obtain⟨x,H1,I1,r1,q1⟩:=zq;exact ak8 (is_none_gen #[.bl _,H1,I1,by rw[r1.GU];rfl,q1])
theorem ug(ha:PE X a ta):PC X .IsNot a (.Constant .none j pos') (GS ta):=by intro pins s J H Q I h;refine aF (ha pins s J H _ I h) λv s1 zq=>?_;obtain⟨x,H1,I1,r1,q1⟩:=zq;exact ak8 (isnot_none_gen #[.bl _,H1,I1,by rw[r1.GU];rfl,q1])
def tB(t:TE):TT:=λJ H Q=>t J H λx H1=>∃ c,x = .bl c/\Q c H1
theorem kK(h:PC X op a b t)(h1:agY op b=false:=by first|exact GQ _ (by decide) (by decide)|rfl):PE X (.Compare a [op] [b] pos) t:=λpins s J H Q I hw=>wpAny_Compare1 (h pins s J H Q I hw) h1
theorem AY(h:PC X op a b t)(h1:agY op b=false:=by first|exact GQ _ (by decide) (by decide)|rfl):PT X (.Compare a [op] [b] pos) (tB t):=by intro pins s J H Q I hw;refine akl (aF (h pins s J H _ I hw) λv s1 h1=>aF h1 λu s2 h2=>aF h2 λc s3 zq=>?_) h1;obtain⟨x,H1,I1,r1,q1⟩:=zq;obtain⟨d,rfl,q⟩:=q1;cases r1;exact afH #[H1,I1,q]
theorem Qh(h:PE X e t)(he:∀ whole,anf e X.env whole=(do let v <- whole;akm e.pos;holding [v] (truthy v)):=by intro y;rfl):PT X e (tB t):=by intro pins s J H Q I hw;refine isTrue_plain (aF (h pins s J H _ I hw) λv s1 zq=>?_) (he _);obtain⟨x,H1,I1,r1,q1⟩:=zq;obtain⟨d,rfl,q⟩:=q1;cases r1;exact afH #[H1,I1,q]
variable{tA xt:TT}{rest:List aiF}
def GV(t u:TT):TT:=λJ H Q=>t J H λc H1=>if c=true then u J H1 Q else Q false H1
def GW(t u:TT):TT:=λJ H Q=>t J H λc H1=>if c=true then Q true H1 else u J H1 Q
def GX(t:TT):TT:=λJ H Q=>t J H λc H1=>Q (!c) H1
theorem kL(ha:PT X a tA):PW X (.BoolOp .And [a] pos) tA:=by
 intro wh pins s J H Q I h;refine isTrue_and (aF (ha pins s J H Q I h) λc s1 e=>?_);cases c with
 | true=>exact isTrue_and_nil e
 | false=>exact e
theorem da(ha:PT X a tA):PW X (.BoolOp .Or [a] pos) tA:=by
 intro wh pins s J H Q I h;refine isTrue_or (aF (ha pins s J H Q I h) λc s1 e=>?_);cases c with
 | false=>exact isTrue_or_nil e
 | true=>exact e
theorem jY(ha:PT X a tA)(hb:PW X (.BoolOp .And (b::rest) pos) xt):PW X (.BoolOp .And (a::b::rest) pos) (GV tA xt):=by
 intro wh pins s J H Q I h;refine isTrue_and (aF (ha pins s J H _ I h) λc s1 zq=>?_);obtain⟨H1,I1,q1⟩:=zq;cases c with
 | true=>exact hb wh pins s1 J H1 Q I1 q1
 | false=>exact#[H1,I1,q1]
theorem bI(ha:PT X a tA)(hb:PW X (.BoolOp .Or (b::rest) pos) xt):PW X (.BoolOp .Or (a::b::rest) pos) (GW tA xt):=by
 intro wh pins s J H Q I h;refine isTrue_or (aF (ha pins s J H _ I h) λc s1 zq=>?_);obtain⟨H1,I1,q1⟩:=zq;cases c with
 | true=>exact#[H1,I1,q1]
 | false=>exact hb wh pins s1 J H1 Q I1 q1
theorem bJ(ha:PT X a tA):PT X (.UnaryOp .Not a pos) (GX tA):=by intro pins s J H Q I h;exact isTrue_not (ha pins s J H (λc H1=>Q (!c) H1) I h)
def GY(ta tb:TE):TE:=λJ H Q=>ta J H λx H1=>∃ c,x = .bl c/\if c=true then tb J H1 Q else Q (.bl false) H1
def GZ(ta tb:TE):TE:=λJ H Q=>ta J H λx H1=>∃ c,x = .bl c/\if c=true then Q (.bl true) H1 else tb J H1 Q
def G0(ta:TE):TE:=λJ H Q=>ta J H λx H1=>∃ c,x = .bl c/\Q (.bl (!c)) H1
theorem fH(h:PE X a t):PE X (.BoolOp op [a] pos) t:=λpins s J H Q I hw=>BoolOp_one (h pins s J H Q I hw)
theorem Qi(ha:PE X a ta)(hb:PE X (.BoolOp .And (b::rest) pos) tb):PE X (.BoolOp .And (a::b::rest) pos) (GY ta tb):=by
 intro pins s J H Q I h;refine BoolOp_and (aF (ha pins s J H _ I h) λv s1 zq=>?_);obtain⟨x,H1,I1,r1,q1⟩:=zq;obtain⟨c,rfl,q1⟩:=q1;cases r1;refine afH ?_;cases c with
 | true=>exact hb pins s1 J H1 Q I1 q1
 | false=>exact#[.bl false,H1,I1,Y,q1]
theorem Qj(ha:PE X a ta)(hb:PE X (.BoolOp .Or (b::rest) pos) tb):PE X (.BoolOp .Or (a::b::rest) pos) (GZ ta tb):=by
 intro pins s J H Q I h;refine BoolOp_or (aF (ha pins s J H _ I h) λv s1 zq=>?_);obtain⟨x,H1,I1,r1,q1⟩:=zq;obtain⟨c,rfl,q1⟩:=q1;cases r1;refine afH ?_;cases c with
 | false=>exact hb pins s1 J H1 Q I1 q1
 | true=>exact#[.bl true,H1,I1,Y,q1]
theorem Qk(ha:PE X a ta):PE X (.UnaryOp .Not a pos) (G0 ta):=by intro pins s J H Q I h;refine UnaryOp_ (aF (ha pins s J H _ I h) λv s1 zq=>?_);obtain⟨x,H1,I1,r1,q1⟩:=zq;obtain⟨c,rfl,q1⟩:=q1;cases r1;exact not_of (afH #[.bl (!c),H1,I1,Y,q1])
def G1(t:TT)(ta tb:TE):TE:=λJ H Q=>t J H λc H1=>if c=true then ta J H1 Q else tb J H1 Q
theorem nD(hc:PT X c tA)(ha:PE X a ta)(hb:PE X b tb):PE X (.IfExp c a b pos) (G1 tA ta tb):=by
 intro pins s J H Q I h;refine wpAny_IfExp (aF (hc pins s J H _ I h) λd s1 zq=>?_);obtain⟨H1,I1,q1⟩:=zq;cases d with
 | true=>exact ha pins s1 J H1 Q I1 q1
 | false=>exact hb pins s1 J H1 Q I1 q1
end
def ai(K:aeN)(H:Hp)(a:ae0)(xs:List V):Prop :=
 Rd H a (.lst xs) ∨
  ∃ (o:Obj) (aw:Array aeX) (n:Nat),K.lookup a=U o/\o.cls = .type "list" /\ o.dict=O/\o.data = .seq aw n/\aw.size<=afl/\Vals xs aw.toList
def aj(K:aeN)(H:Hp)(a:ae0)(xs:List V):Prop :=
 Rd H a (.tup xs) ∨
  ∃ (o:Obj) (aw:Array aeX) (n:Nat),K.lookup a=U o/\o.cls = .type "tuple" /\ o.data = .seq aw n/\aw.size<=afl/\Vals xs aw.toList
noncomputable def Ql:aeX->Option V
 | .none=>U .non
 | .bool b=>U (.bl b)
 | .int i _=>U (.int i)
 | .str x _=>U (.str x)
 | .bytes b _=>U (.byt b)
 | .float b _=>U (.flt b)
 | .ref a=>U (.ref a)
 | .type n=>U (.ty n)
 | _=>O
theorem RelV.abs(r:RelV x u):Ql u=U x:=by
 cases x with
 | non=>cases r;rfl
 | bl _=>cases r;rfl
 | int _=>obtain⟨t,rfl⟩:=r;rfl
 | str _=>obtain⟨t,rfl⟩:=r;rfl
 | byt _=>obtain⟨t,rfl⟩:=r;rfl
 | flt _=>obtain⟨t,rfl⟩:=r;rfl
 | ref _=>cases r;rfl
 | ty _=>cases r;rfl
theorem RelV.inj(r:RelV x u)(q:RelV y u):x=y:=Option.some.inj (r.abs.symm.trans q.abs)
theorem Vals.inj:∀ {xs ys:List V} {us:List aeX},Vals xs us->Vals ys us->xs=ys:=by
 intro xs ys us h h'
 induction h generalizing ys with
 | nil=>cases h';rfl
 | cons r t ih =>
  cases h' with
  | cons r' t'=>rw[r.inj r',ih t']
section
theorem ai.of{K:aeN}(h:H a=U (.lst xs)):ai K H a xs:=.inl (.inl h)
theorem aj.of{K:aeN}(h:H a=U (.tup xs)):aj K H a xs:=.inl (.inl h)
theorem Inv.list(I:Inv X pins J H s)(h:ai X.K H a xs):∃ aw:List aeX,Vals xs aw/\PlainL s.heap a aw.toArray/\xs.length<=afl:=by
 rcases h with h|⟨o,aw,n,hk,hc,hd,hs,hz,r⟩
 .obtain⟨z,aw,n,r,e⟩:=h.ok I.aB;exact#[aw,r,#[_,n,e,Y,Y,Y],z]
 .refine#[aw.toList,r,#[o,n,I.cG a o hk,hc,hd,by simpa using hs],?_];have e:=r.length;simp only[agE] at e;omega
theorem Inv.tuple(I:Inv X pins J H s)(h:aj X.K H a xs):∃ aw:List aeX,Vals xs aw/\IsTup s.heap a aw.toArray/\xs.length<=afl:=by
 rcases h with h|⟨o,aw,n,hk,hc,hs,hz,r⟩
 .obtain⟨z,aw,r,p⟩:=h.ok I.aB;exact#[aw,r,p,z]
 .refine#[aw.toList,r,#[o,I.cG a o hk,hc,n,by simpa using hs],?_];have e:=r.length;simp only[agE] at e;omega
theorem Inv.uh(I:Inv X pins J H s)(h:ai X.K H a xs)(h':ai X.K H a ys):xs=ys:=by
 obtain⟨aw,r,⟨o,n,e,y,y,d⟩,y⟩:=I.list h;obtain⟨its',r',⟨o',n',e',y,y,d'⟩,y⟩:=I.list h';rw[e] at e';cases e';rw[d] at d';injection d' with d1 _;have:aw=its':=by simpa using congrArg alP d1
 subst this;exact r.inj r'
theorem Inv.Qm(I:Inv X pins J H s)(h:aj X.K H a xs)(h':aj X.K H a ys):xs=ys:=by
 obtain⟨aw,r,⟨o,e,y,n,d⟩,y⟩:=I.tuple h;obtain⟨its',r',⟨o',e',y,n',d'⟩,y⟩:=I.tuple h';rw[e] at e';cases e';rw[d] at d';injection d' with d1 _;have:aw=its':=by simpa using congrArg alP d1
 subst this;exact r.inj r'
end
noncomputable abbrev Cx.kM(X:Cx)(E:aeX->ae4->Prop):Cx:={ X with xe:=E }
noncomputable abbrev Cx.rm(X:Cx):Cx:=X.kM λy y=>False
theorem Cx.Ok.kM{X:Cx}(ok:X.Ok)(E:aeX->ae4->Prop):(X.kM E).Ok :=
 #[ok.mod,ok.kind,ok.glob,ok.blt,ok.above,ok.inj,ok.has,ok.cab,ok.hd,ok.frames,ok.stk,ok.exf,ok.bs,ok.bsz,ok.noex,ok.exfs,ok.hV,ok.frf]
theorem Cx.Ok.nE{X:Cx}{E:aeX->ae4->Prop}(ok:(X.kM E).Ok):X.Ok :=
 #[ok.mod,ok.kind,ok.glob,ok.blt,ok.above,ok.inj,ok.has,ok.cab,ok.hd,ok.frames,ok.stk,ok.exf,ok.bs,ok.bsz,ok.noex,ok.exfs,ok.hV,ok.frf]
section
theorem Inv.kM(I:Inv X pins J H s)(E:aeX->ae4->Prop):Inv (X.kM E) pins J H s:=#[I.ok.kM E,I.os,I.bare,I.base,I.loc,I.cell,I.free,I.gF,I.pin,I.aB,I.len]
theorem Inv.nE(I:Inv (X.kM E) pins J H s):Inv X pins J H s:=#[I.ok.nE,I.os,I.bare,I.base,I.loc,I.cell,I.free,I.gF,I.pin,I.aB,I.len]
theorem SP.nE(h:SP (X.kM E) pins D f s'):SP X pins D f s':=by
 cases f with
 | next=>obtain⟨σ',H',I,q⟩:=h;exact#[σ',H',I.nE,q]
 | brk=>obtain⟨σ',H',I,q⟩:=h;exact#[σ',H',I.nE,q]
 | cont=>obtain⟨σ',H',I,q⟩:=h;exact#[σ',H',I.nE,q]
 | ret u=>obtain⟨v,σ',H',I,r,q⟩:=h;exact#[v,σ',H',I.nE,r,q]
theorem aS.rm{st:List ajO}{t:TS}(h:aS X.rm st t):aS X st t:=λpins s J H D I hw =>
 age (h pins s J H D (I.kM _) hw) (λy y q=>q.nE) λy y z=>agO z
end
section
variable{X:Cx}{st:ajO}{rest:List ajO}{t u:TS}{e:aiF}{te:TE}{pos:Pos}
def G2:TS:=λD J H=>D.nx J H
def rn(t u:TS):TS:=λD J H=>t { D with nx:=u D } J H
theorem aG:aS X [] G2:=λy y J H y I h=>aiR #[J,H,I,h]
theorem au(h1:PS X st t)(h2:aS X rest u):aS X (st::rest) (rn t u):=by
 intro pins s J H D I h;refine alY (aF (h1 pins s J H { D with nx:=u D } I h) λf s1 q=>?_);cases f with
 | next =>
  obtain⟨σ',H',I',q⟩:=q;exact h2 pins s1 σ' H' D I' q
 | ret v=>exact q
 | brk=>exact q
 | cont=>exact q
theorem aq(h1:PS X st t):aS X [st] t:=by
 intro pins s J H D I h;refine alY (aF (h1 pins s J H D I h) λf s1 q=>?_);cases f with
 | next=>exact aiR q
 | ret v=>exact q
 | brk=>exact q
 | cont=>exact q
theorem Inv.quiet(I:Inv X pins J H s):interactive X.env=false:=by simp[interactive,I.ok.kind]
def G3(te:TE):TS:=λD J H=>te J H λy H1=>D.nx J H1
theorem fI(he:PE X e te)(hs:aiS e O pos.line X.env=pure false:=by rfl):PS X (.Expr e pos) (G3 te):=by intro pins s J H D I h;exact wpAny_Expr_any (aF (he pins s J H _ I h) λv s1 ⟨x,H1,I1,r1,q1⟩=>#[J,H1,I1,q1]) I.quiet hs
def G4(te:TE):TS:=λD J H=>te J H D.rt
theorem az(he:PE X e te):PS X (.Return (U e) pos) (G4 te):=by intro pins s J H D I h;exact wpAny_Return_some (aF (he pins s J H _ I h) λv s1 ⟨x,H1,I1,r1,q1⟩=>#[x,J,H1,I1,r1,q1])
def ui(c:TT)(t u:TS):TS:=λD J H=>c J H λb H1=>if b=true then t D J H1 else u D J H1
theorem aH(hc:PT X c tc)(ha:aS X a t)(hb:aS X b u):PS X (.If c a b pos) (ui tc t u):=by
 intro pins s J H D I h;refine wpAny_If (aF (hc pins s J H _ I h) λd s1 zq=>?_);obtain⟨H1,I1,q1⟩:=zq;cases d with
 | true=>exact ha pins s1 J H1 D I1 q1
 | false=>exact hb pins s1 J H1 D I1 q1
end
abbrev TG:=V->St->Hp->(St->Hp->Prop)->Prop
abbrev uj:=List V->St->Hp->(St->Hp->Prop)->Prop
def PG(X:Cx)(target:aiF)(t:TG):Prop :=
 ∀ (pins:List (ae0 × Obj)) (s:ae4) (J:St) (H:Hp) (v:V) (u:aeX) (Q:St->Hp->Prop),Inv X pins J H s->RelV v u->t v J H Q ->
  afe (model X.prog X.w) X.A (assign target X.env u) (λy s'=>∃ σ' H',Inv X pins σ' H' s'/\Q σ' H') X.xe s
def xu(X:Cx)(ts:List aiF)(t:uj):Prop :=
 ∀ (pins:List (ae0 × Obj)) (s:ae4) (J:St) (H:Hp) (vs:List V) (us:List aeX) (Q:St->Hp->Prop),Inv X pins J H s->Vals vs us->t vs J H Q ->
  afe (model X.prog X.w) X.A (assignInOrder ((ajx ts X.env).map (·.2)) us) (λy s'=>∃ σ' H',Inv X pins σ' H' s'/\Q σ' H') X.xe s
abbrev G5:=V->V->V->Hp->(Hp->Prop)->Prop
def G6(X:Cx)(t:G5):Prop :=
 ∀ (pins:List (ae0 × Obj)) (s:ae4) (J:St) (H:Hp) (o i v:V) (ov iv u:aeX) (Q:Hp->Prop),Inv X pins J H s->RelV o ov->RelV i iv->RelV v u->t o i v H Q ->
  afe (model X.prog X.w) X.A (setItem ov iv u) (λy s'=>∃ H',Inv X pins J H' s'/\Q H') X.xe s
section
def cu(i:Nat):TG:=λv J H Q=>Q (J.set i (U v)) H
theorem iD(hN:X.N.Nodup)(hi:X.N[i]?=U x)(hx:Loc X.env.scope x)(hf:X.fn x=true∨X.env.scope.names.lookup x=U .local:=by first|exact .inl rfl|exact .inr rfl|assumption):PG X (.Name x pos) (cu i):=by intro pins s J H v u Q I r h;exact wpAny_assign_Name (GP I hN hi hx r (λs' I'=>#[_,H,I',h]) hf)
def iZ:uj:=λvs J H Q=>vs=[]/\Q J H
def cY(t:TG)(u:uj):uj:=λvs J H Q=>∃ v r,vs=v::r/\t v J H λσ' H'=>u r σ' H' Q
theorem kN:xu X [] iZ:=by intro pins s J H vs us Q I r h;obtain⟨e,h⟩:=h;subst e;cases r;exact assignInOrder_nil #[J,H,I,h]
theorem eI(h1:PG X e t)(h2:xu X es u)(hs:(ajx (e::es) X.env).map (·.2)=assign e X.env::(ajx es X.env).map (·.2):=by rfl):xu X (e::es) (cY t u):=by
 intro pins s J H vs us Q I r h;obtain⟨v,vr,e1,h⟩:=h;subst e1;cases r with
 | cons r rr =>
  rw[hs];refine assignInOrder_cons (aF (h1 pins s J H _ _ _ I r h) λy s1 zq=>?_);obtain⟨σ1,H1,I1,q1⟩:=zq;exact h2 pins s1 σ1 H1 _ _ Q I1 rr q1
def jw(K:aeN)(n:Nat)(t:uj):TG:=λv J H Q=>∃ a xs,v = .ref a/\aj K H a xs/\xs.length=n/\t xs J H Q
theorem kO(hc:X.calm=true)(h:xu X es t)(hn:(ajx es X.env).length=n:=by rfl)(cQ:(ajx es X.env).findIdx? (·.1)=O:=by rfl):PG X (.Tuple es k pos) (jw X.K n t):=by intro pins s J H v u Q I r hw;obtain⟨a,xs,e1,hq,hl,hw⟩:=hw;subst e1;cases r;obtain⟨aw,rv,ht,hz⟩:=I.tuple hq;refine assign_Tuple_tuple (I.ok.hd hc) ht (by simp[hn,<- hl,rv.length]) cQ λh' hx=>?_;have I1:Inv X pins J H { s with heap:=h' }:=I.kept (t':=s.toks) λb o e=>hx b o (afa (aeU e)) e;exact h pins _ J H xs _ Q I1 (by simpa using rv) hw
def G7(to ti:TE)(t:G5):TG:=λv J H Q=>to J H λo H1=>ti J H1 λi H2=>t o i v H2 λH3=>Q J H3
theorem AZ(ho:PE X o to)(hi:PE X i ti)(hs:G6 X t)(ha:∀ v,assign (.Subscript o i pos) X.env v=(do
 let ov <- holding [v] (eval o X.env)
 let iv <- holding [v,ov] (eval i X.env)
 akm pos
 holding [v,ov,iv] (setItem ov iv v)
 release [v,ov,iv] []):=by intro z;rfl):PG X (.Subscript o i pos) (G7 to ti t):=by
 intro pins s J H v u Q I r h;rw[ha];refine aeM (agr (aF (ho pins s J H _ I h) λov s1 zq=>?_));obtain⟨x,H1,I1,r1,q1⟩:=zq;refine aeM (agr (aF (hi pins s1 J H1 _ I1 q1) λiv s2 zq=>?_));obtain⟨y,H2,I2,r2,q2⟩:=zq;refine aeM (ak9 (aeM (agr (aF (hs pins s2 J H2 x y v ov iv u _ I2 r1 r2 r q2) λz s3 zq=>?_))));obtain⟨H3,I3,q3⟩:=zq;exact wpAny_release #[J,H3,I3,q3]
def xy(te:TE)(g:TG):TS:=λD J H=>te J H λx H1=>g x J H1 D.nx
theorem A0(he:PE X e te)(hg:PG X tg g)(hs:swapsWithSole [tg] e pos.line X.env=pure false:=by rfl)(hw:swappedStores [tg] e X.env=pure O:=by rfl)(h1:(ajx [tg] X.env).map (·.2)=[assign tg X.env]:=by rfl):PS X (.Assign [tg] e pos) (xy te g):=by intro pins s J H D I h;refine wpAny_Assign_stores (aF (he pins s J H _ I h) λv s1 zq=>?_) hs hw;obtain⟨x,H1,I1,r1,q1⟩:=zq;rw[h1];exact aF (hg pins s1 J H1 x v _ I1 r1 q1) λy s2 q=>q
theorem jZ(hN:X.N.Nodup)(hi:X.N[i]?=U x)(hx:Loc X.env.scope x)(he:PE X e te)(hs:aiS e (U (.Name x pos')) pos.line X.env=pure false:=by rfl)(hf:X.fn x=true∨X.env.scope.names.lookup x=U .local:=by first|exact .inl rfl|exact .inr rfl|assumption) :
 PS X (.Assign [.Name x pos'] e pos) (xy te (cu i)):=by
 intro pins s J H D I h;refine wpAny_Assign_Name (aF (he pins s J H _ I h) λv s1 zq=>?_) hs;obtain⟨y,H1,I1,r1,q1⟩:=zq;exact GP I1 hN hi hx r1 (λs2 I2=>#[_,H1,I2,q1]) hf
end
structure It where
 go:Nat->Hp->Prop
 yld:Nat->Hp->V->Hp->Prop
 stop:Nat->Hp->Prop
def fk(X:Cx)(pins:List (ae0 × Obj))(H:Hp)(b:ae0):Prop :=
 H b=O/\b≠X.env.locals/\b∉X.fs/\(b∈X.ex∨X.s₀.heap.objs.size<=b)/\(∀ x c,X.env.cells.lookup x=U c->c≠b)/\∀ p∈X.pn++pins,p.1≠b
theorem Inv.jx(I:Inv X pins J H s)(hb:s.heap.objs.size<=b)(hn:H' b=O):fk X pins H' b:=by
 refine#[hn,af3 (afm I.lt hb),I.GK hb,.inr (aeT I.sz hb),λx c e z=>?_,λp hp z=>?_]
 .obtain⟨v,q⟩:=I.cell x c e;exact absurd (afm q.lt (by rw[z];exact hb)) (agk _)
 .exact absurd (afm (aeU (I.pin p hp).1) (by rw[z];exact hb)) (agk _)
structure Turn(P:afG)(w:agn)(K:aeN)(tg:aiF)(J9q:It)(fp:List ae0)(it:ae0)(tn:Nat->ag3->Prop):Prop where
 mem:it∈fp
 obj:∀ i h,tn i h->∀ b∈fp,∃ o,h.get? b=U o/\∀ v,o.data ≠ .cell v
 keep:∀ i h h',tn i h->(∀ b∈fp,∀ o,h.get? b=U o->h'.get? b=U o)->tn i h'
 item:∀ (X:Cx),X.prog=P->X.w=w->X.K=K->X.calm=true->∀ (i:Nat) (pins:List (ae0 × Obj)) (s:ae4) (J:St) (H:Hp) (E:aeX->ae4->Prop),Inv X pins J H s->(∀ b∈fp,fk X pins H b)->tn i s.heap->J9q.go i H ->
  afe (model P w) X.A (ahN (.ref it)) (λr s1=>∃ u,r=U u /\
   afe (model P w) X.A (aiT tg (.ref it) u) (λ_ s2=>∃ x H',Inv X pins J H' s2/\RelV x u/\J9q.yld i H x H'/\tn (i+1) s2.heap/\∀ b∈fp,H' b=O) E s1) E s
 done:∀ (X:Cx),X.prog=P->X.w=w->X.K=K->X.calm=true->∀ (i:Nat) (pins:List (ae0 × Obj)) (s:ae4) (J:St) (H:Hp) (E:aeX->ae4->Prop),Inv X pins J H s->(∀ b∈fp,fk X pins H b)->tn i s.heap->J9q.stop i H ->
  afe (model P w) X.A (ahN (.ref it)) (λr s1=>r=O/\Inv X pins J H s1) E s
 self:∀ (A:agD) (i:Nat) (s:ae4) (Q:aeX->ae4->Prop) (E:aeX->ae4->Prop),tn i s.heap->Q (.ref it) s->afe (model P w) A (ang (.ref it)) Q E s
abbrev TI:=St->Hp->(It->Hp->Prop)->Prop
def G8(X:Cx)(pins:List (ae0 × Obj))(J:St)(tg:aiF)(R:It->Hp->Prop)(xA:aeX)(s2:ae4):Prop :=
 ∃ (it:ae0) (fp:List ae0) (tn:Nat->ag3->Prop) (J9q:It) (H':Hp),xA = .ref it/\Inv X pins J H' s2/\Turn X.prog X.w X.K tg J9q fp it tn/\tn 0 s2.heap/\(∀ b∈fp,fk X pins H' b)/\R J9q H'
def PI(X:Cx)(tg iter:aiF)(wi:TI):Prop :=
 ∀ (pins:List (ae0 × Obj)) (s:ae4) (J:St) (H:Hp) (R:It->Hp->Prop),Inv X pins J H s->wi J H R ->
  afe (model X.prog X.w) X.A (eval iter X.env) (λv s1=>afe (model X.prog X.w) X.A (ang v) (G8 X pins J tg R) X.xe s1) X.xe s
theorem rq(ho:s.heap.get? it=U o)(hc:o.cls = .type n)(hd:o.data = .fields vs)(hn:["enumerate","zip","dict_itemiterator","dict_reverseitemiterator","odict_iterator","itertools.zip_longest","itertools.pairwise"].contains n=false)(hQ:Q () s):afe M A (aiT tg (.ref it) u) Q E s:=by
 unfold aiT;cases tg<;>first
  | exact aeR hQ
  | (cases u<;>first
      | exact aeR hQ
      | (refine aeM (wpAny_load ho ?_)
         rw[hc,hd];show afe M A (if (["enumerate","zip","dict_itemiterator","dict_reverseitemiterator","odict_iterator","itertools.zip_longest","itertools.pairwise"].contains n && vs[0]? == U (aie _))=true then _ else _) Q E s;rw[if_neg (by intro h;rw[hn,ajm] at h;cases h)];exact aeR hQ))
noncomputable def j4(K:aeN)(a:ae0):It :=
 #[λi H=>∃ xs x,ai K H a xs/\xs[i]?=U x,λi H x H'=>H'=H/\∀ xs,ai K H a xs->xs[i]?=U x,λi H=>∃ xs,ai K H a xs/\xs.length<=i]
noncomputable def lZ(K:aeN)(a:ae0):It :=
 #[λi H=>∃ xs x,aj K H a xs/\xs[i]?=U x,λi H x H'=>H'=H/\∀ xs,aj K H a xs->xs[i]?=U x,λi H=>∃ xs,aj K H a xs/\xs.length<=i]
noncomputable def jy(lo:Int)(n:Nat):It:=#[λi y=>i<n,λi H x H'=>H'=H/\x = .int (lo+i),λi y=>n<=i]
theorem Qn{P:afG}{w:agn}{K:aeN}{tg:aiF}(a it:ae0):Turn P w K tg (j4 K a) [it] it (λi h=>h.IsListIter it a i) where
 mem:=by simp
 obj:=λi h st b hb=>by
  have e:b=it:=by simpa using hb
  subst e;obtain⟨o,e,c,d⟩:=st;exact#[o,e,λv z=>by rw[d] at z;cases z]
 keep:=λi h h' st k=>st.at λo e=>k it (by simp) o e
 item:=by intro X hP hw hK hc i pins s J H E I hf st hg;subst hP hw hK;obtain⟨xs,x,hq,hx⟩:=hg;obtain⟨aw,rv,p,hz⟩:=I.list hq;obtain⟨u,hu,ru⟩:=rv.get hx;obtain⟨f0,f1,f2,f3,f4,f5⟩:=hf it (by simp);refine wpAny_pyNext_list_item st p.isList (x:=u) (by simpa using hu) λh' dN sb=>?_;have I1:Inv X pins J H { s with heap:=h' }:=I.turned (t':=s.toks) (λb o hb e=>(sb.2 b hb).trans e) f0 f1 f3 f4 f5;obtain⟨o,e,c,d⟩:=id dN;exact#[u,Y,rq (s:={ s with heap:=h' }) e c d (by decide) #[x,H,I1,ru,#[Y,λys hy=>by rw[I.uh hy hq];exact hx],dN,λb hb=>(hf b hb).1]]
 done:=by
  intro X hP hw hK hc i pins s J H E I hf st hg;subst hP hw hK;obtain⟨xs,hq,hx⟩:=hg;obtain⟨aw,rv,p,hz⟩:=I.list hq;obtain⟨f0,f1,f2,f3,f4,f5⟩:=hf it (by simp);have hl:=rv.length;exact wpAny_pyNext_list_end (I.ok.hd hc) st p.isList (by simp;omega) λh' eb=>#[Y,I.turned (t':=s.toks) (λb o hb e=>eb b o hb e) f0 f1 f3 f4 f5]
 self:=λy y y y y st h=>wpAny_pyIter_listiter st h
theorem Qo{P:afG}{w:agn}{K:aeN}{tg:aiF}(a it:ae0):Turn P w K tg (lZ K a) [it] it (λi h=>h.IsTupleIter it a i) where
 mem:=by simp
 obj:=λi h st b hb=>by
  have e:b=it:=by simpa using hb
  subst e;obtain⟨o,e,c,d⟩:=st;exact#[o,e,λv z=>by rw[d] at z;cases z]
 keep:=λi h h' st k=>st.at λo e=>k it (by simp) o e
 item:=by intro X hP hw hK hc i pins s J H E I hf st hg;subst hP hw hK;obtain⟨xs,x,hq,hx⟩:=hg;obtain⟨aw,rv,p,hz⟩:=I.tuple hq;obtain⟨u,hu,ru⟩:=rv.get hx;obtain⟨f0,f1,f2,f3,f4,f5⟩:=hf it (by simp);refine wpAny_pyNext_tuple_item st (show s.heap.IsTuple a aw.toArray from p) (x:=u) (by simpa using hu) λh' dN sb=>?_;have I1:Inv X pins J H { s with heap:=h' }:=I.turned (t':=s.toks) (λb o hb e=>(sb.2 b hb).trans e) f0 f1 f3 f4 f5;obtain⟨o,e,c,d⟩:=id dN;exact#[u,Y,rq (s:={ s with heap:=h' }) e c d (by decide) #[x,H,I1,ru,#[Y,λys hy=>by rw[I.Qm hy hq];exact hx],dN,λb hb=>(hf b hb).1]]
 done:=by
  intro X hP hw hK hc i pins s J H E I hf st hg;subst hP hw hK;obtain⟨xs,hq,hx⟩:=hg;obtain⟨aw,rv,p,hz⟩:=I.tuple hq;obtain⟨f0,f1,f2,f3,f4,f5⟩:=hf it (by simp);have hl:=rv.length;exact wpAny_pyNext_tuple_end (I.ok.hd hc) st (show s.heap.IsTuple a aw.toArray from p) (by simp;omega) λh' eb=>#[Y,I.turned (t':=s.toks) (λb o hb e=>eb b o hb e) f0 f1 f3 f4 f5]
 self:=λy y y y y st h=>wpAny_pyIter_tupleiter st h
theorem Qp{P:afG}{w:agn}{K:aeN}{tg:aiF}(it:ae0)(lo:Int)(n:Nat):Turn P w K tg (jy lo n) [it] it (λi h=>akX h it (lo+(i:Nat) * 1) ((n:Int)-(i:Nat)) 1) where
 mem:=by simp
 obj:=λi h st b hb=>by
  have e:b=it:=by simpa using hb
  subst e;exact#[_,st,λv z=>by
   have z':Data.fields _=Data.cell v:=z;cases z']
 keep:=λi h h' st k=>k it (by simp) _ st
 item:=by intro X hP hw hK hc i pins s J H E I hf st hg;subst hP hw hK;obtain⟨f0,f1,f2,f3,f4,f5⟩:=hf it (by simp);have W:=Walks.range (prog:=X.prog) (w:=X.w) (I.ok.hd hc) it lo 1 n;refine W.item i s _ _ hg st λv h' tk hv dN kk=>?_;obtain⟨t,rfl⟩:=hv;have I1:Inv X pins J H { s with heap:=h',toks:=tk }:=I.turned (λb o hb e=>kk b o (by simpa using hb) e) f0 f1 f3 f4 f5;refine#[_,Y,rq (s:={ s with heap:=h',toks:=tk }) (n := "range_iterator") dN Y Y (by decide) #[.int (lo+i),H,I1,#[t,?_],#[Y,Y],dN,λb hb=>(hf b hb).1]];rw[Int.mul_one]
 done:=by
  intro X hP hw hK hc i pins s J H E I hf st hg;subst hP hw hK;obtain⟨f0,f1,f2,f3,f4,f5⟩:=hf it (by simp);exact aj8 (I.ok.hd hc) st (by have:n<=i:=hg;omega) λh' eb=>#[Y,I.turned (t':=s.toks) (λb o hb e=>eb b o hb e) f0 f1 f3 f4 f5]
 self:=λy y y y y st h=>aj9 st h
section
def A1(K:aeN)(tl:TE):TI:=λJ H R=>tl J H λx H1=>∃ a,x = .ref a/\(∃ xs,ai K H1 a xs)/\R (j4 K a) H1
def A2(K:aeN)(tl:TE):TI:=λJ H R=>tl J H λx H1=>∃ a,x = .ref a/\(∃ xs,aj K H1 a xs)/\R (lZ K a) H1
theorem cI(hl:PE X l tl):PI X tg l (A1 X.K tl):=by
 intro pins s J H R I h;refine aF (hl pins s J H _ I h) λv s1 zq=>?_;obtain⟨x,H1,I1,r1,q1⟩:=zq;obtain⟨a,e,⟨xs,hq⟩,q⟩:=q1;subst e;cases r1;obtain⟨aw,rv,p,hz⟩:=I1.list hq;refine ail p.isList ?_;refine#[s1.heap.objs.size,[s1.heap.objs.size],_,_,H1,Y,I1.kept (t':=s1.toks) λb o e=>aeS _ e,Qn a _,#[_,aeZ _ Y,Y,Y],λb hb=>?_,q];have e:b=s1.heap.objs.size:=by simpa using hb
 subst e;exact I1.jx (aeV _) (I1.aB.fresh (aeV _))
theorem oW(hl:PE X l tl):PI X tg l (A2 X.K tl):=by
 intro pins s J H R I h;refine aF (hl pins s J H _ I h) λv s1 zq=>?_;obtain⟨x,H1,I1,r1,q1⟩:=zq;obtain⟨a,e,⟨xs,hq⟩,q⟩:=q1;subst e;cases r1;obtain⟨aw,rv,p,hz⟩:=I1.tuple hq;refine aje (show s1.heap.IsTuple a aw.toArray from p) ?_;refine#[s1.heap.objs.size,[s1.heap.objs.size],_,_,H1,Y,I1.kept (t':=s1.toks) λb o e=>aeS _ e,Qo a _,#[_,aeZ _ Y,Y,Y],λb hb=>?_,q];have e:b=s1.heap.objs.size:=by simpa using hb
 subst e;exact I1.jx (aeV _) (I1.aB.fresh (aeV _))
theorem G9{pins:List (ae0 × Obj)}{J:St}{H:Hp}{s:ae4}{R:It->Hp->Prop}{E:aeX->ae4->Prop}{lo hi:Int}{t u v:Tok}{tk:Nat}(I:Inv X pins J H s)(h1 : -(2 ^ 62)<=lo)(h2:lo<2 ^ 62)(h3 : -(2 ^ 62)<=hi)(h4:hi<2 ^ 62)
 (q:R (jy lo (hi-lo).toNat) H):afe (model X.prog X.w) X.A (ang (.ref s.heap.objs.size)) (G8 X pins J tg R) E { s with heap:=s.heap.push { cls:=.type "range",data:=.fields (List.toArray [.int lo t,.int hi u,.int 1 v]) },toks:=tk }:=by
 refine ala (IsRange.new ..) (small_one h1 h2 h3 h4) ?_;have I1:Inv X pins J H { s with heap:=s.heap.push { cls:=.type "range",data:=.fields (List.toArray [.int lo t,.int hi u,.int 1 v]) },toks:=tk }:=I.kept λb o e=>aeS _ e;refine#[(s.heap.push { cls:=.type "range",data:=.fields (List.toArray [.int lo t,.int hi u,.int 1 v]) }).objs.size,[(s.heap.push { cls:=.type "range",data:=.fields (List.toArray [.int lo t,.int hi u,.int 1 v]) }).objs.size],_,_,H,Y,
  I1.kept (t':=tk) λb o e=>aeS _ e,Qp _ lo (hi-lo).toNat,?_,λb hb=>?_,q]
 .have e1:lo+((0:Nat):Int) * 1=lo:=by simp
  have e2:(((hi-lo).toNat:Nat):Int)-((0:Nat):Int)=afW lo hi 1:=by rw[rangeSize_one];split<;>omega
  show akX _ _ (lo+((0:Nat):Int) * 1) ((((hi-lo).toNat:Nat):Int)-((0:Nat):Int)) 1;rw[e1,e2];exact aeZ _ rfl
 .have e:b=(s.heap.push { cls:=.type "range",data:=.fields (List.toArray [.int lo t,.int hi u,.int 1 v]) }).objs.size:=by simpa using hb
  subst e;exact I1.jx (aeV _) (I1.aB.fresh (aeV _))
def A3(ta:TA):TI:=λJ H R=>ta J H λvs H1=>∃ j:Int,vs=[.int j]/\-(2 ^ 62)<=j/\j<2 ^ 62/\R (jy 0 j.toNat) H1
def A4(ta:TA):TI:=λJ H R=>ta J H λvs H1=>∃ i j:Int,vs=[.int i,.int j]/\(-(2 ^ 62)<=i/\i<2 ^ 62/\-(2 ^ 62)<=j/\j<2 ^ 62)/\R (jy i (j-i).toNat) H1
theorem jz(hg:Gl X "range")(hm:X.mg "range" = O)(ha:PA X [a] ta)(hs:afb [a] X.env=[(false,eval a X.env)]:=by rfl):PI X tg (.Call (.Name "range" p) [a] [] pos) (A3 ta):=by
 intro pins s J H R I h;refine anv (gG I hg hm amS (afw (aF (ha pos pins s J H _ I h) λus s1 zq=>?_) hs Y));obtain⟨vs,H1,I1,r1,q1⟩:=zq;obtain⟨j,e,q1,q2,q⟩:=q1;subst e;cases r1 with
 | cons r rr =>
  cases rr;obtain⟨t,rfl⟩:=r;exact call_range_1 (G9 I1 (by omega) (by omega) q1 q2 (by simpa using q))
theorem A5(hg:Gl X "range")(hm:X.mg "range" = O)(ha:PA X [a,b] ta)(hs:afb [a,b] X.env=[(false,eval a X.env),(false,eval b X.env)]:=by rfl)(dO:afb [b] X.env=[(false,eval b X.env)]:=by rfl) :
 PI X tg (.Call (.Name "range" p) [a,b] [] pos) (A4 ta):=by
 intro pins s J H R I h;refine anv (gG I hg hm amS (afw (aF (ha pos pins s J H _ I h) λus s1 ⟨vs,H1,I1,r1,q1⟩=>?_) (by rw[hs,dO]) (by rw[dO];rfl)));obtain⟨i,j,e,⟨q1,q2,q3,q4⟩,q⟩:=q1;subst e;cases r1 with
 | cons r rr =>
  cases rr with
  | cons r' rr =>
   cases rr;obtain⟨t,rfl⟩:=r;obtain⟨t',rfl⟩:=r';exact call_range_2 (G9 I1 q1 q2 q3 q4 q)
def kP(wi:TI)(g:TG)(tb:TS):TS:=λD J H=>wi J H λJ9q H1=>∃ W:Nat->Nat->St->Hp->Prop,(∃ m,W 0 m J H1)/\∀ i m J H,W i m J H ->
 (J9q.stop i H/\D.nx J H)∨(J9q.go i H/\∃ N:St->Hp->Prop,(∀ σ' H',N σ' H'->∃ m',m'<m/\W (i+1) m' σ' H')/\∀ x H',J9q.yld i H x H'->g x J H' λσ2 H2=>tb { D with nx:=N,ct:=N,bk:=D.nx } σ2 H2)
noncomputable def uk(fp:List ae0)(h:ag3):List (ae0 × Obj):=fp.filterMap λb=>(h.get? b).map λo=>(b,o)
theorem xB(hb:b∈fp)(e:h.get? b=U o):(b,o)∈uk fp h:=ajf.mpr #[b,hb,by rw[e];rfl]
theorem Qq(hp:p∈uk fp h):p.1∈fp/\h.get? p.1=U p.2:=by
 obtain⟨b,hb,e⟩:=ajf.mp hp;cases q:h.get? b with
 | none=>rw[q] at e;cases e
 | some o =>
  rw[q] at e;have e':(b,o)=p:=Option.some.inj e;subst e';exact#[hb,q]
theorem Inv.pinned(I:Inv X pins J H s)(hf:∀ b∈fp,fk X pins H b)(ho:∀ b∈fp,∃ o,s.heap.get? b=U o/\∀ v,o.data ≠ .cell v):Inv X (pins++uk fp s.heap) J H s :=
 I.ue λp hp=>(afq.mp hp).elim (λz=>I.pin p (afs _ z)) λz=>by obtain⟨hb,e⟩:=Qq z;obtain⟨f0,f1,f2,y⟩:=hf p.1 hb;obtain⟨o,e',d⟩:=ho p.1 hb;rw[e] at e';cases e';exact#[e,f0,f1,f2,d]
theorem Inv.xC(I:Inv X (pins++pl) J H s):Inv X pins J H s:=I.ue λp hp=>I.pin p (afs _ (agL _ hp))
theorem dt(hp:PassesOwn (model X.prog X.w) X.A X.env X.xe)(hc:X.calm=true)(hi:PI X tg iter wi)(hg:PG X tg g)(hb:aS X body tb)(hs:∀ x,ag8 iter X.env x=pure x:=by intro _;rfl):PS X (.For tg iter body [] pos) (kP wi g tb):=by
 intro pins s J H D I h;refine wpAny_For (aF (hi pins s J H _ I h) λv s1 h1=>aF h1 λxA s2 h2=>?_) hs;obtain⟨it,fp,tn,J9q,H2,e,I2,T,i3,f2,W,⟨m0,w0⟩,turn⟩:=h2;subst e;have A6:∀ {H':Hp},(∀ b∈fp,H' b=O)->∀ b∈fp,fk X pins H' b:=λhn b hb=>#[hn b hb,(f2 b hb).2]
 refine codeAny_forLoop_any (λn s'=>∃ i σ' H',Inv X pins σ' H' s'/\tn i s'.heap/\(∀ b∈fp,H' b=O)/\W i n σ' H') ?_ m0 #[0,J,H2,I2,i3,λb hb=>(f2 b hb).1,w0];rintro n s3 ⟨i,σ3,H3,I3,um,uo,w3⟩;rcases turn i n σ3 H3 w3 with ⟨stop,qn⟩|⟨go,N,hN,step⟩
 .refine ah6 hp (aF (T.done X Y Y Y hc i pins s3 σ3 H3 X.xe I3 (A6 uo) um stop) λr s4 zq=>?_);obtain⟨hr,I4⟩:=zq;subst hr;exact aiR #[σ3,H3,I4,qn]
 .refine ah6 hp (aF (T.item X Y Y Y hc i pins s3 σ3 H3 X.xe I3 (A6 uo) um go) λr s4 zq=>?_);obtain⟨u,hr,h4⟩:=zq;subst hr;refine ah6 hp (aF h4 λ_ s5 zq=>?_);obtain⟨x,H5,I5,r5,y5,oX,A7⟩:=zq;have A8:=I5.pinned (A6 A7) (T.obj _ _ oX);refine ah6 hp (aF (hg _ s5 σ3 H5 x u _ A8 r5 (step x H5 y5)) λ_ s6 zq=>?_);obtain⟨σ6,H6,I6,q6⟩:=zq;refine ah6 hp (aF (hb _ s6 σ6 H6 _ I6 q6) λf s7 q7=>?_);have again:∀ {σ7:St} {H7:Hp},Inv X (pins++uk fp s5.heap) σ7 H7 s7->N σ7 H7->∃ m,m<n/\∃ i σ' H',Inv X pins σ' H' s7/\tn i s7.heap/\(∀ b∈fp,H' b=O)/\W i m σ' H':=λ{σ7 H7} I7 n7=>by obtain⟨m',hm,w7⟩:=hN σ7 H7 n7;refine#[m',hm,i+1,σ7,H7,I7.xC,T.keep _ _ _ oX λb hb o e=>(I7.pin (b,o) (afs _ (afs _ (xB hb e)))).1,λb hb=>?_,w7];obtain⟨o,e,d⟩:=T.obj _ _ oX b hb;exact (I7.pin (b,o) (afs _ (afs _ (xB hb e)))).2.1
  cases f with
  | next=>obtain⟨σ7,H7,I7,n7⟩:=q7;exact again I7 n7
  | cont=>obtain⟨σ7,H7,I7,n7⟩:=q7;exact again I7 n7
  | brk=>obtain⟨σ7,H7,I7,q7⟩:=q7;exact#[σ7,H7,I7.xC,q7]
  | ret v=>obtain⟨x7,σ7,H7,I7,r7,q7⟩:=q7;exact#[x7,σ7,H7,I7.xC,r7,q7]
end
theorem Qr{K:aeN}{a:ae0}{xs:List V}{g:TG}{tb:TS}{D:Ends}{J:St}{H:Hp}(Pv:Nat->St->Hp->Prop)(h0:Pv 0 J H)(hl:∀ i J H,i<=xs.length->Pv i J H->ai K H a xs)
 (hs:∀ i x J H,xs[i]?=U x->Pv i J H->g x J H λσ2 H2=>tb { D with nx:=Pv (i+1),ct:=Pv (i+1),bk:=D.nx } σ2 H2) (hd:∀ J H,Pv xs.length J H->D.nx J H) :
 ∃ W:Nat->Nat->St->Hp->Prop,(∃ m,W 0 m J H)/\∀ i m J H,W i m J H ->
  ((j4 K a).stop i H/\D.nx J H)∨((j4 K a).go i H/\∃ N:St->Hp->Prop,(∀ σ' H',N σ' H'->∃ m',m'<m/\W (i+1) m' σ' H')/\∀ x H',(j4 K a).yld i H x H'->g x J H' λσ2 H2=>tb { D with nx:=N,ct:=N,bk:=D.nx } σ2 H2):=by
 refine#[λi m J H=>m=xs.length-i/\i<=xs.length/\Pv i J H,#[xs.length,by simp,afi _,h0],?_];rintro i m J H ⟨rfl,hi,p⟩;have q:=hl i J H hi p;by_cases a8:i<xs.length
 .refine .inr #[#[xs,xs[i],q,by simp[a8]],Pv (i+1),λσ' H' p'=>#[xs.length-(i+1),by omega,Y,a8,p'],λx H' y=>?_];obtain⟨e,y⟩:=y;subst e;exact hs i x J _ (y xs q) p
 .have e:i=xs.length:=by omega
  subst e;exact .inl #[#[xs,q,aeV _],hd J H p]
theorem Qs{K:aeN}{a:ae0}{xs:List V}{g:TG}{tb:TS}{D:Ends}{J:St}{H:Hp}(Pv:Nat->St->Hp->Prop)(h0:Pv 0 J H)(hl:∀ i J H,i<=xs.length->Pv i J H->aj K H a xs)
 (hs:∀ i x J H,xs[i]?=U x->Pv i J H->g x J H λσ2 H2=>tb { D with nx:=Pv (i+1),ct:=Pv (i+1),bk:=D.nx } σ2 H2) (hd:∀ J H,Pv xs.length J H->D.nx J H) :
 ∃ W:Nat->Nat->St->Hp->Prop,(∃ m,W 0 m J H)/\∀ i m J H,W i m J H ->
  ((lZ K a).stop i H/\D.nx J H)∨((lZ K a).go i H/\∃ N:St->Hp->Prop,(∀ σ' H',N σ' H'->∃ m',m'<m/\W (i+1) m' σ' H')/\∀ x H',(lZ K a).yld i H x H'->g x J H' λσ2 H2=>tb { D with nx:=N,ct:=N,bk:=D.nx } σ2 H2):=by
 refine#[λi m J H=>m=xs.length-i/\i<=xs.length/\Pv i J H,#[xs.length,by simp,afi _,h0],?_];rintro i m J H ⟨rfl,hi,p⟩;have q:=hl i J H hi p;by_cases a8:i<xs.length
 .refine .inr #[#[xs,xs[i],q,by simp[a8]],Pv (i+1),λσ' H' p'=>#[xs.length-(i+1),by omega,Y,a8,p'],λx H' y=>?_];obtain⟨e,y⟩:=y;subst e;exact hs i x J _ (y xs q) p
 .have e:i=xs.length:=by omega
  subst e;exact .inl #[#[xs,q,aeV _],hd J H p]
theorem Qt{lo:Int}{n:Nat}{g:TG}{tb:TS}{D:Ends}{J:St}{H:Hp}(Pv:Nat->St->Hp->Prop)(h0:Pv 0 J H)
 (hs:∀ i J H,i<n->Pv i J H->g (.int (lo+i)) J H λσ2 H2=>tb { D with nx:=Pv (i+1),ct:=Pv (i+1),bk:=D.nx } σ2 H2) (hd:∀ J H,Pv n J H->D.nx J H) :
 ∃ W:Nat->Nat->St->Hp->Prop,(∃ m,W 0 m J H)/\∀ i m J H,W i m J H ->
  ((jy lo n).stop i H/\D.nx J H)∨((jy lo n).go i H/\∃ N:St->Hp->Prop,(∀ σ' H',N σ' H'->∃ m',m'<m/\W (i+1) m' σ' H')/\∀ x H',(jy lo n).yld i H x H'->g x J H' λσ2 H2=>tb { D with nx:=N,ct:=N,bk:=D.nx } σ2 H2):=by
 refine#[λi m J H=>m=n-i/\i<=n/\Pv i J H,#[n,by simp,afi _,h0],?_];rintro i m J H ⟨rfl,hi,p⟩;by_cases a8:i<n
 .refine .inr #[a8,Pv (i+1),λσ' H' p'=>#[n-(i+1),by omega,Y,a8,p'],λx H' y=>?_];obtain⟨e,y⟩:=y;subst e y;exact hs i J _ a8 p
 .have e:i=n:=by omega
  subst e;exact .inl #[aeV _,hd J H p]
abbrev R2:=V->V->Hp->VK->Prop
def bB(X:Cx)(f:aeX->aeX->Sem aeX)(r:R2):Prop :=
 ∀ (pins:List (ae0 × Obj)) (s:ae4) (J:St) (H:Hp) (x y:V) (v u:aeX) (Q:VK),Inv X pins J H s->RelV x v->RelV y u->r x y H Q ->
  afe (model X.prog X.w) X.A (f v u) (EP X pins J Q) X.xe s
def rA(X:Cx)(f:aeX->Sem aeX)(r:V->Hp->VK->Prop):Prop :=
 ∀ (pins:List (ae0 × Obj)) (s:ae4) (J:St) (H:Hp) (x:V) (v:aeX) (Q:VK),Inv X pins J H s->RelV x v->r x H Q ->
  afe (model X.prog X.w) X.A (f v) (EP X pins J Q) X.xe s
def fY(X:Cx)(f:aeX)(r:List V->Hp->VK->Prop):Prop :=
 ∀ (pins:List (ae0 × Obj)) (s:ae4) (J:St) (H:Hp) (xs:List V) (us:List aeX) (Q:VK),Inv X pins J H s->Vals xs us->r xs H Q ->
  afe (model X.prog X.w) X.A (call f us) (EP X pins J Q) X.xe s
def oY(r:R2)(ta tb:TE):TE:=λJ H Q=>ta J H λx H1=>tb J H1 λy H2=>r x y H2 Q
def Ha(r:V->Hp->VK->Prop)(ta:TE):TE:=λJ H Q=>ta J H λx H1=>r x H1 Q
def rI(C:Int->Int->Prop)(g:Int->Int->V):R2:=λx y H Q=>∃ i j,x = .int i/\y = .int j/\C i j/\Q (g i j) H
def iE(g:Int->Int->V):R2:=λx y H Q=>∃ i j,x = .int i/\y = .int j/\Q (g i j) H
def rU(g:Int->V):V->Hp->VK->Prop:=λx H Q=>∃ i,x = .int i/\Q (g i) H
section
theorem A9(ha:PE X a ta)(hb:PE X b tb){pins:List (ae0 × Obj)}{s:ae4}{J:St}{H:Hp}{R:V->V->Hp->Prop}(I:Inv X pins J H s)
 (h:ta J H λx H1=>tb J H1 λy H2=>R x y H2) {Q:aeX->ae4->Prop} {f:aeX->aeX->Sem aeX}
 (hf:∀ v u s2 x y H2,Inv X pins J H2 s2->RelV x v->RelV y u->R x y H2->afe (model X.prog X.w) X.A (f v u) Q X.xe s2) :
 afe (model X.prog X.w) X.A (eval a X.env) (λv s₁=>afe (model X.prog X.w) X.A (eval b X.env) (λu s₂=>afe (model X.prog X.w) X.A (f v u) Q X.xe s₂) X.xe s₁) X.xe s:=by
 refine aF (ha pins s J H _ I h) λv s1 zq=>?_;obtain⟨x,H1,I1,r1,q1⟩:=zq;refine aF (hb pins s1 J H1 _ I1 q1) λu s2 zq=>?_;obtain⟨y,H2,I2,r2,q2⟩:=zq;exact hf v u s2 x y H2 I2 r1 r2 q2
theorem aJ(ho:bB X (ahV op) r)(ha:PE X a ta)(hb:PE X b tb):PE X (.BinOp a op b pos) (oY r ta tb):=by intro pins s J H Q I h;exact wpAny_BinOp (A9 ha hb I h λv u s2 x y H2 I2 rx ry q=>ho pins s2 J H2 x y v u Q I2 rx ry q)
theorem jA(ho:rA X (unaryOp op) r)(ha:PE X a ta):PE X (.UnaryOp op a pos) (Ha r ta):=by intro pins s J H Q I h;exact UnaryOp_ (aF (ha pins s J H _ I h) λv s1 ⟨x,H1,I1,r1,q1⟩=>ho pins s1 J H1 x v Q I1 r1 q1)
theorem xD{f:aeX->aeX->Sem aeX}{C:Int->Int->Prop}{g:Int->Int->Int}
 (rule:∀ (i j:Int) (t u:Tok) (s:ae4) (Q:aeX->ae4->Prop) (E:aeX->ae4->Prop),C i j->Q (.int (g i j) s.toks) { s with toks:=s.toks+1 }->afe (model X.prog X.w) X.A (f (.int i t) (.int j u)) Q E s) :
 bB X f (rI C λi j=>.int (g i j)):=by
 intro pins s J H x y v u Q I rx ry h;obtain⟨i,j,rfl,rfl,hc,q⟩:=h;obtain⟨t,rfl⟩:=rx;obtain⟨t',rfl⟩:=ry;exact rule i j t t' s _ _ hc #[.int (g i j),H,I.tok _,#[_,Y],q]
theorem Hb{f:aeX->aeX->Sem aeX}{g:Int->Int->Int}
 (rule:∀ (i j:Int) (t u:Tok) (s:ae4) (Q:aeX->ae4->Prop) (E:aeX->ae4->Prop),Q (.int (g i j) s.toks) { s with toks:=s.toks+1 }->afe (model X.prog X.w) X.A (f (.int i t) (.int j u)) Q E s) :
 bB X f (iE λi j=>.int (g i j)):=by
 intro pins s J H x y v u Q I rx ry h;obtain⟨i,j,rfl,rfl,q⟩:=h;obtain⟨t,rfl⟩:=rx;obtain⟨t',rfl⟩:=ry;exact rule i j t t' s _ _ #[.int (g i j),H,I.tok _,#[_,Y],q]
theorem xE{f:aeX->aeX->Sem aeX}{g:Int->Int->Bool}
 (rule:∀ (i j:Int) (t u:Tok) (s:ae4) (Q:aeX->ae4->Prop) (E:aeX->ae4->Prop),Q (.bool (g i j)) s->afe (model X.prog X.w) X.A (f (.int i t) (.int j u)) Q E s) :
 bB X f (iE λi j=>.bl (g i j)):=by
 intro pins s J H x y v u Q I rx ry h;obtain⟨i,j,rfl,rfl,q⟩:=h;obtain⟨t,rfl⟩:=rx;obtain⟨t',rfl⟩:=ry;exact rule i j t t' s _ _ #[.bl (g i j),H,I,Y,q]
def Qu(i j:Int):Prop:=0<=j/\j<=1000000/\i.natAbs<2 ^ 64
theorem Qv:bB X (ahV .Add) (iE λi j=>.int (i+j)):=Hb λy y y y y y y q=>add_int q
theorem Qw:bB X (ahV .Sub) (iE λi j=>.int (i-j)):=Hb λy y y y y y y q=>sub_int q
theorem Qx:bB X (ahV .Mod) (rI (λy j=>0<j) λi j=>.int (i % j)):=xD λi j y y y y y hc q=>by have h1:(0:Int)<j:=hc;exact mod_int' (by omega) (by rw[Int.fmod_eq_emod_of_nonneg i (by omega)];exact q)
theorem Ba:bB X (ahV .Pow) (rI Qu λi j=>.int (i ^ j.toNat)):=xD λy y y y y y y hc q=>pow_int_small hc.1 hc.2.1 hc.2.2 q
theorem Qy{f:aeX->Sem aeX}{g:Int->Int}
 (rule:∀ (i:Int) (t:Tok) (s:ae4) (Q:aeX->ae4->Prop) (E:aeX->ae4->Prop),Q (.int (g i) s.toks) { s with toks:=s.toks+1 }->afe (model X.prog X.w) X.A (f (.int i t)) Q E s) :
 rA X f (rU λi=>.int (g i)):=by
 intro pins s J H x v Q I rx h;obtain⟨i,rfl,q⟩:=h;obtain⟨t,rfl⟩:=rx;exact rule i t s _ _ #[.int (g i),H,I.tok _,#[_,Y],q]
theorem Qz:rA X (unaryOp .USub) (rU λi=>.int (-i)):=Qy λy y y y y q=>neg_int q
end
noncomputable def l6:V->V->Bool
 | .non,.non=>true|.non,.int _=>true|.int _,.non=>true|.non,.bl _=>true|.bl _,.non=>true|.non,.str _=>true|.str _,.non=>true
 | .int _,.int _=>true|.bl _,.bl _=>true|.str _,.str _=>true|.byt _,.byt _=>true
 | .int _,.str _=>true|.str _,.int _=>true|.bl _,.str _=>true|.str _,.bl _=>true
 | _,_=>false
def Hc:R2:=λx y H Q=>l6 x y=true/\Q (.bl (decide (x=y))) H
def Hd:R2:=λx y H Q=>l6 x y=true/\Q (.bl (!decide (x=y))) H
theorem He:decide (V.int i=V.int j)=(i == j):=by rw[agp];simp
theorem Hf:decide (V.bl i=V.bl j)=(i == j):=by rw[agp];simp
theorem Hg:decide (V.str i=V.str j)=(i == j):=by rw[agp];simp
theorem Hh:decide (V.byt i=V.byt j)=(i.toList == j.toList):=by rw[agp];cases i;cases j;simp
section
theorem cT(I:Inv X pins J H s)(q:Q (.bl k) H)(e:k=k'):EP X pins J Q (.bool k') s:=by subst e;exact#[.bl k,H,I,Y,q]
theorem oZ:bB X (af6 .Eq) Hc:=by
 intro pins s J H x y v u Q I rx ry h;obtain⟨hs,q⟩:=h;cases x with
 | non =>
  cases rx;cases y with
  | non=>cases ry;exact PySem.EqNone.eq_none_none (cT I q (by simp))
  | bl j=>cases ry;exact PySem.EqNone.eq_none_bool (cT I q (by simp))
  | int j=>obtain⟨t',rfl⟩:=ry;exact PySem.EqNone.eq_none_int (cT I q (by simp))
  | str j=>obtain⟨t',rfl⟩:=ry;exact PySem.EqNone.eq_none_str (cT I q (by simp))
  | _=>exact absurd (show false=true from hs) afj
 | bl i =>
  cases rx;cases y with
  | non=>cases ry;exact PySem.EqNone.eq_bool_none (cT I q (by simp))
  | bl j=>cases ry;exact eq_bool (cT I q Hf)
  | str j=>obtain⟨t',rfl⟩:=ry;exact PySem.EqMixed.eq_bool_str (cT I q (by simp))
  | _=>exact absurd (show false=true from hs) afj
 | int i =>
  obtain⟨t,rfl⟩:=rx;cases y with
  | non=>cases ry;exact PySem.EqNone.eq_int_none (cT I q (by simp))
  | int j=>obtain⟨t',rfl⟩:=ry;exact eq_int (cT I q He)
  | str j=>obtain⟨t',rfl⟩:=ry;exact PySem.EqMixed.eq_int_str (cT I q (by simp))
  | _=>exact absurd (show false=true from hs) afj
 | str i =>
  obtain⟨t,rfl⟩:=rx;cases y with
  | non=>cases ry;exact PySem.EqNone.eq_str_none (cT I q (by simp))
  | bl j=>cases ry;exact PySem.EqMixed.eq_str_bool (cT I q (by simp))
  | int j=>obtain⟨t',rfl⟩:=ry;exact PySem.EqMixed.eq_str_int (cT I q (by simp))
  | str j=>obtain⟨t',rfl⟩:=ry;exact eq_str (cT I q Hg)
  | _=>exact absurd (show false=true from hs) afj
 | byt i =>
  obtain⟨t,rfl⟩:=rx;cases y with
  | byt j=>obtain⟨t',rfl⟩:=ry;exact PySem.W.eq_bytes (cT I q Hh)
  | _=>exact absurd (show false=true from hs) afj
 | _=>cases y<;>exact absurd (show false=true from hs) afj
theorem QA:bB X (af6 .NotEq) Hd:=by
 intro pins s J H x y v u Q I rx ry h;obtain⟨hs,q⟩:=h;cases x with
 | non =>
  cases rx;cases y with
  | non=>cases ry;exact PySem.EqNone.ne_none_none (cT I q (by simp))
  | bl j=>cases ry;exact PySem.EqNone.ne_none_bool (cT I q (by simp))
  | int j=>obtain⟨t',rfl⟩:=ry;exact PySem.EqNone.ne_none_int (cT I q (by simp))
  | str j=>obtain⟨t',rfl⟩:=ry;exact PySem.EqNone.ne_none_str (cT I q (by simp))
  | _=>exact absurd (show false=true from hs) afj
 | bl i =>
  cases rx;cases y with
  | non=>cases ry;exact PySem.EqNone.ne_bool_none (cT I q (by simp))
  | bl j=>cases ry;exact ne_bool (cT I q (congrArg not Hf))
  | str j=>obtain⟨t',rfl⟩:=ry;exact PySem.EqMixed.ne_bool_str (cT I q (by simp))
  | _=>exact absurd (show false=true from hs) afj
 | int i =>
  obtain⟨t,rfl⟩:=rx;cases y with
  | non=>cases ry;exact PySem.EqNone.ne_int_none (cT I q (by simp))
  | int j=>obtain⟨t',rfl⟩:=ry;exact ne_int (cT I q (congrArg not He))
  | str j=>obtain⟨t',rfl⟩:=ry;exact PySem.EqMixed.ne_int_str (cT I q (by simp))
  | _=>exact absurd (show false=true from hs) afj
 | str i =>
  obtain⟨t,rfl⟩:=rx;cases y with
  | non=>cases ry;exact PySem.EqNone.ne_str_none (cT I q (by simp))
  | bl j=>cases ry;exact PySem.EqMixed.ne_str_bool (cT I q (by simp))
  | int j=>obtain⟨t',rfl⟩:=ry;exact PySem.EqMixed.ne_str_int (cT I q (by simp))
  | str j=>obtain⟨t',rfl⟩:=ry;exact ne_str (cT I q (congrArg not Hg))
  | _=>exact absurd (show false=true from hs) afj
 | byt i =>
  obtain⟨t,rfl⟩:=rx;cases y with
  | byt j=>obtain⟨t',rfl⟩:=ry;exact PySem.W.ne_bytes (cT I q (congrArg not Hh))
  | _=>exact absurd (show false=true from hs) afj
 | _=>cases y<;>exact absurd (show false=true from hs) afj
theorem Bb:bB X (af6 .Lt) (iE λi j=>.bl (decide (i<j))):=xE λy y y y y y y q=>lt_int q
theorem gH:bB X (af6 .LtE) (iE λi j=>.bl (decide (i<=j))):=xE λy y y y y y y q=>le_int q
theorem xF:bB X (af6 .Gt) (iE λi j=>.bl (decide (j<i))):=xE λy y y y y y y q=>gt_int q
theorem Hi:bB X (af6 .GtE) (iE λi j=>.bl (decide (j<=i))):=xE λy y y y y y y q=>ge_int q
theorem d8(b:aiF)(h:op ≠ .In:=by decide)(h2:op ≠ .NotIn:=by decide):agY op b=false:=by
 have e1:(op == CmpOp.In)=false:=by cases op<;>first|rfl|exact absurd Y h
 have e2:(op == CmpOp.NotIn)=false:=by cases op<;>first|rfl|exact absurd Y h2
 cases b<;>simp[agY,e1,e2]
theorem gI(ho:bB X (af6 op) r)(ha:PE X a ta)(hb:PE X b tb)(hm:agY op b=false):PE X (.Compare a [op] [b] pos) (oY r ta tb):=by intro pins s J H Q I h;exact wpAny_Compare1 (A9 ha hb I h λv u s2 x y H2 I2 rx ry q=>ho pins s2 J H2 x y v u Q I2 rx ry q) hm
def xG(t:TE):TT:=λJ H Q=>t J H λx H'=>∃ k,x = .bl k/\Q k H'
theorem l8(ho:bB X (af6 op) r)(ha:PE X a ta)(hb:PE X b tb)(hm:agY op b=false):PT X (.Compare a [op] [b] pos) (xG (oY r ta tb)):=by
 intro pins s J H Q I h;refine akl (aF (ha pins s J H _ I h) λv s1 ⟨x,H1,I1,r1,q1⟩=>aF (hb pins s1 J H1 _ I1 q1) λu s2 ⟨y,H2,I2,r2,q2⟩ =>
  aF (ho pins s2 J H2 x y v u _ I2 r1 r2 q2) λc s3 ⟨z,H3,I3,r3,k,e,q3⟩=>?_) hm
 subst e;cases r3;exact afH #[H3,I3,q3]
def Bc(r r':R2)(ta tb tc:TE):TE:=λJ H Q=>ta J H λx H1=>tb J H1 λy H2=>r x y H2 λz H3=>∃ k,z = .bl k /\
 (if k=true then tc J H3 λw' H4=>r' y w' H4 Q else Q (.bl false) H3)
theorem Hj(ho:bB X (af6 op) r)(di:bB X (af6 jB) r')(ha:PE X a ta)(hb:PE X b tb)(hc:PE X c tc)(hm:ama [op,jB] [b,c]=false:=by with_unfolding_all rfl):PE X (.Compare a [op,jB] [b,c] pos) (Bc r r' ta tb tc):=by
 intro pins s J H Q I h;refine Compare_chain (aF (ha pins s J H _ I h) λv s1 ⟨x,H1,I1,r1,q1⟩=>chain_link (aF (hb pins s1 J H1 _ I1 q1) λu s2 ⟨y,H2,I2,r2,q2⟩ =>
  aF (ho pins s2 J H2 x y v u _ I2 r1 r2 q2) λd s3 ⟨z,H3,I3,r3,k,e,q3⟩=>?_)) hm
 subst e;cases r3;refine afH ?_;cases k with
 | false=>exact ite_ff #[.bl false,H3,I3,Y,q3]
 | true=>exact ite_tt (chain_last (aF (hc pins s3 J H3 _ I3 q3) λw' s4 ⟨z',H4,I4,r4,q4⟩=>di pins s4 J H4 y z' u w' Q I4 r2 r4 q4))
theorem QC(ho:bB X (af6 op) r)(di:bB X (af6 jB) r')(ha:PE X a ta)(hb:PE X b tb)(hc:PE X c tc)(hm:ama [op,jB] [b,c]=false:=by with_unfolding_all rfl):PT X (.Compare a [op,jB] [b,c] pos) (xG (Bc r r' ta tb tc)):=by
 intro pins s J H Q I h;refine isTrue_chain (aF (ha pins s J H _ I h) λv s1 ⟨x,H1,I1,r1,q1⟩=>anh (aF (hb pins s1 J H1 _ I1 q1) λu s2 ⟨y,H2,I2,r2,q2⟩ =>
  aF (ho pins s2 J H2 x y v u _ I2 r1 r2 q2) λd s3 ⟨z,H3,I3,r3,k,e,q3⟩=>?_)) hm
 subst e;cases r3;refine afH ?_;cases k with
 | false =>
  obtain⟨k',e',q'⟩:=q3;cases e';exact ite_ff #[H3,I3,q']
 | true =>
  refine ite_tt (test_last (aF (hc pins s3 J H3 _ I3 q3) λw' s4 ⟨z',H4,I4,r4,q4⟩=>aF (di pins s4 J H4 y z' u w' _ I4 r2 r4 q4) λd' s5 zq=>?_));obtain⟨z2,H5,I5,r5,k2,e2,q5⟩:=zq;subst e2;cases r5;exact afH #[H5,I5,q5]
theorem uu:(afl:Nat)<2 ^ 63:=by rw[aim];decide
theorem vals1(r:Vals [x] us):∃ u,us=[u]/\RelV x u:=by
 cases r with
 | cons r1 r2=>cases r2;exact#[_,Y,r1]
theorem vals2(r:Vals [x,y] us):∃ u w',us=[u,w']/\RelV x u/\RelV y w':=by
 cases r with
 | cons r1 r2 =>
  cases r2 with
  | cons r3 r4=>cases r4;exact#[_,_,Y,r1,r3]
theorem QD(hc:X.calm=true):fY X (.builtin "max") (λxs H Q=>∃ i j,xs=[.int i,.int j]/\Q (.int (if j > i then j else i)) H):=by
 intro pins s J H xs us Q I r h;obtain⟨i,j,rfl,q⟩:=h;obtain⟨u,w',rfl,⟨t,rfl⟩,⟨t',rfl⟩⟩:=vals2 r;refine max_two_ints (I.ok.hd hc) λh' tk k=>#[_,H,I.kept k,?_,q]
 by_cases hj:j > i
 .rw[if_pos hj,if_pos hj];exact#[_,Y]
 .rw[if_neg hj,if_neg hj];exact#[_,Y]
theorem QE:fY X (.type "int") (λxs H Q=>(∃ i,xs=[.int i]/\Q (.int i) H) ∨ ∃ k,xs=[.bl k]/\Q (.int (if k then 1 else 0)) H):=by
 intro pins s J H xs us Q I r h;rcases h with ⟨i,rfl,q⟩|⟨k,rfl,q⟩
 .obtain⟨u,rfl,t,rfl⟩:=vals1 r;exact call_int_int #[.int i,H,I,#[_,Y],q]
 .obtain⟨u,rfl,r1⟩:=vals1 r;cases r1;exact call_int_bool #[.int (if k then 1 else 0),H,I.tok _,#[_,Y],q]
def xH(K:aeN)(x:V)(H:Hp)(n:Nat):Prop :=
 match x with
 | .str y=>y.length<=afl/\n=y.length
 | .byt y=>y.size<=afl/\n=y.size
 | .ref p=>(∃ xs,ai K H p xs/\n=xs.length) ∨ ∃ xs,aj K H p xs/\n=xs.length
 | _=>False
theorem QF:fY X (.builtin "len") (λxs H Q=>∃ x n,xs=[x]/\xH X.K x H n/\Q (.int n) H):=by
 intro pins s J H xs us Q I r h;obtain⟨x,n,rfl,e,q⟩:=h;obtain⟨u,rfl,rx⟩:=vals1 r;have hl:=uu;have hs:afl=16777216:=aim;cases x with
 | str y =>
  obtain⟨t,rfl⟩:=rx;obtain⟨hy,e'⟩:y.length<=afl/\n=y.length:=e;subst e';exact len_str (by omega) #[.int _,H,I.tok _,#[_,Y],q]
 | byt y =>
  obtain⟨t,rfl⟩:=rx;obtain⟨hy,e'⟩:y.size<=afl/\n=y.size:=e;subst e';exact PySem.W.len_bytes (by omega) #[.int _,H,I.tok _,#[_,Y],q]
 | ref p =>
  cases rx;have e':(∃ xs,ai X.K H p xs/\n=xs.length) ∨ ∃ xs,aj X.K H p xs/\n=xs.length:=e;rcases e' with ⟨xs,hx,e'⟩|⟨xs,hx,e'⟩
  .subst e';obtain⟨aw,r',pl,hz⟩:=I.list hx;have hlen:=r'.length;exact Calls.call_len_list pl.isList (by simp only[ae3];omega) #[.int xs.length,H,I.tok _,#[_,by simp only[ae3];rw[hlen]],q]
  .subst e';obtain⟨aw,r',pl,hz⟩:=I.tuple hx;have hlen:=r'.length;exact len_tuple pl (by simp only[ae3];omega) #[.int xs.length,H,I.tok _,#[_,by simp only[ae3];rw[hlen]],q]
 | _=>exact (show False from e).elim
end
structure o4(h:ag3)(x dx C:ae0)(mA:Str->Option aeX):Prop where
 obj:h.get? x=U (agQ C dx)
 ns:h.Ns1 dx mA
 ne:dx≠x
theorem QG{h:ag3}{dx:ae0}{mA:Str->Option aeX}(n:h.Ns1 dx mA):∃ od,h.get? dx=U od/\∀ name,ajn name od=U (mA name):=by
 obtain⟨o,es,ep,ho,hd,hk,_,hm⟩:=n;refine#[o,ho,λname=>?_];have e:=hm name;unfold nsFind findBy at e;rw[<- Array.find?_toList] at e;unfold ajn;rw[hd];dsimp only;split
 .rename_i y q;rw[q] at e;exact congrArg U e
 .rename_i q;rw[q] at e;have a:es.toList.any (·.refKey)=false:=by rw[alw];intro y hy;obtain⟨z,t,hkey⟩:=hk y (aiL.mp hy);simp[DictEntry.refKey,hkey]
  have a':¬ es.toList.any (·.refKey)=true:=by rw[a];exact afj
  rw[if_neg a'];exact congrArg U e
theorem o4.look(I:o4 h x dx C mA):∃ od,PySem.W.InstAt h x (agQ C dx) C (U od)/\∀ name,ajn name od=U (mA name) :=
 let ⟨od,ho,hl⟩:=QG I.ns
 #[od,#[I.obj,Y,Y,ho],hl]
section
variable{prog:afG}{w:agn}{A:agD}{E:aeX->ae4->Prop}{s:ae4}{K:aeN}{x dx C f:ae0}{mA:Str->Option aeX}{name:Str}{v:aeX}
theorem get_map{expr:Bool}{Q:aeX->ae4->Prop}(X:K.In s.heap)(I:o4 s.heap x dx C mA)(hg:aiH K C name=true)(hh:ajy K C=true)
 (ha:afg K (.ref C) name=U O) (hv:mA name=U v) (QH:alZ v=true) (h:Q v { s with toks:=s.toks+1 }) :
 afe (model prog w) A (getAttr (.ref x) name expr) Q E s:=by
 obtain⟨od,J9q,hl⟩:=I.look;exact PySem.W.get_value X J9q (aiU hg).1 (PySem.W.findObj_own hh ha Y (by rw[hl,hv])) QH h
theorem QJ{pl:Sem Bool}{Q:aeX × List aeX->ae4->Prop}(X:K.In s.heap)(I:o4 s.heap x dx C mA)(hg:aiH K C name=true)
 (hf:afg K (.ref C) name=U (U (.ref f))) (ht:akn K (.ref f)=true) (hv:mA name=O) (h:Q (.ref f,[.ref x]) s) :
 afe (model prog w) A (aiV (.ref x) name pl) Q E s:=by
 obtain⟨od,J9q,hl⟩:=I.look;exact PySem.W.method_fn X J9q (aiU hg).1 (aiU hg).2 hf (beq_iff_eq.mp ht) (by show (ajn name od).map (·.isSome)=U false;rw[hl,hv];rfl) h
theorem QK{ns:List Str}{Q:Unit->ae4->Prop}(X:K.In s.heap)(I:o4 s.heap x dx C mA)
 (hs:afg K (.ref C) "__setattr__" = U (U (.builtin "object.__setattr__"))) (hp:alx K C=true) (ht:ako K C name=U O) (hh:ajy K C=true)
 (hw:alO mA ns) (hsz:ns.length<=afl)
 (h:∀ h',o4 h' x dx C (λy=>if y=name then U v else mA y)->Heap.SameBut dx s.heap h'->Q () { s with heap:=h',toks:=s.toks+2 }) :
 afe (model prog w) A (setAttr (.ref x) name v) Q E s:=by
 obtain⟨od,J9q,hl⟩:=I.look;refine PySem.W.set_plain X J9q hs (PySem.W.osa_open (s:={ s with toks:=s.toks+1 }) (r:=O) X J9q hp ht λb=>?_);obtain⟨cd,hc,jX⟩:=PySem.W.any_some hh;have hx:s.heap.get? x=U #[.ref C,U dx,.plain,(List.toArray [])]:=I.obj;refine aeM (aeR (aeM (aeM (wpAny_loadPart hx (aeM (PySem.W.Looks.here (s:={ s with toks:=s.toks+1 }) (PySem.W.looks_clsIn X hc) ?_))))));rw[jX];refine aeR (a:=U dx) (aeM (aeR (aeM ?_)));refine wpAny_nsSet1 (s:={ s with toks:=s.toks+1 }) I.ns λh' Hk dO=>?_;obtain⟨oD,esD,epD,QL,QM,QN⟩:=Hk.count (PySem.Within.cons name v hw);refine aeM (wpAny_lookBehind QL (by rw[QM];exact pastItsLine_dict (aeT QN (by rw[afD];omega))) ?_);exact aeR (h _ #[(dO.2 _ (afR I.ne)).trans I.obj,Hk,I.ne] dO)
theorem QO{R:alQ->ae4->Prop}{vs:List aeX}{kw:List (Str × aeX)}(X:K.In s.heap)(hm:agx K C=true)
 (hi:afg K (.ref C) "__init__" = U (U (.ref f))) (hf:ajo K (.ref f)=U (.type "function"))
 (h:ahY (model prog w) (A.under (.builtin "type.__call__" #[.ref C::vs,kw])) (.call (.ref f) #[.ref (s.heap.objs.size+1)::vs,kw]) (PySem.W.InitBack (s.heap.objs.size+1) R)
   { s with heap:=(s.heap.push ags).push (agQ C s.heap.objs.size) }) :
 ahY (model prog w) A (.call (.ref C) #[vs,kw]) R s:=by
 obtain⟨hh,g,d,t,os⟩:=s;exact PySem.W.make_core (PySem.W.makes_of X hm) (PySem.W.looks_findIn X hi) (λself=>PySem.W.bind_fn X self hf) (.inl rfl) h
end
noncomputable def fZ(f:Str)(v:V):List (Str × V)->List (Str × V)
 | []=>[(f,v)]
 | (g,x)::r=>if g=f then (g,v)::r else (g,x)::fZ f v r
theorem Hl(f g:Str)(v:V):∀ fs:List (Str × V),(fZ f v fs).lookup g=if g=f then U v else fs.lookup g
 | []=>by
  show ahZ g [(f,v)]=_;by_cases h:g=f
  .have hb:(g == f)=true:=beq_iff_eq.mpr h;simp only[ahZ,hb,if_pos h]
  .have hb:(g == f)=false:=beq_eq_false_iff_ne.mpr h;simp only[ahZ,hb,if_neg h]
 | (k,x)::r=>by
  have ih:=Hl f g v r;rw[show fZ f v ((k,x)::r)=(if k=f then (k,v)::r else (k,x)::fZ f v r) from Y];by_cases hk:k=f
  .rw[if_pos hk];by_cases h:g=k
   .have hb:(g == k)=true:=beq_iff_eq.mpr h;simp only[ahZ,hb,if_pos (h.trans hk)]
   .have hb:(g == k)=false:=beq_eq_false_iff_ne.mpr h;simp only[ahZ,hb,if_neg (λe:g=f=>h (e.trans hk.symm))]
  .rw[if_neg hk];by_cases h:g=k
   .have hb:(g == k)=true:=beq_iff_eq.mpr h;simp only[ahZ,hb,if_neg (λe:g=f=>hk (h.symm.trans e))]
   .have hb:(g == k)=false:=beq_eq_false_iff_ne.mpr h;simp only[ahZ,hb];exact ih
theorem Be(f:Str)(v:V):∀ fs:List (Str × V),f∈(fZ f v fs).map (·.1)/\∀ g,g∈fs.map (·.1)->g∈(fZ f v fs).map (·.1)
 | []=>#[by simp[fZ],λg h=>by simp at h]
 | (k,x)::r=>by
  obtain⟨i1,i2⟩:=Be f v r;rw[show fZ f v ((k,x)::r)=(if k=f then (k,v)::r else (k,x)::fZ f v r) from Y];by_cases hk:k=f
  .rw[if_pos hk];subst hk;exact#[by simp,λg h=>by simpa using h]
  .rw[if_neg hk];refine#[?_,λg h=>?_]
   .rw[ae7];exact afJ _ i1
   .rw[ae7] at h ⊢;rcases ae2.mp h with e|e
    .exact ae2.mpr (.inl e)
    .exact afJ _ (i2 g e)
theorem Hm(f:Str)(v:V):∀ fs:List (Str × V),(fZ f v fs).length<=fs.length+1
 | []=>by simp[fZ]
 | (k,x)::r=>by
  have ih:=Hm f v r;rw[show fZ f v ((k,x)::r)=(if k=f then (k,v)::r else (k,x)::fZ f v r) from Y];by_cases hk:k=f
  .rw[if_pos hk,afD,afD];omega
  .rw[if_neg hk,afD,afD];omega
theorem gD.some_of(r:gD (U v) o):∃ u,o=U u/\RelV v u:=by
 cases o with
 | none=>exact (show False from r).elim
 | some u=>exact#[u,Y,r]
theorem gD.none_of(r:gD O o):o=O:=by
 cases o with
 | none=>rfl
 | some u=>exact (show False from r).elim
theorem QP(r:RelV v u):alZ u=true:=by
 cases v with
 | non=>cases (show u=Value.none from r);rfl
 | bl b=>cases (show u=agz b from r);rfl
 | int i=>obtain⟨t,e⟩:=(show ∃ t,u=Value.int i t from r);cases e;rfl
 | str x=>obtain⟨t,e⟩:=(show ∃ t,u=Value.str x t from r);cases e;rfl
 | byt b=>obtain⟨t,e⟩:=(show ∃ t,u=anu b t from r);cases e;rfl
 | flt b=>obtain⟨t,e⟩:=(show ∃ t,u=al9 b t from r);cases e;rfl
 | ref a=>cases (show u=aft a from r);rfl
 | ty n=>cases (show u=aju n from r);rfl
section
theorem xI(aB:cF P w H h)(e:H a=U (.ins C dx fs)):∃ mA,o4 h a dx C mA/\(∀ f,gD (fs.lookup f) (mA f))/\alO mA (fs.map (·.1))/\fs.length<=1000/\H dx=U (.own a):=by
 obtain⟨d,z,ne,ob,mA,n,r,q⟩:=(show b9 P w H h a (.ins C dx fs) from aB a _ e)
 exact#[mA,#[ob,n,ne],r,q,z,d]
end
structure bR(K:aeN)(C:ae0):Prop where
 pg:aiH K C Str.empty=true
 hd:ajy K C=true
 po:alx K C=true
 sa:afg K (.ref C) "__setattr__" = U (U (.builtin "object.__setattr__"))
theorem bR.get{K:aeN}{C:ae0}(c:bR K C)(f:Str):aiH K C f=true:=c.pg
def cc(K:aeN)(C:ae0)(f:Str):Prop:=afg K (.ref C) f=U O
theorem cc.QQ{K:aeN}{C:ae0}{f:Str}(n:cc K C f):ako K C f=U O:=by unfold ako;rw[show afg K (.ref C) f=U O from n];rfl
structure Meth(K:aeN)(C:ae0)(m:Str)(f:ae0):Prop where
 at_:afg K (.ref C) m=U (U (.ref f))
 fn:akn K (.ref f)=true
 kp:af2 K (.ref f)=true
section
theorem QS(I:Inv X pins J H s)(e:H a=U (.ins C dx fs))(c:bR X.K C)(n:cc X.K C f)(l:fs.lookup f=U v)(h:∀ u s',Inv X pins J H s'->RelV v u->Q u s'):afe (model X.prog X.w) A (getAttr (.ref a) f b) Q E s:=by obtain⟨mA,O9q,r,y,y,y⟩:=xI I.aB e;obtain⟨u,hu,ru⟩:=gD.some_of (v:=v) (o:=mA f) (by rw[<- l];exact r f);exact get_map I.cG O9q (c.get f) c.hd n hu (QP ru) (h u _ (I.tok _) ru)
theorem uv(I:Inv X pins J H s)(e:H a=U (.ins C dx fs))(c:bR X.K C)(k:Meth X.K C m g)(l:fs.lookup m=O)(h:Q (.ref g,[.ref a]) s):afe (model X.prog X.w) A (aiV (.ref a) m pl) Q E s:=by obtain⟨mA,O9q,r,y,y,y⟩:=xI I.aB e;have hn:mA m=O:=gD.none_of (by rw[<- l];exact r m);exact QJ I.cG O9q (c.get m) k.at_ k.fn hn h
theorem QT(I:Inv X pins J H s)(e:H a=U (.ins C dx fs))(c:bR X.K C)(n:cc X.K C f)(hl:fs.length<1000)(ry:RelV y u)(h:∀ s',Inv X pins J (upd H a (.ins C dx (fZ f y fs))) s'->Q () s'):afe (model X.prog X.w) A (setAttr (.ref a) f u) Q E s:=by
 obtain⟨mA,O9q,r,wi,v,ho⟩:=xI I.aB e;have hz:(fs.map (·.1)).length<=afl:=by rw[aeO,aim];omega
 refine QK I.cG O9q c.sa c.po n.QQ c.hd wi hz λh' O' sb=>h _ ?_;have hd:∃ o,h'.get? dx=U o:=let ⟨o,_,_,e',_⟩:=O'.ns;#[o,e'];refine I.write (x:=a) (e:=dx) (by rw[e];exact ag9) (.inr ho) (λb q hb z=>(sb.2 b hb).trans z) hd ?_;refine#[by rw[aI O9q.ne];exact ho,?_,O9q.ne,O'.obj,_,O'.ns,λg=>?_,λg hg=>?_]
 .have:=Hm f y fs;omega
 .show gD ((fZ f y fs).lookup g) (if g=f then U u else mA g);rw[Hl];by_cases q:g=f
  .rw[if_pos q,if_pos q];exact ry
  .rw[if_neg q,if_neg q];exact r g
 .by_cases q:g=f
  .rw[q];exact (Be f y fs).1
  .refine (Be f y fs).2 g (wi g λz=>hg ?_);show (if g=f then U u else mA g)=O;rw[if_neg q];exact z
theorem Inv.made(I:Inv X pins J H s):Inv X pins J (upd (upd H s.heap.objs.size (.own (s.heap.objs.size+1))) (s.heap.objs.size+1) (.ins C s.heap.objs.size []))
 { s with heap:=(s.heap.push ags).push (agQ C s.heap.objs.size) }:=by
 have e1:(s.heap.push ags).get? s.heap.objs.size=U ags:=aeZ s.heap rfl;have e2:((s.heap.push ags).push (agQ C s.heap.objs.size)).get? (s.heap.objs.size+1)=U (agQ C s.heap.objs.size):=by
  have:=aeZ (s.heap.push ags) (o:=agQ C s.heap.objs.size) rfl
  rwa [ag4] at this
 have e3:(s.heap.push ags).Ns s.heap.objs.size (λy=>O):=#[ags,(List.toArray []),_,e1,Y,(λe he=>absurd he (by simp)),λy=>rfl]
 have I1:=I.laid (a:=s.heap.objs.size) (o:=.own (s.heap.objs.size+1)) (h':=s.heap.push ags) (t':=s.toks) (λb u q=>aeS _ q) (aeV _) #[_,e1];refine I1.laid (a:=s.heap.objs.size+1) (o:=.ins C s.heap.objs.size []) (t':=s.toks) (λb u q=>aeS _ q) (ani (ag4 _ _)) ?_;have ne:s.heap.objs.size≠s.heap.objs.size+1:=afa (af7 _);refine#[by rw[aI ne,ar],afi _,ne,e2,λy=>O,(Heap.Ns1.of_empty e3).at λo q=>aeS _ q,λy=>ag9,λy hy=>absurd Y hy]
theorem QU(hb:ah7 e f env (eval e env)=eval e env)(h:afe (model prog w) A (eval e env) (λo s₁=>afe (model prog w) A (getAttr o f true) Q E s₁) E s):afe (model prog w) A (eval (.Attribute e f pos) env) Q E s :=
 Attribute_any_ h (by rw[arm_eval_Attribute,hb])
end
def Hn(K:aeN)(ta:TE)(f:Str):TE:=λJ H Q=>ta J H λx H1=>∃ a C dx fs v,x = .ref a/\H1 a=U (.ins C dx fs)/\bR K C/\cc K C f/\fs.lookup f=U v/\Q v H1
def Ho(K:aeN)(ta tv:TE)(f:Str):TS:=λD J H=>tv J H λy H1=>ta J H1 λx H2=>∃ a C dx fs,x = .ref a/\H2 a=U (.ins C dx fs)/\bR K C/\cc K C f/\fs.length<1000 /\
 D.nx J (upd H2 a (.ins C dx (fZ f y fs)))
section
theorem QV(he:PE X e ta)(hb:ah7 e f X.env (eval e X.env)=eval e X.env):PE X (.Attribute e f pos) (Hn X.K ta f):=by
 intro pins s J H Q I h;refine QU hb (aF (he pins s J H _ I h) λu s1 zq=>?_);obtain⟨x,H1,I1,rx,a,C,dx,fs,v,ex,ea,c,n,l,q⟩:=zq;subst ex;obtain rfl:u=aft a:=rx;exact QS I1 ea c n l λu' s2 I2 ru=>#[v,H1,I2,ru,q]
theorem QW(ha:PE X o ta)(hv:PE X value tv)(hs:aiS value (U (.Attribute o f pos')) pos.line X.env=pure false):PS X (.Assign [.Attribute o f pos'] value pos) (Ho X.K ta tv f):=by
 intro pins s J H D I h;refine plainObj_wpAny_Assign_Attribute (aF (hv pins s J H _ I h) λu s1 ⟨y,H1,I1,ry,q⟩=>aF (ha pins s1 J H1 _ I1 q) λov s2 zq=>?_) hs;obtain⟨x,H2,I2,rx,a,C,dx,fs,ex,ea,c,n,l,q2⟩:=zq;subst ex;obtain rfl:ov=aft a:=rx;exact QT I2 ea c n l ry λs3 I3=>#[J,_,I3,q2]
inductive dv(K:aeN)(H:Hp):V->aeX->Prop where
 | non:dv K H .non (.type "NoneType")
 | bl (x:Bool):dv K H (.bl x) (.type "bool")
 | int (i:Int):dv K H (.int i) (.type "int")
 | str (x:Str):dv K H (.str x) (.type "str")
 | flt (x:UInt64):dv K H (.flt x) (.type "float")
 | lst {a:ae0} {xs:List V} (e:H a=U (.lst xs)):dv K H (.ref a) (.type "list")
 | aN {a:ae0} {o:Obj} {xs:List V} (e:H a=U (.aN o (.lst xs))):dv K H (.ref a) (.type "list")
 | tup {a:ae0} {xs:List V} (e:H a=U (.tup xs)):dv K H (.ref a) (.type "tuple")
 | dK {a:ae0} {kvs:List (Key × V)} (e:H a=U (.dK kvs)):dv K H (.ref a) (.type "dict")
 | dT {a:ae0} {kvs:List (List Key × V)} (e:H a=U (.dT kvs)):dv K H (.ref a) (.type "dict")
 | ins {a C dx:ae0} {fs:List (Str × V)} (e:H a=U (.ins C dx fs)) (cl:bR K C) (ha:afg K (.ref C) "__class__" = U (U (.builtin "object.__class__")))
  (hn:ahG K (.builtin "object.__class__") "__get__" = U (U (.builtin "getset_descriptor.__get__"))) (Hq:akp K (.builtin "object.__class__")=U true)
  (hm:ahH K C (.type "object")=U true):dv K H (.ref a) (.ref C)
theorem QX(I:Inv X pins J H s)(rx:RelV x u)(ty:dv X.K H x t)(e:afM X.K t c=U b)(h:∀ tk,Q (.bool b) { s with toks:=tk }) :
 afe (model X.prog X.w) A (call (.builtin "isinstance") [u,c]) Q E s:=by
 cases ty with
 | non=>cases (show u=Value.none from rx);exact agq PySem.W.kitx_none I.cG ag9 e (λz=>nomatch z) h
 | bl y=>cases (show u=agz y from rx);exact agq PySem.W.kitx_bool I.cG ag9 e (λz=>nomatch z) h
 | int i=>obtain⟨t,q⟩:=(show ∃ t,u=Value.int i t from rx);cases q;exact agq PySem.W.kitx_int I.cG ag9 e (λz=>nomatch z) h
 | str y=>obtain⟨t,q⟩:=(show ∃ t,u=Value.str y t from rx);cases q;exact agq PySem.W.kitx_str I.cG ag9 e (λz=>nomatch z) h
 | flt y=>obtain⟨t,q⟩:=(show ∃ t,u=al9 y t from rx);cases q;exact agq PySem.W.kitx_float I.cG ag9 e (λz=>nomatch z) h
 | @lst a xs ea =>
  cases (show u=aft a from rx);obtain⟨v,v,n,v,h1⟩:=(show b9 X.prog X.w H s.heap a (.lst xs) from I.aB a _ ea)
  exact agq aly I.cG #[_,h1,Y] e (λz=>nomatch z) h
 | @aN a ob xs ea =>
  cases (show u=aft a from rx);obtain⟨v,v,v,n,v,h1⟩:=(show b9 X.prog X.w H s.heap a (.aN ob (.lst xs)) from I.aB a _ ea)
  exact agq aly I.cG #[_,h1,Y] e (λz=>nomatch z) h
 | @tup a xs ea =>
  cases (show u=aft a from rx);obtain⟨v,v,v,p⟩:=(show b9 X.prog X.w H s.heap a (.tup xs) from I.aB a _ ea)
  obtain⟨o,h1,h2,v⟩:=p;exact agq PySem.W.kitx_tuple I.cG #[o,h1,h2] e (λz=>nomatch z) h
 | @dK a kvs ea =>
  cases (show u=aft a from rx);obtain⟨v,v,vs,v,p⟩:=(show b9 X.prog X.w H s.heap a (.dK kvs) from I.aB a _ ea)
  obtain⟨o,es,ep,h1,h2,v⟩:=p;exact agq alz I.cG #[o,h1,h2.1] e (λz=>nomatch z) h
 | @dT a kvs ea =>
  cases (show u=aft a from rx);obtain⟨v,v,xs,v,o,es,ep,h1,h2,v⟩:=(show b9 X.prog X.w H s.heap a (.dT kvs) from I.aB a _ ea)
  exact agq alz I.cG #[o,h1,h2.1] e (λz=>nomatch z) h
 | @ins a C dx fs ea cl ha hn Hq hm =>
  cases (show u=aft a from rx);obtain⟨mA,O9q,v⟩:=xI I.aB ea;obtain⟨od,J9q,v⟩:=O9q.look;exact agq (PySem.W.kitx_own (cl.get _) cl.hd ha hn Hq hm) I.cG J9q e (λz=>nomatch z) h
end
structure bc(k:Nat)(A:agD):Prop where
 hd:A.handled=O
 dp:A.depth+3 * k+5<recursionLimit
 un:A.units+16 * k+200<aka
theorem bc.mono(r:bc k A)(h:j<=k):bc j A:=#[r.hd,by have:=r.dp;omega,by have:=r.un;omega]
theorem bc.deeper(r:bc (k+1) A)(env:Env):bc k (A.deeper env) :=
 #[r.hd,by have:=r.dp;show A.depth+1+3 * k+5<_;omega,by have:=r.un;show A.units+3+16 * k+200<_;omega]
theorem QY{A:agD}{C:ae0}{us:List aeX}{kw:List (Str × aeX)}:(A.under (.builtin "type.__call__" #[.ref C::us,kw])).depth=A.depth+1:=by
 first|rfl|simp[alR,Code.weight,Code.isCreation,Code.isGuard,Code.isCaller,Code.frames,Code.isFrame,guardIds]
theorem QZ{A:agD}{C:ae0}{us:List aeX}{kw:List (Str × aeX)}:(A.under (.builtin "type.__call__" #[.ref C::us,kw])).units=A.units+1:=by
 first|rfl|simp[alR,Code.cUnits,Code.frames,Code.isFrame]
theorem bc.make(r:bc (k+1) A)(C:ae0)(us:List aeX)(kw:List (Str × aeX)):bc k (A.under (.builtin "type.__call__" #[.ref C::us,kw])) :=
 #[r.hd,by have:=r.dp;rw[QY];omega,by have:=r.un;rw[QZ];omega]
theorem bc.depth(r:bc k A):A.depth<recursionLimit:=by have:=r.dp;omega
theorem bc.units(r:bc k A):A.units+64<aka:=by have:=r.un;omega
def rB:TA:=λy H Q=>Q [] H
def xJ(ta:TE)(tr:TA):TA:=λJ H Q=>ta J H λx H1=>tr J H1 λxs H2=>Q (x::xs) H2
section
theorem ag:PA X [] rB:=λy y y y H Q I h=>aha #[[],H,I,.nil,h]
theorem ae(ha:PE X e te)(hr:PA X es t)(hs:afb (e::es) X.env=(false,eval e X.env)::afb es X.env:=by rfl):PA X (e::es) (xJ te t):=by
 intro pos pins s J H Q I h;rw[hs];show afe _ _ (spliced ((false,eval e X.env)::agA pos (afb es X.env))) _ _ s;refine agZ (aF (ha pins s J H _ I h) λu s1 zq=>?_);obtain⟨x,H1,I1,r1,q1⟩:=zq;exact aF (hr pos pins s1 J H1 _ I1 q1) λus s2 ⟨xs,H2,I2,r2,q2⟩=>#[x::xs,H2,I2,.cons r1 r2,q2]
def Hr(t:TA):TE:=λJ H Q=>t J H λxs H1=>xs.length<=afl/\∀ p,H1 p=O->Q (.ref p) (upd H1 p (.tup xs))
def Hs(t:TA):TE:=λJ H Q=>t J H λxs H1=>xs.length<=afl/\∀ p,H1 p=O->Q (.ref p) (upd H1 p (.lst xs))
theorem aT(h:PA X es t):PE X (.Tuple es x1 pos) (Hr t):=by intro pins s J H Q I hq;refine wpAny_Tuple_spliced (aF (h pos pins s J H _ I hq) λus s1 ⟨xs,H1,I1,r,z,q⟩=>#[by rw[<- r.length];exact z,?_]);have hf:H1 s1.heap.objs.size=O:=I1.aB.fresh (aeV _);refine#[.ref s1.heap.objs.size,upd H1 s1.heap.objs.size (.tup xs),I1.laid (t':=s1.toks) (λb u e=>aeS _ e) (aeV _) ?_,Y,q _ hf];exact#[z,us,r,#[_,aeZ _ Y,Y,_,Y]]
theorem dj(h:PA X es t):PE X (.List es pos) (Hs t):=by intro pins s J H Q I hq;refine wpAny_List_spliced (aF (h pos pins s J H _ I hq) λus s1 ⟨xs,H1,I1,r,z,q⟩=>#[by rw[<- r.length];exact z,?_]);have hf:H1 s1.heap.objs.size=O:=I1.aB.fresh (aeV _);refine#[.ref s1.heap.objs.size,upd H1 s1.heap.objs.size (.lst xs),I1.laid (t':=s1.toks) (λb u e=>aeS _ e) (aeV _) ?_,Y,q _ hf];exact#[z,us,0,r,aeZ _ Y]
end
abbrev Sp:=List V->Hp->VK->XK->Prop
abbrev iF:=List Env->Hp->ae4->XK->aeX->ae4->Prop
structure o5(P:afG)(w:agn)(K:aeN)(mg:Str->Option aeX)(base:ag3)(A:agD)(outer:List Env)(s:ae4)(H:Hp):Prop where
 frames:A.frames=U outer
 mod:Mod K mg base
 bs:∀ b o,base.get? b=U o->s.heap.get? b=U o/\H b=O
 bsz:base.objs.size<=s.heap.objs.size
 hV:s.heap.FunFrames base outer
 frf:∀ b∈bq outer,H b=O
 aB:cF P w H s.heap
 bare:akk s.gens
def CE(outer:List Env)(P:afG)(w:agn)(H:Hp)(s:ae4)(Q:VK)(u:aeX)(s':ae4):Prop :=
 ∃ v H',s'.os=s.os/\akk s'.gens/\Un (bq outer) [] H H' s.heap s'.heap/\cF P w H' s'.heap/\RelV v u/\Q v H'
def CR(CX:iF)(outer:List Env)(P:afG)(w:agn)(H:Hp)(s:ae4)(Q:VK)(E:XK)(r:alQ)(s':ae4):Prop :=
 match r with
 | .ok (.ret u)=>CE outer P w H s Q u s'
 | .ok _=>False
 | .error e=>CX outer H s E e s'
structure d9(P:afG)(w:agn)(K:aeN)(mg:Str->Option aeX)(base:ag3)(CX:iF)(k:Nat)(f:ae0)(fd:ahI)(ps:List Str)(sp:Sp):Prop where
 len:∀ vs H Q E,sp vs H Q E->vs.length=ps.length
 run:∀ (A:agD) (outer:List Env) (s:ae4) (H:Hp) (args:Args) (us:List aeX) (vs:List V) (Q:VK) (E:XK),bc k A->o5 P w K mg base A outer s H->alA s fd args (ps.zip us)->Vals vs us->sp vs H Q E ->
  ahY (model P w) A (.call (.ref f) args) (CR CX outer P w H s Q E) s
theorem o5.make{P:afG}{w:agn}{K:aeN}{mg:Str->Option aeX}{base:ag3}{A:agD}{outer:List Env}{s:ae4}{H:Hp}(e:o5 P w K mg base A outer s H)(C:ae0)(us:List aeX)(kw:List (Str × aeX)) :
 o5 P w K mg base (A.under (.builtin "type.__call__" #[.ref C::us,kw])) outer s H:=#[by first|exact e.frames|(simpa [alR,Code.envs,Code.isFrame,pushEnvs] using e.frames),e.mod,e.bs,e.bsz,e.hV,e.frf,e.aB,e.bare]
section
theorem Inv.Ht(I:Inv X pins J H s):o5 X.prog X.w X.K X.mg X.base X.A X.stack s H :=
 #[I.ok.frames,I.ok.mod,I.bs,aeT I.ok.bsz I.sz,I.stack,I.t8,I.aB,I.bare]
theorem Inv.after(I:Inv X pins J H s)(h:CE X.stack X.prog X.w H s Q u s'):EP X pins J Q u s':=by obtain⟨v,H',os,bare,un,aB,r,q⟩:=h;obtain⟨hh,g,d,t,rC⟩:=s';obtain rfl:rC=s.os:=os;exact#[v,H',I.call (h':=hh) (g':=g) (d':=d) (t':=t) (ch:=[]) un aB bare (λb z=>absurd z (by simp)),r,q]
end
def rD(sp:Sp)(de:List V)(E:XK)(t:TA):TE:=λJ H Q=>t J H λvs H1=>sp (vs++de) H1 Q E
def Bf(C:ae0)(m:Str)(sp:Sp)(de:List V)(E:XK)(ta:TE)(t:TA):TE:=λJ H Q=>ta J H λx H1=>∃ a dx fs,x = .ref a/\H1 a=U (.ins C dx fs)/\fs.lookup m=O /\
 t J H1 λvs H2=>sp (x::(vs++de)) H2 Q E
def Hu(C:ae0)(sp:Sp)(de:List V)(E:XK)(t:TA):TE:=λJ H Q=>t J H λvs H1=>∀ x dx,H1 x=O->H1 dx=O->dx≠x ->
 sp (.ref x::(vs++de)) (upd (upd H1 dx (.own x)) x (.ins C dx [])) (λv H2=>v = .non/\Q (.ref x) H2) E
def Binds(K:aeN)(fd:ahI)(ps:List Str)(ds:List aeX):Prop :=
 ∀ (s:ae4) (us:List aeX),K.In s.heap->(us++ds).length=ps.length->alA s fd #[us,[]] (ps.zip (us++ds))
theorem Binds.all{K:aeN}{fd:ahI}{ps:List Str}(h:∀ us:List aeX,us.length=ps.length->bindArgs fd #[us,[]]=pure (ps.zip us)):Binds K fd ps []:=λs us y hl=>by rw[amb] at hl ⊢;exact .of_eq (h us hl)
def Passes(CX:iF)(X:Cx)(E:XK):Prop:=∀ (pins:List (ae0 × Obj)) (J:St) (H:Hp) (s:ae4) (e:aeX) (s':ae4),Inv X pins J H s->CX X.stack H s E e s'->X.xe e s'
section
theorem o6(F:d9 X.prog X.w X.K X.mg X.base CX k f fd ps sp)(hr:bc k X.A)(hb:Binds X.K fd ps ds)(hd:Vals de ds)(hx:Passes CX X E)(I:Inv X pins J H s)(r:Vals vs us)(h:sp (vs++de) H Q E):afe (model X.prog X.w) X.A (call (.ref f) us) (EP X pins J Q) X.xe s:=by
 have r2:Vals (vs++de) (us++ds):=r.append hd;have hl:(us++ds).length=ps.length:=by rw[<- r2.length];exact F.len _ _ _ _ h
 refine alB (aix (F.run X.A X.stack s H #[us,[]] (us++ds) (vs++de) Q E hr I.Ht (hb s us I.cG hl) r2 h) λr s' hq=>?_);cases r with
 | error e=>exact hx pins J H s e s' I hq
 | ok fl =>
  cases fl with
  | ret u=>exact I.after hq
  | next=>exact agO hq
  | brk=>exact agO hq
  | cont=>exact agO hq
theorem dw(F:d9 X.prog X.w X.K X.mg X.base CX k f fd ps sp)(hr:bc k X.A)(hg:Gl X x)(hm:X.mg x=U (.ref f))(hk:af2 X.K (.ref f)=true)(hb:Binds X.K fd ps ds)(hd:Vals de ds)(hx:Passes CX X E)(ha:PA X (e::es) t)(f6:(x == ("__debug__" : Str))=false:=by decide)(he:afb (e::es) X.env=(false,eval e X.env)::afb es X.env:=by rfl)(dz:(agA pos (afb es X.env)).any (·.1)=false:=by rfl) :
 PE X (.Call (.Name x p) (e::es) [] pos) (rD sp de E t):=by
 intro pins s J H Q I h;refine ago (uf I hg hm ?_ f6);refine ahu (h₀:=X.base) I.ok.mod.kin hk (aF (ha pos pins s J H _ I h) λus s1 ⟨vs,H1,I1,r,q⟩=>#[I1.cG,?_]) he dz;exact o6 F hr hb hd hx I1 r q
theorem jC(he:PE X o ta)(c:bR X.K C)(hm:Meth X.K C m f)(F:d9 X.prog X.w X.K X.mg X.base CX k f fd ps sp)(hr:bc k X.A)(hb:Binds X.K fd ps ds)(hd:Vals de ds)(hx:Passes CX X E)(ha:PA X (e::es) t)(cQ:afb (e::es) X.env=(false,eval e X.env)::afb es X.env:=by rfl)(dz:(agA pos (afb es X.env)).any (·.1)=false:=by rfl)(ht:eval (.Call (.Attribute o m apos) (e::es) [] pos) X.env=(do
 let ov <- eval o X.env
 akm apos.atName
 let (f,first) <- holding [ov] (aiV ov m pl)
 alb pos f first (agA pos (afb (e::es) X.env)) (ajg pos (ahx [] X.env))):=by rfl) :
 PE X (.Call (.Attribute o m apos) (e::es) [] pos) (Bf C m sp de E ta t):=by
 intro pins s J H Q I h;refine agH (pl:=pl) (aF (he pins s J H _ I h) λu s1 zq=>?_) ht;obtain⟨x,H1,I1,rx,a,dx,fs,ex,ea,l,q⟩:=zq;subst ex;obtain rfl:u=aft a:=rx;refine uv I1 ea c hm l ?_;refine ahu (first:=[.ref a]) (h₀:=X.base) I.ok.mod.kin hm.kp (aF (ha pos pins s1 J H1 _ I1 q) λus s2 ⟨vs,H2,I2,r,q2⟩=>#[I2.cG,?_]) cQ dz;exact o6 (us:=.ref a::us) (vs:=.ref a::vs) F hr hb hd hx I2 (.cons rfl r) q2
theorem xK(he:PE X o ta)(c:bR X.K C)(hm:Meth X.K C m f)(F:d9 X.prog X.w X.K X.mg X.base CX k f fd ps sp)(hr:bc k X.A)(hb:Binds X.K fd ps ds)(hd:Vals de ds)(hx:Passes CX X E)(ht:eval (.Call (.Attribute o m apos) [] [] pos) X.env=(do
 let ov <- eval o X.env
 akm apos.atName
 let (f,first) <- holding [ov] (aiV ov m pl)
 alb pos f first (agA pos (afb [] X.env)) (ajg pos (ahx [] X.env))):=by rfl) :
 PE X (.Call (.Attribute o m apos) [] [] pos) (Bf C m sp de E ta rB):=by
 intro pins s J H Q I h;refine agH (pl:=pl) (aF (he pins s J H _ I h) λu s1 zq=>?_) ht;obtain⟨x,H1,I1,rx,a,dx,fs,ex,ea,l,q⟩:=zq;subst ex;obtain rfl:u=aft a:=rx;refine uv I1 ea c hm l ?_;exact aiW (first:=[.ref a]) I1.cG hm.kp (o6 (us:=[.ref a]) (vs:=[.ref a]) F hr hb hd hx I1 (.cons rfl .nil) q)
structure Mk(K:aeN)(C f:ae0):Prop where
 makes:agx K C=true
 init:afg K (.ref C) "__init__" = U (U (.ref f))
 fn:akn K (.ref f)=true
 kp:af2 K (.ref C)=true
theorem Q3(M:Mk X.K C f)(F:d9 X.prog X.w X.K X.mg X.base CX k f fd ps sp)(hr:bc (k+1) X.A)(hb:Binds X.K fd ps ds)(hd:Vals de ds)(hx:Passes CX X E)(I:Inv X pins J H s)(r:Vals vs us)(h:∀ x dx,H x=O->H dx=O->dx≠x->sp (.ref x::(vs++de)) (upd (upd H dx (.own x)) x (.ins C dx [])) (λv H2=>v = .non/\Q (.ref x) H2) E) :
 afe (model X.prog X.w) X.A (call (.ref C) us) (EP X pins J Q) X.xe s:=by
 have hq:=h (s.heap.objs.size+1) s.heap.objs.size (I.aB.fresh (aiX _)) (I.aB.fresh (aeV _)) (afa (af7 _));have I2:=Inv.made (C:=C) I;have r2:Vals (V.ref (s.heap.objs.size+1)::(vs++de)) (aft (s.heap.objs.size+1)::(us++ds)):=.cons rfl (r.append hd);have hl:(aft (s.heap.objs.size+1)::us++ds).length=ps.length:=by have e:=r2.length;rw[F.len _ _ _ _ hq] at e;exact e.symm
 refine alB (QO (f:=f) I.cG M.makes M.init (beq_iff_eq.mp M.fn) (aix (F.run _ X.stack _ _ #[aft (s.heap.objs.size+1)::us,[]] (aft (s.heap.objs.size+1)::(us++ds)) _ _ E (hr.make C us [])
  (I2.Ht.make C us []) (hb _ (aft (s.heap.objs.size+1)::us) I2.cG hl) r2 hq) λr s' uw=>?_))
 cases r with
 | error e=>exact hx pins J _ _ e s' I2 uw
 | ok fl =>
  cases fl with
  | ret u =>
   obtain⟨v,H',I3,rv,ev,q3⟩:=I2.after uw;subst ev;exact#[rv,#[V.ref (s.heap.objs.size+1),H',I3,Y,q3]]
  | next=>exact agO uw
  | brk=>exact agO uw
  | cont=>exact agO uw
theorem o7(M:Mk X.K C f)(F:d9 X.prog X.w X.K X.mg X.base CX k f fd ps sp)(hr:bc (k+1) X.A)(hg:Gl X x)(hm:X.mg x=U (.ref C))(hb:Binds X.K fd ps ds)(hd:Vals de ds)(hx:Passes CX X E)(ha:PA X (e::es) t)(f6:(x == ("__debug__" : Str))=false:=by decide)(he:afb (e::es) X.env=(false,eval e X.env)::afb es X.env:=by rfl)(dz:(agA pos (afb es X.env)).any (·.1)=false:=by rfl) :
 PE X (.Call (.Name x p) (e::es) [] pos) (Hu C sp de E t):=by
 intro pins s J H Q I h;refine ago (uf I hg hm ?_ f6);refine ahu (h₀:=X.base) I.ok.mod.kin M.kp (aF (ha pos pins s J H _ I h) λus s1 ⟨vs,H1,I1,r,q⟩=>#[I1.cG,?_]) he dz;exact Q3 M F hr hb hd hx I1 r q
end
structure ux(N P:List Str)(sc:akI):Prop where
 kind:sc.kind = .function
 co:sc.isCoroutine=false
 gen:sc.isGenerator=false
 nd:N.Nodup
 pre:N.take P.length=P
 par:∀ x∈P,sc.names.lookup x=U .local∨sc.names.lookup x=U .cell
 nofree:∀ y∈sc.names,y.2 ≠ .free
theorem Hv{ajz:Str->Option akF}{x:Str}:∀ {binds:List (Str × aeX)} {m:Str->Option aeX},(∀ v,(x,v)∉binds)->anw ajz binds m x=m x
 | [],_,_=>rfl
 | (n,v)::r,m,h=>by
  unfold anw;rw[Hv λw hw=>h w (afJ _ hw)];split
  .have:x≠n:=by rintro rfl;exact h v aht
   simp[this]
  .rfl
theorem Hw{ajz:Str->Option akF}{x:Str}:∀ {binds:List (Str × aeX)} {m:Str->Option aeX},(∀ v,(x,v)∉binds)->anx ajz binds m x=m x
 | [],_,_=>rfl
 | (n,v)::r,m,h=>by
  unfold anx;rw[Hw λw hw=>h w (afJ _ hw)];split
  .rfl
  .have:x≠n:=by rintro rfl;exact h v aht
   simp[this]
theorem Hx{ajz:Str->Option akF}{x:Str}{v:aeX}:∀ {P:List Str} {vs:List aeX} {i:Nat} {m:Str->Option aeX},P.Nodup->P[i]?=U x->vs[i]?=U v->ajz x=U .local ->
 anw ajz (P.zip vs) m x=U v
 | [],_,_,_,_,h,_,_=>by simp at h
 | _::_,[],_,_,_,_,h,_=>by simp at h
 | p::P,w::vs,0,m,nd,h1,h2,hk=>by simp at h1 h2;subst h1;subst h2;show anw ajz ((p,w)::P.zip vs) m p=_;unfold anw;rw[Hv λv hv=>(af8.mp nd).1 (akq hv).1,if_pos hk];simp
 | p::P,w::vs,i+1,m,nd,h1,h2,hk=>by show anw ajz ((p,w)::P.zip vs) m x=_;unfold anw;exact Hx (i:=i) (af8.mp nd).2 (by simpa using h1) (by simpa using h2) hk
theorem Hy{ajz:Str->Option akF}{x:Str}{v:aeX}:∀ {P:List Str} {vs:List aeX} {i:Nat} {m:Str->Option aeX},P.Nodup->P[i]?=U x->vs[i]?=U v->ajz x≠U .local ->
 anx ajz (P.zip vs) m x=U v
 | [],_,_,_,_,h,_,_=>by simp at h
 | _::_,[],_,_,_,_,h,_=>by simp at h
 | p::P,w::vs,0,m,nd,h1,h2,hk=>by simp at h1 h2;subst h1;subst h2;show anx ajz ((p,w)::P.zip vs) m p=_;unfold anx;rw[Hw λv hv=>(af8.mp nd).1 (akq hv).1,if_neg hk];simp
 | p::P,w::vs,i+1,m,nd,h1,h2,hk=>by show anx ajz ((p,w)::P.zip vs) m x=_;unfold anx;exact Hy (i:=i) (af8.mp nd).2 (by simpa using h1) (by simpa using h2) hk
noncomputable def start(N:List Str)(vs:List V):St:=vs.map U++ag5 (N.length-vs.length) O
noncomputable def f7(CX:iF)(P:afG)(w:agn)(K:aeN)(mg:Str->Option aeX)(base:ag3)(N:List Str)(qual:Str)(scope:akI)(f:ae0)(cd:aeX)(A:agD)(outer:List Env)(s:ae4)(H:Hp)(E:XK):Cx where
 prog:=P
 w:=w
 K:=K
 mg:=mg
 base:=base
 A:=A.deeper (agJ qual scope s.heap.objs.size f cd)
 N:=N
 s₀:=s
 H₀:=H
 env:=agJ qual scope s.heap.objs.size f cd
 outer:=outer
 stack:=agJ qual scope s.heap.objs.size f cd::outer
 ex:=[]
 calm:=true
 fn:=λy=>true
 pn:=[]
 xe:=λe s'=>afe (model P w) (A.deeper (agJ qual scope s.heap.objs.size f cd)) (leaving (agJ qual scope s.heap.objs.size f cd) e) (λy uy=>CX outer H s E e uy) (λe' uy=>CX outer H s E e' uy) s'
theorem Hz{sc:akI}{n:Nat}{x:Str}(h:sc.names.lookup x=U .cell):∃ c,(cellsFrom n sc.names []).lookup x=U c:=by have q:=akb sc.names n [] (.inl h);exact ah3.mp q
theorem Q4{CX:iF}{P:afG}{w:agn}{K:aeN}{mg:Str->Option aeX}{base:ag3}{N ps:List Str}{qual:Str}{scope:akI}{f:ae0}{cd:aeX}{A:agD}{outer:List Env}{s s1:ae4}{H:Hp}{E:XK}{us:List aeX}{vs:List V}
 (S:ux N ps scope) (hd:A.handled=O) (e0:o5 P w K mg base A outer s H) (hl:vs.length=ps.length) (r:Vals vs us)
 (x:InCallC s s.heap.objs.size (anw (agJ qual scope s.heap.objs.size f cd).kindOf (ps.zip us) λm=>O) (cellsFrom (s.heap.objs.size+1) scope.names []) (anx (agJ qual scope s.heap.objs.size f cd).kindOf (ps.zip us) λm=>O) s1) :
 Inv (f7 CX P w K mg base N qual scope f cd A outer s H E) [] (start N vs) H s1:=by
 have dz:ps.length<=N.length:=by have:=congrArg List.length S.pre;rw[agB] at this;omega
 obtain⟨h1,tk,rfl,hk⟩:=x.done;have i4:∀ b:ae0,b∉(f7 CX P w K mg base N qual scope f cd A outer s H E).ex:=λb z=>absurd (show b∈([]:List ae0) from z) (by simp);refine#[#[e0.mod,S.kind,Y,Y,aeV _,λy z c h1 h2=>?_,λy hy=>?_,λy c m h=>?_,λm=>hd,Around.frames_deeper e0.frames,.inr #[Y,Y],λb z=>absurd z (i4 b),e0.bs,e0.bsz,λb m m=>i4 b,λb z=>absurd z (i4 b),e0.hV,e0.frf],
  rfl,e0.bare,Un.kept hk,#[_,x.toInCall.ns,λi y v h1 h2 h3=>?_],λy c h=>#[_,x.cell y c h],e0.aB.fresh (aeV _),λy c h=>?_,λp hp=>absurd (show p∈([]:List (ae0 × Obj)) from hp) (by simp),e0.aB.kept hk,?_]
 .exact name_of_addr x.apart (agR h1) (agR h2)
 .have hy:scope.names.lookup y=U .cell∨scope.names.lookup y=U .free:=hy;rcases hy with hy|hy
  .exact Hz hy
  .exact absurd Y (S.nofree _ (agR hy))
 .exact aiw (x.above y c (agR h))
 .have hi:i<vs.length:=by
   unfold start at h2;by_cases hi:i<vs.length
   .exact hi
   .rw[af4 (by simpa using hi)] at h2;rw[ahh] at h2;split at h2<;>cases h2
  have ha:vs[i]?=U v:=by
   unfold start at h2;rw[agf (by simpa using hi),ae5] at h2;cases e:vs[i]? with
   | none=>rw[e] at h2;cases h2
   | some a=>rw[e] at h2;cases h2;rfl
  obtain⟨u,hu,rv⟩:=r.get ha;have hp:ps[i]?=U y:=by rw[<- S.pre,ajA (by omega)];exact h1
  have HC:ps.Nodup:=by rw[<- S.pre];exact S.nd.sublist (List.take_sublist _ _)
  refine#[u,rv,?_];rcases S.par y (ae8 hp) with k|k
  .exact .inl #[k,Hx HC hp hu k]
  .obtain⟨c,e⟩:=Hz (n:=s.heap.objs.size+1) k;refine .inr #[.inl k,c,e,?_];have q:=x.cell y c e;rw[Hy HC hp hu (by show scope.names.lookup y≠_;rw[k];decide)] at q;exact q
 .exact e0.aB.fresh (aiw (x.above y c (agR h)))
 .unfold start;show _=N.length;rw[ae1,aeO,aiy];omega
theorem HD{CX:iF}{P:afG}{w:agn}{K:aeN}{mg:Str->Option aeX}{base:ag3}{k:Nat}{f:ae0}{name qual:Str}{params:Arguments}{body:List ajO}{scope:akI}{dV kV doc pm bf ct oc:aeX}{an od:Option ae0}
 {kQ:Array (Option aeX)} {N ps:List Str} {sp:Sp} (lk:K.lookup f=U #[oc,od,.func (ahy name qual params body scope dV kV doc pm an bf ct),kQ]) (ia:ajp K bf qual=true) (S:ux N ps scope)
 (len:∀ vs H Q E,sp vs H Q E->vs.length=ps.length)
 (i5:∀ (A:agD) (outer:List Env) (s:ae4) (H:Hp) (vs:List V) (Q:VK) (E:XK),bc k (A.deeper (agJ qual scope s.heap.objs.size f bf))->sp vs H Q E ->
   ∃ t,aS (f7 CX P w K mg base N qual scope f bf A outer s H E) body t/\t { nx:=λ_ H'=>Q .non H',rt:=Q } (start N vs) H) :
 d9 P w K mg base CX (k+1) f (ahy name qual params body scope dV kV doc pm an bf ct) ps sp:=by
 refine#[len,λA outer s H args us vs Q E hr e0 hb r jD=>?_];have hl:=len _ _ _ _ jD;have KX:K.In s.heap:=e0.mod.kin.keeps λb o e=>(e0.bs b o e).1;have lim:s.heap.NoLimit:=e0.mod.nolimit.keeps λb o e=>(e0.bs b o e).1;have Q5:∀ y∈ps.zip us,scope.names.lookup y.1=U .local∨(scope.names.lookup y.1=U .cell/\((cellsFrom (s.heap.objs.size+1) scope.names []).lookup y.1).isSome=true):=λ⟨n,v⟩ hy=>by
  rcases S.par n (akq hy).1 with q|q
  .exact .inl q
  .exact .inr #[q,akb _ _ _ (.inl q)]
 refine codeAny_call_function hr.depth (KX _ _ lk) Y S.co S.gen Y (PySem.W.codeRec_of KX ia) (hb _ _ _ _ ?_);refine wpAny_newFunctionEnv_cells S.kind Q5 λenv he s1 x=>?_;subst he;refine#[lim.keeps x.toInCall.keep,codeAny_func ?_];obtain⟨t,ht,hq⟩:=i5 A outer s H vs Q E (hr.deeper _) jD;have I:Inv (f7 CX P w K mg base N qual scope f bf A outer s H E) [] (start N vs) H s1:=Q4 S hr.hd e0 hl r x;refine age (ht [] s1 (start N vs) H _ I hq) (λfl s' hs=>?_) λe s' hs=>hs;have fin:∀ {σ':St} {H':Hp} {v:V} {u:aeX},Inv (f7 CX P w K mg base N qual scope f bf A outer s H E) [] σ' H' s'->RelV v u->Q v H'->CE outer P w H s Q u s' :=
  λ{σ' H' v u} J9q rv q=>#[v,H',J9q.os,J9q.bare,J9q.base,J9q.aB,rv,q]
 cases fl with
 | ret u =>
  obtain⟨v,σ',H',J9q,rv,q⟩:=hs;exact fin J9q rv q
 | next =>
  obtain⟨σ',H',J9q,q⟩:=hs;exact fin (v:=V.non) (u:=Value.none) J9q Y q
 | brk =>
  obtain⟨_,_,_,q⟩:=hs;exact agO q
 | cont =>
  obtain⟨_,_,_,q⟩:=hs;exact agO q
section
variable{X:Cx}{x:Str}{p pos:Pos}{e:aiF}{es:List aiF}{t:TA}{id T:String}{r:List V->Hp->VK->Prop}
def xM(r:List V->Hp->VK->Prop)(t:TA):TE:=λJ H Q=>t J H λvs H1=>r vs H1 Q
theorem cR(hc:fY X (.builtin id) r)(hg:Gl X x)(hm:X.mg x=O)(hv:afC x=U (.builtin id))(ha:PA X (e::es) t)(hn:x ≠ "__name__" := by decide)(f6:(x == ("__debug__" : Str))=false:=by decide)(he:afb (e::es) X.env=(false,eval e X.env)::afb es X.env:=by rfl)(dz:(agA pos (afb es X.env)).any (·.1)=false:=by rfl):PE X (.Call (.Name x p) (e::es) [] pos) (xM r t):=by intro pins s J H Q I h;refine ago (gG I hg hm hv ?_ hn f6);exact ahf (aF (ha pos pins s J H _ I h) λus s1 ⟨vs,H1,I1,r1,q1⟩=>hc pins s1 J H1 vs us Q I1 r1 q1) he dz
theorem uz(hc:fY X (.type T) r)(hg:Gl X x)(hm:X.mg x=O)(hv:afC x=U (.type T))(ha:PA X (e::es) t)(hn:x ≠ "__name__" := by decide)(f6:(x == ("__debug__" : Str))=false:=by decide)(he:afb (e::es) X.env=(false,eval e X.env)::afb es X.env:=by rfl)(dz:(agA pos (afb es X.env)).any (·.1)=false:=by rfl):PE X (.Call (.Name x p) (e::es) [] pos) (xM r t):=by intro pins s J H Q I h;refine ago (gG I hg hm hv ?_ hn f6);exact afw (aF (ha pos pins s J H _ I h) λus s1 ⟨vs,H1,I1,r1,q1⟩=>hc pins s1 J H1 vs us Q I1 r1 q1) he dz
end
end L2
namespace HT
open PySem PyProof.Rows
noncomputable def lexLt:List Int->List Int->Bool
 | [],[]=>false
 | [],_::_=>true
 | _::_,[]=>false
 | x::xs,y::ys=>if x=y then lexLt xs ys else decide (x<y)
theorem rE(x y:Int)(xs ys:List Int):lexLt (x::xs) (y::ys)=if x=y then lexLt xs ys else decide (x<y):=rfl
section
open PySem.SeqAt
open PySem.AutoSeq1 (wpAny_loadPart')
open PySem.MeetsSeq PySem.MeetsSeq2 PySem.MeetsSeq3
end
section
noncomputable def bh(n d:Nat):Option Int->Nat
 | none=>d
 | some v=>if v<0 then (v+(n:Int)).toNat else min v.toNat n
theorem HE(n d:Nat):bh n d O=d:=rfl
theorem xN(n d k:Nat):bh n d (U (k:Int))=min k n:=by show (if (k:Int)<0 then ((k:Int)+(n:Int)).toNat else min (k:Int).toNat n)=min k n;rw[if_neg (by omega),afO]
theorem Q6(n d:Nat)(hd:d<=n)(o:Option Int):bh n d o<=n:=by
 cases o with
 | none=>exact hd
 | some v =>
  show (if v<0 then (v+(n:Int)).toNat else min v.toNat n)<=n;by_cases hv:v<0
  .rw[if_pos hv];omega
  .rw[if_neg hv];exact Nat.min_le_right _ _
theorem HF(v:Int)(n d:Nat):(if v<0 then max (v+(n:Int)) 0 else min v (n:Int))=((bh n d (U v):Nat):Int):=by
 show (if v<0 then max (v+(n:Int)) 0 else min v (n:Int))=(((if v<0 then (v+(n:Int)).toNat else min v.toNat n):Nat):Int);by_cases hv:v<0
 .simp only[if_pos hv];omega
 .simp only[if_neg hv];omega
theorem Q7(lo hi:Option Int)(n:Nat):ahO lo hi 1 (n:Int)=(((bh n 0 lo:Nat):Int),((bh n n hi:Nat):Int)):=by
 have h1:¬ ((1:Int)<0):=by omega
 unfold ahO;simp only[h1,if_false];refine Prod.ext ?_ ?_
 .cases lo with
  | none=>rfl
  | some v=>exact HF v n 0
 .cases hi with
  | none=>rfl
  | some v=>exact HF v n n
theorem Q8(i j:Nat):ag6 (i:Int) (j:Int) 1=j-i:=by
 unfold ag6;have h1:(1:Int) > 0:=by omega
 simp only[h1,if_true,alS];split<;>omega
theorem HG(p:amc v o)(h:Q o s):afe (model prog w) A (al7 v) Q E s:=by
 cases p with
 | none=>exact slicePart_none h
 | int i t=>exact slicePart_int h
theorem Ra{sl:ae0}{vl vu:aeX}{lo hi:Option Int}{n:Nat}{Q:Int × Int × Nat->ae4->Prop}(hs:s.heap.IsSliceOf sl vl vu .none)(pl:amc vl lo)(pu:amc vu hi)
 (h:Q (((bh n 0 lo:Nat):Int),1,bh n n hi-bh n 0 lo) s):afe (model prog w) A (ajb (.ref sl) (pure (n:Int))) Q E s:=by
 obtain⟨os,i6,hcs,hds⟩:=id hs;unfold ajb amG;refine aeM (aeM (ahz i6 hds (x:=vl) Y (aeM (ahz i6 hds (x:=vu) Y (aeM (ahz i6 hds (x:=.none) Y (aeR ?_)))))));refine aeM (slicePart_none ?_);show afe _ _ (if ((1:Int) == 0)=true then _ else _) _ _ s;rw[if_neg (by decide)];refine aeM (HG pl (aeM (HG pu (aeM (aeR ?_)))));show afe _ _ (match ahO lo hi 1 (n:Int) with|(lo,hi)=>pure (lo,(1:Int),ag6 lo hi 1)) _ _ s;rw[Q7 lo hi n];show afe _ _ (pure (((bh n 0 lo:Nat):Int),(1:Int),ag6 ((bh n 0 lo:Nat):Int) ((bh n n hi:Nat):Int) 1)) _ _ s;rw[Q8];exact aeR h
theorem Rb(xs:Array aeX)(i k:Nat):((afp k).filterMap λ(m:Nat)=>xs[((i:Int)+(m:Int) * 1).toNat]?).toArray=((xs.toList.drop i).take k).toArray:=by
 have e:(λ(m:Nat)=>xs[((i:Int)+(m:Int) * 1).toNat]?)=λm=>xs[i+m]?:=by
  funext m;have:((i:Int)+(m:Int) * 1).toNat=i+m:=by omega
  rw[this]
 rw[e];have:=pick_run xs i k;rw[alc] at this;have e2:((λx=>xs[x]?) ∘ λx=>i+x)=λm=>xs[i+m]?:=rfl;rw[e2] at this;rw[this]
theorem Rc{t sl:ae0}{items:Array aeX}{vl vu:aeX}{lo hi:Option Int}{Q:aeX->ae4->Prop}(ht:IsTup s.heap t items)(hs:s.heap.IsSliceOf sl vl vu .none)(pl:amc vl lo)(pu:amc vu hi)
 (hw:¬ (bh items.size 0 lo=0/\bh items.size items.size hi=items.size))
 (h:Q (.ref s.heap.objs.size) { s with heap:=s.heap.push { cls:=.type "tuple",data:=.seq ((items.toList.drop (bh items.size 0 lo)).take (bh items.size items.size hi-bh items.size 0 lo)).toArray } })
 (hsz:items.size<=afl):afe (model prog w) A (akY (.ref t) (.ref sl)) Q E s:=by
 have xO:sizeOk (.seq ((items.toList.drop (bh items.size 0 lo)).take (bh items.size items.size hi-bh items.size 0 lo)).toArray):=by show ((items.toList.drop (bh items.size 0 lo)).take (bh items.size items.size hi-bh items.size 0 lo)).toArray.size<=afl;rw[ae3,agB,ahW,agE];omega
 have hj:bh items.size items.size hi<=items.size:=Q6 _ _ (aeV _) hi;obtain⟨os,i6,hcs,hds⟩:=id hs;have Rf:s.TypeIs (.ref sl) "slice" := #[os,i6,hcs];unfold akY
 try with_reducible refine agr ?_
 first|refine aeM (aeR ?_)|skip
 refine aeM (wpAny_sequenceKey ht.typeIs (by decide) ?_);refine aeM (agl (name:=agg "__getitem__") ht.typeIs ain
  (af9 ain ht.typeIs entry_tuple_getitem ?_ (args_tuple_getitem _ _)))
 show afe _ _ (amE (.ref t) >>= _) _ _ s;refine aeM (tupleItemsOf_ ht ?_);refine aeM (akr Rf ?_);rw[if_pos (by decide)];refine aeM (Ra hs pl pu ?_);have ck:¬ ((((bh items.size 0 lo:Nat):Int) == 0 && (1:Int) == 1 && (bh items.size items.size hi-bh items.size 0 lo) == items.size)=true):=by intro q;rw[aga,aga] at q;have q1:((bh items.size 0 lo:Nat):Int)=0:=eq_of_beq q.1.1;have q2:bh items.size items.size hi-bh items.size 0 lo=items.size:=eq_of_beq q.2;exact hw #[by omega,by omega]
 show afe _ _ (if (((bh items.size 0 lo:Nat):Int) == 0 && (1:Int) == 1 && (bh items.size items.size hi-bh items.size 0 lo) == items.size)=true then _ else _) _ _ s;rw[if_neg ck,Rb]
 first
  | exact aeM (m:=ahb _) (afI (aeR #[_,Y,aeR h]) xO)
  | exact aeM (m:=ahb _) (afI (aeM (aeR (aeR #[_,Y,aeR h]))) xO)
  | exact aeM (aeM (m:=ahb _) (afI (aeR (aeR #[_,Y,aeR h])) xO))
  | exact aeM (aeM (m:=ahb _) (afI (aeR #[_,Y,aeR h]) xO))
end
end HT
namespace L2
open PySem PySem.Spec PyProof.Rows
abbrev TO:=St->Hp->(Option Int->Hp->Prop)->Prop
def PO(X:Cx)(e:Option aiF)(t:TO):Prop :=
 ∀ (pins:List (ae0 × Obj)) (s:ae4) (J:St) (H:Hp) (Q:Option Int->Hp->Prop),Inv X pins J H s->t J H Q ->
  afe (model X.prog X.w) X.A (evalPart e X.env) (λu s'=>∃ o H',Inv X pins J H' s'/\amc u o/\Q o H') X.xe s
noncomputable def HH:TO:=λy H Q=>Q O H
noncomputable def HI(t:TE):TO:=λJ H Q=>t J H λx H1=>∃ i,x = .int i/\Q (U i) H1
theorem intsAre_of:∀ {us:List aeX},Vals (ns.map V.int) us->ajQ us ns:=by
 induction ns with
 | nil=>intro us r;rw[ahg] at r;cases r;exact .nil
 | cons n ns ih =>
  intro us r;rw[ae7] at r;cases r with
  | cons r1 r2 =>
   obtain⟨t,e⟩:=r1;subst e;exact .cons n t (ih r2)
section
variable{X:Cx}{e:aiF}{te:TE}{lo hi:Option aiF}{tl th:TO}{pos p2:Pos}
theorem Bg:PO X O HH:=by intro pins s J H Q I h;rw[ald];exact aeR #[O,H,I,.none,h]
theorem uA(h:PE X e te):PO X (U e) (HI te):=by intro pins s J H Q I hw;rw[evalPart_some];refine aF (h pins s J H _ I hw) λu s1 zq=>?_;obtain⟨x,H1,I1,r1,q1⟩:=zq;obtain⟨i,rfl,q⟩:=q1;obtain⟨t,rfl⟩:=r1;exact#[U i,H1,I1,.int i t,q]
def Bh(X:Cx)(r:V->Option Int->Option Int->Hp->VK->Prop):Prop :=
 ∀ (pins:List (ae0 × Obj)) (s:ae4) (J:St) (H:Hp) (x:V) (v vl vu:aeX) (lo hi:Option Int) (sl:ae0) (Q:VK),Inv X pins J H s->RelV x v->s.heap.IsSliceOf sl vl vu .none->amc vl lo->amc vu hi->r x lo hi H Q ->
  ∃ T id,akG (.type T) "__getitem__" = pure (U (.builtin id))/\s.TypeIs v T/\afe (model X.prog X.w) X.A (akY v (.ref sl)) (EP X pins J Q) X.xe s
def HJ(r:V->Option Int->Option Int->Hp->VK->Prop)(te:TE)(tl th:TO):TE:=λJ H Q=>te J H λx H1=>tl J H1 λl H2=>th J H2 λu H3=>r x l u H3 Q
theorem xP{r:V->Option Int->Option Int->Hp->VK->Prop}(hr:Bh X r)(he:PE X e te)(hl:PO X lo tl)(hu:PO X hi th):PE X (.Subscript e (.Slice lo hi O p2) pos) (HJ r te tl th):=by intro pins s J H Q I h;refine alC (aF (he pins s J H _ I h) λv s1 zq=>?_);obtain⟨x,H1,I1,r1,q1⟩:=zq;refine wpAny_Slice (aF (hl pins s1 J H1 _ I1 q1) λvl s2 ⟨l,H2,I2,pl,q2⟩=>aF (hu pins s2 J H2 _ I2 q2) λvu s3 zq=>?_);obtain⟨u,H3,I3,pu,q3⟩:=zq;rw[ald];refine aeR ?_;have I4:Inv X pins J H3 { s3 with heap:=s3.heap.push { cls:=.type "slice",data:=.fields (List.toArray [vl,vu,.none]) } }:=I3.kept (t':=s3.toks) λb ob q=>aeS _ q;obtain⟨T,id,hT,ht,hg⟩:=hr pins { s3 with heap:=s3.heap.push { cls:=.type "slice",data:=.fields (List.toArray [vl,vu,.none]) } } J H3 x v vl vu l u s3.heap.objs.size Q I4 r1 (Heap.IsSliceOf.new ..) pl pu q3;show afe (model X.prog X.w) X.A (ajR e (.Slice lo hi O p2) v (.ref s3.heap.objs.size)) (EP X pins J Q) X.xe { s3 with heap:=s3.heap.push { cls:=.type "slice",data:=.fields (List.toArray [vl,vu,.none]) } };exact tail_any (ops:=[.ref s3.heap.objs.size,v]) ht hT hg (by with_unfolding_all rfl)
noncomputable def fJ(xs:List V)(lo hi:Option Int):List V:=(xs.drop (HT.bh xs.length 0 lo)).take (HT.bh xs.length xs.length hi-HT.bh xs.length 0 lo)
theorem HL(xs:List V)(lo hi:Option Int):(fJ xs lo hi).length<=xs.length:=by unfold fJ;rw[agB,ahW];omega
def Rg(K:aeN):V->Option Int->Option Int->Hp->VK->Prop:=λx lo hi H Q=>∃ a xs,x = .ref a/\aj K H a xs /\
 ¬ (HT.bh xs.length 0 lo=0/\HT.bh xs.length xs.length hi=xs.length)/\∀ p,H p=O->Q (.ref p) (upd H p (.tup (fJ xs lo hi)))
theorem Rh:Bh X (Rg X.K):=by
 intro pins s J H x v vl vu lo hi sl Q I rx hs pl pu h;obtain⟨a,xs,rfl,hx,hw,q⟩:=h;cases rx;obtain⟨aw,r,ht,hz⟩:=I.tuple hx;have hlen:aw.toArray.size=xs.length:=by rw[ae3];exact r.length.symm
 refine#["tuple",_,PyProof.Rows.slot_tuple_getitem.lookup,ht.typeIs,?_];refine HT.Rc ht hs pl pu (by rw[hlen];exact hw) ?_ (by rw[hlen];exact hz);rw[hlen];refine#[.ref s.heap.objs.size,_,I.laid (t':=s.toks) (o:=.tup (fJ xs lo hi)) (λb ob q=>aeS _ q) (aeV _) ?_,Y,q _ (I.aB.fresh (aeV _))];exact#[aeT (HL xs lo hi) hz,_,(r.drop (HT.bh xs.length 0 lo)).take (HT.bh xs.length xs.length hi-HT.bh xs.length 0 lo),IsTup.new _ _]
end
noncomputable def j5(n:Nat)(i:Int):Option Nat:=if 0<=i then (if i<n then U i.toNat else O) else if -(n:Int)<=i then U (i+n).toNat else O
noncomputable def dA{α:Type}(xs:List α)(i:Int):Option α:=(j5 xs.length i).bind λj=>xs[j]?
theorem HM(h:j5 n i=U j):seqIndex? i n=U j/\j<n/\-(n:Int)<=i/\i<n:=by
 unfold j5 at h;by_cases h0:0<=i
 .rw[if_pos h0] at h;by_cases h1:i<n
  .rw[if_pos h1] at h;have e:i.toNat=j:=Option.some.inj h;exact#[by rw[amd h0 h1,e],by omega,by omega,h1]
  .rw[if_neg h1] at h;cases h
 .rw[if_neg h0] at h;by_cases h1 : -(n:Int)<=i
  .rw[if_pos h1] at h;have e:(i+n).toNat=j:=Option.some.inj h;exact#[by rw[alT (by omega) h1,e],by omega,h1,by omega]
  .rw[if_neg h1] at h;cases h
theorem Bi(h:dA xs i=U v):∃ j,seqIndex? i xs.length=U j/\xs[j]?=U v/\j<xs.length/\-(xs.length:Int)<=i/\i<xs.length:=by
 unfold dA at h;cases e:j5 xs.length i with
 | none=>rw[e] at h;cases h
 | some j =>
  rw[e] at h;obtain⟨h1,h2,h3,h4⟩:=HM e;exact#[j,h1,h,h2,h3,h4]
theorem fo{α:Type}{xs:List α}{j:Nat}{v:α}(h:xs[j]?=U v):dA xs (j:Int)=U v:=by
 have hj:j<xs.length:=(aeW.mp h).1;have e:j5 xs.length (j:Int)=U j:=by unfold j5;rw[if_pos (by omega),if_pos (by omega)];simp
 unfold dA;rw[e];exact h
theorem Bj(xs:List α)(v:α):dA (xs++[v]) (-1)=U v:=by
 have hl:(xs++[v]).length=xs.length+1:=by simp
 have e:j5 (xs++[v]).length (-1)=U xs.length:=by
  unfold j5;rw[hl,if_neg (by decide),if_pos (by omega)]
  congr 1
  omega
 unfold dA;rw[e];show (xs++[v])[xs.length]?=U v;simp
def Bk(b:aiF):Prop:=∀ o i,subscripted b false o i=operate [o,i] (akY o i)
def kR(X:Cx)(r:R2):Prop :=
 ∀ (value slice:aiF) (pins:List (ae0 × Obj)) (s:ae4) (J:St) (H:Hp) (x y:V) (v u:aeX) (Q:VK),Inv X pins J H s->RelV x v->RelV y u->r x y H Q ->
  subscripted slice false v u=operate [v,u] (akY v u)->afe (model X.prog X.w) X.A (ajR value slice v u) (EP X pins J Q) X.xe s
def HN(X:Cx)(id:String)(r:V->List V->Hp->VK->Prop):Prop :=
 ∀ (pins:List (ae0 × Obj)) (s:ae4) (J:St) (H:Hp) (x:V) (xs:List V) (v:aeX) (us:List aeX) (Q:VK),Inv X pins J H s->RelV x v->Vals xs us->r x xs H Q ->
  afe (model X.prog X.w) X.A (call (.builtin id) (v::us)) (EP X pins J Q) X.xe s
section
variable{X:Cx}{a b:aiF}{ta tb:TE}{pos:Pos}
theorem kR.or(h:kR X r)(h':kR X r'):kR X (λx y H Q=>r x y H Q∨r' x y H Q):=by
 intro value slice pins s J H x y v u Q I rx ry q hs;rcases q with q|q
 .exact h value slice pins s J H x y v u Q I rx ry q hs
 .exact h' value slice pins s J H x y v u Q I rx ry q hs
theorem bG(hr:kR X r)(ha:PE X a ta)(hb:PE X b tb)(hs:Bk b):PE X (.Subscript a b pos) (oY r ta tb):=by intro pins s J H Q I h;exact alC (A9 ha hb I h λv u s2 x y H2 I2 rx ry q=>hr a b pins s2 J H2 x y v u Q I2 rx ry q (hs _ _))
def HP(K:aeN):R2:=λx y H Q=>∃ p xs i v,x = .ref p/\y = .int i/\ai K H p xs/\dA xs i=U v/\Q v H
def HQ(K:aeN):R2:=λx y H Q=>∃ p xs i v,x = .ref p/\y = .int i/\aj K H p xs/\dA xs i=U v/\Q v H
def HR:R2:=λx y H Q=>∃ z i c,x = .str z/\y = .int i/\z.length<=afl/\dA z.cps.toList i=U c/\Q (.str #[(List.toArray [c])]) H
theorem Ri:kR X (HP X.K):=by
 intro value slice pins s J H x y v u Q I rx ry h hs;obtain⟨p,xs,i,z,rfl,rfl,hq,he,q⟩:=h;cases rx;obtain⟨t,rfl⟩:=ry;obtain⟨aw,r,pl,hz⟩:=I.list hq;obtain⟨j,h1,h2,h3,h4,h5⟩:=Bi he;obtain⟨w,ew,md⟩:=r.get h2;have hl:=r.length;have hn:=uu;have fin:EP X pins J Q w s:=#[z,H,I,md,q]
 by_cases h0:0<=i
 .have hj:i.toNat=j:=by rw[amd h0 h5] at h1;exact Option.some.inj h1
  exact item_listR pl.isList h0 (by omega) (by rw[hj];simpa using ew) fin hs
 .have hj:(i+(aw.toArray.size:Int)).toNat=j:=by rw[alT (by omega) h4] at h1;rw[ae3,<- hl];exact Option.some.inj h1
  exact akc (x:=w) pl.isList.typeIs slot_list_getitem.lookup
   (wpAny_getItem_list_neg (Q:=λr s'=>r=w/\EP X pins J Q r s') pl.isList (by omega) (by rw[ae3]<;>omega) (by omega) (by rw[hj];simpa using ew) #[Y,fin]) hs
theorem Rj:kR X (HQ X.K):=by
 intro value slice pins s J H x y v u Q I rx ry h hs;obtain⟨p,xs,i,z,rfl,rfl,hq,he,q⟩:=h;cases rx;obtain⟨t,rfl⟩:=ry;obtain⟨aw,r,pl,hz⟩:=I.tuple hq;obtain⟨j,h1,h2,h3,h4,h5⟩:=Bi he;obtain⟨w,ew,md⟩:=r.get h2;have hl:=r.length;have hn:=uu;have fin:EP X pins J Q w s:=#[z,H,I,md,q]
 exact akc (x:=w) pl.typeIs slot_tuple_getitem.lookup
  (getItem_tuple (j:=j) (Q:=λr s'=>r=w/\EP X pins J Q r s') pl (by omega) (by omega) (by rw[ae3,<- hl];exact h1) (by simpa using ew) #[Y,fin]) hs
theorem Rk:kR X HR:=by
 intro value slice pins s J H x y v u Q I rx ry h hs;obtain⟨z,i,c,rfl,rfl,hz,he,q⟩:=h;obtain⟨t,rfl⟩:=rx;obtain⟨t',rfl⟩:=ry;obtain⟨j,h1,h2,h3,h4,h5⟩:=Bi he;have hl:z.cps.toList.length=z.length:=by simp[Str.length]
 rw[hl] at h1 h4 h5;have hn:=uu;exact tail_any (typeIs_str s z t) slot_str_getitem.lookup (getItem_str (c:=c) (by
  have e1:decide (i < -(2 ^ 63:Int))=false:=decide_eq_false (by omega);have e2:decide (i ≥ 2 ^ 63)=false:=decide_eq_false (by omega);rw[e1,e2,am1]) (by rw[h1];simpa using h2) #[.str #[(List.toArray [c])],H,I.tok _,#[_,Y],q]) hs
def kS(K:aeN):R2:=λx y H Q=>HP K x y H Q∨HQ K x y H Q∨HR x y H Q
theorem bH:kR X (kS X.K):=Ri.or (Rj.or Rk)
theorem Rl(aw:List aeX)(n j:Nat)(u:aeX):agm (·.setIfInBounds j u) { cls:=.type "list",data:=.seq aw.toArray n } = { cls:=.type "list",data:=.seq (aw.set j u).toArray n }:=by simp[agm]
theorem Inv.lst(I:Inv X pins J H s)(h:H p=U (.lst xs)) :
 ∃ (aw:List aeX) (n:Nat),Vals xs aw/\s.heap.get? p=U { cls:=.type "list",data:=.seq aw.toArray n }/\xs.length<=afl:=by
 obtain⟨z,aw,n,r,e⟩:=I.aB p _ h;exact#[aw,n,r,e,z]
theorem Inv.Rm{pins:List (ae0 × Obj)}{J:St}{H:Hp}{s:ae4}{p:ae0}{xs ys:List V}{aw its':List aeX}{n n':Nat}{f:Obj->Obj}(I:Inv X pins J H s)(h:H p=U (.lst xs))
 (ho:s.heap.get? p=U { cls:=.type "list",data:=.seq aw.toArray n }) (hf:f { cls:=.type "list",data:=.seq aw.toArray n } = { cls:=.type "list",data:=.seq its'.toArray n' }) (r:Vals ys its') (hz:ys.length<=afl) (t:Nat) :
 Inv X pins J (upd H p (.lst ys)) { s with heap:=s.heap.update p f,toks:=t }:=by
 have e:(s.heap.update p f).get? p=U { cls:=.type "list",data:=.seq its'.toArray n' }:=by rw[afE f ho (by rw[hf]<;>rfl),hf]
 refine I.write (x:=p) (e:=p) (by rw[h];trivial) (.inl rfl) (λb u hb q=>(aff _ _ (afR hb)).trans q) #[_,e] ?_;exact#[hz,its',n',r,e]
def HS:V->V->V->Hp->(Hp->Prop)->Prop:=λo i v H Q=>∃ p xs k j,o = .ref p/\i = .int k/\H p=U (.lst xs)/\j5 xs.length k=U j/\Q (upd H p (.lst (xs.set j v)))
theorem set_list:G6 X HS:=by
 intro pins s J H o i v ov iv u Q I ro ri rv h;obtain⟨p,xs,k,j,rfl,rfl,hp,hj,q⟩:=h;cases ro;obtain⟨t,rfl⟩:=ri;obtain⟨aw,n,r,ho,hz⟩:=I.lst hp;obtain⟨h1,h2,h3,h4⟩:=HM hj;have hl:=r.length;have hn:=uu;have I':Inv X pins J (upd H p (.lst (xs.set j v))) { s with heap:=s.heap.update p (agm (·.setIfInBounds j u)) } :=
  I.Rm hp ho (Rl aw n j u) (r.set rv j) (by rw[ame];exact hz) s.toks
 by_cases h0:0<=k
 .have hk:k.toNat=j:=by rw[amd h0 h4] at h1;exact Option.some.inj h1
  exact PySem.W.ki_setAt ho h0 (by omega) (by rw[ae3,<- hl];exact h4) (by rw[hk];exact#[_,I',q])
 .have hk:(k+(aw.toArray.size:Int)).toNat=j:=by rw[alT (by omega) h3] at h1;rw[ae3,<- hl];exact Option.some.inj h1
  exact PySem.W.ki_setBack ho (by omega) (by rw[ae3,<- hl];exact h3) (by omega) (by rw[hk];exact#[_,I',q])
theorem Rn(lo hi:Option Int)(n:Nat):(ah0 lo hi O n).1=((HT.bh n 0 lo:Nat):Int)/\(ah0 lo hi O n).2.1=((HT.bh n n hi:Nat):Int)/\(ah0 lo hi O n).2.2=1:=by
 refine#[?_,?_,Y]
 .cases lo with
  | none=>simp[ah0,HT.bh]
  | some i =>
   simp only[ah0,HT.bh,Option.getD_none,show (1:Int) > 0 by decide,if_true];by_cases h:i<0
   .simp only[h,if_true]<;>omega
   .simp only[h,if_false]<;>omega
 .cases hi with
  | none=>simp[ah0,HT.bh]
  | some i =>
   simp only[ah0,HT.bh,Option.getD_none,show (1:Int) > 0 by decide,if_true];by_cases h:i<0
   .simp only[h,if_true]<;>omega
   .simp only[h,if_false]<;>omega
theorem Ro(aw:List aeX)(lo hi:Option Int):amf aw.toArray lo hi O=((aw.drop (HT.bh aw.length 0 lo)).take (HT.bh aw.length aw.length hi-HT.bh aw.length 0 lo)).toArray:=by obtain⟨h1,h2,h3⟩:=Rn lo hi aw.toArray.size;unfold amf;rw[h1,h2,h3];simp only[sliceRange_one,pick_run,ae3]<;>rfl
def HU(K:aeN):V->Option Int->Option Int->Hp->VK->Prop:=λx lo hi H Q=>∃ a xs,x = .ref a/\ai K H a xs/\∀ p,H p=O->Q (.ref p) (upd H p (.lst (fJ xs lo hi)))
theorem Bl:Bh X (HU X.K):=by intro pins s J H x v vl vu lo hi sl Q I rx hs pl pu h;obtain⟨a,xs,rfl,hx,q⟩:=h;cases rx;obtain⟨aw,r,ht,hz⟩:=I.list hx;have hlen:=r.length;refine#["list",_,slot_list_getitem.lookup,ht.isList.typeIs,?_];refine ajB ht.isList hs pl pu .none (by simp) ?_ (by rw[ae3]<;>omega);rw[Ro,<- hlen];refine#[.ref s.heap.objs.size,_,I.laid (t':=s.toks) (o:=.lst (fJ xs lo hi)) (λb ob q=>aeS _ q) (aeV _) ?_,Y,q _ (I.aB.fresh (aeV _))];exact#[aeT (HL xs lo hi) hz,_,0,(r.drop (HT.bh xs.length 0 lo)).take (HT.bh xs.length xs.length hi-HT.bh xs.length 0 lo),aeZ _ Y]
noncomputable def mf:V->Bool
 | .non=>true
 | .bl _=>true
 | .int _=>true
 | .str _=>true
 | _=>false
noncomputable def nF:V->V->Bool
 | .non,.non=>true
 | .bl a,.bl b=>a == b
 | .bl a,.int b=>(if a then 1 else 0) == b
 | .int a,.bl b=>a == (if b then 1 else 0)
 | .int a,.int b=>a == b
 | .str a,.str b=>a == b
 | _,_=>false
theorem Rp(ry:RelV y u)(rx:RelV x v)(fy:mf y=true)(fx:mf x=true):SeqAt.EqAt A s u v (nF y x):=by
 cases y with
 | non =>
  cases ry;cases x with
  | non=>cases rx;exact SeqAt.EqAt.same _
  | bl b=>cases rx;exact SeqAt.EqAt.none_bool b
  | int b=>obtain⟨t,rfl⟩:=rx;exact SeqAt.EqAt.none_int b t
  | str b=>obtain⟨t,rfl⟩:=rx;exact SeqAt.EqAt.none_str b t
  | _=>exact absurd (show false=true from fx) afj
 | bl a =>
  cases ry;cases x with
  | non=>cases rx;exact SeqAt.EqAt.bool_none a
  | bl b=>cases rx;exact SeqAt.EqAt.bool_bool a b
  | int b=>obtain⟨t,rfl⟩:=rx;exact SeqAt.EqAt.bool_int a b t
  | str b=>obtain⟨t,rfl⟩:=rx;exact SeqAt.EqAt.bool_str a b t
  | _=>exact absurd (show false=true from fx) afj
 | int a =>
  obtain⟨t',rfl⟩:=ry;cases x with
  | non=>cases rx;exact SeqAt.EqAt.int_none a t'
  | bl b=>cases rx;exact SeqAt.EqAt.int_bool a t' b
  | int b=>obtain⟨t,rfl⟩:=rx;exact SeqAt.EqAt.int_int a t' b t
  | str b=>obtain⟨t,rfl⟩:=rx;exact SeqAt.EqAt.int_str a t' b t
  | _=>exact absurd (show false=true from fx) afj
 | str a =>
  obtain⟨t',rfl⟩:=ry;cases x with
  | non=>cases rx;exact SeqAt.EqAt.str_none a t'
  | bl b=>cases rx;exact SeqAt.EqAt.str_bool a t' b
  | int b=>obtain⟨t,rfl⟩:=rx;exact SeqAt.EqAt.str_int a t' b t
  | str b=>obtain⟨t,rfl⟩:=rx;exact SeqAt.EqAt.str_str a t' b t
  | _=>exact absurd (show false=true from fx) afj
 | _=>exact absurd (show false=true from fy) afj
noncomputable def ib(x:V)(u:aeX):Bool:=match u with
 | .none=>nF .non x
 | .bool b=>nF (.bl b) x
 | .int i _=>nF (.int i) x
 | .str z _=>nF (.str z) x
 | _=>false
theorem HV(r:RelV y u)(f:mf y=true):ib x u=nF y x:=by
 cases y with
 | non=>cases r;rfl
 | bl b=>cases r;rfl
 | int i=>obtain⟨t,rfl⟩:=r;rfl
 | str z=>obtain⟨t,rfl⟩:=r;rfl
 | _=>exact absurd (show false=true from f) afj
theorem xQ:∀ {xs:List V} {us:List aeX},Vals xs us->xs.all mf=true->us.any (ib x)=xs.any λy=>nF y x:=by
 intro z z h f
 induction h with
 | nil=>rfl
 | cons r t ih =>
  rw[aiM,aga] at f;rw[afX,afX,HV r f.1,ih f.2]
theorem uB(rx:RelV x v)(fx:mf x=true):∀ {xs:List V} {us:List aeX},Vals xs us->xs.all mf=true->∀ u∈us,SeqAt.EqAt A s u v (ib x u)
 | _,_,.nil,_=>λu hu=>by cases hu
 | y::xs,u::us,.cons r t,f=>λu' hu=>by
  rw[aiM,aga] at f;rcases ae2.mp hu with rfl|hu
  .rw[HV r f.1];exact Rp r rx f.1 fx
  .exact uB rx fx t f.2 u' hu
noncomputable def uC(x:V)(xs:List V):Bool:=xs.any λy=>nF y x
def Bm(K:aeN)(neg:Bool):R2:=λx y H Q=>∃ p xs,y = .ref p/\(ai K H p xs∨aj K H p xs)/\mf x=true/\xs.all mf=true/\Q (.bl (if neg then !uC x xs else uC x xs)) H
theorem Rq:bB X (af6 .In) (Bm X.K false):=by
 intro pins s J H x y v u Q I rx ry h;obtain⟨p,xs,rfl,hq,fx,fs,q⟩:=h;cases ry;rcases hq with hq|hq
 .obtain⟨aw,r,pl,hz⟩:=I.list hq;refine SeqAt.in_listAt (ib x) pl.isList (λw hw=>uB rx fx r fs w (by simpa using hw)) #[.bl _,H,I,Y,?_];rw[show aw.toArray.any (ib x)=aw.any (ib x) by simp,xQ r fs];exact q
 .obtain⟨aw,r,pl,hz⟩:=I.tuple hq;refine SeqAt.in_tupleAt (ib x) pl (λw hw=>uB rx fx r fs w (by simpa using hw)) #[.bl _,H,I,Y,?_];rw[show aw.toArray.any (ib x)=aw.any (ib x) by simp,xQ r fs];exact q
theorem HW:bB X (af6 .NotIn) (Bm X.K true):=by
 intro pins s J H x y v u Q I rx ry h;obtain⟨p,xs,rfl,hq,fx,fs,q⟩:=h;cases ry;rcases hq with hq|hq
 .obtain⟨aw,r,pl,hz⟩:=I.list hq;refine SeqAt.notIn_listAt (ib x) pl.isList (λw hw=>uB rx fx r fs w (by simpa using hw)) #[.bl _,H,I,Y,?_];rw[show aw.toArray.any (ib x)=aw.any (ib x) by simp,xQ r fs];exact q
 .obtain⟨aw,r,pl,hz⟩:=I.tuple hq;refine SeqAt.notIn_tupleAt (ib x) pl (λw hw=>uB rx fx r fs w (by simpa using hw)) #[.bl _,H,I,Y,?_];rw[show aw.toArray.any (ib x)=aw.any (ib x) by simp,xQ r fs];exact q
theorem HX:fY X (.type "list") (λxs H Q=>∃ p ys,xs=[.ref p]/\(ai X.K H p ys∨aj X.K H p ys)/\∀ l,H l=O->Q (.ref l) (upd H l (.lst ys))):=by
 intro pins s J H xs us Q I r h;obtain⟨p,ys,rfl,hq,q⟩:=h;obtain⟨u,rfl,rx⟩:=vals1 r;cases rx;have fin:∀ (aw:List aeX),Vals ys aw->ys.length<=afl->∀ (h':ag3) (c':Nat),(∀ b o',s.heap.get? b=U o'->h'.get? b=U o') ->
  h'.get? s.heap.objs.size=U { cls:=.type "list",dict:=O,data:=.seq aw.toArray c',slots:=(List.toArray []) }->EP X pins J Q (.ref s.heap.objs.size) { s with heap:=h' }:=λaw r' hz h' c' kp e =>
  #[.ref s.heap.objs.size,_,I.laid (t':=s.toks) kp (aeV _) (show b9 X.prog X.w _ h' _ (.lst ys) from #[hz,aw,c',r',e]),Y,q _ (I.aB.fresh (aeV _))]
 rcases hq with hq|hq
 .obtain⟨aw,r',pl,hz⟩:=I.list hq;have hlen:=r'.length;obtain⟨o,ho,hc,n,hd⟩:=pl.isList;exact call_list_seq p (.inl rfl) ho hc hd (λh' c' kp e=>fin aw r' hz h' c' kp e) (by simp only[ae3]<;>omega)
 .obtain⟨aw,r',pl,hz⟩:=I.tuple hq;have hlen:=r'.length;obtain⟨o,ho,hc,n,hd⟩:=pl;exact call_list_seq p (.inr rfl) ho hc hd (λh' c' kp e=>fin aw r' hz h' c' kp e) (by simp only[ae3]<;>omega)
def Bo(K:aeN)(T:String)(x:V)(H:Hp):Prop:=match x with
 | .str _=>T = "str"
 | .int _=>T = "int"
 | .ref p=>(T = "list" /\ ∃ xs,ai K H p xs)∨(T = "tuple" /\ ∃ o,K.lookup p=U o/\o.cls = .type "tuple" /\ o.dict=O) ∨
  (T = "dict" /\ ((∃ kvs,H p=U (.dK kvs)) ∨ ∃ kvs,H p=U (.dT kvs)))∨(T = "set" /\ ∃ S n,H p=U (.set S n))
 | _=>False
theorem Rr(I:Inv X pins J H s)(r:RelV x v)(ty:Bo X.K T x H) :
 s.TypeIs v T/\∀ a,v = .ref a->∃ ob,s.heap.get? a=U ob/\ob.dict=O:=by
 cases x with
 | str z =>
  obtain⟨t,rfl⟩:=r;cases (show T = "str" from ty);exact#[typeIs_str s z t,λy e=>nomatch e]
 | int i =>
  obtain⟨t,rfl⟩:=r;cases (show T = "int" from ty);exact#[amT s i t,λy e=>nomatch e]
 | ref p =>
  cases r;rcases ty with ⟨rfl,xs,hq⟩|⟨rfl,o,hk,hc,hd⟩|⟨rfl,hk⟩|⟨rfl,S,n,hk⟩
  .obtain⟨aw,y,pl,y⟩:=I.list hq;refine#[pl.isList.typeIs,λa e=>?_];cases e;obtain⟨o,n,e,c,hd,y⟩:=pl;exact#[o,e,hd]
  .refine#[#[o,I.cG p o hk,hc],λa e=>?_];cases e;exact#[o,I.cG _ o hk,hd]
  .have z:∃ o,s.heap.get? p=U o/\o.ExactDict:=by
    rcases hk with ⟨kvs,hk⟩|⟨kvs,hk⟩
    .obtain⟨y,y,y,y,o,y,y,e,ex,y⟩:=I.aB p _ hk;exact#[o,e,ex]
    .obtain⟨y,y,y,y,o,y,y,e,ex,y⟩:=I.aB p _ hk;exact#[o,e,ex]
   obtain⟨o,e,ex⟩:=z;refine#[#[o,e,ex.1],λa e2=>?_];cases e2;exact#[o,e,ex.2.1]
  .obtain⟨o,y,y,y,e,ex,y⟩:=I.aB p _ hk;refine#[#[o,e,ex.1],λa e2=>?_];cases e2;exact#[o,e,ex.2.1]
 | _=>exact agO ty
def Rt(K:aeN)(T:String)(r:V->List V->Hp->VK->Prop)(to:TE):TE:=λJ H Q=>to J H λx H1=>Bo K T x H1/\r x [] H1 Q
def HY(K:aeN)(T:String)(r:V->List V->Hp->VK->Prop)(to:TE)(t:TA):TE:=λJ H Q=>to J H λx H1=>Bo K T x H1/\t J H1 λxs H2=>r x xs H2 Q
variable{o e:aiF}{es:List aiF}{to:TE}{t:TA}{name:Str}{apos eJ:Pos}{T id:String}{r:V->List V->Hp->VK->Prop}
theorem i7(pa:PlainAttrs T)(slot:Slot T name id)(Bp:typeOf (.builtin id)=pure (.type "method_descriptor"))(hm:HN X id r)(ho:PE X o to)(ha:PA X (e::es) t)(Ru:ah7 o name X.env (eval o X.env)=eval o X.env:=by rfl)(Rv:((agA eJ (afb (e::es) X.env)).all (λx=>!x.1) && (ajg eJ (ahx [] X.env)).all (λx=>x.1.isSome)
 && decide ((e::es).length+([]:List amg).length+(if ([]:List amg).isEmpty then 0 else 1)<30))=true:=by rfl) (Rw:(apos.endLine == eJ.line)=true:=by rfl) (hs:afb (e::es) X.env=(false,eval e X.env)::afb es X.env:=by rfl) (Rx:(agA eJ (afb es X.env)).any (·.1)=false:=by rfl) :
 PE X (.Call (.Attribute o name apos) (e::es) [] eJ) (HY X.K T r to t):=by
 intro pins s J H Q I h;refine wpAny_Call_method_late Ru Rv Rw Y (aF (ho pins s J H _ I h) λv s1 zq=>?_);obtain⟨x,H1,I1,r1,ty,q1⟩:=zq;obtain⟨h1,h2⟩:=Rr I1 r1 ty;refine#[T,id,pa,slot,Bp,h1,h2,?_];have hA:=ha eJ pins s1 J H1 _ I1 q1;rw[hs] at hA ⊢;refine Calls.callWith_builtin (by show (false || (agA eJ (afb es X.env)).any (·.1))=false;rw[Rx]<;>rfl) (akK ?_);exact aF hA λus s2 ⟨vs,H2,I2,r2,q2⟩=>hm pins s2 J H2 x vs v us Q I2 r1 r2 q2
end
def HZ(X:Cx)(id:String)(r:V->List V->Hp->VK->Prop):Prop :=
 ∀ (pins:List (ae0 × Obj)) (s:ae4) (J:St) (H:Hp) (x:V) (xs:List V) (v:aeX) (us:List aeX) (Q:VK),Inv X pins J H s->RelV x v->Vals xs us->r x xs H Q ->
  afe (model X.prog X.w) X.A (call (.builtin id) (v::us)) (EP X pins J Q) X.xe s
theorem Vals.one:∀ {x:V} {us:List aeX},Vals [x] us->∃ u,us=[u]/\RelV x u:=by
 intro x us h;cases h with
 | cons r t=>cases t;exact#[_,Y,r]
theorem Vals.reverse(h:Vals xs us):Vals xs.reverse us.reverse:=by
 induction h with
 | nil=>exact .nil
 | cons r t ih=>rw[aio,aio];exact Vals.append ih (.cons r .nil)
section
theorem Inv.Ia{aw its':List aeX}{n:Nat}{f:Array aeX->Array aeX}{t':Nat}(I:Inv X pins J H s)(hH:H l=U (.lst xs))
 (e:s.heap.get? l=U { cls:=.type "list",data:=.seq aw.toArray n }) (hf:f aw.toArray=its'.toArray) (hv:Vals ys its') (hz:ys.length<=afl) :
 Inv X pins J (upd H l (.lst ys)) { s with heap:=s.heap.update l (agm f),toks:=t' }:=by
 have q:=PySem.IsL.update e f;rw[hf] at q;refine I.write (x:=l) (e:=l) (by rw[hH];exact trivial) (.inl rfl) (λb' u hb hu=>(aff s.heap (agm f) (afR hb)).trans hu) #[_,q] ?_;exact#[hz,its',_,hv,q]
theorem Inv.Ry(I:Inv X pins J H s)(hv:Vals ys aw)(hz:ys.length<=afl) :
 Inv X pins J (upd H s.heap.objs.size (.lst ys)) { s with heap:=s.heap.push { cls:=.type "list",data:=.seq aw.toArray },toks:=t' } :=
 I.laid (λy y q=>aeS _ q) (aeV _) #[hz,aw,0,hv,aeZ _ Y]
theorem Inv.fresh(I:Inv X pins J H s):H s.heap.objs.size=O:=I.aB.fresh (aeV _)
theorem Inv.uD(I:Inv X pins J H s)(hH:H l=U (.lst xs)):xs.length<=afl/\∃ (aw:List aeX) (n:Nat),Vals xs aw/\xs.length=aw.length/\s.heap.get? l=U { cls:=.type "list",data:=.seq aw.toArray n }:=by obtain⟨z,aw,n,r,e⟩:=I.aB l _ hH;exact#[z,aw,n,r,r.length,e]
theorem Rz(h:n<=afl):ah4 n=false:=by unfold ah4;exact decide_eq_false (by omega)
def Ib:V->List V->Hp->VK->Prop:=λx vs H Q=>∃ l xs y,x = .ref l/\vs=[y]/\H l=U (.lst xs)/\xs.length<afl/\Q .non (upd H l (.lst (xs++[y])))
theorem mh:HZ X "list.append" Ib:=by intro pins s J H x vs v us Q I rx rv h;obtain⟨l,xs,y,rfl,rfl,hH,hz,q⟩:=h;cases rx;obtain⟨u,rfl,ru⟩:=rv.one;obtain⟨z,aw,n,r,hl,e⟩:=I.uD hH;refine alD ale #[_,e,Y] akZ (akL _ _) (alE l aw.toArray n u (by rw[ae3];omega)) #[e,?_];refine#[.non,_,I.Ia (its':=aw++[u]) hH e (by simp) (r.append (.cons ru .nil)) ?_,Y,q];rw[ae1,afh];omega
def RA:V->List V->Hp->VK->Prop:=λx vs H Q=>∃ l b xs zs,x = .ref l/\vs=[.ref b]/\H l=U (.lst xs)/\H b=U (.lst zs)/\xs.length+zs.length<=afl/\Q .non (upd H l (.lst (xs++zs)))
theorem Ic:HZ X "list.extend" RA:=by
 intro pins s J H x vs v us Q I rx rv h;obtain⟨l,b,xs,zs,rfl,rfl,hH,hB,hz,q⟩:=h;cases rx;obtain⟨u,rfl,ru⟩:=rv.one;cases ru;obtain⟨z,aw,n,r,hl,e⟩:=I.uD hH;obtain⟨z2,o8,n2,r2,ba,e2⟩:=I.uD hB;have hsz:aw.toArray.size+o8.toArray.size<=afl:=by rw[ae3,ae3];omega
 have RB:¬ (!aw.toArray.isEmpty && ah4 (aw.toArray.size+o8.toArray.size))=true:=by rw[Rz hsz,akS];exact afj
 refine alD F.slot_list_extend #[_,e,Y] F.entry_list_extend (F.args_list_extend_2 _ _)
  (AutoSeq1.list_extend_list_list_0 l aw.toArray n b o8.toArray n2 RB (by rw[ae3];omega) (by omega)) #[e,e2,?_]
 refine#[.non,_,I.Ia (its':=aw++o8) hH e (by simp) (r.append r2) ?_,Y,q];rw[ae1];omega
def RC:V->List V->Hp->VK->Prop:=λx vs H Q=>∃ l xs,x = .ref l/\vs=[]/\H l=U (.lst xs)/\Q .non (upd H l (.lst xs.reverse))
def Ie:R2:=λx y H Q=>∃ l b xs zs,x = .ref l/\y = .ref b/\H l=U (.lst xs)/\H b=U (.lst zs)/\xs.length+zs.length<=afl/\∀ p,H p=O->Q (.ref p) (upd H p (.lst (xs++zs)))
theorem kT:bB X (ahV .Add) Ie:=by
 intro pins s J H x y v u Q I rx ry h;obtain⟨l,b,xs,zs,rfl,rfl,hH,hB,hz,q⟩:=h;cases rx;cases ry;obtain⟨z,aw,n,r,hl,e⟩:=I.uD hH;obtain⟨z2,o8,n2,r2,ba,e2⟩:=I.uD hB;refine PySem.P.add_list e e2 ?_ (by rw[ae3,ae3];omega);have ea:aw.toArray++o8.toArray=(aw++o8).toArray:=by simp
 rw[ea];exact#[.ref _,_,I.Ry (t':=s.toks) (r.append r2) (by rw[ae1];omega),Y,q _ I.fresh]
end
section
set_option maxRecDepth 100000 in
end
section
end
end L2
namespace Bq
open PySem PySem.W PySem.Calls PyProof.Rows
theorem RD:∀ (ns:List Int) (vs:List aeX),WellAll P h vs (ns.map WData.int)->ajQ vs ns:=by
 intro ns
 induction ns with
 | nil =>
  intro vs w;rw[ahg] at w;cases w;exact .nil
 | cons n ns ih =>
  intro vs w;rw[ae7] at w;cases w with
  | cons a b =>
   cases a;exact .cons _ _ (ih _ b)
theorem RE{l:OpenLaw}{n:Nat}(hn:l.most=U n){P:Params}{h:ag3}{args:List WData}{vals:List aeX}
 (Ig:l.row.toRowW.claim.pre args=true) (Ih:WellAll P h vals args) :
 ∃ a vs ns,vals=[aft a]/\args=[WData.list (ns.map WData.int)]/\h.get? a=U { cls:=.type "list",data:=.seq vs.toArray }/\ajQ vs ns/\ns.length<=n:=by
 have RF:WShape.hasAll [] args [.list .int]=true:=(pre_splitW Ig).1;have hc:l.pre.holds [] { args:=args }=true:=(pre_splitW Ig).2;obtain⟨d,r,rfl,h1,h2⟩:=hasAllW_cons RF;obtain rfl:=hasAllW_nil h2;obtain⟨xs,rfl,h3⟩:=hasW_list h1;obtain⟨ns,rfl⟩:=items_int h3;have hlen:ns.length<=n:=by
  unfold OpenLaw.pre at hc;have h4:(WTm.not (.lt (.lit (.int (n:Int))) (.len (.arg 0)))).holds [] { args:=[.list (ns.map .int)] }=true:=by have h4:=(holds_andW hc).1;rw[hn] at h4;exact h4
  have h5:=condW_of h4 (w_not (w_lt w_lit (w_len_list (w_arg Y))));rw[aeO] at h5;refine Nat.le_of_not_lt λq=>?_;have q':(n:Int)<((ns.length:Nat):Int):=by omega
  first
   | (rw[decide_eq_true q'] at h5;exact absurd h5 (by decide))
   | (simp at h5;omega)
 cases Ih with
 | cons w1 w2 =>
  cases w2;cases w1 with
  | list ho hall=>exact#[_,_,ns,Y,Y,ho,RD ns _ hall,hlen]
theorem RG(l:OpenLaw)(args:List WData):l.row.toRowW.claim.post args (.bool true) args=true :=
 postW_of (r:=l.row.toRowW) (X:=(true == true))
  (show WShape.has [] (.bool true) .bool=true by first|rfl|decide|simp[WShape.has,WShape.arms,WShape.armsAll])
  (show (WTm.eq .res (.lit (.bool true))).value [] { args:=args,res:=U (.bool true),after:=args }=U (.bool (true == true)) from w_eq_bool (w_res Y) w_lit) rfl
section
end
end Bq
namespace L2
open PySem PySem.Spec PyProof.Rows
theorem Ii:∀ {vs:List aeX} {ns:List Int},ajQ vs ns->Vals (ns.map V.int) vs:=by
 intro y y h
 induction h with
 | nil=>exact .nil
 | cons n t h ih=>exact .cons #[t,Y] ih
def Ij(H:Hp):Prop:=∀ b,H b=O ∨ ∃ o xs,H b=U (.aN o (.lst xs))
theorem RH{P:afG}{w:agn}{K:aeN}{mg mb:Str->Option aeX}{CX:iF}{k:Nat}{fa a:ae0}{fd:ahI}{x:Str}{sp:Sp}{s₁:ae4}{vs:List aeX}{ns:List Int}
 (KX:K.In s₁.heap) (o9:s₁.heap.Ns afc mg) (hb:s₁.heap.Ns amQ mb) (RI:∀ x:Str,x ≠ "__name__" -> mb x=afC x) (RJ:s₁.heap.NoLimit) (hg:s₁.gens = (List.toArray []))
 (ha:s₁.heap.get? a=U { cls:=.type "list",data:=.seq vs.toArray }) (hi:ajQ vs ns) (hl:ns.length<=afl) (hr:bc k amh)
 (F:∀ base:ag3,K.In base->base.Ns afc mg->d9 P w K mg base CX k fa fd [x] sp) (RK:∀ (s:ae4) (u:aeX),alA s fd #[[u],[]] [(x,u)])
 (jD:∀ H:Hp,Ij H->ai K H a (ns.map V.int)->sp [.ref a] H (λv _=>v = .bl true) λ_ _ _=>False)
 (RL:∀ H e s',CX [] H s₁ (λ_ _ _=>False) e s'->False) :
 ahY (model P w) amh (.call (.ref fa) #[[.ref a],[]]) (λr s'=>r = .ok (.ret (.bool true))/\OldK s₁.heap s'.heap/\s'.os=s₁.os/\akk s'.gens) s₁:=by
 have rv:=Ii hi;have RM:=hi.length;have core:∀ H:Hp,Ij H->ai K H a (ns.map V.int)->cF P w H s₁.heap->(∀ b,H b≠O->b=a)->(H a≠O->K.lookup a=O) ->
  ahY (model P w) amh (.call (.ref fa) #[[.ref a],[]]) (λr s'=>r = .ok (.ret (.bool true))/\OldK s₁.heap s'.heap/\s'.os=s₁.os/\akk s'.gens) s₁:=by
  intro H hO hS aB hA hK;have Ik:∀ {b:ae0} {o:Obj},s₁.heap.get? b=U o->H b=O->(lV s₁.heap H).get? b=U o:=λe n=>Qa e n;have i4:∀ {b:ae0} {o:Obj} {es:Array ahP} {ep:Nat},s₁.heap.get? b=U o->o.data = .dict es ep->H b=O:=λ{b o es ep} e d=>by
   cases q:H b with
   | none=>rfl
   | some u =>
    have e':b=a:=hA b (by rw[q];simp);subst e';rw[ha] at e;cases e;have d':Data.seq vs.toArray _=Data.dict es ep:=d;cases d'
  have xR:∀ {b:ae0} {m:Str->Option aeX},s₁.heap.Ns b m->(lV s₁.heap H).Ns b m:=λ{b m} ⟨o,es,ep,e,d,r⟩=>#[o,es,ep,Ik e (i4 e d),d,r]
  have Il:K.In (lV s₁.heap H):=λb o e=>Ik (KX b o e) (by
   cases q:H b with
   | none=>rfl
   | some u =>
    have e':b=a:=hA b (by rw[q];simp);subst e';rw[hK (by rw[q];simp)] at e;cases e)
  have hM:Mod K mg (lV s₁.heap H):=#[Il,xR o9,#[mb,xR hb,RI],let ⟨mc,h1,h2⟩:=RJ;#[mc,xR h1,h2]]
  have e0:o5 P w K mg (lV s₁.heap H) amh [] s₁ H:=#[Y,hM,λb o e=>Qb e,ani (P9 _ _),trivial,λb hb=>absurd (show b∈([]:List ae0) from hb) (by simp),aB,.of_eq hg]
  refine aix ((F _ Il (xR o9)).run amh [] s₁ H #[[.ref a],[]] [.ref a] [.ref a] _ _ hr e0 (RK s₁ (.ref a)) (.cons rfl .nil) (jD H hO hS)) λr s' h=>?_;cases r with
  | error e=>exact (RL H e s' h).elim
  | ok fl =>
   cases fl with
   | next=>exact agO h
   | brk=>exact agO h
   | cont=>exact agO h
   | ret u =>
    obtain⟨v,H',os,bare,un,RN,r',q⟩:=h;have q':v = .bl true:=q;subst q';obtain rfl:u=agz true:=r';refine#[Y,OldK.of_keep λb o e=>?_,os,bare];cases q:H b with
    | none=>exact un.keep b o e q (by intro z;exact absurd (show b∈([]:List ae0) from z) (by simp)) (by simp)
    | some u =>
     rcases hO b with z|⟨ob,xs,z⟩
     .rw[q] at z;cases z
     .have z2:=un.gE b ob _ z;obtain⟨e1,_⟩:=aB b _ z;obtain⟨e2,_⟩:=RN b _ z2;rw[e] at e1;cases e1;exact e2
 cases hk:K.lookup a with
 | some o =>
  have e:=KX a o hk;rw[ha] at e;cases e;refine core (λ_=>O) (λ_=>.inl rfl) (.inr #[_,vs.toArray,_,hk,Y,Y,Y,by rw[ae3,RM];exact hl,by simpa using rv]) (λb u z=>by have z':(O:Option HO)=U u:=z;cases z') (λb z=>absurd Y z) λz=>absurd Y z
 | none =>
  refine core (λb=>if b=a then U (.aN { cls:=.type "list",data:=.seq vs.toArray } (.lst (ns.map V.int))) else O) (λb=>?_) (.inl (.inr #[{ cls:=.type "list",data:=.seq vs.toArray },if_pos Y])) (λb u z=>?_) (λb z=>?_) λ_=>hk
  .by_cases hb:b=a
   .exact .inr #[_,_,if_pos hb]
   .exact .inl (if_neg hb)
  .by_cases hb:b=a
   .have z':=(if_pos hb).symm.trans z;cases z';subst hb;exact#[ha,by rw[aeO];exact hl,vs,_,rv,ha]
   .have z':=(if_neg hb).symm.trans z;cases z'
  .by_cases hb:b=a
   .exact hb
   .exact absurd (if_neg hb) z
def inClass(s:ajO)(j:Nat):ajO:=match s with
 | .ClassDef _ _ _ body _ _ _ _ _ _ _=>body.getD j (.Pass #[0,0,0,0])
 | _=>.Pass #[0,0,0,0]
noncomputable def rF(s:ajO):Arguments:=match s with
 | .FunctionDef _ a _ _ _ _ _ _ _ _=>a
 | _=>{ posonlyargs:=[],args:=[],vararg:=O,kwonlyargs:=[],kw_defaults:=[],kwarg:=O,defaults:=[] }
noncomputable def jE(s:ajO):List ajO:=match s with
 | .FunctionDef _ _ b _ _ _ _ _ _ _=>b
 | _=>[]
noncomputable def eW(s:ajO):akI:=match s with
 | .FunctionDef _ _ _ _ _ _ sc _ _ _=>sc
 | _=>{ kind:=.function,names:=[],isGenerator:=false,isCoroutine:=false }
abbrev E0:XK:=λy y y=>False
structure pd(K:aeN)(x qual:Str)(st:ajO)(f:ae0)(fd:ahI):Prop where
 ex:∃ (oc:aeX) (od:Option ae0) (kV doc pm:aeX) (an:Option ae0) (bf ct:aeX) (kQ:Array (Option aeX)),
  fd=ahy x qual (rF st) (jE st) (eW st) .none kV doc pm an bf ct/\K.lookup f=U #[oc,od,.func fd,kQ]/\ajp K bf qual=true
 kp:af2 K (.ref f)=true
section
variable{P:afG}{w:agn}{K:aeN}{mg:Str->Option aeX}{base:ag3}
theorem pd.binds{x qual:Str}{st:ajO}{f:ae0}{fd:ahI}{ps:List Str}(F:pd K x qual st f fd)
 (h:∀ (kV doc pm:aeX) (an:Option ae0) (bf ct:aeX) (us:List aeX),us.length=ps.length->bindArgs (ahy x qual (rF st) (jE st) (eW st) .none kV doc pm an bf ct) #[us,[]]=pure (ps.zip us)):Binds K fd ps []:=by
 obtain⟨oc,od,kV,doc,pm,an,bf,ct,kQ,rfl,lk,ia⟩:=F.ex;exact .all (h kV doc pm an bf ct)
theorem nG{x qual:Str}{st:ajO}{f:ae0}{oc:aeX}{od an:Option ae0}{kQ:Array (Option aeX)}{kV doc pm bf ct:aeX}(l:K.lookup f=U #[oc,od,.func (ahy x qual (rF st) (jE st) (eW st) .none kV doc pm an bf ct),kQ])
 (c:ajp K bf qual=true) (k:af2 K (.ref f)=true):pd K x qual st f (ahy x qual (rF st) (jE st) (eW st) .none kV doc pm an bf ct):=#[#[oc,od,kV,doc,pm,an,bf,ct,kQ,Y,l,c],k]
end
theorem gJ(hr:bc k A):A.units+1<aka:=afy (Nat.add_le_add_left (by decide:1<=64) _) hr.units
section
theorem pv(i:Nat)(hN:X.N[i]?=U x:=by rfl)(hv:xk X.env.scope x:=by first|exact aiz rfl|exact alU (aiz Y)|exact alU (alU Y))(hd:(x == ("__debug__" : Str))=false:=by decide)(ia:(x == ("__classdict__" : Str))=false:=by decide):PE X (.Name x pos) (AW i):=Qg hN hv hd ia
end
def ah(H H':Hp):Prop:=∀ b o,H b=U o->H' b=U o
theorem ah.refl(H:Hp):ah H H:=λy y h=>h
theorem ah.trans(a:ah H H1)(b:ah H1 H2):ah H H2:=λc o h=>b c o (a c o h)
theorem ah.free(e:ah H H')(h:H' l=Option.none):H l=Option.none:=by
 cases q:H l with
 | none=>rfl
 | some o =>
  rw[e l o q] at h;cases h
theorem ah.seq{K:aeN}{H H':Hp}{a:ae0}{xs:List V}(e:ah H H')(h:ai K H a xs):ai K H' a xs:=by
 rcases h with (h|⟨o,h⟩)|h
 .exact .inl (.inl (e _ _ h))
 .exact .inl (.inr #[o,e _ _ h])
 .exact .inr h
end L2
namespace Gz
open PySem PySem.Spec PyProof.Rows L2
def Bd(n:Nat)(x:Int):Prop:=x.natAbs<2 ^ n
theorem Bd.up(h:Bd n x)(hm:n<=m):Bd m x:=afm h (Nat.pow_le_pow_right (by decide) hm)
theorem Bd.bits(h:Bd n x):ahi x<=n:=by
 unfold ahi;by_cases e:x=0
 .subst e;simp
 .have e0:¬ ((x == 0)=true):=by simpa using e
  rw[if_neg e0];have hn:x.natAbs≠0:=by lia
  have:=(Nat.log2_lt hn).mpr h;lia
def rG(i j:Int):Prop:=Bd 4000 i/\Bd 4000 j
theorem rG.ok(h:rG i j):IntMulOk i j :=
 IntMulOk.of_bits (aeT h.1.bits (by decide)) (aeT h.2.bits (by decide))
section
theorem RO:bB X (ahV .Mult) (rI rG λi j=>.int (i * j)):=xD λy y y y y y y hc q=>mul_int q hc.ok
noncomputable def uE:V->aeX
 | .ref a=>.ref a
 | .ty n=>.type n
 | _=>.none
theorem RP:fY X (.builtin "isinstance") (λxs H Q=>∃ x c t b,xs=[x,c]/\dv X.K H x t/\uE c ≠ .none/\afM X.K t (uE c)=U b/\Q (.bl b) H):=by
 intro pins s J H xs us Q I r h;obtain⟨x,c,t,b,rfl,ty,hc,e,q⟩:=h;obtain⟨u,v,rfl,rx,rc⟩:=vals2 r;have ev:v=uE c:=by
  cases c with
  | ref a=>exact rc
  | ty n=>exact rc
  | non=>exact absurd Y hc
  | bl _=>exact absurd Y hc
  | int _=>exact absurd Y hc
  | str _=>exact absurd Y hc
  | byt _=>exact absurd Y hc
  | flt _=>exact absurd Y hc
 subst ev;exact QX I rx ty e λtk=>#[.bl b,H,I.tok tk,Y,q]
end
theorem xS{K:aeN}{t:aeX}:afM K t t=U true:=by unfold afM;rw[if_pos (by simp)]
theorem xT{K:aeN}{a c:String}{b:Bool}(h:ami c=true)(h2:(PySem.fastBuiltinMro a).map (·.contains (.type c))=U b)(h3:(a == c)=false):afM K (.type a) (.type c)=U b:=by
 unfold afM;have e:¬ ((aju a == aju c)=true):=by simp only[beq_iff_eq,Value.type.injEq];simpa using h3
 rw[if_neg e];show (if ami c=true then ah8 K (.type a) (.type c) else O)=U b;rw[if_pos h];exact h2
theorem RQ{K:aeN}:afM K (.type "int") (.type "bool")=U false:=xT (by decide +kernel) (by decide +kernel) (by decide)
theorem RS{K:aeN}:afM K (.type "bool") (.type "int")=U true:=xT (by decide +kernel) (by decide +kernel) (by decide)
theorem RT{K:aeN}:afM K (.type "NoneType") (.type "int")=U false:=xT (by decide +kernel) (by decide +kernel) (by decide)
theorem RU{K:aeN}:afM K (.type "NoneType") (.type "tuple")=U false:=xT (by decide +kernel) (by decide +kernel) (by decide)
theorem Im:afC "len" = U (.builtin "len"):=by decide +kernel
theorem Io:afC "min" = U (.builtin "min"):=by decide +kernel
theorem uF:afC "max" = U (.builtin "max"):=by decide +kernel
theorem i8:afC "isinstance" = U (.builtin "isinstance"):=by decide +kernel
theorem Ip:afC "sorted" = U (.builtin "sorted"):=by decide +kernel
theorem xU:afC "any" = U (.builtin "any"):=by decide +kernel
theorem uG:afC "all" = U (.builtin "all"):=by decide +kernel
theorem Iq:afC "sum" = U (.builtin "sum"):=by decide +kernel
theorem Ir:afC "int" = U (.type "int"):=by decide +kernel
theorem Iu:afC "bool" = U (.type "bool"):=by decide +kernel
theorem nH:afC "list" = U (.type "list"):=by decide +kernel
theorem uH:afC "tuple" = U (.type "tuple"):=by decide +kernel
theorem RV:afC "dict" = U (.type "dict"):=by decide +kernel
theorem Iv:afC "enumerate" = U (.type "enumerate"):=by decide +kernel
theorem RW:afC "zip" = U (.type "zip"):=by decide +kernel
theorem RX:afC "reversed" = U (.type "reversed"):=by decide +kernel
noncomputable def Br:V->V->Option Bool
 | .int _,.ty n=>if n = "int" then U true else if n = "bool" then U false else O
 | .bl _,.ty n=>if n = "int" then U true else if n = "bool" then U true else O
 | .non,.ty n=>if n = "int" then U false else if n = "tuple" then U false else O
 | _,_=>O
def j6(K:aeN)(x c:V)(H:Hp)(Q:VK):Prop:=match Br x c with
 | some b=>Q (.bl b) H
 | none=>∃ t b,dv K H x t/\uE c ≠ .none/\afM K t (uE c)=U b/\Q (.bl b) H
section
theorem i9:fY X (.builtin "isinstance") (λxs H Q=>∃ x c,xs=[x,c]/\j6 X.K x c H Q):=by
 intro pins s J H xs us Q I r h;obtain⟨x,c,rfl,h⟩:=h;refine RP pins s J H _ us Q I r ?_;cases e:Br x c with
 | none =>
  unfold j6 at h;rw[e] at h;obtain⟨t,b,h1,h2,h3,h4⟩:=h;exact#[x,c,t,b,Y,h1,h2,h3,h4]
 | some b =>
  unfold j6 at h;rw[e] at h;unfold Br at e;split at e
  .rename_i i n;split at e
   .rename_i z;subst z;cases e;exact#[_,_,_,_,Y,dv.int i,(λz=>nomatch z),xS,h]
   .split at e
    .rename_i z;subst z;cases e;exact#[_,_,_,_,Y,dv.int i,(λz=>nomatch z),RQ,h]
    .cases e
  .rename_i i n;split at e
   .rename_i z;subst z;cases e;exact#[_,_,_,_,Y,dv.bl i,(λz=>nomatch z),RS,h]
   .split at e
    .rename_i z;subst z;cases e;exact#[_,_,_,_,Y,dv.bl i,(λz=>nomatch z),xS,h]
    .cases e
  .rename_i n;split at e
   .rename_i z;subst z;cases e;exact#[_,_,_,_,Y,dv.non,(λz=>nomatch z),RT,h]
   .split at e
    .rename_i z;subst z;cases e;exact#[_,_,_,_,Y,dv.non,(λz=>nomatch z),RU,h]
    .cases e
  .cases e
end
section
variable{K:aeN}{H:Hp}{Q:VK}{i:Int}{b:Bool}{p:ae0}{xs:List V}
theorem RY:j6 K (.int i) (.ty "int") H Q=Q (.bl true) H:=rfl
theorem RZ:j6 K (.int i) (.ty "bool") H Q=Q (.bl false) H:=rfl
theorem R0:j6 K (.bl b) (.ty "int") H Q=Q (.bl true) H:=rfl
theorem R1:j6 K (.bl b) (.ty "bool") H Q=Q (.bl true) H:=rfl
theorem R4:j6 K .non (.ty "int") H Q=Q (.bl false) H:=rfl
theorem R5:j6 K .non (.ty "tuple") H Q=Q (.bl false) H:=rfl
theorem uI(h:H p=U (.tup xs))(q:Q (.bl true) H):j6 K (.ref p) (.ty "tuple") H Q:=#[_,_,dv.tup h,(λz=>nomatch z),xS,q]
theorem xV(h:H p=U (.lst xs))(q:Q (.bl true) H):j6 K (.ref p) (.ty "list") H Q:=#[_,_,dv.lst h,(λz=>nomatch z),xS,q]
end
def ed(P:afG)(w:agn):iF:=λouter H s E e s' =>
 ∃ (x:ae0) (cls a0:aeX) (H':Hp) (B:ag3),e = .ref x/\s'.os=s.os/\akk s'.gens/\Un (bq outer) [] H H' s.heap s'.heap /\
  (∀ b o,s.heap.get? b=U o->H b=O->b∉bq outer->B.get? b=U o)/\(∀ b o,s.heap.get? b=U o->b∉bq outer->∃ o',B.get? b=U o')/\cF P w H' B/\H' x=O/\s.heap.get? x=O /\
  alV B outer x cls a0 s'.heap/\E cls O H'
theorem bS:Passes (ed P w) X E0:=by rintro y y y y y y y ⟨y,y,y,y,y,y,y,y,y,y,y,y,y,y,y,h⟩;exact h.elim
theorem R6(h:ed P w outer H s (λy y y=>False) e s'):False:=by obtain⟨y,y,y,y,y,y,y,y,y,y,y,y,y,y,y,h⟩:=h;exact h
section
variable{P:afG}{w:agn}{K:aeN}{mg:Str->Option aeX}{base:ag3}
theorem okN{x qual:Str}{st:ajO}{f:ae0}{fd:ahI}{N ps:List Str}{k:Nat}{sp:Sp}(F:pd K x qual st f fd)(S:ux N ps (eW st))(len:∀ vs H Q E,sp vs H Q E->vs.length=ps.length)
 (i5:∀ (bf:aeX) (A:agD) (outer:List Env) (s:ae4) (H:Hp) (vs:List V) (Q:VK) (E:XK),bc k (A.deeper (agJ qual (eW st) s.heap.objs.size f bf))->sp vs H Q E ->
   ∃ t,aS (f7 (ed P w) P w K mg base N qual (eW st) f bf A outer s H E).rm (jE st) t/\t { nx:=λy H'=>Q .non H',rt:=Q } (start N vs) H):d9 P w K mg base (ed P w) (k+1) f fd ps sp:=by
 obtain⟨oc,od,kV,doc,pm,an,bf,ct,kQ,rfl,lk,ia⟩:=F.ex;refine HD lk ia S len λA outer s H vs Q E hr jD=>?_;obtain⟨t,h,q⟩:=i5 bf A outer s H vs Q E hr jD;exact#[t,h.rm,q]
end
theorem R7(a b:Int):l6 (.int a) (.int b)=true:=rfl
theorem R8(a b:Bool):l6 (.bl a) (.bl b)=true:=rfl
theorem R9(a:Int):l6 (.int a) .non=true:=rfl
theorem Sa(a:Int):l6 .non (.int a)=true:=rfl
theorem Sb:l6 .non .non=true:=rfl
theorem ite_tt:(if true=true then A else B)=A:=if_pos rfl
theorem ite_ff:(if false=true then A else B)=B:=if_neg afj
theorem Sd{CX:iF}{P:afG}{w:agn}{K:aeN}{mg:Str->Option aeX}{base:ag3}{N:List Str}{qual:Str}{scope:akI}{f:ae0}{cd:aeX}{A:agD}{outer:List Env}{s:ae4}{H:Hp}{E:XK} :
 (f7 CX P w K mg base N qual scope f cd A outer s H E).K=K:=rfl
theorem Se{CX:iF}{P:afG}{w:agn}{K:aeN}{mg:Str->Option aeX}{base:ag3}{N:List Str}{qual:Str}{scope:akI}{f:ae0}{cd:aeX}{A:agD}{outer:List Env}{s:ae4}{H:Hp}{E:XK} :
 (f7 CX P w K mg base N qual scope f cd A outer s H E).N=N:=rfl
section
variable{K:aeN}{H H':Hp}{a p:ae0}{xs ys:List V}{i:Int}{v:V}{Q:VK}
theorem ao(h:H p=O):ah H (upd H p o):=λb u e=>by rw[aI (jW e h)];exact e
theorem ay(h:aj K H p xs)(e:dA xs i=U v)(q:Q v H):kS K (.ref p) (.int i) H Q:=.inr (.inl #[p,xs,i,v,Y,Y,h,e,q])
theorem bK(h:ai K H p xs)(e:dA xs i=U v)(q:Q v H):kS K (.ref p) (.int i) H Q:=.inl #[p,xs,i,v,Y,Y,h,e,q]
theorem eX(h:ai K H p xs):xH K (.ref p) H xs.length:=.inl #[xs,h,Y]
theorem nI(h:aj K H p xs):xH K (.ref p) H xs.length:=.inr #[xs,h,Y]
end
noncomputable def isWhole:V->Bool
 | .int _=>true
 | _=>false
def FJ(J9q:It)(g:TG)(tb:TS)(D:Ends)(J:L2.St)(H:Hp):Prop:=∃ W:Nat->Nat->L2.St->Hp->Prop,(∃ m,W 0 m J H)/\∀ i m J H,W i m J H ->
 (J9q.stop i H/\D.nx J H)∨(J9q.go i H/\∃ N:L2.St->Hp->Prop,(∀ σ' H',N σ' H'->∃ m',m'<m/\W (i+1) m' σ' H')/\∀ x H',J9q.yld i H x H'->g x J H' λσ2 H2=>tb { D with nx:=N,ct:=N,bk:=D.nx } σ2 H2)
section
variable{K:aeN}{g:TG}{tb:TS}{D:Ends}{J:L2.St}{H:Hp}{a:ae0}{xs:List V}{lo:Int}{n:Nat}
theorem Sf:kP (A3 ta) g tb D J H=ta J H (λvs H1=>∃ j:Int,vs=[.int j]/\-(2 ^ 62)<=j/\j<2 ^ 62/\FJ (jy 0 j.toNat) g tb D J H1):=rfl
theorem Sg{tl:TE}:kP (A1 K tl) g tb D J H=tl J H (λx H1=>∃ a,x = .ref a/\(∃ xs,ai K H1 a xs)/\FJ (j4 K a) g tb D J H1):=rfl
theorem Sh{tl:TE}:kP (A2 K tl) g tb D J H=tl J H (λx H1=>∃ a,x = .ref a/\(∃ xs,aj K H1 a xs)/\FJ (lZ K a) g tb D J H1):=rfl
theorem xW(Pv:Nat->L2.St->Hp->Prop)(h0:Pv 0 J H)(hs:∀ i J H,i<n->Pv i J H->g (.int (lo+i)) J H λσ2 H2=>tb { D with nx:=Pv (i+1),ct:=Pv (i+1),bk:=D.nx } σ2 H2)(hd:∀ J H,Pv n J H->D.nx J H):FJ (jy lo n) g tb D J H:=Qt Pv h0 hs hd
theorem ja(Pv:Nat->L2.St->Hp->Prop)(h0:Pv 0 J H)(hl:∀ i J H,i<=xs.length->Pv i J H->ai K H a xs)(hs:∀ i x J H,xs[i]?=U x->Pv i J H->g x J H λσ2 H2=>tb { D with nx:=Pv (i+1),ct:=Pv (i+1),bk:=D.nx } σ2 H2)(hd:∀ J H,Pv xs.length J H->D.nx J H):FJ (j4 K a) g tb D J H:=Qr Pv h0 hl hs hd
theorem Iw(Pv:Nat->L2.St->Hp->Prop)(h0:Pv 0 J H)(hl:∀ i J H,i<=xs.length->Pv i J H->aj K H a xs)(hs:∀ i x J H,xs[i]?=U x->Pv i J H->g x J H λσ2 H2=>tb { D with nx:=Pv (i+1),ct:=Pv (i+1),bk:=D.nx } σ2 H2)(hd:∀ J H,Pv xs.length J H->D.nx J H):FJ (lZ K a) g tb D J H:=Qs Pv h0 hl hs hd
end
theorem aX:(2:Nat)<=afl:=by decide
theorem Iy(h:x.natAbs<2 ^ 200):Bd 4000 x:=Bd.up (n:=200) h (by decide)
theorem rH(h:x.natAbs<2 ^ 200)(h':y.natAbs<2 ^ 200):rG x y:=#[Iy h,Iy h']
section
end
section
variable{K:aeN}{H H1:Hp}{l p:ae0}{xs ys:List V}{o:HO}
theorem jb(hl:H l=O)(s:ah H H1):ah H (upd H1 l o):=λb u e=>by rw[aI (jW e hl)];exact s b u e
theorem Bs(h:aj K H1 p xs)(hl:H1 l=U (.lst ys)):aj K (upd H1 l o) p xs:=by
 rcases h with (h|⟨z,h⟩)|h
 .exact .inl (.inl (by rw[aI (rg h hl (λe=>nomatch e))];exact h))
 .exact .inl (.inr #[z,by rw[aI (rg h hl (λe=>nomatch e))];exact h])
 .exact .inr h
end
end Gz
namespace Gz
open PySem PySem.W PySem.Spec PySem.Calls PyProof.Rows Builtin Builtin.ObjectAttr Builtin.Getset_descriptor
section
variable{prog:afG}{w:agn}{A:agD}{E:aeX->ae4->Prop}{s:ae4}{K:Frag}{x C:ae0}{oe:Obj}{R:alQ->ae4->Prop}
end
structure XC(K:Frag)(C:ae0):Prop where
 ex:excIn K C [.type "ValueError",.type "Exception",.type "BaseException",.type "object"] "ValueError.__new__" = true
 mo:mroIn K C (.type "object")=U true
 mb:mroIn K C (.type "BaseException")=U true
 ga:findIn K (.ref C) "__getattribute__" = U (U (.builtin "BaseException.__getattribute__"))
 gr:findIn K (.ref C) "__getattr__" = U O
 gc:findIn K (.ref C) "__class__" = U (U (.builtin "object.__class__"))
theorem Si{K:Frag}{h:ag3}{C:ae0}(X:K.In h)(c:XC K C) :
 ∃ bm N nm q bs hdct sn sub ab col dd k0 k1 k2 k3 k5 mN,h.get? C=U (excClassObj nm q C N bs bm hdct sn sub ab col dd k0 k1 k2 k3 k5 "ValueError.__new__")/\h.Ns N mN/\mN "__init__" = O /\
  OwnTail h [.type "ValueError",.type "Exception",.type "BaseException",.type "object"] bm:=by
 have q:=c.ex;unfold excIn at q;split at q
 .rename_i dd cd sl ho;split at q
  .rename_i C' bm k0 k1 k2 k3 n k5 hm hs;simp only[aga,beq_iff_eq,Bool.not_eq_true'] at q;obtain⟨⟨⟨⟨⟨rfl,rfl⟩,hdel⟩,ht⟩,aB⟩,hni⟩:=q;obtain⟨nm,bs,mro,ns,qn,hd,sn,sub,ab,col,del⟩:=cd;dsimp only at hm hdel aB hni;subst hm hdel;have mi:sl = (List.toArray [k0,k1,k2,k3,U (.builtin "ValueError.__new__"),k5]):=by obtain⟨l⟩:=sl;simp only at hs;rw[hs]
   subst mi;exact#[bm,ns,nm,qn,bs,hd,sn,sub,ab,col,dd,k0,k1,k2,k3,k5,_,X _ _ ho,.of_isNs (isNs_of_in X aB),nsMap_none_of_in X aB hni,tail_of_in X ht]
  .cases q
 .cases q
open L2
section
end
end Gz
namespace Gz
open PySem PySem.Spec PyProof.Rows L2
theorem b9.some(x:b9 P w H h a o):∃ ob,h.get? a=U ob:=by
 cases o with
 | lst xs=>obtain⟨z,z,z,z,e⟩:=x;exact#[_,e]
 | tup xs=>obtain⟨z,z,z,o,e,z⟩:=x;exact#[_,e]
 | dK kvs=>obtain⟨z,z,z,z,o,z,z,e,z⟩:=x;exact#[_,e]
 | dT kvs=>obtain⟨z,z,z,z,o,z,z,e,z⟩:=x;exact#[_,e]
 | set S n=>obtain⟨o,z,z,z,e,z⟩:=x;exact#[_,e]
 | ins C dx fs=>obtain⟨z,z,z,e,z⟩:=x;exact#[_,e]
 | own y=>exact x
 | xd fs=>obtain⟨z,⟨z,z,z,e,z⟩,z⟩:=x;exact#[_,e]
 | jt lo hi=>obtain⟨z,z,z,e⟩:=x;exact#[_,e]
 | aN ob u=>obtain⟨e,z⟩:=x;exact#[_,e]
 | tbl ps=>exact#[_,x]
 | met f y=>exact#[_,x]
 | ext φ=>exact x.2.1
def Iz(X:Cx)(E:XK):Prop:=∀ (pins:List (ae0 × Obj)) (J:L2.St) (H:Hp) (s:ae4) (e C:ae0) (vs:List aeX) (h':ag3),Inv X pins J H s->Heap.MadeExcOf s.heap h' e (.ref C) vs->E (.ref C) O H->X.xe (.ref e) { s with heap:=h' }
def Bu(C:ae0)(E:XK)(ta:TA):TS:=λD J H=>ta J H λvs H1=>vs.length<=afl/\E (.ref C) O H1
section
theorem kU{x:Str}{np eJ pos:Pos}{e₀:aiF}{rest:List aiF}{ta:TA}{C:ae0}{E:XK}(hx:Iz X E)(hg:Gl X x)(hm:X.mg x=U (.ref C))(xc:XC X.K C)(hc:X.calm=true)(ha:PA X (e₀::rest) ta)
 (hd:(x == ("__debug__" : Str))=false:=by decide) (he:afb (e₀::rest) X.env=(false,eval e₀ X.env)::afb rest X.env:=by rfl)
 (dz:(agA eJ (afb rest X.env)).any (·.1)=false:=by rfl) :
 PS X (.Raise (U (.Call (.Name x np) (e₀::rest) [] eJ)) O pos) (Bu C E ta):=by
 intro pins s J H D I h;obtain⟨tl,N,nm,q,bs,hdct,sn,sub,ab,col,dd,k0,k1,k2,k3,k5,mN,hC,hN,hni,T⟩:=Si I.ok.mod.kin xc;refine wpAny_Raise_call_subU (C:=C) (nm:=nm) (q:=q) (N:=N) (bs:=bs) (bm:=tl) (hdct:=hdct) (sn:=sn) (sub:=sub) (ab:=ab) (col:=col) (dd:=dd) (k0:=k0) (k1:=k1) (k2:=k2) (k3:=k3) (k5:=k5)
  ajc (by decide +kernel) ajc (mN:=mN) (T.hasType PySem.F.excBase_ValueError.hasBase) (I.ok.hd hc) (by rw[he];show (false || (agA eJ (afb rest X.env)).any (·.1))=false;rw[dz];rfl) hni (uf I hg hm #[Y,?_] hd)
 have uJ:=ha eJ pins s J H _ I h;rw[he] at uJ ⊢;refine akK (age uJ (λus s₂ h₂=>?_) λz z y=>y);obtain⟨vs,H1,I1,r,hl,hE⟩:=h₂;exact#[Y,by rw[<- r.length];exact hl,I1.bk _ _ hC,hN.keeps I1.bk,T.keeps I1.bk,λh' e hm=>hx pins J H1 s₂ e C us h' I1 hm hE]
end
section
variable{P:afG}{w:agn}{K:aeN}{mg:Str->Option aeX}{base:ag3}{N:List Str}{qual:Str}{scope:akI}{f:ae0}{cd:aeX}{A:agD}{outer:List Env}{s:ae4}{H:Hp}{E:XK}
theorem IA(hf:env.frame=U L)(h:b∈bq (env::outer)):b=L∨b∈bq outer:=by unfold bq at h;rw[agh,hf] at h;exact ae2.mp h
theorem kW:Iz (f7 (ed P w) P w K mg base N qual scope f cd A outer s H E) E:=by
 intro pins J H1 s1 e C vs h1 I hx hE;have uK:(f7 (ed P w) P w K mg base N qual scope f cd A outer s H E).A.frames=U (agJ qual scope s.heap.objs.size f cd::outer):=I.ok.frames;have hF:s1.heap.FunFrames base (agJ qual scope s.heap.objs.size f cd::outer):=I.stack;have bL:∀ env∈(agJ qual scope s.heap.objs.size f cd::outer),∀ b,env.frame=U b->b∈bq (agJ qual scope s.heap.objs.size f cd::outer):=λenv he b hb=>ajf.mpr #[env,he,hb];have Sj:∀ b∈bq (agJ qual scope s.heap.objs.size f cd::outer),H1 b=O:=I.t8;have rk:∀ b o,s.heap.get? b=U o->b≠s.heap.objs.size:=λb o e=>afa (aeU e);have lW:∀ b o,s.heap.get? b=U o->b∉bq outer->b∉bq (agJ qual scope s.heap.objs.size f cd::outer):=λb o e hb z=>by
  rcases IA rfl z with z|z
  .exact rk b o e z
  .exact hb z
 have ub:Un (bq outer) [] H H1 s.heap s1.heap:=I.base;refine wpAny_leaves_madeW (base:=akj s1.heap (bq (agJ qual scope s.heap.objs.size f cd::outer))) uK Y (λb o q=>ak6 _ q) (PySem.W.funFrames_hide hF bL) hx λh' t fl tup bt up=>?_;have stays:=fl.1;have rJ:∀ b o,s1.heap.get? b=U o->b∉bq (agJ qual scope s.heap.objs.size f cd::outer)->(akj s1.heap (bq (agJ qual scope s.heap.objs.size f cd::outer))).get? b=U o:=λb o q hb=>akW _ q hb;have nJ:∀ b∈bq (agJ qual scope s.heap.objs.size f cd::outer),∀ o,s1.heap.get? b=U o->∃ sl,h'.get? b=U { o with slots:=sl }:=λb hb o q=>by obtain⟨y,o',di,hnf⟩:=hF.mem hb;rw[q] at di;cases di;exact up b o (hx.keeps b o q) hnf
 refine#[e,.ref C,.ref t,H1,_,Y,I.os,I.bare,#[λb o q n hb cZ=>?_,λb o q n hb cZ=>?_,ub.free,λb o q cZ=>?_,ub.iB,ub.gE,ub.iC],λb o q n hb=>?_,λb o q hb=>?_,λa o q=>?_,?_,?_,fl,hE]
 .exact stays b o (rJ b o (ub.keep b o q n hb cZ) (lW b o q hb))
 .obtain⟨sl,e1⟩:=ub.slot b o q n hb cZ;obtain⟨fX,e2⟩:=nJ b (by unfold bq;rw[agh];exact afJ _ hb) _ e1;exact#[fX,e2]
 .obtain⟨o',e1⟩:=ub.there b o q cZ;by_cases hb:b∈bq (agJ qual scope s.heap.objs.size f cd::outer)
  .obtain⟨sl,e2⟩:=nJ b hb o' e1;exact#[_,e2]
  .exact#[o',stays b o' (rJ b o' e1 hb)]
 .exact rJ b o (ub.keep b o q n hb (by simp)) (lW b o q hb)
 .obtain⟨o',e1⟩:=ub.there b o q (by simp);exact#[o',rJ b o' e1 (lW b o q hb)]
 .refine (I.aB a o q).ju (λb u hb z=>rJ b u z λhm=>?_) (λy z=>z) λy y z=>z;have:=Sj b hm;rcases hb with hb|hb
  .rw[hb,q] at this;cases this
  .rw[hb] at this;cases this
 .cases q:H1 e with
  | none=>rfl
  | some u =>
   obtain⟨ob,z⟩:=b9.some (I.aB e u q);rw[hx.new] at z;cases z
 .cases q:s.heap.get? e with
  | none=>rfl
  | some u =>
   obtain⟨o',z⟩:=ub.there e u q (by simp);rw[hx.new] at z;cases z
theorem jc:Passes (ed P w) (f7 (ed P w) P w K mg base N qual scope f cd A outer s H E) E:=by
 intro pins J H1 s1 ev s2 I cx;obtain⟨x,cls,a0,H',B,rfl,os,bare,un,kb,tb,aB,hx,hn,fl,hE⟩:=cx;have uK:(f7 (ed P w) P w K mg base N qual scope f cd A outer s H E).A.frames=U (agJ qual scope s.heap.objs.size f cd::outer):=I.ok.frames;have hF:s1.heap.FunFrames base (agJ qual scope s.heap.objs.size f cd::outer):=I.stack;have rk:∀ b o,s.heap.get? b=U o->b≠s.heap.objs.size:=λb o e=>afa (aeU e);have lW:∀ b o,s.heap.get? b=U o->b∉bq outer->b∉bq (agJ qual scope s.heap.objs.size f cd::outer):=λb o e hb z=>by
  rcases IA rfl z with z|z
  .exact rk b o e z
  .exact hb z
 have Sk:∀ b,b∈bq outer->b∈bq (agJ qual scope s.heap.objs.size f cd::outer):=λb hb=>by unfold bq;rw[agh];exact afJ _ hb
 have ub:Un (bq outer) [] H H1 s.heap s1.heap:=I.base;have IB:Un (bq (agJ qual scope s.heap.objs.size f cd::outer)) [] H1 H' s1.heap s2.heap:=un;have IC:∀ b o,s1.heap.get? b=U o->H1 b=O->b∉bq (agJ qual scope s.heap.objs.size f cd::outer)->B.get? b=U o:=kb;have cA:∀ b o,s1.heap.get? b=U o->b∉bq (agJ qual scope s.heap.objs.size f cd::outer)->∃ o',B.get? b=U o':=tb;have Bv:∀ b∈bq (agJ qual scope s.heap.objs.size f cd::outer),H1 b=O:=I.t8;refine wpAny_leaves_onW uK Y fl λh' xX up=>?_;have stays:=xX.1;have nJ:∀ b∈bq (agJ qual scope s.heap.objs.size f cd::outer),∀ o,s1.heap.get? b=U o->∃ sl,h'.get? b=U { o with slots:=sl }:=λb hb o q=>by obtain⟨y,o',di,hnf⟩:=hF.mem hb;rw[q] at di;cases di;obtain⟨sl,e1⟩:=IB.slot b o q (Bv b hb) hb (by simp);obtain⟨fX,e2⟩:=up b _ e1 hnf;exact#[fX,e2]
 refine#[x,cls,a0,H',B,Y,os.trans I.os,bare,#[λb o q n hb cZ=>?_,λb o q n hb cZ=>?_,λb o q n cZ=>?_,λb o q cZ=>?_,λb xs q=>un.iB _ _ (ub.iB _ _ q),λb o u q=>un.gE _ _ _ (ub.gE _ _ _ q),λb ps q=>?_],λb o q n hb=>?_,λb o q hb=>?_,aB,hx,?_,xX,hE]
 .exact stays b o (IC b o (ub.keep b o q n hb cZ) (ub.free b o q n cZ) (lW b o q hb))
 .obtain⟨sl,e1⟩:=ub.slot b o q n hb cZ;obtain⟨fX,e2⟩:=nJ b (Sk b hb) _ e1;exact#[fX,e2]
 .obtain⟨o',e1⟩:=ub.there b o q cZ;exact IB.free b o' e1 (ub.free b o q n cZ) (by simp)
 .obtain⟨o',e1⟩:=ub.there b o q cZ;by_cases hb:b∈bq (agJ qual scope s.heap.objs.size f cd::outer)
  .obtain⟨sl,e2⟩:=nJ b hb o' e1;exact#[_,e2]
  .obtain⟨o2,e2⟩:=cA b o' e1 hb;exact#[o2,stays b o2 e2]
 .obtain⟨m1,e1⟩:=ub.iC b ps q;obtain⟨m2,e2⟩:=un.iC b _ e1;exact#[m1++m2,by rw[e2,ak7]]
 .exact IC b o (ub.keep b o q n hb (by simp)) (ub.free b o q n (by simp)) (lW b o q hb)
 .obtain⟨o',e1⟩:=ub.there b o q (by simp);exact cA b o' e1 (lW b o q hb)
 .cases q:s.heap.get? x with
  | none=>rfl
  | some u =>
   obtain⟨o',z⟩:=ub.there x u q (by simp);rw[hn] at z;cases z
theorem nK{x qual:Str}{st:ajO}{f:ae0}{fd:ahI}{N ps:List Str}{k:Nat}{sp:Sp}(F:pd K x qual st f fd)(S:ux N ps (eW st))(len:∀ vs H Q E,sp vs H Q E->vs.length=ps.length)
 (i5:∀ (bf:aeX) (A:agD) (outer:List Env) (s:ae4) (H:Hp) (vs:List V) (Q:VK) (E:XK),bc k (A.deeper (agJ qual (eW st) s.heap.objs.size f bf))->sp vs H Q E ->
   ∃ t,aS (f7 (ed P w) P w K mg base N qual (eW st) f bf A outer s H E) (jE st) t/\t { nx:=λy H'=>Q .non H',rt:=Q } (start N vs) H):d9 P w K mg base (ed P w) (k+1) f fd ps sp:=by
 obtain⟨oc,od,kV,doc,pm,an,bf,ct,kQ,rfl,lk,ia⟩:=F.ex;refine HD lk ia S len λA outer s H vs Q E hr jD=>?_;exact i5 bf A outer s H vs Q E hr jD
end
noncomputable abbrev Xp(X:Cx)(F:aeX->ae4->Prop)(pn:List (ae0 × Obj)):Cx:={ X with xe:=F,pn:=pn }
noncomputable abbrev Xh(X:Cx)(A':agD)(pn:List (ae0 × Obj)):Cx:={ X with A:=A',calm:=false,xe:=λy y=>False,pn:=pn }
section
theorem Sl(ok:X.Ok):(Xp X F pn).Ok:=#[ok.mod,ok.kind,ok.glob,ok.blt,ok.above,ok.inj,ok.has,ok.cab,ok.hd,ok.frames,ok.stk,ok.exf,ok.bs,ok.bsz,ok.noex,ok.exfs,ok.hV,ok.frf]
theorem ID(ok:(Xp X F pn).Ok):X.Ok:=#[ok.mod,ok.kind,ok.glob,ok.blt,ok.above,ok.inj,ok.has,ok.cab,ok.hd,ok.frames,ok.stk,ok.exf,ok.bs,ok.bsz,ok.noex,ok.exfs,ok.hV,ok.frf]
theorem Sm(ok:X.Ok)(hA:A'.frames=X.A.frames):(Xh X A' pn).Ok:=#[ok.mod,ok.kind,ok.glob,ok.blt,ok.above,ok.inj,ok.has,ok.cab,(λz=>nomatch z),hA.trans ok.frames,ok.stk,ok.exf,ok.bs,ok.bsz,ok.noex,ok.exfs,ok.hV,ok.frf]
theorem Sn(I:Inv X pins J H s):Inv (Xp X F (X.pn++pins)) [] J H s:=#[Sl I.ok,I.os,I.bare,I.base,I.loc,I.cell,I.free,I.gF,λp hp=>I.pin p (by simpa using hp),I.aB,I.len]
theorem xY(I:Inv (Xp X F (X.pn++pins)) [] J H s):Inv X pins J H s:=#[ID I.ok,I.os,I.bare,I.base,I.loc,I.cell,I.free,I.gF,λp hp=>I.pin p (by simpa using hp),I.aB,I.len]
theorem IE(I:Inv (Xp X F pn) AS J H s)(hA:A'.frames=X.A.frames):Inv (Xh X A' pn) [] J H s :=
 #[Sm (ID I.ok) hA,I.os,I.bare,I.base,I.loc,I.cell,I.free,I.gF,λp hp=>I.pin p (by simp at hp;exact agL _ hp),I.aB,I.len]
theorem SP.So(h:SP (Xp X F (X.pn++pins)) [] D f s'):SP X pins D f s':=by
 cases f with
 | next=>obtain⟨σ',H',I,q⟩:=h;exact#[σ',H',xY I,q]
 | brk=>obtain⟨σ',H',I,q⟩:=h;exact#[σ',H',xY I,q]
 | cont=>obtain⟨σ',H',I,q⟩:=h;exact#[σ',H',xY I,q]
 | ret u=>obtain⟨v,σ',H',I,r,q⟩:=h;exact#[v,σ',H',xY I,r,q]
end
theorem Sq{K:aeN}{C G:ae0}{cd:ClassData}{b:Bool}(h1:alf K G=U cd)(h2:ajo K (.ref G)=U (.type "type"))(h3:ah8 K (.ref C) (.ref G)=U b)(h4:ah8 K (.ref G) (.type "BaseException")=U true) :
 ajq K (.ref C) (.ref G)=U b:=by
 unfold ajq;rw[if_pos (by rw[h4];rfl)];show (if ((alf K G).isSome && ajo K (.ref G) == U (.type "type"))=true then ah8 K (.ref C) (.ref G) else O)=U b;rw[if_pos (by rw[h1,h2];rfl)];exact h3
inductive jF(X:Cx)(scope:akI)(cl:List (Str × ae0)):List Nat->List Str->Prop where
 | nil:jF X scope cl [] []
 | cons {j:Nat} {y:Str} {c:ae0} {js:List Nat} {ys:List Str} (hN:X.N[j]?=U y) (hk:X.env.kindOf y=U .cell) (h1:cl.lookup y=U c) (h2:X.env.cells.lookup y=U c) (h:jF X scope cl js ys):jF X scope cl (j::js) (y::ys)
inductive kX(X:Cx):List (Str × ae0)->Prop where
 | nil:kX X []
 | cons {n:Str} {a:ae0} {r:List (Str × ae0)} (h:X.env.cells.lookup n=U a) (t:kX X r):kX X ((n,a)::r)
theorem kX.get:∀ {cl:List (Str × ae0)},kX X cl->∀ y c,cl.lookup y=U c->X.env.cells.lookup y=U c:=by
 intro z h y c
 induction h with
 | nil=>intro e;cases e
 | @cons n _ _ h t ih =>
  intro e;rw[List.lookup_cons] at e;by_cases hy:(y == n)=true
  .rw[hy] at e;have e1:y=n:=by simpa using hy
   cases e;rw[e1];exact h
  .rw[alF.mpr hy] at e;exact ih e
theorem jF.get{X:Cx}{scope:akI}{cl:List (Str × ae0)}{J:L2.St}:∀ {js:List Nat} {ys:List Str},jF X scope cl js ys->∀ (i:Nat) (y:Str) (v:V),ys[i]?=U y->(js.map λj=>(J[j]?).join)[i]?=U (U v) ->
 ∃ (j:Nat) (c:ae0),X.N[j]?=U y/\J[j]?=U (U v)/\X.env.kindOf y=U .cell/\cl.lookup y=U c/\X.env.cells.lookup y=U c:=by
 intro js ys h
 induction h with
 | nil=>intro i y v e;cases e
 | cons hN hk h1 h2 h ih =>
  rename_i j _ _ _ _;intro i y v e q;cases i with
  | zero =>
   cases e;refine#[j,_,hN,?_,hk,h1,h2];cases z:J[j]? with
   | none=>rw[ae7,z] at q;cases q
   | some o=>rw[ae7,z] at q;cases q;rfl
  | succ i=>exact ih i y v e q
theorem jF.len:∀ {js:List Nat} {ys:List Str},jF X scope cl js ys->js.length=ys.length:=by
 intro y y h
 induction h with
 | nil=>rfl
 | cons _ _ _ _ _ ih=>exact congrArg (· + 1) ih
noncomputable def eY(X:Cx)(N':List Str)(scope:akI)(cl:List (Str × ae0))(C:ae0)(s2:ae4)(H2:Hp)(ex:List ae0)(pn:List (ae0 × Obj)):Cx :=
 { X with N:=N',s₀:=s2,H₀:=H2,env:=am2 scope cl C X.env,outer:=X.stack,ex:=ex,fn:=λy=>false,pn:=pn,xe:=λy y=>False }
structure pf(X:Cx)(x:Str)(scope:akI)(cl:List (Str × ae0))(fr:List Nat)(ys:List Str):Prop where
 clos:amU scope X.env=pure cl
 nocell:(scope.names.all λp=>p.2 != .cell)=true
 kind:scope.kind = .function
 names:(scope.names.all λp=>p.2 != .local || scope.names.lookup p.1 == U .local)=true
 own:scope.names.lookup x=U .local
 kinds:((relabel scope X.env).names.all λp=>(p.2 != .cell && p.2 != .free) || (cl.lookup p.1).isSome)=true
 cls:kX X cl
 bq:jF X scope cl fr ys
 nd:(x::ys).Nodup
 kfr:(ys.all λy=>(relabel scope X.env).names.lookup y == U .cell)=true
def mj(X:Cx)(ifs:List aiF)(t:TT):Prop :=
 ∀ (pins:List (ae0 × Obj)) (s:ae4) (J:L2.St) (H:Hp) (Q:Bool->Hp->Prop),Inv X pins J H s->t J H Q ->
  afe (model X.prog X.w) X.A (forIn ifs true λc r=>if r=true then do let ok <- anf c X.env (eval c X.env);pure (aiY ok) else pure (aiY r)) (TP X pins J Q) X.xe s
def Bw:TT:=λy H Q=>Q true H
theorem df:mj X [] Bw:=λy y y H y I h=>wpAny_tests_nil #[H,I,h]
theorem jG(hc:PT X c t):mj X [c] t:=λpins s J H Q I h=>wpAny_tests_one (hc pins s J H Q I h)
def nM(J9q:It)(ρ:L2.St)(tt:TT)(te:TE)(H:Hp)(Q:VK):Prop:=∃ W:Nat->Nat->List V->Hp->Prop,(∃ m,W 0 m [] H)/\∀ i m ys H,W i m ys H ->
 (J9q.stop i H/\ys.length<=afl/\∀ l,H l=O->Q (.ref l) (upd H l (.lst ys)))∨(J9q.go i H/\ys.length<afl/\∃ N:List V->Hp->Prop,(∀ zs H',N zs H'->∃ m',m'<m/\W (i+1) m' zs H') /\
  ∀ x H',J9q.yld i H x H'->tt (U x::ρ) H' λb H1=>if b=true then te (U x::ρ) H1 λy H2=>N (ys++[y]) H2 else N ys H1)
def Bx(wi:TI)(fr:List Nat)(tt:TT)(te:TE):TE:=λJ H Q=>wi J H λJ9q H1=>nM J9q (fr.map λj=>(J[j]?).join) tt te H1 Q
structure kY(X:Cx)(own:List Str)(scope:akI)(cl:List (Str × ae0))(fr:List Nat)(ys:List Str):Prop where
 clos:amU scope X.env=pure cl
 nocell:(scope.names.all λp=>p.2 != .cell)=true
 kind:scope.kind = .function
 names:(scope.names.all λp=>p.2 != .local || scope.names.lookup p.1 == U .local)=true
 kinds:((relabel scope X.env).names.all λp=>(p.2 != .cell && p.2 != .free) || (cl.lookup p.1).isSome)=true
 cls:kX X cl
 bq:jF X scope cl fr ys
 kfr:(ys.all λy=>(relabel scope X.env).names.lookup y == U .cell)=true
def j7(k:Nat)(J9q:It)(g:TG)(ρ:L2.St)(tt:TT)(te:TE)(H:Hp)(Q:VK):Prop:=∃ W:Nat->Nat->List V->Hp->Prop,(∃ m,W 0 m [] H)/\∀ i m ys H,W i m ys H ->
 (J9q.stop i H/\ys.length<=afl/\∀ l,H l=O->Q (.ref l) (upd H l (.lst ys)))∨(J9q.go i H/\ys.length<afl/\∃ N:List V->Hp->Prop,(∀ zs H',N zs H'->∃ m',m'<m/\W (i+1) m' zs H') /\
  ∀ os:List (Option V),os.length=k->∀ x H',J9q.yld i H x H'->g x (os++ρ) H' λσ2 H2=>∃ rC,rC.length=k/\σ2=rC++ρ/\tt σ2 H2 λb H1=>if b=true then te σ2 H1 λy H2=>N (ys++[y]) H2 else N ys H1)
def IF(k:Nat)(wi:TI)(g:TG)(fr:List Nat)(tt:TT)(te:TE):TE:=λJ H Q=>wi J H λJ9q H1=>j7 k J9q g (fr.map λj=>(J[j]?).join) tt te H1 Q
theorem Sr(I:Nat->ae4->Prop)(turn:∀ n s,I n s->afe (model prog w) A (ahN it) (λr s₁=>match r with
 | none=>R (.ok .next) s₁
 | some v=>afe (model prog w) A (aiT target it v) (λ_ IG=>afe (model prog w) A (assign target env v) (λ_ s₂ =>
  afe (model prog w) A (forIn ifs true λc r=>if r=true then do let ok <- anf c env (eval c env);pure (aiY ok) else pure (aiY r)) (λok s₃ =>
   if ok=true then afe (model prog w) A (eval elt env) (λx s₄ =>
    afe (model prog w) A (call (.builtin "list.append") [acc,x]) (λ_ s₅=>∃ m,m<n/\I m s₅) (amj (model prog w) A env λe s'=>R (.error e) s') s₄) (amj (model prog w) A env λe s'=>R (.error e) s') s₃
   else ∃ m,m<n/\I m s₃) (amj (model prog w) A env λe s'=>R (.error e) s') s₂) (amj (model prog w) A env λe s'=>R (.error e) s') IG) (amj (model prog w) A env λe s'=>R (.error e) s') s₁) (amj (model prog w) A env λe s'=>R (.error e) s') s) (n:Nat) (h:I n s) :
 ahY (model prog w) A (.compLoop (.ListComp elt [#[target,iter,ifs,0]] scope pos) 0 it acc env) R s:=by
 refine codeAny_loop Y I (λn s hI=>?_) n h;show afe _ A ((compTurn (.ListComp elt [#[target,iter,ifs,0]] scope pos) 0 it acc env).onRaise (λx=>do noteFrame x env;theTreesLotGoes x)) _ _ s;refine wpAny_noted ?_;rw[compTurn_list];refine aeM (ak9 (aeM (age (turn n s hI) (λr s₁ h₁=>?_) λ_ _ h'=>h')));cases r with
 | none=>exact aeR h₁
 | some v =>
  refine aeM (age h₁ (λ_ IG Ss=>?_) λ_ _ h'=>h');refine aeM (age Ss (λ_ s₂ h₂=>aeM (age h₂ (λok s₃ h₃=>?_) λ_ _ h'=>h')) λ_ _ h'=>h');cases ok with
  | false=>exact aeR #[Y,h₃]
  | true =>
   exact aeM (aeM (age h₃ (λx s₄ h₄=>aeM (age h₄ (λ_ s₅ h₅=>aeR (aeR #[Y,h₅])) λ_ _ h'=>h')) λ_ _ h'=>h'))
theorem IH{l:List (Str × akF)}{p:Str × akF->Bool}(h:l.all p=true){y:Str}{k:akF}(e:l.lookup y=U k):p (y,k)=true:=by exact afT.mp h _ (agR e)
def By(i:Nat)(te:TE):TS:=λD J H=>te J H λv H1=>D.nx (J.set i (U v)) H1
section
theorem Su(S:kY X own scope cl fr ys)(I2:Inv X pins J H2 s2)(f2:∀ b∈ex,fk X pins H2 b)(hC:s2.heap.objs.size<=C)(hex:∀ b∈ex,b<s2.heap.objs.size):(eY X (own++ys) scope cl C s2 H2 ex pn).Ok:=by
 refine#[I2.ok.mod,S.kind,I2.ok.glob,I2.ok.blt,hC,λa b c h1 h2=>?_,λy hy=>?_,λv v z=>(nomatch z),I2.ok.hd,I2.ok.frames,.inl rfl,λb hb=>#[?_,λy c e z=>?_],I2.bs,aeT I2.ok.bsz I2.sz,λb o e hb=>?_,λb hb z=>?_,I2.stack,I2.t8]
 .exact I2.ok.inj a b c (S.cls.get a c h1) (S.cls.get b c h2)
 .have Sv:(relabel scope X.env).names.lookup y=U .cell∨(relabel scope X.env).names.lookup y=U .free:=hy;have q:(cl.lookup y).isSome=true:=by
   rcases Sv with e|e
   .simpa using IH S.kinds e
   .simpa using IH S.kinds e
  exact ah3.mp q
 .exact afa (afm (hex b hb) hC)
 .exact (f2 b hb).2.2.2.2.1 y c (S.cls.get y c e) z
 .obtain⟨v,v,v,d,v,v⟩:=f2 b hb;rcases d with d|d
  .exact I2.ok.noex b o e d
  .exact absurd (afm (aeU e) (aeT I2.ok.bsz d)) (agk _)
 .obtain⟨v,d1,d2,v⟩:=f2 b hb;rcases ae2.mp (I2.rj b z) with q|q
  .exact d1 q
  .exact d2 q
noncomputable def j8(X:Cx)(N':List Str)(fn:Str->Bool)(scope:akI)(cl:List (Str × ae0))(C:ae0)(s2:ae4)(H2:Hp)(ex:List ae0)(pn:List (ae0 × Obj)):Cx :=
 { X with N:=N',s₀:=s2,H₀:=H2,env:=am2 scope cl C X.env,outer:=X.stack,ex:=ex,fn:=fn,pn:=pn,xe:=λy y=>False }
theorem II{C D:ae0}{fp:List ae0}(I2:Inv X pins J H2 s2)(f2:∀ b∈fp,fk X pins H2 b)(hC:s2.heap.objs.size<=C)(hD:s2.heap.objs.size<=D):∀ p∈X.pn++pins,p.1≠C/\p.1≠D/\p.1∉bq X.stack/\∀ b∈fp,p.1≠b:=λp hp=>by
 obtain⟨e,n,nL,nf,y⟩:=I2.pin p hp;have lt:=aeU e;refine#[by walk_at "o",by walk_at "o",λz=>?_,λb hb=>(f2 b hb).2.2.2.2.2 p hp];rcases ae2.mp (I2.rj _ z) with q|q
 .exact nL q
 .exact nf q
theorem Sw{J9q:It}{fp:List ae0}{it C D:ae0}{tn:Nat->ag3->Prop}{Q:VK}{RR:aeX->ae0->alQ->ae4->Prop}{nm:List Str}{fn:Str->Bool}{k:Nat}{Bz ρ:List (Option V)}{h1:ag3}{tk:Nat}
 (hc:X.calm=true) (hg:PG (j8 X nm fn scope cl C s2 H2 fp (X.pn++pins)) tg g) (hb:mj (j8 X nm fn scope cl C s2 H2 fp (X.pn++pins)) ifs tt/\PE (j8 X nm fn scope cl C s2 H2 fp (X.pn++pins)) elt te)
 (I2:Inv X pins J H2 s2) (T:Turn X.prog X.w X.K tg J9q fp it tn) (i3:tn 0 s2.heap) (f2:∀ b∈fp,fk X pins H2 b)
 (h:j7 k J9q g ρ tt te H2 Q)
 (BA:∀ D C s' H',Inv X pins J H' s'->(∃ m,s'.heap.Ns C m)->fk X pins H' C->Q (.ref D) H'->RR (.ref D) C (.ok .next) s')
 (i6:Bz.length=k) (I4:Inv (j8 X nm fn scope cl C s2 H2 fp (X.pn++pins)) [] (Bz++ρ) H2 { s2 with heap:=h1,toks:=tk }) (keep:∀ b o,s2.heap.get? b=U o->h1.get? b=U o)
 (hD:h1.get? D=U { cls:=.type "list",data:=.seq ([]:List aeX).toArray 0 }) (eD:s2.heap.objs.size=D) (eC:s2.heap.objs.size+1=C)
 (bw:∀ y c,cl.lookup y=U c->c≠D/\∀ b∈fp,c≠b) :
 ahY (model X.prog X.w) X.A (.compStart (.ListComp elt [#[tg,iter,ifs,0]] scope pos) 0 (.ref it) (.ref D) (am2 scope cl C X.env)) (RR (.ref D) C) { s2 with heap:=h1,toks:=tk }:=by
 obtain⟨W,⟨m0,w0⟩,turn⟩:=h;have ph:D≠C:=by walk_at "o"
 have rK:s2.heap.objs.size<=C:=by walk_at "o"
 have uL:s2.heap.objs.size<=D:=by walk_at "o"
 have pq:∀ b∈fp,b<D:=λb hb=>by obtain⟨o,e,_⟩:=T.obj 0 _ i3 b hb;exact eD ▸ aeU e
 have Sx:∀ b,D<=b->b∉bq X.stack:=λb hle z=>by
  rcases ae2.mp (I2.rj b z) with q|q
  .have:=I2.lt;walk_at "o"
  .exact I2.GK (eD ▸ hle) q
 have BC:=II I2 f2 rK uL;have IJ:tn 0 h1:=T.keep 0 _ _ i3 λb _ o e=>keep b o e;have BD:∀ (H':Hp) (o:Obj),(∀ b∈fp,H' b=O)->∀ b∈fp,fk (j8 X nm fn scope cl C s2 H2 fp (X.pn++pins)) [(D,o)] H' b:=λH' o hn b hb=>by
  obtain⟨_,d1,d2,d3,d4,d5⟩:=f2 b hb;have lt:=pq b hb;refine#[hn b hb,?_,λz=>?_,.inl hb,λy c e z=>(bw y c e).2 b hb z,λp hp=>?_]
  .show b≠C;walk_at "o"
  .rcases ae2.mp (I2.rj b z) with q|q
   .exact d1 q
   .exact d2 q
  .have eK:p∈(X.pn++pins)++[(D,o)]:=hp;rcases afq.mp eK with z|z
   .exact d5 p z
   .have:p=(D,o):=by simpa using z
    subst this;show D≠b;walk_at "o"
 have loop:∀ s':ae4,s' = { s2 with heap:=h1,toks:=tk } ->
  ahY (model X.prog X.w) X.A (.compLoop (.ListComp elt [#[tg,iter,ifs,0]] scope pos) 0 (.ref it) (.ref D) (am2 scope cl C X.env)) (RR (.ref D) C) s':=by
  rintro s' rfl;refine Sr (λn s'=>∃ i zs H' os aw nn,os.length=k/\Inv (j8 X nm fn scope cl C s2 H2 fp (X.pn++pins)) [] (os++ρ) H' s'/\tn i s'.heap/\(∀ b∈fp,H' b=O)/\H' D=O /\
   s'.heap.get? D=U { cls:=.type "list",data:=.seq (aw:List aeX).toArray nn }/\Vals zs aw/\W i n zs H') ?_ m0 #[0,[],H2,Bz,[],0,i6,I4,IJ,λb hb=>(f2 b hb).1,I2.aB.fresh uL,hD,.nil,w0]
  rintro n s3 ⟨i,zs,H3,IK,aw,nn,Sy,I3,um,uo,BE,Sz,r3,w3⟩;have IL:Inv (j8 X nm fn scope cl C s2 H2 fp (X.pn++pins)) [(D,{ cls:=.type "list",data:=.seq aw.toArray nn })] (IK++ρ) H3 s3:=I3.ue λp hp=>by
   have:p=(D,{ cls:=.type "list",data:=.seq aw.toArray nn }):=by simpa using hp
   subst this;exact#[Sz,BE,ph,Sx D (aeV _),λv z=>nomatch z]
  rcases turn i n zs H3 w3 with ⟨stop,hlen,q⟩|⟨go,hlen,N,IM,step⟩
  .refine age (T.done (j8 X nm fn scope cl C s2 H2 fp (X.pn++pins)) Y Y Y hc i _ s3 _ H3 (λ_ _=>False) IL (BD H3 _ uo) um stop) (λr s4 zq=>?_) λ_ _ z=>z.elim;obtain⟨hr,J4⟩:=zq;subst hr;have un:=J4.base;have SA:∀ b o,s2.heap.get? b=U o->b≠D:=λb o e=>by have:=aeU e;walk_at "o"
   have mn:∀ b u,H3 b=U u->b≠D:=λb u e z=>by rw[z,BE] at e;cases e
   refine BA D C s4 (upd H3 D (.lst zs)) ?_ ?_ ?_ (q D BE)
   .refine I2.AV (ch:=fp) J4.os #[un.keep,un.slot,λb o e nn hx=>?_,un.there,λb xs e=>?_,λb o u e=>?_,λb ps e=>?_] (λa o e=>?_) J4.bare λb hb=>?_
    .rw[aI (SA b o e)];exact un.free b o e nn hx
    .have:=un.iB b xs e;rw[aI (mn b _ this)];exact this
    .have:=un.gE b o u e;rw[aI (mn b _ this)];exact this
    .obtain⟨more,this⟩:=un.iC b ps e;exact#[more,by rw[aI (mn b _ this)];exact this]
    .by_cases ha:a=D
     .subst ha;rw[ar] at e;cases e;exact#[hlen,aw,nn,r3,(J4.pin (a,_) (afs _ (afd.mpr Y))).1]
     .rw[aI ha] at e;exact (J4.aB a o e).ju (λ_ _ _ z=>z) (λb z=>by rw[aI (mn b _ z)];exact z) λb xs z=>by rw[aI (mn b _ z)];exact z
    .obtain⟨_,d1,d2,d3,d4,d5⟩:=f2 b hb;exact#[d3,d1,d4,d5]
   .obtain⟨m,hm,_⟩:=J4.loc;exact#[m,hm]
   .exact I2.jx rK (by rw[aI (afR ph)];exact J4.free)
  .refine age (T.item (j8 X nm fn scope cl C s2 H2 fp (X.pn++pins)) Y Y Y hc i _ s3 _ H3 (λ_ _=>False) IL (BD H3 _ uo) um go) (λr s4 zq=>?_) λ_ _ z=>z.elim;obtain⟨u,hr,h4⟩:=zq;subst hr;refine age h4 (λ_ s5 zq=>?_) λ_ _ z=>z.elim;obtain⟨y5,H5,I5,r5,yl,oX,A7⟩:=zq;have A8:=I5.pinned (BD H5 _ A7) (T.obj _ _ oX);refine age (hg _ s5 _ H5 y5 u _ A8 r5 (step IK Sy y5 H5 yl)) (λ_ s6 zq=>?_) λ_ _ z=>z.elim;obtain⟨σ6,H6,I6,xZ,IP,e6,q6⟩:=zq;subst e6;have after:∀ (s7:ae4) (H7:Hp),Inv (j8 X nm fn scope cl C s2 H2 fp (X.pn++pins)) ([(D,{ cls:=.type "list",data:=.seq aw.toArray nn })]++uk fp s5.heap) (xZ++ρ) H7 s7 ->
    Inv (j8 X nm fn scope cl C s2 H2 fp (X.pn++pins)) [] (xZ++ρ) H7 s7/\tn (i+1) s7.heap/\(∀ b∈fp,H7 b=O)/\H7 D=O/\s7.heap.get? D=U { cls:=.type "list",data:=.seq aw.toArray nn }:=λs7 H7 I7=>by
    have pD:=I7.pin (D,{ cls:=.type "list",data:=.seq aw.toArray nn }) (afs _ (agL _ (afd.mpr Y)));refine#[I7.ue λp hp=>absurd hp (by simp),T.keep _ _ _ oX λb hb o e=>(I7.pin (b,o) (afs _ (afs _ (xB hb e)))).1,λb hb=>?_,pD.2.1,pD.1];obtain⟨o,e,_⟩:=T.obj _ _ oX b hb;exact (I7.pin (b,o) (afs _ (afs _ (xB hb e)))).2.1
   refine age (hb.1 _ s6 _ H6 _ I6 q6) (λok s7 zq=>?_) λ_ _ z=>z.elim;obtain⟨H7,I7,q7⟩:=zq
   try dsimp only at q7
   by_cases aB:ok=true
   .rw[if_pos aB] at q7 ⊢;refine age (hb.2 _ s7 _ H7 _ I7 q7) (λyv s8 zq=>?_) λ_ _ z=>z.elim;obtain⟨y8,H8,I8,r8,n8⟩:=zq;obtain⟨m',BF,w8⟩:=IM _ _ n8;obtain⟨J8,SD,SE,IQ,BG⟩:=after s8 H8 I8;have hl:=r3.length;refine alD ale #[_,BG,Y] akZ (akL _ _) (alE D aw.toArray nn yv (by rw[ae3];walk_at "o")) #[BG,?_];have IS:=PySem.IsL.update BG (λa=>a.push yv);rw[List.push_toArray] at IS;refine#[m',BF,i+1,zs++[y8],H8,xZ,aw++[yv],_,IP,J8.turned (it:=D) (λb o c6 e=>(aff _ _ (afR c6)).trans e) IQ ph (.inr uL) (λy c e z=>?_) (λp hp=>?_),T.keep _ _ _ SD λb c6 o e=>?_,SE,IQ,IS,r3.append (.cons r8 .nil),w8]
    .exact (bw y c e).1 z
    .have eK:p∈X.pn++pins:=by have:p∈(X.pn++pins)++[]:=hp;simpa using this
     exact (BC p eK).2.1
    .have:=pq b c6;exact (aff _ _ (by walk_at "o")).trans e
   .rw[if_neg aB] at q7 ⊢;obtain⟨m',BF,w7⟩:=IM _ _ q7;obtain⟨J7,SF,SG,SH,SJ⟩:=after s7 H7 I7;exact#[m',BF,i+1,zs,H7,xZ,aw,nn,IP,J7,SF,SG,SH,SJ,r3,w7]
 exact codeAny_compStart_list (loop _ Y) (T.self X.A 0 _ _ _ IJ (loop _ Y))
theorem IT{J9q:It}{fp:List ae0}{it:ae0}{tn:Nat->ag3->Prop}{E:aeX->ae4->Prop}{Q:VK}{RR:aeX->ae0->alQ->ae4->Prop}
 (S:kY X own scope cl fr ys) (hc:X.calm=true) (hg:∀ (C:ae0) (s:ae4) (H:Hp) (ex:List ae0) (pn:List (ae0 × Obj)),PG (eY X (own++ys) scope cl C s H ex pn) tg g)
 (hb:∀ (C:ae0) (s:ae4) (H:Hp) (ex:List ae0) (pn:List (ae0 × Obj)),mj (eY X (own++ys) scope cl C s H ex pn) ifs tt/\PE (eY X (own++ys) scope cl C s H ex pn) elt te)
 (I2:Inv X pins J H2 s2) (T:Turn X.prog X.w X.K tg J9q fp it tn) (i3:tn 0 s2.heap) (f2:∀ b∈fp,fk X pins H2 b)
 (h:j7 own.length J9q g (fr.map λj=>(J[j]?).join) tt te H2 Q)
 (BA:∀ D C s' H',Inv X pins J H' s'->(∃ m,s'.heap.Ns C m)->fk X pins H' C->Q (.ref D) H'->RR (.ref D) C (.ok .next) s') :
 afe (model X.prog X.w) X.A (anz []) (λacc s3=>afe (model X.prog X.w) X.A (newFunctionEnv scope X.env.globals cl [] X.env.qual O .none (U X.env)) (λIU s4 =>
  ahY (model X.prog X.w) X.A (.compStart (.ListComp elt [#[tg,iter,ifs,0]] scope pos) 0 (.ref it) acc { IU with scope:=relabel scope X.env }) (RR acc IU.locals) s4) E s3) E s2:=by
 refine afI (wpAny_newFunctionEnv (λy hy=>by simpa using afT.mp S.nocell y hy) (λy hy=>absurd hy (by simp)) (λh1 o9 kZ=>?_) S.kind);dsimp only at o9 kZ ⊢;generalize eP:s2.heap.push { cls:=.type "list",dict:=O,data:=.seq ([]:List aeX).toArray }=P2 at o9 kZ ⊢;have sz:P2.objs.size=s2.heap.objs.size+1:=by rw[<- eP,ag4]
 have ph:s2.heap.objs.size≠P2.objs.size:=by walk_at "o"
 have keep:∀ b o,s2.heap.get? b=U o->h1.get? b=U o:=λb o e=>by have lt:=aeU e;exact kZ.extBut b o (by walk_at "o") (aeS _ (eP ▸ aeS _ e))
 have hD:h1.get? s2.heap.objs.size=U { cls:=.type "list",data:=.seq ([]:List aeX).toArray 0 } :=
  kZ.extBut _ _ ph (aeS _ (eP ▸ aeZ _ Y))
 generalize eC:P2.objs.size=C at o9 kZ ph ⊢;generalize eD:s2.heap.objs.size=D at ph hD;have rK:s2.heap.objs.size<=C:=by walk_at "o"
 have uL:s2.heap.objs.size<=D:=by walk_at "o"
 have pq:∀ b∈fp,b<s2.heap.objs.size:=λb hb=>by obtain⟨o,e,_⟩:=T.obj 0 _ i3 b hb;exact aeU e
 have SK:(eY X (own++ys) scope cl C s2 H2 fp (X.pn++pins)).Ok:=Su S I2 f2 rK (λb hb=>by have:=pq b hb;walk_at "o");have BC:=II I2 f2 rK uL;have I4:Inv (eY X (own++ys) scope cl C s2 H2 fp (X.pn++pins)) [] ((own.map λ_=>O)++fr.map λj=>(J[j]?).join) H2 { s2 with heap:=h1,toks:=s2.toks+([]:List (Str × aeX)).length }:=by
  refine#[SK,Y,I2.bare,Un.kept keep,#[_,o9,λi y v e1 e2 e3=>?_],λy c e=>?_,I2.aB.fresh rK,λy c e=>I2.gF y c (S.cls.get y c e),λp hp=>?_,I2.aB.kept keep,?_]
  .by_cases hio:i<own.length
   .rw[agf (by simpa using hio)] at e2;simp[hio] at e2
   .rw[af4 (by simp;lia)] at e2;have rL:ys[i-own.length]?=U y:=by
     have:(own++ys)[i]?=U y:=e1
     rwa [af4 (by lia)] at this
    rw[aeO] at e2;obtain⟨j,c,hN,hσ,hk,fK,j9⟩:=S.bq.get (i-own.length) y v rL e2;obtain⟨m,hm,hl⟩:=I2.loc;obtain⟨u,ru,lu⟩:=hl j y v hN hσ (.inr (.inl hk));refine#[u,ru,.inr #[.inl ?_,c,fK,?_]]
    .have z:=afT.mp S.kfr y (ae8 rL);exact (by simpa using z:(relabel scope X.env).names.lookup y=U .cell)
    .rcases lu with ⟨z,_⟩|⟨_,c',e',q'⟩
     .rw[hk] at z;cases z
     .rw[j9] at e';cases e';obtain⟨o,ho,hd⟩:=q';exact#[o,keep _ _ ho,hd]
  .obtain⟨v,o,ho,hd⟩:=I2.cell y c (S.cls.get y c e);exact#[v,o,keep _ _ ho,hd]
  .have eK:p∈X.pn++pins:=by have:p∈(X.pn++pins)++[]:=hp;simpa using this
   obtain⟨e,n,_,_,d⟩:=I2.pin p eK;obtain⟨p1,_,p3,_⟩:=BC p eK;exact#[keep _ _ e,n,p1,p3,d]
  .show ((own.map λ_=>(O:Option V))++fr.map λj=>(J[j]?).join).length=(own++ys).length;simp[S.bq.len]
 refine Sw hc (hg C s2 H2 fp (X.pn++pins)) (hb C s2 H2 fp (X.pn++pins)) I2 T i3 f2 h BA (by simp) I4 keep hD eD (sz.symm.trans eC) λy c e=>?_;obtain⟨v,o,ho,_⟩:=I2.cell y c (S.cls.get y c e);have:=aeU ho;exact#[by walk_at "o",λb hb z=>(f2 b hb).2.2.2.2.1 y c (S.cls.get y c e) z]
theorem IV{wi:TI}{B:L2.St->It->Hp->VK->Prop}(S:kY X own scope cl fr ys)(hc:X.calm=true)(hi:PI X tg iter wi)(hg:∀ (C:ae0) (s:ae4) (H:Hp) (ex:List ae0) (pn:List (ae0 × Obj)),PG (eY X (own++ys) scope cl C s H ex pn) tg g)
 (hb:∀ (C:ae0) (s:ae4) (H:Hp) (ex:List ae0) (pn:List (ae0 × Obj)),mj (eY X (own++ys) scope cl C s H ex pn) ifs tt/\PE (eY X (own++ys) scope cl C s H ex pn) elt te)
 (hB:∀ ρ J9q H Q,B ρ J9q H Q->j7 own.length J9q g ρ tt te H Q) (hs:∀ z,ag8 iter X.env z=pure z:=by intro v;rfl):PE X (.ListComp elt [#[tg,iter,ifs,0]] scope pos) (λJ H Q=>wi J H λJ9q H1=>B (fr.map λj=>(J[j]?).join) J9q H1 Q):=by
 intro pins s J H Q I h;rw[eval_ListComp];refine ajC (use:=O) Y hs S.clos S.kind (λy hy hl=>?_) (aF (hi pins s J H _ I h) λxv s1 h1=>aF h1 λxA s2 h2=>?_)
 .have z:=afT.mp S.names y hy;rw[hl] at z;simpa using z
 .obtain⟨it,fp,tn,J9q,H2,rfl,I2,T,i3,f2,pA⟩:=h2;refine IT (RR:=λacc C=>compPost (model X.prog X.w) X.A X.xe O (EP X pins J Q) acc C) S hc hg hb I2 T i3 f2 (hB _ _ _ _ pA) λD C s' H' J' hn fC q=>?_;obtain⟨m,hm⟩:=hn;obtain⟨c0,c1,c2,c3,c4,c5⟩:=fC;exact#[m,hm,λh' sb=>#[.ref D,H',J'.turned (it:=C) (λb o hb e=>sb.extBut b o hb e) c0 c1 c3 c4 c5,Y,q]]
theorem SM{wi:TI}{B:L2.St->It->Hp->VK->Prop}{y:Str}{py ya:Pos}{i:Nat}(S:kY X own scope cl fr ys)(hc:X.calm=true)(hN:X.N.Nodup)(hy:X.N[i]?=U y)(hl:X.env.scope.names.lookup y=U .local)(hi:PI X tg iter wi)(hg:∀ (C:ae0) (s:ae4) (H:Hp) (ex:List ae0) (pn:List (ae0 × Obj)),PG (eY X (own++ys) scope cl C s H ex pn) tg g)
 (hb:∀ (C:ae0) (s:ae4) (H:Hp) (ex:List ae0) (pn:List (ae0 × Obj)),mj (eY X (own++ys) scope cl C s H ex pn) ifs tt/\PE (eY X (own++ys) scope cl C s H ex pn) elt te)
 (hB:∀ ρ J9q H Q,B ρ J9q H Q->j7 own.length J9q g ρ tt te H Q) (BH:aiS (.ListComp elt [#[tg,iter,ifs,0]] scope pos) (U (.Name y py)) ya.line X.env=pure true:=by rfl)
 (hs:∀ z,ag8 iter X.env z=pure z:=by intro _;rfl):PS X (.Assign [.Name y py] (.ListComp elt [#[tg,iter,ifs,0]] scope pos) ya) (By i λJ H Q=>wi J H λJ9q H1=>B (fr.map λj=>(J[j]?).join) J9q H1 Q):=by
 intro pins s J H Dn I h;rw[exec_Assign_Name_used _ _ _ _ BH];refine aeM (ak9 (aeM ?_));show afe _ X.A (do let _ <- comprehension (.ListComp elt [#[tg,iter,ifs,0]] scope pos) scope X.env _ (anz []) false (eval iter X.env) (U (assign (.Name y py) X.env))) _ _ s;refine aeM (aF (ajC (use:=U (assign (.Name y py) X.env)) (Q:=λ_ s'=>SP X pins Dn .next s') Y hs S.clos S.kind (λz hz hl=>?_) (aF (hi pins s J H _ I h) λxv s1 h1=>aF h1 λxA s2 h2=>?_)) λ_ s' hq=>aeR (aeR hq))
 .have z':=afT.mp S.names z hz;rw[hl] at z';simpa using z'
 .obtain⟨it,fp,tn,J9q,H2,rfl,I2,T,i3,f2,pA⟩:=h2;refine IT (RR:=λacc C=>compPost (model X.prog X.w) X.A X.xe (U (assign (.Name y py) X.env)) (λ_ s'=>SP X pins Dn .next s') acc C) S hc hg hb I2 T i3 f2 (hB _ _ _ _ pA) λD C s' H' J' hn fC q=>?_;obtain⟨m,oC,es,ep,ho,hd,hr⟩:=hn;obtain⟨c0,c1,c2,c3,c4,c5⟩:=fC;have J2:Inv X (pins++[(C,oC)]) J H' s':=J'.ue λp hp=>by
   rcases afq.mp hp with z|z
   .exact J'.pin p (afs _ z)
   .have:p=(C,oC):=by simpa using z
    subst this;exact#[ho,c0,c1,c2,λv z=>by rw[hd] at z;cases z]
  show afe _ X.A (assign (.Name y py) X.env (.ref D)) _ _ _;refine aF (iD (X:=X) hN hy (.inl hl) (.inr hl) _ s' J H' (.ref D) (.ref D) (λσ' ic=>σ'=J.set i (U (.ref D))/\ic=H') J2 Y #[Y,Y]) λ_ s3 zq=>?_;obtain⟨σ3,H3,J3,e1,e2⟩:=zq;subst e1 e2;obtain⟨pc,pn0,_⟩:=J3.pin (C,oC) (afs _ (afs _ (afd.mpr Y)));refine#[m,#[oC,es,ep,pc,hd,hr],λh' sb=>#[_,H3,J3.xC.turned (it:=C) (λb o hb e=>sb.extBut b o hb e) c0 c1 c3 c4 c5,q]]
theorem yb(S:kY X own scope cl fr ys)(hc:X.calm=true)(hi:PI X tg iter wi)(hg:∀ (C:ae0) (s:ae4) (H:Hp) (ex:List ae0) (pn:List (ae0 × Obj)),PG (eY X (own++ys) scope cl C s H ex pn) tg g)(hb:∀ (C:ae0) (s:ae4) (H:Hp) (ex:List ae0) (pn:List (ae0 × Obj)),mj (eY X (own++ys) scope cl C s H ex pn) ifs tt/\PE (eY X (own++ys) scope cl C s H ex pn) elt te)(hs:∀ z,ag8 iter X.env z=pure z:=by intro y;rfl):PE X (.ListComp elt [#[tg,iter,ifs,0]] scope pos) (IF own.length wi g fr tt te):=IV (B:=λρ J9q H Q=>j7 own.length J9q g ρ tt te H Q) S hc hi hg hb (λy y y y h=>h) hs
end
theorem IW(h:nM J9q ρ tt te H Q):j7 1 J9q (cu 0) ρ tt te H Q:=by
 obtain⟨W,w0,turn⟩:=h;refine#[W,w0,λi m ys H hw=>(turn i m ys H hw).imp id λ⟨a,b,N,hN,st⟩=>#[a,b,N,hN,λos ho x H' y=>?_]]
 match os,ho with
 | [_],_=>exact#[[U x],Y,Y,st x H' y]
section
theorem pf.g(S:pf X x scope cl fr ys):kY X [x] scope cl fr ys:=#[S.clos,S.nocell,S.kind,S.names,S.kinds,S.cls,S.bq,S.kfr]
theorem pf.pg(S:pf X x scope cl fr ys)(C:ae0)(s:ae4)(H:Hp)(ex:List ae0)(pn:List (ae0 × Obj)):PG (eY X ([x]++ys) scope cl C s H ex pn) (.Name x px) (cu 0) :=
 iD (X:=eY X (x::ys) scope cl C s H ex pn) (i:=0) S.nd Y (.inl (afk S.own)) (.inr (afk S.own))
theorem cU(S:pf X x scope cl fr ys)(hc:X.calm=true)(hi:PI X (.Name x px) iter wi)(hb:∀ (C:ae0) (s:ae4) (H:Hp) (ex:List ae0) (pn:List (ae0 × Obj)),mj (eY X (x::ys) scope cl C s H ex pn) ifs tt/\PE (eY X (x::ys) scope cl C s H ex pn) elt te)(hs:∀ z,ag8 iter X.env z=pure z:=by intro y;rfl):PE X (.ListComp elt [#[.Name x px,iter,ifs,0]] scope pos) (Bx wi fr tt te):=IV (B:=λρ J9q H Q=>nM J9q ρ tt te H Q) S.g hc hi S.pg hb (λy y y y h=>IW h) hs
theorem rM(S:pf X x scope cl fr ys)(hc:X.calm=true)(hN:X.N.Nodup)(hy:X.N[i]?=U y)(hl:X.env.scope.names.lookup y=U .local)(hi:PI X (.Name x px) iter wi)(hb:∀ (C:ae0) (s:ae4) (H:Hp) (ex:List ae0) (pn:List (ae0 × Obj)),mj (eY X (x::ys) scope cl C s H ex pn) ifs tt/\PE (eY X (x::ys) scope cl C s H ex pn) elt te)(BH:aiS (.ListComp elt [#[.Name x px,iter,ifs,0]] scope pos) (U (.Name y py)) ya.line X.env=pure true:=by rfl)(hs:∀ z,ag8 iter X.env z=pure z:=by intro v;rfl):PS X (.Assign [.Name y py] (.ListComp elt [#[.Name x px,iter,ifs,0]] scope pos) ya) (By i (Bx wi fr tt te)):=SM (B:=λρ J9q H Q=>nM J9q ρ tt te H Q) S.g hc hN hy hl hi S.pg hb (λv v v v h=>IW h) BH hs
end
def fq(Ok:Hp->Prop)(ρ:L2.St)(tt:TT)(te:TE):List V->List V->Hp->(List V->Hp->Prop)->Prop
 | [],ys,H,Q=>Ok H/\Q ys H
 | x::r,ys,H,Q=>Ok H/\tt (U x::ρ) H λb H1=>if b=true then te (U x::ρ) H1 λy H2=>fq Ok ρ tt te r (ys++[y]) H2 Q else fq Ok ρ tt te r ys H1 Q
structure uM(J9q:It)(Ok:Hp->Prop)(xs:List V):Prop where
 go:∀ i H x,Ok H->xs[i]?=U x->J9q.go i H
 yld:∀ i H x H',Ok H->J9q.yld i H x H'->H'=H/\(i<xs.length->xs[i]?=U x)
 stop:∀ i H,Ok H->xs.length<=i->J9q.stop i H
section
variable{J9q:It}{Ok:Hp->Prop}{xs:List V}{ρ:L2.St}{tt:TT}{te:TE}{H:Hp}{Q:VK}{K:aeN}{a:ae0}
theorem cn(O9q:uM J9q Ok xs)(hn:xs.length<=afl)(h:fq Ok ρ tt te xs [] H λys H'=>∀ l,H' l=O->Q (.ref l) (upd H' l (.lst ys))):nM J9q ρ tt te H Q:=by
 refine#[λi m ys H=>m=xs.length-i/\i<=xs.length/\ys.length<=i/\fq Ok ρ tt te (xs.drop i) ys H λys H'=>∀ l,H' l=O->Q (.ref l) (upd H' l (.lst ys)),#[_,Y,afi _,aeV _,h],?_];rintro i m ys H ⟨rfl,hi,hy,g⟩;by_cases a8:i<xs.length
 .have e:=afY a8;rw[e] at g;obtain⟨g0,g1⟩:=g;refine .inr #[O9q.go i H _ g0 (aeQ a8),by walk_at "o",λzs H'=>zs.length<=i+1/\fq Ok ρ tt te (xs.drop (i+1)) zs H' λys H'=>∀ l,H' l=O->Q (.ref l) (upd H' l (.lst ys)),λzs H' q=>#[_,by walk_at "o",Y,a8,q.1,q.2],λx H' y=>?_];obtain⟨rfl,ex⟩:=O9q.yld i H x H' g0 y;have ex:=ex a8;rw[aeQ a8] at ex;cases ex;have l1:∀ y:V,(ys++[y]).length<=i+1:=λy=>by rw[ae1,afh];walk_at "o"
  have l2:ys.length<=i+1:=by walk_at "o"
  simp only[l1,l2,true_and];exact g1
 .have e:i=xs.length:=by walk_at "o"
  subst e;rw[aj3] at g;exact .inl #[O9q.stop _ H g.1 (aeV _),by walk_at "o",g.2]
theorem gK:uM (j4 K a) (λH=>ai K H a xs) xs :=
 #[λz z z h e=>#[xs,_,h,e],λz z z z h y=>#[y.1,λz=>y.2 xs h],λz z h hi=>#[xs,h,hi]]
theorem rN:uM (lZ K a) (λH=>aj K H a xs) xs :=
 #[λz z z h e=>#[xs,_,h,e],λz z z z h y=>#[y.1,λz=>y.2 xs h],λz z h hi=>#[xs,h,hi]]
theorem k6{lo:Int}{n:Nat}:uM (jy lo n) (λz=>True) ((afp n).map λk=>V.int (lo+(k:Nat))) :=
 #[λi z z z e=>by
  have:=(aeW.mp e).1;show i<n;simpa using this,λi z z z z y=>#[y.1,λhi=>by
   have dB:i<n:=by simpa using hi
   rw[y.2,ae5,af5 dB];rfl],λi z z hi=>by
   show n<=i;simpa using hi]
theorem yc(bM:Ok H):∀ {xs ys:List V},(∀ x∈xs,∀ Q,Q (p x) H->tt (U x::ρ) H Q)->(∀ x∈xs,p x=true->∀ Q,Q (f x) H->te (U x::ρ) H Q)->Q' (ys++(xs.filter p).map f) H->fq Ok ρ tt te xs ys H Q'
 | [],ys,_,_,q=>#[bM,by simpa using q]
 | x::r,ys,ht,he,q=>by
  refine#[bM,ht x (.head _) _ ?_];by_cases hb:p x=true
  .rw[if_pos hb];refine he x (.head _) hb _ (yc bM (λy hy=>ht y (.tail _ hy)) (λy hy=>he y (.tail _ hy)) ?_);rw[afU,if_pos hb] at q;simpa using q
  .rw[if_neg hb];refine yc bM (λy hy=>ht y (.tail _ hy)) (λy hy=>he y (.tail _ hy)) ?_;rw[afU,if_neg hb] at q;exact q
end
section
variable{X:Cx}{K:aeN}
theorem SN(h:X.K=K):kR X (kS K):=h ▸ bH
theorem SO(h:X.K=K):bB X (af6 .NotIn) (Bm K true):=h ▸ HW
end
theorem SQ{prog:afG}{w:agn}{A:agD}{E:aeX->ae4->Prop}{s:ae4}{id:String}{b:ahq}{args:List aeX}{kw:List (Str × aeX)}{Q:aeX->ae4->Prop}(hk:amk id=O)(hp:aml id=true)
 (hb:ajh table id=U b) (ha:aks id #[args,kw])
 (hc:afe (model prog w) A.in1 (b #[args,kw]) (λfin s'=>match fin with
   | .done f=>(match (Except.ok f:alQ) with|.ok (.ret v)=>Q v s'|.ok _=>False|.error e=>E e s')
   | .again c'=>c'.quiet=true/\ahY (model prog w) A c' (λr s'=>match r with|.ok (.ret v)=>Q v s'|.ok _=>False|.error e=>E e s') s') E s) :
 afe (model prog w) A (call (.builtin id) args kw) Q E s:=by
 refine alB (akM hp hb ?_);simp only[al0,hk];cases hsig:Manifest.signature? id with
 | none=>exact aeR hc
 | some sig =>
  have uJ:Bind.checkArgs id sig #[args,kw]=pure ():=by simpa only [aks,hsig] using ha
  simp only[uJ];exact aeR hc
noncomputable def BI:{ F:String->CmpOp->ahq // F "max" .Gt=ahq.«max.loop»/\F "min" .Lt=ahq.«min.loop» }:=#[_,Y,Y]
noncomputable def IX:{ F:String->ahq // F "max" = ahq.«max»/\F "min" = ahq.«min» }:=#[_,Y,Y]
theorem IY{nx id:String}{op:CmpOp}(nm:(toString nx++toString ".loop" : String)=id)(e1:ajh table id=U (BI.1 nx op))(e2:aml id=true){prog:afG}{w:agn}{A:agD}{R:alQ->ae4->Prop}{I S:ae0}{fp wr:List ae0}{n:Nat}{P:Nat->aeX->Prop}{St:Nat->ag3->Prop}{G:ag3->Prop}{bt:Nat->Nat->Bool}{kw:List (Str × aeX)}
 (W:Walks prog w A.in1 I fp wr n P St) (hG:∀ h h',G h->(∀ b o,b∉wr->b≠S->h.get? b=U o->h'.get? b=U o)->G h')
 (uN:∀ i j vi vj (s:ae4) (Q:aeX->ae4->Prop) (E:aeX->ae4->Prop),P i vi->P j vj->G s.heap->Q (.bool (bt i j)) s->afe (model prog w) A.in1 (ajS op vi vj) Q E s) (hS:S∉fp):∀ (k j:Nat) (s:ae4) (vb:aeX) (c:Nat),k+(j+1)=n->St (j+1) s.heap->G s.heap->P (aiI bt j) vb ->
  s.heap.get? S=U { cls:=.type "list",dict:=O,data:=.seq (List.toArray [vb,vb]) c,slots:=(List.toArray []) } ->
  (∀ v h' tk,P (aiI bt (n-1)) v->(∀ b o,b∉wr->b≠S->s.heap.get? b=U o->h'.get? b=U o)->R (.ok (.ret v)) { s with heap:=h',toks:=tk }) ->
  ahY (model prog w) A (.builtin id #[[.ref I,.none,.ref S],kw]) R s:=by
 have nS:S∉wr:=λz=>hS (W.sub _ z);intro k
 induction k with
 | zero =>
  intro j s vb c e st g pb oS fin;have e':j+1=n:=by walk_at "o"
  refine agb e1 ?_;rw[afK e2 _];show afe _ A.in1 (alg (.ref S) >>= _) _ _ s;refine aeM (ahQ oS Y ?_);show afe _ A.in1 (tryCatch (ahN (.ref I)) _ >>= _) _ _ s;refine aeM (ahR (W.done s _ _ (e' ▸ st) λh1 tk kp=>?_));have ke:=kp S _ nS oS;show afe _ A.in1 (ajD S (λy=>(List.toArray [])) >>= _) _ _ _;refine aeM ?_;refine agS ke Y (aeM (ajT (aeR ?_)));exact fin vb _ tk (by rw[<- e'];exact pb) λb o hw hb q=>(aff _ _ (afR hb)).trans (kp b o hw q)
 | succ k ih =>
  intro j s vb c e st g pb oS fin;have lt:j+1<n:=by walk_at "o"
  refine agb e1 ?_;rw[afK e2 _];show afe _ A.in1 (alg (.ref S) >>= _) _ _ s;refine aeM (ahQ oS Y ?_);show afe _ A.in1 (tryCatch (ahN (.ref I)) _ >>= _) _ _ s;refine aeM (ahR (W.item (j+1) s _ _ lt st λv h1 tk pv rO kp=>?_));have ke:=kp S _ nS oS;have g1:G h1:=hG _ _ g λb o hw y q=>kp b o hw q;show afe _ A.in1 (tryCatch (holding [v,v] (ajS op v vb >>= _)) _ >>= _) _ _ _;refine aeM (ahR (agr (aeM (uN (j+1) (aiI bt j) v vb _ _ _ pv pb g1 ?_))));refine aeM (agr (afH ?_));refine aeM (ajT (aeR ?_));cases hb:bt (j+1) (aiI bt j) with
  | true =>
   simp only[if_true];refine aeM ?_;refine agS ke Y (aeM (ajT ?_));rw[nm];refine aeR #[agM e2 _,ih (j+1) _ v _ (by walk_at "o") (W.frame _ _ _ rO λb hf o q=>?_) (hG _ _ g1 λb o y nN q=>(aff _ _ (afR nN)).trans q) (by simp only[aiI,hb,if_true];exact pv) (afE _ ke Y) λv2 h2 yd p2 k2=>?_]
   .exact (aff _ _ (λz:S=b=>hS (by rw[z];exact hf))).trans q
   .exact fin v2 h2 yd p2 λb o hw nN q=>k2 b o hw nN ((aff _ _ (afR nN)).trans (kp b o hw q))
  | false =>
   simp only[afn,if_false];refine aeM (ajT ?_);rw[nm];refine aeR #[agM e2 _,ih (j+1) _ vb c (by walk_at "o") rO g1 (by simp only[aiI,hb,afn,if_false];exact pb) ke λv2 h2 yd p2 k2=>?_];exact fin v2 h2 yd p2 λb o hw nN q=>k2 b o hw nN (kp b o hw q)
theorem SR{nx id:String}{op:CmpOp}(nm:(toString nx++toString ".loop" : String)=id)(e1:ajh table id=U (BI.1 nx op))(e2:aml id=true)(k0:amk nx=O)(k1:aml nx=true)(k2:ajh table nx=U (IX.1 nx))(k3:∀ a d:aeX,aks nx #[[a],[("default",d)]]){prog:afG}{w:agn}{A:agD}{E:aeX->ae4->Prop}{s:ae4}{l:ae0}{xs:Array (Int × Tok)}{d:aeX}{Q:aeX->ae4->Prop}{bt:Nat->Nat->Bool}(e4:CmpOf prog w A.in1 op (λi v=>(agv xs)[i]?=U v) bt)(hh:A.handled=O)(hl:s.heap.IsList l (agv xs))
 (h0:xs.size=0->∀ h' tk,(∀ b o,s.heap.get? b=U o->h'.get? b=U o)->Q d { s with heap:=h',toks:=tk })
 (h1:0<xs.size->∀ v h' tk,(agv xs)[aiI bt (xs.size-1)]?=U v->(∀ b o,s.heap.get? b=U o->h'.get? b=U o)->Q v { s with heap:=h',toks:=tk }) :
 afe (model prog w) A (call (.builtin nx) [.ref l] [("default",d)]) Q E s:=by
 refine SQ k0 k1 k2 (k3 _ _) ?_;show afe _ A.in1 (agT _ ["key","default"] 0 #[[],[("default",d)]] >>= _) _ _ s;refine aeM (ajU (show agT _ ["key","default"] 0 #[[],[("default",d)]]=pure [O,U d] from Y) ?_);refine aeM (aeR ?_);refine aeM (iter_intList hl λs2 e2 st pq SS=>?_);subst e2;refine aeM (afI ?_);have W:=Walks.list (prog:=prog) (w:=w) (A:=A.in1) hh s.heap.objs.size l SS (agv xs);generalize eP:(s.heap.push { cls:=.type "list_iterator",data:=.fields (List.toArray [.ref l,.int 0 0]) })=P2 at st pq ⊢;have rP:P2.objs.size∉[s.heap.objs.size,l]:=λz=>agk _ (pq _ z);have up:∀ b o,s.heap.get? b=U o->b≠P2.objs.size/\b∉[s.heap.objs.size]/\(P2.push { cls:=.type "list",dict:=O,data:=.seq ([]:List aeX).toArray }).get? b=U o:=λb o q=>by
  have lt:=aeU q;have q2:P2.get? b=U o:=by rw[<- eP];exact aeS _ q
  refine#[afa (aeU q2),λz=>?_,aeS _ q2];have:b=s.heap.objs.size:=by simpa using z
  walk_at "o"
 rw[nm];refine aeR #[agM e2 _,?_];have oS:(P2.push { cls:=.type "list",dict:=O,data:=.seq ([]:List aeX).toArray }).get? P2.objs.size=U { cls:=.type "list",dict:=O,data:=.seq (List.toArray []) 0,slots:=(List.toArray []) }:=aeZ _ rfl;have dN:=W.frame 0 P2 (P2.push { cls:=.type "list",dict:=O,data:=.seq ([]:List aeX).toArray }) st λb y o q=>aeS _ q;have nS:P2.objs.size∉[s.heap.objs.size]:=λz=>rP (by simp at z;simp[z]);by_cases hz:xs.size=0
 .have BJ:(P2.push { cls:=.type "list",dict:=O,data:=.seq ([]:List aeX).toArray }).IsListIter s.heap.objs.size l (agv xs).size/\(P2.push { cls:=.type "list",dict:=O,data:=.seq ([]:List aeX).toArray }).IsList l (agv xs):=by
   have:(agv xs).size=0:=by simpa [agv] using hz
   rw[this];exact dN
  refine agb e1 ?_;rw[afK e2 _];show afe _ A.in1 (alg (.ref P2.objs.size) >>= _) _ _ _;refine aeM (ahQ oS Y ?_);show afe _ A.in1 (tryCatch (ahN (.ref s.heap.objs.size)) _ >>= _) _ _ _;refine aeM (ahR (W.done _ _ _ BJ λh2 tk kp=>?_));refine aeM (akH (aeR ?_));exact h0 hz h2 tk λb o q=>kp b o (up b o q).2.1 (up b o q).2.2
 .have hp:0<xs.size:=by walk_at "o"
  have hn:0<(agv xs).size:=by simpa [agv] using hp
  refine agb e1 ?_;rw[afK e2 _];show afe _ A.in1 (alg (.ref P2.objs.size) >>= _) _ _ _;refine aeM (ahQ oS Y ?_);show afe _ A.in1 (tryCatch (ahN (.ref s.heap.objs.size)) _ >>= _) _ _ _;refine aeM (ahR (W.item 0 _ _ _ hn dN λv h2 tk pv rO kp=>?_));have ke:=kp _ _ nS oS;show afe _ A.in1 (ajD P2.objs.size (λy=>(List.toArray [v,v])) >>= _) _ _ _;refine aeM ?_;refine agS ke Y ?_;rw[nm];refine aeR #[agM e2 _,IY nm e1 e2 (G:=λy=>True) W (λy y y y=>trivial) (λi j vi vj s Q E h1 h2 y q=>e4 i j vi vj s Q E h1 h2 q) rP ((agv xs).size-1) 0 _ v _ (by walk_at "o") (W.frame _ _ _ rO λb hf o q=>?_) trivial pv (afE _ ke Y) λv2 h3 BK p3 k3=>?_]
  .exact (aff _ _ (λz:P2.objs.size=b=>rP (by rw[z];exact hf))).trans q
  .refine h1 hp v2 h3 BK (by simpa [agv] using p3) λb o q=>?_;exact k3 b o (up b o q).2.1 (up b o q).1 ((aff _ _ (afR (up b o q).1)).trans (kp b o (up b o q).2.1 (up b o q).2.2))
noncomputable def eL:List Int->Int
 | []=>0
 | x::r=>r.foldl (λb y=>if y > b then y else b) x
noncomputable def rQ:List Int->Int
 | []=>0
 | x::r=>r.foldl (λb y=>if y<b then y else b) x
theorem IZ:∀ (r:List Int) (b:Int),b<=r.foldl (λb y=>if y > b then y else b) b/\(∀ y∈r,y<=r.foldl (λb y=>if y > b then y else b) b)/\(r.foldl (λb y=>if y > b then y else b) b=b∨r.foldl (λb y=>if y > b then y else b) b∈r)
 | [],b=>#[afS _,λv z=>(nomatch z),.inl rfl]
 | x::r,b=>by
  simp only[amm];obtain⟨h1,h2,h3⟩:=IZ r (if x > b then x else b);refine#[?_,λy hy=>?_,?_]
  .refine ah5 ?_ h1;split<;>lia
  .rcases ae2.mp hy with rfl|hy
   .refine ah5 ?_ h1;split<;>lia
   .exact h2 y hy
  .rcases h3 with h3|h3
   .rw[h3];split
    .right;simp
    .left;rfl
   .right;exact afJ _ h3
theorem I0:∀ (r:List Int) (b:Int),r.foldl (λb y=>if y<b then y else b) b<=b/\(∀ y∈r,r.foldl (λb y=>if y<b then y else b) b<=y)/\(r.foldl (λb y=>if y<b then y else b) b=b∨r.foldl (λb y=>if y<b then y else b) b∈r)
 | [],b=>#[afS _,λv z=>(nomatch z),.inl rfl]
 | x::r,b=>by
  simp only[amm];obtain⟨h1,h2,h3⟩:=I0 r (if x<b then x else b);refine#[?_,λy hy=>?_,?_]
  .refine ah5 h1 ?_;split<;>lia
  .rcases ae2.mp hy with rfl|hy
   .refine ah5 h1 ?_;split<;>lia
   .exact h2 y hy
  .rcases h3 with h3|h3
   .rw[h3];split
    .right;simp
    .left;rfl
   .right;exact afJ _ h3
theorem mq(h:ns≠[]):eL ns∈ns/\∀ y∈ns,y<=eL ns:=by
 cases ns with
 | nil=>exact absurd Y h
 | cons x r =>
  obtain⟨h1,h2,h3⟩:=IZ r x;refine#[?_,λy hy=>?_]
  .rcases h3 with h3|h3
   .show r.foldl _ x∈_;rw[h3];exact .head _
   .exact .tail _ h3
  .rcases ae2.mp hy with rfl|hy
   .exact h1
   .exact h2 y hy
theorem SU(h:ns≠[]):rQ ns∈ns/\∀ y∈ns,rQ ns<=y:=by
 cases ns with
 | nil=>exact absurd Y h
 | cons x r =>
  obtain⟨h1,h2,h3⟩:=I0 r x;refine#[?_,λy hy=>?_]
  .rcases h3 with h3|h3
   .show r.foldl _ x∈_;rw[h3];exact .head _
   .exact .tail _ h3
  .rcases ae2.mp hy with rfl|hy
   .exact h1
   .exact h2 y hy
theorem uO:∀ {ns:List Int} {aw:List aeX},Vals (ns.map V.int) aw->∃ xs:Array (Int × Tok),aw.toArray=agv xs/\xs.toList.map (·.1)=ns
 | [],_,.nil=>#[(List.toArray []),by simp[agv],Y]
 | n::ns,_,.cons (l₂:=aw) r t=>by
  obtain⟨xs,e1,e2⟩:=uO (ns:=ns) t;obtain⟨tk,rfl⟩:=r;refine#[((n,tk)::xs.toList).toArray,?_,?_]
  .have:aw=xs.toList.map (λp=>Value.int p.1 p.2):=by have:=congrArg alP e1;simpa [agv] using this
   simp[agv,this]
  .simp[e2]
theorem Ja(e:xs.toList.map (·.1)=ns)(hi:i<xs.size):akd xs i∈ns/\akd xs i=ns.getD i 0:=by subst e;unfold akd;rw[afB hi];refine#[aeY.mpr #[xs[i],by simp,Y],?_];simp[hi]
theorem Jb(e:xs.toList.map (·.1)=ns)(hy:y∈ns):∃ i,i<xs.size/\akd xs i=y:=by
 subst e;obtain⟨p,hp,rfl⟩:=aeY.mp hy;obtain⟨i,hi,e⟩:=List.mem_iff_getElem.mp hp;refine#[i,by simpa using hi,?_];unfold akd;have dB:i<xs.size:=by simpa using hi
 rw[afB dB];have:xs[i]=p:=by simpa using e
 rw[this];rfl
theorem BL(e:xs.toList.map (·.1)=ns)(h:0<xs.size):akd xs (aiI (λi j=>decide (akd xs i > akd xs j)) (xs.size-1))=eL ns:=by
 obtain⟨h1,h2⟩:=argBest_gt (akd xs) (xs.size-1);have bN:ns≠[]:=by intro z;subst z;have q:=congrArg List.length e;rw[aeO,agE,ahA] at q;lia
 obtain⟨m1,m2⟩:=mq bN;refine amn (m2 _ (Ja e (by lia)).1) ?_;obtain⟨i,hi,ei⟩:=Jb e m1;rw[<- ei];exact h2 i (by lia)
theorem SV(e:xs.toList.map (·.1)=ns)(h:0<xs.size):akd xs (aiI (λi j=>decide (akd xs i<akd xs j)) (xs.size-1))=rQ ns:=by
 obtain⟨h1,h2⟩:=argBest_lt (akd xs) (xs.size-1);have bN:ns≠[]:=by intro z;subst z;have q:=congrArg List.length e;rw[aeO,agE,ahA] at q;lia
 obtain⟨m1,m2⟩:=SU bN;refine amn ?_ (m2 _ (Ja e (by lia)).1);obtain⟨i,hi,ei⟩:=Jb e m1;rw[<- ei];exact h2 i (by lia)
def Jc(R:V->Hp->Prop):List V->Hp->Prop
 | [x],H=>R x H
 | _,_=>False
theorem SW:∀ {vs:List V} {H:Hp},Jc R vs H->∃ x,vs=[x]/\R x H
 | [x],_,h=>#[x,Y,h]
section
noncomputable def mr(f:List Int->Int):List Int->V->V
 | [],y=>y
 | n::ns,_=>.int (f (n::ns))
theorem SX(h:ns≠[]):mr f ns y = .int (f ns):=by
 cases ns with
 | nil=>exact absurd Y h
 | cons _ _=>rfl
def ye(K:aeN)(f:List Int->Int)(te td:TE):TE:=λJ H Q=>te J H λx H1=>td J H1 λy H2=>∃ a ns,x = .ref a/\ai K H2 a (ns.map V.int)/\Q (mr f ns y) H2
theorem Jd{X:Cx}{e d:aiF}{te td:TE}{p pos kp:Pos}{nx:String}{f:List Int->Int}{op:CmpOp}{id:String}(nm:(toString nx++toString ".loop" : String)=id)(e1:ajh table id=U (BI.1 nx op))(e2:aml id=true)(k0:amk nx=O)(k1:aml nx=true)(k2:ajh table nx=U (IX.1 nx))(k3:∀ a d:aeX,aks nx #[[a],[("default",d)]])(kb:afC nx=U (.builtin nx))(kn:agg nx≠agg "__name__")(kd:(agg nx == agg "__debug__")=false)
 (kc:∀ (A:agD) (xs:Array (Int × Tok)),∃ bt,CmpOf X.prog X.w A op (λi v=>(agv xs)[i]?=U v) bt/\∀ ns:List Int,xs.toList.map (·.1)=ns->0<xs.size->akd xs (aiI bt (xs.size-1))=f ns) (hc:X.calm=true) (hg:Gl X nx) (hm:X.mg nx=O) (he:PE X e te) (hd:PE X d td)
 (hs:afb [e] X.env=(false,eval e X.env)::afb [] X.env:=by rfl) (hq:agA pos (afb [e] X.env)=(false,eval e X.env)::agA pos (afb [] X.env):=by rfl) :
 PE X (.Call (.Name nx p) [e] [#[U "default",d,kp]] pos) (ye X.K f te td):=by
 intro pins s J H Q I h;refine ago (gG I hg hm kb ?_ kn (hd:=kd));refine callWith_kw (aF ((ae he ag hs) pos pins s J H (Jc λx H1=>td J H1 λy H2=>∃ (a:ae0) (ns:List Int),x = .ref a/\ai X.K H2 a (ns.map V.int)/\Q (mr f ns y) H2) I h) λus s1 ⟨vs,H1,I1,r,q⟩=>?_) hq (by rw[hs];rfl)
 .obtain⟨x,rfl,q⟩:=SW q;obtain⟨u,rfl,ru⟩:=vals1 r;refine kws_cons (aF (hd pins s1 J H1 _ I1 q) λw s2 ⟨y,H2,I2,ry,a,ns,ex,hS,q1⟩=>kws_nil ?_);subst ex;cases ru;obtain⟨aw,rv,hp,c⟩:=I2.list hS;obtain⟨xs,rL,Je⟩:=uO rv;obtain⟨o,n,ho,bw,c,hdt⟩:=hp;have hl:s2.heap.IsList a (agv xs):=#[o,ho,bw,n,by rw[hdt,rL]]
  have len:xs.size=ns.length:=by rw[<- Je,aeO];simp
  show afe _ X.A (call (.builtin nx) [.ref a] [("default",w)]) _ _ s2;obtain⟨bt,SY,S0⟩:=kc X.A.in1 xs;refine SR nm e1 e2 k0 k1 k2 k3 SY (I2.ok.hd hc) hl (λhz h' tk hk=>#[y,H2,I2.kept hk,ry,?_]) λhp v h' tk hv hk=>#[.int (f ns),H2,I2.kept hk,?_,?_]
  .have z:ns=[]:=ahj.mp (by walk_at "o");rw[z] at q1;exact q1
  .obtain⟨t,rfl⟩:=aiZ hv;exact#[t,by rw[S0 _ Je hp]]
  .rw[SX (λz=>by subst z;rw[ahA] at len;lia)] at q1;exact q1
theorem Tc(a d:aeX):aks "max" #[[a],[("default",d)]]:=by unfold aks;kernel_rfl
theorem BM{X:Cx}{e d:aiF}{te td:TE}{p pos kp:Pos}(hc:X.calm=true)(hg:Gl X "max")(hm:X.mg "max" = O)(he:PE X e te)(hd:PE X d td)
 (hs:afb [e] X.env=(false,eval e X.env)::afb [] X.env:=by rfl) (hq:agA pos (afb [e] X.env)=(false,eval e X.env)::agA pos (afb [] X.env):=by rfl) :
 PE X (.Call (.Name "max" p) [e] [#[U "default",d,kp]] pos) (ye X.K eL te td) :=
 Jd (by decide) PySem.F.entry_max_loop PySem.F.plain_max_loop PySem.F.kind_max PySem.F.plain_max PySem.F.entry_max Tc uF (by decide) (by decide) (λy xs=>#[_,CmpOf.ints_gt (akd xs) (λy y=>aiZ),λy e h=>BL e h]) hc hg hm he hd hs hq
theorem Jf(hc:X.calm=true):fY X (.builtin "max") (λxs H Q=>∃ a ns,xs=[.ref a]/\ai X.K H a (ns.map V.int)/\ns≠[]/\Q (.int (eL ns)) H):=by
 intro pins s J H xs us Q I r h;obtain⟨a,ns,rfl,hS,bN,q⟩:=h;obtain⟨u,rfl,ru⟩:=vals1 r;cases ru;obtain⟨aw,rv,hp,y⟩:=I.list hS;obtain⟨xs,e1,e2⟩:=uO rv;obtain⟨o,n,ho,bw,y,hdt⟩:=hp;have hl:s.heap.IsList a (agv xs):=#[o,ho,bw,n,by rw[hdt,e1]]
 have len:xs.size=ns.length:=by rw[<- e2,aeO];simp
 have pB:0<xs.size:=by rw[len];exact ak0.mpr bN
 refine max_intList (I.ok.hd hc) hl pB λv h' tk hv hk=>#[.int (eL ns),H,I.kept hk,?_,q]
 obtain⟨t,rfl⟩:=aiZ hv;exact#[t,by rw[BL e2 pB]]
theorem Td(a d:aeX):aks "min" #[[a],[("default",d)]]:=by unfold aks;kernel_rfl
theorem Tf{X:Cx}{e d:aiF}{te td:TE}{p pos kp:Pos}(hc:X.calm=true)(hg:Gl X "min")(hm:X.mg "min" = O)(he:PE X e te)(hd:PE X d td)
 (hs:afb [e] X.env=(false,eval e X.env)::afb [] X.env:=by rfl) (hq:agA pos (afb [e] X.env)=(false,eval e X.env)::agA pos (afb [] X.env):=by rfl) :
 PE X (.Call (.Name "min" p) [e] [#[U "default",d,kp]] pos) (ye X.K rQ te td) :=
 Jd (by decide) aif agX al1 alG alH Td Io (by decide) (by decide) (λy xs=>#[_,CmpOf.ints_lt (akd xs) (λy y=>aiZ),λy e h=>SV e h]) hc hg hm he hd hs hq
end
section
theorem Jg{ch:List ae0}(I:Inv X pins J H s)(k:∀ b o,b∉ch->s.heap.get? b=U o->h'.get? b=U o)(hf:∀ b∈ch,fk X pins H b){H':Hp}(up:∀ b u,H b=U u->H' b=U u):∀ b u,H b=U u->b9 X.prog X.w H' h' b u:=by
 have nB:∀ b u,H b=U u->b∉ch:=λb u e z=>by rw[(hf b z).1] at e;cases e
 intro b u e;refine (I.aB b u e).ju (λc v hc q=>k c v ?_ q) (λc q=>up c _ q) λc xs q=>up c _ q;rcases hc with z|z
 .rw[z];exact nB b u e
 .exact nB c _ z
theorem Jh{t':Nat}{ch:List ae0}(I:Inv X pins J H s)(k:∀ b o,b∉ch->s.heap.get? b=U o->h'.get? b=U o)(hf:∀ b∈ch,fk X pins H b):Inv X pins J H { s with heap:=h',toks:=t' }:=by
 refine I.step (g':=s.gens) (d':=s.drawn) (ch:=ch) (λb hb=>?_) (λb o y y hc e y=>k b o hc e) (λb o y y hc e y=>#[o.slots,k b o hc e]) (λy y y y n=>n)
  (λb o hc e=>#[o,k b o hc e]) (λy y e=>e) (λy y y e=>e) (λb ps e=>#[(List.toArray []),by rw[e];simp]) (λm hm=>?_) (λb u e=>Jg I k hf (λy y q=>q) b u e) I.bare
 .obtain⟨y,d1,d2,d3,d4,d5⟩:=hf b hb;exact#[d3,d1,d4,d5]
 .obtain⟨o,es,ep,ho,r⟩:=hm;exact#[o,es,ep,k _ o (λz=>(hf _ z).2.1 rfl) ho,r]
theorem Ji{t':Nat}{ch:List ae0}{T:ae0}{o:HO}(I:Inv X pins J H s)(k:∀ b o,b∉ch->s.heap.get? b=U o->h'.get? b=U o)(hf:∀ b∈ch,fk X pins H b)(hT:s.heap.objs.size<=T)
 (new:b9 X.prog X.w (upd H T o) h' T o):Inv X pins J (upd H T o) { s with heap:=h',toks:=t' }:=by
 have hn:=I.aB.fresh hT;have neT:∀ b u,s.heap.get? b=U u->b≠T:=λb u e=>afa (afm (aeU e) hT);have mn:∀ b u,H b=U u->b≠T:=λb u e=>jW e hn;have up:∀ b u,H b=U u->upd H T o b=U u:=λb u e=>by rw[aI (mn b u e)];exact e
 refine I.step (g':=s.gens) (d':=s.drawn) (ch:=ch) (λb hb=>?_) (λb o y y hc e y=>k b o hc e) (λb o y y hc e y=>#[o.slots,k b o hc e]) (λb u y e n=>by rw[aI (neT b u e)];exact n)
  (λb o hc e=>#[o,k b o hc e]) (λb xs e=>up b _ e) (λb y y e=>up b _ e) (λb ps e=>#[(List.toArray []),by rw[up b _ e];simp]) (λm hm=>?_) (λb u e=>?_) I.bare
 .obtain⟨y,d1,d2,d3,d4,d5⟩:=hf b hb;exact#[d3,d1,d4,d5]
 .obtain⟨o,es,ep,ho,r⟩:=hm;exact#[o,es,ep,k _ o (λz=>(hf _ z).2.1 rfl) ho,r]
 .by_cases hb:b=T
  .subst hb;rw[ar] at e;cases e;exact new
  .rw[aI hb] at e;exact Jg I k hf up b u e
end
noncomputable def yf(K:aeN)(a:ae0)(n:Nat):It :=
 #[λi H=>∃ xs x,ai K H a xs/\xs.length=n/\xs.reverse[i]?=U x,λi H x H'=>H'=H/\∀ xs,ai K H a xs->xs.length=n->xs.reverse[i]?=U x,λi y=>i=n]
theorem Tg{P:afG}{w:agn}{K:aeN}{tg:aiF}(a it:ae0)(n:Nat):Turn P w K tg (yf K a n) [it] it (λi h=>i<=n/\h.IsRevIter it a ((n:Int)-1-(i:Nat))) where
 mem:=by simp
 obj:=λi h st b hb=>by
  have e:b=it:=by simpa using hb
  subst e;obtain⟨y,o,e,c,d⟩:=st;exact#[o,e,λv z=>by rw[d] at z;cases z]
 keep:=λi h h' st k=>#[st.1,st.2.at λo e=>k it (by simp) o e]
 item:=by
  intro X hP hw hK hc i pins s J H E I hf st hg;subst hP hw hK;obtain⟨xs,x,hq,hn,hx⟩:=hg;obtain⟨aw,rv,p,hz⟩:=I.list hq;have hl:=rv.length;have hi:i<n:=by have:=(aeW.mp hx).1;rw[agF] at this;lia
  have cZ:xs[n-1-i]?=U x:=by rw[ag0 (by lia),hn] at hx;exact hx
  obtain⟨u,hu,ru⟩:=rv.get cZ;obtain⟨f0,f1,f2,f3,f4,f5⟩:=hf it (by simp);have dN:=st.2;rw[show (n:Int)-1-(i:Nat)=((n-1-i:Nat):Int) by lia] at dN;refine wpAny_pyNext_rev_item dN p.isList (x:=u) (by simpa using hu) λh' dN sb=>?_;have I1:Inv X pins J H { s with heap:=h' }:=I.turned (t':=s.toks) (λb o hb e=>(sb.2 b hb).trans e) f0 f1 f3 f4 f5;obtain⟨o,e,c,d⟩:=id dN;rw[show ((n-1-i:Nat):Int)-1=(n:Int)-1-((i+1:Nat):Int) by lia] at dN;exact#[u,Y,rq (s:={ s with heap:=h' }) e c d (by decide) #[x,H,I1,ru,#[Y,λys hy y=>by rw[I.uh hy hq];exact hx],#[by lia,dN],λb hb=>(hf b hb).1]]
 done:=by
  intro X hP hw hK hc i pins s J H E I hf st hg;subst hP hw hK;have Th:i=n:=hg;subst Th;obtain⟨f0,f1,f2,f3,f4,f5⟩:=hf it (by simp);have dN:=st.2;rw[show (i:Int)-1-(i:Nat) = -1 by lia] at dN;exact wpAny_pyNext_rev_end (I.ok.hd hc) dN λh' eb=>#[Y,I.turned (t':=s.toks) (λb o hb e=>eb b o hb e) f0 f1 f3 f4 f5]
 self:=λy y y y y st h=>akN st.2 h
def BN(K:aeN)(ta:TA):TI:=λJ H R=>ta J H λvs H1=>∃ a xs,vs=[.ref a]/\ai K H1 a xs/\R (yf K a xs.length) H1
theorem Ti(hg:Gl X "reversed")(hm:X.mg "reversed" = O)(ha:PA X [e] ta)(hs:afb [e] X.env=[(false,eval e X.env)]:=by rfl):PI X tg (.Call (.Name "reversed" p) [e] [] pos) (BN X.K ta):=by
 intro pins s J H R I h;refine anv (gG I hg hm RX (afw (aF (ha pos pins s J H _ I h) λus s1 zq=>?_) hs Y));obtain⟨vs,H1,I1,r1,q1⟩:=zq;obtain⟨a,xs,rfl,hq,q⟩:=q1;obtain⟨u,rfl,ru⟩:=vals1 r1;cases ru;obtain⟨aw,rv,p,hz⟩:=I1.list hq;refine call_reversed_list p.isList ?_;have hl:=rv.length;refine akN (i:=(aw.toArray.size:Int)-1) (l:=a) #[_,aeZ _ Y,Y,Y] ?_;refine#[s1.heap.objs.size,[s1.heap.objs.size],_,_,H1,Y,I1.kept (t':=s1.toks) λb o e=>aeS _ e,Tg a _ xs.length,#[afi _,_,aeZ _ Y,Y,?_],λb hb=>?_,q]
 .rw[ae3,<- hl];simp;rfl
 .have e:b=s1.heap.objs.size:=by simpa using hb
  subst e;exact I1.jx (aeV _) (I1.aB.fresh (aeV _))
noncomputable def yg(K:aeN)(a:ae0):It :=
 #[λi H=>∃ xs x,ai K H a xs/\xs[i]?=U x,λi H v H'=>∃ (p:ae0) (x:V),v = .ref p/\H p=O/\H'=upd H p (.tup [.int i,x])/\∀ xs,ai K H a xs->xs[i]?=U x,λi H=>∃ xs,ai K H a xs/\xs.length<=i]
theorem BO:2<=afl:=by decide
theorem Tj{P:afG}{w:agn}{K:aeN}{es:List aiF}{k:Nat}{tp:Pos}(a e it:ae0)(Jj:e≠it):Turn P w K (.Tuple es k tp) (yg K a) [e,it] e (λi h=>(∃ old,IsEnum h e it (i:Nat) old)/\h.IsListIter it a i) where
 mem:=by simp
 obj:=λi h st b hb=>by
  obtain⟨⟨old,he⟩,o,ho,c,d⟩:=st;have c6:b=e∨b=it:=by simpa using hb
  rcases c6 with rfl|rfl
  .exact#[_,he,λv z=>by
    have z':Data.fields _=Data.cell v:=z;cases z']
  .exact#[o,ho,λv z=>by rw[d] at z;cases z]
 keep:=λi h h' st kk=>by obtain⟨⟨old,he⟩,hi⟩:=st;exact#[#[old,kk e (by simp) _ he],hi.at λo e=>kk it (by simp) o e]
 item:=by
  intro X hP hw hK hc i pins s J H E I hf st hg;subst hP hw hK;obtain⟨xs,x,hq,hx⟩:=hg;obtain⟨⟨old,he⟩,hit⟩:=st;obtain⟨aw,rv,p,hz⟩:=I.list hq;obtain⟨u,hu,ru⟩:=rv.get hx;refine ake he hit p.isList (x:=u) (by simpa using hu) Jj λh1 ho Tp hT hsz hk=>?_;refine#[_,Y,wpAny_letOwnedTupleGo_enum ho λh2 Jk dO=>?_];have BP:Heap.SameBut e h1 h2:=dO;have neT:s.heap.objs.size≠e:=af3 (aeU he);have up:∀ b o,b∉[e,it]->s.heap.get? b=U o->h2.get? b=U o:=λb o hb q=>by
   have c6:b≠e/\b≠it:=by simpa using hb
   exact BP.extBut b o c6.1 (hk b o c6.1 c6.2 q)
  have hn:H s.heap.objs.size=O:=I.aB.fresh (aeV _);refine#[.ref s.heap.objs.size,upd H s.heap.objs.size (.tup [.int i,x]),Ji (s:=s) (h':=h2) (t':=s.toks+1) I up hf (aeV _) #[BO,[.int i s.toks,u],.cons #[_,Y] (.cons ru .nil),?_],Y,#[_,x,Y,hn,Y,λys hy=>by rw[I.uh hy hq];exact hx],#[#[u,?_],?_],λb hb=>?_]
  .have:=BP.extBut _ _ neT hT;exact#[_,this,Y,_,Y]
  .have:((i:Int)+1)=((i+1:Nat):Int):=by lia
   rw[<- this];exact Jk
  .exact Tp.at λo q=>BP.extBut _ _ (afR Jj) q
  .rw[aI]
   .exact (hf b hb).1
   .have c6:b=e∨b=it:=by simpa using hb
    rcases c6 with rfl|rfl
    .exact afR neT
    .obtain⟨o,q,y⟩:=hit;exact afa (aeU q)
 done:=by
  intro X hP hw hK hc i pins s J H E I hf st hg;subst hP hw hK;obtain⟨xs,hq,hx⟩:=hg;obtain⟨⟨old,he⟩,hit⟩:=st;obtain⟨aw,rv,p,hz⟩:=I.list hq;have hl:=rv.length;refine akt (I.ok.hd hc) he hit p.isList (by simp;lia) λh' eb=>#[Y,Jh (t':=s.toks) I (λb o hb q=>?_) hf]
  have c6:b≠e/\b≠it:=by simpa using hb
  exact eb b o c6.2 q
 self:=λy i s Q E st h=>by obtain⟨⟨old,he⟩,y⟩:=st;exact ajE he h
def BQ(K:aeN)(ta:TA):TI:=λJ H R=>ta J H λvs H1=>∃ a,vs=[.ref a]/\(∃ xs,ai K H1 a xs)/\R (yg K a) H1
theorem BR(hg:Gl X "enumerate")(hm:X.mg "enumerate" = O)(ha:PA X [e] ta)(hs:afb [e] X.env=[(false,eval e X.env)]:=by rfl):PI X (.Tuple es k tp) (.Call (.Name "enumerate" p) [e] [] pos) (BQ X.K ta):=by
 intro pins s J H R I h;refine anv (gG I hg hm Iv (afw (aF (ha pos pins s J H _ I h) λus s1 zq=>?_) hs Y));obtain⟨vs,H1,I1,r1,q1⟩:=zq;obtain⟨a,rfl,⟨xs,hq⟩,q⟩:=q1;obtain⟨u,rfl,ru⟩:=vals1 r1;cases ru;obtain⟨aw,rv,p,hz⟩:=I1.list hq;refine ak1 p.isList λh' he hit hsz hk=>?_;refine ajE he ?_;have I2:Inv X pins J H1 { s1 with heap:=h' }:=I1.kept (t':=s1.toks) hk;refine#[s1.heap.objs.size+1,[s1.heap.objs.size+1,s1.heap.objs.size],_,_,H1,Y,I2,Tj a _ _ (by walk_at "o"),#[#[.none,he],hit],λb hb=>?_,q];have c6:b=s1.heap.objs.size+1∨b=s1.heap.objs.size:=by simpa using hb
 rcases c6 with rfl|rfl
 .exact I1.jx (aiX _) (I1.aB.fresh (aiX _))
 .exact I1.jx (aeV _) (I1.aB.fresh (aeV _))
noncomputable def uP(K:aeN)(a b:ae0):It :=
 #[λi H=>∃ xs ys x y,ai K H a xs/\ai K H b ys/\xs[i]?=U x/\ys[i]?=U y,λi H v H'=>∃ (p:ae0) (x y:V),v = .ref p/\H p=O/\H'=upd H p (.tup [x,y])/\(∀ xs,ai K H a xs->xs[i]?=U x)/\∀ ys,ai K H b ys->ys[i]?=U y,
  λi H=>∃ xs ys,ai K H a xs/\ai K H b ys/\(xs.length<=i∨ys.length<=i)]
theorem Tq{P:afG}{w:agn}{K:aeN}{es:List aiF}{k:Nat}{tp:Pos}(a b z TI TO i1 i2:ae0)(D:ZipApart z TI TO i1 i2 a b):Turn P w K (.Tuple es k tp) (uP K a b) [z,TI,TO,i1,i2] z
 (λi h=>IsZip h z TI TO .none/\IsPair h TI (.ref i1) (.ref i2)/\(∃ a b,IsPair h TO a b)/\h.IsListIter i1 a i/\h.IsListIter i2 b i) where
 mem:=by simp
 obj:=λi h st c hc=>by
  obtain⟨hz,kf,⟨ta,tb,k7⟩,⟨o1,h1,c1,d1⟩,⟨o2,h2,c2,d2⟩⟩:=st;have lY:c=z∨c=TI∨c=TO∨c=i1∨c=i2:=by simpa using hc
  rcases lY with rfl|rfl|rfl|rfl|rfl
  .exact#[_,hz,λv q=>by
    have q':Data.fields _=Data.cell v:=q;cases q']
  .exact#[_,kf,λv q=>by
    have q':Data.seq _ _=Data.cell v:=q;cases q']
  .exact#[_,k7,λv q=>by
    have q':Data.seq _ _=Data.cell v:=q;cases q']
  .exact#[o1,h1,λv q=>by rw[d1] at q;cases q]
  .exact#[o2,h2,λv q=>by rw[d2] at q;cases q]
 keep:=λi h h' st kk=>by obtain⟨hz,kf,⟨ta,tb,k7⟩,h1,h2⟩:=st;exact#[kk z (by simp) _ hz,kk TI (by simp) _ kf,#[ta,tb,kk TO (by simp) _ k7],h1.at λo e=>kk i1 (by simp) o e,h2.at λo e=>kk i2 (by simp) o e]
 item:=by
  intro X hP hw hK hc i pins s J H E I hf st hg;subst hP hw hK;obtain⟨xs,ys,x,y,hqx,hqy,hx,hy⟩:=hg;obtain⟨hz,kf,⟨ta,tb,k7⟩,h1,h2⟩:=st;obtain⟨aw,rv,p1,m⟩:=I.list hqx;obtain⟨jts,yh,p2,m⟩:=I.list hqy;obtain⟨u,hu,ru⟩:=rv.get hx;obtain⟨v,hv,Ts⟩:=yh.get hy;refine wpAny_pyNext_zip_item D hz kf k7 h1 h2 p1.isList p2.isList (x:=u) (y:=v) (by simpa using hu) (by simpa using hv) λh' z1 t1 l1 l2 pT hsz hk=>?_;refine#[_,Y,wpAny_letOwnedTupleGo_zip z1 λh3 z3 Tt=>?_];have rR:Heap.SameBut z h' h3:=Tt;have neT:s.heap.objs.size≠z:=af3 (aeU hz);have up:∀ b o,b∉[z,TI,TO,i1,i2]->s.heap.get? b=U o->h3.get? b=U o:=λb o hb q=>by
   have c6:b≠z/\b≠TI/\b≠TO/\b≠i1/\b≠i2:=by simpa using hb
   exact rR.extBut b o c6.1 (hk b o c6.1 c6.2.2.1 c6.2.2.2.1 c6.2.2.2.2 q)
  have hn:H s.heap.objs.size=O:=I.aB.fresh (aeV _);refine#[.ref s.heap.objs.size,upd H s.heap.objs.size (.tup [x,y]),Ji (s:=s) (h':=h3) (t':=s.toks) I up hf (aeV _) #[BO,[u,v],.cons ru (.cons Ts .nil),?_],Y,#[_,x,y,Y,hn,Y,λzs BS=>by rw[I.uh BS hqx];exact hx,λzs BS=>by rw[I.uh BS hqy];exact hy],
   #[z3,rR.extBut _ _ D.TIz (hk _ _ D.TIz D.TITO D.TIi1 D.TIi2 kf),#[_,_,rR.extBut _ _ D.TOz t1],l1.at λo q=>rR.extBut _ _ D.i1z q,l2.at λo q=>rR.extBut _ _ D.i2z q],λb hb=>?_]
  .have:=rR.extBut _ _ neT pT;exact#[_,this,Y,_,Y]
  .rw[aI]
   .exact (hf b hb).1
   .have c6:b=z∨b=TI∨b=TO∨b=i1∨b=i2:=by simpa using hb
    rcases c6 with rfl|rfl|rfl|rfl|rfl
    .exact afR neT
    .exact afa (aeU kf)
    .exact afa (aeU k7)
    .obtain⟨o,q,m⟩:=h1;exact afa (aeU q)
    .obtain⟨o,q,m⟩:=h2;exact afa (aeU q)
 done:=by
  intro X hP hw hK hc i pins s J H E I hf st hg;subst hP hw hK;obtain⟨xs,ys,hqx,hqy,hx⟩:=hg;obtain⟨hz,kf,⟨ta,tb,k7⟩,h1,h2⟩:=st;obtain⟨aw,rv,p1,m⟩:=I.list hqx;obtain⟨jts,yh,p2,m⟩:=I.list hqy;have l1:=rv.length;have l2:=yh.length;refine wpAny_pyNext_zip_end (I.ok.hd hc) D hz kf k7 h1 h2 p1.isList p2.isList (hx.imp (λq=>by simp;lia) λq=>by simp;lia) λh' hk=>#[Y,Jh (t':=s.toks) I (λb o hb q=>?_) hf]
  have c6:b≠z/\b≠TI/\b≠TO/\b≠i1/\b≠i2:=by simpa using hb
  exact hk b o c6.1 c6.2.2.1 c6.2.2.2.1 c6.2.2.2.2 q
 self:=λm i s Q E st h=>al2 st.1 h
def BU(K:aeN)(ta:TA):TI:=λJ H R=>ta J H λvs H1=>∃ a b,vs=[.ref a,.ref b]/\(∃ xs,ai K H1 a xs)/\(∃ ys,ai K H1 b ys)/\R (uP K a b) H1
theorem Jl(hg:Gl X "zip")(hm:X.mg "zip" = O)(ha:PA X [e,f] ta)(hs:afb [e,f] X.env=(false,eval e X.env)::afb [f] X.env:=by rfl)(dO:afb [f] X.env=[(false,eval f X.env)]:=by rfl):PI X (.Tuple es k tp) (.Call (.Name "zip" p) [e,f] [] pos) (BU X.K ta):=by
 intro pins s J H R I h;refine anv (gG I hg hm RW (afw (aF (ha pos pins s J H _ I h) λus s1 ⟨vs,H1,I1,r1,q1⟩=>?_) hs (by rw[dO];rfl)));obtain⟨a,b,rfl,⟨xs,hqx⟩,⟨ys,hqy⟩,q⟩:=q1;obtain⟨u,v,rfl,ru,Tu⟩:=vals2 r1;cases ru;cases Tu;obtain⟨aw,rv,p1,y⟩:=I1.list hqx;obtain⟨jts,yh,p2,y⟩:=I1.list hqy;have a1:a<s1.heap.objs.size:=by obtain⟨y,e,y⟩:=p1.isList;exact aeU e
 have a2:b<s1.heap.objs.size:=by obtain⟨y,e,y⟩:=p2.isList;exact aeU e
 refine call_zip_2 p1.isList p2.isList λh' hz kf k7 h1 h2 hsz hk=>?_;refine al2 hz ?_;have I2:Inv X pins J H1 { s1 with heap:=h' }:=I1.kept (t':=s1.toks) hk;refine#[s1.heap.objs.size+4,[s1.heap.objs.size+4,s1.heap.objs.size+2,s1.heap.objs.size+3,s1.heap.objs.size,s1.heap.objs.size+1],_,_,H1,Y,I2,Tq a b _ _ _ _ _ (zipApart_new a1 a2),#[hz,kf,#[_,_,k7],h1,h2],λc hc=>?_,q];have lY:s1.heap.objs.size<=c:=by simp only[ae2,agC,or_false] at hc;walk_at "o"
 exact I1.jx lY (I1.aB.fresh lY)
section
theorem Jm(hc:X.calm=true):fY X (.builtin "sum") (λxs H Q=>∃ (a:ae0) (ns:List Int),xs=[.ref a]/\ai X.K H a (ns.map V.int)/\Q (.int ns.sum) H):=by
 intro pins s J H xs us Q I r h;obtain⟨a,ns,rfl,hS,q⟩:=h;obtain⟨u,rfl,ru⟩:=vals1 r;cases ru;obtain⟨aw,rv,hp,y⟩:=I.list hS;obtain⟨xs,e1,e2⟩:=uO rv;obtain⟨o,n,ho,bw,y,hdt⟩:=hp;have hl:s.heap.IsList a (agv xs):=#[o,ho,bw,n,by rw[hdt,e1]]
 refine sum_intListG (I.ok.hd hc) hl λh' tk t' hk=>#[.int ns.sum,H,I.kept hk,#[t',?_],q]
 rw[preSum_eq,aih (by simp),e2]
theorem BV:∀ {bs:List Bool} {aw:List aeX},Vals (bs.map V.bl) aw->aw=bs.map agz
 | [],aw,r=>by cases r;rfl
 | b::bs,aw,r=>by
  cases r with
  | cons r1 r2 =>
   cases r1;rw[BV r2];rfl
theorem uQ(hc:X.calm=true):fY X (.builtin "all") (λxs H Q=>∃ (a:ae0) (bs:List Bool),xs=[.ref a]/\ai X.K H a (bs.map V.bl)/\Q (.bl (bs.all id)) H):=by
 intro pins s J H xs us Q I r h;obtain⟨a,bs,rfl,hS,q⟩:=h;obtain⟨u,rfl,ru⟩:=vals1 r;cases ru;obtain⟨aw,rv,hp,y⟩:=I.list hS;have e:=BV rv;subst e;have hl:=hp.isList;have a8:a<s.heap.objs.size:=by obtain⟨y,e,y⟩:=hl;exact aeU e
 refine call_all_walk (ail hl ?_);refine#[s.heap.objs.size,[s.heap.objs.size,a],[s.heap.objs.size],(bs.map agz).toArray.size,_,_,λi=>(bs[i]?).getD true,Y,Walks.list (A:=X.A.in1) (I.ok.hd hc) _ a (afa a8) (bs.map agz).toArray,#[#[_,aeZ _ Y,Y,Y],hl.push _],λi v s' Q' E' hP hQ=>?_,λh' tk hk=>?_]
 .have mv:(bs[i]?).map agz=U v:=by simpa using hP
  cases e:bs[i]? with
  | none=>rw[e] at mv;cases mv
  | some b =>
   rw[e] at mv;cases mv;simp only[e,aiJ] at hQ;exact afH hQ
 .have e:((afp (bs.map agz).toArray.size).all λi=>(bs[i]?).getD true)=bs.all id:=by rw[ae3,aeO];exact PyProof.Rows.LSm.range_all bs
  rw[e];exact#[.bl (bs.all id),H,I.kept (λb o q=>hk b o (λz=>by
   have:b=s.heap.objs.size:=by simpa using z
   rw[this] at q;exact agk _ (aeU q)) (aeS _ q)),Y,q]
theorem yi(hc:X.calm=true):fY X (.builtin "any") (λxs H Q=>∃ (a:ae0) (bs:List Bool),xs=[.ref a]/\ai X.K H a (bs.map V.bl)/\Q (.bl (bs.any id)) H):=by
 intro pins s J H xs us Q I r h;obtain⟨a,bs,rfl,hS,q⟩:=h;obtain⟨u,rfl,ru⟩:=vals1 r;cases ru;obtain⟨aw,rv,hp,y⟩:=I.list hS;have e:=BV rv;subst e;have hl:=hp.isList;have a8:a<s.heap.objs.size:=by obtain⟨y,e,y⟩:=hl;exact aeU e
 refine call_any_walk (ail hl ?_);refine#[s.heap.objs.size,[s.heap.objs.size,a],[s.heap.objs.size],(bs.map agz).toArray.size,_,_,λi=>(bs[i]?).getD false,Y,Walks.list (A:=X.A.in1) (I.ok.hd hc) _ a (afa a8) (bs.map agz).toArray,#[#[_,aeZ _ Y,Y,Y],hl.push _],λi v s' Q' E' hP hQ=>?_,λh' tk hk=>?_]
 .have mv:(bs[i]?).map agz=U v:=by simpa using hP
  cases e:bs[i]? with
  | none=>rw[e] at mv;cases mv
  | some b =>
   rw[e] at mv;cases mv;simp only[e,aiJ] at hQ;exact afH hQ
 .have e:((afp (bs.map agz).toArray.size).any λi=>(bs[i]?).getD false)=bs.any id:=by rw[ae3,aeO];exact PyProof.Rows.LSm.range_any bs
  rw[e];exact#[.bl (bs.any id),H,I.kept (λb o q=>hk b o (λz=>by
   have:b=s.heap.objs.size:=by simpa using z
   rw[this] at q;exact agk _ (aeU q)) (aeS _ q)),Y,q]
end
section
variable{K:aeN}{g:TG}{tb:TS}{D:Ends}{J:L2.St}{H:Hp}{a b:ae0}{xs ys:List V}
theorem Tv{ta:TA}:kP (BN K ta) g tb D J H=ta J H (λvs H1=>∃ a xs,vs=[.ref a]/\ai K H1 a xs/\FJ (yf K a xs.length) g tb D J H1):=rfl
theorem Tw{ta:TA}:kP (BQ K ta) g tb D J H=ta J H (λvs H1=>∃ a,vs=[.ref a]/\(∃ xs,ai K H1 a xs)/\FJ (yg K a) g tb D J H1):=rfl
theorem Tz{ta:TA}:kP (BU K ta) g tb D J H=ta J H (λvs H1=>∃ a b,vs=[.ref a,.ref b]/\(∃ xs,ai K H1 a xs)/\(∃ ys,ai K H1 b ys)/\FJ (uP K a b) g tb D J H1):=rfl
theorem BW(Pv:Nat->L2.St->Hp->Prop)(h0:Pv 0 J H)(hl:∀ i J H,i<=xs.length->Pv i J H->ai K H a xs)(hs:∀ i x J H p,xs[i]?=U x->Pv i J H->H p=O->g (.ref p) J (upd H p (.tup [.int i,x])) λσ2 H2=>tb { D with nx:=Pv (i+1),ct:=Pv (i+1),bk:=D.nx } σ2 H2)(hd:∀ J H,Pv xs.length J H->D.nx J H):FJ (yg K a) g tb D J H:=by
 refine#[λi m J H=>m=xs.length-i/\i<=xs.length/\Pv i J H,#[_,Y,afi _,h0],?_];rintro i m J H ⟨rfl,hi,p⟩;have q:=hl i J H hi p;by_cases a8:i<xs.length
 .refine .inr #[#[xs,xs[i],q,by simp[a8]],Pv (i+1),λσ' H' p'=>#[xs.length-(i+1),by lia,Y,a8,p'],λv H' y=>?_];obtain⟨w,x,rfl,hw,rfl,y⟩:=y;exact hs i x J _ w (y xs q) p hw
 .have e:i=xs.length:=by lia
  subst e;exact .inl #[#[xs,q,aeV _],hd J H p]
theorem TC(Pv:Nat->L2.St->Hp->Prop)(h0:Pv 0 J H)(hl:∀ i J H,Pv i J H->ai K H a xs/\ai K H b ys)(hs:∀ i x y J H p,xs[i]?=U x->ys[i]?=U y->Pv i J H->H p=O->g (.ref p) J (upd H p (.tup [x,y])) λσ2 H2=>tb { D with nx:=Pv (i+1),ct:=Pv (i+1),bk:=D.nx } σ2 H2)(hd:∀ J H,Pv (min xs.length ys.length) J H->D.nx J H):FJ (uP K a b) g tb D J H:=by
 refine#[λi m J H=>m=min xs.length ys.length-i/\i<=min xs.length ys.length/\Pv i J H,#[_,Y,afi _,h0],?_];rintro i m J H ⟨rfl,hi,p⟩;have q:=hl i J H p;by_cases a8:i<min xs.length ys.length
 .have h1:i<xs.length:=by lia
  have h2:i<ys.length:=by lia
  refine .inr #[#[xs,ys,xs[i],ys[i],q.1,q.2,by simp[h1],by simp[h2]],Pv (i+1),λσ' H' p'=>#[min xs.length ys.length-(i+1),by lia,Y,a8,p'],λv H' y=>?_];obtain⟨w,x,y',rfl,hw,rfl,e1,e2⟩:=y;exact hs i x y' J _ w (e1 xs q.1) (e2 ys q.2) p hw
 .have e:i=min xs.length ys.length:=by lia
  refine .inl #[#[xs,ys,q.1,q.2,by lia],hd J H (e ▸ p)]
end
theorem nO{K:aeN}{i j:Nat}{p:ae0}{x y:V}{J:L2.St}{H:Hp}{Q:L2.St->Hp->Prop}(h:aj K H p [x,y])(q:Q ((J.set i (U x)).set j (U y)) H):jw K 2 (cY (cu i) (cY (cu j) iZ)) (.ref p) J H Q :=
 #[p,[x,y],Y,h,Y,x,[y],Y,y,[],Y,Y,q]
section
variable{X:Cx}{K:aeN}
def rS(Ok:Hp->Prop)(ρ:L2.St)(tt:TT)(te:TE):List (V × V)->List V->Hp->(List V->Hp->Prop)->Prop
 | [],zs,H,Q=>Ok H/\Q zs H
 | (x,y)::r,zs,H,Q=>Ok H/\∀ p,H p=O->tt (U x::U y::ρ) (upd H p (.tup [x,y])) λb H1=>if b=true then te (U x::U y::ρ) H1 λz H2=>rS Ok ρ tt te r (zs++[z]) H2 Q else rS Ok ρ tt te r zs H1 Q
theorem TF{os:List (Option V)}(h:os.length=2):∃ a b,os=[a,b]:=by
 match os,h with
 | [a,b],_=>exact#[a,b,Y]
theorem TH(hn:(xs.zip ys).length<=afl)(h:rS (λH=>ai K H a xs/\ai K H b ys) ρ tt te (xs.zip ys) [] H λzs H'=>∀ l,H' l=O->Q (.ref l) (upd H' l (.lst zs))) :
 j7 2 (uP K a b) (jw K 2 (cY (cu 0) (cY (cu 1) iZ))) ρ tt te H Q:=by
 have hlen:(xs.zip ys).length=min xs.length ys.length:=amo;refine#[λi m zs H=>m=(xs.zip ys).length-i/\i<=(xs.zip ys).length/\zs.length<=i/\rS (λH=>ai K H a xs/\ai K H b ys) ρ tt te ((xs.zip ys).drop i) zs H λzs H'=>∀ l,H' l=O->Q (.ref l) (upd H' l (.lst zs)),#[_,Y,afi _,aeV _,h],?_];rintro i m zs H ⟨rfl,hi,hy,g⟩;by_cases a8:i<(xs.zip ys).length
 .have e:=afY a8;have h1:i<xs.length:=by lia
  have h2:i<ys.length:=by lia
  have e2:(xs.zip ys)[i]=(xs[i],ys[i]):=List.getElem_zip;rw[e,e2] at g;obtain⟨⟨g0,yj⟩,g1⟩:=g;have l1:∀ y:V,(zs++[y]).length<=i+1:=λy=>by rw[ae1,afh];lia
  have l2:zs.length<=i+1:=by lia
  refine .inr #[#[xs,ys,xs[i],ys[i],g0,yj,by simp[h1],by simp[h2]],by lia,λws H'=>ws.length<=i+1/\rS (λH=>ai K H a xs/\ai K H b ys) ρ tt te ((xs.zip ys).drop (i+1)) ws H' λzs H'=>∀ l,H' l=O->Q (.ref l) (upd H' l (.lst zs)),λzs H' q=>#[_,by lia,Y,a8,q.1,q.2],λos i6 v H' y=>?_];obtain⟨p,x,y',rfl,hp,rfl,ex,ey⟩:=y;have ex:=ex xs g0;have ey:=ey ys yj;rw[aeQ h1] at ex;rw[aeQ h2] at ey;cases ex;cases ey;obtain⟨o1,o2,rfl⟩:=TF i6;refine nO (aj.of ar) #[[U xs[i],U ys[i]],Y,Y,?_];simp only[l1,l2,true_and];exact g1 p hp
 .have e:i=(xs.zip ys).length:=by lia
  subst e;rw[aj3] at g;obtain⟨⟨g0,yj⟩,g1⟩:=g;exact .inl #[#[xs,ys,g0,yj,by lia],by lia,g1]
end
mutual
inductive Dat(K:aeN)(H:Hp):V->aii->Prop where
 | non:Dat K H .non .none
 | bl (b:Bool):Dat K H (.bl b) (.bool b)
 | int (i:Int):Dat K H (.int i) (.int i)
 | str (x:Str):Dat K H (.str x) (.str x)
 | tup {a:ae0} {xs:List V} {ds:List aii} (h:aj K H a xs) (r:k8 K H xs ds):Dat K H (.ref a) (.tuple ds)
 | lst {a:ae0} {xs:List V} {ds:List aii} (h:ai K H a xs) (r:k8 K H xs ds):Dat K H (.ref a) (.list ds)
inductive k8(K:aeN)(H:Hp):List V->List aii->Prop where
 | nil:k8 K H [] []
 | cons {x:V} {d:aii} {xs:List V} {ds:List aii} (h:Dat K H x d) (r:k8 K H xs ds):k8 K H (x::xs) (d::ds)
end
section
variable{X:Cx}{pins:List (ae0 × Obj)}{J:L2.St}{H:Hp}{s:ae4}
theorem Dat.reads(I:Inv X pins J H s)(d:aii)(h:Dat X.K H v d):RelV v u->∃ as,Reads s.heap u d as:=by
 refine Dat.rec (motive_1:=λv d y=>∀ u,RelV v u->∃ as,Reads s.heap u d as) (motive_2:=λvs ds y=>∀ us,Vals vs us->∃ as,ReadsAll s.heap us ds as) ?_ ?_ ?_ ?_ ?_ ?_ ?_ ?_ h u
 .intro u r;cases r;exact#[_,.none]
 .intro b u r;cases r;exact#[_,.bool b]
 .rintro i u ⟨t,rfl⟩;exact#[_,.int i t]
 .rintro x u ⟨t,rfl⟩;exact#[_,.str x t]
 .intro a xs ds h q ih u r;cases r;obtain⟨aw,rv,⟨o,ho,hc,n,hd⟩,y⟩:=I.tuple h;obtain⟨as,ra⟩:=ih aw rv;exact#[_,.tuple ho hc hd (by simpa using ra)]
 .intro a xs ds h q ih u r;cases r;obtain⟨aw,rv,⟨o,n,ho,hc,y,hd⟩,y⟩:=I.list h;obtain⟨as,ra⟩:=ih aw rv;exact#[_,.list ho hc hd (by simpa using ra)]
 .intro us r;cases r;exact#[_,.nil]
 .intro x d xs ds h q BX BY us r;cases r with
  | cons r1 r2 =>
   obtain⟨as,ra⟩:=BX _ r1;obtain⟨bs,rb⟩:=BY _ r2;exact#[_,.cons ra rb]
def BZ(K:aeN)(neg:Bool):R2:=λx y H Q=>∃ d e,Dat K H x d/\Dat K H y e/\d.canLay0=true/\e.canLay0=true/\d.depth<=60/\Q (.bl (if neg=true then !ahp d e else ahp d e)) H
theorem Jn(hu:X.A.units+64<aka):bB X (af6 .Eq) (BZ X.K false):=by intro pins s J H x y v u Q I rx ry h;obtain⟨d,e,dx,dy,c1,c2,dd,q⟩:=h;obtain⟨as,ra⟩:=Dat.reads I d dx rx;obtain⟨bs,rb⟩:=Dat.reads I e dy ry;exact SeqAt.compareEq_reads ra rb c1 c2 (by lia) #[.bl _,H,I,Y,q]
theorem TJ(hu:X.A.units+64<aka):bB X (af6 .NotEq) (BZ X.K true):=by intro pins s J H x y v u Q I rx ry h;obtain⟨d,e,dx,dy,c1,c2,dd,q⟩:=h;obtain⟨as,ra⟩:=Dat.reads I d dx rx;obtain⟨bs,rb⟩:=Dat.reads I e dy ry;exact SeqAt.compareNe_reads ra rb c1 c2 (by lia) #[.bl _,H,I,Y,q]
end
noncomputable def yk(lo st:Int)(n:Nat):It:=#[λi y=>i<n,λi H x H'=>H'=H/\x = .int (lo+(i:Int) * st),λi y=>n<=i]
theorem TK{P:afG}{w:agn}{K:aeN}{tg:aiF}(it:ae0)(lo st:Int)(n:Nat):Turn P w K tg (yk lo st n) [it] it (λi h=>akX h it (lo+(i:Nat) * st) ((n:Int)-(i:Nat)) st) where
 mem:=by simp
 obj:=λi h q b hb=>by
  have e:b=it:=by simpa using hb
  subst e;exact#[_,q,λv z=>by
   have z':Data.fields _=Data.cell v:=z;cases z']
 keep:=λi h h' q k=>k it (by simp) _ q
 item:=by intro X hP hw hK hc i pins s J H E I hf q hg;subst hP hw hK;obtain⟨f0,f1,f2,f3,f4,f5⟩:=hf it (by simp);have W:=Walks.range (prog:=X.prog) (w:=X.w) (I.ok.hd hc) it lo st n;refine W.item i s _ _ hg q λv h' tk hv q' kk=>?_;obtain⟨t,rfl⟩:=hv;have I1:Inv X pins J H { s with heap:=h',toks:=tk }:=I.turned (λb o hb e=>kk b o (by simpa using hb) e) f0 f1 f3 f4 f5;exact#[_,Y,rq (s:={ s with heap:=h',toks:=tk }) (n := "range_iterator") q' Y Y (by decide) #[.int (lo+(i:Int) * st),H,I1,#[t,Y],#[Y,Y],q',λb hb=>(hf b hb).1]]
 done:=by
  intro X hP hw hK hc i pins s J H E I hf q hg;subst hP hw hK;obtain⟨f0,f1,f2,f3,f4,f5⟩:=hf it (by simp);exact aj8 (I.ok.hd hc) q (by have:n<=i:=hg;lia) λh' eb=>#[Y,I.turned (t':=s.toks) (λb o hb e=>eb b o hb e) f0 f1 f3 f4 f5]
 self:=λy y y y y q h=>aj9 q h
noncomputable def nQ(lo hi st:Int):Nat:=(afW lo hi st).toNat
def B0(ta:TA):TI:=λJ H R=>ta J H λvs H1=>∃ i j c:Int,vs=[.int i,.int j,.int c]/\(-1000000<=i/\i<=1000000/\-1000000<=j/\j<=1000000/\-1000000<=c/\c<=1000000/\c≠0)/\R (yk i c (nQ i j c)) H1
theorem Jo(i j c:Int)(h:c≠0):0<=afW i j c:=by
 unfold afW;split
 .rename_i hc;split
  .have:=amq (show 0<=j-i-1 by lia) (show 0<=c by lia);lia
  .lia
 .split
  .have:=amq (show 0<=i-j-1 by lia) (show 0 <= -c by lia);lia
  .lia
theorem size_le(i j c:Int)(h : -1000000<=i/\i<=1000000/\-1000000<=j/\j<=1000000/\c≠0):afW i j c<=2000000:=by
 unfold afW;split
 .split
  .have:=al3 (c) (show 0<=j-i-1 by lia);lia
  .lia
 .split
  .have:=al3 (-c) (show 0<=i-j-1 by lia);lia
  .lia
theorem TL(h : -1000000<=i/\i<=1000000/\-1000000<=j/\j<=1000000/\-1000000<=c/\c<=1000000/\c≠0):Builtin.Range.small i j c=true:=by have h1:=Jo i j c h.2.2.2.2.2.2;have h2:=size_le i j c #[h.1,h.2.1,h.2.2.1,h.2.2.2.1,h.2.2.2.2.2.2];unfold Builtin.Range.small;generalize afW i j c=n at h1 h2 ⊢;simp only[amr,aga,ai0,decide_eq_true_eq,beq_iff_eq];refine#[by lia,.inr ?_];split<;>simp only[aga,decide_eq_true_eq]<;>lia
theorem TM(hg:Gl X "range")(hm:X.mg "range" = O)(ha:PA X [a,b,c] ta)(hs:afb [a,b,c] X.env=(false,eval a X.env)::afb [b,c] X.env:=by rfl)(dO:afb [b,c] X.env=[(false,eval b X.env),(false,eval c X.env)]:=by rfl) :
 PI X tg (.Call (.Name "range" p) [a,b,c] [] pos) (B0 ta):=by
 intro pins s J H R I h;refine anv (gG I hg hm amS (afw (aF (ha pos pins s J H _ I h) λus s1 ⟨vs,H1,I1,r1,q1⟩=>?_) (by rw[hs]) (by rw[dO];rfl)));obtain⟨i,j,k,e,hb,q⟩:=q1;subst e;cases r1 with
 | cons r rr =>
  cases rr with
  | cons r' rr =>
   cases rr with
   | cons uR rr =>
    cases rr;obtain⟨t,rfl⟩:=r;obtain⟨t',rfl⟩:=r';obtain⟨Jp,rfl⟩:=uR;have hk:k≠0:=hb.2.2.2.2.2.2;refine call_range_3 hk ?_ (.inl (PyProof.noPylong_small (by lia)));refine ala (IsRange.new ..) (TL hb) ?_;have I2:Inv X pins J H1 { s1 with heap:=s1.heap.push { cls:=.type "range",data:=.fields (List.toArray [.int i t,.int j t',.int k Jp]) },toks:=s1.toks }:=I1.kept λb o e=>aeS _ e;refine#[_,[_],_,_,H1,Y,I2.kept (t':=s1.toks) λb o e=>aeS _ e,TK _ i k (nQ i j k),?_,λb hb=>?_,q]
    .have e1:i+((0:Nat):Int) * k=i:=by simp
     have e2:((nQ i j k:Nat):Int)-((0:Nat):Int)=afW i j k:=by have:=Jo i j k hk;unfold nQ;lia
     show akX _ _ (i+((0:Nat):Int) * k) (((nQ i j k:Nat):Int)-((0:Nat):Int)) k;rw[e1,e2];exact aeZ _ rfl
    .have e:b=(s1.heap.push { cls:=.type "range",data:=.fields (List.toArray [.int i t,.int j t',.int k Jp]) }).objs.size:=by simpa using hb
     subst e;exact I2.jx (aeV _) (I2.aB.fresh (aeV _))
section
variable{g:TG}{tb:TS}{D:Ends}{J:L2.St}{H:Hp}{lo st:Int}{n:Nat}
theorem TN:kP (A4 ta) g tb D J H=ta J H (λvs H1=>∃ i j:Int,vs=[.int i,.int j]/\(-(2 ^ 62)<=i/\i<2 ^ 62/\-(2 ^ 62)<=j/\j<2 ^ 62)/\FJ (jy i (j-i).toNat) g tb D J H1):=rfl
theorem TQ:kP (B0 ta) g tb D J H=ta J H (λvs H1=>∃ i j c:Int,vs=[.int i,.int j,.int c]/\(-1000000<=i/\i<=1000000/\-1000000<=j/\j<=1000000/\-1000000<=c/\c<=1000000/\c≠0)/\FJ (yk i c (nQ i j c)) g tb D J H1):=rfl
theorem TR(Pv:Nat->L2.St->Hp->Prop)(h0:Pv 0 J H)(hs:∀ i J H,i<n->Pv i J H->g (.int (lo+(i:Int) * st)) J H λσ2 H2=>tb { D with nx:=Pv (i+1),ct:=Pv (i+1),bk:=D.nx } σ2 H2)(hd:∀ J H,Pv n J H->D.nx J H):FJ (yk lo st n) g tb D J H:=by
 refine#[λi m J H=>m=n-i/\i<=n/\Pv i J H,#[n,by simp,afi _,h0],?_];rintro i m J H ⟨rfl,hi,p⟩;by_cases a8:i<n
 .refine .inr #[a8,Pv (i+1),λσ' H' p'=>#[n-(i+1),by lia,Y,a8,p'],λx H' y=>?_];obtain⟨e,y⟩:=y;subst e y;exact hs i J _ a8 p
 .have e:i=n:=by lia
  subst e;exact .inl #[aeV _,hd J H p]
end
theorem TU(xs:List V){a b:Nat}(h2:b<=xs.length):fJ xs (U (a:Int)) (U (b:Int))=(xs.drop a).take (b-a):=by
 unfold fJ;rw[HT.xN,HT.xN,ai1 h2];by_cases h:a<=xs.length
 .rw[ai1 h]
 .rw[aj4 (by lia),ahr (aeV _),ahr (by lia)];simp
theorem TV(xs:List V)(b:Nat):fJ xs O (U (b:Int))=xs.take b:=by
 unfold fJ;rw[HT.xN,HT.HE,List.drop_zero,Nat.sub_zero];by_cases h:b<=xs.length
 .rw[ai1 h]
 .rw[aj4 (by lia),afV,aih (by lia)]
theorem TX(xs:List V)(a:Nat):fJ xs (U (a:Int)) O=xs.drop a:=by
 unfold fJ;rw[HT.xN,HT.HE];by_cases h:a<=xs.length
 .rw[ai1 h,aih (by rw[ahW];lia)]
 .rw[aj4 (by lia),ahr (aeV _),ahr (by lia)];simp
mutual
noncomputable def jH:Nat->aii->Bool
 | _,.none=>true
 | _,.bool _=>true
 | _,.int _=>true
 | n+1,.tuple ds=>rT n ds
 | n+1,.list ds=>rT n ds
 | _,_=>false
noncomputable def rT:Nat->List aii->Bool
 | _,[]=>true
 | n,d::ds=>jH n d && rT n ds
end
mutual
theorem Jq:∀ (d:aii) {n:Nat},jH n d=true->ahp d d=true/\d.canLay0=true/\d.depth<=n
 | .none,n,_=>#[Y,Y,afi _]
 | .bool b,n,_=>#[by simp[ahp],Y,afi _]
 | .int i,n,_=>#[by simp[ahp],Y,afi _]
 | .str x,0,h=>by simp[jH] at h
 | .str x,n+1,h=>by simp[jH] at h
 | .dict x,0,h=>by simp[jH] at h
 | .dict x,n+1,h=>by simp[jH] at h
 | .tuple ds,0,h=>by simp[jH] at h
 | .list ds,0,h=>by simp[jH] at h
 | .tuple ds,n+1,h=>by obtain⟨a,b,c⟩:=B1 ds (n:=n) (by simpa [jH] using h);exact#[by simpa only [ahp] using a,by simpa only [ais] using b,by simp only[PyData.depth];lia]
 | .list ds,n+1,h=>by obtain⟨a,b,c⟩:=B1 ds (n:=n) (by simpa [jH] using h);exact#[by simpa only [ahp] using a,by simpa only [ais] using b,by simp only[PyData.depth];lia]
theorem B1:∀ (ds:List aii) {n:Nat},rT n ds=true->ajV ds ds=true/\aip ds=true/\ai2 ds<=n
 | [],n,_=>#[Y,Y,afi _]
 | d::ds,n,h=>by
  have h':jH n d=true/\rT n ds=true:=by simpa [rT] using h
  obtain⟨a,b,c⟩:=Jq d h'.1;obtain⟨a',b',c'⟩:=B1 ds h'.2;exact#[by simp only[ajV,a,a',ajW],by simp only[aip,b,b',ajW],by simp only[ai2];lia]
end
theorem Jr(bM:Ok H):∀ {xs ys:List V},(∀ x∈xs,∀ Q,Q true H->tt (U x::ρ) H Q)->(∀ x∈xs,∀ Q:VK,(∀ n:Int,Q (.int n) H)->te (U x::ρ) H Q)->(∀ ms:List Int,ms.length=xs.length->Q' (ys++ms.map V.int) H)->fq Ok ρ tt te xs ys H Q'
 | [],ys,_,_,q=>#[bM,by simpa using q [] Y]
 | x::r,ys,ht,he,q=>by refine#[bM,ht x (.head _) _ ?_];rw[if_pos Y];refine he x (.head _) _ λn=>Jr bM (λy hy=>ht y (.tail _ hy)) (λy hy=>he y (.tail _ hy)) λms hm=>?_;have:=q (n::ms) (by simp[hm]);simpa using this
end Gz
namespace Gz
noncomputable def Js(a b:Int):Int:=((Nat.gcd a.natAbs b.natAbs:Nat):Int)
noncomputable def sg(t b:Int):Int:=if b<0 then -Js t b else Js t b
noncomputable def rt(t b:Int):Int:=t.fdiv (sg t b)
noncomputable def rb(t b:Int):Int:=b.fdiv (sg t b)
end Gz
namespace Gz
open PySem PySem.Spec PyProof.Rows L2
def ax{α:Type}(R:V->α->Prop):List V->List α->Prop
 | [],[]=>True
 | x::xs,a::as=>R x a/\ax R xs as
 | _,_=>False
section
variable{α:Type}{R R':V->α->Prop}
theorem ax.len:∀ {xs:List V} {as:List α},ax R xs as->xs.length=as.length
 | [],[],_=>rfl
 | _::_,_::_,h=>by simp[ax.len h.2]
 | [],_::_,h=>h.elim
 | _::_,[],h=>h.elim
theorem ax.imp(f:∀ x a,R x a->R' x a):∀ {xs:List V} {as:List α},ax R xs as->ax R' xs as
 | [],[],_=>trivial
 | _::_,_::_,h=>#[f _ _ h.1,ax.imp f h.2]
 | [],_::_,h=>h.elim
 | _::_,[],h=>h.elim
theorem ax.get:∀ {xs:List V} {as:List α},ax R xs as->∀ {i:Nat} {x:V},xs[i]?=U x->∃ a,as[i]?=U a/\R x a
 | [],[],_,i,x,e=>by simp at e
 | _::_,a::_,h,0,x,e=>by simp at e;subst e;exact#[a,by simp,h.1]
 | _::_,_::_,h,i+1,x,e=>by simp only[ajX] at e ⊢;exact ax.get h.2 e
 | [],_::_,h,_,_,_=>h.elim
 | _::_,[],h,_,_,_=>h.elim
theorem ax.at:∀ {xs:List V} {as:List α},ax R xs as->∀ {i:Nat} {a:α},as[i]?=U a->∃ x,xs[i]?=U x/\R x a
 | [],[],_,i,x,e=>by simp at e
 | x::_,_::_,h,0,a,e=>by simp at e;subst e;exact#[x,by simp,h.1]
 | _::_,_::_,h,i+1,a,e=>by simp only[ajX] at e ⊢;exact ax.at h.2 e
 | [],_::_,h,_,_,_=>h.elim
 | _::_,[],h,_,_,_=>h.elim
theorem ax.app:∀ {xs ys:List V} {as bs:List α},ax R xs as->ax R ys bs->ax R (xs++ys) (as++bs)
 | [],_,[],_,_,h=>h
 | _::_,_,_::_,_,h,h'=>#[h.1,ax.app h.2 h']
 | [],_,_::_,_,h,_=>h.elim
 | _::_,_,[],_,h,_=>h.elim
theorem ax.snoc(h:ax R xs as)(h':R x a):ax R (xs++[x]) (as++[a]):=h.app #[h',trivial]
theorem ax.ints:∀ (ns:List Int),ax (λx n=>x=V.int n) (ns.map V.int) ns
 | []=>trivial
 | n::ns=>#[Y,ax.ints ns]
theorem ax.jt{lo:Int}(n:Nat):ax (λx (k:Nat)=>x=V.int (lo+k)) ((afp n).map λk=>V.int (lo+(k:Nat))) (afp n):=by
 suffices ∀ l:List Nat,ax (λx (k:Nat)=>x=V.int (lo+k)) (l.map λk=>V.int (lo+(k:Nat))) l from this _
 intro l
 induction l with
 | nil=>trivial
 | cons a l ih=>exact#[Y,ih]
end
theorem mw{α:Type}{R:Hp->V->α->Prop}{Ok:Hp->Prop}{ρ:L2.St}{tt:TT}{te:TE}{p:α->Bool}{f:α->V}{Q':List V->Hp->Prop}(mono:∀ H H' x a,ah H H'->R H x a->R H' x a):∀ {xs:List V} {as:List α} {ys:List V} {H:Hp},ax (R H) xs as->(∀ H',ah H H'->Ok H') ->
 (∀ x a,a∈as->∀ H',ah H H'->R H' x a->∀ Q,(∀ ic,ah H' ic->Q (p a) ic)->tt (U x::ρ) H' Q)->(∀ x a,a∈as->p a=true->∀ H',ah H H'->R H' x a->∀ Q:VK,(∀ ic,ah H' ic->Q (f a) ic)->te (U x::ρ) H' Q) ->
 (∀ H',ah H H'->Q' (ys++(as.filter p).map f) H')->fq Ok ρ tt te xs ys H Q'
 | [],[],ys,H,_,bM,_,_,q=>#[bM H (ah.refl H),by simpa using q H (ah.refl H)]
 | x::xs,a::as,ys,H,h,bM,ht,he,q=>by
  refine#[bM H (ah.refl H),ht x a (.head _) H (ah.refl H) h.1 _ λH1 s1=>?_];by_cases hb:p a=true
  .rw[if_pos hb];refine he x a (.head _) hb H1 s1 (mono _ _ _ _ s1 h.1) _ λH2 s2=>?_;have S:=s1.trans s2;refine mw mono (h.2.imp λx a r=>mono _ _ _ _ S r) (λH' s'=>bM H' (S.trans s')) (λx a ha H' s'=>ht x a (.tail _ ha) H' (S.trans s')) (λx a ha hb H' s'=>he x a (.tail _ ha) hb H' (S.trans s')) λH' s'=>?_;have:=q H' (S.trans s');rw[afU,if_pos hb] at this;simpa using this
  .rw[if_neg hb];refine mw mono (h.2.imp λx a r=>mono _ _ _ _ s1 r) (λH' s'=>bM H' (s1.trans s')) (λx a ha H' s'=>ht x a (.tail _ ha) H' (s1.trans s')) (λx a ha hb H' s'=>he x a (.tail _ ha) hb H' (s1.trans s')) λH' s'=>?_;have:=q H' (s1.trans s');rw[afU,if_neg hb] at this;exact this
 | [],_::_,_,_,h,_,_,_,_=>h.elim
 | _::_,[],_,_,h,_,_,_,_=>h.elim
theorem lg(bM:Ok H):∀ {xs:List V} {as:List α} {ys:List V},ax R xs as ->
 (∀ x a,a∈as->R x a->∀ Q,Q (p a) H->tt (U x::ρ) H Q)->(∀ x a,a∈as->p a=true->R x a->∀ Q:VK,Q (f a) H->te (U x::ρ) H Q) ->
 Q' (ys++(as.filter p).map f) H->fq Ok ρ tt te xs ys H Q'
 | [],[],ys,_,_,_,q=>#[bM,by simpa using q]
 | x::xs,a::as,ys,h,ht,he,q=>by
  refine#[bM,ht x a (.head _) h.1 _ ?_];by_cases hb:p a=true
  .rw[if_pos hb];refine he x a (.head _) hb h.1 _ (lg bM h.2 (λx a ha=>ht x a (.tail _ ha)) (λx a ha=>he x a (.tail _ ha)) ?_);rw[afU,if_pos hb] at q;simpa using q
  .rw[if_neg hb];refine lg bM h.2 (λx a ha=>ht x a (.tail _ ha)) (λx a ha=>he x a (.tail _ ha)) ?_;rw[afU,if_neg hb] at q;exact q
 | [],_::_,_,h,_,_,_=>h.elim
 | _::_,[],_,h,_,_,_=>h.elim
theorem filter_tt(l:List α):l.filter (λy=>true)=l:=ahk.mpr λy y=>rfl
abbrev P2:=Int × Int
def dP(H:Hp)(v:V)(p:P2):Prop:=∃ a,v = .ref a/\H a=U (.tup [.int p.1,.int p.2])
theorem dP.same(h:dP H v p)(s:ah H H'):dP H' v p:=let ⟨a,e,q⟩:=h;#[a,e,s _ _ q]
theorem dP.put(h:dP H v p)(hr:H r=U (.lst ys)):dP (upd H r (.lst zs)) v p:=by obtain⟨a,e,q⟩:=h;refine#[a,e,?_];rw[aI (rg q hr (λz=>nomatch z))];exact q
abbrev iG(H:Hp):List V->List P2->Prop:=ax (dP H)
theorem iG.same(h:iG H xs ps)(s:ah H H'):iG H' xs ps:=ax.imp (λy y r=>r.same s) h
noncomputable def aside(s e p:P2):Int:=(p.2-s.2) * (e.1-s.1)-(p.1-s.1) * (e.2-s.2)
noncomputable def aK(ps:List P2)(i:Nat):P2:=ps.getD i (0,0)
def TY(ks:List P2)(p q:Int)(i:Nat):Prop:=i+1<ks.length/\(aK ks i).1 * q<=p/\p<=(aK ks (i+1)).1 * q
def hit(ks:List P2)(p q:Int):Prop:=∃ i,TY ks p q i
def SameBut(x:ae0)(H H':Hp):Prop:=∀ b o,b≠x->H b=U o->H' b=U o
theorem rV(hi:i<ps.length):aK ps i∈ps:=by unfold aK;rw[aeP,aeQ hi];exact aj5 hi
theorem ie{α β:Type}{R:Hp->V->α->Prop}{R':Hp->V->β->Prop}{Ok:Hp->Prop}{ρ:L2.St}{tt:TT}{te:TE}{f:α->β}{Q':List V->Hp->Prop}(mono:∀ H H' x a,ah H H'->R H x a->R H' x a)(kg:∀ H H' x a,ah H H'->R' H x a->R' H' x a) :
 ∀ {xs:List V} {as:List α} {ys:List V} {bs:List β} {H:Hp},ax (R H) xs as->ax (R' H) ys bs->(∀ H',ah H H'->Ok H')->(∀ x a,a∈as->∀ H',ah H H'->R H' x a->∀ Q,Q true H'->tt (U x::ρ) H' Q) ->
 (∀ x a,a∈as->∀ H',ah H H'->R H' x a->∀ Q:VK,(∀ ic y,ah H' ic->R' ic y (f a)->Q y ic)->te (U x::ρ) H' Q) ->
 (∀ H' zs,ah H H'->ax (R' H') zs (bs++as.map f)->Q' zs H')->fq Ok ρ tt te xs ys H Q'
 | [],[],ys,bs,H,_,hy,bM,_,_,q=>#[bM H (ah.refl H),q H ys (ah.refl H) (by simpa using hy)]
 | x::xs,a::as,ys,bs,H,h,hy,bM,ht,he,q=>by
  refine#[bM H (ah.refl H),ht x a (.head _) H (ah.refl H) h.1 _ ?_];rw[if_pos Y];refine he x a (.head _) H (ah.refl H) h.1 _ λH2 y s2 r2=>?_;refine ie mono kg (bs:=bs++[f a]) (h.2.imp λx a r=>mono _ _ _ _ s2 r) ((hy.imp λx a r=>kg _ _ _ _ s2 r).snoc r2) (λH' s'=>bM H' (s2.trans s')) (λx a ha H' s'=>ht x a (.tail _ ha) H' (s2.trans s')) (λx a ha H' s'=>he x a (.tail _ ha) H' (s2.trans s')) λH' zs s' hz=>?_;refine q H' zs (s2.trans s') ?_;rw[ae7]
  rwa [ajF] at hz
 | [],_::_,_,_,_,h,_,_,_,_,_=>h.elim
 | _::_,[],_,_,_,h,_,_,_,_,_=>h.elim
noncomputable def sw(ks:List P2):List P2:=ks.map λp=>(p.2,p.1)
end Gz
namespace Gz
open PySem PySem.W PyProof.Rows
def ft{α:Type}(lt:Nat->Nat->Bool)(n:Nat):KasT α->(α->Prop)->Prop
 | .ret a,P=>P a
 | .ask i j k,P=>i<n/\j<n/\ft lt n (k (lt i j)) P
section
theorem rW:∀ (t:KasT α),ft lt n t (λa=>ft lt n (f a) P)->ft lt n (t.bind f) P
 | .ret _,h=>h
 | .ask _ _ k,h=>#[h.1,h.2.1,rW (k _) h.2.2]
theorem Jt{α:Type}{P P':α->Prop}(h:∀ a,P a->P' a):∀ (t:KasT α),ft lt n t P->ft lt n t P'
 | .ret _,q=>h _ q
 | .ask _ _ k,q=>#[q.1,q.2.1,Jt h (k _) q.2.2]
theorem Ju{α:Type}{cmp:Nat->Nat->(Bool->ae4->Prop)->ae4->Prop}{Ok:ae4->Prop}(hc:∀ i j C s,i<n->j<n->Ok s->(∀ s',Ok s'->C (lt i j) s')->cmp i j C s){P:α->Prop}{Q:α->ae4->Prop}(hQ:∀ a s,Ok s->P a->Q a s) :
 ∀ (t:KasT α) (s:ae4),Ok s->ft lt n t P->t.kasWp cmp Q s
 | .ret a,s,o,h=>hQ a s o h
 | .ask i j k,s,o,h=>hc i j _ s h.1 h.2.1 o λs' o'=>Ju hc hQ (k (lt i j)) s' o' h.2.2
structure Ord(lt:Nat->Nat->Bool):Prop where
 asym:∀ {a b},lt a b=true->lt b a=false
 tr:∀ {a b c},lt b a=false->lt c b=false->lt c a=false
theorem Ord.rfl'(O9q:Ord lt)(a:Nat):lt a a=false:=by
 cases h:lt a a with
 | false=>rfl
 | true=>rw[O9q.asym h] at h;cases h
def fu(lt:Nat->Nat->Bool)(p:Array Nat)(k:Nat):Prop:=∀ i j,i<=j->j<k->lt (p.getD j 0) (p.getD i 0)=false
def gL(lt:Nat->Nat->Bool)(p:Array Nat)(k:Nat):Prop:=∀ i j,i<=j->j<k->lt (p.getD i 0) (p.getD j 0)=false
def c7(n:Nat)(p:Array Nat):Prop:=p.toList.Perm (afp n)
theorem c7.size(h:c7 n p):p.size=n:=by have:=h.length_eq;simpa using this
theorem c7.below(h:c7 n p)(hi:i<n):p.getD i 0<n:=by
 have hs:=h.size;have dB:i<p.size:=by lia
 have e:p.getD i 0=p[i]:=by simp[amV,dB]
 rw[e];have m:p[i]∈p.toList:=by simp
 simpa using h.mem_iff.mp m
theorem c7.of(h:c7 n p)(hq:q.Perm p):c7 n q:=(Array.perm_iff_toList_perm.mp hq).trans h
theorem fu.one(O9q:Ord lt):fu lt p 1:=λi j jd hj=>by
 have:i=j:=by lia
 subst this;exact O9q.rfl' _
theorem gL.one(O9q:Ord lt):gL lt p 1:=λi j jd hj=>by
 have:i=j:=by lia
 subst this;exact O9q.rfl' _
theorem fu.succ(O9q:Ord lt)(h:fu lt p k)(hk:1<=k)(hn:lt (p.getD k 0) (p.getD (k-1) 0)=false):fu lt p (k+1):=λi j jd hj=>by
 by_cases e:j=k
 .subst e;by_cases ei:i=j
  .subst ei;exact O9q.rfl' _
  .exact O9q.tr (h i (j-1) (by lia) (by lia)) hn
 .exact h i j jd (by lia)
theorem gL.succ(O9q:Ord lt)(h:gL lt p k)(hk:1<=k)(hn:lt (p.getD (k-1) 0) (p.getD k 0)=false):gL lt p (k+1):=λi j jd hj=>by
 by_cases e:j=k
 .subst e;by_cases ei:i=j
  .subst ei;exact O9q.rfl' _
  .exact O9q.tr hn (h i (j-1) (by lia) (by lia))
 .exact h i j jd (by lia)
theorem nR(hj:j<=p.size)(k:Nat):(kas_rev p i j).getD k 0=if i<=k/\k<j then p.getD (i+j-1-k) 0 else p.getD k 0:=by simp only[ai3];unfold kas_rev;rw[getElem?_mirror_all hj];split<;>rfl
theorem Jv(hk:k<p.size)(hl:l<=k)(i:Nat):(bubble p k (k-l)).getD i 0=if i=l then p.getD k 0 else if l<i/\i<=k then p.getD (i-1) 0 else p.getD i 0:=by
 simp only[ai3];rw[getElem?_bubble hk _ (by lia)];have e:k-(k-l)=l:=by lia
 rw[e];split
 .rfl
 .split<;>rfl
theorem Jw(O9q:Ord lt)(hp:c7 n p):∀ (f a:Nat),1<=a->a+f<=n->fu lt p a->(∀ m,a<=m->m<=a+f->fu lt p m->P m)->ft lt n (kas_asc p f a) P
 | 0,a,h1,h2,hs,q=>q a (aeV _) (by lia) hs
 | f+1,a,h1,h2,hs,q=>by
  refine#[hp.below (by lia),hp.below (by lia),?_];cases c:lt (p.getD a 0) (p.getD (a-1) 0) with
  | true =>
   simp only[↓reduceIte];exact q a (aeV _) (by lia) hs
  | false =>
   simp only[afn,↓reduceIte];exact Jw O9q hp f (a+1) (by lia) (by lia) (hs.succ O9q h1 c) λm m1 m2=>q m (by lia) (by lia)
theorem gL.rev(h:gL lt p k)(hk:k<=p.size)(hi:i<=k)(he:∀ j,i<=j->j<k->lt (p.getD (k-1) 0) (p.getD j 0)=false)(O9q:Ord lt):gL lt (kas_rev p i k) k:=λa b iH hb=>by
 rw[nR hk,nR hk];have eqv:∀ x y,i<=x->x<k->i<=y->y<k->lt (p.getD x 0) (p.getD y 0)=false:=λx y x1 x2 y1 y2=>O9q.tr (he y y1 y2) (h x (k-1) (by lia) (by lia));split
 .split
  .exact eqv _ _ (by lia) (by lia) (by lia) (by lia)
  .exfalso;lia
 .split
  .exact h _ _ (by lia) (by lia)
  .exact h _ _ iH hb
theorem ym(O9q:Ord lt):∀ (f:Nat) (p:Array Nat) (k q:Nat),c7 n p->1<=k->k+f<=n->q+1<=k->gL lt p k->(∀ j,k-(q+1)<=j->j<k->lt (p.getD (k-1) 0) (p.getD j 0)=false) ->
 (∀ p' k' q',c7 n p'->k<=k'->k'<=k+f->q' + 1<=k'->gL lt p' k'->(∀ j,k' - (q' + 1)<=j->j<k'->lt (p'.getD (k' - 1) 0) (p'.getD j 0)=false)->P (p',k',q'))->ft lt n (kas_desc f p k q) P
 | 0,p,k,q,hp,h1,h2,h3,hd,he,fin=>fin p k q hp (aeV _) (by lia) h3 hd he
 | f+1,p,k,q,hp,h1,h2,h3,hd,he,fin=>by
  have hs:=hp.size;have one:∀ (p':Array Nat),∀ j,(k+1)-(0+1)<=j->j<k+1->lt (p'.getD (k+1-1) 0) (p'.getD j 0)=false:=λp' j j1 j2=>by
   have:j=k:=by lia
   subst this;exact O9q.rfl' _
  refine#[hp.below (by lia),hp.below (by lia),?_];cases c:lt (p.getD k 0) (p.getD (k-1) 0) with
  | true =>
   simp only[↓reduceIte];have c':=O9q.asym c;by_cases hq:q > 0
   .rw[if_pos hq];have eK:c7 n (kas_rev p (k-(q+1)) k):=hp.of (ak2 _ _ _ _);have jX:gL lt (kas_rev p (k-(q+1)) k) k:=hd.rev (by lia) (by lia) he O9q;refine ym O9q f _ (k+1) 0 eK (by lia) (by lia) (by lia) (jX.succ O9q h1 ?_) (one _) λp2 k2 q2 a1 a2 a3 a4 a5 a6=>fin p2 k2 q2 a1 (by lia) (by lia) a4 a5 a6;rw[nR (by lia),nR (by lia),if_pos (by lia),if_neg (by lia)];have e1:k-(q+1)+k-1-(k-1)=k-(q+1):=by lia
    rw[e1];exact O9q.tr c' (hd _ (k-1) (by lia) (by lia))
   .rw[if_neg hq];exact ym O9q f p (k+1) 0 hp (by lia) (by lia) (by lia) (hd.succ O9q h1 c') (one _) λp2 k2 q2 a1 a2 a3 a4 a5 a6=>fin p2 k2 q2 a1 (by lia) (by lia) a4 a5 a6
  | false =>
   simp only[afn,↓reduceIte];refine#[hp.below (by lia),hp.below (by lia),?_];cases d:lt (p.getD (k-1) 0) (p.getD k 0) with
   | true =>
    simp only[↓reduceIte];exact fin p k q hp (aeV _) (by lia) h3 hd he
   | false =>
    simp only[afn,↓reduceIte];refine ym O9q f p (k+1) (q+1) hp (by lia) (by lia) (by lia) (hd.succ O9q h1 d) (λj j1 j2=>?_) λp2 k2 q2 a1 a2 a3 a4 a5 a6=>fin p2 k2 q2 a1 (by lia) (by lia) a4 a5 a6;have ek:k+1-1=k:=by lia
    rw[ek];by_cases ej:j=k
    .subst ej;exact O9q.rfl' _
    .exact O9q.tr (he j (by lia) (by lia)) c
theorem gL.whole(h:gL lt p k)(hk:k<=p.size):fu lt (kas_rev p 0 k) k:=λa b iH hb=>by rw[nR hk,nR hk,if_pos (by lia),if_pos (by lia)];exact h _ _ (by lia) (by lia)
theorem Jx(O9q:Ord lt)(hp:c7 n p)(h1:1<=k)(h2:k<=n)(hd:gL lt p k)(fin:∀ m p',c7 n p'->1<=m->m<=n->fu lt p' m->P (m,p')):ft lt n (kas_tail3 k n p) P:=by have eK:c7 n (kas_rev p 0 k):=hp.of (ak2 _ _ _ _);have hs:=hp.size;unfold kas_tail3;refine rW _ (Jw O9q eK (n-k) k h1 (by lia) (hd.whole (by lia)) λm m1 m2 ms=>?_);exact fin m _ eK (by lia) (by lia) ms
theorem Jy(O9q:Ord lt)(hp:c7 n p)(h1:1<=k)(h2:k+1<=n)(hd:gL lt p (k+1))(fin:∀ m p',c7 n p'->1<=m->m<=n->fu lt p' m->P (m,p')):ft lt n (kas_descPart k n p) P:=by
 unfold kas_descPart;refine rW _ (ym O9q (n-(k+1)) p (k+1) 0 hp (by lia) (by lia) (by lia) hd (λj j1 j2=>?_) λp2 k2 q2 a1 a2 a3 a4 a5 a6=>?_)
 .have:j=k:=by lia
  subst this;exact O9q.rfl' _
 .have hs:=a1.size;dsimp only;by_cases hq:q2 > 0
  .rw[if_pos hq];exact Jx O9q (a1.of (ak2 _ _ _ _)) (by lia) (by lia) (a5.rev (by lia) (by lia) a6 O9q) fin
  .rw[if_neg hq];exact Jx O9q a1 (by lia) (by lia) a5 fin
theorem TZ(O9q:Ord lt)(hp:c7 n p)(hn:1<=n)(fin:∀ m p',c7 n p'->1<=m->m<=n->fu lt p' m->P (m,p')):ft lt n (kas_count n p) P:=by
 have hs:=hp.size;unfold kas_count;have key:ft lt n (kas_asc p (n-1) 1) (λm=>1<=m/\m<=n/\fu lt p m/\(m<n->lt (p.getD m 0) (p.getD (m-1) 0)=true)):=by
  have gen:∀ (f a:Nat),1<=a->a+f=n->fu lt p a->ft lt n (kas_asc p f a) (λm=>1<=m/\m<=n/\fu lt p m/\(m<n->lt (p.getD m 0) (p.getD (m-1) 0)=true)):=by
   intro f
   induction f with
   | zero=>intro a h1 h2 hs;exact#[h1,by lia,hs,λz=>absurd z (by lia)]
   | succ f ih =>
    intro a h1 h2 hs;refine#[hp.below (by lia),hp.below (by lia),?_];cases c:lt (p.getD a 0) (p.getD (a-1) 0) with
    | true =>
     simp only[↓reduceIte];exact#[h1,by lia,hs,λv=>c]
    | false =>
     simp only[afn,↓reduceIte];exact ih (a+1) (by lia) (by lia) (hs.succ O9q h1 c)
  exact gen (n-1) 1 (aeV _) (by lia) (fu.one O9q)
 refine rW _ (Jt (λm hm=>?_) _ key);obtain⟨m1,m2,ms,mc⟩:=hm;by_cases e:(m == n)=true
 .rw[if_pos e];exact fin m p hp m1 m2 ms
 .rw[if_neg e];have T4:m<n:=by
   have:m≠n:=by simpa using e
   lia
  have mc:=mc T4;by_cases h2:m > 1
  .rw[if_pos h2];refine#[hp.below (by lia),hp.below (by lia),?_];cases c:lt (p.getD 0 0) (p.getD (m-1) 0) with
   | true =>
    simp only[↓reduceIte];exact fin m p hp m1 m2 ms
   | false =>
    simp only[afn,↓reduceIte];have eqv:∀ x y,x<m->y<m->lt (p.getD x 0) (p.getD y 0)=false:=λx y hx hy =>
     O9q.tr (ms y (m-1) (by lia) (by lia)) (O9q.tr c (ms 0 x (by lia) hx))
    have eK:c7 n (kas_rev p 0 m):=hp.of (ak2 _ _ _ _);refine Jy O9q eK m1 (by lia) (λi j jd hj=>?_) fin;rw[nR (by lia),nR (by lia)];by_cases ej:j=m
    .subst ej;rw[if_neg (show ¬ (0<=j/\j<j) by lia)];split
     .exact O9q.tr (O9q.asym mc) (eqv _ _ (by lia) (by lia))
     .have:i=j:=by lia
      subst this;exact O9q.rfl' _
    .rw[if_pos (by lia),if_pos (by lia)];exact eqv _ _ (by lia) (by lia)
  .rw[if_neg h2];have e1:m=1:=by lia
   subst e1;exact Jy O9q hp (aeV _) (by lia) ((gL.one O9q).succ O9q (aeV _) (O9q.asym mc)) fin
theorem B2(O9q:Ord lt)(hp:c7 n p)(hk:k<n)(hs:fu lt p k)(fin:∀ m,m<=k->(∀ i,i<m->lt (p.getD k 0) (p.getD i 0)=false)->(∀ i,m<=i->i<k->lt (p.getD i 0) (p.getD k 0)=false)->P m) :
 ∀ (f l r:Nat),r-l<=f->l<=r->r<=k->(∀ i,i<l->lt (p.getD k 0) (p.getD i 0)=false)->(∀ i,r<=i->i<k->lt (p.getD i 0) (p.getD k 0)=false)->ft lt n (kas_place p k f l r) P
 | 0,l,r,h1,h2,h3,a,b=>by
  have:l=r:=by lia
  subst this;exact fin l h3 a b
 | f+1,l,r,h1,h2,h3,a,b=>by
  unfold kas_place;by_cases hlr:l ≥ r
  .rw[if_pos hlr];have:l=r:=by lia
   subst this;exact fin l h3 a b
  .rw[if_neg hlr];refine#[hp.below hk,hp.below (by lia),?_];cases c:lt (p.getD k 0) (p.getD ((l+r) / 2) 0) with
   | true =>
    simp only[↓reduceIte];refine B2 O9q hp hk hs fin f l ((l+r) / 2) (by lia) (by lia) (by lia) a λi i1 i2=>?_;exact O9q.tr (O9q.asym c) (hs _ _ i1 i2)
   | false =>
    simp only[afn,↓reduceIte];refine B2 O9q hp hk hs fin f ((l+r) / 2+1) r (by lia) (by lia) h3 (λi i1=>?_) b;exact O9q.tr (hs i ((l+r) / 2) (by lia) (by lia)) c
theorem Jz(O9q:Ord lt)(fin:∀ p,c7 n p->fu lt p n->P p):∀ (f:Nat) (p:Array Nat) (k:Nat),k+f=n->c7 n p->fu lt p k->ft lt n (kas_bin f p k) P
 | 0,p,k,h,hp,hs=>fin p hp (by rw[<- h];exact hs)
 | f+1,p,k,h,hp,hs=>by
  have sz:=hp.size;unfold kas_bin;refine rW _ (B2 O9q hp (by lia) hs (λm m1 ma mb=>?_) k 0 k (by lia) (by lia) (aeV _) (λy z=>absurd z (by lia)) λy z1 z2=>absurd z2 (by lia));refine Jz O9q fin f _ (k+1) (by lia) (hp.of (bubble_perm _ _ _)) λi j jd hj=>?_;rw[Jv (by lia) m1,Jv (by lia) m1];by_cases ei:i=m
  .rw[if_pos ei];by_cases ej:j=m
   .rw[if_pos ej];exact O9q.rfl' _
   .rw[if_neg ej,if_pos (by lia)];exact mb _ (by lia) (by lia)
  .rw[if_neg ei];by_cases ej:j=m
   .rw[if_pos ej,if_neg (by lia)];exact ma _ (by lia)
   .rw[if_neg ej];split
    .split
     .exact hs _ _ (by lia) (by lia)
     .exact hs _ _ (by lia) (by lia)
    .split
     .exfalso;lia
     .exact hs _ _ (by lia) (by lia)
theorem JA(O9q:Ord lt)(hn:1<=n):ft lt n (kas_sort n) (λp=>c7 n p/\fu lt p n):=by
 unfold kas_sort;have h0:c7 n (ag1 (afp n)):=by unfold c7;simp
 refine rW _ (TZ O9q h0 hn λm p hp m1 m2 ms=>?_);dsimp only;by_cases h:m<n
 .rw[if_pos h];have e:max m 1=m:=by lia
  rw[e];exact Jz O9q (λp hp hs=>#[hp,hs]) (n-m) p m (by lia) hp ms
 .rw[if_neg h];have e:m=n:=by lia
  subst e;exact#[hp,ms]
noncomputable def yn{α:Type}(lt:Nat->Nat->Bool):KasT α->α
 | .ret a=>a
 | .ask i j k=>yn lt (k (lt i j))
theorem JB:∀ (t:KasT α),ft lt n t P->P (yn lt t)
 | .ret _,h=>h
 | .ask i j k,h=>JB (k (lt i j)) h.2.2
theorem JC:∀ (t:KasT α),ft lt n t P->ft lt n t (λa=>a=yn lt t)
 | .ret _,_=>rfl
 | .ask i j k,h=>#[h.1,h.2.1,JC (k (lt i j)) h.2.2]
noncomputable def dC(lt:Nat->Nat->Bool)(n:Nat):Array Nat:=if n<2 then ag1 (afp n) else yn lt (kas_sort n)
theorem rX(O9q:Ord lt):c7 n (dC lt n)/\fu lt (dC lt n) n:=by
 unfold dC;split
 .rename_i h;refine#[by unfold c7;simp,λi j jd hj=>?_];have:i=j:=by lia
  subst this;exact O9q.rfl' _
 .rename_i h;exact JB _ (JA O9q (by lia))
end
end Gz
namespace Gz
open PySem PySem.Spec PyProof.Rows L2
theorem JD:∀ {a b:List Int},HT.lexLt a b=true->HT.lexLt b a=false
 | [],[],h=>by cases h
 | [],_::_,_=>rfl
 | _::_,[],h=>by cases h
 | x::a,y::b,h=>by
  rw[HT.rE] at h ⊢;by_cases e:x=y
  .subst e;rw[if_pos Y] at h ⊢;exact JD h
  .rw[if_neg e] at h;rw[if_neg (afR e)];have:x<y:=by simpa using h
   simpa using (by walk_at "o" : ¬ y<x)
theorem JE:∀ {a b c:List Int},HT.lexLt b a=false->HT.lexLt c b=false->HT.lexLt c a=false
 | [],[],[],_,_=>rfl
 | [],[],_::_,_,_=>rfl
 | [],_::_,[],_,h=>by cases h
 | [],_::_,_::_,_,_=>rfl
 | _::_,[],_,h,_=>by cases h
 | _::_,_::_,[],_,h=>by cases h
 | x::a,y::b,z::c,h1,h2=>by
  rw[HT.rE] at h1 h2 ⊢;by_cases e1:y=x
  .subst e1;rw[if_pos Y] at h1;by_cases e2:z=y
   .subst e2;rw[if_pos Y] at h2 ⊢;exact JE h1 h2
   .rw[if_neg e2] at h2 ⊢;exact h2
  .rw[if_neg e1] at h1;have rY:¬ y<x:=by simpa using h1
   by_cases e2:z=y
   .subst e2;rw[if_neg e1];exact h1
   .rw[if_neg e2] at h2;have uS:¬ z<y:=by simpa using h2
    rw[if_neg (by walk_at "o")];simpa using (by walk_at "o" : ¬ z<x)
section
theorem T5(h:Q (a == b) s):afe (model prog w) A (eqBool (.int a t) (.int b u)) Q E s:=SeqAt.EqAt.int_int a t b u prog w E Q h
theorem T6:∀ {ns ms:List Int} {us ws:List aeX} {i:Nat},ajQ us ns->ajQ ws ms->fin=decide (ns.length<ms.length)->Q (HT.lexLt ns ms) s->PySem.W.KatLex prog w A b fin Q (us.zip ws) i s:=by
 intro ns
 induction ns with
 | nil =>
  intro ms us ws i r q e h;cases r;cases q with
  | nil=>subst e;exact h
  | cons=>subst e;exact h
 | cons n ns ih =>
  intro ms us ws i r q e h;cases r with
  | cons _ t r =>
   cases q with
   | nil=>subst e;exact h
   | cons m t' q =>
    rw[List.zip_cons_cons];refine PySem.W.kat_cons (T5 (PySem.W.kat_go (λhh=>PySem.W.kat_yes ?_) λhh=>PySem.W.kat_no ?_))
    .have e1:n=m:=by simpa using hh
     subst e1;rw[HT.rE,if_pos Y] at h;exact ih r q (by subst e;simp) h
    .have e1:n≠m:=by simpa using hh
     rw[HT.rE,if_neg e1] at h;cases (b && i == 0) with
     | true=>exact oneLt_int h
     | false=>exact PySem.W.kat_one _ _ (lt_int h)
end
def JF(sp:Sp):List V->List V->Hp->(List V->Hp->Prop)->Prop
 | [],ks,H,Q=>Q ks H
 | x::r,ks,H,Q=>sp [x] H (λk H1=>JF sp r (ks++[k]) H1 Q) E0
def jI(K:aeN)(H:Hp):List V->List (List Int)->Prop
 | [],[]=>True
 | k::ks,n::ns=>(∃ p,k = .ref p/\aj K H p (n.map V.int)/\n≠[])/\jI K H ks ns
 | _,_=>False
theorem jI.len{K:aeN}{H:Hp}:∀ {ks:List V} {ns:List (List Int)},jI K H ks ns->ks.length=ns.length
 | [],[],_=>rfl
 | _::_,_::_,h=>by simp[jI.len h.2]
 | [],_::_,h=>h.elim
 | _::_,[],h=>h.elim
theorem jI.get{K:aeN}{H:Hp}:∀ {ks:List V} {ns:List (List Int)} {i:Nat} {k:V},jI K H ks ns->ks[i]?=U k->∃ p,k = .ref p/\aj K H p ((ns.getD i []).map V.int)
 | [],[],_,_,_,e=>by simp at e
 | k::_,n::_,0,_,h,e=>by simp at e;subst e;obtain⟨⟨p,a,b,y⟩,y⟩:=h;exact#[p,a,b]
 | _::_,_::_,i+1,_,h,e=>by have:=jI.get (i:=i) h.2 (by simpa using e);simpa using this
 | [],_::_,_,_,h,_=>h.elim
 | _::_,[],_,_,h,_=>h.elim
section
noncomputable def dQ(kis:List (List Int))(i j:Nat):Bool:=HT.lexLt (kis.getD i []) (kis.getD j [])
theorem pC(kis:List (List Int)):Ord (dQ kis):=#[λh=>JD h,λh1 h2=>JE h1 h2]
noncomputable def eZ{α:Type}(kis:List (List Int))(d:α)(as:List α):List α:=(dC (dQ kis) as.length).toList.map λi=>as.getD i d
theorem rZ:(eZ kis d as).Perm as:=by
 have h:=(rX (n:=as.length) (pC kis)).1;have q:=h.map (λi=>as.getD i d);have self:(afp as.length).map (λi=>as.getD i d)=as:=by
  apply aj6
  .simp
  .intro i h1 h2;simp[aeP,h2]
 rw[self] at q;exact q
theorem JG:(eZ kis d as).length=as.length:=rZ.length_eq
theorem T7(hk:kis=as.map f):(eZ kis d as).Pairwise (λa b=>HT.lexLt (f b) (f a)=false):=by
 obtain⟨hp,hs⟩:=rX (n:=as.length) (pC kis);have sz:=hp.size;unfold eZ;rw[alI];refine List.pairwise_iff_getElem.mpr λi j hi hj jd=>?_;have dB:i<(dC (dQ kis) as.length).size:=by simpa using hi
 have B3:j<(dC (dQ kis) as.length).size:=by simpa using hj
 have q:=hs i j (by lia) (by lia);have e1:(dC (dQ kis) as.length).getD i 0=(dC (dQ kis) as.length)[i]:=by simp[amV,dB]
 have e2:(dC (dQ kis) as.length).getD j 0=(dC (dQ kis) as.length)[j]:=by simp[amV,B3]
 have l1:=c7.below hp (i:=i) (by lia);have l2:=c7.below hp (i:=j) (by lia);rw[e1,e2] at q;rw[e1] at l1;rw[e2] at l2;have q2:HT.lexLt (kis.getD (dC (dQ kis) as.length)[j] []) (kis.getD (dC (dQ kis) as.length)[i] [])=false:=q;have g:∀ k,k<as.length->kis.getD k []=f (as.getD k d):=λk iI=>by subst hk;simp[aeP,iI]
 simp only[Array.getElem_toList];rw[g _ l1,g _ l2] at q2;exact q2
theorem T8(r:Vals xs vs):Vals (eZ kis .non xs) ((dC (dQ kis) xs.length).toList.map λi=>vs.getD i Value.none):=by
 have hp:=(rX (n:=xs.length) (pC kis)).1;have gen:∀ l:List Nat,(∀ i∈l,i<xs.length)->Vals (l.map λi=>xs.getD i .non) (l.map λi=>vs.getD i Value.none):=by
  intro l
  induction l with
  | nil=>intro y;exact .nil
  | cons i l ih =>
   intro h;have hi:=h i (.head _);refine .cons ?_ (ih λj hj=>h j (.tail _ hj));have e:xs[i]?=U xs[i]:=aeQ hi;obtain⟨u,eu,ru⟩:=r.get e;show RelV (xs.getD i .non) (vs.getD i Value.none);rw[aeP,aeP,eu,e];exact ru
 exact gen _ λi hi=>by simpa using hp.mem_iff.mp hi
def T9(K:aeN)(sp:Sp)(x:V)(H1:Hp)(Q:VK):Prop:=∃ (a:ae0) (xs:List V),x = .ref a/\ai K H1 a xs/\xs.length<64/\JF sp xs [] H1 λks H2=>∃ kis,jI K H2 ks kis/\∀ l,H2 l=O->Q (.ref l) (upd H2 l (.lst (eZ kis .non xs)))
def Ua(K:aeN)(sp:Sp)(te:TE):TE:=λJ H Q=>te J H λx H1=>T9 K sp x H1 Q
end
abbrev En:=Option Int
noncomputable def ev:En->V
 | none=>.non
 | some i=>.int i
theorem uT:ev O = .non:=rfl
theorem uU(i:Int):ev (U i) = .int i:=rfl
noncomputable def aY:En->En->Bool
 | some x,U y=>decide (y<x)
 | _,_=>false
def aQ(H:Hp)(v:V)(a b:En):Prop:=∃ p,v = .ref p/\H p=U (.tup [ev a,ev b])
theorem aQ.same(h:aQ H v a b)(s:ah H H1):aQ H1 v a b:=by obtain⟨p,e,h⟩:=h;exact#[p,e,s _ _ h]
theorem aQ.new:aQ (upd H p (.tup [ev a,ev b])) (.ref p) a b:=#[p,Y,ar]
noncomputable def hold(a b:En)(n:Int):Bool:=!aY a (U n) && !aY (U n) b
theorem pE:hold a b n=true↔(∀ x,a=U x->x<=n)/\(∀ y,b=U y->n<=y):=by unfold hold;rcases a with z|x<;>rcases b with z|y<;>simp[aY]
noncomputable def eh:En->En->En
 | some x,U y=>U (if y > x then y else x)
 | some x,O=>U x
 | none,b=>b
noncomputable def e9:En->En->En
 | some x,U y=>U (if y<x then y else x)
 | some x,O=>U x
 | none,b=>b
noncomputable def nums(a b:En):List Int:=[a,b].filterMap id
noncomputable def uV(v:V):Bool:=!decide (v = .non)
theorem Ub(a b:En):([ev a,ev b].filter uV).map (λv=>v)=(nums a b).map V.int:=by rcases a with z|x<;>rcases b with z|y<;>simp[ev,nums,uV]
theorem Uc(a b:En):mr eL (nums a b) .non=ev (eh a b):=by rcases a with z|x<;>rcases b with z|y<;>simp[nums,eh,eL,mr,ev]
theorem Ud(a b:En):mr rQ (nums a b) .non=ev (e9 a b):=by rcases a with z|x<;>rcases b with z|y<;>simp[nums,e9,rQ,mr,ev]
def JH(H:Hp)(v:V)(lo hi:En):Prop:=(aY lo hi=true->v = .non)/\(aY lo hi=false->aQ H v lo hi)
theorem JI{K:aeN}{H:Hp}{p:ae0}{a b:En}{Q:VK}{tt:TT}{te:TE}(hp:H p=U (.tup [ev a,ev b]))(ht:∀ x H Q,Q (uV x) H->tt [U x] H Q)(he:∀ x H Q,Q x H->te [U x] H Q)
 (q:∀ l,H l=O->Q (.ref l) (upd H l (.lst ((nums a b).map V.int)))):nM (lZ K p) [] tt te H Q:=by
 refine cn (xs:=[ev a,ev b]) rN aX (yc (p:=uV) (f:=λv=>v) (aj.of hp) (λx y Q h=>ht x H Q h) (λx y y Q h=>he x H Q h) ?_);rw[ae6,Ub];exact q
end Gz
namespace Gz
open L2
abbrev S2:=En × En
noncomputable def hs(s:S2)(n:Int):Bool:=hold s.1 s.2 n
def JJ(s:S2):Prop:=aY s.1 s.2=false
theorem Ue:hs s n=true↔(∀ x,s.1=U x->x<=n)/\(∀ y,s.2=U y->n<=y):=pE
open PySem in
def my(H:Hp):List V->List S2->Prop
 | [],[]=>True
 | v::vs,s::ss=>aQ H v s.1 s.2/\my H vs ss
 | _,_=>False
section
theorem aQ.put(h:aQ H v a b)(hl:H l=U (.lst ys)):aQ (upd H l o) v a b:=by obtain⟨p,e,h⟩:=h;exact#[p,e,by rw[aI (rg h hl λz=>nomatch z)];exact h]
theorem my.len:∀ {vs:List V} {ss:List S2},my H vs ss->vs.length=ss.length
 | [],[],_=>rfl
 | _::_,_::_,h=>by simp[my.len h.2]
 | [],_::_,h=>h.elim
 | _::_,[],h=>h.elim
open PySem
noncomputable def B5:En->aii
 | none=>.none
 | some i=>.int i
noncomputable def B6(s:S2):aii:=.tuple [B5 s.1,B5 s.2]
theorem JK(e:En):Dat K H (ev e) (B5 e):=by
 rcases e with y|x
 .exact .non
 .exact .int x
theorem aQ.dat(h:aQ H v a b):Dat K H v (B6 (a,b)):=by obtain⟨p,rfl,h⟩:=h;exact .tup (aj.of h) (.cons (JK a) (.cons (JK b) .nil))
end
end Gz
namespace Gz
open PySem PySem.Spec PyProof.Rows L2
structure JL(K:aeN)(C:ae0)(m:Str)(f:ae0):Prop where
 ga:ahG K (.ref C) "__getattribute__" = U (U (.builtin "type.__getattribute__"))
 rd:ams K C (.type "type")=true
 fd:amt K (.ref C) (.type "type") m=U (.val (.ref f))
 kp:af2 K (.ref f)=true
section
theorem Ug(hg:Gl X x)(hm:X.mg x=U (.ref C))(c:JL X.K C m f)(F:d9 X.prog X.w X.K X.mg X.base CX k f fd ps sp)(hr:bc k X.A)(hb:Binds X.K fd ps ds)(hd:Vals de ds)(hx:Passes CX X E)(ha:PA X (e::es) t)(f6:(x == ("__debug__" : Str))=false:=by decide)(cQ:afb (e::es) X.env=(false,eval e X.env)::afb es X.env:=by rfl)(dz:(agA pos (afb es X.env)).any (·.1)=false:=by rfl)(ht:eval (.Call (.Attribute (.Name x p) m apos) (e::es) [] pos) X.env=(do
 let ov <- eval (.Name x p) X.env
 akm apos.atName
 let (f,first) <- holding [ov] (aiV ov m pl)
 alb pos f first (agA pos (afb (e::es) X.env)) (ajg pos (ahx [] X.env))):=by rfl) :
 PE X (.Call (.Attribute (.Name x p) m apos) (e::es) [] pos) (rD sp de E t):=by
 intro pins s J H Q I h;refine agH (pl:=pl) (aF (AX (X:=X) (v:=.ref C) hg hm Y f6 pins s J H (λv H1=>v = .ref C/\H1=H) I #[Y,Y]) λu s1 zq=>?_) ht;obtain⟨y,H1,I1,rx,e1,e2⟩:=zq;subst e1 e2;obtain rfl:u=aft C:=rx;refine PySem.W.method_cls I1.cG c.ga (PySem.W.cls_value I1.cG c.rd c.fd Y ?_);have I2:Inv X pins J H1 { s1 with toks:=s1.toks+1 }:=I1.tok _;refine ahu (first:=[]) (h₀:=X.base) I.ok.mod.kin c.kp (aF (ha pos pins _ J H1 _ I2 h) λus s2 ⟨vs,H2,I3,r,q2⟩=>#[I3.cG,?_]) cQ dz;exact o6 (us:=us) (vs:=vs) F hr hb hd hx I3 r q2
def B7(K:aeN)(m:Str)(f:ae0)(sp:Sp)(de:List V)(E:XK)(ta:TE)(t:TA):TE:=λJ H Q=>ta J H λx H1=>∃ a C dx fs,x = .ref a/\H1 a=U (.ins C dx fs)/\bR K C/\Meth K C m f/\fs.lookup m=O /\
 t J H1 λvs H2=>sp (.ref a::(vs++de)) H2 Q E
theorem JM(he:PE X o ta)(F:d9 X.prog X.w X.K X.mg X.base CX k f fd ps sp)(hr:bc k X.A)(hb:Binds X.K fd ps ds)(hd:Vals de ds)(hx:Passes CX X E)(ha:PA X (e::es) t)(cQ:afb (e::es) X.env=(false,eval e X.env)::afb es X.env:=by rfl)(dz:(agA pos (afb es X.env)).any (·.1)=false:=by rfl)(ht:eval (.Call (.Attribute o m apos) (e::es) [] pos) X.env=(do
 let ov <- eval o X.env
 akm apos.atName
 let (f,first) <- holding [ov] (aiV ov m pl)
 alb pos f first (agA pos (afb (e::es) X.env)) (ajg pos (ahx [] X.env))):=by rfl) :
 PE X (.Call (.Attribute o m apos) (e::es) [] pos) (B7 X.K m f sp de E ta t):=by
 intro pins s J H Q I h;refine agH (pl:=pl) (aF (he pins s J H _ I h) λu s1 zq=>?_) ht;obtain⟨x,H1,I1,rx,a,C,dx,fs,ex,ea,c,hm,l,q⟩:=zq;subst ex;obtain rfl:u=aft a:=rx;refine uv I1 ea c hm l ?_;refine ahu (first:=[.ref a]) (h₀:=X.base) I.ok.mod.kin hm.kp (aF (ha pos pins s1 J H1 _ I1 q) λus s2 ⟨vs,H2,I2,r,q2⟩=>#[I2.cG,?_]) cQ dz;exact o6 (us:=.ref a::us) (vs:=.ref a::vs) F hr hb hd hx I2 (.cons rfl r) q2
end
abbrev W2:=Option S2
def iJ(H:Hp)(v:V):W2->Prop
 | none=>v = .non
 | some s=>aQ H v s.1 s.2
theorem iJ.same(h:iJ H v w)(s:ah H H'):iJ H' v w:=by
 cases w with
 | none=>exact h
 | some a=>exact aQ.same h s
end Gz
namespace Gz
open PySem L2 PySem.W PySem.Spec PyProof.Rows
def Bt(n:Nat)(x:Int):Prop:=ahi x<=n
theorem Bt.add(h:Bt n x)(h':Bt n y):Bt (n+1) (x+y):=by
 have:=anj h h'
 rwa [Nat.max_self] at this
theorem Bt.mul(h:Bt n x)(h':Bt m y):Bt (n+m) (x * y):=ank h h'
theorem Bt.up(h:Bt n x)(hm:n<=m):Bt m x:=aeT h hm
theorem Bt.small(h1 : -(2 ^ 64)<x)(h2:x<2 ^ 64):Bt 64 x:=PySem.intBits_le_64 h1 h2
def se(i j:Int):Prop:=Bt 40000000 i/\Bt 40000000 j
theorem se.ok(h:se i j):IntMulOk i j:=amF h.1 h.2 (by decide)
theorem Uh:bB X (ahV .Mult) (rI se λi j=>.int (i * j)):=xD λy y y y y y y hc q=>mul_int q hc.ok
def mz(ns:List Int):Prop:=ns.length<=63/\∀ x∈ns,Bt 1048576 x
theorem weigh:∀ (ns:List Int) (x:Int),x∈ns->ahi x<=ahl (ns.map PySem.W.WData.int)
 | [],x,h=>by simp at h
 | y::ns,x,h=>by
  have e:ahl ((y::ns).map PySem.W.WData.int)=(if y == 0 then 0 else y.natAbs.log2+1)+1+ahl (ns.map PySem.W.WData.int):=by rw[ae7];simp only[ahl,akO]
  rw[e];rcases ae2.mp h with rfl|h
  .unfold ahi;lia
  .have:=weigh ns x h;lia
theorem Ui{ns:List Int}(h:amW [PySem.W.WData.list (ns.map PySem.W.WData.int)]=true):∀ x∈ns,Bt 1048576 x:=by
 intro x hx;have h1:aiA (PySem.W.WData.list (ns.map PySem.W.WData.int))=true:=by
  have:(aiA (PySem.W.WData.list (ns.map PySem.W.WData.int)) && true)=true:=h
  rwa [alh] at this
 unfold aiA at h1;rw[aga] at h1;have h2:=of_decide_eq_true h1.2;have h3:=weigh ns x hx;simp only[akO] at h2;unfold Bt;lia
theorem Uj{l:aku}{k:Nat}{q:afG}{loose:List Str}{XP:(Str->Option aeX)->ag3->Prop}{YP:agn->ag3->Prop}{d:DefRec}{K:Params->aeN}{CX:agn->iF}{sp:agn->Sp}{x:Str}
 (most:l.most=U 63) (plain:d.params.defaults=[]) (room:bc k amh)
 (Uk:∀ (w:agn) (h:ag3),YP w h->(K w.params).In h)
 (F:∀ (w:agn) (mg:Str->Option aeX) (fa:ae0) (h:ag3),(K w.params).In h->h.Ns afc mg->mg d.name=U (.ref fa) ->
   ∃ fd:ahI,(∀ (s:ae4) (u:aeX),alA s fd #[[u],[]] [(x,u)]) /\
    ∀ base:ag3,(K w.params).In base->base.Ns afc mg->d9 l.prog w (K w.params) mg base (CX w) k fa fd [x] (sp w))
 (law:∀ (w:agn) (H:Hp) (a:ae0) (ns:List Int),mz ns->ai (K w.params) H a (ns.map V.int)->sp w [.ref a] H (λv y=>v = .bl true) λy y y=>False)
 (calm:∀ (w:agn) (H:Hp) (s:ae4) (e:aeX) (s':ae4),CX w [] H s (λy y y=>False) e s'->False) :
 am3 q loose XP YP l.row.toRowW d [] (λf vs=>PySem.call f vs):=by
 intro w t₀ t mg mb G Y9q f ob pm cd doc dV kV look data code defs at_ gens args vals as pre lay y well y;have e1:dV = .none:=Dflts.none defs plain;have e2:kV = .none:=Dflts.noKw defs;cases e1;cases e2;obtain⟨a,vs,ns,e3,e4,obj,are,len⟩:=Bq.RE most pre well;cases e3;cases e4;have KX:=Uk w _ Y9q;obtain⟨fd,bind,ok⟩:=F w mg f _ KX G.T.g at_;have run:=RH KX G.T.g G.T.b G.T.builtins G.T.nolimit gens obj are (aeT len (by decide)) room ok bind
  (λH y S=>law w H a ns #[len,Ui lay] S) λH e s'=>calm w H t e s'
 refine enter_call (aix run ?_);rintro r s' ⟨rfl,old,os,bare⟩;exact#[.inl #[.bool true,.bool true,[],Y,λy=>rfl,.bool true,Bq.RG l _,λy=>#[List.Pairwise.nil,λy z=>(nomatch z)]],old,os,bare]
noncomputable def uW(ns:List Int)(k:Int):Int:=if 0<(ns.length:Int) then ns.getD (k % (ns.length:Int)).toNat 0 else 0
theorem Ul(h:mz ns)(k:Int):Bt 1048576 (uW ns k):=by
 unfold uW;split
 .rw[aeP];cases e:ns[(k % (ns.length:Int)).toNat]? with
  | none=>exact (Bt.small (by decide) (by decide)).up (by decide)
  | some n=>exact h.2 _ (ae8 e)
 .exact (Bt.small (by decide) (by decide)).up (by decide)
theorem Um{ns:List Int}{k:Int}(h:0<(ns.length:Int)):dA (ns.map V.int) (k % (ns.length:Int))=U (.int (uW ns k)):=by
 have h1:=amu k (show (ns.length:Int)≠0 by lia);have h2:=ali k h;unfold uW;rw[if_pos h];have ek:k % (ns.length:Int)=(((k % (ns.length:Int)).toNat:Nat):Int):=by lia
 refine (congrArg (dA _) ek).trans (fo ?_);rw[ae5,aeP,aeQ (by lia)];rfl
theorem JN(h:x.natAbs<2 ^ 600):Bd 4000 x:=Bd.up (n:=600) h (by decide)
theorem mC(h:x.natAbs<2 ^ 600)(h':y.natAbs<2 ^ 600):rG x y:=#[JN h,JN h']
theorem aC(I:L2.St->Hp->Prop)(h1:∀ N:L2.St->Hp->Prop,(∀ J H,I J H->N J H)->a { D with nx:=N } J H)(h2:∀ R:TS,R=b->∀ J H,I J H->R D J H):rn a b D J H:=h1 _ (h2 _ Y)
noncomputable def pre(f:P2->Int)(ps:List P2)(i:Nat):Int:=((ps.take i).map f).sum
theorem iK(f:P2->Int)(ps:List P2)(h:i<ps.length):pre f ps (i+1)=pre f ps i+f (aK ps i):=by unfold pre aK;rw[afZ,af0,ai4,aeP,aeQ h];simp only[alj,ae7,ahg,ajY,anl,Int.add_zero,aiJ]
noncomputable def bT(ps:List P2)(i j:Nat):Int:=if i<=j then pre (·.2) ps j-pre (·.2) ps i else pre (·.1) ps j-pre (·.1) ps i
def fL(ps:List P2):Prop:=∀ p∈ps,p.1<=p.2
theorem JO(h:fL ps)(i:Nat):∀ n,i+n<=ps.length->pre (·.1) ps (i+n)-pre (·.1) ps i<=pre (·.2) ps (i+n)-pre (·.2) ps i
 | 0,_=>by simp
 | n+1,hn=>by have ih:=JO h i n (by lia);rw[show i+(n+1)=(i+n)+1 by lia,iK _ ps (by lia),iK _ ps (by lia)];have:=h _ (rV (ps:=ps) (i:=i+n) (by lia));lia
theorem sf(h:fL ps)(jd:i<=j)(hj:j<=ps.length):pre (·.1) ps j-pre (·.1) ps i<=pre (·.2) ps j-pre (·.2) ps i:=by
 have:=JO h i (j-i) (by lia)
 rwa [show i+(j-i)=j by lia] at this
theorem Uo(h:fL ps)(hi:i<=ps.length)(hj:j<=ps.length)(hk:k<=ps.length):bT ps i j<=bT ps i k+bT ps k j:=by have a:=λh'=>sf h (i:=i) (j:=j) h' hj;have b:=λh'=>sf h (i:=j) (j:=i) h' hi;have c:=λh'=>sf h (i:=i) (j:=k) h' hk;have d:=λh'=>sf h (i:=k) (j:=i) h' hi;have e:=λh'=>sf h (i:=j) (j:=k) h' hk;have f:=λh'=>sf h (i:=k) (j:=j) h' hj;unfold bT;split<;>split<;>split<;>lia
noncomputable def part(ps:List P2)(i j k:Nat):Int:=if i<j then pre (·.2) ps (min i j+k)-pre (·.2) ps i else pre (·.1) ps j-pre (·.1) ps (min i j+k)
end Gz
namespace L2
open PySem PySem.Spec PyProof.Rows
section
variable{κ:Type}[DecidableEq κ]
noncomputable def ig(kvs:List (κ × V))(k:κ):Option V:=(kvs.find? λkv=>decide (kv.1=k)).map (·.2)
noncomputable def putK(kvs:List (κ × V))(k:κ)(v:V):List (κ × V) :=
 if (kvs.any λkv=>decide (kv.1=k))=true then kvs.map (λkv=>if kv.1=k then (kv.1,v) else kv) else kvs++[(k,v)]
noncomputable def Up(kvs:List (κ × V))(k:κ):List (κ × V):=kvs.filter λkv=>decide (kv.1≠k)
theorem yo{p:κ × V}{r:List (κ × V)}{k:κ}(e:p.1=k):ig (p::r) k=U p.2:=by simp[ig,agy,e]
theorem yq{p:κ × V}{r:List (κ × V)}{k:κ}(e:¬ p.1=k):ig (p::r) k=ig r k:=by simp[ig,agy,e]
theorem JP(k:κ):∀ kvs:List (κ × V),(kvs.any λkv=>decide (kv.1=k))=(ig kvs k).isSome
 | []=>rfl
 | p::r=>by
  rw[afX];by_cases e:p.1=k
  .simp only[yo e,decide_eq_true e,Bool.true_or,Option.isSome_some]
  .rw[yq e,decide_eq_false e,alk];exact JP k r
theorem JQ(kvs:List (κ × V))(k:κ)(v:V):(putK kvs k v).length<=kvs.length+1:=by
 unfold putK;split
 .rw[aeO];omega
 .rw[ae1,afD,ahA];omega
theorem gD.B8(r:gD o u):o.isSome=u.isSome:=by
 cases o with
 | none=>cases u with
  | none=>rfl
  | some _=>exact (show False from r).elim
 | some _=>cases u with
  | none=>exact (show False from r).elim
  | some _=>rfl
theorem KV.val(r:KV kvs vs)(k:κ):gD (ig kvs k) (alJ vs k):=by
 unfold KV at r
 induction r with
 | nil=>exact ag9
 | @cons p q ps qs h t ih =>
  obtain⟨h1,h2⟩:=h;by_cases e:p.1=k
  .have e':q.1=k:=h1.symm.trans e;have b:alJ (q::qs) k=U q.2:=by simp[alJ,agy,e']
   rw[yo e,b];exact h2
  .have e':¬ q.1=k:=λz=>e (h1.trans z);have b:alJ (q::qs) k=alJ qs k:=by simp[alJ,agy,e']
   rw[yq e,b];exact ih
theorem KV.any(r:KV kvs vs)(k:κ):(kvs.any λkv=>decide (kv.1=k))=vs.any λkv=>decide (kv.1=k):=by
 unfold KV at r
 induction r with
 | nil=>rfl
 | cons h t ih=>rw[afX,afX,ih,h.1]
theorem KV.si(r:KV kvs vs)(k:κ)(ry:RelV y u) :
 KV (kvs.map λkv=>if kv.1=k then (kv.1,y) else kv) (vs.map λkv=>if kv.1=k then (kv.1,u) else kv):=by
 unfold KV at r ⊢
 induction r with
 | nil=>exact .nil
 | @cons p q ps qs h t ih =>
  rw[ae7,ae7];refine .cons ?_ ih;obtain⟨h1,h2⟩:=h;by_cases e:p.1=k
  .rw[if_pos e,if_pos (h1.symm.trans e)];exact#[h1,ry]
  .rw[if_neg e,if_neg (λz=>e (h1.trans z))];exact#[h1,h2]
theorem KV.put(r:KV kvs vs)(k:κ)(ry:RelV y u):KV (putK kvs k y) (stored vs k u):=by
 unfold putK stored;rw[r.any k];by_cases e:(vs.any λkv=>decide (kv.1=k))=true
 .rw[if_pos e,if_pos e];exact r.si k ry
 .rw[if_neg e,if_neg e];exact Paired.snoc r #[Y,ry]
theorem KV.length(r:KV kvs vs):kvs.length=vs.length:=Paired.length r
end
theorem yr(r:RelV (kV k) u):(dr P w).is k u=true:=by
 cases k with
 | inl i=>obtain⟨t,e⟩:=(show ∃ t,u=Value.int i t from r);subst e;exact P5 P w i t
 | inr x=>obtain⟨t,e⟩:=(show ∃ t,u=Value.str x t from r);subst e;exact P6 P w x t
theorem JR:∀ {ks:List Key} {us:List aeX},Vals (ks.map kV) us->ItemsAre (dr P w) ks us
 | [],_,r=>by rw[ahg] at r;cases r;exact .nil
 | k::ks,_,r=>by
  rw[ae7] at r;cases r with
  | cons h t=>exact .cons (yr h) (JR t)
abbrev KT(H:Hp):List (List Key × V)->List (List Key × ae0 × aeX)->Prop:=ane λp q=>p.1=q.1/\H q.2.1=U (.tup (p.1.map kV))/\RelV p.2 q.2.2
theorem KT.val(r:KT H kvs xs)(k:List Key):gD (ig kvs k) ((anm xs k).map (·.2)):=by
 induction r with
 | nil=>exact ag9
 | @cons p q ps qs h t ih =>
  obtain⟨h1,y,h2⟩:=h;by_cases e:p.1=k
  .have e':q.1=k:=h1.symm.trans e;have b:anm (q::qs) k=U q.2:=by simp[anm,agy,e']
   rw[yo e,b];exact h2
  .have e':¬ q.1=k:=λz=>e (h1.trans z);have b:anm (q::qs) k=anm qs k:=by simp[anm,agy,e']
   rw[yq e,b];exact ih
theorem KT.si(r:KT H kvs xs)(k:List Key)(ry:RelV y u) :
 KT H (kvs.map λkv=>if kv.1=k then (kv.1,y) else kv) (xs.map (putAt k u)):=by
 induction r with
 | nil=>exact .nil
 | @cons p q ps qs h t ih =>
  rw[ae7,ae7];refine .cons ?_ ih;obtain⟨h1,h2,h3⟩:=h;unfold putAt;by_cases e:p.1=k
  .rw[if_pos e,if_pos (h1.symm.trans e)];exact#[h1,h2,ry]
  .rw[if_neg e,if_neg (λz=>e (h1.trans z))];exact#[h1,h2,h3]
theorem KT.put(r:KT H kvs xs)(k:List Key)(hb:H b=U (.tup (k.map kV)))(ry:RelV y u) :
 KT H (putK kvs k y) (storedH xs k b u):=by
 have e:(kvs.any λkv=>decide (kv.1=k))=(anm xs k).isSome:=by rw[JP,(r.val k).B8,alK]
 unfold putK storedH;rw[e];by_cases q:(anm xs k).isSome=true
 .rw[if_pos q,if_pos q];exact r.si k ry
 .rw[if_neg q,if_neg q];exact Paired.snoc r #[Y,hb,ry]
theorem KT.keeps(r:KT H kvs xs)(ht:∀ b ys,H b=U (.tup ys)->H' b=U (.tup ys)):KT H' kvs xs :=
 Paired.GI r λy y z=>#[z.1,ht _ _ z.2.1,z.2.2]
section
theorem JS(ok:cF P w H h)(e:Rd H a u):b9 P w H h a u:=e.ok ok
theorem yt(ok:cF P w H h)(e:Rd H a (.dK kvs)):kvs.length<=afl/\(a == agI)=false/\∃ vs,KV kvs vs/\h.DictOf (dr P w) a vs :=
 show b9 P w H h a (.dK kvs) from JS ok e
theorem Uq(ok:cF P w H h)(e:H a=U (.dK kvs)):kvs.length<=afl/\(a == agI)=false/\∃ vs,KV kvs vs/\h.DictOf (dr P w) a vs:=yt ok (.inl e)
theorem yu(ok:cF P w H h)(e:H a=U (.tup (ks.map kV))):(ajv (dr P w)).is h ks a:=by
 obtain⟨y,aw,r,o,h1,h2,n,h3⟩:=(show b9 P w H h a (.tup (ks.map kV)) from ok a _ e)
 exact#[o,aw.toArray,n,h1,h2,h3,by simpa using JR r]
theorem yw(ok:cF P w H h)(e:Rd H a (.dT kvs)):kvs.length<=afl/\(a == agI)=false /\
 ∃ xs,KT H kvs xs/\h.DictOfH (ajv (dr P w)) a xs:=by
 obtain⟨z,y,xs,r,o,es,ep,h1,h2,h3,h4,h5⟩:=(show b9 P w H h a (.dT kvs) from JS ok e)
 refine#[z,y,xs,r,o,es,ep,h1,h2,h3,h4,λx hx=>?_,h5];have all:∀ {l:List (List Key × V)} {m:List (List Key × ae0 × aeX)},KT H l m->∀ x∈m,(ajv (dr P w)).is h x.1 x.2.1:=by
  intro l m q
  induction q with
  | nil=>intro x hx;exact nomatch hx
  | @cons p q ps qs hq t ih =>
   intro x hx;rcases ae2.mp hx with e|hx
   .subst e;exact yu ok (by rw[<- hq.1];exact hq.2.1)
   .exact ih x hx
 exact all r x hx
theorem B9(ok:cF P w H h)(e:H a=U (.dT kvs)):kvs.length<=afl/\(a == agI)=false /\
 ∃ xs,KT H kvs xs/\h.DictOfH (ajv (dr P w)) a xs:=yw ok (.inl e)
end
def fM(H:Hp)(a:ae0)(y:V)(r:Option V):Prop :=
 (∃ kvs k,Rd H a (.dK kvs)/\y=kV k/\r=ig kvs k) ∨ ∃ kvs k b,Rd H a (.dT kvs)/\y = .ref b/\H b=U (.tup (k.map kV))/\r=ig kvs k
def pF(H:Hp)(a:ae0)(y v:V)(H':Hp):Prop :=
 (∃ kvs k,H a=U (.dK kvs)/\y=kV k/\kvs.length<afl/\H'=upd H a (.dK (putK kvs k v))) ∨
 ∃ kvs k b,H a=U (.dT kvs)/\y = .ref b/\H b=U (.tup (k.map kV))/\kvs.length<afl/\H'=upd H a (.dT (putK kvs k v))
theorem fM.t(e:H a=U (.dT kvs))(eb:H b=U (.tup (k.map kV))):fM H a (.ref b) (ig kvs k):=.inr #[kvs,k,b,.inl e,Y,eb,Y]
theorem pF.t{H:Hp}{a b:ae0}{kvs:List (List Key × V)}{k:List Key}{v:V}(e:H a=U (.dT kvs))(eb:H b=U (.tup (k.map kV)))(hl:kvs.length<afl) :
 pF H a (.ref b) v (upd H a (.dT (putK kvs k v))):=.inr #[kvs,k,b,e,Y,eb,hl,Y]
section
theorem Inv.big(I:Inv X pins J H s):agI<s.heap.objs.size:=by have h:afc<s.heap.objs.size:=(I.mod.glob.keeps I.bk).lt;exact alW (by decide) h
theorem Ur(hu:A.units+1<aka)(I:Inv X pins J H s)(g:fM H a y (U v))(ry:RelV y u)(h:∀ w' s',Inv X pins J H s'->RelV v w'->Q w' s') :
 afe (model X.prog X.w) A (akY (.ref a) u) Q E s:=by
 rcases g with ⟨kvs,k,e,ey,l⟩|⟨kvs,k,b,e,ey,eb,l⟩
 .subst ey;obtain⟨z,hd,vs,rel,dd⟩:=yt I.aB e;obtain⟨w',hw,md⟩:=gD.some_of (v:=v) (o:=alJ vs k) (by rw[l];exact rel.val k);exact wpAny_getItem_of (yr ry) dd.mapOf hw (h w' _ (I.tok _) md)
 .subst ey;cases (show u=aft b from ry);obtain⟨z,hd,xs,rel,dd⟩:=yw I.aB e;obtain⟨w',hw,md⟩:=gD.some_of (v:=v) (o:=(anm xs k).map (·.2)) (by rw[l];exact rel.val k);obtain⟨p,hp,dD⟩:=afv.mp hw;refine wpAny_getItem_heap (ahv hu) (yu I.aB eb) dd hp ?_;rw[dD];exact h w' _ (I.tok _) md
theorem Us(hu:A.units+1<aka)(I:Inv X pins J H s)(g:fM H a y o)(ry:RelV y u)(h:∀ s',Inv X pins J H s'->Q (.bool (!o.isSome)) s') :
 afe (model X.prog X.w) A (af6 .NotIn u (.ref a)) Q E s:=by
 rcases g with ⟨kvs,k,e,ey,l⟩|⟨kvs,k,b,e,ey,eb,l⟩
 .subst ey;obtain⟨z,hd,vs,rel,dd⟩:=yt I.aB e;refine wpAny_notIn_of (yr ry) hd dd.mapOf ?_;rw[<- (rel.val k).B8,<- l];exact h _ (I.tok _)
 .subst ey;cases (show u=aft b from ry);obtain⟨z,hd,xs,rel,dd⟩:=yw I.aB e;refine wpAny_notIn_heap (ahv hu) (yu I.aB eb) hd dd ?_;have q:=(rel.val k).B8;rw[alK] at q;rw[<- q,<- l];exact h _ (I.tok _)
theorem JT(I:Inv X pins J H s)(mu:t7 (H a))(hs:Heap.SameBut a s.heap h')(he:∃ q,h'.get? a=U q)(new:b9 X.prog X.w (upd H a ob) h' a ob) :
 Inv X pins J (upd H a ob) { s with heap:=h',toks:=t' } :=
 I.write (x:=a) (e:=a) mu (.inl rfl) (λb q hb z=>(hs.2 b hb).trans z) he new
theorem JU(z:kvs.length<=afl)(hd:(a == agI)=false)(rel:KV kvs vs)(dd:h'.DictOf (dr P w) a vs) :
 b9 P w H' h' a (.dK kvs):=#[z,hd,vs,rel,dd]
theorem Ut(hu:A.units+1<aka)(I:Inv X pins J H s)(g:pF H a y v H')(ry:RelV y u)(rv:RelV v r)(h:∀ s',Inv X pins J H' s'->Q () s') :
 afe (model X.prog X.w) A (setItem (.ref a) u r) Q E s:=by
 rcases g with ⟨kvs,k,e,ey,l,eH⟩|⟨kvs,k,b,e,ey,eb,l,eH⟩
 .subst ey eH;obtain⟨z,hd,vs,rel,dd⟩:=Uq I.aB e;have hz:vs.length<=afl:=by rw[<- rel.length];exact z
  have hl:(putK kvs k v).length<=afl:=by have:=JQ kvs k v;omega
  refine wpAny_setItem_pairs (hsz:=hz) (yr ry) dd λh' yx hs=>h _ ?_;have he:∃ q,h'.get? a=U q:=let ⟨q,_,_,hq,_⟩:=yx;#[q,hq];exact JT I (by rw[e];exact ag9) hs he (JU hl hd (rel.put k rv) yx)
 .subst ey eH;cases (show u=aft b from ry);obtain⟨z,hd,xs,rel,dd⟩:=B9 I.aB e;have hz:xs.length<=afl:=by rw[<- Paired.length rel];exact z
  have hl:(putK kvs k v).length<=afl:=by have:=JQ kvs k v;omega
  refine wpAny_setItem_heap (hsz:=hz) (ahv hu) (yu I.aB eb) dd λh' yx hs=>h _ ?_;obtain⟨q,es,ep,hq,h2,h3,h4,c,h5⟩:=yx;refine JT I (by rw[e];exact ag9) hs #[q,hq] #[hl,hd,_,(rel.put k eb rv).keeps λc ys ec=>?_,q,es,ep,hq,h2,h3,h4,h5];rw[aI (rg ec e (λz=>nomatch z))];exact ec
end
def Ca(i:aiF):Prop:=∀ ov iv,subscripted i false ov iv=operate [ov,iv] (akY ov iv)
theorem Uu{prog:afG}{w:agn}{A:agD}{E:aeX->ae4->Prop}{s:ae4}{env:Env}{value slice:aiF}{pos:Pos}{T id:String}{Q:aeX->ae4->Prop}
 (hl:akG (.type T) "__getitem__" = pure (U (.builtin id))) (hs:Ca slice)
 (h:afe (model prog w) A (eval value env) (λo s₁=>afe (model prog w) A (eval slice env) (λi s₂=>s₂.TypeIs o T/\afe (model prog w) A (akY o i) Q E s₂) E s₁) E s) :
 afe (model prog w) A (eval (.Subscript value slice pos) env) Q E s:=by
 refine alC (age h (λo s₁ h₁=>age h₁ (λi s₂ h₂=>?_) λy y x=>x) λy y x=>x);obtain⟨hT,h₂⟩:=h₂;unfold ajR;refine aeM ?_;rw[getitemInPython_of_ne hT.not_modules];refine aeM (ahB hT hl ?_);have fin:afe (model prog w) A (subscripted slice false o i) (λr s₃=>afe (model prog w) A (letTemporaryGo value o r >>= λy=>pure r) Q E s₃) E s₂:=by rw[hs o i];exact wpAny_operating (age h₂ (λr s₃ h₃=>aeM (wpAny_letTemporaryGo (aeR h₃))) λy y x=>x)
 first
  | exact aeR (aeM fin)
  | exact aeM (aeR (aeM fin))
  | exact aeM fin
theorem Uv(I:Inv X pins J H s)(g:fM H a y o):s.TypeIs (.ref a) "dict" := by
 rcases g with ⟨kvs,k,e,z,z⟩|⟨kvs,k,b,e,z,z,z⟩
 .obtain⟨z,z,vs,z,dd⟩:=yt I.aB e;exact dd.typeIs
 .obtain⟨z,z,xs,z,dd⟩:=yw I.aB e;exact dd.typeIs
def Cb(td ty:TE):TE:=λJ H Q=>td J H λx H1=>ty J H1 λy H2=>∃ a v,x = .ref a/\fM H2 a y (U v)/\Q v H2
def Uw(ty td:TE):TE:=λJ H Q=>ty J H λy H1=>td J H1 λx H2=>∃ a o,x = .ref a/\fM H2 a y o/\Q (.bl o.isSome) H2
def JV(ty td:TE):TE:=λJ H Q=>ty J H λy H1=>td J H1 λx H2=>∃ a o,x = .ref a/\fM H2 a y o/\Q (.bl (!o.isSome)) H2
def JW(td ty tv:TE):TS:=λD J H=>tv J H λv H1=>td J H1 λx H2=>ty J H2 λy H3=>∃ a H4,x = .ref a/\pF H3 a y v H4/\D.nx J H4
section
theorem uX(hu:X.A.units+1<aka)(ho:PE X o td)(hi:PE X i ty)(hs:Ca i):PE X (.Subscript o i pos) (Cb td ty):=by intro pins s J H Q I h;refine Uu PySem.F.slot_dict_getitem.lookup hs (aF (ho pins s J H _ I h) λu s1 ⟨x,H1,I1,rx,q1⟩=>aF (hi pins s1 J H1 _ I1 q1) λiv s2 zq=>?_);obtain⟨y,H2,I2,ry,a,v,ex,g,q2⟩:=zq;subst ex;obtain rfl:u=aft a:=rx;exact#[Uv I2 g,Ur hu I2 g ry λw' s3 I3 md=>#[v,H2,I3,md,q2]]
theorem Ux(hu:X.A.units+1<aka)(hi:PE X i ty)(ho:PE X o td):PC X .NotIn i o (JV ty td):=by
 intro pins s J H Q I h;refine aF (hi pins s J H _ I h) λiv s1 ⟨y,H1,I1,ry,q1⟩=>aF (ho pins s1 J H1 _ I1 q1) λu s2 zq=>?_;obtain⟨x,H2,I2,rx,a,ov,ex,g,q2⟩:=zq;subst ex;obtain rfl:u=aft a:=rx;exact Us hu I2 g ry λs3 I3=>#[.bl (!ov.isSome),H2,I3,Y,q2]
theorem Cc(hu:X.A.units+1<aka)(ho:PE X o td)(hi:PE X i ty)(hv:PE X value tv)(hs:aiS value (U (.Subscript o i pos')) pos.line X.env=pure false) :
 PS X (.Assign [.Subscript o i pos'] value pos) (JW td ty tv):=by
 intro pins s J H D I h;refine wpAny_Assign_Subscript (aF (hv pins s J H _ I h) λr s1 ⟨v,H1,I1,rv,q1⟩=>aF (ho pins s1 J H1 _ I1 q1) λu s2 ⟨x,H2,I2,rx,q2⟩=>aF (hi pins s2 J H2 _ I2 q2) λiv s3 zq=>?_) hs;obtain⟨y,H3,I3,ry,a,H4,ex,g,q3⟩:=zq;subst ex;obtain rfl:u=aft a:=rx;exact Ut hu I3 g ry rv λs4 I4=>#[J,H4,I4,q3]
end
structure M1(X:Cx)(o:aiF)(m:Str)(apos:Pos)(e:aiF)(eJ:Pos):Prop where
 base:ah7 o m X.env (eval o X.env)=eval o X.env
 few:((agA eJ (afb [e] X.env)).all (λx=>!x.1) && (ajg eJ (ahx [] X.env)).all (λx=>x.1.isSome)
  && decide (([e]:List aiF).length+([]:List amg).length+(if ([]:List amg).isEmpty then 0 else 1)<30))=true
 line:(apos.endLine == eJ.line)=true
 trees:agA eJ (afb [e] X.env)=[(false,eval e X.env)]
structure M2(X:Cx)(o:aiF)(m:Str)(apos:Pos)(e f:aiF)(eJ:Pos):Prop where
 base:ah7 o m X.env (eval o X.env)=eval o X.env
 few:((agA eJ (afb [e,f] X.env)).all (λx=>!x.1) && (ajg eJ (ahx [] X.env)).all (λx=>x.1.isSome)
  && decide (([e,f]:List aiF).length+([]:List amg).length+(if ([]:List amg).isEmpty then 0 else 1)<30))=true
 line:(apos.endLine == eJ.line)=true
 trees:agA eJ (afb [e,f] X.env)=[(false,eval e X.env),(false,eval f X.env)]
def Uy(H:Hp)(a:ae0):Prop:=(∃ kvs,Rd H a (.dK kvs)) ∨ ∃ kvs,Rd H a (.dT kvs)
section
end
section
variable{κ:Type}[DecidableEq κ]
theorem JX:∀ {l:List κ} {k:κ},l.Nodup->¬ k∈l->(l++[k]).Nodup
 | [],k,_,_=>by simp
 | a::r,k,h,hk=>by
  obtain⟨h1,h2⟩:=af8.mp h;show (a::(r++[k])).Nodup;refine af8.mpr #[λm=>?_,JX h2 λm=>hk (ae2.mpr (alU m))];rcases afq.mp m with q|q
  .exact h1 q
  .exact hk (ae2.mpr (aiz (afd.mp q).symm))
end
end L2
namespace Gz
open PySem PySem.Spec PyProof.Rows L2
def bits(bs:List Int):Prop:=∀ x∈bs,x=0∨x=1
theorem uY(hx:H x=O)(hd:H dx=O)(hn:dx≠x):ah H (upd (upd H dx (.own x)) x (.ins C dx fs)) :=
 (ao hd).trans (ao (by rw[aI (afR hn)];exact hx))
theorem JY{X:Cx}{K:aeN}(h:X.K=K):fY X (.type "list") (λxs H Q=>∃ p ys,xs=[.ref p]/\(ai K H p ys∨aj K H p ys)/\∀ l,H l=O->Q (.ref l) (upd H l (.lst ys))):=by subst h;exact HX
abbrev Lk:=Option (List Int)
def Uz(xs:List ae0)(H:Hp)(v:V):Lk->Prop
 | none=>v = .non
 | some bs=>∃ l,v = .ref l/\l∉xs/\H l=U (.lst (bs.map V.int))
abbrev IsL:=Uz []
section
variable{κ:Type}[DecidableEq κ]
end
section
variable{prog:afG}{w:agn}{K:Type}[DecidableEq K]{knd:HeapKind prog w K}{A:agD}{E:aeX->ae4->Prop}{s:ae4}
end
def fb(h:ag3)(d:ae0)(es:Array ahP)(ep:Nat):Prop:=∃ o,h.get? d=U o/\o.ExactDict/\o.data = .dict es ep
theorem fb.at(x:fb h d es ep)(e:∀ o,h.get? d=U o->h'.get? d=U o):fb h' d es ep:=let ⟨o,ho,r⟩:=x;#[o,e o ho,r]
theorem fb.lt(x:fb h d es ep):d<h.objs.size:=let ⟨_,ho,_⟩:=x;aeU ho
theorem fb.ty{s:ae4}{d:ae0}{es:Array ahP}{ep:Nat}(x:fb s.heap d es ep):s.TypeIs (.ref d) "dict" := let ⟨o,ho,hc,_⟩:=x;#[o,ho,hc.1]
section
variable{prog:afG}{w:agn}{A:agD}{E:aeX->ae4->Prop}{s:ae4}{d it:ae0}{es:Array ahP}{i ep:Nat}
theorem JZ(lo:(d == agI)=false)(x:fb s.heap d es ep)(q:Q (.ref s.heap.objs.size) { s with heap:=s.heap.push { cls:=.type "dict_keyiterator",data:=.fields (List.toArray [.ref d,.int 0 0,.int es.size 0,.int ep 0]) } }):afe (model prog w) A (ang (.ref d)) Q E s:=by have T:=x.ty;obtain⟨o,ho,hc,hq⟩:=x;refine ajG T akf (af9 akf T PySem.F.entry_dict_iter ?_ (PySem.F.args_dict_iter_1 _));unfold ahq.«dict.__iter__»;refine aeM ?_;unfold amH;refine aeM (akv T ?_);refine aeR (a:=aft d) ?_;show afe _ A.in1 (aiB d >>= _) _ _ s;unfold aiB;rw[if_neg (by rw[lo];exact afj)];refine aeM (aeR (aeM (agP ho hq (aeM (ai5 ho hq ?_)))));refine aeM (afI (aeR #[_,Y,"dict_keyiterator",_,#[_,aeZ _ Y,Y],PySem.F.slot_dict_keyiterator_next.lookup,?_]));simpa [aie] using q
theorem J0(hit:s.heap.IsKeyIter it d i es.size ep)(x:fb s.heap d es ep)(hi:i<es.size)(q:∀ h',h'.IsKeyIter it d (i+1) es.size ep->Heap.SameBut it s.heap h'->Q (U es[i].key) { s with heap:=h' }):afe (model prog w) A (ahN (.ref it)) Q E s:=by
 obtain⟨o,ho,hc,hd⟩:=id hit;obtain⟨od,hod,ia,hdd⟩:=x;have T:=hit.typeIs;refine aeM (ah9 (agl (name:=agg "__next__") T agw (af9 agw T ah1 ?_ (ahS _))));refine aeM (aeR (aeM (aeM ?_)))
 first|refine aeM (agK T (aeR (aeM (ahT ho hd ?_))))|refine aeM (ahc T (aeR (aeM (ahT ho hd ?_))))
 have ow:Builtin.Dict_items.ownsTuple "dict_keyiterator" = false:=by decide
 simp only[ow,afn,if_false];show afe _ A.in1 (if (aft d == Value.none)=true then _ else _) _ _ s;refine aeM (aeR (aeM (agP hod hdd ?_)));rw[if_neg (by simp)];refine aeM (aeR (aeM (ai5 hod hdd ?_)));rw[if_neg (by simp)];refine aeR ?_;simp only[show ¬ (i:Int)<0 by lia,if_false,afO,afB hi];refine aeM ?_
 first|refine aeM (agK T (aeR (aeM (aiC T ?_))))|refine aeM (ahc T (aeR (aeM (aiC T ?_))))
 show afe _ A.in1 (al8 (.ref it) 1 (aie ((i:Int)+1)) >>= _) _ _ s;refine aeM (ait ho hd (by simp) ?_);have mD:(s.heap.update it (ahJ (·.setIfInBounds 1 (aie ((i:Int)+1))))).IsKeyIter it d (i+1) es.size ep:=#[_,afE _ ho (Obj.isFreed_of_fields (alm hd _)),(Obj.cls_mapFields ..).trans hc,by rw[alm hd];simp[aie]]
 refine aeM (agr (aeM (aiC (s:={ s with heap:=s.heap.update it (ahJ (·.setIfInBounds 1 (aie ((i:Int)+1)))) }) mD.typeIs ?_)));exact aeR (aeR #[_,Y,aeR (q _ mD (agi ..))])
theorem J1(hh:A.handled=O)(hit:s.heap.IsKeyIter it d es.size es.size ep)(x:fb s.heap d es ep)(q:∀ h',amv it s.heap h'->Q O { s with heap:=h' }):afe (model prog w) A (ahN (.ref it)) Q E s:=by
 obtain⟨o,ho,hc,hd⟩:=id hit;obtain⟨od,hod,ia,hdd⟩:=x;have T:=hit.typeIs;refine aeM (ah9 (agl (name:=agg "__next__") T agw (af9 agw T ah1 ?_ (ahS _))));refine aeM (aeR (aeM (aeM ?_)))
 first|refine aeM (agK T (aeR (aeM (ahT ho hd ?_))))|refine aeM (ahc T (aeR (aeM (ahT ho hd ?_))))
 have ow:Builtin.Dict_items.ownsTuple "dict_keyiterator" = false:=by decide
 simp only[ow,afn,if_false];show afe _ A.in1 (if (aft d == Value.none)=true then _ else _) _ _ s;refine aeM (aeR (aeM (agP hod hdd ?_)));rw[if_neg (by simp)];refine aeM (aeR (aeM (ai5 hod hdd ?_)));rw[if_neg (by simp)];refine aeR ?_;simp only[show ¬ (es.size:Int)<0 by lia,if_false,afO,ahs (aeV es.size)];refine aeM ?_
 first|refine aeM (agK T (aeR ?_))|refine aeM (ahc T (aeR ?_))
 show afe _ A.in1 (al8 (.ref it) 0 .none >>= _) _ _ s;refine aeM (ait ho hd (by simp) ?_);show afe _ A.in1 (newExc (.type "StopIteration") [] >>= _) _ _ _;refine aeM ?_;simp only[newExc,am4];refine aeM (afI ?_ (by size_fits));refine aeM (m:=ajr _ _) (ajU (a:=Value.none) (by first|rfl|(simp only[ajr];rfl)) ?_);refine afI ?_ (by size_fits);simp only[raiseNew];refine aeM (wpAny_handled ?_);rw[show A.in1.handled=O from hh];refine aeM (aeR (wpAny_throw ?_));refine aeM (ahm (T := "StopIteration") (b:=true) #[_,aeZ _ Y,Y] akT ?_);exact aeR (q _ (((agi ..).extBut.push _).push _))
theorem UA(hh:A.handled=O)(I d:ae0)(bN:d≠I)(es:Array ahP)(ep:Nat) :
 Walks prog w A I [I,d] [I] es.size (λi v=>∃ e,es[i]?=U e/\v=e.key) (λi h=>h.IsKeyIter I d i es.size ep/\fb h d es ep) where
 sub:=λb hb=>by simp at hb;simp[hb]
 frame:=λy y y st hk=>#[st.1.at λo e=>hk I (by simp) o e,st.2.at λo e=>hk d (by simp) o e]
 item:=λi s Q E hi st hQ=>by refine J0 st.1 st.2 hi λh' mD J5=>?_;exact hQ _ h' s.toks #[es[i],afB hi,Y] #[mD,st.2.at λo e=>J5.extBut d o bN e] λb o hb e=>J5.extBut b o (λh=>hb (by simp[h])) e
 done:=λs Q E st hQ=>J1 hh st.1 st.2 λh' sk=>hQ h' s.toks λb o hb e=>sk b o (λh=>hb (by simp[h])) e
 self:=λy y y y st hQ=>akP st.1 hQ
theorem UB(lo:(d == agI)=false):akU prog w "dict" d d es.size (λi v=>∃ e,es[i]?=U e/\v=e.key) (λh=>fb h d es ep) where
 type:=λy x=>x.ty
 there:=λy x=>#[x.lt,x.lt]
 keep:=λy y x hk=>x.at λo e=>hk d (.inl rfl) o e
 notList:=by decide
 notTuple:=by decide
 hint:=λy y y y x hq=>PySem.W.kdl_hint_dict x.ty hq
 iter:=λy y hh x=>#[_,_,(λy y hq=>JZ lo x hq),UA hh _ d (afa x.lt) es ep,#[#[_,aeZ _ Y,Y,Y],x.at λo e=>aeS _ e]]
end
section
def pG(h:ag3)(vs:List aeX)(kis:List (List Int))(i:Nat):Prop:=∃ (p:ae0) (o:Obj) (aw:List aeX) (m:Nat),vs[i]?=U (.ref p)/\h.get? p=U o/\o.cls = .type "tuple" /\ o.data = .seq aw.toArray m/\ajQ aw (kis.getD i [])/\aw≠[]
theorem pG.keep(x:pG h vs kis i)(k:∀ b o,h.get? b=U o->(∀ n xs,o≠ahw "list" xs n)->h'.get? b=U o):pG h' vs kis i:=by obtain⟨p,o,aw,m,h1,h2,h3,r⟩:=x;exact#[p,o,aw,m,h1,k p o h2 (λn xs z=>by rw[z] at h3;exact absurd (Value.type.inj h3) (by decide)),h3,r]
theorem UC(h:ajQ aw ns)(hn:aw≠[]):∃ i t,aw[0]?=U (.int i t):=by
 cases h with
 | nil=>exact absurd Y hn
 | cons=>exact#[_,_,Y]
theorem J6:∀ (vs:List aeX) (kis:List (List Int)),kis.length=vs.length->(∀ i,i<vs.length->pG h vs kis i)->∃ fs,PySem.W.KatTups h vs fs/\fs.length=vs.length/\∀ v∈fs,∃ i t,v = .int i t
 | [],_,_,_=>#[[],PySem.W.KatTups.nil,Y,λv z=>by simp at z]
 | v::vs,[],e,_=>by simp at e
 | v::vs,k::kis,e,hh=>by
  obtain⟨p,o,aw,m,h1,h2,h3,h4,h5,h6⟩:=hh 0 (by simp);have rY:v = .ref p:=by simpa using h1
  subst rY;obtain⟨i,t,hf⟩:=UC h5 h6;obtain⟨fs,a1,a2,a3⟩:=J6 vs kis (by simpa using e) λi hi=>by obtain⟨p,o,aw,m,h1,r⟩:=hh (i+1) (by simpa using hi);exact#[p,o,aw,m,by simpa using h1,by simpa using r]
  refine#[.int i t::fs,PySem.W.KatTups.cons h2 h3 h4 (by simpa using hf) a1,by simp[a2],λv hv=>?_];rcases ae2.mp hv with z|z
  .exact#[i,t,z]
  .exact a3 v z
def yy(prog:afG)(w:agn)(h:ag3)(vs:List aeX)(kis:List (List Int)):Prop :=
 2<=vs.length->∃ κ,∀ (A:agD) (E:aeX->ae4->Prop) (s:ae4),s.heap=h->(∀ Q:SortKind->ae4->Prop,Q κ s->afe (model prog w) A (keyKind' vs.toArray) Q E s) /\
  ∀ i j,i<vs.length->j<vs.length->∀ C:Bool->ae4->Prop,C (dQ kis i j) s->afe (model prog w) A (keyLt' κ (vs.getD i Value.none) (vs.getD j Value.none)) C E s
theorem UD(ho:s.heap.get? a=U (ahw "list" vs.toArray n))(hl:kis.length=vs.length)(gf:vs.length<64)(hk:∀ g:ag3,(∀ b o,(∀ n xs,o≠ahw "list" xs n)->s.heap.get? b=U o->g.get? b=U o)->yy prog w g vs kis)(fin:∀ h',(∀ b o,b≠a->s.heap.get? b=U o->h'.get? b=U o)->(∃ c,h'.get? a=U (ahw "list" (ag1 ((dC (dQ kis) vs.length).toList.map λi=>vs.getD i Value.none)) c))->P (.done (.ret .none)) { s with heap:=h' }) :
 afe (model prog w) A (ahq.«list.sort» #[[.ref a],[]]) P E s:=by
 rw[list_sort_plain];refine aeM (listItems_at ho Y (aeM (aln ho Y ?_ (by rw[ae3,aim];walk_at "o") (afi _))));obtain⟨e1,oa⟩:∃ e1,(s.heap.update a (agm λv=>((List.toArray []):Array aeX))).get? a=U (ahw "list" (List.toArray []) e1):=#[_,amw ho λv=>(List.toArray [])]
 have keep:∀ b o,b≠a->s.heap.get? b=U o->(s.heap.update a (agm λv=>((List.toArray []):Array aeX))).get? b=U o:=λb o z e=>(aff _ _ (afR z)).trans e;refine aeM (amx oa Y ?_);generalize s.heap.update a (agm λv=>((List.toArray []):Array aeX))=g at oa keep ⊢;refine aeM (wpAny_newTuple ?_ (by show vs.length<=_;rw[aim];walk_at "o"));refine aeM (wpAny_newList ?_ (afi _));refine agr ?_;show afe (model prog w) A _ P E { s with heap:=(g.push (ahw "tuple" vs.toArray 0)).push (ahw "list" (List.toArray []) 0) };have sm:((g.push (ahw "tuple" vs.toArray 0)).push (ahw "list" (List.toArray []) 0)).get? a=U (ahw "list" (List.toArray []) e1):=aeS _ (aeS _ oa);have Cd:∀ b o,b≠a->s.heap.get? b=U o->((g.push (ahw "tuple" vs.toArray 0)).push (ahw "list" (List.toArray []) 0)).get? b=U o:=λb o z e=>aeS _ (aeS _ (keep b o z e));generalize (g.push (ahw "tuple" vs.toArray 0)).push (ahw "list" (List.toArray []) 0)=g2 at sm Cd ⊢;dsimp only;have neT:∀ b o,s.heap.get? b=U o->(∀ n xs,o≠ahw "list" xs n)->b≠a:=λb o e z y=>by rw[y,ho] at e;cases e;exact z _ _ rfl
 have sq:((dC (dQ kis) vs.length).toList.map λi=>vs.getD i Value.none).length=vs.length:=by rw[aeO,(rX (n:=vs.length) (pC kis)).1.length_eq,ae9]
 have sz:(ag1 ((dC (dQ kis) vs.length).toList.map λi=>vs.getD i Value.none)).size<=afl+1:=by rw[ae3,sq,aim];walk_at "o"
 have done:P (.done (.ret .none)) { s with heap:=g2.update a (agm λv=>ag1 ((dC (dQ kis) vs.length).toList.map λi=>vs.getD i Value.none)) } :=
  fin _ (λb o z e=>(aff _ _ (afR z)).trans (Cd b o z e)) #[_,amw sm λv=>_]
 by_cases h2:vs.toArray.size<2
 .rw[if_pos h2,if_pos h2];refine aeM (aeR ?_);refine aeM (aeR ?_);dsimp only;have self:(afp vs.length).map (λi=>vs.getD i Value.none)=vs:=by
   apply aj6
   .simp
   .intro i h1 h2;simp[aeP,h2]
  have e0:(arrOf (SortSt.mk' general' (vs.toArray.zip vs.toArray) (List.toArray []) 7 O)).map (·.2)=ag1 ((dC (dQ kis) vs.length).toList.map λi=>vs.getD i Value.none):=by unfold dC;rw[if_pos (by simpa using h2)];apply Array.toList_inj.mp;rw[show (afp vs.length).toArray.toList=afp vs.length from Y,self];show ((vs.toArray.zip vs.toArray).map (·.2)).toList=_;simp[List.map_snd_zip]
  rw[e0];refine aeM (amx sm Y (aeM (aln sm Y ?_ (afi _) sz)));simp only[bne_self_eq_false,afn,if_false];exact aeR done
 .rw[if_neg h2,if_neg h2];have uS:2<=vs.length:=by rw[ae3] at h2;walk_at "o"
  obtain⟨κ,hκ⟩:=hk g2 (λb o z e=>Cd b o (neT b o e z) e) uS;refine aeM ((hκ A E { s with heap:=g2 } rfl).1 _ ?_);have ask:(PySem.W.kas_sort vs.length).kasWp (PySem.W.kas_ask prog w A κ vs) (λp s'=>s' = { s with heap:=g2 }/\p=dC (dQ kis) vs.length) { s with heap:=g2 }:=by
   have pv:=JC _ (JA (n:=vs.length) (pC kis) (by walk_at "o"));refine Ju (lt:=dQ kis) (n:=vs.length) (Ok:=λs'=>s' = { s with heap:=g2 }) (λi j C s' hi hj e q=>?_) (λp s' e q=>#[e,?_]) _ _ Y pv
   .subst e;exact (hκ _ _ _ Y).2 i j hi hj C (q _ Y)
   .rw[q];unfold dC;rw[if_neg (by walk_at "o")]
  refine aeM (age (PySem.W.kat_run (κ:=κ) (ks:=vs) (vs:=vs) (Q:=λst s'=>s' = { s with heap:=g2 }/\arrOf st=(dC (dQ kis) vs.length).map (PySem.W.kas_item (vs.toArray.zip vs.toArray))/\failedOf st=O)
   Y uS gf (λp st s' b1 b2 b3 b4=>#[b4.1,by rw[b2,b4.2],b3]) ask) ?_ λv v z=>z)
  rintro ⟨⟨⟩,st⟩ s' ⟨rfl,har,hf⟩;rw[PySem.W.kat_snds Y har];refine aeM (amx sm Y (aeM (aln sm Y ?_ (afi _) sz)));rw[hf];simp only[bne_self_eq_false,afn,if_false];exact aeR done
theorem J9(hl:kis.length=vs.length)(gf:vs.length<64)(hk:∀ g:ag3,(∀ b o,(∀ n xs,o≠ahw "list" xs n)->s.heap.get? b=U o->g.get? b=U o)->yy prog w g vs kis)(uZ:∀ (A':agD) (Q':List aeX->ae4->Prop) (E':aeX->ae4->Prop),A'.handled=A.handled->(∀ h' tk,(∀ b o,s.heap.get? b=U o->h'.get? b=U o)->s.heap.objs.size<=h'.objs.size->Q' vs { s with heap:=h',toks:=tk })->afe (model prog w) A' (collect (.ref r)) Q' E' s)(q:∀ l h' tk,s.heap.objs.size<=l->(∀ b o,s.heap.get? b=U o->h'.get? b=U o)->(∃ c,h'.get? l=U (ahw "list" (ag1 ((dC (dQ kis) vs.length).toList.map λi=>vs.getD i Value.none)) c))->Q (.ref l) { s with heap:=h',toks:=tk }) :
 afe (model prog w) A (call (.builtin "sorted") [.ref r]) Q E s:=by
 refine Calls.call_function_entry kind_sorted plain_sorted entry_sorted (args_sorted1 _) ?_;unfold ahq.«sorted»;refine aeM (m:=checkCount "sorted" 1 1 _) (aeR (aeM (uZ _ _ _ Y λh1 tk keep hsz=>?_)));refine aeM (wpAny_newList ?_ (by rw[aim];walk_at "o"));have oL:(h1.push (ahw "list" vs.toArray 0)).get? h1.objs.size=U (ahw "list" vs.toArray 0):=aeZ _ rfl;have u5:∀ b o,s.heap.get? b=U o->b≠h1.objs.size/\(h1.push (ahw "list" vs.toArray 0)).get? b=U o:=λb o e=>by have:=aeU e;exact#[by walk_at "o",aeS _ (keep b o e)]
 show afe _ A.in1 (holding [.ref h1.objs.size] (call (.builtin "list.sort") [.ref h1.objs.size]) >>= _) _ _ { s with heap:=h1.push (ahw "list" vs.toArray 0),toks:=tk };generalize h1.push (ahw "list" vs.toArray 0)=h2 at oL u5 ⊢;generalize h1.objs.size=l at oL u5 hsz ⊢;refine aeM (agr (af9 slot_list_sort #[_,oL,Y] entry_list_sort ?body (args_list_sort _)))
 case body =>
  refine UD (s:={ s with heap:=h2,toks:=tk }) oL hl gf (λg z=>hk g λb o n e=>z b o n (u5 b o e).2) λh' k c=>#[_,Y,aeR #[_,Y,q l h' tk hsz (λb o e=>k b o (u5 b o e).1 (u5 b o e).2) c]]
theorem UE(hl:kis.length=vs.length)(hk:∀ i,i<vs.length->pG h vs kis i):yy prog w h vs kis:=λh2=>by
 obtain⟨fs,ht,lf,hi⟩:=J6 vs kis hl hk;refine#[tuples' true,λA E s e=>?_];subst e;refine#[λQ q=>PySem.W.kat_kind (T:=.type "int") ht (by walk_at "o") (λv hv=>?_) (by decide) q,λi j hi hj C q=>?_]
 .obtain⟨i,t,rfl⟩:=hi v hv;exact PySem.W.Looks.now
 .obtain⟨p1,o1,i1,m1,a1,b1,y,c1,d1,y⟩:=hk i hi;obtain⟨p2,o2,i2,m2,a2,b2,y,c2,d2,y⟩:=hk j hj;rw[aeP,aeP,a1,a2];have z1:=d1.length;have z2:=d2.length;exact PySem.W.kat_lt b1 c1 b2 c2 (by simpa using T6 (b:=true) (i:=0) d1 d2 (by simp[z1,z2]) q)
theorem UG(hl:kis.length=vs.length)(gf:vs.length<64)(hk:∀ i,i<vs.length->pG s.heap vs kis i)(uZ:∀ (A':agD) (Q':List aeX->ae4->Prop) (E':aeX->ae4->Prop),A'.handled=A.handled->(∀ h' tk,(∀ b o,s.heap.get? b=U o->h'.get? b=U o)->s.heap.objs.size<=h'.objs.size->Q' vs { s with heap:=h',toks:=tk })->afe (model prog w) A' (collect (.ref r)) Q' E' s)(q:∀ l h' tk,s.heap.objs.size<=l->(∀ b o,s.heap.get? b=U o->h'.get? b=U o)->(∃ c,h'.get? l=U (ahw "list" (ag1 ((dC (dQ kis) vs.length).toList.map λi=>vs.getD i Value.none)) c))->Q (.ref l) { s with heap:=h',toks:=tk }) :
 afe (model prog w) A (call (.builtin "sorted") [.ref r]) Q E s :=
 J9 hl gf (λg z=>UE hl λi hi=>(hk i hi).keep λb o e n=>z b o n e) uZ q
theorem Ka(K:akU prog w T r d n P OK)(hh:A.handled=O)(aB:OK s.heap)(hn:n<=afl)(q:∀ h' tk acc,(∀ b o,s.heap.get? b=U o->h'.get? b=U o)->s.heap.objs.size<=h'.objs.size->ItemsOf P acc n->Q acc.toList { s with heap:=h',toks:=tk }):afe (model prog w) A (collect (.ref r)) Q E s:=by
 have lt:=K.there _ aB;unfold collect;refine aeM (wpAny_runValue (agb entry_proto_collect' ?_));rw[afK PySem.F.plain_proto_collect _];show afe _ A.in1 (anz [] >>= λl=>again (.builtin "list.__iadd__" #[[l,.ref r],[]])) _ _ s;refine aeM (afI (aeR #[Code.quiet_builtin _ (by decide +kernel),agb entry_list_iadd' ?_]));rw[afK PySem.F.plain_list_iadd _];have oS:(s.heap.push { cls:=.type "list",data:=.seq ([]:List aeX).toArray }).get? s.heap.objs.size=U { cls:=.type "list",data:=.seq (List.toArray []) 0 }:=aeZ _ rfl;show afe _ A.in1 (agU (.ref s.heap.objs.size) (.ref r) (.ref s.heap.objs.size)) _ _ { s with heap:=s.heap.push { cls:=.type "list",data:=.seq ([]:List aeX).toArray } };refine PySem.W.kdl_extend (R:=λr s'=>match r with
  | .ok (.ret v)=>afe (model prog w) A (match v with|.ref a=>(do match (<- load a).data with|.seq xs _=>pure xs.toList|_=>unsupported "internal:collect")|_=>unsupported "internal:collect") Q E s'
  | .ok _=>False
  | .error e=>E e s') (s:={ s with heap:=s.heap.push { cls:=.type "list",data:=.seq ([]:List aeX).toArray } }) K hh (K.keep _ _ aB λb y o e=>aeS _ e) s.heap.objs.size (af3 lt.1) (af3 lt.2) (.ref s.heap.objs.size) 0 oS (λh' tk acc c hk hS jJ=>?_) hn
 show afe _ A (load s.heap.objs.size >>= _) _ _ _;refine aeM (wpAny_load hS (aeR ?_));exact q h' tk acc (λb o e=>hk b o (afa (aeU e)) (aeS _ e)) (aiw (aeU hS)) jJ
end
def kh(H:Hp)(xs:List V)(kvs:List (List Key × V)):Prop:=ax (λx (kv:List Key × V)=>∃ a,x = .ref a/\H a=U (.tup (kv.1.map kV))) xs kvs
theorem KT.keys(r:KT H kvs xs):xs.map (·.1)=kvs.map (·.1):=by
 induction r with
 | nil=>rfl
 | cons h t ih=>rw[ae7,ae7,ih,h.1]
theorem KT.Kb(r:KT H kvs xs):kh H ((xs.map (·.2.1)).map V.ref) kvs:=by
 induction r with
 | nil=>exact trivial
 | cons h t ih=>exact#[#[_,Y,h.2.1],ih]
theorem kh.Kc{K:aeN}{H:Hp}:∀ {ys:List V} {kvs:List (List Key × V)} {kis:List (List Int)},kh H ys kvs->kvs.map (·.1)=kis.map (λk=>k.map aiQ)->(∀ k∈kis,k≠[])->jI K H ys kis
 | [],[],[],_,_,_=>trivial
 | [],[],_::_,_,e,_=>by simp at e
 | _::_,kv::kvs,[],_,e,_=>by simp at e
 | y::ys,kv::kvs,k::kis,h,e,hn=>by rw[ae7,ae7] at e;injection e with e1 e2;obtain⟨⟨a,rfl,ha⟩,t⟩:=h;refine#[#[a,Y,?_,hn k (.head _)],kh.Kc t e2 λk hk=>hn k (.tail _ hk)];rw[e1,afA] at ha;exact .inl (.inl ha)
 | [],_::_,_,h,_,_=>h.elim
 | _::_,[],_,h,_,_=>h.elim
theorem Kd:∀ (as:List ae0),Vals (as.map V.ref) (as.map aft)
 | []=>.nil
 | _::as=>.cons rfl (Kd as)
section
theorem UH(I:Inv X pins J H s)(e:H p=U (.dT kvs)):∃ (as:List ae0) (es:Array ahP) (ep:Nat),kh H (as.map V.ref) kvs/\(p == agI)=false/\fb s.heap p es ep/\es.size=as.length/\(∀ acc:Array aeX,ItemsOf (λi v=>∃ e,es[i]?=U e/\v=e.key) acc es.size->acc.toList=as.map aft)/\as.length<=afl:=by
 obtain⟨z,hd,xs,rel,o,es,ep,ho,hc,hdt,he,his,hn⟩:=B9 I.aB e;have hl:xs.length=kvs.length:=(Paired.length rel).symm;have hs:es.size=xs.length:=akw he;refine#[xs.map (·.2.1),es,ep,KT.Kb rel,hd,#[o,ho,hc,hdt],by rw[aeO];exact hs,λacc ha=>?_,by rw[aeO,hl];exact z];refine ahK λi=>?_;rw[ae5,ae5];have la:acc.toList.length=es.size:=by rw[agE];exact ha.1
 by_cases hi:i<es.size
 .obtain⟨v,hv⟩:∃ v,acc.toList[i]?=U v:=#[_,aeQ (by lia)]
  obtain⟨en,h1,h2⟩:=ha.2 i v (by rw[<- aiD];exact hv);rw[entry_at he i] at h1;cases hx:xs[i]? with
  | none=>rw[hx] at h1;cases h1
  | some y=>rw[hx] at h1;cases h1;rw[hv,h2];rfl
 .rw[agj (by lia),agj (by lia)];rfl
theorem UI(I:Inv X pins J H s)(h:jI X.K H ks kis)(r:Vals ks us):∀ i,i<us.length->pG s.heap us kis i:=λi hi=>by
 have hk:i<ks.length:=by rw[r.length];exact hi
 have UJ:i<kis.length:=by rw[<- h.len];exact hk
 obtain⟨p,ep,hp⟩:=h.get (aeQ hk);obtain⟨u,eu,ru⟩:=r.get (aeQ hk);rw[ep] at ru;cases ru;obtain⟨aw,rv,⟨o,ho,hc,m,hd⟩,y⟩:=I.tuple hp;refine#[p,o,aw,m,eu,ho,hc,hd,intsAre_of rv,λz=>?_];have nn:kis.getD i []≠[]:=by
  have all:∀ {ks:List V} {ns:List (List Int)},jI X.K H ks ns->∀ n∈ns,n≠[]:=by
   intro ks
   induction ks with
   | nil=>intro ns h n hn;cases ns with
    | nil=>simp at hn
    | cons _ _=>exact h.elim
   | cons k ks ih=>intro ns h n hn;cases ns with
    | nil=>exact h.elim
    | cons m ns =>
     obtain⟨⟨y,y,y,bN⟩,t⟩:=h;rcases ae2.mp hn with z|z
     .rw[z];exact bN
     .exact ih t n z
  rw[aeP,aeQ UJ];exact all h _ (aj5 _)
 have:=rv.length;rw[aeO,z] at this;exact nn (ahj.mp this)
theorem Ke(I:Inv X pins J H s)(r:Vals ks us)(hz:ks.length<=afl)(hl:s.heap.objs.size<=l)(keep:∀ b o,s.heap.get? b=U o->h'.get? b=U o)(hD:∃ c,h'.get? l=U (ahw "list" (ag1 ((dC (dQ kis) us.length).toList.map λi=>us.getD i Value.none)) c))(q:∀ l,H l=O->Q (.ref l) (upd H l (.lst (eZ kis .non ks)))):EP X pins J Q (.ref l) { s with heap:=h',toks:=tk }:=by obtain⟨c,hD⟩:=hD;have sv:=T8 (kis:=kis) r;rw[r.length] at sv;exact#[.ref l,_,I.laid (t':=tk) keep hl (show b9 X.prog X.w _ h' _ (.lst (eZ kis .non ks)) from #[by rw[JG];exact hz,_,c,sv,hD]),Y,q l (I.aB.fresh hl)]
theorem UK(hc:X.calm=true):fY X (.builtin "sorted") (λxs H Q=>∃ (p:ae0) (kvs:List (List Key × V)) (kis:List (List Int)),xs=[.ref p]/\H p=U (.dT kvs)/\kvs.map (·.1)=kis.map (λk=>k.map aiQ)/\(∀ k∈kis,k≠[])/\kvs.length<64 /\
 ∀ l ys,H l=O->kh H ys kvs->Q (.ref l) (upd H l (.lst (eZ kis .non ys)))):=by
 intro pins s J H xs us Q I r h;obtain⟨p,kvs,kis,rfl,e,ek,bN,gf,q⟩:=h;obtain⟨u,rfl,rx⟩:=vals1 r;cases rx;obtain⟨as,es,ep,hk,lo,ra,hs,jJ,hz⟩:=UH I e;have la:as.length=kvs.length:=by have:=hk.len;rwa [aeO] at this
 have lk:kis.length=kvs.length:=by have:=congrArg List.length ek;simpa using this.symm
 have hK:jI X.K H (as.map V.ref) kis:=hk.Kc ek bN;have rv:=Kd as;refine UG (kis:=kis) (vs:=as.map aft) (by rw[aeO];lia) (by rw[aeO];lia) (UI I hK rv) (λA' Q' E' hA hq=>Ka (UB lo) (hA.trans (I.ok.hd hc)) ra (by rw[hs];exact hz) λh' tk acc k1 k2 ha=>?_) λl h' tk h1 h2 h3=>Ke I rv (by rw[aeO];exact hz) h1 h2 h3 λl hl=>q l _ hl hk;rw[jJ acc ha];exact hq h' tk k1 k2
end
def UL(td ty:TE):TE:=λJ H Q=>td J H λx H1=>∃ a,x = .ref a/\Uy H1 a/\ty J H1 λy H2=>∃ b kvs k v,y = .ref b/\H2 a=U (.dT kvs)/\H2 b=U (.tup (k.map kV))/\ig kvs k=U v/\Q v (upd H2 a (.dT (Up kvs k)))
section
end
section
variable{prog:afG}{w:agn}{K:Type}[DecidableEq K]{knd:KeyKind prog w K}{A:agD}{E:aeX->ae4->Prop}{s:ae4}{o d:ae0}{es:Array ahP}{ep:Nat}
def yz(h:ag3)(es:Array ahP):Prop:=∀ e∈es,(es.filter (·.hash == e.hash)).size<=1/\∃ a ob,e.key = .ref a/\h.get? a=U ob/\ob.cls = .type "tuple"
theorem UM(x:fb s.heap o es ep)(hk:yz s.heap es)(q:Q es s):afe (model prog w) A (aiN nm o) Q E s:=by
 obtain⟨ob,ho,y,hd⟩:=x;unfold aiN;refine aeM (agP ho hd ?_);refine aeM ?_;rw[<- Array.forIn_toList];refine al4 _ (λrest y s'=>s'=s/\∀ e∈rest,e∈es) _ ?_ ?_ _ _ #[Y,λe he=>aiL.mp he]
 .rintro e rest b s' ⟨rfl,bL⟩;obtain⟨h1,a,oa,ea,ha,hc⟩:=hk e (bL e (.head _));have T:s'.TypeIs e.key "tuple" := by rw[ea];exact#[oa,ha,hc]
  have nx:¬ 1<(es.filter (·.hash == e.hash)).size:=by lia
  refine aeM ?_;rw[ea] at T ⊢;unfold ant;refine aeM (ahB (name:=agg "__eq__") T (show akG (.type "tuple") (agg "__eq__")=pure (U (.builtin "tuple.__eq__")) from by rw[aia,ag2];kernel_rfl) (aeR ?_));have ne:(U (am5 "tuple.__eq__") == U (am5 "object.__eq__"))=false:=by decide +kernel
  rw[ne,if_pos (show (!false)=true from Y),if_neg nx];exact aeR #[Y,λe he=>bL e (.tail _ he)]
 .rintro b s' ⟨rfl,y⟩;exact aeR q
theorem UN(lo:(o == agI)=false)(x:fb s.heap o es ep)(hk:yz s.heap es)(hz:es.size<=afl)(q:∀ h' lX,fb h' s.heap.objs.size es lX->Heap.SameBut s.heap.objs.size (s.heap.push { cls:=.type "dict",data:=.dict (List.toArray []) }) h'->Q (.ref s.heap.objs.size) { s with heap:=h' }):afe (model prog w) A (call (.type "dict") [.ref o]) Q E s:=by
 have lt:=x.lt;refine callType_codes (Q₁:=λy s₁=>y = .ref s.heap.objs.size/\s₁ = { s with heap:=s.heap.push { cls:=.type "dict",data:=.dict (List.toArray []) } }) PySem.F.kt_called_dict (PySem.F.kt_typeCall_dict_1 _) PySem.F.entry_dict_init (kt_code_dict_new _ #[Y,Y]) ?_;rintro y s₁ ⟨rfl,rfl⟩;have xn:fb (s.heap.push { cls:=.type "dict",data:=.dict (List.toArray []) }) s.heap.objs.size (List.toArray []) 0:=#[_,aeZ _ Y,#[Y,Y,Y],Y]
 have xo:fb (s.heap.push { cls:=.type "dict",data:=.dict (List.toArray []) }) o es ep:=x.at λv e=>aeS _ e;have iI:yz (s.heap.push { cls:=.type "dict",data:=.dict (List.toArray []) }) es:=λe he=>by obtain⟨h1,a,oa,ea,ha,hc⟩:=hk e he;exact#[h1,a,oa,ea,aeS _ ha,hc]
 have Tn:Shared.TypeIs { s with heap:=s.heap.push { cls:=.type "dict",data:=.dict (List.toArray []) } } (.ref s.heap.objs.size) "dict" := fb.ty (s:={ s with heap:=s.heap.push { cls:=.type "dict",data:=.dict (List.toArray []) } }) xn;have To:Shared.TypeIs { s with heap:=s.heap.push { cls:=.type "dict",data:=.dict (List.toArray []) } } (.ref o) "dict" := fb.ty (s:={ s with heap:=s.heap.push { cls:=.type "dict",data:=.dict (List.toArray []) } }) xo;have UO:¬ s.heap.objs.size=o:=by walk_at "o"
 refine#[Tn,PySem.F.args_dict_init_2 _ _,?_];unfold ahq.«dict.__init__»;refine aeM ?_;unfold amX;refine aeM (akv Tn ?_);refine aeR (a:=(s.heap.objs.size,[aft o])) ?_;show afe _ _ (ajZ "dict.__init__" s.heap.objs.size (.ref o) [] .none) _ _ _;unfold ajZ;refine aeM (akr To ?_);rw[if_neg (by decide)];refine aeM ?_;unfold anB;refine aeM ?_;unfold amI;refine aeM (ahm To isSubtype_dict_dict ?_);simp only[aiO,afn,if_false];refine aeM (ahB To PySem.F.slot_dict_iter.lookup (aeR ?_));simp only[beq_self_eq_true,if_true];refine aeM (aeR ?_);obtain⟨on,hon,hcn,hdn⟩:=id xn;obtain⟨oo,hoo,hco,Ce⟩:=id xo;unfold anb;rw[if_neg (by simpa using UO)];unfold aiB;rw[if_neg (by rw[lo];exact afj)];refine aeM (aeR (aeM (agP hoo Ce ?_)));dsimp only;by_cases hemp:es.isEmpty=true
 .have e0:es = (List.toArray []):=Array.isEmpty_iff.mp hemp;subst e0;rw[if_neg (by simp)];refine aeM (ai5 hoo Ce (aeM (agP hoo Ce (aeM ?_))));rw[Std.Legacy.Range.forIn_eq_forIn_range'];refine aeR (aeR ?_);exact aeM (aeR (aeR #[Y,q _ _ xn (Heap.SameBut.refl _ _)]))
 .have nf:(decide (es.size<=8) && es.all λe=>(keyPart e.key).isSome)=false:=by
   rw[akx];refine .inr (alF.mpr λz=>?_);have hs:0<es.size:=by
    rcases alo es.size with h|h
    .exact absurd (by simpa using h) hemp
    .exact h
   have z0:=(Array.all_eq_true.mp z) 0 hs;obtain⟨v,a,v,ea,v⟩:=hk es[0] (Array.getElem_mem hs);rw[ea] at z0;cases z0
  rw[nf,if_pos (show (!false)=true from Y)];refine aeM (agP hon hdn ?_);rw[if_pos (show ((List.toArray []):Array ahP).isEmpty=true from Y)];refine aeM (UM xo iI ?_);rw[if_pos (by simpa using hemp)];refine aeM (wpAny_updateDictKeysTo hon hdn (aeR ?_) (alL hz));exact aeM (aeR (aeR #[Y,q _ _ #[_,afE _ hon (Obj.isFreed_of_dict (akQ hdn _)),hcn.mapDictKeys _,akQ hdn _] (agi ..)]))
end
theorem Kf{α:Type}{f:α->Int}:∀ {l:List α},(l.map f).Nodup->∀ c,(l.filter λx=>f x == c).length<=1
 | [],_,_=>by simp
 | x::l,h,c=>by
  rw[ae7,af8] at h;have ih:=Kf h.2 c;rw[afU];split
  .rename_i hx;have e:(l.filter λx=>f x == c)=[]:=by
    rw[List.filter_eq_nil_iff];intro y hy UP;have e1:f x=c:=by simpa using hx
    have e2:f y=c:=by simpa using UP
    exact h.1 (by rw[e1,<- e2];exact aeY.mpr #[y,hy,Y])
   rw[e];exact aeV _
  .exact ih
theorem UQ:fY X (.type "dict") (λxs H Q=>∃ p kvs,xs=[.ref p]/\H p=U (.dT kvs)/\(kvs.map λkv=>ahC (dr X.prog X.w) kv.1).Nodup/\∀ l,H l=O->Q (.ref l) (upd H l (.dT kvs))):=by
 intro pins s J H xs us Q I r h;obtain⟨p,kvs,rfl,e,hh,q⟩:=h;obtain⟨u,rfl,rx⟩:=vals1 r;cases rx;obtain⟨z,lo,xs,rel,o,es,ep,ho,hc,hdt,he,his,hn⟩:=B9 I.aB e;have hl:xs.length=kvs.length:=(Paired.length rel).symm;have hs:es.size=xs.length:=akw he;have ks:xs.map (·.1)=kvs.map (·.1):=KT.keys rel;have UR:(es.toList.map (·.hash)).Nodup:=by
  have e1:es.toList.map (·.hash)=kvs.map λkv=>ahC (dr X.prog X.w) kv.1:=by rw[he,afA,show (kvs.map λkv=>ahC (dr X.prog X.w) kv.1)=(kvs.map (·.1)).map (ahC (dr X.prog X.w)) by rw[afA];rfl,<- ks,afA];rfl
  rw[e1];exact hh
 have hk:yz s.heap es:=λen US=>by
  refine#[?_,?_]
  .have:=Kf (f:=λx:ahP=>x.hash) UR en.hash
   rwa [<- Array.toList_filter,agE] at this
  .have:en∈xs.map (amP (ajv (dr X.prog X.w))):=he ▸ aiL.mpr US;obtain⟨x,hx,rfl⟩:=aeY.mp this;obtain⟨ob,v,v,h1,h2,v⟩:=his x hx;exact#[x.2.1,ob,Y,h1,h2]
 refine UN lo #[o,ho,hc,hdt] hk (by rw[hs,hl];exact z) λh' lX ra sb=>?_;obtain⟨on,hon,hcn,hdn⟩:=ra;have keep:∀ b q,s.heap.get? b=U q->h'.get? b=U q:=λb q hq=>(sb.2 b (afa (aeU hq))).trans (aeS _ hq);have fr:=I.aB.fresh (aeV s.heap.objs.size);refine#[.ref s.heap.objs.size,_,I.laid (a:=s.heap.objs.size) (o:=.dT kvs) (t':=s.toks) keep (aeV _) #[z,beq_eq_false_iff_ne.mpr (afR (afa I.big)),xs,KT.keeps rel λb ys y=>?_,on,es,lX,hon,hcn,hdn,he,hn],Y,q _ fr];rw[aI (λz=>by rw[z,fr] at y;cases y)];exact y
section
end
theorem a7{c:Prop}[Decidable c]{a b:Prop}(h:c->a)(h':¬ c->b):if c then a else b:=by
 by_cases z:c
 .rw[if_pos z];exact h z
 .rw[if_neg z];exact h' z
theorem JU(h:ag3)(hb:agI<h.objs.size):b9 P w H (h.push { cls:=.type "dict",data:=.dict (List.toArray []) }) h.objs.size (.dK []) :=
 #[afi _,beq_eq_false_iff_ne.mpr (afR (afa hb)),[],.nil,Heap.DictOf.new h]
section
theorem Inv.UT(I:Inv X pins J H s):agI<s.heap.objs.size:=by have h:afc<s.heap.objs.size:=(I.mod.glob.keeps I.bk).lt;exact alW (by decide) h
def Kg:TE:=λy H Q=>∀ p,H p=O->Q (.ref p) (upd H p (.dT []))
theorem Kh:PE X (.Dict [] [] pos) Kg:=λpins s J H Q I h=>wpAny_Dict_empty
 #[.ref s.heap.objs.size,_,I.laid (a:=s.heap.objs.size) (o:=.dT []) (t':=s.toks) (λy y z=>aeS _ z) (aeV _)
  #[afi _,beq_eq_false_iff_ne.mpr (afR (afa (Inv.UT I))),[],.nil,_,(List.toArray []),0,aeZ _ Y,#[Y,Y,Y],Y,Y,aiu],Y,h _ (I.aB.fresh (aeV _))]
theorem yA(h:∃ t,X.mg x=U (.int n t))(hg:Gl X x)(hd:(x == ("__debug__" : Str))=false:=by decide):PE X (.Name x pos) (tC (.int n)):=by obtain⟨t,ht⟩:=h;exact AX (v:=.int n) hg ht #[t,Y] hd
end
section
end
def UU(K:aeN)(m:Nat)(G:ae0)(tb th:TS)(E':XK):TS:=λD J H=>tb D J H/\∀ cls H',E' cls O H'->∃ C,cls = .ref C/\ajq K (.ref C) (.ref G)=U true/\th D (ag5 m O) H'
section
theorem yB(ok:X.Ok)(I:Inv (Xh X A' (X.pn++pins)) [] J H s):Inv X pins J H s:=#[ok,I.os,I.bare,I.base,I.loc,I.cell,I.free,I.gF,λp hp=>I.pin p (by simpa using hp),I.aB,I.len]
theorem UW(E':XK)(cQ:X.stack=X.env::X.outer)(UX:X.env.frame=U X.env.locals)(hg:Gl X x)(hm:X.mg x=U (.ref G))(hb:∀ F pn,Passes (ed X.prog X.w) (Xp X F pn) E'->aS (Xp X F pn) body tb)(hh:∀ A' pn,aS (Xh X A' pn) (b₀::suite) th)(hd:(x == ("__debug__" : Str))=false:=by decide) :
 PS X (.Try body [.ExceptHandler (U (.Name x np)) O (b₀::suite) pB] [] [] pos) (UU X.K X.N.length G tb th E'):=by
 intro pins s J H D I h;obtain⟨h1,h2⟩:=h;refine wpAny_Try_except ?_;refine age (hb (λe s₁=>afe (model X.prog X.w) X.A (noteFrame e X.env) (λ_ s₂=>afe (model X.prog X.w) X.A (setFlight e O) (λ_ s₃=>afe (model X.prog X.w) X.A (handleBy e X.env [.ExceptHandler (U (.Name x np)) O (b₀::suite) pB]) (SP X pins D) X.xe s₃) X.xe s₂) X.xe s₁) (X.pn++pins) ?_ [] s J H D (Sn I) h1) (λf s1 q=>?_) λe s1 q=>q
 .intro AS σ' H1 s1 ev s2 I1 cx;obtain⟨xx,cls,a0,H',B,rfl,os,bare,un,kb,cA,aB,hx,hn,fl,hE⟩:=cx;obtain⟨C,rfl,mE,hth⟩:=h2 cls H' hE;have nK:=I.ok;have uK:X.A.frames=U (X.env::X.outer):=by rw[<- cQ];exact nK.frames
  have xX:alV B (X.env::X.outer) xx (.ref C) a0 s2.heap:=by have z:alV B X.stack xx (.ref C) a0 s2.heap:=fl;rw[cQ] at z;exact z
  have hF:s1.heap.FunFrames X.base X.stack:=I1.stack;have Bv:∀ b∈bq X.stack,H1 b=O:=I1.t8;have Ki:∀ h:ag3,B.StaysIn h->s2.heap.UpToSlots h->Un (bq X.stack) [] H1 H' s1.heap h:=λh stays up=>by
   have nJ:∀ b∈bq X.stack,∀ o,s1.heap.get? b=U o->∃ sl,h.get? b=U { o with slots:=sl }:=λb hb o q=>by obtain⟨_,o',di,hnf⟩:=hF.mem hb;rw[q] at di;cases di;obtain⟨sl,e1⟩:=un.slot b o q (Bv b hb) hb (by simp);obtain⟨fX,e2⟩:=up b _ e1 hnf;exact#[fX,e2]
   refine#[λb o q nn hb cZ=>stays b o (kb b o q nn hb),λb o q nn hb cZ=>nJ b hb o q,un.free,λb o q cZ=>?_,un.iB,un.gE,un.iC];by_cases hb:b∈bq X.stack
   .obtain⟨sl,e2⟩:=nJ b hb o q;exact#[_,e2]
   .obtain⟨o2,e2⟩:=cA b o q hb;exact#[o2,stays b o2 e2]
  refine wpAny_looks_onW uK UX xX λh₄ UY UZ=>?_;refine wpAny_landsW UY λh₅ yC U0=>?_;have Kj:s2.heap.UpToSlots h₅:=UZ.trans U0;have I5:Inv (Xh X (X.A.mark (U (.ref xx))) (X.pn++pins)) [] σ' H' { s2 with heap:=h₅ }:=by
   refine IE (I1.AV (s':={ s2 with heap:=h₅ }) (ch:=[]) os (Ki h₅ yC.1 Kj) (aB.kept λb u q=>yC.1 b u q) bare (λb z=>absurd z (by simp))) ?_
   first|rfl|simp
  refine wpAny_handleBy_cons (codeAny_handlers_test ?_) (by intro q;cases q);refine uf (X:=Xh X (X.A.mark (U (.ref xx))) (X.pn++pins)) I5 hg hm ?_ hd;obtain⟨ob,hob,hobc⟩:=yC.there;have LT:PySem.W.Looks (model X.prog X.w) h₅ (typeOf (.ref xx)) (.ref C):=hobc ▸ (PySem.W.Looks.ld hob).andThen .now;refine (PySem.W.exm_one (M:=model X.prog X.w) (h:=h₅) I5.cG LT mE).here ?_;refine codeAny_handlers_suite ?_;refine lands_againW yC λh₆ Kk U1=>?_;have U2:s2.heap.UpToSlots h₆:=Kj.trans U1;have I6:Inv (Xh X (X.A.mark (U (.ref xx))) (X.pn++pins)) [] σ' H' { s2 with heap:=h₆ }:=by
   refine IE (I1.AV (s':={ s2 with heap:=h₆ }) (ch:=[]) os (Ki h₆ Kk.1 U2) (aB.kept λb u q=>Kk.1 b u q) bare (λb z=>absurd z (by simp))) ?_
   first|rfl|simp
  have I7:Inv (Xh X (X.A.mark (U (.ref xx))) (X.pn++pins)) [] (ag5 X.N.length O) H' { s2 with heap:=h₆ } :=
   I6.weak (by rw[aiy,I6.len]) λj v z=>by rw[ahh] at z;split at z<;>cases z
  refine age (hh (X.A.mark (U (.ref xx))) (X.pn++pins) [] _ _ _ _ I7 hth) (λfl s9 q=>?_) λ_ _ z=>z.elim;cases fl with
  | next =>
   obtain⟨σ9,H9,I9,q⟩:=q;exact#[_,_,yB nK I9,q]
  | brk =>
   obtain⟨σ9,H9,I9,q⟩:=q;exact#[_,_,yB nK I9,q]
  | cont =>
   obtain⟨σ9,H9,I9,q⟩:=q;exact#[_,_,yB nK I9,q]
  | ret u =>
   obtain⟨v,σ9,H9,I9,r,q⟩:=q;exact#[v,_,_,yB nK I9,r,q]
 .have q':=SP.So q;cases f with
  | next =>
   obtain⟨σ',H',I',q'⟩:=q';exact aiR #[σ',H',I',q']
  | brk=>exact q'
  | cont=>exact q'
  | ret u=>exact q'
end
noncomputable def rJ(ks:List P2)(r:Int)(i:Nat):Bool:=decide ((aK ks i).1<=r) && decide (r<=(aK ks (i+1)).1)
theorem Cf(hu:A.units+1<aka)(ho:PE X o td)(hi:PE X i ty)(hs:Ca i)(eA:X.A=A:=by rfl):PE X (.Subscript o i pos) (Cb td ty):=by subst eA;exact uX hu ho hi hs
abbrev Tb:=List (P2 × S2)
noncomputable def dE(i j:Int):List Key:=[.inl i,.inl j]
theorem Cg{a b:P2}(h:dE a.1 a.2=dE b.1 b.2):a=b:=by unfold dE at h;injection h with h1 h2;injection h2 with h2 _;exact Prod.ext (Sum.inl.inj h1) (Sum.inl.inj h2)
noncomputable def jK(tb:Tb)(s:P2):Option S2:=(tb.find? λr=>decide (r.1=s)).map (·.2)
noncomputable def fN(tb:Tb)(s:P2)(w:S2):Tb:=if (tb.any λr=>decide (r.1=s))=true then tb.map (λr=>if r.1=s then (r.1,w) else r) else tb++[(s,w)]
def bF(H:Hp):List (List Key × V)->Tb->Prop
 | [],[]=>True
 | kv::kvs,r::tb=>(kv.1=dE r.1.1 r.1.2/\aQ H kv.2 r.2.1 r.2.2)/\bF H kvs tb
 | _,_=>False
section
theorem bF.len:∀ {kvs:List (List Key × V)} {tb:Tb},bF H kvs tb->kvs.length=tb.length
 | [],[],_=>rfl
 | _::kvs,_::tb,h=>congrArg (· + 1) (bF.len (kvs:=kvs) (tb:=tb) h.2)
 | [],_::_,h=>h.elim
 | _::_,[],h=>h.elim
theorem bF.imp(f:∀ v a b,aQ H v a b->aQ H' v a b):∀ {kvs:List (List Key × V)} {tb:Tb},bF H kvs tb->bF H' kvs tb
 | [],[],_=>trivial
 | _::kvs,_::tb,h=>#[#[h.1.1,f _ _ _ h.1.2],bF.imp f (kvs:=kvs) (tb:=tb) h.2]
 | [],_::_,h=>h.elim
 | _::_,[],h=>h.elim
theorem bF.app:∀ {kvs Ci:List (List Key × V)} {tb cA:Tb},bF H kvs tb->bF H Ci cA->bF H (kvs++Ci) (tb++cA)
 | [],_,[],_,_,h=>h
 | _::kvs,Ci,_::tb,cA,h,h'=>#[h.1,bF.app (kvs:=kvs) (tb:=tb) h.2 h']
 | [],_,_::_,_,h,_=>h.elim
 | _::_,_,[],_,h,_=>h.elim
theorem bF.keys:∀ {kvs:List (List Key × V)} {tb:Tb},bF H kvs tb->kvs.map (·.1)=tb.map λr=>dE r.1.1 r.1.2
 | [],[],_=>rfl
 | kv::kvs,r::tb,h=>by rw[ae7,ae7,h.1.1,bF.keys (kvs:=kvs) (tb:=tb) h.2]
 | [],_::_,h=>h.elim
 | _::_,[],h=>h.elim
theorem bF.any(s:P2):∀ {kvs:List (List Key × V)} {tb:Tb},bF H kvs tb->(kvs.any λkv=>decide (kv.1=dE s.1 s.2))=tb.any λr=>decide (r.1=s)
 | [],[],_=>rfl
 | kv::kvs,r::tb,h=>by
  rw[afX,afX,bF.any s (kvs:=kvs) (tb:=tb) h.2,h.1.1]
  congr 1
  by_cases e:r.1=s
  .rw[e,decide_eq_true Y,decide_eq_true Y]
  .rw[decide_eq_false e,decide_eq_false λz=>e (Cg z)]
 | [],_::_,h=>h.elim
 | _::_,[],h=>h.elim
theorem bF.val(s:P2):∀ {kvs:List (List Key × V)} {tb:Tb},bF H kvs tb->(jK tb s=O->ig kvs (dE s.1 s.2)=O)/\∀ w,jK tb s=U w->∃ v,ig kvs (dE s.1 s.2)=U v/\aQ H v w.1 w.2
 | [],[],_=>#[λy=>rfl,λw h=>by cases h]
 | kv::kvs,r::tb,h=>by
  have ih:=bF.val s (kvs:=kvs) (tb:=tb) h.2;by_cases e:r.1=s
  .have e1:jK (r::tb) s=U r.2:=by simp[jK,agy,e]
   rw[e1,yo (h.1.1.trans (by rw[e]))];exact#[λz=>(by cases z),λw z=>(by cases z;exact#[_,Y,h.1.2])]
  .have e1:jK (r::tb) s=jK tb s:=by simp[jK,agy,e]
   rw[e1,yq (λz=>e (Cg (h.1.1.symm.trans z)))];exact ih
 | [],_::_,h=>h.elim
 | _::_,[],h=>h.elim
theorem bF.si(hv:aQ H v w.1 w.2):∀ {kvs:List (List Key × V)} {tb:Tb},bF H kvs tb->bF H (kvs.map λkv=>if kv.1=dE s.1 s.2 then (kv.1,v) else kv) (tb.map λr=>if r.1=s then (r.1,w) else r)
 | [],[],_=>trivial
 | kv::kvs,r::tb,h=>by
  rw[ae7,ae7];refine#[?_,bF.si hv (kvs:=kvs) (tb:=tb) h.2];by_cases e:r.1=s
  .rw[if_pos e,if_pos (h.1.1.trans (by rw[e]))];exact#[h.1.1,hv]
  .rw[if_neg e,if_neg (λz=>e (Cg (h.1.1.symm.trans z)))];exact h.1
 | [],_::_,h=>h.elim
 | _::_,[],h=>h.elim
theorem bF.put(h:bF H kvs tb)(hv:aQ H v w.1 w.2):bF H (putK kvs (dE s.1 s.2) v) (fN tb s w):=by
 unfold putK fN;rw[h.any s];split
 .exact h.si hv
 .exact h.app #[#[Y,hv],trivial]
theorem bF.pH:∀ {ys:List V} {kvs:List (List Key × V)} {tb:Tb},bF H kvs tb->kh H ys kvs->iG H ys (tb.map (·.1))
 | [],[],[],_,_=>trivial
 | y::ys,kv::kvs,r::tb,h,⟨⟨a,e,ha⟩,t⟩=>#[#[a,e,by rw[h.1.1] at ha;exact ha],bF.pH (ys:=ys) (kvs:=kvs) (tb:=tb) h.2 t]
 | [],_::_,_,_,h=>h.elim
 | _::_,[],_,_,h=>h.elim
 | _,[],_::_,h,_=>h.elim
 | _,_::_,[],h,_=>h.elim
end
def TabAt(H:Hp)(p:ae0)(tb:Tb):Prop:=∃ kvs,H p=U (.dT kvs)/\bF H kvs tb
def Fr(H H':Hp):Prop:=∀ b o,(∀ kvs,o≠HO.dT kvs)->H b=U o->H' b=U o
def nT(ps:List ae0)(H H':Hp):Prop:=∀ b o,b∉ps->H b=U o->H' b=U o
def yD(H:Hp)(ps:List ae0):Prop:=∀ p∈ps,∃ kvs,H p=U (.dT kvs)
section
theorem _root_.L2.ah.fr(s:ah H H'):Fr H H':=λb o y e=>s b o e
theorem SameBut.but(a:SameBut p H H')(h:p∈ps):nT ps H H':=λc o z e=>a c o (λy=>z (y ▸ h)) e
theorem nT.fr(a:nT ps H H')(d:yD H ps):Fr H H':=λb o ho e=>by
 by_cases hb:b∈ps
 .obtain⟨kvs,hk⟩:=d b hb;rw[hk] at e;exact absurd (Option.some.inj e).symm (ho kvs)
 .exact a b o hb e
theorem Kl(h:H p=U (.dT kvs)):Fr H (upd H p o):=λb u hu e=>by rw[aI (λz=>by rw[z,h] at e;exact hu _ (Option.some.inj e).symm)];exact e
theorem U3(h:H p=U (.dT kvs)):yD H [p]:=λb hb=>#[kvs,(afd.mp hb) ▸ h]
theorem SameBut.fr(a:SameBut p H H')(h:H p=U (.dT kvs)):Fr H H':=nT.fr (SameBut.but a (.head _)) (U3 h)
theorem aQ.fr(h:aQ H v a b)(f:Fr H H'):aQ H' v a b:=let ⟨p,e,hp⟩:=h;#[p,e,f _ _ (λy z=>nomatch z) hp]
theorem TabAt.fr(h:TabAt H p tb)(f:Fr H H')(e:∀ kvs,H p=U (.dT kvs)->H' p=U (.dT kvs)):TabAt H' p tb:=let ⟨kvs,a,b⟩:=h;#[kvs,e _ a,b.imp λy y y z=>z.fr f]
theorem TabAt.same(h:TabAt H p tb)(s:ah H H'):TabAt H' p tb:=h.fr s.fr λy e=>s _ _ e
theorem TabAt.but(h:TabAt H p tb)(b:nT ps H H')(d:yD H ps)(hp:p∉ps):TabAt H' p tb:=h.fr (b.fr d) λy e=>b _ _ hp e
end
theorem sr(hn:(tb.map (·.1)).Nodup)(h:r∈tb):jK tb r.1=U r.2:=by
 induction tb with
 | nil=>cases h
 | cons x l ih =>
  rw[ae7,af8] at hn;rcases ae2.mp h with z|z
  .rw[<- z];simp[jK,agy]
  .have e:¬ x.1=r.1:=λy=>hn.1 (y ▸ aeY.mpr #[r,z,Y]);have:jK (x::l) r.1=jK l r.1:=by simp[jK,agy,e]
   rw[this,ih hn.2 z]
def lh(e t:Int)(s:P2):Prop:=(0<=s.1/\s.1<e)/\0<=s.2/\s.2<t
instance (e t:Int) (s:P2):Decidable (lh e t s):=by unfold lh;infer_instance
def bZ(e t:Int)(tb:Tb):Prop:=(tb.map (·.1)).Nodup/\∀ r∈tb,lh e t r.1
theorem Km(tb:Tb)(s:P2)(w:S2):(fN tb s w).length<=tb.length+1:=by unfold fN;split<;>simp
theorem bZ.put(h:bZ e t tb)(hs:lh e t s):bZ e t (fN tb s w):=by
 unfold fN;split
 .refine#[?_,λr hr=>?_]
  .have:(tb.map λr=>if r.1=s then (r.1,w) else r).map (·.1)=tb.map (·.1):=by rw[afA];refine agV λr _=>?_;show (if r.1=s then (r.1,w) else r).1=r.1;split<;>rfl
   rw[this];exact h.1
  .obtain⟨x,hx,rfl⟩:=aeY.mp hr;have:=h.2 x hx;split<;>exact this
 .rename_i z;refine#[?_,λr hr=>?_]
  .rw[af0];refine JX h.1 λy=>z ?_;obtain⟨x,hx,e⟩:=aeY.mp y;rw[agc];exact#[x,hx,by simpa using e]
  .rcases afq.mp hr with y|y
   .exact h.2 r y
   .rw[afd.mp y];exact hs
theorem bZ.nil:bZ e t []:=#[aiu,λr h=>by cases h]
noncomputable def lj(tb:Tb):List (List Int):=tb.map λr=>[r.1.1,r.1.2]
noncomputable def nU(tb:Tb):Tb:=eZ (lj tb) ((0,0),(O,O)) tb
theorem u6(h:r∈nU tb):r∈tb:=rZ.mem_iff.mp h
theorem pI:(nU tb).length=tb.length:=JG
theorem ax.sort(h:ax R xs as):ax R (eZ kis .non xs) (eZ kis d as):=by
 have hl:=h.len;have hp:=(rX (n:=xs.length) (pC kis)).1;unfold eZ;rw[<- hl];have gen:∀ l:List Nat,(∀ i∈l,i<xs.length)->ax R (l.map λi=>xs.getD i .non) (l.map λi=>as.getD i d):=by
  intro l
  induction l with
  | nil=>intro y;exact trivial
  | cons i l ih =>
   intro q;have hi:=q i (.head _);obtain⟨s,es,hs⟩:=h.get (aeQ hi);refine#[?_,ih λj hj=>q j (.tail _ hj)];show R (xs.getD i .non) (as.getD i d);rw[aeP,aeP,es,aeQ hi];exact hs
 exact gen _ λi hi=>by simpa using hp.mem_iff.mp hi
theorem ax.bind:∀ {xs:List V} {bs:List β},ax R xs (bs.map f)->ax (λx b=>R x (f b)) xs bs
 | [],[],_=>trivial
 | _::_,_::_,h=>#[h.1,ax.bind h.2]
 | [],_::_,h=>h.elim
 | _::_,[],h=>h.elim
theorem ax.Kn:∀ {xs:List V} {bs:List β},ax (λx b=>R x (f b)) xs bs->ax R xs (bs.map f)
 | [],[],_=>trivial
 | _::_,_::_,h=>#[h.1,ax.Kn h.2]
 | [],_::_,h=>h.elim
 | _::_,[],h=>h.elim
theorem U4(h:bF H kvs tb):kvs.map (·.1)=(lj tb).map λk=>k.map aiQ:=by rw[h.keys];unfold lj;rw[afA];rfl
theorem U5:∀ k∈lj tb,k≠[]:=λk hk=>by
 obtain⟨r,y,rfl⟩:=aeY.mp hk;exact λz=>nomatch z
theorem U6(h:bF H kvs tb)(hk:kh H ys kvs):ax (λx (r:P2 × S2)=>dP H x r.1) (eZ (lj tb) .non ys) (nU tb):=ax.sort (ax.bind (h.pH hk))
def lp(H:Hp)(v:V)(r:P2 × S2):Prop:=∃ a w,v = .ref a/\H a=U (.tup [.int r.1.1,.int r.1.2,w])/\aQ H w r.2.1 r.2.2
theorem lp.same(h:lp H v r)(s:ah H H'):lp H' v r:=let ⟨a,w,e,ha,hw⟩:=h;#[a,w,e,s _ _ ha,hw.same s]
noncomputable def nV(i j:Int):Int:=reduceHash (amJ [ajP i,ajP j])
theorem U7(P:afG)(w:agn)(i j:Int):ahC (dr P w) (dE i j)=nV i j:=by unfold ahC nV dE;rw[ae7,ae7,ahg];rw[show (dr P w).hash (aiQ i)=ajP i from Y,show (dr P w).hash (aiQ j)=ajP j from Y]
theorem U8:((afp 84).all λa=>(afp 84).all λb=>!(nV ((a / 12:Nat):Int) ((a % 12:Nat):Int) == nV ((b / 12:Nat):Int) ((b % 12:Nat):Int)) || a == b)=true:=by decide +kernel
theorem U9(ha:lh 7 12 a)(hb:lh 7 12 b)(h:nV a.1 a.2=nV b.1 b.2):a=b:=by
 obtain⟨⟨a1,a2⟩,a3,a4⟩:=ha;obtain⟨⟨b1,b2⟩,b3,b4⟩:=hb;have h1:=afT.mp U8 (a.1.toNat * 12+a.2.toNat) (af1.mpr (by lia));have h2:=afT.mp h1 (b.1.toNat * 12+b.2.toNat) (af1.mpr (by lia));have ea:(((a.1.toNat * 12+a.2.toNat) / 12:Nat):Int)=a.1:=by lia
 have Va:(((a.1.toNat * 12+a.2.toNat) % 12:Nat):Int)=a.2:=by lia
 have eb:(((b.1.toNat * 12+b.2.toNat) / 12:Nat):Int)=b.1:=by lia
 have Vb:(((b.1.toNat * 12+b.2.toNat) % 12:Nat):Int)=b.2:=by lia
 rw[ea,Va,eb,Vb,h] at h2;simp only[beq_self_eq_true,aiO,alk,beq_iff_eq] at h2;exact Prod.ext (by lia) (by lia)
theorem Ko:∀ {kvs:List (List Key × V)} {tb:Tb},bF H kvs tb->(kvs.map λkv=>ahC (dr P w) kv.1)=tb.map λr=>nV r.1.1 r.1.2
 | [],[],_=>ahg.trans ahg.symm
 | kv::kvs,r::tb,h=>by have ih:=Ko (P:=P) (w:=w) (kvs:=kvs) (tb:=tb) h.2;have h1:=U7 P w r.1.1 r.1.2;rw[<- h.1.1] at h1;rw[ae7,ae7,ih,h1]
 | [],_::_,h=>h.elim
 | _::_,[],h=>h.elim
theorem Kq(he:e<=7)(ht:t<=12):∀ {tb:Tb},bZ e t tb->(tb.map λr=>nV r.1.1 r.1.2).Nodup
 | [],_=>by rw[ahg];exact aiu
 | x::l,ok=>by
  have h7:∀ r∈x::l,lh 7 12 r.1:=λr hr=>by obtain⟨⟨a,b⟩,c,d⟩:=ok.2 r hr;exact#[#[a,by lia],c,by lia]
  have nd:=ok.1;rw[ae7,af8] at nd;rw[ae7,af8];refine#[λz=>?_,Kq he ht (tb:=l) #[nd.2,λr hr=>ok.2 r (.tail _ hr)]];obtain⟨y,hy,ey⟩:=aeY.mp z;have:=U9 (h7 y (.tail _ hy)) (h7 x (.head _)) ey;exact nd.1 (aeY.mpr #[y,hy,this])
theorem Vc(h:bF H kvs tb)(ok:bZ e t tb)(he:e<=7)(ht:t<=12):(kvs.map λkv=>ahC (dr P w) kv.1).Nodup:=by rw[Ko h];exact Kq he ht ok
theorem Vd(h:aY a b=true):aY (eh a c) (e9 b d)=true:=by rcases a with v|x<;>rcases b with v|y<;>rcases c with v|z<;>rcases d with v|w<;>simp[aY,eh,e9] at h ⊢<;>lia
noncomputable def bz(e:S2)(ss:List S2):S2:=ss.foldl (λe s=>(eh e.1 s.1,e9 e.2 s.2)) e
theorem yE(e s:S2)(ss:List S2):bz e (s::ss)=bz (eh e.1 s.1,e9 e.2 s.2) ss:=rfl
theorem Kr:∀ (ss:List S2) {e:S2},aY e.1 e.2=true->aY (bz e ss).1 (bz e ss).2=true
 | [],_,h=>h
 | s::ss,e,h=>by rw[yE];exact Kr ss (Vd h)
theorem Ve(h:aY (bz e (ss.take i)).1 (bz e (ss.take i)).2=true):aY (bz e ss).1 (bz e ss).2=true:=by
 have:bz e ss=bz (bz e (ss.take i)) (ss.drop i):=by unfold bz;rw[<- ajH,agt]
 rw[this];exact Kr _ h
theorem Vf{ss:List S2}{e s:S2}{i:Nat}(h:ss[i]?=U s):bz e (ss.take (i+1))=(eh (bz e (ss.take i)).1 s.1,e9 (bz e (ss.take i)).2 s.2):=by unfold bz;rw[afZ,h,ajH];rfl
noncomputable def gh(e:S2)(ss:List S2):W2:=if aY (bz e ss).1 (bz e ss).2=true then O else U (bz e ss)
theorem lq:∀ {xs:List V} {ss:List S2},my H xs ss↔ax (λx s=>aQ H x s.1 s.2) xs ss
 | [],[]=>Iff.rfl
 | _::_,_::_=>and_congr Iff.rfl lq
 | [],_::_=>Iff.rfl
 | _::_,[]=>Iff.rfl
abbrev Pa:=Str × Int × S2
def fA(H:Hp)(v:V)(p:Pa):Prop:=∃ (t q:ae0),v = .ref t/\H t=U (.tup [.str p.1,.int p.2.1,.ref q])/\H q=U (.tup [ev p.2.2.1,ev p.2.2.2])
theorem fA.same(h:fA H v p)(s:ah H H'):fA H' v p:=let ⟨t,q,e,a,b⟩:=h;#[t,q,e,s _ _ a,s _ _ b]
abbrev dF(H:Hp):List V->List Pa->Prop:=ax (fA H)
theorem dF.same(h:dF H xs ps)(s:ah H H'):dF H' xs ps:=ax.imp (λy y r=>r.same s) h
theorem fA.fr(h:fA H v p)(hr:H r=U (.lst ys)):fA (upd H r o) v p:=by
 obtain⟨t,q,e,a,b⟩:=h;have h1:t≠r:=λz=>by rw[z,hr] at a;cases a
 have h2:q≠r:=λz=>by rw[z,hr] at b;cases b
 exact#[t,q,e,by rw[aI h1];exact a,by rw[aI h2];exact b]
theorem dF.put(h:dF H xs ps)(hr:H r=U (.lst ys)):dF (upd H r o) xs ps:=ax.imp (λy y x=>x.fr hr) h
noncomputable def lr(k:Str)(t:Int)(p:Pa):Bool:=decide (p.1=k) && decide (p.2.1=t)
noncomputable def sel(ps:List Pa)(k:Str)(t:Int):List S2:=(ps.filter (lr k t)).map (·.2.2)
noncomputable def hasB(n:Int)(k:Str)(t:Int):Bool:=if k = "step" then decide (0<=t/\t<n) && decide (0<=t+1/\t+1<n) else decide (k = "at") && decide (0<=t/\t<n)
def cf(n:Int)(ps:List Pa):Prop:=∀ p∈ps,hasB n p.1 p.2.1=true
theorem Ks:hasB n "step" t=true↔0<=t/\t+1<n:=by unfold hasB;rw[if_pos Y];simp only[aga,decide_eq_true_eq];lia
theorem Cj{n t:Int}{k:Str}(h:k ≠ "step"):hasB n k t=true↔k = "at" /\ 0<=t/\t<n:=by unfold hasB;rw[if_neg h];simp only[aga,decide_eq_true_eq]
noncomputable def gi(cs:List Int)(k:Str)(t:Int):Int:=if k = "step" then cs.getD (t+1).toNat 0-cs.getD t.toNat 0 else cs.getD t.toNat 0
noncomputable def aM(cs:List Int)(ps:List Pa):Bool:=ps.all λp=>hold p.2.2.1 p.2.2.2 (gi cs p.1 p.2.1)
theorem int_at{cs:List Int}{t:Int}(h0:0<=t)(h1:t<(cs.length:Int)):dA (cs.map V.int) t=U (.int (cs.getD t.toNat 0)):=by
 have e:t=((t.toNat:Nat):Int):=by lia
 refine (congrArg (dA _) e).trans (fo ?_);rw[ae5,aeP,aeQ (by lia)];rfl
structure Gd(n:Nat)(d:aii):Prop where
 eqv:ahp d d=true
 lay:d.canLay0=true
 dep:d.depth<=n
theorem Gd.up(h:Gd n d)(hm:n<=m):Gd m d:=#[h.eqv,h.lay,aeT h.dep hm]
theorem Gd.of(h:jH n d=true):Gd n d:=let ⟨a,b,c⟩:=Jq d h;#[a,b,c]
theorem Gd.str(h:aiE x=true):Gd 0 (.str x):=#[by simp[ahp],by simpa [ais] using h,aeV _]
theorem Gd.int(i:Int):Gd 0 (.int i):=.of rfl
theorem Gd.all:∀ {ds:List aii} {n:Nat},(∀ d∈ds,Gd n d)->ajV ds ds=true/\aip ds=true/\ai2 ds<=n
 | [],n,_=>#[Y,Y,afi _]
 | d::ds,n,h=>by obtain⟨a,b,c⟩:=h d (.head _);obtain⟨a',b',c'⟩:=Gd.all (ds:=ds) λx hx=>h x (.tail _ hx);exact#[by simp only[ajV,a,a',ajW],by simp only[aip,b,b',ajW],by simp only[ai2];lia]
theorem Gd.lst(h:∀ d∈ds,Gd n d):Gd (n+1) (.list ds):=by obtain⟨a,b,c⟩:=Gd.all h;exact#[by simpa only [ahp] using a,by simpa only [ais] using b,by simp only[PyData.depth];lia]
theorem Gd.tup(h:∀ d∈ds,Gd n d):Gd (n+1) (.tuple ds):=by obtain⟨a,b,c⟩:=Gd.all h;exact#[by simpa only [ahp] using a,by simpa only [ais] using b,by simp only[PyData.depth];lia]
theorem Ck{K:aeN}{H:Hp}{x y:V}{d:aii}{n:Nat}{neg:Bool}{Q:VK}(hx:Dat K H x d)(hy:Dat K H y d)(g:Gd n d)(hn:n<=60)(q:Q (.bl (!neg)) H):BZ K neg x y H Q:=by refine#[d,d,hx,hy,g.lay,g.lay,aeT g.dep hn,?_];rw[g.eqv];cases neg<;>exact q
theorem Vg(s:S2):Gd 1 (B6 s):=.of (by
 obtain⟨a,b⟩:=s;cases a<;>cases b<;>rfl)
theorem k8.Cm{α:Type}{K:aeN}{H:Hp}{R:V->α->Prop}{f:α->aii}(h:∀ v a,R v a->Dat K H v (f a)):∀ {xs:List V} {as:List α},ax R xs as->k8 K H xs (as.map f)
 | [],[],_=>.nil
 | _::_,_::_,r=>.cons (h _ _ r.1) (k8.Cm h r.2)
 | [],_::_,r=>r.elim
 | _::_,[],r=>r.elim
noncomputable def Cn(p:Pa):aii:=.tuple [.str p.1,.int p.2.1,B6 p.2.2]
theorem fA.dat{K:aeN}{H:Hp}{v:V}{p:Pa}(h:fA H v p):Dat K H v (Cn p):=by obtain⟨t,q,rfl,a,b⟩:=h;exact .tup (aj.of a) (.cons (.str _) (.cons (.int _) (.cons (aQ.dat #[q,Y,b]) .nil)))
theorem Vh(h:aiE p.1=true):Gd 2 (Cn p):=.tup λd hd=>by
 simp only[ae2,agC,or_false] at hd;rcases hd with rfl|rfl|rfl
 .exact (Gd.str h).up (by decide)
 .exact (Gd.int _).up (by decide)
 .exact Vg _
theorem pJ(bM:Ok H):∀ {xs:List V} {as:List α} {ys:List V},ax R xs as ->
 (∀ x a,R x a->∀ Q,Q (p a) H->tt (U x::ρ) H Q)->(∀ x a,p a=true->R x a->∀ Q:VK,(∀ y,R' y (f a)->Q y H)->te (U x::ρ) H Q)->(∀ zs,ax R' zs ((as.filter p).map f)->Q' (ys++zs) H)->fq Ok ρ tt te xs ys H Q'
 | [],[],ys,_,_,_,q=>#[bM,by simpa using q [] trivial]
 | x::xs,a::as,ys,h,ht,he,q=>by
  refine#[bM,ht x a h.1 _ ?_];by_cases hb:p a=true
  .rw[if_pos hb];refine he x a hb h.1 _ λy ry=>pJ bM h.2 ht he λzs hz=>?_;have:=q (y::zs) (by rw[afU,if_pos hb];exact#[ry,hz]);simpa using this
  .rw[if_neg hb];refine pJ bM h.2 ht he λzs hz=>q zs ?_;rw[afU,if_neg hb];exact hz
 | [],_::_,_,h,_,_,_=>h.elim
 | _::_,[],_,h,_,_,_=>h.elim
theorem Vi{K:aeN}{i j k:Nat}{p:ae0}{x y z:V}{J:L2.St}{H:Hp}{Q:L2.St->Hp->Prop}(h:aj K H p [x,y,z])(q:Q (((J.set i (U x)).set j (U y)).set k (U z)) H):jw K 3 (cY (cu i) (cY (cu j) (cY (cu k) iZ))) (.ref p) J H Q :=
 #[p,_,Y,h,Y,_,_,Y,_,_,Y,_,_,Y,Y,q]
theorem Vj(hx:H x=O)(hd:H dx=O)(hn:dx≠x):ah H (upd (upd H dx (.own x)) x (.ins C dx fs)) :=
 (ao hd).trans (ao (by rw[aI (afR hn)];exact hx))
end Gz
namespace Gz
open PySem L2
def b0(s:S2)(x:Int):Prop:=(∀ a,s.1=U a->a<=x)/\∀ b,s.2=U b->x<=b
def eM(w:W2)(x:Int):Prop:=∃ s,w=U s/\b0 s x
theorem Co:b0 s x↔hold s.1 s.2 x=true:=pE.symm
theorem Cp:b0 (eh a.1 b.1,e9 a.2 b.2) x↔b0 a x/\b0 b x:=by obtain⟨a1,a2⟩:=a;obtain⟨b1,b2⟩:=b;unfold b0;rcases a1 with y|p<;>rcases a2 with y|q<;>rcases b1 with y|r<;>rcases b2 with y|s<;>simp[eh,e9]<;>(try split)<;>(try split)<;>lia
theorem Kt:∀ {e:S2},b0 (bz e ss) x↔b0 e x/\∀ s∈ss,b0 s x:=by
 induction ss with
 | nil=>intro e;exact#[λh=>#[h,λy z=>nomatch z],λh=>h.1]
 | cons s ss ih =>
  intro e;rw[yE,ih,Cp];simp only[ae2,forall_eq_or_imp,and_assoc]
theorem Vk(h:aY s.1 s.2=false):∃ x,b0 s x:=by
 obtain⟨a,b⟩:=s;rcases a with y|a<;>rcases b with y|b
 .exact#[0,λy z=>(nomatch z),λy z=>(nomatch z)]
 .exact#[b,λy z=>(nomatch z),λy z=>by cases z;exact afS _]
 .exact#[a,λy z=>by cases z;exact afS _,λy z=>(nomatch z)]
 .refine#[a,λy z=>by cases z;exact afS _,λy z=>?_];cases z;simp[aY] at h;exact h
theorem Ku(h:b0 s x):aY s.1 s.2=false:=by
 obtain⟨a,b⟩:=s;rcases a with y|a<;>rcases b with y|b
 .rfl
 .rfl
 .rfl
 .have h1:=h.1 a rfl;have h2:=h.2 b rfl;simp[aY];lia
noncomputable def jL(a b:S2):W2:=if aY (eh a.1 b.1) (e9 a.2 b.2)=true then O else U (eh a.1 b.1,e9 a.2 b.2)
theorem su:eM (jL a b) x↔b0 a x/\b0 b x:=by
 unfold jL;constructor
 .rintro ⟨s,e,h⟩;split at e
  .cases e
  .cases e;exact Cp.mp h
 .intro h;have h:=Cp.mpr h;rw[if_neg (by rw[Ku h];simp)];exact#[_,Y,h]
theorem Kv(h:jL a b=U s):aY s.1 s.2=false:=by
 unfold jL at h;split at h
 .cases h
 .rename_i hc;cases h;simpa using hc
theorem yF:eM (gh (O,O) ss) x ↔ ∀ s∈ss,b0 s x:=by
 have e0:b0 (O,O) x:=#[λy z=>(nomatch z),λy z=>(nomatch z)]
 unfold gh;constructor
 .rintro ⟨s,e,h⟩;split at e
  .cases e
  .cases e;exact (Kt.mp h).2
 .intro h;have h:=Kt.mpr #[e0,h];rw[if_neg (by rw[Ku h];simp)];exact#[_,Y,h]
noncomputable def gj(s:S2)(p:P2):S2:=(s.1.map (· + p.1),s.2.map (· + p.2))
theorem Cq(h:b0 s x)(h1:p.1<=y-x)(h2:y-x<=p.2):b0 (gj s p) y:=by
 obtain⟨a,b⟩:=s;refine#[λz e=>?_,λz e=>?_]
 .obtain⟨a,ea,rfl⟩:=afv.mp (show a.map (· + p.1)=U z from e);have:=h.1 a ea;lia
 .obtain⟨b,eb,rfl⟩:=afv.mp (show b.map (· + p.2)=U z from e);have:=h.2 b eb;lia
theorem Vl(hs:aY s.1 s.2=false)(hp:p.1<=p.2)(h:b0 (gj s p) y):∃ x,b0 s x/\p.1<=y-x/\y-x<=p.2:=by
 obtain⟨a,b⟩:=s;rcases a with v|a<;>rcases b with v|b
 .exact#[y-p.1,#[λv z=>(nomatch z),λv z=>(nomatch z)],by lia,by lia]
 .have h2:=h.2 (b+p.2) rfl;exact#[y-p.2,#[λv z=>(nomatch z),λv z=>by cases z;lia],by lia,by lia]
 .have h1:=h.1 (a+p.1) rfl;exact#[y-p.1,#[λv z=>by cases z;lia,λv z=>(nomatch z)],by lia,by lia]
 .have h1:=h.1 (a+p.1) rfl;have h2:=h.2 (b+p.2) rfl;simp[aY] at hs;by_cases hc:a<=y-p.2
  .exact#[y-p.2,#[λv z=>by cases z;lia,λv z=>by cases z;lia],by lia,by lia]
  .exact#[a,#[λv z=>by cases z;lia,λv z=>by cases z;lia],by lia,by lia]
noncomputable def bD(bx:Nat->W2)(st:Nat->P2):Nat->W2
 | 0=>bx 0
 | t+1=>match bx (t+1),bD bx st t with
  | some b,U k=>jL b (gj k (st t))
  | _,_=>O
def u7(w:W2):Prop:=∀ s,w=U s->aY s.1 s.2=false
theorem yG(h0:u7 (bx 0)):∀ t,u7 (bD bx st t)
 | 0=>h0
 | t+1=>λs e=>by
  unfold bD at e;split at e
  .exact Kv e
  .cases e
theorem Kw(h:bD bx st (t+1)=U s):∃ b k,bx (t+1)=U b/\bD bx st t=U k/\jL b (gj k (st t))=U s:=by
 unfold bD at h;split at h
 .rename_i b k e1 e2;exact#[b,k,e1,e2,h]
 .cases h
theorem Kx{bx:Nat->W2}{st:Nat->P2}{c:Nat->Int}{n:Nat}(hb:∀ t,t<=n->eM (bx t) (c t))(hs:∀ t,t<n->(st t).1<=c (t+1)-c t/\c (t+1)-c t<=(st t).2):∀ t,t<=n->eM (bD bx st t) (c t)
 | 0,h=>hb 0 h
 | t+1,h=>by obtain⟨k,ek,hk⟩:=Kx hb hs t (by lia);obtain⟨b,eb,Cr⟩:=hb (t+1) h;obtain⟨h1,h2⟩:=hs t (by lia);unfold bD;rw[eb,ek];exact su.mpr #[Cr,Cq hk h1 h2]
theorem Cs:∀ {t:Nat},eM (bD bx st t) x->eM (bx t) x
 | 0,h=>h
 | t+1,⟨s,e,h⟩=>by obtain⟨b,k,e1,y,e3⟩:=Kw e;exact#[b,e1,(su.mp #[s,e3,h]).1]
theorem Ky(h0:u7 (bx 0))(hp:(st t).1<=(st t).2)(h:eM (bD bx st (t+1)) y):∃ x,eM (bD bx st t) x/\(st t).1<=y-x/\y-x<=(st t).2:=by obtain⟨s,e,h⟩:=h;obtain⟨b,k,z,e2,e3⟩:=Kw e;obtain⟨x,hx,h1,h2⟩:=Vl (yG h0 t k e2) hp (su.mp #[s,e3,h]).2;exact#[x,#[k,e2,hx],h1,h2]
noncomputable def jM(n:Nat)(st:Nat->P2)(t:Nat):P2:=(-(st (n-1-t)).2,-(st (n-1-t)).1)
noncomputable def iL(n:Nat)(bx:Nat->W2)(st:Nat->P2)(t:Nat):W2:=bD (λk=>bD bx st (n-k)) (jM n st) (n-t)
structure yH(n:Nat)(bx:Nat->W2)(st:Nat->P2):Prop where
 ok:∀ t,t<=n->∃ s,iL n bx st t=U s/\aY s.1 s.2=false
 sub:∀ t x,t<=n->eM (iL n bx st t) x->eM (bx t) x
 next:∀ t x,t<n->eM (iL n bx st t) x->∃ y,eM (iL n bx st (t+1)) y/\(st t).1<=y-x/\y-x<=(st t).2
theorem Vm(h0:u7 (bx 0))(hp:∀ t,t<n->(st t).1<=(st t).2)(hf:∀ t,t<=n->bD bx st t≠O):yH n bx st:=by
 have Ct:=yG (st:=st) h0;have Vn:∀ k,k<=n->∃ s,bD (λk=>bD bx st (n-k)) (jM n st) k=U s:=by
  intro k
  induction k with
  | zero =>
   intro v;obtain⟨s,e⟩:=ajd.mp (hf n (aeV _));exact#[s,e]
  | succ k ih =>
   intro hk;obtain⟨s,e⟩:=ih (by lia);obtain⟨y,hy⟩:=Vk (yG (bx:=λk=>bD bx st (n-k)) (Ct n) k s e);have Kz:eM (bD bx st (n-k)) y:=Cs (bx:=λk=>bD bx st (n-k)) #[s,e,hy];rw[show n-k=n-(k+1)+1 by lia] at Kz;obtain⟨x,⟨f,ef,hx⟩,h1,h2⟩:=Ky h0 (hp _ (by lia)) Kz;have em:n-1-k=n-(k+1):=by lia
   have hm:b0 (gj s (jM n st k)) x:=Cq hy (by unfold jM;rw[em];dsimp only;lia) (by unfold jM;rw[em];dsimp only;lia);obtain⟨z,ez,v⟩:=su.mpr #[hx,hm];refine#[z,?_];unfold bD;rw[e];show (match bD bx st (n-(k+1)),U s with
    | some b,U Vo=>jL b (gj Vo (jM n st k))
    | _,_=>O)=U z
   rw[ef];exact ez
 refine#[λt ht=>?_,λt x ht h=>?_,λt x ht h=>?_]
 .obtain⟨s,e⟩:=Vn (n-t) (by lia);exact#[s,e,yG (bx:=λk=>bD bx st (n-k)) (Ct n) _ s e]
 .have:=Cs (bx:=λk=>bD bx st (n-k)) h;rw[show n-(n-t)=t by lia] at this;exact Cs this
 .unfold iL at h;rw[show n-t=n-(t+1)+1 by lia] at h;have hb:(jM n st (n-(t+1))).1<=(jM n st (n-(t+1))).2:=by unfold jM;have:=hp (n-1-(n-(t+1))) (by lia);lia
  obtain⟨y,hy,h1,h2⟩:=Ky (bx:=λk=>bD bx st (n-k)) (Ct n) hb h;have em:n-1-(n-(t+1))=t:=by lia
  unfold jM at h1 h2;exact#[y,hy,by lia,by lia]
def jN(ps:List P2)(c:Nat->Int):Prop:=∀ k,k<ps.length->(aK ps k).1<=c (k+1)-c k/\c (k+1)-c k<=(aK ps k).2
theorem Cu(h:jN ps c):∀ n,i+n<=ps.length->pre (·.1) ps (i+n)-pre (·.1) ps i<=c (i+n)-c i/\c (i+n)-c i<=pre (·.2) ps (i+n)-pre (·.2) ps i
 | 0,_=>by simp
 | n+1,hn=>by have ih:=Cu h (i:=i) n (by lia);have hk:=h (i+n) (by lia);rw[show i+(n+1)=(i+n)+1 by lia,iK _ ps (by lia),iK _ ps (by lia)];lia
theorem Vp(h:jN ps c)(hi:i<=ps.length)(hj:j<=ps.length):c j-c i<=bT ps i j:=by
 unfold bT;split
 .have:=(Cu h (i:=i) (j-i) (by lia)).2
  rwa [show i+(j-i)=j by lia] at this
 .have:=(Cu h (i:=j) (i-j) (by lia)).1;rw[show j+(i-j)=i by lia] at this;lia
abbrev Mk:=Nat × S2
def meets(ms:List Mk)(c:Nat->Int):Prop:=∀ m∈ms,b0 m.2 (c m.1)
structure mF(ps:List P2)(ms:List Mk)(tp:Nat->Option P2):Prop where
 val:∀ t v k,t<=ps.length->tp t=U (v,k)->∃ (i:Nat) (m:Mk) (h:Int),k=(i:Int)/\ms[i]?=U m/\m.2.2=U h/\h+bT ps m.1 t<=v
 top:∀ m∈ms,∀ h,m.2.2=U h->∃ v k,tp m.1=U (v,k)/\v<=h
 fwd:∀ t v k,t<ps.length->tp t=U (v,k)->∃ v' k',tp (t+1)=U (v',k')/\v'<=v+(aK ps t).2
 bwd:∀ t v k,t<ps.length->tp (t+1)=U (v,k)->∃ v' k',tp t=U (v',k')/\v'<=v-(aK ps t).1
def vc(ms:List Mk)(tp:Nat->Option P2):Prop:=∀ m∈ms,∀ l v k,m.2.1=U l->tp m.1=U (v,k)->l<=v
theorem Vq(hp:fL ps)(hm:∀ m∈ms,m.1<=ps.length)(T:mF ps ms tp)(hn:vc ms tp):∃ c,jN ps c/\meets ms c:=by
 by_cases h0:tp 0=O
 .have Vr:∀ t,t<=ps.length->tp t=O:=by
   intro t
   induction t with
   | zero=>intro y;exact h0
   | succ t ih =>
    intro ht;cases e:tp (t+1) with
    | none=>rfl
    | some q =>
     obtain⟨v,k⟩:=q;obtain⟨v',k',e',y⟩:=T.bwd t v k (by lia) e;rw[ih (by lia)] at e';cases e'
  have Vs:∀ m∈ms,m.2.2=O:=λm dk=>by
   cases e:m.2.2 with
   | none=>rfl
   | some h =>
    obtain⟨v,k,e',y⟩:=T.top m dk h e;rw[Vr m.1 (hm m dk)] at e';cases e'
  have big:∀ (l:List Mk),∃ M:Int,∀ m∈l,∀ a,m.2.1=U a->a<=M+pre (·.1) ps m.1:=by
   intro l
   induction l with
   | nil=>exact#[0,λy z=>nomatch z]
   | cons m l ih =>
    obtain⟨M,hM⟩:=ih;cases e:m.2.1 with
    | none =>
     refine#[M,λq hq a ha=>?_];rcases ae2.mp hq with rfl|hq
     .rw[e] at ha;cases ha
     .exact hM q hq a ha
    | some b =>
     refine#[if M<=b-pre (·.1) ps m.1 then b-pre (·.1) ps m.1 else M,λq hq a ha=>?_];rcases ae2.mp hq with rfl|hq
     .rw[e] at ha;cases ha;split<;>lia
     .have:=hM q hq a ha;split<;>lia
  obtain⟨M,hM⟩:=big ms;refine#[λt=>M+pre (·.1) ps t,λk hk=>?_,λm dk=>#[λa ha=>hM m dk a ha,λb hb=>?_]]
  .have:=hp _ (rV hk);dsimp only;rw[iK _ ps hk];lia
  .rw[Vs m dk] at hb;cases hb
 .have KA:∀ t,t<=ps.length->∃ v k,tp t=U (v,k):=by
   intro t
   induction t with
   | zero =>
    intro y;obtain⟨⟨v,k⟩,e⟩:=ajd.mp h0;exact#[v,k,e]
   | succ t ih =>
    intro ht;obtain⟨v,k,e⟩:=ih (by lia);obtain⟨v',k',e',y⟩:=T.fwd t v k (by lia) e;exact#[v',k',e']
  refine#[λt=>((tp t).map (·.1)).getD 0,λk hk=>?_,λm dk=>#[λa ha=>?_,λb hb=>?_]]
  .obtain⟨v,q,e⟩:=KA k (by lia);obtain⟨v',q',e',h1⟩:=T.fwd k v q hk e;obtain⟨v2,q2,e2,h2⟩:=T.bwd k v' q' hk e';rw[e] at e2;cases e2;dsimp only;rw[e,e'];simp only[Option.map_some,aiJ];lia
  .obtain⟨v,q,e⟩:=KA m.1 (hm m dk);have:=hn m dk a v q ha e;dsimp only;rw[e];exact this
  .obtain⟨v,q,e,h1⟩:=T.top m dk b hb;dsimp only;rw[e];exact h1
def clash(ps:List P2)(a b:Mk):Prop:=∃ h l,a.2.2=U h/\b.2.1=U l/\h+bT ps a.1 b.1<l
theorem Vt(hc:jN ps c)(hm:meets ms c)(ht:∀ m∈ms,m.1<=ps.length)(ha:a∈ms)(hb:b∈ms):¬ clash ps a b:=by rintro ⟨h,l,e1,e2,a8⟩;have h1:=(hm a ha).2 h e1;have h2:=(hm b hb).1 l e2;have h3:=Vp hc (ht a ha) (ht b hb);lia
noncomputable def gM(a b:P2):Bool:=decide (a.1<b.1) || (decide (a.1=b.1) && decide (a.2<b.2))
noncomputable def gN(a b:P2):P2:=if gM b a=true then b else a
noncomputable def lx:Option P2->Option P2->Option P2
 | none,b=>b
 | some a,O=>U a
 | some a,U b=>U (gN a b)
theorem Cv(a b:P2):(gN a b=a∨gN a b=b)/\(gN a b).1<=a.1/\(gN a b).1<=b.1:=by
 unfold gN gM;split
 .rename_i h;simp only[ai0,aga,decide_eq_true_eq] at h;exact#[.inr rfl,by lia,by lia]
 .rename_i h;simp only[ai0,aga,decide_eq_true_eq,not_or,not_and] at h;exact#[.inl rfl,by lia,by lia]
theorem KC(a b:Option P2):lx a b=a∨lx a b=b:=by
 rcases a with y|a<;>rcases b with y|b
 .exact .inl rfl
 .exact .inr rfl
 .exact .inl rfl
 .show U (gN a b)=U a∨U (gN a b)=U b;rcases (Cv a b).1 with h|h<;>rw[h]
  .exact .inl rfl
  .exact .inr rfl
def gk(a:Option P2)(v:Int):Prop:=∃ w k,a=U (w,k)/\w<=v
theorem Vu(h:gk a v):gk (lx a b) v:=by
 obtain⟨w,k,rfl,hw⟩:=h;rcases b with y|b
 .exact#[w,k,Y,hw]
 .have:=(Cv (w,k) b).2.1;exact#[(gN (w,k) b).1,(gN (w,k) b).2,Y,by dsimp only at this;lia]
theorem Cw(h:gk b v):gk (lx a b) v:=by
 obtain⟨w,k,rfl,hw⟩:=h;rcases a with y|a
 .exact#[w,k,Y,hw]
 .have:=(Cv a (w,k)).2.2;exact#[(gN a (w,k)).1,(gN a (w,k)).2,Y,by dsimp only at this;lia]
noncomputable def sx(a:Option P2)(Vv:Int):Option P2:=a.map λq=>(q.1+Vv,q.2)
theorem KD(h:gk a v):gk (sx a b) (v+b):=by obtain⟨w,k,rfl,hw⟩:=h;exact#[w+b,k,Y,by lia]
def iM(ps:List P2)(ms:List Mk)(t:Nat)(a:Option P2):Prop:=∀ v k,a=U (v,k)->∃ (i:Nat) (m:Mk) (h:Int),k=(i:Int)/\ms[i]?=U m/\m.2.2=U h/\h+bT ps m.1 t<=v
theorem iM.Cy(ha:iM ps ms t a)(hb:iM ps ms t b):iM ps ms t (lx a b):=by
 rcases KC a b with h|h<;>rw[h]
 .exact ha
 .exact hb
theorem Vw(ps:List P2)(t:Nat):bT ps t t=0:=by unfold bT;rw[if_pos (aeV _)];lia
theorem Vx(h:t<ps.length):bT ps t (t+1)=(aK ps t).2:=by unfold bT;rw[if_pos (aiX _),iK _ ps h];lia
theorem Vy(h:t<ps.length):bT ps (t+1) t = -(aK ps t).1:=by unfold bT;rw[if_neg (by lia),iK _ ps h];lia
theorem iM.lift(hp:fL ps)(hm:∀ m∈ms,m.1<=ps.length)(ht:t<=ps.length)(hu:u<=ps.length)(hb:bT ps t u=b)(h:iM ps ms t a):iM ps ms u (sx a b):=by intro v k e;obtain⟨⟨w,q⟩,ea,e⟩:=afv.mp e;cases e;obtain⟨i,m,x,e1,e2,e3,hx⟩:=h w q ea;refine#[i,m,x,e1,e2,e3,?_];have:=Uo hp (hm m (ae8 e2)) hu ht;lia
noncomputable def lA(tp:Nat->Option P2)(i:Nat)(x:Option P2):Nat->Option P2:=λt=>if t=i then x else tp t
theorem pK:lA tp i x i=x:=if_pos rfl
theorem mG(h:t≠i):lA tp i x t=tp t:=if_neg h
theorem KG(h:∀ t,t<=ps.length->iM ps ms t (tp t))(hx:iM ps ms i x):∀ t,t<=ps.length->iM ps ms t (lA tp i x t):=λt ht=>by
 by_cases e:t=i
 .subst e;rw[pK];exact hx
 .rw[mG e];exact h t ht
theorem yI(h:gk (tp t) v):gk (lA tp i (lx (tp i) b) t) v:=by
 by_cases e:t=i
 .subst e;rw[pK];exact Vu h
 .rw[mG e];exact h
structure T1(ps:List P2)(ms:List Mk)(j:Nat)(tp:Nat->Option P2):Prop where
 val:∀ t,t<=ps.length->iM ps ms t (tp t)
 top:∀ m∈ms.take j,∀ h,m.2.2=U h->gk (tp m.1) h
theorem T1.nil:T1 ps ms 0 λy=>O:=#[λy y y y e=>(nomatch e),λy h=>by simp at h]
theorem T1.skip(T:T1 ps ms j tp)(hm:ms[j]?=U m)(hn:m.2.2=O):T1 ps ms (j+1) tp:=#[T.val,λq hq h e=>by
 rw[afZ,hm] at hq;rcases afq.mp hq with z|z
 .exact T.top q z h e
 .obtain rfl:q=m:=by simpa using z
  rw[hn] at e;cases e]
theorem T1.put(T:T1 ps ms j tp)(hm:ms[j]?=U m)(hh:m.2.2=U h):T1 ps ms (j+1) (lA tp m.1 (lx (tp m.1) (U (h,(j:Int))))):=by
 have hv:iM ps ms m.1 (U (h,(j:Int))):=λv k e=>by cases e;exact#[j,m,h,Y,hm,hh,by rw[Vw];lia]
 refine#[λt ht=>?_,λq hq x e=>?_]
 .by_cases e:t=m.1
  .subst e;rw[pK];exact (T.val _ ht).Cy hv
  .rw[mG e];exact T.val t ht
 .rw[afZ,hm] at hq;rcases afq.mp hq with z|z
  .exact yI (T.top q z x e)
  .obtain rfl:q=m:=by simpa using z
   rw[hh] at e;cases e;rw[pK];exact Cw #[h,j,Y,afS _]
structure T2(ps:List P2)(ms:List Mk)(j:Nat)(tp:Nat->Option P2):Prop where
 val:∀ t,t<=ps.length->iM ps ms t (tp t)
 top:∀ m∈ms,∀ h,m.2.2=U h->gk (tp m.1) h
 fwd:∀ t,t<j->∀ v,gk (tp t) v->gk (tp (t+1)) (v+(aK ps t).2)
theorem T1.two(T:T1 ps ms ms.length tp):T2 ps ms 0 tp:=#[T.val,λm h=>T.top m (by rw[afV];exact h),λy h=>absurd h (agd _)]
theorem T2.step(hp:fL ps)(hm:∀ m∈ms,m.1<=ps.length)(hj:j<ps.length)(T:T2 ps ms j tp):T2 ps ms (j+1) (lA tp (j+1) (lx (tp (j+1)) (sx (tp j) (aK ps j).2))):=by
 refine#[KG T.val ((T.val _ (by lia)).Cy ((T.val j (by lia)).lift hp hm (by lia) (by lia) (Vx hj))),λm h x e=>yI (T.top m h x e),λt ht v hv=>?_];rw[mG (by lia)] at hv;by_cases e:t=j
 .subst e;rw[pK];exact Cw (KD hv)
 .rw[mG (by lia)];exact T.fwd t (by lia) v hv
structure T3(ps:List P2)(ms:List Mk)(j:Nat)(tp:Nat->Option P2):Prop where
 val:∀ t,t<=ps.length->iM ps ms t (tp t)
 top:∀ m∈ms,∀ h,m.2.2=U h->gk (tp m.1) h
 fwd:∀ t,t<ps.length->∀ v,gk (tp t) v->gk (tp (t+1)) (v+(aK ps t).2)
 bwd:∀ t,j<=t->t<ps.length->∀ v,gk (tp (t+1)) v->gk (tp t) (v-(aK ps t).1)
theorem T2.three(T:T2 ps ms ps.length tp):T3 ps ms ps.length tp:=#[T.val,T.top,T.fwd,λt h1 h2=>absurd h2 (by lia)]
theorem T3.step(hp:fL ps)(hm:∀ m∈ms,m.1<=ps.length)(hj:j<ps.length)(T:T3 ps ms (j+1) tp):T3 ps ms j (lA tp j (lx (tp j) (sx (tp (j+1)) (-(aK ps j).1)))):=by
 have h1:=hp _ (rV hj);refine#[KG T.val ((T.val _ (by lia)).Cy ((T.val (j+1) (by lia)).lift hp hm (by lia) (by lia) (Vy hj))),λm h x e=>yI (T.top m h x e),λt ht v hv=>?_,λt h2 h3 v hv=>?_]
 .by_cases e:t=j
  .subst e;rw[pK] at hv;rw[mG (by lia)];rcases KC (tp t) (sx (tp (t+1)) (-(aK ps t).1)) with z|z
   .rw[z] at hv;exact T.fwd t ht v hv
   .rw[z] at hv;obtain⟨w,k,e,hw⟩:=hv;obtain⟨⟨w',k'⟩,e1,e2⟩:=afv.mp e;cases e2;exact#[w',k',e1,by dsimp only at hw;lia]
  .rw[mG e] at hv;exact yI (T.fwd t ht v hv)
 .rw[mG (by lia)] at hv;by_cases e:t=j
  .subst e;rw[pK];refine Cw ?_;have:=KD (b:=-(aK ps t).1) hv
   rwa [show v + -(aK ps t).1=v-(aK ps t).1 by lia] at this
  .rw[mG e];exact T.bwd t (by lia) h3 v hv
theorem T3.tops(T:T3 ps ms 0 tp):mF ps ms tp :=
 #[λt v k ht e=>T.val t ht v k e,T.top,λt v k ht e=>T.fwd t ht v #[v,k,e,afS _],λt v k ht e=>T.bwd t (afi _) ht v #[v,k,e,afS _]]
theorem mF.clash(T:mF ps ms tp)(hb:b.1<=ps.length)(e:tp b.1=U (v,k))(hl:b.2.1=U l)(hv:v<l):∃ (i:Nat) (a:Mk),k=(i:Int)/\ms[i]?=U a/\clash ps a b:=by obtain⟨i,m,h,e1,e2,e3,h4⟩:=T.val _ v k hb e;exact#[i,m,e1,e2,h,l,e3,hl,by lia]
theorem Cz:∀ t,(∀ k,k<=t->bx k=Vz k)->(∀ k,k<t->st k=dN k)->bD bx st t=bD Vz dN t
 | 0,h,_=>h 0 (aeV _)
 | t+1,h,hs=>by unfold bD;rw[h (t+1) (aeV _),Cz t (λk hk=>h k (by lia)) (λk hk=>hs k (by lia)),hs t (by lia)]
noncomputable def gp(ws:List W2)(t:Nat):W2:=ws.getD t O
noncomputable def cJ(ss:List S2)(t:Nat):S2:=ss.getD t (O,O)
noncomputable def atT(ms:List Mk)(t:Nat):List S2:=(ms.filter λm=>decide (m.1=t)).map (·.2)
noncomputable def c8(ms:List Mk)(t:Nat):W2:=gh (O,O) (atT ms t)
theorem KH:eM (c8 ms t) x ↔ ∀ m∈ms,m.1=t->b0 m.2 x:=by
 unfold c8;rw[yF];unfold atT;constructor
 .intro h m hm e;exact h _ (aeY.mpr #[m,afr.mpr #[hm,by simpa using e],Y])
 .intro h s hs;obtain⟨m,hm,rfl⟩:=aeY.mp hs;obtain⟨h1,h2⟩:=afr.mp hm;exact h m h1 (by simpa using h2)
theorem VA(ms:List Mk)(t:Nat):u7 (c8 ms t):=λs e=>by
 unfold c8 gh at e;split at e
 .cases e
 .rename_i h;cases e;simpa using h
theorem VB(hc:jN ps c)(hm:meets ms c):∀ t,t<=ps.length->bD (c8 ms) (aK ps) t≠O:=λt ht e=>by obtain⟨s,es,y⟩:=Kx (bx:=c8 ms) (st:=aK ps) (c:=c) (n:=ps.length) (λt y=>KH.mpr λm dk e=>by rw[<- e];exact hm m dk) (λt ht=>hc t ht) t ht;rw[e] at es;cases es
theorem KI(hp:fL ps)(hf:∀ t,t<=ps.length->bD (c8 ms) (aK ps) t≠O):yH ps.length (c8 ms) (aK ps):=Vm (VA ms 0) (λt ht=>hp _ (rV ht)) hf
noncomputable def mH(ps:List P2):List P2:=ps.reverse.map λp=>(-p.2,-p.1)
theorem VC(h:t<ps.length):aK (mH ps) t=jM ps.length (aK ps) t:=by unfold mH jM aK;rw[aeP,ae5,ag0 h,aeP,aeQ (by lia)];rfl
theorem back_eq(hl:ss.length=ps.length+1)(h:∀ t,t<ps.length+1->bD (c8 ms) (aK ps) t=U (cJ ss t))(ht:t<=ps.length):bD (gp (ss.reverse.map U)) (aK (mH ps)) t=iL ps.length (c8 ms) (aK ps) (ps.length-t):=by unfold iL;rw[show ps.length-(ps.length-t)=t by lia];refine Cz t (λk hk=>?_) λk hk=>VC (by lia);rw[h (ps.length-k) (by lia)];unfold gp cJ;rw[aeP,ae5,ag0 (by lia),hl,show ps.length+1-1-k=ps.length-k by lia,aeP,aeQ (by lia)];rfl
theorem VD(hl:ss.length=n+1)(ht:t<=n):cJ ss.reverse t=cJ ss (n-t):=by unfold cJ;rw[aeP,ag0 (by lia),aeP,hl,show n+1-1-t=n-t by lia]
theorem VE(T:yH ps.length (c8 ms) (aK ps))(ht:t<ps.length)(hx:eM (iL ps.length (c8 ms) (aK ps) t) x)(hs:iL ps.length (c8 ms) (aK ps) (t+1)=U s):∃ r,jL s (gj (U x,U x) (aK ps t))=U r/\∀ y,b0 r y->eM (iL ps.length (c8 ms) (aK ps) (t+1)) y/\(aK ps t).1<=y-x/\y-x<=(aK ps t).2:=by
 obtain⟨y,⟨s',e',hy⟩,h1,h2⟩:=T.next t x ht hx
 rw[hs] at e';cases e';have xx:b0 (U x,U x) x:=#[λ_ z=>by cases z;exact afS _,λ_ z=>by cases z;exact afS _]
 obtain⟨r,er,_⟩:=su.mpr #[hy,Cq xx h1 h2];refine#[r,er,λz hz=>?_];obtain⟨z1,z2⟩:=su.mp #[r,er,hz];refine#[#[s,hs,z1],?_];have a:=z2.1 (x+(aK ps t).1) rfl;have b:=z2.2 (x+(aK ps t).2) rfl;lia
noncomputable def bU(cs:List Int)(t:Nat):Int:=cs.getD t 0
theorem meets_of(T:yH ps.length (c8 ms) (aK ps))(hm:∀ m∈ms,m.1<=ps.length)(h:∀ t,t<=ps.length->eM (iL ps.length (c8 ms) (aK ps) t) (c t)):meets ms c:=λm dk=>KH.mp (T.sub _ _ (hm m dk) (h _ (hm m dk))) m dk rfl
noncomputable def fe(ts:List (Option P2))(t:Nat):Option P2:=ts.getD t O
theorem VF(h:i<ts.length):fe (ts.set i x)=lA (fe ts) i x:=by
 funext t;unfold fe lA;rw[aeP,List.getElem?_set];by_cases e:t=i
 .subst e;rw[if_pos Y,if_pos Y,if_pos h];rfl
 .rw[if_neg (λz=>e z.symm),if_neg e];exact (aeP ..).symm
theorem VG(n:Nat):fe (ag5 n O)=λy=>O:=by funext t;unfold fe;rw[aeP,ahh];split<;>rfl
end Gz
namespace Gz
open PySem PySem.Spec PyProof.Rows L2
noncomputable def rowOf(H:Hp):V->List V
 | .ref p=>match H p with
  | some (.tup xs)=>xs
  | _=>[]
 | _=>[]
theorem pL(h:H p=U (.tup xs)):rowOf H (.ref p)=xs:=by
 show (match H p with
  | some (.tup xs)=>xs
  | _=>[])=xs
 rw[h]
def nW(row:V->List V)(tt:TT):TT:=λJ H Q=>match J with
 | some v::ρ=>tt ((row v).map U++ρ) H Q
 | _=>False
def mI(row:V->List V)(te:TE):TE:=λJ H Q=>match J with
 | some v::ρ=>te ((row v).map U++ρ) H Q
 | _=>False
section
variable{K:aeN}{ρ:L2.St}{tt:TT}{te:TE}{H:Hp}{Q:VK}{a:ae0}{xs:List V}{row:V->List V}
def pM(K:aeN)(a:ae0)(xs:List V)(row:V->List V)(k:Nat)(H:Hp):Prop:=ai K H a xs/\∀ x∈xs,∃ p,x = .ref p/\aj K H p (row x)/\(row x).length=k
theorem KJ{k:Nat}{g:TG}(hg:∀ (p:ae0) (ys:List V) (os:List (Option V)) (H:Hp) (Q:L2.St->Hp->Prop),os.length=k->ys.length=k->aj K H p ys->Q (ys.map U++ρ) H->g (.ref p) (os++ρ) H Q)
 (hn:xs.length<=afl) (h:fq (pM K a xs row k) ρ (nW row tt) (mI row te) xs [] H λzs H'=>∀ l,H' l=O->Q (.ref l) (upd H' l (.lst zs))) :
 j7 k (j4 K a) g ρ tt te H Q:=by
 refine#[λi m ys H=>m=xs.length-i/\i<=xs.length/\ys.length<=i/\fq (pM K a xs row k) ρ (nW row tt) (mI row te) (xs.drop i) ys H λys H'=>∀ l,H' l=O->Q (.ref l) (upd H' l (.lst ys)),#[_,Y,afi _,aeV _,h],?_];rintro i m ys H ⟨rfl,hi,hy,c⟩;by_cases a8:i<xs.length
 .have e:=afY a8;rw[e] at c;obtain⟨⟨c0,c1⟩,c2⟩:=c;have l1:∀ y:V,(ys++[y]).length<=i+1:=λy=>by rw[ae1,afh];lia
  have l2:ys.length<=i+1:=by lia
  refine .inr #[#[xs,_,c0,aeQ a8],by lia,λzs H'=>zs.length<=i+1/\fq (pM K a xs row k) ρ (nW row tt) (mI row te) (xs.drop (i+1)) zs H' λys H'=>∀ l,H' l=O->Q (.ref l) (upd H' l (.lst ys)),λzs H' q=>#[_,by lia,Y,a8,q.1,q.2],λos i6 v H' y=>?_];obtain⟨rfl,ex⟩:=y;have ex:=ex xs c0;rw[aeQ a8] at ex;obtain⟨p,ep,hp,hl⟩:=c1 xs[i] (aj5 _);cases ex;rw[ep] at hp hl c2 ⊢;refine hg p _ os _ _ i6 hl hp #[(row (.ref p)).map U,by rw[aeO];exact hl,Y,?_];simp only[l1,l2,true_and];exact c2
 .have e:i=xs.length:=by lia
  subst e;rw[aj3] at c;exact .inl #[#[xs,c.1.1,aeV _],by lia,c.2]
theorem CA{α:Type}{l:List α}{n:Nat}(h:l.length=n+1):∃ a r,l=a::r/\r.length=n:=by
 cases l with
 | nil=>cases h
 | cons a r=>exact#[a,r,Y,Nat.succ.inj h]
theorem CB{α:Type}{l:List α}(h:l.length=2):∃ a b,l=[a,b]:=by obtain⟨a,r,rfl,j⟩:=CA (n:=1) h;obtain⟨b,r,rfl,k⟩:=CA (n:=0) j;obtain rfl:=ahn k;exact#[a,b,Y]
theorem KL{α:Type}{l:List α}(h:l.length=3):∃ a b c,l=[a,b,c]:=by obtain⟨a,r,rfl,k⟩:=CA (n:=2) h;obtain⟨b,c,rfl⟩:=CB k;exact#[a,b,c,Y]
theorem VH{p:ae0}{ys:List V}{os:List (Option V)}{H:Hp}{Q:L2.St->Hp->Prop}(ho:os.length=2)(hy:ys.length=2)(h:aj K H p ys)(q:Q (ys.map U++ρ) H):jw K 2 (cY (cu 0) (cY (cu 1) iZ)) (.ref p) (os++ρ) H Q:=by obtain⟨o1,o2,rfl⟩:=CB ho;obtain⟨x,y,rfl⟩:=CB hy;exact nO h q
theorem VI{p:ae0}{ys:List V}{os:List (Option V)}{H:Hp}{Q:L2.St->Hp->Prop}(ho:os.length=3)(hy:ys.length=3)(h:aj K H p ys)(q:Q (ys.map U++ρ) H):jw K 3 (cY (cu 0) (cY (cu 1) (cY (cu 2) iZ))) (.ref p) (os++ρ) H Q:=by obtain⟨o1,o2,o3,rfl⟩:=KL ho;obtain⟨x,y,z,rfl⟩:=KL hy;exact Vi h q
theorem VJ(hn:xs.length<=afl)(h:fq (pM K a xs row 2) ρ (nW row tt) (mI row te) xs [] H λzs H'=>∀ l,H' l=O->Q (.ref l) (upd H' l (.lst zs))) :
 j7 2 (j4 K a) (jw K 2 (cY (cu 0) (cY (cu 1) iZ))) ρ tt te H Q:=KJ (λy y y y y ho hy h q=>VH ho hy h q) hn h
theorem KN(hn:xs.length<=afl)(h:fq (pM K a xs row 3) ρ (nW row tt) (mI row te) xs [] H λzs H'=>∀ l,H' l=O->Q (.ref l) (upd H' l (.lst zs))) :
 j7 3 (j4 K a) (jw K 3 (cY (cu 0) (cY (cu 1) (cY (cu 2) iZ)))) ρ tt te H Q:=KJ (λy y y y y ho hy h q=>VI ho hy h q) hn h
end
theorem yJ{α β:Type}{R:Hp->V->α->Prop}{R':Hp->V->β->Prop}{Ok:Hp->Prop}{ρ:L2.St}{tt:TT}{te:TE}{p:α->Bool}{f:α->β}{Q':List V->Hp->Prop}(mono:∀ H H' x a,ah H H'->R H x a->R H' x a)(kg:∀ H H' x a,ah H H'->R' H x a->R' H' x a):∀ {xs:List V} {as:List α} {zs:List V} {bs:List β} {H:Hp},ax (R H) xs as->ax (R' H) zs bs->(∀ H',ah H H'->Ok H') ->
 (∀ x a,a∈as->∀ H',ah H H'->R H' x a->∀ Q:Bool->Hp->Prop,Q (p a) H'->tt (U x::ρ) H' Q)->(∀ x a,a∈as->p a=true->∀ H',ah H H'->R H' x a->∀ Q:VK,(∀ H2 y,ah H' H2->R' H2 y (f a)->Q y H2)->te (U x::ρ) H' Q)->(∀ H' ws,ah H H'->ax (R' H') ws (bs++(as.filter p).map f)->Q' ws H')->fq Ok ρ tt te xs zs H Q'
 | [],[],zs,bs,H,_,hz,bM,_,_,q=>#[bM H (ah.refl H),q H zs (ah.refl H) (by simpa using hz)]
 | x::xs,a::as,zs,bs,H,h,hz,bM,ht,he,q=>by
  refine#[bM H (ah.refl H),ht x a (.head _) H (ah.refl H) h.1 _ ?_];by_cases hp:p a=true
  .rw[if_pos hp];refine he x a (.head _) hp H (ah.refl H) h.1 _ λH2 y s2 ry=>?_;refine yJ mono kg (bs:=bs++[f a]) (h.2.imp λz z r=>mono _ _ _ _ s2 r) ((hz.imp λz z r=>kg _ _ _ _ s2 r).snoc ry) (λH' s'=>bM H' (s2.trans s')) (λx b hb H' s'=>ht x b (.tail _ hb) H' (s2.trans s')) (λx b hb hp H' s'=>he x b (.tail _ hb) hp H' (s2.trans s')) λH' ws s' hw=>q H' ws (s2.trans s') ?_;rw[afU,if_pos hp];simpa using hw
  .rw[if_neg hp];refine yJ mono kg h.2 hz bM (λx b hb=>ht x b (.tail _ hb)) (λx b hb hp=>he x b (.tail _ hb) hp) λH' ws s' hw=>q H' ws s' ?_;rw[afU,if_neg hp];exact hw
 | [],_::_,_,_,_,h,_,_,_,_,_=>h.elim
 | _::_,[],_,_,_,h,_,_,_,_,_=>h.elim
theorem VL(aw:List aeX):amf aw.toArray O O (U (-1))=aw.reverse.toArray:=by
 have e1:ah0 O O (U (-1)) aw.toArray.size=(((aw.length:Nat):Int)-1,-1,-1):=by rw[ae3];rfl
 unfold amf;rw[e1];dsimp only;have e2:sliceRange (((aw.length:Nat):Int)-1) (-1) (-1)=(afp aw.length).map λk=>aw.length-1-k:=by
  unfold sliceRange;have h1:¬ ((-1:Int) > 0):=by lia
  simp only[h1,if_false];by_cases h:aw.length=0
  .rw[h];rfl
  .rw[if_pos (by lia),show (((aw.length:Nat):Int)-1 - -1 - -1-1) / (- -1)=((aw.length:Nat):Int) by
    rw[show (- (-1:Int))=1 by lia,alS];lia,afO]
   refine agV λk hk=>?_;have:=af1.mp hk;lia
 rw[e2]
 congr 1
 refine ahK λk=>?_;have key:((afp aw.length).map λk=>aw.length-1-k).filterMap (aw.toArray[·]?)=(afp aw.length).map λk=>aw.getD (aw.length-1-k) .none:=by
  rw[alc];have:∀ (l:List Nat),(∀ k∈l,k<aw.length)->l.filterMap ((λx=>aw.toArray[x]?) ∘ λk=>aw.length-1-k)=l.map λk=>aw.getD (aw.length-1-k) .none:=by
   intro l
   induction l with
   | nil=>intro y;rfl
   | cons k l ih =>
    intro h;have hk:=h k (.head _);rw[agh,ae7];have e:((λx=>aw.toArray[x]?) ∘ λk=>aw.length-1-k) k=U (aw.getD (aw.length-1-k) .none):=by show aw.toArray[aw.length-1-k]?=_;rw[List.getElem?_toArray,aeP,aeQ (by lia)];rfl
    rw[e,ih λj hj=>h j (.tail _ hj)]
  exact this _ λk hk=>af1.mp hk
 rw[key];by_cases hk:k<aw.length
 .rw[ae5,af5 hk,ag0 hk];simp only[Option.map_some];rw[aeP,aeQ (by lia)];rfl
 .rw[agj (by rw[aeO,ae9];lia),agj (by rw[agF];lia)]
section
variable{X:Cx}{e st:aiF}{te ts:TE}{p2 pos:Pos}
def KO(K:aeN)(te ts:TE):TE:=λJ H Q=>te J H λx H1=>ts J H1 λy H2=>y = .int (-1)/\∃ a xs,x = .ref a/\ai K H2 a xs/\∀ p,H2 p=O->Q (.ref p) (upd H2 p (.lst xs.reverse))
theorem KP(he:PE X e te)(hs:PE X st ts):PE X (.Subscript e (.Slice O O (U st) p2) pos) (KO X.K te ts):=by intro pins s J H Q I h;refine alC (aF (he pins s J H _ I h) λv s1 zq=>?_);obtain⟨x,H1,I1,r1,q1⟩:=zq;refine wpAny_Slice ?_;rw[ald];refine aeR (aeR ?_);rw[evalPart_some];refine aF (hs pins s1 J H1 _ I1 q1) λu s2 zq=>?_;obtain⟨y,H2,I2,r2,q2⟩:=zq;obtain⟨rfl,a,xs,rfl,hx,q⟩:=q2;obtain⟨t,rfl⟩:=r2;cases r1;have I4:Inv X pins J H2 { s2 with heap:=s2.heap.push { cls:=.type "slice",data:=.fields (List.toArray [.none,.none,.int (-1) t]) } }:=I2.kept (t':=s2.toks) λb ob q=>aeS _ q;obtain⟨aw,r,ht,hz⟩:=I4.list hx;have hlen:=r.length;show afe (model X.prog X.w) X.A (ajR e (.Slice O O (U st) p2) (.ref a) (.ref s2.heap.objs.size)) (EP X pins J Q) X.xe { s2 with heap:=s2.heap.push { cls:=.type "slice",data:=.fields (List.toArray [.none,.none,.int (-1) t]) } };refine tail_any (ops:=[.ref a,.ref s2.heap.objs.size]) ht.isList.typeIs slot_list_getitem.lookup ?_ (by with_unfolding_all rfl);refine ajB ht.isList (Heap.IsSliceOf.new ..) .none .none (.int (-1) t) (by simp) ?_ (by rw[ae3];lia);rw[VL];refine#[.ref _,_,I4.laid (t':=s2.toks) (o:=.lst xs.reverse) (λb ob q=>aeS _ q) (aeV _) ?_,Y,q _ (I4.aB.fresh (aeV _))];exact#[by rw[agF];exact hz,_,0,r.reverse,aeZ _ Y]
end
theorem VM{K:aeN}{a:ae0}{xs:List V}{ρ:L2.St}{tt:TT}{te:TE}{H:Hp}{Q:VK}(hn:xs.length<=afl)(h:fq (λH=>ai K H a xs) ρ tt te xs.reverse [] H λys H'=>∀ l,H' l=O->Q (.ref l) (upd H' l (.lst ys))):nM (yf K a xs.length) ρ tt te H Q:=by
 have hr:xs.reverse.length=xs.length:=agF;refine#[λi m ys H=>m=xs.length-i/\i<=xs.length/\ys.length<=i/\fq (λH=>ai K H a xs) ρ tt te (xs.reverse.drop i) ys H λys H'=>∀ l,H' l=O->Q (.ref l) (upd H' l (.lst ys)),#[_,Y,afi _,aeV _,h],?_];rintro i m ys H ⟨rfl,hi,hy,g⟩;by_cases a8:i<xs.length
 .have e:=afY (show i<xs.reverse.length by lia);rw[e] at g;obtain⟨g0,g1⟩:=g;refine .inr #[#[xs,_,g0,Y,aeQ (by lia)],by lia,λzs H'=>zs.length<=i+1/\fq (λH=>ai K H a xs) ρ tt te (xs.reverse.drop (i+1)) zs H' λys H'=>∀ l,H' l=O->Q (.ref l) (upd H' l (.lst ys)),λzs H' q=>#[_,by lia,Y,a8,q.1,q.2],λx H' y=>?_];obtain⟨rfl,ex⟩:=y;have ex:=ex xs g0 rfl;rw[aeQ (by lia)] at ex;cases ex;have l1:∀ y:V,(ys++[y]).length<=i+1:=λy=>by rw[ae1,afh];lia
  have l2:ys.length<=i+1:=by lia
  simp only[l1,l2,true_and];exact g1
 .have e:i=xs.length:=by lia
  subst e;rw[aij (by lia)] at g;exact .inl #[Y,by lia,g.2]
theorem Ii(h:ajQ us ns):Vals (ns.map V.int) us:=by
 induction h with
 | nil=>exact .nil
 | cons n t r ih=>exact .cons #[t,Y] ih
theorem CC{β:Type}{R':Hp->V->β->Prop}{Ok:Hp->Prop}{ρ:L2.St}{tt:TT}{te:TE}{p:V × V->Bool}{f:V × V->β}{Q':List V->Hp->Prop}(kg:∀ H H' x a,ah H H'->R' H x a->R' H' x a):∀ {rows:List (V × V)} {H:Hp} {zs:List V} {bs:List β},ax (R' H) zs bs->(∀ H',ah H H'->Ok H') ->
 (∀ r∈rows,∀ H',ah H H'->∀ Q,Q (p r) H'->tt (U r.1::U r.2::ρ) H' Q)->(∀ r∈rows,p r=true->∀ H',ah H H'->∀ Q:VK,(∀ ic y,ah H' ic->R' ic y (f r)->Q y ic)->te (U r.1::U r.2::ρ) H' Q) ->
 (∀ H' ws,ah H H'->ax (R' H') ws (bs++(rows.filter p).map f)->Q' ws H')->rS Ok ρ tt te rows zs H Q'
 | [],H,zs,bs,hz,bM,_,_,q=>#[bM H (ah.refl H),q H zs (ah.refl H) (by simpa using hz)]
 | (x,y)::r,H,zs,bs,hz,bM,ht,he,q=>by
  refine#[bM H (ah.refl H),λw hw=>?_];have s:=Gz.ao (o:=.tup [x,y]) hw;refine ht _ (.head _) _ s _ ?_;by_cases hb:p (x,y)=true
  .rw[if_pos hb];refine he _ (.head _) hb _ s _ λH2 v s2 r2=>?_;have S:=s.trans s2;refine CC kg (bs:=bs++[f (x,y)]) ((hz.imp λx a r=>kg _ _ _ _ S r).snoc r2) (λH' s'=>bM H' (S.trans s')) (λz hz H' s'=>ht z (.tail _ hz) H' (S.trans s')) (λz hz hb H' s'=>he z (.tail _ hz) hb H' (S.trans s')) λH' ws s' hw=>q H' ws (S.trans s') ?_;rw[afU,if_pos hb,ae7]
   rwa [ajF] at hw
  .rw[if_neg hb];refine CC kg (hz.imp λx a r=>kg _ _ _ _ s r) (λH' s'=>bM H' (s.trans s')) (λz hz H' s'=>ht z (.tail _ hz) H' (s.trans s')) (λz hz hb H' s'=>he z (.tail _ hz) hb H' (s.trans s')) λH' ws s' hw=>q H' ws (s.trans s') ?_;rw[afU,if_neg hb];exact hw
abbrev vd(H:Hp)(v:V)(s:S2):Prop:=aQ H v s.1 s.2
noncomputable def cellsFrom:En->List Int->List S2
 | lo,[]=>[(lo,O)]
 | lo,z::zs=>(lo,U (z-1))::cellsFrom (U z) zs
noncomputable def mJ(c:S2):Int:=match c.1,c.2 with
 | some x,_=>x
 | none,U y=>y
 | none,O=>0
theorem VN(h:JJ c):hs c (mJ c)=true:=by
 rw[Ue];unfold JJ at h;rcases c with ⟨z|x,z|y⟩
 .exact#[λz e=>(nomatch e),λz e=>(nomatch e)]
 .exact#[λz e=>(nomatch e),λz e=>by cases e;exact afS _]
 .exact#[λz e=>by cases e;exact afS _,λz e=>(nomatch e)]
 .refine#[λz e=>by cases e;exact afS _,λz e=>?_];cases e;show x<=y;simp[aY] at h;lia
theorem KQ(es:List Int):(es.map V.int).all mf=true:=by rw[aji];exact afT.mpr λy y=>rfl
theorem CD(a:Int):∀ (es:List Int),uC (.int a) (es.map V.int)=es.contains a
 | []=>rfl
 | e::es=>by
  have ih:=CD a es;unfold uC at *;rw[ae7,afX,ih,List.contains_cons]
  congr 1
  show (e == a)=(a == e);rw[agp];simp only[beq_iff_eq];exact eq_comm
theorem KR{K:aeN}{H1 H':Hp}{l:ae0}{ys:List V}{tb:Tb}(hl:H1 l=U (.lst ys))(hM:ax (lp H1) ys tb)(s:ah H1 H'):pM K l ys (rowOf H1) 3 H':=by refine#[ai.of (s _ _ hl),λx hx=>?_];obtain⟨i,hi⟩:=afF.mp hx;obtain⟨m,y,t,p,rfl,h1,h2⟩:=hM.get hi;rw[pL h1];exact#[t,Y,aj.of (s _ _ h1),Y]
noncomputable def fB(tb:Tb)(es:List Int):List Mk:=((nU tb).filter λr=>!es.contains r.1.1).map λr=>(r.1.2.toNat,r.2)
theorem map_some:∀ (l:List α),(l.map f).filterMap id=l.filterMap f
 | []=>rfl
 | a::l=>by rw[ae7,agh,agh,map_some l];rfl
theorem bI:∀ {l:List α},l.Pairwise R->∀ {p q:α},p∈l->q∈l->p=q∨R p q∨R q p
 | [],_,_,_,h,_=>by cases h
 | x::l,h,p,q,hp,hq=>by
  have h1:=alp.mp h;rcases ae2.mp hp with e1|i1<;>rcases ae2.mp hq with e2|i2
  .exact .inl (e1.trans e2.symm)
  .rw[e1];exact .inr (.inl (h1.1 q i2))
  .rw[e2];exact .inr (.inr (h1.1 p i1))
  .exact bI h1.2 i1 i2
theorem pN:(nU tb).Perm tb:=rZ
section
end
noncomputable def VO(K:aeN)(a b c:ae0):It :=
 #[λi H=>∃ xs ys zs x y z,ai K H a xs/\ai K H b ys/\ai K H c zs/\xs[i]?=U x/\ys[i]?=U y/\zs[i]?=U z,λi H v H'=>∃ (p:ae0) (x y z:V),v = .ref p/\H p=O/\H'=upd H p (.tup [x,y,z])/\(∀ xs,ai K H a xs->xs[i]?=U x)/\(∀ ys,ai K H b ys->ys[i]?=U y)/\∀ zs,ai K H c zs->zs[i]?=U z,
  λi H=>∃ xs,ai K H a xs/\xs.length<=i]
def VP(K:aeN)(ta:TA):TI:=λJ H R=>ta J H λvs H1=>∃ a b c,vs=[.ref a,.ref b,.ref c]/\(∃ xs,ai K H1 a xs)/\(∃ ys,ai K H1 b ys)/\(∃ zs,ai K H1 c zs)/\R (VO K a b c) H1
section
def Loose:HO->Prop
 | .dT _=>True
 | .aN _ (.dT _)=>True
 | _=>False
theorem KS(I:Inv X pins J H s)(e:H a=U u)(lu:Loose u)(h0:∀ o v,X.H₀ a≠U (.aN o v))(new:b9 X.prog X.w (upd H a u') s.heap a u'):Inv X pins J (upd H a u') s:=by
 have nn:∀ b,H b=O->b≠a:=λb h z=>by rw[z,e] at h;cases h
 have nt:∀ b xs,H b=U (.tup xs)->b≠a:=λb xs h z=>by rw[z,e] at h;cases h;exact lu
 have no:∀ b x,H b=U (.own x)->b≠a:=λb x h z=>by rw[z,e] at h;cases h;exact lu
 have nb:∀ b ps,H b=U (.tbl ps)->b≠a:=λb ps h z=>by rw[z,e] at h;cases h;exact lu
 refine#[I.ok,I.os,I.bare,#[I.base.keep,I.base.slot,λb o e1 n hx=>?_,I.base.there,λb xs e1=>?_,λb o v e1=>?_,λb ps e1=>?_],I.loc,I.cell,?_,λx c e1=>?_,λp hp=>?_,λb ob e1=>?_,I.len]
 .have:=I.base.free b o e1 n hx;rw[aI (nn b this)];exact this
 .have:=I.base.iB b xs e1;rw[aI (nt b xs this)];exact this
 .have:=I.base.gE b o v e1;rw[aI (show b≠a from λz=>h0 o v (by rw[<- z];exact e1))];exact this
 .obtain⟨more,this⟩:=I.base.iC b ps e1;exact#[more,by rw[aI (nb b _ this)];exact this]
 .rw[aI (nn _ I.free)];exact I.free
 .have:=I.gF x c e1;rw[aI (nn c this)];exact this
 .obtain⟨p1,p2,p3⟩:=I.pin p hp;exact#[p1,by rw[aI (nn _ p2)];exact p2,p3]
 .by_cases hb:b=a
  .subst hb;rw[ar] at e1;cases e1;exact new
  .rw[aI hb] at e1;exact (I.aB b ob e1).ju (λy y y q=>q) (λc h=>by rw[aI (no c _ h)];exact h) λc xs h=>by rw[aI (nt c xs h)];exact h
theorem VQ(I:Inv X pins J H s)(e:H a=U (.dT kvs)):∃ o,Inv X pins J (upd H a (.aN o (.dT kvs))) s/\∀ o v,X.H₀ a≠U (.aN o v):=by
 have h0:∀ o v,X.H₀ a≠U (.aN o v):=λo v z=>by have:=I.base.gE a o v z;rw[e] at this;cases this
 have ok:=I.aB a _ e;obtain⟨y,y,y,y,o,y,y,ho,y⟩:=id ok;refine#[o,KS I e trivial h0 #[ho,ok.ju (λy y y q=>q) (λc h=>?_) λc xs h=>?_],h0]
 .rw[aI λz=>by rw[z,e] at h;cases h];exact h
 .rw[aI λz=>by rw[z,e] at h;cases h];exact h
theorem yK(I:Inv X pins J H s)(e:H a=U (.aN o (.dT kvs)))(h0:∀ o v,X.H₀ a≠U (.aN o v)):Inv X pins J (upd H a (.dT kvs)) s:=by
 obtain⟨y,ok⟩:=I.aB a _ e;refine KS I e trivial h0 (ok.ju (λy y y q=>q) (λc h=>?_) λc xs h=>?_)
 .rw[aI λz=>by rw[z,e] at h;cases h];exact h
 .rw[aI λz=>by rw[z,e] at h;cases h];exact h
noncomputable def KU(a:ae0)(o:Obj)(kvs:List (List Key × V))(D:Ends):Ends where
 nx:=λJ H=>H a=U (.aN o (.dT kvs))/\D.nx J (upd H a (.dT kvs))
 rt:=λv H=>H a=U (.aN o (.dT kvs))/\D.rt v (upd H a (.dT kvs))
 bk:=λJ H=>H a=U (.aN o (.dT kvs))/\D.bk J (upd H a (.dT kvs))
 ct:=λJ H=>H a=U (.aN o (.dT kvs))/\D.ct J (upd H a (.dT kvs))
def KW(t:TS):TS:=λD J H=>∃ a kvs,H a=U (.dT kvs)/\∀ o,t (KU a o kvs D) J (upd H a (.aN o (.dT kvs)))
theorem ve{st:ajO}{t:TS}(h:PS X st t):PS X st (KW t):=by
 rintro pins s J H D I ⟨a,kvs,e,q⟩;obtain⟨o,I1,h0⟩:=VQ I e;refine aF (h pins s J _ _ I1 (q o)) λf s' hf=>?_;cases f with
 | next=>obtain⟨σ',H',I',e',q'⟩:=hf;exact#[σ',_,yK I' e' h0,q']
 | brk=>obtain⟨σ',H',I',e',q'⟩:=hf;exact#[σ',_,yK I' e' h0,q']
 | cont=>obtain⟨σ',H',I',e',q'⟩:=hf;exact#[σ',_,yK I' e' h0,q']
 | ret v=>obtain⟨v',σ',H',I',r',e',q'⟩:=hf;exact#[v',σ',_,yK I' e' h0,r',q']
def VR(t:TE):TE:=λJ H Q=>∃ a kvs,H a=U (.dT kvs)/\∀ o,t J (upd H a (.aN o (.dT kvs))) λv H'=>H' a=U (.aN o (.dT kvs))/\Q v (upd H' a (.dT kvs))
noncomputable def ff(o:Obj):List V:=match o.data with
 | .dict es _=>es.toList.map λe=>match e.key with
  | .ref a=>V.ref a
  | _=>V.non
 | _=>[]
noncomputable def vf(a:ae0)(o:Obj)(kvs:List (List Key × V)):It where
 go i H:=H a=U (.aN o (.dT kvs))/\i<kvs.length
 yld i H x H':=H'=H/\(ff o)[i]?=U x
 stop i H:=H a=U (.aN o (.dT kvs))/\kvs.length<=i
def CF(tl:TE):TI:=λJ H R=>tl J H λx H1=>∃ a o kvs,x = .ref a/\H1 a=U (.aN o (.dT kvs))/\(kh H1 (ff o) kvs->R (vf a o kvs) H1)
theorem CG(ok:cF P w H h)(e:H a=U (.aN o (.dT kvs))):∃ (as:List ae0) (es:Array ahP) (ep:Nat),kh H (ff o) kvs/\(a == agI)=false/\fb h a es ep/\o.data = .dict es ep/\es.size=kvs.length/\kvs.length<=afl/\∀ i (hi:i<es.size),∃ b,es[i].key = .ref b/\(ff o)[i]?=U (.ref b):=by
 obtain⟨ho,z,lo,xs,rel,o',es,ep,di,hc,hd,he,hn⟩:=ok a _ e;rw[ho] at di;cases di;have hl:xs.length=kvs.length:=(Paired.length rel).symm;have hs:es.size=xs.length:=akw he;have ek:ff o=(xs.map (·.2.1)).map V.ref:=by unfold ff;rw[hd];show es.toList.map _=_;rw[he,afA,afA];exact agV λx y=>rfl
 refine#[xs.map (·.2.1),es,ep,?_,lo,#[o,ho,hc,hd],hd,hs.trans hl,z,λi hi=>?_]
 .rw[ek];exact KT.Kb rel
 .have hx:i<xs.length:=by lia
  have e1:=entry_at he i;rw[afB hi,aeQ hx] at e1;have e2:es[i]=amP (ajv (dr P w)) xs[i]:=by simpa using e1
  refine#[xs[i].2.1,by rw[e2];rfl,?_];rw[ek,ae5,ae5,aeQ hx];rfl
theorem VS{P:afG}{w:agn}{K:aeN}{tg:aiF}(a it:ae0)(o:Obj)(kvs:List (List Key × V))(bN:a≠it):Turn P w K tg (vf a o kvs) [it] it (λi h=>∃ es ep,o.data = .dict es ep/\i<=es.size/\h.IsKeyIter it a i es.size ep) where
 mem:=by simp
 obj:=λi h st b hb=>by
  have e:b=it:=by simpa using hb
  subst e;obtain⟨es,ep,y,y,ob,e,c,d⟩:=st;exact#[ob,e,λv z=>by rw[d] at z;cases z]
 keep:=λi h h' st k=>by obtain⟨es,ep,h1,h2,ob,e,c,d⟩:=st;exact#[es,ep,h1,h2,ob,k it (by simp) ob e,c,d]
 item:=by
  intro X hP hw hK hc i pins s J H E I hf st hg;subst hP hw hK;obtain⟨e,hi⟩:=hg;obtain⟨es,ep,hd,hle,hit⟩:=st;obtain⟨as,es',lX,hk,lo,raw,jX,hs,hz,hkey⟩:=CG I.aB e;rw[hd] at jX;cases jX;obtain⟨f0,f1,f2,f3,f4,f5⟩:=hf it (by simp);have dB:i<es.size:=by lia
  obtain⟨b,eb,kb⟩:=hkey i dB;refine J0 hit raw dB λh' mD sb=>?_;have I1:Inv X pins J H { s with heap:=h' }:=I.turned (t':=s.toks) (λb o hb e=>(sb.2 b hb).trans e) f0 f1 f3 f4 f5;obtain⟨ob,e1,c1,d1⟩:=id mD;exact#[es[i].key,Y,rq (s:={ s with heap:=h' }) e1 c1 d1 (by decide) #[.ref b,H,I1,eb,#[Y,kb],#[es,ep,hd,dB,mD],λb hb=>(hf b hb).1]]
 done:=by
  intro X hP hw hK hc i pins s J H E I hf st hg;subst hP hw hK;obtain⟨e,hi⟩:=hg;obtain⟨es,ep,hd,hle,hit⟩:=st;obtain⟨as,es',lX,hk,lo,raw,jX,hs,hz,hkey⟩:=CG I.aB e;rw[hd] at jX;cases jX;obtain⟨f0,f1,f2,f3,f4,f5⟩:=hf it (by simp);have ei:i=es.size:=by lia
  subst ei;exact J1 (I.ok.hd hc) hit raw λh' eb=>#[Y,I.turned (t':=s.toks) (λb o hb e=>eb b o hb e) f0 f1 f3 f4 f5]
 self:=λy y y y y st h=>by obtain⟨es,ep,y,y,hit⟩:=st;exact akP hit h
theorem vg(hl:PE X l tl):PI X tg l (CF tl):=by
 intro pins s J H R I h;refine aF (hl pins s J H _ I h) λv s1 zq=>?_;obtain⟨x,H1,I1,r1,q1⟩:=zq;obtain⟨a,o,kvs,e,hf,q⟩:=q1;subst e;cases r1;obtain⟨as,es,ep,hk,lo,raw,hd,hs,hz,hkey⟩:=CG I1.aB hf;refine JZ lo raw ?_;refine#[s1.heap.objs.size,[s1.heap.objs.size],_,_,H1,Y,I1.kept (t':=s1.toks) λb o e=>aeS _ e,VS a _ o kvs (afa raw.lt),#[es,ep,hd,afi _,_,aeZ _ Y,Y,Y],λb hb=>?_,q hk];have e:b=s1.heap.objs.size:=by simpa using hb
 subst e;exact I1.jx (aeV _) (I1.aB.fresh (aeV _))
theorem VT:kP (CF tl) g tb D J H=tl J H (λx H1=>∃ a o kvs,x = .ref a/\H1 a=U (.aN o (.dT kvs))/\(kh H1 (ff o) kvs->FJ (vf a o kvs) g tb D J H1)):=rfl
theorem KY(Pv:Nat->L2.St->Hp->Prop)(hk:ff o=xs)(vh:xs.length=kvs.length)(h0:Pv 0 J H)(hl:∀ i J H,i<=xs.length->Pv i J H->H a=U (.aN o (.dT kvs)))(hs:∀ i x J H,xs[i]?=U x->Pv i J H->g x J H λσ2 H2=>tb { D with nx:=Pv (i+1),ct:=Pv (i+1),bk:=D.nx } σ2 H2)(hd:∀ J H,Pv xs.length J H->D.nx J H):FJ (vf a o kvs) g tb D J H:=by
 refine#[λi m J H=>m=xs.length-i/\i<=xs.length/\Pv i J H,#[xs.length,by simp,afi _,h0],?_];rintro i m J H ⟨rfl,hi,p⟩;have q:=hl i J H hi p;by_cases a8:i<xs.length
 .refine .inr #[#[q,by lia],Pv (i+1),λσ' H' p'=>#[xs.length-(i+1),by lia,Y,a8,p'],λx H' y=>?_];obtain⟨e,y⟩:=y;subst e;rw[hk] at y;exact hs i x J _ y p
 .have e:i=xs.length:=by lia
  subst e;exact .inl #[#[q,by lia],hd J H p]
theorem CH(hk:ff o=xs)(vh:xs.length=kvs.length):uM (vf a o kvs) (λH=>H a=U (.aN o (.dT kvs))) xs :=
 #[λi z z h e=>#[h,by have:=(aeW.mp e).1;lia],λi z z z z y=>#[y.1,λz=>hk ▸ y.2],λi z h hi=>#[h,by lia]]
end
theorem yL(e:H a=U u)(h:H p=U v)(ne:v≠u):upd H a w p=U v:=by rw[aI (rg h e ne)];exact h
section
theorem yM(e:H0 a=U (.dT kvs))(s:ah (upd H0 a (.aN o (.dT kvs))) H1):ah H0 (upd H1 a (.dT kvs)):=λb u h=>by
 by_cases hb:b=a
 .subst hb;rw[e] at h;cases h;exact ar
 .rw[aI hb];exact s b u (by rw[aI hb];exact h)
theorem sy(e:H a=U (.dT kvs))(h:H p=U (.tup xs)):upd H a u p=U (.tup xs):=yL e h λz=>nomatch z
theorem VU(e:H a=U (.dT kvs))(h:H p=U (.lst xs)):upd H a u p=U (.lst xs):=yL e h λz=>nomatch z
theorem VV(e:H a=U (.aN o (.dT kvs)))(h:H p=U (.lst xs)):upd H a u p=U (.lst xs):=yL e h λz=>nomatch z
theorem aQ.aN(h:aQ H v x y)(e:H a=U (.dT kvs)):aQ (upd H a u) v x y:=let ⟨t,e1,h1⟩:=h;#[t,e1,sy e h1]
theorem bF.aN(h:bF H kvs tb)(e:H a=U (.dT kvs)):bF (upd H a u) kvs tb:=h.imp λy y y z=>z.aN e
theorem KZ{K:aeN}{xs:List V}(e:H a=U (.dT kvs))(h:ai K H p xs):ai K (upd H a (.aN o (.dT kvs))) p xs:=by
 rcases h with (h|⟨z,h⟩)|h
 .exact .inl (.inl (VU e h))
 .exact .inl (.inr #[z,yL e h λz=>nomatch z])
 .exact .inr h
end
theorem fM.z(e:H a=U (.aN o (.dT kvs)))(eb:H b=U (.tup (k.map kV))):fM H a (.ref b) (ig kvs k):=.inr #[kvs,k,b,.inr #[o,e],Y,eb,Y]
noncomputable def cg(tb:Tb)(i:Int):List Mk:=((nU tb).filter λr=>decide (r.1.1=i)).map λr=>(r.1.2.toNat,r.2)
theorem pO:k∈cg tb i ↔ ∃ r∈tb,r.1.1=i/\k=(r.1.2.toNat,r.2):=by
 unfold cg;rw[aeY];constructor
 .rintro ⟨r,hr,rfl⟩;obtain⟨h1,h2⟩:=afr.mp hr;exact#[r,u6 h1,by simpa using h2,Y]
 .rintro ⟨r,hr,hn,rfl⟩;exact#[r,afr.mpr #[pN.mem_iff.mpr hr,by simpa using hn],Y]
noncomputable def dU(cs:List Int)(t:Nat):Int:=cs.getD t 0
theorem K0(h:t<cs.length):(cs.map V.int)[t]?=U (V.int (dU cs t)):=by rw[ae5,aeQ h];unfold dU;rw[aeP,aeQ h];rfl
section
end
end Gz
namespace Gz
open PySem
theorem slot1{t:am6}{q:Nat}(hp:t.place = (List.toArray [q]))(hd:t.dummies = (List.toArray []))(j:Nat):t.slot j=if q=j then .live 0 else .empty:=by
 unfold am7 ajj;rw[hp,hd];simp only[SetTable.below,agu,ae3,afD,ahA];by_cases h:q<j
 .have:q≠j:=by lia
  simp[h,this]
 .by_cases e:q=j<;>simp[h,e]
theorem K1(hp:t.place = (List.toArray [q]))(hd:t.dummies = (List.toArray []))(hm:t.mask=7)(hf:∀ i,(f i == h)=false) :
 ∀ (n m:Nat) (p:SetTable.Probe),p.more=0->p.j=p.i->p.dummy=O->p.perturb<32 ^ n->p.i<=7->∃ j,j≠q/\ahd t f h (n+(m+2)) p=U (.empty j O)
 | n,m,⟨j,mo,i,pe,du⟩,h1,h2,h3,h4,h5=>by
  dsimp only at h1 h2 h3 h4 h5;subst h1 h3;obtain rfl:i=j:=h2.symm;have ad:t.advance #[i,0,i,pe,O]=#[(i * 5+1+pe / 32) % 8,0,(i * 5+1+pe / 32) % 8,pe / 32,O]:=by simp[SetTable.advance,SetTable.leap,hm,amy]
  have le:(i * 5+1+pe / 32) % 8<=7:=by lia
  by_cases e:q=i
  .cases n with
   | zero =>
    have z:(i * 5+1+pe / 32) % 8≠q:=by lia
    refine#[_,z,?_];rw[show 0+(m+2)=(m+1)+1 by lia,ahd,slot1 hp hd,if_pos e];simp only[hf,afn,if_false];rw[ad,ahd,slot1 hp hd,if_neg (afR z)]
   | succ n =>
    obtain⟨j,j1,j2⟩:=K1 hp hd hm hf n m #[_,0,_,pe / 32,O] Y Y Y (by dsimp only;rw[Nat.pow_succ] at h4;exact Nat.div_lt_of_lt_mul (by lia)) le;refine#[j,j1,?_];rw[show n+1+(m+2)=(n+(m+2))+1 by lia,ahd,slot1 hp hd,if_pos e];simp only[hf,afn,if_false];rw[ad];exact j2
  .refine#[i,afR e,?_];rw[show n+(m+2)=(n+m+1)+1 by lia,ahd,slot1 hp hd,if_neg e]
structure je(t:am6)(L:List (Nat × Int × aeX)):Prop where
 pl:t.place=(L.map (·.1)).toArray
 du:t.dummies = (List.toArray [])
 ma:t.mask=7
 sh:L=[]∨(∃ a,L=[a]) ∨ ∃ a b,L=[a,b]/\a.1<b.1
section
theorem je.fits(k:je t L):t.fits (L.map (·.2)).toArray.size=true:=by obtain⟨h1,h2,h3,h4⟩:=k;rcases h4 with rfl|⟨a,rfl⟩|⟨a,b,rfl,y⟩<;>simp[SetTable.fits,aj0,h1,h2,h3]
theorem je.zero(k:je t L):SetTable.below t.place 0=0:=by obtain⟨h1,h2,h3,h4⟩:=k;rcases h4 with rfl|⟨a,rfl⟩|⟨a,b,rfl,y⟩<;>simp[h1,SetTable.below,agu]
theorem je.next(k:je t L)(hi:i<L.length):SetTable.below t.place (L[i].1+1)=i+1:=by
 obtain⟨h1,h2,h3,h4⟩:=k;rw[h1];rcases h4 with rfl|⟨a,rfl⟩|⟨a,b,rfl,z⟩
 .cases hi
 .obtain rfl:i=0:=by simpa using hi
  simp[SetTable.below,agu]
 .match i,hi with
  | 0,_ =>
   have:¬ b.1<a.1+1:=by lia
   simp[SetTable.below,agu,this]
  | 1,_=>simp[SetTable.below,agu]
theorem je.free(k:je t L)(hl:L.length<=1)(h:Int):∃ j,t.freeSlot h=U (j,false)/\j∉L.map (·.1):=by
 obtain⟨h1,h2,h3,h4⟩:=k;rcases h4 with rfl|⟨a,rfl⟩|⟨a,b,rfl,y⟩
 .refine#[SetTable.bits h % 8,?_,λhx=>nomatch hx];simp[alM,amK,amL,ai6,h3,ahd,am7,ajj,h1,h2,SetTable.below,agu]
 .have bt:SetTable.bits h<2 ^ 64:=by unfold SetTable.bits;lia
  obtain⟨j,j1,j2⟩:=K1 (q:=a.1) h1 h2 h3 (f:=λy=>h+1) (h:=h) (λy=>by simp;lia) 13 205 (t.probeStart h) (by simp[ai6,h3,amy]) Y Y (afm bt (by decide)) (by simp only[ai6,h3];lia);refine#[j,?_,by simpa using j1];unfold alM amK amL;rw[h3,j2];rfl
 .simp at hl
theorem je.put(k:je t L)(hl:L.length<=1)(hj:j∉L.map (·.1))(h:Int)(x:aeX) :
 ∃ t' p L',t.put j=(t',p)/\je t' L'/\aiq (L.map (·.2)).toArray p (h,x)=(L'.map (·.2)).toArray/\t'.led=t.led/\t'.plain=t.plain/\t'.fill=L.length+1/\L'.Perm ((j,h,x)::L):=by
 obtain⟨h1,h2,h3,h4⟩:=k;rcases h4 with rfl|⟨a,rfl⟩|⟨a,b,rfl,y⟩
 .refine#[_,_,[(j,h,x)],Y,#[?_,?_,h3,.inr (.inl #[_,Y])],?_,Y,Y,?_,.refl _]<;>simp[aj0,ajj,aiq,h1,h2,SetTable.below,agu]
 .have hj:j≠a.1:=by simpa using hj
  by_cases z:a.1<j
  .refine#[_,_,[a,(j,h,x)],Y,#[?_,?_,h3,.inr (.inr #[_,_,Y,z])],?_,Y,Y,?_,.swap _ _ _]<;>simp[aj0,ajj,aiq,h1,h2,SetTable.below,agu,z]
  .refine#[_,_,[(j,h,x),a],Y,#[?_,?_,h3,.inr (.inr #[_,_,Y,show j<a.1 by lia])],?_,Y,Y,?_,.refl _]<;>simp[aj0,ajj,aiq,h1,h2,SetTable.below,agu,z]
 .simp at hl
end
end Gz
namespace Gz
open PySem PySem.Spec PyProof.Rows L2
theorem K2:Manifest.owners.lookup (String.ofList ['r','o','t','a','r','e','t','i','_','t','e','s'].reverse)=U Manifest.sig_set_iterator:=by kernel_rfl
theorem sA:Slot "set_iterator" "__next__" "set_iterator.__next__" :=
 .of (owner := "set_iterator") (n := "__next__") (by rw[aia,ag2];kernel_rfl) (by decide +kernel) (by decide +kernel) (by decide +kernel)
  (by first|exact .inl (by decide +kernel)|exact .inr (by decide +kernel)) (by rw[akV];kernel_rfl)
theorem K3:ajh table "set_iterator.__next__" = U ahq.«set_iterator.__next__»:=entryFor_of_tree (by kernel_rfl)
theorem K4(a:aeX):aks "set_iterator.__next__" #[[a],[]]:=by unfold aks;rw[signature?_of (id := "set_iterator.__next__") (n:=['_','_','t','x','e','n','_','_']) (o:=['r','o','t','a','r','e','t','i','_','t','e','s']) (by kernel_rfl) K2];kernel_rfl
theorem VW:ajh table "set.__iter__" = U ahq.«frozenset.__iter__» :=
 entryFor_alias (id' := "frozenset.__iter__") (by kernel_rfl) (by first|rfl|decide +kernel) (by decide +kernel) (by kernel_rfl)
section
theorem VX(hT:s.TypeIs (.ref d) "set")(q:Q false s):afe (model prog w) A (ahD (.ref d)) Q E s:=by
 unfold ahD;refine aeM (ahB hT PySem.F.slot_set_len.lookup ?_);generalize hid:("set.__len__" : String)=VY
 wp_delta
 rw[show splitId VY=U ("set","__len__") from by subst hid;decide +kernel];subst hid;refine aeM (ahm (T := "set") (b:=true) hT (by rw[akV];kernel_rfl) ?_);refine aib (λiH=>absurd iH (by decide)) (λy=>?_);refine aib (λy=>?_) (λiH=>absurd (by decide +kernel) iH);refine aeM (akr hT ?_);exact aeR q
theorem K5:afC "set" = U (.type "set"):=by decide +kernel
end
def ki(h:ag3)(a:ae0)(p:P2):Prop:=∃ o t u n,h.get? a=U o/\o.cls = .type "tuple" /\ o.data = .seq (List.toArray [.int p.1 t,.int p.2 u]) n
theorem ki.keep(x:ki h a p)(k:∀ o,h.get? a=U o->h'.get? a=U o):ki h' a p:=let ⟨o,t,u,n,e,r⟩:=x;#[o,t,u,n,k o e,r]
section
theorem K6(h:Q (.bool (decide (x<y))) s):afe (model prog w) A (ajS .Lt (.int x t) (.int y u)) Q E s :=
 richCompare_gives (op:=.Lt) (amT s _ t) (amT s _ u) PySem.F.slot_int_lt PySem.F.entry_int_lt (PySem.F.args_int_lt_2 _ _) (gives_int_lt _ _ t u) (λx=>nomatch x) h
theorem yN(ha:ki s.heap a p)(hb:ki s.heap b q)(hu:A.units<aka)(h:Q (.bool (gM p q)) s):afe (model prog w) A (ajS .Lt (.ref a) (.ref b)) Q E s:=by
 obtain⟨oa,t1,u1,n1,vk,hca,hda⟩:=ha;obtain⟨ob,t2,u2,n2,hob,hcb,f6⟩:=hb;have Ta:s.TypeIs (.ref a) "tuple" := #[oa,vk,hca];have Tb:s.TypeIs (.ref b) "tuple" := #[ob,hob,hcb];refine wpAny_richCompare_same_room Ta Tb aky (af9 aky Ta PySem.F.entry_tuple_lt ?_ (PySem.F.args_tuple_lt_2 _ _)) hu;show afe _ _ (isInstance (.ref b) (.type "tuple") >>= _) _ _ s;refine aeM (ahm Tb isSubtype_tuple_tuple ?_);simp only[aiO,afn,if_false];refine aeM (alq vk hda ?_);refine aeM (alq hob f6 ?_);refine aeM ?_;refine al4 _ (λrest r s'=>r.1=O/\s'=s/\(rest=[(.int p.1 t1,.int q.1 t2),(.int p.2 u1,.int q.2 u2)]∨(rest=[(.int p.2 u1,.int q.2 u2)]/\p.1=q.1)∨(rest=[]/\p.1=q.1/\p.2=q.2))) _ ?_ ?_ _ _ #[Y,Y,.inl rfl]
 .rintro ⟨u,v⟩ rest r s' ⟨hr,rfl,hz⟩;rcases hz with hz|⟨hz,e1⟩|⟨hz,y⟩
  .cases hz;refine aeM (aj2 ?_);by_cases e:p.1=q.1
   .rw[show (p.1 == q.1)=true by simpa using e];simp only[aiO,afn,if_false];exact aeR #[Y,Y,.inr (.inl #[trivial,e])]
   .rw[show (p.1 == q.1)=false by simpa using e];simp only[amM,if_true];refine aeM (akH (aeM (K6 (aeM (aeR (aeR (aeR #[_,Y,λz=>(nomatch z),?_])))))));have e2:gM p q=decide (p.1<q.1):=by unfold gM;rw[decide_eq_false e];simp
    rw[<- e2];exact h
  .cases hz;refine aeM (aj2 ?_);by_cases e:p.2=q.2
   .rw[show (p.2 == q.2)=true by simpa using e];simp only[aiO,afn,if_false];exact aeR #[Y,Y,.inr (.inr #[trivial,e1,e])]
   .rw[show (p.2 == q.2)=false by simpa using e];simp only[amM,if_true];refine aeM (akH (aeM (K6 (aeM (aeR (aeR (aeR #[_,Y,λz=>(nomatch z),?_])))))));have e2:gM p q=decide (p.2<q.2):=by unfold gM;rw[e1];simp
    rw[<- e2];exact h
  .cases hz
 .rintro ⟨r1,r2⟩ s' ⟨hr,rfl,hz⟩;simp only at hr;subst hr;rcases hz with hz|⟨hz,y⟩|⟨y,e1,e2⟩
  .cases hz
  .cases hz
  .refine aeR #[_,Y,λz=>(nomatch z),?_];have e3:gM p q=false:=by unfold gM;rw[e1,e2];simp
   rw[e3] at h;exact h
theorem VZ(hh:A.handled=O)(ha:ki s.heap a p)(hb:ki s.heap b q)(hu:A.in1.units<aka)(h:∀ h' tk,(∀ c o,s.heap.get? c=U o->h'.get? c=U o)->Q (.ref (if gM q p=true then b else a)) { s with heap:=h',toks:=tk }):afe (model prog w) A (call (.builtin "min") [.ref a,.ref b]) Q E s:=by
 have nm:(toString "min" ++ toString ".loop" : String) = "min.loop" := by decide
 refine call_function_tree al1 alG alH (PySem.F.args_min2 _ _) ?_;show afe _ A.in1 (agT "min" ["key","default"] 0 #[[],[]] >>= _) _ _ s;refine aeM (ajU (show agT "min" ["key","default"] 0 #[[],[]]=pure [O,O] from Y) ?_);show afe _ A.in1 (am4 [.ref a,.ref b] >>= _) _ _ s;refine aeM (afI ?_);have hT:(s.heap.push { cls:=.type "tuple",data:=.seq (List.toArray [.ref a,.ref b]) }).IsTuple s.heap.objs.size (List.toArray [.ref a,.ref b]):=#[_,aeZ _ Y,Y,0,Y]
 refine aeM (aje hT ?_);show afe _ A.in1 (anz [] >>= _) _ _ _;refine aeM (afI ?_);generalize e1:s.heap.push { cls:=.type "tuple",data:=.seq (List.toArray [.ref a,.ref b]) }=h1 at hT;have z1:h1.objs.size=s.heap.objs.size+1:=by rw[<- e1];exact ag4 ..
 have k1:∀ c o,s.heap.get? c=U o->h1.get? c=U o:=λc o e=>by rw[<- e1];exact aeS _ e
 dsimp only;generalize e2:h1.push { cls:=.type "tuple_iterator",data:=.fields (List.toArray [.ref s.heap.objs.size,.int 0 0]) }=h2;have z2:h2.objs.size=h1.objs.size+1:=by rw[<- e2];exact ag4 ..
 have k2:∀ c o,h1.get? c=U o->h2.get? c=U o:=λc o e=>by rw[<- e2];exact aeS _ e
 have W:=Walks.tuple (prog:=prog) (w:=w) (A:=A.in1) hh h1.objs.size s.heap.objs.size (by rw[z1];exact afa (af7 _)) (List.toArray [.ref a,.ref b]);have BJ:h2.IsTupleIter h1.objs.size s.heap.objs.size 0/\h2.IsTuple s.heap.objs.size (List.toArray [.ref a,.ref b]):=#[#[_,by rw[<- e2];exact aeZ _ Y,Y,Y],by rw[<- e2];exact hT.push _]
 have zs:h2.objs.size∉[h1.objs.size,s.heap.objs.size]:=λz=>by
  simp only[ae2,agC,or_false] at z;rcases z with z|z
  .rw[z2] at z;exact al5 _ z
  .rw[z2,z1] at z;exact absurd z (by intro z;have:s.heap.objs.size<s.heap.objs.size+1+1:=ahe (af7 _);rw[z] at this;exact agk _ this)
 have nS:h2.objs.size∉[h1.objs.size]:=λz=>zs (by simp at z;simp[z]);have up:∀ c o,s.heap.get? c=U o->c∉[h1.objs.size]/\c≠h2.objs.size/\(h2.push { cls:=.type "list",data:=.seq (List.toArray []) }).get? c=U o:=λc o e=>by have l1:=aeU (k1 c o e);have l2:=aeU (k2 c o (k1 c o e));exact#[λz=>by simp at z;rw[z] at l1;exact agk _ l1,afa l2,aeS _ (k2 c o (k1 c o e))]
 let G:ag3->Prop:=λh=>ki h a p/\ki h b q;have b0:∀ (x:ae0) (r:P2),ki s.heap x r->x∉[h1.objs.size]/\x≠h2.objs.size:=λx r hx=>by obtain⟨o,y,y,y,e,y⟩:=hx;exact#[(up x o e).1,(up x o e).2.1]
 have hG:∀ h h',G h->(∀ b o,b∉[h1.objs.size]->b≠h2.objs.size->h.get? b=U o->h'.get? b=U o)->G h':=λh h' g k=>#[g.1.keep λo e=>k a o (b0 a p ha).1 (b0 a p ha).2 e,g.2.keep λo e=>k b o (b0 b q hb).1 (b0 b q hb).2 e]
 let bt:Nat->Nat->Bool:=λi j=>gM (if i=0 then p else q) (if j=0 then p else q);have K7:∀ i v,((List.toArray [aft a,aft b]):Array aeX)[i]?=U v->(i=0/\v = .ref a)∨(i=1/\v = .ref b):=λi v e=>by
  match i,e with
  | 0,e=>cases e;exact .inl #[Y,Y]
  | 1,e=>cases e;exact .inr #[Y,Y]
  | i+2,e=>simp at e
 have uN:∀ i j vi vj (s:ae4) (Q:aeX->ae4->Prop) (E:aeX->ae4->Prop),((List.toArray [aft a,aft b]):Array aeX)[i]?=U vi->((List.toArray [aft a,aft b]):Array aeX)[j]?=U vj->G s.heap->Q (.bool (bt i j)) s->afe (model prog w) A.in1 (ajS .Lt vi vj) Q E s:=by
  intro i j vi vj s Q E ei ej g hq;rcases K7 i vi ei with ⟨rfl,rfl⟩|⟨rfl,rfl⟩<;>rcases K7 j vj ej with ⟨rfl,rfl⟩|⟨rfl,rfl⟩
  .exact yN g.1 g.1 hu hq
  .exact yN g.1 g.2 hu hq
  .exact yN g.2 g.1 hu hq
  .exact yN g.2 g.2 hu hq
 have g0:G (h2.push { cls:=.type "list",data:=.seq (List.toArray []) }):=#[ha.keep λo e=>(up a o e).2.2,hb.keep λo e=>(up b o e).2.2]
 have oS:(h2.push { cls:=.type "list",data:=.seq (List.toArray []) }).get? h2.objs.size=U { cls:=.type "list",dict:=O,data:=.seq (List.toArray []) 0,slots:=(List.toArray []) }:=aeZ _ rfl;have rO:=W.frame 0 h2 (h2.push { cls:=.type "list",data:=.seq (List.toArray []) }) BJ λb y o q=>aeS _ q;rw[nm];refine aeR #[agM agX _,?_];refine agb aif ?_;rw[afK agX _];show afe _ A.in1 (alg (.ref h2.objs.size) >>= _) _ _ _;refine aeM (ahQ oS Y ?_);show afe _ A.in1 (tryCatch (ahN (.ref h1.objs.size)) _ >>= _) _ _ _;refine aeM (ahR (W.item 0 _ _ _ (by simp) rO λv h3 tk pv i3 kp=>?_));have ke:=kp _ _ nS oS;show afe _ A.in1 (ajD h2.objs.size (λy=>(List.toArray [v,v])) >>= _) _ _ _;refine aeM ?_;refine agS ke Y ?_;rw[nm];have g3:G h3:=hG _ _ g0 λb o hw y e=>kp b o hw e;refine aeR #[agM agX _,(IY (by decide) aif agX) W hG uN zs 1 0 _ v _ (by simp) (W.frame _ _ _ i3 λb hf o e=>?_) (hG _ _ g3 λb o y nN e=>(aff _ _ (afR nN)).trans e) pv (afE _ ke Y) λv2 h4 V0 p4 k4=>?_]
 .exact (aff _ _ (λz:h2.objs.size=b=>zs (by rw[z];exact hf))).trans e
 .have ev:v2 = .ref (if gM q p=true then b else a):=by
   have e4:((List.toArray [aft a,aft b]):Array aeX)[aiI bt 1]?=U v2:=by simpa using p4
   have Cr:aiI bt 1=if gM q p=true then 1 else 0:=by show (if bt 1 0 then 1 else 0)=_;rfl
   rw[Cr] at e4;by_cases hl:gM q p=true
   .rw[if_pos hl] at e4 ⊢;cases e4;rfl
   .rw[if_neg hl] at e4 ⊢;cases e4;rfl
  subst ev;refine h h4 V0 λc o e=>?_;obtain⟨u1,u2,u3⟩:=up c o e;exact k4 c o u1 u2 ((aff _ _ (afR u2)).trans (kp c o u1 u3))
def K8(H:Hp)(Q:VK)(xs:List V):Prop:=∃ (a b:ae0) (p q:P2),xs=[.ref a,.ref b]/\H a=U (.tup [.int p.1,.int p.2])/\H b=U (.tup [.int q.1,.int q.2])/\Q (.ref (if gM q p=true then b else a)) H
theorem V1(hc:X.calm=true)(hu:X.A.units+1<aka):fY X (.builtin "min") (λxs H Q=>K8 H Q xs):=by
 intro pins s J H xs us Q I r h;obtain⟨a,b,p,q,rfl,ha,hb,hq⟩:=h;obtain⟨u,v,rfl,ru,rv⟩:=vals2 r;cases ru;cases rv;have pr:∀ (x:ae0) (r:P2),H x=U (.tup [.int r.1,.int r.2])->ki s.heap x r:=λx r hx=>by
  obtain⟨y,aw,hv,hi⟩:=(show b9 X.prog X.w H s.heap x (.tup [.int r.1,.int r.2]) from I.aB x _ hx)
  obtain⟨u1,u2,rfl,⟨t1,rfl⟩,⟨t2,rfl⟩⟩:=vals2 hv;obtain⟨o,ho,bw,n,hd⟩:=hi;exact#[o,t1,t2,n,ho,bw,hd]
 exact VZ (I.ok.hd hc) (pr a p ha) (pr b q hb) (show X.A.units+1<aka from hu) λh' tk k=>#[.ref _,H,I.kept k,Y,hq]
end
section
end
section
def K9(vs:List aeX)(kis:List (List Int))(i:Nat):Prop:=∃ x t,vs[i]?=U (.int x t)/\kis.getD i []=[x]
theorem V2(hk:∀ i,i<vs.length->K9 vs kis i):yy prog w h vs kis:=λh2=>by
 refine#[oneType',λA E s e=>#[λQ q=>PySem.W.kas_kind (T:=.type "int") h2 (λv hv=>?_) (by decide) (by decide) q,λi j hi hj C q=>?_]]
 .obtain⟨i,hi,rfl⟩:=ak3 hv;obtain⟨x,tt,e,y⟩:=hk i hi;rw[aeQ hi] at e;rw[Option.some.inj e];exact PySem.W.Looks.now
 .obtain⟨x1,t1,a1,l1⟩:=hk i hi;obtain⟨x2,t2,a2,l2⟩:=hk j hj;rw[aeP,aeP,a1,a2];refine PySem.W.kat_lt_int (cast (congrArg (λb=>C b s) ?_) q);unfold dQ;rw[l1,l2,HT.rE];by_cases e:x1=x2
  .rw[if_pos e,e];simp[HT.lexLt]
  .rw[if_neg e]
theorem V3(hl:kis.length=vs.length)(gf:vs.length<64)(hk:∀ i,i<vs.length->K9 vs kis i)(uZ:∀ (A':agD) (Q':List aeX->ae4->Prop) (E':aeX->ae4->Prop),A'.handled=A.handled->(∀ h' tk,(∀ b o,s.heap.get? b=U o->h'.get? b=U o)->s.heap.objs.size<=h'.objs.size->Q' vs { s with heap:=h',toks:=tk })->afe (model prog w) A' (collect (.ref r)) Q' E' s)(q:∀ l h' tk,s.heap.objs.size<=l->(∀ b o,s.heap.get? b=U o->h'.get? b=U o)->(∃ c,h'.get? l=U (ahw "list" (ag1 ((dC (dQ kis) vs.length).toList.map λi=>vs.getD i Value.none)) c))->Q (.ref l) { s with heap:=h',toks:=tk }) :
 afe (model prog w) A (call (.builtin "sorted") [.ref r]) Q E s:=J9 hl gf (λg y=>V2 hk) uZ q
end
noncomputable def pP(w:agn):Bool:=!(w.params.followText "set-order")
section
noncomputable abbrev kj(w:agn):Obj:={ cls:=.type "set",dict:=O,data:=.set (List.toArray []) 0 (.fresh 0 0 (pP w)) }
theorem V4(a:aeX)(h:Q₁ (.ref s.heap.objs.size) { s with heap:=s.heap.push (kj w) }) :
 ahY (model prog w) A (.call (.builtin "set.__new__") #[[.type "set",a],[]]) (wants Q₁ E) s:=by
 refine amz (show afe _ A.in1 (do al0 "set.__new__" #[[.type "set",a],[]];again (.builtin "set.__new__" #[[.type "set",a],[]])) _ _ s from ?_);refine aeM (ajU (PySem.F.newCall_set_1 a) (aeR #[agM akz _,agb PySem.F.entry_set_new ?_]));rw[afK akz _];unfold ahq.«set.__new__» Builtin.Frozenset.newClass;have yO:=PySem.sub_set_self;obtain⟨hp,g,d,tk,os⟩:=s;dsimp only;wp_walk;refine ahX (aeR ?_);dsimp only;simp only[newObj];exact aeM (wpAny_alloc (aeR (aeR h)))
theorem V5{h:ag3}{S:ae0}{o:Obj}{es es':Array (Int × aeX)}{ep:Nat}{t t':am6}(g1:h.get? S=U o)(g3:o.data = .set es ep t) :
 (h.update S (amY es' t')).get? S=U { o with data:=.set es' (ep+1) t' }:=by
 have:=afE (amY es' t') g1 (by rw[putSet_of es' t' g3];rfl);rw[putSet_of es' t' g3] at this;exact this
theorem La:∀ {xs:List α} {l:List β},l.Perm (xs.map f)->∃ ys:List α,l=ys.map f/\ys.Perm xs:=by
 intro xs l h;generalize hz:xs.map f=z at h
 induction h generalizing xs with
 | nil=>exact#[[],Y,by cases xs with|nil=>exact .nil|cons=>cases hz]
 | @cons a l1 l2 p ih =>
  cases xs with
  | nil=>cases hz
  | cons x xs =>
   obtain⟨e1,e2⟩:=List.cons.inj hz;obtain⟨ys,rfl,q⟩:=ih e2;exact#[x::ys,by rw[<- e1];rfl,q.cons x]
 | swap a b l =>
  cases xs with
  | nil=>cases hz
  | cons x xs =>
   cases xs with
   | nil=>simp at hz
   | cons y xs =>
    simp only[ae7,List.cons.injEq] at hz;obtain⟨e1,e2,e3⟩:=hz;exact#[y::x::xs,by simp[e1,e2,e3],.swap x y xs]
 | trans p q BX BY =>
  obtain⟨ys,e,r⟩:=BY hz;obtain⟨zs,e',r'⟩:=BX e.symm;exact#[zs,e',r'.trans r]
end
theorem Lb:Slot "set_iterator" "__iter__" "set_iterator.__iter__" :=
 .of (owner := "set_iterator") (n := "__iter__") (by rw[aia,ag2];kernel_rfl) (by decide +kernel) (by decide +kernel) (by decide +kernel)
  (by first|exact .inl (by decide +kernel)|exact .inr (by decide +kernel)) (by rw[akV];kernel_rfl)
theorem V6:ajh table "set_iterator.__iter__" = U ahq.«dict_keyiterator.__iter__» :=
 entryFor_alias (id' := "dict_keyiterator.__iter__") (by kernel_rfl) (by first|rfl|decide +kernel) (by decide +kernel) (by kernel_rfl)
theorem V7(a:aeX):aks "set_iterator.__iter__" #[[a],[]]:=by unfold aks;rw[signature?_of (id := "set_iterator.__iter__") (n:=['_','_','r','e','t','i','_','_']) (o:=['r','o','t','a','r','e','t','i','_','t','e','s']) (by kernel_rfl) K2];kernel_rfl
theorem Lc(f:Nat->Nat):∀ (n k:Nat) (left:List α) (out:Array α),left.length=n->(pickOrder.go f n k left out).toList.Perm (out.toList++left)
 | 0,k,left,out,h=>by obtain rfl:left=[]:=ahj.mp h;unfold pickOrder.go;simp
 | n+1,k,left,out,h=>by have hl:f k % left.length<left.length:=Nat.mod_lt _ (by lia);unfold pickOrder.go;rw[aeQ hl];refine (Lc f n (k+1) _ _ (by rw[List.length_eraseIdx_of_lt hl];lia)).trans ?_;rw[alN,ajF];refine List.Perm.append_left _ ?_;have:=List.perm_middle (a:=left[f k % left.length]) (l₁:=left.take (f k % left.length)) (l₂:=left.drop (f k % left.length+1));rw[List.eraseIdx_eq_take_drop_succ];refine .trans ?_ (.of_eq (agt (f k % left.length) left));rw[afY hl];exact this.symm
theorem V8(f:Nat->Nat)(xs:Array α):(ano f xs).toList.Perm xs.toList:=by unfold ano;simpa using Lc f xs.size 0 xs.toList (List.toArray []) (by simp)
section
noncomputable def km(w:agn)(S:ae0)(ep:Nat)(es:Array (Int × aeX)):Array (Int × aeX):=if w.params.followText "set-order" then ano (w.params.setOrder S ep) es else es
theorem CI(w:agn)(S:ae0)(ep:Nat)(es:Array (Int × aeX)):(km w S ep es).toList.Perm es.toList:=by
 unfold km;split
 .exact V8 _ _
 .exact .refl _
structure sC(w:agn)(S:ae0)(o:Obj)(ep:Nat)(t:am6)(L:List (Nat × Int × aeX)):Prop where
 cls:o.cls = .type "set"
 dat:o.data = .set (L.map (·.2)).toArray ep t
 tok:je t L
 led:t.led=pP w
 pln:t.plain=true
theorem V9(x:sC w S o ep t L)(h:s.heap.get? S=U o)(q:Q false s):afe (model prog w) A (setDrawn S) Q E s:=by unfold setDrawn amZ;refine aeM (air h x.dat x.tok.fits ?_);dsimp only;refine aeM (aeM (ahX (aeR (aeR ?_))));refine cast (congrArg (λb=>Q b s) ?_) q;symm;rw[akx];right;show (!t.plain && _)=false;rw[x.pln];rfl
noncomputable abbrev CJ(S:ae0)(n ep:Nat)(sl i:Int):Obj:={ cls:=.type "set_iterator",data:=.fields (List.toArray [aie sl,aie i,.ref S,aie n,aie ep]) }
theorem Wa(x:sC w S o ep t L)(h:s.heap.get? S=U o)(hQ:Q (.ref s.heap.objs.size) { s with heap:=s.heap.push (CJ S L.length ep 0 0) }):afe (model prog w) A (ang (.ref S)) Q E s:=by have hT:s.TypeIs (.ref S) "set" := #[o,h,x.cls];refine ajG hT amA (af9 amA hT VW ?_ (F.args_set_iter_1 _));unfold ahq.«frozenset.__iter__»;refine aeM (m:=Builtin.Frozenset.slot0 _ _) (aeR ?_);refine aeM (m:=Builtin.Frozenset.sizeOf _) (aeM (ai7 h x.dat x.tok.fits (aeR ?_)));refine aeM (V9 x h ?_);simp only[afn,if_false];refine aeM (aeR ?_);refine aeM (wpAny_setEpoch_of h x.dat x.tok.fits ?_);refine aeM (afI (aeR #[_,Y,"set_iterator",_,#[_,aeZ _ Y,Y],sA.lookup,?_]));refine cast (congrArg (λb=>Q _ { s with heap:=s.heap.push b }) ?_) hQ;simp[CJ]
theorem Ld(x:sC w S o ep t L)(h:s.heap.get? S=U o)(hb:w.params.followText "set-order" = false->SetTable.below t.place sl=i)(q:∀ fX,(w.params.followText "set-order" = false->i<L.length->SetTable.below t.place fX=i+1)->Q (((km w S ep (L.map (·.2)).toArray)[i]?).map λe=>(e.2,fX)) s):afe (model prog w) A (anA S sl i ep) Q E s:=by
 unfold anA amZ;refine aeM (air h x.dat x.tok.fits ?_);dsimp only;refine aeM (aeM (ahX (aeR ?_)));unfold km at q;cases hf:w.params.followText "set-order" with
 | true =>
  simp only[hf,if_true] at q;rw[if_pos (show (model prog w).w.params.followText "set-order" = true from hf),if_neg (by simp)];unfold setWalk amZ;refine aeM (aeM (air h x.dat x.tok.fits ?_));refine aeM (aeM (ahX (aeR ?_)));rw[if_pos (show (model prog w).w.params.followText "set-order" = true from hf)];exact aeM (ahX (aeR (aeR (q sl (λhz=>nomatch hz)))))
 | false =>
  simp only[hf,afn,if_false] at q;rw[if_neg (show ¬ (model prog w).w.params.followText "set-order" = true from by rw[show (model prog w).w.params.followText "set-order" = false from hf];decide)];refine aib (λz=>absurd (show (!t.plain && _)=true from z) (by rw[x.pln];simp)) (λ_=>?_);have hl:t.led=true:=by rw[x.led];unfold pP;rw[hf];rfl
  refine aeM ?_;show afe _ _ (if (!t.led && !(L.map (·.2)).toArray.isEmpty)=true then _ else pure _) _ _ _;rw[if_neg (by rw[hl];simp)];refine aeR (aeR ?_);rw[hb hf];by_cases hi:i<L.length
  .have e1:(L.map (·.2)).toArray[i]?=U L[i].2:=by simp[hi]
   have e2:t.place[i]?=U L[i].1:=by rw[x.tok.pl];simp[hi]
   have:=q (L[i].1+1) λ_ _=>x.tok.next hi
   rw[e1] at this ⊢;rw[e2];exact this
  .have e1:(L.map (·.2)).toArray[i]?=O:=by simp;lia
   have:=q 0 λ_ hz=>absurd hz hi;rw[e1] at this ⊢;exact this
theorem Wb(hh:A.handled=O)(x:sC w S o ep t L)(bN:S≠I):Walks prog w A I [I,S] [I] L.length (λi v=>((km w S ep (L.map (·.2)).toArray)[i]?).map (·.2)=U v)
 (λi h=>h.get? S=U o/\∃ sl:Nat,h.get? I=U (CJ S L.length ep sl i)/\(w.params.followText "set-order" = false->SetTable.below t.place sl=i)) where
 sub:=λb hb=>by simp at hb;simp[hb]
 frame:=λy y y st hk=>#[hk S (by simp) _ st.1,let ⟨sl,a,b⟩:=st.2;#[sl,hk I (by simp) _ a,b]]
 item:=λi s Q E hi st hQ=>by
  obtain⟨h1,sl,hI,hb⟩:=st;have hT:s.TypeIs (.ref I) "set_iterator" := #[_,hI,Y];have hlen:(km w S ep (L.map (·.2)).toArray).size=L.length:=by have:=(CI w S ep (L.map (·.2)).toArray).length_eq;simpa using this
  have dB:i<(km w S ep (L.map (·.2)).toArray).size:=by lia
  unfold ahN;refine aeM (ah9 (agl (name:=agg "__next__") hT sA
   (af9 sA hT K3 ?_ (K4 _))))
  unfold ahq.«set_iterator.__next__»;refine aeM (aeR (aeM (ahT hI Y ?_)));show afe _ _ (setEntries S >>= _) _ _ _;refine aeM (ai7 h1 x.dat x.tok.fits ?_);refine aib (λz=>absurd z (by simp)) (λy=>?_);show afe _ _ (anA S (akA (sl:Int)) (akA (i:Int)) (akA (ep:Int)) >>= _) _ _ _;rw[afO,afO,afO];refine aeM (Ld x h1 hb λfX mi=>?_);rw[afB dB];dsimp only [Option.map_some];refine aeM (ait hI Y (by simp) ?_);have Le:=afE (ahJ (·.setIfInBounds 0 (aie (fX:Int)))) hI rfl;refine aeM (ait Le Y (by simp[ahJ]) ?_);have Wc:=afE (ahJ (·.setIfInBounds 1 (aie ((i:Int)+1)))) Le rfl;have Lf:∀ (b:ae0) (u:Obj),b≠I->s.heap.get? b=U u->((s.heap.update I (ahJ (·.setIfInBounds 0 (aie (fX:Int))))).update I (ahJ (·.setIfInBounds 1 (aie ((i:Int)+1))))).get? b=U u:=λb u hb e =>
   (aff _ _ (afR hb)).trans ((aff _ _ (afR hb)).trans e)
  refine aeR #[_,Y,aeR (hQ _ _ s.toks (by rw[afB dB];rfl) #[Lf S o bN h1,fX,Wc,λhf=>mi hf hi] λb u hb e=>Lf b u (by simpa using hb) e)]
 done:=λs Q E st hQ=>by
  obtain⟨h1,sl,hI,hb⟩:=st;have hT:s.TypeIs (.ref I) "set_iterator" := #[_,hI,Y];have hlen:(km w S ep (L.map (·.2)).toArray).size=L.length:=by have:=(CI w S ep (L.map (·.2)).toArray).length_eq;simpa using this
  unfold ahN;refine aeM (ah9 (agl (name:=agg "__next__") hT sA
   (af9 sA hT K3 ?_ (K4 _))))
  unfold ahq.«set_iterator.__next__»;refine aeM (aeR (aeM (ahT hI Y ?_)));show afe _ _ (setEntries S >>= _) _ _ _;refine aeM (ai7 h1 x.dat x.tok.fits ?_);refine aib (λz=>absurd z (by simp)) (λy=>?_);show afe _ _ (anA S (akA (sl:Int)) (akA (L.length:Int)) (akA (ep:Int)) >>= _) _ _ _;rw[afO,afO,afO];refine aeM (Ld x h1 hb λfX mi=>?_);rw[ahs (by lia)];show afe _ _ (al8 (.ref I) 2 .none >>= _) _ _ s;refine aeM (ait hI Y (by simp) ?_);show afe _ _ (newExc (.type "StopIteration") [] >>= _) _ _ _;refine aeM ?_;simp only[newExc,am4];refine aeM (afI ?_ (by size_fits));refine aeM (m:=ajr _ _) (ajU (a:=Value.none) (by first|rfl|(simp only[ajr];rfl)) ?_);refine afI ?_ (by size_fits);simp only[raiseNew];refine aeM (wpAny_handled ?_);rw[show A.in1.handled=O from hh];refine aeM (aeR (wpAny_throw ?_));refine aeM (ahm (T := "StopIteration") (b:=true) #[_,aeZ _ Y,Y] akT ?_);refine aeR (hQ _ s.toks λb u hb e=>(((agi ..).extBut.push _).push _) b u (by simpa using hb) e)
 self:=λy s y y st hQ=>by obtain⟨h1,sl,hI,hb⟩:=st;have hT:s.TypeIs (.ref I) "set_iterator" := #[_,hI,Y];refine ajG hT Lb (af9 Lb hT V6 ?_ (V7 _));show afe _ _ (ret (.ref I)) _ _ s;exact aeR #[_,Y,"set_iterator",_,hT,sA.lookup,hQ]
theorem Wd(x:sC w S o ep t L):akU prog w "set" S S L.length (λi v=>((km w S ep (L.map (·.2)).toArray)[i]?).map (·.2)=U v) (λh=>h.get? S=U o) where
 type:=λy h=>#[o,h,x.cls]
 there:=λy h=>#[aeU h,aeU h]
 keep:=λy y h hk=>hk S (.inl rfl) o h
 notList:=by decide
 notTuple:=by decide
 hint:=λy y y y h hq=>VX #[o,h,x.cls] hq
 iter:=λy y hh h=>#[_,_,(λy y hq=>Wa x h hq),Wb hh x (afa (aeU h)),
  #[aeS _ h,0,aeZ _ Y,λy=>x.tok.zero]]
noncomputable abbrev mK(m:Int × ai8):Int × aeX:=(ajP m.1,.int m.1 m.2)
def mL(h:ag3)(S:ae0)(M:List (Int × ai8))(led:Bool):Prop :=
 ∃ o ep t L,h.get? S=U o/\o.cls = .type "set" /\ o.data = .set (L.map (·.2)).toArray ep t/\je t L/\t.led=led/\t.plain=true/\L.map (·.2)=M.map mK
theorem We(prog:afG)(w:agn){M:List (Int × ai8)}:ElemsOf (aiG prog w) (M.map mK):=λe he=>by obtain⟨m,y,rfl⟩:=aeY.mp he;exact#[#[m.1,by simp[aiG,aik],Y],Y]
theorem add_int(hS:mL s.heap S M led)(hlen:M.length<2)(h0:k∈M.map (·.1)->Q false s)(h1:k∉M.map (·.1)->∀ h' M',Heap.SameBut S s.heap h'->mL h' S M' led->M'.Perm ((k,tt)::M)->Q true { s with heap:=h' }) :
 afe (model prog w) A (setAddHashed S (.int k tt) (ajP k)) Q E s:=by
 obtain⟨o,ep,t,L,g1,g2,g3,tk,g4,g5,g7⟩:=hS;have hlM:L.length=M.length:=by have:=congrArg List.length g7;simpa using this
 have vm:ElemsOf (aiG prog w) (L.map (·.2)).toArray.toList:=by rw[ai9,g7];exact We prog w
 unfold setAddHashed setAddHashedIn;refine agr (aeM (air g1 g3 tk.fits ?_));dsimp only;rw[byScan_of (knd:=aiG prog w) Y (by rw[ae3,aeO];unfold scanBound;lia) vm];simp only[if_true];unfold setAddByScan;refine aeM (aeM (akH ?_));refine aeM (wpAny_setScan_of (knd:=aiG prog w) (k:=k) (by simp[aiG,aik]) g1 g3 tk.fits vm ?_);rw[ai9,g7];by_cases bL:k∈M.map (·.1)
 .obtain⟨m,hm,hmk⟩:=aeY.mp bL;cases hf:am8 (λe=>(aiG prog w).is k e.2) (M.map mK) with
  | none =>
   have:=ajs.mp hf (mK m) (aeY.mpr #[m,hm,Y]);rw[<- hmk] at this;simp[aiG,aik] at this
  | some j =>
   dsimp only;exact aeR (aeR (h0 bL))
 .have hf:am8 (λe=>(aiG prog w).is k e.2) (M.map mK)=O:=by refine ajs.mpr λe he=>?_;obtain⟨m,hm,rfl⟩:=aeY.mp he;simp only[aiG,aik];exact beq_eq_false_iff_ne.mpr λz=>bL (aeY.mpr #[m,hm,z])
  rw[hf];dsimp only;obtain⟨j,j0,j1⟩:=tk.free (by lia) (ajP k);obtain⟨t',p,L',p1,p2,p3,p5,p6,p7,hperm⟩:=tk.put (by lia) j1 (ajP k) (Value.int k tt);have Wf:layNew t (M.map mK).toArray (ajP k) (.int k tt)=((L'.map (·.2)).toArray,t',false,false):=by rw[<- g7];unfold layNew;rw[j0];dsimp only;rw[p1,p3];have:=p2.fits;unfold SetTable.orStandIn;rw[this];rfl
  rw[Wf];dsimp only;refine aeM ?_;show afe _ _ (pure ()) _ _ _;refine aeR ?_;rw[p6,g5];simp only[if_true];refine aeM ?_;rw[hashByValue_scannable 8 (show (Value.int k tt).scannable=true from Y)];refine aeR ?_;rw[show plainKind (Value.int k tt)=true from Y];simp only[if_true];have hsz:(L'.map (·.2)).toArray.size<=afl:=by have:=hperm.length_eq;simp at this ⊢;rw[this];exact aeT (show _<=64 by lia) (by decide)
  refine aeM (wpAny_storeSet_of g1 g3 ?_ hsz);have gS:=V5 (es':=(L'.map (·.2)).toArray) (t':=t') g1 g3;have Wg:=agi s.heap S (amY (L'.map (·.2)).toArray t');have sD:(L'.map (·.2)).Perm (((k,tt)::M).map mK):=by refine (hperm.map (·.2)).trans ?_;simp only[ae7,g7];exact .refl _
  have Wh:t'.tooFull=false:=by unfold SetTable.tooFull;rw[p7,p2.ma];simp;lia
  rw[Wh];simp only[akS,afn,if_false];obtain⟨M',e1,e2⟩:=La sD;exact aeR (aeR (h1 bL _ M' Wg #[_,_,t',_,gS,g2,Y,p2,p5.trans g4,p6.trans g5,e1] e2))
def vo(key:Nat->Int)(i:Nat)(M:List (Int × ai8)):Prop :=
 (M.map (·.1)).Nodup/\(∀ m∈M,∃ j,j<i/\m.1=key j)/\(∀ j,j<i->key j∈M.map (·.1))/\M.length<=i
theorem Wi(e:h.get? S=U (kj w)):mL h S [] (pP w) :=
 #[_,0,_,([]:List (Nat × Int × aeX)),e,Y,Y,#[Y,Y,Y,.inl rfl],Y,Y,Y]
theorem Wj{R:alQ->ae4->Prop}{I:ae0}{fp wr:List ae0}{G:Array GenState->Array GenState->Prop}{n:Nat}{P:Nat->aeX->Prop}{St:Nat->ae4->Prop}(W:WalksS prog w A.in1 I fp wr G n P St)(S:ae0)(rP:S∉fp){key:Nat->Int}{led:Bool}(Wk:∀ i v,P i v->∃ tt,v = .int (key i) tt)(hn:n<=2) :
 ∀ (k i:Nat) (s:ae4) (M:List (Int × ai8)),n-i=k->i<=n->St i s->mL s.heap S M led->vo key i M ->
  (∀ s' M',Moved (S::wr) G s s'->mL s'.heap S M' led->vo key n M'->R (.ok (.ret .none)) s') ->
  ahY (model prog w) A (.builtin "set.update.loop" #[[.ref S,.ref I],[]]) R s:=by
 have Lg:S∉wr:=λh=>rP (W.sub _ h);have yO:∀ b∈wr,b∈S::wr:=λb hb=>afJ _ hb;intro k
 induction k with
 | zero =>
  intro i s M hk hi cQ hS hM hR;obtain rfl:i=n:=by lia
  refine agb ahU ?_;rw[afK agN _];refine show afe _ A.in1 (ahN (.ref I) >>= _) _ _ s from aeM (W.done s _ _ cQ λs' hm=>?_);exact show afe _ A.in1 (ret Value.none) _ _ s' from aeR (hR s' M (hm.mono yO) (let ⟨o,ep,t,L,ho,rest⟩:=hS;#[o,ep,t,L,hm.heap S _ Lg ho,rest]) hM)
 | succ k ih =>
  intro i s M hk hi cQ hS hM hR;have a8:i<n:=by lia
  refine agb ahU ?_;rw[afK agN _];refine show afe _ A.in1 (ahN (.ref I) >>= _) _ _ s from aeM (W.item i s _ _ a8 cQ λv s' hP Wl hm=>?_);obtain⟨tt,rfl⟩:=Wk i v hP;have mM:mL s'.heap S M led:=let ⟨o,ep,t,L,ho,rest⟩:=hS;#[o,ep,t,L,hm.heap S _ Lg ho,rest];refine show afe _ A.in1 (holding [Value.int (key i) tt] (setAdd S (.int (key i) tt)) >>= _) _ _ s' from aeM (agr ?_);unfold setAdd;refine agr (aeM ((aiG prog w).pyHash (k:=key i) (by simp[aiG,aik]) ?_));have go:∀ (h':ag3) (M':List (Int × ai8)),Heap.SameBut S s'.heap h'->mL h' S M' led->vo key (i+1) M' ->
   afe (model prog w) A.in1 (again (.builtin "set.update.loop" #[[.ref S,.ref I],[]])) (λfin s'=>match fin with|.done f=>R (.ok f) s'|.again c'=>c'.quiet=true/\ahY (model prog w) A c' R s') (λe s'=>R (.error e) s') { s' with heap:=h',toks:=s'.toks+1 }:=by
   intro h' M' kZ CK Wm;refine aeR #[agM agN _,ih (i+1) _ M' (by lia) a8 (W.frame _ s' _ _ Wl (aiX _) λb hb o e=>?_) CK Wm λuy Wn Wo Wq Wr=>?_]
   .rw[kZ.2 b (λh:b=S=>rP (by rw[<- h];exact hb))];exact e
   .refine hR uy Wn (Moved.trans W.gtrans ((hm.mono yO).then_heap (aiX _) λb o hb e=>?_) Wo) Wq Wr;rw[kZ.2 b (λh:b=S=>hb (by rw[h];exact aht))];exact e
  refine add_int (s:={ s' with toks:=s'.toks+1 }) (M:=M) mM (by have:=hM.2.2.2;lia) (λbL=>?_) (λbL h' M' kZ CK sD=>?_)
  .refine go s'.heap M (Heap.SameBut.refl S s'.heap) mM #[hM.1,λm hm=>?_,λj hj=>?_,by have:=hM.2.2.2;lia]
   .obtain⟨j,hj,e⟩:=hM.2.1 m hm;exact#[j,by lia,e]
   .by_cases e:j=i
    .rw[e];exact bL
    .exact hM.2.2.1 j (by lia)
  .refine go h' M' kZ CK #[((sD.map (·.1)).nodup_iff).mpr (af8.mpr #[bL,hM.1]),λm hm=>?_,λj hj=>?_,by have:=sD.length_eq;have:=hM.2.2.2;simp at *;lia]
   .rcases ae2.mp (sD.mem_iff.mp hm) with rfl|hm
    .exact#[i,by lia,Y]
    .obtain⟨j,hj,e⟩:=hM.2.1 m hm;exact#[j,by lia,e]
   .refine ((sD.map (·.1)).mem_iff).mpr ?_;by_cases e:j=i
    .rw[e];exact aht
    .exact afJ _ (hM.2.2.1 j (by lia))
theorem Ws(hh:A.handled=O)(hl:s.heap.IsList l items)(hn:items.size<=2)(hit:∀ (i:Nat) (v:aeX),items[i]?=U v->∃ tt,v = .int (key i) tt)(h:∀ (h':ag3) (tk:Nat) (M:List (Int × ai8)),mL h' s.heap.objs.size M (pP w)->vo key items.size M->(∀ b o,b<s.heap.objs.size->s.heap.get? b=U o->h'.get? b=U o)->Q (.ref s.heap.objs.size) { s with heap:=h',toks:=tk }) :
 afe (model prog w) A (call (.type "set") [.ref l]) Q E s:=by
 obtain⟨c,tl,hmro⟩:=PySem.F.called_set.mro;have aes:=PySem.F.called_set.made;have yO:=PySem.F.called_set.sub;refine alB (amz (show afe _ _ (callAny (.type "set") _) _ _ _ from aeR #[Code.quiet_builtin _ (by decide +kernel),agb PySem.F.entry_type_call ?_]));rw[Around.under_plain (weight_type_call_type "set" [.ref l] []) Y];have h1:=PySem.F.called_set.notType;have h2:=PySem.F.called_set.canCreate;have hct:=PySem.F.typeCall_set_1 (.ref l);repeat (any_goals (first|assumption|wp_step))
 refine aix (V4 (.ref l) (E:=E) (Q₁:=λobj s₁=>obj = .ref s.heap.objs.size/\s₁ = { s with heap:=s.heap.push (kj w) }) #[Y,Y]) λr s₁ hr=>?_;cases r with
 | error e=>exact hr
 | ok fl =>
  cases fl with
  | ret obj =>
   obtain⟨rfl,rfl⟩:=hr;have gS:(s.heap.push (kj w)).get? s.heap.objs.size=U (kj w):=aeZ _ rfl;have hT:Shared.TypeIs { s with heap:=s.heap.push (kj w) } (.ref s.heap.objs.size) "set" := #[_,gS,Y];have nX:=PySem.F.called_set.init.lookup;have Lh:=PySem.F.called_set.init.bind (.ref s.heap.objs.size)
   repeat (any_goals (first|assumption|wp_step))
   refine aix (akM (R:=wants (λr s₂=>r = .none/\∃ h' tk M,s₂ = { s with heap:=h',toks:=tk }/\mL h' s.heap.objs.size M (pP w)/\vo key items.size M /\
    (∀ b o,b<s.heap.objs.size->s.heap.get? b=U o->h'.get? b=U o)) E) PySem.F.called_set.init.plain PySem.F.entry_set_init (check_set_init_1 hT ?_)) λr₂ s₂ CL=>?_
   .have lt:l<s.heap.objs.size:=let ⟨_,e,_⟩:=hl;aeU e;obtain⟨ol,Li,bw,nl,hdl⟩:=id hl;obtain⟨ocls,odict,odata,oslots⟩:=ol;obtain rfl:ocls = .type "list" := bw;obtain rfl:odata = .seq items nl:=hdl;have Wt:(s.heap.push (kj w)).get? l=U { cls:=.type "list",dict:=odict,data:=.seq items nl,slots:=oslots }:=aeS _ Li;have aet:=PySem.F.sub_list_set;have aeu:=PySem.F.sub_list_frozenset;have bN:(aju "list" == aju "dict")=false:=by decide
    have gO:(s.heap.push (kj w)).IsList l items:=#[_,Wt,Y,nl,Y]
    unfold ahq.«set.__init__» noKeywords Builtin.Frozenset.updateFrom;generalize Wu:ang=PI;wp_walk;subst Wu;refine ail gO (aeM (wpAny_runValue ?_));have Wv:A.in1.in1.in1.handled=O:=by simp[hh]
    have CM:(s.heap.push (kj w)).objs.size=s.heap.objs.size+1:=ag4 _ _;have lI:l≠(s.heap.push (kj w)).objs.size:=by rw[CM];exact afa (ahe lt)
    have SI:s.heap.objs.size∉[(s.heap.push (kj w)).objs.size,l]:=by rw[CM];simp only[ae2,agC,or_false,not_or];exact#[afa (af7 _),af3 lt]
    refine Wj ((Walks.list Wv _ l lI items).toS) s.heap.objs.size SI (key:=key) (led:=pP w) hit hn (items.size-0) 0 _ [] (by lia) (afi _)
     #[#[_,aeZ _ Y,Y,Y],(gO.push _)] (Wi (aeS _ gS))
     #[aiu,λy hx=>(by cases hx),λj hj=>(by lia),afi _] λs' M hm mM hM=>?_
    obtain⟨h',g',d',CN,rC⟩:=s';obtain rfl:g'=s.gens:=hm.gens;obtain rfl:d'=s.drawn:=hm.drawn;obtain rfl:rC=s.os:=hm.os;show afe _ _ _ _ _ _;refine aeR (show afe _ _ (ret Value.none) _ _ _ from aeR #[Y,h',CN,M,Y,mM,hM,λb o hb e=>?_]);refine hm.heap b o ?_ (aeS _ (aeS _ e));simp only[ae2,agC,or_false,not_or,CM];exact#[afa hb,afa (ahe hb)]
   .cases r₂ with
    | error e=>exact CL
    | ok Ww =>
     cases Ww with
     | ret r =>
      obtain⟨rfl,h',tk,M,rfl,mM,hM,iI⟩:=CL
      repeat (any_goals (first|assumption|wp_step))
      exact h _ _ M mM hM iI
     | _=>exact CL.elim
  | _=>exact hr.elim
end
theorem Wx(kis:List (List Int))(ns:List Int):eZ kis V.non (ns.map V.int)=(eZ kis 0 ns).map V.int:=by unfold eZ;rw[afA,aeO];refine agV λi hi=>?_;have hp:=(rX (n:=ns.length) (pC kis)).1;have:i<ns.length:=af1.mp (hp.mem_iff.mp hi);simp[amB,this]
theorem Lj:∀ M:List (Int × ai8),Vals ((M.map (·.1)).map V.int) (M.map λm=>Value.int m.1 m.2)
 | []=>.nil
 | m::M=>.cons #[m.2,Y] (Lj M)
def Ll(K:aeN)(t:TE):TE:=λJ H Q=>t J H λv H1=>∃ (a:ae0) (ns:List Int),v=V.ref a/\ai K H1 a (ns.map V.int)/\ns.length<=2 /\
 ∀ zs:List Int,zs.Nodup->(∀ x,x∈zs↔x∈ns)->zs.Pairwise (· <= ·)->∀ l,H1 l=O->Q (.ref l) (upd H1 l (.lst (zs.map V.int)))
section
theorem Wy(hc:X.calm=true)(he:PE X e t)(pQ:Gl X "sorted")(CO:X.mg "sorted" = O)(sE:afC "sorted" = U (.builtin "sorted"))(vq:Gl X "set")(mO:X.mg "set" = O)(sF:afC "set" = U (.type "set"))(dO:afb [e] X.env=[(false,eval e X.env)]:=by rfl)(vt:afb [.Call (.Name "set" p2) [e] [] iN] X.env=[(false,eval (.Call (.Name "set" p2) [e] [] iN) X.env)]:=by rfl) :
 PE X (.Call (.Name "sorted" p1) [.Call (.Name "set" p2) [e] [] iN] [] pos) (Ll X.K t):=by
 intro pins s J H Q I h;refine ago (gG I pQ CO sE ?_ (by decide) (by decide));refine ahf ?_ (by rw[vt];rfl) rfl;rw[vt];show afe _ _ (spliced ((false,eval (.Call (.Name "set" p2) [e] [] iN) X.env)::agA pos [])) _ _ s;refine agZ ?_;refine ago (gG I vq mO sF ?_ (by decide) (by decide));refine afw ?_ (by rw[dO];rfl) rfl;rw[dO];show afe _ _ (spliced ((false,eval e X.env)::agA iN [])) _ _ s;refine agZ (aF (he pins s J H _ I h) λu s1 zq=>?_);obtain⟨x,H1,I1,r1,q1⟩:=zq;obtain⟨a,ns,rfl,hS,hn,q⟩:=q1;cases r1;refine aha ?_;obtain⟨us,rv,pl,hz⟩:=I1.list hS;have hl:us.length=ns.length:=by have:=rv.length;rw[aeO] at this;lia
 have hint:=intsAre_of rv;refine Ws (items:=us.toArray) (key:=λi=>ns.getD i 0) (I1.ok.hd hc) pl.isList (by simp;lia) (λi v hv=>?_) λh2 tk M Wz hM hk=>?_
 .exact IntsAre.int_at hint i v (by simpa using hv)
 refine aha ?_;obtain⟨o,ep,tb,L,g1,g2,g3,CN,g4,g5,g7⟩:=Wz;have hx:sC X.w s1.heap.objs.size o ep tb L:=#[g2,g3,CN,g4,g5]
 have hsz:us.toArray.size=us.length:=by simp
 rw[hsz] at hM;obtain⟨m1,m2,m3,m4⟩:=hM;have WA:L.length=M.length:=by have:=congrArg List.length g7;simpa using this
 have hp:((km X.w s1.heap.objs.size ep (L.map (·.2)).toArray).toList).Perm (M.map mK):=by have:=CI X.w s1.heap.objs.size ep (L.map (·.2)).toArray;rw[ai9,g7] at this;rw[g7];exact this
 obtain⟨M',e1,e2⟩:=La hp;have aev:M'.length=L.length:=e2.length_eq.trans WA.symm;have dR:(M'.map (·.1)).Nodup:=((e2.map (·.1)).nodup_iff).mpr m1;have WB:=Lj M';refine V3 (s:={ s1 with heap:=h2,toks:=tk }) (kis:=M'.map λm=>[m.1]) (vs:=M'.map λm=>Value.int m.1 m.2) (by simp) (by simp;lia) (λi hi=>?_) (λA' Q' E' hA hq=>?_) λl h' yd k1 k2 k3=>?_
 .have dB:i<M'.length:=by simpa using hi
  exact#[M'[i].1,M'[i].2,by simp[dB],by simp[amB,dB]]
 .refine Ka (s:={ s1 with heap:=h2,toks:=tk }) (Wd hx) (hA.trans (I1.ok.hd hc)) g1 (aeT (show L.length<=64 by lia) (by decide)) λh3 BK acc b1 b2 b3=>?_;have WC:acc.toList=M'.map λm=>Value.int m.1 m.2:=by
   refine ahK λi=>?_;rw[aiD];by_cases hi:i<L.length
   .have dB:i<acc.size:=by rw[b3.1];exact hi
    have Lm:i<M'.length:=by lia
    have:=b3.2 i acc[i] (afB dB);dsimp only at this;have e3:(km X.w s1.heap.objs.size ep (L.map (·.2)).toArray)[i]?=U (mK M'[i]):=by rw[<- aiD,e1];simp[Lm]
    rw[e3] at this;rw[afB dB,<- this];simp[Lm]
   .rw[ahs (by rw[b3.1];lia)];rw[eq_comm,List.getElem?_eq_none_iff];simp only[aeO];lia
  rw[WC];exact hq h3 BK b1 b2
 .refine Ke (s:=s1) (ks:=(M'.map (·.1)).map V.int) (kis:=M'.map λm=>[m.1]) (us:=M'.map λm=>Value.int m.1 m.2) I1 WB ?_ ?_ (λb u e=>k2 b u (hk b u (aeU e) e)) k3 λl' ua=>?_
  .simp only[aeO];exact aeT (show _<=64 by lia) (by decide)
  .exact aeT (aiw (aeU g1)) k1
  .rw[Wx];refine q _ ((rZ.nodup_iff).mpr dR) (λx=>?_) ?_ l' ua
   .rw[rZ.mem_iff,(e2.map (·.1)).mem_iff];constructor
    .intro iI;obtain⟨m,hm,rfl⟩:=aeY.mp iI;obtain⟨j,hj,ej⟩:=m2 m hm;have:j<ns.length:=by lia
     rw[ej];simp[amB,this]
    .intro iI;obtain⟨j,hj,rfl⟩:=ak3 iI;have:=m3 j (by lia);simpa [amB,hj] using this
   .have:=T7 (kis:=M'.map λm=>[m.1]) (d:=(0:Int)) (as:=M'.map (·.1)) (f:=λx=>[x]) (by rw[afA];rfl);refine this.imp λ{a b} iH=>?_;rw[HT.rE] at iH;by_cases e:b=a
    .lia
    .rw[if_neg e] at iH;have:=of_decide_eq_false iH;lia
def Ln(r r' uR:R2)(ta tb tc td:TE):TE:=λJ H Q=>ta J H λx H1=>tb J H1 λy H2=>r x y H2 λz H3=>∃ k,z = .bl k /\
 (if k=true then tc J H3 λw' H4=>r' y w' H4 λz2 H5=>∃ k2,z2 = .bl k2/\(if k2=true then td J H5 λw2 H6=>uR w' w2 H6 Q else Q (.bl false) H5) else Q (.bl false) H3)
theorem WD(ho:bB X (af6 op) r)(di:bB X (af6 jB) r')(WE:bB X (af6 Lo) uR)(ha:PE X a ta)(hb:PE X b tb)(hc:PE X c tc)(hd:PE X d td)(hm:ama [op,jB,Lo] [b,c,d]=false:=by with_unfolding_all rfl):PT X (.Compare a [op,jB,Lo] [b,c,d] pos) (xG (Ln r r' uR ta tb tc td)):=by
 intro pins s J H Q I h;refine isTrue_chain (aF (ha pins s J H _ I h) λv s1 ⟨x,H1,I1,r1,q1⟩=>anh (aF (hb pins s1 J H1 _ I1 q1) λu s2 ⟨y,H2,I2,r2,q2⟩ =>
  aF (ho pins s2 J H2 x y v u _ I2 r1 r2 q2) λd s3 ⟨z,H3,I3,r3,k,e,q3⟩=>?_)) hm
 subst e;cases r3;refine afH ?_;cases k with
 | false =>
  obtain⟨k',e',q'⟩:=q3;cases e';exact (if_neg (by decide)).mpr #[H3,I3,q']
 | true =>
  refine (if_pos Y).mpr (anh (aF (hc pins s3 J H3 _ I3 q3) λw' s4 ⟨z',H4,I4,r4,q4⟩=>aF (di pins s4 J H4 y z' u w' _ I4 r2 r4 q4) λd2 s5 zq=>?_));obtain⟨z2,H5,I5,r5,k2,e2,q5⟩:=zq;subst e2;cases r5;refine afH ?_;cases k2 with
  | false =>
   obtain⟨k',e',q'⟩:=q5;cases e';exact (if_neg (by decide)).mpr #[H5,I5,q']
  | true =>
   refine (if_pos Y).mpr (test_last (aF (hd pins s5 J H5 _ I5 q5) λw2 s6 ⟨z3,H6,I6,r6,q6⟩=>aF (WE pins s6 J H6 z' z3 w' w2 _ I6 r4 r6 q6) λd' s7 zq=>?_));obtain⟨z4,H7,I7,r7,k3,e3,q7⟩:=zq;subst e3;cases r7;exact afH #[H7,I7,q7]
theorem Lp(he:PE X o ta)(F:d9 X.prog X.w X.K X.mg X.base CX k f fd ps sp)(hr:bc k X.A)(hb:Binds X.K fd ps ds)(hd:Vals de ds)(hx:Passes CX X E)(ht:eval (.Call (.Attribute o m apos) [] [] pos) X.env=(do
 let ov <- eval o X.env
 akm apos.atName
 let (f,first) <- holding [ov] (aiV ov m pl)
 alb pos f first (agA pos (afb [] X.env)) (ajg pos (ahx [] X.env))):=by rfl) :
 PE X (.Call (.Attribute o m apos) [] [] pos) (B7 X.K m f sp de E ta rB):=by
 intro pins s J H Q I h;refine agH (pl:=pl) (aF (he pins s J H _ I h) λu s1 zq=>?_) ht;obtain⟨x,H1,I1,rx,a,C,dx,fs,ex,ea,c,hm,l,q⟩:=zq;subst ex;obtain rfl:u=aft a:=rx;refine uv I1 ea c hm l ?_;exact aiW (first:=[.ref a]) I1.cG hm.kp (o6 (us:=[.ref a]) (vs:=[.ref a]) F hr hb hd hx I1 (.cons rfl .nil) q)
end
def Lq(t1 t2:TE):TE:=λJ H Q=>t1 J H Q∨t2 J H Q
theorem WG(h1:PE X e t1)(h2:PE X e t2):PE X e (Lq t1 t2):=λpins s J H Q I h=>h.elim (h1 pins s J H Q I) (h2 pins s J H Q I)
noncomputable def fv:S2->List S2
 | (O,O)=>[]
 | (U l,O)=>[(O,U (l-1))]
 | (O,U h)=>[(U (h+1),O)]
 | (U l,U h)=>[(O,U (l-1)),(U (h+1),O)]
noncomputable def cE(ps:List Pa):List (List Pa):=ps.flatMap λp=>(fv p.2.2).map λo=>[((p.1,p.2.1,o):Pa)]
noncomputable def el(i j:Int)(s:S2):List Pa:=(afp (j+1-i).toNat).map λk=>("at",i+(k:Nat),s)
def cB(H:Hp)(v:V)(ps:List Pa):Prop:=∃ l xs,v = .ref l/\H l=U (.lst xs)/\dF H xs ps
theorem cB.same(h:cB H v ps)(s:ah H H'):cB H' v ps:=let ⟨l,xs,e,a,b⟩:=h;#[l,xs,e,s _ _ a,b.same s]
def bA(H0 H:Hp)(v:V)(ps:List Pa):Prop:=∃ c xs,v = .ref c/\H0 c=O/\H c=U (.lst xs)/\dF H xs ps
theorem bA.same(h:bA H0 H v ps)(s:ah H H'):bA H0 H' v ps:=let ⟨c,xs,e,n,a,b⟩:=h;#[c,xs,e,n,s _ _ a,b.same s]
theorem bA.back(h:bA H1 H v ps)(s:ah H0 H1):bA H0 H v ps:=let ⟨c,xs,e,n,a,b⟩:=h;#[c,xs,e,s.free n,a,b]
theorem bA.cl(h:bA H0 H v ps):cB H v ps:=let ⟨c,xs,e,_,a,b⟩:=h;#[c,xs,e,a,b]
def jO(H0:Hp)(l:ae0)(H:Hp)(v:V)(ps:List Pa):Prop:=∃ c xs,v = .ref c/\c≠l/\H0 c=O/\H c=U (.lst xs)/\dF H xs ps
theorem jO.same(h:jO H0 l H v ps)(s:ah H H'):jO H0 l H' v ps:=let ⟨c,xs,e,m,n,a,b⟩:=h;#[c,xs,e,m,n,s _ _ a,b.same s]
theorem jO.put(h:jO H0 l H v ps)(hl:H l=U (.lst ys)):jO H0 l (upd H l o) v ps:=let ⟨c,xs,e,m,n,a,b⟩:=h;#[c,xs,e,m,n,by rw[aI m];exact a,b.put hl]
theorem jO.Lr(h:jO H0 l H v ps):bA H0 H v ps:=let ⟨c,xs,e,_,n,a,b⟩:=h;#[c,xs,e,n,a,b]
def Kp(P:ae0->Prop)(H H':Hp):Prop:=∀ a o,¬ P a->H a=U o->H' a=U o
def Nl(H H':Hp):Prop:=∀ a o,(∀ xs,o ≠ .lst xs)->H a=U o->H' a=U o
theorem Kp.refl:Kp P H H:=λy y y h=>h
theorem Kp.same(h:Kp P H H1)(s:ah H1 H2):Kp P H H2:=λa o n e=>s _ _ (h a o n e)
theorem Kp.put(h:Kp P H H1)(hc:P c):Kp P H (upd H1 c o):=λa o n e=>by
 have ne:a≠c:=λz=>by rw[z] at n;exact n hc
 rw[aI ne];exact h a o n e
theorem Kp.nl(h:Kp P H H1)(hP:∀ a,P a->∃ xs,H a=U (.lst xs)):Nl H H1:=λa o n e=>h a o (λz=>by
 obtain⟨xs,hx⟩:=hP a z;rw[hx] at e;cases e;exact n xs Y) e
theorem Kp.new(h:Kp P H H1)(s:ah H0 H)(hP:∀ a,P a->H0 a=O):ah H0 H1:=λa o e=>h a o (λz=>by rw[hP a z] at e;cases e) (s a o e)
theorem fA.nl(h:fA H v p)(s:Nl H H'):fA H' v p:=let ⟨t,q,e,a,b⟩:=h;#[t,q,e,s _ _ (λy z=>nomatch z) a,s _ _ (λy z=>nomatch z) b]
theorem bA.kp(h:bA H0 H v ps)(k:Kp P H H')(s:Nl H H')(hP:∀ a,P a->H0 a≠O):cB H' v ps:=by obtain⟨c,xs,e,n,a,b⟩:=h;exact#[c,xs,e,k _ _ (λz=>hP c z n) a,b.imp λy y r=>r.nl s]
noncomputable def yP(ps:List Pa):aii:=.list (ps.map Cn)
theorem cB.dat{K:aeN}{H:Hp}{v:V}{ps:List Pa}(h:cB H v ps):Dat K H v (yP ps):=by obtain⟨l,xs,rfl,a,b⟩:=h;exact .lst (ai.of a) (k8.Cm (λy y r=>fA.dat r) b)
theorem WH(h:∀ p∈ps,aiE p.1=true):Gd 3 (yP ps):=.lst λd hd=>by obtain⟨p,hp,rfl⟩:=aeY.mp hd;exact Vh (h p hp)
theorem yQ{K:aeN}{H:Hp}{l:ae0}{ys:List V}{cls:List (List Pa)}(hl:H l=U (.lst ys))(hy:ax (cB H) ys cls):Dat K H (.ref l) (.list (cls.map yP)):=.lst (ai.of hl) (k8.Cm (λy y r=>cB.dat r) hy)
theorem Ls{cls:List (List Pa)}(h:∀ ps∈cls,∀ p∈ps,aiE p.1=true):Gd 4 (.list (cls.map yP)):=.lst λd hd=>by obtain⟨ps,hp,rfl⟩:=aeY.mp hd;exact WH (h ps hp)
theorem WI{ps:List Pa}{i:Nat}{p:Pa}(h:ps[i]?=U p):cE (ps.take (i+1))=cE (ps.take i)++(fv p.2.2).map λo=>[((p.1,p.2.1,o):Pa)]:=by unfold cE;rw[afZ,h,ak4];simp
theorem sq(s:S2):(fv s).length<=2:=by obtain⟨a,b⟩:=s;cases a<;>cases b<;>simp[fv]
theorem Lu(i j:Int)(s:S2):(el i j s).length=(j+1-i).toNat:=by unfold el;rw[aeO,ae9]
theorem WJ(h:p∈el i j s):∃ k:Nat,k<(j+1-i).toNat/\p=(("at",i+(k:Int),s):Pa):=by unfold el at h;obtain⟨k,hk,rfl⟩:=aeY.mp h;exact#[k,af1.mp hk,Y]
theorem WK(h:qs∈cE ps):∃ p∈ps,∃ o∈fv p.2.2,qs=[((p.1,p.2.1,o):Pa)]:=by unfold cE at h;obtain⟨p,hp,h⟩:=aho.mp h;obtain⟨o,ho,rfl⟩:=aeY.mp h;exact#[p,hp,o,ho,Y]
theorem Lv{α β:Type}{f:α->List β}{c:Nat}:∀ (l:List α),(∀ a∈l,(f a).length<=c)->(l.flatMap f).length<=c * l.length
 | [],_=>by simp
 | a::l,h=>by have h1:=h a (.head _);have h2:=Lv l λb hb=>h b (.tail _ hb);rw[ajI,ae1,afD,Nat.mul_add,Nat.mul_one];omega
theorem CP(ps:List Pa):(cE ps).length<=2 * ps.length:=Lv ps λp y=>by rw[aeO];exact sq _
noncomputable def pR(cs:List Int)(i:Int)(k:Nat):Int:=cs.getD (i+(k:Int)).toNat 0
theorem WL(h0:0<=i)(h1:i<=j)(h2:j<(cs.length:Int)):fJ (cs.map V.int) (U i) (U (j+1))=((afp (j+1-i).toNat).map (pR cs i)).map V.int:=by
 obtain⟨a,rfl⟩:∃ a:Nat,i=(a:Int):=#[i.toNat,by omega]
 obtain⟨b,eb⟩:∃ b:Nat,j+1=(b:Int):=#[(j+1).toNat,by omega]
 rw[eb,TU _ (by rw[aeO];omega),<- List.map_drop,<- am9]
 congr 1
 refine ahK λk=>?_;rw[show ((b:Int)-(a:Int)).toNat=b-a by omega];by_cases hk:k<b-a
 .rw[ajA hk,alr,ae5,af5 hk,aeQ (by omega)];unfold pR;simp only[Option.map_some];rw[show ((a:Int)+(k:Int)).toNat=a+k by omega];simp[aeQ (show a+k<cs.length by omega)]
 .rw[agj (by rw[agB,ahW];omega),agj (by rw[aeO,ae9];omega)]
theorem WM:((cE (el i j (O,U (s-1)))).any (aM cs))=true ↔ ∃ k,k<(j+1-i).toNat/\s<=pR cs i k:=by
 rw[agc];constructor
 .rintro ⟨ps,eN,hm⟩;obtain⟨p,hp,o,ho,rfl⟩:=WK eN;obtain⟨k,hk,rfl⟩:=WJ hp;simp only[fv,ae2,agC,or_false] at ho;subst ho;refine#[k,hk,?_];unfold aM at hm;simp only[aiM,anp,alh] at hm;have:=(pE.mp hm).1 _ rfl;unfold gi at this;rw[if_neg (by decide)] at this;unfold pR;omega
 .rintro ⟨k,hk,hc⟩;refine#[[(("at",i+(k:Int),U (s-1+1),O):Pa)],?_,?_]
  .unfold cE;refine aho.mpr #[(("at",i+(k:Int),O,U (s-1)):Pa),?_,?_]
   .unfold el;exact aeY.mpr #[k,af1.mpr hk,Y]
   .simp[fv]
  .unfold aM;simp only[aiM,anp,alh];refine pE.mpr #[λx hx=>?_,λx hx=>(nomatch hx)];cases hx;unfold gi;rw[if_neg (by decide)];unfold pR at hc;omega
theorem WN(h:0<n):s<=eL ((afp n).map f) ↔ ∃ k,k<n/\s<=f k:=by
 have ne:(afp n).map f≠[]:=by simp;omega
 obtain⟨hm,hu⟩:=mq ne;constructor
 .intro hs;obtain⟨k,hk,e⟩:=aeY.mp hm;exact#[k,af1.mp hk,by rw[e];exact hs]
 .rintro ⟨k,hk,hs⟩;have:=hu (f k) (aeY.mpr #[k,af1.mpr hk,Y]);omega
noncomputable def lB(u:aeX):Bool:=match u with|.none=>true|_=>false
noncomputable def mP(v:V):Bool:=decide (v = .non)
def sG(H:Hp)(xs:List V):Prop:=∀ v∈xs,v = .non ∨ ∃ a ys,v = .ref a/\H a=U (.tup ys)
section
theorem Lw{x:V}{u:aeX}{H:Hp}(r:RelV x u)(h:x = .non ∨ ∃ a ys,x = .ref a/\H a=U (.tup ys)):lB u=mP x:=by
 rcases h with rfl|⟨a,ys,rfl,y⟩
 .cases r;rfl
 .cases r;rfl
theorem WO:∀ {xs:List V} {us:List aeX},Vals xs us->sG H xs->us.any lB=xs.any mP:=by
 intro y y h f
 induction h with
 | nil=>rfl
 | cons r t ih=>rw[afX,afX,Lw r (f _ (.head _)),ih λv hv=>f v (.tail _ hv)]
theorem Lx:∀ {xs:List V} {us:List aeX},Vals xs us->sG H xs->∀ (m:Nat) (h:m<us.length),lB us[m]=mP (xs.getD m .non):=by
 intro y y h f
 induction h with
 | nil=>exact λm h=>absurd h (agd _)
 | cons r t ih =>
  intro m h;cases m with
  | zero=>exact Lw r (f _ (.head _))
  | succ m=>exact ih (λv hv=>f v (.tail _ hv)) m (akg h)
theorem CQ(I:Inv X pins J H s)(hu:A.units<aka):∀ {xs:List V} {us:List aeX},Vals xs us->sG H xs->∀ u∈us,SeqAt.EqAt A s u .none (lB u)
 | _,_,.nil,_=>λu hu=>by cases hu
 | x::xs,u::us,.cons r t,f=>λu' CS=>by
  rcases ae2.mp CS with rfl|CS
  .rcases f x (.head _) with rfl|⟨a,ys,rfl,ha⟩
   .cases r;exact SeqAt.EqAt.same _
   .cases r;obtain⟨y,aw,r',o',k1,k2,n,k3⟩:=(show b9 X.prog X.w H s.heap a (.tup ys) from I.aB a _ ha)
    exact SeqAt.EqAt.tuple_none #[o',k1,k2,n,k3] hu
  .exact CQ I hu t (λv hv=>f v (.tail _ hv)) u' CS
def WQ(K:aeN):R2:=λx y H Q=>∃ a xs,x = .non/\y = .ref a/\ai K H a xs/\sG H xs/\Q (.bl (xs.any mP)) H
theorem Ly(hu:X.A.units+1<aka):bB X (af6 .In) (WQ X.K):=by intro pins s J H x y v u Q I rx ry h;obtain⟨a,xs,rfl,rfl,hq,hn,q⟩:=h;cases rx;cases ry;obtain⟨aw,r,pl,hz⟩:=I.list hq;refine SeqAt.in_listAt lB pl.isList (λw hw=>CQ I (A:=X.A.in1) (ahv (knd:=dr X.prog X.w) hu) r hn w (by simpa using hw)) #[.bl _,H,I,Y,?_];rw[show aw.toArray.any lB=aw.any lB by simp,WO r hn];exact q
def WR(K:aeN)(x:V)(ys:List V)(H:Hp)(Q:VK):Prop:=∃ a xs j,x = .ref a/\ys=[.non]/\ai K H a xs/\sG H xs/\j<xs.length/\xs.length<=1000/\mP (xs.getD j .non)=true/\(∀ m,m<j->mP (xs.getD m .non)=false)/\Q (.int (j:Nat)) H
theorem Lz(hu:X.A.units+1<aka):HN X "list.index" (WR X.K):=by
 intro pins s J H x xs v us Q I rx r h;obtain⟨a,xs,j,rfl,rfl,hq,hn,hj,hl,h1,h2,q⟩:=h;cases rx;obtain⟨u,rfl,ru⟩:=vals1 r;cases ru;obtain⟨aw,r,pl,hz⟩:=I.list hq;obtain⟨⟨cls,dd,data,sl⟩,ho,hc,n,hd⟩:=id pl.isList;simp only at hc hd;subst hc hd;have hlen:aw.length=xs.length:=(Vals.length r).symm;refine alD aic #[_,ho,Y] PySem.F.entry_list_index (PySem.F.args_list_index_2 _ _)
  (SeqAt.list_indexAt a aw.toArray n dd sl .none lB j (by simpa [hlen] using hj) (by lia) ?_ ?_) #[ho,λy hy=>CQ I (A:=X.A.in1) (ahv (knd:=dr X.prog X.w) hu) r hn y (by simpa using hy),?_]
 .show lB aw[j]=true;rw[Lx r hn];exact h1
 .intro m hm a8;show lB aw[m]=false;rw[Lx r hn];exact h2 m a8
 .exact#[.int j,H,I.tok _,#[_,Y],q]
end
noncomputable def iO(p:P2):W2:=U (U p.1,U p.2)
theorem LA:∀ (ss:List S2) (a b:Int),∃ a' b',bz (U a,U b) ss=(U a',U b')
 | [],a,b=>#[a,b,Y]
 | s::ss,a,b=>by
  rw[yE];have h1:∃ x,eh (U a) s.1=U x:=by rcases s.1 with z|c<;>exact#[_,Y]
  have h2:∃ x,e9 (U b) s.2=U x:=by rcases s.2 with z|c<;>exact#[_,Y]
  obtain⟨x,hx⟩:=h1;obtain⟨y,hy⟩:=h2;rw[hx,hy];exact LA ss x y
theorem WS(h:gh (O,O) ((U a,U b)::ss)=U s):∃ p:P2,U s=iO p/\p.1<=p.2:=by
 unfold gh at h;rw[yE] at h;obtain⟨x,y,e⟩:=LA ss a b;rw[show (eh (O,O).1 (U a,U b).1,e9 (O,O).2 (U a,U b).2)=((U a,U b):S2) from Y,e] at h;split at h
 .cases h
 .rename_i hc;cases h;exact#[(x,y),Y,by simpa [aY] using hc]
theorem LB(hf:∀ k s,f k=U s->∃ p:P2,U s=iO p/\p.1<=p.2):∀ (ks:List Nat),(∀ k∈ks,f k≠O)->∃ pp:List P2,ks.map f=pp.map iO/\fL pp
 | [],_=>#[[],Y,λy h=>nomatch h]
 | k::ks,h=>by
  obtain⟨pp,e,ho⟩:=LB hf ks λj hj=>h j (.tail _ hj);cases hk:f k with
  | none=>exact absurd hk (h k (.head _))
  | some s =>
   obtain⟨p,e1,e2⟩:=hf k s hk;refine#[p::pp,by rw[ae7,ae7,e,hk,e1],λq hq=>?_];rcases ae2.mp hq with rfl|hq
   .exact e2
   .exact ho q hq
theorem all_some:∀ (ws:List W2),(∀ w∈ws,w≠O)->∃ gs:List S2,ws=gs.map U
 | [],_=>#[[],Y]
 | w::ws,h=>by
  obtain⟨gs,e⟩:=all_some ws λj hj=>h j (.tail _ hj);cases w with
  | none=>exact absurd Y (h O (.head _))
  | some s=>exact#[s::gs,by rw[e];rfl]
theorem CT:∀ {ys:List V} {ws:List W2},ax (iJ H) ys ws->sG H ys/\(ys.any mP=ws.any ahL)/\∀ m,mP (ys.getD m .non)=(ws.getD m O).isNone
 | [],[],_=>#[(λz h=>nomatch h),Y,λz=>rfl]
 | y::ys,w::ws,h=>by
  obtain⟨h1,h2⟩:=h;obtain⟨a,b,c⟩:=CT h2;have key:(y = .non ∨ ∃ a ys,y = .ref a/\H a=U (.tup ys))/\mP y=w.isNone:=by
   cases w with
   | none =>
    obtain rfl:y = .non:=h1;exact#[.inl rfl,Y]
   | some s =>
    obtain⟨p,rfl,hp⟩:=h1;exact#[.inr #[p,_,Y,hp],Y]
  refine#[λv hv=>?_,by rw[afX,afX,b,key.2],λm=>?_]
  .rcases ae2.mp hv with rfl|hv
   .exact key.1
   .exact a v hv
  .cases m with
   | zero=>exact key.2
   | succ m=>exact c m
 | [],_::_,h=>h.elim
 | _::_,[],h=>h.elim
theorem CU:∀ {xs:List α},xs.any p=true->∃ j,j<xs.length/\p (xs.getD j d)=true/\∀ m,m<j->p (xs.getD m d)=false
 | [],h=>by cases h
 | x::xs,h=>by
  cases hx:p x with
  | true=>exact#[0,Nat.zero_lt_succ _,hx,λm hm=>absurd hm (agd _)]
  | false =>
   rw[afX,hx,alk] at h;obtain⟨j,h1,h2,h3⟩:=CU (d:=d) h;refine#[j+1,Nat.succ_lt_succ h1,h2,λm hm=>?_];cases m with
   | zero=>exact hx
   | succ m=>exact h3 m (akg hm)
theorem LC{ws:List W2}(h:ws.any ahL=false):∀ w∈ws,w≠O:=λw hw e=>by have:=alw.mp h w hw;rw[e] at this;exact this rfl
theorem LD:∀ {ys:List V} {pp:List P2},ax (iJ H) ys (pp.map iO)->iG H ys pp
 | [],[],_=>trivial
 | _::_,_::_,h=>#[h.1,LD h.2]
 | [],_::_,h=>h.elim
 | _::_,[],h=>h.elim
theorem mF.reach(T:mF ps ms tp):∀ (n t:Nat) {v k:Int},t+n<=ps.length ->
 (tp t=U (v,k)->∃ v' k',tp (t+n)=U (v',k')/\v'<=v+(pre (·.2) ps (t+n)-pre (·.2) ps t)) /\
 (tp (t+n)=U (v,k)->∃ v' k',tp t=U (v',k')/\v'<=v+(pre (·.1) ps t-pre (·.1) ps (t+n)))
 | 0,t,v,k,_=>#[λh=>#[v,k,h,by simp],λh=>#[v,k,h,by simp]]
 | n+1,t,v,k,hn=>by
  refine#[λh=>?_,λh=>?_]
  .obtain⟨v1,k1,e1,h1⟩:=(T.reach n t (by lia)).1 h;obtain⟨v2,k2,e2,h2⟩:=T.fwd (t+n) v1 k1 (by lia) e1;refine#[v2,k2,e2,?_];rw[show t+(n+1)=(t+n)+1 by lia,iK _ ps (by lia)];lia
  .obtain⟨v1,k1,e1,h1⟩:=T.bwd (t+n) v k (by lia) h;obtain⟨v2,k2,e2,h2⟩:=(T.reach n t (by lia)).2 e1;refine#[v2,k2,e2,?_];rw[show t+(n+1)=(t+n)+1 by lia,iK _ ps (by lia)];lia
theorem WT(T:mF ps ms tp)(hm:∀ m∈ms,m.1<=ps.length)(hn:∀ m∈ns,m.1<=ps.length)(h0:vc ns tp)(ha:a∈ms)(hb:b∈ns):¬ clash ps a b:=by
 rintro ⟨h,l,e1,e2,a8⟩;obtain⟨v,k,e3,h3⟩:=T.top a ha h e1;have uJ:=hm a ha;have c6:=hn b hb;have key:∃ v' k',tp b.1=U (v',k')/\v'<=v+bT ps a.1 b.1:=by
  unfold bT;by_cases hle:a.1<=b.1
  .rw[if_pos hle];obtain⟨n,nC⟩:∃ n,b.1=a.1+n:=#[b.1-a.1,by lia]
   rw[nC];exact (T.reach n a.1 (by lia)).1 e3
  .rw[if_neg hle];obtain⟨n,nC⟩:∃ n,a.1=b.1+n:=#[a.1-b.1,by lia]
   rw[nC] at e3 ⊢;exact (T.reach n b.1 (by lia)).2 e3
 obtain⟨v',k',e4,h4⟩:=key;have:=h0 b hb l v' k' e2 e4;lia
theorem CV:m∈cg tb i ↔ ∃ r∈tb,r.1.1=i/\m=(r.1.2.toNat,r.2):=by
 unfold cg;simp only[aeY,afr,decide_eq_true_eq];constructor
 .rintro ⟨r,⟨h1,h2⟩,rfl⟩;exact#[r,pN.mem_iff.mp h1,h2,Y]
 .rintro ⟨r,h1,h2,rfl⟩;exact#[r,#[pN.mem_iff.mpr h1,h2],Y]
noncomputable def vw(e:Nat)(tb:Tb):List (Int × List Mk):=(afp e).map λ(i:Nat)=>((i:Int),cg tb (i:Int))
theorem WU(hp:fL ps)(ht:t<ps.length):bT ps i (t+1)<=bT ps i t+(aK ps t).2:=by
 have h:=hp _ (rV ht);have e1:=iK (·.1) ps ht;have e2:=iK (·.2) ps ht;unfold bT;split<;>split<;>first|lia|(have z:i=t+1:=(by lia);subst z;lia)
theorem WV(hp:fL ps)(ht:t<ps.length):bT ps i t<=bT ps i (t+1)-(aK ps t).1:=by
 have h:=hp _ (rV ht);have e1:=iK (·.1) ps ht;have e2:=iK (·.2) ps ht;unfold bT;split<;>split<;>first|lia|(have z:i=t+1:=(by lia);subst z;lia)
theorem WW(ps:List P2)(i:Nat):bT ps i i<=0:=by unfold bT;split<;>lia
theorem LF(hp:fL ps)(ms:List Mk):∀ n,n<=ms.length->∃ tp,mF ps (ms.take n) tp
 | 0,_=>#[λy=>O,#[λy y y y e=>(nomatch e),λy h=>(nomatch h),λy y y y e=>(nomatch e),λy y y y e=>(nomatch e)]]
 | n+1,hn=>by
  obtain⟨tp,T⟩:=LF hp ms n (by lia);have hm:ms[n]?=U ms[n]:=aeQ (by lia);generalize ms[n]=m at hm;have et:ms.take (n+1)=ms.take n++[m]:=by rw[afZ,hm];rfl
  have tl:(ms.take n).length=n:=by rw[agB];lia
  cases hi:m.2.2 with
  | none =>
   refine#[tp,#[λt v k ht e=>?_,λa ha h e=>?_,T.fwd,T.bwd]]
   .obtain⟨i,a,h,h1,h2,h3⟩:=T.val t v k ht e;have:=(aeW.mp h2).1;exact#[i,a,h,h1,by rw[et,agf this];exact h2,h3]
   .rw[et] at ha;rcases afq.mp ha with z|z
    .exact T.top a z h e
    .rw[afd.mp z,hi] at e;cases e
  | some h0 =>
   have one:∀ t v k,(match tp t with|some (v,k)=>if h0+bT ps m.1 t<v then U (h0+bT ps m.1 t,(n:Int)) else U (v,k)|none=>U (h0+bT ps m.1 t,(n:Int)))=U (v,k) ->
    v<=h0+bT ps m.1 t/\(∀ v' k',tp t=U (v',k')->v<=v')/\((v=h0+bT ps m.1 t/\k=(n:Int))∨tp t=U (v,k)):=by
    intro t v k e;cases h1:tp t with
    | none =>
     rw[h1] at e;cases e;exact#[afS _,λy y z=>(nomatch z),.inl #[Y,Y]]
    | some q =>
     obtain⟨v1,k1⟩:=q;rw[h1] at e;dsimp only at e;split at e
     .cases e;refine#[afS _,λv' k' z=>?_,.inl #[Y,Y]];cases z;lia
     .cases e;refine#[by lia,λv' k' z=>?_,.inr rfl];cases z;exact afS _
   have ex:∀ t,∃ v k,(match tp t with|some (v,k)=>if h0+bT ps m.1 t<v then U (h0+bT ps m.1 t,(n:Int)) else U (v,k)|none=>U (h0+bT ps m.1 t,(n:Int)))=U (v,k):=λt=>by
    cases h1:tp t with
    | none=>exact#[_,_,Y]
    | some q =>
     obtain⟨v1,k1⟩:=q;dsimp only;split<;>exact#[_,_,Y]
   refine#[λt=>match tp t with|some (v,k)=>if h0+bT ps m.1 t<v then U (h0+bT ps m.1 t,(n:Int)) else U (v,k)|none=>U (h0+bT ps m.1 t,(n:Int)),⟨λt v k ht e=>?_,λa ha h e=>?_,λt v k ht e=>?_,λt v k ht e=>?_⟩]
   .obtain⟨y,y,⟨rfl,rfl⟩|e1⟩:=one t v k e
    .exact#[n,m,h0,Y,by rw[et,af4 (by lia),tl,akB];rfl,hi,afS _]
    .obtain⟨i,a,h,h1,h2,h3⟩:=T.val t v k ht e1;have:=(aeW.mp h2).1;exact#[i,a,h,h1,by rw[et,agf this];exact h2,h3]
   .obtain⟨v,k,e1⟩:=ex a.1;obtain⟨o1,o2,y⟩:=one _ _ _ e1;refine#[v,k,e1,?_];rw[et] at ha;rcases afq.mp ha with z|z
    .obtain⟨v',k',e2,h2⟩:=T.top a z h e;have:=o2 v' k' e2;lia
    .rw[afd.mp z] at e o1;rw[hi] at e;cases e;have:=WW ps m.1;lia
   .obtain⟨v',k',e1⟩:=ex (t+1);obtain⟨o1,o2,y⟩:=one _ _ _ e1;refine#[v',k',e1,?_];obtain⟨y,y,⟨rfl,rfl⟩|e3⟩:=one t v k e
    .have:=WU hp (i:=m.1) ht;lia
    .obtain⟨v2,k2,e4,h4⟩:=T.fwd t v k ht e3;have:=o2 _ _ e4;lia
   .obtain⟨v',k',e1⟩:=ex t;obtain⟨o1,o2,y⟩:=one _ _ _ e1;refine#[v',k',e1,?_];obtain⟨y,y,⟨rfl,rfl⟩|e3⟩:=one (t+1) v k e
    .have:=WV hp (i:=m.1) ht;lia
    .obtain⟨v2,k2,e4,h4⟩:=T.bwd t v k ht e3;have:=o2 _ _ e4;lia
theorem WX(hp:fL ps)(hm:∀ m∈ms,m.1<=ps.length)(hc:∀ a∈ms,∀ b∈ms,¬ clash ps a b):∃ c,jN ps c/\meets ms c:=by
 obtain⟨tp,T⟩:=LF hp ms ms.length (aeV _);rw[afV] at T;refine Vq hp hm T λm dk l v k e1 e2=>?_;rcases Int.lt_or_le v l with h|h
 .obtain⟨i,a,y,h2,h3⟩:=T.clash (hm m dk) e2 e1 h;exact absurd h3 (hc a (ae8 h2) m dk)
 .exact h
abbrev Cl:=(En × Nat) × (En × Nat)
noncomputable def jf(e:Int)(c:Cl):Bool:=decide (c.1.1=U e) || decide (c.2.1=U e)
noncomputable def wo(e:Int)(cs:List Cl):List Cl:=cs.filter λc=>!jf e c
def i4:Nat->List Cl->Prop
 | 0,_=>True
 | _+1,[]=>False
 | n+1,c::cs=>∀ e,jf e c=true->i4 n (wo e (c::cs))
def vx(es:List Int)(cs:List Cl):Prop:=∀ c∈cs,∃ e∈es,jf e c=true
theorem WY(h:vx es (wo e cs)):vx (e::es) cs:=λc hc=>by
 cases hb:jf e c with
 | true=>exact#[e,.head _,hb]
 | false =>
  obtain⟨x,hx,h1⟩:=h c (afr.mpr #[hc,by rw[hb];rfl]);exact#[x,.tail _ hx,h1]
inductive Pp where
 | nil:Pp
 | full:Pp
 | cls:Cl->Pp->Pp->Pp
noncomputable def nY:Nat->List Cl->Pp
 | 0,_=>.full
 | _+1,[]=>.full
 | n+1,c::cs=>.cls c (match c.1.1 with|none=>.nil|some e=>nY n (wo e (c::cs))) (if c.1.1=c.2.1 then .nil else match c.2.1 with|none=>.nil|some e=>nY n (wo e (c::cs)))
def ko(gs:List S2)(tb:Tb)(as:List Int)(s:En × Nat)(m:Mk):Prop:=m.1=s.2/\match s.1 with|none=>gs[s.2]?=U m.2|some e=>e∉as/\((e,(s.2:Int)),m.2)∈tb
def Val(ps:List P2)(gs:List S2)(tb:Tb)(mo:Int):Pp->List Int->Prop
 | .nil,_=>False
 | .full,as=>mo<as.length
 | .cls c a b,as=>(∃ m n,ko gs tb as c.1 m/\ko gs tb as c.2 n/\clash ps m n)/\(match c.1.1 with|none=>a = .nil|some e=>Val ps gs tb mo a (as++[e]))/\(match c.2.1 with|none=>b = .nil|some e=>if c.1.1=U e then b = .nil else Val ps gs tb mo b (as++[e]))
theorem pS:jf e c=true↔c.1.1=U e∨c.2.1=U e:=by unfold jf;rw[ai0,decide_eq_true_eq,decide_eq_true_eq]
theorem LG:∀ (n:Nat) (cs:List Cl) (as:List Int),i4 n cs->(as.length:Int)+n=mo+1->(∀ c∈cs,∃ m n,ko gs tb as c.1 m/\ko gs tb as c.2 n/\clash ps m n)->Val ps gs tb mo (nY n cs) as
 | 0,_,as,_,h,_=>by show mo<as.length;lia
 | n+1,[],_,h,_,_=>h.elim
 | n+1,c::cs,as,h,hl,hs=>by
  have sub:∀ e,jf e c=true->Val ps gs tb mo (nY n (wo e (c::cs))) (as++[e]):=λe he=>by
   refine LG n _ _ (h e he) (by rw[ae1,afh];lia) λc' lY=>?_;obtain⟨h1,h2⟩:=afr.mp lY;obtain⟨m,k,a1,a2,a3⟩:=hs c' h1;have h3:jf e c'=false:=by cases hh:jf e c' with|false=>rfl|true=>rw[hh] at h2;cases h2
   have h4:∀ x,c'.1.1=U x∨c'.2.1=U x->x≠e:=λx hx z=>by subst z;rw[pS.mpr hx] at h3;cases h3
   refine#[m,k,#[a1.1,?_],#[a2.1,?_],a3]
   .have:=a1.2;cases hx:c'.1.1 with
    | none=>rw[hx] at this;exact this
    | some x =>
     rw[hx] at this;refine#[λz=>?_,this.2];rcases afq.mp z with z|z
     .exact this.1 z
     .exact h4 x (.inl hx) (afd.mp z)
   .have:=a2.2;cases hx:c'.2.1 with
    | none=>rw[hx] at this;exact this
    | some x =>
     rw[hx] at this;refine#[λz=>?_,this.2];rcases afq.mp z with z|z
     .exact this.1 z
     .exact h4 x (.inr hx) (afd.mp z)
  refine#[hs c (.head _),?_,?_]
  .cases hx:c.1.1 with
   | none=>rfl
   | some e=>exact sub e (pS.mpr (.inl hx))
  .cases hx:c.2.1 with
   | none=>dsimp only;split<;>rfl
   | some e =>
    dsimp only;by_cases he:c.1.1=U e
    .rw[if_pos he,if_pos he]
    .rw[if_neg he,if_neg he];exact sub e (pS.mpr (.inr hx))
abbrev Gp:=En × List Mk
def yS(ps:List P2)(gs:List Gp)(cs:List Cl):Prop:=∀ c∈cs,∃ g∈gs,∃ h∈gs,∃ m∈g.2,∃ n∈h.2,c=((g.1,m.1),(h.1,n.1))/\clash ps m n
def lC(ps:List P2)(g h:Gp)(cs:List Cl):Prop:=∀ m∈g.2,∀ n∈h.2,clash ps m n->∃ c∈cs,c.1.1=g.1/\c.2.1=h.1
theorem lC.more(x:lC ps g h cs):lC ps g h (cs++ds):=λm hm n hn hc=>let ⟨c,h1,h2⟩:=x m hm n hn hc;#[c,agL _ h1,h2]
noncomputable def lD(gs:List Mk)(e:Nat)(tb:Tb):List Gp:=(O,gs)::(vw e tb).map λr=>(U r.1,r.2)
theorem CW:m∈fB tb es ↔ ∃ r∈tb,r.1.1∉es/\m=(r.1.2.toNat,r.2):=by
 unfold fB;constructor
 .intro h;obtain⟨r,hr,rfl⟩:=aeY.mp h;obtain⟨h1,h2⟩:=afr.mp hr;exact#[r,u6 h1,by simpa using h2,Y]
 .rintro ⟨r,hr,h1,rfl⟩;exact aeY.mpr #[r,afr.mpr #[rZ.mem_iff.mpr hr,by simpa using h1],Y]
theorem LH(aB:bZ e t tb)(h:m∈gm++fB tb es):∃ g∈lD gm e.toNat tb,m∈g.2/\∀ x,g.1=U x->x∉es:=by
 rcases afq.mp h with z|z
 .exact#[_,.head _,z,λx hx=>nomatch hx]
 .obtain⟨r,hr,h1,rfl⟩:=CW.mp z;have ho:=aB.2 r hr;unfold lh at ho;refine#[(U r.1.1,cg tb r.1.1),.tail _ (aeY.mpr #[(r.1.1,cg tb r.1.1),aeY.mpr #[r.1.1.toNat,af1.mpr (by lia),by rw[agG ho.1.1]],Y]),CV.mpr #[r,hr,Y,Y],λx hx=>?_];cases hx;exact h1
theorem WZ(aB:bZ e t tb)(hp:fL ps)(hm:∀ m∈gm++fB tb es,m.1<=ps.length)(hc:vx es cs)(hx:∀ g∈lD gm e.toNat tb,∀ h∈lD gm e.toNat tb,lC ps g h cs):∃ c,jN ps c/\meets (gm++fB tb es) c :=
 WX hp hm λa ha b hb iH=>by
  obtain⟨g,h1,h2,h3⟩:=LH aB ha;obtain⟨h,k1,k2,k3⟩:=LH aB hb;obtain⟨c,c1,c2,c3⟩:=hx g h1 h k1 a h2 b k2 iH;obtain⟨x,x1,x2⟩:=hc c c1;rcases pS.mp x2 with z|z
  .exact h3 x (c2.symm.trans z) x1
  .exact k3 x (c3.symm.trans z) x1
theorem snd_mk(aB:bZ e t tb)(hg:∀ m∈gm,gs[m.1]?=U m.2)(h:yS ps (lD gm e.toNat tb) cs):∀ c∈cs,∃ m n,ko gs tb [] c.1 m/\ko gs tb [] c.2 n/\clash ps m n:=λc hc=>by
 obtain⟨g,h1,k,h2,m,h3,n,h4,rfl,h5⟩:=h c hc;have one:∀ g∈lD gm e.toNat tb,∀ m∈g.2,ko gs tb [] (g.1,m.1) m:=λg pQ m hm=>by
  rcases ae2.mp pQ with rfl|z
  .exact#[Y,hg m hm]
  .obtain⟨q,hq,rfl⟩:=aeY.mp z;obtain⟨i,y,rfl⟩:=aeY.mp hq;obtain⟨r,hr,e1,rfl⟩:=CV.mp hm;have ho:=aB.2 r hr;unfold lh at ho;refine#[Y,agC,?_];show (((i:Int),((r.1.2.toNat:Nat):Int)),r.2)∈tb;rw[agG ho.2.1,<- e1];exact hr
 exact#[m,n,one g h1 m h3,one k h2 n h4,h5]
section
end
abbrev lE(h:ag3)(e it:ae0)(i:Int)(old:aeX)(a:ae0)(f:Bool):Prop :=
 h.get? e=U { cls:=.type "enumerate",dict:=O,data:=.fields (List.toArray [aie a,.bool f,.ref it,aie i,.none,old]),slots:=(List.toArray []) }
section
theorem W0{e it l a:ae0}{f:Bool}{oa:Obj}{i:Nat}{items:Array aeX}{x old:aeX}{Q:Option aeX->ae4->Prop}
 (he:lE s.heap e it i old a f) (ha:s.heap.get? a=U oa) (W3:a≠e) (W4:a≠it) (hit:s.heap.IsListIter it l i) (hl:s.heap.IsList l items) (hx:items[i]?=U x) (bN:e≠it)
 (hQ:∀ h',lE h' e it ((i:Int)+1) old a true->h'.IsListIter it l (i+1) ->
   h'.get? s.heap.objs.size=U { cls:=.type "tuple",data:=.seq (List.toArray [.int i s.toks,x]) }->h'.objs.size=s.heap.objs.size+1 ->
   (∀ b o,b≠e->b≠it->s.heap.get? b=U o->h'.get? b=U o)->Q (U (.ref s.heap.objs.size)) { s with heap:=h',toks:=s.toks+1 }) :
 afe (model prog w) A (ahN (.ref e)) Q E s:=by
 have hT:s.TypeIs (.ref e) "enumerate" := #[_,he,Y];obtain⟨hp,g,d,tk,os⟩:=s;unfold ahN;refine aeM (ah9 (agl (name:=agg "__next__") hT agW
  (af9 agW hT aiP ?_ (aiK _))))
 show afe _ _ (field (.ref e) 2 >>= _) _ _ _;refine aeM (ahz he Y (x:=.ref it) Y ?_);refine aeM (wpAny_nextOf_list_item hit hl hx λh₁ LI sH=>?_);replace sH:Heap.SameBut it hp h₁:=sH;have yT:lE h₁ e it i old a f:=(sH.2 e bN).trans he;show afe _ _ (field (.ref e) 3 >>= _) _ _ #[h₁,g,d,tk,os];refine aeM (ahz yT Y (x:=aie i) Y ?_);show afe _ _ (field (.ref e) 4 >>= _) _ _ #[h₁,g,d,tk,os];refine aeM (ahz yT Y (x:=.none) Y ?_);show afe _ _ (mkInt i >>= _) _ _ #[h₁,g,d,tk,os];refine aeM (wpAny_mkInt ?_);show afe _ _ (al8 (.ref e) 3 (aie ((i:Int)+1)) >>= _) _ _ #[h₁,g,d,tk+1,os];refine aeM (ajk yT (by simp) λh₂ yU sI=>?_);replace sI:Heap.SameBut e h₁ h₂:=sI;replace yU:lE h₂ e it ((i:Int)+1) old a f:=yU;show afe _ _ (al8 (.ref e) 4 .none >>= _) _ _ #[h₂,g,d,tk+1,os];refine aeM (ajk yU (by simp) λh₃ yV sJ=>?_);replace sJ:Heap.SameBut e h₂ h₃:=sJ;replace yV:lE h₃ e it ((i:Int)+1) old a f:=yV;show afe _ _ (am4 [.int i tk,x] >>= _) _ _ #[h₃,g,d,tk+1,os];refine aeM (wpAny_newTuple ?_);have vy:lE (h₃.push { cls:=.type "tuple",data:=.seq (List.toArray [.int i tk,x]) }) e it ((i:Int)+1) old a f:=aeS _ yV;generalize vz:h₃.push { cls:=.type "tuple",data:=.seq (List.toArray [.int i tk,x]) }=h₄ at vy;have hsz:h₃.objs.size=hp.objs.size:=by rw[sJ.1,sI.1,sH.1]
 have vm:e<hp.objs.size:=aeU he;have W5:h₄.get? hp.objs.size=U { cls:=.type "tuple",data:=.seq (List.toArray [.int i tk,x]) }:=by rw[<- vz,<- hsz];exact aeZ _ rfl
 have W6:h₄.objs.size=hp.objs.size+1:=by rw[<- vz,ag4,hsz]
 have LJ:∀ b o,b≠e->b≠it->hp.get? b=U o->h₄.get? b=U o:=λb o kH Lh hb=>by rw[<- vz];exact aeS _ (sJ.extBut b o kH (sI.extBut b o kH (sH.extBut b o Lh hb)))
 have W7:h₄.IsListIter it l (i+1):=by rw[<- vz];obtain⟨o,ho,r⟩:=(LI.extBut sI.extBut (afR bN)).extBut sJ.extBut (afR bN);exact#[o,aeS _ ho,r]
 show afe _ _ (ah2 (.ref e) >>= _) _ _ #[h₄,g,d,tk+1,os];rw[hsz];clear vz yV sJ yU sI yT sH LI hsz h₃ h₂ h₁;have W8:h₄.get? a=U oa:=LJ a oa W3 W4 ha;refine aeM ?_;unfold ah2;refine aeM (ahz vy Y (x:=aie a) Y ?_);show afe _ _ (loadIfAlive ((a:Int).toNat) >>= _) _ _ _;rw[afO];refine aeM (PySem.W.kdx_alive W8 ?_);simp only[Option.isNone_some,afn,if_false];refine aeM (ahz vy Y (x:=.bool f) Y ?_);have fin:∀ h₅:ag3,lE h₅ e it ((i:Int)+1) old a true->Heap.SameBut e h₄ h₅->Q (U (.ref hp.objs.size)) #[h₅,g,d,tk+1,os]:=λh₅ vA nZ =>
  hQ h₅ vA (W7.extBut nZ.extBut (afR bN)) (nZ.extBut _ _ (af3 vm) W5) (by show h₅.objs.size=hp.objs.size+1;rw[nZ.1,W6]) λb o LK pA q=>nZ.extBut b o LK (LJ b o LK pA q)
 cases f with
 | true =>
  rw[if_neg (show ¬ ((agz true != agz true)=true) from afj)];refine aeR ?_;simp only[afn,if_false];exact aeR #[_,Y,aeR (fin h₄ vy (Heap.SameBut.refl _ _))]
 | false =>
  rw[if_pos (show (agz false != agz true)=true from Y)];refine aeM (ajk vy (by simp) λh₅ vA nZ=>?_);replace nZ:Heap.SameBut e h₄ h₅:=nZ;replace vA:lE h₅ e it ((i:Int)+1) old a true:=vA;refine aeR ?_;simp only[afn,if_false];exact aeR #[_,Y,aeR (fin h₅ vA nZ)]
theorem W9{e it l a:ae0}{f:Bool}{i:Nat}{items:Array aeX}{old:aeX}{Q:Option aeX->ae4->Prop}(hh:A.handled=O)
 (he:lE s.heap e it i old a f) (hit:s.heap.IsListIter it l i) (hl:s.heap.IsList l items) (hx:items[i]?=O)
 (hQ:∀ h',amv it s.heap h'->Q O { s with heap:=h' }):afe (model prog w) A (ahN (.ref e)) Q E s:=by
 have hT:s.TypeIs (.ref e) "enumerate" := #[_,he,Y];unfold ahN;refine aeM (ah9 (agl (name:=agg "__next__") hT agW
  (af9 agW hT aiP ?_ (aiK _))))
 show afe _ _ (field (.ref e) 2 >>= _) _ _ _;refine aeM (ahz he Y (x:=.ref it) Y ?_);refine aeM (wpAny_nextOf_list_end hh hit hl hx λh' x sk cZ=>?_);obtain⟨o,ho,hc⟩:=cZ;refine aeM (ahm (T := "StopIteration") (b:=true) #[o,ho,hc] akT ?_);exact aeR (hQ _ sk)
def pU(h:ag3)(e it S:ae0)(i:Nat):Prop :=
 (∃ old,IsEnum h e it i old) ∨ ∃ old a f oa,lE h e it i old a f/\h.get? a=U oa/\a≠e/\a≠it/\a≠S
theorem pU.keep(x:pU h e it S i)(hk:∀ b o,b≠S->h.get? b=U o->h'.get? b=U o)(hI:e≠S):pU h' e it S i:=by
 rcases x with ⟨old,q⟩|⟨old,a,f,oa,q,ha,h1,h2,h3⟩
 .exact .inl #[old,hk _ _ hI q]
 .exact .inr #[old,a,f,oa,hk _ _ hI q,hk _ _ h3 ha,h1,h2,h3]
theorem Xa(st:pU s.heap e it S i)(hS:S<s.heap.objs.size)(hit:s.heap.IsListIter it l i)(hl:s.heap.IsList l items)(hx:items[i]?=U x)(bN:e≠it)(hQ:∀ h',pU h' e it S (i+1)->h'.IsListIter it l (i+1) ->
 h'.get? s.heap.objs.size=U { cls:=.type "tuple",data:=.seq (List.toArray [.int i s.toks,x]) }->h'.objs.size=s.heap.objs.size+1 ->
 (∀ b o,b≠e->b≠it->s.heap.get? b=U o->h'.get? b=U o)->Q (U (.ref s.heap.objs.size)) { s with heap:=h',toks:=s.toks+1 }) :
 afe (model prog w) A (ahN (.ref e)) Q E s:=by
 have ce:((i:Int)+1)=((i+1:Nat):Int):=by lia
 have hi:it<s.heap.objs.size:=let ⟨_,q,_⟩:=hit;aeU q;rcases st with ⟨old,he⟩|⟨old,a,f,oa,he,ha,h1,h2,h3⟩
 .exact ake he hit hl hx bN λh' q1 q2 q3 q4 q5=>hQ h' (.inr #[x,_,false,_,by rw[<- ce];exact q1,q3,af3 (aeU he),af3 hi,af3 hS]) q2 q3 q4 q5
 .exact W0 he ha h1 h2 hit hl hx bN λh' q1 q2 q3 q4 q5=>hQ h' (.inr #[old,a,true,oa,by rw[<- ce];exact q1,q5 a oa h1 h2 ha,h1,h2,h3]) q2 q3 q4 q5
theorem Xb(hh:A.handled=O)(st:pU s.heap e it S i)(hit:s.heap.IsListIter it l i)(hl:s.heap.IsList l items)(hx:items[i]?=O)(hQ:∀ h',amv it s.heap h'->Q O { s with heap:=h' }):afe (model prog w) A (ahN (.ref e)) Q E s:=by
 rcases st with ⟨old,he⟩|⟨old,a,f,oa,he,y⟩
 .exact akt hh he hit hl hx hQ
 .exact W9 hh he hit hl hx hQ
end
structure mQ(items:Array aeX)(lo:ae0)(h:ag3)(as:List ae0):Prop where
 rise:as.Pairwise (· < ·)
 above:∀ a∈as,lo<=a
 pairs:∀ (j:Nat) (a:ae0),as[j]?=U a->∃ t x,items[j]?=U x/\h.get? a=U { cls:=.type "tuple",data:=.seq (List.toArray [.int j t,x]) }
theorem mQ.there{items:Array aeX}{lo:ae0}{h:ag3}{as:List ae0}(g:mQ items lo h as){a:ae0}(ha:a∈as):a<h.objs.size:=by obtain⟨j,hj⟩:=afF.mp ha;obtain⟨y,y,y,e⟩:=g.pairs j a hj;exact aeU e
theorem mQ.keep{items:Array aeX}{lo:ae0}{h h':ag3}{as:List ae0}(g:mQ items lo h as)(k:∀ b o,lo<=b->h.get? b=U o->h'.get? b=U o):mQ items lo h' as :=
 #[g.rise,g.above,λj a hj=>let ⟨t,x,e1,e2⟩:=g.pairs j a hj;#[t,x,e1,k a _ (g.above a (ae8 hj)) e2]]
section
variable{prog:afG}{w:agn}{A:agD}{s:ae4}{R:alQ->ae4->Prop}{items:Array aeX}
theorem Xc{S e it l lo:ae0}(hh:A.handled=O)(bN:e≠it)(sL:S≠e)(sM:S≠it)(yW:l≠S)(hle:l≠e)(nX:l≠it)(LL:S<lo)(Xd:e<lo)(LM:it<lo)(hn:items.size<=afl)(res:aeX){h₁:ag3}
 (hR:∀ h' tk acc c as,(∀ b o,b≠S->b≠e->b≠it->h₁.get? b=U o->h'.get? b=U o)->h'.get? S=U { cls:=.type "list",dict:=O,data:=.seq acc c,slots:=(List.toArray []) }->as.length=items.size->mQ items lo h' as ->
   acc.toList=as.map aft->R (.ok (.ret res)) { s with heap:=h',toks:=tk }) :
 ∀ (k i:Nat) (h:ag3) (tk c:Nat) (acc:Array aeX) (as:List ae0),items.size-i=k->i<=items.size->pU h e it S i->h.IsListIter it l i->h.IsList l items->(∀ b o,b≠S->b≠e->b≠it->h₁.get? b=U o->h.get? b=U o) ->
  h.get? S=U { cls:=.type "list",dict:=O,data:=.seq acc c,slots:=(List.toArray []) }->acc.toList=as.map aft->as.length=i->mQ items lo h as->lo<=h.objs.size ->
  ahY (model prog w) A (.builtin "list.extend.loop" #[[.ref S,.ref e,res],[]]) R { s with heap:=h,toks:=tk }:=by
 intro k
 induction k with
 | zero =>
  intro i h tk c acc as hk hi cQ hit hl CY hS jJ n0 hG hz;have bL:i=items.size:=by lia
  refine agb ajt ?_;rw[afK ag7 _];show afe _ A.in1 (ahN (.ref e) >>= _) _ _ _;refine aeM (Xb (s:={ s with heap:=h,toks:=tk }) (A:=A.in1) hh cQ hit hl (ahs (by lia)) λh' he=>?_);exact aeR (hR h' tk acc c as (λb o h1 h2 h3 q=>he b o h3 (CY b o h1 h2 h3 q)) (he S _ sM hS) (by lia) (hG.keep λb o hb q=>he b o (af3 (afm LM hb)) q) jJ)
 | succ k ih =>
  intro i h tk c acc as hk hi cQ hit hl CY hS jJ n0 hG hz;have a8:i<items.size:=by lia
  refine agb ajt ?_;rw[afK ag7 _];show afe _ A.in1 (ahN (.ref e) >>= _) _ _ _;refine aeM (Xa (s:={ s with heap:=h,toks:=tk }) (A:=A.in1) cQ (aeU hS) hit hl (afB a8) bN λh' dN mD hT hsz iI=>?_);have mM:=iI S _ sL sM hS;have LN:acc.size=i:=by
   have:acc.toList.length=i:=by rw[jJ,aeO,n0]
   simpa using this
  show afe _ A.in1 (ajD S (·.push (.ref h.objs.size)) >>= _) _ _ _;refine aeM ?_;have LO:lo<=h.objs.size:=hz;have sb:∀ b o,b≠S->h'.get? b=U o->(h'.update S (agm (·.push (.ref h.objs.size)))).get? b=U o:=λb o hb q=>(aff _ _ (afR hb)).trans q;refine agS mM Y (aeR #[agM ag7 _,ih (i+1) _ (tk+1) _ (acc.push (.ref h.objs.size)) (as++[h.objs.size]) (by lia) a8
   (dN.keep sb (afR sL)) (mD.at λo q=>sb it o (afR sM) q) ((hl.at λo q=>iI l o hle nX q).at λo q=>sb l o yW q)
   (λb o h1 h2 h3 q=>sb b o h1 (iI b o h2 h3 (CY b o h1 h2 h3 q))) (afE _ mM Y) (by rw[alN,jJ];simp) (by rw[ae1,n0];rfl) ?_ ?_])
   (by rw[LN];lia) (by show (acc.push _).size<=afl+1;rw[Array.size_push,LN];lia)
  .have up:∀ b o,lo<=b->h.get? b=U o->(h'.update S (agm (·.push (.ref h.objs.size)))).get? b=U o:=λb o hb q =>
    sb b o (af3 (afm LL hb)) (iI b o (af3 (afm Xd hb)) (af3 (afm LM hb)) q)
   have G':=hG.keep up;refine#[?_,?_,?_]
   .refine List.pairwise_append.mpr #[hG.rise,List.pairwise_singleton _ _,λa ha b hb=>?_];rw[afd.mp hb];exact hG.there ha
   .intro a ha;rcases afq.mp ha with ha|ha
    .exact hG.above a ha
    .rw[afd.mp ha];exact LO
   .intro j a hj;by_cases hjl:j<as.length
    .rw[agf hjl] at hj;exact G'.pairs j a hj
    .rw[af4 (by lia)] at hj;have Xe:j-as.length=0:=by
      rcases alo (j-as.length) with z|z
      .exact z
      .rw[agj (by rw[afh];exact z)] at hj;cases hj
     rw[Xe] at hj;cases hj;obtain rfl:j=i:=by lia
     exact#[_,_,afB a8,sb _ _ (af3 (afm LL LO)) hT]
  .rw[(agi ..).1];show lo<=h'.objs.size;rw[hsz];exact alL hz
end
theorem Xf:akG (.type "enumerate") "__len__" = pure O:=by rw[aia,ag2];kernel_rfl
theorem Xg:akG (.type "enumerate") "__length_hint__" = pure O:=by rw[aia,ag2];kernel_rfl
section
theorem Xi(hh:A.handled=O)(old:aeX)(he:IsEnum s.heap e it 0 old)(hit:s.heap.IsListIter it l 0)(hl:s.heap.IsList l items)(bN:e≠it)(hle:l≠e)(nX:l≠it)(S:ae0)(sL:S≠e)(sM:S≠it)(yW:l≠S)(res:aeX)(c:Nat)(hS:s.heap.get? S=U { cls:=.type "list",data:=.seq (List.toArray []) c })(hn:items.size<=afl)(hR:∀ g tk acc c' as,(∀ b o,b≠S->b≠e->b≠it->s.heap.get? b=U o->g.get? b=U o)->g.get? S=U { cls:=.type "list",dict:=O,data:=.seq acc c',slots:=(List.toArray []) }->as.length=items.size->mQ items s.heap.objs.size g as ->
 acc.toList=as.map aft->R (.ok (.ret res)) { s with heap:=g,toks:=tk }) :
 afe (model prog w) A.in1 (agU (.ref S) (.ref e) res)
  (λf u=>match f with|.done f=>R (.ok f) u|.again k=>k.quiet=true/\ahY (model prog w) A k R u) (λe u=>R (.error e) u) s:=by
 have h1:ajJ (.ref S) (.ref e)=false:=by simp[ajJ,sL]
 have hT:s.TypeIs (.ref e) "enumerate" := #[_,he,Y];unfold agU;refine aeM (akr hT ?_);rw[if_neg (by rw[h1];decide)];refine aeM (ajE he ?_);refine aeM (agr ?_);unfold ahD;refine aeM (ahB hT Xf ?_);show afe _ A.in1 (specialOf (aft e) (agg "__length_hint__") >>= _) _ _ _;refine aeM (ahB hT Xg ?_);refine aeR ?_;show afe _ A.in1 (rule "list.extend.makes-room" >>= λy=>anc (.ref S) >>= λy=>again (.builtin "list.extend.loop" #[[.ref S,.ref e,res],[]])) _ _ _;refine aeM (akH ?_);refine aeM ?_;show afe _ A.in1 (ajD S (·.push .none) >>= λy=>ajD S (·.pop)) _ _ _;refine aeM (agS hS Y ?_);have LP:=afE (agm (·.push Value.none)) hS rfl;refine agS LP Y ?_;have Xj:=afE (agm (·.pop)) LP rfl;have mR:∀ b o,b≠S->s.heap.get? b=U o->((s.heap.update S (agm (·.push Value.none))).update S (agm (·.pop))).get? b=U o :=
  λb o hb e=>(aff _ _ (afR hb)).trans ((aff _ _ (afR hb)).trans e)
 have sz:((s.heap.update S (agm (·.push Value.none))).update S (agm (·.pop))).objs.size=s.heap.objs.size:=by rw[(agi ..).1,(agi ..).1]
 refine aeR #[agM ag7 _,Xc (s:=s) (l:=l) (it:=it) (lo:=s.heap.objs.size) (items:=items) (h₁:=s.heap) hh bN sL sM yW hle nX (aeU hS) (aeU he) (let ⟨_,q,_⟩:=hit;aeU q) hn res hR
  items.size 0 _ s.toks _ (List.toArray []) [] Y (afi _) (.inl #[old,mR _ _ (afR sL) he]) (hit.at λo q=>mR it o (afR sM) q) (hl.at λo q=>mR l o yW q) (λb o h1 y y q=>mR b o h1 q) Xj Y Y #[.nil,(λy h=>nomatch h),λj a h=>by cases h] (by rw[sz];exact aeV _)]
theorem Xk(hh:A.handled=O)(old:aeX)(he:IsEnum s.heap e it 0 old)(hit:s.heap.IsListIter it l 0)(hl:s.heap.IsList l items)(bN:e≠it)(hle:l≠e)(nX:l≠it)(hn:items.size<=afl)(hQ:∀ g tk acc c as,(∀ b o,b≠e->b≠it->s.heap.get? b=U o->g.get? b=U o)->g.get? s.heap.objs.size=U { cls:=.type "list",dict:=O,data:=.seq acc c,slots:=(List.toArray []) }->as.length=items.size->mQ items (s.heap.objs.size+1) g as ->
 acc.toList=as.map aft->Q (.ref s.heap.objs.size) { s with heap:=g,toks:=tk }) :
 afe (model prog w) A (call (.type "list") [.ref e]) Q E s:=by
 have le:e<s.heap.objs.size:=aeU he;have li:it<s.heap.objs.size:=let ⟨_,q,_⟩:=hit;aeU q;have ll:l<s.heap.objs.size:=let ⟨_,q,_⟩:=hl;aeU q;refine callType_codes (Q₁:=λy s₁=>y = .ref s.heap.objs.size/\s₁ = { s with heap:=s.heap.push { cls:=.type "list",data:=.seq (List.toArray []) } }) PySem.F.called_list (PySem.F.typeCall_list_1 _) PySem.F.entry_list_init (code_list_new _ #[Y,Y]) λy s₁ h₁=>?_;obtain⟨rfl,rfl⟩:=h₁;have e0:(s.heap.push { cls:=.type "list",data:=.seq (List.toArray []) }).get? s.heap.objs.size=U { cls:=.type "list",data:=.seq (List.toArray []) }:=aeZ _ rfl;refine#[#[_,e0,Y],PySem.F.args_list_init_2 _ _,?_];show afe _ A.in1.in1 (do let z <- akh (.ref s.heap.objs.size);ana (.ref s.heap.objs.size) (λv=>(List.toArray []));letGo z.toList.reverse;agU (.ref s.heap.objs.size) (.ref e) .none) _ _ _;refine aeM ?_;unfold akh;refine aeM (ahQ e0 Y (aeR ?_));refine aeM (m:=ajD s.heap.objs.size (λv=>(List.toArray []))) (agS e0 Y ?_);have e1:=afE (agm (λv=>((List.toArray []):Array aeX))) e0 rfl;have mR:∀ b o,b≠s.heap.objs.size->s.heap.get? b=U o->((s.heap.push { cls:=.type "list",data:=.seq (List.toArray []) }).update s.heap.objs.size (agm (λv=>((List.toArray []):Array aeX)))).get? b=U o :=
  λb o hb e=>(aff _ _ (afR hb)).trans (aeS _ e)
 have sz:((s.heap.push { cls:=.type "list",data:=.seq (List.toArray []) }).update s.heap.objs.size (agm (λv=>((List.toArray []):Array aeX)))).objs.size=s.heap.objs.size+1:=by rw[(agi ..).1,size_push']
 refine aeM (ajT ?_);exact Xi (A:=A.in1) hh old (mR e _ (afa le) he) (hit.at λo q=>mR it o (afa li) q) (hl.at λo q=>mR l o (afa ll) q) bN hle nX s.heap.objs.size (af3 le) (af3 li) (afa ll) .none _ e1 hn
  λg tk acc c as hk hS n0 hG jJ=>#[Y,hQ g tk acc c as (λb o h1 h2 q=>hk b o (afa (aeU q)) h1 h2 (mR b o (afa (aeU q)) q)) hS n0 (by rw[<- sz];exact hG) jJ]
theorem Inv.LQ(I:Inv X pins J H s)(hf:fk X pins H T)(new:b9 X.prog X.w (upd H T o) s.heap T o):Inv X pins J (upd H T o) s:=by
 have mn:∀ b u,H b=U u->b≠T:=λb u e=>jW e hf.1;have up:∀ b u,H b=U u->upd H T o b=U u:=λb u e=>by rw[aI (mn b u e)];exact e
 refine I.step (g':=s.gens) (t':=s.toks) (d':=s.drawn) (h':=s.heap) (ch:=[T]) (λb hb=>?_) (λb o y y hc e y=>e) (λb o y y hc e y=>#[o.slots,e]) (λb u hc e n=>by rw[aI (by simpa using hc)];exact n)
  (λb o hc e=>#[o,e]) (λb xs e=>up b _ e) (λb y y e=>up b _ e) (λb ps e=>#[(List.toArray []),by rw[up b _ e];simp]) (λm hm=>hm) (λb u e=>?_) I.bare
 .obtain rfl:b=T:=by simpa using hb
  obtain⟨y,d1,d2,d3,d4,d5⟩:=hf;exact#[d3,d1,d4,d5]
 .by_cases hb:b=T
  .subst hb;rw[ar] at e;cases e;exact new
  .rw[aI hb] at e;exact (I.aB b u e).ju (λc v hc q=>q) (λc q=>up c _ q) λc xs q=>up c _ q
theorem Xl(h:fk X pins H b)(hb:b≠T):fk X pins (upd H T o) b:=#[by rw[aI hb];exact h.1,h.2]
theorem LR:∀ (as:List ae0) (xs:List V) (us:List aeX) (i:Nat) (H:Hp),Inv X pins J H s->Vals xs us->as.length=xs.length->as.Pairwise (· < ·)->(∀ a∈as,fk X pins H a) ->
 (∀ j a u,as[j]?=U a->us[j]?=U u->∃ t,s.heap.get? a=U { cls:=.type "tuple",data:=.seq (List.toArray [.int ((i+j:Nat):Int) t,u]) }) ->
 ∃ H',ah H H'/\Inv X pins J H' s/\(∀ b,b∉as->H' b=H b)/\∀ j a x,as[j]?=U a->xs[j]?=U x->H' a=U (.tup [.int ((i+j:Nat):Int),x])
 | [],[],us,i,H,I,r,hl,hp,hf,ht=>#[H,λc c e=>e,I,λc c=>rfl,λj a x h=>by cases h]
 | [],_::_,us,i,H,I,r,hl,hp,hf,ht=>by cases hl
 | _::_,[],us,i,H,I,r,hl,hp,hf,ht=>by cases hl
 | a::as,x::xs,us,i,H,I,r,hl,hp,hf,ht=>by
  cases us with
  | nil=>cases r
  | cons u us =>
  cases r with
  | cons r rs =>
  obtain⟨a8,eK⟩:=alp.mp hp;have na:∀ b∈as,b≠a:=λb hb=>af3 (a8 b hb);obtain⟨t,h0⟩:=ht 0 a u Y rfl;have I1:=Inv.LQ (o:=.tup [.int ((i+0:Nat):Int),x]) I (hf a (.head _)) #[BO,[.int ((i+0:Nat):Int) t,u],.cons #[_,Y] (.cons r .nil),#[_,h0,Y,_,Y]];obtain⟨H',s1,I2,k1,k2⟩:=LR as xs us (i+1) _ I1 rs (by simpa using hl) eK (λb hb=>Xl (hf b (.tail _ hb)) (na b hb)) λj b v e1 e2=>by obtain⟨t',q⟩:=ht (j+1) b v e1 e2;exact#[t',by rw[show i+1+j=i+(j+1) by lia];exact q]
  refine#[H',λb v e=>s1 b v (by rw[aI (jW e (hf a (.head _)).1)];exact e),I2,λb hb=>?_,λj b y e1 e2=>?_]
  .rw[k1 b (λz=>hb (.tail _ z)),aI (λz=>hb (by rw[z];exact .head _))]
  .cases j with
   | zero =>
    cases e1;cases e2;rw[k1 a (λz=>na a z Y),ar]
   | succ j =>
    have:=k2 j b y e1 e2;rw[show i+1+j=i+(j+1) by lia] at this;exact this
end
theorem LS:∀ as:List ae0,Vals (as.map V.ref) (as.map aft)
 | []=>.nil
 | _::as=>.cons rfl (LS as)
def LU(K:aeN)(ta:TA):TE:=λJ H Q=>ta J H λvs H1=>∃ a xs,vs=[.ref a]/\ai K H1 a xs/\∀ l ys H',ah H1 H'->H1 l=O->H' l=U (.lst ys)->ys.length=xs.length ->
 (∀ j y x,ys[j]?=U y->xs[j]?=U x->∃ p,y = .ref p/\H1 p=O/\H' p=U (.tup [.int (j:Nat),x]))->Q (.ref l) H'
theorem Xm(hc:X.calm=true)(hg:Gl X "list")(hm:X.mg "list" = O)(vq:Gl X "enumerate")(mO:X.mg "enumerate" = O)(ha:PA X [e] ta)(hs:afb [.Call (.Name "enumerate" p2) [e] [] iN] X.env=[(false,eval (.Call (.Name "enumerate" p2) [e] [] iN) X.env)]:=by rfl)(dO:afb [e] X.env=[(false,eval e X.env)]:=by rfl) :
 PE X (.Call (.Name "list" p) [.Call (.Name "enumerate" p2) [e] [] iN] [] pos) (LU X.K ta):=by
 intro pins s J H Q I h;refine anv (gG I hg hm nH (afw ?_ hs Y));rw[hs];show afe _ _ (spliced ((false,eval (.Call (.Name "enumerate" p2) [e] [] iN) X.env)::agA pos [])) _ _ s;refine agZ (anv (gG I vq mO Iv (afw (aF (ha iN pins s J H _ I h) λus s1 zq=>?_) dO Y)));obtain⟨vs,H1,I1,r1,q1⟩:=zq;obtain⟨a,xs,rfl,hq,q⟩:=q1;obtain⟨u,rfl,ru⟩:=vals1 r1;cases ru;obtain⟨aw,rv,pl,hz⟩:=I1.list hq;refine ak1 pl.isList λh' he hit hsz hk=>?_;refine aha ?_;have la:a<s1.heap.objs.size:=let ⟨_,e,_⟩:=pl.isList;aeU e;refine Xk (s:={ s1 with heap:=h' }) (l:=a) (items:=aw.toArray) (I1.ok.hd hc) .none he hit (pl.isList.at λo e=>hk a o e) (al5 _) (afa (ahe la)) (afa la) (by rw[ae3,<- rv.length];exact hz) λg tk acc c as kr hD n0 hG jJ=>?_;have up:∀ b o,s1.heap.get? b=U o->g.get? b=U o:=λb o e=>kr b o (afa (ahe (aeU e))) (afa (aeU e)) (hk b o e);have I2:Inv X pins J H1 { s1 with heap:=g,toks:=tk }:=I1.kept (t':=tk) up;have CZ:∀ b∈as,s1.heap.objs.size<=b:=λb hb=>by have:=hG.above b hb;have e:({ s1 with heap:=h' }:ae4).heap.objs.size=s1.heap.objs.size+2:=hsz;walk_at "o"
 obtain⟨H',s2,I3,k1,k2⟩:=LR as xs aw 0 H1 I2 rv (by rw[n0,ae3];exact rv.length.symm) hG.rise (λb hb=>I1.jx (CZ b hb) (I1.aB.fresh (CZ b hb))) λj b v e1 e2=>by
  obtain⟨t,x,e3,e4⟩:=hG.pairs j b e1;have:x=v:=by simpa [e2] using e3.symm
  subst this;exact#[t,by rw[anq];exact e4]
 have hl:s1.heap.objs.size<=h'.objs.size:=by rw[hsz];exact Nat.le_add_right _ _
 have nl:h'.objs.size∉as:=λz=>absurd (hG.above _ z) (Nat.not_succ_le_self _);have f0:=I1.aB.fresh hl;have LV:as.length=xs.length:=by rw[n0,ae3];exact rv.length.symm
 refine#[.ref h'.objs.size,upd H' h'.objs.size (.lst (as.map V.ref)),Inv.LQ I3 (I1.jx hl (by rw[k1 _ nl];exact f0)) #[by rw[aeO,LV];exact hz,acc.toList,c,?_,by rw[Array.toArray_toList];exact hD],Y,q _ (as.map V.ref) _ (λb v e=>?_) f0 (ar ..) (by rw[aeO,LV]) λj y x e1 e2=>?_]
 .rw[jJ];exact LS as
 .rw[aI (jW e f0)];exact s2 b v e
 .rw[ae5] at e1;obtain⟨b,hb,rfl⟩:=afv.mp e1;have hm:=ae8 hb;refine#[b,Y,I1.aB.fresh (CZ b hm),?_];rw[aI (λz=>nl (by rw[<- z];exact hm))];have:=k2 j b x hb e2;rw[anq] at this;exact this
def n4:L2.St->Nat->(V->Prop)->Prop
 | [],_,_=>False
 | x::_,0,Q=>match x with|some v=>Q v|none=>False
 | _::J,n+1,Q=>n4 J n Q
def cV(x:V)(Q:Int->Prop):Prop:=match x with|.int i=>Q i|_=>False
def pV(x:V)(Q:Bool->Prop):Prop:=match x with|.bl i=>Q i|_=>False
def vB(x:V)(Q:ae0->Prop):Prop:=match x with|.ref i=>Q i|_=>False
def Xn(xs:List V)(Q:V->Prop):Prop:=match xs with|[x]=>Q x|_=>False
def Xo(xs:List V)(Q:V->V->Prop):Prop:=match xs with|[x,y]=>Q x y|_=>False
def n5(x:V)(Q:Bool->Prop):Prop:=match x with|.non=>Q true|_=>Q false
def lF(x:V)(Q:Bool->Prop):Prop:=match x with|.non=>Q false|_=>Q true
section
theorem Xq:n4 (U v::J) 0 Q=Q v:=rfl
theorem Xr:n4 (o::J) (n+1) Q=n4 J n Q:=rfl
theorem Xs:cV (.int i) QI=QI i:=rfl
theorem Xt:pV (.bl b) QB=QB b:=rfl
theorem Xu:vB (.ref a) QR=QR a:=rfl
theorem Xv:Xn [x] Q=Q x:=rfl
theorem Xw:Xo [x,y] Q2=Q2 x y:=rfl
theorem Xx:n5 .non QB=QB true:=rfl
theorem Xy:n5 (.int i) QB=QB false:=rfl
theorem Xz:n5 (.bl b) QB=QB false:=rfl
theorem XA:n5 (.ref a) QB=QB false:=rfl
theorem XB:lF .non QB=QB false:=rfl
theorem XD:lF (.int i) QB=QB true:=rfl
theorem XE:lF (.bl b) QB=QB true:=rfl
theorem XF:lF (.ref a) QB=QB true:=rfl
theorem XG:lF (.str s) QB=QB true:=rfl
theorem XH:n5 (.str s) QB=QB false:=rfl
theorem n4.ex:∀ {J:L2.St} {n:Nat},n4 J n Q->∃ v,J[n]?=U (U v)/\Q v
 | [],_,h=>h.elim
 | some v::_,0,h=>#[v,Y,h]
 | none::_,0,h=>h.elim
 | _::J,n+1,h=>n4.ex (J:=J) (n:=n) h
theorem cV.ex(h:cV x QI):∃ i,x = .int i/\QI i:=by cases x<;>first|exact#[_,Y,h]|exact h.elim
theorem pV.ex(h:pV x QB):∃ i,x = .bl i/\QB i:=by cases x<;>first|exact#[_,Y,h]|exact h.elim
theorem vB.ex(h:vB x QR):∃ i,x = .ref i/\QR i:=by cases x<;>first|exact#[_,Y,h]|exact h.elim
theorem lF.ex(h:lF x QB):QB (!decide (x = .non)):=by cases x<;>exact h
theorem n5.ex(h:n5 x QB):QB (decide (x = .non)):=by cases x<;>exact h
end
section
variable{X:Cx}{e a b c:aiF}{pos:Pos}{ta tb tc:TE}{op jB:CmpOp}
theorem LW(h:Q (uV x)):lF x Q:=by cases x<;>exact h
theorem C0{c:Prop}[Decidable c]{Q:Bool->Prop}(h:Q (decide c)):if c then Q true else Q false:=by
 by_cases z:c
 .rw[decide_eq_true z] at h;exact (show _=_ from if_pos z).mpr h
 .rw[decide_eq_false z] at h;exact (show _=_ from if_neg z).mpr h
def XI(t:TE):TE:=λJ H Q=>∃ Q':VK,(∀ v H1,Q' v H1->Q v H1)/\t J H Q'
theorem fO(h:PE X e ta):PE X e (XI ta):=λpins s J H Q I ⟨Q',k,q⟩=>aF (h pins s J H Q' I q) λ_ _ ⟨x,H1,I1,r1,q1⟩=>#[x,H1,I1,r1,k _ _ q1]
theorem vC(h:PE X e ta)(k:∀ J H Q,t' J H Q->ta J H Q):PE X e t':=λpins s J H Q I q=>h pins s J H Q I (k J H Q q)
theorem pW(h:PT X e t)(k:∀ J H Q,t' J H Q->t J H Q):PT X e t':=λpins s J H Q I q=>h pins s J H Q I (k J H Q q)
theorem C1(h:bB X f r)(k:∀ x y H Q,r' x y H Q->r x y H Q):bB X f r':=λpins s J H x y v u Q I rx ry q=>h pins s J H x y v u Q I rx ry (k _ _ _ _ q)
def LX(i:Nat):TE:=λJ H Q=>n4 J i λv=>Q v H
theorem aa(i:Nat)(hN:X.N[i]?=U x:=by rfl)(hv:xk X.env.scope x:=by first|exact aiz rfl|exact alU (aiz Y)|exact alU (alU Y))(hd:(x == ("__debug__" : Str))=false:=by decide)(ia:(x == ("__classdict__" : Str))=false:=by decide):PE X (.Name x pos) (LX i):=vC (pv i hN hv hd ia) λy y y h=>h.ex
def vD(C:Int->Int->Prop)(g:Int->Int->V):R2:=λx y H Q=>cV x λi=>cV y λj=>C i j/\Q (g i j) H
def yX(g:Int->Int->V):R2:=λx y H Q=>cV x λi=>cV y λj=>Q (g i j) H
def C2(g:Int->V):V->Hp->VK->Prop:=λx H Q=>cV x λi=>Q (g i) H
def C3(p:Int->Int->Prop)[∀ i j,Decidable (p i j)]:R2:=λx y H Q=>cV x λi=>cV y λj=>if p i j then Q (.bl true) H else Q (.bl false) H
theorem C4(h:bB X f (rI C g)):bB X f (vD C g):=C1 h λx y H Q q=>by obtain⟨i,rfl,q1⟩:=cV.ex q;obtain⟨j,rfl,q5⟩:=cV.ex q1;exact#[i,j,Y,Y,q5]
theorem lG(h:bB X f (iE g)):bB X f (yX g):=C1 h λx y H Q q=>by obtain⟨i,rfl,q1⟩:=cV.ex q;obtain⟨j,rfl,q5⟩:=cV.ex q1;exact#[i,j,Y,Y,q5]
theorem C5[∀ i j,Decidable (p i j)](h:bB X f (iE λi j=>.bl (decide (p i j)))):bB X f (C3 p):=C1 h λx y H Q q=>by
 obtain⟨i,rfl,q1⟩:=cV.ex q;obtain⟨j,rfl,q5⟩:=cV.ex q1;clear q q1;refine#[i,j,Y,Y,?_];by_cases z:p i j
 .rw[if_pos z] at q5;show Q (.bl (decide (p i j))) H;rw[decide_eq_true z];exact q5
 .rw[if_neg z] at q5;show Q (.bl (decide (p i j))) H;rw[decide_eq_false z];exact q5
theorem XJ(h:rA X f (rU g)):rA X f (C2 g):=λpins s J H x v Q I rx q=>h pins s J H x v Q I rx q.ex
theorem bV:bB X (ahV .Add) (yX λi j=>.int (i+j)):=lG Qv
theorem dG:bB X (ahV .Sub) (yX λi j=>.int (i-j)):=lG Qw
theorem yY:bB X (ahV .Mod) (vD (λy j=>0<j) λi j=>.int (i % j)):=C4 Qx
theorem ik:bB X (ahV .Mult) (vD rG λi j=>.int (i * j)):=C4 RO
theorem LY:bB X (ahV .Mult) (vD se λi j=>.int (i * j)):=C4 Uh
theorem jP:rA X (unaryOp .USub) (C2 λi=>.int (-i)):=XJ Qz
def LZ(t:TE):TT:=λJ H Q=>t J H λx H'=>pV x λk=>Q k H'
theorem bO(h:PE X e ta)(he:∀ whole,anf e X.env whole=(do let v <- whole;akm e.pos;holding [v] (truthy v)):=by intro y;rfl):PT X e (LZ ta):=pW (Qh (fO h) he) λJ H Q q=>#[_,λy y h=>h.ex,q]
def sN(p:Int->Int->Prop)[∀ i j,Decidable (p i j)](ta tb:TE):TT:=λJ H Q=>ta J H λx H1=>tb J H1 λy H2=>cV x λi=>cV y λj=>if p i j then Q true H2 else Q false H2
theorem L3{p:Int->Int->Prop}[∀ i j,Decidable (p i j)]{x y:V}{H:Hp}{Q:Bool->Hp->Prop}(q:cV x λi=>cV y λj=>if p i j then Q true H else Q false H):C3 p x y H (λz H'=>∃ k,z = .bl k/\Q k H'):=by
 obtain⟨i,rfl,q1⟩:=cV.ex q;obtain⟨j,rfl,q5⟩:=cV.ex q1;clear q q1;by_cases z:p i j
 .rw[if_pos z] at q5;exact (show _=_ from if_pos z).mpr #[_,Y,q5]
 .rw[if_neg z] at q5;exact (show _=_ from if_neg z).mpr #[_,Y,q5]
theorem yZ[∀ i j,Decidable (p i j)](ho:bB X (af6 op) (iE λi j=>.bl (decide (p i j))))(ha:PE X a ta)(hb:PE X b tb)(hm:agY op b=false):PT X (.Compare a [op] [b] pos) (sN p ta tb) :=
 pW (l8 (C5 ho) (fO ha) (fO hb) hm) λJ H Q q=>#[_,λx H1 q1=>#[_,λy H2 q2=>L3 q2,q1],q]
theorem lH(ha:PE X a ta)(hb:PE X b tb):PT X (.Compare a [.Lt] [b] pos) (sN (λi j=>i<j) ta tb):=yZ Bb ha hb (d8 _)
theorem XM(ha:PE X a ta)(hb:PE X b tb):PT X (.Compare a [.LtE] [b] pos) (sN (λi j=>i<=j) ta tb):=yZ gH ha hb (d8 _)
theorem pX(ha:PE X a ta)(hb:PE X b tb):PT X (.Compare a [.Gt] [b] pos) (sN (λi j=>j<i) ta tb):=yZ xF ha hb (d8 _)
theorem L6(ha:PE X a ta)(hb:PE X b tb):PT X (.Compare a [.GtE] [b] pos) (sN (λi j=>j<=i) ta tb):=yZ Hi ha hb (d8 _)
def eqT(x y:V)(Q:Bool->Prop):Prop:=match x with
 | .int i=>(match y with|.int j=>if i=j then Q true else Q false|.non=>Q false|.str _=>Q false|_=>False)
 | .str i=>(match y with|.str j=>if i=j then Q true else Q false|.non=>Q false|.int _=>Q false|_=>False)
 | .bl i=>(match y with|.bl j=>if i=j then Q true else Q false|.non=>Q false|_=>False)
 | .non=>(match y with|.non=>Q true|.int _=>Q false|.bl _=>Q false|.str _=>Q false|_=>False)
 | _=>False
def neT(x y:V)(Q:Bool->Prop):Prop:=match x with
 | .int i=>(match y with|.int j=>if ¬ i=j then Q true else Q false|.non=>Q true|.str _=>Q true|_=>False)
 | .str i=>(match y with|.str j=>if ¬ i=j then Q true else Q false|.non=>Q true|.int _=>Q true|_=>False)
 | .bl i=>(match y with|.bl j=>if ¬ i=j then Q true else Q false|.non=>Q true|_=>False)
 | .non=>(match y with|.non=>Q false|.int _=>Q true|.bl _=>Q true|.str _=>Q true|_=>False)
 | _=>False
section
theorem XN:eqT (.int i) (.int j) Q=if i=j then Q true else Q false:=rfl
theorem XO:eqT (.str s) (.str t) Q=if s=t then Q true else Q false:=rfl
theorem XQ:eqT (.bl b') (.bl b1) Q=if b'=b1 then Q true else Q false:=rfl
theorem XR:eqT .non .non Q=Q true:=rfl
theorem XS:eqT .non (.int j) Q=Q false:=rfl
theorem XT:eqT (.int i) .non Q=Q false:=rfl
theorem XU:eqT (.int i) (.str s) Q=Q false:=rfl
theorem XW:eqT .non (.str s) Q=Q false:=rfl
theorem XX:neT (.int i) (.int j) Q=if ¬ i=j then Q true else Q false:=rfl
theorem XY:neT (.str s) (.str t) Q=if ¬ s=t then Q true else Q false:=rfl
theorem XZ:neT .non .non Q=Q false:=rfl
theorem X0:neT .non (.int j) Q=Q true:=rfl
theorem X2:neT (.int i) .non Q=Q true:=rfl
theorem L8{c:Prop}[Decidable c]{Q:Bool->Prop}(q:if c then Q true else Q false):Q (decide c):=by
 by_cases z:c
 .rw[if_pos z] at q;rw[decide_eq_true z];exact q
 .rw[if_neg z] at q;rw[decide_eq_false z];exact q
theorem eqT.ex(h:eqT x y Q):l6 x y=true/\Q (decide (x=y)):=by
 cases x<;>cases y<;>first
  | exact h.elim
  | exact#[Y,h]
  | (refine#[Y,?_];have:=L8 h;simpa using this)
theorem neT.ex(h:neT x y Q):l6 x y=true/\Q (!decide (x=y)):=by
 cases x<;>cases y<;>first
  | exact h.elim
  | exact#[Y,h]
  | (refine#[Y,?_];have:=L8 h;simpa using this)
end
def L9(ta tb:TE):TT:=λJ H Q=>ta J H λx H1=>tb J H1 λy H2=>eqT x y λk=>Q k H2
def Ma(ta tb:TE):TT:=λJ H Q=>ta J H λx H1=>tb J H1 λy H2=>neT x y λk=>Q k H2
theorem bp(ha:PE X a ta)(hb:PE X b tb):PT X (.Compare a [.Eq] [b] pos) (L9 ta tb) :=
 pW (l8 oZ (fO ha) (fO hb) (d8 _)) λJ H Q q=>#[_,λx H1 q1=>#[_,λy H2 q2=>#[(eqT.ex q2).1,_,Y,(eqT.ex q2).2],q1],q]
theorem gP(ha:PE X a ta)(hb:PE X b tb):PT X (.Compare a [.NotEq] [b] pos) (Ma ta tb) :=
 pW (l8 QA (fO ha) (fO hb) (d8 _)) λJ H Q q=>#[_,λx H1 q1=>#[_,λy H2 q2=>#[(neT.ex q2).1,_,Y,(neT.ex q2).2],q1],q]
def Mb(ta:TE):TT:=λJ H Q=>ta J H λx H1=>n5 x λk=>Q k H1
def Mc(ta:TE):TT:=λJ H Q=>ta J H λx H1=>lF x λk=>Q k H1
theorem eO(ha:PE X a ta):PT X (.Compare a [.Is] [.Constant .none j pos'] pos) (Mb ta):=pW (AY (oV (fO ha))) λJ H Q q=>#[_,λx H1 q1=>#[_,Y,q1.ex],q]
theorem gQ(ha:PE X a ta):PT X (.Compare a [.IsNot] [.Constant .none j pos'] pos) (Mc ta):=pW (AY (ug (fO ha))) λJ H Q q=>#[_,λx H1 q1=>#[_,Y,lF.ex q1],q]
def Md(p q:Int->Int->Prop)[∀ i j,Decidable (p i j)][∀ i j,Decidable (q i j)](ta tb tc:TE):TT:=λJ H Q=>ta J H λx H1=>tb J H1 λy H2=>cV x λi=>cV y λj=>if p i j then (tc J H2 λz H3=>cV z λk=>if q j k then Q true H3 else Q false H3) else Q false H2
theorem C6[∀ i j,Decidable (p i j)][∀ i j,Decidable (q i j)](ho:bB X (af6 op) (iE λi j=>.bl (decide (p i j))))(di:bB X (af6 jB) (iE λi j=>.bl (decide (q i j))))(ha:PE X a ta)(hb:PE X b tb)(hc:PE X c tc)(hm:ama [op,jB] [b,c]=false:=by with_unfolding_all rfl):PT X (.Compare a [op,jB] [b,c] pos) (Md p q ta tb tc) :=
 pW (QC (C5 ho) (C5 di) (fO ha) (fO hb) (fO hc) hm) λJ H Q q=>#[_,λx H1 q1=>#[_,λy H2 q2=>by
  obtain⟨i,rfl,q3⟩:=cV.ex q2;obtain⟨j,rfl,q5⟩:=cV.ex q3;clear q2 q3;by_cases z:p i j
  .rw[if_pos z] at q5;exact (show _=_ from if_pos z).mpr #[_,Y,_,λw' H4 q4=>by
    obtain⟨k,rfl,y⟩:=cV.ex q4;exact L3 (x:=.int j) q4,q5]
  .rw[if_neg z] at q5;exact (show _=_ from if_neg z).mpr #[_,Y,#[_,Y,q5]],q1],q]
variable{rest:List aiF}
def Me(ta tb:TE):TE:=λJ H Q=>ta J H λx H1=>pV x λc=>if c=true then tb J H1 Q else Q (.bl false) H1
def Mf(ta tb:TE):TE:=λJ H Q=>ta J H λx H1=>pV x λc=>if c=true then Q (.bl true) H1 else tb J H1 Q
def Mg(ta:TE):TE:=λJ H Q=>ta J H λx H1=>pV x λc=>Q (.bl (!c)) H1
theorem gR(ha:PE X a ta)(hb:PE X (.BoolOp .And (b::rest) pos) tb):PE X (.BoolOp .And (a::b::rest) pos) (Me ta tb):=vC (Qi (fO ha) hb) λJ H Q q=>#[_,λx H1 q1=>q1.ex,q]
theorem vE(ha:PE X a ta)(hb:PE X (.BoolOp .Or (b::rest) pos) tb):PE X (.BoolOp .Or (a::b::rest) pos) (Mf ta tb):=vC (Qj (fO ha) hb) λJ H Q q=>#[_,λx H1 q1=>q1.ex,q]
theorem sP(ha:PE X a ta):PE X (.UnaryOp .Not a pos) (Mg ta):=vC (Qk (fO ha)) λJ H Q q=>#[_,λx H1 q1=>q1.ex,q]
def Mh(K:aeN)(ta:TE)(f:Str):TE:=λJ H Q=>ta J H λx H1=>vB x λa=>∃ C dx fs,H1 a=U (.ins C dx fs)/\bR K C/\cc K C f/\∃ v,fs.lookup f=U v/\Q v H1
theorem b6{f:Str}{K:aeN}(hK:X.K=K)(he:PE X e ta)(hb:ah7 e f X.env (eval e X.env)=eval e X.env):PE X (.Attribute e f pos) (Mh K ta f):=by
 subst hK;exact vC (QV (fO he) hb) λJ H Q q=>#[_,λx H1 q1=>by
  obtain⟨a,rfl,C,dx,fs,h1,h2,h3,v,h4,q2⟩:=q1.ex;exact#[a,C,dx,fs,v,Y,h1,h2,h3,h4,q2],q]
def Mi(K:aeN)(ta tv:TE)(f:Str):TS:=λD J H=>tv J H λy H1=>ta J H1 λx H2=>vB x λa=>∃ C dx fs,H2 a=U (.ins C dx fs)/\bR K C/\cc K C f/\fs.length<1000 /\
 D.nx J (upd H2 a (.ins C dx (fZ f y fs)))
theorem jg(ha:PE X o ta)(hv:PE X value tv)(hs:aiS value (U (.Attribute o f pos')) pos.line X.env=pure false):PS X (.Assign [.Attribute o f pos'] value pos) (Mi X.K ta tv f):=λpins s J H D I h =>
 QW (fO ha) (fO hv) hs pins s J H D I #[_,λy H1 q1=>#[_,λx H2 q2=>by
  obtain⟨a,rfl,C,dx,fs,h⟩:=q2.ex;exact#[a,C,dx,fs,Y,h],q1],h]
end
section
variable{X:Cx}{K:aeN}{a b e:aiF}{es:List aiF}{ta tb:TE}{t:TA}{pos p:Pos}
theorem ak(ha:PE X a ta)(hb:PE X b tb)(hs:Bk b:=by exact λy y=>rfl):PE X (.Subscript a b pos) (oY (kS X.K) ta tb):=bG bH ha hb hs
theorem bW(ha:PE X a ta)(hb:PE X b tb)(h:X.K=K:=by rfl)(hs:Bk b:=by exact λy y=>rfl):PE X (.Subscript a b pos) (oY (kS K) ta tb):=bG (SN h) ha hb hs
end
structure Fn(K:aeN)(mg:Str->Option aeX)(x:Str)(st:ajO)(ps:List Str) where
 a:ae0
 fd:ahI
 F:pd K x x st a fd
 m:mg x=U (.ref a)
 b:Binds K fd ps []
structure Fm(K:aeN)(x q:Str)(st:ajO)(ps:List Str) where
 a:ae0
 fd:ahI
 F:pd K x q st a fd
 b:Binds K fd ps []
section
theorem X4{CX:iF}{k n:Nat}{ps:List Str}{sp:Sp}{x:Str}{st:ajO}(N:Fn X.K X.mg x st ps)(F:d9 X.prog X.w X.K X.mg X.base CX k N.a N.fd ps sp)(hr:bc n X.A)(hx:Passes CX X E0)(ha:PA X (e::es) t)
 (hk:k<=n:=by decide) (hg:Gl X x:=by rfl) (f6:(x == ("__debug__" : Str))=false:=by decide) (he:afb (e::es) X.env=(false,eval e X.env)::afb es X.env:=by rfl) (dz:(agA pos (afb es X.env)).any (·.1)=false:=by rfl) :
 PE X (.Call (.Name x p) (e::es) [] pos) (rD sp [] E0 t):=dw F (hr.mono hk) hg N.m N.F.kp N.b .nil hx ha f6 he dz
end
theorem X5{α:Type}{n:Nat}{p:List α->Prop}(h:∀ u vs,vs.length=n->p (u::vs)):∀ us:List α,us.length=n+1->p us
 | u::vs,e=>h u vs (Nat.succ.inj e)
theorem X6{α:Type}{p:List α->Prop}(h:p []):∀ us:List α,us.length=0->p us
 | [],_=>h
structure Sc(N ps:List Str)(st:ajO):Prop extends ux N ps (eW st) where
 b:∀ (x q:Str) (kV doc pm:aeX) (an:Option ae0) (bf ct:aeX) (us:List aeX),us.length=ps.length->bindArgs (ahy x q (rF st) (jE st) (eW st) .none kV doc pm an bf ct) #[us,[]]=pure (ps.zip us)
section
variable{P:afG}{w:agn}{K:aeN}{mg:Str->Option aeX}{base h:ag3}{x q:Str}{st:ajO}{N ps:List Str}{k:Nat}{sp:Sp}{C:ae0}
inductive Fb(K:aeN)(x q:Str)(st:ajO)(p:ae0->Prop):Prop
 | mk {f:ae0} {od an:Option ae0} {sl:Array (Option aeX)} {oc kV dc pm cd ct:aeX} (_:p f) (_:K.lookup f=U #[oc,od,.func (ahy x q (rF st) (jE st) (eW st) .none kV dc pm an cd ct),sl]) (_:ajp K cd q=true) (_:af2 K (.ref f)=true)
def Mj(K:aeN)(x:Str)(f:ae0):Prop:=afo K afc x=U (U (.ref f))
def dg(K:aeN)(C:ae0)(x:Str)(f:ae0):Prop:=afg K (.ref C) x=U (U (.ref f))/\akn K (.ref f)=true
theorem Fb.fn(b:Fb K x x st (Mj K x))(X:K.In h)(G:h.Ns afc mg)(S:Sc N ps st):Nonempty (Fn K mg x st ps) :=
 let ⟨a,l,c,k⟩:=b;#[#[_,_,nG l c k,afL X G a,(nG l c k).binds (S.b x x)]]
theorem Fb.fm(b:Fb K x q st (dg K C x))(S:Sc N ps st):∃ F:Fm K x q st ps,dg K C x F.a :=
 let ⟨a,l,c,k⟩:=b;#[#[_,_,nG l c k,(nG l c k).binds (S.b x q)],a]
theorem Fn.bt{y:Str}(F:Fn K mg x st [y])(S:Sc N [y] st)(s:ae4)(v:aeX):alA s F.fd #[[v],[]] [(y,v)]:=by obtain⟨oc,od,kV,doc,pm,an,bf,ct,kQ,e,lk,ia⟩:=F.F.ex;rw[e];exact .of_eq (S.b _ _ _ _ _ _ _ _ [v] Y)
abbrev Ok(P:afG)(w:agn){K:aeN}{mg:Str->Option aeX}(base:ag3)(k:Nat){x:Str}{st:ajO}{ps:List Str}(F:Fn K mg x st ps)(sp:Sp):Prop:=d9 P w K mg base (ed P w) k F.a F.fd ps sp
abbrev Om(P:afG)(w:agn){K:aeN}(mg:Str->Option aeX)(base:ag3)(k:Nat){x q:Str}{st:ajO}{ps:List Str}(F:Fm K x q st ps)(sp:Sp):Prop:=d9 P w K mg base (ed P w) k F.a F.fd ps sp
theorem bb{F:Fn K mg x st ps}(S:Sc N ps st)
 (i5:∀ (bf:aeX) (A:agD) (outer:List Env) (s:ae4) (H:Hp) (vs:List V) (Q:VK) (E:XK),bc k (A.deeper (agJ x (eW st) s.heap.objs.size F.a bf))->sp vs H Q E ->
   ∃ t,aS (f7 (ed P w) P w K mg base N x (eW st) F.a bf A outer s H E).rm (jE st) t/\t { nx:=λy H'=>Q .non H',rt:=Q } (start N vs) H)
 (len:∀ vs H Q E,sp vs H Q E->vs.length=ps.length:=by intro y y y y h;cases h;subst_vars;rfl):Ok P w base (k+1) F sp:=okN F.F S.1 len i5
theorem jh{F:Fn K mg x st ps}(S:Sc N ps st)
 (i5:∀ (bf:aeX) (A:agD) (outer:List Env) (s:ae4) (H:Hp) (vs:List V) (Q:VK) (E:XK),bc k (A.deeper (agJ x (eW st) s.heap.objs.size F.a bf))->sp vs H Q E ->
   ∃ t,aS (f7 (ed P w) P w K mg base N x (eW st) F.a bf A outer s H E) (jE st) t/\t { nx:=λy H'=>Q .non H',rt:=Q } (start N vs) H)
 (len:∀ vs H Q E,sp vs H Q E->vs.length=ps.length:=by intro y y y y h;cases h;subst_vars;rfl):Ok P w base (k+1) F sp:=nK F.F S.1 len i5
theorem dH{F:Fm K x q st ps}(S:Sc N ps st)
 (i5:∀ (bf:aeX) (A:agD) (outer:List Env) (s:ae4) (H:Hp) (vs:List V) (Q:VK) (E:XK),bc k (A.deeper (agJ q (eW st) s.heap.objs.size F.a bf))->sp vs H Q E ->
   ∃ t,aS (f7 (ed P w) P w K mg base N q (eW st) F.a bf A outer s H E).rm (jE st) t/\t { nx:=λy H'=>Q .non H',rt:=Q } (start N vs) H)
 (len:∀ vs H Q E,sp vs H Q E->vs.length=ps.length:=by intro y y y y h;cases h;subst_vars;rfl):Om P w mg base (k+1) F sp:=okN F.F S.1 len i5
theorem sQ{F:Fm K x q st ps}(S:Sc N ps st)
 (i5:∀ (bf:aeX) (A:agD) (outer:List Env) (s:ae4) (H:Hp) (vs:List V) (Q:VK) (E:XK),bc k (A.deeper (agJ q (eW st) s.heap.objs.size F.a bf))->sp vs H Q E ->
   ∃ t,aS (f7 (ed P w) P w K mg base N q (eW st) F.a bf A outer s H E) (jE st) t/\t { nx:=λy H'=>Q .non H',rt:=Q } (start N vs) H)
 (len:∀ vs H Q E,sp vs H Q E->vs.length=ps.length:=by intro y y y y h;cases h;subst_vars;rfl):Om P w mg base (k+1) F sp:=nK F.F S.1 len i5
end
section
theorem aL(i:Nat)(hN:X.N.Nodup)(he:PE X e te)(hi:X.N[i]?=U x:=by rfl)(hx:Loc X.env.scope x:=by first|exact aiz rfl|exact alU Y)(hs:aiS e (U (.Name x pos')) pos.line X.env=pure false:=by rfl)(hf:X.fn x=true∨X.env.scope.names.lookup x=U .local:=by first|exact .inl rfl|exact .inr rfl) :
 PS X (.Assign [.Name x pos'] e pos) (xy te (cu i)):=jZ hN hi hx he hs hf
theorem cS(i:Nat)(hN:X.N.Nodup)(hi:X.N[i]?=U x:=by rfl)(hx:Loc X.env.scope x:=by first|exact aiz rfl|exact alU Y)(hf:X.fn x=true∨X.env.scope.names.lookup x=U .local:=by first|exact .inl rfl|exact .inr rfl):PG X (.Name x pos) (cu i):=iD hN hi hx hf
theorem aD{k n:Nat}{ps:List Str}{sp:Sp}{st:ajO}{CX:iF}{N:Fn X.K X.mg x st ps}(F:d9 X.prog X.w X.K X.mg X.base CX k N.a N.fd ps sp)(hr:bc n X.A)(ha:PA X (e::es) t)(hx:Passes CX X E0:=by exact bS)
 (hk:k<=n:=by decide) (hg:Gl X x:=by rfl) (f6:(x == ("__debug__" : Str))=false:=by decide) (he:afb (e::es) X.env=(false,eval e X.env)::afb es X.env:=by rfl) (dz:(agA pos (afb es X.env)).any (·.1)=false:=by rfl) :
 PE X (.Call (.Name x p) (e::es) [] pos) (rD sp [] E0 t):=X4 N F hr hx ha hk hg f6 he dz
end
end Gz
namespace Gz
open PySem L2
theorem C7:∀ {xs ys:List Int},xs.Nodup->(∀ x∈xs,x∈ys)->xs.length<=ys.length
 | [],_,_,_=>afi _
 | x::xs,ys,h,k=>by obtain⟨h1,h2⟩:=af8.mp h;have hx:=k x (.head _);have ih:=C7 (ys:=ys.erase x) h2 λy hy=>(akR (λz=>h1 (by rw[<- z];exact hy))).mpr (k y (.tail _ hy));rw[ajK hx] at ih;have:=aki hx;rw[afD];omega
end Gz
namespace Gz
open PySem PySem.Spec PyProof.Rows L2
theorem Ml(hL:(L.length:Int)<=mo)(hc:jN ps c)(hg:∀ k s,gs[k]?=U s->b0 s (c k))(ku:gs.length<=ps.length+1)(hw:meets (fB tb L) c)(ht:∀ r∈tb,r.1.2.toNat<=ps.length) :
 ∀ (t:Pp) (as:List Int),as.Nodup->(∀ x∈as,x∈L)->¬ Val ps gs tb mo t as
 | .nil,_,_,_,h=>h
 | .full,as,hn,hs,h=>by have:=C7 hn hs;have h:mo<as.length:=h;lia
 | .cls x a b,as,hn,hs,h=>by
  obtain⟨⟨m,n,hm,nC,bw⟩,ha,hb⟩:=h;have met:∀ (s:En × Nat) (k:Mk),ko gs tb as s k->(∀ e,s.1=U e->e∉L)->b0 k.2 (c k.1)/\k.1<=ps.length:=λs k hk hl=>by
   obtain⟨h1,h2⟩:=hk;obtain⟨o,j⟩:=s;cases o with
   | none =>
    have h2:gs[j]?=U k.2:=h2;have:=(aeW.mp h2).1;have h1:k.1=j:=h1;rw[h1];exact#[hg _ _ h2,by lia]
   | some e =>
    have h2:e∉as/\((e,(j:Int)),k.2)∈tb:=h2;have h1:k.1=j:=h1;have kr:(j,k.2)∈fB tb L:=CW.mpr #[_,h2.2,hl e Y,by simp];have:=ht _ h2.2;rw[h1];exact#[hw _ kr,by simpa using this]
  have step:∀ (e:Int) (t:Pp) (s:En × Nat) (k:Mk),ko gs tb as s k->s.1=U e->e∈L->Val ps gs tb mo t (as++[e])->sizeOf t<1+sizeOf x+sizeOf a+sizeOf b->False:=λe t s k hk es hl hv a8=>by
   have C8:e∉as:=by obtain⟨v,h2⟩:=hk;rw[es] at h2;exact h2.1
   refine Ml hL hc hg ku hw ht t (as++[e]) (ajL.mpr #[hn,by simp,λy hy z hz=>?_]) (λy hy=>?_) hv
   .obtain rfl:z=e:=by simpa using hz
    exact λq=>C8 (q ▸ hy)
   .rcases afq.mp hy with z|z
    .exact hs y z
    .obtain rfl:y=e:=by simpa using z
     exact hl
  by_cases h1:∃ e,x.1.1=U e/\e∈L
  .obtain⟨e,e1,e2⟩:=h1;rw[e1] at ha;exact step e a x.1 m hm e1 e2 ha (by lia)
  by_cases h2:∃ e,x.2.1=U e/\e∈L
  .obtain⟨e,e1,e2⟩:=h2;have hb:if x.1.1=U e then b = .nil else Val ps gs tb mo b (as++[e]):=by rw[e1] at hb;exact hb
   rw[if_neg (λz=>h1 #[e,z,e2])] at hb;exact step e b x.2 n nC e1 e2 hb (by lia)
  have m1:=met x.1 m hm λe he z=>h1 #[e,he,z];have m2:=met x.2 n nC λe he z=>h2 #[e,he,z];refine Vt (ms:=[m,n]) hc (λq hq=>?_) (λq hq=>?_) (.head _) (.tail _ (.head _)) bw
  .rcases ae2.mp hq with rfl|hq
   .exact m1.1
   .obtain rfl:q=n:=by simpa using hq
    exact m2.1
  .rcases ae2.mp hq with rfl|hq
   .exact m1.2
   .obtain rfl:q=n:=by simpa using hq
    exact m2.2
termination_by t=>sizeOf t
decreasing_by simp_wf;lia
theorem C9(f:Nat->Int):∀ i,(firstMet f i).Nodup
 | 0=>aiu
 | i+1=>by
  rw[firstMet_succ];unfold step_dedup;split
  .exact C9 f i
  .rename_i h;refine ajL.mpr #[C9 f i,by simp,λa ha b hb z=>h ?_];obtain rfl:b=f i:=by simpa using hb
   exact agc.mpr #[a,ha,by simpa using z]
theorem X7(ns:List Int)(x:Int):x∈firstMet (λi=>ns.getD i 0) ns.length↔x∈ns:=by
 have h:=firstMet_any (λi=>ns.getD i 0) ns.length x;have e:(afp ns.length).map (λi=>ns.getD i 0)=ns:=by refine aj6 (by simp) λi h1 h2=>?_;simp[h2]
 rw[e] at h;constructor
 .intro z;have:ns.any (· == x)=true:=by rw[<- h];exact agc.mpr #[x,z,by simp]
  obtain⟨y,hy,e⟩:=agc.mp this;exact (by simpa using e:y=x) ▸ hy
 .intro z;have:(firstMet (λi=>ns.getD i 0) ns.length).any (· == x)=true:=by rw[h];exact agc.mpr #[x,z,by simp]
  obtain⟨y,hy,e⟩:=agc.mp this;exact (by simpa using e:y=x) ▸ hy
def Mm(K:aeN)(t:TE):TE:=λJ H Q=>t J H λv H1=>∃ (a:ae0) (ns:List Int),v=V.ref a/\ai K H1 a (ns.map V.int)/\ns.length<=1000/\∀ zs:List Int,zs.Nodup->(∀ x,x∈zs↔x∈ns)->Q (.int zs.length) H1
theorem Yb(hc:X.calm=true)(he:PE X e t)(CO:X.mg "len" = O)(mO:X.mg "set" = O)(pQ:Gl X "len" := by rfl)(vq:Gl X "set" := by rfl)(dO:afb [e] X.env=[(false,eval e X.env)]:=by rfl)(vt:afb [.Call (.Name "set" p2) [e] [] iN] X.env=[(false,eval (.Call (.Name "set" p2) [e] [] iN) X.env)]:=by rfl) :
 PE X (.Call (.Name "len" p1) [.Call (.Name "set" p2) [e] [] iN] [] pos) (Mm X.K t):=by
 intro pins s J H Q I h;refine ago (gG I pQ CO Im ?_ (by decide) (by decide));refine ahf ?_ (by rw[vt];rfl) rfl;rw[vt];show afe _ _ (spliced ((false,eval (.Call (.Name "set" p2) [e] [] iN) X.env)::agA pos [])) _ _ s;refine agZ ?_;refine ago (gG I vq mO K5 ?_ (by decide) (by decide));refine afw ?_ (by rw[dO];rfl) rfl;rw[dO];show afe _ _ (spliced ((false,eval e X.env)::agA iN [])) _ _ s;refine agZ (aF (he pins s J H _ I h) λu s1 zq=>?_);obtain⟨x,H1,I1,r1,q1⟩:=zq;obtain⟨a,ns,rfl,hS,hn,q⟩:=q1;cases r1;refine aha ?_;obtain⟨us,rv,pl,hz⟩:=I1.list hS;have hl:us.length=ns.length:=by have:=rv.length;rw[aeO] at this;lia
 refine call_set_list (items:=us.toArray) (ns:=ns) (I1.ok.hd hc) pl.isList (intsAre_of rv) (by simp;rw[hl];exact afy (Nat.succ_le_succ hn) (by decide)) λh2 tk Yc hk=>?_;refine aha ?_;obtain⟨o,es,ep,tb,g1,g2,g3,g4,g5,g6,g7,g8⟩:=Yc;have Yd:us.toArray.size=ns.length:=by simp[hl]
 rw[Yd] at g8;refine call_len_set g1 g2 g3 g7 (by rw[g8];have:=firstMet_length_le (λi=>ns.getD i 0) ns.length;lia) ?_;refine#[.int es.size,H1,I1.kept λb o hb=>hk b o (aeU hb) hb,#[_,Y],?_];rw[g8];exact q _ (C9 _ _) (X7 ns)
theorem _root_.L2.bc.m(r:bc k A)(h:j<=k:=by decide):bc j A:=r.mono h
theorem aE{K:aeN}{H:Hp}{p:ae0}{xs:List V}{i:Int}{v:V}{Q:VK}(h:H p=U (.tup xs))(q:Q v H)(e:dA xs i=U v:=by rfl):kS K (.ref p) (.int i) H Q:=ay (aj.of h) e q
theorem cO(fr:List Nat)(ys:List Str)(a:amU scope X.env=pure cl:=by rfl)(b:(scope.names.all λp=>p.2 != .cell)=true:=by decide +kernel)(c:scope.kind = .function:=by rfl)(d:(scope.names.all λp=>p.2 != .local || scope.names.lookup p.1 == U .local)=true:=by decide +kernel)(e:scope.names.lookup x=U .local:=by rfl)(f:((relabel scope X.env).names.all λp=>(p.2 != .cell && p.2 != .free) || (cl.lookup p.1).isSome)=true:=by rfl)(g:kX X cl:=by repeat' first|exact kX.nil|refine kX.cons Y ?_)(h:jF X scope cl fr ys:=by repeat' first|exact jF.nil|refine jF.cons Y Y Y Y ?_)(i:(x::ys).Nodup:=by decide)(j:(ys.all λy=>(relabel scope X.env).names.lookup y == U .cell)=true:=by rfl):pf X x scope cl fr ys:=#[a,b,c,d,e,f,g,h,i,j]
theorem Ye(h:∀ B:TS,B=t->ui tc B u D J H):ui tc t u D J H:=h t rfl
noncomputable abbrev Fq(K:aeN)(mg:Str->Option aeX)(x:Str){N ps:List Str}{st:ajO}(_:Sc N ps st):=Fn K mg x st ps
noncomputable abbrev Fw(K:aeN)(x q:Str){N ps:List Str}{st:ajO}(_:Sc N ps st):=Fm K x q st ps
abbrev aV(K:aeN)(x:Str){N ps:List Str}{st:ajO}(_:Sc N ps st):Prop:=Fb K x x st (Mj K x)
abbrev dm(K:aeN)(C:ae0)(x q:Str){N ps:List Str}{st:ajO}(_:Sc N ps st):Prop:=Fb K x q st (dg K C x)
abbrev mS(K:aeN)(x q:Str){N ps:List Str}{st:ajO}(_:Sc N ps st)(p:ae0->Prop):Prop:=Fb K x q st p
noncomputable def aV.c{K:aeN}{mg:Str->Option aeX}{h:ag3}{x:Str}{st:ajO}{N ps:List Str}{S:Sc N ps st}(b:aV K x S)(X:K.In h)(G:h.Ns afc mg):Fq K mg x S:=Classical.choice (Fb.fn b X G S)
theorem bP{K:aeN}{C:ae0}{x y q:Str}{st:ajO}{ps:List Str}{F:Fm K y q st ps}(a:dg K C x F.a):Meth K C x F.a:=#[a.1,a.2,F.F.kp]
section
theorem ip{k n:Nat}{ps:List Str}{sp:Sp}{st:ajO}{CX:iF}{E:XK}{N:Fn X.K X.mg x st ps}(F:d9 X.prog X.w X.K X.mg X.base CX k N.a N.fd ps sp)(hr:bc n X.A)(ha:PA X (e::es) t)(hx:Passes CX X E:=by exact jc)
 (hk:k<=n:=by decide) (hg:Gl X x:=by rfl) (f6:(x == ("__debug__" : Str))=false:=by decide) (he:afb (e::es) X.env=(false,eval e X.env)::afb es X.env:=by rfl) (dz:(agA pos (afb es X.env)).any (·.1)=false:=by rfl) :
 PE X (.Call (.Name x p) (e::es) [] pos) (rD sp [] E t):=dw F (hr.mono hk) hg N.m N.F.kp N.b .nil hx ha f6 he dz
theorem c9(hm:X.mg "len" = O)(ha:PA X (e::es) t)(hg:Gl X "len" := by rfl)(he:afb (e::es) X.env=(false,eval e X.env)::afb es X.env:=by rfl)(dz:(agA pos (afb es X.env)).any (·.1)=false:=by rfl) :
 PE X (.Call (.Name "len" p) (e::es) [] pos) (xM (λxs H Q=>∃ x n,xs=[x]/\xH X.K x H n/\Q (.int n) H) t):=cR QF hg hm Im ha (by decide) (by decide) he dz
end
noncomputable abbrev Fy(K:aeN)(_:ae0)(x q:Str){N ps:List Str}{st:ajO}(_:Sc N ps st):=Fm K x q st ps
noncomputable abbrev Fv(K:aeN)(x q:Str){N ps:List Str}{st:ajO}(_:Sc N ps st)(_:ae0->Prop):=Fm K x q st ps
section
variable{K:aeN}{C:ae0}{x q y:Str}{N ps:List Str}{st:ajO}{S:Sc N ps st}{p:ae0->Prop}
theorem Fb.fx(b:Fb K x q st p)(S:Sc N ps st):∃ F:Fm K x q st ps,p F.a :=
 let ⟨a,l,c,k⟩:=b;#[#[_,_,nG l c k,(nG l c k).binds (S.b x q)],a]
noncomputable def mS.c(b:mS K x q S p):Fv K x q S p:=Classical.choose (Fb.fx b S)
noncomputable def dm.c(b:dm K C x q S):Fy K C x q S:=Classical.choose (Fb.fx b S)
end
structure iq(P:afG)(w:agn)(K:aeN)(mg:Str->Option aeX)(base:ag3)(A:agD)(m:Str)(x:V)(H:Hp)(Q:VK):Prop where
 mk ::
 ex:∃ a C dx fs f k fd ps sp,x = .ref a/\H a=U (.ins C dx fs)/\bR K C/\Meth K C m f/\fs.lookup m=O/\d9 P w K mg base (ed P w) k f fd ps sp/\bc k A/\Binds K fd ps []/\sp [.ref a] H Q E0
theorem iq.of{P:afG}{w:agn}{K:aeN}{mg:Str->Option aeX}{base:ag3}{A:agD}{m:Str}{H:Hp}{Q:VK}{a C dx f:ae0}{fs:List (Str × V)}{k n:Nat}{fd:ahI}{ps:List Str}{sp:Sp}(ha:H a=U (.ins C dx fs))(hc:bR K C)(hm:Meth K C m f)(F:d9 P w K mg base (ed P w) k f fd ps sp)(hr:bc n A)(hb:Binds K fd ps [])(q:sp [.ref a] H Q E0)(hl:fs.lookup m=O:=by rfl)(hk:k<=n:=by decide):iq P w K mg base A m (.ref a) H Q :=
 #[a,C,dx,fs,f,k,fd,ps,sp,Y,ha,hc,hm,hl,F,hr.mono hk,hb,q]
theorem cD{X:Cx}{R:V->Hp->VK->Prop}{m:Str}{o:aiF}{apos pos:Pos}{ta:TE}{pl:Sem Bool}(hR:∀ x H Q,R x H Q->iq X.prog X.w X.K X.mg X.base X.A m x H Q)(he:PE X o ta)
 (ht:eval (.Call (.Attribute o m apos) [] [] pos) X.env=(do
   let ov <- eval o X.env
   akm apos.atName
   let (f,first) <- holding [ov] (aiV ov m pl)
   alb pos f first (agA pos (afb [] X.env)) (ajg pos (ahx [] X.env))):=by rfl) :
 PE X (.Call (.Attribute o m apos) [] [] pos) (λJ H Q=>ta J H λx H1=>R x H1 Q):=by
 intro pins s J H Q I h;refine agH (pl:=pl) (aF (he pins s J H _ I h) λu s1 zq=>?_) ht;obtain⟨x,H1,I1,rx,q⟩:=zq;obtain⟨a,C,dx,fs,f,k,fd,ps,sp,rfl,ea,c,hm,l,F,hr,hb,q⟩:=hR _ _ _ q;obtain rfl:u=aft a:=rx;refine uv I1 ea c hm l ?_;exact aiW (first:=[.ref a]) I1.cG hm.kp (o6 (us:=[.ref a]) (vs:=[.ref a]) F hr hb .nil bS I1 (.cons rfl .nil) q)
section
theorem Yg(hh:A.handled=O)(hl:s.heap.IsTuple l (agv xs))(bN:0<xs.size)(h:∀ v h' tk,(agv xs)[aiI (λi j=>decide (akd xs i > akd xs j)) (xs.size-1)]?=U v->(∀ b o,s.heap.get? b=U o->h'.get? b=U o)->Q v { s with heap:=h',toks:=tk }) :
 afe (model prog w) A (call (.builtin "max") [.ref l]) Q E s:=by
 have a8:l<s.heap.objs.size:=by obtain⟨y,e,y⟩:=hl;exact aeU e
 refine call_max_walk (aje hl ?_);refine#[_,_,_,_,_,_,_,Y,Walks.tuple (A:=A.in1) hh _ l (afa a8) (agv xs),#[#[_,aeZ _ Y,Y,Y],hl.push _],(λb hb=>?_),by simpa [agv] using bN,CmpOf.ints_gt (akd xs) (λy y=>aiZ),λv h' tk hP hk=>?_]
 .show b<(s.heap.push _).objs.size;rw[ag4];rcases ae2.mp hb with rfl|hb
  .exact af7 _
  .rcases ae2.mp hb with rfl|hb
   .exact ahe a8
   .cases hb
 .refine h v h' tk (by simpa [agv] using hP) λb o e=>hk b o (λhm=>?_) (aeS _ e);rcases ae2.mp hm with e1|hm
  .exact absurd (e1 ▸ aeU e) (agk _)
  .cases hm
end
theorem Yh(hc:X.calm=true):fY X (.builtin "max") (λxs H Q=>∃ a ns,xs=[.ref a]/\aj X.K H a (ns.map V.int)/\ns≠[]/\Q (.int (eL ns)) H):=by
 intro pins s J H xs us Q I r h;obtain⟨a,ns,rfl,hS,bN,q⟩:=h;obtain⟨u,rfl,ru⟩:=vals1 r;cases ru;obtain⟨aw,rv,hp,y⟩:=I.tuple hS;obtain⟨xs,e1,e2⟩:=uO rv;rw[e1] at hp;have len:xs.size=ns.length:=by rw[<- e2,aeO];simp
 have pB:0<xs.size:=by rw[len];exact ak0.mpr bN
 refine Yg (I.ok.hd hc) hp pB λv h' tk hv hk=>#[.int (eL ns),H,I.kept hk,?_,q]
 obtain⟨t,rfl⟩:=aiZ hv;exact#[t,by rw[BL e2 pB]]
def jQ(sw gw:List W2)(tb:Tb)(m:Int)(L:List Int)(c:Nat->Int):Prop:=(L.length:Int)<=m/\(∀ (j:Nat) w,sw[j]?=U w->eM w (c (j+1)-c j))/\(∀ (j:Nat) w,gw[j]?=U w->eM w (c j))/\∀ r∈tb,r.1.1∉L->b0 r.2 (c r.1.2.toNat)
theorem Dc:meets (fB tb L) c ↔ ∀ r∈tb,r.1.1∉L->b0 r.2 (c r.1.2.toNat):=by
 unfold meets fB;constructor
 .intro h r hr hn;exact h (r.1.2.toNat,r.2) (aeY.mpr #[r,afr.mpr #[pN.mem_iff.mpr hr,by simpa using hn],Y])
 .intro h m hm;obtain⟨r,hr,rfl⟩:=aeY.mp hm;obtain⟨h1,h2⟩:=afr.mp hr;exact h r (pN.mem_iff.mp h1) (by simpa using h2)
theorem Dd:(∀ (j:Nat) w,(pp.map iO)[j]?=U w->eM w (c (j+1)-c j))↔jN pp c:=by
 constructor
 .intro h k hk;obtain⟨s,e,h1,h2⟩:=h k (iO (aK pp k)) (by rw[ae5,aeQ hk];unfold aK;rw[aeP,aeQ hk];rfl);unfold iO at e;cases e;exact#[h1 _ Y,h2 _ Y]
 .intro h j w hw;rw[ae5] at hw;obtain⟨p,hp,rfl⟩:=afv.mp hw;have hj:=(aeW.mp hp).1;have:=h j hj;unfold aK at this;rw[aeP,hp] at this;exact#[_,Y,λa z=>by cases z;exact this.1,λa z=>by cases z;exact this.2]
theorem De{gs:List S2}{c:Nat->Int}:(∀ (j:Nat) w,(gs.map U)[j]?=U w->eM w (c j)) ↔ ∀ (j:Nat) s,gs[j]?=U s->b0 s (c j):=by
 constructor
 .intro h j s hs;obtain⟨s',e,z⟩:=h j (U s) (by rw[ae5,hs];rfl);cases e;exact z
 .intro h j w hw;rw[ae5] at hw;obtain⟨s,hs,rfl⟩:=afv.mp hw;exact#[s,Y,h j s hs]
end Gz
namespace n6
open PySem L2 Gz
local macro_rules|`(tactic|walk_at "d")=>do{let a←("seval Nat.reduceAdd Nat.reduceSub rn ui xG oY Ha AW tC G4 G2 xy cu xM xJ rB rD GR GS tB GV GW GX GY GZ G0 G1 G3 rI iE rU Hc Hd R7 R8 R9 Sa Sb RY RZ R0 R1 R4 R5 ite_tt ite_ff _root_.L2.start Sd Se List.map_cons List.map_nil List.length_cons List.length_nil List.replicate List.nil_append List.cons_append List.getElem?_cons_zero List.getElem?_cons_succ List.set_cons_zero List.set_cons_succ Bool.not_true Bool.not_false Hr Hs HY Rt Ib Sf Sg Sh Bx ye Ua By A2 A1 Bw G7 HS B0 A4 A3 TN TQ Hn Ho Bf Hu HJ HH HI HU Ie Tv Tw Tz Bc IF BN BQ BU LX Xq Xr Xs Xt Xu Xv Xw Xx Xy Xz XA XH XB XD XE XF XG vD yX C2 C3 LZ sN L9 Ma XN XO XQ XR XS XT XU XW XX XY XZ X0 X2 Mb Mc Md Me Mf Mg Mh Mi uT uU B7 Kg Cb Uw JV JW UL KO RC nW mI cY iZ LU KW VR KU CF VT K8 Ll VP Mm Ln Lq".splitOn " ").toArray.mapM fun s=>`(Lean.Parser.Tactic.simpLemma|$(Lean.mkIdent s.toName):ident);`(tactic|dsimp only[↓reduceIte,$a,*])}
local macro_rules|`(tactic|walk_at "s")=>do{let a←("seval Nat.reduceAdd Nat.reduceSub reduceCtorEq ite_tt ite_ff List.map_cons List.map_nil List.length_cons List.length_nil List.nil_append List.cons_append Option.some.injEq V.int.injEq V.bl.injEq V.ref.injEq List.cons.injEq exists_eq_left exists_eq_left' exists_and_left true_and and_true decide_eq_true_eq Nat.zero_add Nat.sub_self Nat.add_one_sub_one decide_true decide_false Bool.not_eq_true' decide_eq_false_iff_not false_and exists_false and_assoc not_false_eq_true not_true_eq_false List.append_nil Option.join_some".splitOn " ").toArray.mapM fun s=>`(Lean.Parser.Tactic.simpLemma|$(Lean.mkIdent s.toName):ident);`(tactic|simp only[↓reduceIte,$a,*])}
local macro_rules|`(tactic|walk_at "p")=>`(tactic|first | (walk_at "d"; repeat (first | walk_at "s" | walk_at "d")) | (walk_at "s"; repeat (first | walk_at "d" | walk_at "s")))
local macro_rules|`(tactic|walk_at "g")=>`(tactic|try walk_at "p")
local macro_rules|`(tactic|rfl')=>`(tactic|walk_at "g")
local macro_rules|`(tactic|walk_at "c")=>`(tactic|(refine ⟨⟨rfl, rfl, rfl, by decide +kernel, rfl, by decide +kernel, by decide +kernel⟩, fun _ _ _ _ _ _ _ _ => ?_⟩; (repeat (refine X5 fun _ => ?_)); exact X6 rfl))
theorem Fb.fp(b:Fb K x q st p)(S:Sc N ps st):∃ F:Fm K x q st ps,p F.a :=
 let ⟨a,l,c,k⟩:=b;#[#[_,_,nG l c k,(nG l c k).binds (S.b x q)],a]
inductive eo(H:Hp)(v:V)(m:Mk):Prop
 | mk(t p:ae0)(_:v = .ref t)(_:H t=U (.tup [.int m.1,.ref p]))(_:H p=U (.tup [ev m.2.1,ev m.2.2]))
theorem eo.same(h:eo H v m)(s:ah H H'):eo H' v m:=let ⟨t,p,e,a,b⟩:=h;#[t,p,e,s _ _ a,s _ _ b]
def top(i:Nat):ajO:=PySem.Challenge.pw_gaze_k78_lyings_in_events.main.body.getD i (.Pass #[0,0,0,0])
noncomputable abbrev aW:Str := "self"
noncomputable abbrev dh:Str := "one"
noncomputable abbrev dW:Str := "_law_world_here"
noncomputable abbrev eB:Str := "board"
noncomputable abbrev fP:Str := "turn"
noncomputable abbrev fQ:Str := "_law_course"
noncomputable abbrev gq:Str := "claim"
noncomputable abbrev gT:Str := "eye"
noncomputable abbrev ir:Str := "marks"
noncomputable abbrev iu:Str := "_law_tree_here"
noncomputable abbrev iP:Str := "_law_words"
noncomputable abbrev ji:Str := "_law_script"
noncomputable abbrev kx:Str := "steps"
noncomputable abbrev ky:Str := "_law_steps"
noncomputable abbrev lJ:Str := "_law_claim"
noncomputable abbrev mT:Str := "other"
noncomputable abbrev mU:Str := "course"
noncomputable abbrev mV:Str := "pairs"
noncomputable abbrev mW:Str := "_law_goals"
noncomputable abbrev n9:Str := "most"
noncomputable abbrev og:Str := "_law_aside"
noncomputable abbrev oh:Str := "_law_paper"
noncomputable abbrev pY:Str := "first"
noncomputable abbrev pZ:Str := "_law_k"
noncomputable abbrev p8:Str := "_law_event_here"
noncomputable abbrev sR:Str := "_law_span_here"
noncomputable abbrev sS:Str := "_law_number"
noncomputable abbrev sT:Str := "_law_board_here"
noncomputable abbrev sU:Str := "_law_far"
noncomputable abbrev vF:Str := "_law_unit"
noncomputable abbrev vG:Str := "_law_spot"
noncomputable abbrev vH:Str := "_law_turn"
noncomputable abbrev y0:Str := "_law_many"
noncomputable abbrev y9:Str := "_law_part_here"
noncomputable abbrev za:Str := "_law_other"
noncomputable abbrev Df:Str := "_law_courses"
theorem sO(h:Sc N ps st:=by walk_at "c"):Sc N ps st:=h
theorem Dg:Sc ["lo","hi"] ["lo","hi"] (top 9):=sO
theorem Dh:Sc [dh,"number"] [dh,"number"] (top 10):=sO
theorem vI:Sc [dh,mT,"lo","hi"] [dh,mT] (top 11):=sO
theorem sV:Sc ["some","whole",dh] ["some"] (top 12):=sO
theorem Di:Sc [mU,"kind",fP] [mU,"kind",fP] (top 14):=sO
theorem Dj:Sc [mU,gq] [mU,gq] (top 15):=sO
theorem Dk:Sc [eB,"kind",fP] [eB,"kind",fP] (top 16):=sO
theorem zc:Sc [eB,gq,"part"] [eB,gq] (top 17):=sO
theorem Dl:Sc [gq,"kind",fP] [gq,"kind",fP] (top 18):=sO
theorem zd:Sc [eB,gq,"own"] [eB,gq] (top 19):=sO
theorem Dm:Sc [eB,gq] [eB,gq] (top 20):=sO
theorem vJ:Sc [dh,"below","above"] [dh] (top 24):=sO
theorem vK:Sc [gq,"found","part"] [gq] (top 25):=sO
theorem vL:Sc ["some","others","found",dh] ["some","others"] (top 26):=sO
theorem Dp:Sc [pY,"last",dh] [pY,"last",dh] (top 27):=sO
theorem ze:Sc [aW,mU] [aW,mU] (inClass (top 28) 0):=sO
theorem zf:Sc [aW] [aW] (inClass (top 28) 1):=sO
theorem zg:Sc [aW,pY,"last"] [aW,pY,"last"] (inClass (top 29) 0):=sO
theorem zh:Sc [aW] [aW] (inClass (top 29) 1):=sO
theorem zi:Sc [aW,dh] [aW,dh] (inClass (top 29) 2):=sO
theorem zj:Sc [aW,pY,"last","sill"] [aW,pY,"last","sill"] (inClass (top 30) 0):=sO
theorem zk:Sc [aW] [aW] (inClass (top 30) 1):=sO
theorem zm:Sc [aW] [aW] (inClass (top 30) 2):=sO
theorem zo:Sc [aW,dh,mT] [aW,dh,mT] (inClass (top 31) 0):=sO
theorem zp:Sc [aW] [aW] (inClass (top 31) 1):=sO
theorem zr:Sc [aW] [aW] (inClass (top 32) 0):=sO
theorem zt:Sc [aW] [aW] (inClass (top 32) 1):=sO
theorem sW:Sc [aW,dh,mT] [aW] (inClass (top 32) 2):=sO
theorem zu:Sc [aW] [aW] (inClass (top 33) 0):=sO
theorem zv:Sc [aW] [aW] (inClass (top 33) 1):=sO
theorem sX:Sc [aW,dh,mT] [aW] (inClass (top 33) 2):=sO
theorem zw:Sc [aW,dh] [aW,dh] (inClass (top 34) 0):=sO
theorem zx:Sc [aW] [aW] (inClass (top 34) 1):=sO
theorem zy:Sc [aW] [aW] (inClass (top 34) 2):=sO
theorem zz:Sc [aW] [aW] (inClass (top 34) 3):=sO
theorem vM:Sc [aW,dh] [aW] (inClass (top 34) 4):=sO
theorem zA:Sc [aW,ir] [aW,ir] (inClass (top 35) 0):=sO
theorem zB:Sc [aW] [aW] (inClass (top 35) 1):=sO
theorem zC:Sc [aW] [aW] (inClass (top 35) 2):=sO
theorem zD:Sc [aW] [aW] (inClass (top 35) 3):=sO
theorem zE:Sc [aW] [aW] (inClass (top 35) 4):=sO
theorem Dq:Sc ["cell"] ["cell"] (top 37):=sO
theorem vN:Sc [dh,"step","lo","hi"] [dh,"step"] (top 39):=sO
theorem oi:Sc ["boxes",kx,"kept",fP,"box","left"] ["boxes",kx] (top 40):=sO
theorem Dr:Sc [ir,fP] [ir,fP] (top 41):=sO
theorem vO:Sc [kx,ir,"forth","backward"] [kx,ir] (top 42):=sO
theorem qb:Sc [kx,ir,"boxes",mU,"step","box"] [kx,ir] (top 43):=sO
theorem Ds:Sc [dh,mT] [dh,mT] (top 44):=sO
theorem Dt:Sc [dh,"by"] [dh,"by"] (top 45):=sO
theorem oj:Sc [kx,ir,"tops","number","mark",fP] [kx,ir] (top 46):=sO
theorem sY:Sc ["tops",ir,"number","mark","top"] ["tops",ir] (top 47):=sO
theorem Du:Sc [eB,gT] [eB,gT] (top 49):=sO
theorem Dv:Sc [eB,"some"] [eB,"some"] (top 50):=sO
theorem Dw:Sc [eB] [eB] (top 51):=sO
theorem lK:Sc [kx,"groups","found","name",ir,"tops","beside","others","pair"] [kx,"groups"] (top 52):=sO
theorem Dx:Sc [mV,gT] [mV,gT] (top 54):=sO
theorem Dy:Sc ["pair"] ["pair"] (top 55):=sO
theorem sZ:Sc [mV,n9,gT,"others"] [mV,n9] (top 56):=sO
theorem Dz:Sc [mV,gT,n9] [mV,gT,n9] (top 57):=sO
theorem oq:Sc [mV,n9,dh,mT,pY,"second"] [mV,n9] (top 58):=sO
theorem ot:Sc [eB,gq,kx,"goals",ir,mV,"aside"] [eB,gq] (top 59):=sO
theorem tf:Sc [eB,"claims","papers",gq,"answer"] [eB,"claims"] (top 61):=sO
theorem tj:Sc [eB,"event","fitting","without","having"] [eB,"event"] (top 62):=sO
theorem DA:Sc [eB,gT] [eB,gT] (top 63):=sO
theorem zF:Sc [aW,"eyes","turns","up","down",n9] [aW,"eyes","turns","up","down",n9] (inClass (top 67) 0):=sO
theorem zG:Sc [aW,gT] [aW,gT] (inClass (top 67) 1):=sO
theorem zH:Sc [aW,fP] [aW,fP] (inClass (top 67) 2):=sO
theorem zI:Sc [aW,gT,fP,"lo","hi"] [aW,gT,fP,"lo","hi"] (inClass (top 67) 3):=sO
theorem zJ:Sc [aW] [aW] (inClass (top 67) 6):=sO
theorem zK:Sc [aW,gT,fP] [aW,gT,fP] (inClass (top 67) 10):=sO
theorem DB:Sc [ji,pZ,"_law_prime",y0] [ji,pZ,"_law_prime",y0] (top 69):=sO
theorem zL:Sc [ji,"_law_great"] [ji] (top 70):=sO
theorem DC:Sc ["_law_found"] ["_law_found"] (top 71):=sO
theorem DD:Sc [sR,sS] [sR,sS] (top 72):=sO
theorem ox:Sc [ji,pZ,sS,vF,"_law_lo","_law_hi","_law_open_end"] [ji,pZ,sS,vF] (top 73):=sO
theorem vP:Sc [dW,sT,vG] [dW] (top 74):=sO
theorem DE:Sc [dW,fQ] [dW,fQ] (top 75):=sO
theorem zM:Sc [dW,fQ,vH] [dW,fQ] (top 76):=sO
theorem oy:Sc ["_law_begin",lJ,"_law_sort",vH,"_law_lo","_law_hi",y9] ["_law_begin",lJ,"_law_sort",vH] (top 77):=sO
theorem DF:Sc [sR] [sR] (top 78):=sO
theorem zN:Sc [ky,"_law_one",za,"_law_up"] [ky,"_law_one",za] (top 79):=sO
theorem DG:Sc [dW,mW,vG,og] [dW,mW,vG,og] (top 80):=sO
theorem DH:Sc [dW,ky,mW,oh,"_law_eye",og] [dW,ky,mW,oh,"_law_eye",og] (top 81):=sO
theorem vQ:Sc [dW,ky,mW,oh,og,"_law_one",za] [dW,ky,mW,oh,og] (top 82):=sO
theorem qc:Sc [dW,ky,mW,oh,og,"_law_spans"] [dW,ky,mW,oh,og] (top 83):=sO
theorem tm:Sc [dW,lJ,oh,"_law_own",ky,mW] [dW,lJ,oh] (top 84):=sO
theorem tq:Sc [fQ,lJ,y9,sS] [fQ,lJ] (top 85):=sO
theorem zO:Sc [sR,"_law_end"] [sR] (top 86):=sO
theorem DI:Sc [y9,sU] [y9,sU] (top 87):=sO
theorem zP:Sc ["_law_some",y0,sU,lJ] ["_law_some",y0,sU] (top 88):=sO
theorem gU:Sc [ji,"_law_base_here",vF,"_law_eyes","_law_turns","_law_ups","_law_downs","_law_wrong",fQ,iP,vH,"_law_eye",pZ,sS] [ji,"_law_base_here"] (top 89):=sO
theorem vR:Sc [iu,iP,fQ,"_law_held"] [iu,iP,fQ] (top 90):=sO
theorem mX:Sc [iu,iP,"_law_ends",vG,"_law_left","_law_right_here"] [iu,iP] (top 91):=sO
theorem zQ:Sc [iu,iP] [iu,iP] (top 92):=sO
theorem zR:Sc [iu,sT] [iu,sT] (top 93):=sO
theorem qd:Sc [ji,dW,fQ,vF,"_law_one",za,"_law_sort",vH] [ji,dW,fQ,vF] (top 94):=sO
theorem DJ:Sc [dW,"_law_claims_here","_law_papers"] [dW,"_law_claims_here","_law_papers"] (top 95):=sO
theorem vS:Sc [dW,sT,iP,iu,p8,"_law_found","_law_beside"] [dW,sT,iP,iu,p8] (top 96):=sO
theorem jR:Sc [iP,iu,p8,Df,sU,"_law_told","_law_due","_law_ways","_law_breaks",fQ,"_law_had_here","_law_kept",lJ] [iP,iu,p8,Df] (top 97):=sO
theorem vT:Sc [p8,"_law_caught"] [p8] (top 98):=sO
theorem gu:Sc [ji,"_law_made",dW,fQ,sT,iu,Df,pZ,"_law_bent",p8,iP,vG,"_law_word_here"] [ji] (top 99):=sO
set_option genInjectivity false
set_option genSizeOf false
structure Tx(K:aeN)(mg:Str->Option aeX) where
 DK:Fq K mg "is_crossed" Dg
 DL:Fq K mg "holds" Dh
 DM:Fq K mg "meet" vI
 DN:Fq K mg "common" sV
 DO:Fq K mg "number_at" Di
 DP:Fq K mg "meets" Dj
 DQ:Fq K mg "has_part" Dk
 DR:Fq K mg "check_claim" zc
 DS:Fq K mg "stretches_of" Dl
 DT:Fq K mg "paces" zd
 DU:Fq K mg "wanted" Dm
 DV:Fq K mg "outside" vJ
 DW:Fq K mg "failures" vK
 DX:Fq K mg "joined" vL
 DY:Fq K mg "parts_at" Dp
 gV:Fw K "held" "Event.held" ze
 jS:Fw K "sizes" "Event.sizes" zf
 mY:Fw K "__init__" "Spanned.__init__" zg
 oz:Fw K "far" "Spanned.far" zh
 mZ:Fw K "all_at" "Spanned.all_at" zi
 qe:Fw K "__init__" "Over.__init__" zj
 qf:Fw K "ways" "Over.ways" zk
 qg:Fw K "breaks" "Over.breaks" zm
 lL:Fw K "__init__" "Paired.__init__" zo
 lM:Fw K "far" "Paired.far" zp
 qh:Fw K "ways" "Both.ways" zr
 qi:Fw K "breaks" "Both.breaks" zt
 oA:Fw K "sizes" "Both.sizes" sW
 qj:Fw K "ways" "Either.ways" zu
 qk:Fw K "breaks" "Either.breaks" zv
 oB:Fw K "sizes" "Either.sizes" sX
 ql:Fw K "__init__" "Nay.__init__" zw
 qm:Fw K "far" "Nay.far" zx
 qq:Fw K "ways" "Nay.ways" zy
 qr:Fw K "breaks" "Nay.breaks" zz
 qt:Fw K "sizes" "Nay.sizes" vM
 qu:Fw K "__init__" "Lying.__init__" zA
 qv:Fw K "far" "Lying.far" zB
 oE:Fw K "all_right" "Lying.all_right" zC
 qw:Fw K "ways" "Lying.ways" zD
 qx:Fw K "breaks" "Lying.breaks" zE
 DZ:Fq K mg "number_in" Dq
 D0:Fq K mg "moved" vN
 D1:Fq K mg "narrowed" oi
 D2:Fq K mg "stretches_at" Dr
 D4:Fq K mg "tube" vO
 D5:Fq K mg "course_in" qb
 D6:Fq K mg "lesser" Ds
 D7:Fq K mg "lifted" Dt
 D8:Fq K mg "ceilings" oj
 D9:Fq K mg "crossing" sY
 Ea:Fq K mg "marks_of" Du
 Eb:Fq K mg "marks_without" Dv
 Ec:Fq K mg "groups_of" Dw
 Ed:Fq K mg "clashes" lK
 m5:Fq K mg "without" Dx
 tu:Fq K mg "eyes_of" Dy
 m6:Fq K mg "put_aside" sZ
 lN:Fq K mg "branch" Dz
 lO:Fq K mg "paper" oq
 x_ask:Fq K mg "ask" ot
 Ee:Fq K mg "seek" tf
 tx:Fq K mg "verdict" tj
 Ef:Fq K mg "lying" DA
 oF:Fw K "__init__" "Board.__init__" zF
 oG:Fw K "has_eye" "Board.has_eye" zG
 kz:Fw K "has_turn" "Board.has_turn" zH
 oH:Fw K "tell" "Board.tell" zI
 oI:Fw K "tellings" "Board.tellings" zJ
 qz:Fw K "check_spot" "Board.check_spot" zK
 Eg:Fq K mg "_law_draw" DB
 Eh:Fq K mg "_law_base" zL
 tD:Fq K mg "_law_whole" DC
 Ei:Fq K mg "_law_within" DD
 Ej:Fq K mg "_law_word" ox
 Ek:Fq K mg "_law_board" vP
 El:Fq K mg "_law_liars" DE
 Em:Fq K mg "_law_fits" zM
 Eo:Fq K mg "_law_common" oy
 m8:Fq K mg "_law_empty" DF
 tE:Fq K mg "_law_climb" zN
 m9:Fq K mg "_law_mark" DG
 lP:Fq K mg "_law_branch" DH
 qA:Fq K mg "_law_clash" vQ
 kA:Fq K mg "_law_refuted" qc
 Ep:Fq K mg "_law_refutes" tm
 Er:Fq K mg "_law_met" tq
 Es:Fq K mg "_law_span" zO
 Et:Fq K mg "_law_part" DI
 Eu:Fq K mg "_law_claims" zP
 Ew:Fq K mg "_law_world" gU
 vU:Fq K mg "_law_truth" vR
 vV:Fq K mg "_law_counts" mX
 vW:Fq K mg "_law_farthest" zQ
 eE:Fq K mg "_law_event" zR
 Ex:Fq K mg "_law_tree" qd
 Ey:Fq K mg "_law_all_refuted" DJ
 Ez:Fq K mg "_law_right" vS
 EA:Fq K mg "_law_had" jR
 EB:Fq K mg "_law_off_board" vT
 lQ:Fq K mg "law" gu
 vX:mg "all" = O
 zS:mg "any" = O
 Mn:mg "bool" = O
 Yi:mg "dict" = O
 zT:mg "enumerate" = O
 Mo:mg "int" = O
 jk:mg "isinstance" = O
 cW:mg "len" = O
 oJ:mg "list" = O
 qB:mg "max" = O
 Mp:mg "min" = O
 gW:mg "range" = O
 Yj:mg "reversed" = O
 Mq:mg "set" = O
 Mr:mg "sorted" = O
 Ms:mg "sum" = O
 vY:mg "tuple" = O
 Mt:mg "zip" = O
 zU:ae0
 aew:mg "GazeError" = U (.ref zU)
 oK:ae0
 EC:mg "NoBoard" = U (.ref oK)
 nc:ae0
 ED:mg "NoTelling" = U (.ref nc)
 fD:ae0
 EE:mg "NoClaim" = U (.ref fD)
 ng:ae0
 Yk:mg "NoEvent" = U (.ref ng)
 tF:ae0
 Yl:mg "TooMany" = U (.ref tF)
 fR:ae0
 Ym:mg "Event" = U (.ref fR)
 dI:ae0
 Yn:mg "Spanned" = U (.ref dI)
 b7:ae0
 Yo:mg "Over" = U (.ref b7)
 fz:ae0
 aex:mg "Paired" = U (.ref fz)
 bX:ae0
 Yp:mg "Both" = U (.ref bX)
 bY:ae0
 Yq:mg "Either" = U (.ref bY)
 cK:ae0
 Yr:mg "Nay" = U (.ref cK)
 cL:ae0
 Ys:mg "Lying" = U (.ref cL)
 aZ:ae0
 Mu:mg "Board" = U (.ref aZ)
 Mv:bR K fR
 aey:Meth K fR "held" gV.a
 aez:Meth K fR "sizes" jS.a
 Mw:bR K dI
 Mx:cc K dI "first"
 My:cc K dI "last"
 aeA:Meth K dI "held" gV.a
 aeB:Meth K dI "sizes" jS.a
 Mz:Mk K dI mY.a
 aeC:Meth K dI "far" oz.a
 aeD:Meth K dI "all_at" mZ.a
 ix:bR K b7
 vZ:cc K b7 "first"
 tG:cc K b7 "last"
 v3:cc K b7 "sill"
 aeE:Meth K b7 "held" gV.a
 Yt:Meth K b7 "sizes" jS.a
 EF:Mk K b7 qe.a
 Yu:Meth K b7 "far" oz.a
 MA:Meth K b7 "all_at" mZ.a
 Yv:Meth K b7 "ways" qf.a
 Yw:Meth K b7 "breaks" qg.a
 MB:bR K fz
 MC:cc K fz "one"
 MD:cc K fz "other"
 aeF:Meth K fz "held" gV.a
 aeG:Meth K fz "sizes" jS.a
 ME:Mk K fz lL.a
 aeH:Meth K fz "far" lM.a
 gv:bR K bX
 qC:cc K bX "one"
 qD:cc K bX "other"
 Yx:Meth K bX "held" gV.a
 MF:Meth K bX "sizes" oA.a
 EG:Mk K bX lL.a
 Yy:Meth K bX "far" lM.a
 Yz:Meth K bX "ways" qh.a
 YA:Meth K bX "breaks" qi.a
 gx:bR K bY
 qE:cc K bY "one"
 qF:cc K bY "other"
 YB:Meth K bY "held" gV.a
 MG:Meth K bY "sizes" oB.a
 EH:Mk K bY lL.a
 YC:Meth K bY "far" lM.a
 YD:Meth K bY "ways" qj.a
 YE:Meth K bY "breaks" qk.a
 jm:bR K cK
 qG:cc K cK "one"
 YF:Meth K cK "held" gV.a
 YG:Meth K cK "sizes" qt.a
 EI:Mk K cK ql.a
 YH:Meth K cK "far" qm.a
 YI:Meth K cK "ways" qq.a
 YJ:Meth K cK "breaks" qr.a
 kB:bR K cL
 v5:cc K cL "marks"
 aeI:Meth K cL "held" gV.a
 YK:Meth K cL "sizes" jS.a
 EJ:Mk K cL qu.a
 YL:Meth K cL "far" qv.a
 YM:Meth K cL "ways" qw.a
 YN:Meth K cL "breaks" qx.a
 MH:Meth K cL "all_right" oE.a
 cM:bR K aZ
 v7:cc K aZ "eyes"
 tH:cc K aZ "turns"
 zV:cc K aZ "up"
 zW:cc K aZ "down"
 v8:cc K aZ "most"
 tI:cc K aZ "told"
 zX:Mk K aZ oF.a
 MI:Meth K aZ "has_eye" oG.a
 wa:Meth K aZ "has_turn" kz.a
 MJ:Meth K aZ "tell" oH.a
 MK:Meth K aZ "tellings" oI.a
 YO:Meth K aZ "check_spot" qz.a
 YQ:JL K dI "__init__" mY.a
 wb:XC K oK
 wc:XC K nc
 zY:XC K fD
 EK:XC K ng
 EL:XC K tF
 YR:ajq K (.ref fD) (.ref fD)=U true
 YS:afM K (.ref cK) (.ref fR)=U true
 YT:afM K (.ref bX) (.ref fR)=U true
 YU:afM K (.ref bY) (.ref fR)=U true
 YV:∃ t,mg "SIZE_AT_MOST" = U (.int 100 t)
 YW:∃ t,mg "LAST_TURN" = U (.int 11 t)
 EM:afg K (.ref cK) "__class__" = U (U (.builtin "object.__class__"))
 EN:ahH K cK (.type "object")=U true
 EO:afg K (.ref bX) "__class__" = U (U (.builtin "object.__class__"))
 ER:ahH K bX (.type "object")=U true
 ES:afg K (.ref bY) "__class__" = U (U (.builtin "object.__class__"))
 ET:ahH K bY (.type "object")=U true
 wg:ahG K (.builtin "object.__class__") "__get__" = U (U (.builtin "getset_descriptor.__get__"))
 wj:akp K (.builtin "object.__class__")=U true
 YX:∃ t,mg "EYES_AT_MOST" = U (.int 7 t)
 YY:∃ t,mg "TURNS_AT_MOST" = U (.int 12 t)
set_option genInjectivity true
set_option genSizeOf true
inductive qH(K:aeN)(vs:List V)(H:Hp)(Q:VK)(aO:XK):Prop
 | mk(a:ae0)(ns:List Int)(_:vs=[.ref a])(_:ai K H a (ns.map V.int))(_:mz ns)(_:∀ H',Q (.bl true) H')
def ML(c:afG × agn × aeN × (Str->Option aeX) × ag3):Prop:=∃ T:Tx c.2.2.1 c.2.2.2.1,¬ Ok c.1 c.2.1 c.2.2.2.2 37 T.lQ (qH c.2.2.1)
noncomputable def wk:afG × agn × aeN × (Str->Option aeX) × ag3:=@Classical.epsilon _ #[(default,#[λy y=>0,{strHash:=λy=>0,shareClass:=λy=>0,mergeTok:=id,idOf:=λy=>0,idOfShared:=λy y=>0,followText:=λy=>false,idOfImm:=λy=>0}],[],λy=>O,default)] ML
@[irreducible] noncomputable def P:afG:=wk.1
@[irreducible] noncomputable def w:agn:=wk.2.1
@[irreducible] noncomputable def K:aeN:=wk.2.2.1
@[irreducible] noncomputable def mg:Str->Option aeX:=wk.2.2.2.1
@[irreducible] noncomputable def base:ag3:=wk.2.2.2.2
theorem YZ(h:∀ T:Tx K mg,Ok P w base 37 T.lQ (qH K)){P:afG}{w:agn}{K:aeN}{mg:Str->Option aeX}{base:ag3}(T:Tx K mg):Ok P w base 37 T.lQ (qH K):=Classical.byContradiction λz=>by obtain⟨T,n⟩:=Classical.epsilon_spec (p:=ML) #[(P,w,K,mg,base),T,z];unfold n6.P n6.w n6.K n6.mg n6.base at h;exact n (h T)
abbrev aA:=Tx K mg
abbrev aP(k:Nat){x:Str}{st:ajO}{ps:List Str}(F:Fn K mg x st ps)(sp:Sp):Prop:=Ok P w base k F sp
abbrev cN(k:Nat){x q:Str}{st:ajO}{ps:List Str}(F:Fm K x q st ps)(sp:Sp):Prop:=Om P w mg base k F sp
section
seal L2.PE L2.PS L2.aS L2.PA
inductive Y0(vs:List V)(H:Hp)(Q:VK)(aO:XK):Prop
 | mk(v:V)(_:vs=[v])(_:(v = .non ∨ ∃ i,v = .int i))(_:Q (.bl (isWhole v)) H)
theorem qI(T:aA):aP 1 T.tD Y0:=by
 refine bb DC ?_;rintro y y y y y y y y y ⟨v,rfl,hv,q⟩;refine#[_,(aq (az (gR (cR i9 (by rfl) T.jk i8 (ae (aa 0) (ae (jv (v:=.ty "int") Y T.Mo Ir Y) ag))) (fH (sP (cR i9 (by rfl) T.jk i8 (ae (aa 0) (ae (jv (v:=.ty "bool") Y T.Mn Iu Y) ag)))))))),?_];rcases hv with rfl|⟨i,rfl⟩
 .rfl';exact q
 .rfl';exact q
inductive Y1(vs:List V)(H:Hp)(Q:VK)(aO:XK):Prop
 | mk(a b:En)(_:vs=[ev a,ev b])(_:Q (.bl (aY a b)) H)
theorem zZ(T:aA):aP 1 T.DK Y1:=by
 refine bb Dg ?_;rintro z z z z z z z z z ⟨a,b,rfl,q⟩;refine#[_,(aq (az (gR (kK (ug (aa 0))) (gR (kK (ug (aa 1))) (fH (gI (lG xF) (aa 0) (aa 1) (d8 _))))))),?_];rcases a with z|x
 .rfl';exact q
 rcases b with z|y
 .rfl';exact q
 rfl';exact q
inductive Y2(vs:List V)(H:Hp)(Q:VK)(aO:XK):Prop
 | mk(v:V)(a b:En)(n:Int)(_:vs=[v,.int n])(_:aQ H v a b)(_:Q (.bl (hold a b n)) H)
theorem Y3(T:aA):aP 2 T.DL Y2:=by
 refine bb Dh ?_;rintro y y y y y y y y hr ⟨v,a,b,n,rfl,⟨p,rfl,hp⟩,q⟩;refine#[_,(aq (az (gR (sP (aD (zZ T) hr (ae (ak (aa 0) af) (ae (aa 1) ag)))) (fH (sP (aD (zZ T) hr (ae (aa 1) (ae (ak (aa 0) af) ag)))))))),?_];rfl';refine ay (aj.of hp) Y #[a,U n,Y,?_];unfold hold at q;rfl';cases hc:aY a (U n) with
 | true =>
  rw[hc] at q;rfl';exact q
 | false =>
  rw[hc] at q;rfl';refine ay (aj.of hp) Y #[U n,b,Y,?_];rfl';exact q
inductive Y4(vs:List V)(H:Hp)(Q:VK)(aO:XK):Prop
 | mk(v u:V)(a b c d:En)(_:vs=[v,u])(_:aQ H v a b)(_:aQ H u c d)(_:∀ x H',ah H H'->JH H' x (eh a c) (e9 b d)->Q x H')
theorem EU(T:aA):aP 2 T.DM Y4:=by
 refine bb vI ?_;rintro y y y y H y Q y hr ⟨v,u,a,b,c,d,rfl,⟨p,rfl,hp⟩,⟨r,rfl,eQ⟩,q⟩;refine#[_,(au (aL 2 vI.nd (BM Y Y T.qB (cU (cO [] []) Y (oW (aT (ae (ak (aa 0) af) (ae (ak (aa 1) af) ag)))) (λC s2 H2 ex pn=>#[(jG (gQ (aa 0))),(aa 0)])) cj)) (au (aL 3 vI.nd (Tf Y Y T.Mp (cU (cO [] []) Y (oW (aT (ae (ak (aa 0) af) (ae (ak (aa 1) af) ag)))) (λC s2 H2 ex pn=>#[(jG (gQ (aa 0))),(aa 0)])) cj)) (au (aH (bO (aD (zZ T) hr (ae (aa 2) (ae (aa 3) ag)))) (aq (az cj)) aG) (aq (az (aT (ae (aa 2) (ae (aa 3) ag)))))))),?_];rfl';refine aE hp (aE eQ ?_);rfl';refine#[aX,λt ht=>#[#[_,aj.of ar],JI ar (λx H Q h=>?_) (λx H Q h=>?_) λl hl=>?_]]
 .rfl';exact LW (Q:=λk=>Q k H) h
 .rfl';exact h
 refine#[l,Y,nums a c,ai.of ar,?_];rw[Uc];have s2:=(ao (o:=.tup [ev a,ev c]) ht).trans (ao (o:=.lst ((nums a c).map V.int)) hl);generalize upd (upd H t (.tup [ev a,ev c])) l (.lst ((nums a c).map V.int))=H2 at s2 ⊢;refine aE (s2 _ _ hp) (aE (s2 _ _ eQ) ?_);rfl';refine#[aX,λt' Y5=>#[#[_,aj.of ar],JI ar (λx H Q h=>?_) (λx H Q h=>?_) λl' ua=>?_]]
 .rfl';exact LW (Q:=λk=>Q k H) h
 .rfl';exact h
 refine#[l',Y,nums b d,ai.of ar,?_];rw[Ud];have s3:=s2.trans ((ao (o:=.tup [ev b,ev d]) Y5).trans (ao (o:=.lst ((nums b d).map V.int)) ua));generalize upd (upd H2 t' (.tup [ev b,ev d])) l' (.lst ((nums b d).map V.int))=H3 at s3 ⊢;refine#[_,_,Y,?_];cases hc:aY (eh a c) (e9 b d) with
 | true =>
  rfl';exact q _ _ s3 #[λy=>rfl,λz=>nomatch hc.symm.trans z]
 | false =>
  rfl';exact#[aX,λp' eK=>q _ _ (s3.trans (ao eK)) #[λz=>(nomatch hc.symm.trans z),λy=>aQ.new]]
def fS(e t u d m:Int):Prop:=(1<=e/\e<=7)/\(1<=t/\t<=12)/\0<=u/\0<=d/\0<=m/\m<=e
noncomputable def z5(e t u d m:Int)(p:ae0):List (Str × V):=[("eyes",.int e),("turns",.int t),("up",.int u),("down",.int d),("most",.int m),("told",.ref p)]
inductive Y6(B C:ae0)(vs:List V)(H:Hp)(Q:VK)(E:XK):Prop
 | mk(x dx:ae0)(e t u d m:Int)(_:vs=[.ref x,.int e,.int t,.int u,.int d,.int m])(_:H x=U (.ins B dx []))(_:(¬ fS e t u d m->E (.ref C) O H))(_:(fS e t u d m->∀ p H',H p=O->SameBut x H H'->H' x=U (.ins B dx (z5 e t u d m p))->H' p=U (.dT [])->Q .non H'))
theorem MM(T:aA):cN 1 T.oF (Y6 T.aZ T.oK):=by
 refine sQ zF ?_;rintro y y y y H y y E y ⟨x,dx,e,t,u,d,m,rfl,hx,q0,q⟩;refine#[_,(au (aH (PW.pt (bI (bJ (C6 gH gH af (aa 1) (yA T.YX Y))) (da (bJ (C6 gH gH af (aa 2) (yA T.YY Y)))))) (aq (kU kW Y T.EC T.wb Y (ae aU ag))) aG) (au (aH (PW.pt (bI (lH (aa 3) af) (da (lH (aa 4) af)))) (aq (kU kW Y T.EC T.wb Y (ae aU ag))) aG) (au (aH (bJ (C6 gH gH af (aa 5) (aa 1))) (aq (kU kW Y T.EC T.wb Y (ae aU ag))) aG) (au (jg (aa 0) (aa 1) Y) (au (jg (aa 0) (aa 2) Y) (au (jg (aa 0) (aa 3) Y) (au (jg (aa 0) (aa 4) Y) (au (jg (aa 0) (aa 5) Y) (aq (jg (aa 0) Kh Y)))))))))),?_];have no:∀ D J,¬ fS e t u d m->∀ x,Bu T.oK E (xJ (tC (.str x)) rB) D J H:=λD J z x=>#[by show 1<=afl;decide,q0 z]
 refine aC (λJ H1=>J=[U (.ref x),U (.int e),U (.int t),U (.int u),U (.int d),U (.int m)]/\H=H1/\(1<=e/\e<=7)/\1<=t/\t<=12) (λN hN=>?_) ?_
 .rfl';exact a7 (λh1=>a7 (λh2=>a7 (λh3=>a7 (λh4=>hN _ _ #[Y,Y,#[h1,h2],h3,h4]) λh4=>no _ _ (λz=>by unfold fS at z;lia) _) λh3=>no _ _ (λz=>by unfold fS at z;lia) _) λh2=>no _ _ (λz=>by unfold fS at z;lia) _) λh1=>no _ _ (λz=>by unfold fS at z;lia) _
 rintro y yR J y ⟨rfl,rfl,e1,t1⟩;subst yR;refine aC (λJ H1=>J=[U (.ref x),U (.int e),U (.int t),U (.int u),U (.int d),U (.int m)]/\H=H1/\0<=u/\0<=d) (λN hN=>?_) ?_
 .rfl';exact a7 (λh5=>no _ _ (λz=>by unfold fS at z;lia) _) λh5=>a7 (λh6=>no _ _ (λz=>by unfold fS at z;lia) _) λh6=>hN _ _ #[Y,Y,by lia,by lia]
 rintro y yR J y ⟨rfl,rfl,u1,d1⟩;subst yR;refine aC (λJ H1=>J=[U (.ref x),U (.int e),U (.int t),U (.int u),U (.int d),U (.int m)]/\H=H1/\0<=m/\m<=e) (λN hN=>?_) ?_
 .rfl';exact a7 (λh7=>a7 (λh8=>hN _ _ #[Y,Y,h7,h8]) λh8=>no _ _ (λz=>by unfold fS at z;lia) _) λh7=>no _ _ (λz=>by unfold fS at z;lia) _
 rintro y yR J y ⟨rfl,rfl,m1⟩;subst yR;replace q:=q #[e1,t1,u1,d1,m1];rfl';refine#[_,_,_,hx,T.cM,T.v7,(by show 0<1000;decide),_,_,_,ar,T.cM,T.tH,(by show 1<1000;decide),_,_,_,ar,T.cM,T.zV,(by show 2<1000;decide),_,_,_,ar,T.cM,T.zW,(by show 3<1000;decide),_,_,_,ar,T.cM,T.v8,(by show 4<1000;decide),?_];rw[oU,oU,oU,oU];intro p hp;have MN:p≠x:=λz=>by rw[z,ar] at hp;cases hp
 refine#[_,_,_,(ao hp) _ _ ar,T.cM,T.tI,(by show 5<1000;decide),q p _ (by rw[aI MN] at hp;exact hp) (λb o hb e=>?_) ar ?_]
 .rw[aI hb];exact (ao hp) _ _ (by rw[aI hb];exact e)
 .rw[aI MN,ar]
structure jT(B:ae0)(H:Hp)(x:ae0)(e t u d m:Int)(p:ae0)(kvs:List (List Key × V)):Prop where
 ob:∃ dx,H x=U (.ins B dx (z5 e t u d m p))
 tb:H p=U (.dT kvs)
theorem jT.same(h:jT B H x e t u d m p kvs)(s:ah H H'):jT B H' x e t u d m p kvs:=let ⟨⟨dx,a⟩,b⟩:=h;#[#[dx,s _ _ a],s _ _ b]
inductive Y7(B:ae0)(vs:List V)(H:Hp)(Q:VK)(aO:XK):Prop
 | mk(x p:ae0)(e t u d m i:Int)(kvs:List (List Key × V))(_:vs=[.ref x,.int i])(_:jT B H x e t u d m p kvs)(_:Q (.bl (decide (0<=i/\i<e))) H)
inductive Y8(B:ae0)(vs:List V)(H:Hp)(Q:VK)(aO:XK):Prop
 | mk(x p:ae0)(e t u d m i:Int)(kvs:List (List Key × V))(_:vs=[.ref x,.int i])(_:jT B H x e t u d m p kvs)(_:Q (.bl (decide (0<=i/\i<t))) H)
theorem MO(T:aA):cN 1 T.oG (Y7 T.aZ):=by
 refine dH zG ?_;rintro y y y y y y y y y ⟨x,p,e,t,u,d,m,i,kvs,rfl,⟨⟨dx,hx⟩,hp⟩,q⟩;refine#[_,(aq (az (Hj gH Bb af (aa 1) (b6 Y (aa 0) Y)))),?_];rfl';refine a7 (λh1=>?_) λh1=>?_
 .refine#[_,_,_,hx,T.cM,T.v7,_,Y,?_];rfl';rw[show decide (0<=i/\i<e)=decide (i<e) by simp[h1]] at q;exact q
 .rw[show decide (0<=i/\i<e)=false by simp[h1]] at q;exact q
theorem wm(T:aA):cN 1 T.kz (Y8 T.aZ):=by
 refine dH zH ?_;rintro y y y y y y y y y ⟨x,p,e,t,u,d,m,i,kvs,rfl,⟨⟨dx,hx⟩,hp⟩,q⟩;refine#[_,(aq (az (Hj gH Bb af (aa 1) (b6 Y (aa 0) Y)))),?_];rfl';refine a7 (λh1=>?_) λh1=>?_
 .refine#[_,_,_,hx,T.cM,T.tH,_,Y,?_];rfl';rw[show decide (0<=i/\i<t)=decide (i<t) by simp[h1]] at q;exact q
 .rw[show decide (0<=i/\i<t)=false by simp[h1]] at q;exact q
inductive Y9(B C:ae0)(vs:List V)(H:Hp)(Q:VK)(E:XK):Prop
 | mk(x p:ae0)(e t u d m i j:Int)(kvs:List (List Key × V))(_:vs=[.ref x,.int i,.int j])(_:jT B H x e t u d m p kvs)(_:(¬ ((0<=i/\i<e)/\0<=j/\j<t)->E (.ref C) O H))(_:((0<=i/\i<e)/\0<=j/\j<t->Q .non H))
theorem Za(T:aA):cN 2 T.qz (Y9 T.aZ T.nc):=by
 refine sQ zK ?_;rintro y y y y y y y y hr ⟨x,p,e,t,u,d,m,i,j,kvs,rfl,hb,q0,q⟩;refine#[_,(aq (aH (PW.pt (bI (bJ (bO (jC (aa 0) T.cM T.MI (MO T) hr.m T.oG.b .nil bS (ae (aa 1) ag)))) (da (bJ (bO (jC (aa 0) T.cM T.wa (wm T) hr.m T.kz.b .nil bS (ae (aa 2) ag))))))) (aq (kU kW Y T.ED T.wc Y (ae aU ag))) aG)),?_];obtain⟨⟨dx,hx⟩,hp⟩:=id hb;rfl';refine#[_,_,hx,Y,x,p,e,t,u,d,m,i,kvs,Y,hb,?_];by_cases h1:0<=i/\i<e
 .rw[decide_eq_true h1];rfl';refine#[_,_,hx,Y,x,p,e,t,u,d,m,j,kvs,Y,hb,?_];by_cases h2:0<=j/\j<t
  .rw[decide_eq_true h2];rfl';exact q #[h1,h2]
  .rw[decide_eq_false h2];rfl';exact#[by decide,q0 λz=>h2 z.2]
 .rw[decide_eq_false h1];rfl';exact#[by decide,q0 λz=>h1 z.1]
inductive Zb(B C:ae0)(vs:List V)(H:Hp)(Q:VK)(E:XK):Prop
 | mk(x p:ae0)(e t u d m i j:Int)(lo hi:En)(kvs:List (List Key × V))(_:vs=[.ref x,.int i,.int j,ev lo,ev hi])(_:jT B H x e t u d m p kvs)(_:kvs.length<1000)(_:(¬ (((0<=i/\i<e)/\0<=j/\j<t)/\aY lo hi=false)->E (.ref C) O H))(_:(((0<=i/\i<e)/\0<=j/\j<t)/\aY lo hi=false->∀ v H',SameBut p H H'->H' p=U (.dT (putK kvs (dE i j) v))->aQ H' v lo hi->Q .non H'))
theorem MP(T:aA):cN 3 T.oH (Zb T.aZ T.nc):=by
 refine sQ zI ?_;rintro c c c c c c c c hr ⟨x,p,e,t,u,d,m,i,j,lo,hi,kvs,rfl,hb,hl,q0,q⟩;refine#[_,(au (fI (jC (aa 0) T.cM T.YO (Za T) hr.m T.qz.b .nil jc (ae (aa 1) (ae (aa 2) ag)))) (au (aH (bO (aD (zZ T) hr (ae (aa 3) (ae (aa 4) ag)))) (aq (kU kW Y T.ED T.wc Y (ae aU ag))) aG) (aq (Cc (gJ hr) (b6 Y (aa 0) Y) (aT (ae (aa 1) (ae (aa 2) ag))) (aT (ae (aa 3) (ae (aa 4) ag))) Y)))),?_];obtain⟨⟨dx,hx⟩,hp⟩:=id hb;rfl';refine#[_,_,hx,Y,x,p,e,t,u,d,m,i,j,kvs,Y,hb,λz=>q0 λy=>z y.1,λbL=>?_];refine#[lo,hi,Y,?_];cases hc:aY lo hi with
 | true =>
  rfl';exact#[by decide,q0 λz=>by rw[hc] at z;cases z.2]
 | false =>
  rfl';refine#[aX,λv hv=>#[_,_,_,(ao hv) _ _ hx,T.cM,T.tI,_,Y,aX,λk hk=>?_]];have s2:=(ao (o:=.tup [ev lo,ev hi]) hv).trans (ao (o:=.tup [.int i,.int j]) hk);refine#[p,Y,_,pF.t (k:=dE i j) (s2 _ _ hp) ar (alW hl (by decide)),q #[bL,hc] (.ref v) _ (λb o pA e=>?_) ar #[v,Y,?_]]
  .rw[aI pA];exact s2 _ _ e
  .have vp:v≠p:=λz=>by rw[z] at hv;rw[hp] at hv;cases hv
   rw[aI vp];exact (ao hk) _ _ ar
inductive Zc(vs:List V)(H:Hp)(Q:VK)(aO:XK):Prop
 | mk(a:ae0)(ns:List Int)(k pr m:Int)(_:vs=[.ref a,.int k,.int pr,.int m])(_:ai K H a (ns.map V.int))(_:mz ns)(_:(-1000000<=k/\k<=1000000))(_:0<pr)(_:0<m)(_:∀ p:Int,0<=p->p<m->Q (.int p) H)
theorem Zd(h:mz ns)(hk : -1000000<=k/\k<=1000000):se k k/\se (uW ns k+k * k) 48271:=by have c:=Ul h k;have k1:Bt 64 k:=Bt.small (by lia) (by lia);have k2:Bt 128 (k * k):=k1.mul k1;have n2:Bt 64 48271:=Bt.small (by decide) (by decide);exact#[#[k1.up (by decide),k1.up (by decide)],(c.add (k2.up (by decide))).up (by decide),n2.up (by decide)]
theorem dX(T:aA):aP 1 T.Eg Zc:=by
 refine bb DB ?_;rintro y y y y y y y y y ⟨a,ns,k,pr,m,rfl,hS,hn,hk,hpr,hm,q⟩;refine#[_,(au (aH (bp (c9 T.cW (ae (aa 0) ag)) af) (aq (az af)) aG) (aq (az (aJ yY (aJ yY (aJ LY (aJ bV (ak (aa 0) (aJ yY (aa 1) (c9 T.cW (ae (aa 0) ag)))) (aJ LY (aa 1) (aa 1))) af) (aa 2)) (aa 3))))),?_];rfl';refine#[_,eX hS,?_];rw[aeO];have pm:=Zd hn hk;refine a7 (λh=>?_) λh=>?_
 .exact q 0 (by decide) hm
 .have h:0<(ns.length:Int):=by have:ns.length≠0:=λz=>h (by rw[z];rfl);lia
  refine#[_,eX hS,?_];rw[aeO];refine#[h,bK hS (Um h) ?_];rfl';exact#[pm.1,pm.2,hpr,hm,q _ (amu _ (by lia)) (ali _ hm)]
inductive Ze(vs:List V)(H:Hp)(Q:VK)(aO:XK):Prop
 | mk(a:ae0)(ns:List Int)(_:vs=[.ref a])(_:ai K H a (ns.map V.int))(_:mz ns)(_:∀ (p:Int) (H':Hp),ah H H'->Q (.int p) H')
theorem Zf(T:aA):aP 2 T.Eh Ze:=by
 refine bb zL ?_;rintro y y y y y y y y hr ⟨a,ns,rfl,hS,hn,q⟩;refine#[_,(au (aH (bp (c9 T.cW (ae (aa 0) ag)) af) (aq (az af)) aG) (au (aL 1 zL.nd (aJ yY (ak (aa 0) af) (aJ Ba af af))) (aq (az (ak (aT (ae af (ae (aa 1) (ae (aJ dG af (aa 1)) (ae (aJ dG (aJ Ba af af) (aa 1)) ag))))) (aD (dX T) hr (ae (aa 0) (ae af (ae af (ae af ag)))))))))),?_];rfl';refine#[_,eX hS,?_];rw[aeO];refine a7 (λh=>q _ _ (ah.refl _)) λh=>?_;have h:0<(ns.length:Int):=by have:ns.length≠0:=λz=>h (by rw[z];rfl);lia
 have h0:dA (ns.map V.int) 0=U (.int (ns.getD 0 0)):=fo (j:=0) (by rw[ae5,aeP,aeQ (by lia)];rfl);refine bK hS h0 ?_;rfl';refine#[#[by decide,by decide,by decide],#[by decide,by decide,by decide],by decide,λt ht=>?_];refine#[a,ns,_,_,_,Y,(ao ht).seq hS,hn,by lia,by lia,by lia,λp p1 p2=>?_];rcases (by lia:p=0∨p=1∨p=2∨p=3) with rfl|rfl|rfl|rfl
 all_goals exact ay (aj.of ar) Y (q _ _ (ao ht))
inductive Zg(vs:List V)(H:Hp)(Q:VK)(aO:XK):Prop
 | mk(p:ae0)(lo hi:En)(n:Int)(_:vs=[.ref p,.int n])(_:aj K H p [ev lo,ev hi])(_:Q (.bl (hold lo hi n)) H)
theorem z6(T:aA):aP 1 T.Ei Zg:=by
 refine bb DD ?_;rintro y y y y H y Q y y ⟨p,lo,hi,n,rfl,hp,q⟩;refine#[_,(aq (az (gR (vE (kK (oV (ak (aa 0) af))) (fH (gI (lG gH) (ak (aa 0) af) (aa 1) (d8 _)))) (fH (vE (kK (oV (ak (aa 0) af))) (fH (gI (lG gH) (aa 1) (ak (aa 0) af) (d8 _)))))))),?_];rcases lo with y|lo<;>rcases hi with y|hi
 all_goals simp only[uT,uU] at hp
 all_goals
  rfl'
  repeat' first
  | refine ay hp Y ?_
  | (walk_at "p")
  | (refine a7 (λhc=>?_) λhc=>?_)
 all_goals first
  | exact q
  | exact (congrArg (λb=>Q (V.bl b) H) (show hold _ _ n=_ by rw[agp,pE];simp<;>lia)).mp q
inductive Zh(vs:List V)(H:Hp)(Q:VK)(aO:XK):Prop
 | mk(p:ae0)(lo hi:En)(_:vs=[.ref p])(_:aj K H p [ev lo,ev hi])(_:Q (.bl (aY lo hi)) H)
theorem EV(T:aA):aP 1 T.m8 Zh:=by
 refine bb DF ?_;rintro y y y y y y y y y ⟨p,lo,hi,rfl,hp,q⟩;refine#[_,(aq (az (gR (kK (ug (ak (aa 0) af))) (gR (kK (ug (ak (aa 0) af))) (fH (gI (lG xF) (ak (aa 0) af) (ak (aa 0) af) (d8 _))))))),?_];rcases lo with y|lo<;>rcases hi with y|hi
 all_goals simp only[uT,uU] at hp
 all_goals
  rfl'
  repeat' first
  | exact q
  | refine ay hp Y ?_
  | (walk_at "p")
def jU(i j:Int):Prop:=0<=i/\i<=j/\j<=11
inductive Zi(N:ae0)(vs:List V)(H:Hp)(Q:VK)(E:XK):Prop
 | mk(x C dx:ae0)(i j:Int)(_:vs=[.ref x,.int i,.int j])(_:H x=U (.ins C dx []))(_:bR K C)(_:cc K C "first")(_:cc K C "last")(_:(¬ jU i j->E (.ref N) O H))(_:(jU i j->Q .non (upd H x (.ins C dx [("first",.int i),("last",.int j)]))))
theorem Zj(T:aA):cN 1 T.mY (Zi T.ng):=by
 refine sQ zg ?_;rintro v v v v H v v E v ⟨x,C,dx,i,j,rfl,hx,hc,n1,n2,q0,q⟩;refine#[_,(au (aH (bJ (WD gH gH gH af (aa 1) (aa 2) (yA T.YW Y))) (aq (kU kW Y T.Yk T.EK Y (ae aU ag))) aG) (au (jg (aa 0) (aa 1) Y) (aq (jg (aa 0) (aa 2) Y)))),?_];rfl';have no:∀ D J,¬ jU i j->∀ y,Bu T.ng E (xJ (tC (.str y)) rB) D J H:=λD J z y=>#[by show 1<=afl;decide,q0 z]
 refine a7 (λh1=>a7 (λh2=>a7 (λh3=>no _ _ (λz=>h3 z.2.2) _) λh3=>?_) λh2=>no _ _ (λz=>h2 z.2.1) _) λh1=>no _ _ (λz=>h1 z.1) _;refine#[_,_,_,hx,hc,n1,(by show 0<1000;decide),_,_,_,ar,hc,n2,(by show 1<1000;decide),?_];rw[oU];exact q #[h1,h2,by lia]
inductive Zk(C N:ae0)(vs:List V)(H:Hp)(Q:VK)(E:XK):Prop
 | mk(x dx:ae0)(i j:Int)(v:V)(_:vs=[.ref x,.int i,.int j,v])(_:H x=U (.ins C dx []))(_:(¬ jU i j->E (.ref N) O H))(_:(jU i j->Q .non (upd H x (.ins C dx [("first",.int i),("last",.int j),("sill",v)]))))
theorem Zl(T:aA):cN 2 T.qe (Zk T.b7 T.ng):=by refine sQ zj ?_;rintro y y y y y y y y hr ⟨x,dx,i,j,v,rfl,hx,q0,q⟩;refine#[_,(au (fI (Ug Y T.Yn T.YQ (Zj T) hr.m T.mY.b .nil jc (ae (aa 0) (ae (aa 1) (ae (aa 2) ag))))) (aq (jg (aa 0) (aa 3) Y))),?_];rfl';refine#[x,T.b7,dx,i,j,Y,hx,T.ix,T.vZ,T.tG,q0,λhk=>?_];rfl';refine#[_,_,_,ar,T.ix,T.v3,(by show 2<1000;decide),?_];rw[oU];exact q hk
inductive Zm(vs:List V)(H:Hp)(Q:VK)(aO:XK):Prop
 | mk(x C dx:ae0)(fs:List (Str × V))(j:Int)(_:vs=[.ref x])(_:H x=U (.ins C dx fs))(_:bR K C)(_:cc K C "last")(_:fs.lookup ("last" : Str)=U (.int j))(_:Q (.int j) H)
theorem Zn(T:aA):cN 1 T.oz Zm:=by refine dH zh ?_;rintro y y y y y y y y y ⟨x,C,dx,fs,j,rfl,hx,hc,n1,hl,q⟩;refine#[_,(aq (az (b6 Y (aa 0) Y))),?_];rfl';exact#[_,_,_,hx,hc,n1,_,hl,q]
noncomputable def MQ(lo:En):List S2:=match lo with|none=>[]|some l=>[(O,U (l-1))]
noncomputable def MR(hi:En):List S2:=match hi with|none=>[]|some h=>[(U (h+1),O)]
theorem Zo(lo hi:En):fv (lo,hi)=MQ lo++MR hi:=by cases lo<;>cases hi<;>rfl
inductive Zp(vs:List V)(H:Hp)(Q:VK)(aO:XK):Prop
 | mk(p:ae0)(s:S2)(_:vs=[.ref p])(_:H p=U (.tup [ev s.1,ev s.2]))(_:∀ l xs H',ah H H'->H l=O->H' l=U (.lst xs)->my H' xs (fv s)->Q (.ref l) H')
theorem Zq(T:aA):aP 1 T.DV Zp:=by
 refine bb vJ ?_;rintro y y y s H y y y y ⟨p,⟨lo,hi⟩,rfl,hp,q⟩;refine#[_,(au (aL 1 vJ.nd (nD (eO (ak (aa 0) af)) (dj ag) (dj (ae (aT (ae cj (ae (aJ dG (ak (aa 0) af) af) ag))) ag)))) (au (aL 2 vJ.nd (nD (eO (ak (aa 0) af)) (dj ag) (dj (ae (aT (ae (aJ bV (ak (aa 0) af) af) (ae cj ag))) ag)))) (aq (az (aJ kT (aa 1) (aa 2)))))),?_];replace hp:H p=U (.tup [ev lo,ev hi]):=hp;rw[Zo] at q;refine aC (λJ H1=>∃ a xs,J=[U (.ref p),U (.ref a),O]/\ah H H1/\H1 a=U (.lst xs)/\xs.length<=1/\ax (λv (s:S2)=>aQ H1 v s.1 s.2) xs (MQ lo)) (λN hN=>?_) ?_
 .clear q;rcases lo with y|lo
  .rfl';refine aE hp ?_;rfl';exact#[by decide,λa ha=>hN _ _ #[a,[],Y,ao ha,ar,by decide,trivial]]
  .rfl';refine aE hp ?_;rfl';refine aE hp ?_;rfl';exact#[aX,λta EW=>#[by decide,λa ha=>hN _ _ #[a,[.ref ta],Y,(ao EW).trans (ao ha),ar,aeV _,#[ta,Y,(ao ha) _ _ ar],trivial]]]
 rintro y yR J H1 ⟨a,xs,rfl,s1,ha,xl,hx⟩;subst yR;refine aC (λJ H2=>∃ b ys,J=[U (.ref p),U (.ref a),U (.ref b)]/\ah H1 H2/\H2 b=U (.lst ys)/\ys.length<=1/\ax (λv (s:S2)=>aQ H2 v s.1 s.2) ys (MR hi)) (λN hN=>?_) ?_
 .clear q;replace hp:=s1 _ _ hp;rcases hi with y|hi
  .rfl';refine aE hp ?_;rfl';exact#[by decide,λa ha=>hN _ _ #[a,[],Y,ao ha,ar,by decide,trivial]]
  .rfl';refine aE hp ?_;rfl';refine aE hp ?_;rfl';exact#[aX,λta EW=>#[by decide,λa ha=>hN _ _ #[a,[.ref ta],Y,(ao EW).trans (ao ha),ar,aeV _,#[ta,Y,(ao ha) _ _ ar],trivial]]]
 rintro y yR J H2 ⟨b,ys,rfl,s2,hb,yl,hy⟩;subst yR;rfl';exact#[_,s2 _ _ ha,_,hb,aeT (by lia:xs.length+ys.length<=2) (by decide),λc hc=>q c _ _ (s1.trans (s2.trans (ao hc))) ((s1.trans s2).free hc) ar (lq.mpr (ax.app (hx.imp λy y z=>aQ.same z (s2.trans (ao hc))) (hy.imp λy y z=>aQ.same z (ao hc))))]
inductive Zr(vs:List V)(H:Hp)(Q:VK)(aO:XK):Prop
 | mk(a:ae0)(xs:List V)(ps:List Pa)(_:vs=[.ref a])(_:ai K H a xs)(_:dF H xs ps)(_:ps.length<=100)(_:∀ l ys H',ah H H'->H l=O->H' l=U (.lst ys)->ax (bA H H') ys (cE ps)->Q (.ref l) H')
inductive Zs(H:Hp)(a l:ae0)(ps:List Pa)(i:Nat)(J:St)(H1:Hp):Prop
 | mk(ys:List V)(e:Option V)(_:J=[U (.ref a),U (.ref l),e])(_:ah H H1)(_:H1 l=U (.lst ys))(_:ax (jO H l H1) ys (cE (ps.take i)))(_:ys.length<=2 * i)
theorem MS(T:aA):aP 2 T.DW Zr:=by
 refine bb vK ?_;rintro y y y s H y Q y hr ⟨a,xs,ps,rfl,hS,hP,hn,q⟩;refine#[_,(au (aL 1 vK.nd (dj ag)) (au (dt afz Y (cI (aa 0)) (cS 2 vK.nd) (aq (fI (i7 afx ajM ajN Ic (aa 1) (ae (cU (cO [2] ["part"]) Y (cI (aD (Zq T) hr (ae (ak (aa 2) af) ag))) (λC s2 H2 ex pn=>#[df,(dj (ae (aT (ae (bW (K:=K) (aa 1) af) (ae (bW (K:=K) (aa 1) af) (ae (aa 0) ag)))) ag))])) ag))))) (aq (az (aa 1))))),?_];have hl:=hP.len;rfl';refine#[by decide,λl eR=>?_];have s1:=ao (o:=.lst []) eR;have e1:upd H l (.lst []) l=U (.lst []):=ar;generalize upd H l (.lst [])=H1 at s1 e1 ⊢;refine#[#[_,s1.seq hS],ja (xs:=xs) (Zs H a l ps) #[[],_,Y,s1,e1,trivial,afi _] ?_ ?_ ?_]
 .rintro i J H2 y ⟨y,y,y,s2,y⟩;exact s2.seq hS
 .rintro i x J H2 hx ⟨ys,e,rfl,s2,ba,hy,hlen⟩;obtain⟨p,hp,tp,sp,rfl,h1,h2⟩:=hP.get hx;have rY:=s2 _ _ h1;have uS:=s2 _ _ h2;rfl';refine#[.inl #[Y,_,ai.of ba],aE rY ?_];refine#[sp,p.2.2,Y,uS,λo os H3 s3 y ho i6=>?_];rfl';have vk:=lq.mp i6;have Li:=vk.len;have h2o:=sq p.2.2;refine#[#[_,ai.of ho],cn gK (aeT (by lia:os.length<=2) (by decide)) (ie (R:=λH x (s:S2)=>aQ H x s.1 s.2) (R':=jO H l) (f:=λs=>[((p.1,p.2.1,s):Pa)]) (λy y y y s' h=>h.same s') (λy y y y s' h=>h.same s') vk (bs:=[]) trivial (λH' s'=>ai.of (s' _ _ ho)) (λx k y H4 s4 r Q h=>?_) (λx k y H4 s4 r Q h=>?_) λH4 zs s4 hz=>?_)]
  .rfl';exact h
  .obtain⟨xo,rfl,hxo⟩:=r;have S4:=s3.trans s4;rfl';refine ay (aj.of (S4 _ _ rY)) Y (ay (aj.of (S4 _ _ rY)) Y #[by decide,λt ht=>#[by decide,λc hc=>?_]]);have u1:=ao (o:=.tup [.str p.1,.int p.2.1,.ref xo]) ht;have u2:=ao (o:=.lst [.ref t]) hc;have cl:c≠l:=λz=>by rw[z,u1 _ _ (S4 _ _ ba)] at hc;cases hc
   exact h _ _ (u1.trans u2) #[c,[.ref t],Y,cl,(s2.trans (S4.trans u1)).free hc,ar,#[t,xo,Y,u2 _ _ ar,(u1.trans u2) _ _ hxo],trivial]
  .intro b hb;rw[ae6] at hz;have S4:=s3.trans s4;have u:=ao (o:=.lst zs) hb;have Zt:=hz.len;rw[aeO] at Zt;have hi:i<xs.length:=(aeW.mp hx).1;refine#[l,b,_,_,Y,Y,u _ _ (S4 _ _ ba),ar,aeT (by lia:ys.length+zs.length<=300) (by decide),ys++zs,_,Y,jb eR (s2.trans (S4.trans u)),ar,?_,by rw[ae1];lia];rw[WI hp];have a1:=(hy.imp λy y r=>(r.same (S4.trans u)).put (o:=.lst (ys++zs)) (u _ _ (S4 _ _ ba)))
   have a2:=(hz.imp λy y r=>(r.same u).put (o:=.lst (ys++zs)) (u _ _ (S4 _ _ ba)))
   exact a1.app a2
 .rintro J H2 ⟨ys,e,rfl,s2,ba,hy,hlen⟩;rfl';rw[hl,afV] at hy;exact q l ys H2 s2 eR ba (hy.imp λy y r=>r.Lr)
inductive Zu(vs:List V)(H:Hp)(Q:VK)(aO:XK):Prop
 | mk(i j:Int)(p:ae0)(s:S2)(_:vs=[.int i,.int j,.ref p])(_:H p=U (.tup [ev s.1,ev s.2]))(_:(0<=i/\i<=12))(_:(-1<=j/\j<=11))(_:∀ l xs H',ah H H'->H l=O->H' l=U (.lst xs)->dF H' xs (el i j s)->Q (.ref l) H')
theorem Zv(T:aA):aP 1 T.DY Zu:=by
 refine bb Dp ?_;rintro y y y s y y Q y y ⟨i,j,p,s,rfl,hp,hi,hj,q⟩;refine#[_,(aq (az (cU (cO [2] [dh]) Y (A5 Y T.gW (ae (aa 0) (ae (aJ bV (aa 1) af) ag))) (λC s2 H2 ex pn=>#[df,(aT (ae aU (ae (aa 0) (ae (aa 1) ag))))])))),?_];rfl';refine#[by lia,by lia,by lia,by lia,cn k6 (by rw[aeO,ae9];exact aeT (by lia:_<=20) (by decide)) (ie (R:=λ_ x (k:Nat)=>x=V.int (i+k)) (R':=fA) (f:=λ(k:Nat)=>(("at",i+(k:Int),s):Pa)) (λy y y y y h=>h) (λy y y y s' h=>h.same s') (ax.jt _) (bs:=[]) trivial (λy y=>trivial) (λx k y H2 s2 r Q h=>?_) (λx k y H2 s2 r Q h=>?_) λH2 zs s2 hz=>?_)]
 .rfl';exact h
 .subst r;rfl';exact#[by decide,λt ht=>h _ _ (ao ht) #[t,p,Y,ar,(ao ht) _ _ (s2 _ _ hp)]]
 .intro l hl;refine q l zs _ (s2.trans (ao hl)) (s2.free hl) ar ?_;rw[ae6] at hz;exact hz.imp λy y r=>r.same (ao hl)
inductive Zw(vs:List V)(H:Hp)(Q:VK)(aO:XK):Prop
 | mk(x C dx p:ae0)(fs:List (Str × V))(i j:Int)(s:S2)(_:vs=[.ref x,.ref p])(_:H x=U (.ins C dx fs))(_:bR K C)(_:cc K C "first")(_:cc K C "last")(_:fs.lookup ("first" : Str)=U (.int i))(_:fs.lookup ("last" : Str)=U (.int j))(_:jU i j)(_:H p=U (.tup [ev s.1,ev s.2]))(_:∀ l xs H',ah H H'->H l=O->H' l=U (.lst xs)->dF H' xs (el i j s)->Q (.ref l) H')
theorem MT(T:aA):cN 2 T.mZ Zw:=by refine dH zi ?_;rintro y y y s y y y y hr ⟨x,C,dx,p,fs,i,j,s,rfl,hx,hc,n1,n2,l1,l2,hk,hp,q⟩;refine#[_,(aq (az (aD (Zv T) hr (ae (b6 Y (aa 0) Y) (ae (b6 Y (aa 0) Y) (ae (aa 1) ag)))))),?_];obtain⟨k1,k2,k3⟩:=hk;rfl';refine#[_,_,_,hx,hc,n1,_,l1,_,_,_,hx,hc,n2,_,l2,?_];exact#[i,j,p,s,Y,hp,by lia,by lia,q]
inductive Zx(C:ae0)(vs:List V)(H:Hp)(Q:VK)(aO:XK):Prop
 | mk(x dx:ae0)(i j z:Int)(_:vs=[.ref x])(_:H x=U (.ins C dx [("first",.int i),("last",.int j),("sill",.int z)]))(_:jU i j)(_:∀ l ys H',ah H H'->H l=O->H' l=U (.lst ys)->ax (bA H H') ys (cE (el i j (O,U (z-1))))->Q (.ref l) H')
theorem Zy(T:aA):cN 3 T.qf (Zx T.b7):=by refine dH zk ?_;rintro y y y y y y y y hr ⟨x,dx,i,j,z,rfl,hx,hk,q⟩;refine#[_,(aq (az (aD (MS T) hr (ae (jC (aa 0) T.ix T.MA (MT T) hr.m T.mZ.b .nil bS (ae (aT (ae cj (ae (aJ dG (b6 Y (aa 0) Y) af) ag))) ag)) ag)))),?_];rfl';refine#[_,_,hx,Y,_,_,_,hx,T.ix,T.v3,_,Y,aX,λt ht=>?_];have s0:=ao (o:=.tup [.non,.int (z-1)]) ht;refine#[x,T.b7,dx,t,_,i,j,(O,U (z-1)),Y,s0 _ _ hx,T.ix,T.vZ,T.tG,Y,Y,hk,ar,λl xs H1 s1 y hl hP=>?_];have hlen:=Lu i j (O,U (z-1));obtain⟨k1,k2,k3⟩:=id hk;exact#[l,xs,_,Y,ai.of hl,hP,by lia,λc ys H2 s2 fc hc hy=>q c ys H2 (s0.trans (s1.trans s2)) ((s0.trans s1).free fc) hc (hy.imp λy y r=>r.back (s0.trans s1))]
inductive Zz(vs:List V)(H:Hp)(Q:VK)(aO:XK):Prop
 | mk(p:ae0)(lo hi:En)(_:vs=[.ref p])(_:H p=U (.tup [ev lo,ev hi]))(_:aY lo hi=false)(_:Q (.bl true) H)
inductive ZA(H:Hp)(p:ae0)(_:Nat)(J:St)(H1:Hp):Prop
 | mk(e:Option V)(_:J=[U (.ref p),e])(_:H1=H)
theorem ZC(T:aA):aP 2 T.Es Zz:=by
 refine bb zO ?_;rintro y y y y H y y y hr ⟨p,lo,hi,rfl,hp,hc,q⟩;refine#[_,(au (aH (PW.pt (bI (bJ (bO (cR i9 (by rfl) T.jk i8 (ae (aa 0) (ae (jv (v:=.ty "tuple") Y T.vY uH Y) ag))))) (da (gP (c9 T.cW (ae (aa 0) ag)) af)))) (aq (az cH)) aG) (au (dt afz Y (oW (aa 0)) (cS 1 zO.nd) (aq (aH (PW.pt (jY (gQ (aa 1)) (kL (bJ (bO (aD (qI T) hr (ae (aa 1) ag))))))) (aq (az cH)) aG))) (aq (az (vE (kK (oV (ak (aa 0) af))) (vE (kK (oV (ak (aa 0) af))) (fH (gI (lG gH) (ak (aa 0) af) (ak (aa 0) af) (d8 _))))))))),?_];rfl';refine uI hp ?_;rfl';refine#[_,nI (aj.of hp),?_];rfl';refine#[#[_,aj.of hp],Iw (xs:=[ev lo,ev hi]) (ZA H p) #[_,Y,Y] ?_ ?_ ?_]
 .rintro i J H1 y ⟨y,y,rfl⟩;exact aj.of hp
 .rintro i x J H1 hx ⟨e,rfl,rfl⟩;obtain⟨n,rfl⟩:∃ n:En,x=ev n:=by
   match i,hx with
   | 0,hx=>cases hx;exact#[lo,Y]
   | 1,hx=>cases hx;exact#[hi,Y]
  rfl';cases n with
  | none =>
   rfl';exact#[_,Y,Y]
  | some n =>
   rfl';refine#[_,Y,.inr #[_,Y],?_];simp only[isWhole];rfl';exact#[_,Y,Y]
 .rintro J H1 ⟨e,rfl,rfl⟩;rcases lo with y|lo<;>rcases hi with y|hi
  all_goals simp only[uT,uU] at hp
  all_goals
   rfl'
   repeat' first
   | exact q
   | refine aE hp ?_
   | (walk_at "p")
  all_goals
   have hle:lo<=hi:=by simpa [aY] using hc
   rw[decide_eq_true hle];exact q
def EX(far:Int)(p:Pa):Prop:=(p.1 = "at" /\ p.2.1<=far∨p.1 = "step" /\ p.2.1+1<=far)/\0<=p.2.1/\aY p.2.2.1 p.2.2.2=false
inductive ZD(vs:List V)(H:Hp)(Q:VK)(aO:XK):Prop
 | mk(v:V)(far:Int)(p:Pa)(_:vs=[v,.int far])(_:fA H v p)(_:EX far p)(_:∀ H',ah H H'->Q (.bl true) H')
theorem ZE(T:aA):aP 3 T.Et ZD:=by
 refine bb DI ?_;rintro y y y y H y y y hr ⟨v,far,⟨kd,t,lo,hi⟩,rfl,⟨tp,sp,rfl,h1,h2⟩,⟨hk,h0,hc⟩,q⟩;refine#[_,(au (aH (PW.pt (bI (bJ (bO (cR i9 (by rfl) T.jk i8 (ae (aa 0) (ae (jv (v:=.ty "tuple") Y T.vY uH Y) ag))))) (bI (gP (c9 T.cW (ae (aa 0) ag)) af) (da (l8 HW (ak (aa 0) af) (aT (ae aU (ae aU ag))) (by with_unfolding_all rfl)))))) (aq (az cH)) aG) (au (aH (PW.pt (bI (bJ (bO (aD (qI T) hr (ae (ak (aa 0) af) ag)))) (bI (lH (ak (aa 0) af) af) (da (pX (aJ bV (ak (aa 0) af) (uz QE (by rfl) T.Mo Ir (ae (gI oZ (ak (aa 0) af) aU (d8 _)) ag))) (aa 1)))))) (aq (az cH)) aG) (aq (az (aD (ZC T) hr (ae (ak (aa 0) af) ag)))))),?_];rfl';refine uI h1 ?_;rfl';refine#[_,nI (aj.of h1),?_];rfl';refine aE h1 ?_;rfl';refine#[aX,λc ZF=>?_];have sc:=ao (o:=.tup [.str "at",.str "step"]) ZF;refine#[c,_,Y,.inr (aj.of ar),Y,Y,?_];have bL:uC (V.str kd) [V.str "at",V.str "step"]=true:=by
  rcases hk with ⟨rfl,y⟩|⟨rfl,y⟩<;>decide
 generalize upd H c (.tup [.str "at",.str "step"])=H1 at sc ⊢;rw[bL];rfl';refine aE (sc _ _ h1) ?_;refine#[_,Y,.inr #[_,Y],?_];simp only[isWhole];rfl';refine aE (sc _ _ h1) ?_;rfl';rw[if_neg (by dsimp only at h0;lia)];refine aE (sc _ _ h1) (aE (sc _ _ h1) ?_);rfl';have hn:¬ far<t+(if V.str kd=V.str "step" then 1 else 0):=by
  rcases hk with ⟨e,h⟩|⟨e,h⟩
  .rw[if_neg (by rw[show kd = "at" from e];decide)];dsimp only at h;lia
  .rw[if_pos (by rw[show kd = "step" from e])];dsimp only at h;lia
 rw[if_neg hn];refine#[Y,.inr (aE (sc _ _ h1) ?_)];exact#[sp,lo,hi,Y,sc _ _ h2,hc,q _ sc]
inductive ZG(vs:List V)(H:Hp)(Q:VK)(aO:XK):Prop
 | mk(l:ae0)(n far:Int)(ys:List V)(cls:List (List Pa))(_:vs=[.ref l,.int n,.int far])(_:H l=U (.lst ys))(_:ax (cB H) ys cls)(_:(cls.length:Int)=n)(_:(∀ ps∈cls,ps.length<=100/\∀ p∈ps,EX far p))(_:∀ H',ah H H'->Q (.bl true) H')
inductive ZH(H:Hp)(l:ae0)(n far:Int)(_:Nat)(J:St)(H1:Hp):Prop
 | mk(e:Option V)(_:J=[U (.ref l),U (.int n),U (.int far),e])(_:ah H H1)
theorem MU(T:aA):aP 4 T.Eu ZG:=by
 refine bb zP ?_;rintro y y y s H y Q y hr ⟨l,n,far,ys,cls,rfl,hl,hy,hn,hk,q⟩;refine#[_,(au (aH (PW.pt (bI (bJ (bO (cR i9 (by rfl) T.jk i8 (ae (aa 0) (ae (jv (v:=.ty "list") Y T.oJ nH Y) ag))))) (da (gP (c9 T.cW (ae (aa 0) ag)) (aa 1))))) (aq (az cH)) aG) (au (dt afz Y (cI (aa 0)) (cS 3 zP.nd) (aq (aH (PW.pt (bI (bJ (bO (cR i9 (by rfl) T.jk i8 (ae (aa 3) (ae (jv (v:=.ty "list") Y T.oJ nH Y) ag))))) (da (bJ (bO (cR (uQ Y) (by rfl) T.vX uG (ae (cU (cO [2] [sU]) Y (cI (aa 3)) (λC s2 H2 ex pn=>#[df,(aD (ZE T) hr (ae (aa 0) (ae (aa 1) ag)))])) ag))))))) (aq (az cH)) aG))) (aq (az cH)))),?_];have hlen:=hy.len;rfl';refine xV hl ?_;rfl';refine#[_,eX (ai.of hl),?_];rfl';rw[if_neg (by lia)];refine#[#[_,ai.of hl],ja (xs:=ys) (ZH H l n far) #[_,Y,ah.refl _] ?_ ?_ ?_]
 .rintro i J H1 y ⟨y,y,s1⟩;exact ai.of (s1 _ _ hl)
 .rintro i x J H1 hx ⟨e,rfl,s1⟩;obtain⟨ps,eN,r⟩:=hy.get hx;obtain⟨c,xs,rfl,hc,hP⟩:=r.same s1;obtain⟨k1,k2⟩:=hk ps (ae8 eN);have pl:=hP.len;rfl';refine xV hc ?_;rfl';refine#[#[_,ai.of hc],cn gK (aeT (by lia:xs.length<=100) (by decide)) (mw (R:=fA) (p:=λy=>true) (f:=λy=>.bl true) (λy y y y s h=>h.same s) hP (λH' s'=>ai.of (s' _ _ hc)) (λx p y H2 s2 r Q h=>?_) (λx p hp y H2 s2 r Q h=>?_) λH2 s2=>?_)]
  .rfl';exact h _ (ah.refl _)
  .rfl';exact#[x,far,p,Y,r,k2 p hp,λH3 s3=>h H3 s3]
  .rw[ae6,filter_tt];intro m hm;refine#[m,Y,ps.map λy=>true,ai.of ?_,?_]
   .rw[ar,afA];rfl
   .rw[show (ps.map λy=>true).all id=true by simp];rfl';exact#[_,Y,s1.trans (s2.trans (ao hm))]
 .rintro J H1 ⟨e,rfl,s1⟩;rfl';exact q _ s1
inductive ZI(vs:List V)(H:Hp)(Q:VK)(aO:XK):Prop
 | mk(a:ae0)(ns:List Int)(k n f:Int)(_:vs=[.ref a,.int k,.int n,.int f])(_:ai K H a (ns.map V.int))(_:mz ns)(_:(-900000<=k/\k<=900000))(_:(1<=f/\f<=1000000000000000000000000000000))(_:∀ (p:ae0) (lo hi:En) (H':Hp),ah H H'->H' p=U (.tup [ev lo,ev hi])->aY lo hi=false->hold lo hi n=true->Q (.ref p) H')
inductive EY(H:Hp)(a:ae0)(k n f:Int)(J:St)(H1:Hp):Prop
 | mk(lo hi:En)(o:Int)(_:J=[U (.ref a),U (.int k),U (.int n),U (.int f),U (ev lo),U (ev hi),U (.int o)])(_:H1=H)(_:b0 (lo,hi) n)
theorem MV(T:aA):aP 2 T.Ej ZI:=by
 refine bb ox ?_;rintro v v v v H v v v hr ⟨a,ns,k,n,f,rfl,hS,hn,hk,⟨f1,f2⟩,q⟩;refine#[_,(au (aL 4 ox.nd (aJ dG (aJ dG (aa 2) (aJ ik (aa 3) (aD (dX T) hr (ae (aa 0) (ae (aa 1) (ae af (ae af ag))))))) (aD (dX T) hr (ae (aa 0) (ae (aa 1) (ae af (ae af ag))))))) (au (aL 5 ox.nd (aJ bV (aa 2) (aJ ik (aa 3) (aD (dX T) hr (ae (aa 0) (ae (aa 1) (ae af (ae af ag)))))))) (au (aL 6 ox.nd (aD (dX T) hr (ae (aa 0) (ae (aa 1) (ae af (ae af ag)))))) (au (aH (bp (aa 6) af) (aq (aL 4 ox.nd cj)) aG) (au (aH (bp (aa 6) af) (aq (aL 5 ox.nd cj)) aG) (aq (az (aT (ae (aa 4) (ae (aa 5) ag)))))))))),?_];refine aC (λJ H1=>∃ lo:Int,J=[U (.ref a),U (.int k),U (.int n),U (.int f),U (.int lo),O,O]/\H1=H/\lo<=n) (λN hN=>?_) ?_
 .rfl';refine#[a,ns,_,_,_,Y,hS,hn,by lia,by lia,by lia,λp p1 p2=>?_];rfl';have:=aiv (show 0<=f by lia) p1;refine#[mC (by lia) (by lia),?_];refine#[a,ns,_,_,_,Y,hS,hn,by lia,by lia,by lia,λr r1 r2=>?_];rfl';exact hN _ _ #[_,Y,Y,by lia]
 rintro v yR J H1 ⟨lo,rfl,rfl,h1⟩;subst yR;refine aC (λJ H2=>∃ hi:Int,J=[U (.ref a),U (.int k),U (.int n),U (.int f),U (.int lo),U (.int hi),O]/\H2=H1/\n<=hi) (λN hN=>?_) ?_
 .rfl';refine#[a,ns,_,_,_,Y,hS,hn,by lia,by lia,by lia,λp p1 p2=>?_];rfl';have:=aiv (show 0<=f by lia) p1;exact#[mC (by lia) (by lia),hN _ _ #[_,Y,Y,by lia]]
 rintro v yR J H ⟨hi,rfl,rfl,h2⟩;subst yR;refine aC (EY H a k n f) (λN hN=>?_) ?_
 .rfl';refine#[a,ns,_,_,_,Y,hS,hn,by lia,by lia,by lia,λp p1 p2=>?_];rfl';exact hN _ _ #[U lo,U hi,p,Y,Y,λx z=>by cases z;exact h1,λy z=>by cases z;exact h2]
 rintro v yR J H1 ⟨lo,hi,o,rfl,rfl,bL⟩;subst yR;refine aC (EY H1 a k n f) (λN hN=>?_) ?_
 .rfl';exact a7 (λv=>hN _ _ #[O,hi,o,Y,Y,λx z=>(nomatch z),bL.2]) λv=>hN _ _ #[lo,hi,o,Y,Y,bL]
 rintro v yR J H ⟨lo,hi,o,rfl,rfl,bL⟩;subst yR;refine aC (EY H a k n f) (λN hN=>?_) ?_
 .rfl';exact a7 (λv=>hN _ _ #[lo,O,o,Y,Y,bL.1,λx z=>(nomatch z)]) λv=>hN _ _ #[lo,hi,o,Y,Y,bL]
 rintro v yR J H1 ⟨lo,hi,o,rfl,rfl,bL⟩;subst yR;rfl';refine#[aX,λp hp=>q p lo hi _ (ao hp) ar ?_ (Co.mp bL)];rcases lo with v|x<;>rcases hi with v|y
 .rfl
 .rfl
 .rfl
 .have h1:=bL.1 x rfl;have h2:=bL.2 y rfl;simp only[aY];exact decide_eq_false (by lia)
theorem ZJ{tb:Tb}{s:P2}{w:S2}{r:P2 × S2}(h:r∈fN tb s w):r∈tb∨r.2=w:=by
 unfold fN at h;split at h
 .obtain⟨x,hx,rfl⟩:=aeY.mp h;by_cases e:x.1=s
  .rw[if_pos e];exact .inr rfl
  .rw[if_neg e];exact .inl hx
 .rcases afq.mp h with z|z
  .exact .inl z
  .rw[afd.mp z];exact .inr rfl
inductive kC(H:Hp)(v:V)(w:ae0)(e t u d m:Int)(tb:Tb):Prop
 | mk(r:ae0)(_:v = .ref r)(_:H r=U (.tup [.int e,.int t,.int u,.int d,.int m,.ref w]))(_:TabAt H w tb)
theorem kC.same{H H':Hp}{v:V}{w:ae0}{e t u d m:Int}{tb:Tb}(h:kC H v w e t u d m tb)(s:ah H H'):kC H' v w e t u d m tb:=let ⟨r,e,a,b⟩:=h;#[r,e,s _ _ a,b.same s]
theorem ZK{H:Hp}{w l:ae0}{tb:Tb}{ys:List V}{o:HO}(h:TabAt H w tb)(hl:H l=U (.lst ys)):TabAt (upd H l o) w tb:=by obtain⟨kvs,hk,hA⟩:=h;exact#[kvs,by rw[aI λz=>by rw[z,hl] at hk;cases hk];exact hk,hA.imp λy y y z=>z.put hl]
inductive EZ(H:Hp)(e t:Int)(c w:ae0)(cs:List Int)(n:Int)(H1:Hp):Prop
 | mk(tb:Tb)(_:ah H H1)(_:H1 c=U (.lst (cs.map V.int)))(_:TabAt H1 w tb)(_:bZ e t tb)(_:(tb.length:Int)<=n)(_:∀ r∈tb,aY r.2.1 r.2.2=false)
def MW(σ0:Option V->Option V->Option V->Option V->St)(H:Hp)(e t:Int)(c w:ae0)(i:Nat)(J:St)(H1:Hp):Prop:=∃ z1 z2 z3 z4 cs,J=σ0 z1 z2 z3 z4/\cs≠[]/\cs.length-1=i-1/\EZ H e t c w cs ((i:Int) * e) H1
def ZL(σ0:Option V->Option V->Option V->Option V->St)(H:Hp)(e t:Int)(c w:ae0)(cs:List Int)(n:Int)(j:Nat)(J:St)(H1:Hp):Prop:=∃ z1 z2 z3 z4,J=σ0 z1 z2 z3 z4/\EZ H e t c w cs (n+j) H1
inductive ZM(vs:List V)(H:Hp)(Q:VK)(aO:XK):Prop
 | mk(a:ae0)(ns:List Int)(n:Int)(_:vs=[.ref a,.int n])(_:ai K H a (ns.map V.int))(_:mz ns)(_:∀ (r wv w c:ae0) (cs:List Int) (e t u d m f:Int) (tb:Tb) (H':Hp),ah H H'->H' r=U (.tup [.ref wv,.ref c,.int f])->H' wv=U (.tup [.int e,.int t,.int u,.int d,.int m,.ref w])->TabAt H' w tb->H' c=U (.lst (cs.map V.int))->cs.length=t.toNat->fS e t u d m->bZ e t tb->tb.length<=18->(∀ r∈tb,aY r.2.1 r.2.2=false)->(2<=e/\e<=3/\1<=t/\t<=3)->(1<=f/\f<=1000000000000000000000000000000)->Q (.ref r) H')
theorem ZN(T:aA):aP 3 T.Ew ZM:=by
 refine bb gU ?_;rintro g g g s H g g g hr ⟨a,ns,n,rfl,hS,hn,q⟩;refine#[_,(au (aL 2 gU.nd (ak (aT (ae af (ae af (ae (aJ Ba af af) ag)))) (aD (dX T) hr (ae (aa 0) (ae af (ae af (ae af ag))))))) (au (aL 3 gU.nd (aJ bV af (aD (dX T) hr (ae (aa 0) (ae af (ae af (ae af ag))))))) (au (aL 4 gU.nd (aJ bV af (aD (dX T) hr (ae (aa 0) (ae af (ae af (ae af ag))))))) (au (aL 5 gU.nd (aD (dX T) hr (ae (aa 0) (ae af (ae af (ae af ag)))))) (au (aL 6 gU.nd (aD (dX T) hr (ae (aa 0) (ae af (ae af (ae af ag)))))) (au (aL 7 gU.nd (aD (dX T) hr (ae (aa 0) (ae af (ae af (ae (aJ ik af (aa 3)) ag)))))) (au (aL 8 gU.nd (dj (ae (aa 1) ag))) (au (aL 9 gU.nd Kh) (au (dt afz Y (jz Y T.gW (ae (aa 4) ag)) (cS 10 gU.nd) (au (aH (pX (aa 10) af) (aq (fI (i7 afx afP afQ mh (aa 8) (ae (aJ bV (ak (aa 8) (jA jP af)) (aJ ik (aa 2) (aJ dG (aD (dX T) hr (ae (aa 0) (ae (aJ bV af (aa 10)) (ae af (ae (aJ bV (aJ bV (aa 5) (aa 6)) af) ag))))) (aa 6)))) ag)))) aG) (aq (dt afz Y (jz Y T.gW (ae (aa 3) ag)) (cS 11 gU.nd) (au (aL 12 gU.nd (aJ bV (aJ bV af (aJ ik af (aa 11))) (aa 10))) (au (aL 13 gU.nd (ak (aa 8) (aa 10))) (au (aH (bp (aa 11) (aa 7)) (aq (aL 13 gU.nd (aJ bV (aa 13) (aJ ik (aa 2) (aJ dG (aD (dX T) hr (ae (aa 0) (ae (aa 12) (ae af (ae af ag))))) af))))) aG) (aq (aH (pX (aD (dX T) hr (ae (aa 0) (ae (aa 12) (ae af (ae af ag))))) af) (aq (Cc (gJ hr) (aa 9) (aT (ae (aa 11) (ae (aa 10) ag))) (aD (MV T) hr (ae (aa 0) (ae (aa 12) (ae (aa 13) (ae (aa 2) ag))))) Y)) aG))))))))) (aq (az (aT (ae (aT (ae (aa 3) (ae (aa 4) (ae (aJ ik (aa 2) (aa 5)) (ae (aJ ik (aa 2) (aa 6)) (ae (aD (dX T) hr (ae (aa 0) (ae af (ae af (ae af ag))))) (ae (aa 9) ag))))))) (ae (aa 8) (ae (aa 2) ag))))))))))))))),?_];refine aC (λJ H1=>∃ f:Int,J=[U (.ref a),U (.int n),U (.int f),O,O,O,O,O,O,O,O,O,O,O]/\ah H H1/\1<=f/\f<=1000000000000000000000000000000) (λN hN=>?_) ?_
 .rfl';refine#[#[by decide,by decide,by decide],by decide,λl hl=>?_];refine#[a,ns,_,_,_,Y,(ao hl).seq hS,hn,by lia,by lia,by lia,λp p1 p2=>?_];rcases (by lia:p=0∨p=1∨p=2) with rfl|rfl|rfl
  all_goals exact ay (aj.of ar) Y (hN _ _ #[_,Y,ao hl,by decide,by decide])
 rintro g yR J H1 ⟨f,rfl,s1,f1,f2⟩;subst yR;refine aC (λJ H2=>∃ e:Int,J=[U (.ref a),U (.int n),U (.int f),U (.int e),O,O,O,O,O,O,O,O,O,O]/\ah H H2/\2<=e/\e<=3) (λN hN=>?_) ?_
 .rfl';refine#[a,ns,_,_,_,Y,s1.seq hS,hn,by lia,by lia,by lia,λp p1 p2=>?_];rfl';exact hN _ _ #[_,Y,s1,by lia,by lia]
 clear s1;rintro g yR J H1 ⟨e,rfl,s1,e1,e2⟩;subst yR;refine aC (λJ H2=>∃ t:Int,J=[U (.ref a),U (.int n),U (.int f),U (.int e),U (.int t),O,O,O,O,O,O,O,O,O]/\ah H H2/\1<=t/\t<=3) (λN hN=>?_) ?_
 .rfl';refine#[a,ns,_,_,_,Y,s1.seq hS,hn,by lia,by lia,by lia,λp p1 p2=>?_];rfl';exact hN _ _ #[_,Y,s1,by lia,by lia]
 clear s1;rintro g yR J H1 ⟨t,rfl,s1,t1,t2⟩;subst yR;refine aC (λJ H2=>∃ u:Int,J=[U (.ref a),U (.int n),U (.int f),U (.int e),U (.int t),U (.int u),O,O,O,O,O,O,O,O]/\ah H H2/\0<=u/\u<=5) (λN hN=>?_) ?_
 .rfl';refine#[a,ns,_,_,_,Y,s1.seq hS,hn,by lia,by lia,by lia,λp p1 p2=>?_];rfl';exact hN _ _ #[_,Y,s1,by lia,by lia]
 clear s1;rintro g yR J H1 ⟨u,rfl,s1,u1,u2⟩;subst yR;refine aC (λJ H2=>∃ d:Int,J=[U (.ref a),U (.int n),U (.int f),U (.int e),U (.int t),U (.int u),U (.int d),O,O,O,O,O,O,O]/\ah H H2/\0<=d/\d<=5) (λN hN=>?_) ?_
 .rfl';refine#[a,ns,_,_,_,Y,s1.seq hS,hn,by lia,by lia,by lia,λp p1 p2=>?_];rfl';exact hN _ _ #[_,Y,s1,by lia,by lia]
 clear s1;rintro g yR J H1 ⟨d,rfl,s1,d1,d2⟩;subst yR;refine aC (λJ H2=>∃ wr:Int,J=[U (.ref a),U (.int n),U (.int f),U (.int e),U (.int t),U (.int u),U (.int d),U (.int wr),O,O,O,O,O,O]/\ah H H2) (λN hN=>?_) ?_
 .rfl';refine#[mC (by lia) (by lia),a,ns,_,_,_,Y,s1.seq hS,hn,by lia,by lia,by lia,λp p1 p2=>?_];rfl';exact hN _ _ #[_,Y,s1]
 clear s1;rintro g yR J H1 ⟨wr,rfl,s1⟩;subst yR;refine aC (λJ H2=>∃ c,J=[U (.ref a),U (.int n),U (.int f),U (.int e),U (.int t),U (.int u),U (.int d),U (.int wr),U (.ref c),O,O,O,O,O]/\ah H H2/\H c=O/\H2 c=U (.lst [.int n])) (λN hN=>?_) ?_
 .rfl';exact#[by decide,λc hc=>hN _ _ #[c,Y,s1.trans (ao hc),s1.free hc,ar]]
 rintro g yR J H2 ⟨c,rfl,s2,fc,j9⟩;subst yR;refine aC (λJ H3=>∃ w,J=[U (.ref a),U (.int n),U (.int f),U (.int e),U (.int t),U (.int u),U (.int d),U (.int wr),U (.ref c),U (.ref w),O,O,O,O]/\ah H H3/\H w=O/\H3 c=U (.lst [.int n])/\H3 w=U (.dT [])) (λN hN=>?_) ?_
 .rfl';exact λw hw=>hN _ _ #[w,Y,s2.trans (ao hw),s2.free hw,(ao hw) _ _ j9,ar]
 rintro g yR J H3 ⟨w,rfl,s3,fw,qJ,ZO⟩;subst yR;have et:1<=e/\e<=3/\1<=t/\t<=6:=by lia
 refine aC (MW (λz1 z2 z3 z4=>[U (.ref a),U (.int n),U (.int f),U (.int e),U (.int t),U (.int u),U (.int d),U (.int wr),U (.ref c),U (.ref w),z1,z2,z3,z4]) H e t c w t.toNat) (λN hN=>?_) ?_
 .rfl';refine#[by lia,by lia,xW (MW (λz1 z2 z3 z4=>[U (.ref a),U (.int n),U (.int f),U (.int e),U (.int t),U (.int u),U (.int d),U (.int wr),U (.ref c),U (.ref w),z1,z2,z3,z4]) H e t c w) #[_,_,_,_,[n],Y,by simp,Y,[],s3,qJ,#[[],ZO,trivial],bZ.nil,by simp,λg h=>(nomatch h)] ?_ (λJ H' h=>hN _ _ h)];rintro i J H4 hi ⟨z1,z2,z3,z4,cs,rfl,ne,bw,cQ⟩;have hit:(i:Int)<t:=by lia
  show rn _ _ _ _ _;refine aC (λJ H5=>∃ cs:List Int,J=[U (.ref a),U (.int n),U (.int f),U (.int e),U (.int t),U (.int u),U (.int d),U (.int wr),U (.ref c),U (.ref w),U (.int (0+(i:Int))),z2,z3,z4]/\cs.length=i+1/\EZ H e t c w cs ((i:Int) * e) H5) (λN hN=>?_) ?_
  .rfl';refine a7 (λh0=>?_) λh0=>hN _ _ #[cs,Y,?_,cQ]
   .obtain⟨tb,s4,jn,kD,E1,MX,E2⟩:=cQ;obtain⟨xs,y,rfl⟩:∃ xs y,cs=xs++[y]:=#[cs.dropLast,cs.getLast ne,(List.dropLast_concat_getLast ne).symm]
    refine#[.inl #[Y,_,ai.of jn],bK (ai.of jn) (v:=.int y) (by rw[af0];exact Bj _ _) ?_];rfl';refine#[a,ns,_,_,_,Y,s4.seq hS,hn,by lia,by lia,by lia,λp p1 p2=>?_];rfl';have xl:xs.length=i-1:=by rw[ae1,afh] at bw;lia
    refine#[mC (by lia) (by lia),_,jn,afy (by rw[aeO,ae1,xl,afh];lia:_<=20) (by decide),hN _ _ #[xs++[y]++[y+f * (p-d)],Y,?_,tb,jb fc s4,?_,ZK kD jn,E1,MX,E2]]
    .rw[ae1,ae1,xl,afh,afh];lia
    .rw[ar,af0 (l₁:=xs++[y])];rfl
   .have:cs.length≠0:=λz=>ne (ahn z);lia
  clear cQ ne bw;rintro g yR J H5 ⟨cs,rfl,bw,cQ⟩;subst yR;rfl';refine#[by lia,by lia,xW (ZL (λz2 z3 z4 g=>[U (.ref a),U (.int n),U (.int f),U (.int e),U (.int t),U (.int u),U (.int d),U (.int wr),U (.ref c),U (.ref w),U (.int (0+(i:Int))),z2,z3,z4]) H e t c w cs ((i:Int) * e)) #[_,_,_,O,Y,by simpa using cQ] ?_ ?_]
  .rintro j J H6 hj ⟨z2,z3,z4,g,rfl,tb,s6,qK,⟨kvs,hk,hT⟩,z7,E3,z8⟩;have hje:(j:Int)<e:=by lia
   have tl:=hT.len;have bm:0<=(i:Int) * e/\(i:Int) * e<=5 * 3:=#[aiv (by lia) (by lia),amN (by lia) (by lia) (by lia) (by decide)]
   show rn _ _ _ _ _;refine aC (λJ H7=>∃ kk:Int,J=[U (.ref a),U (.int n),U (.int f),U (.int e),U (.int t),U (.int u),U (.int d),U (.int wr),U (.ref c),U (.ref w),U (.int (0+(i:Int))),U (.int (0+(j:Int))),U (.int kk),z4]/\H7=H6/\0<=kk/\kk<=1000) (λN hN=>?_) ?_
   .rfl';exact#[mC (by lia) (by lia),hN _ _ #[_,Y,Y,by lia,by lia]]
   rintro g yR J H7 ⟨kk,rfl,rfl,k1,k2⟩;subst yR;refine aC (λJ H8=>∃ nn:Int,J=[U (.ref a),U (.int n),U (.int f),U (.int e),U (.int t),U (.int u),U (.int d),U (.int wr),U (.ref c),U (.ref w),U (.int (0+(i:Int))),U (.int (0+(j:Int))),U (.int kk),U (.int nn)]/\H8=H7) (λN hN=>?_) ?_
   .rfl';exact bK (ai.of qK) (int_at (by lia) (by lia)) (hN _ _ #[_,Y,Y])
   rintro g yR J H6 ⟨nn,rfl,rfl⟩;subst yR;refine aC (λJ H8=>∃ nn:Int,J=[U (.ref a),U (.int n),U (.int f),U (.int e),U (.int t),U (.int u),U (.int d),U (.int wr),U (.ref c),U (.ref w),U (.int (0+(i:Int))),U (.int (0+(j:Int))),U (.int kk),U (.int nn)]/\H8=H6) (λN hN=>?_) ?_
   .rfl';refine a7 (λg=>?_) λg=>hN _ _ #[nn,Y,Y];refine#[a,ns,_,_,_,Y,s6.seq hS,hn,by lia,by lia,by lia,λp p1 p2=>?_];rfl';exact#[mC (by lia) (by lia),hN _ _ #[_,Y,Y]]
   rintro g yR J H7 ⟨nn,rfl,rfl⟩;subst yR;rfl';refine#[a,ns,_,_,_,Y,s6.seq hS,hn,by lia,by lia,by lia,λp p1 p2=>?_];rfl';refine a7 (λg=>?_) λg=>#[_,_,_,O,Y,tb,s6,qK,#[kvs,hk,hT],z7,by lia,z8]
   refine#[a,ns,_,_,_,Y,s6.seq hS,hn,by lia,#[f1,f2],λwp lo hi H8 s7 ZP E4 g=>#[aX,λk tJ=>?_]];have u:=ao (o:=.tup [.int (0+(j:Int)),.int (0+(i:Int))]) tJ;have MY:=(s7.trans u) _ _ hk;have cw:c≠w:=λz=>by rw[z,hk] at qK;cases qK
   refine#[_,pF.t (k:=dE (0+(j:Int)) (0+(i:Int))) MY ar (afy (by lia:kvs.length<=100) (by decide)),_,_,_,O,Y,fN tb (0+(j:Int),0+(i:Int)) (lo,hi),jb fw (s6.trans (s7.trans u)),by rw[aI cw];exact (s7.trans u) _ _ qK,#[_,ar,?_],z7.put #[#[by show 0<=0+(j:Int);lia,by show 0+(j:Int)<e;lia],by show 0<=0+(i:Int);lia,by show 0+(i:Int)<t;lia],?_,λr hr=>?_]
   .have F:Fr _ (upd _ w (.dT (putK kvs (dE (0+(j:Int)) (0+(i:Int))) (.ref wp)))):=Kl MY;exact bF.put (s:=(0+(j:Int),0+(i:Int))) (w:=(lo,hi)) (hT.imp λv a b z=>(aQ.same z (s7.trans u)).fr F) (aQ.fr #[wp,Y,u _ _ ZP] F)
   .have:=Km tb (0+(j:Int),0+(i:Int)) (lo,hi);show ((fN tb (0+(j:Int),0+(i:Int)) (lo,hi)).length:Int)<=(i:Int) * e+((j+1:Nat):Int);lia
   .rcases ZJ hr with z|z
    .exact z8 r z
    .rw[z];exact E4
  .rintro J H6 ⟨z2,z3,z4,g,rfl,tb,s6,qK,hT,z7,E3,z8⟩;refine#[_,_,_,_,cs,Y,(λz=>by rw[z] at bw;cases bw),by lia,tb,s6,qK,hT,z7,?_,z8];have E3:(tb.length:Int)<=(i:Int) * e+((e.toNat:Nat):Int):=E3;show (tb.length:Int)<=((i+1:Nat):Int) * e;rw[ahE,Int.add_mul];lia
 rintro g yR J H4 ⟨z1,z2,z3,z4,cs,rfl,ne,bw,tb,s4,jn,kD,E1,MX,E2⟩;subst yR;have cl:cs.length=t.toNat:=by have:cs.length≠0:=λz=>ne (ahn z);lia
 have ZQ:tb.length<=18:=by have:((t.toNat:Nat):Int) * e<=6 * 3:=amN (by lia) (by lia) (by lia) (by decide);lia
 rfl';refine#[mC (by lia) (by lia),mC (by lia) (by lia),?_];refine#[a,ns,_,_,_,Y,s4.seq hS,hn,by lia,by lia,by lia,λm m1 m2=>?_];rfl';refine#[by decide,λwr iy=>#[by decide,λr hr=>?_]];have H6:=ag9;have u1:=ao (o:=.tup [.int e,.int t,.int (f * u),.int (f * d),.int m,.ref w]) iy;have u2:=ao (o:=.tup [.ref wr,.ref c,.int f]) hr;exact q r wr w c cs e t (f * u) (f * d) m f tb _ (s4.trans (u1.trans u2)) ar (u2 _ _ ar) (kD.same (u1.trans u2)) ((u1.trans u2) _ _ jn) cl #[by lia,by lia,aiv (by lia) (by lia),aiv (by lia) (by lia),by lia,by lia] E1 ZQ E2 (by lia) #[f1,f2]
structure dn(B:ae0)(H:Hp)(x:ae0)(e t u d m:Int)(p:ae0)(tb:Tb):Prop where
 ob:∃ dx,H x=U (.ins B dx (z5 e t u d m p))
 tb:TabAt H p tb
theorem dn.same{B:ae0}{H H':Hp}{x p:ae0}{e t u d m:Int}{tb:Tb}(h:dn B H x e t u d m p tb)(s:ah H H'):dn B H' x e t u d m p tb:=let ⟨⟨dx,a⟩,b⟩:=h;#[#[dx,s _ _ a],b.same s]
theorem dn.now{B:ae0}{H H':Hp}{x p:ae0}{e t u d m:Int}{tb cA:Tb}(h:dn B H x e t u d m p tb)(s:Fr H H')(hp:TabAt H' p cA):dn B H' x e t u d m p cA:=let ⟨⟨dx,a⟩,_⟩:=h;#[#[dx,s _ _ (λy z=>nomatch z) a],hp]
inductive ZR(B:ae0)(vs:List V)(H:Hp)(Q:VK)(aO:XK):Prop
 | mk(x p:ae0)(e t u d m:Int)(tb:Tb)(_:vs=[.ref x])(_:dn B H x e t u d m p tb)(_:(tb.map (·.1)).Nodup)(_:tb.length<64)(_:∀ l xs H',ah H H'->H l=O->H' l=U (.lst xs)->ax (lp H') xs (nU tb)->Q (.ref l) H')
theorem MZ(T:aA):cN 1 T.oI (ZR T.aZ):=by
 refine dH zJ ?_;rintro v v v s H v Q v hr ⟨x,p,e,t,u,d,m,tb,rfl,⟨⟨dx,hx⟩,kvs,hp,hT⟩,hn,gf,q⟩;refine#[_,(aq (az (cU (cO [0] [aW]) Y (cI (cR (UK Y) (by rfl) T.Mr Ip (ae (b6 Y (aa 0) Y) ag))) (λC s2 H2 ex pn=>#[df,(aT (ae (bW (K:=K) (aa 0) af) (ae (bW (K:=K) (aa 0) af) (ae (Cf (gJ hr) (b6 (K:=K) Y (aa 1) Y) (aa 0) (λv v=>rfl)) ag))))])))),?_];rfl';refine#[_,_,_,hx,T.cM,T.tI,_,Y,p,Y,kvs,hp,lj tb,U4 hT,U5,by rw[hT.len];exact gf,λl ys hl hk=>?_];have PS:=U6 hT hk;have s1:=ao (o:=.lst (eZ (lj tb) .non ys)) hl;have L1:upd H l (.lst (eZ (lj tb) .non ys)) l=U (.lst (eZ (lj tb) .non ys)):=ar;generalize upd H l (.lst (eZ (lj tb) .non ys))=H1 at s1 L1 ⊢;refine#[#[_,ai.of L1],cn gK (aeT (by rw[PS.len,pI];exact aiw gf:_<=64) (by decide)) (ie (R:=λH x (r:P2 × S2)=>dP H x r.1) (R':=λH y (r:P2 × S2)=>lp H y r) (f:=λr=>r) (bs:=[]) (λv v v v s r=>dP.same r s) (λv v v v s r=>lp.same r s) (PS.imp λx r z=>dP.same z s1) trivial (λH' s'=>ai.of (s' _ _ L1)) (λx r v H' s' eQ Q h=>?_) (λx r eQ H' s' h0 Q h=>?_) λH2 zs s2 hz=>?_)]
 .rfl';exact h
 .obtain⟨a,rfl,ha⟩:=id h0;have S:=s1.trans s';have ZS:=hT.imp λv a b z=>aQ.same z S;obtain⟨w,hw,iw⟩:=(ZS.val r.1).2 _ (sr hn (u6 eQ));rfl';refine ay (aj.of ha) Y (ay (aj.of ha) Y #[_,_,_,S _ _ hx,T.cM,T.tI,_,Y,p,Y,w,?_,?_])
  .rw[<- hw];exact fM.t (k:=dE r.1.1 r.1.2) (S _ _ hp) ha
  .exact#[by decide,λz hz=>h _ _ (ao hz) #[z,w,Y,ar,aQ.same iw (ao hz)]]
 rw[ae6,akC] at hz;exact λl2 ba=>q l2 zs _ (s1.trans (s2.trans (ao ba))) ((s1.trans s2).free ba) ar (hz.imp λx r z=>lp.same z (ao ba))
inductive ZT(vs:List V)(H:Hp)(Q:VK)(aO:XK):Prop
 | mk(a:ae0)(xs:List V)(ss:List S2)(_:vs=[.ref a])(_:ai K H a xs)(_:my H xs ss)(_:xs.length<=1000)(_:∀ v H',ah H H'->iJ H' v (gh (O,O) ss)->Q v H')
inductive ZU(H:Hp)(a:ae0)(xs:List V)(ss:List S2)(i:Nat)(J:St)(H1:Hp):Prop
 | mk(v:V)(e:Option V)(_:J=[U (.ref a),U v,e])(_:ah H H1)(_:aQ H1 v (bz (O,O) (ss.take i)).1 (bz (O,O) (ss.take i)).2)(_:aY (bz (O,O) (ss.take i)).1 (bz (O,O) (ss.take i)).2=false)
theorem E5(T:aA):aP 3 T.DN ZT:=by
 refine bb sV ?_;rintro z z z z H z z z hr ⟨a,xs,ss,rfl,hS,hP,hn,q⟩;refine#[_,(au (aL 1 sV.nd (aT (ae cj (ae cj ag)))) (au (dt afz Y (cI (aa 0)) (cS 2 sV.nd) (au (aL 1 sV.nd (aD (EU T) hr (ae (aa 1) (ae (aa 2) ag)))) (aq (aH (eO (aa 1)) (aq (az cj)) aG)))) (aq (az (aa 1))))),?_];have hA:=lq.mp hP;have hl:=hA.len;rfl';refine#[aX,λp hp=>?_];have s0:=ao (o:=.tup [.non,.non]) hp;refine#[#[_,s0.seq hS],ja (xs:=xs) (ZU H a xs ss) #[_,_,Y,s0,#[p,Y,ar],Y] ?_ ?_ ?_]
 .rintro i J H1 z ⟨z,z,z,s1,z⟩;exact s1.seq hS
 .rintro i x J H1 hx ⟨v,e,rfl,s1,hv,hc⟩;obtain⟨w,hw,r⟩:=hA.get hx;have e1:=Vf (e:=(O,O)) hw;rfl';refine#[v,x,_,_,w.1,w.2,Y,hv,r.same s1,λy H2 s2 hm=>?_];have mO:JH H2 y (bz (O,O) (ss.take (i+1))).1 (bz (O,O) (ss.take (i+1))).2:=by rw[e1];exact hm
  cases hk:aY (bz (O,O) (ss.take (i+1))).1 (bz (O,O) (ss.take (i+1))).2 with
  | true =>
   have ey:=mO.1 hk;subst ey;rfl';refine q _ _ (s1.trans s2) ?_;unfold gh;rw[if_pos (Ve hk)];rfl
  | false =>
   have hy:=mO.2 hk;obtain⟨t,rfl,ht⟩:=id hy;rfl';exact#[_,_,Y,s1.trans s2,hy,hk]
 .rintro J H1 ⟨v,e,rfl,s1,hv,hc⟩;rfl';rw[hl,afV] at hv hc;refine q _ _ s1 ?_;unfold gh;rw[if_neg (by rw[hc];simp)];exact hv
def wt(cs:List Int)(k:Str)(t:Int):Prop:=0<=t/\t<(cs.length:Int)/\(k = "step" -> t+1<(cs.length:Int))
inductive ZV(vs:List V)(H:Hp)(Q:VK)(aO:XK):Prop
 | mk(a:ae0)(cs:List Int)(k:Str)(t:Int)(_:vs=[.ref a,.str k,.int t])(_:ai K H a (cs.map V.int))(_:wt cs k t)(_:Q (.int (gi cs k t)) H)
theorem ZW(T:aA):aP 1 T.DO ZV:=by
 refine bb Di ?_;rintro y y y y y y y y y ⟨a,cs,k,t,rfl,hS,hk,q⟩;refine#[_,(au (aH (bp (aa 1) aU) (aq (az (aJ dG (ak (aa 0) (aJ bV (aa 2) af)) (ak (aa 0) (aa 2))))) aG) (aq (az (ak (aa 0) (aa 2))))),?_];obtain⟨h0,h1,h2⟩:=hk;unfold gi at q;rfl'
 try refine#[Y,?_]
 by_cases hk:k = "step"
 .subst hk;rw[if_pos Y] at q ⊢;refine bK hS (int_at (by lia) (h2 Y)) (bK hS (int_at h0 h1) ?_);rfl';exact q
 .rw[if_neg hk] at q;rw[if_neg hk];exact bK hS (int_at h0 h1) q
inductive ZX(vs:List V)(H:Hp)(Q:VK)(aO:XK):Prop
 | mk(a b:ae0)(cs:List Int)(xs:List V)(ps:List Pa)(_:vs=[.ref a,.ref b])(_:ai K H a (cs.map V.int))(_:ai K H b xs)(_:dF H xs ps)(_:ps.length<=1000)(_:(∀ p∈ps,wt cs p.1 p.2.1))(_:∀ H',ah H H'->Q (.bl (aM cs ps)) H')
theorem ZY(T:aA):aP 3 T.DP ZX:=by
 refine bb Dj ?_;rintro y y y y H y Q y hr ⟨a,b,cs,xs,ps,rfl,hS,hX,hP,hn,hk,q⟩;refine#[_,(aq (az (cR (uQ Y) (by rfl) T.vX uG (ae (cU (cO [0] [mU]) Y (cI (aa 1)) (λC s2 H2 ex pn=>#[df,(aD (Y3 T) hr (ae (bW (K:=K) (aa 0) af) (ae (aD (ZW T) hr (ae (aa 1) (ae (bW (K:=K) (aa 0) af) (ae (bW (K:=K) (aa 0) af) ag)))) ag)))])) ag)))),?_];have hl:=hP.len;rfl';refine#[#[_,hX],cn gK (aeT (by lia:xs.length<=1000) (by decide)) (lg (R:=fA H) (p:=λy=>true) (f:=λp=>.bl (hold p.2.2.1 p.2.2.2 (gi cs p.1 p.2.1))) hX hP (λx p y r Q h=>?_) (λx p hp y r Q h=>?_) ?_)]
 .rfl';exact h
 .obtain⟨t,u,rfl,ht,hu⟩:=r;rfl';refine aE ht (aE ht (aE ht ?_));refine#[a,cs,_,_,Y,hS,hk p hp,?_];rfl';exact#[_,_,_,_,Y,#[u,Y,hu],h]
 .rw[ae6,filter_tt];intro l ba;refine#[l,Y,ps.map λp=>hold p.2.2.1 p.2.2.2 (gi cs p.1 p.2.1),ai.of ?_,?_]
  .rw[ar,afA];rfl
  .rw[aji];exact q _ (ao ba)
inductive ZZ(B:ae0)(vs:List V)(H:Hp)(Q:VK)(aO:XK):Prop
 | mk(x p:ae0)(e t u d m i:Int)(k:Str)(kvs:List (List Key × V))(_:vs=[.ref x,.str k,.int i])(_:jT B H x e t u d m p kvs)(_:Q (.bl (hasB t k i)) H)
theorem Z0(T:aA):aP 2 T.DQ (ZZ T.aZ):=by
 refine bb Dk ?_;rintro y y y y y y y y hr ⟨x,p,e,t,u,d,m,i,k,kvs,rfl,hb,q⟩;refine#[_,(au (aH (bp (aa 1) aU) (aq (az (gR (jC (aa 0) T.cM T.wa (wm T) hr.m T.kz.b .nil bS (ae (aa 2) ag)) (fH (jC (aa 0) T.cM T.wa (wm T) hr.m T.kz.b .nil bS (ae (aJ bV (aa 2) af) ag)))))) aG) (aq (az (gR (gI oZ (aa 1) aU (d8 _)) (fH (jC (aa 0) T.cM T.wa (wm T) hr.m T.kz.b .nil bS (ae (aa 2) ag))))))),?_];obtain⟨⟨dx,hx⟩,hp⟩:=id hb;unfold hasB at q;rfl'
 try refine#[Y,?_]
 by_cases hk:k = "step"
 .subst hk;rw[if_pos Y] at q ⊢;refine#[_,_,hx,Y,x,p,e,t,u,d,m,i,kvs,Y,hb,?_];by_cases h1:0<=i/\i<t
  .rw[decide_eq_true h1] at q ⊢;rfl';refine#[_,_,hx,Y,x,p,e,t,u,d,m,_,kvs,Y,hb,?_];rw[als] at q;exact q
  .rw[decide_eq_false h1] at q ⊢;rfl';exact q
 .rw[if_neg hk] at q;rw[if_neg hk]
  try refine#[Y,?_]
  by_cases kr:k = "at"
  .subst kr;rw[decide_eq_true Y,als] at q;rw[if_pos Y];refine#[_,_,hx,Y,x,p,e,t,u,d,m,i,kvs,Y,hb,?_];exact q
  .rw[decide_eq_false kr,ajm] at q;rw[if_neg λz=>kr (V.str.inj z)];exact q
inductive Z1(B C:ae0)(vs:List V)(H:Hp)(Q:VK)(E:XK):Prop
 | mk(x p b:ae0)(e t u d m:Int)(kvs:List (List Key × V))(xs:List V)(ps:List Pa)(_:vs=[.ref x,.ref b])(_:jT B H x e t u d m p kvs)(_:ai K H b xs)(_:dF H xs ps)(_:(¬ cf t ps->E (.ref C) O H))(_:(cf t ps->Q .non H))
inductive Z2(H:Hp)(x b:ae0)(t:Int)(ps:List Pa)(i:Nat)(J:St)(H1:Hp):Prop
 | mk(e:Option V)(_:J=[U (.ref x),U (.ref b),e])(_:H1=H)(_:cf t (ps.take i))
theorem M0(T:aA):aP 3 T.DR (Z1 T.aZ T.fD):=by
 refine jh zc ?_;rintro v v v v H v v v hr ⟨x,p,b,e,t,u,d,m,kvs,xs,ps,rfl,hb,hX,hP,q0,q⟩;refine#[_,(aq (dt ahM Y (cI (aa 1)) (cS 2 zc.nd) (aq (aH (bJ (bO (aD (Z0 T) hr (ae (aa 0) (ae (ak (aa 2) af) (ae (ak (aa 2) af) ag)))))) (aq (kU kW Y T.EE T.zY Y (ae aU ag))) aG)))),?_];have hl:=hP.len;rfl';refine#[#[_,hX],ja (xs:=xs) (Z2 H x b t ps) #[_,Y,Y,λv h=>by simp at h] ?_ ?_ ?_]
 .rintro i J H1 v ⟨v,v,rfl,v⟩;exact hX
 .rintro i y J H1 hy ⟨e1,rfl,rfl,hk⟩;obtain⟨pa,nh,ta,qa,rfl,h1,h2⟩:=hP.get hy;rfl';refine aE h1 (aE h1 ?_);refine#[x,p,e,t,u,d,m,pa.2.1,pa.1,kvs,Y,hb,?_];cases hc:hasB t pa.1 pa.2.1 with
  | true =>
   rfl';refine#[_,Y,Y,λz hz=>?_];rw[afZ,nh] at hz;rcases afq.mp hz with h|h
   .exact hk z h
   .have:z=pa:=by simpa using h
    rw[this];exact hc
  | false =>
   rfl';refine#[by decide,q0 λz=>?_];rw[z pa (ae8 nh)] at hc;cases hc
 .rintro J H1 ⟨e1,rfl,rfl,hk⟩;rw[hl,afV] at hk;rfl';exact q hk
inductive Z3(vs:List V)(H:Hp)(Q:VK)(aO:XK):Prop
 | mk(b:ae0)(xs:List V)(ps:List Pa)(k:Str)(t:Int)(_:vs=[.ref b,.str k,.int t])(_:ai K H b xs)(_:dF H xs ps)(_:ps.length<=1000)(_:∀ l ys H',ah H H'->H l=O->H' l=U (.lst ys)->my H' ys (sel ps k t)->Q (.ref l) H')
theorem M4(T:aA):aP 1 T.DS Z3:=by
 refine bb Dl ?_;rintro z z z s H z Q z z ⟨b,xs,ps,k,t,rfl,hX,hP,hn,q⟩;refine#[_,(aq (az (cU (cO [1,2] ["kind",fP]) Y (cI (aa 0)) (λC s2 H2 ex pn=>#[(jG (PW.pt (jY (bp (bW (K:=K) (aa 0) af) (aa 1)) (kL (bp (bW (K:=K) (aa 0) af) (aa 2)))))),(bW (K:=K) (aa 0) af)])))),?_];have hl:=hP.len;rfl';refine#[#[_,hX],cn gK (aeT (by lia:xs.length<=1000) (by decide)) (pJ (R:=λx p=>fA H x p) (R':=λy (s:S2)=>aQ H y s.1 s.2) (p:=lr k t) (f:=λp=>p.2.2) hX hP (λx p r Q h=>?_) (λx p z r Q h=>?_) λzs hz=>?_)]
 .obtain⟨tt,u,rfl,ht,hu⟩:=r;unfold lr at h;rfl';refine aE ht ?_;rfl'
  try refine#[Y,?_]
  by_cases hk:p.1=k
  .rw[decide_eq_true hk,als] at h;rw[if_pos (by rw[hk])];refine aE ht ?_;rfl';exact C0 (Q:=λk=>Q k H) h
  .rw[decide_eq_false hk,ajm] at h;rw[if_neg hk];exact h
 .obtain⟨tt,u,rfl,ht,hu⟩:=r;rfl';exact ay (aj.of ht) Y (h _ #[u,Y,hu])
 .rw[ae6];intro l ba;exact q l zs _ (ao ba) ba ar (lq.mpr (hz.imp λz z r=>r.same (ao ba)))
noncomputable def dY(u d:Int)(ps:List Pa)(n:Nat):List W2:=(afp n).map λ(k:Nat)=>gh (O,O) ((U (-d),U u)::sel ps "step" (k:Int))
inductive Z4(B C:ae0)(vs:List V)(H:Hp)(Q:VK)(E:XK):Prop
 | mk(x p b:ae0)(e t u d m:Int)(kvs:List (List Key × V))(xs:List V)(ps:List Pa)(_:vs=[.ref x,.ref b])(_:jT B H x e t u d m p kvs)(_:1<=t)(_:t<=12)(_:ai K H b xs)(_:dF H xs ps)(_:ps.length<=900)(_:(¬ cf t ps->E (.ref C) O H))(_:(cf t ps->∀ l ys H',ah H H'->H l=O->H' l=U (.lst ys)->ax (iJ H') ys (dY u d ps (t-1).toNat)->Q (.ref l) H'))
theorem Z5(T:aA):aP 4 T.DT (Z4 T.aZ T.fD):=by
 refine jh zd ?_;rintro y y y s H y Q y hr ⟨x,p,b,e,t,u,d,m,kvs,xs,ps,rfl,hb,t1,t2,hX,hP,hn,q0,q⟩;refine#[_,(au (fI (ip (M0 T) hr (ae (aa 0) (ae (aa 1) ag)))) (au (aL 2 zd.nd (dj (ae (aT (ae (jA jP (b6 Y (aa 0) Y)) (ae (b6 Y (aa 0) Y) ag))) ag))) (aq (az (cU (cO [2,1] ["own",gq]) Y (jz Y T.gW (ae (aJ dG (b6 Y (aa 0) Y) af) ag)) (λC s2 H2 ex pn=>#[df,(aD (E5 T) hr (ae (aJ kT (aa 1) (aD (M4 T) hr (ae (aa 2) (ae aU (ae (aa 0) ag))))) ag))])))))),?_];obtain⟨⟨dx,hx⟩,hp⟩:=id hb;rfl';refine#[x,p,b,e,t,u,d,m,kvs,xs,ps,Y,hb,hX,hP,q0,λhk=>?_];rfl';refine#[_,_,_,hx,T.cM,T.zW,_,Y,_,_,_,hx,T.cM,T.zV,_,Y,aX,λo ho=>#[by decide,λl hl=>?_]];have s1:=(ao (o:=.tup [.int (-d),.int u]) ho).trans (ao (o:=.lst [.ref o]) hl);have O1:aQ (upd (upd H o (.tup [.int (-d),.int u])) l (.lst [.ref o])) (.ref o) (U (-d)) (U u):=#[o,Y,(ao hl) _ _ ar]
 have L1:(upd (upd H o (.tup [.int (-d),.int u])) l (.lst [.ref o])) l=U (.lst [.ref o]):=ar;generalize upd (upd H o (.tup [.int (-d),.int u])) l (.lst [.ref o])=H1 at s1 O1 L1 ⊢;refine#[_,_,_,s1 _ _ hx,T.cM,T.tH,_,Y,by lia,by lia,?_];refine cn k6 (by rw[aeO,ae9];exact aeT (by lia:_<=12) (by decide)) (ie (R:=λ_ x (k:Nat)=>x=V.int ((0:Int)+k)) (R':=iJ) (f:=λ(k:Nat)=>gh (O,O) ((U (-d),U u)::sel ps "step" (k:Int))) (λy y y y y h=>h) (λy y y y s' h=>h.same s') (ax.jt _) (bs:=[]) trivial (λy y=>trivial) (λx k y H2 s2 r Q h=>?_) (λx k y H2 s2 r Q h=>?_) λH2 zs s2 hz=>?_)
 .rfl';exact h
 .subst r;have S2:=s1.trans s2;rfl';refine#[b,xs,ps,"step",_,Y,S2.seq hX,hP.same S2,by lia,λr ys H3 s3 y R3 hR=>?_];rw[ajl] at hR;rfl';have hlen:ys.length<=900:=by
   have:=(lq.mp hR).len;have h2:(sel ps "step" (k:Int)).length<=ps.length:=by unfold sel;rw[aeO];exact afN _ _
   lia
  refine#[[.ref o],s3 _ _ (s2 _ _ L1),ys,R3,aeT (by show 1+ys.length<=1000;lia) (by decide),λc hc=>?_];have s4:=ao (o:=.lst ([.ref o]++ys)) hc;refine#[c,_,(U (-d),U u)::sel ps "step" (k:Int),Y,ai.of ar,#[(O1.same (s2.trans s3)).same s4,?_],by rw[ae1,afh];lia,λv H5 s5 hv=>h _ _ ((s3.trans s4).trans s5) hv];exact lq.mpr ((lq.mp hR).imp λy y r=>r.same s4)
 .intro c hc;refine q hk c zs _ ((s1.trans s2).trans (ao hc)) ((s1.trans s2).free hc) ar ?_;rw[ae6] at hz;exact hz.imp λy y r=>r.same (ao hc)
noncomputable def fg(ps:List Pa)(n:Nat):List W2:=(afp n).map λ(k:Nat)=>gh (O,O) (sel ps "at" (k:Int))
inductive Z6(B C:ae0)(vs:List V)(H:Hp)(Q:VK)(E:XK):Prop
 | mk(x p b:ae0)(e t u d m:Int)(kvs:List (List Key × V))(xs:List V)(ps:List Pa)(_:vs=[.ref x,.ref b])(_:jT B H x e t u d m p kvs)(_:1<=t)(_:t<=12)(_:ai K H b xs)(_:dF H xs ps)(_:ps.length<=900)(_:(¬ cf t ps->E (.ref C) O H))(_:(cf t ps->∀ l ys H',ah H H'->H l=O->H' l=U (.lst ys)->ax (iJ H') ys (fg ps t.toNat)->Q (.ref l) H'))
theorem Z7(T:aA):aP 4 T.DU (Z6 T.aZ T.fD):=by
 refine jh Dm ?_;rintro y y y s y y Q y hr ⟨x,p,b,e,t,u,d,m,kvs,xs,ps,rfl,hb,t1,t2,hX,hP,hn,q0,q⟩;refine#[_,(au (fI (ip (M0 T) hr (ae (aa 0) (ae (aa 1) ag)))) (aq (az (cU (cO [1] [gq]) Y (jz Y T.gW (ae (b6 Y (aa 0) Y) ag)) (λC s2 H2 ex pn=>#[df,(aD (E5 T) hr (ae (aD (M4 T) hr (ae (aa 1) (ae aU (ae (aa 0) ag)))) ag))]))))),?_];obtain⟨⟨dx,hx⟩,hp⟩:=id hb;rfl';refine#[x,p,b,e,t,u,d,m,kvs,xs,ps,Y,hb,hX,hP,q0,λhk=>?_];rfl';refine#[_,_,_,hx,T.cM,T.tH,_,Y,_,Y,by lia,by lia,?_];refine cn k6 (by rw[aeO,ae9];exact aeT (by lia:_<=12) (by decide)) (ie (R:=λ_ x (k:Nat)=>x=V.int ((0:Int)+k)) (R':=iJ) (f:=λ(k:Nat)=>gh (O,O) (sel ps "at" (k:Int))) (λy y y y y h=>h) (λy y y y s' h=>h.same s') (ax.jt _) (bs:=[]) trivial (λy y=>trivial) (λx k y H2 s2 r Q h=>?_) (λx k y H2 s2 r Q h=>?_) λH2 zs s2 hz=>?_)
 .rfl';exact h
 .subst r;rfl';refine#[b,xs,ps,"at",_,Y,s2.seq hX,hP.same s2,by lia,λr ys H3 s3 y R3 hR=>?_];rw[ajl] at hR;rfl';have hlen:ys.length<=900:=by
   have:=(lq.mp hR).len;have h2:(sel ps "at" (k:Int)).length<=ps.length:=by unfold sel;rw[aeO];exact afN _ _
   lia
  exact#[r,ys,_,Y,ai.of R3,hR,by lia,λv H5 s5 hv=>h _ _ (s3.trans s5) hv]
 .intro c hc;refine q hk c zs _ (s2.trans (ao hc)) (s2.free hc) ar ?_;rw[ae6] at hz;exact hz.imp λy y r=>r.same (ao hc)
inductive Z8(vs:List V)(H:Hp)(Q:VK)(aO:XK):Prop
 | mk(v:V)(c:S2)(_:vs=[v])(_:vd H v c)(_:Q (.int (mJ c)) H)
theorem M5(T:aA):aP 1 T.DZ Z8:=by
 refine bb Dq ?_;rintro z z z z z z z z z ⟨v,⟨e1,e2⟩,rfl,⟨p,rfl,hp⟩,q⟩;refine#[_,(au (aH (gQ (ak (aa 0) af)) (aq (az (ak (aa 0) af))) aG) (au (aH (gQ (ak (aa 0) af)) (aq (az (ak (aa 0) af))) aG) (aq (az af)))),?_];rfl';refine aE hp ?_;rcases e1 with z|x
 .rfl';refine aE hp ?_;rcases e2 with z|y
  .rfl';exact q
  .rfl';exact ay (aj.of hp) Y q
 .rfl';exact ay (aj.of hp) Y q
theorem Z9{tb:Tb}{s:P2}{w:S2}(h:s∉tb.map (·.1)):fN tb s w=tb++[(s,w)]:=by unfold fN;rw[if_neg];intro z;obtain⟨r,hr,e⟩:=agc.mp z;exact h (aeY.mpr #[r,hr,by simpa using e])
theorem aaa{α β:Type}{f:α->β}{l:List α}{i:Nat}{a:α}(h:(l.map f).Nodup)(ha:l[i]?=U a):f a∉(l.take i).map f:=by
 have hi:=(aeW.mp ha).1;have e:l=l.take i++a::l.drop (i+1):=by have:=agt i l;rw[afY hi] at this;rw[aeQ hi] at ha;cases ha;exact this.symm
 intro hm;have h2:((l.take i).map f++f a::(l.drop (i+1)).map f).Nodup:=by rw[<- ae7,<- af0,<- e];exact h
 exact (ajL.mp h2).2.2 _ hm _ (.head _) rfl
def aab(B:ae0)(H3:Hp)(v:V)(x p:ae0)(e t u d m:Int)(tb:Tb)(i:Nat)(J:St)(H4:Hp):Prop:=(∃ e1,J=[U v,U (.ref x),e1])/\nT [p] H3 H4/\dn B H4 x e t u d m p (tb.take i)
inductive aac(B:ae0)(vs:List V)(H:Hp)(Q:VK)(aO:XK):Prop
 | mk(v:V)(w:ae0)(e t u d m:Int)(tb:Tb)(_:vs=[v])(_:kC H v w e t u d m tb)(_:fS e t u d m)(_:bZ e t tb)(_:tb.length<=60)(_:(∀ r∈tb,aY r.2.1 r.2.2=false))(_:∀ (x p:ae0) (H':Hp),ah H H'->H x=O->H p=O->dn B H' x e t u d m p tb->Q (.ref x) H')
theorem aad(T:aA):aP 4 T.Ek (aac T.aZ):=by
 refine bb vP ?_;rintro n n n n H n n n hr ⟨n,w,e,t,u,d,m,tb,rfl,⟨wr,rfl,iy,hT⟩,gy,aB,bC,dJ,q⟩;refine#[_,(au (aL 1 vP.nd (o7 T.zX (MM T) hr.m Y T.Mu T.oF.b .nil bS (ae (ak (aa 0) af) (ae (ak (aa 0) af) (ae (ak (aa 0) af) (ae (ak (aa 0) af) (ae (ak (aa 0) af) ag))))))) (au (ve (dt afz Y (vg (ak (aa 0) af)) (cS 2 vP.nd) (aq (fI (jC (aa 1) T.cM T.MJ (MP T) hr.m T.oH.b .nil bS (ae (ak (aa 2) af) (ae (ak (aa 2) af) (ae (ak (uX (gJ hr) (ak (aa 0) af) (aa 2) (λn n=>rfl)) af) (ae (ak (uX (gJ hr) (ak (aa 0) af) (aa 2) (λn n=>rfl)) af) ag))))))))) (aq (az (aa 1))))),?_];obtain⟨kvs,hk,hA⟩:=id hT;refine aC (λJ H1=>∃ x p,J=[U (.ref wr),U (.ref x),O]/\ah H H1/\H x=O/\H p=O/\dn T.aZ H1 x e t u d m p []) (λN hN=>?_) ?_
 .rfl';refine ay (aj.of iy) (v:=.int e) Y (ay (aj.of iy) (v:=.int t) Y (ay (aj.of iy) (v:=.int u) Y (ay (aj.of iy) (v:=.int d) Y (ay (aj.of iy) (v:=.int m) Y λx dx hx ni dR=>?_))));refine#[x,dx,e,t,u,d,m,Y,ar,λz=>absurd gy z,λn p H1 hp s1 X1 P1=>#[Y,?_]];have M:=uY (C:=T.aZ) (fs:=[]) hx ni dR;have S1:ah H H1:=λb o e=>s1 b o (λz=>by rw[z,hx] at e;cases e) (M _ _ e);exact hN _ _ #[x,p,Y,S1,hx,M.free hp,#[#[_,X1],[],P1,trivial]]
 rintro n yR J H1 ⟨x,p,rfl,s1,fx,fp,hB⟩;subst yR;have iz:=s1 _ _ hk;have wp:w≠p:=λz=>by rw[z,fp] at hk;cases hk
 refine aC (λJ H2=>(∃ e1,J=[U (.ref wr),U (.ref x),e1])/\ah H H2/\dn T.aZ H2 x e t u d m p tb) (λN hN=>?_) ?_
 .rfl';refine#[w,kvs,iz,λo=>?_];obtain⟨⟨dx,qL⟩,kp,cP,hA1⟩:=id hB;have xw:x≠w:=λz=>by rw[z,iz] at qL;cases qL
  have iQ:=sy iz (s1 _ _ iy) (u:=.aN o (.dT kvs));have w3:upd H1 w (.aN o (.dT kvs)) w=U (.aN o (.dT kvs)):=ar;have p3:upd H1 w (.aN o (.dT kvs)) p=U (.dT kp):=by rw[aI (afR wp)];exact cP
  have wu:dn T.aZ (upd H1 w (.aN o (.dT kvs))) x e t u d m p []:=#[#[dx,by rw[aI xw];exact qL],kp,p3,hA1.imp λn n n z=>z.aN iz]
  have iR:=bF.aN (hA.imp λn n n z=>aQ.same z s1) iz (u:=.aN o (.dT kvs));have iS:∀ H4,nT [p] (upd H1 w (.aN o (.dT kvs))) H4->ah H (upd H4 w (.dT kvs)):=λH4 bu b u hb=>by
   by_cases hbw:b=w
   .subst hbw;rw[ar];rw[hk] at hb;exact hb
   .rw[aI hbw];exact bu b u (by simpa using λz=>by rw[z,fp] at hb;cases hb) (by rw[aI hbw];exact s1 _ _ hb)
  refine ay (aj.of iQ) (v:=.ref w) Y #[w,Y,o,kvs,w3,λgA=>?_];have PT:=iR.pH gA;have kl:=PT.len;rw[aeO] at kl;generalize upd H1 w (.aN o (.dT kvs))=H3 at iQ w3 p3 wu iR iS PT;have np:∀ (z:ae0) (us:List V),H3 z=U (.tup us)->z∉[p]:=λz us hz=>by simpa using λy=>by rw[y,p3] at hz;cases hz
  refine KY (xs:=ff o) (aab T.aZ H3 (.ref wr) x p e t u d m tb) Y (by rw[kl,hA.len]) #[#[_,Y],λn n n z=>z,wu] ?_ ?_ ?_
  .rintro i J H4 n ⟨n,bu,n⟩;exact bu w _ (by simpa using wp) w3
  .rintro i v J H4 hv ⟨⟨e1,rfl⟩,bu,z9⟩;obtain⟨r1,cX,ka,rfl,hka⟩:=PT.get hv;rw[ae5] at cX;obtain⟨r,hr,rfl⟩:=afv.mp cX;have wx:=ae8 hr;obtain⟨⟨Aa,qM⟩,kq,nj,Ab⟩:=id z9;obtain⟨vv,hvv,va,rfl,hva⟩:=(iR.val r.1).2 _ (sr aB.1 wx);have tK:=bu ka _ (np _ _ hka) hka;have M6:=bu wr _ (np _ _ iQ) iQ;have w4:=bu w _ (by simpa using wp) w3;have M7:=bu va _ (np _ _ hva) hva;have gt:fM H4 w (.ref ka) (U (.ref va)):=by rw[<- hvv];exact fM.z (k:=dE r.1.1 r.1.2) w4 tK
   rfl';refine#[_,_,qM,Y,ay (aj.of tK) (v:=.int r.1.1) Y (ay (aj.of tK) (v:=.int r.1.2) Y (ay (aj.of M6) (v:=.ref w) Y #[w,Y,.ref va,gt,ay (aj.of M7) Y (ay (aj.of M6) (v:=.ref w) Y #[w,Y,.ref va,gt,aE M7 ?_])]))];have onb:=aB.2 r wx;have kl4:=Ab.len;rw[agB] at kl4;have xp:x≠p:=λz=>by rw[z,nj] at qM;cases qM
   refine#[x,p,e,t,u,d,m,r.1.1,r.1.2,r.2.1,r.2.2,kq,Y,#[#[Aa,qM],nj],by lia,λz=>absurd #[onb,dJ r wx] z,λn v9 H9 sb E6 iv9=>#[#[_,Y],λc o hc ec=>sb c o (by simpa using hc) (bu c o hc ec),?_]];have ek:tb.take (i+1)=fN (tb.take i) r.1 r.2:=by rw[Z9 (aaa aB.1 hr),afZ,hr];rfl
   rw[ek];exact#[#[Aa,sb x _ xp qM],_,E6,bF.put (Ab.imp λv a b z=>z.fr (SameBut.fr sb nj)) iv9]
  .rintro J H4 ⟨⟨e1,rfl⟩,bu,z9⟩;rw[kl,afV] at z9;have w4:=bu w _ (by simpa using wp) w3;obtain⟨⟨Aa,qM⟩,kq,nj,Ab⟩:=z9;refine#[w4,hN _ _ #[#[_,Y],iS _ bu,#[Aa,by rw[aI xw];exact qM],kq,by rw[aI (afR wp)];exact nj,Ab.imp λv a b ⟨pt,e,h⟩=>#[pt,e,?_]]];rw[aI (λz=>by rw[z,w4] at h;cases h)];exact h
 rintro n yR J H2 ⟨⟨e1,rfl⟩,s2,hB2⟩;subst yR;rfl';exact q x p H2 s2 fx fp hB2
def E7(tb:Tb)(cs:List Int)(i:Int):Prop:=∃ r∈tb,r.1.1=i/\hs r.2 (dU cs r.1.2.toNat)=false
inductive aae(vs:List V)(H:Hp)(Q:VK)(aO:XK):Prop
 | mk(v:V)(w c:ae0)(e t u d m:Int)(tb:Tb)(cs:List Int)(_:vs=[v,.ref c])(_:kC H v w e t u d m tb)(_:bZ e t tb)(_:tb.length<=60)(_:ai K H c (cs.map V.int))(_:cs.length=t.toNat)(_:∀ (zs:List Int) (H':Hp),ah H H'->zs.Nodup->(∀ i,i∈zs↔E7 tb cs i)->Q (.int zs.length) H')
theorem aaf(T:aA):aP 2 T.El aae:=by
 refine bb DE ?_;rintro y y y y H y Q y hr ⟨y,w,c,e,t,u,d,m,tb,cs,rfl,⟨wr,rfl,iy,hT⟩,aB,bC,hc,bw,q⟩;refine#[_,(aq (ve (az (Yb Y (cU (cO [1,0] [fQ,dW]) Y (vg (ak (aa 0) af)) (λC s2 H2 ex pn=>#[(jG (bJ (bO (aD (z6 T) hr (ae (Cf (gJ hr) (bW (K:=K) (aa 2) af) (aa 0) (λy y=>rfl)) (ae (bW (K:=K) (aa 1) (bW (K:=K) (aa 0) af)) ag)))))),(bW (K:=K) (aa 0) af)])) T.cW T.Mq)))),?_];obtain⟨kvs,hk,hA⟩:=id hT;rfl';refine#[w,kvs,hk,λo=>?_];have iQ:=sy hk iy (u:=.aN o (.dT kvs));have w3:upd H w (.aN o (.dT kvs)) w=U (.aN o (.dT kvs)):=ar;have iR:=hA.aN hk (u:=.aN o (.dT kvs));have qJ:ai K (upd H w (.aN o (.dT kvs))) c (cs.map V.int):=KZ hk hc;have iS:∀ H4,ah (upd H w (.aN o (.dT kvs))) H4->ah H (upd H4 w (.dT kvs)):=λH4 s4=>yM hk s4;refine ay (aj.of iQ) (v:=.ref w) Y #[w,Y,o,kvs,w3,λgA=>?_];have PT:=iR.pH gA;have kl:=PT.len;rw[aeO] at kl;generalize upd H w (.aN o (.dT kvs))=H3 at iQ w3 iR qJ iS PT;have P0:ax (λv (r:P2 × S2)=>dP H3 v r.1) (ff o) tb:=ax.bind PT;refine cn (CH (xs:=ff o) Y (by rw[kl,hA.len])) (aeT (by lia:(ff o).length<=64) (by decide)) (lg (R:=λv (r:P2 × S2)=>dP H3 v r.1) (p:=λr=>!hs r.2 (dU cs r.1.2.toNat)) (f:=λr=>.int r.1.1) w3 P0 (λv r hr rv Q h=>?_) (λv r hr hp rv Q h=>?_) ?_)
 .obtain⟨ka,rfl,hka⟩:=rv;obtain⟨⟨b1,b2⟩,b3,b4⟩:=aB.2 r hr;obtain⟨vv,hvv,va,rfl,hva⟩:=(iR.val r.1).2 _ (sr aB.1 hr);rfl';refine ay (aj.of iQ) (v:=.ref w) Y #[w,Y,.ref va,by rw[<- hvv];exact fM.z (k:=dE r.1.1 r.1.2) w3 hka,ay (aj.of hka) (v:=.int r.1.2) Y (bK qJ ((congrArg (dA _) (show r.1.2=((r.1.2.toNat:Nat):Int) by lia)).trans (fo (K0 (by lia)))) #[va,r.2.1,r.2.2,dU cs r.1.2.toNat,Y,aj.of hva,?_])];rfl';exact h
 .obtain⟨ka,rfl,hka⟩:=rv;rfl';exact ay (aj.of hka) (v:=.int r.1.1) Y h
 .rw[ae6,show ((tb.filter λr=>!hs r.2 (dU cs r.1.2.toNat)).map λr=>V.int r.1.1)=((tb.filter λr=>!hs r.2 (dU cs r.1.2.toNat)).map λr=>r.1.1).map V.int by rw[afA];rfl];intro l hl;have u:=ao (o:=.lst (((tb.filter λr=>!hs r.2 (dU cs r.1.2.toNat)).map λr=>r.1.1).map V.int)) hl;have fl:=afN (λr:P2 × S2=>!hs r.2 (dU cs r.1.2.toNat)) tb;refine#[l,Y,_,ai.of ar,by rw[aeO];lia,λzs hz hm=>#[u _ _ w3,q zs _ (iS _ u) hz λi=>?_]];rw[hm,aeY];constructor
  .rintro ⟨r,hr,e⟩;obtain⟨h1,h2⟩:=afr.mp hr;exact#[r,h1,e,by simpa using h2]
  .rintro ⟨r,hr,e,h⟩;exact#[r,afr.mpr #[hr,by simpa using h],e]
theorem aag{ps:List Pa}{i:Nat}{p:Pa}{k:Str}{t:Int}(h:ps[i]?=U p):sel (ps.take (i+1)) k t=sel (ps.take i) k t++(if lr k t p=true then [p.2.2] else []):=by
 unfold sel;rw[afZ,h,alu,af0]
 congr 1
 simp only[alj,afU,List.filter_nil];split<;>rfl
theorem aah(e:S2)(ss:List S2)(s:S2):bz e (ss++[s])=(eh (bz e ss).1 s.1,e9 (bz e ss).2 s.2):=by unfold bz;rw[ajH];rfl
inductive aai(vs:List V)(H:Hp)(Q:VK)(aO:XK):Prop
 | mk(bg b:ae0)(lo hi:En)(xs:List V)(ps:List Pa)(k:Str)(t:Int)(_:vs=[.ref bg,.ref b,.str k,.int t])(_:aj K H bg [ev lo,ev hi])(_:ai K H b xs)(_:dF H xs ps)(_:ps.length<=1000)(_:∀ v H',ah H H'->aQ H' v (bz (lo,hi) (sel ps k t)).1 (bz (lo,hi) (sel ps k t)).2->Q v H')
inductive wy(H:Hp)(bg b:ae0)(lo hi:En)(ps:List Pa)(k:Str)(t:Int)(i:Nat)(J:St)(H1:Hp):Prop
 | mk(e1:Option V)(_:J=[U (.ref bg),U (.ref b),U (.str k),U (.int t),U (ev (bz (lo,hi) (sel (ps.take i) k t)).1),U (ev (bz (lo,hi) (sel (ps.take i) k t)).2),e1])(_:H1=H)
theorem M8(T:aA):aP 1 T.Eo aai:=by
 refine bb oy ?_;rintro u u u u H u u u u ⟨bg,b,lo,hi,xs,ps,k,t,rfl,hg,hX,hP,hn,q⟩;refine#[_,(au (aL 4 oy.nd (ak (aa 0) af)) (au (aL 5 oy.nd (ak (aa 0) af)) (au (dt afz Y (cI (aa 1)) (cS 6 oy.nd) (aq (aH (PW.pt (jY (bp (ak (aa 6) af) (aa 2)) (kL (bp (ak (aa 6) af) (aa 3))))) (au (aH (PW.pt (bI (eO (aa 4)) (da (PW.pt (jY (gQ (ak (ak (aa 6) af) af)) (kL (pX (ak (ak (aa 6) af) af) (aa 4)))))))) (aq (aL 4 oy.nd (ak (ak (aa 6) af) af))) aG) (aq (aH (PW.pt (bI (eO (aa 5)) (da (PW.pt (jY (gQ (ak (ak (aa 6) af) af)) (kL (lH (ak (ak (aa 6) af) af) (aa 5)))))))) (aq (aL 5 oy.nd (ak (ak (aa 6) af) af))) aG))) aG))) (aq (az (aT (ae (aa 4) (ae (aa 5) ag)))))))),?_];have hl:=hP.len;refine aC (λJ H1=>J=[U (.ref bg),U (.ref b),U (.str k),U (.int t),U (ev lo),O,O]/\H1=H) (λN hN=>?_) ?_
 .rfl';exact ay hg Y (hN _ _ #[Y,Y])
 rintro u yR J H1 ⟨rfl,rfl⟩;subst yR;refine aC (wy H1 bg b lo hi ps k t 0) (λN hN=>?_) ?_
 .rfl';exact ay hg Y (hN _ _ #[_,Y,Y])
 rintro u yR J H ⟨e1,rfl,rfl⟩;subst yR;refine aC (wy H bg b lo hi ps k t xs.length) (λN hN=>?_) ?_
 .rfl';refine#[#[_,hX],ja (xs:=xs) (wy H bg b lo hi ps k t) #[_,Y,Y] ?_ ?_ ?_]
  .rintro i J H1 u ⟨u,u,rfl⟩;exact hX
  .rintro i x J H1 hx ⟨e1,rfl,rfl⟩;obtain⟨p,hp,tp,sp,rfl,h1,h2⟩:=hP.get hx;have es:=aag (k:=k) (t:=t) hp;have skip:lr k t p=false->wy H1 bg b lo hi ps k t (i+1) [U (.ref bg),U (.ref b),U (.str k),U (.int t),U (ev (bz (lo,hi) (sel (ps.take i) k t)).1),U (ev (bz (lo,hi) (sel (ps.take i) k t)).2),U (.ref tp)] H1:=λhz=>#[_,by rw[es,hz,if_neg afj,amb],Y]
   show ui _ (rn _ _) _ _ _ _;refine Ye λB hB=>?_;rfl';refine ay (aj.of h1) (v:=.str p.1) Y ?_;rfl';by_cases hk:p.1=k
   .rw[if_pos (by rw[hk])];refine ay (aj.of h1) (v:=.int p.2.1) Y ?_;rfl';refine a7 (λht=>?_) λht=>?_
    .have hz:lr k t p=true:=by unfold lr;rw[decide_eq_true hk,decide_eq_true ht];rfl
     rw[hz,if_pos Y] at es;have fin:wy H1 bg b lo hi ps k t (i+1) [U (.ref bg),U (.ref b),U (.str k),U (.int t),U (ev (eh (bz (lo,hi) (sel (ps.take i) k t)).1 p.2.2.1)),U (ev (e9 (bz (lo,hi) (sel (ps.take i) k t)).2 p.2.2.2)),U (.ref tp)] H1:=#[_,by rw[es,aah],Y]
     generalize (bz (lo,hi) (sel (ps.take i) k t)).1=x at fin ⊢;generalize (bz (lo,hi) (sel (ps.take i) k t)).2=y at fin ⊢;obtain⟨pk,pt,pa,pc⟩:=p;dsimp only at fin h1 h2;clear skip es hz hk ht hX hP hx hp hn hl q hN;subst hB;refine aC (λJ H2=>J=[U (.ref bg),U (.ref b),U (.str k),U (.int t),U (ev (eh x pa)),U (ev y),U (.ref tp)]/\H2=H1) (λN hN=>?_) ?_
     .clear fin;rcases pa with u|pa<;>rcases x with u|x
      all_goals repeat' first
       | exact hN _ _ #[Y,Y]
       | refine aE h2 ?_
       | refine ay (aj.of h1) (v:=.ref sp) Y ?_
       | (walk_at "p")
       | (refine a7 (λhc=>?_) λhc=>?_)
      all_goals (refine hN _ _ #[?_,Y];simp only[eh];first|(rw[if_pos (by lia)];rfl)|(rw[if_neg (by lia)];rfl))
     rintro u yR J H2 ⟨rfl,rfl⟩;subst yR;generalize ev (eh x pa)=z at fin ⊢;rcases pc with u|pc<;>rcases y with u|y
     all_goals repeat' first
      | exact fin
      | refine aE h2 ?_
      | refine ay (aj.of h1) (v:=.ref sp) Y ?_
      | (walk_at "p")
      | (refine a7 (λhc=>?_) λhc=>?_)
     all_goals (simp only[e9] at fin;repeat' split at fin)
     all_goals first|exact fin|(exfalso;lia)
    .refine skip ?_;unfold lr;rw[decide_eq_false ht,akS]
   .rw[if_neg hk];refine skip ?_;unfold lr;rw[decide_eq_false hk,ajm]
  .rintro J H1 h;exact hN _ _ h
 rintro u yR J H1 ⟨e1,rfl,rfl⟩;subst yR;rw[hl,afV];rfl';exact#[aX,λp hp=>q _ _ (ao hp) #[p,Y,ar]]
inductive aaj(B:ae0)(vs:List V)(H:Hp)(Q:VK)(aO:XK):Prop
 | mk(x p:ae0)(e t u d m i:Int)(tb:Tb)(_:vs=[.ref x,.int i])(_:dn B H x e t u d m p tb)(_:(tb.map (·.1)).Nodup)(_:tb.length<64)(_:(∀ r∈tb,0<=r.1.2))(_:∀ l ys H',ah H H'->H l=O->H' l=U (.lst ys)->ax (eo H') ys (cg tb i)->Q (.ref l) H')
theorem M9(T:aA):aP 2 T.Ea (aaj T.aZ):=by
 refine bb Du ?_;rintro y y y s H y Q y hr ⟨x,p,e,t,u,d,m,i,tb,rfl,hb,dR,gf,h0,q⟩;refine#[_,(aq (az (yb (g:=jw K 3 (cY (cu 0) (cY (cu 1) (cY (cu 2) iZ)))) (kY.mk (own:=["teller","turn","word"]) (fr:=[1]) (ys:=["eye"]) Y (by decide +kernel) Y (by decide +kernel) Y (.cons rfl .nil) (.cons rfl Y Y Y .nil) Y) Y (cI (xK (aa 0) T.cM T.MK (MZ T) hr.m T.oI.b .nil bS)) (λC s2 H2 ex pn=>kO (n:=3) Y (eI (iD (i:=0) (show (["teller","turn","word","eye"]:List Str).Nodup by decide) Y (.inl (afk Y)) (.inr (afk Y))) (eI (iD (i:=1) (show (["teller","turn","word","eye"]:List Str).Nodup by decide) Y (.inl (afk Y)) (.inr (afk Y))) (eI (iD (i:=2) (show (["teller","turn","word","eye"]:List Str).Nodup by decide) Y (.inl (afk Y)) (.inr (afk Y))) kN)))) (λC s2 H2 ex pn=>#[(jG (bp (aa 0) (aa 3))),(aT (ae (aa 1) (ae (aa 2) ag)))])))),?_];obtain⟨⟨dx,hx⟩,htb⟩:=id hb;rfl';refine#[_,_,hx,Y,x,p,e,t,u,d,m,tb,Y,hb,dR,gf,λl xs H1 s1 y hl hT=>?_];have tl:=hT.len;rw[pI] at tl;refine#[l,Y,#[_,ai.of hl],KN (row:=rowOf H1) (aeT (by lia:xs.length<=64) (by decide)) (yJ (R:=λ_ x (r:P2 × S2)=>lp H1 x r) (R':=eo) (p:=λr=>decide (r.1.1=i)) (f:=λr=>(r.1.2.toNat,r.2)) (λy y y y y h=>h) (λy y y y s' h=>h.same s') hT (bs:=[]) trivial (λH' s'=>KR hl hT s') (λx r y H2 s2 h1 Q h=>?_) (λx r eQ hp H2 s2 h1 Q h=>?_) λH2 zs s2 hz=>?_)]
 .obtain⟨ta,w,rfl,ha,hw⟩:=h1;unfold nW;dsimp only;rw[pL ha];rfl';exact C0 (Q:=λk=>Q k H2) h
 .obtain⟨ta,w,rfl,ha,wp,rfl,hw⟩:=h1;unfold mI;dsimp only;rw[pL ha];rfl';have cX:=h0 r (u6 eQ);refine#[aX,λt1 kE=>h _ _ (ao kE) #[t1,wp,Y,?_,(ao kE) _ _ (s2 _ _ hw)]];rw[ar];show U (HO.tup [.int r.1.2,.ref wp])=U (.tup [.int ((r.1.2.toNat:Nat):Int),.ref wp]);rw[agG cX]
 .rw[ae6] at hz;intro l2 ba;exact q l2 zs _ (s1.trans (s2.trans (ao ba))) ((s1.trans s2).free ba) ar (hz.imp λy y r=>r.same (ao ba))
inductive aak(B:ae0)(vs:List V)(H:Hp)(Q:VK)(aO:XK):Prop
 | mk(x p o:ae0)(e t u d m:Int)(tb:Tb)(es:List Int)(_:vs=[.ref x,.ref o])(_:dn B H x e t u d m p tb)(_:(tb.map (·.1)).Nodup)(_:tb.length<64)(_:(∀ r∈tb,0<=r.1.2))(_:ai K H o (es.map V.int))(_:es.length<=100)(_:∀ l ys H',ah H H'->H' l=U (.lst ys)->ax (eo H') ys (((nU tb).filter λr=>!es.contains r.1.1).map λr=>(r.1.2.toNat,r.2))->Q (.ref l) H')
theorem aal(T:aA):aP 2 T.Eb (aak T.aZ):=by
 refine bb Dv ?_;rintro y y y s H y Q y hr ⟨x,p,o,e,t,u,d,m,tb,es,rfl,hb,dR,gf,h0,ho,vm,q⟩;refine#[_,(aq (az (yb (g:=jw K 3 (cY (cu 0) (cY (cu 1) (cY (cu 2) iZ)))) (kY.mk (own:=["teller","turn","word"]) (fr:=[1]) (ys:=["some"]) Y (by decide +kernel) Y (by decide +kernel) Y (.cons rfl .nil) (.cons rfl Y Y Y .nil) Y) Y (cI (xK (aa 0) T.cM T.MK (MZ T) hr.m T.oI.b .nil bS)) (λC s2 H2 ex pn=>kO (n:=3) Y (eI (iD (i:=0) (show (["teller","turn","word","some"]:List Str).Nodup by decide) Y (.inl (afk Y)) (.inr (afk Y))) (eI (iD (i:=1) (show (["teller","turn","word","some"]:List Str).Nodup by decide) Y (.inl (afk Y)) (.inr (afk Y))) (eI (iD (i:=2) (show (["teller","turn","word","some"]:List Str).Nodup by decide) Y (.inl (afk Y)) (.inr (afk Y))) kN)))) (λC s2 H2 ex pn=>#[(jG (l8 (SO (K:=K) Y) (aa 0) (aa 3) (by with_unfolding_all rfl))),(aT (ae (aa 1) (ae (aa 2) ag)))])))),?_];obtain⟨⟨dx,hx⟩,htb⟩:=id hb;rfl';refine#[_,_,hx,Y,x,p,e,t,u,d,m,tb,Y,hb,dR,gf,λl xs H1 s1 y hl hT=>?_];have tl:=hT.len;rw[pI] at tl;refine#[l,Y,#[_,ai.of hl],KN (row:=rowOf H1) (aeT (by lia:xs.length<=64) (by decide)) (yJ (R:=λ_ x (r:P2 × S2)=>lp H1 x r) (R':=eo) (p:=λr=>!es.contains r.1.1) (f:=λr=>(r.1.2.toNat,r.2)) (λy y y y y h=>h) (λy y y y s' h=>h.same s') hT (bs:=[]) trivial (λH' s'=>KR hl hT s') (λx r y H2 s2 h1 Q h=>?_) (λx r eQ hp H2 s2 h1 Q h=>?_) λH2 zs s2 hz=>?_)]
 .obtain⟨ta,w,rfl,ha,hw⟩:=h1;unfold nW;dsimp only;rw[pL ha];rfl';refine#[o,_,Y,.inl ((s1.trans s2).seq ho),Y,KQ es,_,Y,?_];rw[CD,if_pos Y];exact h
 .obtain⟨ta,w,rfl,ha,wp,rfl,hw⟩:=h1;unfold mI;dsimp only;rw[pL ha];rfl';have cX:=h0 r (u6 eQ);refine#[aX,λt1 kE=>h _ _ (ao kE) #[t1,wp,Y,?_,(ao kE) _ _ (s2 _ _ hw)]];rw[ar];show U (HO.tup [.int r.1.2,.ref wp])=U (.tup [.int ((r.1.2.toNat:Nat):Int),.ref wp]);rw[agG cX]
 .rw[ae6] at hz;intro l2 ba;exact q l2 zs _ (s1.trans (s2.trans (ao ba))) ar (hz.imp λy y r=>r.same (ao ba))
inductive tL(H:Hp)(v:V)(r:Gp):Prop
 | mk(g k:ae0)(zs:List V)(_:v = .ref g)(_:H g=U (.tup [ev r.1,.ref k]))(_:H k=U (.lst zs))(_:ax (eo H) zs r.2)
theorem tL.same(h:tL H v r)(s:ah H H'):tL H' v r:=let ⟨g,k,zs,e,a,b,c⟩:=h;#[g,k,zs,e,s _ _ a,s _ _ b,c.imp λy y x=>x.same s]
inductive aam(B:ae0)(vs:List V)(H:Hp)(Q:VK)(aO:XK):Prop
 | mk(x p:ae0)(e t u d m:Int)(tb:Tb)(_:vs=[.ref x])(_:dn B H x e t u d m p tb)(_:(tb.map (·.1)).Nodup)(_:tb.length<64)(_:(∀ r∈tb,0<=r.1.2))(_:0<=e)(_:e<=7)(_:∀ l ys H',ah H H'->H l=O->H' l=U (.lst ys)->ax (tL H') ys ((vw e.toNat tb).map λr=>(U r.1,r.2))->Q (.ref l) H')
theorem aan(T:aA):aP 3 T.Ec (aam T.aZ):=by
 refine bb Dw ?_;rintro y y y s y y Q y hr ⟨x,p,e,t,u,d,m,tb,rfl,hb,dR,gf,eQ,h0,h7,q⟩;refine#[_,(aq (az (cU (cO [0] [eB]) Y (jz Y T.gW (ae (b6 Y (aa 0) Y) ag)) (λC s2 H2 ex pn=>#[df,(aT (ae (aa 0) (ae (aD (M9 T) hr (ae (aa 1) (ae (aa 0) ag))) ag)))])))),?_];obtain⟨⟨dx,hx⟩,hp⟩:=id hb;rfl';refine#[_,_,_,hx,T.cM,T.v7,_,Y,?_];refine#[e,Y,by lia,by lia,cn k6 (by rw[aeO,ae9];exact aeT (by lia:_<=12) (by decide)) (ie (R:=λ_ x (k:Nat)=>x=V.int ((0:Int)+k)) (R':=tL) (f:=λ(k:Nat)=>((U (k:Int),cg tb (k:Int)):Gp)) (λy y y y y h=>h) (λy y y y s' h=>h.same s') (ax.jt _) (bs:=[]) trivial (λy y=>trivial) (λx k y H2 s2 r Q h=>?_) (λx k y H2 s2 r Q h=>?_) λH2 zs s2 hz=>?_)]
 .rfl';exact h
 .subst r;rfl';rw[ajl];refine#[x,p,e,t,u,d,m,(k:Int),tb,Y,hb.same s2,dR,gf,eQ,λl ys H3 s3 y hl hM=>#[aX,λg hg=>?_]];have u1:=ao (o:=.tup [.int (k:Int),.ref l]) hg;exact h _ _ (s3.trans u1) #[g,l,ys,Y,ar,u1 _ _ hl,hM.imp λy y x=>x.same u1]
 .intro l hl;rw[ae6] at hz;refine q l zs _ (s2.trans (ao hl)) (s2.free hl) ar ?_;unfold vw;rw[afA];exact hz.imp λy y r=>r.same (ao hl)
inductive aao(vs:List V)(H:Hp)(Q:VK)(aO:XK):Prop
 | mk(v u:V)(s:S2)(p:P2)(_:vs=[v,u])(_:aQ H v s.1 s.2)(_:dP H u p)(_:∀ r H',ah H H'->H r=O->H' r=U (.tup [ev (gj s p).1,ev (gj s p).2])->Q (.ref r) H')
theorem Na(T:aA):aP 1 T.D0 aao:=by
 refine bb vN ?_;rintro y y y y y y y y hr ⟨v,u,⟨lo,hi⟩,⟨p1,p2⟩,rfl,⟨a,rfl,ha⟩,⟨b,rfl,hb⟩,q⟩;refine#[_,(au (aL 2 vN.nd (nD (eO (ak (aa 0) af)) cj (aJ bV (ak (aa 0) af) (ak (aa 1) af)))) (au (aL 3 vN.nd (nD (eO (ak (aa 0) af)) cj (aJ bV (ak (aa 0) af) (ak (aa 1) af)))) (aq (az (aT (ae (aa 2) (ae (aa 3) ag))))))),?_];rcases lo with y|lo<;>rcases hi with y|hi
 all_goals simp only[uT,uU] at ha
 all_goals
  rfl'
  repeat' first
  | refine aE ha ?_
  | refine aE hb ?_
  | (walk_at "p")
 all_goals exact#[aX,λr hr=>q r _ (ao hr) hr ar]
theorem aap(h:ax (λv (s:S2)=>aQ H v s.1 s.2) zs ss)(h0:0<ss.length):∃ v,dA zs (-1)=U v/\aQ H v (cJ ss (ss.length-1)).1 (cJ ss (ss.length-1)).2:=by
 have hl:=h.len;obtain⟨v,hv,r⟩:=h.at (aeQ (l:=ss) (i:=ss.length-1) (by lia));have e:zs=zs.take (ss.length-1)++[v]:=by have:=agt (ss.length-1) zs;rw[afY (by lia),aij (by lia)] at this;rw[aeQ (by lia)] at hv;cases hv;exact this.symm
 refine#[v,by rw[e];exact Bj _ _,?_];unfold cJ;rw[aeP,aeQ (by lia)];exact r
inductive aaq(vs:List V)(H:Hp)(Q:VK)(aO:XK):Prop
 | mk(a b:ae0)(xs ys:List V)(ws:List W2)(ps:List P2)(_:vs=[.ref a,.ref b])(_:ai K H a xs)(_:ax (iJ H) xs ws)(_:ai K H b ys)(_:iG H ys ps)(_:ws.length<=ps.length+1)(_:ws.length<=1000)(_:(∀ t,t<ws.length->bD (gp ws) (aK ps) t=O->∀ H',ah H H'->Q .non H'))(_:((∀ t,t<ws.length->bD (gp ws) (aK ps) t≠O)->∀ l zs ss H',ah H H'->H l=O->H' l=U (.lst zs)->ax (vd H') zs ss->ss.length=ws.length->(∀ t,t<ws.length->bD (gp ws) (aK ps) t=U (cJ ss t))->Q (.ref l) H'))
inductive Nb(H:Hp)(a b l:ae0)(ws:List W2)(ps:List P2)(i:Nat)(J:St)(H1:Hp):Prop
 | mk(zs:List V)(ss:List S2)(e1 e2 e3:Option V)(_:J=[U (.ref a),U (.ref b),U (.ref l),e1,e2,e3])(_:ah H H1)(_:H1 l=U (.lst zs))(_:ax (vd H1) zs ss)(_:ss.length=i)(_:∀ t,t<i->bD (gp ws) (aK ps) t=U (cJ ss t))
theorem Nc(T:aA):aP 3 T.D1 aaq:=by
 refine bb oi ?_;rintro y y y y H y y y hr ⟨a,b,xs,ys,ws,ps,rfl,hS,hW,hT,hP,hl,hn,q0,q⟩;refine#[_,(au (aL 2 oi.nd (dj ag)) (au (dt afz Y (BR Y T.zT (ae (aa 0) ag)) (kO Y (eI (cS 3 oi.nd) (eI (cS 4 oi.nd) kN))) (au (aL 5 oi.nd (aa 4)) (au (aH (PW.pt (jY (pX (aa 3) af) (kL (gQ (aa 4))))) (aq (aL 5 oi.nd (aD (EU T) hr (ae (aa 4) (ae (aD (Na T) hr (ae (ak (aa 2) (jA jP af)) (ae (ak (aa 1) (aJ dG (aa 3) af)) ag))) ag))))) aG) (au (aH (eO (aa 5)) (aq (az cj)) aG) (aq (fI (i7 afx afP afQ mh (aa 2) (ae (aa 5) ag)))))))) (aq (az (aa 2))))),?_];have l1:=hW.len;have l2:=hP.len;rfl';refine#[by decide,λl eR=>?_];have s1:=ao (o:=.lst []) eR;have e1:upd H l (.lst []) l=U (.lst []):=ar;generalize upd H l (.lst [])=H1 at s1 e1 ⊢;rfl';refine#[#[_,s1.seq hS],BW (xs:=xs) (Nb H a b l ws ps) #[[],[],_,_,_,Y,s1,e1,trivial,Y,λt h=>absurd h (agd _)] ?_ ?_ ?_]
 .rintro i J H2 y ⟨y,y,y,y,y,y,s2,y⟩;exact s2.seq hS
 .rintro i x J H2 p hx ⟨zs,ss,d1,d2,d3,rfl,s2,ba,hz,hlen,jo⟩ hp;obtain⟨w,hw,r⟩:=hW.get hx;have sp:=ao (o:=.tup [.int i,x]) hp;refine nO (aj.of ar) ?_;generalize upd H2 p (.tup [.int i,x])=H3 at sp ⊢;have s3:=s2.trans sp;have r3:=r.same s3;have eS:=sp _ _ ba;have eT:=hz.imp λy y r=>aQ.same r sp;have zl:=hz.len;have ew:gp ws i=w:=by unfold gp;rw[aeP,hw];rfl
  have hi:=(aeW.mp hx).1;have add:∀ (v:V) (k:S2) (H4:Hp) (d1 d2 d3:Option V),ah H3 H4->aQ H4 v k.1 k.2->bD (gp ws) (aK ps) i=U k->Nb H a b l ws ps (i+1) [U (.ref a),U (.ref b),U (.ref l),d1,d2,d3] (upd H4 l (.lst (zs++[v]))):=λv k H4 d1 d2 d3 s4 hv ek=>by
   have E8:=s4 _ _ eS;refine#[zs++[v],ss++[k],d1,d2,d3,Y,jb eR (s3.trans s4),ar,?_,by rw[ae1,afh,hlen],λt ht=>?_]
   .exact ((eT.imp λy y r=>aQ.same r s4).snoc hv).imp λy y r=>aQ.put r E8
   .unfold cJ;rw[aeP];by_cases e:t=i
    .subst e;rw[ek,af4 (by lia),hlen,akB];rfl
    .rw[jo t (by lia),agf (by lia)];unfold cJ;rw[aeP]
  cases w with
  | none =>
   obtain rfl:x = .non:=r3;have e0:bD (gp ws) (aK ps) i=O:=by
    cases i with
    | zero=>exact ew
    | succ i=>unfold bD;rw[ew]
   rfl';have fin:=q0 i (by lia) e0 _ s3;exact a7 (λy=>fin) λy=>fin
  | some k =>
   obtain⟨rp,rfl,hrp⟩:=id (show aQ H3 x k.1 k.2 from r3);cases i with
   | zero =>
    rfl';exact#[.inl #[Y,_,ai.of eS],_,eS,afy (by lia:zs.length<=1000) (by decide),add _ k _ _ _ _ (ah.refl _) r3 ew]
   | succ i =>
    rfl';rw[if_pos (by lia)];obtain⟨v,hv,rv⟩:=aap (ss:=ss) eT (by lia);obtain⟨u,hu,ru⟩:=hP.at (aeQ (l:=ps) (i:=i) (by lia));have ep:ps[i]'(by lia)=aK ps i:=by unfold aK;rw[aeP,aeQ (by lia)];rfl
    rw[ep] at ru;rw[show (((i+1:Nat):Int)-1)=((i:Nat):Int) by lia];refine bK (ai.of eS) hv (bK (s3.seq hT) (fo hu) ?_);rw[hlen,Nat.add_sub_cancel] at rv;refine#[v,u,cJ ss i,aK ps i,Y,rv,ru.same s3,λr H4 s4 y wz=>?_];refine#[_,_,k.1,k.2,_,_,Y,#[rp,Y,s4 _ _ hrp],#[r,Y,wz],λy H5 s5 hy=>?_];have ek:=jo i (by lia);have en:bD (gp ws) (aK ps) (i+1)=jL k (gj (cJ ss i) (aK ps i)):=by
     show (match gp ws (i+1),bD (gp ws) (aK ps) i with
      | some b,U k=>jL b (gj k (aK ps i))
      | _,_=>O)=_
     rw[ew,ek]
    have qN:=(s4.trans s5) _ _ eS;unfold jL at en;cases hc:aY (eh k.1 (gj (cJ ss i) (aK ps i)).1) (e9 k.2 (gj (cJ ss i) (aK ps i)).2) with
    | true =>
     rw[if_pos hc] at en;obtain rfl:=hy.1 hc;rfl';exact q0 (i+1) (by lia) en _ (s3.trans (s4.trans s5))
    | false =>
     rw[if_neg (by rw[hc];simp)] at en;have Ac:=hy.2 hc;obtain⟨yp,rfl,hyp⟩:=id Ac;rfl';exact#[.inl #[Y,_,ai.of qN],_,qN,afy (by lia:zs.length<=1000) (by decide),add _ _ _ _ _ _ (s4.trans s5) Ac en]
 .rintro J H2 ⟨zs,ss,d1,d2,d3,rfl,s2,ba,hz,hlen,jo⟩;rfl';rw[l1] at hlen jo;exact q (λt ht=>by rw[jo t ht];simp) l zs ss H2 s2 eR ba hz hlen jo
inductive aar(vs:List V)(H:Hp)(Q:VK)(aO:XK):Prop
 | mk(a:ae0)(xs:List V)(ms:List Mk)(t:Nat)(_:vs=[.ref a,.int t])(_:ai K H a xs)(_:ax (eo H) xs ms)(_:ms.length<=1000)(_:∀ l ys H',ah H H'->H' l=U (.lst ys)->my H' ys (atT ms t)->Q (.ref l) H')
theorem aas(T:aA):aP 1 T.D2 aar:=by
 refine bb Dr ?_;rintro y y y s H y Q y y ⟨a,xs,ms,t,rfl,hS,hM,hn,q⟩;refine#[_,(aq (az (cU (cO [1] [fP]) Y (cI (aa 0)) (λC s2 H2 ex pn=>#[(jG (bp (bW (K:=K) (aa 0) af) (aa 1))),(bW (K:=K) (aa 0) af)])))),?_];have hl:=hM.len;rfl';refine#[#[_,hS],cn gK (aeT (by lia:xs.length<=1000) (by decide)) (pJ (R:=eo H) (R':=λv (s:S2)=>aQ H v s.1 s.2) (p:=λm=>decide (m.1=t)) (f:=λm=>m.2) hS hM (λx m r Q h=>?_) (λx m hp r Q h=>?_) λzs hz=>?_)]
 .obtain⟨tp,sp,rfl,h1,h2⟩:=r;rfl';refine aE h1 ?_;rfl';refine C0 (Q:=λk=>Q k H) ?_;rw[show decide ((m.1:Int)=(t:Int))=decide (m.1=t) from decide_eq_decide.mpr (by lia)];exact h
 .obtain⟨tp,sp,rfl,h1,h2⟩:=r;rfl';exact ay (aj.of h1) Y (h _ #[sp,Y,h2])
 .rw[ae6];intro l hl;exact q l zs _ (ao hl) ar (lq.mpr (hz.imp λy y r=>r.same (ao hl)))
theorem ax.rev:∀ {xs:List V} {as:List α},ax R xs as->ax R xs.reverse as.reverse
 | [],[],_=>trivial
 | x::xs,a::as,h=>by rw[aio,aio];exact (ax.rev h.2).app #[h.1,trivial]
 | [],_::_,h=>h.elim
 | _::_,[],h=>h.elim
inductive aat(vs:List V)(H:Hp)(Q:VK)(aO:XK):Prop
 | mk(a b:ae0)(xs ys:List V)(ps:List P2)(ms:List Mk)(_:vs=[.ref a,.ref b])(_:ai K H a xs)(_:iG H xs ps)(_:ai K H b ys)(_:ax (eo H) ys ms)(_:fL ps)(_:ps.length<=900)(_:ms.length<=1000)(_:(∀ t,t<=ps.length->bD (c8 ms) (aK ps) t=O->∀ H',ah H H'->Q .non H'))(_:((∀ t,t<=ps.length->bD (c8 ms) (aK ps) t≠O)->∀ l zs ss H',ah H H'->H l=O->H' l=U (.lst zs)->ax (vd H') zs ss->ss.length=ps.length+1->(∀ t,t<=ps.length->iL ps.length (c8 ms) (aK ps) t=U (cJ ss t))->Q (.ref l) H'))
theorem aau(T:aA):aP 4 T.D4 aat:=by
 refine bb vO ?_;rintro y y y s H y Q y hr ⟨a,b,xs,ys,ps,ms,rfl,hS,hP,hT,hM,aB,hn,hm,q0,q⟩;refine#[_,(au (aL 2 vO.nd (aD (Nc T) hr (ae (cU (cO [1] [ir]) Y (jz Y T.gW (ae (aJ bV (c9 T.cW (ae (aa 0) ag)) af) ag)) (λC s2 H2 ex pn=>#[df,(aD (E5 T) hr (ae (aD (aas T) hr (ae (aa 1) (ae (aa 0) ag))) ag))])) (ae (aa 0) ag)))) (au (aH (eO (aa 2)) (aq (az cj)) aG) (au (rM (i:=3) (cO [] []) Y vO.nd Y Y (Ti Y T.Yj (ae (aa 0) ag)) (λC s2 H2 ex pn=>#[df,(aT (ae (jA jP (bW (K:=K) (aa 0) af)) (ae (jA jP (bW (K:=K) (aa 0) af)) ag)))])) (aq (az (KP (aD (Nc T) hr (ae (KP (aa 2) (jA jP af)) (ae (aa 3) ag))) (jA jP af))))))),?_];have l1:=hP.len;rfl';refine#[_,eX hS,by lia,by lia,?_];rw[l1,show ((ps.length:Int)+1).toNat=ps.length+1 by lia];refine cn k6 (by rw[aeO,ae9];exact aeT (by lia:_<=901) (by decide)) (ie (R:=λ_ x (k:Nat)=>x=V.int ((0:Int)+k)) (R':=iJ) (f:=λ(k:Nat)=>c8 ms k) (λy y y y y h=>h) (λy y y y s' h=>h.same s') (ax.jt _) (bs:=[]) trivial (λy y=>trivial) (λx k y H2 s2 r Q h=>?_) (λx k y H2 s2 r Q h=>?_) λH2 zs s2 hz=>?_)
 .rfl';exact h
 .subst r;rfl';rw[show (0:Int)+(k:Nat)=((k:Nat):Int) by lia];refine#[b,ys,ms,k,Y,s2.seq hT,hM.imp λy y r=>r.same s2,hm,λl zs H3 s3 hl hs=>?_];refine#[l,zs,_,Y,ai.of hl,hs,?_,λv H4 s4 hv=>h H4 v (s3.trans s4) hv];rw[hs.len];unfold atT;rw[aeO];exact aeT (afN _ _) hm
 rw[ae6] at hz;intro c hc;have s3:=s2.trans (ao (o:=.lst zs) hc);have c3:upd H2 c (.lst zs) c=U (.lst zs):=ar;have eT:=hz.imp λy y r=>r.same (ao (o:=.lst zs) hc);generalize upd H2 c (.lst zs)=H3 at s3 c3 eT ⊢;clear hz hc s2;have wl:((afp (ps.length+1)).map λ(k:Nat)=>c8 ms k).length=ps.length+1:=by rw[aeO,ae9]
 have we:∀ t,t<=ps.length->gp ((afp (ps.length+1)).map λ(k:Nat)=>c8 ms k) t=c8 ms t:=λt ht=>by unfold gp;rw[aeP,ae5,af5 (by lia)];rfl
 have ne:∀ t,t<=ps.length->bD (gp ((afp (ps.length+1)).map λ(k:Nat)=>c8 ms k)) (aK ps) t=bD (c8 ms) (aK ps) t:=λt ht=>Cz t (λk hk=>we k (by lia)) λk y=>rfl;refine#[c,a,zs,xs,_,ps,Y,ai.of c3,eT,s3.seq hS,hP.same s3,by rw[wl];exact aeV _,by rw[wl];lia,λt ht en H4 s4=>?_,λbN l oM ss H4 s4 y hl hz2 mi jo=>?_]
 .rw[wl] at ht;rw[ne t (by lia)] at en;rfl';exact q0 t (by lia) en _ (s3.trans s4)
 rw[wl] at bN jo mi;have Nd:∀ t,t<=ps.length->bD (c8 ms) (aK ps) t≠O:=λt ht z=>bN t (by lia) (by rw[ne t ht];exact z);have aav:∀ t,t<ps.length+1->bD (c8 ms) (aK ps) t=U (cJ ss t):=λt ht=>by rw[<- ne t (by lia)];exact jo t ht
 have TB:=KI aB Nd;have S4:=s3.trans s4;rfl';refine#[xs,S4.seq hS,VM (aeT (by lia:_<=900) (by decide)) (ie (R:=dP) (R':=dP) (f:=λp=>(-p.2,-p.1)) (λy y y y s' h=>h.same s') (λy y y y s' h=>h.same s') (ax.rev (hP.same S4)) (bs:=[]) trivial (λH' s'=>(S4.trans s').seq hS) (λx k y H2 s2 r Q h=>?_) (λx k y H2 s2 r Q h=>?_) λH5 bs s5 hb=>?_)]
 .rfl';exact h
 .obtain⟨t,rfl,ht⟩:=r;rfl';refine aE ht ?_;rfl';refine aE ht ?_;rfl';exact#[aX,λp hp=>h _ _ (ao hp) #[p,Y,ar]]
 rw[ae6] at hb;intro d hd;have s6:=s5.trans (ao (o:=.lst bs) hd);have d6:upd H5 d (.lst bs) d=U (.lst bs):=ar;have Nf:iG (upd H5 d (.lst bs)) bs (mH ps):=hb.imp λy y r=>r.same (ao (o:=.lst bs) hd);generalize upd H5 d (.lst bs)=H6 at s6 d6 Nf ⊢;clear hb hd s5;refine#[oM,ai.of (s6 _ _ hl),λp hp=>?_];have s7:=s6.trans (ao (o:=.lst oM.reverse) hp);have p7:upd H6 p (.lst oM.reverse) p=U (.lst oM.reverse):=ar;have d7:=(ao (o:=.lst oM.reverse) hp) _ _ d6;have Ng:iG (upd H6 p (.lst oM.reverse)) bs (mH ps):=Nf.same (ao (o:=.lst oM.reverse) hp);generalize upd H6 p (.lst oM.reverse)=H7 at s7 p7 d7 Ng ⊢;have rl:(ss.reverse.map U).length=ps.length+1:=by rw[aeO,agF,mi]
 have bl:(mH ps).length=ps.length:=by unfold mH;rw[aeO,agF]
 have be:∀ t,t<=ps.length->bD (gp (ss.reverse.map U)) (aK (mH ps)) t=iL ps.length (c8 ms) (aK ps) (ps.length-t):=λt ht=>back_eq mi aav ht;refine#[p,d,_,bs,ss.reverse.map U,mH ps,Y,ai.of p7,ax.Kn (ax.rev (hz2.imp λy y r=>aQ.same r s7)),ai.of d7,Ng,by rw[rl,bl];exact aeV _,by rw[rl];lia,λt ht en H8 s8=>?_,λy l3 zs3 ss3 H8 s8 fl3 eS hz8 E9 Nh=>?_]
 .rw[rl] at ht;rw[be t (by lia)] at en;obtain⟨z,ez,y⟩:=TB.ok (ps.length-t) (by lia);rw[en] at ez;cases ez
 rw[rl] at E9 Nh;have S8:=S4.trans (s7.trans s8);refine#[l3,Y,zs3,ai.of eS,λp3 wA=>q Nd p3 _ ss3.reverse _ (S8.trans (ao wA)) (S8.free wA) ar (ax.rev (hz8.imp λy y r=>aQ.same r (ao wA))) (by rw[agF,E9]) λt ht=>?_];rw[VD E9 ht,<- Nh (ps.length-t) (by lia),be _ (by lia),show ps.length-(ps.length-t)=t by lia]
inductive aaw(vs:List V)(H:Hp)(Q:VK)(aO:XK):Prop
 | mk(a b:ae0)(xs ys:List V)(ps:List P2)(ms:List Mk)(_:vs=[.ref a,.ref b])(_:ai K H a xs)(_:iG H xs ps)(_:ai K H b ys)(_:ax (eo H) ys ms)(_:fL ps)(_:ps.length<=900)(_:ms.length<=1000)(_:(∀ m∈ms,m.1<=ps.length))(_:((¬ ∃ c,jN ps c/\meets ms c)->∀ H',ah H H'->Q .non H'))(_:(∀ l cs H',ah H H'->H l=O->H' l=U (.lst (cs.map V.int))->cs.length=ps.length+1->jN ps (bU cs)->meets ms (bU cs)->Q (.ref l) H'))
inductive aax(H:Hp)(a b x l c:ae0)(zs:List V)(ss:List S2)(ps:List P2)(ms:List Mk)(i:Nat)(J:St)(H1:Hp):Prop
 | mk(cs:List Int)(e1 e2:Option V)(_:J=[U (.ref a),U (.ref b),U (.ref x),U (.ref l),e1,e2])(_:ah H H1)(_:H1 l=U (.lst (cs.map V.int)))(_:H1 c=U (.lst (zs.drop 1)))(_:ax (vd H1) zs ss)(_:cs.length=i+1)(_:(∀ t,t<=i->eM (iL ps.length (c8 ms) (aK ps) t) (bU cs t)))(_:∀ k,k<i->(aK ps k).1<=bU cs (k+1)-bU cs k/\bU cs (k+1)-bU cs k<=(aK ps k).2)
theorem Ad(h:t<cs.length):bU (cs++[n]) t=bU cs t:=by unfold bU;rw[aeP,aeP,agf h]
theorem Ni(h:cs.length=t):bU (cs++[n]) t=n:=by unfold bU;rw[aeP,af4 (by lia),h,akB];rfl
theorem aay{cs:List Int}{i:Nat}(h:cs.length=i+1):dA (cs.map V.int) (-1)=U (.int (bU cs i)):=by
 have e:cs=cs.take i++[bU cs i]:=by have:=agt i cs;rw[afY (by lia),aij (by lia)] at this;unfold bU;rw[aeP,aeQ (by lia)];exact this.symm
 have e2:cs.map V.int=(cs.take i).map V.int++[V.int (bU cs i)]:=(congrArg (List.map V.int) e).trans (by rw[af0];rfl);rw[e2];exact Bj _ _
theorem Nj(h:aY s.1 s.2=false):b0 s (mJ s):=Co.mpr (VN h)
theorem Nk(h:i<ss.length):ss[i]?=U (cJ ss i):=by unfold cJ;rw[aeP,aeQ h];rfl
theorem Fc(h:i<ps.length):ps[i]?=U (aK ps i):=by unfold aK;rw[aeP,aeQ h];rfl
theorem aaz(T:aA):aP 5 T.D5 aaw:=by
 refine bb qb ?_;rintro _ _ _ s H _ _ _ hr ⟨a,b,xs,ys,ps,ms,rfl,hS,hP,hT,hM,aB,hn,hm,ht,q0,q⟩;refine#[_,(au (aL 2 qb.nd (aD (aau T) hr (ae (aa 0) (ae (aa 1) ag)))) (au (aH (eO (aa 2)) (aq (az cj)) aG) (au (aL 3 qb.nd (dj (ae (aD (M5 T) hr (ae (ak (aa 2) af) ag)) ag))) (au (dt afz Y (Jl Y T.Mt (ae (aa 0) (ae (xP Bl (aa 2) (uA af) Bg) ag))) (kO Y (eI (cS 4 qb.nd) (eI (cS 5 qb.nd) kN))) (aq (fI (i7 afx afP afQ mh (aa 3) (ae (aD (M5 T) hr (ae (aD (EU T) hr (ae (aa 5) (ae (aD (Na T) hr (ae (aT (ae (ak (aa 3) (jA jP af)) (ae (ak (aa 3) (jA jP af)) ag))) (ae (aa 4) ag))) ag))) ag)) ag))))) (aq (az (aa 3))))))),?_];have l1:=hP.len;rfl';refine#[a,b,xs,ys,ps,ms,Y,hS,hP,hT,hM,aB,hn,hm,λt ht en H1 s1=>?_,λbN x zs ss H1 s1 fx hx hz mi jo=>?_]
 .rfl';refine q0 ?_ _ s1;rintro ⟨c,hc,mE⟩;exact VB hc mE t ht en
 have TB:=KI aB bN;have zl:=hz.len;have ok0:∀ t,t<=ps.length->aY (cJ ss t).1 (cJ ss t).2=false:=λt ht=>by obtain⟨s,es,hs⟩:=TB.ok t ht;rw[jo t ht] at es;cases es;exact hs
 rfl';obtain⟨v0,Fd,r0⟩:=hz.at (Nk (ss:=ss) (i:=0) (by lia));refine bK (ai.of hx) (fo (j:=0) Fd) ?_;refine#[v0,cJ ss 0,Y,r0,by decide,λl eR=>?_];have u1:=ao (o:=.lst [.int (mJ (cJ ss 0))]) eR;have L1:upd H1 l (.lst [.int (mJ (cJ ss 0))]) l=U (.lst ([mJ (cJ ss 0)].map V.int)):=ar;have fl:=s1.free eR;generalize upd H1 l (.lst [.int (mJ (cJ ss 0))])=H2 at u1 L1 ⊢;refine#[zs,ai.of (u1 _ _ hx),λc hc=>?_];rw[show fJ zs (U 1) O=zs.drop 1 from TX zs 1];have u2:=ao (o:=.lst (zs.drop 1)) hc;have c3:upd H2 c (.lst (zs.drop 1)) c=U (.lst (zs.drop 1)):=ar;have lc:l≠c:=λz=>by rw[<- z,L1] at hc;cases hc
 generalize upd H2 c (.lst (zs.drop 1))=H3 at u2 c3 ⊢;have S3:=s1.trans (u1.trans u2);refine#[#[_,S3.seq hS],#[_,ai.of c3],TC (xs:=xs) (ys:=zs.drop 1) (aax H a b x l c zs ss ps ms) #[[mJ (cJ ss 0)],_,_,Y,S3,u2 _ _ L1,c3,hz.imp λ_ _ r=>aQ.same r (u1.trans u2),Y,λt ht=>?_,λk hk=>absurd hk (agd _)] ?_ ?_ ?_]
 .obtain rfl:t=0:=by lia
  exact#[_,jo 0 (by lia),Nj (ok0 0 (by lia))]
 .rintro i J H4 ⟨_,_,_,_,s4,_,c4,_⟩;exact#[s4.seq hS,ai.of c4]
 .rintro i u v J H4 p hu hv ⟨cs,d1,d2,rfl,s4,L4,c4,qO,bw,bL,cQ⟩ hp;have hi:i<ps.length:=by have:=(aeW.mp hu).1;lia
  obtain⟨pt,ept,ru⟩:=hP.get hu;rw[Fc hi] at ept;cases ept;rw[alr,anr 1 i] at hv;obtain⟨sv,esv,rv⟩:=qO.get hv;rw[Nk (by lia)] at esv;cases esv;refine nO (aj.of ar) ?_;have up:=ao (o:=.tup [u,v]) hp;generalize upd H4 p (.tup [u,v])=H5 at up ⊢;have L5:=up _ _ L4;rfl';have lst:=aay bw;refine#[.inl #[Y,_,ai.of L5],bK (ai.of L5) lst (bK (ai.of L5) lst #[aX,λt1 kE=>?_])];have ut:=ao (o:=.tup [.int (bU cs i),.int (bU cs i)]) kE;refine#[.ref t1,u,(U (bU cs i),U (bU cs i)),aK ps i,Y,#[t1,Y,ar],ru.same (s4.trans (up.trans ut)),λr H6 s6 _ hr6=>?_];obtain⟨m,em,dk⟩:=VE TB hi (bL i (aeV _)) (jo (i+1) (by lia));have rv6:=aQ.same rv (up.trans (ut.trans s6));refine#[v,.ref r,_,_,_,_,Y,rv6,#[r,Y,hr6],λy H7 s7 hy=>?_];have cm:=Kv em;have Nm:aY (eh (cJ ss (i+1)).1 (gj (U (bU cs i),U (bU cs i)) (aK ps i)).1) (e9 (cJ ss (i+1)).2 (gj (U (bU cs i),U (bU cs i)) (aK ps i)).2)=false/\m=(eh (cJ ss (i+1)).1 (gj (U (bU cs i),U (bU cs i)) (aK ps i)).1,e9 (cJ ss (i+1)).2 (gj (U (bU cs i),U (bU cs i)) (aK ps i)).2):=by
   unfold jL at em;split at em
   .cases em
   .rename_i hc;cases em;exact#[by simpa using hc,Y]
  have Ac:=hy.2 Nm.1;refine#[y,m,Y,by rw[Nm.2];exact Ac,?_];have S7:=up.trans (ut.trans (s6.trans s7));have L7:=S7 _ _ L4;obtain⟨n1,n2,n3⟩:=dk _ (Nj cm);refine#[_,L7,by rw[aeO];exact afy (by lia:_<=1000) (by decide),cs++[mJ m],_,_,Y,jb fl (s4.trans S7),by rw[ar,af0];rfl,by rw[aI (afR lc)];exact S7 _ _ c4,qO.imp λ_ _ r=>aQ.put (aQ.same r S7) L7,by rw[ae1,afh];lia,λt ht=>?_,λk hk=>?_]
  .by_cases e:t=i+1
   .subst e;rw[Ni bw];exact n1
   .rw[Ad (by lia)];exact bL t (by lia)
  .by_cases e:k=i
   .subst e;rw[Ni bw,Ad (by lia)];exact#[n2,n3]
   .rw[Ad (by lia),Ad (by lia)];exact cQ k (by lia)
 .rintro J H4 ⟨cs,d1,d2,rfl,s4,L4,c4,qO,bw,bL,cQ⟩;rfl';rw[ahW,show min xs.length (zs.length-1)=ps.length by lia] at bw bL cQ;exact q l cs H4 s4 fl L4 bw cQ (meets_of TB ht bL)
def fh(H:Hp)(v:V):Option P2->Prop
 | none=>v = .non
 | some p=>dP H v p
theorem fh.same(h:fh H v o)(s:ah H H'):fh H' v o:=by
 cases o with
 | none=>exact h
 | some p=>exact dP.same h s
inductive aaA(vs:List V)(H:Hp)(Q:VK)(aO:XK):Prop
 | mk(v u:V)(a b:Option P2)(_:vs=[v,u])(_:fh H v a)(_:fh H u b)(_:∀ x,fh H x (lx a b)->(x=v∨x=u)->Q x H)
theorem Fe(T:aA):aP 1 T.D6 aaA:=by
 refine bb Ds ?_;rintro y y y y H y y y hr ⟨v,u,a,b,rfl,ha,hb,q⟩;refine#[_,(au (aH (PW.pt (bI (eO (aa 0)) (da (eO (aa 1))))) (aq (az (nD (eO (aa 0)) (aa 1) (aa 0)))) aG) (aq (az (cR (V1 Y (gJ hr)) (by rfl) T.Mp Io (ae (aa 0) (ae (aa 1) ag)))))),?_];rcases a with y|a<;>rcases b with y|b
 .obtain rfl:v = .non:=ha;obtain rfl:u = .non:=hb;rfl';exact q _ Y (.inl rfl)
 .obtain rfl:v = .non:=ha;obtain⟨r,rfl,cX⟩:=id hb;rfl';exact q _ hb (.inr rfl)
 .obtain rfl:u = .non:=hb;obtain⟨r,rfl,cX⟩:=id ha;rfl';exact q _ ha (.inl rfl)
 .obtain⟨r,rfl,cX⟩:=id ha;obtain⟨r2,rfl,qP⟩:=id hb;rfl';refine#[a,cX,b,qP,?_];by_cases hl:gM b a=true
  .rw[if_pos hl];exact q _ (by show dP H _ (gN a b);unfold gN;rw[if_pos hl];exact hb) (.inr rfl)
  .rw[if_neg hl];exact q _ (by show dP H _ (gN a b);unfold gN;rw[if_neg hl];exact ha) (.inl rfl)
inductive aaB(vs:List V)(H:Hp)(Q:VK)(aO:XK):Prop
 | mk(v:V)(a:Option P2)(b:Int)(_:vs=[v,.int b])(_:fh H v a)(_:∀ x H',ah H H'->fh H' x (sx a b)->Q x H')
theorem Nn(T:aA):aP 1 T.D7 aaB:=by
 refine bb Dt ?_;rintro y y y y y y y y y ⟨v,a,b,rfl,ha,q⟩;refine#[_,(aq (az (nD (eO (aa 0)) cj (aT (ae (aJ bV (ak (aa 0) af) (aa 1)) (ae (ak (aa 0) af) ag)))))),?_];rcases a with y|a
 .obtain rfl:v = .non:=ha;rfl';exact q _ _ (ah.refl _) rfl
 .obtain⟨r,rfl,cX⟩:=id ha;rfl';refine aE cX ?_;rfl';refine ay (aj.of cX) Y #[aX,λp hp=>q _ _ (ao hp) #[p,Y,ar]]
inductive aaC(vs:List V)(H:Hp)(Q:VK)(aO:XK):Prop
 | mk(a b:ae0)(xs ys:List V)(ps:List P2)(ms:List Mk)(_:vs=[.ref a,.ref b])(_:ai K H a xs)(_:iG H xs ps)(_:ai K H b ys)(_:ax (eo H) ys ms)(_:fL ps)(_:ps.length<=900)(_:ms.length<=1000)(_:(∀ m∈ms,m.1<=ps.length))(_:∀ l zs ts H',ah H H'->H l=O->H' l=U (.lst zs)->ax (fh H') zs ts->ts.length=ps.length+1->mF ps ms (fe ts)->Q (.ref l) H')
inductive qQ(P:Nat->(Nat->Option P2)->Prop)(H:Hp)(a b l:ae0)(n:Nat)(i:Nat)(J:St)(H1:Hp):Prop
 | mk(zs:List V)(ts:List (Option P2))(e1 e2 e3:Option V)(_:J=[U (.ref a),U (.ref b),U (.ref l),e1,e2,e3])(_:ah H H1)(_:H1 l=U (.lst zs))(_:ax (fh H1) zs ts)(_:ts.length=n+1)(_:P i (fe ts))
theorem fh.put(h:fh H v o)(hl:H l=U (.lst ys)):fh (upd H l (.lst zs)) v o:=by
 cases o with
 | none=>exact h
 | some p=>exact dP.put h hl
theorem ax.Np{α:Type}{R:V->α->Prop}{x:V}{a:α}(r:R x a):∀ {xs:List V} {as:List α} (j:Nat),ax R xs as->ax R (xs.set j x) (as.set j a)
 | [],[],_,_=>trivial
 | _::_,_::_,0,h=>#[r,h.2]
 | _::_,_::_,j+1,h=>#[h.1,ax.Np r j h.2]
 | [],_::_,_,h=>h.elim
 | _::_,[],_,h=>h.elim
theorem tM(h:ax (fh H) zs ts)(ht:t<ts.length):∃ v,dA zs (t:Int)=U v/\fh H v (fe ts t):=by obtain⟨v,hv,r⟩:=h.at (aeQ ht);refine#[v,fo hv,?_];unfold fe;rw[aeP,aeQ ht];exact r
theorem Ff(h:t<n):j5 n (t:Int)=U t:=by unfold j5;rw[if_pos (by lia),if_pos (by lia),afO]
theorem Fg{P:Nat->(Nat->Option P2)->Prop}{H:Hp}{a b l:ae0}{n i:Nat}{zs:List V}{ts:List (Option P2)}{H1:Hp}{v:V}{x:Option P2}{t:Nat}{d1 d2 d3:Option V}(eR:H l=O)(s:ah H H1)(hl:H1 l=U (.lst zs))(hz:ax (fh H1) zs ts)(hlen:ts.length=n+1)(hv:fh H1 v x)(ht:t<n+1)(hP:P i (lA (fe ts) t x)):qQ P H a b l n i [U (.ref a),U (.ref b),U (.ref l),d1,d2,d3] (upd H1 l (.lst (zs.set t v))) :=
 #[zs.set t v,ts.set t x,d1,d2,d3,Y,jb eR s,ar,(ax.Np hv t hz).imp λy y r=>r.put hl,by rw[ame];exact hlen,by rw[VF (by lia)];exact hP]
theorem aaD(n:Nat):nQ ((n:Int)-1) (-1) (-1)=n:=by unfold nQ afW;simp only[show ¬ ((-1:Int) > 0) by lia,if_false,show (- (-1:Int))=1 by lia,alS];split<;>lia
theorem aaE(T:aA):aP 2 T.D8 aaC:=by
 refine bb oj ?_;rintro z z z z H z Q z hr ⟨a,b,xs,ys,ps,ms,rfl,hS,hP,hT,hM,aB,hn,hm,ht,q⟩;refine#[_,(au (rM (i:=2) (cO [] []) Y oj.nd Y Y (jz Y T.gW (ae (aJ bV (c9 T.cW (ae (aa 0) ag)) af) ag)) (λC s2 H2 ex pn=>#[df,cj])) (au (dt afz Y (BR Y T.zT (ae (aa 1) ag)) (kO Y (eI (cS 3 oj.nd) (eI (cS 4 oj.nd) kN))) (aq (aH (gQ (ak (ak (aa 4) af) af)) (aq (A0 (aD (Fe T) hr (ae (ak (aa 2) (ak (aa 4) af)) (ae (aT (ae (ak (ak (aa 4) af) af) (ae (aa 3) ag))) ag))) (AZ (aa 2) (ak (aa 4) af) set_list))) aG))) (au (dt afz Y (jz Y T.gW (ae (c9 T.cW (ae (aa 0) ag)) ag)) (cS 5 oj.nd) (aq (A0 (aD (Fe T) hr (ae (ak (aa 2) (aJ bV (aa 5) af)) (ae (aD (Nn T) hr (ae (ak (aa 2) (aa 5)) (ae (ak (ak (aa 0) (aa 5)) af) ag))) ag))) (AZ (aa 2) (aJ bV (aa 5) af) set_list)))) (au (dt afz Y (TM Y T.gW (ae (aJ dG (c9 T.cW (ae (aa 0) ag)) af) (ae (jA jP af) (ae (jA jP af) ag)))) (cS 5 oj.nd) (aq (A0 (aD (Fe T) hr (ae (ak (aa 2) (aa 5)) (ae (aD (Nn T) hr (ae (ak (aa 2) (aJ bV (aa 5) af)) (ae (jA jP (ak (ak (aa 0) (aa 5)) af)) ag))) ag))) (AZ (aa 2) (aa 5) set_list)))) (aq (az (aa 2))))))),?_];have l1:=hP.len;have l2:=hM.len;refine aC (λJ H1=>∃ l,J=[U (.ref a),U (.ref b),U (.ref l),O,O,O]/\ah H H1/\H l=O/\H1 l=U (.lst (ag5 (ps.length+1) .non))) (λN hN=>?_) ?_
 .rfl';refine#[_,eX hS,by lia,by lia,?_];rw[l1,show ((ps.length:Int)+1).toNat=ps.length+1 by lia];refine cn k6 (by rw[aeO,ae9];exact aeT (by lia:_<=901) (by decide)) (yc (p:=λz=>true) (f:=λz=>.non) trivial (λx z Q h=>?_) (λx z z Q h=>?_) ?_)
  .rfl';exact h
  .rfl';exact h
  rw[ae6,filter_tt];intro l hl;refine hN _ _ #[l,Y,ao hl,hl,?_];rw[ar]
  congr 2
  refine ahK λk=>?_;rw[ae5,ae5,ahh];by_cases hk:k<ps.length+1
  .rw[af5 hk,if_pos hk];rfl
  .rw[agj (by rw[ae9];lia),if_neg hk];rfl
 rintro z yR J H1 ⟨l,rfl,s1,eR,gO⟩;subst yR;refine aC (qQ (T1 ps ms) H a b l ps.length ms.length) (λN hN=>?_) ?_
 .rfl';refine#[#[_,s1.seq hT],BW (xs:=ys) (qQ (T1 ps ms) H a b l ps.length) #[_,ag5 (ps.length+1) O,_,_,_,Y,s1,gO,?_,by rw[aiy],by rw[VG];exact T1.nil] ?_ ?_ ?_]
  .have:∀ k,ax (fh H1) (ag5 k .non) (ag5 k O):=λk=>by
    induction k with
    | zero=>exact trivial
    | succ k ih=>exact#[Y,ih]
   exact this _
  .rintro i J H2 z ⟨z,z,z,z,z,z,s2,z⟩;exact s2.seq hT
  .rintro i x J H2 p hx ⟨zs,ts,d1,d2,d3,rfl,s2,ba,hz,iT,kF⟩ hp;obtain⟨m,qR,tp,sp,rfl,h1,h2⟩:=hM.get hx;have mE:=ht m (ae8 qR);have up:=ao (o:=.tup [.int i,.ref tp]) hp;refine nO (aj.of ar) ?_;generalize upd H2 p (.tup [.int i,.ref tp])=H3 at up ⊢;have s3:=s2.trans up;have g1:=s3 _ _ h1;have g2:=s3 _ _ h2;have eS:=up _ _ ba;have eT:=hz.imp λz z r=>r.same up;obtain⟨mt,lo,hi⟩:=m;rfl';refine aE g1 (aE g2 ?_);cases hi with
   | none =>
    rfl';exact#[zs,ts,_,_,_,Y,s3,eS,eT,iT,kF.skip qR Y]
   | some h =>
    rfl';obtain⟨v,hv,rv⟩:=tM eT (t:=mt) (by dsimp only at mE;lia);refine ay (aj.of g1) Y (bK (ai.of eS) hv (aE g1 (aE g2 ?_)));rfl';refine#[aX,λt1 kE=>?_];have ut:=ao (o:=.tup [.int h,.int i]) kE;have S4:=s3.trans ut;refine#[v,.ref t1,_,U (h,(i:Int)),Y,rv.same ut,#[t1,Y,ar],λy hy z=>?_];refine aE (ut _ _ g1) ?_;exact#[zs,_,Y,ut _ _ eS,mt,Ff (by rw[hz.len,iT];dsimp only at mE;lia),Fg eR S4 (ut _ _ eS) (eT.imp λz z r=>r.same ut) iT hy (by dsimp only at mE;lia) (kF.put qR Y)]
  .rintro J H2 h;rw[l2] at h;exact hN _ _ h
 rintro z yR J H2 h2;subst yR;refine aC (qQ (T2 ps ms) H a b l ps.length ps.length) (λN hN=>?_) ?_
 .obtain⟨zs,ts,d1,d2,d3,rfl,s2,ba,hz,iT,kF⟩:=h2;rfl';refine#[_,eX (s2.seq hS),?_];rw[l1];refine#[by lia,by lia,?_];rw[afO];refine xW (qQ (T2 ps ms) H a b l ps.length) #[zs,ts,d1,d2,d3,Y,s2,ba,hz,iT,kF.two] ?_ (λJ H3 h=>hN _ _ h);rintro i J H3 hi ⟨zs,ts,d1,d2,d3,rfl,s3,eS,eT,iT,hT2⟩;have zl:=eT.len;obtain⟨v,hv,rv⟩:=tM eT (t:=i+1) (by lia);obtain⟨u,hu,ru⟩:=tM eT (t:=i) (by lia);obtain⟨w,hw,tw,rfl,Fh⟩:=hP.at (Fc hi);rfl';rw[show (0:Int)+(i:Int)=((i:Nat):Int) by lia,show ((i:Nat):Int)+1=((i+1:Nat):Int) by lia];refine bK (ai.of eS) hv (bK (ai.of eS) hu (bK (s3.seq hS) (fo hw) (aE (s3 _ _ Fh) ?_)));refine#[u,_,_,Y,ru,λy H4 s4 hy=>?_];refine#[v,y,_,_,Y,rv.same s4,hy,λz wB z=>?_];exact#[zs,s4 _ _ eS,i+1,Ff (by lia),Fg eR (s3.trans s4) (s4 _ _ eS) (eT.imp λz z r=>r.same s4) iT wB (by lia) (hT2.step aB ht hi)]
 rintro z yR J H3 h3;subst yR;refine aC (qQ (λi=>T3 ps ms (ps.length-i)) H a b l ps.length ps.length) (λN hN=>?_) ?_
 .obtain⟨zs,ts,d1,d2,d3,rfl,s2,ba,hz,iT,kF⟩:=h3;rfl';refine#[_,eX (s2.seq hS),?_];rw[l1,aaD];refine#[by lia,by lia,TR (qQ (λi=>T3 ps ms (ps.length-i)) H a b l ps.length) #[zs,ts,d1,d2,d3,Y,s2,ba,hz,iT,kF.three] ?_ (λJ H3 h=>hN _ _ h)];rintro i J H3 hi ⟨zs,ts,d1,d2,d3,rfl,s3,eS,eT,iT,Ae⟩;have zl:=eT.len;obtain⟨j,hj⟩:∃ j,ps.length=j+1+i:=#[ps.length-1-i,by lia]
  obtain⟨v,hv,rv⟩:=tM eT (t:=j+1) (by lia);obtain⟨u,hu,ru⟩:=tM eT (t:=j) (by lia);obtain⟨w,hw,tw,rfl,Fh⟩:=hP.at (Fc (ps:=ps) (i:=j) (by lia));rfl';rw[show (ps.length:Int)-1+(i:Int) * -1=((j:Nat):Int) by lia,show ((j:Nat):Int)+1=((j+1:Nat):Int) by lia];refine bK (ai.of eS) hu (bK (ai.of eS) hv (bK (s3.seq hS) (fo hw) (aE (s3 _ _ Fh) ?_)));rfl';refine#[v,_,_,Y,rv,λy H4 s4 hy=>?_];refine#[u,y,_,_,Y,ru.same s4,hy,λz wB z=>?_];refine#[zs,s4 _ _ eS,j,Ff (by lia),Fg eR (s3.trans s4) (s4 _ _ eS) (eT.imp λz z r=>r.same s4) iT wB (by lia) ?_];show T3 ps ms (ps.length-(i+1)) _;rw[show ps.length-(i+1)=j by lia];have Ae:T3 ps ms (ps.length-i) (fe ts):=Ae;rw[show ps.length-i=j+1 by lia] at Ae;exact Ae.step aB ht (by lia)
 rintro z yR J H4 ⟨zs,ts,d1,d2,d3,rfl,s4,E8,qO,iT,kD⟩;subst yR;rw[akB] at kD;rfl';exact q l zs ts H4 s4 eR E8 qO iT kD.tops
inductive aaF(vs:List V)(H:Hp)(Q:VK)(aO:XK):Prop
 | mk(a b:ae0)(zs ys:List V)(ts:List (Option P2))(ms:List Mk)(_:vs=[.ref a,.ref b])(_:ai K H a zs)(_:ax (fh H) zs ts)(_:ai K H b ys)(_:ax (eo H) ys ms)(_:(∀ m∈ms,m.1<ts.length))(_:(vc ms (fe ts)->∀ H',ah H H'->Q .non H'))(_:(∀ (j:Nat) m l v k,ms[j]?=U m->m.2.1=U l->fe ts m.1=U (v,k)->v<l->∀ p H',ah H H'->H p=O->H' p=U (.tup [.int k,.int j])->Q (.ref p) H'))
inductive aaG(H:Hp)(a b:ae0)(ts:List (Option P2))(ms:List Mk)(i:Nat)(J:St)(H1:Hp):Prop
 | mk(e1 e2 e3:Option V)(_:J=[U (.ref a),U (.ref b),e1,e2,e3])(_:ah H H1)(_:vc (ms.take i) (fe ts))
theorem aaH(T:aA):aP 1 T.D9 aaF:=by
 refine bb sY ?_;rintro _ _ _ _ H _ _ _ _ ⟨a,b,zs,ys,ts,ms,rfl,hA,hZ,hT,hM,ht,q0,q⟩;refine#[_,(au (dt afz Y (BR Y T.zT (ae (aa 1) ag)) (kO Y (eI (cS 2 sY.nd) (eI (cS 3 sY.nd) kN))) (au (aL 4 sY.nd (ak (aa 0) (ak (aa 3) af))) (aq (aH (PW.pt (jY (gQ (aa 4)) (jY (gQ (ak (ak (aa 3) af) af)) (kL (pX (ak (ak (aa 3) af) af) (ak (aa 4) af)))))) (aq (az (aT (ae (ak (aa 4) af) (ae (aa 2) ag))))) aG)))) (aq (az cj))),?_];have l1:=hZ.len;have l2:=hM.len;rfl';refine#[#[_,hT],BW (xs:=ys) (aaG H a b ts ms) #[_,_,_,Y,ah.refl _,λm h=>by simp at h] ?_ ?_ ?_]
 .rintro i J H2 _ ⟨_,_,_,_,s2,_⟩;exact s2.seq hT
 .rintro i x J H2 p hx ⟨d1,d2,d3,rfl,s2,ck⟩ hp;obtain⟨m,qR,tp,sp,rfl,h1,h2⟩:=hM.get hx;have mE:=ht m (ae8 qR);have up:=ao (o:=.tup [.int i,.ref tp]) hp;refine nO (aj.of ar) ?_;generalize upd H2 p (.tup [.int i,.ref tp])=H3 at up ⊢;have s3:=s2.trans up;have g1:=s3 _ _ h1;have g2:=s3 _ _ h2;have next:(∀ l v k,m.2.1=U l->fe ts m.1=U (v,k)->l<=v)->vc (ms.take (i+1)) (fe ts):=λhh n hn=>by
   rw[afZ,qR] at hn;rcases afq.mp hn with z|z
   .exact ck n z
   .obtain rfl:n=m:=by simpa using z
    exact hh
  obtain⟨v,hv,rv⟩:=tM hZ mE;obtain⟨mt,lo,hi⟩:=m;rfl';refine ay (aj.of g1) Y (bK (s3.seq hA) hv ?_);cases et:fe ts mt with
  | none =>
   rw[show fe ts (mt,lo,hi).1=O from et] at rv;obtain rfl:v = .non:=rv;rfl';exact#[_,_,_,Y,s3,next λl v k _ e=>by rw[show fe ts (mt,lo,hi).1=O from et] at e;cases e]
  | some q2 =>
   obtain⟨w,k⟩:=q2;rw[show fe ts (mt,lo,hi).1=U (w,k) from et] at rv;obtain⟨rt,rfl,hrt⟩:=rv;rfl';refine aE g1 (aE g2 ?_);cases lo with
   | none =>
    rfl';exact#[_,_,_,Y,s3,next λl v k e _=>by cases e]
   | some l =>
    rfl';refine aE g1 (aE g2 (aE (s3 _ _ hrt) ?_));rfl';refine a7 (λhc=>?_) λhc=>?_
    .exact ay (aj.of (s3 _ _ hrt)) Y #[aX,λr eQ=>q i _ l w k qR Y et hc r _ (s3.trans (ao eQ)) (s3.free eQ) ar]
    .exact#[_,_,_,Y,s3,next λl' v' k' e1 e2=>by
      cases e1;rw[show fe ts (mt,U l,hi).1=U (w,k) from et] at e2;cases e2;lia]
 .rintro J H2 ⟨d1,d2,d3,rfl,s2,ck⟩;rfl';rw[l2,afV] at ck;exact q0 ck _ s2
inductive cB(H:Hp)(v:V)(c:Cl):Prop
 | mk(t a b:ae0)(_:v = .ref t)(_:H t=U (.tup [.ref a,.ref b]))(_:H a=U (.tup [ev c.1.1,.int c.1.2]))(_:H b=U (.tup [ev c.2.1,.int c.2.2]))
theorem cB.same(h:cB H v r)(s:ah H H'):cB H' v r:=let ⟨t,a,b,e,h1,h2,h3⟩:=h;#[t,a,b,e,s _ _ h1,s _ _ h2,s _ _ h3]
theorem cB.put(h:cB H v r)(hl:H l=U (.lst ys)):cB (upd H l o) v r:=by
 obtain⟨t,a,b,e,h1,h2,h3⟩:=h;have nl:∀ (z:ae0) (vs:List V),H z=U (.tup vs)->z≠l:=λz vs e1 e2=>by rw[e2,hl] at e1;cases e1
 exact#[t,a,b,e,by rw[aI (nl _ _ h1)];exact h1,by rw[aI (nl _ _ h2)];exact h2,by rw[aI (nl _ _ h3)];exact h3]
theorem aaI(h:fh H v o)(hl:H l=U (.lst ys))(k:∀ b o,b≠l->H b=U o->H' b=U o):fh H' v o:=by
 cases o with
 | none=>exact h
 | some p =>
  obtain⟨t,e,a⟩:=h;exact#[t,e,k _ _ (λz=>by rw[z,hl] at a;cases a) a]
inductive tN(ps:List P2)(gs:List Gp)(i j:Nat)(H:Hp)(l:ae0):Prop
 | mk(zs:List V)(cs:List Cl)(_:H l=U (.lst zs))(_:ax (cB H) zs cs)(_:cs.length<=8 * i+j)(_:yS ps gs cs)(_:∀ i' j' g h,gs[i']?=U g->gs[j']?=U h->(i'<i∨(i'=i/\j'<j))->lC ps g h cs)
theorem tN.same(h:tN ps gs i j H l)(s:ah H H'):tN ps gs i j H' l:=let ⟨zs,cs,a,b,c1,c2,c3⟩:=h;#[zs,cs,s _ _ a,b.imp λy y x=>x.same s,c1,c2,c3]
inductive aaJ(vs:List V)(H:Hp)(Q:VK)(aO:XK):Prop
 | mk(a b:ae0)(xs ys:List V)(ps:List P2)(gs:List Gp)(_:vs=[.ref a,.ref b])(_:ai K H a xs)(_:iG H xs ps)(_:fL ps)(_:ps.length<=900)(_:ai K H b ys)(_:ax (tL H) ys gs)(_:gs.length<=8)(_:(∀ g∈gs,g.2.length<=1000/\∀ m∈g.2,m.1<=ps.length))(_:∀ l zs cs H',ah H H'->H l=O->H' l=U (.lst zs)->ax (cB H') zs cs->cs.length<=64->yS ps gs cs->(∀ g∈gs,∀ h∈gs,lC ps g h cs)->Q (.ref l) H')
inductive Nq(H:Hp)(a b l:ae0)(ps:List P2)(gs:List Gp)(i:Nat)(J:St)(H1:Hp):Prop
 | mk(e1 e2 e3 e4 e5 e6:Option V)(_:J=[U (.ref a),U (.ref b),U (.ref l),e1,e2,e3,e4,e5,e6])(_:ah H H1)(_:tN ps gs i 0 H1 l)
inductive clN(H H0:Hp)(a b l:ae0)(nm mk tp:V)(ps:List P2)(gs:List Gp)(i j:Nat)(J:St)(H1:Hp):Prop
 | mk(e4 e5 e6:Option V)(_:J=[U (.ref a),U (.ref b),U (.ref l),U nm,U mk,U tp,e4,e5,e6])(_:ah H H1)(_:(∀ b o,b≠l->H0 b=U o->H1 b=U o))(_:tN ps gs i j H1 l)
theorem aaK(T:aA):aP 3 T.Ed aaJ:=by
 refine bb lK ?_;rintro u u u u H u u u hr ⟨a,b,xs,ys,ps,gs,rfl,hS,hP,aB,hn,hG,hA,h7,hm,q⟩;refine#[_,(au (aL 2 lK.nd (dj ag)) (au (dt afz Y (cI (aa 1)) (kO Y (eI (cS 3 lK.nd) (eI (cS 4 lK.nd) kN))) (au (aL 5 lK.nd (aD (aaE T) hr (ae (aa 0) (ae (aa 4) ag)))) (aq (dt afz Y (cI (aa 1)) (kO Y (eI (cS 6 lK.nd) (eI (cS 7 lK.nd) kN))) (au (aL 8 lK.nd (aD (aaH T) hr (ae (aa 5) (ae (aa 7) ag)))) (aq (aH (gQ (aa 8)) (aq (fI (i7 afx afP afQ mh (aa 2) (ae (aT (ae (aT (ae (aa 3) (ae (ak (ak (aa 4) (ak (aa 8) af)) af) ag))) (ae (aT (ae (aa 6) (ae (ak (ak (aa 7) (ak (aa 8) af)) af) ag))) ag))) ag)))) aG))))))) (aq (az (aa 2))))),?_];have yl:=hA.len;refine aC (λJ H1=>∃ l,J=[U (.ref a),U (.ref b),U (.ref l),O,O,O,O,O,O]/\ah H H1/\H l=O/\H1 l=U (.lst [])) (λN hN=>?_) ?_
 .rfl';exact#[by decide,λl hl=>hN _ _ #[l,Y,ao hl,hl,ar]]
 rintro u yR J H1 ⟨l,rfl,s1,fl,hl⟩;subst yR;refine aC (λJ H2=>Nq H a b l ps gs ys.length J H2) (λN hN=>?_) ?_
 .rfl';refine#[#[_,s1.seq hG],ja (xs:=ys) (Nq H a b l ps gs) #[_,_,_,_,_,_,Y,s1,[],[],hl,trivial,afi _,λu h=>(nomatch h),λu u u u u u h=>by lia] ?_ ?_ (λJ H' h=>hN _ _ h)]
  .rintro i J H2 u ⟨u,u,u,u,u,u,u,s2,u⟩;exact s2.seq hG
  .rintro i x J H2 hx ⟨u,u,u,u,u,u,rfl,s2,h2⟩;obtain⟨r,hr,gg,k,zs,rfl,h3,h4,h5⟩:=hA.get hx;have Fi:=hm r (ae8 hr);refine nO (aj.of (s2 _ _ h3)) ?_;rfl';refine#[a,k,xs,zs,ps,r.2,Y,s2.seq hS,hP.same s2,ai.of (s2 _ _ h4),h5.imp λu u x=>x.same s2,aB,hn,Fi.1,Fi.2,λtp us ts H3 s3 Nr lR hts iT TT=>?_];have S3:=s2.trans s3;rfl';refine#[#[_,S3.seq hG],ja (xs:=ys) (clN H H3 a b l (ev r.1) (.ref k) (.ref tp) ps gs i) #[_,_,_,Y,S3,λu u u e=>e,h2.same s3] ?_ ?_ ?_]
   .rintro j J H4 u ⟨u,u,u,u,s4,u,u⟩;exact s4.seq hG
   .rintro j y J H4 hy ⟨u,u,u,rfl,s4,b4,ws,cs,h6,qS,h8,h9,tO⟩;obtain⟨r',Af,gg',k',zs',rfl,g3,g4,g5⟩:=hA.get hy;have Fj:=hm r' (ae8 Af);obtain⟨ls,u,hls,u⟩:=h2;have tpl:tp≠l:=λz=>by rw[z,hls] at Nr;cases Nr
    have ht4:=b4 _ _ tpl lR;have qO:=hts.imp λu u x=>aaI x (s3 _ _ hls) b4;have oN:∀ Ag:List Cl,(∀ i' j' g h,gs[i']?=U g->gs[j']?=U h->(i'<i∨(i'=i/\j'<j))->lC ps g h Ag)->lC ps r r' Ag->∀ i' j' g h,gs[i']?=U g->gs[j']?=U h->(i'<i∨(i'=i/\j'<j+1))->lC ps g h Ag:=λAg h11 h12 i' j' g h a1 a2 a3=>by
     by_cases hz:i'=i/\j'=j
     .obtain⟨rfl,rfl⟩:=hz;rw[hr] at a1;rw[Af] at a2;cases a1;cases a2;exact h12
     .exact h11 i' j' g h a1 a2 (by lia)
    refine nO (aj.of (s4 _ _ g3)) ?_;rfl';refine#[tp,k',us,zs',ts,r'.2,Y,ai.of ht4,qO,ai.of (s4 _ _ g4),g5.imp λu u x=>x.same s4,λm dk=>by have:=Fj.2 m dk;lia,λck H5 s5=>?_,λjj m lo v kk e1 e2 e3 e4 p H5 s5 fp hp=>?_]
    .rfl';exact#[_,_,_,Y,s4.trans s5,λb o hb e=>s5 _ _ (b4 b o hb e),tN.same #[ws,cs,h6,qS,by lia,h9,oN cs tO λm m1 n n1 hc=>absurd hc (WT TT Fi.2 Fj.2 ck m1 n1)] s5]
    .obtain⟨i',a',rfl,dB,hc⟩:=TT.clash (Fj.2 m (ae8 e1)) e3 e2 e4;have qN:=s5 _ _ h6;have S5:=s4.trans s5;obtain⟨v1,sE,t1,w1,rfl,m1,u⟩:=(h5.imp λu u x=>eo.same x S5).at dB;obtain⟨v2,sF,t2,w2,rfl,m2,u⟩:=(g5.imp λu u x=>eo.same x S5).at e1;rfl';refine#[.inl #[Y,_,ai.of qN],ay (aj.of hp) (v:=.int i') Y (bK (ai.of (S5 _ _ h4)) (fo sE) (ay (aj.of m1) (v:=.int a'.1) Y #[aX,λp1 cP=>?_]))];have u1:=ao (o:=.tup [ev r.1,.int a'.1]) cP;refine ay (aj.of (u1 _ _ hp)) (v:=.int jj) Y (bK (ai.of (u1 _ _ (S5 _ _ g4))) (fo sF) (ay (aj.of (u1 _ _ m2)) (v:=.int m.1) Y #[aX,λp2 dD=>#[aX,λp3 wA=>?_]]));have u2:=ao (o:=.tup [ev r'.1,.int m.1]) dD;have u3:=ao (o:=.tup [.ref p1,.ref p2]) wA;have U9q:=u1.trans (u2.trans u3);have lS:=U9q _ _ qN;have cq:cB (upd (upd (upd H5 p1 (.tup [ev r.1,.int a'.1])) p2 (.tup [ev r'.1,.int m.1])) p3 (.tup [.ref p1,.ref p2])) (.ref p3) ((r.1,a'.1),(r'.1,m.1)):=#[p3,p1,p2,Y,ar,u3 _ _ (u2 _ _ ar),u3 _ _ ar]
     have wl:ws.length<=100:=by have e8:=qS.len;have b1:=(aeW.mp hr).1;have b2:=(aeW.mp Af).1;lia
     refine#[ws,lS,afy wl (by decide),_,_,_,Y,jb fl (S5.trans U9q),λb o hb e=>by rw[aI hb];exact U9q _ _ (s5 _ _ (b4 b o hb e)),_,cs++[((r.1,a'.1),(r'.1,m.1))],ar,ax.app (qS.imp λu u x=>(x.same (s5.trans U9q)).put lS) #[cq.put lS,trivial],by rw[ae1,afh];lia,λc xr=>?_,oN _ (λi' j' g h a1 a2 a3=>(tO i' j' g h a1 a2 a3).more) λu u u u u=>#[_,afs _ (.head _),Y,Y]];rcases afq.mp xr with z|z
     .exact h9 c z
     .rw[afd.mp z];exact#[r,ae8 hr,r',ae8 Af,a',ae8 dB,m,ae8 e1,Y,hc]
   .rintro J H4 ⟨u,u,u,rfl,s4,u,ws,cs,h6,qS,h8,h9,tO⟩;exact#[_,_,_,_,_,_,Y,s4,ws,cs,h6,qS,by lia,h9,λi' j' g h a1 a2 a3=>tO i' j' g h a1 a2 (by have:=(aeW.mp a2).1;lia)]
 rintro u yR J H2 ⟨u,u,u,u,u,u,rfl,s2,ws,cs,h6,qS,h8,h9,tO⟩;subst yR;rfl';exact q l ws cs H2 s2 fl h6 qS (by lia) h9 λg hg h hh=>by obtain⟨i',dB⟩:=afF.mp hg;obtain⟨j',B3⟩:=afF.mp hh;exact tO i' j' g h dB B3 (.inl (by have:=(aeW.mp dB).1;lia))
theorem Nt(h:Q (!decide (o=U e))):neT (.int e) (ev o) Q:=by
 cases o with
 | none=>exact h
 | some x =>
  show if ¬ e=x then Q true else Q false
  by_cases z:e=x
  .subst z;rw[if_neg (λh=>h Y)];simpa using h
  .rw[if_pos z];have:(U x:En)≠U e:=λh=>z (Option.some.inj h).symm;simpa [this] using h
theorem Nu(h:Q (decide (o=o'))):eqT (ev o) (ev o') Q:=by
 cases o with
 | none=>cases o'<;>exact h
 | some x =>
  cases o' with
  | none=>exact h
  | some y =>
   show if x=y then Q true else Q false
   by_cases z:x=y
   .subst z;rw[if_pos Y];simpa using h
   .rw[if_neg z];have:(U x:En)≠U y:=λh=>z (Option.some.inj h);simpa [this] using h
inductive aaL(H:Hp)(v:V)(s:En × Nat):Prop
 | mk(r:ae0)(_:v = .ref r)(_:H r=U (.tup [ev s.1,.int s.2]))
theorem ax.ints(h:ax (λv (n:Int)=>v=V.int n) zs ns):zs=ns.map V.int:=by
 induction zs generalizing ns with
 | nil=>cases ns with|nil=>rfl|cons _ _=>exact h.elim
 | cons z zs ih=>cases ns with
  | nil=>exact h.elim
  | cons n ns=>rw[ae7,<- ih h.2,h.1]
theorem Fl:∀ {xs ys:List Int},xs.Nodup->(∀ x∈xs,x∈ys)->xs.length<=ys.length
 | [],_,_,_=>afi _
 | x::xs,ys,h,k=>by obtain⟨h1,h2⟩:=af8.mp h;have hx:=k x (.head _);have ih:=Fl (ys:=ys.erase x) h2 λy hy=>(akR (λz=>h1 (by rw[<- z];exact hy))).mpr (k y (.tail _ hy));rw[ajK hx] at ih;have:=aki hx;rw[afD];lia
inductive aaM(vs:List V)(H:Hp)(Q:VK)(aO:XK):Prop
 | mk(l:ae0)(e:Int)(zs:List V)(cs:List Cl)(_:vs=[.ref l,.int e])(_:H l=U (.lst zs))(_:ax (cB H) zs cs)(_:cs.length<=64)(_:∀ r ys H',ah H H'->H r=O->H' r=U (.lst ys)->ax (cB H') ys (wo e cs)->Q (.ref r) H')
theorem Nv(T:aA):aP 1 T.m5 aaM:=by
 refine bb Dx ?_;rintro y y y y H y Q y hr ⟨l,e,zs,cs,rfl,hl,hC,hn,q⟩;refine#[_,(aq (az (cU (cO [1] [gT]) Y (cI (aa 0)) (λC s2 H2 ex pn=>#[(jG (PW.pt (jY (gP (aa 1) (bW (K:=K) (bW (K:=K) (aa 0) af) af)) (kL (gP (aa 1) (bW (K:=K) (bW (K:=K) (aa 0) af) af)))))),(aa 0)])))),?_];have zl:=hC.len;rfl';refine#[#[_,ai.of hl],cn gK (aeT (by lia:zs.length<=64) (by decide)) (pJ (R:=cB H) (R':=cB H) (p:=λc=>!jf e c) (f:=λc=>c) (ai.of hl) hC (λx c r Q h=>?_) (λx c hp r Q h=>?_) λys hy=>?_)]
 .obtain⟨t,a,b,rfl,h1,h2,h3⟩:=r;rfl';refine ay (aj.of h1) (v:=.ref a) Y (ay (aj.of h2) (v:=ev c.1.1) Y (Nt ?_));unfold jf at h;by_cases z:c.1.1=U e
  .rw[decide_eq_true z] at h ⊢;exact h
  .rw[decide_eq_false z] at h ⊢;refine ay (aj.of h1) (v:=.ref b) Y (ay (aj.of h3) (v:=ev c.2.1) Y (Nt ?_));exact h
 .rfl';exact h _ r
 .rw[ae6];intro r hr;rw[akC] at hy;exact q r ys _ (ao hr) hr ar (hy.imp λy y x=>x.same (ao hr))
inductive aaN(vs:List V)(H:Hp)(Q:VK)(aO:XK):Prop
 | mk(v:V)(c:Cl)(_:vs=[v])(_:cB H v c)(_:∀ l (es:List Int) H',ah H H'->H l=O->H' l=U (.lst (es.map V.int))->(∀ e,e∈es↔jf e c=true)->es.length<=2->Q (.ref l) H')
theorem aaO(T:aA):aP 1 T.tu aaN:=by
 refine bb Dy ?_;rintro y y y s H y Q y hr ⟨v,c,rfl,⟨t,a,b,rfl,h1,h2,h3⟩,q⟩;refine#[_,(aq (az (Wy Y (cU (cO [] []) Y (oW (aa 0)) (λC s2 H2 ex pn=>#[(jG (gQ (bW (K:=K) (aa 0) af))),(bW (K:=K) (aa 0) af)])) (by rfl) T.Mr Ip (by rfl) T.Mq K5))),?_];rfl';refine#[#[_,aj.of h1],cn (xs:=[.ref a,.ref b]) rN aX (pJ (R:=aaL H) (R':=λv (n:Int)=>v=V.int n) (p:=λs=>s.1.isSome) (f:=λs=>s.1.getD 0) (as:=[c.1,c.2]) (aj.of h1) #[#[a,Y,h2],#[b,Y,h3],trivial] (λx s r Q h=>?_) (λx s hp r Q h=>?_) λzs hz=>?_)]
 .obtain⟨r,rfl,h4⟩:=r;rfl';refine ay (aj.of h4) (v:=ev s.1) Y ?_;cases hs:s.1 with
  | none=>rw[hs] at h;exact h
  | some x=>rw[hs] at h;exact h
 .obtain⟨r,rfl,h4⟩:=r;rfl';refine ay (aj.of h4) (v:=ev s.1) Y (h _ ?_);cases hs:s.1 with
  | none=>rw[hs] at hp;cases hp
  | some x=>rfl
 .rw[ae6];intro l hl;rw[ax.ints hz];have u1:=ao (o:=.lst ((([c.1,c.2].filter λs=>s.1.isSome).map λs=>s.1.getD 0).map V.int)) hl;have hn:(([c.1,c.2].filter λs=>s.1.isSome).map λs=>s.1.getD 0).length<=2:=by rw[aeO];exact afN _ _
  have hi:∀ e,e∈(([c.1,c.2].filter λs=>s.1.isSome).map λs=>s.1.getD 0)↔jf e c=true:=λe=>by
   rw[pS];constructor
   .intro h;obtain⟨s,hs,rfl⟩:=aeY.mp h;obtain⟨m1,m2⟩:=afr.mp hs;obtain⟨x,hx⟩:=ah3.mp m2;rw[hx];rcases ae2.mp m1 with rfl|m1
    .exact .inl hx
    .rw[afd.mp m1] at hx;exact .inr hx
   .rintro (h|h)
    .exact aeY.mpr #[c.1,afr.mpr #[.head _,by rw[h];rfl],by rw[h];rfl]
    .exact aeY.mpr #[c.2,afr.mpr #[.tail _ (.head _),by rw[h];rfl],by rw[h];rfl]
  refine#[l,Y,_,ai.of ar,by lia,λws nd mem y r hr=>?_];exact q r ws _ (u1.trans (ao hr)) (u1.free hr) ar (λe=>(mem e).trans (hi e)) (aeT (Fl nd λx hx=>(mem x).mp hx) hn)
inductive Nw(N:Nat)(vs:List V)(H:Hp)(Q:VK)(aO:XK):Prop
 | mk(l:ae0)(zs:List V)(cs:List Cl)(n:Nat)(_:vs=[.ref l,.int n])(_:n<N)(_:n<=7)(_:H l=U (.lst zs))(_:ax (cB H) zs cs)(_:cs.length<=64)(_:(∀ H',ah H H'->i4 (n+1) cs->Q .non H'))(_:∀ r (es:List Int) H',ah H H'->H r=O->H' r=U (.lst (es.map V.int))->vx es cs->es.length<=n->Q (.ref r) H')
inductive cV(H:Hp)(l:ae0)(n:Nat)(cs:List Cl)(es:List Int)(i:Nat)(J:St)(H1:Hp):Prop
 | mk(e1 e2:Option V)(_:J=[U (.ref l),U (.int ((n+1:Nat):Int)),e1,e2])(_:ah H H1)(_:∀ e∈es.take i,i4 (n+1) (wo e cs))
theorem aaP(T:aA):∀ N,aP (N+2) T.m6 (Nw N):=by
 intro N
 induction N with
 | zero =>
  refine okN T.m6.F sZ.1 (λvs H Q E h=>?_) (λbf A outer s H vs Q E hr h=>?_)
  .obtain⟨l,zs,cs,n,rfl,hN,y⟩:=h;exact absurd hN (agd _)
  .obtain⟨l,zs,cs,n,rfl,hN,y⟩:=h;exact absurd hN (agd _)
 | succ N ih =>
  refine okN T.m6.F sZ.1 (λvs H Q E h=>?_) (λbf A outer s H vs Q E hr h=>?_)
  .obtain⟨l,zs,cs,n,rfl,y⟩:=h;rfl
  .obtain⟨l,zs,cs,n,rfl,hN,n7,hl,hC,hn,q0,q⟩:=h;refine#[_,(au (aH (bp (c9 T.cW (ae (aa 0) ag)) af) (aq (az (dj ag))) aG) (au (aH (bp (aa 1) af) (aq (az cj)) aG) (au (dt afz Y (cI (dw (aaO T) (hr.mono (by lia)) Y T.tu.m T.tu.F.kp T.tu.b .nil bS (ae (bG bH (aa 0) af (λy y=>rfl)) ag))) (iD (i:=2) sZ.nd Y (aiz Y)) (au (jZ (i:=3) sZ.nd Y (aiz Y) (dw ih (hr.mono (by lia)) Y T.m6.m T.m6.F.kp T.m6.b .nil bS (ae (dw (Nv T) (hr.mono (by lia)) Y T.m5.m T.m5.F.kp T.m5.b .nil bS (ae (aa 0) (ae (aa 2) ag))) (ae (aJ dG (aa 1) af) ag)))) (aq (aH (gQ (aa 3)) (aq (az (aJ kT (dj (ae (aa 2) ag)) (aa 3)))) aG)))) (aq (az cj))))),?_];have zl:=hC.len;cases cs with
   | nil =>
    obtain rfl:zs=[]:=ahj.mp zl;rfl';refine#[_,eX (ai.of hl),?_];rfl';exact#[by decide,λr hr=>q r [] _ (ao hr) hr ar (λc hc=>(nomatch hc)) (afi _)]
   | cons c cs =>
    obtain⟨z,zs,rfl⟩:∃ z z',zs=z::z':=by cases zs with|nil=>cases zl|cons z zs=>exact⟨z,zs,rfl⟩
    cases n with
    | zero =>
     rfl';refine#[_,eX (ai.of hl),?_];refine a7 (λh0=>absurd h0 (by rw[afD];lia)) λy=>?_;rfl';exact q0 _ (ah.refl _) λy y=>trivial
    | succ n =>
     rfl';refine#[_,eX (ai.of hl),?_];refine a7 (λh0=>absurd h0 (by rw[afD];lia)) λy=>a7 (λh0=>absurd h0 (by lia)) λy=>?_;refine bK (ai.of hl) (v:=z) (show dA (z::zs) ((0:Nat):Int)=U z from fo Y) #[z,c,Y,hC.1,λk es H1 s1 y hk hes Jk=>?_];rfl';refine#[#[_,ai.of hk],ja (xs:=es.map V.int) (cV H1 l n (c::cs) es) #[_,_,Y,ah.refl _,λy h=>(nomatch h)] ?_ ?_ ?_]
     .rintro i J H2 y ⟨y,y,rfl,s2,y⟩;exact ai.of (s2 _ _ hk)
     .rintro i x J H2 hx ⟨e1,e2,rfl,s2,ck⟩;rw[ae5] at hx;obtain⟨e,he,rfl⟩:=afv.mp hx;have S2:=s1.trans s2;rfl';refine#[l,e,_,c::cs,Y,S2 _ _ hl,hC.imp λy y x=>x.same S2,hn,λr ys H3 s3 y hr hy=>?_];refine#[r,ys,wo e (c::cs),n,by rw[show (((n+1:Nat):Int)-1)=(n:Int) by lia],by lia,by lia,hr,hy,aeT (afN _ _) hn,λH4 s4 h4=>?_,λr2 es2 H4 s4 f4 qP Fo hle=>?_]
      .rfl';refine#[_,_,Y,s2.trans (s3.trans s4),λe' sk=>?_];rw[afZ,he] at sk;rcases afq.mp sk with z|z
       .exact ck e' z
       .obtain rfl:e'=e:=by simpa using z
        exact h4
      .rfl';refine#[by decide,λp hp=>#[_,ar,_,(ao hp) _ _ qP,aeT (by rw[aeO,afh];lia:_<=20) (by decide),λp1 cP=>?_]];have W:=s1.trans (s2.trans (s3.trans (s4.trans (ao (o:=.lst [.int e]) hp))));exact q p1 (e::es2) _ (W.trans (ao cP)) (W.free cP) ar (WY Fo) (by rw[afD];lia)
     .rintro J H2 ⟨e1,e2,rfl,s2,ck⟩;rfl';refine q0 _ (s1.trans s2) λe he=>ck e ?_;rw[aeO,afV];exact (hes e).mpr he
def gX(H:Hp):V->Pp->Prop
 | v,.nil=>v = .non
 | v,.full=>∃ r,v = .ref r/\H r=U (.tup [.str "full"])
 | v,.cls c a b=>∃ r p q x y,v = .ref r/\H r=U (.tup [.str "clash",.ref p,.ref q,x,y])/\H p=U (.tup [ev c.1.1,.int c.1.2])/\H q=U (.tup [ev c.2.1,.int c.2.2])/\gX H x a/\gX H y b
theorem gX.same(s:ah H H'):∀ {t:Pp} {v:V},gX H v t->gX H' v t:=by
 intro t
 induction t with
 | nil=>exact λh=>h
 | full=>rintro z ⟨r,e,h⟩;exact#[r,e,s _ _ h]
 | cls _ _ _ i1 i2=>rintro z ⟨r,p,q,x,y,e,h1,h2,h3,h4,h5⟩;exact#[r,p,q,x,y,e,s _ _ h1,s _ _ h2,s _ _ h3,i1 h4,i2 h5]
noncomputable def wC(n:Nat)(cs:List Cl)(o:En):Pp:=match o with|none=>.nil|some e=>nY n (wo e cs)
theorem Nx(n:Nat)(c:Cl)(cs:List Cl):nY (n+1) (c::cs) = .cls c (wC n (c::cs) c.1.1) (if c.1.1=c.2.1 then .nil else wC n (c::cs) c.2.1):=rfl
inductive Fp(N:Nat)(vs:List V)(H:Hp)(Q:VK)(aO:XK):Prop
 | mk(l:ae0)(m:Int)(zs:List V)(cs:List Cl)(n:Nat)(_:vs=[.ref l,.int m])(_:m+1=(n:Int))(_:n<N)(_:H l=U (.lst zs))(_:ax (cB H) zs cs)(_:cs.length<=64)(_:i4 n cs)(_:∀ v H',ah H H'->gX H' v (nY n cs)->Q v H')
inductive aaQ(N:Nat)(vs:List V)(H:Hp)(Q:VK)(aO:XK):Prop
 | mk(l:ae0)(m:Int)(o:En)(zs:List V)(cs:List Cl)(n:Nat)(_:vs=[.ref l,ev o,.int m])(_:m=(n:Int))(_:n<N)(_:H l=U (.lst zs))(_:ax (cB H) zs cs)(_:cs.length<=64)(_:(∀ e,o=U e->i4 n (wo e cs)))(_:∀ v H',ah H H'->gX H' v (wC n cs o)->Q v H')
theorem Ny(T:aA)(N:Nat)(ih:aP (2 * N+1) T.lO (Fp N)):aP (2 * N+2) T.lN (aaQ N):=by
 refine okN T.lN.F Dz.1 (λvs H Q E h=>?_) (λbf A outer s H vs Q E hr h=>?_)
 .obtain⟨l,m,o,zs,cs,n,rfl,y⟩:=h;rfl
 .obtain⟨l,m,o,zs,cs,n,rfl,hm,hN,hl,hC,hn,ck,q⟩:=h;refine#[_,(aq (az (nD (eO (aa 1)) cj (dw ih (hr.mono (by lia)) Y T.lO.m T.lO.F.kp T.lO.b .nil bS (ae (dw (Nv T) (hr.mono (by lia)) Y T.m5.m T.m5.F.kp T.m5.b .nil bS (ae (aa 0) (ae (aa 1) ag))) (ae (aJ dG (aa 2) af) ag)))))),?_];cases o with
  | none =>
   rfl';exact q _ _ (ah.refl _) rfl
  | some e =>
   rfl';refine#[l,e,zs,cs,Y,hl,hC,hn,λr ys H1 s1 y cX hy=>?_];exact#[r,_,ys,wo e cs,n,Y,by lia,hN,cX,hy,aeT (afN _ _) hn,ck e Y,λv H2 s2 h2=>q v H2 (s1.trans s2) h2]
theorem aaR(T:aA):∀ N,aP (2 * N+1) T.lO (Fp N):=by
 intro N
 induction N with
 | zero =>
  refine okN T.lO.F oq.1 (λvs H Q E h=>?_) (λbf A outer s H vs Q E hr h=>?_)
  .obtain⟨l,m,zs,cs,n,rfl,hm,hN,y⟩:=h;exact absurd hN (agd _)
  .obtain⟨l,m,zs,cs,n,rfl,hm,hN,y⟩:=h;exact absurd hN (agd _)
 | succ N ih =>
  refine okN T.lO.F oq.1 (λvs H Q E h=>?_) (λbf A outer s H vs Q E hr h=>?_)
  .obtain⟨l,m,zs,cs,n,rfl,y⟩:=h;rfl
  .obtain⟨l,m,zs,cs,n,rfl,hm,hN,hl,hC,hn,ck,q⟩:=h;refine#[_,(au (aH (lH (aa 1) af) (aq (az (aT (ae aU ag)))) aG) (au (jZ (i:=2) oq.nd Y (aiz Y) (bG bH (bG bH (aa 0) af (λy y=>rfl)) af (λy y=>rfl))) (au (jZ (i:=3) oq.nd Y (aiz Y) (bG bH (bG bH (aa 0) af (λy y=>rfl)) af (λy y=>rfl))) (au (jZ (i:=4) oq.nd Y (aiz Y) (dw (Ny T N ih) (hr.mono (by lia)) Y T.lN.m T.lN.F.kp T.lN.b .nil bS (ae (aa 0) (ae (bG bH (aa 2) af (λy y=>rfl)) (ae (aa 1) ag))))) (au (jZ (i:=5) oq.nd Y (aiz Y) (nD (bp (bG bH (aa 2) af (λy y=>rfl)) (bG bH (aa 3) af (λy y=>rfl))) cj (dw (Ny T N ih) (hr.mono (by lia)) Y T.lN.m T.lN.F.kp T.lN.b .nil bS (ae (aa 0) (ae (bG bH (aa 3) af (λy y=>rfl)) (ae (aa 1) ag)))))) (aq (az (aT (ae aU (ae (aa 2) (ae (aa 3) (ae (aa 4) (ae (aa 5) ag))))))))))))),?_];have zl:=hC.len;cases n with
   | zero =>
    rfl';refine a7 (λy=>?_) λh0=>absurd (show m<0 by lia) h0;exact#[by decide,λr hr=>q _ _ (ao hr) #[r,Y,ar]]
   | succ n =>
    cases cs with
    | nil=>exact ck.elim
    | cons c cs =>
     obtain⟨z,zs,rfl⟩:∃ z z',zs=z::z':=by cases zs with|nil=>cases zl|cons z zs=>exact⟨z,zs,rfl⟩
     obtain⟨t,a,b,rfl,ht,ha,hb⟩:=id hC.1;have z0:dA (V.ref t::zs) ((0:Nat):Int)=U (.ref t):=fo rfl;rfl';refine a7 (λh0=>absurd h0 (by lia)) λy=>?_;refine bK (ai.of hl) z0 (ay (aj.of ht) (v:=.ref a) Y ?_);refine bK (ai.of hl) z0 (ay (aj.of ht) (v:=.ref b) Y (ay (aj.of ha) (v:=ev c.1.1) Y ?_));refine#[l,m,c.1.1,_,c::cs,n,Y,by lia,by lia,hl,hC,hn,λe he=>ck e (pS.mpr (.inl he)),λv1 H1 s1 h1=>?_];refine ay (aj.of (s1 _ _ ha)) (v:=ev c.1.1) Y (ay (aj.of (s1 _ _ hb)) (v:=ev c.2.1) Y (Nu ?_));rw[Nx] at q;by_cases he:c.1.1=c.2.1
     .rw[decide_eq_true he];rw[if_pos he] at q;refine#[by decide,λp hp=>?_];have u1:=ao (o:=.tup [.str "clash",.ref a,.ref b,v1,.non]) hp;have U9q:=s1.trans u1;exact q _ _ U9q #[p,a,b,v1,_,Y,ar,U9q _ _ ha,U9q _ _ hb,h1.same u1,Y]
     .rw[decide_eq_false he];rw[if_neg he] at q;refine ay (aj.of (s1 _ _ hb)) (v:=ev c.2.1) Y #[l,m,c.2.1,_,c::cs,n,Y,by lia,by lia,s1 _ _ hl,hC.imp λy y x=>x.same s1,hn,λe he=>ck e (pS.mpr (.inr he)),λv2 H2 s2 h2=>#[by decide,λp hp=>?_]];have u1:=ao (o:=.tup [.str "clash",.ref a,.ref b,v1,v2]) hp;have U9q:=s1.trans (s2.trans u1);exact q _ _ U9q #[p,a,b,v1,v2,Y,ar,U9q _ _ ha,U9q _ _ hb,h1.same (s2.trans u1),h2.same u1]
theorem aaS(T:aA):aP 10 T.m6 (Nw 8):=aaP T 8
theorem aaT(T:aA):aP 19 T.lO (Fp 9):=aaR T 9
noncomputable def eU:Pp->Nat
 | .nil=>0
 | .full=>1
 | .cls _ a b=>(if eU a<=eU b then eU b else eU a)+1
theorem Nz:∀ (n:Nat) (cs:List Cl),eU (nY n cs)<=n+1
 | 0,_=>aeV _
 | n+1,[]=>aid _ _
 | n+1,c::cs=>by
  have one:∀ o,eU (wC n (c::cs) o)<=n+1:=λo=>by
   cases o with
   | none=>exact afi _
   | some e=>exact Nz n _
  have two:eU (if c.1.1=c.2.1 then .nil else wC n (c::cs) c.2.1)<=n+1:=by
   split
   .exact afi _
   .exact one _
  rw[Nx];show (if _<=_ then _ else _)+1<=n+1+1;have:=one c.1.1;split<;>lia
inductive Fs(G H:Hp)(v:V)(sw gw:List W2)(tb:Tb)(mo:Int):Prop
 | oN (r k:ae0) (j:Nat) (_:v = .ref r) (_:H r=U (.tup [.str "never",.ref k])) (_:H k=U (.tup [.str "step",.int (j:Int)])) (_:sw[j]?=U O)
 | gol (r k:ae0) (j:Nat) (_:v = .ref r) (_:H r=U (.tup [.str "never",.ref k])) (_:H k=U (.tup [.str "at",.int (j:Int)])) (_:gw[j]?=U O)
 | pap (r:ae0) (k:V) (t:Pp) (pp:List P2) (gs:List S2) (_:v = .ref r) (_:H r=U (.tup [.str "never",k])) (_:gX H k t) (_:eU t<=9) (_:sw=pp.map iO) (_:gw=gs.map U) (_:Val pp gs tb mo t [])
 | may (r k:ae0) (cs:List Int) (pp:List P2) (gs:List S2) (es:List Int) (_:v = .ref r) (_:H r=U (.tup [.str "may",.ref k])) (_:H k=U (.lst (cs.map V.int))) (_:G k=O) (_:cs.length=gw.length) (_:sw=pp.map iO) (_:gw=gs.map U) (_:jN pp (bU cs)) (_:∀ t s,gs[t]?=U s->b0 s (bU cs t)) (_:(es.length:Int)<=mo) (_:meets (fB tb es) (bU cs))
noncomputable def gY(gs:List S2):List Mk:=(afp gs.length).map λi=>(i,gs.getD i (O,O))
theorem NA{gs:List S2}{i:Nat}{m:Mk}(h:(gY gs)[i]?=U m):m.1=i/\gs[i]?=U m.2:=by
 unfold gY at h;rw[ae5] at h;obtain⟨k,hk,rfl⟩:=afv.mp h;have hi:i<gs.length:=by
  have:=(aeW.mp hk).1
  rwa [ae9] at this
 rw[af5 hi] at hk;cases hk;exact#[Y,by show gs[i]?=U (gs.getD i _);rw[aeP,aeQ hi];rfl]
theorem NB(h:m∈gY gs):m.1<gs.length/\gs[m.1]?=U m.2:=by obtain⟨i,hi⟩:=afF.mp h;obtain⟨e1,e2⟩:=NA hi;rw[<- e1] at e2;exact#[(aeW.mp e2).1,e2]
theorem Ah(gs:List S2):(gY gs).length=gs.length:=by unfold gY;rw[aeO,ae9]
theorem ax.Ai:∀ {xs:List V} {as:List α},xs.length=as.length->(∀ (i:Nat) x a,xs[i]?=U x->as[i]?=U a->R x a)->ax R xs as
 | [],[],_,_=>trivial
 | _::_,_::_,h,k=>#[k 0 _ _ Y Y,ax.Ai (by simpa using h) λi x a h1 h2=>k (i+1) x a h1 h2]
 | [],_::_,h,_=>by cases h
 | _::_,[],h,_=>by cases h
theorem getD_none{ws:List W2}{j:Nat}(h:j<ws.length)(e:ahL (ws.getD j O)=true):ws[j]?=U O:=by
 rw[aeP,aeQ h] at e;rw[aeQ h];cases hw:ws[j] with
 | none=>rfl
 | some s=>rw[hw] at e;cases e
inductive aaU(B C:ae0)(vs:List V)(H:Hp)(Q:VK)(E:XK):Prop
 | mk(x p b:ae0)(e t u d m:Int)(xs:List V)(ps:List Pa)(tb:Tb)(_:vs=[.ref x,.ref b])(_:dn B H x e t u d m p tb)(_:bZ e t tb)(_:tb.length<=60)(_:1<=t)(_:t<=12)(_:0<=e)(_:e<=7)(_:0<=m)(_:m<=7)(_:ai K H b xs)(_:dF H xs ps)(_:ps.length<=900)(_:(¬ cf t ps->E (.ref C) O H))(_:(cf t ps->∀ v H',ah H H'->Fs H H' v (dY u d ps (t-1).toNat) (fg ps t.toNat) tb m->Q v H'))
theorem Ft(T:aA):aP 20 T.x_ask (aaU T.aZ T.fD):=by
 refine jh ot ?_;rintro n n n s H vs n n hr ⟨x,p,b,e,t,u,d,m,xs,ps,tb,rfl,hb,aR,bC,t1,t2,e0,e7,m0,m7,hX,hP,hn,Q0,Q9⟩;refine#[_,(au (aL 2 ot.nd (ip (Z5 T) hr (ae (aa 0) (ae (aa 1) ag)))) (au (aL 3 ot.nd (ip (Z7 T) hr (ae (aa 0) (ae (aa 1) ag)))) (au (aH (l8 (Ly (gJ hr)) cj (aa 2) (by with_unfolding_all rfl)) (aq (az (aT (ae aU (ae (aT (ae aU (ae (i7 afx aic aj1 (Lz (gJ hr)) (aa 2) (ae cj ag)) ag))) ag))))) aG) (au (aH (l8 (Ly (gJ hr)) cj (aa 3) (by with_unfolding_all rfl)) (aq (az (aT (ae aU (ae (aT (ae aU (ae (i7 afx aic aj1 (Lz (gJ hr)) (aa 3) (ae cj ag)) ag))) ag))))) aG) (au (aL 4 ot.nd (Xm Y (by rfl) T.oJ (by rfl) T.zT (ae (aa 3) ag))) (au (aL 5 ot.nd (aD (aaK T) hr (ae (aa 2) (ae (aJ kT (dj (ae (aT (ae cj (ae (aa 4) ag))) ag)) (aD (aan T) hr (ae (aa 0) ag))) ag)))) (au (aL 6 ot.nd (aD (aaS T) hr (ae (aa 5) (ae (b6 Y (aa 0) Y) ag)))) (au (aH (eO (aa 6)) (aq (az (aT (ae aU (ae (aD (aaT T) hr (ae (aa 5) (ae (b6 Y (aa 0) Y) ag))) ag))))) aG) (aq (az (aT (ae aU (ae (aD (aaz T) hr (ae (aa 2) (ae (aJ kT (aa 4) (aD (aal T) hr (ae (aa 0) (ae (aa 6) ag)))) ag))) ag))))))))))))),?_];obtain⟨⟨dx,hx⟩,kvs,hkv,hTA⟩:=id hb;have Fu:jT T.aZ H x e t u d m p kvs:=#[#[dx,hx],hkv]
 by_cases hk:cf t ps
 case neg =>
  refine aC (λn n=>False) (λN hN=>?_) (λn n n n h=>h.elim);rfl';exact#[x,p,b,e,t,u,d,m,kvs,xs,ps,Y,Fu,t1,t2,hX,hP,hn,λn=>Q0 hk,λz=>absurd z hk]
 have Q1:=Q9 hk;refine aC (λJ H1=>∃ s ys,J=[U (.ref x),U (.ref b),U (.ref s),O,O,O,O]/\ah H H1/\H1 s=U (.lst ys)/\ax (iJ H1) ys (dY u d ps (t-1).toNat)) (λN hN=>?_) ?_
 .rfl';exact#[x,p,b,e,t,u,d,m,kvs,xs,ps,Y,Fu,t1,t2,hX,hP,hn,λz=>absurd hk z,λn l ys H1 s1 n hl hW=>hN _ _ #[l,ys,Y,s1,hl,hW]]
 rintro n yR J H1 ⟨s,ys,rfl,s1,hs,hW⟩;subst yR;refine aC (λJ H2=>∃ gl zs,J=[U (.ref x),U (.ref b),U (.ref s),U (.ref gl),O,O,O]/\ah H1 H2/\H2 gl=U (.lst zs)/\ax (iJ H2) zs (fg ps t.toNat)) (λN hN=>?_) ?_
 .rfl';exact#[x,p,b,e,t,u,d,m,kvs,xs,ps,Y,Fu.same s1,t1,t2,s1.seq hX,hP.same s1,hn,λz=>absurd hk z,λn l ys H2 s2 n hl hW=>hN _ _ #[l,ys,Y,s2,hl,hW]]
 rintro n yR J H2 ⟨gl,zs,rfl,s2,ku,hG⟩;subst yR;have Fx:=s1.trans s2;have dO:=s2 _ _ hs;have Fz:=hW.imp λn n r=>r.same s2;have wl:(dY u d ps (t-1).toNat).length=(t-1).toNat:=by unfold dY;rw[aeO,ae9]
 have gw:(fg ps t.toNat).length=t.toNat:=by unfold fg;rw[aeO,ae9]
 have yl:=hW.len;have zl:=hG.len;obtain⟨n1,n2,n3⟩:=CT Fz;obtain⟨k1,k2,k3⟩:=CT hG;refine aC (λJ H3=>J=[U (.ref x),U (.ref b),U (.ref s),U (.ref gl),O,O,O]/\H3=H2/\(dY u d ps (t-1).toNat).any ahL=false) (λN hN=>?_) ?_
 .rfl';refine#[s,ys,Y,Y,ai.of dO,n1,?_];rw[n2];cases hA:(dY u d ps (t-1).toNat).any ahL with
  | false =>
   rfl';exact hN _ _ #[Y,Y,hA]
  | true =>
   rfl';obtain⟨j,j1,j2,j3⟩:=CU (d:=V.non) (n2.trans hA);refine#[.inl #[Y,_,ai.of dO],s,ys,j,Y,Y,ai.of dO,n1,j1,by lia,j2,j3,aX,λk iz=>#[aX,λr hr=>?_]];have u1:=ao (o:=.tup [.str "step",.int (j:Int)]) iz;have u2:=ao (o:=.tup [.str "never",.ref k]) hr;rw[n3] at j2;exact Q1 _ _ (Fx.trans (u1.trans u2)) (.oN r k j Y ar (u2 _ _ ar) (getD_none (by lia) j2))
 rintro n yR J H3 ⟨rfl,rfl,hA⟩;subst yR;refine aC (λJ H4=>J=[U (.ref x),U (.ref b),U (.ref s),U (.ref gl),O,O,O]/\H4=H3/\(fg ps t.toNat).any ahL=false) (λN hN=>?_) ?_
 .rfl';refine#[gl,zs,Y,Y,ai.of ku,k1,?_];rw[k2];cases hB:(fg ps t.toNat).any ahL with
  | false =>
   rfl';exact hN _ _ #[Y,Y,hB]
  | true =>
   rfl';obtain⟨j,j1,j2,j3⟩:=CU (d:=V.non) (k2.trans hB);refine#[.inl #[Y,_,ai.of ku],gl,zs,j,Y,Y,ai.of ku,k1,j1,by lia,j2,j3,aX,λk iz=>#[aX,λr hr=>?_]];have u1:=ao (o:=.tup [.str "at",.int (j:Int)]) iz;have u2:=ao (o:=.tup [.str "never",.ref k]) hr;rw[k3] at j2;exact Q1 _ _ (Fx.trans (u1.trans u2)) (.gol r k j Y ar (u2 _ _ ar) (getD_none (by lia) j2))
 rintro n yR J H4 ⟨rfl,rfl,hB⟩;subst yR;obtain⟨pp,ep,aB⟩:=LB (f:=λ(k:Nat)=>gh (O,O) ((U (-d),U u)::sel ps "step" (k:Int))) (λk s h=>WS h) (afp (t-1).toNat) λk hk e=>LC hA _ (aeY.mpr #[k,hk,Y]) e;replace ep:dY u d ps (t-1).toNat=pp.map iO:=ep;obtain⟨gs,eg⟩:=all_some _ (LC hB);have ppl:pp.length=(t-1).toNat:=by rw[<- wl,ep,aeO]
 have gsl:gs.length=t.toNat:=by rw[<- gw,eg,aeO]
 rw[ep] at Fz;have NC:=LD Fz;have FA:=hG;rw[eg] at FA;have M1:∀ mm∈gY gs,mm.1<=pp.length:=λmm hm=>by have:=(NB hm).1;lia
 have M2:∀ r∈tb,r.1.2.toNat<=pp.length:=λr hr=>by have ho:=aR.2 r hr;unfold lh at ho;lia
 refine aC (λJ H5=>∃ k vs,J=[U (.ref x),U (.ref b),U (.ref s),U (.ref gl),U (.ref k),O,O]/\ah H4 H5/\H5 k=U (.lst vs)/\ax (eo H5) vs (gY gs)) (λN hN=>?_) ?_
 .rfl';refine#[zs,ai.of ku,λl vs H5 s5 n hl hvl hv=>hN _ _ #[l,vs,Y,s5,hl,ax.Ai (by rw[hvl,Ah,FA.len,aeO]) λi y mk e1 e2=>?_]];obtain⟨f1,f2⟩:=NA e2;obtain⟨z,hz,rz⟩:=FA.at (i:=i) (by rw[ae5,f2];rfl);obtain⟨p0,rfl,n,h5⟩:=hv i y z e1 hz;obtain⟨pz,rfl,hpz⟩:=rz;exact#[p0,pz,Y,by rw[h5,f1],s5 _ _ hpz]
 rintro n yR J H5 ⟨k,vs,rfl,s5,hkl,hM⟩;subst yR;have vl:=hM.len;rw[Ah] at vl;have S5:=Fx.trans s5;have vn:vs.length<=12:=by lia
 refine aC (λJ H6=>∃ c ws cs,J=[U (.ref x),U (.ref b),U (.ref s),U (.ref gl),U (.ref k),U (.ref c),O]/\ah H5 H6/\H6 c=U (.lst ws)/\ax (cB H6) ws cs/\cs.length<=64/\yS pp (lD (gY gs) e.toNat tb) cs/\∀ g∈lD (gY gs) e.toNat tb,∀ h∈lD (gY gs) e.toNat tb,lC pp g h cs) (λN hN=>?_) ?_
 .rfl';refine#[aX,λt0 ht0=>#[by decide,λl0 eR=>?_]];have u1:=ao (o:=.tup [.non,.ref k]) ht0;have u2:=ao (o:=.lst [.ref t0]) eR;have U9q:=u1.trans u2;refine#[x,p,e,t,u,d,m,tb,Y,hb.same (S5.trans U9q),aR.1,by lia,λr hr=>(aR.2 r hr).2.1,e0,e7,λl ws H6 s6 n hl ND=>?_];have NF:=ND.len;unfold vw at NF;rw[aeO,aeO,ae9] at NF;refine#[l,Y,[.ref t0],s6 _ _ ar,ws,hl,aeT (by show 1+ws.length<=30;lia) (by decide),λc hc=>?_];have u3:=ao (o:=.lst ([.ref t0]++ws)) hc;have S6:=s5.trans (U9q.trans (s6.trans u3));refine#[s,c,ys,.ref t0::ws,pp,lD (gY gs) e.toNat tb,Y,ai.of (S6 _ _ dO),NC.same S6,aB,by lia,ai.of ar,#[#[t0,k,vs,Y,(u2.trans (s6.trans u3)) _ _ ar,(U9q.trans (s6.trans u3)) _ _ hkl,hM.imp λn n r=>r.same (U9q.trans (s6.trans u3))],ND.imp λn n r=>r.same u3],?_,λg hg=>?_,λl7 ws7 cs7 H7 s7 n a1 a2 a3 a4 a5=>hN _ _ #[l7,ws7,cs7,Y,U9q.trans (s6.trans (u3.trans s7)),a1,a2,a3,a4,a5]]
  .unfold lD vw;rw[afD,aeO,aeO,ae9];lia
  .rcases ae2.mp hg with rfl|z
   .exact#[by show (gY gs).length<=1000;rw[Ah];lia,M1]
   .obtain⟨g1,pQ,rfl⟩:=aeY.mp z;obtain⟨i,n,rfl⟩:=aeY.mp pQ;refine#[aeT (by unfold cg;rw[aeO];exact aeT (afN _ _) (by rw[pI];exact aeV _)) (by lia:tb.length<=1000),λmm dk=>?_];obtain⟨r,hr,n,rfl⟩:=CV.mp dk;exact M2 r hr
 rintro n yR J H6 ⟨c,ws,cs,rfl,s6,hc,hC,bw,hsnd,uN⟩;subst yR;have S6:=S5.trans s6;refine aC (λJ H7=>∃ av,J=[U (.ref x),U (.ref b),U (.ref s),U (.ref gl),U (.ref k),U (.ref c),U av]/\ah H6 H7/\((av = .non/\i4 (m.toNat+1) cs) ∨ ∃ f es,av = .ref f/\H7 f=U (.lst (es.map V.int))/\vx es cs/\es.length<=m.toNat)) (λN hN=>?_) ?_
 .rfl';refine#[_,_,_,S6 _ _ hx,T.cM,T.v8,_,Y,?_];exact#[c,ws,cs,m.toNat,by rw[agG m0],by lia,by lia,hc,hC,bw,λH7 s7 h7=>hN _ _ #[_,Y,s7,.inl #[Y,h7]],λr es H7 s7 n hr h1 h2=>hN _ _ #[_,Y,s7,.inr #[r,es,Y,hr,h1,h2]]]
 rintro n yR J H7 ⟨av,rfl,s7,⟨rfl,ck⟩|⟨f,es,rfl,hf,hcov,hle⟩⟩<;>subst yR
 .have S7:=S6.trans s7;rfl';refine#[_,_,_,S7 _ _ hx,T.cM,T.v8,_,Y,?_];refine#[c,m,ws,cs,m.toNat+1,Y,by lia,by lia,s7 _ _ hc,hC.imp λn n r=>r.same s7,bw,ck,λv H8 s8 h8=>#[aX,λz hz=>?_]];have u1:=ao (o:=.tup [.str "never",v]) hz;exact Q1 _ _ (S7.trans (s8.trans u1)) (.pap z v _ pp gs Y ar (h8.same u1) (aeT (Nz _ _) (by lia)) ep eg (LG _ _ _ ck (by rw[ahA];lia) (snd_mk aR (λmm hm=>(NB hm).2) hsnd)))
 .have S7:=S6.trans s7;have M3:∀ mm∈gY gs++fB tb es,mm.1<=pp.length:=λmm hm=>by
   rcases afq.mp hm with z|z
   .exact M1 mm z
   .obtain⟨r,hr,n,rfl⟩:=CW.mp z;exact M2 r hr
  have aaV:=WZ aR aB M3 hcov uN;rfl';refine#[x,p,f,e,t,u,d,m,tb,es,Y,hb.same S7,aR.1,by lia,λr hr=>(aR.2 r hr).2.1,ai.of hf,by lia,λr rs H8 s8 hr tP=>#[r,Y,vs,(s6.trans (s7.trans s8)) _ _ hkl,rs,hr,?_,λk2 kr=>?_]]
  .replace tP:ax (eo H8) rs (fB tb es):=tP;have e1:=tP.len;have e2:(fB tb es).length<=tb.length:=by unfold fB;rw[aeO];exact aeT (afN _ _) (by rw[pI];exact aeV _)
   exact aeT (by lia:_<=100) (by decide)
  replace tP:ax (eo H8) rs (fB tb es):=tP;have u1:=ao (o:=.lst (vs++rs)) kr;have W:=s5.trans (s6.trans (s7.trans (s8.trans u1)));have X8:=S7.trans (s8.trans u1);have ml:(gY gs++fB tb es).length<=1000:=by
   rw[ae1,Ah];have e2:(fB tb es).length<=tb.length:=by unfold fB;rw[aeO];exact aeT (afN _ _) (by rw[pI];exact aeV _)
   lia
  refine#[s,k2,ys,vs++rs,pp,gY gs++fB tb es,Y,ai.of (W _ _ dO),NC.same W,ai.of ar,ax.app (hM.imp λn n r=>r.same (s6.trans (s7.trans (s8.trans u1)))) (tP.imp λn n r=>r.same u1),aB,by lia,ml,M3,λck=>absurd aaV ck,λl9 co H9 s9 f9 Aj wD dJ NG=>#[aX,λz hz=>?_]];have u9:=ao (o:=.tup [.str "may",.ref l9]) hz;refine Q1 _ _ (X8.trans (s9.trans u9)) (.may z l9 co pp gs es Y ar (u9 _ _ Aj) (X8.free f9) (by lia) ep eg dJ (λtt ss hh=>?_) (by lia) λmm hm=>NG mm (afs _ hm));refine NG (tt,ss) (agL _ (afF.mpr #[tt,?_]));have htt:=(aeW.mp hh).1;unfold gY;rw[ae5,af5 htt];show U (tt,gs.getD tt _)=_;rw[aeP,hh];rfl
theorem FC(f:P2->Int):∀ {n:Nat},i+n<=ps.length->((afp n).map λk=>f (aK ps (i+k))).sum=pre f ps (i+n)-pre f ps i
 | 0,_=>by simp
 | n+1,h=>by rw[amC,af0,ai4,FC f (by lia),show i+(n+1)=i+n+1 by lia,iK _ _ (by lia)];simp only[ae7,ahg,ajY,anl];lia
theorem NH{H:Hp}{ps:List P2}{i n:Nat}{f:P2->Int}{te:TE}{ρ:St}{Q:VK}(h9:n<=900)(he:∀ k:Nat,k<n->∀ Q:VK,Q (.int (f (aK ps (i+k)))) H->te (U (.int ((i:Int)+(k:Nat)))::ρ) H Q)
 (q:∀ l,H l=O->Q (.ref l) (upd H l (.lst (((afp n).map λk=>f (aK ps (i+k))).map V.int)))):nM (jy (i:Int) n) ρ Bw te H Q:=by
 refine cn k6 (by rw[aeO,ae9];exact aeT h9 (by decide)) (lg (R:=λx (k:Nat)=>x=V.int ((i:Int)+(k:Nat))) (as:=afp n) (p:=λy=>true) (f:=λk=>.int (f (aK ps (i+k)))) trivial ?_ (λy y y y Q h=>h) (λx k hk y r Q h=>?_) ?_)
 .exact ax.Ai (by rw[aeO]) λj x a h1 h2=>by rw[ae5,h2] at h1;cases h1;rfl
 .subst r;exact he k (af1.mp hk) Q h
 .rw[ae6,ahk.mpr λy y=>rfl];rw[afA] at q;exact q
inductive aaW(vs:List V)(H:Hp)(Q:VK)(aO:XK):Prop
 | mk(s:ae0)(zs:List V)(ps:List P2)(i j:Nat)(_:vs=[.ref s,.int i,.int j])(_:ai K H s zs)(_:iG H zs ps)(_:ps.length<=900)(_:i<=ps.length)(_:j<=ps.length)(_:∀ H',ah H H'->Q (.int (bT ps i j)) H')
theorem aaX(T:aA):aP 1 T.tE aaW:=by
 refine bb zN ?_;rintro y y y s H y Q y y ⟨s,zs,ps,i,j,rfl,hs,hP,h9,hi,hj,q⟩;refine#[_,(au (aL 3 zN.nd (cR (Jm Y) (by rfl) T.Ms Iq (ae (cU (cO [0] [ky]) Y (A5 Y T.gW (ae (aa 1) (ae (aa 2) ag))) (λC s2 H2 ex pn=>#[df,(bW (K:=K) (bW (K:=K) (aa 1) (aa 0)) af)])) ag))) (aq (az (aJ dG (aa 3) (cR (Jm Y) (by rfl) T.Ms Iq (ae (cU (cO [0] [ky]) Y (A5 Y T.gW (ae (aa 2) (ae (aa 1) ag))) (λC s2 H2 ex pn=>#[df,(bW (K:=K) (bW (K:=K) (aa 1) (aa 0)) af)])) ag)))))),?_];have hl:=hP.len;have row:∀ (H':Hp) (k:Nat),ah H H'->k<ps.length->∃ p,dA zs (k:Int)=U (.ref p)/\H' p=U (.tup [.int (aK ps k).1,.int (aK ps k).2]):=λH' k s' hk=>by obtain⟨v,hv,p,rfl,hp⟩:=hP.at (aeQ (l:=ps) (i:=k) hk);refine#[p,fo hv,?_];rw[show ps[k]=aK ps k by unfold aK;rw[aeP,aeQ hk];rfl] at hp;exact s' _ _ hp
 rfl';refine#[by lia,by lia,by lia,by lia,NH (ps:=ps) (f:=λp=>p.2) (by lia) (λk hk Q h=>?_) λl gO=>?_]
 .obtain⟨p,e,hp⟩:=row H (i+k) (ah.refl _) (by lia);rfl';exact bK hs (by rw[<- e];congr 1) (ay (aj.of hp) Y h)
 have u1:=ao (o:=.lst (((afp (((j:Int)-(i:Int)).toNat)).map λk=>(aK ps (i+k)).2).map V.int)) gO;refine#[l,Y,_,ai.of ar,by lia,by lia,by lia,by lia,NH (ps:=ps) (f:=λp=>p.1) (by lia) (λk hk Q h=>?_) λl2 ba=>?_]
 .obtain⟨p,e,hp⟩:=row _ (j+k) u1 (by lia);rfl';exact bK (u1.seq hs) (by rw[<- e];congr 1) (ay (aj.of hp) Y h)
 refine#[l2,Y,_,ai.of ar,?_];have fin:=q _ (u1.trans (ao (o:=.lst (((afp (((i:Int)-(j:Int)).toNat)).map λk=>(aK ps (j+k)).1).map V.int)) ba));have e:bT ps i j=((afp (((j:Int)-(i:Int)).toNat)).map λk=>(aK ps (i+k)).2).sum-((afp (((i:Int)-(j:Int)).toNat)).map λk=>(aK ps (j+k)).1).sum:=by
  unfold bT;by_cases jd:i<=j
  .rw[if_pos jd,show ((i:Int)-(j:Int)).toNat=0 by lia,FC (λp=>p.2) (by lia),show i+((j:Int)-(i:Int)).toNat=j by lia];simp
  .rw[if_neg jd,show ((j:Int)-(i:Int)).toNat=0 by lia,FC (λp=>p.1) (by lia),show j+((i:Int)-(j:Int)).toNat=i by lia];simp;lia
 rw[e] at fin;exact fin
inductive aaY(vs:List V)(H:Hp)(Q:VK)(aO:XK):Prop
 | mk(v:V)(w a b z:ae0)(e t u d mo:Int)(zs:List V)(gs:List S2)(tb:Tb)(as:List Int)(s:En × Nat)(m:Mk)(_:vs=[v,.ref b,.ref a,.ref z])(_:kC H v w e t u d mo tb)(_:(tb.map (·.1)).Nodup)(_:H a=U (.tup [ev s.1,.int (s.2:Int)]))(_:ai K H b zs)(_:ax (λv x=>aQ H v x.1 x.2) zs gs)(_:(∀ x∈gs,aY x.1 x.2=false))(_:H z=U (.lst (as.map V.int)))(_:ko gs tb as s m)(_:(∀ r∈tb,r.1.2.toNat<gs.length))(_:∀ v,aQ H v m.2.1 m.2.2->Q v H)
theorem NI(T:aA):aP 2 T.m9 aaY:=by
 refine bb DG ?_;rintro y y y y y y y y hr ⟨v,w,a,b,z,e,t,u,d,mo,zs,gs,tb,as,⟨o,k⟩,⟨k2,wd⟩,rfl,⟨r,rfl,hR,hT⟩,dR,ha,hb,hG,dJ,hz,⟨hk,hm⟩,a8,q⟩;refine#[_,(au (aH (PW.pt (bI (bJ (bO (cR i9 (by rfl) T.jk i8 (ae (aa 2) (ae (jv (v:=.ty "tuple") Y T.vY uH Y) ag))))) (da (gP (c9 T.cW (ae (aa 2) ag)) af)))) (aq (az cj)) aG) (au (aH (PW.pt (bI (bJ (bO (aD (qI T) hr (ae (ak (aa 2) af) ag)))) (bI (lH (ak (aa 2) af) af) (da (L6 (ak (aa 2) af) (c9 T.cW (ae (aa 1) ag))))))) (aq (az cj)) aG) (au (aH (eO (ak (aa 2) af)) (au (aH (bO (aD (EV T) hr (ae (ak (aa 1) (ak (aa 2) af)) ag))) (aq (az cj)) aG) (aq (az (ak (aa 1) (ak (aa 2) af))))) aG) (au (aH (PW.pt (bI (bJ (bO (aD (qI T) hr (ae (ak (aa 2) af) ag)))) (bI (l8 Rq (ak (aa 2) af) (aa 3) (by with_unfolding_all rfl)) (da (AY (Ux (gJ hr) (aa 2) (ak (aa 0) af))))))) (aq (az cj)) aG) (aq (az (uX (gJ hr) (ak (aa 0) af) (aa 2) (λy y=>rfl)))))))),?_];obtain rfl:k2=k:=hk;have ku:=hG.len;have jq:k2<zs.length:=by
  cases o with
  | none =>
   have:=(aeW.mp (show gs[k2]?=U wd from hm)).1;lia
  | some x =>
   have:=a8 _ hm.2;rw[afO] at this;lia
 rfl';refine uI ha ?_;rfl';refine#[_,nI (aj.of ha),?_];rfl';refine ay (aj.of ha) (v:=.int k2) Y #[_,Y,.inr #[_,Y],?_];simp only[isWhole];rfl';refine ay (aj.of ha) (v:=.int k2) Y ?_;rfl';refine a7 (λh0=>absurd h0 (by lia)) λy=>ay (aj.of ha) (v:=.int k2) Y #[_,eX hb,?_];rfl';refine a7 (λh0=>absurd h0 (by lia)) λy=>ay (aj.of ha) (v:=ev o) Y ?_;cases o with
 | none =>
  obtain⟨v,hv,pz,rfl,hp⟩:=hG.at (i:=k2) (a:=wd) hm;rfl';refine ay (aj.of ha) (v:=.int k2) Y (bK hb (fo hv) #[pz,wd.1,wd.2,Y,aj.of hp,?_]);rw[dJ wd (afF.mpr #[_,hm])];rfl';exact ay (aj.of ha) (v:=.int k2) Y (bK hb (fo hv) (q _ #[pz,Y,hp]))
 | some e =>
  rfl';refine ay (aj.of ha) (v:=.int e) Y #[_,Y,.inr #[_,Y],?_];simp only[isWhole];rfl';refine ay (aj.of ha) (v:=.int e) Y ?_;rfl';obtain⟨C8,bL⟩:e∉as/\((e,((k2:Nat):Int)),wd)∈tb:=hm;obtain⟨kvs,hkv,hA⟩:=id hT;obtain⟨vv,hvv,va,rfl,hva⟩:=(hA.val (e,((k2:Nat):Int))).2 _ (sr dR bL);refine#[z,_,Y,.inl (ai.of hz),Y,KQ as,#[_,Y,?_]];rw[CD];refine a7 (λh0=>absurd h0 (by simpa using C8)) λy=>?_;refine ay (aj.of hR) (v:=.ref w) Y ?_;rfl';refine#[_,fM.t (k:=dE e (k2:Int)) hkv ha,?_];rw[hvv];refine a7 (λh0=>nomatch h0) λy=>?_;refine ay (aj.of hR) (v:=.ref w) Y ?_;exact#[w,Y,.ref va,by rw[<- hvv];exact fM.t (k:=dE e (k2:Int)) hkv ha,q _ #[va,Y,hva]]
inductive aaZ(vs:List V)(H:Hp)(Q:VK)(aO:XK):Prop
 | mk(a b:ae0)(cs:List Int)(xs:List V)(ps:List Pa)(_:vs=[.ref a,.ref b])(_:ai K H a (cs.map V.int))(_:ai K H b xs)(_:dF H xs ps)(_:(∀ p∈ps,wt cs p.1 p.2.1))(_:Q (.bl (aM cs ps)) H)
inductive aa0(H:Hp)(a b:ae0)(cs:List Int)(ps:List Pa)(i:Nat)(J:St)(H1:Hp):Prop
 | mk(e1 e2:Option V)(_:J=[U (.ref a),U (.ref b),e1,e2])(_:H1=H)(_:aM cs (ps.take i)=true)
theorem aa1(h:p∈ps)(hf:hold p.2.2.1 p.2.2.2 (gi cs p.1 p.2.1)=false):aM cs ps=false:=by unfold aM;exact List.all_eq_false.mpr #[p,h,by rw[hf];simp]
theorem NJ{cs:List Int}{ps:List Pa}{p:Pa}{i:Nat}(h:ps[i]?=U p)(ht:aM cs (ps.take i)=true)(hf:hold p.2.2.1 p.2.2.2 (gi cs p.1 p.2.1)=true):aM cs (ps.take (i+1))=true:=by unfold aM at *;rw[afZ,h,amD,ht];simp[hf]
theorem NK(T:aA):aP 2 T.Er aaZ:=by
 refine bb tq ?_;rintro y y y y H y Q y hr ⟨a,b,cs,xs,ps,rfl,hS,hX,hP,hk,q⟩;refine#[_,(au (dt afz Y (cI (aa 1)) (cS 2 tq.nd) (au (aL 3 tq.nd (ak (aa 0) (ak (aa 2) af))) (au (aH (bp (ak (aa 2) af) aU) (aq (aL 3 tq.nd (aJ dG (ak (aa 0) (aJ bV (ak (aa 2) af) af)) (ak (aa 0) (ak (aa 2) af))))) aG) (aq (aH (bJ (bO (aD (z6 T) hr (ae (ak (aa 2) af) (ae (aa 3) ag))))) (aq (az cH)) aG))))) (aq (az cH))),?_];have hl:=hP.len;rfl';refine#[#[_,hX],ja (xs:=xs) (aa0 H a b cs ps) #[_,_,Y,Y,Y] ?_ ?_ ?_]
 .rintro i J H1 y ⟨y,y,y,rfl,y⟩;exact hX
 .rintro i x J H1 hx ⟨e1,e2,rfl,rfl,hm⟩;obtain⟨p,hp,tp,sp,rfl,h1,h2⟩:=hP.get hx;have ok1:=hk p (ae8 hp);obtain⟨o1,o2,o3⟩:=id ok1;rfl';refine ay (aj.of h1) (v:=.int p.2.1) Y (bK hS (int_at o1 o2) ?_);rfl';refine ay (aj.of h1) (v:=.str p.1) Y ?_;rfl';have fin:hold p.2.2.1 p.2.2.2 (gi cs p.1 p.2.1)=false->Q (V.bl false) H1:=λhf=>by rw[aa1 (ae8 hp) hf] at q;exact q
  by_cases hs:p.1 = "step"
  .rw[if_pos (by rw[hs])];have en:gi cs p.1 p.2.1=cs.getD (p.2.1+1).toNat 0-cs.getD p.2.1.toNat 0:=if_pos hs;refine ay (aj.of h1) (v:=.int p.2.1) Y ?_;rfl';refine bK hS (int_at (by lia) (o3 hs)) (ay (aj.of h1) (v:=.int p.2.1) Y (bK hS (int_at o1 o2) ?_));rfl';refine ay (aj.of h1) (v:=.ref sp) Y ?_;rw[<- en];refine#[sp,_,_,_,Y,aj.of h2,a7 (λhc=>fin hc) λhc=>#[_,_,Y,Y,NJ hp hm (by simpa using hc)]]
  .rw[if_neg hs];have en:gi cs p.1 p.2.1=cs.getD p.2.1.toNat 0:=if_neg hs;refine ay (aj.of h1) (v:=.ref sp) Y ?_;rw[<- en];refine#[sp,_,_,_,Y,aj.of h2,a7 (λhc=>fin hc) λhc=>#[_,_,Y,Y,NJ hp hm (by simpa using hc)]]
 .rintro J H1 ⟨e1,e2,rfl,rfl,hm⟩;rw[hl,afV] at hm;rw[hm] at q;rfl';exact q
inductive NL(vs:List V)(H:Hp)(Q:VK)(aO:XK):Prop
 | mk(v:V)(w c:ae0)(e t u d m:Int)(tb:Tb)(cs:List Int)(_:vs=[v,.ref c])(_:kC H v w e t u d m tb)(_:1<=t)(_:t<=12)(_:bZ e t tb)(_:tb.length<=60)(_:H c=U (.lst (cs.map V.int)))(_:cs.length=t.toNat)(_:(∀ k,k+1<cs.length->-d<=dU cs (k+1)-dU cs k/\dU cs (k+1)-dU cs k<=u))(_:(∀ zs:List Int,zs.Nodup->(∀ i,i∈zs↔E7 tb cs i)->(zs.length:Int)<=m))(_:∀ H',ah H H'->Q (.bl true) H')
inductive Ak(H:Hp)(v:V)(c:ae0)(_:Nat)(J:St)(H1:Hp):Prop
 | mk(e1:Option V)(_:J=[U v,U (.ref c),e1])(_:ah H H1)
theorem FD(T:aA):aP 3 T.Em NL:=by
 refine bb zM ?_;rintro y y y y H y Q y hr ⟨v,w,c,e,t,u,d,m,tb,cs,rfl,hW,t1,t2,aB,bC,hc,bw,cQ,nX,q⟩;refine#[_,(au (aH (PW.pt (bI (bJ (bO (cR i9 (by rfl) T.jk i8 (ae (aa 1) (ae (jv (v:=.ty "list") Y T.oJ nH Y) ag))))) (da (gP (c9 T.cW (ae (aa 1) ag)) (ak (aa 0) af))))) (aq (az cH)) aG) (au (aH (bJ (bO (cR (uQ Y) (by rfl) T.vX uG (ae (cU (cO [] []) Y (cI (aa 1)) (λC s2 H2 ex pn=>#[df,(aD (qI T) hr (ae (aa 0) ag))])) ag)))) (aq (az cH)) aG) (au (dt afz Y (jz Y T.gW (ae (aJ dG (ak (aa 0) af) af) ag)) (cS 2 zM.nd) (aq (aH (bJ (bO (aD (z6 T) hr (ae (aT (ae (aJ dG af (ak (aa 0) af)) (ae (ak (aa 0) af) ag))) (ae (aJ dG (ak (aa 1) (aJ bV (aa 2) af)) (ak (aa 1) (aa 2))) ag))))) (aq (az cH)) aG))) (aq (az (gI (lG gH) (aD (aaf T) hr (ae (aa 0) (ae (aa 1) ag))) (ak (aa 0) af) (d8 _))))))),?_];obtain⟨r,rfl,hR,hT⟩:=id hW;refine aC (Ak H (.ref r) c 0) (λN hN=>?_) ?_
 .rfl';refine xV hc ?_;rfl';refine#[_,eX (ai.of hc),ay (aj.of hR) (v:=.int t) Y ?_];rw[aeO,bw];rfl';rw[if_neg (λz=>z (by lia))];exact hN _ _ #[_,Y,ah.refl _]
 rintro y yR J H1 ⟨e1,rfl,s1⟩;subst yR;refine aC (Ak H (.ref r) c 0) (λN hN=>?_) ?_
 .rfl';refine#[#[_,ai.of (s1 _ _ hc)],cn gK (aeT (by rw[aeO];lia:(cs.map V.int).length<=100) (by decide)) (lg (R:=λx (n:Int)=>x=V.int n) (as:=cs) (p:=λy=>true) (f:=λy=>.bl true) (ai.of (s1 _ _ hc)) ?_ (λy y y y Q h=>h) (λx n y y r Q h=>?_) λl hl=>?_)]
  .exact ax.Ai (by rw[aeO]) λj x a h1 h2=>by rw[ae5,h2] at h1;cases h1;rfl
  .subst r;rfl';refine#[_,Y,.inr #[_,Y],?_];simp only[isWhole];exact h
  .rw[ae6,ahk.mpr λy y=>rfl];refine#[l,Y,cs.map λy=>true,ai.of (by rw[ar,afA];rfl),?_];rw[if_neg (by simp)];exact hN _ _ #[_,Y,s1.trans (ao hl)]
 rintro y yR J H2 ⟨e1,rfl,s2⟩;subst yR;refine aC (Ak H (.ref r) c 0) (λN hN=>?_) ?_
 .rfl';refine ay (aj.of (s2 _ _ hR)) (v:=.int t) Y ?_;rfl';refine#[by lia,by lia,xW (Ak H (.ref r) c) #[_,Y,s2] ?_ (λJ H3 ⟨e1,h1,h2⟩=>hN _ _ #[e1,h1,h2])];rintro i J H3 hi ⟨e1,rfl,s3⟩;rfl';refine ay (aj.of (s3 _ _ hR)) (v:=.int d) Y (ay (aj.of (s3 _ _ hR)) (v:=.int u) Y #[aX,λp hp=>?_]);have u4:=ao (o:=.tup [.int (0-d),.int u]) hp;have S4:=s3.trans u4;have bi:i+1<cs.length:=by lia
  refine bK (ai.of (S4 _ _ hc)) (int_at (by lia) (by lia)) (bK (ai.of (S4 _ _ hc)) (int_at (by lia) (by lia)) #[p,U (0-d),U u,_,Y,aj.of ar,?_]);have hs:=cQ i bi;unfold dU at hs;rw[show ((0:Int)+(i:Int)+1).toNat=i+1 by lia,show ((0:Int)+(i:Int)).toNat=i by lia,pE.mpr #[λx hx=>by cases hx;lia,λx hx=>by cases hx;lia]];rfl';exact#[_,Y,S4]
 rintro y yR J H3 ⟨e1,rfl,s3⟩;subst yR;rfl';refine#[.ref r,w,c,e,t,u,d,m,tb,cs,Y,hW.same s3,aB,bC,ai.of (s3 _ _ hc),bw,λzs H4 s4 hz hm=>?_];rfl';refine ay (aj.of ((s3.trans s4) _ _ hR)) (v:=.int m) Y ?_;rfl';rw[decide_eq_true (nX zs hz hm)];exact q _ (s3.trans s4)
noncomputable def iU(s:S2):W2:=if aY s.1 s.2=true then O else U s
theorem aa2(h:iU s=U x):s=x/\aY s.1 s.2=false:=by
 unfold iU at h;split at h
 .cases h
 .rename_i hc;exact#[Option.some.inj h,by simpa using hc]
theorem NM(h:iU s=O):aY s.1 s.2=true:=by
 unfold iU at h;split at h
 .rename_i hc;exact hc
 .cases h
theorem FE:∀ {gs:List S2} {fs:List S2},gs.map iU=fs.map U->gs=fs/\∀ x∈gs,aY x.1 x.2=false
 | [],[],_=>#[Y,λy h=>nomatch h]
 | [],_::_,h=>nomatch h
 | _::_,[],h=>nomatch h
 | g::gs,f::fs,h=>by
  obtain⟨h1,h2⟩:=List.cons.inj h;obtain⟨rfl,h3⟩:=aa2 h1;obtain⟨rfl,h4⟩:=FE h2;refine#[Y,λx hx=>?_];rcases ae2.mp hx with rfl|hx
  .exact h3
  .exact h4 x hx
theorem aa3(h:ax (λv x=>aQ H v x.1 x.2) ys sl)(e:sl.map iU=pp.map iO):iG H ys pp/\(∀ x∈sl,aY x.1 x.2=false)/\sl.length=pp.length:=by obtain⟨rfl,h2⟩:=FE (fs:=pp.map λp=>(U p.1,U p.2)) (by rw[e,afA];rfl);refine#[?_,h2,by rw[aeO]];exact (ax.bind h:ax (λv (p:P2)=>aQ H v (U p.1) (U p.2)) ys pp)
inductive tQ(H:Hp)(wv:V)(w s gl:ae0)(sl gs:List S2)(e t u d m:Int)(tb:Tb):Prop
 | mk(ys zs:List V)(_:kC H wv w e t u d m tb)(_:H s=U (.lst ys))(_:ax (λv x=>aQ H v x.1 x.2) ys sl)(_:H gl=U (.lst zs))(_:ax (λv x=>aQ H v x.1 x.2) zs gs)(_:gs.length=sl.length+1)(_:sl.length<=900)(_:(tb.map (·.1)).Nodup)(_:∀ r∈tb,r.1.2.toNat<=sl.length)
theorem tQ.same{H H':Hp}{wv:V}{w s gl:ae0}{sl gs:List S2}{e t u d m:Int}{tb:Tb}(h:tQ H wv w s gl sl gs e t u d m tb)(x:ah H H'):tQ H' wv w s gl sl gs e t u d m tb:=let ⟨ys,zs,a,b,c,d,e,f,g,i,j⟩:=h;#[ys,zs,a.same x,x _ _ b,c.imp λy y r=>r.same x,x _ _ d,e.imp λy y r=>r.same x,f,g,i,j]
inductive gZ(H:Hp)(v:V)(sw gw:List W2)(tb:Tb)(m:Int)(as:List Int)(N:Nat):Prop
 | oN (k:ae0) (j:Nat) (_:v = .ref k) (_:H k=U (.tup [.str "step",.int (j:Int)])) (_:sw[j]?=U O)
 | gol (k:ae0) (j:Nat) (_:v = .ref k) (_:H k=U (.tup [.str "at",.int (j:Int)])) (_:gw[j]?=U O)
 | pap (t:Pp) (pp:List P2) (gs:List S2) (_:gX H v t) (_:eU t<N) (_:sw=pp.map iO) (_:gw=gs.map U) (_:Val pp gs tb m t as)
theorem gZ.same{H H':Hp}{v:V}{sw gw:List W2}{tb:Tb}{m:Int}{as:List Int}{N:Nat}(h:gZ H v sw gw tb m as N)(s:ah H H'):gZ H' v sw gw tb m as N:=by
 rcases h with ⟨k,j,e,h1,h2⟩|⟨k,j,e,h1,h2⟩|⟨t,pp,gs,h1,h2,h3,h4,h5⟩
 .exact .oN k j e (s _ _ h1) h2
 .exact .gol k j e (s _ _ h1) h2
 .exact .pap t pp gs (h1.same s) h2 h3 h4 h5
inductive Al(N:Nat)(vs:List V)(H:Hp)(Q:VK)(aO:XK):Prop
 | mk(wv v:V)(w s gl z:ae0)(e t u d m:Int)(sl gs:List S2)(tb:Tb)(as:List Int)(_:vs=[wv,.ref s,.ref gl,v,.ref z])(_:0<N)(_:N<=10)(_:tQ H wv w s gl sl gs e t u d m tb)(_:H z=U (.lst (as.map V.int)))(_:as.length+N<=30)(_:gZ H v (sl.map iU) (gs.map iU) tb m as N)(_:∀ H',ah H H'->Q (.bl true) H')
def NN(pp:List P2)(fs:List S2)(tb:Tb)(m:Int)(a:Pp)(as:List Int)(o:En):Prop:=match o with|none=>a = .nil|some e=>Val pp fs tb m a (as++[e])
inductive NO(N:Nat)(vs:List V)(H:Hp)(Q:VK)(aO:XK):Prop
 | mk(wv v:V)(w s gl z:ae0)(e t u d m:Int)(sl gs fs:List S2)(pp:List P2)(tb:Tb)(as:List Int)(o:En)(a:Pp)(_:vs=[wv,.ref s,.ref gl,v,ev o,.ref z])(_:N<=10)(_:tQ H wv w s gl sl gs e t u d m tb)(_:H z=U (.lst (as.map V.int)))(_:as.length+1+N<=30)(_:gX H v a)(_:eU a<N)(_:sl.map iU=pp.map iO)(_:gs.map iU=fs.map U)(_:NN pp fs tb m a as o)(_:∀ H',ah H H'->Q (.bl true) H')
inductive aa4(N:Nat)(vs:List V)(H:Hp)(Q:VK)(aO:XK):Prop
 | mk(wv v:V)(w s gl z:ae0)(e t u d m:Int)(sl gs fs:List S2)(pp:List P2)(tb:Tb)(as:List Int)(c:Cl)(a b:Pp)(_:vs=[wv,.ref s,.ref gl,v,.ref z])(_:N<=10)(_:tQ H wv w s gl sl gs e t u d m tb)(_:H z=U (.lst (as.map V.int)))(_:as.length+1+N<=30)(_:gX H v (.cls c a b))(_:eU a<N)(_:eU b<N)(_:sl.map iU=pp.map iO)(_:gs.map iU=fs.map U)(_:Val pp fs tb m (.cls c a b) as)(_:∀ H',ah H H'->Q (.bl true) H')
theorem NP(T:aA)(N:Nat)(ih:aP (3 * N+3) T.kA (Al N)):aP (3 * N+4) T.lP (NO N):=by
 refine okN T.lP.F DH.1 (λvs H Q E h=>?_) (λbf A outer s H vs Q E hr h=>?_)
 .obtain⟨wv,v,w,s,gl,z,e,t,u,d,m,sl,gs,fs,pp,tb,as,o,a,rfl,y⟩:=h;rfl
 .obtain⟨wv,v,w,s,gl,z,e,t,u,d,m,sl,gs,fs,pp,tb,as,o,a,rfl,hN,hK,hz,hl,ha,la,e1,e2,hv,q⟩:=h;refine#[_,(au (aH (eO (aa 4)) (aq (az (kK (oV (aa 3))))) aG) (aq (az (dw ih (hr.mono (by lia)) Y T.kA.m T.kA.F.kp T.kA.b .nil bS (ae (aa 0) (ae (aa 1) (ae (aa 2) (ae (aa 3) (ae (aJ kT (aa 5) (dj (ae (aa 4) ag))) ag))))))))),?_];rfl';cases o with
  | none =>
   obtain rfl:a = .nil:=hv;obtain rfl:v = .non:=ha;rfl';exact q _ (ah.refl _)
  | some x =>
   rfl';refine#[by decide,λp1 cP=>?_];have u1:=ao (o:=.lst [.int x]) cP;refine#[_,u1 _ _ hz,_,ar,aeT (by rw[aeO,afh];lia:_<=100) (by decide),λp2 dD=>?_];have u2:=ao (o:=.lst (as.map V.int++[.int x])) dD;have U9q:=u1.trans u2;exact#[wv,v,w,s,gl,p2,e,t,u,d,m,sl,gs,tb,as++[x],Y,by lia,hN,hK.same U9q,by rw[af0];exact ar,by rw[ae1,afh];lia,.pap a pp fs (ha.same U9q) la e1 e2 hv,λH' s'=>q _ (U9q.trans s')]
theorem NQ(h:ko gs tb as s m)(hg:gs.length=n+1)(ht:∀ r∈tb,r.1.2.toNat<=n):m.1<=n:=by
 obtain⟨e,h⟩:=h;rw[e];obtain⟨o,k⟩:=s;cases o with
 | none =>
  have:=(aeW.mp (show gs[k]?=U m.2 from h)).1;show k<=n;lia
 | some x=>exact ht _ h.2
theorem aa5(T:aA)(N:Nat)(ih:aP (3 * N+3) T.kA (Al N)):aP (3 * N+5) T.qA (aa4 N):=by
 refine okN T.qA.F vQ.1 (λvs H Q E h=>?_) (λbf A outer s H vs Q E hr h=>?_)
 .obtain⟨wv,v,w,s,gl,z,e,t,u,d,m,sl,gs,fs,pp,tb,as,c,a,b,rfl,j⟩:=h;rfl
 .obtain⟨wv,v,w,s,gl,z,e,t,u,d,m,sl,gs,fs,pp,tb,as,⟨⟨o,i⟩,⟨o2,i2⟩⟩,a,b,rfl,hM,hK,hz,hl,⟨k,p,p2,x,y,rfl,hk,hp,dD,hx,hy⟩,la,lb,e1,e2,⟨⟨mm,nn,mA,mB,bw⟩,va,vb⟩,q⟩:=h;refine#[_,(au (jZ (i:=5) vQ.nd Y (aiz Y) (dw (NI T) (hr.mono (by lia)) Y T.m9.m T.m9.F.kp T.m9.b .nil bS (ae (aa 0) (ae (aa 2) (ae (bG bH (aa 3) af (λj j=>rfl)) (ae (aa 4) ag)))))) (au (jZ (i:=6) vQ.nd Y (aiz Y) (dw (NI T) (hr.mono (by lia)) Y T.m9.m T.m9.F.kp T.m9.b .nil bS (ae (aa 0) (ae (aa 2) (ae (bG bH (aa 3) af (λj j=>rfl)) (ae (aa 4) ag)))))) (au (aH (PW.pt (bI (eO (aa 5)) (bI (eO (aa 6)) (da (bO (cR (yi Y) (by rfl) T.zS xU (ae (cU (cO [] []) Y (cI (aa 1)) (λC s2 H2 ex pn=>#[df,(dw (EV T) (hr.mono (by lia)) Y T.m8.m T.m8.F.kp T.m8.b .nil bS (ae (aa 0) ag))])) ag))))))) (aq (az cH)) aG) (au (aH (PW.pt (bI (eO (bG bH (aa 5) af (λj j=>rfl))) (da (eO (bG bH (aa 6) af (λj j=>rfl)))))) (aq (az cH)) aG) (au (aH (XM (bG bH (aa 6) af (λj j=>rfl)) (aJ bV (bG bH (aa 5) af (λj j=>rfl)) (dw (aaX T) (hr.mono (by lia)) Y T.tE.m T.tE.F.kp T.tE.b .nil bS (ae (aa 1) (ae (bG bH (bG bH (aa 3) af (λj j=>rfl)) af (λj j=>rfl)) (ae (bG bH (bG bH (aa 3) af (λj j=>rfl)) af (λj j=>rfl)) ag)))))) (aq (az cH)) aG) (au (aH (bJ (bO (dw (NP T N ih) (hr.mono (by lia)) Y T.lP.m T.lP.F.kp T.lP.b .nil bS (ae (aa 0) (ae (aa 1) (ae (aa 2) (ae (bG bH (aa 3) af (λj j=>rfl)) (ae (bG bH (bG bH (aa 3) af (λj j=>rfl)) af (λj j=>rfl)) (ae (aa 4) ag))))))))) (aq (az cH)) aG) (au (aH (PW.pt (jY (gQ (bG bH (bG bH (aa 3) af (λj j=>rfl)) af (λj j=>rfl))) (kL (bp (bG bH (bG bH (aa 3) af (λj j=>rfl)) af (λj j=>rfl)) (bG bH (bG bH (aa 3) af (λj j=>rfl)) af (λj j=>rfl)))))) (aq (az (kK (oV (bG bH (aa 3) af (λj j=>rfl)))))) aG) (aq (az (dw (NP T N ih) (hr.mono (by lia)) Y T.lP.m T.lP.F.kp T.lP.b .nil bS (ae (aa 0) (ae (aa 1) (ae (aa 2) (ae (bG bH (aa 3) af (λj j=>rfl)) (ae (bG bH (bG bH (aa 3) af (λj j=>rfl)) af (λj j=>rfl)) (ae (aa 4) ag)))))))))))))))),?_];obtain⟨ys,zs,hW,hs,hS,hg,hG,ku,hn,dR,hle⟩:=id hK;obtain⟨rfl,dJ⟩:=FE e2;obtain⟨hP,hcs,dz⟩:=aa3 hS e1;dsimp only at va vb hp dD;have lt:∀ r∈tb,r.1.2.toNat<gs.length:=λr hr=>by have:=hle r hr;lia
  refine aC (λJ H1=>∃ v1,J=[U wv,U (.ref s),U (.ref gl),U (.ref k),U (.ref z),U v1,O]/\H1=H/\aQ H v1 mm.2.1 mm.2.2) (λN hN=>?_) ?_
  .rfl';exact ay (aj.of hk) (v:=.ref p) Y #[wv,w,p,gl,z,e,t,u,d,m,zs,gs,tb,as,(o,i),mm,Y,hW,dR,hp,ai.of hg,hG,dJ,hz,mA,lt,λv1 h1=>hN _ _ #[v1,Y,Y,h1]]
  rintro j yR J H1 ⟨v1,rfl,rfl,q1,rfl,wF⟩;subst yR;refine aC (λJ H2=>∃ v2,J=[U wv,U (.ref s),U (.ref gl),U (.ref k),U (.ref z),U (.ref q1),U v2]/\H2=H1/\aQ H1 v2 nn.2.1 nn.2.2) (λN hN=>?_) ?_
  .rfl';exact ay (aj.of hk) (v:=.ref p2) Y #[wv,w,p2,gl,z,e,t,u,d,m,zs,gs,tb,as,(o2,i2),nn,Y,hW,dR,dD,ai.of hg,hG,dJ,hz,mB,lt,λv1 h1=>hN _ _ #[v1,Y,Y,h1]]
  rintro j yR J H2 ⟨v2,rfl,rfl,q2,rfl,FF⟩;subst yR;refine aC (λJ H3=>J=[U wv,U (.ref s),U (.ref gl),U (.ref k),U (.ref z),U (.ref q1),U (.ref q2)]/\ah H2 H3) (λN hN=>?_) ?_
  .rfl';refine#[#[_,ai.of hs],cn gK (aeT (by rw[hS.len];lia:ys.length<=1000) (by decide)) (lg (R:=λx (n:S2)=>aQ H2 x n.1 n.2) (as:=sl) (p:=λj=>true) (f:=λj=>.bl false) (ai.of hs) hS (λj j j j Q h=>h) (λx n hn j r Q h=>?_) λl hl=>?_)]
   .obtain⟨pa,rfl,nh⟩:=r;rfl';refine#[pa,n.1,n.2,Y,aj.of nh,?_];rw[hcs n hn];exact h
   .rw[ae6,ahk.mpr λj j=>rfl];refine#[l,Y,sl.map λj=>false,ai.of (by rw[ar,afA];rfl),?_];rw[if_neg (by simp)];exact hN _ _ #[Y,ao hl]
  rintro j yR J H3 ⟨rfl,s3⟩;subst yR;obtain⟨hh,ll,h1,h2,h3⟩:=bw;rw[h1] at wF;rw[h2] at FF;refine aC (λJ H4=>J=[U wv,U (.ref s),U (.ref gl),U (.ref k),U (.ref z),U (.ref q1),U (.ref q2)]/\H4=H3) (λN hN=>?_) ?_
  .rfl';refine ay (aj.of (s3 _ _ wF)) (v:=.int hh) Y ?_;rfl';refine ay (aj.of (s3 _ _ FF)) (v:=.int ll) Y ?_;rfl';exact hN _ _ #[Y,Y]
  rintro j yR J H4 ⟨rfl,rfl⟩;subst yR;refine aC (λJ H5=>J=[U wv,U (.ref s),U (.ref gl),U (.ref k),U (.ref z),U (.ref q1),U (.ref q2)]/\ah H2 H5) (λN hN=>?_) ?_
  .rfl';refine ay (aj.of (s3 _ _ FF)) (v:=.int ll) Y (ay (aj.of (s3 _ _ wF)) (v:=.int hh) Y (ay (aj.of (s3 _ _ hk)) (v:=.ref p) Y (ay (aj.of (s3 _ _ hp)) (v:=.int i) Y (ay (aj.of (s3 _ _ hk)) (v:=.ref p2) Y (ay (aj.of (s3 _ _ dD)) (v:=.int i2) Y ?_)))));have ma:=NQ mA ku hle;have mb:=NQ mB ku hle;have ea:mm.1=i:=mA.1;have eb:nn.1=i2:=mB.1;rw[ea] at ma h3;rw[eb] at mb h3;refine#[s,ys,pp,i,i2,Y,ai.of (s3 _ _ hs),hP.imp λj j r=>r.same s3,by lia,by lia,by lia,λH5 s5=>?_];rfl';rw[if_neg (by lia)];exact hN _ _ #[Y,s3.trans s5]
  rintro j yR J H5 ⟨rfl,s5⟩;subst yR;refine aC (λJ H6=>J=[U wv,U (.ref s),U (.ref gl),U (.ref k),U (.ref z),U (.ref q1),U (.ref q2)]/\ah H2 H6) (λN hN=>?_) ?_
  .rfl';refine ay (aj.of (s5 _ _ hk)) (v:=x) Y (ay (aj.of (s5 _ _ hk)) (v:=.ref p) Y (ay (aj.of (s5 _ _ hp)) (v:=ev o) Y ?_));refine#[wv,x,w,s,gl,z,e,t,u,d,m,sl,gs,gs,pp,tb,as,o,a,Y,hM,hK.same s5,s5 _ _ hz,hl,hx.same s5,la,e1,e2,va,λH6 s6=>?_];rfl';exact hN _ _ #[Y,s5.trans s6]
  rintro j yR J H6 ⟨rfl,s6⟩;subst yR;rfl';have last:∀ R:V->Hp->Prop,(∀ H',ah H2 H'->R (.bl true) H')->NN pp gs tb m b as o2->kS K (.ref k) (.int 4) H6 λx H1=>kS K (.ref k) (.int 2) H1 λx_2 H1=>kS K x_2 (.int 0) H1 λx_3 H1=>NO N [wv,.ref s,.ref gl,x,x_3,.ref z] H1 R E0:=λR hR hv =>
   ay (aj.of (s6 _ _ hk)) (v:=y) Y (ay (aj.of (s6 _ _ hk)) (v:=.ref p2) Y (ay (aj.of (s6 _ _ dD)) (v:=ev o2) Y #[wv,y,w,s,gl,z,e,t,u,d,m,sl,gs,gs,pp,tb,as,o2,b,Y,hM,hK.same s6,s6 _ _ hz,hl,hy.same s6,lb,e1,e2,hv,λH7 s7=>hR _ (s6.trans s7)]))
  refine ay (aj.of (s6 _ _ hk)) (v:=.ref p) Y (ay (aj.of (s6 _ _ hp)) (v:=ev o) Y ?_);cases o with
  | none =>
   rfl';refine last _ q ?_;cases o2 with
   | none=>exact vb
   | some x=>exact vb
  | some x0 =>
   rfl';refine ay (aj.of (s6 _ _ hk)) (v:=.ref p) Y (ay (aj.of (s6 _ _ hp)) (v:=.int x0) Y (ay (aj.of (s6 _ _ hk)) (v:=.ref p2) Y (ay (aj.of (s6 _ _ dD)) (v:=ev o2) Y ?_)));refine Nu (o:=U x0) (o':=o2) ?_;cases o2 with
   | none=>exact last _ q vb
   | some x2 =>
    replace vb:if (U x0:En)=U x2 then b = .nil else Val pp gs tb m b (as++[x2]):=vb
    by_cases he:(U x0:En)=U x2
    .rw[decide_eq_true he];rw[if_pos he] at vb;subst vb;obtain rfl:y = .non:=hy;exact ay (aj.of (s6 _ _ hk)) (v:=.non) Y (q _ s6)
    .rw[decide_eq_false he];rw[if_neg he] at vb;exact last _ q vb
theorem aa6(T:aA):∀ N,aP (3 * N+3) T.kA (Al N):=by
 intro N
 induction N with
 | zero =>
  refine okN T.kA.F qc.1 (λvs H Q E h=>?_) (λbf A outer s H vs Q E hr h=>?_)
  .obtain⟨wv,v,w,s,gl,z,e,t,u,d,m,sl,gs,tb,as,rfl,hN,n⟩:=h;exact absurd hN (agk _)
  .obtain⟨wv,v,w,s,gl,z,e,t,u,d,m,sl,gs,tb,as,rfl,hN,n⟩:=h;exact absurd hN (agk _)
 | succ N ih =>
  refine okN T.kA.F qc.1 (λvs H Q E h=>?_) (λbf A outer s H vs Q E hr h=>?_)
  .obtain⟨wv,v,w,s,gl,z,e,t,u,d,m,sl,gs,tb,as,rfl,n⟩:=h;rfl
  .obtain⟨wv,v,w,s,gl,z,e,t,u,d,m,sl,gs,tb,as,rfl,n,hM,hK,hz,hl,hR,q⟩:=h;refine#[_,(au (aH (PW.pt (bI (bJ (bO (cR i9 (by rfl) T.jk i8 (ae (aa 3) (ae (jv (v:=.ty "tuple") Y T.vY uH Y) ag))))) (da (bp (c9 T.cW (ae (aa 3) ag)) af)))) (aq (az cH)) aG) (au (aH (bp (bG bH (aa 3) af (λn n=>rfl)) aU) (aq (az (gR (gI oZ (c9 T.cW (ae (aa 3) ag)) af (d8 _)) (fH (gI (lG xF) (c9 T.cW (ae (aa 4) ag)) (bG bH (aa 0) af (λn n=>rfl)) (d8 _)))))) aG) (au (aH (bp (bG bH (aa 3) af (λn n=>rfl)) aU) (aq (az (gR (gI oZ (c9 T.cW (ae (aa 3) ag)) af (d8 _)) (fH (dw (aa5 T N ih) (hr.mono (by lia)) Y T.qA.m T.qA.F.kp T.qA.b .nil bS (ae (aa 0) (ae (aa 1) (ae (aa 2) (ae (aa 3) (ae (aa 4) ag)))))))))) aG) (au (jZ (i:=5) qc.nd Y (aiz Y) (dj ag)) (au (aH (bp (bG bH (aa 3) af (λn n=>rfl)) aU) (aq (jZ (i:=5) qc.nd Y (aiz Y) (aa 1))) aG) (au (aH (bp (bG bH (aa 3) af (λn n=>rfl)) aU) (aq (jZ (i:=5) qc.nd Y (aiz Y) (aa 2))) aG) (au (aH (PW.pt (bI (gP (c9 T.cW (ae (aa 3) ag)) af) (bI (bJ (bO (dw (qI T) (hr.mono (by lia)) Y T.tD.m T.tD.F.kp T.tD.b .nil bS (ae (bG bH (aa 3) af (λn n=>rfl)) ag)))) (bI (lH (bG bH (aa 3) af (λn n=>rfl)) af) (da (L6 (bG bH (aa 3) af (λn n=>rfl)) (c9 T.cW (ae (aa 5) ag)))))))) (aq (az cH)) aG) (aq (az (dw (EV T) (hr.mono (by lia)) Y T.m8.m T.m8.F.kp T.m8.b .nil bS (ae (bG bH (aa 5) (bG bH (aa 3) af (λn n=>rfl)) (λn n=>rfl)) ag))))))))))),?_];obtain⟨ys,zs,hW,hs,hS,hg,hG,ku,hn,dR,hle⟩:=id hK;have Fd:∃ (k:ae0) (u:V) (us:List V),v = .ref k/\H k=U (.tup (u::us)):=by
    rcases hR with ⟨k,j,rfl,hk,hj⟩|⟨k,j,rfl,hk,hj⟩|⟨t,pp,fs,hp,hh,e1,e2,hv⟩
    .exact#[k,_,_,Y,hk]
    .exact#[k,_,_,Y,hk]
    .cases t with
     | nil=>exact hv.elim
     | full=>obtain⟨r,rfl,h⟩:=hp;exact#[r,_,_,Y,h]
     | cls c a b=>obtain⟨r,n,n,n,n,rfl,h,n⟩:=hp;exact#[r,_,_,Y,h]
   obtain⟨k,u0,us,rfl,hku⟩:=Fd;refine aC (λJ H2=>J=[U wv,U (.ref s),U (.ref gl),U (.ref k),U (.ref z),O]/\H2=H) (λN hN=>?_) ?_
   .rfl';refine uI hku ?_;rfl';refine#[_,nI (aj.of hku),?_];refine a7 (λh0=>absurd h0 (by rw[afD];lia)) λn=>hN _ _ #[Y,Y]
   rintro n yR J H2 ⟨rfl,rfl⟩;subst yR;rcases hR with ⟨k2,j,e1,hk,hj⟩|⟨k2,j,e1,hk,hj⟩|⟨tt,pp,fs,hp,hh,e1,e2,hv⟩
   .cases e1;refine aC (λJ H3=>J=[U wv,U (.ref s),U (.ref gl),U (.ref k),U (.ref z),O]/\H3=H2) (λN hN=>?_) ?_
    .rfl';refine ay (aj.of hk) (v:=.str "step") Y ?_;rfl'
     first|exact hN _ _ ⟨rfl,rfl⟩|exact a7 (λh=>absurd h (by decide)) λn=>hN _ _ #[Y,Y]
    rintro n yR J H3 ⟨rfl,rfl⟩;subst yR;refine aC (λJ H4=>J=[U wv,U (.ref s),U (.ref gl),U (.ref k),U (.ref z),O]/\H4=H3) (λN hN=>?_) ?_
    .rfl';refine ay (aj.of hk) (v:=.str "step") Y ?_;rfl'
     first|exact hN _ _ ⟨rfl,rfl⟩|exact a7 (λh=>absurd h (by decide)) λn=>hN _ _ #[Y,Y]
    rintro n yR J H4 ⟨rfl,rfl⟩;subst yR;refine aC (λJ H5=>∃ l0,J=[U wv,U (.ref s),U (.ref gl),U (.ref k),U (.ref z),U (.ref l0)]/\ah H4 H5) (λN hN=>?_) ?_
    .rfl';exact#[by decide,λp hp=>hN _ _ #[p,Y,ao hp]]
    rintro n yR J H5 ⟨l0,rfl,s5⟩;subst yR;refine aC (λJ H6=>J=[U wv,U (.ref s),U (.ref gl),U (.ref k),U (.ref z),U (.ref s)]/\H6=H5) (λN hN=>?_) ?_
    .rfl';refine ay (aj.of (s5 _ _ hk)) (v:=.str "step") Y ?_;rfl'
     first|exact hN _ _ ⟨rfl,rfl⟩|exact a7 (λh=>absurd h (by decide)) λn=>hN _ _ #[Y,Y]
    rintro n yR J H6 ⟨rfl,rfl⟩;subst yR;refine aC (λJ H7=>J=[U wv,U (.ref s),U (.ref gl),U (.ref k),U (.ref z),U (.ref s)]/\H7=H6) (λN hN=>?_) ?_
    .rfl';refine ay (aj.of (s5 _ _ hk)) (v:=.str "step") Y ?_;rfl'
     first|exact hN _ _ ⟨rfl,rfl⟩|exact a7 (λh=>absurd h (by decide)) λn=>hN _ _ #[Y,Y]
    rintro n yR J H7 ⟨rfl,rfl⟩;subst yR;rw[ae5] at hj;obtain⟨sj,hsj,hcj⟩:=afv.mp hj;obtain⟨vj,hvj,pj,rfl,hpj⟩:=hS.at hsj;have jl:=(aeW.mp hvj).1;refine aC (λJ H8=>J=[U wv,U (.ref s),U (.ref gl),U (.ref k),U (.ref z),U (.ref s)]/\H8=H7) (λN hN=>?_) ?_
    .rfl';refine#[_,nI (aj.of (s5 _ _ hk)),?_];rfl';refine ay (aj.of (s5 _ _ hk)) (v:=.int j) Y #[_,Y,.inr #[_,Y],?_];simp only[isWhole];rfl';refine ay (aj.of (s5 _ _ hk)) (v:=.int j) Y ?_;rfl';refine a7 (λh0=>absurd h0 (by lia)) λn=>ay (aj.of (s5 _ _ hk)) (v:=.int j) Y #[_,eX (ai.of (s5 _ _ hs)),?_];rfl';exact a7 (λh0=>absurd h0 (by lia)) λn=>hN _ _ #[Y,Y]
    rintro n yR J H8 ⟨rfl,rfl⟩;subst yR;rfl';refine ay (aj.of (s5 _ _ hk)) (v:=.int j) Y (bK (ai.of (s5 _ _ hs)) (fo hvj) #[pj,sj.1,sj.2,Y,aj.of (s5 _ _ hpj),?_]);rw[NM hcj];exact q _ s5
   .cases e1;refine aC (λJ H3=>J=[U wv,U (.ref s),U (.ref gl),U (.ref k),U (.ref z),O]/\H3=H2) (λN hN=>?_) ?_
    .rfl';refine ay (aj.of hk) (v:=.str "at") Y ?_;rfl'
     first|exact hN _ _ ⟨rfl,rfl⟩|exact a7 (λh=>absurd h (by decide)) λn=>hN _ _ #[Y,Y]
    rintro n yR J H3 ⟨rfl,rfl⟩;subst yR;refine aC (λJ H4=>J=[U wv,U (.ref s),U (.ref gl),U (.ref k),U (.ref z),O]/\H4=H3) (λN hN=>?_) ?_
    .rfl';refine ay (aj.of hk) (v:=.str "at") Y ?_;rfl'
     first|exact hN _ _ ⟨rfl,rfl⟩|exact a7 (λh=>absurd h (by decide)) λn=>hN _ _ #[Y,Y]
    rintro n yR J H4 ⟨rfl,rfl⟩;subst yR;refine aC (λJ H5=>∃ l0,J=[U wv,U (.ref s),U (.ref gl),U (.ref k),U (.ref z),U (.ref l0)]/\ah H4 H5) (λN hN=>?_) ?_
    .rfl';exact#[by decide,λp hp=>hN _ _ #[p,Y,ao hp]]
    rintro n yR J H5 ⟨l0,rfl,s5⟩;subst yR;refine aC (λJ H6=>J=[U wv,U (.ref s),U (.ref gl),U (.ref k),U (.ref z),U (.ref l0)]/\H6=H5) (λN hN=>?_) ?_
    .rfl';refine ay (aj.of (s5 _ _ hk)) (v:=.str "at") Y ?_;rfl'
     first|exact hN _ _ ⟨rfl,rfl⟩|exact a7 (λh=>absurd h (by decide)) λn=>hN _ _ #[Y,Y]
    rintro n yR J H6 ⟨rfl,rfl⟩;subst yR;refine aC (λJ H7=>J=[U wv,U (.ref s),U (.ref gl),U (.ref k),U (.ref z),U (.ref gl)]/\H7=H6) (λN hN=>?_) ?_
    .rfl';refine ay (aj.of (s5 _ _ hk)) (v:=.str "at") Y ?_;rfl'
     first|exact hN _ _ ⟨rfl,rfl⟩|exact a7 (λh=>absurd h (by decide)) λn=>hN _ _ #[Y,Y]
    rintro n yR J H7 ⟨rfl,rfl⟩;subst yR;rw[ae5] at hj;obtain⟨sj,hsj,hcj⟩:=afv.mp hj;obtain⟨vj,hvj,pj,rfl,hpj⟩:=hG.at hsj;have jl:=(aeW.mp hvj).1;refine aC (λJ H8=>J=[U wv,U (.ref s),U (.ref gl),U (.ref k),U (.ref z),U (.ref gl)]/\H8=H7) (λN hN=>?_) ?_
    .rfl';refine#[_,nI (aj.of (s5 _ _ hk)),?_];rfl';refine ay (aj.of (s5 _ _ hk)) (v:=.int j) Y #[_,Y,.inr #[_,Y],?_];simp only[isWhole];rfl';refine ay (aj.of (s5 _ _ hk)) (v:=.int j) Y ?_;rfl';refine a7 (λh0=>absurd h0 (by lia)) λn=>ay (aj.of (s5 _ _ hk)) (v:=.int j) Y #[_,eX (ai.of (s5 _ _ hg)),?_];rfl';exact a7 (λh0=>absurd h0 (by lia)) λn=>hN _ _ #[Y,Y]
    rintro n yR J H8 ⟨rfl,rfl⟩;subst yR;rfl';refine ay (aj.of (s5 _ _ hk)) (v:=.int j) Y (bK (ai.of (s5 _ _ hg)) (fo hvj) #[pj,sj.1,sj.2,Y,aj.of (s5 _ _ hpj),?_]);rw[NM hcj];exact q _ s5
   .cases tt with
    | nil=>exact hv.elim
    | full =>
     obtain⟨r,er,cX⟩:=hp;cases er;refine aC (λn n=>False) (λN hN=>?_) (λn n n n h=>h.elim);rfl';refine ay (aj.of cX) (v:=.str "full") Y ?_;rfl';refine#[_,nI (aj.of cX),a7 (λn=>?_) λh0=>absurd Y h0];obtain⟨r9,rfl,hR9,n⟩:=hW;refine#[_,eX (ai.of hz),ay (aj.of hR9) (v:=.int m) Y ?_];rfl';rw[aeO,decide_eq_true (show m<((as.length:Nat):Int) from hv)];exact q _ (ah.refl _)
    | cls c a b =>
     obtain⟨r,p,p2,x,y,er,hk,cP,dD,hx,hy⟩:=id hp;cases er;refine aC (λJ H3=>J=[U wv,U (.ref s),U (.ref gl),U (.ref k),U (.ref z),O]/\H3=H2) (λN hN=>?_) ?_
     .rfl';refine ay (aj.of hk) (v:=.str "clash") Y ?_;rfl'
      first|exact hN _ _ ⟨rfl,rfl⟩|exact a7 (λh=>absurd h (by decide)) λn=>hN _ _ #[Y,Y]
     rintro n yR J H3 ⟨rfl,rfl⟩;subst yR;have HA:eU a<N:=by have h2:(if eU a<=eU b then eU b else eU a)+1<N+1:=hh;split at h2<;>lia
     have HB:eU b<N:=by have h2:(if eU a<=eU b then eU b else eU a)+1<N+1:=hh;split at h2<;>lia
     refine aC (λn n=>False) (λN9 hN=>?_) (λn n n n h=>h.elim);rfl';refine ay (aj.of hk) (v:=.str "clash") Y ?_;rfl';exact#[_,nI (aj.of hk),a7 (λn=>#[wv,_,w,s,gl,z,e,t,u,d,m,sl,gs,fs,pp,tb,as,c,a,b,Y,by lia,hK,hz,by lia,hp,HA,HB,e1,e2,hv,q]) λh0=>absurd Y h0]
theorem aa7(T:aA):aP 33 T.kA (Al 10):=aa6 T 10
theorem aa8(u d:Int)(ps:List Pa)(n:Nat):((afp n).map (λ(k:Nat)=>bz (U (-d),U u) (sel ps "step" (k:Int)))).map iU=dY u d ps n:=by unfold dY;rw[afA];exact agV λk y=>rfl
theorem aa9(ps:List Pa)(n:Nat):((afp n).map (λ(k:Nat)=>bz (O,O) (sel ps "at" (k:Int)))).map iU=fg ps n:=by unfold fg;rw[afA];exact agV λk y=>rfl
inductive aba(vs:List V)(H:Hp)(Q:VK)(aO:XK):Prop
 | mk(wv v:V)(w cl:ae0)(e t u d m:Int)(tb:Tb)(xs:List V)(ps:List Pa)(_:vs=[wv,.ref cl,v])(_:kC H wv w e t u d m tb)(_:1<=t)(_:t<=12)(_:bZ e t tb)(_:ai K H cl xs)(_:dF H xs ps)(_:ps.length<=900)(_:gZ H v (dY u d ps (t-1).toNat) (fg ps t.toNat) tb m [] 10)(_:∀ H',ah H H'->Q (.bl true) H')
theorem NR(T:aA):aP 34 T.Ep aba:=by
 refine bb tm ?_;rintro y y y s H y Q y hr ⟨wv,v,w,cl,e,t,u,d,m,tb,xs,ps,rfl,hW,t1,t2,aB,hX,hP,hn,hR,q⟩;refine#[_,(au (aL 3 tm.nd (aT (ae (aJ dG af (ak (aa 0) af)) (ae (ak (aa 0) af) ag)))) (au (rM (i:=4) (cO [3,1] ["_law_own",lJ]) Y tm.nd Y Y (jz Y T.gW (ae (aJ dG (ak (aa 0) af) af) ag)) (λC s2 H2 ex pn=>#[df,(aD (M8 T) hr (ae (aa 1) (ae (aa 2) (ae aU (ae (aa 0) ag)))))])) (au (rM (i:=5) (cO [1] [lJ]) Y tm.nd Y Y (jz Y T.gW (ae (ak (aa 0) af) ag)) (λC s2 H2 ex pn=>#[df,(aD (M8 T) hr (ae (aT (ae cj (ae cj ag))) (ae (aa 1) (ae aU (ae (aa 0) ag)))))])) (aq (az (aD (aa7 T) hr (ae (aa 0) (ae (aa 4) (ae (aa 5) (ae (aa 2) (ae (dj ag) ag))))))))))),?_];obtain⟨r,rfl,eQ,hT⟩:=id hW;refine aC (λJ H1=>∃ p,J=[U (.ref r),U (.ref cl),U v,U (.ref p),O,O]/\ah H H1/\H1 p=U (.tup [.int (-d),.int u])) (λN hN=>?_) ?_
 .rfl';refine ay (aj.of eQ) (v:=.int d) Y ?_;rfl';refine ay (aj.of eQ) (v:=.int u) Y #[aX,λp hp=>hN _ _ #[p,Y,ao hp,?_]];rw[ar,Int.zero_sub]
 rintro y yR J H1 ⟨p,rfl,s1,hp⟩;subst yR;refine aC (λJ H2=>∃ s ys,J=[U (.ref r),U (.ref cl),U v,U (.ref p),U (.ref s),O]/\ah H H2/\H2 s=U (.lst ys)/\ax (λv x=>aQ H2 v x.1 x.2) ys ((afp (t-1).toNat).map (λ(k:Nat)=>bz (U (-d),U u) (sel ps "step" (k:Int))))) (λN hN=>?_) ?_
 .rfl';refine ay (aj.of (s1 _ _ eQ)) (v:=.int t) Y ?_;rfl';refine#[by lia,by lia,cn k6 (by rw[aeO,ae9];exact aeT (by lia:_<=12) (by decide)) (ie (R:=λ_ x (k:Nat)=>x=V.int ((0:Int)+k)) (R':=λH v (x:S2)=>aQ H v x.1 x.2) (f:=λ(k:Nat)=>bz (U (-d),U u) (sel ps "step" (k:Int))) (λy y y y y h=>h) (λy y y y s' h=>h.same s') (ax.jt _) (bs:=[]) trivial (λy y=>trivial) (λx k y H2 s2 r Q h=>?_) (λx k y H2 s2 r Q h=>?_) λH2 zs s2 hz=>?_)]
  .rfl';exact h
  .subst r;rfl';refine#[p,cl,U (-d),U u,xs,ps,"step",_,Y,aj.of (s2 _ _ hp),(s1.trans s2).seq hX,hP.same (s1.trans s2),by lia,λv H3 s3 hv=>h _ _ s3 ?_];rw[ajl] at hv;exact hv
  .intro l hl;rw[ae6] at hz;exact hN _ _ #[l,zs,Y,s1.trans (s2.trans (ao hl)),ar,hz.imp λy y r=>r.same (ao hl)]
 rintro y yR J H2 ⟨s,ys,rfl,s2,hs,hS⟩;subst yR;refine aC (λJ H3=>∃ gl zs,J=[U (.ref r),U (.ref cl),U v,U (.ref p),U (.ref s),U (.ref gl)]/\ah H2 H3/\H3 gl=U (.lst zs)/\ax (λv x=>aQ H3 v x.1 x.2) zs ((afp t.toNat).map (λ(k:Nat)=>bz (O,O) (sel ps "at" (k:Int))))) (λN hN=>?_) ?_
 .rfl';refine ay (aj.of (s2 _ _ eQ)) (v:=.int t) Y ?_;rfl';refine#[by lia,by lia,cn k6 (by rw[aeO,ae9];exact aeT (by lia:_<=12) (by decide)) (ie (R:=λ_ x (k:Nat)=>x=V.int ((0:Int)+k)) (R':=λH v (x:S2)=>aQ H v x.1 x.2) (f:=λ(k:Nat)=>bz (O,O) (sel ps "at" (k:Int))) (λy y y y y h=>h) (λy y y y s' h=>h.same s') (ax.jt _) (bs:=[]) trivial (λy y=>trivial) (λx k y H4 s4 r Q h=>?_) (λx k y H4 s4 r Q h=>?_) λH4 zs s4 hz=>?_)]
  .rfl';exact h
  .subst r;rfl';refine#[aX,λp2 dD=>?_];have u2:=ao (o:=.tup [.non,.non]) dD;have U9q:=s2.trans (s4.trans u2);refine#[p2,cl,O,O,xs,ps,"at",_,Y,aj.of ar,U9q.seq hX,hP.same U9q,by lia,λv H3 s3 hv=>h _ _ (u2.trans s3) ?_];rw[ajl] at hv;exact hv
  .intro l hl;rw[ae6] at hz;exact hN _ _ #[l,zs,Y,s4.trans (ao hl),ar,hz.imp λy y r=>r.same (ao hl)]
 rintro y yR J H3 ⟨gl,zs,rfl,s3,hg,hG⟩;subst yR;rfl';refine#[by decide,λp9 E6=>?_];have u9:=ao (o:=.lst []) E6;have U9q:=s2.trans (s3.trans u9);refine#[.ref r,v,w,s,gl,p9,e,t,u,d,m,_,_,tb,[],Y,by decide,by decide,#[ys,zs,hW.same U9q,(s3.trans u9) _ _ hs,hS.imp λy y x=>x.same (s3.trans u9),u9 _ _ hg,hG.imp λy y x=>x.same u9,?_,?_,aB.1,λx hx=>?_],ar,by decide,?_,λH' s'=>q _ (U9q.trans s')]
 .rw[aeO,aeO,ae9,ae9];lia
 .rw[aeO,ae9];lia
 .rw[aeO,ae9];obtain⟨⟨b1,b2⟩,b3,b4⟩:=aB.2 x hx;lia
 .rw[aa8,aa9];exact hR.same U9q
inductive abb(C:ae0)(vs:List V)(H:Hp)(Q:VK)(aO:XK):Prop
 | mk(x dx:ae0)(i j z:Int)(_:vs=[.ref x])(_:H x=U (.ins C dx [("first",.int i),("last",.int j),("sill",.int z)]))(_:jU i j)(_:∀ l ys H',ah H H'->H l=O->H' l=U (.lst ys)->ax (bA H H') ys [el i j (O,U (z-1))]->Q (.ref l) H')
theorem abc(T:aA):cN 3 T.qg (abb T.b7):=by refine dH zm ?_;rintro y y y y y y y y hr ⟨x,dx,i,j,z,rfl,hx,hk,q⟩;refine#[_,(aq (az (dj (ae (jC (aa 0) T.ix T.MA (MT T) hr.m T.mZ.b .nil bS (ae (aT (ae cj (ae (aJ dG (b6 Y (aa 0) Y) af) ag))) ag)) ag)))),?_];rfl';refine#[_,_,hx,Y,_,_,_,hx,T.ix,T.v3,_,Y,aX,λt ht=>?_];have s0:=ao (o:=.tup [.non,.int (z-1)]) ht;exact#[x,T.b7,dx,t,_,i,j,(O,U (z-1)),Y,s0 _ _ hx,T.ix,T.vZ,T.tG,Y,Y,hk,ar,λl xs H1 s1 fl hl hP=>#[by decide,λc hc=>q c _ _ (s0.trans (s1.trans (ao hc))) ((s0.trans s1).free hc) ar #[#[l,xs,Y,s0.free fl,(ao hc) _ _ hl,hP.same (ao hc)],trivial]]]
theorem abd(hl:H1 l=U (.lst ys))(hM:ax (eo H1) ys ms)(s:ah H1 H'):pM K l ys (rowOf H1) 2 H':=by refine#[ai.of (s _ _ hl),λx hx=>?_];obtain⟨i,hi⟩:=afF.mp hx;obtain⟨m,y,t,p,rfl,h1,h2⟩:=hM.get hi;rw[pL h1];exact#[t,Y,aj.of (s _ _ h1),Y]
noncomputable def fT(ms:List Mk):List Pa:=ms.map λm=>("at",(m.1:Int),m.2)
noncomputable def iV:List Mk->Int
 | []=>0
 | ms=>eL (ms.map λm=>(m.1:Int))
inductive lT(C:ae0)(H:Hp)(v:ae0)(ms:List Mk):Prop
 | mk(dx l:ae0)(ys:List V)(_:H v=U (.ins C dx [("marks",.ref l)]))(_:H l=U (.lst ys))(_:ax (eo H) ys ms)
theorem lT.same(h:lT C H v ms)(s:ah H H'):lT C H' v ms:=let ⟨dx,l,ys,a,b,c⟩:=h;#[dx,l,ys,s _ _ a,s _ _ b,c.imp λy y r=>r.same s]
inductive abe(C:ae0)(vs:List V)(H:Hp)(Q:VK)(aO:XK):Prop
 | mk(x dx:ae0)(v:V)(_:vs=[.ref x,v])(_:H x=U (.ins C dx []))(_:Q .non (upd H x (.ins C dx [("marks",v)])))
theorem abf(T:aA):cN 1 T.qu (abe T.cL):=by refine dH zA ?_;rintro y y y y y y y y y ⟨x,dx,v,rfl,hx,q⟩;refine#[_,(aq (jg (aa 0) (aa 1) Y)),?_];rfl';exact#[_,_,_,hx,T.kB,T.v5,(by show 0<1000;decide),q]
theorem NS(ms:List Mk):mr eL (ms.map λm=>(m.1:Int)) (.int 0) = .int (iV ms):=by
 cases ms with
 | nil=>rfl
 | cons m ms=>rfl
inductive abg(C:ae0)(vs:List V)(H:Hp)(Q:VK)(aO:XK):Prop
 | mk(v:ae0)(ms:List Mk)(_:vs=[.ref v])(_:lT C H v ms)(_:ms.length<=60)(_:∀ H',ah H H'->Q (.int (iV ms)) H')
theorem abh(T:aA):cN 1 T.qv (abg T.cL):=by
 refine dH zB ?_;rintro y y y y H y Q y y ⟨v,ms,rfl,⟨dx,l,ys,hv,hl,hY⟩,bC,q⟩;refine#[_,(aq (az (BM Y Y T.qB (cU (cO [] []) Y (cI (b6 Y (aa 0) Y)) (λC s2 H2 ex pn=>#[df,(bW (K:=K) (aa 0) af)])) af))),?_];have yl:=hY.len;rfl';refine#[_,_,_,hv,T.kB,T.v5,_,Y,l,Y,#[_,ai.of hl],cn gK (aeT (by lia:_<=60) (by decide)) (lg (R:=eo H) (p:=λy=>true) (f:=λm=>V.int (m.1:Int)) (ys:=[]) (ai.of hl) hY (λv m y r Q h=>?_) (λv m y y r Q h=>?_) (λl2 ba=>?_))]
 .rfl';exact h
 .obtain⟨t,p,rfl,ht,hp⟩:=r;rfl';exact ay (aj.of ht) Y h
 .have ef:([]:List V)++(ms.filter λy=>true).map (λm=>V.int (m.1:Int))=(ms.map λm=>(m.1:Int)).map V.int:=by rw[ae6,ahk.mpr λy y=>rfl,afA];rfl
  rw[ef];refine#[l2,Y,_,ai.of ar,?_];rw[NS];exact q _ (ao ba)
inductive abi(C:ae0)(vs:List V)(H:Hp)(Q:VK)(aO:XK):Prop
 | mk(v:ae0)(ms:List Mk)(_:vs=[.ref v])(_:lT C H v ms)(_:ms.length<=60)(_:∀ l xs H',ah H H'->H l=O->H' l=U (.lst xs)->dF H' xs (fT ms)->Q (.ref l) H')
theorem NT(T:aA):cN 1 T.oE (abi T.cL):=by
 refine dH zC ?_;rintro y y y s H y Q y y ⟨v,ms,rfl,⟨dx,l,ys,hv,hl,hY⟩,bC,q⟩;refine#[_,(aq (az (yb (g:=jw K 2 (cY (cu 0) (cY (cu 1) iZ))) (kY.mk (own:=["turn","word"]) (fr:=[]) (ys:=[]) Y (by decide +kernel) Y (by decide +kernel) Y .nil .nil rfl) Y (cI (b6 Y (aa 0) Y)) (λC s2 H2 ex pn=>kO (n:=2) Y (eI (iD (i:=0) (show (["turn","word"]:List Str).Nodup by decide) Y (.inl (afk Y)) (.inr (afk Y))) (eI (iD (i:=1) (show (["turn","word"]:List Str).Nodup by decide) Y (.inl (afk Y)) (.inr (afk Y))) kN))) (λC s2 H2 ex pn=>#[df,(aT (ae aU (ae (aa 0) (ae (aa 1) ag))))])))),?_];have yl:=hY.len;rfl';refine#[_,_,_,hv,T.kB,T.v5,_,Y,l,Y,#[_,ai.of hl],VJ (row:=rowOf H) (aeT (by lia:_<=60) (by decide)) (ie (R:=λ_ x (m:Mk)=>eo H x m) (R':=fA) (f:=λm=>(("at",(m.1:Int),m.2):Pa)) (λy y y y y h=>h) (λy y y y s' h=>h.same s') hY (bs:=[]) trivial (λH' s'=>abd hl hY s') (λx m y H2 s2 r Q h=>?_) (λx m y H2 s2 r Q h=>?_) λH2 zs s2 hz=>?_)]
 .exact h
 .obtain⟨t,p,rfl,h1,h2⟩:=r;show _;unfold mI;dsimp only;rw[pL h1];rfl';exact#[by decide,λb hb=>h _ _ (ao hb) #[b,p,Y,ar,(ao hb) _ _ (s2 _ _ h2)]]
 .rw[ae6] at hz;intro b hb;exact q b zs _ (s2.trans (ao hb)) (s2.free hb) ar (hz.imp λy y r=>r.same (ao hb))
theorem FG(ms:List Mk):(fT ms).length=ms.length:=aeO _
inductive abj(C:ae0)(vs:List V)(H:Hp)(Q:VK)(aO:XK):Prop
 | mk(v:ae0)(ms:List Mk)(_:vs=[.ref v])(_:lT C H v ms)(_:ms.length<=60)(_:∀ l ys H',ah H H'->H l=O->H' l=U (.lst ys)->ax (bA H H') ys (cE (fT ms))->Q (.ref l) H')
theorem abk(T:aA):cN 3 T.qw (abj T.cL):=by refine dH zD ?_;rintro y y y y y y y y hr ⟨v,ms,rfl,hL,bC,q⟩;refine#[_,(aq (az (aD (MS T) hr (ae (xK (aa 0) T.kB T.MH (NT T) hr.m T.oE.b .nil bS) ag)))),?_];obtain⟨dx,l0,ys0,hv,y,y⟩:=id hL;rfl';exact#[_,_,hv,Y,v,ms,Y,hL,bC,λl xs H1 s1 y hl hP=>#[l,xs,_,Y,ai.of hl,hP,by rw[FG];lia,λc ys H2 s2 fc hc hy=>q c ys H2 (s1.trans s2) (s1.free fc) hc (hy.imp λy y r=>r.back s1)]]
inductive abl(C:ae0)(vs:List V)(H:Hp)(Q:VK)(aO:XK):Prop
 | mk(v:ae0)(ms:List Mk)(_:vs=[.ref v])(_:lT C H v ms)(_:ms.length<=60)(_:∀ l ys H',ah H H'->H l=O->H' l=U (.lst ys)->ax (bA H H') ys [fT ms]->Q (.ref l) H')
theorem abm(T:aA):cN 2 T.qx (abl T.cL):=by refine dH zE ?_;rintro y y y y y y y y hr ⟨v,ms,rfl,hL,bC,q⟩;refine#[_,(aq (az (dj (ae (xK (aa 0) T.kB T.MH (NT T) hr.m T.oE.b .nil bS) ag)))),?_];obtain⟨dx,l0,ys0,hv,y,y⟩:=id hL;rfl';exact#[_,_,hv,Y,v,ms,Y,hL,bC,λl xs H1 s1 fl hl hP=>#[by decide,λc hc=>q c _ _ (s1.trans (ao hc)) (s1.free hc) ar #[#[l,xs,Y,fl,(ao hc) _ _ hl,hP.same (ao hc)],trivial]]]
theorem FH:(dY u d ps n).length=n:=by unfold dY;rw[aeO,ae9]
theorem oO:(fg ps n).length=n:=by unfold fg;rw[aeO,ae9]
theorem FI{G H:Hp}{v:V}{sw gw:List W2}{tb:Tb}{m:Int}(hl:gw.length=sw.length+1)(ht:∀ r∈tb,r.1.2.toNat<gw.length)(A:Fs G H v sw gw tb m):∃ r,v = .ref r/\((∃ z,H r=U (.tup [.str "never",z])/\∀ L c,¬ jQ sw gw tb m L c) ∨ ∃ k cs L,H r=U (.tup [.str "may",.ref k])/\H k=U (.lst (cs.map V.int))/\G k=O/\cs.length=gw.length/\jQ sw gw tb m L (bU cs)):=by
 rcases A with ⟨r,k,j,rfl,h1,h2,h3⟩|⟨r,k,j,rfl,h1,h2,h3⟩|⟨r,k,p,pp,gs,rfl,h1,h2,h3,e1,e2,h4⟩|⟨r,k,cs,pp,gs,es,rfl,h1,h2,h3,h4,e1,e2,h5,h6,h7,h8⟩
 .exact#[r,Y,.inl #[_,h1,λL c z=>by obtain⟨s,e,y⟩:=z.2.1 j O h3;cases e]]
 .exact#[r,Y,.inl #[_,h1,λL c z=>by obtain⟨s,e,y⟩:=z.2.2.1 j O h3;cases e]]
 .refine#[r,Y,.inl #[_,h1,λL c z=>?_]];subst e1 e2;rw[aeO] at hl ht;rw[aeO] at hl;exact absurd h4 (Ml z.1 (Dd.mp z.2.1) (De.mp z.2.2.1) (by lia) (Dc.mpr z.2.2.2) (λr hr=>by have:=ht r hr;lia) p [] .nil (λx hx=>by cases hx))
 .subst e1 e2;exact#[r,Y,.inr #[k,cs,es,h1,h2,h3,h4,h7,Dd.mpr h5,De.mpr h6,Dc.mp h8]]
theorem abn{u d t m:Int}{ps:List Pa}{tb:Tb}{gw:List W2}{L cs:List Int}(hl:cs.length=t.toNat)(F:jQ (dY u d ps (t-1).toNat) gw tb m L (bU cs))(k:Nat)(hk:k+1<cs.length) : -d<=dU cs (k+1)-dU cs k/\dU cs (k+1)-dU cs k<=u:=by have h:=F.2.1 k (gh (O,O) ((U (-d),U u)::sel ps "step" (k:Int))) (by unfold dY;rw[ae5,af5 (by lia)];rfl);have:=yF.mp h _ (.head _);exact#[this.1 _ Y,this.2 _ Y]
theorem abo{m:Int}{tb:Tb}{sw gw:List W2}{L cs:List Int}(F:jQ sw gw tb m L (bU cs))(zs:List Int)(hn:zs.Nodup)(hz:∀ i,i∈zs↔E7 tb cs i):(zs.length:Int)<=m:=by
 have:=C7 (ys:=L) hn λi hi=>by obtain⟨r,hr,rfl,hb⟩:=(hz i).mp hi;refine Decidable.byContradiction λhc=>?_;have:=Co.mp (F.2.2.2 r hr hc);unfold Gz.hs at hb;exact absurd (this.symm.trans hb) (by decide)
 have:=F.1;lia
theorem NU(h:p∈ps):p.2.2∈sel ps p.1 p.2.1:=aeY.mpr #[p,afr.mpr #[h,by simp[lr]],Y]
theorem NV{G H:Hp}{v:V}{sw gw:List W2}{tb:Tb}{m:Int}(A:Fs G H v sw gw tb m)(ck:∀ L c,¬ jQ sw gw tb m L c):∃ r k,v = .ref r/\H r=U (.tup [.str "never",k])/\gZ H k sw gw tb m [] 10:=by
 rcases A with ⟨r,k,j,rfl,h1,h2,h3⟩|⟨r,k,j,rfl,h1,h2,h3⟩|⟨r,k,p,pp,gs,rfl,h1,h2,h3,e1,e2,h4⟩|⟨r,k,cs,pp,gs,es,rfl,h1,h2,h3,h4,e1,e2,h5,h6,h7,h8⟩
 .exact#[r,_,Y,h1,.oN k j Y h2 h3]
 .exact#[r,_,Y,h1,.gol k j Y h2 h3]
 .exact#[r,_,Y,h1,.pap p pp gs h2 (by lia) e1 e2 h4]
 .subst e1 e2;exact absurd #[h7,Dd.mpr h5,De.mpr h6,Dc.mp h8] (ck es (bU cs))
def iW(u d t m:Int)(tb:Tb)(ps:List Pa):Prop:=∃ L c,jQ (dY u d ps (t-1).toNat) (fg ps t.toNat) tb m L c
def nk(H:Hp)(v:V)(ps:List Pa):Prop:=∃ c xs,v = .ref c/\H c=U (.lst xs)/\dF H xs ps
theorem nk.same(h:nk H v ps)(s:ah H H'):nk H' v ps:=let ⟨c,xs,e,a,b⟩:=h;#[c,xs,e,s _ _ a,b.same s]
def fi(u d t m:Int)(tb:Tb)(H:Hp)(v:V)(ps:List Pa):Prop:=gZ H v (dY u d ps (t-1).toNat) (fg ps t.toNat) tb m [] 10
def FK(H H':Hp):Prop:=∀ a xs,H a=U (.tup xs)->H' a=U (.tup xs)
theorem gX.tp(s:FK H H'):∀ {t:Pp} {v:V},gX H v t->gX H' v t
 | .nil,_,h=>h
 | .full,_,⟨r,e,h1⟩=>#[r,e,s _ _ h1]
 | .cls _ _ _,_,⟨r,p,q,x,y,e,h1,h2,h3,h4,h5⟩=>#[r,p,q,x,y,e,s _ _ h1,s _ _ h2,s _ _ h3,gX.tp s h4,gX.tp s h5]
theorem fi.tp(h:fi u d t m tb H v ps)(s:FK H H'):fi u d t m tb H' v ps:=by
 rcases h with ⟨k,j,e,h1,h2⟩|⟨k,j,e,h1,h2⟩|⟨t,pp,gs,h1,h2,h3,h4,h5⟩
 .exact .oN k j e (s _ _ h1) h2
 .exact .gol k j e (s _ _ h1) h2
 .exact .pap t pp gs (h1.tp s) h2 h3 h4 h5
theorem Bs(h:H l=U (.lst xs)):FK H (upd H l o):=λa us e=>by rw[aI λz=>by rw[z,h] at e;cases e];exact e
inductive abp(B:ae0)(vs:List V)(H:Hp)(Q:VK)(aO:XK):Prop
 | mk(x p l:ae0)(e t u d m:Int)(tb:Tb)(ys:List V)(cl:List (List Pa))(_:vs=[.ref x,.ref l])(_:dn B H x e t u d m p tb)(_:fS e t u d m)(_:bZ e t tb)(_:tb.length<=60)(_:H l=U (.lst ys))(_:ax (nk H) ys cl)(_:cl.length<=200)(_:(∀ ps∈cl,ps.length<=900/\cf t ps))(_:(∀ r k cs L ps H',ah H H'->ps∈cl->H' r=U (.tup [.str "may",.ref k])->H' k=U (.lst (cs.map V.int))->cs.length=t.toNat->jQ (dY u d ps (t-1).toNat) (fg ps t.toNat) tb m L (bU cs)->Q (.ref r) H'))(_:(∀ r k zs H',ah H H'->H' r=U (.tup [.str "never",.ref k])->H' k=U (.lst zs)->ax (fi u d t m tb H') zs cl->(∀ ps∈cl,¬ iW u d t m tb ps)->Q (.ref r) H'))
inductive abq(H:Hp)(x l pa:ae0)(u d t m:Int)(tb:Tb)(cl:List (List Pa))(i:Nat)(J:St)(H1:Hp):Prop
 | mk(zs:List V)(e1 e2:Option V)(_:J=[U (.ref x),U (.ref l),U (.ref pa),e1,e2])(_:ah H H1)(_:H1 pa=U (.lst zs))(_:ax (fi u d t m tb H1) zs (cl.take i))(_:(∀ ps∈cl.take i,¬ iW u d t m tb ps))
theorem NW(T:aA):aP 21 T.Ee (abp T.aZ):=by
 refine jh tf ?_;rintro y A y y H y y y hr ⟨x,p,l,e,t,u,d,m,tb,ys,cl,rfl,hB,gy,aR,bC,hl,hC,bw,aB,q1,q2⟩;refine#[_,(au (aL 2 tf.nd (dj ag)) (au (dt ahM Y (cI (aa 1)) (cS 3 tf.nd) (au (aL 4 tf.nd (ip (Ft T) hr (ae (aa 0) (ae (aa 3) ag)))) (au (aH (bp (ak (aa 4) af) aU) (aq (az (aa 4))) aG) (aq (fI (i7 afx afP afQ mh (aa 2) (ae (ak (aa 4) af) ag))))))) (aq (az (aT (ae aU (ae (aa 2) ag))))))),?_];obtain⟨⟨e1,e7⟩,⟨t1,t2⟩,u0,d0,m0,me⟩:=id gy;have yl:=hC.len;refine aC (λJ H1=>∃ pa,J=[U (.ref x),U (.ref l),U (.ref pa),O,O]/\ah H H1/\H pa=O/\H1 pa=U (.lst [])) (λN hN=>?_) ?_
 .rfl';exact#[afi _,λpa nh=>hN _ _ #[pa,Y,ao nh,nh,ar]]
 rintro y yR J H1 ⟨pa,rfl,s1,fpa,nh⟩;subst yR;rfl';refine#[#[_,ai.of (s1 _ _ hl)],ja (abq H x l pa u d t m tb cl) #[[],_,_,Y,s1,nh,trivial,λy z=>by simp at z] (λi J H2 _ ⟨_,_,_,_,s2,_,_,_⟩=>ai.of (s2 _ _ hl)) ?_ ?_]
 .rintro i v J H2 hv ⟨zs,z1,z2,rfl,s2,FL,hZ,ck⟩;obtain⟨ps,eN,c,xs,rfl,hc,hP⟩:=hC.get hv;have pin:=ae8 eN;obtain⟨pl,oP⟩:=aB ps pin;rfl';refine#[x,p,c,e,t,u,d,m,xs,ps,tb,Y,hB.same s2,aR,bC,t1,t2,by lia,e7,m0,by lia,ai.of (s2 _ _ hc),hP.same s2,pl,λz=>absurd oP z,λy v H3 s3 A=>?_];have S3:=s2.trans s3;by_cases hh:iW u d t m tb ps
  .obtain⟨L0,c0,F0⟩:=hh;obtain⟨rr,rfl,⟨z,hrr,hn⟩|⟨k9,cs,L,hrr,jq,y,hcs,F⟩⟩:=FI (by rw[FH,oO];lia) (λr hr=>by rw[oO];have:=(aR.2 r hr).2;lia) A
   .exact absurd F0 (hn _ _)
   rw[oO] at hcs;refine aE hrr ?_;rfl';exact q1 rr k9 cs L ps H3 S3 pin hrr jq hcs F
  .obtain⟨rr,z,rfl,hrr,hR⟩:=NV A λL c F=>hh #[L,c,F];refine aE hrr ?_;rfl';have Am:=s3 _ _ FL;have zl:=hZ.len;have il:=(aeW.mp eN).1;rw[agB] at zl;rw[if_neg (by decide)];refine#[.inl #[Y,_,ai.of Am],ay (aj.of hrr) Y #[zs,Am,afy (by lia:_<=200) (by decide),_,_,_,Y,jb fpa S3,ar,?_,λqs hq=>?_]]
   .rw[afZ,eN];exact ax.snoc (hZ.imp λy y h=>fi.tp (gZ.same h s3) (Bs Am)) (fi.tp hR (Bs Am))
   .rw[afZ,eN] at hq;rcases afq.mp hq with z|z
    .exact ck qs z
    .obtain rfl:qs=ps:=by simpa using z
     exact hh
 .rintro J H2 ⟨zs,z1,z2,rfl,s2,FL,hZ,ck⟩;rw[yl,afV] at hZ ck;rfl';exact#[aX,λr hr=>q2 r pa zs _ (s2.trans (ao hr)) ar ((ao hr) _ _ FL) (hZ.imp λy y h=>gZ.same h (ao hr)) ck]
theorem wH:(cg tb i).length<=tb.length:=by unfold cg;rw[aeO];exact aeT (afN _ _) (by rw[pI];exact aeV _)
inductive T0 where
 | over (i j s:Int)|lies (i:Int) (tb:Tb)
def tR(H:Hp)(p:ae0):T0->Prop
 | .over i j s=>H p=U (.tup [.str "over",.int i,.int j,.int s])
 | .lies i tb=>H p=U (.tup [.str "lies",.int i])
def good0:T0->Prop
 | .over i j s=>jU i j
 | .lies i tb=>bZ 7 12 tb/\tb.length<=60
noncomputable def iA:T0->Int
 | .over i j s=>j
 | .lies i tb=>iV (cg tb i)
noncomputable def eV:T0->List (List Pa)
 | .over i j s=>cE (el i j (O,U (s-1)))
 | .lies i tb=>cE (fT (cg tb i))
noncomputable def gB:T0->List (List Pa)
 | .over i j s=>[el i j (O,U (s-1))]
 | .lies i tb=>[fT (cg tb i)]
def fU(T:aA)(H:Hp)(x:ae0):T0->Prop
 | .over i j s=>∃ dx,H x=U (.ins T.b7 dx [("first",.int i),("last",.int j),("sill",.int s)])
 | .lies i tb=>lT T.cL H x (cg tb i)
theorem fU.same(h:fU T H x tr)(s:ah H H'):fU T H' x tr:=by
 cases tr
 case lies=>exact lT.same h s
 all_goals (obtain⟨dx,a⟩:=h;exact#[dx,s _ _ a])
inductive An(T:aA)(f:T0->List (List Pa))(x:V)(H:Hp)(Q:VK):Prop
 | mk(a:ae0)(tr:T0)(_:x = .ref a)(_:fU T H a tr)(_:good0 tr)(_:∀ l ys H',ah H H'->H l=O->H' l=U (.lst ys)->ax (bA H H') ys (f tr)->Q (.ref l) H')
inductive NX(T:aA)(x:V)(H:Hp)(Q:VK):Prop
 | mk(a:ae0)(tr:T0)(_:x = .ref a)(_:fU T H a tr)(_:good0 tr)(_:∀ H',ah H H'->Q (.int (iA tr)) H')
theorem FN(T:aA)(hr:bc n A)(hn:3<=n:=by decide)(x:V)(H:Hp)(Q:VK)(h:An T eV x H Q):iq P w K mg base A "ways" x H Q:=by
 obtain⟨x,tr,rfl,he,hg,cont⟩:=h;replace hr:=hr.mono hn;cases tr with
 | over i j s =>
  obtain⟨dx,hx⟩:=id he;exact .of hx T.ix T.Yv (Zy T) hr T.qf.b #[x,dx,i,j,s,Y,hx,hg,cont]
 | lies i tb =>
  obtain⟨dx,l,ys,hx,y,y⟩:=id he;exact .of hx T.kB T.YM (abk T) hr T.qw.b #[x,_,Y,he,aeT wH hg.2,cont]
theorem NY(T:aA)(he:fU T H x tr)(hg:good0 tr)(Q:VK)(cont:∀ l ys H',ah H H'->H l=O->H' l=U (.lst ys)->ax (bA H H') ys (eV tr)->Q (.ref l) H'):An T eV (.ref x) H Q:=#[x,tr,Y,he,hg,cont]
theorem FO(T:aA)(hr:bc n A)(hn:3<=n:=by decide)(x:V)(H:Hp)(Q:VK)(h:An T gB x H Q):iq P w K mg base A "breaks" x H Q:=by
 obtain⟨x,tr,rfl,he,hg,cont⟩:=h;replace hr:=hr.mono hn;cases tr with
 | over i j s =>
  obtain⟨dx,hx⟩:=id he;exact .of hx T.ix T.Yw (abc T) hr T.qg.b #[x,dx,i,j,s,Y,hx,hg,cont]
 | lies i tb =>
  obtain⟨dx,l,ys,hx,y,y⟩:=id he;exact .of hx T.kB T.YN (abm T) hr T.qx.b #[x,_,Y,he,aeT wH hg.2,cont]
theorem NZ(T:aA)(he:fU T H x tr)(hg:good0 tr)(Q:VK)(cont:∀ l ys H',ah H H'->H l=O->H' l=U (.lst ys)->ax (bA H H') ys (gB tr)->Q (.ref l) H'):An T gB (.ref x) H Q:=#[x,tr,Y,he,hg,cont]
theorem N0(T:aA)(hr:bc n A)(hn:1<=n:=by decide)(x:V)(H:Hp)(Q:VK)(h:NX T x H Q):iq P w K mg base A "far" x H Q:=by
 obtain⟨x,tr,rfl,he,hg,cont⟩:=h;replace hr:=hr.mono hn;cases tr with
 | over i j s =>
  obtain⟨dx,hx⟩:=id he;exact .of hx T.ix T.Yu (Zn T) hr T.oz.b #[x,T.b7,dx,_,j,Y,hx,T.ix,T.tG,Y,cont _ (ah.refl _)]
 | lies i tb =>
  obtain⟨dx,l,ys,hx,y,y⟩:=id he;exact .of hx T.kB T.YL (abh T) hr T.qv.b #[x,_,Y,he,aeT wH hg.2,cont]
theorem abr(T:aA)(he:fU T H x tr)(hg:good0 tr)(Q:VK)(cont:∀ H',ah H H'->Q (.int (iA tr)) H'):NX T (.ref x) H Q:=#[x,tr,Y,he,hg,cont]
theorem CP(ps:List Pa):(cE ps).length<=2 * ps.length:=by
 unfold cE;rw[ak5];have:∀ l:List Pa,(l.map λp=>((fv p.2.2).map λo=>[((p.1,p.2.1,o):Pa)]).length).sum<=2 * l.length:=by
  intro l
  induction l with
  | nil=>exact aeV _
  | cons p l ih =>
   rw[ae7,ajY,aeO,afD];have:=sq p.2.2;lia
 exact this ps
theorem N1(h:p∈el i j s):p.1 = "at" /\ i<=p.2.1/\p.2.1<=j:=by unfold el at h;obtain⟨k,hk,rfl⟩:=aeY.mp h;have:=af1.mp hk;exact#[Y,by show i<=i+(k:Int);lia,by show i+(k:Int)<=j;lia]
theorem FP{t:Int}{ps:List Pa}(h:∀ p∈ps,p.1 = "at" /\ 0<=p.2.1/\p.2.1<t):cf t ps:=λp hp=>by obtain⟨e,h1,h2⟩:=h p hp;rw[e];exact (Cj (show (agg "at")≠agg "step" by decide)).mpr #[Y,h1,h2]
theorem abt(h:0<=i)(hj:j<t):cf t (el i j s):=FP λp hp=>by obtain⟨a,b,c⟩:=N1 hp;exact#[a,by lia,by lia]
theorem N2(h:cf t ps)(hl:ps.length<=60):(∀ qs∈cE ps,qs.length<=100/\cf t qs)/\(∀ qs∈[ps],qs.length<=100/\cf t qs)/\(cE ps).length<=200/\[ps].length<=200:=by
 refine#[λqs hq=>?_,λqs hq=>?_,?_,(show 1<=200 by decide)]
 .unfold cE at hq;obtain⟨p,hp,hq⟩:=aho.mp hq;obtain⟨o,y,rfl⟩:=aeY.mp hq;refine#[(show 1<=100 by decide),λz hz=>?_];rw[afd.mp hz];exact h p hp
 .rw[afd.mp hq];exact#[by lia,h]
 .have:=CP ps;lia
theorem N3(aR:bZ e t tb):∀ k∈cg tb i,(k.1:Int)<t:=λk hk=>by obtain⟨r,hr,y,rfl⟩:=pO.mp hk;have:=(aR.2 r hr).2;show ((r.1.2.toNat:Nat):Int)<t;lia
theorem Ao:0<=iV ms/\∀ k∈ms,(k.1:Int)<=iV ms:=by
 cases ms with
 | nil=>exact#[afS _,λy z=>nomatch z]
 | cons m ms =>
  obtain⟨a,b⟩:=mq (ns:=(m::ms).map λk=>(k.1:Int)) (by simp);have ef:iV (m::ms)=eL ((m::ms).map λk=>(k.1:Int)):=rfl;rw[ef];refine#[?_,λk hk=>b _ (aeY.mpr #[k,hk,Y])];have:=b (m.1:Int) (.head _);lia
theorem N4(ht:0<t)(h:∀ k∈ms,(k.1:Int)<t):iV ms<t:=by
 cases ms with
 | nil=>exact ht
 | cons m ms =>
  obtain⟨a,y⟩:=mq (ns:=(m::ms).map λk=>(k.1:Int)) (by simp);obtain⟨k,hk,e⟩:=aeY.mp a;have ef:iV (m::ms)=eL ((m::ms).map λk=>(k.1:Int)):=rfl;rw[ef,<- e];exact h k hk
theorem abu(h:iV ms<t):cf t (fT ms):=FP λp hp=>by obtain⟨m,hm,rfl⟩:=aeY.mp hp;have:=Ao.2 m hm;exact#[Y,by show (0:Int)<=(m.1:Int);lia,by show (m.1:Int)<t;lia]
theorem N5(hg:good0 tr)(hj:iA tr<t):(∀ ps∈gB tr,ps.length<=100/\cf t ps)/\(∀ ps∈eV tr,ps.length<=100/\cf t ps)/\(gB tr).length<=200/\(eV tr).length<=200:=by
 cases tr with
 | over i j s =>
  obtain⟨k0,k1,k2⟩:=id hg;replace hj:j<t:=hj;obtain⟨a,b,c,d⟩:=N2 (abt (s:=(O,U (s-1))) k0 hj) (by rw[Lu];lia);exact#[b,a,d,c]
 | lies i tb =>
  obtain⟨a,b,c,d⟩:=N2 (abu hj) (by rw[FG];exact aeT wH hg.2);exact#[b,a,d,c]
theorem Ap(hg:good0 tr):0<=iA tr:=by
 cases tr with
 | over i j s=>obtain⟨y,y,y⟩:=hg;show 0<=j;lia
 | lies i tb=>exact Ao.1
noncomputable def fj(as bs:List (List Pa)):List (List Pa):=as.flatMap λa=>bs.map λb=>a++b
theorem abv{as bs:List (List Pa)}{i:Nat}{a:List Pa}(h:as[i]?=U a):fj (as.take (i+1)) bs=fj (as.take i) bs++bs.map λb=>a++b:=by unfold fj;rw[afZ,h,ak4];simp
theorem qT(as bs:List (List Pa)):(fj as bs).length=as.length * bs.length:=by
 unfold fj
 induction as with
 | nil=>simp
 | cons a as ih=>rw[ajI,ae1,aeO,ih,afD,Nat.add_mul,Nat.one_mul,anr]
inductive abw(vs:List V)(H:Hp)(Q:VK)(aO:XK):Prop
 | mk(a b:ae0)(xs ys:List V)(as bs:List (List Pa))(_:vs=[.ref a,.ref b])(_:H a=U (.lst xs))(_:H b=U (.lst ys))(_:ax (nk H) xs as)(_:ax (nk H) ys bs)(_:as.length<=200)(_:bs.length<=200)(_:(∀ p∈as,p.length<=900))(_:(∀ p∈bs,p.length<=900))(_:∀ l zs H',ah H H'->H l=O->H' l=U (.lst zs)->ax (bA H H') zs (fj as bs)->Q (.ref l) H')
inductive abx(H:Hp)(a b l:ae0)(as bs:List (List Pa))(i:Nat)(J:St)(H1:Hp):Prop
 | mk(zs:List V)(e:Option V)(_:J=[U (.ref a),U (.ref b),U (.ref l),e])(_:ah H H1)(_:H1 l=U (.lst zs))(_:ax (jO H l H1) zs (fj (as.take i) bs))
theorem N6(T:aA):aP 1 T.DX abw:=by
 refine bb vL ?_;rintro y y y s H y Q y y ⟨a,b,xs,ys,as,bs,rfl,ha,hb,hA,hB,al,bl,pa,pb,q⟩;refine#[_,(au (aL 2 vL.nd (dj ag)) (au (dt afz Y (cI (aa 0)) (cS 3 vL.nd) (aq (fI (i7 afx ajM ajN Ic (aa 2) (ae (cU (cO [3] [dh]) Y (cI (aa 1)) (λC s2 H2 ex pn=>#[df,(aJ kT (aa 1) (aa 0))])) ag))))) (aq (az (aa 2))))),?_];have xl:=hA.len;have yl:=hB.len;refine aC (λJ H1=>∃ l,J=[U (.ref a),U (.ref b),U (.ref l),O]/\ah H H1/\H l=O/\H1 l=U (.lst [])) (λN hN=>?_) ?_
 .rfl';exact#[by decide,λl hl=>hN _ _ #[l,Y,ao hl,hl,ar]]
 rintro y yR J H1 ⟨l,rfl,s1,eR,gO⟩;subst yR;rfl';refine#[#[_,ai.of (s1 _ _ ha)],ja (xs:=xs) (abx H a b l as bs) #[[],_,Y,s1,gO,trivial] (λi J H2 _ ⟨_,_,_,s2,_,_⟩=>ai.of (s2 _ _ ha)) ?_ ?_]
 .rintro i x J H2 hx ⟨zs,e,rfl,s2,ba,hz⟩;obtain⟨ca,hca,c,us,rfl,hc,hP⟩:=hA.get hx;have il:=(aeW.mp hca).1;have zl:=hz.len;rw[qT,agB] at zl;have zb:zs.length<=200 * 200:=by rw[zl];exact amO (by lia) bl
  have cl:=pa ca (ae8 hca);have ul:=hP.len;rfl';refine#[.inl #[Y,_,ai.of ba],#[_,ai.of (s2 _ _ hb)],cn gK (aeT (by lia:ys.length<=200) (by decide)) (ie (R:=λH x ps=>nk H x ps) (R':=jO H l) (f:=λps=>ca++ps) (λy y y y s' h=>h.same s') (λy y y y s' h=>h.same s') (hB.imp λy y r=>r.same s2) (bs:=[]) trivial (λH' s'=>ai.of (s' _ _ (s2 _ _ hb))) (λx k y H4 s4 r Q h=>?_) (λx k hk H4 s4 r Q h=>?_) λH4 ws s4 hw=>?_)]
  .rfl';exact h
  .obtain⟨c2,FQ,rfl,j9,N7⟩:=r;have kl:=pb k hk;have ul2:=N7.len;rfl';refine#[_,(s2.trans s4) _ _ hc,_,j9,aeT (by lia:us.length+FQ.length<=1800) (by decide),λd hd=>?_];have ud:=ao (o:=.lst (us++FQ)) hd;have dl:d≠l:=λz=>by rw[z,s4 _ _ ba] at hd;cases hd
   exact h _ _ ud #[d,us++FQ,Y,dl,(s2.trans s4).free hd,ar,ax.app (dF.same hP ((s2.trans s4).trans ud)) (dF.same N7 ud)]
  .intro d hd;rw[ae6] at hw;have u:=s4.trans (ao (o:=.lst ws) hd);have wl:=hw.len;rw[aeO] at wl;refine#[l,d,_,_,Y,Y,u _ _ ba,ar,aeT (by lia:zs.length+ws.length<=50000) (by decide),zs++ws,_,Y,jb eR (s2.trans u),ar,?_];rw[abv hca];exact (hz.imp λy y r=>(r.same u).put (o:=.lst (zs++ws)) (u _ _ ba)).app (hw.imp λy y r=>(r.same (ao hd)).put (o:=.lst (zs++ws)) (u _ _ ba))
 .rintro J H2 ⟨zs,e,rfl,s2,ba,hz⟩;rw[xl,afV] at hz;rfl';exact q l zs H2 s2 eR ba (hz.imp λy y r=>r.Lr)
inductive aby(T:aA)(vs:List V)(H:Hp)(Q:VK)(aO:XK):Prop
 | mk(x:ae0)(tr:T0)(_:vs=[.ref x])(_:fU T H x tr)(_:good0 tr)(_:∀ p H',ah H H'->H' p=U (.tup [.int (eV tr).length,.int (gB tr).length])->Q (.ref p) H')
theorem N8(T:aA):cN 6 T.jS (aby T):=by refine dH zf ?_;rintro y y y y y y y y hr ⟨x,tr,rfl,he,hg,q⟩;refine#[_,(aq (az (aT (ae (c9 T.cW (ae (cD (FN T hr) (aa 0)) ag)) (ae (c9 T.cW (ae (cD (FO T hr) (aa 0)) ag)) ag))))),?_];rfl';refine NY T he hg _ λl ys H1 s1 y hl hy=>?_;rfl';refine#[_,eX (ai.of hl),?_];rfl';refine NZ T (he.same s1) hg _ λm zs H2 s2 y hm hz=>?_;rfl';refine#[_,eX (ai.of hm),aX,λp hp=>q p _ (s1.trans (s2.trans (ao hp))) ?_];rw[ar,hy.len,hz.len]
inductive abz(T:aA)(x:V)(H:Hp)(Q:VK):Prop
 | mk(a:ae0)(tr:T0)(_:x = .ref a)(_:fU T H a tr)(_:good0 tr)(_:∀ p H',ah H H'->H' p=U (.tup [.int (eV tr).length,.int (gB tr).length])->Q (.ref p) H')
theorem Oa(T:aA)(hr:bc n A)(hn:6<=n:=by decide)(x:V)(H:Hp)(Q:VK)(h:abz T x H Q):iq P w K mg base A "sizes" x H Q:=by
 obtain⟨x,tr,rfl,he,hg,cont⟩:=h;replace hr:=hr.mono hn;cases tr with
 | over i j s =>
  obtain⟨dx,hx⟩:=id he;exact .of hx T.ix T.Yt (N8 T) hr T.jS.b #[x,_,Y,he,hg,cont]
 | lies i tb =>
  obtain⟨dx,l,ys,hx,y,y⟩:=id he;exact .of hx T.kB T.YK (N8 T) hr T.jS.b #[x,_,Y,he,hg,cont]
def nq(T:aA)(H:Hp)(x:ae0)(a:T0):Prop:=∃ dx c,H x=U (.ins T.cK dx [("one",.ref c)])/\fU T H c a
theorem nq.same(h:nq T H x a)(s:ah H H'):nq T H' x a:=let ⟨dx,c,h1,h2⟩:=h;#[dx,c,s _ _ h1,h2.same s]
theorem bA.cm(h:bA G H v ps):nk H v ps:=let ⟨c,xs,e,_,a,b⟩:=h;#[c,xs,e,a,b]
inductive abA(T:aA)(vs:List V)(H:Hp)(Q:VK)(aO:XK):Prop
 | mk(x:ae0)(a:T0)(_:vs=[.ref x])(_:nq T H x a)(_:good0 a)(_:∀ l ys H',ah H H'->H l=O->H' l=U (.lst ys)->ax (bA H H') ys (gB a)->Q (.ref l) H')
theorem abB(T:aA):cN 5 T.qq (abA T):=by refine dH zy ?_;rintro y y y y y y y y hr ⟨x,a,rfl,⟨dx,c,hx,hc⟩,ga,q⟩;refine#[_,(aq (az (cD (FO T hr) (b6 Y (aa 0) Y)))),?_];rfl';exact#[_,_,_,hx,T.jm,T.qG,_,Y,NZ T hc ga _ q]
inductive abC(T:aA)(vs:List V)(H:Hp)(Q:VK)(aO:XK):Prop
 | mk(x:ae0)(a:T0)(_:vs=[.ref x])(_:nq T H x a)(_:good0 a)(_:∀ l ys H',ah H H'->H l=O->H' l=U (.lst ys)->ax (bA H H') ys (eV a)->Q (.ref l) H')
theorem abD(T:aA):cN 5 T.qr (abC T):=by refine dH zz ?_;rintro y y y y y y y y hr ⟨x,a,rfl,⟨dx,c,hx,hc⟩,ga,q⟩;refine#[_,(aq (az (cD (FN T hr) (b6 Y (aa 0) Y)))),?_];rfl';exact#[_,_,_,hx,T.jm,T.qG,_,Y,NY T hc ga _ q]
inductive abE(T:aA)(vs:List V)(H:Hp)(Q:VK)(aO:XK):Prop
 | mk(x:ae0)(a:T0)(_:vs=[.ref x])(_:nq T H x a)(_:good0 a)(_:∀ H',ah H H'->Q (.int (iA a)) H')
theorem abF(T:aA):cN 3 T.qm (abE T):=by refine dH zx ?_;rintro y y y y y y y y hr ⟨x,a,rfl,⟨dx,c,hx,hc⟩,ga,q⟩;refine#[_,(aq (az (cD (N0 T hr) (b6 Y (aa 0) Y)))),?_];rfl';exact#[_,_,_,hx,T.jm,T.qG,_,Y,abr T hc ga _ q]
inductive abG(T:aA)(vs:List V)(H:Hp)(Q:VK)(aO:XK):Prop
 | mk(x:ae0)(a:T0)(_:vs=[.ref x])(_:nq T H x a)(_:good0 a)(_:∀ p H',ah H H'->H' p=U (.tup [.int (gB a).length,.int (eV a).length])->Q (.ref p) H')
theorem abH(T:aA):cN 8 T.qt (abG T):=by
 refine dH vM ?_;rintro y y y y H y y y hr ⟨x,a,rfl,⟨dx,c,hx,hc⟩,ga,q⟩;refine#[_,(au (aL 1 vM.nd (cD (Oa T hr) (b6 Y (aa 0) Y))) (aq (az (aT (ae (ak (aa 1) af) (ae (ak (aa 1) af) ag)))))),?_];refine aC (λJ H1=>∃ p1,J=[U (.ref x),U (.ref p1)]/\ah H H1/\H1 p1=U (.tup [.int (eV a).length,.int (gB a).length])) (λN hN=>?_) ?_
 .rfl';exact#[_,_,_,hx,T.jm,T.qG,_,Y,#[c,a,Y,hc,ga,λp H1 s1 hp=>hN _ _ #[p,Y,s1,hp]]]
 rintro y yR J H1 ⟨p1,rfl,s1,cP⟩;subst yR;rfl';exact ay (aj.of cP) Y (ay (aj.of cP) Y #[aX,λp hp=>q p _ (s1.trans (ao hp)) ar])
inductive Tr where
 | leaf (a:T0)|nay (a:T0)
def cp:Tr->Prop
 | .leaf a=>good0 a
 | .nay a=>good0 a
noncomputable def eF:Tr->Int
 | .leaf a=>iA a
 | .nay a=>iA a
noncomputable def a9:Tr->List (List Pa)
 | .leaf a=>eV a
 | .nay a=>gB a
noncomputable def bj:Tr->List (List Pa)
 | .leaf a=>gB a
 | .nay a=>eV a
def dS(T:aA)(H:Hp)(x:ae0):Tr->Prop
 | .leaf a=>fU T H x a
 | .nay a=>nq T H x a
theorem dS.same{T:aA}{H H':Hp}{x:ae0}{tr:Tr}(h:dS T H x tr)(s:ah H H'):dS T H' x tr:=by
 cases tr
 case leaf=>exact fU.same h s
 case nay=>exact nq.same h s
inductive Aq(T:aA)(f:Tr->List (List Pa))(x:V)(H:Hp)(Q:VK):Prop
 | mk(a:ae0)(tr:Tr)(_:x = .ref a)(_:dS T H a tr)(_:cp tr)(_:∀ l ys H',ah H H'->H l=O->H' l=U (.lst ys)->ax (bA H H') ys (f tr)->Q (.ref l) H')
inductive Ob(T:aA)(x:V)(H:Hp)(Q:VK):Prop
 | mk(a:ae0)(tr:Tr)(_:x = .ref a)(_:dS T H a tr)(_:cp tr)(_:∀ H',ah H H'->Q (.int (eF tr)) H')
inductive EvS(T:aA)(x:V)(H:Hp)(Q:VK):Prop
 | mk(a:ae0)(tr:Tr)(_:x = .ref a)(_:dS T H a tr)(_:cp tr)(_:∀ p H',ah H H'->H' p=U (.tup [.int (a9 tr).length,.int (bj tr).length])->Q (.ref p) H')
theorem wI(T:aA)(hr:bc n A)(hn:5<=n:=by decide)(x:V)(H:Hp)(Q:VK)(h:Aq T a9 x H Q):iq P w K mg base A "ways" x H Q:=by
 obtain⟨x,tr,rfl,he,hg,cont⟩:=h;replace hr:=hr.mono hn;cases tr with
 | leaf a=>exact FN T hr (by decide) _ _ _ #[x,a,Y,he,hg,cont]
 | nay a =>
  obtain⟨dx,c,hx,hc⟩:=id he;exact .of hx T.jm T.YI (abB T) hr T.qq.b #[x,a,Y,he,hg,cont]
theorem wJ(T:aA)(hr:bc n A)(hn:5<=n:=by decide)(x:V)(H:Hp)(Q:VK)(h:Aq T bj x H Q):iq P w K mg base A "breaks" x H Q:=by
 obtain⟨x,tr,rfl,he,hg,cont⟩:=h;replace hr:=hr.mono hn;cases tr with
 | leaf a=>exact FO T hr (by decide) _ _ _ #[x,a,Y,he,hg,cont]
 | nay a =>
  obtain⟨dx,c,hx,hc⟩:=id he;exact .of hx T.jm T.YJ (abD T) hr T.qr.b #[x,a,Y,he,hg,cont]
theorem FR(T:aA)(hr:bc n A)(hn:3<=n:=by decide)(x:V)(H:Hp)(Q:VK)(h:Ob T x H Q):iq P w K mg base A "far" x H Q:=by
 obtain⟨x,tr,rfl,he,hg,cont⟩:=h;replace hr:=hr.mono hn;cases tr with
 | leaf a=>exact N0 T hr (by decide) _ _ _ #[x,a,Y,he,hg,cont]
 | nay a =>
  obtain⟨dx,c,hx,hc⟩:=id he;exact .of hx T.jm T.YH (abF T) hr T.qm.b #[x,a,Y,he,hg,cont]
theorem wK(T:aA)(hr:bc n A)(hn:8<=n:=by decide)(x:V)(H:Hp)(Q:VK)(h:EvS T x H Q):iq P w K mg base A "sizes" x H Q:=by
 obtain⟨x,tr,rfl,he,hg,cont⟩:=h;replace hr:=hr.mono hn;cases tr with
 | leaf a=>exact Oa T hr (by decide) _ _ _ #[x,a,Y,he,hg,cont]
 | nay a =>
  obtain⟨dx,c,hx,hc⟩:=id he;exact .of hx T.jm T.YG (abH T) hr T.qt.b #[x,a,Y,he,hg,cont]
theorem Ar(T:aA){H:Hp}{x:ae0}{tr:Tr}(he:dS T H x tr)(hg:cp tr)(Q:VK)(cont:∀ l ys H',ah H H'->H l=O->H' l=U (.lst ys)->ax (bA H H') ys (a9 tr)->Q (.ref l) H'):Aq T a9 (.ref x) H Q:=#[x,tr,Y,he,hg,cont]
theorem As(T:aA){H:Hp}{x:ae0}{tr:Tr}(he:dS T H x tr)(hg:cp tr)(Q:VK)(cont:∀ l ys H',ah H H'->H l=O->H' l=U (.lst ys)->ax (bA H H') ys (bj tr)->Q (.ref l) H'):Aq T bj (.ref x) H Q:=#[x,tr,Y,he,hg,cont]
theorem Oc(T:aA){H:Hp}{x:ae0}{tr:Tr}(he:dS T H x tr)(hg:cp tr)(Q:VK)(cont:∀ H',ah H H'->Q (.int (eF tr)) H'):Ob T (.ref x) H Q:=#[x,tr,Y,he,hg,cont]
theorem wL(hg:cp tr)(hj:eF tr<t):(∀ ps∈bj tr,ps.length<=100/\cf t ps)/\(∀ ps∈a9 tr,ps.length<=100/\cf t ps)/\(bj tr).length<=200/\(a9 tr).length<=200:=by
 cases tr with
 | leaf a=>exact N5 hg hj
 | nay a =>
  obtain⟨a,b,c,d⟩:=N5 hg hj;exact#[b,a,d,c]
theorem Od(hg:cp tr)(hj:eF tr<t):(∀ ps∈bj tr,ps.length<=900/\cf t ps)/\(∀ ps∈a9 tr,ps.length<=900/\cf t ps)/\(bj tr).length<=200/\(a9 tr).length<=200:=let ⟨a,b,c,d⟩:=wL hg hj;#[λp h=>#[aeT (a p h).1 (by decide),(a p h).2],λp h=>#[aeT (b p h).1 (by decide),(b p h).2],c,d]
theorem wM(hg:cp tr):0<=eF tr:=by
 cases tr with
 | leaf a=>exact Ap hg
 | nay a=>exact Ap hg
def gC(C:ae0)(T:aA)(H:Hp)(x:ae0)(a b:Tr):Prop:=∃ dx c1 c2,H x=U (.ins C dx [("one",.ref c1),("other",.ref c2)])/\dS T H c1 a/\dS T H c2 b
theorem gC.same(h:gC C T H x a b)(s:ah H H'):gC C T H' x a b:=let ⟨dx,c1,c2,h1,h2,h3⟩:=h;#[dx,c1,c2,s _ _ h1,h2.same s,h3.same s]
theorem g9(hg:cp tr):(∀ ps∈bj tr,ps.length<=900)/\(∀ ps∈a9 tr,ps.length<=900)/\(bj tr).length<=200/\(a9 tr).length<=200:=let ⟨a,b,c,d⟩:=Od hg (Int.lt_succ _);#[λp h=>(a p h).1,λp h=>(b p h).1,c,d]
inductive abI(T:aA)(vs:List V)(H:Hp)(Q:VK)(aO:XK):Prop
 | mk(x:ae0)(a b:Tr)(_:vs=[.ref x])(_:gC T.bX T H x a b)(_:cp a)(_:cp b)(_:∀ l ys H',ah H H'->H l=O->H' l=U (.lst ys)->ax (bA H H') ys (fj (a9 a) (a9 b))->Q (.ref l) H')
theorem abJ(T:aA):cN 7 T.qh (abI T):=by refine dH zr ?_;rintro y y y y y y y y hr ⟨x,a,b,rfl,⟨dx,c1,c2,hx,h1,h2⟩,ga,gb,q⟩;refine#[_,(aq (az (aD (N6 T) hr (ae (cD (wI T hr) (b6 Y (aa 0) Y)) (ae (cD (wI T hr) (b6 Y (aa 0) Y)) ag))))),?_];obtain⟨FU,FV,qU,qV⟩:=g9 ga;obtain⟨FW,FX,qW,qX⟩:=g9 gb;rfl';refine#[_,_,_,hx,T.gv,T.qC,_,Y,Ar T h1 ga _ λl1 nr H1 s1 f1 gO nu=>?_];rfl';refine#[_,_,_,s1 _ _ hx,T.gv,T.qD,_,Y,Ar T (h2.same s1) gb _ λl2 nv H2 s2 f2 ba ny=>?_];exact#[l1,l2,nr,nv,_,_,Y,s2 _ _ gO,ba,nu.imp λy y r=>(bA.cm r).same s2,ny.imp λy y r=>bA.cm r,by assumption,by assumption,by assumption,by assumption,λl zs H3 s3 fl hl hz=>q l zs H3 (s1.trans (s2.trans s3)) ((s1.trans s2).free fl) hl (hz.imp λy y r=>r.back (s1.trans s2))]
inductive abK(T:aA)(vs:List V)(H:Hp)(Q:VK)(aO:XK):Prop
 | mk(x:ae0)(a b:Tr)(_:vs=[.ref x])(_:gC T.bX T H x a b)(_:cp a)(_:cp b)(_:∀ l ys H',ah H H'->H l=O->H' l=U (.lst ys)->ax (bA H H') ys (bj a++bj b)->Q (.ref l) H')
theorem abL(T:aA):cN 7 T.qi (abK T):=by refine dH zt ?_;rintro y y y y y y y y hr ⟨x,a,b,rfl,⟨dx,c1,c2,hx,h1,h2⟩,ga,gb,q⟩;refine#[_,(aq (az (aJ kT (cD (wJ T hr) (b6 Y (aa 0) Y)) (cD (wJ T hr) (b6 Y (aa 0) Y))))),?_];obtain⟨FU,FV,qU,qV⟩:=g9 ga;obtain⟨FW,FX,qW,qX⟩:=g9 gb;rfl';refine#[_,_,_,hx,T.gv,T.qC,_,Y,As T h1 ga _ λl1 nr H1 s1 f1 gO nu=>?_];rfl';refine#[_,_,_,s1 _ _ hx,T.gv,T.qD,_,Y,As T (h2.same s1) gb _ λl2 nv H2 s2 f2 ba ny=>?_];have e1:=nu.len;have e2:=ny.len;refine#[l2,Y,_,s2 _ _ gO,_,ba,aeT (by lia:nr.length+nv.length<=400) (by decide),λc hc=>?_];have uc:=ao (o:=.lst (nr++nv)) hc;exact q c _ _ (s1.trans (s2.trans uc)) ((s1.trans s2).free hc) ar (ax.app (nu.imp λy y r=>r.same (s2.trans uc)) (ny.imp λy y r=>(r.back s1).same uc))
inductive abM(T:aA)(vs:List V)(H:Hp)(Q:VK)(aO:XK):Prop
 | mk(x:ae0)(a b:Tr)(_:vs=[.ref x])(_:gC T.bY T H x a b)(_:cp a)(_:cp b)(_:∀ l ys H',ah H H'->H l=O->H' l=U (.lst ys)->ax (bA H H') ys (fj (bj a) (bj b))->Q (.ref l) H')
theorem abN(T:aA):cN 7 T.qk (abM T):=by refine dH zv ?_;rintro y y y y y y y y hr ⟨x,a,b,rfl,⟨dx,c1,c2,hx,h1,h2⟩,ga,gb,q⟩;refine#[_,(aq (az (aD (N6 T) hr (ae (cD (wJ T hr) (b6 Y (aa 0) Y)) (ae (cD (wJ T hr) (b6 Y (aa 0) Y)) ag))))),?_];obtain⟨FU,FV,qU,qV⟩:=g9 ga;obtain⟨FW,FX,qW,qX⟩:=g9 gb;rfl';refine#[_,_,_,hx,T.gx,T.qE,_,Y,As T h1 ga _ λl1 nr H1 s1 f1 gO nu=>?_];rfl';refine#[_,_,_,s1 _ _ hx,T.gx,T.qF,_,Y,As T (h2.same s1) gb _ λl2 nv H2 s2 f2 ba ny=>?_];exact#[l1,l2,nr,nv,_,_,Y,s2 _ _ gO,ba,nu.imp λy y r=>(bA.cm r).same s2,ny.imp λy y r=>bA.cm r,by assumption,by assumption,by assumption,by assumption,λl zs H3 s3 fl hl hz=>q l zs H3 (s1.trans (s2.trans s3)) ((s1.trans s2).free fl) hl (hz.imp λy y r=>r.back (s1.trans s2))]
inductive abO(T:aA)(vs:List V)(H:Hp)(Q:VK)(aO:XK):Prop
 | mk(x:ae0)(a b:Tr)(_:vs=[.ref x])(_:gC T.bY T H x a b)(_:cp a)(_:cp b)(_:∀ l ys H',ah H H'->H l=O->H' l=U (.lst ys)->ax (bA H H') ys (a9 a++a9 b)->Q (.ref l) H')
theorem abP(T:aA):cN 7 T.qj (abO T):=by refine dH zu ?_;rintro y y y y y y y y hr ⟨x,a,b,rfl,⟨dx,c1,c2,hx,h1,h2⟩,ga,gb,q⟩;refine#[_,(aq (az (aJ kT (cD (wI T hr) (b6 Y (aa 0) Y)) (cD (wI T hr) (b6 Y (aa 0) Y))))),?_];obtain⟨FU,FV,qU,qV⟩:=g9 ga;obtain⟨FW,FX,qW,qX⟩:=g9 gb;rfl';refine#[_,_,_,hx,T.gx,T.qE,_,Y,Ar T h1 ga _ λl1 nr H1 s1 f1 gO nu=>?_];rfl';refine#[_,_,_,s1 _ _ hx,T.gx,T.qF,_,Y,Ar T (h2.same s1) gb _ λl2 nv H2 s2 f2 ba ny=>?_];have e1:=nu.len;have e2:=ny.len;refine#[l2,Y,_,s2 _ _ gO,_,ba,aeT (by lia:nr.length+nv.length<=400) (by decide),λc hc=>?_];have uc:=ao (o:=.lst (nr++nv)) hc;exact q c _ _ (s1.trans (s2.trans uc)) ((s1.trans s2).free hc) ar (ax.app (nu.imp λy y r=>r.same (s2.trans uc)) (ny.imp λy y r=>(r.back s1).same uc))
noncomputable def eG(a b:Int):Int:=if a<b then b else a
inductive abQ(T:aA)(vs:List V)(H:Hp)(Q:VK)(aO:XK):Prop
 | mk(x C:ae0)(a b:Tr)(_:vs=[.ref x])(_:gC C T H x a b)(_:bR K C)(_:cc K C "one")(_:cc K C "other")(_:cp a)(_:cp b)(_:∀ H',ah H H'->Q (.int (eG (eF a) (eF b))) H')
theorem Oe(T:aA):cN 5 T.lM (abQ T):=by refine dH zp ?_;rintro y y y y y y y y hr ⟨x,C,a,b,rfl,⟨dx,c1,c2,hx,h1,h2⟩,hc,n1,n2,ga,gb,q⟩;refine#[_,(aq (az (cR (QD Y) (by rfl) T.qB uF (ae (cD (FR T hr) (b6 Y (aa 0) Y)) (ae (cD (FR T hr) (b6 Y (aa 0) Y)) ag))))),?_];rfl';refine#[_,_,_,hx,hc,n1,_,Y,Oc T h1 ga _ λH1 s1=>?_];rfl';refine#[_,_,_,s1 _ _ hx,hc,n2,_,Y,Oc T (h2.same s1) gb _ λH2 s2=>?_];rfl';exact q _ (s1.trans s2)
def Of(a b:Tr):Prop:=(a9 a).length * (a9 b).length<=100/\(bj a).length+(bj b).length<=100
def Og(a b:Tr):Prop:=(a9 a).length+(a9 b).length<=100/\(bj a).length * (bj b).length<=100
inductive abR(T:aA)(vs:List V)(H:Hp)(Q:VK)(aO:XK):Prop
 | mk(x:ae0)(a b:Tr)(_:vs=[.ref x])(_:gC T.bX T H x a b)(_:cp a)(_:cp b)(_:∀ p H',ah H H'->H' p=U (.tup [.int (((a9 a).length:Int) * (a9 b).length),.int (((bj a).length:Int)+(bj b).length)])->Q (.ref p) H')
theorem Oh(T:aA):cN 10 T.oA (abR T):=by
 refine dH sW ?_;rintro y y y y H y y y hr ⟨x,a,b,rfl,⟨dx,c1,c2,hx,h1,h2⟩,ga,gb,q⟩;refine#[_,(au (aL 1 sW.nd (cD (wK T hr) (b6 Y (aa 0) Y))) (au (aL 2 sW.nd (cD (wK T hr) (b6 Y (aa 0) Y))) (aq (az (aT (ae (aJ ik (ak (aa 1) af) (ak (aa 2) af)) (ae (aJ bV (ak (aa 1) af) (ak (aa 2) af)) ag))))))),?_];obtain⟨y,y,qU,qV⟩:=g9 ga;obtain⟨y,y,qW,qX⟩:=g9 gb;refine aC (λJ H1=>∃ p1,J=[U (.ref x),U (.ref p1),O]/\ah H H1/\H1 p1=U (.tup [.int (a9 a).length,.int (bj a).length])) (λN hN=>?_) ?_
 .rfl';exact#[_,_,_,hx,T.gv,T.qC,_,Y,#[c1,a,Y,h1,ga,λp H1 s1 hp=>hN _ _ #[p,Y,s1,hp]]]
 rintro y yR J H1 ⟨p1,rfl,s1,cP⟩;subst yR;refine aC (λJ H2=>∃ p2,J=[U (.ref x),U (.ref p1),U (.ref p2)]/\ah H1 H2/\H2 p2=U (.tup [.int (a9 b).length,.int (bj b).length])) (λN hN=>?_) ?_
 .rfl';exact#[_,_,_,s1 _ _ hx,T.gv,T.qD,_,Y,#[c2,b,Y,h2.same s1,gb,λp H2 s2 hp=>hN _ _ #[p,Y,s2,hp]]]
 rintro y yR J H2 ⟨p2,rfl,s2,dD⟩;subst yR;replace cP:=s2 _ _ cP;rfl';refine aE cP (aE dD ?_);rfl';exact#[rH (by lia) (by lia),ay (aj.of cP) Y (ay (aj.of dD) Y #[aX,λp hp=>q p _ (s1.trans (s2.trans (ao hp))) ar])]
inductive abS(T:aA)(vs:List V)(H:Hp)(Q:VK)(aO:XK):Prop
 | mk(x:ae0)(a b:Tr)(_:vs=[.ref x])(_:gC T.bY T H x a b)(_:cp a)(_:cp b)(_:∀ p H',ah H H'->H' p=U (.tup [.int (((a9 a).length:Int)+(a9 b).length),.int (((bj a).length:Int) * (bj b).length)])->Q (.ref p) H')
theorem Oi(T:aA):cN 10 T.oB (abS T):=by
 refine dH sX ?_;rintro y y y y H y y y hr ⟨x,a,b,rfl,⟨dx,c1,c2,hx,h1,h2⟩,ga,gb,q⟩;refine#[_,(au (aL 1 sX.nd (cD (wK T hr) (b6 Y (aa 0) Y))) (au (aL 2 sX.nd (cD (wK T hr) (b6 Y (aa 0) Y))) (aq (az (aT (ae (aJ bV (ak (aa 1) af) (ak (aa 2) af)) (ae (aJ ik (ak (aa 1) af) (ak (aa 2) af)) ag))))))),?_];obtain⟨y,y,qU,qV⟩:=g9 ga;obtain⟨y,y,qW,qX⟩:=g9 gb;refine aC (λJ H1=>∃ p1,J=[U (.ref x),U (.ref p1),O]/\ah H H1/\H1 p1=U (.tup [.int (a9 a).length,.int (bj a).length])) (λN hN=>?_) ?_
 .rfl';exact#[_,_,_,hx,T.gx,T.qE,_,Y,#[c1,a,Y,h1,ga,λp H1 s1 hp=>hN _ _ #[p,Y,s1,hp]]]
 rintro y yR J H1 ⟨p1,rfl,s1,cP⟩;subst yR;refine aC (λJ H2=>∃ p2,J=[U (.ref x),U (.ref p1),U (.ref p2)]/\ah H1 H2/\H2 p2=U (.tup [.int (a9 b).length,.int (bj b).length])) (λN hN=>?_) ?_
 .rfl';exact#[_,_,_,s1 _ _ hx,T.gx,T.qF,_,Y,#[c2,b,Y,h2.same s1,gb,λp H2 s2 hp=>hN _ _ #[p,Y,s2,hp]]]
 rintro y yR J H2 ⟨p2,rfl,s2,dD⟩;subst yR;replace cP:=s2 _ _ cP;rfl';refine aE cP (aE dD ?_);rfl';exact ay (aj.of cP) Y (ay (aj.of dD) Y #[rH (by lia) (by lia),aX,λp hp=>q p _ (s1.trans (s2.trans (ao hp))) ar])
inductive abT(C:ae0)(vs:List V)(H:Hp)(Q:VK)(aO:XK):Prop
 | mk(x dx:ae0)(v:V)(_:vs=[.ref x,v])(_:H x=U (.ins C dx []))(_:Q .non (upd H x (.ins C dx [("one",v)])))
theorem abU(T:aA):cN 1 T.ql (abT T.cK):=by refine dH zw ?_;rintro y y y y y y y y y ⟨x,dx,v,rfl,hx,q⟩;refine#[_,(aq (jg (aa 0) (aa 1) Y)),?_];rfl';exact#[_,_,_,hx,T.jm,T.qG,(by show 0<1000;decide),q]
inductive abV(T:aA)(vs:List V)(H:Hp)(Q:VK)(E:XK):Prop
 | mk(H0:Hp)(x C dx c1 c2:ae0)(a b:Tr)(_:vs=[.ref x,.ref c1,.ref c2])(_:H x=U (.ins C dx []))(_:H0 x=O)(_:ah H0 H)(_:((C=T.bX/\Of a b)∨(C=T.bY/\Og a b)))(_:dS T H0 c1 a)(_:dS T H0 c2 b)(_:cp a)(_:cp b)(_:∀ H',ah H0 H'->H' x=U (.ins C dx [("one",.ref c1),("other",.ref c2)])->Q .non H')
theorem Oj(T:aA):cN 12 T.lL (abV T):=by
 refine sQ zo ?_;rintro y y y y y y y y hr ⟨H0,x,C,dx,c1,c2,a,b,rfl,hx,fx,s0,hC,h1,h2,ga,gb,q⟩;refine#[_,(au (jg (aa 0) (aa 1) Y) (au (jg (aa 0) (aa 2) Y) (aq (aH (pX (cR (Yh Y) (by rfl) T.qB uF (ae (WG (Lp (aa 0) (Oh T) hr.m T.oA.b .nil bS) (Lp (aa 0) (Oi T) hr.m T.oB.b .nil bS)) ag)) (yA T.YV Y)) (aq (kU kW Y T.Yl T.EL Y (ae aU ag))) aG)))),?_];obtain⟨cC,n1,n2⟩:bR K C/\cc K C "one" /\ cc K C "other" := by
  rcases hC with ⟨rfl,y⟩|⟨rfl,y⟩
  .exact#[T.gv,T.qC,T.qD]
  .exact#[T.gx,T.qE,T.qF]
 refine aC (λJ H1=>J=[U (.ref x),U (.ref c1),U (.ref c2)]/\ah H0 H1/\H1 x=U (.ins C dx [("one",.ref c1)])) (λN hN=>?_) ?_
 .rfl';exact#[_,_,_,hx,cC,n1,(by show 0<1000;decide),hN _ _ #[Y,jb fx s0,ar]]
 rintro y yR J H1 ⟨rfl,s1,qL⟩;subst yR;refine aC (λJ H2=>J=[U (.ref x),U (.ref c1),U (.ref c2)]/\ah H0 H2/\H2 x=U (.ins C dx [("one",.ref c1),("other",.ref c2)])) (λN hN=>?_) ?_
 .rfl';exact#[_,_,_,qL,cC,n2,(by show 1<1000;decide),hN _ _ #[Y,jb fx s1,ar]]
 rintro y yR J H2 ⟨rfl,s2,oQ⟩;subst yR;have mx:∀ m n:Int,m<=100->n<=100->¬ eL [m,n] > 100:=λm n h1 h2 z=>by have:=(mq (ns:=[m,n]) (by simp)).1;simp only[ae2,agC,or_false] at this;lia
 rfl';rcases hC with ⟨rfl,z1,z2⟩|⟨rfl,z1,z2⟩
 .refine .inl #[_,_,_,oQ,T.gv,T.MF,Y,x,a,b,Y,#[dx,c1,c2,oQ,h1.same s2,h2.same s2],ga,gb,λp H3 s3 hp=>?_];rfl';refine#[[_,_],aj.of hp,by simp,?_];rw[if_neg (mx _ _ (by rw[<- ahF];lia) (by lia))];exact q _ (s2.trans s3) (s3 _ _ oQ)
 .refine .inr #[_,_,_,oQ,T.gx,T.MG,Y,x,a,b,Y,#[dx,c1,c2,oQ,h1.same s2,h2.same s2],ga,gb,λp H3 s3 hp=>?_];rfl';refine#[[_,_],aj.of hp,by simp,?_];rw[if_neg (mx _ _ (by lia) (by rw[<- ahF];lia))];exact q _ (s2.trans s3) (s3 _ _ oQ)
inductive Te where
 | leaf (a:Tr)|both (a b:Tr)|either (a b:Tr)
def bQ(T:aA)(H:Hp)(x:ae0):Te->Prop
 | .leaf a=>dS T H x a
 | .both a b=>gC T.bX T H x a b
 | .either a b=>gC T.bY T H x a b
def dZ:Te->Prop
 | .leaf a=>cp a
 | .both a b=>(cp a/\cp b)/\Of a b
 | .either a b=>(cp a/\cp b)/\Og a b
noncomputable def br:Te->Int
 | .leaf a=>eF a
 | .both a b=>eG (eF a) (eF b)
 | .either a b=>eG (eF a) (eF b)
noncomputable def bE:Te->List (List Pa)
 | .leaf a=>a9 a
 | .both a b=>fj (a9 a) (a9 b)
 | .either a b=>a9 a++a9 b
noncomputable def b8:Te->List (List Pa)
 | .leaf a=>bj a
 | .both a b=>bj a++bj b
 | .either a b=>fj (bj a) (bj b)
theorem bQ.same(h:bQ T H x te)(s:ah H H'):bQ T H' x te:=by
 cases te
 case leaf=>exact dS.same h s
 all_goals exact gC.same h s
inductive Au(T:aA)(f:Te->List (List Pa))(x:V)(H:Hp)(Q:VK):Prop
 | mk(a:ae0)(tr:Te)(_:x = .ref a)(_:bQ T H a tr)(_:dZ tr)(_:∀ l ys H',ah H H'->H l=O->H' l=U (.lst ys)->ax (bA H H') ys (f tr)->Q (.ref l) H')
inductive Ol(T:aA)(x:V)(H:Hp)(Q:VK):Prop
 | mk(a:ae0)(tr:Te)(_:x = .ref a)(_:bQ T H a tr)(_:dZ tr)(_:∀ H',ah H H'->Q (.int (br tr)) H')
theorem wN(T:aA)(hr:bc n A)(hn:7<=n:=by decide)(x:V)(H:Hp)(Q:VK)(h:Au T bE x H Q):iq P w K mg base A "ways" x H Q:=by
 obtain⟨x,tr,rfl,he,hg,cont⟩:=h;replace hr:=hr.mono hn;cases tr with
 | leaf a=>exact wI T hr (by decide) _ _ _ #[x,a,Y,he,hg,cont]
 | both a b =>
  obtain⟨dx,c1,c2,hx,y⟩:=id he;exact .of hx T.gv T.Yz (abJ T) hr T.qh.b #[x,a,b,Y,he,hg.1.1,hg.1.2,cont]
 | either a b =>
  obtain⟨dx,c1,c2,hx,y⟩:=id he;exact .of hx T.gx T.YD (abP T) hr T.qj.b #[x,a,b,Y,he,hg.1.1,hg.1.2,cont]
theorem wO(T:aA)(he:bQ T H x tr)(hg:dZ tr)(Q:VK)(cont:∀ l ys H',ah H H'->H l=O->H' l=U (.lst ys)->ax (bA H H') ys (bE tr)->Q (.ref l) H'):Au T bE (.ref x) H Q:=#[x,tr,Y,he,hg,cont]
theorem Av(T:aA)(hr:bc n A)(hn:7<=n:=by decide)(x:V)(H:Hp)(Q:VK)(h:Au T b8 x H Q):iq P w K mg base A "breaks" x H Q:=by
 obtain⟨x,tr,rfl,he,hg,cont⟩:=h;replace hr:=hr.mono hn;cases tr with
 | leaf a=>exact wJ T hr (by decide) _ _ _ #[x,a,Y,he,hg,cont]
 | both a b =>
  obtain⟨dx,c1,c2,hx,y⟩:=id he;exact .of hx T.gv T.YA (abL T) hr T.qi.b #[x,a,b,Y,he,hg.1.1,hg.1.2,cont]
 | either a b =>
  obtain⟨dx,c1,c2,hx,y⟩:=id he;exact .of hx T.gx T.YE (abN T) hr T.qk.b #[x,a,b,Y,he,hg.1.1,hg.1.2,cont]
theorem Aw(T:aA)(he:bQ T H x tr)(hg:dZ tr)(Q:VK)(cont:∀ l ys H',ah H H'->H l=O->H' l=U (.lst ys)->ax (bA H H') ys (b8 tr)->Q (.ref l) H'):Au T b8 (.ref x) H Q:=#[x,tr,Y,he,hg,cont]
theorem Ax(T:aA)(hr:bc n A)(hn:5<=n:=by decide)(x:V)(H:Hp)(Q:VK)(h:Ol T x H Q):iq P w K mg base A "far" x H Q:=by
 obtain⟨x,tr,rfl,he,hg,cont⟩:=h;replace hr:=hr.mono hn;cases tr with
 | leaf a=>exact FR T hr (by decide) _ _ _ #[x,a,Y,he,hg,cont]
 | both a b =>
  obtain⟨dx,c1,c2,hx,y⟩:=id he;exact .of hx T.gv T.Yy (Oe T) hr T.lM.b #[x,T.bX,a,b,Y,he,T.gv,T.qC,T.qD,hg.1.1,hg.1.2,cont]
 | either a b =>
  obtain⟨dx,c1,c2,hx,y⟩:=id he;exact .of hx T.gx T.YC (Oe T) hr T.lM.b #[x,T.bY,a,b,Y,he,T.gx,T.qE,T.qF,hg.1.1,hg.1.2,cont]
theorem Ay(T:aA)(he:bQ T H x tr)(hg:dZ tr)(Q:VK)(cont:∀ H',ah H H'->Q (.int (br tr)) H'):Ol T (.ref x) H Q:=#[x,tr,Y,he,hg,cont]
theorem max_lt(h:eG a b<t):a<t/\b<t:=by unfold eG at h;split at h<;>lia
theorem Oo(ha:∀ ps∈as,ps.length<=100/\cf t ps)(hb:∀ ps∈bs,ps.length<=100/\cf t ps):∀ ps∈fj as bs,ps.length<=900/\cf t ps:=λps h=>by
 unfold fj at h;obtain⟨a,h1,h⟩:=aho.mp h;obtain⟨b,h2,rfl⟩:=aeY.mp h;obtain⟨l1,k1⟩:=ha a h1;obtain⟨l2,k2⟩:=hb b h2;refine#[by rw[ae1];lia,λp hp=>?_];rcases afq.mp hp with z|z
 .exact k1 p z
 .exact k2 p z
theorem Oq{t:Int}{as bs:List (List Pa)}(ha:∀ ps∈as,ps.length<=100/\cf t ps)(hb:∀ ps∈bs,ps.length<=100/\cf t ps):∀ ps∈as++bs,ps.length<=900/\cf t ps:=λps h=>by
 rcases afq.mp h with z|z
 .exact#[aeT (ha ps z).1 (by decide),(ha ps z).2]
 .exact#[aeT (hb ps z).1 (by decide),(hb ps z).2]
theorem tS(hg:dZ tr)(hj:br tr<t):(∀ ps∈b8 tr,ps.length<=900/\cf t ps)/\(∀ ps∈bE tr,ps.length<=900/\cf t ps)/\(b8 tr).length<=200/\(bE tr).length<=200:=by
 cases tr with
 | leaf a=>exact Od hg hj
 | both a b =>
  obtain⟨⟨ga,gb⟩,z1,z2⟩:=hg;obtain⟨j1,j2⟩:=max_lt hj;obtain⟨a1,a2,y,y⟩:=wL ga j1;obtain⟨b1,b2,y,y⟩:=wL gb j2;refine#[Oq a1 b1,Oo a2 b2,?_,?_]
  .show (bj a++bj b).length<=200;rw[ae1];lia
  .show (fj (a9 a) (a9 b)).length<=200;rw[qT];lia
 | either a b =>
  obtain⟨⟨ga,gb⟩,z1,z2⟩:=hg;obtain⟨j1,j2⟩:=max_lt hj;obtain⟨a1,a2,y,y⟩:=wL ga j1;obtain⟨b1,b2,y,y⟩:=wL gb j2;refine#[Oo a1 b1,Oq a2 b2,?_,?_]
  .show (fj (bj a) (bj b)).length<=200;rw[qT];lia
  .show (a9 a++a9 b).length<=200;rw[ae1];lia
theorem abW(hg:dZ tr):0<=br tr:=by
 cases tr with
 | leaf a=>exact wM hg
 | both a b =>
  have h1:=wM hg.1.1;have h2:=wM hg.1.2;show 0<=eG _ _;unfold eG;split<;>lia
 | either a b =>
  have h1:=wM hg.1.1;have h2:=wM hg.1.2;show 0<=eG _ _;unfold eG;split<;>lia
def wQ(u d t m:Int)(tb:Tb)(cl:List (List Pa)):Prop:=iW u d t m tb []/\∀ ps∈cl,¬ iW u d t m tb ps
def hJ(u d t m:Int)(tb:Tb)(cl:List (List Pa))(H:Hp)(k:ae0):Prop:=∃ cs L ps,ps∈cl/\H k=U (.lst (cs.map V.int))/\cs.length=t.toNat/\jQ (dY u d ps (t-1).toNat) (fg ps t.toNat) tb m L (bU cs)
theorem hJ.same(h:hJ u d t m tb cl H k)(s:ah H H'):hJ u d t m tb cl H' k:=let ⟨cs,L,ps,a,b,c⟩:=h;#[cs,L,ps,a,s _ _ b,c]
theorem hJ.un(h:hJ u d t m tb cl H k):¬ wQ u d t m tb cl:=λz=>let ⟨cs,L,ps,a,_,_,c⟩:=h;z.2 ps a #[L,_,c]
inductive abX(T:aA)(vs:List V)(H:Hp)(Q:VK)(E:XK):Prop
 | mk(x p v:ae0)(e t u d m:Int)(tr:Te)(tb:Tb)(_:vs=[.ref x,.ref v])(_:dn T.aZ H x e t u d m p tb)(_:fS e t u d m)(_:bZ e t tb)(_:tb.length<=60)(_:bQ T H v tr)(_:dZ tr)(_:(¬ br tr<t->∀ H',ah H H'->E (.ref T.fD) O H'))(_:(br tr<t->(¬ wQ u d t m tb (b8 tr)->∀ r z H',ah H H'->H' r=U (.tup [.str "none",z])->fi u d t m tb H' z []->Q (.ref r) H')/\(wQ u d t m tb (b8 tr)->∀ r k zs H',ah H H'->H' r=U (.tup [.str "yes",.ref k])->H' k=U (.lst zs)->ax (fi u d t m tb H') zs (b8 tr)->Q (.ref r) H')/\(¬ wQ u d t m tb (b8 tr)->iW u d t m tb []->∀ r k zs H',ah H H'->H' r=U (.tup [.str "no",.ref k])->H' k=U (.lst zs)->ax (fi u d t m tb H') zs (bE tr)->Q (.ref r) H')/\(¬ wQ u d t m tb (b8 tr)->∀ r k1 k2 H',ah H H'->H' r=U (.tup [.str "open",.ref k1,.ref k2])->hJ u d t m tb (bE tr) H' k1->hJ u d t m tb (b8 tr) H' k2->Q (.ref r) H')))
theorem Ot(T:aA):aP 22 T.tx (abX T):=by
 refine jh tj ?_;rintro n A n n H n n n hr ⟨x,p,v,e,t,u,d,m,tr,tb,rfl,hB,gy,aR,bC,hv,hg,q0,q⟩;refine#[_,(au (aH (bJ (bO (jC (aa 0) T.cM T.wa (wm T) hr.m T.kz.b .nil bS (ae (cD (Ax T hr) (aa 1)) ag)))) (aq (kU kW Y T.EE T.zY Y (ae aU ag))) aG) (au (aL 2 tj.nd (ip (Ft T) hr (ae (aa 0) (ae (dj ag) ag)))) (au (aH (bp (ak (aa 2) af) aU) (aq (az (aT (ae aU (ae (ak (aa 2) af) ag))))) aG) (au (aL 3 tj.nd (ip (NW T) hr (ae (aa 0) (ae (cD (Av T hr) (aa 1)) ag)))) (au (aH (bp (ak (aa 3) af) aU) (aq (az (aT (ae aU (ae (ak (aa 3) af) ag))))) aG) (au (aL 4 tj.nd (ip (NW T) hr (ae (aa 0) (ae (cD (wN T hr) (aa 1)) ag)))) (au (aH (bp (ak (aa 4) af) aU) (aq (az (aT (ae aU (ae (ak (aa 4) af) ag))))) aG) (aq (az (aT (ae aU (ae (ak (aa 4) af) (ae (ak (aa 3) af) ag))))))))))))),?_];obtain⟨⟨e1,e7⟩,⟨t1,t2⟩,u0,d0,m0,me⟩:=id gy;refine aC (λJ H1=>J=[U (.ref x),U (.ref v),O,O,O]/\ah H H1/\br tr<t) (λN hN=>?_) ?_
 .obtain⟨⟨bx,hx⟩,hT⟩:=id hB;obtain⟨kvs,hkv,n⟩:=hT;rfl';refine#[_,_,hx,Y,Ay T hv hg _ λH1 s1=>?_];refine#[x,p,e,t,u,d,m,_,kvs,Y,#[#[bx,s1 _ _ hx],s1 _ _ hkv],?_];by_cases hf:br tr<t
  .rw[decide_eq_true #[abW hg,hf]];exact hN _ _ #[Y,s1,hf]
  .rw[decide_eq_false λz=>hf z.2];exact#[by show 1<=afl;decide,q0 hf _ s1]
 rintro n yR J H1 ⟨rfl,tT,hf⟩;subst yR;replace hB:=hB.same tT;replace hv:=hv.same tT;obtain⟨qn,qy,qo,qp⟩:=q hf;replace qn:=λa r z H' s b c=>qn a r z H' (tT.trans s) b c;replace qy:=λa r k zs H' s b c d=>qy a r k zs H' (tT.trans s) b c d;replace qo:=λa a2 r k zs H' s b c d=>qo a a2 r k zs H' (tT.trans s) b c d;replace qp:=λa r k1 k2 H' s b c d=>qp a r k1 k2 H' (tT.trans s) b c d;obtain⟨bo,wo,bl,wl⟩:=tS hg hf;refine aC (λJ H2=>∃ a z y,J=[U (.ref x),U (.ref v),U (.ref a),O,O]/\ah H1 H2/\H2 a=U (.tup [.str y,z])/\((iW u d t m tb []/\y = "may")∨(¬ iW u d t m tb []/\y = "never" /\ fi u d t m tb H2 z []))) (λN hN=>?_) ?_
 .rfl';refine#[afi _,λb hb=>?_];have sb:=ao (o:=.lst []) hb;have oP:cf t []:=λp hp=>by cases hp
  refine#[x,p,b,e,t,u,d,m,[],[],tb,Y,hB.same sb,aR,bC,t1,t2,by lia,e7,m0,by lia,ai.of ar,trivial,afi _,λz=>absurd oP z,λn a H2 s2 A=>?_];by_cases hh:iW u d t m tb []
  .obtain⟨L0,c0,F0⟩:=id hh;obtain⟨rr,rfl,⟨z,hrr,hn⟩|⟨k9,cs,L,hrr,jq,n,hcs,F⟩⟩:=FI (by rw[FH,oO];lia) (λr hr=>by rw[oO];have:=(aR.2 r hr).2;lia) A
   .exact absurd F0 (hn _ _)
   .exact hN _ _ #[rr,_,_,Y,sb.trans s2,hrr,.inl #[hh,Y]]
  .obtain⟨rr,z,rfl,hrr,hR⟩:=NV A λL c F=>hh #[L,c,F];exact hN _ _ #[rr,_,_,Y,sb.trans s2,hrr,.inr #[hh,Y,hR]]
 rintro n yR J H2 ⟨a,z,y,rfl,s2,ha,ca⟩;subst yR;refine aC (λJ H3=>J=[U (.ref x),U (.ref v),U (.ref a),O,O]/\H3=H2/\iW u d t m tb []) (λN hN=>?_) ?_
 .rfl';refine aE ha ?_;rcases ca with ⟨hh,rfl⟩|⟨hh,rfl,hR⟩
  .rfl';rw[if_neg (by decide)];exact hN _ _ #[Y,Y,hh]
  .rfl';refine ay (aj.of ha) Y #[aX,λr hr=>qn (λz=>hh z.1) r _ _ (s2.trans (ao hr)) ar (gZ.same hR (ao hr))]
 rintro n yR J H3 ⟨rfl,rfl,hh⟩;subst yR;refine aC (λJ H4=>∃ w,J=[U (.ref x),U (.ref v),U (.ref a),U (.ref w),O]/\ah H1 H4/\((∃ k,H4 w=U (.tup [.str "may",.ref k])/\hJ u d t m tb (b8 tr) H4 k)∨(∃ k zs,H4 w=U (.tup [.str "never",.ref k])/\H4 k=U (.lst zs)/\ax (fi u d t m tb H4) zs (b8 tr)/\∀ ps∈b8 tr,¬ iW u d t m tb ps))) (λN hN=>?_) ?_
 .rfl';refine Aw T (hv.same s2) hg _ λb ys H4 s4 n hb hC=>?_;refine#[x,p,b,e,t,u,d,m,tb,ys,_,Y,(hB.same s2).same s4,gy,aR,bC,hb,hC.imp λn n r=>bA.cm r,bl,bo,λr k9 cs L ps H5 s5 pin hr hk bw F=>hN _ _ #[r,Y,s2.trans (s4.trans s5),.inl #[k9,hr,cs,L,ps,pin,hk,bw,F]],λr k9 zs H5 s5 hr jq hR ck=>hN _ _ #[r,Y,s2.trans (s4.trans s5),.inr #[k9,zs,hr,jq,hR,ck]]]
 rintro n yR J H4 ⟨w,rfl,s4,cw⟩;subst yR;refine aC (λJ H5=>J=[U (.ref x),U (.ref v),U (.ref a),U (.ref w),O]/\H5=H4/\∃ k,H4 w=U (.tup [.str "may",.ref k])/\hJ u d t m tb (b8 tr) H4 k) (λN hN=>?_) ?_
 .rfl';rcases cw with ⟨k,hw,hf⟩|⟨k9,zs,hw,jq,hR,ck⟩
  .refine aE hw ?_;rfl';rw[if_neg (by decide)];exact hN _ _ #[Y,Y,k,hw,hf]
  .refine aE hw ?_;rfl';refine ay (aj.of hw) Y #[aX,λr hr=>qy #[hh,ck] r k9 zs _ (s4.trans (ao hr)) ar ((ao hr) _ _ jq) (hR.imp λn n h=>gZ.same h (ao hr))]
 rintro n yR J H5 ⟨rfl,rfl,k2,hw,wR⟩;subst yR;refine aC (λJ H6=>∃ b,J=[U (.ref x),U (.ref v),U (.ref a),U (.ref w),U (.ref b)]/\ah H5 H6/\((∃ k,H6 b=U (.tup [.str "may",.ref k])/\hJ u d t m tb (bE tr) H6 k)∨(∃ k zs,H6 b=U (.tup [.str "never",.ref k])/\H6 k=U (.lst zs)/\ax (fi u d t m tb H6) zs (bE tr)))) (λN hN=>?_) ?_
 .rfl';refine wO T (hv.same s4) hg _ λb ys H6 s6 n hb hC=>?_;refine#[x,p,b,e,t,u,d,m,tb,ys,_,Y,(hB.same s4).same s6,gy,aR,bC,hb,hC.imp λn n r=>bA.cm r,wl,wo,λr k9 cs L ps H7 s7 pin hr hk bw F=>hN _ _ #[r,Y,s6.trans s7,.inl #[k9,hr,cs,L,ps,pin,hk,bw,F]],λr k9 zs H7 s7 hr jq hR ck=>hN _ _ #[r,Y,s6.trans s7,.inr #[k9,zs,hr,jq,hR]]]
 rintro n yR J H6 ⟨b,rfl,s6,cb⟩;subst yR;have S6:=s4.trans s6;have un:=wR.un;rfl';rcases cb with ⟨k1,hb,Az⟩|⟨k9,zs,hb,jq,hR⟩
 .refine aE hb ?_;rfl';rw[if_neg (by decide)];refine ay (aj.of hb) Y (ay (aj.of (s6 _ _ hw)) Y #[by decide,λr hr=>?_]);have ur:=ao (o:=.tup [.str "open",.ref k1,.ref k2]) hr;exact qp un r k1 k2 _ (S6.trans ur) ar (Az.same ur) (wR.same (s6.trans ur))
 .refine aE hb ?_;rfl';refine ay (aj.of hb) Y #[aX,λr hr=>qo un hh r k9 zs _ (S6.trans (ao hr)) ar ((ao hr) _ _ jq) (hR.imp λn n h=>gZ.same h (ao hr))]
theorem abY(s:S2)(n:Int):(fv s).any (λo=>hold o.1 o.2 n) = !hold s.1 s.2 n:=by
 obtain⟨a,b⟩:=s;rcases a with y|a<;>rcases b with y|b
 .simp[fv,hold,aY]
 all_goals (rw[agp];simp[fv,hold,aY];lia)
theorem FY(cs:List Int)(ps:List Pa):(cE ps).any (aM cs) = !aM cs ps:=by
 unfold cE;rw[al6]
 induction ps with
 | nil=>rfl
 | cons p ps ih =>
  rw[afX,ih,akD];have e:((fv p.2.2).any (aM cs ∘ λo=>[((p.1,p.2.1,o):Pa)])) = !hold p.2.2.1 p.2.2.2 (gi cs p.1 p.2.1):=by
   rw[<- abY]
   congr 1
   funext o;simp[aM]
  rw[e];simp only[aM,aiM,ans]
theorem FZ(hg:good0 tr)(cs:List Int):(gB tr).any (aM cs) = !(eV tr).any (aM cs):=by
 have one:∀ ps:List Pa,([ps].any (aM cs))=aM cs ps:=λps=>am1 _;cases tr with
 | over i j s =>
  show ([el i j (O,U (s-1))].any (aM cs)) = !((cE (el i j (O,U (s-1)))).any (aM cs));rw[one,FY,alX]
 | lies i tb =>
  show ([fT (cg tb i)].any (aM cs)) = !((cE (fT (cg tb i))).any (aM cs));rw[one,FY,alX]
theorem abZ{u d t m:Int}{tb:Tb}{ps:List Pa}{L:List Int}{c:Nat->Int}(F:jQ (dY u d ps (t-1).toNat) (fg ps t.toNat) tb m L c){k:Nat}{s:S2}(hk:(k:Int)<t)(hm:(("at",(k:Int),s):Pa)∈ps):(∀ a,s.1=U a->a<=c k)/\∀ a,s.2=U a->c k<=a:=yF.mp (F.2.2.1 k (gh (O,O) (sel _ "at" (k:Int))) (by unfold fg;rw[ae5,af5 (by lia)];rfl)) s (NU (p:=("at",(k:Int),s)) hm)
theorem Ou(oP:cf t ps)(F:jQ (dY u d ps (t-1).toNat) (fg ps t.toNat) tb m L (bU cs)):aM cs ps=true:=by
 unfold aM;refine afT.mpr λp hp=>?_;obtain⟨kd,j,s⟩:=p;have ok:=oP _ hp;refine pE.mpr ?_;unfold gi;by_cases e:kd = "step"
 .subst e;obtain⟨j0,j1⟩:=Ks.mp ok;rw[if_pos Y];obtain⟨n,rfl⟩:∃ n:Nat,j=n:=#[j.toNat,by lia]
  have:=yF.mp (F.2.1 n (gh (O,O) ((U (-d),U u)::sel ps "step" (n:Int))) (by unfold dY;rw[ae5,af5 (by lia)];rfl)) s (.tail _ (NU (p:=("step",(n:Int),s)) hp));exact this
 .obtain⟨rfl,j0,j1⟩:=(Cj e).mp ok;rw[if_neg e];obtain⟨n,rfl⟩:∃ n:Nat,j=n:=#[j.toNat,by lia]
  exact abZ F (k:=n) (s:=s) (by lia) hp
theorem wU(hg:cp tr)(cs:List Int):(bj tr).any (aM cs) = !(a9 tr).any (aM cs):=by
 cases tr with
 | leaf a=>exact FZ hg cs
 | nay a =>
  show (eV a).any (aM cs) = !(gB a).any (aM cs);rw[FZ hg,alX]
theorem ab0(cs:List Int)(a b:List Pa):aM cs (a++b)=(aM cs a && aM cs b):=by unfold aM;rw[amD]
theorem ab1(cs:List Int)(a:List Pa)(bs:List (List Pa)):(bs.map λb=>a++b).any (aM cs)=(aM cs a && bs.any (aM cs)):=by
 induction bs with
 | nil=>simp
 | cons b bs ih =>
  rw[ae7,afX,ih,afX,ab0];cases aM cs a<;>rfl
theorem F3(cs:List Int)(as bs:List (List Pa)):(fj as bs).any (aM cs)=(as.any (aM cs) && bs.any (aM cs)):=by
 unfold fj;rw[al6]
 induction as with
 | nil=>rfl
 | cons a as ih =>
  rw[afX,afX,ih,ab1];cases aM cs a<;>cases as.any (aM cs)<;>cases bs.any (aM cs)<;>rfl
theorem Ov(hg:dZ tr)(cs:List Int):(b8 tr).any (aM cs) = !(bE tr).any (aM cs):=by
 cases tr with
 | leaf a=>exact wU hg cs
 | both a b =>
  show (bj a++bj b).any (aM cs) = !(fj (a9 a) (a9 b)).any (aM cs);rw[akE,F3,wU hg.1.1,wU hg.1.2,ans]
 | either a b =>
  show (fj (bj a) (bj b)).any (aM cs) = !(a9 a++a9 b).any (aM cs);rw[akE,F3,wU hg.1.1,wU hg.1.2,Bool.not_or]
theorem ab2(hg:dZ tr)(hf:br tr<t)(hp:ps∈bE tr)(F:jQ (dY u d ps (t-1).toNat) (fg ps t.toNat) tb m L (bU cs)):(bE tr).any (aM cs)=true:=agc.mpr #[ps,hp,Ou ((tS hg hf).2.1 ps hp).2 F]
theorem ab3(hg:dZ tr)(hf:br tr<t)(hp:ps∈b8 tr)(F:jQ (dY u d ps (t-1).toNat) (fg ps t.toNat) tb m L (bU cs)):(bE tr).any (aM cs)=false:=by have h:(b8 tr).any (aM cs)=true:=agc.mpr #[ps,hp,Ou ((tS hg hf).1 ps hp).2 F];rw[Ov hg] at h;simpa using h
theorem Ow(h:cf t ps)(ht:t<=(cs.length:Int)):∀ p∈ps,wt cs p.1 p.2.1:=λp hp=>by
 have h:=h p hp;by_cases z:p.1 = "step"
 .rw[z] at h ⊢;have:=Ks.mp h;exact#[by lia,by lia,λv=>by lia]
 .have:=(Cj z).mp h;exact#[by lia,by lia,λy=>absurd y z]
inductive ab4(T:aA)(vs:List V)(H:Hp)(Q:VK)(aO:XK):Prop
 | mk(v a:ae0)(te:Te)(cs:List Int)(_:vs=[.ref v,.ref a])(_:bQ T H v te)(_:dZ te)(_:ai K H a (cs.map V.int))(_:br te<(cs.length:Int))(_:∀ H',ah H H'->Q (.bl ((bE te).any (aM cs))) H')
theorem Ox(T:aA):cN 10 T.gV (ab4 T):=by
 refine dH ze ?_;rintro y y y s H y Q y hr ⟨v,a,te,cs,rfl,hE,hg,hS,hf,q⟩;refine#[_,(aq (az (cR (yi Y) (by rfl) T.zS xU (ae (cU (cO [1] [mU]) Y (cI (cD (wN T hr) (aa 0))) (λC s2 H2 ex pn=>#[df,(aD (ZY T) hr (ae (aa 1) (ae (aa 0) ag)))])) ag)))),?_];obtain⟨y,w1,y,w2⟩:=tS hg hf;rfl';refine wO T hE hg _ λl ys H1 s1 y hl hyf=>?_;rfl';have hy:=hyf.imp λy y r=>r.cl;have hlen:=hy.len;refine#[#[_,ai.of hl],cn gK (aeT (by lia:ys.length<=200) (by decide)) (mw (R:=Gz.cB) (p:=λy=>true) (f:=λps=>.bl (aM cs ps)) (λy y y y s h=>h.same s) hy (λH' s'=>ai.of (s' _ _ hl)) (λx ps y H2 s2 r Q h=>?_) (λx ps eN y H2 s2 r Q h=>?_) λH2 s2=>?_)]
 .rfl';exact h _ (ah.refl _)
 .obtain⟨c,xs,rfl,hc,hP⟩:=r;have dz:=(w1 ps eN).1;rfl';exact#[a,c,cs,xs,ps,Y,(s1.trans s2).seq hS,ai.of hc,hP,by lia,Ow (w1 ps eN).2 (afS _),λH3 s3=>h H3 s3]
 .rw[ae6,filter_tt];intro m hm;refine#[m,Y,(bE te).map (aM cs),ai.of ?_,?_]
  .rw[ar,afA];rfl
  .rw[akD];exact q _ (s1.trans (s2.trans (ao hm)))
def hU(H:Hp)(p:ae0):Tr->Prop
 | .leaf a=>tR H p a
 | .nay a=>∃ q,H p=U (.tup [.str "not",.ref q])/\tR H q a
def iX(H:Hp)(p:ae0):Te->Prop
 | .leaf a=>hU H p a
 | .both a b=>∃ q1 q2,H p=U (.tup [.str "both",.ref q1,.ref q2])/\hU H q1 a/\hU H q2 b
 | .either a b=>∃ q1 q2,H p=U (.tup [.str "either",.ref q1,.ref q2])/\hU H q1 a/\hU H q2 b
theorem tR.tp(h:tR H p a)(s:∀ a xs,H a=U (.tup xs)->H' a=U (.tup xs)):tR H' p a:=by cases a<;>exact s _ _ h
theorem hU.tp(h:hU H p a)(s:∀ a xs,H a=U (.tup xs)->H' a=U (.tup xs)):hU H' p a:=by
 cases a
 case leaf=>exact tR.tp h s
 case nay=>obtain⟨q,a,b⟩:=h;exact#[q,s _ _ a,b.tp s]
theorem iX.tp(h:iX H p te)(s:∀ a xs,H a=U (.tup xs)->H' a=U (.tup xs)):iX H' p te:=by
 cases te
 case leaf=>exact hU.tp h s
 all_goals (obtain⟨q1,q2,a,b,c⟩:=h;exact#[q1,q2,s _ _ a,b.tp s,c.tp s])
theorem iX.same(h:iX H p te)(s:ah H H'):iX H' p te:=h.tp λa xs e=>s a _ e
theorem hU.same(h:hU H p te)(s:ah H H'):hU H' p te:=h.tp λa xs e=>s a _ e
def F6(tb:Tb):T0->Prop
 | .over _ _ _=>True
 | .lies _ cA=>cA=tb
def tU(tb:Tb):Tr->Prop
 | .leaf a=>F6 tb a
 | .nay a=>F6 tb a
def nz(tb:Tb):Te->Prop
 | .leaf a=>tU tb a
 | .both a b=>tU tb a/\tU tb b
 | .either a b=>tU tb a/\tU tb b
noncomputable def fV:Tr->Nat
 | .leaf _=>0
 | .nay _=>1
noncomputable def qY:Te->Nat
 | .leaf a=>fV a
 | _=>2
theorem fE(a:Tr):fV a<=1:=by
 cases a with
 | leaf _=>exact afi _
 | nay _=>exact aeV _
theorem ab5:(cE (fT (cg tb i))).any (aM cs) = !(((tb.filter λr=>decide (r.1.1=i)).map λr=>hs r.2 (dU cs r.1.2.toNat)).all id):=by
 rw[FY]
 congr 1
 rw[agp];unfold aM fT;rw[aji,aji,afT,afT];constructor
 .intro h r hr;obtain⟨h1,h2⟩:=afr.mp hr;have:=h (r.1.2.toNat,r.2) (pO.mpr #[r,h1,of_decide_eq_true h2,Y]);exact this
 .intro h k hk;obtain⟨r,hr,e,rfl⟩:=pO.mp hk;exact h r (afr.mpr #[hr,decide_eq_true e])
inductive F7(N:Nat)(vs:List V)(H:Hp)(Q:VK)(aO:XK):Prop
 | mk(p w a:ae0)(e t:Int)(te:Te)(tb:Tb)(cs:List Int)(_:vs=[.ref p,.ref w,.ref a])(_:iX H p te)(_:qY te<N)(_:nz tb te)(_:dZ te)(_:TabAt H w tb)(_:bZ e t tb)(_:tb.length<=60)(_:ai K H a (cs.map V.int))(_:cs.length<=100)(_:br te<(cs.length:Int))(_:∀ H',ah H H'->Q (.bl ((bE te).any (aM cs))) H')
theorem ab6(T:aA)(N:Nat)(ih:aP (N+2) T.vU (F7 N)):aP (N+1+2) T.vU (F7 (N+1)):=by
 refine bb vR ?_;rintro y y y s H y Q y hr ⟨p,w,a,e,t,te,tb,cs,rfl,hp,hh,ho,hg,hT,aR,bC,hS,hn,hf,q⟩;refine#[_,(au (aH (bp (ak (aa 0) af) aU) (aq (az (sP (aD (hk:=by lia) ih hr (ae (ak (aa 0) af) (ae (aa 1) (ae (aa 2) ag))))))) aG) (au (aH (bp (ak (aa 0) af) aU) (aq (az (gI (lG Hi) (cR (Jf Y) (by rfl) T.qB uF (ae (xP Bl (aa 2) (uA (ak (aa 0) af)) (uA (aJ bV (ak (aa 0) af) af))) ag)) (ak (aa 0) af) (d8 _)))) aG) (au (aH (bp (ak (aa 0) af) aU) (aq (az (gR (aD (hk:=by lia) ih hr (ae (ak (aa 0) af) (ae (aa 1) (ae (aa 2) ag)))) (fH (aD (hk:=by lia) ih hr (ae (ak (aa 0) af) (ae (aa 1) (ae (aa 2) ag)))))))) aG) (au (aH (bp (ak (aa 0) af) aU) (aq (az (vE (aD (hk:=by lia) ih hr (ae (ak (aa 0) af) (ae (aa 1) (ae (aa 2) ag)))) (fH (aD (hk:=by lia) ih hr (ae (ak (aa 0) af) (ae (aa 1) (ae (aa 2) ag)))))))) aG) (au (ve (rM (i:=3) (cO [1,2,0] [iP,fQ,iu]) Y vR.nd Y Y (vg (aa 1)) (λC s2 H2 ex pn=>#[(jG (bp (bW (K:=K) (aa 0) af) (bW (K:=K) (aa 3) af))),(aD (hk:=by lia) (z6 T) hr (ae (Cf (gJ hr) (aa 1) (aa 0) (λy y=>rfl)) (ae (bW (K:=K) (aa 2) (bW (K:=K) (aa 0) af)) ag)))]))) (aq (az (sP (cR (uQ Y) (by rfl) T.vX uG (ae (aa 3) ag)))))))))),?_];cases te with
 | leaf tr =>
  cases tr with
  | nay a' =>
   obtain⟨q1,hp,h1⟩:=hp;have hh:1<N+1:=hh;rfl'
   repeat (refine aE hp ?_;rfl')
   refine#[q1,w,a,e,t,.leaf (.leaf a'),tb,cs,Y,h1,(by show 0<N;lia),ho,hg,hT,aR,bC,hS,hn,hf,λH1 s1=>?_];have ee:(bE (.leaf (.nay a'))).any (aM cs) = !(bE (.leaf (.leaf a'))).any (aM cs):=FZ hg cs;rw[ee] at q;rfl';exact q _ s1
  | leaf t0 =>
   cases t0 with
   | over i j s =>
    replace hp:H p=U (.tup [.str "over",.int i,.int j,.int s]):=hp;replace hf:j<(cs.length:Int):=hf;obtain⟨g1,g2,g3⟩:=(hg:jU i j)
    rfl'
    repeat (refine aE hp ?_;rfl')
    refine#[_,hS,?_];rw[WL g1 g2 hf];intro d hd;have sd:=ao (o:=.lst (((afp (j+1-i).toNat).map (pR cs i)).map V.int)) hd;refine#[_,ai.of ar,by simp;lia,aE (sd _ _ hp) ?_];rfl';have:=q _ sd;rw[show decide (s<=eL ((afp (j+1-i).toNat).map (pR cs i)))=(bE (.leaf (.leaf (.over i j s)))).any (aM cs) from by
     rw[agp,decide_eq_true_eq,WN (by lia)];exact WM.symm]
    exact this
   | lies i cA =>
    obtain rfl:cA=tb:=ho;replace hp:H p=U (.tup [.str "lies",.int i]):=hp;replace hf:iV (cg cA i)<(cs.length:Int):=hf;obtain⟨kvs,hk,hA⟩:=id hT;rfl'
    repeat (refine aE hp ?_;rfl')
    rw[if_neg (by decide)];refine#[w,kvs,hk,λo=>?_];have iQ:upd H w (.aN o (.dT kvs)) p=U (.tup [.str "lies",.int i]):=sy hk hp (u:=.aN o (.dT kvs));have w3:upd H w (.aN o (.dT kvs)) w=U (.aN o (.dT kvs)):=ar;have iR:=hA.aN hk (u:=.aN o (.dT kvs));have qJ:ai K (upd H w (.aN o (.dT kvs))) a (cs.map V.int):=KZ hk hS;have iS:∀ H4,ah (upd H w (.aN o (.dT kvs))) H4->ah H (upd H4 w (.dT kvs)):=λH4 s4=>yM hk s4;refine#[o,kvs,w3,λgA=>?_];have PT:=iR.pH gA;have kl:=PT.len;rw[aeO] at kl;generalize upd H w (.aN o (.dT kvs))=H3 at iQ w3 iR qJ iS PT;have P0:ax (λv (r:P2 × S2)=>dP H3 v r.1) (ff o) cA:=ax.bind PT;refine cn (CH (xs:=ff o) Y (by rw[kl,hA.len])) (aeT (by lia:(ff o).length<=64) (by decide)) (lg (R:=λv (r:P2 × S2)=>dP H3 v r.1) (p:=λr=>decide (r.1.1=i)) (f:=λr=>.bl (hs r.2 (dU cs r.1.2.toNat))) w3 P0 (λv r hr rv Q h=>?_) (λv r hr Oy rv Q h=>?_) ?_)
    .obtain⟨ka,rfl,hka⟩:=rv;rfl';refine aE hka (aE iQ ?_);by_cases z:r.1.1=i
     .rw[decide_eq_true z] at h;rfl';rw[if_pos z];exact h
     .rw[decide_eq_false z] at h;rfl';rw[if_neg z];exact h
    .obtain⟨ka,rfl,hka⟩:=rv;obtain⟨⟨b1,b2⟩,b3,b4⟩:=aR.2 r hr;have z:r.1.1=i:=of_decide_eq_true Oy;have Oz:((r.1.2.toNat:Nat):Int)<=iV (cg cA i):=Ao.2 _ (pO.mpr #[r,hr,z,Y])
     skip
     obtain⟨vv,hvv,va,rfl,hva⟩:=(iR.val r.1).2 _ (sr aR.1 hr);rfl';refine#[.ref va,by rw[<- hvv];exact fM.z (k:=dE r.1.1 r.1.2) w3 hka,ay (aj.of hka) (v:=.int r.1.2) Y (bK qJ ((congrArg (dA _) (show r.1.2=((r.1.2.toNat:Nat):Int) by lia)).trans (fo (K0 (by lia)))) #[va,r.2.1,r.2.2,dU cs r.1.2.toNat,Y,aj.of hva,?_])];rfl';exact h
    .rw[ae6,show ((cA.filter λr=>decide (r.1.1=i)).map λr=>V.bl (hs r.2 (dU cs r.1.2.toNat)))=((cA.filter λr=>decide (r.1.1=i)).map λr=>hs r.2 (dU cs r.1.2.toNat)).map V.bl by rw[afA];rfl];intro l hl;have u:=ao (o:=.lst (((cA.filter λr=>decide (r.1.1=i)).map λr=>hs r.2 (dU cs r.1.2.toNat)).map V.bl)) hl;have w4:=u _ _ w3;refine#[w4,?_];rfl';refine#[_,ai.of (VV w4 ar),?_];rw[<- ab5];exact q _ (iS _ u)
 | both a' b' =>
  obtain⟨q1,q2,hp,h1,h2⟩:=hp;obtain⟨f1,f2⟩:=max_lt hf;have hh:2<N+1:=hh;have l1:=fE a';have l2:=fE b';rfl'
  repeat (refine aE hp ?_;rfl')
  refine#[q1,w,a,e,t,.leaf a',tb,cs,Y,h1,(by show fV a'<N;lia),ho.1,hg.1.1,hT,aR,bC,hS,hn,f1,λH1 s1=>?_];have ee:(bE (.both a' b')).any (aM cs)=((a9 a').any (aM cs) && (a9 b').any (aM cs)):=F3 _ _ _;rw[ee] at q;cases hb:(a9 a').any (aM cs) with
  | false =>
   rw[hb] at q;replace hb:(bE (.leaf a')).any (aM cs)=_:=hb;rw[hb];rfl';exact q _ s1
  | true =>
   rw[hb] at q;replace hb:(bE (.leaf a')).any (aM cs)=_:=hb;rw[hb];rfl';exact ay (aj.of (s1 _ _ hp)) Y #[q2,w,a,e,t,.leaf b',tb,cs,Y,h2.same s1,(by show fV b'<N;lia),ho.2,hg.1.2,hT.same s1,aR,bC,s1.seq hS,hn,f2,λH2 s2=>q _ (s1.trans s2)]
 | either a' b' =>
  obtain⟨q1,q2,hp,h1,h2⟩:=hp;obtain⟨f1,f2⟩:=max_lt hf;have hh:2<N+1:=hh;have l1:=fE a';have l2:=fE b';rfl'
  repeat (refine aE hp ?_;rfl')
  refine#[q1,w,a,e,t,.leaf a',tb,cs,Y,h1,(by show fV a'<N;lia),ho.1,hg.1.1,hT,aR,bC,hS,hn,f1,λH1 s1=>?_];have ee:(bE (.either a' b')).any (aM cs)=((a9 a').any (aM cs) || (a9 b').any (aM cs)):=akE;rw[ee] at q;cases hb:(a9 a').any (aM cs) with
  | true =>
   rw[hb] at q;replace hb:(bE (.leaf a')).any (aM cs)=_:=hb;rw[hb];rfl';exact q _ s1
  | false =>
   rw[hb] at q;replace hb:(bE (.leaf a')).any (aM cs)=_:=hb;rw[hb];rfl';exact ay (aj.of (s1 _ _ hp)) Y #[q2,w,a,e,t,.leaf b',tb,cs,Y,h2.same s1,(by show fV b'<N;lia),ho.2,hg.1.2,hT.same s1,aR,bC,s1.seq hS,hn,f2,λH2 s2=>q _ (s1.trans s2)]
theorem AA(T:aA):∀ N:Nat,aP (N+2) T.vU (F7 N)
 | 0=>by refine bb (k:=1) vR ?_;rintro y y y y y y y y y ⟨y,y,y,y,y,y,y,y,rfl,y,h,y⟩;exact absurd h (agd _)
 | N+1=>ab6 T N (AA T N)
noncomputable def endsN(tb:Tb)(i:Int):Nat:=((tb.filter λr=>decide (r.1.1=i)).map λr=>(fv r.2).length).sum
theorem ab7(s:S2):(([s.1,s.2].filter λq=>q.isSome).map λq=>q.getD 0).length=(fv s).length:=by obtain⟨lo,hi⟩:=s;cases lo<;>cases hi<;>rfl
theorem ab8{tb:Tb}{r:P2 × S2}{n:Nat}{i:Int}(h:tb[n]?=U r):endsN (tb.take (n+1)) i=endsN (tb.take n) i+if r.1.1=i then (fv r.2).length else 0:=by
 unfold endsN;rw[afZ,h,alu,af0,ai4]
 congr 1
 by_cases z:r.1.1=i
 .rw[if_pos z];simp[z]
 .rw[if_neg z];simp[z]
theorem ab9(i:Int):(cE (fT (cg tb i))).length=endsN tb i:=by
 have a:∀ l:List (P2 × S2),(cE (fT (l.map λr=>(r.1.2.toNat,r.2)))).length=(l.map λr=>(fv r.2).length).sum:=by
  intro l
  induction l with
  | nil=>rfl
  | cons r l ih =>
   rw[ae7,ae7,ajY,<- ih];unfold fT cE;rw[ae7,ajI,ae1,aeO]
 unfold cg endsN;rw[a];exact ((pN.filter _).map _).sum_nat
theorem OA(i j x:Int):(cE (el i j (O,U x))).length=(j+1-i).toNat:=by
 unfold cE el;rw[ak5,afA];have:∀ n:Nat,((afp n).map λ(_:Nat)=>1).sum=n:=λn=>by
  induction n with
  | zero=>rfl
  | succ n ih=>rw[amC,af0,ai4,ih];rfl
 exact this _
inductive F8(N:Nat)(vs:List V)(H:Hp)(Q:VK)(aO:XK):Prop
 | mk(p w:ae0)(e t:Int)(te:Te)(tb:Tb)(_:vs=[.ref p,.ref w])(_:iX H p te)(_:qY te<N)(_:nz tb te)(_:dZ te)(_:TabAt H w tb)(_:bZ e t tb)(_:tb.length<=60)(_:∀ r H',ah H H'->H' r=U (.tup [.int (bE te).length,.int (b8 te).length])->Q (.ref r) H')
inductive aca(G:Hp)(p w:ae0)(i:Int)(tb:Tb)(n:Nat)(J:St)(H4:Hp):Prop
 | mk(m:Nat)(e1:Option V)(_:J=[U (.ref p),U (.ref w),U (.int m),e1,O,O])(_:ah G H4)(_:m=endsN (tb.take n) i)(_:m<=2 * n)
theorem acb(T:aA)(N:Nat)(ih:aP (N+1) T.vV (F8 N)):aP (N+1+1) T.vV (F8 (N+1)):=by
 refine bb mX ?_;rintro c c c s H c Q c hr ⟨p,w,e,t,te,tb,rfl,hp,hh,ho,hg,hT,aR,bC,q⟩;refine#[_,(au (aH (bp (ak (aa 0) af) aU) (au (aL 2 mX.nd af) (au (ve (dt afz Y (vg (aa 1)) (cS 3 mX.nd) (aq (aH (bp (ak (aa 3) af) (ak (aa 0) af)) (aq (aL 2 mX.nd (aJ bV (aa 2) (c9 T.cW (ae (cU (cO [] []) Y (oW (uX (gJ hr) (aa 1) (aa 3) (λc c=>rfl))) (λC s2 H2 ex pn=>#[(jG (gQ (aa 0))),(aa 0)])) ag))))) aG)))) (aq (az (aT (ae (aa 2) (ae af ag))))))) aG) (au (aH (bp (ak (aa 0) af) aU) (aq (az (aT (ae (aJ bV (aJ dG (ak (aa 0) af) (ak (aa 0) af)) af) (ae af ag))))) aG) (au (aL 4 mX.nd (aD (hk:=by lia) ih hr (ae (ak (aa 0) af) (ae (aa 1) ag)))) (au (aH (bp (ak (aa 0) af) aU) (aq (az (aT (ae (ak (aa 4) af) (ae (ak (aa 4) af) ag))))) aG) (au (aL 5 mX.nd (aD (hk:=by lia) ih hr (ae (ak (aa 0) af) (ae (aa 1) ag)))) (au (aH (bp (ak (aa 0) af) aU) (aq (az (aT (ae (aJ ik (ak (aa 4) af) (ak (aa 5) af)) (ae (aJ bV (ak (aa 4) af) (ak (aa 5) af)) ag))))) aG) (aq (az (aT (ae (aJ bV (ak (aa 4) af) (ak (aa 5) af)) (ae (aJ ik (ak (aa 4) af) (ak (aa 5) af)) ag))))))))))),?_];cases te with
 | leaf tr =>
  cases tr with
  | nay a' =>
   obtain⟨q1,hp,h1⟩:=hp;have hh:1<N+1:=hh;refine aC (λJ H0=>J=[U (.ref p),U (.ref w),O,O,O,O]/\H=H0) (λN hN=>?_) ?_
   .rfl';refine aE hp ?_;rfl';rw[if_neg (by decide)];exact hN _ _ #[Y,Y]
   rintro c yR J H0 ⟨rfl,rfl⟩;subst yR;refine aC (λJ H0=>J=[U (.ref p),U (.ref w),O,O,O,O]/\H=H0) (λN hN=>?_) ?_
   .rfl';refine aE hp ?_;rfl';rw[if_neg (by decide)];exact hN _ _ #[Y,Y]
   rintro c yR J H0 ⟨rfl,rfl⟩;subst yR;refine aC (λJ H1=>∃ c1,J=[U (.ref p),U (.ref w),O,O,U (.ref c1),O]/\ah H H1/\H1 c1=U (.tup [.int (eV a').length,.int (gB a').length])) (λN hN=>?_) ?_
   .rfl';exact ay (aj.of hp) Y #[q1,w,e,t,.leaf (.leaf a'),tb,Y,h1,(by show 0<_;lia),ho,hg,hT,aR,bC,λr H1 s1 cX=>hN _ _ #[r,Y,s1,cX]]
   rintro c yR J H1 ⟨c1,rfl,s1,fK⟩;subst yR;rfl';refine aE (s1 _ _ hp) ?_;rfl';exact ay (aj.of fK) Y (ay (aj.of fK) Y #[aX,λr hr=>q r _ (s1.trans (ao hr)) ar])
  | leaf t0 =>
   cases t0 with
   | over i j s =>
    replace hp:H p=U (.tup [.str "over",.int i,.int j,.int s]):=hp;obtain⟨g1,g2,g3⟩:=(hg:jU i j)
    refine aC (λJ H0=>J=[U (.ref p),U (.ref w),O,O,O,O]/\H=H0) (λN hN=>?_) ?_
    .rfl';refine aE hp ?_;rfl';rw[if_neg (by decide)];exact hN _ _ #[Y,Y]
    rintro c yR J H0 ⟨rfl,rfl⟩;subst yR;rfl';refine aE hp ?_;rfl';refine aE hp (aE hp ?_);rfl';refine#[aX,λr hr=>q r _ (ao hr) ?_];rw[ar,show ((bE (.leaf (.leaf (.over i j s)))).length:Int)=j-i+1 from by rw[show (bE (.leaf (.leaf (.over i j s)))).length=_ from OA i j (s-1)];lia];rfl
   | lies i cA =>
    obtain rfl:cA=tb:=ho;replace hp:H p=U (.tup [.str "lies",.int i]):=hp;obtain⟨kvs,hkv,hA⟩:=id hT;rfl';refine aE hp ?_;rfl';refine#[w,kvs,hkv,λo=>#[o,kvs,ar,λgA=>?_]];have OB:=hA.aN hkv (u:=.aN o (.dT kvs));have PT:=(hA.aN hkv (u:=.aN o (.dT kvs))).pH gA;have kl:=PT.len;rw[aeO] at kl;have wG:upd H w (.aN o (.dT kvs)) w=U (.aN o (.dT kvs)):=ar;have OC:upd H w (.aN o (.dT kvs)) p=U (.tup [.str "lies",.int i]):=sy hkv hp;have iS:∀ H4,ah (upd H w (.aN o (.dT kvs))) H4->ah H (upd H4 w (.dT kvs)):=λH4 s4=>yM hkv s4;generalize upd H w (.aN o (.dT kvs))=G at OB PT wG OC iS gA;refine KY (xs:=ff o) (aca G p w i cA) Y (by rw[kl,hA.len]) #[0,_,Y,ah.refl _,Y,aeV _] ?_ ?_ ?_
    .rintro n J H4 c ⟨c,c,c,s4,c⟩;exact s4 _ _ wG
    .rintro n v J H4 hv ⟨m,e1,rfl,s4,hm,mO⟩;obtain⟨s0,OD,ka,rfl,hka⟩:=PT.get hv;rw[ae5] at OD;obtain⟨r,hr,rfl⟩:=afv.mp OD;have wx:=ae8 hr;have hil:=(aeW.mp hr).1;obtain⟨vv,hvv,va,rfl,hva⟩:=(OB.val r.1).2 _ (sr aR.1 wx);have tK:=s4 _ _ hka;have nj:=s4 _ _ OC;have es:=ab8 (i:=i) hr;rfl';refine aE tK (aE nj ?_);rfl';refine a7 (λh1=>?_) λh1=>#[m,_,Y,s4,by rw[es,if_neg h1,hm];rfl,by lia]
     rw[if_pos h1] at es;refine#[.ref va,by rw[<- hvv];exact fM.z (k:=dE r.1.1 r.1.2) (s4 _ _ wG) tK,va,Y,#[_,aj.of (s4 _ _ hva)],cn (xs:=[ev r.2.1,ev r.2.2]) rN aX (pJ (R:=λv (q:En)=>v=ev q) (R':=λv (n:Int)=>v=V.int n) (p:=λq=>q.isSome) (f:=λq=>q.getD 0) (as:=[r.2.1,r.2.2]) (aj.of (s4 _ _ hva)) #[Y,Y,trivial] (λv q r Q h=>?_) (λv q hp r Q h=>?_) λzs wB=>?_)]
     .subst r;rfl';cases q with
      | none=>exact h
      | some y=>exact h
     .subst r;rfl';cases q with
      | none=>cases hp
      | some y=>exact h _ rfl
     .intro l5 qN;have op:=ab7 r.2;have o2:=sq r.2;have zl:=wB.len;rw[ae6];refine#[_,eX (ai.of ar),m+zs.length,_,by rw[ahE],s4.trans (ao qN),?_,?_]
      .rw[es,<- hm,zl,op]
      .rw[zl,op];lia
    .rintro J H4 ⟨m,e1,rfl,s4,hm,c⟩;have tl:(ff o).length=cA.length:=kl;rw[tl,afV] at hm;have w4:=s4 _ _ wG;refine#[w4,?_];rfl';refine#[aX,λr hr=>q r _ ((iS _ s4).trans (ao hr)) ?_];rw[ar,hm,<- ab9];rfl
 | both a' b' =>
  obtain⟨q1,q2,hp,h1,h2⟩:=hp;have hh:2<N+1:=hh;have l1:=fE a';have l2:=fE b';obtain⟨c,c,qU,qV⟩:=g9 hg.1.1;obtain⟨c,c,qW,qX⟩:=g9 hg.1.2;refine aC (λJ H0=>J=[U (.ref p),U (.ref w),O,O,O,O]/\H=H0) (λN hN=>?_) ?_
  .rfl';refine aE hp ?_;rfl';rw[if_neg (by decide)];exact hN _ _ #[Y,Y]
  rintro c yR J H0 ⟨rfl,rfl⟩;subst yR;refine aC (λJ H0=>J=[U (.ref p),U (.ref w),O,O,O,O]/\H=H0) (λN hN=>?_) ?_
  .rfl';refine aE hp ?_;rfl';rw[if_neg (by decide)];exact hN _ _ #[Y,Y]
  rintro c yR J H0 ⟨rfl,rfl⟩;subst yR;refine aC (λJ H1=>∃ c1,J=[U (.ref p),U (.ref w),O,O,U (.ref c1),O]/\ah H H1/\H1 c1=U (.tup [.int (a9 a').length,.int (bj a').length])) (λN hN=>?_) ?_
  .rfl';exact ay (aj.of hp) Y #[q1,w,e,t,.leaf a',tb,Y,h1,(by show fV a'<_;lia),ho.1,hg.1.1,hT,aR,bC,λr H1 s1 cX=>hN _ _ #[r,Y,s1,cX]]
  rintro c yR J H1 ⟨c1,rfl,s1,fK⟩;subst yR;have cP:=s1 _ _ hp;refine aC (λJ H0=>J=[U (.ref p),U (.ref w),O,O,U (.ref c1),O]/\H1=H0) (λN hN=>?_) ?_
  .rfl';refine aE cP ?_;rfl';rw[if_neg (by decide)];exact hN _ _ #[Y,Y]
  rintro c yR J H0 ⟨rfl,rfl⟩;subst yR;refine aC (λJ H2=>∃ c2,J=[U (.ref p),U (.ref w),O,O,U (.ref c1),U (.ref c2)]/\ah H1 H2/\H2 c2=U (.tup [.int (a9 b').length,.int (bj b').length])) (λN hN=>?_) ?_
  .rfl';exact ay (aj.of cP) Y #[q2,w,e,t,.leaf b',tb,Y,h2.same s1,(by show fV b'<_;lia),ho.2,hg.1.2,hT.same s1,aR,bC,λr H2 s2 qP=>hN _ _ #[r,Y,s2,qP]]
  rintro c yR J H2 ⟨c2,rfl,s2,j9⟩;subst yR;have dD:=s2 _ _ cP;have fK:=s2 _ _ fK;rfl';refine aE dD ?_;rfl';refine aE fK (aE j9 ?_);rfl';refine#[rH (by lia) (by lia),ay (aj.of fK) Y (ay (aj.of j9) Y #[aX,λr hr=>q r _ (s1.trans (s2.trans (ao hr))) ?_])];rw[ar,show ((bE (.both a' b')).length:Int)=((a9 a').length:Int) * (a9 b').length from by rw[<- ahF];exact congrArg _ (qT _ _),show ((b8 (.both a' b')).length:Int)=((bj a').length:Int)+(bj b').length from by rw[<- ahE];exact congrArg _ ae1]
 | either a' b' =>
  obtain⟨q1,q2,hp,h1,h2⟩:=hp;have hh:2<N+1:=hh;have l1:=fE a';have l2:=fE b';obtain⟨c,c,qU,qV⟩:=g9 hg.1.1;obtain⟨c,c,qW,qX⟩:=g9 hg.1.2;refine aC (λJ H0=>J=[U (.ref p),U (.ref w),O,O,O,O]/\H=H0) (λN hN=>?_) ?_
  .rfl';refine aE hp ?_;rfl';rw[if_neg (by decide)];exact hN _ _ #[Y,Y]
  rintro c yR J H0 ⟨rfl,rfl⟩;subst yR;refine aC (λJ H0=>J=[U (.ref p),U (.ref w),O,O,O,O]/\H=H0) (λN hN=>?_) ?_
  .rfl';refine aE hp ?_;rfl';rw[if_neg (by decide)];exact hN _ _ #[Y,Y]
  rintro c yR J H0 ⟨rfl,rfl⟩;subst yR;refine aC (λJ H1=>∃ c1,J=[U (.ref p),U (.ref w),O,O,U (.ref c1),O]/\ah H H1/\H1 c1=U (.tup [.int (a9 a').length,.int (bj a').length])) (λN hN=>?_) ?_
  .rfl';exact ay (aj.of hp) Y #[q1,w,e,t,.leaf a',tb,Y,h1,(by show fV a'<_;lia),ho.1,hg.1.1,hT,aR,bC,λr H1 s1 cX=>hN _ _ #[r,Y,s1,cX]]
  rintro c yR J H1 ⟨c1,rfl,s1,fK⟩;subst yR;have cP:=s1 _ _ hp;refine aC (λJ H0=>J=[U (.ref p),U (.ref w),O,O,U (.ref c1),O]/\H1=H0) (λN hN=>?_) ?_
  .rfl';refine aE cP ?_;rfl';rw[if_neg (by decide)];exact hN _ _ #[Y,Y]
  rintro c yR J H0 ⟨rfl,rfl⟩;subst yR;refine aC (λJ H2=>∃ c2,J=[U (.ref p),U (.ref w),O,O,U (.ref c1),U (.ref c2)]/\ah H1 H2/\H2 c2=U (.tup [.int (a9 b').length,.int (bj b').length])) (λN hN=>?_) ?_
  .rfl';exact ay (aj.of cP) Y #[q2,w,e,t,.leaf b',tb,Y,h2.same s1,(by show fV b'<_;lia),ho.2,hg.1.2,hT.same s1,aR,bC,λr H2 s2 qP=>hN _ _ #[r,Y,s2,qP]]
  rintro c yR J H2 ⟨c2,rfl,s2,j9⟩;subst yR;have dD:=s2 _ _ cP;have fK:=s2 _ _ fK;rfl';refine aE dD ?_;rfl';rw[if_neg (by decide)];refine aE fK (aE j9 ?_);rfl';refine ay (aj.of fK) Y (ay (aj.of j9) Y #[rH (by lia) (by lia),aX,λr hr=>q r _ (s1.trans (s2.trans (ao hr))) ?_]);rw[ar,show ((bE (.either a' b')).length:Int)=((a9 a').length:Int)+(a9 b').length from by rw[<- ahE];exact congrArg _ ae1,show ((b8 (.either a' b')).length:Int)=((bj a').length:Int) * (bj b').length from by rw[<- ahF];exact congrArg _ (qT _ _)]
theorem OE(T:aA):∀ N:Nat,aP (N+1) T.vV (F8 N)
 | 0=>by refine bb (k:=0) mX ?_;rintro y y y y y y y y y ⟨y,y,y,y,y,y,rfl,y,h,y⟩;exact absurd h (agd _)
 | N+1=>acb T N (OE T N)
theorem OF(a b:Int):eL [a,b]=eG a b:=by obtain⟨h1,h2⟩:=mq (ns:=[a,b]) (by simp);have ha:=h2 a (.head _);have hb:=h2 b (.tail _ (.head _));simp only[ae2,agC,or_false] at h1;unfold eG;split<;>lia
theorem acd(a:Int):eL [a]=a:=by obtain⟨h1,y⟩:=mq (ns:=[a]) (by simp);simpa using h1
theorem ace(h:∀ r∈tb,0<=r.1.2):mr eL ((tb.filter λr=>decide (r.1.1=i)).map λr=>r.1.2) (.int 0) = .int (iV (cg tb i)):=by
 rw[<- NS];have mem:∀ x:Int,x∈((tb.filter λr=>decide (r.1.1=i)).map λr=>r.1.2)↔x∈(cg tb i).map λm=>(m.1:Int):=λx=>by
  constructor
  .intro hx;obtain⟨r,hr,rfl⟩:=aeY.mp hx;obtain⟨h1,h2⟩:=afr.mp hr;refine aeY.mpr #[(r.1.2.toNat,r.2),pO.mpr #[r,h1,of_decide_eq_true h2,Y],?_];exact agG (h r h1)
  .intro hx;obtain⟨m,hm,rfl⟩:=aeY.mp hx;obtain⟨r,hr,e,rfl⟩:=pO.mp hm;exact aeY.mpr #[r,afr.mpr #[hr,decide_eq_true e],(agG (h r hr)).symm]
 generalize ((tb.filter λr=>decide (r.1.1=i)).map λr=>r.1.2)=A at mem;generalize ((cg tb i).map λm=>(m.1:Int))=B at mem;cases A with
 | nil=>cases B with
  | nil=>rfl
  | cons b B=>exact absurd ((mem b).mpr (.head _)) (by simp)
 | cons a A=>cases B with
  | nil=>exact absurd ((mem a).mp (.head _)) (by simp)
  | cons b B =>
   show V.int _=V.int _;obtain⟨a1,a2⟩:=mq (ns:=a::A) (by simp);obtain⟨b1,b2⟩:=mq (ns:=b::B) (by simp);have h1:=a2 _ ((mem _).mpr b1);have h2:=b2 _ ((mem _).mp a1);rw[show eL (a::A)=eL (b::B) by lia]
inductive F9(N:Nat)(vs:List V)(H:Hp)(Q:VK)(aO:XK):Prop
 | mk(p w:ae0)(e t:Int)(te:Te)(tb:Tb)(_:vs=[.ref p,.ref w])(_:iX H p te)(_:qY te<N)(_:nz tb te)(_:TabAt H w tb)(_:bZ e t tb)(_:tb.length<=60)(_:∀ H',ah H H'->Q (.int (br te)) H')
theorem acf(T:aA)(N:Nat)(ih:aP (N+1) T.vW (F9 N)):aP (N+1+1) T.vW (F9 (N+1)):=by
 refine bb zQ ?_;rintro y y y s H y Q y hr ⟨p,w,e,t,te,tb,rfl,hp,hh,ho,hT,aR,bC,q⟩;refine#[_,(au (aH (bp (ak (aa 0) af) aU) (aq (ve (az (BM Y Y T.qB (cU (cO [0] [iu]) Y (vg (aa 1)) (λC s2 H2 ex pn=>#[(jG (bp (bW (K:=K) (aa 0) af) (bW (K:=K) (aa 1) af))),(bW (K:=K) (aa 0) af)])) af)))) aG) (au (aH (bp (ak (aa 0) af) aU) (aq (az (ak (aa 0) af))) aG) (aq (az (cR (Jf Y) (by rfl) T.qB uF (ae (cU (cO [1] [iP]) Y (oW (xP Rh (aa 0) (uA af) Bg)) (λC s2 H2 ex pn=>#[df,(aD (hk:=by lia) ih hr (ae (aa 0) (ae (aa 1) ag)))])) ag)))))),?_];cases te with
 | leaf tr =>
  cases tr with
  | nay a' =>
   obtain⟨q1,hp,h1⟩:=hp;have hh:1<N+1:=hh;rfl'
   repeat (refine aE hp ?_;rfl')
   rw[if_neg (by decide)];refine#[p,_,Y,aj.of hp,λz=>absurd (show (1:Nat)=0 from z.1) (by decide),λc hc=>?_];have uc:=ao (o:=.tup (fJ [.str "not",.ref q1] (U 1) O)) hc;refine#[c,Y,#[_,aj.of ar],cn (xs:=[.ref q1]) rN (aeT (by decide:1<=2) aX) (mw (R:=λH v (a:Tr)=>∃ q,v=V.ref q/\hU H q a) (p:=λy=>true) (f:=λa=>.int (eF a)) (λy y y y s h=>let ⟨q,e,h⟩:=h;#[q,e,h.same s]) (as:=[.leaf a']) #[#[q1,Y,hU.same (te:=.leaf a') h1 uc],trivial] (λH' s'=>aj.of (s' _ _ ar)) (λx a y H2 s2 r Q h=>?_) (λx a ha y H2 s2 r Q h=>?_) λH2 s2=>?_)]
   .rfl';exact h _ (ah.refl _)
   .obtain⟨q0,rfl,wV⟩:=r;rfl';exact#[q0,w,e,t,.leaf a,tb,Y,wV,(by rw[afd.mp ha];show 0<N;lia),(by rw[afd.mp ha];exact ho),hT.same (uc.trans s2),aR,bC,λH3 s3=>h H3 s3]
   .rw[ae6,filter_tt];intro m hm;refine#[m,Y,[iA a'],ai.of ar,by simp,?_];rw[acd];exact q _ (uc.trans (s2.trans (ao hm)))
  | leaf t0 =>
   cases t0 with
   | over i j s =>
    replace hp:H p=U (.tup [.str "over",.int i,.int j,.int s]):=hp;rfl'
    repeat (refine aE hp ?_;rfl')
    exact q _ (ah.refl _)
   | lies i cA =>
    obtain rfl:cA=tb:=ho;replace hp:H p=U (.tup [.str "lies",.int i]):=hp;obtain⟨kvs,hk,hA⟩:=id hT;rfl';refine aE hp ?_;rfl';refine#[w,kvs,hk,λo=>?_];have iQ:upd H w (.aN o (.dT kvs)) p=U (.tup [.str "lies",.int i]):=sy hk hp (u:=.aN o (.dT kvs));have w3:upd H w (.aN o (.dT kvs)) w=U (.aN o (.dT kvs)):=ar;have iR:=hA.aN hk (u:=.aN o (.dT kvs));have iS:∀ H4,ah (upd H w (.aN o (.dT kvs))) H4->ah H (upd H4 w (.dT kvs)):=λH4 s4=>yM hk s4;refine#[o,kvs,w3,λgA=>?_];have PT:=iR.pH gA;have kl:=PT.len;rw[aeO] at kl;generalize upd H w (.aN o (.dT kvs))=H3 at iQ w3 iR iS PT;have P0:ax (λv (r:P2 × S2)=>dP H3 v r.1) (ff o) cA:=ax.bind PT;refine cn (CH (xs:=ff o) Y (by rw[kl,hA.len])) (aeT (by lia:(ff o).length<=64) (by decide)) (lg (R:=λv (r:P2 × S2)=>dP H3 v r.1) (p:=λr=>decide (r.1.1=i)) (f:=λr=>.int r.1.2) w3 P0 (λv r hr rv Q h=>?_) (λv r hr Oy rv Q h=>?_) ?_)
    .obtain⟨ka,rfl,hka⟩:=rv;rfl';refine aE hka (aE iQ ?_);by_cases z:r.1.1=i
     .rw[decide_eq_true z] at h;rfl';rw[if_pos z];exact h
     .rw[decide_eq_false z] at h;rfl';rw[if_neg z];exact h
    .obtain⟨ka,rfl,hka⟩:=rv;rfl';exact ay (aj.of hka) Y h
    .rw[ae6,show ((cA.filter λr=>decide (r.1.1=i)).map λr=>V.int r.1.2)=((cA.filter λr=>decide (r.1.1=i)).map λr=>r.1.2).map V.int from (afA ..).symm];intro l hl;have u:=ao (o:=.lst (((cA.filter λr=>decide (r.1.1=i)).map λr=>r.1.2).map V.int)) hl;refine#[l,Y,_,ai.of ar,u _ _ w3,?_];rw[ace λr hr=>(aR.2 r hr).2.1];exact q _ (iS _ u)
 | both a' b' =>
  obtain⟨q1,q2,hp,h1,h2⟩:=hp;have hh:2<N+1:=hh;have l1:=fE a';have l2:=fE b';rfl'
  repeat (refine aE hp ?_;rfl')
  rw[if_neg (by decide)];refine#[p,_,Y,aj.of hp,λz=>absurd (show (1:Nat)=0 from z.1) (by decide),λc hc=>?_];have uc:=ao (o:=.tup (fJ [.str "both",.ref q1,.ref q2] (U 1) O)) hc;refine#[c,Y,#[_,aj.of ar],cn (xs:=[.ref q1,.ref q2]) rN aX (mw (R:=λH v (a:Tr)=>∃ q,v=V.ref q/\hU H q a) (p:=λy=>true) (f:=λa=>.int (eF a)) (λy y y y s h=>let ⟨q,e,h⟩:=h;#[q,e,h.same s]) (as:=[a',b']) #[#[q1,Y,h1.same uc],#[q2,Y,h2.same uc],trivial] (λH' s'=>aj.of (s' _ _ ar)) (λx a y H2 s2 r Q h=>?_) (λx a ha y H2 s2 r Q h=>?_) λH2 s2=>?_)]
  .rfl';exact h _ (ah.refl _)
  .obtain⟨q0,rfl,wV⟩:=r;rfl';exact#[q0,w,e,t,.leaf a,tb,Y,wV,(by rcases ae2.mp ha with rfl|z;(show fV _<N;lia);rw[afd.mp z];show fV _<N;lia),(by rcases ae2.mp ha with rfl|z;exact ho.1;rw[afd.mp z];exact ho.2),hT.same (uc.trans s2),aR,bC,λH3 s3=>h H3 s3]
  .rw[ae6,filter_tt];intro m hm;refine#[m,Y,[eF a',eF b'],ai.of ar,by simp,?_];rw[OF];exact q _ (uc.trans (s2.trans (ao hm)))
 | either a' b' =>
  obtain⟨q1,q2,hp,h1,h2⟩:=hp;have hh:2<N+1:=hh;have l1:=fE a';have l2:=fE b';rfl'
  repeat (refine aE hp ?_;rfl')
  rw[if_neg (by decide)];refine#[p,_,Y,aj.of hp,λz=>absurd (show (1:Nat)=0 from z.1) (by decide),λc hc=>?_];have uc:=ao (o:=.tup (fJ [.str "either",.ref q1,.ref q2] (U 1) O)) hc;refine#[c,Y,#[_,aj.of ar],cn (xs:=[.ref q1,.ref q2]) rN aX (mw (R:=λH v (a:Tr)=>∃ q,v=V.ref q/\hU H q a) (p:=λy=>true) (f:=λa=>.int (eF a)) (λy y y y s h=>let ⟨q,e,h⟩:=h;#[q,e,h.same s]) (as:=[a',b']) #[#[q1,Y,h1.same uc],#[q2,Y,h2.same uc],trivial] (λH' s'=>aj.of (s' _ _ ar)) (λx a y H2 s2 r Q h=>?_) (λx a ha y H2 s2 r Q h=>?_) λH2 s2=>?_)]
  .rfl';exact h _ (ah.refl _)
  .obtain⟨q0,rfl,wV⟩:=r;rfl';exact#[q0,w,e,t,.leaf a,tb,Y,wV,(by rcases ae2.mp ha with rfl|z;(show fV _<N;lia);rw[afd.mp z];show fV _<N;lia),(by rcases ae2.mp ha with rfl|z;exact ho.1;rw[afd.mp z];exact ho.2),hT.same (uc.trans s2),aR,bC,λH3 s3=>h H3 s3]
  .rw[ae6,filter_tt];intro m hm;refine#[m,Y,[eF a',eF b'],ai.of ar,by simp,?_];rw[OF];exact q _ (uc.trans (s2.trans (ao hm)))
theorem OG(T:aA):∀ N:Nat,aP (N+1) T.vW (F9 N)
 | 0=>by refine bb (k:=0) zQ ?_;rintro y y y y y y y y y ⟨y,y,y,y,y,y,rfl,y,h,y⟩;exact absurd h (agd _)
 | N+1=>acf T N (OG T N)
inductive acg(B C N:ae0)(vs:List V)(H:Hp)(Q:VK)(E:XK):Prop
 | mk(x p:ae0)(e t u d m i:Int)(tb:Tb)(_:vs=[.ref x,.int i])(_:dn B H x e t u d m p tb)(_:bZ e t tb)(_:tb.length<=60)(_:(¬ (0<=i/\i<e)->E (.ref N) O H))(_:(0<=i/\i<e->∀ v H',ah H H'->H v=O->lT C H' v (cg tb i)->Q (.ref v) H'))
theorem ach(T:aA):aP 3 T.Ef (acg T.aZ T.cL T.nc):=by
 refine jh DA ?_;rintro z z z z z z z z hr ⟨x,p,e,t,u,d,m,i,tb,rfl,hB,aR,bC,q0,q⟩;refine#[_,(au (aH (bJ (bO (jC (aa 0) T.cM T.MI (MO T) hr.m T.oG.b .nil bS (ae (aa 1) ag)))) (aq (kU kW Y T.ED T.wc Y (ae aU ag))) aG) (aq (az (o7 T.EJ (abf T) hr.m Y T.Ys T.qu.b .nil bS (ae (aD (M9 T) hr (ae (aa 0) (ae (aa 1) ag))) ag))))),?_];obtain⟨⟨bx,hx⟩,kvs,hkv,hA⟩:=id hB;rfl';refine#[_,_,hx,Y,x,p,e,t,u,d,m,i,kvs,Y,#[#[bx,hx],hkv],?_];by_cases hi:0<=i/\i<e
 .rw[decide_eq_true hi];rfl';refine#[x,p,e,t,u,d,m,i,tb,Y,hB,aR.1,by lia,λr hr=>(aR.2 r hr).2.1,λl ys H1 s1 z hl hY y dy hy hdy ne=>?_];refine#[y,dy,.ref l,Y,ar,Y,?_];rw[oU];have s2:ah H1 (upd (upd H1 dy (.own y)) y (.ins T.cL dy [("marks",.ref l)])):=(ao hdy).trans (ao (by rw[aI (afR ne)];exact hy));exact q hi y _ (s1.trans s2) (s1.free hy) #[dy,l,ys,ar,s2 _ _ hl,hY.imp λz z r=>r.same s2]
 .rw[decide_eq_false hi];rfl';exact#[by decide,q0 hi]
def OH(e:Int):T0->Prop
 | .over _ _ _=>True
 | .lies i _=>0<=i/\i<e
def in1(e:Int):Tr->Prop
 | .leaf a=>OH e a
 | .nay a=>OH e a
def Ga(e:Int):Te->Prop
 | .leaf a=>in1 e a
 | .both a b=>in1 e a/\in1 e b
 | .either a b=>in1 e a/\in1 e b
inductive Gb(T:aA)(N:Nat)(vs:List V)(H:Hp)(Q:VK)(E:XK):Prop
 | mk(p x y:ae0)(e t u d m:Int)(te:Te)(tb:Tb)(_:vs=[.ref p,.ref x])(_:iX H p te)(_:qY te<N)(_:nz tb te)(_:Ga e te)(_:dZ te)(_:dn T.aZ H x e t u d m y tb)(_:bZ e t tb)(_:tb.length<=60)(_:(∀ x H',ah H H'->bQ T H' x te->Q (.ref x) H'))
theorem aci(T:aA)(N:Nat)(ih:aP (N+14) T.eE (Gb T N)):aP (N+1+14) T.eE (Gb T (N+1)):=by
 refine jh zR ?_;rintro c c c s H c c c hr ⟨p,bx,y,e,t,u,d,m,te,tb,rfl,hp,hh,ho,hi,hg,hB,aR,bC,q⟩;refine#[_,(au (aH (bp (ak (aa 0) af) aU) (aq (az (aD (hk:=by lia) (ach T) hr (ae (aa 1) (ae (ak (aa 0) af) ag))))) aG) (au (aH (bp (ak (aa 0) af) aU) (aq (az (o7 T.EF (Zl T) (hr.mono (by lia)) Y T.Yo T.qe.b .nil jc (ae (ak (aa 0) af) (ae (ak (aa 0) af) (ae (ak (aa 0) af) ag)))))) aG) (au (aH (bp (ak (aa 0) af) aU) (aq (az (o7 T.EI (abU T) (hr.mono (by lia)) Y T.Yr T.ql.b .nil bS (ae (dw ih (hr.mono (by lia)) Y T.eE.m T.eE.F.kp T.eE.b .nil jc (ae (ak (aa 0) af) (ae (aa 1) ag))) ag)))) aG) (au (aH (bp (ak (aa 0) af) aU) (aq (az (o7 T.EG (Oj T) (hr.mono (by lia)) Y T.Yp T.lL.b .nil jc (ae (dw ih (hr.mono (by lia)) Y T.eE.m T.eE.F.kp T.eE.b .nil jc (ae (ak (aa 0) af) (ae (aa 1) ag))) (ae (dw ih (hr.mono (by lia)) Y T.eE.m T.eE.F.kp T.eE.b .nil jc (ae (ak (aa 0) af) (ae (aa 1) ag))) ag))))) aG) (aq (az (o7 T.EH (Oj T) (hr.mono (by lia)) Y T.Yq T.lL.b .nil jc (ae (dw ih (hr.mono (by lia)) Y T.eE.m T.eE.F.kp T.eE.b .nil jc (ae (ak (aa 0) af) (ae (aa 1) ag))) (ae (dw ih (hr.mono (by lia)) Y T.eE.m T.eE.F.kp T.eE.b .nil jc (ae (ak (aa 0) af) (ae (aa 1) ag))) ag))))))))),?_];cases te with
 | leaf tr =>
  cases tr with
  | nay a' =>
   obtain⟨q1,hp,h1⟩:=hp;have hh:1<N+1:=hh;rfl'
   repeat (refine aE hp ?_;rfl')
   refine#[q1,bx,y,e,t,u,d,m,.leaf (.leaf a'),tb,Y,h1,(by show 0<N;lia),ho,hi,hg,hB,aR,bC,λx1 H1 s1 e1=>?_];rfl';intro x dx hx ni dR;have M:=uY (C:=T.cK) (fs:=[]) hx ni dR;have S2:=jb (o:=.ins T.cK dx [("one",.ref x1)]) hx M;exact#[x,dx,.ref x1,Y,ar,Y,q x _ (s1.trans S2) #[dx,x1,ar,fU.same e1 S2]]
  | leaf t0 =>
   cases t0 with
   | over i j s =>
    replace hp:H p=U (.tup [.str "over",.int i,.int j,.int s]):=hp;rfl'
    repeat (refine aE hp ?_;rfl')
    intro x dx hx ni dR;have mk:=Vj (C:=T.b7) (fs:=[]) hx ni dR;refine#[x,dx,i,j,_,Y,ar,λz=>absurd hg z,λhk=>#[Y,?_]];refine q x _ (λb o e=>?_) #[dx,ar];rw[aI (λz=>by rw[z,hx] at e;cases e)];exact mk _ _ e
   | lies i cA =>
    obtain rfl:cA=tb:=ho;replace hp:H p=U (.tup [.str "lies",.int i]):=hp;rfl'
    repeat (refine aE hp ?_;rfl')
    exact#[bx,y,e,t,u,d,m,i,_,Y,hB,aR,bC,λz=>absurd hi z,λc v H' s' c hL=>q v H' s' hL]
 | both a' b' =>
  obtain⟨q1,q2,hp,h1,h2⟩:=hp;obtain⟨⟨ga,gb⟩,sz⟩:=id hg;have hh:2<N+1:=hh;have l1:=fE a';have l2:=fE b';rfl'
  repeat (refine aE hp ?_;rfl')
  skip
  skip
  refine#[q1,bx,y,e,t,u,d,m,.leaf a',tb,Y,h1,(by show fV a'<N;lia),ho.1,hi.1,ga,hB,aR,bC,λx1 H1 s1 e1=>?_];rfl';refine ay (aj.of (s1 _ _ hp)) Y #[q2,bx,y,e,t,u,d,m,.leaf b',tb,Y,h2.same s1,(by show fV b'<N;lia),ho.2,hi.2,gb,hB.same s1,aR,bC,λx2 H2 s2 e2=>?_];rfl';intro x dx hx ni dR;have M:=uY (C:=T.bX) (fs:=[]) hx ni dR;exact#[H2,x,T.bX,dx,x1,x2,a',b',Y,ar,hx,M,.inl #[Y,sz],dS.same e1 s2,e2,ga,gb,λH' s' cZ=>#[Y,q x H' (s1.trans (s2.trans s')) #[dx,x1,x2,cZ,dS.same e1 (s2.trans s'),dS.same e2 s']]]
 | either a' b' =>
  obtain⟨q1,q2,hp,h1,h2⟩:=hp;obtain⟨⟨ga,gb⟩,sz⟩:=id hg;have hh:2<N+1:=hh;have l1:=fE a';have l2:=fE b';rfl'
  repeat (refine aE hp ?_;rfl')
  skip
  skip
  refine#[q1,bx,y,e,t,u,d,m,.leaf a',tb,Y,h1,(by show fV a'<N;lia),ho.1,hi.1,ga,hB,aR,bC,λx1 H1 s1 e1=>?_];rfl';refine ay (aj.of (s1 _ _ hp)) Y #[q2,bx,y,e,t,u,d,m,.leaf b',tb,Y,h2.same s1,(by show fV b'<N;lia),ho.2,hi.2,gb,hB.same s1,aR,bC,λx2 H2 s2 e2=>?_];rfl';intro x dx hx ni dR;have M:=uY (C:=T.bY) (fs:=[]) hx ni dR;exact#[H2,x,T.bY,dx,x1,x2,a',b',Y,ar,hx,M,.inr #[Y,sz],dS.same e1 s2,e2,ga,gb,λH' s' cZ=>#[Y,q x H' (s1.trans (s2.trans s')) #[dx,x1,x2,cZ,dS.same e1 (s2.trans s'),dS.same e2 s']]]
theorem OI(T:aA):∀ N:Nat,aP (N+14) T.eE (Gb T N)
 | 0=>by refine jh (k:=13) zR ?_;rintro y y y y y y y y y ⟨y,y,y,y,y,y,y,y,y,y,rfl,y,h,y⟩;exact absurd h (agd _)
 | N+1=>aci T N (OI T N)
theorem acj(aR:bZ e t tb)(ht:0<=t):((cg tb i).length:Int)<=t:=by
 have h1:(cg tb i).length=(tb.filter λr=>decide (r.1.1=i)).length:=by unfold cg;rw[aeO];exact (pN.filter _).length_eq
 have nd:(((tb.filter λr=>decide (r.1.1=i)).map (·.1)).map λ(p:P2)=>p.2).Nodup:=by have n1:((tb.filter λr=>decide (r.1.1=i)).map (·.1)).Nodup:=aR.1.sublist (List.filter_sublist.map _);refine alI.mpr (List.Pairwise.imp_of_mem (λ{a b} ha hb iH z=>iH ?_) n1);obtain⟨r,hr,rfl⟩:=aeY.mp ha;obtain⟨s,hs,rfl⟩:=aeY.mp hb;have e1:=of_decide_eq_true (afr.mp hr).2;have e2:=of_decide_eq_true (afr.mp hs).2;exact Prod.ext (e1.trans e2.symm) z
 have:=Fl nd (ys:=(afp t.toNat).map λ(k:Nat)=>(k:Int)) λx hx=>by obtain⟨p,hp,rfl⟩:=aeY.mp hx;obtain⟨r,hr,rfl⟩:=aeY.mp hp;have ho:=(aR.2 r (afr.mp hr).1).2;exact aeY.mpr #[r.1.2.toNat,af1.mpr (by lia),by lia]
 rw[aeO,aeO,aeO,ae9] at this;lia
def AB:Te->Prop
 | .leaf (.leaf _)=>False
 | _=>True
inductive ack(vs:List V)(H:Hp)(Q:VK)(aO:XK):Prop
 | mk(a wr w c:ae0)(ns cs:List Int)(e t u d m f:Int)(tb:Tb)(_:vs=[.ref a,.ref wr,.ref c,.int f])(_:ai K H a (ns.map V.int))(_:mz ns)(_:H wr=U (.tup [.int e,.int t,.int u,.int d,.int m,.ref w]))(_:bZ e t tb)(_:tb.length<=18)(_:(2<=e/\e<=3))(_:H c=U (.lst (cs.map V.int)))(_:cs.length=t.toNat)(_:(1<=t/\t<=3))(_:(1<=f/\f<=1000000000000000000000000000000))(_:∀ p te H',ah H H'->iX H' p te->AB te->nz tb te->Ga e te->dZ te->br te<t->Q (.ref p) H')
theorem acm(T:aA):aP 2 T.Ex ack:=by
 refine bb qd ?_;rintro y y y y H y y y hr ⟨a,wr,w,c,ns,cs,e,t,u,d,m,f,tb,rfl,hS,hn,iy,aR,OJ,he,hc,bw,⟨t1,t3⟩,hf,q⟩;refine#[_,(au (aL 4 qd.nd (aT (ae aU (ae (aD (dX T) hr (ae (aa 0) (ae af (ae af (ae (ak (aa 1) af) ag))))) ag)))) (au (aL 5 qd.nd (aT (ae aU (ae (aD (dX T) hr (ae (aa 0) (ae af (ae af (ae (ak (aa 1) af) ag))))) ag)))) (au (aL 6 qd.nd (aD (dX T) hr (ae (aa 0) (ae af (ae af (ae af ag)))))) (au (aH (bp (aa 6) af) (aq (az (aT (ae aU (ae (aa 4) ag))))) aG) (au (aH (PW.pt (jY (bp (aa 6) af) (kL (lH (ak (aa 1) af) af)))) (aq (az (aT (ae aU (ae (aa 4) (ae (aa 5) ag)))))) aG) (au (aH (bp (aa 6) af) (aq (az (aT (ae aU (ae (aa 4) (ae (aT (ae aU (ae (aa 5) ag))) ag)))))) aG) (au (aH (bp (aa 6) af) (au (aL 7 qd.nd (aD (dX T) hr (ae (aa 0) (ae af (ae af (ae (ak (aa 1) af) ag)))))) (aq (az (aT (ae aU (ae (aa 4) (ae (aT (ae aU (ae af (ae (aa 7) (ae (aJ bV (ak (aa 2) (aa 7)) (aJ ik (aa 3) (aJ dG (aD (dX T) hr (ae (aa 0) (ae af (ae af (ae af ag))))) af))) ag))))) ag))))))) aG) (aq (az (aT (ae aU (ae (aa 4) (ae (aa 5) ag))))))))))))),?_];obtain⟨f1,f2⟩:=hf;refine aC (λJ H1=>∃ o1 i1,J=[U (.ref a),U (.ref wr),U (.ref c),U (.int f),U (.ref o1),O,O,O]/\ah H H1/\H1 o1=U (.tup [.str "lies",.int i1])/\0<=i1/\i1<e) (λN hN=>?_) ?_
 .rfl';refine aE iy ?_;rfl';refine#[a,ns,_,_,_,Y,hS,hn,by lia,by lia,by lia,λp p1 p2=>?_];exact#[aX,λo1 nA=>hN _ _ #[o1,_,Y,ao nA,ar,p1,p2]]
 rintro y yR J H1 ⟨o1,i1,rfl,s1,nA,wW,wX⟩;subst yR;refine aC (λJ H2=>∃ o2 i2,J=[U (.ref a),U (.ref wr),U (.ref c),U (.int f),U (.ref o1),U (.ref o2),O,O]/\ah H1 H2/\H2 o2=U (.tup [.str "lies",.int i2])/\0<=i2/\i2<e) (λN hN=>?_) ?_
 .rfl';refine aE (s1 _ _ iy) ?_;rfl';refine#[a,ns,_,_,_,Y,s1.seq hS,hn,by lia,by lia,by lia,λp p1 p2=>?_];exact#[aX,λo2 wY=>hN _ _ #[o2,_,Y,ao wY,ar,p1,p2]]
 rintro y yR J H2 ⟨o2,i2,rfl,s2,wY,Ge,Gf⟩;subst yR;have S2:=s1.trans s2;have nA:=s2 _ _ nA;refine aC (λJ H3=>∃ so:Int,J=[U (.ref a),U (.ref wr),U (.ref c),U (.int f),U (.ref o1),U (.ref o2),U (.int so),O]/\H3=H2) (λN hN=>?_) ?_
 .rfl';refine#[a,ns,_,_,_,Y,S2.seq hS,hn,by lia,by lia,by lia,λp p1 p2=>?_];exact hN _ _ #[_,Y,Y]
 rintro y yR J H3 ⟨so,rfl,rfl⟩;subst yR;have gd:good0 (.lies i1 tb)/\good0 (.lies i2 tb):=by
  have:bZ 7 12 tb/\tb.length<=60:=#[#[aR.1,λr hr=>let ⟨⟨x1,x2⟩,x3,x4⟩:=aR.2 r hr;#[#[x1,by lia],x3,by lia]],by lia]
  exact#[this,this]
 have fr:∀ i,iA (.lies i tb)<t:=λi=>N4 (by lia) (N3 aR);have w6:∀ i,(eV (.lies i tb)).length<=6:=λi=>by have a1:=CP (fT (cg tb i));rw[FG] at a1;have a2:=acj (i:=i) aR (by lia);show (cE (fT (cg tb i))).length<=6;lia
 have b1:∀ i,(gB (.lies i tb)).length=1:=λy=>rfl;have ml:∀ i j,eG (iA (.lies i tb)) (iA (.lies j tb))<t:=λi j=>by have:=fr i;have:=fr j;unfold eG;split<;>lia
 have pr:∀ {m n:Nat},m<=6->n<=6->m * n<=100:=λh1 h2=>aeT (amO h1 h2) (by decide);refine aC (λJ H4=>J=[U (.ref a),U (.ref wr),U (.ref c),U (.int f),U (.ref o1),U (.ref o2),U (.int so),O]/\H3=H4) (λN hN=>?_) ?_
 .rfl';refine a7 (λy=>#[aX,λp hp=>?_]) λy=>hN _ _ #[Y,Y];have u1:=ao (o:=.tup [.str "not",.ref o1]) hp;exact q p (.leaf (.nay (.lies i1 tb))) _ (S2.trans u1) #[o1,ar,u1 _ _ nA] trivial Y #[wW,wX] gd.1 (fr i1)
 rintro y yR J y ⟨rfl,rfl⟩;subst yR;refine aC (λJ H4=>J=[U (.ref a),U (.ref wr),U (.ref c),U (.int f),U (.ref o1),U (.ref o2),U (.int so),O]/\H3=H4) (λN hN=>?_) ?_
 .rfl';refine a7 (λy=>aE (S2 _ _ iy) ?_) λy=>hN _ _ #[Y,Y];rfl';refine a7 (λy=>#[by decide,λp hp=>?_]) λy=>hN _ _ #[Y,Y];have u1:=ao (o:=.tup [.str "both",.ref o1,.ref o2]) hp;exact q p (.both (.leaf (.lies i1 tb)) (.leaf (.lies i2 tb))) _ (S2.trans u1) #[o1,o2,ar,u1 _ _ nA,u1 _ _ wY] trivial #[Y,Y] #[#[wW,wX],Ge,Gf] #[#[gd.1,gd.2],pr (w6 i1) (w6 i2),(show 1+1<=100 by decide)] (ml i1 i2)
 rintro y yR J y ⟨rfl,rfl⟩;subst yR;refine aC (λJ H4=>J=[U (.ref a),U (.ref wr),U (.ref c),U (.int f),U (.ref o1),U (.ref o2),U (.int so),O]/\H3=H4) (λN hN=>?_) ?_
 .rfl';refine a7 (λy=>#[aX,λp hp=>#[by decide,λr hr=>?_]]) λy=>hN _ _ #[Y,Y];have u1:=ao (o:=.tup [.str "not",.ref o2]) hp;have u2:=ao (o:=.tup [.str "either",.ref o1,.ref p]) hr;have a1:=w6 i1;have a2:=w6 i2;exact q r (.either (.leaf (.lies i1 tb)) (.nay (.lies i2 tb))) _ (S2.trans (u1.trans u2)) #[o1,p,ar,(u1.trans u2) _ _ nA,o2,u2 _ _ ar,(u1.trans u2) _ _ wY] trivial #[Y,Y] #[#[wW,wX],Ge,Gf] #[#[gd.1,gd.2],(show (eV (.lies i1 tb)).length+1<=100 by lia),(show 1 * (eV (.lies i2 tb)).length<=100 by lia)] (ml i1 i2)
 rintro y yR J y ⟨rfl,rfl⟩;subst yR;refine aC (λJ H4=>J=[U (.ref a),U (.ref wr),U (.ref c),U (.int f),U (.ref o1),U (.ref o2),U (.int so),O]/\H3=H4) (λN hN=>?_) ?_
 .rfl';refine a7 (λy=>aE (S2 _ _ iy) ?_) λy=>hN _ _ #[Y,Y];rfl';refine#[a,ns,_,_,_,Y,S2.seq hS,hn,by lia,by lia,by lia,λp p1 p2=>?_];rfl';obtain⟨tn,rfl⟩:∃ tn,tn=p:=#[_,Y]
  have t0:=p1;have t9:=p2;clear p1 p2;refine bK (ai.of (S2 _ _ hc)) (int_at (by lia) (by lia)) ?_;rfl';refine#[a,ns,_,_,_,Y,S2.seq hS,hn,by lia,by lia,by lia,λp p1 p2=>?_];rfl';refine#[mC (by lia) (by lia),by decide,λx1 qL=>#[by decide,λx2 oQ=>?_]];have u1:=ao (o:=.tup [.str "over",.int 0,.int tn,.int (cs.getD tn.toNat 0+f * (p-2))]) qL;have u2:=ao (o:=.tup [.str "both",.ref o1,.ref x1]) oQ;have ou:jU 0 tn:=#[by lia,by lia,by lia]
  have wl:(eV (.over 0 tn (cs.getD tn.toNat 0+f * (p-2)))).length<=6:=by show (cE (el 0 tn _)).length<=6;rw[OA];lia
  have fa:=fr i1;exact q x2 (.both (.leaf (.lies i1 tb)) (.leaf (.over 0 tn (cs.getD tn.toNat 0+f * (p-2))))) _ (S2.trans (u1.trans u2)) #[o1,x1,ar,(u1.trans u2) _ _ nA,u2 _ _ ar] trivial #[Y,trivial] #[#[wW,wX],trivial] #[#[gd.1,ou],pr (w6 i1) wl,(show 1+1<=100 by decide)] (by show eG (iA (.lies i1 tb)) tn<t;unfold eG;split<;>lia)
 rintro y yR J y ⟨rfl,rfl⟩;subst yR;rfl';refine#[by decide,λp hp=>?_];have u1:=ao (o:=.tup [.str "either",.ref o1,.ref o2]) hp;have a1:=w6 i1;have a2:=w6 i2;exact q p (.either (.leaf (.lies i1 tb)) (.leaf (.lies i2 tb))) _ (S2.trans u1) #[o1,o2,ar,u1 _ _ nA,u1 _ _ wY] trivial #[Y,Y] #[#[wW,wX],Ge,Gf] #[#[gd.1,gd.2],(show (eV (.lies i1 tb)).length+(eV (.lies i2 tb)).length<=100 by lia),(show 1 * 1<=100 by decide)] (ml i1 i2)
theorem OL:∀ {zs:List V} {bs:List Bool},ax (λv (b:Bool)=>v=V.bl b) zs bs->zs=bs.map V.bl
 | [],[],_=>rfl
 | _::_,_::_,h=>by rw[h.1,OL h.2];rfl
inductive acn(vs:List V)(H:Hp)(Q:VK)(aO:XK):Prop
 | mk(w b k:ae0)(wv:V)(e t u d m:Int)(tb:Tb)(ys zs:List V)(cl:List (List Pa))(_:vs=[wv,.ref b,.ref k])(_:kC H wv w e t u d m tb)(_:(1<=t/\t<=12))(_:bZ e t tb)(_:H b=U (.lst ys))(_:ax (nk H) ys cl)(_:H k=U (.lst zs))(_:ax (fi u d t m tb H) zs cl)(_:cl.length<=200)(_:(∀ ps∈cl,ps.length<=900/\cf t ps))(_:∀ H',ah H H'->Q (.bl true) H')
theorem OM(T:aA):aP 35 T.Ey acn:=by
 refine bb DJ ?_;rintro y y y s H y Q y hr ⟨w,b,k,wv,e,t,u,d,m,tb,ys,zs,cl,rfl,hW,ht,aR,Gg,ON,AD,eT,bl,bo,q⟩;refine#[_,(au (aH (PW.pt (bI (bJ (bO (cR i9 (by rfl) T.jk i8 (ae (aa 2) (ae (jv (v:=.ty "list") Y T.oJ nH Y) ag))))) (da (gP (c9 T.cW (ae (aa 2) ag)) (c9 T.cW (ae (aa 1) ag)))))) (aq (az cH)) aG) (aq (az (cR (uQ Y) (by rfl) T.vX uG (ae (yb (g:=jw K 2 (cY (cu 0) (cY (cu 1) iZ))) (kY.mk (own:=["_law_claim","_law_paper"]) (fr:=[0]) (ys:=["_law_world_here"]) Y (by decide +kernel) Y (by decide +kernel) Y (.cons rfl .nil) (.cons rfl Y Y Y .nil) Y) Y (Jl Y T.Mt (ae (aa 1) (ae (aa 2) ag))) (λC s2 H2 ex pn=>kO (n:=2) Y (eI (iD (i:=0) (show (["_law_claim","_law_paper","_law_world_here"]:List Str).Nodup by decide) Y (.inl (afk Y)) (.inr (afk Y))) (eI (iD (i:=1) (show (["_law_claim","_law_paper","_law_world_here"]:List Str).Nodup by decide) Y (.inl (afk Y)) (.inr (afk Y))) kN))) (λC s2 H2 ex pn=>#[df,(aD (NR T) hr (ae (aa 2) (ae (aa 0) (ae (aa 1) ag))))])) ag))))),?_];have yl:=ON.len;have zl:=eT.len;rfl';refine xV AD ?_;rfl';refine#[_,eX (ai.of AD),_,eX (ai.of Gg),?_];rw[if_neg (by rw[yl,zl];simp)];refine#[#[_,ai.of Gg],#[_,ai.of AD],?_];refine TH (xs:=ys) (ys:=zs) (aeT (by rw[amo];lia:_<=200) (by decide)) (CC (R':=λ_ v (b:Bool)=>v=V.bl b) (p:=λy=>true) (f:=λy=>true) (bs:=[]) (λy y y y y h=>h) trivial (λH' s'=>#[ai.of (s' _ _ Gg),ai.of (s' _ _ AD)]) (λr eQ H' s' Q h=>?_) (λr eQ y H' s' Q h=>?_) λH' ws s' hw=>?_)
 .rfl';exact h
 .obtain⟨n,hn⟩:=afF.mp eQ;rw[List.getElem?_zip_eq_some] at hn;obtain⟨ps,eN,c,xs,e1,hc,hP⟩:=ON.get hn.1;obtain⟨ps',OO,hR⟩:=eT.get hn.2;obtain rfl:ps=ps':=by rw[eN] at OO;exact Option.some.inj OO
  obtain⟨pl,oP⟩:=bo ps (ae8 eN);rfl';rw[e1];exact#[wv,r.2,w,c,e,t,u,d,m,tb,xs,ps,Y,hW.same s',ht.1,ht.2,aR,ai.of (s' _ _ hc),hP.same s',pl,gZ.same hR s',λH4 s4=>h _ _ s4 Y]
 .intro l2 ba;rw[ae6] at hw;have ez:=OL hw;refine#[l2,Y,_,by rw[ez];exact ai.of ar,?_];rw[show ((((ys.zip zs).filter λy=>true).map λy=>true).all id)=true by rw[aji];exact afT.mpr λy y=>rfl];exact q _ (s'.trans (ao ba))
theorem OP:dA (a::r) 0=U a:=fo (j:=0) rfl
inductive aco(T:aA)(vs:List V)(H:Hp)(Q:VK)(aO:XK):Prop
 | mk(x p w w0 v tp:ae0)(wv:V)(e t u d m:Int)(te:Te)(tb fW:Tb)(_:vs=[wv,.ref x,.ref w0,.ref tp,.ref v])(_:dn T.aZ H x e t u d m p tb)(_:kC H wv w e t u d m tb)(_:fS e t u d m)(_:bZ e t tb)(_:tb.length<=60)(_:TabAt H w0 fW)(_:bZ e t fW)(_:fW.length<=60)(_:iX H tp te)(_:nz fW te)(_:bQ T H v te)(_:dZ te)(_:br te<t)(_:∀ H',ah H H'->Q (.bl true) H')
theorem OQ(T:aA):aP 36 T.Ez (aco T):=by
 refine jh vS ?_;rintro c A c s H c c c hr ⟨x,p,w,w0,v,tp,wv,e,t,u,d,m,te,tb,fW,rfl,hB,hW,gy,aR,bC,iY,tV,OR,lR,hon,hv,hg,hf,q⟩;refine#[_,(au (aL 5 vS.nd (ip (Ot T) hr (ae (aa 1) (ae (aa 4) ag)))) (au (aH (PW.pt (bI (bJ (bO (cR i9 (by rfl) T.jk i8 (ae (aa 5) (ae (jv (v:=.ty "tuple") Y T.vY uH Y) ag))))) (da (lH (c9 T.cW (ae (aa 5) ag)) af)))) (aq (az cH)) aG) (au (aH (bp (ak (aa 5) af) aU) (aq (az (gR (gI oZ (c9 T.cW (ae (aa 5) ag)) af (d8 _)) (fH (aD (NR T) hr (ae (aa 0) (ae (dj ag) (ae (ak (aa 5) af) ag)))))))) aG) (au (aH (bp (ak (aa 5) af) aU) (au (aH (PW.pt (bI (gP (c9 T.cW (ae (aa 5) ag)) af) (bI (bJ (bO (aD (FD T) hr (ae (aa 0) (ae (ak (aa 5) af) ag))))) (da (bJ (bO (aD (FD T) hr (ae (aa 0) (ae (ak (aa 5) af) ag))))))))) (aq (az cH)) aG) (aq (az (gR (aD (AA T 3) hr (ae (aa 3) (ae (aa 2) (ae (ak (aa 5) af) ag)))) (fH (sP (aD (AA T 3) hr (ae (aa 3) (ae (aa 2) (ae (ak (aa 5) af) ag)))))))))) aG) (au (aL 6 vS.nd (ip (Ft T) hr (ae (aa 1) (ae (dj ag) ag)))) (au (aH (PW.pt (bI (gP (c9 T.cW (ae (aa 5) ag)) af) (bI (gP (ak (aa 6) af) aU) (da (bJ (bO (aD (FD T) hr (ae (aa 0) (ae (ak (aa 6) af) ag))))))))) (aq (az cH)) aG) (au (aH (bp (ak (aa 5) af) aU) (aq (az (aD (OM T) hr (ae (aa 0) (ae (cD (Av T hr) (aa 4)) (ae (ak (aa 5) af) ag)))))) aG) (aq (az (gR (gI oZ (ak (aa 5) af) aU (d8 _)) (fH (aD (OM T) hr (ae (aa 0) (ae (cD (wN T hr) (aa 4)) (ae (ak (aa 5) af) ag))))))))))))))),?_];obtain⟨⟨e1,e7⟩,⟨t1,t2⟩,u0,d0,m0,me⟩:=id gy;obtain⟨bo,wo,bl,wl⟩:=tS hg hf;have lv:qY te<3:=by
  cases te with
  | leaf a=>exact afy (fE a) (by decide)
  | both a b=>exact af7 2
  | either a b=>exact af7 2
 refine aC (λJ H1=>∃ r y zs,J=[U wv,U (.ref x),U (.ref w0),U (.ref tp),U (.ref v),U (.ref r),O]/\ah H H1/\H1 r=U (.tup (.str y::zs))/\1<=zs.length/\((y = "none" /\ ∃ z,zs=[z]/\fi u d t m tb H1 z [])∨(y = "open" /\ ∃ k1 k2,zs=[.ref k1,.ref k2]/\hJ u d t m tb (bE te) H1 k1/\hJ u d t m tb (b8 te) H1 k2)∨((y = "yes" ∨ y = "no")/\iW u d t m tb []/\∃ k ws,zs=[.ref k]/\H1 k=U (.lst ws)/\(y = "yes" -> ax (fi u d t m tb H1) ws (b8 te))/\(y = "no" -> ax (fi u d t m tb H1) ws (bE te))))) (λN hN=>?_) ?_
 .rfl';refine#[x,p,v,e,t,u,d,m,te,tb,Y,hB,gy,aR,bC,hv,hg,λz=>absurd hf z,λc=>#[λc r z H1 s1 hr hR=>hN _ _ #[r,_,_,Y,s1,hr,aid _ _,.inl #[Y,z,Y,hR]],λhh r k zs H1 s1 hr hk hR=>hN _ _ #[r,_,_,Y,s1,hr,aid _ _,.inr (.inr #[.inl rfl,hh.1,k,zs,Y,hk,λc=>hR,λz=>absurd z (by decide)])],λc hh r k zs H1 s1 hr hk hR=>hN _ _ #[r,_,_,Y,s1,hr,aid _ _,.inr (.inr #[.inr rfl,hh,k,zs,Y,hk,λz=>absurd z (by decide),λc=>hR])],λc r k1 k2 H1 s1 hr h1 h2=>hN _ _ #[r,_,_,Y,s1,hr,aid _ _,.inr (.inl #[Y,k1,k2,Y,h1,h2])]]]
 rintro c yR J H1 ⟨r,y,zs,rfl,s1,hr,z1,cas⟩;subst yR;replace hB:=hB.same s1;replace hW:=hW.same s1;replace iY:=iY.same s1;replace lR:=lR.same s1;replace hv:=bQ.same hv s1;replace q:=λH' (s:ah H1 H')=>q H' (s1.trans s);clear s1;generalize H1=H at *;have FT:∀ (H1:Hp) (k:ae0) (cl:List (List Pa)) (R:VK),ah H H1->hJ u d t m tb cl H1 k->(∀ H2,ah H1 H2->R (.bl true) H2)->NL [wv,.ref k] H1 R E0:=λH1 k cl R s1 hf hr=>by obtain⟨cs,L,ps,pin,hk,hcs,F⟩:=hf;exact#[wv,w,k,e,t,u,d,m,tb,cs,Y,hW.same s1,t1,t2,aR,bC,hk,hcs,abn hcs F,abo F,hr]
 refine aC (λJ H1=>J=[U wv,U (.ref x),U (.ref w0),U (.ref tp),U (.ref v),U (.ref r),O]/\H=H1) (λN hN=>?_) ?_
 .rfl';refine uI hr ?_;rfl';refine#[_,.inr #[_,aj.of hr,Y],?_];rw[if_neg (by rw[afD];lia)];exact hN _ _ #[Y,Y]
 rintro c yR J c ⟨rfl,rfl⟩;subst yR;refine aC (λJ H1=>J=[U wv,U (.ref x),U (.ref w0),U (.ref tp),U (.ref v),U (.ref r),O]/\H=H1/\((y = "open" /\ ∃ k1 k2,zs=[.ref k1,.ref k2]/\hJ u d t m tb (bE te) H k1/\hJ u d t m tb (b8 te) H k2)∨((y = "yes" ∨ y = "no")/\iW u d t m tb []/\∃ k ws,zs=[.ref k]/\H k=U (.lst ws)/\(y = "yes" -> ax (fi u d t m tb H) ws (b8 te))/\(y = "no" -> ax (fi u d t m tb H) ws (bE te))))) (λN hN=>?_) ?_
 .rfl';refine ay (aj.of hr) OP ?_;rcases cas with ⟨rfl,z,rfl,hR⟩|cas
  .rfl';refine#[_,.inr #[_,aj.of hr,Y],?_];rw[if_pos (by simp)];refine#[afi _,λb hb=>?_];have u1:=ao (o:=.lst []) hb;refine ay (aj.of (u1 _ _ hr)) Y #[wv,z,w,b,e,t,u,d,m,tb,[],[],Y,hW.same u1,t1,t2,aR,ai.of ar,trivial,afi _,gZ.same hR u1,λH2 s2=>q _ (u1.trans s2)]
  .have ne:y ≠ "none" := by rcases cas with ⟨rfl,c⟩|⟨rfl|rfl,c⟩<;>decide
   rfl';rw[if_neg ne];exact hN _ _ #[Y,Y,cas]
 clear cas;rintro c yR J c ⟨rfl,rfl,cas⟩;subst yR;refine aC (λJ H1=>J=[U wv,U (.ref x),U (.ref w0),U (.ref tp),U (.ref v),U (.ref r),O]/\H=H1/\(y = "yes" ∨ y = "no")/\iW u d t m tb []/\∃ k ws,zs=[.ref k]/\H k=U (.lst ws)/\(y = "yes" -> ax (fi u d t m tb H) ws (b8 te))/\(y = "no" -> ax (fi u d t m tb H) ws (bE te))) (λN hN=>?_) ?_
 .rfl';refine ay (aj.of hr) OP ?_;rcases cas with ⟨rfl,k1,k2,rfl,Az,wR⟩|cas
  .rfl';refine#[_,.inr #[_,aj.of hr,Y],?_];rw[if_neg (by simp)];refine ay (aj.of hr) Y (FT H k1 _ _ (ah.refl _) Az λH2 s2=>?_);rfl';refine ay (aj.of (s2 _ _ hr)) Y (FT H2 k2 _ _ s2 (wR.same s2) λH3 s3=>?_);have S3:=s2.trans s3;obtain⟨cs1,L1,ps1,acp,iz,aeJ,F1⟩:=Az;obtain⟨cs2,L2,ps2,acq,kr,aeK,F2⟩:=wR;rfl';refine ay (aj.of (S3 _ _ hr)) Y #[tp,w0,k1,e,t,te,fW,cs1,Y,lR.same S3,lv,hon,hg,iY.same S3,tV,OR,ai.of (S3 _ _ iz),by lia,by lia,λH4 s4=>?_];have S4:=S3.trans s4;rw[ab2 hg hf acp F1];rfl';refine ay (aj.of (S4 _ _ hr)) Y #[tp,w0,k2,e,t,te,fW,cs2,Y,lR.same S4,lv,hon,hg,iY.same S4,tV,OR,ai.of (S4 _ _ kr),by lia,by lia,λH5 s5=>?_];rw[ab3 hg hf acq F2];rfl';exact q _ (S4.trans s5)
  .have ne:y ≠ "open" := by rcases cas with ⟨rfl|rfl,c⟩<;>decide
   rfl';rw[if_neg ne];exact hN _ _ #[Y,Y,cas]
 clear cas;rintro c yR J c ⟨rfl,rfl,hy,hh,k,ws,rfl,hk,hR1,hR2⟩;subst yR;refine aC (λJ H3=>∃ bs k9,J=[U wv,U (.ref x),U (.ref w0),U (.ref tp),U (.ref v),U (.ref r),U (.ref bs)]/\ah H H3/\H3 bs=U (.tup [.str "may",.ref k9])/\hJ u d t m tb [[]] H3 k9) (λN hN=>?_) ?_
 .rfl';refine#[afi _,λb hb=>?_];have sb:=ao (o:=.lst []) hb;have oP:cf t []:=λp hp=>by cases hp
  refine#[x,p,b,e,t,u,d,m,[],[],tb,Y,hB.same sb,aR,bC,t1,t2,by lia,e7,m0,by lia,ai.of ar,trivial,afi _,λz=>absurd oP z,λc a H2 s2 A=>?_];obtain⟨L0,c0,F0⟩:=id hh;obtain⟨rr,rfl,⟨z,hrr,hn⟩|⟨k9,cs,L,hrr,jq,c,hcs,F⟩⟩:=FI (by rw[FH,oO];lia) (λr hr=>by rw[oO];have:=(aR.2 r hr).2;lia) A
  .exact absurd F0 (hn _ _)
  rw[oO] at hcs;exact hN _ _ #[rr,k9,Y,sb.trans s2,hrr,cs,L,[],.head _,jq,hcs,F]
 rintro c yR J H3 ⟨bs,k9,rfl,s3,hbs,OS⟩;subst yR;refine aC (λJ H4=>J=[U wv,U (.ref x),U (.ref w0),U (.ref tp),U (.ref v),U (.ref r),U (.ref bs)]/\ah H H4) (λN hN=>?_) ?_
 .rfl';refine#[_,.inr #[_,aj.of (s3 _ _ hr),Y],?_];rw[if_neg (by simp)];refine aE hbs ?_;rfl';refine ay (aj.of hbs) Y (FT H3 k9 [[]] _ s3 OS λH4 s4=>?_);rfl';exact hN _ _ #[Y,s3.trans s4]
 rintro c yR J H4 ⟨rfl,s4⟩;subst yR;clear s3 hbs OS;have s3:=s4;have AE:=s3 _ _ hr;refine aC (λJ H5=>J=[U wv,U (.ref x),U (.ref w0),U (.ref tp),U (.ref v),U (.ref r),U (.ref bs)]/\H4=H5/\y = "no") (λN hN=>?_) ?_
 .rfl';refine aE AE ?_;rcases hy with rfl|rfl
  .rfl';refine Aw T (bQ.same hv s3) hg _ λb4 Gh H5 s5 c Gi Gj=>?_;have S4:=s3.trans s5;refine ay (aj.of (s5 _ _ AE)) Y #[w,b4,k,wv,e,t,u,d,m,tb,Gh,ws,_,Y,hW.same S4,#[t1,t2],aR,Gi,Gj.imp λc c r=>bA.cm r,S4 _ _ hk,(hR1 Y).imp λc c r=>gZ.same r S4,bl,bo,λH5 s5=>q _ (S4.trans s5)]
  .rfl';rw[if_neg (by decide)];exact hN _ _ #[Y,Y,Y]
 rintro c yR J c ⟨rfl,rfl,rfl⟩;subst yR;rfl';refine aE AE ?_;rfl';refine#[Y,wO T (bQ.same hv s3) hg _ λb4 Gh H5 s5 c Gi Gj=>?_];have S4:=s3.trans s5;refine ay (aj.of (s5 _ _ AE)) Y #[w,b4,k,wv,e,t,u,d,m,tb,Gh,ws,_,Y,hW.same S4,#[t1,t2],aR,Gi,Gj.imp λc c r=>bA.cm r,S4 _ _ hk,(hR2 Y).imp λc c r=>gZ.same r S4,wl,wo,λH5 s5=>q _ (S4.trans s5)]
inductive EeS(T:aA)(x:V)(H:Hp)(Q:VK):Prop
 | mk(a:ae0)(tr:Te)(_:x = .ref a)(_:bQ T H a tr)(_:dZ tr)(_:∀ p H',ah H H'->H' p=U (.tup [.int (bE tr).length,.int (b8 tr).length])->Q (.ref p) H')
theorem acr(T:aA)(hr:bc n A)(hn:10<=n:=by decide)(x:V)(H:Hp)(Q:VK)(h:EeS T x H Q):iq P w K mg base A "sizes" x H Q:=by
 obtain⟨x,tr,rfl,he,hg,cont⟩:=h;replace hr:=hr.mono hn;cases tr with
 | leaf a=>exact wK T hr (by decide) _ _ _ #[x,a,Y,he,hg,cont]
 | both a b =>
  obtain⟨dx,c1,c2,hx,y⟩:=id he;refine .of hx T.gv T.MF (Oh T) hr T.oA.b #[x,a,b,Y,he,hg.1.1,hg.1.2,λp H' s hp=>cont p H' s ?_];rw[hp,show ((bE (.both a b)).length:Int)=((a9 a).length:Int) * (a9 b).length from by rw[<- ahF];exact congrArg _ (qT _ _),show ((b8 (.both a b)).length:Int)=((bj a).length:Int)+(bj b).length from by rw[<- ahE];exact congrArg _ ae1]
 | either a b =>
  obtain⟨dx,c1,c2,hx,y⟩:=id he;refine .of hx T.gx T.MG (Oi T) hr T.oB.b #[x,a,b,Y,he,hg.1.1,hg.1.2,λp H' s hp=>cont p H' s ?_];rw[hp,show ((bE (.either a b)).length:Int)=((a9 a).length:Int)+(a9 b).length from by rw[<- ahE];exact congrArg _ ae1,show ((b8 (.either a b)).length:Int)=((bj a).length:Int) * (bj b).length from by rw[<- ahF];exact congrArg _ (qT _ _)]
def wZ(f:Int)(p:Pa):Prop:=p.1 = "at" /\ 0<=p.2.1/\p.2.1<=f/\aY p.2.2.1 p.2.2.2=false
def dq(f:Int)(n:Nat)(cl:List (List Pa)):Prop:=∀ ps∈cl,ps.length<=n/\∀ p∈ps,wZ f p
theorem acs(h:o∈fv s):aY o.1 o.2=false:=by
 obtain⟨lo,hi⟩:=s;cases lo<;>cases hi<;>simp[fv] at h
 .subst h;rfl
 .subst h;rfl
 .rcases h with rfl|rfl<;>rfl
theorem OT{f:Int}{ps:List Pa}(h:∀ p∈ps,p.1 = "at" /\ 0<=p.2.1/\p.2.1<=f):dq f 1 (cE ps):=λqs hq=>by unfold cE at hq;obtain⟨p,hp,hq⟩:=aho.mp hq;obtain⟨o,ho,rfl⟩:=aeY.mp hq;refine#[aeV _,λq hm=>?_];rw[afd.mp hm];obtain⟨a,b,c⟩:=h p hp;exact#[a,b,c,acs ho]
theorem OU(hl:ps.length<=n)(h:∀ p∈ps,wZ f p):dq f n [ps]:=λqs hq=>by rw[afd.mp hq];exact#[hl,h]
theorem dq.mono(h:dq f n cl)(hf:f<=f')(hn:n<=n'):dq f' n' cl:=λps hp=>#[aeT (h ps hp).1 hn,λp hq=>by
 obtain⟨a,b,c,d⟩:=(h ps hp).2 p hq;exact#[a,b,ah5 c hf,d]]
theorem dq.app(h:dq f n as)(h':dq f n bs):dq f n (as++bs):=λps hp=>(afq.mp hp).elim (h ps) (h' ps)
theorem dq.join(h:dq f n as)(h':dq f m bs):dq f (n+m) (fj as bs):=λps hp=>by unfold fj at hp;obtain⟨a,ha,hp⟩:=aho.mp hp;obtain⟨b,hb,rfl⟩:=aeY.mp hp;refine#[by rw[ae1];exact Nat.add_le_add (h a ha).1 (h' b hb).1,λp hp=>?_];exact (afq.mp hp).elim ((h a ha).2 p) ((h' b hb).2 p)
theorem OV(hg:good0 a)(ho:F6 tb a)(h:tb.length<=40)(dJ:∀ r∈tb,aY r.2.1 r.2.2=false):dq (iA a) 40 (eV a)/\dq (iA a) 40 (gB a):=by
 cases a with
 | over i j s =>
  obtain⟨i0,ij,j11⟩:=hg;have hA:∀ p∈el i j (O,U (s-1)),wZ j p:=λp hp=>by obtain⟨a,b,c⟩:=N1 hp;refine#[a,by lia,c,?_];unfold el at hp;obtain⟨k,y,rfl⟩:=aeY.mp hp;rfl
  refine#[(OT λp hp=>#[(hA p hp).1,(hA p hp).2.1,(hA p hp).2.2.1]).mono (afS _) (by decide),OU ?_ hA];unfold el;rw[aeO,ae9];lia
 | lies i cA =>
  cases ho;have hA:∀ p∈fT (cg tb i),wZ (iV (cg tb i)) p:=λp hp=>by obtain⟨k,hk,rfl⟩:=aeY.mp hp;obtain⟨r,hr,y,rfl⟩:=pO.mp hk;exact#[Y,by show (0:Int)<=((r.1.2.toNat:Nat):Int);lia,Ao.2 _ hk,dJ r hr]
  refine#[(OT λp hp=>#[(hA p hp).1,(hA p hp).2.1,(hA p hp).2.2.1]).mono (afS _) (by decide),OU ?_ hA];unfold fT;rw[aeO];exact aeT wH h
theorem tW(hg:cp a)(ho:tU tb a)(h:tb.length<=40)(dJ:∀ r∈tb,aY r.2.1 r.2.2=false):dq (eF a) 40 (a9 a)/\dq (eF a) 40 (bj a):=by
 cases a with
 | leaf a=>exact OV hg ho h dJ
 | nay a=>exact (OV hg ho h dJ).symm
theorem tX(a b:Int):a<=eG a b:=by unfold eG;split<;>lia
theorem AF(a b:Int):b<=eG a b:=by unfold eG;split<;>lia
theorem acu(hg:dZ te)(ho:nz tb te)(h:tb.length<=40)(dJ:∀ r∈tb,aY r.2.1 r.2.2=false):dq (br te) 80 (bE te)/\dq (br te) 80 (b8 te):=by
 cases te with
 | leaf a=>exact#[(tW hg ho h dJ).1.mono (afS _) (by decide),(tW hg ho h dJ).2.mono (afS _) (by decide)]
 | both a b =>
  obtain⟨a1,a2⟩:=tW hg.1.1 ho.1 h dJ;obtain⟨b1,b2⟩:=tW hg.1.2 ho.2 h dJ;exact#[(a1.mono (tX _ _) (aeV _)).join (b1.mono (AF _ _) (aeV _)),(a2.mono (tX _ _) (by decide)).app (b2.mono (AF _ _) (by decide))]
 | either a b =>
  obtain⟨a1,a2⟩:=tW hg.1.1 ho.1 h dJ;obtain⟨b1,b2⟩:=tW hg.1.2 ho.2 h dJ;exact#[(a1.mono (tX _ _) (by decide)).app (b1.mono (AF _ _) (by decide)),(a2.mono (tX _ _) (aeV _)).join (b2.mono (AF _ _) (aeV _))]
theorem dq.ok(h:dq f n cl)(hn:n<=100):∀ ps∈cl,ps.length<=100/\∀ p∈ps,EX f p:=λps hp=>#[aeT (h ps hp).1 hn,λp hq=>by
 obtain⟨a,b,c,d⟩:=(h ps hp).2 p hq;exact#[.inl #[a,c],b,d]]
theorem dq.str(h:dq f n cl):∀ ps∈cl,∀ p∈ps,aiE p.1=true:=λps hp p hq=>by rw[((h ps hp).2 p hq).1];exact (show aiE (agg "at")=true by decide +kernel)
theorem dq.at(h:dq f n cl)(hf:f<(cs.length:Int)):∀ ps∈cl,∀ p∈ps,wt cs p.1 p.2.1:=λps hp p hq=>by obtain⟨a,b,c,d⟩:=(h ps hp).2 p hq;exact Ow (t:=f+1) (ps:=[p]) (FP λp' eK=>by rw[afd.mp eK];exact#[a,b,by lia]) (by lia) p (.head _)
theorem OW(f0:0<=f)(h:∀ p∈ps,wZ f p):aM (cs.take (f+1).toNat) ps=aM cs ps:=by
 unfold aM;rw[agp,afT,afT];have e:∀ p∈ps,gi (cs.take (f+1).toNat) p.1 p.2.1=gi cs p.1 p.2.1:=λp hp=>by obtain⟨a,b,c,d⟩:=h p hp;rw[a];unfold gi;rw[if_neg (by decide),if_neg (by decide),aeP,aeP,List.getElem?_take,if_pos (by lia)]
 constructor
 .intro z p hp;have:=z p hp;rw[e p hp] at this;exact this
 .intro z p hp;rw[e p hp];exact z p hp
theorem dq.take(f0:0<=f)(h:dq f n cl)(cs:List Int):cl.any (aM (cs.take (f+1).toNat))=cl.any (aM cs):=by
 rw[agp,agc,agc];constructor
 .rintro ⟨ps,hp,z⟩;exact#[ps,hp,by rw[<- OW f0 (h ps hp).2];exact z]
 .rintro ⟨ps,hp,z⟩;exact#[ps,hp,by rw[OW f0 (h ps hp).2];exact z]
theorem OX(T:aA)(h:bQ T H x te)(ht:AB te):∃ C dx fs,H x=U (.ins C dx fs)/\bR K C/\Meth K C "held" T.gV.a/\ahZ ("held" : Str) fs=O/\afM K (.ref C) (.ref T.fR)=U true/\dv K H (.ref x) (.ref C):=by
 cases te with
 | leaf a =>
  cases a with
  | leaf a=>exact agO ht
  | nay a =>
   obtain⟨dx,c,hx,hc⟩:=h;exact#[_,_,_,hx,T.jm,T.YF,Y,T.YS,dv.ins hx T.jm T.EM T.wg T.wj T.EN]
 | both a b =>
  obtain⟨dx,c1,c2,hx,y⟩:=h;exact#[_,_,_,hx,T.gv,T.Yx,Y,T.YT,dv.ins hx T.gv T.EO T.wg T.wj T.ER]
 | either a b =>
  obtain⟨dx,c1,c2,hx,y⟩:=h;exact#[_,_,_,hx,T.gx,T.YB,Y,T.YU,dv.ins hx T.gx T.ES T.wg T.wj T.ET]
theorem OY(h:H d=U (.tup [.int m,.int n])):Dat K H (.ref d) (.tuple [.int m,.int n]):=.tup (aj.of h) (.cons (.int _) (.cons (.int _) .nil))
theorem acv(m n:Int):Gd 1 (.tuple [.int m,.int n]):=.of rfl
theorem OZ(h:ax (bA H0 H) ys cls)(ha:V.ref a∈ys):∃ xs ps,ps∈cls/\H0 a=O/\H a=U (.lst xs)/\dF H xs ps:=by obtain⟨i,hi⟩:=afF.mp ha;obtain⟨ps,hp,c,xs,e,n,hx,hP⟩:=h.get hi;cases e;exact#[xs,ps,ae8 hp,n,hx,hP]
def chg(ys zs:List V)(l m a:ae0):Prop:=V.ref a∈ys++zs∨a=l∨a=m
def acw(H1:Hp)(σ0:Option V->St)(P:ae0->Prop)(i:Nat)(J:St)(H2:Hp):Prop:=∃ e,J=σ0 e/\Kp P H1 H2/\∀ a,P a->∃ xs,H2 a=U (.lst xs)/\xs.length<=200+i
theorem Gk:neT (.bl a) (.bl b) Q=if ¬ a=b then Q true else Q false:=rfl
def acx(H:Hp)(σ0:Option V->Option V->St)(_:Nat)(J:St)(H1:Hp):Prop:=∃ e1 e2,J=σ0 e1 e2/\ah H H1
theorem Gm(hg:cp a):0<=eF a:=by
 cases a with
 | leaf a=>exact Ap hg
 | nay a=>exact Ap hg
theorem acy(hg:dZ te):0<=br te:=by
 cases te with
 | leaf a=>exact Gm hg
 | both a b=>exact ah5 (Gm hg.1.1) (tX _ _)
 | either a b=>exact ah5 (Gm hg.1.1) (tX _ _)
def jV(t:Int)(H:Hp)(v:V)(cs:List Int):Prop:=∃ a,v = .ref a/\H a=U (.lst (cs.map V.int))/\cs.length=t.toNat
inductive acz(T:aA)(vs:List V)(H:Hp)(Q:VK)(aO:XK):Prop
 | mk(w0 tp v cl:ae0)(e t:Int)(te:Te)(fW:Tb)(zs:List V)(jr:List (List Int))(_:vs=[.ref w0,.ref tp,.ref v,.ref cl])(_:TabAt H w0 fW)(_:bZ e t fW)(_:fW.length<=40)(_:(1<=t/\t<=12))(_:(∀ r∈fW,aY r.2.1 r.2.2=false))(_:iX H tp te)(_:nz fW te)(_:AB te)(_:bQ T H v te)(_:dZ te)(_:br te<t)(_:H cl=U (.lst zs))(_:ax (jV t H) zs jr)(_:∀ H',ah H H'->Q (.bl true) H')
theorem O0(T:aA):aP 11 T.EA (acz T):=by
 refine jh jR ?_;rintro y y y s H vs Q y hr ⟨w0,tp,v,cl,e,t,te,fW,zs,jr,rfl,iY,tV,O2,⟨t1,t2⟩,dJ,lR,hon,htop,hL,hg,Oz,bw,hZ,q⟩;refine#[_,(au (aL 4 jR.nd (aD (OG T 3) hr (ae (aa 1) (ae (aa 0) ag)))) (au (aL 5 jR.nd (cD (Ax T hr) (aa 2))) (au (aL 6 jR.nd (aD (OE T 3) hr (ae (aa 1) (ae (aa 0) ag)))) (au (aH (PW.pt (bI (bJ (bO (cR i9 (by rfl) T.jk i8 (ae (aa 2) (ae (AX (v:=.ref T.fR) Y T.Ym Y) ag))))) (bI (bJ (bO (aD (qI T) hr (ae (aa 5) ag)))) (bI (gP (aa 5) (aa 4)) (da (l8 (TJ hr.units) (cD (acr T hr) (aa 2)) (aa 6) (d8 _))))))) (aq (az cH)) aG) (au (aL 7 jR.nd (cD (wN T hr) (aa 2))) (au (aL 8 jR.nd (cD (Av T hr) (aa 2))) (au (aH (PW.pt (bI (bJ (bO (aD (MU T) hr (ae (aa 7) (ae (ak (aa 6) af) (ae (aa 4) ag)))))) (da (bJ (bO (aD (MU T) hr (ae (aa 8) (ae (ak (aa 6) af) (ae (aa 4) ag))))))))) (aq (az cH)) aG) (au (dt ahM Y (cI (aa 3)) (cS 9 jR.nd) (au (aL 10 jR.nd (JM (aa 2) (Ox T) hr.m T.gV.b .nil bS (ae (uz HX (by rfl) T.oJ nH (ae (aa 9) ag)) ag))) (au (aH (PW.pt (bI (bJ (bO (cR i9 (by rfl) T.jk i8 (ae (aa 10) (ae (jv (v:=.ty "bool") Y T.Mn Iu Y) ag))))) (bI (gP (aa 10) (aD (AA T 3) hr (ae (aa 1) (ae (aa 0) (ae (aa 9) ag))))) (da (gP (JM (aa 2) (Ox T) hr.m T.gV.b .nil bS (ae (xP Bl (aa 9) Bg (uA (aJ bV (aa 4) af))) ag)) (aa 10)))))) (aq (az cH)) aG) (au (aH (gP (cR (yi Y) (by rfl) T.zS xU (ae (cU (cO [9] [fQ]) Y (cI (aa 7)) (λC s2 H2 ex pn=>#[df,(aD (NK T) hr (ae (aa 1) (ae (aa 0) ag)))])) ag)) (aa 10)) (aq (az cH)) aG) (aq (aH (bp (cR (yi Y) (by rfl) T.zS xU (ae (cU (cO [9] [fQ]) Y (cI (aa 8)) (λC s2 H2 ex pn=>#[df,(aD (NK T) hr (ae (aa 1) (ae (aa 0) ag)))])) ag)) (aa 10)) (aq (az cH)) aG)))))) (au (aL 11 jR.nd (aT (ae (cU (cO [] []) Y (cI (aa 7)) (λC s2 H2 ex pn=>#[df,(uz (JY (K:=K) Y) (by rfl) T.oJ nH (ae (aa 0) ag))])) (ae (cU (cO [] []) Y (cI (aa 8)) (λC s2 H2 ex pn=>#[df,(uz (JY (K:=K) Y) (by rfl) T.oJ nH (ae (aa 0) ag))])) ag)))) (au (dt ahM Y (cI (aJ kT (aa 7) (aa 8))) (cS 12 jR.nd) (aq (fI (i7 afx afP afQ mh (aa 12) (ae (aT (ae aU (ae af (ae (aT (ae af (ae af ag))) ag)))) ag))))) (au (fI (i7 afx afP afQ mh (aa 7) (ae (dj ag) ag))) (au (fI (i7 afx afP afQ mh (aa 8) (ae (dj ag) ag))) (aq (az (gR (gI (Jn hr.units) (cD (wN T hr) (aa 2)) (ak (aa 11) af) (d8 _)) (fH (gI (Jn hr.units) (cD (Av T hr) (aa 2)) (ak (aa 11) af) (d8 _)))))))))))))))))),?_];have f0:=acy hg;obtain⟨pw,pb⟩:=acu hg hon O2 dJ;obtain⟨bo,wo,bl,wl⟩:=tS hg Oz;have O3:=pw.ok (by decide);have O4:=pb.ok (by decide);have bC:fW.length<=60:=aeT O2 (by decide);have lv:qY te<3:=by
  cases te with
  | leaf a=>exact afy (fE a) (by decide)
  | both a b=>exact af7 2
  | either a b=>exact af7 2
 refine aC (λJ H1=>J=[U (.ref w0),U (.ref tp),U (.ref v),U (.ref cl),U (.int (br te)),O,O,O,O,O,O,O,O]/\ah H H1) (λN hN=>?_) ?_
 .rfl';exact#[tp,w0,e,t,te,fW,Y,lR,lv,hon,iY,tV,bC,λH1 s1=>hN _ _ #[Y,s1]]
 rintro y yR J H1 ⟨rfl,s1⟩;subst yR;refine aC (λJ H2=>J=[U (.ref w0),U (.ref tp),U (.ref v),U (.ref cl),U (.int (br te)),U (.int (br te)),O,O,O,O,O,O,O]/\ah H H2) (λN hN=>?_) ?_
 .rfl';exact Ay T (bQ.same hL s1) hg _ λH2 s2=>hN _ _ #[Y,s1.trans s2]
 clear s1;rintro y yR J H2 ⟨rfl,s2⟩;subst yR;refine aC (λJ H3=>∃ d,J=[U (.ref w0),U (.ref tp),U (.ref v),U (.ref cl),U (.int (br te)),U (.int (br te)),U (.ref d),O,O,O,O,O,O]/\ah H H3/\H3 d=U (.tup [.int (bE te).length,.int (b8 te).length])) (λN hN=>?_) ?_
 .rfl';exact#[tp,w0,e,t,te,fW,Y,lR.same s2,lv,hon,hg,iY.same s2,tV,bC,λd H3 s3 hd=>hN _ _ #[d,Y,s2.trans s3,hd]]
 clear s2;rintro y yR J H3 ⟨d,rfl,S3,Gn⟩;subst yR;refine aC (λJ H4=>J=[U (.ref w0),U (.ref tp),U (.ref v),U (.ref cl),U (.int (br te)),U (.int (br te)),U (.ref d),O,O,O,O,O,O]/\ah H3 H4) (λN hN=>?_) ?_
 .rfl';obtain⟨C,dx,fs,hx,hc,hm,hlk,his,Bp⟩:=OX T (bQ.same hL S3) htop;refine#[_,_,Bp,(λz=>nomatch z),his,?_];rfl';refine#[_,Y,.inr #[_,Y],?_];rfl';refine#[v,te,Y,bQ.same hL S3,hg,λf H4 s4 hf=>?_];exact Ck (OY hf) (OY (s4 _ _ Gn)) (acv _ _) (by decide) #[false,Y,hN _ _ #[Y,s4]]
 rintro y yR J H4 ⟨rfl,Gq⟩;subst yR;replace S3:=S3.trans Gq;have hd4:=Gq _ _ Gn;clear Gn Gq;refine aC (λJ H5=>∃ l ys,J=[U (.ref w0),U (.ref tp),U (.ref v),U (.ref cl),U (.int (br te)),U (.int (br te)),U (.ref d),U (.ref l),O,O,O,O,O]/\ah H4 H5/\H4 l=O/\H5 l=U (.lst ys)/\ax (bA H4 H5) ys (bE te)) (λN hN=>?_) ?_
 .rfl';exact wO T (bQ.same hL S3) hg _ λl ys H5 s5 fl hl hy=>hN _ _ #[l,ys,Y,s5,fl,hl,hy]
 rintro y yR J H5 ⟨l,ys,rfl,s5,fl,hl,hy⟩;subst yR;refine aC (λJ H6=>∃ m zs,J=[U (.ref w0),U (.ref tp),U (.ref v),U (.ref cl),U (.int (br te)),U (.int (br te)),U (.ref d),U (.ref l),U (.ref m),O,O,O,O]/\ah H5 H6/\H5 m=O/\H6 m=U (.lst zs)/\ax (bA H5 H6) zs (b8 te)) (λN hN=>?_) ?_
 .rfl';exact Aw T (bQ.same hL (S3.trans s5)) hg _ λm zs H6 s6 fm hm hz=>hN _ _ #[m,zs,Y,s6,fm,hm,hz]
 rintro y yR J H7 ⟨m,zs,rfl,s6,fm,hm,hz⟩;subst yR;have S6:ah H4 H7:=s5.trans s6;have lS:=s6 _ _ hl;have Gr:=hy.imp λy y r=>r.same s6;have Gs:=hz.imp λy y r=>r.back s5;have fm6:=s5.free fm;have O5:=S6 _ _ hd4;clear hy hz hl fm s5 s6;have S7:=S3.trans S6;have cy:=Gr.imp λy y r=>r.cl;have cz:=Gs.imp λy y r=>r.cl;have ly:=cy.len;have lz:=cz.len;refine aC (λJ H8=>J=[U (.ref w0),U (.ref tp),U (.ref v),U (.ref cl),U (.int (br te)),U (.int (br te)),U (.ref d),U (.ref l),U (.ref m),O,O,O,O]/\ah H7 H8) (λN hN=>?_) ?_
 .rfl';refine aE O5 ?_;refine#[l,_,_,ys,_,Y,lS,cy,Y,O3,λH8 s8=>?_];rfl';refine aE (s8 _ _ O5) ?_;refine#[m,_,_,zs,_,Y,s8 _ _ hm,cz.imp λy y r=>r.same s8,Y,O4,λH9 s9=>?_];rfl';exact hN _ _ #[Y,s8.trans s9]
 rintro y yR J H8 ⟨rfl,s8⟩;subst yR;refine aC (λJ H9=>∃ e1 e2,J=[U (.ref w0),U (.ref tp),U (.ref v),U (.ref cl),U (.int (br te)),U (.int (br te)),U (.ref d),U (.ref l),U (.ref m),e1,e2,O,O]/\ah H7 H9) (λN hN=>?_) ?_
 .rfl';refine#[#[_,ai.of ((S7.trans s8) _ _ bw)],ja (acx H7 (λe1 e2=>[U (.ref w0),U (.ref tp),U (.ref v),U (.ref cl),U (.int (br te)),U (.int (br te)),U (.ref d),U (.ref l),U (.ref m),e1,e2,O,O])) #[_,_,Y,s8] (λn J H9 _ ⟨_,_,_,s9⟩=>ai.of ((S7.trans s9) _ _ bw)) ?_ λJ H9 h=>hN _ _ h];rintro n cv J H9 Fo ⟨z1,z2,rfl,s9⟩;obtain⟨cs,hcs,c,rfl,hc,aeL⟩:=hZ.get Fo;have X9:=S7.trans s9;have w5:=X9 _ _ hc;have AG:br te<(cs.length:Int):=by lia
  have Bt:=pw.take f0 cs;have Bn:=Ov hg cs;have al:((bE te).map (aM cs)).any id=(bE te).any (aM cs):=by rw[akD];rfl
  have Gu:((b8 te).map (aM cs)).any id=(b8 te).any (aM cs):=by rw[akD];rfl
  rw[Bn] at Gu;generalize O6:(bE te).any (aM cs)=BB at Bt Bn al Gu;rfl';obtain⟨C,dx,fs,hx,O7,dk,hlk,y,y⟩:=OX T (bQ.same hL X9) htop;refine#[_,_,_,hx,O7,dk,hlk,_,.inl (ai.of w5),λl1 h1=>?_];have u1:=ao (o:=.lst (cs.map V.int)) h1;refine#[v,l1,te,cs,Y,bQ.same hL (X9.trans u1),hg,ai.of ar,AG,λfF dM=>?_];rw[O6];have AH:=X9.trans (u1.trans dM);rfl';refine#[tp,w0,c,e,t,te,fW,cs,Y,lR.same AH,lv,hon,hg,iY.same AH,tV,bC,ai.of (AH _ _ hc),by lia,AG,λkG fG=>?_];have Gv:=AH.trans fG;rw[O6,Gk,if_neg (by simp)];rfl';refine#[_,_,_,(u1.trans (dM.trans fG)) _ _ hx,O7,dk,hlk,_,ai.of (Gv _ _ hc),λl2 h2=>?_];have ec:fJ (cs.map V.int) O (U (br te+1))=(cs.take (br te+1).toNat).map V.int:=by
   rw[am9,<- TV]
   congr 2
   lia
  rw[ec];have u2:=ao (o:=.lst ((cs.take (br te+1).toNat).map V.int)) h2;refine#[v,l2,te,_,Y,bQ.same hL (Gv.trans u2),hg,ai.of ar,by rw[agB];lia,λoR AI=>?_];rw[Bt,Gk,if_neg (by simp)];have X12:=Gv.trans (u2.trans AI);have AJ:ah H7 oR:=s9.trans (u1.trans (dM.trans (fG.trans (u2.trans AI))));rfl';refine#[#[_,ai.of (AJ _ _ lS)],cn gK (aeT (by lia:ys.length<=200) (by decide)) (mw (R:=Gz.cB) (p:=λy=>true) (f:=λps=>.bl (aM cs ps)) (λy y y y s h=>h.same s) (cy.imp λy y r=>r.same AJ) (λH' s'=>ai.of ((AJ.trans s') _ _ lS)) (λx ps y H2 s2 r Q h=>?_) (λx ps eN y H2 s2 r Q h=>?_) λGw Gx=>?_)]
  .rfl';exact h _ (ah.refl _)
  .obtain⟨b,xs,rfl,hb,hP⟩:=r;rfl';exact#[c,b,cs,xs,ps,Y,ai.of ((X12.trans s2) _ _ hc),ai.of hb,hP,pw.at AG ps eN,h _ (ah.refl _)]
  rw[ae6,filter_tt];intro l3 h3;have u3:=ao (o:=.lst ((bE te).map λps=>V.bl (aM cs ps))) h3;refine#[l3,Y,(bE te).map (aM cs),ai.of (by rw[ar,afA];rfl),?_];rw[al,Gk,if_neg (by simp)];have w9:ah H7 _:=AJ.trans (Gx.trans u3);have X14:=S7.trans w9;rfl';refine#[#[_,ai.of (w9 _ _ hm)],cn gK (aeT (by lia:zs.length<=200) (by decide)) (mw (R:=Gz.cB) (p:=λy=>true) (f:=λps=>.bl (aM cs ps)) (λy y y y s h=>h.same s) (cz.imp λy y r=>r.same w9) (λH' s'=>ai.of ((w9.trans s') _ _ hm)) (λx ps y H2 s2 r Q h=>?_) (λx ps eN y H2 s2 r Q h=>?_) λGw Gx=>?_)]
  .rfl';exact h _ (ah.refl _)
  .obtain⟨b,xs,rfl,hb,hP⟩:=r;rfl';exact#[c,b,cs,xs,ps,Y,ai.of ((X14.trans s2) _ _ hc),ai.of hb,hP,pb.at AG ps eN,h _ (ah.refl _)]
  rw[ae6,filter_tt];intro l4 h4;have u4:=ao (o:=.lst ((b8 te).map λps=>V.bl (aM cs ps))) h4;refine#[l4,Y,(b8 te).map (aM cs),ai.of (by rw[ar,afA];rfl),?_];rw[Gu,if_neg (by cases BB<;>simp)];exact#[_,_,Y,w9.trans (Gx.trans u4)]
 rintro y yR J H9 ⟨z1,z2,rfl,S9⟩;subst yR;have Aj:=S9 _ _ lS;have O8:=S9 _ _ hm;have cy9:=cy.imp λy y r=>r.same S9;have cz9:=cz.imp λy y r=>r.same S9;refine aC (λJ fF=>∃ k k0 k1 us vs,J=[U (.ref w0),U (.ref tp),U (.ref v),U (.ref cl),U (.int (br te)),U (.int (br te)),U (.ref d),U (.ref l),U (.ref m),z1,z2,U (.ref k),O]/\ah H9 fF/\fF k=U (.tup [.ref k0,.ref k1])/\H9 k0=O/\fF k0=U (.lst us)/\ax (bA H9 fF) us (bE te)/\H9 k1=O/\fF k1=U (.lst vs)/\ax (bA H9 fF) vs (b8 te)) (λN hN=>?_) ?_
 .rfl';refine#[#[_,ai.of Aj],cn gK (aeT (by lia:ys.length<=200) (by decide)) (ie (R:=Gz.cB) (R':=bA H9) (f:=λps=>ps) (λy y y y s' h=>h.same s') (λy y y y s' h=>h.same s') cy9 (bs:=[]) trivial (λH' s'=>ai.of (s' _ _ Aj)) (λx k y H2 s2 r Q h=>?_) (λx ps y H2 s2 r Q h=>?_) λH2 us s2 hu=>?_)]
  .rfl';exact h
  .obtain⟨c,xs,rfl,hc,hP⟩:=r;rfl';exact#[_,.inl (ai.of hc),λk hk=>h _ _ (ao hk) #[k,xs,Y,s2.free hk,ar,hP.same (ao hk)]]
  rw[ae6,akC] at hu;intro k0 tJ;have t1:=s2.trans (ao (o:=.lst us) tJ);have e0:upd H2 k0 (.lst us) k0=U (.lst us):=ar;have O9:=hu.imp λy y r=>r.same (ao (o:=.lst us) tJ);have f0:=s2.free tJ;generalize upd H2 k0 (.lst us)=H3 at t1 e0 O9 ⊢;clear hu s2 tJ;rfl';refine#[#[_,ai.of (t1 _ _ O8)],cn gK (aeT (by lia:zs.length<=200) (by decide)) (ie (R:=Gz.cB) (R':=bA H9) (f:=λps=>ps) (λy y y y s' h=>h.same s') (λy y y y s' h=>h.same s') (cz9.imp λy y r=>r.same t1) (bs:=[]) trivial (λH' s'=>ai.of (s' _ _ (t1 _ _ O8))) (λx k y H2 s2 r Q h=>?_) (λx ps y H2 s2 r Q h=>?_) λH2 vs s2 hv=>?_)]
  .rfl';exact h
  .obtain⟨c,xs,rfl,hc,hP⟩:=r;rfl';exact#[_,.inl (ai.of hc),λk hk=>h _ _ (ao hk) #[k,xs,Y,(t1.trans s2).free hk,ar,hP.same (ao hk)]]
  rw[ae6,akC] at hv;intro k1 iz;have t2:=s2.trans (ao (o:=.lst vs) iz);have e1:upd H2 k1 (.lst vs) k1=U (.lst vs):=ar;have sE:=hv.imp λy y r=>r.same (ao (o:=.lst vs) iz);have f1:=(t1.trans s2).free iz;generalize upd H2 k1 (.lst vs)=fF at t2 e1 sE ⊢;refine#[aX,λk hk=>hN _ _ #[k,k0,k1,us,vs,Y,t1.trans (t2.trans (ao hk)),ar,f0,(t2.trans (ao hk)) _ _ e0,O9.imp λy y r=>r.same (t2.trans (ao hk)),f1,(ao hk) _ _ e1,sE.imp λy y r=>r.same (ao hk)]]
 rintro y yR J fF ⟨k,k0,k1,us,vs,rfl,dM,hk,f0,e0,hu,f1,e1,hv⟩;subst yR;have xa:ah H7 fF:=S9.trans dM;have P7:∀ c,chg ys zs l m c->H c=O/\∃ xs,H7 c=U (.lst xs)/\xs.length<=200:=λc hc=>by
  rcases hc with hc|rfl|rfl
  .rcases afq.mp hc with hc|hc
   .obtain⟨xs,ps,eN,n,h,hP⟩:=OZ Gr hc;have:=(O3 ps eN).1;have:=hP.len;exact#[S3.free n,xs,h,by lia]
   .obtain⟨xs,ps,eN,n,h,hP⟩:=OZ Gs hc;have:=(O4 ps eN).1;have:=hP.len;exact#[S3.free n,xs,h,by lia]
  .exact#[S3.free fl,_,lS,by lia]
  .exact#[S3.free fm6,_,hm,by lia]
 refine aC (λJ oR=>∃ (e:Option V) (g:ae0) (kG:Hp),J=[U (.ref w0),U (.ref tp),U (.ref v),U (.ref cl),U (.int (br te)),U (.int (br te)),U (.ref d),U (.ref l),U (.ref m),z1,z2,U (.ref k),e]/\ah fF kG/\Kp (chg ys zs l m) kG oR/\∀ a,chg ys zs l m a->∃ xs,oR a=U (.lst xs)/\xs.length<=700) (λN hN=>?_) ?_
 .rfl';refine#[_,xa _ _ lS,_,xa _ _ hm,aeT (by lia:ys.length+zs.length<=400) (by decide),λg Gy=>?_];have sg:=ao (o:=.lst (ys++zs)) Gy;have eg:upd fF g (.lst (ys++zs)) g=U (.lst (ys++zs)):=ar;generalize upd fF g (.lst (ys++zs))=kG at sg eg ⊢;have gn:¬ chg ys zs l m g:=λz=>by obtain⟨y,xs,h,y⟩:=P7 g z;rw[xa _ _ h] at Gy;cases Gy
  refine#[#[_,ai.of eg],ja (xs:=ys++zs) (acw kG (λe=>[U (.ref w0),U (.ref tp),U (.ref v),U (.ref cl),U (.int (br te)),U (.int (br te)),U (.ref d),U (.ref l),U (.ref m),z1,z2,U (.ref k),e]) (chg ys zs l m)) #[_,Y,Kp.refl,λc hc=>?_] ?_ ?_ ?_]
  .obtain⟨y,xs,h,hl⟩:=P7 c hc;exact#[xs,(xa.trans sg) _ _ h,hl]
  .rintro i J H2 y ⟨y,y,kp,y⟩;exact ai.of (kp _ _ gn eg)
  .rintro i v J H2 sF ⟨e,rfl,kp,hP⟩;have bL:=ae8 sF;have hi:i<400:=by have:=(aeW.mp sF).1;rw[ae1] at this;lia
   obtain⟨c,rfl⟩:∃ c,v = .ref c:=by
    rcases afq.mp bL with h|h
    .obtain⟨i,hi⟩:=afF.mp h;obtain⟨y,y,c,y,e,y⟩:=Gr.get hi;exact#[c,e]
    .obtain⟨i,hi⟩:=afF.mp h;obtain⟨y,y,c,y,e,y⟩:=Gs.get hi;exact#[c,e]
   have Pb:chg ys zs l m c:=.inl bL;obtain⟨xs,hx,vh⟩:=hP c Pb;rfl';refine#[.inl #[Y,_,ai.of hx],aX,λt1 kE=>#[by decide,λt2 ht2=>?_]];have u:=(ao (o:=.tup [.int 0,.int 0]) kE).trans (ao (o:=.tup [.str "at",.int 0,.ref t1]) ht2);refine#[xs,u _ _ hx,afy (by lia:xs.length<=600) (by decide),_,Y,(kp.same u).put Pb,λa2 AK=>?_];by_cases e2:a2=c
   .subst e2;exact#[_,ar,by rw[ae1,afh];lia]
   .obtain⟨ws,hw,Ih⟩:=hP a2 AK;exact#[ws,by rw[aI e2];exact u _ _ hw,by lia]
  .rintro J H2 ⟨e,rfl,kp,hP⟩;refine hN _ _ #[e,g,kG,Y,sg,kp,λc hc=>?_];obtain⟨xs,h1,h2⟩:=hP c hc;rw[ae1] at h2;exact#[xs,h1,by lia]
 rintro y yR J oR ⟨e,g,kG,rfl,fG,kp,hP⟩;subst yR;rfl';obtain⟨xl,vh,nl⟩:=hP l (.inr (.inl rfl));refine#[.inl #[Y,_,ai.of vh],afi _,λp1 cP=>?_];have u1:=ao (o:=.lst []) cP;refine#[xl,u1 _ _ vh,afy nl (by decide),?_];have Pc:=(kp.same u1).put (o:=.lst (xl++[.ref p1])) (show chg ys zs l m l from .inr (.inl rfl));obtain⟨xm,hxm,nm⟩:∃ xs,upd (upd oR p1 (.lst [])) l (.lst (xl++[.ref p1])) m=U (.lst xs)/\xs.length<=701:=by
  by_cases e2:m=l
  .subst e2;exact#[_,ar,by rw[ae1,afh];lia]
  .obtain⟨xs,h1,h2⟩:=hP m (.inr (.inr rfl));exact#[xs,by rw[aI e2];exact u1 _ _ h1,by lia]
 generalize upd (upd oR p1 (.lst [])) l (.lst (xl++[.ref p1]))=Gw at Pc hxm ⊢;refine#[.inl #[Y,_,ai.of hxm],afi _,λp2 dD=>?_];have u2:=ao (o:=.lst []) dD;refine#[xm,u2 _ _ hxm,afy nm (by decide),?_];have qZ:=(Pc.same u2).put (o:=.lst (xm++[.ref p2])) (show chg ys zs l m m from .inr (.inr rfl));generalize upd (upd Gw p2 (.lst [])) m (.lst (xm++[.ref p2]))=Pd at qZ ⊢;have Pe:ah H7 kG:=xa.trans fG;have GA:Nl kG Pd:=qZ.nl λc hc=>by obtain⟨y,xs,h,y⟩:=P7 c hc;exact#[xs,Pe _ _ h]
 have Pf:=GA k (.tup [.ref k0,.ref k1]) (λy z=>nomatch z) (fG _ _ hk);have nP:∀ c,chg ys zs l m c->H9 c≠O:=λc hc z=>by obtain⟨y,xs,h,y⟩:=P7 c hc;rw[S9 _ _ h] at z;cases z
 have e0':=qZ _ _ (λz=>nP _ z f0) (fG _ _ e0);have rL:=qZ _ _ (λz=>nP _ z f1) (fG _ _ e1);have acA:=hu.imp λy y r=>(r.same fG).kp qZ GA nP;have acB:=hv.imp λy y r=>(r.same fG).kp qZ GA nP;have Pg:ah H Pd:=qZ.new (S7.trans Pe) λc hc=>(P7 c hc).1;have Ph:=bQ.same hL Pg;refine wO T Ph hg _ λr2 rs2 H16 oT y acC acD=>?_;rfl';refine aE (oT _ _ Pf) ?_;refine Ck (yQ acC (acD.imp λy y r=>r.cl)) (yQ (oT _ _ e0') (acA.imp λy y r=>r.same oT)) (Ls pw.str) (by decide) ?_;rfl';refine Aw T (bQ.same Ph oT) hg _ λr rs H15 AL y acE hrs=>?_;rfl';refine aE ((oT.trans AL) _ _ Pf) ?_;exact Ck (yQ acE (hrs.imp λy y r=>r.cl)) (yQ ((oT.trans AL) _ _ rL) (acB.imp λy y r=>r.same (oT.trans AL))) (Ls pb.str) (by decide) (q _ (Pg.trans (oT.trans AL)))
theorem Pj(hg:good0 a):iA a<=11:=by
 cases a with
 | over i j s=>exact hg.2.2
 | lies i tb =>
  have:=N4 (t:=12) (by decide) (N3 (i:=i) hg.1);show iV (cg tb i)<=11;lia
theorem xb(hg:cp tr):eF tr<=11:=by
 cases tr with
 | leaf a=>exact Pj hg
 | nay a=>exact Pj hg
theorem acF(hg:dZ tr):br tr<=11:=by
 cases tr with
 | leaf a=>exact xb hg
 | both a b =>
  have h1:=xb hg.1.1;have h2:=xb hg.1.2;show eG _ _<=11;unfold eG;split<;>lia
 | either a b =>
  have h1:=xb hg.1.1;have h2:=xb hg.1.2;show eG _ _<=11;unfold eG;split<;>lia
inductive acG(T:aA)(vs:List V)(H:Hp)(Q:VK)(aO:XK):Prop
 | mk(v:ae0)(te:Te)(_:vs=[.ref v])(_:bQ T H v te)(_:dZ te)(_:∀ H',ah H H'->Q (.bl true) H')
theorem acH(T:aA):aP 23 T.EB (acG T):=by
 refine jh vT ?_;rintro y A y s H y y y hr ⟨v,te,rfl,hv,hg,q⟩;refine#[_,(au (aH (lH (cD (Ax T hr) (aa 0)) af) (aq (az cH)) aG) (au (aL 1 vT.nd cH) (au (UW (λcls y H1=>cls = .ref T.fD/\ah H H1) Y Y Y T.EE (λF pn hx=>(aq (fI (dw (Ot T) hr.m Y T.tx.m T.tx.F.kp T.tx.b .nil hx (ae (o7 T.zX (MM T) hr.m Y T.Mu T.oF.b .nil hx (ae af (ae (cD (Ax T hr) (aa 0)) (ae af (ae af (ae af ag)))))) (ae (aa 0) ag)))))) (λA' pn=>(aq (aL 1 vT.nd cH)))) (aq (az (aa 1)))))),?_];have f11:=acF hg;refine aC (λJ H1=>J=[U (.ref v),O]/\ah H H1/\1<=br te) (λN hN=>?_) ?_
 .rfl';refine Ay T hv hg _ λH1 s1=>?_;rfl';exact a7 (λy=>q _ s1) λh=>hN _ _ #[Y,s1,by lia]
 rintro y yR J H1 ⟨rfl,s1,f1⟩;subst yR;replace hv:=bQ.same hv s1;have gy:fS 1 (br te) 0 0 1:=#[#[by decide,by decide],#[f1,by lia],by decide,by decide,by decide,by decide]
 refine aC (λJ H2=>J=[U (.ref v),U (.bl false)]/\H1=H2) (λN hN=>?_) ?_
 .rfl';exact hN _ _ #[Y,Y]
 rintro y yR J y ⟨rfl,rfl⟩;subst yR;rfl';refine#[?_,?_]
 .rfl';refine Ay T hv hg _ λH2 s2=>?_;rfl';refine λx' dx' cZ acI dR=>?_;refine#[x',dx',1,br te,0,0,1,Y,ar,λz=>absurd gy z,λy p' H3 eK s3 X3 P3=>#[Y,?_]];have M:=uY (C:=T.aZ) (fs:=[]) cZ acI dR;have Pk:ah H2 H3:=λb o e=>s3 b o (λz=>by rw[z,cZ] at e;cases e) (M _ _ e);rfl';exact#[x',p',v,1,_,0,0,1,te,[],Y,#[#[_,X3],_,P3,trivial],gy,bZ.nil,afi _,bQ.same hv (s2.trans Pk),hg,λy H' s'=>#[Y,s1.trans (s2.trans (Pk.trans s'))],λz=>absurd z (by lia)]
 .rintro cls H' ⟨rfl,hs⟩;refine#[_,Y,T.YR,?_];rfl';exact q _ hs
theorem dn.told{B:ae0}{H H':Hp}{y p:ae0}{e t u d m:Int}{tb:Tb}{kvs:List (List Key × V)}{s:P2}{w:S2}{v:V}(ob:∃ dx,H y=U (.ins B dx (z5 e t u d m p)))(hp:H p=U (.dT kvs))(hA:bF H kvs tb)(sb:SameBut p H H')(eK:H' p=U (.dT (putK kvs (dE s.1 s.2) v)))(iv:aQ H' v w.1 w.2):dn B H' y e t u d m p (fN tb s w) :=
 let ⟨dx,hx⟩:=ob
 #[#[dx,sb y _ (λz=>by rw[z,hp] at hx;cases hx) hx],_,eK,bF.put (hA.imp λv a b z=>z.fr (SameBut.fr sb hp)) iv]
theorem fU.fr(h:fU T H x a)(F:Fr H H'):fU T H' x a:=by
 cases a
 case over=>obtain⟨dx,a⟩:=h;exact#[dx,F _ (.ins _ _ _) (λv z=>nomatch z) a]
 case lies =>
  obtain⟨dx,l,ys,a,b,c⟩:=h;exact#[dx,l,ys,F _ (.ins _ _ _) (λv z=>nomatch z) a,F _ (.lst _) (λv z=>nomatch z) b,c.imp λv v r=>let ⟨t,p,e,x,y⟩:=r;#[t,p,e,F _ (.tup _) (λv z=>nomatch z) x,F _ (.tup _) (λv z=>nomatch z) y]]
theorem dS.fr{T:aA}{H H':Hp}{x:ae0}{a:Tr}(h:dS T H x a)(F:Fr H H'):dS T H' x a:=by
 cases a
 case leaf=>exact fU.fr h F
 case nay=>obtain⟨dx,c,a,b⟩:=h;exact#[dx,c,F _ (.ins _ _ _) (λy z=>nomatch z) a,b.fr F]
theorem gC.fr(h:gC C T H x a b)(F:Fr H H'):gC C T H' x a b:=by obtain⟨dx,c1,c2,a,b,c⟩:=h;exact#[dx,c1,c2,F _ (.ins _ _ _) (λy z=>nomatch z) a,b.fr F,c.fr F]
theorem bQ.fr(h:bQ T H x te)(F:Fr H H'):bQ T H' x te:=by
 cases te
 case leaf=>exact dS.fr h F
 all_goals exact gC.fr h F
theorem jV.same(h:jV t H v cs)(s:ah H H'):jV t H' v cs:=let ⟨a,e,b,c⟩:=h;#[a,e,s _ _ b,c]
theorem jV.fr(h:jV t H v cs)(F:Fr H H'):jV t H' v cs:=let ⟨a,e,b,c⟩:=h;#[a,e,F _ (.lst _) (λy z=>nomatch z) b,c]
def Pl(H:Hp)(t:Int)(cl q1:ae0)(σ0:Option V->Option V->St)(k:Nat)(J:St)(H1:Hp):Prop:=(∃ e1 e2,J=σ0 e1 e2)/\ah H H1/\∃ zs jr,H1 cl=U (.lst zs)/\ax (λv cs=>jV t H1 v cs/\v ≠ .ref cl) zs jr/\zs.length<=1+k/\H1 q1=U (.tup [.int 400,.int 413])
theorem acJ(T:aA):aP 37 T.lQ (qH K):=by
 refine jh gu ?_;rintro g g g s H g Q g hr ⟨a,ns,rfl,hS,hn,q⟩;refine#[_,(au (aL 1 gu.nd (aD (ZN T) hr (ae (aa 0) (ae (aD (Zf T) hr (ae (aa 0) ag)) ag)))) (au (aL 2 gu.nd (ak (aa 1) af)) (au (aL 3 gu.nd (ak (aa 1) af)) (au (aL 4 gu.nd (aD (aad T) hr (ae (aa 2) ag))) (au (aL 5 gu.nd (aD (acm T) hr (ae (aa 0) (ae (aa 2) (ae (aa 3) (ae (ak (aa 1) af) ag)))))) (au (aL 6 gu.nd (dj (ae (aa 3) ag))) (au (dt ahM Y (oW (aT (ae af (ae af ag)))) (cS 7 gu.nd) (au (rM (i:=8) (cO [3,1,0,7] [fQ,"_law_made",ji,pZ]) Y gu.nd Y Y (jz Y T.gW (ae (ak (aa 2) af) ag)) (λC s2 H2 ex pn=>#[df,(aJ bV (bW (K:=K) (aa 1) (aa 0)) (aJ ik (bW (K:=K) (aa 2) af) (aJ dG (aD (dX T) hr (ae (aa 3) (ae (aJ bV (aa 4) (aa 0)) (ae af (ae af ag))))) af)))])) (aq (fI (i7 afx afP afQ mh (aa 6) (ae (aa 8) ag)))))) (au (aL 9 gu.nd (dw (OI T 3) hr.m Y T.eE.m T.eE.F.kp T.eE.b .nil jc (ae (aa 5) (ae (aa 4) ag)))) (au (aL 10 gu.nd (uz UQ (by rfl) T.Yi RV (ae (ak (aa 2) af) ag))) (au (aH (PW.pt (bI (bJ (bO (ip (O0 T) hr (ae (aa 10) (ae (aa 5) (ae (aa 9) (ae (aa 6) ag))))))) (da (bJ (bO (ip (OQ T) hr (ae (aa 2) (ae (aa 4) (ae (aa 10) (ae (aa 5) (ae (aa 9) ag))))))))))) (aq (az cH)) aG) (au (aL 11 gu.nd (aT (ae (aD (dX T) hr (ae (aa 0) (ae af (ae af (ae (ak (aa 2) af) ag))))) (ae (aD (dX T) hr (ae (aa 0) (ae af (ae af (ae (ak (aa 2) af) ag))))) ag)))) (au (aL 12 gu.nd (aD (MV T) hr (ae (aa 0) (ae af (ae (aJ bV (ak (aa 3) af) (aJ ik (ak (aa 1) af) (aJ dG (aD (dX T) hr (ae (aa 0) (ae af (ae af (ae af ag))))) af))) (ae (ak (aa 1) af) ag)))))) (au (fI (jC (aa 4) T.cM T.MJ (MP T) hr.m T.oH.b .nil jc (ae (ak (aa 11) af) (ae (ak (aa 11) af) (ae (ak (aa 12) af) (ae (ak (aa 12) af) ag)))))) (au (Cc (gJ hr) (ak (aa 2) af) (aa 11) (aa 12) Y) (au (aH (PW.pt (bI (bJ (bO (ip (OQ T) hr (ae (aa 2) (ae (aa 4) (ae (aa 10) (ae (aa 5) (ae (aa 9) ag)))))))) (da (bJ (bO (ip (O0 T) hr (ae (aa 10) (ae (aa 5) (ae (aa 9) (ae (aa 6) ag)))))))))) (aq (az cH)) aG) (aq (az (ip (acH T) hr (ae (aa 9) ag))))))))))))))))))),?_];refine aC (λJ H1=>∃ (r wr w c:ae0) (cs:List Int) (e t u d m f:Int) (tb:Tb),J=[U (.ref a),U (.ref r),O,O,O,O,O,O,O,O,O,O,O]/\ah H H1/\H1 r=U (.tup [.ref wr,.ref c,.int f])/\H1 wr=U (.tup [.int e,.int t,.int u,.int d,.int m,.ref w])/\TabAt H1 w tb/\H1 c=U (.lst (cs.map V.int))/\cs.length=t.toNat/\fS e t u d m/\bZ e t tb/\tb.length<=18/\(∀ r∈tb,aY r.2.1 r.2.2=false)/\((2<=e/\e<=3)/\1<=t/\t<=3)/\(1<=f/\f<=1000000000000000000000000000000)) (λN hN=>?_) ?_
 .rfl';refine#[a,ns,Y,hS,hn,λn H1 s1=>#[a,ns,n,Y,s1.seq hS,hn,λr wr w c cs e t u d m f tb H2 s2 x1 x2 x3 x4 x5 x6 x7 x8 x9 y1 y2=>hN _ _ #[r,wr,w,c,cs,e,t,u,d,m,f,tb,Y,s1.trans s2,x1,x2,x3,x4,x5,x6,x7,x8,x9,by lia,y2]]]
 rintro g yR J H1 ⟨r,wr,w,c,cs,e,t,u,d,m,f,tb,rfl,s1,cX,AM,kF,fK,bw,gy,aR,OJ,dJ,⟨he,ht⟩,hf⟩;subst yR;have GB:=s1.seq hS;clear hS s1;refine aC (λJ H2=>J=[U (.ref a),U (.ref r),U (.ref wr),O,O,O,O,O,O,O,O,O,O]/\H1=H2) (λN hN=>?_) ?_
 .rfl';exact ay (aj.of cX) Y (hN _ _ #[Y,Y])
 rintro g yR J g ⟨rfl,rfl⟩;subst yR;refine aC (λJ H2=>J=[U (.ref a),U (.ref r),U (.ref wr),U (.ref c),O,O,O,O,O,O,O,O,O]/\H1=H2) (λN hN=>?_) ?_
 .rfl';exact ay (aj.of cX) Y (hN _ _ #[Y,Y])
 rintro g yR J g ⟨rfl,rfl⟩;subst yR;refine aC (λJ H3=>∃ x p,J=[U (.ref a),U (.ref r),U (.ref wr),U (.ref c),U (.ref x),O,O,O,O,O,O,O,O]/\ah H1 H3/\H1 p=O/\dn T.aZ H3 x e t u d m p tb) (λN hN=>?_) ?_
 .rfl';exact#[.ref wr,w,e,t,u,d,m,tb,Y,#[wr,Y,AM,kF],gy,aR,by lia,dJ,λx p H3 s3 g fp hB=>hN _ _ #[x,p,Y,s3,fp,hB]]
 rintro g yR J H3 ⟨x,p,rfl,s3,fp,wu⟩;subst yR;have wp:w≠p:=λz=>by obtain⟨ks,gA,g⟩:=kF;rw[z,fp] at gA;cases gA
 refine aC (λJ H4=>∃ tp te,J=[U (.ref a),U (.ref r),U (.ref wr),U (.ref c),U (.ref x),U (.ref tp),O,O,O,O,O,O,O]/\ah H3 H4/\iX H4 tp te/\AB te/\nz tb te/\Ga e te/\dZ te/\br te<t) (λN hN=>?_) ?_
 .rfl';exact ay (aj.of (s3 _ _ cX)) Y #[a,wr,w,c,ns,cs,e,t,u,d,m,f,tb,Y,s3.seq GB,hn,s3 _ _ AM,aR,OJ,he,s3 _ _ fK,bw,ht,hf,λtp te H4 s4 h1 h2 h3 h4 h5 h6=>hN _ _ #[tp,te,Y,s4,h1,h2,h3,h4,h5,h6]]
 rintro g yR J H5 ⟨tp,te,rfl,s4,tY,htop,hon,bL,hg,hfar⟩;subst yR;have lv:qY te<3:=by
  cases te with
  | leaf a=>exact afy (fE a) (by decide)
  | both a b=>exact af7 2
  | either a b=>exact af7 2
 have S4:=s3.trans s4;have tZ:=wu.same s4;have q8:=S4 _ _ AM;have kD:=kF.same S4;have jn:=S4 _ _ fK;have wz:=S4 _ _ cX;have GC:=S4.seq GB;clear s3 s4 S4 AM kF fK cX GB fp wu;refine aC (λJ H6=>∃ cl,J=[U (.ref a),U (.ref r),U (.ref wr),U (.ref c),U (.ref x),U (.ref tp),U (.ref cl),O,O,O,O,O,O]/\ah H5 H6/\H5 cl=O/\H6 cl=U (.lst [.ref c])) (λN hN=>?_) ?_
 .rfl';exact#[by decide,λcl h=>hN _ _ #[cl,Y,ao h,h,ar]]
 rintro g yR J H6 ⟨cl,rfl,s6,fcl,Pm⟩;subst yR;have kI:c≠cl:=λz=>by rw[z,fcl] at jn;cases jn
 refine aC (λJ H7=>∃ q1,Pl H5 t cl q1 (λe1 e2=>[U (.ref a),U (.ref r),U (.ref wr),U (.ref c),U (.ref x),U (.ref tp),U (.ref cl),e1,e2,O,O,O,O]) 2 J H7) (λN hN=>?_) ?_
 .rfl';refine#[aX,λq1 wF=>?_];have uq:=ao (o:=.tup [.int 400,.int 413]) wF;refine#[#[_,aj.of ar],Iw (xs:=[.int 400,.int 413]) (Pl H5 t cl q1 (λe1 e2=>[U (.ref a),U (.ref r),U (.ref wr),U (.ref c),U (.ref x),U (.ref tp),U (.ref cl),e1,e2,O,O,O,O])) #[#[_,_,Y],s6.trans uq,[.ref c],[cs],uq _ _ Pm,#[#[#[c,Y,(s6.trans uq) _ _ jn,bw],λz=>kI (V.ref.inj z)],trivial],aeV _,ar] (λk J H7 _ ⟨_,_,_,_,_,_,_,h⟩=>aj.of h) ?_ λJ H7 h=>hN _ _ #[q1,h]];rintro k v J H7 hv ⟨⟨z1,z2,rfl⟩,s7,zs,jr,t4,t5,Pn,GD⟩;obtain⟨kk,rfl,kk0,kk1⟩:∃ kk:Int,v = .int kk/\0<=kk/\kk<=1000:=by
   match k,hv with
   | 0,hv=>exact#[400,by cases hv;rfl,by decide,by decide]
   | 1,hv=>exact#[413,by cases hv;rfl,by decide,by decide]
  have k2:k<2:=(aeW.mp hv).1;rfl';refine ay (aj.of (s7 _ _ q8)) Y #[t,Y,by lia,by lia,cn k6 (by rw[aeO,ae9];exact aeT (by lia:_<=12) (by decide)) (Jr (ys:=[]) trivial (λx hx Q h=>?_) (λx hx Q h=>?_) λms Po=>?_)]
  .rfl';exact h
  .obtain⟨j,hj,rfl⟩:=aeY.mp hx;have:=af1.mp hj;rfl';refine bK (ai.of (s7 _ _ jn)) (int_at (by lia) (by lia)) (ay (aj.of (s7 _ _ wz)) Y #[a,ns,_,_,_,Y,s7.seq GC,hn,#[by lia,by lia],by decide,by decide,λk k0 k1=>?_]);exact#[rH (by lia) (by lia),h _]
  .intro l hl;rw[ae6];rw[aeO,ae9] at Po;have ul:=ao (o:=.lst (ms.map V.int)) hl;have Pq:l≠cl:=λz=>by rw[z,t4] at hl;cases hl
   have Pr:=ul _ _ t4;rfl';refine#[.inl #[Y,_,ai.of Pr],zs,Pr,afy (by lia:_<=3) (by decide),#[_,_,Y],jb fcl (s7.trans ul),zs++[.ref l],jr++[ms],ar,ax.snoc (t5.imp λv g r=>?_) #[#[l,Y,by rw[aI Pq];exact ar,Po],λz=>Pq (V.ref.inj z)],by rw[ae1,afh];lia,by rw[aI λz=>by rw[z,t4] at GD;cases GD];exact ul _ _ GD];obtain⟨⟨b,eb,hb,hbl⟩,bN⟩:=r;exact#[#[b,eb,by rw[aI λz=>bN (by rw[eb,z])];exact ul _ _ hb,hbl],bN]
 rintro g yR J H7 ⟨q1,⟨z1,z2,rfl⟩,s7,zs,jr,t4,t5,Pn,g⟩;subst yR;have t5:ax (jV t H7) zs jr:=t5.imp λg g r=>r.1;refine aC (λJ H8=>∃ v,J=[U (.ref a),U (.ref r),U (.ref wr),U (.ref c),U (.ref x),U (.ref tp),U (.ref cl),z1,z2,U (.ref v),O,O,O]/\ah H7 H8/\bQ T H8 v te) (λN hN=>?_) ?_
 .rfl';exact#[tp,x,p,e,t,u,d,m,te,tb,Y,tY.same s7,lv,hon,bL,hg,tZ.same s7,aR,by lia,λv H8 s8 hv=>hN _ _ #[v,Y,s8,hv]]
 rintro g yR J H8 ⟨v,rfl,s8,Pt⟩;subst yR;have S8:=s7.trans s8;refine aC (λJ H9=>∃ w0,J=[U (.ref a),U (.ref r),U (.ref wr),U (.ref c),U (.ref x),U (.ref tp),U (.ref cl),z1,z2,U (.ref v),U (.ref w0),O,O]/\ah H8 H9/\H8 w0=O/\TabAt H9 w0 tb) (λN hN=>?_) ?_
 .obtain⟨kw,hkw,Pu⟩:=id (kD.same S8);rfl';exact ay (aj.of (S8 _ _ q8)) (v:=.ref w) Y #[w,Y,kw,hkw,Vc Pu aR (by lia) (by lia),λl hl=>hN _ _ #[l,Y,ao hl,hl,kw,ar,Pu.imp λg g g z=>aQ.same z (ao hl)]]
 rintro g yR J H9 ⟨w0,rfl,s9,xf,iY⟩;subst yR;have w0w:w0≠w:=λz=>by obtain⟨ks,gA,g⟩:=kD.same S8;rw[z,gA] at xf;cases xf
 have w0p:w0≠p:=λz=>by obtain⟨ks,gA,g⟩:=(tZ.same S8).tb;rw[z,gA] at xf;cases xf
 have S9:=S8.trans s9;have xg:=bQ.same Pt s9;have q9:=S9 _ _ q8;have AN:=kD.same S9;have AO:=tZ.same S9;have xh:=tY.same S9;have wD:=(s8.trans s9) _ _ t4;have AQ:ax (jV t H9) zs jr:=t5.imp λg g r=>r.same (s8.trans s9);have t6:=S9.seq GC;have AR:=S9 _ _ wz;have w5:=S9 _ _ jn;clear s6 s7 s8 s9 S8 S9 q8 kD tZ t4 t5 GC wz jn Pt xf tY fcl Pm kI Pn;refine aC (λJ fF=>J=[U (.ref a),U (.ref r),U (.ref wr),U (.ref c),U (.ref x),U (.ref tp),U (.ref cl),z1,z2,U (.ref v),U (.ref w0),O,O]/\ah H9 fF) (λN hN=>?_) ?_
 .rfl';refine#[w0,tp,v,cl,e,t,te,tb,zs,jr,Y,iY,aR,by lia,#[by lia,by lia],dJ,xh,hon,htop,xg,hg,hfar,wD,AQ,λfF dM=>?_];rfl';refine#[x,p,w,w0,v,tp,.ref wr,e,t,u,d,m,te,tb,tb,Y,AO.same dM,#[wr,Y,dM _ _ q9,AN.same dM],gy,aR,by lia,iY.same dM,aR,by lia,xh.same dM,hon,bQ.same xg dM,hg,hfar,λkG fG=>?_];rfl';exact hN _ _ #[Y,dM.trans fG]
 rintro g yR J fF ⟨rfl,dM⟩;subst yR;replace iY:=iY.same dM;replace xg:=bQ.same xg dM;replace q9:=dM _ _ q9;replace AN:=AN.same dM;replace AO:=AO.same dM;replace xh:=xh.same dM;replace wD:=dM _ _ wD;replace AQ:ax (jV t fF) zs jr:=AQ.imp λg g r=>r.same dM;replace t6:=dM.seq t6;replace AR:=dM _ _ AR;replace w5:=dM _ _ w5;clear dM;refine aC (λJ H2=>∃ sp s1 s2,J=[U (.ref a),U (.ref r),U (.ref wr),U (.ref c),U (.ref x),U (.ref tp),U (.ref cl),z1,z2,U (.ref v),U (.ref w0),U (.ref sp),O]/\ah fF H2/\H2 sp=U (.tup [.int s1,.int s2])/\(0<=s1/\s1<e)/\(0<=s2/\s2<t)) (λN hN=>?_) ?_
 .rfl';refine ay (aj.of q9) Y #[a,ns,_,_,_,Y,t6,hn,#[by decide,by decide],by decide,by lia,λk1 k10 k11=>?_];refine ay (aj.of q9) Y #[a,ns,_,_,_,Y,t6,hn,#[by decide,by decide],by decide,by lia,λk2 k20 k21=>#[aX,λsp jD=>hN _ _ #[sp,k1,k2,Y,ao jD,ar,#[k10,k11],k20,k21]]]
 rintro g yR J H2 ⟨sp,a1,a2,rfl,s2,jD,Pw,AK⟩;subst yR;refine aC (λJ H3=>∃ wq lo hi,J=[U (.ref a),U (.ref r),U (.ref wr),U (.ref c),U (.ref x),U (.ref tp),U (.ref cl),z1,z2,U (.ref v),U (.ref w0),U (.ref sp),U (.ref wq)]/\ah H2 H3/\H3 wq=U (.tup [ev lo,ev hi])/\aY lo hi=false) (λN hN=>?_) ?_
 .rfl';refine bK (ai.of (s2 _ _ w5)) (int_at (by decide) (by lia)) (ay (aj.of (s2 _ _ AR)) Y #[a,ns,_,_,_,Y,s2.seq t6,hn,#[by decide,by decide],by decide,by decide,λj j0 j1=>#[rH (by lia) (by lia),?_]]);exact ay (aj.of (s2 _ _ AR)) Y #[a,ns,17,_,f,Y,s2.seq t6,hn,#[by decide,by decide],hf,λwq lo hi H3 s3 xi hc g=>hN _ _ #[wq,lo,hi,Y,s3,xi,hc]]
 rintro g yR J H3 ⟨wq,lo,hi,rfl,s3,xi,E4⟩;subst yR;have X3:=s2.trans s3;have GF:=s3 _ _ jD;obtain⟨⟨dx,hx⟩,kp,hkp,Px⟩:=AO.same X3;obtain⟨kv,hkv,Py⟩:=AN.same X3;have kl:=Px.len;have k1l:=Py.len;refine aC (λJ H4=>J=[U (.ref a),U (.ref r),U (.ref wr),U (.ref c),U (.ref x),U (.ref tp),U (.ref cl),z1,z2,U (.ref v),U (.ref w0),U (.ref sp),U (.ref wq)]/\SameBut p H3 H4/\Fr H3 H4/\dn T.aZ H4 x e t u d m p (fN tb (a1,a2) (lo,hi))) (λN hN=>?_) ?_
 .rfl';refine#[_,_,hx,Y,aE GF (aE GF (aE xi (aE xi ?_)))];exact#[x,p,e,t,u,d,m,a1,a2,lo,hi,kp,Y,#[#[dx,hx],hkp],by lia,λz=>absurd #[#[Pw,AK],E4] z,λg v9 H4 sb nj iv=>hN _ _ #[Y,sb,SameBut.fr sb hkp,dn.told (s:=(a1,a2)) (w:=(lo,hi)) #[dx,hx] hkp Px sb nj iv]]
 rintro g yR J H4 ⟨rfl,sb,F4,B4⟩;subst yR;have GG:=sb w _ wp hkv;have q8:=F4 _ (.tup _) (λg z=>nomatch z) (X3 _ _ q9);have Pz:=F4 _ (.tup _) (λg z=>nomatch z) GF;have PB:=F4 _ (.tup _) (λg z=>nomatch z) xi;refine aC (λJ H5=>J=[U (.ref a),U (.ref r),U (.ref wr),U (.ref c),U (.ref x),U (.ref tp),U (.ref cl),z1,z2,U (.ref v),U (.ref w0),U (.ref sp),U (.ref wq)]/\nT [p,w] H3 H5/\Fr H3 H5/\TabAt H5 w (fN tb (a1,a2) (lo,hi))/\dn T.aZ H5 x e t u d m p (fN tb (a1,a2) (lo,hi))) (λN hN=>?_) ?_
 .have F5:Fr H4 (upd H4 w (.dT (putK kv (dE a1 a2) (.ref wq)))):=Kl GG;rfl';refine ay (aj.of q8) (v:=.ref w) Y #[_,Y,_,pF.t (k:=dE a1 a2) GG Pz (afy (by lia:kv.length<=60) (by decide)),hN _ _ #[Y,λz o hz ez=>?_,λb o ho eb=>F5 b o ho (F4 b o ho eb),#[_,ar,bF.put (s:=(a1,a2)) (w:=(lo,hi)) (Py.imp λg g g z=>(z.fr F4).fr F5) #[wq,Y,F5 _ (.tup _) (λg z=>nomatch z) PB]],B4.now F5 (B4.tb.fr F5 λg z=>by rw[aI (afR wp)];exact z)]];rw[aI λy=>hz (by rw[y];simp)];exact sb z o (λy=>hz (by rw[y];simp)) ez
 clear GG q8 Pz PB F4 B4 sb;rintro g yR J H5 ⟨rfl,b5,F5,hT5,tZ⟩;subst yR;have D3:yD H3 [p,w]:=λz hz=>by
  rcases ae2.mp hz with rfl|hz
  .exact#[kp,hkp]
  .rw[afd.mp hz];exact#[kv,hkv]
 have GH:=(bQ.same xg X3).fr F5;have acK:=F5 _ (.tup _) (λg z=>nomatch z) (X3 _ _ q9);have PD:=(iY.same X3).but b5 D3 (by simp[w0w,w0p]);have tY:=(xh.same X3).tp λb xs e=>F5 _ (.tup xs) (λg z=>nomatch z) e;have acL:=F5 _ (.lst _) (λg z=>nomatch z) (X3 _ _ wD);have hZ5:ax (jV t H5) zs jr:=AQ.imp λg g r=>(r.same X3).fr F5;have pl:=Km tb (a1,a2) (lo,hi);have acM:bZ e t (fN tb (a1,a2) (lo,hi)):=aR.put #[Pw,AK];refine aC (λJ H6=>J=[U (.ref a),U (.ref r),U (.ref wr),U (.ref c),U (.ref x),U (.ref tp),U (.ref cl),z1,z2,U (.ref v),U (.ref w0),U (.ref sp),U (.ref wq)]/\ah H5 H6) (λN hN=>?_) ?_
 .rfl';refine#[x,p,w,w0,v,tp,.ref wr,e,t,u,d,m,te,_,tb,Y,tZ,#[wr,Y,acK,hT5],gy,acM,by lia,PD,aR,by lia,tY,hon,GH,hg,hfar,λkG fG=>?_];rfl';refine#[w0,tp,v,cl,e,t,te,tb,zs,jr,Y,PD.same fG,aR,by lia,#[by lia,by lia],dJ,tY.same fG,hon,htop,bQ.same GH fG,hg,hfar,fG _ _ acL,hZ5.imp λg g r=>r.same fG,λoR AI=>?_];rfl';exact hN _ _ #[Y,fG.trans AI]
 rintro g yR J H6 ⟨rfl,s6⟩;subst yR;rfl';exact#[v,te,Y,bQ.same GH s6,hg,λH7 g=>q _]
end
theorem acN{l:aku}{w:agn}{K:aeN}{h:ag3}{mg:Str->Option aeX}{fa:ae0}(X:K.In h)(G:h.Ns afc mg)(hfa:mg "law" = U (.ref fa)){zU oK:ae0}{nc fD:ae0}{ng tF:ae0}{fR dI:ae0}{b7 fz:ae0}{bX bY:ae0}{cK cL aZ:ae0}{acO:ClassData}{acP acQ:Tok}{acR acS:Tok}(acT:afo K afc "GazeError" = U (U (.ref zU)))(acU:afo K afc "NoBoard" = U (U (.ref oK)))(acV:afo K afc "NoTelling" = U (U (.ref nc)))(acW:afo K afc "NoClaim" = U (U (.ref fD)))(acX:afo K afc "NoEvent" = U (U (.ref ng)))(acY:afo K afc "TooMany" = U (U (.ref tF)))(acZ:afo K afc "Event" = U (U (.ref fR)))(ac0:afo K afc "Spanned" = U (U (.ref dI)))(ac1:afo K afc "Over" = U (U (.ref b7)))(ac2:afo K afc "Paired" = U (U (.ref fz)))(ac3:afo K afc "Both" = U (U (.ref bX)))(ac4:afo K afc "Either" = U (U (.ref bY)))(ac5:afo K afc "Nay" = U (U (.ref cK)))(ac6:afo K afc "Lying" = U (U (.ref cL)))(ac7:afo K afc "Board" = U (U (.ref aZ)))(DK:aV K "is_crossed" Dg)(DL:aV K "holds" Dh)(DM:aV K "meet" vI)(DN:aV K "common" sV)(DO:aV K "number_at" Di)(DP:aV K "meets" Dj)(DQ:aV K "has_part" Dk)(DR:aV K "check_claim" zc)(DS:aV K "stretches_of" Dl)(DT:aV K "paces" zd)(DU:aV K "wanted" Dm)(DV:aV K "outside" vJ)(DW:aV K "failures" vK)(DX:aV K "joined" vL)(DY:aV K "parts_at" Dp)(gV:mS K "held" "Event.held" ze λf=>dg K fR "held" f/\dg K dI "held" f/\dg K b7 "held" f/\dg K fz "held" f/\dg K bX "held" f/\dg K bY "held" f/\dg K cK "held" f/\dg K cL "held" f)(jS:mS K "sizes" "Event.sizes" zf λf=>dg K fR "sizes" f/\dg K dI "sizes" f/\dg K b7 "sizes" f/\dg K fz "sizes" f/\dg K cL "sizes" f)(mY:mS K "__init__" "Spanned.__init__" zg λf=>dg K dI "__init__" f/\amt K (.ref dI) (.type "type") "__init__" = U (.val (.ref f)))(oz:mS K "far" "Spanned.far" zh λf=>dg K dI "far" f/\dg K b7 "far" f)(mZ:mS K "all_at" "Spanned.all_at" zi λf=>dg K dI "all_at" f/\dg K b7 "all_at" f)(qe:dm K b7 "__init__" "Over.__init__" zj)(qf:dm K b7 "ways" "Over.ways" zk)(qg:dm K b7 "breaks" "Over.breaks" zm)(lL:mS K "__init__" "Paired.__init__" zo λf=>dg K fz "__init__" f/\dg K bX "__init__" f/\dg K bY "__init__" f)(lM:mS K "far" "Paired.far" zp λf=>dg K fz "far" f/\dg K bX "far" f/\dg K bY "far" f)(qh:dm K bX "ways" "Both.ways" zr)(qi:dm K bX "breaks" "Both.breaks" zt)(oA:dm K bX "sizes" "Both.sizes" sW)(qj:dm K bY "ways" "Either.ways" zu)(qk:dm K bY "breaks" "Either.breaks" zv)(oB:dm K bY "sizes" "Either.sizes" sX)(ql:dm K cK "__init__" "Nay.__init__" zw)(qm:dm K cK "far" "Nay.far" zx)(qq:dm K cK "ways" "Nay.ways" zy)(qr:dm K cK "breaks" "Nay.breaks" zz)(qt:dm K cK "sizes" "Nay.sizes" vM)(qu:dm K cL "__init__" "Lying.__init__" zA)(qv:dm K cL "far" "Lying.far" zB)(oE:dm K cL "all_right" "Lying.all_right" zC)(qw:dm K cL "ways" "Lying.ways" zD)(qx:dm K cL "breaks" "Lying.breaks" zE)(DZ:aV K "number_in" Dq)(D0:aV K "moved" vN)(D1:aV K "narrowed" oi)(D2:aV K "stretches_at" Dr)(D4:aV K "tube" vO)(D5:aV K "course_in" qb)(D6:aV K "lesser" Ds)(D7:aV K "lifted" Dt)(D8:aV K "ceilings" oj)(D9:aV K "crossing" sY)(Ea:aV K "marks_of" Du)(Eb:aV K "marks_without" Dv)(Ec:aV K "groups_of" Dw)(Ed:aV K "clashes" lK)(m5:aV K "without" Dx)(tu:aV K "eyes_of" Dy)(m6:aV K "put_aside" sZ)(lN:aV K "branch" Dz)(lO:aV K "paper" oq)(x_ask:aV K "ask" ot)(Ee:aV K "seek" tf)(tx:aV K "verdict" tj)(Ef:aV K "lying" DA)(oF:dm K aZ "__init__" "Board.__init__" zF)(oG:dm K aZ "has_eye" "Board.has_eye" zG)(kz:dm K aZ "has_turn" "Board.has_turn" zH)(oH:dm K aZ "tell" "Board.tell" zI)(oI:dm K aZ "tellings" "Board.tellings" zJ)(qz:dm K aZ "check_spot" "Board.check_spot" zK)(Eg:aV K "_law_draw" DB)(Eh:aV K "_law_base" zL)(tD:aV K "_law_whole" DC)(Ei:aV K "_law_within" DD)(Ej:aV K "_law_word" ox)(Ek:aV K "_law_board" vP)(El:aV K "_law_liars" DE)(Em:aV K "_law_fits" zM)(Eo:aV K "_law_common" oy)(m8:aV K "_law_empty" DF)(tE:aV K "_law_climb" zN)(m9:aV K "_law_mark" DG)(lP:aV K "_law_branch" DH)(qA:aV K "_law_clash" vQ)(kA:aV K "_law_refuted" qc)(Ep:aV K "_law_refutes" tm)(Er:aV K "_law_met" tq)(Es:aV K "_law_span" zO)(Et:aV K "_law_part" DI)(Eu:aV K "_law_claims" zP)(Ew:aV K "_law_world" gU)(vU:aV K "_law_truth" vR)(vV:aV K "_law_counts" mX)(vW:aV K "_law_farthest" zQ)(eE:aV K "_law_event" zR)(Ex:aV K "_law_tree" qd)(Ey:aV K "_law_all_refuted" DJ)(Ez:aV K "_law_right" vS)(EA:aV K "_law_had" jR)(EB:aV K "_law_off_board" vT)(lQ:aV K "law" gu)(ac8:afo K afc "all" = U O)(ac9:afo K afc "any" = U O)(ada:afo K afc "bool" = U O)(adb:afo K afc "dict" = U O)(ade:afo K afc "enumerate" = U O)(adf:afo K afc "int" = U O)(adg:afo K afc "isinstance" = U O)(adh:afo K afc "len" = U O)(adi:afo K afc "list" = U O)(adj:afo K afc "max" = U O)(adk:afo K afc "min" = U O)(adl:afo K afc "range" = U O)(adm:afo K afc "reversed" = U O)(adn:afo K afc "set" = U O)(ado:afo K afc "sorted" = U O)(adp:afo K afc "sum" = U O)(adq:afo K afc "tuple" = U O)(ads:afo K afc "zip" = U O)(Mv:bR K fR)(Mw:bR K dI)(Mx:afg K (.ref dI) "first" = U O)(My:afg K (.ref dI) "last" = U O)(Mz:agx K dI=true)(adt:af2 K (.ref dI)=true)(ix:bR K b7)(vZ:afg K (.ref b7) "first" = U O)(tG:afg K (.ref b7) "last" = U O)(v3:afg K (.ref b7) "sill" = U O)(EF:agx K b7=true)(adu:af2 K (.ref b7)=true)(MB:bR K fz)(MC:afg K (.ref fz) "one" = U O)(MD:afg K (.ref fz) "other" = U O)(ME:agx K fz=true)(adv:af2 K (.ref fz)=true)(gv:bR K bX)(qC:afg K (.ref bX) "one" = U O)(qD:afg K (.ref bX) "other" = U O)(EG:agx K bX=true)(adw:af2 K (.ref bX)=true)(gx:bR K bY)(qE:afg K (.ref bY) "one" = U O)(qF:afg K (.ref bY) "other" = U O)(EH:agx K bY=true)(adx:af2 K (.ref bY)=true)(jm:bR K cK)(qG:afg K (.ref cK) "one" = U O)(EI:agx K cK=true)(ady:af2 K (.ref cK)=true)(kB:bR K cL)(v5:afg K (.ref cL) "marks" = U O)(EJ:agx K cL=true)(adz:af2 K (.ref cL)=true)(cM:bR K aZ)(v7:afg K (.ref aZ) "eyes" = U O)(tH:afg K (.ref aZ) "turns" = U O)(zV:afg K (.ref aZ) "up" = U O)(zW:afg K (.ref aZ) "down" = U O)(v8:afg K (.ref aZ) "most" = U O)(tI:afg K (.ref aZ) "told" = U O)(zX:agx K aZ=true)(adA:af2 K (.ref aZ)=true)(adB:ahG K (.ref dI) "__getattribute__" = U (U (.builtin "type.__getattribute__")))(adC:ams K dI (.type "type")=true)(wb:XC K oK)(wc:XC K nc)(zY:XC K fD)(EK:XC K ng)(EL:XC K tF)(adD:alf K fD=U acO)(adE:ajo K (.ref fD)=U (.type "type"))(adF:ah8 K (.ref fD) (.type "BaseException")=U true)(adG:ah8 K (.ref fD) (.ref fD)=U true)(adH:afM K (.ref cK) (.ref fR)=U true)(adI:afM K (.ref bX) (.ref fR)=U true)(adJ:afM K (.ref bY) (.ref fR)=U true)(zSZ:afo K afc "SIZE_AT_MOST" = U (U (.int 100 acP)))(zLT:afo K afc "LAST_TURN" = U (U (.int 11 acQ)))(EM:afg K (.ref cK) "__class__" = U (U (.builtin "object.__class__")))(EN:ahH K cK (.type "object")=U true)(EO:afg K (.ref bX) "__class__" = U (U (.builtin "object.__class__")))(ER:ahH K bX (.type "object")=U true)(ES:afg K (.ref bY) "__class__" = U (U (.builtin "object.__class__")))(ET:ahH K bY (.type "object")=U true)(wg:ahG K (.builtin "object.__class__") "__get__" = U (U (.builtin "getset_descriptor.__get__")))(wj:akp K (.builtin "object.__class__")=U true)(adK:afo K afc "EYES_AT_MOST" = U (U (.int 7 acR)))(adL:afo K afc "TURNS_AT_MOST" = U (U (.int 12 acS)))
 : ∃ fd:ahI,(∀ (s:ae4)(v:aeX),alA s fd #[[v],[]] [("_law_script",v)])/\∀ base:ag3,K.In base->base.Ns afc mg->d9 l.prog w K mg base (ed l.prog w) 37 fa fd ["_law_script"] (qH K):=by
 obtain⟨gV,adM,adN,adO,adP,adQ,adR,adS,adT⟩:=Fb.fp gV ze;obtain⟨jS,adU,adV,adW,adX,adY⟩:=Fb.fp jS zf;obtain⟨mY,PF,adZ⟩:=Fb.fp mY zg;obtain⟨oz,ad0,ad1⟩:=Fb.fp oz zh;obtain⟨mZ,ad2,ad3⟩:=Fb.fp mZ zi;obtain⟨qe,PH⟩:=qe.fm zj;obtain⟨qf,ad4⟩:=qf.fm zk;obtain⟨qg,ad5⟩:=qg.fm zm;obtain⟨lL,PJ,PK,PL⟩:=Fb.fp lL zo;obtain⟨lM,ad6,ad7,ad8⟩:=Fb.fp lM zp;obtain⟨qh,ad9⟩:=qh.fm zr;obtain⟨qi,aea⟩:=qi.fm zt;obtain⟨oA,aeb⟩:=oA.fm sW;obtain⟨qj,aec⟩:=qj.fm zu;obtain⟨qk,aed⟩:=qk.fm zv;obtain⟨oB,aee⟩:=oB.fm sX;obtain⟨ql,PM⟩:=ql.fm zw;obtain⟨qm,aef⟩:=qm.fm zx;obtain⟨qq,aeg⟩:=qq.fm zy;obtain⟨qr,aeh⟩:=qr.fm zz;obtain⟨qt,aei⟩:=qt.fm vM;obtain⟨qu,PN⟩:=qu.fm zA;obtain⟨qv,aej⟩:=qv.fm zB;obtain⟨oE,aek⟩:=oE.fm zC;obtain⟨qw,ael⟩:=qw.fm zD;obtain⟨qx,aem⟩:=qx.fm zE;obtain⟨oF,PQ⟩:=oF.fm zF;obtain⟨oG,aen⟩:=oG.fm zG;obtain⟨kz,aeo⟩:=kz.fm zH;obtain⟨oH,aep⟩:=oH.fm zI;obtain⟨oI,aeq⟩:=oI.fm zJ;obtain⟨qz,aer⟩:=qz.fm zK;obtain⟨lQ⟩:=lQ.fn X G gu;cases hfa.symm.trans lQ.m;exact#[_,lQ.bt gu,λy y y=>YZ acJ (#[DK.c X G,DL.c X G,DM.c X G,DN.c X G,DO.c X G,DP.c X G,DQ.c X G,DR.c X G,DS.c X G,DT.c X G,DU.c X G,DV.c X G,DW.c X G,DX.c X G,DY.c X G,gV,jS,mY,oz,mZ,qe,qf,qg,lL,lM,qh,qi,oA,qj,qk,oB,ql,qm,qq,qr,qt,qu,qv,oE,qw,qx,DZ.c X G,D0.c X G,D1.c X G,D2.c X G,D4.c X G,D5.c X G,D6.c X G,D7.c X G,D8.c X G,D9.c X G,Ea.c X G,Eb.c X G,Ec.c X G,Ed.c X G,m5.c X G,tu.c X G,m6.c X G,lN.c X G,lO.c X G,x_ask.c X G,Ee.c X G,tx.c X G,Ef.c X G,oF,oG,kz,oH,oI,qz,Eg.c X G,Eh.c X G,tD.c X G,Ei.c X G,Ej.c X G,Ek.c X G,El.c X G,Em.c X G,Eo.c X G,m8.c X G,tE.c X G,m9.c X G,lP.c X G,qA.c X G,kA.c X G,Ep.c X G,Er.c X G,Es.c X G,Et.c X G,Eu.c X G,Ew.c X G,vU.c X G,vV.c X G,vW.c X G,eE.c X G,Ex.c X G,Ey.c X G,Ez.c X G,EA.c X G,EB.c X G,lQ,afu X G ac8,afu X G ac9,afu X G ada,afu X G adb,afu X G ade,afu X G adf,afu X G adg,afu X G adh,afu X G adi,afu X G adj,afu X G adk,afu X G adl,afu X G adm,afu X G adn,afu X G ado,afu X G adp,afu X G adq,afu X G ads,zU,afL X G acT,oK,afL X G acU,nc,afL X G acV,fD,afL X G acW,ng,afL X G acX,tF,afL X G acY,fR,afL X G acZ,dI,afL X G ac0,b7,afL X G ac1,fz,afL X G ac2,bX,afL X G ac3,bY,afL X G ac4,cK,afL X G ac5,cL,afL X G ac6,aZ,afL X G ac7,Mv,bP adM,bP adU,Mw,Mx,My,bP adN,bP adV,#[Mz,PF.1,PF.2,adt],bP ad0,bP ad2,ix,vZ,tG,v3,bP adO,bP adW,#[EF,PH.1,PH.2,adu],bP ad1,bP ad3,bP ad4,bP ad5,MB,MC,MD,bP adP,bP adX,#[ME,PJ.1,PJ.2,adv],bP ad6,gv,qC,qD,bP adQ,bP aeb,#[EG,PK.1,PK.2,adw],bP ad7,bP ad9,bP aea,gx,qE,qF,bP adR,bP aee,#[EH,PL.1,PL.2,adx],bP ad8,bP aec,bP aed,jm,qG,bP adS,bP aei,#[EI,PM.1,PM.2,ady],bP aef,bP aeg,bP aeh,kB,v5,bP adT,bP adY,#[EJ,PN.1,PN.2,adz],bP aej,bP ael,bP aem,bP aek,cM,v7,tH,zV,zW,v8,tI,#[zX,PQ.1,PQ.2,adA],bP aen,bP aeo,bP aep,bP aeq,bP aer,#[adB,adC,adZ,mY.F.kp],wb,wc,zY,EK,EL,Sq adD adE adG adF,adH,adI,adJ,#[_,afL X G zSZ],#[_,afL X G zLT],EM,EN,EO,ER,ES,ET,wg,wj,#[_,afL X G adK],#[_,afL X G adL]]:Tx K mg)]
theorem walk{l:aku}{q:afG}{loose:List Str}{XP:(Str->Option aeX)->ag3->Prop}{YP:agn->ag3->Prop}{d:DefRec}{K:Params->aeN}(hn:l.most=U 63)(hdf:d.params.defaults=[])
 (hY:∀ (w:agn) (h:ag3),YP w h->(K w.params).In h)
 (F:∀ (w:agn) (mg:Str->Option aeX) (fa:ae0) (h:ag3),(K w.params).In h->h.Ns afc mg->mg d.name=U (.ref fa) ->
   ∃ fd:ahI,(∀ (s:ae4) (u:aeX),alA s fd #[[u],[]] [("_law_script",u)])/\∀ base:ag3,(K w.params).In base->base.Ns afc mg->d9 l.prog w (K w.params) mg base (ed l.prog w) 37 fa fd ["_law_script"] (qH (K w.params))) :
 am3 q loose XP YP l.row.toRowW d [] (λf vs=>PySem.call f vs) :=
 Gz.Uj (k:=37) (x := "_law_script") (CX:=λw=>ed l.prog w) (sp:=λw=>qH (K w.params)) hn hdf #[Y,by decide,by decide] hY F (λy y a ns hl hS=>#[a,ns,Y,hS,hl,λy=>rfl]) λy y y y y z=>R6 z
end n6
set_option hygiene true
local macro_rules|`(tactic|walk_at "gzin")=>`(tactic|first | (show _ = _; k_is) | (refine' And.intro ?y7 ?y8; (case y7 => walk_at "gzin"); (case y8 => walk_at "gzin")))
local macro_rules|`(tactic|walk_at "f")=>`(tactic|(refine' Gz.Fb.mk ?y1 ?y2 ?y3 ?y4; (case y1 => first | (show _ = _; k_is) | (refine' ⟨?y5, ?y6⟩; (case y5 => k_is); (case y6 => k_is))); (case y2 => k_is); (case y3 => k_is); (case y4 => k_is)))
local macro_rules|`(tactic|walk_at "gzfi")=>`(tactic|(refine' Gz.Fb.mk ?y1 ?y2 ?y3 ?y4; (case y1 => walk_at "gzin"); (case y2 => k_is); (case y3 => k_is); (case y4 => k_is)))
local macro_rules|`(tactic|walk_at "l")=>`(tactic|(refine' L2.bR.mk ?_ ?_ ?_ ?_ <;> k_is))
local macro_rules|`(tactic|walk_at "x")=>`(tactic|(refine' Gz.XC.mk ?y1 ?y2 ?y3 ?y4 ?y5 ?y6; (case y1 => k_exc); (case y2 => k_is); (case y3 => k_is); (case y4 => k_is); (case y5 => k_is); (case y6 => k_is)))
namespace HK
theorem cut{A B C D:Type}{f:A->C}{g:B->C}{a b:D}{l:List A}{m:List B}(n:Nat)(x:((l.take n).map f,a)=((m.take n).map g,b))(y:a=b->(l.drop n).map f=(m.drop n).map g):l.map f=m.map g:=by rw[<- agt n l,<- agt n m,af0,af0,(Prod.mk.inj x).1,y (Prod.mk.inj x).2]
noncomputable def q:PySem.Program:={ PySem.Challenge.pw_gaze_k78_lyings_in_events with main:={ PySem.Challenge.pw_gaze_k78_lyings_in_events.main with body:=PySem.Challenge.pw_gaze_k78_lyings_in_events.main.body.drop 99 } }
noncomputable def l:List PySem.Str:=["_wall","__name__","GazeError","NoBoard","NoTelling","NoClaim","NoEvent","TooMany","is_crossed","holds","meet","common","number_at","meets","has_part","check_claim","stretches_of","paces","wanted","LAST_TURN","SIZE_AT_MOST","outside","failures","joined","parts_at","Event","Spanned","Over","Paired","Both","Either","Nay","Lying","number_in","moved","narrowed","stretches_at","tube","course_in","lesser","lifted","ceilings","crossing","marks_of","marks_without","groups_of","clashes","without","eyes_of","put_aside","branch","paper","ask","seek","verdict","lying","EYES_AT_MOST","TURNS_AT_MOST","Board","_law_draw","_law_base","_law_whole","_law_within","_law_word","_law_board","_law_liars","_law_fits","_law_common","_law_empty","_law_climb","_law_mark","_law_branch","_law_clash","_law_refuted","_law_refutes","_law_met","_law_span","_law_part","_law_claims","_law_world","_law_truth","_law_counts","_law_farthest","_law_event","_law_tree","_law_all_refuted","_law_right","_law_had","_law_off_board"].map PySem.Str.ofString
end HK
local macro_rules | `(tactic| refine $t) => do { let s := t.raw; let as := s[1].getArgs; if s.isOfKind ``Lean.Parser.Term.app && Nat.blt 18 as.size && as[4]![3].isOfKind ``Lean.Parser.Term.app then { let H : Lean.Term := Lean.TSyntax.mk as[4]![3][1][0]; let c := Lean.quote 60; let go (a f : Lean.Term) : Lean.MacroM Lean.Term := do { let mut ls := [a]; for _ in List.range 9 do { ls := (<- `(List.drop $c $(ls.head!))) :: ls }; let mut x <- `(List.map $f $(ls.head!)); for l in ls.tail do { x <- `((List.map $f (List.take $c $l), $x)) }; return x }; let mut p <- `(e); for _ in List.range 9 do { p <- `(HK.cut $c e fun e => $p) }; let nm (w : String) (v : Lean.Term) : Lean.MacroM Lean.Syntax := do { return (<- `(f ($(Lean.mkIdent (.mkSimple w)) := $v))).raw[1][0] }; let q0 := as[0]![3]; let q1 <- `(HK.q); let sub (x : Lean.Syntax) : Lean.Syntax := Id.run (x.replaceM fun y => if y.structEq q0 then some q1.raw else none); let y1 <- go (Lean.TSyntax.mk H.raw[1][1][1]) (<- `(s.heap.get?)); let y2 <- go (<- `($(Lean.TSyntax.mk H.raw[1][1][0]) w.params)) (<- `(fun p => some p.2)); let as := (((((as.set! 0 (<- nm "q" q1)).set! 1 (<- nm "loose" (<- `(HK.l)))).set! 2 (sub as[2]!)).set! 3 (sub as[3]!)).set! 4 (<- nm "Yf" (<- `(fun s => $y1)))).set! 5 (<- nm "Ya" (<- `(fun w => $y2))); let as := as.set! 9 (<- `((fun w s e => PySem.W.Hook.of $H w s $p))); `(tactic| refine $(Lean.TSyntax.mk (s.setArg 1 (Lean.mkNullNode as)))) } else { Lean.Macro.throwUnsupported } }
namespace PySem.W.Fast
def Z:=Nat
local macro_rules|`(command|#print $s:str)=>do
 let mut r:=Array.empty;let mut n:=0;let mut k:=0
 for c in s.getString.toList do
  n:=n*62+(c.toNat-48-c.toNat/65*7-c.toNat/97*6);k:=k+1
  if k%11=0 then
   let i:=Lean.mkIdent (.mkSimple s!"tw{n}");r:=r.push (←`(command|def $i:ident:=Z));n:=0
 return Lean.mkNullNode r
#print"D21i2KcLNJ52LReCBVy38i96tLSEfOj9nBbfxvdLrqza9FM7V1FofaEGR2FrqBMjtp4jix6BdgYK9HRsffnn2oiO9RmJf8cxULs3i7QmoSINxXE9HOzNm47JfEQtqbk4QEJj1dQbzpop0BUGRY7ZNPxjRGLpo9dn2nWXQ38Oun0QVGWkJAqAeb5z3V9LONZlQPpmdV2LV0BVqBbSEE6hBLjd20vtBsM3J2M9FDI2x1O0CaM3YmLaX37a1lamMFfR7vnycKb3AjuXQOlF67YCMUG1ElFgRR9c9rOi2KhSfB1txiuLsqN6DXMm2L9DRQVJcK02oFAPD0BMbbfCE1H92DdH1CtKX161C3pTzFSXCjKArthHbRzc422rEqrUWz6W1HUCVgZGVNZD3oBHvK3ksdi6XYKddkBrPs7au0DfRGjZTC3SZXB42e6Z1ePfTrAQhgk1OSBFmtrnZ5BJbfqyd1qiEE0sU5mJwKuqKIhluPOpcp190jg1E9BkWiG0nf0lfe4BSGy0az9mo0X49KzvfRSd5Gy4S4E2otWEXSCzJoXiqhIYn7gqFH4Sk4z68MqL0Sga1OXFCTisH6L9Dl7pboeVS78fX5xBxvjzi2Tc5mG0y8F1fhGEcIxADuZXqEH0Oe3RVNy6GJzlBaWZGbf99jZUI8XzTXe8rGiAMi2IisCwRArLGPSDG6xrdQp1i7Sr6tERPlwnxUc7x2u2CRS1cuF96HrFQffMNHdINAfvmiHWLOt9zfPQ09dBln0RwOA5paJFBUmL9u8U19vYFhkHpHWl7CGc0ZKv4P7BkLV8EcSNn1DEjNKqzDTZDHNWpCafDDmzAMUaWMdagfJJwGWx6sEJzs6e8eTc045zu24iEijm84gU5fM1eGvpt8y6BbTTTew7QQ6RhqhdURttKFzYppBXYPsM4D3YSfhAxrX01Hu1GnPMas41hUVJgClUW4UKEQced9rI9elhyZauqZu1aGyQZRc36lGR8OLeik2LR9oTk8jhTI1s7ErhU94sFgQ7MoDsvNNpnUGOcTVXoXra6Fn0FZ4NG2UH3e8HL2WXFysHP02YmpprLGHVrOunbffGSJ07PnzVVGfdF0j7bEGwxkX7NGlyowFHLX6lrgc88UGCiBvNFzzf2RQ36i1A43EWMxAKp4e3UPYwBb4FILIVLcgrMHokiNI4sXYP41Mv1j6NXVNC9YyiWz7BTWBDQO6EbokHcFLrv7Lnvfu27scemTOAedCJTx6BWt2t3t4sDaz9dFBCL7Wh4b5uMzJaAdoqCh0v0KUCgIHUosGhLw0zHKyjXdAAODIeo0X611NzAQ3Q7o49Vze1Ha3ODN8nV5GzvaeYmFiNR30uHZhJsP4cEUjYrHEwBzAJn1eefKUqQYDOUI7G1e2MiGAotCgpCUsWBJXOVYoWaSrG3VAZX2ai3Y9DMGaHc90qE2PGIRcZdi8cLcKMigAovTG1oMaec4xVKS7mb1jN5WlzADah7hNbUwmU6dFdBJzmoeYD3YloH2SFtr5Q9gAurUrAe1OQjjV7Iv8i67Vrhf7fSGDKeNhKVarNxU5y42ht0h13Q8V5tbugpx8rALgHDnj93TgIVo5LjiiZPMGVJek1FvqKzDNyTNIWjEVJ4JWMYBHDohJ8n7HtwuAXPIH7MNIRvXGHl5vCIBMbP6VNFztEglteVyhFzCT3USoiMGHGa9z9iSMPx5I8DOs2keQp5iqC4gczJUABlm4HRd9N2x5WQ37HB6XPe2nR5zRfYqepKkuc8QMkrKR9JcF3GL0dPBDyTq0hdYTFK8csbmArJpBPGcMqtrm8TTQ7XpdQ1QWg5fGrLwWYnpYkwI7aLhbj4gvM2E1f8vYkTziG683qBBWqMOBWKdqiVRsDcFcTWiRTy5Ba1jaLkiyXjQoDBTGG2hkFgX2wdA10Je7g21msrwAhQa1R85V8Iu2TdiMG8pcV7jUEyB90bPtUHjDxoGiHMpmCJX819Zp45OqsOMj4gHKMRGsIluG6zDDoZe1dv5HQRhRIJB5J8OxhIvFZL1THae8lYMlLez1j4sRkpbY4HLKqlMlO8e2VJl7Cn0F7lCl0H4e4dEcc2H7flpRrIyNpgDLEFE3Fl9auAwAPfi1iFQC1QIToGLtxxJH1mabcWZFRfLtocOCwycyOJ3DiHkNV3IYFrXGNwgcRMNHbBR9dzSvGG84JXPqEAzXt2IraL4EyQa7JRVWYD54YbeC6azjsGk86z2mVh5Pyive73qLkoERjK077mqjDiedCgt4bG1HNkfdmBFtW7q8V1cfs19JSuqjoucMHrnASTbAr4r8hyjAzRJMJb73n38tlm5cULv14wydjMidGGNh5EvgnJd8YPBAxCkBh3FmfNuFjZaFqGj1dyTwgY4dDRCWApWjeUc1AgVSz3VwwtEdsAj8TktLa2JeYHzKhGT3114X69PBhKB0YEzCSEdcV56JuqHXA7M9XClwfw7nfOo51PbnqXIf5VW9B3eEuQdNwyJrUm7H8J0jr0USEnVWxcGaBRqifpBhePt0BW2G3LqzGAFWsl2wtrJXz8wbfvjmphm988XqUPqw3ih8WIxhbYmPRZE7CPH1ESaZQ3D7sAokilrmDMKxwE3KAke6kzxxW42UL6BibSBW77puOD7BOwnIrZLt4z3b7Xke3V8HNWKv88NyeTIQnFQOGy01B1tCg4yB7airEZGBFWuJ8Tr80chxLVq0F9419LfFKFoRU140AiVZRFer9C4G7rt5Qqk7ruuS453QKcBqEZcR22jxvHqCHPEsp5AVKIvVWYrDUyR6rXkO8itgpuFKF6P1uYY2k8NEPtHzmXja49y5NO6XepD1QyX3VSQmuOJgigsknSe4jGbUqJ423KPW9XToeCNinPhE0Q2xjpzQbg27unthxWBsC358UFC5qNPB5NG4gbh2vfw7RZ1CSpGXYwEiOzc6MUl9r3SVGVBZKqUEHh1OvHS9FKELqHtXJ4QU6x2BrmuCwvKQGFbgk1w3z1eVIofKOZDbHUj1loBWb27DZR2VIRjZrS8D4AlKUEu4ebfDBjTBUBKyqxuIh8DP3PHhbNBembqyzF0dIJVq6kDOjpWL8WMBED6UKeB7uVm96Ky0YMJ5AqkxMSDNRAxYjg9ktVt3KhfehXSmo4nAIJuJh8cFXOBjgdh5wBXMO6wv1Mc8zyQT1w5g5CpNppwL0CIqAW1ja9CugpC6PUTi1Kg19pH6w3AMA7AGRKaG4R5K2B8jIfMkwW76csF7jQTY7J05Ib3E66jO9vp2inttUUgInQPy6QWkgoI2k5NEoxKMIHOq3VDj9YVt5LU9rV4vFh8AlRtUuZdo7cIXn0aq8HLKDIp8Co7QQBNWBdmYEDL0vPh32WMmjPQhaU93m20VvhECf9B0iEidbplFACT0JE5TZosGQVgWJEKmj594dz0CKRcR7DwitbxUVDt60kB2zVqYcUoJJgZFErRmvq6oIAXTwxdoJ14u0FSGqRGC8bEVqnUxztB4rGMuoo5IJv98nWRhJmGWi1QRLzt5h9uC78GoYUQll00EUpmr3zOZr7DAIT0CXlRim4IngplxozVm8ZgQald7jO4AKrUZdKdLI5F4kuyOycFTL2FFhUuo5hfW8ggJDlUKvRxLa2lv0OjAvP9zb8LH3rstq3nX6WdFqs1X4lWlc1KHnGB9eSEZr5HANbI1bPPow6a2v3rJYTRIMkLgK2Nq2WFE7Du6K9DVhshk127dgvkXU4GtoDG2Ag9iTg7yLkkXeiBxMwBFhrpAFEJSKN2Yn6Q1hXR8cIEKlcMX5hntLEsA7mNmVNT6VKTMIG9D81JTJCPqZQmhZGb213tsVMip2KcZUXp6kdnAvogrAFyDuC1E2rdd0rk5KGfKlrdFG93OAnDtdeiV7gX9LBScwZVIoV5mICl5mGzgp8U6TbLRoLIoGWyyVVsiQldCPcTuoLENn9JW3VwckYIynEmTORuHtn6hJa7bSirgmWU8yWbp6qS0pOIdrNCS40NPN59xvJDtgmbzA9yoNnNL0qBDS0gYukatUFEcTa4g5Id9E9yHkIArbkoP8PAam4owQp3IE6WTlUkwhZLDtUSywjq5wDddaKia1bKCBJXHYMl1OloJ7wcWaekDd0HKYsIB8vfZl2PgFisVbt7DCMuHZXycZkSIReApndjFAQ1Xd9DAUNKhx6mbygowVIhbDvX1WY1Ikv6I8ioSJDtDgEBaatuxMRlzJD1afRFmIVfGHbKXXiDV6SDEC71lPNIGFx7NHETYg6TzD0iDf66eNuVHHTh1UwE0c2a62nNNGFYBoOICwpzNXyyCG3UHUM8MnE8b3bsPmZfKd30CpD6KHRXO4V6TtIKF08iOWJDrXJdSK75u7TwEgnMnidWFa3SlBG0m3s1G0IaA5uDSNCKaXm8NzIKN9m5Atphy7oU6L62RFpLuK27CodOdAfxwXJb48GG1EXnH3b2ltWuj01DDc3ag2O1Q3xEPNlx8etIKM1Wl6Sf4uKwi6kSFcOeTjiH2K9ZjBYAUjgKdq9JDNgRX2JbTHMTwl06BHkOr4hfb05jGh1Ri6O5HK82eO3TVqhrSOGmYknQbuHNbFcune7QqgoMAXCVQIg9F3tHFBum0ivflEEx65aeM38kLGpYZ7YBONxt3YncEw8xkS68XgWr6Re4NyFyLbzbRrrLKKJ31IOXDsii7HNwcvflwcOFxSIqwIs6g0D6urN27GfoE8Ki3drR7ecz1DbmhPwCtlH3M2LuXVgzsW2qc4ycHMPyrKqGxqJqiv8u2nZCa1WqXuJGgqj9VRYC0t2QQbhBG9UUVDqzdIuxuhkHEX7lB3bGubNAvtWwvdO9wMJngU3fnZDO5IobagPrCrFl5wtPaJXN6Ye72zhMc08bRt8Z5nX7IG5wfDoFkmpoQIJyDbp1lmSjPKXFs8dPTmJSbeAY5VrJ9MmpbH4A2ZAhqKVE2qvlYvvPKNMKv4Q8XUIKPO0XyJOAptuKe5w1ZULonG7HHy7iyTDPgitIj7z5NHsx5PKvzkQTJfAnu8mdT2QfJInvBvdctjTKElPHNbM0eZjy5UGOPpp7PSzqiIZXLpPMBskk3z0jw69AqcFBDJt3RhmVgFIXHg5RMds7h1hH5TrRT0ooChxmqNkP4032ZCtv05HLhvDNeIQUrcylXFd4k8RmpLIZGWnoRh8nG6jAtFPmeQ4dyJJ0QglHvWbs5IUGKi537RxJGgL3P2tqO9T1kupF6PxPXhKdOrHYFIFP37aqmvTrWcvV9LJEx0gsb4Q9pdbCOROQQv2UVOE2Cul3n228dAT1OK1OB42YazFixwE4nHE8vJ8hV8A6jYE5VuW9zFcmHW3z8LBZAfIfqOfmMQy2DMGff6tpIVFjTeGv7Xdrc0wFMzZSnJh0JTa1iITicHh50VGLE8ZseNGoGTV5TTNqK73JNp77ylkhErOn4vraXlDDP5CJcjnvVr1cydjugRwYJ19DFVwHElgu0LGpbQKdZJJ4UG2CT7Mo0DIWegx3Ycobe0IIM4qasyzXAcuBVm6RUVCE3aRzqcU15d0LK7GzO7HVqDusqlPnLIXa0yyW7AmEsIEGEZm8FIRC0cHK7CzwCZT2wBIlHrIiG1tEFdcOH3skjGC6cyk1xHOOdB8LcySH9Bnv94BB9VrWQ94pBBLnSeOElsgDAsdVpwue6y0V3AcHrEh1oJheah6cv9Lq6q8z3qfciHN29uqaWlIOfp2yXYr4QwCZE9uEcevU9yhCHY0aYYmWEEvHN2YvLiMes4KfQpXkLhZ8RALXtjMd04dhAriRSkOyHOkGWtQGt92KxS4qe5v3xSpMWC1B5yS5FSIR0xkB4JH9qZDImTgv1uP1ig9dexy2XEA0U1bTx1UJtKDbGRXGnVjmHwo1HRw9zZ9vgY0MrDv8fyTvG931PkGAYI49IZqjFZDfWXhB5ukvqbQDsvKHLk5xNsbI11NRjnKcDpaR5PWbC9eBRrY2yxi3BqO58hDnu78XHbUMlLAnpTGkzCw3EgkCAJKeNOL7WcwijIX2dx7zCIa2JHQbuBphH5zBikbGI1YTVM9goGz2Af5jvAaaVcKjIXPrqfrNHFbqBoX6pNFIKrycgC7HU3D2QoiXt4EZq2LHpxZHte0j1HniPoT8UDz2EFPV9E7ReBk3YcnWeOiL0Y15MGaohxlyt8YHyvTHUIqS6yWLwMIfNMC3T6I4zQkFdCLFetWfEQbNt9z6cj6POMFR06rApBKD0PN6QBDKrmAi4l68tzcl9rgfMAS4jsTo2pHU5c5Xdm5LMybK4w00uOyp8ZFK7LdJQsDvYKw7gRQOKecF5YsZ2kipymj6RBlWa5p8C50eIDpIqX2IS6pRWsjNTHcP3wf4MXjxWrNHcYFD5IKaa98HPlKHMU6vvDgDuGbPYo8oFIkmby1w9W63cKhqrdMkxQAJ2sI7hM5uPG9d0lE11nzg84vG6Q9SmwHA51EF5H653A5Au1leij2rqKhyF3a4SKC955vdIonmcRiHU10hmKQWja9xN0aS7ldS97SoO6B1MaUE7JiKLWg3vwQ7Psesqth3Da7jBrRU62nCyHOV7K5A9GuVJZdvoDonLvk71PxdAfFova1Z2iLgZs6FsLw5ns7pGygD20gycTn6Ir423kdzRHwR6M30EhhvZQmnSDvesLoO3Tm3K2LCTmLUUKZEvqD4XpwWsXGqdDrjoQYthB9CcvVw4fUV9OFv3fCM1C4JFMf4doDZqjIwEZXpC1Bnc8UsnMGTgVkFDQYPfwgFBBGEWgh6jin5TqLSK4tWQW7yEI6JlDpOl8OlCh8PIVZJ1bA0e80JB3XA5NFpgnJbkdZ0O5XysAdcKsLB1p2ruHF58xFJN6bKJFuLHyEGIO6u1umZOEYzg3PfJ6QD9QWSiJOXWjZKH0SMLfvNp27IOp5OVPcCkJycS6pt6sP2LbRUg4WCyRd2iBHpaLJfVf3SS5MVshmBuIm08CNcNTPU3dERYQKKkiF5MXVkN2BJwZ4CGndPyl1lHF9NdQ70wo090ezoJDvT7vZ9JQDZbAVu9iERDcaF4eulz9EX1x6drO22Ii5PmhcD6MT1HjzLxvHpZm7g8CEFcGXLmILBfsNReFat7w8gMuSgnDb94uZy13M01EAo1hNmsUp4K2GiQ2rW5Egb6i9cD8gGELU79ZXjpS0aAxCWk6s9kzF4vB5At3ncnLweBSfrOy1AQleGmLwUeX8Aq6FkXHuOcJ5sF4tzt1bMHFViKsUoEAPrDz44daFsKCKR6f6l32pB0d2miEbhDYHgJAYc91lrX1nQ2WFCe7nG5FsjJ15IjPodxVxJzASAd5zZA9JQLJZ8C5oFAs08uR6j2ytPbU1lfnM9c82JR7MsJWDkpkwGJR8ENbYJSsU7oK6RNbloZWIYd3oMFlEhF40NIQwIq6tZFLIUiiUKh5KJIxc1S6tb6eFY4FSddivkX6LrrYBwffCRHnPs49G3NXAETTVZ5naNpXC8fecA1CQ0JEBo57pzKGkTDh7b9RYZoEo3XNVRmNuHhaBAst2RK4oz1EhAKBsRpdjy7JjZy1gP9YC5yVxFU03h68Jem8uYjN3ojKYFV81lbex130QhHvARjTPHqvOyUL925pJkTYgfPEvgj4OWquVM5CPd1y0It7QTsBV0ZHdkqCGrPoBwC3jjoDlpaKw03dsYT8GZ9Qtt1amEhwR5EOALbprBf33l6HVXoo2gnImXQqySIlE3JegRSMvSlWm0QfGlTfe0CX8y8bj83fwsD0GADiYvIKxwFqV4d9aKHFFDf22mhhdJBZ1lDQjVXh6UU7mfnkf6YVweAFuTWjaCoJ1IFFxLSWoQZk2FaoQcIPnGyDmKtU6g5WWiHeTdTvmRX4IKy1UoqRl6BbHbuKg6q0uVnL98A7TvMAgt3bAsScXUlPtLDoCjcqE5O22hto4h443l5FJXizhgMXI1062qfP4HJcQCGghgxd2k3fHZjIkbRukoIImGsPlbmR3aF2R0hhsIJm3DJZovgOgAVNHLstSQFYHzMFIYOPT9dshC2SgPPyKVUDh0BgaitQcRPPHHi8vvmhMMiBHRQEvWw1RK7Ay9DsApu3m3VltTM7er6ACs9Aau4IPdz51cbu0YepMlEO6xhy28q5i5gC0HyQRTF98P2aNPJAxs795uJlpTiLGZCOaqzAQ5I7k3LfPtVkDuGx3y91vTorPZY2hHQZwsluhd4N9171dSQcN0Ja3RuC8hEH6rvHAjqrJ68HtLaqrJmTLZ8Q9BmIGksrdJEPjl3GwBAY14hPMyjuCpHG2zz3SaDITXGxOPaAAV5M3E0hNbNXiZ1g3rBGryoI3noEthFDQXMRAZFYAOzVFTAcj8St62Mfu4SlIWlAu7ingF5I7gl08SPIi2HF1UQUk2UC6BB2xilQki0GHeOwSEPShKU7Oltbt6JGptCAbUHC8WjtJEoJvPccHSRyHvb9Zd7TLwSAidOHOundj88DzH4ZrzZAEFzVj0wJ1C6u5DwY4U333US3dQzazXPt5MHowPl3HQsXVITfMnxysrFf1kBWEcHL3326WhoYBPejG23rRQhrnQan1FYnxuEIdkoLB7IrcrCzd9P4N5NOajzr4e6xPo6i0fsQCBOK0ISI3lLS84B0U6sScSqEi42dWBqRF83mqGZn53PFk4AvAJYJ1dtZKg1REJV6y2351K2x1ZkEEg11vm6EpO15CJIXKx3nDp3jDaXCm0jLtewDypPFGAyzLsLg5n57EkA3Q0HhopJJUiho3rRcMG0rTh4DZDqmdbpOi7IBfLzdcDx469h5ghA3thFQGVgCX4WMLbd0xdkypcSqRA8OAqocfcJt37WYIJ6aly5A8bJu8eEh4WWKxJ3JDiSdSAJSlbH6HrGsx6VaKneNXNiJ18skwiyWydF366iC3Feb6sJn89sF2Wt6pIyYUMmiLZw0C1PFTQqyqQGKkWOzuRjyx52uB37jewtmDE1ix5pL7ZXCFV9TOaqrDDpBvzZTCRYOlFKlMu9AlpVfqIYbd8gL6eDFJCY1OPOOiKo5Y6CvNkkX6F7HhQYWxsO1E6aTCKZszixsCYZX2QzsrgZ4qL03ac3ktIEmNAMVGzNUXAYBI0FiGt0WG4nWoooJtiXH8I3JvMgbbCBzNsmkhitHOEMDHYY7TjEoEfM10QN7r4CIG9isL8duGN6vMa9xnNUJJ0CKryXMngxXGagvqcgtqrYAf47dgcLAo39Ad2BeirQVUI3p9InDR55eLSZr842MsjoGiquIIM2p6DKlJSw3gyYlVBIOVunIwh9u0lH0uqqpFEC3SAAL3B9FB2EkaKG7OEqWtGMYpSAfz8eH9ieqCgRRLsi1jnmfPaMTmPJ9HAyfE5StL3Q1vUeIXLSo8s9os6shRWdLDWphxsjVkaBlQqfxa5e8t9uVaM79VMWhARiyjdq71btBa91Bcxj18a700yWdZHVpBKVpaTmxH98V3KDYfK2oSFRKzmtdqRnELqEYBZXHrZu2g3Gi7tNhhHbp4gfaT8FuUoHLnNNDL9sfvHHUCJBLyZ0AcI2XHkDj0P5j7YWfY4n2JNGDOmWNEfCIvu3cR1D2VD9iB7h3S7AYDlTkFFJblijbAYwGztv6YVZKHA9AuAF0oSUG6JAb9f4w13wWDZX24EKvdEy"
end PySem.W.Fast
open PySem PySem.W PyProof.Rows
set_option maxRecDepth 100000 in
set_option maxHeartbeats 0 in
theorem PySem.Challenge.cw_gaze_k78_lyings_in_events_holds : PySem.Challenge.rw_gaze_k78_lyings_in_events.Holds := by
 w_on;o_law;k_head;(case hw=>w_witness2)
 k_fill
 refine n6.walk (l:=PySem.Challenge.rw_gaze_k78_lyings_in_events) Y Y (λw h Y9q=>PySem.W.kIn_of Y9q) ?F
 case F =>
  intro w mg fa h KX G hmg;refine' n6.acN KX G hmg ..
  rotate_left 20
  iterate 15 k_is
  iterate 15 walk_at "f"
  iterate 5 walk_at "gzfi"
  iterate 3 walk_at "f"
  iterate 2 walk_at "gzfi"
  iterate 76 walk_at "f"
  iterate 18 k_is
  iterate 2 walk_at "l"
  iterate 4 k_is
  walk_at "l"
  iterate 5 k_is
  walk_at "l"
  iterate 4 k_is
  walk_at "l"
  iterate 4 k_is
  walk_at "l"
  iterate 4 k_is
  walk_at "l"
  iterate 3 k_is
  walk_at "l"
  iterate 3 k_is
  walk_at "l"
  iterate 10 k_is
  iterate 5 walk_at "x"
  iterate 4 k_is
  iterate 3 kit_is
  iterate 12 k_is
#print axioms PySem.Challenge.cw_gaze_k78_lyings_in_events_holds
