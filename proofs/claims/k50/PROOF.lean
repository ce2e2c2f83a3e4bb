import PyProof.Rows.All
import Wide.All
import OpenK.AllK
import Wide.FinOn
import Lean
import PyProof.EqAt
import PyProof.EqKinds
import PyProof.TupleCall
import KE.KSortAsk
import KE.KSortTup
import KE.KRevIter
import KE.LcSums
import KE.KDictSum
import KE.KDictList
import PyProof.AttrMissHeap
import PySem.Challenge.RW_gaze_k50_the_least_number
set_option Elab.async false
set_option linter.all false
set_option maxRecDepth 100000
set_option maxHeartbeats 4000000
set_option exponentiation.threshold 2000
set_option compiler.extract_closed false
set_option hygiene false
local macro_rules|`(tactic|walk_at "o")=>`(tactic|((try simp only [PySem.Addr] at *); lia))
open Option renaming some->U,none->O
theorem Y{α:Sort u}{a:α}:a=a:=rfl
local macro_rules|`(#[$a,*])=>`(⟨$a,*⟩)
open PySem renaming wpAny_bind->ZE,wpAny_pure->ZI,Value->ZP,Shared->ZU,Addr->ZX,wpAny->ZZ,lookup_relabel_local->aad,starEach->aae,sizeLine->aah,mainGlobals->aak,codeAny_builtin->aau,bootBuiltins->aax,wpAny_holding->aaB,Program->aaE,wpAny_truthy_bool->aaR,wpAny_newObj_type->aaU,plainId_quiet->aaY,wpAny_call_entry->aa3,wpAny_dictEntries->aa5,wpAny_Call_Name_kw->aa9,wpAny_mono->aba,World->abb,wpAny_callSpecial?_slot->abk,compareOp->abl,wpAny_tryCatch->abo,wpAny_updateSeq->abp,sysModules->aby,wpAny_setState_of->abC,wpAny_seqItems->abH,Around->abI,foldedSetIterable->abR,Stmt->abX,tupleKind_room_in1->ab0,argBest->ab3,wpAny_typeNameOfWhole_keyiter->ab4,backTo->aca,sizeLine_eq->acg,mem_of_lookup->ach,Builtin->aci,wpAny_letGo->acj,wpAny_ite_split->acn,wpAny_isInstance->acs,behindInMarks->acu,intItems->acv,builtinLookup_eq_fast->acy,Heap->acz,wpAny_missedRemoval_other->acB,wpAny_pyIter_list->acE,codeAny->acF,wpAny_specialOf->acI,size_of_entries->acJ,wpAny_typeNameOf_keyiter->acK,pyNext->acQ,SetTable->ac6,hashInt->ac7,codeAny_mono->ac9,DictEntry->adb,tupleKeyHash->adg,attributeBase->adi,intKind->adn,codeAny_call_builtin->adp,wpAny_fieldsOf->adv,binaryOp->adz,FuncData->adA,wpAny_forIn_list->adC,wpAny_askSetting->adE,sliceBounds->adH,rawInt->adL,wpAny_comprehension_free->adM,wpAny_rule->adN,cLine->adQ,wpAny_passesOwn->adS,wpAny_attempt->adU,typeLookup_type->adW,PyData->ad1,wpAny_setField->aec,tupleKind->aed,swapsWith->aee,seqItems?->aef,updateSeq->aeg,wpAny_notOrdered_dict->aei,wpAny_isOneOf_keyiter->aek,Expr->ael,wpAny_eqBool_int->aem,letOwnedTupleGo->aex,richCompare->aeA,wpAny_of_eq->aeB,wpAny_dictEpoch->aeE,wpAny_setEntries_of->aeH,wpAny_field->aeI,entryFor->aeN,argsOk->aeO,wpAny_setField_rec->aeR,newFunctionEnv->aeV,firstArgMember->aeW,isSubtype_type->aeZ,assignEach->ae3,wpAny_call->ae5,wpAny_getItem_list_slice->ae7,wpAny_pyIter_enum->afa,wpAny_pyIter_slot->afd,searchCouldBeSeen->afh,wpAny_storeSet_of->afi,keywordEach->afl,NameKind->afm,wpAny_newList->afr,Scope->afD,wpAny_pyNext_range_end->afF,wpAny_pyIter_rangeiter->afG,wpAny_pyNext_enum_item->afJ,wpAny_isTrue_Compare1->afS,wpAny_execs_nil->afT,Result->afW,wpAny_pyNext_enum_end->af4,wpAny_typeOf->af9,setAddHashed->agd,codeAny_of_tree->age,weight_type_call_type->agg,entryOfKey->agl,typeLookup->agm,call_meets->agn,wpAny_pyIter_revIter->agr,wpAny_pyIter_keyiter->agu,isSubtype_stop->agx,wpAny_newTuple->agz,wpAny_runValue->agA,IsRangeIter->agG,numAt->agJ,call_enumerate_list->agK,atKey->agM,wpAny_standAt->agR,wpAny_pyIter_tuple->agS,wpAny_pyIter_range->agT,evalPart_none->agU,wpAny_tupleItemsOf->ag4,builtinsNs->ag9,BindsTo->ahd,list_append->ahf,closureFor->ahg,valueAt->ahh,reduceHash->ahi,ofAClassStatement->ahk,Within->aho,seqIndex_neg->ahr,wpAny_execs_cons->ahv,checkBuiltinCall->ahz,wpAny_pyIter_zip->ahA,check_set_init_1->ahL,GenState->ahR,backToKw->ahS,compEnvC->ahT,setField->ahU,getMethod->ahX,getItem->ahY,seqIndex_of->ahZ,slicePick->ah1,Keyword->ah2,callerA->ah3,notedBy->ah5,builtinKind->ah6,plainId->ah7,intItems_at->ah8,ItemsAre->aio,wpAny_Name->aiq,pyIter->air,typeIs_int->ait,setsByText->aix,standAt->aiz,newList->aiB,newTuple->aiD,Paired->aiL,isTrue->aiM,lastMarks->aiN,pickOrder->aiY,bindL->ai2,bindC->ai3,setNext->ai4
open PySem.W renaming Frag->ZF,mg_none_of->aar,nsIn->aaG,findIn->aaT,kia_one->abn,emptyDict->abz,kitOne->abG,instObj->ace,mg_of->acZ,keepIn->ac2,fnOf->ada,plainGet->aen,plainGet_of->aey,callWith_K->aeM,lookIn->aeT,codeIn->aeU,methodObj->ae2,hasDictIn->ae4,cellsFrom_some->afH,hideAll->afQ,isFn->afU,takerIn->afV,makesIn->afX,methodCall_KW->afZ,OpenLaw->af5,KdlSrc->agy,hideAll_get->agF,of_hideAll->agO,plainOver->aha,kitx_list->ahb,kitx_dict->ahc,handedIn->ahw,kas_sort->ahE,kas_item->ahF,kat_snds->ahG,kas_kind->ahN,kitMeta->ah4,kas_ask->aid,kat_run->aie,WalkO->aiC
open List renaming getD_eq_getElem?_getD->ZG,length_map->ZJ,getElem?_eq_getElem->ZK,getElem?_eq_some_iff->ZL,mem_map->ZN,mem_cons->ZO,size_toArray->ZW,map_cons->Z0,getElem?_map->Z1,mem_of_getElem?->Z2,mem_filter->Z4,mem_cons_of_mem->Z6,range->Z7,length_range->Z8,mem_append_right->aaa,length_singleton->aab,length_append->aac,mem_append->aaf,nil_append->aal,length_filter_le->aan,mem_singleton->aap,mem_range->aas,all_eq_true->aaw,getElem?_append_left->aay,filterMap_cons->aaz,mem_cons_self->aaA,nodup_cons->aaC,getElem_of_mem->aaD,replicate->aaH,length_replicate->aaI,length_cons->aaJ,filter_cons->aaK,not_mem_nil->aaL,getElem?_append_right->aaN,getElem?_toArray->aaO,take_append_drop->aa0,getElem?_range->aa1,map_append->aa2,drop_eq_getElem_cons->aa4,mem_append_left->aa6,length_reverse->abc,toArray->abf,map_map->abg,mem_iff_getElem?->abh,getElem_mem->abj,take_succ->abq,any_cons->abu,take_length->abv,getElem?_eq_none->abB,contains_iff_mem->abE,find?_cons->abK,pairwise_cons->abL,lookup_cons->abO,length_pos_of_mem->abQ,getElem?_eq_none_iff->abU,getElem?_replicate->ab6,length_eq_zero_iff->ab7,getElem?_cons_succ->ab8,append_assoc->acd,map_congr_left->acm,getElem?_reverse->acw,pairwise_iff_getElem->acA,length_nil->acH,ext_getElem?->acL,length_erase_of_mem->acO,map_nil->acS,lookup->acT,filter_sublist->acX,toList_toArray->acY,getD->ac1,nodup_nil->ac3,mem_erase_of_ne->ads,pairwise_append->adt,ext_getElem->adB,any_eq_true->adD,eq_of_mem_replicate->adP,mem_filterMap->adR,range_succ->adX,drop_eq_nil_of_le->ad2,drop_of_length_le->ad3,any_eq_false->ad5,reverse_cons->ad6,nodup_append->ad9,length_take->aeo,filter_eq_self->aeD,mem_drop_iff_getElem->aeX,mem_take_iff_getElem->aeY,findIdx?_eq_none_iff->ae0,pairwise_map->afb,foldl_append->afe,eraseIdx_cons_succ->afq,pairwise_singleton->afu,getElem_inj->afx,length_drop->afy,cons_append->afA,getElem?_set_self->afE,take_of_length_le->afK,filter_eq_nil_iff->afM,append_nil->afY,of_mem_zip->af0,foldl_cons->af1,filterMap_append->agb,perm_append_comm->agc,map_id'->agk,getElem?_set_ne->ago,mem_iff_getElem->agq,getElem?_drop->ag1,filter_append->ag5,map_replicate->ag6,reverse_perm->ahn,drop_length->ahy,map_snd_zip->ahD,getElem_map->ahI,perm_middle->ahJ,map_reverse->ahP,mem_reverse->ahQ,map->ahV,length_set->ah0,all_cons->aiA,findIdx?->aiG,all_map->aiU
open PySem.Heap renaming get?_push_of_some->ZH,lt_size->ZM,get?_push_size->ZR,get?_update_other->ZV,get?_update_self->aam,size_push->abm,size_update->ahH,ExtBut->aib
open Nat renaming le_trans->ZQ,le_refl->ZS,ne_of_lt->ZY,zero_le->Z3,lt_of_lt_of_le->Z9,lt_of_le_of_lt->aaS,ne_of_gt->aaX,lt_irrefl->aa8,lt_succ_of_lt->abD,not_lt_zero->abW,lt_succ_self->acr,le_of_lt_succ->acM,le_succ->adG,le_of_lt->adK,le_succ_of_le->ad8,pow_le_pow_right->aes,mod_lt->aev,lt_trichotomy->aff,le_add_right->afC,lt_of_succ_lt_succ->afP,sub_self->agj,eq_zero_or_pos->ag0,lt_trans->aht,zero_add->ahu,le_of_not_lt->ahx,succ_ne_self->ahM,le_add_left->aij,le_of_eq->aiO,add_zero->aiR,pow_succ->aiV,add_comm->aiW
open Bool renaming false_eq_true->ZT,false_ne_true->aag,and_eq_true->abi,or_eq_true->abJ,not_true->ab9,eq_iff_iff->ac8,eq_false_iff->adj,false_and->aea,and_self->afo,false_or->afp,true_and->afv,and_eq_false_iff->aga,not_false->agC,and_false->agD,and_true->agW
open PySem.Value renaming ref->Z5,bool->abM,isInt->adF,type->ad4,isInt_shape->ag8,float->ahW,isStrOf->aiy,builtin->aiE,bytes->ai0
open PySem.Around renaming under_plainId->aai,under_plain->ag3,under->ahq
open Option renaming map_eq_some_iff->aaj,isSome_iff_exists->abA,getD_some->ac0,isNone->adl,ne_none_iff_exists'->adm,isSome_map->afc,toList_some->agX,isSome_some->agY
open Array renaming getElem?_eq_getElem->aao,length_toList->acf,getElem?_eq_none->acp,getElem?_toList->acx,getD_eq_getD_getElem?->adf,mem_toList_iff->ado,getD->adO,forIn_toList->aeQ,toArray_toList->agv,append_assoc->agP,toList_push->ahm,toList->ahp,toList_inj->ahC,replicate->aih,ext'->ai6
open PyProof.Rows renaming callWith_type1->aaq,seqObj->abx,listItems_at->abV,envOfC->abZ,callWith_builtin1->acR,IntsAre->adT,listUpdate_at->adV,get?_update_seq->aeF,seqEpoch_at->aeG,kindOf->ae6,subscriptTail->afn,subscriptTail_builtinR->afI,AllBare->afR,mirror_perm->agL,Constant_none->agQ,Subscript_->ahe,list_sort_plain->aic,entry_list_sort->aif,mulOk_of_bits->aik,boot_range->ais,size_push'->aiv,oneType'->aiH,bits_add->aiP,bits_mul->aiQ,Call_->ai1
open Int renaming toNat_natCast->aat,le_refl->abe,toNat_of_nonneg->abS,emod_lt_of_pos->aeP,zero_add->aeS,le_trans->af2,le_antisymm->af3,emod_nonneg->af6,toNat->agh,mul_nonneg->agE,ediv_le_self->ahB,ediv_nonneg->ah9,mul_le_mul->aip,ediv_one->aiT
open PySem.PassesOwn renaming never->aav
open PySem.F renaming plain_min_loop->aaF,plainAttrs_list->aaW,slot_dict_keyiterator_next->abF,entry_min_loop->abP,slot_list_append->ab1,type_list_append->ab2,slot_enumerate_next->aco,plain_extend_loop->acD,args_dict_keyiterator_next_1->adu,entry_dict_keyiterator_next->adI,slot_list_index->adZ,args_enumerate_next_1->aeq,entry_enumerate_next->aeu,excBase_ValueError->aeK,sub_list_frozenset->aeL,entry_extend_loop->ae1,plain_min->ae8,entry_min->ae9,entry_type_call->aft,type_list_index->afw,kind_min->afz,slot_dict_iter->afL,typeCall_set_1->afN,entry_set_init->afO,slot_dict_pop->af7,slot_dict_len->af8,plain_set_new->agf,slot_tuple_lt->agi,args_list_append_2->agp,sub_list_set->agw,entry_list_append->agI,slot_list_append->agV,slot_set_iter->aii
open PySem.Heap.SameBut renaming update->aaM
open PyProof.Rows.F renaming plain_set_update_loop->aaP,entry_set_update_loop->abt
open Ne renaming symm->aaQ
open PySem.Builtin.Range renaming rangeSize->aaV,rangeFitsLong->aia
open PySem.Obj renaming mapSeq->aaZ,mapFields->adk,data_mapDictKeys->adq,isFreed_of_dict->agN,data_mapFields->agZ,putSet->ahl
open PySem.Str renaming ofString->aa7
open PySem.Builtin.Builtins renaming bindParams->abd
open PySem.SetTable renaming runEnd->abr,leap->abw,insertAt->acP,turns->ac4,Probe->adx,advance->afB,grown->agB,sizeAbove->ag2,layClean->ahj,tooFull->ahK,slot->aiF,has->aiX
open PySem.PyData renaming eqv->abN,eqvAll->acV,canLayAll0->ad7,canLay0->aeb,depthAll->aeC,strOk->aiS
open Classical renaming byContradiction->abT,choose->ahO
open PySem.Calls renaming spliced_cons->abY,spliced_nil->acb,call_function_entry->adw,callWith_builtin->ad0,evalArgs_plain->aer,Name_function_global->aeJ,call_len_list->agH
open PySem.MeetsSeq3 renaming plain_eq_loop->ab5,entry_eq_loop->aep
open PySem.Builtin.List renaming listExtendWith->ack,listItems->ac5,listLengthHint->adh,listSameRef->afj,listUpdate->aiI,listTouch->aiK
open False renaming elim->acq
open PySem.Builtin.Tuple renaming tupleHashOf->acC
open True renaming intro->acG
open PySem.SetTable.probe renaming go->acN
open PySem.Builtin.Int renaming intBits->acU
open PySem.W.WData renaming weightAll->acW,layable->aeh,weight->ags,layableAll->aiu
open Or renaming inl->ade,inr->ahs
open Decidable renaming byContradiction->ady
open PySem.Builtin.SmallTypes renaming ownedTupleIsFree->adJ
open List.cons renaming injEq->adY
open PySem.Builtin.Dict renaming showsAll->aej,entriesForEmpty->aet,updateFrom->afs,takeOut->agt,dictSlotNone->ail,pendingCount->aim,readDirectly->ain,selfAndRest->aiw,mergeDict->aiJ,quietEq->aiZ,merge->ai5
open Sum renaming inl->aew,inr->ag7
open ForInStep renaming yield->aez
open Function renaming comp_def->afg
open Option.some renaming injEq->afk
namespace L2
open PySem PySem.Spec PyProof.Rows
abbrev Key:=Sum Int Str
noncomputable def oW:Key->ZP->Bool
 | .inl k,v=>adF k v
 | .inr x,v=>aiy x v
noncomputable def LX(w:abb):Key->Int
 | .inl k=>ac7 k
 | .inr x=>hashStr w x
theorem ku:∀ {k:Key} {v:ZP},oW k v=true->(∃ i t,k=aew i/\v=Value.int i t)∨(∃ x t,k=ag7 x/\v=Value.str x t)
 | .inl i,v,h=>by obtain⟨t,e⟩:=ag8 (k:=i) (v:=v) h;exact .inl #[i,t,Y,e]
 | .inr x,v,h=>by obtain⟨t,e⟩:=Value.isStrOf_shape (x:=x) (v:=v) h;exact .inr #[x,t,Y,e]
theorem LY(i:Int)(t:Tok):oW (.inl i) (.int i t)=true:=by simp[oW,adF]
theorem LZ(x:Str)(t:Tok):oW (.inr x) (.str x t)=true:=by simp[oW,aiy]
theorem L0(a b:Int):decide ((aew a:Key)=aew b)=(a == b):=by
 by_cases e:a=b
 .subst e;simp
 .have h:¬ (aew a:Key)=aew b:=λq=>e (Sum.inl.inj q);rw[decide_eq_false h];exact (beq_eq_false_iff_ne.mpr e).symm
theorem L6(a b:Str):decide ((ag7 a:Key)=ag7 b)=decide (a=b):=by
 by_cases e:a=b
 .subst e;simp
 .have h:¬ (ag7 a:Key)=ag7 b:=λq=>e (Sum.inr.inj q);rw[decide_eq_false h,decide_eq_false e]
theorem L8(a:Int)(b:Str):decide ((aew a:Key)=ag7 b)=false:=decide_eq_false (λq=>nomatch q)
theorem L9(a:Str)(b:Int):decide ((ag7 a:Key)=aew b)=false:=decide_eq_false (λq=>nomatch q)
noncomputable def cz(prog:aaE)(w:abb):PySem.KeyKind prog w Key where
 is:=oW
 hash:=LX w
 inj:=λv a b ha hb=>by
  rcases ku ha with ⟨i,t,rfl,rfl⟩|⟨x,t,rfl,rfl⟩
  .rcases ku hb with ⟨j,u,rfl,e⟩|⟨y,u,rfl,e⟩
   .injection e with e1 _;rw[e1]
   .exact nomatch e
  .rcases ku hb with ⟨j,u,rfl,e⟩|⟨y,u,rfl,e⟩
   .exact nomatch e
   .injection e with e1 _;rw[e1]
 byValue:=λk v h=>by
  rcases ku h with ⟨i,t,rfl,rfl⟩|⟨x,t,rfl,rfl⟩<;>rfl
 pyHash:=λhv h=>by
  rcases ku hv with ⟨i,t,rfl,rfl⟩|⟨x,t,rfl,rfl⟩
  .exact wpAny_pyHash_int h
  .exact wpAny_pyHash_str h
 eqBool:=λhu hv h=>by
  rcases ku hu with ⟨i,t,rfl,rfl⟩|⟨x,t,rfl,rfl⟩
  .rcases ku hv with ⟨j,u,rfl,rfl⟩|⟨y,u,rfl,rfl⟩
   .rw[L0] at h;exact aem h
   .rw[L8] at h;exact SeqAt.EqAt.int_str i t y u _ _ _ _ h
  .rcases ku hv with ⟨j,u,rfl,rfl⟩|⟨y,u,rfl,rfl⟩
   .rw[L9] at h;exact SeqAt.EqAt.str_int x t j u _ _ _ _ h
   .rw[L6] at h;exact wpAny_eqBool_str h
 «strs»:=λk x t v h=>by
  rcases ku h with ⟨i,u,rfl,e⟩|⟨y,u,rfl,e⟩
  .exact nomatch e
  .injection e with e1 _;subst e1;cases v<;>rfl
theorem Ma(prog:aaE)(w:abb)(i:Int)(t:Tok):(cz prog w).is (.inl i) (.int i t)=true:=LY i t
theorem Mb(prog:aaE)(w:abb)(x:Str)(t:Tok):(cz prog w).is (.inr x) (.str x t)=true:=LZ x t
inductive V where
 | non|bl (b:Bool)|int (i:Int)|str (x:Str)|byt (b:Array UInt8)|flt (b:UInt64)|ref (a:ZX)|ty (n:String)
 deriving DecidableEq
def RelV:V->ZP->Prop
 | .non,u=>u=Value.none
 | .bl b,u=>u=abM b
 | .int i,u=>∃ t,u=Value.int i t
 | .str x,u=>∃ t,u=Value.str x t
 | .byt b,u=>∃ t,u=ai0 b t
 | .flt b,u=>∃ t,u=ahW b t
 | .ref a,u=>u=Z5 a
 | .ty n,u=>u=ad4 n
abbrev Vals:List V->List ZP->Prop:=aiL RelV
theorem Vals.length(r:Vals xs us):xs.length=us.length:=Paired.length r
theorem Vals.get:∀ {xs:List V} {us:List ZP} {i:Nat} {x:V},Vals xs us->xs[i]?=U x->∃ u,us[i]?=U u/\RelV x u
 | _,_,_,_,.nil,e=>by simp at e
 | _,_,0,_,.cons r _,e=>by simp at e;subst e;exact#[_,Y,r]
 | _,_,i+1,x,.cons _ t,e=>by obtain⟨u,h1,h2⟩:=Vals.get (i:=i) (x:=x) t (by simpa using e);exact#[u,by simpa using h1,h2]
theorem Vals.set(r:RelV x u):∀ {xs:List V} {us:List ZP} (i:Nat),Vals xs us->Vals (xs.set i x) (us.set i u)
 | _,_,_,.nil=>.nil
 | _,_,0,.cons _ t=>.cons r t
 | _,_,i+1,.cons q t=>.cons q (Vals.set r i t)
theorem Vals.append:∀ {xs ys:List V} {us ws:List ZP},Vals xs us->Vals ys ws->Vals (xs++ys) (us++ws):=by
 intro xs ys us ws h s
 induction h with
 | nil=>exact s
 | cons r t ih=>exact .cons r ih
theorem Vals.take:∀ {xs:List V} {us:List ZP} (n:Nat),Vals xs us->Vals (xs.take n) (us.take n)
 | _,_,0,_=>.nil
 | _,_,_+1,.nil=>.nil
 | _,_,n+1,.cons r t=>.cons r (Vals.take n t)
theorem Vals.drop:∀ {xs:List V} {us:List ZP} (n:Nat),Vals xs us->Vals (xs.drop n) (us.drop n)
 | _,_,0,r=>r
 | _,_,_+1,.nil=>.nil
 | _,_,n+1,.cons _ t=>Vals.drop n t
def fe:Option V->Option ZP->Prop
 | some v,U u=>RelV v u
 | none,O=>True
 | _,_=>False
def KV{κ:Type}:List (κ × V)->List (κ × ZP)->Prop:=aiL λ(p:κ × V) (q:κ × ZP)=>p.1=q.1/\RelV p.2 q.2
noncomputable def kV:Key->V
 | .inl i=>.int i
 | .inr x=>.str x
inductive HO where
 | lst (xs:List V)
 | tup (xs:List V)
 | dK (kvs:List (Key × V))|dT (kvs:List (List Key × V))
 | set (S:Int->Bool) (n:Nat)
 | ins (C dx:ZX) (fs:List (Str × V))
 | own (x:ZX)
 | xd (fs:List (Str × V))
 | met (f x:ZX)
 | iS (lo hi:Int)
 | aT (o:Obj) (u:HO)
 | tbl (ps:Array ZP)
 | ext (φ:acz->Prop)
abbrev Hp:=ZX->Option HO
noncomputable def upd(H:Hp)(a:ZX)(o:HO):Hp:=λb=>if b=a then U o else H b
theorem ar:upd H a o a=U o:=by unfold upd;rw[if_pos Y]
theorem aF(h:b≠a):upd H a o b=H b:=by unfold upd;rw[if_neg h]
theorem uK:upd (upd H a o) a u=upd H a u:=by funext b;unfold upd;split<;>rfl
theorem uL{H:Hp}{a b:ZX}{o u:HO}(h:H a=U o)(h':H b=U u)(d:o≠u):a≠b:=by intro e;subst e;rw[h] at h';exact d (Option.some.inj h')
theorem iT{H:Hp}{a b:ZX}{o:HO}(h:H a=U o)(h':H b=O):a≠b:=by intro e;subst e;rw[h] at h';cases h'
section
variable(P:aaE)(w:abb)
def bE(H:Hp)(h:acz)(a:ZX):HO->Prop
 | .lst xs=>xs.length<=aah/\∃ (ai:List ZP) (n:Nat),Vals xs ai/\h.get? a=U { cls:=.type "list",data:=.seq ai.toArray n }
 | .tup xs=>xs.length<=aah/\∃ ai:List ZP,Vals xs ai/\IsTup h a ai.toArray
 | .dK kvs=>kvs.length<=aah/\(a == aby)=false/\∃ vs,KV kvs vs/\h.DictOf (cz P w) a vs
 | .dT kvs=>kvs.length<=aah/\(a == aby)=false/\∃ xs:List (List Key × ZX × ZP),
  aiL (λ(p:List Key × V) (q:List Key × ZX × ZP)=>p.1=q.1/\H q.2.1=U (.tup (p.1.map kV))/\RelV p.2 q.2.2) kvs xs /\
  ∃ o es ep,h.get? a=U o/\o.ExactDict/\o.data = .dict es ep/\es.toList=xs.map (agl (aed (cz P w)))/\(xs.map (·.1)).Nodup
 | .set S n=>h.SetOf (adn P w) a S n
 | .ins C dx fs=>H dx=U (.own a)/\fs.length<=1000/\dx≠a/\h.get? a=U (ace C dx) /\
  ∃ mA,h.Ns1 dx mA/\(∀ f,fe (fs.lookup f) (mA f))/\aho mA (fs.map (·.1))
 | .own _=>∃ o,h.get? a=U o
 | .xd fs=>∃ mA,h.Ns1 a mA/\∀ f,fe (fs.lookup f) (mA f)
 | .iS lo hi=>∃ t u v,h.get? a=U { cls:=.type "range",data:=.fields (List.toArray [.int lo t,.int hi u,.int 1 v]) }
 | .aT o u=>h.get? a=U o/\bE H h a u
 | .tbl ps=>h.get? a=U { cls:=.none,data:=.fields ps }
 | .met f x=>h.get? a=U (ae2 (.ref f) (.ref x))
 | .ext φ=>φ h/\(∃ o,h.get? a=U o)/\∀ h1 h2:acz,φ h1->(∀ o,h1.get? a=U o->h2.get? a=U o)->φ h2
def bS(H:Hp)(h:acz):Prop:=∀ a o,H a=U o->bE P w H h a o
end
section
theorem bE.lt(x:bE P w H h a o):a<h.objs.size:=by
 cases o with
 | lst xs=>obtain⟨z,z,z,z,e⟩:=x;exact ZM e
 | tup xs=>obtain⟨z,z,z,p⟩:=x;exact p.lt
 | dK kvs=>obtain⟨z,z,z,z,o,z,z,e,z⟩:=x;exact ZM e
 | dT kvs=>obtain⟨z,z,z,z,o,z,z,e,z⟩:=x;exact ZM e
 | set S n=>obtain⟨o,z,z,z,e,z⟩:=x;exact ZM e
 | ins C dx fs=>obtain⟨z,z,z,e,z⟩:=x;exact ZM e
 | own y=>obtain⟨z,e⟩:=x;exact ZM e
 | xd fs=>obtain⟨z,⟨z,z,z,e,z⟩,z⟩:=x;exact ZM e
 | iS lo hi=>obtain⟨z,z,z,e⟩:=x;exact ZM e
 | aT ob u=>obtain⟨e,z⟩:=x;exact ZM e
 | tbl ps=>exact ZM (show h.get? a=U _ from x)
 | met f y=>exact ZM (show h.get? a=U _ from x)
 | ext φ=>obtain⟨z,⟨z,e⟩,z⟩:=x;exact ZM e
theorem Paired.DR:∀ {l₁:List α} {l₂:List β},aiL F l₁ l₂->(∀ a b,F a b->G a b)->aiL G l₁ l₂:=by
 intro y y h f
 induction h with
 | nil=>exact .nil
 | cons r t ih=>exact .cons (f _ _ r) ih
theorem bE.g9(x:bE P w H h a o)(k:∀ b u,(b=a∨H b=U (.own a))->h.get? b=U u->h'.get? b=U u)(ho:∀ b,H b=U (.own a)->H' b=U (.own a))(ht:∀ b xs,H b=U (.tup xs)->H' b=U (.tup xs)):bE P w H' h' a o:=by
 induction o with
 | lst xs=>obtain⟨z,ai,n,r,e⟩:=x;exact#[z,ai,n,r,k _ _ (.inl rfl) e]
 | tup xs=>obtain⟨z,ai,r,ob,e,c⟩:=x;exact#[z,ai,r,ob,k _ _ (.inl rfl) e,c]
 | dK kvs=>obtain⟨z,y,vs,r,ob,es,ep,e,c⟩:=x;exact#[z,y,vs,r,ob,es,ep,k _ _ (.inl rfl) e,c]
 | dT kvs =>
  obtain⟨z,y,xs,r,ob,es,ep,e,c⟩:=x;exact#[z,y,xs,Paired.DR r λp q z=>#[z.1,ht _ _ z.2.1,z.2.2],ob,es,ep,k _ _ (.inl rfl) e,c]
 | set S n=>obtain⟨ob,es,ep,t,e,c⟩:=x;exact#[ob,es,ep,t,k _ _ (.inl rfl) e,c]
 | ins C dx fs =>
  obtain⟨d,z,ne,e,mA,⟨od,es,ep,e2,c⟩,r⟩:=x;exact#[ho _ d,z,ne,k _ _ (.inl rfl) e,mA,#[od,es,ep,k _ _ (.inr d) e2,c],r]
 | own y=>obtain⟨ob,e⟩:=x;exact#[ob,k _ _ (.inl rfl) e]
 | xd fs=>obtain⟨mA,⟨od,es,ep,e,c⟩,r⟩:=x;exact#[mA,#[od,es,ep,k _ _ (.inl rfl) e,c],r]
 | iS lo hi=>obtain⟨t,u,v,e⟩:=x;exact#[t,u,v,k _ _ (.inl rfl) e]
 | aT ob u ih=>obtain⟨e,q⟩:=x;exact#[k _ _ (.inl rfl) e,ih q]
 | tbl ps =>
  have e:h.get? a=U { cls:=.none,data:=.fields ps }:=x;show h'.get? a=U { cls:=.none,data:=.fields ps };exact k a _ (.inl rfl) e
 | met f y =>
  have e:h.get? a=U (ae2 (.ref f) (.ref y)):=x;show h'.get? a=U (ae2 (.ref f) (.ref y));exact k a _ (.inl rfl) e
 | ext φ=>obtain⟨p,⟨o,e⟩,st⟩:=x;exact#[st _ _ p λo q=>k _ _ (.inl rfl) q,#[o,k _ _ (.inl rfl) e],st]
theorem bS.lt(x:bS P w H h)(e:H a=U o):a<h.objs.size:=(x a o e).lt
theorem bS.fresh(x:bS P w H h)(e:h.objs.size<=a):H a=O:=by
 cases q:H a with
 | none=>rfl
 | some u=>exact absurd (Z9 (x.lt q) e) (aa8 _)
theorem bS.kept(x:bS P w H h)(k:∀ b u,h.get? b=U u->h'.get? b=U u):bS P w H h':=λa o e =>
 (x a o e).g9 (λb u y q=>k b u q) (λy q=>q) λy y q=>q
theorem bS.laid(x:bS P w H h)(k:∀ b u,h.get? b=U u->h'.get? b=U u)(hp:h.objs.size<=a)(new:bE P w (upd H a o) h' a o):bS P w (upd H a o) h':=λb u e=>by
 have hn:=x.fresh hp;by_cases hb:b=a
 .subst hb;rw[ar] at e;cases e;exact new
 .rw[aF hb] at e;exact (x b u e).g9 (λc v y q=>k c v q) (λc q=>by rw[aF (iT q hn)];exact q) λc xs q=>by rw[aF (iT q hn)];exact q
end
def Rd(H:Hp)(a:ZX)(u:HO):Prop:=H a=U u ∨ ∃ o,H a=U (.aT o u)
theorem Rd.ok(r:Rd H a u)(x:bS P w H h):bE P w H h a u:=by
 rcases r with r|⟨o,r⟩
 .exact x a u r
 .obtain⟨y,q⟩:=x a _ r;exact q
def qG:Option HO->Prop
 | some (.lst _)=>True
 | some (.dK _)=>True
 | some (.dT _)=>True
 | some (.set _ _)=>True
 | some (.ins _ _ _)=>True
 | some (.ext _)=>True
 | _=>False
section
theorem bS.write(ok:bS P w H h)(mu:qG (H x))(he:e=x∨H e=U (.own x))(k:∀ b u,b≠e->h.get? b=U u->h'.get? b=U u)(oX:∃ u,h'.get? e=U u)(new:bE P w (upd H x o') h' x o'):bS P w (upd H x o') h':=λb u q=>by
 have DS:∀ c y,H c=U (.own y)->c≠x:=λc y r z=>by subst z;rw[r] at mu;exact mu
 have Mc:∀ c xs,H c=U (.tup xs)->c≠x:=λc xs r z=>by subst z;rw[r] at mu;exact mu
 by_cases hb:b=x
 .subst hb;rw[ar] at q;cases q;exact new
 .rw[aF hb] at q;by_cases jC:b=e
  .have q':H b=U (.own x):=by
    rcases he with z|z
    .exact absurd (jC.trans z) hb
    .rw[jC];exact z
   rw[q] at q';cases q';obtain⟨v,hv⟩:=oX;exact#[v,by rw[jC];exact hv]
  .refine (ok b u q).g9 (λc v hc r=>k c v ?_ r) (λc r=>by rw[aF (DS c b r)];exact r) λc xs r=>by rw[aF (Mc c xs r)];exact r
   rcases hc with rfl|hc
   .exact jC
   .rintro rfl;rcases he with z|z
    .exact DS c b hc z
    .rw[hc] at z;cases z;exact hb rfl
end
structure Un(fs ex:List ZX)(H H':Hp)(h h':acz):Prop where
 keep:∀ b o,h.get? b=U o->H b=O->b∉fs->b∉ex->h'.get? b=U o
 slot:∀ b o,h.get? b=U o->H b=O->b∈fs->b∉ex->∃ sl,h'.get? b=U { o with slots:=sl }
 free:∀ b o,h.get? b=U o->H b=O->b∉ex->H' b=O
 there:∀ b o,h.get? b=U o->b∉ex->∃ o',h'.get? b=U o'
 gy:∀ b xs,H b=U (.tup xs)->H' b=U (.tup xs)
 fE:∀ b o u,H b=U (.aT o u)->H' b=U (.aT o u)
 gA:∀ b ps,H b=U (.tbl ps)->∃ more,H' b=U (.tbl (ps++more))
section
variable{fs Y3 ex Y4:List ZX}{H H1 H2:Hp}{h h1 h2 h':acz}{a x e:ZX}{o:HO}
theorem Un.any(u:Un fs ex H H1 h h1)(q:h.get? b=U ob)(n:H b=O)(hx:b∉ex):∃ sl,h1.get? b=U { ob with slots:=sl }:=by
 by_cases hb:b∈fs
 .exact u.slot b ob q n hb hx
 .exact#[ob.slots,u.keep b ob q n hb hx]
theorem Un.kept(k:∀ b u,h.get? b=U u->h'.get? b=U u):Un fs ex H H h h' :=
 #[λb ob q y y y=>k b ob q,λb ob q y y y=>#[ob.slots,k b ob q],λy y y n y=>n,λb ob q y=>#[ob,k b ob q],λy y q=>q,λy y y q=>q,λy ps q=>#[(List.toArray []),by rw[q];simp]]
theorem Un.refl:Un fs ex H H h h:=Un.kept λy y q=>q
theorem Un.laid(k:∀ b u,h.get? b=U u->h'.get? b=U u)(hp:h.objs.size<=a)(hn:H a=O):Un fs ex H (upd H a o) h h' where
 keep:=λb u q y y y=>k b u q
 slot:=λb u q y y y=>#[u.slots,k b u q]
 free:=λb u q n y=>by rw[aF (ZY (Z9 (ZM q) hp))];exact n
 there:=λb u q y=>#[u,k b u q]
 gy:=λb xs q=>by rw[aF (iT q hn)];exact q
 fE:=λb u xs q=>by rw[aF (iT q hn)];exact q
 gA:=λb ps q=>#[(List.toArray []),by rw[aF (iT q hn),q];simp]
theorem Un.write(mu:qG (H x))(he:e=x∨H e=U (.own x))(k:∀ b u,b≠e->h.get? b=U u->h'.get? b=U u)(oX:∃ u,h'.get? e=U u):Un fs ex H (upd H x o) h h':=by
 have hx:∀ b,H b=O->b≠x:=λb n z=>by subst z;rw[n] at mu;exact mu
 have hb:∀ b,H b=O->b≠e:=λb n z=>by
  subst z;rcases he with r|r
  .exact hx b n r
  .rw[n] at r;cases r
 have hm:∀ b u,H b=U u->¬ qG (U u)->b≠x:=λb u q nm z=>by subst z;rw[q] at mu;exact nm mu
 refine#[λb u q n y y=>k b u (hb b n) q,λb u q n y y=>#[u.slots,k b u (hb b n) q],λb u q n y=>by rw[aF (hx b n)];exact n,λb u q y=>?_,
  λb xs q=>by rw[aF (hm b _ q λz=>z)];exact q,λb u xs q=>by rw[aF (hm b _ q λz=>z)];exact q,λb ps q=>#[(List.toArray []),by rw[aF (hm b _ q λz=>z),q];simp]]
 by_cases jC:b=e
 .subst jC;exact oX
 .exact#[u,k b u jC q]
end
noncomputable def eo(h:acz)(H:Hp):List ZX:=(Z7 h.objs.size).filter λa=>(H a).isSome
noncomputable def kx(h:acz)(H:Hp):acz:=afQ h (eo h H)
theorem Md(h:acz)(H:Hp):(kx h H).objs.size=h.objs.size:=PySem.W.hideAll_size _ _
theorem Me(e:h.get? b=U o)(n:H b=O):(kx h H).get? b=U o :=
 agF _ e λhm=>by have q:(H b).isSome=true:=(Z4.mp hm).2;rw[n] at q;simp at q
theorem Mf(e:(kx h H).get? b=U o):h.get? b=U o/\H b=O:=by
 have e':h.get? b=U o:=agO (eo h H) e;refine#[e',?_];cases q:H b with
 | none=>rfl
 | some x =>
  have hm:b∈eo h H:=Z4.mpr #[aas.mpr (ZM e'),by simp[q]];have z:(kx h H).get? b=O:=PySem.W.hideAll_none (eo h H) hm;rw[z] at e;cases e
noncomputable def Mg(g h:acz)(L:ZX):List (ZX × Obj):=(Z7 h.objs.size).filterMap λa=>if a=L∨(g.get? a).isSome=true then O else (h.get? a).map λo=>(a,o)
noncomputable def rest(g h:acz)(L d:ZX):List (ZX × Obj):=(Mg g h L).filter λp=>decide (p.1≠d)
structure Mod(K:ZF)(mg:Str->Option ZP)(base:acz):Prop where
 kin:K.In base
 glob:base.Ns aak mg
 blt:∃ mb,base.Ns ag9 mb/\∀ x:Str,x ≠ "__name__" -> mb x=aax x
 nolimit:base.NoLimit
structure Cx where
 prog:aaE
 w:abb
 K:ZF
 mg:Str->Option ZP
 base:acz
 A:abI
 N:List Str
 s₀:ZU
 H₀:Hp
 env:Env
 outer:List Env
 stack:List Env
 ex:List ZX
 fn:Str->Bool
 calm:Bool
 pn:List (ZX × Obj)
 xe:ZP->ZU->Prop
noncomputable def a8(l:List Env):List ZX:=l.filterMap (·.frame)
noncomputable abbrev Cx.fs(X:Cx):List ZX:=a8 X.outer
def uM(sc:afD)(x:Str):Prop:=sc.names.lookup x=U .local∨sc.names.lookup x=U .cell∨sc.names.lookup x=U .free
def Loc(sc:afD)(x:Str):Prop:=sc.names.lookup x=U .local∨sc.names.lookup x=U .cell
def Look(env:Env)(h:acz)(m:Str->Option ZP)(x:Str)(u:ZP):Prop :=
 (env.kindOf x=U .local/\m x=U u)∨((env.kindOf x=U .cell∨env.kindOf x=U .free)/\∃ c,env.cells.lookup x=U c/\h.IsCell c (U u))
structure Cx.Ok(X:Cx):Prop where
 mod:Mod X.K X.mg X.base
 kind:X.env.scope.kind = .function
 glob:X.env.globals=aak
 blt:X.env.builtins=ag9
 above:X.s₀.heap.objs.size<=X.env.locals
 inj:∀ x y c,X.env.cells.lookup x=U c->X.env.cells.lookup y=U c->x=y
 has:∀ x,(X.env.kindOf x=U .cell∨X.env.kindOf x=U .free)->∃ c,X.env.cells.lookup x=U c
 cab:∀ x c,X.fn x=true->X.env.cells.lookup x=U c->X.s₀.heap.objs.size<=c
 hd:X.calm=true->X.A.handled=O
 frames:X.A.frames=U X.stack
 stk:X.stack=X.outer∨(X.stack=X.env::X.outer/\X.env.frame=U X.env.locals)
 exf:∀ b∈X.ex,b≠X.env.locals/\∀ x c,X.env.cells.lookup x=U c->c≠b
 bs:∀ b o,X.base.get? b=U o->X.s₀.heap.get? b=U o/\X.H₀ b=O
 bsz:X.base.objs.size<=X.s₀.heap.objs.size
 noex:∀ b o,X.base.get? b=U o->b∉X.ex
 exfs:∀ b∈X.ex,b∉X.fs
 hJ:X.s₀.heap.FunFrames X.base X.outer
 frf:∀ b∈X.fs,X.H₀ b=O
structure Inv(X:Cx)(pins:List (ZX × Obj))(J:List (Option V))(H:Hp)(s:ZU):Prop where
 ok:X.Ok
 os:s.os=X.s₀.os
 bare:afR s.gens
 base:Un X.fs X.ex X.H₀ H X.s₀.heap s.heap
 loc:∃ m,s.heap.Ns X.env.locals m/\∀ (i:Nat) (x:Str) (v:V),X.N[i]?=U x->J[i]?=U (U v)->uM X.env.scope x->∃ u,RelV v u/\Look X.env s.heap m x u
 cell:∀ x c,X.env.cells.lookup x=U c->∃ v,s.heap.IsCell c v
 free:H X.env.locals=O
 hU:∀ x c,X.env.cells.lookup x=U c->H c=O
 pin:∀ p∈X.pn++pins,s.heap.get? p.1=U p.2/\H p.1=O/\p.1≠X.env.locals/\p.1∉X.fs/\∀ v,p.2.data ≠ .cell v
 ak:bS X.prog X.w H s.heap
 len:J.length=X.N.length
section
variable{X:Cx}{pins:List (ZX × Obj)}{J:List (Option V)}{H H':Hp}{s:ZU}{h':acz}
theorem Cx.Ok.ky(ok:X.Ok){b:ZX}{o:Obj}(e:X.base.get? b=U o):b∉X.fs:=λhb=>by have:=(ok.hJ.mem hb).1;rw[e] at this;cases this
theorem Inv.bs(I:Inv X pins J H s):∀ b o,X.base.get? b=U o->s.heap.get? b=U o/\H b=O:=λb o e =>
 #[I.base.keep b o (I.ok.bs b o e).1 (I.ok.bs b o e).2 (I.ok.ky e) (I.ok.noex b o e),I.base.free b o (I.ok.bs b o e).1 (I.ok.bs b o e).2 (I.ok.noex b o e)]
theorem Inv.bk(I:Inv X pins J H s):∀ b o,X.base.get? b=U o->s.heap.get? b=U o:=λb o e=>(I.bs b o e).1
theorem Inv.mod(I:Inv X pins J H s):Mod X.K X.mg X.base:=I.ok.mod
theorem Inv.cM(I:Inv X pins J H s):X.K.In s.heap:=I.ok.mod.kin.keeps I.bk
theorem Inv.lt(I:Inv X pins J H s):X.env.locals<s.heap.objs.size:=let ⟨_,hn,_⟩:=I.loc;hn.lt
theorem Inv.sz(I:Inv X pins J H s):X.s₀.heap.objs.size<=s.heap.objs.size:=ZQ I.ok.above (adK I.lt)
theorem Inv.DT(I:Inv X pins J H s)(h:s.heap.objs.size<=a):a∉X.fs:=λhb=>by obtain⟨y,o,ho,y⟩:=I.ok.hJ.mem hb;exact absurd (Z9 (ZM ho) (ZQ I.sz h)) (aa8 _)
theorem Inv.m9(I:Inv X pins J H s):∀ x c,X.env.cells.lookup x=U c->c≠X.env.locals:=λx c e z=>by obtain⟨v,o,ho,hd⟩:=I.cell x c e;obtain⟨m,⟨o',es,ep,dk,iU,y⟩,y⟩:=I.loc;rw[z,dk] at ho;cases ho;rw[iU] at hd;cases hd
theorem Inv.hJ(I:Inv X pins J H s):s.heap.FunFrames X.base X.outer:=by
 have all:∀ (l:List Env),(∀ b∈a8 l,b∈X.fs)->X.s₀.heap.FunFrames X.base l->s.heap.FunFrames X.base l:=by
  intro l
  induction l with
  | nil=>intro y y;trivial
  | cons env r ih =>
   intro hs hl;obtain⟨hk,⟨L,o,hf,hn,ho,hd⟩,hr⟩:=hl;have hL:L∈X.fs:=hs L (by unfold a8;rw[aaz,hf];exact aaA);obtain⟨sl,e⟩:=I.base.slot L o ho (I.ok.frf L hL) hL λz=>I.ok.exfs L z hL;exact#[hk,#[L,_,hf,hn,e,hd],ih (λb hb=>hs b (by unfold a8;rw[aaz,hf];exact Z6 _ hb)) hr]
 exact all X.outer (λy hb=>hb) I.ok.hJ
theorem Inv.stack(I:Inv X pins J H s):s.heap.FunFrames X.base X.stack:=by
 rcases I.ok.stk with e|⟨e,hf⟩
 .rw[e];exact I.hJ
 .rw[e];obtain⟨m,hn,y⟩:=I.loc;refine .cons (by rw[I.ok.kind];decide) hf hn ?_ I.hJ;exact Heap.get?_none_of_le (ZQ I.ok.bsz I.ok.above)
theorem Inv.nc(I:Inv X pins J H s):∀ b∈a8 X.stack,b∈X.env.locals::X.fs:=λb hb=>by
 rcases I.ok.stk with e|⟨e,hf⟩
 .rw[e] at hb;exact Z6 _ hb
 .rw[e] at hb;unfold a8 at hb;rw[aaz,hf] at hb;exact hb
theorem Inv.qH(I:Inv X pins J H s):∀ b∈a8 X.stack,H b=O:=λb hb=>by
 rcases ZO.mp (I.nc b hb) with e|hb
 .rw[e];exact I.free
 .obtain⟨y,o,ho,y⟩:=I.ok.hJ.mem hb;exact I.base.free b o ho (I.ok.frf b hb) λz=>I.ok.exfs b z hb
theorem Inv.step{g':Array ahR}{t':Nat}{d':Drawn}{ch:List ZX}(I:Inv X pins J H s)
 (jD:∀ b∈ch,(b∈X.ex∨X.s₀.heap.objs.size<=b)/\b≠X.env.locals/\(∀ x c,X.env.cells.lookup x=U c->c≠b)/\∀ p∈X.pn++pins,p.1≠b)
 (keep:∀ b o,b≠X.env.locals->b∉X.fs->b∉ch->s.heap.get? b=U o->H b=O->h'.get? b=U o)
 (slot:∀ b o,b≠X.env.locals->b∈X.fs->b∉ch->s.heap.get? b=U o->H b=O->∃ sl,h'.get? b=U { o with slots:=sl }) (free:∀ b o,b∉ch->s.heap.get? b=U o->H b=O->H' b=O)
 (there:∀ b o,b∉ch->s.heap.get? b=U o->∃ o',h'.get? b=U o')
 (gy:∀ b xs,H b=U (.tup xs)->H' b=U (.tup xs)) (fE:∀ b o u,H b=U (.aT o u)->H' b=U (.aT o u)) (gA:∀ b ps,H b=U (.tbl ps)->∃ more,H' b=U (.tbl (ps++more)))
 (ns:∀ m,s.heap.Ns X.env.locals m->h'.Ns X.env.locals m) (ak:bS X.prog X.w H' h') (hg:afR g') :
 Inv X pins J H' { s with heap:=h',gens:=g',drawn:=d',toks:=t' }:=by
 have oY:∀ b o,X.s₀.heap.get? b=U o->b≠X.env.locals:=λb o e=>ZY (Z9 (ZM e) I.ok.above);have uN:∀ b o,X.s₀.heap.get? b=U o->b∉X.ex->b∉ch:=λb o e hx hb=>by
  rcases (jD b hb).1 with z|z
  .exact hx z
  .exact absurd (Z9 (ZM e) z) (aa8 _)
 have cellK:∀ x c,X.env.cells.lookup x=U c->∀ v,s.heap.IsCell c v->h'.IsCell c v:=λx c e v ⟨o,ho,hd⟩=>by
  have lH:c∉ch:=λz=>(jD c z).2.2.1 x c e rfl;by_cases hc:c∈X.fs
  .obtain⟨sl,q⟩:=slot c o (I.m9 x c e) hc lH ho (I.hU x c e);exact#[_,q,hd]
  .exact#[o,keep c o (I.m9 x c e) hc lH ho (I.hU x c e),hd]
 refine#[I.ok,I.os,hg,#[λb o e n hb hx=>?_,λb o e n hb hx=>?_,λb o e n hx=>?_,λb o e hx=>?_,λb xs e=>gy b xs (I.base.gy b xs e),λb o xs e=>fE b o xs (I.base.fE b o xs e),λb ps e=>?_],?_,λx c e=>?_,?_,λx c e=>?_,λp hp=>?_,ak,I.len]
 .exact keep b o (oY b o e) hb (uN b o e hx) (I.base.keep b o e n hb hx) (I.base.free b o e n hx)
 .obtain⟨sl,e1⟩:=I.base.slot b o e n hb hx;obtain⟨fF,e2⟩:=slot b _ (oY b o e) hb (uN b o e hx) e1 (I.base.free b o e n hx);exact#[fF,e2]
 .obtain⟨o',e1⟩:=I.base.there b o e hx;exact free b o' (uN b o e hx) e1 (I.base.free b o e n hx)
 .obtain⟨o',e1⟩:=I.base.there b o e hx;exact there b o' (uN b o e hx) e1
 .obtain⟨m1,e1⟩:=I.base.gA b ps e;obtain⟨m2,e2⟩:=gA b _ e1;exact#[m1++m2,by rw[e2,agP]]
 .obtain⟨m,hn,hl⟩:=I.loc;refine#[m,ns m hn,λi x v e1 e2 e3=>?_];obtain⟨u,r,l⟩:=hl i x v e1 e2 e3;refine#[u,r,?_];rcases l with l|⟨k,c,e,z⟩
  .exact .inl l
  .exact .inr #[k,c,e,cellK x c e _ z]
 .obtain⟨v,z⟩:=I.cell x c e;exact#[v,cellK x c e v z]
 .obtain⟨m,⟨o,y,y,ho,y⟩,y⟩:=I.loc;exact free _ o (λz=>(jD _ z).2.1 rfl) ho I.free
 .obtain⟨v,o,ho,hd⟩:=I.cell x c e;exact free c o (λz=>(jD c z).2.2.1 x c e Y) ho (I.hU x c e)
 .obtain⟨e,n,ne,nf,d⟩:=I.pin p hp;have lH:p.1∉ch:=λz=>(jD p.1 z).2.2.2 p hp rfl;exact#[keep p.1 p.2 ne nf lH e n,free p.1 p.2 lH e n,ne,nf,d]
theorem Inv.un(I:Inv X pins J H s)(u:Un X.fs [] H H' s.heap h')(ak:bS X.prog X.w H' h'):Inv X pins J H' { s with heap:=h',toks:=t' }:=by
 obtain⟨m,⟨o,es,ep,ho,r⟩,y⟩:=id I.loc;obtain⟨sl,hL⟩:=u.any ho I.free (by simp);exact I.step (g':=s.gens) (d':=s.drawn) (ch:=[]) (λy z=>nomatch z) (λb o y hb y e n=>u.keep b o e n hb (by simp)) (λb o y hb y e n=>u.slot b o e n hb (by simp)) (λb o y e n=>u.free b o e n (by simp)) (λb o y e=>u.there b o e (by simp)) u.gy u.fE u.gA (λm' hm=>by
  obtain⟨o',es',hV,dk,r'⟩:=hm;rw[ho] at dk;cases dk;exact#[_,es',hV,hL,r']) ak I.bare
theorem Inv.call(I:Inv X pins J H s)(u:Un (a8 X.stack) ch H H' s.heap h')(ak:bS X.prog X.w H' h')(hg:afR g')(jD:∀ b∈ch,(b∈X.ex∨X.s₀.heap.objs.size<=b)/\b≠X.env.locals/\(∀ x c,X.env.cells.lookup x=U c->c≠b)/\∀ p∈X.pn++pins,p.1≠b) :
 Inv X pins J H' { s with heap:=h',gens:=g',drawn:=d',toks:=t' }:=by
 obtain⟨m,⟨o,es,ep,ho,r⟩,y⟩:=id I.loc;obtain⟨sl,hL⟩:=u.any ho I.free λz=>(jD _ z).2.1 rfl;exact I.step (ch:=ch) jD (λb o hL hb hc e n=>u.keep b o e n (λz=>(ZO.mp (I.nc b z)).elim hL hb) hc) (λb o y y hc e n=>u.any e n hc) (λb o hc e n=>u.free b o e n hc) (λb o hc e=>u.there b o e hc) u.gy u.fE u.gA (λm' hm=>by
  obtain⟨o',es',hV,dk,r'⟩:=hm;rw[ho] at dk;cases dk;exact#[_,es',hV,hL,r']) ak hg
theorem Inv.turned(I:Inv X pins J H s)(k:∀ b o,b≠it->s.heap.get? b=U o->h'.get? b=U o)(hn:H it=O)(hL:it≠X.env.locals)(h1:it∈X.ex∨X.s₀.heap.objs.size<=it)(h2:∀ x c,X.env.cells.lookup x=U c->c≠it)(h3:∀ p∈X.pn++pins,p.1≠it):Inv X pins J H { s with heap:=h',toks:=t' }:=by
 have DU:∀ b u,H b=U u->b≠it:=λb u e z=>by rw[z,hn] at e;cases e
 refine I.step (g':=s.gens) (d':=s.drawn) (ch:=[it]) (λb hb=>?_) (λb o y y hc e y=>k b o (λz=>hc (by simp[z])) e) (λb o y y hc e y=>#[o.slots,k b o (λz=>hc (by simp[z])) e]) (λy y y y n=>n)
  (λb o hc e=>#[o,k b o (λz=>hc (by simp[z])) e]) (λy y e=>e) (λy y y e=>e) (λb ps e=>#[(List.toArray []),by rw[e];simp]) (λm hm=>?_) (λb u e=>?_) I.bare
 .have e:b=it:=by simpa using hb
  subst e;exact#[h1,hL,h2,h3]
 .obtain⟨o,es,ep,ho,r⟩:=hm;exact#[o,es,ep,k _ o (aaQ hL) ho,r]
 .refine (I.ak b u e).g9 (λc v hc q=>k c v ?_ q) (λy q=>q) λy y q=>q;rcases hc with z|z
  .rw[z];exact DU b u e
  .exact DU c _ z
theorem Inv.tok(I:Inv X pins J H s)(t:Nat):Inv X pins J H { s with toks:=t }:=I.un (h':=s.heap) (t':=t) Un.refl I.ak
theorem Inv.kept(I:Inv X pins J H s)(k:∀ b u,s.heap.get? b=U u->h'.get? b=U u):Inv X pins J H { s with heap:=h',toks:=t' }:=I.un (Un.kept k) (I.ak.kept k)
theorem Inv.laid(I:Inv X pins J H s)(k:∀ b u,s.heap.get? b=U u->h'.get? b=U u)(hp:s.heap.objs.size<=a)(new:bE X.prog X.w (upd H a o) h' a o) :
 Inv X pins J (upd H a o) { s with heap:=h',toks:=t' }:=I.un (Un.laid k hp (I.ak.fresh hp)) (I.ak.laid k hp new)
theorem Inv.write(I:Inv X pins J H s)(mu:qG (H x))(he:e=x∨H e=U (.own x))(k:∀ b u,b≠e->s.heap.get? b=U u->h'.get? b=U u)(oX:∃ u,h'.get? e=U u)(new:bE X.prog X.w (upd H x o) h' x o):Inv X pins J (upd H x o) { s with heap:=h',toks:=t' }:=I.un (Un.write mu he k oX) (I.ak.write mu he k oX new)
theorem Inv.qI(I:Inv X pins J H s)(h:∀ p∈Mh,s.heap.get? p.1=U p.2/\H p.1=O/\p.1≠X.env.locals/\p.1∉X.fs/\∀ v,p.2.data ≠ .cell v):Inv X Mh J H s :=
 #[I.ok,I.os,I.bare,I.base,I.loc,I.cell,I.free,I.hU,λp hp=>(aaf.mp hp).elim (λz=>I.pin p (aa6 _ z)) (h p),I.ak,I.len]
theorem DV{N:List Str}(hN:N.Nodup){i j:Nat}{x:Str}(a:N[i]?=U x)(b:N[j]?=U x):i=j:=by obtain⟨h1,e1⟩:=ZL.mp a;obtain⟨h2,e2⟩:=ZL.mp b;exact (afx hN).mp (e1.trans e2.symm)
theorem Mi(I:Inv X pins J H s)(hN:X.N.Nodup)(hi:X.N[i]?=U x)(hx:Loc X.env.scope x)(r:RelV v u)(h:∀ s',Inv X pins (J.set i (U v)) H s'->(∃ a,Heap.SameBut a s.heap s'.heap/\(a=X.env.locals∨X.env.cells.lookup x=U a))->Q () s')(hf:X.fn x=true∨X.env.scope.names.lookup x=U .local:=by first|exact .inl rfl|exact .inr rfl|assumption):ZZ M A (storeName X.env x u) Q E s:=by
 obtain⟨m,hn,hl⟩:=id I.loc;have Mj:(X.env.scope.kind == .class || (X.env.scope.kind == .module && X.env.locals != X.env.globals))=false:=by rw[I.ok.kind];rfl
 have DW:i<J.length:=by rw[I.len];exact (ZL.mp hi).1
 have m9:=I.m9;have tracked:∀ {a:ZX} {h':acz},(∃ o,s.heap.get? a=U o/\H a=O)->Heap.SameBut a s.heap h'->bS X.prog X.w H h':=λ{a h'} ha hs b ob e=>by
  obtain⟨g,g,hfree⟩:=ha;refine (I.ak b ob e).g9 (λc w' hc q=>(hs.2 c ?_).trans q) (λg q=>q) λg g q=>q;rintro rfl;rcases hc with rfl|hc
  .rw[hfree] at e;cases e
  .rw[hfree] at hc;cases hc
 rcases hx with hk|hk
 .refine wpAny_storeName_local hk hn (λh' lJ hs=>?_) Mj;obtain⟨oL,g,g,Ml,g⟩:=id hn;refine h _ #[I.ok,I.os,I.bare,#[λb o e n hb hx=>?_,λb o e n hb hx=>?_,I.base.free,λb o e hx=>?_,I.base.gy,I.base.fE,I.base.gA],#[_,lJ,λj y v' e1 e2 e3=>?_],λy c e=>?_,I.free,I.hU,λp hp=>?_,tracked #[oL,Ml,I.free] hs,by simpa using I.len] #[_,hs,.inl rfl]
  .exact (hs.2 b (ZY (Z9 (ZM e) I.ok.above))).trans (I.base.keep b o e n hb hx)
  .obtain⟨sl,e1⟩:=I.base.slot b o e n hb hx;exact#[sl,(hs.2 b (ZY (Z9 (ZM e) I.ok.above))).trans e1]
  .obtain⟨o',e1⟩:=I.base.there b o e hx;exact#[o',(hs.2 b (ZY (Z9 (ZM e) I.ok.above))).trans e1]
  .by_cases hj:j=i
   .subst hj;rw[hi] at e1;cases e1;rw[afE DW] at e2;cases e2;exact#[u,r,.inl #[hk,by simp]]
   .rw[ago (aaQ hj)] at e2;obtain⟨u',r',q⟩:=hl j y v' e1 e2 e3;refine#[u',r',?_];rcases q with ⟨k,e⟩|⟨k,c,e,z⟩
    .refine .inl #[k,?_];have:y≠x:=λe=>hj (DV hN e1 (e ▸ hi));simp[this,e]
    .exact .inr #[k,c,e,z.sameBut hs (m9 y c e)]
  .obtain⟨w',z⟩:=I.cell y c e;exact#[w',z.sameBut hs (m9 y c e)]
  .obtain⟨e,n,ne,nf,d⟩:=I.pin p hp;exact#[(hs.2 p.1 ne).trans e,n,ne,nf,d]
 .have xM:X.fn x=true:=by
   rcases hf with z|z
   .exact z
   .rw[z] at hk;cases hk
  obtain⟨c,hc⟩:=I.ok.has x (.inl hk);obtain⟨w',z⟩:=I.cell x c hc;refine wpAny_storeName_cell I.ok.kind hk hc z (λh' kz hs=>?_);obtain⟨oc,hoc,hocd⟩:=id z;refine h { s with heap:=h' } #[I.ok,I.os,I.bare,#[λb o e n hb hx=>?_,λb o e n hb hx=>?_,I.base.free,λb o e hx=>?_,I.base.gy,I.base.fE,I.base.gA],#[m,hn.sameBut hs (aaQ (m9 x c hc)),λj y v' e1 e2 e3=>?_],λy c' e=>?_,I.free,I.hU,λp hp=>?_,tracked #[oc,hoc,I.hU x c hc] hs,by simpa using I.len] #[c,hs,.inr hc]
  .exact (hs.2 b (ZY (Z9 (ZM e) (I.ok.cab x c xM hc)))).trans (I.base.keep b o e n hb hx)
  .obtain⟨sl,e1⟩:=I.base.slot b o e n hb hx;exact#[sl,(hs.2 b (ZY (Z9 (ZM e) (I.ok.cab x c xM hc)))).trans e1]
  .obtain⟨o',e1⟩:=I.base.there b o e hx;exact#[o',(hs.2 b (ZY (Z9 (ZM e) (I.ok.cab x c xM hc)))).trans e1]
  .by_cases hj:j=i
   .subst hj;rw[hi] at e1;cases e1;rw[afE DW] at e2;cases e2;exact#[u,r,.inr #[.inl hk,c,hc,kz]]
   .rw[ago (aaQ hj)] at e2;obtain⟨u',r',q⟩:=hl j y v' e1 e2 e3;refine#[u',r',?_];rcases q with q|⟨k,c',e,z'⟩
    .exact .inl q
    .refine .inr #[k,c',e,z'.sameBut hs ?_];rintro rfl;exact hj (DV hN e1 (I.ok.inj _ _ _ e hc ▸ hi))
  .by_cases gB:c'=c
   .subst gB;exact#[_,kz]
   .obtain⟨w2,z2⟩:=I.cell y c' e;exact#[w2,z2.sameBut hs gB]
  .obtain⟨e,n,ne,nf,d⟩:=I.pin p hp;refine#[(hs.2 p.1 ?_).trans e,n,ne,nf,d];intro q;rw[q,hoc] at e;have q':oc=p.2:=Option.some.inj e;exact d w' (by rw[<- q'];exact hocd)
theorem DX(I:Inv X pins J H s)(hN:X.N.Nodup)(hi:X.N[i]?=U x)(hx:Loc X.env.scope x)(r:RelV v u)(h:∀ s',Inv X pins (J.set i (U v)) H s'->Q () s')(hf:X.fn x=true∨X.env.scope.names.lookup x=U .local:=by first|exact .inl rfl|exact .inr rfl|assumption):ZZ M A (storeName X.env x u) Q E s :=
 Mi I hN hi hx r (λs' I' y=>h s' I') hf
theorem Inv.Mm(I:Inv X pins J H s)(ho:s'.os=s.os)(u:Un (a8 X.stack) ch H H' s.heap s'.heap)(ak:bS X.prog X.w H' s'.heap)(hg:afR s'.gens)(jD:∀ b∈ch,(b∈X.ex∨X.s₀.heap.objs.size<=b)/\b≠X.env.locals/\(∀ x c,X.env.cells.lookup x=U c->c≠b)/\∀ p∈X.pn++pins,p.1≠b):Inv X pins J H' s':=by obtain⟨h',g',d',t',o'⟩:=s';have e:o'=s.os:=ho;subst e;exact I.call (g':=g') (t':=t') (d':=d') u ak hg jD
end
abbrev XK:=ZP->Option ZX->Hp->Prop
abbrev St:=List (Option V)
abbrev VK:=V->Hp->Prop
abbrev TE:=St->Hp->VK->Prop
abbrev TT:=St->Hp->(Bool->Hp->Prop)->Prop
abbrev TA:=St->Hp->(List V->Hp->Prop)->Prop
structure Ends where
 nx:St->Hp->Prop
 rt:VK
 bk:St->Hp->Prop:=λ_ _=>False
 ct:St->Hp->Prop:=λ_ _=>False
abbrev TS:=Ends->St->Hp->Prop
def EP(X:Cx)(pins:List (ZX × Obj))(J:St)(Q:VK)(u:ZP)(s':ZU):Prop:=∃ v H',Inv X pins J H' s'/\RelV v u/\Q v H'
def TP(X:Cx)(pins:List (ZX × Obj))(J:St)(Q:Bool->Hp->Prop)(b:Bool)(s':ZU):Prop:=∃ H',Inv X pins J H' s'/\Q b H'
def AP(X:Cx)(pins:List (ZX × Obj))(J:St)(Q:List V->Hp->Prop)(us:List ZP)(s':ZU):Prop:=∃ vs H',Inv X pins J H' s'/\Vals vs us/\Q vs H'
def SP(X:Cx)(pins:List (ZX × Obj))(D:Ends)(f:Flow)(s':ZU):Prop :=
 match f with
 | .next=>∃ σ' H',Inv X pins σ' H' s'/\D.nx σ' H'
 | .brk=>∃ σ' H',Inv X pins σ' H' s'/\D.bk σ' H'
 | .cont=>∃ σ' H',Inv X pins σ' H' s'/\D.ct σ' H'
 | .ret u=>∃ v σ' H',Inv X pins σ' H' s'/\RelV v u/\D.rt v H'
def PE(X:Cx)(e:ael)(t:TE):Prop :=
 ∀ (pins:List (ZX × Obj)) (s:ZU) (J:St) (H:Hp) (Q:VK),Inv X pins J H s->t J H Q->ZZ (model X.prog X.w) X.A (eval e X.env) (EP X pins J Q) X.xe s
def PT(X:Cx)(e:ael)(t:TT):Prop :=
 ∀ (pins:List (ZX × Obj)) (s:ZU) (J:St) (H:Hp) (Q:Bool->Hp->Prop),Inv X pins J H s->t J H Q->ZZ (model X.prog X.w) X.A (aiM e X.env (eval e X.env)) (TP X pins J Q) X.xe s
def PW(X:Cx)(e:ael)(t:TT):Prop :=
 ∀ (whole:Sem ZP) (pins:List (ZX × Obj)) (s:ZU) (J:St) (H:Hp) (Q:Bool->Hp->Prop),Inv X pins J H s->t J H Q->ZZ (model X.prog X.w) X.A (aiM e X.env whole) (TP X pins J Q) X.xe s
theorem PW.pt(h:PW X e t):PT X e t:=h _
def PA(X:Cx)(es:List ael)(t:TA):Prop :=
 ∀ (pos:Pos) (pins:List (ZX × Obj)) (s:ZU) (J:St) (H:Hp) (Q:List V->Hp->Prop),Inv X pins J H s->t J H Q->ZZ (model X.prog X.w) X.A (spliced (aca pos (aae es X.env))) (AP X pins J Q) X.xe s
def PS(X:Cx)(st:abX)(t:TS):Prop :=
 ∀ (pins:List (ZX × Obj)) (s:ZU) (J:St) (H:Hp) (D:Ends),Inv X pins J H s->t D J H->ZZ (model X.prog X.w) X.A (exec st X.env) (SP X pins D) X.xe s
def aX(X:Cx)(st:List abX)(t:TS):Prop :=
 ∀ (pins:List (ZX × Obj)) (s:ZU) (J:St) (H:Hp) (D:Ends),Inv X pins J H s->t D J H->ZZ (model X.prog X.w) X.A (execs st X.env) (SP X pins D) X.xe s
theorem az(h:ZZ M A t Q E s)(hQ:∀ a s,Q a s->Q' a s):ZZ M A t Q' E s:=aba h hQ λy y x=>x
section
variable{X:Cx}
def xN(i:Nat):TE:=λJ H Q=>∃ v,J[i]?=U (U v)/\Q v H
def tC(v:V):TE:=λy H Q=>Q v H
theorem Mn(hN:X.N[i]?=U x)(hv:uM X.env.scope x)(hd:(x == ("__debug__" : Str))=false:=by decide)(fG:(x == ("__classdict__" : Str))=false:=by decide):PE X (.Name x pos) (xN i):=by
 intro pins s J H Q I h;obtain⟨v,e,h⟩:=h;obtain⟨m,hn,hl⟩:=I.loc;obtain⟨u,r,l⟩:=hl i x v hN e hv;have fin:EP X pins J Q u s:=#[v,H,I,r,h]
 rcases l with ⟨hk,hm⟩|⟨hk,c,hc,qJ⟩
 .exact aiq (wpAny_loadName_local I.ok.kind hk hn hm fin) hd
 .rcases hk with hk|hk
  .exact aiq (wpAny_loadName_cell I.ok.kind hk hc qJ fin) hd
  .exact aiq (wpAny_loadName_free I.ok.kind hk hc qJ fin fG) hd
theorem af:PE X (.Constant (.int i) j pos) (tC (.int i)):=λy y y H y I h=>wpAny_Constant_int #[.int i,H,I.tok _,#[_,Y],h]
theorem dW:PE X (.Constant (.bool b) j pos) (tC (.bl b)):=λy y y H y I h=>Constant_bool #[.bl b,H,I,Y,h]
theorem bT:PE X (.Constant .none j pos) (tC .non):=λy y y H y I h=>agQ #[.non,H,I,Y,h]
theorem b8:PE X (.Constant (.str x) j pos) (tC (.str x)):=λy y y H y I h=>Calls.Constant_str #[.str x,H,I.tok _,#[_,Y],h]
def Gl(X:Cx)(x:Str):Prop:=X.env.kindOf x=U .globalImplicit
theorem uO(I:Inv X pins J H s)(hg:Gl X x)(hm:X.mg x=U u)(h:Q u s)(hd:(x == ("__debug__" : Str))=false:=by decide):ZZ (model X.prog X.w) X.A (eval (.Name x pos) X.env) Q E s :=
 aeJ I.ok.kind hg (Calls.loadGlobal_global (by rw[I.ok.glob];exact I.mod.glob.keeps I.bk) hm h) hd
theorem eB(I:Inv X pins J H s)(hg:Gl X x)(hm:X.mg x=O)(hv:aax x=U u)(h:Q u s)(hn:x ≠ "__name__" := by decide)(hd:(x == ("__debug__" : Str))=false:=by decide):ZZ (model X.prog X.w) X.A (eval (.Name x pos) X.env) Q E s:=by obtain⟨mb,h1,h2⟩:=I.mod.blt;exact aeJ I.ok.kind hg (Calls.loadGlobal_builtin (by rw[I.ok.glob];exact I.mod.glob.keeps I.bk) hm (by rw[I.ok.blt];exact h1.keeps I.bk) ((h2 x hn).trans hv) h) hd
theorem Mo(hg:Gl X x)(hm:X.mg x=U u)(r:RelV v u)(hd:(x == ("__debug__" : Str))=false:=by decide):PE X (.Name x pos) (tC v) :=
 λy y y H y I h=>uO I hg hm #[v,H,I,r,h] hd
theorem ng(hg:Gl X x)(hm:X.mg x=O)(hv:aax x=U u)(r:RelV v u)(hn:x ≠ "__name__" := by decide)(hd:(x == ("__debug__" : Str))=false:=by decide):PE X (.Name x pos) (tC v) :=
 λy y y H y I h=>eB I hg hm hv #[v,H,I,r,h] hn hd
variable{a b:ael}{ta tb:TE}{pos:Pos}
def PC(X:Cx)(op:CmpOp)(a b:ael)(t:TE):Prop :=
 ∀ (pins:List (ZX × Obj)) (s:ZU) (J:St) (H:Hp) (Q:VK),Inv X pins J H s->t J H Q ->
  ZZ (model X.prog X.w) X.A (eval a X.env) (λv s₁=>ZZ (model X.prog X.w) X.A (eval b X.env) (λu s₂=>ZZ (model X.prog X.w) X.A (abl op v u) (EP X pins J Q) X.xe s₂) X.xe s₁) X.xe s
theorem DY(b:ael)(h:op ≠ .In)(h2:op ≠ .NotIn):acu op b=false:=by
 have e1:(op == CmpOp.In)=false:=by cases op<;>first|rfl|exact absurd Y h
 have e2:(op == CmpOp.NotIn)=false:=by cases op<;>first|rfl|exact absurd Y h2
 cases b<;>simp[acu,e1,e2]
def DZ(ta:TE):TE:=λJ H Q=>ta J H λx H1=>Q (.bl (decide (x = .non))) H1
def D0(ta:TE):TE:=λJ H Q=>ta J H λx H1=>Q (.bl (!decide (x = .non))) H1
theorem RelV.D1(r:RelV x v):(v == Value.none)=decide (x = .non):=by
 cases x with
 | non=>cases r;rfl
 | bl _=>cases r;rfl
 | int _=>obtain⟨t,rfl⟩:=r;rfl
 | str _=>obtain⟨t,rfl⟩:=r;rfl
 | byt _=>obtain⟨t,rfl⟩:=r;rfl
 | flt _=>obtain⟨t,rfl⟩:=r;rfl
 | ref _=>cases r;rfl
 | ty _=>cases r;rfl
theorem uP(ha:PE X a ta):PC X .Is a (.Constant .none j pos') (DZ ta):=by intro pins s J H Q I h;refine az (ha pins s J H _ I h) λv s1 zq=>?_;obtain⟨x,H1,I1,r1,q1⟩:=zq;exact agQ (is_none_gen #[.bl _,H1,I1,by rw[r1.D1];rfl,q1])
theorem xO(ha:PE X a ta):PC X .IsNot a (.Constant .none j pos') (D0 ta):=by intro pins s J H Q I h;refine az (ha pins s J H _ I h) λv s1 zq=>?_;obtain⟨x,H1,I1,r1,q1⟩:=zq;exact agQ (isnot_none_gen #[.bl _,H1,I1,by rw[r1.D1];rfl,q1])
def tB(t:TE):TT:=λJ H Q=>t J H λx H1=>∃ c,x = .bl c/\Q c H1
theorem qK(h:PC X op a b t)(h1:acu op b=false:=by first|exact DY _ (by decide) (by decide)|rfl):PE X (.Compare a [op] [b] pos) t:=λpins s J H Q I hw=>wpAny_Compare1 (h pins s J H Q I hw) h1
theorem qL(h:PC X op a b t)(h1:acu op b=false:=by first|exact DY _ (by decide) (by decide)|rfl):PT X (.Compare a [op] [b] pos) (tB t):=by intro pins s J H Q I hw;refine afS (az (h pins s J H _ I hw) λv s1 h1=>az h1 λu s2 h2=>az h2 λc s3 zq=>?_) h1;obtain⟨x,H1,I1,r1,q1⟩:=zq;obtain⟨d,rfl,q⟩:=q1;cases r1;exact aaR #[H1,I1,q]
theorem Mp(h:PE X e t)(he:∀ whole,aiM e X.env whole=(do let v <- whole;aiz e.pos;holding [v] (truthy v)):=by intro y;rfl):PT X e (tB t):=by intro pins s J H Q I hw;refine isTrue_plain (az (h pins s J H _ I hw) λv s1 zq=>?_) (he _);obtain⟨x,H1,I1,r1,q1⟩:=zq;obtain⟨d,rfl,q⟩:=q1;cases r1;exact aaR #[H1,I1,q]
variable{tA uQ:TT}{rest:List ael}
def D2(t u:TT):TT:=λJ H Q=>t J H λc H1=>if c=true then u J H1 Q else Q false H1
def D3(t u:TT):TT:=λJ H Q=>t J H λc H1=>if c=true then Q true H1 else u J H1 Q
def D4(t:TT):TT:=λJ H Q=>t J H λc H1=>Q (!c) H1
theorem eR(ha:PT X a tA):PW X (.BoolOp .And [a] pos) tA:=by
 intro wh pins s J H Q I h;refine isTrue_and (az (ha pins s J H Q I h) λc s1 e=>?_);cases c with
 | true=>exact isTrue_and_nil e
 | false=>exact e
theorem dm(ha:PT X a tA):PW X (.BoolOp .Or [a] pos) tA:=by
 intro wh pins s J H Q I h;refine isTrue_or (az (ha pins s J H Q I h) λc s1 e=>?_);cases c with
 | false=>exact isTrue_or_nil e
 | true=>exact e
theorem dX(ha:PT X a tA)(hb:PW X (.BoolOp .And (b::rest) pos) uQ):PW X (.BoolOp .And (a::b::rest) pos) (D2 tA uQ):=by
 intro wh pins s J H Q I h;refine isTrue_and (az (ha pins s J H _ I h) λc s1 zq=>?_);obtain⟨H1,I1,q1⟩:=zq;cases c with
 | true=>exact hb wh pins s1 J H1 Q I1 q1
 | false=>exact#[H1,I1,q1]
theorem b9(ha:PT X a tA)(hb:PW X (.BoolOp .Or (b::rest) pos) uQ):PW X (.BoolOp .Or (a::b::rest) pos) (D3 tA uQ):=by
 intro wh pins s J H Q I h;refine isTrue_or (az (ha pins s J H _ I h) λc s1 zq=>?_);obtain⟨H1,I1,q1⟩:=zq;cases c with
 | true=>exact#[H1,I1,q1]
 | false=>exact hb wh pins s1 J H1 Q I1 q1
theorem c9(ha:PT X a tA):PT X (.UnaryOp .Not a pos) (D4 tA):=by intro pins s J H Q I h;exact isTrue_not (ha pins s J H (λc H1=>Q (!c) H1) I h)
def D5(ta tb:TE):TE:=λJ H Q=>ta J H λx H1=>∃ c,x = .bl c/\if c=true then tb J H1 Q else Q (.bl false) H1
def D6(ta tb:TE):TE:=λJ H Q=>ta J H λx H1=>∃ c,x = .bl c/\if c=true then Q (.bl true) H1 else tb J H1 Q
def D7(ta:TE):TE:=λJ H Q=>ta J H λx H1=>∃ c,x = .bl c/\Q (.bl (!c)) H1
theorem iV(h:PE X a t):PE X (.BoolOp op [a] pos) t:=λpins s J H Q I hw=>BoolOp_one (h pins s J H Q I hw)
theorem Mq(ha:PE X a ta)(hb:PE X (.BoolOp .And (b::rest) pos) tb):PE X (.BoolOp .And (a::b::rest) pos) (D5 ta tb):=by
 intro pins s J H Q I h;refine BoolOp_and (az (ha pins s J H _ I h) λv s1 zq=>?_);obtain⟨x,H1,I1,r1,q1⟩:=zq;obtain⟨c,rfl,q1⟩:=q1;cases r1;refine aaR ?_;cases c with
 | true=>exact hb pins s1 J H1 Q I1 q1
 | false=>exact#[.bl false,H1,I1,Y,q1]
theorem Mr(ha:PE X a ta)(hb:PE X (.BoolOp .Or (b::rest) pos) tb):PE X (.BoolOp .Or (a::b::rest) pos) (D6 ta tb):=by
 intro pins s J H Q I h;refine BoolOp_or (az (ha pins s J H _ I h) λv s1 zq=>?_);obtain⟨x,H1,I1,r1,q1⟩:=zq;obtain⟨c,rfl,q1⟩:=q1;cases r1;refine aaR ?_;cases c with
 | false=>exact hb pins s1 J H1 Q I1 q1
 | true=>exact#[.bl true,H1,I1,Y,q1]
theorem Ms(ha:PE X a ta):PE X (.UnaryOp .Not a pos) (D7 ta):=by intro pins s J H Q I h;refine UnaryOp_ (az (ha pins s J H _ I h) λv s1 zq=>?_);obtain⟨x,H1,I1,r1,q1⟩:=zq;obtain⟨c,rfl,q1⟩:=q1;cases r1;exact not_of (aaR #[.bl (!c),H1,I1,Y,q1])
def D8(t:TT)(ta tb:TE):TE:=λJ H Q=>t J H λc H1=>if c=true then ta J H1 Q else tb J H1 Q
theorem oZ(hc:PT X c tA)(ha:PE X a ta)(hb:PE X b tb):PE X (.IfExp c a b pos) (D8 tA ta tb):=by
 intro pins s J H Q I h;refine wpAny_IfExp (az (hc pins s J H _ I h) λd s1 zq=>?_);obtain⟨H1,I1,q1⟩:=zq;cases d with
 | true=>exact ha pins s1 J H1 Q I1 q1
 | false=>exact hb pins s1 J H1 Q I1 q1
end
def ah(K:ZF)(H:Hp)(a:ZX)(xs:List V):Prop :=
 Rd H a (.lst xs) ∨
  ∃ (o:Obj) (ai:Array ZP) (n:Nat),K.lookup a=U o/\o.cls = .type "list" /\ o.dict=O/\o.data = .seq ai n/\ai.size<=aah/\Vals xs ai.toList
def aw(K:ZF)(H:Hp)(a:ZX)(xs:List V):Prop :=
 Rd H a (.tup xs) ∨
  ∃ (o:Obj) (ai:Array ZP) (n:Nat),K.lookup a=U o/\o.cls = .type "tuple" /\ o.data = .seq ai n/\ai.size<=aah/\Vals xs ai.toList
noncomputable def Mt:ZP->Option V
 | .none=>U .non
 | .bool b=>U (.bl b)
 | .int i _=>U (.int i)
 | .str x _=>U (.str x)
 | .bytes b _=>U (.byt b)
 | .float b _=>U (.flt b)
 | .ref a=>U (.ref a)
 | .type n=>U (.ty n)
 | _=>O
theorem RelV.abs(r:RelV x u):Mt u=U x:=by
 cases x with
 | non=>cases r;rfl
 | bl _=>cases r;rfl
 | int _=>obtain⟨t,rfl⟩:=r;rfl
 | str _=>obtain⟨t,rfl⟩:=r;rfl
 | byt _=>obtain⟨t,rfl⟩:=r;rfl
 | flt _=>obtain⟨t,rfl⟩:=r;rfl
 | ref _=>cases r;rfl
 | ty _=>cases r;rfl
theorem RelV.inj(r:RelV x u)(q:RelV y u):x=y:=Option.some.inj (r.abs.symm.trans q.abs)
theorem Vals.inj:∀ {xs ys:List V} {us:List ZP},Vals xs us->Vals ys us->xs=ys:=by
 intro xs ys us h h'
 induction h generalizing ys with
 | nil=>cases h';rfl
 | cons r t ih =>
  cases h' with
  | cons r' t'=>rw[r.inj r',ih t']
section
theorem ah.of{K:ZF}(h:H a=U (.lst xs)):ah K H a xs:=.inl (.inl h)
theorem aw.of{K:ZF}(h:H a=U (.tup xs)):aw K H a xs:=.inl (.inl h)
theorem Inv.list(I:Inv X pins J H s)(h:ah X.K H a xs):∃ ai:List ZP,Vals xs ai/\PlainL s.heap a ai.toArray/\xs.length<=aah:=by
 rcases h with h|⟨o,ai,n,hk,hc,hd,hs,hz,r⟩
 .obtain⟨z,ai,n,r,e⟩:=h.ok I.ak;exact#[ai,r,#[_,n,e,Y,Y,Y],z]
 .refine#[ai.toList,r,#[o,n,I.cM a o hk,hc,hd,by simpa using hs],?_];have e:=r.length;simp only[acf] at e;omega
theorem Inv.tuple(I:Inv X pins J H s)(h:aw X.K H a xs):∃ ai:List ZP,Vals xs ai/\IsTup s.heap a ai.toArray/\xs.length<=aah:=by
 rcases h with h|⟨o,ai,n,hk,hc,hs,hz,r⟩
 .obtain⟨z,ai,r,p⟩:=h.ok I.ak;exact#[ai,r,p,z]
 .refine#[ai.toList,r,#[o,I.cM a o hk,hc,n,by simpa using hs],?_];have e:=r.length;simp only[acf] at e;omega
theorem Inv.qM(I:Inv X pins J H s)(h:ah X.K H a xs)(h':ah X.K H a ys):xs=ys:=by
 obtain⟨ai,r,⟨o,n,e,y,y,d⟩,y⟩:=I.list h;obtain⟨its',r',⟨o',n',e',y,y,d'⟩,y⟩:=I.list h';rw[e] at e';cases e';rw[d] at d';injection d' with d1 _;have:ai=its':=by simpa using congrArg ahp d1
 subst this;exact r.inj r'
theorem Inv.Mu(I:Inv X pins J H s)(h:aw X.K H a xs)(h':aw X.K H a ys):xs=ys:=by
 obtain⟨ai,r,⟨o,e,y,n,d⟩,y⟩:=I.tuple h;obtain⟨its',r',⟨o',e',y,n',d'⟩,y⟩:=I.tuple h';rw[e] at e';cases e';rw[d] at d';injection d' with d1 _;have:ai=its':=by simpa using congrArg ahp d1
 subst this;exact r.inj r'
end
noncomputable abbrev Cx.jE(X:Cx)(E:ZP->ZU->Prop):Cx:={ X with xe:=E }
noncomputable abbrev Cx.o4(X:Cx):Cx:=X.jE λy y=>False
theorem Cx.Ok.jE{X:Cx}(ok:X.Ok)(E:ZP->ZU->Prop):(X.jE E).Ok :=
 #[ok.mod,ok.kind,ok.glob,ok.blt,ok.above,ok.inj,ok.has,ok.cab,ok.hd,ok.frames,ok.stk,ok.exf,ok.bs,ok.bsz,ok.noex,ok.exfs,ok.hJ,ok.frf]
theorem Cx.Ok.lK{X:Cx}{E:ZP->ZU->Prop}(ok:(X.jE E).Ok):X.Ok :=
 #[ok.mod,ok.kind,ok.glob,ok.blt,ok.above,ok.inj,ok.has,ok.cab,ok.hd,ok.frames,ok.stk,ok.exf,ok.bs,ok.bsz,ok.noex,ok.exfs,ok.hJ,ok.frf]
section
theorem Inv.jE(I:Inv X pins J H s)(E:ZP->ZU->Prop):Inv (X.jE E) pins J H s:=#[I.ok.jE E,I.os,I.bare,I.base,I.loc,I.cell,I.free,I.hU,I.pin,I.ak,I.len]
theorem Inv.lK(I:Inv (X.jE E) pins J H s):Inv X pins J H s:=#[I.ok.lK,I.os,I.bare,I.base,I.loc,I.cell,I.free,I.hU,I.pin,I.ak,I.len]
theorem SP.lK(h:SP (X.jE E) pins D f s'):SP X pins D f s':=by
 cases f with
 | next=>obtain⟨σ',H',I,q⟩:=h;exact#[σ',H',I.lK,q]
 | brk=>obtain⟨σ',H',I,q⟩:=h;exact#[σ',H',I.lK,q]
 | cont=>obtain⟨σ',H',I,q⟩:=h;exact#[σ',H',I.lK,q]
 | ret u=>obtain⟨v,σ',H',I,r,q⟩:=h;exact#[v,σ',H',I.lK,r,q]
theorem aX.o4{st:List abX}{t:TS}(h:aX X.o4 st t):aX X st t:=λpins s J H D I hw =>
 aba (h pins s J H D (I.jE _) hw) (λy y q=>q.lK) λy y z=>acq z
end
section
variable{X:Cx}{st:abX}{rest:List abX}{t u:TS}{e:ael}{te:TE}{pos:Pos}
def D9:TS:=λD J H=>D.nx J H
def xP(t u:TS):TS:=λD J H=>t { D with nx:=u D } J H
theorem aK:aX X [] D9:=λy y J H y I h=>afT #[J,H,I,h]
theorem ao(h1:PS X st t)(h2:aX X rest u):aX X (st::rest) (xP t u):=by
 intro pins s J H D I h;refine ahv (az (h1 pins s J H { D with nx:=u D } I h) λf s1 q=>?_);cases f with
 | next =>
  obtain⟨σ',H',I',q⟩:=q;exact h2 pins s1 σ' H' D I' q
 | ret v=>exact q
 | brk=>exact q
 | cont=>exact q
theorem au(h1:PS X st t):aX X [st] t:=by
 intro pins s J H D I h;refine ahv (az (h1 pins s J H D I h) λf s1 q=>?_);cases f with
 | next=>exact afT q
 | ret v=>exact q
 | brk=>exact q
 | cont=>exact q
theorem Inv.quiet(I:Inv X pins J H s):interactive X.env=false:=by simp[interactive,I.ok.kind]
def Ea(te:TE):TS:=λD J H=>te J H λy H1=>D.nx J H1
theorem eS(he:PE X e te)(hs:aee e O pos.line X.env=pure false:=by rfl):PS X (.Expr e pos) (Ea te):=by intro pins s J H D I h;exact wpAny_Expr_any (az (he pins s J H _ I h) λv s1 ⟨x,H1,I1,r1,q1⟩=>#[J,H1,I1,q1]) I.quiet hs
def Eb(te:TE):TS:=λD J H=>te J H D.rt
theorem aB(he:PE X e te):PS X (.Return (U e) pos) (Eb te):=by intro pins s J H D I h;exact wpAny_Return_some (az (he pins s J H _ I h) λv s1 ⟨x,H1,I1,r1,q1⟩=>#[x,J,H1,I1,r1,q1])
def Ec(c:TT)(t u:TS):TS:=λD J H=>c J H λb H1=>if b=true then t D J H1 else u D J H1
theorem aJ(hc:PT X c tc)(ha:aX X a t)(hb:aX X b u):PS X (.If c a b pos) (Ec tc t u):=by
 intro pins s J H D I h;refine wpAny_If (az (hc pins s J H _ I h) λd s1 zq=>?_);obtain⟨H1,I1,q1⟩:=zq;cases d with
 | true=>exact ha pins s1 J H1 D I1 q1
 | false=>exact hb pins s1 J H1 D I1 q1
end
abbrev TG:=V->St->Hp->(St->Hp->Prop)->Prop
abbrev qN:=List V->St->Hp->(St->Hp->Prop)->Prop
def PG(X:Cx)(target:ael)(t:TG):Prop :=
 ∀ (pins:List (ZX × Obj)) (s:ZU) (J:St) (H:Hp) (v:V) (u:ZP) (Q:St->Hp->Prop),Inv X pins J H s->RelV v u->t v J H Q ->
  ZZ (model X.prog X.w) X.A (assign target X.env u) (λy s'=>∃ σ' H',Inv X pins σ' H' s'/\Q σ' H') X.xe s
def uR(X:Cx)(ts:List ael)(t:qN):Prop :=
 ∀ (pins:List (ZX × Obj)) (s:ZU) (J:St) (H:Hp) (vs:List V) (us:List ZP) (Q:St->Hp->Prop),Inv X pins J H s->Vals vs us->t vs J H Q ->
  ZZ (model X.prog X.w) X.A (assignInOrder ((ae3 ts X.env).map (·.2)) us) (λy s'=>∃ σ' H',Inv X pins σ' H' s'/\Q σ' H') X.xe s
abbrev Ed:=V->V->V->Hp->(Hp->Prop)->Prop
def Ee(X:Cx)(t:Ed):Prop :=
 ∀ (pins:List (ZX × Obj)) (s:ZU) (J:St) (H:Hp) (o i v:V) (ov iv u:ZP) (Q:Hp->Prop),Inv X pins J H s->RelV o ov->RelV i iv->RelV v u->t o i v H Q ->
  ZZ (model X.prog X.w) X.A (setItem ov iv u) (λy s'=>∃ H',Inv X pins J H' s'/\Q H') X.xe s
section
def bU(i:Nat):TG:=λv J H Q=>Q (J.set i (U v)) H
theorem eE(hN:X.N.Nodup)(hi:X.N[i]?=U x)(hx:Loc X.env.scope x)(hf:X.fn x=true∨X.env.scope.names.lookup x=U .local:=by first|exact .inl rfl|exact .inr rfl|assumption):PG X (.Name x pos) (bU i):=by intro pins s J H v u Q I r h;exact wpAny_assign_Name (DX I hN hi hx r (λs' I'=>#[_,H,I',h]) hf)
def ia:qN:=λvs J H Q=>vs=[]/\Q J H
def cA(t:TG)(u:qN):qN:=λvs J H Q=>∃ v r,vs=v::r/\t v J H λσ' H'=>u r σ' H' Q
theorem fH:uR X [] ia:=by intro pins s J H vs us Q I r h;obtain⟨e,h⟩:=h;subst e;cases r;exact assignInOrder_nil #[J,H,I,h]
theorem bK(h1:PG X e t)(h2:uR X es u)(hs:(ae3 (e::es) X.env).map (·.2)=assign e X.env::(ae3 es X.env).map (·.2):=by rfl):uR X (e::es) (cA t u):=by
 intro pins s J H vs us Q I r h;obtain⟨v,vr,e1,h⟩:=h;subst e1;cases r with
 | cons r rr =>
  rw[hs];refine assignInOrder_cons (az (h1 pins s J H _ _ _ I r h) λy s1 zq=>?_);obtain⟨σ1,H1,I1,q1⟩:=zq;exact h2 pins s1 σ1 H1 _ _ Q I1 rr q1
def iW(K:ZF)(n:Nat)(t:qN):TG:=λv J H Q=>∃ a xs,v = .ref a/\aw K H a xs/\xs.length=n/\t xs J H Q
theorem fI(hc:X.calm=true)(h:uR X es t)(hn:(ae3 es X.env).length=n:=by rfl)(bG:(ae3 es X.env).findIdx? (·.1)=O:=by rfl):PG X (.Tuple es k pos) (iW X.K n t):=by intro pins s J H v u Q I r hw;obtain⟨a,xs,e1,hq,hl,hw⟩:=hw;subst e1;cases r;obtain⟨ai,rv,ht,hz⟩:=I.tuple hq;refine assign_Tuple_tuple (I.ok.hd hc) ht (by simp[hn,<- hl,rv.length]) bG λh' hx=>?_;have I1:Inv X pins J H { s with heap:=h' }:=I.kept (t':=s.toks) λb o e=>hx b o (ZY (ZM e)) e;exact h pins _ J H xs _ Q I1 (by simpa using rv) hw
def Ef(to ti:TE)(t:Ed):TG:=λv J H Q=>to J H λo H1=>ti J H1 λi H2=>t o i v H2 λH3=>Q J H3
theorem xQ(ho:PE X o to)(hi:PE X i ti)(hs:Ee X t)(ha:∀ v,assign (.Subscript o i pos) X.env v=(do
 let ov <- holding [v] (eval o X.env);let iv <- holding [v,ov] (eval i X.env)
 aiz pos
 holding [v,ov,iv] (setItem ov iv v)
 release [v,ov,iv] []):=by intro z;rfl):PG X (.Subscript o i pos) (Ef to ti t):=by
 intro pins s J H v u Q I r h;rw[ha];refine ZE (aaB (az (ho pins s J H _ I h) λov s1 zq=>?_));obtain⟨x,H1,I1,r1,q1⟩:=zq;refine ZE (aaB (az (hi pins s1 J H1 _ I1 q1) λiv s2 zq=>?_));obtain⟨y,H2,I2,r2,q2⟩:=zq;refine ZE (agR (ZE (aaB (az (hs pins s2 J H2 x y v ov iv u _ I2 r1 r2 r q2) λz s3 zq=>?_))));obtain⟨H3,I3,q3⟩:=zq;exact wpAny_release #[J,H3,I3,q3]
def uS(te:TE)(g:TG):TS:=λD J H=>te J H λx H1=>g x J H1 D.nx
theorem uT(he:PE X e te)(hg:PG X tg g)(hs:swapsWithSole [tg] e pos.line X.env=pure false:=by rfl)(hw:swappedStores [tg] e X.env=pure O:=by rfl)(h1:(ae3 [tg] X.env).map (·.2)=[assign tg X.env]:=by rfl):PS X (.Assign [tg] e pos) (uS te g):=by intro pins s J H D I h;refine wpAny_Assign_stores (az (he pins s J H _ I h) λv s1 zq=>?_) hs hw;obtain⟨x,H1,I1,r1,q1⟩:=zq;rw[h1];exact az (hg pins s1 J H1 x v _ I1 r1 q1) λy s2 q=>q
theorem ib(hN:X.N.Nodup)(hi:X.N[i]?=U x)(hx:Loc X.env.scope x)(he:PE X e te)(hs:aee e (U (.Name x pos')) pos.line X.env=pure false:=by rfl)(hf:X.fn x=true∨X.env.scope.names.lookup x=U .local:=by first|exact .inl rfl|exact .inr rfl|assumption) :
 PS X (.Assign [.Name x pos'] e pos) (uS te (bU i)):=by
 intro pins s J H D I h;refine wpAny_Assign_Name (az (he pins s J H _ I h) λv s1 zq=>?_) hs;obtain⟨y,H1,I1,r1,q1⟩:=zq;exact DX I1 hN hi hx r1 (λs2 I2=>#[_,H1,I2,q1]) hf
end
structure It where
 go:Nat->Hp->Prop
 yld:Nat->Hp->V->Hp->Prop
 stop:Nat->Hp->Prop
def de(X:Cx)(pins:List (ZX × Obj))(H:Hp)(b:ZX):Prop :=
 H b=O/\b≠X.env.locals/\b∉X.fs/\(b∈X.ex∨X.s₀.heap.objs.size<=b)/\(∀ x c,X.env.cells.lookup x=U c->c≠b)/\∀ p∈X.pn++pins,p.1≠b
theorem Inv.ic(I:Inv X pins J H s)(hb:s.heap.objs.size<=b)(hn:H' b=O):de X pins H' b:=by
 refine#[hn,aaX (Z9 I.lt hb),I.DT hb,.inr (ZQ I.sz hb),λx c e z=>?_,λp hp z=>?_]
 .obtain⟨v,q⟩:=I.cell x c e;exact absurd (Z9 q.lt (by rw[z];exact hb)) (aa8 _)
 .exact absurd (Z9 (ZM (I.pin p hp).1) (by rw[z];exact hb)) (aa8 _)
structure Turn(P:aaE)(w:abb)(K:ZF)(tg:ael)(J9q:It)(fp:List ZX)(it:ZX)(tn:Nat->acz->Prop):Prop where
 mem:it∈fp
 obj:∀ i h,tn i h->∀ b∈fp,∃ o,h.get? b=U o/\∀ v,o.data ≠ .cell v
 keep:∀ i h h',tn i h->(∀ b∈fp,∀ o,h.get? b=U o->h'.get? b=U o)->tn i h'
 item:∀ (X:Cx),X.prog=P->X.w=w->X.K=K->X.calm=true->∀ (i:Nat) (pins:List (ZX × Obj)) (s:ZU) (J:St) (H:Hp) (E:ZP->ZU->Prop),Inv X pins J H s->(∀ b∈fp,de X pins H b)->tn i s.heap->J9q.go i H ->
  ZZ (model P w) X.A (acQ (.ref it)) (λr s1=>∃ u,r=U u /\
   ZZ (model P w) X.A (aex tg (.ref it) u) (λ_ s2=>∃ x H',Inv X pins J H' s2/\RelV x u/\J9q.yld i H x H'/\tn (i+1) s2.heap/\∀ b∈fp,H' b=O) E s1) E s
 done:∀ (X:Cx),X.prog=P->X.w=w->X.K=K->X.calm=true->∀ (i:Nat) (pins:List (ZX × Obj)) (s:ZU) (J:St) (H:Hp) (E:ZP->ZU->Prop),Inv X pins J H s->(∀ b∈fp,de X pins H b)->tn i s.heap->J9q.stop i H ->
  ZZ (model P w) X.A (acQ (.ref it)) (λr s1=>r=O/\Inv X pins J H s1) E s
 self:∀ (A:abI) (i:Nat) (s:ZU) (Q:ZP->ZU->Prop) (E:ZP->ZU->Prop),tn i s.heap->Q (.ref it) s->ZZ (model P w) A (air (.ref it)) Q E s
abbrev TI:=St->Hp->(It->Hp->Prop)->Prop
def Eg(X:Cx)(pins:List (ZX × Obj))(J:St)(tg:ael)(R:It->Hp->Prop)(qO:ZP)(s2:ZU):Prop :=
 ∃ (it:ZX) (fp:List ZX) (tn:Nat->acz->Prop) (J9q:It) (H':Hp),qO = .ref it/\Inv X pins J H' s2/\Turn X.prog X.w X.K tg J9q fp it tn/\tn 0 s2.heap/\(∀ b∈fp,de X pins H' b)/\R J9q H'
def PI(X:Cx)(tg iter:ael)(wi:TI):Prop :=
 ∀ (pins:List (ZX × Obj)) (s:ZU) (J:St) (H:Hp) (R:It->Hp->Prop),Inv X pins J H s->wi J H R ->
  ZZ (model X.prog X.w) X.A (eval iter X.env) (λv s1=>ZZ (model X.prog X.w) X.A (air v) (Eg X pins J tg R) X.xe s1) X.xe s
theorem o5(ho:s.heap.get? it=U o)(hc:o.cls = .type n)(hd:o.data = .fields vs)(hn:["enumerate","zip","dict_itemiterator","dict_reverseitemiterator","odict_iterator","itertools.zip_longest","itertools.pairwise"].contains n=false)(hQ:Q () s):ZZ M A (aex tg (.ref it) u) Q E s:=by
 unfold aex;cases tg<;>first
  | exact ZI hQ
  | (cases u<;>first
      | exact ZI hQ
      | (refine ZE (wpAny_load ho ?_)
         rw[hc,hd];show ZZ M A (if (["enumerate","zip","dict_itemiterator","dict_reverseitemiterator","odict_iterator","itertools.zip_longest","itertools.pairwise"].contains n && vs[0]? == U (adL _))=true then _ else _) Q E s;rw[if_neg (by intro h;rw[hn,aea] at h;cases h)];exact ZI hQ))
noncomputable def iX(K:ZF)(a:ZX):It :=
 #[λi H=>∃ xs x,ah K H a xs/\xs[i]?=U x,λi H x H'=>H'=H/\∀ xs,ah K H a xs->xs[i]?=U x,λi H=>∃ xs,ah K H a xs/\xs.length<=i]
noncomputable def qP(K:ZF)(a:ZX):It :=
 #[λi H=>∃ xs x,aw K H a xs/\xs[i]?=U x,λi H x H'=>H'=H/\∀ xs,aw K H a xs->xs[i]?=U x,λi H=>∃ xs,aw K H a xs/\xs.length<=i]
noncomputable def iY(lo:Int)(n:Nat):It:=#[λi y=>i<n,λi H x H'=>H'=H/\x = .int (lo+i),λi y=>n<=i]
theorem Mv{P:aaE}{w:abb}{K:ZF}{tg:ael}(a it:ZX):Turn P w K tg (iX K a) [it] it (λi h=>h.IsListIter it a i) where
 mem:=by simp
 obj:=λi h st b hb=>by
  have e:b=it:=by simpa using hb
  subst e;obtain⟨o,e,c,d⟩:=st;exact#[o,e,λv z=>by rw[d] at z;cases z]
 keep:=λi h h' st k=>st.at λo e=>k it (by simp) o e
 item:=by intro X hP hw hK hc i pins s J H E I hf st hg;subst hP hw hK;obtain⟨xs,x,hq,hx⟩:=hg;obtain⟨ai,rv,p,hz⟩:=I.list hq;obtain⟨u,hu,ru⟩:=rv.get hx;obtain⟨f0,f1,f2,f3,f4,f5⟩:=hf it (by simp);refine wpAny_pyNext_list_item st p.isList (x:=u) (by simpa using hu) λh' cB sb=>?_;have I1:Inv X pins J H { s with heap:=h' }:=I.turned (t':=s.toks) (λb o hb e=>(sb.2 b hb).trans e) f0 f1 f3 f4 f5;obtain⟨o,e,c,d⟩:=id cB;exact#[u,Y,o5 (s:={ s with heap:=h' }) e c d (by decide) #[x,H,I1,ru,#[Y,λys hy=>by rw[I.qM hy hq];exact hx],cB,λb hb=>(hf b hb).1]]
 done:=by
  intro X hP hw hK hc i pins s J H E I hf st hg;subst hP hw hK;obtain⟨xs,hq,hx⟩:=hg;obtain⟨ai,rv,p,hz⟩:=I.list hq;obtain⟨f0,f1,f2,f3,f4,f5⟩:=hf it (by simp);have hl:=rv.length;exact wpAny_pyNext_list_end (I.ok.hd hc) st p.isList (by simp;omega) λh' eb=>#[Y,I.turned (t':=s.toks) (λb o hb e=>eb b o hb e) f0 f1 f3 f4 f5]
 self:=λy y y y y st h=>wpAny_pyIter_listiter st h
theorem Mw{P:aaE}{w:abb}{K:ZF}{tg:ael}(a it:ZX):Turn P w K tg (qP K a) [it] it (λi h=>h.IsTupleIter it a i) where
 mem:=by simp
 obj:=λi h st b hb=>by
  have e:b=it:=by simpa using hb
  subst e;obtain⟨o,e,c,d⟩:=st;exact#[o,e,λv z=>by rw[d] at z;cases z]
 keep:=λi h h' st k=>st.at λo e=>k it (by simp) o e
 item:=by intro X hP hw hK hc i pins s J H E I hf st hg;subst hP hw hK;obtain⟨xs,x,hq,hx⟩:=hg;obtain⟨ai,rv,p,hz⟩:=I.tuple hq;obtain⟨u,hu,ru⟩:=rv.get hx;obtain⟨f0,f1,f2,f3,f4,f5⟩:=hf it (by simp);refine wpAny_pyNext_tuple_item st (show s.heap.IsTuple a ai.toArray from p) (x:=u) (by simpa using hu) λh' cB sb=>?_;have I1:Inv X pins J H { s with heap:=h' }:=I.turned (t':=s.toks) (λb o hb e=>(sb.2 b hb).trans e) f0 f1 f3 f4 f5;obtain⟨o,e,c,d⟩:=id cB;exact#[u,Y,o5 (s:={ s with heap:=h' }) e c d (by decide) #[x,H,I1,ru,#[Y,λys hy=>by rw[I.Mu hy hq];exact hx],cB,λb hb=>(hf b hb).1]]
 done:=by
  intro X hP hw hK hc i pins s J H E I hf st hg;subst hP hw hK;obtain⟨xs,hq,hx⟩:=hg;obtain⟨ai,rv,p,hz⟩:=I.tuple hq;obtain⟨f0,f1,f2,f3,f4,f5⟩:=hf it (by simp);have hl:=rv.length;exact wpAny_pyNext_tuple_end (I.ok.hd hc) st (show s.heap.IsTuple a ai.toArray from p) (by simp;omega) λh' eb=>#[Y,I.turned (t':=s.toks) (λb o hb e=>eb b o hb e) f0 f1 f3 f4 f5]
 self:=λy y y y y st h=>wpAny_pyIter_tupleiter st h
theorem Mx{P:aaE}{w:abb}{K:ZF}{tg:ael}(it:ZX)(lo:Int)(n:Nat):Turn P w K tg (iY lo n) [it] it (λi h=>agG h it (lo+(i:Nat) * 1) ((n:Int)-(i:Nat)) 1) where
 mem:=by simp
 obj:=λi h st b hb=>by
  have e:b=it:=by simpa using hb
  subst e;exact#[_,st,λv z=>by
   have z':Data.fields _=Data.cell v:=z;cases z']
 keep:=λi h h' st k=>k it (by simp) _ st
 item:=by intro X hP hw hK hc i pins s J H E I hf st hg;subst hP hw hK;obtain⟨f0,f1,f2,f3,f4,f5⟩:=hf it (by simp);have W:=Walks.range (prog:=X.prog) (w:=X.w) (I.ok.hd hc) it lo 1 n;refine W.item i s _ _ hg st λv h' tk hv cB kk=>?_;obtain⟨t,rfl⟩:=hv;have I1:Inv X pins J H { s with heap:=h',toks:=tk }:=I.turned (λb o hb e=>kk b o (by simpa using hb) e) f0 f1 f3 f4 f5;refine#[_,Y,o5 (s:={ s with heap:=h',toks:=tk }) (n := "range_iterator") cB Y Y (by decide) #[.int (lo+i),H,I1,#[t,?_],#[Y,Y],cB,λb hb=>(hf b hb).1]];rw[Int.mul_one]
 done:=by
  intro X hP hw hK hc i pins s J H E I hf st hg;subst hP hw hK;obtain⟨f0,f1,f2,f3,f4,f5⟩:=hf it (by simp);exact afF (I.ok.hd hc) st (by have:n<=i:=hg;omega) λh' eb=>#[Y,I.turned (t':=s.toks) (λb o hb e=>eb b o hb e) f0 f1 f3 f4 f5]
 self:=λy y y y y st h=>afG st h
section
def uU(K:ZF)(tl:TE):TI:=λJ H R=>tl J H λx H1=>∃ a,x = .ref a/\(∃ xs,ah K H1 a xs)/\R (iX K a) H1
def xR(K:ZF)(tl:TE):TI:=λJ H R=>tl J H λx H1=>∃ a,x = .ref a/\(∃ xs,aw K H1 a xs)/\R (qP K a) H1
theorem df(hl:PE X l tl):PI X tg l (uU X.K tl):=by
 intro pins s J H R I h;refine az (hl pins s J H _ I h) λv s1 zq=>?_;obtain⟨x,H1,I1,r1,q1⟩:=zq;obtain⟨a,e,⟨xs,hq⟩,q⟩:=q1;subst e;cases r1;obtain⟨ai,rv,p,hz⟩:=I1.list hq;refine acE p.isList ?_;refine#[s1.heap.objs.size,[s1.heap.objs.size],_,_,H1,Y,I1.kept (t':=s1.toks) λb o e=>ZH _ e,Mv a _,#[_,ZR _ Y,Y,Y],λb hb=>?_,q];have e:b=s1.heap.objs.size:=by simpa using hb
 subst e;exact I1.ic (ZS _) (I1.ak.fresh (ZS _))
theorem xS(hl:PE X l tl):PI X tg l (xR X.K tl):=by
 intro pins s J H R I h;refine az (hl pins s J H _ I h) λv s1 zq=>?_;obtain⟨x,H1,I1,r1,q1⟩:=zq;obtain⟨a,e,⟨xs,hq⟩,q⟩:=q1;subst e;cases r1;obtain⟨ai,rv,p,hz⟩:=I1.tuple hq;refine agS (show s1.heap.IsTuple a ai.toArray from p) ?_;refine#[s1.heap.objs.size,[s1.heap.objs.size],_,_,H1,Y,I1.kept (t':=s1.toks) λb o e=>ZH _ e,Mw a _,#[_,ZR _ Y,Y,Y],λb hb=>?_,q];have e:b=s1.heap.objs.size:=by simpa using hb
 subst e;exact I1.ic (ZS _) (I1.ak.fresh (ZS _))
theorem Eh{pins:List (ZX × Obj)}{J:St}{H:Hp}{s:ZU}{R:It->Hp->Prop}{E:ZP->ZU->Prop}{lo hi:Int}{t u v:Tok}{tk:Nat}(I:Inv X pins J H s)(h1 : -(2 ^ 62)<=lo)(h2:lo<2 ^ 62)(h3 : -(2 ^ 62)<=hi)(h4:hi<2 ^ 62)
 (q:R (iY lo (hi-lo).toNat) H):ZZ (model X.prog X.w) X.A (air (.ref s.heap.objs.size)) (Eg X pins J tg R) E { s with heap:=s.heap.push { cls:=.type "range",data:=.fields (List.toArray [.int lo t,.int hi u,.int 1 v]) },toks:=tk }:=by
 refine agT (IsRange.new ..) (small_one h1 h2 h3 h4) ?_;have I1:Inv X pins J H { s with heap:=s.heap.push { cls:=.type "range",data:=.fields (List.toArray [.int lo t,.int hi u,.int 1 v]) },toks:=tk }:=I.kept λb o e=>ZH _ e;refine#[(s.heap.push { cls:=.type "range",data:=.fields (List.toArray [.int lo t,.int hi u,.int 1 v]) }).objs.size,[(s.heap.push { cls:=.type "range",data:=.fields (List.toArray [.int lo t,.int hi u,.int 1 v]) }).objs.size],_,_,H,Y,
  I1.kept (t':=tk) λb o e=>ZH _ e,Mx _ lo (hi-lo).toNat,?_,λb hb=>?_,q]
 .have e1:lo+((0:Nat):Int) * 1=lo:=by simp
  have e2:(((hi-lo).toNat:Nat):Int)-((0:Nat):Int)=aaV lo hi 1:=by rw[rangeSize_one];split<;>omega
  show agG _ _ (lo+((0:Nat):Int) * 1) ((((hi-lo).toNat:Nat):Int)-((0:Nat):Int)) 1;rw[e1,e2];exact ZR _ rfl
 .have e:b=(s.heap.push { cls:=.type "range",data:=.fields (List.toArray [.int lo t,.int hi u,.int 1 v]) }).objs.size:=by simpa using hb
  subst e;exact I1.ic (ZS _) (I1.ak.fresh (ZS _))
def xT(ta:TA):TI:=λJ H R=>ta J H λvs H1=>∃ j:Int,vs=[.int j]/\-(2 ^ 62)<=j/\j<2 ^ 62/\R (iY 0 j.toNat) H1
def xU(ta:TA):TI:=λJ H R=>ta J H λvs H1=>∃ i j:Int,vs=[.int i,.int j]/\(-(2 ^ 62)<=i/\i<2 ^ 62/\-(2 ^ 62)<=j/\j<2 ^ 62)/\R (iY i (j-i).toNat) H1
theorem gC(hg:Gl X "range")(hm:X.mg "range" = O)(ha:PA X [a] ta)(hs:aae [a] X.env=[(false,eval a X.env)]:=by rfl):PI X tg (.Call (.Name "range" p) [a] [] pos) (xT ta):=by
 intro pins s J H R I h;refine ai1 (eB I hg hm ais (aaq (az (ha pos pins s J H _ I h) λus s1 zq=>?_) hs Y));obtain⟨vs,H1,I1,r1,q1⟩:=zq;obtain⟨j,e,q1,q2,q⟩:=q1;subst e;cases r1 with
 | cons r rr =>
  cases rr;obtain⟨t,rfl⟩:=r;exact call_range_1 (Eh I1 (by omega) (by omega) q1 q2 (by simpa using q))
theorem My(hg:Gl X "range")(hm:X.mg "range" = O)(ha:PA X [a,b] ta)(hs:aae [a,b] X.env=[(false,eval a X.env),(false,eval b X.env)]:=by rfl)(bV:aae [b] X.env=[(false,eval b X.env)]:=by rfl) :
 PI X tg (.Call (.Name "range" p) [a,b] [] pos) (xU ta):=by
 intro pins s J H R I h;refine ai1 (eB I hg hm ais (aaq (az (ha pos pins s J H _ I h) λus s1 ⟨vs,H1,I1,r1,q1⟩=>?_) (by rw[hs,bV]) (by rw[bV];rfl)));obtain⟨i,j,e,⟨q1,q2,q3,q4⟩,q⟩:=q1;subst e;cases r1 with
 | cons r rr =>
  cases rr with
  | cons r' rr =>
   cases rr;obtain⟨t,rfl⟩:=r;obtain⟨t',rfl⟩:=r';exact call_range_2 (Eh I1 q1 q2 q3 q4 q)
def jF(wi:TI)(g:TG)(tb:TS):TS:=λD J H=>wi J H λJ9q H1=>∃ W:Nat->Nat->St->Hp->Prop,(∃ m,W 0 m J H1)/\∀ i m J H,W i m J H ->
 (J9q.stop i H/\D.nx J H)∨(J9q.go i H/\∃ N:St->Hp->Prop,(∀ σ' H',N σ' H'->∃ m',m'<m/\W (i+1) m' σ' H')/\∀ x H',J9q.yld i H x H'->g x J H' λσ2 H2=>tb { D with nx:=N,ct:=N,bk:=D.nx } σ2 H2)
noncomputable def qQ(fp:List ZX)(h:acz):List (ZX × Obj):=fp.filterMap λb=>(h.get? b).map λo=>(b,o)
theorem uV(hb:b∈fp)(e:h.get? b=U o):(b,o)∈qQ fp h:=adR.mpr #[b,hb,by rw[e];rfl]
theorem Mz(hp:p∈qQ fp h):p.1∈fp/\h.get? p.1=U p.2:=by
 obtain⟨b,hb,e⟩:=adR.mp hp;cases q:h.get? b with
 | none=>rw[q] at e;cases e
 | some o =>
  rw[q] at e;have e':(b,o)=p:=Option.some.inj e;subst e';exact#[hb,q]
theorem Inv.pinned(I:Inv X pins J H s)(hf:∀ b∈fp,de X pins H b)(ho:∀ b∈fp,∃ o,s.heap.get? b=U o/\∀ v,o.data ≠ .cell v):Inv X (pins++qQ fp s.heap) J H s :=
 I.qI λp hp=>(aaf.mp hp).elim (λz=>I.pin p (aaa _ z)) λz=>by obtain⟨hb,e⟩:=Mz z;obtain⟨f0,f1,f2,y⟩:=hf p.1 hb;obtain⟨o,e',d⟩:=ho p.1 hb;rw[e] at e';cases e';exact#[e,f0,f1,f2,d]
theorem Inv.uW(I:Inv X (pins++pl) J H s):Inv X pins J H s:=I.qI λp hp=>I.pin p (aaa _ (aa6 _ hp))
theorem dq(hp:PassesOwn (model X.prog X.w) X.A X.env X.xe)(hc:X.calm=true)(hi:PI X tg iter wi)(hg:PG X tg g)(hb:aX X body tb)(hs:∀ x,abR iter X.env x=pure x:=by intro _;rfl):PS X (.For tg iter body [] pos) (jF wi g tb):=by
 intro pins s J H D I h;refine wpAny_For (az (hi pins s J H _ I h) λv s1 h1=>az h1 λqO s2 h2=>?_) hs;obtain⟨it,fp,tn,J9q,H2,e,I2,T,eF,f2,W,⟨m0,w0⟩,turn⟩:=h2;subst e;have xV:∀ {H':Hp},(∀ b∈fp,H' b=O)->∀ b∈fp,de X pins H' b:=λhn b hb=>#[hn b hb,(f2 b hb).2]
 refine codeAny_forLoop_any (λn s'=>∃ i σ' H',Inv X pins σ' H' s'/\tn i s'.heap/\(∀ b∈fp,H' b=O)/\W i n σ' H') ?_ m0 #[0,J,H2,I2,eF,λb hb=>(f2 b hb).1,w0];rintro n s3 ⟨i,σ3,H3,I3,qR,qS,w3⟩;rcases turn i n σ3 H3 w3 with ⟨stop,qn⟩|⟨go,N,hN,step⟩
 .refine adS hp (az (T.done X Y Y Y hc i pins s3 σ3 H3 X.xe I3 (xV qS) qR stop) λr s4 zq=>?_);obtain⟨hr,I4⟩:=zq;subst hr;exact afT #[σ3,H3,I4,qn]
 .refine adS hp (az (T.item X Y Y Y hc i pins s3 σ3 H3 X.xe I3 (xV qS) qR go) λr s4 zq=>?_);obtain⟨u,hr,h4⟩:=zq;subst hr;refine adS hp (az h4 λ_ s5 zq=>?_);obtain⟨x,H5,I5,r5,y5,nh,xW⟩:=zq;have xX:=I5.pinned (xV xW) (T.obj _ _ nh);refine adS hp (az (hg _ s5 σ3 H5 x u _ xX r5 (step x H5 y5)) λ_ s6 zq=>?_);obtain⟨σ6,H6,I6,q6⟩:=zq;refine adS hp (az (hb _ s6 σ6 H6 _ I6 q6) λf s7 q7=>?_);have again:∀ {σ7:St} {H7:Hp},Inv X (pins++qQ fp s5.heap) σ7 H7 s7->N σ7 H7->∃ m,m<n/\∃ i σ' H',Inv X pins σ' H' s7/\tn i s7.heap/\(∀ b∈fp,H' b=O)/\W i m σ' H':=λ{σ7 H7} I7 n7=>by obtain⟨m',hm,w7⟩:=hN σ7 H7 n7;refine#[m',hm,i+1,σ7,H7,I7.uW,T.keep _ _ _ nh λb hb o e=>(I7.pin (b,o) (aaa _ (aaa _ (uV hb e)))).1,λb hb=>?_,w7];obtain⟨o,e,d⟩:=T.obj _ _ nh b hb;exact (I7.pin (b,o) (aaa _ (aaa _ (uV hb e)))).2.1
  cases f with
  | next=>obtain⟨σ7,H7,I7,n7⟩:=q7;exact again I7 n7
  | cont=>obtain⟨σ7,H7,I7,n7⟩:=q7;exact again I7 n7
  | brk=>obtain⟨σ7,H7,I7,q7⟩:=q7;exact#[σ7,H7,I7.uW,q7]
  | ret v=>obtain⟨x7,σ7,H7,I7,r7,q7⟩:=q7;exact#[x7,σ7,H7,I7.uW,r7,q7]
end
theorem MA{K:ZF}{a:ZX}{xs:List V}{g:TG}{tb:TS}{D:Ends}{J:St}{H:Hp}(Pv:Nat->St->Hp->Prop)(h0:Pv 0 J H)(hl:∀ i J H,i<=xs.length->Pv i J H->ah K H a xs)
 (hs:∀ i x J H,xs[i]?=U x->Pv i J H->g x J H λσ2 H2=>tb { D with nx:=Pv (i+1),ct:=Pv (i+1),bk:=D.nx } σ2 H2) (hd:∀ J H,Pv xs.length J H->D.nx J H) :
 ∃ W:Nat->Nat->St->Hp->Prop,(∃ m,W 0 m J H)/\∀ i m J H,W i m J H ->
  ((iX K a).stop i H/\D.nx J H)∨((iX K a).go i H/\∃ N:St->Hp->Prop,(∀ σ' H',N σ' H'->∃ m',m'<m/\W (i+1) m' σ' H')/\∀ x H',(iX K a).yld i H x H'->g x J H' λσ2 H2=>tb { D with nx:=N,ct:=N,bk:=D.nx } σ2 H2):=by
 refine#[λi m J H=>m=xs.length-i/\i<=xs.length/\Pv i J H,#[xs.length,by simp,Z3 _,h0],?_];rintro i m J H ⟨rfl,hi,p⟩;have q:=hl i J H hi p;by_cases aL:i<xs.length
 .refine .inr #[#[xs,xs[i],q,by simp[aL]],Pv (i+1),λσ' H' p'=>#[xs.length-(i+1),by omega,Y,aL,p'],λx H' y=>?_];obtain⟨e,y⟩:=y;subst e;exact hs i x J _ (y xs q) p
 .have e:i=xs.length:=by omega
  subst e;exact .inl #[#[xs,q,ZS _],hd J H p]
theorem MB{lo:Int}{n:Nat}{g:TG}{tb:TS}{D:Ends}{J:St}{H:Hp}(Pv:Nat->St->Hp->Prop)(h0:Pv 0 J H)
 (hs:∀ i J H,i<n->Pv i J H->g (.int (lo+i)) J H λσ2 H2=>tb { D with nx:=Pv (i+1),ct:=Pv (i+1),bk:=D.nx } σ2 H2) (hd:∀ J H,Pv n J H->D.nx J H) :
 ∃ W:Nat->Nat->St->Hp->Prop,(∃ m,W 0 m J H)/\∀ i m J H,W i m J H ->
  ((iY lo n).stop i H/\D.nx J H)∨((iY lo n).go i H/\∃ N:St->Hp->Prop,(∀ σ' H',N σ' H'->∃ m',m'<m/\W (i+1) m' σ' H')/\∀ x H',(iY lo n).yld i H x H'->g x J H' λσ2 H2=>tb { D with nx:=N,ct:=N,bk:=D.nx } σ2 H2):=by
 refine#[λi m J H=>m=n-i/\i<=n/\Pv i J H,#[n,by simp,Z3 _,h0],?_];rintro i m J H ⟨rfl,hi,p⟩;by_cases aL:i<n
 .refine .inr #[aL,Pv (i+1),λσ' H' p'=>#[n-(i+1),by omega,Y,aL,p'],λx H' y=>?_];obtain⟨e,y⟩:=y;subst e y;exact hs i J _ aL p
 .have e:i=n:=by omega
  subst e;exact .inl #[ZS _,hd J H p]
abbrev R2:=V->V->Hp->VK->Prop
def bo(X:Cx)(f:ZP->ZP->Sem ZP)(r:R2):Prop :=
 ∀ (pins:List (ZX × Obj)) (s:ZU) (J:St) (H:Hp) (x y:V) (v u:ZP) (Q:VK),Inv X pins J H s->RelV x v->RelV y u->r x y H Q ->
  ZZ (model X.prog X.w) X.A (f v u) (EP X pins J Q) X.xe s
def o6(X:Cx)(f:ZP->Sem ZP)(r:V->Hp->VK->Prop):Prop :=
 ∀ (pins:List (ZX × Obj)) (s:ZU) (J:St) (H:Hp) (x:V) (v:ZP) (Q:VK),Inv X pins J H s->RelV x v->r x H Q ->
  ZZ (model X.prog X.w) X.A (f v) (EP X pins J Q) X.xe s
def eT(X:Cx)(f:ZP)(r:List V->Hp->VK->Prop):Prop :=
 ∀ (pins:List (ZX × Obj)) (s:ZU) (J:St) (H:Hp) (xs:List V) (us:List ZP) (Q:VK),Inv X pins J H s->Vals xs us->r xs H Q ->
  ZZ (model X.prog X.w) X.A (call f us) (EP X pins J Q) X.xe s
def ni(r:R2)(ta tb:TE):TE:=λJ H Q=>ta J H λx H1=>tb J H1 λy H2=>r x y H2 Q
def Ei(r:V->Hp->VK->Prop)(ta:TE):TE:=λJ H Q=>ta J H λx H1=>r x H1 Q
def rI(C:Int->Int->Prop)(g:Int->Int->V):R2:=λx y H Q=>∃ i j,x = .int i/\y = .int j/\C i j/\Q (g i j) H
def gD(g:Int->Int->V):R2:=λx y H Q=>∃ i j,x = .int i/\y = .int j/\Q (g i j) H
def rU(g:Int->V):V->Hp->VK->Prop:=λx H Q=>∃ i,x = .int i/\Q (g i) H
section
theorem xY(ha:PE X a ta)(hb:PE X b tb){pins:List (ZX × Obj)}{s:ZU}{J:St}{H:Hp}{R:V->V->Hp->Prop}(I:Inv X pins J H s)
 (h:ta J H λx H1=>tb J H1 λy H2=>R x y H2) {Q:ZP->ZU->Prop} {f:ZP->ZP->Sem ZP}
 (hf:∀ v u s2 x y H2,Inv X pins J H2 s2->RelV x v->RelV y u->R x y H2->ZZ (model X.prog X.w) X.A (f v u) Q X.xe s2) :
 ZZ (model X.prog X.w) X.A (eval a X.env) (λv s₁=>ZZ (model X.prog X.w) X.A (eval b X.env) (λu s₂=>ZZ (model X.prog X.w) X.A (f v u) Q X.xe s₂) X.xe s₁) X.xe s:=by
 refine az (ha pins s J H _ I h) λv s1 zq=>?_;obtain⟨x,H1,I1,r1,q1⟩:=zq;refine az (hb pins s1 J H1 _ I1 q1) λu s2 zq=>?_;obtain⟨y,H2,I2,r2,q2⟩:=zq;exact hf v u s2 x y H2 I2 r1 r2 q2
theorem aC(ho:bo X (adz op) r)(ha:PE X a ta)(hb:PE X b tb):PE X (.BinOp a op b pos) (ni r ta tb):=by intro pins s J H Q I h;exact wpAny_BinOp (xY ha hb I h λv u s2 x y H2 I2 rx ry q=>ho pins s2 J H2 x y v u Q I2 rx ry q)
theorem ie(ho:o6 X (unaryOp op) r)(ha:PE X a ta):PE X (.UnaryOp op a pos) (Ei r ta):=by intro pins s J H Q I h;exact UnaryOp_ (az (ha pins s J H _ I h) λv s1 ⟨x,H1,I1,r1,q1⟩=>ho pins s1 J H1 x v Q I1 r1 q1)
theorem uX{f:ZP->ZP->Sem ZP}{C:Int->Int->Prop}{g:Int->Int->Int}
 (rule:∀ (i j:Int) (t u:Tok) (s:ZU) (Q:ZP->ZU->Prop) (E:ZP->ZU->Prop),C i j->Q (.int (g i j) s.toks) { s with toks:=s.toks+1 }->ZZ (model X.prog X.w) X.A (f (.int i t) (.int j u)) Q E s) :
 bo X f (rI C λi j=>.int (g i j)):=by
 intro pins s J H x y v u Q I rx ry h;obtain⟨i,j,rfl,rfl,hc,q⟩:=h;obtain⟨t,rfl⟩:=rx;obtain⟨t',rfl⟩:=ry;exact rule i j t t' s _ _ hc #[.int (g i j),H,I.tok _,#[_,Y],q]
theorem Ej{f:ZP->ZP->Sem ZP}{g:Int->Int->Int}
 (rule:∀ (i j:Int) (t u:Tok) (s:ZU) (Q:ZP->ZU->Prop) (E:ZP->ZU->Prop),Q (.int (g i j) s.toks) { s with toks:=s.toks+1 }->ZZ (model X.prog X.w) X.A (f (.int i t) (.int j u)) Q E s) :
 bo X f (gD λi j=>.int (g i j)):=by
 intro pins s J H x y v u Q I rx ry h;obtain⟨i,j,rfl,rfl,q⟩:=h;obtain⟨t,rfl⟩:=rx;obtain⟨t',rfl⟩:=ry;exact rule i j t t' s _ _ #[.int (g i j),H,I.tok _,#[_,Y],q]
theorem xZ{f:ZP->ZP->Sem ZP}{g:Int->Int->Bool}
 (rule:∀ (i j:Int) (t u:Tok) (s:ZU) (Q:ZP->ZU->Prop) (E:ZP->ZU->Prop),Q (.bool (g i j)) s->ZZ (model X.prog X.w) X.A (f (.int i t) (.int j u)) Q E s) :
 bo X f (gD λi j=>.bl (g i j)):=by
 intro pins s J H x y v u Q I rx ry h;obtain⟨i,j,rfl,rfl,q⟩:=h;obtain⟨t,rfl⟩:=rx;obtain⟨t',rfl⟩:=ry;exact rule i j t t' s _ _ #[.bl (g i j),H,I,Y,q]
def MC(i j:Int):Prop:=0<=j/\j<=1000000/\i.natAbs<2 ^ 64
theorem MD:bo X (adz .Add) (gD λi j=>.int (i+j)):=Ej λy y y y y y y q=>add_int q
theorem ME:bo X (adz .Sub) (gD λi j=>.int (i-j)):=Ej λy y y y y y y q=>sub_int q
theorem MF:bo X (adz .Mod) (rI (λy j=>0<j) λi j=>.int (i % j)):=uX λi j y y y y y hc q=>by have h1:(0:Int)<j:=hc;exact mod_int' (by omega) (by rw[Int.fmod_eq_emod_of_nonneg i (by omega)];exact q)
theorem qT:bo X (adz .Pow) (rI MC λi j=>.int (i ^ j.toNat)):=uX λy y y y y y y hc q=>pow_int_small hc.1 hc.2.1 hc.2.2 q
theorem MG{f:ZP->Sem ZP}{g:Int->Int}
 (rule:∀ (i:Int) (t:Tok) (s:ZU) (Q:ZP->ZU->Prop) (E:ZP->ZU->Prop),Q (.int (g i) s.toks) { s with toks:=s.toks+1 }->ZZ (model X.prog X.w) X.A (f (.int i t)) Q E s) :
 o6 X f (rU λi=>.int (g i)):=by
 intro pins s J H x v Q I rx h;obtain⟨i,rfl,q⟩:=h;obtain⟨t,rfl⟩:=rx;exact rule i t s _ _ #[.int (g i),H,I.tok _,#[_,Y],q]
theorem MH:o6 X (unaryOp .USub) (rU λi=>.int (-i)):=MG λy y y y y q=>neg_int q
end
noncomputable def kA:V->V->Bool
 | .non,.non=>true|.non,.int _=>true|.int _,.non=>true|.non,.bl _=>true|.bl _,.non=>true|.non,.str _=>true|.str _,.non=>true
 | .int _,.int _=>true|.bl _,.bl _=>true|.str _,.str _=>true|.byt _,.byt _=>true
 | .int _,.str _=>true|.str _,.int _=>true|.bl _,.str _=>true|.str _,.bl _=>true
 | _,_=>false
def Ek:R2:=λx y H Q=>kA x y=true/\Q (.bl (decide (x=y))) H
def El:R2:=λx y H Q=>kA x y=true/\Q (.bl (!decide (x=y))) H
theorem Em:decide (V.int i=V.int j)=(i == j):=by rw[ac8];simp
theorem Eo:decide (V.bl i=V.bl j)=(i == j):=by rw[ac8];simp
theorem Ep:decide (V.str i=V.str j)=(i == j):=by rw[ac8];simp
theorem Er:decide (V.byt i=V.byt j)=(i.toList == j.toList):=by rw[ac8];cases i;cases j;simp
section
theorem cb(I:Inv X pins J H s)(q:Q (.bl k) H)(e:k=k'):EP X pins J Q (.bool k') s:=by subst e;exact#[.bl k,H,I,Y,q]
theorem qU:bo X (abl .Eq) Ek:=by
 intro pins s J H x y v u Q I rx ry h;obtain⟨hs,q⟩:=h;cases x with
 | non =>
  cases rx;cases y with
  | non=>cases ry;exact PySem.EqNone.eq_none_none (cb I q (by simp))
  | bl j=>cases ry;exact PySem.EqNone.eq_none_bool (cb I q (by simp))
  | int j=>obtain⟨t',rfl⟩:=ry;exact PySem.EqNone.eq_none_int (cb I q (by simp))
  | str j=>obtain⟨t',rfl⟩:=ry;exact PySem.EqNone.eq_none_str (cb I q (by simp))
  | _=>exact absurd (show false=true from hs) aag
 | bl i =>
  cases rx;cases y with
  | non=>cases ry;exact PySem.EqNone.eq_bool_none (cb I q (by simp))
  | bl j=>cases ry;exact eq_bool (cb I q Eo)
  | str j=>obtain⟨t',rfl⟩:=ry;exact PySem.EqMixed.eq_bool_str (cb I q (by simp))
  | _=>exact absurd (show false=true from hs) aag
 | int i =>
  obtain⟨t,rfl⟩:=rx;cases y with
  | non=>cases ry;exact PySem.EqNone.eq_int_none (cb I q (by simp))
  | int j=>obtain⟨t',rfl⟩:=ry;exact eq_int (cb I q Em)
  | str j=>obtain⟨t',rfl⟩:=ry;exact PySem.EqMixed.eq_int_str (cb I q (by simp))
  | _=>exact absurd (show false=true from hs) aag
 | str i =>
  obtain⟨t,rfl⟩:=rx;cases y with
  | non=>cases ry;exact PySem.EqNone.eq_str_none (cb I q (by simp))
  | bl j=>cases ry;exact PySem.EqMixed.eq_str_bool (cb I q (by simp))
  | int j=>obtain⟨t',rfl⟩:=ry;exact PySem.EqMixed.eq_str_int (cb I q (by simp))
  | str j=>obtain⟨t',rfl⟩:=ry;exact eq_str (cb I q Ep)
  | _=>exact absurd (show false=true from hs) aag
 | byt i =>
  obtain⟨t,rfl⟩:=rx;cases y with
  | byt j=>obtain⟨t',rfl⟩:=ry;exact PySem.W.eq_bytes (cb I q Er)
  | _=>exact absurd (show false=true from hs) aag
 | _=>cases y<;>exact absurd (show false=true from hs) aag
theorem MI:bo X (abl .NotEq) El:=by
 intro pins s J H x y v u Q I rx ry h;obtain⟨hs,q⟩:=h;cases x with
 | non =>
  cases rx;cases y with
  | non=>cases ry;exact PySem.EqNone.ne_none_none (cb I q (by simp))
  | bl j=>cases ry;exact PySem.EqNone.ne_none_bool (cb I q (by simp))
  | int j=>obtain⟨t',rfl⟩:=ry;exact PySem.EqNone.ne_none_int (cb I q (by simp))
  | str j=>obtain⟨t',rfl⟩:=ry;exact PySem.EqNone.ne_none_str (cb I q (by simp))
  | _=>exact absurd (show false=true from hs) aag
 | bl i =>
  cases rx;cases y with
  | non=>cases ry;exact PySem.EqNone.ne_bool_none (cb I q (by simp))
  | bl j=>cases ry;exact ne_bool (cb I q (congrArg not Eo))
  | str j=>obtain⟨t',rfl⟩:=ry;exact PySem.EqMixed.ne_bool_str (cb I q (by simp))
  | _=>exact absurd (show false=true from hs) aag
 | int i =>
  obtain⟨t,rfl⟩:=rx;cases y with
  | non=>cases ry;exact PySem.EqNone.ne_int_none (cb I q (by simp))
  | int j=>obtain⟨t',rfl⟩:=ry;exact ne_int (cb I q (congrArg not Em))
  | str j=>obtain⟨t',rfl⟩:=ry;exact PySem.EqMixed.ne_int_str (cb I q (by simp))
  | _=>exact absurd (show false=true from hs) aag
 | str i =>
  obtain⟨t,rfl⟩:=rx;cases y with
  | non=>cases ry;exact PySem.EqNone.ne_str_none (cb I q (by simp))
  | bl j=>cases ry;exact PySem.EqMixed.ne_str_bool (cb I q (by simp))
  | int j=>obtain⟨t',rfl⟩:=ry;exact PySem.EqMixed.ne_str_int (cb I q (by simp))
  | str j=>obtain⟨t',rfl⟩:=ry;exact ne_str (cb I q (congrArg not Ep))
  | _=>exact absurd (show false=true from hs) aag
 | byt i =>
  obtain⟨t,rfl⟩:=rx;cases y with
  | byt j=>obtain⟨t',rfl⟩:=ry;exact PySem.W.ne_bytes (cb I q (congrArg not Er))
  | _=>exact absurd (show false=true from hs) aag
 | _=>cases y<;>exact absurd (show false=true from hs) aag
theorem qV:bo X (abl .Lt) (gD λi j=>.bl (decide (i<j))):=xZ λy y y y y y y q=>lt_int q
theorem gE:bo X (abl .LtE) (gD λi j=>.bl (decide (i<=j))):=xZ λy y y y y y y q=>le_int q
theorem uY:bo X (abl .Gt) (gD λi j=>.bl (decide (j<i))):=xZ λy y y y y y y q=>gt_int q
theorem ff(b:ael)(h:op ≠ .In:=by decide)(h2:op ≠ .NotIn:=by decide):acu op b=false:=by
 have e1:(op == CmpOp.In)=false:=by cases op<;>first|rfl|exact absurd Y h
 have e2:(op == CmpOp.NotIn)=false:=by cases op<;>first|rfl|exact absurd Y h2
 cases b<;>simp[acu,e1,e2]
theorem ig(ho:bo X (abl op) r)(ha:PE X a ta)(hb:PE X b tb)(hm:acu op b=false):PE X (.Compare a [op] [b] pos) (ni r ta tb):=by intro pins s J H Q I h;exact wpAny_Compare1 (xY ha hb I h λv u s2 x y H2 I2 rx ry q=>ho pins s2 J H2 x y v u Q I2 rx ry q) hm
def x4(t:TE):TT:=λJ H Q=>t J H λx H'=>∃ k,x = .bl k/\Q k H'
theorem iZ(ho:bo X (abl op) r)(ha:PE X a ta)(hb:PE X b tb)(hm:acu op b=false):PT X (.Compare a [op] [b] pos) (x4 (ni r ta tb)):=by
 intro pins s J H Q I h;refine afS (az (ha pins s J H _ I h) λv s1 ⟨x,H1,I1,r1,q1⟩=>az (hb pins s1 J H1 _ I1 q1) λu s2 ⟨y,H2,I2,r2,q2⟩ =>
  az (ho pins s2 J H2 x y v u _ I2 r1 r2 q2) λc s3 ⟨z,H3,I3,r3,k,e,q3⟩=>?_) hm
 subst e;cases r3;exact aaR #[H3,I3,q3]
def x5(r r':R2)(ta tb tc:TE):TE:=λJ H Q=>ta J H λx H1=>tb J H1 λy H2=>r x y H2 λz H3=>∃ k,z = .bl k /\
 (if k=true then tc J H3 λw' H4=>r' y w' H4 Q else Q (.bl false) H3)
theorem x6(ho:bo X (abl op) r)(dk:bo X (abl kB) r')(ha:PE X a ta)(hb:PE X b tb)(hc:PE X c tc)(hm:aiN [op,kB] [b,c]=false:=by with_unfolding_all rfl):PE X (.Compare a [op,kB] [b,c] pos) (x5 r r' ta tb tc):=by
 intro pins s J H Q I h;refine Compare_chain (az (ha pins s J H _ I h) λv s1 ⟨x,H1,I1,r1,q1⟩=>chain_link (az (hb pins s1 J H1 _ I1 q1) λu s2 ⟨y,H2,I2,r2,q2⟩ =>
  az (ho pins s2 J H2 x y v u _ I2 r1 r2 q2) λd s3 ⟨z,H3,I3,r3,k,e,q3⟩=>?_)) hm
 subst e;cases r3;refine aaR ?_;cases k with
 | false=>exact ite_ff #[.bl false,H3,I3,Y,q3]
 | true=>exact ite_tt (chain_last (az (hc pins s3 J H3 _ I3 q3) λw' s4 ⟨z',H4,I4,r4,q4⟩=>dk pins s4 J H4 y z' u w' Q I4 r2 r4 q4))
theorem MJ(ho:bo X (abl op) r)(dk:bo X (abl kB) r')(ha:PE X a ta)(hb:PE X b tb)(hc:PE X c tc)(hm:aiN [op,kB] [b,c]=false:=by with_unfolding_all rfl):PT X (.Compare a [op,kB] [b,c] pos) (x4 (x5 r r' ta tb tc)):=by
 intro pins s J H Q I h;refine isTrue_chain (az (ha pins s J H _ I h) λv s1 ⟨x,H1,I1,r1,q1⟩=>test_link (az (hb pins s1 J H1 _ I1 q1) λu s2 ⟨y,H2,I2,r2,q2⟩ =>
  az (ho pins s2 J H2 x y v u _ I2 r1 r2 q2) λd s3 ⟨z,H3,I3,r3,k,e,q3⟩=>?_)) hm
 subst e;cases r3;refine aaR ?_;cases k with
 | false =>
  obtain⟨k',e',q'⟩:=q3;cases e';exact ite_ff #[H3,I3,q']
 | true =>
  refine ite_tt (test_last (az (hc pins s3 J H3 _ I3 q3) λw' s4 ⟨z',H4,I4,r4,q4⟩=>az (dk pins s4 J H4 y z' u w' _ I4 r2 r4 q4) λd' s5 zq=>?_));obtain⟨z2,H5,I5,r5,k2,e2,q5⟩:=zq;subst e2;cases r5;exact aaR #[H5,I5,q5]
theorem o7:(aah:Nat)<2 ^ 63:=by rw[acg];decide
theorem vals1(r:Vals [x] us):∃ u,us=[u]/\RelV x u:=by
 cases r with
 | cons r1 r2=>cases r2;exact#[_,Y,r1]
theorem vals2(r:Vals [x,y] us):∃ u w',us=[u,w']/\RelV x u/\RelV y w':=by
 cases r with
 | cons r1 r2 =>
  cases r2 with
  | cons r3 r4=>cases r4;exact#[_,_,Y,r1,r3]
theorem Es(hc:X.calm=true):eT X (.builtin "max") (λxs H Q=>∃ i j,xs=[.int i,.int j]/\Q (.int (if j > i then j else i)) H):=by
 intro pins s J H xs us Q I r h;obtain⟨i,j,rfl,q⟩:=h;obtain⟨u,w',rfl,⟨t,rfl⟩,⟨t',rfl⟩⟩:=vals2 r;refine max_two_ints (I.ok.hd hc) λh' tk k=>#[_,H,I.kept k,?_,q]
 by_cases hj:j > i
 .rw[if_pos hj,if_pos hj];exact#[_,Y]
 .rw[if_neg hj,if_neg hj];exact#[_,Y]
theorem qW(hc:X.calm=true):eT X (.builtin "min") (λxs H Q=>∃ i j,xs=[.int i,.int j]/\Q (.int (if j<i then j else i)) H):=by
 intro pins s J H xs us Q I r h;obtain⟨i,j,rfl,q⟩:=h;obtain⟨u,w',rfl,⟨t,rfl⟩,⟨t',rfl⟩⟩:=vals2 r;refine min_two_ints (I.ok.hd hc) λh' tk k=>#[_,H,I.kept k,?_,q]
 by_cases hj:j<i
 .rw[if_pos hj,if_pos hj];exact#[_,Y]
 .rw[if_neg hj,if_neg hj];exact#[_,Y]
def uZ(K:ZF)(x:V)(H:Hp)(n:Nat):Prop :=
 match x with
 | .str y=>y.length<=aah/\n=y.length
 | .byt y=>y.size<=aah/\n=y.size
 | .ref p=>(∃ xs,ah K H p xs/\n=xs.length) ∨ ∃ xs,aw K H p xs/\n=xs.length
 | _=>False
theorem dg:eT X (.builtin "len") (λxs H Q=>∃ x n,xs=[x]/\uZ X.K x H n/\Q (.int n) H):=by
 intro pins s J H xs us Q I r h;obtain⟨x,n,rfl,e,q⟩:=h;obtain⟨u,rfl,rx⟩:=vals1 r;have hl:=o7;have hs:aah=16777216:=acg;cases x with
 | str y =>
  obtain⟨t,rfl⟩:=rx;obtain⟨hy,e'⟩:y.length<=aah/\n=y.length:=e;subst e';exact len_str (by omega) #[.int _,H,I.tok _,#[_,Y],q]
 | byt y =>
  obtain⟨t,rfl⟩:=rx;obtain⟨hy,e'⟩:y.size<=aah/\n=y.size:=e;subst e';exact PySem.W.len_bytes (by omega) #[.int _,H,I.tok _,#[_,Y],q]
 | ref p =>
  cases rx;have e':(∃ xs,ah X.K H p xs/\n=xs.length) ∨ ∃ xs,aw X.K H p xs/\n=xs.length:=e;rcases e' with ⟨xs,hx,e'⟩|⟨xs,hx,e'⟩
  .subst e';obtain⟨ai,r',pl,hz⟩:=I.list hx;have hlen:=r'.length;exact agH pl.isList (by simp only[ZW];omega) #[.int xs.length,H,I.tok _,#[_,by simp only[ZW];rw[hlen]],q]
  .subst e';obtain⟨ai,r',pl,hz⟩:=I.tuple hx;have hlen:=r'.length;exact len_tuple pl (by simp only[ZW];omega) #[.int xs.length,H,I.tok _,#[_,by simp only[ZW];rw[hlen]],q]
 | _=>exact (show False from e).elim
end
structure nj(h:acz)(x dx C:ZX)(mA:Str->Option ZP):Prop where
 obj:h.get? x=U (ace C dx)
 ns:h.Ns1 dx mA
 ne:dx≠x
theorem MK{h:acz}{dx:ZX}{mA:Str->Option ZP}(n:h.Ns1 dx mA):∃ od,h.get? dx=U od/\∀ name,aeT name od=U (mA name):=by
 obtain⟨o,es,ep,ho,hd,hk,_,hm⟩:=n;refine#[o,ho,λname=>?_];have e:=hm name;unfold nsFind findBy at e;rw[<- Array.find?_toList] at e;unfold aeT;rw[hd];dsimp only;split
 .rename_i y q;rw[q] at e;exact congrArg U e
 .rename_i q;rw[q] at e;have a:es.toList.any (·.refKey)=false:=by rw[ad5];intro y hy;obtain⟨z,t,eG⟩:=hk y (ado.mp hy);simp[DictEntry.refKey,eG]
  have a':¬ es.toList.any (·.refKey)=true:=by rw[a];exact aag
  rw[if_neg a'];exact congrArg U e
theorem nj.look(I:nj h x dx C mA):∃ od,PySem.W.InstAt h x (ace C dx) C (U od)/\∀ name,aeT name od=U (mA name) :=
 let ⟨od,ho,hl⟩:=MK I.ns
 #[od,#[I.obj,Y,Y,ho],hl]
section
variable{prog:aaE}{w:abb}{A:abI}{E:ZP->ZU->Prop}{s:ZU}{K:ZF}{x dx C f:ZX}{mA:Str->Option ZP}{name:Str}{v:ZP}
theorem get_map{expr:Bool}{Q:ZP->ZU->Prop}(X:K.In s.heap)(I:nj s.heap x dx C mA)(hg:aen K C name=true)(hh:ae4 K C=true)
 (ha:aaT K (.ref C) name=U O) (hv:mA name=U v) (ML:ahw v=true) (h:Q v { s with toks:=s.toks+1 }) :
 ZZ (model prog w) A (getAttr (.ref x) name expr) Q E s:=by
 obtain⟨od,J9q,hl⟩:=I.look;exact PySem.W.get_value X J9q (aey hg).1 (PySem.W.findObj_own hh ha Y (by rw[hl,hv])) ML h
theorem MM{pl:Sem Bool}{Q:ZP × List ZP->ZU->Prop}(X:K.In s.heap)(I:nj s.heap x dx C mA)(hg:aen K C name=true)
 (hf:aaT K (.ref C) name=U (U (.ref f))) (ht:afU K (.ref f)=true) (hv:mA name=O) (h:Q (.ref f,[.ref x]) s) :
 ZZ (model prog w) A (ahX (.ref x) name pl) Q E s:=by
 obtain⟨od,J9q,hl⟩:=I.look;exact PySem.W.method_fn X J9q (aey hg).1 (aey hg).2 hf (beq_iff_eq.mp ht) (by show (aeT name od).map (·.isSome)=U false;rw[hl,hv];rfl) h
theorem MN{ns:List Str}{Q:Unit->ZU->Prop}(X:K.In s.heap)(I:nj s.heap x dx C mA)
 (hs:aaT K (.ref C) "__setattr__" = U (U (.builtin "object.__setattr__"))) (hp:aha K C=true) (ht:afV K C name=U O) (hh:ae4 K C=true)
 (hw:aho mA ns) (hsz:ns.length<=aah)
 (h:∀ h',nj h' x dx C (λy=>if y=name then U v else mA y)->Heap.SameBut dx s.heap h'->Q () { s with heap:=h',toks:=s.toks+2 }) :
 ZZ (model prog w) A (setAttr (.ref x) name v) Q E s:=by
 obtain⟨od,J9q,hl⟩:=I.look;refine PySem.W.set_plain X J9q hs (PySem.W.osa_open (s:={ s with toks:=s.toks+1 }) (r:=O) X J9q hp ht λb=>?_);obtain⟨cd,hc,iU⟩:=PySem.W.any_some hh;have hx:s.heap.get? x=U #[.ref C,U dx,.plain,(List.toArray [])]:=I.obj;refine ZE (ZI (ZE (ZE (wpAny_loadPart hx (ZE (PySem.W.Looks.here (s:={ s with toks:=s.toks+1 }) (PySem.W.looks_clsIn X hc) ?_))))));rw[iU];refine ZI (a:=U dx) (ZE (ZI (ZE ?_)));refine wpAny_nsSet1 (s:={ s with toks:=s.toks+1 }) I.ns λh' Et bV=>?_;obtain⟨oD,Y5,Y6,MO,MP,MQ⟩:=Et.count (PySem.Within.cons name v hw);refine ZE (wpAny_lookBehind MO (by rw[MP];exact pastItsLine_dict (ZQ MQ (by rw[aaJ];omega))) ?_);exact ZI (h _ #[(bV.2 _ (aaQ I.ne)).trans I.obj,Et,I.ne] bV)
theorem MR{R:afW->ZU->Prop}{vs:List ZP}{kw:List (Str × ZP)}(X:K.In s.heap)(hm:afX K C=true)
 (hi:aaT K (.ref C) "__init__" = U (U (.ref f))) (hf:PySem.W.typeIn K (.ref f)=U (.type "function"))
 (h:acF (model prog w) (A.under (.builtin "type.__call__" #[.ref C::vs,kw])) (.call (.ref f) #[.ref (s.heap.objs.size+1)::vs,kw]) (PySem.W.InitBack (s.heap.objs.size+1) R)
   { s with heap:=(s.heap.push abz).push (ace C s.heap.objs.size) }) :
 acF (model prog w) A (.call (.ref C) #[vs,kw]) R s:=by
 obtain⟨hh,g,d,t,os⟩:=s;exact PySem.W.make_core (PySem.W.makes_of X hm) (PySem.W.looks_findIn X hi) (λself=>PySem.W.bind_fn X self hf) (.inl rfl) h
end
noncomputable def eI(f:Str)(v:V):List (Str × V)->List (Str × V)
 | []=>[(f,v)]
 | (g,x)::r=>if g=f then (g,v)::r else (g,x)::eI f v r
theorem Eu(f g:Str)(v:V):∀ fs:List (Str × V),(eI f v fs).lookup g=if g=f then U v else fs.lookup g
 | []=>by
  show acT g [(f,v)]=_;by_cases h:g=f
  .have hb:(g == f)=true:=beq_iff_eq.mpr h;simp only[acT,hb,if_pos h]
  .have hb:(g == f)=false:=beq_eq_false_iff_ne.mpr h;simp only[acT,hb,if_neg h]
 | (k,x)::r=>by
  have ih:=Eu f g v r;rw[show eI f v ((k,x)::r)=(if k=f then (k,v)::r else (k,x)::eI f v r) from Y];by_cases hk:k=f
  .rw[if_pos hk];by_cases h:g=k
   .have hb:(g == k)=true:=beq_iff_eq.mpr h;simp only[acT,hb,if_pos (h.trans hk)]
   .have hb:(g == k)=false:=beq_eq_false_iff_ne.mpr h;simp only[acT,hb,if_neg (λe:g=f=>h (e.trans hk.symm))]
  .rw[if_neg hk];by_cases h:g=k
   .have hb:(g == k)=true:=beq_iff_eq.mpr h;simp only[acT,hb,if_neg (λe:g=f=>hk (h.symm.trans e))]
   .have hb:(g == k)=false:=beq_eq_false_iff_ne.mpr h;simp only[acT,hb];exact ih
theorem x8(f:Str)(v:V):∀ fs:List (Str × V),f∈(eI f v fs).map (·.1)/\∀ g,g∈fs.map (·.1)->g∈(eI f v fs).map (·.1)
 | []=>#[by simp[eI],λg h=>by simp at h]
 | (k,x)::r=>by
  obtain⟨i1,i2⟩:=x8 f v r;rw[show eI f v ((k,x)::r)=(if k=f then (k,v)::r else (k,x)::eI f v r) from Y];by_cases hk:k=f
  .rw[if_pos hk];subst hk;exact#[by simp,λg h=>by simpa using h]
  .rw[if_neg hk];refine#[?_,λg h=>?_]
   .rw[Z0];exact Z6 _ i1
   .rw[Z0] at h ⊢;rcases ZO.mp h with e|e
    .exact ZO.mpr (.inl e)
    .exact Z6 _ (i2 g e)
theorem Ew(f:Str)(v:V):∀ fs:List (Str × V),(eI f v fs).length<=fs.length+1
 | []=>by simp[eI]
 | (k,x)::r=>by
  have ih:=Ew f v r;rw[show eI f v ((k,x)::r)=(if k=f then (k,v)::r else (k,x)::eI f v r) from Y];by_cases hk:k=f
  .rw[if_pos hk,aaJ,aaJ];omega
  .rw[if_neg hk,aaJ,aaJ];omega
theorem fe.some_of(r:fe (U v) o):∃ u,o=U u/\RelV v u:=by
 cases o with
 | none=>exact (show False from r).elim
 | some u=>exact#[u,Y,r]
theorem fe.none_of(r:fe O o):o=O:=by
 cases o with
 | none=>rfl
 | some u=>exact (show False from r).elim
theorem MS(r:RelV v u):ahw u=true:=by
 cases v with
 | non=>cases (show u=Value.none from r);rfl
 | bl b=>cases (show u=abM b from r);rfl
 | int i=>obtain⟨t,e⟩:=(show ∃ t,u=Value.int i t from r);cases e;rfl
 | str x=>obtain⟨t,e⟩:=(show ∃ t,u=Value.str x t from r);cases e;rfl
 | byt b=>obtain⟨t,e⟩:=(show ∃ t,u=ai0 b t from r);cases e;rfl
 | flt b=>obtain⟨t,e⟩:=(show ∃ t,u=ahW b t from r);cases e;rfl
 | ref a=>cases (show u=Z5 a from r);rfl
 | ty n=>cases (show u=ad4 n from r);rfl
section
theorem vc(ak:bS P w H h)(e:H a=U (.ins C dx fs)):∃ mA,nj h a dx C mA/\(∀ f,fe (fs.lookup f) (mA f))/\aho mA (fs.map (·.1))/\fs.length<=1000/\H dx=U (.own a):=by
 obtain⟨d,z,ne,ob,mA,n,r,q⟩:=(show bE P w H h a (.ins C dx fs) from ak a _ e)
 exact#[mA,#[ob,n,ne],r,q,z,d]
end
structure fJ(K:ZF)(C:ZX):Prop where
 pg:aen K C Str.empty=true
 hd:ae4 K C=true
 po:aha K C=true
 sa:aaT K (.ref C) "__setattr__" = U (U (.builtin "object.__setattr__"))
theorem fJ.get{K:ZF}{C:ZX}(c:fJ K C)(f:Str):aen K C f=true:=c.pg
def fU(K:ZF)(C:ZX)(f:Str):Prop:=aaT K (.ref C) f=U O
theorem fU.MT{K:ZF}{C:ZX}{f:Str}(n:fU K C f):afV K C f=U O:=by unfold afV;rw[show aaT K (.ref C) f=U O from n];rfl
structure Meth(K:ZF)(C:ZX)(m:Str)(f:ZX):Prop where
 at_:aaT K (.ref C) m=U (U (.ref f))
 fn:afU K (.ref f)=true
 kp:ac2 K (.ref f)=true
section
theorem MU(I:Inv X pins J H s)(e:H a=U (.ins C dx fs))(c:fJ X.K C)(n:fU X.K C f)(l:fs.lookup f=U v)(h:∀ u s',Inv X pins J H s'->RelV v u->Q u s'):ZZ (model X.prog X.w) A (getAttr (.ref a) f b) Q E s:=by obtain⟨mA,O9q,r,y,y,y⟩:=vc I.ak e;obtain⟨u,hu,ru⟩:=fe.some_of (v:=v) (o:=mA f) (by rw[<- l];exact r f);exact get_map I.cM O9q (c.get f) c.hd n hu (MS ru) (h u _ (I.tok _) ru)
theorem Ex(I:Inv X pins J H s)(e:H a=U (.ins C dx fs))(c:fJ X.K C)(k:Meth X.K C m g)(l:fs.lookup m=O)(h:Q (.ref g,[.ref a]) s):ZZ (model X.prog X.w) A (ahX (.ref a) m pl) Q E s:=by obtain⟨mA,O9q,r,y,y,y⟩:=vc I.ak e;have hn:mA m=O:=fe.none_of (by rw[<- l];exact r m);exact MM I.cM O9q (c.get m) k.at_ k.fn hn h
theorem MV(I:Inv X pins J H s)(e:H a=U (.ins C dx fs))(c:fJ X.K C)(n:fU X.K C f)(hl:fs.length<1000)(ry:RelV y u)(h:∀ s',Inv X pins J (upd H a (.ins C dx (eI f y fs))) s'->Q () s'):ZZ (model X.prog X.w) A (setAttr (.ref a) f u) Q E s:=by
 obtain⟨mA,O9q,r,wi,v,ho⟩:=vc I.ak e;have hz:(fs.map (·.1)).length<=aah:=by rw[ZJ,acg];omega
 refine MN I.cM O9q c.sa c.po n.MT c.hd wi hz λh' O' sb=>h _ ?_;have hd:∃ o,h'.get? dx=U o:=let ⟨o,_,_,e',_⟩:=O'.ns;#[o,e'];refine I.write (x:=a) (e:=dx) (by rw[e];exact acG) (.inr ho) (λb q hb z=>(sb.2 b hb).trans z) hd ?_;refine#[by rw[aF O9q.ne];exact ho,?_,O9q.ne,O'.obj,_,O'.ns,λg=>?_,λg hg=>?_]
 .have:=Ew f y fs;omega
 .show fe ((eI f y fs).lookup g) (if g=f then U u else mA g);rw[Eu];by_cases q:g=f
  .rw[if_pos q,if_pos q];exact ry
  .rw[if_neg q,if_neg q];exact r g
 .by_cases q:g=f
  .rw[q];exact (x8 f y fs).1
  .refine (x8 f y fs).2 g (wi g λz=>hg ?_);show (if g=f then U u else mA g)=O;rw[if_neg q];exact z
theorem Inv.made(I:Inv X pins J H s):Inv X pins J (upd (upd H s.heap.objs.size (.own (s.heap.objs.size+1))) (s.heap.objs.size+1) (.ins C s.heap.objs.size []))
 { s with heap:=(s.heap.push abz).push (ace C s.heap.objs.size) }:=by
 have e1:(s.heap.push abz).get? s.heap.objs.size=U abz:=ZR s.heap rfl;have e2:((s.heap.push abz).push (ace C s.heap.objs.size)).get? (s.heap.objs.size+1)=U (ace C s.heap.objs.size):=by
  have:=ZR (s.heap.push abz) (o:=ace C s.heap.objs.size) rfl
  rwa [abm] at this
 have e3:(s.heap.push abz).Ns s.heap.objs.size (λy=>O):=#[abz,(List.toArray []),_,e1,Y,(λe he=>absurd he (by simp)),λy=>rfl]
 have I1:=I.laid (a:=s.heap.objs.size) (o:=.own (s.heap.objs.size+1)) (h':=s.heap.push abz) (t':=s.toks) (λb u q=>ZH _ q) (ZS _) #[_,e1];refine I1.laid (a:=s.heap.objs.size+1) (o:=.ins C s.heap.objs.size []) (t':=s.toks) (λb u q=>ZH _ q) (aiO (abm _ _)) ?_;have ne:s.heap.objs.size≠s.heap.objs.size+1:=ZY (acr _);refine#[by rw[aF ne,ar],Z3 _,ne,e2,λy=>O,(Heap.Ns1.of_empty e3).at λo q=>ZH _ q,λy=>acG,λy hy=>absurd Y hy]
theorem MW(hb:adi e f env (eval e env)=eval e env)(h:ZZ (model prog w) A (eval e env) (λo s₁=>ZZ (model prog w) A (getAttr o f true) Q E s₁) E s):ZZ (model prog w) A (eval (.Attribute e f pos) env) Q E s :=
 Attribute_any_ h (by rw[arm_eval_Attribute,hb])
end
def Ey(K:ZF)(ta:TE)(f:Str):TE:=λJ H Q=>ta J H λx H1=>∃ a C dx fs v,x = .ref a/\H1 a=U (.ins C dx fs)/\fJ K C/\fU K C f/\fs.lookup f=U v/\Q v H1
def Ez(K:ZF)(ta tv:TE)(f:Str):TS:=λD J H=>tv J H λy H1=>ta J H1 λx H2=>∃ a C dx fs,x = .ref a/\H2 a=U (.ins C dx fs)/\fJ K C/\fU K C f/\fs.length<1000 /\
 D.nx J (upd H2 a (.ins C dx (eI f y fs)))
section
theorem MX(he:PE X e ta)(hb:adi e f X.env (eval e X.env)=eval e X.env):PE X (.Attribute e f pos) (Ey X.K ta f):=by
 intro pins s J H Q I h;refine MW hb (az (he pins s J H _ I h) λu s1 zq=>?_);obtain⟨x,H1,I1,rx,a,C,dx,fs,v,ex,ea,c,n,l,q⟩:=zq;subst ex;obtain rfl:u=Z5 a:=rx;exact MU I1 ea c n l λu' s2 I2 ru=>#[v,H1,I2,ru,q]
theorem MY(ha:PE X o ta)(hv:PE X value tv)(hs:aee value (U (.Attribute o f pos')) pos.line X.env=pure false):PS X (.Assign [.Attribute o f pos'] value pos) (Ez X.K ta tv f):=by
 intro pins s J H D I h;refine plainObj_wpAny_Assign_Attribute (az (hv pins s J H _ I h) λu s1 ⟨y,H1,I1,ry,q⟩=>az (ha pins s1 J H1 _ I1 q) λov s2 zq=>?_) hs;obtain⟨x,H2,I2,rx,a,C,dx,fs,ex,ea,c,n,l,q2⟩:=zq;subst ex;obtain rfl:ov=Z5 a:=rx;exact MV I2 ea c n l ry λs3 I3=>#[J,_,I3,q2]
inductive dr(K:ZF)(H:Hp):V->ZP->Prop where
 | non:dr K H .non (.type "NoneType")
 | bl (x:Bool):dr K H (.bl x) (.type "bool")
 | int (i:Int):dr K H (.int i) (.type "int")
 | str (x:Str):dr K H (.str x) (.type "str")
 | flt (x:UInt64):dr K H (.flt x) (.type "float")
 | lst {a:ZX} {xs:List V} (e:H a=U (.lst xs)):dr K H (.ref a) (.type "list")
 | aT {a:ZX} {o:Obj} {xs:List V} (e:H a=U (.aT o (.lst xs))):dr K H (.ref a) (.type "list")
 | tup {a:ZX} {xs:List V} (e:H a=U (.tup xs)):dr K H (.ref a) (.type "tuple")
 | dK {a:ZX} {kvs:List (Key × V)} (e:H a=U (.dK kvs)):dr K H (.ref a) (.type "dict")
 | dT {a:ZX} {kvs:List (List Key × V)} (e:H a=U (.dT kvs)):dr K H (.ref a) (.type "dict")
 | ins {a C dx:ZX} {fs:List (Str × V)} (e:H a=U (.ins C dx fs)) (cl:fJ K C) (ha:aaT K (.ref C) "__class__" = U (U (.builtin "object.__class__")))
  (hn:PySem.W.specialIn K (.builtin "object.__class__") "__get__" = U (U (.builtin "getset_descriptor.__get__"))) (qX:PySem.W.takesIn K (.builtin "object.__class__")=U true)
  (hm:PySem.W.mroIn K C (.type "object")=U true):dr K H (.ref a) (.ref C)
theorem MZ(I:Inv X pins J H s)(rx:RelV x u)(ty:dr X.K H x t)(e:abG X.K t c=U b)(h:∀ tk,Q (.bool b) { s with toks:=tk }) :
 ZZ (model X.prog X.w) A (call (.builtin "isinstance") [u,c]) Q E s:=by
 cases ty with
 | non=>cases (show u=Value.none from rx);exact abn PySem.W.kitx_none I.cM acG e (λz=>nomatch z) h
 | bl y=>cases (show u=abM y from rx);exact abn PySem.W.kitx_bool I.cM acG e (λz=>nomatch z) h
 | int i=>obtain⟨t,q⟩:=(show ∃ t,u=Value.int i t from rx);cases q;exact abn PySem.W.kitx_int I.cM acG e (λz=>nomatch z) h
 | str y=>obtain⟨t,q⟩:=(show ∃ t,u=Value.str y t from rx);cases q;exact abn PySem.W.kitx_str I.cM acG e (λz=>nomatch z) h
 | flt y=>obtain⟨t,q⟩:=(show ∃ t,u=ahW y t from rx);cases q;exact abn PySem.W.kitx_float I.cM acG e (λz=>nomatch z) h
 | @lst a xs ea =>
  cases (show u=Z5 a from rx);obtain⟨v,v,n,v,h1⟩:=(show bE X.prog X.w H s.heap a (.lst xs) from I.ak a _ ea)
  exact abn ahb I.cM #[_,h1,Y] e (λz=>nomatch z) h
 | @aT a ob xs ea =>
  cases (show u=Z5 a from rx);obtain⟨v,v,v,n,v,h1⟩:=(show bE X.prog X.w H s.heap a (.aT ob (.lst xs)) from I.ak a _ ea)
  exact abn ahb I.cM #[_,h1,Y] e (λz=>nomatch z) h
 | @tup a xs ea =>
  cases (show u=Z5 a from rx);obtain⟨v,v,v,p⟩:=(show bE X.prog X.w H s.heap a (.tup xs) from I.ak a _ ea)
  obtain⟨o,h1,h2,v⟩:=p;exact abn PySem.W.kitx_tuple I.cM #[o,h1,h2] e (λz=>nomatch z) h
 | @dK a kvs ea =>
  cases (show u=Z5 a from rx);obtain⟨v,v,vs,v,p⟩:=(show bE X.prog X.w H s.heap a (.dK kvs) from I.ak a _ ea)
  obtain⟨o,es,ep,h1,h2,v⟩:=p;exact abn ahc I.cM #[o,h1,h2.1] e (λz=>nomatch z) h
 | @dT a kvs ea =>
  cases (show u=Z5 a from rx);obtain⟨v,v,xs,v,o,es,ep,h1,h2,v⟩:=(show bE X.prog X.w H s.heap a (.dT kvs) from I.ak a _ ea)
  exact abn ahc I.cM #[o,h1,h2.1] e (λz=>nomatch z) h
 | @ins a C dx fs ea cl ha hn qX hm =>
  cases (show u=Z5 a from rx);obtain⟨mA,O9q,v⟩:=vc I.ak ea;obtain⟨od,J9q,v⟩:=O9q.look;exact abn (PySem.W.kitx_own (cl.get _) cl.hd ha hn qX hm) I.cM J9q e (λz=>nomatch z) h
end
structure bL(k:Nat)(A:abI):Prop where
 hd:A.handled=O
 dp:A.depth+3 * k+5<recursionLimit
 un:A.units+16 * k+200<adQ
theorem bL.mono(r:bL k A)(h:j<=k):bL j A:=#[r.hd,by have:=r.dp;omega,by have:=r.un;omega]
theorem bL.deeper(r:bL (k+1) A)(env:Env):bL k (A.deeper env) :=
 #[r.hd,by have:=r.dp;show A.depth+1+3 * k+5<_;omega,by have:=r.un;show A.units+3+16 * k+200<_;omega]
theorem M0{A:abI}{C:ZX}{us:List ZP}{kw:List (Str × ZP)}:(A.under (.builtin "type.__call__" #[.ref C::us,kw])).depth=A.depth+1:=by
 first|rfl|simp[ahq,Code.weight,Code.isCreation,Code.isGuard,Code.isCaller,Code.frames,Code.isFrame,guardIds]
theorem M4{A:abI}{C:ZX}{us:List ZP}{kw:List (Str × ZP)}:(A.under (.builtin "type.__call__" #[.ref C::us,kw])).units=A.units+1:=by
 first|rfl|simp[ahq,Code.cUnits,Code.frames,Code.isFrame]
theorem bL.make(r:bL (k+1) A)(C:ZX)(us:List ZP)(kw:List (Str × ZP)):bL k (A.under (.builtin "type.__call__" #[.ref C::us,kw])) :=
 #[r.hd,by have:=r.dp;rw[M0];omega,by have:=r.un;rw[M4];omega]
theorem bL.depth(r:bL k A):A.depth<recursionLimit:=by have:=r.dp;omega
theorem bL.units(r:bL k A):A.units+64<adQ:=by have:=r.un;omega
def vd:TA:=λy H Q=>Q [] H
def x9(ta:TE)(tr:TA):TA:=λJ H Q=>ta J H λx H1=>tr J H1 λxs H2=>Q (x::xs) H2
section
theorem ag:PA X [] vd:=λy y y y H Q I h=>acb #[[],H,I,.nil,h]
theorem ae(ha:PE X e te)(hr:PA X es t)(hs:aae (e::es) X.env=(false,eval e X.env)::aae es X.env:=by rfl):PA X (e::es) (x9 te t):=by
 intro pos pins s J H Q I h;rw[hs];show ZZ _ _ (spliced ((false,eval e X.env)::aca pos (aae es X.env))) _ _ s;refine abY (az (ha pins s J H _ I h) λu s1 zq=>?_);obtain⟨x,H1,I1,r1,q1⟩:=zq;exact az (hr pos pins s1 J H1 _ I1 q1) λus s2 ⟨xs,H2,I2,r2,q2⟩=>#[x::xs,H2,I2,.cons r1 r2,q2]
def EA(t:TA):TE:=λJ H Q=>t J H λxs H1=>xs.length<=aah/\∀ p,H1 p=O->Q (.ref p) (upd H1 p (.tup xs))
def EB(t:TA):TE:=λJ H Q=>t J H λxs H1=>xs.length<=aah/\∀ p,H1 p=O->Q (.ref p) (upd H1 p (.lst xs))
theorem ba(h:PA X es t):PE X (.Tuple es x1 pos) (EA t):=by intro pins s J H Q I hq;refine wpAny_Tuple_spliced (az (h pos pins s J H _ I hq) λus s1 ⟨xs,H1,I1,r,z,q⟩=>#[by rw[<- r.length];exact z,?_]);have hf:H1 s1.heap.objs.size=O:=I1.ak.fresh (ZS _);refine#[.ref s1.heap.objs.size,upd H1 s1.heap.objs.size (.tup xs),I1.laid (t':=s1.toks) (λb u e=>ZH _ e) (ZS _) ?_,Y,q _ hf];exact#[z,us,r,#[_,ZR _ Y,Y,_,Y]]
theorem cH(h:PA X es t):PE X (.List es pos) (EB t):=by intro pins s J H Q I hq;refine wpAny_List_spliced (az (h pos pins s J H _ I hq) λus s1 ⟨xs,H1,I1,r,z,q⟩=>#[by rw[<- r.length];exact z,?_]);have hf:H1 s1.heap.objs.size=O:=I1.ak.fresh (ZS _);refine#[.ref s1.heap.objs.size,upd H1 s1.heap.objs.size (.lst xs),I1.laid (t':=s1.toks) (λb u e=>ZH _ e) (ZS _) ?_,Y,q _ hf];exact#[z,us,0,r,ZR _ Y]
end
abbrev Sp:=List V->Hp->VK->XK->Prop
abbrev gF:=List Env->Hp->ZU->XK->ZP->ZU->Prop
structure nk(P:aaE)(w:abb)(K:ZF)(mg:Str->Option ZP)(base:acz)(A:abI)(outer:List Env)(s:ZU)(H:Hp):Prop where
 frames:A.frames=U outer
 mod:Mod K mg base
 bs:∀ b o,base.get? b=U o->s.heap.get? b=U o/\H b=O
 bsz:base.objs.size<=s.heap.objs.size
 hJ:s.heap.FunFrames base outer
 frf:∀ b∈a8 outer,H b=O
 ak:bS P w H s.heap
 bare:afR s.gens
def CE(outer:List Env)(P:aaE)(w:abb)(H:Hp)(s:ZU)(Q:VK)(u:ZP)(s':ZU):Prop :=
 ∃ v H',s'.os=s.os/\afR s'.gens/\Un (a8 outer) [] H H' s.heap s'.heap/\bS P w H' s'.heap/\RelV v u/\Q v H'
def CR(CX:gF)(outer:List Env)(P:aaE)(w:abb)(H:Hp)(s:ZU)(Q:VK)(E:XK)(r:afW)(s':ZU):Prop :=
 match r with
 | .ok (.ret u)=>CE outer P w H s Q u s'
 | .ok _=>False
 | .error e=>CX outer H s E e s'
structure eU(P:aaE)(w:abb)(K:ZF)(mg:Str->Option ZP)(base:acz)(CX:gF)(k:Nat)(f:ZX)(fd:adA)(ps:List Str)(sp:Sp):Prop where
 len:∀ vs H Q E,sp vs H Q E->vs.length=ps.length
 run:∀ (A:abI) (outer:List Env) (s:ZU) (H:Hp) (args:Args) (us:List ZP) (vs:List V) (Q:VK) (E:XK),bL k A->nk P w K mg base A outer s H->ahd s fd args (ps.zip us)->Vals vs us->sp vs H Q E ->
  acF (model P w) A (.call (.ref f) args) (CR CX outer P w H s Q E) s
theorem nk.make{P:aaE}{w:abb}{K:ZF}{mg:Str->Option ZP}{base:acz}{A:abI}{outer:List Env}{s:ZU}{H:Hp}(e:nk P w K mg base A outer s H)(C:ZX)(us:List ZP)(kw:List (Str × ZP)) :
 nk P w K mg base (A.under (.builtin "type.__call__" #[.ref C::us,kw])) outer s H:=#[by first|exact e.frames|(simpa [ahq,Code.envs,Code.isFrame,pushEnvs] using e.frames),e.mod,e.bs,e.bsz,e.hJ,e.frf,e.ak,e.bare]
section
theorem Inv.EC(I:Inv X pins J H s):nk X.prog X.w X.K X.mg X.base X.A X.stack s H :=
 #[I.ok.frames,I.ok.mod,I.bs,ZQ I.ok.bsz I.sz,I.stack,I.qH,I.ak,I.bare]
theorem Inv.after(I:Inv X pins J H s)(h:CE X.stack X.prog X.w H s Q u s'):EP X pins J Q u s':=by obtain⟨v,H',os,bare,un,ak,r,q⟩:=h;obtain⟨hh,g,d,t,lL⟩:=s';obtain rfl:lL=s.os:=os;exact#[v,H',I.call (h':=hh) (g':=g) (d':=d) (t':=t) (ch:=[]) un ak bare (λb z=>absurd z (by simp)),r,q]
end
def ve(sp:Sp)(dI:List V)(E:XK)(t:TA):TE:=λJ H Q=>t J H λvs H1=>sp (vs++dI) H1 Q E
def ya(C:ZX)(m:Str)(sp:Sp)(dI:List V)(E:XK)(ta:TE)(t:TA):TE:=λJ H Q=>ta J H λx H1=>∃ a dx fs,x = .ref a/\H1 a=U (.ins C dx fs)/\fs.lookup m=O /\
 t J H1 λvs H2=>sp (x::(vs++dI)) H2 Q E
def ED(C:ZX)(sp:Sp)(dI:List V)(E:XK)(t:TA):TE:=λJ H Q=>t J H λvs H1=>∀ x dx,H1 x=O->H1 dx=O->dx≠x ->
 sp (.ref x::(vs++dI)) (upd (upd H1 dx (.own x)) x (.ins C dx [])) (λv H2=>v = .non/\Q (.ref x) H2) E
def Binds(K:ZF)(fd:adA)(ps:List Str)(ds:List ZP):Prop :=
 ∀ (s:ZU) (us:List ZP),K.In s.heap->(us++ds).length=ps.length->ahd s fd #[us,[]] (ps.zip (us++ds))
theorem Binds.all{K:ZF}{fd:adA}{ps:List Str}(h:∀ us:List ZP,us.length=ps.length->bindArgs fd #[us,[]]=pure (ps.zip us)):Binds K fd ps []:=λs us y hl=>by rw[afY] at hl ⊢;exact .of_eq (h us hl)
def Passes(CX:gF)(X:Cx)(E:XK):Prop:=∀ (pins:List (ZX × Obj)) (J:St) (H:Hp) (s:ZU) (e:ZP) (s':ZU),Inv X pins J H s->CX X.stack H s E e s'->X.xe e s'
section
theorem yb(F:eU X.prog X.w X.K X.mg X.base CX k f fd ps sp)(hr:bL k X.A)(hb:Binds X.K fd ps ds)(hd:Vals dI ds)(hx:Passes CX X E)(I:Inv X pins J H s)(r:Vals vs us)(h:sp (vs++dI) H Q E):ZZ (model X.prog X.w) X.A (call (.ref f) us) (EP X pins J Q) X.xe s:=by
 have r2:Vals (vs++dI) (us++ds):=r.append hd;have hl:(us++ds).length=ps.length:=by rw[<- r2.length];exact F.len _ _ _ _ h
 refine ae5 (ac9 (F.run X.A X.stack s H #[us,[]] (us++ds) (vs++dI) Q E hr I.EC (hb s us I.cM hl) r2 h) λr s' hq=>?_);cases r with
 | error e=>exact hx pins J H s e s' I hq
 | ok fl =>
  cases fl with
  | ret u=>exact I.after hq
  | next=>exact acq hq
  | brk=>exact acq hq
  | cont=>exact acq hq
theorem dY(F:eU X.prog X.w X.K X.mg X.base CX k f fd ps sp)(hr:bL k X.A)(hg:Gl X x)(hm:X.mg x=U (.ref f))(hk:ac2 X.K (.ref f)=true)(hb:Binds X.K fd ps ds)(hd:Vals dI ds)(hx:Passes CX X E)(ha:PA X (e::es) t)(gG:(x == ("__debug__" : Str))=false:=by decide)(he:aae (e::es) X.env=(false,eval e X.env)::aae es X.env:=by rfl)(dJ:(aca pos (aae es X.env)).any (·.1)=false:=by rfl) :
 PE X (.Call (.Name x p) (e::es) [] pos) (ve sp dI E t):=by
 intro pins s J H Q I h;refine aa9 (uO I hg hm ?_ gG);refine aeM (h₀:=X.base) I.ok.mod.kin hk (az (ha pos pins s J H _ I h) λus s1 ⟨vs,H1,I1,r,q⟩=>#[I1.cM,?_]) he dJ;exact yb F hr hb hd hx I1 r q
theorem ij(he:PE X o ta)(c:fJ X.K C)(hm:Meth X.K C m f)(F:eU X.prog X.w X.K X.mg X.base CX k f fd ps sp)(hr:bL k X.A)(hb:Binds X.K fd ps ds)(hd:Vals dI ds)(hx:Passes CX X E)(ha:PA X (e::es) t)(bG:aae (e::es) X.env=(false,eval e X.env)::aae es X.env:=by rfl)(dJ:(aca pos (aae es X.env)).any (·.1)=false:=by rfl)(ht:eval (.Call (.Attribute o m apos) (e::es) [] pos) X.env=(do
 let ov <- eval o X.env
 aiz apos.atName
 let (f,first) <- holding [ov] (ahX ov m pl)
 callWith pos f first (aca pos (aae (e::es) X.env)) (ahS pos (afl [] X.env))):=by rfl) :
 PE X (.Call (.Attribute o m apos) (e::es) [] pos) (ya C m sp dI E ta t):=by
 intro pins s J H Q I h;refine afZ (pl:=pl) (az (he pins s J H _ I h) λu s1 zq=>?_) ht;obtain⟨x,H1,I1,rx,a,dx,fs,ex,ea,l,q⟩:=zq;subst ex;obtain rfl:u=Z5 a:=rx;refine Ex I1 ea c hm l ?_;refine aeM (first:=[.ref a]) (h₀:=X.base) I.ok.mod.kin hm.kp (az (ha pos pins s1 J H1 _ I1 q) λus s2 ⟨vs,H2,I2,r,q2⟩=>#[I2.cM,?_]) bG dJ;exact yb (us:=.ref a::us) (vs:=.ref a::vs) F hr hb hd hx I2 (.cons rfl r) q2
theorem yc(he:PE X o ta)(c:fJ X.K C)(hm:Meth X.K C m f)(F:eU X.prog X.w X.K X.mg X.base CX k f fd ps sp)(hr:bL k X.A)(hb:Binds X.K fd ps ds)(hd:Vals dI ds)(hx:Passes CX X E)(ht:eval (.Call (.Attribute o m apos) [] [] pos) X.env=(do
 let ov <- eval o X.env
 aiz apos.atName
 let (f,first) <- holding [ov] (ahX ov m pl)
 callWith pos f first (aca pos (aae [] X.env)) (ahS pos (afl [] X.env))):=by rfl) :
 PE X (.Call (.Attribute o m apos) [] [] pos) (ya C m sp dI E ta vd):=by
 intro pins s J H Q I h;refine afZ (pl:=pl) (az (he pins s J H _ I h) λu s1 zq=>?_) ht;obtain⟨x,H1,I1,rx,a,dx,fs,ex,ea,l,q⟩:=zq;subst ex;obtain rfl:u=Z5 a:=rx;refine Ex I1 ea c hm l ?_;exact PySem.W.callWith_K0 (first:=[.ref a]) I1.cM hm.kp (yb (us:=[.ref a]) (vs:=[.ref a]) F hr hb hd hx I1 (.cons rfl .nil) q)
structure Mk(K:ZF)(C f:ZX):Prop where
 makes:afX K C=true
 init:aaT K (.ref C) "__init__" = U (U (.ref f))
 fn:afU K (.ref f)=true
 kp:ac2 K (.ref C)=true
theorem M5(M:Mk X.K C f)(F:eU X.prog X.w X.K X.mg X.base CX k f fd ps sp)(hr:bL (k+1) X.A)(hb:Binds X.K fd ps ds)(hd:Vals dI ds)(hx:Passes CX X E)(I:Inv X pins J H s)(r:Vals vs us)(h:∀ x dx,H x=O->H dx=O->dx≠x->sp (.ref x::(vs++dI)) (upd (upd H dx (.own x)) x (.ins C dx [])) (λv H2=>v = .non/\Q (.ref x) H2) E) :
 ZZ (model X.prog X.w) X.A (call (.ref C) us) (EP X pins J Q) X.xe s:=by
 have hq:=h (s.heap.objs.size+1) s.heap.objs.size (I.ak.fresh (adG _)) (I.ak.fresh (ZS _)) (ZY (acr _));have I2:=Inv.made (C:=C) I;have r2:Vals (V.ref (s.heap.objs.size+1)::(vs++dI)) (Z5 (s.heap.objs.size+1)::(us++ds)):=.cons rfl (r.append hd);have hl:(Z5 (s.heap.objs.size+1)::us++ds).length=ps.length:=by have e:=r2.length;rw[F.len _ _ _ _ hq] at e;exact e.symm
 refine ae5 (MR (f:=f) I.cM M.makes M.init (beq_iff_eq.mp M.fn) (ac9 (F.run _ X.stack _ _ #[Z5 (s.heap.objs.size+1)::us,[]] (Z5 (s.heap.objs.size+1)::(us++ds)) _ _ E (hr.make C us [])
  (I2.EC.make C us []) (hb _ (Z5 (s.heap.objs.size+1)::us) I2.cM hl) r2 hq) λr s' fg=>?_))
 cases r with
 | error e=>exact hx pins J _ _ e s' I2 fg
 | ok fl =>
  cases fl with
  | ret u =>
   obtain⟨v,H',I3,rv,ev,q3⟩:=I2.after fg;subst ev;exact#[rv,#[V.ref (s.heap.objs.size+1),H',I3,Y,q3]]
  | next=>exact acq fg
  | brk=>exact acq fg
  | cont=>exact acq fg
theorem EE(M:Mk X.K C f)(F:eU X.prog X.w X.K X.mg X.base CX k f fd ps sp)(hr:bL (k+1) X.A)(hg:Gl X x)(hm:X.mg x=U (.ref C))(hb:Binds X.K fd ps ds)(hd:Vals dI ds)(hx:Passes CX X E)(ha:PA X (e::es) t)(gG:(x == ("__debug__" : Str))=false:=by decide)(he:aae (e::es) X.env=(false,eval e X.env)::aae es X.env:=by rfl)(dJ:(aca pos (aae es X.env)).any (·.1)=false:=by rfl) :
 PE X (.Call (.Name x p) (e::es) [] pos) (ED C sp dI E t):=by
 intro pins s J H Q I h;refine aa9 (uO I hg hm ?_ gG);refine aeM (h₀:=X.base) I.ok.mod.kin M.kp (az (ha pos pins s J H _ I h) λus s1 ⟨vs,H1,I1,r,q⟩=>#[I1.cM,?_]) he dJ;exact M5 M F hr hb hd hx I1 r q
end
structure qY(N P:List Str)(sc:afD):Prop where
 kind:sc.kind = .function
 co:sc.isCoroutine=false
 gen:sc.isGenerator=false
 nd:N.Nodup
 pre:N.take P.length=P
 par:∀ x∈P,sc.names.lookup x=U .local∨sc.names.lookup x=U .cell
 nofree:∀ y∈sc.names,y.2 ≠ .free
theorem EF{ae6:Str->Option afm}{x:Str}:∀ {binds:List (Str × ZP)} {m:Str->Option ZP},(∀ v,(x,v)∉binds)->ai2 ae6 binds m x=m x
 | [],_,_=>rfl
 | (n,v)::r,m,h=>by
  unfold ai2;rw[EF λw hw=>h w (Z6 _ hw)];split
  .have:x≠n:=by rintro rfl;exact h v aaA
   simp[this]
  .rfl
theorem EG{ae6:Str->Option afm}{x:Str}:∀ {binds:List (Str × ZP)} {m:Str->Option ZP},(∀ v,(x,v)∉binds)->ai3 ae6 binds m x=m x
 | [],_,_=>rfl
 | (n,v)::r,m,h=>by
  unfold ai3;rw[EG λw hw=>h w (Z6 _ hw)];split
  .rfl
  .have:x≠n:=by rintro rfl;exact h v aaA
   simp[this]
theorem EH{ae6:Str->Option afm}{x:Str}{v:ZP}:∀ {P:List Str} {vs:List ZP} {i:Nat} {m:Str->Option ZP},P.Nodup->P[i]?=U x->vs[i]?=U v->ae6 x=U .local ->
 ai2 ae6 (P.zip vs) m x=U v
 | [],_,_,_,_,h,_,_=>by simp at h
 | _::_,[],_,_,_,_,h,_=>by simp at h
 | p::P,w::vs,0,m,nd,h1,h2,hk=>by simp at h1 h2;subst h1;subst h2;show ai2 ae6 ((p,w)::P.zip vs) m p=_;unfold ai2;rw[EF λv hv=>(aaC.mp nd).1 (af0 hv).1,if_pos hk];simp
 | p::P,w::vs,i+1,m,nd,h1,h2,hk=>by show ai2 ae6 ((p,w)::P.zip vs) m x=_;unfold ai2;exact EH (i:=i) (aaC.mp nd).2 (by simpa using h1) (by simpa using h2) hk
theorem EI{ae6:Str->Option afm}{x:Str}{v:ZP}:∀ {P:List Str} {vs:List ZP} {i:Nat} {m:Str->Option ZP},P.Nodup->P[i]?=U x->vs[i]?=U v->ae6 x≠U .local ->
 ai3 ae6 (P.zip vs) m x=U v
 | [],_,_,_,_,h,_,_=>by simp at h
 | _::_,[],_,_,_,_,h,_=>by simp at h
 | p::P,w::vs,0,m,nd,h1,h2,hk=>by simp at h1 h2;subst h1;subst h2;show ai3 ae6 ((p,w)::P.zip vs) m p=_;unfold ai3;rw[EG λv hv=>(aaC.mp nd).1 (af0 hv).1,if_neg hk];simp
 | p::P,w::vs,i+1,m,nd,h1,h2,hk=>by show ai3 ae6 ((p,w)::P.zip vs) m x=_;unfold ai3;exact EI (i:=i) (aaC.mp nd).2 (by simpa using h1) (by simpa using h2) hk
noncomputable def start(N:List Str)(vs:List V):St:=vs.map U++aaH (N.length-vs.length) O
noncomputable def eV(CX:gF)(P:aaE)(w:abb)(K:ZF)(mg:Str->Option ZP)(base:acz)(N:List Str)(qual:Str)(scope:afD)(f:ZX)(cd:ZP)(A:abI)(outer:List Env)(s:ZU)(H:Hp)(E:XK):Cx where
 prog:=P
 w:=w
 K:=K
 mg:=mg
 base:=base
 A:=A.deeper (abZ qual scope s.heap.objs.size f cd)
 N:=N
 s₀:=s
 H₀:=H
 env:=abZ qual scope s.heap.objs.size f cd
 outer:=outer
 stack:=abZ qual scope s.heap.objs.size f cd::outer
 ex:=[]
 calm:=true
 fn:=λy=>true
 pn:=[]
 xe:=λe s'=>ZZ (model P w) (A.deeper (abZ qual scope s.heap.objs.size f cd)) (leaving (abZ qual scope s.heap.objs.size f cd) e) (λy nq=>CX outer H s E e nq) (λe' nq=>CX outer H s E e' nq) s'
theorem EJ{sc:afD}{n:Nat}{x:Str}(h:sc.names.lookup x=U .cell):∃ c,(cellsFrom n sc.names []).lookup x=U c:=by have q:=afH sc.names n [] (.inl h);exact abA.mp q
theorem M6{CX:gF}{P:aaE}{w:abb}{K:ZF}{mg:Str->Option ZP}{base:acz}{N ps:List Str}{qual:Str}{scope:afD}{f:ZX}{cd:ZP}{A:abI}{outer:List Env}{s s1:ZU}{H:Hp}{E:XK}{us:List ZP}{vs:List V}
 (S:qY N ps scope) (hd:A.handled=O) (e0:nk P w K mg base A outer s H) (hl:vs.length=ps.length) (r:Vals vs us)
 (x:InCallC s s.heap.objs.size (ai2 (abZ qual scope s.heap.objs.size f cd).kindOf (ps.zip us) λm=>O) (cellsFrom (s.heap.objs.size+1) scope.names []) (ai3 (abZ qual scope s.heap.objs.size f cd).kindOf (ps.zip us) λm=>O) s1) :
 Inv (eV CX P w K mg base N qual scope f cd A outer s H E) [] (start N vs) H s1:=by
 have dJ:ps.length<=N.length:=by have:=congrArg List.length S.pre;rw[aeo] at this;omega
 obtain⟨h1,tk,rfl,hk⟩:=x.done;have gH:∀ b:ZX,b∉(eV CX P w K mg base N qual scope f cd A outer s H E).ex:=λb z=>absurd (show b∈([]:List ZX) from z) (by simp);refine#[#[e0.mod,S.kind,Y,Y,ZS _,λy z c h1 h2=>?_,λy hy=>?_,λy c m h=>?_,λm=>hd,Around.frames_deeper e0.frames,.inr #[Y,Y],λb z=>absurd z (gH b),e0.bs,e0.bsz,λb m m=>gH b,λb z=>absurd z (gH b),e0.hJ,e0.frf],
  rfl,e0.bare,Un.kept hk,#[_,x.toInCall.ns,λi y v h1 h2 h3=>?_],λy c h=>#[_,x.cell y c h],e0.ak.fresh (ZS _),λy c h=>?_,λp hp=>absurd (show p∈([]:List (ZX × Obj)) from hp) (by simp),e0.ak.kept hk,?_]
 .exact name_of_addr x.apart (ach h1) (ach h2)
 .have hy:scope.names.lookup y=U .cell∨scope.names.lookup y=U .free:=hy;rcases hy with hy|hy
  .exact EJ hy
  .exact absurd Y (S.nofree _ (ach hy))
 .exact adK (x.above y c (ach h))
 .have hi:i<vs.length:=by
   unfold start at h2;by_cases hi:i<vs.length
   .exact hi
   .rw[aaN (by simpa using hi)] at h2;rw[ab6] at h2;split at h2<;>cases h2
  have ha:vs[i]?=U v:=by
   unfold start at h2;rw[aay (by simpa using hi),Z1] at h2;cases e:vs[i]? with
   | none=>rw[e] at h2;cases h2
   | some a=>rw[e] at h2;cases h2;rfl
  obtain⟨u,hu,rv⟩:=r.get ha;have hp:ps[i]?=U y:=by rw[<- S.pre,List.getElem?_take_of_lt (by omega)];exact h1
  have EK:ps.Nodup:=by rw[<- S.pre];exact S.nd.sublist (List.take_sublist _ _)
  refine#[u,rv,?_];rcases S.par y (Z2 hp) with k|k
  .exact .inl #[k,EH EK hp hu k]
  .obtain⟨c,e⟩:=EJ (n:=s.heap.objs.size+1) k;refine .inr #[.inl k,c,e,?_];have q:=x.cell y c e;rw[EI EK hp hu (by show scope.names.lookup y≠_;rw[k];decide)] at q;exact q
 .exact e0.ak.fresh (adK (x.above y c (ach h)))
 .unfold start;show _=N.length;rw[aac,ZJ,aaI];omega
theorem EL{CX:gF}{P:aaE}{w:abb}{K:ZF}{mg:Str->Option ZP}{base:acz}{k:Nat}{f:ZX}{name qual:Str}{params:Arguments}{body:List abX}{scope:afD}{dV kV doc pm a7 ct oc:ZP}{an od:Option ZX}
 {jG:Array (Option ZP)} {N ps:List Str} {sp:Sp} (lk:K.lookup f=U #[oc,od,.func (ada name qual params body scope dV kV doc pm an a7 ct),jG]) (fG:aeU K a7 qual=true) (S:qY N ps scope)
 (len:∀ vs H Q E,sp vs H Q E->vs.length=ps.length)
 (gI:∀ (A:abI) (outer:List Env) (s:ZU) (H:Hp) (vs:List V) (Q:VK) (E:XK),bL k (A.deeper (abZ qual scope s.heap.objs.size f a7))->sp vs H Q E ->
   ∃ t,aX (eV CX P w K mg base N qual scope f a7 A outer s H E) body t/\t { nx:=λ_ H'=>Q .non H',rt:=Q } (start N vs) H) :
 eU P w K mg base CX (k+1) f (ada name qual params body scope dV kV doc pm an a7 ct) ps sp:=by
 refine#[len,λA outer s H args us vs Q E hr e0 hb r lM=>?_];have hl:=len _ _ _ _ lM;have KX:K.In s.heap:=e0.mod.kin.keeps λb o e=>(e0.bs b o e).1;have lim:s.heap.NoLimit:=e0.mod.nolimit.keeps λb o e=>(e0.bs b o e).1;have M7:∀ y∈ps.zip us,scope.names.lookup y.1=U .local∨(scope.names.lookup y.1=U .cell/\((cellsFrom (s.heap.objs.size+1) scope.names []).lookup y.1).isSome=true):=λ⟨n,v⟩ hy=>by
  rcases S.par n (af0 hy).1 with q|q
  .exact .inl q
  .exact .inr #[q,afH _ _ _ (.inl q)]
 refine codeAny_call_function hr.depth (KX _ _ lk) Y S.co S.gen Y (PySem.W.codeRec_of KX fG) (hb _ _ _ _ ?_);refine wpAny_newFunctionEnv_cells S.kind M7 λenv he s1 x=>?_;subst he;refine#[lim.keeps x.toInCall.keep,codeAny_func ?_];obtain⟨t,ht,hq⟩:=gI A outer s H vs Q E (hr.deeper _) lM;have I:Inv (eV CX P w K mg base N qual scope f a7 A outer s H E) [] (start N vs) H s1:=M6 S hr.hd e0 hl r x;refine aba (ht [] s1 (start N vs) H _ I hq) (λfl s' hs=>?_) λe s' hs=>hs;have fin:∀ {σ':St} {H':Hp} {v:V} {u:ZP},Inv (eV CX P w K mg base N qual scope f a7 A outer s H E) [] σ' H' s'->RelV v u->Q v H'->CE outer P w H s Q u s' :=
  λ{σ' H' v u} J9q rv q=>#[v,H',J9q.os,J9q.bare,J9q.base,J9q.ak,rv,q]
 cases fl with
 | ret u =>
  obtain⟨v,σ',H',J9q,rv,q⟩:=hs;exact fin J9q rv q
 | next =>
  obtain⟨σ',H',J9q,q⟩:=hs;exact fin (v:=V.non) (u:=Value.none) J9q Y q
 | brk =>
  obtain⟨_,_,_,q⟩:=hs;exact acq q
 | cont =>
  obtain⟨_,_,_,q⟩:=hs;exact acq q
section
variable{X:Cx}{x:Str}{p pos:Pos}{e:ael}{es:List ael}{t:TA}{id T:String}{r:List V->Hp->VK->Prop}
def yd(r:List V->Hp->VK->Prop)(t:TA):TE:=λJ H Q=>t J H λvs H1=>r vs H1 Q
theorem bp(hc:eT X (.builtin id) r)(hg:Gl X x)(hm:X.mg x=O)(hv:aax x=U (.builtin id))(ha:PA X (e::es) t)(hn:x ≠ "__name__" := by decide)(gG:(x == ("__debug__" : Str))=false:=by decide)(he:aae (e::es) X.env=(false,eval e X.env)::aae es X.env:=by rfl)(dJ:(aca pos (aae es X.env)).any (·.1)=false:=by rfl):PE X (.Call (.Name x p) (e::es) [] pos) (yd r t):=by intro pins s J H Q I h;refine aa9 (eB I hg hm hv ?_ hn gG);exact acR (az (ha pos pins s J H _ I h) λus s1 ⟨vs,H1,I1,r1,q1⟩=>hc pins s1 J H1 vs us Q I1 r1 q1) he dJ
theorem ye(hc:eT X (.type T) r)(hg:Gl X x)(hm:X.mg x=O)(hv:aax x=U (.type T))(ha:PA X (e::es) t)(hn:x ≠ "__name__" := by decide)(gG:(x == ("__debug__" : Str))=false:=by decide)(he:aae (e::es) X.env=(false,eval e X.env)::aae es X.env:=by rfl)(dJ:(aca pos (aae es X.env)).any (·.1)=false:=by rfl):PE X (.Call (.Name x p) (e::es) [] pos) (yd r t):=by intro pins s J H Q I h;refine aa9 (eB I hg hm hv ?_ hn gG);exact aaq (az (ha pos pins s J H _ I h) λus s1 ⟨vs,H1,I1,r1,q1⟩=>hc pins s1 J H1 vs us Q I1 r1 q1) he dJ
end
end L2
namespace HT
open PySem PyProof.Rows
noncomputable def lexLt:List Int->List Int->Bool
 | [],[]=>false
 | [],_::_=>true
 | _::_,[]=>false
 | x::xs,y::ys=>if x=y then lexLt xs ys else decide (x<y)
theorem lN(x y:Int)(xs ys:List Int):lexLt (x::xs) (y::ys)=if x=y then lexLt xs ys else decide (x<y):=rfl
section
open PySem.SeqAt
open PySem.AutoSeq1 (wpAny_loadPart')
open PySem.MeetsSeq PySem.MeetsSeq2 PySem.MeetsSeq3
end
section
noncomputable def eW(n d:Nat):Option Int->Nat
 | none=>d
 | some v=>if v<0 then (v+(n:Int)).toNat else min v.toNat n
theorem M8(n d:Nat):eW n d O=d:=rfl
theorem M9(n d k:Nat):eW n d (U (k:Int))=min k n:=by show (if (k:Int)<0 then ((k:Int)+(n:Int)).toNat else min (k:Int).toNat n)=min k n;rw[if_neg (by omega),aat]
end
end HT
namespace L2
open PySem PySem.Spec PyProof.Rows
abbrev TO:=St->Hp->(Option Int->Hp->Prop)->Prop
def PO(X:Cx)(e:Option ael)(t:TO):Prop :=
 ∀ (pins:List (ZX × Obj)) (s:ZU) (J:St) (H:Hp) (Q:Option Int->Hp->Prop),Inv X pins J H s->t J H Q ->
  ZZ (model X.prog X.w) X.A (evalPart e X.env) (λu s'=>∃ o H',Inv X pins J H' s'/\IsPart u o/\Q o H') X.xe s
noncomputable def EM:TO:=λy H Q=>Q O H
noncomputable def EN(t:TE):TO:=λJ H Q=>t J H λx H1=>∃ i,x = .int i/\Q (U i) H1
theorem intsAre_of:∀ {us:List ZP},Vals (ns.map V.int) us->adT us ns:=by
 induction ns with
 | nil=>intro us r;rw[acS] at r;cases r;exact .nil
 | cons n ns ih =>
  intro us r;rw[Z0] at r;cases r with
  | cons r1 r2 =>
   obtain⟨t,e⟩:=r1;subst e;exact .cons n t (ih r2)
section
variable{X:Cx}{e:ael}{te:TE}{lo hi:Option ael}{tl th:TO}{pos p2:Pos}
theorem yf:PO X O EM:=by intro pins s J H Q I h;rw[agU];exact ZI #[O,H,I,.none,h]
theorem yg(h:PE X e te):PO X (U e) (EN te):=by intro pins s J H Q I hw;rw[evalPart_some];refine az (h pins s J H _ I hw) λu s1 zq=>?_;obtain⟨x,H1,I1,r1,q1⟩:=zq;obtain⟨i,rfl,q⟩:=q1;obtain⟨t,rfl⟩:=r1;exact#[U i,H1,I1,.int i t,q]
def EO(X:Cx)(r:V->Option Int->Option Int->Hp->VK->Prop):Prop :=
 ∀ (pins:List (ZX × Obj)) (s:ZU) (J:St) (H:Hp) (x:V) (v vl vu:ZP) (lo hi:Option Int) (sl:ZX) (Q:VK),Inv X pins J H s->RelV x v->s.heap.IsSliceOf sl vl vu .none->IsPart vl lo->IsPart vu hi->r x lo hi H Q ->
  ∃ T id,agm (.type T) "__getitem__" = pure (U (.builtin id))/\s.TypeIs v T/\ZZ (model X.prog X.w) X.A (ahY v (.ref sl)) (EP X pins J Q) X.xe s
def ER(r:V->Option Int->Option Int->Hp->VK->Prop)(te:TE)(tl th:TO):TE:=λJ H Q=>te J H λx H1=>tl J H1 λl H2=>th J H2 λu H3=>r x l u H3 Q
theorem yh{r:V->Option Int->Option Int->Hp->VK->Prop}(hr:EO X r)(he:PE X e te)(hl:PO X lo tl)(hu:PO X hi th):PE X (.Subscript e (.Slice lo hi O p2) pos) (ER r te tl th):=by intro pins s J H Q I h;refine ahe (az (he pins s J H _ I h) λv s1 zq=>?_);obtain⟨x,H1,I1,r1,q1⟩:=zq;refine wpAny_Slice (az (hl pins s1 J H1 _ I1 q1) λvl s2 ⟨l,H2,I2,pl,q2⟩=>az (hu pins s2 J H2 _ I2 q2) λvu s3 zq=>?_);obtain⟨u,H3,I3,pu,q3⟩:=zq;rw[agU];refine ZI ?_;have I4:Inv X pins J H3 { s3 with heap:=s3.heap.push { cls:=.type "slice",data:=.fields (List.toArray [vl,vu,.none]) } }:=I3.kept (t':=s3.toks) λb ob q=>ZH _ q;obtain⟨T,id,hT,ht,hg⟩:=hr pins { s3 with heap:=s3.heap.push { cls:=.type "slice",data:=.fields (List.toArray [vl,vu,.none]) } } J H3 x v vl vu l u s3.heap.objs.size Q I4 r1 (Heap.IsSliceOf.new ..) pl pu q3;show ZZ (model X.prog X.w) X.A (afn e (.Slice lo hi O p2) v (.ref s3.heap.objs.size)) (EP X pins J Q) X.xe { s3 with heap:=s3.heap.push { cls:=.type "slice",data:=.fields (List.toArray [vl,vu,.none]) } };exact tail_any (ops:=[.ref s3.heap.objs.size,v]) ht hT hg (by with_unfolding_all rfl)
noncomputable def kC(xs:List V)(lo hi:Option Int):List V:=(xs.drop (HT.eW xs.length 0 lo)).take (HT.eW xs.length xs.length hi-HT.eW xs.length 0 lo)
theorem Na(xs:List V)(lo hi:Option Int):(kC xs lo hi).length<=xs.length:=by unfold kC;rw[aeo,afy];omega
end
noncomputable def i0(n:Nat)(i:Int):Option Nat:=if 0<=i then (if i<n then U i.toNat else O) else if -(n:Int)<=i then U (i+n).toNat else O
noncomputable def cN{α:Type}(xs:List α)(i:Int):Option α:=(i0 xs.length i).bind λj=>xs[j]?
theorem ES(h:i0 n i=U j):seqIndex? i n=U j/\j<n/\-(n:Int)<=i/\i<n:=by
 unfold i0 at h;by_cases h0:0<=i
 .rw[if_pos h0] at h;by_cases h1:i<n
  .rw[if_pos h1] at h;have e:i.toNat=j:=Option.some.inj h;exact#[by rw[ahZ h0 h1,e],by omega,by omega,h1]
  .rw[if_neg h1] at h;cases h
 .rw[if_neg h0] at h;by_cases h1 : -(n:Int)<=i
  .rw[if_pos h1] at h;have e:(i+n).toNat=j:=Option.some.inj h;exact#[by rw[ahr (by omega) h1,e],by omega,h1,by omega]
  .rw[if_neg h1] at h;cases h
theorem yi(h:cN xs i=U v):∃ j,seqIndex? i xs.length=U j/\xs[j]?=U v/\j<xs.length/\-(xs.length:Int)<=i/\i<xs.length:=by
 unfold cN at h;cases e:i0 xs.length i with
 | none=>rw[e] at h;cases h
 | some j =>
  rw[e] at h;obtain⟨h1,h2,h3,h4⟩:=ES e;exact#[j,h1,h,h2,h3,h4]
theorem dZ{α:Type}{xs:List α}{j:Nat}{v:α}(h:xs[j]?=U v):cN xs (j:Int)=U v:=by
 have hj:j<xs.length:=(ZL.mp h).1;have e:i0 xs.length (j:Int)=U j:=by unfold i0;rw[if_pos (by omega),if_pos (by omega)];simp
 unfold cN;rw[e];exact h
theorem ET(xs:List α)(v:α):cN (xs++[v]) (-1)=U v:=by
 have hl:(xs++[v]).length=xs.length+1:=by simp
 have e:i0 (xs++[v]).length (-1)=U xs.length:=by
  unfold i0;rw[hl,if_neg (by decide),if_pos (by omega)]
  congr 1
  omega
 unfold cN;rw[e];show (xs++[v])[xs.length]?=U v;simp
def yj(b:ael):Prop:=∀ o i,subscripted b false o i=operate [o,i] (ahY o i)
def jH(X:Cx)(r:R2):Prop :=
 ∀ (value slice:ael) (pins:List (ZX × Obj)) (s:ZU) (J:St) (H:Hp) (x y:V) (v u:ZP) (Q:VK),Inv X pins J H s->RelV x v->RelV y u->r x y H Q ->
  subscripted slice false v u=operate [v,u] (ahY v u)->ZZ (model X.prog X.w) X.A (afn value slice v u) (EP X pins J Q) X.xe s
def yk(X:Cx)(id:String)(r:V->List V->Hp->VK->Prop):Prop :=
 ∀ (pins:List (ZX × Obj)) (s:ZU) (J:St) (H:Hp) (x:V) (xs:List V) (v:ZP) (us:List ZP) (Q:VK),Inv X pins J H s->RelV x v->Vals xs us->r x xs H Q ->
  ZZ (model X.prog X.w) X.A (call (.builtin id) (v::us)) (EP X pins J Q) X.xe s
section
variable{X:Cx}{a b:ael}{ta tb:TE}{pos:Pos}
theorem jH.or(h:jH X r)(h':jH X r'):jH X (λx y H Q=>r x y H Q∨r' x y H Q):=by
 intro value slice pins s J H x y v u Q I rx ry q hs;rcases q with q|q
 .exact h value slice pins s J H x y v u Q I rx ry q hs
 .exact h' value slice pins s J H x y v u Q I rx ry q hs
theorem cv(hr:jH X r)(ha:PE X a ta)(hb:PE X b tb)(hs:yj b):PE X (.Subscript a b pos) (ni r ta tb):=by intro pins s J H Q I h;exact ahe (xY ha hb I h λv u s2 x y H2 I2 rx ry q=>hr a b pins s2 J H2 x y v u Q I2 rx ry q (hs _ _))
def EU(K:ZF):R2:=λx y H Q=>∃ p xs i v,x = .ref p/\y = .int i/\ah K H p xs/\cN xs i=U v/\Q v H
def EV(K:ZF):R2:=λx y H Q=>∃ p xs i v,x = .ref p/\y = .int i/\aw K H p xs/\cN xs i=U v/\Q v H
def EW:R2:=λx y H Q=>∃ z i c,x = .str z/\y = .int i/\z.length<=aah/\cN z.cps.toList i=U c/\Q (.str #[(List.toArray [c])]) H
theorem Nb:jH X (EU X.K):=by
 intro value slice pins s J H x y v u Q I rx ry h hs;obtain⟨p,xs,i,z,rfl,rfl,hq,he,q⟩:=h;cases rx;obtain⟨t,rfl⟩:=ry;obtain⟨ai,r,pl,hz⟩:=I.list hq;obtain⟨j,h1,h2,h3,h4,h5⟩:=yi he;obtain⟨w,ew,i3⟩:=r.get h2;have hl:=r.length;have hn:=o7;have fin:EP X pins J Q w s:=#[z,H,I,i3,q]
 by_cases h0:0<=i
 .have hj:i.toNat=j:=by rw[ahZ h0 h5] at h1;exact Option.some.inj h1
  exact item_listR pl.isList h0 (by omega) (by rw[hj];simpa using ew) fin hs
 .have hj:(i+(ai.toArray.size:Int)).toNat=j:=by rw[ahr (by omega) h4] at h1;rw[ZW,<- hl];exact Option.some.inj h1
  exact afI (x:=w) pl.isList.typeIs slot_list_getitem.lookup
   (wpAny_getItem_list_neg (Q:=λr s'=>r=w/\EP X pins J Q r s') pl.isList (by omega) (by rw[ZW]<;>omega) (by omega) (by rw[hj];simpa using ew) #[Y,fin]) hs
theorem Nc:jH X (EV X.K):=by
 intro value slice pins s J H x y v u Q I rx ry h hs;obtain⟨p,xs,i,z,rfl,rfl,hq,he,q⟩:=h;cases rx;obtain⟨t,rfl⟩:=ry;obtain⟨ai,r,pl,hz⟩:=I.tuple hq;obtain⟨j,h1,h2,h3,h4,h5⟩:=yi he;obtain⟨w,ew,i3⟩:=r.get h2;have hl:=r.length;have hn:=o7;have fin:EP X pins J Q w s:=#[z,H,I,i3,q]
 exact afI (x:=w) pl.typeIs slot_tuple_getitem.lookup
  (getItem_tuple (j:=j) (Q:=λr s'=>r=w/\EP X pins J Q r s') pl (by omega) (by omega) (by rw[ZW,<- hl];exact h1) (by simpa using ew) #[Y,fin]) hs
theorem Nd:jH X EW:=by
 intro value slice pins s J H x y v u Q I rx ry h hs;obtain⟨z,i,c,rfl,rfl,hz,he,q⟩:=h;obtain⟨t,rfl⟩:=rx;obtain⟨t',rfl⟩:=ry;obtain⟨j,h1,h2,h3,h4,h5⟩:=yi he;have hl:z.cps.toList.length=z.length:=by simp[Str.length]
 rw[hl] at h1 h4 h5;have hn:=o7;exact tail_any (typeIs_str s z t) slot_str_getitem.lookup (getItem_str (c:=c) (by
  have e1:decide (i < -(2 ^ 63:Int))=false:=decide_eq_false (by omega);have e2:decide (i ≥ 2 ^ 63)=false:=decide_eq_false (by omega);rw[e1,e2,Bool.or_false]) (by rw[h1];simpa using h2) #[.str #[(List.toArray [c])],H,I.tok _,#[_,Y],q]) hs
def eJ(K:ZF):R2:=λx y H Q=>EU K x y H Q∨EV K x y H Q∨EW x y H Q
theorem cw:jH X (eJ X.K):=Nb.or (Nc.or Nd)
theorem Nf(ai:List ZP)(n j:Nat)(u:ZP):aaZ (·.setIfInBounds j u) { cls:=.type "list",data:=.seq ai.toArray n } = { cls:=.type "list",data:=.seq (ai.set j u).toArray n }:=by simp[aaZ]
theorem Inv.lst(I:Inv X pins J H s)(h:H p=U (.lst xs)) :
 ∃ (ai:List ZP) (n:Nat),Vals xs ai/\s.heap.get? p=U { cls:=.type "list",data:=.seq ai.toArray n }/\xs.length<=aah:=by
 obtain⟨z,ai,n,r,e⟩:=I.ak p _ h;exact#[ai,n,r,e,z]
theorem Inv.Ng{pins:List (ZX × Obj)}{J:St}{H:Hp}{s:ZU}{p:ZX}{xs ys:List V}{ai its':List ZP}{n n':Nat}{f:Obj->Obj}(I:Inv X pins J H s)(h:H p=U (.lst xs))
 (ho:s.heap.get? p=U { cls:=.type "list",data:=.seq ai.toArray n }) (hf:f { cls:=.type "list",data:=.seq ai.toArray n } = { cls:=.type "list",data:=.seq its'.toArray n' }) (r:Vals ys its') (hz:ys.length<=aah) (t:Nat) :
 Inv X pins J (upd H p (.lst ys)) { s with heap:=s.heap.update p f,toks:=t }:=by
 have e:(s.heap.update p f).get? p=U { cls:=.type "list",data:=.seq its'.toArray n' }:=by rw[aam f ho (by rw[hf]<;>rfl),hf]
 refine I.write (x:=p) (e:=p) (by rw[h];trivial) (.inl rfl) (λb u hb q=>(ZV _ _ (aaQ hb)).trans q) #[_,e] ?_;exact#[hz,its',n',r,e]
def EX:V->V->V->Hp->(Hp->Prop)->Prop:=λo i v H Q=>∃ p xs k j,o = .ref p/\i = .int k/\H p=U (.lst xs)/\i0 xs.length k=U j/\Q (upd H p (.lst (xs.set j v)))
theorem set_list:Ee X EX:=by
 intro pins s J H o i v ov iv u Q I ro ri rv h;obtain⟨p,xs,k,j,rfl,rfl,hp,hj,q⟩:=h;cases ro;obtain⟨t,rfl⟩:=ri;obtain⟨ai,n,r,ho,hz⟩:=I.lst hp;obtain⟨h1,h2,h3,h4⟩:=ES hj;have hl:=r.length;have hn:=o7;have I':Inv X pins J (upd H p (.lst (xs.set j v))) { s with heap:=s.heap.update p (aaZ (·.setIfInBounds j u)) } :=
  I.Ng hp ho (Nf ai n j u) (r.set rv j) (by rw[ah0];exact hz) s.toks
 by_cases h0:0<=k
 .have hk:k.toNat=j:=by rw[ahZ h0 h4] at h1;exact Option.some.inj h1
  exact PySem.W.ki_setAt ho h0 (by omega) (by rw[ZW,<- hl];exact h4) (by rw[hk];exact#[_,I',q])
 .have hk:(k+(ai.toArray.size:Int)).toNat=j:=by rw[ahr (by omega) h3] at h1;rw[ZW,<- hl];exact Option.some.inj h1
  exact PySem.W.ki_setBack ho (by omega) (by rw[ZW,<- hl];exact h3) (by omega) (by rw[hk];exact#[_,I',q])
theorem Nh(lo hi:Option Int)(n:Nat):(adH lo hi O n).1=((HT.eW n 0 lo:Nat):Int)/\(adH lo hi O n).2.1=((HT.eW n n hi:Nat):Int)/\(adH lo hi O n).2.2=1:=by
 refine#[?_,?_,Y]
 .cases lo with
  | none=>simp[adH,HT.eW]
  | some i =>
   simp only[adH,HT.eW,Option.getD_none,show (1:Int) > 0 by decide,if_true];by_cases h:i<0
   .simp only[h,if_true]<;>omega
   .simp only[h,if_false]<;>omega
 .cases hi with
  | none=>simp[adH,HT.eW]
  | some i =>
   simp only[adH,HT.eW,Option.getD_none,show (1:Int) > 0 by decide,if_true];by_cases h:i<0
   .simp only[h,if_true]<;>omega
   .simp only[h,if_false]<;>omega
theorem Ni(ai:List ZP)(lo hi:Option Int):ah1 ai.toArray lo hi O=((ai.drop (HT.eW ai.length 0 lo)).take (HT.eW ai.length ai.length hi-HT.eW ai.length 0 lo)).toArray:=by obtain⟨h1,h2,h3⟩:=Nh lo hi ai.toArray.size;unfold ah1;rw[h1,h2,h3];simp only[sliceRange_one,pick_run,ZW]<;>rfl
def EY(K:ZF):V->Option Int->Option Int->Hp->VK->Prop:=λx lo hi H Q=>∃ a xs,x = .ref a/\ah K H a xs/\∀ p,H p=O->Q (.ref p) (upd H p (.lst (kC xs lo hi)))
theorem ym:EO X (EY X.K):=by intro pins s J H x v vl vu lo hi sl Q I rx hs pl pu h;obtain⟨a,xs,rfl,hx,q⟩:=h;cases rx;obtain⟨ai,r,ht,hz⟩:=I.list hx;have hlen:=r.length;refine#["list",_,slot_list_getitem.lookup,ht.isList.typeIs,?_];refine ae7 ht.isList hs pl pu .none (by simp) ?_ (by rw[ZW]<;>omega);rw[Ni,<- hlen];refine#[.ref s.heap.objs.size,_,I.laid (t':=s.toks) (o:=.lst (kC xs lo hi)) (λb ob q=>ZH _ q) (ZS _) ?_,Y,q _ (I.ak.fresh (ZS _))];exact#[ZQ (Na xs lo hi) hz,_,0,(r.drop (HT.eW xs.length 0 lo)).take (HT.eW xs.length xs.length hi-HT.eW xs.length 0 lo),ZR _ Y]
noncomputable def kD:V->Bool
 | .non=>true
 | .bl _=>true
 | .int _=>true
 | .str _=>true
 | _=>false
noncomputable def lO:V->V->Bool
 | .non,.non=>true
 | .bl a,.bl b=>a == b
 | .bl a,.int b=>(if a then 1 else 0) == b
 | .int a,.bl b=>a == (if b then 1 else 0)
 | .int a,.int b=>a == b
 | .str a,.str b=>a == b
 | _,_=>false
theorem Nj(ry:RelV y u)(rx:RelV x v)(fy:kD y=true)(fx:kD x=true):SeqAt.EqAt A s u v (lO y x):=by
 cases y with
 | non =>
  cases ry;cases x with
  | non=>cases rx;exact SeqAt.EqAt.same _
  | bl b=>cases rx;exact SeqAt.EqAt.none_bool b
  | int b=>obtain⟨t,rfl⟩:=rx;exact SeqAt.EqAt.none_int b t
  | str b=>obtain⟨t,rfl⟩:=rx;exact SeqAt.EqAt.none_str b t
  | _=>exact absurd (show false=true from fx) aag
 | bl a =>
  cases ry;cases x with
  | non=>cases rx;exact SeqAt.EqAt.bool_none a
  | bl b=>cases rx;exact SeqAt.EqAt.bool_bool a b
  | int b=>obtain⟨t,rfl⟩:=rx;exact SeqAt.EqAt.bool_int a b t
  | str b=>obtain⟨t,rfl⟩:=rx;exact SeqAt.EqAt.bool_str a b t
  | _=>exact absurd (show false=true from fx) aag
 | int a =>
  obtain⟨t',rfl⟩:=ry;cases x with
  | non=>cases rx;exact SeqAt.EqAt.int_none a t'
  | bl b=>cases rx;exact SeqAt.EqAt.int_bool a t' b
  | int b=>obtain⟨t,rfl⟩:=rx;exact SeqAt.EqAt.int_int a t' b t
  | str b=>obtain⟨t,rfl⟩:=rx;exact SeqAt.EqAt.int_str a t' b t
  | _=>exact absurd (show false=true from fx) aag
 | str a =>
  obtain⟨t',rfl⟩:=ry;cases x with
  | non=>cases rx;exact SeqAt.EqAt.str_none a t'
  | bl b=>cases rx;exact SeqAt.EqAt.str_bool a t' b
  | int b=>obtain⟨t,rfl⟩:=rx;exact SeqAt.EqAt.str_int a t' b t
  | str b=>obtain⟨t,rfl⟩:=rx;exact SeqAt.EqAt.str_str a t' b t
  | _=>exact absurd (show false=true from fx) aag
 | _=>exact absurd (show false=true from fy) aag
noncomputable def fK(x:V)(u:ZP):Bool:=match u with
 | .none=>lO .non x
 | .bool b=>lO (.bl b) x
 | .int i _=>lO (.int i) x
 | .str z _=>lO (.str z) x
 | _=>false
theorem EZ(r:RelV y u)(f:kD y=true):fK x u=lO y x:=by
 cases y with
 | non=>cases r;rfl
 | bl b=>cases r;rfl
 | int i=>obtain⟨t,rfl⟩:=r;rfl
 | str z=>obtain⟨t,rfl⟩:=r;rfl
 | _=>exact absurd (show false=true from f) aag
theorem vf:∀ {xs:List V} {us:List ZP},Vals xs us->xs.all kD=true->us.any (fK x)=xs.any λy=>lO y x:=by
 intro z z h f
 induction h with
 | nil=>rfl
 | cons r t ih =>
  rw[aiA,abi] at f;rw[abu,abu,EZ r f.1,ih f.2]
theorem qZ(rx:RelV x v)(fx:kD x=true):∀ {xs:List V} {us:List ZP},Vals xs us->xs.all kD=true->∀ u∈us,SeqAt.EqAt A s u v (fK x u)
 | _,_,.nil,_=>λu hu=>by cases hu
 | y::xs,u::us,.cons r t,f=>λu' hu=>by
  rw[aiA,abi] at f;rcases ZO.mp hu with rfl|hu
  .rw[EZ r f.1];exact Nj r rx f.1 fx
  .exact qZ rx fx t f.2 u' hu
noncomputable def vg(x:V)(xs:List V):Bool:=xs.any λy=>lO y x
def vh(K:ZF)(neg:Bool):R2:=λx y H Q=>∃ p xs,y = .ref p/\(ah K H p xs∨aw K H p xs)/\kD x=true/\xs.all kD=true/\Q (.bl (if neg then !vg x xs else vg x xs)) H
theorem yn:bo X (abl .In) (vh X.K false):=by
 intro pins s J H x y v u Q I rx ry h;obtain⟨p,xs,rfl,hq,fx,fs,q⟩:=h;cases ry;rcases hq with hq|hq
 .obtain⟨ai,r,pl,hz⟩:=I.list hq;refine SeqAt.in_listAt (fK x) pl.isList (λw hw=>qZ rx fx r fs w (by simpa using hw)) #[.bl _,H,I,Y,?_];rw[show ai.toArray.any (fK x)=ai.any (fK x) by simp,vf r fs];exact q
 .obtain⟨ai,r,pl,hz⟩:=I.tuple hq;refine SeqAt.in_tupleAt (fK x) pl (λw hw=>qZ rx fx r fs w (by simpa using hw)) #[.bl _,H,I,Y,?_];rw[show ai.toArray.any (fK x)=ai.any (fK x) by simp,vf r fs];exact q
theorem E1:bo X (abl .NotIn) (vh X.K true):=by
 intro pins s J H x y v u Q I rx ry h;obtain⟨p,xs,rfl,hq,fx,fs,q⟩:=h;cases ry;rcases hq with hq|hq
 .obtain⟨ai,r,pl,hz⟩:=I.list hq;refine SeqAt.notIn_listAt (fK x) pl.isList (λw hw=>qZ rx fx r fs w (by simpa using hw)) #[.bl _,H,I,Y,?_];rw[show ai.toArray.any (fK x)=ai.any (fK x) by simp,vf r fs];exact q
 .obtain⟨ai,r,pl,hz⟩:=I.tuple hq;refine SeqAt.notIn_tupleAt (fK x) pl (λw hw=>qZ rx fx r fs w (by simpa using hw)) #[.bl _,H,I,Y,?_];rw[show ai.toArray.any (fK x)=ai.any (fK x) by simp,vf r fs];exact q
def yo(K:ZF)(T:String)(x:V)(H:Hp):Prop:=match x with
 | .str _=>T = "str"
 | .int _=>T = "int"
 | .ref p=>(T = "list" /\ ∃ xs,ah K H p xs)∨(T = "tuple" /\ ∃ o,K.lookup p=U o/\o.cls = .type "tuple" /\ o.dict=O) ∨
  (T = "dict" /\ ((∃ kvs,H p=U (.dK kvs)) ∨ ∃ kvs,H p=U (.dT kvs)))∨(T = "set" /\ ∃ S n,H p=U (.set S n))
 | _=>False
theorem E2(I:Inv X pins J H s)(r:RelV x v)(ty:yo X.K T x H) :
 s.TypeIs v T/\∀ a,v = .ref a->∃ ob,s.heap.get? a=U ob/\ob.dict=O:=by
 cases x with
 | str z =>
  obtain⟨t,rfl⟩:=r;cases (show T = "str" from ty);exact#[typeIs_str s z t,λy e=>nomatch e]
 | int i =>
  obtain⟨t,rfl⟩:=r;cases (show T = "int" from ty);exact#[ait s i t,λy e=>nomatch e]
 | ref p =>
  cases r;rcases ty with ⟨rfl,xs,hq⟩|⟨rfl,o,hk,hc,hd⟩|⟨rfl,hk⟩|⟨rfl,S,n,hk⟩
  .obtain⟨ai,y,pl,y⟩:=I.list hq;refine#[pl.isList.typeIs,λa e=>?_];cases e;obtain⟨o,n,e,c,hd,y⟩:=pl;exact#[o,e,hd]
  .refine#[#[o,I.cM p o hk,hc],λa e=>?_];cases e;exact#[o,I.cM _ o hk,hd]
  .have z:∃ o,s.heap.get? p=U o/\o.ExactDict:=by
    rcases hk with ⟨kvs,hk⟩|⟨kvs,hk⟩
    .obtain⟨y,y,y,y,o,y,y,e,ex,y⟩:=I.ak p _ hk;exact#[o,e,ex]
    .obtain⟨y,y,y,y,o,y,y,e,ex,y⟩:=I.ak p _ hk;exact#[o,e,ex]
   obtain⟨o,e,ex⟩:=z;refine#[#[o,e,ex.1],λa e2=>?_];cases e2;exact#[o,e,ex.2.1]
  .obtain⟨o,y,y,y,e,ex,y⟩:=I.ak p _ hk;refine#[#[o,e,ex.1],λa e2=>?_];cases e2;exact#[o,e,ex.2.1]
 | _=>exact acq ty
def E3(K:ZF)(T:String)(r:V->List V->Hp->VK->Prop)(to:TE):TE:=λJ H Q=>to J H λx H1=>yo K T x H1/\r x [] H1 Q
def E4(K:ZF)(T:String)(r:V->List V->Hp->VK->Prop)(to:TE)(t:TA):TE:=λJ H Q=>to J H λx H1=>yo K T x H1/\t J H1 λxs H2=>r x xs H2 Q
variable{o e:ael}{es:List ael}{to:TE}{t:TA}{name:Str}{apos cI:Pos}{T id:String}{r:V->List V->Hp->VK->Prop}
theorem E5(pa:PlainAttrs T)(slot:Slot T name id)(nr:typeOf (.builtin id)=pure (.type "method_descriptor"))(hm:yk X id r)(ho:PE X o to)(yq:adi o name X.env (eval o X.env)=eval o X.env:=by rfl)(yr:(apos.endLine == cI.line)=true:=by rfl):PE X (.Call (.Attribute o name apos) [] [] cI) (E3 X.K T r to):=by intro pins s J H Q I h;refine wpAny_Call_method0_late yq yr (az (ho pins s J H _ I h) λv s1 zq=>?_);obtain⟨x,H1,I1,r1,ty,q1⟩:=zq;obtain⟨h1,h2⟩:=E2 I1 r1 ty;exact#[T,id,pa,slot,nr,h1,h2,ad0 Y (PySem.evalArgs_none (hm pins s1 J H1 x [] v [] Q I1 r1 .nil q1))]
theorem nu(pa:PlainAttrs T)(slot:Slot T name id)(nr:typeOf (.builtin id)=pure (.type "method_descriptor"))(hm:yk X id r)(ho:PE X o to)(ha:PA X (e::es) t)(yq:adi o name X.env (eval o X.env)=eval o X.env:=by rfl)(Nk:((aca cI (aae (e::es) X.env)).all (λx=>!x.1) && (ahS cI (afl [] X.env)).all (λx=>x.1.isSome)
 && decide ((e::es).length+([]:List ah2).length+(if ([]:List ah2).isEmpty then 0 else 1)<30))=true:=by rfl) (yr:(apos.endLine == cI.line)=true:=by rfl) (hs:aae (e::es) X.env=(false,eval e X.env)::aae es X.env:=by rfl) (Nl:(aca cI (aae es X.env)).any (·.1)=false:=by rfl) :
 PE X (.Call (.Attribute o name apos) (e::es) [] cI) (E4 X.K T r to t):=by
 intro pins s J H Q I h;refine wpAny_Call_method_late yq Nk yr Y (az (ho pins s J H _ I h) λv s1 zq=>?_);obtain⟨x,H1,I1,r1,ty,q1⟩:=zq;obtain⟨h1,h2⟩:=E2 I1 r1 ty;refine#[T,id,pa,slot,nr,h1,h2,?_];have hA:=ha cI pins s1 J H1 _ I1 q1;rw[hs] at hA ⊢;refine ad0 (by show (false || (aca cI (aae es X.env)).any (·.1))=false;rw[Nl]<;>rfl) (aer ?_);exact az hA λus s2 ⟨vs,H2,I2,r2,q2⟩=>hm pins s2 J H2 x vs v us Q I2 r1 r2 q2
end
def yt(X:Cx)(id:String)(r:V->List V->Hp->VK->Prop):Prop :=
 ∀ (pins:List (ZX × Obj)) (s:ZU) (J:St) (H:Hp) (x:V) (xs:List V) (v:ZP) (us:List ZP) (Q:VK),Inv X pins J H s->RelV x v->Vals xs us->r x xs H Q ->
  ZZ (model X.prog X.w) X.A (call (.builtin id) (v::us)) (EP X pins J Q) X.xe s
theorem Vals.one:∀ {x:V} {us:List ZP},Vals [x] us->∃ u,us=[u]/\RelV x u:=by
 intro x us h;cases h with
 | cons r t=>cases t;exact#[_,Y,r]
theorem Vals.zero:∀ {us:List ZP},Vals [] us->us=[]
 | _,.nil=>rfl
theorem Vals.reverse(h:Vals xs us):Vals xs.reverse us.reverse:=by
 induction h with
 | nil=>exact .nil
 | cons r t ih=>rw[ad6,ad6];exact Vals.append ih (.cons r .nil)
section
theorem Inv.yu{ai its':List ZP}{n:Nat}{f:Array ZP->Array ZP}{t':Nat}(I:Inv X pins J H s)(hH:H l=U (.lst xs))
 (e:s.heap.get? l=U { cls:=.type "list",data:=.seq ai.toArray n }) (hf:f ai.toArray=its'.toArray) (hv:Vals ys its') (hz:ys.length<=aah) :
 Inv X pins J (upd H l (.lst ys)) { s with heap:=s.heap.update l (aaZ f),toks:=t' }:=by
 have q:=PySem.IsL.update e f;rw[hf] at q;refine I.write (x:=l) (e:=l) (by rw[hH];exact trivial) (.inl rfl) (λb' u hb hu=>(ZV s.heap (aaZ f) (aaQ hb)).trans hu) #[_,q] ?_;exact#[hz,its',_,hv,q]
theorem Inv.Nm(I:Inv X pins J H s)(hv:Vals ys ai)(hz:ys.length<=aah) :
 Inv X pins J (upd H s.heap.objs.size (.lst ys)) { s with heap:=s.heap.push { cls:=.type "list",data:=.seq ai.toArray },toks:=t' } :=
 I.laid (λy y q=>ZH _ q) (ZS _) #[hz,ai,0,hv,ZR _ Y]
theorem Inv.fresh(I:Inv X pins J H s):H s.heap.objs.size=O:=I.ak.fresh (ZS _)
theorem Inv.q8(I:Inv X pins J H s)(hH:H l=U (.lst xs)):xs.length<=aah/\∃ (ai:List ZP) (n:Nat),Vals xs ai/\xs.length=ai.length/\s.heap.get? l=U { cls:=.type "list",data:=.seq ai.toArray n }:=by obtain⟨z,ai,n,r,e⟩:=I.ak l _ hH;exact#[z,ai,n,r,r.length,e]
def E6:V->List V->Hp->VK->Prop:=λx vs H Q=>∃ l xs y,x = .ref l/\vs=[y]/\H l=U (.lst xs)/\xs.length<aah/\Q .non (upd H l (.lst (xs++[y])))
theorem q9:yt X "list.append" E6:=by intro pins s J H x vs v us Q I rx rv h;obtain⟨l,xs,y,rfl,rfl,hH,hz,q⟩:=h;cases rx;obtain⟨u,rfl,ru⟩:=rv.one;obtain⟨z,ai,n,r,hl,e⟩:=I.q8 hH;refine agn agV #[_,e,Y] agI (agp _ _) (ahf l ai.toArray n u (by rw[ZW];omega)) #[e,?_];refine#[.non,_,I.yu (its':=ai++[u]) hH e (by simp) (r.append (.cons ru .nil)) ?_,Y,q];rw[aac,aab];omega
def E7:V->List V->Hp->VK->Prop:=λx vs H Q=>∃ l xs,x = .ref l/\vs=[]/\H l=U (.lst xs)/\Q .non (upd H l (.lst xs.reverse))
theorem Nn:yt X "list.reverse" E7:=by intro pins s J H x vs v us Q I rx rv h;obtain⟨l,xs,rfl,rfl,hH,q⟩:=h;cases rx;have yw:=rv.zero;subst yw;obtain⟨z,ai,n,r,hl,e⟩:=I.q8 hH;refine agn F.slot_list_reverse #[_,e,Y] F.entry_list_reverse (F.args_list_reverse_1 _) (AutoSeq1.list_reverse_list_0 l ai.toArray n (by rw[ZW];omega)) #[e,?_];refine#[.non,_,I.yu (its':=ai.reverse) hH e (by simp) r.reverse ?_,Y,q];rw[abc];omega
def Np:V->List V->Hp->VK->Prop:=λx vs H Q=>∃ l xs,x = .ref l/\vs=[]/\H l=U (.lst xs)/\Q .non (upd H l (.lst []))
theorem Nq:yt X "list.clear" Np:=by intro pins s J H x vs v us Q I rx rv h;obtain⟨l,xs,rfl,rfl,hH,q⟩:=h;cases rx;have yw:=rv.zero;subst yw;obtain⟨z,ai,n,r,hl,e⟩:=I.q8 hH;refine agn F.slot_list_clear #[_,e,Y] F.entry_list_clear (F.args_list_clear_1 _) (AutoSeq1.list_clear_list_0 l ai.toArray n (by rw[ZW];omega)) #[e,?_];exact#[.non,_,I.yu (its':=[]) (ys:=[]) hH e Y .nil (Z3 _),Y,q]
def E8:R2:=λx y H Q=>∃ l b xs zs,x = .ref l/\y = .ref b/\H l=U (.lst xs)/\H b=U (.lst zs)/\xs.length+zs.length<=aah/\∀ p,H p=O->Q (.ref p) (upd H p (.lst (xs++zs)))
theorem jI:bo X (adz .Add) E8:=by
 intro pins s J H x y v u Q I rx ry h;obtain⟨l,b,xs,zs,rfl,rfl,hH,hB,hz,q⟩:=h;cases rx;cases ry;obtain⟨z,ai,n,r,hl,e⟩:=I.q8 hH;obtain⟨z2,rd,n2,r2,cf,e2⟩:=I.q8 hB;refine PySem.P.add_list e e2 ?_ (by rw[ZW,ZW];omega);have ea:ai.toArray++rd.toArray=(ai++rd).toArray:=by simp
 rw[ea];exact#[.ref _,_,I.Nm (t':=s.toks) (r.append r2) (by rw[aac];omega),Y,q _ I.fresh]
end
section
set_option maxRecDepth 100000 in
end
section
end
end L2
namespace yy
open PySem PySem.W PySem.Calls PyProof.Rows
theorem Nr:∀ (ns:List Int) (vs:List ZP),WellAll P h vs (ns.map WData.int)->adT vs ns:=by
 intro ns
 induction ns with
 | nil =>
  intro vs w;rw[acS] at w;cases w;exact .nil
 | cons n ns ih =>
  intro vs w;rw[Z0] at w;cases w with
  | cons a b =>
   cases a;exact .cons _ _ (ih _ b)
theorem Nt{l:OpenLaw}{n:Nat}(hn:l.most=U n){P:Params}{h:acz}{args:List WData}{vals:List ZP}
 (E9:l.row.toRowW.claim.pre args=true) (Nu:WellAll P h vals args) :
 ∃ a vs ns,vals=[Z5 a]/\args=[WData.list (ns.map WData.int)]/\h.get? a=U { cls:=.type "list",data:=.seq vs.toArray }/\adT vs ns/\ns.length<=n:=by
 have b0:WShape.hasAll [] args [.list .int]=true:=(pre_splitW E9).1;have hc:l.pre.holds [] { args:=args }=true:=(pre_splitW E9).2;obtain⟨d,r,rfl,h1,h2⟩:=hasAllW_cons b0;obtain rfl:=hasAllW_nil h2;obtain⟨xs,rfl,h3⟩:=hasW_list h1;obtain⟨ns,rfl⟩:=items_int h3;have hlen:ns.length<=n:=by
  unfold OpenLaw.pre at hc;have h4:(WTm.not (.lt (.lit (.int (n:Int))) (.len (.arg 0)))).holds [] { args:=[.list (ns.map .int)] }=true:=by have h4:=(holds_andW hc).1;rw[hn] at h4;exact h4
  have h5:=condW_of h4 (w_not (w_lt w_lit (w_len_list (w_arg Y))));rw[ZJ] at h5;refine ahx λq=>?_;have q':(n:Int)<((ns.length:Nat):Int):=by omega
  first
   | (rw[decide_eq_true q'] at h5;exact absurd h5 (by decide))
   | (simp at h5;omega)
 cases Nu with
 | cons w1 w2 =>
  cases w2;cases w1 with
  | list ho ik=>exact#[_,_,ns,Y,Y,ho,Nr ns _ ik,hlen]
theorem Nv(l:OpenLaw)(args:List WData):l.row.toRowW.claim.post args (.bool true) args=true :=
 postW_of (r:=l.row.toRowW) (X:=(true == true))
  (show WShape.has [] (.bool true) .bool=true by first|rfl|decide|simp[WShape.has,WShape.arms,WShape.armsAll])
  (show (WTm.eq .res (.lit (.bool true))).value [] { args:=args,res:=U (.bool true),after:=args }=U (.bool (true == true)) from w_eq_bool (w_res Y) w_lit) rfl
section
end
end yy
namespace L2
open PySem PySem.Spec PyProof.Rows
theorem Fc:∀ {vs:List ZP} {ns:List Int},adT vs ns->Vals (ns.map V.int) vs:=by
 intro y y h
 induction h with
 | nil=>exact .nil
 | cons n t h ih=>exact .cons #[t,Y] ih
def Fd(H:Hp):Prop:=∀ b,H b=O ∨ ∃ o xs,H b=U (.aT o (.lst xs))
theorem Nw{P:aaE}{w:abb}{K:ZF}{mg mb:Str->Option ZP}{CX:gF}{k:Nat}{fa a:ZX}{fd:adA}{x:Str}{sp:Sp}{s₁:ZU}{vs:List ZP}{ns:List Int}
 (KX:K.In s₁.heap) (jJ:s₁.heap.Ns aak mg) (hb:s₁.heap.Ns ag9 mb) (yz:∀ x:Str,x ≠ "__name__" -> mb x=aax x) (Nx:s₁.heap.NoLimit) (hg:s₁.gens = (List.toArray []))
 (ha:s₁.heap.get? a=U { cls:=.type "list",data:=.seq vs.toArray }) (hi:adT vs ns) (hl:ns.length<=aah) (hr:bL k ah3)
 (F:∀ base:acz,K.In base->base.Ns aak mg->eU P w K mg base CX k fa fd [x] sp) (Ny:∀ (s:ZU) (u:ZP),ahd s fd #[[u],[]] [(x,u)])
 (lM:∀ H:Hp,Fd H->ah K H a (ns.map V.int)->sp [.ref a] H (λv _=>v = .bl true) λ_ _ _=>False)
 (Nz:∀ H e s',CX [] H s₁ (λ_ _ _=>False) e s'->False) :
 acF (model P w) ah3 (.call (.ref fa) #[[.ref a],[]]) (λr s'=>r = .ok (.ret (.bool true))/\OldK s₁.heap s'.heap/\s'.os=s₁.os/\afR s'.gens) s₁:=by
 have rv:=Fc hi;have NA:=hi.length;have core:∀ H:Hp,Fd H->ah K H a (ns.map V.int)->bS P w H s₁.heap->(∀ b,H b≠O->b=a)->(H a≠O->K.lookup a=O) ->
  acF (model P w) ah3 (.call (.ref fa) #[[.ref a],[]]) (λr s'=>r = .ok (.ret (.bool true))/\OldK s₁.heap s'.heap/\s'.os=s₁.os/\afR s'.gens) s₁:=by
  intro H hO hS ak hA hK;have Fe:∀ {b:ZX} {o:Obj},s₁.heap.get? b=U o->H b=O->(kx s₁.heap H).get? b=U o:=λe n=>Me e n;have gH:∀ {b:ZX} {o:Obj} {es:Array adb} {ep:Nat},s₁.heap.get? b=U o->o.data = .dict es ep->H b=O:=λ{b o es ep} e d=>by
   cases q:H b with
   | none=>rfl
   | some u =>
    have e':b=a:=hA b (by rw[q];simp);subst e';rw[ha] at e;cases e;have d':Data.seq vs.toArray _=Data.dict es ep:=d;cases d'
  have vk:∀ {b:ZX} {m:Str->Option ZP},s₁.heap.Ns b m->(kx s₁.heap H).Ns b m:=λ{b m} ⟨o,es,ep,e,d,r⟩=>#[o,es,ep,Fe e (gH e d),d,r]
  have Ff:K.In (kx s₁.heap H):=λb o e=>Fe (KX b o e) (by
   cases q:H b with
   | none=>rfl
   | some u =>
    have e':b=a:=hA b (by rw[q];simp);subst e';rw[hK (by rw[q];simp)] at e;cases e)
  have hM:Mod K mg (kx s₁.heap H):=#[Ff,vk jJ,#[mb,vk hb,yz],let ⟨mc,h1,h2⟩:=Nx;#[mc,vk h1,h2]]
  have e0:nk P w K mg (kx s₁.heap H) ah3 [] s₁ H:=#[Y,hM,λb o e=>Mf e,aiO (Md _ _),trivial,λb hb=>absurd (show b∈([]:List ZX) from hb) (by simp),ak,.of_eq hg]
  refine ac9 ((F _ Ff (vk jJ)).run ah3 [] s₁ H #[[.ref a],[]] [.ref a] [.ref a] _ _ hr e0 (Ny s₁ (.ref a)) (.cons rfl .nil) (lM H hO hS)) λr s' h=>?_;cases r with
  | error e=>exact (Nz H e s' h).elim
  | ok fl =>
   cases fl with
   | next=>exact acq h
   | brk=>exact acq h
   | cont=>exact acq h
   | ret u =>
    obtain⟨v,H',os,bare,un,o8,r',q⟩:=h;have q':v = .bl true:=q;subst q';obtain rfl:u=abM true:=r';refine#[Y,OldK.of_keep λb o e=>?_,os,bare];cases q:H b with
    | none=>exact un.keep b o e q (by intro z;exact absurd (show b∈([]:List ZX) from z) (by simp)) (by simp)
    | some u =>
     rcases hO b with z|⟨ob,xs,z⟩
     .rw[q] at z;cases z
     .have z2:=un.fE b ob _ z;obtain⟨e1,_⟩:=ak b _ z;obtain⟨e2,_⟩:=o8 b _ z2;rw[e] at e1;cases e1;exact e2
 cases hk:K.lookup a with
 | some o =>
  have e:=KX a o hk;rw[ha] at e;cases e;refine core (λ_=>O) (λ_=>.inl rfl) (.inr #[_,vs.toArray,_,hk,Y,Y,Y,by rw[ZW,NA];exact hl,by simpa using rv]) (λb u z=>by have z':(O:Option HO)=U u:=z;cases z') (λb z=>absurd Y z) λz=>absurd Y z
 | none =>
  refine core (λb=>if b=a then U (.aT { cls:=.type "list",data:=.seq vs.toArray } (.lst (ns.map V.int))) else O) (λb=>?_) (.inl (.inr #[{ cls:=.type "list",data:=.seq vs.toArray },if_pos Y])) (λb u z=>?_) (λb z=>?_) λ_=>hk
  .by_cases hb:b=a
   .exact .inr #[_,_,if_pos hb]
   .exact .inl (if_neg hb)
  .by_cases hb:b=a
   .have z':=(if_pos hb).symm.trans z;cases z';subst hb;exact#[ha,by rw[ZJ];exact hl,vs,_,rv,ha]
   .have z':=(if_neg hb).symm.trans z;cases z'
  .by_cases hb:b=a
   .exact hb
   .exact absurd (if_neg hb) z
def inClass(s:abX)(j:Nat):abX:=match s with
 | .ClassDef _ _ _ body _ _ _ _ _ _ _=>body.getD j (.Pass #[0,0,0,0])
 | _=>.Pass #[0,0,0,0]
noncomputable def o9(s:abX):Arguments:=match s with
 | .FunctionDef _ a _ _ _ _ _ _ _ _=>a
 | _=>{ posonlyargs:=[],args:=[],vararg:=O,kwonlyargs:=[],kw_defaults:=[],kwarg:=O,defaults:=[] }
noncomputable def il(s:abX):List abX:=match s with
 | .FunctionDef _ _ b _ _ _ _ _ _ _=>b
 | _=>[]
noncomputable def dz(s:abX):afD:=match s with
 | .FunctionDef _ _ _ _ _ _ sc _ _ _=>sc
 | _=>{ kind:=.function,names:=[],isGenerator:=false,isCoroutine:=false }
abbrev E0:XK:=λy y y=>False
structure nv(K:ZF)(x qual:Str)(st:abX)(f:ZX)(fd:adA):Prop where
 ex:∃ (oc:ZP) (od:Option ZX) (kV doc pm:ZP) (an:Option ZX) (a7 ct:ZP) (jG:Array (Option ZP)),
  fd=ada x qual (o9 st) (il st) (dz st) .none kV doc pm an a7 ct/\K.lookup f=U #[oc,od,.func fd,jG]/\aeU K a7 qual=true
 kp:ac2 K (.ref f)=true
section
variable{P:aaE}{w:abb}{K:ZF}{mg:Str->Option ZP}{base:acz}
theorem nv.binds{x qual:Str}{st:abX}{f:ZX}{fd:adA}{ps:List Str}(F:nv K x qual st f fd)
 (h:∀ (kV doc pm:ZP) (an:Option ZX) (a7 ct:ZP) (us:List ZP),us.length=ps.length->bindArgs (ada x qual (o9 st) (il st) (dz st) .none kV doc pm an a7 ct) #[us,[]]=pure (ps.zip us)):Binds K fd ps []:=by
 obtain⟨oc,od,kV,doc,pm,an,a7,ct,jG,rfl,lk,fG⟩:=F.ex;exact .all (h kV doc pm an a7 ct)
theorem pd{x qual:Str}{st:abX}{f:ZX}{oc:ZP}{od an:Option ZX}{jG:Array (Option ZP)}{kV doc pm a7 ct:ZP}(l:K.lookup f=U #[oc,od,.func (ada x qual (o9 st) (il st) (dz st) .none kV doc pm an a7 ct),jG])
 (c:aeU K a7 qual=true) (k:ac2 K (.ref f)=true):nv K x qual st f (ada x qual (o9 st) (il st) (dz st) .none kV doc pm an a7 ct):=#[#[oc,od,kV,doc,pm,an,a7,ct,jG,Y,l,c],k]
end
theorem dt(hr:bL k A):A.units+1<adQ:=aaS (Nat.add_le_add_left (by decide:1<=64) _) hr.units
section
theorem pv(i:Nat)(hN:X.N[i]?=U x:=by rfl)(hv:uM X.env.scope x:=by first|exact ade rfl|exact ahs (ade Y)|exact ahs (ahs Y))(hd:(x == ("__debug__" : Str))=false:=by decide)(fG:(x == ("__classdict__" : Str))=false:=by decide):PE X (.Name x pos) (xN i):=Mn hN hv hd fG
end
def aj(H H':Hp):Prop:=∀ b o,H b=U o->H' b=U o
theorem aj.refl(H:Hp):aj H H:=λy y h=>h
theorem aj.trans(a:aj H H1)(b:aj H1 H2):aj H H2:=λc o h=>b c o (a c o h)
theorem aj.free(e:aj H H')(h:H' l=Option.none):H l=Option.none:=by
 cases q:H l with
 | none=>rfl
 | some o =>
  rw[e l o q] at h;cases h
theorem aj.seq{K:ZF}{H H':Hp}{a:ZX}{xs:List V}(e:aj H H')(h:ah K H a xs):ah K H' a xs:=by
 rcases h with (h|⟨o,h⟩)|h
 .exact .inl (.inl (e _ _ h))
 .exact .inl (.inr #[o,e _ _ h])
 .exact .inr h
end L2
namespace Gz
open PySem PySem.Spec PyProof.Rows L2
def Bd(n:Nat)(x:Int):Prop:=x.natAbs<2 ^ n
theorem Bd.up(h:Bd n x)(hm:n<=m):Bd m x:=Z9 h (aes (by decide) hm)
theorem Bd.bits(h:Bd n x):acU x<=n:=by
 unfold acU;by_cases e:x=0
 .subst e;simp
 .have e0:¬ ((x == 0)=true):=by simpa using e
  rw[if_neg e0];have hn:x.natAbs≠0:=by lia
  have:=(Nat.log2_lt hn).mpr h;lia
def pf(i j:Int):Prop:=Bd 4000 i/\Bd 4000 j
theorem pf.ok(h:pf i j):IntMulOk i j :=
 IntMulOk.of_bits (ZQ h.1.bits (by decide)) (ZQ h.2.bits (by decide))
section
theorem NB:bo X (adz .Mult) (rI pf λi j=>.int (i * j)):=uX λy y y y y y y hc q=>mul_int q hc.ok
noncomputable def rf:V->ZP
 | .ref a=>.ref a
 | .ty n=>.type n
 | _=>.none
theorem NC:eT X (.builtin "isinstance") (λxs H Q=>∃ x c t b,xs=[x,c]/\dr X.K H x t/\rf c ≠ .none/\abG X.K t (rf c)=U b/\Q (.bl b) H):=by
 intro pins s J H xs us Q I r h;obtain⟨x,c,t,b,rfl,ty,hc,e,q⟩:=h;obtain⟨u,v,rfl,rx,rc⟩:=vals2 r;have ev:v=rf c:=by
  cases c with
  | ref a=>exact rc
  | ty n=>exact rc
  | non=>exact absurd Y hc
  | bl _=>exact absurd Y hc
  | int _=>exact absurd Y hc
  | str _=>exact absurd Y hc
  | byt _=>exact absurd Y hc
  | flt _=>exact absurd Y hc
 subst ev;exact MZ I rx ty e λtk=>#[.bl b,H,I.tok tk,Y,q]
end
theorem vm{K:ZF}{t:ZP}:abG K t t=U true:=by unfold abG;rw[if_pos (by simp)]
theorem vo{K:ZF}{a c:String}{b:Bool}(h:ah4 c=true)(h2:(PySem.fastBuiltinMro a).map (·.contains (.type c))=U b)(h3:(a == c)=false):abG K (.type a) (.type c)=U b:=by
 unfold abG;have e:¬ ((ad4 a == ad4 c)=true):=by simp only[beq_iff_eq,Value.type.injEq];simpa using h3
 rw[if_neg e];show (if ah4 c=true then PySem.W.subIn K (.type a) (.type c) else O)=U b;rw[if_pos h];exact h2
theorem ND{K:ZF}:abG K (.type "int") (.type "bool")=U false:=vo (by decide +kernel) (by decide +kernel) (by decide)
theorem NF{K:ZF}:abG K (.type "bool") (.type "int")=U true:=vo (by decide +kernel) (by decide +kernel) (by decide)
theorem NG{K:ZF}:abG K (.type "NoneType") (.type "int")=U false:=vo (by decide +kernel) (by decide +kernel) (by decide)
theorem NH{K:ZF}:abG K (.type "NoneType") (.type "tuple")=U false:=vo (by decide +kernel) (by decide +kernel) (by decide)
theorem cQ:aax "len" = U (.builtin "len"):=by decide +kernel
theorem lP:aax "min" = U (.builtin "min"):=by decide +kernel
theorem yA:aax "max" = U (.builtin "max"):=by decide +kernel
theorem ny:aax "isinstance" = U (.builtin "isinstance"):=by decide +kernel
theorem rg:aax "sorted" = U (.builtin "sorted"):=by decide +kernel
theorem NI:aax "any" = U (.builtin "any"):=by decide +kernel
theorem NJ:aax "all" = U (.builtin "all"):=by decide +kernel
theorem NK:aax "int" = U (.type "int"):=by decide +kernel
theorem NL:aax "bool" = U (.type "bool"):=by decide +kernel
theorem vq:aax "list" = U (.type "list"):=by decide +kernel
theorem vw:aax "tuple" = U (.type "tuple"):=by decide +kernel
theorem NM:aax "dict" = U (.type "dict"):=by decide +kernel
theorem Fg:aax "enumerate" = U (.type "enumerate"):=by decide +kernel
theorem NN:aax "zip" = U (.type "zip"):=by decide +kernel
theorem NO:aax "reversed" = U (.type "reversed"):=by decide +kernel
noncomputable def yB:V->V->Option Bool
 | .int _,.ty n=>if n = "int" then U true else if n = "bool" then U false else O
 | .bl _,.ty n=>if n = "int" then U true else if n = "bool" then U true else O
 | .non,.ty n=>if n = "int" then U false else if n = "tuple" then U false else O
 | _,_=>O
def i4(K:ZF)(x c:V)(H:Hp)(Q:VK):Prop:=match yB x c with
 | some b=>Q (.bl b) H
 | none=>∃ t b,dr K H x t/\rf c ≠ .none/\abG K t (rf c)=U b/\Q (.bl b) H
section
theorem nz:eT X (.builtin "isinstance") (λxs H Q=>∃ x c,xs=[x,c]/\i4 X.K x c H Q):=by
 intro pins s J H xs us Q I r h;obtain⟨x,c,rfl,h⟩:=h;refine NC pins s J H _ us Q I r ?_;cases e:yB x c with
 | none =>
  unfold i4 at h;rw[e] at h;obtain⟨t,b,h1,h2,h3,h4⟩:=h;exact#[x,c,t,b,Y,h1,h2,h3,h4]
 | some b =>
  unfold i4 at h;rw[e] at h;unfold yB at e;split at e
  .rename_i i n;split at e
   .rename_i z;subst z;cases e;exact#[_,_,_,_,Y,dr.int i,(λz=>nomatch z),vm,h]
   .split at e
    .rename_i z;subst z;cases e;exact#[_,_,_,_,Y,dr.int i,(λz=>nomatch z),ND,h]
    .cases e
  .rename_i i n;split at e
   .rename_i z;subst z;cases e;exact#[_,_,_,_,Y,dr.bl i,(λz=>nomatch z),NF,h]
   .split at e
    .rename_i z;subst z;cases e;exact#[_,_,_,_,Y,dr.bl i,(λz=>nomatch z),vm,h]
    .cases e
  .rename_i n;split at e
   .rename_i z;subst z;cases e;exact#[_,_,_,_,Y,dr.non,(λz=>nomatch z),NG,h]
   .split at e
    .rename_i z;subst z;cases e;exact#[_,_,_,_,Y,dr.non,(λz=>nomatch z),NH,h]
    .cases e
  .cases e
end
section
variable{K:ZF}{H:Hp}{Q:VK}{i:Int}{b:Bool}{p:ZX}{xs:List V}
theorem NP:i4 K (.int i) (.ty "int") H Q=Q (.bl true) H:=rfl
theorem NQ:i4 K (.int i) (.ty "bool") H Q=Q (.bl false) H:=rfl
theorem NR:i4 K (.bl b) (.ty "int") H Q=Q (.bl true) H:=rfl
theorem NS:i4 K (.bl b) (.ty "bool") H Q=Q (.bl true) H:=rfl
theorem NT:i4 K .non (.ty "int") H Q=Q (.bl false) H:=rfl
theorem NU:i4 K .non (.ty "tuple") H Q=Q (.bl false) H:=rfl
theorem vx(h:H p=U (.tup xs))(q:Q (.bl true) H):i4 K (.ref p) (.ty "tuple") H Q:=#[_,_,dr.tup h,(λz=>nomatch z),vm,q]
theorem NV(h:H p=U (.lst xs))(q:Q (.bl true) H):i4 K (.ref p) (.ty "list") H Q:=#[_,_,dr.lst h,(λz=>nomatch z),vm,q]
end
def dM(P:aaE)(w:abb):gF:=λouter H s E e s' =>
 ∃ (x:ZX) (cls a0:ZP) (H':Hp) (B:acz),e = .ref x/\s'.os=s.os/\afR s'.gens/\Un (a8 outer) [] H H' s.heap s'.heap /\
  (∀ b o,s.heap.get? b=U o->H b=O->b∉a8 outer->B.get? b=U o)/\(∀ b o,s.heap.get? b=U o->b∉a8 outer->∃ o',B.get? b=U o')/\bS P w H' B/\H' x=O/\s.heap.get? x=O /\
  Heap.FlyingW B outer x cls a0 s'.heap/\E cls O H'
theorem cg:Passes (dM P w) X E0:=by rintro y y y y y y y ⟨y,y,y,y,y,y,y,y,y,y,y,y,y,y,y,h⟩;exact h.elim
theorem NW(h:dM P w outer H s (λy y y=>False) e s'):False:=by obtain⟨y,y,y,y,y,y,y,y,y,y,y,y,y,y,y,h⟩:=h;exact h
section
variable{P:aaE}{w:abb}{K:ZF}{mg:Str->Option ZP}{base:acz}
theorem okN{x qual:Str}{st:abX}{f:ZX}{fd:adA}{N ps:List Str}{k:Nat}{sp:Sp}(F:nv K x qual st f fd)(S:qY N ps (dz st))(len:∀ vs H Q E,sp vs H Q E->vs.length=ps.length)
 (gI:∀ (a7:ZP) (A:abI) (outer:List Env) (s:ZU) (H:Hp) (vs:List V) (Q:VK) (E:XK),bL k (A.deeper (abZ qual (dz st) s.heap.objs.size f a7))->sp vs H Q E ->
   ∃ t,aX (eV (dM P w) P w K mg base N qual (dz st) f a7 A outer s H E).o4 (il st) t/\t { nx:=λy H'=>Q .non H',rt:=Q } (start N vs) H):eU P w K mg base (dM P w) (k+1) f fd ps sp:=by
 obtain⟨oc,od,kV,doc,pm,an,a7,ct,jG,rfl,lk,fG⟩:=F.ex;refine EL lk fG S len λA outer s H vs Q E hr lM=>?_;obtain⟨t,h,q⟩:=gI a7 A outer s H vs Q E hr lM;exact#[t,h.o4,q]
end
theorem NX(a b:Int):kA (.int a) (.int b)=true:=rfl
theorem NY(a b:Bool):kA (.bl a) (.bl b)=true:=rfl
theorem NZ(a:Int):kA (.int a) .non=true:=rfl
theorem N0(a:Int):kA .non (.int a)=true:=rfl
theorem N1:kA .non .non=true:=rfl
theorem ite_tt:(if true=true then A else B)=A:=if_pos rfl
theorem ite_ff:(if false=true then A else B)=B:=if_neg aag
theorem N2{CX:gF}{P:aaE}{w:abb}{K:ZF}{mg:Str->Option ZP}{base:acz}{N:List Str}{qual:Str}{scope:afD}{f:ZX}{cd:ZP}{A:abI}{outer:List Env}{s:ZU}{H:Hp}{E:XK} :
 (eV CX P w K mg base N qual scope f cd A outer s H E).K=K:=rfl
theorem N3{CX:gF}{P:aaE}{w:abb}{K:ZF}{mg:Str->Option ZP}{base:acz}{N:List Str}{qual:Str}{scope:afD}{f:ZX}{cd:ZP}{A:abI}{outer:List Env}{s:ZU}{H:Hp}{E:XK} :
 (eV CX P w K mg base N qual scope f cd A outer s H E).N=N:=rfl
section
variable{K:ZF}{H H':Hp}{a p:ZX}{xs ys:List V}{i:Int}{v:V}{Q:VK}
theorem aq(h:H p=O):aj H (upd H p o):=λb u e=>by rw[aF (iT e h)];exact e
theorem aE(h:aw K H p xs)(e:cN xs i=U v)(q:Q v H):eJ K (.ref p) (.int i) H Q:=.inr (.inl #[p,xs,i,v,Y,Y,h,e,q])
theorem aN(h:ah K H p xs)(e:cN xs i=U v)(q:Q v H):eJ K (.ref p) (.int i) H Q:=.inl #[p,xs,i,v,Y,Y,h,e,q]
theorem dN(h:ah K H p xs):uZ K (.ref p) H xs.length:=.inl #[xs,h,Y]
theorem lQ(h:aw K H p xs):uZ K (.ref p) H xs.length:=.inr #[xs,h,Y]
end
noncomputable def isWhole:V->Bool
 | .int _=>true
 | _=>false
def FJ(J9q:It)(g:TG)(tb:TS)(D:Ends)(J:L2.St)(H:Hp):Prop:=∃ W:Nat->Nat->L2.St->Hp->Prop,(∃ m,W 0 m J H)/\∀ i m J H,W i m J H ->
 (J9q.stop i H/\D.nx J H)∨(J9q.go i H/\∃ N:L2.St->Hp->Prop,(∀ σ' H',N σ' H'->∃ m',m'<m/\W (i+1) m' σ' H')/\∀ x H',J9q.yld i H x H'->g x J H' λσ2 H2=>tb { D with nx:=N,ct:=N,bk:=D.nx } σ2 H2)
section
variable{K:ZF}{g:TG}{tb:TS}{D:Ends}{J:L2.St}{H:Hp}{a:ZX}{xs:List V}{lo:Int}{n:Nat}
theorem N4:jF (xT ta) g tb D J H=ta J H (λvs H1=>∃ j:Int,vs=[.int j]/\-(2 ^ 62)<=j/\j<2 ^ 62/\FJ (iY 0 j.toNat) g tb D J H1):=rfl
theorem N5{tl:TE}:jF (uU K tl) g tb D J H=tl J H (λx H1=>∃ a,x = .ref a/\(∃ xs,ah K H1 a xs)/\FJ (iX K a) g tb D J H1):=rfl
theorem N6{tl:TE}:jF (xR K tl) g tb D J H=tl J H (λx H1=>∃ a,x = .ref a/\(∃ xs,aw K H1 a xs)/\FJ (qP K a) g tb D J H1):=rfl
theorem nA(Pv:Nat->L2.St->Hp->Prop)(h0:Pv 0 J H)(hs:∀ i J H,i<n->Pv i J H->g (.int (lo+i)) J H λσ2 H2=>tb { D with nx:=Pv (i+1),ct:=Pv (i+1),bk:=D.nx } σ2 H2)(hd:∀ J H,Pv n J H->D.nx J H):FJ (iY lo n) g tb D J H:=MB Pv h0 hs hd
theorem kE(Pv:Nat->L2.St->Hp->Prop)(h0:Pv 0 J H)(hl:∀ i J H,i<=xs.length->Pv i J H->ah K H a xs)(hs:∀ i x J H,xs[i]?=U x->Pv i J H->g x J H λσ2 H2=>tb { D with nx:=Pv (i+1),ct:=Pv (i+1),bk:=D.nx } σ2 H2)(hd:∀ J H,Pv xs.length J H->D.nx J H):FJ (iX K a) g tb D J H:=MA Pv h0 hl hs hd
end
theorem bg:(2:Nat)<=aah:=by decide
theorem Fh(h:x.natAbs<2 ^ 200):Bd 4000 x:=Bd.up (n:=200) h (by decide)
theorem N7(h:x.natAbs<2 ^ 200)(h':y.natAbs<2 ^ 200):pf x y:=#[Fh h,Fh h']
section
end
section
variable{K:ZF}{H H1:Hp}{l p:ZX}{xs ys:List V}{o:HO}
theorem jK(hl:H l=O)(s:aj H H1):aj H (upd H1 l o):=λb u e=>by rw[aF (iT e hl)];exact s b u e
end
end Gz
namespace Gz
open PySem PySem.W PySem.Spec PySem.Calls PyProof.Rows Builtin Builtin.ObjectAttr Builtin.Getset_descriptor
section
variable{prog:aaE}{w:abb}{A:abI}{E:ZP->ZU->Prop}{s:ZU}{K:Frag}{x C:ZX}{oe:Obj}{R:afW->ZU->Prop}
end
structure XC(K:Frag)(C:ZX):Prop where
 ex:excIn K C [.type "ValueError",.type "Exception",.type "BaseException",.type "object"] "ValueError.__new__" = true
 mo:mroIn K C (.type "object")=U true
 mb:mroIn K C (.type "BaseException")=U true
 ga:findIn K (.ref C) "__getattribute__" = U (U (.builtin "BaseException.__getattribute__"))
 gr:findIn K (.ref C) "__getattr__" = U O
 gc:findIn K (.ref C) "__class__" = U (U (.builtin "object.__class__"))
theorem N8{K:Frag}{h:acz}{C:ZX}(X:K.In h)(c:XC K C) :
 ∃ bm N nm q bs hdct sn sub ab col dd k0 k1 k2 k3 k5 mN,h.get? C=U (excClassObj nm q C N bs bm hdct sn sub ab col dd k0 k1 k2 k3 k5 "ValueError.__new__")/\h.Ns N mN/\mN "__init__" = O /\
  OwnTail h [.type "ValueError",.type "Exception",.type "BaseException",.type "object"] bm:=by
 have q:=c.ex;unfold excIn at q;split at q
 .rename_i dd cd sl ho;split at q
  .rename_i C' bm k0 k1 k2 k3 n k5 hm hs;simp only[abi,beq_iff_eq,Bool.not_eq_true'] at q;obtain⟨⟨⟨⟨⟨rfl,rfl⟩,hdel⟩,ht⟩,ak⟩,hni⟩:=q;obtain⟨nm,bs,mro,ns,qn,hd,sn,sub,ab,col,del⟩:=cd;dsimp only at hm hdel ak hni;subst hm hdel;have gJ:sl = (List.toArray [k0,k1,k2,k3,U (.builtin "ValueError.__new__"),k5]):=by obtain⟨l⟩:=sl;simp only at hs;rw[hs]
   subst gJ;exact#[bm,ns,nm,qn,bs,hd,sn,sub,ab,col,dd,k0,k1,k2,k3,k5,_,X _ _ ho,.of_isNs (isNs_of_in X ak),nsMap_none_of_in X ak hni,tail_of_in X ht]
  .cases q
 .cases q
open L2
section
end
end Gz
namespace Gz
open PySem PySem.Spec PyProof.Rows L2
theorem bE.some(x:bE P w H h a o):∃ ob,h.get? a=U ob:=by
 cases o with
 | lst xs=>obtain⟨z,z,z,z,e⟩:=x;exact#[_,e]
 | tup xs=>obtain⟨z,z,z,o,e,z⟩:=x;exact#[_,e]
 | dK kvs=>obtain⟨z,z,z,z,o,z,z,e,z⟩:=x;exact#[_,e]
 | dT kvs=>obtain⟨z,z,z,z,o,z,z,e,z⟩:=x;exact#[_,e]
 | set S n=>obtain⟨o,z,z,z,e,z⟩:=x;exact#[_,e]
 | ins C dx fs=>obtain⟨z,z,z,e,z⟩:=x;exact#[_,e]
 | own y=>exact x
 | xd fs=>obtain⟨z,⟨z,z,z,e,z⟩,z⟩:=x;exact#[_,e]
 | iS lo hi=>obtain⟨z,z,z,e⟩:=x;exact#[_,e]
 | aT ob u=>obtain⟨e,z⟩:=x;exact#[_,e]
 | tbl ps=>exact#[_,x]
 | met f y=>exact#[_,x]
 | ext φ=>exact x.2.1
def Fi(X:Cx)(E:XK):Prop:=∀ (pins:List (ZX × Obj)) (J:L2.St) (H:Hp) (s:ZU) (e C:ZX) (vs:List ZP) (h':acz),Inv X pins J H s->Heap.MadeExcOf s.heap h' e (.ref C) vs->E (.ref C) O H->X.xe (.ref e) { s with heap:=h' }
def Fj(C:ZX)(E:XK)(ta:TA):TS:=λD J H=>ta J H λvs H1=>vs.length<=aah/\E (.ref C) O H1
section
theorem nB{x:Str}{np cI pos:Pos}{e₀:ael}{rest:List ael}{ta:TA}{C:ZX}{E:XK}(hx:Fi X E)(hg:Gl X x)(hm:X.mg x=U (.ref C))(xc:XC X.K C)(hc:X.calm=true)(ha:PA X (e₀::rest) ta)
 (hd:(x == ("__debug__" : Str))=false:=by decide) (he:aae (e₀::rest) X.env=(false,eval e₀ X.env)::aae rest X.env:=by rfl)
 (dJ:(aca cI (aae rest X.env)).any (·.1)=false:=by rfl) :
 PS X (.Raise (U (.Call (.Name x np) (e₀::rest) [] cI)) O pos) (Fj C E ta):=by
 intro pins s J H D I h;obtain⟨tl,N,nm,q,bs,hdct,sn,sub,ab,col,dd,k0,k1,k2,k3,k5,mN,hC,hN,hni,T⟩:=N8 I.ok.mod.kin xc;refine wpAny_Raise_call_subU (C:=C) (nm:=nm) (q:=q) (N:=N) (bs:=bs) (bm:=tl) (hdct:=hdct) (sn:=sn) (sub:=sub) (ab:=ab) (col:=col) (dd:=dd) (k0:=k0) (k1:=k1) (k2:=k2) (k3:=k3) (k5:=k5)
  aeK (by decide +kernel) aeK (mN:=mN) (T.hasType PySem.F.excBase_ValueError.hasBase) (I.ok.hd hc) (by rw[he];show (false || (aca cI (aae rest X.env)).any (·.1))=false;rw[dJ];rfl) hni (uO I hg hm #[Y,?_] hd)
 have rh:=ha cI pins s J H _ I h;rw[he] at rh ⊢;refine aer (aba rh (λus s₂ h₂=>?_) λz z y=>y);obtain⟨vs,H1,I1,r,hl,hE⟩:=h₂;exact#[Y,by rw[<- r.length];exact hl,I1.bk _ _ hC,hN.keeps I1.bk,T.keeps I1.bk,λh' e hm=>hx pins J H1 s₂ e C us h' I1 hm hE]
end
section
variable{P:aaE}{w:abb}{K:ZF}{mg:Str->Option ZP}{base:acz}{N:List Str}{qual:Str}{scope:afD}{f:ZX}{cd:ZP}{A:abI}{outer:List Env}{s:ZU}{H:Hp}{E:XK}
theorem Fl(hf:env.frame=U L)(h:b∈a8 (env::outer)):b=L∨b∈a8 outer:=by unfold a8 at h;rw[aaz,hf] at h;exact ZO.mp h
theorem nC:Fi (eV (dM P w) P w K mg base N qual scope f cd A outer s H E) E:=by
 intro pins J H1 s1 e C vs h1 I hx hE;have yC:(eV (dM P w) P w K mg base N qual scope f cd A outer s H E).A.frames=U (abZ qual scope s.heap.objs.size f cd::outer):=I.ok.frames;have hF:s1.heap.FunFrames base (abZ qual scope s.heap.objs.size f cd::outer):=I.stack;have bq:∀ env∈(abZ qual scope s.heap.objs.size f cd::outer),∀ b,env.frame=U b->b∈a8 (abZ qual scope s.heap.objs.size f cd::outer):=λenv he b hb=>adR.mpr #[env,he,hb];have N9:∀ b∈a8 (abZ qual scope s.heap.objs.size f cd::outer),H1 b=O:=I.qH;have oY:∀ b o,s.heap.get? b=U o->b≠s.heap.objs.size:=λb o e=>ZY (ZM e);have ky:∀ b o,s.heap.get? b=U o->b∉a8 outer->b∉a8 (abZ qual scope s.heap.objs.size f cd::outer):=λb o e hb z=>by
  rcases Fl rfl z with z|z
  .exact oY b o e z
  .exact hb z
 have ub:Un (a8 outer) [] H H1 s.heap s1.heap:=I.base;refine wpAny_leaves_madeW (base:=afQ s1.heap (a8 (abZ qual scope s.heap.objs.size f cd::outer))) yC Y (λb o q=>agO _ q) (PySem.W.funFrames_hide hF bq) hx λh' t fl tup bt up=>?_;have stays:=fl.1;have ph:∀ b o,s1.heap.get? b=U o->b∉a8 (abZ qual scope s.heap.objs.size f cd::outer)->(afQ s1.heap (a8 (abZ qual scope s.heap.objs.size f cd::outer))).get? b=U o:=λb o q hb=>agF _ q hb;have rk:∀ b∈a8 (abZ qual scope s.heap.objs.size f cd::outer),∀ o,s1.heap.get? b=U o->∃ sl,h'.get? b=U { o with slots:=sl }:=λb hb o q=>by obtain⟨y,o',dk,hnf⟩:=hF.mem hb;rw[q] at dk;cases dk;exact up b o (hx.keeps b o q) hnf
 refine#[e,.ref C,.ref t,H1,_,Y,I.os,I.bare,#[λb o q n hb cX=>?_,λb o q n hb cX=>?_,ub.free,λb o q cX=>?_,ub.gy,ub.fE,ub.gA],λb o q n hb=>?_,λb o q hb=>?_,λa o q=>?_,?_,?_,fl,hE]
 .exact stays b o (ph b o (ub.keep b o q n hb cX) (ky b o q hb))
 .obtain⟨sl,e1⟩:=ub.slot b o q n hb cX;obtain⟨fF,e2⟩:=rk b (by unfold a8;rw[aaz];exact Z6 _ hb) _ e1;exact#[fF,e2]
 .obtain⟨o',e1⟩:=ub.there b o q cX;by_cases hb:b∈a8 (abZ qual scope s.heap.objs.size f cd::outer)
  .obtain⟨sl,e2⟩:=rk b hb o' e1;exact#[_,e2]
  .exact#[o',stays b o' (ph b o' e1 hb)]
 .exact ph b o (ub.keep b o q n hb (by simp)) (ky b o q hb)
 .obtain⟨o',e1⟩:=ub.there b o q (by simp);exact#[o',ph b o' e1 (ky b o q hb)]
 .refine (I.ak a o q).g9 (λb u hb z=>ph b u z λhm=>?_) (λy z=>z) λy y z=>z;have:=N9 b hm;rcases hb with hb|hb
  .rw[hb,q] at this;cases this
  .rw[hb] at this;cases this
 .cases q:H1 e with
  | none=>rfl
  | some u =>
   obtain⟨ob,z⟩:=bE.some (I.ak e u q);rw[hx.new] at z;cases z
 .cases q:s.heap.get? e with
  | none=>rfl
  | some u =>
   obtain⟨o',z⟩:=ub.there e u q (by simp);rw[hx.new] at z;cases z
theorem nD:Passes (dM P w) (eV (dM P w) P w K mg base N qual scope f cd A outer s H E) E:=by
 intro pins J H1 s1 ev s2 I cx;obtain⟨x,cls,a0,H',B,rfl,os,bare,un,kb,tb,ak,hx,hn,fl,hE⟩:=cx;have yC:(eV (dM P w) P w K mg base N qual scope f cd A outer s H E).A.frames=U (abZ qual scope s.heap.objs.size f cd::outer):=I.ok.frames;have hF:s1.heap.FunFrames base (abZ qual scope s.heap.objs.size f cd::outer):=I.stack;have oY:∀ b o,s.heap.get? b=U o->b≠s.heap.objs.size:=λb o e=>ZY (ZM e);have ky:∀ b o,s.heap.get? b=U o->b∉a8 outer->b∉a8 (abZ qual scope s.heap.objs.size f cd::outer):=λb o e hb z=>by
  rcases Fl rfl z with z|z
  .exact oY b o e z
  .exact hb z
 have Oa:∀ b,b∈a8 outer->b∈a8 (abZ qual scope s.heap.objs.size f cd::outer):=λb hb=>by unfold a8;rw[aaz];exact Z6 _ hb
 have ub:Un (a8 outer) [] H H1 s.heap s1.heap:=I.base;have Fo:Un (a8 (abZ qual scope s.heap.objs.size f cd::outer)) [] H1 H' s1.heap s2.heap:=un;have Fp:∀ b o,s1.heap.get? b=U o->H1 b=O->b∉a8 (abZ qual scope s.heap.objs.size f cd::outer)->B.get? b=U o:=kb;have cj:∀ b o,s1.heap.get? b=U o->b∉a8 (abZ qual scope s.heap.objs.size f cd::outer)->∃ o',B.get? b=U o':=tb;have Ob:∀ b∈a8 (abZ qual scope s.heap.objs.size f cd::outer),H1 b=O:=I.qH;refine wpAny_leaves_onW yC Y fl λh' yD up=>?_;have stays:=yD.1;have rk:∀ b∈a8 (abZ qual scope s.heap.objs.size f cd::outer),∀ o,s1.heap.get? b=U o->∃ sl,h'.get? b=U { o with slots:=sl }:=λb hb o q=>by obtain⟨y,o',dk,hnf⟩:=hF.mem hb;rw[q] at dk;cases dk;obtain⟨sl,e1⟩:=Fo.slot b o q (Ob b hb) hb (by simp);obtain⟨fF,e2⟩:=up b _ e1 hnf;exact#[fF,e2]
 refine#[x,cls,a0,H',B,Y,os.trans I.os,bare,#[λb o q n hb cX=>?_,λb o q n hb cX=>?_,λb o q n cX=>?_,λb o q cX=>?_,λb xs q=>un.gy _ _ (ub.gy _ _ q),λb o u q=>un.fE _ _ _ (ub.fE _ _ _ q),λb ps q=>?_],λb o q n hb=>?_,λb o q hb=>?_,ak,hx,?_,yD,hE]
 .exact stays b o (Fp b o (ub.keep b o q n hb cX) (ub.free b o q n cX) (ky b o q hb))
 .obtain⟨sl,e1⟩:=ub.slot b o q n hb cX;obtain⟨fF,e2⟩:=rk b (Oa b hb) _ e1;exact#[fF,e2]
 .obtain⟨o',e1⟩:=ub.there b o q cX;exact Fo.free b o' e1 (ub.free b o q n cX) (by simp)
 .obtain⟨o',e1⟩:=ub.there b o q cX;by_cases hb:b∈a8 (abZ qual scope s.heap.objs.size f cd::outer)
  .obtain⟨sl,e2⟩:=rk b hb o' e1;exact#[_,e2]
  .obtain⟨o2,e2⟩:=cj b o' e1 hb;exact#[o2,stays b o2 e2]
 .obtain⟨m1,e1⟩:=ub.gA b ps q;obtain⟨m2,e2⟩:=un.gA b _ e1;exact#[m1++m2,by rw[e2,agP]]
 .exact Fp b o (ub.keep b o q n hb (by simp)) (ub.free b o q n (by simp)) (ky b o q hb)
 .obtain⟨o',e1⟩:=ub.there b o q (by simp);exact cj b o' e1 (ky b o q hb)
 .cases q:s.heap.get? x with
  | none=>rfl
  | some u =>
   obtain⟨o',z⟩:=ub.there x u q (by simp);rw[hn] at z;cases z
theorem Fs{x qual:Str}{st:abX}{f:ZX}{fd:adA}{N ps:List Str}{k:Nat}{sp:Sp}(F:nv K x qual st f fd)(S:qY N ps (dz st))(len:∀ vs H Q E,sp vs H Q E->vs.length=ps.length)
 (gI:∀ (a7:ZP) (A:abI) (outer:List Env) (s:ZU) (H:Hp) (vs:List V) (Q:VK) (E:XK),bL k (A.deeper (abZ qual (dz st) s.heap.objs.size f a7))->sp vs H Q E ->
   ∃ t,aX (eV (dM P w) P w K mg base N qual (dz st) f a7 A outer s H E) (il st) t/\t { nx:=λy H'=>Q .non H',rt:=Q } (start N vs) H):eU P w K mg base (dM P w) (k+1) f fd ps sp:=by
 obtain⟨oc,od,kV,doc,pm,an,a7,ct,jG,rfl,lk,fG⟩:=F.ex;refine EL lk fG S len λA outer s H vs Q E hr lM=>?_;exact gI a7 A outer s H vs Q E hr lM
end
section
end
inductive gK(X:Cx)(scope:afD)(cl:List (Str × ZX)):List Nat->List Str->Prop where
 | nil:gK X scope cl [] []
 | cons {j:Nat} {y:Str} {c:ZX} {js:List Nat} {ys:List Str} (hN:X.N[j]?=U y) (hk:X.env.kindOf y=U .cell) (h1:cl.lookup y=U c) (h2:X.env.cells.lookup y=U c) (h:gK X scope cl js ys):gK X scope cl (j::js) (y::ys)
inductive i5(X:Cx):List (Str × ZX)->Prop where
 | nil:i5 X []
 | cons {n:Str} {a:ZX} {r:List (Str × ZX)} (h:X.env.cells.lookup n=U a) (t:i5 X r):i5 X ((n,a)::r)
theorem i5.get:∀ {cl:List (Str × ZX)},i5 X cl->∀ y c,cl.lookup y=U c->X.env.cells.lookup y=U c:=by
 intro z h y c
 induction h with
 | nil=>intro e;cases e
 | @cons n _ _ h t ih =>
  intro e;rw[abO] at e;by_cases hy:(y == n)=true
  .rw[hy] at e;have e1:y=n:=by simpa using hy
   cases e;rw[e1];exact h
  .rw[adj.mpr hy] at e;exact ih e
theorem gK.get{X:Cx}{scope:afD}{cl:List (Str × ZX)}{J:L2.St}:∀ {js:List Nat} {ys:List Str},gK X scope cl js ys->∀ (i:Nat) (y:Str) (v:V),ys[i]?=U y->(js.map λj=>(J[j]?).join)[i]?=U (U v) ->
 ∃ (j:Nat) (c:ZX),X.N[j]?=U y/\J[j]?=U (U v)/\X.env.kindOf y=U .cell/\cl.lookup y=U c/\X.env.cells.lookup y=U c:=by
 intro js ys h
 induction h with
 | nil=>intro i y v e;cases e
 | cons hN hk h1 h2 h ih =>
  rename_i j _ _ _ _;intro i y v e q;cases i with
  | zero =>
   cases e;refine#[j,_,hN,?_,hk,h1,h2];cases z:J[j]? with
   | none=>rw[Z0,z] at q;cases q
   | some o=>rw[Z0,z] at q;cases q;rfl
  | succ i=>exact ih i y v e q
theorem gK.len:∀ {js:List Nat} {ys:List Str},gK X scope cl js ys->js.length=ys.length:=by
 intro y y h
 induction h with
 | nil=>rfl
 | cons _ _ _ _ _ ih=>exact congrArg (· + 1) ih
noncomputable def cY(X:Cx)(N':List Str)(scope:afD)(cl:List (Str × ZX))(C:ZX)(s2:ZU)(H2:Hp)(ex:List ZX)(pn:List (ZX × Obj)):Cx :=
 { X with N:=N',s₀:=s2,H₀:=H2,env:=ahT scope cl C X.env,outer:=X.stack,ex:=ex,fn:=λy=>false,pn:=pn,xe:=λy y=>False }
structure nE(X:Cx)(x:Str)(scope:afD)(cl:List (Str × ZX))(fr:List Nat)(ys:List Str):Prop where
 clos:ahg scope X.env=pure cl
 nocell:(scope.names.all λp=>p.2 != .cell)=true
 kind:scope.kind = .function
 names:(scope.names.all λp=>p.2 != .local || scope.names.lookup p.1 == U .local)=true
 own:scope.names.lookup x=U .local
 kinds:((relabel scope X.env).names.all λp=>(p.2 != .cell && p.2 != .free) || (cl.lookup p.1).isSome)=true
 cls:i5 X cl
 a8:gK X scope cl fr ys
 nd:(x::ys).Nodup
 kfr:(ys.all λy=>(relabel scope X.env).names.lookup y == U .cell)=true
def ip(X:Cx)(ifs:List ael)(t:TT):Prop :=
 ∀ (pins:List (ZX × Obj)) (s:ZU) (J:L2.St) (H:Hp) (Q:Bool->Hp->Prop),Inv X pins J H s->t J H Q ->
  ZZ (model X.prog X.w) X.A (forIn ifs true λc r=>if r=true then do let ok <- aiM c X.env (eval c X.env);pure (aez ok) else pure (aez r)) (TP X pins J Q) X.xe s
def Ft:TT:=λy H Q=>Q true H
theorem fV:ip X [] Ft:=λy y y H y I h=>wpAny_tests_nil #[H,I,h]
theorem i6(hc:PT X c t):ip X [c] t:=λpins s J H Q I h=>wpAny_tests_one (hc pins s J H Q I h)
def lR(J9q:It)(ρ:L2.St)(tt:TT)(te:TE)(H:Hp)(Q:VK):Prop:=∃ W:Nat->Nat->List V->Hp->Prop,(∃ m,W 0 m [] H)/\∀ i m ys H,W i m ys H ->
 (J9q.stop i H/\ys.length<=aah/\∀ l,H l=O->Q (.ref l) (upd H l (.lst ys)))∨(J9q.go i H/\ys.length<aah/\∃ N:List V->Hp->Prop,(∀ zs H',N zs H'->∃ m',m'<m/\W (i+1) m' zs H') /\
  ∀ x H',J9q.yld i H x H'->tt (U x::ρ) H' λb H1=>if b=true then te (U x::ρ) H1 λy H2=>N (ys++[y]) H2 else N ys H1)
def vy(wi:TI)(fr:List Nat)(tt:TT)(te:TE):TE:=λJ H Q=>wi J H λJ9q H1=>lR J9q (fr.map λj=>(J[j]?).join) tt te H1 Q
structure i7(X:Cx)(own:List Str)(scope:afD)(cl:List (Str × ZX))(fr:List Nat)(ys:List Str):Prop where
 clos:ahg scope X.env=pure cl
 nocell:(scope.names.all λp=>p.2 != .cell)=true
 kind:scope.kind = .function
 names:(scope.names.all λp=>p.2 != .local || scope.names.lookup p.1 == U .local)=true
 kinds:((relabel scope X.env).names.all λp=>(p.2 != .cell && p.2 != .free) || (cl.lookup p.1).isSome)=true
 cls:i5 X cl
 a8:gK X scope cl fr ys
 kfr:(ys.all λy=>(relabel scope X.env).names.lookup y == U .cell)=true
def i8(k:Nat)(J9q:It)(g:TG)(ρ:L2.St)(tt:TT)(te:TE)(H:Hp)(Q:VK):Prop:=∃ W:Nat->Nat->List V->Hp->Prop,(∃ m,W 0 m [] H)/\∀ i m ys H,W i m ys H ->
 (J9q.stop i H/\ys.length<=aah/\∀ l,H l=O->Q (.ref l) (upd H l (.lst ys)))∨(J9q.go i H/\ys.length<aah/\∃ N:List V->Hp->Prop,(∀ zs H',N zs H'->∃ m',m'<m/\W (i+1) m' zs H') /\
  ∀ os:List (Option V),os.length=k->∀ x H',J9q.yld i H x H'->g x (os++ρ) H' λσ2 H2=>∃ lL,lL.length=k/\σ2=lL++ρ/\tt σ2 H2 λb H1=>if b=true then te σ2 H1 λy H2=>N (ys++[y]) H2 else N ys H1)
def yE(k:Nat)(wi:TI)(g:TG)(fr:List Nat)(tt:TT)(te:TE):TE:=λJ H Q=>wi J H λJ9q H1=>i8 k J9q g (fr.map λj=>(J[j]?).join) tt te H1 Q
theorem Oc(I:Nat->ZU->Prop)(turn:∀ n s,I n s->ZZ (model prog w) A (acQ it) (λr s₁=>match r with
 | none=>R (.ok .next) s₁
 | some v=>ZZ (model prog w) A (aex target it v) (λ_ Fu=>ZZ (model prog w) A (assign target env v) (λ_ s₂ =>
  ZZ (model prog w) A (forIn ifs true λc r=>if r=true then do let ok <- aiM c env (eval c env);pure (aez ok) else pure (aez r)) (λok s₃ =>
   if ok=true then ZZ (model prog w) A (eval elt env) (λx s₄ =>
    ZZ (model prog w) A (call (.builtin "list.append") [acc,x]) (λ_ s₅=>∃ m,m<n/\I m s₅) (ah5 (model prog w) A env λe s'=>R (.error e) s') s₄) (ah5 (model prog w) A env λe s'=>R (.error e) s') s₃
   else ∃ m,m<n/\I m s₃) (ah5 (model prog w) A env λe s'=>R (.error e) s') s₂) (ah5 (model prog w) A env λe s'=>R (.error e) s') Fu) (ah5 (model prog w) A env λe s'=>R (.error e) s') s₁) (ah5 (model prog w) A env λe s'=>R (.error e) s') s) (n:Nat) (h:I n s) :
 acF (model prog w) A (.compLoop (.ListComp elt [#[target,iter,ifs,0]] scope pos) 0 it acc env) R s:=by
 refine codeAny_loop Y I (λn s hI=>?_) n h;show ZZ _ A ((compTurn (.ListComp elt [#[target,iter,ifs,0]] scope pos) 0 it acc env).onRaise (λx=>do noteFrame x env;theTreesLotGoes x)) _ _ s;refine wpAny_noted ?_;rw[compTurn_list];refine ZE (agR (ZE (aba (turn n s hI) (λr s₁ h₁=>?_) λ_ _ h'=>h')));cases r with
 | none=>exact ZI h₁
 | some v =>
  refine ZE (aba h₁ (λ_ Fu Od=>?_) λ_ _ h'=>h');refine ZE (aba Od (λ_ s₂ h₂=>ZE (aba h₂ (λok s₃ h₃=>?_) λ_ _ h'=>h')) λ_ _ h'=>h');cases ok with
  | false=>exact ZI #[Y,h₃]
  | true =>
   exact ZE (ZE (aba h₃ (λx s₄ h₄=>ZE (aba h₄ (λ_ s₅ h₅=>ZI (ZI #[Y,h₅])) λ_ _ h'=>h')) λ_ _ h'=>h'))
theorem vz{l:List (Str × afm)}{p:Str × afm->Bool}(h:l.all p=true){y:Str}{k:afm}(e:l.lookup y=U k):p (y,k)=true:=by exact aaw.mp h _ (ach e)
def vA(i:Nat)(te:TE):TS:=λD J H=>te J H λv H1=>D.nx (J.set i (U v)) H1
section
theorem Oe(S:i7 X own scope cl fr ys)(I2:Inv X pins J H2 s2)(f2:∀ b∈ex,de X pins H2 b)(hC:s2.heap.objs.size<=C)(hex:∀ b∈ex,b<s2.heap.objs.size):(cY X (own++ys) scope cl C s2 H2 ex pn).Ok:=by
 refine#[I2.ok.mod,S.kind,I2.ok.glob,I2.ok.blt,hC,λa b c h1 h2=>?_,λy hy=>?_,λv v z=>(nomatch z),I2.ok.hd,I2.ok.frames,.inl rfl,λb hb=>#[?_,λy c e z=>?_],I2.bs,ZQ I2.ok.bsz I2.sz,λb o e hb=>?_,λb hb z=>?_,I2.stack,I2.qH]
 .exact I2.ok.inj a b c (S.cls.get a c h1) (S.cls.get b c h2)
 .have yF:(relabel scope X.env).names.lookup y=U .cell∨(relabel scope X.env).names.lookup y=U .free:=hy;have q:(cl.lookup y).isSome=true:=by
   rcases yF with e|e
   .simpa using vz S.kinds e
   .simpa using vz S.kinds e
  exact abA.mp q
 .exact ZY (Z9 (hex b hb) hC)
 .exact (f2 b hb).2.2.2.2.1 y c (S.cls.get y c e) z
 .obtain⟨v,v,v,d,v,v⟩:=f2 b hb;rcases d with d|d
  .exact I2.ok.noex b o e d
  .exact absurd (Z9 (ZM e) (ZQ I2.ok.bsz d)) (aa8 _)
 .obtain⟨v,d1,d2,v⟩:=f2 b hb;rcases ZO.mp (I2.nc b z) with q|q
  .exact d1 q
  .exact d2 q
noncomputable def i9(X:Cx)(N':List Str)(fn:Str->Bool)(scope:afD)(cl:List (Str × ZX))(C:ZX)(s2:ZU)(H2:Hp)(ex:List ZX)(pn:List (ZX × Obj)):Cx :=
 { X with N:=N',s₀:=s2,H₀:=H2,env:=ahT scope cl C X.env,outer:=X.stack,ex:=ex,fn:=fn,pn:=pn,xe:=λy y=>False }
theorem yG{C D:ZX}{fp:List ZX}(I2:Inv X pins J H2 s2)(f2:∀ b∈fp,de X pins H2 b)(hC:s2.heap.objs.size<=C)(hD:s2.heap.objs.size<=D):∀ p∈X.pn++pins,p.1≠C/\p.1≠D/\p.1∉a8 X.stack/\∀ b∈fp,p.1≠b:=λp hp=>by
 obtain⟨e,n,nL,nf,y⟩:=I2.pin p hp;have lt:=ZM e;refine#[by walk_at "o",by walk_at "o",λz=>?_,λb hb=>(f2 b hb).2.2.2.2.2 p hp];rcases ZO.mp (I2.nc _ z) with q|q
 .exact nL q
 .exact nf q
theorem Fw{J9q:It}{fp:List ZX}{it C D:ZX}{tn:Nat->acz->Prop}{Q:VK}{RR:ZP->ZX->afW->ZU->Prop}{nm:List Str}{fn:Str->Bool}{k:Nat}{os0 ρ:List (Option V)}{h1:acz}{tk:Nat}
 (hc:X.calm=true) (hg:PG (i9 X nm fn scope cl C s2 H2 fp (X.pn++pins)) tg g) (hb:ip (i9 X nm fn scope cl C s2 H2 fp (X.pn++pins)) ifs tt/\PE (i9 X nm fn scope cl C s2 H2 fp (X.pn++pins)) elt te)
 (I2:Inv X pins J H2 s2) (T:Turn X.prog X.w X.K tg J9q fp it tn) (eF:tn 0 s2.heap) (f2:∀ b∈fp,de X pins H2 b)
 (h:i8 k J9q g ρ tt te H2 Q)
 (rn:∀ D C s' H',Inv X pins J H' s'->(∃ m,s'.heap.Ns C m)->de X pins H' C->Q (.ref D) H'->RR (.ref D) C (.ok .next) s')
 (yH:os0.length=k) (I4:Inv (i9 X nm fn scope cl C s2 H2 fp (X.pn++pins)) [] (os0++ρ) H2 { s2 with heap:=h1,toks:=tk }) (keep:∀ b o,s2.heap.get? b=U o->h1.get? b=U o)
 (hD:h1.get? D=U { cls:=.type "list",data:=.seq ([]:List ZP).toArray 0 }) (eD:s2.heap.objs.size=D) (eC:s2.heap.objs.size+1=C)
 (aY:∀ y c,cl.lookup y=U c->c≠D/\∀ b∈fp,c≠b) :
 acF (model X.prog X.w) X.A (.compStart (.ListComp elt [#[tg,iter,ifs,0]] scope pos) 0 (.ref it) (.ref D) (ahT scope cl C X.env)) (RR (.ref D) C) { s2 with heap:=h1,toks:=tk }:=by
 obtain⟨W,⟨m0,w0⟩,turn⟩:=h;have jL:D≠C:=by walk_at "o"
 have jM:s2.heap.objs.size<=C:=by walk_at "o"
 have nF:s2.heap.objs.size<=D:=by walk_at "o"
 have gL:∀ b∈fp,b<D:=λb hb=>by obtain⟨o,e,_⟩:=T.obj 0 _ eF b hb;exact eD ▸ ZM e
 have Of:∀ b,D<=b->b∉a8 X.stack:=λb hle z=>by
  rcases ZO.mp (I2.nc b z) with q|q
  .have:=I2.lt;walk_at "o"
  .exact I2.DT (eD ▸ hle) q
 have rq:=yG I2 f2 jM nF;have Fx:tn 0 h1:=T.keep 0 _ _ eF λb _ o e=>keep b o e;have yI:∀ (H':Hp) (o:Obj),(∀ b∈fp,H' b=O)->∀ b∈fp,de (i9 X nm fn scope cl C s2 H2 fp (X.pn++pins)) [(D,o)] H' b:=λH' o hn b hb=>by
  obtain⟨_,d1,d2,d3,d4,d5⟩:=f2 b hb;have lt:=gL b hb;refine#[hn b hb,?_,λz=>?_,.inl hb,λy c e z=>(aY y c e).2 b hb z,λp hp=>?_]
  .show b≠C;walk_at "o"
  .rcases ZO.mp (I2.nc b z) with q|q
   .exact d1 q
   .exact d2 q
  .have cC:p∈(X.pn++pins)++[(D,o)]:=hp;rcases aaf.mp cC with z|z
   .exact d5 p z
   .have:p=(D,o):=by simpa using z
    subst this;show D≠b;walk_at "o"
 have loop:∀ s':ZU,s' = { s2 with heap:=h1,toks:=tk } ->
  acF (model X.prog X.w) X.A (.compLoop (.ListComp elt [#[tg,iter,ifs,0]] scope pos) 0 (.ref it) (.ref D) (ahT scope cl C X.env)) (RR (.ref D) C) s':=by
  rintro s' rfl;refine Oc (λn s'=>∃ i zs H' os ai nn,os.length=k/\Inv (i9 X nm fn scope cl C s2 H2 fp (X.pn++pins)) [] (os++ρ) H' s'/\tn i s'.heap/\(∀ b∈fp,H' b=O)/\H' D=O /\
   s'.heap.get? D=U { cls:=.type "list",data:=.seq (ai:List ZP).toArray nn }/\Vals zs ai/\W i n zs H') ?_ m0 #[0,[],H2,os0,[],0,yH,I4,Fx,λb hb=>(f2 b hb).1,I2.ak.fresh nF,hD,.nil,w0]
  rintro n s3 ⟨i,zs,H3,Fz,ai,nn,Og,I3,qR,qS,yJ,Oh,r3,w3⟩;have FA:Inv (i9 X nm fn scope cl C s2 H2 fp (X.pn++pins)) [(D,{ cls:=.type "list",data:=.seq ai.toArray nn })] (Fz++ρ) H3 s3:=I3.qI λp hp=>by
   have:p=(D,{ cls:=.type "list",data:=.seq ai.toArray nn }):=by simpa using hp
   subst this;exact#[Oh,yJ,jL,Of D (ZS _),λv z=>nomatch z]
  rcases turn i n zs H3 w3 with ⟨stop,hlen,q⟩|⟨go,hlen,N,FC,step⟩
  .refine aba (T.done (i9 X nm fn scope cl C s2 H2 fp (X.pn++pins)) Y Y Y hc i _ s3 _ H3 (λ_ _=>False) FA (yI H3 _ qS) qR stop) (λr s4 zq=>?_) λ_ _ z=>z.elim;obtain⟨hr,J4⟩:=zq;subst hr;have un:=J4.base;have Oi:∀ b o,s2.heap.get? b=U o->b≠D:=λb o e=>by have:=ZM e;walk_at "o"
   have kF:∀ b u,H3 b=U u->b≠D:=λb u e z=>by rw[z,yJ] at e;cases e
   refine rn D C s4 (upd H3 D (.lst zs)) ?_ ?_ ?_ (q D yJ)
   .refine I2.Mm (ch:=fp) J4.os #[un.keep,un.slot,λb o e nn hx=>?_,un.there,λb xs e=>?_,λb o u e=>?_,λb ps e=>?_] (λa o e=>?_) J4.bare λb hb=>?_
    .rw[aF (Oi b o e)];exact un.free b o e nn hx
    .have:=un.gy b xs e;rw[aF (kF b _ this)];exact this
    .have:=un.fE b o u e;rw[aF (kF b _ this)];exact this
    .obtain⟨more,this⟩:=un.gA b ps e;exact#[more,by rw[aF (kF b _ this)];exact this]
    .by_cases ha:a=D
     .subst ha;rw[ar] at e;cases e;exact#[hlen,ai,nn,r3,(J4.pin (a,_) (aaa _ (aap.mpr Y))).1]
     .rw[aF ha] at e;exact (J4.ak a o e).g9 (λ_ _ _ z=>z) (λb z=>by rw[aF (kF b _ z)];exact z) λb xs z=>by rw[aF (kF b _ z)];exact z
    .obtain⟨_,d1,d2,d3,d4,d5⟩:=f2 b hb;exact#[d3,d1,d4,d5]
   .obtain⟨m,hm,_⟩:=J4.loc;exact#[m,hm]
   .exact I2.ic jM (by rw[aF (aaQ jL)];exact J4.free)
  .refine aba (T.item (i9 X nm fn scope cl C s2 H2 fp (X.pn++pins)) Y Y Y hc i _ s3 _ H3 (λ_ _=>False) FA (yI H3 _ qS) qR go) (λr s4 zq=>?_) λ_ _ z=>z.elim;obtain⟨u,hr,h4⟩:=zq;subst hr;refine aba h4 (λ_ s5 zq=>?_) λ_ _ z=>z.elim;obtain⟨y5,H5,I5,r5,yl,nh,xW⟩:=zq;have xX:=I5.pinned (yI H5 _ xW) (T.obj _ _ nh);refine aba (hg _ s5 _ H5 y5 u _ xX r5 (step Fz Og y5 H5 yl)) (λ_ s6 zq=>?_) λ_ _ z=>z.elim;obtain⟨σ6,H6,I6,vB,FD,e6,q6⟩:=zq;subst e6;have after:∀ (s7:ZU) (H7:Hp),Inv (i9 X nm fn scope cl C s2 H2 fp (X.pn++pins)) ([(D,{ cls:=.type "list",data:=.seq ai.toArray nn })]++qQ fp s5.heap) (vB++ρ) H7 s7 ->
    Inv (i9 X nm fn scope cl C s2 H2 fp (X.pn++pins)) [] (vB++ρ) H7 s7/\tn (i+1) s7.heap/\(∀ b∈fp,H7 b=O)/\H7 D=O/\s7.heap.get? D=U { cls:=.type "list",data:=.seq ai.toArray nn }:=λs7 H7 I7=>by
    have pD:=I7.pin (D,{ cls:=.type "list",data:=.seq ai.toArray nn }) (aaa _ (aa6 _ (aap.mpr Y)));refine#[I7.qI λp hp=>absurd hp (by simp),T.keep _ _ _ nh λb hb o e=>(I7.pin (b,o) (aaa _ (aaa _ (uV hb e)))).1,λb hb=>?_,pD.2.1,pD.1];obtain⟨o,e,_⟩:=T.obj _ _ nh b hb;exact (I7.pin (b,o) (aaa _ (aaa _ (uV hb e)))).2.1
   refine aba (hb.1 _ s6 _ H6 _ I6 q6) (λok s7 zq=>?_) λ_ _ z=>z.elim;obtain⟨H7,I7,q7⟩:=zq
   try dsimp only at q7
   by_cases ak:ok=true
   .rw[if_pos ak] at q7 ⊢;refine aba (hb.2 _ s7 _ H7 _ I7 q7) (λyv s8 zq=>?_) λ_ _ z=>z.elim;obtain⟨y8,H8,I8,r8,n8⟩:=zq;obtain⟨m',rA,w8⟩:=FC _ _ n8;obtain⟨J8,Oj,Ol,FE,yK⟩:=after s8 H8 I8;have hl:=r3.length;refine agn agV #[_,yK,Y] agI (agp _ _) (ahf D ai.toArray nn yv (by rw[ZW];walk_at "o")) #[yK,?_];have FF:=PySem.IsL.update yK (λa=>a.push yv);rw[List.push_toArray] at FF;refine#[m',rA,i+1,zs++[y8],H8,vB,ai++[yv],_,FD,J8.turned (it:=D) (λb o bW e=>(ZV _ _ (aaQ bW)).trans e) FE jL (.inr nF) (λy c e z=>?_) (λp hp=>?_),T.keep _ _ _ Oj λb bW o e=>?_,Ol,FE,FF,r3.append (.cons r8 .nil),w8]
    .exact (aY y c e).1 z
    .have cC:p∈X.pn++pins:=by have:p∈(X.pn++pins)++[]:=hp;simpa using this
     exact (rq p cC).2.1
    .have:=gL b bW;exact (ZV _ _ (by walk_at "o")).trans e
   .rw[if_neg ak] at q7 ⊢;obtain⟨m',rA,w7⟩:=FC _ _ q7;obtain⟨J7,Oo,Oq,Ot,Ou⟩:=after s7 H7 I7;exact#[m',rA,i+1,zs,H7,vB,ai,nn,FD,J7,Oo,Oq,Ot,Ou,r3,w7]
 exact codeAny_compStart_list (loop _ Y) (T.self X.A 0 _ _ _ Fx (loop _ Y))
theorem FG{J9q:It}{fp:List ZX}{it:ZX}{tn:Nat->acz->Prop}{E:ZP->ZU->Prop}{Q:VK}{RR:ZP->ZX->afW->ZU->Prop}
 (S:i7 X own scope cl fr ys) (hc:X.calm=true) (hg:∀ (C:ZX) (s:ZU) (H:Hp) (ex:List ZX) (pn:List (ZX × Obj)),PG (cY X (own++ys) scope cl C s H ex pn) tg g)
 (hb:∀ (C:ZX) (s:ZU) (H:Hp) (ex:List ZX) (pn:List (ZX × Obj)),ip (cY X (own++ys) scope cl C s H ex pn) ifs tt/\PE (cY X (own++ys) scope cl C s H ex pn) elt te)
 (I2:Inv X pins J H2 s2) (T:Turn X.prog X.w X.K tg J9q fp it tn) (eF:tn 0 s2.heap) (f2:∀ b∈fp,de X pins H2 b)
 (h:i8 own.length J9q g (fr.map λj=>(J[j]?).join) tt te H2 Q)
 (rn:∀ D C s' H',Inv X pins J H' s'->(∃ m,s'.heap.Ns C m)->de X pins H' C->Q (.ref D) H'->RR (.ref D) C (.ok .next) s') :
 ZZ (model X.prog X.w) X.A (aiB []) (λacc s3=>ZZ (model X.prog X.w) X.A (aeV scope X.env.globals cl [] X.env.qual O .none (U X.env)) (λrB s4 =>
  acF (model X.prog X.w) X.A (.compStart (.ListComp elt [#[tg,iter,ifs,0]] scope pos) 0 (.ref it) acc { rB with scope:=relabel scope X.env }) (RR acc rB.locals) s4) E s3) E s2:=by
 refine aaU (wpAny_newFunctionEnv (λy hy=>by simpa using aaw.mp S.nocell y hy) (λy hy=>absurd hy (by simp)) (λh1 jJ fh=>?_) S.kind);dsimp only at jJ fh ⊢;generalize eP:s2.heap.push { cls:=.type "list",dict:=O,data:=.seq ([]:List ZP).toArray }=P2 at jJ fh ⊢;have sz:P2.objs.size=s2.heap.objs.size+1:=by rw[<- eP,abm]
 have jL:s2.heap.objs.size≠P2.objs.size:=by walk_at "o"
 have keep:∀ b o,s2.heap.get? b=U o->h1.get? b=U o:=λb o e=>by have lt:=ZM e;exact fh.extBut b o (by walk_at "o") (ZH _ (eP ▸ ZH _ e))
 have hD:h1.get? s2.heap.objs.size=U { cls:=.type "list",data:=.seq ([]:List ZP).toArray 0 } :=
  fh.extBut _ _ jL (ZH _ (eP ▸ ZR _ Y))
 generalize eC:P2.objs.size=C at jJ fh jL ⊢;generalize eD:s2.heap.objs.size=D at jL hD;have jM:s2.heap.objs.size<=C:=by walk_at "o"
 have nF:s2.heap.objs.size<=D:=by walk_at "o"
 have gL:∀ b∈fp,b<s2.heap.objs.size:=λb hb=>by obtain⟨o,e,_⟩:=T.obj 0 _ eF b hb;exact ZM e
 have yL:(cY X (own++ys) scope cl C s2 H2 fp (X.pn++pins)).Ok:=Oe S I2 f2 jM (λb hb=>by have:=gL b hb;walk_at "o");have rq:=yG I2 f2 jM nF;have I4:Inv (cY X (own++ys) scope cl C s2 H2 fp (X.pn++pins)) [] ((own.map λ_=>O)++fr.map λj=>(J[j]?).join) H2 { s2 with heap:=h1,toks:=s2.toks+([]:List (Str × ZP)).length }:=by
  refine#[yL,Y,I2.bare,Un.kept keep,#[_,jJ,λi y v e1 e2 e3=>?_],λy c e=>?_,I2.ak.fresh jM,λy c e=>I2.hU y c (S.cls.get y c e),λp hp=>?_,I2.ak.kept keep,?_]
  .by_cases hio:i<own.length
   .rw[aay (by simpa using hio)] at e2;simp[hio] at e2
   .rw[aaN (by simp;lia)] at e2;have lS:ys[i-own.length]?=U y:=by
     have:(own++ys)[i]?=U y:=e1
     rwa [aaN (by lia)] at this
    rw[ZJ] at e2;obtain⟨j,c,hN,hσ,hk,yM,yN⟩:=S.a8.get (i-own.length) y v lS e2;obtain⟨m,hm,hl⟩:=I2.loc;obtain⟨u,ru,lu⟩:=hl j y v hN hσ (.inr (.inl hk));refine#[u,ru,.inr #[.inl ?_,c,yM,?_]]
    .have z:=aaw.mp S.kfr y (Z2 lS);exact (by simpa using z:(relabel scope X.env).names.lookup y=U .cell)
    .rcases lu with ⟨z,_⟩|⟨_,c',e',q'⟩
     .rw[hk] at z;cases z
     .rw[yN] at e';cases e';obtain⟨o,ho,hd⟩:=q';exact#[o,keep _ _ ho,hd]
  .obtain⟨v,o,ho,hd⟩:=I2.cell y c (S.cls.get y c e);exact#[v,o,keep _ _ ho,hd]
  .have cC:p∈X.pn++pins:=by have:p∈(X.pn++pins)++[]:=hp;simpa using this
   obtain⟨e,n,_,_,d⟩:=I2.pin p cC;obtain⟨p1,_,p3,_⟩:=rq p cC;exact#[keep _ _ e,n,p1,p3,d]
  .show ((own.map λ_=>(O:Option V))++fr.map λj=>(J[j]?).join).length=(own++ys).length;simp[S.a8.len]
 refine Fw hc (hg C s2 H2 fp (X.pn++pins)) (hb C s2 H2 fp (X.pn++pins)) I2 T eF f2 h rn (by simp) I4 keep hD eD (sz.symm.trans eC) λy c e=>?_;obtain⟨v,o,ho,_⟩:=I2.cell y c (S.cls.get y c e);have:=ZM ho;exact#[by walk_at "o",λb hb z=>(f2 b hb).2.2.2.2.1 y c (S.cls.get y c e) z]
theorem FH{wi:TI}{B:L2.St->It->Hp->VK->Prop}(S:i7 X own scope cl fr ys)(hc:X.calm=true)(hi:PI X tg iter wi)(hg:∀ (C:ZX) (s:ZU) (H:Hp) (ex:List ZX) (pn:List (ZX × Obj)),PG (cY X (own++ys) scope cl C s H ex pn) tg g)
 (hb:∀ (C:ZX) (s:ZU) (H:Hp) (ex:List ZX) (pn:List (ZX × Obj)),ip (cY X (own++ys) scope cl C s H ex pn) ifs tt/\PE (cY X (own++ys) scope cl C s H ex pn) elt te)
 (hB:∀ ρ J9q H Q,B ρ J9q H Q->i8 own.length J9q g ρ tt te H Q) (hs:∀ z,abR iter X.env z=pure z:=by intro v;rfl):PE X (.ListComp elt [#[tg,iter,ifs,0]] scope pos) (λJ H Q=>wi J H λJ9q H1=>B (fr.map λj=>(J[j]?).join) J9q H1 Q):=by
 intro pins s J H Q I h;rw[eval_ListComp];refine adM (use:=O) Y hs S.clos S.kind (λy hy hl=>?_) (az (hi pins s J H _ I h) λxv s1 h1=>az h1 λqO s2 h2=>?_)
 .have z:=aaw.mp S.names y hy;rw[hl] at z;simpa using z
 .obtain⟨it,fp,tn,J9q,H2,rfl,I2,T,eF,f2,fi⟩:=h2;refine FG (RR:=λacc C=>compPost (model X.prog X.w) X.A X.xe O (EP X pins J Q) acc C) S hc hg hb I2 T eF f2 (hB _ _ _ _ fi) λD C s' H' J' hn fC q=>?_;obtain⟨m,hm⟩:=hn;obtain⟨c0,c1,c2,c3,c4,c5⟩:=fC;exact#[m,hm,λh' sb=>#[.ref D,H',J'.turned (it:=C) (λb o hb e=>sb.extBut b o hb e) c0 c1 c3 c4 c5,Y,q]]
theorem FI{wi:TI}{B:L2.St->It->Hp->VK->Prop}{y:Str}{py pj:Pos}{i:Nat}(S:i7 X own scope cl fr ys)(hc:X.calm=true)(hN:X.N.Nodup)(hy:X.N[i]?=U y)(hl:X.env.scope.names.lookup y=U .local)(hi:PI X tg iter wi)(hg:∀ (C:ZX) (s:ZU) (H:Hp) (ex:List ZX) (pn:List (ZX × Obj)),PG (cY X (own++ys) scope cl C s H ex pn) tg g)
 (hb:∀ (C:ZX) (s:ZU) (H:Hp) (ex:List ZX) (pn:List (ZX × Obj)),ip (cY X (own++ys) scope cl C s H ex pn) ifs tt/\PE (cY X (own++ys) scope cl C s H ex pn) elt te)
 (hB:∀ ρ J9q H Q,B ρ J9q H Q->i8 own.length J9q g ρ tt te H Q) (rC:aee (.ListComp elt [#[tg,iter,ifs,0]] scope pos) (U (.Name y py)) pj.line X.env=pure true:=by rfl)
 (hs:∀ z,abR iter X.env z=pure z:=by intro _;rfl):PS X (.Assign [.Name y py] (.ListComp elt [#[tg,iter,ifs,0]] scope pos) pj) (vA i λJ H Q=>wi J H λJ9q H1=>B (fr.map λj=>(J[j]?).join) J9q H1 Q):=by
 intro pins s J H Dn I h;rw[exec_Assign_Name_used _ _ _ _ rC];refine ZE (agR (ZE ?_));show ZZ _ X.A (do let _ <- comprehension (.ListComp elt [#[tg,iter,ifs,0]] scope pos) scope X.env _ (aiB []) false (eval iter X.env) (U (assign (.Name y py) X.env))) _ _ s;refine ZE (az (adM (use:=U (assign (.Name y py) X.env)) (Q:=λ_ s'=>SP X pins Dn .next s') Y hs S.clos S.kind (λz hz hl=>?_) (az (hi pins s J H _ I h) λxv s1 h1=>az h1 λqO s2 h2=>?_)) λ_ s' hq=>ZI (ZI hq))
 .have z':=aaw.mp S.names z hz;rw[hl] at z';simpa using z'
 .obtain⟨it,fp,tn,J9q,H2,rfl,I2,T,eF,f2,fi⟩:=h2;refine FG (RR:=λacc C=>compPost (model X.prog X.w) X.A X.xe (U (assign (.Name y py) X.env)) (λ_ s'=>SP X pins Dn .next s') acc C) S hc hg hb I2 T eF f2 (hB _ _ _ _ fi) λD C s' H' J' hn fC q=>?_;obtain⟨m,oC,es,ep,ho,hd,hr⟩:=hn;obtain⟨c0,c1,c2,c3,c4,c5⟩:=fC;have J2:Inv X (pins++[(C,oC)]) J H' s':=J'.qI λp hp=>by
   rcases aaf.mp hp with z|z
   .exact J'.pin p (aaa _ z)
   .have:p=(C,oC):=by simpa using z
    subst this;exact#[ho,c0,c1,c2,λv z=>by rw[hd] at z;cases z]
  show ZZ _ X.A (assign (.Name y py) X.env (.ref D)) _ _ _;refine az (eE (X:=X) hN hy (.inl hl) (.inr hl) _ s' J H' (.ref D) (.ref D) (λσ' lT=>σ'=J.set i (U (.ref D))/\lT=H') J2 Y #[Y,Y]) λ_ s3 zq=>?_;obtain⟨σ3,H3,J3,e1,e2⟩:=zq;subst e1 e2;obtain⟨pc,Y7,_⟩:=J3.pin (C,oC) (aaa _ (aaa _ (aap.mpr Y)));refine#[m,#[oC,es,ep,pc,hd,hr],λh' sb=>#[_,H3,J3.uW.turned (it:=C) (λb o hb e=>sb.extBut b o hb e) c0 c1 c3 c4 c5,q]]
theorem yO(S:i7 X own scope cl fr ys)(hc:X.calm=true)(hi:PI X tg iter wi)(hg:∀ (C:ZX) (s:ZU) (H:Hp) (ex:List ZX) (pn:List (ZX × Obj)),PG (cY X (own++ys) scope cl C s H ex pn) tg g)(hb:∀ (C:ZX) (s:ZU) (H:Hp) (ex:List ZX) (pn:List (ZX × Obj)),ip (cY X (own++ys) scope cl C s H ex pn) ifs tt/\PE (cY X (own++ys) scope cl C s H ex pn) elt te)(hs:∀ z,abR iter X.env z=pure z:=by intro y;rfl):PE X (.ListComp elt [#[tg,iter,ifs,0]] scope pos) (yE own.length wi g fr tt te):=FH (B:=λρ J9q H Q=>i8 own.length J9q g ρ tt te H Q) S hc hi hg hb (λy y y y h=>h) hs
theorem Ov(S:i7 X own scope cl fr ys)(hc:X.calm=true)(hN:X.N.Nodup)(hy:X.N[i]?=U y)(hl:X.env.scope.names.lookup y=U .local)(hi:PI X tg iter wi)(hg:∀ (C:ZX) (s:ZU) (H:Hp) (ex:List ZX) (pn:List (ZX × Obj)),PG (cY X (own++ys) scope cl C s H ex pn) tg g)(hb:∀ (C:ZX) (s:ZU) (H:Hp) (ex:List ZX) (pn:List (ZX × Obj)),ip (cY X (own++ys) scope cl C s H ex pn) ifs tt/\PE (cY X (own++ys) scope cl C s H ex pn) elt te)(rC:aee (.ListComp elt [#[tg,iter,ifs,0]] scope pos) (U (.Name y py)) pj.line X.env=pure true:=by rfl)(hs:∀ z,abR iter X.env z=pure z:=by intro v;rfl):PS X (.Assign [.Name y py] (.ListComp elt [#[tg,iter,ifs,0]] scope pos) pj) (vA i (yE own.length wi g fr tt te)):=FI (B:=λρ J9q H Q=>i8 own.length J9q g ρ tt te H Q) S hc hN hy hl hi hg hb (λv v v v h=>h) rC hs
end
theorem yP(h:lR J9q ρ tt te H Q):i8 1 J9q (bU 0) ρ tt te H Q:=by
 obtain⟨W,w0,turn⟩:=h;refine#[W,w0,λi m ys H hw=>(turn i m ys H hw).imp id λ⟨a,b,N,hN,st⟩=>#[a,b,N,hN,λos ho x H' y=>?_]]
 match os,ho with
 | [_],_=>exact#[[U x],Y,Y,st x H' y]
section
theorem nE.g(S:nE X x scope cl fr ys):i7 X [x] scope cl fr ys:=#[S.clos,S.nocell,S.kind,S.names,S.kinds,S.cls,S.a8,S.kfr]
theorem nE.pg(S:nE X x scope cl fr ys)(C:ZX)(s:ZU)(H:Hp)(ex:List ZX)(pn:List (ZX × Obj)):PG (cY X ([x]++ys) scope cl C s H ex pn) (.Name x px) (bU 0) :=
 eE (X:=cY X (x::ys) scope cl C s H ex pn) (i:=0) S.nd Y (.inl (aad S.own)) (.inr (aad S.own))
theorem eX(S:nE X x scope cl fr ys)(hc:X.calm=true)(hi:PI X (.Name x px) iter wi)(hb:∀ (C:ZX) (s:ZU) (H:Hp) (ex:List ZX) (pn:List (ZX × Obj)),ip (cY X (x::ys) scope cl C s H ex pn) ifs tt/\PE (cY X (x::ys) scope cl C s H ex pn) elt te)(hs:∀ z,abR iter X.env z=pure z:=by intro y;rfl):PE X (.ListComp elt [#[.Name x px,iter,ifs,0]] scope pos) (vy wi fr tt te):=FH (B:=λρ J9q H Q=>lR J9q ρ tt te H Q) S.g hc hi S.pg hb (λy y y y h=>yP h) hs
theorem yQ(S:nE X x scope cl fr ys)(hc:X.calm=true)(hN:X.N.Nodup)(hy:X.N[i]?=U y)(hl:X.env.scope.names.lookup y=U .local)(hi:PI X (.Name x px) iter wi)(hb:∀ (C:ZX) (s:ZU) (H:Hp) (ex:List ZX) (pn:List (ZX × Obj)),ip (cY X (x::ys) scope cl C s H ex pn) ifs tt/\PE (cY X (x::ys) scope cl C s H ex pn) elt te)(rC:aee (.ListComp elt [#[.Name x px,iter,ifs,0]] scope pos) (U (.Name y py)) pj.line X.env=pure true:=by rfl)(hs:∀ z,abR iter X.env z=pure z:=by intro v;rfl):PS X (.Assign [.Name y py] (.ListComp elt [#[.Name x px,iter,ifs,0]] scope pos) pj) (vA i (vy wi fr tt te)):=FI (B:=λρ J9q H Q=>lR J9q ρ tt te H Q) S.g hc hN hy hl hi S.pg hb (λv v v v h=>yP h) rC hs
end
def eK(Ok:Hp->Prop)(ρ:L2.St)(tt:TT)(te:TE):List V->List V->Hp->(List V->Hp->Prop)->Prop
 | [],ys,H,Q=>Ok H/\Q ys H
 | x::r,ys,H,Q=>Ok H/\tt (U x::ρ) H λb H1=>if b=true then te (U x::ρ) H1 λy H2=>eK Ok ρ tt te r (ys++[y]) H2 Q else eK Ok ρ tt te r ys H1 Q
structure vC(J9q:It)(Ok:Hp->Prop)(xs:List V):Prop where
 go:∀ i H x,Ok H->xs[i]?=U x->J9q.go i H
 yld:∀ i H x H',Ok H->J9q.yld i H x H'->H'=H/\(i<xs.length->xs[i]?=U x)
 stop:∀ i H,Ok H->xs.length<=i->J9q.stop i H
section
variable{J9q:It}{Ok:Hp->Prop}{xs:List V}{ρ:L2.St}{tt:TT}{te:TE}{H:Hp}{Q:VK}{K:ZF}{a:ZX}
theorem d8(O9q:vC J9q Ok xs)(hn:xs.length<=aah)(h:eK Ok ρ tt te xs [] H λys H'=>∀ l,H' l=O->Q (.ref l) (upd H' l (.lst ys))):lR J9q ρ tt te H Q:=by
 refine#[λi m ys H=>m=xs.length-i/\i<=xs.length/\ys.length<=i/\eK Ok ρ tt te (xs.drop i) ys H λys H'=>∀ l,H' l=O->Q (.ref l) (upd H' l (.lst ys)),#[_,Y,Z3 _,ZS _,h],?_];rintro i m ys H ⟨rfl,hi,hy,g⟩;by_cases aL:i<xs.length
 .have e:=aa4 aL;rw[e] at g;obtain⟨g0,g1⟩:=g;refine .inr #[O9q.go i H _ g0 (ZK aL),by walk_at "o",λzs H'=>zs.length<=i+1/\eK Ok ρ tt te (xs.drop (i+1)) zs H' λys H'=>∀ l,H' l=O->Q (.ref l) (upd H' l (.lst ys)),λzs H' q=>#[_,by walk_at "o",Y,aL,q.1,q.2],λx H' y=>?_];obtain⟨rfl,ex⟩:=O9q.yld i H x H' g0 y;have ex:=ex aL;rw[ZK aL] at ex;cases ex;have l1:∀ y:V,(ys++[y]).length<=i+1:=λy=>by rw[aac,aab];walk_at "o"
  have l2:ys.length<=i+1:=by walk_at "o"
  simp only[l1,l2,true_and];exact g1
 .have e:i=xs.length:=by walk_at "o"
  subst e;rw[ahy] at g;exact .inl #[O9q.stop _ H g.1 (ZS _),by walk_at "o",g.2]
theorem jN:vC (iX K a) (λH=>ah K H a xs) xs :=
 #[λz z z h e=>#[xs,_,h,e],λz z z z h y=>#[y.1,λz=>y.2 xs h],λz z h hi=>#[xs,h,hi]]
theorem FK:vC (qP K a) (λH=>aw K H a xs) xs :=
 #[λz z z h e=>#[xs,_,h,e],λz z z z h y=>#[y.1,λz=>y.2 xs h],λz z h hi=>#[xs,h,hi]]
theorem nG{lo:Int}{n:Nat}:vC (iY lo n) (λz=>True) ((Z7 n).map λk=>V.int (lo+(k:Nat))) :=
 #[λi z z z e=>by
  have:=(ZL.mp e).1;show i<n;simpa using this,λi z z z z y=>#[y.1,λhi=>by
   have aV:i<n:=by simpa using hi
   rw[y.2,Z1,aa1 aV];rfl],λi z z hi=>by
   show n<=i;simpa using hi]
theorem vD(cR:Ok H):∀ {xs ys:List V},(∀ x∈xs,∀ Q,Q (p x) H->tt (U x::ρ) H Q)->(∀ x∈xs,p x=true->∀ Q,Q (f x) H->te (U x::ρ) H Q)->Q' (ys++(xs.filter p).map f) H->eK Ok ρ tt te xs ys H Q'
 | [],ys,_,_,q=>#[cR,by simpa using q]
 | x::r,ys,ht,he,q=>by
  refine#[cR,ht x (.head _) _ ?_];by_cases hb:p x=true
  .rw[if_pos hb];refine he x (.head _) hb _ (vD cR (λy hy=>ht y (.tail _ hy)) (λy hy=>he y (.tail _ hy)) ?_);rw[aaK,if_pos hb] at q;simpa using q
  .rw[if_neg hb];refine vD cR (λy hy=>ht y (.tail _ hy)) (λy hy=>he y (.tail _ hy)) ?_;rw[aaK,if_neg hb] at q;exact q
end
section
variable{X:Cx}{K:ZF}
theorem Ow(h:X.K=K):jH X (eJ K):=h ▸ cw
theorem Ox(h:X.K=K):eT X (.builtin "len") (λxs H Q=>∃ x n,xs=[x]/\uZ K x H n/\Q (.int n) H):=h ▸ dg
theorem FL(h:X.K=K):bo X (abl .In) (vh K false):=h ▸ yn
theorem Oy(h:X.K=K):bo X (abl .NotIn) (vh K true):=h ▸ E1
end
theorem FN{prog:aaE}{w:abb}{A:abI}{E:ZP->ZU->Prop}{s:ZU}{id:String}{b:aci}{args:List ZP}{kw:List (Str × ZP)}{Q:ZP->ZU->Prop}(hk:ah6 id=O)(hp:ah7 id=true)
 (hb:aeN table id=U b) (ha:aeO id #[args,kw])
 (hc:ZZ (model prog w) A.in1 (b #[args,kw]) (λfin s'=>match fin with
   | .done f=>(match (Except.ok f:afW) with|.ok (.ret v)=>Q v s'|.ok _=>False|.error e=>E e s')
   | .again c'=>c'.quiet=true/\acF (model prog w) A c' (λr s'=>match r with|.ok (.ret v)=>Q v s'|.ok _=>False|.error e=>E e s') s') E s) :
 ZZ (model prog w) A (call (.builtin id) args kw) Q E s:=by
 refine ae5 (adp hp hb ?_);simp only[ahz,hk];cases hsig:Manifest.signature? id with
 | none=>exact ZI hc
 | some sig =>
  have rh:Bind.checkArgs id sig #[args,kw]=pure ():=by simpa only [aeO,hsig] using ha
  simp only[rh];exact ZI hc
noncomputable def yS:{ F:String->CmpOp->aci // F "max" .Gt=aci.«max.loop»/\F "min" .Lt=aci.«min.loop» }:=#[_,Y,Y]
noncomputable def FO:{ F:String->aci // F "max" = aci.«max»/\F "min" = aci.«min» }:=#[_,Y,Y]
theorem FP{nx id:String}{op:CmpOp}(nm:(toString nx++toString ".loop" : String)=id)(e1:aeN table id=U (yS.1 nx op))(e2:ah7 id=true){prog:aaE}{w:abb}{A:abI}{R:afW->ZU->Prop}{I S:ZX}{fp wr:List ZX}{n:Nat}{P:Nat->ZP->Prop}{St:Nat->acz->Prop}{G:acz->Prop}{bt:Nat->Nat->Bool}{kw:List (Str × ZP)}
 (W:Walks prog w A.in1 I fp wr n P St) (hG:∀ h h',G h->(∀ b o,b∉wr->b≠S->h.get? b=U o->h'.get? b=U o)->G h')
 (kG:∀ i j vi vj (s:ZU) (Q:ZP->ZU->Prop) (E:ZP->ZU->Prop),P i vi->P j vj->G s.heap->Q (.bool (bt i j)) s->ZZ (model prog w) A.in1 (aeA op vi vj) Q E s) (hS:S∉fp):∀ (k j:Nat) (s:ZU) (vb:ZP) (c:Nat),k+(j+1)=n->St (j+1) s.heap->G s.heap->P (ab3 bt j) vb ->
  s.heap.get? S=U { cls:=.type "list",dict:=O,data:=.seq (List.toArray [vb,vb]) c,slots:=(List.toArray []) } ->
  (∀ v h' tk,P (ab3 bt (n-1)) v->(∀ b o,b∉wr->b≠S->s.heap.get? b=U o->h'.get? b=U o)->R (.ok (.ret v)) { s with heap:=h',toks:=tk }) ->
  acF (model prog w) A (.builtin id #[[.ref I,.none,.ref S],kw]) R s:=by
 have nS:S∉wr:=λz=>hS (W.sub _ z);intro k
 induction k with
 | zero =>
  intro j s vb c e st g pb oS fin;have e':j+1=n:=by walk_at "o"
  refine aau e1 ?_;rw[aai e2 _];show ZZ _ A.in1 (aef (.ref S) >>= _) _ _ s;refine ZE (abH oS Y ?_);show ZZ _ A.in1 (tryCatch (acQ (.ref I)) _ >>= _) _ _ s;refine ZE (abo (W.done s _ _ (e' ▸ st) λh1 tk kp=>?_));have dO:=kp S _ nS oS;show ZZ _ A.in1 (aeg S (λy=>(List.toArray [])) >>= _) _ _ _;refine ZE ?_;refine abp dO Y (ZE (acj (ZI ?_)));exact fin vb _ tk (by rw[<- e'];exact pb) λb o hw hb q=>(ZV _ _ (aaQ hb)).trans (kp b o hw q)
 | succ k ih =>
  intro j s vb c e st g pb oS fin;have lt:j+1<n:=by walk_at "o"
  refine aau e1 ?_;rw[aai e2 _];show ZZ _ A.in1 (aef (.ref S) >>= _) _ _ s;refine ZE (abH oS Y ?_);show ZZ _ A.in1 (tryCatch (acQ (.ref I)) _ >>= _) _ _ s;refine ZE (abo (W.item (j+1) s _ _ lt st λv h1 tk pv ja kp=>?_));have dO:=kp S _ nS oS;have g1:G h1:=hG _ _ g λb o hw y q=>kp b o hw q;show ZZ _ A.in1 (tryCatch (holding [v,v] (aeA op v vb >>= _)) _ >>= _) _ _ _;refine ZE (abo (aaB (ZE (kG (j+1) (ab3 bt j) v vb _ _ _ pv pb g1 ?_))));refine ZE (aaB (aaR ?_));refine ZE (acj (ZI ?_));cases hb:bt (j+1) (ab3 bt j) with
  | true =>
   simp only[if_true];refine ZE ?_;refine abp dO Y (ZE (acj ?_));rw[nm];refine ZI #[aaY e2 _,ih (j+1) _ v _ (by walk_at "o") (W.frame _ _ _ ja λb hf o q=>?_) (hG _ _ g1 λb o y lU q=>(ZV _ _ (aaQ lU)).trans q) (by simp only[ab3,hb,if_true];exact pv) (aam _ dO Y) λv2 h2 jb p2 k2=>?_]
   .exact (ZV _ _ (λz:S=b=>hS (by rw[z];exact hf))).trans q
   .exact fin v2 h2 jb p2 λb o hw lU q=>k2 b o hw lU ((ZV _ _ (aaQ lU)).trans (kp b o hw q))
  | false =>
   simp only[ZT,if_false];refine ZE (acj ?_);rw[nm];refine ZI #[aaY e2 _,ih (j+1) _ vb c (by walk_at "o") ja g1 (by simp only[ab3,hb,ZT,if_false];exact pb) dO λv2 h2 jb p2 k2=>?_];exact fin v2 h2 jb p2 λb o hw lU q=>k2 b o hw lU (kp b o hw q)
theorem Oz{nx id:String}{op:CmpOp}(nm:(toString nx++toString ".loop" : String)=id)(e1:aeN table id=U (yS.1 nx op))(e2:ah7 id=true)(k0:ah6 nx=O)(k1:ah7 nx=true)(k2:aeN table nx=U (FO.1 nx))(k3:∀ a d:ZP,aeO nx #[[a],[("default",d)]]){prog:aaE}{w:abb}{A:abI}{E:ZP->ZU->Prop}{s:ZU}{l:ZX}{xs:Array (Int × Tok)}{d:ZP}{Q:ZP->ZU->Prop}{bt:Nat->Nat->Bool}(e4:CmpOf prog w A.in1 op (λi v=>(acv xs)[i]?=U v) bt)(hh:A.handled=O)(hl:s.heap.IsList l (acv xs))
 (h0:xs.size=0->∀ h' tk,(∀ b o,s.heap.get? b=U o->h'.get? b=U o)->Q d { s with heap:=h',toks:=tk })
 (h1:0<xs.size->∀ v h' tk,(acv xs)[ab3 bt (xs.size-1)]?=U v->(∀ b o,s.heap.get? b=U o->h'.get? b=U o)->Q v { s with heap:=h',toks:=tk }) :
 ZZ (model prog w) A (call (.builtin nx) [.ref l] [("default",d)]) Q E s:=by
 refine FN k0 k1 k2 (k3 _ _) ?_;show ZZ _ A.in1 (abd _ ["key","default"] 0 #[[],[("default",d)]] >>= _) _ _ s;refine ZE (aeB (show abd _ ["key","default"] 0 #[[],[("default",d)]]=pure [O,U d] from Y) ?_);refine ZE (ZI ?_);refine ZE (iter_intList hl λs2 e2 st gL yT=>?_);subst e2;refine ZE (aaU ?_);have W:=Walks.list (prog:=prog) (w:=w) (A:=A.in1) hh s.heap.objs.size l yT (acv xs);generalize eP:(s.heap.push { cls:=.type "list_iterator",data:=.fields (List.toArray [.ref l,.int 0 0]) })=P2 at st gL ⊢;have gM:P2.objs.size∉[s.heap.objs.size,l]:=λz=>aa8 _ (gL _ z);have up:∀ b o,s.heap.get? b=U o->b≠P2.objs.size/\b∉[s.heap.objs.size]/\(P2.push { cls:=.type "list",dict:=O,data:=.seq ([]:List ZP).toArray }).get? b=U o:=λb o q=>by
  have lt:=ZM q;have q2:P2.get? b=U o:=by rw[<- eP];exact ZH _ q
  refine#[ZY (ZM q2),λz=>?_,ZH _ q2];have:b=s.heap.objs.size:=by simpa using z
  walk_at "o"
 rw[nm];refine ZI #[aaY e2 _,?_];have oS:(P2.push { cls:=.type "list",dict:=O,data:=.seq ([]:List ZP).toArray }).get? P2.objs.size=U { cls:=.type "list",dict:=O,data:=.seq (List.toArray []) 0,slots:=(List.toArray []) }:=ZR _ rfl;have cB:=W.frame 0 P2 (P2.push { cls:=.type "list",dict:=O,data:=.seq ([]:List ZP).toArray }) st λb y o q=>ZH _ q;have nS:P2.objs.size∉[s.heap.objs.size]:=λz=>gM (by simp at z;simp[z]);by_cases hz:xs.size=0
 .have yU:(P2.push { cls:=.type "list",dict:=O,data:=.seq ([]:List ZP).toArray }).IsListIter s.heap.objs.size l (acv xs).size/\(P2.push { cls:=.type "list",dict:=O,data:=.seq ([]:List ZP).toArray }).IsList l (acv xs):=by
   have:(acv xs).size=0:=by simpa [acv] using hz
   rw[this];exact cB
  refine aau e1 ?_;rw[aai e2 _];show ZZ _ A.in1 (aef (.ref P2.objs.size) >>= _) _ _ _;refine ZE (abH oS Y ?_);show ZZ _ A.in1 (tryCatch (acQ (.ref s.heap.objs.size)) _ >>= _) _ _ _;refine ZE (abo (W.done _ _ _ yU λh2 tk kp=>?_));refine ZE (adN (ZI ?_));exact h0 hz h2 tk λb o q=>kp b o (up b o q).2.1 (up b o q).2.2
 .have hp:0<xs.size:=by walk_at "o"
  have hn:0<(acv xs).size:=by simpa [acv] using hp
  refine aau e1 ?_;rw[aai e2 _];show ZZ _ A.in1 (aef (.ref P2.objs.size) >>= _) _ _ _;refine ZE (abH oS Y ?_);show ZZ _ A.in1 (tryCatch (acQ (.ref s.heap.objs.size)) _ >>= _) _ _ _;refine ZE (abo (W.item 0 _ _ _ hn cB λv h2 tk pv ja kp=>?_));have dO:=kp _ _ nS oS;show ZZ _ A.in1 (aeg P2.objs.size (λy=>(List.toArray [v,v])) >>= _) _ _ _;refine ZE ?_;refine abp dO Y ?_;rw[nm];refine ZI #[aaY e2 _,FP nm e1 e2 (G:=λy=>True) W (λy y y y=>trivial) (λi j vi vj s Q E h1 h2 y q=>e4 i j vi vj s Q E h1 h2 q) gM ((acv xs).size-1) 0 _ v _ (by walk_at "o") (W.frame _ _ _ ja λb hf o q=>?_) trivial pv (aam _ dO Y) λv2 h3 nH p3 k3=>?_]
  .exact (ZV _ _ (λz:P2.objs.size=b=>gM (by rw[z];exact hf))).trans q
  .refine h1 hp v2 h3 nH (by simpa [acv] using p3) λb o q=>?_;exact k3 b o (up b o q).2.1 (up b o q).1 ((ZV _ _ (aaQ (up b o q).1)).trans (kp b o (up b o q).2.1 (up b o q).2.2))
noncomputable def pq:List Int->Int
 | []=>0
 | x::r=>r.foldl (λb y=>if y > b then y else b) x
noncomputable def pw:List Int->Int
 | []=>0
 | x::r=>r.foldl (λb y=>if y<b then y else b) x
theorem FQ:∀ (r:List Int) (b:Int),b<=r.foldl (λb y=>if y > b then y else b) b/\(∀ y∈r,y<=r.foldl (λb y=>if y > b then y else b) b)/\(r.foldl (λb y=>if y > b then y else b) b=b∨r.foldl (λb y=>if y > b then y else b) b∈r)
 | [],b=>#[abe _,λv z=>(nomatch z),.inl rfl]
 | x::r,b=>by
  simp only[af1];obtain⟨h1,h2,h3⟩:=FQ r (if x > b then x else b);refine#[?_,λy hy=>?_,?_]
  .refine af2 ?_ h1;split<;>lia
  .rcases ZO.mp hy with rfl|hy
   .refine af2 ?_ h1;split<;>lia
   .exact h2 y hy
  .rcases h3 with h3|h3
   .rw[h3];split
    .right;simp
    .left;rfl
   .right;exact Z6 _ h3
theorem FR:∀ (r:List Int) (b:Int),r.foldl (λb y=>if y<b then y else b) b<=b/\(∀ y∈r,r.foldl (λb y=>if y<b then y else b) b<=y)/\(r.foldl (λb y=>if y<b then y else b) b=b∨r.foldl (λb y=>if y<b then y else b) b∈r)
 | [],b=>#[abe _,λv z=>(nomatch z),.inl rfl]
 | x::r,b=>by
  simp only[af1];obtain⟨h1,h2,h3⟩:=FR r (if x<b then x else b);refine#[?_,λy hy=>?_,?_]
  .refine af2 h1 ?_;split<;>lia
  .rcases ZO.mp hy with rfl|hy
   .refine af2 h1 ?_;split<;>lia
   .exact h2 y hy
  .rcases h3 with h3|h3
   .rw[h3];split
    .right;simp
    .left;rfl
   .right;exact Z6 _ h3
theorem OA(h:ns≠[]):pq ns∈ns/\∀ y∈ns,y<=pq ns:=by
 cases ns with
 | nil=>exact absurd Y h
 | cons x r =>
  obtain⟨h1,h2,h3⟩:=FQ r x;refine#[?_,λy hy=>?_]
  .rcases h3 with h3|h3
   .show r.foldl _ x∈_;rw[h3];exact .head _
   .exact .tail _ h3
  .rcases ZO.mp hy with rfl|hy
   .exact h1
   .exact h2 y hy
theorem OB(h:ns≠[]):pw ns∈ns/\∀ y∈ns,pw ns<=y:=by
 cases ns with
 | nil=>exact absurd Y h
 | cons x r =>
  obtain⟨h1,h2,h3⟩:=FR r x;refine#[?_,λy hy=>?_]
  .rcases h3 with h3|h3
   .show r.foldl _ x∈_;rw[h3];exact .head _
   .exact .tail _ h3
  .rcases ZO.mp hy with rfl|hy
   .exact h1
   .exact h2 y hy
theorem FT:∀ {ns:List Int} {ai:List ZP},Vals (ns.map V.int) ai->∃ xs:Array (Int × Tok),ai.toArray=acv xs/\xs.toList.map (·.1)=ns
 | [],_,.nil=>#[(List.toArray []),by simp[acv],Y]
 | n::ns,_,.cons (l₂:=ai) r t=>by
  obtain⟨xs,e1,e2⟩:=FT (ns:=ns) t;obtain⟨tk,rfl⟩:=r;refine#[((n,tk)::xs.toList).toArray,?_,?_]
  .have:ai=xs.toList.map (λp=>Value.int p.1 p.2):=by have:=congrArg ahp e1;simpa [acv] using this
   simp[acv,this]
  .simp[e2]
theorem FU(e:xs.toList.map (·.1)=ns)(hi:i<xs.size):agJ xs i∈ns/\agJ xs i=ns.getD i 0:=by subst e;unfold agJ;rw[aao hi];refine#[ZN.mpr #[xs[i],by simp,Y],?_];simp[hi]
theorem FV(e:xs.toList.map (·.1)=ns)(hy:y∈ns):∃ i,i<xs.size/\agJ xs i=y:=by
 subst e;obtain⟨p,hp,rfl⟩:=ZN.mp hy;obtain⟨i,hi,e⟩:=agq.mp hp;refine#[i,by simpa using hi,?_];unfold agJ;have aV:i<xs.size:=by simpa using hi
 rw[aao aV];have:xs[i]=p:=by simpa using e
 rw[this];rfl
theorem OC(e:xs.toList.map (·.1)=ns)(h:0<xs.size):agJ xs (ab3 (λi j=>decide (agJ xs i > agJ xs j)) (xs.size-1))=pq ns:=by
 obtain⟨h1,h2⟩:=argBest_gt (agJ xs) (xs.size-1);have bM:ns≠[]:=by intro z;subst z;have q:=congrArg List.length e;rw[ZJ,acf,acH] at q;lia
 obtain⟨m1,m2⟩:=OA bM;refine af3 (m2 _ (FU e (by lia)).1) ?_;obtain⟨i,hi,ei⟩:=FV e m1;rw[<- ei];exact h2 i (by lia)
theorem OD(e:xs.toList.map (·.1)=ns)(h:0<xs.size):agJ xs (ab3 (λi j=>decide (agJ xs i<agJ xs j)) (xs.size-1))=pw ns:=by
 obtain⟨h1,h2⟩:=argBest_lt (agJ xs) (xs.size-1);have bM:ns≠[]:=by intro z;subst z;have q:=congrArg List.length e;rw[ZJ,acf,acH] at q;lia
 obtain⟨m1,m2⟩:=OB bM;refine af3 ?_ (m2 _ (FU e (by lia)).1);obtain⟨i,hi,ei⟩:=FV e m1;rw[<- ei];exact h2 i (by lia)
def yV(R:V->Hp->Prop):List V->Hp->Prop
 | [x],H=>R x H
 | _,_=>False
theorem FW:∀ {vs:List V} {H:Hp},yV R vs H->∃ x,vs=[x]/\R x H
 | [x],_,h=>#[x,Y,h]
section
noncomputable def nI(f:List Int->Int):List Int->V->V
 | [],y=>y
 | n::ns,_=>.int (f (n::ns))
theorem OE(h:ns≠[]):nI f ns y = .int (f ns):=by
 cases ns with
 | nil=>exact absurd Y h
 | cons _ _=>rfl
def vE(K:ZF)(f:List Int->Int)(te td:TE):TE:=λJ H Q=>te J H λx H1=>td J H1 λy H2=>∃ a ns,x = .ref a/\ah K H2 a (ns.map V.int)/\Q (nI f ns y) H2
theorem FX{X:Cx}{e d:ael}{te td:TE}{p pos kp:Pos}{nx:String}{f:List Int->Int}{op:CmpOp}{id:String}(nm:(toString nx++toString ".loop" : String)=id)(e1:aeN table id=U (yS.1 nx op))(e2:ah7 id=true)(k0:ah6 nx=O)(k1:ah7 nx=true)(k2:aeN table nx=U (FO.1 nx))(k3:∀ a d:ZP,aeO nx #[[a],[("default",d)]])(kb:aax nx=U (.builtin nx))(kn:aa7 nx≠aa7 "__name__")(kd:(aa7 nx == aa7 "__debug__")=false)
 (kc:∀ (A:abI) (xs:Array (Int × Tok)),∃ bt,CmpOf X.prog X.w A op (λi v=>(acv xs)[i]?=U v) bt/\∀ ns:List Int,xs.toList.map (·.1)=ns->0<xs.size->agJ xs (ab3 bt (xs.size-1))=f ns) (hc:X.calm=true) (hg:Gl X nx) (hm:X.mg nx=O) (he:PE X e te) (hd:PE X d td)
 (hs:aae [e] X.env=(false,eval e X.env)::aae [] X.env:=by rfl) (hq:aca pos (aae [e] X.env)=(false,eval e X.env)::aca pos (aae [] X.env):=by rfl) :
 PE X (.Call (.Name nx p) [e] [#[U "default",d,kp]] pos) (vE X.K f te td):=by
 intro pins s J H Q I h;refine aa9 (eB I hg hm kb ?_ kn (hd:=kd));refine callWith_kw (az ((ae he ag hs) pos pins s J H (yV λx H1=>td J H1 λy H2=>∃ (a:ZX) (ns:List Int),x = .ref a/\ah X.K H2 a (ns.map V.int)/\Q (nI f ns y) H2) I h) λus s1 ⟨vs,H1,I1,r,q⟩=>?_) hq (by rw[hs];rfl)
 .obtain⟨x,rfl,q⟩:=FW q;obtain⟨u,rfl,ru⟩:=vals1 r;refine kws_cons (az (hd pins s1 J H1 _ I1 q) λw s2 ⟨y,H2,I2,ry,a,ns,ex,hS,q1⟩=>kws_nil ?_);subst ex;cases ru;obtain⟨ai,rv,hp,c⟩:=I2.list hS;obtain⟨xs,lS,FY⟩:=FT rv;obtain⟨o,n,ho,aY,c,hdt⟩:=hp;have hl:s2.heap.IsList a (acv xs):=#[o,ho,aY,n,by rw[hdt,lS]]
  have len:xs.size=ns.length:=by rw[<- FY,ZJ];simp
  show ZZ _ X.A (call (.builtin nx) [.ref a] [("default",w)]) _ _ s2;obtain⟨bt,OF,OG⟩:=kc X.A.in1 xs;refine Oz nm e1 e2 k0 k1 k2 k3 OF (I2.ok.hd hc) hl (λhz h' tk hk=>#[y,H2,I2.kept hk,ry,?_]) λhp v h' tk hv hk=>#[.int (f ns),H2,I2.kept hk,?_,?_]
  .have z:ns=[]:=ab7.mp (by walk_at "o");rw[z] at q1;exact q1
  .obtain⟨t,rfl⟩:=ah8 hv;exact#[t,by rw[OG _ FY hp]]
  .rw[OE (λz=>by subst z;rw[acH] at len;lia)] at q1;exact q1
theorem OH(a d:ZP):aeO "max" #[[a],[("default",d)]]:=by unfold aeO;kernel_rfl
theorem OI{X:Cx}{e d:ael}{te td:TE}{p pos kp:Pos}(hc:X.calm=true)(hg:Gl X "max")(hm:X.mg "max" = O)(he:PE X e te)(hd:PE X d td)
 (hs:aae [e] X.env=(false,eval e X.env)::aae [] X.env:=by rfl) (hq:aca pos (aae [e] X.env)=(false,eval e X.env)::aca pos (aae [] X.env):=by rfl) :
 PE X (.Call (.Name "max" p) [e] [#[U "default",d,kp]] pos) (vE X.K pq te td) :=
 FX (by decide) PySem.F.entry_max_loop PySem.F.plain_max_loop PySem.F.kind_max PySem.F.plain_max PySem.F.entry_max OH yA (by decide) (by decide) (λy xs=>#[_,CmpOf.ints_gt (agJ xs) (λy y=>ah8),λy e h=>OC e h]) hc hg hm he hd hs hq
theorem OJ(a d:ZP):aeO "min" #[[a],[("default",d)]]:=by unfold aeO;kernel_rfl
theorem OL{X:Cx}{e d:ael}{te td:TE}{p pos kp:Pos}(hc:X.calm=true)(hg:Gl X "min")(hm:X.mg "min" = O)(he:PE X e te)(hd:PE X d td)
 (hs:aae [e] X.env=(false,eval e X.env)::aae [] X.env:=by rfl) (hq:aca pos (aae [e] X.env)=(false,eval e X.env)::aca pos (aae [] X.env):=by rfl) :
 PE X (.Call (.Name "min" p) [e] [#[U "default",d,kp]] pos) (vE X.K pw te td) :=
 FX (by decide) abP aaF afz ae8 ae9 OJ lP (by decide) (by decide) (λy xs=>#[_,CmpOf.ints_lt (agJ xs) (λy y=>ah8),λy e h=>OD e h]) hc hg hm he hd hs hq
end
section
theorem FZ{ch:List ZX}(I:Inv X pins J H s)(k:∀ b o,b∉ch->s.heap.get? b=U o->h'.get? b=U o)(hf:∀ b∈ch,de X pins H b){H':Hp}(up:∀ b u,H b=U u->H' b=U u):∀ b u,H b=U u->bE X.prog X.w H' h' b u:=by
 have lH:∀ b u,H b=U u->b∉ch:=λb u e z=>by rw[(hf b z).1] at e;cases e
 intro b u e;refine (I.ak b u e).g9 (λc v hc q=>k c v ?_ q) (λc q=>up c _ q) λc xs q=>up c _ q;rcases hc with z|z
 .rw[z];exact lH b u e
 .exact lH c _ z
theorem F0{t':Nat}{ch:List ZX}(I:Inv X pins J H s)(k:∀ b o,b∉ch->s.heap.get? b=U o->h'.get? b=U o)(hf:∀ b∈ch,de X pins H b):Inv X pins J H { s with heap:=h',toks:=t' }:=by
 refine I.step (g':=s.gens) (d':=s.drawn) (ch:=ch) (λb hb=>?_) (λb o y y hc e y=>k b o hc e) (λb o y y hc e y=>#[o.slots,k b o hc e]) (λy y y y n=>n)
  (λb o hc e=>#[o,k b o hc e]) (λy y e=>e) (λy y y e=>e) (λb ps e=>#[(List.toArray []),by rw[e];simp]) (λm hm=>?_) (λb u e=>FZ I k hf (λy y q=>q) b u e) I.bare
 .obtain⟨y,d1,d2,d3,d4,d5⟩:=hf b hb;exact#[d3,d1,d4,d5]
 .obtain⟨o,es,ep,ho,r⟩:=hm;exact#[o,es,ep,k _ o (λz=>(hf _ z).2.1 rfl) ho,r]
theorem F1{t':Nat}{ch:List ZX}{T:ZX}{o:HO}(I:Inv X pins J H s)(k:∀ b o,b∉ch->s.heap.get? b=U o->h'.get? b=U o)(hf:∀ b∈ch,de X pins H b)(hT:s.heap.objs.size<=T)
 (new:bE X.prog X.w (upd H T o) h' T o):Inv X pins J (upd H T o) { s with heap:=h',toks:=t' }:=by
 have hn:=I.ak.fresh hT;have neT:∀ b u,s.heap.get? b=U u->b≠T:=λb u e=>ZY (Z9 (ZM e) hT);have kF:∀ b u,H b=U u->b≠T:=λb u e=>iT e hn;have up:∀ b u,H b=U u->upd H T o b=U u:=λb u e=>by rw[aF (kF b u e)];exact e
 refine I.step (g':=s.gens) (d':=s.drawn) (ch:=ch) (λb hb=>?_) (λb o y y hc e y=>k b o hc e) (λb o y y hc e y=>#[o.slots,k b o hc e]) (λb u y e n=>by rw[aF (neT b u e)];exact n)
  (λb o hc e=>#[o,k b o hc e]) (λb xs e=>up b _ e) (λb y y e=>up b _ e) (λb ps e=>#[(List.toArray []),by rw[up b _ e];simp]) (λm hm=>?_) (λb u e=>?_) I.bare
 .obtain⟨y,d1,d2,d3,d4,d5⟩:=hf b hb;exact#[d3,d1,d4,d5]
 .obtain⟨o,es,ep,ho,r⟩:=hm;exact#[o,es,ep,k _ o (λz=>(hf _ z).2.1 rfl) ho,r]
 .by_cases hb:b=T
  .subst hb;rw[ar] at e;cases e;exact new
  .rw[aF hb] at e;exact FZ I k hf up b u e
end
noncomputable def vF(K:ZF)(a:ZX)(n:Nat):It :=
 #[λi H=>∃ xs x,ah K H a xs/\xs.length=n/\xs.reverse[i]?=U x,λi H x H'=>H'=H/\∀ xs,ah K H a xs->xs.length=n->xs.reverse[i]?=U x,λi y=>i=n]
theorem OM{P:aaE}{w:abb}{K:ZF}{tg:ael}(a it:ZX)(n:Nat):Turn P w K tg (vF K a n) [it] it (λi h=>i<=n/\h.IsRevIter it a ((n:Int)-1-(i:Nat))) where
 mem:=by simp
 obj:=λi h st b hb=>by
  have e:b=it:=by simpa using hb
  subst e;obtain⟨y,o,e,c,d⟩:=st;exact#[o,e,λv z=>by rw[d] at z;cases z]
 keep:=λi h h' st k=>#[st.1,st.2.at λo e=>k it (by simp) o e]
 item:=by
  intro X hP hw hK hc i pins s J H E I hf st hg;subst hP hw hK;obtain⟨xs,x,hq,hn,hx⟩:=hg;obtain⟨ai,rv,p,hz⟩:=I.list hq;have hl:=rv.length;have hi:i<n:=by have:=(ZL.mp hx).1;rw[abc] at this;lia
  have cX:xs[n-1-i]?=U x:=by rw[acw (by lia),hn] at hx;exact hx
  obtain⟨u,hu,ru⟩:=rv.get cX;obtain⟨f0,f1,f2,f3,f4,f5⟩:=hf it (by simp);have cB:=st.2;rw[show (n:Int)-1-(i:Nat)=((n-1-i:Nat):Int) by lia] at cB;refine wpAny_pyNext_rev_item cB p.isList (x:=u) (by simpa using hu) λh' cB sb=>?_;have I1:Inv X pins J H { s with heap:=h' }:=I.turned (t':=s.toks) (λb o hb e=>(sb.2 b hb).trans e) f0 f1 f3 f4 f5;obtain⟨o,e,c,d⟩:=id cB;rw[show ((n-1-i:Nat):Int)-1=(n:Int)-1-((i+1:Nat):Int) by lia] at cB;exact#[u,Y,o5 (s:={ s with heap:=h' }) e c d (by decide) #[x,H,I1,ru,#[Y,λys hy y=>by rw[I.qM hy hq];exact hx],#[by lia,cB],λb hb=>(hf b hb).1]]
 done:=by
  intro X hP hw hK hc i pins s J H E I hf st hg;subst hP hw hK;have ON:i=n:=hg;subst ON;obtain⟨f0,f1,f2,f3,f4,f5⟩:=hf it (by simp);have cB:=st.2;rw[show (i:Int)-1-(i:Nat) = -1 by lia] at cB;exact wpAny_pyNext_rev_end (I.ok.hd hc) cB λh' eb=>#[Y,I.turned (t':=s.toks) (λb o hb e=>eb b o hb e) f0 f1 f3 f4 f5]
 self:=λy y y y y st h=>agr st.2 h
def yW(K:ZF)(ta:TA):TI:=λJ H R=>ta J H λvs H1=>∃ a xs,vs=[.ref a]/\ah K H1 a xs/\R (vF K a xs.length) H1
theorem OO(hg:Gl X "reversed")(hm:X.mg "reversed" = O)(ha:PA X [e] ta)(hs:aae [e] X.env=[(false,eval e X.env)]:=by rfl):PI X tg (.Call (.Name "reversed" p) [e] [] pos) (yW X.K ta):=by
 intro pins s J H R I h;refine ai1 (eB I hg hm NO (aaq (az (ha pos pins s J H _ I h) λus s1 zq=>?_) hs Y));obtain⟨vs,H1,I1,r1,q1⟩:=zq;obtain⟨a,xs,rfl,hq,q⟩:=q1;obtain⟨u,rfl,ru⟩:=vals1 r1;cases ru;obtain⟨ai,rv,p,hz⟩:=I1.list hq;refine call_reversed_list p.isList ?_;have hl:=rv.length;refine agr (i:=(ai.toArray.size:Int)-1) (l:=a) #[_,ZR _ Y,Y,Y] ?_;refine#[s1.heap.objs.size,[s1.heap.objs.size],_,_,H1,Y,I1.kept (t':=s1.toks) λb o e=>ZH _ e,OM a _ xs.length,#[Z3 _,_,ZR _ Y,Y,?_],λb hb=>?_,q]
 .rw[ZW,<- hl];simp;rfl
 .have e:b=s1.heap.objs.size:=by simpa using hb
  subst e;exact I1.ic (ZS _) (I1.ak.fresh (ZS _))
noncomputable def vG(K:ZF)(a:ZX):It :=
 #[λi H=>∃ xs x,ah K H a xs/\xs[i]?=U x,λi H v H'=>∃ (p:ZX) (x:V),v = .ref p/\H p=O/\H'=upd H p (.tup [.int i,x])/\∀ xs,ah K H a xs->xs[i]?=U x,λi H=>∃ xs,ah K H a xs/\xs.length<=i]
theorem yX:2<=aah:=by decide
theorem OP{P:aaE}{w:abb}{K:ZF}{es:List ael}{k:Nat}{tp:Pos}(a e it:ZX)(F4:e≠it):Turn P w K (.Tuple es k tp) (vG K a) [e,it] e (λi h=>(∃ old,IsEnum h e it (i:Nat) old)/\h.IsListIter it a i) where
 mem:=by simp
 obj:=λi h st b hb=>by
  obtain⟨⟨old,he⟩,o,ho,c,d⟩:=st;have bW:b=e∨b=it:=by simpa using hb
  rcases bW with rfl|rfl
  .exact#[_,he,λv z=>by
    have z':Data.fields _=Data.cell v:=z;cases z']
  .exact#[o,ho,λv z=>by rw[d] at z;cases z]
 keep:=λi h h' st kk=>by obtain⟨⟨old,he⟩,hi⟩:=st;exact#[#[old,kk e (by simp) _ he],hi.at λo e=>kk it (by simp) o e]
 item:=by
  intro X hP hw hK hc i pins s J H E I hf st hg;subst hP hw hK;obtain⟨xs,x,hq,hx⟩:=hg;obtain⟨⟨old,he⟩,hit⟩:=st;obtain⟨ai,rv,p,hz⟩:=I.list hq;obtain⟨u,hu,ru⟩:=rv.get hx;refine afJ he hit p.isList (x:=u) (by simpa using hu) F4 λh1 ho OQ hT hsz hk=>?_;refine#[_,Y,wpAny_letOwnedTupleGo_enum ho λh2 F5 bV=>?_];have yY:Heap.SameBut e h1 h2:=bV;have neT:s.heap.objs.size≠e:=aaX (ZM he);have up:∀ b o,b∉[e,it]->s.heap.get? b=U o->h2.get? b=U o:=λb o hb q=>by
   have bW:b≠e/\b≠it:=by simpa using hb
   exact yY.extBut b o bW.1 (hk b o bW.1 bW.2 q)
  have hn:H s.heap.objs.size=O:=I.ak.fresh (ZS _);refine#[.ref s.heap.objs.size,upd H s.heap.objs.size (.tup [.int i,x]),F1 (s:=s) (h':=h2) (t':=s.toks+1) I up hf (ZS _) #[yX,[.int i s.toks,u],.cons #[_,Y] (.cons ru .nil),?_],Y,#[_,x,Y,hn,Y,λys hy=>by rw[I.qM hy hq];exact hx],#[#[u,?_],?_],λb hb=>?_]
  .have:=yY.extBut _ _ neT hT;exact#[_,this,Y,_,Y]
  .have:((i:Int)+1)=((i+1:Nat):Int):=by lia
   rw[<- this];exact F5
  .exact OQ.at λo q=>yY.extBut _ _ (aaQ F4) q
  .rw[aF]
   .exact (hf b hb).1
   .have bW:b=e∨b=it:=by simpa using hb
    rcases bW with rfl|rfl
    .exact aaQ neT
    .obtain⟨o,q,y⟩:=hit;exact ZY (ZM q)
 done:=by
  intro X hP hw hK hc i pins s J H E I hf st hg;subst hP hw hK;obtain⟨xs,hq,hx⟩:=hg;obtain⟨⟨old,he⟩,hit⟩:=st;obtain⟨ai,rv,p,hz⟩:=I.list hq;have hl:=rv.length;refine af4 (I.ok.hd hc) he hit p.isList (by simp;lia) λh' eb=>#[Y,F0 (t':=s.toks) I (λb o hb q=>?_) hf]
  have bW:b≠e/\b≠it:=by simpa using hb
  exact eb b o bW.2 q
 self:=λy i s Q E st h=>by obtain⟨⟨old,he⟩,y⟩:=st;exact afa he h
def yZ(K:ZF)(ta:TA):TI:=λJ H R=>ta J H λvs H1=>∃ a,vs=[.ref a]/\(∃ xs,ah K H1 a xs)/\R (vG K a) H1
theorem y7(hg:Gl X "enumerate")(hm:X.mg "enumerate" = O)(ha:PA X [e] ta)(hs:aae [e] X.env=[(false,eval e X.env)]:=by rfl):PI X (.Tuple es k tp) (.Call (.Name "enumerate" p) [e] [] pos) (yZ X.K ta):=by
 intro pins s J H R I h;refine ai1 (eB I hg hm Fg (aaq (az (ha pos pins s J H _ I h) λus s1 zq=>?_) hs Y));obtain⟨vs,H1,I1,r1,q1⟩:=zq;obtain⟨a,rfl,⟨xs,hq⟩,q⟩:=q1;obtain⟨u,rfl,ru⟩:=vals1 r1;cases ru;obtain⟨ai,rv,p,hz⟩:=I1.list hq;refine agK p.isList λh' he hit hsz hk=>?_;refine afa he ?_;have I2:Inv X pins J H1 { s1 with heap:=h' }:=I1.kept (t':=s1.toks) hk;refine#[s1.heap.objs.size+1,[s1.heap.objs.size+1,s1.heap.objs.size],_,_,H1,Y,I2,OP a _ _ (by walk_at "o"),#[#[.none,he],hit],λb hb=>?_,q];have bW:b=s1.heap.objs.size+1∨b=s1.heap.objs.size:=by simpa using hb
 rcases bW with rfl|rfl
 .exact I1.ic (adG _) (I1.ak.fresh (adG _))
 .exact I1.ic (ZS _) (I1.ak.fresh (ZS _))
noncomputable def vH(K:ZF)(a b:ZX):It :=
 #[λi H=>∃ xs ys x y,ah K H a xs/\ah K H b ys/\xs[i]?=U x/\ys[i]?=U y,λi H v H'=>∃ (p:ZX) (x y:V),v = .ref p/\H p=O/\H'=upd H p (.tup [x,y])/\(∀ xs,ah K H a xs->xs[i]?=U x)/\∀ ys,ah K H b ys->ys[i]?=U y,
  λi H=>∃ xs ys,ah K H a xs/\ah K H b ys/\(xs.length<=i∨ys.length<=i)]
theorem OR{P:aaE}{w:abb}{K:ZF}{es:List ael}{k:Nat}{tp:Pos}(a b z TI TO i1 i2:ZX)(D:ZipApart z TI TO i1 i2 a b):Turn P w K (.Tuple es k tp) (vH K a b) [z,TI,TO,i1,i2] z
 (λi h=>IsZip h z TI TO .none/\IsPair h TI (.ref i1) (.ref i2)/\(∃ a b,IsPair h TO a b)/\h.IsListIter i1 a i/\h.IsListIter i2 b i) where
 mem:=by simp
 obj:=λi h st c hc=>by
  obtain⟨hz,jc,⟨ta,tb,jO⟩,⟨o1,h1,c1,d1⟩,⟨o2,h2,c2,d2⟩⟩:=st;have kz:c=z∨c=TI∨c=TO∨c=i1∨c=i2:=by simpa using hc
  rcases kz with rfl|rfl|rfl|rfl|rfl
  .exact#[_,hz,λv q=>by
    have q':Data.fields _=Data.cell v:=q;cases q']
  .exact#[_,jc,λv q=>by
    have q':Data.seq _ _=Data.cell v:=q;cases q']
  .exact#[_,jO,λv q=>by
    have q':Data.seq _ _=Data.cell v:=q;cases q']
  .exact#[o1,h1,λv q=>by rw[d1] at q;cases q]
  .exact#[o2,h2,λv q=>by rw[d2] at q;cases q]
 keep:=λi h h' st kk=>by obtain⟨hz,jc,⟨ta,tb,jO⟩,h1,h2⟩:=st;exact#[kk z (by simp) _ hz,kk TI (by simp) _ jc,#[ta,tb,kk TO (by simp) _ jO],h1.at λo e=>kk i1 (by simp) o e,h2.at λo e=>kk i2 (by simp) o e]
 item:=by
  intro X hP hw hK hc i pins s J H E I hf st hg;subst hP hw hK;obtain⟨xs,ys,x,y,hqx,hqy,hx,hy⟩:=hg;obtain⟨hz,jc,⟨ta,tb,jO⟩,h1,h2⟩:=st;obtain⟨ai,rv,p1,m⟩:=I.list hqx;obtain⟨jts,pA,p2,m⟩:=I.list hqy;obtain⟨u,hu,ru⟩:=rv.get hx;obtain⟨v,hv,y9⟩:=pA.get hy;refine wpAny_pyNext_zip_item D hz jc jO h1 h2 p1.isList p2.isList (x:=u) (y:=v) (by simpa using hu) (by simpa using hv) λh' z1 t1 l1 l2 pT hsz hk=>?_;refine#[_,Y,wpAny_letOwnedTupleGo_zip z1 λh3 z3 OS=>?_];have pB:Heap.SameBut z h' h3:=OS;have neT:s.heap.objs.size≠z:=aaX (ZM hz);have up:∀ b o,b∉[z,TI,TO,i1,i2]->s.heap.get? b=U o->h3.get? b=U o:=λb o hb q=>by
   have bW:b≠z/\b≠TI/\b≠TO/\b≠i1/\b≠i2:=by simpa using hb
   exact pB.extBut b o bW.1 (hk b o bW.1 bW.2.2.1 bW.2.2.2.1 bW.2.2.2.2 q)
  have hn:H s.heap.objs.size=O:=I.ak.fresh (ZS _);refine#[.ref s.heap.objs.size,upd H s.heap.objs.size (.tup [x,y]),F1 (s:=s) (h':=h3) (t':=s.toks) I up hf (ZS _) #[yX,[u,v],.cons ru (.cons y9 .nil),?_],Y,#[_,x,y,Y,hn,Y,λzs za=>by rw[I.qM za hqx];exact hx,λzs za=>by rw[I.qM za hqy];exact hy],
   #[z3,pB.extBut _ _ D.TIz (hk _ _ D.TIz D.TITO D.TIi1 D.TIi2 jc),#[_,_,pB.extBut _ _ D.TOz t1],l1.at λo q=>pB.extBut _ _ D.i1z q,l2.at λo q=>pB.extBut _ _ D.i2z q],λb hb=>?_]
  .have:=pB.extBut _ _ neT pT;exact#[_,this,Y,_,Y]
  .rw[aF]
   .exact (hf b hb).1
   .have bW:b=z∨b=TI∨b=TO∨b=i1∨b=i2:=by simpa using hb
    rcases bW with rfl|rfl|rfl|rfl|rfl
    .exact aaQ neT
    .exact ZY (ZM jc)
    .exact ZY (ZM jO)
    .obtain⟨o,q,m⟩:=h1;exact ZY (ZM q)
    .obtain⟨o,q,m⟩:=h2;exact ZY (ZM q)
 done:=by
  intro X hP hw hK hc i pins s J H E I hf st hg;subst hP hw hK;obtain⟨xs,ys,hqx,hqy,hx⟩:=hg;obtain⟨hz,jc,⟨ta,tb,jO⟩,h1,h2⟩:=st;obtain⟨ai,rv,p1,m⟩:=I.list hqx;obtain⟨jts,pA,p2,m⟩:=I.list hqy;have l1:=rv.length;have l2:=pA.length;refine wpAny_pyNext_zip_end (I.ok.hd hc) D hz jc jO h1 h2 p1.isList p2.isList (hx.imp (λq=>by simp;lia) λq=>by simp;lia) λh' hk=>#[Y,F0 (t':=s.toks) I (λb o hb q=>?_) hf]
  have bW:b≠z/\b≠TI/\b≠TO/\b≠i1/\b≠i2:=by simpa using hb
  exact hk b o bW.1 bW.2.2.1 bW.2.2.2.1 bW.2.2.2.2 q
 self:=λm i s Q E st h=>ahA st.1 h
def zb(K:ZF)(ta:TA):TI:=λJ H R=>ta J H λvs H1=>∃ a b,vs=[.ref a,.ref b]/\(∃ xs,ah K H1 a xs)/\(∃ ys,ah K H1 b ys)/\R (vH K a b) H1
theorem OT(hg:Gl X "zip")(hm:X.mg "zip" = O)(ha:PA X [e,f] ta)(hs:aae [e,f] X.env=(false,eval e X.env)::aae [f] X.env:=by rfl)(bV:aae [f] X.env=[(false,eval f X.env)]:=by rfl):PI X (.Tuple es k tp) (.Call (.Name "zip" p) [e,f] [] pos) (zb X.K ta):=by
 intro pins s J H R I h;refine ai1 (eB I hg hm NN (aaq (az (ha pos pins s J H _ I h) λus s1 ⟨vs,H1,I1,r1,q1⟩=>?_) hs (by rw[bV];rfl)));obtain⟨a,b,rfl,⟨xs,hqx⟩,⟨ys,hqy⟩,q⟩:=q1;obtain⟨u,v,rfl,ru,OU⟩:=vals2 r1;cases ru;cases OU;obtain⟨ai,rv,p1,y⟩:=I1.list hqx;obtain⟨jts,pA,p2,y⟩:=I1.list hqy;have a1:a<s1.heap.objs.size:=by obtain⟨y,e,y⟩:=p1.isList;exact ZM e
 have a2:b<s1.heap.objs.size:=by obtain⟨y,e,y⟩:=p2.isList;exact ZM e
 refine call_zip_2 p1.isList p2.isList λh' hz jc jO h1 h2 hsz hk=>?_;refine ahA hz ?_;have I2:Inv X pins J H1 { s1 with heap:=h' }:=I1.kept (t':=s1.toks) hk;refine#[s1.heap.objs.size+4,[s1.heap.objs.size+4,s1.heap.objs.size+2,s1.heap.objs.size+3,s1.heap.objs.size,s1.heap.objs.size+1],_,_,H1,Y,I2,OR a b _ _ _ _ _ (zipApart_new a1 a2),#[hz,jc,#[_,_,jO],h1,h2],λc hc=>?_,q];have kz:s1.heap.objs.size<=c:=by simp only[ZO,aaL,or_false] at hc;walk_at "o"
 exact I1.ic kz (I1.ak.fresh kz)
section
theorem zc:∀ {bs:List Bool} {ai:List ZP},Vals (bs.map V.bl) ai->ai=bs.map abM
 | [],ai,r=>by cases r;rfl
 | b::bs,ai,r=>by
  cases r with
  | cons r1 r2 =>
   cases r1;rw[zc r2];rfl
theorem OV(hc:X.calm=true):eT X (.builtin "all") (λxs H Q=>∃ (a:ZX) (bs:List Bool),xs=[.ref a]/\ah X.K H a (bs.map V.bl)/\Q (.bl (bs.all id)) H):=by
 intro pins s J H xs us Q I r h;obtain⟨a,bs,rfl,hS,q⟩:=h;obtain⟨u,rfl,ru⟩:=vals1 r;cases ru;obtain⟨ai,rv,hp,y⟩:=I.list hS;have e:=zc rv;subst e;have hl:=hp.isList;have aL:a<s.heap.objs.size:=by obtain⟨y,e,y⟩:=hl;exact ZM e
 refine call_all_walk (acE hl ?_);refine#[s.heap.objs.size,[s.heap.objs.size,a],[s.heap.objs.size],(bs.map abM).toArray.size,_,_,λi=>(bs[i]?).getD true,Y,Walks.list (A:=X.A.in1) (I.ok.hd hc) _ a (ZY aL) (bs.map abM).toArray,#[#[_,ZR _ Y,Y,Y],hl.push _],λi v s' Q' E' hP hQ=>?_,λh' tk hk=>?_]
 .have kH:(bs[i]?).map abM=U v:=by simpa using hP
  cases e:bs[i]? with
  | none=>rw[e] at kH;cases kH
  | some b =>
   rw[e] at kH;cases kH;simp only[e,ac0] at hQ;exact aaR hQ
 .have e:((Z7 (bs.map abM).toArray.size).all λi=>(bs[i]?).getD true)=bs.all id:=by rw[ZW,ZJ];exact PyProof.Rows.LSm.range_all bs
  rw[e];exact#[.bl (bs.all id),H,I.kept (λb o q=>hk b o (λz=>by
   have:b=s.heap.objs.size:=by simpa using z
   rw[this] at q;exact aa8 _ (ZM q)) (ZH _ q)),Y,q]
theorem OW(hc:X.calm=true):eT X (.builtin "any") (λxs H Q=>∃ (a:ZX) (bs:List Bool),xs=[.ref a]/\ah X.K H a (bs.map V.bl)/\Q (.bl (bs.any id)) H):=by
 intro pins s J H xs us Q I r h;obtain⟨a,bs,rfl,hS,q⟩:=h;obtain⟨u,rfl,ru⟩:=vals1 r;cases ru;obtain⟨ai,rv,hp,y⟩:=I.list hS;have e:=zc rv;subst e;have hl:=hp.isList;have aL:a<s.heap.objs.size:=by obtain⟨y,e,y⟩:=hl;exact ZM e
 refine call_any_walk (acE hl ?_);refine#[s.heap.objs.size,[s.heap.objs.size,a],[s.heap.objs.size],(bs.map abM).toArray.size,_,_,λi=>(bs[i]?).getD false,Y,Walks.list (A:=X.A.in1) (I.ok.hd hc) _ a (ZY aL) (bs.map abM).toArray,#[#[_,ZR _ Y,Y,Y],hl.push _],λi v s' Q' E' hP hQ=>?_,λh' tk hk=>?_]
 .have kH:(bs[i]?).map abM=U v:=by simpa using hP
  cases e:bs[i]? with
  | none=>rw[e] at kH;cases kH
  | some b =>
   rw[e] at kH;cases kH;simp only[e,ac0] at hQ;exact aaR hQ
 .have e:((Z7 (bs.map abM).toArray.size).any λi=>(bs[i]?).getD false)=bs.any id:=by rw[ZW,ZJ];exact PyProof.Rows.LSm.range_any bs
  rw[e];exact#[.bl (bs.any id),H,I.kept (λb o q=>hk b o (λz=>by
   have:b=s.heap.objs.size:=by simpa using z
   rw[this] at q;exact aa8 _ (ZM q)) (ZH _ q)),Y,q]
end
section
variable{K:ZF}{g:TG}{tb:TS}{D:Ends}{J:L2.St}{H:Hp}{a b:ZX}{xs ys:List V}
theorem OX{ta:TA}:jF (yW K ta) g tb D J H=ta J H (λvs H1=>∃ a xs,vs=[.ref a]/\ah K H1 a xs/\FJ (vF K a xs.length) g tb D J H1):=rfl
theorem OY{ta:TA}:jF (yZ K ta) g tb D J H=ta J H (λvs H1=>∃ a,vs=[.ref a]/\(∃ xs,ah K H1 a xs)/\FJ (vG K a) g tb D J H1):=rfl
theorem OZ{ta:TA}:jF (zb K ta) g tb D J H=ta J H (λvs H1=>∃ a b,vs=[.ref a,.ref b]/\(∃ xs,ah K H1 a xs)/\(∃ ys,ah K H1 b ys)/\FJ (vH K a b) g tb D J H1):=rfl
theorem zd(Pv:Nat->L2.St->Hp->Prop)(h0:Pv 0 J H)(hl:∀ i J H,i<=xs.length->Pv i J H->ah K H a xs)(hs:∀ i x J H p,xs[i]?=U x->Pv i J H->H p=O->g (.ref p) J (upd H p (.tup [.int i,x])) λσ2 H2=>tb { D with nx:=Pv (i+1),ct:=Pv (i+1),bk:=D.nx } σ2 H2)(hd:∀ J H,Pv xs.length J H->D.nx J H):FJ (vG K a) g tb D J H:=by
 refine#[λi m J H=>m=xs.length-i/\i<=xs.length/\Pv i J H,#[_,Y,Z3 _,h0],?_];rintro i m J H ⟨rfl,hi,p⟩;have q:=hl i J H hi p;by_cases aL:i<xs.length
 .refine .inr #[#[xs,xs[i],q,by simp[aL]],Pv (i+1),λσ' H' p'=>#[xs.length-(i+1),by lia,Y,aL,p'],λv H' y=>?_];obtain⟨w,x,rfl,hw,rfl,y⟩:=y;exact hs i x J _ w (y xs q) p hw
 .have e:i=xs.length:=by lia
  subst e;exact .inl #[#[xs,q,ZS _],hd J H p]
theorem O0(Pv:Nat->L2.St->Hp->Prop)(h0:Pv 0 J H)(hl:∀ i J H,Pv i J H->ah K H a xs/\ah K H b ys)(hs:∀ i x y J H p,xs[i]?=U x->ys[i]?=U y->Pv i J H->H p=O->g (.ref p) J (upd H p (.tup [x,y])) λσ2 H2=>tb { D with nx:=Pv (i+1),ct:=Pv (i+1),bk:=D.nx } σ2 H2)(hd:∀ J H,Pv (min xs.length ys.length) J H->D.nx J H):FJ (vH K a b) g tb D J H:=by
 refine#[λi m J H=>m=min xs.length ys.length-i/\i<=min xs.length ys.length/\Pv i J H,#[_,Y,Z3 _,h0],?_];rintro i m J H ⟨rfl,hi,p⟩;have q:=hl i J H p;by_cases aL:i<min xs.length ys.length
 .have h1:i<xs.length:=by lia
  have h2:i<ys.length:=by lia
  refine .inr #[#[xs,ys,xs[i],ys[i],q.1,q.2,by simp[h1],by simp[h2]],Pv (i+1),λσ' H' p'=>#[min xs.length ys.length-(i+1),by lia,Y,aL,p'],λv H' y=>?_];obtain⟨w,x,y',rfl,hw,rfl,e1,e2⟩:=y;exact hs i x y' J _ w (e1 xs q.1) (e2 ys q.2) p hw
 .have e:i=min xs.length ys.length:=by lia
  refine .inl #[#[xs,ys,q.1,q.2,by lia],hd J H (e ▸ p)]
end
theorem kI{K:ZF}{i j:Nat}{p:ZX}{x y:V}{J:L2.St}{H:Hp}{Q:L2.St->Hp->Prop}(h:aw K H p [x,y])(q:Q ((J.set i (U x)).set j (U y)) H):iW K 2 (cA (bU i) (cA (bU j) ia)) (.ref p) J H Q :=
 #[p,[x,y],Y,h,Y,x,[y],Y,y,[],Y,Y,q]
section
variable{X:Cx}{K:ZF}
end
mutual
inductive Dat(K:ZF)(H:Hp):V->ad1->Prop where
 | non:Dat K H .non .none
 | bl (b:Bool):Dat K H (.bl b) (.bool b)
 | int (i:Int):Dat K H (.int i) (.int i)
 | str (x:Str):Dat K H (.str x) (.str x)
 | tup {a:ZX} {xs:List V} {ds:List ad1} (h:aw K H a xs) (r:pC K H xs ds):Dat K H (.ref a) (.tuple ds)
 | lst {a:ZX} {xs:List V} {ds:List ad1} (h:ah K H a xs) (r:pC K H xs ds):Dat K H (.ref a) (.list ds)
inductive pC(K:ZF)(H:Hp):List V->List ad1->Prop where
 | nil:pC K H [] []
 | cons {x:V} {d:ad1} {xs:List V} {ds:List ad1} (h:Dat K H x d) (r:pC K H xs ds):pC K H (x::xs) (d::ds)
end
section
variable{X:Cx}{pins:List (ZX × Obj)}{J:L2.St}{H:Hp}{s:ZU}
theorem Dat.reads(I:Inv X pins J H s)(d:ad1)(h:Dat X.K H v d):RelV v u->∃ as,Reads s.heap u d as:=by
 refine Dat.rec (motive_1:=λv d y=>∀ u,RelV v u->∃ as,Reads s.heap u d as) (motive_2:=λvs ds y=>∀ us,Vals vs us->∃ as,ReadsAll s.heap us ds as) ?_ ?_ ?_ ?_ ?_ ?_ ?_ ?_ h u
 .intro u r;cases r;exact#[_,.none]
 .intro b u r;cases r;exact#[_,.bool b]
 .rintro i u ⟨t,rfl⟩;exact#[_,.int i t]
 .rintro x u ⟨t,rfl⟩;exact#[_,.str x t]
 .intro a xs ds h q ih u r;cases r;obtain⟨ai,rv,⟨o,ho,hc,n,hd⟩,y⟩:=I.tuple h;obtain⟨as,ra⟩:=ih ai rv;exact#[_,.tuple ho hc hd (by simpa using ra)]
 .intro a xs ds h q ih u r;cases r;obtain⟨ai,rv,⟨o,n,ho,hc,y,hd⟩,y⟩:=I.list h;obtain⟨as,ra⟩:=ih ai rv;exact#[_,.list ho hc hd (by simpa using ra)]
 .intro us r;cases r;exact#[_,.nil]
 .intro x d xs ds h q ze zf us r;cases r with
  | cons r1 r2 =>
   obtain⟨as,ra⟩:=ze _ r1;obtain⟨bs,rb⟩:=zf _ r2;exact#[_,.cons ra rb]
def zg(K:ZF)(neg:Bool):R2:=λx y H Q=>∃ d e,Dat K H x d/\Dat K H y e/\d.canLay0=true/\e.canLay0=true/\d.depth<=60/\Q (.bl (if neg=true then !abN d e else abN d e)) H
theorem F6(hu:X.A.units+64<adQ):bo X (abl .Eq) (zg X.K false):=by intro pins s J H x y v u Q I rx ry h;obtain⟨d,e,dx,dy,c1,c2,dd,q⟩:=h;obtain⟨as,ra⟩:=Dat.reads I d dx rx;obtain⟨bs,rb⟩:=Dat.reads I e dy ry;exact SeqAt.compareEq_reads ra rb c1 c2 (by lia) #[.bl _,H,I,Y,q]
end
noncomputable def vI(lo st:Int)(n:Nat):It:=#[λi y=>i<n,λi H x H'=>H'=H/\x = .int (lo+(i:Int) * st),λi y=>n<=i]
theorem O2{P:aaE}{w:abb}{K:ZF}{tg:ael}(it:ZX)(lo st:Int)(n:Nat):Turn P w K tg (vI lo st n) [it] it (λi h=>agG h it (lo+(i:Nat) * st) ((n:Int)-(i:Nat)) st) where
 mem:=by simp
 obj:=λi h q b hb=>by
  have e:b=it:=by simpa using hb
  subst e;exact#[_,q,λv z=>by
   have z':Data.fields _=Data.cell v:=z;cases z']
 keep:=λi h h' q k=>k it (by simp) _ q
 item:=by intro X hP hw hK hc i pins s J H E I hf q hg;subst hP hw hK;obtain⟨f0,f1,f2,f3,f4,f5⟩:=hf it (by simp);have W:=Walks.range (prog:=X.prog) (w:=X.w) (I.ok.hd hc) it lo st n;refine W.item i s _ _ hg q λv h' tk hv q' kk=>?_;obtain⟨t,rfl⟩:=hv;have I1:Inv X pins J H { s with heap:=h',toks:=tk }:=I.turned (λb o hb e=>kk b o (by simpa using hb) e) f0 f1 f3 f4 f5;exact#[_,Y,o5 (s:={ s with heap:=h',toks:=tk }) (n := "range_iterator") q' Y Y (by decide) #[.int (lo+(i:Int) * st),H,I1,#[t,Y],#[Y,Y],q',λb hb=>(hf b hb).1]]
 done:=by
  intro X hP hw hK hc i pins s J H E I hf q hg;subst hP hw hK;obtain⟨f0,f1,f2,f3,f4,f5⟩:=hf it (by simp);exact afF (I.ok.hd hc) q (by have:n<=i:=hg;lia) λh' eb=>#[Y,I.turned (t':=s.toks) (λb o hb e=>eb b o hb e) f0 f1 f3 f4 f5]
 self:=λy y y y y q h=>afG q h
noncomputable def lV(lo hi st:Int):Nat:=(aaV lo hi st).toNat
def zh(ta:TA):TI:=λJ H R=>ta J H λvs H1=>∃ i j c:Int,vs=[.int i,.int j,.int c]/\(-1000000<=i/\i<=1000000/\-1000000<=j/\j<=1000000/\-1000000<=c/\c<=1000000/\c≠0)/\R (vI i c (lV i j c)) H1
theorem F7(i j c:Int)(h:c≠0):0<=aaV i j c:=by
 unfold aaV;split
 .rename_i hc;split
  .have:=ah9 (show 0<=j-i-1 by lia) (show 0<=c by lia);lia
  .lia
 .split
  .have:=ah9 (show 0<=i-j-1 by lia) (show 0 <= -c by lia);lia
  .lia
theorem size_le(i j c:Int)(h : -1000000<=i/\i<=1000000/\-1000000<=j/\j<=1000000/\c≠0):aaV i j c<=2000000:=by
 unfold aaV;split
 .split
  .have:=ahB (c) (show 0<=j-i-1 by lia);lia
  .lia
 .split
  .have:=ahB (-c) (show 0<=i-j-1 by lia);lia
  .lia
theorem O3(h : -1000000<=i/\i<=1000000/\-1000000<=j/\j<=1000000/\-1000000<=c/\c<=1000000/\c≠0):Builtin.Range.small i j c=true:=by have h1:=F7 i j c h.2.2.2.2.2.2;have h2:=size_le i j c #[h.1,h.2.1,h.2.2.1,h.2.2.2.1,h.2.2.2.2.2.2];unfold Builtin.Range.small;generalize aaV i j c=n at h1 h2 ⊢;simp only[aia,abi,abJ,decide_eq_true_eq,beq_iff_eq];refine#[by lia,.inr ?_];split<;>simp only[abi,decide_eq_true_eq]<;>lia
theorem O4(hg:Gl X "range")(hm:X.mg "range" = O)(ha:PA X [a,b,c] ta)(hs:aae [a,b,c] X.env=(false,eval a X.env)::aae [b,c] X.env:=by rfl)(bV:aae [b,c] X.env=[(false,eval b X.env),(false,eval c X.env)]:=by rfl) :
 PI X tg (.Call (.Name "range" p) [a,b,c] [] pos) (zh ta):=by
 intro pins s J H R I h;refine ai1 (eB I hg hm ais (aaq (az (ha pos pins s J H _ I h) λus s1 ⟨vs,H1,I1,r1,q1⟩=>?_) (by rw[hs]) (by rw[bV];rfl)));obtain⟨i,j,k,e,hb,q⟩:=q1;subst e;cases r1 with
 | cons r rr =>
  cases rr with
  | cons r' rr =>
   cases rr with
   | cons O5 rr =>
    cases rr;obtain⟨t,rfl⟩:=r;obtain⟨t',rfl⟩:=r';obtain⟨Ga,rfl⟩:=O5;have hk:k≠0:=hb.2.2.2.2.2.2;refine call_range_3 hk ?_ (.inl (PyProof.noPylong_small (by lia)));refine agT (IsRange.new ..) (O3 hb) ?_;have I2:Inv X pins J H1 { s1 with heap:=s1.heap.push { cls:=.type "range",data:=.fields (List.toArray [.int i t,.int j t',.int k Ga]) },toks:=s1.toks }:=I1.kept λb o e=>ZH _ e;refine#[_,[_],_,_,H1,Y,I2.kept (t':=s1.toks) λb o e=>ZH _ e,O2 _ i k (lV i j k),?_,λb hb=>?_,q]
    .have e1:i+((0:Nat):Int) * k=i:=by simp
     have e2:((lV i j k:Nat):Int)-((0:Nat):Int)=aaV i j k:=by have:=F7 i j k hk;unfold lV;lia
     show agG _ _ (i+((0:Nat):Int) * k) (((lV i j k:Nat):Int)-((0:Nat):Int)) k;rw[e1,e2];exact ZR _ rfl
    .have e:b=(s1.heap.push { cls:=.type "range",data:=.fields (List.toArray [.int i t,.int j t',.int k Ga]) }).objs.size:=by simpa using hb
     subst e;exact I2.ic (ZS _) (I2.ak.fresh (ZS _))
section
variable{g:TG}{tb:TS}{D:Ends}{J:L2.St}{H:Hp}{lo st:Int}{n:Nat}
theorem O6:jF (xU ta) g tb D J H=ta J H (λvs H1=>∃ i j:Int,vs=[.int i,.int j]/\(-(2 ^ 62)<=i/\i<2 ^ 62/\-(2 ^ 62)<=j/\j<2 ^ 62)/\FJ (iY i (j-i).toNat) g tb D J H1):=rfl
theorem O7:jF (zh ta) g tb D J H=ta J H (λvs H1=>∃ i j c:Int,vs=[.int i,.int j,.int c]/\(-1000000<=i/\i<=1000000/\-1000000<=j/\j<=1000000/\-1000000<=c/\c<=1000000/\c≠0)/\FJ (vI i c (lV i j c)) g tb D J H1):=rfl
theorem O8(Pv:Nat->L2.St->Hp->Prop)(h0:Pv 0 J H)(hs:∀ i J H,i<n->Pv i J H->g (.int (lo+(i:Int) * st)) J H λσ2 H2=>tb { D with nx:=Pv (i+1),ct:=Pv (i+1),bk:=D.nx } σ2 H2)(hd:∀ J H,Pv n J H->D.nx J H):FJ (vI lo st n) g tb D J H:=by
 refine#[λi m J H=>m=n-i/\i<=n/\Pv i J H,#[n,by simp,Z3 _,h0],?_];rintro i m J H ⟨rfl,hi,p⟩;by_cases aL:i<n
 .refine .inr #[aL,Pv (i+1),λσ' H' p'=>#[n-(i+1),by lia,Y,aL,p'],λx H' y=>?_];obtain⟨e,y⟩:=y;subst e y;exact hs i J _ aL p
 .have e:i=n:=by lia
  subst e;exact .inl #[ZS _,hd J H p]
end
theorem O9(xs:List V)(a:Nat):kC xs (U (a:Int)) O=xs.drop a:=by
 unfold kC;rw[HT.M9,HT.M8];by_cases h:a<=xs.length
 .rw[Nat.min_eq_left h,afK (by rw[afy];lia)]
 .rw[Nat.min_eq_right (by lia),ad2 (ZS _),ad2 (by lia)];simp
mutual
noncomputable def iq:Nat->ad1->Bool
 | _,.none=>true
 | _,.bool _=>true
 | _,.int _=>true
 | n+1,.tuple ds=>pE n ds
 | n+1,.list ds=>pE n ds
 | _,_=>false
noncomputable def pE:Nat->List ad1->Bool
 | _,[]=>true
 | n,d::ds=>iq n d && pE n ds
end
mutual
theorem Gb:∀ (d:ad1) {n:Nat},iq n d=true->abN d d=true/\d.canLay0=true/\d.depth<=n
 | .none,n,_=>#[Y,Y,Z3 _]
 | .bool b,n,_=>#[by simp[abN],Y,Z3 _]
 | .int i,n,_=>#[by simp[abN],Y,Z3 _]
 | .str x,0,h=>by simp[iq] at h
 | .str x,n+1,h=>by simp[iq] at h
 | .dict x,0,h=>by simp[iq] at h
 | .dict x,n+1,h=>by simp[iq] at h
 | .tuple ds,0,h=>by simp[iq] at h
 | .list ds,0,h=>by simp[iq] at h
 | .tuple ds,n+1,h=>by obtain⟨a,b,c⟩:=zi ds (n:=n) (by simpa [iq] using h);exact#[by simpa only [abN] using a,by simpa only [aeb] using b,by simp only[PyData.depth];lia]
 | .list ds,n+1,h=>by obtain⟨a,b,c⟩:=zi ds (n:=n) (by simpa [iq] using h);exact#[by simpa only [abN] using a,by simpa only [aeb] using b,by simp only[PyData.depth];lia]
theorem zi:∀ (ds:List ad1) {n:Nat},pE n ds=true->acV ds ds=true/\ad7 ds=true/\aeC ds<=n
 | [],n,_=>#[Y,Y,Z3 _]
 | d::ds,n,h=>by
  have h':iq n d=true/\pE n ds=true:=by simpa [pE] using h
  obtain⟨a,b,c⟩:=Gb d h'.1;obtain⟨a',b',c'⟩:=zi ds h'.2;exact#[by simp only[acV,a,a',afo],by simp only[ad7,b,b',afo],by simp only[aeC];lia]
end
end Gz
namespace Gz
noncomputable def Ge(a b:Int):Int:=((Nat.gcd a.natAbs b.natAbs:Nat):Int)
noncomputable def sg(t b:Int):Int:=if b<0 then -Ge t b else Ge t b
noncomputable def rt(t b:Int):Int:=t.fdiv (sg t b)
noncomputable def rb(t b:Int):Int:=b.fdiv (sg t b)
end Gz
namespace Gz
open PySem PySem.Spec PyProof.Rows L2
def ax{α:Type}(R:V->α->Prop):List V->List α->Prop
 | [],[]=>True
 | x::xs,a::as=>R x a/\ax R xs as
 | _,_=>False
section
variable{α:Type}{R R':V->α->Prop}
theorem ax.len:∀ {xs:List V} {as:List α},ax R xs as->xs.length=as.length
 | [],[],_=>rfl
 | _::_,_::_,h=>by simp[ax.len h.2]
 | [],_::_,h=>h.elim
 | _::_,[],h=>h.elim
theorem ax.imp(f:∀ x a,R x a->R' x a):∀ {xs:List V} {as:List α},ax R xs as->ax R' xs as
 | [],[],_=>trivial
 | _::_,_::_,h=>#[f _ _ h.1,ax.imp f h.2]
 | [],_::_,h=>h.elim
 | _::_,[],h=>h.elim
theorem ax.get:∀ {xs:List V} {as:List α},ax R xs as->∀ {i:Nat} {x:V},xs[i]?=U x->∃ a,as[i]?=U a/\R x a
 | [],[],_,i,x,e=>by simp at e
 | _::_,a::_,h,0,x,e=>by simp at e;subst e;exact#[a,by simp,h.1]
 | _::_,_::_,h,i+1,x,e=>by simp only[ab8] at e ⊢;exact ax.get h.2 e
 | [],_::_,h,_,_,_=>h.elim
 | _::_,[],h,_,_,_=>h.elim
theorem ax.at:∀ {xs:List V} {as:List α},ax R xs as->∀ {i:Nat} {a:α},as[i]?=U a->∃ x,xs[i]?=U x/\R x a
 | [],[],_,i,x,e=>by simp at e
 | x::_,_::_,h,0,a,e=>by simp at e;subst e;exact#[x,by simp,h.1]
 | _::_,_::_,h,i+1,a,e=>by simp only[ab8] at e ⊢;exact ax.at h.2 e
 | [],_::_,h,_,_,_=>h.elim
 | _::_,[],h,_,_,_=>h.elim
theorem ax.app:∀ {xs ys:List V} {as bs:List α},ax R xs as->ax R ys bs->ax R (xs++ys) (as++bs)
 | [],_,[],_,_,h=>h
 | _::_,_,_::_,_,h,h'=>#[h.1,ax.app h.2 h']
 | [],_,_::_,_,h,_=>h.elim
 | _::_,_,[],_,h,_=>h.elim
theorem ax.snoc(h:ax R xs as)(h':R x a):ax R (xs++[x]) (as++[a]):=h.app #[h',trivial]
theorem ax.ints:∀ (ns:List Int),ax (λx n=>x=V.int n) (ns.map V.int) ns
 | []=>trivial
 | n::ns=>#[Y,ax.ints ns]
theorem ax.iS{lo:Int}(n:Nat):ax (λx (k:Nat)=>x=V.int (lo+k)) ((Z7 n).map λk=>V.int (lo+(k:Nat))) (Z7 n):=by
 suffices ∀ l:List Nat,ax (λx (k:Nat)=>x=V.int (lo+k)) (l.map λk=>V.int (lo+(k:Nat))) l from this _
 intro l
 induction l with
 | nil=>trivial
 | cons a l ih=>exact#[Y,ih]
end
theorem filter_tt(l:List α):l.filter (λy=>true)=l:=aeD.mpr λy y=>rfl
abbrev P2:=Int × Int
def bC(H:Hp)(v:V)(p:P2):Prop:=∃ a,v = .ref a/\H a=U (.tup [.int p.1,.int p.2])
theorem bC.same(h:bC H v p)(s:aj H H'):bC H' v p:=let ⟨a,e,q⟩:=h;#[a,e,s _ _ q]
theorem bC.put(h:bC H v p)(hr:H r=U (.lst ys)):bC (upd H r (.lst zs)) v p:=by obtain⟨a,e,q⟩:=h;refine#[a,e,?_];rw[aF (uL q hr (λz=>nomatch z))];exact q
abbrev dv(H:Hp):List V->List P2->Prop:=ax (bC H)
theorem dv.same(h:dv H xs ps)(s:aj H H'):dv H' xs ps:=ax.imp (λy y r=>r.same s) h
theorem dv.put(h:dv H xs ps)(hr:H r=U (.lst ys)):dv (upd H r (.lst zs)) xs ps:=ax.imp (λy y x=>x.put hr) h
noncomputable def aside(s e p:P2):Int:=(p.2-s.2) * (e.1-s.1)-(p.1-s.1) * (e.2-s.2)
noncomputable def aG(ps:List P2)(i:Nat):P2:=ps.getD i (0,0)
theorem Pb(h:dv H xs ps)(hi:i<ps.length):∃ v,cN xs (i:Int)=U v/\bC H v (aG ps i):=by
 have e:ps[i]?=U (aG ps i):=by unfold aG;rw[ZG,ZK hi];rfl
 obtain⟨x,ex,r⟩:=h.at e;exact#[x,dZ ex,r]
def Pc(ks:List P2)(p q:Int)(i:Nat):Prop:=i+1<ks.length/\(aG ks i).1 * q<=p/\p<=(aG ks (i+1)).1 * q
def hit(ks:List P2)(p q:Int):Prop:=∃ i,Pc ks p q i
def SameBut(x:ZX)(H H':Hp):Prop:=∀ b o,b≠x->H b=U o->H' b=U o
theorem pF(hi:i<ps.length):aG ps i∈ps:=by unfold aG;rw[ZG,ZK hi];exact abj hi
theorem fW{α β:Type}{R:Hp->V->α->Prop}{R':Hp->V->β->Prop}{Ok:Hp->Prop}{ρ:L2.St}{tt:TT}{te:TE}{f:α->β}{Q':List V->Hp->Prop}(mono:∀ H H' x a,aj H H'->R H x a->R H' x a)(pG:∀ H H' x a,aj H H'->R' H x a->R' H' x a) :
 ∀ {xs:List V} {as:List α} {ys:List V} {bs:List β} {H:Hp},ax (R H) xs as->ax (R' H) ys bs->(∀ H',aj H H'->Ok H')->(∀ x a,a∈as->∀ H',aj H H'->R H' x a->∀ Q,Q true H'->tt (U x::ρ) H' Q) ->
 (∀ x a,a∈as->∀ H',aj H H'->R H' x a->∀ Q:VK,(∀ lT y,aj H' lT->R' lT y (f a)->Q y lT)->te (U x::ρ) H' Q) ->
 (∀ H' zs,aj H H'->ax (R' H') zs (bs++as.map f)->Q' zs H')->eK Ok ρ tt te xs ys H Q'
 | [],[],ys,bs,H,_,hy,cR,_,_,q=>#[cR H (aj.refl H),q H ys (aj.refl H) (by simpa using hy)]
 | x::xs,a::as,ys,bs,H,h,hy,cR,ht,he,q=>by
  refine#[cR H (aj.refl H),ht x a (.head _) H (aj.refl H) h.1 _ ?_];rw[if_pos Y];refine he x a (.head _) H (aj.refl H) h.1 _ λH2 y s2 r2=>?_;refine fW mono pG (bs:=bs++[f a]) (h.2.imp λx a r=>mono _ _ _ _ s2 r) ((hy.imp λx a r=>pG _ _ _ _ s2 r).snoc r2) (λH' s'=>cR H' (s2.trans s')) (λx a ha H' s'=>ht x a (.tail _ ha) H' (s2.trans s')) (λx a ha H' s'=>he x a (.tail _ ha) H' (s2.trans s')) λH' zs s' hz=>?_;refine q H' zs (s2.trans s') ?_;rw[Z0]
  rwa [acd] at hz
 | [],_::_,_,_,_,h,_,_,_,_,_=>h.elim
 | _::_,[],_,_,_,h,_,_,_,_,_=>h.elim
noncomputable def sw(ks:List P2):List P2:=ks.map λp=>(p.2,p.1)
end Gz
namespace Gz
open PySem PySem.W PyProof.Rows
def dP{α:Type}(lt:Nat->Nat->Bool)(n:Nat):KasT α->(α->Prop)->Prop
 | .ret a,P=>P a
 | .ask i j k,P=>i<n/\j<n/\dP lt n (k (lt i j)) P
section
theorem pH:∀ (t:KasT α),dP lt n t (λa=>dP lt n (f a) P)->dP lt n (t.bind f) P
 | .ret _,h=>h
 | .ask _ _ k,h=>#[h.1,h.2.1,pH (k _) h.2.2]
theorem Gf{α:Type}{P P':α->Prop}(h:∀ a,P a->P' a):∀ (t:KasT α),dP lt n t P->dP lt n t P'
 | .ret _,q=>h _ q
 | .ask _ _ k,q=>#[q.1,q.2.1,Gf h (k _) q.2.2]
theorem zj{α:Type}{cmp:Nat->Nat->(Bool->ZU->Prop)->ZU->Prop}{Ok:ZU->Prop}(hc:∀ i j C s,i<n->j<n->Ok s->(∀ s',Ok s'->C (lt i j) s')->cmp i j C s){P:α->Prop}{Q:α->ZU->Prop}(hQ:∀ a s,Ok s->P a->Q a s) :
 ∀ (t:KasT α) (s:ZU),Ok s->dP lt n t P->t.kasWp cmp Q s
 | .ret a,s,o,h=>hQ a s o h
 | .ask i j k,s,o,h=>hc i j _ s h.1 h.2.1 o λs' o'=>zj hc hQ (k (lt i j)) s' o' h.2.2
structure Ord(lt:Nat->Nat->Bool):Prop where
 asym:∀ {a b},lt a b=true->lt b a=false
 tr:∀ {a b c},lt b a=false->lt c b=false->lt c a=false
theorem Ord.rfl'(O9q:Ord lt)(a:Nat):lt a a=false:=by
 cases h:lt a a with
 | false=>rfl
 | true=>rw[O9q.asym h] at h;cases h
def dQ(lt:Nat->Nat->Bool)(p:Array Nat)(k:Nat):Prop:=∀ i j,i<=j->j<k->lt (p.getD j 0) (p.getD i 0)=false
def fj(lt:Nat->Nat->Bool)(p:Array Nat)(k:Nat):Prop:=∀ i j,i<=j->j<k->lt (p.getD i 0) (p.getD j 0)=false
def ck(n:Nat)(p:Array Nat):Prop:=p.toList.Perm (Z7 n)
theorem ck.size(h:ck n p):p.size=n:=by have:=h.length_eq;simpa using this
theorem ck.below(h:ck n p)(hi:i<n):p.getD i 0<n:=by
 have hs:=h.size;have aV:i<p.size:=by lia
 have e:p.getD i 0=p[i]:=by simp[adO,aV]
 rw[e];have m:p[i]∈p.toList:=by simp
 simpa using h.mem_iff.mp m
theorem ck.of(h:ck n p)(hq:q.Perm p):ck n q:=(Array.perm_iff_toList_perm.mp hq).trans h
theorem dQ.one(O9q:Ord lt):dQ lt p 1:=λi j ir hj=>by
 have:i=j:=by lia
 subst this;exact O9q.rfl' _
theorem fj.one(O9q:Ord lt):fj lt p 1:=λi j ir hj=>by
 have:i=j:=by lia
 subst this;exact O9q.rfl' _
theorem dQ.succ(O9q:Ord lt)(h:dQ lt p k)(hk:1<=k)(hn:lt (p.getD k 0) (p.getD (k-1) 0)=false):dQ lt p (k+1):=λi j ir hj=>by
 by_cases e:j=k
 .subst e;by_cases ei:i=j
  .subst ei;exact O9q.rfl' _
  .exact O9q.tr (h i (j-1) (by lia) (by lia)) hn
 .exact h i j ir (by lia)
theorem fj.succ(O9q:Ord lt)(h:fj lt p k)(hk:1<=k)(hn:lt (p.getD (k-1) 0) (p.getD k 0)=false):fj lt p (k+1):=λi j ir hj=>by
 by_cases e:j=k
 .subst e;by_cases ei:i=j
  .subst ei;exact O9q.rfl' _
  .exact O9q.tr hn (h i (j-1) (by lia) (by lia))
 .exact h i j ir (by lia)
theorem lW(hj:j<=p.size)(k:Nat):(kas_rev p i j).getD k 0=if i<=k/\k<j then p.getD (i+j-1-k) 0 else p.getD k 0:=by simp only[adf];unfold kas_rev;rw[getElem?_mirror_all hj];split<;>rfl
theorem Gg(hk:k<p.size)(hl:l<=k)(i:Nat):(bubble p k (k-l)).getD i 0=if i=l then p.getD k 0 else if l<i/\i<=k then p.getD (i-1) 0 else p.getD i 0:=by
 simp only[adf];rw[getElem?_bubble hk _ (by lia)];have e:k-(k-l)=l:=by lia
 rw[e];split
 .rfl
 .split<;>rfl
theorem Gh(O9q:Ord lt)(hp:ck n p):∀ (f a:Nat),1<=a->a+f<=n->dQ lt p a->(∀ m,a<=m->m<=a+f->dQ lt p m->P m)->dP lt n (kas_asc p f a) P
 | 0,a,h1,h2,hs,q=>q a (ZS _) (by lia) hs
 | f+1,a,h1,h2,hs,q=>by
  refine#[hp.below (by lia),hp.below (by lia),?_];cases c:lt (p.getD a 0) (p.getD (a-1) 0) with
  | true =>
   simp only[↓reduceIte];exact q a (ZS _) (by lia) hs
  | false =>
   simp only[ZT,↓reduceIte];exact Gh O9q hp f (a+1) (by lia) (by lia) (hs.succ O9q h1 c) λm m1 m2=>q m (by lia) (by lia)
theorem fj.rev(h:fj lt p k)(hk:k<=p.size)(hi:i<=k)(he:∀ j,i<=j->j<k->lt (p.getD (k-1) 0) (p.getD j 0)=false)(O9q:Ord lt):fj lt (kas_rev p i k) k:=λa b cD hb=>by
 rw[lW hk,lW hk];have eqv:∀ x y,i<=x->x<k->i<=y->y<k->lt (p.getD x 0) (p.getD y 0)=false:=λx y x1 x2 y1 y2=>O9q.tr (he y y1 y2) (h x (k-1) (by lia) (by lia));split
 .split
  .exact eqv _ _ (by lia) (by lia) (by lia) (by lia)
  .exfalso;lia
 .split
  .exact h _ _ (by lia) (by lia)
  .exact h _ _ cD hb
theorem vJ(O9q:Ord lt):∀ (f:Nat) (p:Array Nat) (k q:Nat),ck n p->1<=k->k+f<=n->q+1<=k->fj lt p k->(∀ j,k-(q+1)<=j->j<k->lt (p.getD (k-1) 0) (p.getD j 0)=false) ->
 (∀ p' k' q',ck n p'->k<=k'->k'<=k+f->q' + 1<=k'->fj lt p' k'->(∀ j,k' - (q' + 1)<=j->j<k'->lt (p'.getD (k' - 1) 0) (p'.getD j 0)=false)->P (p',k',q'))->dP lt n (kas_desc f p k q) P
 | 0,p,k,q,hp,h1,h2,h3,hd,he,fin=>fin p k q hp (ZS _) (by lia) h3 hd he
 | f+1,p,k,q,hp,h1,h2,h3,hd,he,fin=>by
  have hs:=hp.size;have one:∀ (p':Array Nat),∀ j,(k+1)-(0+1)<=j->j<k+1->lt (p'.getD (k+1-1) 0) (p'.getD j 0)=false:=λp' j j1 j2=>by
   have:j=k:=by lia
   subst this;exact O9q.rfl' _
  refine#[hp.below (by lia),hp.below (by lia),?_];cases c:lt (p.getD k 0) (p.getD (k-1) 0) with
  | true =>
   simp only[↓reduceIte];have c':=O9q.asym c;by_cases hq:q > 0
   .rw[if_pos hq];have cC:ck n (kas_rev p (k-(q+1)) k):=hp.of (agL _ _ _ _);have iU:fj lt (kas_rev p (k-(q+1)) k) k:=hd.rev (by lia) (by lia) he O9q;refine vJ O9q f _ (k+1) 0 cC (by lia) (by lia) (by lia) (iU.succ O9q h1 ?_) (one _) λp2 k2 q2 a1 a2 a3 a4 a5 a6=>fin p2 k2 q2 a1 (by lia) (by lia) a4 a5 a6;rw[lW (by lia),lW (by lia),if_pos (by lia),if_neg (by lia)];have e1:k-(q+1)+k-1-(k-1)=k-(q+1):=by lia
    rw[e1];exact O9q.tr c' (hd _ (k-1) (by lia) (by lia))
   .rw[if_neg hq];exact vJ O9q f p (k+1) 0 hp (by lia) (by lia) (by lia) (hd.succ O9q h1 c') (one _) λp2 k2 q2 a1 a2 a3 a4 a5 a6=>fin p2 k2 q2 a1 (by lia) (by lia) a4 a5 a6
  | false =>
   simp only[ZT,↓reduceIte];refine#[hp.below (by lia),hp.below (by lia),?_];cases d:lt (p.getD (k-1) 0) (p.getD k 0) with
   | true =>
    simp only[↓reduceIte];exact fin p k q hp (ZS _) (by lia) h3 hd he
   | false =>
    simp only[ZT,↓reduceIte];refine vJ O9q f p (k+1) (q+1) hp (by lia) (by lia) (by lia) (hd.succ O9q h1 d) (λj j1 j2=>?_) λp2 k2 q2 a1 a2 a3 a4 a5 a6=>fin p2 k2 q2 a1 (by lia) (by lia) a4 a5 a6;have ek:k+1-1=k:=by lia
    rw[ek];by_cases ej:j=k
    .subst ej;exact O9q.rfl' _
    .exact O9q.tr (he j (by lia) (by lia)) c
theorem fj.whole(h:fj lt p k)(hk:k<=p.size):dQ lt (kas_rev p 0 k) k:=λa b cD hb=>by rw[lW hk,lW hk,if_pos (by lia),if_pos (by lia)];exact h _ _ (by lia) (by lia)
theorem Gi(O9q:Ord lt)(hp:ck n p)(h1:1<=k)(h2:k<=n)(hd:fj lt p k)(fin:∀ m p',ck n p'->1<=m->m<=n->dQ lt p' m->P (m,p')):dP lt n (kas_tail3 k n p) P:=by have cC:ck n (kas_rev p 0 k):=hp.of (agL _ _ _ _);have hs:=hp.size;unfold kas_tail3;refine pH _ (Gh O9q cC (n-k) k h1 (by lia) (hd.whole (by lia)) λm m1 m2 ms=>?_);exact fin m _ cC (by lia) (by lia) ms
theorem Gj(O9q:Ord lt)(hp:ck n p)(h1:1<=k)(h2:k+1<=n)(hd:fj lt p (k+1))(fin:∀ m p',ck n p'->1<=m->m<=n->dQ lt p' m->P (m,p')):dP lt n (kas_descPart k n p) P:=by
 unfold kas_descPart;refine pH _ (vJ O9q (n-(k+1)) p (k+1) 0 hp (by lia) (by lia) (by lia) hd (λj j1 j2=>?_) λp2 k2 q2 a1 a2 a3 a4 a5 a6=>?_)
 .have:j=k:=by lia
  subst this;exact O9q.rfl' _
 .have hs:=a1.size;dsimp only;by_cases hq:q2 > 0
  .rw[if_pos hq];exact Gi O9q (a1.of (agL _ _ _ _)) (by lia) (by lia) (a5.rev (by lia) (by lia) a6 O9q) fin
  .rw[if_neg hq];exact Gi O9q a1 (by lia) (by lia) a5 fin
theorem Pd(O9q:Ord lt)(hp:ck n p)(hn:1<=n)(fin:∀ m p',ck n p'->1<=m->m<=n->dQ lt p' m->P (m,p')):dP lt n (kas_count n p) P:=by
 have hs:=hp.size;unfold kas_count;have key:dP lt n (kas_asc p (n-1) 1) (λm=>1<=m/\m<=n/\dQ lt p m/\(m<n->lt (p.getD m 0) (p.getD (m-1) 0)=true)):=by
  have gen:∀ (f a:Nat),1<=a->a+f=n->dQ lt p a->dP lt n (kas_asc p f a) (λm=>1<=m/\m<=n/\dQ lt p m/\(m<n->lt (p.getD m 0) (p.getD (m-1) 0)=true)):=by
   intro f
   induction f with
   | zero=>intro a h1 h2 hs;exact#[h1,by lia,hs,λz=>absurd z (by lia)]
   | succ f ih =>
    intro a h1 h2 hs;refine#[hp.below (by lia),hp.below (by lia),?_];cases c:lt (p.getD a 0) (p.getD (a-1) 0) with
    | true =>
     simp only[↓reduceIte];exact#[h1,by lia,hs,λv=>c]
    | false =>
     simp only[ZT,↓reduceIte];exact ih (a+1) (by lia) (by lia) (hs.succ O9q h1 c)
  exact gen (n-1) 1 (ZS _) (by lia) (dQ.one O9q)
 refine pH _ (Gf (λm hm=>?_) _ key);obtain⟨m1,m2,ms,mc⟩:=hm;by_cases e:(m == n)=true
 .rw[if_pos e];exact fin m p hp m1 m2 ms
 .rw[if_neg e];have Pe:m<n:=by
   have:m≠n:=by simpa using e
   lia
  have mc:=mc Pe;by_cases h2:m > 1
  .rw[if_pos h2];refine#[hp.below (by lia),hp.below (by lia),?_];cases c:lt (p.getD 0 0) (p.getD (m-1) 0) with
   | true =>
    simp only[↓reduceIte];exact fin m p hp m1 m2 ms
   | false =>
    simp only[ZT,↓reduceIte];have eqv:∀ x y,x<m->y<m->lt (p.getD x 0) (p.getD y 0)=false:=λx y hx hy =>
     O9q.tr (ms y (m-1) (by lia) (by lia)) (O9q.tr c (ms 0 x (by lia) hx))
    have cC:ck n (kas_rev p 0 m):=hp.of (agL _ _ _ _);refine Gj O9q cC m1 (by lia) (λi j ir hj=>?_) fin;rw[lW (by lia),lW (by lia)];by_cases ej:j=m
    .subst ej;rw[if_neg (show ¬ (0<=j/\j<j) by lia)];split
     .exact O9q.tr (O9q.asym mc) (eqv _ _ (by lia) (by lia))
     .have:i=j:=by lia
      subst this;exact O9q.rfl' _
    .rw[if_pos (by lia),if_pos (by lia)];exact eqv _ _ (by lia) (by lia)
  .rw[if_neg h2];have e1:m=1:=by lia
   subst e1;exact Gj O9q hp (ZS _) (by lia) ((fj.one O9q).succ O9q (ZS _) (O9q.asym mc)) fin
theorem zk(O9q:Ord lt)(hp:ck n p)(hk:k<n)(hs:dQ lt p k)(fin:∀ m,m<=k->(∀ i,i<m->lt (p.getD k 0) (p.getD i 0)=false)->(∀ i,m<=i->i<k->lt (p.getD i 0) (p.getD k 0)=false)->P m) :
 ∀ (f l r:Nat),r-l<=f->l<=r->r<=k->(∀ i,i<l->lt (p.getD k 0) (p.getD i 0)=false)->(∀ i,r<=i->i<k->lt (p.getD i 0) (p.getD k 0)=false)->dP lt n (kas_place p k f l r) P
 | 0,l,r,h1,h2,h3,a,b=>by
  have:l=r:=by lia
  subst this;exact fin l h3 a b
 | f+1,l,r,h1,h2,h3,a,b=>by
  unfold kas_place;by_cases hlr:l ≥ r
  .rw[if_pos hlr];have:l=r:=by lia
   subst this;exact fin l h3 a b
  .rw[if_neg hlr];refine#[hp.below hk,hp.below (by lia),?_];cases c:lt (p.getD k 0) (p.getD ((l+r) / 2) 0) with
   | true =>
    simp only[↓reduceIte];refine zk O9q hp hk hs fin f l ((l+r) / 2) (by lia) (by lia) (by lia) a λi i1 i2=>?_;exact O9q.tr (O9q.asym c) (hs _ _ i1 i2)
   | false =>
    simp only[ZT,↓reduceIte];refine zk O9q hp hk hs fin f ((l+r) / 2+1) r (by lia) (by lia) h3 (λi i1=>?_) b;exact O9q.tr (hs i ((l+r) / 2) (by lia) (by lia)) c
theorem Gk(O9q:Ord lt)(fin:∀ p,ck n p->dQ lt p n->P p):∀ (f:Nat) (p:Array Nat) (k:Nat),k+f=n->ck n p->dQ lt p k->dP lt n (kas_bin f p k) P
 | 0,p,k,h,hp,hs=>fin p hp (by rw[<- h];exact hs)
 | f+1,p,k,h,hp,hs=>by
  have sz:=hp.size;unfold kas_bin;refine pH _ (zk O9q hp (by lia) hs (λm m1 ma mb=>?_) k 0 k (by lia) (by lia) (ZS _) (λy z=>absurd z (by lia)) λy z1 z2=>absurd z2 (by lia));refine Gk O9q fin f _ (k+1) (by lia) (hp.of (bubble_perm _ _ _)) λi j ir hj=>?_;rw[Gg (by lia) m1,Gg (by lia) m1];by_cases ei:i=m
  .rw[if_pos ei];by_cases ej:j=m
   .rw[if_pos ej];exact O9q.rfl' _
   .rw[if_neg ej,if_pos (by lia)];exact mb _ (by lia) (by lia)
  .rw[if_neg ei];by_cases ej:j=m
   .rw[if_pos ej,if_neg (by lia)];exact ma _ (by lia)
   .rw[if_neg ej];split
    .split
     .exact hs _ _ (by lia) (by lia)
     .exact hs _ _ (by lia) (by lia)
    .split
     .exfalso;lia
     .exact hs _ _ (by lia) (by lia)
theorem zm(O9q:Ord lt)(hn:1<=n):dP lt n (kas_sort n) (λp=>ck n p/\dQ lt p n):=by
 unfold kas_sort;have h0:ck n (abf (Z7 n)):=by unfold ck;simp
 refine pH _ (Pd O9q h0 hn λm p hp m1 m2 ms=>?_);dsimp only;by_cases h:m<n
 .rw[if_pos h];have e:max m 1=m:=by lia
  rw[e];exact Gk O9q (λp hp hs=>#[hp,hs]) (n-m) p m (by lia) hp ms
 .rw[if_neg h];have e:m=n:=by lia
  subst e;exact#[hp,ms]
noncomputable def vK{α:Type}(lt:Nat->Nat->Bool):KasT α->α
 | .ret a=>a
 | .ask i j k=>vK lt (k (lt i j))
theorem Gm:∀ (t:KasT α),dP lt n t P->P (vK lt t)
 | .ret _,h=>h
 | .ask i j k,h=>Gm (k (lt i j)) h.2.2
theorem zo:∀ (t:KasT α),dP lt n t P->dP lt n t (λa=>a=vK lt t)
 | .ret _,_=>rfl
 | .ask i j k,h=>#[h.1,h.2.1,zo (k (lt i j)) h.2.2]
noncomputable def bH(lt:Nat->Nat->Bool)(n:Nat):Array Nat:=if n<2 then abf (Z7 n) else vK lt (kas_sort n)
theorem nJ(O9q:Ord lt):ck n (bH lt n)/\dQ lt (bH lt n) n:=by
 unfold bH;split
 .rename_i h;refine#[by unfold ck;simp,λi j ir hj=>?_];have:i=j:=by lia
  subst this;exact O9q.rfl' _
 .rename_i h;exact Gm _ (zm O9q (by lia))
end
end Gz
namespace Gz
open PySem PySem.Spec PyProof.Rows L2
theorem Gn:∀ {a b:List Int},HT.lexLt a b=true->HT.lexLt b a=false
 | [],[],h=>by cases h
 | [],_::_,_=>rfl
 | _::_,[],h=>by cases h
 | x::a,y::b,h=>by
  rw[HT.lN] at h ⊢;by_cases e:x=y
  .subst e;rw[if_pos Y] at h ⊢;exact Gn h
  .rw[if_neg e] at h;rw[if_neg (aaQ e)];have:x<y:=by simpa using h
   simpa using (by walk_at "o" : ¬ y<x)
theorem Gq:∀ {a b c:List Int},HT.lexLt b a=false->HT.lexLt c b=false->HT.lexLt c a=false
 | [],[],[],_,_=>rfl
 | [],[],_::_,_,_=>rfl
 | [],_::_,[],_,h=>by cases h
 | [],_::_,_::_,_,_=>rfl
 | _::_,[],_,h,_=>by cases h
 | _::_,_::_,[],_,h=>by cases h
 | x::a,y::b,z::c,h1,h2=>by
  rw[HT.lN] at h1 h2 ⊢;by_cases e1:y=x
  .subst e1;rw[if_pos Y] at h1;by_cases e2:z=y
   .subst e2;rw[if_pos Y] at h2 ⊢;exact Gq h1 h2
   .rw[if_neg e2] at h2 ⊢;exact h2
  .rw[if_neg e1] at h1;have Gr:¬ y<x:=by simpa using h1
   by_cases e2:z=y
   .subst e2;rw[if_neg e1];exact h1
   .rw[if_neg e2] at h2;have pI:¬ z<y:=by simpa using h2
    rw[if_neg (by walk_at "o")];simpa using (by walk_at "o" : ¬ z<x)
section
theorem Pf(h:Q (a == b) s):ZZ (model prog w) A (eqBool (.int a t) (.int b u)) Q E s:=SeqAt.EqAt.int_int a t b u prog w E Q h
theorem Pg:∀ {ns ms:List Int} {us ws:List ZP} {i:Nat},adT us ns->adT ws ms->fin=decide (ns.length<ms.length)->Q (HT.lexLt ns ms) s->PySem.W.KatLex prog w A b fin Q (us.zip ws) i s:=by
 intro ns
 induction ns with
 | nil =>
  intro ms us ws i r q e h;cases r;cases q with
  | nil=>subst e;exact h
  | cons=>subst e;exact h
 | cons n ns ih =>
  intro ms us ws i r q e h;cases r with
  | cons _ t r =>
   cases q with
   | nil=>subst e;exact h
   | cons m t' q =>
    rw[List.zip_cons_cons];refine PySem.W.kat_cons (Pf (PySem.W.kat_go (λhh=>PySem.W.kat_yes ?_) λhh=>PySem.W.kat_no ?_))
    .have e1:n=m:=by simpa using hh
     subst e1;rw[HT.lN,if_pos Y] at h;exact ih r q (by subst e;simp) h
    .have e1:n≠m:=by simpa using hh
     rw[HT.lN,if_neg e1] at h;cases (b && i == 0) with
     | true=>exact oneLt_int h
     | false=>exact PySem.W.kat_one _ _ (lt_int h)
end
def Gs(sp:Sp):List V->List V->Hp->(List V->Hp->Prop)->Prop
 | [],ks,H,Q=>Q ks H
 | x::r,ks,H,Q=>sp [x] H (λk H1=>Gs sp r (ks++[k]) H1 Q) E0
def fk(K:ZF)(H:Hp):List V->List (List Int)->Prop
 | [],[]=>True
 | k::ks,n::ns=>(∃ p,k = .ref p/\aw K H p (n.map V.int)/\n≠[])/\fk K H ks ns
 | _,_=>False
theorem fk.len{K:ZF}{H:Hp}:∀ {ks:List V} {ns:List (List Int)},fk K H ks ns->ks.length=ns.length
 | [],[],_=>rfl
 | _::_,_::_,h=>by simp[fk.len h.2]
 | [],_::_,h=>h.elim
 | _::_,[],h=>h.elim
theorem fk.get{K:ZF}{H:Hp}:∀ {ks:List V} {ns:List (List Int)} {i:Nat} {k:V},fk K H ks ns->ks[i]?=U k->∃ p,k = .ref p/\aw K H p ((ns.getD i []).map V.int)
 | [],[],_,_,_,e=>by simp at e
 | k::_,n::_,0,_,h,e=>by simp at e;subst e;obtain⟨⟨p,a,b,y⟩,y⟩:=h;exact#[p,a,b]
 | _::_,_::_,i+1,_,h,e=>by have:=fk.get (i:=i) h.2 (by simpa using e);simpa using this
 | [],_::_,_,_,h,_=>h.elim
 | _::_,[],_,_,h,_=>h.elim
section
noncomputable def bP(kis:List (List Int))(i j:Nat):Bool:=HT.lexLt (kis.getD i []) (kis.getD j [])
theorem kJ(kis:List (List Int)):Ord (bP kis):=#[λh=>Gn h,λh1 h2=>Gq h1 h2]
noncomputable def b7{α:Type}(kis:List (List Int))(d:α)(as:List α):List α:=(bH (bP kis) as.length).toList.map λi=>as.getD i d
theorem kK:(b7 kis d as).Perm as:=by
 have h:=(nJ (n:=as.length) (kJ kis)).1;have q:=h.map (λi=>as.getD i d);have self:(Z7 as.length).map (λi=>as.getD i d)=as:=by
  apply adB
  .simp
  .intro i h1 h2;simp[ZG,h2]
 rw[self] at q;exact q
theorem vL:(b7 kis d as).length=as.length:=kK.length_eq
theorem Gu(hk:kis=as.map f):(b7 kis d as).Pairwise (λa b=>HT.lexLt (f b) (f a)=false):=by
 obtain⟨hp,hs⟩:=nJ (n:=as.length) (kJ kis);have sz:=hp.size;unfold b7;rw[afb];refine acA.mpr λi j hi hj ir=>?_;have aV:i<(bH (bP kis) as.length).size:=by simpa using hi
 have rD:j<(bH (bP kis) as.length).size:=by simpa using hj
 have q:=hs i j (by lia) (by lia);have e1:(bH (bP kis) as.length).getD i 0=(bH (bP kis) as.length)[i]:=by simp[adO,aV]
 have e2:(bH (bP kis) as.length).getD j 0=(bH (bP kis) as.length)[j]:=by simp[adO,rD]
 have l1:=ck.below hp (i:=i) (by lia);have l2:=ck.below hp (i:=j) (by lia);rw[e1,e2] at q;rw[e1] at l1;rw[e2] at l2;have q2:HT.lexLt (kis.getD (bH (bP kis) as.length)[j] []) (kis.getD (bH (bP kis) as.length)[i] [])=false:=q;have g:∀ k,k<as.length->kis.getD k []=f (as.getD k d):=λk cE=>by subst hk;simp[ZG,cE]
 simp only[Array.getElem_toList];rw[g _ l1,g _ l2] at q2;exact q2
theorem Ph(r:Vals xs vs):Vals (b7 kis .non xs) ((bH (bP kis) xs.length).toList.map λi=>vs.getD i Value.none):=by
 have hp:=(nJ (n:=xs.length) (kJ kis)).1;have gen:∀ l:List Nat,(∀ i∈l,i<xs.length)->Vals (l.map λi=>xs.getD i .non) (l.map λi=>vs.getD i Value.none):=by
  intro l
  induction l with
  | nil=>intro y;exact .nil
  | cons i l ih =>
   intro h;have hi:=h i (.head _);refine .cons ?_ (ih λj hj=>h j (.tail _ hj));have e:xs[i]?=U xs[i]:=ZK hi;obtain⟨u,eu,ru⟩:=r.get e;show RelV (xs.getD i .non) (vs.getD i Value.none);rw[ZG,ZG,eu,e];exact ru
 exact gen _ λi hi=>by simpa using hp.mem_iff.mp hi
def Pj(K:ZF)(sp:Sp)(x:V)(H1:Hp)(Q:VK):Prop:=∃ (a:ZX) (xs:List V),x = .ref a/\ah K H1 a xs/\xs.length<64/\Gs sp xs [] H1 λks H2=>∃ kis,fk K H2 ks kis/\∀ l,H2 l=O->Q (.ref l) (upd H2 l (.lst (b7 kis .non xs)))
def Pk(K:ZF)(sp:Sp)(te:TE):TE:=λJ H Q=>te J H λx H1=>Pj K sp x H1 Q
end
abbrev En:=Option Int
noncomputable def ev:En->V
 | none=>.non
 | some i=>.int i
theorem zr:ev O = .non:=rfl
theorem zt(i:Int):ev (U i) = .int i:=rfl
noncomputable def aS:En->En->Bool
 | some x,U y=>decide (y<x)
 | _,_=>false
def aP(H:Hp)(v:V)(a b:En):Prop:=∃ p,v = .ref p/\H p=U (.tup [ev a,ev b])
theorem aP.same(h:aP H v a b)(s:aj H H1):aP H1 v a b:=by obtain⟨p,e,h⟩:=h;exact#[p,e,s _ _ h]
theorem aP.new:aP (upd H p (.tup [ev a,ev b])) (.ref p) a b:=#[p,Y,ar]
noncomputable def hold(a b:En)(n:Int):Bool:=!aS a (U n) && !aS (U n) b
theorem zu:hold a b n=true↔(∀ x,a=U x->x<=n)/\(∀ y,b=U y->n<=y):=by unfold hold;rcases a with z|x<;>rcases b with z|y<;>simp[aS]
theorem Pl(b:En)(n:Int):hold O b n = !aS (U n) b:=by unfold hold aS;simp
theorem Gv(y n:Int):hold O (U y) n=decide (n<=y):=by
 rw[Pl];by_cases h:y<n
 .simp[aS,h]
 .simp[aS,h];lia
theorem Gw(b:En)(h:¬ n<x):hold (U x) b n=hold O b n:=by unfold hold;simp[aS,h]
theorem Pm(b:En)(h:n<x):hold (U x) b n=false:=by unfold hold;simp[aS,h]
noncomputable def dA:En->En->En
 | some x,U y=>U (if y > x then y else x)
 | some x,O=>U x
 | none,b=>b
noncomputable def dB:En->En->En
 | some x,U y=>U (if y<x then y else x)
 | some x,O=>U x
 | none,b=>b
noncomputable def nums(a b:En):List Int:=[a,b].filterMap id
noncomputable def rE(v:V):Bool:=!decide (v = .non)
theorem Pn(a b:En):([ev a,ev b].filter rE).map (λv=>v)=(nums a b).map V.int:=by rcases a with z|x<;>rcases b with z|y<;>simp[ev,nums,rE]
theorem Po(a b:En):nI pq (nums a b) .non=ev (dA a b):=by rcases a with z|x<;>rcases b with z|y<;>simp[nums,dA,pq,nI,ev]
theorem Pq(a b:En):nI pw (nums a b) .non=ev (dB a b):=by rcases a with z|x<;>rcases b with z|y<;>simp[nums,dB,pw,nI,ev]
theorem Pr(b:En):aS O b=false:=by cases b<;>rfl
def Gx(H:Hp)(v:V)(lo hi:En):Prop:=(aS lo hi=true->v = .non)/\(aS lo hi=false->aP H v lo hi)
theorem Gy{K:ZF}{H:Hp}{p:ZX}{a b:En}{Q:VK}{tt:TT}{te:TE}(hp:H p=U (.tup [ev a,ev b]))(ht:∀ x H Q,Q (rE x) H->tt [U x] H Q)(he:∀ x H Q,Q x H->te [U x] H Q)
 (q:∀ l,H l=O->Q (.ref l) (upd H l (.lst ((nums a b).map V.int)))):lR (qP K p) [] tt te H Q:=by
 refine d8 (xs:=[ev a,ev b]) FK bg (vD (p:=rE) (f:=λv=>v) (aw.of hp) (λx y Q h=>ht x H Q h) (λx y y Q h=>he x H Q h) ?_);rw[aal,Pn];exact q
end Gz
namespace Gz
open L2
abbrev S2:=En × En
noncomputable def hs(s:S2)(n:Int):Bool:=hold s.1 s.2 n
def GA(s:S2):Prop:=aS s.1 s.2=false
theorem Pt:hs s n=true↔(∀ x,s.1=U x->x<=n)/\(∀ y,s.2=U y->n<=y):=zu
abbrev kL:=Option (List S2 × S2)
open PySem in
def lX(H:Hp):List V->List S2->Prop
 | [],[]=>True
 | v::vs,s::ss=>aP H v s.1 s.2/\lX H vs ss
 | _,_=>False
section
theorem aP.put(h:aP H v a b)(hl:H l=U (.lst ys)):aP (upd H l o) v a b:=by obtain⟨p,e,h⟩:=h;exact#[p,e,by rw[aF (uL h hl λz=>nomatch z)];exact h]
theorem lX.len:∀ {vs:List V} {ss:List S2},lX H vs ss->vs.length=ss.length
 | [],[],_=>rfl
 | _::_,_::_,h=>by simp[lX.len h.2]
 | [],_::_,h=>h.elim
 | _::_,[],h=>h.elim
open PySem
noncomputable def zv:En->ad1
 | none=>.none
 | some i=>.int i
noncomputable def zx(s:S2):ad1:=.tuple [zv s.1,zv s.2]
theorem GB(e:En):Dat K H (ev e) (zv e):=by
 rcases e with y|x
 .exact .non
 .exact .int x
theorem aP.dat(h:aP H v a b):Dat K H v (zx (a,b)):=by obtain⟨p,rfl,h⟩:=h;exact .tup (aw.of h) (.cons (GB a) (.cons (GB b) .nil))
end
end Gz
namespace Gz
open PySem PySem.Spec PyProof.Rows L2
section
end
abbrev W2:=Option S2
def cF(H:Hp)(v:V):W2->Prop
 | none=>v = .non
 | some s=>aP H v s.1 s.2
theorem cF.same(h:cF H v w)(s:aj H H'):cF H' v w:=by
 cases w with
 | none=>exact h
 | some a=>exact aP.same h s
end Gz
namespace Gz
open PySem L2 PySem.W PySem.Spec PyProof.Rows
def Bt(n:Nat)(x:Int):Prop:=acU x<=n
theorem Bt.add(h:Bt n x)(h':Bt n y):Bt (n+1) (x+y):=by
 have:=aiP h h'
 rwa [Nat.max_self] at this
theorem Bt.mul(h:Bt n x)(h':Bt m y):Bt (n+m) (x * y):=aiQ h h'
theorem Bt.up(h:Bt n x)(hm:n<=m):Bt m x:=ZQ h hm
theorem Bt.small(h1 : -(2 ^ 64)<x)(h2:x<2 ^ 64):Bt 64 x:=PySem.intBits_le_64 h1 h2
def kM(i j:Int):Prop:=Bt 40000000 i/\Bt 40000000 j
theorem kM.ok(h:kM i j):IntMulOk i j:=aik h.1 h.2 (by decide)
theorem Pu:bo X (adz .Mult) (rI kM λi j=>.int (i * j)):=uX λy y y y y y y hc q=>mul_int q hc.ok
def gN(ns:List Int):Prop:=ns.length<=63/\∀ x∈ns,Bt 1048576 x
theorem weigh:∀ (ns:List Int) (x:Int),x∈ns->acU x<=acW (ns.map PySem.W.WData.int)
 | [],x,h=>by simp at h
 | y::ns,x,h=>by
  have e:acW ((y::ns).map PySem.W.WData.int)=(if y == 0 then 0 else y.natAbs.log2+1)+1+acW (ns.map PySem.W.WData.int):=by rw[Z0];simp only[acW,ags]
  rw[e];rcases ZO.mp h with rfl|h
  .unfold acU;lia
  .have:=weigh ns x h;lia
theorem Pw{ns:List Int}(h:aiu [PySem.W.WData.list (ns.map PySem.W.WData.int)]=true):∀ x∈ns,Bt 1048576 x:=by
 intro x hx;have h1:aeh (PySem.W.WData.list (ns.map PySem.W.WData.int))=true:=by
  have:(aeh (PySem.W.WData.list (ns.map PySem.W.WData.int)) && true)=true:=h
  rwa [agW] at this
 unfold aeh at h1;rw[abi] at h1;have h2:=of_decide_eq_true h1.2;have h3:=weigh ns x hx;simp only[ags] at h2;unfold Bt;lia
theorem Px{l:af5}{k:Nat}{q:aaE}{loose:List Str}{XP:(Str->Option ZP)->acz->Prop}{YP:abb->acz->Prop}{d:DefRec}{K:Params->ZF}{CX:abb->gF}{sp:abb->Sp}{x:Str}
 (most:l.most=U 63) (plain:d.params.defaults=[]) (room:bL k ah3)
 (Py:∀ (w:abb) (h:acz),YP w h->(K w.params).In h)
 (F:∀ (w:abb) (mg:Str->Option ZP) (fa:ZX) (h:acz),(K w.params).In h->h.Ns aak mg->mg d.name=U (.ref fa) ->
   ∃ fd:adA,(∀ (s:ZU) (u:ZP),ahd s fd #[[u],[]] [(x,u)]) /\
    ∀ base:acz,(K w.params).In base->base.Ns aak mg->eU l.prog w (K w.params) mg base (CX w) k fa fd [x] (sp w))
 (law:∀ (w:abb) (H:Hp) (a:ZX) (ns:List Int),gN ns->ah (K w.params) H a (ns.map V.int)->sp w [.ref a] H (λv y=>v = .bl true) λy y y=>False)
 (calm:∀ (w:abb) (H:Hp) (s:ZU) (e:ZP) (s':ZU),CX w [] H s (λy y y=>False) e s'->False) :
 aiC q loose XP YP l.row.toRowW d [] (λf vs=>PySem.call f vs):=by
 intro w t₀ t mg mb G Y9q f ob pm cd doc dV kV look data code defs at_ gens args vals as pre lay y well y;have e1:dV = .none:=Dflts.none defs plain;have e2:kV = .none:=Dflts.noKw defs;cases e1;cases e2;obtain⟨a,vs,ns,e3,e4,obj,are,len⟩:=yy.Nt most pre well;cases e3;cases e4;have KX:=Py w _ Y9q;obtain⟨fd,bind,ok⟩:=F w mg f _ KX G.T.g at_;have run:=Nw KX G.T.g G.T.b G.T.builtins G.T.nolimit gens obj are (ZQ len (by decide)) room ok bind
  (λH y S=>law w H a ns #[len,Pw lay] S) λH e s'=>calm w H t e s'
 refine enter_call (ac9 run ?_);rintro r s' ⟨rfl,old,os,bare⟩;exact#[.inl #[.bool true,.bool true,[],Y,λy=>rfl,.bool true,yy.Nv l _,λy=>#[List.Pairwise.nil,λy z=>(nomatch z)]],old,os,bare]
noncomputable def fX(ns:List Int)(k:Int):Int:=if 0<(ns.length:Int) then ns.getD (k % (ns.length:Int)).toNat 0 else 0
theorem GC(h:gN ns)(k:Int):Bt 1048576 (fX ns k):=by
 unfold fX;split
 .rw[ZG];cases e:ns[(k % (ns.length:Int)).toNat]? with
  | none=>exact (Bt.small (by decide) (by decide)).up (by decide)
  | some n=>exact h.2 _ (Z2 e)
 .exact (Bt.small (by decide) (by decide)).up (by decide)
theorem GD{ns:List Int}{k:Int}(h:0<(ns.length:Int)):cN (ns.map V.int) (k % (ns.length:Int))=U (.int (fX ns k)):=by
 have h1:=af6 k (show (ns.length:Int)≠0 by lia);have h2:=aeP k h;unfold fX;rw[if_pos h];have ek:k % (ns.length:Int)=(((k % (ns.length:Int)).toNat:Nat):Int):=by lia
 refine (congrArg (cN _) ek).trans (dZ ?_);rw[Z1,ZG,ZK (by lia)];rfl
theorem Pz(h:gN ns)(hk : -1000000<=k/\k<=1000000):kM k k/\kM (fX ns k+1009) (fX ns k+48271+k * k):=by have c:=GC h k;have k1:Bt 64 k:=Bt.small (by lia) (by lia);have k2:Bt 128 (k * k):=k1.mul k1;have n1:Bt 1048576 1009:=(Bt.small (by decide) (by decide)).up (by decide);have n2:Bt 1048576 48271:=(Bt.small (by decide) (by decide)).up (by decide);exact#[#[k1.up (by decide),k1.up (by decide)],(c.add n1).up (by decide),((c.add n2).add (k2.up (by decide))).up (by decide)]
theorem PB(h:gN ns)(k:Int):kM 2147483629 (fX ns k)/\kM (2147483629 * fX ns k) (fX ns k)/\kM (2147483629 * fX ns k * fX ns k) (fX ns k):=by have c:=GC h k;have n1:Bt 64 2147483629:=Bt.small (by decide) (by decide);have c1:=n1.mul c;have c2:=c1.mul c;exact#[#[n1.up (by decide),c.up (by decide)],#[c1.up (by decide),c.up (by decide)],c2.up (by decide),c.up (by decide)]
theorem zy{vs:List Int}{p:Int}(h0:0<=p)(h1:p<(vs.length:Int)):∃ v,v∈vs/\cN (vs.map V.int) p=U (.int v):=by
 have e:p=((p.toNat:Nat):Int):=by lia
 refine#[vs[p.toNat]'(by lia),abj _,?_];refine (congrArg (cN _) e).trans (dZ ?_);rw[Z1,ZK (by lia)];rfl
theorem GF(h:x.natAbs<2 ^ 600):Bd 4000 x:=Bd.up (n:=600) h (by decide)
theorem kN(h:x.natAbs<2 ^ 600)(h':y.natAbs<2 ^ 600):pf x y:=#[GF h,GF h']
theorem PD(i j:Nat):(if (j:Int)<(i:Int) then (j:Int) else (i:Int))=((min i j:Nat):Int):=by split<;>lia
theorem PF(i j:Nat):(if (j:Int) > (i:Int) then (j:Int) else (i:Int))=((max i j:Nat):Int):=by split<;>lia
theorem aH(I:L2.St->Hp->Prop)(h1:∀ N:L2.St->Hp->Prop,(∀ J H,I J H->N J H)->a { D with nx:=N } J H)(h2:∀ R:TS,R=b->∀ J H,I J H->R D J H):xP a b D J H:=h1 _ (h2 _ Y)
noncomputable def pre(f:P2->Int)(ps:List P2)(i:Nat):Int:=((ps.take i).map f).sum
theorem fL(f:P2->Int)(ps:List P2)(h:i<ps.length):pre f ps (i+1)=pre f ps i+f (aG ps i):=by unfold pre aG;rw[abq,aa2,List.sum_append,ZG,ZK h];simp only[agX,Z0,acS,List.sum_cons,List.sum_nil,Int.add_zero,ac0]
noncomputable def bw(ps:List P2)(i j:Nat):Int:=if i<=j then pre (·.2) ps j-pre (·.2) ps i else pre (·.1) ps j-pre (·.1) ps i
def eL(ps:List P2):Prop:=∀ p∈ps,p.1<=p.2
theorem GG(h:eL ps)(i:Nat):∀ n,i+n<=ps.length->pre (·.1) ps (i+n)-pre (·.1) ps i<=pre (·.2) ps (i+n)-pre (·.2) ps i
 | 0,_=>by simp
 | n+1,hn=>by have ih:=GG h i n (by lia);rw[show i+(n+1)=(i+n)+1 by lia,fL _ ps (by lia),fL _ ps (by lia)];have:=h _ (pF (ps:=ps) (i:=i+n) (by lia));lia
theorem pJ(h:eL ps)(ir:i<=j)(hj:j<=ps.length):pre (·.1) ps j-pre (·.1) ps i<=pre (·.2) ps j-pre (·.2) ps i:=by
 have:=GG h i (j-i) (by lia)
 rwa [show i+(j-i)=j by lia] at this
theorem PH(h:eL ps)(hi:i<=ps.length)(hj:j<=ps.length)(hk:k<=ps.length):bw ps i j<=bw ps i k+bw ps k j:=by have a:=λh'=>pJ h (i:=i) (j:=j) h' hj;have b:=λh'=>pJ h (i:=j) (j:=i) h' hi;have c:=λh'=>pJ h (i:=i) (j:=k) h' hk;have d:=λh'=>pJ h (i:=k) (j:=i) h' hi;have e:=λh'=>pJ h (i:=j) (j:=k) h' hk;have f:=λh'=>pJ h (i:=k) (j:=j) h' hj;unfold bw;split<;>split<;>split<;>lia
noncomputable def part(ps:List P2)(i j k:Nat):Int:=if i<j then pre (·.2) ps (min i j+k)-pre (·.2) ps i else pre (·.1) ps j-pre (·.1) ps (min i j+k)
theorem GH:part ps i j 0=0/\part ps i j (max i j-min i j)=bw ps i j:=by
 unfold part bw;by_cases h:i<j
 .rw[if_pos h,if_pos h,if_pos (by lia),show min i j+0=i by lia,show min i j+(max i j-min i j)=j by lia];lia
 .rw[if_neg h,if_neg h,show min i j+0=j by lia,show min i j+(max i j-min i j)=i by lia];by_cases e:i=j
  .subst e;rw[if_pos (by lia)];lia
  .rw[if_neg (by lia)];lia
end Gz
namespace L2
open PySem PySem.Spec PyProof.Rows
section
variable{κ:Type}[DecidableEq κ]
noncomputable def bN(kvs:List (κ × V))(k:κ):Option V:=(kvs.find? λkv=>decide (kv.1=k)).map (·.2)
noncomputable def putK(kvs:List (κ × V))(k:κ)(v:V):List (κ × V) :=
 if (kvs.any λkv=>decide (kv.1=k))=true then kvs.map (λkv=>if kv.1=k then (kv.1,v) else kv) else kvs++[(k,v)]
noncomputable def kO(kvs:List (κ × V))(k:κ):List (κ × V):=kvs.filter λkv=>decide (kv.1≠k)
theorem iu{p:κ × V}{r:List (κ × V)}{k:κ}(e:p.1=k):bN (p::r) k=U p.2:=by simp[bN,abK,e]
theorem ix{p:κ × V}{r:List (κ × V)}{k:κ}(e:¬ p.1=k):bN (p::r) k=bN r k:=by simp[bN,abK,e]
theorem vM(k:κ):∀ kvs:List (κ × V),(kvs.any λkv=>decide (kv.1=k))=(bN kvs k).isSome
 | []=>rfl
 | p::r=>by
  rw[abu];by_cases e:p.1=k
  .simp only[iu e,decide_eq_true e,Bool.true_or,agY]
  .rw[ix e,decide_eq_false e,afp];exact vM k r
theorem GI(k j:κ)(y:V):∀ kvs:List (κ × V),bN (kvs.map λkv=>if kv.1=k then (kv.1,y) else kv) j=(bN kvs j).map λx=>if j=k then y else x
 | []=>rfl
 | p::r=>by
  have ih:=GI k j y r;rw[Z0];by_cases h:p.1=k
  .rw[if_pos h];by_cases e:p.1=j
   .rw[iu (p:=(p.1,y)) e,iu e,Option.map_some,if_pos (e.symm.trans h)]
   .rw[ix (p:=(p.1,y)) e,ix e,ih]
  .rw[if_neg h];by_cases e:p.1=j
   .rw[iu (p:=p) e,iu e,Option.map_some,if_neg (λz=>h (e.trans z))]
   .rw[ix (p:=p) e,ix e,ih]
theorem GJ(k j:κ)(y:V):∀ kvs:List (κ × V),bN kvs k=O->bN (kvs++[(k,y)]) j=if j=k then U y else bN kvs j
 | [],_=>by
  by_cases e:k=j
  .rw[if_pos e.symm];exact iu (p:=(k,y)) e
  .rw[if_neg (λz=>e z.symm)];exact ix (p:=(k,y)) e
 | p::r,hn=>by
  rw[afA];have hk:¬ p.1=k:=λz=>by rw[iu z] at hn;cases hn
  rw[ix hk] at hn;have ih:=GJ k j y r hn;by_cases e:p.1=j
  .rw[iu e,iu e,if_neg (λz=>hk (e.trans z))]
  .rw[ix e,ix e,ih]
theorem PJ(kvs:List (κ × V))(k j:κ)(y:V):bN (putK kvs k y) j=if j=k then U y else bN kvs j:=by
 unfold putK;by_cases a:(kvs.any λkv=>decide (kv.1=k))=true
 .rw[if_pos a,GI];rw[vM] at a;by_cases e:j=k
  .obtain⟨x,hx⟩:=abA.mp a;rw[if_pos e,e,hx,Option.map_some,if_pos Y]
  .rw[if_neg e];cases bN kvs j with
   | none=>rfl
   | some x=>rw[Option.map_some,if_neg e]
 .rw[if_neg a];refine GJ k j y kvs ?_;rw[vM] at a;cases q:bN kvs k with
  | none=>rfl
  | some x=>rw[q] at a;exact (a Y).elim
theorem GK(kvs:List (κ × V))(k:κ)(v:V):(putK kvs k v).length<=kvs.length+1:=by
 unfold putK;split
 .rw[ZJ];omega
 .rw[aac,aaJ,acH];omega
theorem fe.rF(r:fe o u):o.isSome=u.isSome:=by
 cases o with
 | none=>cases u with
  | none=>rfl
  | some _=>exact (show False from r).elim
 | some _=>cases u with
  | none=>exact (show False from r).elim
  | some _=>rfl
theorem KV.val(r:KV kvs vs)(k:κ):fe (bN kvs k) (ahh vs k):=by
 unfold KV at r
 induction r with
 | nil=>exact acG
 | @cons p q ps qs h t ih =>
  obtain⟨h1,h2⟩:=h;by_cases e:p.1=k
  .have e':q.1=k:=h1.symm.trans e;have b:ahh (q::qs) k=U q.2:=by simp[ahh,abK,e']
   rw[iu e,b];exact h2
  .have e':¬ q.1=k:=λz=>e (h1.trans z);have b:ahh (q::qs) k=ahh qs k:=by simp[ahh,abK,e']
   rw[ix e,b];exact ih
theorem KV.any(r:KV kvs vs)(k:κ):(kvs.any λkv=>decide (kv.1=k))=vs.any λkv=>decide (kv.1=k):=by
 unfold KV at r
 induction r with
 | nil=>rfl
 | cons h t ih=>rw[abu,abu,ih,h.1]
theorem KV.pK(r:KV kvs vs)(k:κ)(ry:RelV y u) :
 KV (kvs.map λkv=>if kv.1=k then (kv.1,y) else kv) (vs.map λkv=>if kv.1=k then (kv.1,u) else kv):=by
 unfold KV at r ⊢
 induction r with
 | nil=>exact .nil
 | @cons p q ps qs h t ih =>
  rw[Z0,Z0];refine .cons ?_ ih;obtain⟨h1,h2⟩:=h;by_cases e:p.1=k
  .rw[if_pos e,if_pos (h1.symm.trans e)];exact#[h1,ry]
  .rw[if_neg e,if_neg (λz=>e (h1.trans z))];exact#[h1,h2]
theorem KV.put(r:KV kvs vs)(k:κ)(ry:RelV y u):KV (putK kvs k y) (stored vs k u):=by
 unfold putK stored;rw[r.any k];by_cases e:(vs.any λkv=>decide (kv.1=k))=true
 .rw[if_pos e,if_pos e];exact r.pK k ry
 .rw[if_neg e,if_neg e];exact Paired.snoc r #[Y,ry]
theorem KV.length(r:KV kvs vs):kvs.length=vs.length:=Paired.length r
theorem PK(kvs:List (κ × V))(k:κ):(kO kvs k).length<=kvs.length:=aan _ _
end
theorem rG(r:RelV (kV k) u):(cz P w).is k u=true:=by
 cases k with
 | inl i=>obtain⟨t,e⟩:=(show ∃ t,u=Value.int i t from r);subst e;exact Ma P w i t
 | inr x=>obtain⟨t,e⟩:=(show ∃ t,u=Value.str x t from r);subst e;exact Mb P w x t
theorem GL:∀ {ks:List Key} {us:List ZP},Vals (ks.map kV) us->ItemsAre (cz P w) ks us
 | [],_,r=>by rw[acS] at r;cases r;exact .nil
 | k::ks,_,r=>by
  rw[Z0] at r;cases r with
  | cons h t=>exact .cons (rG h) (GL t)
abbrev KT(H:Hp):List (List Key × V)->List (List Key × ZX × ZP)->Prop:=aiL λp q=>p.1=q.1/\H q.2.1=U (.tup (p.1.map kV))/\RelV p.2 q.2.2
theorem KT.val(r:KT H kvs xs)(k:List Key):fe (bN kvs k) ((agM xs k).map (·.2)):=by
 induction r with
 | nil=>exact acG
 | @cons p q ps qs h t ih =>
  obtain⟨h1,y,h2⟩:=h;by_cases e:p.1=k
  .have e':q.1=k:=h1.symm.trans e;have b:agM (q::qs) k=U q.2:=by simp[agM,abK,e']
   rw[iu e,b];exact h2
  .have e':¬ q.1=k:=λz=>e (h1.trans z);have b:agM (q::qs) k=agM qs k:=by simp[agM,abK,e']
   rw[ix e,b];exact ih
theorem KT.pK(r:KT H kvs xs)(k:List Key)(ry:RelV y u) :
 KT H (kvs.map λkv=>if kv.1=k then (kv.1,y) else kv) (xs.map (putAt k u)):=by
 induction r with
 | nil=>exact .nil
 | @cons p q ps qs h t ih =>
  rw[Z0,Z0];refine .cons ?_ ih;obtain⟨h1,h2,h3⟩:=h;unfold putAt;by_cases e:p.1=k
  .rw[if_pos e,if_pos (h1.symm.trans e)];exact#[h1,h2,ry]
  .rw[if_neg e,if_neg (λz=>e (h1.trans z))];exact#[h1,h2,h3]
theorem KT.put(r:KT H kvs xs)(k:List Key)(hb:H b=U (.tup (k.map kV)))(ry:RelV y u) :
 KT H (putK kvs k y) (storedH xs k b u):=by
 have e:(kvs.any λkv=>decide (kv.1=k))=(agM xs k).isSome:=by rw[vM,(r.val k).rF,afc]
 unfold putK storedH;rw[e];by_cases q:(agM xs k).isSome=true
 .rw[if_pos q,if_pos q];exact r.pK k ry
 .rw[if_neg q,if_neg q];exact Paired.snoc r #[Y,hb,ry]
theorem KT.keeps(r:KT H kvs xs)(ht:∀ b ys,H b=U (.tup ys)->H' b=U (.tup ys)):KT H' kvs xs :=
 Paired.DR r λy y z=>#[z.1,ht _ _ z.2.1,z.2.2]
section
theorem GN(ok:bS P w H h)(e:Rd H a u):bE P w H h a u:=e.ok ok
theorem pL(ok:bS P w H h)(e:Rd H a (.dK kvs)):kvs.length<=aah/\(a == aby)=false/\∃ vs,KV kvs vs/\h.DictOf (cz P w) a vs :=
 show bE P w H h a (.dK kvs) from GN ok e
theorem PL(ok:bS P w H h)(e:H a=U (.dK kvs)):kvs.length<=aah/\(a == aby)=false/\∃ vs,KV kvs vs/\h.DictOf (cz P w) a vs:=pL ok (.inl e)
theorem pM(ok:bS P w H h)(e:H a=U (.tup (ks.map kV))):(aed (cz P w)).is h ks a:=by
 obtain⟨y,ai,r,o,h1,h2,n,h3⟩:=(show bE P w H h a (.tup (ks.map kV)) from ok a _ e)
 exact#[o,ai.toArray,n,h1,h2,h3,by simpa using GL r]
theorem pN(ok:bS P w H h)(e:Rd H a (.dT kvs)):kvs.length<=aah/\(a == aby)=false /\
 ∃ xs,KT H kvs xs/\h.DictOfH (aed (cz P w)) a xs:=by
 obtain⟨z,y,xs,r,o,es,ep,h1,h2,h3,h4,h5⟩:=(show bE P w H h a (.dT kvs) from GN ok e)
 refine#[z,y,xs,r,o,es,ep,h1,h2,h3,h4,λx hx=>?_,h5];have all:∀ {l:List (List Key × V)} {m:List (List Key × ZX × ZP)},KT H l m->∀ x∈m,(aed (cz P w)).is h x.1 x.2.1:=by
  intro l m q
  induction q with
  | nil=>intro x hx;exact nomatch hx
  | @cons p q ps qs hq t ih =>
   intro x hx;rcases ZO.mp hx with e|hx
   .subst e;exact pM ok (by rw[<- hq.1];exact hq.2.1)
   .exact ih x hx
 exact all r x hx
theorem rH(ok:bS P w H h)(e:H a=U (.dT kvs)):kvs.length<=aah/\(a == aby)=false /\
 ∃ xs,KT H kvs xs/\h.DictOfH (aed (cz P w)) a xs:=pN ok (.inl e)
end
def cJ(H:Hp)(a:ZX)(y:V)(r:Option V):Prop :=
 (∃ kvs k,Rd H a (.dK kvs)/\y=kV k/\r=bN kvs k) ∨ ∃ kvs k b,Rd H a (.dT kvs)/\y = .ref b/\H b=U (.tup (k.map kV))/\r=bN kvs k
def kP(H:Hp)(a:ZX)(y v:V)(H':Hp):Prop :=
 (∃ kvs k,H a=U (.dK kvs)/\y=kV k/\kvs.length<aah/\H'=upd H a (.dK (putK kvs k v))) ∨
 ∃ kvs k b,H a=U (.dT kvs)/\y = .ref b/\H b=U (.tup (k.map kV))/\kvs.length<aah/\H'=upd H a (.dT (putK kvs k v))
theorem cJ.t(e:H a=U (.dT kvs))(eb:H b=U (.tup (k.map kV))):cJ H a (.ref b) (bN kvs k):=.inr #[kvs,k,b,.inl e,Y,eb,Y]
theorem kP.t{H:Hp}{a b:ZX}{kvs:List (List Key × V)}{k:List Key}{v:V}(e:H a=U (.dT kvs))(eb:H b=U (.tup (k.map kV)))(hl:kvs.length<aah) :
 kP H a (.ref b) v (upd H a (.dT (putK kvs k v))):=.inr #[kvs,k,b,e,Y,eb,hl,Y]
section
theorem Inv.big(I:Inv X pins J H s):aby<s.heap.objs.size:=by have h:aak<s.heap.objs.size:=(I.mod.glob.keeps I.bk).lt;exact aht (by decide) h
theorem PM(hu:A.units+1<adQ)(I:Inv X pins J H s)(g:cJ H a y (U v))(ry:RelV y u)(h:∀ w' s',Inv X pins J H s'->RelV v w'->Q w' s') :
 ZZ (model X.prog X.w) A (ahY (.ref a) u) Q E s:=by
 rcases g with ⟨kvs,k,e,ey,l⟩|⟨kvs,k,b,e,ey,eb,l⟩
 .subst ey;obtain⟨z,hd,vs,rel,dd⟩:=pL I.ak e;obtain⟨w',hw,i3⟩:=fe.some_of (v:=v) (o:=ahh vs k) (by rw[l];exact rel.val k);exact wpAny_getItem_of (rG ry) dd.mapOf hw (h w' _ (I.tok _) i3)
 .subst ey;cases (show u=Z5 b from ry);obtain⟨z,hd,xs,rel,dd⟩:=pN I.ak e;obtain⟨w',hw,i3⟩:=fe.some_of (v:=v) (o:=(agM xs k).map (·.2)) (by rw[l];exact rel.val k);obtain⟨p,hp,dC⟩:=aaj.mp hw;refine wpAny_getItem_heap (ab0 hu) (pM I.ak eb) dd hp ?_;rw[dC];exact h w' _ (I.tok _) i3
theorem PN(hu:A.units+1<adQ)(I:Inv X pins J H s)(g:cJ H a y o)(ry:RelV y u)(h:∀ s',Inv X pins J H s'->Q (.bool o.isSome) s') :
 ZZ (model X.prog X.w) A (abl .In u (.ref a)) Q E s:=by
 rcases g with ⟨kvs,k,e,ey,l⟩|⟨kvs,k,b,e,ey,eb,l⟩
 .subst ey;obtain⟨z,hd,vs,rel,dd⟩:=pL I.ak e;refine wpAny_in_of (rG ry) hd dd.mapOf ?_;rw[<- (rel.val k).rF,<- l];exact h _ (I.tok _)
 .subst ey;cases (show u=Z5 b from ry);obtain⟨z,hd,xs,rel,dd⟩:=pN I.ak e;refine wpAny_in_heap (ab0 hu) (pM I.ak eb) hd dd ?_;have q:=(rel.val k).rF;rw[afc] at q;rw[<- q,<- l];exact h _ (I.tok _)
theorem PQ(hu:A.units+1<adQ)(I:Inv X pins J H s)(g:cJ H a y o)(ry:RelV y u)(h:∀ s',Inv X pins J H s'->Q (.bool (!o.isSome)) s') :
 ZZ (model X.prog X.w) A (abl .NotIn u (.ref a)) Q E s:=by
 rcases g with ⟨kvs,k,e,ey,l⟩|⟨kvs,k,b,e,ey,eb,l⟩
 .subst ey;obtain⟨z,hd,vs,rel,dd⟩:=pL I.ak e;refine wpAny_notIn_of (rG ry) hd dd.mapOf ?_;rw[<- (rel.val k).rF,<- l];exact h _ (I.tok _)
 .subst ey;cases (show u=Z5 b from ry);obtain⟨z,hd,xs,rel,dd⟩:=pN I.ak e;refine wpAny_notIn_heap (ab0 hu) (pM I.ak eb) hd dd ?_;have q:=(rel.val k).rF;rw[afc] at q;rw[<- q,<- l];exact h _ (I.tok _)
theorem zA(I:Inv X pins J H s)(mu:qG (H a))(hs:Heap.SameBut a s.heap h')(he:∃ q,h'.get? a=U q)(new:bE X.prog X.w (upd H a ob) h' a ob) :
 Inv X pins J (upd H a ob) { s with heap:=h',toks:=t' } :=
 I.write (x:=a) (e:=a) mu (.inl rfl) (λb q hb z=>(hs.2 b hb).trans z) he new
theorem GO(z:kvs.length<=aah)(hd:(a == aby)=false)(rel:KV kvs vs)(dd:h'.DictOf (cz P w) a vs) :
 bE P w H' h' a (.dK kvs):=#[z,hd,vs,rel,dd]
theorem PR(hu:A.units+1<adQ)(I:Inv X pins J H s)(g:kP H a y v H')(ry:RelV y u)(rv:RelV v r)(h:∀ s',Inv X pins J H' s'->Q () s') :
 ZZ (model X.prog X.w) A (setItem (.ref a) u r) Q E s:=by
 rcases g with ⟨kvs,k,e,ey,l,eH⟩|⟨kvs,k,b,e,ey,eb,l,eH⟩
 .subst ey eH;obtain⟨z,hd,vs,rel,dd⟩:=PL I.ak e;have hz:vs.length<=aah:=by rw[<- rel.length];exact z
  have hl:(putK kvs k v).length<=aah:=by have:=GK kvs k v;omega
  refine wpAny_setItem_pairs (hsz:=hz) (rG ry) dd λh' nK hs=>h _ ?_;have he:∃ q,h'.get? a=U q:=let ⟨q,_,_,hq,_⟩:=nK;#[q,hq];exact zA I (by rw[e];exact acG) hs he (GO hl hd (rel.put k rv) nK)
 .subst ey eH;cases (show u=Z5 b from ry);obtain⟨z,hd,xs,rel,dd⟩:=rH I.ak e;have hz:xs.length<=aah:=by rw[<- Paired.length rel];exact z
  have hl:(putK kvs k v).length<=aah:=by have:=GK kvs k v;omega
  refine wpAny_setItem_heap (hsz:=hz) (ab0 hu) (pM I.ak eb) dd λh' nK hs=>h _ ?_;obtain⟨q,es,ep,hq,h2,h3,h4,c,h5⟩:=nK;refine zA I (by rw[e];exact acG) hs #[q,hq] #[hl,hd,_,(rel.put k eb rv).keeps λc ys ec=>?_,q,es,ep,hq,h2,h3,h4,h5];rw[aF (uL ec e (λz=>nomatch z))];exact ec
end
def zB(i:ael):Prop:=∀ ov iv,subscripted i false ov iv=operate [ov,iv] (ahY ov iv)
theorem PU{prog:aaE}{w:abb}{A:abI}{E:ZP->ZU->Prop}{s:ZU}{env:Env}{value slice:ael}{pos:Pos}{T id:String}{Q:ZP->ZU->Prop}
 (hl:agm (.type T) "__getitem__" = pure (U (.builtin id))) (hs:zB slice)
 (h:ZZ (model prog w) A (eval value env) (λo s₁=>ZZ (model prog w) A (eval slice env) (λi s₂=>s₂.TypeIs o T/\ZZ (model prog w) A (ahY o i) Q E s₂) E s₁) E s) :
 ZZ (model prog w) A (eval (.Subscript value slice pos) env) Q E s:=by
 refine ahe (aba h (λo s₁ h₁=>aba h₁ (λi s₂ h₂=>?_) λy y x=>x) λy y x=>x);obtain⟨hT,h₂⟩:=h₂;unfold afn;refine ZE ?_;rw[getitemInPython_of_ne hT.not_modules];refine ZE (acI hT hl ?_);have fin:ZZ (model prog w) A (subscripted slice false o i) (λr s₃=>ZZ (model prog w) A (letTemporaryGo value o r >>= λy=>pure r) Q E s₃) E s₂:=by rw[hs o i];exact wpAny_operating (aba h₂ (λr s₃ h₃=>ZE (wpAny_letTemporaryGo (ZI h₃))) λy y x=>x)
 first
  | exact ZI (ZE fin)
  | exact ZE (ZI (ZE fin))
  | exact ZE fin
theorem PV(I:Inv X pins J H s)(g:cJ H a y o):s.TypeIs (.ref a) "dict" := by
 rcases g with ⟨kvs,k,e,z,z⟩|⟨kvs,k,b,e,z,z,z⟩
 .obtain⟨z,z,vs,z,dd⟩:=pL I.ak e;exact dd.typeIs
 .obtain⟨z,z,xs,z,dd⟩:=pN I.ak e;exact dd.typeIs
def zC(td ty:TE):TE:=λJ H Q=>td J H λx H1=>ty J H1 λy H2=>∃ a v,x = .ref a/\cJ H2 a y (U v)/\Q v H2
def GP(ty td:TE):TE:=λJ H Q=>ty J H λy H1=>td J H1 λx H2=>∃ a o,x = .ref a/\cJ H2 a y o/\Q (.bl o.isSome) H2
def GQ(ty td:TE):TE:=λJ H Q=>ty J H λy H1=>td J H1 λx H2=>∃ a o,x = .ref a/\cJ H2 a y o/\Q (.bl (!o.isSome)) H2
def GR(td ty tv:TE):TS:=λD J H=>tv J H λv H1=>td J H1 λx H2=>ty J H2 λy H3=>∃ a H4,x = .ref a/\kP H3 a y v H4/\D.nx J H4
section
theorem nM(hu:X.A.units+1<adQ)(ho:PE X o td)(hi:PE X i ty)(hs:zB i):PE X (.Subscript o i pos) (zC td ty):=by intro pins s J H Q I h;refine PU PySem.F.slot_dict_getitem.lookup hs (az (ho pins s J H _ I h) λu s1 ⟨x,H1,I1,rx,q1⟩=>az (hi pins s1 J H1 _ I1 q1) λiv s2 zq=>?_);obtain⟨y,H2,I2,ry,a,v,ex,g,q2⟩:=zq;subst ex;obtain rfl:u=Z5 a:=rx;exact#[PV I2 g,PM hu I2 g ry λw' s3 I3 i3=>#[v,H2,I3,i3,q2]]
theorem PX(hu:X.A.units+1<adQ)(hi:PE X i ty)(ho:PE X o td):PC X .In i o (GP ty td):=by
 intro pins s J H Q I h;refine az (hi pins s J H _ I h) λiv s1 ⟨y,H1,I1,ry,q1⟩=>az (ho pins s1 J H1 _ I1 q1) λu s2 zq=>?_;obtain⟨x,H2,I2,rx,a,ov,ex,g,q2⟩:=zq;subst ex;obtain rfl:u=Z5 a:=rx;exact PN hu I2 g ry λs3 I3=>#[.bl ov.isSome,H2,I3,Y,q2]
theorem GS(hu:X.A.units+1<adQ)(hi:PE X i ty)(ho:PE X o td):PC X .NotIn i o (GQ ty td):=by
 intro pins s J H Q I h;refine az (hi pins s J H _ I h) λiv s1 ⟨y,H1,I1,ry,q1⟩=>az (ho pins s1 J H1 _ I1 q1) λu s2 zq=>?_;obtain⟨x,H2,I2,rx,a,ov,ex,g,q2⟩:=zq;subst ex;obtain rfl:u=Z5 a:=rx;exact PQ hu I2 g ry λs3 I3=>#[.bl (!ov.isSome),H2,I3,Y,q2]
theorem zD(hu:X.A.units+1<adQ)(ho:PE X o td)(hi:PE X i ty)(hv:PE X value tv)(hs:aee value (U (.Subscript o i pos')) pos.line X.env=pure false) :
 PS X (.Assign [.Subscript o i pos'] value pos) (GR td ty tv):=by
 intro pins s J H D I h;refine wpAny_Assign_Subscript (az (hv pins s J H _ I h) λr s1 ⟨v,H1,I1,rv,q1⟩=>az (ho pins s1 J H1 _ I1 q1) λu s2 ⟨x,H2,I2,rx,q2⟩=>az (hi pins s2 J H2 _ I2 q2) λiv s3 zq=>?_) hs;obtain⟨y,H3,I3,ry,a,H4,ex,g,q3⟩:=zq;subst ex;obtain rfl:u=Z5 a:=rx;exact PR hu I3 g ry rv λs4 I4=>#[J,H4,I4,q3]
end
structure M1(X:Cx)(o:ael)(m:Str)(apos:Pos)(e:ael)(cI:Pos):Prop where
 base:adi o m X.env (eval o X.env)=eval o X.env
 few:((aca cI (aae [e] X.env)).all (λx=>!x.1) && (ahS cI (afl [] X.env)).all (λx=>x.1.isSome)
  && decide (([e]:List ael).length+([]:List ah2).length+(if ([]:List ah2).isEmpty then 0 else 1)<30))=true
 line:(apos.endLine == cI.line)=true
 trees:aca cI (aae [e] X.env)=[(false,eval e X.env)]
structure M2(X:Cx)(o:ael)(m:Str)(apos:Pos)(e f:ael)(cI:Pos):Prop where
 base:adi o m X.env (eval o X.env)=eval o X.env
 few:((aca cI (aae [e,f] X.env)).all (λx=>!x.1) && (ahS cI (afl [] X.env)).all (λx=>x.1.isSome)
  && decide (([e,f]:List ael).length+([]:List ah2).length+(if ([]:List ah2).isEmpty then 0 else 1)<30))=true
 line:(apos.endLine == cI.line)=true
 trees:aca cI (aae [e,f] X.env)=[(false,eval e X.env),(false,eval f X.env)]
def GU(H:Hp)(a:ZX):Prop:=(∃ kvs,Rd H a (.dK kvs)) ∨ ∃ kvs,Rd H a (.dT kvs)
theorem PY(I:Inv X pins J H s)(d:GU H a) :
 s.TypeIs (.ref a) "dict" /\ (∀ b,Z5 a = .ref b->∃ ob,s.heap.get? b=U ob/\ob.dict=O)/\(a == aby)=false:=by
 rcases d with ⟨kvs,e⟩|⟨kvs,e⟩
 .obtain⟨y,hd,vs,y,dd⟩:=pL I.ak e;refine#[dd.typeIs,λb q=>?_,hd];cases q;obtain⟨ob,y,y,h1,h2,y⟩:=dd;exact#[ob,h1,h2.2.1]
 .obtain⟨y,hd,xs,y,dd⟩:=pN I.ak e;refine#[dd.typeIs,λb q=>?_,hd];cases q;obtain⟨ob,y,y,h1,h2,y⟩:=dd;exact#[ob,h1,h2.2.1]
section
end
section
variable{κ:Type}[DecidableEq κ]
theorem GV:∀ {l:List κ} {k:κ},l.Nodup->¬ k∈l->(l++[k]).Nodup
 | [],k,_,_=>by simp
 | a::r,k,h,hk=>by
  obtain⟨h1,h2⟩:=aaC.mp h;show (a::(r++[k])).Nodup;refine aaC.mpr #[λm=>?_,GV h2 λm=>hk (ZO.mpr (ahs m))];rcases aaf.mp m with q|q
  .exact h1 q
  .exact hk (ZO.mpr (ade (aap.mp q).symm))
end
end L2
namespace Gz
open PySem PySem.Spec PyProof.Rows L2
def bits(bs:List Int):Prop:=∀ x∈bs,x=0∨x=1
theorem GW(hx:H x=O)(hd:H dx=O)(hn:dx≠x):aj H (upd (upd H dx (.own x)) x (.ins C dx fs)) :=
 (aq hd).trans (aq (by rw[aF (aaQ hn)];exact hx))
abbrev Lk:=Option (List Int)
def PZ(xs:List ZX)(H:Hp)(v:V):Lk->Prop
 | none=>v = .non
 | some bs=>∃ l,v = .ref l/\l∉xs/\H l=U (.lst (bs.map V.int))
abbrev IsL:=PZ []
section
variable{κ:Type}[DecidableEq κ]
noncomputable def fM(xs:List (κ × ZX × ZP))(k:κ):List (κ × ZX × ZP):=xs.filter λx=>decide (x.1≠k)
theorem P4{xs:List (κ × ZX × ZP)}{k:κ}(h:k∉xs.map (·.1)):fM xs k=xs:=by unfold fM;rw[aeD];intro x hx;rw[decide_eq_true_eq];exact λz=>h (ZN.mpr #[x,hx,z])
theorem GX:∀ {xs:List (κ × ZX × ZP)} {k:κ} {j:Nat} {p:ZX × ZP},(xs.map (·.1)).Nodup->xs[j]?=U (k,p)->xs.eraseIdx j=fM xs k
 | [],_,_,_,_,h=>by simp at h
 | x::r,k,0,p,hn,h=>by
  rw[Z0,aaC] at hn;simp at h;subst h;have e:fM ((k,p)::r) k=fM r k:=by unfold fM;rw[aaK,if_neg (by simp)]
  rw[e,P4 hn.1];rfl
 | x::r,k,j+1,p,hn,h=>by
  rw[Z0,aaC] at hn;rw[ab8] at h;have ne:¬ x.1=k:=λz=>hn.1 (z ▸ ZN.mpr #[_,Z2 h,Y]);have e:fM (x::r) k=x::fM r k:=by unfold fM;rw[aaK,if_pos (by simpa using ne)]
  rw[e,afq,GX hn.2 h]
theorem GY(f:α->β):∀ (l:List α) (j:Nat),(l.map f).eraseIdx j=(l.eraseIdx j).map f
 | [],_=>rfl
 | _::_,0=>rfl
 | x::l,j+1=>by rw[Z0,afq,GY f l j];rfl
theorem P5{xs:List (κ × ZX × ZP)}{k:κ}(hn:(xs.map (·.1)).Nodup):((fM xs k).map (·.1)).Nodup:=hn.sublist ((acX).map _)
end
theorem GZ{prog:aaE}{w:abb}{K:Type}[DecidableEq K]{knd:HeapKind prog w K}{es:Array adb}{xs:List (K × ZX × ZP)}{k:K}(he:es.toList=xs.map (agl knd))(h:es.isEmpty=true):agM xs k=O:=by
 have e:es.size=0:=by simpa using h
 have l:=acJ he;have:xs=[]:=ab7.mp (by lia);rw[this];rfl
theorem KT.out(r:KT H kvs xs)(k:List Key):KT H (kO kvs k) (fM xs k):=by
 unfold kO fM
 induction r with
 | nil=>exact .nil
 | @cons p q ps qs h t ih =>
  rw[aaK,aaK];by_cases e:p.1=k
  .rw[if_neg (by simp[e]),if_neg (by simp[h.1.symm.trans e])];exact ih
  .rw[if_pos (by simp[e]),if_pos (by rw[decide_eq_true_eq];exact λz=>e (h.1.trans z))];exact .cons h ih
section
variable{prog:aaE}{w:abb}{K:Type}[DecidableEq K]{knd:HeapKind prog w K}{A:abI}{E:ZP->ZU->Prop}{s:ZU}
theorem G0(hu:knd.room A)(eG:knd.is s.heap k a)(hm:s.heap.DictOfH knd d xs)(hsz:xs.length<=aah)(h0:agM xs k=O->Q O { s with toks:=s.toks+knd.draws k })(h1:∀ p e,agM xs k=U p->e.val=p.2->∀ h',h'.DictOfH knd d (fM xs k)->Heap.SameBut d s.heap h'->Q (U e) { s with heap:=h',toks:=s.toks+knd.draws k }):ZZ (model prog w) A (agt d (.ref a)) Q E s:=by
 obtain⟨o,es,ep,ho,hc,hd,he,his,hn⟩:=hm;have pO:es.size<=aah:=by have e:=acJ he;lia
 unfold agt
 try with_reducible refine aaB ?_
 refine ZE (knd.pyHash hu eG ?_);refine ZE (wpAny_dictFind_heap (s:={ s with toks:=s.toks+knd.draws k }) hu eG ho hd he his hn (λcS=>?_) λj p hj=>?_)
 .exact ZI (h0 (atKey_none_of_get cS))
 .refine ZE (aa5 (s:={ s with toks:=s.toks+knd.draws k }) ho hd ?_);have ej:=entry_at he j;rw[hj] at ej;rw[ej];refine ZE (wpAny_updateDictKeys (hz:=pO) (s:={ s with toks:=s.toks+knd.draws k }) ho hd (ZI (h1 p (agl knd (k,p)) (atKey_of_get hn hj) Y _ #[_,_,ep+1,aam _ ho (agN (adq hd _)),hc.mapDictKeys _,adq hd _,?_,?_,P5 hn] (aaM ..))))
  .rw[<- GX hn hj];have lt:j<es.size:=by rw[acJ he];exact (ZL.mp hj).1
   rw[Array.eraseIdxIfInBounds,dif_pos lt,Array.toList_eraseIdx,he,GY]
  .exact λx hx=>knd.keeps (his x (Z4.mp hx).1) ho hd (aaM ..)
theorem P6(hu:knd.room A.in1)(eG:knd.is s.heap k a)(hd:(d == aby)=false)(hm:s.heap.DictOfH knd d xs)(hsz:xs.length<=aah)(G1:more=[] ∨ ∃ x,more=[x])(h1:∀ p,agM xs k=U p->∀ h' tk,h'.DictOfH knd d (fM xs k)->Heap.SameBut d s.heap h'->Q p.2 { s with heap:=h',toks:=tk })(h0:agM xs k=O->∃ x,more=[x]/\∀ tk,Q x { s with toks:=tk }):ZZ (model prog w) A (call (.builtin "dict.pop") (.ref d :: .ref a::more)) Q E s:=by
 have ha:aeO "dict.pop" #[.ref d :: .ref a::more,[]]:=by
  rcases G1 with q|⟨x,q⟩
  .subst q;exact PySem.F.args_dict_pop_2 _ _
  .subst q;exact PySem.F.args_dict_pop_3 _ _ _
 have g:MeetsIn prog w (aci.«dict.pop» #[.ref d :: .ref a::more,[]]) (λA R s=>knd.room A.in1/\knd.is s.heap k a/\s.heap.DictOfH knd d xs/\(∀ p,agM xs k=U p->∀ h' tk,h'.DictOfH knd d (fM xs k)->Heap.SameBut d s.heap h'->R (.ok (.ret p.2)) { s with heap:=h',toks:=tk }) /\
  (agM xs k=O->∃ x,more=[x]/\∀ tk,R (.ok (.ret x)) { s with toks:=tk })):=.of_wp λA R s ⟨hu,eG,hm,h1,h0⟩=>by
  obtain⟨o,es,ep,ho,hc,hda,he,his,hn⟩:=id hm;refine ZE ?_;refine ZE (aei hm.typeIs ?_);rcases G1 with rfl|⟨dflt,rfl⟩
  .refine ZI ?_;dsimp only;refine ZE (aa5 ho hda (ZE (ZI ?_)));by_cases hemp:es.isEmpty=true
   .rw[if_pos hemp];refine ZE (adN (ZE (ZI ?_)));refine ZE (acB hd ?_);obtain⟨x,ex,hq⟩:=h0 (GZ he hemp);cases ex
   .rw[if_neg hemp];refine ZE (G0 hu eG hm hsz (λzE=>?_) λp e hp zF h' dd hs=>?_)
    .refine ZE (acB hd ?_);obtain⟨x,ex,hq⟩:=h0 zE;cases ex
    .exact ZE (acj (ZI #[e.val,Y,by rw[zF];exact h1 p hp h' _ dd hs]))
  .refine ZI ?_;dsimp only;refine ZE (aa5 ho hda (ZE (ZI ?_)));by_cases hemp:es.isEmpty=true
   .rw[if_pos hemp];refine ZE (adN (ZE (ZI ?_)));refine ZE (acB hd ?_);obtain⟨x,ex,hq⟩:=h0 (GZ he hemp);cases ex;exact ZE (adN (ZI #[dflt,Y,hq _]))
   .rw[if_neg hemp];refine ZE (G0 hu eG hm hsz (λzE=>?_) λp e hp zF h' dd hs=>?_)
    .refine ZE (acB hd ?_);obtain⟨x,ex,hq⟩:=h0 zE;cases ex;exact ZE (adN (ZI #[dflt,Y,hq _]))
    .exact ZE (acj (ZI #[e.val,Y,by rw[zF];exact h1 p hp h' _ dd hs]))
 exact call_meetsIn af7 hm.typeIs PySem.F.entry_dict_pop ha g #[hu,eG,hm,h1,h0]
end
def dD(h:acz)(d:ZX)(es:Array adb)(ep:Nat):Prop:=∃ o,h.get? d=U o/\o.ExactDict/\o.data = .dict es ep
theorem dD.at(x:dD h d es ep)(e:∀ o,h.get? d=U o->h'.get? d=U o):dD h' d es ep:=let ⟨o,ho,r⟩:=x;#[o,e o ho,r]
theorem dD.lt(x:dD h d es ep):d<h.objs.size:=let ⟨_,ho,_⟩:=x;ZM ho
theorem dD.ty{s:ZU}{d:ZX}{es:Array adb}{ep:Nat}(x:dD s.heap d es ep):s.TypeIs (.ref d) "dict" := let ⟨o,ho,hc,_⟩:=x;#[o,ho,hc.1]
section
variable{prog:aaE}{w:abb}{A:abI}{E:ZP->ZU->Prop}{s:ZU}{d it:ZX}{es:Array adb}{i ep:Nat}
theorem G2(lo:(d == aby)=false)(x:dD s.heap d es ep)(q:Q (.ref s.heap.objs.size) { s with heap:=s.heap.push { cls:=.type "dict_keyiterator",data:=.fields (List.toArray [.ref d,.int 0 0,.int es.size 0,.int ep 0]) } }):ZZ (model prog w) A (air (.ref d)) Q E s:=by have T:=x.ty;obtain⟨o,ho,hc,hq⟩:=x;refine afd T afL (aa3 afL T PySem.F.entry_dict_iter ?_ (PySem.F.args_dict_iter_1 _));unfold aci.«dict.__iter__»;refine ZE ?_;unfold ail;refine ZE (aei T ?_);refine ZI (a:=Z5 d) ?_;show ZZ _ A.in1 (aej d >>= _) _ _ s;unfold aej;rw[if_neg (by rw[lo];exact aag)];refine ZE (ZI (ZE (aa5 ho hq (ZE (aeE ho hq ?_)))));refine ZE (aaU (ZI #[_,Y,"dict_keyiterator",_,#[_,ZR _ Y,Y],PySem.F.slot_dict_keyiterator_next.lookup,?_]));simpa [adL] using q
theorem G3(hit:s.heap.IsKeyIter it d i es.size ep)(x:dD s.heap d es ep)(hi:i<es.size)(q:∀ h',h'.IsKeyIter it d (i+1) es.size ep->Heap.SameBut it s.heap h'->Q (U es[i].key) { s with heap:=h' }):ZZ (model prog w) A (acQ (.ref it)) Q E s:=by
 obtain⟨o,ho,hc,hd⟩:=id hit;obtain⟨od,hod,fG,hdd⟩:=x;have T:=hit.typeIs;refine ZE (adU (abk (name:=aa7 "__next__") T abF (aa3 abF T adI ?_ (adu _))));refine ZE (ZI (ZE (ZE ?_)))
 first|refine ZE (ab4 T (ZI (ZE (adv ho hd ?_))))|refine ZE (acK T (ZI (ZE (adv ho hd ?_))))
 have ow:Builtin.Dict_items.ownsTuple "dict_keyiterator" = false:=by decide
 simp only[ow,ZT,if_false];show ZZ _ A.in1 (if (Z5 d == Value.none)=true then _ else _) _ _ s;refine ZE (ZI (ZE (aa5 hod hdd ?_)));rw[if_neg (by simp)];refine ZE (ZI (ZE (aeE hod hdd ?_)));rw[if_neg (by simp)];refine ZI ?_;simp only[show ¬ (i:Int)<0 by lia,if_false,aat,aao hi];refine ZE ?_
 first|refine ZE (ab4 T (ZI (ZE (aek T ?_))))|refine ZE (acK T (ZI (ZE (aek T ?_))))
 show ZZ _ A.in1 (ahU (.ref it) 1 (adL ((i:Int)+1)) >>= _) _ _ s;refine ZE (aec ho hd (by simp) ?_);have kQ:(s.heap.update it (adk (·.setIfInBounds 1 (adL ((i:Int)+1))))).IsKeyIter it d (i+1) es.size ep:=#[_,aam _ ho (Obj.isFreed_of_fields (agZ hd _)),(Obj.cls_mapFields ..).trans hc,by rw[agZ hd];simp[adL]]
 refine ZE (aaB (ZE (aek (s:={ s with heap:=s.heap.update it (adk (·.setIfInBounds 1 (adL ((i:Int)+1)))) }) kQ.typeIs ?_)));exact ZI (ZI #[_,Y,ZI (q _ kQ (aaM ..))])
theorem G4(hh:A.handled=O)(hit:s.heap.IsKeyIter it d es.size es.size ep)(x:dD s.heap d es ep)(q:∀ h',aib it s.heap h'->Q O { s with heap:=h' }):ZZ (model prog w) A (acQ (.ref it)) Q E s:=by
 obtain⟨o,ho,hc,hd⟩:=id hit;obtain⟨od,hod,fG,hdd⟩:=x;have T:=hit.typeIs;refine ZE (adU (abk (name:=aa7 "__next__") T abF (aa3 abF T adI ?_ (adu _))));refine ZE (ZI (ZE (ZE ?_)))
 first|refine ZE (ab4 T (ZI (ZE (adv ho hd ?_))))|refine ZE (acK T (ZI (ZE (adv ho hd ?_))))
 have ow:Builtin.Dict_items.ownsTuple "dict_keyiterator" = false:=by decide
 simp only[ow,ZT,if_false];show ZZ _ A.in1 (if (Z5 d == Value.none)=true then _ else _) _ _ s;refine ZE (ZI (ZE (aa5 hod hdd ?_)));rw[if_neg (by simp)];refine ZE (ZI (ZE (aeE hod hdd ?_)));rw[if_neg (by simp)];refine ZI ?_;simp only[show ¬ (es.size:Int)<0 by lia,if_false,aat,acp (ZS es.size)];refine ZE ?_
 first|refine ZE (ab4 T (ZI ?_))|refine ZE (acK T (ZI ?_))
 show ZZ _ A.in1 (ahU (.ref it) 0 .none >>= _) _ _ s;refine ZE (aec ho hd (by simp) ?_);show ZZ _ A.in1 (newExc (.type "StopIteration") [] >>= _) _ _ _;refine ZE ?_;simp only[newExc,aiD];refine ZE (aaU ?_ (by size_fits));refine ZE (m:=aeW _ _) (aeB (a:=Value.none) (by first|rfl|(simp only[aeW];rfl)) ?_);refine aaU ?_ (by size_fits);simp only[raiseNew];refine ZE (wpAny_handled ?_);rw[show A.in1.handled=O from hh];refine ZE (ZI (wpAny_throw ?_));refine ZE (acs (T := "StopIteration") (b:=true) #[_,ZR _ Y,Y] agx ?_);exact ZI (q _ (((aaM ..).extBut.push _).push _))
theorem P7(hh:A.handled=O)(I d:ZX)(bM:d≠I)(es:Array adb)(ep:Nat) :
 Walks prog w A I [I,d] [I] es.size (λi v=>∃ e,es[i]?=U e/\v=e.key) (λi h=>h.IsKeyIter I d i es.size ep/\dD h d es ep) where
 sub:=λb hb=>by simp at hb;simp[hb]
 frame:=λy y y st hk=>#[st.1.at λo e=>hk I (by simp) o e,st.2.at λo e=>hk d (by simp) o e]
 item:=λi s Q E hi st hQ=>by refine G3 st.1 st.2 hi λh' kQ rJ=>?_;exact hQ _ h' s.toks #[es[i],aao hi,Y] #[kQ,st.2.at λo e=>rJ.extBut d o bM e] λb o hb e=>rJ.extBut b o (λh=>hb (by simp[h])) e
 done:=λs Q E st hQ=>G4 hh st.1 st.2 λh' gO=>hQ h' s.toks λb o hb e=>gO b o (λh=>hb (by simp[h])) e
 self:=λy y y y st hQ=>agu st.1 hQ
theorem G5(lo:(d == aby)=false):agy prog w "dict" d d es.size (λi v=>∃ e,es[i]?=U e/\v=e.key) (λh=>dD h d es ep) where
 type:=λy x=>x.ty
 there:=λy x=>#[x.lt,x.lt]
 keep:=λy y x hk=>x.at λo e=>hk d (.inl rfl) o e
 notList:=by decide
 notTuple:=by decide
 hint:=λy y y y x hq=>PySem.W.kdl_hint_dict x.ty hq
 iter:=λy y hh x=>#[_,_,(λy y hq=>G2 lo x hq),P7 hh _ d (ZY x.lt) es ep,#[#[_,ZR _ Y,Y,Y],x.at λo e=>ZH _ e]]
end
section
def kR(h:acz)(vs:List ZP)(kis:List (List Int))(i:Nat):Prop:=∃ (p:ZX) (o:Obj) (ai:List ZP) (m:Nat),vs[i]?=U (.ref p)/\h.get? p=U o/\o.cls = .type "tuple" /\ o.data = .seq ai.toArray m/\adT ai (kis.getD i [])/\ai≠[]
theorem kR.keep(x:kR h vs kis i)(k:∀ b o,h.get? b=U o->(∀ n xs,o≠abx "list" xs n)->h'.get? b=U o):kR h' vs kis i:=by obtain⟨p,o,ai,m,h1,h2,h3,r⟩:=x;exact#[p,o,ai,m,h1,k p o h2 (λn xs z=>by rw[z] at h3;exact absurd (Value.type.inj h3) (by decide)),h3,r]
theorem P8(h:adT ai ns)(hn:ai≠[]):∃ i t,ai[0]?=U (.int i t):=by
 cases h with
 | nil=>exact absurd Y hn
 | cons=>exact#[_,_,Y]
theorem G6:∀ (vs:List ZP) (kis:List (List Int)),kis.length=vs.length->(∀ i,i<vs.length->kR h vs kis i)->∃ fs,PySem.W.KatTups h vs fs/\fs.length=vs.length/\∀ v∈fs,∃ i t,v = .int i t
 | [],_,_,_=>#[[],PySem.W.KatTups.nil,Y,λv z=>by simp at z]
 | v::vs,[],e,_=>by simp at e
 | v::vs,k::kis,e,hh=>by
  obtain⟨p,o,ai,m,h1,h2,h3,h4,h5,h6⟩:=hh 0 (by simp);have Gr:v = .ref p:=by simpa using h1
  subst Gr;obtain⟨i,t,hf⟩:=P8 h5 h6;obtain⟨fs,a1,a2,a3⟩:=G6 vs kis (by simpa using e) λi hi=>by obtain⟨p,o,ai,m,h1,r⟩:=hh (i+1) (by simpa using hi);exact#[p,o,ai,m,by simpa using h1,by simpa using r]
  refine#[.int i t::fs,PySem.W.KatTups.cons h2 h3 h4 (by simpa using hf) a1,by simp[a2],λv hv=>?_];rcases ZO.mp hv with z|z
  .exact#[i,t,z]
  .exact a3 v z
def vN(prog:aaE)(w:abb)(h:acz)(vs:List ZP)(kis:List (List Int)):Prop :=
 2<=vs.length->∃ κ,∀ (A:abI) (E:ZP->ZU->Prop) (s:ZU),s.heap=h->(∀ Q:SortKind->ZU->Prop,Q κ s->ZZ (model prog w) A (keyKind' vs.toArray) Q E s) /\
  ∀ i j,i<vs.length->j<vs.length->∀ C:Bool->ZU->Prop,C (bP kis i j) s->ZZ (model prog w) A (keyLt' κ (vs.getD i Value.none) (vs.getD j Value.none)) C E s
theorem P9(ho:s.heap.get? a=U (abx "list" vs.toArray n))(hl:kis.length=vs.length)(bO:vs.length<64)(hk:∀ g:acz,(∀ b o,(∀ n xs,o≠abx "list" xs n)->s.heap.get? b=U o->g.get? b=U o)->vN prog w g vs kis)(fin:∀ h',(∀ b o,b≠a->s.heap.get? b=U o->h'.get? b=U o)->(∃ c,h'.get? a=U (abx "list" (abf ((bH (bP kis) vs.length).toList.map λi=>vs.getD i Value.none)) c))->P (.done (.ret .none)) { s with heap:=h' }) :
 ZZ (model prog w) A (aci.«list.sort» #[[.ref a],[]]) P E s:=by
 rw[aic];refine ZE (abV ho Y (ZE (adV ho Y ?_ (by rw[ZW,acg];walk_at "o") (Z3 _))));obtain⟨e1,oa⟩:∃ e1,(s.heap.update a (aaZ λv=>((List.toArray []):Array ZP))).get? a=U (abx "list" (List.toArray []) e1):=#[_,aeF ho λv=>(List.toArray [])]
 have keep:∀ b o,b≠a->s.heap.get? b=U o->(s.heap.update a (aaZ λv=>((List.toArray []):Array ZP))).get? b=U o:=λb o z e=>(ZV _ _ (aaQ z)).trans e;refine ZE (aeG oa Y ?_);generalize s.heap.update a (aaZ λv=>((List.toArray []):Array ZP))=g at oa keep ⊢;refine ZE (agz ?_ (by show vs.length<=_;rw[acg];walk_at "o"));refine ZE (afr ?_ (Z3 _));refine aaB ?_;show ZZ (model prog w) A _ P E { s with heap:=(g.push (abx "tuple" vs.toArray 0)).push (abx "list" (List.toArray []) 0) };have gP:((g.push (abx "tuple" vs.toArray 0)).push (abx "list" (List.toArray []) 0)).get? a=U (abx "list" (List.toArray []) e1):=ZH _ (ZH _ oa);have nN:∀ b o,b≠a->s.heap.get? b=U o->((g.push (abx "tuple" vs.toArray 0)).push (abx "list" (List.toArray []) 0)).get? b=U o:=λb o z e=>ZH _ (ZH _ (keep b o z e));generalize (g.push (abx "tuple" vs.toArray 0)).push (abx "list" (List.toArray []) 0)=g2 at gP nN ⊢;dsimp only;have neT:∀ b o,s.heap.get? b=U o->(∀ n xs,o≠abx "list" xs n)->b≠a:=λb o e z y=>by rw[y,ho] at e;cases e;exact z _ _ rfl
 have zG:((bH (bP kis) vs.length).toList.map λi=>vs.getD i Value.none).length=vs.length:=by rw[ZJ,(nJ (n:=vs.length) (kJ kis)).1.length_eq,Z8]
 have sz:(abf ((bH (bP kis) vs.length).toList.map λi=>vs.getD i Value.none)).size<=aah+1:=by rw[ZW,zG,acg];walk_at "o"
 have done:P (.done (.ret .none)) { s with heap:=g2.update a (aaZ λv=>abf ((bH (bP kis) vs.length).toList.map λi=>vs.getD i Value.none)) } :=
  fin _ (λb o z e=>(ZV _ _ (aaQ z)).trans (nN b o z e)) #[_,aeF gP λv=>_]
 by_cases h2:vs.toArray.size<2
 .rw[if_pos h2,if_pos h2];refine ZE (ZI ?_);refine ZE (ZI ?_);dsimp only;have self:(Z7 vs.length).map (λi=>vs.getD i Value.none)=vs:=by
   apply adB
   .simp
   .intro i h1 h2;simp[ZG,h2]
  have e0:(arrOf (SortSt.mk' general' (vs.toArray.zip vs.toArray) (List.toArray []) 7 O)).map (·.2)=abf ((bH (bP kis) vs.length).toList.map λi=>vs.getD i Value.none):=by unfold bH;rw[if_pos (by simpa using h2)];apply ahC.mp;rw[show (Z7 vs.length).toArray.toList=Z7 vs.length from Y,self];show ((vs.toArray.zip vs.toArray).map (·.2)).toList=_;simp[ahD]
  rw[e0];refine ZE (aeG gP Y (ZE (adV gP Y ?_ (Z3 _) sz)));simp only[bne_self_eq_false,ZT,if_false];exact ZI done
 .rw[if_neg h2,if_neg h2];have pI:2<=vs.length:=by rw[ZW] at h2;walk_at "o"
  obtain⟨κ,hκ⟩:=hk g2 (λb o z e=>nN b o (neT b o e z) e) pI;refine ZE ((hκ A E { s with heap:=g2 } rfl).1 _ ?_);have ask:(ahE vs.length).kasWp (aid prog w A κ vs) (λp s'=>s' = { s with heap:=g2 }/\p=bH (bP kis) vs.length) { s with heap:=g2 }:=by
   have pv:=zo _ (zm (n:=vs.length) (kJ kis) (by walk_at "o"));refine zj (lt:=bP kis) (n:=vs.length) (Ok:=λs'=>s' = { s with heap:=g2 }) (λi j C s' hi hj e q=>?_) (λp s' e q=>#[e,?_]) _ _ Y pv
   .subst e;exact (hκ _ _ _ Y).2 i j hi hj C (q _ Y)
   .rw[q];unfold bH;rw[if_neg (by walk_at "o")]
  refine ZE (aba (aie (κ:=κ) (ks:=vs) (vs:=vs) (Q:=λst s'=>s' = { s with heap:=g2 }/\arrOf st=(bH (bP kis) vs.length).map (ahF (vs.toArray.zip vs.toArray))/\failedOf st=O)
   Y pI bO (λp st s' b1 b2 b3 b4=>#[b4.1,by rw[b2,b4.2],b3]) ask) ?_ λv v z=>z)
  rintro ⟨⟨⟩,st⟩ s' ⟨rfl,har,hf⟩;rw[ahG Y har];refine ZE (aeG gP Y (ZE (adV gP Y ?_ (Z3 _) sz)));rw[hf];simp only[bne_self_eq_false,ZT,if_false];exact ZI done
theorem G7(hl:kis.length=vs.length)(bO:vs.length<64)(hk:∀ g:acz,(∀ b o,(∀ n xs,o≠abx "list" xs n)->s.heap.get? b=U o->g.get? b=U o)->vN prog w g vs kis)(nO:∀ (A':abI) (Q':List ZP->ZU->Prop) (E':ZP->ZU->Prop),A'.handled=A.handled->(∀ h' tk,(∀ b o,s.heap.get? b=U o->h'.get? b=U o)->s.heap.objs.size<=h'.objs.size->Q' vs { s with heap:=h',toks:=tk })->ZZ (model prog w) A' (collect (.ref r)) Q' E' s)(q:∀ l h' tk,s.heap.objs.size<=l->(∀ b o,s.heap.get? b=U o->h'.get? b=U o)->(∃ c,h'.get? l=U (abx "list" (abf ((bH (bP kis) vs.length).toList.map λi=>vs.getD i Value.none)) c))->Q (.ref l) { s with heap:=h',toks:=tk }) :
 ZZ (model prog w) A (call (.builtin "sorted") [.ref r]) Q E s:=by
 refine adw kind_sorted plain_sorted entry_sorted (args_sorted1 _) ?_;unfold aci.«sorted»;refine ZE (m:=checkCount "sorted" 1 1 _) (ZI (ZE (nO _ _ _ Y λh1 tk keep hsz=>?_)));refine ZE (afr ?_ (by rw[acg];walk_at "o"));have oL:(h1.push (abx "list" vs.toArray 0)).get? h1.objs.size=U (abx "list" vs.toArray 0):=ZR _ rfl;have iy:∀ b o,s.heap.get? b=U o->b≠h1.objs.size/\(h1.push (abx "list" vs.toArray 0)).get? b=U o:=λb o e=>by have:=ZM e;exact#[by walk_at "o",ZH _ (keep b o e)]
 show ZZ _ A.in1 (holding [.ref h1.objs.size] (call (.builtin "list.sort") [.ref h1.objs.size]) >>= _) _ _ { s with heap:=h1.push (abx "list" vs.toArray 0),toks:=tk };generalize h1.push (abx "list" vs.toArray 0)=h2 at oL iy ⊢;generalize h1.objs.size=l at oL iy hsz ⊢;refine ZE (aaB (aa3 slot_list_sort #[_,oL,Y] aif ?body (args_list_sort _)))
 case body =>
  refine P9 (s:={ s with heap:=h2,toks:=tk }) oL hl bO (λg z=>hk g λb o n e=>z b o n (iy b o e).2) λh' k c=>#[_,Y,ZI #[_,Y,q l h' tk hsz (λb o e=>k b o (iy b o e).1 (iy b o e).2) c]]
theorem Qa(hl:kis.length=vs.length)(hk:∀ i,i<vs.length->kR h vs kis i):vN prog w h vs kis:=λh2=>by
 obtain⟨fs,ht,lf,hi⟩:=G6 vs kis hl hk;refine#[tuples' true,λA E s e=>?_];subst e;refine#[λQ q=>PySem.W.kat_kind (T:=.type "int") ht (by walk_at "o") (λv hv=>?_) (by decide) q,λi j hi hj C q=>?_]
 .obtain⟨i,t,rfl⟩:=hi v hv;exact PySem.W.Looks.now
 .obtain⟨p1,o1,i1,m1,a1,b1,y,c1,d1,y⟩:=hk i hi;obtain⟨p2,o2,i2,m2,a2,b2,y,c2,d2,y⟩:=hk j hj;rw[ZG,ZG,a1,a2];have z1:=d1.length;have z2:=d2.length;exact PySem.W.kat_lt b1 c1 b2 c2 (by simpa using Pg (b:=true) (i:=0) d1 d2 (by simp[z1,z2]) q)
theorem zH(hl:kis.length=vs.length)(bO:vs.length<64)(hk:∀ i,i<vs.length->kR s.heap vs kis i)(nO:∀ (A':abI) (Q':List ZP->ZU->Prop) (E':ZP->ZU->Prop),A'.handled=A.handled->(∀ h' tk,(∀ b o,s.heap.get? b=U o->h'.get? b=U o)->s.heap.objs.size<=h'.objs.size->Q' vs { s with heap:=h',toks:=tk })->ZZ (model prog w) A' (collect (.ref r)) Q' E' s)(q:∀ l h' tk,s.heap.objs.size<=l->(∀ b o,s.heap.get? b=U o->h'.get? b=U o)->(∃ c,h'.get? l=U (abx "list" (abf ((bH (bP kis) vs.length).toList.map λi=>vs.getD i Value.none)) c))->Q (.ref l) { s with heap:=h',toks:=tk }) :
 ZZ (model prog w) A (call (.builtin "sorted") [.ref r]) Q E s :=
 G7 hl bO (λg z=>Qa hl λi hi=>(hk i hi).keep λb o e n=>z b o n e) nO q
theorem zI(K:agy prog w T r d n P OK)(hh:A.handled=O)(ak:OK s.heap)(hn:n<=aah)(q:∀ h' tk acc,(∀ b o,s.heap.get? b=U o->h'.get? b=U o)->s.heap.objs.size<=h'.objs.size->ItemsOf P acc n->Q acc.toList { s with heap:=h',toks:=tk }):ZZ (model prog w) A (collect (.ref r)) Q E s:=by
 have lt:=K.there _ ak;unfold collect;refine ZE (agA (aau entry_proto_collect' ?_));rw[aai PySem.F.plain_proto_collect _];show ZZ _ A.in1 (aiB [] >>= λl=>again (.builtin "list.__iadd__" #[[l,.ref r],[]])) _ _ s;refine ZE (aaU (ZI #[Code.quiet_builtin _ (by decide +kernel),aau entry_list_iadd' ?_]));rw[aai PySem.F.plain_list_iadd _];have oS:(s.heap.push { cls:=.type "list",data:=.seq ([]:List ZP).toArray }).get? s.heap.objs.size=U { cls:=.type "list",data:=.seq (List.toArray []) 0 }:=ZR _ rfl;show ZZ _ A.in1 (ack (.ref s.heap.objs.size) (.ref r) (.ref s.heap.objs.size)) _ _ { s with heap:=s.heap.push { cls:=.type "list",data:=.seq ([]:List ZP).toArray } };refine PySem.W.kdl_extend (R:=λr s'=>match r with
  | .ok (.ret v)=>ZZ (model prog w) A (match v with|.ref a=>(do match (<- load a).data with|.seq xs _=>pure xs.toList|_=>unsupported "internal:collect")|_=>unsupported "internal:collect") Q E s'
  | .ok _=>False
  | .error e=>E e s') (s:={ s with heap:=s.heap.push { cls:=.type "list",data:=.seq ([]:List ZP).toArray } }) K hh (K.keep _ _ ak λb y o e=>ZH _ e) s.heap.objs.size (aaX lt.1) (aaX lt.2) (.ref s.heap.objs.size) 0 oS (λh' tk acc c hk hS fY=>?_) hn
 show ZZ _ A (load s.heap.objs.size >>= _) _ _ _;refine ZE (wpAny_load hS (ZI ?_));exact q h' tk acc (λb o e=>hk b o (ZY (ZM e)) (ZH _ e)) (adK (ZM hS)) fY
end
def iz(H:Hp)(xs:List V)(kvs:List (List Key × V)):Prop:=ax (λx (kv:List Key × V)=>∃ a,x = .ref a/\H a=U (.tup (kv.1.map kV))) xs kvs
theorem KT.keys(r:KT H kvs xs):xs.map (·.1)=kvs.map (·.1):=by
 induction r with
 | nil=>rfl
 | cons h t ih=>rw[Z0,Z0,ih,h.1]
theorem KT.G8(r:KT H kvs xs):iz H ((xs.map (·.2.1)).map V.ref) kvs:=by
 induction r with
 | nil=>exact trivial
 | cons h t ih=>exact#[#[_,Y,h.2.1],ih]
theorem iz.G9{K:ZF}{H:Hp}:∀ {ys:List V} {kvs:List (List Key × V)} {kis:List (List Int)},iz H ys kvs->kvs.map (·.1)=kis.map (λk=>k.map aew)->(∀ k∈kis,k≠[])->fk K H ys kis
 | [],[],[],_,_,_=>trivial
 | [],[],_::_,_,e,_=>by simp at e
 | _::_,kv::kvs,[],_,e,_=>by simp at e
 | y::ys,kv::kvs,k::kis,h,e,hn=>by rw[Z0,Z0] at e;injection e with e1 e2;obtain⟨⟨a,rfl,ha⟩,t⟩:=h;refine#[#[a,Y,?_,hn k (.head _)],iz.G9 t e2 λk hk=>hn k (.tail _ hk)];rw[e1,abg] at ha;exact .inl (.inl ha)
 | [],_::_,_,h,_,_=>h.elim
 | _::_,[],_,h,_,_=>h.elim
theorem vO:∀ (as:List ZX),Vals (as.map V.ref) (as.map Z5)
 | []=>.nil
 | _::as=>.cons rfl (vO as)
section
theorem Ha(I:Inv X pins J H s)(e:H p=U (.dT kvs)):∃ (as:List ZX) (es:Array adb) (ep:Nat),iz H (as.map V.ref) kvs/\(p == aby)=false/\dD s.heap p es ep/\es.size=as.length/\(∀ acc:Array ZP,ItemsOf (λi v=>∃ e,es[i]?=U e/\v=e.key) acc es.size->acc.toList=as.map Z5)/\as.length<=aah:=by
 obtain⟨z,hd,xs,rel,o,es,ep,ho,hc,hdt,he,his,hn⟩:=rH I.ak e;have hl:xs.length=kvs.length:=(Paired.length rel).symm;have hs:es.size=xs.length:=acJ he;refine#[xs.map (·.2.1),es,ep,KT.G8 rel,hd,#[o,ho,hc,hdt],by rw[ZJ];exact hs,λacc ha=>?_,by rw[ZJ,hl];exact z];refine acL λi=>?_;rw[Z1,Z1];have la:acc.toList.length=es.size:=by rw[acf];exact ha.1
 by_cases hi:i<es.size
 .obtain⟨v,hv⟩:∃ v,acc.toList[i]?=U v:=#[_,ZK (by lia)]
  obtain⟨en,h1,h2⟩:=ha.2 i v (by rw[<- acx];exact hv);rw[entry_at he i] at h1;cases hx:xs[i]? with
  | none=>rw[hx] at h1;cases h1
  | some y=>rw[hx] at h1;cases h1;rw[hv,h2];rfl
 .rw[abB (by lia),abB (by lia)];rfl
theorem Hb(hc:X.calm=true):eT X (.type "list") (λxs H Q=>∃ p kvs,xs=[.ref p]/\H p=U (.dT kvs)/\∀ l ys,H l=O->iz H ys kvs->Q (.ref l) (upd H l (.lst ys))):=by intro pins s J H xs us Q I r h;obtain⟨p,kvs,rfl,e,q⟩:=h;obtain⟨u,rfl,rx⟩:=vals1 r;cases rx;obtain⟨as,es,ep,hk,lo,ra,hs,fY,hz⟩:=Ha I e;refine PySem.W.kdl_call (G5 lo) (I.ok.hd hc) ra (by rw[hs];exact hz) λh' tk acc c keep hD ha=>?_;have ea:=fY acc ha;exact#[.ref s.heap.objs.size,_,I.laid (t':=tk) keep (ZS _) (show bE X.prog X.w _ h' _ (.lst (as.map V.ref)) from #[by rw[ZJ];exact hz,as.map Z5,c,vO as,by rw[<- ea,agv];exact hD]),Y,q _ _ (I.ak.fresh (ZS _)) hk]
theorem zJ(I:Inv X pins J H s)(h:fk X.K H ks kis)(r:Vals ks us):∀ i,i<us.length->kR s.heap us kis i:=λi hi=>by
 have hk:i<ks.length:=by rw[r.length];exact hi
 have Qb:i<kis.length:=by rw[<- h.len];exact hk
 obtain⟨p,ep,hp⟩:=h.get (ZK hk);obtain⟨u,eu,ru⟩:=r.get (ZK hk);rw[ep] at ru;cases ru;obtain⟨ai,rv,⟨o,ho,hc,m,hd⟩,y⟩:=I.tuple hp;refine#[p,o,ai,m,eu,ho,hc,hd,intsAre_of rv,λz=>?_];have nn:kis.getD i []≠[]:=by
  have all:∀ {ks:List V} {ns:List (List Int)},fk X.K H ks ns->∀ n∈ns,n≠[]:=by
   intro ks
   induction ks with
   | nil=>intro ns h n hn;cases ns with
    | nil=>simp at hn
    | cons _ _=>exact h.elim
   | cons k ks ih=>intro ns h n hn;cases ns with
    | nil=>exact h.elim
    | cons m ns =>
     obtain⟨⟨y,y,y,bM⟩,t⟩:=h;rcases ZO.mp hn with z|z
     .rw[z];exact bM
     .exact ih t n z
  rw[ZG,ZK Qb];exact all h _ (abj _)
 have:=rv.length;rw[ZJ,z] at this;exact nn (ab7.mp this)
theorem rK(I:Inv X pins J H s)(r:Vals ks us)(hz:ks.length<=aah)(hl:s.heap.objs.size<=l)(keep:∀ b o,s.heap.get? b=U o->h'.get? b=U o)(hD:∃ c,h'.get? l=U (abx "list" (abf ((bH (bP kis) us.length).toList.map λi=>us.getD i Value.none)) c))(q:∀ l,H l=O->Q (.ref l) (upd H l (.lst (b7 kis .non ks)))):EP X pins J Q (.ref l) { s with heap:=h',toks:=tk }:=by obtain⟨c,hD⟩:=hD;have sv:=Ph (kis:=kis) r;rw[r.length] at sv;exact#[.ref l,_,I.laid (t':=tk) keep hl (show bE X.prog X.w _ h' _ (.lst (b7 kis .non ks)) from #[by rw[vL];exact hz,_,c,sv,hD]),Y,q l (I.ak.fresh hl)]
theorem Qc:eT X (.builtin "sorted") (λxs H Q=>∃ (a:ZX) (ks:List V) (kis:List (List Int)),xs=[.ref a]/\ah X.K H a ks/\fk X.K H ks kis/\ks.length<64/\∀ l,H l=O->Q (.ref l) (upd H l (.lst (b7 kis .non ks)))):=by
 intro pins s J H xs us Q I r h;obtain⟨a,ks,kis,rfl,hS,hK,bO,q⟩:=h;obtain⟨u,rfl,ru⟩:=vals1 r;cases ru;obtain⟨ai,rv,hp,hz⟩:=I.list hS;have hl:ai.length=ks.length:=rv.length.symm;refine zH (kis:=kis) (by rw[<- hK.len,hl]) (by lia) (zJ I hK rv) (λA' Q' E' y hq=>collect_list hp.isList (hq _ s.toks (λb o e=>?_) ?_) (by rw[hl];exact hz)) λl h' tk h1 h2 h3=>rK I rv hz h1 h2 h3 q
 .have:=ZM e;exact (ZV _ _ (by walk_at "o")).trans (ZH _ e)
 .rw[ahH,aiv];exact adG _
theorem Qd(hc:X.calm=true):eT X (.builtin "sorted") (λxs H Q=>∃ (p:ZX) (kvs:List (List Key × V)) (kis:List (List Int)),xs=[.ref p]/\H p=U (.dT kvs)/\kvs.map (·.1)=kis.map (λk=>k.map aew)/\(∀ k∈kis,k≠[])/\kvs.length<64 /\
 ∀ l ys,H l=O->iz H ys kvs->Q (.ref l) (upd H l (.lst (b7 kis .non ys)))):=by
 intro pins s J H xs us Q I r h;obtain⟨p,kvs,kis,rfl,e,ek,bM,bO,q⟩:=h;obtain⟨u,rfl,rx⟩:=vals1 r;cases rx;obtain⟨as,es,ep,hk,lo,ra,hs,fY,hz⟩:=Ha I e;have la:as.length=kvs.length:=by have:=hk.len;rwa [ZJ] at this
 have lk:kis.length=kvs.length:=by have:=congrArg List.length ek;simpa using this.symm
 have hK:fk X.K H (as.map V.ref) kis:=hk.G9 ek bM;have rv:=vO as;refine zH (kis:=kis) (vs:=as.map Z5) (by rw[ZJ];lia) (by rw[ZJ];lia) (zJ I hK rv) (λA' Q' E' hA hq=>zI (G5 lo) (hA.trans (I.ok.hd hc)) ra (by rw[hs];exact hz) λh' tk acc k1 k2 ha=>?_) λl h' tk h1 h2 h3=>rK I rv (by rw[ZJ];exact hz) h1 h2 h3 λl hl=>q l _ hl hk;rw[fY acc ha];exact hq h' tk k1 k2
end
theorem Qe(z:kvs.length<=aah)(lo:(a == aby)=false)(rel:KT H' kvs xs)(dd:h'.DictOfH (aed (cz P w)) a xs):bE P w H' h' a (.dT kvs):=by obtain⟨o,es,ep,h1,h2,h3,h4,y,h5⟩:=dd;exact#[z,lo,xs,rel,o,es,ep,h1,h2,h3,h4,h5]
section
theorem Qf(e:H p=U (.dT kvs))(r:KT H rL xs):KT (upd H p ob) rL xs :=
 KT.keeps r λb ys z=>by rw[aF (λy=>by rw[y,e] at z;cases z)];exact z
theorem Qg(hu:A.units+1<adQ)(I:Inv X pins J H s)(e:H p=U (.dT kvs))(eb:H b=U (.tup (k.map kV)))(hm:more=[] ∨ ∃ x,more=[x])(h1:∀ v,bN kvs k=U v->∀ w' s',Inv X pins J (upd H p (.dT (kO kvs k))) s'->RelV v w'->Q w' s')(h0:bN kvs k=O->∃ x,more=[x]/\∀ s',Inv X pins J H s'->Q x s') :
 ZZ (model X.prog X.w) A (call (.builtin "dict.pop") (.ref p :: .ref b::more)) Q E s:=by
 obtain⟨z,lo,xs,rel,dd⟩:=rH I.ak e;have hl:xs.length=kvs.length:=(Paired.length rel).symm;refine P6 (ab0 hu) (pM I.ak eb) lo dd (by rw[hl];exact z) hm (λy hy h' tk nK hs=>?_) λhn=>?_
 .have rv:=rel.val k;rw[hy] at rv;cases hv:bN kvs k with
  | none=>rw[hv] at rv;exact (show False from rv).elim
  | some v =>
   rw[hv] at rv;have he:∃ q,h'.get? p=U q:=let ⟨q,_,_,hq,_⟩:=nK;#[q,hq];exact h1 v hv _ _ (zA (t':=tk) I (by rw[e];exact acG) hs he (Qe (ZQ (PK kvs k) z) lo (Qf e (KT.out rel k)) nK)) rv
 .have rv:=rel.val k;rw[hn] at rv;cases hv:bN kvs k with
  | some v=>rw[hv] at rv;exact (show False from rv).elim
  | none =>
   obtain⟨x,ex,q⟩:=h0 hv;exact#[x,ex,λtk=>q _ (I.tok tk)]
end
def Hc(td ty:TE):TE:=λJ H Q=>td J H λx H1=>∃ a,x = .ref a/\GU H1 a/\ty J H1 λy H2=>∃ b kvs k v,y = .ref b/\H2 a=U (.dT kvs)/\H2 b=U (.tup (k.map kV))/\bN kvs k=U v/\Q v (upd H2 a (.dT (kO kvs k)))
section
theorem Hd(hu:X.A.units+1<adQ)(ho:PE X o td)(he:PE X e ty)(m:M1 X o "pop" apos e cI):PE X (.Call (.Attribute o "pop" apos) [e] [] cI) (Hc td ty):=by
 intro pins s J H Q I h;refine wpAny_Call_method m.base m.few m.line PySem.F.plainAttrs_dict af7 PySem.F.type_dict_pop (az (ho pins s J H _ I h) λu s1 zq=>?_);obtain⟨x,H1,I1,rx,a,ex,d,q1⟩:=zq;subst ex;obtain rfl:u=Z5 a:=rx;obtain⟨t1,t2,z⟩:=PY I1 d;refine#[t1,t2,?_];rw[m.trees];refine ad0 Y (aer (abY (az (he pins s1 J H1 _ I1 q1) λiv s2 ⟨y,H2,I2,ry,b,kvs,k,v,ey,ea,eb,l,q2⟩=>acb ?_)));subst ey;obtain rfl:iv=Z5 b:=ry;exact Qg hu I2 ea eb (.inl rfl) (λv' l' w' s3 I3 i3=>#[v',_,I3,i3,by rw[l] at l';cases l';exact q2]) λl'=>by rw[l] at l';cases l'
theorem Qh:eT X (.builtin "len") (λxs H Q=>∃ p kvs,xs=[.ref p]/\H p=U (.dT kvs)/\Q (.int kvs.length) H):=by
 intro pins s J H xs us Q I r h;obtain⟨p,kvs,rfl,e,q⟩:=h;obtain⟨u,rfl,rx⟩:=vals1 r;cases rx;obtain⟨z,lo,xs,rel,o,es,ep,ho,hc,hdt,he,his,hn⟩:=rH I.ak e;have hs:es.size=kvs.length:=(acJ he).trans (Paired.length rel).symm;have T:s.TypeIs (.ref p) "dict" := #[o,ho,hc.1];have g:MeetsIn X.prog X.w (aci.«dict.__len__» #[[.ref p],[]]) (λy R s=>s.heap.get? p=U o/\R (.ok (.ret (.int kvs.length s.toks))) { s with toks:=s.toks+1 }):=.of_wp λA R s ⟨ho,h⟩=>by show ZZ _ _ (dictSize p >>= _) _ _ s;refine ZE (ZE (aa5 ho hdt (ZI ?_)));show ZZ _ _ (aim p >>= _) _ _ s;refine ZE (wpAny_pendingCount_other lo (wpAny_ret_mkInt ?_));rw[aiR,hs];exact h
 refine adw kind_len plain_len entry_len (args_len1 _) ?_;refine ZE (m:=oneArg "len" _) (ZI (ZE (m:=callSpecial? (.ref p) (aa7 "__len__")) (abk (name:=aa7 "__len__") T af8 (call_meetsIn af8 T PySem.F.entry_dict_len (PySem.F.args_dict_len_1 _) g #[ho,?_]))));refine ZE (aaB (ZI (ZE (acj ?_))));rw[acg] at z;show ZZ _ _ (if ((kvs.length:Nat):Int) ≥ 2 ^ 63 then _ else _) _ _ _;rw[if_neg (by lia)];exact ZE (wpAny_mkInt (ZI #[_,Y,.int kvs.length,H,I.tok _,#[_,Y],q]))
end
section
variable{prog:aaE}{w:abb}{K:Type}[DecidableEq K]{knd:KeyKind prog w K}{A:abI}{E:ZP->ZU->Prop}{s:ZU}{o d:ZX}{es:Array adb}{ep:Nat}
def vP(h:acz)(es:Array adb):Prop:=∀ e∈es,(es.filter (·.hash == e.hash)).size<=1/\∃ a ob,e.key = .ref a/\h.get? a=U ob/\ob.cls = .type "tuple"
theorem Qi(x:dD s.heap o es ep)(hk:vP s.heap es)(q:Q es s):ZZ (model prog w) A (aet nm o) Q E s:=by
 obtain⟨ob,ho,y,hd⟩:=x;unfold aet;refine ZE (aa5 ho hd ?_);refine ZE ?_;rw[<- aeQ];refine adC _ (λrest y s'=>s'=s/\∀ e∈rest,e∈es) _ ?_ ?_ _ _ #[Y,λe he=>ado.mp he]
 .rintro e rest b s' ⟨rfl,bq⟩;obtain⟨h1,a,oa,ea,ha,hc⟩:=hk e (bq e (.head _));have T:s'.TypeIs e.key "tuple" := by rw[ea];exact#[oa,ha,hc]
  have nx:¬ 1<(es.filter (·.hash == e.hash)).size:=by lia
  refine ZE ?_;rw[ea] at T ⊢;unfold aiZ;refine ZE (acI (name:=aa7 "__eq__") T (show agm (.type "tuple") (aa7 "__eq__")=pure (U (.builtin "tuple.__eq__")) from by rw[adW,acy];kernel_rfl) (ZI ?_));have ne:(U (aiE "tuple.__eq__") == U (aiE "object.__eq__"))=false:=by decide +kernel
  rw[ne,if_pos (show (!false)=true from Y),if_neg nx];exact ZI #[Y,λe he=>bq e (.tail _ he)]
 .rintro b s' ⟨rfl,y⟩;exact ZI q
theorem Qj(lo:(o == aby)=false)(x:dD s.heap o es ep)(hk:vP s.heap es)(hz:es.size<=aah)(q:∀ h' hV,dD h' s.heap.objs.size es hV->Heap.SameBut s.heap.objs.size (s.heap.push { cls:=.type "dict",data:=.dict (List.toArray []) }) h'->Q (.ref s.heap.objs.size) { s with heap:=h' }):ZZ (model prog w) A (call (.type "dict") [.ref o]) Q E s:=by
 have lt:=x.lt;refine callType_codes (Q₁:=λy s₁=>y = .ref s.heap.objs.size/\s₁ = { s with heap:=s.heap.push { cls:=.type "dict",data:=.dict (List.toArray []) } }) PySem.F.kt_called_dict (PySem.F.kt_typeCall_dict_1 _) PySem.F.entry_dict_init (kt_code_dict_new _ #[Y,Y]) ?_;rintro y s₁ ⟨rfl,rfl⟩;have xn:dD (s.heap.push { cls:=.type "dict",data:=.dict (List.toArray []) }) s.heap.objs.size (List.toArray []) 0:=#[_,ZR _ Y,#[Y,Y,Y],Y]
 have xo:dD (s.heap.push { cls:=.type "dict",data:=.dict (List.toArray []) }) o es ep:=x.at λv e=>ZH _ e;have cE:vP (s.heap.push { cls:=.type "dict",data:=.dict (List.toArray []) }) es:=λe he=>by obtain⟨h1,a,oa,ea,ha,hc⟩:=hk e he;exact#[h1,a,oa,ea,ZH _ ha,hc]
 have Tn:Shared.TypeIs { s with heap:=s.heap.push { cls:=.type "dict",data:=.dict (List.toArray []) } } (.ref s.heap.objs.size) "dict" := dD.ty (s:={ s with heap:=s.heap.push { cls:=.type "dict",data:=.dict (List.toArray []) } }) xn;have To:Shared.TypeIs { s with heap:=s.heap.push { cls:=.type "dict",data:=.dict (List.toArray []) } } (.ref o) "dict" := dD.ty (s:={ s with heap:=s.heap.push { cls:=.type "dict",data:=.dict (List.toArray []) } }) xo;have Qk:¬ s.heap.objs.size=o:=by walk_at "o"
 refine#[Tn,PySem.F.args_dict_init_2 _ _,?_];unfold aci.«dict.__init__»;refine ZE ?_;unfold aiw;refine ZE (aei Tn ?_);refine ZI (a:=(s.heap.objs.size,[Z5 o])) ?_;show ZZ _ _ (afs "dict.__init__" s.heap.objs.size (.ref o) [] .none) _ _ _;unfold afs;refine ZE (af9 To ?_);rw[if_neg (by decide)];refine ZE ?_;unfold ai5;refine ZE ?_;unfold ain;refine ZE (acs To isSubtype_dict_dict ?_);simp only[ab9,ZT,if_false];refine ZE (acI To PySem.F.slot_dict_iter.lookup (ZI ?_));simp only[beq_self_eq_true,if_true];refine ZE (ZI ?_);obtain⟨on,gQ,hcn,hdn⟩:=id xn;obtain⟨oo,hoo,hco,zK⟩:=id xo;unfold aiJ;rw[if_neg (by simpa using Qk)];unfold aej;rw[if_neg (by rw[lo];exact aag)];refine ZE (ZI (ZE (aa5 hoo zK ?_)));dsimp only;by_cases hemp:es.isEmpty=true
 .have e0:es = (List.toArray []):=Array.isEmpty_iff.mp hemp;subst e0;rw[if_neg (by simp)];refine ZE (aeE hoo zK (ZE (aa5 hoo zK (ZE ?_))));rw[Std.Legacy.Range.forIn_eq_forIn_range'];refine ZI (ZI ?_);exact ZE (ZI (ZI #[Y,q _ _ xn (Heap.SameBut.refl _ _)]))
 .have nf:(decide (es.size<=8) && es.all λe=>(keyPart e.key).isSome)=false:=by
   rw[aga];refine .inr (adj.mpr λz=>?_);have hs:0<es.size:=by
    rcases ag0 es.size with h|h
    .exact absurd (by simpa using h) hemp
    .exact h
   have z0:=(Array.all_eq_true.mp z) 0 hs;obtain⟨v,a,v,ea,v⟩:=hk es[0] (Array.getElem_mem hs);rw[ea] at z0;cases z0
  rw[nf,if_pos (show (!false)=true from Y)];refine ZE (aa5 gQ hdn ?_);rw[if_pos (show ((List.toArray []):Array adb).isEmpty=true from Y)];refine ZE (Qi xo cE ?_);rw[if_pos (by simpa using hemp)];refine ZE (wpAny_updateDictKeysTo gQ hdn (ZI ?_) (ad8 hz));exact ZE (ZI (ZI #[Y,q _ _ #[_,aam _ gQ (agN (adq hdn _)),hcn.mapDictKeys _,adq hdn _] (aaM ..)]))
end
theorem He{α:Type}{f:α->Int}:∀ {l:List α},(l.map f).Nodup->∀ c,(l.filter λx=>f x == c).length<=1
 | [],_,_=>by simp
 | x::l,h,c=>by
  rw[Z0,aaC] at h;have ih:=He h.2 c;rw[aaK];split
  .rename_i hx;have e:(l.filter λx=>f x == c)=[]:=by
    rw[afM];intro y hy Ql;have e1:f x=c:=by simpa using hx
    have e2:f y=c:=by simpa using Ql
    exact h.1 (by rw[e1,<- e2];exact ZN.mpr #[y,hy,Y])
   rw[e];exact ZS _
  .exact ih
theorem Qm:eT X (.type "dict") (λxs H Q=>∃ p kvs,xs=[.ref p]/\H p=U (.dT kvs)/\(kvs.map λkv=>adg (cz X.prog X.w) kv.1).Nodup/\∀ l,H l=O->Q (.ref l) (upd H l (.dT kvs))):=by
 intro pins s J H xs us Q I r h;obtain⟨p,kvs,rfl,e,hh,q⟩:=h;obtain⟨u,rfl,rx⟩:=vals1 r;cases rx;obtain⟨z,lo,xs,rel,o,es,ep,ho,hc,hdt,he,his,hn⟩:=rH I.ak e;have hl:xs.length=kvs.length:=(Paired.length rel).symm;have hs:es.size=xs.length:=acJ he;have ks:xs.map (·.1)=kvs.map (·.1):=KT.keys rel;have Qn:(es.toList.map (·.hash)).Nodup:=by
  have e1:es.toList.map (·.hash)=kvs.map λkv=>adg (cz X.prog X.w) kv.1:=by rw[he,abg,show (kvs.map λkv=>adg (cz X.prog X.w) kv.1)=(kvs.map (·.1)).map (adg (cz X.prog X.w)) by rw[abg];rfl,<- ks,abg];rfl
  rw[e1];exact hh
 have hk:vP s.heap es:=λen fN=>by
  refine#[?_,?_]
  .have:=He (f:=λx:adb=>x.hash) Qn en.hash
   rwa [<- Array.toList_filter,acf] at this
  .have:en∈xs.map (agl (aed (cz X.prog X.w))):=he ▸ ado.mpr fN;obtain⟨x,hx,rfl⟩:=ZN.mp this;obtain⟨ob,v,v,h1,h2,v⟩:=his x hx;exact#[x.2.1,ob,Y,h1,h2]
 refine Qj lo #[o,ho,hc,hdt] hk (by rw[hs,hl];exact z) λh' hV ra sb=>?_;obtain⟨on,gQ,hcn,hdn⟩:=ra;have keep:∀ b q,s.heap.get? b=U q->h'.get? b=U q:=λb q hq=>(sb.2 b (ZY (ZM hq))).trans (ZH _ hq);have fr:=I.ak.fresh (ZS s.heap.objs.size);refine#[.ref s.heap.objs.size,_,I.laid (a:=s.heap.objs.size) (o:=.dT kvs) (t':=s.toks) keep (ZS _) #[z,beq_eq_false_iff_ne.mpr (aaQ (ZY I.big)),xs,KT.keeps rel λb ys y=>?_,on,es,hV,gQ,hcn,hdn,he,hn],Y,q _ fr];rw[aF (λz=>by rw[z,fr] at y;cases y)];exact y
section
end
theorem aZ{c:Prop}[Decidable c]{a b:Prop}(h:c->a)(h':¬ c->b):if c then a else b:=by
 by_cases z:c
 .rw[if_pos z];exact h z
 .rw[if_neg z];exact h' z
theorem GO(h:acz)(hb:aby<h.objs.size):bE P w H (h.push { cls:=.type "dict",data:=.dict (List.toArray []) }) h.objs.size (.dK []) :=
 #[Z3 _,beq_eq_false_iff_ne.mpr (aaQ (ZY hb)),[],.nil,Heap.DictOf.new h]
section
theorem Inv.Qo(I:Inv X pins J H s):aby<s.heap.objs.size:=by have h:aak<s.heap.objs.size:=(I.mod.glob.keeps I.bk).lt;exact aht (by decide) h
def Hf:TE:=λy H Q=>∀ p,H p=O->Q (.ref p) (upd H p (.dT []))
theorem Hg:PE X (.Dict [] [] pos) Hf:=λpins s J H Q I h=>wpAny_Dict_empty
 #[.ref s.heap.objs.size,_,I.laid (a:=s.heap.objs.size) (o:=.dT []) (t':=s.toks) (λy y z=>ZH _ z) (ZS _)
  #[Z3 _,beq_eq_false_iff_ne.mpr (aaQ (ZY (Inv.Qo I))),[],.nil,_,(List.toArray []),0,ZR _ Y,#[Y,Y,Y],Y,Y,ac3],Y,h _ (I.ak.fresh (ZS _))]
theorem Hh(h:∃ t,X.mg x=U (.int n t))(hg:Gl X x)(hd:(x == ("__debug__" : Str))=false:=by decide):PE X (.Name x pos) (tC (.int n)):=by obtain⟨t,ht⟩:=h;exact Mo (v:=.int n) hg ht #[t,Y] hd
end
section
end
noncomputable def ph(ks:List P2)(r:Int)(i:Nat):Bool:=decide ((aG ks i).1<=r) && decide (r<=(aG ks (i+1)).1)
theorem Hi(hu:A.units+1<adQ)(ho:PE X o td)(hi:PE X i ty)(hs:zB i)(eA:X.A=A:=by rfl):PE X (.Subscript o i pos) (zC td ty):=by subst eA;exact nM hu ho hi hs
abbrev Tb:=List (P2 × S2)
noncomputable def aU(i j:Int):List Key:=[.inl i,.inl j]
theorem vQ{a b:P2}(h:aU a.1 a.2=aU b.1 b.2):a=b:=by unfold aU at h;injection h with h1 h2;injection h2 with h2 _;exact Prod.ext (Sum.inl.inj h1) (Sum.inl.inj h2)
noncomputable def fo(tb:Tb)(s:P2):Option S2:=(tb.find? λr=>decide (r.1=s)).map (·.2)
noncomputable def dR(tb:Tb)(s:P2)(w:S2):Tb:=if (tb.any λr=>decide (r.1=s))=true then tb.map (λr=>if r.1=s then (r.1,w) else r) else tb++[(s,w)]
noncomputable def nP(tb:Tb)(s:P2):Tb:=tb.filter λr=>decide (r.1≠s)
def aW(H:Hp):List (List Key × V)->Tb->Prop
 | [],[]=>True
 | kv::kvs,r::tb=>(kv.1=aU r.1.1 r.1.2/\aP H kv.2 r.2.1 r.2.2)/\aW H kvs tb
 | _,_=>False
section
theorem aW.len:∀ {kvs:List (List Key × V)} {tb:Tb},aW H kvs tb->kvs.length=tb.length
 | [],[],_=>rfl
 | _::kvs,_::tb,h=>congrArg (· + 1) (aW.len (kvs:=kvs) (tb:=tb) h.2)
 | [],_::_,h=>h.elim
 | _::_,[],h=>h.elim
theorem aW.imp(f:∀ v a b,aP H v a b->aP H' v a b):∀ {kvs:List (List Key × V)} {tb:Tb},aW H kvs tb->aW H' kvs tb
 | [],[],_=>trivial
 | _::kvs,_::tb,h=>#[#[h.1.1,f _ _ _ h.1.2],aW.imp f (kvs:=kvs) (tb:=tb) h.2]
 | [],_::_,h=>h.elim
 | _::_,[],h=>h.elim
theorem aW.app:∀ {kvs rL:List (List Key × V)} {tb cj:Tb},aW H kvs tb->aW H rL cj->aW H (kvs++rL) (tb++cj)
 | [],_,[],_,_,h=>h
 | _::kvs,rL,_::tb,cj,h,h'=>#[h.1,aW.app (kvs:=kvs) (tb:=tb) h.2 h']
 | [],_,_::_,_,h,_=>h.elim
 | _::_,_,[],_,h,_=>h.elim
theorem aW.keys:∀ {kvs:List (List Key × V)} {tb:Tb},aW H kvs tb->kvs.map (·.1)=tb.map λr=>aU r.1.1 r.1.2
 | [],[],_=>rfl
 | kv::kvs,r::tb,h=>by rw[Z0,Z0,h.1.1,aW.keys (kvs:=kvs) (tb:=tb) h.2]
 | [],_::_,h=>h.elim
 | _::_,[],h=>h.elim
theorem aW.any(s:P2):∀ {kvs:List (List Key × V)} {tb:Tb},aW H kvs tb->(kvs.any λkv=>decide (kv.1=aU s.1 s.2))=tb.any λr=>decide (r.1=s)
 | [],[],_=>rfl
 | kv::kvs,r::tb,h=>by
  rw[abu,abu,aW.any s (kvs:=kvs) (tb:=tb) h.2,h.1.1]
  congr 1
  by_cases e:r.1=s
  .rw[e,decide_eq_true Y,decide_eq_true Y]
  .rw[decide_eq_false e,decide_eq_false λz=>e (vQ z)]
 | [],_::_,h=>h.elim
 | _::_,[],h=>h.elim
theorem aW.val(s:P2):∀ {kvs:List (List Key × V)} {tb:Tb},aW H kvs tb->(fo tb s=O->bN kvs (aU s.1 s.2)=O)/\∀ w,fo tb s=U w->∃ v,bN kvs (aU s.1 s.2)=U v/\aP H v w.1 w.2
 | [],[],_=>#[λy=>rfl,λw h=>by cases h]
 | kv::kvs,r::tb,h=>by
  have ih:=aW.val s (kvs:=kvs) (tb:=tb) h.2;by_cases e:r.1=s
  .have e1:fo (r::tb) s=U r.2:=by simp[fo,abK,e]
   rw[e1,iu (h.1.1.trans (by rw[e]))];exact#[λz=>(by cases z),λw z=>(by cases z;exact#[_,Y,h.1.2])]
  .have e1:fo (r::tb) s=fo tb s:=by simp[fo,abK,e]
   rw[e1,ix (λz=>e (vQ (h.1.1.symm.trans z)))];exact ih
 | [],_::_,h=>h.elim
 | _::_,[],h=>h.elim
theorem aW.pK(hv:aP H v w.1 w.2):∀ {kvs:List (List Key × V)} {tb:Tb},aW H kvs tb->aW H (kvs.map λkv=>if kv.1=aU s.1 s.2 then (kv.1,v) else kv) (tb.map λr=>if r.1=s then (r.1,w) else r)
 | [],[],_=>trivial
 | kv::kvs,r::tb,h=>by
  rw[Z0,Z0];refine#[?_,aW.pK hv (kvs:=kvs) (tb:=tb) h.2];by_cases e:r.1=s
  .rw[if_pos e,if_pos (h.1.1.trans (by rw[e]))];exact#[h.1.1,hv]
  .rw[if_neg e,if_neg (λz=>e (vQ (h.1.1.symm.trans z)))];exact h.1
 | [],_::_,h=>h.elim
 | _::_,[],h=>h.elim
theorem aW.put(h:aW H kvs tb)(hv:aP H v w.1 w.2):aW H (putK kvs (aU s.1 s.2) v) (dR tb s w):=by
 unfold putK dR;rw[h.any s];split
 .exact h.pK hv
 .exact h.app #[#[Y,hv],trivial]
theorem aW.drop:∀ {kvs:List (List Key × V)} {tb:Tb},aW H kvs tb->aW H (kO kvs (aU s.1 s.2)) (nP tb s)
 | [],[],_=>trivial
 | kv::kvs,r::tb,h=>by
  have ih:=aW.drop (s:=s) (kvs:=kvs) (tb:=tb) h.2;unfold kO nP at *;rw[aaK,aaK];by_cases e:r.1=s
  .have e2:kv.1=aU s.1 s.2:=h.1.1.trans (by rw[e]);rw[if_neg (by simp[e2]),if_neg (by simp[e])];exact ih
  .have e2:¬ kv.1=aU s.1 s.2:=λz=>e (vQ (h.1.1.symm.trans z));rw[if_pos (by simp[e2]),if_pos (by simp[e])];exact#[h.1,ih]
 | [],_::_,h=>h.elim
 | _::_,[],h=>h.elim
theorem aW.rM:∀ {ys:List V} {kvs:List (List Key × V)} {tb:Tb},aW H kvs tb->iz H ys kvs->dv H ys (tb.map (·.1))
 | [],[],[],_,_=>trivial
 | y::ys,kv::kvs,r::tb,h,⟨⟨a,e,ha⟩,t⟩=>#[#[a,e,by rw[h.1.1] at ha;exact ha],aW.rM (ys:=ys) (kvs:=kvs) (tb:=tb) h.2 t]
 | [],_::_,_,_,h=>h.elim
 | _::_,[],_,_,h=>h.elim
 | _,[],_::_,h,_=>h.elim
 | _,_::_,[],h,_=>h.elim
end
def TabAt(H:Hp)(p:ZX)(tb:Tb):Prop:=∃ kvs,H p=U (.dT kvs)/\aW H kvs tb
def Fr(H H':Hp):Prop:=∀ b o,(∀ kvs,o≠HO.dT kvs)->H b=U o->H' b=U o
def lY(ps:List ZX)(H H':Hp):Prop:=∀ b o,b∉ps->H b=U o->H' b=U o
def Hj(H:Hp)(ps:List ZX):Prop:=∀ p∈ps,∃ kvs,H p=U (.dT kvs)
section
theorem _root_.L2.aj.fr(s:aj H H'):Fr H H':=λb o y e=>s b o e
theorem SameBut.but(a:SameBut p H H')(h:p∈ps):lY ps H H':=λc o z e=>a c o (λy=>z (y ▸ h)) e
theorem lY.fr(a:lY ps H H')(d:Hj H ps):Fr H H':=λb o ho e=>by
 by_cases hb:b∈ps
 .obtain⟨kvs,hk⟩:=d b hb;rw[hk] at e;exact absurd (Option.some.inj e).symm (ho kvs)
 .exact a b o hb e
theorem zL(h:H p=U (.dT kvs)):Fr H (upd H p o):=λb u hu e=>by rw[aF (λz=>by rw[z,h] at e;exact hu _ (Option.some.inj e).symm)];exact e
theorem Qp(h:H p=U (.dT kvs)):Hj H [p]:=λb hb=>#[kvs,(aap.mp hb) ▸ h]
theorem SameBut.fr(a:SameBut p H H')(h:H p=U (.dT kvs)):Fr H H':=lY.fr (SameBut.but a (.head _)) (Qp h)
theorem aP.fr(h:aP H v a b)(f:Fr H H'):aP H' v a b:=let ⟨p,e,hp⟩:=h;#[p,e,f _ _ (λy z=>nomatch z) hp]
theorem TabAt.fr(h:TabAt H p tb)(f:Fr H H')(e:∀ kvs,H p=U (.dT kvs)->H' p=U (.dT kvs)):TabAt H' p tb:=let ⟨kvs,a,b⟩:=h;#[kvs,e _ a,b.imp λy y y z=>z.fr f]
theorem TabAt.same(h:TabAt H p tb)(s:aj H H'):TabAt H' p tb:=h.fr s.fr λy e=>s _ _ e
theorem TabAt.Hk(h:TabAt H p tb):∃ kvs,H p=U (.dT kvs):=let ⟨kvs,a,_⟩:=h;#[kvs,a]
theorem TabAt.ne(h:TabAt H p tb)(hq:H q=O):p≠q:=λz=>by obtain⟨kvs,a,y⟩:=h;rw[z,hq] at a;cases a
end
theorem pP(hn:(tb.map (·.1)).Nodup)(h:r∈tb):fo tb r.1=U r.2:=by
 induction tb with
 | nil=>cases h
 | cons x l ih =>
  rw[Z0,aaC] at hn;rcases ZO.mp h with z|z
  .rw[<- z];simp[fo,abK]
  .have e:¬ x.1=r.1:=λy=>hn.1 (y ▸ ZN.mpr #[r,z,Y]);have:fo (x::l) r.1=fo l r.1:=by simp[fo,abK,e]
   rw[this,ih hn.2 z]
theorem Qq(h:fo tb s=U w):(s,w)∈tb:=by
 unfold fo at h;obtain⟨r,h1,h2⟩:=aaj.mp h;have:=List.mem_of_find?_eq_some h1;have e:=List.find?_some h1;have e:r.1=s:=by simpa using e
 rw[<- h2,<- e];exact this
def eY(e t:Int)(s:P2):Prop:=(0<=s.1/\s.1<e)/\0<=s.2/\s.2<t
instance (e t:Int) (s:P2):Decidable (eY e t s):=by unfold eY;infer_instance
def bF(e t:Int)(tb:Tb):Prop:=(tb.map (·.1)).Nodup/\∀ r∈tb,eY e t r.1
theorem Hl(tb:Tb)(s:P2)(w:S2):(dR tb s w).length<=tb.length+1:=by unfold dR;split<;>simp
theorem bF.put(h:bF e t tb)(hs:eY e t s):bF e t (dR tb s w):=by
 unfold dR;split
 .refine#[?_,λr hr=>?_]
  .have:(tb.map λr=>if r.1=s then (r.1,w) else r).map (·.1)=tb.map (·.1):=by rw[abg];refine acm λr _=>?_;show (if r.1=s then (r.1,w) else r).1=r.1;split<;>rfl
   rw[this];exact h.1
  .obtain⟨x,hx,rfl⟩:=ZN.mp hr;have:=h.2 x hx;split<;>exact this
 .rename_i z;refine#[?_,λr hr=>?_]
  .rw[aa2];refine GV h.1 λy=>z ?_;obtain⟨x,hx,e⟩:=ZN.mp y;rw[adD];exact#[x,hx,by simpa using e]
  .rcases aaf.mp hr with y|y
   .exact h.2 r y
   .rw[aap.mp y];exact hs
theorem bF.drop(h:bF e t tb):bF e t (nP tb s) :=
 #[h.1.sublist ((acX).map _),λr hr=>h.2 r (Z4.mp hr).1]
theorem bF.nil:bF e t []:=#[ac3,λr h=>by cases h]
noncomputable def gR(tb:Tb):List (List Int):=tb.map λr=>[r.1.1,r.1.2]
noncomputable def jd(tb:Tb):Tb:=b7 (gR tb) ((0,0),(O,O)) tb
theorem nQ(h:r∈jd tb):r∈tb:=kK.mem_iff.mp h
theorem kS:(jd tb).length=tb.length:=vL
theorem ax.sort(h:ax R xs as):ax R (b7 kis .non xs) (b7 kis d as):=by
 have hl:=h.len;have hp:=(nJ (n:=xs.length) (kJ kis)).1;unfold b7;rw[<- hl];have gen:∀ l:List Nat,(∀ i∈l,i<xs.length)->ax R (l.map λi=>xs.getD i .non) (l.map λi=>as.getD i d):=by
  intro l
  induction l with
  | nil=>intro y;exact trivial
  | cons i l ih =>
   intro q;have hi:=q i (.head _);obtain⟨s,es,hs⟩:=h.get (ZK hi);refine#[?_,ih λj hj=>q j (.tail _ hj)];show R (xs.getD i .non) (as.getD i d);rw[ZG,ZG,es,ZK hi];exact hs
 exact gen _ λi hi=>by simpa using hp.mem_iff.mp hi
theorem ax.bind:∀ {xs:List V} {bs:List β},ax R xs (bs.map f)->ax (λx b=>R x (f b)) xs bs
 | [],[],_=>trivial
 | _::_,_::_,h=>#[h.1,ax.bind h.2]
 | [],_::_,h=>h.elim
 | _::_,[],h=>h.elim
theorem ax.Hm:∀ {xs:List V} {bs:List β},ax (λx b=>R x (f b)) xs bs->ax R xs (bs.map f)
 | [],[],_=>trivial
 | _::_,_::_,h=>#[h.1,ax.Hm h.2]
 | [],_::_,h=>h.elim
 | _::_,[],h=>h.elim
theorem Qr(h:aW H kvs tb):kvs.map (·.1)=(gR tb).map λk=>k.map aew:=by rw[h.keys];unfold gR;rw[abg];rfl
theorem Qs:∀ k∈gR tb,k≠[]:=λk hk=>by
 obtain⟨r,y,rfl⟩:=ZN.mp hk;exact λz=>nomatch z
theorem Hn(h:aW H kvs tb)(hk:iz H ys kvs):ax (λx (r:P2 × S2)=>bC H x r.1) (b7 (gR tb) .non ys) (jd tb):=ax.sort (ax.bind (h.rM hk))
theorem Ho{K:ZF}{H:Hp}:∀ {ys:List V} {tb:Tb},ax (λx (r:P2 × S2)=>bC H x r.1) ys tb->fk K H ys (gR tb)
 | [],[],_=>trivial
 | y::ys,r::tb,⟨⟨a,e,ha⟩,t⟩=>#[#[a,e,.inl (.inl ha),λz=>nomatch z],Ho (ys:=ys) (tb:=tb) t]
 | [],_::_,h=>h.elim
 | _::_,[],h=>h.elim
def fO(H:Hp)(v:V)(r:P2 × S2):Prop:=∃ a w,v = .ref a/\H a=U (.tup [.int r.1.1,.int r.1.2,w])/\aP H w r.2.1 r.2.2
theorem fO.same(h:fO H v r)(s:aj H H'):fO H' v r:=let ⟨a,w,e,ha,hw⟩:=h;#[a,w,e,s _ _ ha,hw.same s]
noncomputable def Hq(r:P2 × S2):ad1:=.tuple [.int r.1.1,.int r.1.2,zx r.2]
theorem zM{K:ZF}{H:Hp}:∀ {xs:List V} {tb:Tb},ax (fO H) xs tb->pC K H xs (tb.map Hq)
 | [],[],_=>.nil
 | x::xs,r::tb,⟨⟨a,w,e,ha,hw⟩,t⟩=>by subst e;exact .cons (.tup (aw.of ha) (.cons (.int _) (.cons (.int _) (.cons (aP.dat hw) .nil)))) (zM t)
 | [],_::_,h=>h.elim
 | _::_,[],h=>h.elim
noncomputable def lZ(i j:Int):Int:=ahi (acC [ac7 i,ac7 j])
theorem Qt(P:aaE)(w:abb)(i j:Int):adg (cz P w) (aU i j)=lZ i j:=by unfold adg lZ aU;rw[Z0,Z0,acS];rw[show (cz P w).hash (aew i)=ac7 i from Y,show (cz P w).hash (aew j)=ac7 j from Y]
theorem Qu:((Z7 84).all λa=>(Z7 84).all λb=>!(lZ ((a / 12:Nat):Int) ((a % 12:Nat):Int) == lZ ((b / 12:Nat):Int) ((b % 12:Nat):Int)) || a == b)=true:=by decide +kernel
theorem Qv(ha:eY 7 12 a)(hb:eY 7 12 b)(h:lZ a.1 a.2=lZ b.1 b.2):a=b:=by
 obtain⟨⟨a1,a2⟩,a3,a4⟩:=ha;obtain⟨⟨b1,b2⟩,b3,b4⟩:=hb;have h1:=aaw.mp Qu (a.1.toNat * 12+a.2.toNat) (aas.mpr (by lia));have h2:=aaw.mp h1 (b.1.toNat * 12+b.2.toNat) (aas.mpr (by lia));have ea:(((a.1.toNat * 12+a.2.toNat) / 12:Nat):Int)=a.1:=by lia
 have Qw:(((a.1.toNat * 12+a.2.toNat) % 12:Nat):Int)=a.2:=by lia
 have eb:(((b.1.toNat * 12+b.2.toNat) / 12:Nat):Int)=b.1:=by lia
 have Qx:(((b.1.toNat * 12+b.2.toNat) % 12:Nat):Int)=b.2:=by lia
 rw[ea,Qw,eb,Qx,h] at h2;simp only[beq_self_eq_true,ab9,afp,beq_iff_eq] at h2;exact Prod.ext (by lia) (by lia)
theorem Hr:∀ {kvs:List (List Key × V)} {tb:Tb},aW H kvs tb->(kvs.map λkv=>adg (cz P w) kv.1)=tb.map λr=>lZ r.1.1 r.1.2
 | [],[],_=>acS.trans acS.symm
 | kv::kvs,r::tb,h=>by have ih:=Hr (P:=P) (w:=w) (kvs:=kvs) (tb:=tb) h.2;have h1:=Qt P w r.1.1 r.1.2;rw[<- h.1.1] at h1;rw[Z0,Z0,ih,h1]
 | [],_::_,h=>h.elim
 | _::_,[],h=>h.elim
theorem Hs(he:e<=7)(ht:t<=12):∀ {tb:Tb},bF e t tb->(tb.map λr=>lZ r.1.1 r.1.2).Nodup
 | [],_=>by rw[acS];exact ac3
 | x::l,ok=>by
  have h7:∀ r∈x::l,eY 7 12 r.1:=λr hr=>by obtain⟨⟨a,b⟩,c,d⟩:=ok.2 r hr;exact#[#[a,by lia],c,by lia]
  have nd:=ok.1;rw[Z0,aaC] at nd;rw[Z0,aaC];refine#[λz=>?_,Hs he ht (tb:=l) #[nd.2,λr hr=>ok.2 r (.tail _ hr)]];obtain⟨y,hy,ey⟩:=ZN.mp z;have:=Qv (h7 y (.tail _ hy)) (h7 x (.head _)) ey;exact nd.1 (ZN.mpr #[y,hy,this])
theorem Qy(h:aW H kvs tb)(ok:bF e t tb)(he:e<=7)(ht:t<=12):(kvs.map λkv=>adg (cz P w) kv.1).Nodup:=by rw[Hr h];exact Hs he ht ok
theorem Qz(h:aS a b=true):aS (dA a c) (dB b d)=true:=by rcases a with v|x<;>rcases b with v|y<;>rcases c with v|z<;>rcases d with v|w<;>simp[aS,dA,dB] at h ⊢<;>lia
noncomputable def bz(e:S2)(ss:List S2):S2:=ss.foldl (λe s=>(dA e.1 s.1,dB e.2 s.2)) e
theorem vR(e s:S2)(ss:List S2):bz e (s::ss)=bz (dA e.1 s.1,dB e.2 s.2) ss:=rfl
theorem Ht:∀ (ss:List S2) {e:S2},aS e.1 e.2=true->aS (bz e ss).1 (bz e ss).2=true
 | [],_,h=>h
 | s::ss,e,h=>by rw[vR];exact Ht ss (Qz h)
theorem QA(h:aS (bz e (ss.take i)).1 (bz e (ss.take i)).2=true):aS (bz e ss).1 (bz e ss).2=true:=by
 have:bz e ss=bz (bz e (ss.take i)) (ss.drop i):=by unfold bz;rw[<- afe,aa0]
 rw[this];exact Ht _ h
theorem QC{ss:List S2}{e s:S2}{i:Nat}(h:ss[i]?=U s):bz e (ss.take (i+1))=(dA (bz e (ss.take i)).1 s.1,dB (bz e (ss.take i)).2 s.2):=by unfold bz;rw[abq,h,afe];rfl
noncomputable def cK(e:S2)(ss:List S2):W2:=if aS (bz e ss).1 (bz e ss).2=true then O else U (bz e ss)
theorem l6:∀ {xs:List V} {ss:List S2},lX H xs ss↔ax (λx s=>aP H x s.1 s.2) xs ss
 | [],[]=>Iff.rfl
 | _::_,_::_=>and_congr Iff.rfl l6
 | [],_::_=>Iff.rfl
 | _::_,[]=>Iff.rfl
abbrev Pa:=Str × Int × S2
def rN(H:Hp)(v:V)(p:Pa):Prop:=∃ (t q:ZX),v = .ref t/\H t=U (.tup [.str p.1,.int p.2.1,.ref q])/\H q=U (.tup [ev p.2.2.1,ev p.2.2.2])
theorem rN.same(h:rN H v p)(s:aj H H'):rN H' v p:=let ⟨t,q,e,a,b⟩:=h;#[t,q,e,s _ _ a,s _ _ b]
abbrev fZ(H:Hp):List V->List Pa->Prop:=ax (rN H)
theorem fZ.same(h:fZ H xs ps)(s:aj H H'):fZ H' xs ps:=ax.imp (λy y r=>r.same s) h
noncomputable def je(k:Str)(t:Int)(p:Pa):Bool:=decide (p.1=k) && decide (p.2.1=t)
noncomputable def sel(ps:List Pa)(k:Str)(t:Int):List S2:=(ps.filter (je k t)).map (·.2.2)
noncomputable def hasB(n:Int)(k:Str)(t:Int):Bool:=if k = "step" then decide (0<=t/\t<n) && decide (0<=t+1/\t+1<n) else decide (k = "at") && decide (0<=t/\t<n)
def jP(n:Int)(ps:List Pa):Prop:=∀ p∈ps,hasB n p.1 p.2.1=true
theorem Hu:hasB n "step" t=true↔0<=t/\t+1<n:=by unfold hasB;rw[if_pos Y];simp only[abi,decide_eq_true_eq];lia
theorem Hv{n t:Int}{k:Str}(h:k ≠ "step"):hasB n k t=true↔k = "at" /\ 0<=t/\t<n:=by unfold hasB;rw[if_neg h];simp only[abi,decide_eq_true_eq]
noncomputable def jQ(cs:List Int)(k:Str)(t:Int):Int:=if k = "step" then cs.getD (t+1).toNat 0-cs.getD t.toNat 0 else cs.getD t.toNat 0
noncomputable def kT(cs:List Int)(ps:List Pa):Bool:=ps.all λp=>hold p.2.2.1 p.2.2.2 (jQ cs p.1 p.2.1)
theorem int_at{cs:List Int}{t:Int}(h0:0<=t)(h1:t<(cs.length:Int)):cN (cs.map V.int) t=U (.int (cs.getD t.toNat 0)):=by
 have e:t=((t.toNat:Nat):Int):=by lia
 refine (congrArg (cN _) e).trans (dZ ?_);rw[Z1,ZG,ZK (by lia)];rfl
structure Gd(n:Nat)(d:ad1):Prop where
 eqv:abN d d=true
 lay:d.canLay0=true
 dep:d.depth<=n
theorem Gd.up(h:Gd n d)(hm:n<=m):Gd m d:=#[h.eqv,h.lay,ZQ h.dep hm]
theorem Gd.of(h:iq n d=true):Gd n d:=let ⟨a,b,c⟩:=Gb d h;#[a,b,c]
theorem Gd.str(h:aiS x=true):Gd 0 (.str x):=#[by simp[abN],by simpa [aeb] using h,ZS _]
theorem Gd.int(i:Int):Gd 0 (.int i):=.of rfl
theorem Gd.all:∀ {ds:List ad1} {n:Nat},(∀ d∈ds,Gd n d)->acV ds ds=true/\ad7 ds=true/\aeC ds<=n
 | [],n,_=>#[Y,Y,Z3 _]
 | d::ds,n,h=>by obtain⟨a,b,c⟩:=h d (.head _);obtain⟨a',b',c'⟩:=Gd.all (ds:=ds) λx hx=>h x (.tail _ hx);exact#[by simp only[acV,a,a',afo],by simp only[ad7,b,b',afo],by simp only[aeC];lia]
theorem Gd.lst(h:∀ d∈ds,Gd n d):Gd (n+1) (.list ds):=by obtain⟨a,b,c⟩:=Gd.all h;exact#[by simpa only [abN] using a,by simpa only [aeb] using b,by simp only[PyData.depth];lia]
theorem Gd.tup(h:∀ d∈ds,Gd n d):Gd (n+1) (.tuple ds):=by obtain⟨a,b,c⟩:=Gd.all h;exact#[by simpa only [abN] using a,by simpa only [aeb] using b,by simp only[PyData.depth];lia]
theorem QD{K:ZF}{H:Hp}{x y:V}{d:ad1}{n:Nat}{neg:Bool}{Q:VK}(hx:Dat K H x d)(hy:Dat K H y d)(g:Gd n d)(hn:n<=60)(q:Q (.bl (!neg)) H):zg K neg x y H Q:=by refine#[d,d,hx,hy,g.lay,g.lay,ZQ g.dep hn,?_];rw[g.eqv];cases neg<;>exact q
theorem QE(s:S2):Gd 1 (zx s):=.of (by
 obtain⟨a,b⟩:=s;cases a<;>cases b<;>rfl)
theorem pQ(cR:Ok H):∀ {xs:List V} {as:List α} {ys:List V},ax R xs as ->
 (∀ x a,R x a->∀ Q,Q (p a) H->tt (U x::ρ) H Q)->(∀ x a,p a=true->R x a->∀ Q:VK,(∀ y,R' y (f a)->Q y H)->te (U x::ρ) H Q)->(∀ zs,ax R' zs ((as.filter p).map f)->Q' (ys++zs) H)->eK Ok ρ tt te xs ys H Q'
 | [],[],ys,_,_,_,q=>#[cR,by simpa using q [] trivial]
 | x::xs,a::as,ys,h,ht,he,q=>by
  refine#[cR,ht x a h.1 _ ?_];by_cases hb:p a=true
  .rw[if_pos hb];refine he x a hb h.1 _ λy ry=>pQ cR h.2 ht he λzs hz=>?_;have:=q (y::zs) (by rw[aaK,if_pos hb];exact#[ry,hz]);simpa using this
  .rw[if_neg hb];refine pQ cR h.2 ht he λzs hz=>q zs ?_;rw[aaK,if_neg hb];exact hz
 | [],_::_,_,h,_,_,_=>h.elim
 | _::_,[],_,h,_,_,_=>h.elim
theorem vS{K:ZF}{i j k:Nat}{p:ZX}{x y z:V}{J:L2.St}{H:Hp}{Q:L2.St->Hp->Prop}(h:aw K H p [x,y,z])(q:Q (((J.set i (U x)).set j (U y)).set k (U z)) H):iW K 3 (cA (bU i) (cA (bU j) (cA (bU k) ia))) (.ref p) J H Q :=
 #[p,_,Y,h,Y,_,_,Y,_,_,Y,_,_,Y,Y,q]
end Gz
namespace Gz
open PySem L2
def bD(s:S2)(x:Int):Prop:=(∀ a,s.1=U a->a<=x)/\∀ b,s.2=U b->x<=b
def d9(w:W2)(x:Int):Prop:=∃ s,w=U s/\bD s x
theorem vT:bD s x↔hold s.1 s.2 x=true:=zu.symm
theorem zN:bD (dA a.1 b.1,dB a.2 b.2) x↔bD a x/\bD b x:=by obtain⟨a1,a2⟩:=a;obtain⟨b1,b2⟩:=b;unfold bD;rcases a1 with y|p<;>rcases a2 with y|q<;>rcases b1 with y|r<;>rcases b2 with y|s<;>simp[dA,dB]<;>(try split)<;>(try split)<;>lia
theorem Hw:∀ {e:S2},bD (bz e ss) x↔bD e x/\∀ s∈ss,bD s x:=by
 induction ss with
 | nil=>intro e;exact#[λh=>#[h,λy z=>nomatch z],λh=>h.1]
 | cons s ss ih =>
  intro e;rw[vR,ih,zN];simp only[ZO,forall_eq_or_imp,and_assoc]
theorem QF(h:aS s.1 s.2=false):∃ x,bD s x:=by
 obtain⟨a,b⟩:=s;rcases a with y|a<;>rcases b with y|b
 .exact#[0,λy z=>(nomatch z),λy z=>(nomatch z)]
 .exact#[b,λy z=>(nomatch z),λy z=>by cases z;exact abe _]
 .exact#[a,λy z=>by cases z;exact abe _,λy z=>(nomatch z)]
 .refine#[a,λy z=>by cases z;exact abe _,λy z=>?_];cases z;simp[aS] at h;exact h
theorem Hy(h:bD s x):aS s.1 s.2=false:=by
 obtain⟨a,b⟩:=s;rcases a with y|a<;>rcases b with y|b
 .rfl
 .rfl
 .rfl
 .have h1:=h.1 a rfl;have h2:=h.2 b rfl;simp[aS];lia
noncomputable def iA(a b:S2):W2:=if aS (dA a.1 b.1) (dB a.2 b.2)=true then O else U (dA a.1 b.1,dB a.2 b.2)
theorem pR:d9 (iA a b) x↔bD a x/\bD b x:=by
 unfold iA;constructor
 .rintro ⟨s,e,h⟩;split at e
  .cases e
  .cases e;exact zN.mp h
 .intro h;have h:=zN.mpr h;rw[if_neg (by rw[Hy h];simp)];exact#[_,Y,h]
theorem Hz(h:iA a b=U s):aS s.1 s.2=false:=by
 unfold iA at h;split at h
 .cases h
 .rename_i hc;cases h;simpa using hc
theorem pS:d9 (cK (O,O) ss) x ↔ ∀ s∈ss,bD s x:=by
 have e0:bD (O,O) x:=#[λy z=>(nomatch z),λy z=>(nomatch z)]
 unfold cK;constructor
 .rintro ⟨s,e,h⟩;split at e
  .cases e
  .cases e;exact (Hw.mp h).2
 .intro h;have h:=Hw.mpr #[e0,h];rw[if_neg (by rw[Hy h];simp)];exact#[_,Y,h]
noncomputable def eZ(s:S2)(p:P2):S2:=(s.1.map (· + p.1),s.2.map (· + p.2))
theorem zO(h:bD s x)(h1:p.1<=y-x)(h2:y-x<=p.2):bD (eZ s p) y:=by
 obtain⟨a,b⟩:=s;refine#[λz e=>?_,λz e=>?_]
 .obtain⟨a,ea,rfl⟩:=aaj.mp (show a.map (· + p.1)=U z from e);have:=h.1 a ea;lia
 .obtain⟨b,eb,rfl⟩:=aaj.mp (show b.map (· + p.2)=U z from e);have:=h.2 b eb;lia
theorem QG(hs:aS s.1 s.2=false)(hp:p.1<=p.2)(h:bD (eZ s p) y):∃ x,bD s x/\p.1<=y-x/\y-x<=p.2:=by
 obtain⟨a,b⟩:=s;rcases a with v|a<;>rcases b with v|b
 .exact#[y-p.1,#[λv z=>(nomatch z),λv z=>(nomatch z)],by lia,by lia]
 .have h2:=h.2 (b+p.2) rfl;exact#[y-p.2,#[λv z=>(nomatch z),λv z=>by cases z;lia],by lia,by lia]
 .have h1:=h.1 (a+p.1) rfl;exact#[y-p.1,#[λv z=>by cases z;lia,λv z=>(nomatch z)],by lia,by lia]
 .have h1:=h.1 (a+p.1) rfl;have h2:=h.2 (b+p.2) rfl;simp[aS] at hs;by_cases hc:a<=y-p.2
  .exact#[y-p.2,#[λv z=>by cases z;lia,λv z=>by cases z;lia],by lia,by lia]
  .exact#[a,#[λv z=>by cases z;lia,λv z=>by cases z;lia],by lia,by lia]
noncomputable def bc(bx:Nat->W2)(st:Nat->P2):Nat->W2
 | 0=>bx 0
 | t+1=>match bx (t+1),bc bx st t with
  | some b,U k=>iA b (eZ k (st t))
  | _,_=>O
def rO(w:W2):Prop:=∀ s,w=U s->aS s.1 s.2=false
theorem vU(h0:rO (bx 0)):∀ t,rO (bc bx st t)
 | 0=>h0
 | t+1=>λs e=>by
  unfold bc at e;split at e
  .exact Hz e
  .cases e
theorem HC(h:bc bx st (t+1)=U s):∃ b k,bx (t+1)=U b/\bc bx st t=U k/\iA b (eZ k (st t))=U s:=by
 unfold bc at h;split at h
 .rename_i b k e1 e2;exact#[b,k,e1,e2,h]
 .cases h
theorem HD{bx:Nat->W2}{st:Nat->P2}{c:Nat->Int}{n:Nat}(hb:∀ t,t<=n->d9 (bx t) (c t))(hs:∀ t,t<n->(st t).1<=c (t+1)-c t/\c (t+1)-c t<=(st t).2):∀ t,t<=n->d9 (bc bx st t) (c t)
 | 0,h=>hb 0 h
 | t+1,h=>by obtain⟨k,ek,hk⟩:=HD hb hs t (by lia);obtain⟨b,eb,zP⟩:=hb (t+1) h;obtain⟨h1,h2⟩:=hs t (by lia);unfold bc;rw[eb,ek];exact pR.mpr #[zP,zO hk h1 h2]
theorem zQ:∀ {t:Nat},d9 (bc bx st t) x->d9 (bx t) x
 | 0,h=>h
 | t+1,⟨s,e,h⟩=>by obtain⟨b,k,e1,y,e3⟩:=HC e;exact#[b,e1,(pR.mp #[s,e3,h]).1]
theorem HE(h0:rO (bx 0))(hp:(st t).1<=(st t).2)(h:d9 (bc bx st (t+1)) y):∃ x,d9 (bc bx st t) x/\(st t).1<=y-x/\y-x<=(st t).2:=by obtain⟨s,e,h⟩:=h;obtain⟨b,k,z,e2,e3⟩:=HC e;obtain⟨x,hx,h1,h2⟩:=QG (vU h0 t k e2) hp (pR.mp #[s,e3,h]).2;exact#[x,#[k,e2,hx],h1,h2]
noncomputable def iB(n:Nat)(st:Nat->P2)(t:Nat):P2:=(-(st (n-1-t)).2,-(st (n-1-t)).1)
noncomputable def f6(n:Nat)(bx:Nat->W2)(st:Nat->P2)(t:Nat):W2:=bc (λk=>bc bx st (n-k)) (iB n st) (n-t)
structure vV(n:Nat)(bx:Nat->W2)(st:Nat->P2):Prop where
 ok:∀ t,t<=n->∃ s,f6 n bx st t=U s/\aS s.1 s.2=false
 sub:∀ t x,t<=n->d9 (f6 n bx st t) x->d9 (bx t) x
 next:∀ t x,t<n->d9 (f6 n bx st t) x->∃ y,d9 (f6 n bx st (t+1)) y/\(st t).1<=y-x/\y-x<=(st t).2
theorem QH(h0:rO (bx 0))(hp:∀ t,t<n->(st t).1<=(st t).2)(hf:∀ t,t<=n->bc bx st t≠O):vV n bx st:=by
 have zR:=vU (st:=st) h0;have QJ:∀ k,k<=n->∃ s,bc (λk=>bc bx st (n-k)) (iB n st) k=U s:=by
  intro k
  induction k with
  | zero =>
   intro v;obtain⟨s,e⟩:=adm.mp (hf n (ZS _));exact#[s,e]
  | succ k ih =>
   intro hk;obtain⟨s,e⟩:=ih (by lia);obtain⟨y,hy⟩:=QF (vU (bx:=λk=>bc bx st (n-k)) (zR n) k s e);have HF:d9 (bc bx st (n-k)) y:=zQ (bx:=λk=>bc bx st (n-k)) #[s,e,hy];rw[show n-k=n-(k+1)+1 by lia] at HF;obtain⟨x,⟨f,ef,hx⟩,h1,h2⟩:=HE h0 (hp _ (by lia)) HF;have em:n-1-k=n-(k+1):=by lia
   have hm:bD (eZ s (iB n st k)) x:=zO hy (by unfold iB;rw[em];dsimp only;lia) (by unfold iB;rw[em];dsimp only;lia);obtain⟨z,ez,v⟩:=pR.mpr #[hx,hm];refine#[z,?_];unfold bc;rw[e];show (match bc bx st (n-(k+1)),U s with
    | some b,U QK=>iA b (eZ QK (iB n st k))
    | _,_=>O)=U z
   rw[ef];exact ez
 refine#[λt ht=>?_,λt x ht h=>?_,λt x ht h=>?_]
 .obtain⟨s,e⟩:=QJ (n-t) (by lia);exact#[s,e,vU (bx:=λk=>bc bx st (n-k)) (zR n) _ s e]
 .have:=zQ (bx:=λk=>bc bx st (n-k)) h;rw[show n-(n-t)=t by lia] at this;exact zQ this
 .unfold f6 at h;rw[show n-t=n-(t+1)+1 by lia] at h;have hb:(iB n st (n-(t+1))).1<=(iB n st (n-(t+1))).2:=by unfold iB;have:=hp (n-1-(n-(t+1))) (by lia);lia
  obtain⟨y,hy,h1,h2⟩:=HE (bx:=λk=>bc bx st (n-k)) (zR n) hb h;have em:n-1-(n-(t+1))=t:=by lia
  unfold iB at h1 h2;exact#[y,hy,by lia,by lia]
def fq(ps:List P2)(c:Nat->Int):Prop:=∀ k,k<ps.length->(aG ps k).1<=c (k+1)-c k/\c (k+1)-c k<=(aG ps k).2
theorem zS(h:fq ps c):∀ n,i+n<=ps.length->pre (·.1) ps (i+n)-pre (·.1) ps i<=c (i+n)-c i/\c (i+n)-c i<=pre (·.2) ps (i+n)-pre (·.2) ps i
 | 0,_=>by simp
 | n+1,hn=>by have ih:=zS h (i:=i) n (by lia);have hk:=h (i+n) (by lia);rw[show i+(n+1)=(i+n)+1 by lia,fL _ ps (by lia),fL _ ps (by lia)];lia
theorem QL(h:fq ps c)(hi:i<=ps.length)(hj:j<=ps.length):c j-c i<=bw ps i j:=by
 unfold bw;split
 .have:=(zS h (i:=i) (j-i) (by lia)).2
  rwa [show i+(j-i)=j by lia] at this
 .have:=(zS h (i:=j) (i-j) (by lia)).1;rw[show j+(i-j)=i by lia] at this;lia
abbrev Mk:=Nat × S2
def meets(ms:List Mk)(c:Nat->Int):Prop:=∀ m∈ms,bD m.2 (c m.1)
structure kU(ps:List P2)(ms:List Mk)(tp:Nat->Option P2):Prop where
 val:∀ t v k,t<=ps.length->tp t=U (v,k)->∃ (i:Nat) (m:Mk) (h:Int),k=(i:Int)/\ms[i]?=U m/\m.2.2=U h/\h+bw ps m.1 t<=v
 top:∀ m∈ms,∀ h,m.2.2=U h->∃ v k,tp m.1=U (v,k)/\v<=h
 fwd:∀ t v k,t<ps.length->tp t=U (v,k)->∃ v' k',tp (t+1)=U (v',k')/\v'<=v+(aG ps t).2
 bwd:∀ t v k,t<ps.length->tp (t+1)=U (v,k)->∃ v' k',tp t=U (v',k')/\v'<=v-(aG ps t).1
def rP(ms:List Mk)(tp:Nat->Option P2):Prop:=∀ m∈ms,∀ l v k,m.2.1=U l->tp m.1=U (v,k)->l<=v
theorem QM(hp:eL ps)(hm:∀ m∈ms,m.1<=ps.length)(T:kU ps ms tp)(hn:rP ms tp):∃ c,fq ps c/\meets ms c:=by
 by_cases h0:tp 0=O
 .have QN:∀ t,t<=ps.length->tp t=O:=by
   intro t
   induction t with
   | zero=>intro y;exact h0
   | succ t ih =>
    intro ht;cases e:tp (t+1) with
    | none=>rfl
    | some q =>
     obtain⟨v,k⟩:=q;obtain⟨v',k',e',y⟩:=T.bwd t v k (by lia) e;rw[ih (by lia)] at e';cases e'
  have QO:∀ m∈ms,m.2.2=O:=λm bI=>by
   cases e:m.2.2 with
   | none=>rfl
   | some h =>
    obtain⟨v,k,e',y⟩:=T.top m bI h e;rw[QN m.1 (hm m bI)] at e';cases e'
  have big:∀ (l:List Mk),∃ M:Int,∀ m∈l,∀ a,m.2.1=U a->a<=M+pre (·.1) ps m.1:=by
   intro l
   induction l with
   | nil=>exact#[0,λy z=>nomatch z]
   | cons m l ih =>
    obtain⟨M,hM⟩:=ih;cases e:m.2.1 with
    | none =>
     refine#[M,λq hq a ha=>?_];rcases ZO.mp hq with rfl|hq
     .rw[e] at ha;cases ha
     .exact hM q hq a ha
    | some b =>
     refine#[if M<=b-pre (·.1) ps m.1 then b-pre (·.1) ps m.1 else M,λq hq a ha=>?_];rcases ZO.mp hq with rfl|hq
     .rw[e] at ha;cases ha;split<;>lia
     .have:=hM q hq a ha;split<;>lia
  obtain⟨M,hM⟩:=big ms;refine#[λt=>M+pre (·.1) ps t,λk hk=>?_,λm bI=>#[λa ha=>hM m bI a ha,λb hb=>?_]]
  .have:=hp _ (pF hk);dsimp only;rw[fL _ ps hk];lia
  .rw[QO m bI] at hb;cases hb
 .have HG:∀ t,t<=ps.length->∃ v k,tp t=U (v,k):=by
   intro t
   induction t with
   | zero =>
    intro y;obtain⟨⟨v,k⟩,e⟩:=adm.mp h0;exact#[v,k,e]
   | succ t ih =>
    intro ht;obtain⟨v,k,e⟩:=ih (by lia);obtain⟨v',k',e',y⟩:=T.fwd t v k (by lia) e;exact#[v',k',e']
  refine#[λt=>((tp t).map (·.1)).getD 0,λk hk=>?_,λm bI=>#[λa ha=>?_,λb hb=>?_]]
  .obtain⟨v,q,e⟩:=HG k (by lia);obtain⟨v',q',e',h1⟩:=T.fwd k v q hk e;obtain⟨v2,q2,e2,h2⟩:=T.bwd k v' q' hk e';rw[e] at e2;cases e2;dsimp only;rw[e,e'];simp only[Option.map_some,ac0];lia
  .obtain⟨v,q,e⟩:=HG m.1 (hm m bI);have:=hn m bI a v q ha e;dsimp only;rw[e];exact this
  .obtain⟨v,q,e,h1⟩:=T.top m bI b hb;dsimp only;rw[e];exact h1
def clash(ps:List P2)(a b:Mk):Prop:=∃ h l,a.2.2=U h/\b.2.1=U l/\h+bw ps a.1 b.1<l
theorem HH(hc:fq ps c)(hm:meets ms c)(ht:∀ m∈ms,m.1<=ps.length)(ha:a∈ms)(hb:b∈ms):¬ clash ps a b:=by rintro ⟨h,l,e1,e2,aL⟩;have h1:=(hm a ha).2 h e1;have h2:=(hm b hb).1 l e2;have h3:=QL hc (ht a ha) (ht b hb);lia
noncomputable def ft(a b:P2):Bool:=decide (a.1<b.1) || (decide (a.1=b.1) && decide (a.2<b.2))
noncomputable def fu(a b:P2):P2:=if ft b a=true then b else a
noncomputable def jR:Option P2->Option P2->Option P2
 | none,b=>b
 | some a,O=>U a
 | some a,U b=>U (fu a b)
theorem zT(a b:P2):(fu a b=a∨fu a b=b)/\(fu a b).1<=a.1/\(fu a b).1<=b.1:=by
 unfold fu ft;split
 .rename_i h;simp only[abJ,abi,decide_eq_true_eq] at h;exact#[.inr rfl,by lia,by lia]
 .rename_i h;simp only[abJ,abi,decide_eq_true_eq,not_or,not_and] at h;exact#[.inl rfl,by lia,by lia]
theorem HI(a b:Option P2):jR a b=a∨jR a b=b:=by
 rcases a with y|a<;>rcases b with y|b
 .exact .inl rfl
 .exact .inr rfl
 .exact .inl rfl
 .show U (fu a b)=U a∨U (fu a b)=U b;rcases (zT a b).1 with h|h<;>rw[h]
  .exact .inl rfl
  .exact .inr rfl
def e9(a:Option P2)(v:Int):Prop:=∃ w k,a=U (w,k)/\w<=v
theorem QP(h:e9 a v):e9 (jR a b) v:=by
 obtain⟨w,k,rfl,hw⟩:=h;rcases b with y|b
 .exact#[w,k,Y,hw]
 .have:=(zT (w,k) b).2.1;exact#[(fu (w,k) b).1,(fu (w,k) b).2,Y,by dsimp only at this;lia]
theorem zU(h:e9 b v):e9 (jR a b) v:=by
 obtain⟨w,k,rfl,hw⟩:=h;rcases a with y|a
 .exact#[w,k,Y,hw]
 .have:=(zT a (w,k)).2.2;exact#[(fu a (w,k)).1,(fu a (w,k)).2,Y,by dsimp only at this;lia]
noncomputable def pU(a:Option P2)(QQ:Int):Option P2:=a.map λq=>(q.1+QQ,q.2)
theorem HJ(h:e9 a v):e9 (pU a b) (v+b):=by obtain⟨w,k,rfl,hw⟩:=h;exact#[w+b,k,Y,by lia]
def f7(ps:List P2)(ms:List Mk)(t:Nat)(a:Option P2):Prop:=∀ v k,a=U (v,k)->∃ (i:Nat) (m:Mk) (h:Int),k=(i:Int)/\ms[i]?=U m/\m.2.2=U h/\h+bw ps m.1 t<=v
theorem f7.zV(ha:f7 ps ms t a)(hb:f7 ps ms t b):f7 ps ms t (jR a b):=by
 rcases HI a b with h|h<;>rw[h]
 .exact ha
 .exact hb
theorem QS(ps:List P2)(t:Nat):bw ps t t=0:=by unfold bw;rw[if_pos (ZS _)];lia
theorem QT(h:t<ps.length):bw ps t (t+1)=(aG ps t).2:=by unfold bw;rw[if_pos (adG _),fL _ ps h];lia
theorem QU(h:t<ps.length):bw ps (t+1) t = -(aG ps t).1:=by unfold bw;rw[if_neg (by lia),fL _ ps h];lia
theorem f7.lift(hp:eL ps)(hm:∀ m∈ms,m.1<=ps.length)(ht:t<=ps.length)(hu:u<=ps.length)(hb:bw ps t u=b)(h:f7 ps ms t a):f7 ps ms u (pU a b):=by intro v k e;obtain⟨⟨w,q⟩,ea,e⟩:=aaj.mp e;cases e;obtain⟨i,m,x,e1,e2,e3,hx⟩:=h w q ea;refine#[i,m,x,e1,e2,e3,?_];have:=PH hp (hm m (Z2 e2)) hu ht;lia
noncomputable def jS(tp:Nat->Option P2)(i:Nat)(x:Option P2):Nat->Option P2:=λt=>if t=i then x else tp t
theorem nR:jS tp i x i=x:=if_pos rfl
theorem kW(h:t≠i):jS tp i x t=tp t:=if_neg h
theorem HL(h:∀ t,t<=ps.length->f7 ps ms t (tp t))(hx:f7 ps ms i x):∀ t,t<=ps.length->f7 ps ms t (jS tp i x t):=λt ht=>by
 by_cases e:t=i
 .subst e;rw[nR];exact hx
 .rw[kW e];exact h t ht
theorem vW(h:e9 (tp t) v):e9 (jS tp i (jR (tp i) b) t) v:=by
 by_cases e:t=i
 .subst e;rw[nR];exact QP h
 .rw[kW e];exact h
structure T1(ps:List P2)(ms:List Mk)(j:Nat)(tp:Nat->Option P2):Prop where
 val:∀ t,t<=ps.length->f7 ps ms t (tp t)
 top:∀ m∈ms.take j,∀ h,m.2.2=U h->e9 (tp m.1) h
theorem T1.nil:T1 ps ms 0 λy=>O:=#[λy y y y e=>(nomatch e),λy h=>by simp at h]
theorem T1.skip(T:T1 ps ms j tp)(hm:ms[j]?=U m)(hn:m.2.2=O):T1 ps ms (j+1) tp:=#[T.val,λq hq h e=>by
 rw[abq,hm] at hq;rcases aaf.mp hq with z|z
 .exact T.top q z h e
 .obtain rfl:q=m:=by simpa using z
  rw[hn] at e;cases e]
theorem T1.put(T:T1 ps ms j tp)(hm:ms[j]?=U m)(hh:m.2.2=U h):T1 ps ms (j+1) (jS tp m.1 (jR (tp m.1) (U (h,(j:Int))))):=by
 have hv:f7 ps ms m.1 (U (h,(j:Int))):=λv k e=>by cases e;exact#[j,m,h,Y,hm,hh,by rw[QS];lia]
 refine#[λt ht=>?_,λq hq x e=>?_]
 .by_cases e:t=m.1
  .subst e;rw[nR];exact (T.val _ ht).zV hv
  .rw[kW e];exact T.val t ht
 .rw[abq,hm] at hq;rcases aaf.mp hq with z|z
  .exact vW (T.top q z x e)
  .obtain rfl:q=m:=by simpa using z
   rw[hh] at e;cases e;rw[nR];exact zU #[h,j,Y,abe _]
structure T2(ps:List P2)(ms:List Mk)(j:Nat)(tp:Nat->Option P2):Prop where
 val:∀ t,t<=ps.length->f7 ps ms t (tp t)
 top:∀ m∈ms,∀ h,m.2.2=U h->e9 (tp m.1) h
 fwd:∀ t,t<j->∀ v,e9 (tp t) v->e9 (tp (t+1)) (v+(aG ps t).2)
theorem T1.two(T:T1 ps ms ms.length tp):T2 ps ms 0 tp:=#[T.val,λm h=>T.top m (by rw[abv];exact h),λy h=>absurd h (abW _)]
theorem T2.step(hp:eL ps)(hm:∀ m∈ms,m.1<=ps.length)(hj:j<ps.length)(T:T2 ps ms j tp):T2 ps ms (j+1) (jS tp (j+1) (jR (tp (j+1)) (pU (tp j) (aG ps j).2))):=by
 refine#[HL T.val ((T.val _ (by lia)).zV ((T.val j (by lia)).lift hp hm (by lia) (by lia) (QT hj))),λm h x e=>vW (T.top m h x e),λt ht v hv=>?_];rw[kW (by lia)] at hv;by_cases e:t=j
 .subst e;rw[nR];exact zU (HJ hv)
 .rw[kW (by lia)];exact T.fwd t (by lia) v hv
structure T3(ps:List P2)(ms:List Mk)(j:Nat)(tp:Nat->Option P2):Prop where
 val:∀ t,t<=ps.length->f7 ps ms t (tp t)
 top:∀ m∈ms,∀ h,m.2.2=U h->e9 (tp m.1) h
 fwd:∀ t,t<ps.length->∀ v,e9 (tp t) v->e9 (tp (t+1)) (v+(aG ps t).2)
 bwd:∀ t,j<=t->t<ps.length->∀ v,e9 (tp (t+1)) v->e9 (tp t) (v-(aG ps t).1)
theorem T2.three(T:T2 ps ms ps.length tp):T3 ps ms ps.length tp:=#[T.val,T.top,T.fwd,λt h1 h2=>absurd h2 (by lia)]
theorem T3.step(hp:eL ps)(hm:∀ m∈ms,m.1<=ps.length)(hj:j<ps.length)(T:T3 ps ms (j+1) tp):T3 ps ms j (jS tp j (jR (tp j) (pU (tp (j+1)) (-(aG ps j).1)))):=by
 have h1:=hp _ (pF hj);refine#[HL T.val ((T.val _ (by lia)).zV ((T.val (j+1) (by lia)).lift hp hm (by lia) (by lia) (QU hj))),λm h x e=>vW (T.top m h x e),λt ht v hv=>?_,λt h2 h3 v hv=>?_]
 .by_cases e:t=j
  .subst e;rw[nR] at hv;rw[kW (by lia)];rcases HI (tp t) (pU (tp (t+1)) (-(aG ps t).1)) with z|z
   .rw[z] at hv;exact T.fwd t ht v hv
   .rw[z] at hv;obtain⟨w,k,e,hw⟩:=hv;obtain⟨⟨w',k'⟩,e1,e2⟩:=aaj.mp e;cases e2;exact#[w',k',e1,by dsimp only at hw;lia]
  .rw[kW e] at hv;exact vW (T.fwd t ht v hv)
 .rw[kW (by lia)] at hv;by_cases e:t=j
  .subst e;rw[nR];refine zU ?_;have:=HJ (b:=-(aG ps t).1) hv
   rwa [show v + -(aG ps t).1=v-(aG ps t).1 by lia] at this
  .rw[kW e];exact T.bwd t (by lia) h3 v hv
theorem T3.tops(T:T3 ps ms 0 tp):kU ps ms tp :=
 #[λt v k ht e=>T.val t ht v k e,T.top,λt v k ht e=>T.fwd t ht v #[v,k,e,abe _],λt v k ht e=>T.bwd t (Z3 _) ht v #[v,k,e,abe _]]
theorem kU.clash(T:kU ps ms tp)(hb:b.1<=ps.length)(e:tp b.1=U (v,k))(hl:b.2.1=U l)(hv:v<l):∃ (i:Nat) (a:Mk),k=(i:Int)/\ms[i]?=U a/\clash ps a b:=by obtain⟨i,m,h,e1,e2,e3,h4⟩:=T.val _ v k hb e;exact#[i,m,e1,e2,h,l,e3,hl,by lia]
theorem zW:∀ t,(∀ k,k<=t->bx k=QV k)->(∀ k,k<t->st k=cB k)->bc bx st t=bc QV cB t
 | 0,h,_=>h 0 (ZS _)
 | t+1,h,hs=>by unfold bc;rw[h (t+1) (ZS _),zW t (λk hk=>h k (by lia)) (λk hk=>hs k (by lia)),hs t (by lia)]
noncomputable def fb(ws:List W2)(t:Nat):W2:=ws.getD t O
noncomputable def bX(ss:List S2)(t:Nat):S2:=ss.getD t (O,O)
noncomputable def atT(ms:List Mk)(t:Nat):List S2:=(ms.filter λm=>decide (m.1=t)).map (·.2)
noncomputable def cn(ms:List Mk)(t:Nat):W2:=cK (O,O) (atT ms t)
theorem HM:d9 (cn ms t) x ↔ ∀ m∈ms,m.1=t->bD m.2 x:=by
 unfold cn;rw[pS];unfold atT;constructor
 .intro h m hm e;exact h _ (ZN.mpr #[m,Z4.mpr #[hm,by simpa using e],Y])
 .intro h s hs;obtain⟨m,hm,rfl⟩:=ZN.mp hs;obtain⟨h1,h2⟩:=Z4.mp hm;exact h m h1 (by simpa using h2)
theorem QW(ms:List Mk)(t:Nat):rO (cn ms t):=λs e=>by
 unfold cn cK at e;split at e
 .cases e
 .rename_i h;cases e;simpa using h
theorem QX(hc:fq ps c)(hm:meets ms c):∀ t,t<=ps.length->bc (cn ms) (aG ps) t≠O:=λt ht e=>by obtain⟨s,es,y⟩:=HD (bx:=cn ms) (st:=aG ps) (c:=c) (n:=ps.length) (λt y=>HM.mpr λm bI e=>by rw[<- e];exact hm m bI) (λt ht=>hc t ht) t ht;rw[e] at es;cases es
theorem HN(hp:eL ps)(hf:∀ t,t<=ps.length->bc (cn ms) (aG ps) t≠O):vV ps.length (cn ms) (aG ps):=QH (QW ms 0) (λt ht=>hp _ (pF ht)) hf
noncomputable def kX(ps:List P2):List P2:=ps.reverse.map λp=>(-p.2,-p.1)
theorem QY(h:t<ps.length):aG (kX ps) t=iB ps.length (aG ps) t:=by unfold kX iB aG;rw[ZG,Z1,acw h,ZG,ZK (by lia)];rfl
theorem back_eq(hl:ss.length=ps.length+1)(h:∀ t,t<ps.length+1->bc (cn ms) (aG ps) t=U (bX ss t))(ht:t<=ps.length):bc (fb (ss.reverse.map U)) (aG (kX ps)) t=f6 ps.length (cn ms) (aG ps) (ps.length-t):=by unfold f6;rw[show ps.length-(ps.length-t)=t by lia];refine zW t (λk hk=>?_) λk hk=>QY (by lia);rw[h (ps.length-k) (by lia)];unfold fb bX;rw[ZG,Z1,acw (by lia),hl,show ps.length+1-1-k=ps.length-k by lia,ZG,ZK (by lia)];rfl
theorem QZ(hl:ss.length=n+1)(ht:t<=n):bX ss.reverse t=bX ss (n-t):=by unfold bX;rw[ZG,acw (by lia),ZG,hl,show n+1-1-t=n-t by lia]
theorem Q0(T:vV ps.length (cn ms) (aG ps))(ht:t<ps.length)(hx:d9 (f6 ps.length (cn ms) (aG ps) t) x)(hs:f6 ps.length (cn ms) (aG ps) (t+1)=U s):∃ r,iA s (eZ (U x,U x) (aG ps t))=U r/\∀ y,bD r y->d9 (f6 ps.length (cn ms) (aG ps) (t+1)) y/\(aG ps t).1<=y-x/\y-x<=(aG ps t).2:=by
 obtain⟨y,⟨s',e',hy⟩,h1,h2⟩:=T.next t x ht hx
 rw[hs] at e';cases e';have xx:bD (U x,U x) x:=#[λ_ z=>by cases z;exact abe _,λ_ z=>by cases z;exact abe _]
 obtain⟨r,er,_⟩:=pR.mpr #[hy,zO xx h1 h2];refine#[r,er,λz hz=>?_];obtain⟨z1,z2⟩:=pR.mp #[r,er,hz];refine#[#[s,hs,z1],?_];have a:=z2.1 (x+(aG ps t).1) rfl;have b:=z2.2 (x+(aG ps t).2) rfl;lia
noncomputable def aO(cs:List Int)(t:Nat):Int:=cs.getD t 0
theorem meets_of(T:vV ps.length (cn ms) (aG ps))(hm:∀ m∈ms,m.1<=ps.length)(h:∀ t,t<=ps.length->d9 (f6 ps.length (cn ms) (aG ps) t) (c t)):meets ms c:=λm bI=>HM.mp (T.sub _ _ (hm m bI) (h _ (hm m bI))) m bI rfl
noncomputable def dE(ts:List (Option P2))(t:Nat):Option P2:=ts.getD t O
theorem Q3(h:i<ts.length):dE (ts.set i x)=jS (dE ts) i x:=by
 funext t;unfold dE jS;rw[ZG,List.getElem?_set];by_cases e:t=i
 .subst e;rw[if_pos Y,if_pos Y,if_pos h];rfl
 .rw[if_neg (λz=>e z.symm),if_neg e];exact (ZG ..).symm
theorem Q4(n:Nat):dE (aaH n O)=λy=>O:=by funext t;unfold dE;rw[ZG,ab6];split<;>rfl
end Gz
namespace Gz
open PySem PySem.Spec PyProof.Rows L2
noncomputable def rowOf(H:Hp):V->List V
 | .ref p=>match H p with
  | some (.tup xs)=>xs
  | _=>[]
 | _=>[]
theorem jf(h:H p=U (.tup xs)):rowOf H (.ref p)=xs:=by
 show (match H p with
  | some (.tup xs)=>xs
  | _=>[])=xs
 rw[h]
def jT(row:V->List V)(tt:TT):TT:=λJ H Q=>match J with
 | some v::ρ=>tt ((row v).map U++ρ) H Q
 | _=>False
def jU(row:V->List V)(te:TE):TE:=λJ H Q=>match J with
 | some v::ρ=>te ((row v).map U++ρ) H Q
 | _=>False
section
variable{K:ZF}{ρ:L2.St}{tt:TT}{te:TE}{H:Hp}{Q:VK}{a:ZX}{xs:List V}{row:V->List V}
def l8(K:ZF)(a:ZX)(xs:List V)(row:V->List V)(k:Nat)(H:Hp):Prop:=ah K H a xs/\∀ x∈xs,∃ p,x = .ref p/\aw K H p (row x)/\(row x).length=k
theorem HP{k:Nat}{g:TG}(hg:∀ (p:ZX) (ys:List V) (os:List (Option V)) (H:Hp) (Q:L2.St->Hp->Prop),os.length=k->ys.length=k->aw K H p ys->Q (ys.map U++ρ) H->g (.ref p) (os++ρ) H Q)
 (hn:xs.length<=aah) (h:eK (l8 K a xs row k) ρ (jT row tt) (jU row te) xs [] H λzs H'=>∀ l,H' l=O->Q (.ref l) (upd H' l (.lst zs))) :
 i8 k (iX K a) g ρ tt te H Q:=by
 refine#[λi m ys H=>m=xs.length-i/\i<=xs.length/\ys.length<=i/\eK (l8 K a xs row k) ρ (jT row tt) (jU row te) (xs.drop i) ys H λys H'=>∀ l,H' l=O->Q (.ref l) (upd H' l (.lst ys)),#[_,Y,Z3 _,ZS _,h],?_];rintro i m ys H ⟨rfl,hi,hy,c⟩;by_cases aL:i<xs.length
 .have e:=aa4 aL;rw[e] at c;obtain⟨⟨c0,c1⟩,c2⟩:=c;have l1:∀ y:V,(ys++[y]).length<=i+1:=λy=>by rw[aac,aab];lia
  have l2:ys.length<=i+1:=by lia
  refine .inr #[#[xs,_,c0,ZK aL],by lia,λzs H'=>zs.length<=i+1/\eK (l8 K a xs row k) ρ (jT row tt) (jU row te) (xs.drop (i+1)) zs H' λys H'=>∀ l,H' l=O->Q (.ref l) (upd H' l (.lst ys)),λzs H' q=>#[_,by lia,Y,aL,q.1,q.2],λos yH v H' y=>?_];obtain⟨rfl,ex⟩:=y;have ex:=ex xs c0;rw[ZK aL] at ex;obtain⟨p,ep,hp,hl⟩:=c1 xs[i] (abj _);cases ex;rw[ep] at hp hl c2 ⊢;refine hg p _ os _ _ yH hl hp #[(row (.ref p)).map U,by rw[ZJ];exact hl,Y,?_];simp only[l1,l2,true_and];exact c2
 .have e:i=xs.length:=by lia
  subst e;rw[ahy] at c;exact .inl #[#[xs,c.1.1,ZS _],by lia,c.2]
theorem zX{α:Type}{l:List α}{n:Nat}(h:l.length=n+1):∃ a r,l=a::r/\r.length=n:=by
 cases l with
 | nil=>cases h
 | cons a r=>exact#[a,r,Y,Nat.succ.inj h]
theorem zY{α:Type}{l:List α}(h:l.length=2):∃ a b,l=[a,b]:=by obtain⟨a,r,rfl,j⟩:=zX (n:=1) h;obtain⟨b,r,rfl,k⟩:=zX (n:=0) j;obtain rfl:=List.eq_nil_of_length_eq_zero k;exact#[a,b,Y]
theorem HQ{α:Type}{l:List α}(h:l.length=3):∃ a b c,l=[a,b,c]:=by obtain⟨a,r,rfl,k⟩:=zX (n:=2) h;obtain⟨b,c,rfl⟩:=zY k;exact#[a,b,c,Y]
theorem Q5{p:ZX}{ys:List V}{os:List (Option V)}{H:Hp}{Q:L2.St->Hp->Prop}(ho:os.length=2)(hy:ys.length=2)(h:aw K H p ys)(q:Q (ys.map U++ρ) H):iW K 2 (cA (bU 0) (cA (bU 1) ia)) (.ref p) (os++ρ) H Q:=by obtain⟨o1,o2,rfl⟩:=zY ho;obtain⟨x,y,rfl⟩:=zY hy;exact kI h q
theorem Q6{p:ZX}{ys:List V}{os:List (Option V)}{H:Hp}{Q:L2.St->Hp->Prop}(ho:os.length=3)(hy:ys.length=3)(h:aw K H p ys)(q:Q (ys.map U++ρ) H):iW K 3 (cA (bU 0) (cA (bU 1) (cA (bU 2) ia))) (.ref p) (os++ρ) H Q:=by obtain⟨o1,o2,o3,rfl⟩:=HQ ho;obtain⟨x,y,z,rfl⟩:=HQ hy;exact vS h q
theorem HR(hn:xs.length<=aah)(h:eK (l8 K a xs row 2) ρ (jT row tt) (jU row te) xs [] H λzs H'=>∀ l,H' l=O->Q (.ref l) (upd H' l (.lst zs))) :
 i8 2 (iX K a) (iW K 2 (cA (bU 0) (cA (bU 1) ia))) ρ tt te H Q:=HP (λy y y y y ho hy h q=>Q5 ho hy h q) hn h
theorem HS(hn:xs.length<=aah)(h:eK (l8 K a xs row 3) ρ (jT row tt) (jU row te) xs [] H λzs H'=>∀ l,H' l=O->Q (.ref l) (upd H' l (.lst zs))) :
 i8 3 (iX K a) (iW K 3 (cA (bU 0) (cA (bU 1) (cA (bU 2) ia)))) ρ tt te H Q:=HP (λy y y y y ho hy h q=>Q6 ho hy h q) hn h
end
theorem rQ{α β:Type}{R:Hp->V->α->Prop}{R':Hp->V->β->Prop}{Ok:Hp->Prop}{ρ:L2.St}{tt:TT}{te:TE}{p:α->Bool}{f:α->β}{Q':List V->Hp->Prop}(mono:∀ H H' x a,aj H H'->R H x a->R H' x a)(pG:∀ H H' x a,aj H H'->R' H x a->R' H' x a):∀ {xs:List V} {as:List α} {zs:List V} {bs:List β} {H:Hp},ax (R H) xs as->ax (R' H) zs bs->(∀ H',aj H H'->Ok H') ->
 (∀ x a,a∈as->∀ H',aj H H'->R H' x a->∀ Q:Bool->Hp->Prop,Q (p a) H'->tt (U x::ρ) H' Q)->(∀ x a,a∈as->p a=true->∀ H',aj H H'->R H' x a->∀ Q:VK,(∀ H2 y,aj H' H2->R' H2 y (f a)->Q y H2)->te (U x::ρ) H' Q)->(∀ H' ws,aj H H'->ax (R' H') ws (bs++(as.filter p).map f)->Q' ws H')->eK Ok ρ tt te xs zs H Q'
 | [],[],zs,bs,H,_,hz,cR,_,_,q=>#[cR H (aj.refl H),q H zs (aj.refl H) (by simpa using hz)]
 | x::xs,a::as,zs,bs,H,h,hz,cR,ht,he,q=>by
  refine#[cR H (aj.refl H),ht x a (.head _) H (aj.refl H) h.1 _ ?_];by_cases hp:p a=true
  .rw[if_pos hp];refine he x a (.head _) hp H (aj.refl H) h.1 _ λH2 y s2 ry=>?_;refine rQ mono pG (bs:=bs++[f a]) (h.2.imp λz z r=>mono _ _ _ _ s2 r) ((hz.imp λz z r=>pG _ _ _ _ s2 r).snoc ry) (λH' s'=>cR H' (s2.trans s')) (λx b hb H' s'=>ht x b (.tail _ hb) H' (s2.trans s')) (λx b hb hp H' s'=>he x b (.tail _ hb) hp H' (s2.trans s')) λH' ws s' hw=>q H' ws (s2.trans s') ?_;rw[aaK,if_pos hp];simpa using hw
  .rw[if_neg hp];refine rQ mono pG h.2 hz cR (λx b hb=>ht x b (.tail _ hb)) (λx b hb hp=>he x b (.tail _ hb) hp) λH' ws s' hw=>q H' ws s' ?_;rw[aaK,if_neg hp];exact hw
 | [],_::_,_,_,_,h,_,_,_,_,_=>h.elim
 | _::_,[],_,_,_,h,_,_,_,_,_=>h.elim
theorem Q7(ai:List ZP):ah1 ai.toArray O O (U (-1))=ai.reverse.toArray:=by
 have e1:adH O O (U (-1)) ai.toArray.size=(((ai.length:Nat):Int)-1,-1,-1):=by rw[ZW];rfl
 unfold ah1;rw[e1];dsimp only;have e2:sliceRange (((ai.length:Nat):Int)-1) (-1) (-1)=(Z7 ai.length).map λk=>ai.length-1-k:=by
  unfold sliceRange;have h1:¬ ((-1:Int) > 0):=by lia
  simp only[h1,if_false];by_cases h:ai.length=0
  .rw[h];rfl
  .rw[if_pos (by lia),show (((ai.length:Nat):Int)-1 - -1 - -1-1) / (- -1)=((ai.length:Nat):Int) by
    rw[show (- (-1:Int))=1 by lia,aiT];lia,aat]
   refine acm λk hk=>?_;have:=aas.mp hk;lia
 rw[e2]
 congr 1
 refine acL λk=>?_;have key:((Z7 ai.length).map λk=>ai.length-1-k).filterMap (ai.toArray[·]?)=(Z7 ai.length).map λk=>ai.getD (ai.length-1-k) .none:=by
  rw[List.filterMap_map];have:∀ (l:List Nat),(∀ k∈l,k<ai.length)->l.filterMap ((λx=>ai.toArray[x]?) ∘ λk=>ai.length-1-k)=l.map λk=>ai.getD (ai.length-1-k) .none:=by
   intro l
   induction l with
   | nil=>intro y;rfl
   | cons k l ih =>
    intro h;have hk:=h k (.head _);rw[aaz,Z0];have e:((λx=>ai.toArray[x]?) ∘ λk=>ai.length-1-k) k=U (ai.getD (ai.length-1-k) .none):=by show ai.toArray[ai.length-1-k]?=_;rw[aaO,ZG,ZK (by lia)];rfl
    rw[e,ih λj hj=>h j (.tail _ hj)]
  exact this _ λk hk=>aas.mp hk
 rw[key];by_cases hk:k<ai.length
 .rw[Z1,aa1 hk,acw hk];simp only[Option.map_some];rw[ZG,ZK (by lia)];rfl
 .rw[abB (by rw[ZJ,Z8];lia),abB (by rw[abc];lia)]
section
variable{X:Cx}{e st:ael}{te ts:TE}{p2 pos:Pos}
def HU(K:ZF)(te ts:TE):TE:=λJ H Q=>te J H λx H1=>ts J H1 λy H2=>y = .int (-1)/\∃ a xs,x = .ref a/\ah K H2 a xs/\∀ p,H2 p=O->Q (.ref p) (upd H2 p (.lst xs.reverse))
theorem HV(he:PE X e te)(hs:PE X st ts):PE X (.Subscript e (.Slice O O (U st) p2) pos) (HU X.K te ts):=by intro pins s J H Q I h;refine ahe (az (he pins s J H _ I h) λv s1 zq=>?_);obtain⟨x,H1,I1,r1,q1⟩:=zq;refine wpAny_Slice ?_;rw[agU];refine ZI (ZI ?_);rw[evalPart_some];refine az (hs pins s1 J H1 _ I1 q1) λu s2 zq=>?_;obtain⟨y,H2,I2,r2,q2⟩:=zq;obtain⟨rfl,a,xs,rfl,hx,q⟩:=q2;obtain⟨t,rfl⟩:=r2;cases r1;have I4:Inv X pins J H2 { s2 with heap:=s2.heap.push { cls:=.type "slice",data:=.fields (List.toArray [.none,.none,.int (-1) t]) } }:=I2.kept (t':=s2.toks) λb ob q=>ZH _ q;obtain⟨ai,r,ht,hz⟩:=I4.list hx;have hlen:=r.length;show ZZ (model X.prog X.w) X.A (afn e (.Slice O O (U st) p2) (.ref a) (.ref s2.heap.objs.size)) (EP X pins J Q) X.xe { s2 with heap:=s2.heap.push { cls:=.type "slice",data:=.fields (List.toArray [.none,.none,.int (-1) t]) } };refine tail_any (ops:=[.ref a,.ref s2.heap.objs.size]) ht.isList.typeIs slot_list_getitem.lookup ?_ (by with_unfolding_all rfl);refine ae7 ht.isList (Heap.IsSliceOf.new ..) .none .none (.int (-1) t) (by simp) ?_ (by rw[ZW];lia);rw[Q7];refine#[.ref _,_,I4.laid (t':=s2.toks) (o:=.lst xs.reverse) (λb ob q=>ZH _ q) (ZS _) ?_,Y,q _ (I4.ak.fresh (ZS _))];exact#[by rw[abc];exact hz,_,0,r.reverse,ZR _ Y]
end
theorem Q8{K:ZF}{a:ZX}{xs:List V}{ρ:L2.St}{tt:TT}{te:TE}{H:Hp}{Q:VK}(hn:xs.length<=aah)(h:eK (λH=>ah K H a xs) ρ tt te xs.reverse [] H λys H'=>∀ l,H' l=O->Q (.ref l) (upd H' l (.lst ys))):lR (vF K a xs.length) ρ tt te H Q:=by
 have hr:xs.reverse.length=xs.length:=abc;refine#[λi m ys H=>m=xs.length-i/\i<=xs.length/\ys.length<=i/\eK (λH=>ah K H a xs) ρ tt te (xs.reverse.drop i) ys H λys H'=>∀ l,H' l=O->Q (.ref l) (upd H' l (.lst ys)),#[_,Y,Z3 _,ZS _,h],?_];rintro i m ys H ⟨rfl,hi,hy,g⟩;by_cases aL:i<xs.length
 .have e:=aa4 (show i<xs.reverse.length by lia);rw[e] at g;obtain⟨g0,g1⟩:=g;refine .inr #[#[xs,_,g0,Y,ZK (by lia)],by lia,λzs H'=>zs.length<=i+1/\eK (λH=>ah K H a xs) ρ tt te (xs.reverse.drop (i+1)) zs H' λys H'=>∀ l,H' l=O->Q (.ref l) (upd H' l (.lst ys)),λzs H' q=>#[_,by lia,Y,aL,q.1,q.2],λx H' y=>?_];obtain⟨rfl,ex⟩:=y;have ex:=ex xs g0 rfl;rw[ZK (by lia)] at ex;cases ex;have l1:∀ y:V,(ys++[y]).length<=i+1:=λy=>by rw[aac,aab];lia
  have l2:ys.length<=i+1:=by lia
  simp only[l1,l2,true_and];exact g1
 .have e:i=xs.length:=by lia
  subst e;rw[ad3 (by lia)] at g;exact .inl #[Y,by lia,g.2]
theorem Fc(h:adT us ns):Vals (ns.map V.int) us:=by
 induction h with
 | nil=>exact .nil
 | cons n t r ih=>exact .cons #[t,Y] ih
theorem zZ{α:Type}{R:Hp->V->α->Prop}{Ok:Hp->Prop}{ρ:L2.St}{tt:TT}{te:TE}{p:α->Bool}{Q':List V->Hp->Prop}(mono:∀ H H' x a,aj H H'->R H x a->R H' x a):∀ {xs:List V} {as:List α} {ys:List V} {H:Hp},ax (R H) xs as->(∀ H',aj H H'->Ok H') ->
 (∀ x a,a∈as->∀ H',aj H H'->R H' x a->∀ Q,(∀ lT,aj H' lT->Q (p a) lT)->tt (U x::ρ) H' Q)->(∀ x H',aj H H'->∀ Q:VK,Q x H'->te (U x::ρ) H' Q) ->
 (∀ H' zs,aj H H'->ax (R H') zs (as.filter p)->Q' (ys++zs) H')->eK Ok ρ tt te xs ys H Q'
 | [],[],ys,H,_,cR,_,_,q=>#[cR H (aj.refl H),by simpa using q H [] (aj.refl H) trivial]
 | x::xs,a::as,ys,H,h,cR,ht,he,q=>by
  refine#[cR H (aj.refl H),ht x a (.head _) H (aj.refl H) h.1 _ λH1 s1=>?_];have go:=λ(ws:List V) (q2:∀ H' zs,aj H1 H'->ax (R H') zs (as.filter p)->Q' (ws++zs) H')=>zZ (ys:=ws) mono (h.2.imp λx a r=>mono _ _ _ _ s1 r) (λH' s'=>cR H' (s1.trans s')) (λx a ha H' s'=>ht x a (.tail _ ha) H' (s1.trans s')) (λx H' s'=>he x H' (s1.trans s')) q2;by_cases hb:p a=true
  .rw[if_pos hb];refine he x H1 s1 _ (go _ λH' zs s' hz=>?_);have:=q H' (x::zs) (s1.trans s') (by rw[aaK,if_pos hb];exact#[mono _ _ _ _ (s1.trans s') h.1,hz]);simpa using this
  .rw[if_neg hb];refine go _ λH' zs s' hz=>q H' zs (s1.trans s') ?_;rw[aaK,if_neg hb];exact hz
 | [],_::_,_,_,h,_,_,_,_=>h.elim
 | _::_,[],_,_,h,_,_,_,_=>h.elim
abbrev rR(H:Hp)(v:V)(s:S2):Prop:=aP H v s.1 s.2
noncomputable def cellsFrom:En->List Int->List S2
 | lo,[]=>[(lo,O)]
 | lo,z::zs=>(lo,U (z-1))::cellsFrom (U z) zs
noncomputable def kY(c:S2):Int:=match c.1,c.2 with
 | some x,_=>x
 | none,U y=>y
 | none,O=>0
theorem Q9(h:GA c):hs c (kY c)=true:=by
 rw[Pt];unfold GA at h;rcases c with ⟨z|x,z|y⟩
 .exact#[λz e=>(nomatch e),λz e=>(nomatch e)]
 .exact#[λz e=>(nomatch e),λz e=>by cases e;exact abe _]
 .exact#[λz e=>by cases e;exact abe _,λz e=>(nomatch e)]
 .refine#[λz e=>by cases e;exact abe _,λz e=>?_];cases e;show x<=y;simp[aS] at h;lia
theorem rS(es:List Int):(es.map V.int).all kD=true:=by rw[aiU];exact aaw.mpr λy y=>rfl
theorem pV(a:Int):∀ (es:List Int),vg (.int a) (es.map V.int)=es.contains a
 | []=>rfl
 | e::es=>by
  have ih:=pV a es;unfold vg at *;rw[Z0,abu,ih,List.contains_cons]
  congr 1
  show (e == a)=(a == e);rw[ac8];simp only[beq_iff_eq];exact eq_comm
theorem HW{K:ZF}{H1 H':Hp}{l:ZX}{ys:List V}{tb:Tb}(hl:H1 l=U (.lst ys))(hM:ax (fO H1) ys tb)(s:aj H1 H'):l8 K l ys (rowOf H1) 3 H':=by refine#[ah.of (s _ _ hl),λx hx=>?_];obtain⟨i,hi⟩:=abh.mp hx;obtain⟨m,y,t,p,rfl,h1,h2⟩:=hM.get hi;rw[jf h1];exact#[t,Y,aw.of (s _ _ h1),Y]
noncomputable def cc:Nat->List (List Int)
 | 0=>[[]]
 | n+1=>cc n++(cc n).map λs=>s++[((n:Nat):Int)]
theorem rT:∀ n,(cc n).length=2 ^ n
 | 0=>rfl
 | n+1=>by rw[cc,aac,ZJ,rT n,aiV];lia
theorem rV:∀ (n:Nat) (s:List Int),s∈cc n->s.length<=n
 | 0,s,h=>by
  obtain rfl:s=[]:=by simpa [cc] using h
  exact ZS _
 | n+1,s,h=>by
  rw[cc] at h;rcases aaf.mp h with h|h
  .exact ad8 (rV n s h)
  .obtain⟨s',h',rfl⟩:=ZN.mp h;have:=rV n s' h';rw[aac,aab];lia
def rW(H:Hp)(v:V)(s:List Int):Prop:=∃ l,v = .ref l/\H l=U (.lst (s.map V.int))
noncomputable def cp(tb:Tb)(es:List Int):List Mk:=((jd tb).filter λr=>!es.contains r.1.1).map λr=>(r.1.2.toNat,r.2)
theorem map_some:∀ (l:List α),(l.map f).filterMap id=l.filterMap f
 | []=>rfl
 | a::l=>by rw[Z0,aaz,aaz,map_some l];rfl
theorem b9:∀ {l:List α},l.Pairwise R->∀ {p q:α},p∈l->q∈l->p=q∨R p q∨R q p
 | [],_,_,_,h,_=>by cases h
 | x::l,h,p,q,hp,hq=>by
  have h1:=abL.mp h;rcases ZO.mp hp with e1|i1<;>rcases ZO.mp hq with e2|i2
  .exact .inl (e1.trans e2.symm)
  .rw[e1];exact .inr (.inl (h1.1 q i2))
  .rw[e2];exact .inr (.inr (h1.1 p i1))
  .exact b9 h1.2 i1 i2
theorem HX:∀ {a b:List Int},HT.lexLt a b=false->HT.lexLt b a=false->a=b
 | [],[],_,_=>rfl
 | [],_::_,h,_=>by cases h
 | _::_,[],_,h=>by cases h
 | x::a,y::b,h1,h2=>by
  rw[HT.lN] at h1 h2;by_cases e:x=y
  .subst e;rw[if_pos Y] at h1 h2;rw[HX h1 h2]
  .rw[if_neg e] at h1;rw[if_neg (aaQ e)] at h2;have a1:¬ x<y:=by simpa using h1
   have a2:¬ y<x:=by simpa using h2
   exact absurd (af3 (Int.not_lt.mp a2) (Int.not_lt.mp a1)) e
theorem HY:∀ {as bs:List α},(∀ x∈as,∀ y∈as,R x y->R y x->x=y)->as.Pairwise R->bs.Pairwise R->as.Perm bs->as=bs
 | [],bs,_,_,_,h=>h.nil_eq
 | a::as,[],_,_,_,h=>by cases h.length_eq
 | a::as,b::bs,ha,s1,s2,h=>by
  have e:a=b:=by
   have m1:a∈b::bs:=h.mem_iff.mp (.head _);have m2:b∈a::as:=h.mem_iff.mpr (.head _);rcases ZO.mp m1 with z|z
   .exact z
   .rcases ZO.mp m2 with y|y
    .exact y.symm
    .exact ha a (.head _) b (.tail _ y) ((abL.mp s1).1 b y) ((abL.mp s2).1 a z)
  subst e;rw[HY (λx hx y hy=>ha x (.tail _ hx) y (.tail _ hy)) (abL.mp s1).2 (abL.mp s2).2 (List.Perm.cons_inv h)]
theorem vX:(jd tb).Perm tb:=kK
theorem HZ:(jd tb).Pairwise λa b=>HT.lexLt [b.1.1,b.1.2] [a.1.1,a.1.2]=false:=Gu (f:=λr:P2 × S2=>[r.1.1,r.1.2]) rfl
theorem Ra{tb:Tb}(hn:(tb.map (·.1)).Nodup){x y:P2 × S2}(hx:x∈tb)(hy:y∈tb)(e:x.1=y.1):x=y:=by
 induction tb with
 | nil=>cases hx
 | cons r tb ih =>
  rw[Z0,aaC] at hn;rcases ZO.mp hx with a|a<;>rcases ZO.mp hy with b|b
  .rw[a,b]
  .exact absurd (ZN.mpr #[y,b,by rw[<- e,a]]) hn.1
  .exact absurd (ZN.mpr #[x,a,by rw[e,b]]) hn.1
  .exact ih hn.2 a b
theorem Rb(hn:(tb.map (·.1)).Nodup)(h:tb.Perm cj):jd tb=jd cj:=by refine HY (λx hx y hy r1 r2=>Ra hn (nQ hx) (nQ hy) ?_) HZ HZ (vX.trans (h.trans vX.symm));have:=HX r1 r2;injection this with e1 e2;injection e2 with e2 _;exact Prod.ext e1.symm e2.symm
section
end
noncomputable def Rc(K:ZF)(a b c:ZX):It :=
 #[λi H=>∃ xs ys zs x y z,ah K H a xs/\ah K H b ys/\ah K H c zs/\xs[i]?=U x/\ys[i]?=U y/\zs[i]?=U z,λi H v H'=>∃ (p:ZX) (x y z:V),v = .ref p/\H p=O/\H'=upd H p (.tup [x,y,z])/\(∀ xs,ah K H a xs->xs[i]?=U x)/\(∀ ys,ah K H b ys->ys[i]?=U y)/\∀ zs,ah K H c zs->zs[i]?=U z,
  λi H=>∃ xs,ah K H a xs/\xs.length<=i]
def Rf(K:ZF)(ta:TA):TI:=λJ H R=>ta J H λvs H1=>∃ a b c,vs=[.ref a,.ref b,.ref c]/\(∃ xs,ah K H1 a xs)/\(∃ ys,ah K H1 b ys)/\(∃ zs,ah K H1 c zs)/\R (Rc K a b c) H1
section
def Loose:HO->Prop
 | .dT _=>True
 | .aT _ (.dT _)=>True
 | _=>False
theorem Ia(I:Inv X pins J H s)(e:H a=U u)(lu:Loose u)(h0:∀ o v,X.H₀ a≠U (.aT o v))(new:bE X.prog X.w (upd H a u') s.heap a u'):Inv X pins J (upd H a u') s:=by
 have nn:∀ b,H b=O->b≠a:=λb h z=>by rw[z,e] at h;cases h
 have nt:∀ b xs,H b=U (.tup xs)->b≠a:=λb xs h z=>by rw[z,e] at h;cases h;exact lu
 have no:∀ b x,H b=U (.own x)->b≠a:=λb x h z=>by rw[z,e] at h;cases h;exact lu
 have nb:∀ b ps,H b=U (.tbl ps)->b≠a:=λb ps h z=>by rw[z,e] at h;cases h;exact lu
 refine#[I.ok,I.os,I.bare,#[I.base.keep,I.base.slot,λb o e1 n hx=>?_,I.base.there,λb xs e1=>?_,λb o v e1=>?_,λb ps e1=>?_],I.loc,I.cell,?_,λx c e1=>?_,λp hp=>?_,λb ob e1=>?_,I.len]
 .have:=I.base.free b o e1 n hx;rw[aF (nn b this)];exact this
 .have:=I.base.gy b xs e1;rw[aF (nt b xs this)];exact this
 .have:=I.base.fE b o v e1;rw[aF (show b≠a from λz=>h0 o v (by rw[<- z];exact e1))];exact this
 .obtain⟨more,this⟩:=I.base.gA b ps e1;exact#[more,by rw[aF (nb b _ this)];exact this]
 .rw[aF (nn _ I.free)];exact I.free
 .have:=I.hU x c e1;rw[aF (nn c this)];exact this
 .obtain⟨p1,p2,p3⟩:=I.pin p hp;exact#[p1,by rw[aF (nn _ p2)];exact p2,p3]
 .by_cases hb:b=a
  .subst hb;rw[ar] at e1;cases e1;exact new
  .rw[aF hb] at e1;exact (I.ak b ob e1).g9 (λy y y q=>q) (λc h=>by rw[aF (no c _ h)];exact h) λc xs h=>by rw[aF (nt c xs h)];exact h
theorem Rg(I:Inv X pins J H s)(e:H a=U (.dT kvs)):∃ o,Inv X pins J (upd H a (.aT o (.dT kvs))) s/\∀ o v,X.H₀ a≠U (.aT o v):=by
 have h0:∀ o v,X.H₀ a≠U (.aT o v):=λo v z=>by have:=I.base.fE a o v z;rw[e] at this;cases this
 have ok:=I.ak a _ e;obtain⟨y,y,y,y,o,y,y,ho,y⟩:=id ok;refine#[o,Ia I e trivial h0 #[ho,ok.g9 (λy y y q=>q) (λc h=>?_) λc xs h=>?_],h0]
 .rw[aF λz=>by rw[z,e] at h;cases h];exact h
 .rw[aF λz=>by rw[z,e] at h;cases h];exact h
theorem vY(I:Inv X pins J H s)(e:H a=U (.aT o (.dT kvs)))(h0:∀ o v,X.H₀ a≠U (.aT o v)):Inv X pins J (upd H a (.dT kvs)) s:=by
 obtain⟨y,ok⟩:=I.ak a _ e;refine Ia I e trivial h0 (ok.g9 (λy y y q=>q) (λc h=>?_) λc xs h=>?_)
 .rw[aF λz=>by rw[z,e] at h;cases h];exact h
 .rw[aF λz=>by rw[z,e] at h;cases h];exact h
noncomputable def Ib(a:ZX)(o:Obj)(kvs:List (List Key × V))(D:Ends):Ends where
 nx:=λJ H=>H a=U (.aT o (.dT kvs))/\D.nx J (upd H a (.dT kvs))
 rt:=λv H=>H a=U (.aT o (.dT kvs))/\D.rt v (upd H a (.dT kvs))
 bk:=λJ H=>H a=U (.aT o (.dT kvs))/\D.bk J (upd H a (.dT kvs))
 ct:=λJ H=>H a=U (.aT o (.dT kvs))/\D.ct J (upd H a (.dT kvs))
def Ic(t:TS):TS:=λD J H=>∃ a kvs,H a=U (.dT kvs)/\∀ o,t (Ib a o kvs D) J (upd H a (.aT o (.dT kvs)))
theorem Rh{st:abX}{t:TS}(h:PS X st t):PS X st (Ic t):=by
 rintro pins s J H D I ⟨a,kvs,e,q⟩;obtain⟨o,I1,h0⟩:=Rg I e;refine az (h pins s J _ _ I1 (q o)) λf s' hf=>?_;cases f with
 | next=>obtain⟨σ',H',I',e',q'⟩:=hf;exact#[σ',_,vY I' e' h0,q']
 | brk=>obtain⟨σ',H',I',e',q'⟩:=hf;exact#[σ',_,vY I' e' h0,q']
 | cont=>obtain⟨σ',H',I',e',q'⟩:=hf;exact#[σ',_,vY I' e' h0,q']
 | ret v=>obtain⟨v',σ',H',I',r',e',q'⟩:=hf;exact#[v',σ',_,vY I' e' h0,r',q']
def Ri(t:TE):TE:=λJ H Q=>∃ a kvs,H a=U (.dT kvs)/\∀ o,t J (upd H a (.aT o (.dT kvs))) λv H'=>H' a=U (.aT o (.dT kvs))/\Q v (upd H' a (.dT kvs))
noncomputable def jV(o:Obj):List V:=match o.data with
 | .dict es _=>es.toList.map λe=>match e.key with
  | .ref a=>V.ref a
  | _=>V.non
 | _=>[]
noncomputable def vZ(a:ZX)(o:Obj)(kvs:List (List Key × V)):It where
 go i H:=H a=U (.aT o (.dT kvs))/\i<kvs.length
 yld i H x H':=H'=H/\(jV o)[i]?=U x
 stop i H:=H a=U (.aT o (.dT kvs))/\kvs.length<=i
def z5(tl:TE):TI:=λJ H R=>tl J H λx H1=>∃ a o kvs,x = .ref a/\H1 a=U (.aT o (.dT kvs))/\(iz H1 (jV o) kvs->R (vZ a o kvs) H1)
theorem z6(ok:bS P w H h)(e:H a=U (.aT o (.dT kvs))):∃ (as:List ZX) (es:Array adb) (ep:Nat),iz H (jV o) kvs/\(a == aby)=false/\dD h a es ep/\o.data = .dict es ep/\es.size=kvs.length/\kvs.length<=aah/\∀ i (hi:i<es.size),∃ b,es[i].key = .ref b/\(jV o)[i]?=U (.ref b):=by
 obtain⟨ho,z,lo,xs,rel,o',es,ep,dk,hc,hd,he,hn⟩:=ok a _ e;rw[ho] at dk;cases dk;have hl:xs.length=kvs.length:=(Paired.length rel).symm;have hs:es.size=xs.length:=acJ he;have ek:jV o=(xs.map (·.2.1)).map V.ref:=by unfold jV;rw[hd];show es.toList.map _=_;rw[he,abg,abg];exact acm λx y=>rfl
 refine#[xs.map (·.2.1),es,ep,?_,lo,#[o,ho,hc,hd],hd,hs.trans hl,z,λi hi=>?_]
 .rw[ek];exact KT.G8 rel
 .have hx:i<xs.length:=by lia
  have e1:=entry_at he i;rw[aao hi,ZK hx] at e1;have e2:es[i]=agl (aed (cz P w)) xs[i]:=by simpa using e1
  refine#[xs[i].2.1,by rw[e2];rfl,?_];rw[ek,Z1,Z1,ZK hx];rfl
theorem Rj{P:aaE}{w:abb}{K:ZF}{tg:ael}(a it:ZX)(o:Obj)(kvs:List (List Key × V))(bM:a≠it):Turn P w K tg (vZ a o kvs) [it] it (λi h=>∃ es ep,o.data = .dict es ep/\i<=es.size/\h.IsKeyIter it a i es.size ep) where
 mem:=by simp
 obj:=λi h st b hb=>by
  have e:b=it:=by simpa using hb
  subst e;obtain⟨es,ep,y,y,ob,e,c,d⟩:=st;exact#[ob,e,λv z=>by rw[d] at z;cases z]
 keep:=λi h h' st k=>by obtain⟨es,ep,h1,h2,ob,e,c,d⟩:=st;exact#[es,ep,h1,h2,ob,k it (by simp) ob e,c,d]
 item:=by
  intro X hP hw hK hc i pins s J H E I hf st hg;subst hP hw hK;obtain⟨e,hi⟩:=hg;obtain⟨es,ep,hd,hle,hit⟩:=st;obtain⟨as,es',hV,hk,lo,raw,iU,hs,hz,eG⟩:=z6 I.ak e;rw[hd] at iU;cases iU;obtain⟨f0,f1,f2,f3,f4,f5⟩:=hf it (by simp);have aV:i<es.size:=by lia
  obtain⟨b,eb,kb⟩:=eG i aV;refine G3 hit raw aV λh' kQ sb=>?_;have I1:Inv X pins J H { s with heap:=h' }:=I.turned (t':=s.toks) (λb o hb e=>(sb.2 b hb).trans e) f0 f1 f3 f4 f5;obtain⟨ob,e1,c1,d1⟩:=id kQ;exact#[es[i].key,Y,o5 (s:={ s with heap:=h' }) e1 c1 d1 (by decide) #[.ref b,H,I1,eb,#[Y,kb],#[es,ep,hd,aV,kQ],λb hb=>(hf b hb).1]]
 done:=by
  intro X hP hw hK hc i pins s J H E I hf st hg;subst hP hw hK;obtain⟨e,hi⟩:=hg;obtain⟨es,ep,hd,hle,hit⟩:=st;obtain⟨as,es',hV,hk,lo,raw,iU,hs,hz,eG⟩:=z6 I.ak e;rw[hd] at iU;cases iU;obtain⟨f0,f1,f2,f3,f4,f5⟩:=hf it (by simp);have ei:i=es.size:=by lia
  subst ei;exact G4 (I.ok.hd hc) hit raw λh' eb=>#[Y,I.turned (t':=s.toks) (λb o hb e=>eb b o hb e) f0 f1 f3 f4 f5]
 self:=λy y y y y st h=>by obtain⟨es,ep,y,y,hit⟩:=st;exact agu hit h
theorem Rk(hl:PE X l tl):PI X tg l (z5 tl):=by
 intro pins s J H R I h;refine az (hl pins s J H _ I h) λv s1 zq=>?_;obtain⟨x,H1,I1,r1,q1⟩:=zq;obtain⟨a,o,kvs,e,hf,q⟩:=q1;subst e;cases r1;obtain⟨as,es,ep,hk,lo,raw,hd,hs,hz,eG⟩:=z6 I1.ak hf;refine G2 lo raw ?_;refine#[s1.heap.objs.size,[s1.heap.objs.size],_,_,H1,Y,I1.kept (t':=s1.toks) λb o e=>ZH _ e,Rj a _ o kvs (ZY raw.lt),#[es,ep,hd,Z3 _,_,ZR _ Y,Y,Y],λb hb=>?_,q hk];have e:b=s1.heap.objs.size:=by simpa using hb
 subst e;exact I1.ic (ZS _) (I1.ak.fresh (ZS _))
theorem Rl:jF (z5 tl) g tb D J H=tl J H (λx H1=>∃ a o kvs,x = .ref a/\H1 a=U (.aT o (.dT kvs))/\(iz H1 (jV o) kvs->FJ (vZ a o kvs) g tb D J H1)):=rfl
theorem Rm(Pv:Nat->L2.St->Hp->Prop)(hk:jV o=xs)(Y8:xs.length=kvs.length)(h0:Pv 0 J H)(hl:∀ i J H,i<=xs.length->Pv i J H->H a=U (.aT o (.dT kvs)))(hs:∀ i x J H,xs[i]?=U x->Pv i J H->g x J H λσ2 H2=>tb { D with nx:=Pv (i+1),ct:=Pv (i+1),bk:=D.nx } σ2 H2)(hd:∀ J H,Pv xs.length J H->D.nx J H):FJ (vZ a o kvs) g tb D J H:=by
 refine#[λi m J H=>m=xs.length-i/\i<=xs.length/\Pv i J H,#[xs.length,by simp,Z3 _,h0],?_];rintro i m J H ⟨rfl,hi,p⟩;have q:=hl i J H hi p;by_cases aL:i<xs.length
 .refine .inr #[#[q,by lia],Pv (i+1),λσ' H' p'=>#[xs.length-(i+1),by lia,Y,aL,p'],λx H' y=>?_];obtain⟨e,y⟩:=y;subst e;rw[hk] at y;exact hs i x J _ y p
 .have e:i=xs.length:=by lia
  subst e;exact .inl #[#[q,by lia],hd J H p]
end
theorem v3(e:H a=U u)(h:H p=U v)(ne:v≠u):upd H a w p=U v:=by rw[aF (uL h e ne)];exact h
section
theorem Rn(e:H0 a=U (.dT kvs))(s:aj (upd H0 a (.aT o (.dT kvs))) H1):aj H0 (upd H1 a (.dT kvs)):=λb u h=>by
 by_cases hb:b=a
 .subst hb;rw[e] at h;cases h;exact ar
 .rw[aF hb];exact s b u (by rw[aF hb];exact h)
theorem Ro(e:H a=U (.dT kvs))(h:H p=U (.tup xs)):upd H a u p=U (.tup xs):=v3 e h λz=>nomatch z
theorem Ie(e:H a=U (.dT kvs))(h:H p=U (.lst xs)):upd H a u p=U (.lst xs):=v3 e h λz=>nomatch z
theorem Rp(e:H a=U (.aT o (.dT kvs)))(h:H p=U (.lst xs)):upd H a u p=U (.lst xs):=v3 e h λz=>nomatch z
theorem aP.aT(h:aP H v x y)(e:H a=U (.dT kvs)):aP (upd H a u) v x y:=let ⟨t,e1,h1⟩:=h;#[t,e1,Ro e h1]
theorem aW.aT(h:aW H kvs tb)(e:H a=U (.dT kvs)):aW (upd H a u) kvs tb:=h.imp λy y y z=>z.aT e
theorem Rq{K:ZF}{xs:List V}(e:H a=U (.dT kvs))(h:ah K H p xs):ah K (upd H a (.aT o (.dT kvs))) p xs:=by
 rcases h with (h|⟨z,h⟩)|h
 .exact .inl (.inl (Ie e h))
 .exact .inl (.inr #[z,v3 e h λz=>nomatch z])
 .exact .inr h
end
theorem cJ.z(e:H a=U (.aT o (.dT kvs)))(eb:H b=U (.tup (k.map kV))):cJ H a (.ref b) (bN kvs k):=.inr #[kvs,k,b,.inr #[o,e],Y,eb,Y]
noncomputable def jg(tb:Tb)(i:Int):List Mk:=((jd tb).filter λr=>decide (r.1.1=i)).map λr=>(r.1.2.toNat,r.2)
noncomputable def nT(cs:List Int)(t:Nat):Int:=cs.getD t 0
theorem Ig(h:t<cs.length):(cs.map V.int)[t]?=U (V.int (nT cs t)):=by rw[Z1,ZK h];unfold nT;rw[ZG,ZK h];rfl
theorem Rr(h:tb.Perm rs):(dR tb s w).Perm (dR rs s w):=by
 have e:(tb.any λr=>decide (r.1=s))=rs.any λr=>decide (r.1=s):=by rw[ac8,adD,adD];exact#[λ⟨x,h1,h2⟩=>#[x,h.mem_iff.mp h1,h2],λ⟨x,h1,h2⟩=>#[x,h.mem_iff.mpr h1,h2]]
 unfold dR;rw[e];split
 .exact h.map _
 .exact h.append_right _
theorem Rt(h:tb.Perm rs):(nP tb s).Perm (nP rs s):=h.filter _
theorem Ru(h:r∈dR tb s w):r∈tb∨r=(s,w):=by
 unfold dR at h;split at h
 .obtain⟨x,hx,rfl⟩:=ZN.mp h;by_cases e:x.1=s
  .rw[if_pos e,e];exact .inr rfl
  .rw[if_neg e];exact .inl hx
 .rcases aaf.mp h with z|z
  .exact .inl z
  .exact .inr (aap.mp z)
noncomputable def md(X:Cx)(x:Str)(N':List Str)(scope:afD)(cl:List (Str × ZX))(C:ZX)(s2:ZU)(H2:Hp)(ex:List ZX)(pn:List (ZX × Obj)):Cx :=
 { X with N:=N',s₀:=s2,H₀:=H2,env:=ahT scope ((x,(C+1:Nat))::cl) C X.env,outer:=X.stack,ex:=ex,fn:=λy=>y == x,pn:=pn,xe:=λz z=>False }
structure pW(X:Cx)(x:Str)(scope:afD)(cl:List (Str × ZX))(fr:List Nat)(ys:List Str):Prop where
 clos:ahg scope X.env=pure cl
 one:∀ n acc,PySem.cellsFrom n scope.names acc=(x,n)::acc
 push:∀ h,pushCells h scope.names=h.push { cls:=.type "cell",data:=.cell O }
 kind:scope.kind = .function
 names:(scope.names.all λp=>p.2 != .local || scope.names.lookup p.1 == U .local)=true
 own:scope.names.lookup x=U .cell
 kinds:((relabel scope X.env).names.all λp=>(p.2 != .cell && p.2 != .free) || p.1 == x || (cl.lookup p.1).isSome)=true
 cls:i5 X cl
 a8:gK X scope cl fr ys
 nd:(x::ys).Nodup
 kfr:(ys.all λy=>(relabel scope X.env).names.lookup y == U .cell)=true
theorem Ih{env:Env}:∀ {names:List (Str × afm)} {x:Str},names.lookup x=U .cell ->
 (names.map λ(n,k)=>if (k == NameKind.free && env.scope.kind == .function && env.kindOf n == U .cell) then (n,NameKind.cell) else (n,k)).lookup x=U .cell
 | [],_,h=>by simp at h
 | (n,k)::r,x,h=>by
  have ih:=@Ih env r x;show acT x ((if (k == NameKind.free && env.scope.kind == .function && env.kindOf n == U .cell)=true then (n,NameKind.cell) else (n,k))::_)=_;cases hx:x == n with
  | true =>
   simp only[abO,hx] at h;cases h;simp[abO,hx]
  | false =>
   simp only[abO,hx] at h;by_cases hc:(k == NameKind.free && env.scope.kind == .function && env.kindOf n == U .cell)=true
   .rw[if_pos hc];simp only[abO,hx];exact ih h
   .rw[if_neg hc];simp only[abO,hx];exact ih h
theorem nU{x y:Str}{a c:ZX}{cl:List (Str × ZX)}(h:((x,a)::cl).lookup y=U c):(y=x/\c=a)∨(y≠x/\cl.lookup y=U c):=by
 rw[abO] at h;by_cases hy:(y == x)=true
 .rw[hy] at h;cases h;exact .inl #[by simpa using hy,Y]
 .rw[adj.mpr hy] at h;exact .inr #[by simpa using hy,h]
theorem Rv{x y:Str}{a c:ZX}{cl:List (Str × ZX)}(h:cl.lookup y=U c)(hy:y≠x):((x,a)::cl).lookup y=U c:=by rw[abO,beq_eq_false_iff_ne.mpr hy];exact h
theorem Rw(one:∀ n acc,PySem.cellsFrom n scope.names acc=(x,n)::acc)(push:∀ h,pushCells h scope.names=h.push { cls:=.type "cell",data:=.cell O })(hQ:Q (newEnv scope s.heap.objs.size globals ((x,(s.heap.objs.size+1:Nat))::cl) qual O .none (U env) ag9) { s with heap:=(s.heap.push { cls:=.type "dict",data:=.dict (List.toArray []) }).push { cls:=.type "cell",data:=.cell O } }) :
 ZZ M A (aeV scope globals cl [] qual O .none (U env)) Q E s:=by
 simp only[aeV,agY,if_true];refine ZE (wpAny_alloc ?_);refine ZE (wpAny_layCells _ (λname kind cells=>by cases hkc:kind == NameKind.cell<;>simp[hkc]) _ _ _ _ ?_);rw[one,push,show ({ s with heap:=s.heap.push { cls:=.type "dict",data:=.dict (List.toArray []) } }:ZU).heap.objs.size=s.heap.objs.size+1 from abm ..];refine ZE ?_;rw[List.forIn_nil];exact ZI (ZI hQ)
theorem Rx{X:Cx}{K:ZF}{tg l:ael}{tl:TE}(h:X.K=K)(hl:PE X l tl):PI X tg l (uU K tl):=h ▸ df hl
section
theorem pW.low(S:pW X x scope cl fr ys)(I2:Inv X pins J H2 s2)(e:cl.lookup y=U c):c<s2.heap.objs.size:=by obtain⟨v,o,ho,z⟩:=I2.cell y c (S.cls.get y c e);exact ZM ho
theorem Ry(S:pW X x scope cl fr ys)(I2:Inv X pins J H2 s2)(f2:∀ b∈ex,de X pins H2 b)(hC:s2.heap.objs.size<=C)(hex:∀ b∈ex,b<s2.heap.objs.size):(md X x (x::ys) scope cl C s2 H2 ex pn).Ok:=by
 refine#[I2.ok.mod,S.kind,I2.ok.glob,I2.ok.blt,hC,λa b c h1 h2=>?_,λy hy=>?_,λy c hy h1=>?_,I2.ok.hd,I2.ok.frames,.inl rfl,λb hb=>#[?_,λy c e z=>?_],I2.bs,ZQ I2.ok.bsz I2.sz,λb o e hb=>?_,λb hb z=>?_,I2.stack,I2.qH]
 .rcases nU h1 with ⟨e1,e2⟩|⟨v,e1⟩<;>rcases nU h2 with ⟨e3,e4⟩|⟨v,e3⟩
  .rw[e1,e3]
  .have:=S.low I2 e3;walk_at "o"
  .have:=S.low I2 e1;walk_at "o"
  .exact I2.ok.inj a b c (S.cls.get a c e1) (S.cls.get b c e3)
 .have yF:(relabel scope X.env).names.lookup y=U .cell∨(relabel scope X.env).names.lookup y=U .free:=hy;have q:(y == x)=true∨(cl.lookup y).isSome=true:=by
   rcases yF with e|e
   .simpa using vz S.kinds e
   .simpa using vz S.kinds e
  show ∃ c,((x,(C+1:Nat))::cl).lookup y=U c;rw[abO];by_cases hyx:(y == x)=true
  .rw[hyx];exact#[_,Y]
  .rw[adj.mpr hyx];exact abA.mp (q.resolve_left hyx)
 .have e:y=x:=by have:(y == x)=true:=hy;simpa using this
  rcases nU h1 with ⟨v,e2⟩|⟨n,v⟩
  .show s2.heap.objs.size<=c;walk_at "o"
  .exact absurd e n
 .exact ZY (Z9 (hex b hb) hC)
 .have:=hex b hb;rcases nU e with ⟨v,e2⟩|⟨v,e2⟩
  .walk_at "o"
  .exact (f2 b hb).2.2.2.2.1 y c (S.cls.get y c e2) z
 .obtain⟨v,v,v,d,v,v⟩:=f2 b hb;rcases d with d|d
  .exact I2.ok.noex b o e d
  .exact absurd (Z9 (ZM e) (ZQ I2.ok.bsz d)) (aa8 _)
 .obtain⟨v,d1,d2,v⟩:=f2 b hb;rcases ZO.mp (I2.nc b z) with q|q
  .exact d1 q
  .exact d2 q
theorem Rz{J9q:It}{fp:List ZX}{it:ZX}{tn:Nat->acz->Prop}{E:ZP->ZU->Prop}{Q:VK}{RR:ZP->ZX->afW->ZU->Prop}
 (S:pW X x scope cl fr ys) (hc:X.calm=true)
 (hb:∀ (C:ZX) (s:ZU) (H:Hp) (ex:List ZX) (pn:List (ZX × Obj)),ip (md X x (x::ys) scope cl C s H ex pn) ifs tt/\PE (md X x (x::ys) scope cl C s H ex pn) elt te)
 (I2:Inv X pins J H2 s2) (T:Turn X.prog X.w X.K (.Name x px) J9q fp it tn) (eF:tn 0 s2.heap) (f2:∀ b∈fp,de X pins H2 b)
 (h:lR J9q (fr.map λj=>(J[j]?).join) tt te H2 Q)
 (rn:∀ D C s' H',Inv X pins J H' s'->(∃ m,s'.heap.Ns C m)->de X pins H' C->Q (.ref D) H'->RR (.ref D) C (.ok .next) s') :
 ZZ (model X.prog X.w) X.A (aiB []) (λacc s3=>ZZ (model X.prog X.w) X.A (aeV scope X.env.globals cl [] X.env.qual O .none (U X.env)) (λrB s4 =>
  acF (model X.prog X.w) X.A (.compStart (.ListComp elt [#[.Name x px,iter,ifs,0]] scope pos) 0 (.ref it) acc { rB with scope:=relabel scope X.env }) (RR acc rB.locals) s4) E s3) E s2:=by
 refine aaU (Rw S.one S.push ?_);dsimp only;generalize eP:s2.heap.push { cls:=.type "list",dict:=O,data:=.seq ([]:List ZP).toArray }=P2;have sz:P2.objs.size=s2.heap.objs.size+1:=by rw[<- eP,abm]
 have jL:s2.heap.objs.size≠P2.objs.size:=by walk_at "o"
 generalize eh:(P2.push { cls:=.type "dict",data:=.dict (List.toArray []) }).push { cls:=.type "cell",data:=.cell O }=h1;have Ii:∀ b o,P2.get? b=U o->h1.get? b=U o:=λb o e=>by rw[<- eh];exact ZH _ (ZH _ e)
 have keep:∀ b o,s2.heap.get? b=U o->h1.get? b=U o:=λb o e=>Ii b o (eP ▸ ZH _ e);have hD:h1.get? s2.heap.objs.size=U { cls:=.type "list",data:=.seq ([]:List ZP).toArray 0 }:=Ii _ _ (eP ▸ ZR _ Y);have jJ:h1.Ns P2.objs.size λ_=>O:=by rw[<- eh];exact (Heap.Ns.new P2 (.type "dict")).keeps λb o e=>ZH _ e
 have qJ:h1.IsCell (P2.objs.size+1:Nat) O:=by have e:=ZR (P2.push { cls:=.type "dict",data:=.dict (List.toArray []) }) (o:={ cls:=.type "cell",data:=.cell O }) rfl;rw[abm,eh] at e;exact#[_,e,Y]
 have gL:∀ b∈fp,b<s2.heap.objs.size:=λb hb=>by obtain⟨o,e,_⟩:=T.obj 0 _ eF b hb;exact ZM e
 generalize eC:P2.objs.size=C at jJ qJ jL ⊢;generalize eD:s2.heap.objs.size=D at jL hD;have jM:s2.heap.objs.size<=C:=by walk_at "o"
 have nF:s2.heap.objs.size<=D:=by walk_at "o"
 have yL:(md X x (x::ys) scope cl C s2 H2 fp (X.pn++pins)).Ok:=Ry S I2 f2 jM (λb hb=>by have:=gL b hb;walk_at "o");have rq:=yG I2 f2 jM nF;have I4:Inv (md X x (x::ys) scope cl C s2 H2 fp (X.pn++pins)) [] (O::fr.map λj=>(J[j]?).join) H2 { s2 with heap:=h1 }:=by
  refine#[yL,Y,I2.bare,Un.kept keep,#[_,jJ,λi y v e1 e2 e3=>?_],λy c e=>?_,I2.ak.fresh jM,λy c e=>?_,λp hp=>?_,I2.ak.kept keep,?_]
  .cases i with
   | zero=>simp at e2
   | succ i =>
    simp only[ab8] at e1 e2;have lS:ys[i]?=U y:=e1;obtain⟨j,c,hN,hσ,hk,yM,yN⟩:=S.a8.get i y v lS e2;obtain⟨m,hm,hl⟩:=I2.loc;obtain⟨u,ru,lu⟩:=hl j y v hN hσ (.inr (.inl hk));have yx:y≠x:=λz=>(aaC.mp S.nd).1 (z ▸ Z2 lS);refine#[u,ru,.inr #[.inl ?_,c,Rv yM yx,?_]]
    .have z:=aaw.mp S.kfr y (Z2 lS);exact (by simpa using z:(relabel scope X.env).names.lookup y=U .cell)
    .rcases lu with ⟨z,_⟩|⟨_,c',e',q'⟩
     .rw[hk] at z;cases z
     .rw[yN] at e';cases e';obtain⟨o,ho,hd⟩:=q';exact#[o,keep _ _ ho,hd]
  .rcases nU e with ⟨_,rfl⟩|⟨_,e⟩
   .exact#[_,qJ]
   .obtain⟨v,o,ho,hd⟩:=I2.cell y c (S.cls.get y c e);exact#[v,o,keep _ _ ho,hd]
  .rcases nU e with ⟨_,rfl⟩|⟨_,e⟩
   .exact I2.ak.fresh (by walk_at "o")
   .exact I2.hU y c (S.cls.get y c e)
  .have cC:p∈X.pn++pins:=by have:p∈(X.pn++pins)++[]:=hp;simpa using this
   obtain⟨e,n,_,_,d⟩:=I2.pin p cC;obtain⟨p1,_,p3,_⟩:=rq p cC;exact#[keep _ _ e,n,p1,p3,d]
  .show (O::fr.map λj=>(J[j]?).join).length=(x::ys).length;simp[S.a8.len]
 refine Fw (os0:=[O]) hc (eE (X:=md X x (x::ys) scope cl C s2 H2 fp (X.pn++pins)) (i:=0) S.nd Y (.inr (Ih S.own)) (.inl (beq_self_eq_true x))) (hb C s2 H2 fp (X.pn++pins)) I2 T eF f2 (yP h) rn Y I4 keep hD eD (sz.symm.trans eC) λy c e=>?_;rcases nU e with ⟨_,e2⟩|⟨_,e2⟩
 .exact#[by walk_at "o",λb hb=>by have:=gL b hb;walk_at "o"]
 .have:=S.low I2 e2;exact#[by walk_at "o",λb hb z=>(f2 b hb).2.2.2.2.1 y c (S.cls.get y c e2) z]
theorem RA(S:pW X x scope cl fr ys)(hc:X.calm=true)(hi:PI X (.Name x px) iter wi)(hb:∀ (C:ZX) (s:ZU) (H:Hp) (ex:List ZX) (pn:List (ZX × Obj)),ip (md X x (x::ys) scope cl C s H ex pn) ifs tt/\PE (md X x (x::ys) scope cl C s H ex pn) elt te)(hs:∀ z,abR iter X.env z=pure z:=by intro v;rfl):PE X (.ListComp elt [#[.Name x px,iter,ifs,0]] scope pos) (vy wi fr tt te):=by
 intro pins s J H Q I h;rw[eval_ListComp];refine adM (use:=O) Y hs S.clos S.kind (λy hy hl=>?_) (az (hi pins s J H _ I h) λxv s1 h1=>az h1 λqO s2 h2=>?_)
 .have z:=aaw.mp S.names y hy;rw[hl] at z;simpa using z
 .obtain⟨it,fp,tn,J9q,H2,rfl,I2,T,eF,f2,hB⟩:=h2;refine Rz (RR:=λacc C=>compPost (model X.prog X.w) X.A X.xe O (EP X pins J Q) acc C) S hc hb I2 T eF f2 hB λD C s' H' J' hn fC q=>?_;obtain⟨m,hm⟩:=hn;obtain⟨c0,c1,c2,c3,c4,c5⟩:=fC;exact#[m,hm,λh' sb=>#[.ref D,H',J'.turned (it:=C) (λb o hb e=>sb.extBut b o hb e) c0 c1 c3 c4 c5,Y,q]]
end
end Gz
namespace kZ
open PySem
noncomputable def gT(mask i:Nat):List Nat:=(Z7 (abr mask i+1-i)).map (i + ·)
noncomputable def eo(mask:Nat):Nat->Nat->Nat->List Nat
 | 0,_,_=>[]
 | n+1,i,p=>gT mask i++eo mask n (abw mask i p).1 (abw mask i p).2
noncomputable def road(mask:Nat)(h:Int):List Nat:=eo mask (ac4 mask) (SetTable.bits h % (mask+1)) (SetTable.bits h)
noncomputable def z7(mask:Nat):Nat->Nat->List Nat
 | 0,_=>[]
 | n+1,i=>i::z7 mask n ((i * 5+1) % (mask+1))
noncomputable def v5(l:List Nat):Nat:=l.foldr (λx a=>a ||| 2 ^ x) 0
theorem Ij(j:Nat):∀ l:List Nat,(v5 l).testBit j=true->j∈l
 | [],h=>by simp[v5] at h
 | x::l,h=>by
  have h':((v5 l) ||| 2 ^ x).testBit j=true:=h;rw[Nat.testBit_or,abJ] at h';rcases h' with h'|h'
  .exact Z6 _ (Ij j l h')
  .rw[Nat.testBit_two_pow] at h';rw[of_decide_eq_true h'];exact aaA
theorem RB(mask i:Nat):i∈gT mask i:=by unfold gT;refine ZN.mpr #[0,aas.mpr ?_,Y];unfold abr;split<;>lia
theorem Ik(mask:Nat):∀ (n i:Nat),∀ x∈z7 mask n i,x∈eo mask n i 0
 | 0,_,x,h=>by cases h
 | n+1,i,x,h=>by
  rcases ZO.mp h with rfl|h
  .exact aa6 _ (RB _ _)
  .refine aaa _ ?_;have:=Ik mask n _ x h;simpa [abw] using this
theorem Il(mask:Nat):∀ (k n i p:Nat),i<=mask->∃ i',i'<=mask/\∀ x∈eo mask n i' (p / 32 ^ k),x∈eo mask (k+n) i p
 | 0,n,i,p,hi=>#[i,hi,λx h=>by simpa using h]
 | k+1,n,i,p,hi=>by
  obtain⟨i',hi,h⟩:=Il mask k n (abw mask i p).1 (abw mask i p).2 (acM (aev _ (by lia)));refine#[i',hi,λx hx=>?_];rw[show k+1+n=(k+n)+1 from by lia];refine aaa _ (h x ?_);have:(abw mask i p).2 / 32 ^ k=p / 32 ^ (k+1):=by show p / 32 / 32 ^ k=_;rw[Nat.div_div_eq_div_mul,aiV,Nat.mul_comm]
  rw[this];exact hx
def jW(m:Nat):Prop:=m=7∨m=31∨m=127
theorem RC(hm:jW m):((Z7 (m+1)).all λi=>v5 (z7 m (m+2) i) == 2 ^ (m+1)-1)=true:=by rcases hm with rfl|rfl|rfl<;>decide +kernel
theorem RD(hm:jW m)(h:Int)(hj:j<=m):j∈road m h:=by
 unfold road;have hb:SetTable.bits h<2 ^ 64:=by unfold SetTable.bits;lia
 obtain⟨i',hi,k⟩:=Il m 13 (m+2) (SetTable.bits h % (m+1)) (SetTable.bits h) (acM (aev _ (by lia)));rw[show ac4 m=13+(m+2) from by unfold ac4;lia];refine k j ?_;rw[Nat.div_eq_of_lt (Z9 hb (by decide))];refine Ik m _ _ j (Ij j _ ?_);have:=aaw.mp (RC hm) i' (aas.mpr (by lia));rw[eq_of_beq this,Nat.testBit_two_pow_sub_one];simp;lia
theorem RE(hi:i<=m)(h:x∈gT m i):x<=m:=by unfold gT at h;obtain⟨k,hk,rfl⟩:=ZN.mp h;have:=aas.mp hk;unfold abr at this;split at this<;>lia
theorem Im:∀ (n i p:Nat),i<=m->∀ x∈eo m n i p,x<=m
 | 0,_,_,_,x,h=>by cases h
 | n+1,i,p,hi,x,h=>by
  rcases aaf.mp h with h|h
  .exact RE hi h
  .exact Im n _ _ (acM (aev _ (by lia))) x h
theorem v7(hx:x∈road m h):x<=m:=Im _ _ _ (acM (aev _ (by lia))) x hx
theorem z9[DecidableEq α](p:α->Prop)[DecidablePred p]:∀ l:List α,(∃ x∈l,p x)->∃ a x b,l=a++x::b/\p x/\∀ y∈a,¬ p y
 | [],⟨x,h,_⟩=>by cases h
 | y::l,⟨x,h,px⟩=>by
  by_cases py:p y
  .exact#[[],y,l,Y,py,λv h=>by cases h]
  .rcases ZO.mp h with rfl|h
   .exact absurd px py
   .obtain⟨a,z,b,e,pz,k⟩:=z9 p l #[x,h,px];exact#[y::a,z,b,by rw[e];rfl,pz,λq hq=>(ZO.mp hq).elim (λe=>e ▸ py) (k q)]
noncomputable def k6(t:ac6):Nat->adx->List Nat
 | 0,_=>[]
 | n+1,p=>p.j::k6 t n (t.advance p)
theorem Io(t:ac6):∀ (k n:Nat) (p:adx),p.more+1=k->∃ p',k6 t (k+n) p=(Z7 k).map (p.j + ·)++k6 t n p' /\
 p'.i=(abw t.mask p.i p.perturb).1/\p'.j=p'.i/\p'.more=abr t.mask p'.i-p'.i/\p'.perturb=(abw t.mask p.i p.perturb).2/\p'.dummy=p.dummy
 | 0,n,p,h=>by lia
 | 1,n,p,h=>by
  refine#[t.advance p,?_,?_]
  .rw[aiW];simp[k6,adX]
  .have:p.more=0:=by lia
   simp[afB,this,abw]
 | k+2,n,p,h=>by
  have hm:p.more > 0:=by lia
  have ha:t.advance p = { p with j:=p.j+1,more:=p.more-1 }:=by simp[afB,hm]
  obtain⟨p',e,r⟩:=Io t (k+1) n (t.advance p) (by rw[ha];show p.more-1+1=k+1;lia);rw[ha] at e r;refine#[p',?_,r];rw[show k+2+n=(k+1+n)+1 from by lia];show p.j::k6 t (k+1+n) (t.advance p)=_;rw[ha,e,List.range_succ_eq_map (n:=k+1)];simp only[Z0,abg,aiR,afA,adY,true_and]
  congr 1
  apply acm;intro a y;simp;lia
theorem Ip(t:ac6):∀ (n m:Nat) (p:adx),p.j=p.i->p.more=abr t.mask p.i-p.i->10 * n<=m->∃ r,k6 t m p=eo t.mask n p.i p.perturb++r
 | 0,m,p,_,_,_=>#[_,Y]
 | n+1,m,p,hj,hm,hl=>by
  have hk:p.more+1<=10:=by rw[hm];unfold abr;split<;>lia
  obtain⟨p',e,e1,e2,e3,e4,e5⟩:=Io t (p.more+1) (m-(p.more+1)) p rfl;rw[show p.more+1+(m-(p.more+1))=m from by lia] at e;obtain⟨r,er⟩:=Ip t n (m-(p.more+1)) p' e2 e3 (by lia);refine#[r,?_];rw[e,er,e1,e4,<- acd]
  congr 1
  show _=gT t.mask p.i++_
  congr 1
  unfold gT;rw[hj,show abr t.mask p.i+1-p.i=p.more+1 from by rw[hm];unfold abr;split<;>lia]
theorem Aa(t:ac6)(h:Int):∃ r,k6 t (10 * ac4 t.mask) (t.probeStart h)=road t.mask h++r :=
 Ip t _ _ _ Y Y (ZS _)
theorem RF(t:ac6)(p:adx):(t.advance p).dummy=p.dummy:=by unfold afB;split<;>rfl
theorem Ab(t:ac6)(f:Nat->Int)(h:Int)(j:Nat)(r:List Nat)(hj:t.slot j = .empty):∀ (l:List Nat) (n:Nat) (p:adx),k6 t n p=l++j::r ->
 (∀ q∈l,∃ i,t.slot q = .live i/\f i≠h)->acN t f h n p=U (.empty j p.dummy)
 | l,0,p,e,_=>by cases l<;>cases e
 | [],n+1,p,e,_=>by obtain⟨e1,y⟩:=List.cons.inj e;simp only[acN,e1,hj]
 | q::l,n+1,p,e,hl=>by obtain⟨e1,e2⟩:=List.cons.inj e;obtain⟨i,hi,hf⟩:=hl q aaA;simp only[acN,e1,hi,beq_iff_eq,hf,if_false];rw[Ab t f h j r hj l n _ e2 (λq hq=>hl q (Z6 _ hq)),RF]
theorem Iq(t:ac6)(f:Nat->Int)(h:Int)(j i₀:Nat)(r:List Nat)(hj:t.slot j = .live i₀)(hf:f i₀=h):∀ (l:List Nat) (n:Nat) (p:adx),k6 t n p=l++j::r ->
 (∀ q∈l,∃ i,t.slot q = .live i/\f i≠h)->∃ nx,acN t f h n p=U (.candidate j i₀ nx)
 | l,0,p,e,_=>by cases l<;>cases e
 | [],n+1,p,e,_=>by obtain⟨e1,y⟩:=List.cons.inj e;exact#[t.advance p,by simp only[acN,e1,hj,hf,beq_self_eq_true,if_true]]
 | q::l,n+1,p,e,hl=>by obtain⟨e1,e2⟩:=List.cons.inj e;obtain⟨i,hi,v8⟩:=hl q aaA;simp only[acN,e1,hi,beq_iff_eq,v8,if_false];exact Iq t f h j i₀ r hj hf l n _ e2 (λq hq=>hl q (Z6 _ hq))
theorem Ac(xs:Array Nat)(j:Nat):∀ (n lo hi:Nat),hi-lo<=n->lo<=hi->hi<=xs.size->(∀ k,k<lo->xs.getD k j<j)->(∀ k,hi<=k->k<xs.size->¬ xs.getD k j<j) ->
 (∀ a b,a<b->b<xs.size->xs.getD a j<xs.getD b j) ->
 let r:=SetTable.below.go xs j n lo hi
 r<=xs.size/\(∀ k,k<r->xs.getD k j<j)/\(∀ k,r<=k->k<xs.size->¬ xs.getD k j<j)
 | 0,lo,hi,hn,hl,hs,h1,h2,hr=>by
  obtain rfl:lo=hi:=by lia
  exact#[hs,h1,h2]
 | n+1,lo,hi,hn,hl,hs,h1,h2,hr=>by
  dsimp only;unfold SetTable.below.go;by_cases aL:lo<hi
  .simp only[aL,if_true];by_cases hm:xs.getD ((lo+hi) / 2) j<j
   .simp only[hm,if_true];exact Ac xs j n _ hi (by lia) (by lia) hs (λk hk=>by
     by_cases e:k=(lo+hi) / 2
     .rw[e];exact hm
     .have:=hr k ((lo+hi) / 2) (by lia) (by lia);lia) h2 hr
   .simp only[hm,if_false];exact Ac xs j n lo _ (by lia) (by lia) (by lia) h1 (λk hk eM=>by
     by_cases e:k=(lo+hi) / 2
     .rw[e];exact hm
     .have:=hr ((lo+hi) / 2) k (by lia) eM;lia) hr
  .simp only[aL,if_false];obtain rfl:lo=hi:=by lia
   exact#[hs,h1,h2]
def kL(l:List Nat):Prop:=l.Pairwise (· < ·)
theorem RG(h:kL l)(j:Nat)(cD:a<b)(hb:b<l.toArray.size):l.toArray.getD a j<l.toArray.getD b j:=by
 have bW:b<l.length:=by simpa using hb
 have:=acA.mp h a b (by lia) bW cD;simpa [adO,bW,show a<l.length from by lia] using this
theorem wa{l:List Nat}(h:kL l)(j:Nat):let r:=SetTable.below l.toArray j
 r<=l.length/\(∀ x∈l.take r,x<j)/\(∀ x∈l.drop r,j<=x):=by
 have k:=Ac l.toArray j l.toArray.size 0 l.toArray.size (by lia) (by lia) (by lia) (λk hk=>by lia) (λk pX eM=>by lia) (λa b cD hb=>RG h j cD hb);dsimp only at k ⊢;rw[show SetTable.below.go l.toArray j l.toArray.size 0 l.toArray.size=SetTable.below l.toArray j from Y] at k;obtain⟨k1,k2,k3⟩:=k;have RH:SetTable.below l.toArray j<=l.length:=by simpa using k1
 refine#[RH,λx hx=>?_,λx hx=>?_]
 .obtain⟨i,hi,rfl⟩:=aaD hx;have aV:i<SetTable.below l.toArray j:=by simp at hi;lia
  have:=k2 i aV;have hl:i<l.length:=by lia
  simpa [adO,hl] using this
 .obtain⟨i,hi,rfl⟩:=aaD hx;have aV:SetTable.below l.toArray j+i<l.length:=by simp at hi;lia
  have:=k3 (SetTable.below l.toArray j+i) (by lia) (by simpa using aV);simpa [adO,aV] using this
theorem below_at(h:kL l)(hi:l[i]?=U j):SetTable.below l.toArray j=i:=by
 have hb:=wa h j;dsimp only at hb;generalize SetTable.below l.toArray j=r at hb;obtain⟨hr,h1,h2⟩:=hb;obtain⟨wb,ir⟩:=ZL.mp hi;rcases aff r i with aL|rfl|bA
 .exfalso;have:=h2 l[r] (aeX.mpr #[0,by lia,by simp]);have:=acA.mp h r i (by lia) wb aL;lia
 .rfl
 .exfalso;have:=h1 l[i] (aeY.mpr #[i,by lia,Y]);lia
theorem RI(h:kL l)(hi:l[i]?=U j):SetTable.below l.toArray (j+1)=i+1:=by
 have hb:=wa h (j+1);dsimp only at hb;generalize SetTable.below l.toArray (j+1)=r at hb;obtain⟨hr,h1,h2⟩:=hb;obtain⟨wb,ir⟩:=ZL.mp hi;rcases aff r (i+1) with aL|rfl|bA
 .exfalso;have Y9:r<=i:=by lia
  have h3:=h2 l[i] (aeX.mpr #[i-r,by lia,by congr 1;lia]);lia
 .rfl
 .exfalso;have h3:=h1 l[i+1] (aeY.mpr #[i+1,by lia,Y]);have:=acA.mp h i (i+1) wb (by lia) (by lia);lia
def jX(m:Nat)(h:Int)(occ:List Nat)(s:Nat):Prop:=∃ l r,road m h=l++s::r/\s∉l/\∀ q∈l,q∈occ
theorem jX.mono(k:∀ q∈occ,q∈RJ):jX m h occ s->jX m h RJ s
 | ⟨l,r,e,n,a⟩=>#[l,r,e,n,λq hq=>k q (a q hq)]
theorem Ir:∀ (n:Nat) (l:List Nat),(∀ j,j<n->j∈l)->n<=l.length
 | 0,_,_=>Z3 _
 | n+1,l,h=>by have:=Ir n (l.erase n) λj hj=>(ads (by lia)).mpr (h j (by lia));rw[acO (h n (by lia))] at this;have:=abQ (h n (by lia));lia
theorem Ad(hm:jW m)(h:Int)(hn:occ.length<=m):∃ s,jX m h occ s/\s∉occ/\s<=m:=by
 have hex:∃ x∈road m h,x∉occ:=by refine abT λhc=>?_;have all:∀ j,j<=m->j∈occ:=λj hj=>abT λAe=>hc #[j,RD hm h hj,Ae];have:=Ir (m+1) occ λj hj=>all j (by lia);lia
 obtain⟨a,x,b,e,px,k⟩:=z9 (λx=>x∉occ) (road m h) hex;exact#[x,#[a,b,e,λhx=>k x hx px,λq hq=>abT (k q hq)],px,v7 (by rw[e];simp)]
structure Tok{β:Type}(t:ac6)(L:List (Nat × Int × β)):Prop where
 pl:t.place=(L.map (·.1)).toArray
 du:t.dummies = (List.toArray [])
 ri:kL (L.map (·.1))
 le:∀ e∈L,e.1<=t.mask
 om:jW t.mask
 rm:L.length<=t.mask
 ro:∀ e∈L,jX t.mask e.2.1 (L.map (·.1)) e.1
section
variable{β:Type}{t:ac6}{L:List (Nat × Int × β)}
theorem Tok.live(k:Tok t L){i q:Nat}(h:(L.map (·.1))[i]?=U q):t.slot q = .live i:=by unfold aiF;rw[k.pl,below_at k.ri h];simp[h] at h ⊢
theorem Tok.empty(k:Tok t L){q:Nat}(h:q∉L.map (·.1)):t.slot q = .empty:=by
 unfold aiF;have h1:((t.place[SetTable.below t.place q]? == U q))=false:=by
  rw[k.pl];cases hb:((L.map (·.1)).toArray[SetTable.below (L.map (·.1)).toArray q]? == U q) with
  | false=>rfl
  | true =>
   have:=eq_of_beq hb;rw[aaO] at this;exact absurd (Z2 this) h
 have h2:aiX t.dummies q=false:=by rw[k.du];rfl
 simp only[h1,h2,ZT,if_false]
theorem Tok.hit(k:Tok t L){f:Nat->Int}(hf:∀ i e,L[i]?=U e->f i=e.2.1){e:Nat × Int × β}(he:e∈L)(hu:∀ e'∈L,e'.2.1=e.2.1->e'=e) :
 ∃ j i nx,t.probe f e.2.1 (t.probeStart e.2.1)=U (.candidate j i nx)/\L[i]?=U e:=by
 obtain⟨l,r,e1,e2,e3⟩:=k.ro e he;obtain⟨i,hi,hie⟩:=aaD he;have hL:L[i]?=U e:=ZL.mpr #[hi,hie];obtain⟨r',er⟩:=Aa t e.2.1;rw[e1,acd] at er;obtain⟨nx,hx⟩:=Iq t f e.2.1 e.1 i (r++r') (k.live (by simp[hL])) (hf i e hL) l _ _ er λq hq=>by
  obtain⟨i',aV,fg⟩:=aaD (e3 q hq);have hl:i'<L.length:=by simpa using aV
  refine#[i',k.live (ZL.mpr #[aV,fg]),λhc=>?_];rw[hf i' L[i'] (ZK hl)] at hc;have:=hu _ (abj hl) hc;have RK:q=e.1:=by rw[<- fg,ahI,this]
  exact e2 (RK ▸ hq)
 exact#[e.1,i,nx,hx,hL]
theorem Tok.miss(k:Tok t L){f:Nat->Int}(hf:∀ i e,L[i]?=U e->f i=e.2.1){h:Int}(hu:∀ e'∈L,e'.2.1≠h) :
 ∃ j,t.probe f h (t.probeStart h)=U (.empty j O)/\j∉L.map (·.1)/\j<=t.mask/\jX t.mask h (L.map (·.1)) j:=by
 obtain⟨j,⟨l,r,e1,e2,e3⟩,hj,hm⟩:=Ad k.om h (occ:=L.map (·.1)) (by have:=k.rm;simp;lia);obtain⟨r',er⟩:=Aa t h;rw[e1,acd] at er;have:=Ab t f h j (r++r') (k.empty hj) l _ _ er λq hq=>by
  obtain⟨i',aV,fg⟩:=aaD (e3 q hq);have hl:i'<L.length:=by simpa using aV
  refine#[i',k.live (ZL.mpr #[aV,fg]),λhc=>?_];rw[hf i' L[i'] (ZK hl)] at hc;exact hu _ (abj hl) hc
 exact#[j,this,hj,hm,l,r,e1,e2,e3]
noncomputable def dh(L:List (Nat × Int × β))(p:Nat)(e:Nat × Int × β):List (Nat × Int × β):=L.take p++e::L.drop p
theorem pY(p:Nat)(e:Nat × Int × β):(dh L p e).Perm (e::L):=by unfold dh;refine ahJ.trans ?_;rw[aa0]
theorem Af(l:List α)(p:Nat)(x:α):acP l.toArray p x=(l.take p++x::l.drop p).toArray:=by unfold acP;apply ai6;simp[Array.toList_extract,List.extract];exact afK (by simp)
theorem Tok.put(k:Tok t L){j:Nat}{h:Int}{x:β}(hj:j∉L.map (·.1))(hm:j<=t.mask)(ho:jX t.mask h (L.map (·.1)) j)(hs:L.length<t.mask) :
 ∃ t' p,t.put j=(t',p)/\Tok t' (dh L p (j,h,x))/\acP (L.map (·.2)).toArray p (h,x)=((dh L p (j,h,x)).map (·.2)).toArray /\
  t'.mask=t.mask/\t'.led=t.led/\t'.plain=t.plain/\t'.fill=L.length+1:=by
 have hb:=wa k.ri j;dsimp only at hb;obtain⟨h0,h1,h2⟩:=hb;have hd:aiX t.dummies j=false:=by rw[k.du];rfl
 generalize hp:SetTable.below (L.map (·.1)).toArray j=p at h0 h1 h2;have e1:(dh L p (j,h,x)).map (·.1)=(L.map (·.1)).take p++j::(L.map (·.1)).drop p:=by simp[dh]
 have mem:∀ q∈L.map (·.1),q∈(dh L p (j,h,x)).map (·.1):=λq hq=>((pY p (j,h,x)).map (·.1)).mem_iff.mpr (Z6 _ hq);refine#[{ t with place:=acP (L.map (·.1)).toArray p j },p,by unfold SetTable.put;simp only[k.pl,hp,hd,ZT,if_false],?_,?_,Y,Y,Y,?_]
 .refine#[?_,k.du,?_,λe he=>?_,k.om,?_,λe he=>?_]
  .show acP (L.map (·.1)).toArray p j=_;rw[Af,e1]
  .rw[e1];have hr:=k.ri;unfold kL at hr ⊢;rw[<- aa0 p (L.map (·.1)),adt] at hr;refine adt.mpr #[hr.1,abL.mpr #[λy hy=>?_,hr.2.1],λa ha b hb=>?_]
   .have:=h2 y hy;have:y≠j:=λe=>hj (e ▸ List.mem_of_mem_drop hy);lia
   .rcases ZO.mp hb with rfl|hb
    .exact h1 a ha
    .exact hr.2.2 a ha b hb
  .rcases ZO.mp ((pY p (j,h,x)).mem_iff.mp he) with rfl|he
   .exact hm
   .exact k.le e he
  .rw[(pY p (j,h,x)).length_eq];exact hs
  .rcases ZO.mp ((pY p (j,h,x)).mem_iff.mp he) with rfl|he
   .exact ho.mono mem
   .exact (k.ro e he).mono mem
 .rw[Af];simp[dh]
 .show (acP _ _ _).size+t.dummies.size=_;rw[Af,k.du];simp;simp at h0;lia
theorem Iu(f:Nat->Bool):∀ n,(∃ k,(Z7 n).find? f=U k/\k<n/\f k=true/\∀ i,i<k->f i=false)∨((Z7 n).find? f=O/\∀ i,i<n->f i=false)
 | 0=>.inr #[Y,λi h=>by lia]
 | n+1=>by
  rw[adX,List.find?_append];rcases Iu f n with ⟨k,e,h1,h2,h3⟩|⟨e,h1⟩
  .exact .inl #[k,by rw[e];rfl,by lia,h2,h3]
  .by_cases hf:f n=true
   .exact .inl #[n,by rw[e];simp[hf],by lia,hf,h1]
   .have v8:f n=false:=by simpa using hf
    refine .inr #[by rw[e];simp[v8],λi hi=>?_];by_cases bq:i=n
    .rw[bq];exact v8
    .exact h1 i (by lia)
theorem Iv(m:Nat)(o:Array (Option Nat)):∀ (n i p:Nat),i<=m->(∃ x∈eo m n i p,o.getD x (U 0)=O) ->
 ∃ j l r,SetTable.layClean.free m o n i p=U j/\eo m n i p=l++j::r/\o.getD j (U 0)=O/\∀ q∈l,o.getD q (U 0)≠O
 | 0,i,p,_,⟨x,h,_⟩=>by cases h
 | n+1,i,p,hi,hx=>by
  unfold SetTable.layClean.free;rcases Iu (λk=>(o.getD (i+k) (U 0)).isNone) (abr m i+1-i) with ⟨k,e,h1,h2,h3⟩|⟨e,h1⟩
  .rw[e];refine#[i+k,(Z7 k).map (i + ·),((Z7 (abr m i+1-i)).map (i + ·)).drop (k+1)++eo m n (abw m i p).1 (abw m i p).2,Y,?_,Option.isNone_iff_eq_none.mp h2,λq hq=>?_]
   .show gT m i++_=_;unfold gT;generalize abr m i+1-i=N at h1 ⊢;have:(Z7 N).map (i + ·)=(Z7 k).map (i + ·)++(i+k)::((Z7 N).map (i + ·)).drop (k+1):=by
     refine acL λa=>?_;rcases aff a k with h|h|h
     .rw[aay (by simpa using h)];simp[h,show a<N from by lia]
     .subst h;rw[aaN (by simp)];simp[h1]
     .rw[aaN (by simp;lia)];simp only[ZJ,Z8];obtain⟨d,rfl⟩:∃ d,a=k+1+d:=#[a-(k+1),by lia]
      rw[show k+1+d-k=d+1 from by lia,ab8,ag1]
    conv=>lhs;rw[this]
    simp
   .obtain⟨d,hd,rfl⟩:=ZN.mp hq;have:=h3 d (aas.mp hd);intro hc;rw[hc] at this;cases this
  .rw[e];have Iw:∀ q∈gT m i,o.getD q (U 0)≠O:=λq hq hc=>by unfold gT at hq;obtain⟨d,hd,rfl⟩:=ZN.mp hq;have:=h1 d (aas.mp hd);rw[hc] at this;cases this
   obtain⟨x,nV,Iy⟩:=hx;rcases aaf.mp nV with nV|nV
   .exact absurd Iy (Iw x nV)
   .obtain⟨j,l,r,f1,f2,f3,f4⟩:=Iv m o n (abw m i p).1 (abw m i p).2 (acM (aev _ (by lia))) #[x,nV,Iy];exact#[j,gT m i++l,r,f1,by show gT m i++_=_;rw[f2,acd],f3,λq hq=>(aaf.mp hq).elim (Iw q) (f4 q)]
noncomputable def cZ(m:Nat)(o:Array (Option Nat)):List (Nat × Nat):=(Z7 (m+1)).filterMap λj=>(o.getD j O).map (j,·)
theorem Iz(h1:f j=O)(h2:g j=U a)(h3:∀ i,i≠j->g i=f i):∀ n,j<n->((Z7 n).filterMap g).Perm (a::(Z7 n).filterMap f)
 | 0,h=>by lia
 | n+1,h=>by
  rw[adX,agb,agb];by_cases e:j=n
  .subst e;have e1:(Z7 j).filterMap g=(Z7 j).filterMap f:=by
    have:∀ l:List Nat,(∀ i∈l,i≠j)->l.filterMap g=l.filterMap f:=λl=>by
     induction l with
     | nil=>intro y;rfl
     | cons x l ih=>intro hl;rw[aaz,aaz,h3 x (hl x aaA),ih λi hi=>hl i (Z6 _ hi)]
    exact this _ λi hi=>by have:=aas.mp hi;lia
   rw[e1];rw[aaz,h2,aaz,h1];show (_++[a]).Perm (a::(_++[]));rw[afY];exact agc (l₂:=[a])
  .have e2:[n].filterMap g=[n].filterMap f:=by simp[aaz,h3 n (aaQ e)]
   rw[e2];exact (Iz h1 h2 h3 n (by lia)).append_right _
theorem Ag:q∈(cZ m o).map (·.1)↔q<=m/\o.getD q O≠O:=by
 unfold cZ;simp only[ZN,adR,aas,aaj];constructor
 .rintro ⟨e,⟨a,ha,k,hk,rfl⟩,rfl⟩;exact#[by show a<=m;lia,by show o.getD a O≠O;rw[hk];simp]
 .rintro ⟨h1,h2⟩;obtain⟨k,hk⟩:=adm.mp h2;exact#[(q,k),#[q,by lia,k,hk,Y],Y]
theorem RL(m:Nat)(o:Array (Option Nat)):kL ((cZ m o).map (·.1)):=by unfold kL cZ;rw[afb,List.pairwise_filterMap];refine List.pairwise_lt_range.imp λ{a b} cD x hx y hy=>?_;simp only[aaj] at hx hy;obtain⟨z,z,rfl⟩:=hx;obtain⟨z,z,rfl⟩:=hy;exact cD
structure Own(m:Nat)(o:Array (Option Nat))(hs:List Int):Prop where
 sz:o.size=m+1
 pm:((cZ m o).map (·.2)).Perm (Z7 hs.length)
 on:∀ e∈cZ m o,∃ h,hs[e.2]?=U h/\jX m h ((cZ m o).map (·.1)) e.1
theorem Own.step(hm:jW m)(k:Own m o hs)(hn:hs.length<=m)(h:Int) :
 ∃ j,SetTable.layClean.free m o (ac4 m) (SetTable.bits h % (m+1)) (SetTable.bits h)=U j/\Own m (o.setIfInBounds j (U hs.length)) (hs++[h]):=by
 have hlen:((cZ m o).map (·.1)).length=hs.length:=by have:=k.pm.length_eq;simpa using this
 have Ah:∀ q,q<=m->o.getD q (U 0)=o.getD q O:=λq hq=>by simp[adO,show q<o.size from by rw[k.sz];lia]
 obtain⟨j0,⟨l0,r0,g1,g2,g3⟩,g4,g5⟩:=Ad hm h (occ:=(cZ m o).map (·.1)) (by lia);have RM:o.getD j0 (U 0)=O:=by rw[Ah j0 g5];exact abT λhc=>g4 (Ag.mpr #[g5,hc])
 obtain⟨j,l,r,f1,f2,f3,f4⟩:=Iv m o (ac4 m) (SetTable.bits h % (m+1)) (SetTable.bits h) (acM (aev _ (by lia))) #[j0,by show j0∈road m h;rw[g1];simp,RM];have RN:j<=m:=v7 (h:=h) (by show j∈eo _ _ _ _;rw[f2];simp);have RO:∀ q∈l,q<=m:=λq hq=>v7 (h:=h) (by show q∈eo _ _ _ _;rw[f2];simp[hq]);have RP:o.getD j O=O:=by rw[<- Ah j RN];exact f3
 refine#[j,f1,?_];have RQ:j<o.size:=by rw[k.sz];lia
 have gj:(o.setIfInBounds j (U hs.length)).getD j O=U hs.length:=by simp[adO,RQ]
 have gi:∀ i,i≠j->(o.setIfInBounds j (U hs.length)).getD i O=o.getD i O:=λi hi=>by simp only[adf];rw[Array.getElem?_setIfInBounds_ne (aaQ hi)]
 have hp:(cZ m (o.setIfInBounds j (U hs.length))).Perm ((j,hs.length)::cZ m o):=by unfold cZ;exact Iz (j:=j) (a:=(j,hs.length)) (by simp only[RP,Option.map_none]) (by simp only[gj,Option.map_some]) (λi hi=>by simp only[gi i hi]) (m+1) (by lia)
 have mem:∀ q∈(cZ m o).map (·.1),q∈(cZ m (o.setIfInBounds j (U hs.length))).map (·.1):=λq hq=>(hp.map (·.1)).mem_iff.mpr (Z6 _ hq);refine#[by simp[k.sz],?_,λe he=>?_]
 .refine (hp.map (·.2)).trans ?_;simp only[Z0,aac,aaJ,acH,ahu,adX];exact (List.Perm.cons _ k.pm).trans (agc (l₁:=[hs.length]))
 .rcases ZO.mp (hp.mem_iff.mp he) with rfl|he
  .refine#[h,by simp,?_];obtain⟨a,x,b,e1,e2,e3⟩:=z9 (λx=>x=j) (road m h) #[j,by show j∈eo _ _ _ _;rw[f2];simp,Y];subst e2;refine#[a,b,e1,λhx=>e3 x hx Y,λq hq=>mem q (Ag.mpr #[v7 (h:=h) (by rw[e1];simp[hq]),?_])];have IA:road m h=l++x::r:=f2;have IB:q∈l:=by
    rw[e1] at IA;rcases List.append_eq_append_iff.mp IA with ⟨c,c1,c2⟩|⟨c,c1,c2⟩
    .rw[c1];exact aa6 _ hq
    .cases c with
     | nil=>simp at c1;rw[c1] at hq;exact hq
     | cons z c =>
      simp only[afA,adY] at c2;exact absurd Y (e3 x (by rw[c1,<- c2.1];simp))
   rw[<- Ah q (RO q IB)];exact f4 q IB
  .obtain⟨h',q1,q2⟩:=k.on e he;exact#[h',by rw[aay (ZL.mp q1).1];exact q1,q2.mono mem]
theorem IC(hm:jW m):∀ (hs done:List Int) (o:Array (Option Nat)),Own m o done->(done++hs).length<=m+1 ->
 ∃ o',hs.foldl (λ(acc:Option (Array (Option Nat) × Nat)) h=>do
  let (owner,k) <- acc;let j <- SetTable.layClean.free m owner (ac4 m) (SetTable.bits h % (m+1)) (SetTable.bits h)
  pure (owner.setIfInBounds j (U k),k+1)) (U (o,done.length))=U (o',(done++hs).length)/\Own m o' (done++hs)
 | [],done,o,k,_=>#[o,by simp,by simpa using k]
 | h::hs,done,o,k,hn=>by obtain⟨j,e,k'⟩:=k.step hm (by simp at hn;lia) h;obtain⟨o',e',RS⟩:=IC hm hs (done++[h]) _ k' (by simpa using hn);refine#[o',?_,by simpa using RS];rw[af1];simp only[Option.bind_eq_bind,Option.bind_some,e,Option.pure_def];simpa using e'
theorem RT(m:Nat):Own m (aih (m+1) O) []:=by
 have e:cZ m (aih (m+1) O)=[]:=by unfold cZ;rw[List.filterMap_eq_nil_iff];intro a ha;have:=aas.mp ha;simp[adO,this]
 exact#[by simp,by rw[e];exact .nil,λx hx=>by rw[e] at hx;cases hx]
theorem RU(hm:jW m)(hs:List Int)(hn:hs.length<=m):∃ o,ahj m hs.toArray=U o/\Own m o hs:=by obtain⟨o,e,k⟩:=IC hm hs [] _ (RT m) (by simp;lia);refine#[o,?_,k];unfold ahj;rw[<- Array.foldl_toList];simp only[acH,aal] at e;exact congrArg (Option.map (·.1)) e
theorem RV(hm:jW m)(L:List (Nat × Int × β))(d:Nat × Int × β)(hn:L.length<=m)(fin mv:Nat)(led plain:Bool) :
 ∃ t' order L',SetTable.laid m fin mv led plain (L.map (·.2.1)).toArray=U (t',order)/\Tok t' L'/\order.filterMap ((L.map (·.2)).toArray[·]?)=(L'.map (·.2)).toArray /\
  (L'.map (·.2)).Perm (L.map (·.2))/\t'.mask=m/\t'.led=led/\t'.plain=plain:=by
 obtain⟨o,e,k⟩:=RU hm (L.map (·.2.1)) (by simpa using hn);have aL:∀ e∈cZ m o,e.2<L.length:=λe he=>by have:=k.pm.mem_iff.mp (ZN.mpr #[e,he,Y]);simpa using this
 have e1:((cZ m o).map λe=>(e.1,(L.getD e.2 d).2)).map (·.1)=(cZ m o).map (·.1):=by simp[abg,afg]
 have e2:(((cZ m o).map (·.2)).map λi=>(L.getD i d).2)=(((cZ m o).map λe=>(e.1,(L.getD e.2 d).2)).map (·.2)):=by simp[abg,afg]
 have e3:(Z7 L.length).map (λi=>(L.getD i d).2)=L.map (·.2):=by
  refine adB (by simp) λi h1 h2=>?_;have:i<L.length:=by simpa using h1
  simp[ac1,this]
 refine#[_,_,(cZ m o).map λe=>(e.1,(L.getD e.2 d).2),by unfold SetTable.laid;rw[e];rfl,#[?_,Y,?_,λx hx=>?_,hm,?_,λx hx=>?_],?_,?_,Y,Y,Y]
 .show ((cZ m o).map (·.1)).toArray=_;rw[e1]
 .rw[e1];exact RL m o
 .obtain⟨y,hy,rfl⟩:=ZN.mp hx;exact (Ag.mp (ZN.mpr #[y,hy,Y])).1
 .have:=k.pm.length_eq;simp at this ⊢;lia
 .obtain⟨y,hy,rfl⟩:=ZN.mp hx;obtain⟨h,q1,q2⟩:=k.on y hy;rw[e1];have:(L.getD y.2 d).2.1=h:=by have hl:=aL y hy;simp[hl] at q1;simp[ac1,hl,q1]
  rw[this];exact q2
 .show ((cZ m o).map (·.2)).toArray.filterMap _=_;rw[<- e2];apply ai6;simp only[Array.toList_filterMap,acY];have:∀ l:List Nat,(∀ i∈l,i<L.length)->l.filterMap (λi=>(L.map (·.2)).toArray[i]?)=l.map λi=>(L.getD i d).2:=λl=>by
   induction l with
   | nil=>intro z;rfl
   | cons x l ih =>
    intro hl;have hx:=hl x aaA;rw[aaz,ih λi hi=>hl i (Z6 _ hi)];simp[hx,ac1]
  exact this _ λi hi=>by obtain⟨y,hy,rfl⟩:=ZN.mp hi;exact aL y hy
 .rw[<- e2,<- e3];have:=k.pm;rw[ZJ] at this;exact this.map _
end
end kZ
namespace Gz
open PySem PySem.Spec PyProof.Rows L2
theorem ID:Manifest.owners.lookup (String.ofList ['r','o','t','a','r','e','t','i','_','t','e','s'].reverse)=U Manifest.sig_set_iterator:=by kernel_rfl
theorem pZ:Slot "set_iterator" "__next__" "set_iterator.__next__" :=
 .of (owner := "set_iterator") (n := "__next__") (by rw[adW,acy];kernel_rfl) (by decide +kernel) (by decide +kernel) (by decide +kernel)
  (by first|exact .inl (by decide +kernel)|exact .inr (by decide +kernel)) (by rw[aeZ];kernel_rfl)
theorem IE:aeN table "set_iterator.__next__" = U aci.«set_iterator.__next__»:=entryFor_of_tree (by kernel_rfl)
theorem IF(a:ZP):aeO "set_iterator.__next__" #[[a],[]]:=by unfold aeO;rw[signature?_of (id := "set_iterator.__next__") (n:=['_','_','t','x','e','n','_','_']) (o:=['r','o','t','a','r','e','t','i','_','t','e','s']) (by kernel_rfl) ID];kernel_rfl
theorem RW:aeN table "set.__iter__" = U aci.«frozenset.__iter__» :=
 entryFor_alias (id' := "frozenset.__iter__") (by kernel_rfl) (by first|rfl|decide +kernel) (by decide +kernel) (by kernel_rfl)
section
theorem RX(hT:s.TypeIs (.ref d) "set")(q:Q false s):ZZ (model prog w) A (adh (.ref d)) Q E s:=by
 unfold adh;refine ZE (acI hT PySem.F.slot_set_len.lookup ?_);generalize hid:("set.__len__" : String)=RY
 wp_delta
 rw[show splitId RY=U ("set","__len__") from by subst hid;decide +kernel];subst hid;refine ZE (acs (T := "set") (b:=true) hT (by rw[aeZ];kernel_rfl) ?_);refine acn (λcD=>absurd cD (by decide)) (λy=>?_);refine acn (λy=>?_) (λcD=>absurd (by decide +kernel) cD);refine ZE (af9 hT ?_);exact ZI q
theorem IG:aax "set" = U (.type "set"):=by decide +kernel
end
end Gz
namespace Gz
open PySem PySem.Spec PyProof.Rows L2 kZ
section
noncomputable abbrev tK(prog:aaE)(w:abb):HeapKind prog w (List Int):=aed (adn prog w)
noncomputable def b0(prog:aaE)(w:abb)(k:List Int):Int:=(tK prog w).hash k
noncomputable abbrev k7(prog:aaE)(w:abb)(m:List Int × ZX):Int × ZP:=(b0 prog w m.1,.ref m.2)
def k8(prog:aaE)(w:abb)(h:acz)(S:ZX)(M:List (List Int × ZX))(led:Bool):Prop :=
 ∃ o ep t L,h.get? S=U o/\o.cls = .type "set" /\ o.data = .set (L.map (·.2)).toArray ep t/\Tok t L/\t.led=led/\t.plain=true/\L.length * 5<t.mask * 3/\L.map (·.2)=M.map (k7 prog w)
theorem fits_of{β:Type}{t:ac6}{L:List (Nat × Int × β)}(k:Tok t L):t.fits (L.map (·.2)).toArray.size=true:=by unfold SetTable.fits SetTable.fill;rw[k.pl,k.du];have:=k.rm;simp;lia
theorem ints_of(h:aio (adn prog w) k vs):∀ v∈vs,∃ n t,v=Value.int n t:=by
 induction h with
 | nil=>intro v hv;cases hv
 | @cons k v' ks vs h1 _ ih =>
  intro v hv;rcases ZO.mp hv with rfl|hv
  .obtain⟨t,e⟩:=ag8 h1;exact#[k,t,e]
  .exact ih v hv
theorem RZ(hk:(tK prog w).is s.heap k a)(q:Q true s):ZZ (model prog w) A (hashByValue 8 (.ref a)) Q E s:=by
 obtain⟨o,ai,n,h1,h2,h3,h4⟩:=hk;unfold hashByValue;refine ZE (acI #[o,h1,h2] PySem.F.slot_tuple_hash.lookup ?_);show ZZ _ _ (aef (.ref a) >>= _) _ _ _;refine ZE (abH h1 h3 ?_);refine ZE ?_;show ZZ _ _ (forIn ai _ _) _ _ s;rw[<- aeQ];refine adC _ (λrest r s'=>r.1=O/\s'=s/\∀ v∈rest,∃ n t,v=Value.int n t) _ ?_ ?_ _ _ #[Y,Y,ints_of h4]
 .rintro v rest r s' ⟨hr,rfl,ik⟩;obtain⟨m,tt,rfl⟩:=ik v aaA;refine ZE (ZI ?_);simp only[ab9,ZT,if_false];exact ZI #[Y,Y,λu jh=>ik u (Z6 _ jh)]
 .rintro ⟨r1,r2⟩ s' ⟨hr,rfl,y⟩;simp only at hr;subst hr;exact ZI q
theorem IH(hk:(tK prog w).is s.heap k a)(q:Q false s):ZZ (model prog w) A (ahk 8 (.ref a)) Q E s:=by
 obtain⟨o,ai,n,h1,h2,h3,h4⟩:=hk;unfold ahk;refine ZE (af9 (T := "tuple") #[o,h1,h2] ?_);show ZZ _ _ (pure true >>= _) _ _ _;refine ZE (ZI ?_);simp only[ab9,ZT,if_false];refine ZE (abH h1 h3 ?_);dsimp only;refine ZE ?_;show ZZ _ _ (forIn ai _ _) _ _ s;rw[<- aeQ];refine adC _ (λrest r s'=>r.1=O/\s'=s/\∀ v∈rest,∃ n t,v=Value.int n t) _ ?_ ?_ _ _ #[Y,Y,ints_of h4]
 .rintro v rest r s' ⟨hr,rfl,ik⟩;obtain⟨m,tt,rfl⟩:=ik v aaA;refine ZE (ZI ?_);simp only[ZT,if_false];exact ZI #[Y,Y,λu jh=>ik u (Z6 _ jh)]
 .rintro ⟨r1,r2⟩ s' ⟨hr,rfl,y⟩;simp only at hr;subst hr;exact ZI q
theorem R0(hk:(tK prog w).is s.heap k a)(hy:∀ y∈ys,∃ k' b,y = .ref b/\(tK prog w).is s.heap k' b)(q:Q false s) :
 ZZ (model prog w) A (afh (.ref a) ys) Q E s:=by
 unfold afh;refine ZE ?_;refine adC _ (λrest r s'=>r.1=O/\s'=s/\∀ y∈rest,∃ k' b,y = .ref b/\(tK prog w).is s.heap k' b) _ ?_ ?_ _ _ #[Y,Y,hy]
 .rintro v rest r s' ⟨hr,rfl,ik⟩;obtain⟨k',b,rfl,hb⟩:=ik v aaA;have fin:∀ u∈rest,∃ k' b,u = .ref b/\(tK prog w).is s'.heap k' b:=λu jh=>ik u (Z6 _ jh);refine acn (λz=>ZI #[Y,Y,fin]) (λz=>?_);refine ZE ((tK prog w).quiet hk ?_);simp only[ab9,ZT,if_false];refine ZE ((tK prog w).quiet hb ?_);simp only[ab9,ZT,if_false];refine ZE (IH hk ?_);simp only[ZT,if_false];refine ZE (IH hb ?_);simp only[ZT,if_false];exact ZI #[Y,Y,fin]
 .rintro ⟨r1,r2⟩ s' ⟨hr,rfl,z⟩;simp only at hr;subst hr;exact ZI q
theorem R1{S a:ZX}{k:List Int}{M:List (List Int × ZX)}{Q:SetFound->ZU->Prop}(hu:A.units<adQ){o:Obj}{ep:Nat}{t:ac6}{L:List (Nat × Int × ZP)}
 (g1:s.heap.get? S=U o) (g3:o.data = .set (L.map (·.2)).toArray ep t) (tk:Tok t L) (g7:L.map (·.2)=M.map (k7 prog w)) (hM:∀ m∈M,(tK prog w).is s.heap m.1 m.2) (hk:(tK prog w).is s.heap k a)
 (me:∀ m∈M,b0 prog w m.1=b0 prog w k->m.1=k) (bY:(M.map (·.1)).Nodup)
 (h0:k∈M.map (·.1)->Q (.there O) s)
 (h1:k∉M.map (·.1)->∀ j,j∉L.map (·.1)->j<=t.mask->jX t.mask (b0 prog w k) (L.map (·.1)) j->Q (.free j false) s) :
 ZZ (model prog w) A (setSearch S (.ref a) (b0 prog w k) (adding:=true)) Q E s:=by
 have gw:t.gaveWay=false:=by unfold SetTable.gaveWay;rcases tk.om with e|e|e<;>rw[e]<;>rfl
 have hf:∀ (i:Nat) (e:Nat × Int × ZP),L[i]?=U e->((((L.map (·.2)).toArray[i]?).map (·.1)).getD 0)=e.2.1:=λi e he=>by simp[he]
 have hlen:L.length=M.length:=by have:=congrArg List.length g7;simpa using this
 unfold setSearch setSearchFrom;refine ZE (abC g1 g3 (fits_of tk) ?_);simp only[gw,ZT,if_false,Option.getD_none];generalize hF:t.probe _ (b0 prog w k) (t.probeStart (b0 prog w k))=pr;by_cases bq:k∈M.map (·.1)
 .obtain⟨m,hm,rfl⟩:=ZN.mp bq;obtain⟨i,hi,hie⟩:=aaD hm;have II:i<L.length:=by lia
  have e2:L[i].2=k7 prog w m:=by have:=congrArg (·[i]?) g7;simp[hi,II,hie] at this;exact this
  obtain⟨j,i',nx,p1,p2⟩:=tk.hit hf (e:=L[i]) (abj II) (λe' gO hh=>by
   obtain⟨i2,ji,rfl⟩:=aaD gO;have nW:i2<M.length:=by lia
   have e3:L[i2].2=k7 prog w M[i2]:=by have:=congrArg (·[i2]?) g7;simp[ji,nW] at this;exact this
   rw[e2,e3] at hh;have R4:=me _ (abj nW) hh;have:i2=i:=by refine (afx (h₀:=by simpa using nW) (h₁:=by simpa using hi) bY).mp ?_;simp[R4,hie]
   subst this;rfl)
  rw[e2] at p1;have Ai:pr=U (.candidate j i' nx):=hF.symm.trans p1;subst Ai;have e4:(L.map (·.2)).toArray[i']?=U (k7 prog w m):=by simp[p2,e2]
  dsimp only;have fin:∀ y∈((L.map (·.2)).toArray.filter (λx=>x.fst == b0 prog w m.1)).toList.map (λx=>x.snd),∃ k' b,y = .ref b/\(tK prog w).is s.heap k' b:=λy hy=>by
   obtain⟨e,he,rfl⟩:=ZN.mp hy;have gO:e∈L.map (·.2):=by have:=ado.mp he;have:=(Array.mem_filter.mp this).1;simpa using this
   rw[g7] at gO;obtain⟨m',rA,rfl⟩:=ZN.mp gO;exact#[m'.1,m'.2,Y,hM m' rA]
  have jp:∀ (f:Sem SetFound) ,(ZZ (model prog w) A f Q E s)->ZZ (model prog w) A (if (!t.led)=true then do
   let r <- afh (Z5 a) (((L.map (·.2)).toArray.filter (λx=>x.fst == b0 prog w m.1)).toList.map (λx=>x.snd))
   if r=true then do
    let _ <- (unsupported "set:the-search-would-show-the-table" : Sem PUnit)
    f
   else f
   else f) Q E s:=λf hf=>by
   refine acn (λz=>ZE (R0 hk fin ?_)) (λz=>hf);simp only[ZT,if_false];exact hf
  refine jp _ ?_;simp only[e4];refine ZE (aaB ((tK prog w).eqBool hu (hM m hm) hk ?_));refine ZE (abC g1 g3 (fits_of tk) ?_);simp only[decide_true,agW,if_true];exact ZI (h0 bq)
 .obtain⟨j,p1,p2,p3,p4⟩:=tk.miss hf (h:=b0 prog w k) (λe' gO hh=>by
   obtain⟨i2,ji,rfl⟩:=aaD gO;have nW:i2<M.length:=by lia
   have e3:L[i2].2=k7 prog w M[i2]:=by have:=congrArg (·[i2]?) g7;simp[ji,nW] at this;exact this
   rw[e3] at hh;exact bq (ZN.mpr #[_,abj nW,me _ (abj nW) hh]))
  have Ai:pr=U (.empty j O):=hF.symm.trans p1;subst Ai;exact ZI (h1 bq j p2 p3 p4)
theorem Aj{h:acz}{S:ZX}{o:Obj}{es es':Array (Int × ZP)}{ep:Nat}{t t':ac6}(g1:h.get? S=U o)(g3:o.data = .set es ep t) :
 (h.update S (ahl es' t')).get? S=U { o with data:=.set es' (ep+1) t' }:=by
 have:=aam (ahl es' t') g1 (by rw[putSet_of es' t' g3];rfl);rw[putSet_of es' t' g3] at this;exact this
theorem R5(hm:jW m)(hn:n<77)(h1:(n-1) * 5<m * 3)(h2:n * 5 ≥ m * 3):∃ m',ag2 (agB n)-1=m'/\jW m'/\n<=m'/\n * 5<m' * 3:=by
 rcases hm with rfl|rfl|rfl
 .obtain rfl:n=5:=by lia
  exact#[31,by decide,.inr (.inl rfl),by lia,by lia]
 .obtain rfl:n=19:=by lia
  exact#[127,by decide,.inr (.inr rfl),by lia,by lia]
 .lia
theorem rX:∀ {xs:List α} {l:List β},l.Perm (xs.map f)->∃ ys:List α,l=ys.map f/\ys.Perm xs:=by
 intro xs l h;generalize hz:xs.map f=z at h
 induction h generalizing xs with
 | nil=>exact#[[],Y,by cases xs with|nil=>exact .nil|cons=>cases hz]
 | @cons a l1 l2 p ih =>
  cases xs with
  | nil=>cases hz
  | cons x xs =>
   obtain⟨e1,e2⟩:=List.cons.inj hz;obtain⟨ys,rfl,q⟩:=ih e2;exact#[x::ys,by rw[<- e1];rfl,q.cons x]
 | swap a b l =>
  cases xs with
  | nil=>cases hz
  | cons x xs =>
   cases xs with
   | nil=>simp at hz
   | cons y xs =>
    simp only[Z0,adY] at hz;obtain⟨e1,e2,e3⟩:=hz;exact#[y::x::xs,by simp[e1,e2,e3],.swap x y xs]
 | trans p q ze zf =>
  obtain⟨ys,e,r⟩:=zf hz;obtain⟨zs,e',r'⟩:=ze e.symm;exact#[zs,e',r'.trans r]
theorem R6(hu:A.units<adQ)(hS:k8 prog w s.heap S M led)(hM:∀ m∈M,(tK prog w).is s.heap m.1 m.2)(hk:(tK prog w).is s.heap k a)(me:∀ m∈M,b0 prog w m.1=b0 prog w k->m.1=k)(bY:(M.map (·.1)).Nodup)(hlen:M.length<63)(h0:k∈M.map (·.1)->Q false s)(h1:k∉M.map (·.1)->∀ h' M',Heap.SameBut S s.heap h'->k8 prog w h' S M' led->M'.Perm ((k,a)::M)->Q true { s with heap:=h' }) :
 ZZ (model prog w) A (agd S (.ref a) (b0 prog w k)) Q E s:=by
 obtain⟨o,ep,t,L,g1,g2,g3,tk,g4,g5,g6,g7⟩:=hS;have R7:L.length=M.length:=by have:=congrArg List.length g7;simpa using this
 unfold agd setAddHashedIn;refine aaB (ZE (abC g1 g3 (fits_of tk) ?_));dsimp only;rw[show byScan (.ref a) (L.map (·.2)).toArray=false from Y];simp only[ZT,if_false];refine ZE (R1 hu g1 g3 tk g7 hM hk me bY (λbq=>ZI (h0 bq)) λbq j j1 j2 j3=>?_);dsimp only;refine ZE (abC g1 g3 (fits_of tk) ?_);obtain⟨t',p,p1,p2,p3,p4,p5,p6,p7⟩:=tk.put (x:=Z5 a) j1 j2 j3 (by lia);simp only[p1,p6,g5,if_true];have mf:=pY (L:=L) p (j,b0 prog w k,Z5 a);refine ZE (RZ hk ?_);simp only[if_true];rw[p3];have hsz:((dh L p (j,b0 prog w k,Z5 a)).map (·.2)).toArray.size<=aah:=by have:=mf.length_eq;simp at this ⊢;rw[this];exact ZQ (show _<=64 by lia) (by decide)
 refine ZE (afi g1 g3 ?_ hsz);have gS:=Aj (es':=((dh L p (j,b0 prog w k,Z5 a)).map (·.2)).toArray) (t':=t') g1 g3;have wc:=aaM s.heap S (ahl ((dh L p (j,b0 prog w k,Z5 a)).map (·.2)).toArray t');have bB:((dh L p (j,b0 prog w k,Z5 a)).map (·.2)).Perm (((k,a)::M).map (k7 prog w)):=by refine (mf.map (·.2)).trans ?_;simp only[Z0,g7];exact .refl _
 have Ak:t'.tooFull=decide ((L.length+1) * 5 ≥ t.mask * 3):=by unfold ahK;rw[p7,p4]
 rw[Ak];by_cases hfull:(L.length+1) * 5 ≥ t.mask * 3
 .simp only[hfull,decide_true,agC,agW,if_true];refine ZE ?_;unfold setRelay;refine ZE (abC gS Y (fits_of p2) ?_);dsimp only;obtain⟨m',q1,q2,q3,q4⟩:=R5 (n:=L.length+1) (m:=t.mask) tk.om (by lia) (by simpa using g6) hfull;rw[show (L.map (·.2)).toArray.size+1=L.length+1 from by simp];have hq:ag2 (agB (L.length+1))<=128:=by rcases q2 with rfl|rfl|rfl<;>lia
  rw[if_neg (Nat.not_lt.mpr (ZQ hq (by decide)))];have R8:(dh L p (j,b0 prog w k,Z5 a)).length=L.length+1:=by simpa using mf.length_eq
  obtain⟨t2,order,L2,r1,r2,r3,r4,r5,r6,r7⟩:=RV q2 (dh L p (j,b0 prog w k,Z5 a)) (j,b0 prog w k,Z5 a) (by lia) t'.finger (t'.movedTo m') t'.led t'.plain;have R9:t'.relaid (Array.map (λx=>x.fst) (ahV (λx=>x.snd) (dh L p (j,b0 prog w k,Z5 a))).toArray) (agB (L.length+1))=U (t2,order):=by
   unfold SetTable.relaid;rw[q1,<- r1]
   congr 1
   simp
  rw[R9];have bV:L2.length=L.length+1:=by have:=r4.length_eq;simp only[ZJ] at this;lia
  refine ZE ?_;show ZZ _ _ (if ((order.filterMap (λi=>(ahV (λx=>x.snd) (dh L p (j,b0 prog w k,Z5 a))).toArray[i]?)).size != (ahV (λx=>x.snd) (dh L p (j,b0 prog w k,Z5 a))).toArray.size)=true then _ else pure (order.filterMap (λi=>(ahV (λx=>x.snd) (dh L p (j,b0 prog w k,Z5 a))).toArray[i]?),t2)) _ _ _;rw[r3];rw[if_neg (by simp[bV,R8])];refine ZI ?_;refine afi gS Y ?_ (by simp only[ZW,ZJ];rw[bV];exact ZQ (show _<=64 by lia) (by decide));have Sa:=Aj (es':=(L2.map (·.2)).toArray) (t':=t2) gS rfl;obtain⟨M',e1,e2⟩:=rX (r4.trans bB);refine ZI (h1 bq _ M' (wc.trans (aaM _ S _)) #[_,_,t2,L2,Sa,g2,Y,r2,r6.trans (p5.trans g4),r7.trans (p6.trans g5),?_,e1] e2);rw[bV,r5];exact q4
 .simp only[hfull,decide_false,agD,ZT,if_false];obtain⟨M',e1,e2⟩:=rX bB;refine ZI (h1 bq _ M' wc #[_,_,t',_,gS,g2,Y,p2,p5.trans g4,p6.trans g5,?_,e1] e2);rw[mf.length_eq,p4];simp;lia
end
def rY(key:Nat->List Int)(ad:Nat->ZX)(i:Nat)(M:List (List Int × ZX)):Prop :=
 (M.map (·.1)).Nodup/\(∀ m∈M,∃ j,j<i/\m=(key j,ad j))/\(∀ j,j<i->key j∈M.map (·.1))/\M.length<=i
noncomputable def jk(w:abb):Bool:=!(w.params.followText "set-order")
theorem Al(x:(tK prog w).is h k a)(e:∀ o,h.get? a=U o->h'.get? a=U o):(tK prog w).is h' k a:=by obtain⟨o,ai,n,h1,h2,h3,h4⟩:=x;exact#[o,ai,n,e o h1,h2,h3,h4]
section
variable{prog:aaE}{w:abb}{A:abI}{R:afW->ZU->Prop}{I:ZX}{fp wr:List ZX}{G:Array ahR->Array ahR->Prop}{n:Nat}{P:Nat->ZP->Prop}{St:Nat->ZU->Prop}
theorem Sb(W:WalksS prog w A.in1 I fp wr G n P St)(S:ZX)(gM:S∉fp){key:Nat->List Int}{ad:Nat->ZX}{led:Bool}(Am:∀ i v,P i v->v = .ref (ad i))(hu:A.in1.units<adQ)
 (IJ:∀ i,i<n->ad i∉S::wr) (me:∀ i j,i<n->j<n->b0 prog w (key i)=b0 prog w (key j)->key i=key j) (hn:n<=63) :
 ∀ (k i:Nat) (s:ZU) (M:List (List Int × ZX)),n-i=k->i<=n->St i s->(∀ j,j<n->(tK prog w).is s.heap (key j) (ad j))->k8 prog w s.heap S M led->rY key ad i M ->
  (∀ s' M',Moved (S::wr) G s s'->k8 prog w s'.heap S M' led->rY key ad n M'->R (.ok (.ret .none)) s') ->
  acF (model prog w) A (.builtin "set.update.loop" #[[.ref S,.ref I],[]]) R s:=by
 have rZ:S∉wr:=λh=>gM (W.sub _ h);have iC:∀ b∈wr,b∈S::wr:=λb hb=>Z6 _ hb;intro k
 induction k with
 | zero =>
  intro i s M hk hi bG r9 hS hM hR;have bq:i=n:=by lia
  subst bq;refine aau abt ?_;rw[aai aaP _];show ZZ _ A.in1 (acQ (.ref I) >>= _) _ _ s;refine ZE (W.done s _ _ bG λs' hm=>?_);show ZZ _ A.in1 (ret Value.none) _ _ s';exact ZI (hR s' M (hm.mono iC) (by
   obtain⟨o,ep,t,L,ho,rest⟩:=hS;exact#[o,ep,t,L,hm.heap S _ rZ ho,rest]) hM)
 | succ k ih =>
  intro i s M hk hi bG r9 hS hM hR;have aL:i<n:=by lia
  refine aau abt ?_;rw[aai aaP _];show ZZ _ A.in1 (acQ (.ref I) >>= _) _ _ s;refine ZE (W.item i s _ _ aL bG λv s' hP An hm=>?_);obtain rfl:=Am i v hP;have fz:k8 prog w s'.heap S M led:=by obtain⟨o,ep,t,L,ho,rest⟩:=hS;exact#[o,ep,t,L,hm.heap S _ rZ ho,rest]
  have wg:∀ j,j<n->(tK prog w).is s'.heap (key j) (ad j):=λj hj=>Al (r9 j hj) λo e=>hm.heap _ o (λhb=>IJ j hj (iC _ hb)) e;show ZZ _ A.in1 (holding [Z5 (ad i)] (setAdd S (.ref (ad i))) >>= _) _ _ s';refine ZE (aaB ?_);unfold setAdd;refine aaB ?_;refine ZE ((tK prog w).pyHash (k:=key i) hu (wg i aL) ?_);have go:∀ (tk:Nat) (h':acz) (M':List (List Int × ZX)) (b:Bool),s'.toks<=tk->Heap.SameBut S s'.heap h'->k8 prog w h' S M' led->rY key ad (i+1) M' ->
   ZZ (model prog w) A.in1 (again (.builtin "set.update.loop" #[[.ref S,.ref I],[]])) (λfin s'=>match fin with|.done f=>R (.ok f) s'|.again c'=>c'.quiet=true/\acF (model prog w) A c' R s') (λe s'=>R (.error e) s') { s' with heap:=h',toks:=tk }:=by
   intro tk h' M' b qX fh nX Ao;refine ZI #[aaY aaP _,ih (i+1) _ M' (by lia) aL (W.frame _ s' _ _ An qX λb hb o e=>?_) (λj hj=>Al (wg j hj) λo e=>?_) nX Ao λnq Ap Aq Ar As=>?_]
   .rw[fh.2 b (λh:b=S=>gM (by rw[<- h];exact hb))];exact e
   .show h'.get? _=_;rw[fh.2 _ (λh:ad j=S=>IJ j hj (by rw[h];exact aaA))];exact e
   .refine hR nq Ap (Moved.trans W.gtrans ((hm.mono iC).then_heap qX λb o hb e=>?_) Aq) Ar As;rw[fh.2 b (λh:b=S=>hb (by rw[h];exact aaA))];exact e
  refine R6 (s:={ s' with toks:=s'.toks+(tK prog w).draws (key i) }) (M:=M) hu fz (λm hm=>?_) (wg i aL) (λm hm he=>?_) hM.1 (by have:=hM.2.2.2;lia) (λbq=>?_) (λbq h' M' fh nX bB=>?_)
  .obtain⟨j,hj,rfl⟩:=hM.2.1 m hm;exact wg j (by lia)
  .obtain⟨j,hj,rfl⟩:=hM.2.1 m hm;exact me j i (by lia) aL he
  .refine go _ s'.heap M false (afC _ _) (Heap.SameBut.refl S s'.heap) fz #[hM.1,λm hm=>?_,λj hj=>?_,by have:=hM.2.2.2;lia]
   .obtain⟨j,hj,e⟩:=hM.2.1 m hm;exact#[j,by lia,e]
   .by_cases e:j=i
    .rw[e];exact bq
    .exact hM.2.2.1 j (by lia)
  .refine go _ h' M' true (afC _ _) fh nX #[((bB.map (·.1)).nodup_iff).mpr (aaC.mpr #[bq,hM.1]),λm hm=>?_,λj hj=>?_,by have:=bB.length_eq;have:=hM.2.2.2;simp at *;lia]
   .rcases ZO.mp (bB.mem_iff.mp hm) with rfl|hm
    .exact#[i,by lia,Y]
    .obtain⟨j,hj,e⟩:=hM.2.1 m hm;exact#[j,by lia,e]
   .refine ((bB.map (·.1)).mem_iff).mpr ?_;by_cases e:j=i
    .rw[e];exact aaA
    .exact Z6 _ (hM.2.2.1 j (by lia))
end
section
noncomputable abbrev dF(w:abb):Obj:={ cls:=.type "set",dict:=O,data:=.set (List.toArray []) 0 (.fresh 0 0 (jk w)) }
theorem IK(a:ZP)(h:Q₁ (.ref s.heap.objs.size) { s with heap:=s.heap.push (dF w) }) :
 acF (model prog w) A (.call (.builtin "set.__new__") #[[.type "set",a],[]]) (wants Q₁ E) s:=by
 refine age (show ZZ _ A.in1 (do ahz "set.__new__" #[[.type "set",a],[]];again (.builtin "set.__new__" #[[.type "set",a],[]])) _ _ s from ?_);refine ZE (aeB (PySem.F.newCall_set_1 a) (ZI #[aaY agf _,aau PySem.F.entry_set_new ?_]));rw[aai agf _];unfold aci.«set.__new__» Builtin.Frozenset.newClass;have iC:=PySem.sub_set_self;obtain⟨hp,g,d,tk,os⟩:=s;dsimp only;wp_walk;refine adE (ZI ?_);dsimp only;simp only[newObj];exact ZE (wpAny_alloc (ZI (ZI h)))
theorem Sd(prog:aaE)(e:h.get? S=U (dF w)):k8 prog w h S [] (jk w) :=
 #[_,0,_,([]:List (Nat × Int × ZP)),e,Y,Y,#[Y,Y,List.Pairwise.nil,(λy hx=>nomatch hx),ade Y,Z3 _,(λy hx=>nomatch hx)],Y,Y,(show 0 * 5<7 * 3 by decide),Y]
theorem Se{l:ZX}{items:Array ZP}{Q:ZP->ZU->Prop}{key:Nat->List Int}{ad:Nat->ZX}(hh:A.handled=O)(hl:s.heap.IsList l items)(hu:A.units+64<adQ)(hn:items.size<=63)
 (hit:∀ (i:Nat) (v:ZP),items[i]?=U v->v = .ref (ad i)) (r9:∀ j,j<items.size->(tK prog w).is s.heap (key j) (ad j)) (me:∀ i j,i<items.size->j<items.size->b0 prog w (key i)=b0 prog w (key j)->key i=key j)
 (h:∀ (h':acz) (tk:Nat) (M:List (List Int × ZX)),k8 prog w h' s.heap.objs.size M (jk w)->rY key ad items.size M->(∀ b o,b<s.heap.objs.size->s.heap.get? b=U o->h'.get? b=U o)->Q (.ref s.heap.objs.size) { s with heap:=h',toks:=tk }) :
 ZZ (model prog w) A (call (.type "set") [.ref l]) Q E s:=by
 obtain⟨c,tl,hmro⟩:=PySem.F.called_set.mro;have Sf:=PySem.F.called_set.made;have iC:=PySem.F.called_set.sub;refine ae5 (age (show ZZ _ _ (callAny (.type "set") _) _ _ _ from ZI #[Code.quiet_builtin _ (by decide +kernel),aau aft ?_]));rw[ag3 (agg "set" [.ref l] []) Y];have h1:=PySem.F.called_set.notType;have h2:=PySem.F.called_set.canCreate;have Sg:=afN (.ref l);repeat (any_goals (first|assumption|wp_step))
 refine ac9 (IK (.ref l) (E:=E) (Q₁:=λobj s₁=>obj = .ref s.heap.objs.size/\s₁ = { s with heap:=s.heap.push (dF w) }) #[Y,Y]) λr s₁ hr=>?_;cases r with
 | error e=>exact hr
 | ok fl =>
  cases fl with
  | ret obj =>
   obtain⟨rfl,rfl⟩:=hr;have gS:(s.heap.push (dF w)).get? s.heap.objs.size=U (dF w):=ZR _ rfl;have hT:Shared.TypeIs { s with heap:=s.heap.push (dF w) } (.ref s.heap.objs.size) "set" := #[_,gS,Y];have nY:=PySem.F.called_set.init.lookup;have Au:=PySem.F.called_set.init.bind (.ref s.heap.objs.size)
   repeat (any_goals (first|assumption|wp_step))
   refine ac9 (adp (R:=wants (λr s₂=>r = .none/\∃ h' tk M,s₂ = { s with heap:=h',toks:=tk }/\k8 prog w h' s.heap.objs.size M (jk w)/\rY key ad items.size M /\
    (∀ b o,b<s.heap.objs.size->s.heap.get? b=U o->h'.get? b=U o)) E) PySem.F.called_set.init.plain afO (ahL hT ?_)) λr₂ s₂ nZ=>?_
   .have Sh:∀ j,j<items.size->ad j<s.heap.objs.size:=λj hj=>let ⟨o,_,_,e,_⟩:=r9 j hj;ZM e;have lt:l<s.heap.objs.size:=let ⟨_,e,_⟩:=hl;ZM e;obtain⟨ol,hol,aY,nl,hdl⟩:=id hl;obtain⟨ocls,odict,odata,oslots⟩:=ol;obtain rfl:ocls = .type "list" := aY;obtain rfl:odata = .seq items nl:=hdl;have Av:(s.heap.push (dF w)).get? l=U { cls:=.type "list",dict:=odict,data:=.seq items nl,slots:=oslots }:=ZH _ hol;have Si:=agw;have Sj:=aeL;have bM:(ad4 "list" == ad4 "dict")=false:=by decide
    have jY:(s.heap.push (dF w)).IsList l items:=#[_,Av,Y,nl,Y]
    unfold aci.«set.__init__» noKeywords Builtin.Frozenset.updateFrom;generalize Aw:air=PI;wp_walk;subst Aw;refine acE jY (ZE (agA ?_));have Ax:A.in1.in1.in1.handled=O:=by simp[hh]
    have mh:(s.heap.push (dF w)).objs.size=s.heap.objs.size+1:=abm _ _;have lI:l≠(s.heap.push (dF w)).objs.size:=by rw[mh];exact ZY (abD lt)
    have SI:s.heap.objs.size∉[(s.heap.push (dF w)).objs.size,l]:=by rw[mh];simp only[ZO,aaL,or_false,not_or];exact#[ZY (acr _),aaX lt]
    refine Sb ((Walks.list Ax _ l lI items).toS) s.heap.objs.size SI (key:=key) (ad:=ad) (led:=jk w) hit ?_ (λi hi=>?_) me hn (items.size-0) 0 _ [] (by lia) (Z3 _)
     #[#[_,ZR _ Y,Y,Y],(jY.push _)] (λj hj=>Al (r9 j hj) λo e=>ZH _ (ZH _ e)) (Sd prog (ZH _ gS))
     #[ac3,λy hx=>(by cases hx),λj hj=>(by lia),Z3 _] λs' M hm fz hM=>?_
    .exact aaS (show A.units+1+1+1<=A.units+64 by lia) hu
    .have:=Sh i hi;rw[mh];simp only[ZO,aaL,or_false,not_or];exact#[ZY this,ZY (abD this)]
    .obtain⟨h',g',d',n4,lL⟩:=s';obtain rfl:g'=s.gens:=hm.gens;obtain rfl:d'=s.drawn:=hm.drawn;obtain rfl:lL=s.os:=hm.os;show ZZ _ _ _ _ _ _;refine ZI (show ZZ _ _ (ret Value.none) _ _ _ from ZI #[Y,h',n4,M,Y,fz,hM,λb o hb e=>?_]);refine hm.heap b o ?_ (ZH _ (ZH _ e));simp only[ZO,aaL,or_false,not_or,mh];exact#[ZY hb,ZY (abD hb)]
   .cases r₂ with
    | error e=>exact nZ
    | ok Ay =>
     cases Ay with
     | ret r =>
      obtain⟨rfl,h',tk,M,rfl,fz,hM,cE⟩:=nZ
      repeat (any_goals (first|assumption|wp_step))
      exact h _ _ M fz hM cE
     | _=>exact nZ.elim
  | _=>exact hr.elim
end
theorem IL:Slot "set_iterator" "__iter__" "set_iterator.__iter__" :=
 .of (owner := "set_iterator") (n := "__iter__") (by rw[adW,acy];kernel_rfl) (by decide +kernel) (by decide +kernel) (by decide +kernel)
  (by first|exact .inl (by decide +kernel)|exact .inr (by decide +kernel)) (by rw[aeZ];kernel_rfl)
theorem Sk:aeN table "set_iterator.__iter__" = U aci.«dict_keyiterator.__iter__» :=
 entryFor_alias (id' := "dict_keyiterator.__iter__") (by kernel_rfl) (by first|rfl|decide +kernel) (by decide +kernel) (by kernel_rfl)
theorem Sl(a:ZP):aeO "set_iterator.__iter__" #[[a],[]]:=by unfold aeO;rw[signature?_of (id := "set_iterator.__iter__") (n:=['_','_','r','e','t','i','_','_']) (o:=['r','o','t','a','r','e','t','i','_','t','e','s']) (by kernel_rfl) ID];kernel_rfl
theorem IM(f:Nat->Nat):∀ (n k:Nat) (left:List α) (out:Array α),left.length=n->(pickOrder.go f n k left out).toList.Perm (out.toList++left)
 | 0,k,left,out,h=>by obtain rfl:left=[]:=ab7.mp h;unfold pickOrder.go;simp
 | n+1,k,left,out,h=>by have hl:f k % left.length<left.length:=aev _ (by lia);unfold pickOrder.go;rw[ZK hl];refine (IM f n (k+1) _ _ (by rw[List.length_eraseIdx_of_lt hl];lia)).trans ?_;rw[ahm,acd];refine List.Perm.append_left _ ?_;have:=ahJ (a:=left[f k % left.length]) (l₁:=left.take (f k % left.length)) (l₂:=left.drop (f k % left.length+1));rw[List.eraseIdx_eq_take_drop_succ];refine .trans ?_ (.of_eq (aa0 (f k % left.length) left));rw[aa4 hl];exact this.symm
theorem Sm(f:Nat->Nat)(xs:Array α):(aiY f xs).toList.Perm xs.toList:=by unfold aiY;simpa using IM f xs.size 0 xs.toList (List.toArray []) (by simp)
section
variable{prog:aaE}{w:abb}{A:abI}{E:ZP->ZU->Prop}{s:ZU}{S I:ZX}{o:Obj}{ep:Nat}{t:ac6}{L:List (Nat × Int × ZP)}
noncomputable def gU(w:abb)(S:ZX)(ep:Nat)(es:Array (Int × ZP)):Array (Int × ZP):=if w.params.followText "set-order" then aiY (w.params.setOrder S ep) es else es
theorem wj(w:abb)(S:ZX)(ep:Nat)(es:Array (Int × ZP)):(gU w S ep es).toList.Perm es.toList:=by
 unfold gU;split
 .exact Sm _ _
 .exact .refl _
structure n5(w:abb)(S:ZX)(o:Obj)(ep:Nat)(t:ac6)(L:List (Nat × Int × ZP)):Prop where
 cls:o.cls = .type "set"
 dat:o.data = .set (L.map (·.2)).toArray ep t
 tok:Tok t L
 led:t.led=jk w
 pln:t.plain=true
theorem Sn(x:n5 w S o ep t L)(h:s.heap.get? S=U o)(q:Q false s):ZZ (model prog w) A (setDrawn S) Q E s:=by unfold setDrawn aix;refine ZE (abC h x.dat (fits_of x.tok) ?_);dsimp only;refine ZE (ZE (adE (ZI (ZI ?_))));refine cast (congrArg (λb=>Q b s) ?_) q;symm;rw[aga];right;show (!t.plain && _)=false;rw[x.pln];rfl
noncomputable abbrev Az(S:ZX)(n ep:Nat)(sl i:Int):Obj:={ cls:=.type "set_iterator",data:=.fields (List.toArray [adL sl,adL i,.ref S,adL n,adL ep]) }
theorem So(x:n5 w S o ep t L)(h:s.heap.get? S=U o)(hQ:Q (.ref s.heap.objs.size) { s with heap:=s.heap.push (Az S L.length ep 0 0) }):ZZ (model prog w) A (air (.ref S)) Q E s:=by have hT:s.TypeIs (.ref S) "set" := #[o,h,x.cls];refine afd hT aii (aa3 aii hT RW ?_ (F.args_set_iter_1 _));unfold aci.«frozenset.__iter__»;refine ZE (m:=Builtin.Frozenset.slot0 _ _) (ZI ?_);refine ZE (m:=Builtin.Frozenset.sizeOf _) (ZE (aeH h x.dat (fits_of x.tok) (ZI ?_)));refine ZE (Sn x h ?_);simp only[ZT,if_false];refine ZE (ZI ?_);refine ZE (wpAny_setEpoch_of h x.dat (fits_of x.tok) ?_);refine ZE (aaU (ZI #[_,Y,"set_iterator",_,#[_,ZR _ Y,Y],pZ.lookup,?_]));refine cast (congrArg (λb=>Q _ { s with heap:=s.heap.push b }) ?_) hQ;simp[Az]
theorem IP(x:n5 w S o ep t L)(h:s.heap.get? S=U o)(hb:w.params.followText "set-order" = false->SetTable.below t.place sl=i)(q:∀ fF,(w.params.followText "set-order" = false->i<L.length->SetTable.below t.place fF=i+1)->Q (((gU w S ep (L.map (·.2)).toArray)[i]?).map λe=>(e.2,fF)) s):ZZ (model prog w) A (ai4 S sl i ep) Q E s:=by
 unfold ai4 aix;refine ZE (abC h x.dat (fits_of x.tok) ?_);dsimp only;refine ZE (ZE (adE (ZI ?_)));unfold gU at q;cases hf:w.params.followText "set-order" with
 | true =>
  simp only[hf,if_true] at q;rw[if_pos (show (model prog w).w.params.followText "set-order" = true from hf),if_neg (by simp)];unfold setWalk aix;refine ZE (ZE (abC h x.dat (fits_of x.tok) ?_));refine ZE (ZE (adE (ZI ?_)));rw[if_pos (show (model prog w).w.params.followText "set-order" = true from hf)];exact ZE (adE (ZI (ZI (q sl (λhz=>nomatch hz)))))
 | false =>
  simp only[hf,ZT,if_false] at q;rw[if_neg (show ¬ (model prog w).w.params.followText "set-order" = true from by rw[show (model prog w).w.params.followText "set-order" = false from hf];decide)];refine acn (λz=>absurd (show (!t.plain && _)=true from z) (by rw[x.pln];simp)) (λy=>?_);have hl:t.led=true:=by rw[x.led];unfold jk;rw[hf];rfl
  refine ZE ?_;show ZZ _ _ (if (!t.led && !(L.map (·.2)).toArray.isEmpty)=true then _ else pure _) _ _ _;rw[if_neg (by rw[hl];simp)];refine ZI (ZI ?_);rw[hb hf];by_cases hi:i<L.length
  .have e1:(L.map (·.2)).toArray[i]?=U L[i].2:=by simp[hi]
   have e2:t.place[i]?=U L[i].1:=by rw[x.tok.pl];simp[hi]
   have:=q (L[i].1+1) λy y=>by rw[x.tok.pl];exact RI x.tok.ri (by simp[hi])
   rw[e1] at this ⊢;rw[e2];exact this
  .have e1:(L.map (·.2)).toArray[i]?=O:=by simp;lia
   have:=q 0 λy hz=>absurd hz hi;rw[e1] at this ⊢;exact this
theorem Sq(hh:A.handled=O)(x:n5 w S o ep t L)(bM:S≠I):Walks prog w A I [I,S] [I] L.length (λi v=>((gU w S ep (L.map (·.2)).toArray)[i]?).map (·.2)=U v)
 (λi h=>h.get? S=U o/\∃ sl:Nat,h.get? I=U (Az S L.length ep sl i)/\(w.params.followText "set-order" = false->SetTable.below t.place sl=i)) where
 sub:=λb hb=>by simp at hb;simp[hb]
 frame:=λy y y st hk=>#[hk S (by simp) _ st.1,let ⟨sl,a,b⟩:=st.2;#[sl,hk I (by simp) _ a,b]]
 item:=λi s Q E hi st hQ=>by
  obtain⟨h1,sl,hI,hb⟩:=st;have hT:s.TypeIs (.ref I) "set_iterator" := #[_,hI,Y];have hlen:(gU w S ep (L.map (·.2)).toArray).size=L.length:=by have:=(wj w S ep (L.map (·.2)).toArray).length_eq;simpa using this
  have aV:i<(gU w S ep (L.map (·.2)).toArray).size:=by lia
  unfold acQ;refine ZE (adU (abk (name:=aa7 "__next__") hT pZ
   (aa3 pZ hT IE ?_ (IF _))))
  unfold aci.«set_iterator.__next__»;refine ZE (ZI (ZE (adv hI Y ?_)));show ZZ _ _ (setEntries S >>= _) _ _ _;refine ZE (aeH h1 x.dat (fits_of x.tok) ?_);refine acn (λz=>absurd z (by simp)) (λy=>?_);show ZZ _ _ (ai4 S (agh (sl:Int)) (agh (i:Int)) (agh (ep:Int)) >>= _) _ _ _;rw[aat,aat,aat];refine ZE (IP x h1 hb λfF gJ=>?_);rw[aao aV];dsimp only [Option.map_some];refine ZE (aec hI Y (by simp) ?_);have IQ:=aam (adk (·.setIfInBounds 0 (adL (fF:Int)))) hI rfl;refine ZE (aec IQ Y (by simp[adk]) ?_);have Sr:=aam (adk (·.setIfInBounds 1 (adL ((i:Int)+1)))) IQ rfl;have IS:∀ (b:ZX) (u:Obj),b≠I->s.heap.get? b=U u->((s.heap.update I (adk (·.setIfInBounds 0 (adL (fF:Int))))).update I (adk (·.setIfInBounds 1 (adL ((i:Int)+1))))).get? b=U u:=λb u hb e =>
   (ZV _ _ (aaQ hb)).trans ((ZV _ _ (aaQ hb)).trans e)
  refine ZI #[_,Y,ZI (hQ _ _ s.toks (by rw[aao aV];rfl) #[IS S o bM h1,fF,Sr,λhf=>gJ hf hi] λb u hb e=>IS b u (by simpa using hb) e)]
 done:=λs Q E st hQ=>by
  obtain⟨h1,sl,hI,hb⟩:=st;have hT:s.TypeIs (.ref I) "set_iterator" := #[_,hI,Y];have hlen:(gU w S ep (L.map (·.2)).toArray).size=L.length:=by have:=(wj w S ep (L.map (·.2)).toArray).length_eq;simpa using this
  unfold acQ;refine ZE (adU (abk (name:=aa7 "__next__") hT pZ
   (aa3 pZ hT IE ?_ (IF _))))
  unfold aci.«set_iterator.__next__»;refine ZE (ZI (ZE (adv hI Y ?_)));show ZZ _ _ (setEntries S >>= _) _ _ _;refine ZE (aeH h1 x.dat (fits_of x.tok) ?_);refine acn (λz=>absurd z (by simp)) (λy=>?_);show ZZ _ _ (ai4 S (agh (sl:Int)) (agh (L.length:Int)) (agh (ep:Int)) >>= _) _ _ _;rw[aat,aat,aat];refine ZE (IP x h1 hb λfF gJ=>?_);rw[acp (by lia)];show ZZ _ _ (ahU (.ref I) 2 .none >>= _) _ _ s;refine ZE (aec hI Y (by simp) ?_);show ZZ _ _ (newExc (.type "StopIteration") [] >>= _) _ _ _;refine ZE ?_;simp only[newExc,aiD];refine ZE (aaU ?_ (by size_fits));refine ZE (m:=aeW _ _) (aeB (a:=Value.none) (by first|rfl|(simp only[aeW];rfl)) ?_);refine aaU ?_ (by size_fits);simp only[raiseNew];refine ZE (wpAny_handled ?_);rw[show A.in1.handled=O from hh];refine ZE (ZI (wpAny_throw ?_));refine ZE (acs (T := "StopIteration") (b:=true) #[_,ZR _ Y,Y] agx ?_);refine ZI (hQ _ s.toks λb u hb e=>(((aaM ..).extBut.push _).push _) b u (by simpa using hb) e)
 self:=λy s y y st hQ=>by obtain⟨h1,sl,hI,hb⟩:=st;have hT:s.TypeIs (.ref I) "set_iterator" := #[_,hI,Y];refine afd hT IL (aa3 IL hT Sk ?_ (Sl _));show ZZ _ _ (ret (.ref I)) _ _ s;exact ZI #[_,Y,"set_iterator",_,hT,pZ.lookup,hQ]
theorem IT(x:n5 w S o ep t L):agy prog w "set" S S L.length (λi v=>((gU w S ep (L.map (·.2)).toArray)[i]?).map (·.2)=U v) (λh=>h.get? S=U o) where
 type:=λy h=>#[o,h,x.cls]
 there:=λy h=>#[ZM h,ZM h]
 keep:=λy y h hk=>hk S (.inl rfl) o h
 notList:=by decide
 notTuple:=by decide
 hint:=λy y y y h hq=>RX #[o,h,x.cls] hq
 iter:=λy y hh h=>#[_,_,(λy y hq=>So x h hq),Sq hh x (ZY (ZM h)),
  #[ZH _ h,0,ZR _ Y,λy=>Nat.le_zero.mp (by
   have hb:=wa x.tok.ri 0;dsimp only at hb;rw[x.tok.pl];refine ahx λaL=>?_;generalize SetTable.below (L.map (·.1)).toArray 0=r at hb aL;cases hL:L.map (·.1) with
   | nil=>rw[hL] at hb;simp at hb;lia
   | cons a l =>
    have:=hb.2.1 a (by rw[hL];cases r with|zero=>lia|succ r=>simp);lia)]]
end
section
noncomputable abbrev k9(m:Int × PySem.Tok):Int × ZP:=(ac7 m.1,.int m.1 m.2)
def lg(h:acz)(S:ZX)(M:List (Int × PySem.Tok))(led:Bool):Prop :=
 ∃ o ep t L,h.get? S=U o/\o.cls = .type "set" /\ o.data = .set (L.map (·.2)).toArray ep t/\kZ.Tok t L/\t.led=led/\t.plain=true/\L.length * 5<t.mask * 3/\L.map (·.2)=M.map k9
theorem Ss{t:ac6}{L:List (Nat × Int × ZP)}(k:kZ.Tok t L)(h:Int):∃ j,t.freeSlot h=U (j,false)/\j∉L.map (·.1)/\j<=t.mask/\jX t.mask h (L.map (·.1)) j:=by
 obtain⟨j,⟨l,r,e1,e2,e3⟩,hj,hm⟩:=Ad k.om h (occ:=L.map (·.1)) (by have:=k.rm;simp;lia);obtain⟨r',er⟩:=Aa t h;rw[e1,acd] at er;have:=Ab t (λy=>h+1) h j (r++r') (k.empty hj) l _ _ er λq hq=>by obtain⟨i',aV,fg⟩:=aaD (e3 q hq);exact#[i',k.live (ZL.mpr #[aV,fg]),by lia]
 refine#[j,?_,hj,hm,l,r,e1,e2,e3];unfold SetTable.freeSlot;rw[show t.probe (λy=>h+1) h (t.probeStart h)=U (.empty j O) from this];rfl
theorem Su(prog:aaE)(w:abb){M:List (Int × PySem.Tok)}:ElemsOf (adn prog w) (M.map k9):=λe he=>by obtain⟨m,y,rfl⟩:=ZN.mp he;exact#[#[m.1,by simp[adn,adF],Y],Y]
theorem add_int(hS:lg s.heap S M led)(hlen:M.length<4)(h0:k∈M.map (·.1)->Q false s)(h1:k∉M.map (·.1)->∀ h' M',Heap.SameBut S s.heap h'->lg h' S M' led->M'.Perm ((k,tt)::M)->Q true { s with heap:=h' }) :
 ZZ (model prog w) A (agd S (.int k tt) (ac7 k)) Q E s:=by
 obtain⟨o,ep,t,L,g1,g2,g3,tk,g4,g5,g6,g7⟩:=hS;have R7:L.length=M.length:=by have:=congrArg List.length g7;simpa using this
 have sd:ElemsOf (adn prog w) (L.map (·.2)).toArray.toList:=by rw[acY,g7];exact Su prog w
 unfold agd setAddHashedIn;refine aaB (ZE (abC g1 g3 (fits_of tk) ?_));dsimp only;rw[byScan_of (knd:=adn prog w) Y (by rw[ZW,ZJ];unfold scanBound;lia) sd];simp only[if_true];unfold setAddByScan;refine ZE (ZE (adN ?_));refine ZE (wpAny_setScan_of (knd:=adn prog w) (k:=k) (by simp[adn,adF]) g1 g3 (fits_of tk) sd ?_);rw[acY,g7];by_cases bq:k∈M.map (·.1)
 .obtain⟨m,hm,hmk⟩:=ZN.mp bq;cases hf:aiG (λe=>(adn prog w).is k e.2) (M.map k9) with
  | none =>
   have:=ae0.mp hf (k9 m) (ZN.mpr #[m,hm,Y]);rw[<- hmk] at this;simp[adn,adF] at this
  | some j =>
   dsimp only;exact ZI (ZI (h0 bq))
 .have hf:aiG (λe=>(adn prog w).is k e.2) (M.map k9)=O:=by refine ae0.mpr λe he=>?_;obtain⟨m,hm,rfl⟩:=ZN.mp he;simp only[adn,adF];exact beq_eq_false_iff_ne.mpr λz=>bq (ZN.mpr #[m,hm,z])
  rw[hf];dsimp only;obtain⟨j,j0,j1,j2,j3⟩:=Ss tk (ac7 k);obtain⟨t',p,p1,p2,p3,p4,p5,p6,p7⟩:=tk.put (x:=Value.int k tt) j1 j2 j3 (by lia);have mf:=pY (L:=L) p (j,ac7 k,Value.int k tt);have Sv:layNew t (M.map k9).toArray (ac7 k) (.int k tt)=(((dh L p (j,ac7 k,Value.int k tt)).map (·.2)).toArray,t',false,false):=by rw[<- g7];unfold layNew;rw[j0];dsimp only;rw[p1,p3];have:=fits_of p2;unfold SetTable.orStandIn;rw[this];rfl
  rw[Sv];dsimp only;refine ZE ?_;show ZZ _ _ (pure ()) _ _ _;refine ZI ?_;rw[p6,g5];simp only[if_true];refine ZE ?_;rw[hashByValue_scannable 8 (show (Value.int k tt).scannable=true from Y)];refine ZI ?_;rw[show plainKind (Value.int k tt)=true from Y];simp only[if_true];have hsz:((dh L p (j,ac7 k,Value.int k tt)).map (·.2)).toArray.size<=aah:=by have:=mf.length_eq;simp at this ⊢;rw[this];exact ZQ (show _<=64 by lia) (by decide)
  refine ZE (afi g1 g3 ?_ hsz);have gS:=Aj (es':=((dh L p (j,ac7 k,Value.int k tt)).map (·.2)).toArray) (t':=t') g1 g3;have wc:=aaM s.heap S (ahl ((dh L p (j,ac7 k,Value.int k tt)).map (·.2)).toArray t');have bB:((dh L p (j,ac7 k,Value.int k tt)).map (·.2)).Perm (((k,tt)::M).map k9):=by refine (mf.map (·.2)).trans ?_;simp only[Z0,g7];exact .refl _
  have m7:7<=t.mask:=by rcases tk.om with e|e|e<;>lia
  have Ak:t'.tooFull=false:=by unfold ahK;rw[p7,p4];simp;lia
  rw[Ak];simp only[agD,ZT,if_false];obtain⟨M',e1,e2⟩:=rX bB;refine ZI (ZI (h1 bq _ M' wc #[_,_,t',_,gS,g2,Y,p2,p5.trans g4,p6.trans g5,?_,e1] e2));rw[mf.length_eq,p4];simp;lia
def se(key:Nat->Int)(i:Nat)(M:List (Int × PySem.Tok)):Prop :=
 (M.map (·.1)).Nodup/\(∀ m∈M,∃ j,j<i/\m.1=key j)/\(∀ j,j<i->key j∈M.map (·.1))/\M.length<=i
theorem Sw(e:h.get? S=U (dF w)):lg h S [] (jk w) :=
 #[_,0,_,([]:List (Nat × Int × ZP)),e,Y,Y,#[Y,Y,List.Pairwise.nil,(λy hx=>nomatch hx),ade Y,Z3 _,(λy hx=>nomatch hx)],Y,Y,(show 0 * 5<7 * 3 by decide),Y]
theorem Sx{R:afW->ZU->Prop}{I:ZX}{fp wr:List ZX}{G:Array ahR->Array ahR->Prop}{n:Nat}{P:Nat->ZP->Prop}{St:Nat->ZU->Prop}(W:WalksS prog w A.in1 I fp wr G n P St)(S:ZX)(gM:S∉fp){key:Nat->Int}{led:Bool}(Am:∀ i v,P i v->∃ tt,v = .int (key i) tt)(hn:n<=3) :
 ∀ (k i:Nat) (s:ZU) (M:List (Int × PySem.Tok)),n-i=k->i<=n->St i s->lg s.heap S M led->se key i M ->
  (∀ s' M',Moved (S::wr) G s s'->lg s'.heap S M' led->se key n M'->R (.ok (.ret .none)) s') ->
  acF (model prog w) A (.builtin "set.update.loop" #[[.ref S,.ref I],[]]) R s:=by
 have rZ:S∉wr:=λh=>gM (W.sub _ h);have iC:∀ b∈wr,b∈S::wr:=λb hb=>Z6 _ hb;intro k
 induction k with
 | zero =>
  intro i s M hk hi bG hS hM hR;obtain rfl:i=n:=by lia
  refine aau abt ?_;rw[aai aaP _];refine show ZZ _ A.in1 (acQ (.ref I) >>= _) _ _ s from ZE (W.done s _ _ bG λs' hm=>?_);exact show ZZ _ A.in1 (ret Value.none) _ _ s' from ZI (hR s' M (hm.mono iC) (let ⟨o,ep,t,L,ho,rest⟩:=hS;#[o,ep,t,L,hm.heap S _ rZ ho,rest]) hM)
 | succ k ih =>
  intro i s M hk hi bG hS hM hR;have aL:i<n:=by lia
  refine aau abt ?_;rw[aai aaP _];refine show ZZ _ A.in1 (acQ (.ref I) >>= _) _ _ s from ZE (W.item i s _ _ aL bG λv s' hP An hm=>?_);obtain⟨tt,rfl⟩:=Am i v hP;have fz:lg s'.heap S M led:=let ⟨o,ep,t,L,ho,rest⟩:=hS;#[o,ep,t,L,hm.heap S _ rZ ho,rest];refine show ZZ _ A.in1 (holding [Value.int (key i) tt] (setAdd S (.int (key i) tt)) >>= _) _ _ s' from ZE (aaB ?_);unfold setAdd;refine aaB (ZE ((adn prog w).pyHash (k:=key i) (by simp[adn,adF]) ?_));have go:∀ (h':acz) (M':List (Int × PySem.Tok)),Heap.SameBut S s'.heap h'->lg h' S M' led->se key (i+1) M' ->
   ZZ (model prog w) A.in1 (again (.builtin "set.update.loop" #[[.ref S,.ref I],[]])) (λfin s'=>match fin with|.done f=>R (.ok f) s'|.again c'=>c'.quiet=true/\acF (model prog w) A c' R s') (λe s'=>R (.error e) s') { s' with heap:=h',toks:=s'.toks+1 }:=by
   intro h' M' fh nX Ao;refine ZI #[aaY aaP _,ih (i+1) _ M' (by lia) aL (W.frame _ s' _ _ An (adG _) λb hb o e=>?_) nX Ao λnq Ap Aq Ar As=>?_]
   .rw[fh.2 b (λh:b=S=>gM (by rw[<- h];exact hb))];exact e
   .refine hR nq Ap (Moved.trans W.gtrans ((hm.mono iC).then_heap (adG _) λb o hb e=>?_) Aq) Ar As;rw[fh.2 b (λh:b=S=>hb (by rw[h];exact aaA))];exact e
  refine add_int (s:={ s' with toks:=s'.toks+1 }) (M:=M) fz (by have:=hM.2.2.2;lia) (λbq=>?_) (λbq h' M' fh nX bB=>?_)
  .refine go s'.heap M (Heap.SameBut.refl S s'.heap) fz #[hM.1,λm hm=>?_,λj hj=>?_,by have:=hM.2.2.2;lia]
   .obtain⟨j,hj,e⟩:=hM.2.1 m hm;exact#[j,by lia,e]
   .by_cases e:j=i
    .rw[e];exact bq
    .exact hM.2.2.1 j (by lia)
  .refine go h' M' fh nX #[((bB.map (·.1)).nodup_iff).mpr (aaC.mpr #[bq,hM.1]),λm hm=>?_,λj hj=>?_,by have:=bB.length_eq;have:=hM.2.2.2;simp at *;lia]
   .rcases ZO.mp (bB.mem_iff.mp hm) with rfl|hm
    .exact#[i,by lia,Y]
    .obtain⟨j,hj,e⟩:=hM.2.1 m hm;exact#[j,by lia,e]
   .refine ((bB.map (·.1)).mem_iff).mpr ?_;by_cases e:j=i
    .rw[e];exact aaA
    .exact Z6 _ (hM.2.2.1 j (by lia))
theorem Sy(hh:A.handled=O)(hl:s.heap.IsList l items)(hn:items.size<=3)(hit:∀ (i:Nat) (v:ZP),items[i]?=U v->∃ tt,v = .int (key i) tt)(h:∀ (h':acz) (tk:Nat) (M:List (Int × PySem.Tok)),lg h' s.heap.objs.size M (jk w)->se key items.size M->(∀ b o,b<s.heap.objs.size->s.heap.get? b=U o->h'.get? b=U o)->Q (.ref s.heap.objs.size) { s with heap:=h',toks:=tk }) :
 ZZ (model prog w) A (call (.type "set") [.ref l]) Q E s:=by
 obtain⟨c,tl,hmro⟩:=PySem.F.called_set.mro;have Sf:=PySem.F.called_set.made;have iC:=PySem.F.called_set.sub;refine ae5 (age (show ZZ _ _ (callAny (.type "set") _) _ _ _ from ZI #[Code.quiet_builtin _ (by decide +kernel),aau aft ?_]));rw[ag3 (agg "set" [.ref l] []) Y];have h1:=PySem.F.called_set.notType;have h2:=PySem.F.called_set.canCreate;have Sg:=afN (.ref l);repeat (any_goals (first|assumption|wp_step))
 refine ac9 (IK (.ref l) (E:=E) (Q₁:=λobj s₁=>obj = .ref s.heap.objs.size/\s₁ = { s with heap:=s.heap.push (dF w) }) #[Y,Y]) λr s₁ hr=>?_;cases r with
 | error e=>exact hr
 | ok fl =>
  cases fl with
  | ret obj =>
   obtain⟨rfl,rfl⟩:=hr;have gS:(s.heap.push (dF w)).get? s.heap.objs.size=U (dF w):=ZR _ rfl;have hT:Shared.TypeIs { s with heap:=s.heap.push (dF w) } (.ref s.heap.objs.size) "set" := #[_,gS,Y];have nY:=PySem.F.called_set.init.lookup;have Au:=PySem.F.called_set.init.bind (.ref s.heap.objs.size)
   repeat (any_goals (first|assumption|wp_step))
   refine ac9 (adp (R:=wants (λr s₂=>r = .none/\∃ h' tk M,s₂ = { s with heap:=h',toks:=tk }/\lg h' s.heap.objs.size M (jk w)/\se key items.size M /\
    (∀ b o,b<s.heap.objs.size->s.heap.get? b=U o->h'.get? b=U o)) E) PySem.F.called_set.init.plain afO (ahL hT ?_)) λr₂ s₂ nZ=>?_
   .have lt:l<s.heap.objs.size:=let ⟨_,e,_⟩:=hl;ZM e;obtain⟨ol,hol,aY,nl,hdl⟩:=id hl;obtain⟨ocls,odict,odata,oslots⟩:=ol;obtain rfl:ocls = .type "list" := aY;obtain rfl:odata = .seq items nl:=hdl;have Av:(s.heap.push (dF w)).get? l=U { cls:=.type "list",dict:=odict,data:=.seq items nl,slots:=oslots }:=ZH _ hol;have Si:=agw;have Sj:=aeL;have bM:(ad4 "list" == ad4 "dict")=false:=by decide
    have jY:(s.heap.push (dF w)).IsList l items:=#[_,Av,Y,nl,Y]
    unfold aci.«set.__init__» noKeywords Builtin.Frozenset.updateFrom;generalize Aw:air=PI;wp_walk;subst Aw;refine acE jY (ZE (agA ?_));have Ax:A.in1.in1.in1.handled=O:=by simp[hh]
    have mh:(s.heap.push (dF w)).objs.size=s.heap.objs.size+1:=abm _ _;have lI:l≠(s.heap.push (dF w)).objs.size:=by rw[mh];exact ZY (abD lt)
    have SI:s.heap.objs.size∉[(s.heap.push (dF w)).objs.size,l]:=by rw[mh];simp only[ZO,aaL,or_false,not_or];exact#[ZY (acr _),aaX lt]
    refine Sx ((Walks.list Ax _ l lI items).toS) s.heap.objs.size SI (key:=key) (led:=jk w) hit hn (items.size-0) 0 _ [] (by lia) (Z3 _)
     #[#[_,ZR _ Y,Y,Y],(jY.push _)] (Sw (ZH _ gS))
     #[ac3,λy hx=>(by cases hx),λj hj=>(by lia),Z3 _] λs' M hm fz hM=>?_
    obtain⟨h',g',d',n4,lL⟩:=s';obtain rfl:g'=s.gens:=hm.gens;obtain rfl:d'=s.drawn:=hm.drawn;obtain rfl:lL=s.os:=hm.os;show ZZ _ _ _ _ _ _;refine ZI (show ZZ _ _ (ret Value.none) _ _ _ from ZI #[Y,h',n4,M,Y,fz,hM,λb o hb e=>?_]);refine hm.heap b o ?_ (ZH _ (ZH _ e));simp only[ZO,aaL,or_false,not_or,mh];exact#[ZY hb,ZY (abD hb)]
   .cases r₂ with
    | error e=>exact nZ
    | ok Ay =>
     cases Ay with
     | ret r =>
      obtain⟨rfl,h',tk,M,rfl,fz,hM,cE⟩:=nZ
      repeat (any_goals (first|assumption|wp_step))
      exact h _ _ M fz hM cE
     | _=>exact nZ.elim
  | _=>exact hr.elim
end
end Gz
namespace Gz
open PySem PySem.Spec PyProof.Rows L2
def jm(h:acz)(a:ZX)(p:P2):Prop:=∃ o t u n,h.get? a=U o/\o.cls = .type "tuple" /\ o.data = .seq (List.toArray [.int p.1 t,.int p.2 u]) n
theorem jm.keep(x:jm h a p)(k:∀ o,h.get? a=U o->h'.get? a=U o):jm h' a p:=let ⟨o,t,u,n,e,r⟩:=x;#[o,t,u,n,k o e,r]
section
theorem AA(h:Q (.bool (decide (x<y))) s):ZZ (model prog w) A (aeA .Lt (.int x t) (.int y u)) Q E s :=
 richCompare_gives (op:=.Lt) (ait s _ t) (ait s _ u) PySem.F.slot_int_lt PySem.F.entry_int_lt (PySem.F.args_int_lt_2 _ _) (gives_int_lt _ _ t u) (λx=>nomatch x) h
theorem wk(ha:jm s.heap a p)(hb:jm s.heap b q)(hu:A.units<adQ)(h:Q (.bool (ft p q)) s):ZZ (model prog w) A (aeA .Lt (.ref a) (.ref b)) Q E s:=by
 obtain⟨oa,t1,u1,n1,hoa,hca,hda⟩:=ha;obtain⟨ob,t2,u2,n2,hob,hcb,gG⟩:=hb;have Ta:s.TypeIs (.ref a) "tuple" := #[oa,hoa,hca];have Tb:s.TypeIs (.ref b) "tuple" := #[ob,hob,hcb];refine wpAny_richCompare_same_room Ta Tb agi (aa3 agi Ta PySem.F.entry_tuple_lt ?_ (PySem.F.args_tuple_lt_2 _ _)) hu;show ZZ _ _ (isInstance (.ref b) (.type "tuple") >>= _) _ _ s;refine ZE (acs Tb isSubtype_tuple_tuple ?_);simp only[ab9,ZT,if_false];refine ZE (ag4 hoa hda ?_);refine ZE (ag4 hob gG ?_);refine ZE ?_;refine adC _ (λrest r s'=>r.1=O/\s'=s/\(rest=[(.int p.1 t1,.int q.1 t2),(.int p.2 u1,.int q.2 u2)]∨(rest=[(.int p.2 u1,.int q.2 u2)]/\p.1=q.1)∨(rest=[]/\p.1=q.1/\p.2=q.2))) _ ?_ ?_ _ _ #[Y,Y,.inl rfl]
 .rintro ⟨u,v⟩ rest r s' ⟨hr,rfl,hz⟩;rcases hz with hz|⟨hz,e1⟩|⟨hz,y⟩
  .cases hz;refine ZE (aem ?_);by_cases e:p.1=q.1
   .rw[show (p.1 == q.1)=true by simpa using e];simp only[ab9,ZT,if_false];exact ZI #[Y,Y,.inr (.inl #[trivial,e])]
   .rw[show (p.1 == q.1)=false by simpa using e];simp only[agC,if_true];refine ZE (adN (ZE (AA (ZE (ZI (ZI (ZI #[_,Y,λz=>(nomatch z),?_])))))));have e2:ft p q=decide (p.1<q.1):=by unfold ft;rw[decide_eq_false e];simp
    rw[<- e2];exact h
  .cases hz;refine ZE (aem ?_);by_cases e:p.2=q.2
   .rw[show (p.2 == q.2)=true by simpa using e];simp only[ab9,ZT,if_false];exact ZI #[Y,Y,.inr (.inr #[trivial,e1,e])]
   .rw[show (p.2 == q.2)=false by simpa using e];simp only[agC,if_true];refine ZE (adN (ZE (AA (ZE (ZI (ZI (ZI #[_,Y,λz=>(nomatch z),?_])))))));have e2:ft p q=decide (p.2<q.2):=by unfold ft;rw[e1];simp
    rw[<- e2];exact h
  .cases hz
 .rintro ⟨r1,r2⟩ s' ⟨hr,rfl,hz⟩;simp only at hr;subst hr;rcases hz with hz|⟨hz,y⟩|⟨y,e1,e2⟩
  .cases hz
  .cases hz
  .refine ZI #[_,Y,λz=>(nomatch z),?_];have e3:ft p q=false:=by unfold ft;rw[e1,e2];simp
   rw[e3] at h;exact h
theorem Sz(hh:A.handled=O)(ha:jm s.heap a p)(hb:jm s.heap b q)(hu:A.in1.units<adQ)(h:∀ h' tk,(∀ c o,s.heap.get? c=U o->h'.get? c=U o)->Q (.ref (if ft q p=true then b else a)) { s with heap:=h',toks:=tk }):ZZ (model prog w) A (call (.builtin "min") [.ref a,.ref b]) Q E s:=by
 have nm:(toString "min" ++ toString ".loop" : String) = "min.loop" := by decide
 refine call_function_tree afz ae8 ae9 (PySem.F.args_min2 _ _) ?_;show ZZ _ A.in1 (abd "min" ["key","default"] 0 #[[],[]] >>= _) _ _ s;refine ZE (aeB (show abd "min" ["key","default"] 0 #[[],[]]=pure [O,O] from Y) ?_);show ZZ _ A.in1 (aiD [.ref a,.ref b] >>= _) _ _ s;refine ZE (aaU ?_);have hT:(s.heap.push { cls:=.type "tuple",data:=.seq (List.toArray [.ref a,.ref b]) }).IsTuple s.heap.objs.size (List.toArray [.ref a,.ref b]):=#[_,ZR _ Y,Y,0,Y]
 refine ZE (agS hT ?_);show ZZ _ A.in1 (aiB [] >>= _) _ _ _;refine ZE (aaU ?_);generalize e1:s.heap.push { cls:=.type "tuple",data:=.seq (List.toArray [.ref a,.ref b]) }=h1 at hT;have z1:h1.objs.size=s.heap.objs.size+1:=by rw[<- e1];exact abm ..
 have k1:∀ c o,s.heap.get? c=U o->h1.get? c=U o:=λc o e=>by rw[<- e1];exact ZH _ e
 dsimp only;generalize e2:h1.push { cls:=.type "tuple_iterator",data:=.fields (List.toArray [.ref s.heap.objs.size,.int 0 0]) }=h2;have z2:h2.objs.size=h1.objs.size+1:=by rw[<- e2];exact abm ..
 have k2:∀ c o,h1.get? c=U o->h2.get? c=U o:=λc o e=>by rw[<- e2];exact ZH _ e
 have W:=Walks.tuple (prog:=prog) (w:=w) (A:=A.in1) hh h1.objs.size s.heap.objs.size (by rw[z1];exact ZY (acr _)) (List.toArray [.ref a,.ref b]);have yU:h2.IsTupleIter h1.objs.size s.heap.objs.size 0/\h2.IsTuple s.heap.objs.size (List.toArray [.ref a,.ref b]):=#[#[_,by rw[<- e2];exact ZR _ Y,Y,Y],by rw[<- e2];exact hT.push _]
 have zs:h2.objs.size∉[h1.objs.size,s.heap.objs.size]:=λz=>by
  simp only[ZO,aaL,or_false] at z;rcases z with z|z
  .rw[z2] at z;exact ahM _ z
  .rw[z2,z1] at z;exact absurd z (by intro z;have:s.heap.objs.size<s.heap.objs.size+1+1:=abD (acr _);rw[z] at this;exact aa8 _ this)
 have nS:h2.objs.size∉[h1.objs.size]:=λz=>zs (by simp at z;simp[z]);have up:∀ c o,s.heap.get? c=U o->c∉[h1.objs.size]/\c≠h2.objs.size/\(h2.push { cls:=.type "list",data:=.seq (List.toArray []) }).get? c=U o:=λc o e=>by have l1:=ZM (k1 c o e);have l2:=ZM (k2 c o (k1 c o e));exact#[λz=>by simp at z;rw[z] at l1;exact aa8 _ l1,ZY l2,ZH _ (k2 c o (k1 c o e))]
 let G:acz->Prop:=λh=>jm h a p/\jm h b q;have bD:∀ (x:ZX) (r:P2),jm s.heap x r->x∉[h1.objs.size]/\x≠h2.objs.size:=λx r hx=>by obtain⟨o,y,y,y,e,y⟩:=hx;exact#[(up x o e).1,(up x o e).2.1]
 have hG:∀ h h',G h->(∀ b o,b∉[h1.objs.size]->b≠h2.objs.size->h.get? b=U o->h'.get? b=U o)->G h':=λh h' g k=>#[g.1.keep λo e=>k a o (bD a p ha).1 (bD a p ha).2 e,g.2.keep λo e=>k b o (bD b q hb).1 (bD b q hb).2 e]
 let bt:Nat->Nat->Bool:=λi j=>ft (if i=0 then p else q) (if j=0 then p else q);have IU:∀ i v,((List.toArray [Z5 a,Z5 b]):Array ZP)[i]?=U v->(i=0/\v = .ref a)∨(i=1/\v = .ref b):=λi v e=>by
  match i,e with
  | 0,e=>cases e;exact .inl #[Y,Y]
  | 1,e=>cases e;exact .inr #[Y,Y]
  | i+2,e=>simp at e
 have kG:∀ i j vi vj (s:ZU) (Q:ZP->ZU->Prop) (E:ZP->ZU->Prop),((List.toArray [Z5 a,Z5 b]):Array ZP)[i]?=U vi->((List.toArray [Z5 a,Z5 b]):Array ZP)[j]?=U vj->G s.heap->Q (.bool (bt i j)) s->ZZ (model prog w) A.in1 (aeA .Lt vi vj) Q E s:=by
  intro i j vi vj s Q E ei ej g hq;rcases IU i vi ei with ⟨rfl,rfl⟩|⟨rfl,rfl⟩<;>rcases IU j vj ej with ⟨rfl,rfl⟩|⟨rfl,rfl⟩
  .exact wk g.1 g.1 hu hq
  .exact wk g.1 g.2 hu hq
  .exact wk g.2 g.1 hu hq
  .exact wk g.2 g.2 hu hq
 have g0:G (h2.push { cls:=.type "list",data:=.seq (List.toArray []) }):=#[ha.keep λo e=>(up a o e).2.2,hb.keep λo e=>(up b o e).2.2]
 have oS:(h2.push { cls:=.type "list",data:=.seq (List.toArray []) }).get? h2.objs.size=U { cls:=.type "list",dict:=O,data:=.seq (List.toArray []) 0,slots:=(List.toArray []) }:=ZR _ rfl;have ja:=W.frame 0 h2 (h2.push { cls:=.type "list",data:=.seq (List.toArray []) }) yU λb y o q=>ZH _ q;rw[nm];refine ZI #[aaY aaF _,?_];refine aau abP ?_;rw[aai aaF _];show ZZ _ A.in1 (aef (.ref h2.objs.size) >>= _) _ _ _;refine ZE (abH oS Y ?_);show ZZ _ A.in1 (tryCatch (acQ (.ref h1.objs.size)) _ >>= _) _ _ _;refine ZE (abo (W.item 0 _ _ _ (by simp) ja λv h3 tk pv eF kp=>?_));have dO:=kp _ _ nS oS;show ZZ _ A.in1 (aeg h2.objs.size (λy=>(List.toArray [v,v])) >>= _) _ _ _;refine ZE ?_;refine abp dO Y ?_;rw[nm];have g3:G h3:=hG _ _ g0 λb o hw y e=>kp b o hw e;refine ZI #[aaY aaF _,(FP (by decide) abP aaF) W hG kG zs 1 0 _ v _ (by simp) (W.frame _ _ _ eF λb hf o e=>?_) (hG _ _ g3 λb o y lU e=>(ZV _ _ (aaQ lU)).trans e) pv (aam _ dO Y) λv2 h4 SA p4 k4=>?_]
 .exact (ZV _ _ (λz:h2.objs.size=b=>zs (by rw[z];exact hf))).trans e
 .have ev:v2 = .ref (if ft q p=true then b else a):=by
   have e4:((List.toArray [Z5 a,Z5 b]):Array ZP)[ab3 bt 1]?=U v2:=by simpa using p4
   have zP:ab3 bt 1=if ft q p=true then 1 else 0:=by show (if bt 1 0 then 1 else 0)=_;rfl
   rw[zP] at e4;by_cases hl:ft q p=true
   .rw[if_pos hl] at e4 ⊢;cases e4;rfl
   .rw[if_neg hl] at e4 ⊢;cases e4;rfl
  subst ev;refine h h4 SA λc o e=>?_;obtain⟨u1,u2,u3⟩:=up c o e;exact k4 c o u1 u2 ((ZV _ _ (aaQ u2)).trans (kp c o u1 u3))
def IV(H:Hp)(Q:VK)(xs:List V):Prop:=∃ (a b:ZX) (p q:P2),xs=[.ref a,.ref b]/\H a=U (.tup [.int p.1,.int p.2])/\H b=U (.tup [.int q.1,.int q.2])/\Q (.ref (if ft q p=true then b else a)) H
theorem SD(hc:X.calm=true)(hu:X.A.units+1<adQ):eT X (.builtin "min") (λxs H Q=>IV H Q xs):=by
 intro pins s J H xs us Q I r h;obtain⟨a,b,p,q,rfl,ha,hb,hq⟩:=h;obtain⟨u,v,rfl,ru,rv⟩:=vals2 r;cases ru;cases rv;have pr:∀ (x:ZX) (r:P2),H x=U (.tup [.int r.1,.int r.2])->jm s.heap x r:=λx r hx=>by
  obtain⟨y,ai,hv,hi⟩:=(show bE X.prog X.w H s.heap x (.tup [.int r.1,.int r.2]) from I.ak x _ hx)
  obtain⟨u1,u2,rfl,⟨t1,rfl⟩,⟨t2,rfl⟩⟩:=vals2 hv;obtain⟨o,ho,aY,n,hd⟩:=hi;exact#[o,t1,t2,n,ho,aY,hd]
 exact Sz (I.ok.hd hc) (pr a p ha) (pr b q hb) (show X.A.units+1<adQ from hu) λh' tk k=>#[.ref _,H,I.kept k,Y,hq]
end
section
theorem AB(h:adT vs ns):∀ i,(vs[i]?=O/\ns.drop i=[]) ∨ ∃ n t,vs[i]?=U (.int n t)/\ns.drop i=n::ns.drop (i+1):=by
 induction h with
 | nil=>intro i;exact .inl #[by simp,by simp]
 | cons n t _ ih =>
  intro i;cases i with
  | zero=>exact .inr #[n,t,by simp,by simp]
  | succ i=>simpa using ih i
theorem SE(ha:s.heap.get? a=U oa)(da:oa.data = .seq xs.toArray n1)(hb:s.heap.get? b=U ob)(db:ob.data = .seq ys.toArray n2)(hi:adT xs ns)(hj:adT ys ms) :
 ∀ (k i:Nat),xs.length-i=k->i<=xs.length->R (.ok (.ret (.bool (HT.lexLt (ns.drop i) (ms.drop i))))) s->acF (model prog w) A (.builtin "list.__eq__.loop" #[[.ref a,.ref b,adL i,adL 0],[]]) R s:=by
 have Za:xs.length=ns.length:=hi.length;have Zb:ys.length=ms.length:=hj.length;intro k
 induction k with
 | zero =>
  intro i hk hle q;refine aau aep ?_;rw[aai ab5 _];show ZZ _ A.in1 (ac5 (.ref a) >>= _) _ _ s;refine ZE (abV ha da (ZE (abV hb db ?_)));rw[aat,aaO,aaO,abB (by lia:xs.length<=i)];dsimp only;refine ZE (abV ha da (ZE (abV hb db ?_)));refine ZI ?_;show R (.ok (.ret (.bool (decide (xs.toArray.size<ys.toArray.size))))) s;have e:decide (xs.toArray.size<ys.toArray.size)=HT.lexLt (ns.drop i) (ms.drop i):=by
   rw[ad2 (by lia:ns.length<=i)];rcases AB hj i with ⟨e2,d2⟩|⟨y,ty,e2,d2⟩
   .have:=abU.mp e2;rw[d2];simp[HT.lexLt];lia
   .have:=(ZL.mp e2).1;rw[d2];simp[HT.lexLt];lia
  rw[e];exact q
 | succ k ih =>
  intro i hk hle q;refine aau aep ?_;rw[aai ab5 _];show ZZ _ A.in1 (ac5 (.ref a) >>= _) _ _ s;refine ZE (abV ha da (ZE (abV hb db ?_)));rw[aat,aaO,aaO];rcases AB hi i with ⟨e1,z⟩|⟨x,tx,e1,d1⟩
  .have:=abU.mp e1;lia
  rw[e1];rcases AB hj i with ⟨e2,d2⟩|⟨y,ty,e2,d2⟩
  .rw[e2];dsimp only;refine ZE (abV ha da (ZE (abV hb db ?_)));refine ZI ?_;show R (.ok (.ret (.bool (decide (xs.toArray.size<ys.toArray.size))))) s;rw[d1,d2] at q;have:=abU.mp e2;rw[show decide (xs.toArray.size<ys.toArray.size)=false by simp;lia];exact q
  .rw[e2];dsimp only;refine ZE (aem ?_);rw[d1,d2,HT.lN] at q;by_cases e:x=y
   .rw[if_pos e] at q;rw[show (x == y)=true by simpa using e,if_pos Y];exact ZI #[aaY ab5 _,ih (i+1) (by lia) (by lia) q]
   .rw[if_neg e] at q;rw[show (x == y)=false by simpa using e,if_neg (by decide)];refine ZE (abV ha da (ZE (abV hb db ?_)));rw[aaO,aaO,e1,e2];dsimp only;exact ZE (AA (ZI q))
def p8(h:acz)(a:ZX)(ns:List Int):Prop:=∃ o xs n,h.get? a=U o/\o.cls = .type "list" /\ o.data = .seq (abf xs) n/\adT xs ns
theorem SF(ha:p8 s.heap a ns)(hb:p8 s.heap b ms)(q:Q (.bool (HT.lexLt ns ms)) s):ZZ (model prog w) A (call (.builtin "list.__lt__") [.ref a,.ref b]) Q E s:=by obtain⟨oa,xs,n1,h1,h2,h3,h4⟩:=ha;obtain⟨ob,ys,n2,g1,g2,g3,g4⟩:=hb;refine ae5 (adp PySem.F.slot_list_lt.plain PySem.F.entry_list_lt (PySem.F.slot_list_lt.check _ _ _ _ _ _ _ _ #[oa,h1,h2] (PySem.F.args_list_lt_2 _ _) ?_));show ZZ _ A.in1 (isInstance (.ref b) (.type "list") >>= _) _ _ s;refine ZE (acs (T := "list") (b:=true) #[ob,g1,g2] (by rw[aeZ];kernel_rfl) ?_);simp only[ab9,ZT,if_false];refine acn (λz=>absurd z (by decide)) (λy=>?_);exact ZI #[aaY ab5 _,SE h1 h3 g1 g3 h4 g4 _ 0 Y (Z3 _) q]
theorem SG(hu:A.units<adQ)(ha:p8 s.heap a ns)(hb:p8 s.heap b ms)(q:Q (HT.lexLt ns ms) s):ZZ (model prog w) A (oneLt' true (.ref a) (.ref b)) Q E s:=by rw[oneLt'_eq];simp only[if_true];refine ZE (wpAny_cRoomFor hu ?_);refine ZE (wpAny_callSpecialIfBound?_slot (let ⟨o,_,_,e,c,_⟩:=ha;#[o,e,c]) PySem.F.slot_list_lt (SF ha hb ?_));exact aaR q
def wm(h:acz)(vs:List ZP)(kis:List (List Int))(i:Nat):Prop:=∃ p,vs[i]?=U (.ref p)/\p8 h p (kis.getD i [])
theorem SH(ho:s.heap.get? a=U (abx "list" vs.toArray n))(hl:kis.length=vs.length)(bO:vs.length<64)(hu:A.units<adQ)(hk:∀ i,i<vs.length->wm s.heap vs kis i)(sf:∀ i:Nat,vs[i]? ≠ U (Z5 a))(fin:∀ h',(∀ b o,b≠a->s.heap.get? b=U o->h'.get? b=U o)->(∃ c,h'.get? a=U (abx "list" (abf ((bH (bP kis) vs.length).toList.map λi=>vs.getD i Value.none)) c))->P (.done (.ret .none)) { s with heap:=h' }) :
 ZZ (model prog w) A (aci.«list.sort» #[[.ref a],[]]) P E s:=by
 rw[aic];have la:a<s.heap.objs.size:=ZM ho;refine ZE (abV ho Y (ZE (adV ho Y ?_ (by rw[ZW,acg];walk_at "o") (Z3 _))));obtain⟨e1,oa⟩:∃ e1,(s.heap.update a (aaZ λy=>((List.toArray []):Array ZP))).get? a=U (abx "list" (List.toArray []) e1):=#[_,aeF ho λy=>(List.toArray [])]
 have keep:∀ b o,b≠a->s.heap.get? b=U o->(s.heap.update a (aaZ λy=>((List.toArray []):Array ZP))).get? b=U o:=λb o z e=>(ZV _ _ (aaQ z)).trans e;refine ZE (aeG oa Y ?_);generalize s.heap.update a (aaZ λy=>((List.toArray []):Array ZP))=g at oa keep ⊢;refine ZE (agz ?_ (by show vs.length<=_;rw[acg];walk_at "o"));refine ZE (afr ?_ (Z3 _));refine aaB ?_;show ZZ (model prog w) A _ P E { s with heap:=(g.push (abx "tuple" vs.toArray 0)).push (abx "list" (List.toArray []) 0) };have gP:((g.push (abx "tuple" vs.toArray 0)).push (abx "list" (List.toArray []) 0)).get? a=U (abx "list" (List.toArray []) e1):=ZH _ (ZH _ oa);have nN:∀ b o,b≠a->s.heap.get? b=U o->((g.push (abx "tuple" vs.toArray 0)).push (abx "list" (List.toArray []) 0)).get? b=U o:=λb o z e=>ZH _ (ZH _ (keep b o z e));generalize (g.push (abx "tuple" vs.toArray 0)).push (abx "list" (List.toArray []) 0)=g2 at gP nN ⊢;dsimp only;have zG:((bH (bP kis) vs.length).toList.map λi=>vs.getD i Value.none).length=vs.length:=by rw[ZJ,(nJ (n:=vs.length) (kJ kis)).1.length_eq,Z8]
 have sz:(abf ((bH (bP kis) vs.length).toList.map λi=>vs.getD i Value.none)).size<=aah+1:=by rw[ZW,zG,acg];walk_at "o"
 have done:P (.done (.ret .none)) { s with heap:=g2.update a (aaZ λy=>abf ((bH (bP kis) vs.length).toList.map λi=>vs.getD i Value.none)) } :=
  fin _ (λb o z e=>(ZV _ _ (aaQ z)).trans (nN b o z e)) #[_,aeF gP λy=>_]
 by_cases h2:vs.toArray.size<2
 .rw[if_pos h2,if_pos h2];refine ZE (ZI ?_);rw[StateT.run_pure];refine ZE (ZI ?_);dsimp only;have self:(Z7 vs.length).map (λi=>vs.getD i Value.none)=vs:=by
   apply adB
   .simp
   .intro i h1 h2;simp[ZG,h2]
  have e0:(arrOf (SortSt.mk' general' (vs.toArray.zip vs.toArray) (List.toArray []) 7 O)).map (·.2)=abf ((bH (bP kis) vs.length).toList.map λi=>vs.getD i Value.none):=by unfold bH;rw[if_pos (by simpa using h2)];apply ahC.mp;rw[show (Z7 vs.length).toArray.toList=Z7 vs.length from Y,self];show ((vs.toArray.zip vs.toArray).map (·.2)).toList=_;simp[ahD]
  rw[e0];refine ZE (aeG gP Y (ZE (adV gP Y ?_ (Z3 _) sz)));simp only[bne_self_eq_false,ZT,if_false];exact ZI done
 .rw[if_neg h2,if_neg h2];have pI:2<=vs.length:=by rw[ZW] at h2;walk_at "o"
  have eM:∀ i,i<vs.length->wm g2 vs kis i:=λi hi=>by obtain⟨p,e,o,xs,m,h1,r⟩:=hk i hi;exact#[p,e,o,xs,m,nN p o (λz=>sf i (by rw[e,z])) h1,r]
  refine ZE (ahN (s:={ s with heap:=g2 }) (T:=.type "list") pI (λv hv=>?_) (by decide) (by decide) ?_)
  .obtain⟨i,hi,rfl⟩:=aaD hv;obtain⟨p,e,o,xs,m,h1,hc,y⟩:=eM i hi;rw[ZK hi] at e;rw[Option.some.inj e,<- hc];exact (PySem.W.Looks.ld h1).andThen .now
  have ask:(ahE vs.length).kasWp (aid prog w A (aiH) vs) (λp s'=>s' = { s with heap:=g2 }/\p=bH (bP kis) vs.length) { s with heap:=g2 }:=by
   have pv:=zo _ (zm (n:=vs.length) (kJ kis) (by walk_at "o"));refine zj (lt:=bP kis) (n:=vs.length) (Ok:=λs'=>s' = { s with heap:=g2 }) (λi j C s' hi hj e q=>?_) (λp s' e q=>#[e,?_]) _ _ Y pv
   .subst e;obtain⟨p1,a1,l1⟩:=eM i hi;obtain⟨p2,a2,l2⟩:=eM j hj;show ZZ _ _ (keyLt' aiH (vs.getD i Value.none) (vs.getD j Value.none)) C _ _;rw[ZG,ZG,a1,a2,keyLt'_oneType];exact SG (s:={ s with heap:=g2 }) hu l1 l2 (q _ Y)
   .rw[q];unfold bH;rw[if_neg (by walk_at "o")]
  refine ZE (aba (aie (κ:=aiH) (ks:=vs) (vs:=vs) (Q:=λst s'=>s' = { s with heap:=g2 }/\arrOf st=(bH (bP kis) vs.length).map (ahF (vs.toArray.zip vs.toArray))/\failedOf st=O)
   Y pI bO (λp st s' b1 b2 b3 b4=>#[b4.1,by rw[b2,b4.2],b3]) ask) ?_ λy y z=>z)
  rintro ⟨⟨⟩,st⟩ s' ⟨rfl,har,hf⟩;dsimp only;rw[ahG Y har];refine ZE (aeG gP Y (ZE (adV gP Y ?_ (Z3 _) sz)));rw[hf];simp only[bne_self_eq_false,ZT,if_false];exact ZI done
theorem SJ(hl:kis.length=vs.length)(bO:vs.length<64)(hu:A.units+64<adQ)(hk:∀ i,i<vs.length->wm s.heap vs kis i)(nO:∀ (A':abI) (Q':List ZP->ZU->Prop) (E':ZP->ZU->Prop),A'.handled=A.handled->(∀ h' tk,(∀ b o,s.heap.get? b=U o->h'.get? b=U o)->s.heap.objs.size<=h'.objs.size->Q' vs { s with heap:=h',toks:=tk })->ZZ (model prog w) A' (collect (.ref r)) Q' E' s)(q:∀ l h' tk,s.heap.objs.size<=l->(∀ b o,s.heap.get? b=U o->h'.get? b=U o)->(∃ c,h'.get? l=U (abx "list" (abf ((bH (bP kis) vs.length).toList.map λi=>vs.getD i Value.none)) c))->Q (.ref l) { s with heap:=h',toks:=tk }) :
 ZZ (model prog w) A (call (.builtin "sorted") [.ref r]) Q E s:=by
 refine adw kind_sorted plain_sorted entry_sorted (args_sorted1 _) ?_;unfold aci.«sorted»;refine ZE (m:=checkCount "sorted" 1 1 _) (ZI (ZE (nO _ _ _ Y λh1 tk keep hsz=>?_)));refine ZE (afr ?_ (by rw[acg];walk_at "o"));have oL:(h1.push (abx "list" vs.toArray 0)).get? h1.objs.size=U (abx "list" vs.toArray 0):=ZR _ rfl;have iy:∀ b o,s.heap.get? b=U o->b≠h1.objs.size/\(h1.push (abx "list" vs.toArray 0)).get? b=U o:=λb o e=>by have:=ZM e;exact#[by walk_at "o",ZH _ (keep b o e)]
 show ZZ _ A.in1 (holding [.ref h1.objs.size] (call (.builtin "list.sort") [.ref h1.objs.size]) >>= _) _ _ { s with heap:=h1.push (abx "list" vs.toArray 0),toks:=tk };generalize h1.push (abx "list" vs.toArray 0)=h2 at oL iy ⊢;generalize h1.objs.size=l at oL iy hsz ⊢;refine ZE (aaB (aa3 slot_list_sort #[_,oL,Y] aif ?body (args_list_sort _)))
 case body =>
  refine SH (s:={ s with heap:=h2,toks:=tk }) oL hl bO ?_ (λi hi=>let ⟨p,e,o,xs,m,h1,r⟩:=hk i hi;#[p,e,o,xs,m,(iy p o h1).2,r]) (λi z=>?_) λh' k c=>#[_,Y,ZI #[_,Y,q l h' tk hsz (λb o e=>k b o (iy b o e).1 (iy b o e).2) c]]
  .exact aaS (show A.units+1+1<=A.units+64 by lia) hu
  .have hi:i<vs.length:=(ZL.mp z).1;obtain⟨p,e,o,xs,m,h1,y⟩:=hk i hi;rw[e] at z;cases z;exact (iy _ o h1).1 rfl
end
section
def IW(vs:List ZP)(kis:List (List Int))(i:Nat):Prop:=∃ x t,vs[i]?=U (.int x t)/\kis.getD i []=[x]
theorem SK(hk:∀ i,i<vs.length->IW vs kis i):vN prog w h vs kis:=λh2=>by
 refine#[aiH,λA E s e=>#[λQ q=>ahN (T:=.type "int") h2 (λv hv=>?_) (by decide) (by decide) q,λi j hi hj C q=>?_]]
 .obtain⟨i,hi,rfl⟩:=aaD hv;obtain⟨x,tt,e,y⟩:=hk i hi;rw[ZK hi] at e;rw[Option.some.inj e];exact PySem.W.Looks.now
 .obtain⟨x1,t1,a1,l1⟩:=hk i hi;obtain⟨x2,t2,a2,l2⟩:=hk j hj;rw[ZG,ZG,a1,a2];refine PySem.W.kat_lt_int (cast (congrArg (λb=>C b s) ?_) q);unfold bP;rw[l1,l2,HT.lN];by_cases e:x1=x2
  .rw[if_pos e,e];simp[HT.lexLt]
  .rw[if_neg e]
theorem SM(hl:kis.length=vs.length)(bO:vs.length<64)(hk:∀ i,i<vs.length->IW vs kis i)(nO:∀ (A':abI) (Q':List ZP->ZU->Prop) (E':ZP->ZU->Prop),A'.handled=A.handled->(∀ h' tk,(∀ b o,s.heap.get? b=U o->h'.get? b=U o)->s.heap.objs.size<=h'.objs.size->Q' vs { s with heap:=h',toks:=tk })->ZZ (model prog w) A' (collect (.ref r)) Q' E' s)(q:∀ l h' tk,s.heap.objs.size<=l->(∀ b o,s.heap.get? b=U o->h'.get? b=U o)->(∃ c,h'.get? l=U (abx "list" (abf ((bH (bP kis) vs.length).toList.map λi=>vs.getD i Value.none)) c))->Q (.ref l) { s with heap:=h',toks:=tk }) :
 ZZ (model prog w) A (call (.builtin "sorted") [.ref r]) Q E s:=G7 hl bO (λg y=>SK hk) nO q
end
end Gz
namespace Gz
open PySem PySem.Spec PyProof.Rows L2 kZ
theorem SN(kis:List (List Int))(ns:List Int):b7 kis V.non (ns.map V.int)=(b7 kis 0 ns).map V.int:=by unfold b7;rw[abg,ZJ];refine acm λi hi=>?_;have hp:=(nJ (n:=ns.length) (kJ kis)).1;have:i<ns.length:=aas.mp (hp.mem_iff.mp hi);simp[ac1,this]
theorem IX:∀ M:List (Int × PySem.Tok),Vals ((M.map (·.1)).map V.int) (M.map λm=>Value.int m.1 m.2)
 | []=>.nil
 | m::M=>.cons #[m.2,Y] (IX M)
def IY(K:ZF)(t:TE):TE:=λJ H Q=>t J H λv H1=>∃ (a:ZX) (ns:List Int),v=V.ref a/\ah K H1 a (ns.map V.int)/\ns.length<=3 /\
 ∀ zs:List Int,zs.Nodup->(∀ x,x∈zs↔x∈ns)->zs.Pairwise (· <= ·)->∀ l,H1 l=O->Q (.ref l) (upd H1 l (.lst (zs.map V.int)))
section
theorem SO(hc:X.calm=true)(he:PE X e t)(fA:Gl X "sorted")(AD:X.mg "sorted" = O)(lh:aax "sorted" = U (.builtin "sorted"))(n6:Gl X "set")(jZ:X.mg "set" = O)(n9:aax "set" = U (.type "set"))(bV:aae [e] X.env=[(false,eval e X.env)]:=by rfl)(j4:aae [.Call (.Name "set" p2) [e] [] gb] X.env=[(false,eval (.Call (.Name "set" p2) [e] [] gb) X.env)]:=by rfl) :
 PE X (.Call (.Name "sorted" p1) [.Call (.Name "set" p2) [e] [] gb] [] pos) (IY X.K t):=by
 intro pins s J H Q I h;refine aa9 (eB I fA AD lh ?_ (by decide) (by decide));refine acR ?_ (by rw[j4];rfl) rfl;rw[j4];show ZZ _ _ (spliced ((false,eval (.Call (.Name "set" p2) [e] [] gb) X.env)::aca pos [])) _ _ s;refine abY ?_;refine aa9 (eB I n6 jZ n9 ?_ (by decide) (by decide));refine aaq ?_ (by rw[bV];rfl) rfl;rw[bV];show ZZ _ _ (spliced ((false,eval e X.env)::aca gb [])) _ _ s;refine abY (az (he pins s J H _ I h) λu s1 zq=>?_);obtain⟨x,H1,I1,r1,q1⟩:=zq;obtain⟨a,ns,rfl,hS,hn,q⟩:=q1;cases r1;refine acb ?_;obtain⟨us,rv,pl,hz⟩:=I1.list hS;have hl:us.length=ns.length:=by have:=rv.length;rw[ZJ] at this;lia
 have hint:=intsAre_of rv;refine Sy (items:=us.toArray) (key:=λi=>ns.getD i 0) (I1.ok.hd hc) pl.isList (by simp;lia) (λi v hv=>?_) λh2 tk M AE hM hk=>?_
 .exact IntsAre.int_at hint i v (by simpa using hv)
 refine acb ?_;obtain⟨o,ep,tb,L,g1,g2,g3,n4,g4,g5,g6,g7⟩:=AE;have hx:n5 X.w s1.heap.objs.size o ep tb L:=#[g2,g3,n4,g4,g5]
 have hsz:us.toArray.size=us.length:=by simp
 rw[hsz] at hM;obtain⟨m1,m2,m3,m4⟩:=hM;have AF:L.length=M.length:=by have:=congrArg List.length g7;simpa using this
 have hp:((gU X.w s1.heap.objs.size ep (L.map (·.2)).toArray).toList).Perm (M.map k9):=by have:=wj X.w s1.heap.objs.size ep (L.map (·.2)).toArray;rw[acY,g7] at this;rw[g7];exact this
 obtain⟨M',e1,e2⟩:=rX hp;have SQ:M'.length=L.length:=e2.length_eq.trans AF.symm;have bY:(M'.map (·.1)).Nodup:=((e2.map (·.1)).nodup_iff).mpr m1;have SR:=IX M';refine SM (s:={ s1 with heap:=h2,toks:=tk }) (kis:=M'.map λm=>[m.1]) (vs:=M'.map λm=>Value.int m.1 m.2) (by simp) (by simp;lia) (λi hi=>?_) (λA' Q' E' hA hq=>?_) λl h' jb k1 k2 k3=>?_
 .have aV:i<M'.length:=by simpa using hi
  exact#[M'[i].1,M'[i].2,by simp[aV],by simp[ac1,aV]]
 .refine zI (s:={ s1 with heap:=h2,toks:=tk }) (IT hx) (hA.trans (I1.ok.hd hc)) g1 (ZQ (show L.length<=64 by lia) (by decide)) λh3 nH acc b1 b2 b3=>?_;have AG:acc.toList=M'.map λm=>Value.int m.1 m.2:=by
   refine acL λi=>?_;rw[acx];by_cases hi:i<L.length
   .have aV:i<acc.size:=by rw[b3.1];exact hi
    have ji:i<M'.length:=by lia
    have:=b3.2 i acc[i] (aao aV);dsimp only at this;have e3:(gU X.w s1.heap.objs.size ep (L.map (·.2)).toArray)[i]?=U (k9 M'[i]):=by rw[<- acx,e1];simp[ji]
    rw[e3] at this;rw[aao aV,<- this];simp[ji]
   .rw[acp (by rw[b3.1];lia)];rw[eq_comm,abU];simp only[ZJ];lia
  rw[AG];exact hq h3 nH b1 b2
 .refine rK (s:=s1) (ks:=(M'.map (·.1)).map V.int) (kis:=M'.map λm=>[m.1]) (us:=M'.map λm=>Value.int m.1 m.2) I1 SR ?_ ?_ (λb u e=>k2 b u (hk b u (ZM e) e)) k3 λl' iD=>?_
  .simp only[ZJ];exact ZQ (show _<=64 by lia) (by decide)
  .exact ZQ (adK (ZM g1)) k1
  .rw[SN];refine q _ ((kK.nodup_iff).mpr bY) (λx=>?_) ?_ l' iD
   .rw[kK.mem_iff,(e2.map (·.1)).mem_iff];constructor
    .intro cE;obtain⟨m,hm,rfl⟩:=ZN.mp cE;obtain⟨j,hj,ej⟩:=m2 m hm;have:j<ns.length:=by lia
     rw[ej];simp[ac1,this]
    .intro cE;obtain⟨j,hj,rfl⟩:=aaD cE;have:=m3 j (by lia);simpa [ac1,hj] using this
   .have:=Gu (kis:=M'.map λm=>[m.1]) (d:=(0:Int)) (as:=M'.map (·.1)) (f:=λx=>[x]) (by rw[abg];rfl);refine this.imp λ{a b} cD=>?_;rw[HT.lN] at cD;by_cases e:b=a
    .lia
    .rw[if_neg e] at cD;have:=of_decide_eq_false cD;lia
end
theorem SU(h:adT ai ns):aio (adn prog w) ns ai:=by
 induction h with
 | nil=>exact .nil
 | cons n t _ ih=>exact .cons (by simp[adn,adF]) ih
noncomputable def mi(us:List ZP)(i:Nat):ZX:=match us[i]? with|some (.ref p)=>p|_=>0
theorem AH(x:kR h us kis i):us[i]?=U (.ref (mi us i))/\(tK prog w).is h (kis.getD i []) (mi us i):=by
 obtain⟨p,o,ai,m,h1,h2,h3,h4,h5,h6⟩:=x;have e:mi us i=p:=by unfold mi;rw[h1]
 rw[e];exact#[h1,o,ai.toArray,m,h2,h3,h4,SU h5]
def IZ(kis:List (List Int)):Prop:=∀ k∈kis,∀ k'∈kis,ahi (acC (k.map ac7))=ahi (acC (k'.map ac7))->k=k'
def SV(K:ZF)(t:TE):TE:=λJ H Q=>t J H λv H1=>∃ (a:ZX) (ks:List V) (kis:List (List Int)),v=V.ref a/\ah K H1 a ks/\fk K H1 ks kis/\ks.length<=63/\IZ kis /\
 ∀ M:List (List Int × ZX),(M.map (·.1)).Nodup->(∀ k,k∈M.map (·.1)↔k∈kis)->(∀ m∈M,∃ j:Nat,ks[j]?=U (V.ref m.2)/\kis[j]?=U m.1)->∀ l,H1 l=O->Q (.ref l) (upd H1 l (.lst (b7 (M.map (·.1)) .non (M.map λm=>V.ref m.2))))
section
theorem SW(hc:X.calm=true)(hu:X.A.units+64<adQ)(he:PE X e t)(fA:Gl X "sorted")(AD:X.mg "sorted" = O)(lh:aax "sorted" = U (.builtin "sorted"))(n6:Gl X "set")(jZ:X.mg "set" = O)(n9:aax "set" = U (.type "set"))(bV:aae [e] X.env=[(false,eval e X.env)]:=by rfl)(j4:aae [.Call (.Name "set" p2) [e] [] gb] X.env=[(false,eval (.Call (.Name "set" p2) [e] [] gb) X.env)]:=by rfl) :
 PE X (.Call (.Name "sorted" p1) [.Call (.Name "set" p2) [e] [] gb] [] pos) (SV X.K t):=by
 intro pins s J H Q I h;refine aa9 (eB I fA AD lh ?_ (by decide) (by decide));refine acR ?_ (by rw[j4];rfl) rfl;rw[j4];show ZZ _ _ (spliced ((false,eval (.Call (.Name "set" p2) [e] [] gb) X.env)::aca pos [])) _ _ s;refine abY ?_;refine aa9 (eB I n6 jZ n9 ?_ (by decide) (by decide));refine aaq ?_ (by rw[bV];rfl) rfl;rw[bV];show ZZ _ _ (spliced ((false,eval e X.env)::aca gb [])) _ _ s;refine abY (az (he pins s J H _ I h) λu s1 zq=>?_);obtain⟨x,H1,I1,r1,q1⟩:=zq;obtain⟨a,ks,kis,rfl,hS,hK,hn,hh,q⟩:=q1;cases r1;refine acb ?_;obtain⟨us,rv,pl,hz⟩:=I1.list hS;have hl:us.length=ks.length:=rv.length.symm;have AI:ks.length=kis.length:=hK.len;have ht:=zJ I1 hK rv;refine Se (items:=us.toArray) (key:=λi=>kis.getD i []) (ad:=mi us) (I1.ok.hd hc) pl.isList hu (by simp;lia) (λi v hv=>?_) (λj hj=>(AH (ht j (by simpa using hj))).2) (λi j hi hj SX=>?_) λh2 tk M AE hM hk=>?_
 .rw[aaO] at hv;have hi:i<us.length:=(ZL.mp hv).1;have:=(AH (prog:=X.prog) (w:=X.w) (ht i hi)).1;rw[hv] at this;exact Option.some.inj this
 .have aV:i<kis.length:=by simp at hi;lia
  have rD:j<kis.length:=by simp at hj;lia
  exact hh _ (by simp[ac1,aV]) _ (by simp[ac1,rD]) SX
 refine acb ?_;obtain⟨o,ep,tb,L,g1,g2,g3,n4,g4,g5,g6,g7⟩:=AE;have hx:n5 X.w s1.heap.objs.size o ep tb L:=#[g2,g3,n4,g4,g5]
 have hsz:us.toArray.size=us.length:=by simp
 rw[hsz] at hM;obtain⟨m1,m2,m3,m4⟩:=hM;have AF:L.length=M.length:=by have:=congrArg List.length g7;simpa using this
 have hp:((gU X.w s1.heap.objs.size ep (L.map (·.2)).toArray).toList).Perm (M.map (k7 X.prog X.w)):=by have:=wj X.w s1.heap.objs.size ep (L.map (·.2)).toArray;rw[acY,g7] at this;rw[g7];exact this
 obtain⟨M',e1,e2⟩:=rX hp;have SQ:M'.length=L.length:=e2.length_eq.trans AF.symm;have iE:∀ m∈M',∃ j,j<us.length/\m=(kis.getD j [],mi us j):=λm hm=>m2 m (e2.mem_iff.mp hm);have bY:(M'.map (·.1)).Nodup:=((e2.map (·.1)).nodup_iff).mpr m1;have y9:=vO (M'.map (·.2));have wt:∀ j,j<us.length->kR h2 us kis j:=λj hj=>(ht j hj).keep λb u e y=>hk b u (ZM e) e;refine zH (s:={ s1 with heap:=h2,toks:=tk }) (kis:=M'.map (·.1)) (vs:=(M'.map (·.2)).map Z5) (by simp) (by simp;lia) (λi hi=>?_) (λA' Q' E' hA hq=>?_) λl h' jb k1 k2 k3=>?_
 .have aV:i<M'.length:=by simpa using hi
  obtain⟨j,hj,ej⟩:=iE M'[i] (abj aV);obtain⟨p,o',ai,mm,t1,t2,t3,t4,t5,t6⟩:=wt j hj;have ea:mi us j=p:=by unfold mi;rw[t1]
  refine#[p,o',ai,mm,by simp[aV,ej,ea],t2,t3,t4,?_,t6];have:(M'.map (·.1)).getD i []=kis.getD j []:=by simp[ac1,aV,ej]
  rw[this];exact t5
 .refine zI (s:={ s1 with heap:=h2,toks:=tk }) (IT hx) (hA.trans (I1.ok.hd hc)) g1 (ZQ (show L.length<=64 by lia) (by decide)) λh3 nH acc b1 b2 b3=>?_;have AG:acc.toList=(M'.map (·.2)).map Z5:=by
   refine acL λi=>?_;rw[acx];by_cases hi:i<L.length
   .have aV:i<acc.size:=by rw[b3.1];exact hi
    have ji:i<M'.length:=by lia
    have:=b3.2 i acc[i] (aao aV);dsimp only at this;have e3:(gU X.w s1.heap.objs.size ep (L.map (·.2)).toArray)[i]?=U (k7 X.prog X.w M'[i]):=by rw[<- acx,e1];simp[ji]
    rw[e3] at this;rw[aao aV,<- this];simp[ji]
   .rw[acp (by rw[b3.1];lia)];rw[eq_comm,abU];simp only[ZJ];lia
  rw[AG];exact hq h3 nH b1 b2
 .refine rK (s:=s1) (ks:=(M'.map (·.2)).map V.ref) (kis:=M'.map (·.1)) (us:=(M'.map (·.2)).map Z5) I1 y9 ?_ ?_ (λb u e=>k2 b u (hk b u (ZM e) e)) k3 λl' iD=>?_
  .simp only[ZJ];exact ZQ (show _<=64 by lia) (by decide)
  .exact ZQ (adK (ZM g1)) k1
  .have:=q M' bY (λk=>?_) (λm hm=>?_) l' iD
   .simpa [abg,afg] using this
   .rw[(e2.map (·.1)).mem_iff];constructor
    .intro cE;obtain⟨m,hm,rfl⟩:=ZN.mp cE;obtain⟨j,hj,rfl⟩:=m2 m hm;have:j<kis.length:=by lia
     simp[ac1,this]
    .intro cE;obtain⟨j,hj,rfl⟩:=aaD cE;have:=m3 j (by lia);simpa [ac1,hj] using this
   .obtain⟨j,hj,rfl⟩:=iE m hm;have si:j<ks.length:=by lia
    have Ae:j<kis.length:=by lia
    refine#[j,?_,by simp[ac1,Ae]];obtain⟨p,hV,cC⟩:=hK.get (ZK si);have jh:=(AH (prog:=X.prog) (w:=X.w) (ht j hj)).1;obtain⟨u0,I0,hr⟩:=rv.get (ZK si);rw[jh] at I0;cases I0;rw[hV] at hr;cases hr;rw[ZK si,hV]
end
noncomputable def I9:List (List Int):=(Z7 7).flatMap λ(a:Nat)=>(Z7 7).map λ(b:Nat)=>[(a:Int),(b:Int)]
theorem SY:(I9.map λk=>ahi (acC (k.map ac7))).Nodup:=by decide +kernel
theorem S0(h:∀ k∈kis,∃ a b:Nat,a<7/\b<7/\k=[(a:Int),(b:Int)]):IZ kis:=by
 have mem:∀ k∈kis,k∈I9:=λk hk=>by obtain⟨a,b,ha,hb,rfl⟩:=h k hk;exact List.mem_flatMap.mpr #[a,aas.mpr ha,ZN.mpr #[b,aas.mpr hb,Y]]
 intro k hk k' cE e;obtain⟨i,hi,rfl⟩:=aaD (mem k hk);obtain⟨j,hj,rfl⟩:=aaD (mem k' cE);have:=(afx (h₀:=by simpa using hi) (h₁:=by simpa using hj) SY).mp (by simpa using e);subst this;rfl
end Gz
namespace Gz
open PySem PySem.Spec PyProof.Rows L2
noncomputable def j5(u:ZP):Bool:=match u with|.none=>true|_=>false
noncomputable def j6(v:V):Bool:=decide (v = .non)
def p9(H:Hp)(xs:List V):Prop:=∀ v∈xs,v = .non ∨ ∃ a ys,v = .ref a/\H a=U (.tup ys)
section
theorem Ja{x:V}{u:ZP}{H:Hp}(r:RelV x u)(h:x = .non ∨ ∃ a ys,x = .ref a/\H a=U (.tup ys)):j5 u=j6 x:=by
 rcases h with rfl|⟨a,ys,rfl,y⟩
 .cases r;rfl
 .cases r;rfl
theorem Tc:∀ {xs:List V} {us:List ZP},Vals xs us->p9 H xs->us.any j5=xs.any j6:=by
 intro y y h f
 induction h with
 | nil=>rfl
 | cons r t ih=>rw[abu,abu,Ja r (f _ (.head _)),ih λv hv=>f v (.tail _ hv)]
theorem Jb:∀ {xs:List V} {us:List ZP},Vals xs us->p9 H xs->∀ (m:Nat) (h:m<us.length),j5 us[m]=j6 (xs.getD m .non):=by
 intro y y h f
 induction h with
 | nil=>exact λm h=>absurd h (abW _)
 | cons r t ih =>
  intro m h;cases m with
  | zero=>exact Ja r (f _ (.head _))
  | succ m=>exact ih (λv hv=>f v (.tail _ hv)) m (afP h)
theorem AJ(I:Inv X pins J H s)(hu:A.units<adQ):∀ {xs:List V} {us:List ZP},Vals xs us->p9 H xs->∀ u∈us,SeqAt.EqAt A s u .none (j5 u)
 | _,_,.nil,_=>λu hu=>by cases hu
 | x::xs,u::us,.cons r t,f=>λu' jh=>by
  rcases ZO.mp jh with rfl|jh
  .rcases f x (.head _) with rfl|⟨a,ys,rfl,ha⟩
   .cases r;exact SeqAt.EqAt.same _
   .cases r;obtain⟨y,ai,r',o',k1,k2,n,k3⟩:=(show bE X.prog X.w H s.heap a (.tup ys) from I.ak a _ ha)
    exact SeqAt.EqAt.tuple_none #[o',k1,k2,n,k3] hu
  .exact AJ I hu t (λv hv=>f v (.tail _ hv)) u' jh
def Td(K:ZF):R2:=λx y H Q=>∃ a xs,x = .non/\y = .ref a/\ah K H a xs/\p9 H xs/\Q (.bl (xs.any j6)) H
theorem AK(hu:X.A.units+1<adQ):bo X (abl .In) (Td X.K):=by intro pins s J H x y v u Q I rx ry h;obtain⟨a,xs,rfl,rfl,hq,hn,q⟩:=h;cases rx;cases ry;obtain⟨ai,r,pl,hz⟩:=I.list hq;refine SeqAt.in_listAt j5 pl.isList (λw hw=>AJ I (A:=X.A.in1) (ab0 (knd:=cz X.prog X.w) hu) r hn w (by simpa using hw)) #[.bl _,H,I,Y,?_];rw[show ai.toArray.any j5=ai.any j5 by simp,Tc r hn];exact q
def Te(K:ZF)(x:V)(ys:List V)(H:Hp)(Q:VK):Prop:=∃ a xs j,x = .ref a/\ys=[.non]/\ah K H a xs/\p9 H xs/\j<xs.length/\xs.length<=1000/\j6 (xs.getD j .non)=true/\(∀ m,m<j->j6 (xs.getD m .non)=false)/\Q (.int (j:Nat)) H
theorem Jc(hu:X.A.units+1<adQ):yk X "list.index" (Te X.K):=by
 intro pins s J H x xs v us Q I rx r h;obtain⟨a,xs,j,rfl,rfl,hq,hn,hj,hl,h1,h2,q⟩:=h;cases rx;obtain⟨u,rfl,ru⟩:=vals1 r;cases ru;obtain⟨ai,r,pl,hz⟩:=I.list hq;obtain⟨⟨cls,dd,data,sl⟩,ho,hc,n,hd⟩:=id pl.isList;simp only at hc hd;subst hc hd;have hlen:ai.length=xs.length:=(Vals.length r).symm;refine agn adZ #[_,ho,Y] PySem.F.entry_list_index (PySem.F.args_list_index_2 _ _)
  (SeqAt.list_indexAt a ai.toArray n dd sl .none j5 j (by simpa [hlen] using hj) (by lia) ?_ ?_) #[ho,λy hy=>AJ I (A:=X.A.in1) (ab0 (knd:=cz X.prog X.w) hu) r hn y (by simpa using hy),?_]
 .show j5 ai[j]=true;rw[Jb r hn];exact h1
 .intro m hm aL;show j5 ai[m]=false;rw[Jb r hn];exact h2 m aL
 .exact#[.int j,H,I.tok _,#[_,Y],q]
end
noncomputable def fB(p:P2):W2:=U (U p.1,U p.2)
theorem Jd:∀ (ss:List S2) (a b:Int),∃ a' b',bz (U a,U b) ss=(U a',U b')
 | [],a,b=>#[a,b,Y]
 | s::ss,a,b=>by
  rw[vR];have h1:∃ x,dA (U a) s.1=U x:=by rcases s.1 with z|c<;>exact#[_,Y]
  have h2:∃ x,dB (U b) s.2=U x:=by rcases s.2 with z|c<;>exact#[_,Y]
  obtain⟨x,hx⟩:=h1;obtain⟨y,hy⟩:=h2;rw[hx,hy];exact Jd ss x y
theorem Tf(h:cK (O,O) ((U a,U b)::ss)=U s):∃ p:P2,U s=fB p/\p.1<=p.2:=by
 unfold cK at h;rw[vR] at h;obtain⟨x,y,e⟩:=Jd ss a b;rw[show (dA (O,O).1 (U a,U b).1,dB (O,O).2 (U a,U b).2)=((U a,U b):S2) from Y,e] at h;split at h
 .cases h
 .rename_i hc;cases h;exact#[(x,y),Y,by simpa [aS] using hc]
theorem Je(hf:∀ k s,f k=U s->∃ p:P2,U s=fB p/\p.1<=p.2):∀ (ks:List Nat),(∀ k∈ks,f k≠O)->∃ pp:List P2,ks.map f=pp.map fB/\eL pp
 | [],_=>#[[],Y,λy h=>nomatch h]
 | k::ks,h=>by
  obtain⟨pp,e,ho⟩:=Je hf ks λj hj=>h j (.tail _ hj);cases hk:f k with
  | none=>exact absurd hk (h k (.head _))
  | some s =>
   obtain⟨p,e1,e2⟩:=hf k s hk;refine#[p::pp,by rw[Z0,Z0,e,hk,e1],λq hq=>?_];rcases ZO.mp hq with rfl|hq
   .exact e2
   .exact ho q hq
theorem all_some:∀ (ws:List W2),(∀ w∈ws,w≠O)->∃ gs:List S2,ws=gs.map U
 | [],_=>#[[],Y]
 | w::ws,h=>by
  obtain⟨gs,e⟩:=all_some ws λj hj=>h j (.tail _ hj);cases w with
  | none=>exact absurd Y (h O (.head _))
  | some s=>exact#[s::gs,by rw[e];rfl]
theorem wu:∀ {ys:List V} {ws:List W2},ax (cF H) ys ws->p9 H ys/\(ys.any j6=ws.any adl)/\∀ m,j6 (ys.getD m .non)=(ws.getD m O).isNone
 | [],[],_=>#[(λz h=>nomatch h),Y,λz=>rfl]
 | y::ys,w::ws,h=>by
  obtain⟨h1,h2⟩:=h;obtain⟨a,b,c⟩:=wu h2;have key:(y = .non ∨ ∃ a ys,y = .ref a/\H a=U (.tup ys))/\j6 y=w.isNone:=by
   cases w with
   | none =>
    obtain rfl:y = .non:=h1;exact#[.inl rfl,Y]
   | some s =>
    obtain⟨p,rfl,hp⟩:=h1;exact#[.inr #[p,_,Y,hp],Y]
  refine#[λv hv=>?_,by rw[abu,abu,b,key.2],λm=>?_]
  .rcases ZO.mp hv with rfl|hv
   .exact key.1
   .exact a v hv
  .cases m with
   | zero=>exact key.2
   | succ m=>exact c m
 | [],_::_,h=>h.elim
 | _::_,[],h=>h.elim
theorem AL:∀ {xs:List α},xs.any p=true->∃ j,j<xs.length/\p (xs.getD j d)=true/\∀ m,m<j->p (xs.getD m d)=false
 | [],h=>by cases h
 | x::xs,h=>by
  cases hx:p x with
  | true=>exact#[0,Nat.zero_lt_succ _,hx,λm hm=>absurd hm (abW _)]
  | false =>
   rw[abu,hx,afp] at h;obtain⟨j,h1,h2,h3⟩:=AL (d:=d) h;refine#[j+1,Nat.succ_lt_succ h1,h2,λm hm=>?_];cases m with
   | zero=>exact hx
   | succ m=>exact h3 m (afP hm)
theorem Jf{ws:List W2}(h:ws.any adl=false):∀ w∈ws,w≠O:=λw hw e=>by have:=ad5.mp h w hw;rw[e] at this;exact this rfl
theorem wx:∀ {ys:List V} {pp:List P2},ax (cF H) ys (pp.map fB)->dv H ys pp
 | [],[],_=>trivial
 | _::_,_::_,h=>#[h.1,wx h.2]
 | [],_::_,h=>h.elim
 | _::_,[],h=>h.elim
theorem kU.reach(T:kU ps ms tp):∀ (n t:Nat) {v k:Int},t+n<=ps.length ->
 (tp t=U (v,k)->∃ v' k',tp (t+n)=U (v',k')/\v'<=v+(pre (·.2) ps (t+n)-pre (·.2) ps t)) /\
 (tp (t+n)=U (v,k)->∃ v' k',tp t=U (v',k')/\v'<=v+(pre (·.1) ps t-pre (·.1) ps (t+n)))
 | 0,t,v,k,_=>#[λh=>#[v,k,h,by simp],λh=>#[v,k,h,by simp]]
 | n+1,t,v,k,hn=>by
  refine#[λh=>?_,λh=>?_]
  .obtain⟨v1,k1,e1,h1⟩:=(T.reach n t (by lia)).1 h;obtain⟨v2,k2,e2,h2⟩:=T.fwd (t+n) v1 k1 (by lia) e1;refine#[v2,k2,e2,?_];rw[show t+(n+1)=(t+n)+1 by lia,fL _ ps (by lia)];lia
  .obtain⟨v1,k1,e1,h1⟩:=T.bwd (t+n) v k (by lia) h;obtain⟨v2,k2,e2,h2⟩:=(T.reach n t (by lia)).2 e1;refine#[v2,k2,e2,?_];rw[show t+(n+1)=(t+n)+1 by lia,fL _ ps (by lia)];lia
theorem Tg(T:kU ps ms tp)(hm:∀ m∈ms,m.1<=ps.length)(hn:∀ m∈ns,m.1<=ps.length)(h0:rP ns tp)(ha:a∈ms)(hb:b∈ns):¬ clash ps a b:=by
 rintro ⟨h,l,e1,e2,aL⟩;obtain⟨v,k,e3,h3⟩:=T.top a ha h e1;have rh:=hm a ha;have bW:=hn b hb;have key:∃ v' k',tp b.1=U (v',k')/\v'<=v+bw ps a.1 b.1:=by
  unfold bw;by_cases hle:a.1<=b.1
  .rw[if_pos hle];obtain⟨n,lJ⟩:∃ n,b.1=a.1+n:=#[b.1-a.1,by lia]
   rw[lJ];exact (T.reach n a.1 (by lia)).1 e3
  .rw[if_neg hle];obtain⟨n,lJ⟩:∃ n,a.1=b.1+n:=#[a.1-b.1,by lia]
   rw[lJ] at e3 ⊢;exact (T.reach n b.1 (by lia)).2 e3
 obtain⟨v',k',e4,h4⟩:=key;have:=h0 b hb l v' k' e2 e4;lia
theorem qb:m∈jg tb i ↔ ∃ r∈tb,r.1.1=i/\m=(r.1.2.toNat,r.2):=by
 unfold jg;simp only[ZN,Z4,decide_eq_true_eq];constructor
 .rintro ⟨r,⟨h1,h2⟩,rfl⟩;exact#[r,vX.mem_iff.mp h1,h2,Y]
 .rintro ⟨r,h1,h2,rfl⟩;exact#[r,#[vX.mem_iff.mpr h1,h2],Y]
noncomputable def lj(ks:List P2):List (List Int):=ks.map λp=>[p.1,p.2]
noncomputable def sj(ks:List P2):List P2:=b7 (lj ks) (0,0) ks
noncomputable def iF(e:Nat)(tb:Tb):List (Int × List Mk):=(Z7 e).map λ(i:Nat)=>((i:Int),jg tb (i:Int))
section
theorem Th(I:Inv X pins J H s)(h:H p=U (.lst (ns.map V.int))):p8 s.heap p ns:=by obtain⟨ai,rv,pl,y⟩:=I.list (ah.of h);obtain⟨o,ho,hc,m,hd⟩:=pl.isList;exact#[o,ai,m,ho,hc,hd,intsAre_of rv]
theorem Jg(I:Inv X pins J H s)(h:ax (rW H) ks kis)(r:Vals ks us):∀ i,i<us.length->wm s.heap us kis i:=λi hi=>by
 have hk:i<ks.length:=by rw[r.length];exact hi
 obtain⟨k,ek,p,ep,hp⟩:=h.get (ZK hk);obtain⟨u,eu,ru⟩:=r.get (ZK hk);rw[ep] at ru;cases ru;refine#[p,eu,?_];rw[ZG,ek];exact Th I hp
def Ti(K:ZF)(H:Hp)(Q:VK)(xs:List V):Prop:=∃ (a:ZX) (ks:List V) (kis:List (List Int)),xs=[.ref a]/\ah K H a ks/\ax (rW H) ks kis/\ks.length<64/\∀ l,H l=O->Q (.ref l) (upd H l (.lst (b7 kis .non ks)))
theorem Tj(hu:X.A.units+64<adQ):eT X (.builtin "sorted") (λxs H Q=>Ti X.K H Q xs):=by
 intro pins s J H xs us Q I r h;obtain⟨a,ks,kis,rfl,hS,hK,bO,q⟩:=h;obtain⟨u,rfl,ru⟩:=vals1 r;cases ru;obtain⟨ai,rv,hp,hz⟩:=I.list hS;have hl:ai.length=ks.length:=rv.length.symm;refine SJ (kis:=kis) (by rw[<- hK.len,hl]) (by lia) hu (Jg I hK rv) (λA' Q' E' y hq=>collect_list hp.isList (hq _ s.toks (λb o e=>?_) ?_) (by rw[hl];exact hz)) λl h' tk h1 h2 h3=>rK I rv hz h1 h2 h3 q
 .have:=ZM e;exact (ZV _ _ (by walk_at "o")).trans (ZH _ e)
 .rw[ahH,aiv];exact adG _
end
theorem wy(P:Int->Bool):∀ n:Nat,((Z7 n).map λ(i:Nat)=>(i:Int)).filter P∈cc n
 | 0=>by simp[cc]
 | n+1=>by
  have ih:=wy P n;rw[adX,aa2,ag5,cc];by_cases h:P n=true
  .refine aaa _ (ZN.mpr #[_,ih,?_]);simp[h]
  .refine aa6 _ ?_;simpa [h] using ih
end Gz
namespace Gz
noncomputable def dS(ps:List P2)(s:List Int):Bool:=ps.all λp=>s.contains p.1 || s.contains p.2
noncomputable def qc(ps:List P2)(s:List Int):Bool:=!(s.any λx=>dS ps (s.filter λy=>decide (y≠x)))
noncomputable def fP(e:Nat)(m:Int)(ps:List P2):List (List Int):=((cc e).filter λs=>decide ((s.length:Int)<=m)).filter λs=>dS ps s && qc ps s
theorem gV:∀ {n:Nat} {s:List Int},s∈cc n->s.Pairwise (· < ·)/\∀ x∈s,0<=x/\x<(n:Int)
 | 0,s,h=>by
  obtain rfl:s=[]:=by simpa [cc] using h
  exact#[.nil,λx hx=>by cases hx]
 | n+1,s,h=>by
  rw[cc] at h;rcases aaf.mp h with h|h
  .obtain⟨a,b⟩:=gV h;exact#[a,λx hx=>#[(b x hx).1,by have:=(b x hx).2;lia]]
  .obtain⟨s',h',rfl⟩:=ZN.mp h;obtain⟨a,b⟩:=gV h';refine#[adt.mpr #[a,afu _ _,λx hx y hy=>?_],λx hx=>?_]
   .obtain rfl:y=(n:Int):=by simpa using hy
    exact (b x hx).2
   .rcases aaf.mp hx with z|z
    .exact#[(b x z).1,by have:=(b x z).2;lia]
    .obtain rfl:x=(n:Int):=by simpa using z
     lia
theorem AM:∀ {s t:List Int},s.Pairwise (· < ·)->t.Pairwise (· < ·)->(∀ x,x∈s↔x∈t)->s=t
 | [],[],_,_,_=>rfl
 | [],y::t,_,_,h=>by have:=(h y).mpr (.head _);cases this
 | x::s,[],_,_,h=>by have:=(h x).mp (.head _);cases this
 | x::s,y::t,hs,ht,h=>by
  rw[abL] at hs ht;have e:x=y:=by
   rcases ZO.mp ((h x).mp (.head _)) with z|z
   .exact z
   .rcases ZO.mp ((h y).mpr (.head _)) with w|w
    .exact w.symm
    .have:=ht.1 x z;have:=hs.1 y w;lia
  subst e
  congr 1
  refine AM hs.2 ht.2 λz=>?_;constructor
  .intro hz;rcases ZO.mp ((h z).mp (.tail _ hz)) with w|w
   .have:=hs.1 z hz;lia
   .exact w
  .intro hz;rcases ZO.mp ((h z).mpr (.tail _ hz)) with w|w
   .have:=ht.1 z hz;lia
   .exact w
theorem Jh{n:Nat}{s:List Int}(h1:s.Pairwise (· < ·))(h2:∀ x∈s,0<=x/\x<(n:Int)):s∈cc n:=by
 have hc:=wy (λx=>s.contains x) n;have e:((Z7 n).map λ(i:Nat)=>(i:Int)).filter (λx=>s.contains x)=s:=by
  refine AM (gV hc).1 h1 λx=>?_;rw[Z4,abE];constructor
  .exact λz=>z.2
  .intro z;have:=h2 x z;exact#[ZN.mpr #[x.toNat,aas.mpr (by lia),by lia],z]
 rw[e] at hc;exact hc
theorem AN:∀ n,(cc n).Nodup
 | 0=>by simp[cc]
 | n+1=>by
  rw[cc,ad9];refine#[AN n,?_,λa ha b hb z=>?_]
  .refine List.Pairwise.map _ (λa b cD z=>cD (List.append_cancel_right z)) (AN n)
  .obtain⟨s',y,rfl⟩:=ZN.mp hb;have:=(gV ha).2 (n:Int) (by rw[z];simp);lia
theorem Tp(h:s∈cc n)(P:Int->Bool):s.filter P∈cc n :=
 Jh ((gV h).1.sublist acX) λx hx=>(gV h).2 x (Z4.mp hx).1
theorem Tq(h:∀ x∈s,x∈t)(hs:dS ps s=true):dS ps t=true:=by unfold dS at *;rw[aaw] at *;intro p hp;have:=hs p hp;rw[abJ,abE,abE] at *;exact this.imp (h _) (h _)
theorem AO:∀ (k:Nat) {s:List Int},s.length<=k->s∈cc e->(s.length:Int)<=m->dS ps s=true->∃ t∈fP e m ps,∀ x∈t,x∈s
 | k,s,hk,hs,hm,he=>by
  by_cases hl:qc ps s=true
  .exact#[s,Z4.mpr #[Z4.mpr #[hs,decide_eq_true hm],by rw[he,hl];rfl],λx hx=>hx]
  .have:(s.any λx=>dS ps (s.filter λy=>decide (y≠x)))=true:=by unfold qc at hl;simpa using hl
   obtain⟨x,hx,fN⟩:=adD.mp this;have aL:(s.filter λy=>decide (y≠x)).length<s.length:=by refine Nat.lt_of_le_of_ne (aan _ _) λz=>?_;have:=List.length_filter_eq_length_iff.mp z x hx;simp at this
   match k,hk with
   | 0,hk=>have:=abQ hx;lia
   | k+1,hk =>
    obtain⟨t,ht,h1⟩:=AO (e:=e) (m:=m) (ps:=ps) k (by lia) (Tp hs _) (by lia) fN;exact#[t,ht,λy hy=>(Z4.mp (h1 y hy)).1]
theorem Ji(hs:s∈fP e m ps)(ht:t∈fP e m ps)(h:∀ x∈s,x∈t):s=t:=by
 unfold fP at hs ht;obtain⟨j4,bV⟩:=Z4.mp hs;obtain⟨gW,Jj⟩:=Z4.mp ht;rw[abi] at bV Jj;have cs:=(Z4.mp j4).1;have ct:=(Z4.mp gW).1;refine AM (gV cs).1 (gV ct).1 λx=>#[h x,λhx=>?_]
 refine abT λhn=>?_;have hl:=Jj.2;unfold qc at hl;have hl:(t.any λx=>dS ps (t.filter λy=>decide (y≠x)))=false:=by simpa using hl
 have:=ad5.mp hl x hx;refine this (Tq (λy hy=>Z4.mpr #[h y hy,decide_eq_true λz=>hn (z ▸ hy)]) bV.1)
noncomputable def sk(s:List Int):Nat :=
 (if s.contains 0 then 1 else 0)+(if s.contains 1 then 2 else 0)+(if s.contains 2 then 4 else 0)+(if s.contains 3 then 8 else 0) +
 16 * (if s.contains 4 then (if s.contains 6 then (if s.contains 5 then 0 else 2) else 0) else if s.contains 5 then 1 else if s.contains 6 then 2 else 0)
theorem Tr:((cc 7).all λs=>(cc 7).all λt=>sk s != sk t || s.all (t.contains ·) || t.all (s.contains ·))=true:=by decide +kernel
theorem Ts:((cc 7).all λs=>sk s<48)=true:=by decide +kernel
theorem sm[DecidableEq α]:∀ (l L:List α),l.Nodup->(∀ x∈l,x∈L)->l.length<=L.length
 | [],_,_,_=>Z3 _
 | x::l,L,hn,h=>by rw[aaC] at hn;have:=sm l (L.erase x) hn.2 λy hy=>(ads (λz=>hn.1 (by rw[<- z];exact hy))).mpr (h y (.tail _ hy));rw[acO (h x (.head _))] at this;have:=abQ (h x (.head _));rw[aaJ];lia
theorem Tt(he:e<=7)(m:Int)(ps:List P2):(fP e m ps).length<=48:=by
 have nd:(fP e m ps).Nodup:=(AN e).sublist (acX.trans acX);have sub:∀ s∈fP e m ps,s∈cc 7:=λs hs=>by
  have:=(Z4.mp (Z4.mp hs).1).1;exact Jh (gV this).1 λx hx=>#[((gV this).2 x hx).1,by have:=((gV this).2 x hx).2;lia]
 have Tu:((fP e m ps).map sk).Nodup:=by
  refine afb.mpr ?_;refine List.Pairwise.imp_of_mem (λ{a b} ha hb cD z=>?_) nd;have h1:=aaw.mp (aaw.mp Tr a (sub a ha)) b (sub b hb);rw[abJ,abJ] at h1;rcases h1 with (h1|h1)|h1
  .simp[z] at h1
  .exact cD (Ji ha hb λx hx=>by simpa using aaw.mp h1 x hx)
  .exact cD (Ji hb ha λx hx=>by simpa using aaw.mp h1 x hx).symm
 have:=sm ((fP e m ps).map sk) (Z7 48) Tu λx hx=>by obtain⟨s,hs,rfl⟩:=ZN.mp hx;exact aas.mpr (by simpa using aaw.mp Ts s (sub s hs))
 simpa using this
end Gz
namespace Gz
open PySem PySem.Spec PyProof.Rows L2
theorem Tv(hp:eL ps)(ht:t<ps.length):bw ps i (t+1)<=bw ps i t+(aG ps t).2:=by
 have h:=hp _ (pF ht);have e1:=fL (·.1) ps ht;have e2:=fL (·.2) ps ht;unfold bw;split<;>split<;>first|lia|(have z:i=t+1:=(by lia);subst z;lia)
theorem Tw(hp:eL ps)(ht:t<ps.length):bw ps i t<=bw ps i (t+1)-(aG ps t).1:=by
 have h:=hp _ (pF ht);have e1:=fL (·.1) ps ht;have e2:=fL (·.2) ps ht;unfold bw;split<;>split<;>first|lia|(have z:i=t+1:=(by lia);subst z;lia)
theorem Tz(ps:List P2)(i:Nat):bw ps i i<=0:=by unfold bw;split<;>lia
theorem Jk(hp:eL ps)(ms:List Mk):∀ n,n<=ms.length->∃ tp,kU ps (ms.take n) tp
 | 0,_=>#[λy=>O,#[λy y y y e=>(nomatch e),λy h=>(nomatch h),λy y y y e=>(nomatch e),λy y y y e=>(nomatch e)]]
 | n+1,hn=>by
  obtain⟨tp,T⟩:=Jk hp ms n (by lia);have hm:ms[n]?=U ms[n]:=ZK (by lia);generalize ms[n]=m at hm;have et:ms.take (n+1)=ms.take n++[m]:=by rw[abq,hm];rfl
  have tl:(ms.take n).length=n:=by rw[aeo];lia
  cases hi:m.2.2 with
  | none =>
   refine#[tp,#[λt v k ht e=>?_,λa ha h e=>?_,T.fwd,T.bwd]]
   .obtain⟨i,a,h,h1,h2,h3⟩:=T.val t v k ht e;have:=(ZL.mp h2).1;exact#[i,a,h,h1,by rw[et,aay this];exact h2,h3]
   .rw[et] at ha;rcases aaf.mp ha with z|z
    .exact T.top a z h e
    .rw[aap.mp z,hi] at e;cases e
  | some h0 =>
   have one:∀ t v k,(match tp t with|some (v,k)=>if h0+bw ps m.1 t<v then U (h0+bw ps m.1 t,(n:Int)) else U (v,k)|none=>U (h0+bw ps m.1 t,(n:Int)))=U (v,k) ->
    v<=h0+bw ps m.1 t/\(∀ v' k',tp t=U (v',k')->v<=v')/\((v=h0+bw ps m.1 t/\k=(n:Int))∨tp t=U (v,k)):=by
    intro t v k e;cases h1:tp t with
    | none =>
     rw[h1] at e;cases e;exact#[abe _,λy y z=>(nomatch z),.inl #[Y,Y]]
    | some q =>
     obtain⟨v1,k1⟩:=q;rw[h1] at e;dsimp only at e;split at e
     .cases e;refine#[abe _,λv' k' z=>?_,.inl #[Y,Y]];cases z;lia
     .cases e;refine#[by lia,λv' k' z=>?_,.inr rfl];cases z;exact abe _
   have ex:∀ t,∃ v k,(match tp t with|some (v,k)=>if h0+bw ps m.1 t<v then U (h0+bw ps m.1 t,(n:Int)) else U (v,k)|none=>U (h0+bw ps m.1 t,(n:Int)))=U (v,k):=λt=>by
    cases h1:tp t with
    | none=>exact#[_,_,Y]
    | some q =>
     obtain⟨v1,k1⟩:=q;dsimp only;split<;>exact#[_,_,Y]
   refine#[λt=>match tp t with|some (v,k)=>if h0+bw ps m.1 t<v then U (h0+bw ps m.1 t,(n:Int)) else U (v,k)|none=>U (h0+bw ps m.1 t,(n:Int)),⟨λt v k ht e=>?_,λa ha h e=>?_,λt v k ht e=>?_,λt v k ht e=>?_⟩]
   .obtain⟨y,y,⟨rfl,rfl⟩|e1⟩:=one t v k e
    .exact#[n,m,h0,Y,by rw[et,aaN (by lia),tl,agj];rfl,hi,abe _]
    .obtain⟨i,a,h,h1,h2,h3⟩:=T.val t v k ht e1;have:=(ZL.mp h2).1;exact#[i,a,h,h1,by rw[et,aay this];exact h2,h3]
   .obtain⟨v,k,e1⟩:=ex a.1;obtain⟨o1,o2,y⟩:=one _ _ _ e1;refine#[v,k,e1,?_];rw[et] at ha;rcases aaf.mp ha with z|z
    .obtain⟨v',k',e2,h2⟩:=T.top a z h e;have:=o2 v' k' e2;lia
    .rw[aap.mp z] at e o1;rw[hi] at e;cases e;have:=Tz ps m.1;lia
   .obtain⟨v',k',e1⟩:=ex (t+1);obtain⟨o1,o2,y⟩:=one _ _ _ e1;refine#[v',k',e1,?_];obtain⟨y,y,⟨rfl,rfl⟩|e3⟩:=one t v k e
    .have:=Tv hp (i:=m.1) ht;lia
    .obtain⟨v2,k2,e4,h4⟩:=T.fwd t v k ht e3;have:=o2 _ _ e4;lia
   .obtain⟨v',k',e1⟩:=ex t;obtain⟨o1,o2,y⟩:=one _ _ _ e1;refine#[v',k',e1,?_];obtain⟨y,y,⟨rfl,rfl⟩|e3⟩:=one (t+1) v k e
    .have:=Tw hp (i:=m.1) ht;lia
    .obtain⟨v2,k2,e4,h4⟩:=T.bwd t v k ht e3;have:=o2 _ _ e4;lia
theorem TC(hp:eL ps)(hm:∀ m∈ms,m.1<=ps.length)(hc:∀ a∈ms,∀ b∈ms,¬ clash ps a b):∃ c,fq ps c/\meets ms c:=by
 obtain⟨tp,T⟩:=Jk hp ms ms.length (ZS _);rw[abv] at T;refine QM hp hm T λm bI l v k e1 e2=>?_;rcases Int.lt_or_le v l with h|h
 .obtain⟨i,a,y,h2,h3⟩:=T.clash (hm m bI) e2 e1 h;exact absurd h3 (hc a (Z2 h2) m bI)
 .exact h
abbrev Cl:=(En × Nat) × (En × Nat)
noncomputable def gd(e:Int)(c:Cl):Bool:=decide (c.1.1=U e) || decide (c.2.1=U e)
noncomputable def wo(e:Int)(cs:List Cl):List Cl:=cs.filter λc=>!gd e c
def gH:Nat->List Cl->Prop
 | 0,_=>True
 | _+1,[]=>False
 | n+1,c::cs=>∀ e,gd e c=true->gH n (wo e (c::cs))
def qd(es:List Int)(cs:List Cl):Prop:=∀ c∈cs,∃ e∈es,gd e c=true
theorem TF(h:qd es (wo e cs)):qd (e::es) cs:=λc hc=>by
 cases hb:gd e c with
 | true=>exact#[e,.head _,hb]
 | false =>
  obtain⟨x,hx,h1⟩:=h c (Z4.mpr #[hc,by rw[hb];rfl]);exact#[x,.tail _ hx,h1]
inductive Pp where
 | nil:Pp
 | full:Pp
 | cls:Cl->Pp->Pp->Pp
noncomputable def mq:Nat->List Cl->Pp
 | 0,_=>.full
 | _+1,[]=>.full
 | n+1,c::cs=>.cls c (match c.1.1 with|none=>.nil|some e=>mq n (wo e (c::cs))) (if c.1.1=c.2.1 then .nil else match c.2.1 with|none=>.nil|some e=>mq n (wo e (c::cs)))
def gX(gs:List S2)(tb:Tb)(as:List Int)(s:En × Nat)(m:Mk):Prop:=m.1=s.2/\match s.1 with|none=>gs[s.2]?=U m.2|some e=>e∉as/\((e,(s.2:Int)),m.2)∈tb
def Val(ps:List P2)(gs:List S2)(tb:Tb)(mo:Int):Pp->List Int->Prop
 | .nil,_=>False
 | .full,as=>mo<as.length
 | .cls c a b,as=>(∃ m n,gX gs tb as c.1 m/\gX gs tb as c.2 n/\clash ps m n)/\(match c.1.1 with|none=>a = .nil|some e=>Val ps gs tb mo a (as++[e]))/\(match c.2.1 with|none=>b = .nil|some e=>if c.1.1=U e then b = .nil else Val ps gs tb mo b (as++[e]))
theorem og:gd e c=true↔c.1.1=U e∨c.2.1=U e:=by unfold gd;rw[abJ,decide_eq_true_eq,decide_eq_true_eq]
theorem Jl:∀ (n:Nat) (cs:List Cl) (as:List Int),gH n cs->(as.length:Int)+n=mo+1->(∀ c∈cs,∃ m n,gX gs tb as c.1 m/\gX gs tb as c.2 n/\clash ps m n)->Val ps gs tb mo (mq n cs) as
 | 0,_,as,_,h,_=>by show mo<as.length;lia
 | n+1,[],_,h,_,_=>h.elim
 | n+1,c::cs,as,h,hl,hs=>by
  have sub:∀ e,gd e c=true->Val ps gs tb mo (mq n (wo e (c::cs))) (as++[e]):=λe he=>by
   refine Jl n _ _ (h e he) (by rw[aac,aab];lia) λc' kz=>?_;obtain⟨h1,h2⟩:=Z4.mp kz;obtain⟨m,k,a1,a2,a3⟩:=hs c' h1;have h3:gd e c'=false:=by cases hh:gd e c' with|false=>rfl|true=>rw[hh] at h2;cases h2
   have h4:∀ x,c'.1.1=U x∨c'.2.1=U x->x≠e:=λx hx z=>by subst z;rw[og.mpr hx] at h3;cases h3
   refine#[m,k,#[a1.1,?_],#[a2.1,?_],a3]
   .have:=a1.2;cases hx:c'.1.1 with
    | none=>rw[hx] at this;exact this
    | some x =>
     rw[hx] at this;refine#[λz=>?_,this.2];rcases aaf.mp z with z|z
     .exact this.1 z
     .exact h4 x (.inl hx) (aap.mp z)
   .have:=a2.2;cases hx:c'.2.1 with
    | none=>rw[hx] at this;exact this
    | some x =>
     rw[hx] at this;refine#[λz=>?_,this.2];rcases aaf.mp z with z|z
     .exact this.1 z
     .exact h4 x (.inr hx) (aap.mp z)
  refine#[hs c (.head _),?_,?_]
  .cases hx:c.1.1 with
   | none=>rfl
   | some e=>exact sub e (og.mpr (.inl hx))
  .cases hx:c.2.1 with
   | none=>dsimp only;split<;>rfl
   | some e =>
    dsimp only;by_cases he:c.1.1=U e
    .rw[if_pos he,if_pos he]
    .rw[if_neg he,if_neg he];exact sub e (og.mpr (.inr hx))
abbrev Gp:=En × List Mk
def so(ps:List P2)(gs:List Gp)(cs:List Cl):Prop:=∀ c∈cs,∃ g∈gs,∃ h∈gs,∃ m∈g.2,∃ n∈h.2,c=((g.1,m.1),(h.1,n.1))/\clash ps m n
def jn(ps:List P2)(g h:Gp)(cs:List Cl):Prop:=∀ m∈g.2,∀ n∈h.2,clash ps m n->∃ c∈cs,c.1.1=g.1/\c.2.1=h.1
theorem jn.more(x:jn ps g h cs):jn ps g h (cs++ds):=λm hm n hn hc=>let ⟨c,h1,h2⟩:=x m hm n hn hc;#[c,aa6 _ h1,h2]
noncomputable def jo(gs:List Mk)(e:Nat)(tb:Tb):List Gp:=(O,gs)::(iF e tb).map λr=>(U r.1,r.2)
theorem fc:m∈cp tb es ↔ ∃ r∈tb,r.1.1∉es/\m=(r.1.2.toNat,r.2):=by
 unfold cp;constructor
 .intro h;obtain⟨r,hr,rfl⟩:=ZN.mp h;obtain⟨h1,h2⟩:=Z4.mp hr;exact#[r,nQ h1,by simpa using h2,Y]
 .rintro ⟨r,hr,h1,rfl⟩;exact ZN.mpr #[r,Z4.mpr #[kK.mem_iff.mpr hr,by simpa using h1],Y]
theorem Jm(ak:bF e t tb)(h:m∈gm++cp tb es):∃ g∈jo gm e.toNat tb,m∈g.2/\∀ x,g.1=U x->x∉es:=by
 rcases aaf.mp h with z|z
 .exact#[_,.head _,z,λx hx=>nomatch hx]
 .obtain⟨r,hr,h1,rfl⟩:=fc.mp z;have ho:=ak.2 r hr;unfold eY at ho;refine#[(U r.1.1,jg tb r.1.1),.tail _ (ZN.mpr #[(r.1.1,jg tb r.1.1),ZN.mpr #[r.1.1.toNat,aas.mpr (by lia),by rw[abS ho.1.1]],Y]),qb.mpr #[r,hr,Y,Y],λx hx=>?_];cases hx;exact h1
theorem Jn(ak:bF e t tb)(hp:eL ps)(hm:∀ m∈gm++cp tb es,m.1<=ps.length)(hc:qd es cs)(hx:∀ g∈jo gm e.toNat tb,∀ h∈jo gm e.toNat tb,jn ps g h cs):∃ c,fq ps c/\meets (gm++cp tb es) c :=
 TC hp hm λa ha b hb cD=>by
  obtain⟨g,h1,h2,h3⟩:=Jm ak ha;obtain⟨h,k1,k2,k3⟩:=Jm ak hb;obtain⟨c,c1,c2,c3⟩:=hx g h1 h k1 a h2 b k2 cD;obtain⟨x,x1,x2⟩:=hc c c1;rcases og.mp x2 with z|z
  .exact h3 x (c2.symm.trans z) x1
  .exact k3 x (c3.symm.trans z) x1
theorem snd_mk(ak:bF e t tb)(hg:∀ m∈gm,gs[m.1]?=U m.2)(h:so ps (jo gm e.toNat tb) cs):∀ c∈cs,∃ m n,gX gs tb [] c.1 m/\gX gs tb [] c.2 n/\clash ps m n:=λc hc=>by
 obtain⟨g,h1,k,h2,m,h3,n,h4,rfl,h5⟩:=h c hc;have one:∀ g∈jo gm e.toNat tb,∀ m∈g.2,gX gs tb [] (g.1,m.1) m:=λg fA m hm=>by
  rcases ZO.mp fA with rfl|z
  .exact#[Y,hg m hm]
  .obtain⟨q,hq,rfl⟩:=ZN.mp z;obtain⟨i,y,rfl⟩:=ZN.mp hq;obtain⟨r,hr,e1,rfl⟩:=qb.mp hm;have ho:=ak.2 r hr;unfold eY at ho;refine#[Y,aaL,?_];show (((i:Int),((r.1.2.toNat:Nat):Int)),r.2)∈tb;rw[abS ho.2.1,<- e1];exact hr
 exact#[m,n,one g h1 m h3,one k h2 n h4,h5]
section
end
abbrev j7(h:acz)(e it:ZX)(i:Int)(old:ZP)(a:ZX)(f:Bool):Prop :=
 h.get? e=U { cls:=.type "enumerate",dict:=O,data:=.fields (List.toArray [adL a,.bool f,.ref it,adL i,.none,old]),slots:=(List.toArray []) }
section
theorem TH{e it l a:ZX}{f:Bool}{oa:Obj}{i:Nat}{items:Array ZP}{x old:ZP}{Q:Option ZP->ZU->Prop}
 (he:j7 s.heap e it i old a f) (ha:s.heap.get? a=U oa) (TJ:a≠e) (TK:a≠it) (hit:s.heap.IsListIter it l i) (hl:s.heap.IsList l items) (hx:items[i]?=U x) (bM:e≠it)
 (hQ:∀ h',j7 h' e it ((i:Int)+1) old a true->h'.IsListIter it l (i+1) ->
   h'.get? s.heap.objs.size=U { cls:=.type "tuple",data:=.seq (List.toArray [.int i s.toks,x]) }->h'.objs.size=s.heap.objs.size+1 ->
   (∀ b o,b≠e->b≠it->s.heap.get? b=U o->h'.get? b=U o)->Q (U (.ref s.heap.objs.size)) { s with heap:=h',toks:=s.toks+1 }) :
 ZZ (model prog w) A (acQ (.ref e)) Q E s:=by
 have hT:s.TypeIs (.ref e) "enumerate" := #[_,he,Y];obtain⟨hp,g,d,tk,os⟩:=s;unfold acQ;refine ZE (adU (abk (name:=aa7 "__next__") hT aco
  (aa3 aco hT aeu ?_ (aeq _))))
 show ZZ _ _ (field (.ref e) 2 >>= _) _ _ _;refine ZE (aeI he Y (x:=.ref it) Y ?_);refine ZE (wpAny_nextOf_list_item hit hl hx λh₁ Jo qe=>?_);replace qe:Heap.SameBut it hp h₁:=qe;have wz:j7 h₁ e it i old a f:=(qe.2 e bM).trans he;show ZZ _ _ (field (.ref e) 3 >>= _) _ _ #[h₁,g,d,tk,os];refine ZE (aeI wz Y (x:=adL i) Y ?_);show ZZ _ _ (field (.ref e) 4 >>= _) _ _ #[h₁,g,d,tk,os];refine ZE (aeI wz Y (x:=.none) Y ?_);show ZZ _ _ (mkInt i >>= _) _ _ #[h₁,g,d,tk,os];refine ZE (wpAny_mkInt ?_);show ZZ _ _ (ahU (.ref e) 3 (adL ((i:Int)+1)) >>= _) _ _ #[h₁,g,d,tk+1,os];refine ZE (aeR wz (by simp) λh₂ wA qf=>?_);replace qf:Heap.SameBut e h₁ h₂:=qf;replace wA:j7 h₂ e it ((i:Int)+1) old a f:=wA;show ZZ _ _ (ahU (.ref e) 4 .none >>= _) _ _ #[h₂,g,d,tk+1,os];refine ZE (aeR wA (by simp) λh₃ wB qg=>?_);replace qg:Heap.SameBut e h₂ h₃:=qg;replace wB:j7 h₃ e it ((i:Int)+1) old a f:=wB;show ZZ _ _ (aiD [.int i tk,x] >>= _) _ _ #[h₃,g,d,tk+1,os];refine ZE (agz ?_);have sq:j7 (h₃.push { cls:=.type "tuple",data:=.seq (List.toArray [.int i tk,x]) }) e it ((i:Int)+1) old a f:=ZH _ wB;generalize sr:h₃.push { cls:=.type "tuple",data:=.seq (List.toArray [.int i tk,x]) }=h₄ at sq;have hsz:h₃.objs.size=hp.objs.size:=by rw[qg.1,qf.1,qe.1]
 have sd:e<hp.objs.size:=ZM he;have TL:h₄.get? hp.objs.size=U { cls:=.type "tuple",data:=.seq (List.toArray [.int i tk,x]) }:=by rw[<- sr,<- hsz];exact ZR _ rfl
 have TM:h₄.objs.size=hp.objs.size+1:=by rw[<- sr,abm,hsz]
 have Jp:∀ b o,b≠e->b≠it->hp.get? b=U o->h₄.get? b=U o:=λb o jC Au hb=>by rw[<- sr];exact ZH _ (qg.extBut b o jC (qf.extBut b o jC (qe.extBut b o Au hb)))
 have TN:h₄.IsListIter it l (i+1):=by rw[<- sr];obtain⟨o,ho,r⟩:=(Jo.extBut qf.extBut (aaQ bM)).extBut qg.extBut (aaQ bM);exact#[o,ZH _ ho,r]
 show ZZ _ _ (adJ (.ref e) >>= _) _ _ #[h₄,g,d,tk+1,os];rw[hsz];clear sr wB qg wA qf wz qe Jo hsz h₃ h₂ h₁;have TQ:h₄.get? a=U oa:=Jp a oa TJ TK ha;refine ZE ?_;unfold adJ;refine ZE (aeI sq Y (x:=adL a) Y ?_);show ZZ _ _ (loadIfAlive ((a:Int).toNat) >>= _) _ _ _;rw[aat];refine ZE (PySem.W.kdx_alive TQ ?_);simp only[Option.isNone_some,ZT,if_false];refine ZE (aeI sq Y (x:=.bool f) Y ?_);have fin:∀ h₅:acz,j7 h₅ e it ((i:Int)+1) old a true->Heap.SameBut e h₄ h₅->Q (U (.ref hp.objs.size)) #[h₅,g,d,tk+1,os]:=λh₅ su mr =>
  hQ h₅ su (TN.extBut mr.extBut (aaQ bM)) (mr.extBut _ _ (aaX sd) TL) (by show h₅.objs.size=hp.objs.size+1;rw[mr.1,TM]) λb o jq fi q=>mr.extBut b o jq (Jp b o jq fi q)
 cases f with
 | true =>
  rw[if_neg (show ¬ ((abM true != abM true)=true) from aag)];refine ZI ?_;simp only[ZT,if_false];exact ZI #[_,Y,ZI (fin h₄ sq (Heap.SameBut.refl _ _))]
 | false =>
  rw[if_pos (show (abM false != abM true)=true from Y)];refine ZE (aeR sq (by simp) λh₅ su mr=>?_);replace mr:Heap.SameBut e h₄ h₅:=mr;replace su:j7 h₅ e it ((i:Int)+1) old a true:=su;refine ZI ?_;simp only[ZT,if_false];exact ZI #[_,Y,ZI (fin h₅ su mr)]
theorem TR{e it l a:ZX}{f:Bool}{i:Nat}{items:Array ZP}{old:ZP}{Q:Option ZP->ZU->Prop}(hh:A.handled=O)
 (he:j7 s.heap e it i old a f) (hit:s.heap.IsListIter it l i) (hl:s.heap.IsList l items) (hx:items[i]?=O)
 (hQ:∀ h',aib it s.heap h'->Q O { s with heap:=h' }):ZZ (model prog w) A (acQ (.ref e)) Q E s:=by
 have hT:s.TypeIs (.ref e) "enumerate" := #[_,he,Y];unfold acQ;refine ZE (adU (abk (name:=aa7 "__next__") hT aco
  (aa3 aco hT aeu ?_ (aeq _))))
 show ZZ _ _ (field (.ref e) 2 >>= _) _ _ _;refine ZE (aeI he Y (x:=.ref it) Y ?_);refine ZE (wpAny_nextOf_list_end hh hit hl hx λh' x gO cX=>?_);obtain⟨o,ho,hc⟩:=cX;refine ZE (acs (T := "StopIteration") (b:=true) #[o,ho,hc] agx ?_);exact ZI (hQ _ gO)
def oh(h:acz)(e it S:ZX)(i:Nat):Prop :=
 (∃ old,IsEnum h e it i old) ∨ ∃ old a f oa,j7 h e it i old a f/\h.get? a=U oa/\a≠e/\a≠it/\a≠S
theorem oh.keep(x:oh h e it S i)(hk:∀ b o,b≠S->h.get? b=U o->h'.get? b=U o)(hI:e≠S):oh h' e it S i:=by
 rcases x with ⟨old,q⟩|⟨old,a,f,oa,q,ha,h1,h2,h3⟩
 .exact .inl #[old,hk _ _ hI q]
 .exact .inr #[old,a,f,oa,hk _ _ hI q,hk _ _ h3 ha,h1,h2,h3]
theorem TU(st:oh s.heap e it S i)(hS:S<s.heap.objs.size)(hit:s.heap.IsListIter it l i)(hl:s.heap.IsList l items)(hx:items[i]?=U x)(bM:e≠it)(hQ:∀ h',oh h' e it S (i+1)->h'.IsListIter it l (i+1) ->
 h'.get? s.heap.objs.size=U { cls:=.type "tuple",data:=.seq (List.toArray [.int i s.toks,x]) }->h'.objs.size=s.heap.objs.size+1 ->
 (∀ b o,b≠e->b≠it->s.heap.get? b=U o->h'.get? b=U o)->Q (U (.ref s.heap.objs.size)) { s with heap:=h',toks:=s.toks+1 }) :
 ZZ (model prog w) A (acQ (.ref e)) Q E s:=by
 have ce:((i:Int)+1)=((i+1:Nat):Int):=by lia
 have hi:it<s.heap.objs.size:=let ⟨_,q,_⟩:=hit;ZM q;rcases st with ⟨old,he⟩|⟨old,a,f,oa,he,ha,h1,h2,h3⟩
 .exact afJ he hit hl hx bM λh' q1 q2 q3 q4 q5=>hQ h' (.inr #[x,_,false,_,by rw[<- ce];exact q1,q3,aaX (ZM he),aaX hi,aaX hS]) q2 q3 q4 q5
 .exact TH he ha h1 h2 hit hl hx bM λh' q1 q2 q3 q4 q5=>hQ h' (.inr #[old,a,true,oa,by rw[<- ce];exact q1,q5 a oa h1 h2 ha,h1,h2,h3]) q2 q3 q4 q5
theorem TV(hh:A.handled=O)(st:oh s.heap e it S i)(hit:s.heap.IsListIter it l i)(hl:s.heap.IsList l items)(hx:items[i]?=O)(hQ:∀ h',aib it s.heap h'->Q O { s with heap:=h' }):ZZ (model prog w) A (acQ (.ref e)) Q E s:=by
 rcases st with ⟨old,he⟩|⟨old,a,f,oa,he,y⟩
 .exact af4 hh he hit hl hx hQ
 .exact TR hh he hit hl hx hQ
end
structure lq(items:Array ZP)(lo:ZX)(h:acz)(as:List ZX):Prop where
 rise:as.Pairwise (· < ·)
 above:∀ a∈as,lo<=a
 pairs:∀ (j:Nat) (a:ZX),as[j]?=U a->∃ t x,items[j]?=U x/\h.get? a=U { cls:=.type "tuple",data:=.seq (List.toArray [.int j t,x]) }
theorem lq.there{items:Array ZP}{lo:ZX}{h:acz}{as:List ZX}(g:lq items lo h as){a:ZX}(ha:a∈as):a<h.objs.size:=by obtain⟨j,hj⟩:=abh.mp ha;obtain⟨y,y,y,e⟩:=g.pairs j a hj;exact ZM e
theorem lq.keep{items:Array ZP}{lo:ZX}{h h':acz}{as:List ZX}(g:lq items lo h as)(k:∀ b o,lo<=b->h.get? b=U o->h'.get? b=U o):lq items lo h' as :=
 #[g.rise,g.above,λj a hj=>let ⟨t,x,e1,e2⟩:=g.pairs j a hj;#[t,x,e1,k a _ (g.above a (Z2 hj)) e2]]
section
variable{prog:aaE}{w:abb}{A:abI}{s:ZU}{R:afW->ZU->Prop}{items:Array ZP}
theorem TX{S e it l lo:ZX}(hh:A.handled=O)(bM:e≠it)(qh:S≠e)(qi:S≠it)(wC:l≠S)(hle:l≠e)(nY:l≠it)(Jq:S<lo)(TY:e<lo)(Jr:it<lo)(hn:items.size<=aah)(res:ZP){h₁:acz}
 (hR:∀ h' tk acc c as,(∀ b o,b≠S->b≠e->b≠it->h₁.get? b=U o->h'.get? b=U o)->h'.get? S=U { cls:=.type "list",dict:=O,data:=.seq acc c,slots:=(List.toArray []) }->as.length=items.size->lq items lo h' as ->
   acc.toList=as.map Z5->R (.ok (.ret res)) { s with heap:=h',toks:=tk }) :
 ∀ (k i:Nat) (h:acz) (tk c:Nat) (acc:Array ZP) (as:List ZX),items.size-i=k->i<=items.size->oh h e it S i->h.IsListIter it l i->h.IsList l items->(∀ b o,b≠S->b≠e->b≠it->h₁.get? b=U o->h.get? b=U o) ->
  h.get? S=U { cls:=.type "list",dict:=O,data:=.seq acc c,slots:=(List.toArray []) }->acc.toList=as.map Z5->as.length=i->lq items lo h as->lo<=h.objs.size ->
  acF (model prog w) A (.builtin "list.extend.loop" #[[.ref S,.ref e,res],[]]) R { s with heap:=h,toks:=tk }:=by
 intro k
 induction k with
 | zero =>
  intro i h tk c acc as hk hi bG hit hl AQ hS fY j8 hG hz;have bq:i=items.size:=by lia
  refine aau ae1 ?_;rw[aai acD _];show ZZ _ A.in1 (acQ (.ref e) >>= _) _ _ _;refine ZE (TV (s:={ s with heap:=h,toks:=tk }) (A:=A.in1) hh bG hit hl (acp (by lia)) λh' he=>?_);exact ZI (hR h' tk acc c as (λb o h1 h2 h3 q=>he b o h3 (AQ b o h1 h2 h3 q)) (he S _ qi hS) (by lia) (hG.keep λb o hb q=>he b o (aaX (Z9 Jr hb)) q) fY)
 | succ k ih =>
  intro i h tk c acc as hk hi bG hit hl AQ hS fY j8 hG hz;have aL:i<items.size:=by lia
  refine aau ae1 ?_;rw[aai acD _];show ZZ _ A.in1 (acQ (.ref e) >>= _) _ _ _;refine ZE (TU (s:={ s with heap:=h,toks:=tk }) (A:=A.in1) bG (ZM hS) hit hl (aao aL) bM λh' cB kQ hT hsz cE=>?_);have fz:=cE S _ qh qi hS;have Js:acc.size=i:=by
   have:acc.toList.length=i:=by rw[fY,ZJ,j8]
   simpa using this
  show ZZ _ A.in1 (aeg S (·.push (.ref h.objs.size)) >>= _) _ _ _;refine ZE ?_;have Jt:lo<=h.objs.size:=hz;have sb:∀ b o,b≠S->h'.get? b=U o->(h'.update S (aaZ (·.push (.ref h.objs.size)))).get? b=U o:=λb o hb q=>(ZV _ _ (aaQ hb)).trans q;refine abp fz Y (ZI #[aaY acD _,ih (i+1) _ (tk+1) _ (acc.push (.ref h.objs.size)) (as++[h.objs.size]) (by lia) aL
   (cB.keep sb (aaQ qh)) (kQ.at λo q=>sb it o (aaQ qi) q) ((hl.at λo q=>cE l o hle nY q).at λo q=>sb l o wC q)
   (λb o h1 h2 h3 q=>sb b o h1 (cE b o h2 h3 (AQ b o h1 h2 h3 q))) (aam _ fz Y) (by rw[ahm,fY];simp) (by rw[aac,j8];rfl) ?_ ?_])
   (by rw[Js];lia) (by show (acc.push _).size<=aah+1;rw[Array.size_push,Js];lia)
  .have up:∀ b o,lo<=b->h.get? b=U o->(h'.update S (aaZ (·.push (.ref h.objs.size)))).get? b=U o:=λb o hb q =>
    sb b o (aaX (Z9 Jq hb)) (cE b o (aaX (Z9 TY hb)) (aaX (Z9 Jr hb)) q)
   have G':=hG.keep up;refine#[?_,?_,?_]
   .refine adt.mpr #[hG.rise,afu _ _,λa ha b hb=>?_];rw[aap.mp hb];exact hG.there ha
   .intro a ha;rcases aaf.mp ha with ha|ha
    .exact hG.above a ha
    .rw[aap.mp ha];exact Jt
   .intro j a hj;by_cases hjl:j<as.length
    .rw[aay hjl] at hj;exact G'.pairs j a hj
    .rw[aaN (by lia)] at hj;have TZ:j-as.length=0:=by
      rcases ag0 (j-as.length) with z|z
      .exact z
      .rw[abB (by rw[aab];exact z)] at hj;cases hj
     rw[TZ] at hj;cases hj;obtain rfl:j=i:=by lia
     exact#[_,_,aao aL,sb _ _ (aaX (Z9 Jq Jt)) hT]
  .rw[(aaM ..).1];show lo<=h'.objs.size;rw[hsz];exact ad8 hz
end
theorem T6:agm (.type "enumerate") "__len__" = pure O:=by rw[adW,acy];kernel_rfl
theorem T7:agm (.type "enumerate") "__length_hint__" = pure O:=by rw[adW,acy];kernel_rfl
section
theorem T8(hh:A.handled=O)(old:ZP)(he:IsEnum s.heap e it 0 old)(hit:s.heap.IsListIter it l 0)(hl:s.heap.IsList l items)(bM:e≠it)(hle:l≠e)(nY:l≠it)(S:ZX)(qh:S≠e)(qi:S≠it)(wC:l≠S)(res:ZP)(c:Nat)(hS:s.heap.get? S=U { cls:=.type "list",data:=.seq (List.toArray []) c })(hn:items.size<=aah)(hR:∀ g tk acc c' as,(∀ b o,b≠S->b≠e->b≠it->s.heap.get? b=U o->g.get? b=U o)->g.get? S=U { cls:=.type "list",dict:=O,data:=.seq acc c',slots:=(List.toArray []) }->as.length=items.size->lq items s.heap.objs.size g as ->
 acc.toList=as.map Z5->R (.ok (.ret res)) { s with heap:=g,toks:=tk }) :
 ZZ (model prog w) A.in1 (ack (.ref S) (.ref e) res)
  (λf u=>match f with|.done f=>R (.ok f) u|.again k=>k.quiet=true/\acF (model prog w) A k R u) (λe u=>R (.error e) u) s:=by
 have h1:afj (.ref S) (.ref e)=false:=by simp[afj,qh]
 have hT:s.TypeIs (.ref e) "enumerate" := #[_,he,Y];unfold ack;refine ZE (af9 hT ?_);rw[if_neg (by rw[h1];decide)];refine ZE (afa he ?_);refine ZE (aaB ?_);unfold adh;refine ZE (acI hT T6 ?_);show ZZ _ A.in1 (specialOf (Z5 e) (aa7 "__length_hint__") >>= _) _ _ _;refine ZE (acI hT T7 ?_);refine ZI ?_;show ZZ _ A.in1 (rule "list.extend.makes-room" >>= λy=>aiK (.ref S) >>= λy=>again (.builtin "list.extend.loop" #[[.ref S,.ref e,res],[]])) _ _ _;refine ZE (adN ?_);refine ZE ?_;show ZZ _ A.in1 (aeg S (·.push .none) >>= λy=>aeg S (·.pop)) _ _ _;refine ZE (abp hS Y ?_);have Ju:=aam (aaZ (·.push Value.none)) hS rfl;refine abp Ju Y ?_;have T9:=aam (aaZ (·.pop)) Ju rfl;have lr:∀ b o,b≠S->s.heap.get? b=U o->((s.heap.update S (aaZ (·.push Value.none))).update S (aaZ (·.pop))).get? b=U o :=
  λb o hb e=>(ZV _ _ (aaQ hb)).trans ((ZV _ _ (aaQ hb)).trans e)
 have sz:((s.heap.update S (aaZ (·.push Value.none))).update S (aaZ (·.pop))).objs.size=s.heap.objs.size:=by rw[(aaM ..).1,(aaM ..).1]
 refine ZI #[aaY acD _,TX (s:=s) (l:=l) (it:=it) (lo:=s.heap.objs.size) (items:=items) (h₁:=s.heap) hh bM qh qi wC hle nY (ZM hS) (ZM he) (let ⟨_,q,_⟩:=hit;ZM q) hn res hR
  items.size 0 _ s.toks _ (List.toArray []) [] Y (Z3 _) (.inl #[old,lr _ _ (aaQ qh) he]) (hit.at λo q=>lr it o (aaQ qi) q) (hl.at λo q=>lr l o wC q) (λb o h1 y y q=>lr b o h1 q) T9 Y Y #[.nil,(λy h=>nomatch h),λj a h=>by cases h] (by rw[sz];exact ZS _)]
theorem Ua(hh:A.handled=O)(old:ZP)(he:IsEnum s.heap e it 0 old)(hit:s.heap.IsListIter it l 0)(hl:s.heap.IsList l items)(bM:e≠it)(hle:l≠e)(nY:l≠it)(hn:items.size<=aah)(hQ:∀ g tk acc c as,(∀ b o,b≠e->b≠it->s.heap.get? b=U o->g.get? b=U o)->g.get? s.heap.objs.size=U { cls:=.type "list",dict:=O,data:=.seq acc c,slots:=(List.toArray []) }->as.length=items.size->lq items (s.heap.objs.size+1) g as ->
 acc.toList=as.map Z5->Q (.ref s.heap.objs.size) { s with heap:=g,toks:=tk }) :
 ZZ (model prog w) A (call (.type "list") [.ref e]) Q E s:=by
 have le:e<s.heap.objs.size:=ZM he;have li:it<s.heap.objs.size:=let ⟨_,q,_⟩:=hit;ZM q;have ll:l<s.heap.objs.size:=let ⟨_,q,_⟩:=hl;ZM q;refine callType_codes (Q₁:=λy s₁=>y = .ref s.heap.objs.size/\s₁ = { s with heap:=s.heap.push { cls:=.type "list",data:=.seq (List.toArray []) } }) PySem.F.called_list (PySem.F.typeCall_list_1 _) PySem.F.entry_list_init (code_list_new _ #[Y,Y]) λy s₁ h₁=>?_;obtain⟨rfl,rfl⟩:=h₁;have e0:(s.heap.push { cls:=.type "list",data:=.seq (List.toArray []) }).get? s.heap.objs.size=U { cls:=.type "list",data:=.seq (List.toArray []) }:=ZR _ rfl;refine#[#[_,e0,Y],PySem.F.args_list_init_2 _ _,?_];show ZZ _ A.in1.in1 (do let z <- ac5 (.ref s.heap.objs.size);aiI (.ref s.heap.objs.size) (λv=>(List.toArray []));letGo z.toList.reverse;ack (.ref s.heap.objs.size) (.ref e) .none) _ _ _;refine ZE ?_;unfold ac5;refine ZE (abH e0 Y (ZI ?_));refine ZE (m:=aeg s.heap.objs.size (λv=>(List.toArray []))) (abp e0 Y ?_);have e1:=aam (aaZ (λv=>((List.toArray []):Array ZP))) e0 rfl;have lr:∀ b o,b≠s.heap.objs.size->s.heap.get? b=U o->((s.heap.push { cls:=.type "list",data:=.seq (List.toArray []) }).update s.heap.objs.size (aaZ (λv=>((List.toArray []):Array ZP)))).get? b=U o :=
  λb o hb e=>(ZV _ _ (aaQ hb)).trans (ZH _ e)
 have sz:((s.heap.push { cls:=.type "list",data:=.seq (List.toArray []) }).update s.heap.objs.size (aaZ (λv=>((List.toArray []):Array ZP)))).objs.size=s.heap.objs.size+1:=by rw[(aaM ..).1,aiv]
 refine ZE (acj ?_);exact T8 (A:=A.in1) hh old (lr e _ (ZY le) he) (hit.at λo q=>lr it o (ZY li) q) (hl.at λo q=>lr l o (ZY ll) q) bM hle nY s.heap.objs.size (aaX le) (aaX li) (ZY ll) .none _ e1 hn
  λg tk acc c as hk hS j8 hG fY=>#[Y,hQ g tk acc c as (λb o h1 h2 q=>hk b o (ZY (ZM q)) h1 h2 (lr b o (ZY (ZM q)) q)) hS j8 (by rw[<- sz];exact hG) fY]
theorem Inv.Jv(I:Inv X pins J H s)(hf:de X pins H T)(new:bE X.prog X.w (upd H T o) s.heap T o):Inv X pins J (upd H T o) s:=by
 have kF:∀ b u,H b=U u->b≠T:=λb u e=>iT e hf.1;have up:∀ b u,H b=U u->upd H T o b=U u:=λb u e=>by rw[aF (kF b u e)];exact e
 refine I.step (g':=s.gens) (t':=s.toks) (d':=s.drawn) (h':=s.heap) (ch:=[T]) (λb hb=>?_) (λb o y y hc e y=>e) (λb o y y hc e y=>#[o.slots,e]) (λb u hc e n=>by rw[aF (by simpa using hc)];exact n)
  (λb o hc e=>#[o,e]) (λb xs e=>up b _ e) (λb y y e=>up b _ e) (λb ps e=>#[(List.toArray []),by rw[up b _ e];simp]) (λm hm=>hm) (λb u e=>?_) I.bare
 .obtain rfl:b=T:=by simpa using hb
  obtain⟨y,d1,d2,d3,d4,d5⟩:=hf;exact#[d3,d1,d4,d5]
 .by_cases hb:b=T
  .subst hb;rw[ar] at e;cases e;exact new
  .rw[aF hb] at e;exact (I.ak b u e).g9 (λc v hc q=>q) (λc q=>up c _ q) λc xs q=>up c _ q
theorem Ub(h:de X pins H b)(hb:b≠T):de X pins (upd H T o) b:=#[by rw[aF hb];exact h.1,h.2]
theorem Jw:∀ (as:List ZX) (xs:List V) (us:List ZP) (i:Nat) (H:Hp),Inv X pins J H s->Vals xs us->as.length=xs.length->as.Pairwise (· < ·)->(∀ a∈as,de X pins H a) ->
 (∀ j a u,as[j]?=U a->us[j]?=U u->∃ t,s.heap.get? a=U { cls:=.type "tuple",data:=.seq (List.toArray [.int ((i+j:Nat):Int) t,u]) }) ->
 ∃ H',aj H H'/\Inv X pins J H' s/\(∀ b,b∉as->H' b=H b)/\∀ j a x,as[j]?=U a->xs[j]?=U x->H' a=U (.tup [.int ((i+j:Nat):Int),x])
 | [],[],us,i,H,I,r,hl,hp,hf,ht=>#[H,λc c e=>e,I,λc c=>rfl,λj a x h=>by cases h]
 | [],_::_,us,i,H,I,r,hl,hp,hf,ht=>by cases hl
 | _::_,[],us,i,H,I,r,hl,hp,hf,ht=>by cases hl
 | a::as,x::xs,us,i,H,I,r,hl,hp,hf,ht=>by
  cases us with
  | nil=>cases r
  | cons u us =>
  cases r with
  | cons r rs =>
  obtain⟨aL,cC⟩:=abL.mp hp;have na:∀ b∈as,b≠a:=λb hb=>aaX (aL b hb);obtain⟨t,h0⟩:=ht 0 a u Y rfl;have I1:=Inv.Jv (o:=.tup [.int ((i+0:Nat):Int),x]) I (hf a (.head _)) #[yX,[.int ((i+0:Nat):Int) t,u],.cons #[_,Y] (.cons r .nil),#[_,h0,Y,_,Y]];obtain⟨H',s1,I2,k1,k2⟩:=Jw as xs us (i+1) _ I1 rs (by simpa using hl) cC (λb hb=>Ub (hf b (.tail _ hb)) (na b hb)) λj b v e1 e2=>by obtain⟨t',q⟩:=ht (j+1) b v e1 e2;exact#[t',by rw[show i+1+j=i+(j+1) by lia];exact q]
  refine#[H',λb v e=>s1 b v (by rw[aF (iT e (hf a (.head _)).1)];exact e),I2,λb hb=>?_,λj b y e1 e2=>?_]
  .rw[k1 b (λz=>hb (.tail _ z)),aF (λz=>hb (by rw[z];exact .head _))]
  .cases j with
   | zero =>
    cases e1;cases e2;rw[k1 a (λz=>na a z Y),ar]
   | succ j =>
    have:=k2 j b y e1 e2;rw[show i+1+j=i+(j+1) by lia] at this;exact this
end
theorem Jx:∀ as:List ZX,Vals (as.map V.ref) (as.map Z5)
 | []=>.nil
 | _::as=>.cons rfl (Jx as)
def Jy(K:ZF)(ta:TA):TE:=λJ H Q=>ta J H λvs H1=>∃ a xs,vs=[.ref a]/\ah K H1 a xs/\∀ l ys H',aj H1 H'->H1 l=O->H' l=U (.lst ys)->ys.length=xs.length ->
 (∀ j y x,ys[j]?=U y->xs[j]?=U x->∃ p,y = .ref p/\H1 p=O/\H' p=U (.tup [.int (j:Nat),x]))->Q (.ref l) H'
theorem Uc(hc:X.calm=true)(hg:Gl X "list")(hm:X.mg "list" = O)(n6:Gl X "enumerate")(jZ:X.mg "enumerate" = O)(ha:PA X [e] ta)(hs:aae [.Call (.Name "enumerate" p2) [e] [] gb] X.env=[(false,eval (.Call (.Name "enumerate" p2) [e] [] gb) X.env)]:=by rfl)(bV:aae [e] X.env=[(false,eval e X.env)]:=by rfl) :
 PE X (.Call (.Name "list" p) [.Call (.Name "enumerate" p2) [e] [] gb] [] pos) (Jy X.K ta):=by
 intro pins s J H Q I h;refine ai1 (eB I hg hm vq (aaq ?_ hs Y));rw[hs];show ZZ _ _ (spliced ((false,eval (.Call (.Name "enumerate" p2) [e] [] gb) X.env)::aca pos [])) _ _ s;refine abY (ai1 (eB I n6 jZ Fg (aaq (az (ha gb pins s J H _ I h) λus s1 zq=>?_) bV Y)));obtain⟨vs,H1,I1,r1,q1⟩:=zq;obtain⟨a,xs,rfl,hq,q⟩:=q1;obtain⟨u,rfl,ru⟩:=vals1 r1;cases ru;obtain⟨ai,rv,pl,hz⟩:=I1.list hq;refine agK pl.isList λh' he hit hsz hk=>?_;refine acb ?_;have la:a<s1.heap.objs.size:=let ⟨_,e,_⟩:=pl.isList;ZM e;refine Ua (s:={ s1 with heap:=h' }) (l:=a) (items:=ai.toArray) (I1.ok.hd hc) .none he hit (pl.isList.at λo e=>hk a o e) (ahM _) (ZY (abD la)) (ZY la) (by rw[ZW,<- rv.length];exact hz) λg tk acc c as eM hD j8 hG fY=>?_;have up:∀ b o,s1.heap.get? b=U o->g.get? b=U o:=λb o e=>eM b o (ZY (abD (ZM e))) (ZY (ZM e)) (hk b o e);have I2:Inv X pins J H1 { s1 with heap:=g,toks:=tk }:=I1.kept (t':=tk) up;have AR:∀ b∈as,s1.heap.objs.size<=b:=λb hb=>by have:=hG.above b hb;have e:({ s1 with heap:=h' }:ZU).heap.objs.size=s1.heap.objs.size+2:=hsz;walk_at "o"
 obtain⟨H',s2,I3,k1,k2⟩:=Jw as xs ai 0 H1 I2 rv (by rw[j8,ZW];exact rv.length.symm) hG.rise (λb hb=>I1.ic (AR b hb) (I1.ak.fresh (AR b hb))) λj b v e1 e2=>by
  obtain⟨t,x,e3,e4⟩:=hG.pairs j b e1;have:x=v:=by simpa [e2] using e3.symm
  subst this;exact#[t,by rw[ahu];exact e4]
 have hl:s1.heap.objs.size<=h'.objs.size:=by rw[hsz];exact afC _ _
 have nl:h'.objs.size∉as:=λz=>absurd (hG.above _ z) (Nat.not_succ_le_self _);have f0:=I1.ak.fresh hl;have Jz:as.length=xs.length:=by rw[j8,ZW];exact rv.length.symm
 refine#[.ref h'.objs.size,upd H' h'.objs.size (.lst (as.map V.ref)),Inv.Jv I3 (I1.ic hl (by rw[k1 _ nl];exact f0)) #[by rw[ZJ,Jz];exact hz,acc.toList,c,?_,by rw[agv];exact hD],Y,q _ (as.map V.ref) _ (λb v e=>?_) f0 (ar ..) (by rw[ZJ,Jz]) λj y x e1 e2=>?_]
 .rw[fY];exact Jx as
 .rw[aF (iT e f0)];exact s2 b v e
 .rw[Z1] at e1;obtain⟨b,hb,rfl⟩:=aaj.mp e1;have hm:=Z2 hb;refine#[b,Y,I1.ak.fresh (AR b hm),?_];rw[aF (λz=>nl (by rw[<- z];exact hm))];have:=k2 j b x hb e2;rw[ahu] at this;exact this
def mw:L2.St->Nat->(V->Prop)->Prop
 | [],_,_=>False
 | x::_,0,Q=>match x with|some v=>Q v|none=>False
 | _::J,n+1,Q=>mw J n Q
def bZ(x:V)(Q:Int->Prop):Prop:=match x with|.int i=>Q i|_=>False
def oi(x:V)(Q:Bool->Prop):Prop:=match x with|.bl i=>Q i|_=>False
def sx(x:V)(Q:ZX->Prop):Prop:=match x with|.ref i=>Q i|_=>False
def Ud(xs:List V)(Q:V->Prop):Prop:=match xs with|[x]=>Q x|_=>False
def Ue(xs:List V)(Q:V->V->Prop):Prop:=match xs with|[x,y]=>Q x y|_=>False
def mx(x:V)(Q:Bool->Prop):Prop:=match x with|.non=>Q true|_=>Q false
def iG(x:V)(Q:Bool->Prop):Prop:=match x with|.non=>Q false|_=>Q true
section
theorem Ug:mw (U v::J) 0 Q=Q v:=rfl
theorem Uh:mw (o::J) (n+1) Q=mw J n Q:=rfl
theorem Ui:bZ (.int i) QI=QI i:=rfl
theorem Uj:oi (.bl b) QB=QB b:=rfl
theorem Uk:sx (.ref a) QR=QR a:=rfl
theorem Ul:Ud [x] Q=Q x:=rfl
theorem Um:Ue [x,y] Q2=Q2 x y:=rfl
theorem Uo:mx .non QB=QB true:=rfl
theorem Up:mx (.int i) QB=QB false:=rfl
theorem Uq:mx (.bl b) QB=QB false:=rfl
theorem Ur:mx (.ref a) QB=QB false:=rfl
theorem Us:iG .non QB=QB false:=rfl
theorem Ut:iG (.int i) QB=QB true:=rfl
theorem Uu:iG (.bl b) QB=QB true:=rfl
theorem Uv:iG (.ref a) QB=QB true:=rfl
theorem Uw:iG (.str s) QB=QB true:=rfl
theorem Ux:mx (.str s) QB=QB false:=rfl
theorem mw.ex:∀ {J:L2.St} {n:Nat},mw J n Q->∃ v,J[n]?=U (U v)/\Q v
 | [],_,h=>h.elim
 | some v::_,0,h=>#[v,Y,h]
 | none::_,0,h=>h.elim
 | _::J,n+1,h=>mw.ex (J:=J) (n:=n) h
theorem bZ.ex(h:bZ x QI):∃ i,x = .int i/\QI i:=by cases x<;>first|exact#[_,Y,h]|exact h.elim
theorem oi.ex(h:oi x QB):∃ i,x = .bl i/\QB i:=by cases x<;>first|exact#[_,Y,h]|exact h.elim
theorem sx.ex(h:sx x QR):∃ i,x = .ref i/\QR i:=by cases x<;>first|exact#[_,Y,h]|exact h.elim
theorem iG.ex(h:iG x QB):QB (!decide (x = .non)):=by cases x<;>exact h
theorem mx.ex(h:mx x QB):QB (decide (x = .non)):=by cases x<;>exact h
end
section
variable{X:Cx}{e a b c:ael}{pos:Pos}{ta tb tc:TE}{op kB:CmpOp}
theorem JA(h:Q (rE x)):iG x Q:=by cases x<;>exact h
theorem AS{c:Prop}[Decidable c]{Q:Bool->Prop}(h:Q (decide c)):if c then Q true else Q false:=by
 by_cases z:c
 .rw[decide_eq_true z] at h;exact (show _=_ from if_pos z).mpr h
 .rw[decide_eq_false z] at h;exact (show _=_ from if_neg z).mpr h
theorem Uy{a b:En}{A B:Prop}(h1:aS a b=true->A)(h2:aS a b=false->B):iG (ev a) λk=>if k=true then (iG (ev b) λk=>if k=true then (bZ (ev a) λi=>bZ (ev b) λj=>if j<i then A else B) else B) else B:=by
 rcases a with _|x
 .exact h2 (Pr _)
 rcases b with _|y
 .exact h2 rfl
 show if y<x then A else B
 split
 .rename_i h;exact h1 (decide_eq_true h)
 .rename_i h;exact h2 (decide_eq_false h)
def Uz(t:TE):TE:=λJ H Q=>∃ Q':VK,(∀ v H1,Q' v H1->Q v H1)/\t J H Q'
theorem eN(h:PE X e ta):PE X e (Uz ta):=λpins s J H Q I ⟨Q',k,q⟩=>az (h pins s J H Q' I q) λ_ _ ⟨x,H1,I1,r1,q1⟩=>#[x,H1,I1,r1,k _ _ q1]
theorem sA(h:PE X e ta)(k:∀ J H Q,t' J H Q->ta J H Q):PE X e t':=λpins s J H Q I q=>h pins s J H Q I (k J H Q q)
theorem oj(h:PT X e t)(k:∀ J H Q,t' J H Q->t J H Q):PT X e t':=λpins s J H Q I q=>h pins s J H Q I (k J H Q q)
theorem AU(h:bo X f r)(k:∀ x y H Q,r' x y H Q->r x y H Q):bo X f r':=λpins s J H x y v u Q I rx ry q=>h pins s J H x y v u Q I rx ry (k _ _ _ _ q)
def JB(i:Nat):TE:=λJ H Q=>mw J i λv=>Q v H
theorem aa(i:Nat)(hN:X.N[i]?=U x:=by rfl)(hv:uM X.env.scope x:=by first|exact ade rfl|exact ahs (ade Y)|exact ahs (ahs Y))(hd:(x == ("__debug__" : Str))=false:=by decide)(fG:(x == ("__classdict__" : Str))=false:=by decide):PE X (.Name x pos) (JB i):=sA (pv i hN hv hd fG) λy y y h=>h.ex
def sC(C:Int->Int->Prop)(g:Int->Int->V):R2:=λx y H Q=>bZ x λi=>bZ y λj=>C i j/\Q (g i j) H
def wD(g:Int->Int->V):R2:=λx y H Q=>bZ x λi=>bZ y λj=>Q (g i j) H
def AV(g:Int->V):V->Hp->VK->Prop:=λx H Q=>bZ x λi=>Q (g i) H
def AW(p:Int->Int->Prop)[∀ i j,Decidable (p i j)]:R2:=λx y H Q=>bZ x λi=>bZ y λj=>if p i j then Q (.bl true) H else Q (.bl false) H
theorem AX(h:bo X f (rI C g)):bo X f (sC C g):=AU h λx y H Q q=>by obtain⟨i,rfl,q1⟩:=bZ.ex q;obtain⟨j,rfl,q5⟩:=bZ.ex q1;exact#[i,j,Y,Y,q5]
theorem oq(h:bo X f (gD g)):bo X f (wD g):=AU h λx y H Q q=>by obtain⟨i,rfl,q1⟩:=bZ.ex q;obtain⟨j,rfl,q5⟩:=bZ.ex q1;exact#[i,j,Y,Y,q5]
theorem AY[∀ i j,Decidable (p i j)](h:bo X f (gD λi j=>.bl (decide (p i j)))):bo X f (AW p):=AU h λx y H Q q=>by
 obtain⟨i,rfl,q1⟩:=bZ.ex q;obtain⟨j,rfl,q5⟩:=bZ.ex q1;clear q q1;refine#[i,j,Y,Y,?_];by_cases z:p i j
 .rw[if_pos z] at q5;show Q (.bl (decide (p i j))) H;rw[decide_eq_true z];exact q5
 .rw[if_neg z] at q5;show Q (.bl (decide (p i j))) H;rw[decide_eq_false z];exact q5
theorem UA(h:o6 X f (rU g)):o6 X f (AV g):=λpins s J H x v Q I rx q=>h pins s J H x v Q I rx q.ex
theorem bh:bo X (adz .Add) (wD λi j=>.int (i+j)):=oq MD
theorem ed:bo X (adz .Sub) (wD λi j=>.int (i-j)):=oq ME
theorem lx:bo X (adz .Mod) (sC (λy j=>0<j) λi j=>.int (i % j)):=AX MF
theorem j9:bo X (adz .Mult) (sC pf λi j=>.int (i * j)):=AX NB
theorem sD:bo X (adz .Mult) (sC kM λi j=>.int (i * j)):=AX Pu
theorem iH:o6 X (unaryOp .USub) (AV λi=>.int (-i)):=UA MH
def JC(t:TE):TT:=λJ H Q=>t J H λx H'=>oi x λk=>Q k H'
theorem cT(h:PE X e ta)(he:∀ whole,aiM e X.env whole=(do let v <- whole;aiz e.pos;holding [v] (truthy v)):=by intro y;rfl):PT X e (JC ta):=oj (Mp (eN h) he) λJ H Q q=>#[_,λy y h=>h.ex,q]
def sE(p:Int->Int->Prop)[∀ i j,Decidable (p i j)](ta tb:TE):TT:=λJ H Q=>ta J H λx H1=>tb J H1 λy H2=>bZ x λi=>bZ y λj=>if p i j then Q true H2 else Q false H2
theorem JD{p:Int->Int->Prop}[∀ i j,Decidable (p i j)]{x y:V}{H:Hp}{Q:Bool->Hp->Prop}(q:bZ x λi=>bZ y λj=>if p i j then Q true H else Q false H):AW p x y H (λz H'=>∃ k,z = .bl k/\Q k H'):=by
 obtain⟨i,rfl,q1⟩:=bZ.ex q;obtain⟨j,rfl,q5⟩:=bZ.ex q1;clear q q1;by_cases z:p i j
 .rw[if_pos z] at q5;exact (show _=_ from if_pos z).mpr #[_,Y,q5]
 .rw[if_neg z] at q5;exact (show _=_ from if_neg z).mpr #[_,Y,q5]
theorem AZ[∀ i j,Decidable (p i j)](ho:bo X (abl op) (gD λi j=>.bl (decide (p i j))))(ha:PE X a ta)(hb:PE X b tb)(hm:acu op b=false):PT X (.Compare a [op] [b] pos) (sE p ta tb) :=
 oj (iZ (AY ho) (eN ha) (eN hb) hm) λJ H Q q=>#[_,λx H1 q1=>#[_,λy H2 q2=>JD q2,q1],q]
theorem my(ha:PE X a ta)(hb:PE X b tb):PT X (.Compare a [.Lt] [b] pos) (sE (λi j=>i<j) ta tb):=AZ qV ha hb (ff _)
theorem UB(ha:PE X a ta)(hb:PE X b tb):PT X (.Compare a [.LtE] [b] pos) (sE (λi j=>i<=j) ta tb):=AZ gE ha hb (ff _)
theorem iI(ha:PE X a ta)(hb:PE X b tb):PT X (.Compare a [.Gt] [b] pos) (sE (λi j=>j<i) ta tb):=AZ uY ha hb (ff _)
def eqT(x y:V)(Q:Bool->Prop):Prop:=match x with
 | .int i=>(match y with|.int j=>if i=j then Q true else Q false|.non=>Q false|.str _=>Q false|_=>False)
 | .str i=>(match y with|.str j=>if i=j then Q true else Q false|.non=>Q false|.int _=>Q false|_=>False)
 | .bl i=>(match y with|.bl j=>if i=j then Q true else Q false|.non=>Q false|_=>False)
 | .non=>(match y with|.non=>Q true|.int _=>Q false|.bl _=>Q false|.str _=>Q false|_=>False)
 | _=>False
def neT(x y:V)(Q:Bool->Prop):Prop:=match x with
 | .int i=>(match y with|.int j=>if ¬ i=j then Q true else Q false|.non=>Q true|.str _=>Q true|_=>False)
 | .str i=>(match y with|.str j=>if ¬ i=j then Q true else Q false|.non=>Q true|.int _=>Q true|_=>False)
 | .bl i=>(match y with|.bl j=>if ¬ i=j then Q true else Q false|.non=>Q true|_=>False)
 | .non=>(match y with|.non=>Q false|.int _=>Q true|.bl _=>Q true|.str _=>Q true|_=>False)
 | _=>False
section
theorem UC:eqT (.int i) (.int j) Q=if i=j then Q true else Q false:=rfl
theorem UD:eqT (.str s) (.str t) Q=if s=t then Q true else Q false:=rfl
theorem UE:eqT (.bl b') (.bl b1) Q=if b'=b1 then Q true else Q false:=rfl
theorem UG:eqT .non .non Q=Q true:=rfl
theorem UH:eqT .non (.int j) Q=Q false:=rfl
theorem UI:eqT (.int i) .non Q=Q false:=rfl
theorem UJ:eqT (.int i) (.str s) Q=Q false:=rfl
theorem UK:eqT .non (.str s) Q=Q false:=rfl
theorem UL:neT (.int i) (.int j) Q=if ¬ i=j then Q true else Q false:=rfl
theorem UM:neT (.str s) (.str t) Q=if ¬ s=t then Q true else Q false:=rfl
theorem UN:neT .non .non Q=Q false:=rfl
theorem UO:neT .non (.int j) Q=Q true:=rfl
theorem UP:neT (.int i) .non Q=Q true:=rfl
theorem JE{c:Prop}[Decidable c]{Q:Bool->Prop}(q:if c then Q true else Q false):Q (decide c):=by
 by_cases z:c
 .rw[if_pos z] at q;rw[decide_eq_true z];exact q
 .rw[if_neg z] at q;rw[decide_eq_false z];exact q
theorem eqT.ex(h:eqT x y Q):kA x y=true/\Q (decide (x=y)):=by
 cases x<;>cases y<;>first
  | exact h.elim
  | exact#[Y,h]
  | (refine#[Y,?_];have:=JE h;simpa using this)
theorem neT.ex(h:neT x y Q):kA x y=true/\Q (!decide (x=y)):=by
 cases x<;>cases y<;>first
  | exact h.elim
  | exact#[Y,h]
  | (refine#[Y,?_];have:=JE h;simpa using this)
end
def JF(ta tb:TE):TT:=λJ H Q=>ta J H λx H1=>tb J H1 λy H2=>eqT x y λk=>Q k H2
def JG(ta tb:TE):TT:=λJ H Q=>ta J H λx H1=>tb J H1 λy H2=>neT x y λk=>Q k H2
theorem cG(ha:PE X a ta)(hb:PE X b tb):PT X (.Compare a [.Eq] [b] pos) (JF ta tb) :=
 oj (iZ qU (eN ha) (eN hb) (ff _)) λJ H Q q=>#[_,λx H1 q1=>#[_,λy H2 q2=>#[(eqT.ex q2).1,_,Y,(eqT.ex q2).2],q1],q]
theorem ke(ha:PE X a ta)(hb:PE X b tb):PT X (.Compare a [.NotEq] [b] pos) (JG ta tb) :=
 oj (iZ MI (eN ha) (eN hb) (ff _)) λJ H Q q=>#[_,λx H1 q1=>#[_,λy H2 q2=>#[(neT.ex q2).1,_,Y,(neT.ex q2).2],q1],q]
def JH(ta:TE):TT:=λJ H Q=>ta J H λx H1=>mx x λk=>Q k H1
def JI(ta:TE):TT:=λJ H Q=>ta J H λx H1=>iG x λk=>Q k H1
theorem dG(ha:PE X a ta):PT X (.Compare a [.Is] [.Constant .none j pos'] pos) (JH ta):=oj (qL (uP (eN ha))) λJ H Q q=>#[_,λx H1 q1=>#[_,Y,q1.ex],q]
theorem ee(ha:PE X a ta):PT X (.Compare a [.IsNot] [.Constant .none j pos'] pos) (JI ta):=oj (qL (xO (eN ha))) λJ H Q q=>#[_,λx H1 q1=>#[_,Y,iG.ex q1],q]
def JJ(p q:Int->Int->Prop)[∀ i j,Decidable (p i j)][∀ i j,Decidable (q i j)](ta tb tc:TE):TT:=λJ H Q=>ta J H λx H1=>tb J H1 λy H2=>bZ x λi=>bZ y λj=>if p i j then (tc J H2 λz H3=>bZ z λk=>if q j k then Q true H3 else Q false H3) else Q false H2
theorem wF[∀ i j,Decidable (p i j)][∀ i j,Decidable (q i j)](ho:bo X (abl op) (gD λi j=>.bl (decide (p i j))))(dk:bo X (abl kB) (gD λi j=>.bl (decide (q i j))))(ha:PE X a ta)(hb:PE X b tb)(hc:PE X c tc)(hm:aiN [op,kB] [b,c]=false:=by with_unfolding_all rfl):PT X (.Compare a [op,kB] [b,c] pos) (JJ p q ta tb tc) :=
 oj (MJ (AY ho) (AY dk) (eN ha) (eN hb) (eN hc) hm) λJ H Q q=>#[_,λx H1 q1=>#[_,λy H2 q2=>by
  obtain⟨i,rfl,q3⟩:=bZ.ex q2;obtain⟨j,rfl,q5⟩:=bZ.ex q3;clear q2 q3;by_cases z:p i j
  .rw[if_pos z] at q5;exact (show _=_ from if_pos z).mpr #[_,Y,_,λw' H4 q4=>by
    obtain⟨k,rfl,y⟩:=bZ.ex q4;exact JD (x:=.int j) q4,q5]
  .rw[if_neg z] at q5;exact (show _=_ from if_neg z).mpr #[_,Y,#[_,Y,q5]],q1],q]
variable{rest:List ael}
def JK(ta tb:TE):TE:=λJ H Q=>ta J H λx H1=>oi x λc=>if c=true then tb J H1 Q else Q (.bl false) H1
def JL(ta tb:TE):TE:=λJ H Q=>ta J H λx H1=>oi x λc=>if c=true then Q (.bl true) H1 else tb J H1 Q
def JM(ta:TE):TE:=λJ H Q=>ta J H λx H1=>oi x λc=>Q (.bl (!c)) H1
theorem jr(ha:PE X a ta)(hb:PE X (.BoolOp .And (b::rest) pos) tb):PE X (.BoolOp .And (a::b::rest) pos) (JK ta tb):=sA (Mq (eN ha) hb) λJ H Q q=>#[_,λx H1 q1=>q1.ex,q]
theorem JN(ha:PE X a ta)(hb:PE X (.BoolOp .Or (b::rest) pos) tb):PE X (.BoolOp .Or (a::b::rest) pos) (JL ta tb):=sA (Mr (eN ha) hb) λJ H Q q=>#[_,λx H1 q1=>q1.ex,q]
theorem JO(ha:PE X a ta):PE X (.UnaryOp .Not a pos) (JM ta):=sA (Ms (eN ha)) λJ H Q q=>#[_,λx H1 q1=>q1.ex,q]
def JP(K:ZF)(ta:TE)(f:Str):TE:=λJ H Q=>ta J H λx H1=>sx x λa=>∃ C dx fs,H1 a=U (.ins C dx fs)/\fJ K C/\fU K C f/\∃ v,fs.lookup f=U v/\Q v H1
theorem dw{f:Str}{K:ZF}(hK:X.K=K)(he:PE X e ta)(hb:adi e f X.env (eval e X.env)=eval e X.env):PE X (.Attribute e f pos) (JP K ta f):=by
 subst hK;exact sA (MX (eN he) hb) λJ H Q q=>#[_,λx H1 q1=>by
  obtain⟨a,rfl,C,dx,fs,h1,h2,h3,v,h4,q2⟩:=q1.ex;exact#[a,C,dx,fs,v,Y,h1,h2,h3,h4,q2],q]
def JQ(K:ZF)(ta tv:TE)(f:Str):TS:=λD J H=>tv J H λy H1=>ta J H1 λx H2=>sx x λa=>∃ C dx fs,H2 a=U (.ins C dx fs)/\fJ K C/\fU K C f/\fs.length<1000 /\
 D.nx J (upd H2 a (.ins C dx (eI f y fs)))
theorem ot(ha:PE X o ta)(hv:PE X value tv)(hs:aee value (U (.Attribute o f pos')) pos.line X.env=pure false):PS X (.Assign [.Attribute o f pos'] value pos) (JQ X.K ta tv f):=λpins s J H D I h =>
 MY (eN ha) (eN hv) hs pins s J H D I #[_,λy H1 q1=>#[_,λx H2 q2=>by
  obtain⟨a,rfl,C,dx,fs,h⟩:=q2.ex;exact#[a,C,dx,fs,Y,h],q1],h]
end
section
variable{X:Cx}{K:ZF}{a b e:ael}{es:List ael}{ta tb:TE}{t:TA}{pos p:Pos}
theorem ay(ha:PE X a ta)(hb:PE X b tb)(hs:yj b:=by exact λy y=>rfl):PE X (.Subscript a b pos) (ni (eJ X.K) ta tb):=cv cw ha hb hs
theorem di(ha:PE X a ta)(hb:PE X b tb)(h:X.K=K:=by rfl)(hs:yj b:=by exact λy y=>rfl):PE X (.Subscript a b pos) (ni (eJ K) ta tb):=cv (Ow h) ha hb hs
end
structure Fn(K:ZF)(mg:Str->Option ZP)(x:Str)(st:abX)(ps:List Str) where
 a:ZX
 fd:adA
 F:nv K x x st a fd
 m:mg x=U (.ref a)
 b:Binds K fd ps []
structure Fm(K:ZF)(x q:Str)(st:abX)(ps:List Str) where
 a:ZX
 fd:adA
 F:nv K x q st a fd
 b:Binds K fd ps []
section
theorem UQ{CX:gF}{k n:Nat}{ps:List Str}{sp:Sp}{x:Str}{st:abX}(N:Fn X.K X.mg x st ps)(F:eU X.prog X.w X.K X.mg X.base CX k N.a N.fd ps sp)(hr:bL n X.A)(hx:Passes CX X E0)(ha:PA X (e::es) t)
 (hk:k<=n:=by decide) (hg:Gl X x:=by rfl) (gG:(x == ("__debug__" : Str))=false:=by decide) (he:aae (e::es) X.env=(false,eval e X.env)::aae es X.env:=by rfl) (dJ:(aca pos (aae es X.env)).any (·.1)=false:=by rfl) :
 PE X (.Call (.Name x p) (e::es) [] pos) (ve sp [] E0 t):=dY F (hr.mono hk) hg N.m N.F.kp N.b .nil hx ha gG he dJ
end
theorem UR{α:Type}{n:Nat}{p:List α->Prop}(h:∀ u vs,vs.length=n->p (u::vs)):∀ us:List α,us.length=n+1->p us
 | u::vs,e=>h u vs (Nat.succ.inj e)
theorem US{α:Type}{p:List α->Prop}(h:p []):∀ us:List α,us.length=0->p us
 | [],_=>h
structure Sc(N ps:List Str)(st:abX):Prop extends qY N ps (dz st) where
 b:∀ (x q:Str) (kV doc pm:ZP) (an:Option ZX) (a7 ct:ZP) (us:List ZP),us.length=ps.length->bindArgs (ada x q (o9 st) (il st) (dz st) .none kV doc pm an a7 ct) #[us,[]]=pure (ps.zip us)
section
variable{P:aaE}{w:abb}{K:ZF}{mg:Str->Option ZP}{base h:acz}{x q:Str}{st:abX}{N ps:List Str}{k:Nat}{sp:Sp}{C:ZX}
inductive Fb(K:ZF)(x q:Str)(st:abX)(p:ZX->Prop):Prop
 | mk {f:ZX} {od an:Option ZX} {sl:Array (Option ZP)} {oc kV dc pm cd ct:ZP} (_:p f) (_:K.lookup f=U #[oc,od,.func (ada x q (o9 st) (il st) (dz st) .none kV dc pm an cd ct),sl]) (_:aeU K cd q=true) (_:ac2 K (.ref f)=true)
def aQ(K:ZF)(x:Str)(f:ZX):Prop:=aaG K aak x=U (U (.ref f))
def iJ(K:ZF)(C:ZX)(x:Str)(f:ZX):Prop:=aaT K (.ref C) x=U (U (.ref f))/\afU K (.ref f)=true
theorem Fb.fn(b:Fb K x x st (aQ K x))(X:K.In h)(G:h.Ns aak mg)(S:Sc N ps st):Nonempty (Fn K mg x st ps) :=
 let ⟨a,l,c,k⟩:=b;#[#[_,_,pd l c k,acZ X G a,(pd l c k).binds (S.b x x)]]
theorem Fb.fm(b:Fb K x q st (iJ K C x))(S:Sc N ps st):∃ F:Fm K x q st ps,iJ K C x F.a :=
 let ⟨a,l,c,k⟩:=b;#[#[_,_,pd l c k,(pd l c k).binds (S.b x q)],a]
theorem Fn.bt{y:Str}(F:Fn K mg x st [y])(S:Sc N [y] st)(s:ZU)(v:ZP):ahd s F.fd #[[v],[]] [(y,v)]:=by obtain⟨oc,od,kV,doc,pm,an,a7,ct,jG,e,lk,fG⟩:=F.F.ex;rw[e];exact .of_eq (S.b _ _ _ _ _ _ _ _ [v] Y)
abbrev Ok(P:aaE)(w:abb){K:ZF}{mg:Str->Option ZP}(base:acz)(k:Nat){x:Str}{st:abX}{ps:List Str}(F:Fn K mg x st ps)(sp:Sp):Prop:=eU P w K mg base (dM P w) k F.a F.fd ps sp
abbrev Om(P:aaE)(w:abb){K:ZF}(mg:Str->Option ZP)(base:acz)(k:Nat){x q:Str}{st:abX}{ps:List Str}(F:Fm K x q st ps)(sp:Sp):Prop:=eU P w K mg base (dM P w) k F.a F.fd ps sp
theorem a9{F:Fn K mg x st ps}(S:Sc N ps st)
 (gI:∀ (a7:ZP) (A:abI) (outer:List Env) (s:ZU) (H:Hp) (vs:List V) (Q:VK) (E:XK),bL k (A.deeper (abZ x (dz st) s.heap.objs.size F.a a7))->sp vs H Q E ->
   ∃ t,aX (eV (dM P w) P w K mg base N x (dz st) F.a a7 A outer s H E).o4 (il st) t/\t { nx:=λy H'=>Q .non H',rt:=Q } (start N vs) H)
 (len:∀ vs H Q E,sp vs H Q E->vs.length=ps.length:=by intro y y y y h;cases h;subst_vars;rfl):Ok P w base (k+1) F sp:=okN F.F S.1 len gI
theorem wH{F:Fn K mg x st ps}(S:Sc N ps st)
 (gI:∀ (a7:ZP) (A:abI) (outer:List Env) (s:ZU) (H:Hp) (vs:List V) (Q:VK) (E:XK),bL k (A.deeper (abZ x (dz st) s.heap.objs.size F.a a7))->sp vs H Q E ->
   ∃ t,aX (eV (dM P w) P w K mg base N x (dz st) F.a a7 A outer s H E) (il st) t/\t { nx:=λy H'=>Q .non H',rt:=Q } (start N vs) H)
 (len:∀ vs H Q E,sp vs H Q E->vs.length=ps.length:=by intro y y y y h;cases h;subst_vars;rfl):Ok P w base (k+1) F sp:=Fs F.F S.1 len gI
theorem A0{F:Fm K x q st ps}(S:Sc N ps st)
 (gI:∀ (a7:ZP) (A:abI) (outer:List Env) (s:ZU) (H:Hp) (vs:List V) (Q:VK) (E:XK),bL k (A.deeper (abZ q (dz st) s.heap.objs.size F.a a7))->sp vs H Q E ->
   ∃ t,aX (eV (dM P w) P w K mg base N q (dz st) F.a a7 A outer s H E).o4 (il st) t/\t { nx:=λy H'=>Q .non H',rt:=Q } (start N vs) H)
 (len:∀ vs H Q E,sp vs H Q E->vs.length=ps.length:=by intro y y y y h;cases h;subst_vars;rfl):Om P w mg base (k+1) F sp:=okN F.F S.1 len gI
theorem qj{F:Fm K x q st ps}(S:Sc N ps st)
 (gI:∀ (a7:ZP) (A:abI) (outer:List Env) (s:ZU) (H:Hp) (vs:List V) (Q:VK) (E:XK),bL k (A.deeper (abZ q (dz st) s.heap.objs.size F.a a7))->sp vs H Q E ->
   ∃ t,aX (eV (dM P w) P w K mg base N q (dz st) F.a a7 A outer s H E) (il st) t/\t { nx:=λy H'=>Q .non H',rt:=Q } (start N vs) H)
 (len:∀ vs H Q E,sp vs H Q E->vs.length=ps.length:=by intro y y y y h;cases h;subst_vars;rfl):Om P w mg base (k+1) F sp:=Fs F.F S.1 len gI
end
section
theorem aD(i:Nat)(hN:X.N.Nodup)(he:PE X e te)(hi:X.N[i]?=U x:=by rfl)(hx:Loc X.env.scope x:=by first|exact ade rfl|exact ahs Y)(hs:aee e (U (.Name x pos')) pos.line X.env=pure false:=by rfl)(hf:X.fn x=true∨X.env.scope.names.lookup x=U .local:=by first|exact .inl rfl|exact .inr rfl) :
 PS X (.Assign [.Name x pos'] e pos) (uS te (bU i)):=ib hN hi hx he hs hf
theorem bQ(i:Nat)(hN:X.N.Nodup)(hi:X.N[i]?=U x:=by rfl)(hx:Loc X.env.scope x:=by first|exact ade rfl|exact ahs Y)(hf:X.fn x=true∨X.env.scope.names.lookup x=U .local:=by first|exact .inl rfl|exact .inr rfl):PG X (.Name x pos) (bU i):=eE hN hi hx hf
theorem aA{k n:Nat}{ps:List Str}{sp:Sp}{st:abX}{CX:gF}{N:Fn X.K X.mg x st ps}(F:eU X.prog X.w X.K X.mg X.base CX k N.a N.fd ps sp)(hr:bL n X.A)(ha:PA X (e::es) t)(hx:Passes CX X E0:=by exact cg)
 (hk:k<=n:=by decide) (hg:Gl X x:=by rfl) (gG:(x == ("__debug__" : Str))=false:=by decide) (he:aae (e::es) X.env=(false,eval e X.env)::aae es X.env:=by rfl) (dJ:(aca pos (aae es X.env)).any (·.1)=false:=by rfl) :
 PE X (.Call (.Name x p) (e::es) [] pos) (ve sp [] E0 t):=UQ N F hr hx ha hk hg gG he dJ
end
end Gz
namespace Gz
open PySem L2
theorem JR:∀ {xs ys:List Int},xs.Nodup->(∀ x∈xs,x∈ys)->xs.length<=ys.length
 | [],_,_,_=>Z3 _
 | x::xs,ys,h,k=>by obtain⟨h1,h2⟩:=aaC.mp h;have hx:=k x (.head _);have ih:=JR (ys:=ys.erase x) h2 λy hy=>(ads (λz=>h1 (by rw[<- z];exact hy))).mpr (k y (.tail _ hy));rw[acO hx] at ih;have:=abQ hx;rw[aaJ];omega
end Gz
namespace Gz
open PySem PySem.Spec PyProof.Rows L2
theorem JS(hL:(L.length:Int)<=mo)(hc:fq ps c)(hg:∀ k s,gs[k]?=U s->bD s (c k))(gf:gs.length<=ps.length+1)(hw:meets (cp tb L) c)(ht:∀ r∈tb,r.1.2.toNat<=ps.length) :
 ∀ (t:Pp) (as:List Int),as.Nodup->(∀ x∈as,x∈L)->¬ Val ps gs tb mo t as
 | .nil,_,_,_,h=>h
 | .full,as,hn,hs,h=>by have:=JR hn hs;have h:mo<as.length:=h;lia
 | .cls x a b,as,hn,hs,h=>by
  obtain⟨⟨m,n,hm,lJ,aY⟩,ha,hb⟩:=h;have met:∀ (s:En × Nat) (k:Mk),gX gs tb as s k->(∀ e,s.1=U e->e∉L)->bD k.2 (c k.1)/\k.1<=ps.length:=λs k hk hl=>by
   obtain⟨h1,h2⟩:=hk;obtain⟨o,j⟩:=s;cases o with
   | none =>
    have h2:gs[j]?=U k.2:=h2;have:=(ZL.mp h2).1;have h1:k.1=j:=h1;rw[h1];exact#[hg _ _ h2,by lia]
   | some e =>
    have h2:e∉as/\((e,(j:Int)),k.2)∈tb:=h2;have h1:k.1=j:=h1;have eM:(j,k.2)∈cp tb L:=fc.mpr #[_,h2.2,hl e Y,by simp];have:=ht _ h2.2;rw[h1];exact#[hw _ eM,by simpa using this]
  have step:∀ (e:Int) (t:Pp) (s:En × Nat) (k:Mk),gX gs tb as s k->s.1=U e->e∈L->Val ps gs tb mo t (as++[e])->sizeOf t<1+sizeOf x+sizeOf a+sizeOf b->False:=λe t s k hk es hl hv aL=>by
   have sf:e∉as:=by obtain⟨v,h2⟩:=hk;rw[es] at h2;exact h2.1
   refine JS hL hc hg gf hw ht t (as++[e]) (ad9.mpr #[hn,by simp,λy hy z hz=>?_]) (λy hy=>?_) hv
   .obtain rfl:z=e:=by simpa using hz
    exact λq=>sf (q ▸ hy)
   .rcases aaf.mp hy with z|z
    .exact hs y z
    .obtain rfl:y=e:=by simpa using z
     exact hl
  by_cases h1:∃ e,x.1.1=U e/\e∈L
  .obtain⟨e,e1,e2⟩:=h1;rw[e1] at ha;exact step e a x.1 m hm e1 e2 ha (by lia)
  by_cases h2:∃ e,x.2.1=U e/\e∈L
  .obtain⟨e,e1,e2⟩:=h2;have hb:if x.1.1=U e then b = .nil else Val ps gs tb mo b (as++[e]):=by rw[e1] at hb;exact hb
   rw[if_neg (λz=>h1 #[e,z,e2])] at hb;exact step e b x.2 n lJ e1 e2 hb (by lia)
  have m1:=met x.1 m hm λe he z=>h1 #[e,he,z];have m2:=met x.2 n lJ λe he z=>h2 #[e,he,z];refine HH (ms:=[m,n]) hc (λq hq=>?_) (λq hq=>?_) (.head _) (.tail _ (.head _)) aY
  .rcases ZO.mp hq with rfl|hq
   .exact m1.1
   .obtain rfl:q=n:=by simpa using hq
    exact m2.1
  .rcases ZO.mp hq with rfl|hq
   .exact m1.2
   .obtain rfl:q=n:=by simpa using hq
    exact m2.2
termination_by t=>sizeOf t
decreasing_by simp_wf;lia
theorem _root_.L2.bL.m(r:bL k A)(h:j<=k:=by decide):bL j A:=r.mono h
theorem br{K:ZF}{H:Hp}{p:ZX}{xs:List V}{i:Int}{v:V}{Q:VK}(h:H p=U (.tup xs))(q:Q v H)(e:cN xs i=U v:=by rfl):eJ K (.ref p) (.int i) H Q:=aE (aw.of h) e q
theorem cO(fr:List Nat)(ys:List Str)(a:ahg scope X.env=pure cl:=by rfl)(b:(scope.names.all λp=>p.2 != .cell)=true:=by decide +kernel)(c:scope.kind = .function:=by rfl)(d:(scope.names.all λp=>p.2 != .local || scope.names.lookup p.1 == U .local)=true:=by decide +kernel)(e:scope.names.lookup x=U .local:=by rfl)(f:((relabel scope X.env).names.all λp=>(p.2 != .cell && p.2 != .free) || (cl.lookup p.1).isSome)=true:=by rfl)(g:i5 X cl:=by repeat' first|exact i5.nil|refine i5.cons Y ?_)(h:gK X scope cl fr ys:=by repeat' first|exact gK.nil|refine gK.cons Y Y Y Y ?_)(i:(x::ys).Nodup:=by decide)(j:(ys.all λy=>(relabel scope X.env).names.lookup y == U .cell)=true:=by rfl):nE X x scope cl fr ys:=#[a,b,c,d,e,f,g,h,i,j]
noncomputable abbrev aM{N ps:List Str}{st:abX}(_:Sc N ps st):List Str:=ps
noncomputable abbrev Fq(K:ZF)(mg:Str->Option ZP)(x:Str){N ps:List Str}{st:abX}(_:Sc N ps st):=Fn K mg x st ps
abbrev JT(K:ZF)(x:Str){N ps:List Str}{st:abX}(_:Sc N ps st):Prop:=Fb K x x st (aQ K x)
abbrev JU(K:ZF)(C:ZX)(x q:Str){N ps:List Str}{st:abX}(_:Sc N ps st):Prop:=Fb K x q st (iJ K C x)
abbrev JV(K:ZF)(x q:Str){N ps:List Str}{st:abX}(_:Sc N ps st)(p:ZX->Prop):Prop:=Fb K x q st p
noncomputable def JT.c{K:ZF}{mg:Str->Option ZP}{h:acz}{x:Str}{st:abX}{N ps:List Str}{S:Sc N ps st}(b:JT K x S)(X:K.In h)(G:h.Ns aak mg):Fq K mg x S:=Classical.choice (Fb.fn b X G S)
section
end
noncomputable abbrev Fy(K:ZF)(_:ZX)(x q:Str){N ps:List Str}{st:abX}(_:Sc N ps st):=Fm K x q st ps
noncomputable abbrev Fv(K:ZF)(x q:Str){N ps:List Str}{st:abX}(_:Sc N ps st)(_:ZX->Prop):=Fm K x q st ps
section
variable{K:ZF}{C:ZX}{x q y:Str}{N ps:List Str}{st:abX}{S:Sc N ps st}{p:ZX->Prop}
theorem Fb.fx(b:Fb K x q st p)(S:Sc N ps st):∃ F:Fm K x q st ps,p F.a :=
 let ⟨a,l,c,k⟩:=b;#[#[_,_,pd l c k,(pd l c k).binds (S.b x q)],a]
noncomputable def JV.c(b:JV K x q S p):Fv K x q S p:=ahO (Fb.fx b S)
noncomputable def JU.c(b:JU K C x q S):Fy K C x q S:=ahO (Fb.fx b S)
end
theorem UT{prog:aaE}{w:abb}{A:abI}{R:afW->ZU->Prop}{I S:ZX}{fp wr:List ZX}{n:Nat}{P:Nat->ZP->Prop}{St:Nat->acz->Prop}{kf:Nat->Int}{kg:String}{h0:acz}
 (W:Walks prog w A.in1 I fp wr n P St) (hS:S∉fp) (hw:∀ b o,h0.get? b=U o->b∉wr/\b≠S)
 (eG:∀ i v (s:ZU) (Q E:ZP->ZU->Prop),P i v->(∀ b o,h0.get? b=U o->s.heap.get? b=U o)->(∀ t tk,Q (.int (kf i) t) { s with toks:=tk })->ZZ (model prog w) A.in1 (call (.builtin kg) [v]) Q E s):∀ (k j:Nat) (s:ZU) (vb:ZP) (tb:Tok) (c:Nat),k+(j+1)=n->St (j+1) s.heap->P (ab3 (λi j=>decide (kf i<kf j)) j) vb->(∀ b o,h0.get? b=U o->s.heap.get? b=U o) ->
  s.heap.get? S=U { cls:=.type "list",dict:=O,data:=.seq (List.toArray [vb,.int (kf (ab3 (λi j=>decide (kf i<kf j)) j)) tb]) c,slots:=(List.toArray []) } ->
  (∀ v h' tk,P (ab3 (λi j=>decide (kf i<kf j)) (n-1)) v->(∀ b o,h0.get? b=U o->h'.get? b=U o)->R (.ok (.ret v)) { s with heap:=h',toks:=tk }) ->
  acF (model prog w) A (.builtin "min.loop" #[[.ref I,.builtin kg,.ref S],[]]) R s:=by
 have nm:(toString "min" ++ toString ".loop" : String) = "min.loop" := by decide
 have nS:S∉wr:=λz=>hS (W.sub _ z);have kG:=CmpOf.ints_lt (prog:=prog) (w:=w) (A:=A.in1) (P:=λi v=>∃ t,v = .int (kf i) t) kf λy y h=>h;intro k
 induction k with
 | zero =>
  intro j s vb tb c e st pb g oS fin;have e':j+1=n:=by walk_at "o"
  refine aau abP ?_;rw[aai aaF _];show ZZ _ A.in1 (aef (.ref S) >>= _) _ _ s;refine ZE (abH oS Y ?_);show ZZ _ A.in1 (tryCatch (acQ (.ref I)) _ >>= _) _ _ s;refine ZE (abo (W.done s _ _ (e' ▸ st) λh1 tk kp=>?_));have dO:=kp S _ nS oS;show ZZ _ A.in1 (aeg S (λy=>(List.toArray [])) >>= _) _ _ _;refine ZE ?_;refine abp dO Y (ZE (acj (ZI ?_)));exact fin vb _ tk (by rw[<- e'];exact pb) λb o q=>(ZV _ _ (aaQ (hw b o q).2)).trans (kp b o (hw b o q).1 (g b o q))
 | succ k ih =>
  intro j s vb tb c e st pb g oS fin;have lt:j+1<n:=by walk_at "o"
  refine aau abP ?_;rw[aai aaF _];show ZZ _ A.in1 (aef (.ref S) >>= _) _ _ s;refine ZE (abH oS Y ?_);show ZZ _ A.in1 (tryCatch (acQ (.ref I)) _ >>= _) _ _ s;refine ZE (abo (W.item (j+1) s _ _ lt st λv h1 tk pv ja kp=>?_));have dO:=kp S _ nS oS;have g1:∀ b o,h0.get? b=U o->h1.get? b=U o:=λb o q=>kp b o (hw b o q).1 (g b o q);show ZZ _ A.in1 (tryCatch (holding [v] (call (.builtin kg) [v])) _ >>= _) _ _ _;refine ZE (abo (aaB (eG (j+1) v _ _ _ pv g1 λtv jb=>?_)));show ZZ _ A.in1 (tryCatch (holding [v,.int (kf (j+1)) tv] (aeA _ (.int (kf (j+1)) tv) (.int (kf (ab3 (λi j=>decide (kf i<kf j)) j)) tb) >>= _)) _ >>= _) _ _ _;refine ZE (abo (aaB (ZE (kG (j+1) (ab3 (λi j=>decide (kf i<kf j)) j) _ _ _ _ _ #[tv,Y] #[tb,Y] ?_))));refine ZE (aaB (aaR ?_));refine ZE (acj (ZI ?_));cases hb:decide (kf (j+1)<kf (ab3 (λi j=>decide (kf i<kf j)) j)) with
  | true =>
   simp only[hb,if_true];refine ZE ?_;refine abp dO Y (ZE (acj ?_));rw[nm];have eb:ab3 (λi j=>decide (kf i<kf j)) (j+1)=j+1:=by simp only[ab3,hb,if_true]
   refine ZI #[aaY aaF _,ih (j+1) _ v tv _ (by walk_at "o") (W.frame _ _ _ ja λb hf o q=>?_) (by rw[eb];exact pv) (λb o q=>?_) (by rw[eb];exact aam _ dO Y) λv2 h2 jb p2 k2=>?_]
   .exact (ZV _ _ (λz:S=b=>hS (by rw[z];exact hf))).trans q
   .exact (ZV _ _ (aaQ (hw b o q).2)).trans (g1 b o q)
   .exact fin v2 h2 jb p2 k2
  | false =>
   simp only[hb,ZT,if_false];refine ZE (acj ?_);rw[nm];have eb:ab3 (λi j=>decide (kf i<kf j)) (j+1)=ab3 (λi j=>decide (kf i<kf j)) j:=by simp only[ab3,hb,ZT,if_false]
   refine ZI #[aaY aaF _,ih (j+1) _ vb tb c (by walk_at "o") ja (by rw[eb];exact pb) g1 (by rw[eb];exact dO) λv2 h2 jb p2 k2=>?_];exact fin v2 h2 jb p2 k2
theorem UU(a d:ZP):aeO "min" #[[a],[("key",d)]]:=by unfold aeO;kernel_rfl
theorem UW{prog:aaE}{w:abb}{A:abI}{E:ZP->ZU->Prop}{s:ZU}{l:ZX}{vs:Array ZP}{kf:Nat->Int}{kg:String}{Q:ZP->ZU->Prop}(hh:A.handled=O)(hl:s.heap.IsList l vs)(hp:0<vs.size)
 (eG:∀ i v (s':ZU) (Q E:ZP->ZU->Prop),vs[i]?=U v->(∀ b o,s.heap.get? b=U o->s'.heap.get? b=U o)->(∀ t tk,Q (.int (kf i) t) { s' with toks:=tk })->ZZ (model prog w) A.in1 (call (.builtin kg) [v]) Q E s')
 (h1:∀ v h' tk,vs[ab3 (λi j=>decide (kf i<kf j)) (vs.size-1)]?=U v->(∀ b o,s.heap.get? b=U o->h'.get? b=U o)->Q v { s with heap:=h',toks:=tk }) :
 ZZ (model prog w) A (call (.builtin "min") [.ref l] [("key",.builtin kg)]) Q E s:=by
 have nm:(toString "min" ++ toString ".loop" : String) = "min.loop" := by decide
 refine FN afz ae8 ae9 (UU _ _) ?_;show ZZ _ A.in1 (abd _ ["key","default"] 0 #[[],[("key",.builtin kg)]] >>= _) _ _ s;refine ZE (aeB (show abd _ ["key","default"] 0 #[[],[("key",.builtin kg)]]=pure [U (.builtin kg),O] from Y) ?_);refine ZE (ZI ?_);have aL:l<s.heap.objs.size:=by obtain⟨y,e,y⟩:=hl;exact ZM e
 refine ZE (acE hl ?_);have yT:l≠s.heap.objs.size:=ZY aL;have st:(s.heap.push { cls:=.type "list_iterator",data:=.fields (List.toArray [.ref l,.int 0 0]) }).IsListIter s.heap.objs.size l 0/\(s.heap.push { cls:=.type "list_iterator",data:=.fields (List.toArray [.ref l,.int 0 0]) }).IsList l vs:=#[#[_,ZR _ Y,Y,Y],hl.push _]
 have gL:∀ b∈[s.heap.objs.size,l],b<(s.heap.push { cls:=.type "list_iterator",data:=.fields (List.toArray [.ref l,.int 0 0]) }).objs.size:=λb hb=>by
  rw[abm];rcases ZO.mp hb with rfl|hb
  .exact acr _
  .rw[aap.mp hb];exact abD aL
 refine ZE (aaU ?_);have W:=Walks.list (prog:=prog) (w:=w) (A:=A.in1) hh s.heap.objs.size l yT vs;generalize eP:(s.heap.push { cls:=.type "list_iterator",data:=.fields (List.toArray [.ref l,.int 0 0]) })=P2 at st gL ⊢;have gM:P2.objs.size∉[s.heap.objs.size,l]:=λz=>aa8 _ (gL _ z);have up:∀ b o,s.heap.get? b=U o->b≠P2.objs.size/\b∉[s.heap.objs.size]/\(P2.push { cls:=.type "list",dict:=O,data:=.seq ([]:List ZP).toArray }).get? b=U o:=λb o q=>by
  have lt:=ZM q;have q2:P2.get? b=U o:=by rw[<- eP];exact ZH _ q
  refine#[ZY (ZM q2),λz=>?_,ZH _ q2];have:b=s.heap.objs.size:=by simpa using z
  walk_at "o"
 rw[nm];refine ZI #[aaY aaF _,?_];have oS:(P2.push { cls:=.type "list",dict:=O,data:=.seq ([]:List ZP).toArray }).get? P2.objs.size=U { cls:=.type "list",dict:=O,data:=.seq (List.toArray []) 0,slots:=(List.toArray []) }:=ZR _ rfl;have cB:=W.frame 0 P2 (P2.push { cls:=.type "list",dict:=O,data:=.seq ([]:List ZP).toArray }) st λb y o q=>ZH _ q;have nS:P2.objs.size∉[s.heap.objs.size]:=λz=>gM (by simp at z;simp[z]);refine aau abP ?_;rw[aai aaF _];show ZZ _ A.in1 (aef (.ref P2.objs.size) >>= _) _ _ _;refine ZE (abH oS Y ?_);show ZZ _ A.in1 (tryCatch (acQ (.ref s.heap.objs.size)) _ >>= _) _ _ _;refine ZE (abo (W.item 0 _ _ _ hp cB λv h2 tk pv ja kp=>?_));have dO:=kp _ _ nS oS;have g1:∀ b o,s.heap.get? b=U o->h2.get? b=U o:=λb o q=>kp b o (up b o q).2.1 (up b o q).2.2;show ZZ _ A.in1 (tryCatch (holding [v] (call (.builtin kg) [v])) _ >>= _) _ _ _;refine ZE (abo (aaB (eG 0 v _ _ _ pv g1 λtv jb=>?_)));show ZZ _ A.in1 (aeg P2.objs.size (λy=>(List.toArray [v,.int (kf 0) tv])) >>= _) _ _ _;refine ZE ?_;refine abp dO Y ?_;rw[nm];refine ZI #[aaY aaF _,UT (h0:=s.heap) W gM (λb o q=>#[(up b o q).2.1,(up b o q).1]) eG (vs.size-1) 0 _ v tv _ (by walk_at "o") (W.frame _ _ _ ja λb hf o q=>?_) pv (λb o q=>?_) (aam _ dO Y) λv2 h3 nH p3 k3=>?_]
 .exact (ZV _ _ (λz:P2.objs.size=b=>gM (by rw[z];exact hf))).trans q
 .exact (ZV _ _ (aaQ (up b o q).1)).trans (g1 b o q)
 .exact h1 v2 h3 nH p3 k3
section
noncomputable def minLen(ss:List (List Int)):Nat:=ab3 (λi j=>decide (((ss.getD i []).length:Int)<((ss.getD j []).length:Int))) (ss.length-1)
def JW(K:ZF)(te:TE):TE:=λJ H Q=>te J H λx H1=>∃ (a:ZX) (ys:List V) (ss:List (List Int)),x = .ref a/\ah K H1 a ys/\ax (rW H1) ys ss/\0<ss.length/\∀ v,ys[minLen ss]?=U v->Q v H1
theorem UX(hc:X.calm=true)(hg:Gl X "min")(hm:X.mg "min" = O)(n6:Gl X "len")(jZ:X.mg "len" = O)(he:PE X e te)(hs:aae [e] X.env=(false,eval e X.env)::aae [] X.env:=by rfl)(hq:aca pos (aae [e] X.env)=(false,eval e X.env)::aca pos (aae [] X.env):=by rfl) :
 PE X (.Call (.Name "min" p) [e] [#[U "key",.Name "len" p2,kp]] pos) (JW X.K te):=by
 intro pins s J H Q I h;refine aa9 (eB I hg hm lP ?_ (by decide));refine callWith_kw (az ((ae he ag hs) pos pins s J H (yV λx H1=>∃ (a:ZX) (ys:List V) (ss:List (List Int)),x = .ref a/\ah X.K H1 a ys/\ax (rW H1) ys ss/\0<ss.length/\∀ v,ys[minLen ss]?=U v->Q v H1) I h) λus s1 ⟨vs,H1,I1,r,q⟩=>?_) hq (by rw[hs];rfl);obtain⟨x,rfl,a,ys,ss,ex,hS,hK,h0,q1⟩:=FW q;subst ex;obtain⟨u,rfl,ru⟩:=vals1 r;cases ru;refine kws_cons (eB I1 n6 jZ cQ (kws_nil ?_) (by decide));obtain⟨ai,rv,hp,y⟩:=I1.list hS;have hl:ai.length=ys.length:=rv.length.symm;have hk:=hK.len;have hL:=Jg I1 hK rv;have Zc:=o7;show ZZ _ X.A (call (.builtin "min") [.ref a] [("key",.builtin "len")]) _ _ s1;refine UW (kf:=λi=>((ss.getD i []).length:Int)) (I1.ok.hd hc) hp.isList (by rw[ZW];lia) (λi v s' Q' E' hv jt fg=>?_) λv h' tk hv jt=>?_
 .rw[aaO] at hv;obtain⟨hi,y⟩:=ZL.mp hv;have aV:i<ys.length:=by lia
  obtain⟨k,ek,p',ep,cC⟩:=hK.get (ZK aV);obtain⟨u,eu,ru⟩:=rv.get (ZK aV);rw[ep] at ru;cases ru;rw[eu] at hv;cases hv;obtain⟨rd,pA,UY,A3⟩:=I1.list (ah.of cC);obtain⟨o,ho,aY,m,hd⟩:=UY.isList;have hn:rd.length=(ss.getD i []).length:=by rw[ZG,ek,<- pA.length,ZJ];rfl
  refine agH (items:=rd.toArray) #[o,jt _ _ ho,aY,m,hd] (by simp only[ZW,hn];rw[ZJ] at A3;have:(ss.getD i []).length=k.length:=(by rw[ZG,ek];rfl);lia) ?_;rw[ZW,hn];exact fg _ _
 .rw[aaO,ZW,show ai.length-1=ss.length-1 by lia] at hv;obtain⟨hi,y⟩:=ZL.mp hv;have aV:minLen ss<ys.length:=by rw[<- hl];exact hi
  obtain⟨u,eu,ru⟩:=rv.get (ZK aV);have e3:ai[minLen ss]?=U v:=hv;rw[eu] at e3;cases e3;exact#[_,H1,I1.kept jt,ru,q1 _ (ZK aV)]
theorem UZ(h:0<ss.length):∃ s,ss[minLen ss]?=U s/\∀ r∈ss,s.length<=r.length:=by obtain⟨h1,h2⟩:=argBest_lt (λi=>((ss.getD i []).length:Int)) (ss.length-1);have hi:minLen ss<ss.length:=aaS h1 (by lia);refine#[_,ZK hi,λr hr=>?_];obtain⟨j,hj,rfl⟩:=agq.mp hr;have:=h2 j (by lia);rw[show ab3 (λi j=>decide (((ss.getD i []).length:Int)<((ss.getD j []).length:Int))) (ss.length-1)=minLen ss from Y,ZG,ZG,ZK hi,ZK hj] at this;exact Int.ofNat_le.mp this
end
end Gz
namespace A4
open PySem L2 Gz
local macro_rules|`(tactic|walk_at "d")=>do{let a←("seval Nat.reduceAdd Nat.reduceSub xP Ec x4 ni Ei xN tC Eb D9 uS bU yd x9 vd ve DZ D0 tB D2 D3 D4 D5 D6 D7 D8 Ea rI gD rU Ek El NX NY NZ N0 N1 NP NQ NR NS NT NU ite_tt ite_ff _root_.L2.start N2 N3 List.map_cons List.map_nil List.length_cons List.length_nil List.replicate List.nil_append List.cons_append List.getElem?_cons_zero List.getElem?_cons_succ List.set_cons_zero List.set_cons_succ Bool.not_true Bool.not_false EA EB E4 E3 E6 N4 N5 N6 vy vE Pk vA xR uU Ft Ef EX zh xU xT O6 O7 Ey Ez ya ED ER EM EN EY E8 OX OY OZ x5 yE yW yZ zb JB Ug Uh Ui Uj Uk Ul Um Uo Up Uq Ur Ux Us Ut Uu Uv Uw sC wD AV AW JC sE JF JG UC UD UE UG UH UI UJ UK UL UM UN UO UP JH JI JJ JK JL JM JP JQ zr zt Hf zC GP GQ GR Hc HU E7 jT jU cA ia Jy Ic Ri Ib z5 Rl IV IY Rf".splitOn " ").toArray.mapM fun s=>`(Lean.Parser.Tactic.simpLemma|$(Lean.mkIdent s.toName):ident);`(tactic|dsimp only[↓reduceIte,$a,*])}
local macro_rules|`(tactic|walk_at "s")=>do{let a←("seval Nat.reduceAdd Nat.reduceSub reduceCtorEq ite_tt ite_ff List.map_cons List.map_nil List.length_cons List.length_nil List.nil_append List.cons_append Option.some.injEq V.int.injEq V.bl.injEq V.ref.injEq List.cons.injEq exists_eq_left exists_eq_left' exists_and_left true_and and_true decide_eq_true_eq Nat.zero_add Nat.sub_self Nat.add_one_sub_one decide_true decide_false Bool.not_eq_true' decide_eq_false_iff_not false_and exists_false and_assoc not_false_eq_true not_true_eq_false List.append_nil Option.join_some".splitOn " ").toArray.mapM fun s=>`(Lean.Parser.Tactic.simpLemma|$(Lean.mkIdent s.toName):ident);`(tactic|simp only[↓reduceIte,$a,*])}
local macro_rules|`(tactic|walk_at "p")=>`(tactic|first | (walk_at "d"; repeat (first | walk_at "s" | walk_at "d")) | (walk_at "s"; repeat (first | walk_at "d" | walk_at "s")))
local macro_rules|`(tactic|walk_at "g")=>`(tactic|try walk_at "p")
local macro_rules|`(tactic|rfl')=>`(tactic|walk_at "g")
local macro_rules|`(tactic|walk_at "c")=>`(tactic|(refine ⟨⟨rfl, rfl, rfl, by decide +kernel, rfl, by decide +kernel, by decide +kernel⟩, fun _ _ _ _ _ _ _ _ => ?_⟩; (repeat (refine UR fun _ => ?_)); exact US rfl))
inductive cU(H:Hp)(v:V)(m:Mk):Prop
 | mk(t p:ZX)(_:v = .ref t)(_:H t=U (.tup [.int m.1,.ref p]))(_:H p=U (.tup [ev m.2.1,ev m.2.2]))
theorem cU.same(h:cU H v m)(s:aj H H'):cU H' v m:=let ⟨t,p,e,a,b⟩:=h;#[t,p,e,s _ _ a,s _ _ b]
noncomputable def wI(ps:List P2)(a b:Mk):Bool:=match a.2.2,b.2.1 with
 | some hi,U lo=>decide (bw ps a.1 b.1<lo-hi)
 | _,_=>false
def top(i:Nat):abX:=PySem.Challenge.pw_gaze_k50_the_least_number.main.body.getD i (.Pass #[0,0,0,0])
abbrev A5:abX:=top 7
abbrev A6:abX:=top 8
abbrev A7:abX:=top 9
abbrev A8:abX:=top 11
abbrev A9:abX:=top 13
abbrev Ba:abX:=top 14
abbrev Bb:abX:=top 15
abbrev Bc:abX:=top 16
abbrev Be:abX:=top 17
abbrev Bf:abX:=top 18
abbrev Bg:abX:=top 19
abbrev Bh:abX:=top 20
abbrev Bi:abX:=top 21
abbrev Bj:abX:=top 23
abbrev Bk:abX:=top 24
abbrev Bl:abX:=top 25
abbrev Bm:abX:=top 26
abbrev Bn:abX:=top 27
abbrev Bo:abX:=top 29
abbrev Bp:abX:=top 30
abbrev Bq:abX:=top 31
abbrev Br:abX:=top 32
abbrev Bs:abX:=top 33
abbrev Bu:abX:=top 34
abbrev Bv:abX:=top 35
abbrev Bw:abX:=top 36
abbrev Bx:abX:=top 37
abbrev By:abX:=top 38
abbrev Bz:abX:=inClass (top 42) 0
abbrev BA:abX:=inClass (top 42) 1
abbrev BB:abX:=inClass (top 42) 2
abbrev BC:abX:=inClass (top 42) 3
abbrev BD:abX:=inClass (top 42) 4
abbrev BE:abX:=inClass (top 42) 6
abbrev BF:abX:=inClass (top 42) 9
abbrev BG:abX:=inClass (top 42) 10
abbrev BH:abX:=inClass (top 42) 11
abbrev BI:abX:=top 44
abbrev BJ:abX:=top 45
abbrev BK:abX:=top 46
abbrev BL:abX:=top 47
abbrev BM:abX:=top 48
abbrev BN:abX:=top 49
abbrev BO:abX:=top 51
abbrev BP:abX:=top 52
abbrev BQ:abX:=top 53
abbrev BR:abX:=top 54
abbrev BS:abX:=top 55
abbrev BV:abX:=top 56
abbrev BW:abX:=top 57
abbrev BX:abX:=top 58
abbrev BY:abX:=top 59
abbrev BZ:abX:=top 60
abbrev B0:abX:=top 61
abbrev B3:abX:=top 62
abbrev B4:abX:=top 63
abbrev B6:abX:=top 64
abbrev B7:abX:=top 65
abbrev B9:abX:=top 66
abbrev Ca:abX:=top 67
abbrev Cb:abX:=top 68
abbrev Cc:abX:=top 69
abbrev Cd:abX:=top 70
abbrev Ce:abX:=top 71
abbrev Cf:abX:=top 72
abbrev Cg:abX:=top 73
abbrev Ci:abX:=top 74
abbrev Cj:abX:=top 75
theorem Ck:Sc ["lo","hi"] ["lo","hi"] A5:=by walk_at "c"
theorem sF:Sc ["one","other","lo","hi"] ["one","other"] A6:=by walk_at "c"
theorem qk:Sc ["some","whole","one"] ["some"] A7:=by walk_at "c"
theorem Cm:Sc ["cell"] ["cell"] A8:=by walk_at "c"
theorem sH:Sc ["one","step","lo","hi"] ["one","step"] A9:=by walk_at "c"
theorem mz:Sc ["boxes","steps","kept","turn","box","left"] ["boxes","steps"] Ba:=by walk_at "c"
theorem Cn:Sc ["marks","turn"] ["marks","turn"] Bb:=by walk_at "c"
theorem sI:Sc ["steps","marks","forth","backward"] ["steps","marks"] Bc:=by walk_at "c"
theorem ou:Sc ["steps","marks","boxes","course","step","box"] ["steps","marks"] Be:=by walk_at "c"
theorem Co:Sc ["one","other"] ["one","other"] Bf:=by walk_at "c"
theorem Cp:Sc ["one","by"] ["one","by"] Bg:=by walk_at "c"
theorem mC:Sc ["steps","marks","tops","number","mark","turn"] ["steps","marks"] Bh:=by walk_at "c"
theorem ql:Sc ["tops","marks","number","mark","top"] ["tops","marks"] Bi:=by walk_at "c"
theorem Cq:Sc ["board","kind","turn"] ["board","kind","turn"] Bj:=by walk_at "c"
theorem wJ:Sc ["board","claim","part"] ["board","claim"] Bk:=by walk_at "c"
theorem Cr:Sc ["claim","kind","turn"] ["claim","kind","turn"] Bl:=by walk_at "c"
theorem wK:Sc ["board","claim","own"] ["board","claim"] Bm:=by walk_at "c"
theorem Cs:Sc ["board","claim"] ["board","claim"] Bn:=by walk_at "c"
theorem Ct:Sc ["board","eye"] ["board","eye"] Bo:=by walk_at "c"
theorem Cu:Sc ["board","some"] ["board","some"] Bp:=by walk_at "c"
theorem Cv:Sc ["board"] ["board"] Bq:=by walk_at "c"
theorem kh:Sc ["steps","groups","found","name","marks","tops","beside","others","pair"] ["steps","groups"] Br:=by walk_at "c"
theorem sJ:Sc ["board","found","pairs"] ["board"] Bs:=by walk_at "c"
theorem qm:Sc ["eyes","some","eye"] ["eyes"] Bu:=by walk_at "c"
theorem Cw:Sc ["pairs","some"] ["pairs","some"] Bv:=by walk_at "c"
theorem Cy:Sc ["pairs","some"] ["pairs","some"] Bw:=by walk_at "c"
theorem sL:Sc ["board","pairs","few"] ["board"] Bx:=by walk_at "c"
theorem wL:Sc ["board","some"] ["board"] By:=by walk_at "c"
theorem Cz:Sc ["self","eyes","turns","up","down","most"] ["self","eyes","turns","up","down","most"] Bz:=by walk_at "c"
theorem CA:Sc ["self","eye"] ["self","eye"] BA:=by walk_at "c"
theorem CB:Sc ["self","turn"] ["self","turn"] BB:=by walk_at "c"
theorem CC:Sc ["self","eye","turn","lo","hi"] ["self","eye","turn","lo","hi"] BC:=by walk_at "c"
theorem CD:Sc ["self","eye","turn"] ["self","eye","turn"] BD:=by walk_at "c"
theorem CF:Sc ["self"] ["self"] BE:=by walk_at "c"
theorem wM:Sc ["self","most","board"] ["self","most"] BF:=by walk_at "c"
theorem CG:Sc ["self","eye","turn"] ["self","eye","turn"] BG:=by walk_at "c"
theorem CH:Sc ["self","eye","turn"] ["self","eye","turn"] BH:=by walk_at "c"
theorem CI:Sc ["pairs","eye"] ["pairs","eye"] BI:=by walk_at "c"
theorem CJ:Sc ["pair"] ["pair"] BJ:=by walk_at "c"
theorem qo:Sc ["pairs","most","eye","others"] ["pairs","most"] BK:=by walk_at "c"
theorem CK:Sc ["pairs","eye","most"] ["pairs","eye","most"] BL:=by walk_at "c"
theorem mD:Sc ["pairs","most","one","other","first","second"] ["pairs","most"] BM:=by walk_at "c"
theorem mE:Sc ["board","claim","steps","goals","marks","pairs","aside"] ["board","claim"] BN:=by walk_at "c"
theorem sM:Sc ["_law_script","_law_k","_law_many","_law_cell"] ["_law_script","_law_k","_law_many"] BO:=by walk_at "c"
theorem sN:Sc ["_law_script","_law_k","_law_many","_law_cell"] ["_law_script","_law_k","_law_many"] BP:=by walk_at "c"
theorem c6:Sc ["_law_script","_law_way","_law_eyes","_law_turns","_law_most","_law_far","_law_up","_law_down"] ["_law_script"] BQ:=by walk_at "c"
theorem mF:Sc ["_law_script","_law_shape_here","_law_size","_law_number","_law_course_here","_law_k"] ["_law_script","_law_shape_here"] BR:=by walk_at "c"
theorem iK:Sc ["_law_script","_law_k","_law_far","_law_number","_law_false","_law_by","_law_lo","_law_hi","_law_end"] ["_law_script","_law_k","_law_far","_law_number","_law_false"] BS:=by walk_at "c"
theorem iL:Sc ["_law_script","_law_shape_here","_law_course_here","_law_told","_law_dense","_law_limit","_law_eye","_law_false","_law_turn","_law_k"] ["_law_script","_law_shape_here","_law_course_here"] BV:=by walk_at "c"
theorem ox:Sc ["_law_script","_law_shape_here","_law_told","_law_board_here","_law_spots","_law_eye","_law_turn"] ["_law_script","_law_shape_here","_law_told"] BW:=by walk_at "c"
theorem CL:Sc ["_law_span","_law_number"] ["_law_span","_law_number"] BX:=by walk_at "c"
theorem CM:Sc ["_law_found"] ["_law_found"] BY:=by walk_at "c"
theorem mG:Sc ["_law_lo","_law_hi","_law_claim","_law_kind","_law_turn","_law_sort","_law_at","_law_span"] ["_law_lo","_law_hi","_law_claim","_law_kind","_law_turn"] BZ:=by walk_at "c"
theorem CN:Sc ["_law_shape_here","_law_claim"] ["_law_shape_here","_law_claim"] B0:=by walk_at "c"
theorem CO:Sc ["_law_shape_here","_law_claim"] ["_law_shape_here","_law_claim"] B3:=by walk_at "c"
theorem qp:Sc ["_law_told","_law_course_here","_law_eyes","_law_eye","_law_turn"] ["_law_told","_law_course_here"] B4:=by walk_at "c"
theorem mH:Sc ["_law_course_here","_law_claim","_law_kind","_law_turn","_law_span","_law_number"] ["_law_course_here","_law_claim"] B6:=by walk_at "c"
theorem sO:Sc ["_law_found","_law_shape_here","_law_told","_law_claim","_law_number","_law_k"] ["_law_found","_law_shape_here","_law_told","_law_claim"] B7:=by walk_at "c"
theorem oy:Sc ["_law_steps_here","_law_one","_law_other","_law_total","_law_k"] ["_law_steps_here","_law_one","_law_other"] B9:=by walk_at "c"
theorem CP:Sc ["_law_steps_here","_law_one","_law_other"] ["_law_steps_here","_law_one","_law_other"] Ca:=by walk_at "c"
theorem CQ:Sc ["_law_place","_law_told","_law_goals_here","_law_aside"] ["_law_place","_law_told","_law_goals_here","_law_aside"] Cb:=by walk_at "c"
theorem sP:Sc ["_law_paper","_law_told","_law_known","_law_aside","_law_one","_law_other"] ["_law_paper","_law_told","_law_known","_law_aside"] Cc:=by walk_at "c"
theorem ju:Sc ["_law_paper","_law_told","_law_known","_law_aside","_law_steps_here","_law_goals_here","_law_most","_law_rows","_law_one","_law_other"] ["_law_paper","_law_told","_law_known","_law_aside"] Cd:=by walk_at "c"
theorem wN:Sc ["_law_answer","_law_shape_here","_law_told","_law_claim","_law_known"] ["_law_answer","_law_shape_here","_law_told","_law_claim"] Ce:=by walk_at "c"
theorem wO:Sc ["_law_board_here","_law_told","_law_spots"] ["_law_board_here","_law_told"] Cf:=by walk_at "c"
theorem wQ:Sc ["_law_script","_law_shape_here","_law_course_here","_law_told","_law_board_here","_law_spot"] ["_law_script","_law_shape_here","_law_course_here","_law_told","_law_board_here"] Cg:=by walk_at "c"
theorem oz:Sc ["_law_board_here","_law_shape_here","_law_told","_law_found","_law_allowed","_law_fewer","_law_answer"] ["_law_board_here","_law_shape_here","_law_told"] Ci:=by walk_at "c"
theorem mI:Sc ["_law_script","_law_shape_here","_law_course_here","_law_told","_law_board_here"] ["_law_script"] Cj:=by walk_at "c"
set_option genInjectivity false
set_option genSizeOf false
structure Tx(K:ZF)(mg:Str->Option ZP) where
 sQ:Fn K mg "is_crossed" A5 (aM Ck)
 sR:Fn K mg "meet" A6 (aM sF)
 sS:Fn K mg "common" A7 (aM qk)
 sT:Fn K mg "number_in" A8 (aM Cm)
 sU:Fn K mg "moved" A9 (aM sH)
 sV:Fn K mg "narrowed" Ba (aM mz)
 sW:Fn K mg "stretches_at" Bb (aM Cn)
 sX:Fn K mg "tube" Bc (aM sI)
 sY:Fn K mg "course_in" Be (aM ou)
 sZ:Fn K mg "lesser" Bf (aM Co)
 tf:Fn K mg "lifted" Bg (aM Cp)
 tj:Fn K mg "ceilings" Bh (aM mC)
 tm:Fn K mg "crossing" Bi (aM ql)
 tq:Fn K mg "has_part" Bj (aM Cq)
 jv:Fn K mg "check_claim" Bk (aM wJ)
 tu:Fn K mg "stretches_of" Bl (aM Cr)
 mJ:Fn K mg "paces" Bm (aM wK)
 mK:Fn K mg "wanted" Bn (aM Cs)
 tD:Fn K mg "marks_of" Bo (aM Ct)
 tE:Fn K mg "marks_without" Bp (aM Cu)
 tF:Fn K mg "groups_of" Bq (aM Cv)
 tG:Fn K mg "clashes" Br (aM kh)
 tH:Fn K mg "quarrels" Bs (aM sJ)
 tI:Fn K mg "choices" Bu (aM qm)
 tJ:Fn K mg "is_enough" Bv (aM Cw)
 tL:Fn K mg "is_lean" Bw (aM Cy)
 tM:Fn K mg "suspects" Bx (aM sL)
 tN:Fn K mg "least" By (aM wL)
 mL:Fm K "__init__" "Board.__init__" Bz (aM Cz)
 mM:Fm K "has_eye" "Board.has_eye" BA (aM CA)
 jw:Fm K "has_turn" "Board.has_turn" BB (aM CB)
 ly:Fm K "tell" "Board.tell" BC (aM CC)
 mO:Fm K "hush" "Board.hush" BD (aM CD)
 ki:Fm K "tellings" "Board.tellings" BE (aM CF)
 lz:Fm K "allowing" "Board.allowing" BF (aM wM)
 mP:Fm K "check_spot" "Board.check_spot" BG (aM CG)
 mQ:Fm K "check_word" "Board.check_word" BH (aM CH)
 jx:Fn K mg "without" BI (aM CI)
 mR:Fn K mg "eyes_of" BJ (aM CJ)
 jy:Fn K mg "put_aside" BK (aM qo)
 iM:Fn K mg "branch" BL (aM CK)
 iN:Fn K mg "paper" BM (aM mD)
 x_ask:Fn K mg "ask" BN (aM mE)
 tO:Fn K mg "_law_pick" BO (aM sM)
 tP:Fn K mg "_law_wide" BP (aM sN)
 tQ:Fn K mg "_law_shape" BQ (aM c6)
 tR:Fn K mg "_law_course" BR (aM mF)
 tS:Fn K mg "_law_word" BS (aM iK)
 tT:Fn K mg "_law_words" BV (aM iL)
 tU:Fn K mg "_law_board" BW (aM ox)
 tV:Fn K mg "_law_in" BX (aM CL)
 mS:Fn K mg "_law_whole" BY (aM CM)
 tW:Fn K mg "_law_common" BZ (aM mG)
 tX:Fn K mg "_law_steps" B0 (aM CN)
 tY:Fn K mg "_law_goals" B3 (aM CO)
 tZ:Fn K mg "_law_liars" B4 (aM qp)
 t7:Fn K mg "_law_met" B6 (aM mH)
 t8:Fn K mg "_law_walked" B7 (aM sO)
 t9:Fn K mg "_law_rise" B9 (aM oy)
 mT:Fn K mg "_law_clash" Ca (aM CP)
 jz:Fn K mg "_law_mark" Cb (aM CQ)
 lA:Fn K mg "_law_beyond" Cc (aM sP)
 fQ:Fn K mg "_law_refutes" Cd (aM ju)
 ua:Fn K mg "_law_right" Ce (aM wN)
 ue:Fn K mg "_law_same" Cf (aM wO)
 uf:Fn K mg "_law_deed" Cg (aM wQ)
 ug:Fn K mg "_law_least" Ci (aM oz)
 oA:Fn K mg "law" Cj (aM mI)
 U0:mg "all" = O
 U1:mg "any" = O
 U2:mg "bool" = O
 U3:mg "dict" = O
 wR:mg "enumerate" = O
 U4:mg "int" = O
 oB:mg "isinstance" = O
 cV:mg "len" = O
 wU:mg "list" = O
 CS:mg "max" = O
 mU:mg "min" = O
 fR:mg "range" = O
 U5:mg "reversed" = O
 JX:mg "set" = O
 uh:mg "sorted" = O
 wV:mg "tuple" = O
 U6:mg "zip" = O
 wW:ZX
 Zd:mg "GazeError" = U (.ref wW)
 lB:ZX
 CT:mg "NoBoard" = U (.ref lB)
 iO:ZX
 CU:mg "NoTelling" = U (.ref iO)
 lC:ZX
 U7:mg "NoClaim" = U (.ref lC)
 aI:ZX
 JY:mg "Board" = U (.ref aI)
 bf:fJ K aI
 mV:fU K aI "eyes"
 oE:fU K aI "turns"
 ui:fU K aI "up"
 uj:fU K aI "down"
 qq:fU K aI "most"
 kj:fU K aI "told"
 wX:Mk K aI mL.a
 U8:Meth K aI "has_eye" mM.a
 wY:Meth K aI "has_turn" jw.a
 JZ:Meth K aI "tell" ly.a
 U9:Meth K aI "hush" mO.a
 CV:Meth K aI "tellings" ki.a
 J0:Meth K aI "allowing" lz.a
 Va:Meth K aI "check_spot" mP.a
 Vb:Meth K aI "check_word" mQ.a
 uk:XC K lB
 um:XC K iO
 CW:XC K lC
 Vc:∃ t,mg "EYES_AT_MOST" = U (.int 7 t)
 Vd:∃ t,mg "TURNS_AT_MOST" = U (.int 12 t)
set_option genInjectivity true
set_option genSizeOf true
section
seal L2.PE L2.PS L2.aX L2.PA
inductive Ve(K:ZF)(vs:List V)(H:Hp)(Q:VK)(aR:XK):Prop
 | mk(a:ZX)(ns:List Int)(k m:Int)(_:vs=[.ref a,.int k,.int m])(_:ah K H a (ns.map V.int))(_:gN ns)(_:(-1000000<=k/\k<=1000000))(_:0<m)(_:∀ p:Int,0<=p->p<m->Q (.int p) H)
theorem cW(T:Tx K mg):Ok P w base 1 T.tO (Ve K):=by
 refine a9 sM ?_;rintro _ _ _ _ H _ Q _ _ ⟨a,ns,k,m,rfl,hS,hn,hk,hm,q⟩;refine#[_,(ao (aD 3 sM.nd af) (ao (aJ (iI (bp dg (by rfl) T.cV cQ (ae (aa 0) ag)) af) (au (aD 3 sM.nd (ay (aa 0) (aC lx (aa 1) (bp dg (by rfl) T.cV cQ (ae (aa 0) ag)))))) aK) (au (aB (aC lx (aC lx (aC lx (aC sD (aC bh (aa 3) af) (aC bh (aC bh (aa 3) af) (aC sD (aa 1) (aa 1)))) af) af) (aa 2)))))),?_];rfl';refine#[_,dN hS,?_];rw[ZJ];have pm:=Pz hn hk;have fin:∀ x:Int,Q (.int (x % 2147483629 % 999983 % m)) H:=λx=>q _ (af6 _ (by lia)) (aeP _ hm);split
 .rename_i h;refine#[_,dN hS,?_];rw[ZJ];refine#[h,aN hS (GD h) ?_];rfl';exact#[pm.1,pm.2,hm,fin _]
 .rename_i h;have e:fX ns k=0:=if_neg h;rw[e] at pm;exact#[pm.1,pm.2,hm,fin _]
inductive Vf(K:ZF)(vs:List V)(H:Hp)(Q:VK)(aR:XK):Prop
 | mk(a:ZX)(ns:List Int)(k m:Int)(_:vs=[.ref a,.int k,.int m])(_:ah K H a (ns.map V.int))(_:gN ns)(_:(-1000000<=k/\k<=1000000))(_:0<m)(_:∀ p:Int,0<=p->p<m->Q (.int p) H)
theorem CY(T:Tx K mg):Ok P w base 2 T.tP (Vf K):=by
 refine a9 sN ?_;rintro _ _ _ _ H _ Q _ hr ⟨a,ns,k,m,rfl,hS,hn,hk,hm,q⟩;refine#[_,(ao (aD 3 sN.nd af) (ao (aJ (iI (bp dg (by rfl) T.cV cQ (ae (aa 0) ag)) af) (au (aD 3 sN.nd (ay (aa 0) (aC lx (aa 1) (bp dg (by rfl) T.cV cQ (ae (aa 0) ag)))))) aK) (au (aB (aC lx (aC bh (aA (cW T) hr (ae (aa 0) (ae (aa 1) (ae af ag)))) (aC sD (aC sD (aC sD af (aa 3)) (aa 3)) (aa 3))) (aa 2)))))),?_];rfl';refine#[_,dN hS,?_];rw[ZJ];have pm:=PB hn k;have fin:∀ x:Int,Q (.int (x % m)) H:=λx=>q _ (af6 _ (by lia)) (aeP _ hm);split
 .rename_i h;refine#[_,dN hS,?_];rw[ZJ];refine#[h,aN hS (GD h) ?_];rfl';refine#[a,ns,k,999983,Y,hS,hn,hk,by decide,λp _ _=>?_];rfl';exact#[pm.1,pm.2.1,pm.2.2,hm,fin _]
 .rename_i h;have e:fX ns k=0:=if_neg h;rw[e] at pm;refine#[a,ns,k,999983,Y,hS,hn,hk,by decide,λp _ _=>?_];rfl';exact#[pm.1,pm.2.1,pm.2.2,hm,fin _]
inductive Vg(vs:List V)(H:Hp)(Q:VK)(aR:XK):Prop
 | mk(v:V)(_:vs=[v])(_:(v = .non ∨ ∃ i,v = .int i))(_:Q (.bl (isWhole v)) H)
theorem uo(T:Tx K mg):Ok P w base 1 T.mS Vg:=by
 refine a9 CM ?_;rintro y y y y y y y y y ⟨v,rfl,hv,q⟩;refine#[_,(au (aB (jr (bp nz (by rfl) T.oB ny (ae (aa 0) (ae (ng (v:=.ty "int") Y T.U4 NK Y) ag))) (iV (JO (bp nz (by rfl) T.oB ny (ae (aa 0) (ae (ng (v:=.ty "bool") Y T.U2 NL Y) ag)))))))),?_];rcases hv with rfl|⟨i,rfl⟩
 .rfl';exact q
 .rfl';exact q
inductive Vh(vs:List V)(H:Hp)(Q:VK)(aR:XK):Prop
 | mk(a b:En)(_:vs=[ev a,ev b])(_:Q (.bl (aS a b)) H)
theorem J1(T:Tx K mg):Ok P w base 1 T.sQ Vh:=by
 refine a9 Ck ?_;rintro z z z z z z z z z ⟨a,b,rfl,q⟩;refine#[_,(au (aB (jr (qK (xO (aa 0))) (jr (qK (xO (aa 1))) (iV (ig (oq uY) (aa 0) (aa 1) (ff _))))))),?_];rcases a with z|x
 .rfl';exact q
 rcases b with z|y
 .rfl';exact q
 rfl';exact q
inductive Vi(vs:List V)(H:Hp)(Q:VK)(aR:XK):Prop
 | mk(v u:V)(a b c d:En)(_:vs=[v,u])(_:aP H v a b)(_:aP H u c d)(_:∀ x H',aj H H'->Gx H' x (dA a c) (dB b d)->Q x H')
theorem CZ(T:Tx K mg):Ok P w base 2 T.sR Vi:=by
 refine a9 sF ?_;rintro y y y y H y Q y hr ⟨v,u,a,b,c,d,rfl,⟨p,rfl,hp⟩,⟨r,rfl,bJ⟩,q⟩;refine#[_,(ao (aD 2 sF.nd (OI Y Y T.CS (eX (cO [] []) Y (xS (ba (ae (ay (aa 0) af) (ae (ay (aa 1) af) ag)))) (λC s2 H2 ex pn=>#[(i6 (ee (aa 0))),(aa 0)])) bT)) (ao (aD 3 sF.nd (OL Y Y T.mU (eX (cO [] []) Y (xS (ba (ae (ay (aa 0) af) (ae (ay (aa 1) af) ag)))) (λC s2 H2 ex pn=>#[(i6 (ee (aa 0))),(aa 0)])) bT)) (ao (aJ (cT (aA (J1 T) hr (ae (aa 2) (ae (aa 3) ag)))) (au (aB bT)) aK) (au (aB (ba (ae (aa 2) (ae (aa 3) ag)))))))),?_];rfl';refine br hp (br bJ ?_);rfl';refine#[bg,λt ht=>#[#[_,aw.of ar],Gy ar (λx H Q h=>?_) (λx H Q h=>?_) λl hl=>?_]]
 .rfl';exact JA (Q:=λk=>Q k H) h
 .rfl';exact h
 refine#[l,Y,nums a c,ah.of ar,?_];rw[Po];have s2:=(aq (o:=.tup [ev a,ev c]) ht).trans (aq (o:=.lst ((nums a c).map V.int)) hl);generalize upd (upd H t (.tup [ev a,ev c])) l (.lst ((nums a c).map V.int))=H2 at s2 ⊢;refine br (s2 _ _ hp) (br (s2 _ _ bJ) ?_);rfl';refine#[bg,λt' Vj=>#[#[_,aw.of ar],Gy ar (λx H Q h=>?_) (λx H Q h=>?_) λl' iD=>?_]]
 .rfl';exact JA (Q:=λk=>Q k H) h
 .rfl';exact h
 refine#[l',Y,nums b d,ah.of ar,?_];rw[Pq];have s3:=s2.trans ((aq (o:=.tup [ev b,ev d]) Vj).trans (aq (o:=.lst ((nums b d).map V.int)) iD));generalize upd (upd H2 t' (.tup [ev b,ev d])) l' (.lst ((nums b d).map V.int))=H3 at s3 ⊢;refine#[_,_,Y,?_];cases hc:aS (dA a c) (dB b d) with
 | true =>
  rfl';exact q _ _ s3 #[λy=>rfl,λz=>nomatch hc.symm.trans z]
 | false =>
  rfl';exact#[bg,λp' cC=>q _ _ (s3.trans (aq cC)) #[λz=>(nomatch hc.symm.trans z),λy=>aP.new]]
def eO(e t u d m:Int):Prop:=(1<=e/\e<=7)/\(1<=t/\t<=12)/\0<=u/\0<=d/\0<=m/\m<=e
noncomputable def uq(e t u d m:Int)(p:ZX):List (Str × V):=[("eyes",.int e),("turns",.int t),("up",.int u),("down",.int d),("most",.int m),("told",.ref p)]
inductive Vk(B C:ZX)(vs:List V)(H:Hp)(Q:VK)(E:XK):Prop
 | mk(x dx:ZX)(e t u d m:Int)(_:vs=[.ref x,.int e,.int t,.int u,.int d,.int m])(_:H x=U (.ins B dx []))(_:(¬ eO e t u d m->E (.ref C) O H))(_:(eO e t u d m->∀ p H',H p=O->SameBut x H H'->H' x=U (.ins B dx (uq e t u d m p))->H' p=U (.dT [])->Q .non H'))
theorem J5(T:Tx K mg):Om P w mg base 1 T.mL (Vk T.aI T.lB):=by
 refine qj Cz ?_;rintro y y y y H y y E y ⟨x,dx,e,t,u,d,m,rfl,hx,q0,q⟩;refine#[_,(ao (aJ (PW.pt (b9 (c9 (wF gE gE af (aa 1) (Hh T.Vc Y))) (dm (c9 (wF gE gE af (aa 2) (Hh T.Vd Y)))))) (au (nB nC Y T.CT T.uk Y (ae b8 ag))) aK) (ao (aJ (PW.pt (b9 (my (aa 3) af) (dm (my (aa 4) af)))) (au (nB nC Y T.CT T.uk Y (ae b8 ag))) aK) (ao (aJ (c9 (wF gE gE af (aa 5) (aa 1))) (au (nB nC Y T.CT T.uk Y (ae b8 ag))) aK) (ao (ot (aa 0) (aa 1) Y) (ao (ot (aa 0) (aa 2) Y) (ao (ot (aa 0) (aa 3) Y) (ao (ot (aa 0) (aa 4) Y) (ao (ot (aa 0) (aa 5) Y) (au (ot (aa 0) Hg Y)))))))))),?_];have no:∀ D J,¬ eO e t u d m->∀ x,Fj T.lB E (x9 (tC (.str x)) vd) D J H:=λD J z x=>#[by show 1<=aah;decide,q0 z]
 refine aH (λJ H1=>J=[U (.ref x),U (.int e),U (.int t),U (.int u),U (.int d),U (.int m)]/\H=H1/\(1<=e/\e<=7)/\1<=t/\t<=12) (λN hN=>?_) ?_
 .rfl';exact aZ (λh1=>aZ (λh2=>aZ (λh3=>aZ (λh4=>hN _ _ #[Y,Y,#[h1,h2],h3,h4]) λh4=>no _ _ (λz=>by unfold eO at z;lia) _) λh3=>no _ _ (λz=>by unfold eO at z;lia) _) λh2=>no _ _ (λz=>by unfold eO at z;lia) _) λh1=>no _ _ (λz=>by unfold eO at z;lia) _
 rintro y yR J y ⟨rfl,rfl,e1,t1⟩;subst yR;refine aH (λJ H1=>J=[U (.ref x),U (.int e),U (.int t),U (.int u),U (.int d),U (.int m)]/\H=H1/\0<=u/\0<=d) (λN hN=>?_) ?_
 .rfl';exact aZ (λh5=>no _ _ (λz=>by unfold eO at z;lia) _) λh5=>aZ (λh6=>no _ _ (λz=>by unfold eO at z;lia) _) λh6=>hN _ _ #[Y,Y,by lia,by lia]
 rintro y yR J y ⟨rfl,rfl,u1,d1⟩;subst yR;refine aH (λJ H1=>J=[U (.ref x),U (.int e),U (.int t),U (.int u),U (.int d),U (.int m)]/\H=H1/\0<=m/\m<=e) (λN hN=>?_) ?_
 .rfl';exact aZ (λh7=>aZ (λh8=>hN _ _ #[Y,Y,h7,h8]) λh8=>no _ _ (λz=>by unfold eO at z;lia) _) λh7=>no _ _ (λz=>by unfold eO at z;lia) _
 rintro y yR J y ⟨rfl,rfl,m1⟩;subst yR;replace q:=q #[e1,t1,u1,d1,m1];rfl';refine#[_,_,_,hx,T.bf,T.mV,(by show 0<1000;decide),_,_,_,ar,T.bf,T.oE,(by show 1<1000;decide),_,_,_,ar,T.bf,T.ui,(by show 2<1000;decide),_,_,_,ar,T.bf,T.uj,(by show 3<1000;decide),_,_,_,ar,T.bf,T.qq,(by show 4<1000;decide),?_];rw[uK,uK,uK,uK];intro p hp;have J6:p≠x:=λz=>by rw[z,ar] at hp;cases hp
 refine#[_,_,_,(aq hp) _ _ ar,T.bf,T.kj,(by show 5<1000;decide),q p _ (by rw[aF J6] at hp;exact hp) (λb o hb e=>?_) ar ?_]
 .rw[aF hb];exact (aq hp) _ _ (by rw[aF hb];exact e)
 .rw[aF J6,ar]
structure gh(B:ZX)(H:Hp)(x:ZX)(e t u d m:Int)(p:ZX)(kvs:List (List Key × V)):Prop where
 ob:∃ dx,H x=U (.ins B dx (uq e t u d m p))
 tb:H p=U (.dT kvs)
theorem gh.same(h:gh B H x e t u d m p kvs)(s:aj H H'):gh B H' x e t u d m p kvs:=let ⟨⟨dx,a⟩,b⟩:=h;#[#[dx,s _ _ a],s _ _ b]
inductive Vl(B:ZX)(vs:List V)(H:Hp)(Q:VK)(aR:XK):Prop
 | mk(x p:ZX)(e t u d m i:Int)(kvs:List (List Key × V))(_:vs=[.ref x,.int i])(_:gh B H x e t u d m p kvs)(_:Q (.bl (decide (0<=i/\i<e))) H)
inductive Vm(B:ZX)(vs:List V)(H:Hp)(Q:VK)(aR:XK):Prop
 | mk(x p:ZX)(e t u d m i:Int)(kvs:List (List Key × V))(_:vs=[.ref x,.int i])(_:gh B H x e t u d m p kvs)(_:Q (.bl (decide (0<=i/\i<t))) H)
theorem Vn(T:Tx K mg):Om P w mg base 1 T.mM (Vl T.aI):=by
 refine A0 CA ?_;rintro y y y y y y y y y ⟨x,p,e,t,u,d,m,i,kvs,rfl,⟨⟨dx,hx⟩,hp⟩,q⟩;refine#[_,(au (aB (x6 gE qV af (aa 1) (dw Y (aa 0) Y)))),?_];rfl';refine aZ (λh1=>?_) λh1=>?_
 .refine#[_,_,_,hx,T.bf,T.mV,_,Y,?_];rfl';rw[show decide (0<=i/\i<e)=decide (i<e) by simp[h1]] at q;exact q
 .rw[show decide (0<=i/\i<e)=false by simp[h1]] at q;exact q
theorem wZ(T:Tx K mg):Om P w mg base 1 T.jw (Vm T.aI):=by
 refine A0 CB ?_;rintro y y y y y y y y y ⟨x,p,e,t,u,d,m,i,kvs,rfl,⟨⟨dx,hx⟩,hp⟩,q⟩;refine#[_,(au (aB (x6 gE qV af (aa 1) (dw Y (aa 0) Y)))),?_];rfl';refine aZ (λh1=>?_) λh1=>?_
 .refine#[_,_,_,hx,T.bf,T.oE,_,Y,?_];rfl';rw[show decide (0<=i/\i<t)=decide (i<t) by simp[h1]] at q;exact q
 .rw[show decide (0<=i/\i<t)=false by simp[h1]] at q;exact q
inductive Vo(B C:ZX)(vs:List V)(H:Hp)(Q:VK)(E:XK):Prop
 | mk(x p:ZX)(e t u d m i j:Int)(kvs:List (List Key × V))(_:vs=[.ref x,.int i,.int j])(_:gh B H x e t u d m p kvs)(_:(¬ ((0<=i/\i<e)/\0<=j/\j<t)->E (.ref C) O H))(_:((0<=i/\i<e)/\0<=j/\j<t->Q .non H))
theorem Vp(T:Tx K mg):Om P w mg base 2 T.mP (Vo T.aI T.iO):=by
 refine qj CG ?_;rintro y y y y y y y y hr ⟨x,p,e,t,u,d,m,i,j,kvs,rfl,hb,q0,q⟩;refine#[_,(au (aJ (PW.pt (b9 (c9 (cT (ij (aa 0) T.bf T.U8 (Vn T) hr.m T.mM.b .nil cg (ae (aa 1) ag)))) (dm (c9 (cT (ij (aa 0) T.bf T.wY (wZ T) hr.m T.jw.b .nil cg (ae (aa 2) ag))))))) (au (nB nC Y T.CU T.um Y (ae b8 ag))) aK)),?_];obtain⟨⟨dx,hx⟩,hp⟩:=id hb;rfl';refine#[_,_,hx,Y,x,p,e,t,u,d,m,i,kvs,Y,hb,?_];by_cases h1:0<=i/\i<e
 .rw[decide_eq_true h1];rfl';refine#[_,_,hx,Y,x,p,e,t,u,d,m,j,kvs,Y,hb,?_];by_cases h2:0<=j/\j<t
  .rw[decide_eq_true h2];rfl';exact q #[h1,h2]
  .rw[decide_eq_false h2];rfl';exact#[by decide,q0 λz=>h2 z.2]
 .rw[decide_eq_false h1];rfl';exact#[by decide,q0 λz=>h1 z.1]
inductive Vq(B C:ZX)(vs:List V)(H:Hp)(Q:VK)(E:XK):Prop
 | mk(x p:ZX)(e t u d m i j:Int)(kvs:List (List Key × V))(_:vs=[.ref x,.int i,.int j])(_:gh B H x e t u d m p kvs)(_:(bN kvs (aU i j)=O->∀ H',aj H H'->E (.ref C) O H'))(_:(∀ v,bN kvs (aU i j)=U v->∀ H',aj H H'->Q .non H'))
theorem Vr(T:Tx K mg):Om P w mg base 1 T.mQ (Vq T.aI T.iO):=by
 refine qj CH ?_;rintro y y y y y y y y hr ⟨x,p,e,t,u,d,m,i,j,kvs,rfl,hb,q0,q⟩;refine#[_,(au (aJ (qL (GS (dt hr) (ba (ae (aa 1) (ae (aa 2) ag))) (dw Y (aa 0) Y))) (au (nB nC Y T.CU T.um Y (ae b8 ag))) aK)),?_];obtain⟨⟨dx,hx⟩,hp⟩:=id hb;rfl';refine#[bg,λk hk=>#[_,_,_,(aq hk) _ _ hx,T.bf,T.kj,_,Y,p,Y,bN kvs (aU i j),cJ.t (k:=aU i j) ((aq hk) _ _ hp) ar,?_]];cases hv:bN kvs (aU i j) with
 | none=>exact#[by decide,q0 hv _ (aq hk)]
 | some v=>exact q v hv _ (aq hk)
inductive C0(B C:ZX)(vs:List V)(H:Hp)(Q:VK)(E:XK):Prop
 | mk(x p:ZX)(e t u d m i j:Int)(lo hi:En)(kvs:List (List Key × V))(_:vs=[.ref x,.int i,.int j,ev lo,ev hi])(_:gh B H x e t u d m p kvs)(_:kvs.length<1000)(_:(¬ (((0<=i/\i<e)/\0<=j/\j<t)/\aS lo hi=false)->E (.ref C) O H))(_:(((0<=i/\i<e)/\0<=j/\j<t)/\aS lo hi=false->∀ v H',SameBut p H H'->H' p=U (.dT (putK kvs (aU i j) v))->aP H' v lo hi->Q .non H'))
theorem J9(T:Tx K mg):Om P w mg base 3 T.ly (C0 T.aI T.iO):=by
 refine qj CC ?_;rintro c c c c c c c c hr ⟨x,p,e,t,u,d,m,i,j,lo,hi,kvs,rfl,hb,hl,q0,q⟩;refine#[_,(ao (eS (ij (aa 0) T.bf T.Va (Vp T) hr.m T.mP.b .nil nD (ae (aa 1) (ae (aa 2) ag)))) (ao (aJ (cT (aA (J1 T) hr (ae (aa 3) (ae (aa 4) ag)))) (au (nB nC Y T.CU T.um Y (ae b8 ag))) aK) (au (zD (dt hr) (dw Y (aa 0) Y) (ba (ae (aa 1) (ae (aa 2) ag))) (ba (ae (aa 3) (ae (aa 4) ag))) Y)))),?_];obtain⟨⟨dx,hx⟩,hp⟩:=id hb;rfl';refine#[_,_,hx,Y,x,p,e,t,u,d,m,i,j,kvs,Y,hb,λz=>q0 λy=>z y.1,λbq=>?_];refine#[lo,hi,Y,?_];cases hc:aS lo hi with
 | true =>
  rfl';exact#[by decide,q0 λz=>by rw[hc] at z;cases z.2]
 | false =>
  rfl';refine#[bg,λv hv=>#[_,_,_,(aq hv) _ _ hx,T.bf,T.kj,_,Y,bg,λk hk=>?_]];have s2:=(aq (o:=.tup [ev lo,ev hi]) hv).trans (aq (o:=.tup [.int i,.int j]) hk);refine#[p,Y,_,kP.t (k:=aU i j) (s2 _ _ hp) ar (aht hl (by decide)),q #[bq,hc] (.ref v) _ (λb o fi e=>?_) ar #[v,Y,?_]]
  .rw[aF fi];exact s2 _ _ e
  .have vp:v≠p:=λz=>by rw[z] at hv;rw[hp] at hv;cases hv
   rw[aF vp];exact (aq hk) _ _ ar
structure dj(B:ZX)(H:Hp)(x:ZX)(e t u d m:Int)(p:ZX)(tb:Tb):Prop where
 ob:∃ dx,H x=U (.ins B dx (uq e t u d m p))
 tb:TabAt H p tb
theorem dj.same{B:ZX}{H H':Hp}{x p:ZX}{e t u d m:Int}{tb:Tb}(h:dj B H x e t u d m p tb)(s:aj H H'):dj B H' x e t u d m p tb:=let ⟨⟨dx,a⟩,b⟩:=h;#[#[dx,s _ _ a],b.same s]
inductive Vs(B C:ZX)(vs:List V)(H:Hp)(Q:VK)(E:XK):Prop
 | mk(x p:ZX)(e t u d m i j:Int)(kvs:List (List Key × V))(_:vs=[.ref x,.int i,.int j])(_:gh B H x e t u d m p kvs)(_:(bN kvs (aU i j)=O->∀ H',aj H H'->E (.ref C) O H'))(_:(∀ v,bN kvs (aU i j)=U v->∀ H',SameBut p H H'->H' p=U (.dT (kO kvs (aU i j)))->Q .non H'))
theorem Vt(T:Tx K mg):Om P w mg base 2 T.mO (Vs T.aI T.iO):=by refine qj CD ?_;rintro y y y y y y y y hr ⟨x,p,e,t,u,d,m,i,j,kvs,rfl,hb,q0,q⟩;refine#[_,(ao (eS (ij (aa 0) T.bf T.Vb (Vr T) hr.m T.mQ.b .nil nD (ae (aa 1) (ae (aa 2) ag)))) (au (eS (Hd (dt hr) (dw Y (aa 0) Y) (ba (ae (aa 1) (ae (aa 2) ag))) #[Y,Y,Y,Y])))),?_];obtain⟨⟨dx,hx⟩,hp⟩:=id hb;rfl';refine#[_,_,hx,Y,x,p,e,t,u,d,m,i,j,kvs,Y,hb,q0,λv hv H1 s1=>?_];have nV:=s1 _ _ hx;have fS:=s1 _ _ hp;rfl';refine#[_,_,_,nV,T.bf,T.kj,_,Y,p,Y,.inr #[kvs,.inl fS],bg,λk hk=>?_];refine#[kvs,(aq hk) _ _ fS,aU i j,ar,v,hv,q v hv _ (λb o fi e=>?_) ar];rw[aF fi];exact (aq hk) _ _ (s1 _ _ e)
inductive Vu(B:ZX)(vs:List V)(H:Hp)(Q:VK)(aR:XK):Prop
 | mk(x p:ZX)(e t u d m:Int)(tb:Tb)(_:vs=[.ref x])(_:dj B H x e t u d m p tb)(_:(tb.map (·.1)).Nodup)(_:tb.length<64)(_:∀ l xs H',aj H H'->H l=O->H' l=U (.lst xs)->ax (fO H') xs (jd tb)->Q (.ref l) H')
theorem C1(T:Tx K mg):Om P w mg base 1 T.ki (Vu T.aI):=by
 refine A0 CF ?_;rintro v v v s H v Q v hr ⟨x,p,e,t,u,d,m,tb,rfl,⟨⟨dx,hx⟩,kvs,hp,hT⟩,hn,bO,q⟩;refine#[_,(au (aB (eX (cO [0] ["self"]) Y (df (bp (Qd Y) (by rfl) T.uh rg (ae (dw Y (aa 0) Y) ag))) (λC s2 H2 ex pn=>#[fV,(ba (ae (di (K:=K) (aa 0) af) (ae (di (K:=K) (aa 0) af) (ae (Hi (dt hr) (dw (K:=K) Y (aa 1) Y) (aa 0) (λv v=>rfl)) ag))))])))),?_];rfl';refine#[_,_,_,hx,T.bf,T.kj,_,Y,p,Y,kvs,hp,gR tb,Qr hT,Qs,by rw[hT.len];exact bO,λl ys hl hk=>?_];have PS:=Hn hT hk;have s1:=aq (o:=.lst (b7 (gR tb) .non ys)) hl;have L1:upd H l (.lst (b7 (gR tb) .non ys)) l=U (.lst (b7 (gR tb) .non ys)):=ar;generalize upd H l (.lst (b7 (gR tb) .non ys))=H1 at s1 L1 ⊢;refine#[#[_,ah.of L1],d8 jN (ZQ (by rw[PS.len,kS];exact adK bO:_<=64) (by decide)) (fW (R:=λH x (r:P2 × S2)=>bC H x r.1) (R':=λH y (r:P2 × S2)=>fO H y r) (f:=λr=>r) (bs:=[]) (λv v v v s r=>bC.same r s) (λv v v v s r=>fO.same r s) (PS.imp λx r z=>bC.same z s1) trivial (λH' s'=>ah.of (s' _ _ L1)) (λx r v H' s' bJ Q h=>?_) (λx r bJ H' s' h0 Q h=>?_) λH2 zs s2 hz=>?_)]
 .rfl';exact h
 .obtain⟨a,rfl,ha⟩:=id h0;have S:=s1.trans s';have qr:=hT.imp λv a b z=>aP.same z S;obtain⟨w,hw,iw⟩:=(qr.val r.1).2 _ (pP hn (nQ bJ));rfl';refine aE (aw.of ha) Y (aE (aw.of ha) Y #[_,_,_,S _ _ hx,T.bf,T.kj,_,Y,p,Y,w,?_,?_])
  .rw[<- hw];exact cJ.t (k:=aU r.1.1 r.1.2) (S _ _ hp) ha
  .exact#[by decide,λz hz=>h _ _ (aq hz) #[z,w,Y,ar,aP.same iw (aq hz)]]
 rw[aal,agk] at hz;exact λl2 cf=>q l2 zs _ (s1.trans (s2.trans (aq cf))) ((s1.trans s2).free cf) ar (hz.imp λx r z=>fO.same z (aq cf))
inductive Vv(B N:ZX)(vs:List V)(H:Hp)(Q:VK)(E:XK):Prop
 | mk(x p:ZX)(e t u d m mo:Int)(tb:Tb)(_:vs=[.ref x,.int mo])(_:dj B H x e t u d m p tb)(_:bF e t tb)(_:(¬ eO e t u d mo->∀ H',aj H H'->E (.ref N) O H'))(_:(eO e t u d mo->∀ x' p' H',aj H H'->H x'=O->H p'=O->dj B H' x' e t u d mo p' tb->Q (.ref x') H'))
theorem Ka(T:Tx K mg):Om P w mg base 3 T.lz (Vv T.aI T.lB):=by
 refine qj wM ?_;rintro y y y y H y y y hr ⟨x,p,e,t,u,d,m,mo,tb,rfl,hb,ak,q0,q⟩;refine#[_,(ao (aD 2 wM.nd (EE T.wX (J5 T) hr.m Y T.JY T.mL.b .nil nD (ae (dw Y (aa 0) Y) (ae (dw Y (aa 0) Y) (ae (dw Y (aa 0) Y) (ae (dw Y (aa 0) Y) (ae (aa 1) ag))))))) (ao (ot (aa 2) (ye Qm (by rfl) T.U3 NM (ae (dw Y (aa 0) Y) ag)) Y) (au (aB (aa 2))))),?_];obtain⟨⟨dx,hx⟩,kvs,hp,hT⟩:=id hb;rfl';refine#[_,_,_,hx,T.bf,T.mV,_,Y,_,_,_,hx,T.bf,T.oE,_,Y,_,_,_,hx,T.bf,T.ui,_,Y,_,_,_,hx,T.bf,T.uj,_,Y,λx' Kb cX Vw bY=>?_];have M:=GW (C:=T.aI) (fs:=[]) cX Vw bY;refine#[x',Kb,e,t,u,d,mo,Y,ar,λz=>q0 z _ M,λhk p' H1 cC s1 X1 P1=>#[Y,?_]];have S1:aj H H1:=λb o e=>s1 b o (λz=>by rw[z,cX] at e;cases e) (M _ _ e);have k1:=hk.1;have k2:=hk.2.1;refine#[_,_,_,S1 _ _ hx,T.bf,T.kj,_,Y,p,Y,kvs,S1 _ _ hp,Qy hT ak (by lia) (by lia),λl hl=>?_];have s2:=aq (o:=.dT kvs) hl;refine#[_,_,_,s2 _ _ X1,T.bf,T.kj,(by show 6<1000;decide),?_];have nl:l≠x':=λz=>by rw[z,X1] at hl;cases hl
 have S2:aj H (upd (upd H1 l (.dT kvs)) x' (.ins T.aI Kb (eI "told" (.ref l) (uq e t u d mo p')))):=jK cX (S1.trans s2);exact q hk x' l _ S2 cX (S1.free hl) #[#[_,ar],kvs,by rw[aF nl];exact ar,hT.imp λv a b z=>aP.same z S2]
inductive Vx(K:ZF)(vs:List V)(H:Hp)(Q:VK)(aR:XK):Prop
 | mk(a:ZX)(xs:List V)(ss:List S2)(_:vs=[.ref a])(_:ah K H a xs)(_:lX H xs ss)(_:xs.length<=1000)(_:∀ v H',aj H H'->cF H' v (cK (O,O) ss)->Q v H')
inductive Vy(K:ZF)(H:Hp)(a:ZX)(xs:List V)(ss:List S2)(i:Nat)(J:St)(H1:Hp):Prop
 | mk(v:V)(e:Option V)(_:J=[U (.ref a),U v,e])(_:aj H H1)(_:aP H1 v (bz (O,O) (ss.take i)).1 (bz (O,O) (ss.take i)).2)(_:aS (bz (O,O) (ss.take i)).1 (bz (O,O) (ss.take i)).2=false)
theorem C2(T:Tx K mg):Ok P w base 3 T.sS (Vx K):=by
 refine a9 qk ?_;rintro z z z z H z z z hr ⟨a,xs,ss,rfl,hS,hP,hn,q⟩;refine#[_,(ao (aD 1 qk.nd (ba (ae bT (ae bT ag)))) (ao (dq aav Y (df (aa 0)) (bQ 2 qk.nd) (ao (aD 1 qk.nd (aA (CZ T) hr (ae (aa 1) (ae (aa 2) ag)))) (au (aJ (dG (aa 1)) (au (aB bT)) aK)))) (au (aB (aa 1))))),?_];have hA:=l6.mp hP;have hl:=hA.len;rfl';refine#[bg,λp hp=>?_];have s0:=aq (o:=.tup [.non,.non]) hp;refine#[#[_,s0.seq hS],kE (xs:=xs) (Vy K H a xs ss) #[_,_,Y,s0,#[p,Y,ar],Y] ?_ ?_ ?_]
 .rintro i J H1 z ⟨z,z,z,s1,z⟩;exact s1.seq hS
 .rintro i x J H1 hx ⟨v,e,rfl,s1,hv,hc⟩;obtain⟨w,hw,r⟩:=hA.get hx;have e1:=QC (e:=(O,O)) hw;rfl';refine#[v,x,_,_,w.1,w.2,Y,hv,r.same s1,λy H2 s2 hm=>?_];have jZ:Gx H2 y (bz (O,O) (ss.take (i+1))).1 (bz (O,O) (ss.take (i+1))).2:=by rw[e1];exact hm
  cases hk:aS (bz (O,O) (ss.take (i+1))).1 (bz (O,O) (ss.take (i+1))).2 with
  | true =>
   have ey:=jZ.1 hk;subst ey;rfl';refine q _ _ (s1.trans s2) ?_;unfold cK;rw[if_pos (QA hk)];rfl
  | false =>
   have hy:=jZ.2 hk;obtain⟨t,rfl,ht⟩:=id hy;rfl';exact#[_,_,Y,s1.trans s2,hy,hk]
 .rintro J H1 ⟨v,e,rfl,s1,hv,hc⟩;rfl';rw[hl,abv] at hv hc;refine q _ _ s1 ?_;unfold cK;rw[if_neg (by rw[hc];simp)];exact hv
inductive Vz(B:ZX)(vs:List V)(H:Hp)(Q:VK)(aR:XK):Prop
 | mk(x p:ZX)(e t u d m i:Int)(k:Str)(kvs:List (List Key × V))(_:vs=[.ref x,.str k,.int i])(_:gh B H x e t u d m p kvs)(_:Q (.bl (hasB t k i)) H)
theorem VA(T:Tx K mg):Ok P w base 2 T.tq (Vz T.aI):=by
 refine a9 Cq ?_;rintro y y y y y y y y hr ⟨x,p,e,t,u,d,m,i,k,kvs,rfl,hb,q⟩;refine#[_,(ao (aJ (cG (aa 1) b8) (au (aB (jr (ij (aa 0) T.bf T.wY (wZ T) hr.m T.jw.b .nil cg (ae (aa 2) ag)) (iV (ij (aa 0) T.bf T.wY (wZ T) hr.m T.jw.b .nil cg (ae (aC bh (aa 2) af) ag)))))) aK) (au (aB (jr (ig qU (aa 1) b8 (ff _)) (iV (ij (aa 0) T.bf T.wY (wZ T) hr.m T.jw.b .nil cg (ae (aa 2) ag))))))),?_];obtain⟨⟨dx,hx⟩,hp⟩:=id hb;unfold hasB at q;rfl'
 try refine#[Y,?_]
 by_cases hk:k = "step"
 .subst hk;rw[if_pos Y] at q ⊢;refine#[_,_,hx,Y,x,p,e,t,u,d,m,i,kvs,Y,hb,?_];by_cases h1:0<=i/\i<t
  .rw[decide_eq_true h1] at q ⊢;rfl';refine#[_,_,hx,Y,x,p,e,t,u,d,m,_,kvs,Y,hb,?_];rw[afv] at q;exact q
  .rw[decide_eq_false h1] at q ⊢;rfl';exact q
 .rw[if_neg hk] at q;rw[if_neg hk]
  try refine#[Y,?_]
  by_cases eM:k = "at"
  .subst eM;rw[decide_eq_true Y,afv] at q;rw[if_pos Y];refine#[_,_,hx,Y,x,p,e,t,u,d,m,i,kvs,Y,hb,?_];exact q
  .rw[decide_eq_false eM,aea] at q;rw[if_neg λz=>eM (V.str.inj z)];exact q
inductive VB(K:ZF)(B C:ZX)(vs:List V)(H:Hp)(Q:VK)(E:XK):Prop
 | mk(x p b:ZX)(e t u d m:Int)(kvs:List (List Key × V))(xs:List V)(ps:List Pa)(_:vs=[.ref x,.ref b])(_:gh B H x e t u d m p kvs)(_:ah K H b xs)(_:fZ H xs ps)(_:(¬ jP t ps->E (.ref C) O H))(_:(jP t ps->Q .non H))
inductive VC(H:Hp)(x b:ZX)(t:Int)(ps:List Pa)(i:Nat)(J:St)(H1:Hp):Prop
 | mk(e:Option V)(_:J=[U (.ref x),U (.ref b),e])(_:H1=H)(_:jP t (ps.take i))
theorem Kc(T:Tx K mg):Ok P w base 3 T.jv (VB K T.aI T.lC):=by
 refine wH wJ ?_;rintro v v v v H v v v hr ⟨x,p,b,e,t,u,d,m,kvs,xs,ps,rfl,hb,hX,hP,q0,q⟩;refine#[_,(au (dq PassesOwn.leaving Y (df (aa 1)) (bQ 2 wJ.nd) (au (aJ (c9 (cT (aA (VA T) hr (ae (aa 0) (ae (ay (aa 2) af) (ae (ay (aa 2) af) ag)))))) (au (nB nC Y T.U7 T.CW Y (ae b8 ag))) aK)))),?_];have hl:=hP.len;rfl';refine#[#[_,hX],kE (xs:=xs) (VC H x b t ps) #[_,Y,Y,λv h=>by simp at h] ?_ ?_ ?_]
 .rintro i J H1 v ⟨v,v,rfl,v⟩;exact hX
 .rintro i y J H1 hy ⟨e1,rfl,rfl,hk⟩;obtain⟨pa,hpa,ta,qa,rfl,h1,h2⟩:=hP.get hy;rfl';refine br h1 (br h1 ?_);refine#[x,p,e,t,u,d,m,pa.2.1,pa.1,kvs,Y,hb,?_];cases hc:hasB t pa.1 pa.2.1 with
  | true =>
   rfl';refine#[_,Y,Y,λz hz=>?_];rw[abq,hpa] at hz;rcases aaf.mp hz with h|h
   .exact hk z h
   .have:z=pa:=by simpa using h
    rw[this];exact hc
  | false =>
   rfl';refine#[by decide,q0 λz=>?_];rw[z pa (Z2 hpa)] at hc;cases hc
 .rintro J H1 ⟨e1,rfl,rfl,hk⟩;rw[hl,abv] at hk;rfl';exact q hk
inductive VD(K:ZF)(vs:List V)(H:Hp)(Q:VK)(aR:XK):Prop
 | mk(b:ZX)(xs:List V)(ps:List Pa)(k:Str)(t:Int)(_:vs=[.ref b,.str k,.int t])(_:ah K H b xs)(_:fZ H xs ps)(_:ps.length<=1000)(_:∀ l ys H',aj H H'->H l=O->H' l=U (.lst ys)->lX H' ys (sel ps k t)->Q (.ref l) H')
theorem Kd(T:Tx K mg):Ok P w base 1 T.tu (VD K):=by
 refine a9 Cr ?_;rintro z z z s H z Q z z ⟨b,xs,ps,k,t,rfl,hX,hP,hn,q⟩;refine#[_,(au (aB (eX (cO [1,2] ["kind","turn"]) Y (df (aa 0)) (λC s2 H2 ex pn=>#[(i6 (PW.pt (dX (cG (di (K:=K) (aa 0) af) (aa 1)) (eR (cG (di (K:=K) (aa 0) af) (aa 2)))))),(di (K:=K) (aa 0) af)])))),?_];have hl:=hP.len;rfl';refine#[#[_,hX],d8 jN (ZQ (by lia:xs.length<=1000) (by decide)) (pQ (R:=λx p=>rN H x p) (R':=λy (s:S2)=>aP H y s.1 s.2) (p:=je k t) (f:=λp=>p.2.2) hX hP (λx p r Q h=>?_) (λx p z r Q h=>?_) λzs hz=>?_)]
 .obtain⟨tt,u,rfl,ht,hu⟩:=r;unfold je at h;rfl';refine br ht ?_;rfl'
  try refine#[Y,?_]
  by_cases hk:p.1=k
  .rw[decide_eq_true hk,afv] at h;rw[if_pos (by rw[hk])];refine br ht ?_;rfl';exact AS (Q:=λk=>Q k H) h
  .rw[decide_eq_false hk,aea] at h;rw[if_neg hk];exact h
 .obtain⟨tt,u,rfl,ht,hu⟩:=r;rfl';exact aE (aw.of ht) Y (h _ #[u,Y,hu])
 .rw[aal];intro l cf;exact q l zs _ (aq cf) cf ar (l6.mpr (hz.imp λz z r=>r.same (aq cf)))
noncomputable def c7(u d:Int)(ps:List Pa)(n:Nat):List W2:=(Z7 n).map λ(k:Nat)=>cK (O,O) ((U (-d),U u)::sel ps "step" (k:Int))
inductive VE(K:ZF)(B C:ZX)(vs:List V)(H:Hp)(Q:VK)(E:XK):Prop
 | mk(x p b:ZX)(e t u d m:Int)(kvs:List (List Key × V))(xs:List V)(ps:List Pa)(_:vs=[.ref x,.ref b])(_:gh B H x e t u d m p kvs)(_:1<=t)(_:t<=12)(_:ah K H b xs)(_:fZ H xs ps)(_:ps.length<=900)(_:(¬ jP t ps->E (.ref C) O H))(_:(jP t ps->∀ l ys H',aj H H'->H l=O->H' l=U (.lst ys)->ax (cF H') ys (c7 u d ps (t-1).toNat)->Q (.ref l) H'))
theorem C3(T:Tx K mg):Ok P w base 4 T.mJ (VE K T.aI T.lC):=by
 refine wH wK ?_;rintro y y y s H y Q y hr ⟨x,p,b,e,t,u,d,m,kvs,xs,ps,rfl,hb,t1,t2,hX,hP,hn,q0,q⟩;refine#[_,(ao (eS (dY (Kc T) hr.m Y T.jv.m T.jv.F.kp T.jv.b .nil nD (ae (aa 0) (ae (aa 1) ag)))) (ao (aD 2 wK.nd (cH (ae (ba (ae (ie iH (dw Y (aa 0) Y)) (ae (dw Y (aa 0) Y) ag))) ag))) (au (aB (eX (cO [2,1] ["own","claim"]) Y (gC Y T.fR (ae (aC ed (dw Y (aa 0) Y) af) ag)) (λC s2 H2 ex pn=>#[fV,(aA (C2 T) hr (ae (aC jI (aa 1) (aA (Kd T) hr (ae (aa 2) (ae b8 (ae (aa 0) ag))))) ag))])))))),?_];obtain⟨⟨dx,hx⟩,hp⟩:=id hb;rfl';refine#[x,p,b,e,t,u,d,m,kvs,xs,ps,Y,hb,hX,hP,q0,λhk=>?_];rfl';refine#[_,_,_,hx,T.bf,T.uj,_,Y,_,_,_,hx,T.bf,T.ui,_,Y,bg,λo ho=>#[by decide,λl hl=>?_]];have s1:=(aq (o:=.tup [.int (-d),.int u]) ho).trans (aq (o:=.lst [.ref o]) hl);have O1:aP (upd (upd H o (.tup [.int (-d),.int u])) l (.lst [.ref o])) (.ref o) (U (-d)) (U u):=#[o,Y,(aq hl) _ _ ar]
 have L1:(upd (upd H o (.tup [.int (-d),.int u])) l (.lst [.ref o])) l=U (.lst [.ref o]):=ar;generalize upd (upd H o (.tup [.int (-d),.int u])) l (.lst [.ref o])=H1 at s1 O1 L1 ⊢;refine#[_,_,_,s1 _ _ hx,T.bf,T.oE,_,Y,by lia,by lia,?_];refine d8 nG (by rw[ZJ,Z8];exact ZQ (by lia:_<=12) (by decide)) (fW (R:=λ_ x (k:Nat)=>x=V.int ((0:Int)+k)) (R':=cF) (f:=λ(k:Nat)=>cK (O,O) ((U (-d),U u)::sel ps "step" (k:Int))) (λy y y y y h=>h) (λy y y y s' h=>h.same s') (ax.iS _) (bs:=[]) trivial (λy y=>trivial) (λx k y H2 s2 r Q h=>?_) (λx k y H2 s2 r Q h=>?_) λH2 zs s2 hz=>?_)
 .rfl';exact h
 .subst r;have S2:=s1.trans s2;rfl';refine#[b,xs,ps,"step",_,Y,S2.seq hX,hP.same S2,by lia,λr ys H3 s3 y R3 hR=>?_];rw[aeS] at hR;rfl';have hlen:ys.length<=900:=by
   have:=(l6.mp hR).len;have h2:(sel ps "step" (k:Int)).length<=ps.length:=by unfold sel;rw[ZJ];exact aan _ _
   lia
  refine#[[.ref o],s3 _ _ (s2 _ _ L1),ys,R3,ZQ (by show 1+ys.length<=1000;lia) (by decide),λc hc=>?_];have s4:=aq (o:=.lst ([.ref o]++ys)) hc;refine#[c,_,(U (-d),U u)::sel ps "step" (k:Int),Y,ah.of ar,#[(O1.same (s2.trans s3)).same s4,?_],by rw[aac,aab];lia,λv H5 s5 hv=>h _ _ ((s3.trans s4).trans s5) hv];exact l6.mpr ((l6.mp hR).imp λy y r=>r.same s4)
 .intro c hc;refine q hk c zs _ ((s1.trans s2).trans (aq hc)) ((s1.trans s2).free hc) ar ?_;rw[aal] at hz;exact hz.imp λy y r=>r.same (aq hc)
noncomputable def c8(ps:List Pa)(n:Nat):List W2:=(Z7 n).map λ(k:Nat)=>cK (O,O) (sel ps "at" (k:Int))
inductive VF(K:ZF)(B C:ZX)(vs:List V)(H:Hp)(Q:VK)(E:XK):Prop
 | mk(x p b:ZX)(e t u d m:Int)(kvs:List (List Key × V))(xs:List V)(ps:List Pa)(_:vs=[.ref x,.ref b])(_:gh B H x e t u d m p kvs)(_:1<=t)(_:t<=12)(_:ah K H b xs)(_:fZ H xs ps)(_:ps.length<=900)(_:(¬ jP t ps->E (.ref C) O H))(_:(jP t ps->∀ l ys H',aj H H'->H l=O->H' l=U (.lst ys)->ax (cF H') ys (c8 ps t.toNat)->Q (.ref l) H'))
theorem VG(T:Tx K mg):Ok P w base 4 T.mK (VF K T.aI T.lC):=by
 refine wH Cs ?_;rintro y y y s y y Q y hr ⟨x,p,b,e,t,u,d,m,kvs,xs,ps,rfl,hb,t1,t2,hX,hP,hn,q0,q⟩;refine#[_,(ao (eS (dY (Kc T) hr.m Y T.jv.m T.jv.F.kp T.jv.b .nil nD (ae (aa 0) (ae (aa 1) ag)))) (au (aB (eX (cO [1] ["claim"]) Y (gC Y T.fR (ae (dw Y (aa 0) Y) ag)) (λC s2 H2 ex pn=>#[fV,(aA (C2 T) hr (ae (aA (Kd T) hr (ae (aa 1) (ae b8 (ae (aa 0) ag)))) ag))]))))),?_];obtain⟨⟨dx,hx⟩,hp⟩:=id hb;rfl';refine#[x,p,b,e,t,u,d,m,kvs,xs,ps,Y,hb,hX,hP,q0,λhk=>?_];rfl';refine#[_,_,_,hx,T.bf,T.oE,_,Y,_,Y,by lia,by lia,?_];refine d8 nG (by rw[ZJ,Z8];exact ZQ (by lia:_<=12) (by decide)) (fW (R:=λ_ x (k:Nat)=>x=V.int ((0:Int)+k)) (R':=cF) (f:=λ(k:Nat)=>cK (O,O) (sel ps "at" (k:Int))) (λy y y y y h=>h) (λy y y y s' h=>h.same s') (ax.iS _) (bs:=[]) trivial (λy y=>trivial) (λx k y H2 s2 r Q h=>?_) (λx k y H2 s2 r Q h=>?_) λH2 zs s2 hz=>?_)
 .rfl';exact h
 .subst r;rfl';refine#[b,xs,ps,"at",_,Y,s2.seq hX,hP.same s2,by lia,λr ys H3 s3 y R3 hR=>?_];rw[aeS] at hR;rfl';have hlen:ys.length<=900:=by
   have:=(l6.mp hR).len;have h2:(sel ps "at" (k:Int)).length<=ps.length:=by unfold sel;rw[ZJ];exact aan _ _
   lia
  exact#[r,ys,_,Y,ah.of R3,hR,by lia,λv H5 s5 hv=>h _ _ (s3.trans s5) hv]
 .intro c hc;refine q hk c zs _ (s2.trans (aq hc)) (s2.free hc) ar ?_;rw[aal] at hz;exact hz.imp λy y r=>r.same (aq hc)
inductive VH(vs:List V)(H:Hp)(Q:VK)(aR:XK):Prop
 | mk(v:V)(c:S2)(_:vs=[v])(_:rR H v c)(_:Q (.int (kY c)) H)
theorem Ke(T:Tx K mg):Ok P w base 1 T.sT VH:=by
 refine a9 Cm ?_;rintro z z z z z z z z z ⟨v,⟨e1,e2⟩,rfl,⟨p,rfl,hp⟩,q⟩;refine#[_,(ao (aJ (ee (ay (aa 0) af)) (au (aB (ay (aa 0) af))) aK) (ao (aJ (ee (ay (aa 0) af)) (au (aB (ay (aa 0) af))) aK) (au (aB af)))),?_];rfl';refine br hp ?_;rcases e1 with z|x
 .rfl';refine br hp ?_;rcases e2 with z|y
  .rfl';exact q
  .rfl';exact aE (aw.of hp) Y q
 .rfl';exact aE (aw.of hp) Y q
inductive VI(K:ZF)(B:ZX)(vs:List V)(H:Hp)(Q:VK)(aR:XK):Prop
 | mk(x p:ZX)(e t u d m i:Int)(tb:Tb)(_:vs=[.ref x,.int i])(_:dj B H x e t u d m p tb)(_:(tb.map (·.1)).Nodup)(_:tb.length<64)(_:(∀ r∈tb,0<=r.1.2))(_:∀ l ys H',aj H H'->H l=O->H' l=U (.lst ys)->ax (cU H') ys (jg tb i)->Q (.ref l) H')
theorem VJ(T:Tx K mg):Ok P w base 2 T.tD (VI K T.aI):=by
 refine a9 Ct ?_;rintro y y y s H y Q y hr ⟨x,p,e,t,u,d,m,i,tb,rfl,hb,bY,bO,h0,q⟩;refine#[_,(au (aB (yO (g:=iW K 3 (cA (bU 0) (cA (bU 1) (cA (bU 2) ia)))) (i7.mk (own:=["teller","turn","word"]) (fr:=[1]) (ys:=["eye"]) Y (by decide +kernel) Y (by decide +kernel) Y (.cons rfl .nil) (.cons rfl Y Y Y .nil) Y) Y (df (yc (aa 0) T.bf T.CV (C1 T) hr.m T.ki.b .nil cg)) (λC s2 H2 ex pn=>fI (n:=3) Y (bK (eE (i:=0) (show (["teller","turn","word","eye"]:List Str).Nodup by decide) Y (.inl (aad Y)) (.inr (aad Y))) (bK (eE (i:=1) (show (["teller","turn","word","eye"]:List Str).Nodup by decide) Y (.inl (aad Y)) (.inr (aad Y))) (bK (eE (i:=2) (show (["teller","turn","word","eye"]:List Str).Nodup by decide) Y (.inl (aad Y)) (.inr (aad Y))) fH)))) (λC s2 H2 ex pn=>#[(i6 (cG (aa 0) (aa 3))),(ba (ae (aa 1) (ae (aa 2) ag)))])))),?_];obtain⟨⟨dx,hx⟩,htb⟩:=id hb;rfl';refine#[_,_,hx,Y,x,p,e,t,u,d,m,tb,Y,hb,bY,bO,λl xs H1 s1 y hl hT=>?_];have tl:=hT.len;rw[kS] at tl;refine#[l,Y,#[_,ah.of hl],HS (row:=rowOf H1) (ZQ (by lia:xs.length<=64) (by decide)) (rQ (R:=λ_ x (r:P2 × S2)=>fO H1 x r) (R':=cU) (p:=λr=>decide (r.1.1=i)) (f:=λr=>(r.1.2.toNat,r.2)) (λy y y y y h=>h) (λy y y y s' h=>h.same s') hT (bs:=[]) trivial (λH' s'=>HW hl hT s') (λx r y H2 s2 h1 Q h=>?_) (λx r bJ hp H2 s2 h1 Q h=>?_) λH2 zs s2 hz=>?_)]
 .obtain⟨ta,w,rfl,ha,hw⟩:=h1;unfold jT;dsimp only;rw[jf ha];rfl';exact AS (Q:=λk=>Q k H2) h
 .obtain⟨ta,w,rfl,ha,wp,rfl,hw⟩:=h1;unfold jU;dsimp only;rw[jf ha];rfl';have bR:=h0 r (nQ bJ);refine#[bg,λt1 gW=>h _ _ (aq gW) #[t1,wp,Y,?_,(aq gW) _ _ (s2 _ _ hw)]];rw[ar];show U (HO.tup [.int r.1.2,.ref wp])=U (.tup [.int ((r.1.2.toNat:Nat):Int),.ref wp]);rw[abS bR]
 .rw[aal] at hz;intro l2 cf;exact q l2 zs _ (s1.trans (s2.trans (aq cf))) ((s1.trans s2).free cf) ar (hz.imp λy y r=>r.same (aq cf))
inductive VL(K:ZF)(B:ZX)(vs:List V)(H:Hp)(Q:VK)(aR:XK):Prop
 | mk(x p o:ZX)(e t u d m:Int)(tb:Tb)(es:List Int)(_:vs=[.ref x,.ref o])(_:dj B H x e t u d m p tb)(_:(tb.map (·.1)).Nodup)(_:tb.length<64)(_:(∀ r∈tb,0<=r.1.2))(_:ah K H o (es.map V.int))(_:es.length<=100)(_:∀ l ys H',aj H H'->H' l=U (.lst ys)->ax (cU H') ys (((jd tb).filter λr=>!es.contains r.1.1).map λr=>(r.1.2.toNat,r.2))->Q (.ref l) H')
theorem Kf(T:Tx K mg):Ok P w base 2 T.tE (VL K T.aI):=by
 refine a9 Cu ?_;rintro y y y s H y Q y hr ⟨x,p,o,e,t,u,d,m,tb,es,rfl,hb,bY,bO,h0,ho,sd,q⟩;refine#[_,(au (aB (yO (g:=iW K 3 (cA (bU 0) (cA (bU 1) (cA (bU 2) ia)))) (i7.mk (own:=["teller","turn","word"]) (fr:=[1]) (ys:=["some"]) Y (by decide +kernel) Y (by decide +kernel) Y (.cons rfl .nil) (.cons rfl Y Y Y .nil) Y) Y (df (yc (aa 0) T.bf T.CV (C1 T) hr.m T.ki.b .nil cg)) (λC s2 H2 ex pn=>fI (n:=3) Y (bK (eE (i:=0) (show (["teller","turn","word","some"]:List Str).Nodup by decide) Y (.inl (aad Y)) (.inr (aad Y))) (bK (eE (i:=1) (show (["teller","turn","word","some"]:List Str).Nodup by decide) Y (.inl (aad Y)) (.inr (aad Y))) (bK (eE (i:=2) (show (["teller","turn","word","some"]:List Str).Nodup by decide) Y (.inl (aad Y)) (.inr (aad Y))) fH)))) (λC s2 H2 ex pn=>#[(i6 (iZ (Oy (K:=K) Y) (aa 0) (aa 3) (by with_unfolding_all rfl))),(ba (ae (aa 1) (ae (aa 2) ag)))])))),?_];obtain⟨⟨dx,hx⟩,htb⟩:=id hb;rfl';refine#[_,_,hx,Y,x,p,e,t,u,d,m,tb,Y,hb,bY,bO,λl xs H1 s1 y hl hT=>?_];have tl:=hT.len;rw[kS] at tl;refine#[l,Y,#[_,ah.of hl],HS (row:=rowOf H1) (ZQ (by lia:xs.length<=64) (by decide)) (rQ (R:=λ_ x (r:P2 × S2)=>fO H1 x r) (R':=cU) (p:=λr=>!es.contains r.1.1) (f:=λr=>(r.1.2.toNat,r.2)) (λy y y y y h=>h) (λy y y y s' h=>h.same s') hT (bs:=[]) trivial (λH' s'=>HW hl hT s') (λx r y H2 s2 h1 Q h=>?_) (λx r bJ hp H2 s2 h1 Q h=>?_) λH2 zs s2 hz=>?_)]
 .obtain⟨ta,w,rfl,ha,hw⟩:=h1;unfold jT;dsimp only;rw[jf ha];rfl';refine#[o,_,Y,.inl ((s1.trans s2).seq ho),Y,rS es,_,Y,?_];rw[pV,if_pos Y];exact h
 .obtain⟨ta,w,rfl,ha,wp,rfl,hw⟩:=h1;unfold jU;dsimp only;rw[jf ha];rfl';have bR:=h0 r (nQ bJ);refine#[bg,λt1 gW=>h _ _ (aq gW) #[t1,wp,Y,?_,(aq gW) _ _ (s2 _ _ hw)]];rw[ar];show U (HO.tup [.int r.1.2,.ref wp])=U (.tup [.int ((r.1.2.toNat:Nat):Int),.ref wp]);rw[abS bR]
 .rw[aal] at hz;intro l2 cf;exact q l2 zs _ (s1.trans (s2.trans (aq cf))) ar (hz.imp λy y r=>r.same (aq cf))
inductive qt(H:Hp)(v:V)(r:Gp):Prop
 | mk(g k:ZX)(zs:List V)(_:v = .ref g)(_:H g=U (.tup [ev r.1,.ref k]))(_:H k=U (.lst zs))(_:ax (cU H) zs r.2)
theorem qt.same(h:qt H v r)(s:aj H H'):qt H' v r:=let ⟨g,k,zs,e,a,b,c⟩:=h;#[g,k,zs,e,s _ _ a,s _ _ b,c.imp λy y x=>x.same s]
inductive VM(K:ZF)(B:ZX)(vs:List V)(H:Hp)(Q:VK)(aR:XK):Prop
 | mk(x p:ZX)(e t u d m:Int)(tb:Tb)(_:vs=[.ref x])(_:dj B H x e t u d m p tb)(_:(tb.map (·.1)).Nodup)(_:tb.length<64)(_:(∀ r∈tb,0<=r.1.2))(_:0<=e)(_:e<=7)(_:∀ l ys H',aj H H'->H l=O->H' l=U (.lst ys)->ax (qt H') ys ((iF e.toNat tb).map λr=>(U r.1,r.2))->Q (.ref l) H')
theorem Kg(T:Tx K mg):Ok P w base 3 T.tF (VM K T.aI):=by
 refine a9 Cv ?_;rintro y y y s y y Q y hr ⟨x,p,e,t,u,d,m,tb,rfl,hb,bY,bO,bJ,h0,h7,q⟩;refine#[_,(au (aB (eX (cO [0] ["board"]) Y (gC Y T.fR (ae (dw Y (aa 0) Y) ag)) (λC s2 H2 ex pn=>#[fV,(ba (ae (aa 0) (ae (aA (VJ T) hr (ae (aa 1) (ae (aa 0) ag))) ag)))])))),?_];obtain⟨⟨dx,hx⟩,hp⟩:=id hb;rfl';refine#[_,_,_,hx,T.bf,T.mV,_,Y,?_];refine#[e,Y,by lia,by lia,d8 nG (by rw[ZJ,Z8];exact ZQ (by lia:_<=12) (by decide)) (fW (R:=λ_ x (k:Nat)=>x=V.int ((0:Int)+k)) (R':=qt) (f:=λ(k:Nat)=>((U (k:Int),jg tb (k:Int)):Gp)) (λy y y y y h=>h) (λy y y y s' h=>h.same s') (ax.iS _) (bs:=[]) trivial (λy y=>trivial) (λx k y H2 s2 r Q h=>?_) (λx k y H2 s2 r Q h=>?_) λH2 zs s2 hz=>?_)]
 .rfl';exact h
 .subst r;rfl';rw[aeS];refine#[x,p,e,t,u,d,m,(k:Int),tb,Y,hb.same s2,bY,bO,bJ,λl ys H3 s3 y hl hM=>#[bg,λg hg=>?_]];have u1:=aq (o:=.tup [.int (k:Int),.ref l]) hg;exact h _ _ (s3.trans u1) #[g,l,ys,Y,ar,u1 _ _ hl,hM.imp λy y x=>x.same u1]
 .intro l hl;rw[aal] at hz;refine q l zs _ (s2.trans (aq hl)) (s2.free hl) ar ?_;unfold iF;rw[abg];exact hz.imp λy y r=>r.same (aq hl)
inductive VN(K:ZF)(vs:List V)(H:Hp)(Q:VK)(aR:XK):Prop
 | mk(v u:V)(s:S2)(p:P2)(_:vs=[v,u])(_:aP H v s.1 s.2)(_:bC H u p)(_:∀ r H',aj H H'->H r=O->H' r=U (.tup [ev (eZ s p).1,ev (eZ s p).2])->Q (.ref r) H')
theorem Kh(T:Tx K mg):Ok P w base 1 T.sU (VN K):=by
 refine a9 sH ?_;rintro y y y y y y y y hr ⟨v,u,⟨lo,hi⟩,⟨p1,p2⟩,rfl,⟨a,rfl,ha⟩,⟨b,rfl,hb⟩,q⟩;refine#[_,(ao (aD 2 sH.nd (oZ (dG (ay (aa 0) af)) bT (aC bh (ay (aa 0) af) (ay (aa 1) af)))) (ao (aD 3 sH.nd (oZ (dG (ay (aa 0) af)) bT (aC bh (ay (aa 0) af) (ay (aa 1) af)))) (au (aB (ba (ae (aa 2) (ae (aa 3) ag))))))),?_];rcases lo with y|lo<;>rcases hi with y|hi
 all_goals simp only[zr,zt] at ha
 all_goals
  rfl'
  repeat' first
  | refine br ha ?_
  | refine br hb ?_
  | (walk_at "p")
 all_goals exact#[bg,λr hr=>q r _ (aq hr) hr ar]
theorem VO(h:ax (λv (s:S2)=>aP H v s.1 s.2) zs ss)(h0:0<ss.length):∃ v,cN zs (-1)=U v/\aP H v (bX ss (ss.length-1)).1 (bX ss (ss.length-1)).2:=by
 have hl:=h.len;obtain⟨v,hv,r⟩:=h.at (ZK (l:=ss) (i:=ss.length-1) (by lia));have e:zs=zs.take (ss.length-1)++[v]:=by have:=aa0 (ss.length-1) zs;rw[aa4 (by lia),ad3 (by lia)] at this;rw[ZK (by lia)] at hv;cases hv;exact this.symm
 refine#[v,by rw[e];exact ET _ _,?_];unfold bX;rw[ZG,ZK (by lia)];exact r
inductive VP(K:ZF)(vs:List V)(H:Hp)(Q:VK)(aR:XK):Prop
 | mk(a b:ZX)(xs ys:List V)(ws:List W2)(ps:List P2)(_:vs=[.ref a,.ref b])(_:ah K H a xs)(_:ax (cF H) xs ws)(_:ah K H b ys)(_:dv H ys ps)(_:ws.length<=ps.length+1)(_:ws.length<=1000)(_:(∀ t,t<ws.length->bc (fb ws) (aG ps) t=O->∀ H',aj H H'->Q .non H'))(_:((∀ t,t<ws.length->bc (fb ws) (aG ps) t≠O)->∀ l zs ss H',aj H H'->H l=O->H' l=U (.lst zs)->ax (rR H') zs ss->ss.length=ws.length->(∀ t,t<ws.length->bc (fb ws) (aG ps) t=U (bX ss t))->Q (.ref l) H'))
inductive Ki(H:Hp)(a b l:ZX)(ws:List W2)(ps:List P2)(i:Nat)(J:St)(H1:Hp):Prop
 | mk(zs:List V)(ss:List S2)(e1 e2 e3:Option V)(_:J=[U (.ref a),U (.ref b),U (.ref l),e1,e2,e3])(_:aj H H1)(_:H1 l=U (.lst zs))(_:ax (rR H1) zs ss)(_:ss.length=i)(_:∀ t,t<i->bc (fb ws) (aG ps) t=U (bX ss t))
theorem Kj(T:Tx K mg):Ok P w base 3 T.sV (VP K):=by
 refine a9 mz ?_;rintro y y y y H y y y hr ⟨a,b,xs,ys,ws,ps,rfl,hS,hW,hT,hP,hl,hn,q0,q⟩;refine#[_,(ao (aD 2 mz.nd (cH ag)) (ao (dq aav Y (y7 Y T.wR (ae (aa 0) ag)) (fI Y (bK (bQ 3 mz.nd) (bK (bQ 4 mz.nd) fH))) (ao (aD 5 mz.nd (aa 4)) (ao (aJ (PW.pt (dX (iI (aa 3) af) (eR (ee (aa 4))))) (au (aD 5 mz.nd (aA (CZ T) hr (ae (aa 4) (ae (aA (Kh T) hr (ae (ay (aa 2) (ie iH af)) (ae (ay (aa 1) (aC ed (aa 3) af)) ag))) ag))))) aK) (ao (aJ (dG (aa 5)) (au (aB bT)) aK) (au (eS (nu aaW ab1 ab2 q9 (aa 2) (ae (aa 5) ag)))))))) (au (aB (aa 2))))),?_];have l1:=hW.len;have l2:=hP.len;rfl';refine#[by decide,λl eQ=>?_];have s1:=aq (o:=.lst []) eQ;have e1:upd H l (.lst []) l=U (.lst []):=ar;generalize upd H l (.lst [])=H1 at s1 e1 ⊢;rfl';refine#[#[_,s1.seq hS],zd (xs:=xs) (Ki H a b l ws ps) #[[],[],_,_,_,Y,s1,e1,trivial,Y,λt h=>absurd h (abW _)] ?_ ?_ ?_]
 .rintro i J H2 y ⟨y,y,y,y,y,y,s2,y⟩;exact s2.seq hS
 .rintro i x J H2 p hx ⟨zs,ss,d1,d2,d3,rfl,s2,cf,hz,hlen,gY⟩ hp;obtain⟨w,hw,r⟩:=hW.get hx;have sp:=aq (o:=.tup [.int i,x]) hp;refine kI (aw.of ar) ?_;generalize upd H2 p (.tup [.int i,x])=H3 at sp ⊢;have s3:=s2.trans sp;have r3:=r.same s3;have cu:=sp _ _ cf;have el:=hz.imp λy y r=>aP.same r sp;have zl:=hz.len;have ew:fb ws i=w:=by unfold fb;rw[ZG,hw];rfl
  have hi:=(ZL.mp hx).1;have add:∀ (v:V) (k:S2) (H4:Hp) (d1 d2 d3:Option V),aj H3 H4->aP H4 v k.1 k.2->bc (fb ws) (aG ps) i=U k->Ki H a b l ws ps (i+1) [U (.ref a),U (.ref b),U (.ref l),d1,d2,d3] (upd H4 l (.lst (zs++[v]))):=λv k H4 d1 d2 d3 s4 hv ek=>by
   have gZ:=s4 _ _ cu;refine#[zs++[v],ss++[k],d1,d2,d3,Y,jK eQ (s3.trans s4),ar,?_,by rw[aac,aab,hlen],λt ht=>?_]
   .exact ((el.imp λy y r=>aP.same r s4).snoc hv).imp λy y r=>aP.put r gZ
   .unfold bX;rw[ZG];by_cases e:t=i
    .subst e;rw[ek,aaN (by lia),hlen,agj];rfl
    .rw[gY t (by lia),aay (by lia)];unfold bX;rw[ZG]
  cases w with
  | none =>
   obtain rfl:x = .non:=r3;have e0:bc (fb ws) (aG ps) i=O:=by
    cases i with
    | zero=>exact ew
    | succ i=>unfold bc;rw[ew]
   rfl';have fin:=q0 i (by lia) e0 _ s3;exact aZ (λy=>fin) λy=>fin
  | some k =>
   obtain⟨rp,rfl,hrp⟩:=id (show aP H3 x k.1 k.2 from r3);cases i with
   | zero =>
    rfl';exact#[.inl #[Y,_,ah.of cu],_,cu,aaS (by lia:zs.length<=1000) (by decide),add _ k _ _ _ _ (aj.refl _) r3 ew]
   | succ i =>
    rfl';rw[if_pos (by lia)];obtain⟨v,hv,rv⟩:=VO (ss:=ss) el (by lia);obtain⟨u,hu,ru⟩:=hP.at (ZK (l:=ps) (i:=i) (by lia));have ep:ps[i]'(by lia)=aG ps i:=by unfold aG;rw[ZG,ZK (by lia)];rfl
    rw[ep] at ru;rw[show (((i+1:Nat):Int)-1)=((i:Nat):Int) by lia];refine aN (ah.of cu) hv (aN (s3.seq hT) (dZ hu) ?_);rw[hlen,Nat.add_sub_cancel] at rv;refine#[v,u,bX ss i,aG ps i,Y,rv,ru.same s3,λr H4 s4 y qu=>?_];refine#[_,_,k.1,k.2,_,_,Y,#[rp,Y,s4 _ _ hrp],#[r,Y,qu],λy H5 s5 hy=>?_];have ek:=gY i (by lia);have en:bc (fb ws) (aG ps) (i+1)=iA k (eZ (bX ss i) (aG ps i)):=by
     show (match fb ws (i+1),bc (fb ws) (aG ps) i with
      | some b,U k=>iA b (eZ k (aG ps i))
      | _,_=>O)=_
     rw[ew,ek]
    have lD:=(s4.trans s5) _ _ cu;unfold iA at en;cases hc:aS (dA k.1 (eZ (bX ss i) (aG ps i)).1) (dB k.2 (eZ (bX ss i) (aG ps i)).2) with
    | true =>
     rw[if_pos hc] at en;obtain rfl:=hy.1 hc;rfl';exact q0 (i+1) (by lia) en _ (s3.trans (s4.trans s5))
    | false =>
     rw[if_neg (by rw[hc];simp)] at en;have w5:=hy.2 hc;obtain⟨yp,rfl,hyp⟩:=id w5;rfl';exact#[.inl #[Y,_,ah.of lD],_,lD,aaS (by lia:zs.length<=1000) (by decide),add _ _ _ _ _ _ (s4.trans s5) w5 en]
 .rintro J H2 ⟨zs,ss,d1,d2,d3,rfl,s2,cf,hz,hlen,gY⟩;rfl';rw[l1] at hlen gY;exact q (λt ht=>by rw[gY t ht];simp) l zs ss H2 s2 eQ cf hz hlen gY
inductive VQ(K:ZF)(vs:List V)(H:Hp)(Q:VK)(aR:XK):Prop
 | mk(a:ZX)(xs:List V)(ms:List Mk)(t:Nat)(_:vs=[.ref a,.int t])(_:ah K H a xs)(_:ax (cU H) xs ms)(_:ms.length<=1000)(_:∀ l ys H',aj H H'->H' l=U (.lst ys)->lX H' ys (atT ms t)->Q (.ref l) H')
theorem VR(T:Tx K mg):Ok P w base 1 T.sW (VQ K):=by
 refine a9 Cn ?_;rintro y y y s H y Q y y ⟨a,xs,ms,t,rfl,hS,hM,hn,q⟩;refine#[_,(au (aB (eX (cO [1] ["turn"]) Y (df (aa 0)) (λC s2 H2 ex pn=>#[(i6 (cG (di (K:=K) (aa 0) af) (aa 1))),(di (K:=K) (aa 0) af)])))),?_];have hl:=hM.len;rfl';refine#[#[_,hS],d8 jN (ZQ (by lia:xs.length<=1000) (by decide)) (pQ (R:=cU H) (R':=λv (s:S2)=>aP H v s.1 s.2) (p:=λm=>decide (m.1=t)) (f:=λm=>m.2) hS hM (λx m r Q h=>?_) (λx m hp r Q h=>?_) λzs hz=>?_)]
 .obtain⟨tp,sp,rfl,h1,h2⟩:=r;rfl';refine br h1 ?_;rfl';refine AS (Q:=λk=>Q k H) ?_;rw[show decide ((m.1:Int)=(t:Int))=decide (m.1=t) from decide_eq_decide.mpr (by lia)];exact h
 .obtain⟨tp,sp,rfl,h1,h2⟩:=r;rfl';exact aE (aw.of h1) Y (h _ #[sp,Y,h2])
 .rw[aal];intro l hl;exact q l zs _ (aq hl) ar (l6.mpr (hz.imp λy y r=>r.same (aq hl)))
theorem ax.rev:∀ {xs:List V} {as:List α},ax R xs as->ax R xs.reverse as.reverse
 | [],[],_=>trivial
 | x::xs,a::as,h=>by rw[ad6,ad6];exact (ax.rev h.2).app #[h.1,trivial]
 | [],_::_,h=>h.elim
 | _::_,[],h=>h.elim
inductive VS(K:ZF)(vs:List V)(H:Hp)(Q:VK)(aR:XK):Prop
 | mk(a b:ZX)(xs ys:List V)(ps:List P2)(ms:List Mk)(_:vs=[.ref a,.ref b])(_:ah K H a xs)(_:dv H xs ps)(_:ah K H b ys)(_:ax (cU H) ys ms)(_:eL ps)(_:ps.length<=900)(_:ms.length<=1000)(_:(∀ t,t<=ps.length->bc (cn ms) (aG ps) t=O->∀ H',aj H H'->Q .non H'))(_:((∀ t,t<=ps.length->bc (cn ms) (aG ps) t≠O)->∀ l zs ss H',aj H H'->H l=O->H' l=U (.lst zs)->ax (rR H') zs ss->ss.length=ps.length+1->(∀ t,t<=ps.length->f6 ps.length (cn ms) (aG ps) t=U (bX ss t))->Q (.ref l) H'))
theorem VT(T:Tx K mg):Ok P w base 4 T.sX (VS K):=by
 refine a9 sI ?_;rintro y y y s H y Q y hr ⟨a,b,xs,ys,ps,ms,rfl,hS,hP,hT,hM,ak,hn,hm,q0,q⟩;refine#[_,(ao (aD 2 sI.nd (aA (Kj T) hr (ae (eX (cO [1] ["marks"]) Y (gC Y T.fR (ae (aC bh (bp dg (by rfl) T.cV cQ (ae (aa 0) ag)) af) ag)) (λC s2 H2 ex pn=>#[fV,(aA (C2 T) hr (ae (aA (VR T) hr (ae (aa 1) (ae (aa 0) ag))) ag))])) (ae (aa 0) ag)))) (ao (aJ (dG (aa 2)) (au (aB bT)) aK) (ao (yQ (i:=3) (cO [] []) Y sI.nd Y Y (OO Y T.U5 (ae (aa 0) ag)) (λC s2 H2 ex pn=>#[fV,(ba (ae (ie iH (di (K:=K) (aa 0) af)) (ae (ie iH (di (K:=K) (aa 0) af)) ag)))])) (au (aB (HV (aA (Kj T) hr (ae (HV (aa 2) (ie iH af)) (ae (aa 3) ag))) (ie iH af))))))),?_];have l1:=hP.len;rfl';refine#[_,dN hS,by lia,by lia,?_];rw[l1,show ((ps.length:Int)+1).toNat=ps.length+1 by lia];refine d8 nG (by rw[ZJ,Z8];exact ZQ (by lia:_<=901) (by decide)) (fW (R:=λ_ x (k:Nat)=>x=V.int ((0:Int)+k)) (R':=cF) (f:=λ(k:Nat)=>cn ms k) (λy y y y y h=>h) (λy y y y s' h=>h.same s') (ax.iS _) (bs:=[]) trivial (λy y=>trivial) (λx k y H2 s2 r Q h=>?_) (λx k y H2 s2 r Q h=>?_) λH2 zs s2 hz=>?_)
 .rfl';exact h
 .subst r;rfl';rw[show (0:Int)+(k:Nat)=((k:Nat):Int) by lia];refine#[b,ys,ms,k,Y,s2.seq hT,hM.imp λy y r=>r.same s2,hm,λl zs H3 s3 hl hs=>?_];refine#[l,zs,_,Y,ah.of hl,hs,?_,λv H4 s4 hv=>h H4 v (s3.trans s4) hv];rw[hs.len];unfold atT;rw[ZJ];exact ZQ (aan _ _) hm
 rw[aal] at hz;intro c hc;have s3:=s2.trans (aq (o:=.lst zs) hc);have c3:upd H2 c (.lst zs) c=U (.lst zs):=ar;have el:=hz.imp λy y r=>r.same (aq (o:=.lst zs) hc);generalize upd H2 c (.lst zs)=H3 at s3 c3 el ⊢;clear hz hc s2;have wl:((Z7 (ps.length+1)).map λ(k:Nat)=>cn ms k).length=ps.length+1:=by rw[ZJ,Z8]
 have we:∀ t,t<=ps.length->fb ((Z7 (ps.length+1)).map λ(k:Nat)=>cn ms k) t=cn ms t:=λt ht=>by unfold fb;rw[ZG,Z1,aa1 (by lia)];rfl
 have ne:∀ t,t<=ps.length->bc (fb ((Z7 (ps.length+1)).map λ(k:Nat)=>cn ms k)) (aG ps) t=bc (cn ms) (aG ps) t:=λt ht=>zW t (λk hk=>we k (by lia)) λk y=>rfl;refine#[c,a,zs,xs,_,ps,Y,ah.of c3,el,s3.seq hS,hP.same s3,by rw[wl];exact ZS _,by rw[wl];lia,λt ht en H4 s4=>?_,λbM l mW ss H4 s4 y hl A3 gJ gY=>?_]
 .rw[wl] at ht;rw[ne t (by lia)] at en;rfl';exact q0 t (by lia) en _ (s3.trans s4)
 rw[wl] at bM gY gJ;have Kk:∀ t,t<=ps.length->bc (cn ms) (aG ps) t≠O:=λt ht z=>bM t (by lia) (by rw[ne t ht];exact z);have VU:∀ t,t<ps.length+1->bc (cn ms) (aG ps) t=U (bX ss t):=λt ht=>by rw[<- ne t (by lia)];exact gY t ht
 have TB:=HN ak Kk;have S4:=s3.trans s4;rfl';refine#[xs,S4.seq hS,Q8 (ZQ (by lia:_<=900) (by decide)) (fW (R:=bC) (R':=bC) (f:=λp=>(-p.2,-p.1)) (λy y y y s' h=>h.same s') (λy y y y s' h=>h.same s') (ax.rev (hP.same S4)) (bs:=[]) trivial (λH' s'=>(S4.trans s').seq hS) (λx k y H2 s2 r Q h=>?_) (λx k y H2 s2 r Q h=>?_) λH5 bs s5 hb=>?_)]
 .rfl';exact h
 .obtain⟨t,rfl,ht⟩:=r;rfl';refine br ht ?_;rfl';refine br ht ?_;rfl';exact#[bg,λp hp=>h _ _ (aq hp) #[p,Y,ar]]
 rw[aal] at hb;intro d hd;have s6:=s5.trans (aq (o:=.lst bs) hd);have d6:upd H5 d (.lst bs) d=U (.lst bs):=ar;have Kl:dv (upd H5 d (.lst bs)) bs (kX ps):=hb.imp λy y r=>r.same (aq (o:=.lst bs) hd);generalize upd H5 d (.lst bs)=H6 at s6 d6 Kl ⊢;clear hb hd s5;refine#[mW,ah.of (s6 _ _ hl),λp hp=>?_];have s7:=s6.trans (aq (o:=.lst mW.reverse) hp);have p7:upd H6 p (.lst mW.reverse) p=U (.lst mW.reverse):=ar;have d7:=(aq (o:=.lst mW.reverse) hp) _ _ d6;have Km:dv (upd H6 p (.lst mW.reverse)) bs (kX ps):=Kl.same (aq (o:=.lst mW.reverse) hp);generalize upd H6 p (.lst mW.reverse)=H7 at s7 p7 d7 Km ⊢;have rl:(ss.reverse.map U).length=ps.length+1:=by rw[ZJ,abc,gJ]
 have bl:(kX ps).length=ps.length:=by unfold kX;rw[ZJ,abc]
 have be:∀ t,t<=ps.length->bc (fb (ss.reverse.map U)) (aG (kX ps)) t=f6 ps.length (cn ms) (aG ps) (ps.length-t):=λt ht=>back_eq gJ VU ht;refine#[p,d,_,bs,ss.reverse.map U,kX ps,Y,ah.of p7,ax.Hm (ax.rev (A3.imp λy y r=>aP.same r s7)),ah.of d7,Km,by rw[rl,bl];exact ZS _,by rw[rl];lia,λt ht en H8 s8=>?_,λy l3 VV VW H8 s8 Ze cu VX C4 Kn=>?_]
 .rw[rl] at ht;rw[be t (by lia)] at en;obtain⟨z,ez,y⟩:=TB.ok (ps.length-t) (by lia);rw[en] at ez;cases ez
 rw[rl] at C4 Kn;have S8:=S4.trans (s7.trans s8);refine#[l3,Y,VV,ah.of cu,λp3 gk=>q Kk p3 _ VW.reverse _ (S8.trans (aq gk)) (S8.free gk) ar (ax.rev (VX.imp λy y r=>aP.same r (aq gk))) (by rw[abc,C4]) λt ht=>?_];rw[QZ C4 ht,<- Kn (ps.length-t) (by lia),be _ (by lia),show ps.length-(ps.length-t)=t by lia]
inductive VY(K:ZF)(vs:List V)(H:Hp)(Q:VK)(aR:XK):Prop
 | mk(a b:ZX)(xs ys:List V)(ps:List P2)(ms:List Mk)(_:vs=[.ref a,.ref b])(_:ah K H a xs)(_:dv H xs ps)(_:ah K H b ys)(_:ax (cU H) ys ms)(_:eL ps)(_:ps.length<=900)(_:ms.length<=1000)(_:(∀ m∈ms,m.1<=ps.length))(_:((¬ ∃ c,fq ps c/\meets ms c)->∀ H',aj H H'->Q .non H'))(_:(∀ l cs H',aj H H'->H l=O->H' l=U (.lst (cs.map V.int))->cs.length=ps.length+1->fq ps (aO cs)->meets ms (aO cs)->Q (.ref l) H'))
inductive VZ(H:Hp)(a b x l c:ZX)(zs:List V)(ss:List S2)(ps:List P2)(ms:List Mk)(i:Nat)(J:St)(H1:Hp):Prop
 | mk(cs:List Int)(e1 e2:Option V)(_:J=[U (.ref a),U (.ref b),U (.ref x),U (.ref l),e1,e2])(_:aj H H1)(_:H1 l=U (.lst (cs.map V.int)))(_:H1 c=U (.lst (zs.drop 1)))(_:ax (rR H1) zs ss)(_:cs.length=i+1)(_:(∀ t,t<=i->d9 (f6 ps.length (cn ms) (aG ps) t) (aO cs t)))(_:∀ k,k<i->(aG ps k).1<=aO cs (k+1)-aO cs k/\aO cs (k+1)-aO cs k<=(aG ps k).2)
theorem w6(h:t<cs.length):aO (cs++[n]) t=aO cs t:=by unfold aO;rw[ZG,ZG,aay h]
theorem Ko(h:cs.length=t):aO (cs++[n]) t=n:=by unfold aO;rw[ZG,aaN (by lia),h,agj];rfl
theorem V0{cs:List Int}{i:Nat}(h:cs.length=i+1):cN (cs.map V.int) (-1)=U (.int (aO cs i)):=by
 have e:cs=cs.take i++[aO cs i]:=by have:=aa0 i cs;rw[aa4 (by lia),ad3 (by lia)] at this;unfold aO;rw[ZG,ZK (by lia)];exact this.symm
 have e2:cs.map V.int=(cs.take i).map V.int++[V.int (aO cs i)]:=(congrArg (ahV V.int) e).trans (by rw[aa2];rfl);rw[e2];exact ET _ _
theorem Kp(h:aS s.1 s.2=false):bD s (kY s):=vT.mpr (Q9 h)
theorem Kq(h:i<ss.length):ss[i]?=U (bX ss i):=by unfold bX;rw[ZG,ZK h];rfl
theorem C5(h:i<ps.length):ps[i]?=U (aG ps i):=by unfold aG;rw[ZG,ZK h];rfl
theorem Kr(T:Tx K mg):Ok P w base 5 T.sY (VY K):=by
 refine a9 ou ?_;rintro _ _ _ s H _ _ _ hr ⟨a,b,xs,ys,ps,ms,rfl,hS,hP,hT,hM,ak,hn,hm,ht,q0,q⟩;refine#[_,(ao (aD 2 ou.nd (aA (VT T) hr (ae (aa 0) (ae (aa 1) ag)))) (ao (aJ (dG (aa 2)) (au (aB bT)) aK) (ao (aD 3 ou.nd (cH (ae (aA (Ke T) hr (ae (ay (aa 2) af) ag)) ag))) (ao (dq aav Y (OT Y T.U6 (ae (aa 0) (ae (yh ym (aa 2) (yg af) yf) ag))) (fI Y (bK (bQ 4 ou.nd) (bK (bQ 5 ou.nd) fH))) (au (eS (nu aaW ab1 ab2 q9 (aa 3) (ae (aA (Ke T) hr (ae (aA (CZ T) hr (ae (aa 5) (ae (aA (Kh T) hr (ae (ba (ae (ay (aa 3) (ie iH af)) (ae (ay (aa 3) (ie iH af)) ag))) (ae (aa 4) ag))) ag))) ag)) ag))))) (au (aB (aa 3))))))),?_];have l1:=hP.len;rfl';refine#[a,b,xs,ys,ps,ms,Y,hS,hP,hT,hM,ak,hn,hm,λt ht en H1 s1=>?_,λbM x zs ss H1 s1 fx hx hz gJ gY=>?_]
 .rfl';refine q0 ?_ _ s1;rintro ⟨c,hc,iP⟩;exact QX hc iP t ht en
 have TB:=HN ak bM;have zl:=hz.len;have V1:∀ t,t<=ps.length->aS (bX ss t).1 (bX ss t).2=false:=λt ht=>by obtain⟨s,es,hs⟩:=TB.ok t ht;rw[gY t ht] at es;cases es;exact hs
 rfl';obtain⟨v0,ur,r0⟩:=hz.at (Kq (ss:=ss) (i:=0) (by lia));refine aN (ah.of hx) (dZ (j:=0) ur) ?_;refine#[v0,bX ss 0,Y,r0,by decide,λl eQ=>?_];have u1:=aq (o:=.lst [.int (kY (bX ss 0))]) eQ;have L1:upd H1 l (.lst [.int (kY (bX ss 0))]) l=U (.lst ([kY (bX ss 0)].map V.int)):=ar;have fl:=s1.free eQ;generalize upd H1 l (.lst [.int (kY (bX ss 0))])=H2 at u1 L1 ⊢;refine#[zs,ah.of (u1 _ _ hx),λc hc=>?_];rw[show kC zs (U 1) O=zs.drop 1 from O9 zs 1];have u2:=aq (o:=.lst (zs.drop 1)) hc;have c3:upd H2 c (.lst (zs.drop 1)) c=U (.lst (zs.drop 1)):=ar;have lc:l≠c:=λz=>by rw[<- z,L1] at hc;cases hc
 generalize upd H2 c (.lst (zs.drop 1))=H3 at u2 c3 ⊢;have S3:=s1.trans (u1.trans u2);refine#[#[_,S3.seq hS],#[_,ah.of c3],O0 (xs:=xs) (ys:=zs.drop 1) (VZ H a b x l c zs ss ps ms) #[[kY (bX ss 0)],_,_,Y,S3,u2 _ _ L1,c3,hz.imp λ_ _ r=>aP.same r (u1.trans u2),Y,λt ht=>?_,λk hk=>absurd hk (abW _)] ?_ ?_ ?_]
 .obtain rfl:t=0:=by lia
  exact#[_,gY 0 (by lia),Kp (V1 0 (by lia))]
 .rintro i J H4 ⟨_,_,_,_,s4,_,c4,_⟩;exact#[s4.seq hS,ah.of c4]
 .rintro i u v J H4 p hu hv ⟨cs,d1,d2,rfl,s4,L4,c4,jA,aY,bq,bG⟩ hp;have hi:i<ps.length:=by have:=(ZL.mp hu).1;lia
  obtain⟨pt,ept,ru⟩:=hP.get hu;rw[C5 hi] at ept;cases ept;rw[ag1,aiW 1 i] at hv;obtain⟨sv,esv,rv⟩:=jA.get hv;rw[Kq (by lia)] at esv;cases esv;refine kI (aw.of ar) ?_;have up:=aq (o:=.tup [u,v]) hp;generalize upd H4 p (.tup [u,v])=H5 at up ⊢;have L5:=up _ _ L4;rfl';have lst:=V0 aY;refine#[.inl #[Y,_,ah.of L5],aN (ah.of L5) lst (aN (ah.of L5) lst #[bg,λt1 gW=>?_])];have ut:=aq (o:=.tup [.int (aO cs i),.int (aO cs i)]) gW;refine#[.ref t1,u,(U (aO cs i),U (aO cs i)),aG ps i,Y,#[t1,Y,ar],ru.same (s4.trans (up.trans ut)),λr H6 s6 _ uu=>?_];obtain⟨m,em,bI⟩:=Q0 TB hi (bq i (ZS _)) (gY (i+1) (by lia));have V2:=aP.same rv (up.trans (ut.trans s6));refine#[v,.ref r,_,_,_,_,Y,V2,#[r,Y,uu],λy H7 s7 hy=>?_];have cm:=Hz em;have Ks:aS (dA (bX ss (i+1)).1 (eZ (U (aO cs i),U (aO cs i)) (aG ps i)).1) (dB (bX ss (i+1)).2 (eZ (U (aO cs i),U (aO cs i)) (aG ps i)).2)=false/\m=(dA (bX ss (i+1)).1 (eZ (U (aO cs i),U (aO cs i)) (aG ps i)).1,dB (bX ss (i+1)).2 (eZ (U (aO cs i),U (aO cs i)) (aG ps i)).2):=by
   unfold iA at em;split at em
   .cases em
   .rename_i hc;cases em;exact#[by simpa using hc,Y]
  have w5:=hy.2 Ks.1;refine#[y,m,Y,by rw[Ks.2];exact w5,?_];have S7:=up.trans (ut.trans (s6.trans s7));have L7:=S7 _ _ L4;obtain⟨n1,n2,n3⟩:=bI _ (Kp cm);refine#[_,L7,by rw[ZJ];exact aaS (by lia:_<=1000) (by decide),cs++[kY m],_,_,Y,jK fl (s4.trans S7),by rw[ar,aa2];rfl,by rw[aF (aaQ lc)];exact S7 _ _ c4,jA.imp λ_ _ r=>aP.put (aP.same r S7) L7,by rw[aac,aab];lia,λt ht=>?_,λk hk=>?_]
  .by_cases e:t=i+1
   .subst e;rw[Ko aY];exact n1
   .rw[w6 (by lia)];exact bq t (by lia)
  .by_cases e:k=i
   .subst e;rw[Ko aY,w6 (by lia)];exact#[n2,n3]
   .rw[w6 (by lia),w6 (by lia)];exact bG k (by lia)
 .rintro J H4 ⟨cs,d1,d2,rfl,s4,L4,c4,jA,aY,bq,bG⟩;rfl';rw[afy,show min xs.length (zs.length-1)=ps.length by lia] at aY bq bG;exact q l cs H4 s4 fl L4 aY bG (meets_of TB ht bq)
def dH(H:Hp)(v:V):Option P2->Prop
 | none=>v = .non
 | some p=>bC H v p
theorem dH.same(h:dH H v o)(s:aj H H'):dH H' v o:=by
 cases o with
 | none=>exact h
 | some p=>exact bC.same h s
inductive V3(K:ZF)(vs:List V)(H:Hp)(Q:VK)(aR:XK):Prop
 | mk(v u:V)(a b:Option P2)(_:vs=[v,u])(_:dH H v a)(_:dH H u b)(_:∀ x,dH H x (jR a b)->(x=v∨x=u)->Q x H)
theorem C6(T:Tx K mg):Ok P w base 1 T.sZ (V3 K):=by
 refine a9 Co ?_;rintro y y y y H y y y hr ⟨v,u,a,b,rfl,ha,hb,q⟩;refine#[_,(ao (aJ (PW.pt (b9 (dG (aa 0)) (dm (dG (aa 1))))) (au (aB (oZ (dG (aa 0)) (aa 1) (aa 0)))) aK) (au (aB (bp (SD Y (dt hr)) (by rfl) T.mU lP (ae (aa 0) (ae (aa 1) ag)))))),?_];rcases a with y|a<;>rcases b with y|b
 .obtain rfl:v = .non:=ha;obtain rfl:u = .non:=hb;rfl';exact q _ Y (.inl rfl)
 .obtain rfl:v = .non:=ha;obtain⟨r,rfl,bR⟩:=id hb;rfl';exact q _ hb (.inr rfl)
 .obtain rfl:u = .non:=hb;obtain⟨r,rfl,bR⟩:=id ha;rfl';exact q _ ha (.inl rfl)
 .obtain⟨r,rfl,bR⟩:=id ha;obtain⟨r2,rfl,uv⟩:=id hb;rfl';refine#[a,bR,b,uv,?_];by_cases hl:ft b a=true
  .rw[if_pos hl];exact q _ (by show bC H _ (fu a b);unfold fu;rw[if_pos hl];exact hb) (.inr rfl)
  .rw[if_neg hl];exact q _ (by show bC H _ (fu a b);unfold fu;rw[if_neg hl];exact ha) (.inl rfl)
inductive V4(K:ZF)(vs:List V)(H:Hp)(Q:VK)(aR:XK):Prop
 | mk(v:V)(a:Option P2)(b:Int)(_:vs=[v,.int b])(_:dH H v a)(_:∀ x H',aj H H'->dH H' x (pU a b)->Q x H')
theorem Kt(T:Tx K mg):Ok P w base 1 T.tf (V4 K):=by
 refine a9 Cp ?_;rintro y y y y y y y y y ⟨v,a,b,rfl,ha,q⟩;refine#[_,(au (aB (oZ (dG (aa 0)) bT (ba (ae (aC bh (ay (aa 0) af) (aa 1)) (ae (ay (aa 0) af) ag)))))),?_];rcases a with y|a
 .obtain rfl:v = .non:=ha;rfl';exact q _ _ (aj.refl _) rfl
 .obtain⟨r,rfl,bR⟩:=id ha;rfl';refine br bR ?_;rfl';refine aE (aw.of bR) Y #[bg,λp hp=>q _ _ (aq hp) #[p,Y,ar]]
inductive V5(K:ZF)(vs:List V)(H:Hp)(Q:VK)(aR:XK):Prop
 | mk(a b:ZX)(xs ys:List V)(ps:List P2)(ms:List Mk)(_:vs=[.ref a,.ref b])(_:ah K H a xs)(_:dv H xs ps)(_:ah K H b ys)(_:ax (cU H) ys ms)(_:eL ps)(_:ps.length<=900)(_:ms.length<=1000)(_:(∀ m∈ms,m.1<=ps.length))(_:∀ l zs ts H',aj H H'->H l=O->H' l=U (.lst zs)->ax (dH H') zs ts->ts.length=ps.length+1->kU ps ms (dE ts)->Q (.ref l) H')
inductive oF(P:Nat->(Nat->Option P2)->Prop)(H:Hp)(a b l:ZX)(n:Nat)(i:Nat)(J:St)(H1:Hp):Prop
 | mk(zs:List V)(ts:List (Option P2))(e1 e2 e3:Option V)(_:J=[U (.ref a),U (.ref b),U (.ref l),e1,e2,e3])(_:aj H H1)(_:H1 l=U (.lst zs))(_:ax (dH H1) zs ts)(_:ts.length=n+1)(_:P i (dE ts))
theorem dH.put(h:dH H v o)(hl:H l=U (.lst ys)):dH (upd H l (.lst zs)) v o:=by
 cases o with
 | none=>exact h
 | some p=>exact bC.put h hl
theorem ax.Ku{α:Type}{R:V->α->Prop}{x:V}{a:α}(r:R x a):∀ {xs:List V} {as:List α} (j:Nat),ax R xs as->ax R (xs.set j x) (as.set j a)
 | [],[],_,_=>trivial
 | _::_,_::_,0,h=>#[r,h.2]
 | _::_,_::_,j+1,h=>#[h.1,ax.Ku r j h.2]
 | [],_::_,_,h=>h.elim
 | _::_,[],_,h=>h.elim
theorem qv(h:ax (dH H) zs ts)(ht:t<ts.length):∃ v,cN zs (t:Int)=U v/\dH H v (dE ts t):=by obtain⟨v,hv,r⟩:=h.at (ZK ht);refine#[v,dZ hv,?_];unfold dE;rw[ZG,ZK ht];exact r
theorem C7(h:t<n):i0 n (t:Int)=U t:=by unfold i0;rw[if_pos (by lia),if_pos (by lia),aat]
theorem C8{P:Nat->(Nat->Option P2)->Prop}{H:Hp}{a b l:ZX}{n i:Nat}{zs:List V}{ts:List (Option P2)}{H1:Hp}{v:V}{x:Option P2}{t:Nat}{d1 d2 d3:Option V}(eQ:H l=O)(s:aj H H1)(hl:H1 l=U (.lst zs))(hz:ax (dH H1) zs ts)(hlen:ts.length=n+1)(hv:dH H1 v x)(ht:t<n+1)(hP:P i (jS (dE ts) t x)):oF P H a b l n i [U (.ref a),U (.ref b),U (.ref l),d1,d2,d3] (upd H1 l (.lst (zs.set t v))) :=
 #[zs.set t v,ts.set t x,d1,d2,d3,Y,jK eQ s,ar,(ax.Ku hv t hz).imp λy y r=>r.put hl,by rw[ah0];exact hlen,by rw[Q3 (by lia)];exact hP]
theorem V6(n:Nat):lV ((n:Int)-1) (-1) (-1)=n:=by unfold lV aaV;simp only[show ¬ ((-1:Int) > 0) by lia,if_false,show (- (-1:Int))=1 by lia,aiT];split<;>lia
theorem V7(T:Tx K mg):Ok P w base 2 T.tj (V5 K):=by
 refine a9 mC ?_;rintro z z z z H z Q z hr ⟨a,b,xs,ys,ps,ms,rfl,hS,hP,hT,hM,ak,hn,hm,ht,q⟩;refine#[_,(ao (yQ (i:=2) (cO [] []) Y mC.nd Y Y (gC Y T.fR (ae (aC bh (bp dg (by rfl) T.cV cQ (ae (aa 0) ag)) af) ag)) (λC s2 H2 ex pn=>#[fV,bT])) (ao (dq aav Y (y7 Y T.wR (ae (aa 1) ag)) (fI Y (bK (bQ 3 mC.nd) (bK (bQ 4 mC.nd) fH))) (au (aJ (ee (ay (ay (aa 4) af) af)) (au (uT (aA (C6 T) hr (ae (ay (aa 2) (ay (aa 4) af)) (ae (ba (ae (ay (ay (aa 4) af) af) (ae (aa 3) ag))) ag))) (xQ (aa 2) (ay (aa 4) af) set_list))) aK))) (ao (dq aav Y (gC Y T.fR (ae (bp dg (by rfl) T.cV cQ (ae (aa 0) ag)) ag)) (bQ 5 mC.nd) (au (uT (aA (C6 T) hr (ae (ay (aa 2) (aC bh (aa 5) af)) (ae (aA (Kt T) hr (ae (ay (aa 2) (aa 5)) (ae (ay (ay (aa 0) (aa 5)) af) ag))) ag))) (xQ (aa 2) (aC bh (aa 5) af) set_list)))) (ao (dq aav Y (O4 Y T.fR (ae (aC ed (bp dg (by rfl) T.cV cQ (ae (aa 0) ag)) af) (ae (ie iH af) (ae (ie iH af) ag)))) (bQ 5 mC.nd) (au (uT (aA (C6 T) hr (ae (ay (aa 2) (aa 5)) (ae (aA (Kt T) hr (ae (ay (aa 2) (aC bh (aa 5) af)) (ae (ie iH (ay (ay (aa 0) (aa 5)) af)) ag))) ag))) (xQ (aa 2) (aa 5) set_list)))) (au (aB (aa 2))))))),?_];have l1:=hP.len;have l2:=hM.len;refine aH (λJ H1=>∃ l,J=[U (.ref a),U (.ref b),U (.ref l),O,O,O]/\aj H H1/\H l=O/\H1 l=U (.lst (aaH (ps.length+1) .non))) (λN hN=>?_) ?_
 .rfl';refine#[_,dN hS,by lia,by lia,?_];rw[l1,show ((ps.length:Int)+1).toNat=ps.length+1 by lia];refine d8 nG (by rw[ZJ,Z8];exact ZQ (by lia:_<=901) (by decide)) (vD (p:=λz=>true) (f:=λz=>.non) trivial (λx z Q h=>?_) (λx z z Q h=>?_) ?_)
  .rfl';exact h
  .rfl';exact h
  rw[aal,filter_tt];intro l hl;refine hN _ _ #[l,Y,aq hl,hl,?_];rw[ar]
  congr 2
  refine acL λk=>?_;rw[Z1,Z1,ab6];by_cases hk:k<ps.length+1
  .rw[aa1 hk,if_pos hk];rfl
  .rw[abB (by rw[Z8];lia),if_neg hk];rfl
 rintro z yR J H1 ⟨l,rfl,s1,eQ,jY⟩;subst yR;refine aH (oF (T1 ps ms) H a b l ps.length ms.length) (λN hN=>?_) ?_
 .rfl';refine#[#[_,s1.seq hT],zd (xs:=ys) (oF (T1 ps ms) H a b l ps.length) #[_,aaH (ps.length+1) O,_,_,_,Y,s1,jY,?_,by rw[aaI],by rw[Q4];exact T1.nil] ?_ ?_ ?_]
  .have:∀ k,ax (dH H1) (aaH k .non) (aaH k O):=λk=>by
    induction k with
    | zero=>exact trivial
    | succ k ih=>exact#[Y,ih]
   exact this _
  .rintro i J H2 z ⟨z,z,z,z,z,z,s2,z⟩;exact s2.seq hT
  .rintro i x J H2 p hx ⟨zs,ts,d1,d2,d3,rfl,s2,cf,hz,gp,lE⟩ hp;obtain⟨m,oG,tp,sp,rfl,h1,h2⟩:=hM.get hx;have iP:=ht m (Z2 oG);have up:=aq (o:=.tup [.int i,.ref tp]) hp;refine kI (aw.of ar) ?_;generalize upd H2 p (.tup [.int i,.ref tp])=H3 at up ⊢;have s3:=s2.trans up;have g1:=s3 _ _ h1;have g2:=s3 _ _ h2;have cu:=up _ _ cf;have el:=hz.imp λz z r=>r.same up;obtain⟨mt,lo,hi⟩:=m;rfl';refine br g1 (br g2 ?_);cases hi with
   | none =>
    rfl';exact#[zs,ts,_,_,_,Y,s3,cu,el,gp,lE.skip oG Y]
   | some h =>
    rfl';obtain⟨v,hv,rv⟩:=qv el (t:=mt) (by dsimp only at iP;lia);refine aE (aw.of g1) Y (aN (ah.of cu) hv (br g1 (br g2 ?_)));rfl';refine#[bg,λt1 gW=>?_];have ut:=aq (o:=.tup [.int h,.int i]) gW;have S4:=s3.trans ut;refine#[v,.ref t1,_,U (h,(i:Int)),Y,rv.same ut,#[t1,Y,ar],λy hy z=>?_];refine br (ut _ _ g1) ?_;exact#[zs,_,Y,ut _ _ cu,mt,C7 (by rw[hz.len,gp];dsimp only at iP;lia),C8 eQ S4 (ut _ _ cu) (el.imp λz z r=>r.same ut) gp hy (by dsimp only at iP;lia) (lE.put oG Y)]
  .rintro J H2 h;rw[l2] at h;exact hN _ _ h
 rintro z yR J H2 h2;subst yR;refine aH (oF (T2 ps ms) H a b l ps.length ps.length) (λN hN=>?_) ?_
 .obtain⟨zs,ts,d1,d2,d3,rfl,s2,cf,hz,gp,lE⟩:=h2;rfl';refine#[_,dN (s2.seq hS),?_];rw[l1];refine#[by lia,by lia,?_];rw[aat];refine nA (oF (T2 ps ms) H a b l ps.length) #[zs,ts,d1,d2,d3,Y,s2,cf,hz,gp,lE.two] ?_ (λJ H3 h=>hN _ _ h);rintro i J H3 hi ⟨zs,ts,d1,d2,d3,rfl,s3,cu,el,gp,V8⟩;have zl:=el.len;obtain⟨v,hv,rv⟩:=qv el (t:=i+1) (by lia);obtain⟨u,hu,ru⟩:=qv el (t:=i) (by lia);obtain⟨w,hw,tw,rfl,oH⟩:=hP.at (C5 hi);rfl';rw[show (0:Int)+(i:Int)=((i:Nat):Int) by lia,show ((i:Nat):Int)+1=((i+1:Nat):Int) by lia];refine aN (ah.of cu) hv (aN (ah.of cu) hu (aN (s3.seq hS) (dZ hw) (br (s3 _ _ oH) ?_)));refine#[u,_,_,Y,ru,λy H4 s4 hy=>?_];refine#[v,y,_,_,Y,rv.same s4,hy,λz oI z=>?_];exact#[zs,s4 _ _ cu,i+1,C7 (by lia),C8 eQ (s3.trans s4) (s4 _ _ cu) (el.imp λz z r=>r.same s4) gp oI (by lia) (V8.step ak ht hi)]
 rintro z yR J H3 h3;subst yR;refine aH (oF (λi=>T3 ps ms (ps.length-i)) H a b l ps.length ps.length) (λN hN=>?_) ?_
 .obtain⟨zs,ts,d1,d2,d3,rfl,s2,cf,hz,gp,lE⟩:=h3;rfl';refine#[_,dN (s2.seq hS),?_];rw[l1,V6];refine#[by lia,by lia,O8 (oF (λi=>T3 ps ms (ps.length-i)) H a b l ps.length) #[zs,ts,d1,d2,d3,Y,s2,cf,hz,gp,lE.three] ?_ (λJ H3 h=>hN _ _ h)];rintro i J H3 hi ⟨zs,ts,d1,d2,d3,rfl,s3,cu,el,gp,oJ⟩;have zl:=el.len;obtain⟨j,hj⟩:∃ j,ps.length=j+1+i:=#[ps.length-1-i,by lia]
  obtain⟨v,hv,rv⟩:=qv el (t:=j+1) (by lia);obtain⟨u,hu,ru⟩:=qv el (t:=j) (by lia);obtain⟨w,hw,tw,rfl,oH⟩:=hP.at (C5 (ps:=ps) (i:=j) (by lia));rfl';rw[show (ps.length:Int)-1+(i:Int) * -1=((j:Nat):Int) by lia,show ((j:Nat):Int)+1=((j+1:Nat):Int) by lia];refine aN (ah.of cu) hu (aN (ah.of cu) hv (aN (s3.seq hS) (dZ hw) (br (s3 _ _ oH) ?_)));rfl';refine#[v,_,_,Y,rv,λy H4 s4 hy=>?_];refine#[u,y,_,_,Y,ru.same s4,hy,λz oI z=>?_];refine#[zs,s4 _ _ cu,j,C7 (by lia),C8 eQ (s3.trans s4) (s4 _ _ cu) (el.imp λz z r=>r.same s4) gp oI (by lia) ?_];show T3 ps ms (ps.length-(i+1)) _;rw[show ps.length-(i+1)=j by lia];have oJ:T3 ps ms (ps.length-i) (dE ts):=oJ;rw[show ps.length-i=j+1 by lia] at oJ;exact oJ.step ak ht (by lia)
 rintro z yR J H4 ⟨zs,ts,d1,d2,d3,rfl,s4,gZ,jA,gp,Kv⟩;subst yR;rw[agj] at Kv;rfl';exact q l zs ts H4 s4 eQ gZ jA gp Kv.tops
inductive V9(K:ZF)(vs:List V)(H:Hp)(Q:VK)(aR:XK):Prop
 | mk(a b:ZX)(zs ys:List V)(ts:List (Option P2))(ms:List Mk)(_:vs=[.ref a,.ref b])(_:ah K H a zs)(_:ax (dH H) zs ts)(_:ah K H b ys)(_:ax (cU H) ys ms)(_:(∀ m∈ms,m.1<ts.length))(_:(rP ms (dE ts)->∀ H',aj H H'->Q .non H'))(_:(∀ (j:Nat) m l v k,ms[j]?=U m->m.2.1=U l->dE ts m.1=U (v,k)->v<l->∀ p H',aj H H'->H p=O->H' p=U (.tup [.int k,.int j])->Q (.ref p) H'))
inductive Wa(H:Hp)(a b:ZX)(ts:List (Option P2))(ms:List Mk)(i:Nat)(J:St)(H1:Hp):Prop
 | mk(e1 e2 e3:Option V)(_:J=[U (.ref a),U (.ref b),e1,e2,e3])(_:aj H H1)(_:rP (ms.take i) (dE ts))
theorem Wb(T:Tx K mg):Ok P w base 1 T.tm (V9 K):=by
 refine a9 ql ?_;rintro _ _ _ _ H _ _ _ _ ⟨a,b,zs,ys,ts,ms,rfl,hA,hZ,hT,hM,ht,q0,q⟩;refine#[_,(ao (dq aav Y (y7 Y T.wR (ae (aa 1) ag)) (fI Y (bK (bQ 2 ql.nd) (bK (bQ 3 ql.nd) fH))) (ao (aD 4 ql.nd (ay (aa 0) (ay (aa 3) af))) (au (aJ (PW.pt (dX (ee (aa 4)) (dX (ee (ay (ay (aa 3) af) af)) (eR (iI (ay (ay (aa 3) af) af) (ay (aa 4) af)))))) (au (aB (ba (ae (ay (aa 4) af) (ae (aa 2) ag))))) aK)))) (au (aB bT))),?_];have l1:=hZ.len;have l2:=hM.len;rfl';refine#[#[_,hT],zd (xs:=ys) (Wa H a b ts ms) #[_,_,_,Y,aj.refl _,λm h=>by simp at h] ?_ ?_ ?_]
 .rintro i J H2 _ ⟨_,_,_,_,s2,_⟩;exact s2.seq hT
 .rintro i x J H2 p hx ⟨d1,d2,d3,rfl,s2,cS⟩ hp;obtain⟨m,oG,tp,sp,rfl,h1,h2⟩:=hM.get hx;have iP:=ht m (Z2 oG);have up:=aq (o:=.tup [.int i,.ref tp]) hp;refine kI (aw.of ar) ?_;generalize upd H2 p (.tup [.int i,.ref tp])=H3 at up ⊢;have s3:=s2.trans up;have g1:=s3 _ _ h1;have g2:=s3 _ _ h2;have next:(∀ l v k,m.2.1=U l->dE ts m.1=U (v,k)->l<=v)->rP (ms.take (i+1)) (dE ts):=λhh n hn=>by
   rw[abq,oG] at hn;rcases aaf.mp hn with z|z
   .exact cS n z
   .obtain rfl:n=m:=by simpa using z
    exact hh
  obtain⟨v,hv,rv⟩:=qv hZ iP;obtain⟨mt,lo,hi⟩:=m;rfl';refine aE (aw.of g1) Y (aN (s3.seq hA) hv ?_);cases et:dE ts mt with
  | none =>
   rw[show dE ts (mt,lo,hi).1=O from et] at rv;obtain rfl:v = .non:=rv;rfl';exact#[_,_,_,Y,s3,next λl v k _ e=>by rw[show dE ts (mt,lo,hi).1=O from et] at e;cases e]
  | some q2 =>
   obtain⟨w,k⟩:=q2;rw[show dE ts (mt,lo,hi).1=U (w,k) from et] at rv;obtain⟨rt,rfl,hrt⟩:=rv;rfl';refine br g1 (br g2 ?_);cases lo with
   | none =>
    rfl';exact#[_,_,_,Y,s3,next λl v k e _=>by cases e]
   | some l =>
    rfl';refine br g1 (br g2 (br (s3 _ _ hrt) ?_));rfl';refine aZ (λhc=>?_) λhc=>?_
    .exact aE (aw.of (s3 _ _ hrt)) Y #[bg,λr bJ=>q i _ l w k oG Y et hc r _ (s3.trans (aq bJ)) (s3.free bJ) ar]
    .exact#[_,_,_,Y,s3,next λl' v' k' e1 e2=>by
      cases e1;rw[show dE ts (mt,U l,hi).1=U (w,k) from et] at e2;cases e2;lia]
 .rintro J H2 ⟨d1,d2,d3,rfl,s2,cS⟩;rfl';rw[l2,abv] at cS;exact q0 cS _ s2
inductive dU(H:Hp)(v:V)(c:Cl):Prop
 | mk(t a b:ZX)(_:v = .ref t)(_:H t=U (.tup [.ref a,.ref b]))(_:H a=U (.tup [ev c.1.1,.int c.1.2]))(_:H b=U (.tup [ev c.2.1,.int c.2.2]))
theorem dU.same(h:dU H v r)(s:aj H H'):dU H' v r:=let ⟨t,a,b,e,h1,h2,h3⟩:=h;#[t,a,b,e,s _ _ h1,s _ _ h2,s _ _ h3]
theorem dU.put(h:dU H v r)(hl:H l=U (.lst ys)):dU (upd H l o) v r:=by
 obtain⟨t,a,b,e,h1,h2,h3⟩:=h;have nl:∀ (z:ZX) (vs:List V),H z=U (.tup vs)->z≠l:=λz vs e1 e2=>by rw[e2,hl] at e1;cases e1
 exact#[t,a,b,e,by rw[aF (nl _ _ h1)];exact h1,by rw[aF (nl _ _ h2)];exact h2,by rw[aF (nl _ _ h3)];exact h3]
theorem Wc(h:dH H v o)(hl:H l=U (.lst ys))(k:∀ b o,b≠l->H b=U o->H' b=U o):dH H' v o:=by
 cases o with
 | none=>exact h
 | some p =>
  obtain⟨t,e,a⟩:=h;exact#[t,e,k _ _ (λz=>by rw[z,hl] at a;cases a) a]
inductive qw(ps:List P2)(gs:List Gp)(i j:Nat)(H:Hp)(l:ZX):Prop
 | mk(zs:List V)(cs:List Cl)(_:H l=U (.lst zs))(_:ax (dU H) zs cs)(_:cs.length<=8 * i+j)(_:so ps gs cs)(_:∀ i' j' g h,gs[i']?=U g->gs[j']?=U h->(i'<i∨(i'=i/\j'<j))->jn ps g h cs)
theorem qw.same(h:qw ps gs i j H l)(s:aj H H'):qw ps gs i j H' l:=let ⟨zs,cs,a,b,c1,c2,c3⟩:=h;#[zs,cs,s _ _ a,b.imp λy y x=>x.same s,c1,c2,c3]
inductive Wd(K:ZF)(vs:List V)(H:Hp)(Q:VK)(aR:XK):Prop
 | mk(a b:ZX)(xs ys:List V)(ps:List P2)(gs:List Gp)(_:vs=[.ref a,.ref b])(_:ah K H a xs)(_:dv H xs ps)(_:eL ps)(_:ps.length<=900)(_:ah K H b ys)(_:ax (qt H) ys gs)(_:gs.length<=8)(_:(∀ g∈gs,g.2.length<=1000/\∀ m∈g.2,m.1<=ps.length))(_:∀ l zs cs H',aj H H'->H l=O->H' l=U (.lst zs)->ax (dU H') zs cs->cs.length<=8 * gs.length->so ps gs cs->(∀ g∈gs,∀ h∈gs,jn ps g h cs)->Q (.ref l) H')
inductive Kw(H:Hp)(a b l:ZX)(ps:List P2)(gs:List Gp)(i:Nat)(J:St)(H1:Hp):Prop
 | mk(e1 e2 e3 e4 e5 e6:Option V)(_:J=[U (.ref a),U (.ref b),U (.ref l),e1,e2,e3,e4,e5,e6])(_:aj H H1)(_:qw ps gs i 0 H1 l)
inductive We(H H0:Hp)(a b l:ZX)(nm mk tp:V)(ps:List P2)(gs:List Gp)(i j:Nat)(J:St)(H1:Hp):Prop
 | mk(e4 e5 e6:Option V)(_:J=[U (.ref a),U (.ref b),U (.ref l),U nm,U mk,U tp,e4,e5,e6])(_:aj H H1)(_:(∀ b o,b≠l->H0 b=U o->H1 b=U o))(_:qw ps gs i j H1 l)
theorem Kx(T:Tx K mg):Ok P w base 3 T.tG (Wd K):=by
 refine a9 kh ?_;rintro u u u u H u u u hr ⟨a,b,xs,ys,ps,gs,rfl,hS,hP,ak,hn,hG,hA,h7,hm,q⟩;refine#[_,(ao (aD 2 kh.nd (cH ag)) (ao (dq aav Y (df (aa 1)) (fI Y (bK (bQ 3 kh.nd) (bK (bQ 4 kh.nd) fH))) (ao (aD 5 kh.nd (aA (V7 T) hr (ae (aa 0) (ae (aa 4) ag)))) (au (dq aav Y (df (aa 1)) (fI Y (bK (bQ 6 kh.nd) (bK (bQ 7 kh.nd) fH))) (ao (aD 8 kh.nd (aA (Wb T) hr (ae (aa 5) (ae (aa 7) ag)))) (au (aJ (ee (aa 8)) (au (eS (nu aaW ab1 ab2 q9 (aa 2) (ae (ba (ae (ba (ae (aa 3) (ae (ay (ay (aa 4) (ay (aa 8) af)) af) ag))) (ae (ba (ae (aa 6) (ae (ay (ay (aa 7) (ay (aa 8) af)) af) ag))) ag))) ag)))) aK))))))) (au (aB (aa 2))))),?_];have yl:=hA.len;refine aH (λJ H1=>∃ l,J=[U (.ref a),U (.ref b),U (.ref l),O,O,O,O,O,O]/\aj H H1/\H l=O/\H1 l=U (.lst [])) (λN hN=>?_) ?_
 .rfl';exact#[by decide,λl hl=>hN _ _ #[l,Y,aq hl,hl,ar]]
 rintro u yR J H1 ⟨l,rfl,s1,fl,hl⟩;subst yR;refine aH (λJ H2=>Kw H a b l ps gs ys.length J H2) (λN hN=>?_) ?_
 .rfl';refine#[#[_,s1.seq hG],kE (xs:=ys) (Kw H a b l ps gs) #[_,_,_,_,_,_,Y,s1,[],[],hl,trivial,Z3 _,λu h=>(nomatch h),λu u u u u u h=>by lia] ?_ ?_ (λJ H' h=>hN _ _ h)]
  .rintro i J H2 u ⟨u,u,u,u,u,u,u,s2,u⟩;exact s2.seq hG
  .rintro i x J H2 hx ⟨u,u,u,u,u,u,rfl,s2,h2⟩;obtain⟨r,hr,gg,k,zs,rfl,h3,h4,h5⟩:=hA.get hx;have C9:=hm r (Z2 hr);refine kI (aw.of (s2 _ _ h3)) ?_;rfl';refine#[a,k,xs,zs,ps,r.2,Y,s2.seq hS,hP.same s2,ah.of (s2 _ _ h4),h5.imp λu u x=>x.same s2,ak,hn,C9.1,C9.2,λtp us ts H3 s3 Ky Wf Wg gp TT=>?_];have S3:=s2.trans s3;rfl';refine#[#[_,S3.seq hG],kE (xs:=ys) (We H H3 a b l (ev r.1) (.ref k) (.ref tp) ps gs i) #[_,_,_,Y,S3,λu u u e=>e,h2.same s3] ?_ ?_ ?_]
   .rintro j J H4 u ⟨u,u,u,u,s4,u,u⟩;exact s4.seq hG
   .rintro j y J H4 hy ⟨u,u,u,rfl,s4,b4,ws,cs,h6,oK,h8,h9,qx⟩;obtain⟨r',qy,Zf,k',w9,rfl,g3,g4,g5⟩:=hA.get hy;have Dc:=hm r' (Z2 qy);obtain⟨ls,u,hls,u⟩:=h2;have Wh:tp≠l:=λz=>by rw[z,hls] at Ky;cases Ky
    have xa:=b4 _ _ Wh Wf;have jA:=Wg.imp λu u x=>Wc x (s3 _ _ hls) b4;have mX:∀ xb:List Cl,(∀ i' j' g h,gs[i']?=U g->gs[j']?=U h->(i'<i∨(i'=i/\j'<j))->jn ps g h xb)->jn ps r r' xb->∀ i' j' g h,gs[i']?=U g->gs[j']?=U h->(i'<i∨(i'=i/\j'<j+1))->jn ps g h xb:=λxb Wi Wj i' j' g h a1 a2 a3=>by
     by_cases hz:i'=i/\j'=j
     .obtain⟨rfl,rfl⟩:=hz;rw[hr] at a1;rw[qy] at a2;cases a1;cases a2;exact Wj
     .exact Wi i' j' g h a1 a2 (by lia)
    refine kI (aw.of (s4 _ _ g3)) ?_;rfl';refine#[tp,k',us,w9,ts,r'.2,Y,ah.of xa,jA,ah.of (s4 _ _ g4),g5.imp λu u x=>x.same s4,λm bI=>by have:=Dc.2 m bI;lia,λcS H5 s5=>?_,λjj m lo v kk e1 e2 e3 e4 p H5 s5 fp hp=>?_]
    .rfl';exact#[_,_,_,Y,s4.trans s5,λb o hb e=>s5 _ _ (b4 b o hb e),qw.same #[ws,cs,h6,oK,by lia,h9,mX cs qx λm m1 n n1 hc=>absurd hc (Tg TT C9.2 Dc.2 cS m1 n1)] s5]
    .obtain⟨i',a',rfl,aV,hc⟩:=TT.clash (Dc.2 m (Z2 e1)) e3 e2 e4;have lD:=s5 _ _ h6;have S5:=s4.trans s5;obtain⟨v1,lh,t1,w1,rfl,m1,u⟩:=(h5.imp λu u x=>cU.same x S5).at aV;obtain⟨v2,n9,t2,w2,rfl,m2,u⟩:=(g5.imp λu u x=>cU.same x S5).at e1;rfl';refine#[.inl #[Y,_,ah.of lD],aE (aw.of hp) (v:=.int i') Y (aN (ah.of (S5 _ _ h4)) (dZ lh) (aE (aw.of m1) (v:=.int a'.1) Y #[bg,λp1 fS=>?_]))];have u1:=aq (o:=.tup [ev r.1,.int a'.1]) fS;refine aE (aw.of (u1 _ _ hp)) (v:=.int jj) Y (aN (ah.of (u1 _ _ (S5 _ _ g4))) (dZ n9) (aE (aw.of (u1 _ _ m2)) (v:=.int m.1) Y #[bg,λp2 dC=>#[bg,λp3 gk=>?_]]));have u2:=aq (o:=.tup [ev r'.1,.int m.1]) dC;have u3:=aq (o:=.tup [.ref p1,.ref p2]) gk;have U9q:=u1.trans (u2.trans u3);have Dd:=U9q _ _ lD;have cq:dU (upd (upd (upd H5 p1 (.tup [ev r.1,.int a'.1])) p2 (.tup [ev r'.1,.int m.1])) p3 (.tup [.ref p1,.ref p2])) (.ref p3) ((r.1,a'.1),(r'.1,m.1)):=#[p3,p1,p2,Y,ar,u3 _ _ (u2 _ _ ar),u3 _ _ ar]
     have wl:ws.length<=100:=by have e8:=oK.len;have b1:=(ZL.mp hr).1;have b2:=(ZL.mp qy).1;lia
     refine#[ws,Dd,aaS wl (by decide),_,_,_,Y,jK fl (S5.trans U9q),λb o hb e=>by rw[aF hb];exact U9q _ _ (s5 _ _ (b4 b o hb e)),_,cs++[((r.1,a'.1),(r'.1,m.1))],ar,ax.app (oK.imp λu u x=>(x.same (s5.trans U9q)).put Dd) #[cq.put Dd,trivial],by rw[aac,aab];lia,λc gB=>?_,mX _ (λi' j' g h a1 a2 a3=>(qx i' j' g h a1 a2 a3).more) λu u u u u=>#[_,aaa _ (.head _),Y,Y]];rcases aaf.mp gB with z|z
     .exact h9 c z
     .rw[aap.mp z];exact#[r,Z2 hr,r',Z2 qy,a',Z2 aV,m,Z2 e1,Y,hc]
   .rintro J H4 ⟨u,u,u,rfl,s4,u,ws,cs,h6,oK,h8,h9,qx⟩;exact#[_,_,_,_,_,_,Y,s4,ws,cs,h6,oK,by lia,h9,λi' j' g h a1 a2 a3=>qx i' j' g h a1 a2 (by have:=(ZL.mp a2).1;lia)]
 rintro u yR J H2 ⟨u,u,u,u,u,u,rfl,s2,ws,cs,h6,oK,h8,h9,qx⟩;subst yR;rfl';exact q l ws cs H2 s2 fl h6 oK (by lia) h9 λg hg h hh=>by obtain⟨i',aV⟩:=abh.mp hg;obtain⟨j',rD⟩:=abh.mp hh;exact qx i' j' g h aV rD (.inl (by have:=(ZL.mp aV).1;lia))
theorem Kz(h : -d<=u)(hy:ax (cF H) ys (c7 u d [] n)):dv H ys (aaH n (-d,u)):=by
 have e:c7 u d [] n=(aaH n (-d,u)).map fB:=by
  rw[ag6];unfold c7;refine adB (by simp) λk h1 h2=>?_;rw[ahI,List.getElem_replicate];show cK (O,O) [(U (-d),U u)]=U (U (-d),U u);unfold cK;rw[if_neg]
  .rfl
  .show ¬ (aS (U (-d)) (U u))=true;simp[aS];lia
 rw[e] at hy;exact wx hy
theorem Wk(hl:H1 l=U (.lst ys))(hM:ax (dU H1) ys rs)(s:aj H1 H'):l8 K l ys (rowOf H1) 2 H':=by refine#[ah.of (s _ _ hl),λx hx=>?_];obtain⟨i,hi⟩:=abh.mp hx;obtain⟨m,y,t,a,b,rfl,h1,y⟩:=hM.get hi;rw[jf h1];exact#[t,Y,aw.of (s _ _ h1),Y]
theorem KA:∀ {zs:List V} {rs:List P2},ax (bC H) zs rs->fk K H zs (lj rs)
 | [],[],_=>trivial
 | _::_,_::_,h=>#[let ⟨t,e,a⟩:=h.1;#[t,e,aw.of a,λz=>nomatch z],KA h.2]
 | [],_::_,h=>h.elim
 | _::_,[],h=>h.elim
noncomputable def km(k:List Int):P2:=(k.getD 0 0,k.getD 1 0)
noncomputable def gu(r:P2):P2:=(if r.2<r.1 then r.2 else r.1,if r.1<r.2 then r.2 else r.1)
noncomputable def cP(c:Cl):P2:=(c.1.1.getD 0,c.2.1.getD 0)
def mY(t u d:Int)(tb:Tb)(s:List Int):Prop:=∃ c,fq (aaH (t-1).toNat (-d,u)) c/\meets (cp tb s) c
theorem KC(r:P2)(s:List Int):(s.contains (gu r).1 || s.contains (gu r).2)=(s.contains r.1 || s.contains r.2):=by
 unfold gu;dsimp only;by_cases h1:r.2<r.1
 .rw[if_pos h1,if_neg (by lia),Bool.or_comm]
 .by_cases h2:r.1<r.2
  .rw[if_neg h1,if_pos h2]
  .rw[if_neg h1,if_neg h2,show r.1=r.2 by lia]
theorem Wl(ak:bF e t tb)(h1:1<=t)(De : -d<=u)(hs:so (aaH (t-1).toNat (-d,u)) ((iF e.toNat tb).map λr=>(U r.1,r.2)) cs)(hc:∀ g∈(iF e.toNat tb).map λr=>((U r.1,r.2):Gp),∀ h∈(iF e.toNat tb).map λr=>((U r.1,r.2):Gp),jn (aaH (t-1).toNat (-d,u)) g h cs)(hp:∀ p,p∈ps ↔ ∃ c∈cs,p=gu (cP c))(s:List Int):dS ps s=true↔mY t u d tb s:=by
 have ml:∀ r∈tb,r.1.2.toNat<=(aaH (t-1).toNat ((-d,u):P2)).length:=λr hr=>by have ho:=ak.2 r hr;unfold eY at ho;rw[aaI];lia
 have nm:∀ c∈cs,∃ i j:Int,c.1.1=U i/\c.2.1=U j/\∃ m∈jg tb i,∃ n∈jg tb j,clash (aaH (t-1).toNat (-d,u)) m n:=λc gB=>by obtain⟨g,hg,h,hh,m,hm,n,hn,rfl,aY⟩:=hs c gB;obtain⟨g1,fA,rfl⟩:=ZN.mp hg;obtain⟨h2,Df,rfl⟩:=ZN.mp hh;obtain⟨i,v,rfl⟩:=ZN.mp fA;obtain⟨j,v,rfl⟩:=ZN.mp Df;exact#[_,_,Y,Y,m,hm,n,hn,aY]
 unfold dS;rw[aaw];constructor
 .intro fN;have Dg:qd s cs:=λc gB=>by
   obtain⟨i,j,e1,e2,v⟩:=nm c gB;have:=fN _ ((hp _).mpr #[c,gB,Y]);rw[KC,abJ,abE,abE] at this;unfold cP at this;rw[e1,e2] at this;unfold gd;rcases this with z|z
   .exact#[i,z,by rw[e1,decide_eq_true Y];rfl]
   .exact#[j,z,by rw[e2,decide_eq_true Y,Bool.or_true]]
  obtain⟨c,c1,c2⟩:=Jn (ps:=aaH (t-1).toNat (-d,u)) (gm:=[]) (es:=s) ak (λpp oM=>by rw[adP oM];exact De) (λm hm=>by
   obtain⟨r,hr,v,rfl⟩:=fc.mp (show m∈cp tb s from hm);exact ml r hr) Dg (λg hg h hh=>by
   rcases ZO.mp hg with rfl|hg
   .exact λm hm=>by cases hm
   rcases ZO.mp hh with rfl|hh
   .exact λm v n hn=>by cases hn
   exact hc g hg h hh)
  exact#[c,c1,c2]
 .rintro ⟨c,c1,c2⟩ p oM;obtain⟨cl,gB,rfl⟩:=(hp p).mp oM;obtain⟨i,j,e1,e2,m,hm,n,hn,aY⟩:=nm cl gB;rw[KC,abJ,abE,abE];unfold cP;rw[e1,e2];refine ady λz=>?_;obtain⟨r,hr,rfl,rfl⟩:=qb.mp hm;obtain⟨r',qy,rfl,rfl⟩:=qb.mp hn;refine HH c1 c2 (λm hm=>?_) (fc.mpr #[r,hr,λy=>z (.inl y),Y]) (fc.mpr #[r',qy,λy=>z (.inr y),Y]) aY;obtain⟨r2,uv,v,rfl⟩:=fc.mp hm;exact ml r2 uv
inductive Wm(K:ZF)(B:ZX)(vs:List V)(H:Hp)(Q:VK)(aR:XK):Prop
 | mk(x p:ZX)(e t u d m:Int)(tb:Tb)(_:vs=[.ref x])(_:dj B H x e t u d m p tb)(_:bF e t tb)(_:tb.length<64)(_:0<=e)(_:e<=7)(_:1<=t)(_:t<=12)(_:0<=u)(_:0<=d)(_:∀ l ys ps H',aj H H'->H l=O->H' l=U (.lst ys)->ps.length<=64->(∀ s,dS ps s=true↔mY t u d tb s)->ax (bC H') ys ps->Q (.ref l) H')
theorem Wn(T:Tx K mg):Ok P w base 5 T.tH (Wm K T.aI):=by
 refine a9 sJ ?_;rintro y y y s H y Q y hr ⟨x,p,e,t,u,d,m,tb,rfl,hb,ak,bO,e0,e7,t1,qz,u0,d0,q⟩;refine#[_,(ao (aD 1 sJ.nd (aA (Kx T) hr (ae (aA (C3 T) hr (ae (aa 0) (ae (cH ag) ag))) (ae (aA (Kg T) hr (ae (aa 0) ag)) ag)))) (ao (Ov (g:=iW K 2 (cA (bU 0) (cA (bU 1) ia))) (i:=2) (i7.mk (own:=["one","other"]) (fr:=[]) (ys:=[]) Y (by decide +kernel) Y (by decide +kernel) Y .nil .nil rfl) Y sJ.nd Y Y (df (aa 1)) (λC s2 H2 ex pn=>fI (n:=2) Y (bK (eE (i:=0) (show (["one","other"]:List Str).Nodup by decide) Y (.inl (aad Y)) (.inr (aad Y))) (bK (eE (i:=1) (show (["one","other"]:List Str).Nodup by decide) Y (.inl (aad Y)) (.inr (aad Y))) fH))) (λC s2 H2 ex pn=>#[fV,(ba (ae (bp (qW Y) (by rfl) T.mU lP (ae (di (K:=K) (aa 0) af) (ae (di (K:=K) (aa 1) af) ag))) (ae (bp (Es Y) (by rfl) T.CS yA (ae (di (K:=K) (aa 0) af) (ae (di (K:=K) (aa 1) af) ag))) ag)))])) (au (aB (SW Y hr.units (aa 2) (by rfl) T.uh rg (by rfl) T.JX IG))))),?_];obtain⟨⟨dx,hx⟩,htb⟩:=id hb;rfl';obtain⟨kvs,fT,KD⟩:=id htb;refine#[Z3 _,λr bJ=>?_];have u1:=aq (o:=.lst []) bJ;refine#[x,p,r,e,t,u,d,m,kvs,[],[],Y,#[#[dx,u1 _ _ hx],u1 _ _ fT],t1,qz,ah.of ar,trivial,by decide,λz=>absurd (λy h=>(nomatch h)) z,λy st sv H1 s1 y bG hy=>?_];have S1:=u1.trans s1;refine#[x,p,e,t,u,d,m,tb,Y,hb.same S1,ak.1,bO,λr hr=>(ak.2 r hr).2.1,e0,e7,λgl gv H2 s2 y gf Wo=>?_];have S2:=S1.trans s2;have Wq:=(Kz (n:=(t-1).toNat) (by lia) hy).same s2;have gn:((iF e.toNat tb).map λr=>((U r.1,r.2):Gp)).length<=7:=by unfold iF;rw[ZJ,ZJ,Z8];lia
 refine#[st,gl,sv,gv,aaH (t-1).toNat (-d,u),(iF e.toNat tb).map λr=>(U r.1,r.2),Y,ah.of (s2 _ _ bG),Wq,λpp oM=>by rw[adP oM];show -d<=u;lia,by rw[aaI];lia,ah.of gf,Wo,by lia,λgq Wr=>?_,λfl fv cs H3 s3 y xf Dh aY xg kG=>?_]
 .obtain⟨g1,fA,rfl⟩:=ZN.mp Wr;obtain⟨i,y,rfl⟩:=ZN.mp fA;refine#[ZQ (by unfold jg;rw[ZJ];exact ZQ (aan _ _) (by rw[kS];exact ZS _)) (by lia:tb.length<=1000),λmm bI=>?_];obtain⟨r,hr,y,rfl⟩:=qb.mp bI;have gQ:=ak.2 r hr;unfold eY at gQ;rw[aaI];show r.1.2.toNat<=_;lia
 have S3:=S2.trans s3;have Zg:=Dh.len;have KG:∀ c∈cs,∃ a b:Nat,a<7/\b<7/\c.1.1=U (a:Int)/\c.2.1=U (b:Int):=λc gB=>by obtain⟨g,hg,h,hh,m,hm,n,hn,rfl,y⟩:=xg c gB;obtain⟨g1,fA,rfl⟩:=ZN.mp hg;obtain⟨h2,Df,rfl⟩:=ZN.mp hh;obtain⟨i,hi,rfl⟩:=ZN.mp fA;obtain⟨j,hj,rfl⟩:=ZN.mp Df;have:=aas.mp hi;have:=aas.mp hj;exact#[i,j,by lia,by lia,Y,Y]
 rfl';refine#[#[_,ah.of xf],HR (row:=rowOf H3) (ZQ (by lia:fv.length<=64) (by decide)) (fW (R:=λ_ x (r:Cl)=>dU H3 x r) (R':=bC) (f:=λc=>gu (cP c)) (λy y y y y h=>h) (λy y y y s' h=>h.same s') Dh (bs:=[]) trivial (λH' s'=>Wk xf Dh s') (λv k y H4 s4 h1 Q h=>?_) (λv k hk H4 s4 h1 Q h=>?_) λH4 zs s4 hz=>?_)]
 .obtain⟨ta,a1,b1,rfl,ha,y⟩:=h1;unfold jT;dsimp only;rw[jf ha];rfl';exact h
 .obtain⟨ta,a1,b1,rfl,ha,Di,jq⟩:=h1;obtain⟨i,j,y,y,e1,e2⟩:=KG k hk;unfold jU;dsimp only;rw[jf ha];rw[e1] at Di;rw[e2] at jq;have ek:cP k=((i:Int),(j:Int)):=by unfold cP;rw[e1,e2];rfl
  rw[ek] at h;rfl';refine aE (aw.of (s4 _ _ Di)) (v:=.int (i:Int)) Y (aE (aw.of (s4 _ _ jq)) (v:=.int (j:Int)) Y #[_,Y,_,Y,aE (aw.of (s4 _ _ Di)) (v:=.int (i:Int)) Y (aE (aw.of (s4 _ _ jq)) (v:=.int (j:Int)) Y #[_,Y,_,Y,bg,λt1 gW=>h _ _ (aq gW) #[t1,Y,ar]])])
 rw[aal] at hz;have zl:=hz.len;rw[ZJ] at zl;intro pl dJ;have u5:=aq (o:=.lst zs) dJ;have oI:=hz.imp λy y r=>r.same u5;have S5:=S3.trans (s4.trans u5);generalize Ws:upd H4 pl (.lst zs)=H5 at u5 oI S5;have Wt:H5 pl=U (.lst zs):=by rw[<- Ws];exact ar
 refine#[pl,zs,lj (cs.map λc=>gu (cP c)),Y,ah.of Wt,KA oI,by lia,S0 λk hk=>?_,λM mn mk mj l hl=>?_]
 .obtain⟨r,hr,rfl⟩:=ZN.mp hk;obtain⟨r0,bJ,rfl⟩:=ZN.mp hr;obtain⟨a,b,ha,hb,e1,e2⟩:=KG r0 bJ;unfold gu cP;rw[e1,e2];dsimp only [ac0];by_cases cD:(b:Int)<(a:Int)
  .exact#[b,a,hb,ha,by rw[if_pos cD,if_neg (by lia)]]
  .by_cases hba:(a:Int)<(b:Int)
   .exact#[a,b,ha,hb,by rw[if_neg cD,if_pos hba]]
   .exact#[a,a,ha,ha,by rw[if_neg cD,if_neg hba]]
 have k2:∀ mm∈M,[(km mm.1).1,(km mm.1).2]=mm.1:=λmm bI=>by obtain⟨r,hr,e1⟩:=ZN.mp ((mk mm.1).mp (ZN.mpr #[mm,bI,Y]));rw[<- e1];rfl
 have kk:lj (M.map λmm=>km mm.1)=M.map (·.1):=by unfold lj;rw[abg];exact acm λmm bI=>k2 mm bI
 have nd:(M.map λmm=>km mm.1).Nodup:=by
  have:(lj (M.map λmm=>km mm.1)).Nodup:=by rw[kk];exact mn
  exact List.Pairwise.of_map _ (λa b h e=>h (by rw[e])) this
 have mem:∀ p2,p2∈(M.map λmm=>km mm.1) ↔ ∃ c∈cs,p2=gu (cP c):=λp2=>by
  constructor
  .intro dC;obtain⟨mm,bI,e2⟩:=ZN.mp dC;obtain⟨r,hr,e1⟩:=ZN.mp ((mk mm.1).mp (ZN.mpr #[mm,bI,Y]));obtain⟨r0,bJ,rfl⟩:=ZN.mp hr;refine#[r0,bJ,?_];rw[<- e2,<- e1];rfl
  .rintro ⟨r0,bJ,rfl⟩;have hk:[(gu (cP r0)).1,(gu (cP r0)).2]∈lj (cs.map λc=>gu (cP c)):=ZN.mpr #[gu (cP r0),ZN.mpr #[r0,bJ,Y],Y];obtain⟨mm,bI,e1⟩:=ZN.mp ((mk _).mpr hk);refine ZN.mpr #[mm,bI,?_];rw[e1];rfl
 have lk:(sj (M.map λmm=>km mm.1)).length<=64:=by
  unfold sj;rw[vL];have:=sm _ (cs.map λc=>gu (cP c)) nd λx hx=>by obtain⟨c,hc,rfl⟩:=(mem x).mp hx;exact ZN.mpr #[c,hc,Y]
  simp only[ZJ] at this ⊢;lia
 refine q l _ (sj (M.map λmm=>km mm.1)) _ (S5.trans (aq hl)) (S5.free hl) ar lk (Wl ak t1 (by lia) xg kG λp=>?_) ?_
 .unfold sj;rw[kK.mem_iff];exact mem p
 .unfold sj;rw[kk];have u6:=aq (o:=.lst (b7 (M.map (·.1)) V.non (M.map λmm=>V.ref mm.2))) hl;refine ax.sort ?_;have all:∀ mm∈M,bC (upd H5 l (.lst (b7 (M.map (·.1)) V.non (M.map λmm=>V.ref mm.2)))) (V.ref mm.2) (km mm.1):=λmm bI=>by
   obtain⟨j,j1,j2⟩:=mj mm bI;obtain⟨r,hr,hpt⟩:=oI.get j1;have:mm.1=[r.1,r.2]:=by
    have e3:(lj (cs.map λc=>gu (cP c)))[j]?=U [r.1,r.2]:=by unfold lj;rw[Z1,hr];rfl
    rw[e3] at j2;exact (Option.some.inj j2).symm
   rw[this];exact hpt.same u6
  have go:∀ M':List (List Int × ZX),(∀ mm∈M',mm∈M)->ax (bC (upd H5 l (.lst (b7 (M.map (·.1)) V.non (M.map λmm=>V.ref mm.2))))) (M'.map λmm=>V.ref mm.2) (M'.map λmm=>km mm.1):=λM'=>by
   induction M' with
   | nil=>intro y;exact trivial
   | cons mm M' ih=>intro iC;exact#[all mm (iC mm (.head _)),ih λx hx=>iC x (.tail _ hx)]
  exact go M λy h=>h
def g8(H0 H:Hp)(v:V)(s:List Int):Prop:=∃ l,v = .ref l/\H0 l=O/\H l=U (.lst (s.map V.int))
theorem g8.same(h:g8 H0 H v s)(u:aj H H'):g8 H0 H' v s:=let ⟨l,e,f,a⟩:=h;#[l,e,f,u _ _ a]
theorem g8.is(h:g8 H0 H v s):rW H v s:=let ⟨l,e,f,a⟩:=h;#[l,e,a]
inductive Wu(K:ZF)(vs:List V)(H:Hp)(Q:VK)(aR:XK):Prop
 | mk(n:Nat)(_:vs=[.int n])(_:n<=7)(_:∀ l ys H',aj H H'->H' l=U (.lst ys)->ax (g8 H H') ys (cc n)->Q (.ref l) H')
inductive Wv(H:Hp)(n i:Nat)(J:St)(H1:Hp):Prop
 | mk(l:ZX)(ys:List V)(e:Option V)(_:J=[U (.int n),U (.ref l),e])(_:aj H H1)(_:H1 l=U (.lst ys))(_:ax (g8 H H1) ys (cc i))
theorem Ww(T:Tx K mg):Ok P w base 1 T.tI (Wu K):=by
 refine a9 qm ?_;rintro y y y s H y Q y y ⟨n,rfl,hn,q⟩;refine#[_,(ao (aD 1 qm.nd (cH (ae (cH ag) ag))) (ao (dq aav Y (gC Y T.fR (ae (aa 0) ag)) (bQ 2 qm.nd) (au (aD 1 qm.nd (aC jI (aa 1) (eX (cO [2] ["eye"]) Y (df (aa 1)) (λC s2 H2 ex pn=>#[fV,(aC jI (aa 0) (cH (ae (aa 1) ag)))])))))) (au (aB (aa 1))))),?_];rfl';refine#[Z3 _,λp hp=>#[by decide,λr bJ=>#[by lia,by lia,?_]]];have u1:=aq (o:=.lst []) hp;have u2:=aq (o:=.lst [.ref p]) bJ;rw[aat];refine nA (Wv H n) #[r,_,_,Y,u1.trans u2,ar,#[#[p,Y,hp,u2 _ _ ar],trivial]] ?_ ?_
 .rintro i J H1 hi ⟨l,ys,e,rfl,s1,hl,hy⟩;have yl:=hy.len;rw[rT] at yl;have p2:2 ^ i<=2 ^ 7:=aes (by decide) (by lia);rfl';refine#[#[_,ah.of hl],d8 jN (ZQ (by lia:ys.length<=128) (by decide)) (fW (R:=g8 H) (R':=g8 H) (f:=λs=>s++[((i:Nat):Int)]) (λy y y y s' h=>h.same s') (λy y y y s' h=>h.same s') hy (bs:=[]) trivial (λH' s'=>ah.of (s' _ _ hl)) (λx s y H2 s2 r Q h=>?_) (λx s hs H2 s2 r Q h=>?_) λH2 zs s2 hz=>?_)]
  .rfl';exact h
  .obtain⟨a,rfl,fa,ha⟩:=r;have sl:=rV i s hs;rfl';refine#[by decide,λb hb=>#[_,(aq hb) _ _ ha,_,ar,ZQ (by rw[ZJ];show s.length+1<=20;lia) (by decide),λc hc=>h _ _ ((aq hb).trans (aq hc)) #[c,Y,((s1.trans s2).trans (aq hb)).free hc,?_]]];rw[ar,aa2,show (0:Int)+(i:Int)=((i:Nat):Int) by lia];rfl
  .rw[aal] at hz;intro d hd;have ud:=aq (o:=.lst zs) hd;have zl:=hz.len;rw[ZJ,rT] at zl;refine#[d,Y,ys,(s2.trans ud) _ _ hl,zs,ar,ZQ (by lia:ys.length+zs.length<=256) (by decide),λc hc=>?_];have uc:=aq (o:=.lst (ys++zs)) hc;exact#[c,_,_,Y,s1.trans (s2.trans (ud.trans uc)),ar,(hy.imp λy y r=>r.same (s2.trans (ud.trans uc))).app (hz.imp λy y r=>r.same (ud.trans uc))]
 .rintro J H1 ⟨l,ys,e,rfl,s1,hl,hy⟩;rfl';exact q l ys H1 s1 hl hy
theorem Wx(hl:ah K H1 l ys)(hM:ax (bC H1) ys rs)(s:aj H1 H'):l8 K l ys (rowOf H1) 2 H':=by refine#[s.seq hl,λx hx=>?_];obtain⟨i,hi⟩:=abh.mp hx;obtain⟨m,y,t,rfl,h1⟩:=hM.get hi;rw[jf h1];exact#[t,Y,aw.of (s _ _ h1),Y]
theorem Dj:∀ {ws:List V} {bs:List Bool},ax (λv b=>v=V.bl b) ws bs->ws=bs.map V.bl
 | [],[],_=>rfl
 | _::_,_::_,h=>by rw[h.1,Dj h.2];rfl
 | [],_::_,h=>h.elim
 | _::_,[],h=>h.elim
inductive Wy(K:ZF)(vs:List V)(H:Hp)(Q:VK)(aR:XK):Prop
 | mk(a b:ZX)(ys:List V)(ps:List P2)(s:List Int)(_:vs=[.ref a,.ref b])(_:ah K H a ys)(_:ax (bC H) ys ps)(_:ps.length<=64)(_:ah K H b (s.map V.int))(_:∀ H',aj H H'->Q (.bl (dS ps s)) H')
theorem KH(T:Tx K mg):Ok P w base 1 T.tJ (Wy K):=by
 refine a9 Cw ?_;rintro y y y s H y Q y y ⟨a,b,ys,ps,s,rfl,ha,hP,hn,hb,q⟩;refine#[_,(au (aB (bp (OV Y) (by rfl) T.U0 NJ (ae (yO (g:=iW K 2 (cA (bU 0) (cA (bU 1) ia))) (i7.mk (own:=["one","other"]) (fr:=[1]) (ys:=["some"]) Y (by decide +kernel) Y (by decide +kernel) Y (.cons rfl .nil) (.cons rfl Y Y Y .nil) Y) Y (df (aa 0)) (λC s2 H2 ex pn=>fI (n:=2) Y (bK (eE (i:=0) (show (["one","other","some"]:List Str).Nodup by decide) Y (.inl (aad Y)) (.inr (aad Y))) (bK (eE (i:=1) (show (["one","other","some"]:List Str).Nodup by decide) Y (.inl (aad Y)) (.inr (aad Y))) fH))) (λC s2 H2 ex pn=>#[fV,(JN (ig (FL (K:=K) Y) (aa 0) (aa 2) (by with_unfolding_all rfl)) (iV (ig (FL (K:=K) Y) (aa 1) (aa 2) (by with_unfolding_all rfl))))])) ag)))),?_];have yl:=hP.len;rfl';refine#[#[_,ha],HR (row:=rowOf H) (ZQ (by lia:ys.length<=64) (by decide)) (fW (R:=λ_ x (r:P2)=>bC H x r) (R':=λ_ v (b:Bool)=>v=V.bl b) (f:=λp=>s.contains p.1 || s.contains p.2) (λy y y y y h=>h) (λy y y y y h=>h) hP (bs:=[]) trivial (λH' s'=>Wx ha hP s') (λv k y H2 s2 h1 Q h=>?_) (λv k y H2 s2 h1 Q h=>?_) λH2 zs s2 hz=>?_)]
 .obtain⟨ta,rfl,h1⟩:=h1;unfold jT;dsimp only;rw[jf h1];rfl';exact h
 .obtain⟨ta,rfl,h1⟩:=h1;unfold jU;dsimp only;rw[jf h1];rfl';refine#[b,_,Y,.inl (s2.seq hb),Y,rS s,?_];rw[if_neg (show ¬ false=true by decide),pV];cases hc:s.contains k.1 with
  | true =>
   rfl';exact h _ _ (aj.refl _) (by rw[hc];rfl)
  | false =>
   rfl';refine#[b,_,Y,.inl (s2.seq hb),Y,rS s,?_];rw[if_neg (show ¬ false=true by decide),pV];exact h _ _ (aj.refl _) (by rw[hc,afp])
 rw[aal] at hz;intro l hl;refine#[l,Y,ps.map λp=>s.contains p.1 || s.contains p.2,ah.of (by rw[ar,Dj hz]),?_];rw[aiU];exact q _ (s2.trans (aq hl))
theorem KI:∀ {ws:List V} {bs:List Int},ax (λv b=>v=V.int b) ws bs->ws=bs.map V.int
 | [],[],_=>rfl
 | _::_,_::_,h=>by rw[h.1,KI h.2];rfl
 | [],_::_,h=>h.elim
 | _::_,[],h=>h.elim
theorem Dk:∀ (s:List Int),ax (λv x=>v=V.int x) (s.map V.int) s
 | []=>trivial
 | _::s=>#[Y,Dk s]
inductive Wz(K:ZF)(vs:List V)(H:Hp)(Q:VK)(aR:XK):Prop
 | mk(a b:ZX)(ys:List V)(ps:List P2)(s:List Int)(_:vs=[.ref a,.ref b])(_:ah K H a ys)(_:ax (bC H) ys ps)(_:ps.length<=64)(_:ah K H b (s.map V.int))(_:s.length<=64)(_:∀ H',aj H H'->Q (.bl (qc ps s)) H')
theorem WA(T:Tx K mg):Ok P w base 2 T.tL (Wz K):=by
 refine a9 Cy ?_;rintro u u u s H u Q u hr ⟨a,b,ys,ps,s,rfl,ha,hP,hn,hb,hs,q⟩;refine#[_,(au (aB (JO (bp (OW Y) (by rfl) T.U1 NI (ae (RA (pW.mk (fr:=[0,1]) (ys:=["pairs","some"]) Y (λu u=>rfl) (λu=>rfl) Y (by decide +kernel) Y Y (.cons rfl (.cons rfl .nil)) (.cons rfl Y Y Y (.cons rfl Y Y Y .nil)) (by decide) Y) Y (df (aa 1)) (λC s2 H2 ex pn=>#[fV,(aA (KH T) hr (ae (aa 1) (ae (eX (cO [0] ["spared"]) Y (Rx (K:=K) Y (aa 2)) (λC s2 H2 ex pn=>#[(i6 (ke (aa 0) (aa 1))),(aa 0)])) ag)))])) ag))))),?_];have yl:=hP.len;rfl';refine#[#[_,hb],d8 jN (ZQ (by rw[ZJ];lia:_<=64) (by decide)) (fW (R:=λ_ v (x:Int)=>v=V.int x) (R':=λ_ v (b:Bool)=>v=V.bl b) (f:=λx=>dS ps (s.filter λy=>decide (y≠x))) (λu u u u u h=>h) (λu u u u u h=>h) (as:=s) (Dk s) (bs:=[]) trivial (λH' s'=>s'.seq hb) (λv k u H2 s2 h1 Q h=>?_) (λv k u H2 s2 h1 Q h=>?_) λH2 zs s2 hz=>?_)]
 .rfl';exact h
 .subst h1;rfl';refine#[#[_,s2.seq hb],d8 jN (ZQ (by rw[ZJ];lia:_<=64) (by decide)) (rQ (R:=λ_ v (x:Int)=>v=V.int x) (R':=λ_ v (x:Int)=>v=V.int x) (p:=λy=>decide (y≠k)) (f:=λy=>y) (λu u u u u h=>h) (λu u u u u h=>h) (as:=s) (Dk s) (bs:=[]) trivial (λH' s'=>(s2.trans s').seq hb) (λv y u H3 s3 h1 Q h=>?_) (λv y u hp H3 s3 h1 Q h=>?_) λH3 zs s3 hz=>?_)]
  .subst h1;rfl';rw[show decide (y≠k) = !decide (y=k) from decide_not] at h;by_cases hy:y=k
   .rw[if_neg (λz=>z hy)];rw[decide_eq_true hy] at h;exact h
   .rw[if_pos hy];rw[decide_eq_false hy] at h;exact h
  .subst h1;rfl';exact h _ _ (aj.refl _) rfl
  rw[aal,agk] at hz;intro l hl;have S3:=s2.trans (s3.trans (aq (o:=.lst zs) hl));exact#[a,l,ys,ps,_,Y,S3.seq ha,hP.imp λu u r=>bC.same r S3,hn,ah.of (by rw[ar,KI hz]),λH4 s4=>h _ _ ((s3.trans (aq hl)).trans s4) Y]
 rw[aal] at hz;intro l hl;refine#[l,Y,s.map λx=>dS ps (s.filter λy=>decide (y≠x)),ah.of (by rw[ar,Dj hz]),?_];rw[List.any_map];exact q _ (s2.trans (aq hl))
noncomputable def Dl(ss:List (List Int)):List (List Int):=b7 ss [] ss
inductive WB(K:ZF)(B:ZX)(vs:List V)(H:Hp)(Q:VK)(aR:XK):Prop
 | mk(x p:ZX)(e t u d m:Int)(tb:Tb)(_:vs=[.ref x])(_:dj B H x e t u d m p tb)(_:bF e t tb)(_:tb.length<64)(_:0<=e)(_:e<=7)(_:1<=t)(_:t<=12)(_:0<=u)(_:0<=d)(_:∀ l ys ps H',aj H H'->H l=O->H' l=U (.lst ys)->(∀ s,dS ps s=true↔mY t u d tb s)->ax (g8 H H') ys (Dl (fP e.toNat m ps))->Q (.ref l) H')
theorem WC(T:Tx K mg):Ok P w base 6 T.tM (WB K T.aI):=by
 refine a9 sL ?_;rintro y y y s H y Q y hr ⟨x,p,e,t,u,d,m,tb,rfl,hb,ak,bO,e0,e7,t1,qz,u0,d0,q⟩;refine#[_,(ao (aD 1 sL.nd (aA (Wn T) hr (ae (aa 0) ag))) (ao (yQ (i:=2) (cO [0] ["board"]) Y sL.nd Y Y (df (aA (Ww T) hr (ae (dw Y (aa 0) Y) ag))) (λC s2 H2 ex pn=>#[(i6 (UB (bp (Ox (K:=K) Y) (by rfl) T.cV cQ (ae (aa 0) ag)) (dw (K:=K) Y (aa 1) Y))),(aa 0)])) (au (aB (bp (Tj hr.units) (by rfl) T.uh rg (ae (eX (cO [1] ["pairs"]) Y (df (aa 2)) (λC s2 H2 ex pn=>#[(i6 (PW.pt (dX (cT (aA (KH T) hr (ae (aa 1) (ae (aa 0) ag)))) (eR (cT (aA (WA T) hr (ae (aa 1) (ae (aa 0) ag)))))))),(aa 0)])) ag)))))),?_];obtain⟨⟨dx,hx⟩,htb⟩:=id hb;rfl';refine#[x,p,e,t,u,d,m,tb,Y,hb,ak,bO,e0,e7,t1,qz,u0,d0,λpl py ps H1 s1 y dJ Zh WD kp=>?_];rfl';refine#[_,_,_,s1 _ _ hx,T.bf,T.mV,_,Y,e.toNat,by rw[abS e0],by lia,λcl cy H2 s2 aY xh=>?_];have S2:=s1.trans s2;have xh:ax (g8 H H2) cy (cc e.toNat):=xh.imp λy y r=>let ⟨l,a,f,b⟩:=r;#[l,a,s1.free f,b];have WE:=xh.len;rw[rT] at WE;have p2:2 ^ e.toNat<=2 ^ 7:=aes (by decide) (by lia);refine#[cl,Y,#[_,ah.of aY],d8 jN (ZQ (by lia:cy.length<=128) (by decide)) (zZ (R:=g8 H) (p:=λs=>decide ((s.length:Int)<=m)) (λy y y y s' h=>h.same s') xh (λH' s'=>ah.of (s' _ _ aY)) (λv k y H3 s3 h1 Q h=>?_) (λv H3 s3 Q h=>?_) λH3 zs s3 hz=>?_)]
 .obtain⟨l,rfl,fl,hl⟩:=h1;rfl';refine#[_,dN (ah.of hl),_,_,_,(S2.trans s3) _ _ hx,T.bf,T.qq,_,Y,?_];rfl';rw[ZJ];refine aZ (λz=>?_) λz=>?_
  .have h:=h _ (aj.refl _);rw[decide_eq_true z] at h;exact h
  .have h:=h _ (aj.refl _);rw[decide_eq_false z] at h;exact h
 .rfl';exact h
 rw[aal];intro fl xf;have u4:=aq (o:=.lst zs) xf;have S4:=S2.trans (s3.trans u4);have jA:=hz.imp λy y r=>r.same u4;have f4:upd H3 fl (.lst zs) fl=U (.lst zs):=ar;have Dm:=(s2.trans (s3.trans u4)) _ _ dJ;have Dp:=kp.imp λy y r=>bC.same r (s2.trans (s3.trans u4));generalize upd H3 fl (.lst zs)=H4 at S4 jA f4 Dm Dp u4;have zl:=jA.len;have WG:=aan (λs:List Int=>decide ((s.length:Int)<=m)) (cc e.toNat);rw[rT] at WG;refine#[fl,Y,#[_,ah.of f4],d8 jN (ZQ (by lia:zs.length<=128) (by decide)) (zZ (R:=g8 H) (p:=λs=>dS ps s && qc ps s) (λy y y y s' h=>h.same s') jA (λH' s'=>ah.of (s' _ _ f4)) (λv k hk H5 s5 h1 Q h=>?_) (λv H5 s5 Q h=>?_) λH5 ws s5 hw=>?_)]
 .obtain⟨l,rfl,yD,hl⟩:=h1;have kle:=rV e.toNat k (Z4.mp hk).1;rfl';refine#[pl,l,py,ps,k,Y,ah.of (s5 _ _ Dm),Dp.imp λy y r=>bC.same r s5,by lia,ah.of hl,λH6 s6=>?_];rfl';refine aZ (λfN=>?_) λfN=>?_
  .refine#[pl,l,py,ps,k,Y,ah.of ((s5.trans s6) _ _ Dm),Dp.imp λy y r=>bC.same r (s5.trans s6),by lia,ah.of (s6 _ _ hl),by lia,λH7 s7=>?_];have:=h H7 (s6.trans s7);rw[fN,afv] at this;exact this
  .have:=h H6 s6;rw[show dS ps k=false by simpa using fN,aea] at this;exact this
 .rfl';exact h
 rw[aal];intro sl gJ;have u6:=aq (o:=.lst ws) gJ;have wl:=hw.len;have few:=Tt (e:=e.toNat) (by lia) m ps;have mZ:=hw.imp λy y r=>r.same u6;refine#[sl,ws,fP e.toNat m ps,Y,ah.of ar,mZ.imp λy y r=>r.is,?_,λl hl=>?_]
 .rw[wl];exact aaS few (by decide)
 .have u7:=aq (o:=.lst (b7 (fP e.toNat m ps) V.non ws)) hl;exact q l _ ps _ (S4.trans (s5.trans (u6.trans u7))) ((S4.trans (s5.trans u6)).free hl) ar WD (ax.sort (mZ.imp λy y r=>r.same u7))
theorem KJ(h:Q (!decide (o=U e))):neT (.int e) (ev o) Q:=by
 cases o with
 | none=>exact h
 | some x =>
  show if ¬ e=x then Q true else Q false
  by_cases z:e=x
  .subst z;rw[if_neg (λh=>h Y)];simpa using h
  .rw[if_pos z];have:(U x:En)≠U e:=λh=>z (Option.some.inj h).symm;simpa [this] using h
theorem KL(h:Q (decide (o=o'))):eqT (ev o) (ev o') Q:=by
 cases o with
 | none=>cases o'<;>exact h
 | some x =>
  cases o' with
  | none=>exact h
  | some y =>
   show if x=y then Q true else Q false
   by_cases z:x=y
   .subst z;rw[if_pos Y];simpa using h
   .rw[if_neg z];have:(U x:En)≠U y:=λh=>z (Option.some.inj h);simpa [this] using h
inductive WH(H:Hp)(v:V)(s:En × Nat):Prop
 | mk(r:ZX)(_:v = .ref r)(_:H r=U (.tup [ev s.1,.int s.2]))
theorem ax.ints(h:ax (λv (n:Int)=>v=V.int n) zs ns):zs=ns.map V.int:=by
 induction zs generalizing ns with
 | nil=>cases ns with|nil=>rfl|cons _ _=>exact h.elim
 | cons z zs ih=>cases ns with
  | nil=>exact h.elim
  | cons n ns=>rw[Z0,<- ih h.2,h.1]
theorem xi:∀ {xs ys:List Int},xs.Nodup->(∀ x∈xs,x∈ys)->xs.length<=ys.length
 | [],_,_,_=>Z3 _
 | x::xs,ys,h,k=>by obtain⟨h1,h2⟩:=aaC.mp h;have hx:=k x (.head _);have ih:=xi (ys:=ys.erase x) h2 λy hy=>(ads (λz=>h1 (by rw[<- z];exact hy))).mpr (k y (.tail _ hy));rw[acO hx] at ih;have:=abQ hx;rw[aaJ];lia
inductive WI(K:ZF)(vs:List V)(H:Hp)(Q:VK)(aR:XK):Prop
 | mk(l:ZX)(e:Int)(zs:List V)(cs:List Cl)(_:vs=[.ref l,.int e])(_:H l=U (.lst zs))(_:ax (dU H) zs cs)(_:cs.length<=64)(_:∀ r ys H',aj H H'->H r=O->H' r=U (.lst ys)->ax (dU H') ys (wo e cs)->Q (.ref r) H')
theorem KN(T:Tx K mg):Ok P w base 1 T.jx (WI K):=by
 refine a9 CI ?_;rintro y y y y H y Q y hr ⟨l,e,zs,cs,rfl,hl,hC,hn,q⟩;refine#[_,(au (aB (eX (cO [1] ["eye"]) Y (df (aa 0)) (λC s2 H2 ex pn=>#[(i6 (PW.pt (dX (ke (aa 1) (di (K:=K) (di (K:=K) (aa 0) af) af)) (eR (ke (aa 1) (di (K:=K) (di (K:=K) (aa 0) af) af)))))),(aa 0)])))),?_];have zl:=hC.len;rfl';refine#[#[_,ah.of hl],d8 jN (ZQ (by lia:zs.length<=64) (by decide)) (pQ (R:=dU H) (R':=dU H) (p:=λc=>!gd e c) (f:=λc=>c) (ah.of hl) hC (λx c r Q h=>?_) (λx c hp r Q h=>?_) λys hy=>?_)]
 .obtain⟨t,a,b,rfl,h1,h2,h3⟩:=r;rfl';refine aE (aw.of h1) (v:=.ref a) Y (aE (aw.of h2) (v:=ev c.1.1) Y (KJ ?_));unfold gd at h;by_cases z:c.1.1=U e
  .rw[decide_eq_true z] at h ⊢;exact h
  .rw[decide_eq_false z] at h ⊢;refine aE (aw.of h1) (v:=.ref b) Y (aE (aw.of h3) (v:=ev c.2.1) Y (KJ ?_));exact h
 .rfl';exact h _ r
 .rw[aal];intro r hr;rw[agk] at hy;exact q r ys _ (aq hr) hr ar (hy.imp λy y x=>x.same (aq hr))
inductive WJ(K:ZF)(vs:List V)(H:Hp)(Q:VK)(aR:XK):Prop
 | mk(v:V)(c:Cl)(_:vs=[v])(_:dU H v c)(_:∀ l (es:List Int) H',aj H H'->H l=O->H' l=U (.lst (es.map V.int))->(∀ e,e∈es↔gd e c=true)->es.length<=2->Q (.ref l) H')
theorem WK(T:Tx K mg):Ok P w base 1 T.mR (WJ K):=by
 refine a9 CJ ?_;rintro y y y s H y Q y hr ⟨v,c,rfl,⟨t,a,b,rfl,h1,h2,h3⟩,q⟩;refine#[_,(au (aB (SO Y (eX (cO [] []) Y (xS (aa 0)) (λC s2 H2 ex pn=>#[(i6 (ee (di (K:=K) (aa 0) af))),(di (K:=K) (aa 0) af)])) (by rfl) T.uh rg (by rfl) T.JX IG))),?_];rfl';refine#[#[_,aw.of h1],d8 (xs:=[.ref a,.ref b]) FK bg (pQ (R:=WH H) (R':=λv (n:Int)=>v=V.int n) (p:=λs=>s.1.isSome) (f:=λs=>s.1.getD 0) (as:=[c.1,c.2]) (aw.of h1) #[#[a,Y,h2],#[b,Y,h3],trivial] (λx s r Q h=>?_) (λx s hp r Q h=>?_) λzs hz=>?_)]
 .obtain⟨r,rfl,h4⟩:=r;rfl';refine aE (aw.of h4) (v:=ev s.1) Y ?_;cases hs:s.1 with
  | none=>rw[hs] at h;exact h
  | some x=>rw[hs] at h;exact h
 .obtain⟨r,rfl,h4⟩:=r;rfl';refine aE (aw.of h4) (v:=ev s.1) Y (h _ ?_);cases hs:s.1 with
  | none=>rw[hs] at hp;cases hp
  | some x=>rfl
 .rw[aal];intro l hl;rw[ax.ints hz];have u1:=aq (o:=.lst ((([c.1,c.2].filter λs=>s.1.isSome).map λs=>s.1.getD 0).map V.int)) hl;have hn:(([c.1,c.2].filter λs=>s.1.isSome).map λs=>s.1.getD 0).length<=2:=by rw[ZJ];exact aan _ _
  have hi:∀ e,e∈(([c.1,c.2].filter λs=>s.1.isSome).map λs=>s.1.getD 0)↔gd e c=true:=λe=>by
   rw[og];constructor
   .intro h;obtain⟨s,hs,rfl⟩:=ZN.mp h;obtain⟨m1,m2⟩:=Z4.mp hs;obtain⟨x,hx⟩:=abA.mp m2;rw[hx];rcases ZO.mp m1 with rfl|m1
    .exact .inl hx
    .rw[aap.mp m1] at hx;exact .inr hx
   .rintro (h|h)
    .exact ZN.mpr #[c.1,Z4.mpr #[.head _,by rw[h];rfl],by rw[h];rfl]
    .exact ZN.mpr #[c.2,Z4.mpr #[.tail _ (.head _),by rw[h];rfl],by rw[h];rfl]
  refine#[l,Y,_,ah.of ar,by lia,λws nd mem y r hr=>?_];exact q r ws _ (u1.trans (aq hr)) (u1.free hr) ar (λe=>(mem e).trans (hi e)) (ZQ (xi nd λx hx=>(mem x).mp hx) hn)
inductive KO(K:ZF)(N:Nat)(vs:List V)(H:Hp)(Q:VK)(aR:XK):Prop
 | mk(l:ZX)(zs:List V)(cs:List Cl)(n:Nat)(_:vs=[.ref l,.int n])(_:n<N)(_:n<=7)(_:H l=U (.lst zs))(_:ax (dU H) zs cs)(_:cs.length<=64)(_:(∀ H',aj H H'->gH (n+1) cs->Q .non H'))(_:∀ r (es:List Int) H',aj H H'->H r=O->H' r=U (.lst (es.map V.int))->qd es cs->es.length<=n->Q (.ref r) H')
inductive bZ(H:Hp)(l:ZX)(n:Nat)(cs:List Cl)(es:List Int)(i:Nat)(J:St)(H1:Hp):Prop
 | mk(e1 e2:Option V)(_:J=[U (.ref l),U (.int ((n+1:Nat):Int)),e1,e2])(_:aj H H1)(_:∀ e∈es.take i,gH (n+1) (wo e cs))
theorem WL(T:Tx K mg):∀ N,Ok P w base (N+2) T.jy (KO K N):=by
 intro N
 induction N with
 | zero =>
  refine okN T.jy.F qo.1 (λvs H Q E h=>?_) (λa7 A outer s H vs Q E hr h=>?_)
  .obtain⟨l,zs,cs,n,rfl,hN,y⟩:=h;exact absurd hN (abW _)
  .obtain⟨l,zs,cs,n,rfl,hN,y⟩:=h;exact absurd hN (abW _)
 | succ N ih =>
  refine okN T.jy.F qo.1 (λvs H Q E h=>?_) (λa7 A outer s H vs Q E hr h=>?_)
  .obtain⟨l,zs,cs,n,rfl,y⟩:=h;rfl
  .obtain⟨l,zs,cs,n,rfl,hN,n7,hl,hC,hn,q0,q⟩:=h;refine#[_,(ao (aJ (cG (bp dg (by rfl) T.cV cQ (ae (aa 0) ag)) af) (au (aB (cH ag))) aK) (ao (aJ (cG (aa 1) af) (au (aB bT)) aK) (ao (dq aav Y (df (dY (WK T) (hr.mono (by lia)) Y T.mR.m T.mR.F.kp T.mR.b .nil cg (ae (cv cw (aa 0) af (λy y=>rfl)) ag))) (eE (i:=2) qo.nd Y (ade Y)) (ao (ib (i:=3) qo.nd Y (ade Y) (dY ih (hr.mono (by lia)) Y T.jy.m T.jy.F.kp T.jy.b .nil cg (ae (dY (KN T) (hr.mono (by lia)) Y T.jx.m T.jx.F.kp T.jx.b .nil cg (ae (aa 0) (ae (aa 2) ag))) (ae (aC ed (aa 1) af) ag)))) (au (aJ (ee (aa 3)) (au (aB (aC jI (cH (ae (aa 2) ag)) (aa 3)))) aK)))) (au (aB bT))))),?_];have zl:=hC.len;cases cs with
   | nil =>
    obtain rfl:zs=[]:=ab7.mp zl;rfl';refine#[_,dN (ah.of hl),?_];rfl';exact#[by decide,λr hr=>q r [] _ (aq hr) hr ar (λc hc=>(nomatch hc)) (Z3 _)]
   | cons c cs =>
    obtain⟨z,zs,rfl⟩:∃ z z',zs=z::z':=by cases zs with|nil=>cases zl|cons z zs=>exact⟨z,zs,rfl⟩
    cases n with
    | zero =>
     rfl';refine#[_,dN (ah.of hl),?_];refine aZ (λh0=>absurd h0 (by rw[aaJ];lia)) λy=>?_;rfl';exact q0 _ (aj.refl _) λy y=>trivial
    | succ n =>
     rfl';refine#[_,dN (ah.of hl),?_];refine aZ (λh0=>absurd h0 (by rw[aaJ];lia)) λy=>aZ (λh0=>absurd h0 (by lia)) λy=>?_;refine aN (ah.of hl) (v:=z) (show cN (z::zs) ((0:Nat):Int)=U z from dZ Y) #[z,c,Y,hC.1,λk es H1 s1 y hk pO F5=>?_];rfl';refine#[#[_,ah.of hk],kE (xs:=es.map V.int) (bZ H1 l n (c::cs) es) #[_,_,Y,aj.refl _,λy h=>(nomatch h)] ?_ ?_ ?_]
     .rintro i J H2 y ⟨y,y,rfl,s2,y⟩;exact ah.of (s2 _ _ hk)
     .rintro i x J H2 hx ⟨e1,e2,rfl,s2,cS⟩;rw[Z1] at hx;obtain⟨e,he,rfl⟩:=aaj.mp hx;have S2:=s1.trans s2;rfl';refine#[l,e,_,c::cs,Y,S2 _ _ hl,hC.imp λy y x=>x.same S2,hn,λr ys H3 s3 y hr hy=>?_];refine#[r,ys,wo e (c::cs),n,by rw[show (((n+1:Nat):Int)-1)=(n:Int) by lia],by lia,by lia,hr,hy,ZQ (aan _ _) hn,λH4 s4 h4=>?_,λr2 WM H4 s4 f4 uv Dg hle=>?_]
      .rfl';refine#[_,_,Y,s2.trans (s3.trans s4),λe' gO=>?_];rw[abq,he] at gO;rcases aaf.mp gO with z|z
       .exact cS e' z
       .obtain rfl:e'=e:=by simpa using z
        exact h4
      .rfl';refine#[by decide,λp hp=>#[_,ar,_,(aq hp) _ _ uv,ZQ (by rw[ZJ,aab];lia:_<=20) (by decide),λp1 fS=>?_]];have W:=s1.trans (s2.trans (s3.trans (s4.trans (aq (o:=.lst [.int e]) hp))));exact q p1 (e::WM) _ (W.trans (aq fS)) (W.free fS) ar (TF Dg) (by rw[aaJ];lia)
     .rintro J H2 ⟨e1,e2,rfl,s2,cS⟩;rfl';refine q0 _ (s1.trans s2) λe he=>cS e ?_;rw[ZJ,abv];exact (pO e).mpr he
def iQ(H:Hp):V->Pp->Prop
 | v,.nil=>v = .non
 | v,.full=>∃ r,v = .ref r/\H r=U (.tup [.str "full"])
 | v,.cls c a b=>∃ r p q x y,v = .ref r/\H r=U (.tup [.str "clash",.ref p,.ref q,x,y])/\H p=U (.tup [ev c.1.1,.int c.1.2])/\H q=U (.tup [ev c.2.1,.int c.2.2])/\iQ H x a/\iQ H y b
theorem iQ.same(s:aj H H'):∀ {t:Pp} {v:V},iQ H v t->iQ H' v t:=by
 intro t
 induction t with
 | nil=>exact λh=>h
 | full=>rintro z ⟨r,e,h⟩;exact#[r,e,s _ _ h]
 | cls _ _ _ i1 i2=>rintro z ⟨r,p,q,x,y,e,h1,h2,h3,h4,h5⟩;exact#[r,p,q,x,y,e,s _ _ h1,s _ _ h2,s _ _ h3,i1 h4,i2 h5]
noncomputable def uw(n:Nat)(cs:List Cl)(o:En):Pp:=match o with|none=>.nil|some e=>mq n (wo e cs)
theorem KP(n:Nat)(c:Cl)(cs:List Cl):mq (n+1) (c::cs) = .cls c (uw n (c::cs) c.1.1) (if c.1.1=c.2.1 then .nil else uw n (c::cs) c.2.1):=rfl
inductive Dq(K:ZF)(N:Nat)(vs:List V)(H:Hp)(Q:VK)(aR:XK):Prop
 | mk(l:ZX)(m:Int)(zs:List V)(cs:List Cl)(n:Nat)(_:vs=[.ref l,.int m])(_:m+1=(n:Int))(_:n<N)(_:H l=U (.lst zs))(_:ax (dU H) zs cs)(_:cs.length<=64)(_:gH n cs)(_:∀ v H',aj H H'->iQ H' v (mq n cs)->Q v H')
inductive WN(K:ZF)(N:Nat)(vs:List V)(H:Hp)(Q:VK)(aR:XK):Prop
 | mk(l:ZX)(m:Int)(o:En)(zs:List V)(cs:List Cl)(n:Nat)(_:vs=[.ref l,ev o,.int m])(_:m=(n:Int))(_:n<N)(_:H l=U (.lst zs))(_:ax (dU H) zs cs)(_:cs.length<=64)(_:(∀ e,o=U e->gH n (wo e cs)))(_:∀ v H',aj H H'->iQ H' v (uw n cs o)->Q v H')
theorem KQ(T:Tx K mg)(N:Nat)(ih:Ok P w base (2 * N+1) T.iN (Dq K N)):Ok P w base (2 * N+2) T.iM (WN K N):=by
 refine okN T.iM.F CK.1 (λvs H Q E h=>?_) (λa7 A outer s H vs Q E hr h=>?_)
 .obtain⟨l,m,o,zs,cs,n,rfl,y⟩:=h;rfl
 .obtain⟨l,m,o,zs,cs,n,rfl,hm,hN,hl,hC,hn,cS,q⟩:=h;refine#[_,(au (aB (oZ (dG (aa 1)) bT (dY ih (hr.mono (by lia)) Y T.iN.m T.iN.F.kp T.iN.b .nil cg (ae (dY (KN T) (hr.mono (by lia)) Y T.jx.m T.jx.F.kp T.jx.b .nil cg (ae (aa 0) (ae (aa 1) ag))) (ae (aC ed (aa 2) af) ag)))))),?_];cases o with
  | none =>
   rfl';exact q _ _ (aj.refl _) rfl
  | some e =>
   rfl';refine#[l,e,zs,cs,Y,hl,hC,hn,λr ys H1 s1 y bR hy=>?_];exact#[r,_,ys,wo e cs,n,Y,by lia,hN,bR,hy,ZQ (aan _ _) hn,cS e Y,λv H2 s2 h2=>q v H2 (s1.trans s2) h2]
theorem WO(T:Tx K mg):∀ N,Ok P w base (2 * N+1) T.iN (Dq K N):=by
 intro N
 induction N with
 | zero =>
  refine okN T.iN.F mD.1 (λvs H Q E h=>?_) (λa7 A outer s H vs Q E hr h=>?_)
  .obtain⟨l,m,zs,cs,n,rfl,hm,hN,y⟩:=h;exact absurd hN (abW _)
  .obtain⟨l,m,zs,cs,n,rfl,hm,hN,y⟩:=h;exact absurd hN (abW _)
 | succ N ih =>
  refine okN T.iN.F mD.1 (λvs H Q E h=>?_) (λa7 A outer s H vs Q E hr h=>?_)
  .obtain⟨l,m,zs,cs,n,rfl,y⟩:=h;rfl
  .obtain⟨l,m,zs,cs,n,rfl,hm,hN,hl,hC,hn,cS,q⟩:=h;refine#[_,(ao (aJ (my (aa 1) af) (au (aB (ba (ae b8 ag)))) aK) (ao (ib (i:=2) mD.nd Y (ade Y) (cv cw (cv cw (aa 0) af (λy y=>rfl)) af (λy y=>rfl))) (ao (ib (i:=3) mD.nd Y (ade Y) (cv cw (cv cw (aa 0) af (λy y=>rfl)) af (λy y=>rfl))) (ao (ib (i:=4) mD.nd Y (ade Y) (dY (KQ T N ih) (hr.mono (by lia)) Y T.iM.m T.iM.F.kp T.iM.b .nil cg (ae (aa 0) (ae (cv cw (aa 2) af (λy y=>rfl)) (ae (aa 1) ag))))) (ao (ib (i:=5) mD.nd Y (ade Y) (oZ (cG (cv cw (aa 2) af (λy y=>rfl)) (cv cw (aa 3) af (λy y=>rfl))) bT (dY (KQ T N ih) (hr.mono (by lia)) Y T.iM.m T.iM.F.kp T.iM.b .nil cg (ae (aa 0) (ae (cv cw (aa 3) af (λy y=>rfl)) (ae (aa 1) ag)))))) (au (aB (ba (ae b8 (ae (aa 2) (ae (aa 3) (ae (aa 4) (ae (aa 5) ag))))))))))))),?_];have zl:=hC.len;cases n with
   | zero =>
    rfl';refine aZ (λy=>?_) λh0=>absurd (show m<0 by lia) h0;exact#[by decide,λr hr=>q _ _ (aq hr) #[r,Y,ar]]
   | succ n =>
    cases cs with
    | nil=>exact cS.elim
    | cons c cs =>
     obtain⟨z,zs,rfl⟩:∃ z z',zs=z::z':=by cases zs with|nil=>cases zl|cons z zs=>exact⟨z,zs,rfl⟩
     obtain⟨t,a,b,rfl,ht,ha,hb⟩:=id hC.1;have z0:cN (V.ref t::zs) ((0:Nat):Int)=U (.ref t):=dZ rfl;rfl';refine aZ (λh0=>absurd h0 (by lia)) λy=>?_;refine aN (ah.of hl) z0 (aE (aw.of ht) (v:=.ref a) Y ?_);refine aN (ah.of hl) z0 (aE (aw.of ht) (v:=.ref b) Y (aE (aw.of ha) (v:=ev c.1.1) Y ?_));refine#[l,m,c.1.1,_,c::cs,n,Y,by lia,by lia,hl,hC,hn,λe he=>cS e (og.mpr (.inl he)),λv1 H1 s1 h1=>?_];refine aE (aw.of (s1 _ _ ha)) (v:=ev c.1.1) Y (aE (aw.of (s1 _ _ hb)) (v:=ev c.2.1) Y (KL ?_));rw[KP] at q;by_cases he:c.1.1=c.2.1
     .rw[decide_eq_true he];rw[if_pos he] at q;refine#[by decide,λp hp=>?_];have u1:=aq (o:=.tup [.str "clash",.ref a,.ref b,v1,.non]) hp;have U9q:=s1.trans u1;exact q _ _ U9q #[p,a,b,v1,_,Y,ar,U9q _ _ ha,U9q _ _ hb,h1.same u1,Y]
     .rw[decide_eq_false he];rw[if_neg he] at q;refine aE (aw.of (s1 _ _ hb)) (v:=ev c.2.1) Y #[l,m,c.2.1,_,c::cs,n,Y,by lia,by lia,s1 _ _ hl,hC.imp λy y x=>x.same s1,hn,λe he=>cS e (og.mpr (.inr he)),λv2 H2 s2 h2=>#[by decide,λp hp=>?_]];have u1:=aq (o:=.tup [.str "clash",.ref a,.ref b,v1,v2]) hp;have U9q:=s1.trans (s2.trans u1);exact q _ _ U9q #[p,a,b,v1,v2,Y,ar,U9q _ _ ha,U9q _ _ hb,h1.same (s2.trans u1),h2.same u1]
theorem WQ(T:Tx K mg):Ok P w base 10 T.jy (KO K 8):=WL T 8
theorem WR(T:Tx K mg):Ok P w base 19 T.iN (Dq K 9):=WO T 9
noncomputable def bA:Pp->Nat
 | .nil=>0
 | .full=>1
 | .cls _ a b=>(if bA a<=bA b then bA b else bA a)+1
theorem KR:∀ (n:Nat) (cs:List Cl),bA (mq n cs)<=n+1
 | 0,_=>ZS _
 | n+1,[]=>aij _ _
 | n+1,c::cs=>by
  have one:∀ o,bA (uw n (c::cs) o)<=n+1:=λo=>by
   cases o with
   | none=>exact Z3 _
   | some e=>exact KR n _
  have two:bA (if c.1.1=c.2.1 then .nil else uw n (c::cs) c.2.1)<=n+1:=by
   split
   .exact Z3 _
   .exact one _
  rw[KP];show (if _<=_ then _ else _)+1<=n+1+1;have:=one c.1.1;split<;>lia
inductive oN(G H:Hp)(v:V)(sw gw:List W2)(tb:Tb)(mo:Int):Prop
 | mX (r k:ZX) (j:Nat) (_:v = .ref r) (_:H r=U (.tup [.str "never",.ref k])) (_:H k=U (.tup [.str "step",.int (j:Int)])) (_:sw[j]?=U O)
 | gol (r k:ZX) (j:Nat) (_:v = .ref r) (_:H r=U (.tup [.str "never",.ref k])) (_:H k=U (.tup [.str "at",.int (j:Int)])) (_:gw[j]?=U O)
 | pap (r:ZX) (k:V) (t:Pp) (pp:List P2) (gs:List S2) (_:v = .ref r) (_:H r=U (.tup [.str "never",k])) (_:iQ H k t) (_:bA t<=9) (_:sw=pp.map fB) (_:gw=gs.map U) (_:Val pp gs tb mo t [])
 | may (r k:ZX) (cs:List Int) (pp:List P2) (gs:List S2) (es:List Int) (_:v = .ref r) (_:H r=U (.tup [.str "may",.ref k])) (_:H k=U (.lst (cs.map V.int))) (_:G k=O) (_:cs.length=gw.length) (_:sw=pp.map fB) (_:gw=gs.map U) (_:fq pp (aO cs)) (_:∀ t s,gs[t]?=U s->bD s (aO cs t)) (_:(es.length:Int)<=mo) (_:meets (cp tb es) (aO cs))
noncomputable def fD(gs:List S2):List Mk:=(Z7 gs.length).map λi=>(i,gs.getD i (O,O))
theorem KS{gs:List S2}{i:Nat}{m:Mk}(h:(fD gs)[i]?=U m):m.1=i/\gs[i]?=U m.2:=by
 unfold fD at h;rw[Z1] at h;obtain⟨k,hk,rfl⟩:=aaj.mp h;have hi:i<gs.length:=by
  have:=(ZL.mp hk).1
  rwa [Z8] at this
 rw[aa1 hi] at hk;cases hk;exact#[Y,by show gs[i]?=U (gs.getD i _);rw[ZG,ZK hi];rfl]
theorem KU(h:m∈fD gs):m.1<gs.length/\gs[m.1]?=U m.2:=by obtain⟨i,hi⟩:=abh.mp h;obtain⟨e1,e2⟩:=KS hi;rw[<- e1] at e2;exact#[(ZL.mp e2).1,e2]
theorem xj(gs:List S2):(fD gs).length=gs.length:=by unfold fD;rw[ZJ,Z8]
theorem ax.KW:∀ {xs:List V} {as:List α},xs.length=as.length->(∀ (i:Nat) x a,xs[i]?=U x->as[i]?=U a->R x a)->ax R xs as
 | [],[],_,_=>trivial
 | _::_,_::_,h,k=>#[k 0 _ _ Y Y,ax.KW (by simpa using h) λi x a h1 h2=>k (i+1) x a h1 h2]
 | [],_::_,h,_=>by cases h
 | _::_,[],h,_=>by cases h
theorem getD_none{ws:List W2}{j:Nat}(h:j<ws.length)(e:adl (ws.getD j O)=true):ws[j]?=U O:=by
 rw[ZG,ZK h] at e;rw[ZK h];cases hw:ws[j] with
 | none=>rfl
 | some s=>rw[hw] at e;cases e
inductive WS(K:ZF)(B:ZX)(vs:List V)(H:Hp)(Q:VK)(aR:XK):Prop
 | mk(x p b:ZX)(e t u d m:Int)(xs:List V)(ps:List Pa)(tb:Tb)(_:vs=[.ref x,.ref b])(_:dj B H x e t u d m p tb)(_:bF e t tb)(_:tb.length<=60)(_:1<=t)(_:t<=12)(_:0<=e)(_:e<=7)(_:0<=m)(_:m<=7)(_:ah K H b xs)(_:fZ H xs ps)(_:ps.length<=900)(_:jP t ps)(_:∀ v H',aj H H'->oN H H' v (c7 u d ps (t-1).toNat) (c8 ps t.toNat) tb m->Q v H')
theorem WT(T:Tx K mg):Ok P w base 20 T.x_ask (WS K T.aI):=by
 refine wH mE ?_;rintro n n n s H vs n n hr ⟨x,p,b,e,t,u,d,m,xs,ps,tb,rfl,hb,hot,jB,t1,t2,e0,e7,m0,m7,hX,hP,hn,hk,Q1⟩;refine#[_,(ao (aD 2 mE.nd (dY (C3 T) hr.m Y T.mJ.m T.mJ.F.kp T.mJ.b .nil nD (ae (aa 0) (ae (aa 1) ag)))) (ao (aD 3 mE.nd (dY (VG T) hr.m Y T.mK.m T.mK.F.kp T.mK.b .nil nD (ae (aa 0) (ae (aa 1) ag)))) (ao (aJ (iZ (AK (dt hr)) bT (aa 2) (by with_unfolding_all rfl)) (au (aB (ba (ae b8 (ae (ba (ae b8 (ae (nu aaW adZ afw (Jc (dt hr)) (aa 2) (ae bT ag)) ag))) ag))))) aK) (ao (aJ (iZ (AK (dt hr)) bT (aa 3) (by with_unfolding_all rfl)) (au (aB (ba (ae b8 (ae (ba (ae b8 (ae (nu aaW adZ afw (Jc (dt hr)) (aa 3) (ae bT ag)) ag))) ag))))) aK) (ao (aD 4 mE.nd (Uc Y (by rfl) T.wU (by rfl) T.wR (ae (aa 3) ag))) (ao (aD 5 mE.nd (aA (Kx T) hr (ae (aa 2) (ae (aC jI (cH (ae (ba (ae bT (ae (aa 4) ag))) ag)) (aA (Kg T) hr (ae (aa 0) ag))) ag)))) (ao (aD 6 mE.nd (aA (WQ T) hr (ae (aa 5) (ae (dw Y (aa 0) Y) ag)))) (ao (aJ (dG (aa 6)) (au (aB (ba (ae b8 (ae (aA (WR T) hr (ae (aa 5) (ae (dw Y (aa 0) Y) ag))) ag))))) aK) (au (aB (ba (ae b8 (ae (aA (Kr T) hr (ae (aa 2) (ae (aC jI (aa 4) (aA (Kf T) hr (ae (aa 0) (ae (aa 6) ag)))) ag))) ag))))))))))))),?_];obtain⟨⟨dx,hx⟩,kvs,fT,KD⟩:=id hb;have KY:gh T.aI H x e t u d m p kvs:=#[#[dx,hx],fT]
 refine aH (λJ H1=>∃ s ys,J=[U (.ref x),U (.ref b),U (.ref s),O,O,O,O]/\aj H H1/\H1 s=U (.lst ys)/\ax (cF H1) ys (c7 u d ps (t-1).toNat)) (λN hN=>?_) ?_
 .rfl';exact#[x,p,b,e,t,u,d,m,kvs,xs,ps,Y,KY,t1,t2,hX,hP,hn,λz=>absurd hk z,λn l ys H1 s1 n hl hW=>hN _ _ #[l,ys,Y,s1,hl,hW]]
 rintro n yR J H1 ⟨s,ys,rfl,s1,hs,hW⟩;subst yR;refine aH (λJ H2=>∃ gl zs,J=[U (.ref x),U (.ref b),U (.ref s),U (.ref gl),O,O,O]/\aj H1 H2/\H2 gl=U (.lst zs)/\ax (cF H2) zs (c8 ps t.toNat)) (λN hN=>?_) ?_
 .rfl';exact#[x,p,b,e,t,u,d,m,kvs,xs,ps,Y,KY.same s1,t1,t2,s1.seq hX,hP.same s1,hn,λz=>absurd hk z,λn l ys H2 s2 n hl hW=>hN _ _ #[l,ys,Y,s2,hl,hW]]
 rintro n yR J H2 ⟨gl,zs,rfl,s2,gf,hG⟩;subst yR;have Dr:=s1.trans s2;have bV:=s2 _ _ hs;have Ds:=hW.imp λn n r=>r.same s2;have wl:(c7 u d ps (t-1).toNat).length=(t-1).toNat:=by unfold c7;rw[ZJ,Z8]
 have gw:(c8 ps t.toNat).length=t.toNat:=by unfold c8;rw[ZJ,Z8]
 have yl:=hW.len;have zl:=hG.len;obtain⟨n1,n2,n3⟩:=wu Ds;obtain⟨k1,k2,k3⟩:=wu hG;refine aH (λJ H3=>J=[U (.ref x),U (.ref b),U (.ref s),U (.ref gl),O,O,O]/\H3=H2/\(c7 u d ps (t-1).toNat).any adl=false) (λN hN=>?_) ?_
 .rfl';refine#[s,ys,Y,Y,ah.of bV,n1,?_];rw[n2];cases hA:(c7 u d ps (t-1).toNat).any adl with
  | false =>
   rfl';exact hN _ _ #[Y,Y,hA]
  | true =>
   rfl';obtain⟨j,j1,j2,j3⟩:=AL (d:=V.non) (n2.trans hA);refine#[.inl #[Y,_,ah.of bV],s,ys,j,Y,Y,ah.of bV,n1,j1,by lia,j2,j3,bg,λk pX=>#[bg,λr hr=>?_]];have u1:=aq (o:=.tup [.str "step",.int (j:Int)]) pX;have u2:=aq (o:=.tup [.str "never",.ref k]) hr;rw[n3] at j2;exact Q1 _ _ (Dr.trans (u1.trans u2)) (.mX r k j Y ar (u2 _ _ ar) (getD_none (by lia) j2))
 rintro n yR J H3 ⟨rfl,rfl,hA⟩;subst yR;refine aH (λJ H4=>J=[U (.ref x),U (.ref b),U (.ref s),U (.ref gl),O,O,O]/\H4=H3/\(c8 ps t.toNat).any adl=false) (λN hN=>?_) ?_
 .rfl';refine#[gl,zs,Y,Y,ah.of gf,k1,?_];rw[k2];cases hB:(c8 ps t.toNat).any adl with
  | false =>
   rfl';exact hN _ _ #[Y,Y,hB]
  | true =>
   rfl';obtain⟨j,j1,j2,j3⟩:=AL (d:=V.non) (k2.trans hB);refine#[.inl #[Y,_,ah.of gf],gl,zs,j,Y,Y,ah.of gf,k1,j1,by lia,j2,j3,bg,λk pX=>#[bg,λr hr=>?_]];have u1:=aq (o:=.tup [.str "at",.int (j:Int)]) pX;have u2:=aq (o:=.tup [.str "never",.ref k]) hr;rw[k3] at j2;exact Q1 _ _ (Dr.trans (u1.trans u2)) (.gol r k j Y ar (u2 _ _ ar) (getD_none (by lia) j2))
 rintro n yR J H4 ⟨rfl,rfl,hB⟩;subst yR;obtain⟨pp,ep,ak⟩:=Je (f:=λ(k:Nat)=>cK (O,O) ((U (-d),U u)::sel ps "step" (k:Int))) (λk s h=>Tf h) (Z7 (t-1).toNat) λk hk e=>Jf hA _ (ZN.mpr #[k,hk,Y]) e;replace ep:c7 u d ps (t-1).toNat=pp.map fB:=ep;obtain⟨gs,eg⟩:=all_some _ (Jf hB);have Zi:pp.length=(t-1).toNat:=by rw[<- wl,ep,ZJ]
 have Zj:gs.length=t.toNat:=by rw[<- gw,eg,ZJ]
 rw[ep] at Ds;have KZ:=wx Ds;have Dt:=hG;rw[eg] at Dt;have M1:∀ mm∈fD gs,mm.1<=pp.length:=λmm hm=>by have:=(KU hm).1;lia
 have M2:∀ r∈tb,r.1.2.toNat<=pp.length:=λr hr=>by have ho:=hot.2 r hr;unfold eY at ho;lia
 refine aH (λJ H5=>∃ k vs,J=[U (.ref x),U (.ref b),U (.ref s),U (.ref gl),U (.ref k),O,O]/\aj H4 H5/\H5 k=U (.lst vs)/\ax (cU H5) vs (fD gs)) (λN hN=>?_) ?_
 .rfl';refine#[zs,ah.of gf,λl vs H5 s5 n hl WU hv=>hN _ _ #[l,vs,Y,s5,hl,ax.KW (by rw[WU,xj,Dt.len,ZJ]) λi y mk e1 e2=>?_]];obtain⟨f1,f2⟩:=KS e2;obtain⟨z,hz,rz⟩:=Dt.at (i:=i) (by rw[Z1,f2];rfl);obtain⟨p0,rfl,n,h5⟩:=hv i y z e1 hz;obtain⟨pz,rfl,lF⟩:=rz;exact#[p0,pz,Y,by rw[h5,f1],s5 _ _ lF]
 rintro n yR J H5 ⟨k,vs,rfl,s5,AI,hM⟩;subst yR;have vl:=hM.len;rw[xj] at vl;have S5:=Dr.trans s5;have vn:vs.length<=12:=by lia
 refine aH (λJ H6=>∃ c ws cs,J=[U (.ref x),U (.ref b),U (.ref s),U (.ref gl),U (.ref k),U (.ref c),O]/\aj H5 H6/\H6 c=U (.lst ws)/\ax (dU H6) ws cs/\cs.length<=64/\so pp (jo (fD gs) e.toNat tb) cs/\∀ g∈jo (fD gs) e.toNat tb,∀ h∈jo (fD gs) e.toNat tb,jn pp g h cs) (λN hN=>?_) ?_
 .rfl';refine#[bg,λt0 WV=>#[by decide,λl0 eQ=>?_]];have u1:=aq (o:=.tup [.non,.ref k]) WV;have u2:=aq (o:=.lst [.ref t0]) eQ;have U9q:=u1.trans u2;refine#[x,p,e,t,u,d,m,tb,Y,hb.same (S5.trans U9q),hot.1,by lia,λr hr=>(hot.2 r hr).2.1,e0,e7,λl ws H6 s6 n hl K0=>?_];have K1:=K0.len;unfold iF at K1;rw[ZJ,ZJ,Z8] at K1;refine#[l,Y,[.ref t0],s6 _ _ ar,ws,hl,ZQ (by show 1+ws.length<=30;lia) (by decide),λc hc=>?_];have u3:=aq (o:=.lst ([.ref t0]++ws)) hc;have S6:=s5.trans (U9q.trans (s6.trans u3));refine#[s,c,ys,.ref t0::ws,pp,jo (fD gs) e.toNat tb,Y,ah.of (S6 _ _ bV),KZ.same S6,ak,by lia,ah.of ar,#[#[t0,k,vs,Y,(u2.trans (s6.trans u3)) _ _ ar,(U9q.trans (s6.trans u3)) _ _ AI,hM.imp λn n r=>r.same (U9q.trans (s6.trans u3))],K0.imp λn n r=>r.same u3],?_,λg hg=>?_,λl7 WW WX H7 s7 n a1 a2 a3 a4 a5=>hN _ _ #[l7,WW,WX,Y,U9q.trans (s6.trans (u3.trans s7)),a1,a2,ZQ a3 (by unfold jo iF;rw[aaJ,ZJ,ZJ,Z8];lia),a4,a5]]
  .unfold jo iF;rw[aaJ,ZJ,ZJ,Z8];lia
  .rcases ZO.mp hg with rfl|z
   .exact#[by show (fD gs).length<=1000;rw[xj];lia,M1]
   .obtain⟨g1,fA,rfl⟩:=ZN.mp z;obtain⟨i,n,rfl⟩:=ZN.mp fA;refine#[ZQ (by unfold jg;rw[ZJ];exact ZQ (aan _ _) (by rw[kS];exact ZS _)) (by lia:tb.length<=1000),λmm bI=>?_];obtain⟨r,hr,n,rfl⟩:=qb.mp bI;exact M2 r hr
 rintro n yR J H6 ⟨c,ws,cs,rfl,s6,hc,hC,aY,xg,kG⟩;subst yR;have S6:=S5.trans s6;refine aH (λJ H7=>∃ av,J=[U (.ref x),U (.ref b),U (.ref s),U (.ref gl),U (.ref k),U (.ref c),U av]/\aj H6 H7/\((av = .non/\gH (m.toNat+1) cs) ∨ ∃ f es,av = .ref f/\H7 f=U (.lst (es.map V.int))/\qd es cs/\es.length<=m.toNat)) (λN hN=>?_) ?_
 .rfl';refine#[_,_,_,S6 _ _ hx,T.bf,T.qq,_,Y,?_];exact#[c,ws,cs,m.toNat,by rw[abS m0],by lia,by lia,hc,hC,aY,λH7 s7 h7=>hN _ _ #[_,Y,s7,.inl #[Y,h7]],λr es H7 s7 n hr h1 h2=>hN _ _ #[_,Y,s7,.inr #[r,es,Y,hr,h1,h2]]]
 rintro n yR J H7 ⟨av,rfl,s7,⟨rfl,cS⟩|⟨f,es,rfl,hf,hcov,hle⟩⟩<;>subst yR
 .have S7:=S6.trans s7;rfl';refine#[_,_,_,S7 _ _ hx,T.bf,T.qq,_,Y,?_];refine#[c,m,ws,cs,m.toNat+1,Y,by lia,by lia,s7 _ _ hc,hC.imp λn n r=>r.same s7,aY,cS,λv H8 s8 h8=>#[bg,λz hz=>?_]];have u1:=aq (o:=.tup [.str "never",v]) hz;exact Q1 _ _ (S7.trans (s8.trans u1)) (.pap z v _ pp gs Y ar (h8.same u1) (ZQ (KR _ _) (by lia)) ep eg (Jl _ _ _ cS (by rw[acH];lia) (snd_mk hot (λmm hm=>(KU hm).2) xg)))
 .have S7:=S6.trans s7;have M3:∀ mm∈fD gs++cp tb es,mm.1<=pp.length:=λmm hm=>by
   rcases aaf.mp hm with z|z
   .exact M1 mm z
   .obtain⟨r,hr,n,rfl⟩:=fc.mp z;exact M2 r hr
  have Du:=Jn hot ak M3 hcov kG;rfl';refine#[x,p,f,e,t,u,d,m,tb,es,Y,hb.same S7,hot.1,by lia,λr hr=>(hot.2 r hr).2.1,ah.of hf,by lia,λr rs H8 s8 hr qA=>#[r,Y,vs,(s6.trans (s7.trans s8)) _ _ AI,rs,hr,?_,λk2 eM=>?_]]
  .replace qA:ax (cU H8) rs (cp tb es):=qA;have e1:=qA.len;have e2:(cp tb es).length<=tb.length:=by unfold cp;rw[ZJ];exact ZQ (aan _ _) (by rw[kS];exact ZS _)
   exact ZQ (by lia:_<=100) (by decide)
  replace qA:ax (cU H8) rs (cp tb es):=qA;have u1:=aq (o:=.lst (vs++rs)) eM;have W:=s5.trans (s6.trans (s7.trans (s8.trans u1)));have X8:=S7.trans (s8.trans u1);have ml:(fD gs++cp tb es).length<=1000:=by
   rw[aac,xj];have e2:(cp tb es).length<=tb.length:=by unfold cp;rw[ZJ];exact ZQ (aan _ _) (by rw[kS];exact ZS _)
   lia
  refine#[s,k2,ys,vs++rs,pp,fD gs++cp tb es,Y,ah.of (W _ _ bV),KZ.same W,ah.of ar,ax.app (hM.imp λn n r=>r.same (s6.trans (s7.trans (s8.trans u1)))) (qA.imp λn n r=>r.same u1),ak,by lia,ml,M3,λcS=>absurd Du cS,λl9 co H9 s9 f9 WY Zk cL gx=>#[bg,λz hz=>?_]];have u9:=aq (o:=.tup [.str "may",.ref l9]) hz;refine Q1 _ _ (X8.trans (s9.trans u9)) (.may z l9 co pp gs es Y ar (u9 _ _ WY) (X8.free f9) (by lia) ep eg cL (λtt ss hh=>?_) (by lia) λmm hm=>gx mm (aaa _ hm));refine gx (tt,ss) (aa6 _ (abh.mpr #[tt,?_]));have WZ:=(ZL.mp hh).1;unfold fD;rw[Z1,aa1 WZ];show U (tt,gs.getD tt _)=_;rw[ZG,hh];rfl
theorem W0{e:Nat}{t u d:Int}{tb:Tb}{ps:List P2}{s:List Int}(gQ:∀ r∈tb,0<=r.1.1/\r.1.1<(e:Int))(fN:∀ s,dS ps s=true↔mY t u d tb s)(m5:∀ r∈fP e (e:Int) ps,s.length<=r.length){L:List Int}(h:mY t u d tb L):s.length<=L.length:=by
 have hc:((Z7 e).map λ(i:Nat)=>(i:Int)).filter (λx=>L.contains x)∈cc e:=wy (λx=>L.contains x) e;have bY:=(gV hc).1;have sub:∀ x∈((Z7 e).map λ(i:Nat)=>(i:Int)).filter (λx=>L.contains x),x∈L:=λx hx=>by simpa using (Z4.mp hx).2
 have nd:(((Z7 e).map λ(i:Nat)=>(i:Int)).filter (λx=>L.contains x)).Nodup:=bY.imp λh=>by lia
 have l1:=sm _ L nd sub;have l2:(((Z7 e).map λ(i:Nat)=>(i:Int)).filter (λx=>L.contains x)).length<=e:=ZQ (aan _ _) (by rw[ZJ,Z8];exact ZS _);obtain⟨c,c1,c2⟩:=h;have he:dS ps (((Z7 e).map λ(i:Nat)=>(i:Int)).filter (λx=>L.contains x))=true:=(fN _).mpr #[c,c1,λm hm=>by
  obtain⟨r,hr,hn,rfl⟩:=fc.mp hm;refine c2 _ (fc.mpr #[r,hr,λz=>hn (Z4.mpr #[ZN.mpr #[r.1.1.toNat,?_,?_],by simpa using z]),Y])
  .have:=gQ r hr;exact aas.mpr (by lia)
  .have:=gQ r hr;lia]
 obtain⟨q,hq,hqs⟩:=AO (e:=e) (m:=(e:Int)) (ps:=ps) _ (ZS _) hc (by lia) he;have W3:=gV (Z4.mp (Z4.mp hq).1).1;have l3:=sm q _ (W3.1.imp λh=>by lia) hqs;have:=m5 q hq;lia
inductive W4(K:ZF)(B:ZX)(vs:List V)(H:Hp)(Q:VK)(aR:XK):Prop
 | mk(x p:ZX)(e t u d m:Int)(tb:Tb)(_:vs=[.ref x])(_:dj B H x e t u d m p tb)(_:bF e t tb)(_:tb.length<64)(_:1<=e)(_:e<=7)(_:1<=t)(_:t<=12)(_:0<=u)(_:0<=d)(_:∀ r l (es cs:List Int) H',aj H H'->H l=O->H' r=U (.tup [.int es.length,.ref l])->H' l=U (.lst (cs.map V.int))->cs.length=t.toNat->(es.length:Int)<=e->fq (aaH (t-1).toNat (-d,u)) (aO cs)->meets (cp tb es) (aO cs)->(∀ L,mY t u d tb L->es.length<=L.length)->Q (.ref r) H')
theorem W5(T:Tx K mg):Ok P w base 7 T.tN (W4 K T.aI):=by
 refine a9 wL ?_;rintro y y y s y y y y hr ⟨x,p,e,t,u,d,m,tb,rfl,hb,ak,bO,e1,e7,t1,qz,u0,d0,q⟩;refine#[_,(ao (aD 1 wL.nd (UX Y (by rfl) T.mU (by rfl) T.cV (aA (WC T) hr (ae (ij (aa 0) T.bf T.J0 (Ka T) hr.m T.lz.b .nil cg (ae (dw Y (aa 0) Y) ag)) ag)))) (au (aB (ba (ae (bp dg (by rfl) T.cV cQ (ae (aa 1) ag)) (ae (aA (Kr T) hr (ae (aA (C3 T) hr (ae (aa 0) (ae (cH ag) ag))) (ae (aA (Kf T) hr (ae (aa 0) (ae (aa 1) ag))) ag))) ag)))))),?_];obtain⟨⟨dx,hx⟩,htb⟩:=id hb;rfl';unfold JW;rfl';obtain⟨kvs,fT,KD⟩:=id htb;have hB:eO e t u d e:=by unfold eO;lia
 refine#[_,_,hx,Y,_,_,_,hx,T.bf,T.mV,_,Y,x,p,e,t,u,d,m,e,tb,Y,hb,ak,λz=>absurd hB z,λy x' p' H1 s1 y y jq=>?_];refine#[x',p',e,t,u,d,e,tb,Y,jq,ak,bO,by lia,e7,t1,qz,u0,d0,λsl sy ps H2 s2 y gJ fN K2=>?_];have S2:=s1.trans s2;have en:((e.toNat:Nat):Int)=e:=abS (by lia);have gQ:∀ r∈tb,0<=r.1.1/\r.1.1<((e.toNat:Nat):Int):=λr hr=>by have ho:=ak.2 r hr;unfold eY at ho;lia
 have ik:mY t u d tb ((Z7 e.toNat).map λ(i:Nat)=>(i:Int)):=#[λy=>0,λk hk=>by
  rw[aaI] at hk;unfold aG;rw[ZG,ab6,if_pos hk];show -d<=0-0/\0-0<=u;lia,λmm hm=>by
  obtain⟨r,hr,hn,y⟩:=fc.mp hm;have:=gQ r hr;exact absurd (ZN.mpr #[r.1.1.toNat,aas.mpr (by lia),by lia]) hn]
 have wt:0<(Dl (fP e.toNat e ps)).length:=by have hc:=wy (λy=>true) e.toNat;rw[aeD.mpr λy y=>rfl] at hc;obtain⟨s0,xk,y⟩:=AO (e:=e.toNat) (m:=e) (ps:=ps) _ (ZS _) hc (by rw[ZJ,Z8];lia) ((fN _).mpr ik);unfold Dl;rw[vL];exact abQ xk
 refine#[sl,Y,sy,ah.of gJ,_,K2.imp λy y r=>r.is,wt,λv hv=>?_];obtain⟨s,hs,m5⟩:=UZ wt;obtain⟨s',rJ,l1,rfl,f1,jY⟩:=K2.get hv;rw[hs] at rJ;cases rJ;have K3:s∈fP e.toNat e ps:=kK.mem_iff.mp (Z2 hs);have W6:dS ps s=true:=(Bool.and_eq_true_iff.mp (Z4.mp K3).2).1;have Zl:=rV _ _ (Z4.mp (Z4.mp K3).1).1;have Du:=(fN s).mp W6;refine#[_,dN (ah.of jY),Z3 _,λpz lF=>?_];rw[ZJ];have u3:=aq (o:=.lst []) lF;have S3:=S2.trans u3;refine#[x,p,pz,e,t,u,d,m,kvs,[],[],Y,#[#[dx,S3 _ _ hx],S3 _ _ fT],t1,qz,ah.of ar,trivial,by decide,λz=>absurd (λy h=>(nomatch h)) z,λy st sv H4 s4 y bG hW=>?_];have S4:=S3.trans s4;refine#[x,p,l1,e,t,u,d,m,tb,s,Y,hb.same S4,ak.1,bO,λr hr=>(ak.2 r hr).2.1,ah.of ((u3.trans s4) _ _ jY),by lia,λml mv H5 s5 W7 Dv=>?_];have S5:=S4.trans s5;replace Dv:ax (cU H5) mv (cp tb s):=Dv;have W8:(cp tb s).length<=1000:=by unfold cp;rw[ZJ];exact ZQ (aan _ _) (by rw[kS];exact (by lia:tb.length<=1000))
 refine#[st,ml,sv,mv,aaH (t-1).toNat (-d,u),cp tb s,Y,ah.of (s5 _ _ bG),(Kz (n:=(t-1).toNat) (by lia) hW).same s5,ah.of W7,Dv,λpp oM=>by rw[adP oM];show -d<=u;lia,by rw[aaI];lia,W8,λmm hm=>?_,λcS=>absurd Du cS,λl cs H6 s6 fl hl aY cL gx=>#[bg,λr hr=>?_]]
 .obtain⟨r,hr,y,rfl⟩:=fc.mp hm;have ho:=ak.2 r hr;unfold eY at ho;rw[aaI];show r.1.2.toNat<=_;lia
 have u7:=aq (o:=.tup [.int s.length,.ref l]) hr;refine q r l s cs _ (S5.trans (s6.trans u7)) (S5.free fl) ar (u7 _ _ hl) (by rw[aY,aaI];lia) (by lia) cL gx λL hL=>?_;refine W0 (e:=e.toNat) gQ fN (λr hr=>m5 r (kK.mem_iff.mpr ?_)) hL;rw[en] at hr;exact hr
structure iR(e t u d m f:Int):Prop where
 he:1<=e/\e<=7
 ht:1<=t/\t<=12
 hu:0<=u/\u<=6 * 1000000000000000000000000000000000000000000000000000000000
 hd:0<=d/\d<=6 * 1000000000000000000000000000000000000000000000000000000000
 hm:0<=m/\m<=e
 hf:1<=f/\f<=1000000000000000000000000000000000000000000000000000000000
noncomputable def ko(e t u d m f:Int):List V:=[.int e,.int t,.int u,.int d,.int m,.int f]
inductive W9(K:ZF)(vs:List V)(H:Hp)(Q:VK)(aR:XK):Prop
 | mk(a:ZX)(ns:List Int)(_:vs=[.ref a])(_:ah K H a (ns.map V.int))(_:gN ns)(_:∀ (l:ZX) (e t u d m f:Int) (H':Hp),aj H H'->H l=O->H' l=U (.lst (ko e t u d m f))->iR e t u d m f->Q (.ref l) H')
def Xa(w e t m:Int):Prop:=(1<=t/\t<=12)/\(1<=e/\e<=7)/\(0<=m/\m<=e)/\(w=1∨w=3∨e<=4)
def xl(e t m:Int):Prop:=(1<=t/\t<=12)/\(1<=e/\e<=7)/\(0<=m/\m<=e)
def xm(a:ZX)(H:Hp)(J:St)(H':Hp):Prop:=∃ w e t m:Int,J=[U (.ref a),U (.int w),U (.int e),U (.int t),U (.int m),O,O,O]/\H'=H/\Xa w e t m
def Xb(a:ZX)(H:Hp)(J:St)(H':Hp):Prop:=∃ w e t m:Int,J=[U (.ref a),U (.int w),U (.int e),U (.int t),U (.int m),O,O,O]/\H'=H/\xl e t m
def Xc(a:ZX)(H:Hp)(J:St)(H':Hp):Prop:=∃ w e t m f:Int,J=[U (.ref a),U (.int w),U (.int e),U (.int t),U (.int m),U (.int f),O,O]/\aj H H'/\xl e t m/\1<=f/\f<=1000000000000000000000000000000000000000000000000000000000
def Xd(a:ZX)(H:Hp)(J:St)(H':Hp):Prop:=∃ w e t m f u:Int,J=[U (.ref a),U (.int w),U (.int e),U (.int t),U (.int m),U (.int f),U (.int u),O]/\aj H H'/\xl e t m/\(1<=f/\f<=1000000000000000000000000000000000000000000000000000000000)/\0<=u/\u<=6 * 1000000000000000000000000000000000000000000000000000000000
def K4(a:ZX)(H:Hp)(J:St)(H':Hp):Prop:=∃ w e t m f u d:Int,J=[U (.ref a),U (.int w),U (.int e),U (.int t),U (.int m),U (.int f),U (.int u),U (.int d)]/\aj H H'/\xl e t m/\(1<=f/\f<=1000000000000000000000000000000000000000000000000000000000)/\(0<=u/\u<=6 * 1000000000000000000000000000000000000000000000000000000000)/\0<=d/\d<=6 * 1000000000000000000000000000000000000000000000000000000000
theorem K5{p f:Int}(h0:0<=p)(h1:p<7)(f1:1<=f)(f2:f<=1000000000000000000000000000000000000000000000000000000000):0<=p * f/\p * f<=6 * 1000000000000000000000000000000000000000000000000000000000:=by have a:=aip (show p<=6 by lia) f2 (by lia) (by decide);exact#[agE h0 (by lia),a]
theorem Xe(T:Tx K mg):Ok P w base 3 T.tQ (W9 K):=by
 refine a9 c6 ?_;rintro y y y y H vs y y hr ⟨a,ns,rfl,hS,hn,q⟩;refine#[_,(ao (aD 1 c6.nd (aA (cW T) hr (ae (aa 0) (ae af (ae af ag))))) (ao (aD 2 c6.nd (aC bh af (aA (cW T) hr (ae (aa 0) (ae af (ae af ag)))))) (ao (aD 3 c6.nd (aC bh af (aA (cW T) hr (ae (aa 0) (ae af (ae af ag)))))) (ao (aD 4 c6.nd (bp (qW Y) (by rfl) T.mU lP (ae (aa 2) (ae (aA (cW T) hr (ae (aa 0) (ae af (ae af ag)))) ag)))) (ao (aJ (cG (aa 1) af) (ao (aD 2 c6.nd af) (ao (aD 3 c6.nd (aC bh af (aC lx (aa 3) af))) (au (aD 4 c6.nd (aA (cW T) hr (ae (aa 0) (ae af (ae af ag)))))))) aK) (ao (aJ (cG (aa 1) af) (ao (aD 2 c6.nd (aC bh af (aC lx (aa 2) af))) (ao (aD 3 c6.nd (aC bh af (aA (cW T) hr (ae (aa 0) (ae af (ae af ag)))))) (au (aD 4 c6.nd (bp (qW Y) (by rfl) T.mU lP (ae (aa 2) (ae (aa 4) ag))))))) aK) (ao (aJ (cG (aa 1) af) (ao (aD 2 c6.nd (aC bh af (aC lx (aa 2) af))) (ao (aD 3 c6.nd af) (au (aD 4 c6.nd (aA (cW T) hr (ae (aa 0) (ae af (ae (aC bh (aa 2) af) ag)))))))) aK) (ao (aJ (cG (aa 1) af) (ao (aD 2 c6.nd (aC bh af (aa 2))) (ao (aD 3 c6.nd (aC bh af (aA (cW T) hr (ae (aa 0) (ae af (ae af ag)))))) (au (aD 4 c6.nd (bp (qW Y) (by rfl) T.mU lP (ae (aa 4) (ae af ag))))))) aK) (ao (aD 5 c6.nd (ay (cH (ae af (ae af (ae af (ae af (ae (aC bh (aC qT af af) af) (ae (aC bh af (aA (CY T) hr (ae (aa 0) (ae af (ae (aC qT af af) ag))))) ag))))))) (aA (cW T) hr (ae (aa 0) (ae af (ae af ag)))))) (ao (aD 6 c6.nd (aC j9 (aA (cW T) hr (ae (aa 0) (ae af (ae af ag)))) (aa 5))) (ao (aD 7 c6.nd (aC j9 (aA (cW T) hr (ae (aa 0) (ae af (ae af ag)))) (aa 5))) (ao (aJ (cG (aA (cW T) hr (ae (aa 0) (ae af (ae af ag)))) af) (ao (aD 6 c6.nd af) (au (aD 7 c6.nd af))) aK) (au (aB (cH (ae (aa 2) (ae (aa 3) (ae (aa 6) (ae (aa 7) (ae (aa 4) (ae (aa 5) ag))))))))))))))))))))),?_];refine aH (λJ H'=>∃ w:Int,J=[U (.ref a),U (.int w),O,O,O,O,O,O]/\H'=H) (λN hN=>?_) ?_
 .rfl';refine#[a,ns,_,_,Y,hS,hn,by lia,by lia,λp p1 p2=>?_];rfl';exact hN _ _ #[_,Y,Y]
 rintro y yR J H' ⟨w,rfl,rfl⟩;subst yR;refine aH (λJ H1=>∃ e:Int,J=[U (.ref a),U (.int w),U (.int e),O,O,O,O,O]/\H1=H'/\1<=e/\e<=4) (λN hN=>?_) ?_
 .rfl';refine#[a,ns,_,_,Y,hS,hn,by lia,by lia,λp p1 p2=>?_];rfl';exact hN _ _ #[_,Y,Y,by lia,by lia]
 rintro y yR J H ⟨e,rfl,rfl,e1,e2⟩;subst yR;refine aH (λJ H1=>∃ t:Int,J=[U (.ref a),U (.int w),U (.int e),U (.int t),O,O,O,O]/\H1=H/\1<=t/\t<=4) (λN hN=>?_) ?_
 .rfl';refine#[a,ns,_,_,Y,hS,hn,by lia,by lia,λp p1 p2=>?_];rfl';exact hN _ _ #[_,Y,Y,by lia,by lia]
 rintro y yR J H' ⟨t,rfl,rfl,t1,t2⟩;subst yR;refine aH (xm a H') (λN hN=>?_) ?_
 .rfl';refine#[a,ns,_,_,Y,hS,hn,by lia,by lia,λp p1 p2=>?_];rfl';refine hN _ _ #[_,_,_,_,Y,Y,by lia,by lia,?_,.inr (.inr e2)];split<;>lia
 rintro y yR J H ⟨w,e,t,m,rfl,rfl,hA⟩;subst yR;refine aH (xm a H) (λN hN=>?_) ?_
 .obtain⟨a1,a2,a3,a4⟩:=id hA;rfl';refine aZ (λhw=>?_) λhw=>?_
  .subst hw;refine#[a,ns,_,_,Y,hS,hn,by lia,by lia,λp p1 p2=>?_];rfl';exact hN _ _ #[_,_,_,_,Y,Y,by lia,by lia,by lia,.inl rfl]
  .exact hN _ _ #[_,_,_,_,Y,Y,hA]
 rintro y yR J H' ⟨w,e,t,m,rfl,rfl,hA⟩;subst yR;refine aH (xm a H') (λN hN=>?_) ?_
 .obtain⟨a1,a2,a3,a4⟩:=id hA;rfl';refine aZ (λhw=>?_) λhw=>?_
  .subst hw;refine#[a,ns,_,_,Y,hS,hn,by lia,by lia,λp p1 p2=>?_];rfl';refine hN _ _ #[_,_,_,_,Y,Y,by lia,by lia,?_,.inr (.inr (by lia))];split<;>lia
  .exact hN _ _ #[_,_,_,_,Y,Y,hA]
 rintro y yR J H ⟨w,e,t,m,rfl,rfl,hA⟩;subst yR;refine aH (xm a H) (λN hN=>?_) ?_
 .obtain⟨a1,a2,a3,a4⟩:=id hA;rfl';refine aZ (λhw=>?_) λhw=>?_
  .subst hw;refine#[a,ns,_,_,Y,hS,hn,by lia,by lia,λp p1 p2=>?_];rfl';exact hN _ _ #[_,_,_,_,Y,Y,by lia,by lia,by lia,.inr (.inl rfl)]
  .exact hN _ _ #[_,_,_,_,Y,Y,hA]
 rintro y yR J H' ⟨w,e,t,m,rfl,rfl,hA⟩;subst yR;refine aH (Xb a H') (λN hN=>?_) ?_
 .obtain⟨a1,a2,a3,a4⟩:=id hA;rfl';refine aZ (λhw=>?_) λhw=>?_
  .subst hw;refine#[a,ns,_,_,Y,hS,hn,by lia,by lia,λp p1 p2=>?_];rfl';refine hN _ _ #[_,_,_,_,Y,Y,by lia,by lia,?_];split<;>lia
  .exact hN _ _ #[_,_,_,_,Y,Y,a1,a2,a3]
 rintro y yR J H ⟨w,e,t,m,rfl,rfl,hA⟩;subst yR;refine aH (Xc a H) (λN hN=>?_) ?_
 .rfl';refine#[#[by decide,by decide,by decide],#[by decide,by decide,by decide],?_];refine#[a,ns,_,_,Y,hS,hn,by lia,by lia,λf f1 f2=>?_];rfl';refine#[by decide,λl hl=>?_];refine#[a,ns,_,_,Y,(aq hl).seq hS,hn,by lia,by lia,λp p1 p2=>?_];obtain⟨v,hv,ev⟩:=zy (vs:=[1,1,1,1,1000000007,1+f]) p1 p2;refine aN (ah.of ar) ev ?_;rfl';refine hN _ _ #[_,_,_,_,_,Y,aq hl,hA,?_];simp only[ZO,aaL,or_false] at hv;lia
 rintro y yR J H1 ⟨w,e,t,m,f,rfl,s1,hA,f1,f2⟩;subst yR;refine aH (Xd a H) (λN hN=>?_) ?_
 .rfl';refine#[a,ns,_,_,Y,s1.seq hS,hn,by lia,by lia,λp p1 p2=>?_];rfl';refine#[kN (by lia) (by lia),?_];exact hN _ _ #[_,_,_,_,_,_,Y,s1,hA,#[f1,f2],K5 p1 p2 f1 f2]
 rintro y yR J H2 ⟨w,e,t,m,f,u,rfl,s2,hA,⟨f1,f2⟩,hu⟩;subst yR;refine aH (K4 a H) (λN hN=>?_) ?_
 .rfl';refine#[a,ns,_,_,Y,s2.seq hS,hn,by lia,by lia,λp p1 p2=>?_];rfl';refine#[kN (by lia) (by lia),?_];exact hN _ _ #[_,_,_,_,_,_,_,Y,s2,hA,#[f1,f2],hu,K5 p1 p2 f1 f2]
 rintro y yR J H3 ⟨w,e,t,m,f,u,d,rfl,s3,hA,⟨f1,f2⟩,hu,hd⟩;subst yR;refine aH (K4 a H) (λN hN=>?_) ?_
 .rfl';refine#[a,ns,_,_,Y,s3.seq hS,hn,by lia,by lia,λp p1 p2=>?_];rfl';refine aZ (λhw=>?_) λhw=>?_
  .exact hN _ _ #[_,_,_,_,_,_,_,Y,s3,hA,#[f1,f2],by decide,by decide]
  .exact hN _ _ #[_,_,_,_,_,_,_,Y,s3,hA,#[f1,f2],hu,hd]
 rintro y yR J H4 ⟨w,e,t,m,f,u,d,rfl,s4,hA,hf,hu,hd⟩;subst yR;rfl';refine#[by decide,λl hl=>?_];obtain⟨a1,a2,a3⟩:=hA;exact q l e t u d m f _ (s4.trans (aq hl)) (s4.free hl) ar #[a2,a1,hu,hd,a3,hf]
def ux(u d:Int)(cs:List Int):Prop:=∀ i,i+1<cs.length->-d<=cs.getD (i+1) 0-cs.getD i 0/\cs.getD (i+1) 0-cs.getD i 0<=u
theorem ux.snoc(h:ux u d (cs++[n]))(h1 : -d<=k-n)(h2:k-n<=u):ux u d (cs++[n]++[k]):=by
 intro i hi;rw[aac,aac,aab,aab] at hi;by_cases e:i+1<(cs++[n]).length
 .have:=h i e;simp only[ZG] at this ⊢;rw[aay (l₁:=cs++[n]) e,aay (l₁:=cs++[n]) (by lia)];exact this
 .rw[aac,aab] at e;have ei:i=cs.length:=by lia
  subst ei;have a1:(cs++[n]++[k])[cs.length+1]?=U k:=by simp
  have a2:(cs++[n]++[k])[cs.length]?=U n:=by simp
  simp only[ZG,a1,a2,ac0];exact#[h1,h2]
inductive Xf(K:ZF)(vs:List V)(H:Hp)(Q:VK)(aR:XK):Prop
 | mk(a b:ZX)(ns:List Int)(e t u d m f:Int)(_:vs=[.ref a,.ref b])(_:ah K H a (ns.map V.int))(_:gN ns)(_:ah K H b (ko e t u d m f))(_:iR e t u d m f)(_:∀ (l:ZX) (cs:List Int) (H':Hp),aj H H'->H l=O->H' l=U (.lst (cs.map V.int))->cs.length=t.toNat->ux u d cs->Q (.ref l) H')
inductive Xg(H:Hp)(a b l:ZX)(z u d:Int)(i:Nat)(J:St)(H1:Hp):Prop
 | mk(cs:List Int)(n:Int)(e1:Option V)(_:J=[U (.ref a),U (.ref b),U (.int z),U (.int n),U (.ref l),e1])(_:aj H H1)(_:H1 l=U (.lst ((cs++[n]).map V.int)))(_:cs.length=i)(_:ux u d (cs++[n]))
theorem Xh(T:Tx K mg):Ok P w base 3 T.tR (Xf K):=by
 refine a9 mF ?_;rintro y y y y H vs y y hr ⟨a,b,ns,e,t,u,d,m,f,rfl,hS,hn,hb,sh,q⟩;refine#[_,(ao (aD 2 mF.nd (ay (cH (ae af (ae af (ae (aC qT af af) (ae (aC j9 (aC qT af af) (aC qT af af)) ag))))) (aA (cW T) hr (ae (aa 0) (ae af (ae af ag)))))) (ao (aD 3 mF.nd (aC ed (aA (CY T) hr (ae (aa 0) (ae af (ae (aC bh (aC j9 af (aa 2)) af) ag)))) (aa 2))) (ao (aD 4 mF.nd (cH (ae (aa 3) ag))) (ao (dq aav Y (gC Y T.fR (ae (aC ed (ay (aa 1) af) af) ag)) (bQ 5 mF.nd) (ao (aD 3 mF.nd (aC ed (aC bh (aa 3) (aA (CY T) hr (ae (aa 0) (ae (aC bh af (aa 5)) (ae (aC bh (aC bh (ay (aa 1) af) (ay (aa 1) af)) af) ag))))) (ay (aa 1) af))) (au (eS (nu aaW ab1 ab2 q9 (aa 4) (ae (aa 3) ag)))))) (au (aB (aa 4))))))),?_];obtain⟨⟨e1,e2⟩,⟨t1,t2⟩,⟨u1,u2⟩,⟨d1,d2⟩,-,-⟩:=id sh;rfl';refine#[#[by decide,by decide,by decide],#[by decide,by decide,by decide],#[by decide,by decide,by decide],N7 (by decide) (by decide),by decide,λr bJ=>?_];have P1:upd H r (.lst [V.int 9,V.int 1000,V.int 1000000000000000000,V.int 1000000000000000000000000000000000000000000000000000000000000000000000000000000000000000000000000000000000000000000000000]) r=U (.lst (([9,1000,1000000000000000000,1000000000000000000000000000000000000000000000000000000000000000000000000000000000000000000000000000000000000000000000000]:List Int).map V.int)):=ar;have s1:=aq (o:=.lst [V.int 9,V.int 1000,V.int 1000000000000000000,V.int 1000000000000000000000000000000000000000000000000000000000000000000000000000000000000000000000000000000000000000000000000]) bJ;refine#[a,ns,_,_,Y,s1.seq hS,hn,by decide,by decide,λk h1 h2=>?_];obtain⟨z,hz,ez⟩:=zy (vs:=([9,1000,1000000000000000000,1000000000000000000000000000000000000000000000000000000000000000000000000000000000000000000000000000000000000000000000000]:List Int)) h1 h2;have hz:0<=z/\z<=1000000000000000000000000000000000000000000000000000000000000000000000000000000000000000000000000000000000000000000000000:=by simp only[ZO,aaL,or_false] at hz;lia
 refine aN (ah.of P1) ez ?_;rfl';generalize upd H r (.lst [V.int 9,V.int 1000,V.int 1000000000000000000,V.int 1000000000000000000000000000000000000000000000000000000000000000000000000000000000000000000000000000000000000000000000000])=H1 at s1 ⊢;refine#[kN (by decide) (by lia),?_];refine#[a,ns,_,_,Y,s1.seq hS,hn,by decide,by lia,λn0 y y=>?_];rfl';refine#[by decide,λl hl=>?_];have eQ:H l=O:=s1.free hl;have s2:=s1.trans (aq (o:=.lst [V.int (n0-z)]) hl);refine aN (s2.seq hb) (v:=.int t) Y ?_;rfl';refine#[by lia,by lia,nA (Xg H a b l z u d) #[[],_,_,Y,s2,ar,Y,λi hi=>?_] ?_ ?_]
 .simp at hi
 .rintro i J H3 hi ⟨cs,n,e1,rfl,s3,L3,hlen,bG⟩;rfl';refine aN (s3.seq hb) (v:=.int u) Y (aN (s3.seq hb) (v:=.int d) Y ?_);rfl';refine#[a,ns,_,_,Y,s3.seq hS,hn,by lia,by lia,λk k1 k2=>?_];rfl';refine aN (s3.seq hb) (v:=.int d) Y ?_;rfl';refine#[.inl #[Y,_,ah.of L3],_,L3,?_,cs++[n],_,_,Y,jK eQ s3,?_,?_,?_]
  .rw[ZJ,aac,aab];exact aaS (by lia:_<=13) (by decide)
  .simp only[ar,aa2,Z0,acS]
  .rw[aac,aab,hlen]
  .exact bG.snoc (by lia) (by lia)
 .rintro J H3 ⟨cs,n,e1,rfl,s3,L3,hlen,bG⟩;rfl';exact q l _ H3 s3 eQ L3 (by rw[aac,aab];lia) bG
inductive K6(K:ZF)(vs:List V)(H:Hp)(Q:VK)(aR:XK):Prop
 | mk(a:ZX)(ns:List Int)(k f n:Int)(b:Bool)(_:vs=[.ref a,.int k,.int f,.int n,.bl b])(_:ah K H a (ns.map V.int))(_:gN ns)(_:(-900000<=k/\k<=900000))(_:(1<=f/\f<=1000000000000000000000000000000000000000000000000000000000))(_:∀ (p:ZX) (lo hi:En) (H':Hp),aj H H'->H p=O->H' p=U (.tup [ev lo,ev hi])->aS lo hi=false->(b=false->hold lo hi n=true)->Q (.ref p) H')
inductive Xi(a:ZX)(H:Hp)(k f n:Int)(b:Bool)(J:St)(H':Hp):Prop
 | mk(y lo hi:Int)(_:J=[U (.ref a),U (.int k),U (.int f),U (.int n),U (.bl b),U (.int y),U (.int lo),U (.int hi),O])(_:aj H H')(_:(1<=y/\y<=1000000000000000000000000000000000000000000000000000000000))(_:lo<=hi)(_:(b=false->lo<=n/\n<=hi))
inductive Xj(a:ZX)(H:Hp)(k f n:Int)(b:Bool)(J:St)(H':Hp):Prop
 | mk(y lo hi:Int)(_:J=[U (.ref a),U (.int k),U (.int f),U (.int n),U (.bl b),U (.int y),U (.int lo),U (.int hi),O])(_:aj H H')(_:lo<=hi)(_:(b=false->lo<=n/\n<=hi))
inductive Dw(a:ZX)(H:Hp)(k f n:Int)(b:Bool)(J:St)(H':Hp):Prop
 | mk(y g lo:Int)(l h:En)(hi:Int)(_:J=[U (.ref a),U (.int k),U (.int f),U (.int n),U (.bl b),U (.int y),U (ev l),U (ev h),U (.int g)])(_:aj H H')(_:(l=O∨l=U lo))(_:(h=O∨h=U hi))(_:lo<=hi)(_:(b=false->lo<=n/\n<=hi))
theorem K7{p y:Int}(h0:0<=p)(y0:0<=y):0<=p * y:=agE h0 y0
theorem K8(T:Tx K mg):Ok P w base 2 T.tS (K6 K):=by
 refine a9 iK ?_;rintro u u u u H vs u u hr ⟨a,ns,k,f,n,b,rfl,hS,hn,hk,hf,q⟩;refine#[_,(ao (aD 5 iK.nd (ay (cH (ae af (ae (aa 2) ag))) (aA (cW T) hr (ae (aa 0) (ae (aa 1) (ae af ag)))))) (ao (aD 6 iK.nd (aC ed (aa 3) (aC j9 (aA (cW T) hr (ae (aa 0) (ae (aC bh (aa 1) af) (ae af ag)))) (aa 5)))) (ao (aD 7 iK.nd (aC bh (aa 3) (aC j9 (aA (cW T) hr (ae (aa 0) (ae (aC bh (aa 1) af) (ae af ag)))) (aa 5)))) (ao (aJ (cT (aa 4)) (ao (aD 5 iK.nd (aC j9 (aC ed (aA (cW T) hr (ae (aa 0) (ae (aC bh (aa 1) af) (ae af ag)))) af) (aa 5))) (ao (aD 6 iK.nd (aC bh (aa 6) (aa 5))) (au (aD 7 iK.nd (aC bh (aa 7) (aa 5)))))) aK) (ao (aD 8 iK.nd (aA (cW T) hr (ae (aa 0) (ae (aC bh (aa 1) af) (ae af ag))))) (ao (aJ (PW.pt (b9 (cG (aa 8) af) (dm (cG (aa 8) af)))) (au (aD 6 iK.nd bT)) aK) (ao (aJ (PW.pt (b9 (cG (aa 8) af) (dm (cG (aa 8) af)))) (au (aD 7 iK.nd bT)) aK) (au (aB (ba (ae (aa 6) (ae (aa 7) ag)))))))))))),?_];refine aH (λJ H'=>∃ y:Int,J=[U (.ref a),U (.int k),U (.int f),U (.int n),U (.bl b),U (.int y),O,O,O]/\aj H H'/\1<=y/\y<=1000000000000000000000000000000000000000000000000000000000) (λN hN=>?_) ?_
 .rfl';refine#[by decide,λl hl=>?_];refine#[a,ns,_,_,Y,(aq hl).seq hS,hn,by lia,by lia,λp p1 p2=>?_];obtain⟨v,hv,ev⟩:=zy (vs:=[1,f]) p1 p2;refine aN (ah.of ar) ev ?_;rfl';refine hN _ _ #[_,Y,aq hl,?_];simp only[ZO,aaL,or_false] at hv;lia
 rintro u yR J H1 ⟨y,rfl,s1,y1,y2⟩;subst yR;refine aH (λJ H'=>∃ lo:Int,J=[U (.ref a),U (.int k),U (.int f),U (.int n),U (.bl b),U (.int y),U (.int lo),O,O]/\H'=H1/\lo<=n) (λN hN=>?_) ?_
 .rfl';refine#[a,ns,_,_,Y,s1.seq hS,hn,by lia,by lia,λp p1 p2=>?_];rfl';have:=K7 p1 (show 0<=y by lia);exact#[kN (by lia) (by lia),hN _ _ #[_,Y,Y,by lia]]
 rintro u yR J H2 ⟨lo,rfl,rfl,l1⟩;subst yR;refine aH (Xi a H k f n b) (λN hN=>?_) ?_
 .rfl';refine#[a,ns,_,_,Y,s1.seq hS,hn,by lia,by lia,λp p1 p2=>?_];rfl';have:=K7 p1 (show 0<=y by lia);exact#[kN (by lia) (by lia),hN _ _ #[_,_,_,Y,s1,#[y1,y2],by lia,λu=>by lia]]
 rintro u yR J H3 ⟨y,lo,hi,rfl,s3,hy,h1,h2⟩;subst yR;refine aH (Xj a H k f n b) (λN hN=>?_) ?_
 .cases b with
  | true =>
   rfl';refine#[a,ns,_,_,Y,s3.seq hS,hn,by lia,by lia,λp p1 p2=>?_];rfl';exact#[kN (by lia) (by lia),hN _ _ #[_,_,_,Y,s3,by lia,λz=>nomatch z]]
  | false =>
   rfl';exact hN _ _ #[_,_,_,Y,s3,h1,h2]
 rintro u yR J H4 ⟨y,lo,hi,rfl,s4,h1,h2⟩;subst yR;refine aH (Dw a H k f n b) (λN hN=>?_) ?_
 .rfl';refine#[a,ns,_,_,Y,s4.seq hS,hn,by lia,by lia,λp p1 p2=>?_];rfl';exact hN _ _ #[_,_,lo,U lo,U hi,hi,Y,s4,.inr rfl,.inr rfl,h1,h2]
 rintro u yR J H5 ⟨y,g,lo,l,h,hi,rfl,s5,hl,hh,h1,h2⟩;subst yR;refine aH (Dw a H k f n b) (λN hN=>?_) ?_
 .rfl';have none_:=hN _ _ #[y,g,lo,O,h,hi,Y,s5,.inl rfl,hh,h1,h2];have Dx:=hN _ _ #[y,g,lo,l,h,hi,Y,s5,hl,hh,h1,h2];exact aZ (λu=>none_) λu=>aZ (λu=>none_) λu=>Dx
 rintro u yR J H6 ⟨y,g,lo,l,h,hi,rfl,s6,hl,hh,h1,h2⟩;subst yR;refine aH (Dw a H k f n b) (λN hN=>?_) ?_
 .rfl';have none_:=hN _ _ #[y,g,lo,l,O,hi,Y,s6,hl,.inl rfl,h1,h2];have Dx:=hN _ _ #[y,g,lo,l,h,hi,Y,s6,hl,hh,h1,h2];exact aZ (λu=>none_) λu=>aZ (λu=>none_) λu=>Dx
 rintro u yR J H7 ⟨y,g,lo,l,h,hi,rfl,s7,hl,hh,h1,h2⟩;subst yR;rfl';refine#[bg,λp hp=>q p l h _ (s7.trans (aq hp)) (s7.free hp) ar ?_ λhb=>zu.mpr #[?_,?_]]
 .rcases hl with rfl|rfl<;>rcases hh with rfl|rfl<;>simp[aS]<;>lia
 .intro x hx;rcases hl with rfl|rfl<;>cases hx;exact (h2 hb).1
 .intro x hx;rcases hh with rfl|rfl<;>cases hx;exact (h2 hb).2
def Dy(cs:List Int)(k:Str)(t:Int):Prop:=0<=t/\t<(cs.length:Int)/\(k = "step" -> t+1<(cs.length:Int))
theorem Xk{ps:List Pa}{i:Nat}{p:Pa}{k:Str}{t:Int}(h:ps[i]?=U p):sel (ps.take (i+1)) k t=sel (ps.take i) k t++(if je k t p=true then [p.2.2] else []):=by
 unfold sel;rw[abq,h,ag5,aa2]
 congr 1
 simp only[agX,aaK,List.filter_nil];split<;>rfl
theorem Xl(e:S2)(ss:List S2)(s:S2):bz e (ss++[s])=(dA (bz e ss).1 s.1,dB (bz e ss).2 s.2):=by unfold bz;rw[afe];rfl
inductive Xm(K:ZF)(vs:List V)(H:Hp)(Q:VK)(aR:XK):Prop
 | mk(lo hi:En)(b:ZX)(xs:List V)(ps:List Pa)(k:Str)(t:Int)(_:vs=[ev lo,ev hi,.ref b,.str k,.int t])(_:ah K H b xs)(_:fZ H xs ps)(_:ps.length<=1000)(_:∀ v H',aj H H'->cF H' v (cK (lo,hi) (sel ps k t))->Q v H')
inductive xq(H:Hp)(lo hi:En)(b:ZX)(ps:List Pa)(k:Str)(t:Int)(i:Nat)(J:St)(H1:Hp):Prop
 | mk(e1 e2 e3:Option V)(_:J=[U (ev (bz (lo,hi) (sel (ps.take i) k t)).1),U (ev (bz (lo,hi) (sel (ps.take i) k t)).2),U (.ref b),U (.str k),U (.int t),e1,e2,e3])(_:H1=H)
theorem K9(T:Tx K mg):Ok P w base 1 T.tW (Xm K):=by
 refine a9 mG ?_;rintro v v v v H v v v v ⟨lo,hi,b,xs,ps,k,t,rfl,hX,hP,hn,q⟩;refine#[_,(ao (dq aav Y (df (aa 2)) (fI Y (bK (bQ 5 mG.nd) (bK (bQ 6 mG.nd) (bK (bQ 7 mG.nd) fH)))) (au (aJ (PW.pt (dX (cG (aa 5) (aa 3)) (eR (cG (aa 6) (aa 4))))) (ao (aJ (PW.pt (dX (ee (ay (aa 7) af)) (eR (PW.pt (b9 (dG (aa 0)) (dm (iI (ay (aa 7) af) (aa 0)))))))) (au (aD 0 mG.nd (ay (aa 7) af))) aK) (au (aJ (PW.pt (dX (ee (ay (aa 7) af)) (eR (PW.pt (b9 (dG (aa 1)) (dm (my (ay (aa 7) af) (aa 1)))))))) (au (aD 1 mG.nd (ay (aa 7) af))) aK))) aK))) (ao (aJ (PW.pt (dX (ee (aa 0)) (dX (ee (aa 1)) (eR (iI (aa 0) (aa 1)))))) (au (aB bT)) aK) (au (aB (ba (ae (aa 0) (ae (aa 1) ag))))))),?_];have hl:=hP.len;refine aH (xq H lo hi b ps k t xs.length) (λN hN=>?_) ?_
 .rfl';refine#[#[_,hX],kE (xs:=xs) (xq H lo hi b ps k t) #[_,_,_,Y,Y] ?_ ?_ ?_]
  .rintro i J H1 v ⟨v,v,v,v,rfl⟩;exact hX
  .rintro i x J H1 hx ⟨e1,e2,e3,rfl,rfl⟩;obtain⟨p,hp,tp,sp,rfl,h1,h2⟩:=hP.get hx;refine vS (aw.of h1) ?_;have es:=Xk (k:=k) (t:=t) hp;rfl'
   try refine#[Y,?_]
   have skip:je k t p=false->xq H1 lo hi b ps k t (i+1) [U (ev (bz (lo,hi) (sel (ps.take i) k t)).1),U (ev (bz (lo,hi) (sel (ps.take i) k t)).2),U (.ref b),U (.str k),U (.int t),U (.str p.1),U (.int p.2.1),U (.ref sp)] H1:=λhz=>#[_,_,_,by rw[es,hz,if_neg (by simp),afY],Y]
   by_cases hk:p.1=k
   .rw[if_pos (by rw[hk])];refine aZ (λht=>?_) λht=>?_
    .have hz:je k t p=true:=by unfold je;rw[decide_eq_true hk,decide_eq_true ht];rfl
     rw[hz,if_pos Y] at es;have fin:xq H1 lo hi b ps k t (i+1) [U (ev (dA (bz (lo,hi) (sel (ps.take i) k t)).1 p.2.2.1)),U (ev (dB (bz (lo,hi) (sel (ps.take i) k t)).2 p.2.2.2)),U (.ref b),U (.str k),U (.int t),U (.str p.1),U (.int p.2.1),U (.ref sp)] H1:=#[_,_,_,by rw[es,Xl],Y]
     generalize (bz (lo,hi) (sel (ps.take i) k t)).1=x at fin ⊢;generalize (bz (lo,hi) (sel (ps.take i) k t)).2=y at fin ⊢;obtain⟨pk,pt,pa,pc⟩:=p;dsimp only at fin h2 ⊢;rcases pa with v|pa<;>rcases pc with v|pc<;>rcases x with v|x<;>rcases y with v|y
     all_goals repeat' first
      | exact fin
      | refine br h2 ?_
      | (walk_at "p")
      | (refine aZ (λhc=>?_) λhc=>?_)
     all_goals (simp only[dA,dB] at fin;repeat' split at fin)
     all_goals first|exact fin|(exfalso;lia)
    .refine skip ?_;unfold je;rw[decide_eq_false ht,agD]
   .rw[if_neg hk];refine skip ?_;unfold je;rw[decide_eq_false hk,aea]
  .rintro J H1 h;exact hN _ _ h
 rintro v yR J H1 ⟨e1,e2,e3,rfl,rfl⟩;subst yR;rw[hl,abv];rfl';unfold cK at q;generalize bz (lo,hi) (sel ps k t)=z at q ⊢;refine Uy (λhc=>?_) λhc=>?_
 .rw[if_pos hc] at q;exact q _ _ (aj.refl _) rfl
 .rw[if_neg (by rw[hc];simp)] at q;exact#[bg,λp hp=>q _ _ (aq hp) #[p,Y,ar]]
inductive Xn(K:ZF)(vs:List V)(H:Hp)(Q:VK)(aR:XK):Prop
 | mk(p:ZX)(lo hi:En)(n:Int)(_:vs=[.ref p,.int n])(_:aw K H p [ev lo,ev hi])(_:Q (.bl (hold lo hi n)) H)
theorem La(T:Tx K mg):Ok P w base 1 T.tV (Xn K):=by
 refine a9 CL ?_;rintro y y y y y y y y y ⟨p,lo,hi,n,rfl,hp,q⟩;refine#[_,(ao (aJ (PW.pt (dX (ee (ay (aa 0) af)) (eR (my (aa 1) (ay (aa 0) af))))) (au (aB dW)) aK) (au (aB (JN (qK (uP (ay (aa 0) af))) (iV (ig (oq gE) (aa 1) (ay (aa 0) af) (ff _))))))),?_];rcases lo with y|lo<;>rcases hi with y|hi
 all_goals simp only[zr,zt] at hp
 all_goals
  rfl'
  repeat' first
  | refine aE hp Y ?_
  | (walk_at "p")
  | (refine aZ (λhc=>?_) λhc=>?_)
 all_goals first
  | exact q
  | (rw[Pm _ hc] at q;exact q)
  | (rw[Gw _ hc] at q;exact q)
  | (rw[Gv] at q;exact q)
  | (rw[Gw _ hc,Gv] at q;exact q)
inductive Xo(K:ZF)(vs:List V)(H:Hp)(Q:VK)(aR:XK):Prop
 | mk(a b:ZX)(cs:List Int)(xs:List V)(ps:List Pa)(_:vs=[.ref a,.ref b])(_:ah K H a (cs.map V.int))(_:ah K H b xs)(_:fZ H xs ps)(_:(∀ p∈ps,Dy cs p.1 p.2.1))(_:Q (.bl (kT cs ps)) H)
inductive Xp(H:Hp)(a b:ZX)(cs:List Int)(ps:List Pa)(i:Nat)(J:St)(H1:Hp):Prop
 | mk(e1 e2 e3 e4:Option V)(_:J=[U (.ref a),U (.ref b),e1,e2,e3,e4])(_:H1=H)(_:kT cs (ps.take i)=true)
theorem Xq(h:p∈ps)(hf:hold p.2.2.1 p.2.2.2 (jQ cs p.1 p.2.1)=false):kT cs ps=false:=by unfold kT;exact List.all_eq_false.mpr #[p,h,by rw[hf];simp]
theorem Lb{cs:List Int}{ps:List Pa}{p:Pa}{i:Nat}(h:ps[i]?=U p)(ht:kT cs (ps.take i)=true)(hf:hold p.2.2.1 p.2.2.2 (jQ cs p.1 p.2.1)=true):kT cs (ps.take (i+1))=true:=by unfold kT at *;rw[abq,h,List.all_append,ht];simp[hf]
theorem Xr(T:Tx K mg):Ok P w base 2 T.t7 (Xo K):=by
 refine a9 mH ?_;rintro y y y y H y Q y hr ⟨a,b,cs,xs,ps,rfl,hS,hX,hP,hk,q⟩;refine#[_,(ao (dq aav Y (df (aa 1)) (fI Y (bK (bQ 2 mH.nd) (bK (bQ 3 mH.nd) (bK (bQ 4 mH.nd) fH)))) (ao (aD 5 mH.nd (ay (aa 0) (aa 3))) (ao (aJ (cG (aa 2) b8) (au (aD 5 mH.nd (aC ed (ay (aa 0) (aC bh (aa 3) af)) (aa 5)))) aK) (au (aJ (c9 (cT (aA (La T) hr (ae (aa 4) (ae (aa 5) ag))))) (au (aB dW)) aK))))) (au (aB dW))),?_];have hl:=hP.len;rfl';refine#[#[_,hX],kE (xs:=xs) (Xp H a b cs ps) #[_,_,_,_,Y,Y,Y] ?_ ?_ ?_]
 .rintro i J H1 y ⟨y,y,y,y,y,rfl,y⟩;exact hX
 .rintro i x J H1 hx ⟨e1,e2,e3,e4,rfl,rfl,hm⟩;obtain⟨p,hp,tp,sp,rfl,h1,h2⟩:=hP.get hx;have Xs:=hk p (Z2 hp);obtain⟨o1,o2,o3⟩:=id Xs;refine vS (aw.of h1) ?_;rfl';refine aN hS (int_at o1 o2) ?_;rfl'
  try refine#[Y,?_]
  have fin:hold p.2.2.1 p.2.2.2 (jQ cs p.1 p.2.1)=false->Q (V.bl false) H1:=λhf=>by rw[Xq (Z2 hp) hf] at q;exact q
  by_cases hs:p.1 = "step"
  .rw[if_pos (by rw[hs])];have en:jQ cs p.1 p.2.1=cs.getD (p.2.1+1).toNat 0-cs.getD p.2.1.toNat 0:=if_pos hs;refine aN hS (int_at (by lia) (o3 hs)) ?_;rfl';rw[<- en];refine#[sp,_,_,_,Y,aw.of h2,aZ (λhc=>fin hc) λhc=>#[_,_,_,_,Y,Y,Lb hp hm (by simpa using hc)]]
  .rw[if_neg hs];have en:jQ cs p.1 p.2.1=cs.getD p.2.1.toNat 0:=if_neg hs;rw[<- en];refine#[sp,_,_,_,Y,aw.of h2,aZ (λhc=>fin hc) λhc=>#[_,_,_,_,Y,Y,Lb hp hm (by simpa using hc)]]
 .rintro J H1 ⟨e1,e2,e3,e4,rfl,rfl,hm⟩;rw[hl,abv] at hm;rw[hm] at q;rfl';exact q
noncomputable def qB(e t u d m _f:Int):List V:=[.int e,.int t,.int u,.int d,.int m]
inductive Xt(K:ZF)(vs:List V)(H:Hp)(Q:VK)(aR:XK):Prop
 | mk(b c:ZX)(e t u d m f:Int)(xs:List V)(ps:List Pa)(_:vs=[.ref b,.ref c])(_:ah K H b (qB e t u d m f))(_:iR e t u d m f)(_:ah K H c xs)(_:fZ H xs ps)(_:ps.length<=900)(_:∀ l ys H',aj H H'->H l=O->H' l=U (.lst ys)->ax (cF H') ys (c7 u d ps (t-1).toNat)->Q (.ref l) H')
theorem Xu(T:Tx K mg):Ok P w base 2 T.tX (Xt K):=by
 refine a9 CN ?_;rintro y y y s y y Q y hr ⟨b,c,e,t,u,d,m,f,xs,ps,rfl,hb,sh,hX,hP,hn,q⟩;refine#[_,(au (aB (eX (cO [1,0] ["_law_claim","_law_shape_here"]) Y (gC Y T.fR (ae (aC ed (ay (aa 0) af) af) ag)) (λC s2 H2 ex pn=>#[fV,(aA (K9 T) hr (ae (ie iH (di (K:=K) (aa 2) af)) (ae (di (K:=K) (aa 2) af) (ae (aa 1) (ae b8 (ae (aa 0) ag))))))])))),?_];have t1:=sh.ht;rfl';refine aN hb (v:=.int t) Y ?_;rfl';refine#[by lia,by lia,d8 nG (by rw[ZJ,Z8];exact ZQ (by lia:_<=12) (by decide)) (fW (R:=λ_ x (k:Nat)=>x=V.int ((0:Int)+k)) (R':=cF) (f:=λ(k:Nat)=>cK (O,O) ((U (-d),U u)::sel ps "step" (k:Int))) (λy y y y y h=>h) (λy y y y s' h=>h.same s') (ax.iS _) (bs:=[]) trivial (λy y=>trivial) (λx k y H2 s2 r Q h=>?_) (λx k y H2 s2 r Q h=>?_) λH2 zs s2 hz=>?_)]
 .rfl';exact h
 .subst r;rfl';refine aN (s2.seq hb) (v:=.int d) Y ?_;rfl';refine aN (s2.seq hb) (v:=.int u) Y ?_;refine#[U (-d),U u,c,xs,ps,"step",_,Y,s2.seq hX,hP.same s2,by lia,λv H3 s3 hv=>h _ _ s3 ?_];rw[aeS] at hv;exact hv
 .intro l hl;refine q l zs _ (s2.trans (aq hl)) (s2.free hl) ar ?_;rw[aal] at hz;exact hz.imp λy y r=>r.same (aq hl)
inductive Xv(K:ZF)(vs:List V)(H:Hp)(Q:VK)(aR:XK):Prop
 | mk(b c:ZX)(e t u d m f:Int)(xs:List V)(ps:List Pa)(_:vs=[.ref b,.ref c])(_:ah K H b (qB e t u d m f))(_:iR e t u d m f)(_:ah K H c xs)(_:fZ H xs ps)(_:ps.length<=900)(_:∀ l ys H',aj H H'->H l=O->H' l=U (.lst ys)->ax (cF H') ys (c8 ps t.toNat)->Q (.ref l) H')
theorem Xw(T:Tx K mg):Ok P w base 2 T.tY (Xv K):=by
 refine a9 CO ?_;rintro y y y s y y Q y hr ⟨b,c,e,t,u,d,m,f,xs,ps,rfl,hb,sh,hX,hP,hn,q⟩;refine#[_,(au (aB (eX (cO [1] ["_law_claim"]) Y (gC Y T.fR (ae (ay (aa 0) af) ag)) (λC s2 H2 ex pn=>#[fV,(aA (K9 T) hr (ae bT (ae bT (ae (aa 1) (ae b8 (ae (aa 0) ag))))))])))),?_];have t1:=sh.ht;rfl';refine aN hb (v:=.int t) Y ?_;rfl';refine#[by lia,by lia,d8 nG (by rw[ZJ,Z8];exact ZQ (by lia:_<=12) (by decide)) (fW (R:=λ_ x (k:Nat)=>x=V.int ((0:Int)+k)) (R':=cF) (f:=λ(k:Nat)=>cK (O,O) (sel ps "at" (k:Int))) (λy y y y y h=>h) (λy y y y s' h=>h.same s') (ax.iS _) (bs:=[]) trivial (λy y=>trivial) (λx k y H2 s2 r Q h=>?_) (λx k y H2 s2 r Q h=>?_) λH2 zs s2 hz=>?_)]
 .rfl';exact h
 .subst r;rfl';refine#[O,O,c,xs,ps,"at",_,Y,s2.seq hX,hP.same s2,by lia,λv H3 s3 hv=>h _ _ s3 ?_];rw[aeS] at hv;exact hv
 .intro l hl;refine q l zs _ (s2.trans (aq hl)) (s2.free hl) ar ?_;rw[aal] at hz;exact hz.imp λy y r=>r.same (aq hl)
inductive Xx(K:ZF)(vs:List V)(H:Hp)(Q:VK)(aR:XK):Prop
 | mk(a:ZX)(xs:List V)(ps:List P2)(i j:Nat)(_:vs=[.ref a,.int i,.int j])(_:ah K H a xs)(_:dv H xs ps)(_:ps.length<=1000)(_:i<=ps.length)(_:j<=ps.length)(_:Q (.int (bw ps i j)) H)
inductive Xy(H:Hp)(a:ZX)(ps:List P2)(i j k:Nat)(J:St)(H1:Hp):Prop
 | mk(e:Option V)(_:J=[U (.ref a),U (.int i),U (.int j),U (.int (part ps i j k)),e])(_:H1=H)
theorem Xz(T:Tx K mg):Ok P w base 1 T.t9 (Xx K):=by
 refine a9 oy ?_;rintro _ _ _ _ H _ _ _ _ ⟨a,xs,ps,i,j,rfl,hS,hP,hn,hi,hj,q⟩;refine#[_,(ao (aD 3 oy.nd af) (ao (dq aav Y (My Y T.fR (ae (bp (qW Y) (by rfl) T.mU lP (ae (aa 1) (ae (aa 2) ag))) (ae (bp (Es Y) (by rfl) T.CS yA (ae (aa 1) (ae (aa 2) ag))) ag))) (bQ 4 oy.nd) (au (aJ (my (aa 1) (aa 2)) (au (aD 3 oy.nd (aC bh (aa 3) (ay (ay (aa 0) (aa 4)) af)))) (au (aD 3 oy.nd (aC ed (aa 3) (ay (ay (aa 0) (aa 4)) af))))))) (au (aB (aa 3))))),?_];have hl:=hP.len;rfl';rw[PD,PF];refine#[by lia,by lia,by lia,by lia,?_];rw[show (((max i j:Nat):Int)-((min i j:Nat):Int)).toNat=max i j-min i j by lia];refine nA (Xy H a ps i j) #[_,by rw[GH.1],Y] ?_ ?_
 .rintro k J H1 hk ⟨e,rfl,rfl⟩;obtain⟨v,ev,hv⟩:=Pb hP (i:=min i j+k) (by lia);obtain⟨t,rfl,ht⟩:=hv;rw[show ((min i j+k:Nat):Int)=((min i j:Nat):Int)+(k:Int) by lia] at ev;rfl';split
  .rename_i h;refine aN hS ev (br ht ?_);rfl';refine#[U (.int (((min i j:Nat):Int)+(k:Int))),?_,Y];unfold part;rw[if_pos (by lia),if_pos (by lia),show min i j+(k+1)=min i j+k+1 by lia,fL _ _ (by lia)];simp only[adY,afk,V.int.injEq,true_and,and_true];lia
  .rename_i h;refine aN hS ev (br ht ?_);rfl';refine#[U (.int (((min i j:Nat):Int)+(k:Int))),?_,Y];unfold part;rw[if_neg (by lia),if_neg (by lia),show min i j+(k+1)=min i j+k+1 by lia,fL _ _ (by lia)];simp only[adY,afk,V.int.injEq,true_and,and_true];lia
 .rintro J H1 ⟨e,rfl,rfl⟩;rfl';rw[GH.2];exact q
inductive XA(K:ZF)(vs:List V)(H:Hp)(Q:VK)(aR:XK):Prop
 | mk(a:ZX)(xs:List V)(ps:List P2)(u v:V)(m n:Mk)(_:vs=[.ref a,u,v])(_:ah K H a xs)(_:dv H xs ps)(_:ps.length<=1000)(_:cU H u m)(_:cU H v n)(_:m.1<=ps.length)(_:n.1<=ps.length)(_:Q (.bl (wI ps m n)) H)
theorem XB(T:Tx K mg):Ok P w base 2 T.mT (XA K):=by
 refine a9 CP ?_;rintro y y y y y y y y hr ⟨a,xs,ps,u,v,⟨i,lo,hi⟩,⟨j,XD,ji⟩,rfl,hS,hP,hn,⟨ta,pa,rfl,A1,A2⟩,⟨tb,pb,rfl,B1,B2⟩,XE,si,q⟩;refine#[_,(ao (aJ (PW.pt (b9 (dG (ay (ay (aa 1) af) af)) (dm (dG (ay (ay (aa 2) af) af))))) (au (aB dW)) aK) (au (aB (ig (oq uY) (ay (ay (aa 2) af) af) (aC bh (ay (ay (aa 1) af) af) (aA (Xz T) hr (ae (aa 0) (ae (ay (aa 1) af) (ae (ay (aa 2) af) ag))))) (ff _))))),?_];rfl';refine br A1 (br A2 ?_);rfl';cases hi with
 | none =>
  rfl';exact q
 | some h =>
  rfl';refine br B1 (br B2 ?_);rfl';cases XD with
  | none =>
   rfl';exact q
  | some l =>
   rfl';refine br B1 (br B2 (br A1 (br A2 ?_)));rfl';refine br A1 (br B1 ?_);refine#[a,xs,ps,i,j,Y,hS,hP,hn,XE,si,?_];rfl';rw[show wI ps (i,lo,U h) (j,U l,ji)=decide (h+bw ps i j<l) from decide_eq_decide.mpr (by dsimp only;lia)] at q;exact q
inductive XF(K:ZF)(vs:List V)(H:Hp)(Q:VK)(aR:XK):Prop
 | mk(a w b z:ZX)(zs:List V)(gs:List S2)(tb:Tb)(as:List Int)(s:En × Nat)(m:Mk)(_:vs=[.ref a,.ref w,.ref b,.ref z])(_:H a=U (.tup [ev s.1,.int (s.2:Int)]))(_:ah K H b zs)(_:ax (cF H) zs (gs.map U))(_:TabAt H w tb)(_:(tb.map (·.1)).Nodup)(_:H z=U (.lst (as.map V.int)))(_:gX gs tb as s m)(_:∀ v H',aj H H'->cU H' v m->Q v H')
theorem Lc(T:Tx K mg):Ok P w base 2 T.jz (XF K):=by
 refine a9 CQ ?_;rintro y y y y y y y y hr ⟨a,w,b,z,zs,gs,tb,as,⟨o,k⟩,⟨k2,wd⟩,rfl,ha,hb,hG,hT,bY,hz,⟨hk,hm⟩,q⟩;refine#[_,(ao (aJ (PW.pt (b9 (c9 (cT (bp nz (by rfl) T.oB ny (ae (aa 0) (ae (ng (v:=.ty "tuple") Y T.wV vw Y) ag))))) (b9 (ke (bp dg (by rfl) T.cV cQ (ae (aa 0) ag)) af) (dm (c9 (cT (aA (uo T) hr (ae (ay (aa 0) af) ag)))))))) (au (aB bT)) aK) (ao (aJ (dG (ay (aa 0) af)) (ao (aJ (PW.pt (dX (wF gE qV af (ay (aa 0) af) (bp dg (by rfl) T.cV cQ (ae (aa 2) ag))) (eR (ee (ay (aa 2) (ay (aa 0) af)))))) (au (aB (ba (ae (ay (aa 0) af) (ae (ay (aa 2) (ay (aa 0) af)) ag))))) aK) (au (aB bT))) aK) (ao (aJ (PW.pt (b9 (c9 (cT (aA (uo T) hr (ae (ay (aa 0) af) ag)))) (b9 (iZ yn (ay (aa 0) af) (aa 3) (by with_unfolding_all rfl)) (dm (qL (GS (dt hr) (ba (ae (ay (aa 0) af) (ae (ay (aa 0) af) ag))) (aa 1))))))) (au (aB bT)) aK) (au (aB (ba (ae (ay (aa 0) af) (ae (nM (dt hr) (aa 1) (ba (ae (ay (aa 0) af) (ae (ay (aa 0) af) ag))) (λy y=>rfl)) ag)))))))),?_];obtain rfl:k2=k:=hk;rfl';refine vx ha ?_;rfl';refine#[_,lQ (aw.of ha),?_];rfl';refine aE (aw.of ha) (v:=.int k2) Y #[_,Y,.inr #[_,Y],?_];simp only[isWhole];rfl';refine aE (aw.of ha) (v:=ev o) Y ?_;cases o with
 | none =>
  obtain⟨v,hv,pz,rfl,hp⟩:=hG.at (i:=k2) (a:=U wd) (by rw[Z1,hm];rfl);have Zm:=(ZL.mp hv).1;rfl';refine aE (aw.of ha) (v:=.int k2) Y ?_;rfl';refine aZ (λy=>#[_,dN hb,aZ (λy=>?_) λh0=>absurd (show ((k2:Nat):Int)<((zs.length:Nat):Int) by lia) h0]) λh0=>absurd (show (0:Int)<=((k2:Nat):Int) by lia) h0;refine aE (aw.of ha) (v:=.int k2) Y (aN hb (dZ hv) ?_);rfl';exact aE (aw.of ha) (v:=.int k2) Y (aE (aw.of ha) (v:=.int k2) Y (aN hb (dZ hv) #[bg,λt ht=>q _ _ (aq ht) #[t,pz,Y,ar,(aq ht) _ _ hp]]))
 | some e =>
  rfl';refine aE (aw.of ha) (v:=.int e) Y #[_,Y,.inr #[_,Y],?_];simp only[isWhole];rfl';refine aE (aw.of ha) (v:=.int e) Y ?_;rfl';obtain⟨sf,bq⟩:e∉as/\((e,((k2:Nat):Int)),wd)∈tb:=hm;obtain⟨kvs,fT,hA⟩:=id hT;obtain⟨vv,hvv,va,rfl,hva⟩:=(hA.val (e,((k2:Nat):Int))).2 _ (pP bY bq);refine#[z,_,Y,.inl (ah.of hz),Y,rS as,#[_,Y,?_]];rw[pV];refine aZ (λh0=>absurd h0 (by simpa using sf)) λy=>?_;refine aE (aw.of ha) (v:=.int e) Y (aE (aw.of ha) (v:=.int k2) Y #[bg,λp hp=>?_]);have u1:=aq (o:=.tup [.int e,.int (k2:Int)]) hp;refine#[_,cJ.t (k:=aU e (k2:Int)) (u1 _ _ fT) ar,?_];rw[hvv];refine aZ (λh0=>nomatch h0) λy=>?_;refine aE (aw.of (u1 _ _ ha)) (v:=.int k2) Y (aE (aw.of (u1 _ _ ha)) (v:=.int e) Y (aE (aw.of (u1 _ _ ha)) (v:=.int k2) Y #[bg,λp2 dC=>?_]));have u2:=aq (o:=.tup [.int e,.int (k2:Int)]) dC;have U9q:=u1.trans u2;refine#[.ref va,by rw[<- hvv];exact cJ.t (k:=aU e (k2:Int)) (U9q _ _ fT) ar,bg,λp3 gk=>?_];have u3:=aq (o:=.tup [.int (k2:Int),.ref va]) gk;exact q _ _ (U9q.trans u3) #[p3,va,Y,ar,(U9q.trans u3) _ _ hva]
theorem uy:Gd 1 (.tuple [.str "full"]):=.tup λd hd=>by
 obtain rfl:d = .str "full" := by simpa using hd
 exact Gd.str (by decide +kernel)
theorem Ld(h:aiS w=true)(j:Int):Gd 1 (.tuple [.str w,.int j]):=.tup λd hd=>by
 simp only[ZO,aaL,or_false] at hd;rcases hd with rfl|rfl
 .exact Gd.str h
 .exact Gd.int _
theorem Dz(hx:Dat K H x d)(g:Gd n d)(hn:n<=60)(hp:H p=U (.tup [.str "full"]))(bM:abN d (.tuple [.str "full"])=false)(q:Q (.bl false) H):zg K false x (.ref p) H Q:=by refine#[d,_,hx,.tup (aw.of hp) (.cons (.str _) .nil),g.lay,uy.lay,ZQ g.dep hn,?_];rw[if_neg (by decide),bM];exact q
noncomputable def xr(o:En):ad1:=match o with|none=>.none|some i=>.int i
theorem Le{K:ZF}{H:Hp}(o:En):Dat K H (ev o) (xr o):=by
 cases o with
 | none=>exact .non
 | some i=>exact .int _
noncomputable def oO:Pp->ad1
 | .nil=>.none
 | .full=>.tuple [.str "full"]
 | .cls c a b=>.tuple [.str "clash",.tuple [xr c.1.1,.int (c.1.2:Int)],.tuple [xr c.2.1,.int (c.2.2:Int)],oO a,oO b]
theorem DA{K:ZF}{H:Hp}:∀ {t:Pp} {v:V},iQ H v t->Dat K H v (oO t)
 | .nil,_,h=>by rw[show _=V.non from h];exact .non
 | .full,_,⟨r,e,h⟩=>by rw[e];exact .tup (aw.of h) (.cons (.str _) .nil)
 | .cls c a b,_,⟨r,p,q,x,y,e,h1,h2,h3,h4,h5⟩=>by rw[e];exact .tup (aw.of h1) (.cons (.str _) (.cons (.tup (aw.of h2) (.cons (Le _) (.cons (.int _) .nil))) (.cons (.tup (aw.of h3) (.cons (Le _) (.cons (.int _) .nil))) (.cons (DA h4) (.cons (DA h5) .nil)))))
theorem Lf(o:En):Gd 0 (xr o):=by
 cases o with
 | none=>exact .of rfl
 | some i=>exact Gd.int _
theorem DB:∀ t:Pp,Gd (bA t+1) (oO t)
 | .nil=>Gd.up (.of rfl:Gd 0 _) (Z3 _)
 | .full=>uy.up (by decide)
 | .cls c a b=>.tup λd hd=>by
  have l1:bA a<=bA (.cls c a b)-1:=by show bA a<=(if bA a<=bA b then bA b else bA a)+1-1;split<;>lia
  have l2:bA b<=bA (.cls c a b)-1:=by show bA b<=(if bA a<=bA b then bA b else bA a)+1-1;split<;>lia
  have l3:1<=bA (.cls c a b):=aij _ _;simp only[ZO,aaL,or_false] at hd;rcases hd with rfl|rfl|rfl|rfl|rfl
  .exact (Gd.str (by decide +kernel)).up (by lia)
  .refine Gd.up (n:=1) (.tup λd hd=>?_) l3;simp only[ZO,aaL,or_false] at hd;rcases hd with rfl|rfl
   .exact Lf _
   .exact Gd.int _
  .refine Gd.up (n:=1) (.tup λd hd=>?_) l3;simp only[ZO,aaL,or_false] at hd;rcases hd with rfl|rfl
   .exact Lf _
   .exact Gd.int _
  .exact (DB a).up (by lia)
  .exact (DB b).up (by lia)
theorem XG(h:clash ps m n):wI ps m n=true:=by obtain⟨a,b,e1,e2,e3⟩:=h;unfold wI;rw[e1,e2];exact decide_eq_true (by lia)
theorem Lg(h:gX gs tb as s m)(hg:gs.length=n+1)(ht:∀ r∈tb,r.1.2.toNat<=n):m.1<=n:=by
 obtain⟨e,h⟩:=h;rw[e];obtain⟨o,k⟩:=s;cases o with
 | none =>
  have:=(ZL.mp (show gs[k]?=U m.2 from h)).1;show k<=n;lia
 | some x=>exact ht _ h.2
inductive qC(H:Hp)(w kn:ZX)(sw gw:List W2)(tb:Tb)(m:Int):Prop
 | mk(s gl:ZX)(ys zs:List V)(_:H kn=U (.tup [.ref s,.ref gl,.int m]))(_:H s=U (.lst ys))(_:ax (cF H) ys sw)(_:H gl=U (.lst zs))(_:ax (cF H) zs gw)(_:gw.length=sw.length+1)(_:sw.length<=900)(_:TabAt H w tb)(_:(tb.map (·.1)).Nodup)(_:∀ r∈tb,r.1.2.toNat<=sw.length)
theorem qC.same{H H':Hp}{w kn:ZX}{sw gw:List W2}{tb:Tb}{m:Int}(h:qC H w kn sw gw tb m)(x:aj H H'):qC H' w kn sw gw tb m:=let ⟨s,gl,ys,zs,a,b,c,d,e,f,g,i,j,k⟩:=h;#[s,gl,ys,zs,x _ _ a,x _ _ b,c.imp λy y r=>r.same x,x _ _ d,e.imp λy y r=>r.same x,f,g,i.same x,j,k]
inductive uz(H:Hp)(v:V)(sw gw:List W2)(tb:Tb)(m:Int)(as:List Int)(N:Nat):Prop
 | mX (k:ZX) (j:Nat) (_:v = .ref k) (_:H k=U (.tup [.str "step",.int (j:Int)])) (_:sw[j]?=U O)
 | gol (k:ZX) (j:Nat) (_:v = .ref k) (_:H k=U (.tup [.str "at",.int (j:Int)])) (_:gw[j]?=U O)
 | pap (t:Pp) (pp:List P2) (gs:List S2) (_:iQ H v t) (_:bA t<N) (_:sw=pp.map fB) (_:gw=gs.map U) (_:Val pp gs tb m t as)
theorem uz.same{H H':Hp}{v:V}{sw gw:List W2}{tb:Tb}{m:Int}{as:List Int}{N:Nat}(h:uz H v sw gw tb m as N)(s:aj H H'):uz H' v sw gw tb m as N:=by
 rcases h with ⟨k,j,e,h1,h2⟩|⟨k,j,e,h1,h2⟩|⟨t,pp,gs,h1,h2,h3,h4,h5⟩
 .exact .mX k j e (s _ _ h1) h2
 .exact .gol k j e (s _ _ h1) h2
 .exact .pap t pp gs (h1.same s) h2 h3 h4 h5
inductive xt(K:ZF)(N:Nat)(vs:List V)(H:Hp)(Q:VK)(aR:XK):Prop
 | mk(v:V)(w kn z:ZX)(m:Int)(sw gw:List W2)(tb:Tb)(as:List Int)(_:vs=[v,.ref w,.ref kn,.ref z])(_:0<N)(_:N<=10)(_:qC H w kn sw gw tb m)(_:H z=U (.lst (as.map V.int)))(_:as.length+N<=30)(_:uz H v sw gw tb m as N)(_:∀ H',aj H H'->Q (.bl true) H')
inductive XH(K:ZF)(N:Nat)(vs:List V)(H:Hp)(Q:VK)(aR:XK):Prop
 | mk(v:V)(w kn z:ZX)(m:Int)(pp:List P2)(gs:List S2)(tb:Tb)(as:List Int)(c:Cl)(a b:Pp)(_:vs=[v,.ref w,.ref kn,.ref z])(_:N<=10)(_:qC H w kn (pp.map fB) (gs.map U) tb m)(_:H z=U (.lst (as.map V.int)))(_:as.length+1+N<=30)(_:iQ H v (.cls c a b))(_:bA a<N)(_:bA b<N)(_:(match c.1.1 with|none=>a = .nil|some e=>Val pp gs tb m a (as++[e])))(_:(match c.2.1 with|none=>b = .nil|some e=>if c.1.1=U e then b = .nil else Val pp gs tb m b (as++[e])))(_:∀ H',aj H H'->Q (.bl true) H')
theorem XI(T:Tx K mg)(N:Nat)(ih:Ok P w base (2 * N+3) T.fQ (xt K N)):Ok P w base (2 * N+4) T.lA (XH K N):=by
 refine okN T.lA.F sP.1 (λvs H Q E h=>?_) (λa7 A outer s H vs Q E hr h=>?_)
 .obtain⟨v,w,kn,z,m,pp,gs,tb,as,c,a,b,rfl,u⟩:=h;rfl
 .obtain⟨v,w,kn,z,m,pp,gs,tb,as,⟨⟨o,i⟩,⟨o',i'⟩⟩,a,b,rfl,hN,hK,hz,hl,⟨r,p,p',x,y,rfl,bJ,hp,cC,hx,hy⟩,la,lb,ha,hb,q⟩:=h;refine#[_,(ao (ib (i:=4) sP.nd Y (ade Y) (cv cw (cv cw (aa 0) af (λu u=>rfl)) af (λu u=>rfl))) (ao (ib (i:=5) sP.nd Y (ade Y) (cv cw (cv cw (aa 0) af (λu u=>rfl)) af (λu u=>rfl))) (ao (aJ (PW.pt (dX (dG (aa 4)) (eR (ee (cv cw (aa 0) af (λu u=>rfl)))))) (au (aB dW)) aK) (ao (aJ (PW.pt (dX (ee (aa 4)) (eR (c9 (cT (dY ih (hr.mono (by lia)) Y T.fQ.m T.fQ.F.kp T.fQ.b .nil cg (ae (cv cw (aa 0) af (λu u=>rfl)) (ae (aa 1) (ae (aa 2) (ae (aC jI (aa 3) (cH (ae (aa 4) ag))) ag)))))))))) (au (aB dW)) aK) (ao (aJ (PW.pt (b9 (dG (aa 5)) (dm (cG (aa 5) (aa 4))))) (au (aB (qK (uP (cv cw (aa 0) af (λu u=>rfl)))))) aK) (au (aB (dY ih (hr.mono (by lia)) Y T.fQ.m T.fQ.F.kp T.fQ.b .nil cg (ae (cv cw (aa 0) af (λu u=>rfl)) (ae (aa 1) (ae (aa 2) (ae (aC jI (aa 3) (cH (ae (aa 5) ag))) ag)))))))))))),?_];dsimp only at ha hb hp cC;have go:∀ (e:Int) (v:V) (tt:Pp) (H1:Hp) (R:V->Hp->Prop),aj H H1->iQ H v tt->bA tt<N->Val pp gs tb m tt (as++[e])->(∀ H2,aj H H2->R (.bl true) H2)->∀ p1,H1 p1=O->∃ uA,upd H1 p1 (.lst [.int e]) z=U (.lst uA)/\∃ uB,upd H1 p1 (.lst [.int e]) p1=U (.lst uB)/\uA.length+uB.length<=aah/\∀ p2,upd H1 p1 (.lst [.int e]) p2=O->xt K N [v,.ref w,.ref kn,.ref p2] (upd (upd H1 p1 (.lst [.int e])) p2 (.lst (uA++uB))) R E0:=λe v tt H1 R s1 h1 h2 h3 h4 p1 fS=>by have u1:=aq (o:=.lst [.int e]) fS;refine#[_,u1 _ _ (s1 _ _ hz),_,ar,ZQ (by rw[ZJ,aab];lia:_<=100) (by decide),λp2 dC=>?_];have u2:=aq (o:=.lst (as.map V.int++[.int e])) dC;have U9q:=s1.trans (u1.trans u2);exact#[v,w,kn,p2,m,_,_,tb,as++[e],Y,by lia,hN,hK.same U9q,by rw[aa2];exact ar,by rw[aac,aab];lia,.pap tt pp gs (h1.same U9q) h2 Y Y h3,λH' s'=>h4 _ (U9q.trans s')]
  refine aH (λJ H1=>J=[U (.ref r),U (.ref w),U (.ref kn),U (.ref z),U (ev o),O]/\H1=H) (λN hN=>?_) ?_
  .rfl';exact aE (aw.of bJ) (v:=.ref p) Y (aE (aw.of hp) (v:=ev o) Y (hN _ _ #[Y,Y]))
  rintro u yR J H1 ⟨rfl,rfl⟩;subst yR;refine aH (λJ H2=>J=[U (.ref r),U (.ref w),U (.ref kn),U (.ref z),U (ev o),U (ev o')]/\H2=H1) (λN hN=>?_) ?_
  .rfl';exact aE (aw.of bJ) (v:=.ref p') Y (aE (aw.of cC) (v:=ev o') Y (hN _ _ #[Y,Y]))
  rintro u yR J H2 ⟨rfl,rfl⟩;subst yR;refine aH (λJ H3=>J=[U (.ref r),U (.ref w),U (.ref kn),U (.ref z),U (ev o),U (ev o')]/\H3=H2) (λN hN=>?_) ?_
  .rfl';cases o with
   | none =>
    obtain rfl:a = .nil:=ha;obtain rfl:x = .non:=hx;exact aE (aw.of bJ) (v:=.non) Y (hN _ _ #[Y,Y])
   | some e=>exact hN _ _ #[Y,Y]
  rintro u yR J H3 ⟨rfl,rfl⟩;subst yR;refine aH (λJ H4=>J=[U (.ref r),U (.ref w),U (.ref kn),U (.ref z),U (ev o),U (ev o')]/\aj H3 H4) (λN hN=>?_) ?_
  .rfl';cases o with
   | none=>exact hN _ _ #[Y,aj.refl _]
   | some e =>
    rfl';refine aE (aw.of bJ) (v:=x) Y #[by decide,go e x a _ _ (aj.refl _) hx la ha λH5 s5=>?_];rfl';exact hN _ _ #[Y,s5]
  rintro u yR J H4 ⟨rfl,s4⟩;subst yR;rfl';cases o' with
  | none =>
   obtain rfl:b = .nil:=hb;obtain rfl:y = .non:=hy;exact aE (aw.of (s4 _ _ bJ)) (v:=.non) Y (q _ s4)
  | some e =>
   rfl';refine KL (o:=U e) (o':=o) ?_;replace hb:if o=U e then b = .nil else Val pp gs tb m b (as++[e]):=hb
   by_cases he:o=U e
   .rw[decide_eq_true he.symm];rw[if_pos he] at hb;subst hb;obtain rfl:y = .non:=hy;exact aE (aw.of (s4 _ _ bJ)) (v:=.non) Y (q _ s4)
   .rw[decide_eq_false (λh=>he h.symm)];rw[if_neg he] at hb;exact aE (aw.of (s4 _ _ bJ)) (v:=y) Y #[by decide,go e y b _ _ s4 hy lb hb λH5 s5=>q _ s5]
theorem XJ(T:Tx K mg):∀ N,Ok P w base (2 * N+3) T.fQ (xt K N):=by
 intro N
 induction N with
 | zero =>
  refine okN T.fQ.F ju.1 (λvs H Q E h=>?_) (λa7 A outer s H vs Q E hr h=>?_)
  .obtain⟨v,w,kn,z,m,sw,gw,tb,as,rfl,hN,g⟩:=h;exact absurd hN (aa8 _)
  .obtain⟨v,w,kn,z,m,sw,gw,tb,as,rfl,hN,g⟩:=h;exact absurd hN (aa8 _)
 | succ N ih =>
  refine okN T.fQ.F ju.1 (λvs H Q E h=>?_) (λa7 A outer s H vs Q E hr h=>?_)
  .obtain⟨v,w,kn,z,m,sw,gw,tb,as,rfl,g⟩:=h;rfl
  .obtain⟨v,w,kn,z,m,sw,gw,tb,as,rfl,g,Zn,hK,hz,hl,hR,q⟩:=h;refine#[_,(ao (uT (aa 2) (fI (n:=3) Y (bK (eE (i:=4) ju.nd Y (ade Y)) (bK (eE (i:=5) ju.nd Y (ade Y)) (bK (eE (i:=6) ju.nd Y (ade Y)) fH))))) (ao (aJ (PW.pt (b9 (c9 (cT (bp nz (by rfl) T.oB ny (ae (aa 0) (ae (ng (v:=.ty "tuple") Y T.wV vw Y) ag))))) (dm (cG (bp dg (by rfl) T.cV cQ (ae (aa 0) ag)) af)))) (au (aB dW)) aK) (ao (aJ (iZ (F6 hr.units) (aa 0) (ba (ae b8 ag)) (ff _)) (au (aB (ig (oq uY) (bp dg (by rfl) T.cV cQ (ae (aa 3) ag)) (aa 6) (ff _)))) aK) (ao (aJ (PW.pt (dX (cG (bp dg (by rfl) T.cV cQ (ae (aa 0) ag)) af) (eR (iZ yn (cv cw (aa 0) af (λg g=>rfl)) (ba (ae b8 (ae b8 ag))) (by with_unfolding_all rfl))))) (ao (ib (i:=7) ju.nd Y (ade Y) (aa 5)) (ao (aJ (cG (cv cw (aa 0) af (λg g=>rfl)) b8) (au (ib (i:=7) ju.nd Y (ade Y) (aa 4))) aK) (au (aB (jr (dY (uo T) (hr.mono (by lia)) Y T.mS.m T.mS.F.kp T.mS.b .nil cg (ae (cv cw (aa 0) af (λg g=>rfl)) ag)) (jr (x6 gE qV af (cv cw (aa 0) af (λg g=>rfl)) (bp dg (by rfl) T.cV cQ (ae (aa 7) ag))) (iV (qK (uP (cv cw (aa 7) (cv cw (aa 0) af (λg g=>rfl)) (λg g=>rfl))))))))))) aK) (ao (aJ (PW.pt (b9 (ke (bp dg (by rfl) T.cV cQ (ae (aa 0) ag)) af) (b9 (ke (cv cw (aa 0) af (λg g=>rfl)) b8) (dm (iZ (AK (dt hr)) bT (aa 4) (by with_unfolding_all rfl)))))) (au (aB dW)) aK) (ao (ib (i:=8) ju.nd Y (ade Y) (dY (Lc T) (hr.mono (by lia)) Y T.jz.m T.jz.F.kp T.jz.b .nil cg (ae (cv cw (aa 0) af (λg g=>rfl)) (ae (aa 1) (ae (aa 5) (ae (aa 3) ag)))))) (ao (ib (i:=9) ju.nd Y (ade Y) (dY (Lc T) (hr.mono (by lia)) Y T.jz.m T.jz.F.kp T.jz.b .nil cg (ae (cv cw (aa 0) af (λg g=>rfl)) (ae (aa 1) (ae (aa 5) (ae (aa 3) ag)))))) (ao (aJ (PW.pt (b9 (dG (aa 8)) (b9 (dG (aa 9)) (dm (c9 (cT (dY (XB T) (hr.mono (by lia)) Y T.mT.m T.mT.F.kp T.mT.b .nil cg (ae (aa 4) (ae (aa 8) (ae (aa 9) ag)))))))))) (au (aB dW)) aK) (au (aB (dY (XI T N ih) (hr.mono (by lia)) Y T.lA.m T.lA.F.kp T.lA.b .nil cg (ae (aa 0) (ae (aa 1) (ae (aa 2) (ae (aa 3) ag))))))))))))))),?_];obtain⟨s,gl,ys,zs,xu,hs,hW,hg,hG,gf,hn,hT,bY,hle⟩:=id hK;have yl:=hW.len;have zl:=hG.len;refine aH (λJ H1=>J=[U v,U (.ref w),U (.ref kn),U (.ref z),U (.ref s),U (.ref gl),U (.int m),O,O,O]/\H1=H) (λN hN=>?_) ?_
   .rfl';exact vS (aw.of xu) (hN _ _ #[Y,Y])
   rintro g yR J H1 ⟨rfl,rfl⟩;subst yR;have ur:∃ (k:ZX) (u:V) (us:List V),v = .ref k/\H1 k=U (.tup (u::us)):=by
    rcases hR with ⟨k,j,rfl,hk,hj⟩|⟨k,j,rfl,hk,hj⟩|⟨t,pp,gs,hp,hh,rfl,rfl,hv⟩
    .exact#[k,_,_,Y,hk]
    .exact#[k,_,_,Y,hk]
    .cases t with
     | nil=>exact hv.elim
     | full=>obtain⟨r,rfl,h⟩:=hp;exact#[r,_,_,Y,h]
     | cls c a b=>obtain⟨r,g,g,g,g,rfl,h,g⟩:=hp;exact#[r,_,_,Y,h]
   obtain⟨k,u0,us,rfl,hku⟩:=ur;refine aH (λJ H2=>J=[U (.ref k),U (.ref w),U (.ref kn),U (.ref z),U (.ref s),U (.ref gl),U (.int m),O,O,O]/\H2=H1) (λN hN=>?_) ?_
   .rfl';refine vx hku ?_;rfl';refine#[_,lQ (aw.of hku),?_];refine aZ (λh0=>absurd h0 (by rw[aaJ];lia)) λg=>hN _ _ #[Y,Y]
   rintro g yR J H2 ⟨rfl,rfl⟩;subst yR;rcases hR with ⟨k2,j,e1,hk,hj⟩|⟨k2,j,e1,hk,hj⟩|⟨t,pp,gs,hp,hh,rfl,rfl,hv⟩
   .cases e1;refine aH (λJ H3=>J=[U (.ref k),U (.ref w),U (.ref kn),U (.ref z),U (.ref s),U (.ref gl),U (.int m),O,O,O]/\aj H2 H3) (λN hN=>?_) ?_
    .rfl';refine#[by decide,λp0 oP=>?_];have u1:=aq (o:=.tup [.str "full"]) oP;refine Dz (d:=.tuple [.str "step",.int j]) (n:=1) (.tup (aw.of (u1 _ _ hk)) (.cons (.str _) (.cons (.int _) .nil))) (Ld (by decide +kernel) _) (by lia) ar (by simp[oO,abN,acV]) #[_,Y,?_];rfl';exact hN _ _ #[Y,u1]
    rintro g yR J H3 ⟨rfl,u1⟩;subst yR;refine aH (λg g=>False) (λN hN=>?_) (λg g g g h=>h.elim);rfl';refine#[_,lQ (aw.of (u1 _ _ hk)),?_];refine aZ (λg=>?_) λzz=>absurd Y zz;refine aE (aw.of (u1 _ _ hk)) (v:=.str "step") Y #[bg,λp2 dC=>?_];have u2:=aq (o:=.tup [.str "step",.str "at"]) dC;have U9q:=u1.trans u2;refine#[p2,_,Y,.inr (aw.of ar),Y,Y,_,Y,?_];rw[if_pos (by decide)];refine aE (aw.of (U9q _ _ hk)) (v:=.str "step") Y ?_;rfl';obtain⟨vj,hvj,rj⟩:=hW.at hj;obtain rfl:vj = .non:=rj;have jl:=(ZL.mp hvj).1;refine aE (aw.of (U9q _ _ hk)) (v:=.int j) Y #[_,Y,.inr #[_,Y],?_];simp only[isWhole];rfl';refine aE (aw.of (U9q _ _ hk)) (v:=.int j) Y ?_;rfl';rw[if_pos (by lia)];refine#[_,dN (ah.of (U9q _ _ hs)),?_];rw[if_pos (by lia)];refine aE (aw.of (U9q _ _ hk)) (v:=.int j) Y (aN (ah.of (U9q _ _ hs)) (dZ hvj) ?_);exact q _ U9q
   .cases e1;refine aH (λJ H3=>J=[U (.ref k),U (.ref w),U (.ref kn),U (.ref z),U (.ref s),U (.ref gl),U (.int m),O,O,O]/\aj H2 H3) (λN hN=>?_) ?_
    .rfl';refine#[by decide,λp0 oP=>?_];have u1:=aq (o:=.tup [.str "full"]) oP;refine Dz (d:=.tuple [.str "at",.int j]) (n:=1) (.tup (aw.of (u1 _ _ hk)) (.cons (.str _) (.cons (.int _) .nil))) (Ld (by decide +kernel) _) (by lia) ar (by simp[oO,abN,acV]) #[_,Y,?_];rfl';exact hN _ _ #[Y,u1]
    rintro g yR J H3 ⟨rfl,u1⟩;subst yR;refine aH (λg g=>False) (λN hN=>?_) (λg g g g h=>h.elim);rfl';refine#[_,lQ (aw.of (u1 _ _ hk)),?_];refine aZ (λg=>?_) λzz=>absurd Y zz;refine aE (aw.of (u1 _ _ hk)) (v:=.str "at") Y #[bg,λp2 dC=>?_];have u2:=aq (o:=.tup [.str "step",.str "at"]) dC;have U9q:=u1.trans u2;refine#[p2,_,Y,.inr (aw.of ar),Y,Y,_,Y,?_];rw[if_pos (by decide)];refine aE (aw.of (U9q _ _ hk)) (v:=.str "at") Y ?_;rfl';rw[if_neg (by decide)];obtain⟨vj,hvj,rj⟩:=hG.at hj;obtain rfl:vj = .non:=rj;have jl:=(ZL.mp hvj).1;refine aE (aw.of (U9q _ _ hk)) (v:=.int j) Y #[_,Y,.inr #[_,Y],?_];simp only[isWhole];rfl';refine aE (aw.of (U9q _ _ hk)) (v:=.int j) Y ?_;rfl';rw[if_pos (by lia)];refine#[_,dN (ah.of (U9q _ _ hg)),?_];rw[if_pos (by lia)];refine aE (aw.of (U9q _ _ hk)) (v:=.int j) Y (aN (ah.of (U9q _ _ hg)) (dZ hvj) ?_);exact q _ U9q
   .cases t with
    | nil=>exact hv.elim
    | full =>
     obtain⟨r,e1,bR⟩:=hp;cases e1;refine aH (λg g=>False) (λN hN=>?_) (λg g g g h=>h.elim);rfl';refine#[by decide,λp0 oP=>?_];have u1:=aq (o:=.tup [.str "full"]) oP;refine#[_,_,.tup (aw.of (u1 _ _ bR)) (.cons (.str _) .nil),.tup (aw.of ar) (.cons (.str _) .nil),uy.lay,uy.lay,ZQ uy.dep (by decide),?_];rw[if_neg (by decide),show abN (.tuple [.str "full"]) (.tuple [.str "full"])=true by simp[abN,acV]];refine#[true,Y,?_];rfl';refine#[_,dN (ah.of (u1 _ _ hz)),?_];rw[ZJ,decide_eq_true (show m<((as.length:Nat):Int) from hv)];exact q _ u1
    | cls c a b =>
     obtain⟨r,p,p',x,y,e1,hk,fS,dC,hx,hy⟩:=id hp;cases e1;refine aH (λJ H3=>J=[U (.ref k),U (.ref w),U (.ref kn),U (.ref z),U (.ref s),U (.ref gl),U (.int m),O,O,O]/\aj H2 H3) (λN hN=>?_) ?_
     .rfl';refine#[by decide,λp0 oP=>?_];have u1:=aq (o:=.tup [.str "full"]) oP;refine Dz (DA (hp.same u1)) (DB _) (by lia) ar (by simp[oO,abN,acV]) #[_,Y,?_];rfl';exact hN _ _ #[Y,u1]
     rintro g yR J H3 ⟨rfl,u1⟩;subst yR;refine aH (λJ H4=>J=[U (.ref k),U (.ref w),U (.ref kn),U (.ref z),U (.ref s),U (.ref gl),U (.int m),O,O,O]/\H4=H3) (λN hN=>?_) ?_
     .rfl';exact#[_,lQ (aw.of (u1 _ _ hk)),aZ (λzz=>absurd zz (show ¬ ((5:Nat):Int)=2 by decide)) λg=>hN _ _ #[Y,Y]]
     rintro g yR J H4 ⟨rfl,rfl⟩;subst yR;have XM:=hK.same u1;obtain⟨s',Zo,DC,w9,e1,j4,Lh,fA,Li,-,-,lE,-,-⟩:=id XM;cases (u1 _ _ xu).symm.trans e1;refine aH (λJ H5=>J=[U (.ref k),U (.ref w),U (.ref kn),U (.ref z),U (.ref s),U (.ref gl),U (.int m),O,O,O]/\H5=H4) (λN hN=>?_) ?_
     .rfl';refine#[_,lQ (aw.of (u1 _ _ hk)),?_];refine aZ (λzz=>absurd Y zz) λg=>?_;refine aE (aw.of (u1 _ _ hk)) (v:=.str "clash") Y ?_;rfl';obtain⟨n1,n2,g⟩:=wu Lh;have XN:DC.any j6=false:=by
       rw[n2];exact ad5.mpr λw hw=>by obtain⟨p,g,rfl⟩:=ZN.mp hw;simp[fB]
      refine#[s,DC,Y,Y,ah.of j4,n1,_,Y,?_];rw[XN];rfl';exact hN _ _ #[Y,Y]
     rintro g yR J H5 ⟨rfl,rfl⟩;subst yR;obtain⟨⟨mm,nn,mA,mB,aY⟩,va,vb⟩:=hv;rw[ZJ,ZJ] at gf;rw[ZJ] at hn hle;refine aH (λJ H6=>∃ v1,J=[U (.ref k),U (.ref w),U (.ref kn),U (.ref z),U (.ref s),U (.ref gl),U (.int m),O,U v1,O]/\aj H5 H6/\cU H6 v1 mm) (λN hN=>?_) ?_
     .rfl';exact aE (aw.of (u1 _ _ hk)) (v:=.ref p) Y #[p,w,gl,z,w9,gs,tb,as,c.1,mm,Y,u1 _ _ fS,ah.of fA,Li,lE,bY,u1 _ _ hz,mA,λv1 H6 s6 h6=>hN _ _ #[v1,Y,s6,h6]]
     rintro g yR J H6 ⟨v1,rfl,s6,i1⟩;subst yR;have S6:=u1.trans s6;refine aH (λJ H7=>∃ v2,J=[U (.ref k),U (.ref w),U (.ref kn),U (.ref z),U (.ref s),U (.ref gl),U (.int m),O,U v1,U v2]/\aj H6 H7/\cU H7 v2 nn) (λN hN=>?_) ?_
     .rfl';exact aE (aw.of (S6 _ _ hk)) (v:=.ref p') Y #[p',w,gl,z,w9,gs,tb,as,c.2,nn,Y,S6 _ _ dC,ah.of (s6 _ _ fA),Li.imp λg g r=>cF.same r s6,lE.same s6,bY,S6 _ _ hz,mB,λv2 H7 s7 h7=>hN _ _ #[v2,Y,s7,h7]]
     rintro g yR J H7 ⟨v2,rfl,s7,i2⟩;subst yR;have S7:=S6.trans s7;obtain⟨t1,q1,rfl,Zp⟩:=id (i1.same s7);obtain⟨t2,q2,rfl,Zq⟩:=id i2;refine aH (λJ H8=>J=[U (.ref k),U (.ref w),U (.ref kn),U (.ref z),U (.ref s),U (.ref gl),U (.int m),O,U (.ref t1),U (.ref t2)]/\H8=H7) (λN hN=>?_) ?_
     .rfl';refine#[s,DC,pp,_,_,mm,nn,Y,ah.of ((s6.trans s7) _ _ j4),wx (Lh.imp λg g r=>cF.same r (s6.trans s7)),by lia,i1.same s7,i2,Lg mA gf hle,Lg mB gf hle,?_];rw[XG aY];rfl';exact hN _ _ #[Y,Y]
     rintro g yR J H8 ⟨rfl,rfl⟩;subst yR;have HA:bA a<N:=by have h2:(if bA a<=bA b then bA b else bA a)+1<N+1:=hh;split at h2<;>lia
     have HB:bA b<N:=by have h2:(if bA a<=bA b then bA b else bA a)+1<N+1:=hh;split at h2<;>lia
     rfl';exact#[_,w,kn,z,m,pp,gs,tb,as,c,a,b,Y,by lia,hK.same S7,S7 _ _ hz,by lia,hp.same S7,HA,HB,va,vb,λH' s'=>q _ (S7.trans s')]
theorem XO{tb:Tb}{s:P2}{w:S2}{r:P2 × S2}(h:r∈dR tb s w):r∈tb∨r.2=w:=by
 unfold dR at h;split at h
 .obtain⟨x,hx,rfl⟩:=ZN.mp h;by_cases e:x.1=s
  .rw[if_pos e];exact .inr rfl
  .rw[if_neg e];exact .inl hx
 .rcases aaf.mp h with z|z
  .exact .inl z
  .rw[aap.mp z];exact .inr rfl
inductive XQ(K:ZF)(vs:List V)(H:Hp)(Q:VK)(aR:XK):Prop
 | mk(a b c:ZX)(ns cs:List Int)(e t u d m f:Int)(_:vs=[.ref a,.ref b,.ref c])(_:ah K H a (ns.map V.int))(_:gN ns)(_:ah K H b (ko e t u d m f))(_:iR e t u d m f)(_:ah K H c (cs.map V.int))(_:cs.length=t.toNat)(_:∀ (q:ZX) (tb:Tb) (H':Hp),aj H H'->H q=O->TabAt H' q tb->bF e t tb->tb.length<=24->(∀ r∈tb,aS r.2.1 r.2.2=false)->Q (.ref q) H')
def Lj(H:Hp)(e t:Int)(q:ZX)(H1:Hp):Prop:=∃ tb,aj H H1/\H q=O/\TabAt H1 q tb/\bF e t tb/\tb.length<=24/\∀ r∈tb,aS r.2.1 r.2.2=false
def DD(σ0:Option V->Option V->Option V->Option V->St)(H:Hp)(e t:Int)(q:ZX)(_:Nat)(J:St)(H1:Hp):Prop:=∃ e1 e2 e3 e4,J=σ0 e1 e2 e3 e4/\Lj H e t q H1
theorem XR(T:Tx K mg):Ok P w base 3 T.tT (XQ K):=by
 refine a9 iL ?_;rintro y y y s H y y y hr ⟨a,b,c,ns,cs,e,t,u,d,m,f,rfl,hS,hn,hb,sh,hc,aY,q⟩;refine#[_,(ao (aD 3 iL.nd Hg) (ao (aD 4 iL.nd af) (ao (aD 5 iL.nd af) (ao (aJ (iI (aC j9 (ay (aa 1) af) (ay (aa 1) af)) af) (ao (aD 4 iL.nd af) (au (aD 5 iL.nd af))) aK) (ao (dq aav Y (gC Y T.fR (ae (ay (aa 1) af) ag)) (bQ 6 iL.nd) (ao (aD 7 iL.nd (ig qU (aA (cW T) hr (ae (aa 0) (ae (aC bh af (aa 6)) (ae af ag)))) af (ff _))) (au (dq aav Y (gC Y T.fR (ae (ay (aa 1) af) ag)) (bQ 8 iL.nd) (ao (aD 9 iL.nd (aC bh af (aC j9 af (aC bh (aC j9 (aa 6) (ay (aa 1) af)) (aa 8))))) (au (aJ (PW.pt (dX (my (bp Qh (by rfl) T.cV cQ (ae (aa 3) ag)) (aa 5)) (eR (iI (aA (cW T) hr (ae (aa 0) (ae (aa 9) (ae (aa 4) ag)))) (aC ed (aa 4) af))))) (au (zD (dt hr) (aa 3) (ba (ae (aa 6) (ae (aa 8) ag))) (aA (K8 T) hr (ae (aa 0) (ae (aC bh (aa 9) af) (ae (ay (aa 1) af) (ae (ay (aa 2) (aa 8)) (ae (aa 7) ag)))))) Y)) aK))))))) (au (aB (aa 3)))))))),?_];obtain⟨⟨e1,e2⟩,⟨t1,t2⟩,-,-,-,hf⟩:=id sh;refine aH (λJ H1=>∃ w,J=[U (.ref a),U (.ref b),U (.ref c),U (.ref w),O,O,O,O,O,O]/\Lj H e t w H1) (λN hN=>?_) ?_
 .rfl';exact λw oQ=>hN _ _ #[w,Y,[],aq oQ,oQ,#[[],ar,trivial],bF.nil,Z3 _,λy h=>(nomatch h)]
 rintro y yR J H1 ⟨w,rfl,hw⟩;subst yR;obtain⟨y,s1,y⟩:=id hw;refine aH (λJ H2=>J=[U (.ref a),U (.ref b),U (.ref c),U (.ref w),U (.int 4),O,O,O,O,O]/\H2=H1) (λN hN=>?_) ?_
 .rfl';exact hN _ _ #[Y,Y]
 rintro y yR J H2 ⟨rfl,rfl⟩;subst yR;refine aH (λJ H3=>J=[U (.ref a),U (.ref b),U (.ref c),U (.ref w),U (.int 4),U (.int 24),O,O,O,O]/\H3=H2) (λN hN=>?_) ?_
 .rfl';exact hN _ _ #[Y,Y]
 rintro y yR J H3 ⟨rfl,rfl⟩;subst yR;refine aH (λJ H4=>∃ dn lm:Int,J=[U (.ref a),U (.ref b),U (.ref c),U (.ref w),U (.int dn),U (.int lm),O,O,O,O]/\H4=H3/\(dn=4∨dn=16)/\0<=lm/\lm<=24) (λN hN=>?_) ?_
 .rfl';refine aN (s1.seq hb) (v:=.int e) Y (aN (s1.seq hb) (v:=.int t) Y ?_);rfl';refine#[kN (by lia) (by lia),aZ (λy=>hN _ _ #[16,16,Y,Y,.inr rfl,by decide,by decide]) λy=>hN _ _ #[4,24,Y,Y,.inl rfl,by decide,by decide]]
 rintro y yR J H4 ⟨dn,lm,rfl,rfl,hdn,hlm⟩;subst yR;refine aH (DD (λe1 e2 e3 e4=>[U (.ref a),U (.ref b),U (.ref c),U (.ref w),U (.int dn),U (.int lm),e1,e2,e3,e4]) H e t w 0) (λN hN=>?_) ?_
 .rfl';refine aN (s1.seq hb) (v:=.int e) Y ?_;rfl';refine#[by lia,by lia,nA (DD (λe1 e2 e3 e4=>[U (.ref a),U (.ref b),U (.ref c),U (.ref w),U (.int dn),U (.int lm),e1,e2,e3,e4]) H e t w) #[_,_,_,_,Y,hw] ?_ (λJ H' h=>hN _ _ h)];rintro i J H5 hi ⟨e1,e2,e3,e4,rfl,Ll⟩;obtain⟨y,s5,y⟩:=id Ll;rfl';refine#[a,ns,_,_,Y,s5.seq hS,hn,by lia,by lia,λp p1 p2=>?_];rfl';refine aN (s5.seq hb) (v:=.int t) Y ?_;rfl';refine#[by lia,by lia,nA (DD (λe1 e2 e3 e4=>[U (.ref a),U (.ref b),U (.ref c),U (.ref w),U (.int dn),U (.int lm),U (.int (0+(i:Int))),U (.bl (decide (p=1))),e3,e4]) H e t w) #[O,O,_,_,Y,Ll] ?_ ?_]
  .rintro j J H6 hj ⟨y,y,e3,e4,rfl,mZ⟩;obtain⟨tb,s6,oQ,⟨kvs,hk,hT⟩,ak,uC,cL⟩:=id mZ;have bi:(i:Int)<e:=by lia
   have bj:(j:Int)<t:=by lia
   have tl:=hT.len;have bm:0<=(0+(i:Int)) * t/\(0+(i:Int)) * t<=6 * 12:=#[agE (by lia) (by lia),aip (by lia) t2 (by lia) (by decide)]
   rfl';refine aN (s6.seq hb) (v:=.int t) Y #[kN (by lia) (by lia),kN (by decide) (by lia),kvs,hk,aZ (λaL=>?_) λy=>#[O,O,_,_,Y,mZ]];refine#[a,ns,_,_,Y,s6.seq hS,hn,by lia,by lia,λr r1 r2=>aZ (λy=>?_) λy=>#[O,O,_,_,Y,mZ]];refine aN (s6.seq hb) (v:=.int f) Y (aN (s6.seq hc) (int_at (by lia) (by lia)) ?_);refine#[a,ns,_,_,_,_,Y,s6.seq hS,hn,by lia,hf,λwp lo hi H7 s7 y XS qD y=>#[bg,λk oR=>?_]];have u:=aq (o:=.tup [.int (0+(i:Int)),.int (0+(j:Int))]) oR;have Lm:=(s7.trans u) _ _ hk;refine#[_,kP.t (k:=aU (0+(i:Int)) (0+(j:Int))) Lm ar (aaS (by lia:kvs.length<=24) (by decide)),O,O,_,_,Y,dR tb (0+(i:Int),0+(j:Int)) (lo,hi),jK oQ (s6.trans (s7.trans u)),oQ,#[_,ar,?_],ak.put #[#[by show 0<=0+(i:Int);lia,by show 0+(i:Int)<e;lia],by show 0<=0+(j:Int);lia,by show 0+(j:Int)<t;lia],?_,λr hr=>?_]
   .have F:Fr _ (upd _ w (.dT (putK kvs (aU (0+(i:Int)) (0+(j:Int))) (.ref wp)))):=zL Lm;exact aW.put (s:=(0+(i:Int),0+(j:Int))) (w:=(lo,hi)) (hT.imp λv a b z=>(aP.same z (s7.trans u)).fr F) (aP.fr #[wp,Y,u _ _ XS] F)
   .have:=Hl tb (0+(i:Int),0+(j:Int)) (lo,hi);lia
   .rcases XO hr with z|z
    .exact cL r z
    .rw[z];exact qD
  .rintro J H6 ⟨y,y,e3,e4,rfl,mZ⟩;exact#[_,_,_,_,Y,mZ]
 rintro y yR J H5 ⟨e1,e2,e3,e4,rfl,tb,s5,oQ,hT,ak,uC,cL⟩;subst yR;rfl';exact q w tb H5 s5 oQ hT ak uC cL
theorem XT{tb:Tb}{s:P2}{w:S2}(h:s∉tb.map (·.1)):dR tb s w=tb++[(s,w)]:=by unfold dR;rw[if_neg];intro z;obtain⟨r,hr,e⟩:=adD.mp z;exact h (ZN.mpr #[r,hr,by simpa using e])
theorem XU{α β:Type}{f:α->β}{l:List α}{i:Nat}{a:α}(h:(l.map f).Nodup)(ha:l[i]?=U a):f a∉(l.take i).map f:=by
 have hi:=(ZL.mp ha).1;have e:l=l.take i++a::l.drop (i+1):=by have:=aa0 i l;rw[aa4 hi] at this;rw[ZK hi] at ha;cases ha;exact this.symm
 intro hm;have h2:((l.take i).map f++f a::(l.drop (i+1)).map f).Nodup:=by rw[<- Z0,<- aa2,<- e];exact h
 exact (ad9.mp h2).2.2 _ hm _ (.head _) rfl
def XW(B:ZX)(H3:Hp)(a b w x l p:ZX)(e t u d m:Int)(rs:Tb)(i:Nat)(J:St)(H4:Hp):Prop:=(∃ e1 e2,J=[U (.ref a),U (.ref b),U (.ref w),U (.ref x),U (.ref l),e1,e2])/\lY [p] H3 H4/\dj B H4 x e t u d m p (rs.take i)
inductive XX(K:ZF)(B:ZX)(vs:List V)(H:Hp)(Q:VK)(aR:XK):Prop
 | mk(a b q:ZX)(ns:List Int)(e t u d m f:Int)(tb:Tb)(_:vs=[.ref a,.ref b,.ref q])(_:ah K H a (ns.map V.int))(_:gN ns)(_:ah K H b (ko e t u d m f))(_:iR e t u d m f)(_:TabAt H q tb)(_:bF e t tb)(_:tb.length<=30)(_:(∀ r∈tb,aS r.2.1 r.2.2=false))(_:∀ (x p:ZX) (rs:Tb) (H':Hp),aj H H'->H x=O->H p=O->dj B H' x e t u d m p rs->(rs=tb∨rs=tb.reverse)->Q (.ref x) H')
theorem XY(T:Tx K mg):Ok P w base 4 T.tU (XX K T.aI):=by
 refine a9 ox ?_;rintro n n n n H n n n hr ⟨a,b,w,ns,e,t,u,d,m,f,tb,rfl,hS,hn,hb,sh,hT,ak,Ln,cL,q⟩;refine#[_,(ao (aD 3 ox.nd (EE T.wX (J5 T) hr.m Y T.JY T.mL.b .nil cg (ae (ay (aa 1) af) (ae (ay (aa 1) af) (ae (ay (aa 1) af) (ae (ay (aa 1) af) (ae (ay (aa 1) af) ag))))))) (ao (aD 4 ox.nd (ye (Hb Y) (by rfl) T.wU vq (ae (aa 2) ag))) (ao (aJ (cG (aA (cW T) hr (ae (aa 0) (ae af (ae af ag)))) af) (au (eS (E5 aaW PySem.F.slot_list_reverse PySem.F.type_list_reverse Nn (aa 4)))) aK) (ao (dq aav Y (df (aa 4)) (fI Y (bK (bQ 5 ox.nd) (bK (bQ 6 ox.nd) fH))) (au (eS (ij (aa 3) T.bf T.JZ (J9 T) hr.m T.ly.b .nil cg (ae (aa 5) (ae (aa 6) (ae (ay (nM (dt hr) (aa 2) (ba (ae (aa 5) (ae (aa 6) ag))) (λn n=>rfl)) af) (ae (ay (nM (dt hr) (aa 2) (ba (ae (aa 5) (ae (aa 6) ag))) (λn n=>rfl)) af) ag)))))))) (au (aB (aa 3))))))),?_];obtain⟨⟨e1,e2⟩,⟨t1,t2⟩,⟨u1,n⟩,⟨d1,n⟩,⟨m1,m2⟩,hf⟩:=id sh;refine aH (λJ H1=>∃ x p,J=[U (.ref a),U (.ref b),U (.ref w),U (.ref x),O,O,O]/\aj H H1/\H x=O/\H p=O/\dj T.aI H1 x e t u d m p []) (λN hN=>?_) ?_
 .rfl';refine aN hb (v:=.int e) Y (aN hb (v:=.int t) Y (aN hb (v:=.int u) Y (aN hb (v:=.int d) Y (aN hb (v:=.int m) Y λx dx hx XZ bY=>?_))));have X0:eO e t u d m:=#[#[e1,e2],#[t1,t2],u1,d1,m1,m2]
  refine#[x,dx,e,t,u,d,m,Y,ar,λz=>absurd X0 z,λn p H1 hp s1 X1 P1=>#[Y,?_]];have M:=GW (C:=T.aI) (fs:=[]) hx XZ bY;have S1:aj H H1:=λb o e=>s1 b o (λz=>by rw[z,hx] at e;cases e) (M _ _ e);exact hN _ _ #[x,p,Y,S1,hx,M.free hp,#[#[_,X1],[],P1,trivial]]
 rintro n yR J H1 ⟨x,p,rfl,s1,fx,fp,hB⟩;subst yR;obtain⟨kvs,hk,hA⟩:=hT;refine aH (λJ H2=>∃ l ys,J=[U (.ref a),U (.ref b),U (.ref w),U (.ref x),U (.ref l),O,O]/\aj H1 H2/\H1 l=O/\H2 l=U (.lst ys)/\dv H2 ys (tb.map (·.1))) (λN hN=>?_) ?_
 .rfl';refine#[kvs,s1 _ _ hk,λl ys hl oT=>hN _ _ #[l,ys,Y,aq hl,hl,ar,?_]];exact ((aW.imp (λv a b z=>aP.same z s1) hA).rM oT).imp λn n r=>r.same (aq hl)
 rintro n yR J H2 ⟨l,ys,rfl,s2,fl,hl,hY⟩;subst yR;refine aH (λJ H3=>∃ (ys:List V) (rs:Tb),J=[U (.ref a),U (.ref b),U (.ref w),U (.ref x),U (.ref l),O,O]/\aj H1 H3/\H3 l=U (.lst ys)/\dv H3 ys (rs.map (·.1))/\(rs=tb∨rs=tb.reverse)) (λN hN=>?_) ?_
 .rfl';refine#[a,ns,_,_,Y,(s1.trans s2).seq hS,hn,by lia,by lia,λpp Zr Zs=>?_];rfl';refine aZ (λn=>?_) λn=>hN _ _ #[ys,tb,Y,s2,hl,hY,.inl rfl];refine#[.inl #[Y,_,ah.of hl],_,hl,hN _ _ #[ys.reverse,tb.reverse,Y,jK fl s2,ar,?_,.inr rfl]];rw[ahP];exact dv.put (ax.rev hY) hl
 rintro n yR J H3 ⟨ys,rs,rfl,s3,cu,Lo,qE⟩;subst yR;have DE:bF e t rs:=by
  rcases qE with rfl|rfl
  .exact ak
  .refine#[?_,λr hr=>ak.2 r (ahQ.mp hr)];rw[ahP];exact (ahn _).nodup_iff.mpr ak.1
 have X2:∀ r∈rs,r∈tb:=λr hr=>by
  rcases qE with rfl|rfl
  .exact hr
  .exact ahQ.mp hr
 have Zt:rs.length<=30:=by
  rcases qE with rfl|rfl
  .exact Ln
  .rw[abc];exact Ln
 have yl:=Lo.len;rw[ZJ] at yl;refine aH (λJ H4=>(∃ e1 e2,J=[U (.ref a),U (.ref b),U (.ref w),U (.ref x),U (.ref l),e1,e2])/\aj H H4/\dj T.aI H4 x e t u d m p rs) (λN hN=>?_) ?_
 .rfl';have S3:=s1.trans s3;have Lp:=hB.same s3;obtain⟨⟨dx,Zu⟩,kp,gk,Zv⟩:=id Lp;have lp:l≠p:=λz=>by rw[z,gk] at cu;cases cu
  have wp:w≠p:=λz=>by rw[z,fp] at hk;cases hk
  refine#[#[_,ah.of cu],kE (xs:=ys) (XW T.aI H3 a b w x l p e t u d m rs) #[#[_,_,Y],λn n n z=>z,Lp] ?_ ?_ ?_]
  .rintro i J H4 n ⟨n,bu,n⟩;exact ah.of (bu l _ (by simpa using lp) cu)
  .rintro i y J H4 hy ⟨⟨e1,e2,rfl⟩,bu,qF⟩;obtain⟨r1,bR,ty,rfl,nr⟩:=Lo.get hy;rw[Z1] at bR;obtain⟨r,hr,rfl⟩:=aaj.mp bR;have typ:ty≠p:=λz=>by rw[z,gk] at nr;cases nr
   have oU:=X2 r (Z2 hr);have Lq:=bu w _ (by simpa using wp) (S3 _ _ hk);obtain⟨⟨Lr,uD⟩,kq,DF,Ls⟩:=id qF;obtain⟨v,hv,iv⟩:=(hA.val r.1).2 _ (pP ak.1 oU);obtain⟨va,rfl,hva⟩:=id iv;have X3:va≠p:=λz=>by rw[z,fp] at hva;cases hva
   have Lu:=bu va _ (by simpa using X3) (S3 _ _ hva);refine kI (aw.of (bu ty _ (by simpa using typ) nr)) ?_;rfl';refine#[_,_,uD,Y,bg,λk1 pX=>?_];have v1:=aq (o:=.tup [.int r.1.1,.int r.1.2]) pX;refine#[.ref va,by rw[<- hv];exact cJ.t (k:=aU r.1.1 r.1.2) (v1 _ _ Lq) ar,aE (aw.of (v1 _ _ Lu)) Y #[bg,λk2 eM=>?_]];have v2:=aq (o:=.tup [.int r.1.1,.int r.1.2]) eM;have m6:=v1.trans v2;refine#[.ref va,by rw[<- hv];exact cJ.t (k:=aU r.1.1 r.1.2) (m6 _ _ Lq) ar,br (m6 _ _ Lu) ?_];have xy:=DE.2 r (Z2 hr);have kl:=Ls.len;rw[aeo] at kl;have xp:x≠p:=λz=>by rw[z,DF] at uD;cases uD
   refine#[x,p,e,t,u,d,m,r.1.1,r.1.2,r.2.1,r.2.2,kq,Y,#[#[Lr,m6 _ _ uD],m6 _ _ DF],by lia,λz=>absurd #[xy,cL r oU] z,λn v9 H9 sb DG DH=>#[#[_,_,Y],λc o hc ec=>sb c o (by simpa using hc) (m6 c o (bu c o hc ec)),?_]];have ek:rs.take (i+1)=dR (rs.take i) r.1 r.2:=by rw[XT (XU DE.1 hr),abq,hr];rfl
   rw[ek];exact#[#[Lr,sb x _ xp (m6 _ _ uD)],_,DG,aW.put (Ls.imp λv a b z=>(aP.same z m6).fr (SameBut.fr sb (m6 _ _ DF))) DH]
  .rintro J H4 ⟨⟨e1,e2,rfl⟩,bu,qF⟩;rw[yl,abv] at qF;exact hN _ _ #[#[_,_,Y],λc o ec=>bu c o (by simpa using λz=>by rw[z,fp] at ec;cases ec) (S3 c o ec),qF]
 rintro n yR J H4 ⟨⟨e1,e2,rfl⟩,s4,qF⟩;subst yR;rfl';exact q x p rs H4 s4 fx fp qF qE
theorem X4(tb:Tb):Gd 3 (.list (tb.map Hq)):=.lst λd hd=>by
 obtain⟨r,y,rfl⟩:=ZN.mp hd;refine .tup λd hd=>?_;simp only[ZO,aaL,or_false] at hd;rcases hd with rfl|rfl|rfl
 .exact (Gd.int _).up (by decide)
 .exact (Gd.int _).up (by decide)
 .exact QE r.2
inductive X5(K:ZF)(B:ZX)(vs:List V)(H:Hp)(Q:VK)(aR:XK):Prop
 | mk(x p w:ZX)(e t u d m:Int)(tb rs:Tb)(_:vs=[.ref x,.ref w])(_:dj B H x e t u d m p rs)(_:TabAt H w tb)(_:bF e t tb)(_:rs.Perm tb)(_:tb.length<64)(_:∀ H',aj H H'->Q (.bl true) H')
theorem Lv(T:Tx K mg):Ok P w base 2 T.ue (X5 K T.aI):=by
 refine a9 wO ?_;rintro y y y s H y Q y hr ⟨x,p,w,e,t,u,d,m,tb,rs,rfl,hB,hT,ak,bB,bO,q⟩;refine#[_,(ao (aD 2 wO.nd (bp Qc (by rfl) T.uh rg (ae (ye (Hb Y) (by rfl) T.wU vq (ae (aa 1) ag)) ag))) (au (aB (ig (F6 hr.units) (yc (aa 0) T.bf T.CV (C1 T) hr.m T.ki.b .nil cg) (eX (cO [1] ["_law_told"]) Y (df (aa 2)) (λC s2 H2 ex pn=>#[fV,(ba (ae (di (K:=K) (aa 0) af) (ae (di (K:=K) (aa 0) af) (ae (Hi (dt hr) (aa 1) (aa 0) (λy y=>rfl)) ag))))])) (ff _))))),?_];obtain⟨kvs,fT,hA⟩:=id hT;obtain⟨⟨dx,hx⟩,y⟩:=id hB;have uE:(rs.map (·.1)).Nodup:=(bB.map _).nodup_iff.mpr ak.1;rfl';refine#[kvs,fT,λl ys hl oT=>?_];have P0:ax (λv (r:P2 × S2)=>bC H v r.1) ys tb:=ax.bind (hA.rM oT);have u1:=aq (o:=.lst ys) hl;refine#[ys,ah.of ar,gR tb,Ho (P0.imp λy y r=>bC.same r u1),by rw[P0.len];exact bO,λl2 cf=>?_];have PS:=Hn hA oT;have pl:=PS.len;rw[kS] at pl;generalize b7 (gR tb) .non ys=zs at PS pl;have u2:=aq (o:=.lst zs) cf;have SS:=u1.trans u2;have z2:upd (upd H l (.lst ys)) l2 (.lst zs) l2=U (.lst zs):=ar;generalize upd (upd H l (.lst ys)) l2 (.lst zs)=H2 at SS z2;refine#[_,_,SS _ _ hx,Y,x,p,e,t,u,d,m,rs,Y,hB.same SS,uE,by rw[bB.length_eq];exact bO,λl3 Zw H3 s3 y cu oJ=>#[#[_,ah.of (s3 _ _ z2)],d8 jN (ZQ (by lia:zs.length<=64) (by decide)) (fW (R:=λHx v (r:P2 × S2)=>bC Hx v r.1) (R':=λHx v (r:P2 × S2)=>fO Hx v r) (f:=λr=>r) (bs:=[]) (λy y y y s r=>bC.same r s) (λy y y y s r=>fO.same r s) (PS.imp λy y r=>bC.same r (SS.trans s3)) trivial (λH' s'=>ah.of ((s3.trans s') _ _ z2)) (λv r y H4 s4 h0 Q h=>?_) (λv r bJ H4 s4 h0 Q h=>?_) λH4 ts s4 xa=>?_)]]
 .rfl';exact h
 .obtain⟨ka,rfl,hka⟩:=id h0;have S4:=SS.trans (s3.trans s4);obtain⟨v,hv,iv⟩:=(hA.val r.1).2 _ (pP ak.1 (nQ bJ));rfl';refine aE (aw.of hka) Y (aE (aw.of hka) Y #[v,?_,?_])
  .rw[<- hv];exact cJ.t (k:=aU r.1.1 r.1.2) (S4 _ _ fT) hka
  .exact#[by decide,λz hz=>h _ _ (aq hz) #[z,v,Y,ar,aP.same iv (S4.trans (aq hz))]]
 rw[aal,agk] at xa;rw[Rb uE bB] at oJ;intro l4 gZ;have u4:=aq (o:=.lst ts) gZ;exact QD (.lst (ah.of ((s4.trans u4) _ _ cu)) (zM (oJ.imp λy y r=>fO.same r (s4.trans u4)))) (.lst (ah.of ar) (zM (xa.imp λy y r=>fO.same r u4))) (X4 _) (by decide) (q _ (SS.trans (s3.trans (s4.trans u4))))
def m8(tb:Tb)(cs:List Int)(i:Int):Prop:=∃ r∈tb,r.1.1=i/\hs r.2 (nT cs r.1.2.toNat)=false
inductive X6(K:ZF)(vs:List V)(H:Hp)(Q:VK)(aR:XK):Prop
 | mk(w c:ZX)(e t:Int)(tb:Tb)(cs:List Int)(_:vs=[.ref w,.ref c])(_:TabAt H w tb)(_:bF e t tb)(_:tb.length<=60)(_:ah K H c (cs.map V.int))(_:cs.length=t.toNat)(_:∀ (l:ZX) (es:List Int) (H':Hp),aj H H'->H l=O->H' l=U (.lst (es.map V.int))->es.Nodup->(∀ i,i∈es↔m8 tb cs i)->es.length<=tb.length->Q (.ref l) H')
inductive X7(G H3:Hp)(w c l:ZX)(tb:Tb)(cs:List Int)(i:Nat)(J:St)(H4:Hp):Prop
 | mk(es:List Int)(e1 e2:Option V)(_:J=[U (.ref w),U (.ref c),U (.ref l),e1,e2])(_:aj G H4)(_:SameBut l H3 H4)(_:H4 l=U (.lst (es.map V.int)))(_:es.Nodup)(_:(∀ j,j∈es↔m8 (tb.take i) cs j))(_:es.length<=i)
theorem Lw{tb:Tb}{cs:List Int}{r:P2 × S2}{i:Nat}(h:tb[i]?=U r)(j:Int):m8 (tb.take (i+1)) cs j↔m8 (tb.take i) cs j∨(r.1.1=j/\hs r.2 (nT cs r.1.2.toNat)=false):=by
 unfold m8;rw[abq,h];constructor
 .rintro ⟨q,hq,h1,h2⟩;rcases aaf.mp hq with z|z
  .exact .inl #[q,z,h1,h2]
  .obtain rfl:q=r:=by simpa using z
   exact .inr #[h1,h2]
 .rintro (⟨q,hq,h1,h2⟩|⟨h1,h2⟩)
  .exact#[q,aa6 _ hq,h1,h2]
  .exact#[r,aaa _ (by simp),h1,h2]
theorem Lx(T:Tx K mg):Ok P w base 2 T.tZ (X6 K):=by
 refine a9 qp ?_;rintro y y y y H y y y hr ⟨w,c,e,t,tb,cs,rfl,hT,ak,jB,hc,aY,q⟩;refine#[_,(ao (aD 2 qp.nd (cH ag)) (ao (Rh (dq aav Y (Rk (aa 0)) (fI Y (bK (bQ 3 qp.nd) (bK (bQ 4 qp.nd) fH))) (au (aJ (PW.pt (dX (c9 (cT (aA (La T) hr (ae (nM (dt hr) (aa 0) (ba (ae (aa 3) (ae (aa 4) ag))) (λy y=>rfl)) (ae (ay (aa 1) (aa 4)) ag))))) (eR (iZ E1 (aa 3) (aa 2) (by with_unfolding_all rfl))))) (au (eS (nu aaW ab1 ab2 q9 (aa 2) (ae (aa 3) ag)))) aK)))) (au (aB (aa 2))))),?_];refine aH (λJ H1=>∃ l,J=[U (.ref w),U (.ref c),U (.ref l),O,O]/\aj H H1/\H l=O/\H1 l=U (.lst [])) (λN hN=>?_) ?_
 .rfl';exact#[Z3 _,λl hl=>hN _ _ #[l,Y,aq hl,hl,ar]]
 rintro y yR J H1 ⟨l,rfl,s1,fl,hl⟩;subst yR;obtain⟨kvs,oR,hA⟩:=id hT;have fT:=s1 _ _ oR;refine aH (λJ H2=>∃ (es:List Int) (e1 e2:Option V),J=[U (.ref w),U (.ref c),U (.ref l),e1,e2]/\aj H H2/\H2 l=U (.lst (es.map V.int))/\es.Nodup/\(∀ j,j∈es↔m8 tb cs j)/\es.length<=tb.length) (λN hN=>?_) ?_
 .rfl';refine#[w,kvs,fT,λo=>#[o,kvs,ar,λoT=>?_]];have Ly:=hA.aT oR (u:=.aT o (.dT kvs));have PT:=(aW.aT (hA.imp λy y y z=>aP.same z s1) fT (u:=.aT o (.dT kvs))).rM oT;have kl:=PT.len;rw[ZJ] at kl;have wl:l≠w:=λz=>by rw[z,oR] at fl;cases fl
  have iD:upd H1 w (.aT o (.dT kvs)) l=U (.lst []):=Ie fT hl;have Lz:ah K (upd H w (.aT o (.dT kvs))) c (cs.map V.int):=Rq oR hc;have lG:upd H w (.aT o (.dT kvs)) l=O:=by rw[aF wl];exact fl
  have wG:upd H w (.aT o (.dT kvs)) w=U (.aT o (.dT kvs)):=ar;have sG:aj (upd H w (.aT o (.dT kvs))) (upd H1 w (.aT o (.dT kvs))):=λb u h=>by
   by_cases hb:b=w
   .subst hb;rw[ar] at h ⊢;exact h
   .rw[aF hb] at h ⊢;exact s1 _ _ h
  have LA:∀ H4,aj (upd H w (.aT o (.dT kvs))) H4->aj H (upd H4 w (.dT kvs)):=λH4 s4=>Rn oR s4;generalize upd H1 w (.aT o (.dT kvs))=H3 at PT iD sG oT;generalize upd H w (.aT o (.dT kvs))=G at Ly Lz lG wG sG LA;refine Rm (xs:=jV o) (X7 G H3 w c l tb cs) Y (by rw[kl,hA.len]) #[[],_,_,Y,sG,λy y y z=>z,iD,ac3,λj=>#[λz=>(nomatch z),λ⟨r,hr,_⟩=>by simp at hr],ZS _] ?_ ?_ ?_
  .rintro i J H4 y ⟨es,e1,e2,y,s4,y⟩;exact s4 _ _ wG
  .rintro i v J H4 hv ⟨es,e1,e2,rfl,s4,sb,gZ,bY,iE,hlen⟩;obtain⟨s0,xk,ka,rfl,hka⟩:=PT.get hv;rw[Z1] at xk;obtain⟨r,hr,rfl⟩:=aaj.mp xk;have oU:=Z2 hr;obtain⟨⟨b1,b2⟩,b3,b4⟩:=ak.2 r oU;have wb:=(ZL.mp hr).1;obtain⟨vv,hvv,va,rfl,hva⟩:=(Ly.val r.1).2 _ (pP ak.1 oU);have X9:=sb ka _ (λz=>by rw[z,iD] at hka;cases hka) hka;have LB:∀ (b:Bool),hs r.2 (nT cs r.1.2.toNat)=b->(b=true∨r.1.1∈es)->∀ j,j∈es↔m8 (tb.take (i+1)) cs j:=λb hb h j=>by
    rw[Lw hr j,iE j];constructor
    .exact λz=>.inl z
    .rintro (z|⟨z1,z2⟩)
     .exact z
     .rcases h with h|h
      .rw[h] at hb;rw[hb] at z2;cases z2
      .rw[<- z1];exact (iE _).mp h
   refine kI (aw.of X9) ?_;rfl';refine#[bg,λp hp=>?_];have up:=aq (o:=.tup [.int r.1.1,.int r.1.2]) hp;have kp:upd H4 p (.tup [.int r.1.1,.int r.1.2]) p=U (.tup [.int r.1.1,.int r.1.2]):=ar;have S5:=s4.trans up;have xA:SameBut l H3 (upd H4 p (.tup [.int r.1.1,.int r.1.2])):=λb o hb h=>up _ _ (sb b o hb h);have l5:=up _ _ gZ;generalize upd H4 p (.tup [.int r.1.1,.int r.1.2])=H5 at kp S5 xA l5;refine#[.ref va,by rw[<- hvv];exact cJ.z (k:=aU r.1.1 r.1.2) (S5 _ _ wG) kp,aN (S5.seq Lz) ((congrArg (cN _) (show r.1.2=((r.1.2.toNat:Nat):Int) by lia)).trans (dZ (Ig (by lia)))) #[va,r.2.1,r.2.2,nT cs r.1.2.toNat,Y,aw.of (S5 _ _ hva),aZ (λhf=>?_) λhf=>?_]]
   .refine#[l,_,Y,.inl (ah.of l5),Y,rS es,#[_,Y,?_]];rw[if_pos Y,pV];refine aZ (λhk=>?_) λhk=>?_
    .have Yb:r.1.1∉es:=by simpa using hk
     refine#[.inl #[Y,_,ah.of l5],_,l5,aaS (by rw[ZJ];lia:_<=60) (by decide),es++[r.1.1],_,_,Y,jK lG S5,λb o hb h=>by rw[aF hb];exact xA b o hb h,by rw[ar,aa2];rfl,ad9.mpr #[bY,aaC.mpr #[by simp,ac3],λa ha b hb=>by
      obtain rfl:b=r.1.1:=by simpa using hb
      exact λz=>Yb (z ▸ ha)],λj=>?_,by rw[aac,aab];lia]
     rw[Lw hr j,aaf,iE j,aap];exact#[λz=>z.imp id λz=>#[z.symm,hf],λz=>z.imp id λz=>z.1.symm]
    .have bq:r.1.1∈es:=by simpa using hk
     exact#[es,_,_,Y,S5,xA,l5,bY,LB _ Y (.inr bq),by lia]
   .exact#[es,_,_,Y,S5,xA,l5,bY,LB _ Y (.inl (show hold r.2.1 r.2.2 (nT cs r.1.2.toNat)=true by simpa using hf)),by lia]
  .rintro J H4 ⟨es,e1,e2,rfl,s4,sb,gZ,bY,iE,hlen⟩;have tl:(jV o).length=tb.length:=kl;rw[tl] at hlen iE;rw[abv] at iE;have w4:=s4 _ _ wG;exact#[w4,hN _ _ #[es,e1,e2,Y,LA _ s4,Rp w4 gZ,bY,iE,hlen]]
 rintro y yR J H2 ⟨es,e1,e2,rfl,s2,cf,bY,iE,hlen⟩;subst yR;rfl';exact q l es H2 s2 fl cf bY iE hlen
theorem Yc{cs:List Int}{ps:List Pa}{u d t:Int}{pp:List P2}{gs:List S2}(ht:1<=t)(aY:cs.length=t.toNat)(hk:jP t ps)(es:c7 u d ps (t-1).toNat=pp.map fB)(eg:c8 ps t.toNat=gs.map U)(cL:fq pp (aO cs))(gx:∀ (k:Nat) s,gs[k]?=U s->bD s (aO cs k)) :
 kT cs ps=true/\(∀ k,k+1<cs.length->-d<=aO cs (k+1)-aO cs k/\aO cs (k+1)-aO cs k<=u)/\∀ p∈ps,Dy cs p.1 p.2.1:=by
 have LC:∀ k,k<(t-1).toNat->∀ s∈(U (-d),U u)::sel ps "step" (k:Int),bD s (aO cs (k+1)-aO cs k):=by
  intro k cE;have e:(c7 u d ps (t-1).toNat)[k]?=U (cK (O,O) ((U (-d),U u)::sel ps "step" (k:Int))):=by unfold c7;rw[Z1,aa1 cE];rfl
  rw[es,Z1] at e;obtain⟨p,hp,e2⟩:=aaj.mp e;have jt:=(ZL.mp hp).1;have ek:aG pp k=p:=by unfold aG;rw[ZG,hp];rfl
  have h:=cL k jt;rw[ek] at h;refine pS.mp ?_;rw[<- e2];exact#[_,Y,λa z=>by cases z;exact h.1,λb z=>by cases z;exact h.2]
 have Yd:∀ k,k<t.toNat->∀ s∈sel ps "at" (k:Int),bD s (aO cs k):=by
  intro k cE;have e:(c8 ps t.toNat)[k]?=U (cK (O,O) (sel ps "at" (k:Int))):=by unfold c8;rw[Z1,aa1 cE];rfl
  rw[eg,Z1] at e;obtain⟨s,hs,e2⟩:=aaj.mp e;refine pS.mp ?_;rw[<- e2];exact#[_,Y,gx k s hs]
 have mem:∀ p∈ps,∀ (k:Str) (i:Int),p.1=k->p.2.1=i->p.2.2∈sel ps k i:=λp hp k i e1 e2=>by unfold sel;exact ZN.mpr #[p,Z4.mpr #[hp,by unfold je;rw[decide_eq_true e1,decide_eq_true e2];rfl],Y]
 refine#[aaw.mpr λp hp=>?_,λk cE=>?_,λp hp=>?_]
 .have h:=hk p hp;refine vT.mp ?_;by_cases hs:p.1 = "step"
  .rw[hs,Hu] at h;have en:jQ cs p.1 p.2.1=aO cs (p.2.1.toNat+1)-aO cs p.2.1.toNat:=by unfold jQ aO;rw[if_pos hs,show (p.2.1+1).toNat=p.2.1.toNat+1 by lia]
   rw[en];exact LC p.2.1.toNat (by lia) _ (.tail _ (mem p hp _ _ hs (by lia)))
  .rw[Hv hs] at h;have en:jQ cs p.1 p.2.1=aO cs p.2.1.toNat:=by unfold jQ aO;rw[if_neg hs]
   rw[en];exact Yd p.2.1.toNat (by lia) _ (mem p hp _ _ h.1 (by lia))
 .have h:=LC k (by lia) _ (.head _);exact#[h.1 _ Y,h.2 _ Y]
 .have h:=hk p hp;by_cases hs:p.1 = "step"
  .rw[hs,Hu] at h;exact#[by lia,by lia,λy=>by lia]
  .rw[Hv hs] at h;exact#[by lia,by lia,λz=>absurd z hs]
theorem LD(h:meets (cp tb es) (aO cs))(hb:m8 tb cs i):i∈es:=by obtain⟨r,hr,rfl,h2⟩:=hb;refine ady λz=>?_;have h3:=vT.mp (h _ (fc.mpr #[r,hr,z,Y]));rw[show hold r.2.1 r.2.2 (aO cs r.1.2.toNat)=false from h2] at h3;cases h3
inductive Ye(K:ZF)(vs:List V)(H:Hp)(Q:VK)(aR:XK):Prop
 | mk(c b w cl:ZX)(cs es:List Int)(e t u d m f:Int)(xs:List V)(ps:List Pa)(tb:Tb)(_:vs=[.ref c,.ref b,.ref w,.ref cl])(_:H c=U (.lst (cs.map V.int)))(_:ah K H b (qB e t u d m f))(_:iR e t u d m f)(_:TabAt H w tb)(_:bF e t tb)(_:tb.length<=60)(_:ah K H cl xs)(_:fZ H xs ps)(_:cs.length=t.toNat)(_:kT cs ps=true)(_:(∀ k,k+1<cs.length->-d<=aO cs (k+1)-aO cs k/\aO cs (k+1)-aO cs k<=u))(_:(∀ p∈ps,Dy cs p.1 p.2.1))(_:(es.length:Int)<=m)(_:meets (cp tb es) (aO cs))(_:∀ H',aj H H'->Q (.bl true) H')
inductive uF(H:Hp)(c b w cl:ZX)(_:Nat)(J:St)(H1:Hp):Prop
 | mk(e1 e2:Option V)(_:J=[U (.ref c),U (.ref b),U (.ref w),U (.ref cl),e1,e2])(_:H1=H)
theorem LF(T:Tx K mg):Ok P w base 3 T.t8 (Ye K):=by
 refine a9 sO ?_;rintro y y y y H y y y hr ⟨c,b,w,cl,cs,es,e,t,u,d,m,f,xs,ps,tb,rfl,hc,hb,sh,hT,hot,jB,hX,hP,aY,hmet,bG,hat,pO,gx,q⟩;refine#[_,(ao (aJ (PW.pt (b9 (c9 (cT (bp nz (by rfl) T.oB ny (ae (aa 0) (ae (ng (v:=.ty "list") Y T.wU vq Y) ag))))) (dm (ke (bp dg (by rfl) T.cV cQ (ae (aa 0) ag)) (ay (aa 1) af))))) (au (aB dW)) aK) (ao (dq aav Y (df (aa 0)) (bQ 4 sO.nd) (au (aJ (c9 (cT (aA (uo T) hr (ae (aa 4) ag)))) (au (aB dW)) aK))) (ao (dq aav Y (gC Y T.fR (ae (aC ed (ay (aa 1) af) af) ag)) (bQ 5 sO.nd) (au (aJ (PW.pt (b9 (iI (aC ed (ay (aa 0) (aC bh (aa 5) af)) (ay (aa 0) (aa 5))) (ay (aa 1) af)) (dm (iI (aC ed (ay (aa 0) (aa 5)) (ay (aa 0) (aC bh (aa 5) af))) (ay (aa 1) af))))) (au (aB dW)) aK))) (au (aB (jr (aA (Xr T) hr (ae (aa 0) (ae (aa 3) ag))) (iV (ig (oq gE) (bp dg (by rfl) T.cV cQ (ae (aA (Lx T) hr (ae (aa 2) (ae (aa 0) ag))) ag)) (ay (aa 1) af) (ff _))))))))),?_];have t1:=sh.ht;refine aH (uF H c b w cl 0) (λN hN=>?_) ?_
 .rfl';refine NV hc ?_;rfl';refine#[_,dN (ah.of hc),aN hb (v:=.int t) Y ?_];rw[ZJ,aY];rfl';rw[if_neg (λz=>z (by lia))];exact hN _ _ #[_,_,Y,Y]
 rintro y yR J H1 ⟨e1,e2,rfl,rfl⟩;subst yR;refine aH (uF H1 c b w cl 0) (λN hN=>?_) ?_
 .rfl';refine#[#[_,ah.of hc],kE (xs:=cs.map V.int) (uF H1 c b w cl) #[_,_,Y,Y] ?_ ?_ (λJ H2 ⟨e1,e2,h1,h2⟩=>hN _ _ #[e1,e2,h1,h2])]
  .rintro i J H2 y ⟨y,y,y,rfl⟩;exact ah.of hc
  .rintro i x J H2 hx ⟨e1,e2,rfl,rfl⟩;rw[Z1] at hx;obtain⟨n,y,rfl⟩:=aaj.mp hx;rfl';refine#[_,Y,.inr #[_,Y],?_];simp only[isWhole];rfl';exact#[_,_,Y,Y]
 rintro y yR J H2 ⟨e1,e2,rfl,rfl⟩;subst yR;refine aH (uF H2 c b w cl 0) (λN hN=>?_) ?_
 .rfl';refine aN hb (v:=.int t) Y ?_;rfl';refine#[by lia,by lia,nA (uF H2 c b w cl) #[_,_,Y,Y] ?_ (λJ H3 ⟨e1,e2,h1,h2⟩=>hN _ _ #[e1,e2,h1,h2])];rintro i J H3 hi ⟨e1,e2,rfl,rfl⟩;rfl';rw[show (0:Int)+(i:Int)=((i:Nat):Int) by lia];have hs:=bG i (by lia);unfold aO at hs;refine aN (ah.of hc) (int_at (by lia) (by lia)) (aN (ah.of hc) (int_at (by lia) (by lia)) ?_);rfl';refine aN hb (v:=.int u) Y ?_;rfl';rw[show ((i:Int)+1).toNat=i+1 by lia,aat,if_neg (by lia)];refine aN (ah.of hc) (int_at (by lia) (by lia)) (aN (ah.of hc) (int_at (by lia) (by lia)) ?_);rfl';refine aN hb (v:=.int d) Y ?_;rfl';rw[show ((i:Int)+1).toNat=i+1 by lia,aat,if_neg (by lia)];exact#[_,_,Y,Y]
 rintro y yR J H3 ⟨e1,e2,rfl,rfl⟩;subst yR;rfl';refine#[c,cl,cs,xs,ps,Y,ah.of hc,hX,hP,hat,?_];rw[hmet];rfl';refine#[w,c,e,t,tb,cs,Y,hT,hot,jB,ah.of hc,aY,λl bs H4 s4 y hl nd xB y=>#[_,dN (ah.of hl),aN (s4.seq hb) (v:=.int m) Y ?_]];rfl';have:=xi nd λi hi=>LD gx ((xB i).mp hi);rw[ZJ,decide_eq_true (by lia)];exact q _ s4
theorem Yg(T:Tx K mg):Ok P w base 23 T.fQ (xt K 10):=XJ T 10
theorem LG(h:∀ r∈tb,r∈cj)(x:gX gs tb as s m):gX gs cj as s m:=by
 obtain⟨o,k⟩:=s;cases o with
 | none=>exact x
 | some e=>exact#[x.1,x.2.1,h _ x.2.2]
theorem DI(h:∀ r∈tb,r∈cj):∀ {t:Pp} {as:List Int},Val ps gs tb mo t as->Val ps gs cj mo t as
 | .nil,_,x=>x.elim
 | .full,_,x=>x
 | .cls c a b,as,⟨⟨m,n,x1,x2,x3⟩,y,z⟩=>by
  refine#[#[m,n,LG h x1,LG h x2,x3],?_,?_]
  .cases hc:c.1.1 with
   | none=>rw[hc] at y;exact y
   | some e=>rw[hc] at y;exact DI h y
  .cases hc:c.2.1 with
   | none=>rw[hc] at z;exact z
   | some e =>
    rw[hc] at z;replace z:if c.1.1=U e then b = .nil else Val ps gs tb mo b (as++[e]):=z
    show if c.1.1=U e then b = .nil else Val ps gs cj mo b (as++[e])
    by_cases he:c.1.1=U e
    .rw[if_pos he] at z ⊢;exact z
    .rw[if_neg he] at z ⊢;exact DI h z
inductive Yh(K:ZF)(vs:List V)(H:Hp)(Q:VK)(aR:XK):Prop
 | mk(G:Hp)(v:V)(b w cl:ZX)(e t u d m f:Int)(xs:List V)(ps:List Pa)(tb rs:Tb)(_:vs=[v,.ref b,.ref w,.ref cl])(_:oN G H v (c7 u d ps (t-1).toNat) (c8 ps t.toNat) rs m)(_:rs.Perm tb)(_:ah K H b (qB e t u d m f))(_:iR e t u d m f)(_:TabAt H w tb)(_:bF e t tb)(_:tb.length<=60)(_:ah K H cl xs)(_:fZ H xs ps)(_:ps.length<=900)(_:jP t ps)(_:∀ H',aj H H'->Q (.bl true) H')
theorem Yi(T:Tx K mg):Ok P w base 24 T.ua (Yh K):=by
 refine a9 wN ?_;rintro c c c s H c c c hr ⟨G,v,b,w,cl,e,t,u,d,m,f,xs,ps,tb,rs,rfl,hA,bB,hb,sh,hT,hot,jB,hX,hP,hn,hk,q⟩;refine#[_,(ao (aJ (PW.pt (b9 (c9 (cT (bp nz (by rfl) T.oB ny (ae (aa 0) (ae (ng (v:=.ty "tuple") Y T.wV vw Y) ag))))) (dm (ke (bp dg (by rfl) T.cV cQ (ae (aa 0) ag)) af)))) (au (aB dW)) aK) (ao (aJ (cG (ay (aa 0) af) b8) (au (aB (aA (LF T) hr (ae (ay (aa 0) af) (ae (aa 1) (ae (aa 2) (ae (aa 3) ag))))))) aK) (ao (aD 4 wN.nd (ba (ae (aA (Xu T) hr (ae (aa 1) (ae (aa 3) ag))) (ae (aA (Xw T) hr (ae (aa 1) (ae (aa 3) ag))) (ae (ay (aa 1) af) ag))))) (au (aB (jr (ig qU (ay (aa 0) af) b8 (ff _)) (iV (aA (Yg T) hr (ae (ay (aa 0) af) (ae (aa 2) (ae (aa 4) (ae (cH ag) ag)))))))))))),?_];have t1:=sh.ht;have wl:(c7 u d ps (t-1).toNat).length=(t-1).toNat:=by unfold c7;rw[ZJ,Z8]
 have gw:(c8 ps t.toNat).length=t.toNat:=by unfold c8;rw[ZJ,Z8]
 have ur:∃ (r:ZX) (y:V) (wd:Str),v = .ref r/\H r=U (.tup [.str wd,y])/\((wd = "never" /\ uz H y (c7 u d ps (t-1).toNat) (c8 ps t.toNat) tb m [] 10)∨wd = "may"):=by
  rcases hA with ⟨r,k,j,rfl,h1,h2,h3⟩|⟨r,k,j,rfl,h1,h2,h3⟩|⟨r,k,tt,pp,gs,rfl,h1,h2,h3,h4,h5,h6⟩|⟨r,k,cs,pp,gs,es,rfl,h1,c⟩
  .exact#[r,_,_,Y,h1,.inl #[Y,.mX k j Y h2 h3]]
  .exact#[r,_,_,Y,h1,.inl #[Y,.gol k j Y h2 h3]]
  .exact#[r,_,_,Y,h1,.inl #[Y,.pap tt pp gs h2 (by lia) h4 h5 (DI (λc hr=>bB.mem_iff.mp hr) h6)]]
  .exact#[r,_,_,Y,h1,.inr rfl]
 obtain⟨r,y,wd,rfl,hv,hw⟩:=ur;refine aH (λJ H1=>J=[U (.ref r),U (.ref b),U (.ref w),U (.ref cl),O]/\H1=H) (λN hN=>?_) ?_
 .rfl';refine vx hv ?_;rfl';refine#[_,lQ (aw.of hv),?_];refine aZ (λzz=>absurd Y zz) λc=>?_;exact hN _ _ #[Y,Y]
 rintro c yR J H1 ⟨rfl,rfl⟩;subst yR;rcases hw with ⟨rfl,hR⟩|rfl
 .refine aH (λJ H2=>J=[U (.ref r),U (.ref b),U (.ref w),U (.ref cl),O]/\H2=H1) (λN hN=>?_) ?_
  .rfl';refine aE (aw.of hv) (v:=.str "never") Y ?_;rfl';rw[if_neg (by decide)];exact hN _ _ #[Y,Y]
  rintro c yR J H2 ⟨rfl,rfl⟩;subst yR;refine aH (λJ H3=>∃ kn,J=[U (.ref r),U (.ref b),U (.ref w),U (.ref cl),U (.ref kn)]/\aj H2 H3/\qC H3 w kn (c7 u d ps (t-1).toNat) (c8 ps t.toNat) tb m) (λN hN=>?_) ?_
  .rfl';refine#[b,cl,e,t,u,d,m,f,xs,ps,Y,hb,sh,hX,hP,hn,λl ys H3 s3 c hl hW=>?_];refine#[b,cl,e,t,u,d,m,f,xs,ps,Y,s3.seq hb,sh,s3.seq hX,hP.same s3,hn,λgl zs H4 s4 c gf hG=>?_];have S4:=s3.trans s4;refine aN (S4.seq hb) (v:=.int m) Y #[by decide,λkn xu=>?_];have u1:=aq (o:=.tup [.ref l,.ref gl,.int m]) xu;refine hN _ _ #[kn,Y,S4.trans u1,l,gl,ys,zs,ar,(s4.trans u1) _ _ hl,hW.imp λc c r=>cF.same r (s4.trans u1),u1 _ _ gf,hG.imp λc c r=>cF.same r u1,by lia,by lia,hT.same (S4.trans u1),hot.1,λr hr=>?_];have ho:=hot.2 r hr;unfold eY at ho;lia
  rintro c yR J H3 ⟨kn,rfl,s3,hK⟩;subst yR;rfl';refine aE (aw.of (s3 _ _ hv)) (v:=.str "never") Y ?_;rfl';refine#[Y,aE (aw.of (s3 _ _ hv)) (v:=y) Y #[Z3 _,λz hz=>?_]];have u1:=aq (o:=.lst []) hz;have U9q:=s3.trans u1;exact#[y,w,kn,z,m,_,_,tb,[],Y,by decide,by decide,hK.same u1,ar,by decide,hR.same U9q,λH' s'=>q _ (U9q.trans s')]
 .refine aH (λc c=>False) (λN hN=>?_) (λc c c c h=>h.elim);rfl';refine aE (aw.of hv) (v:=.str "may") Y ?_;rfl';rcases hA with ⟨r',k,j,e1,h1,h2,h3⟩|⟨r',k,j,e1,h1,h2,h3⟩|⟨r',k,tt,pp,gs,e1,h1,h2,h3,h4,h5,h6⟩|⟨r',k,cs,pp,gs,es,e1,h1,h2,c,h3,Yj,eg,cL,gx,pO,iP⟩
  .cases e1;rw[hv] at h1;simp at h1;exact absurd h1.1 (by decide)
  .cases e1;rw[hv] at h1;simp at h1;exact absurd h1.1 (by decide)
  .cases e1;rw[hv] at h1;simp at h1;exact absurd h1.1 (by decide)
  .cases e1;cases hv.symm.trans h1;obtain⟨a1,a2,a3⟩:=Yc t1.1 (h3.trans gw) hk Yj eg cL gx;exact aE (aw.of hv) (v:=.ref k) Y #[k,b,w,cl,cs,es,e,t,u,d,m,f,xs,ps,tb,Y,h2,hb,sh,hT,hot,jB,hX,hP,h3.trans gw,a1,a2,a3,pO,λmm hm=>iP mm (by obtain⟨r1,bR,z1,rfl⟩:=fc.mp hm;exact fc.mpr #[r1,bB.mem_iff.mpr bR,z1,Y]),q]
theorem oN.same{G H H':Hp}{v:V}{sw gw:List W2}{tb:Tb}{mo:Int}(h:oN G H v sw gw tb mo)(s:aj H H'):oN G H' v sw gw tb mo:=by
 rcases h with ⟨r,k,j,rfl,h1,h2,h3⟩|⟨r,k,j,rfl,h1,h2,h3⟩|⟨r,k,p,pp,gs,rfl,h1,h2,h3,e1,e2,h4⟩|⟨r,k,cs,pp,gs,es,rfl,h1,h2,h3,h4,e1,e2,h5,h6,h7,h8⟩
 .exact .mX r k j Y (s _ _ h1) (s _ _ h2) h3
 .exact .gol r k j Y (s _ _ h1) (s _ _ h2) h3
 .exact .pap r k p pp gs Y (s _ _ h1) (h2.same s) h3 e1 e2 h4
 .exact .may r k cs pp gs es Y (s _ _ h1) (s _ _ h2) h3 h4 e1 e2 h5 h6 h7 h8
theorem Yk{u d:Int}{ps:List Pa}{n:Nat}(De : -d<=u)(bG:∀ p∈ps,p.1 = "at"):c7 u d ps n=(aaH n (-d,u)).map fB:=by
 have e:∀ k:Int,sel ps "step" k=[]:=λk=>by
  unfold sel;rw[afM.mpr λp hp=>?_]
  .rfl
  .unfold je;rw[bG p hp,decide_eq_false (by decide)];exact aag
 unfold c7;rw[ag6,List.eq_replicate_iff];refine#[by rw[ZJ,Z8],λw hw=>?_];obtain⟨k,_,rfl⟩:=ZN.mp hw;rw[e];have:d9 (cK (O,O) [(U (-d),U u)]) u:=pS.mpr λs hs=>by rw[aap.mp hs];exact#[λa z=>by cases z;exact De,λb z=>by cases z;exact abe _]
 obtain⟨s,hs,_⟩:=this;unfold cK at hs ⊢;split at hs
 .cases hs
 .rename_i h;rw[if_neg h];rfl
theorem LH{a b:List P2}(h:a.map fB=b.map fB):a=b:=List.map_inj_right (λx y z=>by
 unfold fB at z;cases x;cases y;simp only[afk,Prod.mk.injEq] at z;rw[z.1,z.2]) |>.mp h
theorem LI{ps:List Pa}{n:Nat}{gs:List S2}(h:c8 ps n=gs.map U){j:Nat}{s:S2}(hs:gs[j]?=U s)(x:Int):bD s x ↔ ∀ z∈sel ps "at" (j:Int),bD z x:=by have hl:=congrArg List.length h;unfold c8 at hl h;rw[ZJ,ZJ,Z8] at hl;have hj:=(ZL.mp hs).1;have hg:=congrArg (λz=>z[j]?) h;rw[Z1,aa1 (by lia),Z1,hs] at hg;have e:cK (O,O) (sel ps "at" (j:Int))=U s:=Option.some.inj hg;rw[<- pS,e];exact#[λz=>#[s,Y,z],λ⟨s',e',z⟩=>by cases e';exact z]
def LJ(t u d m:Int)(rs:Tb)(ps:List Pa)(L:List Int)(c:Nat->Int):Prop:=(L.length:Int)<=m/\fq (aaH (t-1).toNat (-d,u)) c/\meets (cp rs L) c/\∀ j:Nat,(j:Int)<t->∀ z∈sel ps "at" (j:Int),bD z (c j)
theorem Yl{G H:Hp}{v:V}{e t u d m:Int}{ps:List Pa}{rs:Tb}(hu:0<=u)(hd:0<=d)(ht:1<=t)(ak:bF e t rs)(bG:∀ p∈ps,p.1 = "at")(A:oN G H v (c7 u d ps (t-1).toNat) (c8 ps t.toNat) rs m) :
 ∃ (r:ZX) (z:V) (b:Bool),v = .ref r/\H r=U (.tup [.str (if b=true then "may" else "never"),z])/\(b=true ↔ ∃ L c,LJ t u d m rs ps L c):=by
 have pe:=Yk (n:=(t-1).toNat) (show -d<=u by lia) bG;have wl:(c8 ps t.toNat).length=t.toNat:=by unfold c8;rw[ZJ,Z8]
 have wn:∀ (j:Nat) L c,LJ t u d m rs ps L c->(c8 ps t.toNat)[j]? ≠ U O:=λj L c ⟨_,_,_,h4⟩ z=>by have hj:=(ZL.mp z).1;rw[wl] at hj;unfold c8 at z;rw[Z1,aa1 hj] at z;have z:cK (O,O) (sel ps "at" (j:Int))=O:=Option.some.inj z;obtain⟨s,e,y⟩:=pS.mpr (h4 j (by lia));rw[z] at e;cases e
 rcases A with ⟨r,k,j,rfl,h1,h2,h3⟩|⟨r,k,j,rfl,h1,h2,h3⟩|⟨r,k,p,pp,gs,rfl,h1,h2,h3,e1,e2,h4⟩|⟨r,k,cs,pp,gs,es,rfl,h1,h2,h3,h4,e1,e2,h5,h6,h7,h8⟩
 .rw[pe,Z1] at h3;obtain⟨q,y,z⟩:=aaj.mp h3;cases z
 .exact#[r,.ref k,false,Y,h1,λz=>(nomatch z),λ⟨L,c,z⟩=>absurd h3 (wn j L c z)]
 .refine#[r,k,false,Y,h1,λz=>(nomatch z),λzq=>?_];obtain⟨L,c,z⟩:=zq;obtain rfl:=LH (e1.symm.trans pe);obtain⟨z1,z2,z3,z4⟩:=z;have gl:gs.length=t.toNat:=by rw[<- wl,e2,ZJ]
  refine absurd h4 (JS z1 z2 (λj s hs=>(LI e2 hs _).mpr (z4 j ?_)) (by rw[aaI];lia) z3 (λq hq=>?_) p [] .nil (λx hx=>by cases hx))
  .have:=(ZL.mp hs).1;lia
  .have ho:=ak.2 q hq;unfold eY at ho;rw[aaI];lia
 .obtain rfl:=LH (e1.symm.trans pe);refine#[r,.ref k,true,Y,h1,λy=>#[es,aO cs,h7,h5,h8,λj hj=>?_],λy=>rfl];have gl:gs.length=t.toNat:=by rw[<- wl,e2,ZJ]
  have hs:=ZK (l:=gs) (i:=j) (by lia);exact (LI e2 hs _).mp (h6 j _ hs)
end
section
seal L2.PE L2.PS L2.aX L2.PA
variable{P:aaE}{w:abb}{K:ZF}{mg:Str->Option ZP}{base:acz}
theorem Ym(h:rs.Perm tb)(ak:bF e t tb):bF e t rs:=#[(h.map _).nodup_iff.mpr ak.1,λr hr=>ak.2 r (h.mem_iff.mp hr)]
inductive Yn(K:ZF)(B:ZX)(vs:List V)(H:Hp)(Q:VK)(aR:XK):Prop
 | mk(x b w p:ZX)(e t u d m f:Int)(tb rs:Tb)(_:vs=[.ref x,.ref b,.ref w])(_:dj B H x e t u d m p rs)(_:ah K H b (ko e t u d m f))(_:iR e t u d m f)(_:TabAt H w tb)(_:rs.Perm tb)(_:bF e t tb)(_:tb.length<=60)(_:∀ H',aj H H'->Q (.bl true) H')
theorem DJ(T:Tx K mg):Ok P w base 25 T.ug (Yn K T.aI):=by
 refine a9 oz ?_;rintro y y y s H y y y hr ⟨x,b,w,p,e,t,u,d,m,f,tb,rs,rfl,hB,hb,sh,hT,bB,ak,jB,q⟩;refine#[_,(ao (aD 3 oz.nd (aA (W5 T) hr (ae (aa 0) ag))) (ao (aJ (PW.pt (b9 (c9 (cT (bp nz (by rfl) T.oB ny (ae (aa 3) (ae (ng (v:=.ty "tuple") Y T.wV vw Y) ag))))) (b9 (ke (bp dg (by rfl) T.cV cQ (ae (aa 3) ag)) af) (dm (c9 (cT (aA (uo T) hr (ae (ay (aa 3) af) ag)))))))) (au (aB dW)) aK) (ao (aJ (PW.pt (b9 (my (ay (aa 3) af) af) (dm (iI (ay (aa 3) af) (ay (aa 1) af))))) (au (aB dW)) aK) (ao (aD 4 oz.nd (aC jI (yh ym (aa 1) yf (yg af)) (cH (ae (ay (aa 3) af) ag)))) (ao (aJ (PW.pt (b9 (c9 (cT (aA (LF T) hr (ae (ay (aa 3) af) (ae (aa 4) (ae (aa 2) (ae (cH ag) ag))))))) (dm (ke (bp dg (by rfl) T.cV cQ (ae (aA (Lx T) hr (ae (aa 2) (ae (ay (aa 3) af) ag))) ag)) (ay (aa 3) af))))) (au (aB dW)) aK) (ao (eS (E5 aaW PySem.F.slot_list_clear PySem.F.type_list_clear Nq (ay (aa 3) af))) (ao (aJ (cG (ay (aa 3) af) af) (au (aB dW)) aK) (ao (aD 5 oz.nd (aC jI (yh ym (aa 1) yf (yg af)) (cH (ae (aC ed (ay (aa 3) af) af) ag)))) (ao (aD 6 oz.nd (aA (WT T) hr (ae (ij (aa 0) T.bf T.J0 (Ka T) hr.m T.lz.b .nil cg (ae (aC ed (ay (aa 3) af) af) ag)) (ae (cH ag) ag)))) (au (aB (jr (aA (Yi T) hr (ae (aa 6) (ae (aa 5) (ae (aa 2) (ae (cH ag) ag))))) (iV (ig qU (ay (aa 6) af) b8 (ff _))))))))))))))),?_];obtain⟨he,ht,hu,hdn,hm,hf⟩:=id sh;have xC:=Ym bB ak;have bO:rs.length<64:=by rw[bB.length_eq];lia
 refine aH (λJ H1=>∃ (r l:ZX) (es cs:List Int),J=[U (.ref x),U (.ref b),U (.ref w),U (.ref r),O,O,O]/\aj H H1/\H l=O/\H1 r=U (.tup [.int es.length,.ref l])/\H1 l=U (.lst (cs.map V.int))/\cs.length=t.toNat/\(es.length:Int)<=e/\fq (aaH (t-1).toNat (-d,u)) (aO cs)/\meets (cp rs es) (aO cs)/\∀ L,mY t u d rs L->es.length<=L.length) (λN hN=>?_) ?_
 .rfl';exact#[x,p,e,t,u,d,m,rs,Y,hB,xC,bO,by lia,he.2,ht.1,ht.2,hu.1,hdn.1,λr l es cs H1 s1 fl bR hl aY hle cL gx m5=>hN _ _ #[r,l,es,cs,Y,s1,fl,bR,hl,aY,hle,cL,gx,m5]]
 rintro y yR J H1 ⟨r,l,es,cs,rfl,s1,fl,bR,hl,aY,hle,cL,gx,m5⟩;subst yR;have jq:=s1.seq hb;refine aH (λJ H2=>J=[U (.ref x),U (.ref b),U (.ref w),U (.ref r),O,O,O]/\H2=H1) (λN hN=>?_) ?_
 .rfl';refine vx bR ?_;rfl';refine#[_,lQ (aw.of bR),?_];refine aZ (λzz=>absurd Y zz) λy=>?_;refine aE (aw.of bR) (v:=.int es.length) Y ?_;refine#[_,Y,.inr #[_,Y],?_];simp only[isWhole];rfl';exact hN _ _ #[Y,Y]
 rintro y yR J H2 ⟨rfl,rfl⟩;subst yR;refine aH (λJ H3=>J=[U (.ref x),U (.ref b),U (.ref w),U (.ref r),O,O,O]/\H3=H2) (λN hN=>?_) ?_
 .rfl';refine aE (aw.of bR) (v:=.int es.length) Y ?_;rfl';rw[if_neg (by lia)];refine aE (aw.of bR) (v:=.int es.length) Y (aN jq (v:=.int e) Y ?_);rfl';rw[if_neg (by lia)];exact hN _ _ #[Y,Y]
 rintro y yR J H3 ⟨rfl,rfl⟩;subst yR;refine aH (λJ H4=>∃ al,J=[U (.ref x),U (.ref b),U (.ref w),U (.ref r),U (.ref al),O,O]/\aj H3 H4/\H4 al=U (.lst (qB e t u d es.length f))) (λN hN=>?_) ?_
 .rfl';refine#[_,jq,λp1 fS=>?_];have u1:=aq (o:=.lst (kC (ko e t u d m f) O (U 4))) fS;refine aE (aw.of (u1 _ _ bR)) (v:=.int es.length) Y #[by decide,λp2 dC=>?_];have u2:=aq (o:=.lst [.int es.length]) dC;refine#[_,u2 _ _ ar,_,ar,ZQ (show 4+1<=5 by decide) (by decide),λp3 gk=>hN _ _ #[p3,Y,u1.trans (u2.trans (aq gk)),?_]];rw[ar];rfl
 rintro y yR J H4 ⟨al,rfl,s4,j8⟩;subst yR;have S4:=s1.trans s4;have qu:=s4 _ _ bR;have gZ:=s4 _ _ hl;have T4:=hT.same S4;have bG:∀ k,k+1<cs.length->-d<=aO cs (k+1)-aO cs k/\aO cs (k+1)-aO cs k<=u:=λk hk=>by have:=cL k (by rw[aaI];lia);unfold aG at this;rw[ZG,ab6,if_pos (by lia)] at this;exact this
 have iP:meets (cp tb es) (aO cs):=λmm hm=>gx mm (by obtain⟨r1,bR,z1,rfl⟩:=fc.mp hm;exact fc.mpr #[r1,bB.mem_iff.mpr bR,z1,Y]);have LK:∀ n:Int,0<=n->n<=e->iR e t u d n f:=λn n0 n1=>#[he,ht,hu,hdn,by lia,hf]
 refine aH (λJ H5=>J=[U (.ref x),U (.ref b),U (.ref w),U (.ref r),U (.ref al),O,O]/\aj H4 H5) (λN hN=>?_) ?_
 .rfl';refine aE (aw.of qu) (v:=.ref l) Y #[Z3 _,λpz lF=>?_];have u1:=aq (o:=.lst []) lF;refine#[l,al,w,pz,cs,es,e,t,u,d,es.length,f,[],[],tb,Y,u1 _ _ gZ,ah.of (u1 _ _ j8),LK _ (by lia) hle,T4.same u1,ak,jB,ah.of ar,trivial,aY,Y,bG,λy h=>(nomatch h),by lia,iP,λH' s'=>?_];rfl';have U9q:=u1.trans s';refine aE (aw.of (U9q _ _ qu)) (v:=.ref l) Y ?_;refine#[w,l,e,t,tb,cs,Y,T4.same U9q,ak,jB,ah.of (U9q _ _ gZ),aY,λll bs H6 s6 y Yo nd xB y=>#[_,dN (ah.of Yo),?_]];refine aE (aw.of ((U9q.trans s6) _ _ qu)) (v:=.int es.length) Y ?_;have l1:=xi nd λi hi=>LD iP ((xB i).mp hi);have l2:es.length<=bs.length:=m5 bs #[aO cs,cL,λmm hm=>by
   obtain⟨r1,bR,z1,rfl⟩:=fc.mp hm;refine vT.mpr (ady λz=>z1 ((xB _).mpr #[r1,bB.mem_iff.mp bR,Y,?_]));exact adj.mpr z]
  rw[ZJ];rfl';rw[if_neg (λz=>z (by lia))];exact hN _ _ #[Y,U9q.trans s6]
 rintro y yR J H5 ⟨rfl,s5⟩;subst yR;have S5:=S4.trans s5;have xD:=s5 _ _ qu;have lD:=s5 _ _ gZ;refine aH (λJ H6=>J=[U (.ref x),U (.ref b),U (.ref w),U (.ref r),U (.ref al),O,O]/\aj H H6/\H6 r=U (.tup [.int es.length,.ref l])) (λN hN=>?_) ?_
 .rfl';refine aE (aw.of xD) (v:=.ref l) Y #[.inl #[Y,_,ah.of lD],l,_,Y,Y,lD,hN _ _ #[Y,jK fl S5,?_]];rw[aF (λz=>by rw[z,lD] at xD;cases xD)];exact xD
 rintro y yR J H6 ⟨rfl,s6,uu⟩;subst yR;refine aH (λJ H7=>J=[U (.ref x),U (.ref b),U (.ref w),U (.ref r),U (.ref al),O,O]/\H7=H6/\0<es.length) (λN hN=>?_) ?_
 .rfl';refine aE (aw.of uu) (v:=.int es.length) Y ?_;rfl';refine aZ (λz=>q _ s6) λz=>hN _ _ #[Y,Y,by lia]
 rintro y yR J H7 ⟨rfl,rfl,h0⟩;subst yR;refine aH (λJ H8=>∃ fl,J=[U (.ref x),U (.ref b),U (.ref w),U (.ref r),U (.ref al),U (.ref fl),O]/\aj H7 H8/\H8 fl=U (.lst (qB e t u d ((es.length:Int)-1) f))) (λN hN=>?_) ?_
 .rfl';refine#[_,s6.seq hb,λp1 fS=>?_];have u1:=aq (o:=.lst (kC (ko e t u d m f) O (U 4))) fS;refine aE (aw.of (u1 _ _ uu)) (v:=.int es.length) Y ?_;rfl';refine#[by decide,λp2 dC=>?_];have u2:=aq (o:=.lst [.int ((es.length:Int)-1)]) dC;refine#[_,u2 _ _ ar,_,ar,ZQ (show 4+1<=5 by decide) (by decide),λp3 gk=>hN _ _ #[p3,Y,u1.trans (u2.trans (aq gk)),?_]];rw[ar];rfl
 rintro y yR J H8 ⟨LL,rfl,s8,Yp⟩;subst yR;have S8:=s6.trans s8;refine aH (λJ H9=>∃ G av,J=[U (.ref x),U (.ref b),U (.ref w),U (.ref r),U (.ref al),U (.ref LL),U av]/\aj H8 H9/\oN G H9 av (c7 u d [] (t-1).toNat) (c8 [] t.toNat) rs ((es.length:Int)-1)) (λN hN=>?_) ?_
 .have B8:=hB.same S8;obtain⟨⟨dx,hx⟩,htb⟩:=id B8;rfl';refine#[_,_,hx,Y,aE (aw.of (s8 _ _ uu)) (v:=.int es.length) Y ?_];rfl';refine#[x,p,e,t,u,d,m,(es.length:Int)-1,rs,Y,B8,xC,λz=>absurd (show eO e t u d ((es.length:Int)-1) by unfold eO;lia) z,λy x' p' H9 s9 y y Yq=>#[Z3 _,λpz lF=>?_]];have u1:=aq (o:=.lst []) lF;exact#[x',p',pz,e,t,u,d,(es.length:Int)-1,[],[],rs,Y,Yq.same u1,xC,by rw[bB.length_eq];exact jB,ht.1,ht.2,by lia,he.2,by lia,by lia,ah.of ar,trivial,by decide,λy h=>(nomatch h),λv H' s' hA=>hN _ _ #[_,v,Y,s9.trans (u1.trans s'),hA]]
 rintro y yR J H9 ⟨G,av,rfl,s9,hA⟩;subst yR;have S9:=S8.trans s9;rfl';refine#[Z3 _,λpz lF=>?_];have u1:=aq (o:=.lst []) lF;refine#[G,av,LL,w,pz,e,t,u,d,(es.length:Int)-1,f,[],[],tb,rs,Y,hA.same u1,bB,ah.of ((s9.trans u1) _ _ Yp),LK _ (by lia) (by lia),hT.same (S9.trans u1),ak,jB,ah.of ar,trivial,by decide,λy h=>(nomatch h),λH' s'=>?_];obtain⟨r2,z,bb,rfl,h2,yz⟩:=Yl (ps:=[]) hu.1 hdn.1 ht.1 xC (λy h=>(nomatch h)) hA;have hz:bb=false:=by
  cases bb with
  | false=>rfl
  | true =>
   obtain⟨L,c,f1,f2,f3,y⟩:=yz.mp rfl;have:=m5 L #[c,f2,f3];lia
 subst hz;rfl';refine aE (aw.of ((u1.trans s') _ _ h2)) (v:=.str "never") Y #[Y,?_];rw[decide_eq_true Y];exact q _ (S9.trans (u1.trans s'))
end
section
seal L2.PE L2.PS L2.aX L2.PA
inductive Yr(K:ZF)(B:ZX)(vs:List V)(H:Hp)(Q:VK)(aR:XK):Prop
 | mk(a b c w x p:ZX)(ns cs:List Int)(e t u d m f:Int)(tb rs:Tb)(_:vs=[.ref a,.ref b,.ref c,.ref w,.ref x])(_:ah K H a (ns.map V.int))(_:gN ns)(_:ah K H b (ko e t u d m f))(_:iR e t u d m f)(_:ah K H c (cs.map V.int))(_:cs.length=t.toNat)(_:TabAt H w tb)(_:dj B H x e t u d m p rs)(_:w≠p)(_:rs.Perm tb)(_:bF e t tb)(_:tb.length<=60)(_:(∀ r∈tb,aS r.2.1 r.2.2=false))(_:∀ (cj kr:Tb) (H':Hp),lY [w,p] H H'->TabAt H' w cj->dj B H' x e t u d m p kr->kr.Perm cj->bF e t cj->cj.length<=tb.length+1->(∀ r∈cj,aS r.2.1 r.2.2=false)->Q .non H')
theorem Ys(T:Tx K mg):Ok P w base 4 T.uf (Yr K T.aI):=by
 refine a9 wQ ?_;rintro n n n s H n Q n hr ⟨a,b,c,w,x,p,ns,cs,e,t,u,d,m,f,tb,rs,rfl,hS,hn,hb,sh,hc,aY,hT,hB,wp,bB,ak,jB,cL,q⟩;refine#[_,(ao (aD 5 wQ.nd (ba (ae (aA (cW T) hr (ae (aa 0) (ae af (ae (ay (aa 1) af) ag)))) (ae (aA (cW T) hr (ae (aa 0) (ae af (ae (ay (aa 1) af) ag)))) ag)))) (au (aJ (PW.pt (dX (qL (PX (dt hr) (aa 5) (aa 3))) (eR (iI (aA (cW T) hr (ae (aa 0) (ae af (ae af ag)))) af)))) (ao (eS (ij (aa 4) T.bf T.U9 (Vt T) hr.m T.mO.b .nil cg (ae (ay (aa 5) af) (ae (ay (aa 5) af) ag)))) (au (eS (Hd (dt hr) (aa 3) (aa 5) #[Y,Y,Y,Y])))) (ao (zD (dt hr) (aa 3) (aa 5) (aA (K8 T) hr (ae (aa 0) (ae af (ae (ay (aa 1) af) (ae (ay (aa 2) (ay (aa 5) af)) (ae dW ag)))))) Y) (au (eS (ij (aa 4) T.bf T.JZ (J9 T) hr.m T.ly.b .nil cg (ae (ay (aa 5) af) (ae (ay (aa 5) af) (ae (ay (nM (dt hr) (aa 3) (aa 5) (λn n=>rfl)) af) (ae (ay (nM (dt hr) (aa 3) (aa 5) (λn n=>rfl)) af) ag))))))))))),?_];obtain⟨he,ht,-,-,-,hf⟩:=id sh;refine aH (λJ H1=>∃ (z:ZX) (i j:Nat),J=[U (.ref a),U (.ref b),U (.ref c),U (.ref w),U (.ref x),U (.ref z)]/\aj H H1/\H1 z=U (.tup [.int i,.int j])/\(i:Int)<e/\(j:Int)<t) (λN hN=>?_) ?_
 .rfl';refine aN hb (v:=.int e) Y ?_;refine#[a,ns,_,_,Y,hS,hn,by lia,by lia,λp1 Zx Zy=>?_];refine aN hb (v:=.int t) Y ?_;refine#[a,ns,_,_,Y,hS,hn,by lia,by lia,λp2 Zz ZA=>?_];refine#[bg,λz hz=>hN _ _ #[z,p1.toNat,p2.toNat,Y,aq hz,?_,by lia,by lia]];rw[ar,show ((p1.toNat:Nat):Int)=p1 by lia,show ((p2.toNat:Nat):Int)=p2 by lia]
 rintro n yR J H1 ⟨z,i,j,rfl,s1,hz,hi,hj⟩;subst yR;have T1:=hT.same s1;have B1:=hB.same s1;obtain⟨kw,hkw,xE⟩:=id T1;obtain⟨⟨dx,hx⟩,kp,jt,xF⟩:=id B1;have uE:(rs.map (·.1)).Nodup:=(bB.map _).nodup_iff.mpr ak.1;have DE:bF e t rs:=#[uE,λr hr=>ak.2 r (bB.mem_iff.mp hr)]
 have wl:=xE.len;have pl:=xF.len;have rl:=bB.length_eq;have xy:eY e t ((i:Int),(j:Int)):=#[#[by show (0:Int)<=(i:Int);lia,hi],by show (0:Int)<=(j:Int);lia,hj]
 have zw:z≠w:=λh=>by rw[h,hkw] at hz;cases hz
 have zp:z≠p:=λh=>by rw[h,jt] at hz;cases hz
 have xw:x≠w:=λh=>by rw[h,hkw] at hx;cases hx
 have xp:x≠p:=λh=>by rw[h,jt] at hx;cases hx
 have Yt:∀ (R:V->Hp->Prop),R=(λn H'=>Q .non H')->∀ (v:V) (wq:ZX) (lo hi:En) (H7:Hp),v = .ref wq->aj H1 H7->H7 wq=U (.tup [ev lo,ev hi])->aS lo hi=false->∃ oV,kP H7 w (.ref z) v oV/\∃ DK uG,oV x=U (HO.ins T.aI DK uG)/\acT (aa7 "tell") uG=O/\eJ K (.ref z) (.int 0) oV λDL H1=>eJ K (.ref z) (.int 1) H1 λDM H1=>∃ uH,cJ H1 w (.ref z) (U uH)/\eJ K uH (.int 0) H1 λDN H1=>∃ uI,cJ H1 w (.ref z) (U uI)/\eJ K uI (.int 1) H1 λDO H1=>C0 T.aI T.iO [.ref x,DL,DM,DN,DO] H1 R E0:=by
  rintro R rfl v wq lo hi H7 rfl s7 uJ qD;have DP:=s7 _ _ hkw;have F8:Fr H7 (upd H7 w (.dT (putK kw (aU (i:Int) (j:Int)) (.ref wq)))):=zL DP;have z8:upd H7 w (.dT (putK kw (aU (i:Int) (j:Int)) (.ref wq))) z=U (.tup [.int (i:Int),.int (j:Int)]):=by rw[aF zw];exact s7 _ _ hz
  have Yu:wq≠w:=λh=>by rw[h,DP] at uJ;cases uJ
  have xG:upd H7 w (.dT (putK kw (aU (i:Int) (j:Int)) (.ref wq))) wq=U (.tup [ev lo,ev hi]):=by rw[aF Yu];exact uJ
  have w8:upd H7 w (.dT (putK kw (aU (i:Int) (j:Int)) (.ref wq))) w=U (.dT (putK kw (aU (i:Int) (j:Int)) (.ref wq))):=ar;have xH:upd H7 w (.dT (putK kw (aU (i:Int) (j:Int)) (.ref wq))) x=U (.ins T.aI dx (uq e t u d m p)):=by rw[aF xw];exact s7 _ _ hx
  have DQ:upd H7 w (.dT (putK kw (aU (i:Int) (j:Int)) (.ref wq))) p=U (.dT kp):=by rw[aF (aaQ wp)];exact s7 _ _ jt
  have TW:aW (upd H7 w (.dT (putK kw (aU (i:Int) (j:Int)) (.ref wq)))) (putK kw (aU (i:Int) (j:Int)) (.ref wq)) (dR tb ((i:Int),(j:Int)) (lo,hi)):=aW.put (s:=((i:Int),(j:Int))) (w:=(lo,hi)) (xE.imp λn n n zz=>(aP.same zz s7).fr F8) #[wq,Y,xG];have LM:aW (upd H7 w (.dT (putK kw (aU (i:Int) (j:Int)) (.ref wq)))) kp rs:=xF.imp λn n n zz=>(aP.same zz s7).fr F8;have vv:bN (putK kw (aU (i:Int) (j:Int)) (.ref wq)) (aU (i:Int) (j:Int))=U (.ref wq):=by rw[PJ,if_pos Y]
  have BU:lY [w,p] H (upd H7 w (.dT (putK kw (aU (i:Int) (j:Int)) (.ref wq)))):=λb o hb h=>by
   have fi:b≠w/\b≠p:=by simpa using hb
   rw[aF fi.1];exact s7 _ _ (s1 _ _ h)
  refine#[_,kP.t (k:=aU (i:Int) (j:Int)) DP (s7 _ _ hz) (aaS (by lia:kw.length<=60) (by decide)),_,_,xH,Y,aE (aw.of z8) Y (aE (aw.of z8) Y #[.ref wq,by rw[<- vv];exact cJ.t (k:=aU (i:Int) (j:Int)) w8 z8,aE (aw.of xG) Y #[.ref wq,by rw[<- vv];exact cJ.t (k:=aU (i:Int) (j:Int)) w8 z8,br xG ?_]])];generalize upd H7 w (.dT (putK kw (aU (i:Int) (j:Int)) (.ref wq)))=H8 at z8 xG w8 xH DQ TW LM BU;refine#[x,p,e,t,u,d,m,(i:Int),(j:Int),lo,hi,kp,Y,#[#[dx,xH],DQ],by lia,λzz=>absurd #[xy,qD] zz,λn v9 H9 sb DG DH=>?_];have F9:Fr H8 H9:=SameBut.fr sb DQ;refine q (dR tb ((i:Int),(j:Int)) (lo,hi)) (dR rs ((i:Int),(j:Int)) (lo,hi)) H9 (λb o hb h=>?_) #[_,sb w _ wp w8,TW.imp λn n n zz=>zz.fr F9] #[#[dx,sb x _ xp xH],_,DG,aW.put (s:=((i:Int),(j:Int))) (w:=(lo,hi)) (LM.imp λn n n zz=>zz.fr F9) DH] (Rr bB) (ak.put xy) (Hl _ _ _) λr hr=>?_
  .have fi:b≠w/\b≠p:=by simpa using hb
   exact sb b o fi.2 (BU b o hb h)
  .rcases Ru hr with zz|zz
   .exact cL r zz
   .rw[zz];exact qD
 have PW:eJ K (V.ref b) (V.int 5) H1 λuA H1=>eJ K (V.ref z) (V.int 1) H1 λy H2=>eJ K (V.ref c) y H2 λuB H1=>K6 K [V.ref a,V.int 230,uA,uB,V.bl true] H1 (λv H1=>∃ oV,kP H1 w (V.ref z) v oV/\∃ DK uG,oV x=U (HO.ins T.aI DK uG)/\acT (aa7 "tell") uG=O/\eJ K (V.ref z) (V.int 0) oV λDL H1=>eJ K (V.ref z) (V.int 1) H1 λDM H1=>∃ uH,cJ H1 w (V.ref z) (U uH)/\eJ K uH (V.int 0) H1 λDN H1=>∃ uI,cJ H1 w (V.ref z) (U uI)/\eJ K uI (V.int 1) H1 λDO H1=>C0 T.aI T.iO [V.ref x,DL,DM,DN,DO] H1 (λx H1=>Q V.non H1) E0) E0:=by refine aN (s1.seq hb) (v:=.int f) Y (aE (aw.of hz) Y (aN (s1.seq hc) (dZ (Ig (by lia))) ?_));exact#[a,ns,_,_,_,_,Y,s1.seq hS,hn,by lia,hf,λwq lo hi H7 s7 n uJ qD n=>Yt _ Y _ wq lo hi H7 Y s7 uJ qD]
 rfl';refine#[_,cJ.t (k:=aU (i:Int) (j:Int)) hkw hz,aZ (λh1=>?_) λh1=>?_]
 .refine#[a,ns,_,_,Y,s1.seq hS,hn,by lia,by lia,λp3 ZC ZD=>?_];refine aZ (λh2=>?_) λh2=>?_
  .obtain⟨v1,lh⟩:=abA.mp h1;have vt:∃ w1,fo tb ((i:Int),(j:Int))=U w1:=by
    cases hh:fo tb ((i:Int),(j:Int)) with
    | none=>rw[(xE.val ((i:Int),(j:Int))).1 hh] at lh;cases lh
    | some w1=>exact#[w1,Y]
   obtain⟨w1,Yv⟩:=vt;have oU:(((i:Int),(j:Int)),w1)∈rs:=bB.mem_iff.mpr (Qq Yv);obtain⟨v2,n9,n⟩:=(xF.val ((i:Int),(j:Int))).2 _ (pP uE oU);refine#[_,_,hx,Y,aE (aw.of hz) Y (aE (aw.of hz) Y #[x,p,e,t,u,d,m,(i:Int),(j:Int),kp,Y,#[#[dx,hx],jt],λzz=>absurd (n9.symm.trans zz) (λh=>nomatch h),λv' n H2 sb dC=>?_])];have F2:Fr H1 H2:=SameBut.fr sb jt;have oH:=sb w _ wp hkw;refine#[.inr #[kw,.inl oH],kw,oH,aU (i:Int) (j:Int),sb z _ zp hz,v1,lh,?_];have F3:Fr H2 (upd H2 w (.dT (kO kw (aU (i:Int) (j:Int))))):=zL oH;refine q (nP tb ((i:Int),(j:Int))) (nP rs ((i:Int),(j:Int))) _ (λb o hb h=>?_) #[_,ar,aW.drop (s:=((i:Int),(j:Int))) ((xE.imp λn n n zz=>zz.fr F2).imp λn n n zz=>zz.fr F3)] #[#[dx,by rw[aF xw];exact sb x _ xp hx],_,by rw[aF (aaQ wp)];exact dC,aW.drop (s:=((i:Int),(j:Int))) ((xF.imp λn n n zz=>zz.fr F2).imp λn n n zz=>zz.fr F3)] (Rt bB) ak.drop (ad8 (aan _ _)) λr hr=>cL r (Z4.mp hr).1;have fi:b≠w/\b≠p:=by simpa using hb
   rw[aF fi.1];exact sb b o fi.2 (s1 _ _ h)
  .exact PW
 .exact PW
inductive xI(K:ZF)(vs:List V)(H:Hp)(Q:VK)(aR:XK):Prop
 | mk(a:ZX)(ns:List Int)(_:vs=[.ref a])(_:ah K H a (ns.map V.int))(_:gN ns)(_:∀ H',Q (.bl true) H')
theorem Yw(T:Tx K mg):Ok P w base 26 T.oA (xI K):=by
 refine a9 mI ?_;rintro y y y y H y y y hr ⟨a,ns,rfl,hS,hn,q⟩;refine#[_,(ao (aD 1 mI.nd (aA (Xe T) hr (ae (aa 0) ag))) (ao (aD 2 mI.nd (aA (Xh T) hr (ae (aa 0) (ae (aa 1) ag)))) (ao (aD 3 mI.nd (aA (XR T) hr (ae (aa 0) (ae (aa 1) (ae (aa 2) ag))))) (ao (aD 4 mI.nd (aA (XY T) hr (ae (aa 0) (ae (aa 1) (ae (aa 3) ag))))) (ao (aJ (PW.pt (b9 (c9 (cT (aA (DJ T) hr (ae (aa 4) (ae (aa 1) (ae (aa 3) ag)))))) (b9 (c9 (cT (aA (DJ T) hr (ae (aa 4) (ae (aa 1) (ae (aa 3) ag)))))) (dm (c9 (cT (aA (Lv T) hr (ae (aa 4) (ae (aa 3) ag))))))))) (au (aB dW)) aK) (ao (eS (aA (Ys T) hr (ae (aa 0) (ae (aa 1) (ae (aa 2) (ae (aa 3) (ae (aa 4) ag))))))) (au (aB (jr (aA (DJ T) hr (ae (aa 4) (ae (aa 1) (ae (aa 3) ag)))) (iV (aA (Lv T) hr (ae (aa 4) (ae (aa 3) ag))))))))))))),?_];refine aH (λJ H1=>∃ (b:ZX) (e t u d m f:Int),J=[U (.ref a),U (.ref b),O,O,O]/\aj H H1/\H1 b=U (.lst (ko e t u d m f))/\iR e t u d m f) (λN hN=>?_) ?_
 .rfl';exact#[a,ns,Y,hS,hn,λb e t u d m f H1 s1 y hb sh=>hN _ _ #[b,e,t,u,d,m,f,Y,s1,hb,sh]]
 rintro y yR J H1 ⟨b,e,t,u,d,m,f,rfl,s1,hb,sh⟩;subst yR;refine aH (λJ H2=>∃ (c:ZX) (cs:List Int),J=[U (.ref a),U (.ref b),U (.ref c),O,O]/\aj H1 H2/\H2 c=U (.lst (cs.map V.int))/\cs.length=t.toNat) (λN hN=>?_) ?_
 .rfl';exact#[a,b,ns,e,t,u,d,m,f,Y,s1.seq hS,hn,ah.of hb,sh,λc cs H2 s2 y hc aY y=>hN _ _ #[c,cs,Y,s2,hc,aY]]
 rintro y yR J H2 ⟨c,cs,rfl,s2,hc,aY⟩;subst yR;refine aH (λJ H3=>∃ (w:ZX) (tb:Tb),J=[U (.ref a),U (.ref b),U (.ref c),U (.ref w),O]/\aj H2 H3/\TabAt H3 w tb/\bF e t tb/\tb.length<=24/\∀ r∈tb,aS r.2.1 r.2.2=false) (λN hN=>?_) ?_
 .rfl';exact#[a,b,c,ns,cs,e,t,u,d,m,f,Y,(s1.trans s2).seq hS,hn,ah.of (s2 _ _ hb),sh,ah.of hc,aY,λw tb H3 s3 fw hT ak uC cL=>hN _ _ #[w,tb,Y,s3,hT,ak,uC,cL]]
 rintro y yR J H3 ⟨w,tb,rfl,s3,hT,ak,uC,cL⟩;subst yR;have S3:=s1.trans (s2.trans s3);have b3:=(s2.trans s3) _ _ hb;have c3:=s3 _ _ hc;refine aH (λJ H4=>∃ (x p:ZX) (rs:Tb),J=[U (.ref a),U (.ref b),U (.ref c),U (.ref w),U (.ref x)]/\aj H3 H4/\w≠p/\rs.Perm tb/\dj T.aI H4 x e t u d m p rs) (λN hN=>?_) ?_
 .rfl';refine#[a,b,w,ns,e,t,u,d,m,f,tb,Y,S3.seq hS,hn,ah.of b3,sh,hT,ak,by lia,cL,λx p rs H4 s4 fx fp hB qE=>hN _ _ #[x,p,rs,Y,s4,hT.ne fp,?_,hB]];rcases qE with rfl|rfl
  .exact .refl _
  .exact ahn _
 rintro y yR J H4 ⟨x,p,rs,rfl,s4,wp,bB,hB⟩;subst yR;have S4:=S3.trans s4;have b4:=s4 _ _ b3;have c4:=s4 _ _ c3;have T4:=hT.same s4;refine aH (λJ H5=>J=[U (.ref a),U (.ref b),U (.ref c),U (.ref w),U (.ref x)]/\aj H4 H5) (λN hN=>?_) ?_
 .rfl';refine#[x,b,w,p,e,t,u,d,m,f,tb,rs,Y,hB,ah.of b4,sh,T4,bB,ak,by lia,λH5 s5=>?_];rfl';refine#[x,b,w,p,e,t,u,d,m,f,tb,rs,Y,hB.same s5,ah.of (s5 _ _ b4),sh,T4.same s5,bB,ak,by lia,λH6 s6=>?_];rfl';have U9q:=s5.trans s6;refine#[x,p,w,e,t,u,d,m,tb,rs,Y,hB.same U9q,T4.same U9q,ak,bB,by lia,λH7 s7=>?_];rfl';exact hN _ _ #[Y,U9q.trans s7]
 rintro y yR J H5 ⟨rfl,s5⟩;subst yR;have b5:=s5 _ _ b4;have c5:=s5 _ _ c4;have T5:=T4.same s5;have B5:=hB.same s5;refine aH (λJ H6=>∃ cj kr:Tb,J=[U (.ref a),U (.ref b),U (.ref c),U (.ref w),U (.ref x)]/\Fr H5 H6/\TabAt H6 w cj/\dj T.aI H6 x e t u d m p kr/\kr.Perm cj/\bF e t cj/\cj.length<=60) (λN hN=>?_) ?_
 .rfl';refine#[a,b,c,w,x,p,ns,cs,e,t,u,d,m,f,tb,rs,Y,(S4.trans s5).seq hS,hn,ah.of b5,sh,ah.of c5,aY,T5,B5,wp,bB,ak,by lia,cL,λcj kr H6 bu qr xJ xK o8 iD y=>hN _ _ #[cj,kr,Y,lY.fr bu λq hq=>?_,qr,xJ,xK,o8,by lia]];have fg:q=w∨q=p:=by simpa using hq
  rcases fg with rfl|rfl
  .exact T5.Hk
  .exact B5.tb.Hk
 rintro y yR J H6 ⟨cj,kr,rfl,F,qr,xJ,xK,o8,iD⟩;subst yR;have b6:=F b (.lst (ko e t u d m f)) (λy z=>nomatch z) b5;rfl';refine#[x,b,w,p,e,t,u,d,m,f,cj,kr,Y,xJ,ah.of b6,sh,qr,xK,o8,iD,λH7 s7=>?_];rfl';refine#[x,p,w,e,t,u,d,m,cj,kr,Y,xJ.same s7,qr.same s7,o8,xK,by lia,λH8 s8=>?_];rfl';exact q _
end
theorem Yx{l:af5}{w:abb}{K:ZF}{h:acz}{mg:Str->Option ZP}{fa:ZX}(X:K.In h)(G:h.Ns aak mg)(Yy:mg "law" = U (.ref fa)){wW lB:ZX}{iO lC aI:ZX}{Yz YA:Tok}(YB:aaG K aak "GazeError" = U (U (.ref wW)))(YC:aaG K aak "NoBoard" = U (U (.ref lB)))(YD:aaG K aak "NoTelling" = U (U (.ref iO)))(YE:aaG K aak "NoClaim" = U (U (.ref lC)))(YF:aaG K aak "Board" = U (U (.ref aI)))(sQ:Fb K "is_crossed" "is_crossed" A5 (aQ K "is_crossed"))(sR:Fb K "meet" "meet" A6 (aQ K "meet"))(sS:Fb K "common" "common" A7 (aQ K "common"))(sT:Fb K "number_in" "number_in" A8 (aQ K "number_in"))(sU:Fb K "moved" "moved" A9 (aQ K "moved"))(sV:Fb K "narrowed" "narrowed" Ba (aQ K "narrowed"))(sW:Fb K "stretches_at" "stretches_at" Bb (aQ K "stretches_at"))(sX:Fb K "tube" "tube" Bc (aQ K "tube"))(sY:Fb K "course_in" "course_in" Be (aQ K "course_in"))(sZ:Fb K "lesser" "lesser" Bf (aQ K "lesser"))(tf:Fb K "lifted" "lifted" Bg (aQ K "lifted"))(tj:Fb K "ceilings" "ceilings" Bh (aQ K "ceilings"))(tm:Fb K "crossing" "crossing" Bi (aQ K "crossing"))(tq:Fb K "has_part" "has_part" Bj (aQ K "has_part"))(jv:Fb K "check_claim" "check_claim" Bk (aQ K "check_claim"))(tu:Fb K "stretches_of" "stretches_of" Bl (aQ K "stretches_of"))(mJ:Fb K "paces" "paces" Bm (aQ K "paces"))(mK:Fb K "wanted" "wanted" Bn (aQ K "wanted"))(tD:Fb K "marks_of" "marks_of" Bo (aQ K "marks_of"))(tE:Fb K "marks_without" "marks_without" Bp (aQ K "marks_without"))(tF:Fb K "groups_of" "groups_of" Bq (aQ K "groups_of"))(tG:Fb K "clashes" "clashes" Br (aQ K "clashes"))(tH:Fb K "quarrels" "quarrels" Bs (aQ K "quarrels"))(tI:Fb K "choices" "choices" Bu (aQ K "choices"))(tJ:Fb K "is_enough" "is_enough" Bv (aQ K "is_enough"))(tL:Fb K "is_lean" "is_lean" Bw (aQ K "is_lean"))(tM:Fb K "suspects" "suspects" Bx (aQ K "suspects"))(tN:Fb K "least" "least" By (aQ K "least"))(mL:Fb K "__init__" "Board.__init__" Bz (iJ K aI "__init__"))(mM:Fb K "has_eye" "Board.has_eye" BA (iJ K aI "has_eye"))(jw:Fb K "has_turn" "Board.has_turn" BB (iJ K aI "has_turn"))(ly:Fb K "tell" "Board.tell" BC (iJ K aI "tell"))(mO:Fb K "hush" "Board.hush" BD (iJ K aI "hush"))(ki:Fb K "tellings" "Board.tellings" BE (iJ K aI "tellings"))(lz:Fb K "allowing" "Board.allowing" BF (iJ K aI "allowing"))(mP:Fb K "check_spot" "Board.check_spot" BG (iJ K aI "check_spot"))(mQ:Fb K "check_word" "Board.check_word" BH (iJ K aI "check_word"))(jx:Fb K "without" "without" BI (aQ K "without"))(mR:Fb K "eyes_of" "eyes_of" BJ (aQ K "eyes_of"))(jy:Fb K "put_aside" "put_aside" BK (aQ K "put_aside"))(iM:Fb K "branch" "branch" BL (aQ K "branch"))(iN:Fb K "paper" "paper" BM (aQ K "paper"))(x_ask:Fb K "ask" "ask" BN (aQ K "ask"))(tO:Fb K "_law_pick" "_law_pick" BO (aQ K "_law_pick"))(tP:Fb K "_law_wide" "_law_wide" BP (aQ K "_law_wide"))(tQ:Fb K "_law_shape" "_law_shape" BQ (aQ K "_law_shape"))(tR:Fb K "_law_course" "_law_course" BR (aQ K "_law_course"))(tS:Fb K "_law_word" "_law_word" BS (aQ K "_law_word"))(tT:Fb K "_law_words" "_law_words" BV (aQ K "_law_words"))(tU:Fb K "_law_board" "_law_board" BW (aQ K "_law_board"))(tV:Fb K "_law_in" "_law_in" BX (aQ K "_law_in"))(mS:Fb K "_law_whole" "_law_whole" BY (aQ K "_law_whole"))(tW:Fb K "_law_common" "_law_common" BZ (aQ K "_law_common"))(tX:Fb K "_law_steps" "_law_steps" B0 (aQ K "_law_steps"))(tY:Fb K "_law_goals" "_law_goals" B3 (aQ K "_law_goals"))(tZ:Fb K "_law_liars" "_law_liars" B4 (aQ K "_law_liars"))(t7:Fb K "_law_met" "_law_met" B6 (aQ K "_law_met"))(t8:Fb K "_law_walked" "_law_walked" B7 (aQ K "_law_walked"))(t9:Fb K "_law_rise" "_law_rise" B9 (aQ K "_law_rise"))(mT:Fb K "_law_clash" "_law_clash" Ca (aQ K "_law_clash"))(jz:Fb K "_law_mark" "_law_mark" Cb (aQ K "_law_mark"))(lA:Fb K "_law_beyond" "_law_beyond" Cc (aQ K "_law_beyond"))(fQ:Fb K "_law_refutes" "_law_refutes" Cd (aQ K "_law_refutes"))(ua:Fb K "_law_right" "_law_right" Ce (aQ K "_law_right"))(ue:Fb K "_law_same" "_law_same" Cf (aQ K "_law_same"))(uf:Fb K "_law_deed" "_law_deed" Cg (aQ K "_law_deed"))(ug:Fb K "_law_least" "_law_least" Ci (aQ K "_law_least"))(oA:Fb K "law" "law" Cj (aQ K "law"))(YG:aaG K aak "all" = U O)(YH:aaG K aak "any" = U O)(YI:aaG K aak "bool" = U O)(YJ:aaG K aak "dict" = U O)(YK:aaG K aak "enumerate" = U O)(YL:aaG K aak "int" = U O)(YM:aaG K aak "isinstance" = U O)(YN:aaG K aak "len" = U O)(YO:aaG K aak "list" = U O)(YQ:aaG K aak "max" = U O)(YR:aaG K aak "min" = U O)(YS:aaG K aak "range" = U O)(YT:aaG K aak "reversed" = U O)(YU:aaG K aak "set" = U O)(YV:aaG K aak "sorted" = U O)(YW:aaG K aak "tuple" = U O)(YX:aaG K aak "zip" = U O)(bf:fJ K aI)(mV:aaT K (.ref aI) "eyes" = U O)(oE:aaT K (.ref aI) "turns" = U O)(ui:aaT K (.ref aI) "up" = U O)(uj:aaT K (.ref aI) "down" = U O)(qq:aaT K (.ref aI) "most" = U O)(kj:aaT K (.ref aI) "told" = U O)(wX:afX K aI=true)(YY:ac2 K (.ref aI)=true)(uk:XC K lB)(um:XC K iO)(CW:XC K lC)(YZ:aaG K aak "EYES_AT_MOST" = U (U (.int 7 Yz)))(Y0:aaG K aak "TURNS_AT_MOST" = U (U (.int 12 YA)))
 : ∃ fd:adA,(∀ (s:ZU)(v:ZP),ahd s fd #[[v],[]] [("_law_script",v)])/\∀ base:acz,K.In base->base.Ns aak mg->eU l.prog w K mg base (dM l.prog w) 26 fa fd ["_law_script"] (xI K):=by
 obtain⟨sQ⟩:=sQ.fn X G Ck;obtain⟨sR⟩:=sR.fn X G sF;obtain⟨sS⟩:=sS.fn X G qk;obtain⟨sT⟩:=sT.fn X G Cm;obtain⟨sU⟩:=sU.fn X G sH;obtain⟨sV⟩:=sV.fn X G mz;obtain⟨sW⟩:=sW.fn X G Cn;obtain⟨sX⟩:=sX.fn X G sI;obtain⟨sY⟩:=sY.fn X G ou;obtain⟨sZ⟩:=sZ.fn X G Co;obtain⟨tf⟩:=tf.fn X G Cp;obtain⟨tj⟩:=tj.fn X G mC;obtain⟨tm⟩:=tm.fn X G ql;obtain⟨tq⟩:=tq.fn X G Cq;obtain⟨jv⟩:=jv.fn X G wJ;obtain⟨tu⟩:=tu.fn X G Cr;obtain⟨mJ⟩:=mJ.fn X G wK;obtain⟨mK⟩:=mK.fn X G Cs;obtain⟨tD⟩:=tD.fn X G Ct;obtain⟨tE⟩:=tE.fn X G Cu;obtain⟨tF⟩:=tF.fn X G Cv;obtain⟨tG⟩:=tG.fn X G kh;obtain⟨tH⟩:=tH.fn X G sJ;obtain⟨tI⟩:=tI.fn X G qm;obtain⟨tJ⟩:=tJ.fn X G Cw;obtain⟨tL⟩:=tL.fn X G Cy;obtain⟨tM⟩:=tM.fn X G sL;obtain⟨tN⟩:=tN.fn X G wL;obtain⟨mL,LN⟩:=mL.fm Cz;obtain⟨mM,LO⟩:=mM.fm CA;obtain⟨jw,LP⟩:=jw.fm CB;obtain⟨ly,LQ⟩:=ly.fm CC;obtain⟨mO,LR⟩:=mO.fm CD;obtain⟨ki,LS⟩:=ki.fm CF;obtain⟨lz,LU⟩:=lz.fm wM;obtain⟨mP,LV⟩:=mP.fm CG;obtain⟨mQ,LW⟩:=mQ.fm CH;obtain⟨jx⟩:=jx.fn X G CI;obtain⟨mR⟩:=mR.fn X G CJ;obtain⟨jy⟩:=jy.fn X G qo;obtain⟨iM⟩:=iM.fn X G CK;obtain⟨iN⟩:=iN.fn X G mD;obtain⟨x_ask⟩:=x_ask.fn X G mE;obtain⟨tO⟩:=tO.fn X G sM;obtain⟨tP⟩:=tP.fn X G sN;obtain⟨tQ⟩:=tQ.fn X G c6;obtain⟨tR⟩:=tR.fn X G mF;obtain⟨tS⟩:=tS.fn X G iK;obtain⟨tT⟩:=tT.fn X G iL;obtain⟨tU⟩:=tU.fn X G ox;obtain⟨tV⟩:=tV.fn X G CL;obtain⟨mS⟩:=mS.fn X G CM;obtain⟨tW⟩:=tW.fn X G mG;obtain⟨tX⟩:=tX.fn X G CN;obtain⟨tY⟩:=tY.fn X G CO;obtain⟨tZ⟩:=tZ.fn X G qp;obtain⟨t7⟩:=t7.fn X G mH;obtain⟨t8⟩:=t8.fn X G sO;obtain⟨t9⟩:=t9.fn X G oy;obtain⟨mT⟩:=mT.fn X G CP;obtain⟨jz⟩:=jz.fn X G CQ;obtain⟨lA⟩:=lA.fn X G sP;obtain⟨fQ⟩:=fQ.fn X G ju;obtain⟨ua⟩:=ua.fn X G wN;obtain⟨ue⟩:=ue.fn X G wO;obtain⟨uf⟩:=uf.fn X G wQ;obtain⟨ug⟩:=ug.fn X G oz;obtain⟨oA⟩:=oA.fn X G mI;cases Yy.symm.trans oA.m;exact#[_,oA.bt mI,λy y y=>Yw (#[sQ,sR,sS,sT,sU,sV,sW,sX,sY,sZ,tf,tj,tm,tq,jv,tu,mJ,mK,tD,tE,tF,tG,tH,tI,tJ,tL,tM,tN,mL,mM,jw,ly,mO,ki,lz,mP,mQ,jx,mR,jy,iM,iN,x_ask,tO,tP,tQ,tR,tS,tT,tU,tV,mS,tW,tX,tY,tZ,t7,t8,t9,mT,jz,lA,fQ,ua,ue,uf,ug,oA,aar X G YG,aar X G YH,aar X G YI,aar X G YJ,aar X G YK,aar X G YL,aar X G YM,aar X G YN,aar X G YO,aar X G YQ,aar X G YR,aar X G YS,aar X G YT,aar X G YU,aar X G YV,aar X G YW,aar X G YX,wW,acZ X G YB,lB,acZ X G YC,iO,acZ X G YD,lC,acZ X G YE,aI,acZ X G YF,bf,mV,oE,ui,uj,qq,kj,#[wX,LN.1,LN.2,YY],#[LO.1,LO.2,mM.F.kp],#[LP.1,LP.2,jw.F.kp],#[LQ.1,LQ.2,ly.F.kp],#[LR.1,LR.2,mO.F.kp],#[LS.1,LS.2,ki.F.kp],#[LU.1,LU.2,lz.F.kp],#[LV.1,LV.2,mP.F.kp],#[LW.1,LW.2,mQ.F.kp],uk,um,CW,#[_,acZ X G YZ],#[_,acZ X G Y0]]:Tx K mg)]
theorem walk{l:af5}{q:aaE}{loose:List Str}{XP:(Str->Option ZP)->acz->Prop}{YP:abb->acz->Prop}{d:DefRec}{K:Params->ZF}(hn:l.most=U 63)(Y1:d.params.defaults=[])
 (hY:∀ (w:abb) (h:acz),YP w h->(K w.params).In h)
 (F:∀ (w:abb) (mg:Str->Option ZP) (fa:ZX) (h:acz),(K w.params).In h->h.Ns aak mg->mg d.name=U (.ref fa) ->
   ∃ fd:adA,(∀ (s:ZU) (u:ZP),ahd s fd #[[u],[]] [("_law_script",u)])/\∀ base:acz,(K w.params).In base->base.Ns aak mg->eU l.prog w (K w.params) mg base (dM l.prog w) 26 fa fd ["_law_script"] (xI (K w.params))) :
 aiC q loose XP YP l.row.toRowW d [] (λf vs=>PySem.call f vs) :=
 Gz.Px (k:=26) (x := "_law_script") (CX:=λw=>dM l.prog w) (sp:=λw=>xI (K w.params)) hn Y1 #[Y,by decide,by decide] hY F (λy y a ns hl hS=>#[a,ns,Y,hS,hl,λy=>rfl]) λy y y y y z=>NW z
end A4
set_option hygiene true
local macro_rules|`(tactic|walk_at "f")=>`(tactic|(refine' Gz.Fb.mk ?y1 ?y2 ?y3 ?y4; (case y1 => first | (show _ = _; k_is) | (refine' ⟨?y5, ?y6⟩; (case y5 => k_is); (case y6 => k_is))); (case y2 => k_is); (case y3 => k_is); (case y4 => k_is)))
local macro_rules|`(tactic|walk_at "x")=>`(tactic|(refine' Gz.XC.mk ?y1 ?y2 ?y3 ?y4 ?y5 ?y6; (case y1 => k_exc); (case y2 => k_is); (case y3 => k_is); (case y4 => k_is); (case y5 => k_is); (case y6 => k_is)))
namespace HK
theorem cut{A B C D:Type}{f:A->C}{g:B->C}{a b:D}{l:List A}{m:List B}(n:Nat)(x:((l.take n).map f,a)=((m.take n).map g,b))(y:a=b->(l.drop n).map f=(m.drop n).map g):l.map f=m.map g:=by rw[<- aa0 n l,<- aa0 n m,aa2,aa2,(Prod.mk.inj x).1,y (Prod.mk.inj x).2]
noncomputable def q:PySem.Program:={ PySem.Challenge.pw_gaze_k50_the_least_number with main:={ PySem.Challenge.pw_gaze_k50_the_least_number.main with body:=PySem.Challenge.pw_gaze_k50_the_least_number.main.body.drop 75 } }
noncomputable def l:List PySem.Str:=["_wall","__name__","GazeError","NoBoard","NoTelling","NoClaim","is_crossed","meet","common","number_in","moved","narrowed","stretches_at","tube","course_in","lesser","lifted","ceilings","crossing","has_part","check_claim","stretches_of","paces","wanted","marks_of","marks_without","groups_of","clashes","quarrels","choices","is_enough","is_lean","suspects","least","EYES_AT_MOST","TURNS_AT_MOST","Board","without","eyes_of","put_aside","branch","paper","ask","_law_pick","_law_wide","_law_shape","_law_course","_law_word","_law_words","_law_board","_law_in","_law_whole","_law_common","_law_steps","_law_goals","_law_liars","_law_met","_law_walked","_law_rise","_law_clash","_law_mark","_law_beyond","_law_refutes","_law_right","_law_same","_law_deed","_law_least"].map PySem.Str.ofString
end HK
local macro_rules | `(tactic| refine $t) => do { let s := t.raw; let as := s[1].getArgs; if s.isOfKind ``Lean.Parser.Term.app && Nat.blt 18 as.size && as[4]![3].isOfKind ``Lean.Parser.Term.app then { let H : Lean.Term := Lean.TSyntax.mk as[4]![3][1][0]; let c := Lean.quote 50; let go (a f : Lean.Term) : Lean.MacroM Lean.Term := do { let mut ls := [a]; for _ in List.range 9 do { ls := (<- `(List.drop $c $(ls.head!))) :: ls }; let mut x <- `(List.map $f $(ls.head!)); for l in ls.tail do { x <- `((List.map $f (List.take $c $l), $x)) }; return x }; let mut p <- `(e); for _ in List.range 9 do { p <- `(HK.cut $c e fun e => $p) }; let nm (w : String) (v : Lean.Term) : Lean.MacroM Lean.Syntax := do { return (<- `(f ($(Lean.mkIdent (.mkSimple w)) := $v))).raw[1][0] }; let q0 := as[0]![3]; let q1 <- `(HK.q); let sub (x : Lean.Syntax) : Lean.Syntax := Id.run (x.replaceM fun y => if y.structEq q0 then some q1.raw else none); let y1 <- go (Lean.TSyntax.mk H.raw[1][1][1]) (<- `(s.heap.get?)); let y2 <- go (<- `($(Lean.TSyntax.mk H.raw[1][1][0]) w.params)) (<- `(fun p => some p.2)); let as := (((((as.set! 0 (<- nm "q" q1)).set! 1 (<- nm "loose" (<- `(HK.l)))).set! 2 (sub as[2]!)).set! 3 (sub as[3]!)).set! 4 (<- nm "Yf" (<- `(fun s => $y1)))).set! 5 (<- nm "Ya" (<- `(fun w => $y2))); let as := as.set! 9 (<- `((fun w s e => PySem.W.Hook.of $H w s $p))); `(tactic| refine $(Lean.TSyntax.mk (s.setArg 1 (Lean.mkNullNode as)))) } else { Lean.Macro.throwUnsupported } }
namespace PySem.W.Fast
def Z:=Nat
local macro_rules|`(command|#print $s:str)=>do
 let mut r:=Array.empty;let mut n:=0;let mut k:=0
 for c in s.getString.toList do
  n:=n*62+(c.toNat-48-c.toNat/65*7-c.toNat/97*6);k:=k+1
  if k%11=0 then
   let i:=Lean.mkIdent (.mkSimple s!"tw{n}");r:=r.push (←`(command|def $i:ident:=Z));n:=0
 return Lean.mkNullNode r
#print"5A8pUxYYrWaIfh3zposfOq6aJLlZarJcr03MMEME0ZQc7KXLL4DqqcTLRqzBCkPXGsCu47idnMQ24AgdjV1tWB5RCDUfuU0RCOvG9h7Riuz3O6JakkbkUJbyXCIq3NRlAr4EAIleulZqU0U54a9ovaLQjC3x0RReMOvi2GHx62dLqPwADkte2eVyP8zDXWMMvwlL63GKqoV9q5ZBOBGhnMUxpFirE4voZREiOxUHTbOm5PSPByKevBJGu9otF7vnlYaYFIP5ADUz5BdIsId8mPgPOM8G8v2npK2DsVJCfHT9mdFMiV6dFwMPK8C2984KAEJpT1QL8CFfrrZ1PcwMbLcaOePHQJWC87HP2R63kYLAJzXLpNCBfuLhYaOWXPibPCptdBjiaIfx8HnvaCHfVYzK1GTJqxtRyg6JRN2gTX4rG9rMcnUuODdu7PINX5LnyaW0nr8oBNsMVM2ucI2VoGthMLEWS5g0xUIS0rarTm1vZxy0aPYwVVqCoK8wNnyxgWezSG9AC7m004jE0ZR7GbVnEkmEOynY3T0YTQB0pIrYv095o5Rbmgitvmac02iujo2upIEDk2Sd2Xx2yoHstJte7jV4qJhLDIqCvIXT2Txx34EMkhm34JUGhvetze0BW2G3LqzGAHn21YH1YhNUDNzkPNimkh25lYyUuQIPCkK9ON8Zqv3Sp47r7Ar4kd0lHS50mLcibc2GdjDGhDFTLD550ib1Gno2a7jxUdTyEO8q51wuqWk1zQy75qBQ6XA49YJEw9Cf8fgHv0GitenMVIXR5R9LVQkWjUP3pUCn6Axokb3BZBN30Dx1ZIciDPEW6W8f6nJ5qwrz5Z0652p5CaWGLx8TCt6AU2TOh7olbm9lb4LhG35n5CrxYqJ8ClGwL0gzVYD5J6hcS8fvSHVTMC0GnL4Y0hlMWNwClQp2EtJbnr1wLE2tk3sjCM5i4ATDWFdNtoIQLDUWNZvEjIs4p7pASeHemgCLxTDnqWUGEE9BKHBEkUf31RzCihCRaT9GRhMVIZcbLvGhIXJSXHSToGzhMDQsp4bB7E9ZWfxIRjnExUT9JdlUa7JzNPil1tt2nDFuwetfyLQU4Ikrybahh7gDw3b7Kj79Fo3mTbA71klrE2gQzsZyp93DDFITrG9dwTf4JWTxK2JluHG8CNyhK2hZn6z4v1FwalZjGGzW0SmpZuDESoc4nIl2yVDOxi2qYHxpfLq48u84nQn20Yrd40xeRao2Xizt0Qu6TPBwCkyrx0gczIj4F8VUBTaL5d3GF7PXAGpIRYLDzMTUyDJd3dZSvNKDMBLcKl0wmrN13FkwlH4UUdl4FYtped0LUyEhpSrNlpt7j8aodN3MWcZ8ENTFIxmp8NH6Z9AHsE1kzF5DgC3r3FyXxFJlbg0dk7jYDFFMxsmi60oJjXqElRstO49y9pCJgOCJp42g2kiHtVlR19tijeq96QzHOD9TV4MvlP84MKvUqVNeEKdsIgjD84YOFwuA85VxN4o9lQrE4RvCAG4dl9OjG9FMA41oumB4Ajrw3IFJ94JBfsw1qJY59TNVdA8t5yjdDXQb11jlpk3Z4xfM30c7DL5ISqX6YIEm7QeuTb2BLT2H7VCixKn692kCLhhjA32Yib7S6SSGYEcZ6Cd7DQFBZnJwjnq0m53dgNT42oNt94PJmMw3Xzr5RjhsUmv7ZnKFhVNfYldt7Glhc31i6kal9aqPSgf4EFPK7yqIdC7AJ1EGYIVMImhqB5gqoWm2McdOIV6PcI4fsBi2OVcmj6FcL96Z1cOqc1LVgIZFnX4W4ELVJvIszfZPwNL6tWrTYk9E8lD6ZRimwXcNGGz7P8pOArOpIFiLTxaut3EAfdnvIJFYfSEHa3O0J4rnSFeKyTLak7yg2urkBI4WBqHEGU2I1qJqKr3lKeQ0caZWkD21u0iHSnQ8BiGXdyjQR3GHS4uY8WtoFJ3YvsczduVUX4ge2iYOCLaUGDCoYYuDl0gGWekw50YAjZ91t4Ms10lf3GYUJrvYIUHiIwvR8G57fviHmoiIMhquvyEDc1AHNSmi8BYF65H0q8U4HhLVSMTX7tN61VU0FavBaL0gXBFZmNn3N6njqIKJdkOVIH64Iods0572nHPBY0TV5kGg6AECVmIt5D12r8Pr8EVEHmjdSO8cZan0ek3tAAUmh1D5Qll3p5dyB1MIkWlIf10q37J11bod0o58kAMMRosbS8BM9V2SJlE8HI12vgEK5TWDDkS2zYl2ion0BjhqReKDiG2fehjF4dA1DEqaHzoUzPiKKwWwpEp4y83G54LRczeXZj3sI8u0Aphu412g3weQIq4t4n2qI7HXzbV6tp8m9zungI9IWKkBLR8Dk3dRwTifzrCkGRUpCX0zgyP61S4EeSZnHpG30zEkVMB1vIgjnhAdUoC62nClpON9CeH3G7RqCjOWev4Zn6blq47REAYby0KmaEPM1Jt1cOZjTdeGrZecoT5fAK1GO44cyEU928TeGmGB2nGPH9LQ6ErxebhIoPLlS8DTIX1qgmNokQj3h3nrSgMCPmwy7MT88oEhIatHRZJ7n0DHQH61MbHGjbIMHDASfboH971IJ4B5JFaOwgY2x06XiywzyhLTu6skZVWgE5G5dbzMy6a9GYQuRj3wy63H2OCWYpoT4nDzJvW1AguEB2Dj6pAe60oZ2sFOsGSxbcMHRJY8cQZ64z1oxNkYeBQnM4rqdrI1jCU4D5Qo86YJcz96UKqi3kOY15BB6pcRj485YF3BlLfpqhZhBrheRpy1b3HI0pePc4SfNoLF2yAGbheMK3kxdRDXyWLtEOTWs3313i9K7RFO9RYNr68u5m1Bh4KdR3Xao3MCufo14OSzIsOQr0h7mSgtK7A1iaLFetWfEQbNtGw5I5fST0U41ulNfxEBtkz4dPgrrND8LsAgeOPR5At1eHbdevGb6GNyBsMn6ka1nkE2ARjcBHUAkmGW4aEHNEj4wENFX5eYTFXCA4f5byZNUAm56D9Jw254P59LX5JH9upzPIMNY1E1zeHHJboBZeHHn4UBFHeXD43CfMCTAeEyE4MWrEKHXqsAYqhd6B4wnibUNvG5sxV98omedyBWO5OcguCwg4YySwcTcNnyEFn3grMqlnEKo5OpIBsGRnBDlt8Q9z1tv4aIY8QuIPzG1Dm086CAcF2LyUrWvsG0WVFZ53TMP01hBDnAdrJBIrlm3YM7HMYS1SqDieDrVuoGPREtPS6yTCj5M0g3INFuMeOG6vLA3X36P8IIcmhmcdCZ8qJ0AWTl0BAyWF2S4kHap0gD7F2awAHQi1f2oYywb2lPoC7qwIyUwgGEwINbupWELPKd59AoCB9ayufB7CKoc0r9wpCGwLkKjZxDK6rArsYVIldQEuU5CvJp13FE1P6JtQLqJW7EepFwIrX2K6ys0TjK8YP2HPcVTD1nq5L9YTptvL4x344qeGIVbrWl9Bs6voOeOCHfECY1Ej8xdpKFUbtUZQnuPUCf1S1FGd68v8bGmtKsvKMz9fjTO9UTXAM5u4LqBun9S5GWMHdzBWK6CGMKkD7qm9QALZRctPvfw7y10glQyiAhOu1Bulo2fKc6b6Vw0mccwElL35gTjswrdqLAK6zzfbQ8md6OHMUbsYtxK7uSyrbFNheV4ZUWiqsvnt821NbN6QSX8FAH7u85kS2qP18Y8EX3V1neCdDJKD9YxRUALpxg7dFuY0AoRHFZlYPfKF6QVybB40jL8oIqxv9AyNY1gGukT0xmrRBPlQlelStJcKJQPbEWjjEEEDZmHpvQaQFCgTKM24z9Kh1AjwgTPY2dXHVCIt66ldGMK2KfdOMWTdc3vCjUQbYjzg224BwYZSco68xNhc6IkHGH1DlAPiM4mssHnF4lP8sSe2EwECDXeY5Rt9eQoWopwpNG1dsoztZE1gyCvo74ZIXTqw4Oivxy8u8Wv5cgKQA2utH85O9F2ORjE1y43qESfDyYHL1jMFU0uZ66pA7Xb00LWIOTJIKLFoHaexh0t1c4vM6rPtFWlHJ0R8jm3LGi9AuxgSQw9zDzXRa9jgrAR1NLLQE9RSACQGyiogoeV4pM37CGeRwbBLje3HuVJN4KIVbRxRrNwl3MFnMBsbWkTL45JApdJQnkJ8O8kKwmsEJ59Db5bl7JnYHJO24WCrfxR7RdAoUvw2iyJejlsYUdwQg3zy7VOr1V3IDjvJ2oxZSPA5JnQ7cXjLSxGLnbEy3foCy8GR6aFjReg707TOuKFKfzoDJ4iK94MBqTDYpM0tRZcUPDvFLJlzuX55JSAvb1iWve8KPDUM2Z2fMF7RUcrGwUkmaF9oxl0H5dKCL4ykh3wW8vZ15PXr6ErG5r0xEepkB3nmZ9eXlJbqOF2z2CxO36NGvBIHNB0yYSJkHv9b53HTptqQ2BrzUDmmrUoJCgOm0JHmjh1ENRwOPdbo5x3XhwYjNmD2003EFk6D87Jy2zK0vHP2YYe2LGJHye1Xl125SL3B7Tfjf9S4qXjOILnhIWqex8VjWPv5P153rn9hFw12t9VeoZO5918FDSNWwimyL3HPjdk70dy3oLOASD5fvz1bGUzWNh2nd5ewngftU97R1blhoDmUbTrGMEQWfPcwovJiP1mdHnOXv4lhVZl7T5XMAVVxBdwVl8UHkdC6wVNzLV7wctERvZKLd0lH5x5ifxmELHVx1OLwGOeDl8NUEplJnDJfpvTVD8WbOJOLCNDJDKL8Fps4IA01A4MGVYwno4zB3AIH7arjkch0q8VLZb10hTax1TJeA2ENZbG72MpLIZPEuZ6Sx8Du6hhScK88qEiVTINYC8lBGHNWciLCtdUfFZ2xWl7fXns9y4jZo9F8PeptAbS04rAl4cVaYJa4pbLKZc10nUHt2y4jFLBrUEWFbR15ZLes2zPAyQbychFAdG41831zq7LMNeWRkDFAUBJZOe4DA3oH0Hx5Ja9mDCQ9WnISsXr1KJ7IydpLvdFJ35utQ34dlJNvKQYq7VIQlJxKZYjsJY83IM5Lq4QNDqrT2DV52Uu5d7711xjt2M1Xnjf5MasnhflSVQ6FrVApjvWGDBiXLbn2VWrCBtH2JMmefxi1paKK501GmoB4hV6HrW9exEKWITRynKJyBdfuIQQ9kdmJJQZ1iSVDgy4DxuvUj5NjoIFaEf6tpOsDIVbZ9gOQhfg0TUQpiHimd25WlA8SasrqJLp3MOmvBCh3KEfHEGEb0GM1mOXBVhFIkdAUvodQVFNalAEjE7OViGSd53DU6vXCZ1gGcljeeRkq8aK3WGcbyXFDCKMyrHHScIXC0UfeepjKZXa1UIJQup4jpUIJZohBzuL6aIA2laoNuGcNKqdsyTQHOOOJNmBrUF0VjZHXR1rZHZNit2rBLxUKsrZP8BkmNCrQ01NCBESVuwN3y5IGepUm19gvc"
end PySem.W.Fast
open PySem PySem.W PyProof.Rows
set_option maxRecDepth 100000 in
set_option maxHeartbeats 0 in
theorem PySem.Challenge.cw_gaze_k50_the_least_number_holds : PySem.Challenge.rw_gaze_k50_the_least_number.Holds := by
 w_on;o_law;k_head;(case hw=>w_witness2)
 k_fill
 refine A4.walk (l:=PySem.Challenge.rw_gaze_k50_the_least_number) Y Y (λw h Y9q=>PySem.W.kIn_of Y9q) ?F
 case F =>
  intro w mg fa h KX G Y2;refine' A4.Yx KX G Y2 ?_ ?_ ?_ ?_ ?_ ?_ ?_ ?_ ?_ ?_ ?_ ?_ ?_ ?_ ?_ ?_ ?_ ?_ ?_ ?_ ?_ ?_ ?_ ?_ ?_ ?_ ?_ ?_ ?_ ?_ ?_ ?_ ?_ ?_ ?_ ?_ ?_ ?_ ?_ ?_ ?_ ?_ ?_ ?_ ?_ ?_ ?_ ?_ ?_ ?_ ?_ ?_ ?_ ?_ ?_ ?_ ?_ ?_ ?_ ?_ ?_ ?_ ?_ ?_ ?_ ?_ ?_ ?_ ?_ ?_ ?_ ?_ ?_ ?_ ?_ ?_ ?_ ?_ ?_ ?_ ?_ ?_ ?_ ?_ ?_ ?_ ?_ ?_ ?_ ?_ ?_ ?_ ?_ ?_ ?_ ?_ ?_ ?_ ?_ ?_ ?_ ?_ ?_ ?_
  rotate_left 7
  iterate 5 k_is
  iterate 68 walk_at "f"
  iterate 17 k_is
  (refine' L2.fJ.mk ?_ ?_ ?_ ?_ <;> k_is)
  iterate 8 k_is
  iterate 3 walk_at "x"
  iterate 2 k_is
#print axioms PySem.Challenge.cw_gaze_k50_the_least_number_holds
