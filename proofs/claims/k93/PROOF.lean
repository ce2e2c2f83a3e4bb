import PyProof.Rows.All
import Wide.All
import OpenK.AllK
import Wide.FinOn
import Lean
import PyProof.EqAt
import PyProof.EqKinds
import PyProof.TupleCall
import KE.KSortAsk
import KE.KSortTup
import KE.KRevIter
import KE.LcSums
import KE.KDictSum
import KE.KDictList
import PyProof.AttrMissHeap
import PySem.Challenge.RW_gaze_k93_whole_strips_of_a_desk
set_option Elab.async false
set_option linter.all false
set_option maxRecDepth 100000
set_option maxHeartbeats 4000000
set_option exponentiation.threshold 2000
set_option compiler.extract_closed false
set_option hygiene false
local macro_rules|`(tactic|walk_at "o")=>`(tactic|((try simp only [PySem.Addr] at *); lia))
open Option renaming some->O,none->J
theorem Y{α:Sort u}{a:α}:a=a:=rfl
local macro_rules|`(#[$a,*])=>`(⟨$a,*⟩)
open PySem renaming wpAny_bind->acK,wpAny_pure->acQ,Value->acU,Str->acW,mainGlobals->ac3,Addr->ac4,Shared->ac8,sizeLine->adh,wpAny->adi,lookup_relabel_local->ado,starEach->adp,bootBuiltins->adJ,Program->adP,wpAny_callSpecial?_slot->ad7,wpAny_mono->aea,wpAny_call_entry->aec,wpAny_truthy_bool->aed,codeAny_builtin->ael,wpAny_newObj_type->aeo,wpAny_holding->aeq,World->aes,wpAny_Call_Name_kw->aeu,compareOp->aev,sizeLine_eq->aey,sysModules->aeB,wpAny_seqItems->aeH,wpAny_setField_rec->aeL,Stmt->aeO,wpAny_field->aeV,Around->ae2,wpAny_typeNameOfWhole_keyiter->ae6,Heap->ae7,Builtin->ae8,plainId_quiet->ae9,intItems->afa,mem_of_lookup->afe,wpAny_updateSeq->aff,strIterType->afj,backTo->afn,behindInMarks->afr,wpAny_attempt->aft,tupleKind_room_in1->afu,foldedSetIterable->afA,wpAny_typeNameOf_keyiter->afE,wpAny_isInstance->afK,pyNext->afT,wpAny_letGo->afW,builtinLookup_eq_fast->afZ,wpAny_pyIter_list->af3,binaryOp->af4,rawInt->agc,wpAny_tryCatch->agd,wpAny_fieldsOf->agf,FuncData->agl,wpAny_askSetting->agn,codeAny->ago,sliceBounds->agp,codeAny_mono->agr,letOwnedTupleGo->agu,wpAny_passesOwn->agw,attributeBase->agy,wpAny_ite_split->agC,call_meets->agN,wpAny_rule->agO,wpAny_dictEntries->agQ,wpAny_setState_of->agS,wpAny_setField->agW,Expr->agY,wpAny_isOneOf_keyiter->ag4,intKind->ag5,wpAny_pyIter_zip->ag7,swapsWith->ahi,argBest->aho,PyData->ahp,wpAny_specialOf->ahu,typeLookup_type->ahw,wpAny_setEntries_of->ahx,Tok->ahy,wpAny_pyIter_range->ahF,entryFor->ahH,wpAny_letOwnedTupleGo_zip->ahR,wpAny_newTuple->ahS,firstArgMember->ahT,isSubtype_stop->ahU,assignEach->ah0,typeIs_str->ah3,wpAny_getItem_list_slice->ah4,DictEntry->ah5,wpAny_comprehension_free->ah6,updateSeq->ah7,wpAny_pyIter_enum->ah8,wpAny_pyIter_slot->ah9,IsRangeIter->aih,cLine->aii,keywordEach->aij,richCompare->ail,wpAny_of_eq->aim,intItems_at->ain,wpAny_newList->aip,wpAny_eqBool_int->aiv,wpAny_pyNext_range_end->aiB,wpAny_pyIter_rangeiter->aiC,wpAny_pyNext_enum_item->aiG,wpAny_nextOf_list_item->aiK,tupleKind->aiP,wpAny_isTrue_Compare1->aiS,wpAny_execs_nil->aiT,argsOk->aiZ,wpAny_pyNext_enum_end->ai1,wpAny_dictEpoch->ai6,wpAny_call->aji,NameKind->ajj,typeIs_int->ajk,Scope->ajl,codeAny_call_builtin->ajo,wpAny_pyIter_revIter->ajq,wpAny_updateSeq_pair->ajw,isSubtype_type->ajE,intText?->ajF,numAt->ajJ,call_enumerate_list->ajL,valueAt->ajN,wpAny_standAt->ajV,wpAny_pyIter_tuple->ajW,evalPart_none->ajX,seqItems?->ajZ,IsPair->aj0,wpAny_tupleItemsOf->aj6,wpAny_onRaise->aj9,BindsTo->akg,typeLookup->akh,list_append->akj,sliceRange->ako,wpAny_pyIter_strU->aks,Within->aku,Result->akw,seqIndex_neg->aky,call_meetsIn->akB,wpAny_execs_cons->akI,checkBuiltinCall->akK,wpAny_getItem_of->akV,wpAny_Dict_empty->akW,backToKw->akZ,setField->ak0,hashInt->ak1,getMethod->ak3,getItem->ak4,seqIndex_of->ak5,slicePick->ak6,Keyword->ak7,callerA->ak9,notedBy->alc,builtinKind->ald,plainId->ale,codeAny_of_tree->aln,builtinsNs->aly,wpAny_Name->alz,pyIter->alA,closureFor->alD,setsByText->alH,standAt->alK,compEnvC->alM,IsZip->alN,newTuple->alQ,SetTable->alR,Paired->alY,isTrue->alZ,lastMarks->al1,atKey->al4,pickOrder->al6,bindL->amb,bindC->amc,newList->amd,setNext->amf
open PySem.Heap renaming get?_push_of_some->acL,lt_size->acT,get?_push_size->acV,get?_update_other->ac9,get?_update_self->adQ,size_push->aem,ExtBut->ajO,size_update->akO
open PySem.W renaming Frag->acM,nsIn->ade,mg_of->adv,mg_none_of->adF,findIn->adT,kia_one->aew,emptyDict->aeC,kitOne->aeG,instObj->afd,keepIn->afy,fnOf->afU,plainGet->ag6,plainGet_of->ahk,makesIn->ahl,callWith_K->ahG,lookIn->ahO,codeIn->ahP,methodObj->ahZ,hasDictIn->ah1,cellsFrom_some->aiD,hideAll->aiQ,isFn->aiU,takerIn->aiV,methodCall_KW->aiY,OpenLaw->ai4,KdlSrc->ajC,hideAll_get->ajG,callWith_K0->ajH,of_hideAll->ajS,plainOver->akd,kitx_list->ake,kitx_dict->akf,handedIn->akJ,kat_kind->akR,kas_sort->akS,kas_item->akT,kat_snds->akU,kitMeta->alb,KatTups->alg,kas_ask->alj,kat_run->alk,kat_lt->als,WalkO->alP
open List renaming length_map->acN,getD_eq_getElem?_getD->acO,getElem?_eq_getElem->acP,getElem?_eq_some_iff->acX,replicate->acY,mem_cons->acZ,getElem?_map->ac1,mem_map->ac2,size_toArray->ac5,mem_append_right->ac6,length_append->ac7,mem_singleton->ada,length_singleton->adb,mem_append->adf,map_cons->adg,length_range->adj,nil_append->adl,mem_of_getElem?->ads,range->adu,length_cons->adw,map_append->adx,not_mem_nil->adz,length_replicate->adA,mem_filter->adG,mem_append_left->adH,getElem?_eq_none->adI,getElem?_range->adM,drop_eq_getElem_cons->adN,mem_cons_of_mem->adV,getElem?_replicate->adY,length_filter_le->ad1,getElem?_append_right->ad6,filterMap_cons->ad8,map_congr_left->ad9,any_eq_true->aeb,mem_range->aeg,take_succ->aeh,map_map->aei,filter_cons->aek,getElem?_append_left->aen,toArray->aep,any_cons->aer,append_assoc->aet,replicate_succ->aez,take_append_drop->aeD,nodup_cons->aeI,length_eq_zero_iff->aeJ,find?_cons->aeK,take_length->aeP,drop_eq_nil_of_le->aeQ,length_reverse->aeR,filter_eq_self->aeS,ext_getElem?->aeT,mem_iff_getElem?->ae1,mem_filterMap->ae3,getElem?_set_self->afl,length_take->afp,all_eq_true->afq,getElem?_reverse->afs,flatten_cons->afB,getElem?_cons_succ->afH,take_of_length_le->afN,mem_cons_self->afP,zip_cons_cons->afR,foldl_cons->afV,length_nil->afX,any_append->afY,all_cons->af6,getElem?_set_ne->agb,getElem_mem->agm,of_mem_zip->agz,filterMap_map->agB,drop_of_length_le->agG,lookup->agL,reverse_cons->agM,zip_nil_left->agU,map_nil->ag0,eq_nil_of_length_eq_zero->ag9,length_set->ahn,forIn_cons->ahs,toList_toArray->ahz,mem_replicate->ahI,findIdx?_eq_none_iff->ahX,foldl_append->aia,length_filterMap_le->aib,length_erase_of_mem->aid,nodup_append->aie,length_drop->aiw,drop_length->aiy,ext_getElem->aiz,length_pos_of_mem->aiM,range_succ_eq_map->aiN,append_nil->aiX,range_succ->ajd,contains_iff_mem->aje,all_nil->ajh,mem_iff_getElem->ajp,pairwise_append->ajr,mem_erase_of_ne->aju,drop_eq_nil_iff->ajv,forIn_nil->ajB,nodup_nil->ajD,length_pos_iff->ajK,getElem_of_mem->ajP,range'->ajQ,sum_cons->aj2,pairwise_cons->aj4,map_replicate->aka,any_eq_false->akc,push_toArray->akk,all_map->akC,map_id'->akE,any_map->akH,map_snd_zip->akQ,zipIdx_cons->akY,zipIdx_nil->alp,foldl->alC,findIdx?->alT,zip->alV,map_id->ami
open Nat renaming le_trans->acR,le_refl->acS,ne_of_lt->adk,lt_of_lt_of_le->adm,zero_le->adt,lt_of_le_of_lt->adS,ne_of_gt->ad5,lt_irrefl->aex,not_lt_zero->ae0,add_le_add->afM,le_of_lt->afS,lt_succ_of_lt->af9,lt_succ_self->agk,pow_le_pow_right->ahd,le_succ->ahm,sub_self->ahK,add_sub_cancel->ahM,lt_of_succ_lt_succ->aiJ,le_of_eq->aiW,min_eq_left->ai3,lt_trans->ai5,zero_add->ajc,toDigits->ajf,mul_le_mul_right->ajy,add_le_add_right->ajz,le_succ_of_le->akp,pow_succ->akD,mul_succ->akF,min_eq_right->akN,succ_ne_self->akX,log2_lt->ala,le_add_left->alq,mod_lt->alG,succ_mul->al2,add_comm->al3,succ_pos->al7
open PySem.Str renaming ofString->ac0,ofString->aj7,join->alW
open Bool renaming false_eq_true->adn,false_ne_true->adq,and_eq_true->ad2,eq_iff_iff->aeY,eq_false_iff->afc,or_eq_true->afD,and_true->ahe,false_or->ahf,true_and->ahh,and_self->aio,false_and->ajA,not_true->aj5,not_false->alw,or_false->alL
open Option renaming map_eq_some_iff->ady,isNone->aga,isSome_iff_exists->ags,getD_some->ag8,ne_none_iff_exists'->ahE,isNone_iff_eq_none->ahW,toList_some->aj1,isSome_map->akn,map->alI
open PySem.Value renaming ref->adB,bool->aeN,isInt->agJ,type->agK,float->ak2,isStrOf->alJ,bytes->al9
open PySem.Obj renaming mapSeq->adC,mapFields->af8,data_mapFields->aj3,putSet->alF
open PyProof.Rows renaming callWith_type1->adD,seqObj->aej,envOfC->ae4,listUpdate_at->af7,callWith_builtin1->agZ,get?_update_seq->aht,IntsAre->ahQ,kindOf->ah2,subscriptTail->aik,seqEpoch_at->aiq,subscriptTail_builtinR->aiE,AllBare->aiR,mirror_perm->ajM,Constant_none->ajU,Subscript_->aki,listItems_at->akA,entry_list_sort->alh,boot_range->alB,failedOf->alO,Call_->al0,tuples'->ame
open PySem.PassesOwn renaming never->adE,leaving->agT
open Array renaming length_toList->adK,getElem?_eq_getElem->adO,getElem?_toList->aeZ,getElem?_eq_none->afO,getD_eq_getD_getElem?->ahr,mem_toList_iff->ajm,toArray_toList->ajt,append_assoc->ajT,toList_push->akr,toList->akv,toList_inj->akP,size_push->ali,ext'->amj
open Int renaming toNat_natCast->adL,le_refl->adZ,emod_lt_of_pos->aeM,toNat_of_nonneg->aeU,emod_nonneg->afk,zero_add->af2,le_trans->ag1,le_antisymm->ai0,ediv_nonneg->ai2,ediv_one->ai7,toNat->aja,natAbs_natCast->aj8,mul_comm->akG,ediv_le_self->akM,natAbs_neg->alx,mul_zero->al8,mul_one->ama,mul_sub->amg,neg_mul->amh
open Ne renaming symm->adR
open PySem.F renaming plainAttrs_str->adU,plainAttrs_list->ad0,slot_list_append->aee,type_list_append->aef,slot_dict_keyiterator_next->aeF,slot_enumerate_next->afi,plain_min_loop->afm,slot_str_join->afv,type_str_join->afw,plain_extend_loop->afz,slot_zip_next->af1,args_dict_keyiterator_next_1->age,entry_dict_keyiterator_next->agq,slot_list_index->agD,entry_min_loop->agF,slot_str_split->agH,type_str_split->agI,slot_dict_get->ag3,args_enumerate_next_1->aha,entry_enumerate_next->ahg,slot_str_startswith->ahA,type_str_startswith->ahB,excBase_ValueError->ahD,args_str_split_2->ahL,entry_extend_loop->ahY,entry_str_split->aif,args_dict_get_2->air,args_zip_next_1->ait,type_list_index->aiu,slot_str_split->aiA,entry_dict_get->aiH,slot_dict_iter->aiI,entry_zip_next->aiO,slot_tuple_lt->ai8,plain_set_new->ai9,slot_dict_len->ajg,args_list_append_2->ajn,entry_list_append->ajI,slot_list_append->ajY,plain_min->akl,entry_min->akm,kind_min->akL,slot_int_rmul->ak8,slot_set_iter->alo
open PySem.Around renaming under_plainId->adW,under->akx
open PySem.Builtin.Range renaming rangeSize->adX,rangeFitsLong->alf
open PySem.Builtin.SmallTypes renaming ownedTupleIsFree->ad3,nextOf->aeW,ownedTupleHandOut->agi
open PySem.Txt renaming join->ad4,slice->agh,split->agE,startswith->agX,rjust->ajb
open PySem.Heap.SameBut renaming update->aeA
open PySem.SetTable.below renaming go->aeE
open PySem.PyData renaming keyHash->aeX,eqv->ae5,eqvAll->agA,canLayAll0->agP,canLay0->agV,depthAll->ahq,strOk->al5
open PyProof.Rows.F renaming plain_set_update_loop->afb,entry_set_update_loop->agg
open PySem.Builtin.Builtins renaming bindParams->afg
open PySem.Builtin.List renaming listExtendWith->afh,listLengthHint->af0,listTooLong->agt,listSameRef->aic,listItems->aiL,listFitsIndex->alr,listUpdate->alU,listTouch->alX
open False renaming elim->afo
open PySem.W.KT renaming len_app->afx,app_list->afJ,join_ones->ajx
open ForInStep renaming yield->afC
open PySem.SetTable.probe renaming go->afF
open PySem.Builtin.Int renaming intBits->afG
open PySem.W.WData renaming weightAll->afI,layable->ag2,weight->ajs,layableAll->alE
open True renaming intro->afL
open PySem.Calls renaming spliced_cons->afQ,spliced_nil->af5,evalArgs_plain->ahb,Name_function_global->ahC,call_function_entry->ahV,callWith_builtin->aiF
open Decidable renaming byContradiction->agj
open PySem.Data renaming cell->agv,fields->ahj
open PySem.Builtin.Str renaming occurrences->agx,strKind->ajR,glued->akt
open PySem.SetTable renaming insertAt->agR,probeStart->ahv,has->ahJ,fill->ais,freeSlot->akq,runEnd->alm,probe->alu,turns->alv,slot->alS
open Or renaming inl->ahc,inr->akz
open Sum renaming inl->ahN,inr->akb
open PySem.IsL renaming update->aix
namespace L2
open PySem PySem.Spec PyProof.Rows
abbrev Key:=Sum Int Str
noncomputable def ql:Key->acU->Bool
 | .inl k,v=>agJ k v
 | .inr x,v=>alJ x v
noncomputable def OA(w:aes):Key->Int
 | .inl k=>ak1 k
 | .inr x=>hashStr w x
theorem kR:∀ {k:Key} {v:acU},ql k v=true->(∃ i t,k=ahN i/\v=Value.int i t)∨(∃ x t,k=akb x/\v=Value.str x t)
 | .inl i,v,h=>by obtain⟨t,e⟩:=Value.isInt_shape (k:=i) (v:=v) h;exact .inl #[i,t,Y,e]
 | .inr x,v,h=>by obtain⟨t,e⟩:=Value.isStrOf_shape (x:=x) (v:=v) h;exact .inr #[x,t,Y,e]
theorem OB(i:Int)(t:Tok):ql (.inl i) (.int i t)=true:=by simp[ql,agJ]
theorem Ga(x:Str)(t:Tok):ql (.inr x) (.str x t)=true:=by simp[ql,alJ]
theorem OC(a b:Int):decide ((ahN a:Key)=ahN b)=(a == b):=by
 by_cases e:a=b
 .subst e;simp
 .have h:¬ (ahN a:Key)=ahN b:=λq=>e (Sum.inl.inj q);rw[decide_eq_false h];exact (beq_eq_false_iff_ne.mpr e).symm
theorem OD(a b:Str):decide ((akb a:Key)=akb b)=decide (a=b):=by
 by_cases e:a=b
 .subst e;simp
 .have h:¬ (akb a:Key)=akb b:=λq=>e (Sum.inr.inj q);rw[decide_eq_false h,decide_eq_false e]
theorem OE(a:Int)(b:Str):decide ((ahN a:Key)=akb b)=false:=decide_eq_false (λq=>nomatch q)
theorem OF(a:Str)(b:Int):decide ((akb a:Key)=ahN b)=false:=decide_eq_false (λq=>nomatch q)
noncomputable def eI(prog:adP)(w:aes):PySem.KeyKind prog w Key where
 is:=ql
 hash:=OA w
 inj:=λv a b ha hb=>by
  rcases kR ha with ⟨i,t,rfl,rfl⟩|⟨x,t,rfl,rfl⟩
  .rcases kR hb with ⟨j,u,rfl,e⟩|⟨y,u,rfl,e⟩
   .injection e with e1 _;rw[e1]
   .exact nomatch e
  .rcases kR hb with ⟨j,u,rfl,e⟩|⟨y,u,rfl,e⟩
   .exact nomatch e
   .injection e with e1 _;rw[e1]
 byValue:=λk v h=>by
  rcases kR h with ⟨i,t,rfl,rfl⟩|⟨x,t,rfl,rfl⟩<;>rfl
 pyHash:=λhv h=>by
  rcases kR hv with ⟨i,t,rfl,rfl⟩|⟨x,t,rfl,rfl⟩
  .exact wpAny_pyHash_int h
  .exact wpAny_pyHash_str h
 eqBool:=λhu hv h=>by
  rcases kR hu with ⟨i,t,rfl,rfl⟩|⟨x,t,rfl,rfl⟩
  .rcases kR hv with ⟨j,u,rfl,rfl⟩|⟨y,u,rfl,rfl⟩
   .rw[OC] at h;exact aiv h
   .rw[OE] at h;exact SeqAt.EqAt.int_str i t y u _ _ _ _ h
  .rcases kR hv with ⟨j,u,rfl,rfl⟩|⟨y,u,rfl,rfl⟩
   .rw[OF] at h;exact SeqAt.EqAt.str_int x t j u _ _ _ _ h
   .rw[OD] at h;exact wpAny_eqBool_str h
 «strs»:=λk x t v h=>by
  rcases kR h with ⟨i,u,rfl,e⟩|⟨y,u,rfl,e⟩
  .exact nomatch e
  .injection e with e1 _;subst e1;cases v<;>rfl
theorem OG(prog:adP)(w:aes)(i:Int)(t:Tok):(eI prog w).is (.inl i) (.int i t)=true:=OB i t
theorem OH(prog:adP)(w:aes)(x:Str)(t:Tok):(eI prog w).is (.inr x) (.str x t)=true:=Ga x t
inductive V where
 | non|bl (b:Bool)|int (i:Int)|str (x:Str)|byt (b:Array UInt8)|flt (b:UInt64)|ref (a:ac4)|ty (n:String)
 deriving DecidableEq
def RelV:V->acU->Prop
 | .non,u=>u=Value.none
 | .bl b,u=>u=aeN b
 | .int i,u=>∃ t,u=Value.int i t
 | .str x,u=>∃ t,u=Value.str x t
 | .byt b,u=>∃ t,u=al9 b t
 | .flt b,u=>∃ t,u=ak2 b t
 | .ref a,u=>u=adB a
 | .ty n,u=>u=agK n
abbrev Vals:List V->List acU->Prop:=alY RelV
theorem Vals.length(r:Vals xs us):xs.length=us.length:=Paired.length r
theorem Vals.get:∀ {xs:List V} {us:List acU} {i:Nat} {x:V},Vals xs us->xs[i]?=O x->∃ u,us[i]?=O u/\RelV x u
 | _,_,_,_,.nil,e=>by simp at e
 | _,_,0,_,.cons r _,e=>by simp at e;subst e;exact#[_,Y,r]
 | _,_,i+1,x,.cons _ t,e=>by obtain⟨u,h1,h2⟩:=Vals.get (i:=i) (x:=x) t (by simpa using e);exact#[u,by simpa using h1,h2]
theorem Vals.set(r:RelV x u):∀ {xs:List V} {us:List acU} (i:Nat),Vals xs us->Vals (xs.set i x) (us.set i u)
 | _,_,_,.nil=>.nil
 | _,_,0,.cons _ t=>.cons r t
 | _,_,i+1,.cons q t=>.cons q (Vals.set r i t)
theorem Vals.append:∀ {xs ys:List V} {us ws:List acU},Vals xs us->Vals ys ws->Vals (xs++ys) (us++ws):=by
 intro xs ys us ws h s
 induction h with
 | nil=>exact s
 | cons r t ih=>exact .cons r ih
theorem Vals.take:∀ {xs:List V} {us:List acU} (n:Nat),Vals xs us->Vals (xs.take n) (us.take n)
 | _,_,0,_=>.nil
 | _,_,_+1,.nil=>.nil
 | _,_,n+1,.cons r t=>.cons r (Vals.take n t)
theorem Vals.drop:∀ {xs:List V} {us:List acU} (n:Nat),Vals xs us->Vals (xs.drop n) (us.drop n)
 | _,_,0,r=>r
 | _,_,_+1,.nil=>.nil
 | _,_,n+1,.cons _ t=>Vals.drop n t
def eJ:Option V->Option acU->Prop
 | some v,O u=>RelV v u
 | none,J=>True
 | _,_=>False
def KV{κ:Type}:List (κ × V)->List (κ × acU)->Prop:=alY λ(p:κ × V) (q:κ × acU)=>p.1=q.1/\RelV p.2 q.2
noncomputable def kV:Key->V
 | .inl i=>.int i
 | .inr x=>.str x
inductive HO where
 | lst (xs:List V)
 | tup (xs:List V)
 | dK (kvs:List (Key × V))|dT (kvs:List (List Key × V))
 | set (S:Int->Bool) (n:Nat)
 | ins (C dx:ac4) (fs:List (Str × V))
 | own (x:ac4)
 | xd (fs:List (Str × V))
 | met (f x:ac4)
 | iM (lo hi:Int)
 | frz (o:Obj) (u:HO)
 | tbl (ps:Array acU)
 | ext (φ:ae7->Prop)
abbrev Hp:=ac4->Option HO
noncomputable def upd(H:Hp)(a:ac4)(o:HO):Hp:=λb=>if b=a then O o else H b
theorem ao:upd H a o a=O o:=by unfold upd;rw[if_pos Y]
theorem aJ(h:b≠a):upd H a o b=H b:=by unfold upd;rw[if_neg h]
theorem wq:upd (upd H a o) a u=upd H a u:=by funext b;unfold upd;split<;>rfl
theorem zF{H:Hp}{a b:ac4}{o u:HO}(h:H a=O o)(h':H b=O u)(d:o≠u):a≠b:=by intro e;subst e;rw[h] at h';exact d (Option.some.inj h')
theorem ja{H:Hp}{a b:ac4}{o:HO}(h:H a=O o)(h':H b=J):a≠b:=by intro e;subst e;rw[h] at h';cases h'
section
variable(P:adP)(w:aes)
def bN(H:Hp)(h:ae7)(a:ac4):HO->Prop
 | .lst xs=>xs.length<=adh/\∃ (ai:List acU) (n:Nat),Vals xs ai/\h.get? a=O { cls:=.type "list",data:=.seq ai.toArray n }
 | .tup xs=>xs.length<=adh/\∃ ai:List acU,Vals xs ai/\IsTup h a ai.toArray
 | .dK kvs=>kvs.length<=adh/\(a == aeB)=false/\∃ vs,KV kvs vs/\h.DictOf (eI P w) a vs
 | .dT kvs=>kvs.length<=adh/\(a == aeB)=false/\∃ xs:List (List Key × ac4 × acU),
  alY (λ(p:List Key × V) (q:List Key × ac4 × acU)=>p.1=q.1/\H q.2.1=O (.tup (p.1.map kV))/\RelV p.2 q.2.2) kvs xs /\
  ∃ o es ep,h.get? a=O o/\o.ExactDict/\o.data = .dict es ep/\es.toList=xs.map (entryOfKey (aiP (eI P w)))/\(xs.map (·.1)).Nodup
 | .set S n=>h.SetOf (ag5 P w) a S n
 | .ins C dx fs=>H dx=O (.own a)/\fs.length<=1000/\dx≠a/\h.get? a=O (afd C dx) /\
  ∃ mA,h.Ns1 dx mA/\(∀ f,eJ (fs.lookup f) (mA f))/\aku mA (fs.map (·.1))
 | .own _=>∃ o,h.get? a=O o
 | .xd fs=>∃ mA,h.Ns1 a mA/\∀ f,eJ (fs.lookup f) (mA f)
 | .iM lo hi=>∃ t u v,h.get? a=O { cls:=.type "range",data:=.fields (List.toArray [.int lo t,.int hi u,.int 1 v]) }
 | .frz o u=>h.get? a=O o/\bN H h a u
 | .tbl ps=>h.get? a=O { cls:=.none,data:=.fields ps }
 | .met f x=>h.get? a=O (ahZ (.ref f) (.ref x))
 | .ext φ=>φ h/\(∃ o,h.get? a=O o)/\∀ h1 h2:ae7,φ h1->(∀ o,h1.get? a=O o->h2.get? a=O o)->φ h2
def ck(H:Hp)(h:ae7):Prop:=∀ a o,H a=O o->bN P w H h a o
end
section
theorem bN.lt(x:bN P w H h a o):a<h.objs.size:=by
 cases o with
 | lst xs=>obtain⟨z,z,z,z,e⟩:=x;exact acT e
 | tup xs=>obtain⟨z,z,z,p⟩:=x;exact p.lt
 | dK kvs=>obtain⟨z,z,z,z,o,z,z,e,z⟩:=x;exact acT e
 | dT kvs=>obtain⟨z,z,z,z,o,z,z,e,z⟩:=x;exact acT e
 | set S n=>obtain⟨o,z,z,z,e,z⟩:=x;exact acT e
 | ins C dx fs=>obtain⟨z,z,z,e,z⟩:=x;exact acT e
 | own y=>obtain⟨z,e⟩:=x;exact acT e
 | xd fs=>obtain⟨z,⟨z,z,z,e,z⟩,z⟩:=x;exact acT e
 | iM lo hi=>obtain⟨z,z,z,e⟩:=x;exact acT e
 | frz ob u=>obtain⟨e,z⟩:=x;exact acT e
 | tbl ps=>exact acT (show h.get? a=O _ from x)
 | met f y=>exact acT (show h.get? a=O _ from x)
 | ext φ=>obtain⟨z,⟨z,e⟩,z⟩:=x;exact acT e
theorem Paired.Gb:∀ {l₁:List α} {l₂:List β},alY F l₁ l₂->(∀ a b,F a b->G a b)->alY G l₁ l₂:=by
 intro y y h f
 induction h with
 | nil=>exact .nil
 | cons r t ih=>exact .cons (f _ _ r) ih
theorem bN.jS(x:bN P w H h a o)(k:∀ b u,(b=a∨H b=O (.own a))->h.get? b=O u->h'.get? b=O u)(ho:∀ b,H b=O (.own a)->H' b=O (.own a))(ht:∀ b xs,H b=O (.tup xs)->H' b=O (.tup xs)):bN P w H' h' a o:=by
 induction o with
 | lst xs=>obtain⟨z,ai,n,r,e⟩:=x;exact#[z,ai,n,r,k _ _ (.inl rfl) e]
 | tup xs=>obtain⟨z,ai,r,ob,e,c⟩:=x;exact#[z,ai,r,ob,k _ _ (.inl rfl) e,c]
 | dK kvs=>obtain⟨z,y,vs,r,ob,es,ep,e,c⟩:=x;exact#[z,y,vs,r,ob,es,ep,k _ _ (.inl rfl) e,c]
 | dT kvs =>
  obtain⟨z,y,xs,r,ob,es,ep,e,c⟩:=x;exact#[z,y,xs,Paired.Gb r λp q z=>#[z.1,ht _ _ z.2.1,z.2.2],ob,es,ep,k _ _ (.inl rfl) e,c]
 | set S n=>obtain⟨ob,es,ep,t,e,c⟩:=x;exact#[ob,es,ep,t,k _ _ (.inl rfl) e,c]
 | ins C dx fs =>
  obtain⟨d,z,ne,e,mA,⟨od,es,ep,e2,c⟩,r⟩:=x;exact#[ho _ d,z,ne,k _ _ (.inl rfl) e,mA,#[od,es,ep,k _ _ (.inr d) e2,c],r]
 | own y=>obtain⟨ob,e⟩:=x;exact#[ob,k _ _ (.inl rfl) e]
 | xd fs=>obtain⟨mA,⟨od,es,ep,e,c⟩,r⟩:=x;exact#[mA,#[od,es,ep,k _ _ (.inl rfl) e,c],r]
 | iM lo hi=>obtain⟨t,u,v,e⟩:=x;exact#[t,u,v,k _ _ (.inl rfl) e]
 | frz ob u ih=>obtain⟨e,q⟩:=x;exact#[k _ _ (.inl rfl) e,ih q]
 | tbl ps =>
  have e:h.get? a=O { cls:=.none,data:=.fields ps }:=x;show h'.get? a=O { cls:=.none,data:=.fields ps };exact k a _ (.inl rfl) e
 | met f y =>
  have e:h.get? a=O (ahZ (.ref f) (.ref y)):=x;show h'.get? a=O (ahZ (.ref f) (.ref y));exact k a _ (.inl rfl) e
 | ext φ=>obtain⟨p,⟨o,e⟩,st⟩:=x;exact#[st _ _ p λo q=>k _ _ (.inl rfl) q,#[o,k _ _ (.inl rfl) e],st]
theorem ck.lt(x:ck P w H h)(e:H a=O o):a<h.objs.size:=(x a o e).lt
theorem ck.fresh(x:ck P w H h)(e:h.objs.size<=a):H a=J:=by
 cases q:H a with
 | none=>rfl
 | some u=>exact absurd (adm (x.lt q) e) (aex _)
theorem ck.kept(x:ck P w H h)(k:∀ b u,h.get? b=O u->h'.get? b=O u):ck P w H h':=λa o e =>
 (x a o e).jS (λb u y q=>k b u q) (λy q=>q) λy y q=>q
theorem ck.laid(x:ck P w H h)(k:∀ b u,h.get? b=O u->h'.get? b=O u)(hp:h.objs.size<=a)(new:bN P w (upd H a o) h' a o):ck P w (upd H a o) h':=λb u e=>by
 have hn:=x.fresh hp;by_cases hb:b=a
 .subst hb;rw[ao] at e;cases e;exact new
 .rw[aJ hb] at e;exact (x b u e).jS (λc v y q=>k c v q) (λc q=>by rw[aJ (ja q hn)];exact q) λc xs q=>by rw[aJ (ja q hn)];exact q
end
def Rd(H:Hp)(a:ac4)(u:HO):Prop:=H a=O u ∨ ∃ o,H a=O (.frz o u)
theorem Rd.ok(r:Rd H a u)(x:ck P w H h):bN P w H h a u:=by
 rcases r with r|⟨o,r⟩
 .exact x a u r
 .obtain⟨y,q⟩:=x a _ r;exact q
def sk:Option HO->Prop
 | some (.lst _)=>True
 | some (.dK _)=>True
 | some (.dT _)=>True
 | some (.set _ _)=>True
 | some (.ins _ _ _)=>True
 | some (.ext _)=>True
 | _=>False
section
theorem ck.write(ok:ck P w H h)(mu:sk (H x))(he:e=x∨H e=O (.own x))(k:∀ b u,b≠e->h.get? b=O u->h'.get? b=O u)(qm:∃ u,h'.get? e=O u)(new:bN P w (upd H x o') h' x o'):ck P w (upd H x o') h':=λb u q=>by
 have Ge:∀ c y,H c=O (.own y)->c≠x:=λc y r z=>by subst z;rw[r] at mu;exact mu
 have OI:∀ c xs,H c=O (.tup xs)->c≠x:=λc xs r z=>by subst z;rw[r] at mu;exact mu
 by_cases hb:b=x
 .subst hb;rw[ao] at q;cases q;exact new
 .rw[aJ hb] at q;by_cases jT:b=e
  .have q':H b=O (.own x):=by
    rcases he with z|z
    .exact absurd (jT.trans z) hb
    .rw[jT];exact z
   rw[q] at q';cases q';obtain⟨v,hv⟩:=qm;exact#[v,by rw[jT];exact hv]
  .refine (ok b u q).jS (λc v hc r=>k c v ?_ r) (λc r=>by rw[aJ (Ge c b r)];exact r) λc xs r=>by rw[aJ (OI c xs r)];exact r
   rcases hc with rfl|hc
   .exact jT
   .rintro rfl;rcases he with z|z
    .exact Ge c b hc z
    .rw[hc] at z;cases z;exact hb rfl
end
structure Un(fs ex:List ac4)(H H':Hp)(h h':ae7):Prop where
 keep:∀ b o,h.get? b=O o->H b=J->b∉fs->b∉ex->h'.get? b=O o
 slot:∀ b o,h.get? b=O o->H b=J->b∈fs->b∉ex->∃ sl,h'.get? b=O { o with slots:=sl }
 free:∀ b o,h.get? b=O o->H b=J->b∉ex->H' b=J
 there:∀ b o,h.get? b=O o->b∉ex->∃ o',h'.get? b=O o'
 fH:∀ b xs,H b=O (.tup xs)->H' b=O (.tup xs)
 gN:∀ b o u,H b=O (.frz o u)->H' b=O (.frz o u)
 ij:∀ b ps,H b=O (.tbl ps)->∃ more,H' b=O (.tbl (ps++more))
section
variable{fs fs' ex ex':List ac4}{H H1 H2:Hp}{h h1 h2 h':ae7}{a x e:ac4}{o:HO}
theorem Un.any(u:Un fs ex H H1 h h1)(q:h.get? b=O ob)(n:H b=J)(hx:b∉ex):∃ sl,h1.get? b=O { ob with slots:=sl }:=by
 by_cases hb:b∈fs
 .exact u.slot b ob q n hb hx
 .exact#[ob.slots,u.keep b ob q n hb hx]
theorem Un.kept(k:∀ b u,h.get? b=O u->h'.get? b=O u):Un fs ex H H h h' :=
 #[λb ob q y y y=>k b ob q,λb ob q y y y=>#[ob.slots,k b ob q],λy y y n y=>n,λb ob q y=>#[ob,k b ob q],λy y q=>q,λy y y q=>q,λy ps q=>#[(List.toArray []),by rw[q];simp]]
theorem Un.refl:Un fs ex H H h h:=Un.kept λy y q=>q
theorem Un.laid(k:∀ b u,h.get? b=O u->h'.get? b=O u)(hp:h.objs.size<=a)(hn:H a=J):Un fs ex H (upd H a o) h h' where
 keep:=λb u q y y y=>k b u q
 slot:=λb u q y y y=>#[u.slots,k b u q]
 free:=λb u q n y=>by rw[aJ (adk (adm (acT q) hp))];exact n
 there:=λb u q y=>#[u,k b u q]
 fH:=λb xs q=>by rw[aJ (ja q hn)];exact q
 gN:=λb u xs q=>by rw[aJ (ja q hn)];exact q
 ij:=λb ps q=>#[(List.toArray []),by rw[aJ (ja q hn),q];simp]
theorem Un.write(mu:sk (H x))(he:e=x∨H e=O (.own x))(k:∀ b u,b≠e->h.get? b=O u->h'.get? b=O u)(qm:∃ u,h'.get? e=O u):Un fs ex H (upd H x o) h h':=by
 have hx:∀ b,H b=J->b≠x:=λb n z=>by subst z;rw[n] at mu;exact mu
 have hb:∀ b,H b=J->b≠e:=λb n z=>by
  subst z;rcases he with r|r
  .exact hx b n r
  .rw[n] at r;cases r
 have hm:∀ b u,H b=O u->¬ sk (O u)->b≠x:=λb u q nm z=>by subst z;rw[q] at mu;exact nm mu
 refine#[λb u q n y y=>k b u (hb b n) q,λb u q n y y=>#[u.slots,k b u (hb b n) q],λb u q n y=>by rw[aJ (hx b n)];exact n,λb u q y=>?_,
  λb xs q=>by rw[aJ (hm b _ q λz=>z)];exact q,λb u xs q=>by rw[aJ (hm b _ q λz=>z)];exact q,λb ps q=>#[(List.toArray []),by rw[aJ (hm b _ q λz=>z),q];simp]]
 by_cases jT:b=e
 .subst jT;exact qm
 .exact#[u,k b u jT q]
end
noncomputable def wt(h:ae7)(H:Hp):List ac4:=(adu h.objs.size).filter λa=>(H a).isSome
noncomputable def kT(h:ae7)(H:Hp):ae7:=aiQ h (wt h H)
theorem OJ(h:ae7)(H:Hp):(kT h H).objs.size=h.objs.size:=PySem.W.hideAll_size _ _
theorem OL(e:h.get? b=O o)(n:H b=J):(kT h H).get? b=O o :=
 ajG _ e λhm=>by have q:(H b).isSome=true:=(adG.mp hm).2;rw[n] at q;simp at q
theorem OM(e:(kT h H).get? b=O o):h.get? b=O o/\H b=J:=by
 have e':h.get? b=O o:=ajS (wt h H) e;refine#[e',?_];cases q:H b with
 | none=>rfl
 | some x =>
  have hm:b∈wt h H:=adG.mpr #[aeg.mpr (acT e'),by simp[q]];have z:(kT h H).get? b=J:=PySem.W.hideAll_none (wt h H) hm;rw[z] at e;cases e
noncomputable def ON(g h:ae7)(L9q:ac4):List (ac4 × Obj):=(adu h.objs.size).filterMap λa=>if a=L9q∨(g.get? a).isSome=true then J else (h.get? a).map λo=>(a,o)
noncomputable def rest(g h:ae7)(L9q d:ac4):List (ac4 × Obj):=(ON g h L9q).filter λp=>decide (p.1≠d)
structure Mod(K:acM)(mg:Str->Option acU)(base:ae7):Prop where
 kin:K.In base
 glob:base.Ns ac3 mg
 blt:∃ mb,base.Ns aly mb/\∀ x:Str,x ≠ "__name__" -> mb x=adJ x
 nolimit:base.NoLimit
structure Cx where
 prog:adP
 w:aes
 K:acM
 mg:Str->Option acU
 base:ae7
 A:ae2
 N:List Str
 s₀:ac8
 H₀:Hp
 env:Env
 outer:List Env
 stack:List Env
 ex:List ac4
 fn:Str->Bool
 calm:Bool
 pn:List (ac4 × Obj)
 xe:acU->ac8->Prop
noncomputable def bq(l:List Env):List ac4:=l.filterMap (·.frame)
noncomputable abbrev Cx.fs(X:Cx):List ac4:=bq X.outer
def wu(sc:ajl)(x:Str):Prop:=sc.names.lookup x=O .local∨sc.names.lookup x=O .cell∨sc.names.lookup x=O .free
def Loc(sc:ajl)(x:Str):Prop:=sc.names.lookup x=O .local∨sc.names.lookup x=O .cell
def Look(env:Env)(h:ae7)(m:Str->Option acU)(x:Str)(u:acU):Prop :=
 (env.kindOf x=O .local/\m x=O u)∨((env.kindOf x=O .cell∨env.kindOf x=O .free)/\∃ c,env.cells.lookup x=O c/\h.IsCell c (O u))
structure Cx.Ok(X:Cx):Prop where
 mod:Mod X.K X.mg X.base
 kind:X.env.scope.kind = .function
 glob:X.env.globals=ac3
 blt:X.env.builtins=aly
 above:X.s₀.heap.objs.size<=X.env.locals
 inj:∀ x y c,X.env.cells.lookup x=O c->X.env.cells.lookup y=O c->x=y
 has:∀ x,(X.env.kindOf x=O .cell∨X.env.kindOf x=O .free)->∃ c,X.env.cells.lookup x=O c
 cab:∀ x c,X.fn x=true->X.env.cells.lookup x=O c->X.s₀.heap.objs.size<=c
 hd:X.calm=true->X.A.handled=J
 frames:X.A.frames=O X.stack
 stk:X.stack=X.outer∨(X.stack=X.env::X.outer/\X.env.frame=O X.env.locals)
 exf:∀ b∈X.ex,b≠X.env.locals/\∀ x c,X.env.cells.lookup x=O c->c≠b
 bs:∀ b o,X.base.get? b=O o->X.s₀.heap.get? b=O o/\X.H₀ b=J
 bsz:X.base.objs.size<=X.s₀.heap.objs.size
 noex:∀ b o,X.base.get? b=O o->b∉X.ex
 exfs:∀ b∈X.ex,b∉X.fs
 ik:X.s₀.heap.FunFrames X.base X.outer
 frf:∀ b∈X.fs,X.H₀ b=J
structure Inv(X:Cx)(pins:List (ac4 × Obj))(L:List (Option V))(H:Hp)(s:ac8):Prop where
 ok:X.Ok
 os:s.os=X.s₀.os
 bare:aiR s.gens
 base:Un X.fs X.ex X.H₀ H X.s₀.heap s.heap
 loc:∃ m,s.heap.Ns X.env.locals m/\∀ (i:Nat) (x:Str) (v:V),X.N[i]?=O x->L[i]?=O (O v)->wu X.env.scope x->∃ u,RelV v u/\Look X.env s.heap m x u
 cell:∀ x c,X.env.cells.lookup x=O c->∃ v,s.heap.IsCell c v
 free:H X.env.locals=J
 jb:∀ x c,X.env.cells.lookup x=O c->H c=J
 pin:∀ p∈X.pn++pins,s.heap.get? p.1=O p.2/\H p.1=J/\p.1≠X.env.locals/\p.1∉X.fs/\∀ v,p.2.data ≠ .cell v
 ar:ck X.prog X.w H s.heap
 len:L.length=X.N.length
section
variable{X:Cx}{pins:List (ac4 × Obj)}{L:List (Option V)}{H H':Hp}{s:ac8}{h':ae7}
theorem Cx.Ok.kU(ok:X.Ok){b:ac4}{o:Obj}(e:X.base.get? b=O o):b∉X.fs:=λhb=>by have:=(ok.ik.mem hb).1;rw[e] at this;cases this
theorem Inv.bs(I:Inv X pins L H s):∀ b o,X.base.get? b=O o->s.heap.get? b=O o/\H b=J:=λb o e =>
 #[I.base.keep b o (I.ok.bs b o e).1 (I.ok.bs b o e).2 (I.ok.kU e) (I.ok.noex b o e),I.base.free b o (I.ok.bs b o e).1 (I.ok.bs b o e).2 (I.ok.noex b o e)]
theorem Inv.bk(I:Inv X pins L H s):∀ b o,X.base.get? b=O o->s.heap.get? b=O o:=λb o e=>(I.bs b o e).1
theorem Inv.mod(I:Inv X pins L H s):Mod X.K X.mg X.base:=I.ok.mod
theorem Inv.cz(I:Inv X pins L H s):X.K.In s.heap:=I.ok.mod.kin.keeps I.bk
theorem Inv.lt(I:Inv X pins L H s):X.env.locals<s.heap.objs.size:=let ⟨_,hn,_⟩:=I.loc;hn.lt
theorem Inv.sz(I:Inv X pins L H s):X.s₀.heap.objs.size<=s.heap.objs.size:=acR I.ok.above (afS I.lt)
theorem Inv.Gf(I:Inv X pins L H s)(h:s.heap.objs.size<=a):a∉X.fs:=λhb=>by obtain⟨y,o,ho,y⟩:=I.ok.ik.mem hb;exact absurd (adm (acT ho) (acR I.sz h)) (aex _)
theorem Inv.oi(I:Inv X pins L H s):∀ x c,X.env.cells.lookup x=O c->c≠X.env.locals:=λx c e z=>by obtain⟨v,o,ho,hd⟩:=I.cell x c e;obtain⟨m,⟨o',es,ep,eK,sq,y⟩,y⟩:=I.loc;rw[z,eK] at ho;cases ho;rw[sq] at hd;cases hd
theorem Inv.ik(I:Inv X pins L H s):s.heap.FunFrames X.base X.outer:=by
 have all:∀ (l:List Env),(∀ b∈bq l,b∈X.fs)->X.s₀.heap.FunFrames X.base l->s.heap.FunFrames X.base l:=by
  intro l
  induction l with
  | nil=>intro y y;trivial
  | cons env r ih =>
   intro hs hl;obtain⟨hk,⟨L9q,o,hf,hn,ho,hd⟩,hr⟩:=hl;have hL:L9q∈X.fs:=hs L9q (by unfold bq;rw[ad8,hf];exact afP);obtain⟨sl,e⟩:=I.base.slot L9q o ho (I.ok.frf L9q hL) hL λz=>I.ok.exfs L9q z hL;exact#[hk,#[L9q,_,hf,hn,e,hd],ih (λb hb=>hs b (by unfold bq;rw[ad8,hf];exact adV _ hb)) hr]
 exact all X.outer (λy hb=>hb) I.ok.ik
theorem Inv.stack(I:Inv X pins L H s):s.heap.FunFrames X.base X.stack:=by
 rcases I.ok.stk with e|⟨e,hf⟩
 .rw[e];exact I.ik
 .rw[e];obtain⟨m,hn,y⟩:=I.loc;refine .cons (by rw[I.ok.kind];decide) hf hn ?_ I.ik;exact Heap.get?_none_of_le (acR I.ok.bsz I.ok.above)
theorem Inv.qo(I:Inv X pins L H s):∀ b∈bq X.stack,b∈X.env.locals::X.fs:=λb hb=>by
 rcases I.ok.stk with e|⟨e,hf⟩
 .rw[e] at hb;exact adV _ hb
 .rw[e] at hb;unfold bq at hb;rw[ad8,hf] at hb;exact hb
theorem Inv.wx(I:Inv X pins L H s):∀ b∈bq X.stack,H b=J:=λb hb=>by
 rcases acZ.mp (I.qo b hb) with e|hb
 .rw[e];exact I.free
 .obtain⟨y,o,ho,y⟩:=I.ok.ik.mem hb;exact I.base.free b o ho (I.ok.frf b hb) λz=>I.ok.exfs b z hb
theorem Inv.step{g':Array GenState}{t':Nat}{d':Drawn}{ch:List ac4}(I:Inv X pins L H s)
 (iN:∀ b∈ch,(b∈X.ex∨X.s₀.heap.objs.size<=b)/\b≠X.env.locals/\(∀ x c,X.env.cells.lookup x=O c->c≠b)/\∀ p∈X.pn++pins,p.1≠b)
 (keep:∀ b o,b≠X.env.locals->b∉X.fs->b∉ch->s.heap.get? b=O o->H b=J->h'.get? b=O o)
 (slot:∀ b o,b≠X.env.locals->b∈X.fs->b∉ch->s.heap.get? b=O o->H b=J->∃ sl,h'.get? b=O { o with slots:=sl }) (free:∀ b o,b∉ch->s.heap.get? b=O o->H b=J->H' b=J)
 (there:∀ b o,b∉ch->s.heap.get? b=O o->∃ o',h'.get? b=O o')
 (fH:∀ b xs,H b=O (.tup xs)->H' b=O (.tup xs)) (gN:∀ b o u,H b=O (.frz o u)->H' b=O (.frz o u)) (ij:∀ b ps,H b=O (.tbl ps)->∃ more,H' b=O (.tbl (ps++more)))
 (ns:∀ m,s.heap.Ns X.env.locals m->h'.Ns X.env.locals m) (ar:ck X.prog X.w H' h') (hg:aiR g') :
 Inv X pins L H' { s with heap:=h',gens:=g',drawn:=d',toks:=t' }:=by
 have qp:∀ b o,X.s₀.heap.get? b=O o->b≠X.env.locals:=λb o e=>adk (adm (acT e) I.ok.above);have wy:∀ b o,X.s₀.heap.get? b=O o->b∉X.ex->b∉ch:=λb o e hx hb=>by
  rcases (iN b hb).1 with z|z
  .exact hx z
  .exact absurd (adm (acT e) z) (aex _)
 have cellK:∀ x c,X.env.cells.lookup x=O c->∀ v,s.heap.IsCell c v->h'.IsCell c v:=λx c e v ⟨o,ho,hd⟩=>by
  have mF:c∉ch:=λz=>(iN c z).2.2.1 x c e rfl;by_cases hc:c∈X.fs
  .obtain⟨sl,q⟩:=slot c o (I.oi x c e) hc mF ho (I.jb x c e);exact#[_,q,hd]
  .exact#[o,keep c o (I.oi x c e) hc mF ho (I.jb x c e),hd]
 refine#[I.ok,I.os,hg,#[λb o e n hb hx=>?_,λb o e n hb hx=>?_,λb o e n hx=>?_,λb o e hx=>?_,λb xs e=>fH b xs (I.base.fH b xs e),λb o xs e=>gN b o xs (I.base.gN b o xs e),λb ps e=>?_],?_,λx c e=>?_,?_,λx c e=>?_,λp hp=>?_,ar,I.len]
 .exact keep b o (qp b o e) hb (wy b o e hx) (I.base.keep b o e n hb hx) (I.base.free b o e n hx)
 .obtain⟨sl,e1⟩:=I.base.slot b o e n hb hx;obtain⟨gb,e2⟩:=slot b _ (qp b o e) hb (wy b o e hx) e1 (I.base.free b o e n hx);exact#[gb,e2]
 .obtain⟨o',e1⟩:=I.base.there b o e hx;exact free b o' (wy b o e hx) e1 (I.base.free b o e n hx)
 .obtain⟨o',e1⟩:=I.base.there b o e hx;exact there b o' (wy b o e hx) e1
 .obtain⟨m1,e1⟩:=I.base.ij b ps e;obtain⟨m2,e2⟩:=ij b _ e1;exact#[m1++m2,by rw[e2,ajT]]
 .obtain⟨m,hn,hl⟩:=I.loc;refine#[m,ns m hn,λi x v e1 e2 e3=>?_];obtain⟨u,r,l⟩:=hl i x v e1 e2 e3;refine#[u,r,?_];rcases l with l|⟨k,c,e,z⟩
  .exact .inl l
  .exact .inr #[k,c,e,cellK x c e _ z]
 .obtain⟨v,z⟩:=I.cell x c e;exact#[v,cellK x c e v z]
 .obtain⟨m,⟨o,y,y,ho,y⟩,y⟩:=I.loc;exact free _ o (λz=>(iN _ z).2.1 rfl) ho I.free
 .obtain⟨v,o,ho,hd⟩:=I.cell x c e;exact free c o (λz=>(iN c z).2.2.1 x c e Y) ho (I.jb x c e)
 .obtain⟨e,n,ne,nf,d⟩:=I.pin p hp;have mF:p.1∉ch:=λz=>(iN p.1 z).2.2.2 p hp rfl;exact#[keep p.1 p.2 ne nf mF e n,free p.1 p.2 mF e n,ne,nf,d]
theorem Inv.un(I:Inv X pins L H s)(u:Un X.fs [] H H' s.heap h')(ar:ck X.prog X.w H' h'):Inv X pins L H' { s with heap:=h',toks:=t' }:=by
 obtain⟨m,⟨o,es,ep,ho,r⟩,y⟩:=id I.loc;obtain⟨sl,hL⟩:=u.any ho I.free (by simp);exact I.step (g':=s.gens) (d':=s.drawn) (ch:=[]) (λy z=>nomatch z) (λb o y hb y e n=>u.keep b o e n hb (by simp)) (λb o y hb y e n=>u.slot b o e n hb (by simp)) (λb o y e n=>u.free b o e n (by simp)) (λb o y e=>u.there b o e (by simp)) u.fH u.gN u.ij (λm' hm=>by
  obtain⟨o',es',zG,eK,r'⟩:=hm;rw[ho] at eK;cases eK;exact#[_,es',zG,hL,r']) ar I.bare
theorem Inv.call(I:Inv X pins L H s)(u:Un (bq X.stack) ch H H' s.heap h')(ar:ck X.prog X.w H' h')(hg:aiR g')(iN:∀ b∈ch,(b∈X.ex∨X.s₀.heap.objs.size<=b)/\b≠X.env.locals/\(∀ x c,X.env.cells.lookup x=O c->c≠b)/\∀ p∈X.pn++pins,p.1≠b) :
 Inv X pins L H' { s with heap:=h',gens:=g',drawn:=d',toks:=t' }:=by
 obtain⟨m,⟨o,es,ep,ho,r⟩,y⟩:=id I.loc;obtain⟨sl,hL⟩:=u.any ho I.free λz=>(iN _ z).2.1 rfl;exact I.step (ch:=ch) iN (λb o hL hb hc e n=>u.keep b o e n (λz=>(acZ.mp (I.qo b z)).elim hL hb) hc) (λb o y y hc e n=>u.any e n hc) (λb o hc e n=>u.free b o e n hc) (λb o hc e=>u.there b o e hc) u.fH u.gN u.ij (λm' hm=>by
  obtain⟨o',es',zG,eK,r'⟩:=hm;rw[ho] at eK;cases eK;exact#[_,es',zG,hL,r']) ar hg
theorem Inv.turned(I:Inv X pins L H s)(k:∀ b o,b≠it->s.heap.get? b=O o->h'.get? b=O o)(hn:H it=J)(hL:it≠X.env.locals)(h1:it∈X.ex∨X.s₀.heap.objs.size<=it)(h2:∀ x c,X.env.cells.lookup x=O c->c≠it)(h3:∀ p∈X.pn++pins,p.1≠it):Inv X pins L H { s with heap:=h',toks:=t' }:=by
 have Gg:∀ b u,H b=O u->b≠it:=λb u e z=>by rw[z,hn] at e;cases e
 refine I.step (g':=s.gens) (d':=s.drawn) (ch:=[it]) (λb hb=>?_) (λb o y y hc e y=>k b o (λz=>hc (by simp[z])) e) (λb o y y hc e y=>#[o.slots,k b o (λz=>hc (by simp[z])) e]) (λy y y y n=>n)
  (λb o hc e=>#[o,k b o (λz=>hc (by simp[z])) e]) (λy y e=>e) (λy y y e=>e) (λb ps e=>#[(List.toArray []),by rw[e];simp]) (λm hm=>?_) (λb u e=>?_) I.bare
 .have e:b=it:=by simpa using hb
  subst e;exact#[h1,hL,h2,h3]
 .obtain⟨o,es,ep,ho,r⟩:=hm;exact#[o,es,ep,k _ o (adR hL) ho,r]
 .refine (I.ar b u e).jS (λc v hc q=>k c v ?_ q) (λy q=>q) λy y q=>q;rcases hc with z|z
  .rw[z];exact Gg b u e
  .exact Gg c _ z
theorem Inv.tok(I:Inv X pins L H s)(t:Nat):Inv X pins L H { s with toks:=t }:=I.un (h':=s.heap) (t':=t) Un.refl I.ar
theorem Inv.kept(I:Inv X pins L H s)(k:∀ b u,s.heap.get? b=O u->h'.get? b=O u):Inv X pins L H { s with heap:=h',toks:=t' }:=I.un (Un.kept k) (I.ar.kept k)
theorem Inv.laid(I:Inv X pins L H s)(k:∀ b u,s.heap.get? b=O u->h'.get? b=O u)(hp:s.heap.objs.size<=a)(new:bN X.prog X.w (upd H a o) h' a o) :
 Inv X pins L (upd H a o) { s with heap:=h',toks:=t' }:=I.un (Un.laid k hp (I.ar.fresh hp)) (I.ar.laid k hp new)
theorem Inv.write(I:Inv X pins L H s)(mu:sk (H x))(he:e=x∨H e=O (.own x))(k:∀ b u,b≠e->s.heap.get? b=O u->h'.get? b=O u)(qm:∃ u,h'.get? e=O u)(new:bN X.prog X.w (upd H x o) h' x o):Inv X pins L (upd H x o) { s with heap:=h',toks:=t' }:=I.un (Un.write mu he k qm) (I.ar.write mu he k qm new)
theorem Inv.oj(I:Inv X pins L H s)(h:∀ p∈OO,s.heap.get? p.1=O p.2/\H p.1=J/\p.1≠X.env.locals/\p.1∉X.fs/\∀ v,p.2.data ≠ .cell v):Inv X OO L H s :=
 #[I.ok,I.os,I.bare,I.base,I.loc,I.cell,I.free,I.jb,λp hp=>(adf.mp hp).elim (λz=>I.pin p (adH _ z)) (h p),I.ar,I.len]
theorem Gh{N:List Str}(hN:N.Nodup){i j:Nat}{x:Str}(a:N[i]?=O x)(b:N[j]?=O x):i=j:=by obtain⟨h1,e1⟩:=acX.mp a;obtain⟨h2,e2⟩:=acX.mp b;exact (List.getElem_inj hN).mp (e1.trans e2.symm)
theorem OP(I:Inv X pins L H s)(hN:X.N.Nodup)(hi:X.N[i]?=O x)(hx:Loc X.env.scope x)(r:RelV v u)(h:∀ s',Inv X pins (L.set i (O v)) H s'->(∃ a,Heap.SameBut a s.heap s'.heap/\(a=X.env.locals∨X.env.cells.lookup x=O a))->Q () s')(hf:X.fn x=true∨X.env.scope.names.lookup x=O .local:=by first|exact .inl rfl|exact .inr rfl|assumption):adi M A (storeName X.env x u) Q E s:=by
 obtain⟨m,hn,hl⟩:=id I.loc;have OQ:(X.env.scope.kind == .class || (X.env.scope.kind == .module && X.env.locals != X.env.globals))=false:=by rw[I.ok.kind];rfl
 have Gi:i<L.length:=by rw[I.len];exact (acX.mp hi).1
 have oi:=I.oi;have tracked:∀ {a:ac4} {h':ae7},(∃ o,s.heap.get? a=O o/\H a=J)->Heap.SameBut a s.heap h'->ck X.prog X.w H h':=λ{a h'} ha hs b ob e=>by
  obtain⟨g,g,hfree⟩:=ha;refine (I.ar b ob e).jS (λc w' hc q=>(hs.2 c ?_).trans q) (λg q=>q) λg g q=>q;rintro rfl;rcases hc with rfl|hc
  .rw[hfree] at e;cases e
  .rw[hfree] at hc;cases hc
 rcases hx with hk|hk
 .refine wpAny_storeName_local hk hn (λh' mG hs=>?_) OQ;obtain⟨oL,g,g,OR,g⟩:=id hn;refine h _ #[I.ok,I.os,I.bare,#[λb o e n hb hx=>?_,λb o e n hb hx=>?_,I.base.free,λb o e hx=>?_,I.base.fH,I.base.gN,I.base.ij],#[_,mG,λj y v' e1 e2 e3=>?_],λy c e=>?_,I.free,I.jb,λp hp=>?_,tracked #[oL,OR,I.free] hs,by simpa using I.len] #[_,hs,.inl rfl]
  .exact (hs.2 b (adk (adm (acT e) I.ok.above))).trans (I.base.keep b o e n hb hx)
  .obtain⟨sl,e1⟩:=I.base.slot b o e n hb hx;exact#[sl,(hs.2 b (adk (adm (acT e) I.ok.above))).trans e1]
  .obtain⟨o',e1⟩:=I.base.there b o e hx;exact#[o',(hs.2 b (adk (adm (acT e) I.ok.above))).trans e1]
  .by_cases hj:j=i
   .subst hj;rw[hi] at e1;cases e1;rw[afl Gi] at e2;cases e2;exact#[u,r,.inl #[hk,by simp]]
   .rw[agb (adR hj)] at e2;obtain⟨u',r',q⟩:=hl j y v' e1 e2 e3;refine#[u',r',?_];rcases q with ⟨k,e⟩|⟨k,c,e,z⟩
    .refine .inl #[k,?_];have:y≠x:=λe=>hj (Gh hN e1 (e ▸ hi));simp[this,e]
    .exact .inr #[k,c,e,z.sameBut hs (oi y c e)]
  .obtain⟨w',z⟩:=I.cell y c e;exact#[w',z.sameBut hs (oi y c e)]
  .obtain⟨e,n,ne,nf,d⟩:=I.pin p hp;exact#[(hs.2 p.1 ne).trans e,n,ne,nf,d]
 .have zH:X.fn x=true:=by
   rcases hf with z|z
   .exact z
   .rw[z] at hk;cases hk
  obtain⟨c,hc⟩:=I.ok.has x (.inl hk);obtain⟨w',z⟩:=I.cell x c hc;refine wpAny_storeName_cell I.ok.kind hk hc z (λh' kW hs=>?_);obtain⟨oc,hoc,hocd⟩:=id z;refine h { s with heap:=h' } #[I.ok,I.os,I.bare,#[λb o e n hb hx=>?_,λb o e n hb hx=>?_,I.base.free,λb o e hx=>?_,I.base.fH,I.base.gN,I.base.ij],#[m,hn.sameBut hs (adR (oi x c hc)),λj y v' e1 e2 e3=>?_],λy c' e=>?_,I.free,I.jb,λp hp=>?_,tracked #[oc,hoc,I.jb x c hc] hs,by simpa using I.len] #[c,hs,.inr hc]
  .exact (hs.2 b (adk (adm (acT e) (I.ok.cab x c zH hc)))).trans (I.base.keep b o e n hb hx)
  .obtain⟨sl,e1⟩:=I.base.slot b o e n hb hx;exact#[sl,(hs.2 b (adk (adm (acT e) (I.ok.cab x c zH hc)))).trans e1]
  .obtain⟨o',e1⟩:=I.base.there b o e hx;exact#[o',(hs.2 b (adk (adm (acT e) (I.ok.cab x c zH hc)))).trans e1]
  .by_cases hj:j=i
   .subst hj;rw[hi] at e1;cases e1;rw[afl Gi] at e2;cases e2;exact#[u,r,.inr #[.inl hk,c,hc,kW]]
   .rw[agb (adR hj)] at e2;obtain⟨u',r',q⟩:=hl j y v' e1 e2 e3;refine#[u',r',?_];rcases q with q|⟨k,c',e,z'⟩
    .exact .inl q
    .refine .inr #[k,c',e,z'.sameBut hs ?_];rintro rfl;exact hj (Gh hN e1 (I.ok.inj _ _ _ e hc ▸ hi))
  .by_cases wz:c'=c
   .subst wz;exact#[_,kW]
   .obtain⟨w2,z2⟩:=I.cell y c' e;exact#[w2,z2.sameBut hs wz]
  .obtain⟨e,n,ne,nf,d⟩:=I.pin p hp;refine#[(hs.2 p.1 ?_).trans e,n,ne,nf,d];intro q;rw[q,hoc] at e;have q':oc=p.2:=Option.some.inj e;exact d w' (by rw[<- q'];exact hocd)
theorem Gj(I:Inv X pins L H s)(hN:X.N.Nodup)(hi:X.N[i]?=O x)(hx:Loc X.env.scope x)(r:RelV v u)(h:∀ s',Inv X pins (L.set i (O v)) H s'->Q () s')(hf:X.fn x=true∨X.env.scope.names.lookup x=O .local:=by first|exact .inl rfl|exact .inr rfl|assumption):adi M A (storeName X.env x u) Q E s :=
 OP I hN hi hx r (λs' I' y=>h s' I') hf
theorem Inv.OS(I:Inv X pins L H s)(ho:s'.os=s.os)(u:Un (bq X.stack) ch H H' s.heap s'.heap)(ar:ck X.prog X.w H' s'.heap)(hg:aiR s'.gens)(iN:∀ b∈ch,(b∈X.ex∨X.s₀.heap.objs.size<=b)/\b≠X.env.locals/\(∀ x c,X.env.cells.lookup x=O c->c≠b)/\∀ p∈X.pn++pins,p.1≠b):Inv X pins L H' s':=by obtain⟨h',g',d',t',o'⟩:=s';have e:o'=s.os:=ho;subst e;exact I.call (g':=g') (t':=t') (d':=d') u ar hg iN
end
abbrev XK:=acU->Option ac4->Hp->Prop
abbrev St:=List (Option V)
abbrev VK:=V->Hp->Prop
abbrev TE:=St->Hp->VK->Prop
abbrev TT:=St->Hp->(Bool->Hp->Prop)->Prop
abbrev TA:=St->Hp->(List V->Hp->Prop)->Prop
structure Ends where
 nx:St->Hp->Prop
 rt:VK
 bk:St->Hp->Prop:=λ_ _=>False
 ct:St->Hp->Prop:=λ_ _=>False
abbrev TS:=Ends->St->Hp->Prop
def EP(X:Cx)(pins:List (ac4 × Obj))(L:St)(Q:VK)(u:acU)(s':ac8):Prop:=∃ v H',Inv X pins L H' s'/\RelV v u/\Q v H'
def TP(X:Cx)(pins:List (ac4 × Obj))(L:St)(Q:Bool->Hp->Prop)(b:Bool)(s':ac8):Prop:=∃ H',Inv X pins L H' s'/\Q b H'
def AP(X:Cx)(pins:List (ac4 × Obj))(L:St)(Q:List V->Hp->Prop)(us:List acU)(s':ac8):Prop:=∃ vs H',Inv X pins L H' s'/\Vals vs us/\Q vs H'
def SP(X:Cx)(pins:List (ac4 × Obj))(D:Ends)(f:Flow)(s':ac8):Prop :=
 match f with
 | .next=>∃ σ' H',Inv X pins σ' H' s'/\D.nx σ' H'
 | .brk=>∃ σ' H',Inv X pins σ' H' s'/\D.bk σ' H'
 | .cont=>∃ σ' H',Inv X pins σ' H' s'/\D.ct σ' H'
 | .ret u=>∃ v σ' H',Inv X pins σ' H' s'/\RelV v u/\D.rt v H'
def PE(X:Cx)(e:agY)(t:TE):Prop :=
 ∀ (pins:List (ac4 × Obj)) (s:ac8) (L:St) (H:Hp) (Q:VK),Inv X pins L H s->t L H Q->adi (model X.prog X.w) X.A (eval e X.env) (EP X pins L Q) X.xe s
def PT(X:Cx)(e:agY)(t:TT):Prop :=
 ∀ (pins:List (ac4 × Obj)) (s:ac8) (L:St) (H:Hp) (Q:Bool->Hp->Prop),Inv X pins L H s->t L H Q->adi (model X.prog X.w) X.A (alZ e X.env (eval e X.env)) (TP X pins L Q) X.xe s
def PW(X:Cx)(e:agY)(t:TT):Prop :=
 ∀ (whole:Sem acU) (pins:List (ac4 × Obj)) (s:ac8) (L:St) (H:Hp) (Q:Bool->Hp->Prop),Inv X pins L H s->t L H Q->adi (model X.prog X.w) X.A (alZ e X.env whole) (TP X pins L Q) X.xe s
theorem PW.pt(h:PW X e t):PT X e t:=h _
def PA(X:Cx)(es:List agY)(t:TA):Prop :=
 ∀ (pos:Pos) (pins:List (ac4 × Obj)) (s:ac8) (L:St) (H:Hp) (Q:List V->Hp->Prop),Inv X pins L H s->t L H Q->adi (model X.prog X.w) X.A (spliced (afn pos (adp es X.env))) (AP X pins L Q) X.xe s
def PS(X:Cx)(st:aeO)(t:TS):Prop :=
 ∀ (pins:List (ac4 × Obj)) (s:ac8) (L:St) (H:Hp) (D:Ends),Inv X pins L H s->t D L H->adi (model X.prog X.w) X.A (exec st X.env) (SP X pins D) X.xe s
def aV(X:Cx)(st:List aeO)(t:TS):Prop :=
 ∀ (pins:List (ac4 × Obj)) (s:ac8) (L:St) (H:Hp) (D:Ends),Inv X pins L H s->t D L H->adi (model X.prog X.w) X.A (execs st X.env) (SP X pins D) X.xe s
theorem aC(h:adi M A t Q E s)(hQ:∀ a s,Q a s->Q' a s):adi M A t Q' E s:=aea h hQ λy y x=>x
section
variable{X:Cx}
def zI(i:Nat):TE:=λL H Q=>∃ v,L[i]?=O (O v)/\Q v H
def tC(v:V):TE:=λy H Q=>Q v H
theorem OT(hN:X.N[i]?=O x)(hv:wu X.env.scope x)(hd:(x == ("__debug__" : Str))=false:=by decide)(gd:(x == ("__classdict__" : Str))=false:=by decide):PE X (.Name x pos) (zI i):=by
 intro pins s L H Q I h;obtain⟨v,e,h⟩:=h;obtain⟨m,hn,hl⟩:=I.loc;obtain⟨u,r,l⟩:=hl i x v hN e hv;have fin:EP X pins L Q u s:=#[v,H,I,r,h]
 rcases l with ⟨hk,hm⟩|⟨hk,c,hc,hcell⟩
 .exact alz (wpAny_loadName_local I.ok.kind hk hn hm fin) hd
 .rcases hk with hk|hk
  .exact alz (wpAny_loadName_cell I.ok.kind hk hc hcell fin) hd
  .exact alz (wpAny_loadName_free I.ok.kind hk hc hcell fin gd) hd
theorem ag:PE X (.Constant (.int i) j pos) (tC (.int i)):=λy y y H y I h=>wpAny_Constant_int #[.int i,H,I.tok _,#[_,Y],h]
theorem bO:PE X (.Constant (.bool b) j pos) (tC (.bl b)):=λy y y H y I h=>Constant_bool #[.bl b,H,I,Y,h]
theorem bE:PE X (.Constant .none j pos) (tC .non):=λy y y H y I h=>ajU #[.non,H,I,Y,h]
theorem aK:PE X (.Constant (.str x) j pos) (tC (.str x)):=λy y y H y I h=>Calls.Constant_str #[.str x,H,I.tok _,#[_,Y],h]
def Gl(X:Cx)(x:Str):Prop:=X.env.kindOf x=O .globalImplicit
theorem qr(I:Inv X pins L H s)(hg:Gl X x)(hm:X.mg x=O u)(h:Q u s)(hd:(x == ("__debug__" : Str))=false:=by decide):adi (model X.prog X.w) X.A (eval (.Name x pos) X.env) Q E s :=
 ahC I.ok.kind hg (Calls.loadGlobal_global (by rw[I.ok.glob];exact I.mod.glob.keeps I.bk) hm h) hd
theorem fI(I:Inv X pins L H s)(hg:Gl X x)(hm:X.mg x=J)(hv:adJ x=O u)(h:Q u s)(hn:x ≠ "__name__" := by decide)(hd:(x == ("__debug__" : Str))=false:=by decide):adi (model X.prog X.w) X.A (eval (.Name x pos) X.env) Q E s:=by obtain⟨mb,h1,h2⟩:=I.mod.blt;exact ahC I.ok.kind hg (Calls.loadGlobal_builtin (by rw[I.ok.glob];exact I.mod.glob.keeps I.bk) hm (by rw[I.ok.blt];exact h1.keeps I.bk) ((h2 x hn).trans hv) h) hd
theorem qt(hg:Gl X x)(hm:X.mg x=O u)(r:RelV v u)(hd:(x == ("__debug__" : Str))=false:=by decide):PE X (.Name x pos) (tC v) :=
 λy y y H y I h=>qr I hg hm #[v,H,I,r,h] hd
theorem kX(hg:Gl X x)(hm:X.mg x=J)(hv:adJ x=O u)(r:RelV v u)(hn:x ≠ "__name__" := by decide)(hd:(x == ("__debug__" : Str))=false:=by decide):PE X (.Name x pos) (tC v) :=
 λy y y H y I h=>fI I hg hm hv #[v,H,I,r,h] hn hd
variable{a b:agY}{ta tb:TE}{pos:Pos}
def PC(X:Cx)(op:CmpOp)(a b:agY)(t:TE):Prop :=
 ∀ (pins:List (ac4 × Obj)) (s:ac8) (L:St) (H:Hp) (Q:VK),Inv X pins L H s->t L H Q ->
  adi (model X.prog X.w) X.A (eval a X.env) (λv s₁=>adi (model X.prog X.w) X.A (eval b X.env) (λu s₂=>adi (model X.prog X.w) X.A (aev op v u) (EP X pins L Q) X.xe s₂) X.xe s₁) X.xe s
theorem Gk(b:agY)(h:op ≠ .In)(h2:op ≠ .NotIn):afr op b=false:=by
 have e1:(op == CmpOp.In)=false:=by cases op<;>first|rfl|exact absurd Y h
 have e2:(op == CmpOp.NotIn)=false:=by cases op<;>first|rfl|exact absurd Y h2
 cases b<;>simp[afr,e1,e2]
def Gm(ta:TE):TE:=λL H Q=>ta L H λx H1=>Q (.bl (decide (x = .non))) H1
def Gn(ta:TE):TE:=λL H Q=>ta L H λx H1=>Q (.bl (!decide (x = .non))) H1
theorem RelV.Gq(r:RelV x v):(v == Value.none)=decide (x = .non):=by
 cases x with
 | non=>cases r;rfl
 | bl _=>cases r;rfl
 | int _=>obtain⟨t,rfl⟩:=r;rfl
 | str _=>obtain⟨t,rfl⟩:=r;rfl
 | byt _=>obtain⟨t,rfl⟩:=r;rfl
 | flt _=>obtain⟨t,rfl⟩:=r;rfl
 | ref _=>cases r;rfl
 | ty _=>cases r;rfl
theorem zJ(ha:PE X a ta):PC X .Is a (.Constant .none j pos') (Gm ta):=by intro pins s L H Q I h;refine aC (ha pins s L H _ I h) λv s1 zq=>?_;obtain⟨x,H1,I1,r1,q1⟩:=zq;exact ajU (is_none_gen #[.bl _,H1,I1,by rw[r1.Gq];rfl,q1])
theorem su(ha:PE X a ta):PC X .IsNot a (.Constant .none j pos') (Gn ta):=by intro pins s L H Q I h;refine aC (ha pins s L H _ I h) λv s1 zq=>?_;obtain⟨x,H1,I1,r1,q1⟩:=zq;exact ajU (isnot_none_gen #[.bl _,H1,I1,by rw[r1.Gq];rfl,q1])
def tB(t:TE):TT:=λL H Q=>t L H λx H1=>∃ c,x = .bl c/\Q c H1
theorem qu(h:PC X op a b t)(h1:afr op b=false:=by first|exact Gk _ (by decide) (by decide)|rfl):PE X (.Compare a [op] [b] pos) t:=λpins s L H Q I hw=>wpAny_Compare1 (h pins s L H Q I hw) h1
theorem wA(h:PC X op a b t)(h1:afr op b=false:=by first|exact Gk _ (by decide) (by decide)|rfl):PT X (.Compare a [op] [b] pos) (tB t):=by intro pins s L H Q I hw;refine aiS (aC (h pins s L H _ I hw) λv s1 h1=>aC h1 λu s2 h2=>aC h2 λc s3 zq=>?_) h1;obtain⟨x,H1,I1,r1,q1⟩:=zq;obtain⟨d,rfl,q⟩:=q1;cases r1;exact aed #[H1,I1,q]
theorem OU(h:PE X e t)(he:∀ whole,alZ e X.env whole=(do let v <- whole;alK e.pos;holding [v] (truthy v)):=by intro y;rfl):PT X e (tB t):=by intro pins s L H Q I hw;refine isTrue_plain (aC (h pins s L H _ I hw) λv s1 zq=>?_) (he _);obtain⟨x,H1,I1,r1,q1⟩:=zq;obtain⟨d,rfl,q⟩:=q1;cases r1;exact aed #[H1,I1,q]
variable{tA wB:TT}{rest:List agY}
def Gr(t u:TT):TT:=λL H Q=>t L H λc H1=>if c=true then u L H1 Q else Q false H1
def Gs(t u:TT):TT:=λL H Q=>t L H λc H1=>if c=true then Q true H1 else u L H1 Q
def Gu(t:TT):TT:=λL H Q=>t L H λc H1=>Q (!c) H1
theorem jU(ha:PT X a tA):PW X (.BoolOp .And [a] pos) tA:=by
 intro wh pins s L H Q I h;refine isTrue_and (aC (ha pins s L H Q I h) λc s1 e=>?_);cases c with
 | true=>exact isTrue_and_nil e
 | false=>exact e
theorem fi(ha:PT X a tA):PW X (.BoolOp .Or [a] pos) tA:=by
 intro wh pins s L H Q I h;refine isTrue_or (aC (ha pins s L H Q I h) λc s1 e=>?_);cases c with
 | false=>exact isTrue_or_nil e
 | true=>exact e
theorem jc(ha:PT X a tA)(hb:PW X (.BoolOp .And (b::rest) pos) wB):PW X (.BoolOp .And (a::b::rest) pos) (Gr tA wB):=by
 intro wh pins s L H Q I h;refine isTrue_and (aC (ha pins s L H _ I h) λc s1 zq=>?_);obtain⟨H1,I1,q1⟩:=zq;cases c with
 | true=>exact hb wh pins s1 L H1 Q I1 q1
 | false=>exact#[H1,I1,q1]
theorem dj(ha:PT X a tA)(hb:PW X (.BoolOp .Or (b::rest) pos) wB):PW X (.BoolOp .Or (a::b::rest) pos) (Gs tA wB):=by
 intro wh pins s L H Q I h;refine isTrue_or (aC (ha pins s L H _ I h) λc s1 zq=>?_);obtain⟨H1,I1,q1⟩:=zq;cases c with
 | true=>exact#[H1,I1,q1]
 | false=>exact hb wh pins s1 L H1 Q I1 q1
theorem cu(ha:PT X a tA):PT X (.UnaryOp .Not a pos) (Gu tA):=by intro pins s L H Q I h;exact isTrue_not (ha pins s L H (λc H1=>Q (!c) H1) I h)
def Gv(ta tb:TE):TE:=λL H Q=>ta L H λx H1=>∃ c,x = .bl c/\if c=true then tb L H1 Q else Q (.bl false) H1
def Gw(ta tb:TE):TE:=λL H Q=>ta L H λx H1=>∃ c,x = .bl c/\if c=true then Q (.bl true) H1 else tb L H1 Q
def Gx(ta:TE):TE:=λL H Q=>ta L H λx H1=>∃ c,x = .bl c/\Q (.bl (!c)) H1
theorem gf(h:PE X a t):PE X (.BoolOp op [a] pos) t:=λpins s L H Q I hw=>BoolOp_one (h pins s L H Q I hw)
theorem OV(ha:PE X a ta)(hb:PE X (.BoolOp .And (b::rest) pos) tb):PE X (.BoolOp .And (a::b::rest) pos) (Gv ta tb):=by
 intro pins s L H Q I h;refine BoolOp_and (aC (ha pins s L H _ I h) λv s1 zq=>?_);obtain⟨x,H1,I1,r1,q1⟩:=zq;obtain⟨c,rfl,q1⟩:=q1;cases r1;refine aed ?_;cases c with
 | true=>exact hb pins s1 L H1 Q I1 q1
 | false=>exact#[.bl false,H1,I1,Y,q1]
theorem OW(ha:PE X a ta)(hb:PE X (.BoolOp .Or (b::rest) pos) tb):PE X (.BoolOp .Or (a::b::rest) pos) (Gw ta tb):=by
 intro pins s L H Q I h;refine BoolOp_or (aC (ha pins s L H _ I h) λv s1 zq=>?_);obtain⟨x,H1,I1,r1,q1⟩:=zq;obtain⟨c,rfl,q1⟩:=q1;cases r1;refine aed ?_;cases c with
 | false=>exact hb pins s1 L H1 Q I1 q1
 | true=>exact#[.bl true,H1,I1,Y,q1]
theorem OX(ha:PE X a ta):PE X (.UnaryOp .Not a pos) (Gx ta):=by intro pins s L H Q I h;refine UnaryOp_ (aC (ha pins s L H _ I h) λv s1 zq=>?_);obtain⟨x,H1,I1,r1,q1⟩:=zq;obtain⟨c,rfl,q1⟩:=q1;cases r1;exact not_of (aed #[.bl (!c),H1,I1,Y,q1])
def Gy(t:TT)(ta tb:TE):TE:=λL H Q=>t L H λc H1=>if c=true then ta L H1 Q else tb L H1 Q
theorem gO(hc:PT X c tA)(ha:PE X a ta)(hb:PE X b tb):PE X (.IfExp c a b pos) (Gy tA ta tb):=by
 intro pins s L H Q I h;refine wpAny_IfExp (aC (hc pins s L H _ I h) λd s1 zq=>?_);obtain⟨H1,I1,q1⟩:=zq;cases d with
 | true=>exact ha pins s1 L H1 Q I1 q1
 | false=>exact hb pins s1 L H1 Q I1 q1
end
def ah(K:acM)(H:Hp)(a:ac4)(xs:List V):Prop :=
 Rd H a (.lst xs) ∨
  ∃ (o:Obj) (ai:Array acU) (n:Nat),K.lookup a=O o/\o.cls = .type "list" /\ o.dict=J/\o.data = .seq ai n/\ai.size<=adh/\Vals xs ai.toList
def au(K:acM)(H:Hp)(a:ac4)(xs:List V):Prop :=
 Rd H a (.tup xs) ∨
  ∃ (o:Obj) (ai:Array acU) (n:Nat),K.lookup a=O o/\o.cls = .type "tuple" /\ o.data = .seq ai n/\ai.size<=adh/\Vals xs ai.toList
noncomputable def OY:acU->Option V
 | .none=>O .non
 | .bool b=>O (.bl b)
 | .int i _=>O (.int i)
 | .str x _=>O (.str x)
 | .bytes b _=>O (.byt b)
 | .float b _=>O (.flt b)
 | .ref a=>O (.ref a)
 | .type n=>O (.ty n)
 | _=>J
theorem RelV.abs(r:RelV x u):OY u=O x:=by
 cases x with
 | non=>cases r;rfl
 | bl _=>cases r;rfl
 | int _=>obtain⟨t,rfl⟩:=r;rfl
 | str _=>obtain⟨t,rfl⟩:=r;rfl
 | byt _=>obtain⟨t,rfl⟩:=r;rfl
 | flt _=>obtain⟨t,rfl⟩:=r;rfl
 | ref _=>cases r;rfl
 | ty _=>cases r;rfl
theorem RelV.inj(r:RelV x u)(q:RelV y u):x=y:=Option.some.inj (r.abs.symm.trans q.abs)
theorem Vals.inj:∀ {xs ys:List V} {us:List acU},Vals xs us->Vals ys us->xs=ys:=by
 intro xs ys us h h'
 induction h generalizing ys with
 | nil=>cases h';rfl
 | cons r t ih =>
  cases h' with
  | cons r' t'=>rw[r.inj r',ih t']
section
theorem ah.of{K:acM}(h:H a=O (.lst xs)):ah K H a xs:=.inl (.inl h)
theorem au.of{K:acM}(h:H a=O (.tup xs)):au K H a xs:=.inl (.inl h)
theorem Inv.list(I:Inv X pins L H s)(h:ah X.K H a xs):∃ ai:List acU,Vals xs ai/\PlainL s.heap a ai.toArray/\xs.length<=adh:=by
 rcases h with h|⟨o,ai,n,hk,hc,hd,hs,hz,r⟩
 .obtain⟨z,ai,n,r,e⟩:=h.ok I.ar;exact#[ai,r,#[_,n,e,Y,Y,Y],z]
 .refine#[ai.toList,r,#[o,n,I.cz a o hk,hc,hd,by simpa using hs],?_];have e:=r.length;simp only[adK] at e;omega
theorem Inv.tuple(I:Inv X pins L H s)(h:au X.K H a xs):∃ ai:List acU,Vals xs ai/\IsTup s.heap a ai.toArray/\xs.length<=adh:=by
 rcases h with h|⟨o,ai,n,hk,hc,hs,hz,r⟩
 .obtain⟨z,ai,r,p⟩:=h.ok I.ar;exact#[ai,r,p,z]
 .refine#[ai.toList,r,#[o,I.cz a o hk,hc,n,by simpa using hs],?_];have e:=r.length;simp only[adK] at e;omega
theorem Inv.qv(I:Inv X pins L H s)(h:ah X.K H a xs)(h':ah X.K H a ys):xs=ys:=by
 obtain⟨ai,r,⟨o,n,e,y,y,d⟩,y⟩:=I.list h;obtain⟨its',r',⟨o',n',e',y,y,d'⟩,y⟩:=I.list h';rw[e] at e';cases e';rw[d] at d';injection d' with d1 _;have:ai=its':=by simpa using congrArg akv d1
 subst this;exact r.inj r'
theorem Inv.OZ(I:Inv X pins L H s)(h:au X.K H a xs)(h':au X.K H a ys):xs=ys:=by
 obtain⟨ai,r,⟨o,e,y,n,d⟩,y⟩:=I.tuple h;obtain⟨its',r',⟨o',e',y,n',d'⟩,y⟩:=I.tuple h';rw[e] at e';cases e';rw[d] at d';injection d' with d1 _;have:ai=its':=by simpa using congrArg akv d1
 subst this;exact r.inj r'
end
noncomputable abbrev Cx.jV(X:Cx)(E:acU->ac8->Prop):Cx:={ X with xe:=E }
noncomputable abbrev Cx.qw(X:Cx):Cx:=X.jV λy y=>False
theorem Cx.Ok.jV{X:Cx}(ok:X.Ok)(E:acU->ac8->Prop):(X.jV E).Ok :=
 #[ok.mod,ok.kind,ok.glob,ok.blt,ok.above,ok.inj,ok.has,ok.cab,ok.hd,ok.frames,ok.stk,ok.exf,ok.bs,ok.bsz,ok.noex,ok.exfs,ok.ik,ok.frf]
theorem Cx.Ok.mH{X:Cx}{E:acU->ac8->Prop}(ok:(X.jV E).Ok):X.Ok :=
 #[ok.mod,ok.kind,ok.glob,ok.blt,ok.above,ok.inj,ok.has,ok.cab,ok.hd,ok.frames,ok.stk,ok.exf,ok.bs,ok.bsz,ok.noex,ok.exfs,ok.ik,ok.frf]
section
theorem Inv.jV(I:Inv X pins L H s)(E:acU->ac8->Prop):Inv (X.jV E) pins L H s:=#[I.ok.jV E,I.os,I.bare,I.base,I.loc,I.cell,I.free,I.jb,I.pin,I.ar,I.len]
theorem Inv.mH(I:Inv (X.jV E) pins L H s):Inv X pins L H s:=#[I.ok.mH,I.os,I.bare,I.base,I.loc,I.cell,I.free,I.jb,I.pin,I.ar,I.len]
theorem SP.mH(h:SP (X.jV E) pins D f s'):SP X pins D f s':=by
 cases f with
 | next=>obtain⟨σ',H',I,q⟩:=h;exact#[σ',H',I.mH,q]
 | brk=>obtain⟨σ',H',I,q⟩:=h;exact#[σ',H',I.mH,q]
 | cont=>obtain⟨σ',H',I,q⟩:=h;exact#[σ',H',I.mH,q]
 | ret u=>obtain⟨v,σ',H',I,r,q⟩:=h;exact#[v,σ',H',I.mH,r,q]
theorem aV.qw{st:List aeO}{t:TS}(h:aV X.qw st t):aV X st t:=λpins s L H D I hw =>
 aea (h pins s L H D (I.jV _) hw) (λy y q=>q.mH) λy y z=>afo z
end
section
variable{X:Cx}{st:aeO}{rest:List aeO}{t u:TS}{e:agY}{te:TE}{pos:Pos}
def GA:TS:=λD L H=>D.nx L H
def zK(t u:TS):TS:=λD L H=>t { D with nx:=u D } L H
theorem aI:aV X [] GA:=λy y L H y I h=>aiT #[L,H,I,h]
theorem aq(h1:PS X st t)(h2:aV X rest u):aV X (st::rest) (zK t u):=by
 intro pins s L H D I h;refine akI (aC (h1 pins s L H { D with nx:=u D } I h) λf s1 q=>?_);cases f with
 | next =>
  obtain⟨σ',H',I',q⟩:=q;exact h2 pins s1 σ' H' D I' q
 | ret v=>exact q
 | brk=>exact q
 | cont=>exact q
theorem ak(h1:PS X st t):aV X [st] t:=by
 intro pins s L H D I h;refine akI (aC (h1 pins s L H D I h) λf s1 q=>?_);cases f with
 | next=>exact aiT q
 | ret v=>exact q
 | brk=>exact q
 | cont=>exact q
theorem Inv.quiet(I:Inv X pins L H s):interactive X.env=false:=by simp[interactive,I.ok.kind]
def GB(te:TE):TS:=λD L H=>te L H λy H1=>D.nx L H1
theorem fJ(he:PE X e te)(hs:ahi e J pos.line X.env=pure false:=by rfl):PS X (.Expr e pos) (GB te):=by intro pins s L H D I h;exact wpAny_Expr_any (aC (he pins s L H _ I h) λv s1 ⟨x,H1,I1,r1,q1⟩=>#[L,H1,I1,q1]) I.quiet hs
def GC(te:TE):TS:=λD L H=>te L H D.rt
theorem aA(he:PE X e te):PS X (.Return (O e) pos) (GC te):=by intro pins s L H D I h;exact wpAny_Return_some (aC (he pins s L H _ I h) λv s1 ⟨x,H1,I1,r1,q1⟩=>#[x,L,H1,I1,r1,q1])
def GD(c:TT)(t u:TS):TS:=λD L H=>c L H λb H1=>if b=true then t D L H1 else u D L H1
theorem aE(hc:PT X c tc)(ha:aV X a t)(hb:aV X b u):PS X (.If c a b pos) (GD tc t u):=by
 intro pins s L H D I h;refine wpAny_If (aC (hc pins s L H _ I h) λd s1 zq=>?_);obtain⟨H1,I1,q1⟩:=zq;cases d with
 | true=>exact ha pins s1 L H1 D I1 q1
 | false=>exact hb pins s1 L H1 D I1 q1
def O0:TS:=λy y y=>False
theorem sx:aV X zL O0:=λy y y y y y h=>h.elim
end
abbrev TG:=V->St->Hp->(St->Hp->Prop)->Prop
abbrev sy:=List V->St->Hp->(St->Hp->Prop)->Prop
def PG(X:Cx)(target:agY)(t:TG):Prop :=
 ∀ (pins:List (ac4 × Obj)) (s:ac8) (L:St) (H:Hp) (v:V) (u:acU) (Q:St->Hp->Prop),Inv X pins L H s->RelV v u->t v L H Q ->
  adi (model X.prog X.w) X.A (assign target X.env u) (λy s'=>∃ σ' H',Inv X pins σ' H' s'/\Q σ' H') X.xe s
def wC(X:Cx)(ts:List agY)(t:sy):Prop :=
 ∀ (pins:List (ac4 × Obj)) (s:ac8) (L:St) (H:Hp) (vs:List V) (us:List acU) (Q:St->Hp->Prop),Inv X pins L H s->Vals vs us->t vs L H Q ->
  adi (model X.prog X.w) X.A (assignInOrder ((ah0 ts X.env).map (·.2)) us) (λy s'=>∃ σ' H',Inv X pins σ' H' s'/\Q σ' H') X.xe s
abbrev GF:=V->V->V->Hp->(Hp->Prop)->Prop
def GG(X:Cx)(t:GF):Prop :=
 ∀ (pins:List (ac4 × Obj)) (s:ac8) (L:St) (H:Hp) (o i v:V) (ov iv u:acU) (Q:Hp->Prop),Inv X pins L H s->RelV o ov->RelV i iv->RelV v u->t o i v H Q ->
  adi (model X.prog X.w) X.A (setItem ov iv u) (λy s'=>∃ H',Inv X pins L H' s'/\Q H') X.xe s
section
def bZ(i:Nat):TG:=λv L H Q=>Q (L.set i (O v)) H
theorem gh(hN:X.N.Nodup)(hi:X.N[i]?=O x)(hx:Loc X.env.scope x)(hf:X.fn x=true∨X.env.scope.names.lookup x=O .local:=by first|exact .inl rfl|exact .inr rfl|assumption):PG X (.Name x pos) (bZ i):=by intro pins s L H v u Q I r h;exact wpAny_assign_Name (Gj I hN hi hx r (λs' I'=>#[_,H,I',h]) hf)
def iO:sy:=λvs L H Q=>vs=[]/\Q L H
def cJ(t:TG)(u:sy):sy:=λvs L H Q=>∃ v r,vs=v::r/\t v L H λσ' H'=>u r σ' H' Q
theorem jd:wC X [] iO:=by intro pins s L H vs us Q I r h;obtain⟨e,h⟩:=h;subst e;cases r;exact assignInOrder_nil #[L,H,I,h]
theorem da(h1:PG X e t)(h2:wC X es u)(hs:(ah0 (e::es) X.env).map (·.2)=assign e X.env::(ah0 es X.env).map (·.2):=by rfl):wC X (e::es) (cJ t u):=by
 intro pins s L H vs us Q I r h;obtain⟨v,vr,e1,h⟩:=h;subst e1;cases r with
 | cons r rr =>
  rw[hs];refine assignInOrder_cons (aC (h1 pins s L H _ _ _ I r h) λy s1 zq=>?_);obtain⟨σ1,H1,I1,q1⟩:=zq;exact h2 pins s1 σ1 H1 _ _ Q I1 rr q1
def je(K:acM)(n:Nat)(t:sy):TG:=λv L H Q=>∃ a xs,v = .ref a/\au K H a xs/\xs.length=n/\t xs L H Q
theorem jf(hc:X.calm=true)(h:wC X es t)(hn:(ah0 es X.env).length=n:=by rfl)(de:(ah0 es X.env).findIdx? (·.1)=J:=by rfl):PG X (.Tuple es k pos) (je X.K n t):=by intro pins s L H v u Q I r hw;obtain⟨a,xs,e1,hq,hl,hw⟩:=hw;subst e1;cases r;obtain⟨ai,rv,ht,hz⟩:=I.tuple hq;refine assign_Tuple_tuple (I.ok.hd hc) ht (by simp[hn,<- hl,rv.length]) de λh' hx=>?_;have I1:Inv X pins L H { s with heap:=h' }:=I.kept (t':=s.toks) λb o e=>hx b o (adk (acT e)) e;exact h pins _ L H xs _ Q I1 (by simpa using rv) hw
def GH(to ti:TE)(t:GF):TG:=λv L H Q=>to L H λo H1=>ti L H1 λi H2=>t o i v H2 λH3=>Q L H3
theorem sA(ho:PE X o to)(hi:PE X i ti)(hs:GG X t)(ha:∀ v,assign (.Subscript o i pos) X.env v=(do
 let ov <- holding [v] (eval o X.env)
 let iv <- holding [v,ov] (eval i X.env)
 alK pos
 holding [v,ov,iv] (setItem ov iv v)
 release [v,ov,iv] []):=by intro z;rfl):PG X (.Subscript o i pos) (GH to ti t):=by
 intro pins s L H v u Q I r h;rw[ha];refine acK (aeq (aC (ho pins s L H _ I h) λov s1 zq=>?_));obtain⟨x,H1,I1,r1,q1⟩:=zq;refine acK (aeq (aC (hi pins s1 L H1 _ I1 q1) λiv s2 zq=>?_));obtain⟨y,H2,I2,r2,q2⟩:=zq;refine acK (ajV (acK (aeq (aC (hs pins s2 L H2 x y v ov iv u _ I2 r1 r2 r q2) λz s3 zq=>?_))));obtain⟨H3,I3,q3⟩:=zq;exact wpAny_release #[L,H3,I3,q3]
def wD(te:TE)(g:TG):TS:=λD L H=>te L H λx H1=>g x L H1 D.nx
theorem sC(he:PE X e te)(hg:PG X tg g)(hs:swapsWithSole [tg] e pos.line X.env=pure false:=by rfl)(hw:swappedStores [tg] e X.env=pure J:=by rfl)(h1:(ah0 [tg] X.env).map (·.2)=[assign tg X.env]:=by rfl):PS X (.Assign [tg] e pos) (wD te g):=by intro pins s L H D I h;refine wpAny_Assign_stores (aC (he pins s L H _ I h) λv s1 zq=>?_) hs hw;obtain⟨x,H1,I1,r1,q1⟩:=zq;rw[h1];exact aC (hg pins s1 L H1 x v _ I1 r1 q1) λy s2 q=>q
theorem kY(hN:X.N.Nodup)(hi:X.N[i]?=O x)(hx:Loc X.env.scope x)(he:PE X e te)(hs:ahi e (O (.Name x pos')) pos.line X.env=pure false:=by rfl)(hf:X.fn x=true∨X.env.scope.names.lookup x=O .local:=by first|exact .inl rfl|exact .inr rfl|assumption) :
 PS X (.Assign [.Name x pos'] e pos) (wD te (bZ i)):=by
 intro pins s L H D I h;refine wpAny_Assign_Name (aC (he pins s L H _ I h) λv s1 zq=>?_) hs;obtain⟨y,H1,I1,r1,q1⟩:=zq;exact Gj I1 hN hi hx r1 (λs2 I2=>#[_,H1,I2,q1]) hf
end
structure It where
 go:Nat->Hp->Prop
 yld:Nat->Hp->V->Hp->Prop
 stop:Nat->Hp->Prop
def dA(X:Cx)(pins:List (ac4 × Obj))(H:Hp)(b:ac4):Prop :=
 H b=J/\b≠X.env.locals/\b∉X.fs/\(b∈X.ex∨X.s₀.heap.objs.size<=b)/\(∀ x c,X.env.cells.lookup x=O c->c≠b)/\∀ p∈X.pn++pins,p.1≠b
theorem Inv.fK(I:Inv X pins L H s)(hb:s.heap.objs.size<=b)(hn:H' b=J):dA X pins H' b:=by
 refine#[hn,ad5 (adm I.lt hb),I.Gf hb,.inr (acR I.sz hb),λx c e z=>?_,λp hp z=>?_]
 .obtain⟨v,q⟩:=I.cell x c e;exact absurd (adm q.lt (by rw[z];exact hb)) (aex _)
 .exact absurd (adm (acT (I.pin p hp).1) (by rw[z];exact hb)) (aex _)
structure Turn(P:adP)(w:aes)(K:acM)(tg:agY)(J9q:It)(fp:List ac4)(it:ac4)(tn:Nat->ae7->Prop):Prop where
 mem:it∈fp
 obj:∀ i h,tn i h->∀ b∈fp,∃ o,h.get? b=O o/\∀ v,o.data ≠ .cell v
 keep:∀ i h h',tn i h->(∀ b∈fp,∀ o,h.get? b=O o->h'.get? b=O o)->tn i h'
 item:∀ (X:Cx),X.prog=P->X.w=w->X.K=K->X.calm=true->∀ (i:Nat) (pins:List (ac4 × Obj)) (s:ac8) (L:St) (H:Hp) (E:acU->ac8->Prop),Inv X pins L H s->(∀ b∈fp,dA X pins H b)->tn i s.heap->J9q.go i H ->
  adi (model P w) X.A (afT (.ref it)) (λr s1=>∃ u,r=O u /\
   adi (model P w) X.A (agu tg (.ref it) u) (λ_ s2=>∃ x H',Inv X pins L H' s2/\RelV x u/\J9q.yld i H x H'/\tn (i+1) s2.heap/\∀ b∈fp,H' b=J) E s1) E s
 done:∀ (X:Cx),X.prog=P->X.w=w->X.K=K->X.calm=true->∀ (i:Nat) (pins:List (ac4 × Obj)) (s:ac8) (L:St) (H:Hp) (E:acU->ac8->Prop),Inv X pins L H s->(∀ b∈fp,dA X pins H b)->tn i s.heap->J9q.stop i H ->
  adi (model P w) X.A (afT (.ref it)) (λr s1=>r=J/\Inv X pins L H s1) E s
 self:∀ (A:ae2) (i:Nat) (s:ac8) (Q:acU->ac8->Prop) (E:acU->ac8->Prop),tn i s.heap->Q (.ref it) s->adi (model P w) A (alA (.ref it)) Q E s
abbrev TI:=St->Hp->(It->Hp->Prop)->Prop
def zM(X:Cx)(pins:List (ac4 × Obj))(L:St)(tg:agY)(R:It->Hp->Prop)(wF:acU)(s2:ac8):Prop :=
 ∃ (it:ac4) (fp:List ac4) (tn:Nat->ae7->Prop) (J9q:It) (H':Hp),wF = .ref it/\Inv X pins L H' s2/\Turn X.prog X.w X.K tg J9q fp it tn/\tn 0 s2.heap/\(∀ b∈fp,dA X pins H' b)/\R J9q H'
def PI(X:Cx)(tg iter:agY)(wi:TI):Prop :=
 ∀ (pins:List (ac4 × Obj)) (s:ac8) (L:St) (H:Hp) (R:It->Hp->Prop),Inv X pins L H s->wi L H R ->
  adi (model X.prog X.w) X.A (eval iter X.env) (λv s1=>adi (model X.prog X.w) X.A (alA v) (zM X pins L tg R) X.xe s1) X.xe s
theorem oo(ho:s.heap.get? it=O o)(hc:o.cls = .type n)(hd:o.data = .fields vs)(hn:["enumerate","zip","dict_itemiterator","dict_reverseitemiterator","odict_iterator","itertools.zip_longest","itertools.pairwise"].contains n=false)(hQ:Q () s):adi M A (agu tg (.ref it) u) Q E s:=by
 unfold agu;cases tg<;>first
  | exact acQ hQ
  | (cases u<;>first
      | exact acQ hQ
      | (refine acK (wpAny_load ho ?_)
         rw[hc,hd];show adi M A (if (["enumerate","zip","dict_itemiterator","dict_reverseitemiterator","odict_iterator","itertools.zip_longest","itertools.pairwise"].contains n && vs[0]? == O (agc _))=true then _ else _) Q E s;rw[if_neg (by intro h;rw[hn,ajA] at h;cases h)];exact acQ hQ))
noncomputable def jW(K:acM)(a:ac4):It :=
 #[λi H=>∃ xs x,ah K H a xs/\xs[i]?=O x,λi H x H'=>H'=H/\∀ xs,ah K H a xs->xs[i]?=O x,λi H=>∃ xs,ah K H a xs/\xs.length<=i]
noncomputable def kZ(K:acM)(a:ac4):It :=
 #[λi H=>∃ xs x,au K H a xs/\xs[i]?=O x,λi H x H'=>H'=H/\∀ xs,au K H a xs->xs[i]?=O x,λi H=>∃ xs,au K H a xs/\xs.length<=i]
noncomputable def gj(lo:Int)(n:Nat):It:=#[λi y=>i<n,λi H x H'=>H'=H/\x = .int (lo+i),λi y=>n<=i]
theorem O2{P:adP}{w:aes}{K:acM}{tg:agY}(a it:ac4):Turn P w K tg (jW K a) [it] it (λi h=>h.IsListIter it a i) where
 mem:=by simp
 obj:=λi h st b hb=>by
  have e:b=it:=by simpa using hb
  subst e;obtain⟨o,e,c,d⟩:=st;exact#[o,e,λv z=>by rw[d] at z;cases z]
 keep:=λi h h' st k=>st.at λo e=>k it (by simp) o e
 item:=by intro X hP hw hK hc i pins s L H E I hf st hg;subst hP hw hK;obtain⟨xs,x,hq,hx⟩:=hg;obtain⟨ai,rv,p,hz⟩:=I.list hq;obtain⟨u,hu,ru⟩:=rv.get hx;obtain⟨f0,f1,f2,f3,f4,f5⟩:=hf it (by simp);refine wpAny_pyNext_list_item st p.isList (x:=u) (by simpa using hu) λh' bS sb=>?_;have I1:Inv X pins L H { s with heap:=h' }:=I.turned (t':=s.toks) (λb o hb e=>(sb.2 b hb).trans e) f0 f1 f3 f4 f5;obtain⟨o,e,c,d⟩:=id bS;exact#[u,Y,oo (s:={ s with heap:=h' }) e c d (by decide) #[x,H,I1,ru,#[Y,λys hy=>by rw[I.qv hy hq];exact hx],bS,λb hb=>(hf b hb).1]]
 done:=by
  intro X hP hw hK hc i pins s L H E I hf st hg;subst hP hw hK;obtain⟨xs,hq,hx⟩:=hg;obtain⟨ai,rv,p,hz⟩:=I.list hq;obtain⟨f0,f1,f2,f3,f4,f5⟩:=hf it (by simp);have hl:=rv.length;exact wpAny_pyNext_list_end (I.ok.hd hc) st p.isList (by simp;omega) λh' eb=>#[Y,I.turned (t':=s.toks) (λb o hb e=>eb b o hb e) f0 f1 f3 f4 f5]
 self:=λy y y y y st h=>wpAny_pyIter_listiter st h
theorem O3{P:adP}{w:aes}{K:acM}{tg:agY}(a it:ac4):Turn P w K tg (kZ K a) [it] it (λi h=>h.IsTupleIter it a i) where
 mem:=by simp
 obj:=λi h st b hb=>by
  have e:b=it:=by simpa using hb
  subst e;obtain⟨o,e,c,d⟩:=st;exact#[o,e,λv z=>by rw[d] at z;cases z]
 keep:=λi h h' st k=>st.at λo e=>k it (by simp) o e
 item:=by intro X hP hw hK hc i pins s L H E I hf st hg;subst hP hw hK;obtain⟨xs,x,hq,hx⟩:=hg;obtain⟨ai,rv,p,hz⟩:=I.tuple hq;obtain⟨u,hu,ru⟩:=rv.get hx;obtain⟨f0,f1,f2,f3,f4,f5⟩:=hf it (by simp);refine wpAny_pyNext_tuple_item st (show s.heap.IsTuple a ai.toArray from p) (x:=u) (by simpa using hu) λh' bS sb=>?_;have I1:Inv X pins L H { s with heap:=h' }:=I.turned (t':=s.toks) (λb o hb e=>(sb.2 b hb).trans e) f0 f1 f3 f4 f5;obtain⟨o,e,c,d⟩:=id bS;exact#[u,Y,oo (s:={ s with heap:=h' }) e c d (by decide) #[x,H,I1,ru,#[Y,λys hy=>by rw[I.OZ hy hq];exact hx],bS,λb hb=>(hf b hb).1]]
 done:=by
  intro X hP hw hK hc i pins s L H E I hf st hg;subst hP hw hK;obtain⟨xs,hq,hx⟩:=hg;obtain⟨ai,rv,p,hz⟩:=I.tuple hq;obtain⟨f0,f1,f2,f3,f4,f5⟩:=hf it (by simp);have hl:=rv.length;exact wpAny_pyNext_tuple_end (I.ok.hd hc) st (show s.heap.IsTuple a ai.toArray from p) (by simp;omega) λh' eb=>#[Y,I.turned (t':=s.toks) (λb o hb e=>eb b o hb e) f0 f1 f3 f4 f5]
 self:=λy y y y y st h=>wpAny_pyIter_tupleiter st h
theorem GI{P:adP}{w:aes}{K:acM}{tg:agY}(it:ac4)(lo:Int)(n:Nat):Turn P w K tg (gj lo n) [it] it (λi h=>aih h it (lo+(i:Nat) * 1) ((n:Int)-(i:Nat)) 1) where
 mem:=by simp
 obj:=λi h st b hb=>by
  have e:b=it:=by simpa using hb
  subst e;exact#[_,st,λv z=>by
   have z':ahj _=agv v:=z;cases z']
 keep:=λi h h' st k=>k it (by simp) _ st
 item:=by intro X hP hw hK hc i pins s L H E I hf st hg;subst hP hw hK;obtain⟨f0,f1,f2,f3,f4,f5⟩:=hf it (by simp);have W:=Walks.range (prog:=X.prog) (w:=X.w) (I.ok.hd hc) it lo 1 n;refine W.item i s _ _ hg st λv h' tk hv bS kk=>?_;obtain⟨t,rfl⟩:=hv;have I1:Inv X pins L H { s with heap:=h',toks:=tk }:=I.turned (λb o hb e=>kk b o (by simpa using hb) e) f0 f1 f3 f4 f5;refine#[_,Y,oo (s:={ s with heap:=h',toks:=tk }) (n := "range_iterator") bS Y Y (by decide) #[.int (lo+i),H,I1,#[t,?_],#[Y,Y],bS,λb hb=>(hf b hb).1]];rw[ama]
 done:=by
  intro X hP hw hK hc i pins s L H E I hf st hg;subst hP hw hK;obtain⟨f0,f1,f2,f3,f4,f5⟩:=hf it (by simp);exact aiB (I.ok.hd hc) st (by have:n<=i:=hg;omega) λh' eb=>#[Y,I.turned (t':=s.toks) (λb o hb e=>eb b o hb e) f0 f1 f3 f4 f5]
 self:=λy y y y y st h=>aiC st h
section
def zN(K:acM)(tl:TE):TI:=λL H R=>tl L H λx H1=>∃ a,x = .ref a/\(∃ xs,ah K H1 a xs)/\R (jW K a) H1
def zO(K:acM)(tl:TE):TI:=λL H R=>tl L H λx H1=>∃ a,x = .ref a/\(∃ xs,au K H1 a xs)/\R (kZ K a) H1
theorem cT(hl:PE X l tl):PI X tg l (zN X.K tl):=by
 intro pins s L H R I h;refine aC (hl pins s L H _ I h) λv s1 zq=>?_;obtain⟨x,H1,I1,r1,q1⟩:=zq;obtain⟨a,e,⟨xs,hq⟩,q⟩:=q1;subst e;cases r1;obtain⟨ai,rv,p,hz⟩:=I1.list hq;refine af3 p.isList ?_;refine#[s1.heap.objs.size,[s1.heap.objs.size],_,_,H1,Y,I1.kept (t':=s1.toks) λb o e=>acL _ e,O2 a _,#[_,acV _ Y,Y,Y],λb hb=>?_,q];have e:b=s1.heap.objs.size:=by simpa using hb
 subst e;exact I1.fK (acS _) (I1.ar.fresh (acS _))
theorem qx(hl:PE X l tl):PI X tg l (zO X.K tl):=by
 intro pins s L H R I h;refine aC (hl pins s L H _ I h) λv s1 zq=>?_;obtain⟨x,H1,I1,r1,q1⟩:=zq;obtain⟨a,e,⟨xs,hq⟩,q⟩:=q1;subst e;cases r1;obtain⟨ai,rv,p,hz⟩:=I1.tuple hq;refine ajW (show s1.heap.IsTuple a ai.toArray from p) ?_;refine#[s1.heap.objs.size,[s1.heap.objs.size],_,_,H1,Y,I1.kept (t':=s1.toks) λb o e=>acL _ e,O3 a _,#[_,acV _ Y,Y,Y],λb hb=>?_,q];have e:b=s1.heap.objs.size:=by simpa using hb
 subst e;exact I1.fK (acS _) (I1.ar.fresh (acS _))
theorem O4{pins:List (ac4 × Obj)}{L:St}{H:Hp}{s:ac8}{R:It->Hp->Prop}{E:acU->ac8->Prop}{lo hi:Int}{t u v:Tok}{tk:Nat}(I:Inv X pins L H s)(h1 : -(2 ^ 62)<=lo)(h2:lo<2 ^ 62)(h3 : -(2 ^ 62)<=hi)(h4:hi<2 ^ 62)
 (q:R (gj lo (hi-lo).toNat) H):adi (model X.prog X.w) X.A (alA (.ref s.heap.objs.size)) (zM X pins L tg R) E { s with heap:=s.heap.push { cls:=.type "range",data:=.fields (List.toArray [.int lo t,.int hi u,.int 1 v]) },toks:=tk }:=by
 refine ahF (IsRange.new ..) (small_one h1 h2 h3 h4) ?_;have I1:Inv X pins L H { s with heap:=s.heap.push { cls:=.type "range",data:=.fields (List.toArray [.int lo t,.int hi u,.int 1 v]) },toks:=tk }:=I.kept λb o e=>acL _ e;refine#[(s.heap.push { cls:=.type "range",data:=.fields (List.toArray [.int lo t,.int hi u,.int 1 v]) }).objs.size,[(s.heap.push { cls:=.type "range",data:=.fields (List.toArray [.int lo t,.int hi u,.int 1 v]) }).objs.size],_,_,H,Y,
  I1.kept (t':=tk) λb o e=>acL _ e,GI _ lo (hi-lo).toNat,?_,λb hb=>?_,q]
 .have e1:lo+((0:Nat):Int) * 1=lo:=by simp
  have e2:(((hi-lo).toNat:Nat):Int)-((0:Nat):Int)=adX lo hi 1:=by rw[rangeSize_one];split<;>omega
  show aih _ _ (lo+((0:Nat):Int) * 1) ((((hi-lo).toNat:Nat):Int)-((0:Nat):Int)) 1;rw[e1,e2];exact acV _ rfl
 .have e:b=(s.heap.push { cls:=.type "range",data:=.fields (List.toArray [.int lo t,.int hi u,.int 1 v]) }).objs.size:=by simpa using hb
  subst e;exact I1.fK (acS _) (I1.ar.fresh (acS _))
def zP(ta:TA):TI:=λL H R=>ta L H λvs H1=>∃ j:Int,vs=[.int j]/\-(2 ^ 62)<=j/\j<2 ^ 62/\R (gj 0 j.toNat) H1
def GJ(ta:TA):TI:=λL H R=>ta L H λvs H1=>∃ i j:Int,vs=[.int i,.int j]/\(-(2 ^ 62)<=i/\i<2 ^ 62/\-(2 ^ 62)<=j/\j<2 ^ 62)/\R (gj i (j-i).toNat) H1
theorem fL(hg:Gl X "range")(hm:X.mg "range" = J)(ha:PA X [a] ta)(hs:adp [a] X.env=[(false,eval a X.env)]:=by rfl):PI X tg (.Call (.Name "range" p) [a] [] pos) (zP ta):=by
 intro pins s L H R I h;refine al0 (fI I hg hm alB (adD (aC (ha pos pins s L H _ I h) λus s1 zq=>?_) hs Y));obtain⟨vs,H1,I1,r1,q1⟩:=zq;obtain⟨j,e,q1,q2,q⟩:=q1;subst e;cases r1 with
 | cons r rr =>
  cases rr;obtain⟨t,rfl⟩:=r;exact call_range_1 (O4 I1 (by omega) (by omega) q1 q2 (by simpa using q))
def iP(wi:TI)(g:TG)(tb:TS):TS:=λD L H=>wi L H λJ9q H1=>∃ W:Nat->Nat->St->Hp->Prop,(∃ m,W 0 m L H1)/\∀ i m L H,W i m L H ->
 (J9q.stop i H/\D.nx L H)∨(J9q.go i H/\∃ N:St->Hp->Prop,(∀ σ' H',N σ' H'->∃ m',m'<m/\W (i+1) m' σ' H')/\∀ x H',J9q.yld i H x H'->g x L H' λσ2 H2=>tb { D with nx:=N,ct:=N,bk:=D.nx } σ2 H2)
noncomputable def sD(fp:List ac4)(h:ae7):List (ac4 × Obj):=fp.filterMap λb=>(h.get? b).map λo=>(b,o)
theorem wG(hb:b∈fp)(e:h.get? b=O o):(b,o)∈sD fp h:=ae3.mpr #[b,hb,by rw[e];rfl]
theorem O5(hp:p∈sD fp h):p.1∈fp/\h.get? p.1=O p.2:=by
 obtain⟨b,hb,e⟩:=ae3.mp hp;cases q:h.get? b with
 | none=>rw[q] at e;cases e
 | some o =>
  rw[q] at e;have e':(b,o)=p:=Option.some.inj e;subst e';exact#[hb,q]
theorem Inv.pinned(I:Inv X pins L H s)(hf:∀ b∈fp,dA X pins H b)(ho:∀ b∈fp,∃ o,s.heap.get? b=O o/\∀ v,o.data ≠ .cell v):Inv X (pins++sD fp s.heap) L H s :=
 I.oj λp hp=>(adf.mp hp).elim (λz=>I.pin p (ac6 _ z)) λz=>by obtain⟨hb,e⟩:=O5 z;obtain⟨f0,f1,f2,y⟩:=hf p.1 hb;obtain⟨o,e',d⟩:=ho p.1 hb;rw[e] at e';cases e';exact#[e,f0,f1,f2,d]
theorem Inv.oq(I:Inv X (pins++pl) L H s):Inv X pins L H s:=I.oj λp hp=>I.pin p (ac6 _ (adH _ hp))
theorem cU(hp:PassesOwn (model X.prog X.w) X.A X.env X.xe)(hc:X.calm=true)(hi:PI X tg iter wi)(hg:PG X tg g)(hb:aV X body tb)(hs:∀ x,afA iter X.env x=pure x:=by intro _;rfl):PS X (.For tg iter body [] pos) (iP wi g tb):=by
 intro pins s L H D I h;refine wpAny_For (aC (hi pins s L H _ I h) λv s1 h1=>aC h1 λwF s2 h2=>?_) hs;obtain⟨it,fp,tn,J9q,H2,e,I2,T,iq,f2,W,⟨m0,w0⟩,turn⟩:=h2;subst e;have zQ:∀ {H':Hp},(∀ b∈fp,H' b=J)->∀ b∈fp,dA X pins H' b:=λhn b hb=>#[hn b hb,(f2 b hb).2]
 refine codeAny_forLoop_any (λn s'=>∃ i σ' H',Inv X pins σ' H' s'/\tn i s'.heap/\(∀ b∈fp,H' b=J)/\W i n σ' H') ?_ m0 #[0,L,H2,I2,iq,λb hb=>(f2 b hb).1,w0];rintro n s3 ⟨i,σ3,H3,I3,sE,sF,w3⟩;rcases turn i n σ3 H3 w3 with ⟨stop,qn⟩|⟨go,N,hN,step⟩
 .refine agw hp (aC (T.done X Y Y Y hc i pins s3 σ3 H3 X.xe I3 (zQ sF) sE stop) λr s4 zq=>?_);obtain⟨hr,I4⟩:=zq;subst hr;exact aiT #[σ3,H3,I4,qn]
 .refine agw hp (aC (T.item X Y Y Y hc i pins s3 σ3 H3 X.xe I3 (zQ sF) sE go) λr s4 zq=>?_);obtain⟨u,hr,h4⟩:=zq;subst hr;refine agw hp (aC h4 λ_ s5 zq=>?_);obtain⟨x,H5,I5,r5,y5,ot,zR⟩:=zq;have zS:=I5.pinned (zQ zR) (T.obj _ _ ot);refine agw hp (aC (hg _ s5 σ3 H5 x u _ zS r5 (step x H5 y5)) λ_ s6 zq=>?_);obtain⟨σ6,H6,I6,q6⟩:=zq;refine agw hp (aC (hb _ s6 σ6 H6 _ I6 q6) λf s7 q7=>?_);have again:∀ {σ7:St} {H7:Hp},Inv X (pins++sD fp s5.heap) σ7 H7 s7->N σ7 H7->∃ m,m<n/\∃ i σ' H',Inv X pins σ' H' s7/\tn i s7.heap/\(∀ b∈fp,H' b=J)/\W i m σ' H':=λ{σ7 H7} I7 n7=>by obtain⟨m',hm,w7⟩:=hN σ7 H7 n7;refine#[m',hm,i+1,σ7,H7,I7.oq,T.keep _ _ _ ot λb hb o e=>(I7.pin (b,o) (ac6 _ (ac6 _ (wG hb e)))).1,λb hb=>?_,w7];obtain⟨o,e,d⟩:=T.obj _ _ ot b hb;exact (I7.pin (b,o) (ac6 _ (ac6 _ (wG hb e)))).2.1
  cases f with
  | next=>obtain⟨σ7,H7,I7,n7⟩:=q7;exact again I7 n7
  | cont=>obtain⟨σ7,H7,I7,n7⟩:=q7;exact again I7 n7
  | brk=>obtain⟨σ7,H7,I7,q7⟩:=q7;exact#[σ7,H7,I7.oq,q7]
  | ret v=>obtain⟨x7,σ7,H7,I7,r7,q7⟩:=q7;exact#[x7,σ7,H7,I7.oq,r7,q7]
end
theorem O6{K:acM}{a:ac4}{xs:List V}{g:TG}{tb:TS}{D:Ends}{L:St}{H:Hp}(Pv:Nat->St->Hp->Prop)(h0:Pv 0 L H)(hl:∀ i L H,i<=xs.length->Pv i L H->ah K H a xs)
 (hs:∀ i x L H,xs[i]?=O x->Pv i L H->g x L H λσ2 H2=>tb { D with nx:=Pv (i+1),ct:=Pv (i+1),bk:=D.nx } σ2 H2) (hd:∀ L H,Pv xs.length L H->D.nx L H) :
 ∃ W:Nat->Nat->St->Hp->Prop,(∃ m,W 0 m L H)/\∀ i m L H,W i m L H ->
  ((jW K a).stop i H/\D.nx L H)∨((jW K a).go i H/\∃ N:St->Hp->Prop,(∀ σ' H',N σ' H'->∃ m',m'<m/\W (i+1) m' σ' H')/\∀ x H',(jW K a).yld i H x H'->g x L H' λσ2 H2=>tb { D with nx:=N,ct:=N,bk:=D.nx } σ2 H2):=by
 refine#[λi m L H=>m=xs.length-i/\i<=xs.length/\Pv i L H,#[xs.length,by simp,adt _,h0],?_];rintro i m L H ⟨rfl,hi,p⟩;have q:=hl i L H hi p;by_cases aW:i<xs.length
 .refine .inr #[#[xs,xs[i],q,by simp[aW]],Pv (i+1),λσ' H' p'=>#[xs.length-(i+1),by omega,Y,aW,p'],λx H' y=>?_];obtain⟨e,y⟩:=y;subst e;exact hs i x L _ (y xs q) p
 .have e:i=xs.length:=by omega
  subst e;exact .inl #[#[xs,q,acS _],hd L H p]
theorem O7{K:acM}{a:ac4}{xs:List V}{g:TG}{tb:TS}{D:Ends}{L:St}{H:Hp}(Pv:Nat->St->Hp->Prop)(h0:Pv 0 L H)(hl:∀ i L H,i<=xs.length->Pv i L H->au K H a xs)
 (hs:∀ i x L H,xs[i]?=O x->Pv i L H->g x L H λσ2 H2=>tb { D with nx:=Pv (i+1),ct:=Pv (i+1),bk:=D.nx } σ2 H2) (hd:∀ L H,Pv xs.length L H->D.nx L H) :
 ∃ W:Nat->Nat->St->Hp->Prop,(∃ m,W 0 m L H)/\∀ i m L H,W i m L H ->
  ((kZ K a).stop i H/\D.nx L H)∨((kZ K a).go i H/\∃ N:St->Hp->Prop,(∀ σ' H',N σ' H'->∃ m',m'<m/\W (i+1) m' σ' H')/\∀ x H',(kZ K a).yld i H x H'->g x L H' λσ2 H2=>tb { D with nx:=N,ct:=N,bk:=D.nx } σ2 H2):=by
 refine#[λi m L H=>m=xs.length-i/\i<=xs.length/\Pv i L H,#[xs.length,by simp,adt _,h0],?_];rintro i m L H ⟨rfl,hi,p⟩;have q:=hl i L H hi p;by_cases aW:i<xs.length
 .refine .inr #[#[xs,xs[i],q,by simp[aW]],Pv (i+1),λσ' H' p'=>#[xs.length-(i+1),by omega,Y,aW,p'],λx H' y=>?_];obtain⟨e,y⟩:=y;subst e;exact hs i x L _ (y xs q) p
 .have e:i=xs.length:=by omega
  subst e;exact .inl #[#[xs,q,acS _],hd L H p]
theorem O8{lo:Int}{n:Nat}{g:TG}{tb:TS}{D:Ends}{L:St}{H:Hp}(Pv:Nat->St->Hp->Prop)(h0:Pv 0 L H)
 (hs:∀ i L H,i<n->Pv i L H->g (.int (lo+i)) L H λσ2 H2=>tb { D with nx:=Pv (i+1),ct:=Pv (i+1),bk:=D.nx } σ2 H2) (hd:∀ L H,Pv n L H->D.nx L H) :
 ∃ W:Nat->Nat->St->Hp->Prop,(∃ m,W 0 m L H)/\∀ i m L H,W i m L H ->
  ((gj lo n).stop i H/\D.nx L H)∨((gj lo n).go i H/\∃ N:St->Hp->Prop,(∀ σ' H',N σ' H'->∃ m',m'<m/\W (i+1) m' σ' H')/\∀ x H',(gj lo n).yld i H x H'->g x L H' λσ2 H2=>tb { D with nx:=N,ct:=N,bk:=D.nx } σ2 H2):=by
 refine#[λi m L H=>m=n-i/\i<=n/\Pv i L H,#[n,by simp,adt _,h0],?_];rintro i m L H ⟨rfl,hi,p⟩;by_cases aW:i<n
 .refine .inr #[aW,Pv (i+1),λσ' H' p'=>#[n-(i+1),by omega,Y,aW,p'],λx H' y=>?_];obtain⟨e,y⟩:=y;subst e y;exact hs i L _ aW p
 .have e:i=n:=by omega
  subst e;exact .inl #[acS _,hd L H p]
abbrev R2:=V->V->Hp->VK->Prop
def bz(X:Cx)(f:acU->acU->Sem acU)(r:R2):Prop :=
 ∀ (pins:List (ac4 × Obj)) (s:ac8) (L:St) (H:Hp) (x y:V) (v u:acU) (Q:VK),Inv X pins L H s->RelV x v->RelV y u->r x y H Q ->
  adi (model X.prog X.w) X.A (f v u) (EP X pins L Q) X.xe s
def qy(X:Cx)(f:acU->Sem acU)(r:V->Hp->VK->Prop):Prop :=
 ∀ (pins:List (ac4 × Obj)) (s:ac8) (L:St) (H:Hp) (x:V) (v:acU) (Q:VK),Inv X pins L H s->RelV x v->r x H Q ->
  adi (model X.prog X.w) X.A (f v) (EP X pins L Q) X.xe s
def fj(X:Cx)(f:acU)(r:List V->Hp->VK->Prop):Prop :=
 ∀ (pins:List (ac4 × Obj)) (s:ac8) (L:St) (H:Hp) (xs:List V) (us:List acU) (Q:VK),Inv X pins L H s->Vals xs us->r xs H Q ->
  adi (model X.prog X.w) X.A (call f us) (EP X pins L Q) X.xe s
def ou(r:R2)(ta tb:TE):TE:=λL H Q=>ta L H λx H1=>tb L H1 λy H2=>r x y H2 Q
def GK(r:V->Hp->VK->Prop)(ta:TE):TE:=λL H Q=>ta L H λx H1=>r x H1 Q
def rI(C:Int->Int->Prop)(g:Int->Int->V):R2:=λx y H Q=>∃ i j,x = .int i/\y = .int j/\C i j/\Q (g i j) H
def ir(g:Int->Int->V):R2:=λx y H Q=>∃ i j,x = .int i/\y = .int j/\Q (g i j) H
def rU(g:Int->V):V->Hp->VK->Prop:=λx H Q=>∃ i,x = .int i/\Q (g i) H
section
theorem zT(ha:PE X a ta)(hb:PE X b tb){pins:List (ac4 × Obj)}{s:ac8}{L:St}{H:Hp}{R:V->V->Hp->Prop}(I:Inv X pins L H s)
 (h:ta L H λx H1=>tb L H1 λy H2=>R x y H2) {Q:acU->ac8->Prop} {f:acU->acU->Sem acU}
 (hf:∀ v u s2 x y H2,Inv X pins L H2 s2->RelV x v->RelV y u->R x y H2->adi (model X.prog X.w) X.A (f v u) Q X.xe s2) :
 adi (model X.prog X.w) X.A (eval a X.env) (λv s₁=>adi (model X.prog X.w) X.A (eval b X.env) (λu s₂=>adi (model X.prog X.w) X.A (f v u) Q X.xe s₂) X.xe s₁) X.xe s:=by
 refine aC (ha pins s L H _ I h) λv s1 zq=>?_;obtain⟨x,H1,I1,r1,q1⟩:=zq;refine aC (hb pins s1 L H1 _ I1 q1) λu s2 zq=>?_;obtain⟨y,H2,I2,r2,q2⟩:=zq;exact hf v u s2 x y H2 I2 r1 r2 q2
theorem az(ho:bz X (af4 op) r)(ha:PE X a ta)(hb:PE X b tb):PE X (.BinOp a op b pos) (ou r ta tb):=by intro pins s L H Q I h;exact wpAny_BinOp (zT ha hb I h λv u s2 x y H2 I2 rx ry q=>ho pins s2 L H2 x y v u Q I2 rx ry q)
theorem eO(ho:qy X (unaryOp op) r)(ha:PE X a ta):PE X (.UnaryOp op a pos) (GK r ta):=by intro pins s L H Q I h;exact UnaryOp_ (aC (ha pins s L H _ I h) λv s1 ⟨x,H1,I1,r1,q1⟩=>ho pins s1 L H1 x v Q I1 r1 q1)
theorem wH{f:acU->acU->Sem acU}{C:Int->Int->Prop}{g:Int->Int->Int}
 (rule:∀ (i j:Int) (t u:Tok) (s:ac8) (Q:acU->ac8->Prop) (E:acU->ac8->Prop),C i j->Q (.int (g i j) s.toks) { s with toks:=s.toks+1 }->adi (model X.prog X.w) X.A (f (.int i t) (.int j u)) Q E s) :
 bz X f (rI C λi j=>.int (g i j)):=by
 intro pins s L H x y v u Q I rx ry h;obtain⟨i,j,rfl,rfl,hc,q⟩:=h;obtain⟨t,rfl⟩:=rx;obtain⟨t',rfl⟩:=ry;exact rule i j t t' s _ _ hc #[.int (g i j),H,I.tok _,#[_,Y],q]
theorem GL{f:acU->acU->Sem acU}{g:Int->Int->Int}
 (rule:∀ (i j:Int) (t u:Tok) (s:ac8) (Q:acU->ac8->Prop) (E:acU->ac8->Prop),Q (.int (g i j) s.toks) { s with toks:=s.toks+1 }->adi (model X.prog X.w) X.A (f (.int i t) (.int j u)) Q E s) :
 bz X f (ir λi j=>.int (g i j)):=by
 intro pins s L H x y v u Q I rx ry h;obtain⟨i,j,rfl,rfl,q⟩:=h;obtain⟨t,rfl⟩:=rx;obtain⟨t',rfl⟩:=ry;exact rule i j t t' s _ _ #[.int (g i j),H,I.tok _,#[_,Y],q]
theorem zU{f:acU->acU->Sem acU}{g:Int->Int->Bool}
 (rule:∀ (i j:Int) (t u:Tok) (s:ac8) (Q:acU->ac8->Prop) (E:acU->ac8->Prop),Q (.bool (g i j)) s->adi (model X.prog X.w) X.A (f (.int i t) (.int j u)) Q E s) :
 bz X f (ir λi j=>.bl (g i j)):=by
 intro pins s L H x y v u Q I rx ry h;obtain⟨i,j,rfl,rfl,q⟩:=h;obtain⟨t,rfl⟩:=rx;obtain⟨t',rfl⟩:=ry;exact rule i j t t' s _ _ #[.bl (g i j),H,I,Y,q]
def O9(i j:Int):Prop:=0<=j/\j<=1000000/\i.natAbs<2 ^ 64
theorem Pb:bz X (af4 .Add) (ir λi j=>.int (i+j)):=GL λy y y y y y y q=>add_int q
theorem Pc:bz X (af4 .Sub) (ir λi j=>.int (i-j)):=GL λy y y y y y y q=>sub_int q
theorem Pd:bz X (af4 .Mod) (rI (λy j=>0<j) λi j=>.int (i % j)):=wH λi j y y y y y hc q=>by have h1:(0:Int)<j:=hc;exact mod_int' (by omega) (by rw[Int.fmod_eq_emod_of_nonneg i (by omega)];exact q)
theorem jX:bz X (af4 .Pow) (rI O9 λi j=>.int (i ^ j.toNat)):=wH λy y y y y y y hc q=>pow_int_small hc.1 hc.2.1 hc.2.2 q
theorem Pe{f:acU->Sem acU}{g:Int->Int}
 (rule:∀ (i:Int) (t:Tok) (s:ac8) (Q:acU->ac8->Prop) (E:acU->ac8->Prop),Q (.int (g i) s.toks) { s with toks:=s.toks+1 }->adi (model X.prog X.w) X.A (f (.int i t)) Q E s) :
 qy X f (rU λi=>.int (g i)):=by
 intro pins s L H x v Q I rx h;obtain⟨i,rfl,q⟩:=h;obtain⟨t,rfl⟩:=rx;exact rule i t s _ _ #[.int (g i),H,I.tok _,#[_,Y],q]
theorem Pf:qy X (unaryOp .USub) (rU λi=>.int (-i)):=Pe λy y y y y q=>neg_int q
end
noncomputable def k6:V->V->Bool
 | .non,.non=>true|.non,.int _=>true|.int _,.non=>true|.non,.bl _=>true|.bl _,.non=>true|.non,.str _=>true|.str _,.non=>true
 | .int _,.int _=>true|.bl _,.bl _=>true|.str _,.str _=>true|.byt _,.byt _=>true
 | .int _,.str _=>true|.str _,.int _=>true|.bl _,.str _=>true|.str _,.bl _=>true
 | _,_=>false
def GN:R2:=λx y H Q=>k6 x y=true/\Q (.bl (decide (x=y))) H
def GO:R2:=λx y H Q=>k6 x y=true/\Q (.bl (!decide (x=y))) H
theorem GP:decide (V.int i=V.int j)=(i == j):=by rw[aeY];simp
theorem GQ:decide (V.bl i=V.bl j)=(i == j):=by rw[aeY];simp
theorem GR:decide (V.str i=V.str j)=(i == j):=by rw[aeY];simp
theorem GS:decide (V.byt i=V.byt j)=(i.toList == j.toList):=by rw[aeY];cases i;cases j;simp
section
theorem cn(I:Inv X pins L H s)(q:Q (.bl k) H)(e:k=k'):EP X pins L Q (.bool k') s:=by subst e;exact#[.bl k,H,I,Y,q]
theorem mI:bz X (aev .Eq) GN:=by
 intro pins s L H x y v u Q I rx ry h;obtain⟨hs,q⟩:=h;cases x with
 | non =>
  cases rx;cases y with
  | non=>cases ry;exact PySem.EqNone.eq_none_none (cn I q (by simp))
  | bl j=>cases ry;exact PySem.EqNone.eq_none_bool (cn I q (by simp))
  | int j=>obtain⟨t',rfl⟩:=ry;exact PySem.EqNone.eq_none_int (cn I q (by simp))
  | str j=>obtain⟨t',rfl⟩:=ry;exact PySem.EqNone.eq_none_str (cn I q (by simp))
  | _=>exact absurd (show false=true from hs) adq
 | bl i =>
  cases rx;cases y with
  | non=>cases ry;exact PySem.EqNone.eq_bool_none (cn I q (by simp))
  | bl j=>cases ry;exact eq_bool (cn I q GQ)
  | str j=>obtain⟨t',rfl⟩:=ry;exact PySem.EqMixed.eq_bool_str (cn I q (by simp))
  | _=>exact absurd (show false=true from hs) adq
 | int i =>
  obtain⟨t,rfl⟩:=rx;cases y with
  | non=>cases ry;exact PySem.EqNone.eq_int_none (cn I q (by simp))
  | int j=>obtain⟨t',rfl⟩:=ry;exact eq_int (cn I q GP)
  | str j=>obtain⟨t',rfl⟩:=ry;exact PySem.EqMixed.eq_int_str (cn I q (by simp))
  | _=>exact absurd (show false=true from hs) adq
 | str i =>
  obtain⟨t,rfl⟩:=rx;cases y with
  | non=>cases ry;exact PySem.EqNone.eq_str_none (cn I q (by simp))
  | bl j=>cases ry;exact PySem.EqMixed.eq_str_bool (cn I q (by simp))
  | int j=>obtain⟨t',rfl⟩:=ry;exact PySem.EqMixed.eq_str_int (cn I q (by simp))
  | str j=>obtain⟨t',rfl⟩:=ry;exact eq_str (cn I q GR)
  | _=>exact absurd (show false=true from hs) adq
 | byt i =>
  obtain⟨t,rfl⟩:=rx;cases y with
  | byt j=>obtain⟨t',rfl⟩:=ry;exact PySem.W.eq_bytes (cn I q GS)
  | _=>exact absurd (show false=true from hs) adq
 | _=>cases y<;>exact absurd (show false=true from hs) adq
theorem GU:bz X (aev .NotEq) GO:=by
 intro pins s L H x y v u Q I rx ry h;obtain⟨hs,q⟩:=h;cases x with
 | non =>
  cases rx;cases y with
  | non=>cases ry;exact PySem.EqNone.ne_none_none (cn I q (by simp))
  | bl j=>cases ry;exact PySem.EqNone.ne_none_bool (cn I q (by simp))
  | int j=>obtain⟨t',rfl⟩:=ry;exact PySem.EqNone.ne_none_int (cn I q (by simp))
  | str j=>obtain⟨t',rfl⟩:=ry;exact PySem.EqNone.ne_none_str (cn I q (by simp))
  | _=>exact absurd (show false=true from hs) adq
 | bl i =>
  cases rx;cases y with
  | non=>cases ry;exact PySem.EqNone.ne_bool_none (cn I q (by simp))
  | bl j=>cases ry;exact ne_bool (cn I q (congrArg not GQ))
  | str j=>obtain⟨t',rfl⟩:=ry;exact PySem.EqMixed.ne_bool_str (cn I q (by simp))
  | _=>exact absurd (show false=true from hs) adq
 | int i =>
  obtain⟨t,rfl⟩:=rx;cases y with
  | non=>cases ry;exact PySem.EqNone.ne_int_none (cn I q (by simp))
  | int j=>obtain⟨t',rfl⟩:=ry;exact ne_int (cn I q (congrArg not GP))
  | str j=>obtain⟨t',rfl⟩:=ry;exact PySem.EqMixed.ne_int_str (cn I q (by simp))
  | _=>exact absurd (show false=true from hs) adq
 | str i =>
  obtain⟨t,rfl⟩:=rx;cases y with
  | non=>cases ry;exact PySem.EqNone.ne_str_none (cn I q (by simp))
  | bl j=>cases ry;exact PySem.EqMixed.ne_str_bool (cn I q (by simp))
  | int j=>obtain⟨t',rfl⟩:=ry;exact PySem.EqMixed.ne_str_int (cn I q (by simp))
  | str j=>obtain⟨t',rfl⟩:=ry;exact ne_str (cn I q (congrArg not GR))
  | _=>exact absurd (show false=true from hs) adq
 | byt i =>
  obtain⟨t,rfl⟩:=rx;cases y with
  | byt j=>obtain⟨t',rfl⟩:=ry;exact PySem.W.ne_bytes (cn I q (congrArg not GS))
  | _=>exact absurd (show false=true from hs) adq
 | _=>cases y<;>exact absurd (show false=true from hs) adq
theorem wI:bz X (aev .Lt) (ir λi j=>.bl (decide (i<j))):=zU λy y y y y y y q=>lt_int q
theorem fM:bz X (aev .LtE) (ir λi j=>.bl (decide (i<=j))):=zU λy y y y y y y q=>le_int q
theorem wJ:bz X (aev .Gt) (ir λi j=>.bl (decide (j<i))):=zU λy y y y y y y q=>gt_int q
theorem zV:bz X (aev .In) (λx y H Q=>∃ i j,x = .str i/\y = .str j/\Q (.bl (!(agx j i 0 j.length 1).isEmpty)) H):=by intro pins s L H x y v u Q I rx ry h;obtain⟨i,j,rfl,rfl,q⟩:=h;obtain⟨t,rfl⟩:=rx;obtain⟨t',rfl⟩:=ry;exact in_str (cn I q Y)
theorem dW(b:agY)(h:op ≠ .In:=by decide)(h2:op ≠ .NotIn:=by decide):afr op b=false:=by
 have e1:(op == CmpOp.In)=false:=by cases op<;>first|rfl|exact absurd Y h
 have e2:(op == CmpOp.NotIn)=false:=by cases op<;>first|rfl|exact absurd Y h2
 cases b<;>simp[afr,e1,e2]
theorem fN(ho:bz X (aev op) r)(ha:PE X a ta)(hb:PE X b tb)(hm:afr op b=false):PE X (.Compare a [op] [b] pos) (ou r ta tb):=by intro pins s L H Q I h;exact wpAny_Compare1 (zT ha hb I h λv u s2 x y H2 I2 rx ry q=>ho pins s2 L H2 x y v u Q I2 rx ry q) hm
def zW(t:TE):TT:=λL H Q=>t L H λx H'=>∃ k,x = .bl k/\Q k H'
theorem gk(ho:bz X (aev op) r)(ha:PE X a ta)(hb:PE X b tb)(hm:afr op b=false):PT X (.Compare a [op] [b] pos) (zW (ou r ta tb)):=by
 intro pins s L H Q I h;refine aiS (aC (ha pins s L H _ I h) λv s1 ⟨x,H1,I1,r1,q1⟩=>aC (hb pins s1 L H1 _ I1 q1) λu s2 ⟨y,H2,I2,r2,q2⟩ =>
  aC (ho pins s2 L H2 x y v u _ I2 r1 r2 q2) λc s3 ⟨z,H3,I3,r3,k,e,q3⟩=>?_) hm
 subst e;cases r3;exact aed #[H3,I3,q3]
def zX(r r':R2)(ta tb tc:TE):TE:=λL H Q=>ta L H λx H1=>tb L H1 λy H2=>r x y H2 λz H3=>∃ k,z = .bl k /\
 (if k=true then tc L H3 λw' H4=>r' y w' H4 Q else Q (.bl false) H3)
theorem zY(ho:bz X (aev op) r)(eK:bz X (aev k8) r')(ha:PE X a ta)(hb:PE X b tb)(hc:PE X c tc)(hm:al1 [op,k8] [b,c]=false:=by with_unfolding_all rfl):PE X (.Compare a [op,k8] [b,c] pos) (zX r r' ta tb tc):=by
 intro pins s L H Q I h;refine Compare_chain (aC (ha pins s L H _ I h) λv s1 ⟨x,H1,I1,r1,q1⟩=>chain_link (aC (hb pins s1 L H1 _ I1 q1) λu s2 ⟨y,H2,I2,r2,q2⟩ =>
  aC (ho pins s2 L H2 x y v u _ I2 r1 r2 q2) λd s3 ⟨z,H3,I3,r3,k,e,q3⟩=>?_)) hm
 subst e;cases r3;refine aed ?_;cases k with
 | false=>exact ite_ff #[.bl false,H3,I3,Y,q3]
 | true=>exact ite_tt (chain_last (aC (hc pins s3 L H3 _ I3 q3) λw' s4 ⟨z',H4,I4,r4,q4⟩=>eK pins s4 L H4 y z' u w' Q I4 r2 r4 q4))
theorem Pg(ho:bz X (aev op) r)(eK:bz X (aev k8) r')(ha:PE X a ta)(hb:PE X b tb)(hc:PE X c tc)(hm:al1 [op,k8] [b,c]=false:=by with_unfolding_all rfl):PT X (.Compare a [op,k8] [b,c] pos) (zW (zX r r' ta tb tc)):=by
 intro pins s L H Q I h;refine isTrue_chain (aC (ha pins s L H _ I h) λv s1 ⟨x,H1,I1,r1,q1⟩=>test_link (aC (hb pins s1 L H1 _ I1 q1) λu s2 ⟨y,H2,I2,r2,q2⟩ =>
  aC (ho pins s2 L H2 x y v u _ I2 r1 r2 q2) λd s3 ⟨z,H3,I3,r3,k,e,q3⟩=>?_)) hm
 subst e;cases r3;refine aed ?_;cases k with
 | false =>
  obtain⟨k',e',q'⟩:=q3;cases e';exact ite_ff #[H3,I3,q']
 | true =>
  refine ite_tt (test_last (aC (hc pins s3 L H3 _ I3 q3) λw' s4 ⟨z',H4,I4,r4,q4⟩=>aC (eK pins s4 L H4 y z' u w' _ I4 r2 r4 q4) λd' s5 zq=>?_));obtain⟨z2,H5,I5,r5,k2,e2,q5⟩:=zq;subst e2;cases r5;exact aed #[H5,I5,q5]
theorem sG:(adh:Nat)<2 ^ 63:=by rw[aey];decide
theorem jg:bz X (af4 .Add) (λx y H Q=>∃ i j,x = .str i/\y = .str j/\i.length+j.length<=adh/\Q (.str (i++j)) H):=by intro pins s L H x y v u Q I rx ry h;obtain⟨i,j,rfl,rfl,hz,q⟩:=h;obtain⟨t,rfl⟩:=rx;obtain⟨t',rfl⟩:=ry;exact add_str (λt' tk=>#[.str (i++j),H,I.tok _,#[_,Y],q]) hz
theorem vals1(r:Vals [x] us):∃ u,us=[u]/\RelV x u:=by
 cases r with
 | cons r1 r2=>cases r2;exact#[_,Y,r1]
theorem vals2(r:Vals [x,y] us):∃ u w',us=[u,w']/\RelV x u/\RelV y w':=by
 cases r with
 | cons r1 r2 =>
  cases r2 with
  | cons r3 r4=>cases r4;exact#[_,_,Y,r1,r3]
theorem Ph(hc:X.calm=true):fj X (.builtin "min") (λxs H Q=>∃ i j,xs=[.int i,.int j]/\Q (.int (if j<i then j else i)) H):=by
 intro pins s L H xs us Q I r h;obtain⟨i,j,rfl,q⟩:=h;obtain⟨u,w',rfl,⟨t,rfl⟩,⟨t',rfl⟩⟩:=vals2 r;refine min_two_ints (I.ok.hd hc) λh' tk k=>#[_,H,I.kept k,?_,q]
 by_cases hj:j<i
 .rw[if_pos hj,if_pos hj];exact#[_,Y]
 .rw[if_neg hj,if_neg hj];exact#[_,Y]
theorem jh:fj X (.type "str") (λxs H Q=>∃ i,xs=[.int i]/\i.natAbs.log2<1920/\Q (.str (toString i)) H):=by intro pins s L H xs us Q I r h;obtain⟨i,rfl,hz,q⟩:=h;obtain⟨u,rfl,t,rfl⟩:=vals1 r;exact PySem.P.str_of_int hz #[.str _,H,I.tok _,#[_,Y],q]
def wK(K:acM)(x:V)(H:Hp)(n:Nat):Prop :=
 match x with
 | .str y=>y.length<=adh/\n=y.length
 | .byt y=>y.size<=adh/\n=y.size
 | .ref p=>(∃ xs,ah K H p xs/\n=xs.length) ∨ ∃ xs,au K H p xs/\n=xs.length
 | _=>False
theorem dk:fj X (.builtin "len") (λxs H Q=>∃ x n,xs=[x]/\wK X.K x H n/\Q (.int n) H):=by
 intro pins s L H xs us Q I r h;obtain⟨x,n,rfl,e,q⟩:=h;obtain⟨u,rfl,rx⟩:=vals1 r;have hl:=sG;have hs:adh=16777216:=aey;cases x with
 | str y =>
  obtain⟨t,rfl⟩:=rx;obtain⟨hy,e'⟩:y.length<=adh/\n=y.length:=e;subst e';exact len_str (by omega) #[.int _,H,I.tok _,#[_,Y],q]
 | byt y =>
  obtain⟨t,rfl⟩:=rx;obtain⟨hy,e'⟩:y.size<=adh/\n=y.size:=e;subst e';exact PySem.W.len_bytes (by omega) #[.int _,H,I.tok _,#[_,Y],q]
 | ref p =>
  cases rx;have e':(∃ xs,ah X.K H p xs/\n=xs.length) ∨ ∃ xs,au X.K H p xs/\n=xs.length:=e;rcases e' with ⟨xs,hx,e'⟩|⟨xs,hx,e'⟩
  .subst e';obtain⟨ai,r',pl,hz⟩:=I.list hx;have hlen:=r'.length;exact Calls.call_len_list pl.isList (by simp only[ac5];omega) #[.int xs.length,H,I.tok _,#[_,by simp only[ac5];rw[hlen]],q]
  .subst e';obtain⟨ai,r',pl,hz⟩:=I.tuple hx;have hlen:=r'.length;exact len_tuple pl (by simp only[ac5];omega) #[.int xs.length,H,I.tok _,#[_,by simp only[ac5];rw[hlen]],q]
 | _=>exact (show False from e).elim
end
structure ox(h:ae7)(x dx C:ac4)(mA:Str->Option acU):Prop where
 obj:h.get? x=O (afd C dx)
 ns:h.Ns1 dx mA
 ne:dx≠x
theorem Pj{h:ae7}{dx:ac4}{mA:Str->Option acU}(n:h.Ns1 dx mA):∃ od,h.get? dx=O od/\∀ name,ahO name od=O (mA name):=by
 obtain⟨o,es,ep,ho,hd,hk,_,hm⟩:=n;refine#[o,ho,λname=>?_];have e:=hm name;unfold nsFind findBy at e;rw[<- Array.find?_toList] at e;unfold ahO;rw[hd];dsimp only;split
 .rename_i y q;rw[q] at e;exact congrArg O e
 .rename_i q;rw[q] at e;have a:es.toList.any (·.refKey)=false:=by rw[akc];intro y hy;obtain⟨z,t,hkey⟩:=hk y (ajm.mp hy);simp[DictEntry.refKey,hkey]
  have a':¬ es.toList.any (·.refKey)=true:=by rw[a];exact adq
  rw[if_neg a'];exact congrArg O e
theorem ox.look(I:ox h x dx C mA):∃ od,PySem.W.InstAt h x (afd C dx) C (O od)/\∀ name,ahO name od=O (mA name) :=
 let ⟨od,ho,hl⟩:=Pj I.ns
 #[od,#[I.obj,Y,Y,ho],hl]
section
variable{prog:adP}{w:aes}{A:ae2}{E:acU->ac8->Prop}{s:ac8}{K:acM}{x dx C f:ac4}{mA:Str->Option acU}{name:Str}{v:acU}
theorem get_map{expr:Bool}{Q:acU->ac8->Prop}(X:K.In s.heap)(I:ox s.heap x dx C mA)(hg:ag6 K C name=true)(hh:ah1 K C=true)
 (ha:adT K (.ref C) name=O J) (hv:mA name=O v) (Pk:akJ v=true) (h:Q v { s with toks:=s.toks+1 }) :
 adi (model prog w) A (getAttr (.ref x) name expr) Q E s:=by
 obtain⟨od,J9q,hl⟩:=I.look;exact PySem.W.get_value X J9q (ahk hg).1 (PySem.W.findObj_own hh ha Y (by rw[hl,hv])) Pk h
theorem Pl{pl:Sem Bool}{Q:acU × List acU->ac8->Prop}(X:K.In s.heap)(I:ox s.heap x dx C mA)(hg:ag6 K C name=true)
 (hf:adT K (.ref C) name=O (O (.ref f))) (ht:aiU K (.ref f)=true) (hv:mA name=J) (h:Q (.ref f,[.ref x]) s) :
 adi (model prog w) A (ak3 (.ref x) name pl) Q E s:=by
 obtain⟨od,J9q,hl⟩:=I.look;exact PySem.W.method_fn X J9q (ahk hg).1 (ahk hg).2 hf (beq_iff_eq.mp ht) (by show (ahO name od).map (·.isSome)=O false;rw[hl,hv];rfl) h
theorem Pm{ns:List Str}{Q:Unit->ac8->Prop}(X:K.In s.heap)(I:ox s.heap x dx C mA)
 (hs:adT K (.ref C) "__setattr__" = O (O (.builtin "object.__setattr__"))) (hp:akd K C=true) (ht:aiV K C name=O J) (hh:ah1 K C=true)
 (hw:aku mA ns) (hsz:ns.length<=adh)
 (h:∀ h',ox h' x dx C (λy=>if y=name then O v else mA y)->Heap.SameBut dx s.heap h'->Q () { s with heap:=h',toks:=s.toks+2 }) :
 adi (model prog w) A (setAttr (.ref x) name v) Q E s:=by
 obtain⟨od,J9q,hl⟩:=I.look;refine PySem.W.set_plain X J9q hs (PySem.W.osa_open (s:={ s with toks:=s.toks+1 }) (r:=J) X J9q hp ht λb=>?_);obtain⟨cd,hc,sq⟩:=PySem.W.any_some hh;have hx:s.heap.get? x=O #[.ref C,O dx,.plain,(List.toArray [])]:=I.obj;refine acK (acQ (acK (acK (wpAny_loadPart hx (acK (PySem.W.Looks.here (s:={ s with toks:=s.toks+1 }) (PySem.W.looks_clsIn X hc) ?_))))));rw[sq];refine acQ (a:=O dx) (acK (acQ (acK ?_)));refine wpAny_nsSet1 (s:={ s with toks:=s.toks+1 }) I.ns λh' wL df=>?_;obtain⟨oD,esD,epD,Pn,Po,Pq⟩:=wL.count (PySem.Within.cons name v hw);refine acK (wpAny_lookBehind Pn (by rw[Po];exact pastItsLine_dict (acR Pq (by rw[adw];omega))) ?_);exact acQ (h _ #[(df.2 _ (adR I.ne)).trans I.obj,wL,I.ne] df)
theorem Pr{R:akw->ac8->Prop}{vs:List acU}{kw:List (Str × acU)}(X:K.In s.heap)(hm:ahl K C=true)
 (hi:adT K (.ref C) "__init__" = O (O (.ref f))) (hf:PySem.W.typeIn K (.ref f)=O (.type "function"))
 (h:ago (model prog w) (A.under (.builtin "type.__call__" #[.ref C::vs,kw])) (.call (.ref f) #[.ref (s.heap.objs.size+1)::vs,kw]) (PySem.W.InitBack (s.heap.objs.size+1) R)
   { s with heap:=(s.heap.push aeC).push (afd C s.heap.objs.size) }) :
 ago (model prog w) A (.call (.ref C) #[vs,kw]) R s:=by
 obtain⟨hh,g,d,t,os⟩:=s;exact PySem.W.make_core (PySem.W.makes_of X hm) (PySem.W.looks_findIn X hi) (λself=>PySem.W.bind_fn X self hf) (.inl rfl) h
end
noncomputable def fo(f:Str)(v:V):List (Str × V)->List (Str × V)
 | []=>[(f,v)]
 | (g,x)::r=>if g=f then (g,v)::r else (g,x)::fo f v r
theorem GV(f g:Str)(v:V):∀ fs:List (Str × V),(fo f v fs).lookup g=if g=f then O v else fs.lookup g
 | []=>by
  show agL g [(f,v)]=_;by_cases h:g=f
  .have hb:(g == f)=true:=beq_iff_eq.mpr h;simp only[agL,hb,if_pos h]
  .have hb:(g == f)=false:=beq_eq_false_iff_ne.mpr h;simp only[agL,hb,if_neg h]
 | (k,x)::r=>by
  have ih:=GV f g v r;rw[show fo f v ((k,x)::r)=(if k=f then (k,v)::r else (k,x)::fo f v r) from Y];by_cases hk:k=f
  .rw[if_pos hk];by_cases h:g=k
   .have hb:(g == k)=true:=beq_iff_eq.mpr h;simp only[agL,hb,if_pos (h.trans hk)]
   .have hb:(g == k)=false:=beq_eq_false_iff_ne.mpr h;simp only[agL,hb,if_neg (λe:g=f=>h (e.trans hk.symm))]
  .rw[if_neg hk];by_cases h:g=k
   .have hb:(g == k)=true:=beq_iff_eq.mpr h;simp only[agL,hb,if_neg (λe:g=f=>hk (h.symm.trans e))]
   .have hb:(g == k)=false:=beq_eq_false_iff_ne.mpr h;simp only[agL,hb];exact ih
theorem zZ(f:Str)(v:V):∀ fs:List (Str × V),f∈(fo f v fs).map (·.1)/\∀ g,g∈fs.map (·.1)->g∈(fo f v fs).map (·.1)
 | []=>#[by simp[fo],λg h=>by simp at h]
 | (k,x)::r=>by
  obtain⟨i1,i2⟩:=zZ f v r;rw[show fo f v ((k,x)::r)=(if k=f then (k,v)::r else (k,x)::fo f v r) from Y];by_cases hk:k=f
  .rw[if_pos hk];subst hk;exact#[by simp,λg h=>by simpa using h]
  .rw[if_neg hk];refine#[?_,λg h=>?_]
   .rw[adg];exact adV _ i1
   .rw[adg] at h ⊢;rcases acZ.mp h with e|e
    .exact acZ.mpr (.inl e)
    .exact adV _ (i2 g e)
theorem GW(f:Str)(v:V):∀ fs:List (Str × V),(fo f v fs).length<=fs.length+1
 | []=>by simp[fo]
 | (k,x)::r=>by
  have ih:=GW f v r;rw[show fo f v ((k,x)::r)=(if k=f then (k,v)::r else (k,x)::fo f v r) from Y];by_cases hk:k=f
  .rw[if_pos hk,adw,adw];omega
  .rw[if_neg hk,adw,adw];omega
theorem eJ.some_of(r:eJ (O v) o):∃ u,o=O u/\RelV v u:=by
 cases o with
 | none=>exact (show False from r).elim
 | some u=>exact#[u,Y,r]
theorem eJ.none_of(r:eJ J o):o=J:=by
 cases o with
 | none=>rfl
 | some u=>exact (show False from r).elim
theorem Pt(r:RelV v u):akJ u=true:=by
 cases v with
 | non=>cases (show u=Value.none from r);rfl
 | bl b=>cases (show u=aeN b from r);rfl
 | int i=>obtain⟨t,e⟩:=(show ∃ t,u=Value.int i t from r);cases e;rfl
 | str x=>obtain⟨t,e⟩:=(show ∃ t,u=Value.str x t from r);cases e;rfl
 | byt b=>obtain⟨t,e⟩:=(show ∃ t,u=al9 b t from r);cases e;rfl
 | flt b=>obtain⟨t,e⟩:=(show ∃ t,u=ak2 b t from r);cases e;rfl
 | ref a=>cases (show u=adB a from r);rfl
 | ty n=>cases (show u=agK n from r);rfl
section
theorem wM(ar:ck P w H h)(e:H a=O (.ins C dx fs)):∃ mA,ox h a dx C mA/\(∀ f,eJ (fs.lookup f) (mA f))/\aku mA (fs.map (·.1))/\fs.length<=1000/\H dx=O (.own a):=by
 obtain⟨d,z,ne,ob,mA,n,r,q⟩:=(show bN P w H h a (.ins C dx fs) from ar a _ e)
 exact#[mA,#[ob,n,ne],r,q,z,d]
end
structure fq(K:acM)(C:ac4):Prop where
 pg:ag6 K C Str.empty=true
 hd:ah1 K C=true
 po:akd K C=true
 sa:adT K (.ref C) "__setattr__" = O (O (.builtin "object.__setattr__"))
theorem fq.get{K:acM}{C:ac4}(c:fq K C)(f:Str):ag6 K C f=true:=c.pg
def fO(K:acM)(C:ac4)(f:Str):Prop:=adT K (.ref C) f=O J
theorem fO.Pu{K:acM}{C:ac4}{f:Str}(n:fO K C f):aiV K C f=O J:=by unfold aiV;rw[show adT K (.ref C) f=O J from n];rfl
structure Meth(K:acM)(C:ac4)(m:Str)(f:ac4):Prop where
 at_:adT K (.ref C) m=O (O (.ref f))
 fn:aiU K (.ref f)=true
 kp:afy K (.ref f)=true
section
theorem Pw(I:Inv X pins L H s)(e:H a=O (.ins C dx fs))(c:fq X.K C)(n:fO X.K C f)(l:fs.lookup f=O v)(h:∀ u s',Inv X pins L H s'->RelV v u->Q u s'):adi (model X.prog X.w) A (getAttr (.ref a) f b) Q E s:=by obtain⟨mA,O9q,r,y,y,y⟩:=wM I.ar e;obtain⟨u,hu,ru⟩:=eJ.some_of (v:=v) (o:=mA f) (by rw[<- l];exact r f);exact get_map I.cz O9q (c.get f) c.hd n hu (Pt ru) (h u _ (I.tok _) ru)
theorem GX(I:Inv X pins L H s)(e:H a=O (.ins C dx fs))(c:fq X.K C)(k:Meth X.K C m g)(l:fs.lookup m=J)(h:Q (.ref g,[.ref a]) s):adi (model X.prog X.w) A (ak3 (.ref a) m pl) Q E s:=by obtain⟨mA,O9q,r,y,y,y⟩:=wM I.ar e;have hn:mA m=J:=eJ.none_of (by rw[<- l];exact r m);exact Pl I.cz O9q (c.get m) k.at_ k.fn hn h
theorem Px(I:Inv X pins L H s)(e:H a=O (.ins C dx fs))(c:fq X.K C)(n:fO X.K C f)(hl:fs.length<1000)(ry:RelV y u)(h:∀ s',Inv X pins L (upd H a (.ins C dx (fo f y fs))) s'->Q () s'):adi (model X.prog X.w) A (setAttr (.ref a) f u) Q E s:=by
 obtain⟨mA,O9q,r,wi,v,ho⟩:=wM I.ar e;have hz:(fs.map (·.1)).length<=adh:=by rw[acN,aey];omega
 refine Pm I.cz O9q c.sa c.po n.Pu c.hd wi hz λh' O' sb=>h _ ?_;have hd:∃ o,h'.get? dx=O o:=let ⟨o,_,_,e',_⟩:=O'.ns;#[o,e'];refine I.write (x:=a) (e:=dx) (by rw[e];exact afL) (.inr ho) (λb q hb z=>(sb.2 b hb).trans z) hd ?_;refine#[by rw[aJ O9q.ne];exact ho,?_,O9q.ne,O'.obj,_,O'.ns,λg=>?_,λg hg=>?_]
 .have:=GW f y fs;omega
 .show eJ ((fo f y fs).lookup g) (if g=f then O u else mA g);rw[GV];by_cases q:g=f
  .rw[if_pos q,if_pos q];exact ry
  .rw[if_neg q,if_neg q];exact r g
 .by_cases q:g=f
  .rw[q];exact (zZ f y fs).1
  .refine (zZ f y fs).2 g (wi g λz=>hg ?_);show (if g=f then O u else mA g)=J;rw[if_neg q];exact z
theorem Inv.made(I:Inv X pins L H s):Inv X pins L (upd (upd H s.heap.objs.size (.own (s.heap.objs.size+1))) (s.heap.objs.size+1) (.ins C s.heap.objs.size []))
 { s with heap:=(s.heap.push aeC).push (afd C s.heap.objs.size) }:=by
 have e1:(s.heap.push aeC).get? s.heap.objs.size=O aeC:=acV s.heap rfl;have e2:((s.heap.push aeC).push (afd C s.heap.objs.size)).get? (s.heap.objs.size+1)=O (afd C s.heap.objs.size):=by
  have:=acV (s.heap.push aeC) (o:=afd C s.heap.objs.size) rfl
  rwa [aem] at this
 have e3:(s.heap.push aeC).Ns s.heap.objs.size (λy=>J):=#[aeC,(List.toArray []),_,e1,Y,(λe he=>absurd he (by simp)),λy=>rfl]
 have I1:=I.laid (a:=s.heap.objs.size) (o:=.own (s.heap.objs.size+1)) (h':=s.heap.push aeC) (t':=s.toks) (λb u q=>acL _ q) (acS _) #[_,e1];refine I1.laid (a:=s.heap.objs.size+1) (o:=.ins C s.heap.objs.size []) (t':=s.toks) (λb u q=>acL _ q) (aiW (aem _ _)) ?_;have ne:s.heap.objs.size≠s.heap.objs.size+1:=adk (agk _);refine#[by rw[aJ ne,ao],adt _,ne,e2,λy=>J,(Heap.Ns1.of_empty e3).at λo q=>acL _ q,λy=>afL,λy hy=>absurd Y hy]
theorem Py(hb:agy e f env (eval e env)=eval e env)(h:adi (model prog w) A (eval e env) (λo s₁=>adi (model prog w) A (getAttr o f true) Q E s₁) E s):adi (model prog w) A (eval (.Attribute e f pos) env) Q E s :=
 Attribute_any_ h (by rw[arm_eval_Attribute,hb])
end
def GY(K:acM)(ta:TE)(f:Str):TE:=λL H Q=>ta L H λx H1=>∃ a C dx fs v,x = .ref a/\H1 a=O (.ins C dx fs)/\fq K C/\fO K C f/\fs.lookup f=O v/\Q v H1
def GZ(K:acM)(ta tv:TE)(f:Str):TS:=λD L H=>tv L H λy H1=>ta L H1 λx H2=>∃ a C dx fs,x = .ref a/\H2 a=O (.ins C dx fs)/\fq K C/\fO K C f/\fs.length<1000 /\
 D.nx L (upd H2 a (.ins C dx (fo f y fs)))
section
theorem Pz(he:PE X e ta)(hb:agy e f X.env (eval e X.env)=eval e X.env):PE X (.Attribute e f pos) (GY X.K ta f):=by
 intro pins s L H Q I h;refine Py hb (aC (he pins s L H _ I h) λu s1 zq=>?_);obtain⟨x,H1,I1,rx,a,C,dx,fs,v,ex,ea,c,n,l,q⟩:=zq;subst ex;obtain rfl:u=adB a:=rx;exact Pw I1 ea c n l λu' s2 I2 ru=>#[v,H1,I2,ru,q]
theorem PB(ha:PE X o ta)(hv:PE X value tv)(hs:ahi value (O (.Attribute o f pos')) pos.line X.env=pure false):PS X (.Assign [.Attribute o f pos'] value pos) (GZ X.K ta tv f):=by
 intro pins s L H D I h;refine plainObj_wpAny_Assign_Attribute (aC (hv pins s L H _ I h) λu s1 ⟨y,H1,I1,ry,q⟩=>aC (ha pins s1 L H1 _ I1 q) λov s2 zq=>?_) hs;obtain⟨x,H2,I2,rx,a,C,dx,fs,ex,ea,c,n,l,q2⟩:=zq;subst ex;obtain rfl:ov=adB a:=rx;exact Px I2 ea c n l ry λs3 I3=>#[L,_,I3,q2]
inductive dm(K:acM)(H:Hp):V->acU->Prop where
 | non:dm K H .non (.type "NoneType")
 | bl (x:Bool):dm K H (.bl x) (.type "bool")
 | int (i:Int):dm K H (.int i) (.type "int")
 | str (x:Str):dm K H (.str x) (.type "str")
 | flt (x:UInt64):dm K H (.flt x) (.type "float")
 | lst {a:ac4} {xs:List V} (e:H a=O (.lst xs)):dm K H (.ref a) (.type "list")
 | frz {a:ac4} {o:Obj} {xs:List V} (e:H a=O (.frz o (.lst xs))):dm K H (.ref a) (.type "list")
 | tup {a:ac4} {xs:List V} (e:H a=O (.tup xs)):dm K H (.ref a) (.type "tuple")
 | dK {a:ac4} {kvs:List (Key × V)} (e:H a=O (.dK kvs)):dm K H (.ref a) (.type "dict")
 | dT {a:ac4} {kvs:List (List Key × V)} (e:H a=O (.dT kvs)):dm K H (.ref a) (.type "dict")
 | ins {a C dx:ac4} {fs:List (Str × V)} (e:H a=O (.ins C dx fs)) (cl:fq K C) (ha:adT K (.ref C) "__class__" = O (O (.builtin "object.__class__")))
  (hn:PySem.W.specialIn K (.builtin "object.__class__") "__get__" = O (O (.builtin "getset_descriptor.__get__"))) (G0:PySem.W.takesIn K (.builtin "object.__class__")=O true)
  (hm:PySem.W.mroIn K C (.type "object")=O true):dm K H (.ref a) (.ref C)
theorem PD(I:Inv X pins L H s)(rx:RelV x u)(ty:dm X.K H x t)(e:aeG X.K t c=O b)(h:∀ tk,Q (.bool b) { s with toks:=tk }) :
 adi (model X.prog X.w) A (call (.builtin "isinstance") [u,c]) Q E s:=by
 cases ty with
 | non=>cases (show u=Value.none from rx);exact aew PySem.W.kitx_none I.cz afL e (λz=>nomatch z) h
 | bl y=>cases (show u=aeN y from rx);exact aew PySem.W.kitx_bool I.cz afL e (λz=>nomatch z) h
 | int i=>obtain⟨t,q⟩:=(show ∃ t,u=Value.int i t from rx);cases q;exact aew PySem.W.kitx_int I.cz afL e (λz=>nomatch z) h
 | str y=>obtain⟨t,q⟩:=(show ∃ t,u=Value.str y t from rx);cases q;exact aew PySem.W.kitx_str I.cz afL e (λz=>nomatch z) h
 | flt y=>obtain⟨t,q⟩:=(show ∃ t,u=ak2 y t from rx);cases q;exact aew PySem.W.kitx_float I.cz afL e (λz=>nomatch z) h
 | @lst a xs ea =>
  cases (show u=adB a from rx);obtain⟨v,v,n,v,h1⟩:=(show bN X.prog X.w H s.heap a (.lst xs) from I.ar a _ ea)
  exact aew ake I.cz #[_,h1,Y] e (λz=>nomatch z) h
 | @frz a ob xs ea =>
  cases (show u=adB a from rx);obtain⟨v,v,v,n,v,h1⟩:=(show bN X.prog X.w H s.heap a (.frz ob (.lst xs)) from I.ar a _ ea)
  exact aew ake I.cz #[_,h1,Y] e (λz=>nomatch z) h
 | @tup a xs ea =>
  cases (show u=adB a from rx);obtain⟨v,v,v,p⟩:=(show bN X.prog X.w H s.heap a (.tup xs) from I.ar a _ ea)
  obtain⟨o,h1,h2,v⟩:=p;exact aew PySem.W.kitx_tuple I.cz #[o,h1,h2] e (λz=>nomatch z) h
 | @dK a kvs ea =>
  cases (show u=adB a from rx);obtain⟨v,v,vs,v,p⟩:=(show bN X.prog X.w H s.heap a (.dK kvs) from I.ar a _ ea)
  obtain⟨o,es,ep,h1,h2,v⟩:=p;exact aew akf I.cz #[o,h1,h2.1] e (λz=>nomatch z) h
 | @dT a kvs ea =>
  cases (show u=adB a from rx);obtain⟨v,v,xs,v,o,es,ep,h1,h2,v⟩:=(show bN X.prog X.w H s.heap a (.dT kvs) from I.ar a _ ea)
  exact aew akf I.cz #[o,h1,h2.1] e (λz=>nomatch z) h
 | @ins a C dx fs ea cl ha hn G0 hm =>
  cases (show u=adB a from rx);obtain⟨mA,O9q,v⟩:=wM I.ar ea;obtain⟨od,J9q,v⟩:=O9q.look;exact aew (PySem.W.kitx_own (cl.get _) cl.hd ha hn G0 hm) I.cz J9q e (λz=>nomatch z) h
end
structure bF(k:Nat)(A:ae2):Prop where
 hd:A.handled=J
 dp:A.depth+3 * k+5<recursionLimit
 un:A.units+16 * k+200<aii
theorem bF.mono(r:bF k A)(h:j<=k):bF j A:=#[r.hd,by have:=r.dp;omega,by have:=r.un;omega]
theorem bF.deeper(r:bF (k+1) A)(env:Env):bF k (A.deeper env) :=
 #[r.hd,by have:=r.dp;show A.depth+1+3 * k+5<_;omega,by have:=r.un;show A.units+3+16 * k+200<_;omega]
theorem bF.in1(r:bF (k+1) A):bF k A.in1 :=
 #[r.hd,by have:=r.dp;show A.depth+3 * k+5<_;omega,by have:=r.un;show A.units+1+16 * k+200<_;omega]
theorem PF{A:ae2}{C:ac4}{us:List acU}{kw:List (Str × acU)}:(A.under (.builtin "type.__call__" #[.ref C::us,kw])).depth=A.depth+1:=by
 first|rfl|simp[akx,Code.weight,Code.isCreation,Code.isGuard,Code.isCaller,Code.frames,Code.isFrame,guardIds]
theorem PH{A:ae2}{C:ac4}{us:List acU}{kw:List (Str × acU)}:(A.under (.builtin "type.__call__" #[.ref C::us,kw])).units=A.units+1:=by
 first|rfl|simp[akx,Code.cUnits,Code.frames,Code.isFrame]
theorem bF.make(r:bF (k+1) A)(C:ac4)(us:List acU)(kw:List (Str × acU)):bF k (A.under (.builtin "type.__call__" #[.ref C::us,kw])) :=
 #[r.hd,by have:=r.dp;rw[PF];omega,by have:=r.un;rw[PH];omega]
theorem bF.depth(r:bF k A):A.depth<recursionLimit:=by have:=r.dp;omega
theorem bF.units(r:bF k A):A.units+64<aii:=by have:=r.un;omega
def sH:TA:=λy H Q=>Q [] H
def z6(ta:TE)(tr:TA):TA:=λL H Q=>ta L H λx H1=>tr L H1 λxs H2=>Q (x::xs) H2
section
theorem af:PA X [] sH:=λy y y y H Q I h=>af5 #[[],H,I,.nil,h]
theorem ae(ha:PE X e te)(hr:PA X es t)(hs:adp (e::es) X.env=(false,eval e X.env)::adp es X.env:=by rfl):PA X (e::es) (z6 te t):=by
 intro pos pins s L H Q I h;rw[hs];show adi _ _ (spliced ((false,eval e X.env)::afn pos (adp es X.env))) _ _ s;refine afQ (aC (ha pins s L H _ I h) λu s1 zq=>?_);obtain⟨x,H1,I1,r1,q1⟩:=zq;exact aC (hr pos pins s1 L H1 _ I1 q1) λus s2 ⟨xs,H2,I2,r2,q2⟩=>#[x::xs,H2,I2,.cons r1 r2,q2]
def G1(t:TA):TE:=λL H Q=>t L H λxs H1=>xs.length<=adh/\∀ p,H1 p=J->Q (.ref p) (upd H1 p (.tup xs))
def G2(t:TA):TE:=λL H Q=>t L H λxs H1=>xs.length<=adh/\∀ p,H1 p=J->Q (.ref p) (upd H1 p (.lst xs))
theorem bf(h:PA X es t):PE X (.Tuple es x1 pos) (G1 t):=by intro pins s L H Q I hq;refine wpAny_Tuple_spliced (aC (h pos pins s L H _ I hq) λus s1 ⟨xs,H1,I1,r,z,q⟩=>#[by rw[<- r.length];exact z,?_]);have hf:H1 s1.heap.objs.size=J:=I1.ar.fresh (acS _);refine#[.ref s1.heap.objs.size,upd H1 s1.heap.objs.size (.tup xs),I1.laid (t':=s1.toks) (λb u e=>acL _ e) (acS _) ?_,Y,q _ hf];exact#[z,us,r,#[_,acV _ Y,Y,_,Y]]
theorem cK(h:PA X es t):PE X (.List es pos) (G2 t):=by intro pins s L H Q I hq;refine wpAny_List_spliced (aC (h pos pins s L H _ I hq) λus s1 ⟨xs,H1,I1,r,z,q⟩=>#[by rw[<- r.length];exact z,?_]);have hf:H1 s1.heap.objs.size=J:=I1.ar.fresh (acS _);refine#[.ref s1.heap.objs.size,upd H1 s1.heap.objs.size (.lst xs),I1.laid (t':=s1.toks) (λb u e=>acL _ e) (acS _) ?_,Y,q _ hf];exact#[z,us,0,r,acV _ Y]
end
abbrev Sp:=List V->Hp->VK->XK->Prop
abbrev iu:=List Env->Hp->ac8->XK->acU->ac8->Prop
structure mJ(P:adP)(w:aes)(K:acM)(mg:Str->Option acU)(base:ae7)(A:ae2)(outer:List Env)(s:ac8)(H:Hp):Prop where
 frames:A.frames=O outer
 mod:Mod K mg base
 bs:∀ b o,base.get? b=O o->s.heap.get? b=O o/\H b=J
 bsz:base.objs.size<=s.heap.objs.size
 ik:s.heap.FunFrames base outer
 frf:∀ b∈bq outer,H b=J
 ar:ck P w H s.heap
 bare:aiR s.gens
def CE(outer:List Env)(P:adP)(w:aes)(H:Hp)(s:ac8)(Q:VK)(u:acU)(s':ac8):Prop :=
 ∃ v H',s'.os=s.os/\aiR s'.gens/\Un (bq outer) [] H H' s.heap s'.heap/\ck P w H' s'.heap/\RelV v u/\Q v H'
def CR(CX:iu)(outer:List Env)(P:adP)(w:aes)(H:Hp)(s:ac8)(Q:VK)(E:XK)(r:akw)(s':ac8):Prop :=
 match r with
 | .ok (.ret u)=>CE outer P w H s Q u s'
 | .ok _=>False
 | .error e=>CX outer H s E e s'
structure dH(P:adP)(w:aes)(K:acM)(mg:Str->Option acU)(base:ae7)(CX:iu)(k:Nat)(f:ac4)(fd:agl)(ps:List Str)(sp:Sp):Prop where
 len:∀ vs H Q E,sp vs H Q E->vs.length=ps.length
 run:∀ (A:ae2) (outer:List Env) (s:ac8) (H:Hp) (args:Args) (us:List acU) (vs:List V) (Q:VK) (E:XK),bF k A->mJ P w K mg base A outer s H->akg s fd args (ps.zip us)->Vals vs us->sp vs H Q E ->
  ago (model P w) A (.call (.ref f) args) (CR CX outer P w H s Q E) s
theorem mJ.make{P:adP}{w:aes}{K:acM}{mg:Str->Option acU}{base:ae7}{A:ae2}{outer:List Env}{s:ac8}{H:Hp}(e:mJ P w K mg base A outer s H)(C:ac4)(us:List acU)(kw:List (Str × acU)) :
 mJ P w K mg base (A.under (.builtin "type.__call__" #[.ref C::us,kw])) outer s H:=#[by first|exact e.frames|(simpa [akx,Code.envs,Code.isFrame,pushEnvs] using e.frames),e.mod,e.bs,e.bsz,e.ik,e.frf,e.ar,e.bare]
section
theorem Inv.jY(I:Inv X pins L H s):mJ X.prog X.w X.K X.mg X.base X.A X.stack s H :=
 #[I.ok.frames,I.ok.mod,I.bs,acR I.ok.bsz I.sz,I.stack,I.wx,I.ar,I.bare]
theorem Inv.after(I:Inv X pins L H s)(h:CE X.stack X.prog X.w H s Q u s'):EP X pins L Q u s':=by obtain⟨v,H',os,bare,un,ar,r,q⟩:=h;obtain⟨hh,g,d,t,qA⟩:=s';obtain rfl:qA=s.os:=os;exact#[v,H',I.call (h':=hh) (g':=g) (d':=d) (t':=t) (ch:=[]) un ar bare (λb z=>absurd z (by simp)),r,q]
end
def wN(sp:Sp)(dB:List V)(E:XK)(t:TA):TE:=λL H Q=>t L H λvs H1=>sp (vs++dB) H1 Q E
def Aa(C:ac4)(m:Str)(sp:Sp)(dB:List V)(E:XK)(ta:TE)(t:TA):TE:=λL H Q=>ta L H λx H1=>∃ a dx fs,x = .ref a/\H1 a=O (.ins C dx fs)/\fs.lookup m=J /\
 t L H1 λvs H2=>sp (x::(vs++dB)) H2 Q E
def Ab(C:ac4)(sp:Sp)(dB:List V)(E:XK)(t:TA):TE:=λL H Q=>t L H λvs H1=>∀ x dx,H1 x=J->H1 dx=J->dx≠x ->
 sp (.ref x::(vs++dB)) (upd (upd H1 dx (.own x)) x (.ins C dx [])) (λv H2=>v = .non/\Q (.ref x) H2) E
def Binds(K:acM)(fd:agl)(ps:List Str)(ds:List acU):Prop :=
 ∀ (s:ac8) (us:List acU),K.In s.heap->(us++ds).length=ps.length->akg s fd #[us,[]] (ps.zip (us++ds))
theorem Binds.all{K:acM}{fd:agl}{ps:List Str}(h:∀ us:List acU,us.length=ps.length->bindArgs fd #[us,[]]=pure (ps.zip us)):Binds K fd ps []:=λs us y hl=>by rw[aiX] at hl ⊢;exact .of_eq (h us hl)
def Passes(CX:iu)(X:Cx)(E:XK):Prop:=∀ (pins:List (ac4 × Obj)) (L:St) (H:Hp) (s:ac8) (e:acU) (s':ac8),Inv X pins L H s->CX X.stack H s E e s'->X.xe e s'
section
theorem Ac(F:dH X.prog X.w X.K X.mg X.base CX k f fd ps sp)(hr:bF k X.A)(hb:Binds X.K fd ps ds)(hd:Vals dB ds)(hx:Passes CX X E)(I:Inv X pins L H s)(r:Vals vs us)(h:sp (vs++dB) H Q E):adi (model X.prog X.w) X.A (call (.ref f) us) (EP X pins L Q) X.xe s:=by
 have r2:Vals (vs++dB) (us++ds):=r.append hd;have hl:(us++ds).length=ps.length:=by rw[<- r2.length];exact F.len _ _ _ _ h
 refine aji (agr (F.run X.A X.stack s H #[us,[]] (us++ds) (vs++dB) Q E hr I.jY (hb s us I.cz hl) r2 h) λr s' hq=>?_);cases r with
 | error e=>exact hx pins L H s e s' I hq
 | ok fl =>
  cases fl with
  | ret u=>exact I.after hq
  | next=>exact afo hq
  | brk=>exact afo hq
  | cont=>exact afo hq
theorem dI(F:dH X.prog X.w X.K X.mg X.base CX k f fd ps sp)(hr:bF k X.A)(hg:Gl X x)(hm:X.mg x=O (.ref f))(hk:afy X.K (.ref f)=true)(hb:Binds X.K fd ps ds)(hd:Vals dB ds)(hx:Passes CX X E)(ha:PA X (e::es) t)(gn:(x == ("__debug__" : Str))=false:=by decide)(he:adp (e::es) X.env=(false,eval e X.env)::adp es X.env:=by rfl)(dX:(afn pos (adp es X.env)).any (·.1)=false:=by rfl) :
 PE X (.Call (.Name x p) (e::es) [] pos) (wN sp dB E t):=by
 intro pins s L H Q I h;refine aeu (qr I hg hm ?_ gn);refine ahG (h₀:=X.base) I.ok.mod.kin hk (aC (ha pos pins s L H _ I h) λus s1 ⟨vs,H1,I1,r,q⟩=>#[I1.cz,?_]) he dX;exact Ac F hr hb hd hx I1 r q
theorem fP(he:PE X o ta)(c:fq X.K C)(hm:Meth X.K C m f)(F:dH X.prog X.w X.K X.mg X.base CX k f fd ps sp)(hr:bF k X.A)(hb:Binds X.K fd ps ds)(hd:Vals dB ds)(hx:Passes CX X E)(ha:PA X (e::es) t)(de:adp (e::es) X.env=(false,eval e X.env)::adp es X.env:=by rfl)(dX:(afn pos (adp es X.env)).any (·.1)=false:=by rfl)(ht:eval (.Call (.Attribute o m apos) (e::es) [] pos) X.env=(do
 let ov <- eval o X.env
 alK apos.atName
 let (f,first) <- holding [ov] (ak3 ov m pl)
 callWith pos f first (afn pos (adp (e::es) X.env)) (akZ pos (aij [] X.env))):=by rfl) :
 PE X (.Call (.Attribute o m apos) (e::es) [] pos) (Aa C m sp dB E ta t):=by
 intro pins s L H Q I h;refine aiY (pl:=pl) (aC (he pins s L H _ I h) λu s1 zq=>?_) ht;obtain⟨x,H1,I1,rx,a,dx,fs,ex,ea,l,q⟩:=zq;subst ex;obtain rfl:u=adB a:=rx;refine GX I1 ea c hm l ?_;refine ahG (first:=[.ref a]) (h₀:=X.base) I.ok.mod.kin hm.kp (aC (ha pos pins s1 L H1 _ I1 q) λus s2 ⟨vs,H2,I2,r,q2⟩=>#[I2.cz,?_]) de dX;exact Ac (us:=.ref a::us) (vs:=.ref a::vs) F hr hb hd hx I2 (.cons rfl r) q2
theorem G3(he:PE X o ta)(c:fq X.K C)(hm:Meth X.K C m f)(F:dH X.prog X.w X.K X.mg X.base CX k f fd ps sp)(hr:bF k X.A)(hb:Binds X.K fd ps ds)(hd:Vals dB ds)(hx:Passes CX X E)(ht:eval (.Call (.Attribute o m apos) [] [] pos) X.env=(do
 let ov <- eval o X.env
 alK apos.atName
 let (f,first) <- holding [ov] (ak3 ov m pl)
 callWith pos f first (afn pos (adp [] X.env)) (akZ pos (aij [] X.env))):=by rfl) :
 PE X (.Call (.Attribute o m apos) [] [] pos) (Aa C m sp dB E ta sH):=by
 intro pins s L H Q I h;refine aiY (pl:=pl) (aC (he pins s L H _ I h) λu s1 zq=>?_) ht;obtain⟨x,H1,I1,rx,a,dx,fs,ex,ea,l,q⟩:=zq;subst ex;obtain rfl:u=adB a:=rx;refine GX I1 ea c hm l ?_;exact ajH (first:=[.ref a]) I1.cz hm.kp (Ac (us:=[.ref a]) (vs:=[.ref a]) F hr hb hd hx I1 (.cons rfl .nil) q)
structure Mk(K:acM)(C f:ac4):Prop where
 makes:ahl K C=true
 init:adT K (.ref C) "__init__" = O (O (.ref f))
 fn:aiU K (.ref f)=true
 kp:afy K (.ref C)=true
theorem G4(M:Mk X.K C f)(F:dH X.prog X.w X.K X.mg X.base CX k f fd ps sp)(hr:bF (k+1) X.A)(hb:Binds X.K fd ps ds)(hd:Vals dB ds)(hx:Passes CX X E)(I:Inv X pins L H s)(r:Vals vs us)(h:∀ x dx,H x=J->H dx=J->dx≠x->sp (.ref x::(vs++dB)) (upd (upd H dx (.own x)) x (.ins C dx [])) (λv H2=>v = .non/\Q (.ref x) H2) E) :
 adi (model X.prog X.w) X.A (call (.ref C) us) (EP X pins L Q) X.xe s:=by
 have hq:=h (s.heap.objs.size+1) s.heap.objs.size (I.ar.fresh (ahm _)) (I.ar.fresh (acS _)) (adk (agk _));have I2:=Inv.made (C:=C) I;have r2:Vals (V.ref (s.heap.objs.size+1)::(vs++dB)) (adB (s.heap.objs.size+1)::(us++ds)):=.cons rfl (r.append hd);have hl:(adB (s.heap.objs.size+1)::us++ds).length=ps.length:=by have e:=r2.length;rw[F.len _ _ _ _ hq] at e;exact e.symm
 refine aji (Pr (f:=f) I.cz M.makes M.init (beq_iff_eq.mp M.fn) (agr (F.run _ X.stack _ _ #[adB (s.heap.objs.size+1)::us,[]] (adB (s.heap.objs.size+1)::(us++ds)) _ _ E (hr.make C us [])
  (I2.jY.make C us []) (hb _ (adB (s.heap.objs.size+1)::us) I2.cz hl) r2 hq) λr s' gP=>?_))
 cases r with
 | error e=>exact hx pins L _ _ e s' I2 gP
 | ok fl =>
  cases fl with
  | ret u =>
   obtain⟨v,H',I3,rv,ev,q3⟩:=I2.after gP;subst ev;exact#[rv,#[V.ref (s.heap.objs.size+1),H',I3,Y,q3]]
  | next=>exact afo gP
  | brk=>exact afo gP
  | cont=>exact afo gP
theorem Ad(M:Mk X.K C f)(F:dH X.prog X.w X.K X.mg X.base CX k f fd ps sp)(hr:bF (k+1) X.A)(hg:Gl X x)(hm:X.mg x=O (.ref C))(hb:Binds X.K fd ps ds)(hd:Vals dB ds)(hx:Passes CX X E)(ha:PA X (e::es) t)(gn:(x == ("__debug__" : Str))=false:=by decide)(he:adp (e::es) X.env=(false,eval e X.env)::adp es X.env:=by rfl)(dX:(afn pos (adp es X.env)).any (·.1)=false:=by rfl) :
 PE X (.Call (.Name x p) (e::es) [] pos) (Ab C sp dB E t):=by
 intro pins s L H Q I h;refine aeu (qr I hg hm ?_ gn);refine ahG (h₀:=X.base) I.ok.mod.kin M.kp (aC (ha pos pins s L H _ I h) λus s1 ⟨vs,H1,I1,r,q⟩=>#[I1.cz,?_]) he dX;exact G4 M F hr hb hd hx I1 r q
theorem PJ(M:Mk X.K C f)(F:dH X.prog X.w X.K X.mg X.base CX k f fd ps sp)(hr:bF (k+1) X.A)(hg:Gl X x)(hm:X.mg x=O (.ref C))(hb:Binds X.K fd ps ds)(hd:Vals dB ds)(hx:Passes CX X E)(gn:(x == ("__debug__" : Str))=false:=by decide):PE X (.Call (.Name x p) [] [] pos) (Ab C sp dB E sH):=by intro pins s L H Q I h;refine aeu (qr I hg hm ?_ gn);exact ajH I.cz M.kp (G4 (us:=[]) M F hr hb hd hx I .nil h)
end
structure sI(N P:List Str)(sc:ajl):Prop where
 kind:sc.kind = .function
 co:sc.isCoroutine=false
 gen:sc.isGenerator=false
 nd:N.Nodup
 pre:N.take P.length=P
 par:∀ x∈P,sc.names.lookup x=O .local∨sc.names.lookup x=O .cell
 nofree:∀ y∈sc.names,y.2 ≠ .free
theorem G5{ah2:Str->Option ajj}{x:Str}:∀ {binds:List (Str × acU)} {m:Str->Option acU},(∀ v,(x,v)∉binds)->amb ah2 binds m x=m x
 | [],_,_=>rfl
 | (n,v)::r,m,h=>by
  unfold amb;rw[G5 λw hw=>h w (adV _ hw)];split
  .have:x≠n:=by rintro rfl;exact h v afP
   simp[this]
  .rfl
theorem G6{ah2:Str->Option ajj}{x:Str}:∀ {binds:List (Str × acU)} {m:Str->Option acU},(∀ v,(x,v)∉binds)->amc ah2 binds m x=m x
 | [],_,_=>rfl
 | (n,v)::r,m,h=>by
  unfold amc;rw[G6 λw hw=>h w (adV _ hw)];split
  .rfl
  .have:x≠n:=by rintro rfl;exact h v afP
   simp[this]
theorem G7{ah2:Str->Option ajj}{x:Str}{v:acU}:∀ {P:List Str} {vs:List acU} {i:Nat} {m:Str->Option acU},P.Nodup->P[i]?=O x->vs[i]?=O v->ah2 x=O .local ->
 amb ah2 (P.zip vs) m x=O v
 | [],_,_,_,_,h,_,_=>by simp at h
 | _::_,[],_,_,_,_,h,_=>by simp at h
 | p::P,w::vs,0,m,nd,h1,h2,hk=>by simp at h1 h2;subst h1;subst h2;show amb ah2 ((p,w)::P.zip vs) m p=_;unfold amb;rw[G5 λv hv=>(aeI.mp nd).1 (agz hv).1,if_pos hk];simp
 | p::P,w::vs,i+1,m,nd,h1,h2,hk=>by show amb ah2 ((p,w)::P.zip vs) m x=_;unfold amb;exact G7 (i:=i) (aeI.mp nd).2 (by simpa using h1) (by simpa using h2) hk
theorem G8{ah2:Str->Option ajj}{x:Str}{v:acU}:∀ {P:List Str} {vs:List acU} {i:Nat} {m:Str->Option acU},P.Nodup->P[i]?=O x->vs[i]?=O v->ah2 x≠O .local ->
 amc ah2 (P.zip vs) m x=O v
 | [],_,_,_,_,h,_,_=>by simp at h
 | _::_,[],_,_,_,_,h,_=>by simp at h
 | p::P,w::vs,0,m,nd,h1,h2,hk=>by simp at h1 h2;subst h1;subst h2;show amc ah2 ((p,w)::P.zip vs) m p=_;unfold amc;rw[G6 λv hv=>(aeI.mp nd).1 (agz hv).1,if_neg hk];simp
 | p::P,w::vs,i+1,m,nd,h1,h2,hk=>by show amc ah2 ((p,w)::P.zip vs) m x=_;unfold amc;exact G8 (i:=i) (aeI.mp nd).2 (by simpa using h1) (by simpa using h2) hk
noncomputable def start(N:List Str)(vs:List V):St:=vs.map O++acY (N.length-vs.length) J
noncomputable def ft(CX:iu)(P:adP)(w:aes)(K:acM)(mg:Str->Option acU)(base:ae7)(N:List Str)(qual:Str)(scope:ajl)(f:ac4)(cd:acU)(A:ae2)(outer:List Env)(s:ac8)(H:Hp)(E:XK):Cx where
 prog:=P
 w:=w
 K:=K
 mg:=mg
 base:=base
 A:=A.deeper (ae4 qual scope s.heap.objs.size f cd)
 N:=N
 s₀:=s
 H₀:=H
 env:=ae4 qual scope s.heap.objs.size f cd
 outer:=outer
 stack:=ae4 qual scope s.heap.objs.size f cd::outer
 ex:=[]
 calm:=true
 fn:=λy=>true
 pn:=[]
 xe:=λe s'=>adi (model P w) (A.deeper (ae4 qual scope s.heap.objs.size f cd)) (leaving (ae4 qual scope s.heap.objs.size f cd) e) (λy sJ=>CX outer H s E e sJ) (λe' sJ=>CX outer H s E e' sJ) s'
theorem G9{sc:ajl}{n:Nat}{x:Str}(h:sc.names.lookup x=O .cell):∃ c,(cellsFrom n sc.names []).lookup x=O c:=by have q:=aiD sc.names n [] (.inl h);exact ags.mp q
theorem PK{CX:iu}{P:adP}{w:aes}{K:acM}{mg:Str->Option acU}{base:ae7}{N ps:List Str}{qual:Str}{scope:ajl}{f:ac4}{cd:acU}{A:ae2}{outer:List Env}{s s1:ac8}{H:Hp}{E:XK}{us:List acU}{vs:List V}
 (S:sI N ps scope) (hd:A.handled=J) (e0:mJ P w K mg base A outer s H) (hl:vs.length=ps.length) (r:Vals vs us)
 (x:InCallC s s.heap.objs.size (amb (ae4 qual scope s.heap.objs.size f cd).kindOf (ps.zip us) λm=>J) (cellsFrom (s.heap.objs.size+1) scope.names []) (amc (ae4 qual scope s.heap.objs.size f cd).kindOf (ps.zip us) λm=>J) s1) :
 Inv (ft CX P w K mg base N qual scope f cd A outer s H E) [] (start N vs) H s1:=by
 have dX:ps.length<=N.length:=by have:=congrArg List.length S.pre;rw[afp] at this;omega
 obtain⟨h1,tk,rfl,hk⟩:=x.done;have ix:∀ b:ac4,b∉(ft CX P w K mg base N qual scope f cd A outer s H E).ex:=λb z=>absurd (show b∈([]:List ac4) from z) (by simp);refine#[#[e0.mod,S.kind,Y,Y,acS _,λy z c h1 h2=>?_,λy hy=>?_,λy c m h=>?_,λm=>hd,Around.frames_deeper e0.frames,.inr #[Y,Y],λb z=>absurd z (ix b),e0.bs,e0.bsz,λb m m=>ix b,λb z=>absurd z (ix b),e0.ik,e0.frf],
  rfl,e0.bare,Un.kept hk,#[_,x.toInCall.ns,λi y v h1 h2 h3=>?_],λy c h=>#[_,x.cell y c h],e0.ar.fresh (acS _),λy c h=>?_,λp hp=>absurd (show p∈([]:List (ac4 × Obj)) from hp) (by simp),e0.ar.kept hk,?_]
 .exact name_of_addr x.apart (afe h1) (afe h2)
 .have hy:scope.names.lookup y=O .cell∨scope.names.lookup y=O .free:=hy;rcases hy with hy|hy
  .exact G9 hy
  .exact absurd Y (S.nofree _ (afe hy))
 .exact afS (x.above y c (afe h))
 .have hi:i<vs.length:=by
   unfold start at h2;by_cases hi:i<vs.length
   .exact hi
   .rw[ad6 (by simpa using hi)] at h2;rw[adY] at h2;split at h2<;>cases h2
  have ha:vs[i]?=O v:=by
   unfold start at h2;rw[aen (by simpa using hi),ac1] at h2;cases e:vs[i]? with
   | none=>rw[e] at h2;cases h2
   | some a=>rw[e] at h2;cases h2;rfl
  obtain⟨u,hu,rv⟩:=r.get ha;have hp:ps[i]?=O y:=by rw[<- S.pre,List.getElem?_take_of_lt (by omega)];exact h1
  have Ha:ps.Nodup:=by rw[<- S.pre];exact S.nd.sublist (List.take_sublist _ _)
  refine#[u,rv,?_];rcases S.par y (ads hp) with k|k
  .exact .inl #[k,G7 Ha hp hu k]
  .obtain⟨c,e⟩:=G9 (n:=s.heap.objs.size+1) k;refine .inr #[.inl k,c,e,?_];have q:=x.cell y c e;rw[G8 Ha hp hu (by show scope.names.lookup y≠_;rw[k];decide)] at q;exact q
 .exact e0.ar.fresh (afS (x.above y c (afe h)))
 .unfold start;show _=N.length;rw[ac7,acN,adA];omega
theorem Hb{CX:iu}{P:adP}{w:aes}{K:acM}{mg:Str->Option acU}{base:ae7}{k:Nat}{f:ac4}{name qual:Str}{params:Arguments}{body:List aeO}{scope:ajl}{dV kV doc pm bh ct oc:acU}{an od:Option ac4}
 {jZ:Array (Option acU)} {N ps:List Str} {sp:Sp} (lk:K.lookup f=O #[oc,od,.func (afU name qual params body scope dV kV doc pm an bh ct),jZ]) (gd:ahP K bh qual=true) (S:sI N ps scope)
 (len:∀ vs H Q E,sp vs H Q E->vs.length=ps.length)
 (fQ:∀ (A:ae2) (outer:List Env) (s:ac8) (H:Hp) (vs:List V) (Q:VK) (E:XK),bF k (A.deeper (ae4 qual scope s.heap.objs.size f bh))->sp vs H Q E ->
   ∃ t,aV (ft CX P w K mg base N qual scope f bh A outer s H E) body t/\t { nx:=λ_ H'=>Q .non H',rt:=Q } (start N vs) H) :
 dH P w K mg base CX (k+1) f (afU name qual params body scope dV kV doc pm an bh ct) ps sp:=by
 refine#[len,λA outer s H args us vs Q E hr e0 hb r mK=>?_];have hl:=len _ _ _ _ mK;have KX:K.In s.heap:=e0.mod.kin.keeps λb o e=>(e0.bs b o e).1;have lim:s.heap.NoLimit:=e0.mod.nolimit.keeps λb o e=>(e0.bs b o e).1;have PL:∀ y∈ps.zip us,scope.names.lookup y.1=O .local∨(scope.names.lookup y.1=O .cell/\((cellsFrom (s.heap.objs.size+1) scope.names []).lookup y.1).isSome=true):=λ⟨n,v⟩ hy=>by
  rcases S.par n (agz hy).1 with q|q
  .exact .inl q
  .exact .inr #[q,aiD _ _ _ (.inl q)]
 refine codeAny_call_function hr.depth (KX _ _ lk) Y S.co S.gen Y (PySem.W.codeRec_of KX gd) (hb _ _ _ _ ?_);refine wpAny_newFunctionEnv_cells S.kind PL λenv he s1 x=>?_;subst he;refine#[lim.keeps x.toInCall.keep,codeAny_func ?_];obtain⟨t,ht,hq⟩:=fQ A outer s H vs Q E (hr.deeper _) mK;have I:Inv (ft CX P w K mg base N qual scope f bh A outer s H E) [] (start N vs) H s1:=PK S hr.hd e0 hl r x;refine aea (ht [] s1 (start N vs) H _ I hq) (λfl s' hs=>?_) λe s' hs=>hs;have fin:∀ {σ':St} {H':Hp} {v:V} {u:acU},Inv (ft CX P w K mg base N qual scope f bh A outer s H E) [] σ' H' s'->RelV v u->Q v H'->CE outer P w H s Q u s' :=
  λ{σ' H' v u} J9q rv q=>#[v,H',J9q.os,J9q.bare,J9q.base,J9q.ar,rv,q]
 cases fl with
 | ret u =>
  obtain⟨v,σ',H',J9q,rv,q⟩:=hs;exact fin J9q rv q
 | next =>
  obtain⟨σ',H',J9q,q⟩:=hs;exact fin (v:=V.non) (u:=Value.none) J9q Y q
 | brk =>
  obtain⟨_,_,_,q⟩:=hs;exact afo q
 | cont =>
  obtain⟨_,_,_,q⟩:=hs;exact afo q
section
variable{X:Cx}{x:Str}{p pos:Pos}{e:agY}{es:List agY}{t:TA}{id T:String}{r:List V->Hp->VK->Prop}
def Ae(r:List V->Hp->VK->Prop)(t:TA):TE:=λL H Q=>t L H λvs H1=>r vs H1 Q
theorem bA(hc:fj X (.builtin id) r)(hg:Gl X x)(hm:X.mg x=J)(hv:adJ x=O (.builtin id))(ha:PA X (e::es) t)(hn:x ≠ "__name__" := by decide)(gn:(x == ("__debug__" : Str))=false:=by decide)(he:adp (e::es) X.env=(false,eval e X.env)::adp es X.env:=by rfl)(dX:(afn pos (adp es X.env)).any (·.1)=false:=by rfl):PE X (.Call (.Name x p) (e::es) [] pos) (Ae r t):=by intro pins s L H Q I h;refine aeu (fI I hg hm hv ?_ hn gn);exact agZ (aC (ha pos pins s L H _ I h) λus s1 ⟨vs,H1,I1,r1,q1⟩=>hc pins s1 L H1 vs us Q I1 r1 q1) he dX
theorem gp(hc:fj X (.type T) r)(hg:Gl X x)(hm:X.mg x=J)(hv:adJ x=O (.type T))(ha:PA X (e::es) t)(hn:x ≠ "__name__" := by decide)(gn:(x == ("__debug__" : Str))=false:=by decide)(he:adp (e::es) X.env=(false,eval e X.env)::adp es X.env:=by rfl)(dX:(afn pos (adp es X.env)).any (·.1)=false:=by rfl):PE X (.Call (.Name x p) (e::es) [] pos) (Ae r t):=by intro pins s L H Q I h;refine aeu (fI I hg hm hv ?_ hn gn);exact adD (aC (ha pos pins s L H _ I h) λus s1 ⟨vs,H1,I1,r1,q1⟩=>hc pins s1 L H1 vs us Q I1 r1 q1) he dX
end
end L2
namespace HT
open PySem PyProof.Rows
noncomputable def lexLt:List Int->List Int->Bool
 | [],[]=>false
 | [],_::_=>true
 | _::_,[]=>false
 | x::xs,y::ys=>if x=y then lexLt xs ys else decide (x<y)
theorem mL(x y:Int)(xs ys:List Int):lexLt (x::xs) (y::ys)=if x=y then lexLt xs ys else decide (x<y):=rfl
theorem PM:lexLt [] []=false:=rfl
section
open PySem.SeqAt
open PySem.AutoSeq1 (wpAny_loadPart')
open PySem.MeetsSeq PySem.MeetsSeq2 PySem.MeetsSeq3
end
section
noncomputable def fu(n d:Nat):Option Int->Nat
 | none=>d
 | some v=>if v<0 then (v+(n:Int)).toNat else min v.toNat n
theorem PN(n d:Nat):fu n d J=d:=rfl
theorem PQ(n d k:Nat):fu n d (O (k:Int))=min k n:=by show (if (k:Int)<0 then ((k:Int)+(n:Int)).toNat else min (k:Int).toNat n)=min k n;rw[if_neg (by omega),adL]
end
end HT
namespace L2
open PySem PySem.Spec PyProof.Rows
abbrev TO:=St->Hp->(Option Int->Hp->Prop)->Prop
def PO(X:Cx)(e:Option agY)(t:TO):Prop :=
 ∀ (pins:List (ac4 × Obj)) (s:ac8) (L:St) (H:Hp) (Q:Option Int->Hp->Prop),Inv X pins L H s->t L H Q ->
  adi (model X.prog X.w) X.A (evalPart e X.env) (λu s'=>∃ o H',Inv X pins L H' s'/\IsPart u o/\Q o H') X.xe s
noncomputable def Hc:TO:=λy H Q=>Q J H
noncomputable def Hd(t:TE):TO:=λL H Q=>t L H λx H1=>∃ i,x = .int i/\Q (O i) H1
theorem intsAre_of:∀ {us:List acU},Vals (ns.map V.int) us->ahQ us ns:=by
 induction ns with
 | nil=>intro us r;rw[ag0] at r;cases r;exact .nil
 | cons n ns ih =>
  intro us r;rw[adg] at r;cases r with
  | cons r1 r2 =>
   obtain⟨t,e⟩:=r1;subst e;exact .cons n t (ih r2)
section
variable{X:Cx}{e:agY}{te:TE}{lo hi:Option agY}{tl th:TO}{pos p2:Pos}
theorem mM:PO X J Hc:=by intro pins s L H Q I h;rw[ajX];exact acQ #[J,H,I,.none,h]
theorem mO(h:PE X e te):PO X (O e) (Hd te):=by intro pins s L H Q I hw;rw[evalPart_some];refine aC (h pins s L H _ I hw) λu s1 zq=>?_;obtain⟨x,H1,I1,r1,q1⟩:=zq;obtain⟨i,rfl,q⟩:=q1;obtain⟨t,rfl⟩:=r1;exact#[O i,H1,I1,.int i t,q]
def Af(X:Cx)(r:V->Option Int->Option Int->Hp->VK->Prop):Prop :=
 ∀ (pins:List (ac4 × Obj)) (s:ac8) (L:St) (H:Hp) (x:V) (v vl vu:acU) (lo hi:Option Int) (sl:ac4) (Q:VK),Inv X pins L H s->RelV x v->s.heap.IsSliceOf sl vl vu .none->IsPart vl lo->IsPart vu hi->r x lo hi H Q ->
  ∃ T id,akh (.type T) "__getitem__" = pure (O (.builtin id))/\s.TypeIs v T/\adi (model X.prog X.w) X.A (ak4 v (.ref sl)) (EP X pins L Q) X.xe s
def He(r:V->Option Int->Option Int->Hp->VK->Prop)(te:TE)(tl th:TO):TE:=λL H Q=>te L H λx H1=>tl L H1 λl H2=>th L H2 λu H3=>r x l u H3 Q
theorem mP{r:V->Option Int->Option Int->Hp->VK->Prop}(hr:Af X r)(he:PE X e te)(hl:PO X lo tl)(hu:PO X hi th):PE X (.Subscript e (.Slice lo hi J p2) pos) (He r te tl th):=by intro pins s L H Q I h;refine aki (aC (he pins s L H _ I h) λv s1 zq=>?_);obtain⟨x,H1,I1,r1,q1⟩:=zq;refine wpAny_Slice (aC (hl pins s1 L H1 _ I1 q1) λvl s2 ⟨l,H2,I2,pl,q2⟩=>aC (hu pins s2 L H2 _ I2 q2) λvu s3 zq=>?_);obtain⟨u,H3,I3,pu,q3⟩:=zq;rw[ajX];refine acQ ?_;have I4:Inv X pins L H3 { s3 with heap:=s3.heap.push { cls:=.type "slice",data:=.fields (List.toArray [vl,vu,.none]) } }:=I3.kept (t':=s3.toks) λb ob q=>acL _ q;obtain⟨T,id,hT,ht,hg⟩:=hr pins { s3 with heap:=s3.heap.push { cls:=.type "slice",data:=.fields (List.toArray [vl,vu,.none]) } } L H3 x v vl vu l u s3.heap.objs.size Q I4 r1 (Heap.IsSliceOf.new ..) pl pu q3;show adi (model X.prog X.w) X.A (aik e (.Slice lo hi J p2) v (.ref s3.heap.objs.size)) (EP X pins L Q) X.xe { s3 with heap:=s3.heap.push { cls:=.type "slice",data:=.fields (List.toArray [vl,vu,.none]) } };exact tail_any (ops:=[.ref s3.heap.objs.size,v]) ht hT hg (by with_unfolding_all rfl)
noncomputable def j4(xs:List V)(lo hi:Option Int):List V:=(xs.drop (HT.fu xs.length 0 lo)).take (HT.fu xs.length xs.length hi-HT.fu xs.length 0 lo)
theorem PR(xs:List V)(lo hi:Option Int):(j4 xs lo hi).length<=xs.length:=by unfold j4;rw[afp,aiw];omega
end
noncomputable def iy(n:Nat)(i:Int):Option Nat:=if 0<=i then (if i<n then O i.toNat else J) else if -(n:Int)<=i then O (i+n).toNat else J
noncomputable def dq{α:Type}(xs:List α)(i:Int):Option α:=(iy xs.length i).bind λj=>xs[j]?
theorem Hf(h:iy n i=O j):seqIndex? i n=O j/\j<n/\-(n:Int)<=i/\i<n:=by
 unfold iy at h;by_cases h0:0<=i
 .rw[if_pos h0] at h;by_cases h1:i<n
  .rw[if_pos h1] at h;have e:i.toNat=j:=Option.some.inj h;exact#[by rw[ak5 h0 h1,e],by omega,by omega,h1]
  .rw[if_neg h1] at h;cases h
 .rw[if_neg h0] at h;by_cases h1 : -(n:Int)<=i
  .rw[if_pos h1] at h;have e:(i+n).toNat=j:=Option.some.inj h;exact#[by rw[aky (by omega) h1,e],by omega,h1,by omega]
  .rw[if_neg h1] at h;cases h
theorem Ag(h:dq xs i=O v):∃ j,seqIndex? i xs.length=O j/\xs[j]?=O v/\j<xs.length/\-(xs.length:Int)<=i/\i<xs.length:=by
 unfold dq at h;cases e:iy xs.length i with
 | none=>rw[e] at h;cases h
 | some j =>
  rw[e] at h;obtain⟨h1,h2,h3,h4⟩:=Hf e;exact#[j,h1,h,h2,h3,h4]
theorem cZ{α:Type}{xs:List α}{j:Nat}{v:α}(h:xs[j]?=O v):dq xs (j:Int)=O v:=by
 have hj:j<xs.length:=(acX.mp h).1;have e:iy xs.length (j:Int)=O j:=by unfold iy;rw[if_pos (by omega),if_pos (by omega)];simp
 unfold dq;rw[e];exact h
theorem wO(xs:List α)(v:α):dq (xs++[v]) (-1)=O v:=by
 have hl:(xs++[v]).length=xs.length+1:=by simp
 have e:iy (xs++[v]).length (-1)=O xs.length:=by
  unfold iy;rw[hl,if_neg (by decide),if_pos (by omega)]
  congr 1
  omega
 unfold dq;rw[e];show (xs++[v])[xs.length]?=O v;simp
def Ah(b:agY):Prop:=∀ o i,subscripted b false o i=operate [o,i] (ak4 o i)
def j5(X:Cx)(r:R2):Prop :=
 ∀ (value slice:agY) (pins:List (ac4 × Obj)) (s:ac8) (L:St) (H:Hp) (x y:V) (v u:acU) (Q:VK),Inv X pins L H s->RelV x v->RelV y u->r x y H Q ->
  subscripted slice false v u=operate [v,u] (ak4 v u)->adi (model X.prog X.w) X.A (aik value slice v u) (EP X pins L Q) X.xe s
def oy(X:Cx)(id:String)(r:V->List V->Hp->VK->Prop):Prop :=
 ∀ (pins:List (ac4 × Obj)) (s:ac8) (L:St) (H:Hp) (x:V) (xs:List V) (v:acU) (us:List acU) (Q:VK),Inv X pins L H s->RelV x v->Vals xs us->r x xs H Q ->
  adi (model X.prog X.w) X.A (call (.builtin id) (v::us)) (EP X pins L Q) X.xe s
section
variable{X:Cx}{a b:agY}{ta tb:TE}{pos:Pos}
theorem j5.or(h:j5 X r)(h':j5 X r'):j5 X (λx y H Q=>r x y H Q∨r' x y H Q):=by
 intro value slice pins s L H x y v u Q I rx ry q hs;rcases q with q|q
 .exact h value slice pins s L H x y v u Q I rx ry q hs
 .exact h' value slice pins s L H x y v u Q I rx ry q hs
theorem cA(hr:j5 X r)(ha:PE X a ta)(hb:PE X b tb)(hs:Ah b):PE X (.Subscript a b pos) (ou r ta tb):=by intro pins s L H Q I h;exact aki (zT ha hb I h λv u s2 x y H2 I2 rx ry q=>hr a b pins s2 L H2 x y v u Q I2 rx ry q (hs _ _))
def Hg(K:acM):R2:=λx y H Q=>∃ p xs i v,x = .ref p/\y = .int i/\ah K H p xs/\dq xs i=O v/\Q v H
def Hh(K:acM):R2:=λx y H Q=>∃ p xs i v,x = .ref p/\y = .int i/\au K H p xs/\dq xs i=O v/\Q v H
def Hi:R2:=λx y H Q=>∃ z i c,x = .str z/\y = .int i/\z.length<=adh/\dq z.cps.toList i=O c/\Q (.str #[(List.toArray [c])]) H
theorem PU:j5 X (Hg X.K):=by
 intro value slice pins s L H x y v u Q I rx ry h hs;obtain⟨p,xs,i,z,rfl,rfl,hq,he,q⟩:=h;cases rx;obtain⟨t,rfl⟩:=ry;obtain⟨ai,r,pl,hz⟩:=I.list hq;obtain⟨j,h1,h2,h3,h4,h5⟩:=Ag he;obtain⟨w,ew,iz⟩:=r.get h2;have hl:=r.length;have hn:=sG;have fin:EP X pins L Q w s:=#[z,H,I,iz,q]
 by_cases h0:0<=i
 .have hj:i.toNat=j:=by rw[ak5 h0 h5] at h1;exact Option.some.inj h1
  exact item_listR pl.isList h0 (by omega) (by rw[hj];simpa using ew) fin hs
 .have hj:(i+(ai.toArray.size:Int)).toNat=j:=by rw[aky (by omega) h4] at h1;rw[ac5,<- hl];exact Option.some.inj h1
  exact aiE (x:=w) pl.isList.typeIs slot_list_getitem.lookup
   (wpAny_getItem_list_neg (Q:=λr s'=>r=w/\EP X pins L Q r s') pl.isList (by omega) (by rw[ac5]<;>omega) (by omega) (by rw[hj];simpa using ew) #[Y,fin]) hs
theorem PV:j5 X (Hh X.K):=by
 intro value slice pins s L H x y v u Q I rx ry h hs;obtain⟨p,xs,i,z,rfl,rfl,hq,he,q⟩:=h;cases rx;obtain⟨t,rfl⟩:=ry;obtain⟨ai,r,pl,hz⟩:=I.tuple hq;obtain⟨j,h1,h2,h3,h4,h5⟩:=Ag he;obtain⟨w,ew,iz⟩:=r.get h2;have hl:=r.length;have hn:=sG;have fin:EP X pins L Q w s:=#[z,H,I,iz,q]
 exact aiE (x:=w) pl.typeIs slot_tuple_getitem.lookup
  (getItem_tuple (j:=j) (Q:=λr s'=>r=w/\EP X pins L Q r s') pl (by omega) (by omega) (by rw[ac5,<- hl];exact h1) (by simpa using ew) #[Y,fin]) hs
theorem PX:j5 X Hi:=by
 intro value slice pins s L H x y v u Q I rx ry h hs;obtain⟨z,i,c,rfl,rfl,hz,he,q⟩:=h;obtain⟨t,rfl⟩:=rx;obtain⟨t',rfl⟩:=ry;obtain⟨j,h1,h2,h3,h4,h5⟩:=Ag he;have hl:z.cps.toList.length=z.length:=by simp[Str.length]
 rw[hl] at h1 h4 h5;have hn:=sG;exact tail_any (ah3 s z t) slot_str_getitem.lookup (getItem_str (c:=c) (by
  have e1:decide (i < -(2 ^ 63:Int))=false:=decide_eq_false (by omega);have e2:decide (i ≥ 2 ^ 63)=false:=decide_eq_false (by omega);rw[e1,e2,alL]) (by rw[h1];simpa using h2) #[.str #[(List.toArray [c])],H,I.tok _,#[_,Y],q]) hs
def oz(K:acM):R2:=λx y H Q=>Hg K x y H Q∨Hh K x y H Q∨Hi x y H Q
theorem cB:j5 X (oz X.K):=PU.or (PV.or PX)
theorem PY(ai:List acU)(n j:Nat)(u:acU):adC (·.setIfInBounds j u) { cls:=.type "list",data:=.seq ai.toArray n } = { cls:=.type "list",data:=.seq (ai.set j u).toArray n }:=by simp[adC]
theorem Inv.lst(I:Inv X pins L H s)(h:H p=O (.lst xs)) :
 ∃ (ai:List acU) (n:Nat),Vals xs ai/\s.heap.get? p=O { cls:=.type "list",data:=.seq ai.toArray n }/\xs.length<=adh:=by
 obtain⟨z,ai,n,r,e⟩:=I.ar p _ h;exact#[ai,n,r,e,z]
theorem Inv.PZ{pins:List (ac4 × Obj)}{L:St}{H:Hp}{s:ac8}{p:ac4}{xs ys:List V}{ai its':List acU}{n n':Nat}{f:Obj->Obj}(I:Inv X pins L H s)(h:H p=O (.lst xs))
 (ho:s.heap.get? p=O { cls:=.type "list",data:=.seq ai.toArray n }) (hf:f { cls:=.type "list",data:=.seq ai.toArray n } = { cls:=.type "list",data:=.seq its'.toArray n' }) (r:Vals ys its') (hz:ys.length<=adh) (t:Nat) :
 Inv X pins L (upd H p (.lst ys)) { s with heap:=s.heap.update p f,toks:=t }:=by
 have e:(s.heap.update p f).get? p=O { cls:=.type "list",data:=.seq its'.toArray n' }:=by rw[adQ f ho (by rw[hf]<;>rfl),hf]
 refine I.write (x:=p) (e:=p) (by rw[h];trivial) (.inl rfl) (λb u hb q=>(ac9 _ _ (adR hb)).trans q) #[_,e] ?_;exact#[hz,its',n',r,e]
def Hj:V->V->V->Hp->(Hp->Prop)->Prop:=λo i v H Q=>∃ p xs k j,o = .ref p/\i = .int k/\H p=O (.lst xs)/\iy xs.length k=O j/\Q (upd H p (.lst (xs.set j v)))
theorem set_list:GG X Hj:=by
 intro pins s L H o i v ov iv u Q I ro ri rv h;obtain⟨p,xs,k,j,rfl,rfl,hp,hj,q⟩:=h;cases ro;obtain⟨t,rfl⟩:=ri;obtain⟨ai,n,r,ho,hz⟩:=I.lst hp;obtain⟨h1,h2,h3,h4⟩:=Hf hj;have hl:=r.length;have hn:=sG;have I':Inv X pins L (upd H p (.lst (xs.set j v))) { s with heap:=s.heap.update p (adC (·.setIfInBounds j u)) } :=
  I.PZ hp ho (PY ai n j u) (r.set rv j) (by rw[ahn];exact hz) s.toks
 by_cases h0:0<=k
 .have hk:k.toNat=j:=by rw[ak5 h0 h4] at h1;exact Option.some.inj h1
  exact PySem.W.ki_setAt ho h0 (by omega) (by rw[ac5,<- hl];exact h4) (by rw[hk];exact#[_,I',q])
 .have hk:(k+(ai.toArray.size:Int)).toNat=j:=by rw[aky (by omega) h3] at h1;rw[ac5,<- hl];exact Option.some.inj h1
  exact PySem.W.ki_setBack ho (by omega) (by rw[ac5,<- hl];exact h3) (by omega) (by rw[hk];exact#[_,I',q])
theorem P0(lo hi:Option Int)(n:Nat):(agp lo hi J n).1=((HT.fu n 0 lo:Nat):Int)/\(agp lo hi J n).2.1=((HT.fu n n hi:Nat):Int)/\(agp lo hi J n).2.2=1:=by
 refine#[?_,?_,Y]
 .cases lo with
  | none=>simp[agp,HT.fu]
  | some i =>
   simp only[agp,HT.fu,Option.getD_none,show (1:Int) > 0 by decide,if_true];by_cases h:i<0
   .simp only[h,if_true]<;>omega
   .simp only[h,if_false]<;>omega
 .cases hi with
  | none=>simp[agp,HT.fu]
  | some i =>
   simp only[agp,HT.fu,Option.getD_none,show (1:Int) > 0 by decide,if_true];by_cases h:i<0
   .simp only[h,if_true]<;>omega
   .simp only[h,if_false]<;>omega
theorem P4(ai:List acU)(lo hi:Option Int):ak6 ai.toArray lo hi J=((ai.drop (HT.fu ai.length 0 lo)).take (HT.fu ai.length ai.length hi-HT.fu ai.length 0 lo)).toArray:=by obtain⟨h1,h2,h3⟩:=P0 lo hi ai.toArray.size;unfold ak6;rw[h1,h2,h3];simp only[sliceRange_one,pick_run,ac5]<;>rfl
def Hk(K:acM):V->Option Int->Option Int->Hp->VK->Prop:=λx lo hi H Q=>∃ a xs,x = .ref a/\ah K H a xs/\∀ p,H p=J->Q (.ref p) (upd H p (.lst (j4 xs lo hi)))
theorem wQ:Af X (Hk X.K):=by intro pins s L H x v vl vu lo hi sl Q I rx hs pl pu h;obtain⟨a,xs,rfl,hx,q⟩:=h;cases rx;obtain⟨ai,r,ht,hz⟩:=I.list hx;have hlen:=r.length;refine#["list",_,slot_list_getitem.lookup,ht.isList.typeIs,?_];refine ah4 ht.isList hs pl pu .none (by simp) ?_ (by rw[ac5]<;>omega);rw[P4,<- hlen];refine#[.ref s.heap.objs.size,_,I.laid (t':=s.toks) (o:=.lst (j4 xs lo hi)) (λb ob q=>acL _ q) (acS _) ?_,Y,q _ (I.ar.fresh (acS _))];exact#[acR (PR xs lo hi) hz,_,0,(r.drop (HT.fu xs.length 0 lo)).take (HT.fu xs.length xs.length hi-HT.fu xs.length 0 lo),acV _ Y]
noncomputable def j6:V->Bool
 | .non=>true
 | .bl _=>true
 | .int _=>true
 | .str _=>true
 | _=>false
noncomputable def j7:V->V->Bool
 | .non,.non=>true
 | .bl a,.bl b=>a == b
 | .bl a,.int b=>(if a then 1 else 0) == b
 | .int a,.bl b=>a == (if b then 1 else 0)
 | .int a,.int b=>a == b
 | .str a,.str b=>a == b
 | _,_=>false
theorem P5(ry:RelV y u)(rx:RelV x v)(fy:j6 y=true)(fx:j6 x=true):SeqAt.EqAt A s u v (j7 y x):=by
 cases y with
 | non =>
  cases ry;cases x with
  | non=>cases rx;exact SeqAt.EqAt.same _
  | bl b=>cases rx;exact SeqAt.EqAt.none_bool b
  | int b=>obtain⟨t,rfl⟩:=rx;exact SeqAt.EqAt.none_int b t
  | str b=>obtain⟨t,rfl⟩:=rx;exact SeqAt.EqAt.none_str b t
  | _=>exact absurd (show false=true from fx) adq
 | bl a =>
  cases ry;cases x with
  | non=>cases rx;exact SeqAt.EqAt.bool_none a
  | bl b=>cases rx;exact SeqAt.EqAt.bool_bool a b
  | int b=>obtain⟨t,rfl⟩:=rx;exact SeqAt.EqAt.bool_int a b t
  | str b=>obtain⟨t,rfl⟩:=rx;exact SeqAt.EqAt.bool_str a b t
  | _=>exact absurd (show false=true from fx) adq
 | int a =>
  obtain⟨t',rfl⟩:=ry;cases x with
  | non=>cases rx;exact SeqAt.EqAt.int_none a t'
  | bl b=>cases rx;exact SeqAt.EqAt.int_bool a t' b
  | int b=>obtain⟨t,rfl⟩:=rx;exact SeqAt.EqAt.int_int a t' b t
  | str b=>obtain⟨t,rfl⟩:=rx;exact SeqAt.EqAt.int_str a t' b t
  | _=>exact absurd (show false=true from fx) adq
 | str a =>
  obtain⟨t',rfl⟩:=ry;cases x with
  | non=>cases rx;exact SeqAt.EqAt.str_none a t'
  | bl b=>cases rx;exact SeqAt.EqAt.str_bool a t' b
  | int b=>obtain⟨t,rfl⟩:=rx;exact SeqAt.EqAt.str_int a t' b t
  | str b=>obtain⟨t,rfl⟩:=rx;exact SeqAt.EqAt.str_str a t' b t
  | _=>exact absurd (show false=true from fx) adq
 | _=>exact absurd (show false=true from fy) adq
noncomputable def gq(x:V)(u:acU):Bool:=match u with
 | .none=>j7 .non x
 | .bool b=>j7 (.bl b) x
 | .int i _=>j7 (.int i) x
 | .str z _=>j7 (.str z) x
 | _=>false
theorem Hl(r:RelV y u)(f:j6 y=true):gq x u=j7 y x:=by
 cases y with
 | non=>cases r;rfl
 | bl b=>cases r;rfl
 | int i=>obtain⟨t,rfl⟩:=r;rfl
 | str z=>obtain⟨t,rfl⟩:=r;rfl
 | _=>exact absurd (show false=true from f) adq
theorem wR:∀ {xs:List V} {us:List acU},Vals xs us->xs.all j6=true->us.any (gq x)=xs.any λy=>j7 y x:=by
 intro z z h f
 induction h with
 | nil=>rfl
 | cons r t ih =>
  rw[af6,ad2] at f;rw[aer,aer,Hl r f.1,ih f.2]
theorem sL(rx:RelV x v)(fx:j6 x=true):∀ {xs:List V} {us:List acU},Vals xs us->xs.all j6=true->∀ u∈us,SeqAt.EqAt A s u v (gq x u)
 | _,_,.nil,_=>λu hu=>by cases hu
 | y::xs,u::us,.cons r t,f=>λu' hu=>by
  rw[af6,ad2] at f;rcases acZ.mp hu with rfl|hu
  .rw[Hl r f.1];exact P5 r rx f.1 fx
  .exact sL rx fx t f.2 u' hu
noncomputable def qB(x:V)(xs:List V):Bool:=xs.any λy=>j7 y x
def wU(K:acM)(neg:Bool):R2:=λx y H Q=>∃ p xs,y = .ref p/\(ah K H p xs∨au K H p xs)/\j6 x=true/\xs.all j6=true/\Q (.bl (if neg then !qB x xs else qB x xs)) H
theorem sM:bz X (aev .In) (wU X.K false):=by
 intro pins s L H x y v u Q I rx ry h;obtain⟨p,xs,rfl,hq,fx,fs,q⟩:=h;cases ry;rcases hq with hq|hq
 .obtain⟨ai,r,pl,hz⟩:=I.list hq;refine SeqAt.in_listAt (gq x) pl.isList (λw hw=>sL rx fx r fs w (by simpa using hw)) #[.bl _,H,I,Y,?_];rw[show ai.toArray.any (gq x)=ai.any (gq x) by simp,wR r fs];exact q
 .obtain⟨ai,r,pl,hz⟩:=I.tuple hq;refine SeqAt.in_tupleAt (gq x) pl (λw hw=>sL rx fx r fs w (by simpa using hw)) #[.bl _,H,I,Y,?_];rw[show ai.toArray.any (gq x)=ai.any (gq x) by simp,wR r fs];exact q
theorem Ai:bz X (aev .NotIn) (wU X.K true):=by
 intro pins s L H x y v u Q I rx ry h;obtain⟨p,xs,rfl,hq,fx,fs,q⟩:=h;cases ry;rcases hq with hq|hq
 .obtain⟨ai,r,pl,hz⟩:=I.list hq;refine SeqAt.notIn_listAt (gq x) pl.isList (λw hw=>sL rx fx r fs w (by simpa using hw)) #[.bl _,H,I,Y,?_];rw[show ai.toArray.any (gq x)=ai.any (gq x) by simp,wR r fs];exact q
 .obtain⟨ai,r,pl,hz⟩:=I.tuple hq;refine SeqAt.notIn_tupleAt (gq x) pl (λw hw=>sL rx fx r fs w (by simpa using hw)) #[.bl _,H,I,Y,?_];rw[show ai.toArray.any (gq x)=ai.any (gq x) by simp,wR r fs];exact q
def sN(K:acM)(T:String)(x:V)(H:Hp):Prop:=match x with
 | .str _=>T = "str"
 | .int _=>T = "int"
 | .ref p=>(T = "list" /\ ∃ xs,ah K H p xs)∨(T = "tuple" /\ ∃ o,K.lookup p=O o/\o.cls = .type "tuple" /\ o.dict=J) ∨
  (T = "dict" /\ ((∃ kvs,H p=O (.dK kvs)) ∨ ∃ kvs,H p=O (.dT kvs)))∨(T = "set" /\ ∃ S n,H p=O (.set S n))
 | _=>False
theorem P6(I:Inv X pins L H s)(r:RelV x v)(ty:sN X.K T x H) :
 s.TypeIs v T/\∀ a,v = .ref a->∃ ob,s.heap.get? a=O ob/\ob.dict=J:=by
 cases x with
 | str z =>
  obtain⟨t,rfl⟩:=r;cases (show T = "str" from ty);exact#[ah3 s z t,λy e=>nomatch e]
 | int i =>
  obtain⟨t,rfl⟩:=r;cases (show T = "int" from ty);exact#[ajk s i t,λy e=>nomatch e]
 | ref p =>
  cases r;rcases ty with ⟨rfl,xs,hq⟩|⟨rfl,o,hk,hc,hd⟩|⟨rfl,hk⟩|⟨rfl,S,n,hk⟩
  .obtain⟨ai,y,pl,y⟩:=I.list hq;refine#[pl.isList.typeIs,λa e=>?_];cases e;obtain⟨o,n,e,c,hd,y⟩:=pl;exact#[o,e,hd]
  .refine#[#[o,I.cz p o hk,hc],λa e=>?_];cases e;exact#[o,I.cz _ o hk,hd]
  .have z:∃ o,s.heap.get? p=O o/\o.ExactDict:=by
    rcases hk with ⟨kvs,hk⟩|⟨kvs,hk⟩
    .obtain⟨y,y,y,y,o,y,y,e,ex,y⟩:=I.ar p _ hk;exact#[o,e,ex]
    .obtain⟨y,y,y,y,o,y,y,e,ex,y⟩:=I.ar p _ hk;exact#[o,e,ex]
   obtain⟨o,e,ex⟩:=z;refine#[#[o,e,ex.1],λa e2=>?_];cases e2;exact#[o,e,ex.2.1]
  .obtain⟨o,y,y,y,e,ex,y⟩:=I.ar p _ hk;refine#[#[o,e,ex.1],λa e2=>?_];cases e2;exact#[o,e,ex.2.1]
 | _=>exact afo ty
def P7(K:acM)(T:String)(r:V->List V->Hp->VK->Prop)(to:TE):TE:=λL H Q=>to L H λx H1=>sN K T x H1/\r x [] H1 Q
def Hm(K:acM)(T:String)(r:V->List V->Hp->VK->Prop)(to:TE)(t:TA):TE:=λL H Q=>to L H λx H1=>sN K T x H1/\t L H1 λxs H2=>r x xs H2 Q
variable{o e:agY}{es:List agY}{to:TE}{t:TA}{name:Str}{apos dg:Pos}{T id:String}{r:V->List V->Hp->VK->Prop}
theorem dJ(pa:PlainAttrs T)(slot:Slot T name id)(P8:typeOf (.builtin id)=pure (.type "method_descriptor"))(hm:oy X id r)(ho:PE X o to)(ha:PA X (e::es) t)(P9:agy o name X.env (eval o X.env)=eval o X.env:=by rfl)(Qa:((afn dg (adp (e::es) X.env)).all (λx=>!x.1) && (akZ dg (aij [] X.env)).all (λx=>x.1.isSome)
 && decide ((e::es).length+([]:List ak7).length+(if ([]:List ak7).isEmpty then 0 else 1)<30))=true:=by rfl) (Qb:(apos.endLine == dg.line)=true:=by rfl) (hs:adp (e::es) X.env=(false,eval e X.env)::adp es X.env:=by rfl) (Qc:(afn dg (adp es X.env)).any (·.1)=false:=by rfl) :
 PE X (.Call (.Attribute o name apos) (e::es) [] dg) (Hm X.K T r to t):=by
 intro pins s L H Q I h;refine wpAny_Call_method_late P9 Qa Qb Y (aC (ho pins s L H _ I h) λv s1 zq=>?_);obtain⟨x,H1,I1,r1,ty,q1⟩:=zq;obtain⟨h1,h2⟩:=P6 I1 r1 ty;refine#[T,id,pa,slot,P8,h1,h2,?_];have hA:=ha dg pins s1 L H1 _ I1 q1;rw[hs] at hA ⊢;refine aiF (by show (false || (afn dg (adp es X.env)).any (·.1))=false;rw[Qc]<;>rfl) (ahb ?_);exact aC hA λus s2 ⟨vs,H2,I2,r2,q2⟩=>hm pins s2 L H2 x vs v us Q I2 r1 r2 q2
end
def Qd(X:Cx)(id:String)(r:V->List V->Hp->VK->Prop):Prop :=
 ∀ (pins:List (ac4 × Obj)) (s:ac8) (L:St) (H:Hp) (x:V) (xs:List V) (v:acU) (us:List acU) (Q:VK),Inv X pins L H s->RelV x v->Vals xs us->r x xs H Q ->
  adi (model X.prog X.w) X.A (call (.builtin id) (v::us)) (EP X pins L Q) X.xe s
theorem Vals.one:∀ {x:V} {us:List acU},Vals [x] us->∃ u,us=[u]/\RelV x u:=by
 intro x us h;cases h with
 | cons r t=>cases t;exact#[_,Y,r]
theorem Vals.reverse(h:Vals xs us):Vals xs.reverse us.reverse:=by
 induction h with
 | nil=>exact .nil
 | cons r t ih=>rw[agM,agM];exact Vals.append ih (.cons r .nil)
theorem Vals.rep(h:Vals xs us):∀ k:Nat,Vals (acY k xs).flatten (acY k us).flatten
 | 0=>.nil
 | k+1=>by rw[aez,aez,afB,afB];exact Vals.append h (Vals.rep h k)
theorem foldl_rep(ai:List acU):∀ (k:Nat) (acc:List acU),
 alC (λx1 x2=>x1++x2) acc.toArray (acY k ai.toArray)=(acc++(acY k ai).flatten).toArray
 | 0,acc=>by simp
 | k+1,acc=>by
  have e:acc.toArray++ai.toArray=(acc++ai).toArray:=by simp
  have e2:(acc++ai)++(acY k ai).flatten=acc++(acY (k+1) ai).flatten:=by rw[aez,afB,aet]
  rw[<- e2,<- foldl_rep ai k (acc++ai),<- e,aez,afV]
section
theorem Inv.Qe{ai its':List acU}{n:Nat}{f:Array acU->Array acU}{t':Nat}(I:Inv X pins L H s)(hH:H l=O (.lst xs))
 (e:s.heap.get? l=O { cls:=.type "list",data:=.seq ai.toArray n }) (hf:f ai.toArray=its'.toArray) (hv:Vals ys its') (hz:ys.length<=adh) :
 Inv X pins L (upd H l (.lst ys)) { s with heap:=s.heap.update l (adC f),toks:=t' }:=by
 have q:=aix e f;rw[hf] at q;refine I.write (x:=l) (e:=l) (by rw[hH];exact trivial) (.inl rfl) (λb' u hb hu=>(ac9 s.heap (adC f) (adR hb)).trans hu) #[_,q] ?_;exact#[hz,its',_,hv,q]
theorem Inv.Aj(I:Inv X pins L H s)(hv:Vals ys ai)(hz:ys.length<=adh) :
 Inv X pins L (upd H s.heap.objs.size (.lst ys)) { s with heap:=s.heap.push { cls:=.type "list",data:=.seq ai.toArray },toks:=t' } :=
 I.laid (λy y q=>acL _ q) (acS _) #[hz,ai,0,hv,acV _ Y]
theorem Inv.fresh(I:Inv X pins L H s):H s.heap.objs.size=J:=I.ar.fresh (acS _)
theorem Inv.wV(I:Inv X pins L H s)(hH:H l=O (.lst xs)):xs.length<=adh/\∃ (ai:List acU) (n:Nat),Vals xs ai/\xs.length=ai.length/\s.heap.get? l=O { cls:=.type "list",data:=.seq ai.toArray n }:=by obtain⟨z,ai,n,r,e⟩:=I.ar l _ hH;exact#[z,ai,n,r,r.length,e]
theorem Qf(h:n<=adh):agt n=false:=by unfold agt;exact decide_eq_false (by omega)
def Hn:V->List V->Hp->VK->Prop:=λx vs H Q=>∃ l xs y,x = .ref l/\vs=[y]/\H l=O (.lst xs)/\xs.length<adh/\Q .non (upd H l (.lst (xs++[y])))
theorem mQ:Qd X "list.append" Hn:=by intro pins s L H x vs v us Q I rx rv h;obtain⟨l,xs,y,rfl,rfl,hH,hz,q⟩:=h;cases rx;obtain⟨u,rfl,ru⟩:=rv.one;obtain⟨z,ai,n,r,hl,e⟩:=I.wV hH;refine agN ajY #[_,e,Y] ajI (ajn _ _) (akj l ai.toArray n u (by rw[ac5];omega)) #[e,?_];refine#[.non,_,I.Qe (its':=ai++[u]) hH e (by simp) (r.append (.cons ru .nil)) ?_,Y,q];rw[ac7,adb];omega
def Qg:V->List V->Hp->VK->Prop:=λx vs H Q=>∃ l xs,x = .ref l/\vs=[]/\H l=O (.lst xs)/\Q .non (upd H l (.lst xs.reverse))
def Ho:R2:=λx y H Q=>∃ l b xs zs,x = .ref l/\y = .ref b/\H l=O (.lst xs)/\H b=O (.lst zs)/\xs.length+zs.length<=adh/\∀ p,H p=J->Q (.ref p) (upd H p (.lst (xs++zs)))
theorem mR:bz X (af4 .Add) Ho:=by
 intro pins s L H x y v u Q I rx ry h;obtain⟨l,b,xs,zs,rfl,rfl,hH,hB,hz,q⟩:=h;cases rx;cases ry;obtain⟨z,ai,n,r,hl,e⟩:=I.wV hH;obtain⟨z2,Hq,n2,r2,bM,e2⟩:=I.wV hB;refine PySem.P.add_list e e2 ?_ (by rw[ac5,ac5];omega);have ea:ai.toArray++Hq.toArray=(ai++Hq).toArray:=by simp
 rw[ea];exact#[.ref _,_,I.Aj (t':=s.toks) (r.append r2) (by rw[ac7];omega),Y,q _ I.fresh]
def Qh:R2:=λx y H Q=>∃ l k xs,x = .ref l/\y = .int k/\H l=O (.lst xs)/\-(2 ^ 63)<=k/\k<2 ^ 63/\xs.length * k.toNat<=adh /\
 ∀ p,H p=J->Q (.ref p) (upd H p (.lst (acY k.toNat xs).flatten))
theorem len_rep(xs:List α)(k:Nat):(acY k xs).flatten.length=k * xs.length:=by
 induction k with
 | zero=>simp
 | succ k ih=>rw[aez,afB,ac7,ih,al2,al3]
theorem Hr:bz X (af4 .Mult) Qh:=by
 intro pins s L H x y v u Q I rx ry h;obtain⟨l,k,xs,rfl,rfl,hH,h1,h2,hz,q⟩:=h;cases rx;obtain⟨t,rfl⟩:=ry;obtain⟨z,ai,n,r,hl,e⟩:=I.wV hH;have hlen:ai.toArray.size * k.toNat<=adh:=by rw[ac5,<- hl];exact hz
 have Qi:¬ ai.toArray.size * k.toNat > (2 ^ 63-1) / 8:=by
  have:(adh:Nat)<=(2 ^ 63-1) / 8:=by decide
  omega
 have Qj:¬ (!alr k)=true:=by rw[fitsIndex_both h1 h2];exact adq
 have Ql:¬ agt (ai.toArray.size * k.toNat)=true:=by rw[Qf hlen];exact adq
 have Ak:alC (λx1 x2=>x1++x2) (List.toArray []) (acY (if ai.toArray.isEmpty=true then 0 else k.toNat) ai.toArray)=(acY k.toNat ai).flatten.toArray:=by
  have f0:∀ m:Nat,alC (λx1 x2=>x1++x2) (List.toArray []) (acY m ai.toArray)=(acY m ai).flatten.toArray:=λm=>by have:=foldl_rep ai m [];rw[adl] at this;exact this
  rw[f0];cases ai with
  | nil=>simp
  | cons a r'=>rw[if_neg (by simp)]
 refine wpAny_binaryOp_repeat_ref (T := "list") (U := "int") (by decide) #[_,e,Y] (λs'=>ajk s' k t) noFill_list_mul F.fills_int_mul ak8 repeat_list F.slot_int_index.lookup
  (agN ak8 (ajk s k t) F.entry_int_rmul (F.args_int_rmul_2 _ _) (int___rmul___int_list k t l ai.toArray n)
    #[e,Y,#[_,e,Y],agN F.slot_list_mul #[_,e,Y] F.entry_list_mul (F.args_list_mul_2 _ _) (AutoListH.list___mul___list_int_3 l ai.toArray n k t Qj Qi Ql) #[e,?_]])
 rw[Ak];exact#[.ref _,_,I.Aj (t':=s.toks) (r.rep k.toNat) (by rw[len_rep,Nat.mul_comm];exact hz),Y,q _ I.fresh]
end
section
set_option maxRecDepth 100000 in
end
section
end
end L2
namespace Al
open PySem PySem.W PySem.Calls PyProof.Rows
theorem Qm:∀ (ns:List Int) (vs:List acU),WellAll P h vs (ns.map WData.int)->ahQ vs ns:=by
 intro ns
 induction ns with
 | nil =>
  intro vs w;rw[ag0] at w;cases w;exact .nil
 | cons n ns ih =>
  intro vs w;rw[adg] at w;cases w with
  | cons a b =>
   cases a;exact .cons _ _ (ih _ b)
theorem Qn{l:OpenLaw}{n:Nat}(hn:l.most=O n){P:Params}{h:ae7}{args:List WData}{vals:List acU}
 (Hs:l.row.toRowW.claim.pre args=true) (Qo:WellAll P h vals args) :
 ∃ a vs ns,vals=[adB a]/\args=[WData.list (ns.map WData.int)]/\h.get? a=O { cls:=.type "list",data:=.seq vs.toArray }/\ahQ vs ns/\ns.length<=n:=by
 have Qp:WShape.hasAll [] args [.list .int]=true:=(pre_splitW Hs).1;have hc:l.pre.holds [] { args:=args }=true:=(pre_splitW Hs).2;obtain⟨d,r,rfl,h1,h2⟩:=hasAllW_cons Qp;obtain rfl:=hasAllW_nil h2;obtain⟨xs,rfl,h3⟩:=hasW_list h1;obtain⟨ns,rfl⟩:=items_int h3;have hlen:ns.length<=n:=by
  unfold OpenLaw.pre at hc;have h4:(WTm.not (.lt (.lit (.int (n:Int))) (.len (.arg 0)))).holds [] { args:=[.list (ns.map .int)] }=true:=by have h4:=(holds_andW hc).1;rw[hn] at h4;exact h4
  have h5:=condW_of h4 (w_not (w_lt w_lit (w_len_list (w_arg Y))));rw[acN] at h5;refine Nat.le_of_not_lt λq=>?_;have q':(n:Int)<((ns.length:Nat):Int):=by omega
  first
   | (rw[decide_eq_true q'] at h5;exact absurd h5 (by decide))
   | (simp at h5;omega)
 cases Qo with
 | cons w1 w2 =>
  cases w2;cases w1 with
  | list ho hall=>exact#[_,_,ns,Y,Y,ho,Qm ns _ hall,hlen]
theorem Qq(l:OpenLaw)(args:List WData):l.row.toRowW.claim.post args (.bool true) args=true :=
 postW_of (r:=l.row.toRowW) (X:=(true == true))
  (show WShape.has [] (.bool true) .bool=true by first|rfl|decide|simp[WShape.has,WShape.arms,WShape.armsAll])
  (show (WTm.eq .res (.lit (.bool true))).value [] { args:=args,res:=O (.bool true),after:=args }=O (.bool (true == true)) from w_eq_bool (w_res Y) w_lit) rfl
section
end
end Al
namespace L2
open PySem PySem.Spec PyProof.Rows
theorem Ht:∀ {vs:List acU} {ns:List Int},ahQ vs ns->Vals (ns.map V.int) vs:=by
 intro y y h
 induction h with
 | nil=>exact .nil
 | cons n t h ih=>exact .cons #[t,Y] ih
def Hu(H:Hp):Prop:=∀ b,H b=J ∨ ∃ o xs,H b=O (.frz o (.lst xs))
theorem Qr{P:adP}{w:aes}{K:acM}{mg mb:Str->Option acU}{CX:iu}{k:Nat}{fa a:ac4}{fd:agl}{x:Str}{sp:Sp}{s₁:ac8}{vs:List acU}{ns:List Int}
 (KX:K.In s₁.heap) (oA:s₁.heap.Ns ac3 mg) (hb:s₁.heap.Ns aly mb) (Hv:∀ x:Str,x ≠ "__name__" -> mb x=adJ x) (Qs:s₁.heap.NoLimit) (hg:s₁.gens = (List.toArray []))
 (ha:s₁.heap.get? a=O { cls:=.type "list",data:=.seq vs.toArray }) (hi:ahQ vs ns) (hl:ns.length<=adh) (hr:bF k ak9)
 (F:∀ base:ae7,K.In base->base.Ns ac3 mg->dH P w K mg base CX k fa fd [x] sp) (Qt:∀ (s:ac8) (u:acU),akg s fd #[[u],[]] [(x,u)])
 (mK:∀ H:Hp,Hu H->ah K H a (ns.map V.int)->sp [.ref a] H (λv _=>v = .bl true) λ_ _ _=>False)
 (mS:∀ H e s',CX [] H s₁ (λ_ _ _=>False) e s'->False) :
 ago (model P w) ak9 (.call (.ref fa) #[[.ref a],[]]) (λr s'=>r = .ok (.ret (.bool true))/\OldK s₁.heap s'.heap/\s'.os=s₁.os/\aiR s'.gens) s₁:=by
 have rv:=Ht hi;have Qu:=hi.length;have core:∀ H:Hp,Hu H->ah K H a (ns.map V.int)->ck P w H s₁.heap->(∀ b,H b≠J->b=a)->(H a≠J->K.lookup a=J) ->
  ago (model P w) ak9 (.call (.ref fa) #[[.ref a],[]]) (λr s'=>r = .ok (.ret (.bool true))/\OldK s₁.heap s'.heap/\s'.os=s₁.os/\aiR s'.gens) s₁:=by
  intro H hO hS ar hA hK;have Hw:∀ {b:ac4} {o:Obj},s₁.heap.get? b=O o->H b=J->(kT s₁.heap H).get? b=O o:=λe n=>OL e n;have ix:∀ {b:ac4} {o:Obj} {es:Array ah5} {ep:Nat},s₁.heap.get? b=O o->o.data = .dict es ep->H b=J:=λ{b o es ep} e d=>by
   cases q:H b with
   | none=>rfl
   | some u =>
    have e':b=a:=hA b (by rw[q];simp);subst e';rw[ha] at e;cases e;have d':Data.seq vs.toArray _=Data.dict es ep:=d;cases d'
  have wW:∀ {b:ac4} {m:Str->Option acU},s₁.heap.Ns b m->(kT s₁.heap H).Ns b m:=λ{b m} ⟨o,es,ep,e,d,r⟩=>#[o,es,ep,Hw e (ix e d),d,r]
  have Hx:K.In (kT s₁.heap H):=λb o e=>Hw (KX b o e) (by
   cases q:H b with
   | none=>rfl
   | some u =>
    have e':b=a:=hA b (by rw[q];simp);subst e';rw[hK (by rw[q];simp)] at e;cases e)
  have hM:Mod K mg (kT s₁.heap H):=#[Hx,wW oA,#[mb,wW hb,Hv],let ⟨mc,h1,h2⟩:=Qs;#[mc,wW h1,h2]]
  have e0:mJ P w K mg (kT s₁.heap H) ak9 [] s₁ H:=#[Y,hM,λb o e=>OM e,aiW (OJ _ _),trivial,λb hb=>absurd (show b∈([]:List ac4) from hb) (by simp),ar,.of_eq hg]
  refine agr ((F _ Hx (wW oA)).run ak9 [] s₁ H #[[.ref a],[]] [.ref a] [.ref a] _ _ hr e0 (Qt s₁ (.ref a)) (.cons rfl .nil) (mK H hO hS)) λr s' h=>?_;cases r with
  | error e=>exact (mS H e s' h).elim
  | ok fl =>
   cases fl with
   | next=>exact afo h
   | brk=>exact afo h
   | cont=>exact afo h
   | ret u =>
    obtain⟨v,H',os,bare,un,Qv,r',q⟩:=h;have q':v = .bl true:=q;subst q';obtain rfl:u=aeN true:=r';refine#[Y,OldK.of_keep λb o e=>?_,os,bare];cases q:H b with
    | none=>exact un.keep b o e q (by intro z;exact absurd (show b∈([]:List ac4) from z) (by simp)) (by simp)
    | some u =>
     rcases hO b with z|⟨ob,xs,z⟩
     .rw[q] at z;cases z
     .have z2:=un.gN b ob _ z;obtain⟨e1,_⟩:=ar b _ z;obtain⟨e2,_⟩:=Qv b _ z2;rw[e] at e1;cases e1;exact e2
 cases hk:K.lookup a with
 | some o =>
  have e:=KX a o hk;rw[ha] at e;cases e;refine core (λ_=>J) (λ_=>.inl rfl) (.inr #[_,vs.toArray,_,hk,Y,Y,Y,by rw[ac5,Qu];exact hl,by simpa using rv]) (λb u z=>by have z':(J:Option HO)=O u:=z;cases z') (λb z=>absurd Y z) λz=>absurd Y z
 | none =>
  refine core (λb=>if b=a then O (.frz { cls:=.type "list",data:=.seq vs.toArray } (.lst (ns.map V.int))) else J) (λb=>?_) (.inl (.inr #[{ cls:=.type "list",data:=.seq vs.toArray },if_pos Y])) (λb u z=>?_) (λb z=>?_) λ_=>hk
  .by_cases hb:b=a
   .exact .inr #[_,_,if_pos hb]
   .exact .inl (if_neg hb)
  .by_cases hb:b=a
   .have z':=(if_pos hb).symm.trans z;cases z';subst hb;exact#[ha,by rw[acN];exact hl,vs,_,rv,ha]
   .have z':=(if_neg hb).symm.trans z;cases z'
  .by_cases hb:b=a
   .exact hb
   .exact absurd (if_neg hb) z
def inClass(s:aeO)(j:Nat):aeO:=match s with
 | .ClassDef _ _ _ body _ _ _ _ _ _ _=>body.getD j (.Pass #[0,0,0,0])
 | _=>.Pass #[0,0,0,0]
noncomputable def qC(s:aeO):Arguments:=match s with
 | .FunctionDef _ a _ _ _ _ _ _ _ _=>a
 | _=>{ posonlyargs:=[],args:=[],vararg:=J,kwonlyargs:=[],kw_defaults:=[],kwarg:=J,defaults:=[] }
noncomputable def iQ(s:aeO):List aeO:=match s with
 | .FunctionDef _ _ b _ _ _ _ _ _ _=>b
 | _=>[]
noncomputable def dM(s:aeO):ajl:=match s with
 | .FunctionDef _ _ _ _ _ _ sc _ _ _=>sc
 | _=>{ kind:=.function,names:=[],isGenerator:=false,isCoroutine:=false }
abbrev E0:XK:=λy y y=>False
structure oB(K:acM)(x qual:Str)(st:aeO)(f:ac4)(fd:agl):Prop where
 ex:∃ (oc:acU) (od:Option ac4) (kV doc pm:acU) (an:Option ac4) (bh ct:acU) (jZ:Array (Option acU)),
  fd=afU x qual (qC st) (iQ st) (dM st) .none kV doc pm an bh ct/\K.lookup f=O #[oc,od,.func fd,jZ]/\ahP K bh qual=true
 kp:afy K (.ref f)=true
section
variable{P:adP}{w:aes}{K:acM}{mg:Str->Option acU}{base:ae7}
theorem oB.binds{x qual:Str}{st:aeO}{f:ac4}{fd:agl}{ps:List Str}(F:oB K x qual st f fd)
 (h:∀ (kV doc pm:acU) (an:Option ac4) (bh ct:acU) (us:List acU),us.length=ps.length->bindArgs (afU x qual (qC st) (iQ st) (dM st) .none kV doc pm an bh ct) #[us,[]]=pure (ps.zip us)):Binds K fd ps []:=by
 obtain⟨oc,od,kV,doc,pm,an,bh,ct,jZ,rfl,lk,gd⟩:=F.ex;exact .all (h kV doc pm an bh ct)
theorem qD{x qual:Str}{st:aeO}{f:ac4}{oc:acU}{od an:Option ac4}{jZ:Array (Option acU)}{kV doc pm bh ct:acU}(l:K.lookup f=O #[oc,od,.func (afU x qual (qC st) (iQ st) (dM st) .none kV doc pm an bh ct),jZ])
 (c:ahP K bh qual=true) (k:afy K (.ref f)=true):oB K x qual st f (afU x qual (qC st) (iQ st) (dM st) .none kV doc pm an bh ct):=#[#[oc,od,kV,doc,pm,an,bh,ct,jZ,Y,l,c],k]
end
theorem gu(hr:bF k A):A.units+1<aii:=adS (Nat.add_le_add_left (by decide:1<=64) _) hr.units
section
theorem pv(i:Nat)(hN:X.N[i]?=O x:=by rfl)(hv:wu X.env.scope x:=by first|exact ahc rfl|exact akz (ahc Y)|exact akz (akz Y))(hd:(x == ("__debug__" : Str))=false:=by decide)(gd:(x == ("__classdict__" : Str))=false:=by decide):PE X (.Name x pos) (zI i):=OT hN hv hd gd
end
def aj(H H':Hp):Prop:=∀ b o,H b=O o->H' b=O o
theorem aj.refl(H:Hp):aj H H:=λy y h=>h
theorem aj.trans(a:aj H H1)(b:aj H1 H2):aj H H2:=λc o h=>b c o (a c o h)
theorem aj.free(e:aj H H')(h:H' l=Option.none):H l=Option.none:=by
 cases q:H l with
 | none=>rfl
 | some o =>
  rw[e l o q] at h;cases h
theorem aj.seq{K:acM}{H H':Hp}{a:ac4}{xs:List V}(e:aj H H')(h:ah K H a xs):ah K H' a xs:=by
 rcases h with (h|⟨o,h⟩)|h
 .exact .inl (.inl (e _ _ h))
 .exact .inl (.inr #[o,e _ _ h])
 .exact .inr h
end L2
namespace Gz
open PySem PySem.Spec PyProof.Rows L2
def Bd(n:Nat)(x:Int):Prop:=x.natAbs<2 ^ n
theorem Bd.up(h:Bd n x)(hm:n<=m):Bd m x:=adm h (ahd (by decide) hm)
theorem Bd.bits(h:Bd n x):afG x<=n:=by
 unfold afG;by_cases e:x=0
 .subst e;simp
 .have e0:¬ ((x == 0)=true):=by simpa using e
  rw[if_neg e0];have hn:x.natAbs≠0:=by lia
  have:=(ala hn).mpr h;lia
theorem Bd.log(h:Bd n x)(hn:n<=9000)(h0:0<n):x.natAbs.log2<9000:=by
 by_cases e:x.natAbs=0
 .rw[e];decide
 .have:=(ala e).mpr h;lia
def sO(i j:Int):Prop:=Bd 4000 i/\Bd 4000 j
theorem sO.ok(h:sO i j):IntMulOk i j :=
 IntMulOk.of_bits (acR h.1.bits (by decide)) (acR h.2.bits (by decide))
section
theorem Qw:bz X (af4 .Mult) (rI sO λi j=>.int (i * j)):=wH λy y y y y y y hc q=>mul_int q hc.ok
theorem gv:bz X (af4 .FloorDiv) (rI (λy j=>0<j/\Bd 4000 j) λi j=>.int (i / j)):=wH λi j y y y y y hc q=>by have h1:(0:Int)<j:=hc.1;exact floordiv_int (by lia) (by rw[Int.fdiv_eq_ediv_of_nonneg i (by lia)];exact q) (.inl (PyProof.noPylong_of_log2 (hc.2.log (by decide) (by decide))))
noncomputable def sP:V->acU
 | .ref a=>.ref a
 | .ty n=>.type n
 | _=>.none
theorem Qx:fj X (.builtin "isinstance") (λxs H Q=>∃ x c t b,xs=[x,c]/\dm X.K H x t/\sP c ≠ .none/\aeG X.K t (sP c)=O b/\Q (.bl b) H):=by
 intro pins s L H xs us Q I r h;obtain⟨x,c,t,b,rfl,ty,hc,e,q⟩:=h;obtain⟨u,v,rfl,rx,rc⟩:=vals2 r;have ev:v=sP c:=by
  cases c with
  | ref a=>exact rc
  | ty n=>exact rc
  | non=>exact absurd Y hc
  | bl _=>exact absurd Y hc
  | int _=>exact absurd Y hc
  | str _=>exact absurd Y hc
  | byt _=>exact absurd Y hc
  | flt _=>exact absurd Y hc
 subst ev;exact PD I rx ty e λtk=>#[.bl b,H,I.tok tk,Y,q]
end
theorem sQ{K:acM}{t:acU}:aeG K t t=O true:=by unfold aeG;rw[if_pos (by simp)]
theorem wX{K:acM}{a c:String}{b:Bool}(h:alb c=true)(h2:(PySem.fastBuiltinMro a).map (·.contains (.type c))=O b)(h3:(a == c)=false):aeG K (.type a) (.type c)=O b:=by
 unfold aeG;have e:¬ ((agK a == agK c)=true):=by simp only[beq_iff_eq,Value.type.injEq];simpa using h3
 rw[if_neg e];show (if alb c=true then PySem.W.subIn K (.type a) (.type c) else J)=O b;rw[if_pos h];exact h2
theorem Qy{K:acM}:aeG K (.type "int") (.type "bool")=O false:=wX (by decide +kernel) (by decide +kernel) (by decide)
theorem Qz{K:acM}:aeG K (.type "bool") (.type "int")=O true:=wX (by decide +kernel) (by decide +kernel) (by decide)
theorem QA{K:acM}:aeG K (.type "NoneType") (.type "int")=O false:=wX (by decide +kernel) (by decide +kernel) (by decide)
theorem QC{K:acM}:aeG K (.type "NoneType") (.type "tuple")=O false:=wX (by decide +kernel) (by decide +kernel) (by decide)
theorem dh:adJ "len" = O (.builtin "len"):=by decide +kernel
theorem wY:adJ "min" = O (.builtin "min"):=by decide +kernel
theorem Hy:adJ "max" = O (.builtin "max"):=by decide +kernel
theorem k9:adJ "isinstance" = O (.builtin "isinstance"):=by decide +kernel
theorem Am:adJ "sorted" = O (.builtin "sorted"):=by decide +kernel
theorem QD:adJ "any" = O (.builtin "any"):=by decide +kernel
theorem sR:adJ "all" = O (.builtin "all"):=by decide +kernel
theorem An:adJ "int" = O (.type "int"):=by decide +kernel
theorem QE:adJ "bool" = O (.type "bool"):=by decide +kernel
theorem gQ:adJ "str" = O (.type "str"):=by decide +kernel
theorem wZ:adJ "list" = O (.type "list"):=by decide +kernel
theorem Ao:adJ "tuple" = O (.type "tuple"):=by decide +kernel
theorem Hz:adJ "enumerate" = O (.type "enumerate"):=by decide +kernel
theorem HC:adJ "zip" = O (.type "zip"):=by decide +kernel
theorem QF:adJ "reversed" = O (.type "reversed"):=by decide +kernel
noncomputable def Ap:V->V->Option Bool
 | .int _,.ty n=>if n = "int" then O true else if n = "bool" then O false else J
 | .bl _,.ty n=>if n = "int" then O true else if n = "bool" then O true else J
 | .non,.ty n=>if n = "int" then O false else if n = "tuple" then O false else J
 | _,_=>J
def iR(K:acM)(x c:V)(H:Hp)(Q:VK):Prop:=match Ap x c with
 | some b=>Q (.bl b) H
 | none=>∃ t b,dm K H x t/\sP c ≠ .none/\aeG K t (sP c)=O b/\Q (.bl b) H
section
theorem lb:fj X (.builtin "isinstance") (λxs H Q=>∃ x c,xs=[x,c]/\iR X.K x c H Q):=by
 intro pins s L H xs us Q I r h;obtain⟨x,c,rfl,h⟩:=h;refine Qx pins s L H _ us Q I r ?_;cases e:Ap x c with
 | none =>
  unfold iR at h;rw[e] at h;obtain⟨t,b,h1,h2,h3,h4⟩:=h;exact#[x,c,t,b,Y,h1,h2,h3,h4]
 | some b =>
  unfold iR at h;rw[e] at h;unfold Ap at e;split at e
  .rename_i i n;split at e
   .rename_i z;subst z;cases e;exact#[_,_,_,_,Y,dm.int i,(λz=>nomatch z),sQ,h]
   .split at e
    .rename_i z;subst z;cases e;exact#[_,_,_,_,Y,dm.int i,(λz=>nomatch z),Qy,h]
    .cases e
  .rename_i i n;split at e
   .rename_i z;subst z;cases e;exact#[_,_,_,_,Y,dm.bl i,(λz=>nomatch z),Qz,h]
   .split at e
    .rename_i z;subst z;cases e;exact#[_,_,_,_,Y,dm.bl i,(λz=>nomatch z),sQ,h]
    .cases e
  .rename_i n;split at e
   .rename_i z;subst z;cases e;exact#[_,_,_,_,Y,dm.non,(λz=>nomatch z),QA,h]
   .split at e
    .rename_i z;subst z;cases e;exact#[_,_,_,_,Y,dm.non,(λz=>nomatch z),QC,h]
    .cases e
  .cases e
end
section
variable{K:acM}{H:Hp}{Q:VK}{i:Int}{b:Bool}{p:ac4}{xs:List V}
theorem QG:iR K (.int i) (.ty "int") H Q=Q (.bl true) H:=rfl
theorem QH:iR K (.int i) (.ty "bool") H Q=Q (.bl false) H:=rfl
theorem QJ:iR K (.bl b) (.ty "int") H Q=Q (.bl true) H:=rfl
theorem QK:iR K (.bl b) (.ty "bool") H Q=Q (.bl true) H:=rfl
theorem QL:iR K .non (.ty "int") H Q=Q (.bl false) H:=rfl
theorem QM:iR K .non (.ty "tuple") H Q=Q (.bl false) H:=rfl
theorem Aq(h:H p=O (.tup xs))(q:Q (.bl true) H):iR K (.ref p) (.ty "tuple") H Q:=#[_,_,dm.tup h,(λz=>nomatch z),sQ,q]
theorem QN(h:H p=O (.lst xs))(q:Q (.bl true) H):iR K (.ref p) (.ty "list") H Q:=#[_,_,dm.lst h,(λz=>nomatch z),sQ,q]
end
def dY(P:adP)(w:aes):iu:=λouter H s E e s' =>
 ∃ (x:ac4) (cls a0:acU) (H':Hp) (B:ae7),e = .ref x/\s'.os=s.os/\aiR s'.gens/\Un (bq outer) [] H H' s.heap s'.heap /\
  (∀ b o,s.heap.get? b=O o->H b=J->b∉bq outer->B.get? b=O o)/\(∀ b o,s.heap.get? b=O o->b∉bq outer->∃ o',B.get? b=O o')/\ck P w H' B/\H' x=J/\s.heap.get? x=J /\
  Heap.FlyingW B outer x cls a0 s'.heap/\E cls J H'
theorem c7:Passes (dY P w) X E0:=by rintro y y y y y y y ⟨y,y,y,y,y,y,y,y,y,y,y,y,y,y,y,h⟩;exact h.elim
theorem HD(h:dY P w outer H s (λy y y=>False) e s'):False:=by obtain⟨y,y,y,y,y,y,y,y,y,y,y,y,y,y,y,h⟩:=h;exact h
section
variable{P:adP}{w:aes}{K:acM}{mg:Str->Option acU}{base:ae7}
theorem okN{x qual:Str}{st:aeO}{f:ac4}{fd:agl}{N ps:List Str}{k:Nat}{sp:Sp}(F:oB K x qual st f fd)(S:sI N ps (dM st))(len:∀ vs H Q E,sp vs H Q E->vs.length=ps.length)
 (fQ:∀ (bh:acU) (A:ae2) (outer:List Env) (s:ac8) (H:Hp) (vs:List V) (Q:VK) (E:XK),bF k (A.deeper (ae4 qual (dM st) s.heap.objs.size f bh))->sp vs H Q E ->
   ∃ t,aV (ft (dY P w) P w K mg base N qual (dM st) f bh A outer s H E).qw (iQ st) t/\t { nx:=λy H'=>Q .non H',rt:=Q } (start N vs) H):dH P w K mg base (dY P w) (k+1) f fd ps sp:=by
 obtain⟨oc,od,kV,doc,pm,an,bh,ct,jZ,rfl,lk,gd⟩:=F.ex;refine Hb lk gd S len λA outer s H vs Q E hr mK=>?_;obtain⟨t,h,q⟩:=fQ bh A outer s H vs Q E hr mK;exact#[t,h.qw,q]
end
theorem QO(a b:Int):k6 (.int a) (.int b)=true:=rfl
theorem QP(a b:Bool):k6 (.bl a) (.bl b)=true:=rfl
theorem QQ(a:Int):k6 (.int a) .non=true:=rfl
theorem QS(a:Int):k6 .non (.int a)=true:=rfl
theorem QT:k6 .non .non=true:=rfl
theorem ite_tt:(if true=true then A else B)=A:=if_pos rfl
theorem ite_ff:(if false=true then A else B)=B:=if_neg adq
theorem QU{CX:iu}{P:adP}{w:aes}{K:acM}{mg:Str->Option acU}{base:ae7}{N:List Str}{qual:Str}{scope:ajl}{f:ac4}{cd:acU}{A:ae2}{outer:List Env}{s:ac8}{H:Hp}{E:XK} :
 (ft CX P w K mg base N qual scope f cd A outer s H E).K=K:=rfl
theorem QV{CX:iu}{P:adP}{w:aes}{K:acM}{mg:Str->Option acU}{base:ae7}{N:List Str}{qual:Str}{scope:ajl}{f:ac4}{cd:acU}{A:ae2}{outer:List Env}{s:ac8}{H:Hp}{E:XK} :
 (ft CX P w K mg base N qual scope f cd A outer s H E).N=N:=rfl
section
variable{K:acM}{H H':Hp}{a p:ac4}{xs ys:List V}{i:Int}{v:V}{Q:VK}
theorem QW(e:aj H H')(h:au K H a xs):au K H' a xs:=by
 rcases h with (h|⟨o,h⟩)|h
 .exact .inl (.inl (e _ _ h))
 .exact .inl (.inr #[o,e _ _ h])
 .exact .inr h
theorem aw(h:H p=J):aj H (upd H p o):=λb u e=>by rw[aJ (ja e h)];exact e
theorem aB(h:au K H p xs)(e:dq xs i=O v)(q:Q v H):oz K (.ref p) (.int i) H Q:=.inr (.inl #[p,xs,i,v,Y,Y,h,e,q])
theorem aU(h:ah K H p xs)(e:dq xs i=O v)(q:Q v H):oz K (.ref p) (.int i) H Q:=.inl #[p,xs,i,v,Y,Y,h,e,q]
theorem eQ(h:ah K H p xs):wK K (.ref p) H xs.length:=.inl #[xs,h,Y]
theorem Ar(h:au K H p xs):wK K (.ref p) H xs.length:=.inr #[xs,h,Y]
end
noncomputable def isWhole:V->Bool
 | .int _=>true
 | _=>false
def FJ(J9q:It)(g:TG)(tb:TS)(D:Ends)(L:L2.St)(H:Hp):Prop:=∃ W:Nat->Nat->L2.St->Hp->Prop,(∃ m,W 0 m L H)/\∀ i m L H,W i m L H ->
 (J9q.stop i H/\D.nx L H)∨(J9q.go i H/\∃ N:L2.St->Hp->Prop,(∀ σ' H',N σ' H'->∃ m',m'<m/\W (i+1) m' σ' H')/\∀ x H',J9q.yld i H x H'->g x L H' λσ2 H2=>tb { D with nx:=N,ct:=N,bk:=D.nx } σ2 H2)
section
variable{K:acM}{g:TG}{tb:TS}{D:Ends}{L:L2.St}{H:Hp}{a:ac4}{xs:List V}{lo:Int}{n:Nat}
theorem QX:iP (zP ta) g tb D L H=ta L H (λvs H1=>∃ j:Int,vs=[.int j]/\-(2 ^ 62)<=j/\j<2 ^ 62/\FJ (gj 0 j.toNat) g tb D L H1):=rfl
theorem QY{tl:TE}:iP (zN K tl) g tb D L H=tl L H (λx H1=>∃ a,x = .ref a/\(∃ xs,ah K H1 a xs)/\FJ (jW K a) g tb D L H1):=rfl
theorem QZ{tl:TE}:iP (zO K tl) g tb D L H=tl L H (λx H1=>∃ a,x = .ref a/\(∃ xs,au K H1 a xs)/\FJ (kZ K a) g tb D L H1):=rfl
theorem lg(Pv:Nat->L2.St->Hp->Prop)(h0:Pv 0 L H)(hs:∀ i L H,i<n->Pv i L H->g (.int (lo+i)) L H λσ2 H2=>tb { D with nx:=Pv (i+1),ct:=Pv (i+1),bk:=D.nx } σ2 H2)(hd:∀ L H,Pv n L H->D.nx L H):FJ (gj lo n) g tb D L H:=O8 Pv h0 hs hd
theorem j8(Pv:Nat->L2.St->Hp->Prop)(h0:Pv 0 L H)(hl:∀ i L H,i<=xs.length->Pv i L H->ah K H a xs)(hs:∀ i x L H,xs[i]?=O x->Pv i L H->g x L H λσ2 H2=>tb { D with nx:=Pv (i+1),ct:=Pv (i+1),bk:=D.nx } σ2 H2)(hd:∀ L H,Pv xs.length L H->D.nx L H):FJ (jW K a) g tb D L H:=O6 Pv h0 hl hs hd
theorem HE(Pv:Nat->L2.St->Hp->Prop)(h0:Pv 0 L H)(hl:∀ i L H,i<=xs.length->Pv i L H->au K H a xs)(hs:∀ i x L H,xs[i]?=O x->Pv i L H->g x L H λσ2 H2=>tb { D with nx:=Pv (i+1),ct:=Pv (i+1),bk:=D.nx } σ2 H2)(hd:∀ L H,Pv xs.length L H->D.nx L H):FJ (kZ K a) g tb D L H:=O7 Pv h0 hl hs hd
end
theorem bg:(2:Nat)<=adh:=by decide
theorem fR(h:x.natAbs<2 ^ 200):Bd 4000 x:=Bd.up (n:=200) h (by decide)
theorem oE(h:x.natAbs<2 ^ 200)(h':y.natAbs<2 ^ 200):sO x y:=#[fR h,fR h']
section
end
section
variable{K:acM}{H H1:Hp}{l p:ac4}{xs ys:List V}{o:HO}
theorem j9(hl:H l=J)(s:aj H H1):aj H (upd H1 l o):=λb u e=>by rw[aJ (ja e hl)];exact s b u e
end
end Gz
namespace Gz
open PySem PySem.W PySem.Spec PySem.Calls PyProof.Rows Builtin Builtin.ObjectAttr Builtin.Getset_descriptor
section
variable{prog:adP}{w:aes}{A:ae2}{E:acU->ac8->Prop}{s:ac8}{K:Frag}{x C:ac4}{oe:Obj}{R:akw->ac8->Prop}
end
structure XC(K:Frag)(C:ac4):Prop where
 ex:excIn K C [.type "ValueError",.type "Exception",.type "BaseException",.type "object"] "ValueError.__new__" = true
 mo:mroIn K C (.type "object")=O true
 mb:mroIn K C (.type "BaseException")=O true
 ga:findIn K (.ref C) "__getattribute__" = O (O (.builtin "BaseException.__getattribute__"))
 gr:findIn K (.ref C) "__getattr__" = O J
 gc:findIn K (.ref C) "__class__" = O (O (.builtin "object.__class__"))
theorem Q3{K:Frag}{h:ae7}{C:ac4}(X:K.In h)(c:XC K C) :
 ∃ bm N nm q bs hdct sn sub ab col dd k0 k1 k2 k3 k5 mN,h.get? C=O (excClassObj nm q C N bs bm hdct sn sub ab col dd k0 k1 k2 k3 k5 "ValueError.__new__")/\h.Ns N mN/\mN "__init__" = J /\
  OwnTail h [.type "ValueError",.type "Exception",.type "BaseException",.type "object"] bm:=by
 have q:=c.ex;unfold excIn at q;split at q
 .rename_i dd cd sl ho;split at q
  .rename_i C' bm k0 k1 k2 k3 n k5 hm hs;simp only[ad2,beq_iff_eq,Bool.not_eq_true'] at q;obtain⟨⟨⟨⟨⟨rfl,rfl⟩,hdel⟩,ht⟩,ar⟩,hni⟩:=q;obtain⟨nm,bs,mro,ns,qn,hd,sn,sub,ab,col,del⟩:=cd;dsimp only at hm hdel ar hni;subst hm hdel;have ke:sl = (List.toArray [k0,k1,k2,k3,O (.builtin "ValueError.__new__"),k5]):=by obtain⟨l⟩:=sl;simp only at hs;rw[hs]
   subst ke;exact#[bm,ns,nm,qn,bs,hd,sn,sub,ab,col,dd,k0,k1,k2,k3,k5,_,X _ _ ho,.of_isNs (isNs_of_in X ar),nsMap_none_of_in X ar hni,tail_of_in X ht]
  .cases q
 .cases q
open L2
section
end
end Gz
namespace Gz
open PySem PySem.Spec PyProof.Rows L2
theorem bN.some(x:bN P w H h a o):∃ ob,h.get? a=O ob:=by
 cases o with
 | lst xs=>obtain⟨z,z,z,z,e⟩:=x;exact#[_,e]
 | tup xs=>obtain⟨z,z,z,o,e,z⟩:=x;exact#[_,e]
 | dK kvs=>obtain⟨z,z,z,z,o,z,z,e,z⟩:=x;exact#[_,e]
 | dT kvs=>obtain⟨z,z,z,z,o,z,z,e,z⟩:=x;exact#[_,e]
 | set S n=>obtain⟨o,z,z,z,e,z⟩:=x;exact#[_,e]
 | ins C dx fs=>obtain⟨z,z,z,e,z⟩:=x;exact#[_,e]
 | own y=>exact x
 | xd fs=>obtain⟨z,⟨z,z,z,e,z⟩,z⟩:=x;exact#[_,e]
 | iM lo hi=>obtain⟨z,z,z,e⟩:=x;exact#[_,e]
 | frz ob u=>obtain⟨e,z⟩:=x;exact#[_,e]
 | tbl ps=>exact#[_,x]
 | met f y=>exact#[_,x]
 | ext φ=>exact x.2.1
def HF(X:Cx)(E:XK):Prop:=∀ (pins:List (ac4 × Obj)) (L:L2.St) (H:Hp) (s:ac8) (e C:ac4) (vs:List acU) (h':ae7),Inv X pins L H s->Heap.MadeExcOf s.heap h' e (.ref C) vs->E (.ref C) J H->X.xe (.ref e) { s with heap:=h' }
def HG(C:ac4)(E:XK)(ta:TA):TS:=λD L H=>ta L H λvs H1=>vs.length<=adh/\E (.ref C) J H1
section
theorem gR{x:Str}{np dg pos:Pos}{e₀:agY}{rest:List agY}{ta:TA}{C:ac4}{E:XK}(hx:HF X E)(hg:Gl X x)(hm:X.mg x=O (.ref C))(xc:XC X.K C)(hc:X.calm=true)(ha:PA X (e₀::rest) ta)
 (hd:(x == ("__debug__" : Str))=false:=by decide) (he:adp (e₀::rest) X.env=(false,eval e₀ X.env)::adp rest X.env:=by rfl)
 (dX:(afn dg (adp rest X.env)).any (·.1)=false:=by rfl) :
 PS X (.Raise (O (.Call (.Name x np) (e₀::rest) [] dg)) J pos) (HG C E ta):=by
 intro pins s L H D I h;obtain⟨tl,N,nm,q,bs,hdct,sn,sub,ab,col,dd,k0,k1,k2,k3,k5,mN,hC,hN,hni,T⟩:=Q3 I.ok.mod.kin xc;refine wpAny_Raise_call_subU (C:=C) (nm:=nm) (q:=q) (N:=N) (bs:=bs) (bm:=tl) (hdct:=hdct) (sn:=sn) (sub:=sub) (ab:=ab) (col:=col) (dd:=dd) (k0:=k0) (k1:=k1) (k2:=k2) (k3:=k3) (k5:=k5)
  ahD (by decide +kernel) ahD (mN:=mN) (T.hasType PySem.F.excBase_ValueError.hasBase) (I.ok.hd hc) (by rw[he];show (false || (afn dg (adp rest X.env)).any (·.1))=false;rw[dX];rfl) hni (qr I hg hm #[Y,?_] hd)
 have sS:=ha dg pins s L H _ I h;rw[he] at sS ⊢;refine ahb (aea sS (λus s₂ h₂=>?_) λz z y=>y);obtain⟨vs,H1,I1,r,hl,hE⟩:=h₂;exact#[Y,by rw[<- r.length];exact hl,I1.bk _ _ hC,hN.keeps I1.bk,T.keeps I1.bk,λh' e hm=>hx pins L H1 s₂ e C us h' I1 hm hE]
end
section
variable{P:adP}{w:aes}{K:acM}{mg:Str->Option acU}{base:ae7}{N:List Str}{qual:Str}{scope:ajl}{f:ac4}{cd:acU}{A:ae2}{outer:List Env}{s:ac8}{H:Hp}{E:XK}
theorem HH(hf:env.frame=O L9q)(h:b∈bq (env::outer)):b=L9q∨b∈bq outer:=by unfold bq at h;rw[ad8,hf] at h;exact acZ.mp h
theorem gT:HF (ft (dY P w) P w K mg base N qual scope f cd A outer s H E) E:=by
 intro pins L H1 s1 e C vs h1 I hx hE;have As:(ft (dY P w) P w K mg base N qual scope f cd A outer s H E).A.frames=O (ae4 qual scope s.heap.objs.size f cd::outer):=I.ok.frames;have hF:s1.heap.FunFrames base (ae4 qual scope s.heap.objs.size f cd::outer):=I.stack;have dr:∀ env∈(ae4 qual scope s.heap.objs.size f cd::outer),∀ b,env.frame=O b->b∈bq (ae4 qual scope s.heap.objs.size f cd::outer):=λenv he b hb=>ae3.mpr #[env,he,hb];have Q4:∀ b∈bq (ae4 qual scope s.heap.objs.size f cd::outer),H1 b=J:=I.wx;have qp:∀ b o,s.heap.get? b=O o->b≠s.heap.objs.size:=λb o e=>adk (acT e);have kU:∀ b o,s.heap.get? b=O o->b∉bq outer->b∉bq (ae4 qual scope s.heap.objs.size f cd::outer):=λb o e hb z=>by
  rcases HH rfl z with z|z
  .exact qp b o e z
  .exact hb z
 have ub:Un (bq outer) [] H H1 s.heap s1.heap:=I.base;refine wpAny_leaves_madeW (base:=aiQ s1.heap (bq (ae4 qual scope s.heap.objs.size f cd::outer))) As Y (λb o q=>ajS _ q) (PySem.W.funFrames_hide hF dr) hx λh' t fl tup bt up=>?_;have stays:=fl.1;have qE:∀ b o,s1.heap.get? b=O o->b∉bq (ae4 qual scope s.heap.objs.size f cd::outer)->(aiQ s1.heap (bq (ae4 qual scope s.heap.objs.size f cd::outer))).get? b=O o:=λb o q hb=>ajG _ q hb;have sT:∀ b∈bq (ae4 qual scope s.heap.objs.size f cd::outer),∀ o,s1.heap.get? b=O o->∃ sl,h'.get? b=O { o with slots:=sl }:=λb hb o q=>by obtain⟨y,o',eK,hnf⟩:=hF.mem hb;rw[q] at eK;cases eK;exact up b o (hx.keeps b o q) hnf
 refine#[e,.ref C,.ref t,H1,_,Y,I.os,I.bare,#[λb o q n hb cL=>?_,λb o q n hb cL=>?_,ub.free,λb o q cL=>?_,ub.fH,ub.gN,ub.ij],λb o q n hb=>?_,λb o q hb=>?_,λa o q=>?_,?_,?_,fl,hE]
 .exact stays b o (qE b o (ub.keep b o q n hb cL) (kU b o q hb))
 .obtain⟨sl,e1⟩:=ub.slot b o q n hb cL;obtain⟨gb,e2⟩:=sT b (by unfold bq;rw[ad8];exact adV _ hb) _ e1;exact#[gb,e2]
 .obtain⟨o',e1⟩:=ub.there b o q cL;by_cases hb:b∈bq (ae4 qual scope s.heap.objs.size f cd::outer)
  .obtain⟨sl,e2⟩:=sT b hb o' e1;exact#[_,e2]
  .exact#[o',stays b o' (qE b o' e1 hb)]
 .exact qE b o (ub.keep b o q n hb (by simp)) (kU b o q hb)
 .obtain⟨o',e1⟩:=ub.there b o q (by simp);exact#[o',qE b o' e1 (kU b o q hb)]
 .refine (I.ar a o q).jS (λb u hb z=>qE b u z λhm=>?_) (λy z=>z) λy y z=>z;have:=Q4 b hm;rcases hb with hb|hb
  .rw[hb,q] at this;cases this
  .rw[hb] at this;cases this
 .cases q:H1 e with
  | none=>rfl
  | some u =>
   obtain⟨ob,z⟩:=bN.some (I.ar e u q);rw[hx.new] at z;cases z
 .cases q:s.heap.get? e with
  | none=>rfl
  | some u =>
   obtain⟨o',z⟩:=ub.there e u q (by simp);rw[hx.new] at z;cases z
theorem eS:Passes (dY P w) (ft (dY P w) P w K mg base N qual scope f cd A outer s H E) E:=by
 intro pins L H1 s1 ev s2 I cx;obtain⟨x,cls,a0,H',B,rfl,os,bare,un,kb,tb,ar,hx,hn,fl,hE⟩:=cx;have As:(ft (dY P w) P w K mg base N qual scope f cd A outer s H E).A.frames=O (ae4 qual scope s.heap.objs.size f cd::outer):=I.ok.frames;have hF:s1.heap.FunFrames base (ae4 qual scope s.heap.objs.size f cd::outer):=I.stack;have qp:∀ b o,s.heap.get? b=O o->b≠s.heap.objs.size:=λb o e=>adk (acT e);have kU:∀ b o,s.heap.get? b=O o->b∉bq outer->b∉bq (ae4 qual scope s.heap.objs.size f cd::outer):=λb o e hb z=>by
  rcases HH rfl z with z|z
  .exact qp b o e z
  .exact hb z
 have Q5:∀ b,b∈bq outer->b∈bq (ae4 qual scope s.heap.objs.size f cd::outer):=λb hb=>by unfold bq;rw[ad8];exact adV _ hb
 have ub:Un (bq outer) [] H H1 s.heap s1.heap:=I.base;have HI:Un (bq (ae4 qual scope s.heap.objs.size f cd::outer)) [] H1 H' s1.heap s2.heap:=un;have HJ:∀ b o,s1.heap.get? b=O o->H1 b=J->b∉bq (ae4 qual scope s.heap.objs.size f cd::outer)->B.get? b=O o:=kb;have tb':∀ b o,s1.heap.get? b=O o->b∉bq (ae4 qual scope s.heap.objs.size f cd::outer)->∃ o',B.get? b=O o':=tb;have Q6:∀ b∈bq (ae4 qual scope s.heap.objs.size f cd::outer),H1 b=J:=I.wx;refine wpAny_leaves_onW As Y fl λh' HL up=>?_;have stays:=HL.1;have sT:∀ b∈bq (ae4 qual scope s.heap.objs.size f cd::outer),∀ o,s1.heap.get? b=O o->∃ sl,h'.get? b=O { o with slots:=sl }:=λb hb o q=>by obtain⟨y,o',eK,hnf⟩:=hF.mem hb;rw[q] at eK;cases eK;obtain⟨sl,e1⟩:=HI.slot b o q (Q6 b hb) hb (by simp);obtain⟨gb,e2⟩:=up b _ e1 hnf;exact#[gb,e2]
 refine#[x,cls,a0,H',B,Y,os.trans I.os,bare,#[λb o q n hb cL=>?_,λb o q n hb cL=>?_,λb o q n cL=>?_,λb o q cL=>?_,λb xs q=>un.fH _ _ (ub.fH _ _ q),λb o u q=>un.gN _ _ _ (ub.gN _ _ _ q),λb ps q=>?_],λb o q n hb=>?_,λb o q hb=>?_,ar,hx,?_,HL,hE]
 .exact stays b o (HJ b o (ub.keep b o q n hb cL) (ub.free b o q n cL) (kU b o q hb))
 .obtain⟨sl,e1⟩:=ub.slot b o q n hb cL;obtain⟨gb,e2⟩:=sT b (Q5 b hb) _ e1;exact#[gb,e2]
 .obtain⟨o',e1⟩:=ub.there b o q cL;exact HI.free b o' e1 (ub.free b o q n cL) (by simp)
 .obtain⟨o',e1⟩:=ub.there b o q cL;by_cases hb:b∈bq (ae4 qual scope s.heap.objs.size f cd::outer)
  .obtain⟨sl,e2⟩:=sT b hb o' e1;exact#[_,e2]
  .obtain⟨o2,e2⟩:=tb' b o' e1 hb;exact#[o2,stays b o2 e2]
 .obtain⟨m1,e1⟩:=ub.ij b ps q;obtain⟨m2,e2⟩:=un.ij b _ e1;exact#[m1++m2,by rw[e2,ajT]]
 .exact HJ b o (ub.keep b o q n hb (by simp)) (ub.free b o q n (by simp)) (kU b o q hb)
 .obtain⟨o',e1⟩:=ub.there b o q (by simp);exact tb' b o' e1 (kU b o q hb)
 .cases q:s.heap.get? x with
  | none=>rfl
  | some u =>
   obtain⟨o',z⟩:=ub.there x u q (by simp);rw[hn] at z;cases z
theorem HM{x qual:Str}{st:aeO}{f:ac4}{fd:agl}{N ps:List Str}{k:Nat}{sp:Sp}(F:oB K x qual st f fd)(S:sI N ps (dM st))(len:∀ vs H Q E,sp vs H Q E->vs.length=ps.length)
 (fQ:∀ (bh:acU) (A:ae2) (outer:List Env) (s:ac8) (H:Hp) (vs:List V) (Q:VK) (E:XK),bF k (A.deeper (ae4 qual (dM st) s.heap.objs.size f bh))->sp vs H Q E ->
   ∃ t,aV (ft (dY P w) P w K mg base N qual (dM st) f bh A outer s H E) (iQ st) t/\t { nx:=λy H'=>Q .non H',rt:=Q } (start N vs) H):dH P w K mg base (dY P w) (k+1) f fd ps sp:=by
 obtain⟨oc,od,kV,doc,pm,an,bh,ct,jZ,rfl,lk,gd⟩:=F.ex;refine Hb lk gd S len λA outer s H vs Q E hr mK=>?_;exact fQ bh A outer s H vs Q E hr mK
end
section
end
inductive iS(X:Cx)(scope:ajl)(cl:List (Str × ac4)):List Nat->List Str->Prop where
 | nil:iS X scope cl [] []
 | cons {j:Nat} {y:Str} {c:ac4} {js:List Nat} {ys:List Str} (hN:X.N[j]?=O y) (hk:X.env.kindOf y=O .cell) (h1:cl.lookup y=O c) (h2:X.env.cells.lookup y=O c) (h:iS X scope cl js ys):iS X scope cl (j::js) (y::ys)
inductive kf(X:Cx):List (Str × ac4)->Prop where
 | nil:kf X []
 | cons {n:Str} {a:ac4} {r:List (Str × ac4)} (h:X.env.cells.lookup n=O a) (t:kf X r):kf X ((n,a)::r)
theorem kf.get:∀ {cl:List (Str × ac4)},kf X cl->∀ y c,cl.lookup y=O c->X.env.cells.lookup y=O c:=by
 intro z h y c
 induction h with
 | nil=>intro e;cases e
 | @cons n _ _ h t ih =>
  intro e;rw[List.lookup_cons] at e;by_cases hy:(y == n)=true
  .rw[hy] at e;have e1:y=n:=by simpa using hy
   cases e;rw[e1];exact h
  .rw[afc.mpr hy] at e;exact ih e
theorem iS.get{X:Cx}{scope:ajl}{cl:List (Str × ac4)}{L:L2.St}:∀ {js:List Nat} {ys:List Str},iS X scope cl js ys->∀ (i:Nat) (y:Str) (v:V),ys[i]?=O y->(js.map λj=>(L[j]?).join)[i]?=O (O v) ->
 ∃ (j:Nat) (c:ac4),X.N[j]?=O y/\L[j]?=O (O v)/\X.env.kindOf y=O .cell/\cl.lookup y=O c/\X.env.cells.lookup y=O c:=by
 intro js ys h
 induction h with
 | nil=>intro i y v e;cases e
 | cons hN hk h1 h2 h ih =>
  rename_i j _ _ _ _;intro i y v e q;cases i with
  | zero =>
   cases e;refine#[j,_,hN,?_,hk,h1,h2];cases z:L[j]? with
   | none=>rw[adg,z] at q;cases q
   | some o=>rw[adg,z] at q;cases q;rfl
  | succ i=>exact ih i y v e q
theorem iS.len:∀ {js:List Nat} {ys:List Str},iS X scope cl js ys->js.length=ys.length:=by
 intro y y h
 induction h with
 | nil=>rfl
 | cons _ _ _ _ _ ih=>exact congrArg (· + 1) ih
noncomputable def dN(X:Cx)(N':List Str)(scope:ajl)(cl:List (Str × ac4))(C:ac4)(s2:ac8)(H2:Hp)(ex:List ac4)(pn:List (ac4 × Obj)):Cx :=
 { X with N:=N',s₀:=s2,H₀:=H2,env:=alM scope cl C X.env,outer:=X.stack,ex:=ex,fn:=λy=>false,pn:=pn,xe:=λy y=>False }
structure oF(X:Cx)(x:Str)(scope:ajl)(cl:List (Str × ac4))(fr:List Nat)(ys:List Str):Prop where
 clos:alD scope X.env=pure cl
 nocell:(scope.names.all λp=>p.2 != .cell)=true
 kind:scope.kind = .function
 names:(scope.names.all λp=>p.2 != .local || scope.names.lookup p.1 == O .local)=true
 own:scope.names.lookup x=O .local
 kinds:((relabel scope X.env).names.all λp=>(p.2 != .cell && p.2 != .free) || (cl.lookup p.1).isSome)=true
 cls:kf X cl
 bq:iS X scope cl fr ys
 nd:(x::ys).Nodup
 kfr:(ys.all λy=>(relabel scope X.env).names.lookup y == O .cell)=true
def lj(X:Cx)(ifs:List agY)(t:TT):Prop :=
 ∀ (pins:List (ac4 × Obj)) (s:ac8) (L:L2.St) (H:Hp) (Q:Bool->Hp->Prop),Inv X pins L H s->t L H Q ->
  adi (model X.prog X.w) X.A (forIn ifs true λc r=>if r=true then do let ok <- alZ c X.env (eval c X.env);pure (afC ok) else pure (afC r)) (TP X pins L Q) X.xe s
def HN:TT:=λy H Q=>Q true H
theorem dt:lj X [] HN:=λy y y H y I h=>wpAny_tests_nil #[H,I,h]
theorem kh(hc:PT X c t):lj X [c] t:=λpins s L H Q I h=>wpAny_tests_one (hc pins s L H Q I h)
def oG(J9q:It)(ρ:L2.St)(tt:TT)(te:TE)(H:Hp)(Q:VK):Prop:=∃ W:Nat->Nat->List V->Hp->Prop,(∃ m,W 0 m [] H)/\∀ i m ys H,W i m ys H ->
 (J9q.stop i H/\ys.length<=adh/\∀ l,H l=J->Q (.ref l) (upd H l (.lst ys)))∨(J9q.go i H/\ys.length<adh/\∃ N:List V->Hp->Prop,(∀ zs H',N zs H'->∃ m',m'<m/\W (i+1) m' zs H') /\
  ∀ x H',J9q.yld i H x H'->tt (O x::ρ) H' λb H1=>if b=true then te (O x::ρ) H1 λy H2=>N (ys++[y]) H2 else N ys H1)
def Au(wi:TI)(fr:List Nat)(tt:TT)(te:TE):TE:=λL H Q=>wi L H λJ9q H1=>oG J9q (fr.map λj=>(L[j]?).join) tt te H1 Q
structure ki(X:Cx)(own:List Str)(scope:ajl)(cl:List (Str × ac4))(fr:List Nat)(ys:List Str):Prop where
 clos:alD scope X.env=pure cl
 nocell:(scope.names.all λp=>p.2 != .cell)=true
 kind:scope.kind = .function
 names:(scope.names.all λp=>p.2 != .local || scope.names.lookup p.1 == O .local)=true
 kinds:((relabel scope X.env).names.all λp=>(p.2 != .cell && p.2 != .free) || (cl.lookup p.1).isSome)=true
 cls:kf X cl
 bq:iS X scope cl fr ys
 kfr:(ys.all λy=>(relabel scope X.env).names.lookup y == O .cell)=true
def ji(k:Nat)(J9q:It)(g:TG)(ρ:L2.St)(tt:TT)(te:TE)(H:Hp)(Q:VK):Prop:=∃ W:Nat->Nat->List V->Hp->Prop,(∃ m,W 0 m [] H)/\∀ i m ys H,W i m ys H ->
 (J9q.stop i H/\ys.length<=adh/\∀ l,H l=J->Q (.ref l) (upd H l (.lst ys)))∨(J9q.go i H/\ys.length<adh/\∃ N:List V->Hp->Prop,(∀ zs H',N zs H'->∃ m',m'<m/\W (i+1) m' zs H') /\
  ∀ os:List (Option V),os.length=k->∀ x H',J9q.yld i H x H'->g x (os++ρ) H' λσ2 H2=>∃ qA,qA.length=k/\σ2=qA++ρ/\tt σ2 H2 λb H1=>if b=true then te σ2 H1 λy H2=>N (ys++[y]) H2 else N ys H1)
def HP(k:Nat)(wi:TI)(g:TG)(fr:List Nat)(tt:TT)(te:TE):TE:=λL H Q=>wi L H λJ9q H1=>ji k J9q g (fr.map λj=>(L[j]?).join) tt te H1 Q
theorem Q7(I:Nat->ac8->Prop)(turn:∀ n s,I n s->adi (model prog w) A (afT it) (λr s₁=>match r with
 | none=>R (.ok .next) s₁
 | some v=>adi (model prog w) A (agu target it v) (λ_ HQ=>adi (model prog w) A (assign target env v) (λ_ s₂ =>
  adi (model prog w) A (forIn ifs true λc r=>if r=true then do let ok <- alZ c env (eval c env);pure (afC ok) else pure (afC r)) (λok s₃ =>
   if ok=true then adi (model prog w) A (eval elt env) (λx s₄ =>
    adi (model prog w) A (call (.builtin "list.append") [acc,x]) (λ_ s₅=>∃ m,m<n/\I m s₅) (alc (model prog w) A env λe s'=>R (.error e) s') s₄) (alc (model prog w) A env λe s'=>R (.error e) s') s₃
   else ∃ m,m<n/\I m s₃) (alc (model prog w) A env λe s'=>R (.error e) s') s₂) (alc (model prog w) A env λe s'=>R (.error e) s') HQ) (alc (model prog w) A env λe s'=>R (.error e) s') s₁) (alc (model prog w) A env λe s'=>R (.error e) s') s) (n:Nat) (h:I n s) :
 ago (model prog w) A (.compLoop (.ListComp elt [#[target,iter,ifs,0]] scope pos) 0 it acc env) R s:=by
 refine codeAny_loop Y I (λn s hI=>?_) n h;show adi _ A ((compTurn (.ListComp elt [#[target,iter,ifs,0]] scope pos) 0 it acc env).onRaise (λx=>do noteFrame x env;theTreesLotGoes x)) _ _ s;refine wpAny_noted ?_;rw[compTurn_list];refine acK (ajV (acK (aea (turn n s hI) (λr s₁ h₁=>?_) λ_ _ h'=>h')));cases r with
 | none=>exact acQ h₁
 | some v =>
  refine acK (aea h₁ (λ_ HQ Q8=>?_) λ_ _ h'=>h');refine acK (aea Q8 (λ_ s₂ h₂=>acK (aea h₂ (λok s₃ h₃=>?_) λ_ _ h'=>h')) λ_ _ h'=>h');cases ok with
  | false=>exact acQ #[Y,h₃]
  | true =>
   exact acK (acK (aea h₃ (λx s₄ h₄=>acK (aea h₄ (λ_ s₅ h₅=>acQ (acQ #[Y,h₅])) λ_ _ h'=>h')) λ_ _ h'=>h'))
theorem HR{l:List (Str × ajj)}{p:Str × ajj->Bool}(h:l.all p=true){y:Str}{k:ajj}(e:l.lookup y=O k):p (y,k)=true:=by exact afq.mp h _ (afe e)
def Av(i:Nat)(te:TE):TS:=λD L H=>te L H λv H1=>D.nx (L.set i (O v)) H1
section
theorem Ra(S:ki X own scope cl fr ys)(I2:Inv X pins L H2 s2)(f2:∀ b∈ex,dA X pins H2 b)(hC:s2.heap.objs.size<=C)(hex:∀ b∈ex,b<s2.heap.objs.size):(dN X (own++ys) scope cl C s2 H2 ex pn).Ok:=by
 refine#[I2.ok.mod,S.kind,I2.ok.glob,I2.ok.blt,hC,λa b c h1 h2=>?_,λy hy=>?_,λv v z=>(nomatch z),I2.ok.hd,I2.ok.frames,.inl rfl,λb hb=>#[?_,λy c e z=>?_],I2.bs,acR I2.ok.bsz I2.sz,λb o e hb=>?_,λb hb z=>?_,I2.stack,I2.wx]
 .exact I2.ok.inj a b c (S.cls.get a c h1) (S.cls.get b c h2)
 .have Rb:(relabel scope X.env).names.lookup y=O .cell∨(relabel scope X.env).names.lookup y=O .free:=hy;have q:(cl.lookup y).isSome=true:=by
   rcases Rb with e|e
   .simpa using HR S.kinds e
   .simpa using HR S.kinds e
  exact ags.mp q
 .exact adk (adm (hex b hb) hC)
 .exact (f2 b hb).2.2.2.2.1 y c (S.cls.get y c e) z
 .obtain⟨v,v,v,d,v,v⟩:=f2 b hb;rcases d with d|d
  .exact I2.ok.noex b o e d
  .exact absurd (adm (acT e) (acR I2.ok.bsz d)) (aex _)
 .obtain⟨v,d1,d2,v⟩:=f2 b hb;rcases acZ.mp (I2.qo b z) with q|q
  .exact d1 q
  .exact d2 q
noncomputable def jk(X:Cx)(N':List Str)(fn:Str->Bool)(scope:ajl)(cl:List (Str × ac4))(C:ac4)(s2:ac8)(H2:Hp)(ex:List ac4)(pn:List (ac4 × Obj)):Cx :=
 { X with N:=N',s₀:=s2,H₀:=H2,env:=alM scope cl C X.env,outer:=X.stack,ex:=ex,fn:=fn,pn:=pn,xe:=λy y=>False }
theorem HS{C D:ac4}{fp:List ac4}(I2:Inv X pins L H2 s2)(f2:∀ b∈fp,dA X pins H2 b)(hC:s2.heap.objs.size<=C)(hD:s2.heap.objs.size<=D):∀ p∈X.pn++pins,p.1≠C/\p.1≠D/\p.1∉bq X.stack/\∀ b∈fp,p.1≠b:=λp hp=>by
 obtain⟨e,n,nL,nf,y⟩:=I2.pin p hp;have lt:=acT e;refine#[by walk_at "o",by walk_at "o",λz=>?_,λb hb=>(f2 b hb).2.2.2.2.2 p hp];rcases acZ.mp (I2.qo _ z) with q|q
 .exact nL q
 .exact nf q
theorem Rc{J9q:It}{fp:List ac4}{it C D:ac4}{tn:Nat->ae7->Prop}{Q:VK}{RR:acU->ac4->akw->ac8->Prop}{nm:List Str}{fn:Str->Bool}{k:Nat}{Aw ρ:List (Option V)}{h1:ae7}{tk:Nat}
 (hc:X.calm=true) (hg:PG (jk X nm fn scope cl C s2 H2 fp (X.pn++pins)) tg g) (hb:lj (jk X nm fn scope cl C s2 H2 fp (X.pn++pins)) ifs tt/\PE (jk X nm fn scope cl C s2 H2 fp (X.pn++pins)) elt te)
 (I2:Inv X pins L H2 s2) (T:Turn X.prog X.w X.K tg J9q fp it tn) (iq:tn 0 s2.heap) (f2:∀ b∈fp,dA X pins H2 b)
 (h:ji k J9q g ρ tt te H2 Q)
 (Ax:∀ D C s' H',Inv X pins L H' s'->(∃ m,s'.heap.Ns C m)->dA X pins H' C->Q (.ref D) H'->RR (.ref D) C (.ok .next) s')
 (sU:Aw.length=k) (I4:Inv (jk X nm fn scope cl C s2 H2 fp (X.pn++pins)) [] (Aw++ρ) H2 { s2 with heap:=h1,toks:=tk }) (keep:∀ b o,s2.heap.get? b=O o->h1.get? b=O o)
 (hD:h1.get? D=O { cls:=.type "list",data:=.seq ([]:List acU).toArray 0 }) (eD:s2.heap.objs.size=D) (eC:s2.heap.objs.size+1=C)
 (bj:∀ y c,cl.lookup y=O c->c≠D/\∀ b∈fp,c≠b) :
 ago (model X.prog X.w) X.A (.compStart (.ListComp elt [#[tg,iter,ifs,0]] scope pos) 0 (.ref it) (.ref D) (alM scope cl C X.env)) (RR (.ref D) C) { s2 with heap:=h1,toks:=tk }:=by
 obtain⟨W,⟨m0,w0⟩,turn⟩:=h;have oH:D≠C:=by walk_at "o"
 have qF:s2.heap.objs.size<=C:=by walk_at "o"
 have sV:s2.heap.objs.size<=D:=by walk_at "o"
 have oI:∀ b∈fp,b<D:=λb hb=>by obtain⟨o,e,_⟩:=T.obj 0 _ iq b hb;exact eD ▸ acT e
 have Rf:∀ b,D<=b->b∉bq X.stack:=λb hle z=>by
  rcases acZ.mp (I2.qo b z) with q|q
  .have:=I2.lt;walk_at "o"
  .exact I2.Gf (eD ▸ hle) q
 have Ay:=HS I2 f2 qF sV;have HU:tn 0 h1:=T.keep 0 _ _ iq λb _ o e=>keep b o e;have Az:∀ (H':Hp) (o:Obj),(∀ b∈fp,H' b=J)->∀ b∈fp,dA (jk X nm fn scope cl C s2 H2 fp (X.pn++pins)) [(D,o)] H' b:=λH' o hn b hb=>by
  obtain⟨_,d1,d2,d3,d4,d5⟩:=f2 b hb;have lt:=oI b hb;refine#[hn b hb,?_,λz=>?_,.inl hb,λy c e z=>(bj y c e).2 b hb z,λp hp=>?_]
  .show b≠C;walk_at "o"
  .rcases acZ.mp (I2.qo b z) with q|q
   .exact d1 q
   .exact d2 q
  .have fv:p∈(X.pn++pins)++[(D,o)]:=hp;rcases adf.mp fv with z|z
   .exact d5 p z
   .have:p=(D,o):=by simpa using z
    subst this;show D≠b;walk_at "o"
 have loop:∀ s':ac8,s' = { s2 with heap:=h1,toks:=tk } ->
  ago (model X.prog X.w) X.A (.compLoop (.ListComp elt [#[tg,iter,ifs,0]] scope pos) 0 (.ref it) (.ref D) (alM scope cl C X.env)) (RR (.ref D) C) s':=by
  rintro s' rfl;refine Q7 (λn s'=>∃ i zs H' os ai nn,os.length=k/\Inv (jk X nm fn scope cl C s2 H2 fp (X.pn++pins)) [] (os++ρ) H' s'/\tn i s'.heap/\(∀ b∈fp,H' b=J)/\H' D=J /\
   s'.heap.get? D=O { cls:=.type "list",data:=.seq (ai:List acU).toArray nn }/\Vals zs ai/\W i n zs H') ?_ m0 #[0,[],H2,Aw,[],0,sU,I4,HU,λb hb=>(f2 b hb).1,I2.ar.fresh sV,hD,.nil,w0]
  rintro n s3 ⟨i,zs,H3,HV,ai,nn,Rg,I3,sE,sF,AA,Rh,r3,w3⟩;have HW:Inv (jk X nm fn scope cl C s2 H2 fp (X.pn++pins)) [(D,{ cls:=.type "list",data:=.seq ai.toArray nn })] (HV++ρ) H3 s3:=I3.oj λp hp=>by
   have:p=(D,{ cls:=.type "list",data:=.seq ai.toArray nn }):=by simpa using hp
   subst this;exact#[Rh,AA,oH,Rf D (acS _),λv z=>nomatch z]
  rcases turn i n zs H3 w3 with ⟨stop,hlen,q⟩|⟨go,hlen,N,HX,step⟩
  .refine aea (T.done (jk X nm fn scope cl C s2 H2 fp (X.pn++pins)) Y Y Y hc i _ s3 _ H3 (λ_ _=>False) HW (Az H3 _ sF) sE stop) (λr s4 zq=>?_) λ_ _ z=>z.elim;obtain⟨hr,J4⟩:=zq;subst hr;have un:=J4.base;have Ri:∀ b o,s2.heap.get? b=O o->b≠D:=λb o e=>by have:=acT e;walk_at "o"
   have gx:∀ b u,H3 b=O u->b≠D:=λb u e z=>by rw[z,AA] at e;cases e
   refine Ax D C s4 (upd H3 D (.lst zs)) ?_ ?_ ?_ (q D AA)
   .refine I2.OS (ch:=fp) J4.os #[un.keep,un.slot,λb o e nn hx=>?_,un.there,λb xs e=>?_,λb o u e=>?_,λb ps e=>?_] (λa o e=>?_) J4.bare λb hb=>?_
    .rw[aJ (Ri b o e)];exact un.free b o e nn hx
    .have:=un.fH b xs e;rw[aJ (gx b _ this)];exact this
    .have:=un.gN b o u e;rw[aJ (gx b _ this)];exact this
    .obtain⟨more,this⟩:=un.ij b ps e;exact#[more,by rw[aJ (gx b _ this)];exact this]
    .by_cases ha:a=D
     .subst ha;rw[ao] at e;cases e;exact#[hlen,ai,nn,r3,(J4.pin (a,_) (ac6 _ (ada.mpr Y))).1]
     .rw[aJ ha] at e;exact (J4.ar a o e).jS (λ_ _ _ z=>z) (λb z=>by rw[aJ (gx b _ z)];exact z) λb xs z=>by rw[aJ (gx b _ z)];exact z
    .obtain⟨_,d1,d2,d3,d4,d5⟩:=f2 b hb;exact#[d3,d1,d4,d5]
   .obtain⟨m,hm,_⟩:=J4.loc;exact#[m,hm]
   .exact I2.fK qF (by rw[aJ (adR oH)];exact J4.free)
  .refine aea (T.item (jk X nm fn scope cl C s2 H2 fp (X.pn++pins)) Y Y Y hc i _ s3 _ H3 (λ_ _=>False) HW (Az H3 _ sF) sE go) (λr s4 zq=>?_) λ_ _ z=>z.elim;obtain⟨u,hr,h4⟩:=zq;subst hr;refine aea h4 (λ_ s5 zq=>?_) λ_ _ z=>z.elim;obtain⟨y5,H5,I5,r5,yl,ot,zR⟩:=zq;have zS:=I5.pinned (Az H5 _ zR) (T.obj _ _ ot);refine aea (hg _ s5 _ H5 y5 u _ zS r5 (step HV Rg y5 H5 yl)) (λ_ s6 zq=>?_) λ_ _ z=>z.elim;obtain⟨σ6,H6,I6,w5,HY,e6,q6⟩:=zq;subst e6;have after:∀ (s7:ac8) (H7:Hp),Inv (jk X nm fn scope cl C s2 H2 fp (X.pn++pins)) ([(D,{ cls:=.type "list",data:=.seq ai.toArray nn })]++sD fp s5.heap) (w5++ρ) H7 s7 ->
    Inv (jk X nm fn scope cl C s2 H2 fp (X.pn++pins)) [] (w5++ρ) H7 s7/\tn (i+1) s7.heap/\(∀ b∈fp,H7 b=J)/\H7 D=J/\s7.heap.get? D=O { cls:=.type "list",data:=.seq ai.toArray nn }:=λs7 H7 I7=>by
    have pD:=I7.pin (D,{ cls:=.type "list",data:=.seq ai.toArray nn }) (ac6 _ (adH _ (ada.mpr Y)));refine#[I7.oj λp hp=>absurd hp (by simp),T.keep _ _ _ ot λb hb o e=>(I7.pin (b,o) (ac6 _ (ac6 _ (wG hb e)))).1,λb hb=>?_,pD.2.1,pD.1];obtain⟨o,e,_⟩:=T.obj _ _ ot b hb;exact (I7.pin (b,o) (ac6 _ (ac6 _ (wG hb e)))).2.1
   refine aea (hb.1 _ s6 _ H6 _ I6 q6) (λok s7 zq=>?_) λ_ _ z=>z.elim;obtain⟨H7,I7,q7⟩:=zq
   try dsimp only at q7
   by_cases ar:ok=true
   .rw[if_pos ar] at q7 ⊢;refine aea (hb.2 _ s7 _ H7 _ I7 q7) (λyv s8 zq=>?_) λ_ _ z=>z.elim;obtain⟨y8,H8,I8,r8,n8⟩:=zq;obtain⟨m',AB,w8⟩:=HX _ _ n8;obtain⟨J8,Rj,Rl,HZ,AD⟩:=after s8 H8 I8;have hl:=r3.length;refine agN ajY #[_,AD,Y] ajI (ajn _ _) (akj D ai.toArray nn yv (by rw[ac5];walk_at "o")) #[AD,?_];have Ia:=aix AD (λa=>a.push yv);rw[akk] at Ia;refine#[m',AB,i+1,zs++[y8],H8,w5,ai++[yv],_,HY,J8.turned (it:=D) (λb o bH e=>(ac9 _ _ (adR bH)).trans e) HZ oH (.inr sV) (λy c e z=>?_) (λp hp=>?_),T.keep _ _ _ Rj λb bH o e=>?_,Rl,HZ,Ia,r3.append (.cons r8 .nil),w8]
    .exact (bj y c e).1 z
    .have fv:p∈X.pn++pins:=by have:p∈(X.pn++pins)++[]:=hp;simpa using this
     exact (Ay p fv).2.1
    .have:=oI b bH;exact (ac9 _ _ (by walk_at "o")).trans e
   .rw[if_neg ar] at q7 ⊢;obtain⟨m',AB,w7⟩:=HX _ _ q7;obtain⟨J7,Rm,Rn,Ro,Rp⟩:=after s7 H7 I7;exact#[m',AB,i+1,zs,H7,w5,ai,nn,HY,J7,Rm,Rn,Ro,Rp,r3,w7]
 exact codeAny_compStart_list (loop _ Y) (T.self X.A 0 _ _ _ HU (loop _ Y))
theorem Ib{J9q:It}{fp:List ac4}{it:ac4}{tn:Nat->ae7->Prop}{E:acU->ac8->Prop}{Q:VK}{RR:acU->ac4->akw->ac8->Prop}
 (S:ki X own scope cl fr ys) (hc:X.calm=true) (hg:∀ (C:ac4) (s:ac8) (H:Hp) (ex:List ac4) (pn:List (ac4 × Obj)),PG (dN X (own++ys) scope cl C s H ex pn) tg g)
 (hb:∀ (C:ac4) (s:ac8) (H:Hp) (ex:List ac4) (pn:List (ac4 × Obj)),lj (dN X (own++ys) scope cl C s H ex pn) ifs tt/\PE (dN X (own++ys) scope cl C s H ex pn) elt te)
 (I2:Inv X pins L H2 s2) (T:Turn X.prog X.w X.K tg J9q fp it tn) (iq:tn 0 s2.heap) (f2:∀ b∈fp,dA X pins H2 b)
 (h:ji own.length J9q g (fr.map λj=>(L[j]?).join) tt te H2 Q)
 (Ax:∀ D C s' H',Inv X pins L H' s'->(∃ m,s'.heap.Ns C m)->dA X pins H' C->Q (.ref D) H'->RR (.ref D) C (.ok .next) s') :
 adi (model X.prog X.w) X.A (amd []) (λacc s3=>adi (model X.prog X.w) X.A (newFunctionEnv scope X.env.globals cl [] X.env.qual J .none (O X.env)) (λIc s4 =>
  ago (model X.prog X.w) X.A (.compStart (.ListComp elt [#[tg,iter,ifs,0]] scope pos) 0 (.ref it) acc { Ic with scope:=relabel scope X.env }) (RR acc Ic.locals) s4) E s3) E s2:=by
 refine aeo (wpAny_newFunctionEnv (λy hy=>by simpa using afq.mp S.nocell y hy) (λy hy=>absurd hy (by simp)) (λh1 oA kj=>?_) S.kind);dsimp only at oA kj ⊢;generalize eP:s2.heap.push { cls:=.type "list",dict:=J,data:=.seq ([]:List acU).toArray }=P2 at oA kj ⊢;have sz:P2.objs.size=s2.heap.objs.size+1:=by rw[<- eP,aem]
 have oH:s2.heap.objs.size≠P2.objs.size:=by walk_at "o"
 have keep:∀ b o,s2.heap.get? b=O o->h1.get? b=O o:=λb o e=>by have lt:=acT e;exact kj.extBut b o (by walk_at "o") (acL _ (eP ▸ acL _ e))
 have hD:h1.get? s2.heap.objs.size=O { cls:=.type "list",data:=.seq ([]:List acU).toArray 0 } :=
  kj.extBut _ _ oH (acL _ (eP ▸ acV _ Y))
 generalize eC:P2.objs.size=C at oA kj oH ⊢;generalize eD:s2.heap.objs.size=D at oH hD;have qF:s2.heap.objs.size<=C:=by walk_at "o"
 have sV:s2.heap.objs.size<=D:=by walk_at "o"
 have oI:∀ b∈fp,b<s2.heap.objs.size:=λb hb=>by obtain⟨o,e,_⟩:=T.obj 0 _ iq b hb;exact acT e
 have Rq:(dN X (own++ys) scope cl C s2 H2 fp (X.pn++pins)).Ok:=Ra S I2 f2 qF (λb hb=>by have:=oI b hb;walk_at "o");have Ay:=HS I2 f2 qF sV;have I4:Inv (dN X (own++ys) scope cl C s2 H2 fp (X.pn++pins)) [] ((own.map λ_=>J)++fr.map λj=>(L[j]?).join) H2 { s2 with heap:=h1,toks:=s2.toks+([]:List (Str × acU)).length }:=by
  refine#[Rq,Y,I2.bare,Un.kept keep,#[_,oA,λi y v e1 e2 e3=>?_],λy c e=>?_,I2.ar.fresh qF,λy c e=>I2.jb y c (S.cls.get y c e),λp hp=>?_,I2.ar.kept keep,?_]
  .by_cases hio:i<own.length
   .rw[aen (by simpa using hio)] at e2;simp[hio] at e2
   .rw[ad6 (by simp;lia)] at e2;have w6:ys[i-own.length]?=O y:=by
     have:(own++ys)[i]?=O y:=e1
     rwa [ad6 (by lia)] at this
    rw[acN] at e2;obtain⟨j,c,hN,hσ,hk,AE,sW⟩:=S.bq.get (i-own.length) y v w6 e2;obtain⟨m,hm,hl⟩:=I2.loc;obtain⟨u,ru,lu⟩:=hl j y v hN hσ (.inr (.inl hk));refine#[u,ru,.inr #[.inl ?_,c,AE,?_]]
    .have z:=afq.mp S.kfr y (ads w6);exact (by simpa using z:(relabel scope X.env).names.lookup y=O .cell)
    .rcases lu with ⟨z,_⟩|⟨_,c',e',q'⟩
     .rw[hk] at z;cases z
     .rw[sW] at e';cases e';obtain⟨o,ho,hd⟩:=q';exact#[o,keep _ _ ho,hd]
  .obtain⟨v,o,ho,hd⟩:=I2.cell y c (S.cls.get y c e);exact#[v,o,keep _ _ ho,hd]
  .have fv:p∈X.pn++pins:=by have:p∈(X.pn++pins)++[]:=hp;simpa using this
   obtain⟨e,n,_,_,d⟩:=I2.pin p fv;obtain⟨p1,_,p3,_⟩:=Ay p fv;exact#[keep _ _ e,n,p1,p3,d]
  .show ((own.map λ_=>(J:Option V))++fr.map λj=>(L[j]?).join).length=(own++ys).length;simp[S.bq.len]
 refine Rc hc (hg C s2 H2 fp (X.pn++pins)) (hb C s2 H2 fp (X.pn++pins)) I2 T iq f2 h Ax (by simp) I4 keep hD eD (sz.symm.trans eC) λy c e=>?_;obtain⟨v,o,ho,_⟩:=I2.cell y c (S.cls.get y c e);have:=acT ho;exact#[by walk_at "o",λb hb z=>(f2 b hb).2.2.2.2.1 y c (S.cls.get y c e) z]
theorem Ie{wi:TI}{B:L2.St->It->Hp->VK->Prop}(S:ki X own scope cl fr ys)(hc:X.calm=true)(hi:PI X tg iter wi)(hg:∀ (C:ac4) (s:ac8) (H:Hp) (ex:List ac4) (pn:List (ac4 × Obj)),PG (dN X (own++ys) scope cl C s H ex pn) tg g)
 (hb:∀ (C:ac4) (s:ac8) (H:Hp) (ex:List ac4) (pn:List (ac4 × Obj)),lj (dN X (own++ys) scope cl C s H ex pn) ifs tt/\PE (dN X (own++ys) scope cl C s H ex pn) elt te)
 (hB:∀ ρ J9q H Q,B ρ J9q H Q->ji own.length J9q g ρ tt te H Q) (hs:∀ z,afA iter X.env z=pure z:=by intro v;rfl):PE X (.ListComp elt [#[tg,iter,ifs,0]] scope pos) (λL H Q=>wi L H λJ9q H1=>B (fr.map λj=>(L[j]?).join) J9q H1 Q):=by
 intro pins s L H Q I h;rw[eval_ListComp];refine ah6 (use:=J) Y hs S.clos S.kind (λy hy hl=>?_) (aC (hi pins s L H _ I h) λxv s1 h1=>aC h1 λwF s2 h2=>?_)
 .have z:=afq.mp S.names y hy;rw[hl] at z;simpa using z
 .obtain⟨it,fp,tn,J9q,H2,rfl,I2,T,iq,f2,jm⟩:=h2;refine Ib (RR:=λacc C=>compPost (model X.prog X.w) X.A X.xe J (EP X pins L Q) acc C) S hc hg hb I2 T iq f2 (hB _ _ _ _ jm) λD C s' H' J' hn fC q=>?_;obtain⟨m,hm⟩:=hn;obtain⟨c0,c1,c2,c3,c4,c5⟩:=fC;exact#[m,hm,λh' sb=>#[.ref D,H',J'.turned (it:=C) (λb o hb e=>sb.extBut b o hb e) c0 c1 c3 c4 c5,Y,q]]
theorem Rr{wi:TI}{B:L2.St->It->Hp->VK->Prop}{y:Str}{py xa:Pos}{i:Nat}(S:ki X own scope cl fr ys)(hc:X.calm=true)(hN:X.N.Nodup)(hy:X.N[i]?=O y)(hl:X.env.scope.names.lookup y=O .local)(hi:PI X tg iter wi)(hg:∀ (C:ac4) (s:ac8) (H:Hp) (ex:List ac4) (pn:List (ac4 × Obj)),PG (dN X (own++ys) scope cl C s H ex pn) tg g)
 (hb:∀ (C:ac4) (s:ac8) (H:Hp) (ex:List ac4) (pn:List (ac4 × Obj)),lj (dN X (own++ys) scope cl C s H ex pn) ifs tt/\PE (dN X (own++ys) scope cl C s H ex pn) elt te)
 (hB:∀ ρ J9q H Q,B ρ J9q H Q->ji own.length J9q g ρ tt te H Q) (AF:ahi (.ListComp elt [#[tg,iter,ifs,0]] scope pos) (O (.Name y py)) xa.line X.env=pure true:=by rfl)
 (hs:∀ z,afA iter X.env z=pure z:=by intro _;rfl):PS X (.Assign [.Name y py] (.ListComp elt [#[tg,iter,ifs,0]] scope pos) xa) (Av i λL H Q=>wi L H λJ9q H1=>B (fr.map λj=>(L[j]?).join) J9q H1 Q):=by
 intro pins s L H Dn I h;rw[exec_Assign_Name_used _ _ _ _ AF];refine acK (ajV (acK ?_));show adi _ X.A (do let _ <- comprehension (.ListComp elt [#[tg,iter,ifs,0]] scope pos) scope X.env _ (amd []) false (eval iter X.env) (O (assign (.Name y py) X.env))) _ _ s;refine acK (aC (ah6 (use:=O (assign (.Name y py) X.env)) (Q:=λ_ s'=>SP X pins Dn .next s') Y hs S.clos S.kind (λz hz hl=>?_) (aC (hi pins s L H _ I h) λxv s1 h1=>aC h1 λwF s2 h2=>?_)) λ_ s' hq=>acQ (acQ hq))
 .have z':=afq.mp S.names z hz;rw[hl] at z';simpa using z'
 .obtain⟨it,fp,tn,J9q,H2,rfl,I2,T,iq,f2,jm⟩:=h2;refine Ib (RR:=λacc C=>compPost (model X.prog X.w) X.A X.xe (O (assign (.Name y py) X.env)) (λ_ s'=>SP X pins Dn .next s') acc C) S hc hg hb I2 T iq f2 (hB _ _ _ _ jm) λD C s' H' J' hn fC q=>?_;obtain⟨m,oC,es,ep,ho,hd,hr⟩:=hn;obtain⟨c0,c1,c2,c3,c4,c5⟩:=fC;have J2:Inv X (pins++[(C,oC)]) L H' s':=J'.oj λp hp=>by
   rcases adf.mp hp with z|z
   .exact J'.pin p (ac6 _ z)
   .have:p=(C,oC):=by simpa using z
    subst this;exact#[ho,c0,c1,c2,λv z=>by rw[hd] at z;cases z]
  show adi _ X.A (assign (.Name y py) X.env (.ref D)) _ _ _;refine aC (gh (X:=X) hN hy (.inl hl) (.inr hl) _ s' L H' (.ref D) (.ref D) (λσ' gy=>σ'=L.set i (O (.ref D))/\gy=H') J2 Y #[Y,Y]) λ_ s3 zq=>?_;obtain⟨σ3,H3,J3,e1,e2⟩:=zq;subst e1 e2;obtain⟨pc,pn0,_⟩:=J3.pin (C,oC) (ac6 _ (ac6 _ (ada.mpr Y)));refine#[m,#[oC,es,ep,pc,hd,hr],λh' sb=>#[_,H3,J3.oq.turned (it:=C) (λb o hb e=>sb.extBut b o hb e) c0 c1 c3 c4 c5,q]]
theorem xb(S:ki X own scope cl fr ys)(hc:X.calm=true)(hi:PI X tg iter wi)(hg:∀ (C:ac4) (s:ac8) (H:Hp) (ex:List ac4) (pn:List (ac4 × Obj)),PG (dN X (own++ys) scope cl C s H ex pn) tg g)(hb:∀ (C:ac4) (s:ac8) (H:Hp) (ex:List ac4) (pn:List (ac4 × Obj)),lj (dN X (own++ys) scope cl C s H ex pn) ifs tt/\PE (dN X (own++ys) scope cl C s H ex pn) elt te)(hs:∀ z,afA iter X.env z=pure z:=by intro y;rfl):PE X (.ListComp elt [#[tg,iter,ifs,0]] scope pos) (HP own.length wi g fr tt te):=Ie (B:=λρ J9q H Q=>ji own.length J9q g ρ tt te H Q) S hc hi hg hb (λy y y y h=>h) hs
end
theorem Ig(h:oG J9q ρ tt te H Q):ji 1 J9q (bZ 0) ρ tt te H Q:=by
 obtain⟨W,w0,turn⟩:=h;refine#[W,w0,λi m ys H hw=>(turn i m ys H hw).imp id λ⟨a,b,N,hN,st⟩=>#[a,b,N,hN,λos ho x H' y=>?_]]
 match os,ho with
 | [_],_=>exact#[[O x],Y,Y,st x H' y]
section
theorem oF.g(S:oF X x scope cl fr ys):ki X [x] scope cl fr ys:=#[S.clos,S.nocell,S.kind,S.names,S.kinds,S.cls,S.bq,S.kfr]
theorem oF.pg(S:oF X x scope cl fr ys)(C:ac4)(s:ac8)(H:Hp)(ex:List ac4)(pn:List (ac4 × Obj)):PG (dN X ([x]++ys) scope cl C s H ex pn) (.Name x px) (bZ 0) :=
 gh (X:=dN X (x::ys) scope cl C s H ex pn) (i:=0) S.nd Y (.inl (ado S.own)) (.inr (ado S.own))
theorem dC(S:oF X x scope cl fr ys)(hc:X.calm=true)(hi:PI X (.Name x px) iter wi)(hb:∀ (C:ac4) (s:ac8) (H:Hp) (ex:List ac4) (pn:List (ac4 × Obj)),lj (dN X (x::ys) scope cl C s H ex pn) ifs tt/\PE (dN X (x::ys) scope cl C s H ex pn) elt te)(hs:∀ z,afA iter X.env z=pure z:=by intro y;rfl):PE X (.ListComp elt [#[.Name x px,iter,ifs,0]] scope pos) (Au wi fr tt te):=Ie (B:=λρ J9q H Q=>oG J9q ρ tt te H Q) S.g hc hi S.pg hb (λy y y y h=>Ig h) hs
theorem oJ(S:oF X x scope cl fr ys)(hc:X.calm=true)(hN:X.N.Nodup)(hy:X.N[i]?=O y)(hl:X.env.scope.names.lookup y=O .local)(hi:PI X (.Name x px) iter wi)(hb:∀ (C:ac4) (s:ac8) (H:Hp) (ex:List ac4) (pn:List (ac4 × Obj)),lj (dN X (x::ys) scope cl C s H ex pn) ifs tt/\PE (dN X (x::ys) scope cl C s H ex pn) elt te)(AF:ahi (.ListComp elt [#[.Name x px,iter,ifs,0]] scope pos) (O (.Name y py)) xa.line X.env=pure true:=by rfl)(hs:∀ z,afA iter X.env z=pure z:=by intro v;rfl):PS X (.Assign [.Name y py] (.ListComp elt [#[.Name x px,iter,ifs,0]] scope pos) xa) (Av i (Au wi fr tt te)):=Rr (B:=λρ J9q H Q=>oG J9q ρ tt te H Q) S.g hc hN hy hl hi S.pg hb (λv v v v h=>Ig h) AF hs
end
def eL(Ok:Hp->Prop)(ρ:L2.St)(tt:TT)(te:TE):List V->List V->Hp->(List V->Hp->Prop)->Prop
 | [],ys,H,Q=>Ok H/\Q ys H
 | x::r,ys,H,Q=>Ok H/\tt (O x::ρ) H λb H1=>if b=true then te (O x::ρ) H1 λy H2=>eL Ok ρ tt te r (ys++[y]) H2 Q else eL Ok ρ tt te r ys H1 Q
structure sX(J9q:It)(Ok:Hp->Prop)(xs:List V):Prop where
 go:∀ i H x,Ok H->xs[i]?=O x->J9q.go i H
 yld:∀ i H x H',Ok H->J9q.yld i H x H'->H'=H/\(i<xs.length->xs[i]?=O x)
 stop:∀ i H,Ok H->xs.length<=i->J9q.stop i H
section
variable{J9q:It}{Ok:Hp->Prop}{xs:List V}{ρ:L2.St}{tt:TT}{te:TE}{H:Hp}{Q:VK}{K:acM}{a:ac4}
theorem cM(O9q:sX J9q Ok xs)(hn:xs.length<=adh)(h:eL Ok ρ tt te xs [] H λys H'=>∀ l,H' l=J->Q (.ref l) (upd H' l (.lst ys))):oG J9q ρ tt te H Q:=by
 refine#[λi m ys H=>m=xs.length-i/\i<=xs.length/\ys.length<=i/\eL Ok ρ tt te (xs.drop i) ys H λys H'=>∀ l,H' l=J->Q (.ref l) (upd H' l (.lst ys)),#[_,Y,adt _,acS _,h],?_];rintro i m ys H ⟨rfl,hi,hy,g⟩;by_cases aW:i<xs.length
 .have e:=adN aW;rw[e] at g;obtain⟨g0,g1⟩:=g;refine .inr #[O9q.go i H _ g0 (acP aW),by walk_at "o",λzs H'=>zs.length<=i+1/\eL Ok ρ tt te (xs.drop (i+1)) zs H' λys H'=>∀ l,H' l=J->Q (.ref l) (upd H' l (.lst ys)),λzs H' q=>#[_,by walk_at "o",Y,aW,q.1,q.2],λx H' y=>?_];obtain⟨rfl,ex⟩:=O9q.yld i H x H' g0 y;have ex:=ex aW;rw[acP aW] at ex;cases ex;have l1:∀ y:V,(ys++[y]).length<=i+1:=λy=>by rw[ac7,adb];walk_at "o"
  have l2:ys.length<=i+1:=by walk_at "o"
  simp only[l1,l2,true_and];exact g1
 .have e:i=xs.length:=by walk_at "o"
  subst e;rw[aiy] at g;exact .inl #[O9q.stop _ H g.1 (acS _),by walk_at "o",g.2]
theorem gU:sX (jW K a) (λH=>ah K H a xs) xs :=
 #[λz z z h e=>#[xs,_,h,e],λz z z z h y=>#[y.1,λz=>y.2 xs h],λz z h hi=>#[xs,h,hi]]
theorem AG:sX (kZ K a) (λH=>au K H a xs) xs :=
 #[λz z z h e=>#[xs,_,h,e],λz z z z h y=>#[y.1,λz=>y.2 xs h],λz z h hi=>#[xs,h,hi]]
theorem mT{lo:Int}{n:Nat}:sX (gj lo n) (λz=>True) ((adu n).map λk=>V.int (lo+(k:Nat))) :=
 #[λi z z z e=>by
  have:=(acX.mp e).1;show i<n;simpa using this,λi z z z z y=>#[y.1,λhi=>by
   have dD:i<n:=by simpa using hi
   rw[y.2,ac1,adM dD];rfl],λi z z hi=>by
   show n<=i;simpa using hi]
theorem lq(bP:Ok H):∀ {xs ys:List V},(∀ x∈xs,∀ Q,Q (p x) H->tt (O x::ρ) H Q)->(∀ x∈xs,p x=true->∀ Q,Q (f x) H->te (O x::ρ) H Q)->Q' (ys++(xs.filter p).map f) H->eL Ok ρ tt te xs ys H Q'
 | [],ys,_,_,q=>#[bP,by simpa using q]
 | x::r,ys,ht,he,q=>by
  refine#[bP,ht x (.head _) _ ?_];by_cases hb:p x=true
  .rw[if_pos hb];refine he x (.head _) hb _ (lq bP (λy hy=>ht y (.tail _ hy)) (λy hy=>he y (.tail _ hy)) ?_);rw[aek,if_pos hb] at q;simpa using q
  .rw[if_neg hb];refine lq bP (λy hy=>ht y (.tail _ hy)) (λy hy=>he y (.tail _ hy)) ?_;rw[aek,if_neg hb] at q;exact q
end
section
variable{X:Cx}{K:acM}
theorem Rt(h:X.K=K):j5 X (oz K):=h ▸ cB
theorem Ru(h:X.K=K):fj X (.builtin "len") (λxs H Q=>∃ x n,xs=[x]/\wK K x H n/\Q (.int n) H):=h ▸ dk
theorem Rv(h:X.K=K):bz X (aev .NotIn) (wU K true):=h ▸ Ai
end
theorem Rx{prog:adP}{w:aes}{A:ae2}{E:acU->ac8->Prop}{s:ac8}{id:String}{b:ae8}{args:List acU}{kw:List (Str × acU)}{Q:acU->ac8->Prop}(hk:ald id=J)(hp:ale id=true)
 (hb:ahH table id=O b) (ha:aiZ id #[args,kw])
 (hc:adi (model prog w) A.in1 (b #[args,kw]) (λfin s'=>match fin with
   | .done f=>(match (Except.ok f:akw) with|.ok (.ret v)=>Q v s'|.ok _=>False|.error e=>E e s')
   | .again c'=>c'.quiet=true/\ago (model prog w) A c' (λr s'=>match r with|.ok (.ret v)=>Q v s'|.ok _=>False|.error e=>E e s') s') E s) :
 adi (model prog w) A (call (.builtin id) args kw) Q E s:=by
 refine aji (ajo hp hb ?_);simp only[akK,hk];cases hsig:Manifest.signature? id with
 | none=>exact acQ hc
 | some sig =>
  have sS:Bind.checkArgs id sig #[args,kw]=pure ():=by simpa only [aiZ,hsig] using ha
  simp only[sS];exact acQ hc
noncomputable def AH:{ F:String->CmpOp->ae8 // F "max" .Gt=ae8.«max.loop»/\F "min" .Lt=ae8.«min.loop» }:=#[_,Y,Y]
noncomputable def Ih:{ F:String->ae8 // F "max" = ae8.«max»/\F "min" = ae8.«min» }:=#[_,Y,Y]
theorem Ii{nx id:String}{op:CmpOp}(nm:(toString nx++toString ".loop" : String)=id)(e1:ahH table id=O (AH.1 nx op))(e2:ale id=true){prog:adP}{w:aes}{A:ae2}{R:akw->ac8->Prop}{I S:ac4}{fp wr:List ac4}{n:Nat}{P:Nat->acU->Prop}{St:Nat->ae7->Prop}{G:ae7->Prop}{bt:Nat->Nat->Bool}{kw:List (Str × acU)}
 (W:Walks prog w A.in1 I fp wr n P St) (hG:∀ h h',G h->(∀ b o,b∉wr->b≠S->h.get? b=O o->h'.get? b=O o)->G h')
 (sY:∀ i j vi vj (s:ac8) (Q:acU->ac8->Prop) (E:acU->ac8->Prop),P i vi->P j vj->G s.heap->Q (.bool (bt i j)) s->adi (model prog w) A.in1 (ail op vi vj) Q E s) (hS:S∉fp):∀ (k j:Nat) (s:ac8) (vb:acU) (c:Nat),k+(j+1)=n->St (j+1) s.heap->G s.heap->P (aho bt j) vb ->
  s.heap.get? S=O { cls:=.type "list",dict:=J,data:=.seq (List.toArray [vb,vb]) c,slots:=(List.toArray []) } ->
  (∀ v h' tk,P (aho bt (n-1)) v->(∀ b o,b∉wr->b≠S->s.heap.get? b=O o->h'.get? b=O o)->R (.ok (.ret v)) { s with heap:=h',toks:=tk }) ->
  ago (model prog w) A (.builtin id #[[.ref I,.none,.ref S],kw]) R s:=by
 have nS:S∉wr:=λz=>hS (W.sub _ z);intro k
 induction k with
 | zero =>
  intro j s vb c e st g pb oS fin;have e':j+1=n:=by walk_at "o"
  refine ael e1 ?_;rw[adW e2 _];show adi _ A.in1 (ajZ (.ref S) >>= _) _ _ s;refine acK (aeH oS Y ?_);show adi _ A.in1 (tryCatch (afT (.ref I)) _ >>= _) _ _ s;refine acK (agd (W.done s _ _ (e' ▸ st) λh1 tk kp=>?_));have jn:=kp S _ nS oS;show adi _ A.in1 (ah7 S (λy=>(List.toArray [])) >>= _) _ _ _;refine acK ?_;refine aff jn Y (acK (afW (acQ ?_)));exact fin vb _ tk (by rw[<- e'];exact pb) λb o hw hb q=>(ac9 _ _ (adR hb)).trans (kp b o hw q)
 | succ k ih =>
  intro j s vb c e st g pb oS fin;have lt:j+1<n:=by walk_at "o"
  refine ael e1 ?_;rw[adW e2 _];show adi _ A.in1 (ajZ (.ref S) >>= _) _ _ s;refine acK (aeH oS Y ?_);show adi _ A.in1 (tryCatch (afT (.ref I)) _ >>= _) _ _ s;refine acK (agd (W.item (j+1) s _ _ lt st λv h1 tk pv qG kp=>?_));have jn:=kp S _ nS oS;have g1:G h1:=hG _ _ g λb o hw y q=>kp b o hw q;show adi _ A.in1 (tryCatch (holding [v,v] (ail op v vb >>= _)) _ >>= _) _ _ _;refine acK (agd (aeq (acK (sY (j+1) (aho bt j) v vb _ _ _ pv pb g1 ?_))));refine acK (aeq (aed ?_));refine acK (afW (acQ ?_));cases hb:bt (j+1) (aho bt j) with
  | true =>
   simp only[if_true];refine acK ?_;refine aff jn Y (acK (afW ?_));rw[nm];refine acQ #[ae9 e2 _,ih (j+1) _ v _ (by walk_at "o") (W.frame _ _ _ qG λb hf o q=>?_) (hG _ _ g1 λb o y mU q=>(ac9 _ _ (adR mU)).trans q) (by simp only[aho,hb,if_true];exact pv) (adQ _ jn Y) λv2 h2 xf p2 k2=>?_]
   .exact (ac9 _ _ (λz:S=b=>hS (by rw[z];exact hf))).trans q
   .exact fin v2 h2 xf p2 λb o hw mU q=>k2 b o hw mU ((ac9 _ _ (adR mU)).trans (kp b o hw q))
  | false =>
   simp only[adn,if_false];refine acK (afW ?_);rw[nm];refine acQ #[ae9 e2 _,ih (j+1) _ vb c (by walk_at "o") qG g1 (by simp only[aho,hb,adn,if_false];exact pb) jn λv2 h2 xf p2 k2=>?_];exact fin v2 h2 xf p2 λb o hw mU q=>k2 b o hw mU (kp b o hw q)
theorem Ry{nx id:String}{op:CmpOp}(nm:(toString nx++toString ".loop" : String)=id)(e1:ahH table id=O (AH.1 nx op))(e2:ale id=true)(k0:ald nx=J)(k1:ale nx=true)(k2:ahH table nx=O (Ih.1 nx))(k3:∀ a d:acU,aiZ nx #[[a],[("default",d)]]){prog:adP}{w:aes}{A:ae2}{E:acU->ac8->Prop}{s:ac8}{l:ac4}{xs:Array (Int × Tok)}{d:acU}{Q:acU->ac8->Prop}{bt:Nat->Nat->Bool}(e4:CmpOf prog w A.in1 op (λi v=>(afa xs)[i]?=O v) bt)(hh:A.handled=J)(hl:s.heap.IsList l (afa xs))
 (h0:xs.size=0->∀ h' tk,(∀ b o,s.heap.get? b=O o->h'.get? b=O o)->Q d { s with heap:=h',toks:=tk })
 (h1:0<xs.size->∀ v h' tk,(afa xs)[aho bt (xs.size-1)]?=O v->(∀ b o,s.heap.get? b=O o->h'.get? b=O o)->Q v { s with heap:=h',toks:=tk }) :
 adi (model prog w) A (call (.builtin nx) [.ref l] [("default",d)]) Q E s:=by
 refine Rx k0 k1 k2 (k3 _ _) ?_;show adi _ A.in1 (afg _ ["key","default"] 0 #[[],[("default",d)]] >>= _) _ _ s;refine acK (aim (show afg _ ["key","default"] 0 #[[],[("default",d)]]=pure [J,O d] from Y) ?_);refine acK (acQ ?_);refine acK (iter_intList hl λs2 e2 st oI Rz=>?_);subst e2;refine acK (aeo ?_);have W:=Walks.list (prog:=prog) (w:=w) (A:=A.in1) hh s.heap.objs.size l Rz (afa xs);generalize eP:(s.heap.push { cls:=.type "list_iterator",data:=.fields (List.toArray [.ref l,.int 0 0]) })=P2 at st oI ⊢;have qH:P2.objs.size∉[s.heap.objs.size,l]:=λz=>aex _ (oI _ z);have up:∀ b o,s.heap.get? b=O o->b≠P2.objs.size/\b∉[s.heap.objs.size]/\(P2.push { cls:=.type "list",dict:=J,data:=.seq ([]:List acU).toArray }).get? b=O o:=λb o q=>by
  have lt:=acT q;have q2:P2.get? b=O o:=by rw[<- eP];exact acL _ q
  refine#[adk (acT q2),λz=>?_,acL _ q2];have:b=s.heap.objs.size:=by simpa using z
  walk_at "o"
 rw[nm];refine acQ #[ae9 e2 _,?_];have oS:(P2.push { cls:=.type "list",dict:=J,data:=.seq ([]:List acU).toArray }).get? P2.objs.size=O { cls:=.type "list",dict:=J,data:=.seq (List.toArray []) 0,slots:=(List.toArray []) }:=acV _ rfl;have bS:=W.frame 0 P2 (P2.push { cls:=.type "list",dict:=J,data:=.seq ([]:List acU).toArray }) st λb y o q=>acL _ q;have nS:P2.objs.size∉[s.heap.objs.size]:=λz=>qH (by simp at z;simp[z]);by_cases hz:xs.size=0
 .have AI:(P2.push { cls:=.type "list",dict:=J,data:=.seq ([]:List acU).toArray }).IsListIter s.heap.objs.size l (afa xs).size/\(P2.push { cls:=.type "list",dict:=J,data:=.seq ([]:List acU).toArray }).IsList l (afa xs):=by
   have:(afa xs).size=0:=by simpa [afa] using hz
   rw[this];exact bS
  refine ael e1 ?_;rw[adW e2 _];show adi _ A.in1 (ajZ (.ref P2.objs.size) >>= _) _ _ _;refine acK (aeH oS Y ?_);show adi _ A.in1 (tryCatch (afT (.ref s.heap.objs.size)) _ >>= _) _ _ _;refine acK (agd (W.done _ _ _ AI λh2 tk kp=>?_));refine acK (agO (acQ ?_));exact h0 hz h2 tk λb o q=>kp b o (up b o q).2.1 (up b o q).2.2
 .have hp:0<xs.size:=by walk_at "o"
  have hn:0<(afa xs).size:=by simpa [afa] using hp
  refine ael e1 ?_;rw[adW e2 _];show adi _ A.in1 (ajZ (.ref P2.objs.size) >>= _) _ _ _;refine acK (aeH oS Y ?_);show adi _ A.in1 (tryCatch (afT (.ref s.heap.objs.size)) _ >>= _) _ _ _;refine acK (agd (W.item 0 _ _ _ hn bS λv h2 tk pv qG kp=>?_));have jn:=kp _ _ nS oS;show adi _ A.in1 (ah7 P2.objs.size (λy=>(List.toArray [v,v])) >>= _) _ _ _;refine acK ?_;refine aff jn Y ?_;rw[nm];refine acQ #[ae9 e2 _,Ii nm e1 e2 (G:=λy=>True) W (λy y y y=>trivial) (λi j vi vj s Q E h1 h2 y q=>e4 i j vi vj s Q E h1 h2 q) qH ((afa xs).size-1) 0 _ v _ (by walk_at "o") (W.frame _ _ _ qG λb hf o q=>?_) trivial pv (adQ _ jn Y) λv2 h3 AJ p3 k3=>?_]
  .exact (ac9 _ _ (λz:P2.objs.size=b=>qH (by rw[z];exact hf))).trans q
  .refine h1 hp v2 h3 AJ (by simpa [afa] using p3) λb o q=>?_;exact k3 b o (up b o q).2.1 (up b o q).1 ((ac9 _ _ (adR (up b o q).1)).trans (kp b o (up b o q).2.1 (up b o q).2.2))
noncomputable def km:List Int->Int
 | []=>0
 | x::r=>r.foldl (λb y=>if y > b then y else b) x
noncomputable def ly:List Int->Int
 | []=>0
 | x::r=>r.foldl (λb y=>if y<b then y else b) x
theorem Ij:∀ (r:List Int) (b:Int),b<=r.foldl (λb y=>if y > b then y else b) b/\(∀ y∈r,y<=r.foldl (λb y=>if y > b then y else b) b)/\(r.foldl (λb y=>if y > b then y else b) b=b∨r.foldl (λb y=>if y > b then y else b) b∈r)
 | [],b=>#[adZ _,λv z=>(nomatch z),.inl rfl]
 | x::r,b=>by
  simp only[afV];obtain⟨h1,h2,h3⟩:=Ij r (if x > b then x else b);refine#[?_,λy hy=>?_,?_]
  .refine ag1 ?_ h1;split<;>lia
  .rcases acZ.mp hy with rfl|hy
   .refine ag1 ?_ h1;split<;>lia
   .exact h2 y hy
  .rcases h3 with h3|h3
   .rw[h3];split
    .right;simp
    .left;rfl
   .right;exact adV _ h3
theorem Ik:∀ (r:List Int) (b:Int),r.foldl (λb y=>if y<b then y else b) b<=b/\(∀ y∈r,r.foldl (λb y=>if y<b then y else b) b<=y)/\(r.foldl (λb y=>if y<b then y else b) b=b∨r.foldl (λb y=>if y<b then y else b) b∈r)
 | [],b=>#[adZ _,λv z=>(nomatch z),.inl rfl]
 | x::r,b=>by
  simp only[afV];obtain⟨h1,h2,h3⟩:=Ik r (if x<b then x else b);refine#[?_,λy hy=>?_,?_]
  .refine ag1 h1 ?_;split<;>lia
  .rcases acZ.mp hy with rfl|hy
   .refine ag1 h1 ?_;split<;>lia
   .exact h2 y hy
  .rcases h3 with h3|h3
   .rw[h3];split
    .right;simp
    .left;rfl
   .right;exact adV _ h3
theorem Il(h:ns≠[]):km ns∈ns/\∀ y∈ns,y<=km ns:=by
 cases ns with
 | nil=>exact absurd Y h
 | cons x r =>
  obtain⟨h1,h2,h3⟩:=Ij r x;refine#[?_,λy hy=>?_]
  .rcases h3 with h3|h3
   .show r.foldl _ x∈_;rw[h3];exact .head _
   .exact .tail _ h3
  .rcases acZ.mp hy with rfl|hy
   .exact h1
   .exact h2 y hy
theorem Im(h:ns≠[]):ly ns∈ns/\∀ y∈ns,ly ns<=y:=by
 cases ns with
 | nil=>exact absurd Y h
 | cons x r =>
  obtain⟨h1,h2,h3⟩:=Ik r x;refine#[?_,λy hy=>?_]
  .rcases h3 with h3|h3
   .show r.foldl _ x∈_;rw[h3];exact .head _
   .exact .tail _ h3
  .rcases acZ.mp hy with rfl|hy
   .exact h1
   .exact h2 y hy
theorem xg:∀ {ns:List Int} {ai:List acU},Vals (ns.map V.int) ai->∃ xs:Array (Int × Tok),ai.toArray=afa xs/\xs.toList.map (·.1)=ns
 | [],_,.nil=>#[(List.toArray []),by simp[afa],Y]
 | n::ns,_,.cons (l₂:=ai) r t=>by
  obtain⟨xs,e1,e2⟩:=xg (ns:=ns) t;obtain⟨tk,rfl⟩:=r;refine#[((n,tk)::xs.toList).toArray,?_,?_]
  .have:ai=xs.toList.map (λp=>Value.int p.1 p.2):=by have:=congrArg akv e1;simpa [afa] using this
   simp[afa,this]
  .simp[e2]
theorem Io(e:xs.toList.map (·.1)=ns)(hi:i<xs.size):ajJ xs i∈ns/\ajJ xs i=ns.getD i 0:=by subst e;unfold ajJ;rw[adO hi];refine#[ac2.mpr #[xs[i],by simp,Y],?_];simp[hi]
theorem Ip(e:xs.toList.map (·.1)=ns)(hy:y∈ns):∃ i,i<xs.size/\ajJ xs i=y:=by
 subst e;obtain⟨p,hp,rfl⟩:=ac2.mp hy;obtain⟨i,hi,e⟩:=ajp.mp hp;refine#[i,by simpa using hi,?_];unfold ajJ;have dD:i<xs.size:=by simpa using hi
 rw[adO dD];have:xs[i]=p:=by simpa using e
 rw[this];rfl
theorem Iq(e:xs.toList.map (·.1)=ns)(h:0<xs.size):ajJ xs (aho (λi j=>decide (ajJ xs i > ajJ xs j)) (xs.size-1))=km ns:=by
 obtain⟨h1,h2⟩:=argBest_gt (ajJ xs) (xs.size-1);have bp:ns≠[]:=by intro z;subst z;have q:=congrArg List.length e;rw[acN,adK,afX] at q;lia
 obtain⟨m1,m2⟩:=Il bp;refine ai0 (m2 _ (Io e (by lia)).1) ?_;obtain⟨i,hi,ei⟩:=Ip e m1;rw[<- ei];exact h2 i (by lia)
theorem Ir(e:xs.toList.map (·.1)=ns)(h:0<xs.size):ajJ xs (aho (λi j=>decide (ajJ xs i<ajJ xs j)) (xs.size-1))=ly ns:=by
 obtain⟨h1,h2⟩:=argBest_lt (ajJ xs) (xs.size-1);have bp:ns≠[]:=by intro z;subst z;have q:=congrArg List.length e;rw[acN,adK,afX] at q;lia
 obtain⟨m1,m2⟩:=Im bp;refine ai0 ?_ (m2 _ (Io e (by lia)).1);obtain⟨i,hi,ei⟩:=Ip e m1;rw[<- ei];exact h2 i (by lia)
def AK(R:V->Hp->Prop):List V->Hp->Prop
 | [x],H=>R x H
 | _,_=>False
theorem Iu:∀ {vs:List V} {H:Hp},AK R vs H->∃ x,vs=[x]/\R x H
 | [x],_,h=>#[x,Y,h]
section
noncomputable def oM(f:List Int->Int):List Int->V->V
 | [],y=>y
 | n::ns,_=>.int (f (n::ns))
theorem RA(h:ns≠[]):oM f ns y = .int (f ns):=by
 cases ns with
 | nil=>exact absurd Y h
 | cons _ _=>rfl
def xh(K:acM)(f:List Int->Int)(te td:TE):TE:=λL H Q=>te L H λx H1=>td L H1 λy H2=>∃ a ns,x = .ref a/\ah K H2 a (ns.map V.int)/\Q (oM f ns y) H2
theorem Iv{X:Cx}{e d:agY}{te td:TE}{p pos kp:Pos}{nx:String}{f:List Int->Int}{op:CmpOp}{id:String}(nm:(toString nx++toString ".loop" : String)=id)(e1:ahH table id=O (AH.1 nx op))(e2:ale id=true)(k0:ald nx=J)(k1:ale nx=true)(k2:ahH table nx=O (Ih.1 nx))(k3:∀ a d:acU,aiZ nx #[[a],[("default",d)]])(kb:adJ nx=O (.builtin nx))(kn:ac0 nx≠ac0 "__name__")(kd:(ac0 nx == ac0 "__debug__")=false)
 (kc:∀ (A:ae2) (xs:Array (Int × Tok)),∃ bt,CmpOf X.prog X.w A op (λi v=>(afa xs)[i]?=O v) bt/\∀ ns:List Int,xs.toList.map (·.1)=ns->0<xs.size->ajJ xs (aho bt (xs.size-1))=f ns) (hc:X.calm=true) (hg:Gl X nx) (hm:X.mg nx=J) (he:PE X e te) (hd:PE X d td)
 (hs:adp [e] X.env=(false,eval e X.env)::adp [] X.env:=by rfl) (hq:afn pos (adp [e] X.env)=(false,eval e X.env)::afn pos (adp [] X.env):=by rfl) :
 PE X (.Call (.Name nx p) [e] [#[O "default",d,kp]] pos) (xh X.K f te td):=by
 intro pins s L H Q I h;refine aeu (fI I hg hm kb ?_ kn (hd:=kd));refine callWith_kw (aC ((ae he af hs) pos pins s L H (AK λx H1=>td L H1 λy H2=>∃ (a:ac4) (ns:List Int),x = .ref a/\ah X.K H2 a (ns.map V.int)/\Q (oM f ns y) H2) I h) λus s1 ⟨vs,H1,I1,r,q⟩=>?_) hq (by rw[hs];rfl)
 .obtain⟨x,rfl,q⟩:=Iu q;obtain⟨u,rfl,ru⟩:=vals1 r;refine kws_cons (aC (hd pins s1 L H1 _ I1 q) λw s2 ⟨y,H2,I2,ry,a,ns,ex,hS,q1⟩=>kws_nil ?_);subst ex;cases ru;obtain⟨ai,rv,hp,c⟩:=I2.list hS;obtain⟨xs,w6,Iw⟩:=xg rv;obtain⟨o,n,ho,bj,c,hdt⟩:=hp;have hl:s2.heap.IsList a (afa xs):=#[o,ho,bj,n,by rw[hdt,w6]]
  have len:xs.size=ns.length:=by rw[<- Iw,acN];simp
  show adi _ X.A (call (.builtin nx) [.ref a] [("default",w)]) _ _ s2;obtain⟨bt,RB,RC⟩:=kc X.A.in1 xs;refine Ry nm e1 e2 k0 k1 k2 k3 RB (I2.ok.hd hc) hl (λhz h' tk hk=>#[y,H2,I2.kept hk,ry,?_]) λhp v h' tk hv hk=>#[.int (f ns),H2,I2.kept hk,?_,?_]
  .have z:ns=[]:=aeJ.mp (by walk_at "o");rw[z] at q1;exact q1
  .obtain⟨t,rfl⟩:=ain hv;exact#[t,by rw[RC _ Iw hp]]
  .rw[RA (λz=>by subst z;rw[afX] at len;lia)] at q1;exact q1
theorem RD(a d:acU):aiZ "max" #[[a],[("default",d)]]:=by unfold aiZ;kernel_rfl
theorem RE{X:Cx}{e d:agY}{te td:TE}{p pos kp:Pos}(hc:X.calm=true)(hg:Gl X "max")(hm:X.mg "max" = J)(he:PE X e te)(hd:PE X d td)
 (hs:adp [e] X.env=(false,eval e X.env)::adp [] X.env:=by rfl) (hq:afn pos (adp [e] X.env)=(false,eval e X.env)::afn pos (adp [] X.env):=by rfl) :
 PE X (.Call (.Name "max" p) [e] [#[O "default",d,kp]] pos) (xh X.K km te td) :=
 Iv (by decide) PySem.F.entry_max_loop PySem.F.plain_max_loop PySem.F.kind_max PySem.F.plain_max PySem.F.entry_max RD Hy (by decide) (by decide) (λy xs=>#[_,CmpOf.ints_gt (ajJ xs) (λy y=>ain),λy e h=>Iq e h]) hc hg hm he hd hs hq
theorem RF(hc:X.calm=true):fj X (.builtin "max") (λxs H Q=>∃ a ns,xs=[.ref a]/\ah X.K H a (ns.map V.int)/\ns≠[]/\Q (.int (km ns)) H):=by
 intro pins s L H xs us Q I r h;obtain⟨a,ns,rfl,hS,bp,q⟩:=h;obtain⟨u,rfl,ru⟩:=vals1 r;cases ru;obtain⟨ai,rv,hp,y⟩:=I.list hS;obtain⟨xs,e1,e2⟩:=xg rv;obtain⟨o,n,ho,bj,y,hdt⟩:=hp;have hl:s.heap.IsList a (afa xs):=#[o,ho,bj,n,by rw[hdt,e1]]
 have len:xs.size=ns.length:=by rw[<- e2,acN];simp
 have sZ:0<xs.size:=by rw[len];exact ajK.mpr bp
 refine max_intList (I.ok.hd hc) hl sZ λv h' tk hv hk=>#[.int (km ns),H,I.kept hk,?_,q]
 obtain⟨t,rfl⟩:=ain hv;exact#[t,by rw[Iq e2 sZ]]
theorem RG(a d:acU):aiZ "min" #[[a],[("default",d)]]:=by unfold aiZ;kernel_rfl
theorem RH{X:Cx}{e d:agY}{te td:TE}{p pos kp:Pos}(hc:X.calm=true)(hg:Gl X "min")(hm:X.mg "min" = J)(he:PE X e te)(hd:PE X d td)
 (hs:adp [e] X.env=(false,eval e X.env)::adp [] X.env:=by rfl) (hq:afn pos (adp [e] X.env)=(false,eval e X.env)::afn pos (adp [] X.env):=by rfl) :
 PE X (.Call (.Name "min" p) [e] [#[O "default",d,kp]] pos) (xh X.K ly te td) :=
 Iv (by decide) agF afm akL akl akm RG wY (by decide) (by decide) (λy xs=>#[_,CmpOf.ints_lt (ajJ xs) (λy y=>ain),λy e h=>Ir e h]) hc hg hm he hd hs hq
theorem RI(hc:X.calm=true):fj X (.builtin "min") (λxs H Q=>∃ a ns,xs=[.ref a]/\ah X.K H a (ns.map V.int)/\ns≠[]/\Q (.int (ly ns)) H):=by
 intro pins s L H xs us Q I r h;obtain⟨a,ns,rfl,hS,bp,q⟩:=h;obtain⟨u,rfl,ru⟩:=vals1 r;cases ru;obtain⟨ai,rv,hp,y⟩:=I.list hS;obtain⟨xs,e1,e2⟩:=xg rv;obtain⟨o,n,ho,bj,y,hdt⟩:=hp;have hl:s.heap.IsList a (afa xs):=#[o,ho,bj,n,by rw[hdt,e1]]
 have len:xs.size=ns.length:=by rw[<- e2,acN];simp
 have sZ:0<xs.size:=by rw[len];exact ajK.mpr bp
 refine min_intList (I.ok.hd hc) hl sZ λv h' tk hv hk=>#[.int (ly ns),H,I.kept hk,?_,q]
 obtain⟨t,rfl⟩:=ain hv;exact#[t,by rw[Ir e2 sZ]]
end
section
theorem Iy{ch:List ac4}(I:Inv X pins L H s)(k:∀ b o,b∉ch->s.heap.get? b=O o->h'.get? b=O o)(hf:∀ b∈ch,dA X pins H b){H':Hp}(up:∀ b u,H b=O u->H' b=O u):∀ b u,H b=O u->bN X.prog X.w H' h' b u:=by
 have mF:∀ b u,H b=O u->b∉ch:=λb u e z=>by rw[(hf b z).1] at e;cases e
 intro b u e;refine (I.ar b u e).jS (λc v hc q=>k c v ?_ q) (λc q=>up c _ q) λc xs q=>up c _ q;rcases hc with z|z
 .rw[z];exact mF b u e
 .exact mF c _ z
theorem AL{t':Nat}{ch:List ac4}(I:Inv X pins L H s)(k:∀ b o,b∉ch->s.heap.get? b=O o->h'.get? b=O o)(hf:∀ b∈ch,dA X pins H b):Inv X pins L H { s with heap:=h',toks:=t' }:=by
 refine I.step (g':=s.gens) (d':=s.drawn) (ch:=ch) (λb hb=>?_) (λb o y y hc e y=>k b o hc e) (λb o y y hc e y=>#[o.slots,k b o hc e]) (λy y y y n=>n)
  (λb o hc e=>#[o,k b o hc e]) (λy y e=>e) (λy y y e=>e) (λb ps e=>#[(List.toArray []),by rw[e];simp]) (λm hm=>?_) (λb u e=>Iy I k hf (λy y q=>q) b u e) I.bare
 .obtain⟨y,d1,d2,d3,d4,d5⟩:=hf b hb;exact#[d3,d1,d4,d5]
 .obtain⟨o,es,ep,ho,r⟩:=hm;exact#[o,es,ep,k _ o (λz=>(hf _ z).2.1 rfl) ho,r]
theorem AM{t':Nat}{ch:List ac4}{T:ac4}{o:HO}(I:Inv X pins L H s)(k:∀ b o,b∉ch->s.heap.get? b=O o->h'.get? b=O o)(hf:∀ b∈ch,dA X pins H b)(hT:s.heap.objs.size<=T)
 (new:bN X.prog X.w (upd H T o) h' T o):Inv X pins L (upd H T o) { s with heap:=h',toks:=t' }:=by
 have hn:=I.ar.fresh hT;have neT:∀ b u,s.heap.get? b=O u->b≠T:=λb u e=>adk (adm (acT e) hT);have gx:∀ b u,H b=O u->b≠T:=λb u e=>ja e hn;have up:∀ b u,H b=O u->upd H T o b=O u:=λb u e=>by rw[aJ (gx b u e)];exact e
 refine I.step (g':=s.gens) (d':=s.drawn) (ch:=ch) (λb hb=>?_) (λb o y y hc e y=>k b o hc e) (λb o y y hc e y=>#[o.slots,k b o hc e]) (λb u y e n=>by rw[aJ (neT b u e)];exact n)
  (λb o hc e=>#[o,k b o hc e]) (λb xs e=>up b _ e) (λb y y e=>up b _ e) (λb ps e=>#[(List.toArray []),by rw[up b _ e];simp]) (λm hm=>?_) (λb u e=>?_) I.bare
 .obtain⟨y,d1,d2,d3,d4,d5⟩:=hf b hb;exact#[d3,d1,d4,d5]
 .obtain⟨o,es,ep,ho,r⟩:=hm;exact#[o,es,ep,k _ o (λz=>(hf _ z).2.1 rfl) ho,r]
 .by_cases hb:b=T
  .subst hb;rw[ao] at e;cases e;exact new
  .rw[aJ hb] at e;exact Iy I k hf up b u e
end
noncomputable def xi(K:acM)(a:ac4)(n:Nat):It :=
 #[λi H=>∃ xs x,ah K H a xs/\xs.length=n/\xs.reverse[i]?=O x,λi H x H'=>H'=H/\∀ xs,ah K H a xs->xs.length=n->xs.reverse[i]?=O x,λi y=>i=n]
theorem RJ{P:adP}{w:aes}{K:acM}{tg:agY}(a it:ac4)(n:Nat):Turn P w K tg (xi K a n) [it] it (λi h=>i<=n/\h.IsRevIter it a ((n:Int)-1-(i:Nat))) where
 mem:=by simp
 obj:=λi h st b hb=>by
  have e:b=it:=by simpa using hb
  subst e;obtain⟨y,o,e,c,d⟩:=st;exact#[o,e,λv z=>by rw[d] at z;cases z]
 keep:=λi h h' st k=>#[st.1,st.2.at λo e=>k it (by simp) o e]
 item:=by
  intro X hP hw hK hc i pins s L H E I hf st hg;subst hP hw hK;obtain⟨xs,x,hq,hn,hx⟩:=hg;obtain⟨ai,rv,p,hz⟩:=I.list hq;have hl:=rv.length;have hi:i<n:=by have:=(acX.mp hx).1;rw[aeR] at this;lia
  have cL:xs[n-1-i]?=O x:=by rw[afs (by lia),hn] at hx;exact hx
  obtain⟨u,hu,ru⟩:=rv.get cL;obtain⟨f0,f1,f2,f3,f4,f5⟩:=hf it (by simp);have bS:=st.2;rw[show (n:Int)-1-(i:Nat)=((n-1-i:Nat):Int) by lia] at bS;refine wpAny_pyNext_rev_item bS p.isList (x:=u) (by simpa using hu) λh' bS sb=>?_;have I1:Inv X pins L H { s with heap:=h' }:=I.turned (t':=s.toks) (λb o hb e=>(sb.2 b hb).trans e) f0 f1 f3 f4 f5;obtain⟨o,e,c,d⟩:=id bS;rw[show ((n-1-i:Nat):Int)-1=(n:Int)-1-((i+1:Nat):Int) by lia] at bS;exact#[u,Y,oo (s:={ s with heap:=h' }) e c d (by decide) #[x,H,I1,ru,#[Y,λys hy y=>by rw[I.qv hy hq];exact hx],#[by lia,bS],λb hb=>(hf b hb).1]]
 done:=by
  intro X hP hw hK hc i pins s L H E I hf st hg;subst hP hw hK;have AN:i=n:=hg;subst AN;obtain⟨f0,f1,f2,f3,f4,f5⟩:=hf it (by simp);have bS:=st.2;rw[show (i:Int)-1-(i:Nat) = -1 by lia] at bS;exact wpAny_pyNext_rev_end (I.ok.hd hc) bS λh' eb=>#[Y,I.turned (t':=s.toks) (λb o hb e=>eb b o hb e) f0 f1 f3 f4 f5]
 self:=λy y y y y st h=>ajq st.2 h
def AO(K:acM)(ta:TA):TI:=λL H R=>ta L H λvs H1=>∃ a xs,vs=[.ref a]/\ah K H1 a xs/\R (xi K a xs.length) H1
theorem RK(hg:Gl X "reversed")(hm:X.mg "reversed" = J)(ha:PA X [e] ta)(hs:adp [e] X.env=[(false,eval e X.env)]:=by rfl):PI X tg (.Call (.Name "reversed" p) [e] [] pos) (AO X.K ta):=by
 intro pins s L H R I h;refine al0 (fI I hg hm QF (adD (aC (ha pos pins s L H _ I h) λus s1 zq=>?_) hs Y));obtain⟨vs,H1,I1,r1,q1⟩:=zq;obtain⟨a,xs,rfl,hq,q⟩:=q1;obtain⟨u,rfl,ru⟩:=vals1 r1;cases ru;obtain⟨ai,rv,p,hz⟩:=I1.list hq;refine call_reversed_list p.isList ?_;have hl:=rv.length;refine ajq (i:=(ai.toArray.size:Int)-1) (l:=a) #[_,acV _ Y,Y,Y] ?_;refine#[s1.heap.objs.size,[s1.heap.objs.size],_,_,H1,Y,I1.kept (t':=s1.toks) λb o e=>acL _ e,RJ a _ xs.length,#[adt _,_,acV _ Y,Y,?_],λb hb=>?_,q]
 .rw[ac5,<- hl];simp;rfl
 .have e:b=s1.heap.objs.size:=by simpa using hb
  subst e;exact I1.fK (acS _) (I1.ar.fresh (acS _))
noncomputable def xj(K:acM)(a:ac4):It :=
 #[λi H=>∃ xs x,ah K H a xs/\xs[i]?=O x,λi H v H'=>∃ (p:ac4) (x:V),v = .ref p/\H p=J/\H'=upd H p (.tup [.int i,x])/\∀ xs,ah K H a xs->xs[i]?=O x,λi H=>∃ xs,ah K H a xs/\xs.length<=i]
theorem AQ:2<=adh:=by decide
theorem RL{P:adP}{w:aes}{K:acM}{es:List agY}{k:Nat}{tp:Pos}(a e it:ac4)(Iz:e≠it):Turn P w K (.Tuple es k tp) (xj K a) [e,it] e (λi h=>(∃ old,IsEnum h e it (i:Nat) old)/\h.IsListIter it a i) where
 mem:=by simp
 obj:=λi h st b hb=>by
  obtain⟨⟨old,he⟩,o,ho,c,d⟩:=st;have bH:b=e∨b=it:=by simpa using hb
  rcases bH with rfl|rfl
  .exact#[_,he,λv z=>by
    have z':ahj _=agv v:=z;cases z']
  .exact#[o,ho,λv z=>by rw[d] at z;cases z]
 keep:=λi h h' st kk=>by obtain⟨⟨old,he⟩,hi⟩:=st;exact#[#[old,kk e (by simp) _ he],hi.at λo e=>kk it (by simp) o e]
 item:=by
  intro X hP hw hK hc i pins s L H E I hf st hg;subst hP hw hK;obtain⟨xs,x,hq,hx⟩:=hg;obtain⟨⟨old,he⟩,hit⟩:=st;obtain⟨ai,rv,p,hz⟩:=I.list hq;obtain⟨u,hu,ru⟩:=rv.get hx;refine aiG he hit p.isList (x:=u) (by simpa using hu) Iz λh1 ho RM hT hsz hk=>?_;refine#[_,Y,wpAny_letOwnedTupleGo_enum ho λh2 tf df=>?_];have AR:Heap.SameBut e h1 h2:=df;have neT:s.heap.objs.size≠e:=ad5 (acT he);have up:∀ b o,b∉[e,it]->s.heap.get? b=O o->h2.get? b=O o:=λb o hb q=>by
   have bH:b≠e/\b≠it:=by simpa using hb
   exact AR.extBut b o bH.1 (hk b o bH.1 bH.2 q)
  have hn:H s.heap.objs.size=J:=I.ar.fresh (acS _);refine#[.ref s.heap.objs.size,upd H s.heap.objs.size (.tup [.int i,x]),AM (s:=s) (h':=h2) (t':=s.toks+1) I up hf (acS _) #[AQ,[.int i s.toks,u],.cons #[_,Y] (.cons ru .nil),?_],Y,#[_,x,Y,hn,Y,λys hy=>by rw[I.qv hy hq];exact hx],#[#[u,?_],?_],λb hb=>?_]
  .have:=AR.extBut _ _ neT hT;exact#[_,this,Y,_,Y]
  .have:((i:Int)+1)=((i+1:Nat):Int):=by lia
   rw[<- this];exact tf
  .exact RM.at λo q=>AR.extBut _ _ (adR Iz) q
  .rw[aJ]
   .exact (hf b hb).1
   .have bH:b=e∨b=it:=by simpa using hb
    rcases bH with rfl|rfl
    .exact adR neT
    .obtain⟨o,q,y⟩:=hit;exact adk (acT q)
 done:=by
  intro X hP hw hK hc i pins s L H E I hf st hg;subst hP hw hK;obtain⟨xs,hq,hx⟩:=hg;obtain⟨⟨old,he⟩,hit⟩:=st;obtain⟨ai,rv,p,hz⟩:=I.list hq;have hl:=rv.length;refine ai1 (I.ok.hd hc) he hit p.isList (by simp;lia) λh' eb=>#[Y,AL (t':=s.toks) I (λb o hb q=>?_) hf]
  have bH:b≠e/\b≠it:=by simpa using hb
  exact eb b o bH.2 q
 self:=λy i s Q E st h=>by obtain⟨⟨old,he⟩,y⟩:=st;exact ah8 he h
def AS(K:acM)(ta:TA):TI:=λL H R=>ta L H λvs H1=>∃ a,vs=[.ref a]/\(∃ xs,ah K H1 a xs)/\R (xj K a) H1
theorem AU(hg:Gl X "enumerate")(hm:X.mg "enumerate" = J)(ha:PA X [e] ta)(hs:adp [e] X.env=[(false,eval e X.env)]:=by rfl):PI X (.Tuple es k tp) (.Call (.Name "enumerate" p) [e] [] pos) (AS X.K ta):=by
 intro pins s L H R I h;refine al0 (fI I hg hm Hz (adD (aC (ha pos pins s L H _ I h) λus s1 zq=>?_) hs Y));obtain⟨vs,H1,I1,r1,q1⟩:=zq;obtain⟨a,rfl,⟨xs,hq⟩,q⟩:=q1;obtain⟨u,rfl,ru⟩:=vals1 r1;cases ru;obtain⟨ai,rv,p,hz⟩:=I1.list hq;refine ajL p.isList λh' he hit hsz hk=>?_;refine ah8 he ?_;have I2:Inv X pins L H1 { s1 with heap:=h' }:=I1.kept (t':=s1.toks) hk;refine#[s1.heap.objs.size+1,[s1.heap.objs.size+1,s1.heap.objs.size],_,_,H1,Y,I2,RL a _ _ (by walk_at "o"),#[#[.none,he],hit],λb hb=>?_,q];have bH:b=s1.heap.objs.size+1∨b=s1.heap.objs.size:=by simpa using hb
 rcases bH with rfl|rfl
 .exact I1.fK (ahm _) (I1.ar.fresh (ahm _))
 .exact I1.fK (acS _) (I1.ar.fresh (acS _))
noncomputable def xk(K:acM)(a b:ac4):It :=
 #[λi H=>∃ xs ys x y,ah K H a xs/\ah K H b ys/\xs[i]?=O x/\ys[i]?=O y,λi H v H'=>∃ (p:ac4) (x y:V),v = .ref p/\H p=J/\H'=upd H p (.tup [x,y])/\(∀ xs,ah K H a xs->xs[i]?=O x)/\∀ ys,ah K H b ys->ys[i]?=O y,
  λi H=>∃ xs ys,ah K H a xs/\ah K H b ys/\(xs.length<=i∨ys.length<=i)]
theorem RN{P:adP}{w:aes}{K:acM}{es:List agY}{k:Nat}{tp:Pos}(a b z TI TO i1 i2:ac4)(D:ZipApart z TI TO i1 i2 a b):Turn P w K (.Tuple es k tp) (xk K a b) [z,TI,TO,i1,i2] z
 (λi h=>alN h z TI TO .none/\aj0 h TI (.ref i1) (.ref i2)/\(∃ a b,aj0 h TO a b)/\h.IsListIter i1 a i/\h.IsListIter i2 b i) where
 mem:=by simp
 obj:=λi h st c hc=>by
  obtain⟨hz,dZ,⟨ta,tb,fw⟩,⟨o1,h1,c1,d1⟩,⟨o2,h2,c2,d2⟩⟩:=st;have kW:c=z∨c=TI∨c=TO∨c=i1∨c=i2:=by simpa using hc
  rcases kW with rfl|rfl|rfl|rfl|rfl
  .exact#[_,hz,λv q=>by
    have q':ahj _=agv v:=q;cases q']
  .exact#[_,dZ,λv q=>by
    have q':Data.seq _ _=agv v:=q;cases q']
  .exact#[_,fw,λv q=>by
    have q':Data.seq _ _=agv v:=q;cases q']
  .exact#[o1,h1,λv q=>by rw[d1] at q;cases q]
  .exact#[o2,h2,λv q=>by rw[d2] at q;cases q]
 keep:=λi h h' st kk=>by obtain⟨hz,dZ,⟨ta,tb,fw⟩,h1,h2⟩:=st;exact#[kk z (by simp) _ hz,kk TI (by simp) _ dZ,#[ta,tb,kk TO (by simp) _ fw],h1.at λo e=>kk i1 (by simp) o e,h2.at λo e=>kk i2 (by simp) o e]
 item:=by
  intro X hP hw hK hc i pins s L H E I hf st hg;subst hP hw hK;obtain⟨xs,ys,x,y,hqx,hqy,hx,hy⟩:=hg;obtain⟨hz,dZ,⟨ta,tb,fw⟩,h1,h2⟩:=st;obtain⟨ai,rv,p1,m⟩:=I.list hqx;obtain⟨jts,oN,p2,m⟩:=I.list hqy;obtain⟨u,hu,ru⟩:=rv.get hx;obtain⟨v,hv,tj⟩:=oN.get hy;refine wpAny_pyNext_zip_item D hz dZ fw h1 h2 p1.isList p2.isList (x:=u) (y:=v) (by simpa using hu) (by simpa using hv) λh' z1 t1 l1 l2 pT hsz hk=>?_;refine#[_,Y,ahR z1 λh3 z3 AV=>?_];have iA:Heap.SameBut z h' h3:=AV;have neT:s.heap.objs.size≠z:=ad5 (acT hz);have up:∀ b o,b∉[z,TI,TO,i1,i2]->s.heap.get? b=O o->h3.get? b=O o:=λb o hb q=>by
   have bH:b≠z/\b≠TI/\b≠TO/\b≠i1/\b≠i2:=by simpa using hb
   exact iA.extBut b o bH.1 (hk b o bH.1 bH.2.2.1 bH.2.2.2.1 bH.2.2.2.2 q)
  have hn:H s.heap.objs.size=J:=I.ar.fresh (acS _);refine#[.ref s.heap.objs.size,upd H s.heap.objs.size (.tup [x,y]),AM (s:=s) (h':=h3) (t':=s.toks) I up hf (acS _) #[AQ,[u,v],.cons ru (.cons tj .nil),?_],Y,#[_,x,y,Y,hn,Y,λzs AW=>by rw[I.qv AW hqx];exact hx,λzs AW=>by rw[I.qv AW hqy];exact hy],
   #[z3,iA.extBut _ _ D.TIz (hk _ _ D.TIz D.TITO D.TIi1 D.TIi2 dZ),#[_,_,iA.extBut _ _ D.TOz t1],l1.at λo q=>iA.extBut _ _ D.i1z q,l2.at λo q=>iA.extBut _ _ D.i2z q],λb hb=>?_]
  .have:=iA.extBut _ _ neT pT;exact#[_,this,Y,_,Y]
  .rw[aJ]
   .exact (hf b hb).1
   .have bH:b=z∨b=TI∨b=TO∨b=i1∨b=i2:=by simpa using hb
    rcases bH with rfl|rfl|rfl|rfl|rfl
    .exact adR neT
    .exact adk (acT dZ)
    .exact adk (acT fw)
    .obtain⟨o,q,m⟩:=h1;exact adk (acT q)
    .obtain⟨o,q,m⟩:=h2;exact adk (acT q)
 done:=by
  intro X hP hw hK hc i pins s L H E I hf st hg;subst hP hw hK;obtain⟨xs,ys,hqx,hqy,hx⟩:=hg;obtain⟨hz,dZ,⟨ta,tb,fw⟩,h1,h2⟩:=st;obtain⟨ai,rv,p1,m⟩:=I.list hqx;obtain⟨jts,oN,p2,m⟩:=I.list hqy;have l1:=rv.length;have l2:=oN.length;refine wpAny_pyNext_zip_end (I.ok.hd hc) D hz dZ fw h1 h2 p1.isList p2.isList (hx.imp (λq=>by simp;lia) λq=>by simp;lia) λh' hk=>#[Y,AL (t':=s.toks) I (λb o hb q=>?_) hf]
  have bH:b≠z/\b≠TI/\b≠TO/\b≠i1/\b≠i2:=by simpa using hb
  exact hk b o bH.1 bH.2.2.1 bH.2.2.2.1 bH.2.2.2.2 q
 self:=λm i s Q E st h=>ag7 st.1 h
def AX(K:acM)(ta:TA):TI:=λL H R=>ta L H λvs H1=>∃ a b,vs=[.ref a,.ref b]/\(∃ xs,ah K H1 a xs)/\(∃ ys,ah K H1 b ys)/\R (xk K a b) H1
theorem RO(hg:Gl X "zip")(hm:X.mg "zip" = J)(ha:PA X [e,f] ta)(hs:adp [e,f] X.env=(false,eval e X.env)::adp [f] X.env:=by rfl)(df:adp [f] X.env=[(false,eval f X.env)]:=by rfl):PI X (.Tuple es k tp) (.Call (.Name "zip" p) [e,f] [] pos) (AX X.K ta):=by
 intro pins s L H R I h;refine al0 (fI I hg hm HC (adD (aC (ha pos pins s L H _ I h) λus s1 ⟨vs,H1,I1,r1,q1⟩=>?_) hs (by rw[df];rfl)));obtain⟨a,b,rfl,⟨xs,hqx⟩,⟨ys,hqy⟩,q⟩:=q1;obtain⟨u,v,rfl,ru,AY⟩:=vals2 r1;cases ru;cases AY;obtain⟨ai,rv,p1,y⟩:=I1.list hqx;obtain⟨jts,oN,p2,y⟩:=I1.list hqy;have a1:a<s1.heap.objs.size:=by obtain⟨y,e,y⟩:=p1.isList;exact acT e
 have a2:b<s1.heap.objs.size:=by obtain⟨y,e,y⟩:=p2.isList;exact acT e
 refine call_zip_2 p1.isList p2.isList λh' hz dZ fw h1 h2 hsz hk=>?_;refine ag7 hz ?_;have I2:Inv X pins L H1 { s1 with heap:=h' }:=I1.kept (t':=s1.toks) hk;refine#[s1.heap.objs.size+4,[s1.heap.objs.size+4,s1.heap.objs.size+2,s1.heap.objs.size+3,s1.heap.objs.size,s1.heap.objs.size+1],_,_,H1,Y,I2,RN a b _ _ _ _ _ (zipApart_new a1 a2),#[hz,dZ,#[_,_,fw],h1,h2],λc hc=>?_,q];have kW:s1.heap.objs.size<=c:=by simp only[acZ,adz,or_false] at hc;walk_at "o"
 exact I1.fK kW (I1.ar.fresh kW)
section
theorem AZ:∀ {bs:List Bool} {ai:List acU},Vals (bs.map V.bl) ai->ai=bs.map aeN
 | [],ai,r=>by cases r;rfl
 | b::bs,ai,r=>by
  cases r with
  | cons r1 r2 =>
   cases r1;rw[AZ r2];rfl
theorem tm(hc:X.calm=true):fj X (.builtin "all") (λxs H Q=>∃ (a:ac4) (bs:List Bool),xs=[.ref a]/\ah X.K H a (bs.map V.bl)/\Q (.bl (bs.all id)) H):=by
 intro pins s L H xs us Q I r h;obtain⟨a,bs,rfl,hS,q⟩:=h;obtain⟨u,rfl,ru⟩:=vals1 r;cases ru;obtain⟨ai,rv,hp,y⟩:=I.list hS;have e:=AZ rv;subst e;have hl:=hp.isList;have aW:a<s.heap.objs.size:=by obtain⟨y,e,y⟩:=hl;exact acT e
 refine call_all_walk (af3 hl ?_);refine#[s.heap.objs.size,[s.heap.objs.size,a],[s.heap.objs.size],(bs.map aeN).toArray.size,_,_,λi=>(bs[i]?).getD true,Y,Walks.list (A:=X.A.in1) (I.ok.hd hc) _ a (adk aW) (bs.map aeN).toArray,#[#[_,acV _ Y,Y,Y],hl.push _],λi v s' Q' E' hP hQ=>?_,λh' tk hk=>?_]
 .have lA:(bs[i]?).map aeN=O v:=by simpa using hP
  cases e:bs[i]? with
  | none=>rw[e] at lA;cases lA
  | some b =>
   rw[e] at lA;cases lA;simp only[e,ag8] at hQ;exact aed hQ
 .have e:((adu (bs.map aeN).toArray.size).all λi=>(bs[i]?).getD true)=bs.all id:=by rw[ac5,acN];exact PyProof.Rows.LSm.range_all bs
  rw[e];exact#[.bl (bs.all id),H,I.kept (λb o q=>hk b o (λz=>by
   have:b=s.heap.objs.size:=by simpa using z
   rw[this] at q;exact aex _ (acT q)) (acL _ q)),Y,q]
theorem RP(hc:X.calm=true):fj X (.builtin "any") (λxs H Q=>∃ (a:ac4) (bs:List Bool),xs=[.ref a]/\ah X.K H a (bs.map V.bl)/\Q (.bl (bs.any id)) H):=by
 intro pins s L H xs us Q I r h;obtain⟨a,bs,rfl,hS,q⟩:=h;obtain⟨u,rfl,ru⟩:=vals1 r;cases ru;obtain⟨ai,rv,hp,y⟩:=I.list hS;have e:=AZ rv;subst e;have hl:=hp.isList;have aW:a<s.heap.objs.size:=by obtain⟨y,e,y⟩:=hl;exact acT e
 refine call_any_walk (af3 hl ?_);refine#[s.heap.objs.size,[s.heap.objs.size,a],[s.heap.objs.size],(bs.map aeN).toArray.size,_,_,λi=>(bs[i]?).getD false,Y,Walks.list (A:=X.A.in1) (I.ok.hd hc) _ a (adk aW) (bs.map aeN).toArray,#[#[_,acV _ Y,Y,Y],hl.push _],λi v s' Q' E' hP hQ=>?_,λh' tk hk=>?_]
 .have lA:(bs[i]?).map aeN=O v:=by simpa using hP
  cases e:bs[i]? with
  | none=>rw[e] at lA;cases lA
  | some b =>
   rw[e] at lA;cases lA;simp only[e,ag8] at hQ;exact aed hQ
 .have e:((adu (bs.map aeN).toArray.size).any λi=>(bs[i]?).getD false)=bs.any id:=by rw[ac5,acN];exact PyProof.Rows.LSm.range_any bs
  rw[e];exact#[.bl (bs.any id),H,I.kept (λb o q=>hk b o (λz=>by
   have:b=s.heap.objs.size:=by simpa using z
   rw[this] at q;exact aex _ (acT q)) (acL _ q)),Y,q]
end
section
variable{K:acM}{g:TG}{tb:TS}{D:Ends}{L:L2.St}{H:Hp}{a b:ac4}{xs ys:List V}
theorem RQ{ta:TA}:iP (AO K ta) g tb D L H=ta L H (λvs H1=>∃ a xs,vs=[.ref a]/\ah K H1 a xs/\FJ (xi K a xs.length) g tb D L H1):=rfl
theorem RS{ta:TA}:iP (AS K ta) g tb D L H=ta L H (λvs H1=>∃ a,vs=[.ref a]/\(∃ xs,ah K H1 a xs)/\FJ (xj K a) g tb D L H1):=rfl
theorem RT{ta:TA}:iP (AX K ta) g tb D L H=ta L H (λvs H1=>∃ a b,vs=[.ref a,.ref b]/\(∃ xs,ah K H1 a xs)/\(∃ ys,ah K H1 b ys)/\FJ (xk K a b) g tb D L H1):=rfl
theorem A0(Pv:Nat->L2.St->Hp->Prop)(h0:Pv 0 L H)(hl:∀ i L H,i<=xs.length->Pv i L H->ah K H a xs)(hs:∀ i x L H p,xs[i]?=O x->Pv i L H->H p=J->g (.ref p) L (upd H p (.tup [.int i,x])) λσ2 H2=>tb { D with nx:=Pv (i+1),ct:=Pv (i+1),bk:=D.nx } σ2 H2)(hd:∀ L H,Pv xs.length L H->D.nx L H):FJ (xj K a) g tb D L H:=by
 refine#[λi m L H=>m=xs.length-i/\i<=xs.length/\Pv i L H,#[_,Y,adt _,h0],?_];rintro i m L H ⟨rfl,hi,p⟩;have q:=hl i L H hi p;by_cases aW:i<xs.length
 .refine .inr #[#[xs,xs[i],q,by simp[aW]],Pv (i+1),λσ' H' p'=>#[xs.length-(i+1),by lia,Y,aW,p'],λv H' y=>?_];obtain⟨w,x,rfl,hw,rfl,y⟩:=y;exact hs i x L _ w (y xs q) p hw
 .have e:i=xs.length:=by lia
  subst e;exact .inl #[#[xs,q,acS _],hd L H p]
theorem RU(Pv:Nat->L2.St->Hp->Prop)(h0:Pv 0 L H)(hl:∀ i L H,Pv i L H->ah K H a xs/\ah K H b ys)(hs:∀ i x y L H p,xs[i]?=O x->ys[i]?=O y->Pv i L H->H p=J->g (.ref p) L (upd H p (.tup [x,y])) λσ2 H2=>tb { D with nx:=Pv (i+1),ct:=Pv (i+1),bk:=D.nx } σ2 H2)(hd:∀ L H,Pv (min xs.length ys.length) L H->D.nx L H):FJ (xk K a b) g tb D L H:=by
 refine#[λi m L H=>m=min xs.length ys.length-i/\i<=min xs.length ys.length/\Pv i L H,#[_,Y,adt _,h0],?_];rintro i m L H ⟨rfl,hi,p⟩;have q:=hl i L H p;by_cases aW:i<min xs.length ys.length
 .have h1:i<xs.length:=by lia
  have h2:i<ys.length:=by lia
  refine .inr #[#[xs,ys,xs[i],ys[i],q.1,q.2,by simp[h1],by simp[h2]],Pv (i+1),λσ' H' p'=>#[min xs.length ys.length-(i+1),by lia,Y,aW,p'],λv H' y=>?_];obtain⟨w,x,y',rfl,hw,rfl,e1,e2⟩:=y;exact hs i x y' L _ w (e1 xs q.1) (e2 ys q.2) p hw
 .have e:i=min xs.length ys.length:=by lia
  refine .inl #[#[xs,ys,q.1,q.2,by lia],hd L H (e ▸ p)]
end
theorem mV{K:acM}{i j:Nat}{p:ac4}{x y:V}{L:L2.St}{H:Hp}{Q:L2.St->Hp->Prop}(h:au K H p [x,y])(q:Q ((L.set i (O x)).set j (O y)) H):je K 2 (cJ (bZ i) (cJ (bZ j) iO)) (.ref p) L H Q :=
 #[p,[x,y],Y,h,Y,x,[y],Y,y,[],Y,Y,q]
section
variable{X:Cx}{K:acM}
def oO(Ok:Hp->Prop)(ρ:L2.St)(tt:TT)(te:TE):List (V × V)->List V->Hp->(List V->Hp->Prop)->Prop
 | [],zs,H,Q=>Ok H/\Q zs H
 | (x,y)::r,zs,H,Q=>Ok H/\∀ p,H p=J->tt (O x::O y::ρ) (upd H p (.tup [x,y])) λb H1=>if b=true then te (O x::O y::ρ) H1 λz H2=>oO Ok ρ tt te r (zs++[z]) H2 Q else oO Ok ρ tt te r zs H1 Q
theorem RV{os:List (Option V)}(h:os.length=2):∃ a b,os=[a,b]:=by
 match os,h with
 | [a,b],_=>exact#[a,b,Y]
end
mutual
inductive Dat(K:acM)(H:Hp):V->ahp->Prop where
 | non:Dat K H .non .none
 | bl (b:Bool):Dat K H (.bl b) (.bool b)
 | int (i:Int):Dat K H (.int i) (.int i)
 | str (x:Str):Dat K H (.str x) (.str x)
 | tup {a:ac4} {xs:List V} {ds:List ahp} (h:au K H a xs) (r:qI K H xs ds):Dat K H (.ref a) (.tuple ds)
 | lst {a:ac4} {xs:List V} {ds:List ahp} (h:ah K H a xs) (r:qI K H xs ds):Dat K H (.ref a) (.list ds)
inductive qI(K:acM)(H:Hp):List V->List ahp->Prop where
 | nil:qI K H [] []
 | cons {x:V} {d:ahp} {xs:List V} {ds:List ahp} (h:Dat K H x d) (r:qI K H xs ds):qI K H (x::xs) (d::ds)
end
section
variable{X:Cx}{pins:List (ac4 × Obj)}{L:L2.St}{H:Hp}{s:ac8}
theorem Dat.reads(I:Inv X pins L H s)(d:ahp)(h:Dat X.K H v d):RelV v u->∃ as,Reads s.heap u d as:=by
 refine Dat.rec (motive_1:=λv d y=>∀ u,RelV v u->∃ as,Reads s.heap u d as) (motive_2:=λvs ds y=>∀ us,Vals vs us->∃ as,ReadsAll s.heap us ds as) ?_ ?_ ?_ ?_ ?_ ?_ ?_ ?_ h u
 .intro u r;cases r;exact#[_,.none]
 .intro b u r;cases r;exact#[_,.bool b]
 .rintro i u ⟨t,rfl⟩;exact#[_,.int i t]
 .rintro x u ⟨t,rfl⟩;exact#[_,.str x t]
 .intro a xs ds h q ih u r;cases r;obtain⟨ai,rv,⟨o,ho,hc,n,hd⟩,y⟩:=I.tuple h;obtain⟨as,ra⟩:=ih ai rv;exact#[_,.tuple ho hc hd (by simpa using ra)]
 .intro a xs ds h q ih u r;cases r;obtain⟨ai,rv,⟨o,n,ho,hc,y,hd⟩,y⟩:=I.list h;obtain⟨as,ra⟩:=ih ai rv;exact#[_,.list ho hc hd (by simpa using ra)]
 .intro us r;cases r;exact#[_,.nil]
 .intro x d xs ds h q A2 A3 us r;cases r with
  | cons r1 r2 =>
   obtain⟨as,ra⟩:=A2 _ r1;obtain⟨bs,rb⟩:=A3 _ r2;exact#[_,.cons ra rb]
def A4(K:acM)(neg:Bool):R2:=λx y H Q=>∃ d e,Dat K H x d/\Dat K H y e/\d.canLay0=true/\e.canLay0=true/\d.depth<=60/\Q (.bl (if neg=true then !ae5 d e else ae5 d e)) H
theorem IA(hu:X.A.units+64<aii):bz X (aev .Eq) (A4 X.K false):=by intro pins s L H x y v u Q I rx ry h;obtain⟨d,e,dx,dy,c1,c2,dd,q⟩:=h;obtain⟨as,ra⟩:=Dat.reads I d dx rx;obtain⟨bs,rb⟩:=Dat.reads I e dy ry;exact SeqAt.compareEq_reads ra rb c1 c2 (by lia) #[.bl _,H,I,Y,q]
end
noncomputable def xl(lo st:Int)(n:Nat):It:=#[λi y=>i<n,λi H x H'=>H'=H/\x = .int (lo+(i:Int) * st),λi y=>n<=i]
theorem RW{P:adP}{w:aes}{K:acM}{tg:agY}(it:ac4)(lo st:Int)(n:Nat):Turn P w K tg (xl lo st n) [it] it (λi h=>aih h it (lo+(i:Nat) * st) ((n:Int)-(i:Nat)) st) where
 mem:=by simp
 obj:=λi h q b hb=>by
  have e:b=it:=by simpa using hb
  subst e;exact#[_,q,λv z=>by
   have z':ahj _=agv v:=z;cases z']
 keep:=λi h h' q k=>k it (by simp) _ q
 item:=by intro X hP hw hK hc i pins s L H E I hf q hg;subst hP hw hK;obtain⟨f0,f1,f2,f3,f4,f5⟩:=hf it (by simp);have W:=Walks.range (prog:=X.prog) (w:=X.w) (I.ok.hd hc) it lo st n;refine W.item i s _ _ hg q λv h' tk hv q' kk=>?_;obtain⟨t,rfl⟩:=hv;have I1:Inv X pins L H { s with heap:=h',toks:=tk }:=I.turned (λb o hb e=>kk b o (by simpa using hb) e) f0 f1 f3 f4 f5;exact#[_,Y,oo (s:={ s with heap:=h',toks:=tk }) (n := "range_iterator") q' Y Y (by decide) #[.int (lo+(i:Int) * st),H,I1,#[t,Y],#[Y,Y],q',λb hb=>(hf b hb).1]]
 done:=by
  intro X hP hw hK hc i pins s L H E I hf q hg;subst hP hw hK;obtain⟨f0,f1,f2,f3,f4,f5⟩:=hf it (by simp);exact aiB (I.ok.hd hc) q (by have:n<=i:=hg;lia) λh' eb=>#[Y,I.turned (t':=s.toks) (λb o hb e=>eb b o hb e) f0 f1 f3 f4 f5]
 self:=λy y y y y q h=>aiC q h
noncomputable def mW(lo hi st:Int):Nat:=(adX lo hi st).toNat
def A5(ta:TA):TI:=λL H R=>ta L H λvs H1=>∃ i j c:Int,vs=[.int i,.int j,.int c]/\(-1000000<=i/\i<=1000000/\-1000000<=j/\j<=1000000/\-1000000<=c/\c<=1000000/\c≠0)/\R (xl i c (mW i j c)) H1
theorem IB(i j c:Int)(h:c≠0):0<=adX i j c:=by
 unfold adX;split
 .rename_i hc;split
  .have:=ai2 (show 0<=j-i-1 by lia) (show 0<=c by lia);lia
  .lia
 .split
  .have:=ai2 (show 0<=i-j-1 by lia) (show 0 <= -c by lia);lia
  .lia
theorem size_le(i j c:Int)(h : -1000000<=i/\i<=1000000/\-1000000<=j/\j<=1000000/\c≠0):adX i j c<=2000000:=by
 unfold adX;split
 .split
  .have:=akM (c) (show 0<=j-i-1 by lia);lia
  .lia
 .split
  .have:=akM (-c) (show 0<=i-j-1 by lia);lia
  .lia
theorem RX(h : -1000000<=i/\i<=1000000/\-1000000<=j/\j<=1000000/\-1000000<=c/\c<=1000000/\c≠0):Builtin.Range.small i j c=true:=by have h1:=IB i j c h.2.2.2.2.2.2;have h2:=size_le i j c #[h.1,h.2.1,h.2.2.1,h.2.2.2.1,h.2.2.2.2.2.2];unfold Builtin.Range.small;generalize adX i j c=n at h1 h2 ⊢;simp only[alf,ad2,afD,decide_eq_true_eq,beq_iff_eq];refine#[by lia,.inr ?_];split<;>simp only[ad2,decide_eq_true_eq]<;>lia
theorem RY(hg:Gl X "range")(hm:X.mg "range" = J)(ha:PA X [a,b,c] ta)(hs:adp [a,b,c] X.env=(false,eval a X.env)::adp [b,c] X.env:=by rfl)(df:adp [b,c] X.env=[(false,eval b X.env),(false,eval c X.env)]:=by rfl) :
 PI X tg (.Call (.Name "range" p) [a,b,c] [] pos) (A5 ta):=by
 intro pins s L H R I h;refine al0 (fI I hg hm alB (adD (aC (ha pos pins s L H _ I h) λus s1 ⟨vs,H1,I1,r1,q1⟩=>?_) (by rw[hs]) (by rw[df];rfl)));obtain⟨i,j,k,e,hb,q⟩:=q1;subst e;cases r1 with
 | cons r rr =>
  cases rr with
  | cons r' rr =>
   cases rr with
   | cons RZ rr =>
    cases rr;obtain⟨t,rfl⟩:=r;obtain⟨t',rfl⟩:=r';obtain⟨IC,rfl⟩:=RZ;have hk:k≠0:=hb.2.2.2.2.2.2;refine call_range_3 hk ?_ (.inl (PyProof.noPylong_small (by lia)));refine ahF (IsRange.new ..) (RX hb) ?_;have I2:Inv X pins L H1 { s1 with heap:=s1.heap.push { cls:=.type "range",data:=.fields (List.toArray [.int i t,.int j t',.int k IC]) },toks:=s1.toks }:=I1.kept λb o e=>acL _ e;refine#[_,[_],_,_,H1,Y,I2.kept (t':=s1.toks) λb o e=>acL _ e,RW _ i k (mW i j k),?_,λb hb=>?_,q]
    .have e1:i+((0:Nat):Int) * k=i:=by simp
     have e2:((mW i j k:Nat):Int)-((0:Nat):Int)=adX i j k:=by have:=IB i j k hk;unfold mW;lia
     show aih _ _ (i+((0:Nat):Int) * k) (((mW i j k:Nat):Int)-((0:Nat):Int)) k;rw[e1,e2];exact acV _ rfl
    .have e:b=(s1.heap.push { cls:=.type "range",data:=.fields (List.toArray [.int i t,.int j t',.int k IC]) }).objs.size:=by simpa using hb
     subst e;exact I2.fK (acS _) (I2.ar.fresh (acS _))
section
variable{g:TG}{tb:TS}{D:Ends}{L:L2.St}{H:Hp}{lo st:Int}{n:Nat}
theorem R0:iP (GJ ta) g tb D L H=ta L H (λvs H1=>∃ i j:Int,vs=[.int i,.int j]/\(-(2 ^ 62)<=i/\i<2 ^ 62/\-(2 ^ 62)<=j/\j<2 ^ 62)/\FJ (gj i (j-i).toNat) g tb D L H1):=rfl
theorem R6:iP (A5 ta) g tb D L H=ta L H (λvs H1=>∃ i j c:Int,vs=[.int i,.int j,.int c]/\(-1000000<=i/\i<=1000000/\-1000000<=j/\j<=1000000/\-1000000<=c/\c<=1000000/\c≠0)/\FJ (xl i c (mW i j c)) g tb D L H1):=rfl
theorem R7(Pv:Nat->L2.St->Hp->Prop)(h0:Pv 0 L H)(hs:∀ i L H,i<n->Pv i L H->g (.int (lo+(i:Int) * st)) L H λσ2 H2=>tb { D with nx:=Pv (i+1),ct:=Pv (i+1),bk:=D.nx } σ2 H2)(hd:∀ L H,Pv n L H->D.nx L H):FJ (xl lo st n) g tb D L H:=by
 refine#[λi m L H=>m=n-i/\i<=n/\Pv i L H,#[n,by simp,adt _,h0],?_];rintro i m L H ⟨rfl,hi,p⟩;by_cases aW:i<n
 .refine .inr #[aW,Pv (i+1),λσ' H' p'=>#[n-(i+1),by lia,Y,aW,p'],λx H' y=>?_];obtain⟨e,y⟩:=y;subst e y;exact hs i L _ aW p
 .have e:i=n:=by lia
  subst e;exact .inl #[acS _,hd L H p]
end
theorem A6(xs:List V)(a:Nat):j4 xs (O (a:Int)) J=xs.drop a:=by
 unfold j4;rw[HT.PQ,HT.PN];by_cases h:a<=xs.length
 .rw[ai3 h,afN (by rw[aiw];lia)]
 .rw[akN (by lia),aeQ (acS _),aeQ (by lia)];simp
mutual
noncomputable def iT:Nat->ahp->Bool
 | _,.none=>true
 | _,.bool _=>true
 | _,.int _=>true
 | n+1,.tuple ds=>qJ n ds
 | n+1,.list ds=>qJ n ds
 | _,_=>false
noncomputable def qJ:Nat->List ahp->Bool
 | _,[]=>true
 | n,d::ds=>iT n d && qJ n ds
end
mutual
theorem ID:∀ (d:ahp) {n:Nat},iT n d=true->ae5 d d=true/\d.canLay0=true/\d.depth<=n
 | .none,n,_=>#[Y,Y,adt _]
 | .bool b,n,_=>#[by simp[ae5],Y,adt _]
 | .int i,n,_=>#[by simp[ae5],Y,adt _]
 | .str x,0,h=>by simp[iT] at h
 | .str x,n+1,h=>by simp[iT] at h
 | .dict x,0,h=>by simp[iT] at h
 | .dict x,n+1,h=>by simp[iT] at h
 | .tuple ds,0,h=>by simp[iT] at h
 | .list ds,0,h=>by simp[iT] at h
 | .tuple ds,n+1,h=>by obtain⟨a,b,c⟩:=A7 ds (n:=n) (by simpa [iT] using h);exact#[by simpa only [ae5] using a,by simpa only [agV] using b,by simp only[PyData.depth];lia]
 | .list ds,n+1,h=>by obtain⟨a,b,c⟩:=A7 ds (n:=n) (by simpa [iT] using h);exact#[by simpa only [ae5] using a,by simpa only [agV] using b,by simp only[PyData.depth];lia]
theorem A7:∀ (ds:List ahp) {n:Nat},qJ n ds=true->agA ds ds=true/\agP ds=true/\ahq ds<=n
 | [],n,_=>#[Y,Y,adt _]
 | d::ds,n,h=>by
  have h':iT n d=true/\qJ n ds=true:=by simpa [qJ] using h
  obtain⟨a,b,c⟩:=ID d h'.1;obtain⟨a',b',c'⟩:=A7 ds h'.2;exact#[by simp only[agA,a,a',aio],by simp only[agP,b,b',aio],by simp only[ahq];lia]
end
end Gz
namespace Gz
noncomputable def jo(ns:List Int)(k:Int):Int:=ns.getD k.toNat 0
noncomputable def num(c:Int):Int:=if c % 3=0 then c / 3 % 13-6 else c / 3 % 1000000000000000000000000000000 * 3315501701285949699224633478459810372516696558535471 % 200000000000000000000000000000000000000000000000001-100000000000000000000000000000000000000000000000000
noncomputable def IE(a b:Int):Int:=((Nat.gcd a.natAbs b.natAbs:Nat):Int)
noncomputable def sg(t b:Int):Int:=if b<0 then -IE t b else IE t b
noncomputable def rt(t b:Int):Int:=t.fdiv (sg t b)
noncomputable def rb(t b:Int):Int:=b.fdiv (sg t b)
end Gz
namespace Gz
open PySem PySem.Spec PyProof.Rows L2
def ax{α:Type}(R:V->α->Prop):List V->List α->Prop
 | [],[]=>True
 | x::xs,a::as=>R x a/\ax R xs as
 | _,_=>False
section
variable{α:Type}{R R':V->α->Prop}
theorem ax.len:∀ {xs:List V} {as:List α},ax R xs as->xs.length=as.length
 | [],[],_=>rfl
 | _::_,_::_,h=>by simp[ax.len h.2]
 | [],_::_,h=>h.elim
 | _::_,[],h=>h.elim
theorem ax.imp(f:∀ x a,R x a->R' x a):∀ {xs:List V} {as:List α},ax R xs as->ax R' xs as
 | [],[],_=>trivial
 | _::_,_::_,h=>#[f _ _ h.1,ax.imp f h.2]
 | [],_::_,h=>h.elim
 | _::_,[],h=>h.elim
theorem ax.get:∀ {xs:List V} {as:List α},ax R xs as->∀ {i:Nat} {x:V},xs[i]?=O x->∃ a,as[i]?=O a/\R x a
 | [],[],_,i,x,e=>by simp at e
 | _::_,a::_,h,0,x,e=>by simp at e;subst e;exact#[a,by simp,h.1]
 | _::_,_::_,h,i+1,x,e=>by simp only[afH] at e ⊢;exact ax.get h.2 e
 | [],_::_,h,_,_,_=>h.elim
 | _::_,[],h,_,_,_=>h.elim
theorem ax.at:∀ {xs:List V} {as:List α},ax R xs as->∀ {i:Nat} {a:α},as[i]?=O a->∃ x,xs[i]?=O x/\R x a
 | [],[],_,i,x,e=>by simp at e
 | x::_,_::_,h,0,a,e=>by simp at e;subst e;exact#[x,by simp,h.1]
 | _::_,_::_,h,i+1,a,e=>by simp only[afH] at e ⊢;exact ax.at h.2 e
 | [],_::_,h,_,_,_=>h.elim
 | _::_,[],h,_,_,_=>h.elim
theorem ax.app:∀ {xs ys:List V} {as bs:List α},ax R xs as->ax R ys bs->ax R (xs++ys) (as++bs)
 | [],_,[],_,_,h=>h
 | _::_,_,_::_,_,h,h'=>#[h.1,ax.app h.2 h']
 | [],_,_::_,_,h,_=>h.elim
 | _::_,_,[],_,h,_=>h.elim
theorem ax.snoc(h:ax R xs as)(h':R x a):ax R (xs++[x]) (as++[a]):=h.app #[h',trivial]
theorem ax.ints:∀ (ns:List Int),ax (λx n=>x=V.int n) (ns.map V.int) ns
 | []=>trivial
 | n::ns=>#[Y,ax.ints ns]
theorem ax.iM{lo:Int}(n:Nat):ax (λx (k:Nat)=>x=V.int (lo+k)) ((adu n).map λk=>V.int (lo+(k:Nat))) (adu n):=by
 suffices ∀ l:List Nat,ax (λx (k:Nat)=>x=V.int (lo+k)) (l.map λk=>V.int (lo+(k:Nat))) l from this _
 intro l
 induction l with
 | nil=>trivial
 | cons a l ih=>exact#[Y,ih]
end
theorem xm(bP:Ok H):∀ {xs:List V} {as:List α} {ys:List V},ax R xs as ->
 (∀ x a,a∈as->R x a->∀ Q,Q (p a) H->tt (O x::ρ) H Q)->(∀ x a,a∈as->p a=true->R x a->∀ Q:VK,Q (f a) H->te (O x::ρ) H Q) ->
 Q' (ys++(as.filter p).map f) H->eL Ok ρ tt te xs ys H Q'
 | [],[],ys,_,_,_,q=>#[bP,by simpa using q]
 | x::xs,a::as,ys,h,ht,he,q=>by
  refine#[bP,ht x a (.head _) h.1 _ ?_];by_cases hb:p a=true
  .rw[if_pos hb];refine he x a (.head _) hb h.1 _ (xm bP h.2 (λx a ha=>ht x a (.tail _ ha)) (λx a ha=>he x a (.tail _ ha)) ?_);rw[aek,if_pos hb] at q;simpa using q
  .rw[if_neg hb];refine xm bP h.2 (λx a ha=>ht x a (.tail _ ha)) (λx a ha=>he x a (.tail _ ha)) ?_;rw[aek,if_neg hb] at q;exact q
 | [],_::_,_,h,_,_,_=>h.elim
 | _::_,[],_,h,_,_,_=>h.elim
theorem filter_tt(l:List α):l.filter (λy=>true)=l:=aeS.mpr λy y=>rfl
abbrev P2:=Int × Int
def eM(H:Hp)(v:V)(p:P2):Prop:=∃ a,v = .ref a/\H a=O (.tup [.int p.1,.int p.2])
theorem eM.same(h:eM H v p)(s:aj H H'):eM H' v p:=let ⟨a,e,q⟩:=h;#[a,e,s _ _ q]
theorem eM.put(h:eM H v p)(hr:H r=O (.lst ys)):eM (upd H r (.lst zs)) v p:=by obtain⟨a,e,q⟩:=h;refine#[a,e,?_];rw[aJ (zF q hr (λz=>nomatch z))];exact q
abbrev d8(H:Hp):List V->List P2->Prop:=ax (eM H)
theorem d8.same(h:d8 H xs ps)(s:aj H H'):d8 H' xs ps:=ax.imp (λy y r=>r.same s) h
theorem d8.put(h:d8 H xs ps)(hr:H r=O (.lst ys)):d8 (upd H r (.lst zs)) xs ps:=ax.imp (λy y x=>x.put hr) h
noncomputable def aside(s e p:P2):Int:=(p.2-s.2) * (e.1-s.1)-(p.1-s.1) * (e.2-s.2)
noncomputable def aF(ps:List P2)(i:Nat):P2:=ps.getD i (0,0)
def R8(ks:List P2)(p q:Int)(i:Nat):Prop:=i+1<ks.length/\(aF ks i).1 * q<=p/\p<=(aF ks (i+1)).1 * q
def hit(ks:List P2)(p q:Int):Prop:=∃ i,R8 ks p q i
def SameBut(x:ac4)(H H':Hp):Prop:=∀ b o,b≠x->H b=O o->H' b=O o
theorem oP(hi:i<ps.length):aF ps i∈ps:=by unfold aF;rw[acO,acP hi];exact agm hi
theorem iB{α β:Type}{R:Hp->V->α->Prop}{R':Hp->V->β->Prop}{Ok:Hp->Prop}{ρ:L2.St}{tt:TT}{te:TE}{f:α->β}{Q':List V->Hp->Prop}(mono:∀ H H' x a,aj H H'->R H x a->R H' x a)(jq:∀ H H' x a,aj H H'->R' H x a->R' H' x a) :
 ∀ {xs:List V} {as:List α} {ys:List V} {bs:List β} {H:Hp},ax (R H) xs as->ax (R' H) ys bs->(∀ H',aj H H'->Ok H')->(∀ x a,a∈as->∀ H',aj H H'->R H' x a->∀ Q,Q true H'->tt (O x::ρ) H' Q) ->
 (∀ x a,a∈as->∀ H',aj H H'->R H' x a->∀ Q:VK,(∀ gy y,aj H' gy->R' gy y (f a)->Q y gy)->te (O x::ρ) H' Q) ->
 (∀ H' zs,aj H H'->ax (R' H') zs (bs++as.map f)->Q' zs H')->eL Ok ρ tt te xs ys H Q'
 | [],[],ys,bs,H,_,hy,bP,_,_,q=>#[bP H (aj.refl H),q H ys (aj.refl H) (by simpa using hy)]
 | x::xs,a::as,ys,bs,H,h,hy,bP,ht,he,q=>by
  refine#[bP H (aj.refl H),ht x a (.head _) H (aj.refl H) h.1 _ ?_];rw[if_pos Y];refine he x a (.head _) H (aj.refl H) h.1 _ λH2 y s2 r2=>?_;refine iB mono jq (bs:=bs++[f a]) (h.2.imp λx a r=>mono _ _ _ _ s2 r) ((hy.imp λx a r=>jq _ _ _ _ s2 r).snoc r2) (λH' s'=>bP H' (s2.trans s')) (λx a ha H' s'=>ht x a (.tail _ ha) H' (s2.trans s')) (λx a ha H' s'=>he x a (.tail _ ha) H' (s2.trans s')) λH' zs s' hz=>?_;refine q H' zs (s2.trans s') ?_;rw[adg]
  rwa [aet] at hz
 | [],_::_,_,_,_,h,_,_,_,_,_=>h.elim
 | _::_,[],_,_,_,h,_,_,_,_,_=>h.elim
noncomputable def sw(ks:List P2):List P2:=ks.map λp=>(p.2,p.1)
end Gz
namespace Gz
open PySem PySem.W PyProof.Rows
def d9{α:Type}(lt:Nat->Nat->Bool)(n:Nat):KasT α->(α->Prop)->Prop
 | .ret a,P=>P a
 | .ask i j k,P=>i<n/\j<n/\d9 lt n (k (lt i j)) P
section
theorem qK:∀ (t:KasT α),d9 lt n t (λa=>d9 lt n (f a) P)->d9 lt n (t.bind f) P
 | .ret _,h=>h
 | .ask _ _ k,h=>#[h.1,h.2.1,qK (k _) h.2.2]
theorem IF{α:Type}{P P':α->Prop}(h:∀ a,P a->P' a):∀ (t:KasT α),d9 lt n t P->d9 lt n t P'
 | .ret _,q=>h _ q
 | .ask _ _ k,q=>#[q.1,q.2.1,IF h (k _) q.2.2]
theorem A8{α:Type}{cmp:Nat->Nat->(Bool->ac8->Prop)->ac8->Prop}{Ok:ac8->Prop}(hc:∀ i j C s,i<n->j<n->Ok s->(∀ s',Ok s'->C (lt i j) s')->cmp i j C s){P:α->Prop}{Q:α->ac8->Prop}(hQ:∀ a s,Ok s->P a->Q a s) :
 ∀ (t:KasT α) (s:ac8),Ok s->d9 lt n t P->t.kasWp cmp Q s
 | .ret a,s,o,h=>hQ a s o h
 | .ask i j k,s,o,h=>hc i j _ s h.1 h.2.1 o λs' o'=>A8 hc hQ (k (lt i j)) s' o' h.2.2
structure Ord(lt:Nat->Nat->Bool):Prop where
 asym:∀ {a b},lt a b=true->lt b a=false
 tr:∀ {a b c},lt b a=false->lt c b=false->lt c a=false
theorem Ord.rfl'(O9q:Ord lt)(a:Nat):lt a a=false:=by
 cases h:lt a a with
 | false=>rfl
 | true=>rw[O9q.asym h] at h;cases h
def eh(lt:Nat->Nat->Bool)(p:Array Nat)(k:Nat):Prop:=∀ i j,i<=j->j<k->lt (p.getD j 0) (p.getD i 0)=false
def fS(lt:Nat->Nat->Bool)(p:Array Nat)(k:Nat):Prop:=∀ i j,i<=j->j<k->lt (p.getD i 0) (p.getD j 0)=false
def cC(n:Nat)(p:Array Nat):Prop:=p.toList.Perm (adu n)
theorem cC.size(h:cC n p):p.size=n:=by have:=h.length_eq;simpa using this
theorem cC.below(h:cC n p)(hi:i<n):p.getD i 0<n:=by
 have hs:=h.size;have dD:i<p.size:=by lia
 have e:p.getD i 0=p[i]:=by simp[Array.getD,dD]
 rw[e];have m:p[i]∈p.toList:=by simp
 simpa using h.mem_iff.mp m
theorem cC.of(h:cC n p)(hq:q.Perm p):cC n q:=(Array.perm_iff_toList_perm.mp hq).trans h
theorem eh.one(O9q:Ord lt):eh lt p 1:=λi j iC hj=>by
 have:i=j:=by lia
 subst this;exact O9q.rfl' _
theorem fS.one(O9q:Ord lt):fS lt p 1:=λi j iC hj=>by
 have:i=j:=by lia
 subst this;exact O9q.rfl' _
theorem eh.succ(O9q:Ord lt)(h:eh lt p k)(hk:1<=k)(hn:lt (p.getD k 0) (p.getD (k-1) 0)=false):eh lt p (k+1):=λi j iC hj=>by
 by_cases e:j=k
 .subst e;by_cases ei:i=j
  .subst ei;exact O9q.rfl' _
  .exact O9q.tr (h i (j-1) (by lia) (by lia)) hn
 .exact h i j iC (by lia)
theorem fS.succ(O9q:Ord lt)(h:fS lt p k)(hk:1<=k)(hn:lt (p.getD (k-1) 0) (p.getD k 0)=false):fS lt p (k+1):=λi j iC hj=>by
 by_cases e:j=k
 .subst e;by_cases ei:i=j
  .subst ei;exact O9q.rfl' _
  .exact O9q.tr hn (h i (j-1) (by lia) (by lia))
 .exact h i j iC (by lia)
theorem mX(hj:j<=p.size)(k:Nat):(kas_rev p i j).getD k 0=if i<=k/\k<j then p.getD (i+j-1-k) 0 else p.getD k 0:=by simp only[ahr];unfold kas_rev;rw[getElem?_mirror_all hj];split<;>rfl
theorem IG(hk:k<p.size)(hl:l<=k)(i:Nat):(bubble p k (k-l)).getD i 0=if i=l then p.getD k 0 else if l<i/\i<=k then p.getD (i-1) 0 else p.getD i 0:=by
 simp only[ahr];rw[getElem?_bubble hk _ (by lia)];have e:k-(k-l)=l:=by lia
 rw[e];split
 .rfl
 .split<;>rfl
theorem IH(O9q:Ord lt)(hp:cC n p):∀ (f a:Nat),1<=a->a+f<=n->eh lt p a->(∀ m,a<=m->m<=a+f->eh lt p m->P m)->d9 lt n (kas_asc p f a) P
 | 0,a,h1,h2,hs,q=>q a (acS _) (by lia) hs
 | f+1,a,h1,h2,hs,q=>by
  refine#[hp.below (by lia),hp.below (by lia),?_];cases c:lt (p.getD a 0) (p.getD (a-1) 0) with
  | true =>
   simp only[↓reduceIte];exact q a (acS _) (by lia) hs
  | false =>
   simp only[adn,↓reduceIte];exact IH O9q hp f (a+1) (by lia) (by lia) (hs.succ O9q h1 c) λm m1 m2=>q m (by lia) (by lia)
theorem fS.rev(h:fS lt p k)(hk:k<=p.size)(hi:i<=k)(he:∀ j,i<=j->j<k->lt (p.getD (k-1) 0) (p.getD j 0)=false)(O9q:Ord lt):fS lt (kas_rev p i k) k:=λa b gV hb=>by
 rw[mX hk,mX hk];have eqv:∀ x y,i<=x->x<k->i<=y->y<k->lt (p.getD x 0) (p.getD y 0)=false:=λx y x1 x2 y1 y2=>O9q.tr (he y y1 y2) (h x (k-1) (by lia) (by lia));split
 .split
  .exact eqv _ _ (by lia) (by lia) (by lia) (by lia)
  .exfalso;lia
 .split
  .exact h _ _ (by lia) (by lia)
  .exact h _ _ gV hb
theorem xn(O9q:Ord lt):∀ (f:Nat) (p:Array Nat) (k q:Nat),cC n p->1<=k->k+f<=n->q+1<=k->fS lt p k->(∀ j,k-(q+1)<=j->j<k->lt (p.getD (k-1) 0) (p.getD j 0)=false) ->
 (∀ p' k' q',cC n p'->k<=k'->k'<=k+f->q' + 1<=k'->fS lt p' k'->(∀ j,k' - (q' + 1)<=j->j<k'->lt (p'.getD (k' - 1) 0) (p'.getD j 0)=false)->P (p',k',q'))->d9 lt n (kas_desc f p k q) P
 | 0,p,k,q,hp,h1,h2,h3,hd,he,fin=>fin p k q hp (acS _) (by lia) h3 hd he
 | f+1,p,k,q,hp,h1,h2,h3,hd,he,fin=>by
  have hs:=hp.size;have one:∀ (p':Array Nat),∀ j,(k+1)-(0+1)<=j->j<k+1->lt (p'.getD (k+1-1) 0) (p'.getD j 0)=false:=λp' j j1 j2=>by
   have:j=k:=by lia
   subst this;exact O9q.rfl' _
  refine#[hp.below (by lia),hp.below (by lia),?_];cases c:lt (p.getD k 0) (p.getD (k-1) 0) with
  | true =>
   simp only[↓reduceIte];have c':=O9q.asym c;by_cases hq:q > 0
   .rw[if_pos hq];have fv:cC n (kas_rev p (k-(q+1)) k):=hp.of (ajM _ _ _ _);have sq:fS lt (kas_rev p (k-(q+1)) k) k:=hd.rev (by lia) (by lia) he O9q;refine xn O9q f _ (k+1) 0 fv (by lia) (by lia) (by lia) (sq.succ O9q h1 ?_) (one _) λp2 k2 q2 a1 a2 a3 a4 a5 a6=>fin p2 k2 q2 a1 (by lia) (by lia) a4 a5 a6;rw[mX (by lia),mX (by lia),if_pos (by lia),if_neg (by lia)];have e1:k-(q+1)+k-1-(k-1)=k-(q+1):=by lia
    rw[e1];exact O9q.tr c' (hd _ (k-1) (by lia) (by lia))
   .rw[if_neg hq];exact xn O9q f p (k+1) 0 hp (by lia) (by lia) (by lia) (hd.succ O9q h1 c') (one _) λp2 k2 q2 a1 a2 a3 a4 a5 a6=>fin p2 k2 q2 a1 (by lia) (by lia) a4 a5 a6
  | false =>
   simp only[adn,↓reduceIte];refine#[hp.below (by lia),hp.below (by lia),?_];cases d:lt (p.getD (k-1) 0) (p.getD k 0) with
   | true =>
    simp only[↓reduceIte];exact fin p k q hp (acS _) (by lia) h3 hd he
   | false =>
    simp only[adn,↓reduceIte];refine xn O9q f p (k+1) (q+1) hp (by lia) (by lia) (by lia) (hd.succ O9q h1 d) (λj j1 j2=>?_) λp2 k2 q2 a1 a2 a3 a4 a5 a6=>fin p2 k2 q2 a1 (by lia) (by lia) a4 a5 a6;have ek:k+1-1=k:=by lia
    rw[ek];by_cases ej:j=k
    .subst ej;exact O9q.rfl' _
    .exact O9q.tr (he j (by lia) (by lia)) c
theorem fS.whole(h:fS lt p k)(hk:k<=p.size):eh lt (kas_rev p 0 k) k:=λa b gV hb=>by rw[mX hk,mX hk,if_pos (by lia),if_pos (by lia)];exact h _ _ (by lia) (by lia)
theorem II(O9q:Ord lt)(hp:cC n p)(h1:1<=k)(h2:k<=n)(hd:fS lt p k)(fin:∀ m p',cC n p'->1<=m->m<=n->eh lt p' m->P (m,p')):d9 lt n (kas_tail3 k n p) P:=by have fv:cC n (kas_rev p 0 k):=hp.of (ajM _ _ _ _);have hs:=hp.size;unfold kas_tail3;refine qK _ (IH O9q fv (n-k) k h1 (by lia) (hd.whole (by lia)) λm m1 m2 ms=>?_);exact fin m _ fv (by lia) (by lia) ms
theorem IJ(O9q:Ord lt)(hp:cC n p)(h1:1<=k)(h2:k+1<=n)(hd:fS lt p (k+1))(fin:∀ m p',cC n p'->1<=m->m<=n->eh lt p' m->P (m,p')):d9 lt n (kas_descPart k n p) P:=by
 unfold kas_descPart;refine qK _ (xn O9q (n-(k+1)) p (k+1) 0 hp (by lia) (by lia) (by lia) hd (λj j1 j2=>?_) λp2 k2 q2 a1 a2 a3 a4 a5 a6=>?_)
 .have:j=k:=by lia
  subst this;exact O9q.rfl' _
 .have hs:=a1.size;dsimp only;by_cases hq:q2 > 0
  .rw[if_pos hq];exact II O9q (a1.of (ajM _ _ _ _)) (by lia) (by lia) (a5.rev (by lia) (by lia) a6 O9q) fin
  .rw[if_neg hq];exact II O9q a1 (by lia) (by lia) a5 fin
theorem R9(O9q:Ord lt)(hp:cC n p)(hn:1<=n)(fin:∀ m p',cC n p'->1<=m->m<=n->eh lt p' m->P (m,p')):d9 lt n (kas_count n p) P:=by
 have hs:=hp.size;unfold kas_count;have key:d9 lt n (kas_asc p (n-1) 1) (λm=>1<=m/\m<=n/\eh lt p m/\(m<n->lt (p.getD m 0) (p.getD (m-1) 0)=true)):=by
  have gen:∀ (f a:Nat),1<=a->a+f=n->eh lt p a->d9 lt n (kas_asc p f a) (λm=>1<=m/\m<=n/\eh lt p m/\(m<n->lt (p.getD m 0) (p.getD (m-1) 0)=true)):=by
   intro f
   induction f with
   | zero=>intro a h1 h2 hs;exact#[h1,by lia,hs,λz=>absurd z (by lia)]
   | succ f ih =>
    intro a h1 h2 hs;refine#[hp.below (by lia),hp.below (by lia),?_];cases c:lt (p.getD a 0) (p.getD (a-1) 0) with
    | true =>
     simp only[↓reduceIte];exact#[h1,by lia,hs,λv=>c]
    | false =>
     simp only[adn,↓reduceIte];exact ih (a+1) (by lia) (by lia) (hs.succ O9q h1 c)
  exact gen (n-1) 1 (acS _) (by lia) (eh.one O9q)
 refine qK _ (IF (λm hm=>?_) _ key);obtain⟨m1,m2,ms,mc⟩:=hm;by_cases e:(m == n)=true
 .rw[if_pos e];exact fin m p hp m1 m2 ms
 .rw[if_neg e];have Sa:m<n:=by
   have:m≠n:=by simpa using e
   lia
  have mc:=mc Sa;by_cases h2:m > 1
  .rw[if_pos h2];refine#[hp.below (by lia),hp.below (by lia),?_];cases c:lt (p.getD 0 0) (p.getD (m-1) 0) with
   | true =>
    simp only[↓reduceIte];exact fin m p hp m1 m2 ms
   | false =>
    simp only[adn,↓reduceIte];have eqv:∀ x y,x<m->y<m->lt (p.getD x 0) (p.getD y 0)=false:=λx y hx hy =>
     O9q.tr (ms y (m-1) (by lia) (by lia)) (O9q.tr c (ms 0 x (by lia) hx))
    have fv:cC n (kas_rev p 0 m):=hp.of (ajM _ _ _ _);refine IJ O9q fv m1 (by lia) (λi j iC hj=>?_) fin;rw[mX (by lia),mX (by lia)];by_cases ej:j=m
    .subst ej;rw[if_neg (show ¬ (0<=j/\j<j) by lia)];split
     .exact O9q.tr (O9q.asym mc) (eqv _ _ (by lia) (by lia))
     .have:i=j:=by lia
      subst this;exact O9q.rfl' _
    .rw[if_pos (by lia),if_pos (by lia)];exact eqv _ _ (by lia) (by lia)
  .rw[if_neg h2];have e1:m=1:=by lia
   subst e1;exact IJ O9q hp (acS _) (by lia) ((fS.one O9q).succ O9q (acS _) (O9q.asym mc)) fin
theorem A9(O9q:Ord lt)(hp:cC n p)(hk:k<n)(hs:eh lt p k)(fin:∀ m,m<=k->(∀ i,i<m->lt (p.getD k 0) (p.getD i 0)=false)->(∀ i,m<=i->i<k->lt (p.getD i 0) (p.getD k 0)=false)->P m) :
 ∀ (f l r:Nat),r-l<=f->l<=r->r<=k->(∀ i,i<l->lt (p.getD k 0) (p.getD i 0)=false)->(∀ i,r<=i->i<k->lt (p.getD i 0) (p.getD k 0)=false)->d9 lt n (kas_place p k f l r) P
 | 0,l,r,h1,h2,h3,a,b=>by
  have:l=r:=by lia
  subst this;exact fin l h3 a b
 | f+1,l,r,h1,h2,h3,a,b=>by
  unfold kas_place;by_cases mY:l ≥ r
  .rw[if_pos mY];have:l=r:=by lia
   subst this;exact fin l h3 a b
  .rw[if_neg mY];refine#[hp.below hk,hp.below (by lia),?_];cases c:lt (p.getD k 0) (p.getD ((l+r) / 2) 0) with
   | true =>
    simp only[↓reduceIte];refine A9 O9q hp hk hs fin f l ((l+r) / 2) (by lia) (by lia) (by lia) a λi i1 i2=>?_;exact O9q.tr (O9q.asym c) (hs _ _ i1 i2)
   | false =>
    simp only[adn,↓reduceIte];refine A9 O9q hp hk hs fin f ((l+r) / 2+1) r (by lia) (by lia) h3 (λi i1=>?_) b;exact O9q.tr (hs i ((l+r) / 2) (by lia) (by lia)) c
theorem IK(O9q:Ord lt)(fin:∀ p,cC n p->eh lt p n->P p):∀ (f:Nat) (p:Array Nat) (k:Nat),k+f=n->cC n p->eh lt p k->d9 lt n (kas_bin f p k) P
 | 0,p,k,h,hp,hs=>fin p hp (by rw[<- h];exact hs)
 | f+1,p,k,h,hp,hs=>by
  have sz:=hp.size;unfold kas_bin;refine qK _ (A9 O9q hp (by lia) hs (λm m1 ma mb=>?_) k 0 k (by lia) (by lia) (acS _) (λy z=>absurd z (by lia)) λy z1 z2=>absurd z2 (by lia));refine IK O9q fin f _ (k+1) (by lia) (hp.of (bubble_perm _ _ _)) λi j iC hj=>?_;rw[IG (by lia) m1,IG (by lia) m1];by_cases ei:i=m
  .rw[if_pos ei];by_cases ej:j=m
   .rw[if_pos ej];exact O9q.rfl' _
   .rw[if_neg ej,if_pos (by lia)];exact mb _ (by lia) (by lia)
  .rw[if_neg ei];by_cases ej:j=m
   .rw[if_pos ej,if_neg (by lia)];exact ma _ (by lia)
   .rw[if_neg ej];split
    .split
     .exact hs _ _ (by lia) (by lia)
     .exact hs _ _ (by lia) (by lia)
    .split
     .exfalso;lia
     .exact hs _ _ (by lia) (by lia)
theorem Ba(O9q:Ord lt)(hn:1<=n):d9 lt n (kas_sort n) (λp=>cC n p/\eh lt p n):=by
 unfold kas_sort;have h0:cC n (aep (adu n)):=by unfold cC;simp
 refine qK _ (R9 O9q h0 hn λm p hp m1 m2 ms=>?_);dsimp only;by_cases h:m<n
 .rw[if_pos h];have e:max m 1=m:=by lia
  rw[e];exact IK O9q (λp hp hs=>#[hp,hs]) (n-m) p m (by lia) hp ms
 .rw[if_neg h];have e:m=n:=by lia
  subst e;exact#[hp,ms]
noncomputable def xo{α:Type}(lt:Nat->Nat->Bool):KasT α->α
 | .ret a=>a
 | .ask i j k=>xo lt (k (lt i j))
theorem IL:∀ (t:KasT α),d9 lt n t P->P (xo lt t)
 | .ret _,h=>h
 | .ask i j k,h=>IL (k (lt i j)) h.2.2
theorem Bb:∀ (t:KasT α),d9 lt n t P->d9 lt n t (λa=>a=xo lt t)
 | .ret _,_=>rfl
 | .ask i j k,h=>#[h.1,h.2.1,Bb (k (lt i j)) h.2.2]
noncomputable def cv(lt:Nat->Nat->Bool)(n:Nat):Array Nat:=if n<2 then aep (adu n) else xo lt (kas_sort n)
theorem oQ(O9q:Ord lt):cC n (cv lt n)/\eh lt (cv lt n) n:=by
 unfold cv;split
 .rename_i h;refine#[by unfold cC;simp,λi j iC hj=>?_];have:i=j:=by lia
  subst this;exact O9q.rfl' _
 .rename_i h;exact IL _ (Ba O9q (by lia))
end
end Gz
namespace Gz
open PySem PySem.Spec PyProof.Rows L2
theorem Inv.Sb(I:Inv X pins L H s)(f:dA X pins H l)(Ak:X.s₀.heap.objs.size<=l)(e:s.heap.get? l=O { cls:=.type "list",data:=.seq ai.toArray n })(r:Vals ys ai)(hz:ys.length<=adh):Inv X pins L (upd H l (.lst ys)) s:=by
 obtain⟨c0,c1,c2,c3,c4,c5⟩:=f;have gx:∀ b u,H b=O u->b≠l:=λb u q z=>by rw[z,c0] at q;cases q
 have Sd:∀ b o,X.s₀.heap.get? b=O o->b≠l:=λb o q=>adk (adm (acT q) Ak);refine#[I.ok,I.os,I.bare,#[I.base.keep,I.base.slot,λb o q n hx=>?_,I.base.there,λb xs q=>?_,λb o u q=>?_,λb ps q=>?_],I.loc,I.cell,?_,λx c q=>?_,λp hp=>?_,λa o q=>?_,I.len]
 .rw[aJ (Sd b o q)];exact I.base.free b o q n hx
 .have z:=I.base.fH b xs q;rw[aJ (gx b _ z)];exact z
 .have z:=I.base.gN b o u q;rw[aJ (gx b _ z)];exact z
 .obtain⟨more,z⟩:=I.base.ij b ps q;exact#[more,by rw[aJ (gx b _ z)];exact z]
 .rw[aJ (adR c1)];exact I.free
 .rw[aJ (c4 x c q)];exact I.jb x c q
 .obtain⟨a1,a2,a3⟩:=I.pin p hp;exact#[a1,by rw[aJ (c5 p hp)];exact a2,a3]
 .by_cases ha:a=l
  .subst ha;rw[ao] at q;cases q;exact#[hz,ai,n,r,e]
  .rw[aJ ha] at q;exact (I.ar a o q).jS (λy y y z=>z) (λb z=>by rw[aJ (gx b _ z)];exact z) λb xs z=>by rw[aJ (gx b _ z)];exact z
theorem IM:∀ {a b:List Int},HT.lexLt a b=true->HT.lexLt b a=false
 | [],[],h=>by cases h
 | [],_::_,_=>rfl
 | _::_,[],h=>by cases h
 | x::a,y::b,h=>by
  rw[HT.mL] at h ⊢;by_cases e:x=y
  .subst e;rw[if_pos Y] at h ⊢;exact IM h
  .rw[if_neg e] at h;rw[if_neg (adR e)];have:x<y:=by simpa using h
   simpa using (by walk_at "o" : ¬ y<x)
theorem IP:∀ {a b c:List Int},HT.lexLt b a=false->HT.lexLt c b=false->HT.lexLt c a=false
 | [],[],[],_,_=>rfl
 | [],[],_::_,_,_=>rfl
 | [],_::_,[],_,h=>by cases h
 | [],_::_,_::_,_,_=>rfl
 | _::_,[],_,h,_=>by cases h
 | _::_,_::_,[],_,h=>by cases h
 | x::a,y::b,z::c,h1,h2=>by
  rw[HT.mL] at h1 h2 ⊢;by_cases e1:y=x
  .subst e1;rw[if_pos Y] at h1;by_cases e2:z=y
   .subst e2;rw[if_pos Y] at h2 ⊢;exact IP h1 h2
   .rw[if_neg e2] at h2 ⊢;exact h2
  .rw[if_neg e1] at h1;have IQ:¬ y<x:=by simpa using h1
   by_cases e2:z=y
   .subst e2;rw[if_neg e1];exact h1
   .rw[if_neg e2] at h2;have tq:¬ z<y:=by simpa using h2
    rw[if_neg (by walk_at "o")];simpa using (by walk_at "o" : ¬ z<x)
section
theorem Se(h:Q (a == b) s):adi (model prog w) A (eqBool (.int a t) (.int b u)) Q E s:=SeqAt.EqAt.int_int a t b u prog w E Q h
theorem IS:∀ {ns ms:List Int} {us ws:List acU} {i:Nat},ahQ us ns->ahQ ws ms->fin=decide (ns.length<ms.length)->Q (HT.lexLt ns ms) s->PySem.W.KatLex prog w A b fin Q (us.zip ws) i s:=by
 intro ns
 induction ns with
 | nil =>
  intro ms us ws i r q e h;cases r;cases q with
  | nil=>subst e;exact h
  | cons=>subst e;exact h
 | cons n ns ih =>
  intro ms us ws i r q e h;cases r with
  | cons _ t r =>
   cases q with
   | nil=>subst e;exact h
   | cons m t' q =>
    rw[afR];refine PySem.W.kat_cons (Se (PySem.W.kat_go (λhh=>PySem.W.kat_yes ?_) λhh=>PySem.W.kat_no ?_))
    .have e1:n=m:=by simpa using hh
     subst e1;rw[HT.mL,if_pos Y] at h;exact ih r q (by subst e;simp) h
    .have e1:n≠m:=by simpa using hh
     rw[HT.mL,if_neg e1] at h;cases (b && i == 0) with
     | true=>exact oneLt_int h
     | false=>exact PySem.W.kat_one _ _ (lt_int h)
end
def oR(sp:Sp):List V->List V->Hp->(List V->Hp->Prop)->Prop
 | [],ks,H,Q=>Q ks H
 | x::r,ks,H,Q=>sp [x] H (λk H1=>oR sp r (ks++[k]) H1 Q) E0
def cF(K:acM)(H:Hp):List V->List (List Int)->Prop
 | [],[]=>True
 | k::ks,n::ns=>(∃ p,k = .ref p/\au K H p (n.map V.int)/\n≠[])/\cF K H ks ns
 | _,_=>False
theorem cF.len{K:acM}{H:Hp}:∀ {ks:List V} {ns:List (List Int)},cF K H ks ns->ks.length=ns.length
 | [],[],_=>rfl
 | _::_,_::_,h=>by simp[cF.len h.2]
 | [],_::_,h=>h.elim
 | _::_,[],h=>h.elim
theorem cF.same{K:acM}{H H1:Hp}(e:aj H H1):∀ {ks:List V} {ns:List (List Int)},cF K H ks ns->cF K H1 ks ns
 | [],[],_=>trivial
 | _::_,_::_,h=>by obtain⟨⟨p,a,b,c⟩,d⟩:=h;exact#[#[p,a,QW e b,c],cF.same e d]
 | [],_::_,h=>h.elim
 | _::_,[],h=>h.elim
theorem cF.snoc{K:acM}{H:Hp}{p:ac4}{n:List Int}(hp:au K H p (n.map V.int))(hn:n≠[]):∀ {ks:List V} {ns:List (List Int)},cF K H ks ns->cF K H (ks++[.ref p]) (ns++[n])
 | [],[],_=>#[#[p,Y,hp,hn],trivial]
 | _::_,_::_,h=>#[h.1,cF.snoc hp hn h.2]
 | [],_::_,h=>h.elim
 | _::_,[],h=>h.elim
theorem cF.get{K:acM}{H:Hp}:∀ {ks:List V} {ns:List (List Int)} {i:Nat} {k:V},cF K H ks ns->ks[i]?=O k->∃ p,k = .ref p/\au K H p ((ns.getD i []).map V.int)
 | [],[],_,_,_,e=>by simp at e
 | k::_,n::_,0,_,h,e=>by simp at e;subst e;obtain⟨⟨p,a,b,y⟩,y⟩:=h;exact#[p,a,b]
 | _::_,_::_,i+1,_,h,e=>by have:=cF.get (i:=i) h.2 (by simpa using e);simpa using this
 | [],_::_,_,_,h,_=>h.elim
 | _::_,[],_,_,h,_=>h.elim
section
theorem cF.fH(I:Inv X pins L H s):∀ {ks:List V} {ns:List (List Int)} {us:List acU},cF X.K H ks ns->Vals ks us->∃ fs,alg s.heap us fs/\fs.length=us.length/\∀ v∈fs,∃ i t,v = .int i t
 | [],[],_,_,.nil=>#[[],trivial,Y,λy z=>(nomatch z)]
 | k::ks,n::ns,_,h,.cons r rs=>by
  obtain⟨⟨p,rfl,hp,hn⟩,h⟩:=h;cases r;obtain⟨fs,a,b,c⟩:=cF.fH I h rs;obtain⟨ai,rv,⟨o,ho,hc,m,hd⟩,y⟩:=I.tuple hp;cases n with
  | nil=>exact absurd Y hn
  | cons z zs =>
   cases rv with
   | cons r1 r2 =>
    obtain⟨t,rfl⟩:=r1;refine#[.int z t::fs,PySem.W.KatTups.cons ho hc hd (by simp) a,by simp[b],λv hv=>?_];rcases acZ.mp hv with rfl|hv
    .exact#[_,_,Y]
    .exact c v hv
 | [],_::_,_,h,_=>h.elim
 | _::_,[],_,h,_=>h.elim
noncomputable def cG(kis:List (List Int))(i j:Nat):Bool:=HT.lexLt (kis.getD i []) (kis.getD j [])
theorem lB(kis:List (List Int)):Ord (cG kis):=#[λh=>IM h,λh1 h2=>IP h1 h2]
noncomputable def bI{α:Type}(kis:List (List Int))(d:α)(as:List α):List α:=(cv (cG kis) as.length).toList.map λi=>as.getD i d
theorem oT:(bI kis d as).Perm as:=by
 have h:=(oQ (n:=as.length) (lB kis)).1;have q:=h.map (λi=>as.getD i d);have self:(adu as.length).map (λi=>as.getD i d)=as:=by
  apply aiz
  .simp
  .intro i h1 h2;simp[acO,h2]
 rw[self] at q;exact q
theorem qL:(bI kis d as).length=as.length:=oT.length_eq
theorem IT(hk:kis=as.map f):(bI kis d as).Pairwise (λa b=>HT.lexLt (f b) (f a)=false):=by
 obtain⟨hp,hs⟩:=oQ (n:=as.length) (lB kis);have sz:=hp.size;unfold bI;rw[List.pairwise_map];refine List.pairwise_iff_getElem.mpr λi j hi hj iC=>?_;have dD:i<(cv (cG kis) as.length).size:=by simpa using hi
 have Bc:j<(cv (cG kis) as.length).size:=by simpa using hj
 have q:=hs i j (by lia) (by lia);have e1:(cv (cG kis) as.length).getD i 0=(cv (cG kis) as.length)[i]:=by simp[Array.getD,dD]
 have e2:(cv (cG kis) as.length).getD j 0=(cv (cG kis) as.length)[j]:=by simp[Array.getD,Bc]
 have l1:=cC.below hp (i:=i) (by lia);have l2:=cC.below hp (i:=j) (by lia);rw[e1,e2] at q;rw[e1] at l1;rw[e2] at l2;have q2:HT.lexLt (kis.getD (cv (cG kis) as.length)[j] []) (kis.getD (cv (cG kis) as.length)[i] [])=false:=q;have g:∀ k,k<as.length->kis.getD k []=f (as.getD k d):=λk gW=>by subst hk;simp[acO,gW]
 simp only[Array.getElem_toList];rw[g _ l1,g _ l2] at q2;exact q2
theorem IU(r:Vals xs vs):Vals (bI kis .non xs) ((cv (cG kis) xs.length).toList.map λi=>vs.getD i Value.none):=by
 have hp:=(oQ (n:=xs.length) (lB kis)).1;have gen:∀ l:List Nat,(∀ i∈l,i<xs.length)->Vals (l.map λi=>xs.getD i .non) (l.map λi=>vs.getD i Value.none):=by
  intro l
  induction l with
  | nil=>intro y;exact .nil
  | cons i l ih =>
   intro h;have hi:=h i (.head _);refine .cons ?_ (ih λj hj=>h j (.tail _ hj));have e:xs[i]?=O xs[i]:=acP hi;obtain⟨u,eu,ru⟩:=r.get e;show RelV (xs.getD i .non) (vs.getD i Value.none);rw[acO,acO,eu,e];exact ru
 exact gen _ λi hi=>by simpa using hp.mem_iff.mp hi
theorem IV(F:dH X.prog X.w X.K X.mg X.base CX k fa fd [y] sp)(mS:∀ outer H s e s',¬ CX outer H s E0 e s')(hr:bF k A')(hA:A'.frames=X.A.frames)(hb:Binds X.K fd [y] [])(k1:kS≠X.env.locals)(k2:kS∉X.fs)(k3:kS∈X.ex∨X.s₀.heap.objs.size<=kS)(k4:∀ x c,X.env.cells.lookup x=O c->c≠kS)(k5:∀ p∈X.pn++pl,p.1≠kS)(fQ:∀ (u:acU) (s:ac8) (kvs:List acU) (c:Nat) (C:acU->ac8->Prop),kvs.length<64->adi (model X.prog X.w) A' (call (.ref fa) [u]) (λv s'=>s'.heap.get? kS=O { cls:=.type "list",data:=.seq kvs.toArray c }/\C v { s' with heap:=s'.heap.update kS (adC (·.push v)) }) (λ_ _=>False) s ->
 adi (model X.prog X.w) A' (body u #[]) (λr s'=>r = .yield #[]/\∃ v,C v s') E s) :
 ∀ (r ks:List V) (IW kvs:List acU) (c:Nat) (H:Hp) (s:ac8),ks.length+r.length<64->Inv X (pl++[(kS,{ cls:=.type "list",data:=.seq kvs.toArray c })]) L H s->Vals ks kvs->Vals r IW->oR sp r ks H Qk ->
  adi (model X.prog X.w) A' (forIn IW PUnit.unit body) (λ_ s'=>∃ ko mZ H' c',Inv X (pl++[(kS,{ cls:=.type "list",data:=.seq (mZ:List acU).toArray c' })]) L H' s'/\Vals ko mZ/\ko.length=ks.length+r.length/\Qk ko H') E s
 | [],ks,_,kvs,c,H,s,hl,I,rk,.nil,h=>by rw[ajB];exact acQ #[ks,kvs,H,c,I,rk,by simp,h]
 | x::r,ks,_,kvs,c,H,s,hl,I,rk,.cons (b:=u) rx rr,h=>by
  rw[adw] at hl;rw[ahs];have tu:=rk.length;have h':sp [x] H (λk H1=>oR sp r (ks++[k]) H1 Qk) E0:=h;have e0:mJ X.prog X.w X.K X.mg X.base A' X.stack s H:=#[hA.trans I.jY.frames,I.jY.mod,I.jY.bs,I.jY.bsz,I.jY.ik,I.jY.frf,I.jY.ar,I.jY.bare]
  refine acK (aea (fQ u s kvs c (λv s'=>∃ z H' c',Inv X (pl++[(kS,{ cls:=.type "list",data:=.seq (kvs++[v]).toArray c' })]) L H' s'/\RelV z v/\oR sp r (ks++[z]) H' Qk) (by walk_at "o") ?_) (λq s' hq=>?_) λ_ _ z=>z)
  .refine aji (agr (F.run A' X.stack s H #[[u],[]] [u] [x] _ E0 hr e0 (hb s [u] I.cz Y) (.cons rx .nil) h') λres s' hq=>?_);cases res with
   | error e=>exact absurd hq (mS _ _ _ _ _)
   | ok fl =>
    cases fl with
    | ret v =>
     obtain⟨z,H',I',rz,qz⟩:=I.after hq;have pk:=I'.pin (kS,{ cls:=.type "list",data:=.seq kvs.toArray c }) (ac6 _ (ac6 _ (ada.mpr Y)));obtain⟨c2,o2⟩:∃ c2,(s'.heap.update kS (adC (·.push v))).get? kS=O { cls:=.type "list",data:=.seq (kvs++[v]).toArray c2 }:=#[_,by rw[<- akk];exact aix pk.1 (λa=>a.push v)]
     have I2:Inv X pl L H' { s' with heap:=s'.heap.update kS (adC (·.push v)) }:=I'.oq.turned (it:=kS) (λb o hb e=>(ac9 _ _ (adR hb)).trans e) pk.2.1 k1 k3 k4 k5;refine#[pk.1,z,H',c2,I2.oj λp hp=>?_,rz,qz];rcases adf.mp hp with hp|hp
     .exact I2.pin p (ac6 _ hp)
     .have:p=_:=ada.mp hp;subst this;exact#[o2,pk.2.1,k1,k2,λv z=>nomatch z]
    | next=>exact hq.elim
    | brk=>exact hq.elim
    | cont=>exact hq.elim
  .obtain⟨rfl,v,z,H',c',I2,rz,qz⟩:=hq;show adi _ _ (forIn _ PUnit.unit body) _ _ s';refine aea (IV F mS hr hA hb k1 k2 k3 k4 k5 fQ r (ks++[z]) _ (kvs++[v]) c' H' s' (by rw[ac7,adb];walk_at "o") I2 (rk.append (.cons rz .nil)) rr qz) (λ_ s3 ⟨ko,mZ,H3,c3,I3,r3,l3,q3⟩=>#[ko,mZ,H3,c3,I3,r3,?_,q3]) λ_ _ z=>z;rw[l3,ac7,adb,adw];walk_at "o"
theorem Sf(I:Inv X pins L H s)(hS:ah X.K H a xs)(bB:xs.length<64)(F:dH X.prog X.w X.K X.mg X.base CX k fa fd [y] sp)(mS:∀ outer H s e s',¬ CX outer H s E0 e s')(hr:bF (k+2) X.A)(hb:Binds X.K fd [y] [])(h:oR sp xs [] H λks H2=>∃ kis,cF X.K H2 ks kis/\∀ l,H2 l=J->Q (.ref l) (upd H2 l (.lst (bI kis .non xs)))) :
 adi (model X.prog X.w) X.A (call (.builtin "sorted") [.ref a] [(ac0 "key",.ref fa)]) (EP X pins L Q) X.xe s:=by
 obtain⟨ai,rv,⟨o,n,ho,bj,hdc,hdt⟩,hlen⟩:=I.list hS;have hl:s.heap.IsList a ai.toArray:=#[o,ho,bj,n,hdt]
 have len:ai.length=xs.length:=rv.length.symm;refine call_function_entry_kw kind_sorted plain_sorted entry_sorted (ksk_s1 _ _) ?_;unfold ae8.«sorted»;refine acK (m:=checkCount "sorted" 1 1 _) (acQ ?_);refine acK (collect_list hl ?_ (by rw[aey];walk_at "o"));refine acK (aip ?_ (by rw[aey];walk_at "o"));have IX:((s.heap.push (aej "list" (List.toArray []) 0)).update s.heap.objs.size (adC (· ++ ai.toArray))).objs.size=s.heap.objs.size+1:=by rw[akO,aem]
 have IY:∀ b o,s.heap.get? b=O o->((s.heap.push (aej "list" (List.toArray []) 0)).update s.heap.objs.size (adC (· ++ ai.toArray))).get? b=O o:=λb o e=>by have:=acT e;exact (ac9 _ _ (by walk_at "o")).trans (acL _ e)
 generalize ((s.heap.push (aej "list" (List.toArray []) 0)).update s.heap.objs.size (adC (· ++ ai.toArray)))=h0 at IX IY ⊢;have oL:(h0.push (aej "list" ai.toArray 0)).get? h0.objs.size=O (aej "list" ai.toArray 0):=acV _ rfl;have jr:∀ b o,s.heap.get? b=O o->b≠h0.objs.size/\(h0.push (aej "list" ai.toArray 0)).get? b=O o:=λb o e=>by have:=acT e;exact#[by walk_at "o",acL _ (IY b o e)]
 have Be:(h0.push (aej "list" ai.toArray 0)).objs.size=s.heap.objs.size+2:=by rw[aem,IX]
 have hle:s.heap.objs.size<=h0.objs.size:=by walk_at "o"
 show adi _ X.A.in1 (holding [.ref h0.objs.size] (call (.builtin "list.sort") [.ref h0.objs.size] [(ac0 "key",.ref fa)]) >>= _) _ _ { s with heap:=h0.push (aej "list" ai.toArray 0) };generalize h0.push (aej "list" ai.toArray 0)=h1 at oL jr Be ⊢;generalize h0.objs.size=l at oL jr Be hle ⊢;refine acK (aeq (wpAny_call_entry_kw slot_list_sort #[_,oL,Y] alh ?body (ksk_l1 _ _)))
 case body =>
  show adi (model X.prog X.w) X.A.in1.in1 (ae8.«list.sort» #[[.ref l],[(ac0 "key",.ref fa)]]) _ _ _;rw[ksk_t1];unfold ksk_tree;refine acK (akA oL Y ?_);refine acK (af7 oL Y ?_ (by rw[ac5,aey];walk_at "o") (adt _));obtain⟨e1,xq⟩:∃ e1,(h1.update l (adC λd=>((List.toArray []):Array acU))).get? l=O (aej "list" (List.toArray []) e1):=#[_,aht oL λd=>(List.toArray [])]
  refine acK (aiq xq Y ?_);have qM:∀ b o,s.heap.get? b=O o->b≠l/\(h1.update l (adC λd=>((List.toArray []):Array acU))).get? b=O o:=λb o e=>#[(jr b o e).1,(ac9 _ _ (adR (jr b o e).1)).trans (jr b o e).2]
  have Bf:(h1.update l (adC λd=>((List.toArray []):Array acU))).objs.size=s.heap.objs.size+2:=by rw[akO,Be]
  show adi _ _ _ _ _ { s with heap:=h1.update l (adC λd=>((List.toArray []):Array acU)) };generalize h1.update l (adC λd=>((List.toArray []):Array acU))=h2 at xq qM Bf ⊢;refine acK (ahS ?_ (by show ai.length<=_;rw[aey];walk_at "o"));refine acK (aip ?_ (adt _));refine aeq ?_;show adi _ _ (ksk_rest l (.ref fa) false ai.toArray e1 (.ref (h2.push (aej "tuple" ai.toArray 0)).objs.size)) _ _ { s with heap:=(h2.push (aej "tuple" ai.toArray 0)).push (aej "list" (List.toArray []) 0) };have Bg:∀ b o,h2.get? b=O o->((h2.push (aej "tuple" ai.toArray 0)).push (aej "list" (List.toArray []) 0)).get? b=O o:=λb o e=>acL _ (acL _ e);have oK:((h2.push (aej "tuple" ai.toArray 0)).push (aej "list" (List.toArray []) 0)).get? (h2.push (aej "tuple" ai.toArray 0)).objs.size=O (aej "list" (List.toArray []) 0):=acV _ rfl;have Sg:(h2.push (aej "tuple" ai.toArray 0)).objs.size=s.heap.objs.size+3:=by rw[aem,Bf]
  generalize (h2.push (aej "tuple" ai.toArray 0)).push (aej "list" (List.toArray []) 0)=h4 at Bg oK ⊢;generalize (h2.push (aej "tuple" ai.toArray 0)).objs.size=kS at Sg oK ⊢;have lL:l<s.heap.objs.size+2:=by rw[<- Bf];exact acT xq
  have I4:Inv X pins L H { s with heap:=h4 }:=I.kept (t':=s.toks) λb o e=>Bg b o (qM b o e).2;have fl:=I.fK (H':=H) hle (I.ar.fresh hle);have fk:=I.fK (b:=kS) (H':=H) (by walk_at "o") (I.ar.fresh (by walk_at "o"));have IZ:l≠kS:=by walk_at "o"
  have Sh:X.s₀.heap.objs.size<=l:=acR I.sz hle;have I5:Inv X ((pins++[(l,aej "list" (List.toArray []) e1)])++[(kS,{ cls:=.type "list",data:=.seq ([]:List acU).toArray 0 })]) L H { s with heap:=h4 }:=I4.oj λp hp=>by
   rcases adf.mp hp with hp|hp
   .rcases adf.mp hp with hp|hp
    .exact I4.pin p (ac6 _ hp)
    .have:p=_:=ada.mp hp;subst this;exact#[Bg _ _ xq,fl.1,fl.2.1,fl.2.2.1,λv z=>nomatch z]
   .have:p=_:=ada.mp hp;subst this;exact#[oK,fk.1,fk.2.1,fk.2.2.1,λv z=>nomatch z]
  unfold ksk_rest;refine acK (agO ?_);rw[<- Array.forIn_toList];refine acK (aea (IV (A':=X.A.in1.in1) (kS:=kS) (pl:=pins++[(l,aej "list" (List.toArray []) e1)]) F mS (hr.in1.in1) Y hb fk.2.1 fk.2.2.1 fk.2.2.2.1 fk.2.2.2.2.1 (λp hp=>?_) (λu s' kvs c C hz hx=>?_) xs [] ai [] 0 H _ (by simpa using bB) I5 .nil rv h) (λd s6 h6=>?_) λd d z=>z)
  .rw[<- aet] at hp;rcases adf.mp hp with hp|hp
   .exact fk.2.2.2.2.2 p hp
   .have:p=_:=ada.mp hp;subst this;exact IZ
  .refine acK (aft (aea hx (λv s2 hv=>?_) λd d z=>z.elim));dsimp only;refine acK (af7 hv.1 Y ?_ (by rw[ac5,aey];walk_at "o") (acR (aiW (ali ..)) (by rw[ac5,aey];walk_at "o")));exact acQ #[Y,v,hv.2]
  .obtain⟨ks,kvs,H6,c6,I6,r6,l6,kis,hK,q6⟩:=h6;have lk:kvs.length=ai.length:=by rw[<- r6.length,l6];simp[len]
   have lkk:kis.length=xs.length:=by rw[<- hK.len,l6];simp
   have pk:=I6.pin (kS,{ cls:=.type "list",data:=.seq kvs.toArray c6 }) (ac6 _ (ac6 _ (ada.mpr Y)));have pl:=I6.pin (l,aej "list" (List.toArray []) e1) (ac6 _ (adH _ (ac6 _ (ada.mpr Y))));refine acK (akA pk.1 Y ?_);have tail:∀ (st:SortSt) (out:List acU),(arrOf st).map (·.2)=aep out->alO st=J->Vals (bI kis .non xs) out ->
    adi (model X.prog X.w) X.A.in1.in1 (ksk_tail l false e1 (.ref kS) st) (λfin s'=>∃ v,fin = .done (.ret v)/\EP X pins L Q (.ref l) s') (λe s'=>X.xe e s') s6:=λst out e0 ef hv=>by
    have lo:out.length=xs.length:=by rw[<- hv.length,qL]
    unfold ksk_tail;dsimp only;rw[e0];refine acK (af7 pk.1 Y ?_ (by rw[ac5,aey];walk_at "o") (adt _));refine acK (afW ?_);have Bh:(s6.heap.update kS (adC λd=>((List.toArray []):Array acU))).get? l=O (aej "list" (List.toArray []) e1):=(ac9 _ _ (adR IZ)).trans pl.1;refine acK (aiq Bh Y ?_);refine acK (af7 Bh Y ?_ (adt _) (by show (aep out).size<=_;rw[ac5,aey];walk_at "o"));rw[ef];simp only[bne_self_eq_false,adn,if_false];refine acQ #[_,Y,.ref l,upd H6 l (.lst (bI kis .non xs)),?_,Y,q6 l pl.2.1];have I7:Inv X pins L H6 { s6 with heap:=s6.heap.update kS (adC λd=>((List.toArray []):Array acU)) }:=(I6.oq.oq).turned (it:=kS) (λb o hb e=>(ac9 _ _ (adR hb)).trans e) pk.2.1 fk.2.1 fk.2.2.2.1 fk.2.2.2.2.1 fk.2.2.2.2.2;have I8:Inv X pins L H6 { s6 with heap:=(s6.heap.update kS (adC λd=>((List.toArray []):Array acU))).update l (adC λd=>aep out) }:=L2.Inv.turned (s:={ s6 with heap:=s6.heap.update kS (adC λd=>((List.toArray []):Array acU)) }) (t':=s6.toks) (it:=l) I7 (λb o hb e=>(ac9 _ _ (adR hb)).trans e) pl.2.1 fl.2.1 fl.2.2.2.1 fl.2.2.2.2.1 fl.2.2.2.2.2;obtain⟨c9,Si⟩:∃ c9,((s6.heap.update kS (adC λd=>((List.toArray []):Array acU))).update l (adC λd=>aep out)).get? l=O (aej "list" (aep out) c9):=#[_,aht Bh λd=>aep out]
    exact Inv.Sb I8 #[pl.2.1,fl.2] Sh Si hv (by rw[qL];exact hlen)
   unfold ksk_end;dsimp only;have fin:∀ (st:SortSt) (out:List acU),(arrOf st).map (·.2)=aep out->alO st=J->Vals (bI kis .non xs) out ->
    adi (model X.prog X.w) X.A.in1.in1 (ksk_tail l false e1 (.ref kS) st) (λfin s'=>∃ v,fin=PySem.Fin.done (Flow.ret v)/\adi (model X.prog X.w) X.A.in1 (ret (.ref l)) (λfin s'=>∃ v,fin=PySem.Fin.done (Flow.ret v)/\EP X pins L Q v s') X.xe s') X.xe s6:=λst out e0 ef hv =>
    aC (tail st out e0 ef hv) λfin s' ⟨v,e,q⟩=>#[v,e,acQ #[_,Y,q]]
   have sv:=IU (kis:=kis) rv;by_cases h2:ai.toArray.size<2
   .rw[if_neg (by decide),if_pos h2,if_pos h2];refine acK (acQ ?_);rw[StateT.run_pure];refine acK (acQ ?_);dsimp only;have bM:xs.length<2:=by rw[ac5] at h2;walk_at "o"
    refine fin _ _ ?_ Y sv;show (if false=true then (kvs.toArray.zip ai.toArray).reverse else kvs.toArray.zip ai.toArray).map (·.2)=_;rw[if_neg (by decide)];unfold cv;rw[if_pos bM];apply akP.mp;have self:(adu xs.length).map (λi=>ai.getD i Value.none)=ai:=by
     rw[<- len];apply aiz
     .simp
     .intro i h1 h2;simp[acO,h2]
    simp[akQ,lk];simpa [acO] using self.symm
   .rw[if_neg (by decide),if_neg h2,if_neg h2,if_neg (by decide)];have tq:2<=ai.length:=by rw[ac5] at h2;walk_at "o"
    obtain⟨fs,ht,lf,hi⟩:=cF.fH I6 hK r6;have eT:(agK "int" != agK "tuple")=true:=by decide
    refine acK (akR (T:=.type "int") ht (by walk_at "o") (λv hv=>?_) (by decide) ?_)
    .obtain⟨i,t,rfl⟩:=hi v hv;exact PySem.W.Looks.now
    rw[eT];have ask:(akS ai.length).kasWp (alj X.prog X.w X.A.in1.in1 (ame true) kvs) (λp s'=>s'=s6/\p=cv (cG kis) xs.length) s6:=by
     rw[len];have pv:=Bb _ (Ba (n:=xs.length) (lB kis) (by walk_at "o"));refine A8 (lt:=cG kis) (n:=xs.length) (Ok:=λs'=>s'=s6) (λi j C s' hi hj e q=>?_) (λp s' e q=>#[e,?_]) _ s6 Y pv
     .subst e;have g:∀ i,i<xs.length->∃ p o its' m,kvs.getD i Value.none = .ref p/\s'.heap.get? p=O o/\o.data = .seq (its':List acU).toArray m/\ahQ its' (kis.getD i []):=λi hi=>by
       have hk:i<ks.length:=by rw[l6];simpa using hi
       obtain⟨p,ep,hp⟩:=hK.get (acP hk);obtain⟨u,eu,ru⟩:=r6.get (acP hk);rw[ep] at ru;cases ru;obtain⟨its',tj,⟨o,ho,d,m,hd⟩,d⟩:=I6.tuple hp;exact#[p,o,its',m,by rw[acO,eu];rfl,ho,hd,intsAre_of tj]
      obtain⟨p1,o1,i1,m1,a1,b1,c1,d1⟩:=g i hi;obtain⟨p2,o2,i2,m2,a2,b2,c2,d2⟩:=g j hj;show adi _ _ (keyLt' (ame true) (kvs.getD i Value.none) (kvs.getD j Value.none)) C _ s';rw[a1,a2];have z1:=d1.length;have z2:=d2.length;exact als b1 c1 b2 c2 (by simpa using IS (b:=true) (i:=0) d1 d2 (by simp[z1,z2]) (q s' Y))
     .rw[q];unfold cv;rw[if_neg (by walk_at "o")]
    refine acK (aea (alk (κ:=ame true) (ks:=kvs) (vs:=ai) (Q:=λst s'=>s'=s6/\arrOf st=(cv (cG kis) xs.length).map (akT (kvs.toArray.zip ai.toArray))/\alO st=J)
     lk tq (by walk_at "o") (λp st s' b1 b2 b3 b4=>#[b4.1,by rw[b2,b4.2],b3]) ask) ?_ λd d z=>z)
    rintro ⟨⟨⟩,st⟩ s' ⟨rfl,har,hf⟩;exact fin st _ (akU lk har) hf sv
def I0(K:acM)(sp:Sp)(x:V)(H1:Hp)(Q:VK):Prop:=∃ (a:ac4) (xs:List V),x = .ref a/\ah K H1 a xs/\xs.length<64/\oR sp xs [] H1 λks H2=>∃ kis,cF K H2 ks kis/\∀ l,H2 l=J->Q (.ref l) (upd H2 l (.lst (bI kis .non xs)))
def I9(K:acM)(sp:Sp)(te:TE):TE:=λL H Q=>te L H λx H1=>I0 K sp x H1 Q
theorem Sj(F:dH X.prog X.w X.K X.mg X.base CX k fa fd [y] sp)(mS:∀ outer H s e s',¬ CX outer H s E0 e s')(hr:bF (k+2) X.A)(hb:Binds X.K fd [y] [])(Sk:Gl X f)(Sl:X.mg f=O (.ref fa))(hg:Gl X "sorted")(hm:X.mg "sorted" = J)(he:PE X e te)(Bi:(f == ("__debug__" : Str))=false:=by decide)(hs:adp [e] X.env=(false,eval e X.env)::adp [] X.env:=by rfl)(hq:afn pos (adp [e] X.env)=(false,eval e X.env)::afn pos (adp [] X.env):=by rfl) :
 PE X (.Call (.Name "sorted" p) [e] [#[O "key",.Name f pf,kp]] pos) (I9 X.K sp te):=by
 intro pins s L H Q I h;refine aeu (fI I hg hm Am ?_ (by decide));refine callWith_kw (aC ((ae he af hs) pos pins s L H (AK λx H1=>I0 X.K sp x H1 Q) I h) λus s1 ⟨vs,H1,I1,r,q⟩=>?_) hq (by rw[hs];rfl);obtain⟨x,rfl,a,xs,rfl,hS,bB,q⟩:=Iu q;obtain⟨u,rfl,ru⟩:=vals1 r;cases ru;refine kws_cons (qr I1 Sk Sl (kws_nil ?_) Bi);exact Sf I1 hS bB F mS hr hb q
end
abbrev En:=Option Int
noncomputable def ev:En->V
 | none=>.non
 | some i=>.int i
theorem Bj:ev J = .non:=rfl
theorem Bk(i:Int):ev (O i) = .int i:=rfl
noncomputable def aY:En->En->Bool
 | some x,O y=>decide (y<x)
 | _,_=>false
def aO(H:Hp)(v:V)(a b:En):Prop:=∃ p,v = .ref p/\H p=O (.tup [ev a,ev b])
theorem aO.same(h:aO H v a b)(s:aj H H1):aO H1 v a b:=by obtain⟨p,e,h⟩:=h;exact#[p,e,s _ _ h]
theorem aO.new:aO (upd H p (.tup [ev a,ev b])) (.ref p) a b:=#[p,Y,ao]
noncomputable def hold(a b:En)(n:Int):Bool:=!aY a (O n) && !aY (O n) b
theorem Bl:hold a b n=true↔(∀ x,a=O x->x<=n)/\(∀ y,b=O y->n<=y):=by unfold hold;rcases a with z|x<;>rcases b with z|y<;>simp[aY]
noncomputable def eU:En->En->En
 | some x,O y=>O (if y > x then y else x)
 | some x,J=>O x
 | none,b=>b
noncomputable def eV:En->En->En
 | some x,O y=>O (if y<x then y else x)
 | some x,J=>O x
 | none,b=>b
noncomputable def nums(a b:En):List Int:=[a,b].filterMap id
noncomputable def tx(v:V):Bool:=!decide (v = .non)
theorem Sm(a b:En):([ev a,ev b].filter tx).map (λv=>v)=(nums a b).map V.int:=by rcases a with z|x<;>rcases b with z|y<;>simp[ev,nums,tx]
theorem Sn(a b:En):oM km (nums a b) .non=ev (eU a b):=by rcases a with z|x<;>rcases b with z|y<;>simp[nums,eU,km,oM,ev]
theorem So(a b:En):oM ly (nums a b) .non=ev (eV a b):=by rcases a with z|x<;>rcases b with z|y<;>simp[nums,eV,ly,oM,ev]
theorem Sq(x y:Int):aY (O x) (O y)=decide (y<x):=rfl
theorem Sr(b:En):aY J b=false:=by cases b<;>rfl
theorem Ss(a:En):aY a J=false:=by cases a<;>rfl
def Ja(H:Hp)(v:V)(lo hi:En):Prop:=(aY lo hi=true->v = .non)/\(aY lo hi=false->aO H v lo hi)
theorem Jb{K:acM}{H:Hp}{p:ac4}{a b:En}{Q:VK}{tt:TT}{te:TE}(hp:H p=O (.tup [ev a,ev b]))(ht:∀ x H Q,Q (tx x) H->tt [O x] H Q)(he:∀ x H Q,Q x H->te [O x] H Q)
 (q:∀ l,H l=J->Q (.ref l) (upd H l (.lst ((nums a b).map V.int)))):oG (kZ K p) [] tt te H Q:=by
 refine cM (xs:=[ev a,ev b]) AG bg (lq (p:=tx) (f:=λv=>v) (au.of hp) (λx y Q h=>ht x H Q h) (λx y y Q h=>he x H Q h) ?_);rw[adl,Sm];exact q
end Gz
namespace Gz
open L2
abbrev S2:=En × En
noncomputable def hs(s:S2)(n:Int):Bool:=hold s.1 s.2 n
def fz(s:S2):Prop:=aY s.1 s.2=false
noncomputable def dv:En->List Int
 | none=>[0,0]
 | some x=>[1,x]
def gA(a b:En):Prop:=a=J ∨ ∃ x y,a=O x/\b=O y/\x<=y
theorem Su:HT.lexLt (dv b) (dv a)=false↔gA a b:=by
 rcases a with _|x<;>rcases b with _|y
 .exact#[λ_=>.inl rfl,λ_=>rfl]
 .exact#[λ_=>.inl rfl,λ_=>rfl]
 .refine#[λh=>(nomatch h),λh=>?_];rcases h with h|⟨_,_,_,h,_⟩<;>cases h
 .have e:HT.lexLt (dv (O y)) (dv (O x))=decide (y<x):=by
   show HT.lexLt [1,y] [1,x]=_;rw[HT.mL,if_pos Y,HT.mL];split
   .rename_i e;subst e;rw[HT.PM];simp
   .rfl
  rw[e];constructor
  .intro h;have:¬ y<x:=by simpa using h
   exact .inr #[x,y,Y,Y,by lia]
  .intro h;rcases h with h|⟨x',y',e1,e2,h⟩
   .cases h
   .cases e1;cases e2;simpa using h
theorem gA.refl(a:En):gA a a:=by
 rcases a with y|x
 .exact .inl rfl
 .exact .inr #[x,x,Y,Y,adZ _]
noncomputable def gap(p q:S2):Bool:=match p.2,q.1 with
 | some h,O l=>decide (l > h+1)
 | _,_=>false
noncomputable def qN:En->En->En
 | some x,O y=>O (if y<x then y else x)
 | _,_=>J
noncomputable def jt:En->En->En
 | some x,O y=>O (if y > x then y else x)
 | _,_=>J
noncomputable def lC(p q:S2):S2:=(qN p.1 q.1,jt p.2 q.2)
theorem Sv(h:gA a b):qN a b=a:=by
 rcases h with rfl|⟨x,y,rfl,rfl,h⟩
 .cases b<;>rfl
 .simp only[qN];rw[if_neg (by lia)]
theorem m5:hs s n=true↔(∀ x,s.1=O x->x<=n)/\(∀ y,s.2=O y->n<=y):=Bl
theorem Sw(hp:fz p)(hq:fz q)(hl:gA p.1 q.1)(hg:gap p q=false):(hs p n || hs q n)=hs (lC p q) n:=by obtain⟨a,b⟩:=p;obtain⟨c,d⟩:=q;rw[aeY,afD,m5,m5,m5];simp only[fz,gap,lC,gA] at *;rcases a with v|x<;>rcases b with v|y<;>rcases c with v|z<;>rcases d with v|w<;>simp[aY,qN,jt] at *<;>(try (constructor<;>intro h))<;>(try split at *)<;>(try split)<;>lia
def Bm(p q:S2):Prop:=∃ h l,p.2=O h/\q.1=O l/\h+2<=l
def Apart:List S2->Prop
 | x::y::r=>Bm x y/\Apart (y::r)
 | _=>True
theorem Apart.snoc:∀ {i:List S2} {p q:S2},Apart (i++[p])->Bm p q->Apart (i++[p,q])
 | [],p,q,_,h=>#[h,trivial]
 | [x],p,q,h,h'=>#[h.1,h',trivial]
 | x::y::r,p,q,h,h'=>#[h.1,Apart.snoc (i:=y::r) h.2 h']
theorem Apart.last:∀ {i:List S2} {p q:S2},Apart (i++[p])->p.1=q.1->Apart (i++[q])
 | [],p,q,_,h=>trivial
 | [x],p,q,h,h'=>by obtain⟨⟨a,b,e1,e2,e3⟩,z⟩:=h;exact#[#[a,b,e1,h' ▸ e2,e3],trivial]
 | x::y::r,p,q,h,h'=>#[h.1,Apart.last (i:=y::r) h.2 h']
def iD(l:List En)(e:En):Prop:=e∈l/\∀ x∈l,gA e x
def gB(a b:En):Prop:=b=J ∨ ∃ x y,a=O x/\b=O y/\x<=y
def ju(l:List En)(e:En):Prop:=e∈l/\∀ x∈l,gB x e
theorem gA.Bn(h:gA a b)(h':gA b a):a=b:=by
 rcases h with rfl|⟨x,y,rfl,rfl,h1⟩
 .rcases h' with h'|⟨x,y,e,e',z⟩
  .exact h'.symm
  .cases e'
 .rcases h' with h'|⟨x',y',e,e',h2⟩
  .cases h'
  .cases e;cases e';congr 1;lia
theorem gB.Bn(h:gB a b)(h':gB b a):a=b:=by
 rcases h with rfl|⟨x,y,rfl,rfl,h1⟩
 .rcases h' with h'|⟨x,y,e,e',z⟩
  .exact h'
  .cases e
 .rcases h' with h'|⟨x',y',e,e',h2⟩
  .cases h'
  .cases e;cases e';congr 1;lia
theorem gB.refl(a:En):gB a a:=by
 rcases a with y|x
 .exact .inl rfl
 .exact .inr #[x,x,Y,Y,adZ _]
theorem gB.trans(h:gB a b)(h':gB b c):gB a c:=by
 rcases h' with rfl|⟨x',y',rfl,rfl,h2⟩
 .exact .inl rfl
 .rcases h with h|⟨x,y,rfl,e,h1⟩
  .cases h
  .cases e;exact .inr #[_,_,Y,Y,by lia]
theorem iD.uniq(h:iD l a)(h':iD l' b)(e:∀ x,x∈l↔x∈l'):a=b:=(h.2 b ((e b).mpr h'.1)).Bn (h'.2 a ((e a).mp h.1))
theorem ju.uniq(h:ju l a)(h':ju l' b)(e:∀ x,x∈l↔x∈l'):a=b:=(h'.2 a ((e a).mp h.1)).Bn (h.2 b ((e b).mpr h'.1))
theorem Sx(a b:En):gB a (jt a b)/\gB b (jt a b)/\(jt a b=a∨jt a b=b):=by rcases a with z|x<;>rcases b with z|y<;>simp[jt,gB];split<;>lia
abbrev tD:=Option (List S2 × S2)
noncomputable def eW:tD->S2->tD
 | none,q=>O ([],q)
 | some (i,p),q=>if gap p q then O (i++[p],q) else O (i,lC p q)
noncomputable def iU:tD->List S2
 | none=>[]
 | some (i,p)=>i++[p]
structure oU(ps:List S2)(i:List S2)(p:S2):Prop where
 ap:Apart (i++[p])
 ok:∀ s∈i++[p],fz s
 held:∀ n,((i++[p]).any λs=>hs s n)=ps.any λs=>hs s n
 lo:iD (ps.map (·.1)) ((i++[p]).headD p).1
 hi:ju (ps.map (·.2)) p.2
 at_:p.1∈ps.map (·.1)
theorem oU.step(h:oU ps i p)(hq:fz q)(hl:∀ s∈ps,gA s.1 q.1):∃ i' p',eW (O (i,p)) q=O (i',p')/\oU (ps++[q]) i' p':=by
 have hp:fz p:=h.ok p (by simp);have dX:gA p.1 q.1:=by obtain⟨s,hs,e⟩:=ac2.mp h.at_;rw[<- e];exact hl s hs
 have Jc:iD ((ps++[q]).map (·.1)) ((i++[p]).headD p).1:=by
  refine#[by rw[adx];exact adH _ h.lo.1,λx hx=>?_];rw[adx] at hx;rcases adf.mp hx with hx|hx
  .exact h.lo.2 x hx
  .have:x=q.1:=by simpa using hx
   subst this;obtain⟨s,hs,e⟩:=ac2.mp h.lo.1;rw[<- e];exact hl s hs
 simp only[eW];by_cases hg:gap p q=true
 .rw[if_pos hg];refine#[_,_,Y,?_];obtain⟨a,b,e1,e2,e3⟩:Bm p q:=by
   unfold gap at hg;split at hg
   .rename_i x y e1 e2;refine#[x,y,e1,e2,?_];have:y > x+1:=by simpa using hg
    lia
   .cases hg
  have hd:((i++[p]++[q]).headD q).1=((i++[p]).headD p).1:=by cases i<;>rfl
  refine#[by rw[aet];exact h.ap.snoc #[a,b,e1,e2,e3],λs hs=>?_,λn=>?_,by rw[hd];exact Jc,?_,?_]
  .rcases adf.mp hs with hs|hs
   .exact h.ok s hs
   .have:s=q:=by simpa using hs
    subst this;exact hq
  .have hh:=h.held n;rw[afY] at hh;rw[afY,afY,afY,hh]
  .refine#[by simp,λx hx=>?_];rw[adx] at hx;rcases adf.mp hx with hx|hx
   .have z:=h.hi.2 x hx;rw[e1] at z;rcases oV:q.2 with _|y
    .exact .inl rfl
    .have gP:=hq;unfold fz at gP;rw[e2,oV] at gP;have:¬ y<b:=by simpa [aY] using gP
     rcases z with z|⟨u,v,rfl,ev,h1⟩
     .cases z
     .cases ev;exact .inr #[_,_,Y,Y,by lia]
   .have:x=q.2:=by simpa using hx
    subst this;exact gB.refl _
  .simp
 .have AN:gap p q=false:=by simpa using hg
  rw[if_neg hg];refine#[_,_,Y,?_];have e1:(lC p q).1=p.1:=Sv dX;have hd:((i++[lC p q]).headD (lC p q)).1=((i++[p]).headD p).1:=by
   cases i with
   | nil=>exact e1
   | cons x r=>rfl
  obtain⟨m1,m2,m3⟩:=Sx p.2 q.2;refine#[h.ap.last e1.symm,λs hs=>?_,λn=>?_,by rw[hd];exact Jc,#[?_,λx hx=>?_],?_]
  .rcases adf.mp hs with hs|hs
   .exact h.ok s (adH _ hs)
   .have:s=lC p q:=by simpa using hs
    subst this;unfold fz at *;rw[e1];show aY p.1 (jt p.2 q.2)=false;rcases m3 with m3|m3
    .rw[m3];exact hp
    .rw[m3];rcases dX with z|⟨x,y,z1,z2,z3⟩
     .rw[z];exact Sr _
     .rw[z1];rw[z2] at hq;rcases oV:q.2 with _|w
      .exact Ss _
      .rw[oV] at hq;simp[aY] at hq ⊢;lia
  .have hh:=h.held n;rw[afY] at hh ⊢;rw[afY,<- hh];have k:=Sw (n:=n) hp hq dX AN;simp only[aer,List.any_nil,alL];rw[<- k,Bool.or_assoc]
  .rw[adx];show jt p.2 q.2∈_;rcases m3 with m3|m3
   .rw[m3];exact adH _ h.hi.1
   .rw[m3];simp
  .rw[adx] at hx;rcases adf.mp hx with hx|hx
   .exact (h.hi.2 x hx).trans m1
   .have:x=q.2:=by simpa using hx
    subst this;exact m2
  .rw[e1,adx];exact adH _ h.at_
noncomputable def xr(zs:List S2):tD:=zs.foldl eW J
theorem Jd:∀ (rest ps i:List S2) (p:S2),oU ps i p->(∀ s∈rest,fz s)->(ps++rest).Pairwise (λa b=>gA a.1 b.1)->∃ i' p',rest.foldl eW (O (i,p))=O (i',p')/\oU (ps++rest) i' p'
 | [],ps,i,p,h,_,_=>#[i,p,Y,by rw[aiX];exact h]
 | q::rest,ps,i,p,h,ho,hp=>by
  obtain⟨i1,p1,e,h1⟩:=h.step (ho q (.head _)) λs hs=>(ajr.mp hp).2.2 s hs q (.head _);have ea:ps++q::rest=(ps++[q])++rest:=by simp
  rw[ea] at hp;obtain⟨i2,p2,e2,h2⟩:=Jd rest (ps++[q]) i1 p1 h1 (λs hs=>ho s (.tail _ hs)) hp;refine#[i2,p2,?_,by rw[ea];exact h2];rw[afV,e];exact e2
theorem Sy(ho:∀ s∈zs,fz s)(hp:zs.Pairwise (λa b=>gA a.1 b.1)):(zs=[]/\xr zs=J) ∨ ∃ i p,xr zs=O (i,p)/\oU zs i p:=by
 cases zs with
 | nil=>exact .inl #[Y,Y]
 | cons q rest =>
  right;have h0:oU [q] [] q:=#[trivial,λs hs=>by
   have:s=q:=by simpa using hs
   subst this;exact ho s (.head _),λn=>rfl,#[by simp,λx hx=>by
    have:x=q.1:=by simpa using hx
    subst this;exact gA.refl _],#[by simp,λx hx=>by
    have:x=q.2:=by simpa using hx
    subst this;exact gB.refl _],by simp]
  obtain⟨i,p,e,h⟩:=Jd rest [q] [] q h0 (λs hs=>ho s (.tail _ hs)) hp;exact#[i,p,e,h]
noncomputable def m6(as:List S2):List S2:=iU (xr (bI (as.map λs=>dv s.1) (J,J) as))
structure SA(as gs:List S2):Prop where
 ap:Apart gs
 ok:∀ s∈gs,fz s
 held:∀ n,(gs.any λs=>hs s n)=as.any λs=>hs s n
 nil:gs=[]↔as=[]
 lo:∀ g,gs.head?=O g->iD (as.map (·.1)) g.1
 hi:∀ g,gs.getLast?=O g->ju (as.map (·.2)) g.2
theorem Je(ho:∀ s∈as,fz s):SA as (m6 as):=by
 have pm:(bI (as.map λs=>dv s.1) (J,J) as).Perm as:=oT;have sr:=IT (kis:=as.map λs=>dv s.1) (d:=((J,J):S2)) (as:=as) (f:=λs=>dv s.1) rfl;unfold m6;generalize bI (as.map λs=>dv s.1) (J,J) as=zs at pm sr ⊢;rcases Sy (λs hs=>ho s (pm.mem_iff.mp hs)) (sr.imp λh=>Su.mp h) with ⟨rfl,e⟩|⟨i,p,e,h⟩
 .have:as=[]:=by simpa using pm.symm.eq_nil
  subst this;rw[e];exact#[trivial,λs hs=>(nomatch hs),λy=>rfl,Iff.rfl,λg hg=>(nomatch hg),λg hg=>(nomatch hg)]
 .rw[e];have SD:∀ n,(zs.any λs=>hs s n)=as.any λs=>hs s n:=λn=>by rw[aeY,aeb,aeb];exact#[λ⟨x,hx,q⟩=>#[x,pm.mem_iff.mp hx,q],λ⟨x,hx,q⟩=>#[x,pm.mem_iff.mpr hx,q]]
  refine#[h.ap,h.ok,λn=>(h.held n).trans (SD n),?_,λg hg=>?_,λg hg=>?_]
  .constructor
   .intro z;simp[iU] at z
   .intro z;subst z;have z:=pm.eq_nil;subst z;cases e
  .have e2:((i++[p]).headD p)=g:=by show ((i++[p]).headD p)=g;have:(i++[p]).head?=O g:=hg;rw[List.headD_eq_head?_getD,this];rfl
   have z:=h.lo;rw[e2] at z;exact#[((pm.map _).mem_iff).mp z.1,λx hx=>z.2 x ((pm.map _).mem_iff.mpr hx)]
  .have e2:p=g:=by have:(i++[p]).getLast?=O g:=hg;rw[List.getLast?_concat] at this;exact Option.some.inj this
   subst e2;have z:=h.hi;exact#[((pm.map _).mem_iff).mp z.1,λx hx=>z.2 x ((pm.map _).mem_iff.mpr hx)]
open PySem in
def aX(H:Hp):List V->List S2->Prop
 | [],[]=>True
 | v::vs,s::ss=>aO H v s.1 s.2/\aX H vs ss
 | _,_=>False
section
theorem aX.same(e:aj H H1):∀ {vs:List V} {ss:List S2},aX H vs ss->aX H1 vs ss
 | [],[],_=>trivial
 | _::_,_::_,h=>#[h.1.same e,aX.same e h.2]
 | [],_::_,h=>h.elim
 | _::_,[],h=>h.elim
theorem aO.put(h:aO H v a b)(hl:H l=O (.lst ys)):aO (upd H l o) v a b:=by obtain⟨p,e,h⟩:=h;exact#[p,e,by rw[aJ (zF h hl λz=>nomatch z)];exact h]
theorem aX.put(hl:H l=O (.lst ys)):∀ {vs:List V} {ss:List S2},aX H vs ss->aX (upd H l o) vs ss
 | [],[],_=>trivial
 | _::_,_::_,h=>#[h.1.put hl,aX.put hl h.2]
 | [],_::_,h=>h.elim
 | _::_,[],h=>h.elim
theorem aX.len:∀ {vs:List V} {ss:List S2},aX H vs ss->vs.length=ss.length
 | [],[],_=>rfl
 | _::_,_::_,h=>by simp[aX.len h.2]
 | [],_::_,h=>h.elim
 | _::_,[],h=>h.elim
theorem aX.get:∀ {vs:List V} {ss:List S2} {i:Nat} {v:V},aX H vs ss->vs[i]?=O v->∃ s,ss[i]?=O s/\aO H v s.1 s.2
 | [],[],_,_,_,e=>by simp at e
 | _::_,s::_,0,_,h,e=>by simp at e;subst e;exact#[s,Y,h.1]
 | _::_,_::_,i+1,_,h,e=>by obtain⟨s,a,b⟩:=aX.get (i:=i) h.2 (by simpa using e);exact#[s,by simpa using a,b]
 | [],_::_,_,_,h,_=>h.elim
 | _::_,[],_,_,h,_=>h.elim
theorem aX.app:∀ {vs ws:List V} {ss ts:List S2},aX H vs ss->aX H ws ts->aX H (vs++ws) (ss++ts)
 | [],_,[],_,_,h=>h
 | _::_,_,_::_,_,h,h'=>#[h.1,aX.app h.2 h']
 | [],_,_::_,_,h,_=>h.elim
 | _::_,_,[],_,h,_=>h.elim
theorem aX.snoc_inv:∀ {vs:List V} {ss:List S2} {s:S2},aX H vs (ss++[s])->∃ ws v,vs=ws++[v]/\aX H ws ss/\aO H v s.1 s.2
 | [],[],_,h=>h.elim
 | [],_::_,_,h=>h.elim
 | v::[],[],s,h=>#[[],v,Y,trivial,h.1]
 | _::_::_,[],_,h=>h.2.elim
 | v::vs,t::ss,s,h=>by obtain⟨ws,u,e,a,b⟩:=aX.snoc_inv (vs:=vs) (ss:=ss) h.2;exact#[v::ws,u,by rw[e];rfl,#[h.1,a],b]
theorem aX.sort(h:aX H xs as):aX H (bI kis .non xs) (bI kis (J,J) as):=by
 have hl:=h.len;have hp:=(oQ (n:=xs.length) (lB kis)).1;unfold bI;rw[<- hl];have gen:∀ l:List Nat,(∀ i∈l,i<xs.length)->aX H (l.map λi=>xs.getD i .non) (l.map λi=>as.getD i (J,J)):=by
  intro l
  induction l with
  | nil=>intro y;exact trivial
  | cons i l ih =>
   intro q;have hi:=q i (.head _);obtain⟨s,es,hs⟩:=h.get (acP hi);refine#[?_,ih λj hj=>q j (.tail _ hj)];show aO H (xs.getD i .non) (as.getD i (J,J)).1 (as.getD i (J,J)).2;rw[acO,acO,es,acP hi];exact hs
 exact gen _ λi hi=>by simpa using hp.mem_iff.mp hi
noncomputable def xt(H:Hp):V->V
 | .ref p=>(match H p with|some (.tup (x::_))=>x|_=>.non)
 | _=>.non
noncomputable def xu(H:Hp):V->V
 | .ref p=>(match H p with|some (.tup (_::x::_))=>x|_=>.non)
 | _=>.non
theorem aO.fst(h:aO H v a b):xt H v=ev a:=by obtain⟨p,rfl,h⟩:=h;simp only[xt,h]
theorem aO.snd(h:aO H v a b):xu H v=ev b:=by obtain⟨p,rfl,h⟩:=h;simp only[xu,h]
theorem aX.fst:∀ {vs:List V} {ss:List S2},aX H vs ss->vs.map (xt H)=ss.map λs=>ev s.1
 | [],[],_=>rfl
 | _::_,_::_,h=>by rw[adg,adg,h.1.fst,aX.fst h.2]
 | [],_::_,h=>h.elim
 | _::_,[],h=>h.elim
theorem aX.snd:∀ {vs:List V} {ss:List S2},aX H vs ss->vs.map (xu H)=ss.map λs=>ev s.2
 | [],[],_=>rfl
 | _::_,_::_,h=>by rw[adg,adg,h.1.snd,aX.snd h.2]
 | [],_::_,h=>h.elim
 | _::_,[],h=>h.elim
theorem aX.mem:∀ {vs:List V} {ss:List S2} {v:V},aX H vs ss->v∈vs->∃ s∈ss,aO H v s.1 s.2:=λh hv=>by obtain⟨i,hi,e⟩:=ajp.mp hv;obtain⟨s,es,q⟩:=aX.get h (by rw[acP hi,e]);exact#[s,ads es,q]
theorem Bo:∀ (es:List En),qB .non (es.map ev)=decide ((J:En)∈es)
 | []=>rfl
 | e::es=>by
  have ih:=Bo es;unfold qB at ih ⊢;rw[adg,aer,ih];rcases e with y|x
  .simp[ev,j7]
  .simp[ev,j7]
theorem Bp:∀ (es:List En),(es.map ev).all j6=true
 | []=>rfl
 | e::es=>by rw[adg,af6,Bp es];rcases e with _|x<;>rfl
theorem Bq:∀ {es:List En},(J:En)∉es->es.map ev=(es.filterMap id).map V.int
 | [],_=>rfl
 | e::es,h=>by
  rcases e with y|x
  .exact absurd (.head _) h
  .have ih:=Bq (es:=es) λz=>h (.tail _ z);rw[adg,ih];rfl
theorem Jf(h:(J:En)∉es)(h0:es≠[]):es.filterMap id≠[]:=by
 cases es with
 | nil=>exact absurd Y h0
 | cons e r =>
  rcases e with y|x
  .exact absurd (.head _) h
  .intro z;simp at z
theorem Jg(h:(J:En)∉es)(h0:es≠[]):iD es (O (ly (es.filterMap id))):=by
 have mem:∀ x,O x∈es↔x∈es.filterMap id:=λx=>by simp
 have bp:es.filterMap id≠[]:=by
  cases es with
  | nil=>exact absurd Y h0
  | cons e r =>
   rcases e with y|x
   .exact absurd (.head _) h
   .intro z;simp at z
 obtain⟨m1,m2⟩:=Im bp;refine#[(mem _).mpr m1,λx hx=>?_];rcases x with y|x
 .exact absurd hx h
 .exact .inr #[_,_,Y,Y,m2 x ((mem x).mp hx)]
theorem Jh(h:(J:En)∉es)(h0:es≠[]):ju es (O (km (es.filterMap id))):=by
 have mem:∀ x,O x∈es↔x∈es.filterMap id:=λx=>by simp
 have bp:es.filterMap id≠[]:=by
  cases es with
  | nil=>exact absurd Y h0
  | cons e r =>
   rcases e with y|x
   .exact absurd (.head _) h
   .intro z;simp at z
 obtain⟨m1,m2⟩:=Il bp;refine#[(mem _).mpr m1,λx hx=>?_];rcases x with y|x
 .exact absurd hx h
 .exact .inr #[_,_,Y,Y,m2 x ((mem x).mp hx)]
theorem xw(h:(J:En)∈es):iD es J:=#[h,λy y=>.inl rfl]
theorem xA(h:(J:En)∈es):ju es J:=#[h,λy y=>.inl rfl]
theorem SE(a b:En):iD [a,b] (qN a b):=by
 rcases a with z|x<;>rcases b with z|y
 .exact xw (by simp)
 .exact xw (by simp)
 .exact xw (by simp)
 .exact Jg (es:=[O x,O y]) (by simp) (by simp)
theorem SF(a b:En):ju [a,b] (jt a b):=by
 rcases a with z|x<;>rcases b with z|y
 .exact xA (by simp)
 .exact xA (by simp)
 .exact xA (by simp)
 .exact Jh (es:=[O x,O y]) (by simp) (by simp)
def xB(H:Hp)(v:V)(as:List S2):Prop:=(as=[]->v = .non)/\(as≠[]->∃ lo hi,aO H v lo hi/\iD (as.map (·.1)) lo/\ju (as.map (·.2)) hi)
theorem xB.two(h:xB H v [p,q]):aO H v (lC p q).1 (lC p q).2:=by obtain⟨lo,hi,a,b,c⟩:=h.2 (by simp);have e1:lo=qN p.1 q.1:=b.uniq (SE p.1 q.1) λy=>Iff.rfl;have e2:hi=jt p.2 q.2:=c.uniq (SF p.2 q.2) λy=>Iff.rfl;rw[e1,e2] at a;exact a
theorem filter_all(l:List V):l.filter (λy=>true)=l:=aeS.mpr λy y=>rfl
open PySem
theorem Ji:∀ (zs:List S2) (R:tD),(iU (zs.foldl eW R)).length<=(iU R).length+zs.length
 | [],R=>by simp
 | z::zs,R=>by
  rw[afV];have h:=Ji zs (eW R z);have h2:(iU (eW R z)).length<=(iU R).length+1:=by
   rcases R with y|⟨i,p⟩
   .simp[eW,iU]
   .simp only[eW];split<;>simp[iU]
  rw[adw];lia
theorem SG(as:List S2):(m6 as).length<=as.length:=by unfold m6 xr;have h:=Ji (bI (as.map λs=>dv s.1) (J,J) as) J;rw[qL] at h;have e:(iU J).length=0:=rfl;lia
end
end Gz
namespace Gz
open PySem PySem.Spec PyProof.Rows L2
section
end
abbrev W2:=Option S2
def fA(H:Hp)(v:V):W2->Prop
 | none=>v = .non
 | some s=>aO H v s.1 s.2
theorem fA.same(h:fA H v w)(s:aj H H'):fA H' v w:=by
 cases w with
 | none=>exact h
 | some a=>exact aO.same h s
end Gz
namespace Gz
open PySem L2 PySem.W PySem.Spec PyProof.Rows
def Bt(n:Nat)(x:Int):Prop:=afG x<=n
def Jj(ns:List Int):Prop:=ns.length<=63/\∀ x∈ns,Bt 1048576 x
theorem weigh:∀ (ns:List Int) (x:Int),x∈ns->afG x<=afI (ns.map PySem.W.WData.int)
 | [],x,h=>by simp at h
 | y::ns,x,h=>by
  have e:afI ((y::ns).map PySem.W.WData.int)=(if y == 0 then 0 else y.natAbs.log2+1)+1+afI (ns.map PySem.W.WData.int):=by rw[adg];simp only[afI,ajs]
  rw[e];rcases acZ.mp h with rfl|h
  .unfold afG;lia
  .have:=weigh ns x h;lia
theorem SH{ns:List Int}(h:alE [PySem.W.WData.list (ns.map PySem.W.WData.int)]=true):∀ x∈ns,Bt 1048576 x:=by
 intro x hx;have h1:ag2 (PySem.W.WData.list (ns.map PySem.W.WData.int))=true:=by
  have:(ag2 (PySem.W.WData.list (ns.map PySem.W.WData.int)) && true)=true:=h
  rwa [ahe] at this
 unfold ag2 at h1;rw[ad2] at h1;have h2:=of_decide_eq_true h1.2;have h3:=weigh ns x hx;simp only[ajs] at h2;unfold Bt;lia
theorem SJ{l:ai4}{k:Nat}{q:adP}{loose:List Str}{XP:(Str->Option acU)->ae7->Prop}{YP:aes->ae7->Prop}{d:DefRec}{K:Params->acM}{CX:aes->iu}{sp:aes->Sp}{x:Str}
 (most:l.most=O 63) (plain:d.params.defaults=[]) (room:bF k ak9)
 (SK:∀ (w:aes) (h:ae7),YP w h->(K w.params).In h)
 (F:∀ (w:aes) (mg:Str->Option acU) (fa:ac4) (h:ae7),(K w.params).In h->h.Ns ac3 mg->mg d.name=O (.ref fa) ->
   ∃ fd:agl,(∀ (s:ac8) (u:acU),akg s fd #[[u],[]] [(x,u)]) /\
    ∀ base:ae7,(K w.params).In base->base.Ns ac3 mg->dH l.prog w (K w.params) mg base (CX w) k fa fd [x] (sp w))
 (law:∀ (w:aes) (H:Hp) (a:ac4) (ns:List Int),Jj ns->ah (K w.params) H a (ns.map V.int)->sp w [.ref a] H (λv y=>v = .bl true) λy y y=>False)
 (calm:∀ (w:aes) (H:Hp) (s:ac8) (e:acU) (s':ac8),CX w [] H s (λy y y=>False) e s'->False) :
 alP q loose XP YP l.row.toRowW d [] (λf vs=>PySem.call f vs):=by
 intro w t₀ t mg mb G Y9q f ob pm cd doc dV kV look data code defs at_ gens args vals as pre lay y well y;have e1:dV = .none:=Dflts.none defs plain;have e2:kV = .none:=Dflts.noKw defs;cases e1;cases e2;obtain⟨a,vs,ns,e3,e4,obj,are,len⟩:=Al.Qn most pre well;cases e3;cases e4;have KX:=SK w _ Y9q;obtain⟨fd,bind,ok⟩:=F w mg f _ KX G.T.g at_;have run:=Qr KX G.T.g G.T.b G.T.builtins G.T.nolimit gens obj are (acR len (by decide)) room ok bind
  (λH y S=>law w H a ns #[len,SH lay] S) λH e s'=>calm w H t e s'
 refine enter_call (agr run ?_);rintro r s' ⟨rfl,old,os,bare⟩;exact#[.inl #[.bool true,.bool true,[],Y,λy=>rfl,.bool true,Al.Qq l _,λy=>#[List.Pairwise.nil,λy z=>(nomatch z)]],old,os,bare]
theorem aD(I:L2.St->Hp->Prop)(h1:∀ N:L2.St->Hp->Prop,(∀ L H,I L H->N L H)->a { D with nx:=N } L H)(h2:∀ R:TS,R=b->∀ L H,I L H->R D L H):zK a b D L H:=h1 _ (h2 _ Y)
noncomputable def pre(f:P2->Int)(ps:List P2)(i:Nat):Int:=((ps.take i).map f).sum
theorem gX(f:P2->Int)(ps:List P2)(h:i<ps.length):pre f ps (i+1)=pre f ps i+f (aF ps i):=by unfold pre aF;rw[aeh,adx,List.sum_append,acO,acP h];simp only[aj1,adg,ag0,aj2,List.sum_nil,Int.add_zero,ag8]
noncomputable def bL(ps:List P2)(i j:Nat):Int:=if i<=j then pre (·.2) ps j-pre (·.2) ps i else pre (·.1) ps j-pre (·.1) ps i
def dw(ps:List P2):Prop:=∀ p∈ps,p.1<=p.2
theorem Jk(h:dw ps)(i:Nat):∀ n,i+n<=ps.length->pre (·.1) ps (i+n)-pre (·.1) ps i<=pre (·.2) ps (i+n)-pre (·.2) ps i
 | 0,_=>by simp
 | n+1,hn=>by have ih:=Jk h i n (by lia);rw[show i+(n+1)=(i+n)+1 by lia,gX _ ps (by lia),gX _ ps (by lia)];have:=h _ (oP (ps:=ps) (i:=i+n) (by lia));lia
theorem qO(h:dw ps)(iC:i<=j)(hj:j<=ps.length):pre (·.1) ps j-pre (·.1) ps i<=pre (·.2) ps j-pre (·.2) ps i:=by
 have:=Jk h i (j-i) (by lia)
 rwa [show i+(j-i)=j by lia] at this
theorem SM(h:dw ps)(hi:i<=ps.length)(hj:j<=ps.length)(hk:k<=ps.length):bL ps i j<=bL ps i k+bL ps k j:=by have a:=λh'=>qO h (i:=i) (j:=j) h' hj;have b:=λh'=>qO h (i:=j) (j:=i) h' hi;have c:=λh'=>qO h (i:=i) (j:=k) h' hk;have d:=λh'=>qO h (i:=k) (j:=i) h' hi;have e:=λh'=>qO h (i:=j) (j:=k) h' hk;have f:=λh'=>qO h (i:=k) (j:=j) h' hj;unfold bL;split<;>split<;>split<;>lia
noncomputable def part(ps:List P2)(i j k:Nat):Int:=if i<j then pre (·.2) ps (min i j+k)-pre (·.2) ps i else pre (·.1) ps j-pre (·.1) ps (min i j+k)
end Gz
namespace L2
open PySem PySem.Spec PyProof.Rows
section
variable{κ:Type}[DecidableEq κ]
noncomputable def dO(kvs:List (κ × V))(k:κ):Option V:=(kvs.find? λkv=>decide (kv.1=k)).map (·.2)
noncomputable def putK(kvs:List (κ × V))(k:κ)(v:V):List (κ × V) :=
 if (kvs.any λkv=>decide (kv.1=k))=true then kvs.map (λkv=>if kv.1=k then (kv.1,v) else kv) else kvs++[(k,v)]
theorem xC{p:κ × V}{r:List (κ × V)}{k:κ}(e:p.1=k):dO (p::r) k=O p.2:=by simp[dO,aeK,e]
theorem xD{p:κ × V}{r:List (κ × V)}{k:κ}(e:¬ p.1=k):dO (p::r) k=dO r k:=by simp[dO,aeK,e]
theorem Jl(k:κ):∀ kvs:List (κ × V),(kvs.any λkv=>decide (kv.1=k))=(dO kvs k).isSome
 | []=>rfl
 | p::r=>by
  rw[aer];by_cases e:p.1=k
  .simp only[xC e,decide_eq_true e,Bool.true_or,Option.isSome_some]
  .rw[xD e,decide_eq_false e,ahf];exact Jl k r
theorem Jm(kvs:List (κ × V))(k:κ)(v:V):(putK kvs k v).length<=kvs.length+1:=by
 unfold putK;split
 .rw[acN];omega
 .rw[ac7,adw,afX];omega
theorem eJ.xE(r:eJ o u):o.isSome=u.isSome:=by
 cases o with
 | none=>cases u with
  | none=>rfl
  | some _=>exact (show False from r).elim
 | some _=>cases u with
  | none=>exact (show False from r).elim
  | some _=>rfl
theorem eJ.getD(r:eJ o u)(rd:RelV d d'):RelV (o.getD d) (u.getD d'):=by
 cases o with
 | none=>cases u with
  | none=>exact rd
  | some _=>exact (show False from r).elim
 | some _=>cases u with
  | none=>exact (show False from r).elim
  | some _=>exact r
theorem KV.val(r:KV kvs vs)(k:κ):eJ (dO kvs k) (ajN vs k):=by
 unfold KV at r
 induction r with
 | nil=>exact afL
 | @cons p q ps qs h t ih =>
  obtain⟨h1,h2⟩:=h;by_cases e:p.1=k
  .have e':q.1=k:=h1.symm.trans e;have b:ajN (q::qs) k=O q.2:=by simp[ajN,aeK,e']
   rw[xC e,b];exact h2
  .have e':¬ q.1=k:=λz=>e (h1.trans z);have b:ajN (q::qs) k=ajN qs k:=by simp[ajN,aeK,e']
   rw[xD e,b];exact ih
theorem KV.any(r:KV kvs vs)(k:κ):(kvs.any λkv=>decide (kv.1=k))=vs.any λkv=>decide (kv.1=k):=by
 unfold KV at r
 induction r with
 | nil=>rfl
 | cons h t ih=>rw[aer,aer,ih,h.1]
theorem KV.qP(r:KV kvs vs)(k:κ)(ry:RelV y u) :
 KV (kvs.map λkv=>if kv.1=k then (kv.1,y) else kv) (vs.map λkv=>if kv.1=k then (kv.1,u) else kv):=by
 unfold KV at r ⊢
 induction r with
 | nil=>exact .nil
 | @cons p q ps qs h t ih =>
  rw[adg,adg];refine .cons ?_ ih;obtain⟨h1,h2⟩:=h;by_cases e:p.1=k
  .rw[if_pos e,if_pos (h1.symm.trans e)];exact#[h1,ry]
  .rw[if_neg e,if_neg (λz=>e (h1.trans z))];exact#[h1,h2]
theorem KV.put(r:KV kvs vs)(k:κ)(ry:RelV y u):KV (putK kvs k y) (stored vs k u):=by
 unfold putK stored;rw[r.any k];by_cases e:(vs.any λkv=>decide (kv.1=k))=true
 .rw[if_pos e,if_pos e];exact r.qP k ry
 .rw[if_neg e,if_neg e];exact Paired.snoc r #[Y,ry]
theorem KV.length(r:KV kvs vs):kvs.length=vs.length:=Paired.length r
end
theorem oW(r:RelV (kV k) u):(eI P w).is k u=true:=by
 cases k with
 | inl i=>obtain⟨t,e⟩:=(show ∃ t,u=Value.int i t from r);subst e;exact OG P w i t
 | inr x=>obtain⟨t,e⟩:=(show ∃ t,u=Value.str x t from r);subst e;exact OH P w x t
theorem Jn:∀ {ks:List Key} {us:List acU},Vals (ks.map kV) us->ItemsAre (eI P w) ks us
 | [],_,r=>by rw[ag0] at r;cases r;exact .nil
 | k::ks,_,r=>by
  rw[adg] at r;cases r with
  | cons h t=>exact .cons (oW h) (Jn t)
abbrev KT(H:Hp):List (List Key × V)->List (List Key × ac4 × acU)->Prop:=alY λp q=>p.1=q.1/\H q.2.1=O (.tup (p.1.map kV))/\RelV p.2 q.2.2
theorem KT.val(r:KT H kvs xs)(k:List Key):eJ (dO kvs k) ((al4 xs k).map (·.2)):=by
 induction r with
 | nil=>exact afL
 | @cons p q ps qs h t ih =>
  obtain⟨h1,y,h2⟩:=h;by_cases e:p.1=k
  .have e':q.1=k:=h1.symm.trans e;have b:al4 (q::qs) k=O q.2:=by simp[al4,aeK,e']
   rw[xC e,b];exact h2
  .have e':¬ q.1=k:=λz=>e (h1.trans z);have b:al4 (q::qs) k=al4 qs k:=by simp[al4,aeK,e']
   rw[xD e,b];exact ih
theorem KT.qP(r:KT H kvs xs)(k:List Key)(ry:RelV y u) :
 KT H (kvs.map λkv=>if kv.1=k then (kv.1,y) else kv) (xs.map (putAt k u)):=by
 induction r with
 | nil=>exact .nil
 | @cons p q ps qs h t ih =>
  rw[adg,adg];refine .cons ?_ ih;obtain⟨h1,h2,h3⟩:=h;unfold putAt;by_cases e:p.1=k
  .rw[if_pos e,if_pos (h1.symm.trans e)];exact#[h1,h2,ry]
  .rw[if_neg e,if_neg (λz=>e (h1.trans z))];exact#[h1,h2,h3]
theorem KT.put(r:KT H kvs xs)(k:List Key)(hb:H b=O (.tup (k.map kV)))(ry:RelV y u) :
 KT H (putK kvs k y) (storedH xs k b u):=by
 have e:(kvs.any λkv=>decide (kv.1=k))=(al4 xs k).isSome:=by rw[Jl,(r.val k).xE,akn]
 unfold putK storedH;rw[e];by_cases q:(al4 xs k).isSome=true
 .rw[if_pos q,if_pos q];exact r.qP k ry
 .rw[if_neg q,if_neg q];exact Paired.snoc r #[Y,hb,ry]
theorem KT.keeps(r:KT H kvs xs)(ht:∀ b ys,H b=O (.tup ys)->H' b=O (.tup ys)):KT H' kvs xs :=
 Paired.Gb r λy y z=>#[z.1,ht _ _ z.2.1,z.2.2]
section
theorem Jo(ok:ck P w H h)(e:Rd H a u):bN P w H h a u:=e.ok ok
theorem qQ(ok:ck P w H h)(e:Rd H a (.dK kvs)):kvs.length<=adh/\(a == aeB)=false/\∃ vs,KV kvs vs/\h.DictOf (eI P w) a vs :=
 show bN P w H h a (.dK kvs) from Jo ok e
theorem Jp(ok:ck P w H h)(e:H a=O (.dK kvs)):kvs.length<=adh/\(a == aeB)=false/\∃ vs,KV kvs vs/\h.DictOf (eI P w) a vs:=qQ ok (.inl e)
theorem tE(ok:ck P w H h)(e:H a=O (.tup (ks.map kV))):(aiP (eI P w)).is h ks a:=by
 obtain⟨y,ai,r,o,h1,h2,n,h3⟩:=(show bN P w H h a (.tup (ks.map kV)) from ok a _ e)
 exact#[o,ai.toArray,n,h1,h2,h3,by simpa using Jn r]
theorem qR(ok:ck P w H h)(e:Rd H a (.dT kvs)):kvs.length<=adh/\(a == aeB)=false /\
 ∃ xs,KT H kvs xs/\h.DictOfH (aiP (eI P w)) a xs:=by
 obtain⟨z,y,xs,r,o,es,ep,h1,h2,h3,h4,h5⟩:=(show bN P w H h a (.dT kvs) from Jo ok e)
 refine#[z,y,xs,r,o,es,ep,h1,h2,h3,h4,λx hx=>?_,h5];have all:∀ {l:List (List Key × V)} {m:List (List Key × ac4 × acU)},KT H l m->∀ x∈m,(aiP (eI P w)).is h x.1 x.2.1:=by
  intro l m q
  induction q with
  | nil=>intro x hx;exact nomatch hx
  | @cons p q ps qs hq t ih =>
   intro x hx;rcases acZ.mp hx with e|hx
   .subst e;exact tE ok (by rw[<- hq.1];exact hq.2.1)
   .exact ih x hx
 exact all r x hx
theorem Jq(ok:ck P w H h)(e:H a=O (.dT kvs)):kvs.length<=adh/\(a == aeB)=false /\
 ∃ xs,KT H kvs xs/\h.DictOfH (aiP (eI P w)) a xs:=qR ok (.inl e)
end
def fT(H:Hp)(a:ac4)(y:V)(r:Option V):Prop :=
 (∃ kvs k,Rd H a (.dK kvs)/\y=kV k/\r=dO kvs k) ∨ ∃ kvs k b,Rd H a (.dT kvs)/\y = .ref b/\H b=O (.tup (k.map kV))/\r=dO kvs k
def lD(H:Hp)(a:ac4)(y v:V)(H':Hp):Prop :=
 (∃ kvs k,H a=O (.dK kvs)/\y=kV k/\kvs.length<adh/\H'=upd H a (.dK (putK kvs k v))) ∨
 ∃ kvs k b,H a=O (.dT kvs)/\y = .ref b/\H b=O (.tup (k.map kV))/\kvs.length<adh/\H'=upd H a (.dT (putK kvs k v))
theorem fT.t(e:H a=O (.dT kvs))(eb:H b=O (.tup (k.map kV))):fT H a (.ref b) (dO kvs k):=.inr #[kvs,k,b,.inl e,Y,eb,Y]
theorem lD.k{H:Hp}{a:ac4}{kvs:List (Key × V)}{k:Key}{v:V}(e:H a=O (.dK kvs))(hl:kvs.length<adh):lD H a (kV k) v (upd H a (.dK (putK kvs k v))):=.inl #[kvs,k,e,Y,hl,Y]
theorem lD.t{H:Hp}{a b:ac4}{kvs:List (List Key × V)}{k:List Key}{v:V}(e:H a=O (.dT kvs))(eb:H b=O (.tup (k.map kV)))(hl:kvs.length<adh) :
 lD H a (.ref b) v (upd H a (.dT (putK kvs k v))):=.inr #[kvs,k,b,e,Y,eb,hl,Y]
section
theorem Inv.big(I:Inv X pins L H s):aeB<s.heap.objs.size:=by have h:ac3<s.heap.objs.size:=(I.mod.glob.keeps I.bk).lt;exact ai5 (by decide) h
theorem SN(hu:A.units+1<aii)(I:Inv X pins L H s)(g:fT H a y (O v))(ry:RelV y u)(h:∀ w' s',Inv X pins L H s'->RelV v w'->Q w' s') :
 adi (model X.prog X.w) A (ak4 (.ref a) u) Q E s:=by
 rcases g with ⟨kvs,k,e,ey,l⟩|⟨kvs,k,b,e,ey,eb,l⟩
 .subst ey;obtain⟨z,hd,vs,rel,dd⟩:=qQ I.ar e;obtain⟨w',hw,iz⟩:=eJ.some_of (v:=v) (o:=ajN vs k) (by rw[l];exact rel.val k);exact akV (oW ry) dd.mapOf hw (h w' _ (I.tok _) iz)
 .subst ey;cases (show u=adB b from ry);obtain⟨z,hd,xs,rel,dd⟩:=qR I.ar e;obtain⟨w',hw,iz⟩:=eJ.some_of (v:=v) (o:=(al4 xs k).map (·.2)) (by rw[l];exact rel.val k);obtain⟨p,hp,iV⟩:=ady.mp hw;refine wpAny_getItem_heap (afu hu) (tE I.ar eb) dd hp ?_;rw[iV];exact h w' _ (I.tok _) iz
theorem SO(hu:A.units+1<aii)(I:Inv X pins L H s)(g:fT H a y o)(ry:RelV y u)(h:∀ s',Inv X pins L H s'->Q (.bool (!o.isSome)) s') :
 adi (model X.prog X.w) A (aev .NotIn u (.ref a)) Q E s:=by
 rcases g with ⟨kvs,k,e,ey,l⟩|⟨kvs,k,b,e,ey,eb,l⟩
 .subst ey;obtain⟨z,hd,vs,rel,dd⟩:=qQ I.ar e;refine wpAny_notIn_of (oW ry) hd dd.mapOf ?_;rw[<- (rel.val k).xE,<- l];exact h _ (I.tok _)
 .subst ey;cases (show u=adB b from ry);obtain⟨z,hd,xs,rel,dd⟩:=qR I.ar e;refine wpAny_notIn_heap (afu hu) (tE I.ar eb) hd dd ?_;have q:=(rel.val k).xE;rw[akn] at q;rw[<- q,<- l];exact h _ (I.tok _)
theorem Jr(I:Inv X pins L H s)(mu:sk (H a))(hs:Heap.SameBut a s.heap h')(he:∃ q,h'.get? a=O q)(new:bN X.prog X.w (upd H a ob) h' a ob) :
 Inv X pins L (upd H a ob) { s with heap:=h',toks:=t' } :=
 I.write (x:=a) (e:=a) mu (.inl rfl) (λb q hb z=>(hs.2 b hb).trans z) he new
theorem Js(z:kvs.length<=adh)(hd:(a == aeB)=false)(rel:KV kvs vs)(dd:h'.DictOf (eI P w) a vs) :
 bN P w H' h' a (.dK kvs):=#[z,hd,vs,rel,dd]
theorem SQ(hu:A.units+1<aii)(I:Inv X pins L H s)(g:lD H a y v H')(ry:RelV y u)(rv:RelV v r)(h:∀ s',Inv X pins L H' s'->Q () s') :
 adi (model X.prog X.w) A (setItem (.ref a) u r) Q E s:=by
 rcases g with ⟨kvs,k,e,ey,l,eH⟩|⟨kvs,k,b,e,ey,eb,l,eH⟩
 .subst ey eH;obtain⟨z,hd,vs,rel,dd⟩:=Jp I.ar e;have hz:vs.length<=adh:=by rw[<- rel.length];exact z
  have hl:(putK kvs k v).length<=adh:=by have:=Jm kvs k v;omega
  refine wpAny_setItem_pairs (hsz:=hz) (oW ry) dd λh' xF hs=>h _ ?_;have he:∃ q,h'.get? a=O q:=let ⟨q,_,_,hq,_⟩:=xF;#[q,hq];exact Jr I (by rw[e];exact afL) hs he (Js hl hd (rel.put k rv) xF)
 .subst ey eH;cases (show u=adB b from ry);obtain⟨z,hd,xs,rel,dd⟩:=Jq I.ar e;have hz:xs.length<=adh:=by rw[<- Paired.length rel];exact z
  have hl:(putK kvs k v).length<=adh:=by have:=Jm kvs k v;omega
  refine wpAny_setItem_heap (hsz:=hz) (afu hu) (tE I.ar eb) dd λh' xF hs=>h _ ?_;obtain⟨q,es,ep,hq,h2,h3,h4,c,h5⟩:=xF;refine Jr I (by rw[e];exact afL) hs #[q,hq] #[hl,hd,_,(rel.put k eb rv).keeps λc ys ec=>?_,q,es,ep,hq,h2,h3,h4,h5];rw[aJ (zF ec e (λz=>nomatch z))];exact ec
end
def xG(i:agY):Prop:=∀ ov iv,subscripted i false ov iv=operate [ov,iv] (ak4 ov iv)
theorem Jt{prog:adP}{w:aes}{A:ae2}{E:acU->ac8->Prop}{s:ac8}{env:Env}{value slice:agY}{pos:Pos}{T id:String}{Q:acU->ac8->Prop}
 (hl:akh (.type T) "__getitem__" = pure (O (.builtin id))) (hs:xG slice)
 (h:adi (model prog w) A (eval value env) (λo s₁=>adi (model prog w) A (eval slice env) (λi s₂=>s₂.TypeIs o T/\adi (model prog w) A (ak4 o i) Q E s₂) E s₁) E s) :
 adi (model prog w) A (eval (.Subscript value slice pos) env) Q E s:=by
 refine aki (aea h (λo s₁ h₁=>aea h₁ (λi s₂ h₂=>?_) λy y x=>x) λy y x=>x);obtain⟨hT,h₂⟩:=h₂;unfold aik;refine acK ?_;rw[getitemInPython_of_ne hT.not_modules];refine acK (ahu hT hl ?_);have fin:adi (model prog w) A (subscripted slice false o i) (λr s₃=>adi (model prog w) A (letTemporaryGo value o r >>= λy=>pure r) Q E s₃) E s₂:=by rw[hs o i];exact wpAny_operating (aea h₂ (λr s₃ h₃=>acK (wpAny_letTemporaryGo (acQ h₃))) λy y x=>x)
 first
  | exact acQ (acK fin)
  | exact acK (acQ (acK fin))
  | exact acK fin
theorem SR(I:Inv X pins L H s)(g:fT H a y o):s.TypeIs (.ref a) "dict" := by
 rcases g with ⟨kvs,k,e,z,z⟩|⟨kvs,k,b,e,z,z,z⟩
 .obtain⟨z,z,vs,z,dd⟩:=qQ I.ar e;exact dd.typeIs
 .obtain⟨z,z,xs,z,dd⟩:=qR I.ar e;exact dd.typeIs
def Br(td ty:TE):TE:=λL H Q=>td L H λx H1=>ty L H1 λy H2=>∃ a v,x = .ref a/\fT H2 a y (O v)/\Q v H2
def SS(ty td:TE):TE:=λL H Q=>ty L H λy H1=>td L H1 λx H2=>∃ a o,x = .ref a/\fT H2 a y o/\Q (.bl o.isSome) H2
def Ju(ty td:TE):TE:=λL H Q=>ty L H λy H1=>td L H1 λx H2=>∃ a o,x = .ref a/\fT H2 a y o/\Q (.bl (!o.isSome)) H2
def Jv(td ty tv:TE):TS:=λD L H=>tv L H λv H1=>td L H1 λx H2=>ty L H2 λy H3=>∃ a H4,x = .ref a/\lD H3 a y v H4/\D.nx L H4
section
theorem tF(hu:X.A.units+1<aii)(ho:PE X o td)(hi:PE X i ty)(hs:xG i):PE X (.Subscript o i pos) (Br td ty):=by intro pins s L H Q I h;refine Jt PySem.F.slot_dict_getitem.lookup hs (aC (ho pins s L H _ I h) λu s1 ⟨x,H1,I1,rx,q1⟩=>aC (hi pins s1 L H1 _ I1 q1) λiv s2 zq=>?_);obtain⟨y,H2,I2,ry,a,v,ex,g,q2⟩:=zq;subst ex;obtain rfl:u=adB a:=rx;exact#[SR I2 g,SN hu I2 g ry λw' s3 I3 iz=>#[v,H2,I3,iz,q2]]
theorem SU(hu:X.A.units+1<aii)(hi:PE X i ty)(ho:PE X o td):PC X .NotIn i o (Ju ty td):=by
 intro pins s L H Q I h;refine aC (hi pins s L H _ I h) λiv s1 ⟨y,H1,I1,ry,q1⟩=>aC (ho pins s1 L H1 _ I1 q1) λu s2 zq=>?_;obtain⟨x,H2,I2,rx,a,ov,ex,g,q2⟩:=zq;subst ex;obtain rfl:u=adB a:=rx;exact SO hu I2 g ry λs3 I3=>#[.bl (!ov.isSome),H2,I3,Y,q2]
theorem Bs(hu:X.A.units+1<aii)(ho:PE X o td)(hi:PE X i ty)(hv:PE X value tv)(hs:ahi value (O (.Subscript o i pos')) pos.line X.env=pure false) :
 PS X (.Assign [.Subscript o i pos'] value pos) (Jv td ty tv):=by
 intro pins s L H D I h;refine wpAny_Assign_Subscript (aC (hv pins s L H _ I h) λr s1 ⟨v,H1,I1,rv,q1⟩=>aC (ho pins s1 L H1 _ I1 q1) λu s2 ⟨x,H2,I2,rx,q2⟩=>aC (hi pins s2 L H2 _ I2 q2) λiv s3 zq=>?_) hs;obtain⟨y,H3,I3,ry,a,H4,ex,g,q3⟩:=zq;subst ex;obtain rfl:u=adB a:=rx;exact SQ hu I3 g ry rv λs4 I4=>#[L,H4,I4,q3]
end
theorem SV(h:ae7)(hb:aeB<h.objs.size):bN P w H (h.push { cls:=.type "dict",data:=.dict (List.toArray []) }) h.objs.size (.dK []) :=
 #[adt _,beq_eq_false_iff_ne.mpr (adR (adk hb)),[],.nil,Heap.DictOf.new h]
def Jw:TE:=λy H Q=>∀ p,H p=J->Q (.ref p) (upd H p (.dK []))
section
theorem Jx:PE X (.Dict [] [] pos) Jw:=λpins s L H Q I h =>
 akW #[.ref s.heap.objs.size,_,I.laid (a:=s.heap.objs.size) (o:=.dK []) (t':=s.toks) (λy y q=>acL _ q) (acS _) (SV s.heap I.big),Y,h _ (I.ar.fresh (acS _))]
end
structure M1(X:Cx)(o:agY)(m:Str)(apos:Pos)(e:agY)(dg:Pos):Prop where
 base:agy o m X.env (eval o X.env)=eval o X.env
 few:((afn dg (adp [e] X.env)).all (λx=>!x.1) && (akZ dg (aij [] X.env)).all (λx=>x.1.isSome)
  && decide (([e]:List agY).length+([]:List ak7).length+(if ([]:List ak7).isEmpty then 0 else 1)<30))=true
 line:(apos.endLine == dg.line)=true
 trees:afn dg (adp [e] X.env)=[(false,eval e X.env)]
structure M2(X:Cx)(o:agY)(m:Str)(apos:Pos)(e f:agY)(dg:Pos):Prop where
 base:agy o m X.env (eval o X.env)=eval o X.env
 few:((afn dg (adp [e,f] X.env)).all (λx=>!x.1) && (akZ dg (aij [] X.env)).all (λx=>x.1.isSome)
  && decide (([e,f]:List agY).length+([]:List ak7).length+(if ([]:List ak7).isEmpty then 0 else 1)<30))=true
 line:(apos.endLine == dg.line)=true
 trees:afn dg (adp [e,f] X.env)=[(false,eval e X.env),(false,eval f X.env)]
def Jy(H:Hp)(a:ac4):Prop:=(∃ kvs,Rd H a (.dK kvs)) ∨ ∃ kvs,Rd H a (.dT kvs)
theorem SW(I:Inv X pins L H s)(d:Jy H a) :
 s.TypeIs (.ref a) "dict" /\ (∀ b,adB a = .ref b->∃ ob,s.heap.get? b=O ob/\ob.dict=J)/\(a == aeB)=false:=by
 rcases d with ⟨kvs,e⟩|⟨kvs,e⟩
 .obtain⟨y,hd,vs,y,dd⟩:=qQ I.ar e;refine#[dd.typeIs,λb q=>?_,hd];cases q;obtain⟨ob,y,y,h1,h2,y⟩:=dd;exact#[ob,h1,h2.2.1]
 .obtain⟨y,hd,xs,y,dd⟩:=qR I.ar e;refine#[dd.typeIs,λb q=>?_,hd];cases q;obtain⟨ob,y,y,h1,h2,y⟩:=dd;exact#[ob,h1,h2.2.1]
section
theorem SX(hu:A.units+1<aii)(I:Inv X pins L H s)(g:fT H a y o)(ry:RelV y u)(h:∀ w' s',Inv X pins L H s'->RelV (o.getD .non) w'->Q w' s') :
 adi (model X.prog X.w) A (call (.builtin "dict.get") [.ref a,u]) Q E s:=by
 rcases g with ⟨kvs,k,e,ey,l⟩|⟨kvs,k,b,e,ey,eb,l⟩
 .subst ey;obtain⟨z,hd,vs,rel,dd⟩:=qQ I.ar e;refine akB ag3 dd.typeIs aiH (air _ _) (meets_dict_get (eI X.prog X.w) a (oW ry) hd) #[_,dd.mapOf,h _ _ (I.tok _) ?_];rw[l];exact (rel.val k).getD rfl
 .subst ey;cases (show u=adB b from ry);obtain⟨z,hd,xs,rel,dd⟩:=qR I.ar e;refine akB ag3 dd.typeIs aiH (air _ _) (meetsH_dict_get (aiP (eI X.prog X.w)) a b hd) #[afu hu,k,xs,tE I.ar eb,dd,h _ _ (I.tok _) ?_];rw[l];exact (rel.val k).getD rfl
end
def SY(td ty:TE):TE:=λL H Q=>td L H λx H1=>∃ a,x = .ref a/\Jy H1 a/\ty L H1 λy H2=>∃ o,fT H2 a y o/\Q (o.getD .non) H2
section
theorem S0(hu:X.A.units+1<aii)(ho:PE X o td)(he:PE X e ty)(m:M1 X o "get" apos e dg):PE X (.Call (.Attribute o "get" apos) [e] [] dg) (SY td ty):=by
 intro pins s L H Q I h;refine wpAny_Call_method m.base m.few m.line PySem.F.plainAttrs_dict ag3 PySem.F.type_dict_get (aC (ho pins s L H _ I h) λu s1 zq=>?_);obtain⟨x,H1,I1,rx,a,ex,d,q1⟩:=zq;subst ex;obtain rfl:u=adB a:=rx;obtain⟨t1,t2,z⟩:=SW I1 d;refine#[t1,t2,?_];rw[m.trees];refine aiF Y (ahb (afQ (aC (he pins s1 L H1 _ I1 q1) λiv s2 ⟨y,H2,I2,ry,ov,g,q2⟩=>af5 ?_)));exact SX hu I2 g ry λw' s3 I3 iz=>#[_,H2,I3,iz,q2]
end
section
variable{κ:Type}[DecidableEq κ]
theorem Jz:∀ {l:List κ} {k:κ},l.Nodup->¬ k∈l->(l++[k]).Nodup
 | [],k,_,_=>by simp
 | a::r,k,h,hk=>by
  obtain⟨h1,h2⟩:=aeI.mp h;show (a::(r++[k])).Nodup;refine aeI.mpr #[λm=>?_,Jz h2 λm=>hk (acZ.mpr (akz m))];rcases adf.mp m with q|q
  .exact h1 q
  .exact hk (acZ.mpr (ahc (ada.mp q).symm))
end
end L2
namespace Gz
open PySem PySem.Spec PyProof.Rows L2
noncomputable def Bu(bs:List Int):Nat->Nat
 | 0=>0
 | i+1=>if 0<i/\bs.getD i 0=bs.getD (i-1) 0 then Bu bs i+1 else 1
theorem xH(bs:List Int):∀ i,Bu bs i<=i
 | 0=>acS _
 | i+1=>by unfold Bu;have:=xH bs i;split<;>lia
def bits(bs:List Int):Prop:=∀ x∈bs,x=0∨x=1
theorem xI(hx:H x=J)(hd:H dx=J)(hn:dx≠x):aj H (upd (upd H dx (.own x)) x (.ins C dx fs)) :=
 (aw hd).trans (aw (by rw[aJ (adR hn)];exact hx))
abbrev Lk:=Option (List Int)
def S9(xs:List ac4)(H:Hp)(v:V):Lk->Prop
 | none=>v = .non
 | some bs=>∃ l,v = .ref l/\l∉xs/\H l=O (.lst (bs.map V.int))
abbrev IsL:=S9 []
section
variable{κ:Type}[DecidableEq κ]
end
section
variable{prog:adP}{w:aes}{K:Type}[DecidableEq K]{knd:HeapKind prog w K}{A:ae2}{E:acU->ac8->Prop}{s:ac8}
end
def iE(h:ae7)(d:ac4)(es:Array ah5)(ep:Nat):Prop:=∃ o,h.get? d=O o/\o.ExactDict/\o.data = .dict es ep
theorem iE.at(x:iE h d es ep)(e:∀ o,h.get? d=O o->h'.get? d=O o):iE h' d es ep:=let ⟨o,ho,r⟩:=x;#[o,e o ho,r]
theorem iE.lt(x:iE h d es ep):d<h.objs.size:=let ⟨_,ho,_⟩:=x;acT ho
theorem iE.ty{s:ac8}{d:ac4}{es:Array ah5}{ep:Nat}(x:iE s.heap d es ep):s.TypeIs (.ref d) "dict" := let ⟨o,ho,hc,_⟩:=x;#[o,ho,hc.1]
section
variable{prog:adP}{w:aes}{A:ae2}{E:acU->ac8->Prop}{s:ac8}{d it:ac4}{es:Array ah5}{i ep:Nat}
theorem Tc(lo:(d == aeB)=false)(x:iE s.heap d es ep)(q:Q (.ref s.heap.objs.size) { s with heap:=s.heap.push { cls:=.type "dict_keyiterator",data:=.fields (List.toArray [.ref d,.int 0 0,.int es.size 0,.int ep 0]) } }):adi (model prog w) A (alA (.ref d)) Q E s:=by have T:=x.ty;obtain⟨o,ho,hc,hq⟩:=x;refine ah9 T aiI (aec aiI T PySem.F.entry_dict_iter ?_ (PySem.F.args_dict_iter_1 _));unfold ae8.«dict.__iter__»;refine acK ?_;unfold Builtin.Dict.dictSlotNone;refine acK (wpAny_notOrdered_dict T ?_);refine acQ (a:=adB d) ?_;show adi _ A.in1 (Builtin.Dict.showsAll d >>= _) _ _ s;unfold Builtin.Dict.showsAll;rw[if_neg (by rw[lo];exact adq)];refine acK (acQ (acK (agQ ho hq (acK (ai6 ho hq ?_)))));refine acK (aeo (acQ #[_,Y,"dict_keyiterator",_,#[_,acV _ Y,Y],PySem.F.slot_dict_keyiterator_next.lookup,?_]));simpa [agc] using q
theorem Td(hit:s.heap.IsKeyIter it d i es.size ep)(x:iE s.heap d es ep)(hi:i<es.size)(q:∀ h',h'.IsKeyIter it d (i+1) es.size ep->Heap.SameBut it s.heap h'->Q (O es[i].key) { s with heap:=h' }):adi (model prog w) A (afT (.ref it)) Q E s:=by
 obtain⟨o,ho,hc,hd⟩:=id hit;obtain⟨od,hod,gd,hdd⟩:=x;have T:=hit.typeIs;refine acK (aft (ad7 (name:=ac0 "__next__") T aeF (aec aeF T agq ?_ (age _))));refine acK (acQ (acK (acK ?_)))
 first|refine acK (ae6 T (acQ (acK (agf ho hd ?_))))|refine acK (afE T (acQ (acK (agf ho hd ?_))))
 have ow:Builtin.Dict_items.ownsTuple "dict_keyiterator" = false:=by decide
 simp only[ow,adn,if_false];show adi _ A.in1 (if (adB d == Value.none)=true then _ else _) _ _ s;refine acK (acQ (acK (agQ hod hdd ?_)));rw[if_neg (by simp)];refine acK (acQ (acK (ai6 hod hdd ?_)));rw[if_neg (by simp)];refine acQ ?_;simp only[show ¬ (i:Int)<0 by lia,if_false,adL,adO hi];refine acK ?_
 first|refine acK (ae6 T (acQ (acK (ag4 T ?_))))|refine acK (afE T (acQ (acK (ag4 T ?_))))
 show adi _ A.in1 (ak0 (.ref it) 1 (agc ((i:Int)+1)) >>= _) _ _ s;refine acK (agW ho hd (by simp) ?_);have qS:(s.heap.update it (af8 (·.setIfInBounds 1 (agc ((i:Int)+1))))).IsKeyIter it d (i+1) es.size ep:=#[_,adQ _ ho (Obj.isFreed_of_fields (aj3 hd _)),(Obj.cls_mapFields ..).trans hc,by rw[aj3 hd];simp[agc]]
 refine acK (aeq (acK (ag4 (s:={ s with heap:=s.heap.update it (af8 (·.setIfInBounds 1 (agc ((i:Int)+1)))) }) qS.typeIs ?_)));exact acQ (acQ #[_,Y,acQ (q _ qS (aeA ..))])
theorem Te(hh:A.handled=J)(hit:s.heap.IsKeyIter it d es.size es.size ep)(x:iE s.heap d es ep)(q:∀ h',ajO it s.heap h'->Q J { s with heap:=h' }):adi (model prog w) A (afT (.ref it)) Q E s:=by
 obtain⟨o,ho,hc,hd⟩:=id hit;obtain⟨od,hod,gd,hdd⟩:=x;have T:=hit.typeIs;refine acK (aft (ad7 (name:=ac0 "__next__") T aeF (aec aeF T agq ?_ (age _))));refine acK (acQ (acK (acK ?_)))
 first|refine acK (ae6 T (acQ (acK (agf ho hd ?_))))|refine acK (afE T (acQ (acK (agf ho hd ?_))))
 have ow:Builtin.Dict_items.ownsTuple "dict_keyiterator" = false:=by decide
 simp only[ow,adn,if_false];show adi _ A.in1 (if (adB d == Value.none)=true then _ else _) _ _ s;refine acK (acQ (acK (agQ hod hdd ?_)));rw[if_neg (by simp)];refine acK (acQ (acK (ai6 hod hdd ?_)));rw[if_neg (by simp)];refine acQ ?_;simp only[show ¬ (es.size:Int)<0 by lia,if_false,adL,afO (acS es.size)];refine acK ?_
 first|refine acK (ae6 T (acQ ?_))|refine acK (afE T (acQ ?_))
 show adi _ A.in1 (ak0 (.ref it) 0 .none >>= _) _ _ s;refine acK (agW ho hd (by simp) ?_);show adi _ A.in1 (newExc (.type "StopIteration") [] >>= _) _ _ _;refine acK ?_;simp only[newExc,alQ];refine acK (aeo ?_ (by size_fits));refine acK (m:=ahT _ _) (aim (a:=Value.none) (by first|rfl|(simp only[ahT];rfl)) ?_);refine aeo ?_ (by size_fits);simp only[raiseNew];refine acK (wpAny_handled ?_);rw[show A.in1.handled=J from hh];refine acK (acQ (wpAny_throw ?_));refine acK (afK (T := "StopIteration") (b:=true) #[_,acV _ Y,Y] ahU ?_);exact acQ (q _ (((aeA ..).extBut.push _).push _))
theorem Tf(hh:A.handled=J)(I d:ac4)(bp:d≠I)(es:Array ah5)(ep:Nat) :
 Walks prog w A I [I,d] [I] es.size (λi v=>∃ e,es[i]?=O e/\v=e.key) (λi h=>h.IsKeyIter I d i es.size ep/\iE h d es ep) where
 sub:=λb hb=>by simp at hb;simp[hb]
 frame:=λy y y st hk=>#[st.1.at λo e=>hk I (by simp) o e,st.2.at λo e=>hk d (by simp) o e]
 item:=λi s Q E hi st hQ=>by refine Td st.1 st.2 hi λh' qS fU=>?_;exact hQ _ h' s.toks #[es[i],adO hi,Y] #[qS,st.2.at λo e=>fU.extBut d o bp e] λb o hb e=>fU.extBut b o (λh=>hb (by simp[h])) e
 done:=λs Q E st hQ=>Te hh st.1 st.2 λh' qT=>hQ h' s.toks λb o hb e=>qT b o (λh=>hb (by simp[h])) e
 self:=λy y y y st hQ=>wpAny_pyIter_keyiter st.1 hQ
theorem JA(lo:(d == aeB)=false):ajC prog w "dict" d d es.size (λi v=>∃ e,es[i]?=O e/\v=e.key) (λh=>iE h d es ep) where
 type:=λy x=>x.ty
 there:=λy x=>#[x.lt,x.lt]
 keep:=λy y x hk=>x.at λo e=>hk d (.inl rfl) o e
 notList:=by decide
 notTuple:=by decide
 hint:=λy y y y x hq=>PySem.W.kdl_hint_dict x.ty hq
 iter:=λy y hh x=>#[_,_,(λy y hq=>Tc lo x hq),Tf hh _ d (adk x.lt) es ep,#[#[_,acV _ Y,Y,Y],x.at λo e=>acL _ e]]
end
section
def oX(h:ae7)(vs:List acU)(kis:List (List Int))(i:Nat):Prop:=∃ (p:ac4) (o:Obj) (ai:List acU) (m:Nat),vs[i]?=O (.ref p)/\h.get? p=O o/\o.cls = .type "tuple" /\ o.data = .seq ai.toArray m/\ahQ ai (kis.getD i [])/\ai≠[]
theorem oX.keep(x:oX h vs kis i)(k:∀ b o,h.get? b=O o->(∀ n xs,o≠aej "list" xs n)->h'.get? b=O o):oX h' vs kis i:=by obtain⟨p,o,ai,m,h1,h2,h3,r⟩:=x;exact#[p,o,ai,m,h1,k p o h2 (λn xs z=>by rw[z] at h3;exact absurd (Value.type.inj h3) (by decide)),h3,r]
theorem Tg(h:ahQ ai ns)(hn:ai≠[]):∃ i t,ai[0]?=O (.int i t):=by
 cases h with
 | nil=>exact absurd Y hn
 | cons=>exact#[_,_,Y]
theorem JB:∀ (vs:List acU) (kis:List (List Int)),kis.length=vs.length->(∀ i,i<vs.length->oX h vs kis i)->∃ fs,alg h vs fs/\fs.length=vs.length/\∀ v∈fs,∃ i t,v = .int i t
 | [],_,_,_=>#[[],PySem.W.KatTups.nil,Y,λv z=>by simp at z]
 | v::vs,[],e,_=>by simp at e
 | v::vs,k::kis,e,hh=>by
  obtain⟨p,o,ai,m,h1,h2,h3,h4,h5,h6⟩:=hh 0 (by simp);have IQ:v = .ref p:=by simpa using h1
  subst IQ;obtain⟨i,t,hf⟩:=Tg h5 h6;obtain⟨fs,a1,a2,a3⟩:=JB vs kis (by simpa using e) λi hi=>by obtain⟨p,o,ai,m,h1,r⟩:=hh (i+1) (by simpa using hi);exact#[p,o,ai,m,by simpa using h1,by simpa using r]
  refine#[.int i t::fs,PySem.W.KatTups.cons h2 h3 h4 (by simpa using hf) a1,by simp[a2],λv hv=>?_];rcases acZ.mp hv with z|z
  .exact#[i,t,z]
  .exact a3 v z
def xJ(prog:adP)(w:aes)(h:ae7)(vs:List acU)(kis:List (List Int)):Prop :=
 2<=vs.length->∃ κ,∀ (A:ae2) (E:acU->ac8->Prop) (s:ac8),s.heap=h->(∀ Q:SortKind->ac8->Prop,Q κ s->adi (model prog w) A (keyKind' vs.toArray) Q E s) /\
  ∀ i j,i<vs.length->j<vs.length->∀ C:Bool->ac8->Prop,C (cG kis i j) s->adi (model prog w) A (keyLt' κ (vs.getD i Value.none) (vs.getD j Value.none)) C E s
theorem Th(ho:s.heap.get? a=O (aej "list" vs.toArray n))(hl:kis.length=vs.length)(bB:vs.length<64)(hk:∀ g:ae7,(∀ b o,(∀ n xs,o≠aej "list" xs n)->s.heap.get? b=O o->g.get? b=O o)->xJ prog w g vs kis)(fin:∀ h',(∀ b o,b≠a->s.heap.get? b=O o->h'.get? b=O o)->(∃ c,h'.get? a=O (aej "list" (aep ((cv (cG kis) vs.length).toList.map λi=>vs.getD i Value.none)) c))->P (.done (.ret .none)) { s with heap:=h' }) :
 adi (model prog w) A (ae8.«list.sort» #[[.ref a],[]]) P E s:=by
 rw[list_sort_plain];refine acK (akA ho Y (acK (af7 ho Y ?_ (by rw[ac5,aey];walk_at "o") (adt _))));obtain⟨e1,oa⟩:∃ e1,(s.heap.update a (adC λv=>((List.toArray []):Array acU))).get? a=O (aej "list" (List.toArray []) e1):=#[_,aht ho λv=>(List.toArray [])]
 have keep:∀ b o,b≠a->s.heap.get? b=O o->(s.heap.update a (adC λv=>((List.toArray []):Array acU))).get? b=O o:=λb o z e=>(ac9 _ _ (adR z)).trans e;refine acK (aiq oa Y ?_);generalize s.heap.update a (adC λv=>((List.toArray []):Array acU))=g at oa keep ⊢;refine acK (ahS ?_ (by show vs.length<=_;rw[aey];walk_at "o"));refine acK (aip ?_ (adt _));refine aeq ?_;show adi (model prog w) A _ P E { s with heap:=(g.push (aej "tuple" vs.toArray 0)).push (aej "list" (List.toArray []) 0) };have qU:((g.push (aej "tuple" vs.toArray 0)).push (aej "list" (List.toArray []) 0)).get? a=O (aej "list" (List.toArray []) e1):=acL _ (acL _ oa);have qM:∀ b o,b≠a->s.heap.get? b=O o->((g.push (aej "tuple" vs.toArray 0)).push (aej "list" (List.toArray []) 0)).get? b=O o:=λb o z e=>acL _ (acL _ (keep b o z e));generalize (g.push (aej "tuple" vs.toArray 0)).push (aej "list" (List.toArray []) 0)=g2 at qU qM ⊢;dsimp only;have neT:∀ b o,s.heap.get? b=O o->(∀ n xs,o≠aej "list" xs n)->b≠a:=λb o e z y=>by rw[y,ho] at e;cases e;exact z _ _ rfl
 have Ti:((cv (cG kis) vs.length).toList.map λi=>vs.getD i Value.none).length=vs.length:=by rw[acN,(oQ (n:=vs.length) (lB kis)).1.length_eq,adj]
 have sz:(aep ((cv (cG kis) vs.length).toList.map λi=>vs.getD i Value.none)).size<=adh+1:=by rw[ac5,Ti,aey];walk_at "o"
 have done:P (.done (.ret .none)) { s with heap:=g2.update a (adC λv=>aep ((cv (cG kis) vs.length).toList.map λi=>vs.getD i Value.none)) } :=
  fin _ (λb o z e=>(ac9 _ _ (adR z)).trans (qM b o z e)) #[_,aht qU λv=>_]
 by_cases h2:vs.toArray.size<2
 .rw[if_pos h2,if_pos h2];refine acK (acQ ?_);refine acK (acQ ?_);dsimp only;have self:(adu vs.length).map (λi=>vs.getD i Value.none)=vs:=by
   apply aiz
   .simp
   .intro i h1 h2;simp[acO,h2]
  have e0:(arrOf (SortSt.mk' general' (vs.toArray.zip vs.toArray) (List.toArray []) 7 J)).map (·.2)=aep ((cv (cG kis) vs.length).toList.map λi=>vs.getD i Value.none):=by unfold cv;rw[if_pos (by simpa using h2)];apply akP.mp;rw[show (adu vs.length).toArray.toList=adu vs.length from Y,self];show ((vs.toArray.zip vs.toArray).map (·.2)).toList=_;simp[akQ]
  rw[e0];refine acK (aiq qU Y (acK (af7 qU Y ?_ (adt _) sz)));simp only[bne_self_eq_false,adn,if_false];exact acQ done
 .rw[if_neg h2,if_neg h2];have tq:2<=vs.length:=by rw[ac5] at h2;walk_at "o"
  obtain⟨κ,hκ⟩:=hk g2 (λb o z e=>qM b o (neT b o e z) e) tq;refine acK ((hκ A E { s with heap:=g2 } rfl).1 _ ?_);have ask:(akS vs.length).kasWp (alj prog w A κ vs) (λp s'=>s' = { s with heap:=g2 }/\p=cv (cG kis) vs.length) { s with heap:=g2 }:=by
   have pv:=Bb _ (Ba (n:=vs.length) (lB kis) (by walk_at "o"));refine A8 (lt:=cG kis) (n:=vs.length) (Ok:=λs'=>s' = { s with heap:=g2 }) (λi j C s' hi hj e q=>?_) (λp s' e q=>#[e,?_]) _ _ Y pv
   .subst e;exact (hκ _ _ _ Y).2 i j hi hj C (q _ Y)
   .rw[q];unfold cv;rw[if_neg (by walk_at "o")]
  refine acK (aea (alk (κ:=κ) (ks:=vs) (vs:=vs) (Q:=λst s'=>s' = { s with heap:=g2 }/\arrOf st=(cv (cG kis) vs.length).map (akT (vs.toArray.zip vs.toArray))/\alO st=J)
   Y tq bB (λp st s' b1 b2 b3 b4=>#[b4.1,by rw[b2,b4.2],b3]) ask) ?_ λv v z=>z)
  rintro ⟨⟨⟩,st⟩ s' ⟨rfl,har,hf⟩;rw[akU Y har];refine acK (aiq qU Y (acK (af7 qU Y ?_ (adt _) sz)));rw[hf];simp only[bne_self_eq_false,adn,if_false];exact acQ done
theorem JC(hl:kis.length=vs.length)(bB:vs.length<64)(hk:∀ g:ae7,(∀ b o,(∀ n xs,o≠aej "list" xs n)->s.heap.get? b=O o->g.get? b=O o)->xJ prog w g vs kis)(tG:∀ (A':ae2) (Q':List acU->ac8->Prop) (E':acU->ac8->Prop),A'.handled=A.handled->(∀ h' tk,(∀ b o,s.heap.get? b=O o->h'.get? b=O o)->s.heap.objs.size<=h'.objs.size->Q' vs { s with heap:=h',toks:=tk })->adi (model prog w) A' (collect (.ref r)) Q' E' s)(q:∀ l h' tk,s.heap.objs.size<=l->(∀ b o,s.heap.get? b=O o->h'.get? b=O o)->(∃ c,h'.get? l=O (aej "list" (aep ((cv (cG kis) vs.length).toList.map λi=>vs.getD i Value.none)) c))->Q (.ref l) { s with heap:=h',toks:=tk }) :
 adi (model prog w) A (call (.builtin "sorted") [.ref r]) Q E s:=by
 refine ahV kind_sorted plain_sorted entry_sorted (args_sorted1 _) ?_;unfold ae8.«sorted»;refine acK (m:=checkCount "sorted" 1 1 _) (acQ (acK (tG _ _ _ Y λh1 tk keep hsz=>?_)));refine acK (aip ?_ (by rw[aey];walk_at "o"));have oL:(h1.push (aej "list" vs.toArray 0)).get? h1.objs.size=O (aej "list" vs.toArray 0):=acV _ rfl;have jr:∀ b o,s.heap.get? b=O o->b≠h1.objs.size/\(h1.push (aej "list" vs.toArray 0)).get? b=O o:=λb o e=>by have:=acT e;exact#[by walk_at "o",acL _ (keep b o e)]
 show adi _ A.in1 (holding [.ref h1.objs.size] (call (.builtin "list.sort") [.ref h1.objs.size]) >>= _) _ _ { s with heap:=h1.push (aej "list" vs.toArray 0),toks:=tk };generalize h1.push (aej "list" vs.toArray 0)=h2 at oL jr ⊢;generalize h1.objs.size=l at oL jr hsz ⊢;refine acK (aeq (aec slot_list_sort #[_,oL,Y] alh ?body (args_list_sort _)))
 case body =>
  refine Th (s:={ s with heap:=h2,toks:=tk }) oL hl bB (λg z=>hk g λb o n e=>z b o n (jr b o e).2) λh' k c=>#[_,Y,acQ #[_,Y,q l h' tk hsz (λb o e=>k b o (jr b o e).1 (jr b o e).2) c]]
theorem Tj(hl:kis.length=vs.length)(hk:∀ i,i<vs.length->oX h vs kis i):xJ prog w h vs kis:=λh2=>by
 obtain⟨fs,ht,lf,hi⟩:=JB vs kis hl hk;refine#[ame true,λA E s e=>?_];subst e;refine#[λQ q=>akR (T:=.type "int") ht (by walk_at "o") (λv hv=>?_) (by decide) q,λi j hi hj C q=>?_]
 .obtain⟨i,t,rfl⟩:=hi v hv;exact PySem.W.Looks.now
 .obtain⟨p1,o1,i1,m1,a1,b1,y,c1,d1,y⟩:=hk i hi;obtain⟨p2,o2,i2,m2,a2,b2,y,c2,d2,y⟩:=hk j hj;rw[acO,acO,a1,a2];have z1:=d1.length;have z2:=d2.length;exact als b1 c1 b2 c2 (by simpa using IS (b:=true) (i:=0) d1 d2 (by simp[z1,z2]) q)
theorem Tn(hl:kis.length=vs.length)(bB:vs.length<64)(hk:∀ i,i<vs.length->oX s.heap vs kis i)(tG:∀ (A':ae2) (Q':List acU->ac8->Prop) (E':acU->ac8->Prop),A'.handled=A.handled->(∀ h' tk,(∀ b o,s.heap.get? b=O o->h'.get? b=O o)->s.heap.objs.size<=h'.objs.size->Q' vs { s with heap:=h',toks:=tk })->adi (model prog w) A' (collect (.ref r)) Q' E' s)(q:∀ l h' tk,s.heap.objs.size<=l->(∀ b o,s.heap.get? b=O o->h'.get? b=O o)->(∃ c,h'.get? l=O (aej "list" (aep ((cv (cG kis) vs.length).toList.map λi=>vs.getD i Value.none)) c))->Q (.ref l) { s with heap:=h',toks:=tk }) :
 adi (model prog w) A (call (.builtin "sorted") [.ref r]) Q E s :=
 JC hl bB (λg z=>Tj hl λi hi=>(hk i hi).keep λb o e n=>z b o n e) tG q
theorem JD(K:ajC prog w T r d n P OK)(hh:A.handled=J)(ar:OK s.heap)(hn:n<=adh)(q:∀ h' tk acc,(∀ b o,s.heap.get? b=O o->h'.get? b=O o)->s.heap.objs.size<=h'.objs.size->ItemsOf P acc n->Q acc.toList { s with heap:=h',toks:=tk }):adi (model prog w) A (collect (.ref r)) Q E s:=by
 have lt:=K.there _ ar;unfold collect;refine acK (wpAny_runValue (ael entry_proto_collect' ?_));rw[adW PySem.F.plain_proto_collect _];show adi _ A.in1 (amd [] >>= λl=>again (.builtin "list.__iadd__" #[[l,.ref r],[]])) _ _ s;refine acK (aeo (acQ #[Code.quiet_builtin _ (by decide +kernel),ael entry_list_iadd' ?_]));rw[adW PySem.F.plain_list_iadd _];have oS:(s.heap.push { cls:=.type "list",data:=.seq ([]:List acU).toArray }).get? s.heap.objs.size=O { cls:=.type "list",data:=.seq (List.toArray []) 0 }:=acV _ rfl;show adi _ A.in1 (afh (.ref s.heap.objs.size) (.ref r) (.ref s.heap.objs.size)) _ _ { s with heap:=s.heap.push { cls:=.type "list",data:=.seq ([]:List acU).toArray } };refine PySem.W.kdl_extend (R:=λr s'=>match r with
  | .ok (.ret v)=>adi (model prog w) A (match v with|.ref a=>(do match (<- load a).data with|.seq xs _=>pure xs.toList|_=>unsupported "internal:collect")|_=>unsupported "internal:collect") Q E s'
  | .ok _=>False
  | .error e=>E e s') (s:={ s with heap:=s.heap.push { cls:=.type "list",data:=.seq ([]:List acU).toArray } }) K hh (K.keep _ _ ar λb y o e=>acL _ e) s.heap.objs.size (ad5 lt.1) (ad5 lt.2) (.ref s.heap.objs.size) 0 oS (λh' tk acc c hk hS gY=>?_) hn
 show adi _ A (load s.heap.objs.size >>= _) _ _ _;refine acK (wpAny_load hS (acQ ?_));exact q h' tk acc (λb o e=>hk b o (adk (acT e)) (acL _ e)) (afS (acT hS)) gY
end
def jv(H:Hp)(xs:List V)(kvs:List (List Key × V)):Prop:=ax (λx (kv:List Key × V)=>∃ a,x = .ref a/\H a=O (.tup (kv.1.map kV))) xs kvs
theorem KT.To(r:KT H kvs xs):jv H ((xs.map (·.2.1)).map V.ref) kvs:=by
 induction r with
 | nil=>exact trivial
 | cons h t ih=>exact#[#[_,Y,h.2.1],ih]
theorem jv.JE{K:acM}{H:Hp}:∀ {ys:List V} {kvs:List (List Key × V)} {kis:List (List Int)},jv H ys kvs->kvs.map (·.1)=kis.map (λk=>k.map ahN)->(∀ k∈kis,k≠[])->cF K H ys kis
 | [],[],[],_,_,_=>trivial
 | [],[],_::_,_,e,_=>by simp at e
 | _::_,kv::kvs,[],_,e,_=>by simp at e
 | y::ys,kv::kvs,k::kis,h,e,hn=>by rw[adg,adg] at e;injection e with e1 e2;obtain⟨⟨a,rfl,ha⟩,t⟩:=h;refine#[#[a,Y,?_,hn k (.head _)],jv.JE t e2 λk hk=>hn k (.tail _ hk)];rw[e1,aei] at ha;exact .inl (.inl ha)
 | [],_::_,_,h,_,_=>h.elim
 | _::_,[],_,h,_,_=>h.elim
theorem Bv:∀ (as:List ac4),Vals (as.map V.ref) (as.map adB)
 | []=>.nil
 | _::as=>.cons rfl (Bv as)
section
theorem JF(I:Inv X pins L H s)(e:H p=O (.dT kvs)):∃ (as:List ac4) (es:Array ah5) (ep:Nat),jv H (as.map V.ref) kvs/\(p == aeB)=false/\iE s.heap p es ep/\es.size=as.length/\(∀ acc:Array acU,ItemsOf (λi v=>∃ e,es[i]?=O e/\v=e.key) acc es.size->acc.toList=as.map adB)/\as.length<=adh:=by
 obtain⟨z,hd,xs,rel,o,es,ep,ho,hc,hdt,he,his,hn⟩:=Jq I.ar e;have hl:xs.length=kvs.length:=(Paired.length rel).symm;have hs:es.size=xs.length:=size_of_entries he;refine#[xs.map (·.2.1),es,ep,KT.To rel,hd,#[o,ho,hc,hdt],by rw[acN];exact hs,λacc ha=>?_,by rw[acN,hl];exact z];refine aeT λi=>?_;rw[ac1,ac1];have la:acc.toList.length=es.size:=by rw[adK];exact ha.1
 by_cases hi:i<es.size
 .obtain⟨v,hv⟩:∃ v,acc.toList[i]?=O v:=#[_,acP (by lia)]
  obtain⟨en,h1,h2⟩:=ha.2 i v (by rw[<- aeZ];exact hv);rw[entry_at he i] at h1;cases hx:xs[i]? with
  | none=>rw[hx] at h1;cases h1
  | some y=>rw[hx] at h1;cases h1;rw[hv,h2];rfl
 .rw[adI (by lia),adI (by lia)];rfl
theorem JG(hc:X.calm=true):fj X (.type "list") (λxs H Q=>∃ p kvs,xs=[.ref p]/\H p=O (.dT kvs)/\∀ l ys,H l=J->jv H ys kvs->Q (.ref l) (upd H l (.lst ys))):=by intro pins s L H xs us Q I r h;obtain⟨p,kvs,rfl,e,q⟩:=h;obtain⟨u,rfl,rx⟩:=vals1 r;cases rx;obtain⟨as,es,ep,hk,lo,ra,hs,gY,hz⟩:=JF I e;refine PySem.W.kdl_call (JA lo) (I.ok.hd hc) ra (by rw[hs];exact hz) λh' tk acc c keep hD ha=>?_;have ea:=gY acc ha;exact#[.ref s.heap.objs.size,_,I.laid (t':=tk) keep (acS _) (show bN X.prog X.w _ h' _ (.lst (as.map V.ref)) from #[by rw[acN];exact hz,as.map adB,c,Bv as,by rw[<- ea,ajt];exact hD]),Y,q _ _ (I.ar.fresh (acS _)) hk]
theorem Tp(I:Inv X pins L H s)(h:cF X.K H ks kis)(r:Vals ks us):∀ i,i<us.length->oX s.heap us kis i:=λi hi=>by
 have hk:i<ks.length:=by rw[r.length];exact hi
 have Tq:i<kis.length:=by rw[<- h.len];exact hk
 obtain⟨p,ep,hp⟩:=h.get (acP hk);obtain⟨u,eu,ru⟩:=r.get (acP hk);rw[ep] at ru;cases ru;obtain⟨ai,rv,⟨o,ho,hc,m,hd⟩,y⟩:=I.tuple hp;refine#[p,o,ai,m,eu,ho,hc,hd,intsAre_of rv,λz=>?_];have nn:kis.getD i []≠[]:=by
  have all:∀ {ks:List V} {ns:List (List Int)},cF X.K H ks ns->∀ n∈ns,n≠[]:=by
   intro ks
   induction ks with
   | nil=>intro ns h n hn;cases ns with
    | nil=>simp at hn
    | cons _ _=>exact h.elim
   | cons k ks ih=>intro ns h n hn;cases ns with
    | nil=>exact h.elim
    | cons m ns =>
     obtain⟨⟨y,y,y,bp⟩,t⟩:=h;rcases acZ.mp hn with z|z
     .rw[z];exact bp
     .exact ih t n z
  rw[acO,acP Tq];exact all h _ (agm _)
 have:=rv.length;rw[acN,z] at this;exact nn (aeJ.mp this)
theorem JH(I:Inv X pins L H s)(r:Vals ks us)(hz:ks.length<=adh)(hl:s.heap.objs.size<=l)(keep:∀ b o,s.heap.get? b=O o->h'.get? b=O o)(hD:∃ c,h'.get? l=O (aej "list" (aep ((cv (cG kis) us.length).toList.map λi=>us.getD i Value.none)) c))(q:∀ l,H l=J->Q (.ref l) (upd H l (.lst (bI kis .non ks)))):EP X pins L Q (.ref l) { s with heap:=h',toks:=tk }:=by obtain⟨c,hD⟩:=hD;have sv:=IU (kis:=kis) r;rw[r.length] at sv;exact#[.ref l,_,I.laid (t':=tk) keep hl (show bN X.prog X.w _ h' _ (.lst (bI kis .non ks)) from #[by rw[qL];exact hz,_,c,sv,hD]),Y,q l (I.ar.fresh hl)]
theorem Tr(hc:X.calm=true):fj X (.builtin "sorted") (λxs H Q=>∃ (p:ac4) (kvs:List (List Key × V)) (kis:List (List Int)),xs=[.ref p]/\H p=O (.dT kvs)/\kvs.map (·.1)=kis.map (λk=>k.map ahN)/\(∀ k∈kis,k≠[])/\kvs.length<64 /\
 ∀ l ys,H l=J->jv H ys kvs->Q (.ref l) (upd H l (.lst (bI kis .non ys)))):=by
 intro pins s L H xs us Q I r h;obtain⟨p,kvs,kis,rfl,e,ek,bp,bB,q⟩:=h;obtain⟨u,rfl,rx⟩:=vals1 r;cases rx;obtain⟨as,es,ep,hk,lo,ra,hs,gY,hz⟩:=JF I e;have la:as.length=kvs.length:=by have:=hk.len;rwa [acN] at this
 have lk:kis.length=kvs.length:=by have:=congrArg List.length ek;simpa using this.symm
 have hK:cF X.K H (as.map V.ref) kis:=hk.JE ek bp;have rv:=Bv as;refine Tn (kis:=kis) (vs:=as.map adB) (by rw[acN];lia) (by rw[acN];lia) (Tp I hK rv) (λA' Q' E' hA hq=>JD (JA lo) (hA.trans (I.ok.hd hc)) ra (by rw[hs];exact hz) λh' tk acc k1 k2 ha=>?_) λl h' tk h1 h2 h3=>JH I rv (by rw[acN];exact hz) h1 h2 h3 λl hl=>q l _ hl hk;rw[gY acc ha];exact hq h' tk k1 k2
end
section
variable{prog:adP}{w:aes}{K:Type}[DecidableEq K]{knd:KeyKind prog w K}{A:ae2}{E:acU->ac8->Prop}{s:ac8}{o d:ac4}{es:Array ah5}{ep:Nat}
end
section
end
theorem bo{c:Prop}[Decidable c]{a b:Prop}(h:c->a)(h':¬ c->b):if c then a else b:=by
 by_cases z:c
 .rw[if_pos z];exact h z
 .rw[if_neg z];exact h' z
theorem Js(h:ae7)(hb:aeB<h.objs.size):bN P w H (h.push { cls:=.type "dict",data:=.dict (List.toArray []) }) h.objs.size (.dK []) :=
 #[adt _,beq_eq_false_iff_ne.mpr (adR (adk hb)),[],.nil,Heap.DictOf.new h]
section
theorem Inv.Ts(I:Inv X pins L H s):aeB<s.heap.objs.size:=by have h:ac3<s.heap.objs.size:=(I.mod.glob.keeps I.bk).lt;exact ai5 (by decide) h
def JI:TE:=λy H Q=>∀ p,H p=J->Q (.ref p) (upd H p (.dT []))
theorem JJ:PE X (.Dict [] [] pos) JI:=λpins s L H Q I h=>akW
 #[.ref s.heap.objs.size,_,I.laid (a:=s.heap.objs.size) (o:=.dT []) (t':=s.toks) (λy y z=>acL _ z) (acS _)
  #[adt _,beq_eq_false_iff_ne.mpr (adR (adk (Inv.Ts I))),[],.nil,_,(List.toArray []),0,acV _ Y,#[Y,Y,Y],Y,Y,ajD],Y,h _ (I.ar.fresh (acS _))]
theorem Tt:PE X e (λy y y=>False):=λy y y y y y h=>h.elim
theorem Bw(h:∃ t,X.mg x=O (.int n t))(hg:Gl X x)(hd:(x == ("__debug__" : Str))=false:=by decide):PE X (.Name x pos) (tC (.int n)):=by obtain⟨t,ht⟩:=h;exact qt (v:=.int n) hg ht #[t,Y] hd
end
section
end
noncomputable def qE(ks:List P2)(r:Int)(i:Nat):Bool:=decide ((aF ks i).1<=r) && decide (r<=(aF ks (i+1)).1)
theorem Tu(hu:A.units+1<aii)(ho:PE X o td)(hi:PE X i ty)(hs:xG i)(eA:X.A=A:=by rfl):PE X (.Subscript o i pos) (Br td ty):=by subst eA;exact tF hu ho hi hs
abbrev Tb:=List (P2 × S2)
noncomputable def eo(i j:Int):List Key:=[.inl i,.inl j]
theorem Bx{a b:P2}(h:eo a.1 a.2=eo b.1 b.2):a=b:=by unfold eo at h;injection h with h1 h2;injection h2 with h2 _;exact Prod.ext (Sum.inl.inj h1) (Sum.inl.inj h2)
noncomputable def iW(tb:Tb)(s:P2):Option S2:=(tb.find? λr=>decide (r.1=s)).map (·.2)
noncomputable def fV(tb:Tb)(s:P2)(w:S2):Tb:=if (tb.any λr=>decide (r.1=s))=true then tb.map (λr=>if r.1=s then (r.1,w) else r) else tb++[(s,w)]
def bJ(H:Hp):List (List Key × V)->Tb->Prop
 | [],[]=>True
 | kv::kvs,r::tb=>(kv.1=eo r.1.1 r.1.2/\aO H kv.2 r.2.1 r.2.2)/\bJ H kvs tb
 | _,_=>False
section
theorem bJ.len:∀ {kvs:List (List Key × V)} {tb:Tb},bJ H kvs tb->kvs.length=tb.length
 | [],[],_=>rfl
 | _::kvs,_::tb,h=>congrArg (· + 1) (bJ.len (kvs:=kvs) (tb:=tb) h.2)
 | [],_::_,h=>h.elim
 | _::_,[],h=>h.elim
theorem bJ.imp(f:∀ v a b,aO H v a b->aO H' v a b):∀ {kvs:List (List Key × V)} {tb:Tb},bJ H kvs tb->bJ H' kvs tb
 | [],[],_=>trivial
 | _::kvs,_::tb,h=>#[#[h.1.1,f _ _ _ h.1.2],bJ.imp f (kvs:=kvs) (tb:=tb) h.2]
 | [],_::_,h=>h.elim
 | _::_,[],h=>h.elim
theorem bJ.app:∀ {kvs mZ:List (List Key × V)} {tb tb':Tb},bJ H kvs tb->bJ H mZ tb'->bJ H (kvs++mZ) (tb++tb')
 | [],_,[],_,_,h=>h
 | _::kvs,mZ,_::tb,tb',h,h'=>#[h.1,bJ.app (kvs:=kvs) (tb:=tb) h.2 h']
 | [],_,_::_,_,h,_=>h.elim
 | _::_,_,[],_,h,_=>h.elim
theorem bJ.keys:∀ {kvs:List (List Key × V)} {tb:Tb},bJ H kvs tb->kvs.map (·.1)=tb.map λr=>eo r.1.1 r.1.2
 | [],[],_=>rfl
 | kv::kvs,r::tb,h=>by rw[adg,adg,h.1.1,bJ.keys (kvs:=kvs) (tb:=tb) h.2]
 | [],_::_,h=>h.elim
 | _::_,[],h=>h.elim
theorem bJ.any(s:P2):∀ {kvs:List (List Key × V)} {tb:Tb},bJ H kvs tb->(kvs.any λkv=>decide (kv.1=eo s.1 s.2))=tb.any λr=>decide (r.1=s)
 | [],[],_=>rfl
 | kv::kvs,r::tb,h=>by
  rw[aer,aer,bJ.any s (kvs:=kvs) (tb:=tb) h.2,h.1.1]
  congr 1
  by_cases e:r.1=s
  .rw[e,decide_eq_true Y,decide_eq_true Y]
  .rw[decide_eq_false e,decide_eq_false λz=>e (Bx z)]
 | [],_::_,h=>h.elim
 | _::_,[],h=>h.elim
theorem bJ.val(s:P2):∀ {kvs:List (List Key × V)} {tb:Tb},bJ H kvs tb->(iW tb s=J->dO kvs (eo s.1 s.2)=J)/\∀ w,iW tb s=O w->∃ v,dO kvs (eo s.1 s.2)=O v/\aO H v w.1 w.2
 | [],[],_=>#[λy=>rfl,λw h=>by cases h]
 | kv::kvs,r::tb,h=>by
  have ih:=bJ.val s (kvs:=kvs) (tb:=tb) h.2;by_cases e:r.1=s
  .have e1:iW (r::tb) s=O r.2:=by simp[iW,aeK,e]
   rw[e1,xC (h.1.1.trans (by rw[e]))];exact#[λz=>(by cases z),λw z=>(by cases z;exact#[_,Y,h.1.2])]
  .have e1:iW (r::tb) s=iW tb s:=by simp[iW,aeK,e]
   rw[e1,xD (λz=>e (Bx (h.1.1.symm.trans z)))];exact ih
 | [],_::_,h=>h.elim
 | _::_,[],h=>h.elim
theorem bJ.qP(hv:aO H v w.1 w.2):∀ {kvs:List (List Key × V)} {tb:Tb},bJ H kvs tb->bJ H (kvs.map λkv=>if kv.1=eo s.1 s.2 then (kv.1,v) else kv) (tb.map λr=>if r.1=s then (r.1,w) else r)
 | [],[],_=>trivial
 | kv::kvs,r::tb,h=>by
  rw[adg,adg];refine#[?_,bJ.qP hv (kvs:=kvs) (tb:=tb) h.2];by_cases e:r.1=s
  .rw[if_pos e,if_pos (h.1.1.trans (by rw[e]))];exact#[h.1.1,hv]
  .rw[if_neg e,if_neg (λz=>e (Bx (h.1.1.symm.trans z)))];exact h.1
 | [],_::_,h=>h.elim
 | _::_,[],h=>h.elim
theorem bJ.put(h:bJ H kvs tb)(hv:aO H v w.1 w.2):bJ H (putK kvs (eo s.1 s.2) v) (fV tb s w):=by
 unfold putK fV;rw[h.any s];split
 .exact h.qP hv
 .exact h.app #[#[Y,hv],trivial]
theorem bJ.xK:∀ {ys:List V} {kvs:List (List Key × V)} {tb:Tb},bJ H kvs tb->jv H ys kvs->d8 H ys (tb.map (·.1))
 | [],[],[],_,_=>trivial
 | y::ys,kv::kvs,r::tb,h,⟨⟨a,e,ha⟩,t⟩=>#[#[a,e,by rw[h.1.1] at ha;exact ha],bJ.xK (ys:=ys) (kvs:=kvs) (tb:=tb) h.2 t]
 | [],_::_,_,_,h=>h.elim
 | _::_,[],_,_,h=>h.elim
 | _,[],_::_,h,_=>h.elim
 | _,_::_,[],h,_=>h.elim
end
def TabAt(H:Hp)(p:ac4)(tb:Tb):Prop:=∃ kvs,H p=O (.dT kvs)/\bJ H kvs tb
def Fr(H H':Hp):Prop:=∀ b o,(∀ kvs,o≠HO.dT kvs)->H b=O o->H' b=O o
def tH(ps:List ac4)(H H':Hp):Prop:=∀ b o,b∉ps->H b=O o->H' b=O o
def JK(H:Hp)(ps:List ac4):Prop:=∀ p∈ps,∃ kvs,H p=O (.dT kvs)
section
theorem _root_.L2.aj.fr(s:aj H H'):Fr H H':=λb o y e=>s b o e
theorem SameBut.but(a:SameBut p H H')(h:p∈ps):tH ps H H':=λc o z e=>a c o (λy=>z (y ▸ h)) e
theorem tH.fr(a:tH ps H H')(d:JK H ps):Fr H H':=λb o ho e=>by
 by_cases hb:b∈ps
 .obtain⟨kvs,hk⟩:=d b hb;rw[hk] at e;exact absurd (Option.some.inj e).symm (ho kvs)
 .exact a b o hb e
theorem Tv(h:H p=O (.dT kvs)):Fr H (upd H p o):=λb u hu e=>by rw[aJ (λz=>by rw[z,h] at e;exact hu _ (Option.some.inj e).symm)];exact e
theorem Tw(h:H p=O (.dT kvs)):JK H [p]:=λb hb=>#[kvs,(ada.mp hb) ▸ h]
theorem SameBut.fr(a:SameBut p H H')(h:H p=O (.dT kvs)):Fr H H':=tH.fr (SameBut.but a (.head _)) (Tw h)
theorem aO.fr(h:aO H v a b)(f:Fr H H'):aO H' v a b:=let ⟨p,e,hp⟩:=h;#[p,e,f _ _ (λy z=>nomatch z) hp]
theorem TabAt.fr(h:TabAt H p tb)(f:Fr H H')(e:∀ kvs,H p=O (.dT kvs)->H' p=O (.dT kvs)):TabAt H' p tb:=let ⟨kvs,a,b⟩:=h;#[kvs,e _ a,b.imp λy y y z=>z.fr f]
theorem TabAt.same(h:TabAt H p tb)(s:aj H H'):TabAt H' p tb:=h.fr s.fr λy e=>s _ _ e
end
theorem xM(hn:(tb.map (·.1)).Nodup)(h:r∈tb):iW tb r.1=O r.2:=by
 induction tb with
 | nil=>cases h
 | cons x l ih =>
  rw[adg,aeI] at hn;rcases acZ.mp h with z|z
  .rw[<- z];simp[iW,aeK]
  .have e:¬ x.1=r.1:=λy=>hn.1 (y ▸ ac2.mpr #[r,z,Y]);have:iW (x::l) r.1=iW l r.1:=by simp[iW,aeK,e]
   rw[this,ih hn.2 z]
def kq(e t:Int)(s:P2):Prop:=(0<=s.1/\s.1<e)/\0<=s.2/\s.2<t
instance (e t:Int) (s:P2):Decidable (kq e t s):=by unfold kq;infer_instance
def bV(e t:Int)(tb:Tb):Prop:=(tb.map (·.1)).Nodup/\∀ r∈tb,kq e t r.1
theorem Tz(tb:Tb)(s:P2)(w:S2):(fV tb s w).length<=tb.length+1:=by unfold fV;split<;>simp
theorem bV.put(h:bV e t tb)(hs:kq e t s):bV e t (fV tb s w):=by
 unfold fV;split
 .refine#[?_,λr hr=>?_]
  .have:(tb.map λr=>if r.1=s then (r.1,w) else r).map (·.1)=tb.map (·.1):=by rw[aei];refine ad9 λr _=>?_;show (if r.1=s then (r.1,w) else r).1=r.1;split<;>rfl
   rw[this];exact h.1
  .obtain⟨x,hx,rfl⟩:=ac2.mp hr;have:=h.2 x hx;split<;>exact this
 .rename_i z;refine#[?_,λr hr=>?_]
  .rw[adx];refine Jz h.1 λy=>z ?_;obtain⟨x,hx,e⟩:=ac2.mp y;rw[aeb];exact#[x,hx,by simpa using e]
  .rcases adf.mp hr with y|y
   .exact h.2 r y
   .rw[ada.mp y];exact hs
theorem bV.nil:bV e t []:=#[ajD,λr h=>by cases h]
noncomputable def ku(tb:Tb):List (List Int):=tb.map λr=>[r.1.1,r.1.2]
noncomputable def m8(tb:Tb):Tb:=bI (ku tb) ((0,0),(J,J)) tb
theorem tI(h:r∈m8 tb):r∈tb:=oT.mem_iff.mp h
theorem oY:(m8 tb).length=tb.length:=qL
theorem ax.sort(h:ax R xs as):ax R (bI kis .non xs) (bI kis d as):=by
 have hl:=h.len;have hp:=(oQ (n:=xs.length) (lB kis)).1;unfold bI;rw[<- hl];have gen:∀ l:List Nat,(∀ i∈l,i<xs.length)->ax R (l.map λi=>xs.getD i .non) (l.map λi=>as.getD i d):=by
  intro l
  induction l with
  | nil=>intro y;exact trivial
  | cons i l ih =>
   intro q;have hi:=q i (.head _);obtain⟨s,es,hs⟩:=h.get (acP hi);refine#[?_,ih λj hj=>q j (.tail _ hj)];show R (xs.getD i .non) (as.getD i d);rw[acO,acO,es,acP hi];exact hs
 exact gen _ λi hi=>by simpa using hp.mem_iff.mp hi
theorem ax.bind:∀ {xs:List V} {bs:List β},ax R xs (bs.map f)->ax (λx b=>R x (f b)) xs bs
 | [],[],_=>trivial
 | _::_,_::_,h=>#[h.1,ax.bind h.2]
 | [],_::_,h=>h.elim
 | _::_,[],h=>h.elim
theorem ax.By:∀ {xs:List V} {bs:List β},ax (λx b=>R x (f b)) xs bs->ax R xs (bs.map f)
 | [],[],_=>trivial
 | _::_,_::_,h=>#[h.1,ax.By h.2]
 | [],_::_,h=>h.elim
 | _::_,[],h=>h.elim
theorem TC(h:bJ H kvs tb):kvs.map (·.1)=(ku tb).map λk=>k.map ahN:=by rw[h.keys];unfold ku;rw[aei];rfl
theorem TF:∀ k∈ku tb,k≠[]:=λk hk=>by
 obtain⟨r,y,rfl⟩:=ac2.mp hk;exact λz=>nomatch z
theorem TH(h:bJ H kvs tb)(hk:jv H ys kvs):ax (λx (r:P2 × S2)=>eM H x r.1) (bI (ku tb) .non ys) (m8 tb):=ax.sort (ax.bind (h.xK hk))
def kx(H:Hp)(v:V)(r:P2 × S2):Prop:=∃ a w,v = .ref a/\H a=O (.tup [.int r.1.1,.int r.1.2,w])/\aO H w r.2.1 r.2.2
theorem kx.same(h:kx H v r)(s:aj H H'):kx H' v r:=let ⟨a,w,e,ha,hw⟩:=h;#[a,w,e,s _ _ ha,hw.same s]
theorem TJ(h:aY a b=true):aY (eU a c) (eV b d)=true:=by rcases a with v|x<;>rcases b with v|y<;>rcases c with v|z<;>rcases d with v|w<;>simp[aY,eU,eV] at h ⊢<;>lia
noncomputable def cw(e:S2)(ss:List S2):S2:=ss.foldl (λe s=>(eU e.1 s.1,eV e.2 s.2)) e
theorem xN(e s:S2)(ss:List S2):cw e (s::ss)=cw (eU e.1 s.1,eV e.2 s.2) ss:=rfl
theorem JL:∀ (ss:List S2) {e:S2},aY e.1 e.2=true->aY (cw e ss).1 (cw e ss).2=true
 | [],_,h=>h
 | s::ss,e,h=>by rw[xN];exact JL ss (TJ h)
theorem TK(h:aY (cw e (ss.take i)).1 (cw e (ss.take i)).2=true):aY (cw e ss).1 (cw e ss).2=true:=by
 have:cw e ss=cw (cw e (ss.take i)) (ss.drop i):=by unfold cw;rw[<- aia,aeD]
 rw[this];exact JL _ h
theorem TL{ss:List S2}{e s:S2}{i:Nat}(h:ss[i]?=O s):cw e (ss.take (i+1))=(eU (cw e (ss.take i)).1 s.1,eV (cw e (ss.take i)).2 s.2):=by unfold cw;rw[aeh,h,aia];rfl
noncomputable def dE(e:S2)(ss:List S2):W2:=if aY (cw e ss).1 (cw e ss).2=true then J else O (cw e ss)
theorem jw:∀ {xs:List V} {ss:List S2},aX H xs ss↔ax (λx s=>aO H x s.1 s.2) xs ss
 | [],[]=>Iff.rfl
 | _::_,_::_=>and_congr Iff.rfl jw
 | [],_::_=>Iff.rfl
 | _::_,[]=>Iff.rfl
abbrev Pa:=Str × Int × S2
def tJ(H:Hp)(v:V)(p:Pa):Prop:=∃ (t q:ac4),v = .ref t/\H t=O (.tup [.str p.1,.int p.2.1,.ref q])/\H q=O (.tup [ev p.2.2.1,ev p.2.2.2])
theorem tJ.same(h:tJ H v p)(s:aj H H'):tJ H' v p:=let ⟨t,q,e,a,b⟩:=h;#[t,q,e,s _ _ a,s _ _ b]
abbrev lE(H:Hp):List V->List Pa->Prop:=ax (tJ H)
theorem lE.same(h:lE H xs ps)(s:aj H H'):lE H' xs ps:=ax.imp (λy y r=>r.same s) h
noncomputable def tK(k:Str)(t:Int)(p:Pa):Bool:=decide (p.1=k) && decide (p.2.1=t)
noncomputable def sel(ps:List Pa)(k:Str)(t:Int):List S2:=(ps.filter (tK k t)).map (·.2.2)
noncomputable def hasB(n:Int)(k:Str)(t:Int):Bool:=if k = "step" then decide (0<=t/\t<n) && decide (0<=t+1/\t+1<n) else decide (k = "at") && decide (0<=t/\t<n)
def jx(n:Int)(ps:List Pa):Prop:=∀ p∈ps,hasB n p.1 p.2.1=true
theorem TM{n t:Int}{k:Str}(h:k ≠ "step"):hasB n k t=true↔k = "at" /\ 0<=t/\t<n:=by unfold hasB;rw[if_neg h];simp only[ad2,decide_eq_true_eq]
theorem int_at{cs:List Int}{t:Int}(h0:0<=t)(h1:t<(cs.length:Int)):dq (cs.map V.int) t=O (.int (cs.getD t.toNat 0)):=by
 have e:t=((t.toNat:Nat):Int):=by lia
 refine (congrArg (dq _) e).trans (cZ ?_);rw[ac1,acO,acP (by lia)];rfl
structure Gd(n:Nat)(d:ahp):Prop where
 eqv:ae5 d d=true
 lay:d.canLay0=true
 dep:d.depth<=n
theorem Gd.up(h:Gd n d)(hm:n<=m):Gd m d:=#[h.eqv,h.lay,acR h.dep hm]
theorem Gd.of(h:iT n d=true):Gd n d:=let ⟨a,b,c⟩:=ID d h;#[a,b,c]
theorem Gd.str(h:al5 x=true):Gd 0 (.str x):=#[by simp[ae5],by simpa [agV] using h,acS _]
theorem Gd.int(i:Int):Gd 0 (.int i):=.of rfl
theorem Gd.all:∀ {ds:List ahp} {n:Nat},(∀ d∈ds,Gd n d)->agA ds ds=true/\agP ds=true/\ahq ds<=n
 | [],n,_=>#[Y,Y,adt _]
 | d::ds,n,h=>by obtain⟨a,b,c⟩:=h d (.head _);obtain⟨a',b',c'⟩:=Gd.all (ds:=ds) λx hx=>h x (.tail _ hx);exact#[by simp only[agA,a,a',aio],by simp only[agP,b,b',aio],by simp only[ahq];lia]
theorem Gd.lst(h:∀ d∈ds,Gd n d):Gd (n+1) (.list ds):=by obtain⟨a,b,c⟩:=Gd.all h;exact#[by simpa only [ae5] using a,by simpa only [agV] using b,by simp only[PyData.depth];lia]
theorem Gd.tup(h:∀ d∈ds,Gd n d):Gd (n+1) (.tuple ds):=by obtain⟨a,b,c⟩:=Gd.all h;exact#[by simpa only [ae5] using a,by simpa only [agV] using b,by simp only[PyData.depth];lia]
theorem TN{K:acM}{H:Hp}{x y:V}{d:ahp}{n:Nat}{neg:Bool}{Q:VK}(hx:Dat K H x d)(hy:Dat K H y d)(g:Gd n d)(hn:n<=60)(q:Q (.bl (!neg)) H):A4 K neg x y H Q:=by refine#[d,d,hx,hy,g.lay,g.lay,acR g.dep hn,?_];rw[g.eqv];cases neg<;>exact q
theorem qV(bP:Ok H):∀ {xs:List V} {as:List α} {ys:List V},ax R xs as ->
 (∀ x a,R x a->∀ Q,Q (p a) H->tt (O x::ρ) H Q)->(∀ x a,p a=true->R x a->∀ Q:VK,(∀ y,R' y (f a)->Q y H)->te (O x::ρ) H Q)->(∀ zs,ax R' zs ((as.filter p).map f)->Q' (ys++zs) H)->eL Ok ρ tt te xs ys H Q'
 | [],[],ys,_,_,_,q=>#[bP,by simpa using q [] trivial]
 | x::xs,a::as,ys,h,ht,he,q=>by
  refine#[bP,ht x a h.1 _ ?_];by_cases hb:p a=true
  .rw[if_pos hb];refine he x a hb h.1 _ λy ry=>qV bP h.2 ht he λzs hz=>?_;have:=q (y::zs) (by rw[aek,if_pos hb];exact#[ry,hz]);simpa using this
  .rw[if_neg hb];refine qV bP h.2 ht he λzs hz=>q zs ?_;rw[aek,if_neg hb];exact hz
 | [],_::_,_,h,_,_,_=>h.elim
 | _::_,[],_,h,_,_,_=>h.elim
theorem TQ{K:acM}{i j k:Nat}{p:ac4}{x y z:V}{L:L2.St}{H:Hp}{Q:L2.St->Hp->Prop}(h:au K H p [x,y,z])(q:Q (((L.set i (O x)).set j (O y)).set k (O z)) H):je K 3 (cJ (bZ i) (cJ (bZ j) (cJ (bZ k) iO))) (.ref p) L H Q :=
 #[p,_,Y,h,Y,_,_,Y,_,_,Y,_,_,Y,Y,q]
end Gz
namespace Gz
open PySem L2
def bC(s:S2)(x:Int):Prop:=(∀ a,s.1=O a->a<=x)/\∀ b,s.2=O b->x<=b
def cc(w:W2)(x:Int):Prop:=∃ s,w=O s/\bC s x
theorem Bz:bC s x↔hold s.1 s.2 x=true:=Bl.symm
theorem BA:bC (eU a.1 b.1,eV a.2 b.2) x↔bC a x/\bC b x:=by obtain⟨a1,a2⟩:=a;obtain⟨b1,b2⟩:=b;unfold bC;rcases a1 with y|p<;>rcases a2 with y|q<;>rcases b1 with y|r<;>rcases b2 with y|s<;>simp[eU,eV]<;>(try split)<;>(try split)<;>lia
theorem JM:∀ {e:S2},bC (cw e ss) x↔bC e x/\∀ s∈ss,bC s x:=by
 induction ss with
 | nil=>intro e;exact#[λh=>#[h,λy z=>nomatch z],λh=>h.1]
 | cons s ss ih =>
  intro e;rw[xN,ih,BA];simp only[acZ,forall_eq_or_imp,and_assoc]
theorem TR(h:aY s.1 s.2=false):∃ x,bC s x:=by
 obtain⟨a,b⟩:=s;rcases a with y|a<;>rcases b with y|b
 .exact#[0,λy z=>(nomatch z),λy z=>(nomatch z)]
 .exact#[b,λy z=>(nomatch z),λy z=>by cases z;exact adZ _]
 .exact#[a,λy z=>by cases z;exact adZ _,λy z=>(nomatch z)]
 .refine#[a,λy z=>by cases z;exact adZ _,λy z=>?_];cases z;simp[aY] at h;exact h
theorem JN(h:bC s x):aY s.1 s.2=false:=by
 obtain⟨a,b⟩:=s;rcases a with y|a<;>rcases b with y|b
 .rfl
 .rfl
 .rfl
 .have h1:=h.1 a rfl;have h2:=h.2 b rfl;simp[aY];lia
noncomputable def iF(a b:S2):W2:=if aY (eU a.1 b.1) (eV a.2 b.2)=true then J else O (eU a.1 b.1,eV a.2 b.2)
theorem oZ:cc (iF a b) x↔bC a x/\bC b x:=by
 unfold iF;constructor
 .rintro ⟨s,e,h⟩;split at e
  .cases e
  .cases e;exact BA.mp h
 .intro h;have h:=BA.mpr h;rw[if_neg (by rw[JN h];simp)];exact#[_,Y,h]
theorem JO(h:iF a b=O s):aY s.1 s.2=false:=by
 unfold iF at h;split at h
 .cases h
 .rename_i hc;cases h;simpa using hc
theorem JP:cc (dE (J,J) ss) x ↔ ∀ s∈ss,bC s x:=by
 have e0:bC (J,J) x:=#[λy z=>(nomatch z),λy z=>(nomatch z)]
 unfold dE;constructor
 .rintro ⟨s,e,h⟩;split at e
  .cases e
  .cases e;exact (JM.mp h).2
 .intro h;have h:=JM.mpr #[e0,h];rw[if_neg (by rw[JN h];simp)];exact#[_,Y,h]
noncomputable def eX(s:S2)(p:P2):S2:=(s.1.map (· + p.1),s.2.map (· + p.2))
theorem xO(h:bC s x)(h1:p.1<=y-x)(h2:y-x<=p.2):bC (eX s p) y:=by
 obtain⟨a,b⟩:=s;refine#[λz e=>?_,λz e=>?_]
 .obtain⟨a,ea,rfl⟩:=ady.mp (show a.map (· + p.1)=O z from e);have:=h.1 a ea;lia
 .obtain⟨b,eb,rfl⟩:=ady.mp (show b.map (· + p.2)=O z from e);have:=h.2 b eb;lia
theorem TU(hs:aY s.1 s.2=false)(hp:p.1<=p.2)(h:bC (eX s p) y):∃ x,bC s x/\p.1<=y-x/\y-x<=p.2:=by
 obtain⟨a,b⟩:=s;rcases a with v|a<;>rcases b with v|b
 .exact#[y-p.1,#[λv z=>(nomatch z),λv z=>(nomatch z)],by lia,by lia]
 .have h2:=h.2 (b+p.2) rfl;exact#[y-p.2,#[λv z=>(nomatch z),λv z=>by cases z;lia],by lia,by lia]
 .have h1:=h.1 (a+p.1) rfl;exact#[y-p.1,#[λv z=>by cases z;lia,λv z=>(nomatch z)],by lia,by lia]
 .have h1:=h.1 (a+p.1) rfl;have h2:=h.2 (b+p.2) rfl;simp[aY] at hs;by_cases hc:a<=y-p.2
  .exact#[y-p.2,#[λv z=>by cases z;lia,λv z=>by cases z;lia],by lia,by lia]
  .exact#[a,#[λv z=>by cases z;lia,λv z=>by cases z;lia],by lia,by lia]
noncomputable def aZ(bx:Nat->W2)(st:Nat->P2):Nat->W2
 | 0=>bx 0
 | t+1=>match bx (t+1),aZ bx st t with
  | some b,O k=>iF b (eX k (st t))
  | _,_=>J
def dP(w:W2):Prop:=∀ s,w=O s->aY s.1 s.2=false
theorem xP(h0:dP (bx 0)):∀ t,dP (aZ bx st t)
 | 0=>h0
 | t+1=>λs e=>by
  unfold aZ at e;split at e
  .exact JO e
  .cases e
theorem JQ(h:aZ bx st (t+1)=O s):∃ b k,bx (t+1)=O b/\aZ bx st t=O k/\iF b (eX k (st t))=O s:=by
 unfold aZ at h;split at h
 .rename_i b k e1 e2;exact#[b,k,e1,e2,h]
 .cases h
theorem xQ{bx:Nat->W2}{st:Nat->P2}{c:Nat->Int}{n:Nat}(hb:∀ t,t<=n->cc (bx t) (c t))(hs:∀ t,t<n->(st t).1<=c (t+1)-c t/\c (t+1)-c t<=(st t).2):∀ t,t<=n->cc (aZ bx st t) (c t)
 | 0,h=>hb 0 h
 | t+1,h=>by obtain⟨k,ek,hk⟩:=xQ hb hs t (by lia);obtain⟨b,eb,BB⟩:=hb (t+1) h;obtain⟨h1,h2⟩:=hs t (by lia);unfold aZ;rw[eb,ek];exact oZ.mpr #[BB,xO hk h1 h2]
theorem xR:∀ {t:Nat},cc (aZ bx st t) x->cc (bx t) x
 | 0,h=>h
 | t+1,⟨s,e,h⟩=>by obtain⟨b,k,e1,y,e3⟩:=JQ e;exact#[b,e1,(oZ.mp #[s,e3,h]).1]
theorem BC(h0:dP (bx 0))(hp:(st t).1<=(st t).2)(h:cc (aZ bx st (t+1)) y):∃ x,cc (aZ bx st t) x/\(st t).1<=y-x/\y-x<=(st t).2:=by obtain⟨s,e,h⟩:=h;obtain⟨b,k,z,e2,e3⟩:=JQ e;obtain⟨x,hx,h1,h2⟩:=TU (xP h0 t k e2) hp (oZ.mp #[s,e3,h]).2;exact#[x,#[k,e2,hx],h1,h2]
noncomputable def eY(n:Nat)(st:Nat->P2)(t:Nat):P2:=(-(st (n-1-t)).2,-(st (n-1-t)).1)
noncomputable def cP(n:Nat)(bx:Nat->W2)(st:Nat->P2)(t:Nat):W2:=aZ (λk=>aZ bx st (n-k)) (eY n st) (n-t)
structure o4(n:Nat)(bx:Nat->W2)(st:Nat->P2):Prop where
 ok:∀ t,t<=n->∃ s,cP n bx st t=O s/\aY s.1 s.2=false
 sub:∀ t x,t<=n->cc (cP n bx st t) x->cc (bx t) x
 next:∀ t x,t<n->cc (cP n bx st t) x->∃ y,cc (cP n bx st (t+1)) y/\(st t).1<=y-x/\y-x<=(st t).2
theorem TV(h0:dP (bx 0))(hp:∀ t,t<n->(st t).1<=(st t).2)(hf:∀ t,t<=n->aZ bx st t≠J):o4 n bx st:=by
 have BD:=xP (st:=st) h0;have TX:∀ k,k<=n->∃ s,aZ (λk=>aZ bx st (n-k)) (eY n st) k=O s:=by
  intro k
  induction k with
  | zero =>
   intro v;obtain⟨s,e⟩:=ahE.mp (hf n (acS _));exact#[s,e]
  | succ k ih =>
   intro hk;obtain⟨s,e⟩:=ih (by lia);obtain⟨y,hy⟩:=TR (xP (bx:=λk=>aZ bx st (n-k)) (BD n) k s e);have JR:cc (aZ bx st (n-k)) y:=xR (bx:=λk=>aZ bx st (n-k)) #[s,e,hy];rw[show n-k=n-(k+1)+1 by lia] at JR;obtain⟨x,⟨f,ef,hx⟩,h1,h2⟩:=BC h0 (hp _ (by lia)) JR;have em:n-1-k=n-(k+1):=by lia
   have hm:bC (eX s (eY n st k)) x:=xO hy (by unfold eY;rw[em];dsimp only;lia) (by unfold eY;rw[em];dsimp only;lia);obtain⟨z,ez,v⟩:=oZ.mpr #[hx,hm];refine#[z,?_];unfold aZ;rw[e];show (match aZ bx st (n-(k+1)),O s with
    | some b,O TY=>iF b (eX TY (eY n st k))
    | _,_=>J)=O z
   rw[ef];exact ez
 refine#[λt ht=>?_,λt x ht h=>?_,λt x ht h=>?_]
 .obtain⟨s,e⟩:=TX (n-t) (by lia);exact#[s,e,xP (bx:=λk=>aZ bx st (n-k)) (BD n) _ s e]
 .have:=xR (bx:=λk=>aZ bx st (n-k)) h;rw[show n-(n-t)=t by lia] at this;exact xR this
 .unfold cP at h;rw[show n-t=n-(t+1)+1 by lia] at h;have hb:(eY n st (n-(t+1))).1<=(eY n st (n-(t+1))).2:=by unfold eY;have:=hp (n-1-(n-(t+1))) (by lia);lia
  obtain⟨y,hy,h1,h2⟩:=BC (bx:=λk=>aZ bx st (n-k)) (BD n) hb h;have em:n-1-(n-(t+1))=t:=by lia
  unfold eY at h1 h2;exact#[y,hy,by lia,by lia]
def fB(ps:List P2)(c:Nat->Int):Prop:=∀ k,k<ps.length->(aF ps k).1<=c (k+1)-c k/\c (k+1)-c k<=(aF ps k).2
theorem BE(h:fB ps c):∀ n,i+n<=ps.length->pre (·.1) ps (i+n)-pre (·.1) ps i<=c (i+n)-c i/\c (i+n)-c i<=pre (·.2) ps (i+n)-pre (·.2) ps i
 | 0,_=>by simp
 | n+1,hn=>by have ih:=BE h (i:=i) n (by lia);have hk:=h (i+n) (by lia);rw[show i+(n+1)=(i+n)+1 by lia,gX _ ps (by lia),gX _ ps (by lia)];lia
theorem BF(h:fB ps c)(hi:i<=ps.length)(hj:j<=ps.length):c j-c i<=bL ps i j:=by
 unfold bL;split
 .have:=(BE h (i:=i) (j-i) (by lia)).2
  rwa [show i+(j-i)=j by lia] at this
 .have:=(BE h (i:=j) (i-j) (by lia)).1;rw[show j+(i-j)=i by lia] at this;lia
abbrev Mk:=Nat × S2
def meets(ms:List Mk)(c:Nat->Int):Prop:=∀ m∈ms,bC m.2 (c m.1)
structure lF(ps:List P2)(ms:List Mk)(tp:Nat->Option P2):Prop where
 val:∀ t v k,t<=ps.length->tp t=O (v,k)->∃ (i:Nat) (m:Mk) (h:Int),k=(i:Int)/\ms[i]?=O m/\m.2.2=O h/\h+bL ps m.1 t<=v
 top:∀ m∈ms,∀ h,m.2.2=O h->∃ v k,tp m.1=O (v,k)/\v<=h
 fwd:∀ t v k,t<ps.length->tp t=O (v,k)->∃ v' k',tp (t+1)=O (v',k')/\v'<=v+(aF ps t).2
 bwd:∀ t v k,t<ps.length->tp (t+1)=O (v,k)->∃ v' k',tp t=O (v',k')/\v'<=v-(aF ps t).1
def tL(ms:List Mk)(tp:Nat->Option P2):Prop:=∀ m∈ms,∀ l v k,m.2.1=O l->tp m.1=O (v,k)->l<=v
theorem TZ(hp:dw ps)(hm:∀ m∈ms,m.1<=ps.length)(T:lF ps ms tp)(hn:tL ms tp):∃ c,fB ps c/\meets ms c:=by
 by_cases h0:tp 0=J
 .have T5:∀ t,t<=ps.length->tp t=J:=by
   intro t
   induction t with
   | zero=>intro y;exact h0
   | succ t ih =>
    intro ht;cases e:tp (t+1) with
    | none=>rfl
    | some q =>
     obtain⟨v,k⟩:=q;obtain⟨v',k',e',y⟩:=T.bwd t v k (by lia) e;rw[ih (by lia)] at e';cases e'
  have T6:∀ m∈ms,m.2.2=J:=λm cV=>by
   cases e:m.2.2 with
   | none=>rfl
   | some h =>
    obtain⟨v,k,e',y⟩:=T.top m cV h e;rw[T5 m.1 (hm m cV)] at e';cases e'
  have big:∀ (l:List Mk),∃ M:Int,∀ m∈l,∀ a,m.2.1=O a->a<=M+pre (·.1) ps m.1:=by
   intro l
   induction l with
   | nil=>exact#[0,λy z=>nomatch z]
   | cons m l ih =>
    obtain⟨M,hM⟩:=ih;cases e:m.2.1 with
    | none =>
     refine#[M,λq hq a ha=>?_];rcases acZ.mp hq with rfl|hq
     .rw[e] at ha;cases ha
     .exact hM q hq a ha
    | some b =>
     refine#[if M<=b-pre (·.1) ps m.1 then b-pre (·.1) ps m.1 else M,λq hq a ha=>?_];rcases acZ.mp hq with rfl|hq
     .rw[e] at ha;cases ha;split<;>lia
     .have:=hM q hq a ha;split<;>lia
  obtain⟨M,hM⟩:=big ms;refine#[λt=>M+pre (·.1) ps t,λk hk=>?_,λm cV=>#[λa ha=>hM m cV a ha,λb hb=>?_]]
  .have:=hp _ (oP hk);dsimp only;rw[gX _ ps hk];lia
  .rw[T6 m cV] at hb;cases hb
 .have JS:∀ t,t<=ps.length->∃ v k,tp t=O (v,k):=by
   intro t
   induction t with
   | zero =>
    intro y;obtain⟨⟨v,k⟩,e⟩:=ahE.mp h0;exact#[v,k,e]
   | succ t ih =>
    intro ht;obtain⟨v,k,e⟩:=ih (by lia);obtain⟨v',k',e',y⟩:=T.fwd t v k (by lia) e;exact#[v',k',e']
  refine#[λt=>((tp t).map (·.1)).getD 0,λk hk=>?_,λm cV=>#[λa ha=>?_,λb hb=>?_]]
  .obtain⟨v,q,e⟩:=JS k (by lia);obtain⟨v',q',e',h1⟩:=T.fwd k v q hk e;obtain⟨v2,q2,e2,h2⟩:=T.bwd k v' q' hk e';rw[e] at e2;cases e2;dsimp only;rw[e,e'];simp only[Option.map_some,ag8];lia
  .obtain⟨v,q,e⟩:=JS m.1 (hm m cV);have:=hn m cV a v q ha e;dsimp only;rw[e];exact this
  .obtain⟨v,q,e,h1⟩:=T.top m cV b hb;dsimp only;rw[e];exact h1
def clash(ps:List P2)(a b:Mk):Prop:=∃ h l,a.2.2=O h/\b.2.1=O l/\h+bL ps a.1 b.1<l
theorem T8(hc:fB ps c)(hm:meets ms c)(ht:∀ m∈ms,m.1<=ps.length)(ha:a∈ms)(hb:b∈ms):¬ clash ps a b:=by rintro ⟨h,l,e1,e2,aW⟩;have h1:=(hm a ha).2 h e1;have h2:=(hm b hb).1 l e2;have h3:=BF hc (ht a ha) (ht b hb);lia
noncomputable def fW(a b:P2):Bool:=decide (a.1<b.1) || (decide (a.1=b.1) && decide (a.2<b.2))
noncomputable def fX(a b:P2):P2:=if fW b a=true then b else a
noncomputable def ky:Option P2->Option P2->Option P2
 | none,b=>b
 | some a,J=>O a
 | some a,O b=>O (fX a b)
theorem BG(a b:P2):(fX a b=a∨fX a b=b)/\(fX a b).1<=a.1/\(fX a b).1<=b.1:=by
 unfold fX fW;split
 .rename_i h;simp only[afD,ad2,decide_eq_true_eq] at h;exact#[.inr rfl,by lia,by lia]
 .rename_i h;simp only[afD,ad2,decide_eq_true_eq,not_or,not_and] at h;exact#[.inl rfl,by lia,by lia]
theorem JT(a b:Option P2):ky a b=a∨ky a b=b:=by
 rcases a with y|a<;>rcases b with y|b
 .exact .inl rfl
 .exact .inr rfl
 .exact .inl rfl
 .show O (fX a b)=O a∨O (fX a b)=O b;rcases (BG a b).1 with h|h<;>rw[h]
  .exact .inl rfl
  .exact .inr rfl
def fD(a:Option P2)(v:Int):Prop:=∃ w k,a=O (w,k)/\w<=v
theorem T9(h:fD a v):fD (ky a b) v:=by
 obtain⟨w,k,rfl,hw⟩:=h;rcases b with y|b
 .exact#[w,k,Y,hw]
 .have:=(BG (w,k) b).2.1;exact#[(fX (w,k) b).1,(fX (w,k) b).2,Y,by dsimp only at this;lia]
theorem BH(h:fD b v):fD (ky a b) v:=by
 obtain⟨w,k,rfl,hw⟩:=h;rcases a with y|a
 .exact#[w,k,Y,hw]
 .have:=(BG a (w,k)).2.2;exact#[(fX a (w,k)).1,(fX a (w,k)).2,Y,by dsimp only at this;lia]
noncomputable def qW(a:Option P2)(Ua:Int):Option P2:=a.map λq=>(q.1+Ua,q.2)
theorem JU(h:fD a v):fD (qW a b) (v+b):=by obtain⟨w,k,rfl,hw⟩:=h;exact#[w+b,k,Y,by lia]
def gZ(ps:List P2)(ms:List Mk)(t:Nat)(a:Option P2):Prop:=∀ v k,a=O (v,k)->∃ (i:Nat) (m:Mk) (h:Int),k=(i:Int)/\ms[i]?=O m/\m.2.2=O h/\h+bL ps m.1 t<=v
theorem gZ.BI(ha:gZ ps ms t a)(hb:gZ ps ms t b):gZ ps ms t (ky a b):=by
 rcases JT a b with h|h<;>rw[h]
 .exact ha
 .exact hb
theorem Ub(ps:List P2)(t:Nat):bL ps t t=0:=by unfold bL;rw[if_pos (acS _)];lia
theorem Uc(h:t<ps.length):bL ps t (t+1)=(aF ps t).2:=by unfold bL;rw[if_pos (ahm _),gX _ ps h];lia
theorem Ud(h:t<ps.length):bL ps (t+1) t = -(aF ps t).1:=by unfold bL;rw[if_neg (by lia),gX _ ps h];lia
theorem gZ.lift(hp:dw ps)(hm:∀ m∈ms,m.1<=ps.length)(ht:t<=ps.length)(hu:u<=ps.length)(hb:bL ps t u=b)(h:gZ ps ms t a):gZ ps ms u (qW a b):=by intro v k e;obtain⟨⟨w,q⟩,ea,e⟩:=ady.mp e;cases e;obtain⟨i,m,x,e1,e2,e3,hx⟩:=h w q ea;refine#[i,m,x,e1,e2,e3,?_];have:=SM hp (hm m (ads e2)) hu ht;lia
noncomputable def kz(tp:Nat->Option P2)(i:Nat)(x:Option P2):Nat->Option P2:=λt=>if t=i then x else tp t
theorem o5:kz tp i x i=x:=if_pos rfl
theorem lG(h:t≠i):kz tp i x t=tp t:=if_neg h
theorem JV(h:∀ t,t<=ps.length->gZ ps ms t (tp t))(hx:gZ ps ms i x):∀ t,t<=ps.length->gZ ps ms t (kz tp i x t):=λt ht=>by
 by_cases e:t=i
 .subst e;rw[o5];exact hx
 .rw[lG e];exact h t ht
theorem xS(h:fD (tp t) v):fD (kz tp i (ky (tp i) b) t) v:=by
 by_cases e:t=i
 .subst e;rw[o5];exact T9 h
 .rw[lG e];exact h
structure T1(ps:List P2)(ms:List Mk)(j:Nat)(tp:Nat->Option P2):Prop where
 val:∀ t,t<=ps.length->gZ ps ms t (tp t)
 top:∀ m∈ms.take j,∀ h,m.2.2=O h->fD (tp m.1) h
theorem T1.nil:T1 ps ms 0 λy=>J:=#[λy y y y e=>(nomatch e),λy h=>by simp at h]
theorem T1.skip(T:T1 ps ms j tp)(hm:ms[j]?=O m)(hn:m.2.2=J):T1 ps ms (j+1) tp:=#[T.val,λq hq h e=>by
 rw[aeh,hm] at hq;rcases adf.mp hq with z|z
 .exact T.top q z h e
 .obtain rfl:q=m:=by simpa using z
  rw[hn] at e;cases e]
theorem T1.put(T:T1 ps ms j tp)(hm:ms[j]?=O m)(hh:m.2.2=O h):T1 ps ms (j+1) (kz tp m.1 (ky (tp m.1) (O (h,(j:Int))))):=by
 have hv:gZ ps ms m.1 (O (h,(j:Int))):=λv k e=>by cases e;exact#[j,m,h,Y,hm,hh,by rw[Ub];lia]
 refine#[λt ht=>?_,λq hq x e=>?_]
 .by_cases e:t=m.1
  .subst e;rw[o5];exact (T.val _ ht).BI hv
  .rw[lG e];exact T.val t ht
 .rw[aeh,hm] at hq;rcases adf.mp hq with z|z
  .exact xS (T.top q z x e)
  .obtain rfl:q=m:=by simpa using z
   rw[hh] at e;cases e;rw[o5];exact BH #[h,j,Y,adZ _]
structure T2(ps:List P2)(ms:List Mk)(j:Nat)(tp:Nat->Option P2):Prop where
 val:∀ t,t<=ps.length->gZ ps ms t (tp t)
 top:∀ m∈ms,∀ h,m.2.2=O h->fD (tp m.1) h
 fwd:∀ t,t<j->∀ v,fD (tp t) v->fD (tp (t+1)) (v+(aF ps t).2)
theorem T1.two(T:T1 ps ms ms.length tp):T2 ps ms 0 tp:=#[T.val,λm h=>T.top m (by rw[aeP];exact h),λy h=>absurd h (ae0 _)]
theorem T2.step(hp:dw ps)(hm:∀ m∈ms,m.1<=ps.length)(hj:j<ps.length)(T:T2 ps ms j tp):T2 ps ms (j+1) (kz tp (j+1) (ky (tp (j+1)) (qW (tp j) (aF ps j).2))):=by
 refine#[JV T.val ((T.val _ (by lia)).BI ((T.val j (by lia)).lift hp hm (by lia) (by lia) (Uc hj))),λm h x e=>xS (T.top m h x e),λt ht v hv=>?_];rw[lG (by lia)] at hv;by_cases e:t=j
 .subst e;rw[o5];exact BH (JU hv)
 .rw[lG (by lia)];exact T.fwd t (by lia) v hv
structure T3(ps:List P2)(ms:List Mk)(j:Nat)(tp:Nat->Option P2):Prop where
 val:∀ t,t<=ps.length->gZ ps ms t (tp t)
 top:∀ m∈ms,∀ h,m.2.2=O h->fD (tp m.1) h
 fwd:∀ t,t<ps.length->∀ v,fD (tp t) v->fD (tp (t+1)) (v+(aF ps t).2)
 bwd:∀ t,j<=t->t<ps.length->∀ v,fD (tp (t+1)) v->fD (tp t) (v-(aF ps t).1)
theorem T2.three(T:T2 ps ms ps.length tp):T3 ps ms ps.length tp:=#[T.val,T.top,T.fwd,λt h1 h2=>absurd h2 (by lia)]
theorem T3.step(hp:dw ps)(hm:∀ m∈ms,m.1<=ps.length)(hj:j<ps.length)(T:T3 ps ms (j+1) tp):T3 ps ms j (kz tp j (ky (tp j) (qW (tp (j+1)) (-(aF ps j).1)))):=by
 have h1:=hp _ (oP hj);refine#[JV T.val ((T.val _ (by lia)).BI ((T.val (j+1) (by lia)).lift hp hm (by lia) (by lia) (Ud hj))),λm h x e=>xS (T.top m h x e),λt ht v hv=>?_,λt h2 h3 v hv=>?_]
 .by_cases e:t=j
  .subst e;rw[o5] at hv;rw[lG (by lia)];rcases JT (tp t) (qW (tp (t+1)) (-(aF ps t).1)) with z|z
   .rw[z] at hv;exact T.fwd t ht v hv
   .rw[z] at hv;obtain⟨w,k,e,hw⟩:=hv;obtain⟨⟨w',k'⟩,e1,e2⟩:=ady.mp e;cases e2;exact#[w',k',e1,by dsimp only at hw;lia]
  .rw[lG e] at hv;exact xS (T.fwd t ht v hv)
 .rw[lG (by lia)] at hv;by_cases e:t=j
  .subst e;rw[o5];refine BH ?_;have:=JU (b:=-(aF ps t).1) hv
   rwa [show v + -(aF ps t).1=v-(aF ps t).1 by lia] at this
  .rw[lG e];exact T.bwd t (by lia) h3 v hv
theorem T3.tops(T:T3 ps ms 0 tp):lF ps ms tp :=
 #[λt v k ht e=>T.val t ht v k e,T.top,λt v k ht e=>T.fwd t ht v #[v,k,e,adZ _],λt v k ht e=>T.bwd t (adt _) ht v #[v,k,e,adZ _]]
theorem lF.clash(T:lF ps ms tp)(hb:b.1<=ps.length)(e:tp b.1=O (v,k))(hl:b.2.1=O l)(hv:v<l):∃ (i:Nat) (a:Mk),k=(i:Int)/\ms[i]?=O a/\clash ps a b:=by obtain⟨i,m,h,e1,e2,e3,h4⟩:=T.val _ v k hb e;exact#[i,m,e1,e2,h,l,e3,hl,by lia]
theorem BJ:∀ t,(∀ k,k<=t->bx k=Ue k)->(∀ k,k<t->st k=bS k)->aZ bx st t=aZ Ue bS t
 | 0,h,_=>h 0 (acS _)
 | t+1,h,hs=>by unfold aZ;rw[h (t+1) (acS _),BJ t (λk hk=>h k (by lia)) (λk hk=>hs k (by lia)),hs t (by lia)]
noncomputable def fE(ws:List W2)(t:Nat):W2:=ws.getD t J
noncomputable def bw(ss:List S2)(t:Nat):S2:=ss.getD t (J,J)
noncomputable def atT(ms:List Mk)(t:Nat):List S2:=(ms.filter λm=>decide (m.1=t)).map (·.2)
noncomputable def bK(ms:List Mk)(t:Nat):W2:=dE (J,J) (atT ms t)
theorem BK:cc (bK ms t) x ↔ ∀ m∈ms,m.1=t->bC m.2 x:=by
 unfold bK;rw[JP];unfold atT;constructor
 .intro h m hm e;exact h _ (ac2.mpr #[m,adG.mpr #[hm,by simpa using e],Y])
 .intro h s hs;obtain⟨m,hm,rfl⟩:=ac2.mp hs;obtain⟨h1,h2⟩:=adG.mp hm;exact h m h1 (by simpa using h2)
theorem JW(ms:List Mk)(t:Nat):dP (bK ms t):=λs e=>by
 unfold bK dE at e;split at e
 .cases e
 .rename_i h;cases e;simpa using h
theorem JX(hc:fB ps c)(hm:meets ms c):∀ t,t<=ps.length->aZ (bK ms) (aF ps) t≠J:=λt ht e=>by obtain⟨s,es,y⟩:=xQ (bx:=bK ms) (st:=aF ps) (c:=c) (n:=ps.length) (λt y=>BK.mpr λm cV e=>by rw[<- e];exact hm m cV) (λt ht=>hc t ht) t ht;rw[e] at es;cases es
theorem BM(hp:dw ps)(hf:∀ t,t<=ps.length->aZ (bK ms) (aF ps) t≠J):o4 ps.length (bK ms) (aF ps):=TV (JW ms 0) (λt ht=>hp _ (oP ht)) hf
noncomputable def lH(ps:List P2):List P2:=ps.reverse.map λp=>(-p.2,-p.1)
theorem Ug(h:t<ps.length):aF (lH ps) t=eY ps.length (aF ps) t:=by unfold lH eY aF;rw[acO,ac1,afs h,acO,acP (by lia)];rfl
theorem back_eq(hl:ss.length=ps.length+1)(h:∀ t,t<ps.length+1->aZ (bK ms) (aF ps) t=O (bw ss t))(ht:t<=ps.length):aZ (fE (ss.reverse.map O)) (aF (lH ps)) t=cP ps.length (bK ms) (aF ps) (ps.length-t):=by unfold cP;rw[show ps.length-(ps.length-t)=t by lia];refine BJ t (λk hk=>?_) λk hk=>Ug (by lia);rw[h (ps.length-k) (by lia)];unfold fE bw;rw[acO,ac1,afs (by lia),hl,show ps.length+1-1-k=ps.length-k by lia,acO,acP (by lia)];rfl
theorem Uh(hl:ss.length=n+1)(ht:t<=n):bw ss.reverse t=bw ss (n-t):=by unfold bw;rw[acO,afs (by lia),acO,hl,show n+1-1-t=n-t by lia]
theorem Ui(T:o4 ps.length (bK ms) (aF ps))(ht:t<ps.length)(hx:cc (cP ps.length (bK ms) (aF ps) t) x)(hs:cP ps.length (bK ms) (aF ps) (t+1)=O s):∃ r,iF s (eX (O x,O x) (aF ps t))=O r/\∀ y,bC r y->cc (cP ps.length (bK ms) (aF ps) (t+1)) y/\(aF ps t).1<=y-x/\y-x<=(aF ps t).2:=by
 obtain⟨y,⟨s',e',hy⟩,h1,h2⟩:=T.next t x ht hx
 rw[hs] at e';cases e';have xx:bC (O x,O x) x:=#[λ_ z=>by cases z;exact adZ _,λ_ z=>by cases z;exact adZ _]
 obtain⟨r,er,_⟩:=oZ.mpr #[hy,xO xx h1 h2];refine#[r,er,λz hz=>?_];obtain⟨z1,z2⟩:=oZ.mp #[r,er,hz];refine#[#[s,hs,z1],?_];have a:=z2.1 (x+(aF ps t).1) rfl;have b:=z2.2 (x+(aF ps t).2) rfl;lia
noncomputable def bT(cs:List Int)(t:Nat):Int:=cs.getD t 0
theorem meets_of(T:o4 ps.length (bK ms) (aF ps))(hm:∀ m∈ms,m.1<=ps.length)(h:∀ t,t<=ps.length->cc (cP ps.length (bK ms) (aF ps) t) (c t)):meets ms c:=λm cV=>BK.mp (T.sub _ _ (hm m cV) (h _ (hm m cV))) m cV rfl
noncomputable def dQ(ts:List (Option P2))(t:Nat):Option P2:=ts.getD t J
theorem Uj(h:i<ts.length):dQ (ts.set i x)=kz (dQ ts) i x:=by
 funext t;unfold dQ kz;rw[acO,List.getElem?_set];by_cases e:t=i
 .subst e;rw[if_pos Y,if_pos Y,if_pos h];rfl
 .rw[if_neg (λz=>e z.symm),if_neg e];exact (acO ..).symm
theorem Uk(n:Nat):dQ (acY n J)=λy=>J:=by funext t;unfold dQ;rw[acO,adY];split<;>rfl
theorem Ul(h0:dP (bx 0))(hp:∀ t,t<n->(st t).1<=(st t).2)(ht:t<n)(h:cc (cP n bx st (t+1)) y)(hs:∃ s,cP n bx st t=O s):∃ x,cc (cP n bx st t) x/\(st t).1<=y-x/\y-x<=(st t).2:=by
 have hf:cc (aZ bx st (t+1)) y:=by
  have:=xR (bx:=λk=>aZ bx st (n-k)) h
  rwa [show n-(n-(t+1))=t+1 by lia] at this
 obtain⟨x,hx,h1,h2⟩:=BC h0 (hp t ht) hf;refine#[x,?_,h1,h2];obtain⟨k,ek,hk⟩:=h;obtain⟨f,ef,hxf⟩:=hx;unfold cP at ek ⊢;rw[show n-t=n-(t+1)+1 by lia];show cc (match aZ bx st (n-(n-(t+1)+1)),aZ (λk=>aZ bx st (n-k)) (eY n st) (n-(t+1)) with
  | some b,O k=>iF b (eX k (eY n st (n-(t+1))))
  | _,_=>J) x
 rw[ek,show n-(n-(t+1)+1)=t by lia,ef];refine oZ.mpr #[hxf,xO hk ?_ ?_]
 .unfold eY;rw[show n-1-(n-(t+1))=t by lia];dsimp only;lia
 .unfold eY;rw[show n-1-(n-(t+1))=t by lia];dsimp only;lia
theorem JY(T:o4 n bx st):∀ (d t:Nat) (x:Int),t+d=n->cc (cP n bx st t) x->∃ c:Nat->Int,c t=x/\(∀ k,t<=k->k<=n->cc (cP n bx st k) (c k))/\∀ k,t<=k->k<n->(st k).1<=c (k+1)-c k/\c (k+1)-c k<=(st k).2
 | 0,t,x,e,h=>#[λ_=>x,Y,λk h1 h2=>by rw[show k=t by lia];exact h,λk h1 h2=>absurd h2 (by lia)]
 | d+1,t,x,e,h=>by
  obtain⟨y,hy,h1,h2⟩:=T.next t x (by lia) h
  obtain⟨c,c0,c1,c2⟩:=JY T d (t+1) y (by lia) hy;refine#[λk=>if k=t then x else c k,if_pos Y,λk k1 k2=>?_,λk k1 k2=>?_]
  .dsimp only;by_cases ek:k=t
   .rw[if_pos ek,ek];exact h
   .rw[if_neg ek];exact c1 k (by lia) k2
  .dsimp only;rw[if_neg (show ¬ k+1=t by lia)];by_cases ek:k=t
   .rw[if_pos ek,ek,c0];exact#[h1,h2]
   .rw[if_neg ek];exact c2 k (by lia) k2
theorem JZ(h0:dP (bx 0))(hp:∀ t,t<n->(st t).1<=(st t).2)(T:o4 n bx st):∀ (t:Nat) (x:Int),t<=n->cc (cP n bx st t) x->∃ c:Nat->Int,c t=x/\(∀ k,k<=t->cc (cP n bx st k) (c k))/\∀ k,k<t->(st k).1<=c (k+1)-c k/\c (k+1)-c k<=(st k).2
 | 0,x,_,h=>#[λz=>x,Y,λk h1=>by rw[show k=0 by lia];exact h,λk h1=>absurd h1 (by lia)]
 | t+1,x,ht,h=>by
  obtain⟨s,es,z⟩:=T.ok t (by lia);obtain⟨y,hy,h1,h2⟩:=Ul h0 hp (by lia) h #[s,es];obtain⟨c,c0,c1,c2⟩:=JZ h0 hp T t y (by lia) hy;refine#[λk=>if k=t+1 then x else c k,if_pos Y,λk k1=>?_,λk k1=>?_]
  .dsimp only;by_cases ek:k=t+1
   .rw[if_pos ek,ek];exact h
   .rw[if_neg ek];exact c1 k (by lia)
  .dsimp only;rw[if_neg (show ¬ k=t+1 by lia)];by_cases ek:k=t
   .rw[ek,if_pos Y,c0];exact#[h1,h2]
   .rw[if_neg (by lia)];exact c2 k (by lia)
theorem Um(hp:dw ps)(hm:∀ m∈ms,m.1<=ps.length)(T:o4 ps.length (bK ms) (aF ps))(ht:t<=ps.length)(h:cc (cP ps.length (bK ms) (aF ps) t) x):∃ c,fB ps c/\meets ms c/\c t=x:=by
 obtain⟨c,c0,c1,c2⟩:=JY T (ps.length-t) t x (by lia) h;obtain⟨d,d0,d1,d2⟩:=JZ (JW ms 0) (λt ht=>hp _ (oP ht)) T t x ht h;refine#[λk=>if k<=t then d k else c k,λk hk=>?_,meets_of T hm λk hk=>?_,?_]
 .dsimp only;by_cases e1:k<t
  .rw[if_pos (by lia),if_pos (by lia)];exact d2 k e1
  .by_cases e2:k=t
   .subst e2;rw[if_neg (by lia),if_pos (by lia),d0,<- c0];exact c2 k (by lia) hk
   .rw[if_neg (by lia),if_neg (by lia)];exact c2 k (by lia) hk
 .by_cases e:k<=t
  .rw[if_pos e];exact d1 k e
  .rw[if_neg e];exact c1 k (by lia) hk
 .dsimp only;rw[if_pos (acS _)];exact d0
theorem Uo(hc:fB ps c)(hm:meets ms c)(ht:t<=ps.length):cc (cP ps.length (bK ms) (aF ps) t) (c t):=by
 have f:=xQ (bx:=bK ms) (st:=aF ps) (c:=c) (n:=ps.length) (λt y=>BK.mpr λm cV e=>by rw[<- e];exact hm m cV) (λt ht=>hc t ht);have b:=xQ (bx:=λk=>aZ (bK ms) (aF ps) (ps.length-k)) (st:=eY ps.length (aF ps)) (c:=λk=>c (ps.length-k)) (n:=ps.length) (λk hk=>f _ (by lia)) (λk hk=>by
  have:=hc (ps.length-1-k) (by lia);unfold eY;rw[show ps.length-1-k+1=ps.length-k by lia] at this;rw[show ps.length-(k+1)=ps.length-1-k by lia];lia) (ps.length-t) (by lia)
 have e:ps.length-(ps.length-t)=t:=by lia
 unfold cP;rw[e] at b;exact b
end Gz
namespace Gz
open PySem PySem.Spec PyProof.Rows L2
noncomputable def rowOf(H:Hp):V->List V
 | .ref p=>match H p with
  | some (.tup xs)=>xs
  | _=>[]
 | _=>[]
theorem tM(h:H p=O (.tup xs)):rowOf H (.ref p)=xs:=by
 show (match H p with
  | some (.tup xs)=>xs
  | _=>[])=xs
 rw[h]
def o6(row:V->List V)(tt:TT):TT:=λL H Q=>match L with
 | some v::ρ=>tt ((row v).map O++ρ) H Q
 | _=>False
def o7(row:V->List V)(te:TE):TE:=λL H Q=>match L with
 | some v::ρ=>te ((row v).map O++ρ) H Q
 | _=>False
section
variable{K:acM}{ρ:L2.St}{tt:TT}{te:TE}{H:Hp}{Q:VK}{a:ac4}{xs:List V}{row:V->List V}
def tN(K:acM)(a:ac4)(xs:List V)(row:V->List V)(k:Nat)(H:Hp):Prop:=ah K H a xs/\∀ x∈xs,∃ p,x = .ref p/\au K H p (row x)/\(row x).length=k
theorem Up{k:Nat}{g:TG}(hg:∀ (p:ac4) (ys:List V) (os:List (Option V)) (H:Hp) (Q:L2.St->Hp->Prop),os.length=k->ys.length=k->au K H p ys->Q (ys.map O++ρ) H->g (.ref p) (os++ρ) H Q)
 (hn:xs.length<=adh) (h:eL (tN K a xs row k) ρ (o6 row tt) (o7 row te) xs [] H λzs H'=>∀ l,H' l=J->Q (.ref l) (upd H' l (.lst zs))) :
 ji k (jW K a) g ρ tt te H Q:=by
 refine#[λi m ys H=>m=xs.length-i/\i<=xs.length/\ys.length<=i/\eL (tN K a xs row k) ρ (o6 row tt) (o7 row te) (xs.drop i) ys H λys H'=>∀ l,H' l=J->Q (.ref l) (upd H' l (.lst ys)),#[_,Y,adt _,acS _,h],?_];rintro i m ys H ⟨rfl,hi,hy,c⟩;by_cases aW:i<xs.length
 .have e:=adN aW;rw[e] at c;obtain⟨⟨c0,c1⟩,c2⟩:=c;have l1:∀ y:V,(ys++[y]).length<=i+1:=λy=>by rw[ac7,adb];lia
  have l2:ys.length<=i+1:=by lia
  refine .inr #[#[xs,_,c0,acP aW],by lia,λzs H'=>zs.length<=i+1/\eL (tN K a xs row k) ρ (o6 row tt) (o7 row te) (xs.drop (i+1)) zs H' λys H'=>∀ l,H' l=J->Q (.ref l) (upd H' l (.lst ys)),λzs H' q=>#[_,by lia,Y,aW,q.1,q.2],λos sU v H' y=>?_];obtain⟨rfl,ex⟩:=y;have ex:=ex xs c0;rw[acP aW] at ex;obtain⟨p,ep,hp,hl⟩:=c1 xs[i] (agm _);cases ex;rw[ep] at hp hl c2 ⊢;refine hg p _ os _ _ sU hl hp #[(row (.ref p)).map O,by rw[acN];exact hl,Y,?_];simp only[l1,l2,true_and];exact c2
 .have e:i=xs.length:=by lia
  subst e;rw[aiy] at c;exact .inl #[#[xs,c.1.1,acS _],by lia,c.2]
theorem BN{α:Type}{l:List α}{n:Nat}(h:l.length=n+1):∃ a r,l=a::r/\r.length=n:=by
 cases l with
 | nil=>cases h
 | cons a r=>exact#[a,r,Y,Nat.succ.inj h]
theorem Uq{α:Type}{l:List α}(h:l.length=2):∃ a b,l=[a,b]:=by obtain⟨a,r,rfl,j⟩:=BN (n:=1) h;obtain⟨b,r,rfl,k⟩:=BN (n:=0) j;obtain rfl:=ag9 k;exact#[a,b,Y]
theorem J0{α:Type}{l:List α}(h:l.length=3):∃ a b c,l=[a,b,c]:=by obtain⟨a,r,rfl,k⟩:=BN (n:=2) h;obtain⟨b,c,rfl⟩:=Uq k;exact#[a,b,c,Y]
theorem Ur{p:ac4}{ys:List V}{os:List (Option V)}{H:Hp}{Q:L2.St->Hp->Prop}(ho:os.length=3)(hy:ys.length=3)(h:au K H p ys)(q:Q (ys.map O++ρ) H):je K 3 (cJ (bZ 0) (cJ (bZ 1) (cJ (bZ 2) iO))) (.ref p) (os++ρ) H Q:=by obtain⟨o1,o2,o3,rfl⟩:=J0 ho;obtain⟨x,y,z,rfl⟩:=J0 hy;exact TQ h q
theorem J1(hn:xs.length<=adh)(h:eL (tN K a xs row 3) ρ (o6 row tt) (o7 row te) xs [] H λzs H'=>∀ l,H' l=J->Q (.ref l) (upd H' l (.lst zs))) :
 ji 3 (jW K a) (je K 3 (cJ (bZ 0) (cJ (bZ 1) (cJ (bZ 2) iO)))) ρ tt te H Q:=Up (λy y y y y ho hy h q=>Ur ho hy h q) hn h
end
theorem xT{α β:Type}{R:Hp->V->α->Prop}{R':Hp->V->β->Prop}{Ok:Hp->Prop}{ρ:L2.St}{tt:TT}{te:TE}{p:α->Bool}{f:α->β}{Q':List V->Hp->Prop}(mono:∀ H H' x a,aj H H'->R H x a->R H' x a)(jq:∀ H H' x a,aj H H'->R' H x a->R' H' x a):∀ {xs:List V} {as:List α} {zs:List V} {bs:List β} {H:Hp},ax (R H) xs as->ax (R' H) zs bs->(∀ H',aj H H'->Ok H') ->
 (∀ x a,a∈as->∀ H',aj H H'->R H' x a->∀ Q:Bool->Hp->Prop,Q (p a) H'->tt (O x::ρ) H' Q)->(∀ x a,a∈as->p a=true->∀ H',aj H H'->R H' x a->∀ Q:VK,(∀ H2 y,aj H' H2->R' H2 y (f a)->Q y H2)->te (O x::ρ) H' Q)->(∀ H' ws,aj H H'->ax (R' H') ws (bs++(as.filter p).map f)->Q' ws H')->eL Ok ρ tt te xs zs H Q'
 | [],[],zs,bs,H,_,hz,bP,_,_,q=>#[bP H (aj.refl H),q H zs (aj.refl H) (by simpa using hz)]
 | x::xs,a::as,zs,bs,H,h,hz,bP,ht,he,q=>by
  refine#[bP H (aj.refl H),ht x a (.head _) H (aj.refl H) h.1 _ ?_];by_cases hp:p a=true
  .rw[if_pos hp];refine he x a (.head _) hp H (aj.refl H) h.1 _ λH2 y s2 ry=>?_;refine xT mono jq (bs:=bs++[f a]) (h.2.imp λz z r=>mono _ _ _ _ s2 r) ((hz.imp λz z r=>jq _ _ _ _ s2 r).snoc ry) (λH' s'=>bP H' (s2.trans s')) (λx b hb H' s'=>ht x b (.tail _ hb) H' (s2.trans s')) (λx b hb hp H' s'=>he x b (.tail _ hb) hp H' (s2.trans s')) λH' ws s' hw=>q H' ws (s2.trans s') ?_;rw[aek,if_pos hp];simpa using hw
  .rw[if_neg hp];refine xT mono jq h.2 hz bP (λx b hb=>ht x b (.tail _ hb)) (λx b hb hp=>he x b (.tail _ hb) hp) λH' ws s' hw=>q H' ws s' ?_;rw[aek,if_neg hp];exact hw
 | [],_::_,_,_,_,h,_,_,_,_,_=>h.elim
 | _::_,[],_,_,_,h,_,_,_,_,_=>h.elim
theorem Us(ai:List acU):ak6 ai.toArray J J (O (-1))=ai.reverse.toArray:=by
 have e1:agp J J (O (-1)) ai.toArray.size=(((ai.length:Nat):Int)-1,-1,-1):=by rw[ac5];rfl
 unfold ak6;rw[e1];dsimp only;have e2:ako (((ai.length:Nat):Int)-1) (-1) (-1)=(adu ai.length).map λk=>ai.length-1-k:=by
  unfold ako;have h1:¬ ((-1:Int) > 0):=by lia
  simp only[h1,if_false];by_cases h:ai.length=0
  .rw[h];rfl
  .rw[if_pos (by lia),show (((ai.length:Nat):Int)-1 - -1 - -1-1) / (- -1)=((ai.length:Nat):Int) by
    rw[show (- (-1:Int))=1 by lia,ai7];lia,adL]
   refine ad9 λk hk=>?_;have:=aeg.mp hk;lia
 rw[e2]
 congr 1
 refine aeT λk=>?_;have key:((adu ai.length).map λk=>ai.length-1-k).filterMap (ai.toArray[·]?)=(adu ai.length).map λk=>ai.getD (ai.length-1-k) .none:=by
  rw[agB];have:∀ (l:List Nat),(∀ k∈l,k<ai.length)->l.filterMap ((λx=>ai.toArray[x]?) ∘ λk=>ai.length-1-k)=l.map λk=>ai.getD (ai.length-1-k) .none:=by
   intro l
   induction l with
   | nil=>intro y;rfl
   | cons k l ih =>
    intro h;have hk:=h k (.head _);rw[ad8,adg];have e:((λx=>ai.toArray[x]?) ∘ λk=>ai.length-1-k) k=O (ai.getD (ai.length-1-k) .none):=by show ai.toArray[ai.length-1-k]?=_;rw[List.getElem?_toArray,acO,acP (by lia)];rfl
    rw[e,ih λj hj=>h j (.tail _ hj)]
  exact this _ λk hk=>aeg.mp hk
 rw[key];by_cases hk:k<ai.length
 .rw[ac1,adM hk,afs hk];simp only[Option.map_some];rw[acO,acP (by lia)];rfl
 .rw[adI (by rw[acN,adj];lia),adI (by rw[aeR];lia)]
section
variable{X:Cx}{e st:agY}{te ts:TE}{p2 pos:Pos}
def J5(K:acM)(te ts:TE):TE:=λL H Q=>te L H λx H1=>ts L H1 λy H2=>y = .int (-1)/\∃ a xs,x = .ref a/\ah K H2 a xs/\∀ p,H2 p=J->Q (.ref p) (upd H2 p (.lst xs.reverse))
theorem J6(he:PE X e te)(hs:PE X st ts):PE X (.Subscript e (.Slice J J (O st) p2) pos) (J5 X.K te ts):=by intro pins s L H Q I h;refine aki (aC (he pins s L H _ I h) λv s1 zq=>?_);obtain⟨x,H1,I1,r1,q1⟩:=zq;refine wpAny_Slice ?_;rw[ajX];refine acQ (acQ ?_);rw[evalPart_some];refine aC (hs pins s1 L H1 _ I1 q1) λu s2 zq=>?_;obtain⟨y,H2,I2,r2,q2⟩:=zq;obtain⟨rfl,a,xs,rfl,hx,q⟩:=q2;obtain⟨t,rfl⟩:=r2;cases r1;have I4:Inv X pins L H2 { s2 with heap:=s2.heap.push { cls:=.type "slice",data:=.fields (List.toArray [.none,.none,.int (-1) t]) } }:=I2.kept (t':=s2.toks) λb ob q=>acL _ q;obtain⟨ai,r,ht,hz⟩:=I4.list hx;have hlen:=r.length;show adi (model X.prog X.w) X.A (aik e (.Slice J J (O st) p2) (.ref a) (.ref s2.heap.objs.size)) (EP X pins L Q) X.xe { s2 with heap:=s2.heap.push { cls:=.type "slice",data:=.fields (List.toArray [.none,.none,.int (-1) t]) } };refine tail_any (ops:=[.ref a,.ref s2.heap.objs.size]) ht.isList.typeIs slot_list_getitem.lookup ?_ (by with_unfolding_all rfl);refine ah4 ht.isList (Heap.IsSliceOf.new ..) .none .none (.int (-1) t) (by simp) ?_ (by rw[ac5];lia);rw[Us];refine#[.ref _,_,I4.laid (t':=s2.toks) (o:=.lst xs.reverse) (λb ob q=>acL _ q) (acS _) ?_,Y,q _ (I4.ar.fresh (acS _))];exact#[by rw[aeR];exact hz,_,0,r.reverse,acV _ Y]
end
theorem Ut{K:acM}{a:ac4}{xs:List V}{ρ:L2.St}{tt:TT}{te:TE}{H:Hp}{Q:VK}(hn:xs.length<=adh)(h:eL (λH=>ah K H a xs) ρ tt te xs.reverse [] H λys H'=>∀ l,H' l=J->Q (.ref l) (upd H' l (.lst ys))):oG (xi K a xs.length) ρ tt te H Q:=by
 have hr:xs.reverse.length=xs.length:=aeR;refine#[λi m ys H=>m=xs.length-i/\i<=xs.length/\ys.length<=i/\eL (λH=>ah K H a xs) ρ tt te (xs.reverse.drop i) ys H λys H'=>∀ l,H' l=J->Q (.ref l) (upd H' l (.lst ys)),#[_,Y,adt _,acS _,h],?_];rintro i m ys H ⟨rfl,hi,hy,g⟩;by_cases aW:i<xs.length
 .have e:=adN (show i<xs.reverse.length by lia);rw[e] at g;obtain⟨g0,g1⟩:=g;refine .inr #[#[xs,_,g0,Y,acP (by lia)],by lia,λzs H'=>zs.length<=i+1/\eL (λH=>ah K H a xs) ρ tt te (xs.reverse.drop (i+1)) zs H' λys H'=>∀ l,H' l=J->Q (.ref l) (upd H' l (.lst ys)),λzs H' q=>#[_,by lia,Y,aW,q.1,q.2],λx H' y=>?_];obtain⟨rfl,ex⟩:=y;have ex:=ex xs g0 rfl;rw[acP (by lia)] at ex;cases ex;have l1:∀ y:V,(ys++[y]).length<=i+1:=λy=>by rw[ac7,adb];lia
  have l2:ys.length<=i+1:=by lia
  simp only[l1,l2,true_and];exact g1
 .have e:i=xs.length:=by lia
  subst e;rw[agG (by lia)] at g;exact .inl #[Y,by lia,g.2]
theorem Ht(h:ahQ us ns):Vals (ns.map V.int) us:=by
 induction h with
 | nil=>exact .nil
 | cons n t r ih=>exact .cons #[t,Y] ih
theorem BO{α:Type}{R:Hp->V->α->Prop}{Ok:Hp->Prop}{ρ:L2.St}{tt:TT}{te:TE}{p:α->Bool}{Q':List V->Hp->Prop}(mono:∀ H H' x a,aj H H'->R H x a->R H' x a):∀ {xs:List V} {as:List α} {ys:List V} {H:Hp},ax (R H) xs as->(∀ H',aj H H'->Ok H') ->
 (∀ x a,a∈as->∀ H',aj H H'->R H' x a->∀ Q,(∀ gy,aj H' gy->Q (p a) gy)->tt (O x::ρ) H' Q)->(∀ x H',aj H H'->∀ Q:VK,Q x H'->te (O x::ρ) H' Q) ->
 (∀ H' zs,aj H H'->ax (R H') zs (as.filter p)->Q' (ys++zs) H')->eL Ok ρ tt te xs ys H Q'
 | [],[],ys,H,_,bP,_,_,q=>#[bP H (aj.refl H),by simpa using q H [] (aj.refl H) trivial]
 | x::xs,a::as,ys,H,h,bP,ht,he,q=>by
  refine#[bP H (aj.refl H),ht x a (.head _) H (aj.refl H) h.1 _ λH1 s1=>?_];have go:=λ(ws:List V) (q2:∀ H' zs,aj H1 H'->ax (R H') zs (as.filter p)->Q' (ws++zs) H')=>BO (ys:=ws) mono (h.2.imp λx a r=>mono _ _ _ _ s1 r) (λH' s'=>bP H' (s1.trans s')) (λx a ha H' s'=>ht x a (.tail _ ha) H' (s1.trans s')) (λx H' s'=>he x H' (s1.trans s')) q2;by_cases hb:p a=true
  .rw[if_pos hb];refine he x H1 s1 _ (go _ λH' zs s' hz=>?_);have:=q H' (x::zs) (s1.trans s') (by rw[aek,if_pos hb];exact#[mono _ _ _ _ (s1.trans s') h.1,hz]);simpa using this
  .rw[if_neg hb];refine go _ λH' zs s' hz=>q H' zs (s1.trans s') ?_;rw[aek,if_neg hb];exact hz
 | [],_::_,_,_,h,_,_,_,_=>h.elim
 | _::_,[],_,_,h,_,_,_,_=>h.elim
theorem xU{β:Type}{R':Hp->V->β->Prop}{Ok:Hp->Prop}{ρ:L2.St}{tt:TT}{te:TE}{p:V × V->Bool}{f:V × V->β}{Q':List V->Hp->Prop}(jq:∀ H H' x a,aj H H'->R' H x a->R' H' x a):∀ {rows:List (V × V)} {H:Hp} {zs:List V} {bs:List β},ax (R' H) zs bs->(∀ H',aj H H'->Ok H') ->
 (∀ r∈rows,∀ H',aj H H'->∀ Q,Q (p r) H'->tt (O r.1::O r.2::ρ) H' Q)->(∀ r∈rows,p r=true->∀ H',aj H H'->∀ Q:VK,(∀ gy y,aj H' gy->R' gy y (f r)->Q y gy)->te (O r.1::O r.2::ρ) H' Q) ->
 (∀ H' ws,aj H H'->ax (R' H') ws (bs++(rows.filter p).map f)->Q' ws H')->oO Ok ρ tt te rows zs H Q'
 | [],H,zs,bs,hz,bP,_,_,q=>#[bP H (aj.refl H),q H zs (aj.refl H) (by simpa using hz)]
 | (x,y)::r,H,zs,bs,hz,bP,ht,he,q=>by
  refine#[bP H (aj.refl H),λw hw=>?_];have s:=Gz.aw (o:=.tup [x,y]) hw;refine ht _ (.head _) _ s _ ?_;by_cases hb:p (x,y)=true
  .rw[if_pos hb];refine he _ (.head _) hb _ s _ λH2 v s2 r2=>?_;have S:=s.trans s2;refine xU jq (bs:=bs++[f (x,y)]) ((hz.imp λx a r=>jq _ _ _ _ S r).snoc r2) (λH' s'=>bP H' (S.trans s')) (λz hz H' s'=>ht z (.tail _ hz) H' (S.trans s')) (λz hz hb H' s'=>he z (.tail _ hz) hb H' (S.trans s')) λH' ws s' hw=>q H' ws (S.trans s') ?_;rw[aek,if_pos hb,adg]
   rwa [aet] at hw
  .rw[if_neg hb];refine xU jq (hz.imp λx a r=>jq _ _ _ _ s r) (λH' s'=>bP H' (s.trans s')) (λz hz H' s'=>ht z (.tail _ hz) H' (s.trans s')) (λz hz hb H' s'=>he z (.tail _ hz) hb H' (s.trans s')) λH' ws s' hw=>q H' ws (s.trans s') ?_;rw[aek,if_neg hb];exact hw
abbrev m9(H:Hp)(v:V)(s:S2):Prop:=aO H v s.1 s.2
theorem ax.zL:∀ {H:Hp} {xs:List V} {ss:List S2},ax (m9 H) xs ss->aX H xs ss
 | _,[],[],_=>trivial
 | _,_::_,_::_,h=>#[h.1,ax.zL h.2]
 | _,[],_::_,h=>h.elim
 | _,_::_,[],h=>h.elim
noncomputable def cellsFrom:En->List Int->List S2
 | lo,[]=>[(lo,J)]
 | lo,z::zs=>(lo,O (z-1))::cellsFrom (O z) zs
noncomputable def lJ(c:S2):Int:=match c.1,c.2 with
 | some x,_=>x
 | none,O y=>y
 | none,J=>0
theorem Uu(h:fz c):hs c (lJ c)=true:=by
 rw[m5];unfold fz at h;rcases c with ⟨z|x,z|y⟩
 .exact#[λz e=>(nomatch e),λz e=>(nomatch e)]
 .exact#[λz e=>(nomatch e),λz e=>by cases e;exact adZ _]
 .exact#[λz e=>by cases e;exact adZ _,λz e=>(nomatch e)]
 .refine#[λz e=>by cases e;exact adZ _,λz e=>?_];cases e;show x<=y;simp[aY] at h;lia
theorem J9(es:List Int):(es.map V.int).all j6=true:=by rw[akC];exact afq.mpr λy y=>rfl
theorem BP(a:Int):∀ (es:List Int),qB (.int a) (es.map V.int)=es.contains a
 | []=>rfl
 | e::es=>by
  have ih:=BP a es;unfold qB at *;rw[adg,aer,ih,List.contains_cons]
  congr 1
  show (e == a)=(a == e);rw[aeY];simp only[beq_iff_eq];exact eq_comm
theorem Ka{K:acM}{H1 H':Hp}{l:ac4}{ys:List V}{tb:Tb}(hl:H1 l=O (.lst ys))(hM:ax (kx H1) ys tb)(s:aj H1 H'):tN K l ys (rowOf H1) 3 H':=by refine#[ah.of (s _ _ hl),λx hx=>?_];obtain⟨i,hi⟩:=ae1.mp hx;obtain⟨m,y,t,p,rfl,h1,h2⟩:=hM.get hi;rw[tM h1];exact#[t,Y,au.of (s _ _ h1),Y]
noncomputable def cW:Nat->List (List Int)
 | 0=>[[]]
 | n+1=>cW n++(cW n).map λs=>s++[((n:Nat):Int)]
theorem tO:∀ n,(cW n).length=2 ^ n
 | 0=>rfl
 | n+1=>by rw[cW,ac7,acN,tO n,akD];lia
theorem tP:∀ (n:Nat) (s:List Int),s∈cW n->s.length<=n
 | 0,s,h=>by
  obtain rfl:s=[]:=by simpa [cW] using h
  exact acS _
 | n+1,s,h=>by
  rw[cW] at h;rcases adf.mp h with h|h
  .exact akp (tP n s h)
  .obtain⟨s',h',rfl⟩:=ac2.mp h;have:=tP n s' h';rw[ac7,adb];lia
def lK(H:Hp)(v:V)(s:List Int):Prop:=∃ l,v = .ref l/\H l=O (.lst (s.map V.int))
theorem lK.same(h:lK H v s)(u:aj H H'):lK H' v s:=let ⟨l,e,a⟩:=h;#[l,e,u _ _ a]
noncomputable def cH(tb:Tb)(es:List Int):List Mk:=((m8 tb).filter λr=>!es.contains r.1.1).map λr=>(r.1.2.toNat,r.2)
noncomputable def g8(ps:List P2)(ms:List Mk):Option (List S2):=if ((adu (ps.length+1)).any λt=>(aZ (bK ms) (aF ps) t).isNone)=true then J else O ((adu (ps.length+1)).map λt=>(cP ps.length (bK ms) (aF ps) t).getD (J,J))
def lM(H:Hp)(v:V)(o:Option (List S2)):Prop:=match o with
 | none=>v = .non
 | some ss=>∃ l zs,v = .ref l/\H l=O (.lst zs)/\ax (m9 H) zs ss
theorem lM.same(h:lM H v o)(s:aj H H'):lM H' v o:=by
 cases o with
 | none=>exact h
 | some ss=>obtain⟨l,zs,e,a,b⟩:=h;exact#[l,zs,e,s _ _ a,b.imp λy y r=>aO.same r s]
theorem map_some:∀ (l:List α),(l.map f).filterMap id=l.filterMap f
 | []=>rfl
 | a::l=>by rw[adg,ad8,ad8,map_some l];rfl
theorem BQ:∀ {os:List (Option α)} {xs:List V},ax R xs (os.filter λo=>o.isSome)->ax (λv a=>R v (O a)) xs (os.filterMap id)
 | [],[],_=>trivial
 | [],_::_,h=>h.elim
 | none::os,xs,h=>BQ (os:=os) h
 | some a::os,x::xs,h=>#[h.1,BQ (os:=os) h.2]
 | some a::os,[],h=>h.elim
theorem Uv:∀ n:Nat,n<8->∀ k:Nat,k<8->((cW n).filter λs=>decide (s.length=k)).length<=35:=by decide +kernel
theorem Uw{e m:Int}(h1:1<=e)(h7:e<=7):((cW e.toNat).filter λs=>decide ((s.length:Int)=m)).length<64:=by
 by_cases hm:0<=m/\m<8
 .have:=Uv e.toNat (by lia) m.toNat (by lia);have e2:(λs:List Int=>decide ((s.length:Int)=m))=λs=>decide (s.length=m.toNat):=by funext s;exact decide_eq_decide.mpr (by lia)
  rw[e2];lia
 .have:(cW e.toNat).filter (λs=>decide ((s.length:Int)=m))=[]:=List.filter_eq_nil_iff.mpr λs hs=>by have:=tP _ s hs;simp only[decide_eq_true_eq];lia
  rw[this];decide
noncomputable def o8(e t u d m:Int)(tb:Tb):List (List S2):=((cW e.toNat).filter λs=>decide ((s.length:Int)=m)).filterMap λs=>g8 (acY (t-1).toNat (-d,u)) (cH tb s)
theorem Kb(h1:1<=e)(h7:e<=7):(o8 e t u d m tb).length<64:=adS (aib _ _) (Uw h1 h7)
theorem Ux(h:g8 ps ms=O ss):ss.length=ps.length+1:=by
 unfold g8 at h;split at h
 .cases h
 .cases h;rw[acN,adj]
theorem Uy(ht:1<=t)(h:ss∈o8 e t u d m tb):(ss.length:Int)=t:=by obtain⟨s,y,hs⟩:=ae3.mp h;have:=Ux hs;rw[adA] at this;lia
theorem dj:∀ {l:List α},l.Pairwise R->∀ {p q:α},p∈l->q∈l->p=q∨R p q∨R q p
 | [],_,_,_,h,_=>by cases h
 | x::l,h,p,q,hp,hq=>by
  have h1:=aj4.mp h;rcases acZ.mp hp with e1|i1<;>rcases acZ.mp hq with e2|i2
  .exact .inl (e1.trans e2.symm)
  .rw[e1];exact .inr (.inl (h1.1 q i2))
  .rw[e2];exact .inr (.inr (h1.1 p i1))
  .exact dj h1.2 i1 i2
theorem Kc:∀ {n:Nat} {s:List Int},s∈cW n->s.length<n->∃ s'∈cW n,s'.length=s.length+1/\∀ x∈s,x∈s'
 | 0,s,_,h=>by lia
 | n+1,s,hs,hl=>by
  rw[cW] at hs;rcases adf.mp hs with h|h
  .refine#[s++[(n:Int)],?_,by simp,λx hx=>adH _ hx];rw[cW];exact ac6 _ (ac2.mpr #[s,h,Y])
  .obtain⟨r,hr,rfl⟩:=ac2.mp h;rw[ac7,adb] at hl;obtain⟨r',h1,h2,h3⟩:=Kc hr (by lia);refine#[r' ++ [(n:Int)],?_,by simp[h2],λx hx=>?_]
   .rw[cW];exact ac6 _ (ac2.mpr #[r',h1,Y])
   .rcases adf.mp hx with z|z
    .exact adH _ (h3 x z)
    .exact ac6 _ z
theorem tQ:(m8 tb).Perm tb:=oT
theorem Uz:k∈cH tb es ↔ ∃ r∈tb,r.1.1∉es/\k=(r.1.2.toNat,r.2):=by
 unfold cH;rw[ac2];constructor
 .rintro ⟨r,hr,rfl⟩;obtain⟨h1,h2⟩:=adG.mp hr;exact#[r,tI h1,by simpa using h2,Y]
 .rintro ⟨r,hr,hn,rfl⟩;exact#[r,adG.mpr #[tQ.mem_iff.mpr hr,by simpa using hn],Y]
theorem UA(h:g8 ps ms=O ss):(∀ t,t<=ps.length->aZ (bK ms) (aF ps) t≠J)/\∀ t,t<=ps.length->bw ss t=(cP ps.length (bK ms) (aF ps) t).getD (J,J):=by
 unfold g8 at h;split at h
 .cases h
 .rename_i hn;cases h;refine#[λt ht e=>hn (aeb.mpr #[t,aeg.mpr (by lia),by rw[e];rfl]),λt ht=>?_];unfold bw;rw[acO,ac1,adM (by lia)];rfl
theorem UB(h:∀ t,t<=ps.length->aZ (bK ms) (aF ps) t≠J):∃ ss,g8 ps ms=O ss:=by
 unfold g8;rw[if_neg]
 .exact#[_,Y]
 .intro z;obtain⟨t,ht,e⟩:=aeb.mp z;exact h t (by have:=aeg.mp ht;lia) (ahW.mp e)
theorem BR(hp:dw ps)(hm:∀ m∈ms,m.1<=ps.length)(h:g8 ps ms=O ss)(ht:t<=ps.length):fz (bw ss t)/\∀ x,bC (bw ss t) x ↔ ∃ c,fB ps c/\meets ms c/\c t=x:=by obtain⟨h1,h2⟩:=UA h;have T:=BM hp h1;obtain⟨s,es,hc⟩:=T.ok t ht;rw[h2 t ht,es];refine#[hc,λx=>#[λhx=>Um hp hm T ht #[s,es,hx],?_]];rintro ⟨c,h3,h4,rfl⟩;obtain⟨s',es',hx⟩:=Uo h3 h4 ht;rw[es] at es';cases es';exact hx
def hJ(e t u d m:Int)(tb:Tb)(k:Nat)(x:Int):Prop:=∃ s∈cW e.toNat,(s.length:Int)=m/\∃ c,fB (acY (t-1).toNat (-d,u)) c/\meets (cH tb s) c/\c k=x
theorem BS(hu:0<=u)(hd:0<=d):dw (acY n ((-d,u):P2)):=λq hq=>by rw[(ahI.mp hq).2];show -d<=u;lia
theorem UC(ar:bV e t tb)(ht:1<=t)(s:List Int):∀ m∈cH tb s,m.1<=(t-1).toNat:=λm hm=>by obtain⟨r,hr,y,rfl⟩:=Uz.mp hm;have:=(ar.2 r hr).2;show r.1.2.toNat<=_;lia
theorem Kd{e t u d m:Int}{tb:Tb}{k:Nat}(hu:0<=u)(hd:0<=d)(ar:bV e t tb)(ht:1<=t)(hk:(k:Int)<t):(∀ s∈(o8 e t u d m tb).map λss=>bw ss k,fz s)/\∀ x,(((o8 e t u d m tb).map λss=>bw ss k).any λs=>hs s x)=true↔hJ e t u d m tb k x:=by
 have rl:(acY (t-1).toNat ((-d,u):P2)).length=(t-1).toNat:=adA;have mt:∀ s,∀ m∈cH tb s,m.1<=(acY (t-1).toNat ((-d,u):P2)).length:=λs m hm=>by rw[rl];exact UC ar ht s m hm
 constructor
 .intro s hs;obtain⟨ss,hss,rfl⟩:=ac2.mp hs;obtain⟨es,y,he⟩:=ae3.mp hss;exact (BR (BS hu hd) (mt es) he (by lia)).1
 .intro x;rw[aeb];constructor
  .rintro ⟨s,hs,hx⟩;obtain⟨ss,hss,rfl⟩:=ac2.mp hs;obtain⟨es,h1,he⟩:=ae3.mp hss;obtain⟨h2,h3⟩:=adG.mp h1;exact#[es,h2,by simpa using h3,((BR (BS hu hd) (mt es) he (by lia)).2 x).mp (m5.mp hx)]
  .rintro ⟨es,h1,h2,c,h3,h4,h5⟩;obtain⟨ss,hss⟩:=UB (JX h3 h4);refine#[bw ss k,ac2.mpr #[ss,ae3.mpr #[es,adG.mpr #[h1,by simpa using h2],hss],Y],m5.mpr (((BR (BS hu hd) (mt es) hss (by lia)).2 x).mpr #[c,h3,h4,h5])]
noncomputable def gC(e t u d m:Int)(tb:Tb)(k:Nat):List S2:=m6 ((o8 e t u d m tb).map λss=>bw ss k)
abbrev Ke(h:ae7)(T:ac4)(a b c:acU):Prop:=h.get? T=O { cls:=.type "tuple",data:=.seq (List.toArray [a,b,c]) }
section
structure Z3(n:Nat)(l1 l2 l3:ac4)(h:ae7)(k:Nat)(f0:acU):Prop where
 z:alN h (n+5:Nat) (n+3:Nat) (n+4:Nat) f0
 ti:Ke h (n+3:Nat) (.ref n) (.ref (n+1:Nat)) (.ref (n+2:Nat))
 to:∃ a b c,Ke h (n+4:Nat) a b c
 i1:h.IsListIter n l1 k
 i2:h.IsListIter (n+1:Nat) l2 k
 i3:h.IsListIter (n+2:Nat) l3 k
end
noncomputable def UD(K:acM)(a b c:ac4):It :=
 #[λi H=>∃ xs ys zs x y z,ah K H a xs/\ah K H b ys/\ah K H c zs/\xs[i]?=O x/\ys[i]?=O y/\zs[i]?=O z,λi H v H'=>∃ (p:ac4) (x y z:V),v = .ref p/\H p=J/\H'=upd H p (.tup [x,y,z])/\(∀ xs,ah K H a xs->xs[i]?=O x)/\(∀ ys,ah K H b ys->ys[i]?=O y)/\∀ zs,ah K H c zs->zs[i]?=O z,
  λi H=>∃ xs,ah K H a xs/\xs.length<=i]
def UE(K:acM)(ta:TA):TI:=λL H R=>ta L H λvs H1=>∃ a b c,vs=[.ref a,.ref b,.ref c]/\(∃ xs,ah K H1 a xs)/\(∃ ys,ah K H1 b ys)/\(∃ zs,ah K H1 c zs)/\R (UD K a b c) H1
section
noncomputable def Kf(a:ac4)(o:Obj)(kvs:List (List Key × V))(D:Ends):Ends where
 nx:=λL H=>H a=O (.frz o (.dT kvs))/\D.nx L (upd H a (.dT kvs))
 rt:=λv H=>H a=O (.frz o (.dT kvs))/\D.rt v (upd H a (.dT kvs))
 bk:=λL H=>H a=O (.frz o (.dT kvs))/\D.bk L (upd H a (.dT kvs))
 ct:=λL H=>H a=O (.frz o (.dT kvs))/\D.ct L (upd H a (.dT kvs))
def UG(t:TS):TS:=λD L H=>∃ a kvs,H a=O (.dT kvs)/\∀ o,t (Kf a o kvs D) L (upd H a (.frz o (.dT kvs)))
def UH(t:TE):TE:=λL H Q=>∃ a kvs,H a=O (.dT kvs)/\∀ o,t L (upd H a (.frz o (.dT kvs))) λv H'=>H' a=O (.frz o (.dT kvs))/\Q v (upd H' a (.dT kvs))
noncomputable def BU(o:Obj):List V:=match o.data with
 | .dict es _=>es.toList.map λe=>match e.key with
  | .ref a=>V.ref a
  | _=>V.non
 | _=>[]
noncomputable def Kg(a:ac4)(o:Obj)(kvs:List (List Key × V)):It where
 go i H:=H a=O (.frz o (.dT kvs))/\i<kvs.length
 yld i H x H':=H'=H/\(BU o)[i]?=O x
 stop i H:=H a=O (.frz o (.dT kvs))/\kvs.length<=i
def Kh(tl:TE):TI:=λL H R=>tl L H λx H1=>∃ a o kvs,x = .ref a/\H1 a=O (.frz o (.dT kvs))/\(jv H1 (BU o) kvs->R (Kg a o kvs) H1)
theorem UI:iP (Kh tl) g tb D L H=tl L H (λx H1=>∃ a o kvs,x = .ref a/\H1 a=O (.frz o (.dT kvs))/\(jv H1 (BU o) kvs->FJ (Kg a o kvs) g tb D L H1)):=rfl
end
noncomputable def ng(tb:Tb)(i:Int):List Mk:=((m8 tb).filter λr=>decide (r.1.1=i)).map λr=>(r.1.2.toNat,r.2)
noncomputable def iG(cs:List Int)(t:Nat):Int:=cs.getD t 0
section
end
end Gz
namespace Gz
open PySem
theorem slot1{t:alR}{q:Nat}(hp:t.place = (List.toArray [q]))(hd:t.dummies = (List.toArray []))(j:Nat):t.slot j=if q=j then .live 0 else .empty:=by
 unfold alS ahJ;rw[hp,hd];simp only[SetTable.below,aeE,ac5,adw,afX];by_cases h:q<j
 .have:q≠j:=by lia
  simp[h,this]
 .by_cases e:q=j<;>simp[h,e]
theorem Ki(hp:t.place = (List.toArray [q]))(hd:t.dummies = (List.toArray []))(hm:t.mask=7)(hf:∀ i,(f i == h)=false) :
 ∀ (n m:Nat) (p:SetTable.Probe),p.more=0->p.j=p.i->p.dummy=J->p.perturb<32 ^ n->p.i<=7->∃ j,j≠q/\afF t f h (n+(m+2)) p=O (.empty j J)
 | n,m,⟨j,mo,i,pe,du⟩,h1,h2,h3,h4,h5=>by
  dsimp only at h1 h2 h3 h4 h5;subst h1 h3;obtain rfl:i=j:=h2.symm;have ad:t.advance #[i,0,i,pe,J]=#[(i * 5+1+pe / 32) % 8,0,(i * 5+1+pe / 32) % 8,pe / 32,J]:=by simp[SetTable.advance,SetTable.leap,hm,alm]
  have le:(i * 5+1+pe / 32) % 8<=7:=by lia
  by_cases e:q=i
  .cases n with
   | zero =>
    have z:(i * 5+1+pe / 32) % 8≠q:=by lia
    refine#[_,z,?_];rw[show 0+(m+2)=(m+1)+1 by lia,afF,slot1 hp hd,if_pos e];simp only[hf,adn,if_false];rw[ad,afF,slot1 hp hd,if_neg (adR z)]
   | succ n =>
    obtain⟨j,j1,j2⟩:=Ki hp hd hm hf n m #[_,0,_,pe / 32,J] Y Y Y (by dsimp only;rw[akD] at h4;exact Nat.div_lt_of_lt_mul (by lia)) le;refine#[j,j1,?_];rw[show n+1+(m+2)=(n+(m+2))+1 by lia,afF,slot1 hp hd,if_pos e];simp only[hf,adn,if_false];rw[ad];exact j2
  .refine#[i,adR e,?_];rw[show n+(m+2)=(n+m+1)+1 by lia,afF,slot1 hp hd,if_neg e]
structure iH(t:alR)(L9q:List (Nat × Int × acU)):Prop where
 pl:t.place=(L9q.map (·.1)).toArray
 du:t.dummies = (List.toArray [])
 ma:t.mask=7
 sh:L9q=[]∨(∃ a,L9q=[a]) ∨ ∃ a b,L9q=[a,b]/\a.1<b.1
section
theorem iH.fits(k:iH t L9q):t.fits (L9q.map (·.2)).toArray.size=true:=by obtain⟨h1,h2,h3,h4⟩:=k;rcases h4 with rfl|⟨a,rfl⟩|⟨a,b,rfl,y⟩<;>simp[SetTable.fits,ais,h1,h2,h3]
theorem iH.zero(k:iH t L9q):SetTable.below t.place 0=0:=by obtain⟨h1,h2,h3,h4⟩:=k;rcases h4 with rfl|⟨a,rfl⟩|⟨a,b,rfl,y⟩<;>simp[h1,SetTable.below,aeE]
theorem iH.next(k:iH t L9q)(hi:i<L9q.length):SetTable.below t.place (L9q[i].1+1)=i+1:=by
 obtain⟨h1,h2,h3,h4⟩:=k;rw[h1];rcases h4 with rfl|⟨a,rfl⟩|⟨a,b,rfl,z⟩
 .cases hi
 .obtain rfl:i=0:=by simpa using hi
  simp[SetTable.below,aeE]
 .match i,hi with
  | 0,_ =>
   have:¬ b.1<a.1+1:=by lia
   simp[SetTable.below,aeE,this]
  | 1,_=>simp[SetTable.below,aeE]
theorem iH.free(k:iH t L9q)(hl:L9q.length<=1)(h:Int):∃ j,t.freeSlot h=O (j,false)/\j∉L9q.map (·.1):=by
 obtain⟨h1,h2,h3,h4⟩:=k;rcases h4 with rfl|⟨a,rfl⟩|⟨a,b,rfl,y⟩
 .refine#[SetTable.bits h % 8,?_,λhx=>nomatch hx];simp[akq,alu,alv,ahv,h3,afF,alS,ahJ,h1,h2,SetTable.below,aeE]
 .have bt:SetTable.bits h<2 ^ 64:=by unfold SetTable.bits;lia
  obtain⟨j,j1,j2⟩:=Ki (q:=a.1) h1 h2 h3 (f:=λy=>h+1) (h:=h) (λy=>by simp;lia) 13 205 (t.probeStart h) (by simp[ahv,h3,alm]) Y Y (adm bt (by decide)) (by simp only[ahv,h3];lia);refine#[j,?_,by simpa using j1];unfold akq alu alv;rw[h3,j2];rfl
 .simp at hl
theorem iH.put(k:iH t L9q)(hl:L9q.length<=1)(hj:j∉L9q.map (·.1))(h:Int)(x:acU) :
 ∃ t' p L',t.put j=(t',p)/\iH t' L'/\agR (L9q.map (·.2)).toArray p (h,x)=(L'.map (·.2)).toArray/\t'.led=t.led/\t'.plain=t.plain/\t'.fill=L9q.length+1/\L'.Perm ((j,h,x)::L9q):=by
 obtain⟨h1,h2,h3,h4⟩:=k;rcases h4 with rfl|⟨a,rfl⟩|⟨a,b,rfl,y⟩
 .refine#[_,_,[(j,h,x)],Y,#[?_,?_,h3,.inr (.inl #[_,Y])],?_,Y,Y,?_,.refl _]<;>simp[ais,ahJ,agR,h1,h2,SetTable.below,aeE]
 .have hj:j≠a.1:=by simpa using hj
  by_cases z:a.1<j
  .refine#[_,_,[a,(j,h,x)],Y,#[?_,?_,h3,.inr (.inr #[_,_,Y,z])],?_,Y,Y,?_,.swap _ _ _]<;>simp[ais,ahJ,agR,h1,h2,SetTable.below,aeE,z]
  .refine#[_,_,[(j,h,x),a],Y,#[?_,?_,h3,.inr (.inr #[_,_,Y,show j<a.1 by lia])],?_,Y,Y,?_,.refl _]<;>simp[ais,ahJ,agR,h1,h2,SetTable.below,aeE,z]
 .simp at hl
end
end Gz
namespace Gz
open PySem PySem.Spec PyProof.Rows L2
theorem Kj:Manifest.owners.lookup (String.ofList ['r','o','t','a','r','e','t','i','_','t','e','s'].reverse)=O Manifest.sig_set_iterator:=by kernel_rfl
theorem qX:Slot "set_iterator" "__next__" "set_iterator.__next__" :=
 .of (owner := "set_iterator") (n := "__next__") (by rw[ahw,afZ];kernel_rfl) (by decide +kernel) (by decide +kernel) (by decide +kernel)
  (by first|exact .inl (by decide +kernel)|exact .inr (by decide +kernel)) (by rw[ajE];kernel_rfl)
theorem Kk:ahH table "set_iterator.__next__" = O ae8.«set_iterator.__next__»:=entryFor_of_tree (by kernel_rfl)
theorem Kl(a:acU):aiZ "set_iterator.__next__" #[[a],[]]:=by unfold aiZ;rw[signature?_of (id := "set_iterator.__next__") (n:=['_','_','t','x','e','n','_','_']) (o:=['r','o','t','a','r','e','t','i','_','t','e','s']) (by kernel_rfl) Kj];kernel_rfl
theorem UJ:ahH table "set.__iter__" = O ae8.«frozenset.__iter__» :=
 entryFor_alias (id' := "frozenset.__iter__") (by kernel_rfl) (by first|rfl|decide +kernel) (by decide +kernel) (by kernel_rfl)
section
theorem UK(hT:s.TypeIs (.ref d) "set")(q:Q false s):adi (model prog w) A (af0 (.ref d)) Q E s:=by
 unfold af0;refine acK (ahu hT PySem.F.slot_set_len.lookup ?_);generalize hid:("set.__len__" : String)=UL
 wp_delta
 rw[show splitId UL=O ("set","__len__") from by subst hid;decide +kernel];subst hid;refine acK (afK (T := "set") (b:=true) hT (by rw[ajE];kernel_rfl) ?_);refine agC (λgV=>absurd gV (by decide)) (λy=>?_);refine agC (λy=>?_) (λgV=>absurd (by decide +kernel) gV);refine acK (wpAny_typeOf hT ?_);exact acQ q
theorem UM:adJ "set" = O (.type "set"):=by decide +kernel
end
def jy(h:ae7)(a:ac4)(p:P2):Prop:=∃ o t u n,h.get? a=O o/\o.cls = .type "tuple" /\ o.data = .seq (List.toArray [.int p.1 t,.int p.2 u]) n
theorem jy.keep(x:jy h a p)(k:∀ o,h.get? a=O o->h'.get? a=O o):jy h' a p:=let ⟨o,t,u,n,e,r⟩:=x;#[o,t,u,n,k o e,r]
section
theorem Km(h:Q (.bool (decide (x<y))) s):adi (model prog w) A (ail .Lt (.int x t) (.int y u)) Q E s :=
 richCompare_gives (op:=.Lt) (ajk s _ t) (ajk s _ u) PySem.F.slot_int_lt PySem.F.entry_int_lt (PySem.F.args_int_lt_2 _ _) (gives_int_lt _ _ t u) (λx=>nomatch x) h
theorem xV(ha:jy s.heap a p)(hb:jy s.heap b q)(hu:A.units<aii)(h:Q (.bool (fW p q)) s):adi (model prog w) A (ail .Lt (.ref a) (.ref b)) Q E s:=by
 obtain⟨oa,t1,u1,n1,hoa,hca,hda⟩:=ha;obtain⟨ob,t2,u2,n2,hob,hU,gn⟩:=hb;have Ta:s.TypeIs (.ref a) "tuple" := #[oa,hoa,hca];have Tb:s.TypeIs (.ref b) "tuple" := #[ob,hob,hU];refine wpAny_richCompare_same_room Ta Tb ai8 (aec ai8 Ta PySem.F.entry_tuple_lt ?_ (PySem.F.args_tuple_lt_2 _ _)) hu;show adi _ _ (isInstance (.ref b) (.type "tuple") >>= _) _ _ s;refine acK (afK Tb isSubtype_tuple_tuple ?_);simp only[aj5,adn,if_false];refine acK (aj6 hoa hda ?_);refine acK (aj6 hob gn ?_);refine acK ?_;refine wpAny_forIn_list _ (λrest r s'=>r.1=J/\s'=s/\(rest=[(.int p.1 t1,.int q.1 t2),(.int p.2 u1,.int q.2 u2)]∨(rest=[(.int p.2 u1,.int q.2 u2)]/\p.1=q.1)∨(rest=[]/\p.1=q.1/\p.2=q.2))) _ ?_ ?_ _ _ #[Y,Y,.inl rfl]
 .rintro ⟨u,v⟩ rest r s' ⟨hr,rfl,hz⟩;rcases hz with hz|⟨hz,e1⟩|⟨hz,y⟩
  .cases hz;refine acK (aiv ?_);by_cases e:p.1=q.1
   .rw[show (p.1 == q.1)=true by simpa using e];simp only[aj5,adn,if_false];exact acQ #[Y,Y,.inr (.inl #[trivial,e])]
   .rw[show (p.1 == q.1)=false by simpa using e];simp only[alw,if_true];refine acK (agO (acK (Km (acK (acQ (acQ (acQ #[_,Y,λz=>(nomatch z),?_])))))));have e2:fW p q=decide (p.1<q.1):=by unfold fW;rw[decide_eq_false e];simp
    rw[<- e2];exact h
  .cases hz;refine acK (aiv ?_);by_cases e:p.2=q.2
   .rw[show (p.2 == q.2)=true by simpa using e];simp only[aj5,adn,if_false];exact acQ #[Y,Y,.inr (.inr #[trivial,e1,e])]
   .rw[show (p.2 == q.2)=false by simpa using e];simp only[alw,if_true];refine acK (agO (acK (Km (acK (acQ (acQ (acQ #[_,Y,λz=>(nomatch z),?_])))))));have e2:fW p q=decide (p.2<q.2):=by unfold fW;rw[e1];simp
    rw[<- e2];exact h
  .cases hz
 .rintro ⟨r1,r2⟩ s' ⟨hr,rfl,hz⟩;simp only at hr;subst hr;rcases hz with hz|⟨hz,y⟩|⟨y,e1,e2⟩
  .cases hz
  .cases hz
  .refine acQ #[_,Y,λz=>(nomatch z),?_];have e3:fW p q=false:=by unfold fW;rw[e1,e2];simp
   rw[e3] at h;exact h
theorem UN(hh:A.handled=J)(ha:jy s.heap a p)(hb:jy s.heap b q)(hu:A.in1.units<aii)(h:∀ h' tk,(∀ c o,s.heap.get? c=O o->h'.get? c=O o)->Q (.ref (if fW q p=true then b else a)) { s with heap:=h',toks:=tk }):adi (model prog w) A (call (.builtin "min") [.ref a,.ref b]) Q E s:=by
 have nm:(toString "min" ++ toString ".loop" : String) = "min.loop" := by decide
 refine call_function_tree akL akl akm (PySem.F.args_min2 _ _) ?_;show adi _ A.in1 (afg "min" ["key","default"] 0 #[[],[]] >>= _) _ _ s;refine acK (aim (show afg "min" ["key","default"] 0 #[[],[]]=pure [J,J] from Y) ?_);show adi _ A.in1 (alQ [.ref a,.ref b] >>= _) _ _ s;refine acK (aeo ?_);have hT:(s.heap.push { cls:=.type "tuple",data:=.seq (List.toArray [.ref a,.ref b]) }).IsTuple s.heap.objs.size (List.toArray [.ref a,.ref b]):=#[_,acV _ Y,Y,0,Y]
 refine acK (ajW hT ?_);show adi _ A.in1 (amd [] >>= _) _ _ _;refine acK (aeo ?_);generalize e1:s.heap.push { cls:=.type "tuple",data:=.seq (List.toArray [.ref a,.ref b]) }=h1 at hT;have z1:h1.objs.size=s.heap.objs.size+1:=by rw[<- e1];exact aem ..
 have k1:∀ c o,s.heap.get? c=O o->h1.get? c=O o:=λc o e=>by rw[<- e1];exact acL _ e
 dsimp only;generalize e2:h1.push { cls:=.type "tuple_iterator",data:=.fields (List.toArray [.ref s.heap.objs.size,.int 0 0]) }=h2;have z2:h2.objs.size=h1.objs.size+1:=by rw[<- e2];exact aem ..
 have k2:∀ c o,h1.get? c=O o->h2.get? c=O o:=λc o e=>by rw[<- e2];exact acL _ e
 have W:=Walks.tuple (prog:=prog) (w:=w) (A:=A.in1) hh h1.objs.size s.heap.objs.size (by rw[z1];exact adk (agk _)) (List.toArray [.ref a,.ref b]);have AI:h2.IsTupleIter h1.objs.size s.heap.objs.size 0/\h2.IsTuple s.heap.objs.size (List.toArray [.ref a,.ref b]):=#[#[_,by rw[<- e2];exact acV _ Y,Y,Y],by rw[<- e2];exact hT.push _]
 have zs:h2.objs.size∉[h1.objs.size,s.heap.objs.size]:=λz=>by
  simp only[acZ,adz,or_false] at z;rcases z with z|z
  .rw[z2] at z;exact akX _ z
  .rw[z2,z1] at z;exact absurd z (by intro z;have:s.heap.objs.size<s.heap.objs.size+1+1:=af9 (agk _);rw[z] at this;exact aex _ this)
 have nS:h2.objs.size∉[h1.objs.size]:=λz=>zs (by simp at z;simp[z]);have up:∀ c o,s.heap.get? c=O o->c∉[h1.objs.size]/\c≠h2.objs.size/\(h2.push { cls:=.type "list",data:=.seq (List.toArray []) }).get? c=O o:=λc o e=>by have l1:=acT (k1 c o e);have l2:=acT (k2 c o (k1 c o e));exact#[λz=>by simp at z;rw[z] at l1;exact aex _ l1,adk l2,acL _ (k2 c o (k1 c o e))]
 let G:ae7->Prop:=λh=>jy h a p/\jy h b q;have bC:∀ (x:ac4) (r:P2),jy s.heap x r->x∉[h1.objs.size]/\x≠h2.objs.size:=λx r hx=>by obtain⟨o,y,y,y,e,y⟩:=hx;exact#[(up x o e).1,(up x o e).2.1]
 have hG:∀ h h',G h->(∀ b o,b∉[h1.objs.size]->b≠h2.objs.size->h.get? b=O o->h'.get? b=O o)->G h':=λh h' g k=>#[g.1.keep λo e=>k a o (bC a p ha).1 (bC a p ha).2 e,g.2.keep λo e=>k b o (bC b q hb).1 (bC b q hb).2 e]
 let bt:Nat->Nat->Bool:=λi j=>fW (if i=0 then p else q) (if j=0 then p else q);have Kn:∀ i v,((List.toArray [adB a,adB b]):Array acU)[i]?=O v->(i=0/\v = .ref a)∨(i=1/\v = .ref b):=λi v e=>by
  match i,e with
  | 0,e=>cases e;exact .inl #[Y,Y]
  | 1,e=>cases e;exact .inr #[Y,Y]
  | i+2,e=>simp at e
 have sY:∀ i j vi vj (s:ac8) (Q:acU->ac8->Prop) (E:acU->ac8->Prop),((List.toArray [adB a,adB b]):Array acU)[i]?=O vi->((List.toArray [adB a,adB b]):Array acU)[j]?=O vj->G s.heap->Q (.bool (bt i j)) s->adi (model prog w) A.in1 (ail .Lt vi vj) Q E s:=by
  intro i j vi vj s Q E ei ej g hq;rcases Kn i vi ei with ⟨rfl,rfl⟩|⟨rfl,rfl⟩<;>rcases Kn j vj ej with ⟨rfl,rfl⟩|⟨rfl,rfl⟩
  .exact xV g.1 g.1 hu hq
  .exact xV g.1 g.2 hu hq
  .exact xV g.2 g.1 hu hq
  .exact xV g.2 g.2 hu hq
 have g0:G (h2.push { cls:=.type "list",data:=.seq (List.toArray []) }):=#[ha.keep λo e=>(up a o e).2.2,hb.keep λo e=>(up b o e).2.2]
 have oS:(h2.push { cls:=.type "list",data:=.seq (List.toArray []) }).get? h2.objs.size=O { cls:=.type "list",dict:=J,data:=.seq (List.toArray []) 0,slots:=(List.toArray []) }:=acV _ rfl;have qG:=W.frame 0 h2 (h2.push { cls:=.type "list",data:=.seq (List.toArray []) }) AI λb y o q=>acL _ q;rw[nm];refine acQ #[ae9 afm _,?_];refine ael agF ?_;rw[adW afm _];show adi _ A.in1 (ajZ (.ref h2.objs.size) >>= _) _ _ _;refine acK (aeH oS Y ?_);show adi _ A.in1 (tryCatch (afT (.ref h1.objs.size)) _ >>= _) _ _ _;refine acK (agd (W.item 0 _ _ _ (by simp) qG λv h3 tk pv iq kp=>?_));have jn:=kp _ _ nS oS;show adi _ A.in1 (ah7 h2.objs.size (λy=>(List.toArray [v,v])) >>= _) _ _ _;refine acK ?_;refine aff jn Y ?_;rw[nm];have g3:G h3:=hG _ _ g0 λb o hw y e=>kp b o hw e;refine acQ #[ae9 afm _,(Ii (by decide) agF afm) W hG sY zs 1 0 _ v _ (by simp) (W.frame _ _ _ iq λb hf o e=>?_) (hG _ _ g3 λb o y mU e=>(ac9 _ _ (adR mU)).trans e) pv (adQ _ jn Y) λv2 h4 UO p4 k4=>?_]
 .exact (ac9 _ _ (λz:h2.objs.size=b=>zs (by rw[z];exact hf))).trans e
 .have ev:v2 = .ref (if fW q p=true then b else a):=by
   have e4:((List.toArray [adB a,adB b]):Array acU)[aho bt 1]?=O v2:=by simpa using p4
   have BB:aho bt 1=if fW q p=true then 1 else 0:=by show (if bt 1 0 then 1 else 0)=_;rfl
   rw[BB] at e4;by_cases hl:fW q p=true
   .rw[if_pos hl] at e4 ⊢;cases e4;rfl
   .rw[if_neg hl] at e4 ⊢;cases e4;rfl
  subst ev;refine h h4 UO λc o e=>?_;obtain⟨u1,u2,u3⟩:=up c o e;exact k4 c o u1 u2 ((ac9 _ _ (adR u2)).trans (kp c o u1 u3))
def Ko(H:Hp)(Q:VK)(xs:List V):Prop:=∃ (a b:ac4) (p q:P2),xs=[.ref a,.ref b]/\H a=O (.tup [.int p.1,.int p.2])/\H b=O (.tup [.int q.1,.int q.2])/\Q (.ref (if fW q p=true then b else a)) H
theorem UP(hc:X.calm=true)(hu:X.A.units+1<aii):fj X (.builtin "min") (λxs H Q=>Ko H Q xs):=by
 intro pins s L H xs us Q I r h;obtain⟨a,b,p,q,rfl,ha,hb,hq⟩:=h;obtain⟨u,v,rfl,ru,rv⟩:=vals2 r;cases ru;cases rv;have pr:∀ (x:ac4) (r:P2),H x=O (.tup [.int r.1,.int r.2])->jy s.heap x r:=λx r hx=>by
  obtain⟨y,ai,hv,hi⟩:=(show bN X.prog X.w H s.heap x (.tup [.int r.1,.int r.2]) from I.ar x _ hx)
  obtain⟨u1,u2,rfl,⟨t1,rfl⟩,⟨t2,rfl⟩⟩:=vals2 hv;obtain⟨o,ho,bj,n,hd⟩:=hi;exact#[o,t1,t2,n,ho,bj,hd]
 exact UN (I.ok.hd hc) (pr a p ha) (pr b q hb) (show X.A.units+1<aii from hu) λh' tk k=>#[.ref _,H,I.kept k,Y,hq]
end
section
end
section
def Kp(vs:List acU)(kis:List (List Int))(i:Nat):Prop:=∃ x t,vs[i]?=O (.int x t)/\kis.getD i []=[x]
theorem UQ(hk:∀ i,i<vs.length->Kp vs kis i):xJ prog w h vs kis:=λh2=>by
 refine#[oneType',λA E s e=>#[λQ q=>PySem.W.kas_kind (T:=.type "int") h2 (λv hv=>?_) (by decide) (by decide) q,λi j hi hj C q=>?_]]
 .obtain⟨i,hi,rfl⟩:=ajP hv;obtain⟨x,tt,e,y⟩:=hk i hi;rw[acP hi] at e;rw[Option.some.inj e];exact PySem.W.Looks.now
 .obtain⟨x1,t1,a1,l1⟩:=hk i hi;obtain⟨x2,t2,a2,l2⟩:=hk j hj;rw[acO,acO,a1,a2];refine PySem.W.kat_lt_int (cast (congrArg (λb=>C b s) ?_) q);unfold cG;rw[l1,l2,HT.mL];by_cases e:x1=x2
  .rw[if_pos e,e];simp[HT.lexLt]
  .rw[if_neg e]
theorem UR(hl:kis.length=vs.length)(bB:vs.length<64)(hk:∀ i,i<vs.length->Kp vs kis i)(tG:∀ (A':ae2) (Q':List acU->ac8->Prop) (E':acU->ac8->Prop),A'.handled=A.handled->(∀ h' tk,(∀ b o,s.heap.get? b=O o->h'.get? b=O o)->s.heap.objs.size<=h'.objs.size->Q' vs { s with heap:=h',toks:=tk })->adi (model prog w) A' (collect (.ref r)) Q' E' s)(q:∀ l h' tk,s.heap.objs.size<=l->(∀ b o,s.heap.get? b=O o->h'.get? b=O o)->(∃ c,h'.get? l=O (aej "list" (aep ((cv (cG kis) vs.length).toList.map λi=>vs.getD i Value.none)) c))->Q (.ref l) { s with heap:=h',toks:=tk }) :
 adi (model prog w) A (call (.builtin "sorted") [.ref r]) Q E s:=JC hl bB (λg y=>UQ hk) tG q
end
noncomputable def o9(w:aes):Bool:=!(w.params.followText "set-order")
section
noncomputable abbrev jz(w:aes):Obj:={ cls:=.type "set",dict:=J,data:=.set (List.toArray []) 0 (.fresh 0 0 (o9 w)) }
theorem US(a:acU)(h:Q₁ (.ref s.heap.objs.size) { s with heap:=s.heap.push (jz w) }) :
 ago (model prog w) A (.call (.builtin "set.__new__") #[[.type "set",a],[]]) (wants Q₁ E) s:=by
 refine aln (show adi _ A.in1 (do akK "set.__new__" #[[.type "set",a],[]];again (.builtin "set.__new__" #[[.type "set",a],[]])) _ _ s from ?_);refine acK (aim (PySem.F.newCall_set_1 a) (acQ #[ae9 ai9 _,ael PySem.F.entry_set_new ?_]));rw[adW ai9 _];unfold ae8.«set.__new__» Builtin.Frozenset.newClass;have xW:=PySem.sub_set_self;obtain⟨hp,g,d,tk,os⟩:=s;dsimp only;wp_walk;refine agn (acQ ?_);dsimp only;simp only[newObj];exact acK (wpAny_alloc (acQ (acQ h)))
theorem UT{h:ae7}{S:ac4}{o:Obj}{es es':Array (Int × acU)}{ep:Nat}{t t':alR}(g1:h.get? S=O o)(g3:o.data = .set es ep t) :
 (h.update S (alF es' t')).get? S=O { o with data:=.set es' (ep+1) t' }:=by
 have:=adQ (alF es' t') g1 (by rw[putSet_of es' t' g3];rfl);rw[putSet_of es' t' g3] at this;exact this
theorem Kq:∀ {xs:List α} {l:List β},l.Perm (xs.map f)->∃ ys:List α,l=ys.map f/\ys.Perm xs:=by
 intro xs l h;generalize hz:xs.map f=z at h
 induction h generalizing xs with
 | nil=>exact#[[],Y,by cases xs with|nil=>exact .nil|cons=>cases hz]
 | @cons a l1 l2 p ih =>
  cases xs with
  | nil=>cases hz
  | cons x xs =>
   obtain⟨e1,e2⟩:=List.cons.inj hz;obtain⟨ys,rfl,q⟩:=ih e2;exact#[x::ys,by rw[<- e1];rfl,q.cons x]
 | swap a b l =>
  cases xs with
  | nil=>cases hz
  | cons x xs =>
   cases xs with
   | nil=>simp at hz
   | cons y xs =>
    simp only[adg,List.cons.injEq] at hz;obtain⟨e1,e2,e3⟩:=hz;exact#[y::x::xs,by simp[e1,e2,e3],.swap x y xs]
 | trans p q A2 A3 =>
  obtain⟨ys,e,r⟩:=A3 hz;obtain⟨zs,e',r'⟩:=A2 e.symm;exact#[zs,e',r'.trans r]
end
theorem Kr:Slot "set_iterator" "__iter__" "set_iterator.__iter__" :=
 .of (owner := "set_iterator") (n := "__iter__") (by rw[ahw,afZ];kernel_rfl) (by decide +kernel) (by decide +kernel) (by decide +kernel)
  (by first|exact .inl (by decide +kernel)|exact .inr (by decide +kernel)) (by rw[ajE];kernel_rfl)
theorem UU:ahH table "set_iterator.__iter__" = O ae8.«dict_keyiterator.__iter__» :=
 entryFor_alias (id' := "dict_keyiterator.__iter__") (by kernel_rfl) (by first|rfl|decide +kernel) (by decide +kernel) (by kernel_rfl)
theorem UW(a:acU):aiZ "set_iterator.__iter__" #[[a],[]]:=by unfold aiZ;rw[signature?_of (id := "set_iterator.__iter__") (n:=['_','_','r','e','t','i','_','_']) (o:=['r','o','t','a','r','e','t','i','_','t','e','s']) (by kernel_rfl) Kj];kernel_rfl
theorem Ks(f:Nat->Nat):∀ (n k:Nat) (left:List α) (out:Array α),left.length=n->(pickOrder.go f n k left out).toList.Perm (out.toList++left)
 | 0,k,left,out,h=>by obtain rfl:left=[]:=aeJ.mp h;unfold pickOrder.go;simp
 | n+1,k,left,out,h=>by have hl:f k % left.length<left.length:=alG _ (by lia);unfold pickOrder.go;rw[acP hl];refine (Ks f n (k+1) _ _ (by rw[List.length_eraseIdx_of_lt hl];lia)).trans ?_;rw[akr,aet];refine List.Perm.append_left _ ?_;have:=List.perm_middle (a:=left[f k % left.length]) (l₁:=left.take (f k % left.length)) (l₂:=left.drop (f k % left.length+1));rw[List.eraseIdx_eq_take_drop_succ];refine .trans ?_ (.of_eq (aeD (f k % left.length) left));rw[adN hl];exact this.symm
theorem UX(f:Nat->Nat)(xs:Array α):(al6 f xs).toList.Perm xs.toList:=by unfold al6;simpa using Ks f xs.size 0 xs.toList (List.toArray []) (by simp)
section
noncomputable def jA(w:aes)(S:ac4)(ep:Nat)(es:Array (Int × acU)):Array (Int × acU):=if w.params.followText "set-order" then al6 (w.params.setOrder S ep) es else es
theorem BV(w:aes)(S:ac4)(ep:Nat)(es:Array (Int × acU)):(jA w S ep es).toList.Perm es.toList:=by
 unfold jA;split
 .exact UX _ _
 .exact .refl _
structure qY(w:aes)(S:ac4)(o:Obj)(ep:Nat)(t:alR)(L9q:List (Nat × Int × acU)):Prop where
 cls:o.cls = .type "set"
 dat:o.data = .set (L9q.map (·.2)).toArray ep t
 tok:iH t L9q
 led:t.led=o9 w
 pln:t.plain=true
theorem UY(x:qY w S o ep t L9q)(h:s.heap.get? S=O o)(q:Q false s):adi (model prog w) A (setDrawn S) Q E s:=by unfold setDrawn alH;refine acK (agS h x.dat x.tok.fits ?_);dsimp only;refine acK (acK (agn (acQ (acQ ?_))));refine cast (congrArg (λb=>Q b s) ?_) q;symm;rw[Bool.and_eq_false_iff];right;show (!t.plain && _)=false;rw[x.pln];rfl
noncomputable abbrev BW(S:ac4)(n ep:Nat)(sl i:Int):Obj:={ cls:=.type "set_iterator",data:=.fields (List.toArray [agc sl,agc i,.ref S,agc n,agc ep]) }
theorem UZ(x:qY w S o ep t L9q)(h:s.heap.get? S=O o)(hQ:Q (.ref s.heap.objs.size) { s with heap:=s.heap.push (BW S L9q.length ep 0 0) }):adi (model prog w) A (alA (.ref S)) Q E s:=by have hT:s.TypeIs (.ref S) "set" := #[o,h,x.cls];refine ah9 hT alo (aec alo hT UJ ?_ (F.args_set_iter_1 _));unfold ae8.«frozenset.__iter__»;refine acK (m:=Builtin.Frozenset.slot0 _ _) (acQ ?_);refine acK (m:=Builtin.Frozenset.sizeOf _) (acK (ahx h x.dat x.tok.fits (acQ ?_)));refine acK (UY x h ?_);simp only[adn,if_false];refine acK (acQ ?_);refine acK (wpAny_setEpoch_of h x.dat x.tok.fits ?_);refine acK (aeo (acQ #[_,Y,"set_iterator",_,#[_,acV _ Y,Y],qX.lookup,?_]));refine cast (congrArg (λb=>Q _ { s with heap:=s.heap.push b }) ?_) hQ;simp[BW]
theorem Kt(x:qY w S o ep t L9q)(h:s.heap.get? S=O o)(hb:w.params.followText "set-order" = false->SetTable.below t.place sl=i)(q:∀ gb,(w.params.followText "set-order" = false->i<L9q.length->SetTable.below t.place gb=i+1)->Q (((jA w S ep (L9q.map (·.2)).toArray)[i]?).map λe=>(e.2,gb)) s):adi (model prog w) A (amf S sl i ep) Q E s:=by
 unfold amf alH;refine acK (agS h x.dat x.tok.fits ?_);dsimp only;refine acK (acK (agn (acQ ?_)));unfold jA at q;cases hf:w.params.followText "set-order" with
 | true =>
  simp only[hf,if_true] at q;rw[if_pos (show (model prog w).w.params.followText "set-order" = true from hf),if_neg (by simp)];unfold setWalk alH;refine acK (acK (agS h x.dat x.tok.fits ?_));refine acK (acK (agn (acQ ?_)));rw[if_pos (show (model prog w).w.params.followText "set-order" = true from hf)];exact acK (agn (acQ (acQ (q sl (λhz=>nomatch hz)))))
 | false =>
  simp only[hf,adn,if_false] at q;rw[if_neg (show ¬ (model prog w).w.params.followText "set-order" = true from by rw[show (model prog w).w.params.followText "set-order" = false from hf];decide)];refine agC (λz=>absurd (show (!t.plain && _)=true from z) (by rw[x.pln];simp)) (λ_=>?_);have hl:t.led=true:=by rw[x.led];unfold o9;rw[hf];rfl
  refine acK ?_;show adi _ _ (if (!t.led && !(L9q.map (·.2)).toArray.isEmpty)=true then _ else pure _) _ _ _;rw[if_neg (by rw[hl];simp)];refine acQ (acQ ?_);rw[hb hf];by_cases hi:i<L9q.length
  .have e1:(L9q.map (·.2)).toArray[i]?=O L9q[i].2:=by simp[hi]
   have e2:t.place[i]?=O L9q[i].1:=by rw[x.tok.pl];simp[hi]
   have:=q (L9q[i].1+1) λ_ _=>x.tok.next hi
   rw[e1] at this ⊢;rw[e2];exact this
  .have e1:(L9q.map (·.2)).toArray[i]?=J:=by simp;lia
   have:=q 0 λ_ hz=>absurd hz hi;rw[e1] at this ⊢;exact this
theorem U0(hh:A.handled=J)(x:qY w S o ep t L9q)(bp:S≠I):Walks prog w A I [I,S] [I] L9q.length (λi v=>((jA w S ep (L9q.map (·.2)).toArray)[i]?).map (·.2)=O v)
 (λi h=>h.get? S=O o/\∃ sl:Nat,h.get? I=O (BW S L9q.length ep sl i)/\(w.params.followText "set-order" = false->SetTable.below t.place sl=i)) where
 sub:=λb hb=>by simp at hb;simp[hb]
 frame:=λy y y st hk=>#[hk S (by simp) _ st.1,let ⟨sl,a,b⟩:=st.2;#[sl,hk I (by simp) _ a,b]]
 item:=λi s Q E hi st hQ=>by
  obtain⟨h1,sl,hI,hb⟩:=st;have hT:s.TypeIs (.ref I) "set_iterator" := #[_,hI,Y];have hlen:(jA w S ep (L9q.map (·.2)).toArray).size=L9q.length:=by have:=(BV w S ep (L9q.map (·.2)).toArray).length_eq;simpa using this
  have dD:i<(jA w S ep (L9q.map (·.2)).toArray).size:=by lia
  unfold afT;refine acK (aft (ad7 (name:=ac0 "__next__") hT qX
   (aec qX hT Kk ?_ (Kl _))))
  unfold ae8.«set_iterator.__next__»;refine acK (acQ (acK (agf hI Y ?_)));show adi _ _ (setEntries S >>= _) _ _ _;refine acK (ahx h1 x.dat x.tok.fits ?_);refine agC (λz=>absurd z (by simp)) (λy=>?_);show adi _ _ (amf S (aja (sl:Int)) (aja (i:Int)) (aja (ep:Int)) >>= _) _ _ _;rw[adL,adL,adL];refine acK (Kt x h1 hb λgb ke=>?_);rw[adO dD];dsimp only [Option.map_some];refine acK (agW hI Y (by simp) ?_);have Ku:=adQ (af8 (·.setIfInBounds 0 (agc (gb:Int)))) hI rfl;refine acK (agW Ku Y (by simp[af8]) ?_);have U5:=adQ (af8 (·.setIfInBounds 1 (agc ((i:Int)+1)))) Ku rfl;have Kv:∀ (b:ac4) (u:Obj),b≠I->s.heap.get? b=O u->((s.heap.update I (af8 (·.setIfInBounds 0 (agc (gb:Int))))).update I (af8 (·.setIfInBounds 1 (agc ((i:Int)+1))))).get? b=O u:=λb u hb e =>
   (ac9 _ _ (adR hb)).trans ((ac9 _ _ (adR hb)).trans e)
  refine acQ #[_,Y,acQ (hQ _ _ s.toks (by rw[adO dD];rfl) #[Kv S o bp h1,gb,U5,λhf=>ke hf hi] λb u hb e=>Kv b u (by simpa using hb) e)]
 done:=λs Q E st hQ=>by
  obtain⟨h1,sl,hI,hb⟩:=st;have hT:s.TypeIs (.ref I) "set_iterator" := #[_,hI,Y];have hlen:(jA w S ep (L9q.map (·.2)).toArray).size=L9q.length:=by have:=(BV w S ep (L9q.map (·.2)).toArray).length_eq;simpa using this
  unfold afT;refine acK (aft (ad7 (name:=ac0 "__next__") hT qX
   (aec qX hT Kk ?_ (Kl _))))
  unfold ae8.«set_iterator.__next__»;refine acK (acQ (acK (agf hI Y ?_)));show adi _ _ (setEntries S >>= _) _ _ _;refine acK (ahx h1 x.dat x.tok.fits ?_);refine agC (λz=>absurd z (by simp)) (λy=>?_);show adi _ _ (amf S (aja (sl:Int)) (aja (L9q.length:Int)) (aja (ep:Int)) >>= _) _ _ _;rw[adL,adL,adL];refine acK (Kt x h1 hb λgb ke=>?_);rw[afO (by lia)];show adi _ _ (ak0 (.ref I) 2 .none >>= _) _ _ s;refine acK (agW hI Y (by simp) ?_);show adi _ _ (newExc (.type "StopIteration") [] >>= _) _ _ _;refine acK ?_;simp only[newExc,alQ];refine acK (aeo ?_ (by size_fits));refine acK (m:=ahT _ _) (aim (a:=Value.none) (by first|rfl|(simp only[ahT];rfl)) ?_);refine aeo ?_ (by size_fits);simp only[raiseNew];refine acK (wpAny_handled ?_);rw[show A.in1.handled=J from hh];refine acK (acQ (wpAny_throw ?_));refine acK (afK (T := "StopIteration") (b:=true) #[_,acV _ Y,Y] ahU ?_);refine acQ (hQ _ s.toks λb u hb e=>(((aeA ..).extBut.push _).push _) b u (by simpa using hb) e)
 self:=λy s y y st hQ=>by obtain⟨h1,sl,hI,hb⟩:=st;have hT:s.TypeIs (.ref I) "set_iterator" := #[_,hI,Y];refine ah9 hT Kr (aec Kr hT UU ?_ (UW _));show adi _ _ (ret (.ref I)) _ _ s;exact acQ #[_,Y,"set_iterator",_,hT,qX.lookup,hQ]
theorem U6(x:qY w S o ep t L9q):ajC prog w "set" S S L9q.length (λi v=>((jA w S ep (L9q.map (·.2)).toArray)[i]?).map (·.2)=O v) (λh=>h.get? S=O o) where
 type:=λy h=>#[o,h,x.cls]
 there:=λy h=>#[acT h,acT h]
 keep:=λy y h hk=>hk S (.inl rfl) o h
 notList:=by decide
 notTuple:=by decide
 hint:=λy y y y h hq=>UK #[o,h,x.cls] hq
 iter:=λy y hh h=>#[_,_,(λy y hq=>UZ x h hq),U0 hh x (adk (acT h)),
  #[acL _ h,0,acV _ Y,λy=>x.tok.zero]]
noncomputable abbrev lN(m:Int × ahy):Int × acU:=(ak1 m.1,.int m.1 m.2)
def lO(h:ae7)(S:ac4)(M:List (Int × ahy))(led:Bool):Prop :=
 ∃ o ep t L9q,h.get? S=O o/\o.cls = .type "set" /\ o.data = .set (L9q.map (·.2)).toArray ep t/\iH t L9q/\t.led=led/\t.plain=true/\L9q.map (·.2)=M.map lN
theorem U7(prog:adP)(w:aes){M:List (Int × ahy)}:ElemsOf (ag5 prog w) (M.map lN):=λe he=>by obtain⟨m,y,rfl⟩:=ac2.mp he;exact#[#[m.1,by simp[ag5,agJ],Y],Y]
theorem add_int(hS:lO s.heap S M led)(hlen:M.length<2)(h0:k∈M.map (·.1)->Q false s)(h1:k∉M.map (·.1)->∀ h' M',Heap.SameBut S s.heap h'->lO h' S M' led->M'.Perm ((k,tt)::M)->Q true { s with heap:=h' }) :
 adi (model prog w) A (setAddHashed S (.int k tt) (ak1 k)) Q E s:=by
 obtain⟨o,ep,t,L9q,g1,g2,g3,tk,g4,g5,g7⟩:=hS;have hlM:L9q.length=M.length:=by have:=congrArg List.length g7;simpa using this
 have tR:ElemsOf (ag5 prog w) (L9q.map (·.2)).toArray.toList:=by rw[ahz,g7];exact U7 prog w
 unfold setAddHashed setAddHashedIn;refine aeq (acK (agS g1 g3 tk.fits ?_));dsimp only;rw[byScan_of (knd:=ag5 prog w) Y (by rw[ac5,acN];unfold scanBound;lia) tR];simp only[if_true];unfold setAddByScan;refine acK (acK (agO ?_));refine acK (wpAny_setScan_of (knd:=ag5 prog w) (k:=k) (by simp[ag5,agJ]) g1 g3 tk.fits tR ?_);rw[ahz,g7];by_cases dr:k∈M.map (·.1)
 .obtain⟨m,hm,hmk⟩:=ac2.mp dr;cases hf:alT (λe=>(ag5 prog w).is k e.2) (M.map lN) with
  | none =>
   have:=ahX.mp hf (lN m) (ac2.mpr #[m,hm,Y]);rw[<- hmk] at this;simp[ag5,agJ] at this
  | some j =>
   dsimp only;exact acQ (acQ (h0 dr))
 .have hf:alT (λe=>(ag5 prog w).is k e.2) (M.map lN)=J:=by refine ahX.mpr λe he=>?_;obtain⟨m,hm,rfl⟩:=ac2.mp he;simp only[ag5,agJ];exact beq_eq_false_iff_ne.mpr λz=>dr (ac2.mpr #[m,hm,z])
  rw[hf];dsimp only;obtain⟨j,j0,j1⟩:=tk.free (by lia) (ak1 k);obtain⟨t',p,L',p1,p2,p3,p5,p6,p7,hperm⟩:=tk.put (by lia) j1 (ak1 k) (Value.int k tt);have U8:layNew t (M.map lN).toArray (ak1 k) (.int k tt)=((L'.map (·.2)).toArray,t',false,false):=by rw[<- g7];unfold layNew;rw[j0];dsimp only;rw[p1,p3];have:=p2.fits;unfold SetTable.orStandIn;rw[this];rfl
  rw[U8];dsimp only;refine acK ?_;show adi _ _ (pure ()) _ _ _;refine acQ ?_;rw[p6,g5];simp only[if_true];refine acK ?_;rw[hashByValue_scannable 8 (show (Value.int k tt).scannable=true from Y)];refine acQ ?_;rw[show plainKind (Value.int k tt)=true from Y];simp only[if_true];have hsz:(L'.map (·.2)).toArray.size<=adh:=by have:=hperm.length_eq;simp at this ⊢;rw[this];exact acR (show _<=64 by lia) (by decide)
  refine acK (wpAny_storeSet_of g1 g3 ?_ hsz);have gS:=UT (es':=(L'.map (·.2)).toArray) (t':=t') g1 g3;have U9:=aeA s.heap S (alF (L'.map (·.2)).toArray t');have qZ:(L'.map (·.2)).Perm (((k,tt)::M).map lN):=by refine (hperm.map (·.2)).trans ?_;simp only[adg,g7];exact .refl _
  have Va:t'.tooFull=false:=by unfold SetTable.tooFull;rw[p7,p2.ma];simp;lia
  rw[Va];simp only[Bool.and_false,adn,if_false];obtain⟨M',e1,e2⟩:=Kq qZ;exact acQ (acQ (h1 dr _ M' U9 #[_,_,t',_,gS,g2,Y,p2,p5.trans g4,p6.trans g5,e1] e2))
def tS(key:Nat->Int)(i:Nat)(M:List (Int × ahy)):Prop :=
 (M.map (·.1)).Nodup/\(∀ m∈M,∃ j,j<i/\m.1=key j)/\(∀ j,j<i->key j∈M.map (·.1))/\M.length<=i
theorem Vb(e:h.get? S=O (jz w)):lO h S [] (o9 w) :=
 #[_,0,_,([]:List (Nat × Int × acU)),e,Y,Y,#[Y,Y,Y,.inl rfl],Y,Y,Y]
theorem Vc{R:akw->ac8->Prop}{I:ac4}{fp wr:List ac4}{G:Array GenState->Array GenState->Prop}{n:Nat}{P:Nat->acU->Prop}{St:Nat->ac8->Prop}(W:WalksS prog w A.in1 I fp wr G n P St)(S:ac4)(qH:S∉fp){key:Nat->Int}{led:Bool}(Vd:∀ i v,P i v->∃ tt,v = .int (key i) tt)(hn:n<=2) :
 ∀ (k i:Nat) (s:ac8) (M:List (Int × ahy)),n-i=k->i<=n->St i s->lO s.heap S M led->tS key i M ->
  (∀ s' M',Moved (S::wr) G s s'->lO s'.heap S M' led->tS key n M'->R (.ok (.ret .none)) s') ->
  ago (model prog w) A (.builtin "set.update.loop" #[[.ref S,.ref I],[]]) R s:=by
 have Kw:S∉wr:=λh=>qH (W.sub _ h);have xW:∀ b∈wr,b∈S::wr:=λb hb=>adV _ hb;intro k
 induction k with
 | zero =>
  intro i s M hk hi de hS hM hR;obtain rfl:i=n:=by lia
  refine ael agg ?_;rw[adW afb _];refine show adi _ A.in1 (afT (.ref I) >>= _) _ _ s from acK (W.done s _ _ de λs' hm=>?_);exact show adi _ A.in1 (ret Value.none) _ _ s' from acQ (hR s' M (hm.mono xW) (let ⟨o,ep,t,L9q,ho,rest⟩:=hS;#[o,ep,t,L9q,hm.heap S _ Kw ho,rest]) hM)
 | succ k ih =>
  intro i s M hk hi de hS hM hR;have aW:i<n:=by lia
  refine ael agg ?_;rw[adW afb _];refine show adi _ A.in1 (afT (.ref I) >>= _) _ _ s from acK (W.item i s _ _ aW de λv s' hP Ve hm=>?_);obtain⟨tt,rfl⟩:=Vd i v hP;have lP:lO s'.heap S M led:=let ⟨o,ep,t,L9q,ho,rest⟩:=hS;#[o,ep,t,L9q,hm.heap S _ Kw ho,rest];refine show adi _ A.in1 (holding [Value.int (key i) tt] (setAdd S (.int (key i) tt)) >>= _) _ _ s' from acK (aeq ?_);unfold setAdd;refine aeq (acK ((ag5 prog w).pyHash (k:=key i) (by simp[ag5,agJ]) ?_));have go:∀ (h':ae7) (M':List (Int × ahy)),Heap.SameBut S s'.heap h'->lO h' S M' led->tS key (i+1) M' ->
   adi (model prog w) A.in1 (again (.builtin "set.update.loop" #[[.ref S,.ref I],[]])) (λfin s'=>match fin with|.done f=>R (.ok f) s'|.again c'=>c'.quiet=true/\ago (model prog w) A c' R s') (λe s'=>R (.error e) s') { s' with heap:=h',toks:=s'.toks+1 }:=by
   intro h' M' kj BX Vf;refine acQ #[ae9 afb _,ih (i+1) _ M' (by lia) aW (W.frame _ s' _ _ Ve (ahm _) λb hb o e=>?_) BX Vf λsJ Vg Vh Vi Vj=>?_]
   .rw[kj.2 b (λh:b=S=>qH (by rw[<- h];exact hb))];exact e
   .refine hR sJ Vg (Moved.trans W.gtrans ((hm.mono xW).then_heap (ahm _) λb o hb e=>?_) Vh) Vi Vj;rw[kj.2 b (λh:b=S=>hb (by rw[h];exact afP))];exact e
  refine add_int (s:={ s' with toks:=s'.toks+1 }) (M:=M) lP (by have:=hM.2.2.2;lia) (λdr=>?_) (λdr h' M' kj BX qZ=>?_)
  .refine go s'.heap M (Heap.SameBut.refl S s'.heap) lP #[hM.1,λm hm=>?_,λj hj=>?_,by have:=hM.2.2.2;lia]
   .obtain⟨j,hj,e⟩:=hM.2.1 m hm;exact#[j,by lia,e]
   .by_cases e:j=i
    .rw[e];exact dr
    .exact hM.2.2.1 j (by lia)
  .refine go h' M' kj BX #[((qZ.map (·.1)).nodup_iff).mpr (aeI.mpr #[dr,hM.1]),λm hm=>?_,λj hj=>?_,by have:=qZ.length_eq;have:=hM.2.2.2;simp at *;lia]
   .rcases acZ.mp (qZ.mem_iff.mp hm) with rfl|hm
    .exact#[i,by lia,Y]
    .obtain⟨j,hj,e⟩:=hM.2.1 m hm;exact#[j,by lia,e]
   .refine ((qZ.map (·.1)).mem_iff).mpr ?_;by_cases e:j=i
    .rw[e];exact afP
    .exact adV _ (hM.2.2.1 j (by lia))
theorem Vk(hh:A.handled=J)(hl:s.heap.IsList l items)(hn:items.size<=2)(hit:∀ (i:Nat) (v:acU),items[i]?=O v->∃ tt,v = .int (key i) tt)(h:∀ (h':ae7) (tk:Nat) (M:List (Int × ahy)),lO h' s.heap.objs.size M (o9 w)->tS key items.size M->(∀ b o,b<s.heap.objs.size->s.heap.get? b=O o->h'.get? b=O o)->Q (.ref s.heap.objs.size) { s with heap:=h',toks:=tk }) :
 adi (model prog w) A (call (.type "set") [.ref l]) Q E s:=by
 obtain⟨c,tl,hmro⟩:=PySem.F.called_set.mro;have acm:=PySem.F.called_set.made;have xW:=PySem.F.called_set.sub;refine aji (aln (show adi _ _ (callAny (.type "set") _) _ _ _ from acQ #[Code.quiet_builtin _ (by decide +kernel),ael PySem.F.entry_type_call ?_]));rw[Around.under_plain (weight_type_call_type "set" [.ref l] []) Y];have h1:=PySem.F.called_set.notType;have h2:=PySem.F.called_set.canCreate;have hct:=PySem.F.typeCall_set_1 (.ref l);repeat (any_goals (first|assumption|wp_step))
 refine agr (US (.ref l) (E:=E) (Q₁:=λobj s₁=>obj = .ref s.heap.objs.size/\s₁ = { s with heap:=s.heap.push (jz w) }) #[Y,Y]) λr s₁ hr=>?_;cases r with
 | error e=>exact hr
 | ok fl =>
  cases fl with
  | ret obj =>
   obtain⟨rfl,rfl⟩:=hr;have gS:(s.heap.push (jz w)).get? s.heap.objs.size=O (jz w):=acV _ rfl;have hT:Shared.TypeIs { s with heap:=s.heap.push (jz w) } (.ref s.heap.objs.size) "set" := #[_,gS,Y];have nj:=PySem.F.called_set.init.lookup;have Kx:=PySem.F.called_set.init.bind (.ref s.heap.objs.size)
   repeat (any_goals (first|assumption|wp_step))
   refine agr (ajo (R:=wants (λr s₂=>r = .none/\∃ h' tk M,s₂ = { s with heap:=h',toks:=tk }/\lO h' s.heap.objs.size M (o9 w)/\tS key items.size M /\
    (∀ b o,b<s.heap.objs.size->s.heap.get? b=O o->h'.get? b=O o)) E) PySem.F.called_set.init.plain PySem.F.entry_set_init (check_set_init_1 hT ?_)) λr₂ s₂ BY=>?_
   .have lt:l<s.heap.objs.size:=let ⟨_,e,_⟩:=hl;acT e;obtain⟨ol,hol,bj,nl,hdl⟩:=id hl;obtain⟨ocls,odict,odata,oslots⟩:=ol;obtain rfl:ocls = .type "list" := bj;obtain rfl:odata = .seq items nl:=hdl;have Vl:(s.heap.push (jz w)).get? l=O { cls:=.type "list",dict:=odict,data:=.seq items nl,slots:=oslots }:=acL _ hol;have acn:=PySem.F.sub_list_set;have aco:=PySem.F.sub_list_frozenset;have bp:(agK "list" == agK "dict")=false:=by decide
    have iX:(s.heap.push (jz w)).IsList l items:=#[_,Vl,Y,nl,Y]
    unfold ae8.«set.__init__» noKeywords Builtin.Frozenset.updateFrom;generalize Vm:alA=PI;wp_walk;subst Vm;refine af3 iX (acK (wpAny_runValue ?_));have Vn:A.in1.in1.in1.handled=J:=by simp[hh]
    have BZ:(s.heap.push (jz w)).objs.size=s.heap.objs.size+1:=aem _ _;have lI:l≠(s.heap.push (jz w)).objs.size:=by rw[BZ];exact adk (af9 lt)
    have SI:s.heap.objs.size∉[(s.heap.push (jz w)).objs.size,l]:=by rw[BZ];simp only[acZ,adz,or_false,not_or];exact#[adk (agk _),ad5 lt]
    refine Vc ((Walks.list Vn _ l lI items).toS) s.heap.objs.size SI (key:=key) (led:=o9 w) hit hn (items.size-0) 0 _ [] (by lia) (adt _)
     #[#[_,acV _ Y,Y,Y],(iX.push _)] (Vb (acL _ gS))
     #[ajD,λy hx=>(by cases hx),λj hj=>(by lia),adt _] λs' M hm lP hM=>?_
    obtain⟨h',g',d',B0,qA⟩:=s';obtain rfl:g'=s.gens:=hm.gens;obtain rfl:d'=s.drawn:=hm.drawn;obtain rfl:qA=s.os:=hm.os;show adi _ _ _ _ _ _;refine acQ (show adi _ _ (ret Value.none) _ _ _ from acQ #[Y,h',B0,M,Y,lP,hM,λb o hb e=>?_]);refine hm.heap b o ?_ (acL _ (acL _ e));simp only[acZ,adz,or_false,not_or,BZ];exact#[adk hb,adk (af9 hb)]
   .cases r₂ with
    | error e=>exact BY
    | ok Vo =>
     cases Vo with
     | ret r =>
      obtain⟨rfl,h',tk,M,rfl,lP,hM,gW⟩:=BY
      repeat (any_goals (first|assumption|wp_step))
      exact h _ _ M lP hM gW
     | _=>exact BY.elim
  | _=>exact hr.elim
end
theorem Vp(kis:List (List Int))(ns:List Int):bI kis V.non (ns.map V.int)=(bI kis 0 ns).map V.int:=by unfold bI;rw[aei,acN];refine ad9 λi hi=>?_;have hp:=(oQ (n:=ns.length) (lB kis)).1;have:i<ns.length:=aeg.mp (hp.mem_iff.mp hi);simp[List.getD,this]
theorem Ky:∀ M:List (Int × ahy),Vals ((M.map (·.1)).map V.int) (M.map λm=>Value.int m.1 m.2)
 | []=>.nil
 | m::M=>.cons #[m.2,Y] (Ky M)
def Kz(K:acM)(t:TE):TE:=λL H Q=>t L H λv H1=>∃ (a:ac4) (ns:List Int),v=V.ref a/\ah K H1 a (ns.map V.int)/\ns.length<=2 /\
 ∀ zs:List Int,zs.Nodup->(∀ x,x∈zs↔x∈ns)->zs.Pairwise (· <= ·)->∀ l,H1 l=J->Q (.ref l) (upd H1 l (.lst (zs.map V.int)))
section
theorem Vq(hc:X.calm=true)(he:PE X e t)(tT:Gl X "sorted")(Vr:X.mg "sorted" = J)(B1:adJ "sorted" = O (.builtin "sorted"))(nk:Gl X "set")(q8:X.mg "set" = J)(B2:adJ "set" = O (.type "set"))(df:adp [e] X.env=[(false,eval e X.env)]:=by rfl)(tU:adp [.Call (.Name "set" p2) [e] [] lQ] X.env=[(false,eval (.Call (.Name "set" p2) [e] [] lQ) X.env)]:=by rfl) :
 PE X (.Call (.Name "sorted" p1) [.Call (.Name "set" p2) [e] [] lQ] [] pos) (Kz X.K t):=by
 intro pins s L H Q I h;refine aeu (fI I tT Vr B1 ?_ (by decide) (by decide));refine agZ ?_ (by rw[tU];rfl) rfl;rw[tU];show adi _ _ (spliced ((false,eval (.Call (.Name "set" p2) [e] [] lQ) X.env)::afn pos [])) _ _ s;refine afQ ?_;refine aeu (fI I nk q8 B2 ?_ (by decide) (by decide));refine adD ?_ (by rw[df];rfl) rfl;rw[df];show adi _ _ (spliced ((false,eval e X.env)::afn lQ [])) _ _ s;refine afQ (aC (he pins s L H _ I h) λu s1 zq=>?_);obtain⟨x,H1,I1,r1,q1⟩:=zq;obtain⟨a,ns,rfl,hS,hn,q⟩:=q1;cases r1;refine af5 ?_;obtain⟨us,rv,pl,hz⟩:=I1.list hS;have hl:us.length=ns.length:=by have:=rv.length;rw[acN] at this;lia
 have hint:=intsAre_of rv;refine Vk (items:=us.toArray) (key:=λi=>ns.getD i 0) (I1.ok.hd hc) pl.isList (by simp;lia) (λi v hv=>?_) λh2 tk M Vs hM hk=>?_
 .exact IntsAre.int_at hint i v (by simpa using hv)
 refine af5 ?_;obtain⟨o,ep,tb,L9q,g1,g2,g3,B0,g4,g5,g7⟩:=Vs;have hx:qY X.w s1.heap.objs.size o ep tb L9q:=#[g2,g3,B0,g4,g5]
 have hsz:us.toArray.size=us.length:=by simp
 rw[hsz] at hM;obtain⟨m1,m2,m3,m4⟩:=hM;have Vt:L9q.length=M.length:=by have:=congrArg List.length g7;simpa using this
 have hp:((jA X.w s1.heap.objs.size ep (L9q.map (·.2)).toArray).toList).Perm (M.map lN):=by have:=BV X.w s1.heap.objs.size ep (L9q.map (·.2)).toArray;rw[ahz,g7] at this;rw[g7];exact this
 obtain⟨M',e1,e2⟩:=Kq hp;have acp:M'.length=L9q.length:=e2.length_eq.trans Vt.symm;have eB:(M'.map (·.1)).Nodup:=((e2.map (·.1)).nodup_iff).mpr m1;have Vu:=Ky M';refine UR (s:={ s1 with heap:=h2,toks:=tk }) (kis:=M'.map λm=>[m.1]) (vs:=M'.map λm=>Value.int m.1 m.2) (by simp) (by simp;lia) (λi hi=>?_) (λA' Q' E' hA hq=>?_) λl h' xf k1 k2 k3=>?_
 .have dD:i<M'.length:=by simpa using hi
  exact#[M'[i].1,M'[i].2,by simp[dD],by simp[List.getD,dD]]
 .refine JD (s:={ s1 with heap:=h2,toks:=tk }) (U6 hx) (hA.trans (I1.ok.hd hc)) g1 (acR (show L9q.length<=64 by lia) (by decide)) λh3 AJ acc b1 b2 b3=>?_;have Vv:acc.toList=M'.map λm=>Value.int m.1 m.2:=by
   refine aeT λi=>?_;rw[aeZ];by_cases hi:i<L9q.length
   .have dD:i<acc.size:=by rw[b3.1];exact hi
    have B3:i<M'.length:=by lia
    have:=b3.2 i acc[i] (adO dD);dsimp only at this;have e3:(jA X.w s1.heap.objs.size ep (L9q.map (·.2)).toArray)[i]?=O (lN M'[i]):=by rw[<- aeZ,e1];simp[B3]
    rw[e3] at this;rw[adO dD,<- this];simp[B3]
   .rw[afO (by rw[b3.1];lia)];rw[eq_comm,List.getElem?_eq_none_iff];simp only[acN];lia
  rw[Vv];exact hq h3 AJ b1 b2
 .refine JH (s:=s1) (ks:=(M'.map (·.1)).map V.int) (kis:=M'.map λm=>[m.1]) (us:=M'.map λm=>Value.int m.1 m.2) I1 Vu ?_ ?_ (λb u e=>k2 b u (hk b u (acT e) e)) k3 λl' B5=>?_
  .simp only[acN];exact acR (show _<=64 by lia) (by decide)
  .exact acR (afS (acT g1)) k1
  .rw[Vp];refine q _ ((oT.nodup_iff).mpr eB) (λx=>?_) ?_ l' B5
   .rw[oT.mem_iff,(e2.map (·.1)).mem_iff];constructor
    .intro gW;obtain⟨m,hm,rfl⟩:=ac2.mp gW;obtain⟨j,hj,ej⟩:=m2 m hm;have:j<ns.length:=by lia
     rw[ej];simp[List.getD,this]
    .intro gW;obtain⟨j,hj,rfl⟩:=ajP gW;have:=m3 j (by lia);simpa [List.getD,hj] using this
   .have:=IT (kis:=M'.map λm=>[m.1]) (d:=(0:Int)) (as:=M'.map (·.1)) (f:=λx=>[x]) (by rw[aei];rfl);refine this.imp λ{a b} gV=>?_;rw[HT.mL] at gV;by_cases e:b=a
    .lia
    .rw[if_neg e] at gV;have:=of_decide_eq_false gV;lia
end
theorem Vw{P:adP}{w:aes}{K:acM}{tg:agY}(it:ac4)(lo:Int)(n:Nat):Turn P w K tg (gj lo n) [it] it (λi h=>IsLongIter h it (lo+(i:Nat) * 1) ((n:Int)-(i:Nat)) 1) where
 mem:=by simp
 obj:=λi h st b hb=>by
  have e:b=it:=by simpa using hb
  subst e;exact#[_,st,λv z=>by
   have z':ahj _=agv v:=z;cases z']
 keep:=λi h h' st k=>k it (by simp) _ st
 item:=by intro X hP hw hK hc i pins s L H E I hf st hg;subst hP hw hK;obtain⟨f0,f1,f2,f3,f4,f5⟩:=hf it (by simp);refine (Walks.longrange (prog:=X.prog) (w:=X.w) (I.ok.hd hc) it lo 1 n).item i s _ _ hg st λv h' tk hv bS kk=>?_;obtain⟨t,rfl⟩:=hv;have I1:Inv X pins L H { s with heap:=h',toks:=tk }:=I.turned (λb o hb e=>kk b o (by simpa using hb) e) f0 f1 f3 f4 f5;refine#[_,Y,oo (s:={ s with heap:=h',toks:=tk }) (n := "longrange_iterator") bS Y Y (by decide) #[.int (lo+i),H,I1,#[t,?_],#[Y,Y],bS,λb hb=>(hf b hb).1]];rw[ama]
 done:=by
  intro X hP hw hK hc i pins s L H E I hf st hg;subst hP hw hK;obtain⟨f0,f1,f2,f3,f4,f5⟩:=hf it (by simp);exact wpAny_pyNext_long_end (I.ok.hd hc) st (by have:n<=i:=hg;lia) λh' eb=>#[Y,I.turned (t':=s.toks) (λb o hb e=>eb b o hb e) f0 f1 f3 f4 f5]
 self:=λy y y y y st h=>wpAny_pyIter_longiter st h
section
theorem Vx{pins:List (ac4 × Obj)}{L:L2.St}{H:Hp}{s:ac8}{R:It->Hp->Prop}{E:acU->ac8->Prop}{lo hi:Int}{t u v:Tok}{tk:Nat}(I:Inv X pins L H s)
 (q:R (gj lo (hi-lo).toNat) H):adi (model X.prog X.w) X.A (alA (.ref s.heap.objs.size)) (zM X pins L tg R) E { s with heap:=s.heap.push { cls:=.type "range",data:=.fields (List.toArray [.int lo t,.int hi u,.int 1 v]) },toks:=tk }:=by
 have e1:lo+((0:Nat):Int) * 1=lo:=by simp
 have e2:(((hi-lo).toNat:Nat):Int)-((0:Nat):Int)=adX lo hi 1:=by rw[rangeSize_one];split<;>lia
 have I1:Inv X pins L H { s with heap:=s.heap.push { cls:=.type "range",data:=.fields (List.toArray [.int lo t,.int hi u,.int 1 v]) },toks:=tk }:=I.kept λb o e=>acL _ e;have fp:∀ b∈[(s.heap.push { cls:=.type "range",data:=.fields (List.toArray [.int lo t,.int hi u,.int 1 v]) }).objs.size],dA X pins H b:=λb hb=>by obtain rfl:=ada.mp hb;exact I1.fK (acS _) (I1.ar.fresh (acS _))
 cases hs:Builtin.Range.small lo hi 1 with
 | true =>
  refine ahF (IsRange.new ..) hs #[_,[_],_,_,H,Y,I1.kept (t':=tk) λb o e=>acL _ e,GI _ lo (hi-lo).toNat,?_,fp,q];show aih _ _ (lo+((0:Nat):Int) * 1) ((((hi-lo).toNat:Nat):Int)-((0:Nat):Int)) 1;rw[e1,e2];exact acV _ rfl
 | false =>
  refine wpAny_pyIter_longrange (IsRange.new ..) hs #[_,[_],_,_,H,Y,I1.kept (t':=tk) λb o e=>acL _ e,Vw _ lo (hi-lo).toNat,?_,fp,q];show IsLongIter _ _ (lo+((0:Nat):Int) * 1) ((((hi-lo).toNat:Nat):Int)-((0:Nat):Int)) 1;rw[e1,e2];exact acV _ rfl
def B6(ta:TA):TI:=λL H R=>ta L H λvs H1=>∃ i j:Int,vs=[.int i,.int j]/\R (gj i (j-i).toNat) H1
theorem Vy:iP (B6 ta) g tb D L H=ta L H (λvs H1=>∃ i j:Int,vs=[.int i,.int j]/\FJ (gj i (j-i).toNat) g tb D L H1):=rfl
theorem Vz(hg:Gl X "range")(hm:X.mg "range" = J)(ha:PA X [a,b] ta)(hs:adp [a,b] X.env=[(false,eval a X.env),(false,eval b X.env)]:=by rfl)(df:adp [b] X.env=[(false,eval b X.env)]:=by rfl) :
 PI X tg (.Call (.Name "range" p) [a,b] [] pos) (B6 ta):=by
 intro pins s L H R I h;refine al0 (fI I hg hm alB (adD (aC (ha pos pins s L H _ I h) λus s1 ⟨vs,H1,I1,r1,q1⟩=>?_) (by rw[hs,df]) (by rw[df];rfl)));obtain⟨i,j,e,q⟩:=q1;subst e;cases r1 with
 | cons r rr =>
  cases rr with
  | cons r' rr =>
   cases rr;obtain⟨t,rfl⟩:=r;obtain⟨t',rfl⟩:=r';exact call_range_2 (Vx I1 q)
theorem VA:oy X "str.rjust" (λx xs H Q=>∃ z i,x = .str z/\xs=[.int i]/\PadOk i=true/\Q (.str (ajb z i)) H):=by
 intro pins s L H x xs v us Q I rx rv h;obtain⟨z,i,rfl,rfl,hp,q⟩:=h;obtain⟨u,rfl,ru⟩:=vals1 rv;obtain⟨t,rfl⟩:=rx;obtain⟨k,rfl⟩:=ru;exact PySem.W.KXw.rjust Y hp λt' k=>#[.str _,H,I.tok _,#[_,Y],q]
theorem B8:∀ {ss:List Str} {ai:List acU},Vals (ss.map V.str) ai->CarriedAll ai (ss.map PyData.str)
 | [],_,r=>by cases r;exact .nil
 | s::ss,_,r=>by
  cases r with
  | cons r1 r2 =>
   obtain⟨t,rfl⟩:=r1;exact .cons (.str _ _) (B8 r2)
theorem VB:oy X "str.join" (λx xs H Q=>∃ a ss,x = .str (ac0 "")/\xs=[.ref a]/\ah X.K H a (ss.map V.str)/\(∀ s∈ss,s.length=1)/\ss.length<=1000/\Q (.str (ad4 (ac0 "") ss)) H):=by
 intro pins s L H x xs v us Q I rx rv h;obtain⟨a,ss,rfl,rfl,hS,h1,hn,q⟩:=h;obtain⟨u,rfl,ru⟩:=vals1 rv;obtain⟨t,rfl⟩:=rx;cases ru;obtain⟨ai,r,p,y⟩:=I.list hS;refine PySem.W.KT.join_1 (l:=ss) (g:=λx=>x) p.isList ?_ h1 (by lia) λt' k y=>#[.str _,H,I.tok _,#[_,by rw[akE]],?_]
 .exact B8 r
 .exact q
end
noncomputable def kA(u:acU):Bool:=match u with|.none=>true|_=>false
noncomputable def lR(v:V):Bool:=decide (v = .non)
def q9(H:Hp)(xs:List V):Prop:=∀ v∈xs,v = .non ∨ ∃ a ys,v = .ref a/\H a=O (.tup ys)
section
theorem KA{x:V}{u:acU}{H:Hp}(r:RelV x u)(h:x = .non ∨ ∃ a ys,x = .ref a/\H a=O (.tup ys)):kA u=lR x:=by
 rcases h with rfl|⟨a,ys,rfl,y⟩
 .cases r;rfl
 .cases r;rfl
theorem VC:∀ {xs:List V} {us:List acU},Vals xs us->q9 H xs->us.any kA=xs.any lR:=by
 intro y y h f
 induction h with
 | nil=>rfl
 | cons r t ih=>rw[aer,aer,KA r (f _ (.head _)),ih λv hv=>f v (.tail _ hv)]
theorem KC:∀ {xs:List V} {us:List acU},Vals xs us->q9 H xs->∀ (m:Nat) (h:m<us.length),kA us[m]=lR (xs.getD m .non):=by
 intro y y h f
 induction h with
 | nil=>exact λm h=>absurd h (ae0 _)
 | cons r t ih =>
  intro m h;cases m with
  | zero=>exact KA r (f _ (.head _))
  | succ m=>exact ih (λv hv=>f v (.tail _ hv)) m (aiJ h)
theorem B9(I:Inv X pins L H s)(hu:A.units<aii):∀ {xs:List V} {us:List acU},Vals xs us->q9 H xs->∀ u∈us,SeqAt.EqAt A s u .none (kA u)
 | _,_,.nil,_=>λu hu=>by cases hu
 | x::xs,u::us,.cons r t,f=>λu' Ca=>by
  rcases acZ.mp Ca with rfl|Ca
  .rcases f x (.head _) with rfl|⟨a,ys,rfl,ha⟩
   .cases r;exact SeqAt.EqAt.same _
   .cases r;obtain⟨y,ai,r',o',k1,k2,n,k3⟩:=(show bN X.prog X.w H s.heap a (.tup ys) from I.ar a _ ha)
    exact SeqAt.EqAt.tuple_none #[o',k1,k2,n,k3] hu
  .exact B9 I hu t (λv hv=>f v (.tail _ hv)) u' Ca
def VD(K:acM):R2:=λx y H Q=>∃ a xs,x = .non/\y = .ref a/\ah K H a xs/\q9 H xs/\Q (.bl (xs.any lR)) H
theorem KD(hu:X.A.units+1<aii):bz X (aev .In) (VD X.K):=by intro pins s L H x y v u Q I rx ry h;obtain⟨a,xs,rfl,rfl,hq,hn,q⟩:=h;cases rx;cases ry;obtain⟨ai,r,pl,hz⟩:=I.list hq;refine SeqAt.in_listAt kA pl.isList (λw hw=>B9 I (A:=X.A.in1) (afu (knd:=eI X.prog X.w) hu) r hn w (by simpa using hw)) #[.bl _,H,I,Y,?_];rw[show ai.toArray.any kA=ai.any kA by simp,VC r hn];exact q
def VE(K:acM)(x:V)(ys:List V)(H:Hp)(Q:VK):Prop:=∃ a xs j,x = .ref a/\ys=[.non]/\ah K H a xs/\q9 H xs/\j<xs.length/\xs.length<=1000/\lR (xs.getD j .non)=true/\(∀ m,m<j->lR (xs.getD m .non)=false)/\Q (.int (j:Nat)) H
theorem KG(hu:X.A.units+1<aii):oy X "list.index" (VE X.K):=by
 intro pins s L H x xs v us Q I rx r h;obtain⟨a,xs,j,rfl,rfl,hq,hn,hj,hl,h1,h2,q⟩:=h;cases rx;obtain⟨u,rfl,ru⟩:=vals1 r;cases ru;obtain⟨ai,r,pl,hz⟩:=I.list hq;obtain⟨⟨cls,dd,data,sl⟩,ho,hc,n,hd⟩:=id pl.isList;simp only at hc hd;subst hc hd;have hlen:ai.length=xs.length:=(Vals.length r).symm;refine agN agD #[_,ho,Y] PySem.F.entry_list_index (PySem.F.args_list_index_2 _ _)
  (SeqAt.list_indexAt a ai.toArray n dd sl .none kA j (by simpa [hlen] using hj) (by lia) ?_ ?_) #[ho,λy hy=>B9 I (A:=X.A.in1) (afu (knd:=eI X.prog X.w) hu) r hn y (by simpa using hy),?_]
 .show kA ai[j]=true;rw[KC r hn];exact h1
 .intro m hm aW;show kA ai[m]=false;rw[KC r hn];exact h2 m aW
 .exact#[.int j,H,I.tok _,#[_,Y],q]
end
noncomputable def jB(p:P2):W2:=O (O p.1,O p.2)
theorem KH:∀ (ss:List S2) (a b:Int),∃ a' b',cw (O a,O b) ss=(O a',O b')
 | [],a,b=>#[a,b,Y]
 | s::ss,a,b=>by
  rw[xN];have h1:∃ x,eU (O a) s.1=O x:=by rcases s.1 with z|c<;>exact#[_,Y]
  have h2:∃ x,eV (O b) s.2=O x:=by rcases s.2 with z|c<;>exact#[_,Y]
  obtain⟨x,hx⟩:=h1;obtain⟨y,hy⟩:=h2;rw[hx,hy];exact KH ss x y
theorem VF(h:dE (J,J) ((O a,O b)::ss)=O s):∃ p:P2,O s=jB p/\p.1<=p.2:=by
 unfold dE at h;rw[xN] at h;obtain⟨x,y,e⟩:=KH ss a b;rw[show (eU (J,J).1 (O a,O b).1,eV (J,J).2 (O a,O b).2)=((O a,O b):S2) from Y,e] at h;split at h
 .cases h
 .rename_i hc;cases h;exact#[(x,y),Y,by simpa [aY] using hc]
theorem KI(hf:∀ k s,f k=O s->∃ p:P2,O s=jB p/\p.1<=p.2):∀ (ks:List Nat),(∀ k∈ks,f k≠J)->∃ pp:List P2,ks.map f=pp.map jB/\dw pp
 | [],_=>#[[],Y,λy h=>nomatch h]
 | k::ks,h=>by
  obtain⟨pp,e,ho⟩:=KI hf ks λj hj=>h j (.tail _ hj);cases hk:f k with
  | none=>exact absurd hk (h k (.head _))
  | some s =>
   obtain⟨p,e1,e2⟩:=hf k s hk;refine#[p::pp,by rw[adg,adg,e,hk,e1],λq hq=>?_];rcases acZ.mp hq with rfl|hq
   .exact e2
   .exact ho q hq
theorem all_some:∀ (ws:List W2),(∀ w∈ws,w≠J)->∃ gs:List S2,ws=gs.map O
 | [],_=>#[[],Y]
 | w::ws,h=>by
  obtain⟨gs,e⟩:=all_some ws λj hj=>h j (.tail _ hj);cases w with
  | none=>exact absurd Y (h J (.head _))
  | some s=>exact#[s::gs,by rw[e];rfl]
theorem Cb:∀ {ys:List V} {ws:List W2},ax (fA H) ys ws->q9 H ys/\(ys.any lR=ws.any aga)/\∀ m,lR (ys.getD m .non)=(ws.getD m J).isNone
 | [],[],_=>#[(λz h=>nomatch h),Y,λz=>rfl]
 | y::ys,w::ws,h=>by
  obtain⟨h1,h2⟩:=h;obtain⟨a,b,c⟩:=Cb h2;have key:(y = .non ∨ ∃ a ys,y = .ref a/\H a=O (.tup ys))/\lR y=w.isNone:=by
   cases w with
   | none =>
    obtain rfl:y = .non:=h1;exact#[.inl rfl,Y]
   | some s =>
    obtain⟨p,rfl,hp⟩:=h1;exact#[.inr #[p,_,Y,hp],Y]
  refine#[λv hv=>?_,by rw[aer,aer,b,key.2],λm=>?_]
  .rcases acZ.mp hv with rfl|hv
   .exact key.1
   .exact a v hv
  .cases m with
   | zero=>exact key.2
   | succ m=>exact c m
 | [],_::_,h=>h.elim
 | _::_,[],h=>h.elim
theorem Cc:∀ {xs:List α},xs.any p=true->∃ j,j<xs.length/\p (xs.getD j d)=true/\∀ m,m<j->p (xs.getD m d)=false
 | [],h=>by cases h
 | x::xs,h=>by
  cases hx:p x with
  | true=>exact#[0,Nat.zero_lt_succ _,hx,λm hm=>absurd hm (ae0 _)]
  | false =>
   rw[aer,hx,ahf] at h;obtain⟨j,h1,h2,h3⟩:=Cc (d:=d) h;refine#[j+1,Nat.succ_lt_succ h1,h2,λm hm=>?_];cases m with
   | zero=>exact hx
   | succ m=>exact h3 m (aiJ hm)
theorem KJ{ws:List W2}(h:ws.any aga=false):∀ w∈ws,w≠J:=λw hw e=>by have:=akc.mp h w hw;rw[e] at this;exact this rfl
theorem KL:∀ {ys:List V} {pp:List P2},ax (fA H) ys (pp.map jB)->d8 H ys pp
 | [],[],_=>trivial
 | _::_,_::_,h=>#[h.1,KL h.2]
 | [],_::_,h=>h.elim
 | _::_,[],h=>h.elim
theorem lF.reach(T:lF ps ms tp):∀ (n t:Nat) {v k:Int},t+n<=ps.length ->
 (tp t=O (v,k)->∃ v' k',tp (t+n)=O (v',k')/\v'<=v+(pre (·.2) ps (t+n)-pre (·.2) ps t)) /\
 (tp (t+n)=O (v,k)->∃ v' k',tp t=O (v',k')/\v'<=v+(pre (·.1) ps t-pre (·.1) ps (t+n)))
 | 0,t,v,k,_=>#[λh=>#[v,k,h,by simp],λh=>#[v,k,h,by simp]]
 | n+1,t,v,k,hn=>by
  refine#[λh=>?_,λh=>?_]
  .obtain⟨v1,k1,e1,h1⟩:=(T.reach n t (by lia)).1 h;obtain⟨v2,k2,e2,h2⟩:=T.fwd (t+n) v1 k1 (by lia) e1;refine#[v2,k2,e2,?_];rw[show t+(n+1)=(t+n)+1 by lia,gX _ ps (by lia)];lia
  .obtain⟨v1,k1,e1,h1⟩:=T.bwd (t+n) v k (by lia) h;obtain⟨v2,k2,e2,h2⟩:=(T.reach n t (by lia)).2 e1;refine#[v2,k2,e2,?_];rw[show t+(n+1)=(t+n)+1 by lia,gX _ ps (by lia)];lia
theorem VG(T:lF ps ms tp)(hm:∀ m∈ms,m.1<=ps.length)(hn:∀ m∈ns,m.1<=ps.length)(h0:tL ns tp)(ha:a∈ms)(hb:b∈ns):¬ clash ps a b:=by
 rintro ⟨h,l,e1,e2,aW⟩;obtain⟨v,k,e3,h3⟩:=T.top a ha h e1;have sS:=hm a ha;have bH:=hn b hb;have key:∃ v' k',tp b.1=O (v',k')/\v'<=v+bL ps a.1 b.1:=by
  unfold bL;by_cases hle:a.1<=b.1
  .rw[if_pos hle];obtain⟨n,mG⟩:∃ n,b.1=a.1+n:=#[b.1-a.1,by lia]
   rw[mG];exact (T.reach n a.1 (by lia)).1 e3
  .rw[if_neg hle];obtain⟨n,mG⟩:∃ n,a.1=b.1+n:=#[a.1-b.1,by lia]
   rw[mG] at e3 ⊢;exact (T.reach n b.1 (by lia)).2 e3
 obtain⟨v',k',e4,h4⟩:=key;have:=h0 b hb l v' k' e2 e4;lia
theorem tV(f:P2->Int)(p:P2)(n:Nat):∀ i,i<=n->pre f (acY n p) i=f p * i
 | 0,_=>by simp[pre]
 | i+1,h=>by
  rw[gX f _ (by rw[adA];lia),tV f p n i (by lia)];have:aF (acY n p) i=p:=by simp[aF,List.getD,adY,show i<n by lia]
  rw[this,Int.natCast_add,Int.mul_add];simp
noncomputable def tW(u d a b:Int):Int:=if a<b then u * (b-a) else d * (a-b)
theorem KN(u d:Int)(hi:i<=n)(hj:j<=n):bL (acY n (-d,u)) i j=tW u d i j:=by
 unfold bL tW;rw[tV _ _ n i hi,tV _ _ n j hj,tV _ _ n i hi,tV _ _ n j hj];dsimp only;by_cases h:i<j
 .rw[if_pos (afS h),if_pos (by lia),amg]
 .by_cases e:i=j
  .subst e;rw[if_pos (acS _),if_neg (by lia)];simp
  .rw[if_neg (by lia),if_neg (by lia),amg];rw[amh,amh];lia
theorem Cd:m∈ng tb i ↔ ∃ r∈tb,r.1.1=i/\m=(r.1.2.toNat,r.2):=by
 unfold ng;simp only[ac2,adG,decide_eq_true_eq];constructor
 .rintro ⟨r,⟨h1,h2⟩,rfl⟩;exact#[r,tQ.mem_iff.mp h1,h2,Y]
 .rintro ⟨r,h1,h2,rfl⟩;exact#[r,#[tQ.mem_iff.mpr h1,h2],Y]
noncomputable def tX(e:Nat)(tb:Tb):List (Int × List Mk):=(adu e).map λ(i:Nat)=>((i:Int),ng tb (i:Int))
theorem VH(hp:dw ps)(ht:t<ps.length):bL ps i (t+1)<=bL ps i t+(aF ps t).2:=by
 have h:=hp _ (oP ht);have e1:=gX (·.1) ps ht;have e2:=gX (·.2) ps ht;unfold bL;split<;>split<;>first|lia|(have z:i=t+1:=(by lia);subst z;lia)
theorem VI(hp:dw ps)(ht:t<ps.length):bL ps i t<=bL ps i (t+1)-(aF ps t).1:=by
 have h:=hp _ (oP ht);have e1:=gX (·.1) ps ht;have e2:=gX (·.2) ps ht;unfold bL;split<;>split<;>first|lia|(have z:i=t+1:=(by lia);subst z;lia)
theorem VJ(ps:List P2)(i:Nat):bL ps i i<=0:=by unfold bL;split<;>lia
theorem KO(hp:dw ps)(ms:List Mk):∀ n,n<=ms.length->∃ tp,lF ps (ms.take n) tp
 | 0,_=>#[λy=>J,#[λy y y y e=>(nomatch e),λy h=>(nomatch h),λy y y y e=>(nomatch e),λy y y y e=>(nomatch e)]]
 | n+1,hn=>by
  obtain⟨tp,T⟩:=KO hp ms n (by lia);have hm:ms[n]?=O ms[n]:=acP (by lia);generalize ms[n]=m at hm;have et:ms.take (n+1)=ms.take n++[m]:=by rw[aeh,hm];rfl
  have tl:(ms.take n).length=n:=by rw[afp];lia
  cases hi:m.2.2 with
  | none =>
   refine#[tp,#[λt v k ht e=>?_,λa ha h e=>?_,T.fwd,T.bwd]]
   .obtain⟨i,a,h,h1,h2,h3⟩:=T.val t v k ht e;have:=(acX.mp h2).1;exact#[i,a,h,h1,by rw[et,aen this];exact h2,h3]
   .rw[et] at ha;rcases adf.mp ha with z|z
    .exact T.top a z h e
    .rw[ada.mp z,hi] at e;cases e
  | some h0 =>
   have one:∀ t v k,(match tp t with|some (v,k)=>if h0+bL ps m.1 t<v then O (h0+bL ps m.1 t,(n:Int)) else O (v,k)|none=>O (h0+bL ps m.1 t,(n:Int)))=O (v,k) ->
    v<=h0+bL ps m.1 t/\(∀ v' k',tp t=O (v',k')->v<=v')/\((v=h0+bL ps m.1 t/\k=(n:Int))∨tp t=O (v,k)):=by
    intro t v k e;cases h1:tp t with
    | none =>
     rw[h1] at e;cases e;exact#[adZ _,λy y z=>(nomatch z),.inl #[Y,Y]]
    | some q =>
     obtain⟨v1,k1⟩:=q;rw[h1] at e;dsimp only at e;split at e
     .cases e;refine#[adZ _,λv' k' z=>?_,.inl #[Y,Y]];cases z;lia
     .cases e;refine#[by lia,λv' k' z=>?_,.inr rfl];cases z;exact adZ _
   have ex:∀ t,∃ v k,(match tp t with|some (v,k)=>if h0+bL ps m.1 t<v then O (h0+bL ps m.1 t,(n:Int)) else O (v,k)|none=>O (h0+bL ps m.1 t,(n:Int)))=O (v,k):=λt=>by
    cases h1:tp t with
    | none=>exact#[_,_,Y]
    | some q =>
     obtain⟨v1,k1⟩:=q;dsimp only;split<;>exact#[_,_,Y]
   refine#[λt=>match tp t with|some (v,k)=>if h0+bL ps m.1 t<v then O (h0+bL ps m.1 t,(n:Int)) else O (v,k)|none=>O (h0+bL ps m.1 t,(n:Int)),⟨λt v k ht e=>?_,λa ha h e=>?_,λt v k ht e=>?_,λt v k ht e=>?_⟩]
   .obtain⟨y,y,⟨rfl,rfl⟩|e1⟩:=one t v k e
    .exact#[n,m,h0,Y,by rw[et,ad6 (by lia),tl,ahK];rfl,hi,adZ _]
    .obtain⟨i,a,h,h1,h2,h3⟩:=T.val t v k ht e1;have:=(acX.mp h2).1;exact#[i,a,h,h1,by rw[et,aen this];exact h2,h3]
   .obtain⟨v,k,e1⟩:=ex a.1;obtain⟨o1,o2,y⟩:=one _ _ _ e1;refine#[v,k,e1,?_];rw[et] at ha;rcases adf.mp ha with z|z
    .obtain⟨v',k',e2,h2⟩:=T.top a z h e;have:=o2 v' k' e2;lia
    .rw[ada.mp z] at e o1;rw[hi] at e;cases e;have:=VJ ps m.1;lia
   .obtain⟨v',k',e1⟩:=ex (t+1);obtain⟨o1,o2,y⟩:=one _ _ _ e1;refine#[v',k',e1,?_];obtain⟨y,y,⟨rfl,rfl⟩|e3⟩:=one t v k e
    .have:=VH hp (i:=m.1) ht;lia
    .obtain⟨v2,k2,e4,h4⟩:=T.fwd t v k ht e3;have:=o2 _ _ e4;lia
   .obtain⟨v',k',e1⟩:=ex t;obtain⟨o1,o2,y⟩:=one _ _ _ e1;refine#[v',k',e1,?_];obtain⟨y,y,⟨rfl,rfl⟩|e3⟩:=one (t+1) v k e
    .have:=VI hp (i:=m.1) ht;lia
    .obtain⟨v2,k2,e4,h4⟩:=T.bwd t v k ht e3;have:=o2 _ _ e4;lia
theorem VL(hp:dw ps)(hm:∀ m∈ms,m.1<=ps.length)(hc:∀ a∈ms,∀ b∈ms,¬ clash ps a b):∃ c,fB ps c/\meets ms c:=by
 obtain⟨tp,T⟩:=KO hp ms ms.length (acS _);rw[aeP] at T;refine TZ hp hm T λm cV l v k e1 e2=>?_;rcases Int.lt_or_le v l with h|h
 .obtain⟨i,a,y,h2,h3⟩:=T.clash (hm m cV) e2 e1 h;exact absurd h3 (hc a (ads h2) m cV)
 .exact h
abbrev Cl:=(En × Nat) × (En × Nat)
noncomputable def iI(e:Int)(c:Cl):Bool:=decide (c.1.1=O e) || decide (c.2.1=O e)
noncomputable def wo(e:Int)(cs:List Cl):List Cl:=cs.filter λc=>!iI e c
def ix:Nat->List Cl->Prop
 | 0,_=>True
 | _+1,[]=>False
 | n+1,c::cs=>∀ e,iI e c=true->ix n (wo e (c::cs))
def tY(es:List Int)(cs:List Cl):Prop:=∀ c∈cs,∃ e∈es,iI e c=true
theorem VM(h:tY es (wo e cs)):tY (e::es) cs:=λc hc=>by
 cases hb:iI e c with
 | true=>exact#[e,.head _,hb]
 | false =>
  obtain⟨x,hx,h1⟩:=h c (adG.mpr #[hc,by rw[hb];rfl]);exact#[x,.tail _ hx,h1]
inductive Pp where
 | nil:Pp
 | full:Pp
 | cls:Cl->Pp->Pp->Pp
noncomputable def nq:Nat->List Cl->Pp
 | 0,_=>.full
 | _+1,[]=>.full
 | n+1,c::cs=>.cls c (match c.1.1 with|none=>.nil|some e=>nq n (wo e (c::cs))) (if c.1.1=c.2.1 then .nil else match c.2.1 with|none=>.nil|some e=>nq n (wo e (c::cs)))
def kB(gs:List S2)(tb:Tb)(as:List Int)(s:En × Nat)(m:Mk):Prop:=m.1=s.2/\match s.1 with|none=>gs[s.2]?=O m.2|some e=>e∉as/\((e,(s.2:Int)),m.2)∈tb
def Val(ps:List P2)(gs:List S2)(tb:Tb)(mo:Int):Pp->List Int->Prop
 | .nil,_=>False
 | .full,as=>mo<as.length
 | .cls c a b,as=>(∃ m n,kB gs tb as c.1 m/\kB gs tb as c.2 n/\clash ps m n)/\(match c.1.1 with|none=>a = .nil|some e=>Val ps gs tb mo a (as++[e]))/\(match c.2.1 with|none=>b = .nil|some e=>if c.1.1=O e then b = .nil else Val ps gs tb mo b (as++[e]))
theorem pd:iI e c=true↔c.1.1=O e∨c.2.1=O e:=by unfold iI;rw[afD,decide_eq_true_eq,decide_eq_true_eq]
theorem KP:∀ (n:Nat) (cs:List Cl) (as:List Int),ix n cs->(as.length:Int)+n=mo+1->(∀ c∈cs,∃ m n,kB gs tb as c.1 m/\kB gs tb as c.2 n/\clash ps m n)->Val ps gs tb mo (nq n cs) as
 | 0,_,as,_,h,_=>by show mo<as.length;lia
 | n+1,[],_,h,_,_=>h.elim
 | n+1,c::cs,as,h,hl,hs=>by
  have sub:∀ e,iI e c=true->Val ps gs tb mo (nq n (wo e (c::cs))) (as++[e]):=λe he=>by
   refine KP n _ _ (h e he) (by rw[ac7,adb];lia) λc' kW=>?_;obtain⟨h1,h2⟩:=adG.mp kW;obtain⟨m,k,a1,a2,a3⟩:=hs c' h1;have h3:iI e c'=false:=by cases hh:iI e c' with|false=>rfl|true=>rw[hh] at h2;cases h2
   have h4:∀ x,c'.1.1=O x∨c'.2.1=O x->x≠e:=λx hx z=>by subst z;rw[pd.mpr hx] at h3;cases h3
   refine#[m,k,#[a1.1,?_],#[a2.1,?_],a3]
   .have:=a1.2;cases hx:c'.1.1 with
    | none=>rw[hx] at this;exact this
    | some x =>
     rw[hx] at this;refine#[λz=>?_,this.2];rcases adf.mp z with z|z
     .exact this.1 z
     .exact h4 x (.inl hx) (ada.mp z)
   .have:=a2.2;cases hx:c'.2.1 with
    | none=>rw[hx] at this;exact this
    | some x =>
     rw[hx] at this;refine#[λz=>?_,this.2];rcases adf.mp z with z|z
     .exact this.1 z
     .exact h4 x (.inr hx) (ada.mp z)
  refine#[hs c (.head _),?_,?_]
  .cases hx:c.1.1 with
   | none=>rfl
   | some e=>exact sub e (pd.mpr (.inl hx))
  .cases hx:c.2.1 with
   | none=>dsimp only;split<;>rfl
   | some e =>
    dsimp only;by_cases he:c.1.1=O e
    .rw[if_pos he,if_pos he]
    .rw[if_neg he,if_neg he];exact sub e (pd.mpr (.inr hx))
abbrev Gp:=En × List Mk
def xX(ps:List P2)(gs:List Gp)(cs:List Cl):Prop:=∀ c∈cs,∃ g∈gs,∃ h∈gs,∃ m∈g.2,∃ n∈h.2,c=((g.1,m.1),(h.1,n.1))/\clash ps m n
def kC(ps:List P2)(g h:Gp)(cs:List Cl):Prop:=∀ m∈g.2,∀ n∈h.2,clash ps m n->∃ c∈cs,c.1.1=g.1/\c.2.1=h.1
theorem kC.more(x:kC ps g h cs):kC ps g h (cs++ds):=λm hm n hn hc=>let ⟨c,h1,h2⟩:=x m hm n hn hc;#[c,adH _ h1,h2]
noncomputable def kD(gs:List Mk)(e:Nat)(tb:Tb):List Gp:=(J,gs)::(tX e tb).map λr=>(O r.1,r.2)
theorem tZ:m∈cH tb es ↔ ∃ r∈tb,r.1.1∉es/\m=(r.1.2.toNat,r.2):=by
 unfold cH;constructor
 .intro h;obtain⟨r,hr,rfl⟩:=ac2.mp h;obtain⟨h1,h2⟩:=adG.mp hr;exact#[r,tI h1,by simpa using h2,Y]
 .rintro ⟨r,hr,h1,rfl⟩;exact ac2.mpr #[r,adG.mpr #[oT.mem_iff.mpr hr,by simpa using h1],Y]
theorem KQ(ar:bV e t tb)(h:m∈gm++cH tb es):∃ g∈kD gm e.toNat tb,m∈g.2/\∀ x,g.1=O x->x∉es:=by
 rcases adf.mp h with z|z
 .exact#[_,.head _,z,λx hx=>nomatch hx]
 .obtain⟨r,hr,h1,rfl⟩:=tZ.mp z;have ho:=ar.2 r hr;unfold kq at ho;refine#[(O r.1.1,ng tb r.1.1),.tail _ (ac2.mpr #[(r.1.1,ng tb r.1.1),ac2.mpr #[r.1.1.toNat,aeg.mpr (by lia),by rw[aeU ho.1.1]],Y]),Cd.mpr #[r,hr,Y,Y],λx hx=>?_];cases hx;exact h1
theorem VN(ar:bV e t tb)(hp:dw ps)(hm:∀ m∈gm++cH tb es,m.1<=ps.length)(hc:tY es cs)(hx:∀ g∈kD gm e.toNat tb,∀ h∈kD gm e.toNat tb,kC ps g h cs):∃ c,fB ps c/\meets (gm++cH tb es) c :=
 VL hp hm λa ha b hb gV=>by
  obtain⟨g,h1,h2,h3⟩:=KQ ar ha;obtain⟨h,k1,k2,k3⟩:=KQ ar hb;obtain⟨c,c1,c2,c3⟩:=hx g h1 h k1 a h2 b k2 gV;obtain⟨x,x1,x2⟩:=hc c c1;rcases pd.mp x2 with z|z
  .exact h3 x (c2.symm.trans z) x1
  .exact k3 x (c3.symm.trans z) x1
theorem snd_mk(ar:bV e t tb)(hg:∀ m∈gm,gs[m.1]?=O m.2)(h:xX ps (kD gm e.toNat tb) cs):∀ c∈cs,∃ m n,kB gs tb [] c.1 m/\kB gs tb [] c.2 n/\clash ps m n:=λc hc=>by
 obtain⟨g,h1,k,h2,m,h3,n,h4,rfl,h5⟩:=h c hc;have one:∀ g∈kD gm e.toNat tb,∀ m∈g.2,kB gs tb [] (g.1,m.1) m:=λg tT m hm=>by
  rcases acZ.mp tT with rfl|z
  .exact#[Y,hg m hm]
  .obtain⟨q,hq,rfl⟩:=ac2.mp z;obtain⟨i,y,rfl⟩:=ac2.mp hq;obtain⟨r,hr,e1,rfl⟩:=Cd.mp hm;have ho:=ar.2 r hr;unfold kq at ho;refine#[Y,adz,?_];show (((i:Int),((r.1.2.toNat:Nat):Int)),r.2)∈tb;rw[aeU ho.2.1,<- e1];exact hr
 exact#[m,n,one g h1 m h3,one k h2 n h4,h5]
section
end
abbrev kE(h:ae7)(e it:ac4)(i:Int)(old:acU)(a:ac4)(f:Bool):Prop :=
 h.get? e=O { cls:=.type "enumerate",dict:=J,data:=.fields (List.toArray [agc a,.bool f,.ref it,agc i,.none,old]),slots:=(List.toArray []) }
section
theorem VO{e it l a:ac4}{f:Bool}{oa:Obj}{i:Nat}{items:Array acU}{x old:acU}{Q:Option acU->ac8->Prop}
 (he:kE s.heap e it i old a f) (ha:s.heap.get? a=O oa) (VP:a≠e) (VQ:a≠it) (hit:s.heap.IsListIter it l i) (hl:s.heap.IsList l items) (hx:items[i]?=O x) (bp:e≠it)
 (hQ:∀ h',kE h' e it ((i:Int)+1) old a true->h'.IsListIter it l (i+1) ->
   h'.get? s.heap.objs.size=O { cls:=.type "tuple",data:=.seq (List.toArray [.int i s.toks,x]) }->h'.objs.size=s.heap.objs.size+1 ->
   (∀ b o,b≠e->b≠it->s.heap.get? b=O o->h'.get? b=O o)->Q (O (.ref s.heap.objs.size)) { s with heap:=h',toks:=s.toks+1 }) :
 adi (model prog w) A (afT (.ref e)) Q E s:=by
 have hT:s.TypeIs (.ref e) "enumerate" := #[_,he,Y];obtain⟨hp,g,d,tk,os⟩:=s;unfold afT;refine acK (aft (ad7 (name:=ac0 "__next__") hT afi
  (aec afi hT ahg ?_ (aha _))))
 show adi _ _ (field (.ref e) 2 >>= _) _ _ _;refine acK (aeV he Y (x:=.ref it) Y ?_);refine acK (aiK hit hl hx λh₁ KR rg=>?_);replace rg:Heap.SameBut it hp h₁:=rg;have xY:kE h₁ e it i old a f:=(rg.2 e bp).trans he;show adi _ _ (field (.ref e) 3 >>= _) _ _ #[h₁,g,d,tk,os];refine acK (aeV xY Y (x:=agc i) Y ?_);show adi _ _ (field (.ref e) 4 >>= _) _ _ #[h₁,g,d,tk,os];refine acK (aeV xY Y (x:=.none) Y ?_);show adi _ _ (mkInt i >>= _) _ _ #[h₁,g,d,tk,os];refine acK (wpAny_mkInt ?_);show adi _ _ (ak0 (.ref e) 3 (agc ((i:Int)+1)) >>= _) _ _ #[h₁,g,d,tk+1,os];refine acK (aeL xY (by simp) λh₂ xZ rh=>?_);replace rh:Heap.SameBut e h₁ h₂:=rh;replace xZ:kE h₂ e it ((i:Int)+1) old a f:=xZ;show adi _ _ (ak0 (.ref e) 4 .none >>= _) _ _ #[h₂,g,d,tk+1,os];refine acK (aeL xZ (by simp) λh₃ x3 rj=>?_);replace rj:Heap.SameBut e h₂ h₃:=rj;replace x3:kE h₃ e it ((i:Int)+1) old a f:=x3;show adi _ _ (alQ [.int i tk,x] >>= _) _ _ #[h₃,g,d,tk+1,os];refine acK (ahS ?_);have t4:kE (h₃.push { cls:=.type "tuple",data:=.seq (List.toArray [.int i tk,x]) }) e it ((i:Int)+1) old a f:=acL _ x3;generalize t5:h₃.push { cls:=.type "tuple",data:=.seq (List.toArray [.int i tk,x]) }=h₄ at t4;have hsz:h₃.objs.size=hp.objs.size:=by rw[rj.1,rh.1,rg.1]
 have tR:e<hp.objs.size:=acT he;have VR:h₄.get? hp.objs.size=O { cls:=.type "tuple",data:=.seq (List.toArray [.int i tk,x]) }:=by rw[<- t5,<- hsz];exact acV _ rfl
 have VS:h₄.objs.size=hp.objs.size+1:=by rw[<- t5,aem,hsz]
 have KS:∀ b o,b≠e->b≠it->hp.get? b=O o->h₄.get? b=O o:=λb o jT Kx hb=>by rw[<- t5];exact acL _ (rj.extBut b o jT (rh.extBut b o jT (rg.extBut b o Kx hb)))
 have VT:h₄.IsListIter it l (i+1):=by rw[<- t5];obtain⟨o,ho,r⟩:=(KR.extBut rh.extBut (adR bp)).extBut rj.extBut (adR bp);exact#[o,acL _ ho,r]
 show adi _ _ (ad3 (.ref e) >>= _) _ _ #[h₄,g,d,tk+1,os];rw[hsz];clear t5 x3 rj xZ rh xY rg KR hsz h₃ h₂ h₁;have VU:h₄.get? a=O oa:=KS a oa VP VQ ha;refine acK ?_;unfold ad3;refine acK (aeV t4 Y (x:=agc a) Y ?_);show adi _ _ (loadIfAlive ((a:Int).toNat) >>= _) _ _ _;rw[adL];refine acK (PySem.W.kdx_alive VU ?_);simp only[Option.isNone_some,adn,if_false];refine acK (aeV t4 Y (x:=.bool f) Y ?_);have fin:∀ h₅:ae7,kE h₅ e it ((i:Int)+1) old a true->Heap.SameBut e h₄ h₅->Q (O (.ref hp.objs.size)) #[h₅,g,d,tk+1,os]:=λh₅ t6 nt =>
  hQ h₅ t6 (VT.extBut nt.extBut (adR bp)) (nt.extBut _ _ (ad5 tR) VR) (by show h₅.objs.size=hp.objs.size+1;rw[nt.1,VS]) λb o lS jm q=>nt.extBut b o lS (KS b o lS jm q)
 cases f with
 | true =>
  rw[if_neg (show ¬ ((aeN true != aeN true)=true) from adq)];refine acQ ?_;simp only[adn,if_false];exact acQ #[_,Y,acQ (fin h₄ t4 (Heap.SameBut.refl _ _))]
 | false =>
  rw[if_pos (show (aeN false != aeN true)=true from Y)];refine acK (aeL t4 (by simp) λh₅ t6 nt=>?_);replace nt:Heap.SameBut e h₄ h₅:=nt;replace t6:kE h₅ e it ((i:Int)+1) old a true:=t6;refine acQ ?_;simp only[adn,if_false];exact acQ #[_,Y,acQ (fin h₅ t6 nt)]
theorem VV{e it l a:ac4}{f:Bool}{i:Nat}{items:Array acU}{old:acU}{Q:Option acU->ac8->Prop}(hh:A.handled=J)
 (he:kE s.heap e it i old a f) (hit:s.heap.IsListIter it l i) (hl:s.heap.IsList l items) (hx:items[i]?=J)
 (hQ:∀ h',ajO it s.heap h'->Q J { s with heap:=h' }):adi (model prog w) A (afT (.ref e)) Q E s:=by
 have hT:s.TypeIs (.ref e) "enumerate" := #[_,he,Y];unfold afT;refine acK (aft (ad7 (name:=ac0 "__next__") hT afi
  (aec afi hT ahg ?_ (aha _))))
 show adi _ _ (field (.ref e) 2 >>= _) _ _ _;refine acK (aeV he Y (x:=.ref it) Y ?_);refine acK (wpAny_nextOf_list_end hh hit hl hx λh' x qT cL=>?_);obtain⟨o,ho,hc⟩:=cL;refine acK (afK (T := "StopIteration") (b:=true) #[o,ho,hc] ahU ?_);exact acQ (hQ _ qT)
def ph(h:ae7)(e it S:ac4)(i:Nat):Prop :=
 (∃ old,IsEnum h e it i old) ∨ ∃ old a f oa,kE h e it i old a f/\h.get? a=O oa/\a≠e/\a≠it/\a≠S
theorem ph.keep(x:ph h e it S i)(hk:∀ b o,b≠S->h.get? b=O o->h'.get? b=O o)(hI:e≠S):ph h' e it S i:=by
 rcases x with ⟨old,q⟩|⟨old,a,f,oa,q,ha,h1,h2,h3⟩
 .exact .inl #[old,hk _ _ hI q]
 .exact .inr #[old,a,f,oa,hk _ _ hI q,hk _ _ h3 ha,h1,h2,h3]
theorem VW(st:ph s.heap e it S i)(hS:S<s.heap.objs.size)(hit:s.heap.IsListIter it l i)(hl:s.heap.IsList l items)(hx:items[i]?=O x)(bp:e≠it)(hQ:∀ h',ph h' e it S (i+1)->h'.IsListIter it l (i+1) ->
 h'.get? s.heap.objs.size=O { cls:=.type "tuple",data:=.seq (List.toArray [.int i s.toks,x]) }->h'.objs.size=s.heap.objs.size+1 ->
 (∀ b o,b≠e->b≠it->s.heap.get? b=O o->h'.get? b=O o)->Q (O (.ref s.heap.objs.size)) { s with heap:=h',toks:=s.toks+1 }) :
 adi (model prog w) A (afT (.ref e)) Q E s:=by
 have ce:((i:Int)+1)=((i+1:Nat):Int):=by lia
 have hi:it<s.heap.objs.size:=let ⟨_,q,_⟩:=hit;acT q;rcases st with ⟨old,he⟩|⟨old,a,f,oa,he,ha,h1,h2,h3⟩
 .exact aiG he hit hl hx bp λh' q1 q2 q3 q4 q5=>hQ h' (.inr #[x,_,false,_,by rw[<- ce];exact q1,q3,ad5 (acT he),ad5 hi,ad5 hS]) q2 q3 q4 q5
 .exact VO he ha h1 h2 hit hl hx bp λh' q1 q2 q3 q4 q5=>hQ h' (.inr #[old,a,true,oa,by rw[<- ce];exact q1,q5 a oa h1 h2 ha,h1,h2,h3]) q2 q3 q4 q5
theorem VX(hh:A.handled=J)(st:ph s.heap e it S i)(hit:s.heap.IsListIter it l i)(hl:s.heap.IsList l items)(hx:items[i]?=J)(hQ:∀ h',ajO it s.heap h'->Q J { s with heap:=h' }):adi (model prog w) A (afT (.ref e)) Q E s:=by
 rcases st with ⟨old,he⟩|⟨old,a,f,oa,he,y⟩
 .exact ai1 hh he hit hl hx hQ
 .exact VV hh he hit hl hx hQ
end
structure lT(items:Array acU)(lo:ac4)(h:ae7)(as:List ac4):Prop where
 rise:as.Pairwise (· < ·)
 above:∀ a∈as,lo<=a
 pairs:∀ (j:Nat) (a:ac4),as[j]?=O a->∃ t x,items[j]?=O x/\h.get? a=O { cls:=.type "tuple",data:=.seq (List.toArray [.int j t,x]) }
theorem lT.there{items:Array acU}{lo:ac4}{h:ae7}{as:List ac4}(g:lT items lo h as){a:ac4}(ha:a∈as):a<h.objs.size:=by obtain⟨j,hj⟩:=ae1.mp ha;obtain⟨y,y,y,e⟩:=g.pairs j a hj;exact acT e
theorem lT.keep{items:Array acU}{lo:ac4}{h h':ae7}{as:List ac4}(g:lT items lo h as)(k:∀ b o,lo<=b->h.get? b=O o->h'.get? b=O o):lT items lo h' as :=
 #[g.rise,g.above,λj a hj=>let ⟨t,x,e1,e2⟩:=g.pairs j a hj;#[t,x,e1,k a _ (g.above a (ads hj)) e2]]
section
variable{prog:adP}{w:aes}{A:ae2}{s:ac8}{R:akw->ac8->Prop}{items:Array acU}
theorem VY{S e it l lo:ac4}(hh:A.handled=J)(bp:e≠it)(rm:S≠e)(rn:S≠it)(x4:l≠S)(hle:l≠e)(nj:l≠it)(KU:S<lo)(VZ:e<lo)(KW:it<lo)(hn:items.size<=adh)(res:acU){h₁:ae7}
 (hR:∀ h' tk acc c as,(∀ b o,b≠S->b≠e->b≠it->h₁.get? b=O o->h'.get? b=O o)->h'.get? S=O { cls:=.type "list",dict:=J,data:=.seq acc c,slots:=(List.toArray []) }->as.length=items.size->lT items lo h' as ->
   acc.toList=as.map adB->R (.ok (.ret res)) { s with heap:=h',toks:=tk }) :
 ∀ (k i:Nat) (h:ae7) (tk c:Nat) (acc:Array acU) (as:List ac4),items.size-i=k->i<=items.size->ph h e it S i->h.IsListIter it l i->h.IsList l items->(∀ b o,b≠S->b≠e->b≠it->h₁.get? b=O o->h.get? b=O o) ->
  h.get? S=O { cls:=.type "list",dict:=J,data:=.seq acc c,slots:=(List.toArray []) }->acc.toList=as.map adB->as.length=i->lT items lo h as->lo<=h.objs.size ->
  ago (model prog w) A (.builtin "list.extend.loop" #[[.ref S,.ref e,res],[]]) R { s with heap:=h,toks:=tk }:=by
 intro k
 induction k with
 | zero =>
  intro i h tk c acc as hk hi de hit hl Ce hS gY nu hG hz;have dr:i=items.size:=by lia
  refine ael ahY ?_;rw[adW afz _];show adi _ A.in1 (afT (.ref e) >>= _) _ _ _;refine acK (VX (s:={ s with heap:=h,toks:=tk }) (A:=A.in1) hh de hit hl (afO (by lia)) λh' he=>?_);exact acQ (hR h' tk acc c as (λb o h1 h2 h3 q=>he b o h3 (Ce b o h1 h2 h3 q)) (he S _ rn hS) (by lia) (hG.keep λb o hb q=>he b o (ad5 (adm KW hb)) q) gY)
 | succ k ih =>
  intro i h tk c acc as hk hi de hit hl Ce hS gY nu hG hz;have aW:i<items.size:=by lia
  refine ael ahY ?_;rw[adW afz _];show adi _ A.in1 (afT (.ref e) >>= _) _ _ _;refine acK (VW (s:={ s with heap:=h,toks:=tk }) (A:=A.in1) de (acT hS) hit hl (adO aW) bp λh' bS qS hT hsz gW=>?_);have lP:=gW S _ rm rn hS;have KY:acc.size=i:=by
   have:acc.toList.length=i:=by rw[gY,acN,nu]
   simpa using this
  show adi _ A.in1 (ah7 S (·.push (.ref h.objs.size)) >>= _) _ _ _;refine acK ?_;have KZ:lo<=h.objs.size:=hz;have sb:∀ b o,b≠S->h'.get? b=O o->(h'.update S (adC (·.push (.ref h.objs.size)))).get? b=O o:=λb o hb q=>(ac9 _ _ (adR hb)).trans q;refine aff lP Y (acQ #[ae9 afz _,ih (i+1) _ (tk+1) _ (acc.push (.ref h.objs.size)) (as++[h.objs.size]) (by lia) aW
   (bS.keep sb (adR rm)) (qS.at λo q=>sb it o (adR rn) q) ((hl.at λo q=>gW l o hle nj q).at λo q=>sb l o x4 q)
   (λb o h1 h2 h3 q=>sb b o h1 (gW b o h2 h3 (Ce b o h1 h2 h3 q))) (adQ _ lP Y) (by rw[akr,gY];simp) (by rw[ac7,nu];rfl) ?_ ?_])
   (by rw[KY];lia) (by show (acc.push _).size<=adh+1;rw[ali,KY];lia)
  .have up:∀ b o,lo<=b->h.get? b=O o->(h'.update S (adC (·.push (.ref h.objs.size)))).get? b=O o:=λb o hb q =>
    sb b o (ad5 (adm KU hb)) (gW b o (ad5 (adm VZ hb)) (ad5 (adm KW hb)) q)
   have G':=hG.keep up;refine#[?_,?_,?_]
   .refine ajr.mpr #[hG.rise,List.pairwise_singleton _ _,λa ha b hb=>?_];rw[ada.mp hb];exact hG.there ha
   .intro a ha;rcases adf.mp ha with ha|ha
    .exact hG.above a ha
    .rw[ada.mp ha];exact KZ
   .intro j a hj;by_cases hjl:j<as.length
    .rw[aen hjl] at hj;exact G'.pairs j a hj
    .rw[ad6 (by lia)] at hj;have V0:j-as.length=0:=by
      rcases Nat.eq_zero_or_pos (j-as.length) with z|z
      .exact z
      .rw[adI (by rw[adb];exact z)] at hj;cases hj
     rw[V0] at hj;cases hj;obtain rfl:j=i:=by lia
     exact#[_,_,adO aW,sb _ _ (ad5 (adm KU KZ)) hT]
  .rw[(aeA ..).1];show lo<=h'.objs.size;rw[hsz];exact akp hz
end
theorem V1:akh (.type "enumerate") "__len__" = pure J:=by rw[ahw,afZ];kernel_rfl
theorem V2:akh (.type "enumerate") "__length_hint__" = pure J:=by rw[ahw,afZ];kernel_rfl
section
theorem V3(hh:A.handled=J)(old:acU)(he:IsEnum s.heap e it 0 old)(hit:s.heap.IsListIter it l 0)(hl:s.heap.IsList l items)(bp:e≠it)(hle:l≠e)(nj:l≠it)(S:ac4)(rm:S≠e)(rn:S≠it)(x4:l≠S)(res:acU)(c:Nat)(hS:s.heap.get? S=O { cls:=.type "list",data:=.seq (List.toArray []) c })(hn:items.size<=adh)(hR:∀ g tk acc c' as,(∀ b o,b≠S->b≠e->b≠it->s.heap.get? b=O o->g.get? b=O o)->g.get? S=O { cls:=.type "list",dict:=J,data:=.seq acc c',slots:=(List.toArray []) }->as.length=items.size->lT items s.heap.objs.size g as ->
 acc.toList=as.map adB->R (.ok (.ret res)) { s with heap:=g,toks:=tk }) :
 adi (model prog w) A.in1 (afh (.ref S) (.ref e) res)
  (λf u=>match f with|.done f=>R (.ok f) u|.again k=>k.quiet=true/\ago (model prog w) A k R u) (λe u=>R (.error e) u) s:=by
 have h1:aic (.ref S) (.ref e)=false:=by simp[aic,rm]
 have hT:s.TypeIs (.ref e) "enumerate" := #[_,he,Y];unfold afh;refine acK (wpAny_typeOf hT ?_);rw[if_neg (by rw[h1];decide)];refine acK (ah8 he ?_);refine acK (aeq ?_);unfold af0;refine acK (ahu hT V1 ?_);show adi _ A.in1 (specialOf (adB e) (ac0 "__length_hint__") >>= _) _ _ _;refine acK (ahu hT V2 ?_);refine acQ ?_;show adi _ A.in1 (rule "list.extend.makes-room" >>= λy=>alX (.ref S) >>= λy=>again (.builtin "list.extend.loop" #[[.ref S,.ref e,res],[]])) _ _ _;refine acK (agO ?_);refine acK ?_;show adi _ A.in1 (ah7 S (·.push .none) >>= λy=>ah7 S (·.pop)) _ _ _;refine acK (aff hS Y ?_);have K0:=adQ (adC (·.push Value.none)) hS rfl;refine aff K0 Y ?_;have V4:=adQ (adC (·.pop)) K0 rfl;have lU:∀ b o,b≠S->s.heap.get? b=O o->((s.heap.update S (adC (·.push Value.none))).update S (adC (·.pop))).get? b=O o :=
  λb o hb e=>(ac9 _ _ (adR hb)).trans ((ac9 _ _ (adR hb)).trans e)
 have sz:((s.heap.update S (adC (·.push Value.none))).update S (adC (·.pop))).objs.size=s.heap.objs.size:=by rw[(aeA ..).1,(aeA ..).1]
 refine acQ #[ae9 afz _,VY (s:=s) (l:=l) (it:=it) (lo:=s.heap.objs.size) (items:=items) (h₁:=s.heap) hh bp rm rn x4 hle nj (acT hS) (acT he) (let ⟨_,q,_⟩:=hit;acT q) hn res hR
  items.size 0 _ s.toks _ (List.toArray []) [] Y (adt _) (.inl #[old,lU _ _ (adR rm) he]) (hit.at λo q=>lU it o (adR rn) q) (hl.at λo q=>lU l o x4 q) (λb o h1 y y q=>lU b o h1 q) V4 Y Y #[.nil,(λy h=>nomatch h),λj a h=>by cases h] (by rw[sz];exact acS _)]
theorem V5(hh:A.handled=J)(old:acU)(he:IsEnum s.heap e it 0 old)(hit:s.heap.IsListIter it l 0)(hl:s.heap.IsList l items)(bp:e≠it)(hle:l≠e)(nj:l≠it)(hn:items.size<=adh)(hQ:∀ g tk acc c as,(∀ b o,b≠e->b≠it->s.heap.get? b=O o->g.get? b=O o)->g.get? s.heap.objs.size=O { cls:=.type "list",dict:=J,data:=.seq acc c,slots:=(List.toArray []) }->as.length=items.size->lT items (s.heap.objs.size+1) g as ->
 acc.toList=as.map adB->Q (.ref s.heap.objs.size) { s with heap:=g,toks:=tk }) :
 adi (model prog w) A (call (.type "list") [.ref e]) Q E s:=by
 have le:e<s.heap.objs.size:=acT he;have li:it<s.heap.objs.size:=let ⟨_,q,_⟩:=hit;acT q;have ll:l<s.heap.objs.size:=let ⟨_,q,_⟩:=hl;acT q;refine callType_codes (Q₁:=λy s₁=>y = .ref s.heap.objs.size/\s₁ = { s with heap:=s.heap.push { cls:=.type "list",data:=.seq (List.toArray []) } }) PySem.F.called_list (PySem.F.typeCall_list_1 _) PySem.F.entry_list_init (code_list_new _ #[Y,Y]) λy s₁ h₁=>?_;obtain⟨rfl,rfl⟩:=h₁;have e0:(s.heap.push { cls:=.type "list",data:=.seq (List.toArray []) }).get? s.heap.objs.size=O { cls:=.type "list",data:=.seq (List.toArray []) }:=acV _ rfl;refine#[#[_,e0,Y],PySem.F.args_list_init_2 _ _,?_];show adi _ A.in1.in1 (do let z <- aiL (.ref s.heap.objs.size);alU (.ref s.heap.objs.size) (λv=>(List.toArray []));letGo z.toList.reverse;afh (.ref s.heap.objs.size) (.ref e) .none) _ _ _;refine acK ?_;unfold aiL;refine acK (aeH e0 Y (acQ ?_));refine acK (m:=ah7 s.heap.objs.size (λv=>(List.toArray []))) (aff e0 Y ?_);have e1:=adQ (adC (λv=>((List.toArray []):Array acU))) e0 rfl;have lU:∀ b o,b≠s.heap.objs.size->s.heap.get? b=O o->((s.heap.push { cls:=.type "list",data:=.seq (List.toArray []) }).update s.heap.objs.size (adC (λv=>((List.toArray []):Array acU)))).get? b=O o :=
  λb o hb e=>(ac9 _ _ (adR hb)).trans (acL _ e)
 have sz:((s.heap.push { cls:=.type "list",data:=.seq (List.toArray []) }).update s.heap.objs.size (adC (λv=>((List.toArray []):Array acU)))).objs.size=s.heap.objs.size+1:=by rw[(aeA ..).1,size_push']
 refine acK (afW ?_);exact V3 (A:=A.in1) hh old (lU e _ (adk le) he) (hit.at λo q=>lU it o (adk li) q) (hl.at λo q=>lU l o (adk ll) q) bp hle nj s.heap.objs.size (ad5 le) (ad5 li) (adk ll) .none _ e1 hn
  λg tk acc c as hk hS nu hG gY=>#[Y,hQ g tk acc c as (λb o h1 h2 q=>hk b o (adk (acT q)) h1 h2 (lU b o (adk (acT q)) q)) hS nu (by rw[<- sz];exact hG) gY]
theorem Inv.K1(I:Inv X pins L H s)(hf:dA X pins H T)(new:bN X.prog X.w (upd H T o) s.heap T o):Inv X pins L (upd H T o) s:=by
 have gx:∀ b u,H b=O u->b≠T:=λb u e=>ja e hf.1;have up:∀ b u,H b=O u->upd H T o b=O u:=λb u e=>by rw[aJ (gx b u e)];exact e
 refine I.step (g':=s.gens) (t':=s.toks) (d':=s.drawn) (h':=s.heap) (ch:=[T]) (λb hb=>?_) (λb o y y hc e y=>e) (λb o y y hc e y=>#[o.slots,e]) (λb u hc e n=>by rw[aJ (by simpa using hc)];exact n)
  (λb o hc e=>#[o,e]) (λb xs e=>up b _ e) (λb y y e=>up b _ e) (λb ps e=>#[(List.toArray []),by rw[up b _ e];simp]) (λm hm=>hm) (λb u e=>?_) I.bare
 .obtain rfl:b=T:=by simpa using hb
  obtain⟨y,d1,d2,d3,d4,d5⟩:=hf;exact#[d3,d1,d4,d5]
 .by_cases hb:b=T
  .subst hb;rw[ao] at e;cases e;exact new
  .rw[aJ hb] at e;exact (I.ar b u e).jS (λc v hc q=>q) (λc q=>up c _ q) λc xs q=>up c _ q
theorem V6(h:dA X pins H b)(hb:b≠T):dA X pins (upd H T o) b:=#[by rw[aJ hb];exact h.1,h.2]
theorem K2:∀ (as:List ac4) (xs:List V) (us:List acU) (i:Nat) (H:Hp),Inv X pins L H s->Vals xs us->as.length=xs.length->as.Pairwise (· < ·)->(∀ a∈as,dA X pins H a) ->
 (∀ j a u,as[j]?=O a->us[j]?=O u->∃ t,s.heap.get? a=O { cls:=.type "tuple",data:=.seq (List.toArray [.int ((i+j:Nat):Int) t,u]) }) ->
 ∃ H',aj H H'/\Inv X pins L H' s/\(∀ b,b∉as->H' b=H b)/\∀ j a x,as[j]?=O a->xs[j]?=O x->H' a=O (.tup [.int ((i+j:Nat):Int),x])
 | [],[],us,i,H,I,r,hl,hp,hf,ht=>#[H,λc c e=>e,I,λc c=>rfl,λj a x h=>by cases h]
 | [],_::_,us,i,H,I,r,hl,hp,hf,ht=>by cases hl
 | _::_,[],us,i,H,I,r,hl,hp,hf,ht=>by cases hl
 | a::as,x::xs,us,i,H,I,r,hl,hp,hf,ht=>by
  cases us with
  | nil=>cases r
  | cons u us =>
  cases r with
  | cons r rs =>
  obtain⟨aW,fv⟩:=aj4.mp hp;have na:∀ b∈as,b≠a:=λb hb=>ad5 (aW b hb);obtain⟨t,h0⟩:=ht 0 a u Y rfl;have I1:=Inv.K1 (o:=.tup [.int ((i+0:Nat):Int),x]) I (hf a (.head _)) #[AQ,[.int ((i+0:Nat):Int) t,u],.cons #[_,Y] (.cons r .nil),#[_,h0,Y,_,Y]];obtain⟨H',s1,I2,k1,k2⟩:=K2 as xs us (i+1) _ I1 rs (by simpa using hl) fv (λb hb=>V6 (hf b (.tail _ hb)) (na b hb)) λj b v e1 e2=>by obtain⟨t',q⟩:=ht (j+1) b v e1 e2;exact#[t',by rw[show i+1+j=i+(j+1) by lia];exact q]
  refine#[H',λb v e=>s1 b v (by rw[aJ (ja e (hf a (.head _)).1)];exact e),I2,λb hb=>?_,λj b y e1 e2=>?_]
  .rw[k1 b (λz=>hb (.tail _ z)),aJ (λz=>hb (by rw[z];exact .head _))]
  .cases j with
   | zero =>
    cases e1;cases e2;rw[k1 a (λz=>na a z Y),ao]
   | succ j =>
    have:=k2 j b y e1 e2;rw[show i+1+j=i+(j+1) by lia] at this;exact this
end
theorem K3:∀ as:List ac4,Vals (as.map V.ref) (as.map adB)
 | []=>.nil
 | _::as=>.cons rfl (K3 as)
def K4(K:acM)(ta:TA):TE:=λL H Q=>ta L H λvs H1=>∃ a xs,vs=[.ref a]/\ah K H1 a xs/\∀ l ys H',aj H1 H'->H1 l=J->H' l=O (.lst ys)->ys.length=xs.length ->
 (∀ j y x,ys[j]?=O y->xs[j]?=O x->∃ p,y = .ref p/\H1 p=J/\H' p=O (.tup [.int (j:Nat),x]))->Q (.ref l) H'
theorem V7(hc:X.calm=true)(hg:Gl X "list")(hm:X.mg "list" = J)(nk:Gl X "enumerate")(q8:X.mg "enumerate" = J)(ha:PA X [e] ta)(hs:adp [.Call (.Name "enumerate" p2) [e] [] lQ] X.env=[(false,eval (.Call (.Name "enumerate" p2) [e] [] lQ) X.env)]:=by rfl)(df:adp [e] X.env=[(false,eval e X.env)]:=by rfl) :
 PE X (.Call (.Name "list" p) [.Call (.Name "enumerate" p2) [e] [] lQ] [] pos) (K4 X.K ta):=by
 intro pins s L H Q I h;refine al0 (fI I hg hm wZ (adD ?_ hs Y));rw[hs];show adi _ _ (spliced ((false,eval (.Call (.Name "enumerate" p2) [e] [] lQ) X.env)::afn pos [])) _ _ s;refine afQ (al0 (fI I nk q8 Hz (adD (aC (ha lQ pins s L H _ I h) λus s1 zq=>?_) df Y)));obtain⟨vs,H1,I1,r1,q1⟩:=zq;obtain⟨a,xs,rfl,hq,q⟩:=q1;obtain⟨u,rfl,ru⟩:=vals1 r1;cases ru;obtain⟨ai,rv,pl,hz⟩:=I1.list hq;refine ajL pl.isList λh' he hit hsz hk=>?_;refine af5 ?_;have la:a<s1.heap.objs.size:=let ⟨_,e,_⟩:=pl.isList;acT e;refine V5 (s:={ s1 with heap:=h' }) (l:=a) (items:=ai.toArray) (I1.ok.hd hc) .none he hit (pl.isList.at λo e=>hk a o e) (akX _) (adk (af9 la)) (adk la) (by rw[ac5,<- rv.length];exact hz) λg tk acc c as lV hD nu hG gY=>?_;have up:∀ b o,s1.heap.get? b=O o->g.get? b=O o:=λb o e=>lV b o (adk (af9 (acT e))) (adk (acT e)) (hk b o e);have I2:Inv X pins L H1 { s1 with heap:=g,toks:=tk }:=I1.kept (t':=tk) up;have Cf:∀ b∈as,s1.heap.objs.size<=b:=λb hb=>by have:=hG.above b hb;have e:({ s1 with heap:=h' }:ac8).heap.objs.size=s1.heap.objs.size+2:=hsz;walk_at "o"
 obtain⟨H',s2,I3,k1,k2⟩:=K2 as xs ai 0 H1 I2 rv (by rw[nu,ac5];exact rv.length.symm) hG.rise (λb hb=>I1.fK (Cf b hb) (I1.ar.fresh (Cf b hb))) λj b v e1 e2=>by
  obtain⟨t,x,e3,e4⟩:=hG.pairs j b e1;have:x=v:=by simpa [e2] using e3.symm
  subst this;exact#[t,by rw[ajc];exact e4]
 have hl:s1.heap.objs.size<=h'.objs.size:=by rw[hsz];exact Nat.le_add_right _ _
 have nl:h'.objs.size∉as:=λz=>absurd (hG.above _ z) (Nat.not_succ_le_self _);have f0:=I1.ar.fresh hl;have K5:as.length=xs.length:=by rw[nu,ac5];exact rv.length.symm
 refine#[.ref h'.objs.size,upd H' h'.objs.size (.lst (as.map V.ref)),Inv.K1 I3 (I1.fK hl (by rw[k1 _ nl];exact f0)) #[by rw[acN,K5];exact hz,acc.toList,c,?_,by rw[ajt];exact hD],Y,q _ (as.map V.ref) _ (λb v e=>?_) f0 (ao ..) (by rw[acN,K5]) λj y x e1 e2=>?_]
 .rw[gY];exact K3 as
 .rw[aJ (ja e f0)];exact s2 b v e
 .rw[ac1] at e1;obtain⟨b,hb,rfl⟩:=ady.mp e1;have hm:=ads hb;refine#[b,Y,I1.ar.fresh (Cf b hm),?_];rw[aJ (λz=>nl (by rw[<- z];exact hm))];have:=k2 j b x hb e2;rw[ajc] at this;exact this
def nv:L2.St->Nat->(V->Prop)->Prop
 | [],_,_=>False
 | x::_,0,Q=>match x with|some v=>Q v|none=>False
 | _::L,n+1,Q=>nv L n Q
def cy(x:V)(Q:Int->Prop):Prop:=match x with|.int i=>Q i|_=>False
def pj(x:V)(Q:Bool->Prop):Prop:=match x with|.bl i=>Q i|_=>False
def t7(x:V)(Q:ac4->Prop):Prop:=match x with|.ref i=>Q i|_=>False
def V8(xs:List V)(Q:V->Prop):Prop:=match xs with|[x]=>Q x|_=>False
def V9(xs:List V)(Q:V->V->Prop):Prop:=match xs with|[x,y]=>Q x y|_=>False
def ny(x:V)(Q:Bool->Prop):Prop:=match x with|.non=>Q true|_=>Q false
def kF(x:V)(Q:Bool->Prop):Prop:=match x with|.non=>Q false|_=>Q true
section
theorem Wa:nv (O v::L) 0 Q=Q v:=rfl
theorem Wb:nv (o::L) (n+1) Q=nv L n Q:=rfl
theorem Wc:cy (.int i) QI=QI i:=rfl
theorem Wd:pj (.bl b) QB=QB b:=rfl
theorem We:t7 (.ref a) QR=QR a:=rfl
theorem Wf:V8 [x] Q=Q x:=rfl
theorem Wg:V9 [x,y] Q2=Q2 x y:=rfl
theorem Wh:ny .non QB=QB true:=rfl
theorem Wi:ny (.int i) QB=QB false:=rfl
theorem Wj:ny (.bl b) QB=QB false:=rfl
theorem Wk:ny (.ref a) QB=QB false:=rfl
theorem Wl:kF .non QB=QB false:=rfl
theorem Wm:kF (.int i) QB=QB true:=rfl
theorem Wn:kF (.bl b) QB=QB true:=rfl
theorem Wo:kF (.ref a) QB=QB true:=rfl
theorem Wq:kF (.str s) QB=QB true:=rfl
theorem Wr:ny (.str s) QB=QB false:=rfl
theorem nv.ex:∀ {L:L2.St} {n:Nat},nv L n Q->∃ v,L[n]?=O (O v)/\Q v
 | [],_,h=>h.elim
 | some v::_,0,h=>#[v,Y,h]
 | none::_,0,h=>h.elim
 | _::L,n+1,h=>nv.ex (L:=L) (n:=n) h
theorem cy.ex(h:cy x QI):∃ i,x = .int i/\QI i:=by cases x<;>first|exact#[_,Y,h]|exact h.elim
theorem pj.ex(h:pj x QB):∃ i,x = .bl i/\QB i:=by cases x<;>first|exact#[_,Y,h]|exact h.elim
theorem t7.ex(h:t7 x QR):∃ i,x = .ref i/\QR i:=by cases x<;>first|exact#[_,Y,h]|exact h.elim
theorem kF.ex(h:kF x QB):QB (!decide (x = .non)):=by cases x<;>exact h
theorem ny.ex(h:ny x QB):QB (decide (x = .non)):=by cases x<;>exact h
end
section
variable{X:Cx}{e a b c:agY}{pos:Pos}{ta tb tc:TE}{op k8:CmpOp}
theorem K6(h:Q (tx x)):kF x Q:=by cases x<;>exact h
theorem x5{c:Prop}[Decidable c]{Q:Bool->Prop}(h:Q (decide c)):if c then Q true else Q false:=by
 by_cases z:c
 .rw[decide_eq_true z] at h;exact (show _=_ from if_pos z).mpr h
 .rw[decide_eq_false z] at h;exact (show _=_ from if_neg z).mpr h
def Ws(t:TE):TE:=λL H Q=>∃ Q':VK,(∀ v H1,Q' v H1->Q v H1)/\t L H Q'
theorem eZ(h:PE X e ta):PE X e (Ws ta):=λpins s L H Q I ⟨Q',k,q⟩=>aC (h pins s L H Q' I q) λ_ _ ⟨x,H1,I1,r1,q1⟩=>#[x,H1,I1,r1,k _ _ q1]
theorem t8(h:PE X e ta)(k:∀ L H Q,t' L H Q->ta L H Q):PE X e t':=λpins s L H Q I q=>h pins s L H Q I (k L H Q q)
theorem pq(h:PT X e t)(k:∀ L H Q,t' L H Q->t L H Q):PT X e t':=λpins s L H Q I q=>h pins s L H Q I (k L H Q q)
theorem Cg(h:bz X f r)(k:∀ x y H Q,r' x y H Q->r x y H Q):bz X f r':=λpins s L H x y v u Q I rx ry q=>h pins s L H x y v u Q I rx ry (k _ _ _ _ q)
def K7(i:Nat):TE:=λL H Q=>nv L i λv=>Q v H
theorem aa(i:Nat)(hN:X.N[i]?=O x:=by rfl)(hv:wu X.env.scope x:=by first|exact ahc rfl|exact akz (ahc Y)|exact akz (akz Y))(hd:(x == ("__debug__" : Str))=false:=by decide)(gd:(x == ("__classdict__" : Str))=false:=by decide):PE X (.Name x pos) (K7 i):=t8 (pv i hN hv hd gd) λy y y h=>h.ex
def x6(C:Int->Int->Prop)(g:Int->Int->V):R2:=λx y H Q=>cy x λi=>cy y λj=>C i j/\Q (g i j) H
def x8(g:Int->Int->V):R2:=λx y H Q=>cy x λi=>cy y λj=>Q (g i j) H
def Ci(g:Int->V):V->Hp->VK->Prop:=λx H Q=>cy x λi=>Q (g i) H
def Cj(p:Int->Int->Prop)[∀ i j,Decidable (p i j)]:R2:=λx y H Q=>cy x λi=>cy y λj=>if p i j then Q (.bl true) H else Q (.bl false) H
theorem K8(h:bz X f (rI C g)):bz X f (x6 C g):=Cg h λx y H Q q=>by obtain⟨i,rfl,q1⟩:=cy.ex q;obtain⟨j,rfl,q5⟩:=cy.ex q1;exact#[i,j,Y,Y,q5]
theorem pw(h:bz X f (ir g)):bz X f (x8 g):=Cg h λx y H Q q=>by obtain⟨i,rfl,q1⟩:=cy.ex q;obtain⟨j,rfl,q5⟩:=cy.ex q1;exact#[i,j,Y,Y,q5]
theorem Ck[∀ i j,Decidable (p i j)](h:bz X f (ir λi j=>.bl (decide (p i j)))):bz X f (Cj p):=Cg h λx y H Q q=>by
 obtain⟨i,rfl,q1⟩:=cy.ex q;obtain⟨j,rfl,q5⟩:=cy.ex q1;clear q q1;refine#[i,j,Y,Y,?_];by_cases z:p i j
 .rw[if_pos z] at q5;show Q (.bl (decide (p i j))) H;rw[decide_eq_true z];exact q5
 .rw[if_neg z] at q5;show Q (.bl (decide (p i j))) H;rw[decide_eq_false z];exact q5
theorem Wt(h:qy X f (rU g)):qy X f (Ci g):=λpins s L H x v Q I rx q=>h pins s L H x v Q I rx q.ex
theorem bD:bz X (af4 .Add) (x8 λi j=>.int (i+j)):=pw Pb
theorem dR:bz X (af4 .Sub) (x8 λi j=>.int (i-j)):=pw Pc
theorem cQ:bz X (af4 .Mod) (x6 (λy j=>0<j) λi j=>.int (i % j)):=K8 Pd
theorem pA:bz X (af4 .Mult) (x6 sO λi j=>.int (i * j)):=K8 Qw
theorem fb:qy X (unaryOp .USub) (Ci λi=>.int (-i)):=Wt Pf
def K9(t:TE):TT:=λL H Q=>t L H λx H'=>pj x λk=>Q k H'
theorem cf(h:PE X e ta)(he:∀ whole,alZ e X.env whole=(do let v <- whole;alK e.pos;holding [v] (truthy v)):=by intro y;rfl):PT X e (K9 ta):=pq (OU (eZ h) he) λL H Q q=>#[_,λy y h=>h.ex,q]
def t9(p:Int->Int->Prop)[∀ i j,Decidable (p i j)](ta tb:TE):TT:=λL H Q=>ta L H λx H1=>tb L H1 λy H2=>cy x λi=>cy y λj=>if p i j then Q true H2 else Q false H2
theorem La{p:Int->Int->Prop}[∀ i j,Decidable (p i j)]{x y:V}{H:Hp}{Q:Bool->Hp->Prop}(q:cy x λi=>cy y λj=>if p i j then Q true H else Q false H):Cj p x y H (λz H'=>∃ k,z = .bl k/\Q k H'):=by
 obtain⟨i,rfl,q1⟩:=cy.ex q;obtain⟨j,rfl,q5⟩:=cy.ex q1;clear q q1;by_cases z:p i j
 .rw[if_pos z] at q5;exact (show _=_ from if_pos z).mpr #[_,Y,q5]
 .rw[if_neg z] at q5;exact (show _=_ from if_neg z).mpr #[_,Y,q5]
theorem Cm[∀ i j,Decidable (p i j)](ho:bz X (aev op) (ir λi j=>.bl (decide (p i j))))(ha:PE X a ta)(hb:PE X b tb)(hm:afr op b=false):PT X (.Compare a [op] [b] pos) (t9 p ta tb) :=
 pq (gk (Ck ho) (eZ ha) (eZ hb) hm) λL H Q q=>#[_,λx H1 q1=>#[_,λy H2 q2=>La q2,q1],q]
theorem ua(ha:PE X a ta)(hb:PE X b tb):PT X (.Compare a [.Lt] [b] pos) (t9 (λi j=>i<j) ta tb):=Cm wI ha hb (dW _)
theorem Lb(ha:PE X a ta)(hb:PE X b tb):PT X (.Compare a [.LtE] [b] pos) (t9 (λi j=>i<=j) ta tb):=Cm fM ha hb (dW _)
theorem nz(ha:PE X a ta)(hb:PE X b tb):PT X (.Compare a [.Gt] [b] pos) (t9 (λi j=>j<i) ta tb):=Cm wJ ha hb (dW _)
def eqT(x y:V)(Q:Bool->Prop):Prop:=match x with
 | .int i=>(match y with|.int j=>if i=j then Q true else Q false|.non=>Q false|.str _=>Q false|_=>False)
 | .str i=>(match y with|.str j=>if i=j then Q true else Q false|.non=>Q false|.int _=>Q false|_=>False)
 | .bl i=>(match y with|.bl j=>if i=j then Q true else Q false|.non=>Q false|_=>False)
 | .non=>(match y with|.non=>Q true|.int _=>Q false|.bl _=>Q false|.str _=>Q false|_=>False)
 | _=>False
def neT(x y:V)(Q:Bool->Prop):Prop:=match x with
 | .int i=>(match y with|.int j=>if ¬ i=j then Q true else Q false|.non=>Q true|.str _=>Q true|_=>False)
 | .str i=>(match y with|.str j=>if ¬ i=j then Q true else Q false|.non=>Q true|.int _=>Q true|_=>False)
 | .bl i=>(match y with|.bl j=>if ¬ i=j then Q true else Q false|.non=>Q true|_=>False)
 | .non=>(match y with|.non=>Q false|.int _=>Q true|.bl _=>Q true|.str _=>Q true|_=>False)
 | _=>False
section
theorem Wu:eqT (.int i) (.int j) Q=if i=j then Q true else Q false:=rfl
theorem Wv:eqT (.str s) (.str t) Q=if s=t then Q true else Q false:=rfl
theorem Ww:eqT (.bl b') (.bl b1) Q=if b'=b1 then Q true else Q false:=rfl
theorem Wx:eqT .non .non Q=Q true:=rfl
theorem Wy:eqT .non (.int j) Q=Q false:=rfl
theorem Wz:eqT (.int i) .non Q=Q false:=rfl
theorem WA:eqT (.int i) (.str s) Q=Q false:=rfl
theorem WB:eqT .non (.str s) Q=Q false:=rfl
theorem WC:neT (.int i) (.int j) Q=if ¬ i=j then Q true else Q false:=rfl
theorem Lc:neT (.str s) (.str t) Q=if ¬ s=t then Q true else Q false:=rfl
theorem WD:neT .non .non Q=Q false:=rfl
theorem WE:neT .non (.int j) Q=Q true:=rfl
theorem WG:neT (.int i) .non Q=Q true:=rfl
theorem Ld{c:Prop}[Decidable c]{Q:Bool->Prop}(q:if c then Q true else Q false):Q (decide c):=by
 by_cases z:c
 .rw[if_pos z] at q;rw[decide_eq_true z];exact q
 .rw[if_neg z] at q;rw[decide_eq_false z];exact q
theorem eqT.ex(h:eqT x y Q):k6 x y=true/\Q (decide (x=y)):=by
 cases x<;>cases y<;>first
  | exact h.elim
  | exact#[Y,h]
  | (refine#[Y,?_];have:=Ld h;simpa using this)
theorem neT.ex(h:neT x y Q):k6 x y=true/\Q (!decide (x=y)):=by
 cases x<;>cases y<;>first
  | exact h.elim
  | exact#[Y,h]
  | (refine#[Y,?_];have:=Ld h;simpa using this)
end
def Le(ta tb:TE):TT:=λL H Q=>ta L H λx H1=>tb L H1 λy H2=>eqT x y λk=>Q k H2
def Lf(ta tb:TE):TT:=λL H Q=>ta L H λx H1=>tb L H1 λy H2=>neT x y λk=>Q k H2
theorem bW(ha:PE X a ta)(hb:PE X b tb):PT X (.Compare a [.Eq] [b] pos) (Le ta tb) :=
 pq (gk mI (eZ ha) (eZ hb) (dW _)) λL H Q q=>#[_,λx H1 q1=>#[_,λy H2 q2=>#[(eqT.ex q2).1,_,Y,(eqT.ex q2).2],q1],q]
theorem gD(ha:PE X a ta)(hb:PE X b tb):PT X (.Compare a [.NotEq] [b] pos) (Lf ta tb) :=
 pq (gk GU (eZ ha) (eZ hb) (dW _)) λL H Q q=>#[_,λx H1 q1=>#[_,λy H2 q2=>#[(neT.ex q2).1,_,Y,(neT.ex q2).2],q1],q]
def Lg(ta:TE):TT:=λL H Q=>ta L H λx H1=>ny x λk=>Q k H1
def Lh(ta:TE):TT:=λL H Q=>ta L H λx H1=>kF x λk=>Q k H1
theorem c8(ha:PE X a ta):PT X (.Compare a [.Is] [.Constant .none j pos'] pos) (Lg ta):=pq (wA (zJ (eZ ha))) λL H Q q=>#[_,λx H1 q1=>#[_,Y,q1.ex],q]
theorem iJ(ha:PE X a ta):PT X (.Compare a [.IsNot] [.Constant .none j pos'] pos) (Lh ta):=pq (wA (su (eZ ha))) λL H Q q=>#[_,λx H1 q1=>#[_,Y,kF.ex q1],q]
def Li(p q:Int->Int->Prop)[∀ i j,Decidable (p i j)][∀ i j,Decidable (q i j)](ta tb tc:TE):TT:=λL H Q=>ta L H λx H1=>tb L H1 λy H2=>cy x λi=>cy y λj=>if p i j then (tc L H2 λz H3=>cy z λk=>if q j k then Q true H3 else Q false H3) else Q false H2
theorem ue[∀ i j,Decidable (p i j)][∀ i j,Decidable (q i j)](ho:bz X (aev op) (ir λi j=>.bl (decide (p i j))))(eK:bz X (aev k8) (ir λi j=>.bl (decide (q i j))))(ha:PE X a ta)(hb:PE X b tb)(hc:PE X c tc)(hm:al1 [op,k8] [b,c]=false:=by with_unfolding_all rfl):PT X (.Compare a [op,k8] [b,c] pos) (Li p q ta tb tc) :=
 pq (Pg (Ck ho) (Ck eK) (eZ ha) (eZ hb) (eZ hc) hm) λL H Q q=>#[_,λx H1 q1=>#[_,λy H2 q2=>by
  obtain⟨i,rfl,q3⟩:=cy.ex q2;obtain⟨j,rfl,q5⟩:=cy.ex q3;clear q2 q3;by_cases z:p i j
  .rw[if_pos z] at q5;exact (show _=_ from if_pos z).mpr #[_,Y,_,λw' H4 q4=>by
    obtain⟨k,rfl,y⟩:=cy.ex q4;exact La (x:=.int j) q4,q5]
  .rw[if_neg z] at q5;exact (show _=_ from if_neg z).mpr #[_,Y,#[_,Y,q5]],q1],q]
variable{rest:List agY}
def Lj(ta tb:TE):TE:=λL H Q=>ta L H λx H1=>pj x λc=>if c=true then tb L H1 Q else Q (.bl false) H1
def Ll(ta tb:TE):TE:=λL H Q=>ta L H λx H1=>pj x λc=>if c=true then Q (.bl true) H1 else tb L H1 Q
def Lm(ta:TE):TE:=λL H Q=>ta L H λx H1=>pj x λc=>Q (.bl (!c)) H1
theorem iK(ha:PE X a ta)(hb:PE X (.BoolOp .And (b::rest) pos) tb):PE X (.BoolOp .And (a::b::rest) pos) (Lj ta tb):=t8 (OV (eZ ha) hb) λL H Q q=>#[_,λx H1 q1=>q1.ex,q]
theorem ya(ha:PE X a ta)(hb:PE X (.BoolOp .Or (b::rest) pos) tb):PE X (.BoolOp .Or (a::b::rest) pos) (Ll ta tb):=t8 (OW (eZ ha) hb) λL H Q q=>#[_,λx H1 q1=>q1.ex,q]
theorem yb(ha:PE X a ta):PE X (.UnaryOp .Not a pos) (Lm ta):=t8 (OX (eZ ha)) λL H Q q=>#[_,λx H1 q1=>q1.ex,q]
def Ln(K:acM)(ta:TE)(f:Str):TE:=λL H Q=>ta L H λx H1=>t7 x λa=>∃ C dx fs,H1 a=O (.ins C dx fs)/\fq K C/\fO K C f/\∃ v,fs.lookup f=O v/\Q v H1
theorem eE{f:Str}{K:acM}(hK:X.K=K)(he:PE X e ta)(hb:agy e f X.env (eval e X.env)=eval e X.env):PE X (.Attribute e f pos) (Ln K ta f):=by
 subst hK;exact t8 (Pz (eZ he) hb) λL H Q q=>#[_,λx H1 q1=>by
  obtain⟨a,rfl,C,dx,fs,h1,h2,h3,v,h4,q2⟩:=q1.ex;exact#[a,C,dx,fs,v,Y,h1,h2,h3,h4,q2],q]
def Lo(K:acM)(ta tv:TE)(f:Str):TS:=λD L H=>tv L H λy H1=>ta L H1 λx H2=>t7 x λa=>∃ C dx fs,H2 a=O (.ins C dx fs)/\fq K C/\fO K C f/\fs.length<1000 /\
 D.nx L (upd H2 a (.ins C dx (fo f y fs)))
theorem lW(ha:PE X o ta)(hv:PE X value tv)(hs:ahi value (O (.Attribute o f pos')) pos.line X.env=pure false):PS X (.Assign [.Attribute o f pos'] value pos) (Lo X.K ta tv f):=λpins s L H D I h =>
 PB (eZ ha) (eZ hv) hs pins s L H D I #[_,λy H1 q1=>#[_,λx H2 q2=>by
  obtain⟨a,rfl,C,dx,fs,h⟩:=q2.ex;exact#[a,C,dx,fs,Y,h],q1],h]
end
section
variable{X:Cx}{K:acM}{a b e:agY}{es:List agY}{ta tb:TE}{t:TA}{pos p:Pos}
theorem ay(ha:PE X a ta)(hb:PE X b tb)(hs:Ah b:=by exact λy y=>rfl):PE X (.Subscript a b pos) (ou (oz X.K) ta tb):=cA cB ha hb hs
theorem eF(ha:PE X a ta)(hb:PE X b tb)(h:X.K=K:=by rfl)(hs:Ah b:=by exact λy y=>rfl):PE X (.Subscript a b pos) (ou (oz K) ta tb):=cA (Rt h) ha hb hs
end
structure Fn(K:acM)(mg:Str->Option acU)(x:Str)(st:aeO)(ps:List Str) where
 a:ac4
 fd:agl
 F:oB K x x st a fd
 m:mg x=O (.ref a)
 b:Binds K fd ps []
structure Fm(K:acM)(x q:Str)(st:aeO)(ps:List Str) where
 a:ac4
 fd:agl
 F:oB K x q st a fd
 b:Binds K fd ps []
section
theorem WH{CX:iu}{k n:Nat}{ps:List Str}{sp:Sp}{x:Str}{st:aeO}(N:Fn X.K X.mg x st ps)(F:dH X.prog X.w X.K X.mg X.base CX k N.a N.fd ps sp)(hr:bF n X.A)(hx:Passes CX X E0)(ha:PA X (e::es) t)
 (hk:k<=n:=by decide) (hg:Gl X x:=by rfl) (gn:(x == ("__debug__" : Str))=false:=by decide) (he:adp (e::es) X.env=(false,eval e X.env)::adp es X.env:=by rfl) (dX:(afn pos (adp es X.env)).any (·.1)=false:=by rfl) :
 PE X (.Call (.Name x p) (e::es) [] pos) (wN sp [] E0 t):=dI F (hr.mono hk) hg N.m N.F.kp N.b .nil hx ha gn he dX
end
theorem WI{α:Type}{n:Nat}{p:List α->Prop}(h:∀ u vs,vs.length=n->p (u::vs)):∀ us:List α,us.length=n+1->p us
 | u::vs,e=>h u vs (Nat.succ.inj e)
theorem WJ{α:Type}{p:List α->Prop}(h:p []):∀ us:List α,us.length=0->p us
 | [],_=>h
structure Sc(N ps:List Str)(st:aeO):Prop extends sI N ps (dM st) where
 b:∀ (x q:Str) (kV doc pm:acU) (an:Option ac4) (bh ct:acU) (us:List acU),us.length=ps.length->bindArgs (afU x q (qC st) (iQ st) (dM st) .none kV doc pm an bh ct) #[us,[]]=pure (ps.zip us)
section
variable{P:adP}{w:aes}{K:acM}{mg:Str->Option acU}{base h:ae7}{x q:Str}{st:aeO}{N ps:List Str}{k:Nat}{sp:Sp}{C:ac4}
inductive Fb(K:acM)(x q:Str)(st:aeO)(p:ac4->Prop):Prop
 | mk {f:ac4} {od an:Option ac4} {sl:Array (Option acU)} {oc kV dc pm cd ct:acU} (_:p f) (_:K.lookup f=O #[oc,od,.func (afU x q (qC st) (iQ st) (dM st) .none kV dc pm an cd ct),sl]) (_:ahP K cd q=true) (_:afy K (.ref f)=true)
def aS(K:acM)(x:Str)(f:ac4):Prop:=ade K ac3 x=O (O (.ref f))
def hV(K:acM)(C:ac4)(x:Str)(f:ac4):Prop:=adT K (.ref C) x=O (O (.ref f))/\aiU K (.ref f)=true
theorem Fb.fn(b:Fb K x x st (aS K x))(X:K.In h)(G:h.Ns ac3 mg)(S:Sc N ps st):Nonempty (Fn K mg x st ps) :=
 let ⟨a,l,c,k⟩:=b;#[#[_,_,qD l c k,adv X G a,(qD l c k).binds (S.b x x)]]
theorem Fb.fm(b:Fb K x q st (hV K C x))(S:Sc N ps st):∃ F:Fm K x q st ps,hV K C x F.a :=
 let ⟨a,l,c,k⟩:=b;#[#[_,_,qD l c k,(qD l c k).binds (S.b x q)],a]
theorem Fn.bt{y:Str}(F:Fn K mg x st [y])(S:Sc N [y] st)(s:ac8)(v:acU):akg s F.fd #[[v],[]] [(y,v)]:=by obtain⟨oc,od,kV,doc,pm,an,bh,ct,jZ,e,lk,gd⟩:=F.F.ex;rw[e];exact .of_eq (S.b _ _ _ _ _ _ _ _ [v] Y)
abbrev Ok(P:adP)(w:aes){K:acM}{mg:Str->Option acU}(base:ae7)(k:Nat){x:Str}{st:aeO}{ps:List Str}(F:Fn K mg x st ps)(sp:Sp):Prop:=dH P w K mg base (dY P w) k F.a F.fd ps sp
abbrev Om(P:adP)(w:aes){K:acM}(mg:Str->Option acU)(base:ae7)(k:Nat){x q:Str}{st:aeO}{ps:List Str}(F:Fm K x q st ps)(sp:Sp):Prop:=dH P w K mg base (dY P w) k F.a F.fd ps sp
theorem ba{F:Fn K mg x st ps}(S:Sc N ps st)
 (fQ:∀ (bh:acU) (A:ae2) (outer:List Env) (s:ac8) (H:Hp) (vs:List V) (Q:VK) (E:XK),bF k (A.deeper (ae4 x (dM st) s.heap.objs.size F.a bh))->sp vs H Q E ->
   ∃ t,aV (ft (dY P w) P w K mg base N x (dM st) F.a bh A outer s H E).qw (iQ st) t/\t { nx:=λy H'=>Q .non H',rt:=Q } (start N vs) H)
 (len:∀ vs H Q E,sp vs H Q E->vs.length=ps.length:=by intro y y y y h;cases h;subst_vars;rfl):Ok P w base (k+1) F sp:=okN F.F S.1 len fQ
theorem kG{F:Fn K mg x st ps}(S:Sc N ps st)
 (fQ:∀ (bh:acU) (A:ae2) (outer:List Env) (s:ac8) (H:Hp) (vs:List V) (Q:VK) (E:XK),bF k (A.deeper (ae4 x (dM st) s.heap.objs.size F.a bh))->sp vs H Q E ->
   ∃ t,aV (ft (dY P w) P w K mg base N x (dM st) F.a bh A outer s H E) (iQ st) t/\t { nx:=λy H'=>Q .non H',rt:=Q } (start N vs) H)
 (len:∀ vs H Q E,sp vs H Q E->vs.length=ps.length:=by intro y y y y h;cases h;subst_vars;rfl):Ok P w base (k+1) F sp:=HM F.F S.1 len fQ
theorem yc{F:Fm K x q st ps}(S:Sc N ps st)
 (fQ:∀ (bh:acU) (A:ae2) (outer:List Env) (s:ac8) (H:Hp) (vs:List V) (Q:VK) (E:XK),bF k (A.deeper (ae4 q (dM st) s.heap.objs.size F.a bh))->sp vs H Q E ->
   ∃ t,aV (ft (dY P w) P w K mg base N q (dM st) F.a bh A outer s H E).qw (iQ st) t/\t { nx:=λy H'=>Q .non H',rt:=Q } (start N vs) H)
 (len:∀ vs H Q E,sp vs H Q E->vs.length=ps.length:=by intro y y y y h;cases h;subst_vars;rfl):Om P w mg base (k+1) F sp:=okN F.F S.1 len fQ
theorem pB{F:Fm K x q st ps}(S:Sc N ps st)
 (fQ:∀ (bh:acU) (A:ae2) (outer:List Env) (s:ac8) (H:Hp) (vs:List V) (Q:VK) (E:XK),bF k (A.deeper (ae4 q (dM st) s.heap.objs.size F.a bh))->sp vs H Q E ->
   ∃ t,aV (ft (dY P w) P w K mg base N q (dM st) F.a bh A outer s H E) (iQ st) t/\t { nx:=λy H'=>Q .non H',rt:=Q } (start N vs) H)
 (len:∀ vs H Q E,sp vs H Q E->vs.length=ps.length:=by intro y y y y h;cases h;subst_vars;rfl):Om P w mg base (k+1) F sp:=HM F.F S.1 len fQ
end
section
theorem aP(i:Nat)(hN:X.N.Nodup)(he:PE X e te)(hi:X.N[i]?=O x:=by rfl)(hx:Loc X.env.scope x:=by first|exact ahc rfl|exact akz Y)(hs:ahi e (O (.Name x pos')) pos.line X.env=pure false:=by rfl)(hf:X.fn x=true∨X.env.scope.names.lookup x=O .local:=by first|exact .inl rfl|exact .inr rfl) :
 PS X (.Assign [.Name x pos'] e pos) (wD te (bZ i)):=kY hN hi hx he hs hf
theorem cp(i:Nat)(hN:X.N.Nodup)(hi:X.N[i]?=O x:=by rfl)(hx:Loc X.env.scope x:=by first|exact ahc rfl|exact akz Y)(hf:X.fn x=true∨X.env.scope.names.lookup x=O .local:=by first|exact .inl rfl|exact .inr rfl):PG X (.Name x pos) (bZ i):=gh hN hi hx hf
theorem aG{k n:Nat}{ps:List Str}{sp:Sp}{st:aeO}{CX:iu}{N:Fn X.K X.mg x st ps}(F:dH X.prog X.w X.K X.mg X.base CX k N.a N.fd ps sp)(hr:bF n X.A)(ha:PA X (e::es) t)(hx:Passes CX X E0:=by exact c7)
 (hk:k<=n:=by decide) (hg:Gl X x:=by rfl) (gn:(x == ("__debug__" : Str))=false:=by decide) (he:adp (e::es) X.env=(false,eval e X.env)::adp es X.env:=by rfl) (dX:(afn pos (adp es X.env)).any (·.1)=false:=by rfl) :
 PE X (.Call (.Name x p) (e::es) [] pos) (wN sp [] E0 t):=WH N F hr hx ha hk hg gn he dX
end
theorem Lp(P:Int->Bool):∀ n:Nat,((adu n).map λ(i:Nat)=>(i:Int)).filter P∈cW n
 | 0=>by simp[cW]
 | n+1=>by
  have ih:=Lp P n;rw[ajd,adx,List.filter_append,cW];by_cases h:P n=true
  .refine ac6 _ (ac2.mpr #[_,ih,?_]);simp[h]
  .refine adH _ ?_;simpa [h] using ih
theorem Lq:∀ (j:Nat) {s:List Int},s∈cW n->s.length+j<=n->∃ s'∈cW n,s'.length=s.length+j/\∀ x∈s,x∈s'
 | 0,s,h,_=>#[s,h,Y,λy z=>z]
 | j+1,s,h,hl=>by obtain⟨s1,h1,h2,h3⟩:=Lq j h (by lia);obtain⟨s2,h4,h5,h6⟩:=Kc h1 (by lia);exact#[s2,h4,by lia,λx hx=>h6 x (h3 x hx)]
end Gz
namespace Gz
open PySem L2
theorem yd:∀ {xs ys:List Int},xs.Nodup->(∀ x∈xs,x∈ys)->xs.length<=ys.length
 | [],_,_,_=>adt _
 | x::xs,ys,h,k=>by obtain⟨h1,h2⟩:=aeI.mp h;have hx:=k x (.head _);have ih:=yd (ys:=ys.erase x) h2 λy hy=>(aju (λz=>h1 (by rw[<- z];exact hy))).mpr (k y (.tail _ hy));rw[aid hx] at ih;have:=aiM hx;rw[adw];omega
end Gz
namespace Gz
open PySem PySem.Spec PyProof.Rows L2
theorem Lr(hL:(L9q.length:Int)<=mo)(hc:fB ps c)(hg:∀ k s,gs[k]?=O s->bC s (c k))(lX:gs.length<=ps.length+1)(hw:meets (cH tb L9q) c)(ht:∀ r∈tb,r.1.2.toNat<=ps.length) :
 ∀ (t:Pp) (as:List Int),as.Nodup->(∀ x∈as,x∈L9q)->¬ Val ps gs tb mo t as
 | .nil,_,_,_,h=>h
 | .full,as,hn,hs,h=>by have:=yd hn hs;have h:mo<as.length:=h;lia
 | .cls x a b,as,hn,hs,h=>by
  obtain⟨⟨m,n,hm,mG,bj⟩,ha,hb⟩:=h;have met:∀ (s:En × Nat) (k:Mk),kB gs tb as s k->(∀ e,s.1=O e->e∉L9q)->bC k.2 (c k.1)/\k.1<=ps.length:=λs k hk hl=>by
   obtain⟨h1,h2⟩:=hk;obtain⟨o,j⟩:=s;cases o with
   | none =>
    have h2:gs[j]?=O k.2:=h2;have:=(acX.mp h2).1;have h1:k.1=j:=h1;rw[h1];exact#[hg _ _ h2,by lia]
   | some e =>
    have h2:e∉as/\((e,(j:Int)),k.2)∈tb:=h2;have h1:k.1=j:=h1;have lV:(j,k.2)∈cH tb L9q:=tZ.mpr #[_,h2.2,hl e Y,by simp];have:=ht _ h2.2;rw[h1];exact#[hw _ lV,by simpa using this]
  have step:∀ (e:Int) (t:Pp) (s:En × Nat) (k:Mk),kB gs tb as s k->s.1=O e->e∈L9q->Val ps gs tb mo t (as++[e])->sizeOf t<1+sizeOf x+sizeOf a+sizeOf b->False:=λe t s k hk es hl hv aW=>by
   have Cn:e∉as:=by obtain⟨v,h2⟩:=hk;rw[es] at h2;exact h2.1
   refine Lr hL hc hg lX hw ht t (as++[e]) (aie.mpr #[hn,by simp,λy hy z hz=>?_]) (λy hy=>?_) hv
   .obtain rfl:z=e:=by simpa using hz
    exact λq=>Cn (q ▸ hy)
   .rcases adf.mp hy with z|z
    .exact hs y z
    .obtain rfl:y=e:=by simpa using z
     exact hl
  by_cases h1:∃ e,x.1.1=O e/\e∈L9q
  .obtain⟨e,e1,e2⟩:=h1;rw[e1] at ha;exact step e a x.1 m hm e1 e2 ha (by lia)
  by_cases h2:∃ e,x.2.1=O e/\e∈L9q
  .obtain⟨e,e1,e2⟩:=h2;have hb:if x.1.1=O e then b = .nil else Val ps gs tb mo b (as++[e]):=by rw[e1] at hb;exact hb
   rw[if_neg (λz=>h1 #[e,z,e2])] at hb;exact step e b x.2 n mG e1 e2 hb (by lia)
  have m1:=met x.1 m hm λe he z=>h1 #[e,he,z];have m2:=met x.2 n mG λe he z=>h2 #[e,he,z];refine T8 (ms:=[m,n]) hc (λq hq=>?_) (λq hq=>?_) (.head _) (.tail _ (.head _)) bj
  .rcases acZ.mp hq with rfl|hq
   .exact m1.1
   .obtain rfl:q=n:=by simpa using hq
    exact m2.1
  .rcases acZ.mp hq with rfl|hq
   .exact m1.2
   .obtain rfl:q=n:=by simpa using hq
    exact m2.2
termination_by t=>sizeOf t
decreasing_by simp_wf;lia
theorem WK(he:1<=e)(uf:m<=e)(ar:bV e t tb)(hc:fB (acY (t-1).toNat (-d,u)) c)(hl:(es.length:Int)<=m)(lY:meets (cH tb es) c)(k:Nat):hJ e t u d m tb k (c k):=by
 have h0:=Lp (λi=>es.contains i) e.toNat;have hn:(((adu e.toNat).map λ(i:Nat)=>(i:Int)).filter λi=>es.contains i).length<=es.length:=by
  refine yd ?_ λx hx=>?_
  .refine (List.Pairwise.map _ (λa b gV=>?_) List.nodup_range).filter _;intro z;exact gV (by lia)
  .exact aje.mp (adG.mp hx).2
 obtain⟨s,hs,sl,sup⟩:=Lq (m.toNat-(((adu e.toNat).map λ(i:Nat)=>(i:Int)).filter λi=>es.contains i).length) h0 (by lia);refine#[s,hs,by lia,c,hc,λq hq=>?_,Y];obtain⟨r,hr,wL,rfl⟩:=tZ.mp hq;refine lY _ (tZ.mpr #[r,hr,λz=>wL (sup _ (adG.mpr #[?_,aje.mpr z])),Y]);have ho:=ar.2 r hr;unfold kq at ho;exact ac2.mpr #[r.1.1.toNat,aeg.mpr (by lia),by lia]
theorem Ls{e t u d m:Int}{tb:Tb}{k:Nat}(hu:0<=u)(hd:0<=d)(ar:bV e t tb)(ht:1<=t)(hk:(k:Int)<t)(x:Int):((gC e t u d m tb k).any λs=>hs s x)=true↔hJ e t u d m tb k x:=by obtain⟨h1,h2⟩:=Kd (m:=m) hu hd ar ht hk;unfold gC;rw[(Je h1).held];exact h2 x
def WL(K:acM)(t:TE):TE:=λL H Q=>t L H λv H1=>∃ (a:ac4) (ns:List Int),v=V.ref a/\ah K H1 a (ns.map V.int)/\ns.length<=1000/\∀ zs:List Int,zs.Nodup->(∀ x,x∈zs↔x∈ns)->Q (.int zs.length) H1
theorem _root_.L2.bF.m(r:bF k A)(h:j<=k:=by decide):bF j A:=r.mono h
theorem bX{K:acM}{H:Hp}{p:ac4}{xs:List V}{i:Int}{v:V}{Q:VK}(h:H p=O (.tup xs))(q:Q v H)(e:dq xs i=O v:=by rfl):oz K (.ref p) (.int i) H Q:=aB (au.of h) e q
theorem cO(fr:List Nat)(ys:List Str)(a:alD scope X.env=pure cl:=by rfl)(b:(scope.names.all λp=>p.2 != .cell)=true:=by decide +kernel)(c:scope.kind = .function:=by rfl)(d:(scope.names.all λp=>p.2 != .local || scope.names.lookup p.1 == O .local)=true:=by decide +kernel)(e:scope.names.lookup x=O .local:=by rfl)(f:((relabel scope X.env).names.all λp=>(p.2 != .cell && p.2 != .free) || (cl.lookup p.1).isSome)=true:=by rfl)(g:kf X cl:=by repeat' first|exact kf.nil|refine kf.cons Y ?_)(h:iS X scope cl fr ys:=by repeat' first|exact iS.nil|refine iS.cons Y Y Y Y ?_)(i:(x::ys).Nodup:=by decide)(j:(ys.all λy=>(relabel scope X.env).names.lookup y == O .cell)=true:=by rfl):oF X x scope cl fr ys:=#[a,b,c,d,e,f,g,h,i,j]
noncomputable abbrev aM{N ps:List Str}{st:aeO}(_:Sc N ps st):List Str:=ps
noncomputable abbrev Fq(K:acM)(mg:Str->Option acU)(x:Str){N ps:List Str}{st:aeO}(_:Sc N ps st):=Fn K mg x st ps
abbrev Lu(K:acM)(x:Str){N ps:List Str}{st:aeO}(_:Sc N ps st):Prop:=Fb K x x st (aS K x)
abbrev Lv(K:acM)(C:ac4)(x q:Str){N ps:List Str}{st:aeO}(_:Sc N ps st):Prop:=Fb K x q st (hV K C x)
abbrev Lw(K:acM)(x q:Str){N ps:List Str}{st:aeO}(_:Sc N ps st)(p:ac4->Prop):Prop:=Fb K x q st p
noncomputable def Lu.c{K:acM}{mg:Str->Option acU}{h:ae7}{x:Str}{st:aeO}{N ps:List Str}{S:Sc N ps st}(b:Lu K x S)(X:K.In h)(G:h.Ns ac3 mg):Fq K mg x S:=Classical.choice (Fb.fn b X G S)
section
end
noncomputable abbrev Fy(K:acM)(_:ac4)(x q:Str){N ps:List Str}{st:aeO}(_:Sc N ps st):=Fm K x q st ps
noncomputable abbrev Fv(K:acM)(x q:Str){N ps:List Str}{st:aeO}(_:Sc N ps st)(_:ac4->Prop):=Fm K x q st ps
section
variable{K:acM}{C:ac4}{x q y:Str}{N ps:List Str}{st:aeO}{S:Sc N ps st}{p:ac4->Prop}
theorem Fb.fx(b:Fb K x q st p)(S:Sc N ps st):∃ F:Fm K x q st ps,p F.a :=
 let ⟨a,l,c,k⟩:=b;#[#[_,_,qD l c k,(qD l c k).binds (S.b x q)],a]
noncomputable def Lw.c(b:Lw K x q S p):Fv K x q S p:=Classical.choose (Fb.fx b S)
noncomputable def Lv.c(b:Lv K C x q S):Fy K C x q S:=Classical.choose (Fb.fx b S)
end
end Gz
namespace Gz
open PySem PySem.Spec PyProof.Rows L2 Builtin Builtin.Str StrLaws
noncomputable def fY(c:Nat):Nat->List Nat->List Nat
 | _,[]=>[]
 | i,x::xs=>if x=c then i::fY c (i+1) xs else fY c (i+1) xs
noncomputable def gE(c:Nat):List Nat->List (List Nat)
 | []=>[[]]
 | x::xs=>if x=c then []::gE c xs else match gE c xs with
  | []=>[[x]]
  | w::ws=>(x::w)::ws
theorem subAt_one(s:acW)(c i:Nat)(h:i<s.cps.toList.length):subAt s #[(List.toArray [c])] i=decide (s.cps.toList[i]=c):=by
 have hi:i<s.cps.size:=by simpa using h
 have e:s.cps.extract i (i+1) = (List.toArray [s.cps[i]]):=by
  apply Array.ext
  .simp;omega
  .intro j h1 h2;have:j=0:=by simp at h2;omega
   subst this;simp
 show (s.cps.extract i (i+1) == (List.toArray [c]))=_;rw[e];have ee:s.cps.toList[i]=s.cps[i]:=by simp
 rw[ee];by_cases q:s.cps[i]=c
 .rw[q];simp
 .rw[decide_eq_false q];have:¬ ((List.toArray [s.cps[i]]) == (List.toArray [c]))=true:=by intro z;have:=eq_of_beq z;simp at this;exact q this
  exact afc.mpr this
theorem WM(s:acW)(c:Nat)(l:List Nat)(hl:s.cps.toList=l):∀ (n i:Nat) (acc:Array Nat) (free:Nat),i+n=l.length+1->free<=i->acc.size<=i ->
 (forIn (ajQ i n) (acc,free) (occBody s #[(List.toArray [c])] l.length (l.length+1))).run.fst.toList=acc.toList++fY c i (l.drop i):=by
 intro n
 induction n with
 | zero =>
  intro i acc free hi hf ha;rw[aeQ (by omega)];simp[fY]
 | succ n ih =>
  intro i acc free hi hf ha;rw[List.range'_succ,ahs];by_cases h:i<l.length
  .have hc:l.drop i=l[i]::l.drop (i+1):=adN h;have hs:subAt s #[(List.toArray [c])] i=decide (l[i]=c):=by subst hl;exact subAt_one s c i h
   rw[hc];by_cases q:l[i]=c
   .have e:occBody s #[(List.toArray [c])] l.length (l.length+1) i (acc,free)=pure (afC (acc.push i,i+1)):=by
     unfold occBody;rw[if_pos]
     .rfl
     .refine#[#[#[?_,hf],?_],?_]
      .show acc.size<l.length+1;omega
      .show i+1<=l.length;omega
      .rw[hs];exact decide_eq_true q
    rw[e];show (Id.run (forIn (m:=Id) (ajQ (i+1) n) (acc.push i,i+1) (occBody s #[(List.toArray [c])] l.length (l.length+1)))).fst.toList=_;rw[ih (i+1) (acc.push i) (i+1) (by omega) (acS _) (by simp;omega)];simp[fY,q]
   .have e:occBody s #[(List.toArray [c])] l.length (l.length+1) i (acc,free)=pure (afC (acc,free)):=by unfold occBody;rw[if_neg];rintro ⟨y,z⟩;rw[hs] at z;exact q (of_decide_eq_true z)
    rw[e];show (Id.run (forIn (m:=Id) (ajQ (i+1) n) (acc,free) (occBody s #[(List.toArray [c])] l.length (l.length+1)))).fst.toList=_;rw[ih (i+1) acc free (by omega) (by omega) (by omega)];simp[fY,q]
  .have e:occBody s #[(List.toArray [c])] l.length (l.length+1) i (acc,free)=pure (afC (acc,free)):=by unfold occBody;rw[if_neg];rintro ⟨⟨y,z⟩,y⟩;have z':i+1<=l.length:=z;omega
   rw[e];show (Id.run (forIn (m:=Id) (ajQ (i+1) n) (acc,free) (occBody s #[(List.toArray [c])] l.length (l.length+1)))).fst.toList=_;rw[ih (i+1) acc free (by omega) (by omega) (by omega),aeQ (by omega),aeQ (by omega)];rfl
theorem Lx(s:acW)(c:Nat):occurrences s #[(List.toArray [c])] 0 s.length (s.length+1)=fY c 0 s.cps.toList:=by
 rw[occ_eq];have hl:s.length=s.cps.toList.length:=by show s.cps.size=_;simp
 rw[hl];rw[WM s c s.cps.toList Y _ 0 (List.toArray []) 0 (by omega) (acS _) (acS _)];simp
noncomputable def iL(l:List Nat)(i j:Nat):List Nat:=(l.take j).drop i
theorem WN(c:Nat)(l:List Nat):∀ (r:List Nat) (a i:Nat),l.drop i=r->a<=i->i<=l.length ->
 ∃ w ws,gE c r=w::ws/\((a::(fY c i r).map (· + 1)).zip (fY c i r++[l.length])).map (λp=>iL l p.1 p.2)=(iL l a i++w)::ws:=by
 intro r
 induction r with
 | nil =>
  intro a i hr ha hi;have hL:l.length<=i:=ajv.mp hr;have:i=l.length:=by omega
  exact#[[],[],Y,by simp[fY,this]]
 | cons x xs ih =>
  intro a i hr ha hi;have h:i<l.length:=by
   rcases Nat.lt_or_ge i l.length with z|z
   .exact z
   .rw[aeQ z] at hr;cases hr
  have hc:=adN h;rw[hr] at hc;obtain⟨ex,exs⟩:=List.cons.inj hc;by_cases q:x=c
  .obtain⟨w,ws,e1,e2⟩:=ih (i+1) (i+1) exs.symm (acS _) (by omega);refine#[[],w::ws,?_,?_]
   .show (if x=c then []::gE c xs else _)=_;rw[if_pos q,e1]
   .have eC:fY c i (x::xs)=i::fY c (i+1) xs:=by show (if x=c then _ else _)=_;rw[if_pos q]
    rw[eC];show iL l a i::((((i+1)::(fY c (i+1) xs).map (· + 1)).zip (fY c (i+1) xs++[l.length])).map (λp=>iL l p.1 p.2))=_;rw[e2];have z:iL l (i+1) (i+1)=[]:=by unfold iL;rw[ajv];simp;omega
    rw[z];simp
  .obtain⟨w,ws,e1,e2⟩:=ih a (i+1) exs.symm (by omega) (by omega);refine#[x::w,ws,?_,?_]
   .show (if x=c then _ else match gE c xs with|[]=>[[x]]|w::ws=>(x::w)::ws)=_;rw[if_neg q,e1]
   .have eC:fY c i (x::xs)=fY c (i+1) xs:=by show (if x=c then _ else _)=_;rw[if_neg q]
    rw[eC,e2];have z:iL l a (i+1)=iL l a i++[x]:=by unfold iL;rw[aeh,acP h,<- ex,List.drop_append_of_le_length (by simp;omega)];rfl
    rw[z];simp
noncomputable def pC(l:List Nat):acW:=#[l.toArray]
theorem WO(s:acW):pC s.cps.toList=s:=by cases s;simp[pC]
theorem WQ(x:acW)(c:Nat)(hc:c<256):agE x #[(List.toArray [c])]=(gE c x.cps.toList).map pC:=by
 have hp:partsBetween x (occurrences x #[(List.toArray [c])] 0 x.length (x.length+1)) 1=(gE c x.cps.toList).map pC:=by
  rw[Lx];obtain⟨w,ws,e1,e2⟩:=WN c x.cps.toList x.cps.toList 0 0 Y (acS _) (adt _);rw[e1];have z:iL x.cps.toList 0 0=[]:=by simp[iL]
  rw[z,adl] at e2;rw[<- e2,aei];unfold partsBetween;have hl:x.length=x.cps.toList.length:=by show x.cps.size=_;simp
  rw[hl];apply ad9;rintro ⟨i,j⟩ _;show strSub x i j=pC (iL x.cps.toList i j);unfold strSub pC iL
  congr 1
  apply amj;simp[List.drop_take]
 unfold agE;have hk:¬ strKind x<strKind (#[(List.toArray [c])]:acW):=by
  have a:strKind (#[(List.toArray [c])]:acW)=1:=by unfold ajR;simp[hc]
  have b:1<=strKind x:=by unfold ajR;split;exact acS _;split<;>decide
  omega
 have one:∀ (h:occurrences x #[(List.toArray [c])] 0 x.length (x.length+1)=[]),[x]=(gE c x.cps.toList).map pC:=by
  intro h;rw[<- hp,h];unfold partsBetween;have:strSub x 0 x.length=x:=by unfold strSub;cases x;simp[Str.length]
  simp[this]
 split
 .rename_i h;have h':x.length<1:=by
   rcases (afD _ _).mp h with z|z
   .exact of_decide_eq_true z
   .exact absurd (of_decide_eq_true z) hk
  have hn:x.cps.toList=[]:=by have:x.cps.size<1:=h';apply ag9;rw[adK];omega
  refine one ?_;rw[Lx,hn];rfl
 .split
  .rename_i h;exact one (List.isEmpty_iff.mp h)
  .exact hp
noncomputable def fF(c:Nat):List (List Nat)->List Nat
 | []=>[]
 | [w]=>w
 | w::v::ws=>w++c::fF c (v::ws)
theorem Ly(c:Nat):∀ w:List Nat,c∉w->gE c w=[w]
 | [],_=>rfl
 | x::xs,h=>by have h1:¬ x=c:=λz=>h (z ▸ .head _);unfold gE;rw[if_neg h1,Ly c xs λz=>h (.tail _ z)]
theorem Lz(c:Nat)(r:List Nat):∀ w:List Nat,c∉w->gE c (w++c::r)=w::gE c r
 | [],_=>by show (if c=c then _ else _)=_;rw[if_pos Y]
 | x::xs,h=>by have h1:¬ x=c:=λz=>h (z ▸ .head _);show (if x=c then _ else match gE c (xs++c::r) with|[]=>[[x]]|w::ws=>(x::w)::ws)=_;rw[if_neg h1,Lz c r xs λz=>h (.tail _ z)]
theorem LA(c:Nat):∀ ws:List (List Nat),ws≠[]->(∀ w∈ws,c∉w)->gE c (fF c ws)=ws
 | [],h,_=>absurd Y h
 | [w],_,h=>Ly c w (h w (.head _))
 | w::v::ws,_,h=>by show gE c (w++c::fF c (v::ws))=_;rw[Lz c _ w (h w (.head _)),LA c (v::ws) (by simp) λz hz=>h z (.tail _ hz)]
theorem LB(c:Nat):∀ (ws:List acW) (a:Array Nat),(ws.foldl (λacc p=>acc++(#[(List.toArray [c])]:acW).cps++p.cps) a).toList=a.toList++(ws.map λw=>c::w.cps.toList).flatten
 | [],a=>by simp
 | w::ws,a=>by rw[afV,LB c ws];simp
theorem LC(c:Nat):∀ (w:List Nat) (ws:List (List Nat)),fF c (w::ws)=w++(ws.map λv=>c::v).flatten
 | w,[]=>by simp[fF]
 | w,v::ws=>by show w++c::fF c (v::ws)=_;rw[LC c v ws];simp
theorem pE(c:Nat)(ws:List acW):(ad4 #[(List.toArray [c])] ws).cps.toList=fF c (ws.map λw=>w.cps.toList):=by
 cases ws with
 | nil=>rfl
 | cons w ws =>
  show (glued #[(List.toArray [c])] (w::ws)).cps.toList=_;unfold glued;show ((ws.foldl (λacc p=>acc++(#[(List.toArray [c])]:acW).cps++p.cps) w.cps)).toList=_;rw[LB,adg,LC,aei];rfl
theorem ye(c:Nat)(hc:c<256)(ws:List acW)(h0:ws≠[])(h:∀ w∈ws,c∉w.cps.toList):agE (ad4 #[(List.toArray [c])] ws) #[(List.toArray [c])]=ws:=by
 rw[WQ _ c hc,pE,LA c _ (by simpa using h0) (by
  intro w hw;obtain⟨s,hs,rfl⟩:=ac2.mp hw;exact h s hs),aei]
 conv=>rhs;rw[<- ami ws]
 exact ad9 λs y=>WO s
section
theorem LD:∀ (l:List (acW × Tok)),Vals ((l.map (·.1)).map V.str) (strValues l)
 | []=>.nil
 | (x,t)::l=>.cons #[t,Y] (LD l)
theorem Co:oy X "str.split" (λx xs H Q=>∃ z y,x = .str z/\xs=[.str y]/\(y.length == 0)=false/\z.length+2<=adh/\∀ l,H l=J->Q (.ref l) (upd H l (.lst ((agE z y).map V.str)))):=by
 intro pins s L H x xs v us Q I rx rv h;obtain⟨z,y,rfl,rfl,hy,hz,q⟩:=h;obtain⟨u,rfl,ru⟩:=vals1 rv;obtain⟨t,rfl⟩:=rx;obtain⟨k,rfl⟩:=ru;have hn:(partsBetween z (occurrences z y 0 z.length (z.length+1)) y.length).length<=adh:=by have e1:=StrLaws.occ_length_le z y 0 z.length (z.length+1);rw[length_partsBetween];omega
 have fin:∀ (l:List (acW × Tok)) (t':Nat),l.map (·.1)=agE z y->l.length<=adh->EP X pins L Q (.ref s.heap.objs.size) { s with heap:=s.heap.push { cls:=.type "list",data:=.seq (strValues l).toArray },toks:=t' }:=λl t' e hl =>
  #[.ref s.heap.objs.size,_,I.Aj (t':=t') (e ▸ LD l) (by rw[<- e,acN,acN];exact hl),Y,q _ I.fresh]
 cases h1:(decide (z.length<y.length) || decide (strKind z<strKind y))
 .cases hf:(occurrences z y 0 z.length (z.length+1)).isEmpty
  .refine agN aiA (ah3 _ _ _) aif (ahL _ _) (meets_str_split_sep z y t k h1 hy hf (by omega) hn) ?_;show wants _ _ _ { s with toks:=_,heap:=s.heap.push { cls:=.type "list",data:=.seq (strsFrom s.toks (partsBetween z (occurrences z y 0 z.length (z.length+1)) y.length)).toArray } };rw[strsFrom_eq];exact fin (numbered s.toks _) _ ((numbered_texts _ _).trans ((if_neg (ne_true_of_eq_false h1)).trans (if_neg (ne_true_of_eq_false hf))).symm) (by rw[<- acN (f:=(·.1)),numbered_texts];exact hn)
  .exact agN aiA (ah3 _ _ _) aif (ahL _ _) (meets_str_split_not_found z y t k h1 hy hf)
    (fin [(z,t)] s.toks ((if_neg (ne_true_of_eq_false h1)).trans (if_pos hf)).symm (by show 1<=adh;decide))
 .exact agN aiA (ah3 _ _ _) aif (ahL _ _) (meets_str_split_cannot_occur z y t k h1)
   (fin [(z,t)] s.toks (if_pos h1).symm (by show 1<=adh;decide))
theorem yf:oy X "str.join" (λx xs H Q=>∃ z a ss,x = .str z/\xs=[.ref a]/\ah X.K H a (ss.map V.str)/\(ss.map (·.length)).sum+ss.length * z.length<=16777216/\Q (.str (ad4 z ss)) H):=by
 intro pins s L H x xs v us Q I rx rv h;obtain⟨z,a,ss,rfl,rfl,hS,h1,q⟩:=h;obtain⟨u,rfl,ru⟩:=vals1 rv;obtain⟨t,rfl⟩:=rx;cases ru;obtain⟨ai,r,p,y⟩:=I.list hS;exact join_list p.isList (StrsAre.of_carried (B8 r)) h1 λt' k=>#[.str _,H,I.tok _,#[_,Y],q]
theorem LG:oy X "str.startswith" (λx xs H Q=>∃ z y,x = .str z/\xs=[.str y]/\Q (.bl (agX z y)) H):=by intro pins s L H x xs v us Q I rx rv h;obtain⟨z,y,rfl,rfl,q⟩:=h;obtain⟨u,rfl,ru⟩:=vals1 rv;obtain⟨t,rfl⟩:=rx;obtain⟨k,rfl⟩:=ru;exact SC.startswith #[.bl _,H,I,Y,q]
end
end Gz
namespace Gz
open PySem PySem.Spec PyProof.Rows L2 PySem.W PySem.NumText
noncomputable def aL(n:Int):acW:=toString n
noncomputable def dS(m:Nat):List Nat:=(ajf 10 m).map Char.toNat
theorem pF(m:Nat):AllDigits (dS m):=by intro c hc;obtain⟨ch,iN,e⟩:=ac2.mp hc;rw[<- e];exact digit_range (Nat.isDigit_of_mem_toDigits (by decide) (by decide) iN)
theorem LH(m:Nat)(h:¬ m<10):dS m=dS (m / 10)++dS (m % 10):=by have t:ajf 10 (m / 10)++ajf 10 (m % 10)=ajf 10 (10 * (m / 10)+m % 10):=Nat.toDigits_append_toDigits (by decide) (by omega) (alG m (by decide));rw[Nat.div_add_mod] at t;unfold dS;rw[<- t,adx]
theorem yg(m:Nat)(h:m<10):dS m=[m+48]:=by
 unfold dS;rw[Nat.toDigits_of_lt_base h];have:∀ d:Nat,d<10->(Nat.digitChar d).toNat=d+48:=by decide
 rw[adg,this m h,ag0]
theorem Cp(k:Nat):∀ m:Nat,m<10 ^ (k+1)->(dS m).length<=k+1:=by
 induction k with
 | zero=>intro m h;rw[yg m (by omega)];exact acS _
 | succ k ih =>
  intro m h;by_cases lZ:m<10
  .rw[yg m lZ];show 1<=_;omega
  .rw[LH m lZ,ac7,yg (m % 10) (alG m (by decide))];have:=ih (m / 10) (by rw[akD] at h;omega);show _+1<=_;omega
theorem rq(m:Nat):∃ d r,dS m=d::r/\(m≠0->d≠48):=by
 induction m using Nat.strongRecOn with
 | _ m ih =>
  by_cases h:m<10
  .exact#[m+48,[],yg m h,by omega]
  .obtain⟨d,r,e,hd⟩:=ih (m / 10) (by omega);refine#[d,r++dS (m % 10),?_,λy=>hd (by omega)];rw[LH m h,e];rfl
theorem pG(m:Nat):(aL (m:Int)).cps.toList=dS m:=KIN.signs_num m
theorem uh(m:Nat):(aL (-((m+1:Nat):Int))).cps.toList=45::dS (m+1):=by have e:aL (-((m+1:Nat):Int))=aj7 ("-" ++ Nat.repr (m+1)):=rfl;rw[e,signs_ofString];show ("-" ++ Nat.repr (m+1)).toList.map Char.toNat=_;rw[String.toList_append,adx,Nat.toList_repr];rfl
theorem ui(n:Int):(∃ m:Nat,n=m) ∨ ∃ m:Nat,n = -((m+1:Nat):Int):=by
 cases n with
 | ofNat m=>exact .inl #[m,Y]
 | negSucc m=>exact .inr #[m,Y]
theorem str_len(s:acW):s.length=s.cps.toList.length:=by show s.cps.size=_;simp
theorem gF(h:n.natAbs<10 ^ 60):(aL n).length<=61:=by
 rw[str_len];rcases ui n with ⟨m,rfl⟩|⟨m,rfl⟩
 .rw[pG];exact acR (Cp 59 m (by simpa using h)) (by decide)
 .rw[uh];have:=Cp 59 (m+1) (by have:=h;rw[alx,aj8] at this;exact this);show _+1<=61;omega
theorem Cq(h:n.natAbs<10 ^ 60):ajF (aL n)=O n:=by
 have hl:=gF h;rcases ui n with ⟨m,rfl⟩|⟨m,rfl⟩
 .obtain⟨d,r,e,y⟩:=rq m;have:=intText_digits (x:=aL (m:Int)) (by rw[pG];exact pF m) (by rw[pG,e];simp) (by omega);rw[this,pG];unfold dS;rw[KIN.val_back]
 .obtain⟨d,r,e,y⟩:=rq (m+1);have:=intText_neg (x:=aL (-((m+1:Nat):Int))) (uh m) (pF _) (by rw[e];simp) (by omega);rw[this];unfold dS;rw[KIN.val_back]
section
theorem LI:fj X (.type "int") (λxs H Q=>∃ x n,xs=[.str x]/\ajF x=O n/\x.length<=640/\Q (.int n) H):=by intro pins s L H xs us Q I r h;obtain⟨x,n,rfl,hn,hl,q⟩:=h;obtain⟨u,rfl,rx⟩:=vals1 r;obtain⟨t,rfl⟩:=rx;exact KIN.call_text hn hl #[.int n,H,I.tok _,#[_,Y],q]
end
end Gz
namespace Gz
open PySem PySem.Spec PyProof.Rows L2
noncomputable def cX(x:acW):List V:=x.cps.toList.map λc=>V.str #[(List.toArray [c])]
theorem LJ{x:acW}{i c:Nat}(h:x.cps[i]?=O c):(cX x)[i]?=O (.str #[(List.toArray [c])]):=by unfold cX;rw[ac1,aeZ,h];rfl
theorem nA(x:acW):(cX x).length=x.cps.size:=by unfold cX;simp
noncomputable def uj(x:acW):It:=#[λi y=>i<x.cps.size,λi H v H'=>H'=H/\(cX x)[i]?=O v,λi y=>x.cps.size<=i]
def Cr(te:TE):TI:=λL H R=>te L H λv H1=>∃ x,v = .str x/\R (uj x) H1
theorem rA(x:acW):afj x = "str_ascii_iterator" ∨ afj x = "str_iterator" := by
 unfold afj;split
 .exact .inl rfl
 .exact .inr rfl
theorem WR{P:adP}{w:aes}{K:acM}{tg:agY}(x:acW)(t:Tok)(it:ac4):Turn P w K tg (uj x) [it] it (λi h=>h.IsStrIter it (afj x) x t i) where
 mem:=by simp
 obj:=λi h st b hb=>by
  have e:b=it:=by simpa using hb
  subst e;obtain⟨o,e,c,d⟩:=st;exact#[o,e,λv z=>by rw[d] at z;cases z]
 keep:=λi h h' st k=>let ⟨o,e,r⟩:=st;#[o,k it (by simp) o e,r]
 item:=by
  intro X hP hw hK hc i pins s L H E I hf st hg;subst hP hw hK;have hg:i<x.cps.size:=hg;obtain⟨f0,f1,f2,f3,f4,f5⟩:=hf it (by simp);have ex:x.cps[i]?=O x.cps[i]:=by simp[hg]
  have fin:∀ h':ae7,h'.IsStrIter it (afj x) x t (i+1)->Heap.SameBut it s.heap h'->∃ u,O (Value.str #[(List.toArray [x.cps[i]])] s.toks)=O u /\
   adi (model X.prog X.w) X.A (agu tg (.ref it) u) (λy s2=>∃ LK H',Inv X pins L H' s2/\RelV LK u/\(uj x).yld i H LK H'/\s2.heap.IsStrIter it (afj x) x t (i+1)/\∀ b∈[it],H' b=J) E { s with heap:=h',toks:=s.toks+1 }:=by
   intro h' bS sb;have I1:Inv X pins L H { s with heap:=h',toks:=s.toks+1 }:=I.turned (t':=s.toks+1) (λb o hb e=>(sb.2 b hb).trans e) f0 f1 f3 f4 f5;obtain⟨o,e,c,d⟩:=id bS;refine#[_,Y,oo (s:={ s with heap:=h',toks:=s.toks+1 }) e c d ?_ #[.str #[(List.toArray [x.cps[i]])],H,I1,#[_,Y],#[Y,LJ ex],bS,λb hb=>(hf b hb).1]];rcases rA x with z|z<;>rw[z]<;>decide
  rcases rA x with z|z
  .have q:=fin;rw[z] at st q;exact wpAny_pyNext_ascii_item st ex λh' bS sb=>by rw[z];exact q h' bS sb
  .have q:=fin;rw[z] at st q;exact wpAny_pyNext_wide_item st ex λh' bS sb=>by rw[z];exact q h' bS sb
 done:=by
  intro X hP hw hK hc i pins s L H E I hf st hg;subst hP hw hK;have hg:x.cps.size<=i:=hg;obtain⟨f0,f1,f2,f3,f4,f5⟩:=hf it (by simp);have ex:x.cps[i]?=J:=by simp[hg]
  rcases rA x with z|z
  .rw[z] at st;exact wpAny_pyNext_ascii_end (I.ok.hd hc) st ex λh' eb=>#[Y,I.turned (t':=s.toks) (λb o hb e=>eb b o hb e) f0 f1 f3 f4 f5]
  .rw[z] at st;exact wpAny_pyNext_wide_end (I.ok.hd hc) st ex λh' eb=>#[Y,I.turned (t':=s.toks) (λb o hb e=>eb b o hb e) f0 f1 f3 f4 f5]
 self:=λy y y y y st h=>by
  rcases rA x with z|z
  .rw[z] at st;exact wpAny_pyIter_striter_ascii st h
  .rw[z] at st;exact wpAny_pyIter_striter_wide st h
theorem LL(hl:PE X l tl):PI X tg l (Cr tl):=by
 intro pins s L H R I h;refine aC (hl pins s L H _ I h) λv s1 zq=>?_;obtain⟨y,H1,I1,r1,q1⟩:=zq;obtain⟨x,e,q⟩:=q1;subst e;obtain⟨t,rfl⟩:=r1;refine aks ?_;refine#[s1.heap.objs.size,[s1.heap.objs.size],_,_,H1,Y,I1.kept (t':=s1.toks) λb o e=>acL _ e,WR x t _,#[_,acV _ Y,Y,Y],λb hb=>?_,q];have e:b=s1.heap.objs.size:=by simpa using hb
 subst e;exact I1.fK (acS _) (I1.ar.fresh (acS _))
theorem LM:sX (uj x) (λz=>True) (cX x) :=
 #[λi z z z e=>by
  have:=(acX.mp e).1;show i<x.cps.size;rw[<- nA];exact this,λz z z z z y=>#[y.1,λz=>y.2],λi z z h=>by show x.cps.size<=i;rw[<- nA];exact h]
section
theorem WS:iP (Cr tl) g tb D L H=tl L H (λv H1=>∃ x,v = .str x/\FJ (uj x) g tb D L H1):=rfl
end
end Gz
namespace Gz
open PySem PySem.Spec PyProof.Rows L2 Builtin Builtin.Str
def WU:V->Option Int->Option Int->Hp->VK->Prop:=λx lo hi H Q=>∃ z,x = .str z/\z.length<=adh/\Q (.str (agh z lo hi)) H
theorem part_of(h:IsPart v o):∃ l:Option (Int × Tok),v=partValue l/\l.map (·.1)=o:=by
 cases h with
 | none=>exact#[J,Y,Y]
 | int i t=>exact#[O (i,t),Y,Y]
theorem yh:Af X WU:=by
 intro pins s L H x v vl vu lo hi sl Q I rx hs pl pu h;obtain⟨z,rfl,hz,q⟩:=h;obtain⟨t,rfl⟩:=rx;obtain⟨l,rfl,rfl⟩:=part_of pl;obtain⟨u,rfl,rfl⟩:=part_of pu;refine#["str",_,F.slot_str_getitem.lookup,ah3 _ _ _,?_];refine wpAny_getItem_str_slice (l:=l) (u:=u) (st:=J) hs Y ?_;unfold sliceMade;have e:slicePicked z l u J=strSliceIndices (l.map (·.1)) (u.map (·.1)) 1 z.length:=rfl;rw[e];unfold agh at q;show Made.post (if ((1:Int) == 1 && (strSliceIndices (l.map (·.1)) (u.map (·.1)) 1 z.length).length == z.length)=true then _ else _) _ s;split
 .rename_i c;rw[if_pos c] at q;exact#[.str z,H,I,#[_,Y],q]
 .rename_i c;rw[if_neg c] at q;refine#[?_,.str _,H,I.tok _,#[_,Y],q];have:=sliceIndices_le (l.map (·.1)) (u.map (·.1)) z.length;show ((strSliceIndices (l.map (·.1)) (u.map (·.1)) 1 z.length).filterMap (z.cps[·]?)).toArray.size<=adh;rw[ac5];exact acR (aib _ _) (acR this hz)
end Gz
namespace Gz
open PySem PySem.Spec PyProof.Rows L2
structure Cs(P:adP)(w:aes)(K:acM)(a:ac4)(kvs:List (Key × V)):Prop where
 d:∀ h:ae7,K.In h->(a == aeB)=false/\∃ vs,KV kvs vs/\h.DictOf (eI P w) a vs
def LN(kvs:List (Key × V))(ty:TE):TE:=λL H Q=>ty L H λy H1=>∃ k v,y=kV k/\dO kvs k=O v/\Q v H1
def LO(kvs:List (Key × V))(neg:Bool)(ty:TE):TE:=λL H Q=>ty L H λy H1=>∃ k,y=kV k/\Q (.bl (if neg then !(dO kvs k).isSome else (dO kvs k).isSome)) H1
section
theorem Ct(hm:X.mg x=O (.ref a))(D:Cs X.prog X.w X.K a kvs)(hi:PE X i ty)(hs:xG i:=by intro z z;rfl)(hg:Gl X x:=by rfl)(hd:(x == ("__debug__" : Str))=false:=by decide):PE X (.Subscript (.Name x p) i pos) (LN kvs ty):=by intro pins s L H Q I h;refine Jt PySem.F.slot_dict_getitem.lookup hs (aC (qt (v:=.ref a) hg hm Y hd pins s L H (λv H1=>v = .ref a/\ty L H1 λy H2=>∃ k v,y=kV k/\dO kvs k=O v/\Q v H2) I #[Y,h]) λu s1 ⟨y1,H1,I1,rx,e1,q1⟩=>aC (hi pins s1 L H1 _ I1 q1) λiv s2 zq=>?_);obtain⟨y,H2,I2,ry,k,v,ey,l,q2⟩:=zq;subst e1 ey;obtain rfl:u=adB a:=rx;obtain⟨hsm,vs,rel,dd⟩:=D.d _ I2.cz;obtain⟨w',hw,iz⟩:=eJ.some_of (v:=v) (o:=ajN vs k) (by rw[<- l];exact rel.val k);exact#[dd.typeIs,akV (oW ry) dd.mapOf hw #[v,H2,I2.tok _,iz,q2]]
theorem WV(hm:X.mg x=O (.ref a))(D:Cs X.prog X.w X.K a kvs)(hi:PE X i ty)(hg:Gl X x:=by rfl)(hd:(x == ("__debug__" : Str))=false:=by decide):PC X .NotIn i (.Name x p) (LO kvs true ty):=by intro pins s L H Q I h;refine aC (hi pins s L H _ I h) λiv s1 ⟨y,H1,I1,ry,k,ey,q1⟩=>aC (qt (v:=.ref a) hg hm Y hd pins s1 L H1 (λv H1=>v = .ref a/\Q (.bl (if true then !(dO kvs k).isSome else (dO kvs k).isSome)) H1) I1 #[Y,q1]) λu s2 zq=>?_;obtain⟨y2,H2,I2,rx,e2,q2⟩:=zq;subst e2 ey;obtain rfl:u=adB a:=rx;obtain⟨hsm,vs,rel,dd⟩:=D.d _ I2.cz;refine wpAny_notIn_of (oW ry) hsm dd.mapOf ?_;rw[<- (rel.val k).xE];exact#[.bl _,H2,I2.tok _,Y,q2]
end
end Gz
namespace Gz
open PySem PySem.Spec PyProof.Rows L2 Builtin Builtin.Str StrLaws
theorem yi(h:∃ t,X.mg x=O (.str y t))(hg:Gl X x)(hd:(x == ("__debug__" : Str))=false:=by decide):PE X (.Name x pos) (tC (.str y)):=by obtain⟨t,ht⟩:=h;exact qt (v:=.str y) hg ht #[t,Y] hd
noncomputable def rB(x:acW):Bool:=x.cps.toList.all λc=>decide (48<=c) && decide (c<=57)
noncomputable def rC(x:acW):Bool:=decide (1<=x.length) && decide (x.length<=60) && rB x
noncomputable def l8:acW := "0123456789"
theorem WW(c:Nat):(!(occurrences l8 #[(List.toArray [c])] 0 l8.length 1).isEmpty)=(decide (48<=c) && decide (c<=57)):=by
 rw[found_one];have e:l8.cps.toList=[48,49,50,51,52,53,54,55,56,57]:=by decide +kernel
 rw[e];rw[aeY];simp only[decide_eq_true_eq,ad2,acZ,adz,or_false];omega
theorem LP(x:acW):(x.cps.toList.map λc=>!(occurrences l8 #[(List.toArray [c])] 0 l8.length 1).isEmpty).all id=rB x:=by
 unfold rB;rw[akC]
 congr 1
 funext c;exact WW c
noncomputable def nB(x:acW):Bool:=agX x "-"
noncomputable def cutD(x:acW):acW:=if nB x then agh x (O 1) J else x
noncomputable def jC(x:acW):Bool:=x == "0" || (rC (cutD x) && !agX (cutD x) "0")
theorem Cu(x:acW)(c:Nat):agX x #[(List.toArray [c])]=decide (x.cps.toList.head?=O c):=by
 show (decide (0+1<=x.length) && subAt x #[(List.toArray [c])] 0)=_;rw[str_len];cases h:x.cps.toList with
 | nil=>rfl
 | cons d r =>
  have h0:0<x.cps.toList.length:=by rw[h];exact al7 _
  rw[subAt_one x c 0 h0];have e:x.cps.toList[0]=d:=by simp only[h,List.getElem_cons_zero]
  rw[e];simp
theorem WX(n:Nat):strSliceIndices (O 1) J 1 n=(adu (n-1)).map (· + 1):=by
 unfold strSliceIndices ako;simp only[show ((1:Int) > 0)=True from eq_true (by decide),if_true,show ((1:Int)<0)=False from eq_false (by decide),if_false];cases n with
 | zero=>rfl
 | succ n =>
  have e1:max (0:Int) (min 1 ((n+1:Nat):Int))=1:=by omega
  rw[e1];have e2:(if (1:Int)<((n+1:Nat):Int) then (((n+1:Nat):Int)-1+1-1) / 1 else 0).toNat=n:=by
   split
   .rw[ai7];omega
   .omega
  rw[e2];apply ad9;intro k y;show ((1:Int)+1 * (k:Int)).toNat=k+1;omega
theorem LQ:∀ l:List Nat,(adu l.length).filterMap (λi=>l[i]?)=l
 | []=>rfl
 | a::r=>by
  rw[adw,aiN,ad8];show a::_=_;rw[agB]
  congr 1
  exact LQ r
theorem WY(x:acW):(agh x (O 1) J).cps.toList=x.cps.toList.drop 1:=by
 unfold agh;rw[WX,str_len,acN,adj];cases h:x.cps.toList with
 | nil=>rw[if_pos (by simp),h];rfl
 | cons d r =>
  rw[if_neg (by simp)];show (((adu (r.length+1-1)).map (· + 1)).filterMap (x.cps[·]?)).toArray.toList=r;rw[agB];have:((λi=>x.cps[i]?) ∘ λy=>y+1)=λi=>r[i]?:=by funext i;show x.cps[i+1]?=r[i]?;rw[<- aeZ,h,afH]
  rw[this];exact LQ r
theorem rD{x y:acW}(h:x.cps.toList=y.cps.toList):x=y:=by
 cases x;cases y
 congr 1
 exact amj h
theorem WZ(m:Nat):(dS m).all (λc=>decide (48<=c) && decide (c<=57))=true:=by rw[afq];intro c hc;have:=pF m c hc;simp only[ad2,decide_eq_true_eq];exact this
theorem LR(h:x.cps.toList=dS m)(hm:m<10 ^ 60):rC x=true:=by
 obtain⟨d,r,e,y⟩:=rq m;have hl:=Cp 59 m hm;unfold rC rB;rw[str_len,h,WZ];have h1:1<=(dS m).length:=by rw[e];exact al7 _
 simp[h1,hl]
theorem LS(h:n.natAbs<10 ^ 60):jC (aL n)=true:=by
 unfold jC;by_cases h0:n=0
 .subst h0;rfl
 .rw[afD];refine .inr ?_;have dash:∀ x:acW,nB x=decide (x.cps.toList.head?=O 45):=λx=>Cu x 45;have zero:∀ x:acW,agX x "0" = decide (x.cps.toList.head?=O 48):=λx=>Cu x 48;rcases ui n with ⟨m,rfl⟩|⟨m,rfl⟩
  .obtain⟨d,r,e,hd⟩:=rq m;have hm:m≠0:=λz=>h0 (by rw[z];rfl);have hL:=pG m;have nd:nB (aL (m:Int))=false:=by
    rw[dash,hL,e];have:d∈dS m:=by rw[e];exact .head _
    have:=pF m d this;apply decide_eq_false;intro z;injection z with z;omega
   have ec:cutD (aL (m:Int))=aL (m:Int):=by unfold cutD;rw[nd];rfl
   rw[ec,LR hL (by simpa using h),zero,hL,e];have:=hd hm;simp[this]
  .obtain⟨d,r,e,hd⟩:=rq (m+1);have hL:=uh m;have nd:nB (aL (-((m+1:Nat):Int)))=true:=by rw[dash,hL];rfl
   have ec:(cutD (aL (-((m+1:Nat):Int)))).cps.toList=dS (m+1):=by unfold cutD;rw[nd,if_pos Y,WY,hL];rfl
   rw[LR ec (by rw[alx,aj8] at h;exact h),zero,ec,e];have:=hd (by omega);simp[this]
end Gz
namespace Gz
open PySem PySem.Spec PyProof.Rows L2
section
theorem W0(hit:s.heap.IsStrIter it (afj x) x t i)(hx:x.cps[i]?=O c)(hQ:∀ h',h'.IsStrIter it (afj x) x t (i+1)->Heap.SameBut it s.heap h'->Q (.str #[(List.toArray [c])] s.toks) { s with heap:=h',toks:=s.toks+1 }):adi (model prog w) A (aeW (.ref it)) Q E s:=by
 rcases rA x with z|z
 .rw[z] at hit hQ;exact wpAny_nextOf_ascii_item hit hx hQ
 .rw[z] at hit hQ;exact wpAny_nextOf_wide_item hit hx hQ
theorem end_str(hh:A.handled=J)(hit:s.heap.IsStrIter it (afj x) x t i)(hx:x.cps[i]?=J)(hE:∀ h' e,ajO it s.heap h'->(∃ o,h'.get? e=O o/\o.cls = .type "StopIteration")->E (.ref e) { s with heap:=h' }):adi (model prog w) A (aeW (.ref it)) Q E s:=by
 rcases rA x with z|z
 .rw[z] at hit;exact wpAny_nextOf_ascii_end hh hit hx hE
 .rw[z] at hit;exact wpAny_nextOf_wide_end hh hit hx hE
structure ZS(n:Nat)(z1:acW)(t1:Tok)(l2:ac4)(h:ae7)(k:Nat)(f0:acU):Prop where
 z:alN h (n+4:Nat) (n+2:Nat) (n+3:Nat) f0
 ti:aj0 h (n+2:Nat) (.ref n) (.ref (n+1:Nat))
 to:∃ a b,aj0 h (n+3:Nat) a b
 i1:h.IsStrIter n (afj z1) z1 t1 k
 i2:h.IsListIter (n+1:Nat) l2 k
theorem W3{n:Nat}{z1:acW}{t1:Tok}{l2:ac4}{k c:Nat}{ys:Array acU}{y:acU}{Q:acU->ac8->Prop}(d2:l2<n)(S:ZS n z1 t1 l2 s.heap k .none)
 (bM:s.heap.IsList l2 ys) (hx:z1.cps[k]?=O c) (hy:ys[k]?=O y)
 (hQ:∀ h',ZS n z1 t1 l2 h' (k+1) (agc s.heap.objs.size)->aj0 h' s.heap.objs.size (.str #[(List.toArray [c])] s.toks) y->(∀ c o,(c<n∨n+4<c)->s.heap.get? c=O o->h'.get? c=O o)->Q (.ref s.heap.objs.size) { s with heap:=h',toks:=s.toks+1 }) :
 adi (model prog w) A (ae8.«zip.__next__» #[[.ref (n+4:Nat)],[]]) (λfin s'=>∃ v,fin = .done (.ret v)/\Q v s') E s:=by
 obtain⟨hz,dZ,⟨a,b,fw⟩,h1,h2⟩:=S;show adi _ A (field (.ref (n+4:Nat)) 2 >>= _) _ _ _;refine acK (aeV hz Y (x:=.bool false) Y ?_);show adi _ A (field (.ref (n+4:Nat)) 3 >>= _) _ _ _;refine acK (aeV hz Y (x:=.ref (n+2:Nat)) Y (acK (aeH dZ Y ?_)));show adi _ A (ad3 (.ref (n+4:Nat)) >>= _) _ _ _;refine acK ?_;unfold ad3;refine acK (aeV hz Y (x:=.none) Y (acQ ?_));simp only[if_true];refine acK (agO (acK (aeV hz Y (x:=.ref (n+3:Nat)) Y ?_)));refine acK (aeL hz (by simp) λg1 y1 w1=>?_);replace y1:alN g1 (n+4:Nat) (n+2:Nat) (n+3:Nat) .ellipsis:=y1;refine acK ?_;simp only[akY,alp,ahs,ajB];refine acK (acK (aj9 ?_));show adi _ A (aeW (.ref n) >>= _) _ _ _;refine acK (W0 (h1.extBut w1.extBut (by walk_at "o")) hx λg2 j1 w2=>acQ ?_);generalize ex:(Value.str #[(List.toArray [c])] s.toks)=x at hQ ⊢;have T2:aj0 g2 (n+3:Nat) a b:=w2.extBut _ _ (by walk_at "o") (w1.extBut _ _ (by walk_at "o") fw);refine acK (aeH T2 Y (acK (ajw T2 λg3 T3 w3=>?_)));replace T3:aj0 g3 (n+3:Nat) x b:=T3;refine acK (afW (acQ ?_));refine acK (acK (aj9 ?_));show adi _ A (aeW (.ref (n+1:Nat)) >>= _) _ _ _;refine acK (aiK (((h2.extBut w1.extBut (by walk_at "o")).extBut w2.extBut (by walk_at "o")).extBut w3.extBut (by walk_at "o")) (((bM.extBut w1.extBut (by walk_at "o")).extBut w2.extBut (by walk_at "o")).extBut w3.extBut (by walk_at "o")) hy λg4 j2 w4=>acQ ?_);have T4:aj0 g4 (n+3:Nat) x b:=w4.extBut _ _ (by walk_at "o") T3;refine acK (aeH T4 Y (acK (ajw T4 λg7 T7 w7=>?_)));replace T7:aj0 g7 (n+3:Nat) x y:=T7;refine acK (afW (acQ (acQ ?_)));refine acK (aeH T7 Y (acK (ahS ?_)));have sz:g7.objs.size=s.heap.objs.size:=by rw[w7.1,w4.1,w3.1,w2.1,w1.1]
 have z7:alN g7 (n+4:Nat) (n+2:Nat) (n+3:Nat) .ellipsis:=w7.extBut _ _ (by walk_at "o") (w4.extBut _ _ (by walk_at "o") (w3.extBut _ _ (by walk_at "o") (w2.extBut _ _ (by walk_at "o") y1)));have k7:∀ q o,(q<n∨q=n+2∨n+4<q)->s.heap.get? q=O o->g7.get? q=O o:=λq o hq e=>w7.extBut _ _ (by walk_at "o") (w4.extBut _ _ (by walk_at "o") (w3.extBut _ _ (by walk_at "o") (w2.extBut _ _ (by walk_at "o") (w1.extBut _ _ (by walk_at "o") e))));have n1:g7.IsStrIter n (afj z1) z1 t1 (k+1):=((j1.extBut w3.extBut (by walk_at "o")).extBut w4.extBut (by walk_at "o")).extBut w7.extBut (by walk_at "o");have n2:g7.IsListIter (n+1:Nat) l2 (k+1):=j2.extBut w7.extBut (by walk_at "o");have zl:(n+4:Nat)<g7.objs.size:=acT z7;show adi _ A (agi (.ref (n+4:Nat)) (.ref g7.objs.size) >>= _) _ _ _;refine acK ?_;unfold agi;have z8:alN (g7.push { cls:=.type "tuple",data:=.seq (List.toArray [x,y]) }) (n+4:Nat) (n+2:Nat) (n+3:Nat) .ellipsis:=acL _ z7;refine acK (aeL z8 (by simp) λg9 z9 w9=>?_);replace z9:alN g9 (n+4:Nat) (n+2:Nat) (n+3:Nat) (agc g7.objs.size):=z9;refine aeL z9 (by simp) λga za wa=>?_;replace za:alN ga (n+4:Nat) (n+2:Nat) (n+3:Nat) (agc g7.objs.size):=za;have up:∀ q o,q≠(n+4:Nat)->g7.get? q=O o->ga.get? q=O o:=λq o c1 e=>wa.extBut _ _ c1 (w9.extBut _ _ c1 (acL _ e));have Ta:aj0 ga g7.objs.size x y:=wa.extBut _ _ (ad5 zl) (w9.extBut _ _ (ad5 zl) (acV _ Y));rw[sz] at za Ta;refine acQ #[_,Y,?_];show Q (.ref g7.objs.size) _;rw[sz];exact hQ ga #[za,up (n+2:Nat) _ (by walk_at "o") (k7 (n+2:Nat) _ (.inr (.inl rfl)) dZ),#[_,_,up (n+3:Nat) _ (by walk_at "o") T7],(let ⟨o,e,r⟩:=n1;#[o,up _ o (by walk_at "o") e,r]),n2.at λo e=>up _ o (by walk_at "o") e] Ta λq o hq e=>up q o (by walk_at "o") (k7 q o (by walk_at "o") e)
theorem W5(hh:A.handled=J)(S:ZS n z1 t1 l2 s.heap k .none)(hx:z1.cps[k]?=J)(hE:∀ h' e,(∀ c o,(c<n∨n+4<c)->s.heap.get? c=O o->h'.get? c=O o)->(∃ o,h'.get? e=O o/\o.cls = .type "StopIteration")->E (.ref e) { s with heap:=h' }) :
 adi (model prog w) A (ae8.«zip.__next__» #[[.ref (n+4:Nat)],[]]) Q E s:=by
 obtain⟨hz,dZ,⟨a,b,fw⟩,h1,h2⟩:=S;show adi _ A (field (.ref (n+4:Nat)) 2 >>= _) _ _ _;refine acK (aeV hz Y (x:=.bool false) Y ?_);show adi _ A (field (.ref (n+4:Nat)) 3 >>= _) _ _ _;refine acK (aeV hz Y (x:=.ref (n+2:Nat)) Y (acK (aeH dZ Y ?_)));show adi _ A (ad3 (.ref (n+4:Nat)) >>= _) _ _ _;refine acK ?_;unfold ad3;refine acK (aeV hz Y (x:=.none) Y (acQ ?_));simp only[if_true];refine acK (agO (acK (aeV hz Y (x:=.ref (n+3:Nat)) Y ?_)));refine acK (aeL hz (by simp) λg1 y1 w1=>?_);replace y1:alN g1 (n+4:Nat) (n+2:Nat) (n+3:Nat) .ellipsis:=y1;refine acK ?_;simp only[akY,alp,ahs,ajB];refine acK (acK (aj9 ?_));show adi _ A (aeW (.ref n) >>= _) _ _ _;refine acK (end_str hh (h1.extBut w1.extBut (by walk_at "o")) hx λg2 e w2 he=>?_);obtain⟨oe,Cv,tf⟩:=he;have z2:alN g2 (n+4:Nat) (n+2:Nat) (n+3:Nat) .ellipsis:=w2 _ _ (by walk_at "o") y1;have ne:e≠(n+4:Nat):=λq=>by subst q;rw[z2] at Cv;cases Cv;simp at tf
 exact aeL z2 (by simp) λg3 y w3=>hE g3 e (λq o hq e0=>w3.extBut _ _ (by walk_at "o") (w2 _ _ (by walk_at "o") (w1.extBut _ _ (by walk_at "o") e0))) #[oe,w3.extBut _ _ ne Cv,tf]
end
noncomputable abbrev uk(h:ae7)(z1:acW)(t1:Tok):ae7:=h.push { cls:=.type (afj z1),data:=.fields (List.toArray [.str z1 t1,.int 0 0]) }
noncomputable abbrev yj(h:ae7)(z1:acW)(t1:Tok)(l2:ac4):ae7:=(uk h z1 t1).push { cls:=.type "list_iterator",data:=.fields (List.toArray [.ref l2,.int 0 0]) }
noncomputable abbrev yk(h:ae7)(z1:acW)(t1:Tok)(l2:ac4):ae7:=(yj h z1 t1 l2).push { cls:=.type "tuple",data:=.seq (List.toArray [.ref h.objs.size,.ref (uk h z1 t1).objs.size]) }
noncomputable abbrev ym(h:ae7)(z1:acW)(t1:Tok)(l2:ac4):ae7:=(yk h z1 t1 l2).push { cls:=.type "tuple",data:=.seq (List.toArray [.none,.none]) }
noncomputable abbrev rE(h:ae7)(z1:acW)(t1:Tok)(l2:ac4):ae7:=(ym h z1 t1 l2).push { cls:=.type "zip",data:=.fields (List.toArray [.none,.bool false,.bool false,.ref (yj h z1 t1 l2).objs.size,.ref (yk h z1 t1 l2).objs.size]) }
theorem W6(z1:acW)(t1:Tok)(l2:ac4)(ys:Array acU):Meets (ae8.«zip.__new__» #[[.type "zip",.str z1 t1,.ref l2],[]]) (λy R s=>s.heap.IsList l2 ys/\R (.ok (.ret (.ref (ym s.heap z1 t1 l2).objs.size))) { s with heap:=rE s.heap z1 t1 l2 }) :=
 .of_wp λprog w A R s h=>by
  obtain⟨hp,g,d,tk,os⟩:=s;obtain⟨q2,h⟩:=h;have sub:=sub_zip;have L2:Heap.IsList (Shared.heap #[uk hp z1 t1,g,d,tk,os]) l2 ys:=Heap.IsList.push q2 _
  wp_walk using aks,af3 L2
  exact#[_,Y,h]
theorem W7(bM:s.heap.IsList l2 ys)(h:∀ h',ZS s.heap.objs.size z1 t1 l2 h' 0 .none->(∀ c o,s.heap.get? c=O o->h'.get? c=O o)->Q (.ref (s.heap.objs.size+4:Nat)) { s with heap:=h' }):adi (model prog w) A (call (.type "zip") [.str z1 t1,.ref l2]) Q E s:=by
 refine callType_new PySem.F.called_zip (by decide) (PySem.F.typeCall_zip_2 _ _) (PySem.F.newCall_zip_2 _ _) (λobj=>PySem.F.args_object_init_3 obj _ _) PySem.F.entry_zip_new (W6 z1 t1 l2 ys) #[bM,?_];have s1:(uk s.heap z1 t1).objs.size=s.heap.objs.size+1:=aem ..;have s2:(yj s.heap z1 t1 l2).objs.size=s.heap.objs.size+2:=by rw[aem,s1]
 have s4:(yk s.heap z1 t1 l2).objs.size=s.heap.objs.size+3:=by rw[aem,s2]
 have s5:(ym s.heap z1 t1 l2).objs.size=s.heap.objs.size+4:=by rw[aem,s4]
 have p6:(rE s.heap z1 t1 l2).get? (ym s.heap z1 t1 l2).objs.size=O _:=acV _ rfl;have p5:(rE s.heap z1 t1 l2).get? (yk s.heap z1 t1 l2).objs.size=O _:=acL _ (acV _ Y);have p4:(rE s.heap z1 t1 l2).get? (yj s.heap z1 t1 l2).objs.size=O _:=acL _ (acL _ (acV _ Y));have p2:(rE s.heap z1 t1 l2).get? (uk s.heap z1 t1).objs.size=O _:=acL _ (acL _ (acL _ (acV _ Y)));have p1:(rE s.heap z1 t1 l2).get? s.heap.objs.size=O _:=acL _ (acL _ (acL _ (acL _ (acV _ Y))));show _/\_;rw[s2,s4,s5] at p6;rw[s1,s2] at p4;rw[s4] at p5;rw[s1] at p2;rw[s5];exact#[#[_,p6,Y],h _ #[p6,p4,#[_,_,p5],#[_,p1,Y,Y],#[_,p2,Y,Y]] λc o q=>acL _ (acL _ (acL _ (acL _ (acL _ q))))]
noncomputable def Cw(K:acM)(z1:acW)(b:ac4):It :=
 #[λi H=>∃ ys y,ah K H b ys/\i<z1.cps.size/\ys[i]?=O y,λi H v H'=>∃ (p:ac4) (x y:V),v = .ref p/\H p=J/\H'=upd H p (.tup [x,y])/\(cX z1)[i]?=O x/\∀ ys,ah K H b ys->ys[i]?=O y,
  λi z=>z1.cps.size<=i]
theorem W8{P:adP}{w:aes}{K:acM}{es:List agY}{k:Nat}{tp:Pos}(n:Nat)(z1:acW)(t1:Tok)(b:ac4)(d2:b<n):Turn P w K (.Tuple es k tp) (Cw K z1 b) [(n+4:Nat),(n+2:Nat),(n+3:Nat),n,(n+1:Nat)] (n+4:Nat) (λi h=>ZS n z1 t1 b h i .none) where
 mem:=by simp
 obj:=λi h st q hq=>by
  obtain⟨hz,dZ,⟨ta,tb,fw⟩,⟨o1,h1,c1,e1⟩,⟨o2,h2,c2,e2⟩⟩:=st;have gP:q=(n+4:Nat)∨q=(n+2:Nat)∨q=(n+3:Nat)∨q=n∨q=(n+1:Nat):=by simpa using hq
  rcases gP with rfl|rfl|rfl|rfl|rfl
  .exact#[_,hz,λv q=>by
    have q':ahj _=agv v:=q;cases q']
  .exact#[_,dZ,λv q=>by
    have q':Data.seq _ _=agv v:=q;cases q']
  .exact#[_,fw,λv q=>by
    have q':Data.seq _ _=agv v:=q;cases q']
  .exact#[o1,h1,λv q=>by rw[e1] at q;cases q]
  .exact#[o2,h2,λv q=>by rw[e2] at q;cases q]
 keep:=λi h h' st kk=>by obtain⟨hz,dZ,⟨ta,tb,fw⟩,h1,h2⟩:=st;exact#[kk _ (by simp) _ hz,kk _ (by simp) _ dZ,#[ta,tb,kk _ (by simp) _ fw],(let ⟨o,e,r⟩:=h1;#[o,kk _ (by simp) o e,r]),h2.at λo e=>kk _ (by simp) o e]
 item:=by
  intro X hP hw hK hc i pins s L H E I hf st hg;subst hP hw hK;obtain⟨ys,y,hqy,hx,hy⟩:=hg;obtain⟨jts,oN,p2,u⟩:=I.list hqy;have ex:z1.cps[i]?=O z1.cps[i]:=by simp[hx]
  obtain⟨v,hv,tj⟩:=oN.get hy;have lz:=acT st.z;have T:s.TypeIs (.ref (n+4:Nat)) "zip" := #[_,st.z,Y];unfold afT;refine acK (aft (ad7 (name:=ac0 "__next__") T af1 (aec af1 T aiO (W3 d2 st p2.isList (y:=v) ex (by simpa using hv) λh' S1 pT hk=>acQ ?_) (ait _))));refine#[_,Y,ahR S1.z λh3 z3 AV=>?_];have iA:Heap.SameBut (n+4:Nat) h' h3:=AV;have neT:s.heap.objs.size≠(n+4:Nat):=ad5 lz;have up:∀ b o,b∉[((n+4:Nat):ac4),(n+2:Nat),(n+3:Nat),n,(n+1:Nat)]->s.heap.get? b=O o->h3.get? b=O o:=λb o hb q=>by
   have bH:b≠(n+4:Nat)/\b≠(n+2:Nat)/\b≠(n+3:Nat)/\b≠n/\b≠(n+1:Nat):=by simpa using hb
   exact iA.extBut b o bH.1 (hk b o (by walk_at "o") q)
  have hn:H s.heap.objs.size=J:=I.ar.fresh (acS _);obtain⟨u,s2,⟨ta,tb,s3⟩,s4,s5⟩:=S1;refine#[.ref s.heap.objs.size,upd H s.heap.objs.size (.tup [.str #[(List.toArray [z1.cps[i]])],y]),AM (s:=s) (h':=h3) (t':=s.toks+1) I up hf (acS _) #[show 2<=adh by decide,[.str #[(List.toArray [z1.cps[i]])] s.toks,v],.cons #[_,Y] (.cons tj .nil),?_],Y,#[_,_,y,Y,hn,Y,LJ ex,λq hq=>by rw[I.qv hq hqy];exact hy],
   #[z3,iA.extBut _ _ (by walk_at "o") s2,#[_,_,iA.extBut _ _ (by walk_at "o") s3],(let ⟨o,e,r⟩:=s4;#[o,iA.extBut _ _ (by walk_at "o") e,r]),s5.at λo q=>iA.extBut _ _ (by walk_at "o") q],λb hb=>?_]
  .exact#[_,iA.extBut _ _ neT pT,Y,_,Y]
  .rw[aJ]
   .exact (hf b hb).1
   .have bH:b=(n+4:Nat)∨b=(n+2:Nat)∨b=(n+3:Nat)∨b=n∨b=(n+1:Nat):=by simpa using hb
    walk_at "o"
 done:=by
  intro X hP hw hK hc i pins s L H E I hf st hg;subst hP hw hK;have hx:z1.cps[i]?=J:=by have hg:z1.cps.size<=i:=hg;simp[hg]
  have T:s.TypeIs (.ref (n+4:Nat)) "zip" := #[_,st.z,Y];unfold afT;refine acK (aft (ad7 (name:=ac0 "__next__") T af1 (aec af1 T aiO (W5 (I.ok.hd hc) st hx λh' e hk he=>?_) (ait _))));obtain⟨o,h1,h2⟩:=he;refine acK (afK (T := "StopIteration") (b:=true) #[o,h1,h2] ahU ?_);refine acQ #[Y,AL (t':=s.toks) I (λb o hb q=>?_) hf];have bH:b≠(n+4:Nat)/\b≠(n+2:Nat)/\b≠(n+3:Nat)/\b≠n/\b≠(n+1:Nat):=by simpa using hb
  exact hk b o (by walk_at "o") q
 self:=λu i s Q E st h=>ag7 st.z h
def LU(K:acM)(ta:TA):TI:=λL H R=>ta L H λvs H1=>∃ z b,vs=[.str z,.ref b]/\(∃ ys,ah K H1 b ys)/\R (Cw K z b) H1
theorem LV(hg:Gl X "zip")(hm:X.mg "zip" = J)(ha:PA X [e,f] ta)(hs:adp [e,f] X.env=(false,eval e X.env)::adp [f] X.env:=by rfl)(df:adp [f] X.env=[(false,eval f X.env)]:=by rfl):PI X (.Tuple es k tp) (.Call (.Name "zip" p) [e,f] [] pos) (LU X.K ta):=by
 intro pins s L H R I h;refine al0 (fI I hg hm HC (adD (aC (ha pos pins s L H _ I h) λus s1 ⟨vs,H1,I1,r1,q1⟩=>?_) hs (by rw[df];rfl)));obtain⟨z,b,rfl,⟨ys,hqy⟩,q⟩:=q1;obtain⟨u,v,rfl,ru,AY⟩:=vals2 r1;obtain⟨t1,rfl⟩:=ru;cases AY;obtain⟨jts,oN,p2,y⟩:=I1.list hqy;have a2:b<s1.heap.objs.size:=by obtain⟨y,e,y⟩:=p2.isList;exact acT e
 refine W7 p2.isList λh' S hk=>ag7 S.z ?_;have I2:Inv X pins L H1 { s1 with heap:=h' }:=I1.kept (t':=s1.toks) hk;refine#[_,_,_,_,H1,Y,I2,W8 s1.heap.objs.size z t1 b a2,S,λq hq=>?_,q];have gP:s1.heap.objs.size<=q:=by simp only[acZ,adz,or_false] at hq;walk_at "o"
 exact I1.fK gP (I1.ar.fresh gP)
theorem W9{K:acM}{ρ:L2.St}{tt:TT}{te:TE}{H:Hp}{Q:VK}{J9q:It}{Ok:Hp->Prop}{rows:List (V × V)}(hg:∀ i H x y,rows[i]?=O (x,y)->Ok H->J9q.go i H)(hy:∀ i H v H' x y,rows[i]?=O (x,y)->Ok H->J9q.yld i H v H'->∃ p,v = .ref p/\H p=J/\H'=upd H p (.tup [x,y]))(hd:∀ H,Ok H->J9q.stop rows.length H)
 (hn:rows.length<=adh) (h:oO Ok ρ tt te rows [] H λzs H'=>∀ l,H' l=J->Q (.ref l) (upd H' l (.lst zs))) :
 ji 2 J9q (je K 2 (cJ (bZ 0) (cJ (bZ 1) iO))) ρ tt te H Q:=by
 refine#[λi m zs H=>m=rows.length-i/\i<=rows.length/\zs.length<=i/\oO Ok ρ tt te (rows.drop i) zs H λzs H'=>∀ l,H' l=J->Q (.ref l) (upd H' l (.lst zs)),#[_,Y,adt _,acS _,h],?_];rintro i m zs H ⟨rfl,hi,hl,g⟩;by_cases aW:i<rows.length
 .have e:=adN aW;have e3:rows[i]?=O (rows[i].1,rows[i].2):=acP aW;rw[e] at g;obtain⟨g0,g1⟩:=g;have l1:∀ y:V,(zs++[y]).length<=i+1:=λy=>by rw[ac7,adb];lia
  have l2:zs.length<=i+1:=by lia
  refine .inr #[hg i H _ _ e3 g0,by lia,λws H'=>ws.length<=i+1/\oO Ok ρ tt te (rows.drop (i+1)) ws H' λzs H'=>∀ l,H' l=J->Q (.ref l) (upd H' l (.lst zs)),λzs H' q=>#[_,by lia,Y,aW,q.1,q.2],λos sU v H' y=>?_];obtain⟨p,rfl,hp,rfl⟩:=hy i H v H' _ _ e3 g0 y;obtain⟨o1,o2,rfl⟩:=RV sU;refine mV (au.of ao) #[[O rows[i].1,O rows[i].2],Y,Y,?_];simp only[l1,l2,true_and];exact g1 p hp
 .have e:i=rows.length:=by lia
  subst e;rw[aiy] at g;exact .inl #[hd H g.1,by lia,g.2]
theorem LW{K:acM}{ρ:L2.St}{tt:TT}{te:TE}{H:Hp}{Q:VK}{z:acW}{b:ac4}{ys:List V}(hle:(cX z).length<=ys.length)(hn:(cX z).length<=adh)(h:oO (λH=>ah K H b ys) ρ tt te ((cX z).zip ys) [] H λzs H'=>∀ l,H' l=J->Q (.ref l) (upd H' l (.lst zs))) :
 ji 2 (Cw K z b) (je K 2 (cJ (bZ 0) (cJ (bZ 1) iO))) ρ tt te H Q:=by
 have e:((cX z).zip ys).length=(cX z).length:=by rw[List.length_zip];lia
 have at_:∀ i x y,((cX z).zip ys)[i]?=O (x,y)->(cX z)[i]?=O x/\ys[i]?=O y:=λi x y h=>by rw[List.getElem?_zip_eq_some] at h;exact h
 refine W9 (Ok:=λH=>ah K H b ys) (rows:=(cX z).zip ys) (λi H x y h0 hS=>?_) (λi H v H' x y h0 hS hy=>?_) (λH u=>?_) (by rw[e];exact hn) h
 .obtain⟨h1,h2⟩:=at_ i x y h0;exact#[ys,y,hS,by have:=(acX.mp h1).1;rw[nA] at this;exact this,h2]
 .obtain⟨p,x',y',rfl,hp,rfl,ex,ey⟩:=hy;obtain⟨h1,h2⟩:=at_ i x y h0;rw[h1] at ex;have ey:=ey ys hS;rw[h2] at ey;cases ex;cases ey;exact#[p,Y,hp,Y]
 .show z.cps.size<=_;rw[e,nA];exact acS _
section
end
noncomputable def Xa(K:acM)(a b:ac4):It :=
 #[λi H=>∃ xs ys x y,ah K H a xs/\au K H b ys/\xs[i]?=O x/\ys[i]?=O y,λi H v H'=>∃ (p:ac4) (x y:V),v = .ref p/\H p=J/\H'=upd H p (.tup [x,y])/\(∀ xs,ah K H a xs->xs[i]?=O x)/\∀ ys,au K H b ys->ys[i]?=O y,
  λi H=>∃ xs,ah K H a xs/\xs.length<=i]
def Xb(K:acM)(ta:TA):TI:=λL H R=>ta L H λvs H1=>∃ a b,vs=[.ref a,.ref b]/\(∃ xs,ah K H1 a xs)/\(∃ ys,au K H1 b ys)/\R (Xa K a b) H1
section
end
structure Cy(K:acM)(mg:Str->Option acU)(x:Str)(xs:List Str) where
 a:ac4
 m:mg x=O (.ref a)
 s:∀ H,au K H a (xs.map V.str)
def pH(sw gw:List W2)(tb:Tb)(m:Int)(L9q:List Int)(c:Nat->Int):Prop:=(L9q.length:Int)<=m/\(∀ (j:Nat) w,sw[j]?=O w->cc w (c (j+1)-c j))/\(∀ (j:Nat) w,gw[j]?=O w->cc w (c j))/\∀ r∈tb,r.1.1∉L9q->bC r.2 (c r.1.2.toNat)
theorem pI:meets (cH tb L9q) c ↔ ∀ r∈tb,r.1.1∉L9q->bC r.2 (c r.1.2.toNat):=by
 unfold meets cH;constructor
 .intro h r hr hn;exact h (r.1.2.toNat,r.2) (ac2.mpr #[r,adG.mpr #[tQ.mem_iff.mpr hr,by simpa using hn],Y])
 .intro h m hm;obtain⟨r,hr,rfl⟩:=ac2.mp hm;obtain⟨h1,h2⟩:=adG.mp hr;exact h r (tQ.mem_iff.mp h1) (by simpa using h2)
theorem um:(∀ (j:Nat) w,(pp.map jB)[j]?=O w->cc w (c (j+1)-c j))↔fB pp c:=by
 constructor
 .intro h k hk;obtain⟨s,e,h1,h2⟩:=h k (jB (aF pp k)) (by rw[ac1,acP hk];unfold aF;rw[acO,acP hk];rfl);unfold jB at e;cases e;exact#[h1 _ Y,h2 _ Y]
 .intro h j w hw;rw[ac1] at hw;obtain⟨p,hp,rfl⟩:=ady.mp hw;have hj:=(acX.mp hp).1;have:=h j hj;unfold aF at this;rw[acO,hp] at this;exact#[_,Y,λa z=>by cases z;exact this.1,λa z=>by cases z;exact this.2]
theorem Cz{gs:List S2}{c:Nat->Int}:(∀ (j:Nat) w,(gs.map O)[j]?=O w->cc w (c j)) ↔ ∀ (j:Nat) s,gs[j]?=O s->bC s (c j):=by
 constructor
 .intro h j s hs;obtain⟨s',e,z⟩:=h j (O s) (by rw[ac1,hs];rfl);cases e;exact z
 .intro h j w hw;rw[ac1] at hw;obtain⟨s,hs,rfl⟩:=ady.mp hw;exact#[s,Y,h j s hs]
theorem CA:bC (O c,O c) x↔x=c:=#[λh=>ai0 (h.2 _ Y) (h.1 _ Y),λh=>by subst h;exact#[λa z=>by cases z;exact adZ _,λa z=>by cases z;exact adZ _]]
section
end
structure uo(P:Int->Prop)(lo hi:En):Prop where
 los:∀ a,lo=O a->P a/\∀ n,P n->a<=n
 lon:lo=J->∀ z,∃ n,n<=z/\P n
 his:∀ a,hi=O a->P a/\∀ n,P n->n<=a
 dr:hi=J->∀ z,∃ n,z<=n/\P n
theorem Xc{P:Int->Prop}{as:List S2}{lo hi:En}(ho:∀ s∈as,fz s)(hP:∀ x,(as.any λs=>hs s x)=true↔P x)(hl:iD (as.map (·.1)) lo)(hh:ju (as.map (·.2)) hi):uo P lo hi:=by
 have up:∀ s∈as,∀ x,bC s x->P x:=λs h x hx=>(hP x).mp (aeb.mpr #[s,h,m5.mpr hx]);have dn:∀ x,P x->∃ s∈as,bC s x:=λx hx=>by obtain⟨s,h,z⟩:=aeb.mp ((hP x).mpr hx);exact#[s,h,m5.mp z]
 obtain⟨s,ms,es⟩:=ac2.mp hl.1;obtain⟨r,mr,er⟩:=ac2.mp hh.1;have os:=ho s ms;have or':=ho r mr;refine#[λa ha=>#[up s ms a ?_,λn hn=>?_],λhn z=>?_,λa ha=>#[up r mr a ?_,λn hn=>?_],λhn z=>?_]
 .obtain⟨s1,s2⟩:=s;dsimp only at es;rw[ha] at es;subst es;refine#[λb e=>by cases e;exact adZ _,λb e=>?_];dsimp only at e;subst e;have:=of_decide_eq_false (show decide (b<a)=false from os);lia
 .obtain⟨z,mz,hz⟩:=dn n hn;rcases hl.2 z.1 (ac2.mpr ⟨z,mz,rfl⟩) with e|⟨p,q,e1,e2,e3⟩
  .rw[e] at ha;cases ha
  .rw[e1] at ha;cases ha;exact ag1 e3 (hz.1 _ e2)
 .obtain⟨s1,s2⟩:=s;dsimp only at es;rw[hn] at es;subst es;cases s2 with
  | none=>exact#[z,adZ _,up _ ms z #[λy e=>(nomatch e),λy e=>(nomatch e)]]
  | some b=>exact#[min z b,by lia,up _ ms _ #[λy e=>(nomatch e),λc e=>by cases e;lia]]
 .obtain⟨s1,s2⟩:=r;dsimp only at er;rw[ha] at er;subst er;refine#[λb e=>?_,λb e=>by cases e;exact adZ _];dsimp only at e;subst e;have:=of_decide_eq_false (show decide (a<b)=false from or');lia
 .obtain⟨z,mz,hz⟩:=dn n hn;rcases hh.2 z.2 (ac2.mpr ⟨z,mz,rfl⟩) with e|⟨p,q,e1,e2,e3⟩
  .rw[e] at ha;cases ha
  .rw[e2] at ha;cases ha;exact ag1 (hz.2 _ e1) e3
 .obtain⟨s1,s2⟩:=r;dsimp only at er;rw[hn] at er;subst er;cases s1 with
  | none=>exact#[z,adZ _,up _ mr z #[λy e=>(nomatch e),λy e=>(nomatch e)]]
  | some b=>exact#[max z b,by lia,up _ mr _ #[λc e=>by cases e;lia,λy e=>(nomatch e)]]
section
variable{e t u d m:Int}{tb:Tb}{k:Nat}
theorem LX{n x:Int}(hx:x=1∨x = -1)(ht:1<=t/\t<=3)(hu:0<=u/\u<=10000000000000000000000000000000000000000)(hd:0<=d/\d<=10000000000000000000000000000000000000000)(ar:bV e t tb)(hk:(k:Int)<t)(hw:∀ r∈tb,∀ y,r.2.1=O y∨r.2.2=O y->-300000000000000000000000000000000000000000000000000<=y/\y<=300000000000000000000000000000000000000000000000000)(hB:n < -400000000000000000000000000000000000000000000000000∨400000000000000000000000000000000000000000000000000<n)(h:hJ e t u d m tb k n):hJ e t u d m tb k (n+x):=by
 obtain⟨s,fU,hl,c,hc,hm,rfl⟩:=h;refine#[s,fU,hl,λj=>c j+x,λj hj=>by have:=hc j hj;lia,pI.mpr λr hr hn=>?_,Y];have hi:=pI.mp hm r hr hn;have ho:=(ar.2 r hr).2;have r1:=BF hc (i:=k) (j:=r.1.2.toNat) (by rw[adA];lia) (by rw[adA];lia);have r2:=BF hc (i:=r.1.2.toNat) (j:=k) (by rw[adA];lia) (by rw[adA];lia);rw[KN u d (by lia) (by lia)] at r1 r2;have w1:=hw r hr;generalize c r.1.2.toNat=y at hi r1 r2;generalize c k=n at hB r1 r2;have Xd:r.1.2.toNat=0∨r.1.2.toNat=1∨r.1.2.toNat=2:=by lia
 have yn:k=0∨k=1∨k=2:=by lia
 have jD:y < -300000000000000000000000000000000000000000000000001∨300000000000000000000000000000000000000000000000001<y:=by unfold tW at r1 r2;rcases Xd with e1|e1|e1<;>rcases yn with rfl|rfl|rfl<;>rw[e1] at r1 r2<;>simp at r1 r2<;>omega
 refine#[λa ha=>?_,λa ha=>?_]
 .have:=hi.1 a ha;have:=w1 a (.inl ha);lia
 .have:=hi.2 a ha;have:=w1 a (.inr ha);lia
theorem Xe{lo hi:En}(S:uo (hJ e t u d m tb k) lo hi)(ht:1<=t/\t<=3)(hu:0<=u/\u<=10000000000000000000000000000000000000000)(hd:0<=d/\d<=10000000000000000000000000000000000000000)(ar:bV e t tb)(hk:(k:Int)<t)(hw:∀ r∈tb,∀ y,r.2.1=O y∨r.2.2=O y->-300000000000000000000000000000000000000000000000000<=y/\y<=300000000000000000000000000000000000000000000000000):(∀ a,lo=O a->-400000000000000000000000000000000000000000000000000<=a/\a<=400000000000000000000000000000000000000000000000000)/\∀ a,hi=O a->-400000000000000000000000000000000000000000000000000<=a/\a<=400000000000000000000000000000000000000000000000000:=by
 refine#[λa ha=>agj λhn=>?_,λa ha=>agj λhn=>?_]
 .obtain⟨h1,h2⟩:=S.los a ha;have:=h2 _ (LX (x:=-1) (.inr rfl) ht hu hd ar hk hw (by lia) h1);lia
 .obtain⟨h1,h2⟩:=S.his a ha;have:=h2 _ (LX (x:=1) (.inl rfl) ht hu hd ar hk hw (by lia) h1);lia
end
section
theorem Xf:fj X (.builtin "len") (λxs H Q=>∃ p kvs,xs=[.ref p]/\H p=O (.dK kvs)/\Q (.int kvs.length) H):=by
 intro pins s L H xs us Q I r h;obtain⟨p,kvs,rfl,e,q⟩:=h;obtain⟨u,rfl,rx⟩:=vals1 r;cases rx;obtain⟨z,lo,xs,rel,o,es,ep,ho,hc,hdt,y,hpr,y⟩:=Jp I.ar e;have hs:es.size=kvs.length:=by rw[<- adK,hpr.length];exact (Paired.length rel).symm
 have T:s.TypeIs (.ref p) "dict" := #[o,ho,hc.1];have g:MeetsIn X.prog X.w (ae8.«dict.__len__» #[[.ref p],[]]) (λy R s=>s.heap.get? p=O o/\R (.ok (.ret (.int kvs.length s.toks))) { s with toks:=s.toks+1 }):=.of_wp λA R s ⟨ho,h⟩=>by show adi _ _ (dictSize p >>= _) _ _ s;unfold dictSize;refine acK (acK (agQ ho hdt (acQ ?_)));show adi _ _ (Builtin.Dict.pendingCount p >>= _) _ _ s;refine acK (wpAny_pendingCount_other lo (wpAny_ret_mkInt ?_));rw[Nat.add_zero,hs];exact h
 refine ahV kind_len plain_len entry_len (args_len1 _) ?_;unfold ae8.«len»;refine acK (m:=oneArg "len" _) (acQ (acK (m:=callSpecial? (.ref p) (ac0 "__len__")) (ad7 (name:=ac0 "__len__") T ajg (akB ajg T PySem.F.entry_dict_len (PySem.F.args_dict_len_1 _) g #[ho,?_]))));show adi _ _ _ _ _ { s with toks:=s.toks+1 };refine acK (aeq (acQ (acK (afW ?_))));show adi _ _ (if ((kvs.length:Nat):Int)<0 then _ else _) _ _ _;rw[if_neg (by lia)];rw[aey] at z;show adi _ _ (if ((kvs.length:Nat):Int) ≥ 2 ^ 63 then _ else _) _ _ _;rw[if_neg (by lia)];exact acK (wpAny_mkInt (acQ #[_,Y,.int kvs.length,H,I.tok _,#[_,Y],q]))
end
end Gz
namespace Gz
open PySem PySem.Spec PyProof.Rows L2 Builtin Builtin.Str
theorem Xg(m n:Nat):strSliceIndices J (O (m:Int)) 1 n=adu (min m n):=by
 unfold strSliceIndices ako;simp only[show ((1:Int) > 0)=True from eq_true (by decide),if_true,show ((1:Int)<0)=False from eq_false (by decide),if_false];have e1:(if ((m:Int)<0) then (m:Int)+n else m)=m:=if_neg (by omega);have e3:max (0:Int) (min (m:Int) (n:Int))=((min m n:Nat):Int):=by omega
 simp only[e1,e3];have e2:(if (0:Int)<((min m n:Nat):Int) then (((min m n:Nat):Int)-0+1-1) / 1 else 0).toNat=min m n:=by
  split
  .rw[ai7];omega
  .omega
 rw[e2];refine (ad9 (g:=_root_.id) λk y=>?_).trans (ami _);show ((0:Int)+1 * (k:Int)).toNat=k;omega
theorem LY:∀ (l:List Nat) (m:Nat),m<=l.length->(adu m).filterMap (λi=>l[i]?)=l.take m
 | _,0,_=>rfl
 | [],_+1,h=>absurd h (by simp)
 | a::r,m+1,h=>by
  rw[aiN,ad8];show a::_=a::r.take m;rw[agB]
  congr 1
  exact LY r m (by simpa using h)
theorem CB(x:acW)(m:Nat):(agh x J (O (m:Int))).cps.toList=x.cps.toList.take m:=by
 unfold agh;rw[Xg,str_len,adj];by_cases h:x.cps.toList.length<=m
 .rw[if_pos (by rw[akN h];simp),afN h]
 .rw[if_neg (by rw[ai3 (by omega)];intro z;rw[ad2] at z;have:=eq_of_beq z.2;omega),ai3 (by omega)];show ((adu m).filterMap (x.cps[·]?)).toArray.toList=_;have e:(λi:Nat=>x.cps[i]?)=λi:Nat=>x.cps.toList[i]?:=by funext i;rw[aeZ]
  rw[e];generalize x.cps.toList=l at h;exact LY l m (by omega)
end Gz
namespace jE
open PySem L2 Gz
local macro_rules|`(tactic|walk_at "d")=>do{let a←("seval Nat.reduceAdd Nat.reduceSub zK GD zW ou GK zI tC GC GA wD bZ Ae z6 sH wN Gm Gn tB Gr Gs Gu Gv Gw Gx Gy GB rI ir rU GN GO QO QP QQ QS QT QG QH QJ QK QL QM ite_tt ite_ff _root_.L2.start QU QV List.map_cons List.map_nil List.length_cons List.length_nil List.replicate List.nil_append List.cons_append List.getElem?_cons_zero List.getElem?_cons_succ List.set_cons_zero List.set_cons_succ Bool.not_true Bool.not_false G1 G2 Hm P7 Hn QX QY QZ Au xh I9 Av zO zN HN GH Hj A5 GJ zP R0 R6 GY GZ Aa Ab He Hc Hd Hk Ho RQ RS RT zX HP AO AS AX K7 Wa Wb Wc Wd We Wf Wg Wh Wi Wj Wk Wr Wl Wm Wn Wo Wq x6 x8 Ci Cj K9 t9 Le Lf Wu Wv Ww Wx Wy Wz WA WB WC Lc WD WE WG Lg Lh Li Lj Ll Lm Ln Lo Bj Bk JI Br SS Ju Jv J5 Qg o6 o7 cJ iO K4 UG UH Kf Kh UI Ko Kz UE WL Vy B6 WS LN LO Cr Jw Xb LU".splitOn " ").toArray.mapM fun s=>`(Lean.Parser.Tactic.simpLemma|$(Lean.mkIdent s.toName):ident);`(tactic|dsimp only[↓reduceIte,$a,*])}
local macro_rules|`(tactic|walk_at "s")=>do{let a←("seval Nat.reduceAdd Nat.reduceSub reduceCtorEq ite_tt ite_ff List.map_cons List.map_nil List.length_cons List.length_nil List.nil_append List.cons_append Option.some.injEq V.int.injEq V.bl.injEq V.ref.injEq List.cons.injEq exists_eq_left exists_eq_left' exists_and_left true_and and_true decide_eq_true_eq Nat.zero_add Nat.sub_self Nat.add_one_sub_one decide_true decide_false Bool.not_eq_true' decide_eq_false_iff_not false_and exists_false and_assoc not_false_eq_true not_true_eq_false List.append_nil Option.join_some".splitOn " ").toArray.mapM fun s=>`(Lean.Parser.Tactic.simpLemma|$(Lean.mkIdent s.toName):ident);`(tactic|simp only[↓reduceIte,$a,*])}
local macro_rules|`(tactic|walk_at "p")=>`(tactic|first | (walk_at "d"; repeat (first | walk_at "s" | walk_at "d")) | (walk_at "s"; repeat (first | walk_at "d" | walk_at "s")))
local macro_rules|`(tactic|walk_at "g")=>`(tactic|try walk_at "p")
local macro_rules|`(tactic|rfl')=>`(tactic|walk_at "g")
local macro_rules|`(tactic|walk_at "c")=>`(tactic|(refine ⟨⟨rfl, rfl, rfl, by decide +kernel, rfl, by decide +kernel, by decide +kernel⟩, fun _ _ _ _ _ _ _ _ => ?_⟩; (repeat (refine WI fun _ => ?_)); exact WJ rfl))
inductive eG(H:Hp)(v:V)(m:Mk):Prop
 | mk(t p:ac4)(_:v = .ref t)(_:H t=O (.tup [.int m.1,.ref p]))(_:H p=O (.tup [ev m.2.1,ev m.2.2]))
theorem eG.same(h:eG H v m)(s:aj H H'):eG H' v m:=let ⟨t,p,e,a,b⟩:=h;#[t,p,e,s _ _ a,s _ _ b]
def top(i:Nat):aeO:=PySem.Challenge.pw_gaze_k93_whole_strips_of_a_desk.main.body.getD i (.Pass #[0,0,0,0])
abbrev CC:aeO:=top 14
abbrev CD:aeO:=top 15
abbrev CF:aeO:=top 16
abbrev CG:aeO:=top 17
abbrev CH:aeO:=top 18
abbrev CI:aeO:=top 19
abbrev CJ:aeO:=top 20
abbrev CK:aeO:=top 21
abbrev CL:aeO:=inClass (top 25) 0
abbrev CM:aeO:=inClass (top 25) 1
abbrev CN:aeO:=inClass (top 25) 2
abbrev CO:aeO:=inClass (top 25) 3
abbrev CP:aeO:=inClass (top 25) 6
abbrev CQ:aeO:=inClass (top 25) 10
abbrev CS:aeO:=top 27
abbrev CT:aeO:=top 29
abbrev CU:aeO:=top 30
abbrev CV:aeO:=top 31
abbrev CW:aeO:=top 32
abbrev CY:aeO:=top 33
abbrev CZ:aeO:=top 34
abbrev C0:aeO:=top 35
abbrev C1:aeO:=top 36
abbrev C2:aeO:=top 37
abbrev C3:aeO:=top 39
abbrev C4:aeO:=top 40
abbrev C5:aeO:=top 41
abbrev C6:aeO:=top 42
abbrev C7:aeO:=top 43
abbrev C8:aeO:=top 45
abbrev C9:aeO:=top 46
abbrev Dc:aeO:=top 47
abbrev Dd:aeO:=top 48
abbrev De:aeO:=top 49
abbrev Df:aeO:=top 51
abbrev Dg:aeO:=top 52
abbrev Dh:aeO:=top 54
abbrev Di:aeO:=top 55
abbrev Dj:aeO:=top 56
abbrev Dk:aeO:=top 61
abbrev Dl:aeO:=top 62
abbrev Dm:aeO:=top 63
abbrev Dp:aeO:=top 64
abbrev Dq:aeO:=top 65
abbrev Dr:aeO:=top 66
abbrev Ds:aeO:=top 67
abbrev Dt:aeO:=top 98
abbrev Du:aeO:=top 99
abbrev Dv:aeO:=top 100
abbrev Dw:aeO:=top 101
abbrev Dx:aeO:=top 102
abbrev Dy:aeO:=top 103
abbrev Dz:aeO:=top 115
abbrev DA:aeO:=top 116
abbrev DB:aeO:=top 117
abbrev DC:aeO:=top 120
abbrev DD:aeO:=inClass (top 121) 0
abbrev DE:aeO:=inClass (top 121) 1
abbrev DF:aeO:=inClass (top 121) 2
abbrev DG:aeO:=inClass (top 121) 3
abbrev DH:aeO:=inClass (top 121) 4
abbrev DI:aeO:=top 123
abbrev DJ:aeO:=top 124
abbrev DK:aeO:=top 125
abbrev DL:aeO:=top 126
abbrev DM:aeO:=top 127
abbrev DN:aeO:=top 128
abbrev DO:aeO:=top 129
abbrev DP:aeO:=top 130
abbrev DQ:aeO:=top 131
abbrev DR:aeO:=top 132
abbrev DS:aeO:=top 133
abbrev DT:aeO:=top 134
abbrev DU:aeO:=top 135
abbrev DV:aeO:=top 136
abbrev DW:aeO:=top 137
abbrev DX:aeO:=top 138
abbrev DY:aeO:=top 139
abbrev DZ:aeO:=top 140
abbrev D0:aeO:=top 141
abbrev D1:aeO:=top 142
theorem D2:Sc ["lo","hi"] ["lo","hi"] CC:=by walk_at "c"
theorem D3:Sc ["one","number"] ["one","number"] CD:=by walk_at "c"
theorem uq:Sc ["one","other","lo","hi"] ["one","other"] CF:=by walk_at "c"
theorem rF:Sc ["some","whole","one"] ["some"] CG:=by walk_at "c"
theorem pJ:Sc ["some","los","his","lo","hi"] ["some"] CH:=by walk_at "c"
theorem D4:Sc ["one"] ["one"] CI:=by walk_at "c"
theorem D5:Sc ["one","later"] ["one","later"] CJ:=by walk_at "c"
theorem ur:Sc ["some","rising","one"] ["some"] CK:=by walk_at "c"
theorem D6:Sc ["self","eyes","turns","up","down","most"] ["self","eyes","turns","up","down","most"] CL:=by walk_at "c"
theorem D7:Sc ["self","eye"] ["self","eye"] CM:=by walk_at "c"
theorem D8:Sc ["self","turn"] ["self","turn"] CN:=by walk_at "c"
theorem D9:Sc ["self","eye","turn","lo","hi"] ["self","eye","turn","lo","hi"] CO:=by walk_at "c"
theorem Ea:Sc ["self"] ["self"] CP:=by walk_at "c"
theorem Eb:Sc ["self","eye","turn"] ["self","eye","turn"] CQ:=by walk_at "c"
theorem Ec:Sc ["cell"] ["cell"] CS:=by walk_at "c"
theorem uu:Sc ["one","step","lo","hi"] ["one","step"] CT:=by walk_at "c"
theorem nC:Sc ["boxes","steps","kept","turn","box","left"] ["boxes","steps"] CU:=by walk_at "c"
theorem Ed:Sc ["marks","turn"] ["marks","turn"] CV:=by walk_at "c"
theorem uv:Sc ["steps","marks","forth","backward"] ["steps","marks"] CW:=by walk_at "c"
theorem pK:Sc ["steps","marks","boxes","course","step","box"] ["steps","marks"] CY:=by walk_at "c"
theorem Ee:Sc ["one","other"] ["one","other"] CZ:=by walk_at "c"
theorem Ef:Sc ["one","by"] ["one","by"] C0:=by walk_at "c"
theorem nD:Sc ["steps","marks","tops","number","mark","turn"] ["steps","marks"] C1:=by walk_at "c"
theorem rG:Sc ["tops","marks","number","mark","top"] ["tops","marks"] C2:=by walk_at "c"
theorem Eg:Sc ["board","kind","turn"] ["board","kind","turn"] C3:=by walk_at "c"
theorem yo:Sc ["board","claim","part"] ["board","claim"] C4:=by walk_at "c"
theorem Eh:Sc ["claim","kind","turn"] ["claim","kind","turn"] C5:=by walk_at "c"
theorem yq:Sc ["board","claim","own"] ["board","claim"] C6:=by walk_at "c"
theorem Ei:Sc ["board","claim"] ["board","claim"] C7:=by walk_at "c"
theorem Ej:Sc ["board","eye"] ["board","eye"] C8:=by walk_at "c"
theorem Ek:Sc ["board","some"] ["board","some"] C9:=by walk_at "c"
theorem El:Sc ["board"] ["board"] Dc:=by walk_at "c"
theorem kH:Sc ["steps","groups","found","name","marks","tops","beside","others","pair"] ["steps","groups"] Dd:=by walk_at "c"
theorem rH:Sc ["eyes","some","eye"] ["eyes"] De:=by walk_at "c"
theorem rJ:Sc ["board","steps","asides","found"] ["board"] Df:=by walk_at "c"
theorem Em:Sc ["board","turn"] ["board","turn"] Dg:=by walk_at "c"
theorem Eo:Sc ["some","number"] ["some","number"] Dh:=by walk_at "c"
theorem yr:Sc ["turn","some","low","high","signs"] ["turn","some","low","high"] Di:=by walk_at "c"
theorem Ep:Sc ["board","low","high"] ["board","low","high"] Dj:=by walk_at "c"
theorem Er:Sc ["word"] ["word"] Dk:=by walk_at "c"
theorem yt:Sc ["word","figures"] ["word"] Dl:=by walk_at "c"
theorem Es:Sc ["word"] ["word"] Dm:=by walk_at "c"
theorem Et:Sc ["form","word"] ["form","word"] Dp:=by walk_at "c"
theorem Eu:Sc ["word"] ["word"] Dq:=by walk_at "c"
theorem Ew:Sc ["end"] ["end"] Dr:=by walk_at "c"
theorem Ex:Sc ["one"] ["one"] Ds:=by walk_at "c"
theorem Ey:Sc ["pairs","eye"] ["pairs","eye"] Dt:=by walk_at "c"
theorem Ez:Sc ["pair"] ["pair"] Du:=by walk_at "c"
theorem rK:Sc ["pairs","most","eye","others"] ["pairs","most"] Dv:=by walk_at "c"
theorem EA:Sc ["pairs","eye","most"] ["pairs","eye","most"] Dw:=by walk_at "c"
theorem nE:Sc ["pairs","most","one","other","first","second"] ["pairs","most"] Dx:=by walk_at "c"
theorem nF:Sc ["board","claim","steps","goals","marks","pairs","aside"] ["board","claim"] Dy:=by walk_at "c"
theorem yu:Sc ["row","words"] ["row"] Dz:=by walk_at "c"
theorem EB:Sc ["words"] ["words"] DA:=by walk_at "c"
theorem EC:Sc ["words"] ["words"] DB:=by walk_at "c"
theorem yw:Sc ["board","turn","one"] ["board","turn"] DC:=by walk_at "c"
theorem ED:Sc ["self"] ["self"] DD:=by walk_at "c"
theorem uw:Sc ["self","row","words","parts"] ["self","row"] DE:=by walk_at "c"
theorem EE:Sc ["self","words"] ["self","words"] DF:=by walk_at "c"
theorem EF:Sc ["self","word","parts"] ["self","word","parts"] DG:=by walk_at "c"
theorem EG:Sc ["self","word","parts"] ["self","word","parts"] DH:=by walk_at "c"
theorem EH:Sc ["_law_script","_law_k"] ["_law_script","_law_k"] DI:=by walk_at "c"
theorem EI:Sc ["_law_found"] ["_law_found"] DJ:=by walk_at "c"
theorem EJ:Sc ["_law_cell_here"] ["_law_cell_here"] DK:=by walk_at "c"
theorem EK:Sc ["_law_cell_here"] ["_law_cell_here"] DL:=by walk_at "c"
theorem rL:Sc ["_law_script","_law_at","_law_eyes","_law_most","_law_up"] ["_law_script","_law_at"] DM:=by walk_at "c"
theorem rM:Sc ["_law_script","_law_at","_law_sizes_here","_law_course_here","_law_k","_law_step"] ["_law_script","_law_at","_law_sizes_here"] DN:=by walk_at "c"
theorem md:Sc ["_law_cell_here","_law_number_here","_law_lo","_law_hi"] ["_law_cell_here","_law_number_here"] DO:=by walk_at "c"
theorem pL:Sc ["_law_script","_law_at","_law_sizes_here","_law_course_here","_law_table_here","_law_k","_law_cell_here","_law_word_here"] ["_law_script","_law_at","_law_sizes_here","_law_course_here"] DP:=by walk_at "c"
theorem EL:Sc ["_law_spot","_law_sizes_here","_law_table_here","_law_goals","_law_aside"] ["_law_spot","_law_sizes_here","_law_table_here","_law_goals","_law_aside"] DQ:=by walk_at "c"
theorem EM:Sc ["_law_sizes_here","_law_one","_law_other"] ["_law_sizes_here","_law_one","_law_other"] DR:=by walk_at "c"
theorem nG:Sc ["_law_paper","_law_sizes_here","_law_table_here","_law_goals","_law_aside","_law_one","_law_other","_law_side","_law_eye"] ["_law_paper","_law_sizes_here","_law_table_here","_law_goals","_law_aside"] DS:=by walk_at "c"
theorem EN:Sc ["_law_one","_law_number_here"] ["_law_one","_law_number_here"] DT:=by walk_at "c"
theorem rN:Sc ["_law_course_here","_law_sizes_here","_law_table_here","_law_goals","_law_k","_law_wrong","_law_spot"] ["_law_course_here","_law_sizes_here","_law_table_here","_law_goals"] DU:=by walk_at "c"
theorem rO:Sc ["_law_board","_law_sizes_here","_law_table_here","_law_claim","_law_due","_law_goals","_law_part","_law_found"] ["_law_board","_law_sizes_here","_law_table_here","_law_claim","_law_due"] DV:=by walk_at "c"
theorem ux:Sc ["_law_word_here","_law_far","_law_figures"] ["_law_word_here","_law_far"] DW:=by walk_at "c"
theorem jF:Sc ["_law_found","_law_board","_law_sizes_here","_law_table_here","_law_turn","_law_words","_law_lo","_law_hi","_law_wanting","_law_one","_law_due"] ["_law_found","_law_board","_law_sizes_here","_law_table_here","_law_turn"] DX:=by walk_at "c"
theorem nH:Sc ["_law_found","_law_board","_law_sizes_here","_law_table_here","_law_low","_law_high","_law_rows","_law_turn","_law_row","_law_k","_law_claim"] ["_law_found","_law_board","_law_sizes_here","_law_table_here","_law_low","_law_high"] DY:=by walk_at "c"
theorem pM:Sc ["_law_desk","_law_board","_law_sizes_here","_law_table_here","_law_rows","_law_spot","_law_words","_law_end"] ["_law_desk","_law_board","_law_sizes_here","_law_table_here"] DZ:=by walk_at "c"
theorem pN:Sc ["_law_script","_law_desk","_law_sizes_here","_law_table_here","_law_board","_law_turn"] ["_law_script","_law_desk"] D0:=by walk_at "c"
theorem gG:Sc ["_law_script","_law_sizes_here","_law_course_here","_law_table_here","_law_desk","_law_board","_law_cell_here","_law_low","_law_high","_law_k","_law_turn","_law_found"] ["_law_script"] D1:=by walk_at "c"
noncomputable def uy:List (Key × V):=[(.inr "board",.str "NNNNN"),(.inr "tell",.str "NNEE"),(.inr "hush",.str "NN"),(.inr "rule",.str "WT"),(.inr "drop",.str "W"),(.inr "strip",.str "N"),(.inr "ask",.str "W"),(.inr "why",.str "W"),(.inr "false",.str "N"),(.inr "draw",.str "NN")]
structure LZ(w:aes)(K:acM)(mg:Str->Option acU)(x:Str)(kvs:List (Key × V)) where
 a:ac4
 m:mg x=O (.ref a)
 d:∀ P:adP,Cs P w K a kvs
set_option genInjectivity false
set_option genSizeOf false
structure Tx(w:aes)(K:acM)(mg:Str->Option acU) where
 uz:Fn K mg "is_crossed" CC (aM D2)
 uA:Fn K mg "holds" CD (aM D3)
 uB:Fn K mg "meet" CF (aM uq)
 uC:Fn K mg "common" CG (aM rF)
 uD:Fn K mg "hull" CH (aM pJ)
 pO:Fn K mg "by_lo" CI (aM D4)
 uE:Fn K mg "leaves_gap" CJ (aM D5)
 uF:Fn K mg "gathered" CK (aM ur)
 me:Fm K "__init__" "Board.__init__" CL (aM D6)
 nI:Fm K "has_eye" "Board.has_eye" CM (aM D7)
 iY:Fm K "has_turn" "Board.has_turn" CN (aM D8)
 mf:Fm K "tell" "Board.tell" CO (aM D9)
 mh:Fm K "tellings" "Board.tellings" CP (aM Ea)
 nJ:Fm K "check_spot" "Board.check_spot" CQ (aM Eb)
 uG:Fn K mg "number_in" CS (aM Ec)
 uH:Fn K mg "moved" CT (aM uu)
 uI:Fn K mg "narrowed" CU (aM nC)
 uJ:Fn K mg "stretches_at" CV (aM Ed)
 uK:Fn K mg "tube" CW (aM uv)
 uL:Fn K mg "course_in" CY (aM pK)
 uM:Fn K mg "lesser" CZ (aM Ee)
 uN:Fn K mg "lifted" C0 (aM Ef)
 uO:Fn K mg "ceilings" C1 (aM nD)
 uP:Fn K mg "crossing" C2 (aM rG)
 uQ:Fn K mg "has_part" C3 (aM Eg)
 jG:Fn K mg "check_claim" C4 (aM yo)
 uR:Fn K mg "stretches_of" C5 (aM Eh)
 nK:Fn K mg "paces" C6 (aM yq)
 nM:Fn K mg "wanted" C7 (aM Ei)
 uS:Fn K mg "marks_of" C8 (aM Ej)
 uT:Fn K mg "marks_without" C9 (aM Ek)
 uU:Fn K mg "groups_of" Dc (aM El)
 uV:Fn K mg "clashes" Dd (aM kH)
 uW:Fn K mg "choices" De (aM rH)
 uX:Fn K mg "tubes" Df (aM rJ)
 nN:Fn K mg "places" Dg (aM Em)
 uY:Fn K mg "sign_of" Dh (aM Eo)
 uZ:Fn K mg "row_of" Di (aM yr)
 nO:Fn K mg "drawing" Dj (aM Ep)
 vc:Fn K mg "is_figures" Dk (aM Er)
 vd:Fn K mg "is_number" Dl (aM yt)
 ve:Fn K mg "is_end" Dm (aM Es)
 vg:Fn K mg "is_formed" Dp (aM Et)
 vh:Fn K mg "end_of" Dq (aM Eu)
 vk:Fn K mg "shown_end" Dr (aM Ew)
 vm:Fn K mg "shown_ends" Ds (aM Ex)
 jH:Fn K mg "without" Dt (aM Ey)
 nP:Fn K mg "eyes_of" Du (aM Ez)
 jI:Fn K mg "put_aside" Dv (aM rK)
 iZ:Fn K mg "branch" Dw (aM EA)
 i4:Fn K mg "paper" Dx (aM nE)
 x_ask:Fn K mg "ask" Dy (aM nF)
 vo:Fn K mg "cut" Dz (aM yu)
 nQ:Fn K mg "check_row" DA (aM EB)
 vq:Fn K mg "parts_of" DB (aM EC)
 nR:Fn K mg "strip_text" DC (aM yw)
 pP:Fm K "__init__" "Desk.__init__" DD (aM ED)
 jJ:Fm K "say" "Desk.say" DE (aM uw)
 nT:Fm K "check_names" "Desk.check_names" DF (aM EE)
 nU:Fm K "carry_out" "Desk.carry_out" DG (aM EF)
 nV:Fm K "answer" "Desk.answer" DH (aM EG)
 vt:Fn K mg "_law_cell" DI (aM EH)
 vw:Fn K mg "_law_whole" DJ (aM EI)
 vx:Fn K mg "_law_number" DK (aM EJ)
 vy:Fn K mg "_law_pace" DL (aM EK)
 vz:Fn K mg "_law_sizes" DM (aM rL)
 vA:Fn K mg "_law_course" DN (aM rM)
 vB:Fn K mg "_law_word" DO (aM md)
 vC:Fn K mg "_law_table" DP (aM pL)
 jK:Fn K mg "_law_mark" DQ (aM EL)
 nW:Fn K mg "_law_rise" DR (aM EM)
 jL:Fn K mg "_law_refutes" DS (aM nG)
 vD:Fn K mg "_law_within" DT (aM EN)
 vE:Fn K mg "_law_fitting" DU (aM rN)
 vF:Fn K mg "_law_answer" DV (aM rO)
 vG:Fn K mg "_law_end_of" DW (aM ux)
 vH:Fn K mg "_law_strip" DX (aM jF)
 vI:Fn K mg "_law_drawn" DY (aM nH)
 nX:Fn K mg "_law_told" DZ (aM pM)
 vJ:Fn K mg "_law_next_day" D0 (aM pN)
 kI:Fn K mg "law" D1 (aM gG)
 vK:mg "all" = J
 Xh:mg "any" = J
 Xi:mg "bool" = J
 yy:mg "enumerate" = J
 EO:mg "int" = J
 mi:mg "isinstance" = J
 di:mg "len" = J
 yz:mg "list" = J
 L0:mg "max" = J
 yA:mg "min" = J
 fc:mg "range" = J
 Xj:mg "reversed" = J
 Xk:mg "set" = J
 ER:mg "sorted" = J
 ia:mg "str" = J
 ES:mg "tuple" = J
 ET:mg "zip" = J
 yB:ac4
 acq:mg "GazeError" = O (.ref yB)
 pQ:ac4
 Xl:mg "NoStretch" = O (.ref pQ)
 nY:ac4
 yC:mg "NoBoard" = O (.ref nY)
 nZ:ac4
 L6:mg "NoTelling" = O (.ref nZ)
 jM:ac4
 L8:mg "NoClaim" = O (.ref jM)
 yD:ac4
 acr:mg "NoEvent" = O (.ref yD)
 yE:ac4
 acs:mg "TooMany" = O (.ref yE)
 yF:ac4
 acu:mg "NoRule" = O (.ref yF)
 yG:ac4
 acv:mg "NoAlarm" = O (.ref yG)
 pR:ac4
 EU:mg "NoRow" = O (.ref pR)
 rP:ac4
 L9:mg "NoName" = O (.ref rP)
 aN:ac4
 EV:mg "Board" = O (.ref aN)
 yH:ac4
 acw:mg "Event" = O (.ref yH)
 yI:ac4
 acx:mg "Spanned" = O (.ref yI)
 yJ:ac4
 acy:mg "Stayed" = O (.ref yJ)
 yK:ac4
 acz:mg "Over" = O (.ref yK)
 yL:ac4
 acA:mg "Under" = O (.ref yL)
 yM:ac4
 acB:mg "Rose" = O (.ref yM)
 yN:ac4
 acC:mg "Paced" = O (.ref yN)
 yO:ac4
 acD:mg "Turned" = O (.ref yO)
 yP:ac4
 acE:mg "Paired" = O (.ref yP)
 yQ:ac4
 acF:mg "Both" = O (.ref yQ)
 yS:ac4
 acG:mg "Either" = O (.ref yS)
 yT:ac4
 acH:mg "Nay" = O (.ref yT)
 yU:ac4
 acI:mg "Lying" = O (.ref yU)
 bQ:ac4
 Xm:mg "Desk" = O (.ref bQ)
 bY:fq K aN
 rQ:fO K aN "eyes"
 pS:fO K aN "turns"
 yV:fO K aN "up"
 yW:fO K aN "down"
 rR:fO K aN "most"
 rS:fO K aN "told"
 vL:Mk K aN me.a
 Xn:Meth K aN "has_eye" nI.a
 vM:Meth K aN "has_turn" iY.a
 Ma:Meth K aN "tell" mf.a
 Mb:Meth K aN "tellings" mh.a
 Xo:Meth K aN "check_spot" nJ.a
 fZ:fq K bQ
 n0:fO K bQ "board"
 EW:fO K bQ "rules"
 EX:Mk K bQ pP.a
 yX:Meth K bQ "say" jJ.a
 Xp:Meth K bQ "check_names" nT.a
 Xq:Meth K bQ "carry_out" nU.a
 Xr:Meth K bQ "answer" nV.a
 rT:XC K nY
 yY:XC K nZ
 yZ:XC K jM
 EY:XC K pQ
 vN:XC K pR
 y0:XC K rP
 Xs:∃ t,mg "EYES_AT_MOST" = O (.int 7 t)
 Xt:∃ t,mg "TURNS_AT_MOST" = O (.int 12 t)
 Xu:∃ t,mg "FIGURES_AT_MOST" = O (.int 60 t)
 EZ:∃ t,mg "OPEN_END" = O (.str "*" t)
 Xv:∃ t,mg "FIGURES" = O (.str "0123456789" t)
 formd:LZ w K mg "FORMS_desk" uy
 needn:Cy K mg "NEED_NO_BOARD" ["board","rule","drop"]
 needr:Cy K mg "NEED_A_RULE" ["drop","ask","why"]
set_option genInjectivity true
set_option genSizeOf true
inductive pU(K:acM)(vs:List V)(H:Hp)(Q:VK)(aT:XK):Prop
 | mk(a:ac4)(ns:List Int)(_:vs=[.ref a])(_:ah K H a (ns.map V.int))(_:Jj ns)(_:∀ H',Q (.bl true) H')
def Mc(c:adP × aes × acM × (Str->Option acU) × ae7):Prop:=∃ T:Tx c.2.1 c.2.2.1 c.2.2.2.1,¬ Ok c.1 c.2.1 c.2.2.2.2 24 T.kI (pU c.2.2.1)
noncomputable def vO:adP × aes × acM × (Str->Option acU) × ae7:=@Classical.epsilon _ #[(default,#[λy y=>0,{strHash:=λy=>0,shareClass:=λy=>0,mergeTok:=id,idOf:=λy=>0,idOfShared:=λy y=>0,followText:=λy=>false,idOfImm:=λy=>0}],[],λy=>J,default)] Mc
@[irreducible] noncomputable def P:adP:=vO.1
@[irreducible] noncomputable def w:aes:=vO.2.1
@[irreducible] noncomputable def K:acM:=vO.2.2.1
@[irreducible] noncomputable def mg:Str->Option acU:=vO.2.2.2.1
@[irreducible] noncomputable def base:ae7:=vO.2.2.2.2
theorem Xw(h:∀ T:Tx w K mg,Ok P w base 24 T.kI (pU K)){P:adP}{w:aes}{K:acM}{mg:Str->Option acU}{base:ae7}(T:Tx w K mg):Ok P w base 24 T.kI (pU K):=Classical.byContradiction λz=>by obtain⟨T,n⟩:=Classical.epsilon_spec (p:=Mc) #[(P,w,K,mg,base),T,z];unfold jE.P jE.w jE.K jE.mg jE.base at h;exact n (h T)
abbrev aH:=Tx w K mg
abbrev aR(k:Nat){x:Str}{st:aeO}{ps:List Str}(F:Fn K mg x st ps)(sp:Sp):Prop:=Ok P w base k F sp
abbrev jN(k:Nat){x q:Str}{st:aeO}{ps:List Str}(F:Fm K x q st ps)(sp:Sp):Prop:=Om P w mg base k F sp
section
seal L2.PE L2.PS L2.aV L2.PA
inductive Xx(vs:List V)(H:Hp)(Q:VK)(aT:XK):Prop
 | mk(v:V)(_:vs=[v])(_:(v = .non ∨ ∃ i,v = .int i))(_:Q (.bl (isWhole v)) H)
theorem E1(T:aH):aR 1 T.vw Xx:=by
 refine ba EI ?_;rintro y y y y y y y y y ⟨v,rfl,hv,q⟩;refine#[_,(ak (aA (iK (bA lb (by rfl) T.mi k9 (ae (aa 0) (ae (kX (v:=.ty "int") Y T.EO An Y) af))) (gf (yb (bA lb (by rfl) T.mi k9 (ae (aa 0) (ae (kX (v:=.ty "bool") Y T.Xi QE Y) af)))))))),?_];rcases hv with rfl|⟨i,rfl⟩
 .rfl';exact q
 .rfl';exact q
inductive Xy(vs:List V)(H:Hp)(Q:VK)(aT:XK):Prop
 | mk(a b:En)(_:vs=[ev a,ev b])(_:Q (.bl (aY a b)) H)
theorem y7(T:aH):aR 1 T.uz Xy:=by
 refine ba D2 ?_;rintro z z z z z z z z z ⟨a,b,rfl,q⟩;refine#[_,(ak (aA (iK (qu (su (aa 0))) (iK (qu (su (aa 1))) (gf (fN (pw wJ) (aa 0) (aa 1) (dW _))))))),?_];rcases a with z|x
 .rfl';exact q
 rcases b with z|y
 .rfl';exact q
 rfl';exact q
inductive Xz(vs:List V)(H:Hp)(Q:VK)(aT:XK):Prop
 | mk(v:V)(a b:En)(n:Int)(_:vs=[v,.int n])(_:aO H v a b)(_:Q (.bl (hold a b n)) H)
theorem XA(T:aH):aR 2 T.uA Xz:=by
 refine ba D3 ?_;rintro y y y y y y y y hr ⟨v,a,b,n,rfl,⟨p,rfl,hp⟩,q⟩;refine#[_,(ak (aA (iK (yb (aG (y7 T) hr (ae (ay (aa 0) ag) (ae (aa 1) af)))) (gf (yb (aG (y7 T) hr (ae (aa 1) (ae (ay (aa 0) ag) af)))))))),?_];rfl';refine aB (au.of hp) Y #[a,O n,Y,?_];unfold hold at q;rfl';cases hc:aY a (O n) with
 | true =>
  rw[hc] at q;rfl';exact q
 | false =>
  rw[hc] at q;rfl';refine aB (au.of hp) Y #[O n,b,Y,?_];rfl';exact q
inductive XB(vs:List V)(H:Hp)(Q:VK)(aT:XK):Prop
 | mk(v u:V)(a b c d:En)(_:vs=[v,u])(_:aO H v a b)(_:aO H u c d)(_:∀ x H',aj H H'->Ja H' x (eU a c) (eV b d)->Q x H')
theorem E2(T:aH):aR 2 T.uB XB:=by
 refine ba uq ?_;rintro y y y y H y Q y hr ⟨v,u,a,b,c,d,rfl,⟨p,rfl,hp⟩,⟨r,rfl,bG⟩,q⟩;refine#[_,(aq (aP 2 uq.nd (RE Y Y T.L0 (dC (cO [] []) Y (qx (bf (ae (ay (aa 0) ag) (ae (ay (aa 1) ag) af)))) (λC s2 H2 ex pn=>#[(kh (iJ (aa 0))),(aa 0)])) bE)) (aq (aP 3 uq.nd (RH Y Y T.yA (dC (cO [] []) Y (qx (bf (ae (ay (aa 0) ag) (ae (ay (aa 1) ag) af)))) (λC s2 H2 ex pn=>#[(kh (iJ (aa 0))),(aa 0)])) bE)) (aq (aE (cf (aG (y7 T) hr (ae (aa 2) (ae (aa 3) af)))) (ak (aA bE)) aI) (ak (aA (bf (ae (aa 2) (ae (aa 3) af)))))))),?_];rfl';refine bX hp (bX bG ?_);rfl';refine#[bg,λt ht=>#[#[_,au.of ao],Jb ao (λx H Q h=>?_) (λx H Q h=>?_) λl hl=>?_]]
 .rfl';exact K6 (Q:=λk=>Q k H) h
 .rfl';exact h
 refine#[l,Y,nums a c,ah.of ao,?_];rw[Sn];have s2:=(aw (o:=.tup [ev a,ev c]) ht).trans (aw (o:=.lst ((nums a c).map V.int)) hl);generalize upd (upd H t (.tup [ev a,ev c])) l (.lst ((nums a c).map V.int))=H2 at s2 ⊢;refine bX (s2 _ _ hp) (bX (s2 _ _ bG) ?_);rfl';refine#[bg,λt' XD=>#[#[_,au.of ao],Jb ao (λx H Q h=>?_) (λx H Q h=>?_) λl' B5=>?_]]
 .rfl';exact K6 (Q:=λk=>Q k H) h
 .rfl';exact h
 refine#[l',Y,nums b d,ah.of ao,?_];rw[So];have s3:=s2.trans ((aw (o:=.tup [ev b,ev d]) XD).trans (aw (o:=.lst ((nums b d).map V.int)) B5));generalize upd (upd H2 t' (.tup [ev b,ev d])) l' (.lst ((nums b d).map V.int))=H3 at s3 ⊢;refine#[_,_,Y,?_];cases hc:aY (eU a c) (eV b d) with
 | true =>
  rfl';exact q _ _ s3 #[λy=>rfl,λz=>nomatch hc.symm.trans z]
 | false =>
  rfl';exact#[bg,λp' fv=>q _ _ (s3.trans (aw fv)) #[λz=>(nomatch hc.symm.trans z),λy=>aO.new]]
inductive XE(vs:List V)(H:Hp)(Q:VK)(aT:XK):Prop
 | mk(a:ac4)(xs:List V)(as:List S2)(_:vs=[.ref a])(_:ah K H a xs)(_:xs.length<=adh)(_:aX H xs as)(_:∀ v H',aj H H'->xB H' v as->Q v H')
theorem Md(T:aH):aR 1 T.uD XE:=by
 refine ba pJ ?_;rintro _ _ _ s H _ Q _ _ ⟨a,xs,as,rfl,hS,hz,hs,q⟩;refine#[_,(aq (aE (bW (bA dk (by rfl) T.di dh (ae (aa 0) af)) ag) (ak (aA bE)) aI) (aq (oJ (i:=1) (cO [] []) Y pJ.nd Y Y (cT (aa 0)) (λC s2 H2 ex pn=>#[dt,(eF (K:=K) (aa 0) ag)])) (aq (oJ (i:=2) (cO [] []) Y pJ.nd Y Y (cT (aa 0)) (λC s2 H2 ex pn=>#[dt,(eF (K:=K) (aa 0) ag)])) (aq (aP 3 pJ.nd (gO (gk sM bE (aa 1) (by with_unfolding_all rfl)) bE (bA (RI Y) (by rfl) T.yA wY (ae (aa 1) af)))) (aq (aP 4 pJ.nd (gO (gk sM bE (aa 2) (by with_unfolding_all rfl)) bE (bA (RF Y) (by rfl) T.L0 Hy (ae (aa 2) af)))) (ak (aA (bf (ae (aa 3) (ae (aa 4) af)))))))))),?_];have hl:=hs.len;rfl';refine#[_,eQ hS,?_];split
 .rename_i h0;have e:as=[]:=aeJ.mp (by lia);exact q _ _ (aj.refl H) #[λ_=>rfl,λz=>absurd e z]
 rename_i h0;have bp:as≠[]:=λz=>h0 (by rw[z] at hl;simp[hl]);refine#[#[_,hS],cM gU hz (lq (p:=λ_=>true) (f:=xt H) hS (λx _ Q h=>?_) (λx hx _ Q h=>?_) ?_)]
 .rfl';exact h
 .rfl';obtain⟨t,_,ht⟩:=hs.mem hx;have e:=ht.fst;obtain⟨p,rfl,hp⟩:=ht;rw[e] at h;exact aB (au.of hp) Y h
 rw[adl,filter_all,hs.fst];intro l1 h1;have s1:=aw (o:=.lst (as.map λs=>ev s.1)) h1;have L1:upd H l1 (.lst (as.map λs=>ev s.1)) l1=O (.lst ((as.map (·.1)).map ev)):=by rw[ao,aei];rfl
 generalize upd H l1 (.lst (as.map λs=>ev s.1))=H1 at s1 L1 ⊢;have tU:=hs.same s1;rfl';refine#[#[_,s1.seq hS],cM gU hz (lq (p:=λ_=>true) (f:=xu H1) (s1.seq hS) (λx _ Q h=>?_) (λx hx _ Q h=>?_) ?_)]
 .rfl';exact h
 .rfl';obtain⟨t,_,ht⟩:=tU.mem hx;have e:=ht.snd;obtain⟨p,rfl,hp⟩:=ht;rw[e] at h;exact aB (au.of hp) Y h
 rw[adl,filter_all,tU.snd];intro l2 h2;have s2:=aw (o:=.lst (as.map λs=>ev s.2)) h2;have L2:upd H1 l2 (.lst (as.map λs=>ev s.2)) l2=O (.lst ((as.map (·.2)).map ev)):=by rw[ao,aei];rfl
 generalize upd H1 l2 (.lst (as.map λs=>ev s.2))=H2 at s2 L2 ⊢;have Me:=s2 _ _ L1;have vP:=s1.trans s2;have fin:∀ lo hi,iD (as.map (·.1)) lo->ju (as.map (·.2)) hi->2<=adh/\∀ p,H2 p=J->Q (.ref p) (upd H2 p (.tup [ev lo,ev hi])):=λlo hi a b =>
  #[bg,λp hp=>q _ _ (vP.trans (aw hp)) #[λz=>absurd z bp,λ_=>#[lo,hi,aO.new,a,b]]]
 have n1:as.map (·.1)≠[]:=by simpa using bp
 have n2:as.map (·.2)≠[]:=by simpa using bp
 rfl';refine#[l1,_,Y,.inl (ah.of Me),Y,Bp _,?_];rw[if_neg (by decide),Bo];rfl';have part:∀ lo,iD (as.map (·.1)) lo->wU K false .non (.ref l2) H2 (λz H1=>∃ k,z = .bl k/\if k=true then 2<=adh/\∀ p,H1 p=J->Q (.ref p) (upd H1 p (.tup [ev lo,.non])) else ∃ x,ah K H1 l2 (x.map V.int)/\x≠[]/\2<=adh/\∀ p,H1 p=J->Q (.ref p) (upd H1 p (.tup [ev lo,.int (km x)]))):=λlo Mf=>by
  refine#[l2,_,Y,.inl (ah.of L2),Y,Bp _,_,Y,?_];simp only[adn,↓reduceIte];rw[Bo];by_cases hn:(J:En)∈as.map (·.2)
  .rw[decide_eq_true hn,if_pos Y];exact fin lo J Mf (xA hn)
  .rw[decide_eq_false hn,if_neg (by decide)];exact#[_,ah.of (by rw[L2,Bq hn]),Jf hn n2,fin lo _ Mf (Jh hn n2)]
 split
 .rename_i hn;exact part J (xw hn)
 .rename_i hn;exact#[_,ah.of (by rw[Me,Bq hn]),Jf hn n1,part _ (Jg hn n1)]
inductive Mg(vs:List V)(H:Hp)(Q:VK)(aT:XK):Prop
 | mk(v:V)(s:S2)(_:vs=[v])(_:aO H v s.1 s.2)(_:∀ p,H p=J->Q (.ref p) (upd H p (.tup ((dv s.1).map V.int))))
theorem XF(T:aH):aR 1 T.pO Mg:=by
 refine ba D4 ?_;rintro y y y y y y y y y ⟨v,⟨a,b⟩,rfl,⟨p,rfl,hp⟩,q⟩;refine#[_,(aq (aE (c8 (ay (aa 0) ag)) (ak (aA (bf (ae ag (ae ag af))))) aI) (ak (aA (bf (ae ag (ae (ay (aa 0) ag) af)))))),?_];rfl';refine bX hp ?_;rcases a with y|x
 .rfl';exact#[bg,q]
 .rfl';refine bX hp ?_;rfl';exact#[bg,q]
theorem Mh:∀ {xs:List V} {as:List S2} {ks:List V} {kis:List (List Int)} {H:Hp} {Q:List V->Hp->Prop},aX H xs as->cF K H ks kis->(∀ ko H',aj H H'->cF K H' ko (kis++as.map λs=>dv s.1)->Q ko H')->oR Mg xs ks H Q
 | [],[],ks,kis,H,Q,_,hk,q=>q ks H (aj.refl H) (by rw[ag0,aiX];exact hk)
 | x::xs,s::as,ks,kis,H,Q,hs,hk,q=>by
  refine#[x,s,Y,hs.1,λp hp=>?_];have s1:=aw (o:=.tup ((dv s.1).map V.int)) hp;refine Mh (hs.2.same s1) (kis:=kis++[dv s.1]) (cF.snoc (au.of ao) ?_ (hk.same s1)) λko H' s' gW=>q ko H' (s1.trans s') ?_
  .rcases s.1 with v|y<;>exact λz=>nomatch z
  .rw[adg];rwa [aet] at gW
 | [],_::_,_,_,_,_,h,_,_=>h.elim
 | _::_,[],_,_,_,_,h,_,_=>h.elim
inductive XG(vs:List V)(H:Hp)(Q:VK)(aT:XK):Prop
 | mk(v u:V)(s t:S2)(_:vs=[v,u])(_:aO H v s.1 s.2)(_:aO H u t.1 t.2)(_:Q (.bl (gap s t)) H)
theorem XH(T:aH):aR 1 T.uE XG:=by
 refine ba D5 ?_;rintro m m m m m m m m m ⟨v,u,⟨a,b⟩,⟨c,d⟩,rfl,⟨p,rfl,hp⟩,⟨r,rfl,bG⟩,q⟩;refine#[_,(ak (aA (iK (qu (su (ay (aa 0) ag))) (iK (qu (su (ay (aa 1) ag))) (gf (fN (pw wJ) (ay (aa 1) ag) (az bD (ay (aa 0) ag) ag) (dW _))))))),?_];rfl';refine bX hp ?_;rcases b with m|y
 .rfl';exact q
 .rfl';refine bX bG ?_;rcases c with m|z
  .rfl';exact q
  .rfl';refine bX bG (bX hp ?_);rfl';exact q
inductive Mi(H:Hp)(a r l:ac4)(zs:List V)(ss:List S2)(i:Nat)(L:St)(H1:Hp):Prop
 | mk(ys:List V)(e:Option V)(_:L=[O (.ref a),O (.ref r),e])(_:aj H H1)(_:H1 r=O (.lst ys))(_:aX H1 ys (iU ((ss.take i).foldl eW J)))(_:ah K H1 l zs)(_:aX H1 zs ss)(_:ys.length<=i)
inductive XI(vs:List V)(H:Hp)(Q:VK)(aT:XK):Prop
 | mk(a:ac4)(xs:List V)(as:List S2)(_:vs=[.ref a])(_:ah K H a xs)(_:xs.length<64)(_:aX H xs as)(_:∀ l ys H',aj H H'->H l=J->H' l=O (.lst ys)->aX H' ys (m6 as)->Q (.ref l) H')
theorem XJ(T:aH):aR 4 T.uF XI:=by
 refine ba ur ?_;rintro y y y s H y y y hr ⟨a,xs,as,rfl,hS,hz,hs,q⟩;refine#[_,(aq (aP 1 ur.nd (cK af)) (aq (cU adE Y (cT (Sj (XF T) (λy y y y y z=>HD z) hr.m T.pO.b Y T.pO.m Y T.ER (aa 0))) (cp 2 ur.nd) (ak (aE (PW.pt (dj (bW (bA dk (by rfl) T.di dh (ae (aa 1) af)) ag) (fi (cf (aG (XH T) hr (ae (ay (aa 1) (eO fb ag)) (ae (aa 2) af))))))) (ak (fJ (dJ ad0 aee aef mQ (aa 1) (ae (aa 2) af)))) (ak (sC (aG (Md T) hr (ae (cK (ae (ay (aa 1) (eO fb ag)) (ae (aa 2) af))) af)) (sA (aa 1) (eO fb ag) set_list)))))) (ak (aA (aa 1))))),?_];rfl';refine#[by decide,λr bG=>?_];have s1:=aw (o:=.lst []) bG;have R1:upd H r (.lst []) r=O (.lst []):=ao;generalize upd H r (.lst [])=H1 at s1 R1 ⊢;refine#[a,xs,Y,s1.seq hS,hz,Mh (hs.same s1) (ks:=[]) (kis:=[]) trivial λks H2 s2 hk=>#[_,hk,λl hl=>?_]];rw[adl];have s3:=(s1.trans s2).trans (aw (o:=.lst (bI (as.map λs=>dv s.1) .non xs)) hl);have L3:upd H2 l (.lst (bI (as.map λs=>dv s.1) .non xs)) l=O (.lst (bI (as.map λs=>dv s.1) .non xs)):=ao;have R3:=aw (o:=.lst (bI (as.map λs=>dv s.1) .non xs)) hl _ _ (s2 _ _ R1);have Z3:=(hs.same s3).sort (kis:=as.map λs=>dv s.1);generalize upd H2 l (.lst (bI (as.map λs=>dv s.1) .non xs))=H3 at s3 L3 R3 Z3 ⊢;have zl:(bI (as.map λs=>dv s.1) .non xs).length<64:=by rw[qL];exact hz
 have rl:r≠l:=λz=>by rw[z] at R1;rw[s2 _ _ R1] at hl;cases hl
 unfold m6 at q;generalize bI (as.map λs=>dv s.1) .non xs=zs at L3 Z3 zl ⊢;generalize bI (as.map λs=>dv s.1) (J,J) as=ss at Z3 q;rfl';refine#[#[_,ah.of L3],j8 (xs:=zs) (Mi H a r l zs ss) #[[],J,Y,s3,R3,trivial,ah.of L3,Z3,acS _] ?_ ?_ ?_]
 .rintro i L H4 y ⟨y,y,y,y,y,y,h,y⟩;exact h
 .rintro i x L H4 hx ⟨ys,e,rfl,s4,R4,Y4,L4,Z4,hy⟩;obtain⟨s,es,hsx⟩:=Z4.get hx;have hi:i<zs.length:=(acX.mp hx).1;have tk:(ss.take (i+1)).foldl eW J=eW ((ss.take i).foldl eW J) s:=by rw[aeh,es,aia];rfl
  have XM:∀ o,ah K (upd H4 r o) l zs:=λo=>by
   rcases L4 with (h|⟨z,h⟩)|h
   .exact .inl (.inl (by rw[aJ (adR rl)];exact h))
   .exact .inl (.inr #[z,by rw[aJ (adR rl)];exact h])
   .exact .inr h
  have app:∀ R,eW ((ss.take i).foldl eW J) s=R->aX H4 (ys++[x]) (iU R)->sN K "list" (.ref r) H4/\∃ E3,H4 r=O (.lst E3)/\E3.length<adh/\Mi H a r l zs ss (i+1) [O (.ref a),O (.ref r),O x] (upd H4 r (.lst (E3++[x]))):=λR eR hY=>by
   refine#[.inl #[Y,_,ah.of R4],ys,R4,adS hy (adm (by lia:i<64) (by decide)),ys++[x],_,Y,j9 bG s4,ao,?_,XM _,aX.put R4 Z4,?_]
   .rw[tk,eR];exact aX.put R4 hY
   .rw[ac7,adb];lia
  rfl';cases hR:(ss.take i).foldl eW J with
  | none =>
   rw[hR] at Y4 app;have e0:ys=[]:=aeJ.mp (by have:=Y4.len;simpa [iU] using this);refine#[_,eQ (ah.of R4),?_];rw[if_pos (by rw[e0];rfl)];refine app _ Y ?_;rw[e0];exact#[hsx,trivial]
  | some ip =>
   obtain⟨is,p⟩:=ip;rw[hR] at Y4 app;obtain⟨ws,v,e0,W4,hv⟩:=aX.snoc_inv Y4;have il:dq ys (-1)=O v:=by rw[e0];exact wO ws v
   refine#[_,eQ (ah.of R4),?_];rw[if_neg (by rw[e0,ac7,adb];lia)];refine aU (ah.of R4) il #[v,x,p,s,Y,hv,hsx,?_];cases hg:gap p s with
   | true =>
    rfl';refine app _ (by simp only[eW];rw[if_pos hg]) ?_;exact aX.app Y4 #[hsx,trivial]
   | false =>
    rfl';refine aU (ah.of R4) il #[bg,λm hm=>?_];have s5:=aw (o:=.lst [v,x]) hm;refine#[m,[v,x],[p,s],Y,ah.of ao,bg,#[hv.same s5,hsx.same s5,trivial],λw H5 s6 hw=>?_];have s7:=s5.trans s6;have R5:=s7 _ _ R4;rfl';refine#[ys,R5,ys.length-1,?_,ws++[w],_,Y,j9 bG (s4.trans s7),?_,?_,?_,aX.put R5 (Z4.same s7),?_]
    .unfold iy;rw[if_neg (by decide),if_pos (by rw[e0,ac7,adb];lia)]
     congr 1
     lia
    .rw[ao,e0,ac7,adb,ahM,List.set_append_right _ _ (acS _),ahK];rfl
    .rw[tk,hR];simp only[eW];rw[if_neg (by rw[hg];decide)];exact aX.put R5 (aX.app (W4.same s7) #[hw.two,trivial])
    .rcases s7.seq L4 with (h|⟨z,h⟩)|h
     .exact .inl (.inl (by rw[aJ (adR rl)];exact h))
     .exact .inl (.inr #[z,by rw[aJ (adR rl)];exact h])
     .exact .inr h
    .rw[ac7,adb];rw[e0,ac7,adb] at hy;lia
 .rintro L H4 ⟨ys,e,rfl,s4,R4,Y4,L4,Z4,hy⟩;rfl';rw[afN (by rw[<- Z4.len];exact acS _)] at Y4;exact q _ _ _ s4 bG R4 Y4
def gH(e t u d m:Int):Prop:=(1<=e/\e<=7)/\(1<=t/\t<=12)/\0<=u/\0<=d/\0<=m/\m<=e
noncomputable def E4(e t u d m:Int)(p:ac4):List (Str × V):=[("eyes",.int e),("turns",.int t),("up",.int u),("down",.int d),("most",.int m),("told",.ref p)]
inductive XN(B C:ac4)(vs:List V)(H:Hp)(Q:VK)(E:XK):Prop
 | mk(x dx:ac4)(e t u d m:Int)(_:vs=[.ref x,.int e,.int t,.int u,.int d,.int m])(_:H x=O (.ins B dx []))(_:(¬ gH e t u d m->E (.ref C) J H))(_:(gH e t u d m->∀ p H',H p=J->SameBut x H H'->H' x=O (.ins B dx (E4 e t u d m p))->H' p=O (.dT [])->Q .non H'))
theorem E5(T:aH):jN 1 T.me (XN T.aN T.nY):=by
 refine pB D6 ?_;rintro y y y y H y y E y ⟨x,dx,e,t,u,d,m,rfl,hx,q0,q⟩;refine#[_,(aq (aE (PW.pt (dj (cu (ue fM fM ag (aa 1) (Bw T.Xs Y))) (fi (cu (ue fM fM ag (aa 2) (Bw T.Xt Y)))))) (ak (gR gT Y T.yC T.rT Y (ae aK af))) aI) (aq (aE (PW.pt (dj (ua (aa 3) ag) (fi (ua (aa 4) ag)))) (ak (gR gT Y T.yC T.rT Y (ae aK af))) aI) (aq (aE (cu (ue fM fM ag (aa 5) (aa 1))) (ak (gR gT Y T.yC T.rT Y (ae aK af))) aI) (aq (lW (aa 0) (aa 1) Y) (aq (lW (aa 0) (aa 2) Y) (aq (lW (aa 0) (aa 3) Y) (aq (lW (aa 0) (aa 4) Y) (aq (lW (aa 0) (aa 5) Y) (ak (lW (aa 0) JJ Y)))))))))),?_];have no:∀ D L,¬ gH e t u d m->∀ x,HG T.nY E (z6 (tC (.str x)) sH) D L H:=λD L z x=>#[by show 1<=adh;decide,q0 z]
 refine aD (λL H1=>L=[O (.ref x),O (.int e),O (.int t),O (.int u),O (.int d),O (.int m)]/\H=H1/\(1<=e/\e<=7)/\1<=t/\t<=12) (λN hN=>?_) ?_
 .rfl';exact bo (λh1=>bo (λh2=>bo (λh3=>bo (λh4=>hN _ _ #[Y,Y,#[h1,h2],h3,h4]) λh4=>no _ _ (λz=>by unfold gH at z;lia) _) λh3=>no _ _ (λz=>by unfold gH at z;lia) _) λh2=>no _ _ (λz=>by unfold gH at z;lia) _) λh1=>no _ _ (λz=>by unfold gH at z;lia) _
 rintro y yR L y ⟨rfl,rfl,e1,t1⟩;subst yR;refine aD (λL H1=>L=[O (.ref x),O (.int e),O (.int t),O (.int u),O (.int d),O (.int m)]/\H=H1/\0<=u/\0<=d) (λN hN=>?_) ?_
 .rfl';exact bo (λh5=>no _ _ (λz=>by unfold gH at z;lia) _) λh5=>bo (λh6=>no _ _ (λz=>by unfold gH at z;lia) _) λh6=>hN _ _ #[Y,Y,by lia,by lia]
 rintro y yR L y ⟨rfl,rfl,u1,d1⟩;subst yR;refine aD (λL H1=>L=[O (.ref x),O (.int e),O (.int t),O (.int u),O (.int d),O (.int m)]/\H=H1/\0<=m/\m<=e) (λN hN=>?_) ?_
 .rfl';exact bo (λh7=>bo (λh8=>hN _ _ #[Y,Y,h7,h8]) λh8=>no _ _ (λz=>by unfold gH at z;lia) _) λh7=>no _ _ (λz=>by unfold gH at z;lia) _
 rintro y yR L y ⟨rfl,rfl,m1⟩;subst yR;replace q:=q #[e1,t1,u1,d1,m1];rfl';refine#[_,_,_,hx,T.bY,T.rQ,(by show 0<1000;decide),_,_,_,ao,T.bY,T.pS,(by show 1<1000;decide),_,_,_,ao,T.bY,T.yV,(by show 2<1000;decide),_,_,_,ao,T.bY,T.yW,(by show 3<1000;decide),_,_,_,ao,T.bY,T.rR,(by show 4<1000;decide),?_];rw[wq,wq,wq,wq];intro p hp;have Mj:p≠x:=λz=>by rw[z,ao] at hp;cases hp
 refine#[_,_,_,(aw hp) _ _ ao,T.bY,T.rS,(by show 5<1000;decide),q p _ (by rw[aJ Mj] at hp;exact hp) (λb o hb e=>?_) ao ?_]
 .rw[aJ hb];exact (aw hp) _ _ (by rw[aJ hb];exact e)
 .rw[aJ Mj,ao]
structure i5(B:ac4)(H:Hp)(x:ac4)(e t u d m:Int)(p:ac4)(kvs:List (List Key × V)):Prop where
 ob:∃ dx,H x=O (.ins B dx (E4 e t u d m p))
 tb:H p=O (.dT kvs)
theorem i5.same(h:i5 B H x e t u d m p kvs)(s:aj H H'):i5 B H' x e t u d m p kvs:=let ⟨⟨dx,a⟩,b⟩:=h;#[#[dx,s _ _ a],s _ _ b]
inductive XO(B:ac4)(vs:List V)(H:Hp)(Q:VK)(aT:XK):Prop
 | mk(x p:ac4)(e t u d m i:Int)(kvs:List (List Key × V))(_:vs=[.ref x,.int i])(_:i5 B H x e t u d m p kvs)(_:Q (.bl (decide (0<=i/\i<e))) H)
inductive XQ(B:ac4)(vs:List V)(H:Hp)(Q:VK)(aT:XK):Prop
 | mk(x p:ac4)(e t u d m i:Int)(kvs:List (List Key × V))(_:vs=[.ref x,.int i])(_:i5 B H x e t u d m p kvs)(_:Q (.bl (decide (0<=i/\i<t))) H)
theorem XR(T:aH):jN 1 T.nI (XO T.aN):=by
 refine yc D7 ?_;rintro y y y y y y y y y ⟨x,p,e,t,u,d,m,i,kvs,rfl,⟨⟨dx,hx⟩,hp⟩,q⟩;refine#[_,(ak (aA (zY fM wI ag (aa 1) (eE Y (aa 0) Y)))),?_];rfl';refine bo (λh1=>?_) λh1=>?_
 .refine#[_,_,_,hx,T.bY,T.rQ,_,Y,?_];rfl';rw[show decide (0<=i/\i<e)=decide (i<e) by simp[h1]] at q;exact q
 .rw[show decide (0<=i/\i<e)=false by simp[h1]] at q;exact q
theorem vQ(T:aH):jN 1 T.iY (XQ T.aN):=by
 refine yc D8 ?_;rintro y y y y y y y y y ⟨x,p,e,t,u,d,m,i,kvs,rfl,⟨⟨dx,hx⟩,hp⟩,q⟩;refine#[_,(ak (aA (zY fM wI ag (aa 1) (eE Y (aa 0) Y)))),?_];rfl';refine bo (λh1=>?_) λh1=>?_
 .refine#[_,_,_,hx,T.bY,T.pS,_,Y,?_];rfl';rw[show decide (0<=i/\i<t)=decide (i<t) by simp[h1]] at q;exact q
 .rw[show decide (0<=i/\i<t)=false by simp[h1]] at q;exact q
inductive XS(B C:ac4)(vs:List V)(H:Hp)(Q:VK)(E:XK):Prop
 | mk(x p:ac4)(e t u d m i j:Int)(kvs:List (List Key × V))(_:vs=[.ref x,.int i,.int j])(_:i5 B H x e t u d m p kvs)(_:(¬ ((0<=i/\i<e)/\0<=j/\j<t)->E (.ref C) J H))(_:((0<=i/\i<e)/\0<=j/\j<t->Q .non H))
theorem XT(T:aH):jN 2 T.nJ (XS T.aN T.nZ):=by
 refine pB Eb ?_;rintro y y y y y y y y hr ⟨x,p,e,t,u,d,m,i,j,kvs,rfl,hb,q0,q⟩;refine#[_,(ak (aE (PW.pt (dj (cu (cf (fP (aa 0) T.bY T.Xn (XR T) hr.m T.nI.b .nil c7 (ae (aa 1) af)))) (fi (cu (cf (fP (aa 0) T.bY T.vM (vQ T) hr.m T.iY.b .nil c7 (ae (aa 2) af))))))) (ak (gR gT Y T.L6 T.yY Y (ae aK af))) aI)),?_];obtain⟨⟨dx,hx⟩,hp⟩:=id hb;rfl';refine#[_,_,hx,Y,x,p,e,t,u,d,m,i,kvs,Y,hb,?_];by_cases h1:0<=i/\i<e
 .rw[decide_eq_true h1];rfl';refine#[_,_,hx,Y,x,p,e,t,u,d,m,j,kvs,Y,hb,?_];by_cases h2:0<=j/\j<t
  .rw[decide_eq_true h2];rfl';exact q #[h1,h2]
  .rw[decide_eq_false h2];rfl';exact#[by decide,q0 λz=>h2 z.2]
 .rw[decide_eq_false h1];rfl';exact#[by decide,q0 λz=>h1 z.1]
inductive XU(B C:ac4)(vs:List V)(H:Hp)(Q:VK)(E:XK):Prop
 | mk(x p:ac4)(e t u d m i j:Int)(lo hi:En)(kvs:List (List Key × V))(_:vs=[.ref x,.int i,.int j,ev lo,ev hi])(_:i5 B H x e t u d m p kvs)(_:kvs.length<1000)(_:(¬ (((0<=i/\i<e)/\0<=j/\j<t)/\aY lo hi=false)->E (.ref C) J H))(_:(((0<=i/\i<e)/\0<=j/\j<t)/\aY lo hi=false->∀ v H',SameBut p H H'->H' p=O (.dT (putK kvs (eo i j) v))->aO H' v lo hi->Q .non H'))
theorem Ml(T:aH):jN 3 T.mf (XU T.aN T.nZ):=by
 refine pB D9 ?_;rintro c c c c c c c c hr ⟨x,p,e,t,u,d,m,i,j,lo,hi,kvs,rfl,hb,hl,q0,q⟩;refine#[_,(aq (fJ (fP (aa 0) T.bY T.Xo (XT T) hr.m T.nJ.b .nil eS (ae (aa 1) (ae (aa 2) af)))) (aq (aE (cf (aG (y7 T) hr (ae (aa 3) (ae (aa 4) af)))) (ak (gR gT Y T.L6 T.yY Y (ae aK af))) aI) (ak (Bs (gu hr) (eE Y (aa 0) Y) (bf (ae (aa 1) (ae (aa 2) af))) (bf (ae (aa 3) (ae (aa 4) af))) Y)))),?_];obtain⟨⟨dx,hx⟩,hp⟩:=id hb;rfl';refine#[_,_,hx,Y,x,p,e,t,u,d,m,i,j,kvs,Y,hb,λz=>q0 λy=>z y.1,λdr=>?_];refine#[lo,hi,Y,?_];cases hc:aY lo hi with
 | true =>
  rfl';exact#[by decide,q0 λz=>by rw[hc] at z;cases z.2]
 | false =>
  rfl';refine#[bg,λv hv=>#[_,_,_,(aw hv) _ _ hx,T.bY,T.rS,_,Y,bg,λk hk=>?_]];have s2:=(aw (o:=.tup [ev lo,ev hi]) hv).trans (aw (o:=.tup [.int i,.int j]) hk);refine#[p,Y,_,lD.t (k:=eo i j) (s2 _ _ hp) ao (ai5 hl (by decide)),q #[dr,hc] (.ref v) _ (λb o jm e=>?_) ao #[v,Y,?_]]
  .rw[aJ jm];exact s2 _ _ e
  .have vp:v≠p:=λz=>by rw[z] at hv;rw[hp] at hv;cases hv
   rw[aJ vp];exact (aw hk) _ _ ao
noncomputable def E6:V->V
 | .str i=>.bl (!(agx l8 i 0 l8.length 1).isEmpty)
 | v=>v
theorem Mm(x:acW):((cX x).filter λy=>true).map E6=(x.cps.toList.map λc=>!(agx l8 #[(List.toArray [c])] 0 l8.length 1).isEmpty).map V.bl:=by rw[aeS.mpr λy y=>rfl];unfold cX;rw[aei,aei];rfl
inductive XW(vs:List V)(H:Hp)(Q:VK)(aT:XK):Prop
 | mk(x:acW)(_:vs=[.str x])(_:x.length<=100000)(_:∀ H',aj H H'->Q (.bl (rC x)) H')
theorem XX(T:aH):aR 1 T.vc XW:=by
 refine ba Er ?_;rintro y y y y y y Q y y ⟨x,rfl,hx,q⟩;refine#[_,(ak (aA (iK (zY fM fM ag (bA dk (by rfl) T.di dh (ae (aa 0) af)) (Bw T.Xu Y)) (gf (bA (tm Y) (by rfl) T.vK sR (ae (dC (cO [] []) Y (LL (aa 0)) (λC s2 H2 ex pn=>#[dt,(fN zV (aa 0) (yi T.Xv Y) (by with_unfolding_all rfl))])) af)))))),?_];unfold rC at q;rfl';refine#[x.length,#[acR hx (by decide),Y],bo (λh1=>bo (λh2=>?_) λh2=>?_) λh1=>?_]
 .rw[decide_eq_true (show 1<=x.length by lia),decide_eq_true (show x.length<=60 by lia)] at q;have hl:(cX x).length<=adh:=by
   rw[nA];have:x.cps.size<=60:=by have:x.length=x.cps.size:=rfl;lia
   exact acR this (by decide)
  refine#[x,Y,cM LM hl (lq (p:=λy=>true) (f:=E6) trivial (λy y Q h=>h) (λv hv y Q h=>?_) λl hn=>?_)]
  .unfold cX at hv;obtain⟨c,y,rfl⟩:=ac2.mp hv;rfl';exact#[_,Y,_,Y,h]
  .rw[adl,Mm];exact#[l,Y,_,ah.of ao,by rw[LP];exact q _ (aw hn)]
 .rw[decide_eq_true (show 1<=x.length by lia),decide_eq_false (show ¬ x.length<=60 by lia)] at q;exact q _ (aj.refl _)
 .rw[decide_eq_false (show ¬ 1<=x.length by lia)] at q;exact q _ (aj.refl _)
inductive XY(vs:List V)(H:Hp)(Q:VK)(aT:XK):Prop
 | mk(x:acW)(_:vs=[.str x])(_:x.length<=100000)(_:∀ H',aj H H'->Q (.bl (jC x)) H')
theorem Mn(T:aH):aR 2 T.vd XY:=by
 refine ba yt ?_;rintro z z z z H z z z hr ⟨x,rfl,hx,q⟩;refine#[_,(aq (aE (bW (aa 0) aK) (ak (aA bO)) aI) (aq (aP 1 yt.nd (gO (cf (dJ adU ahA ahB LG (aa 0) (ae aK af))) (mP yh (aa 0) (mO ag) mM) (aa 0))) (ak (aA (iK (aG (XX T) hr (ae (aa 1) af)) (gf (yb (dJ adU ahA ahB LG (aa 1) (ae aK af))))))))),?_];have ty:∀ (y:acW) (H:Hp),sN K "str" (.str y) H:=λz z=>rfl;unfold jC at q;rfl';refine bo (λh0=>?_) λh0=>#[ty _ _,x,Y,_,Y,?_]
 .rw[h0] at q;exact q _ (aj.refl _)
 .have e0:(x == ("0" : acW))=false:=by simpa using h0
  rw[e0,ahf] at q;unfold cutD at q;refine bo (λhd=>#[x,Y,acR hx (by decide),?_]) λhd=>?_
  .rw[show nB x=true from hd] at q;refine#[_,Y,acR (Txt.slice_le _ _ _) hx,λH1 s1=>?_];rfl';refine bo (λh1=>#[ty _ _,_,Y,_,Y,?_]) λh1=>?_
   .rw[if_pos Y,h1,ahh] at q;exact q _ s1
   .rw[if_pos Y,afc.mpr h1] at q;exact q _ s1
  .rw[show nB x=false from afc.mpr hd] at q;refine#[_,Y,hx,λH1 s1=>?_];rfl';refine bo (λh1=>#[ty _ _,_,Y,_,Y,?_]) λh1=>?_
   .rw[if_neg (by decide),h1,ahh] at q;exact q _ s1
   .rw[if_neg (by decide),afc.mpr h1] at q;exact q _ s1
noncomputable def pV(x:acW):Bool:=x == "*" || jC x
inductive XZ(vs:List V)(H:Hp)(Q:VK)(aT:XK):Prop
 | mk(x:acW)(_:vs=[.str x])(_:x.length<=100000)(_:∀ H',aj H H'->Q (.bl (pV x)) H')
theorem X0(T:aH):aR 3 T.ve XZ:=by
 refine ba Es ?_;rintro y y y y y y y y hr ⟨x,rfl,hx,q⟩;refine#[_,(ak (aA (ya (fN mI (aa 0) (yi T.EZ Y) (dW _)) (gf (aG (Mn T) hr (ae (aa 0) af)))))),?_];unfold pV at q;rfl';refine#[Y,bo (λh=>?_) λh=>?_]
 .injection h with h;rw[h] at q;exact q _ (aj.refl _)
 .have e0:(x == ("*" : acW))=false:=by rw[afc];intro z;exact h (by rw[eq_of_beq z])
  rw[e0,ahf] at q;exact#[x,Y,hx,q]
noncomputable def E7(f x:acW):Bool:=if f = "N" then jC x else (!(f == "E") || pV x)
inductive X2(vs:List V)(H:Hp)(Q:VK)(aT:XK):Prop
 | mk(f x:acW)(_:vs=[.str f,.str x])(_:x.length<=100000)(_:∀ H',aj H H'->Q (.bl (E7 f x)) H')
theorem X3(T:aH):aR 4 T.vg X2:=by
 refine ba Et ?_;rintro y y y y y y y E hr ⟨f,x,rfl,hx,q⟩;refine#[_,(aq (aE (bW (aa 0) aK) (ak (aA (aG (Mn T) hr (ae (aa 1) af)))) aI) (ak (aA (ya (fN GU (aa 0) aK (dW _)) (gf (aG (X0 T) hr (ae (aa 1) af))))))),?_];unfold E7 at q;rfl';refine bo (λh=>?_) λh=>#[Y,bo (λh2=>?_) λh2=>?_]
 .rw[if_pos h] at q;exact#[x,Y,hx,q]
 .have e0:(f == ("E" : acW))=false:=by rw[afc];intro z;exact h2 (by rw[eq_of_beq z])
  rw[if_neg h,e0] at q;exact q _ (aj.refl _)
 .have h2:V.str f=V.str "E" := Classical.not_not.mp h2;injection h2 with h2;rw[if_neg h,h2] at q;exact#[x,Y,hx,q]
noncomputable def aQ:En->acW
 | none => "*"
 | some n=>aL n
theorem pW(n:Int):¬ aL n = "*" := λz=>by
 have z:=congrArg (λs:acW=>s.cps.toList) z;rcases ui n with ⟨m,rfl⟩|⟨m,rfl⟩
 .obtain⟨d,r,e,y⟩:=rq m;have hd:=pF m d (by rw[e];exact .head _);rw[show (aL (m:Int)).cps.toList=dS m from pG m,e] at z;have:d=42:=(List.cons.inj z).1;lia
 .rw[show (aL (-((m+1:Nat):Int))).cps.toList=45::dS (m+1) from uh m] at z;have:(45:Nat)=42:=(List.cons.inj z).1;lia
theorem mj{n:Int}(h:n.natAbs<10 ^ 60):n.natAbs.log2<1920:=by
 by_cases h0:n.natAbs=0
 .rw[h0];decide
 .exact (ala h0).mpr (ai5 h (by decide +kernel))
def fe:En->Prop
 | none=>True
 | some n=>n.natAbs<10 ^ 60
inductive X4(vs:List V)(H:Hp)(Q:VK)(aT:XK):Prop
 | mk(e:En)(_:vs=[.str (aQ e)])(_:fe e)(_:Q (ev e) H)
theorem X5(T:aH):aR 1 T.vh X4:=by
 refine ba Eu ?_;rintro y y y y y y y y y ⟨e,rfl,he,q⟩;refine#[_,(ak (aA (gO (bW (aa 0) (yi T.EZ Y)) bE (gp LI (by rfl) T.EO An (ae (aa 0) af))))),?_];rfl';cases e with
 | none=>exact q
 | some n =>
  rw[if_neg (show ¬ aQ (O n) = "*" from pW n)];exact#[_,Y,n,Cq he,acR (gF he) (by decide),q]
inductive X6(vs:List V)(H:Hp)(Q:VK)(aT:XK):Prop
 | mk(e:En)(_:vs=[ev e])(_:fe e)(_:Q (.str (aQ e)) H)
theorem Mo(T:aH):aR 1 T.vk X6:=by
 refine ba Ew ?_;rintro y y y y y y y y y ⟨e,rfl,he,q⟩;refine#[_,(ak (aA (gO (c8 (aa 0)) (yi T.EZ Y) (gp jh (by rfl) T.ia gQ (ae (aa 0) af))))),?_];cases e with
 | none =>
  rfl';exact q
 | some n =>
  rfl';exact#[mj he,q]
inductive X7(vs:List V)(H:Hp)(Q:VK)(aT:XK):Prop
 | mk(x w0:acW)(ws:List acW)(_:vs=[.str x])(_:x.length<=1000)(_:agE x " " = w0::ws)(_:w0 ≠ "rule")(_:∀ l,H l=J->Q (.ref l) (upd H l (.lst ((w0::ws).map V.str))))
theorem X9(T:aH):aR 1 T.vo X7:=by refine ba yu ?_;rintro y y y y y y y y y ⟨x,w0,ws,rfl,hx,hs,h0,q⟩;refine#[_,(aq (aP 1 yu.nd (dJ adU agH agI Co (aa 0) (ae aK af))) (aq (aE (PW.pt (jc (bW (ay (aa 1) ag) aK) (jU (nz (bA dk (by rfl) T.di dh (ae (aa 1) af)) ag)))) sx aI) (ak (aA (aa 1))))),?_];rfl';refine#[Y,x,Y,_,Y,by decide,acR (by lia:x.length+2<=2000) (by decide),λl hl=>?_];rw[hs];refine aU (ah.of ao) (cZ (j:=0) Y) ?_;rfl';rw[if_neg h0];exact q l hl
noncomputable def kJ:V × V->Bool
 | (.str c,.str x)=>E7 c x
 | _=>false
def vR(f:acW)(ws:List acW):Prop:=((cX f).zip (ws.map V.str)).all kJ=true
theorem ax.Mp{zs:List V}{bs:List Bool}(h:ax (λv (b:Bool)=>v=V.bl b) zs bs):zs=bs.map V.bl:=by
 induction zs generalizing bs with
 | nil=>cases bs with|nil=>rfl|cons _ _=>exact h.elim
 | cons z zs ih=>cases bs with
  | nil=>exact h.elim
  | cons b bs=>rw[adg,<- ih h.2,h.1]
inductive Yb(C:ac4)(vs:List V)(H:Hp)(Q:VK)(E:XK):Prop
 | mk(l:ac4)(w0 f:acW)(ws:List acW)(_:vs=[.ref l])(_:H l=O (.lst ((w0::ws).map V.str)))(_:(∀ y∈ws,y.length<=100000))(_:ws.length<=1000)(_:dO uy (.inr w0)=O (.str f))(_:f.length<=5)(_:((ws.length≠f.length/\∀ H',aj H H'->E (.ref C) J H')∨(ws.length=f.length/\vR f ws/\∀ H',aj H H'->Q .non H')))
theorem Yc(T:aH):aR 5 T.nQ (Yb T.pR):=by
 refine kG EB ?_;rintro z z z s H z Q z hr ⟨l,w0,f,ws,rfl,hl,hy,hw,hf,f5,q⟩;refine#[_,(aq (aE (PW.pt (dj (wA (WV T.formd.m (T.formd.d _) (ay (aa 0) ag))) (fi (gD (bA dk (by rfl) T.di dh (ae (aa 0) af)) (az bD (bA dk (by rfl) T.di dh (ae (Ct T.formd.m (T.formd.d _) (ay (aa 0) ag)) af)) ag))))) (ak (gR gT Y T.EU T.vN Y (ae aK af))) aI) (ak (aE (cu (cf (bA (tm Y) (by rfl) T.vK sR (ae (xb (g:=je K 2 (cJ (bZ 0) (cJ (bZ 1) iO))) (ki.mk (own:=["form","word"]) (fr:=[]) (ys:=[]) Y (by decide +kernel) Y (by decide +kernel) Y .nil .nil rfl) Y (LV Y T.ET (ae (Ct T.formd.m (T.formd.d _) (ay (aa 0) ag)) (ae (mP wQ (aa 0) (mO ag) mM) af))) (λC s2 H2 ex pn=>jf (n:=2) Y (da (gh (i:=0) (show (["form","word"]:List Str).Nodup by decide) Y (.inl (ado Y)) (.inr (ado Y))) (da (gh (i:=1) (show (["form","word"]:List Str).Nodup by decide) Y (.inl (ado Y)) (.inr (ado Y))) jd))) (λC s2 H2 ex pn=>#[dt,(aG (X3 T) hr (ae (aa 0) (ae (aa 1) af)))])) af)))) (ak (gR gT Y T.EU T.vN Y (ae aK af))) aI))),?_];refine aD (λL H1=>L=[O (.ref l)]/\H1=H/\(ws.length=f.length/\vR f ws/\∀ H',aj H H'->Q .non H')) (λN hN=>?_) ?_
 .rfl';refine aU (ah.of hl) (cZ (j:=0) Y) #[.inr w0,Y,?_];rw[hf];rfl';rw[if_neg (by simp)];refine#[_,eQ (ah.of hl),aU (ah.of hl) (cZ (j:=0) Y) #[.inr w0,Y,_,hf,f.length,#[acR f5 (by decide),Y],?_]];rw[acN,adw];rcases q with ⟨bp,q⟩|q
  .rw[if_pos (by lia)];exact#[by decide,q _ (aj.refl _)]
  .rw[if_neg (by have:=q.1;lia)];exact hN _ _ #[Y,Y,q]
 rintro z yR L H1 ⟨rfl,rfl,bM,ar,q⟩;subst yR;rfl';refine aU (ah.of hl) (cZ (j:=0) Y) #[.inr w0,Y,_,hf,?_];have sl:(cX f).length=f.length:=nA f;refine#[_,ah.of hl,λp hp=>#[f,Y,#[_,ah.of ao],?_]];rw[show j4 ((w0::ws).map V.str) (O 1) J=ws.map V.str from A6 _ 1];have u1:=aw (o:=.lst (ws.map V.str)) hp;refine LW (ys:=ws.map V.str) (by rw[acN];lia) (acR (by lia:_<=5) (by decide)) (xU (R':=λ_ v (b:Bool)=>v=V.bl b) (p:=λz=>true) (f:=kJ) (bs:=[]) (λz z z z z r=>r) trivial (λH' s'=>ah.of (s' _ _ ao)) (λr bG H' s' Q h=>h) (λr bG z H' s' Q h=>?_) λH' zs s' hz=>?_)
 .obtain⟨r1,r2⟩:=r;obtain⟨m1,m2⟩:=agz bG;unfold cX at m1;obtain⟨c,z,rfl⟩:=ac2.mp m1;obtain⟨y,my,rfl⟩:=ac2.mp m2;rfl';exact#[_,y,Y,hy y my,λH2 s2=>h _ _ s2 Y]
 .intro k hk;rw[adl,aeS.mpr λz z=>rfl] at hz;have ez:=ax.Mp hz;subst ez;refine#[k,Y,_,ah.of ao,?_];rw[if_neg (by rw[akC];unfold vR at ar;rw[show (id ∘ kJ)=kJ from Y,ar];decide)];exact q _ (u1.trans (s'.trans (aw hk)))
inductive Yd(vs:List V)(H:Hp)(Q:VK)(aT:XK):Prop
 | mk(a:ac4)(ns:List Int)(k:Int)(_:vs=[.ref a,.int k])(_:ah K H a (ns.map V.int))(_:0<=k)(_:Q (.int (jo ns k)) H)
theorem kK(T:aH):aR 1 T.vt Yd:=by
 refine ba EH ?_;rintro y y y y y y y y y ⟨a,ns,k,rfl,hS,hk,q⟩;refine#[_,(aq (aE (ua (aa 1) (bA dk (by rfl) T.di dh (ae (aa 0) af))) (ak (aA (ay (aa 0) (aa 1)))) aI) (ak (aA ag))),?_];rfl';refine#[_,eQ hS,?_];rw[acN];by_cases aW:k<(ns.length:Int)
 .rw[if_pos aW];have e:ns[k.toNat]?=O (jo ns k):=by unfold jo;rw[acO,acP (by lia)];rfl
  refine aU hS ?_ q;have ek:k=((k.toNat:Nat):Int):=by lia
  refine (congrArg (dq _) ek).trans (cZ ?_);rw[ac1,e];rfl
 .rw[if_neg aW];have e:jo ns k=0:=by unfold jo;rw[acO,adI (by lia)];rfl
  rw[e] at q;exact q
inductive Ye(vs:List V)(H:Hp)(Q:VK)(aT:XK):Prop
 | mk(c:Int)(_:vs=[.int c])(_:∀ n:Int,-100000000000000000000000000000000000000000000000000<=n->n<=100000000000000000000000000000000000000000000000000->Q (.int n) H)
theorem Yg(T:aH):aR 1 T.vx Ye:=by
 refine ba EJ ?_;rintro y y y y y y y y y ⟨c,rfl,q⟩;refine#[_,(aq (aE (bW (az cQ (aa 0) ag) ag) (ak (aA (az dR (az cQ (az gv (aa 0) ag) ag) ag))) aI) (ak (aA (az dR (az cQ (az pA (az cQ (az gv (aa 0) ag) (az jX ag ag)) (az jX ag ag)) (az bD (az pA ag (az jX ag ag)) ag)) (az jX ag ag))))),?_];rfl';have b1:=afk (c / 3) (show (1000000000000000000000000000000:Int)≠0 by decide);have b2:=aeM (c / 3) (show (0:Int)<1000000000000000000000000000000 by decide);refine bo (λy=>#[fR (by decide),q _ (by lia) (by lia)]) λy=>#[fR (by decide),#[by decide,by decide,by decide],#[by decide,by decide,by decide],oE (by lia) (by decide),#[by decide,by decide,by decide],oE (by decide) (by decide),#[by decide,by decide,by decide],q _ (by lia) (by lia)]
inductive Yh(vs:List V)(H:Hp)(Q:VK)(aT:XK):Prop
 | mk(c:Int)(_:vs=[.int c])(_:∀ n:Int,0<=n->n<=10000000000000000000000000000000000000000->Q (.int n) H)
theorem Mq(T:aH):aR 1 T.vy Yh:=by
 refine ba EK ?_;rintro y y y y y y y y y ⟨c,rfl,q⟩;refine#[_,(aq (aE (ua (az cQ (aa 0) ag) ag) (ak (aA (az cQ (az gv (aa 0) ag) ag))) aI) (ak (aA (az cQ (az pA (az cQ (az gv (aa 0) ag) (az jX ag ag)) (az jX ag ag)) (az bD (az jX ag ag) ag))))),?_];rfl';have b1:=afk (c / 3) (show (1000000000000000000000000000000:Int)≠0 by decide);have b2:=aeM (c / 3) (show (0:Int)<1000000000000000000000000000000 by decide);refine bo (λy=>#[fR (by decide),q _ (by lia) (by lia)]) λy=>#[fR (by decide),#[by decide,by decide,by decide],#[by decide,by decide,by decide],oE (by lia) (by decide),#[by decide,by decide,by decide],q _ (afk _ (by decide)) (Int.le_of_lt_add_one (aeM _ (by decide)))]
structure Sz(e t u d m:Int):Prop where
 he:1<=e/\e<=4
 ht:1<=t/\t<=3
 hu:0<=u/\u<=10000000000000000000000000000000000000000
 hd:0<=d/\d<=10000000000000000000000000000000000000000
 hm:0<=m/\m<=e
inductive Yi(vs:List V)(H:Hp)(Q:VK)(aT:XK):Prop
 | mk(a:ac4)(ns:List Int)(at_:Int)(_:vs=[.ref a,.int at_])(_:ah K H a (ns.map V.int))(_:0<=at_)(_:∀ (r:ac4) (e t u d m:Int) (H':Hp),aj H H'->H' r=O (.tup [.int e,.int t,.int u,.int d,.int m])->Sz e t u d m->Q (.ref r) H')
theorem Mr(T:aH):aR 2 T.vz Yi:=by
 refine ba rL ?_;rintro y y y y H y y y hr ⟨a,ns,at_,rfl,hS,h0,q⟩;refine#[_,(aq (aP 2 rL.nd (az bD ag (az cQ (aG (kK T) hr (ae (aa 0) (ae (aa 1) af))) ag))) (aq (aP 3 rL.nd (bA (Ph Y) (by rfl) T.yA wY (ae (az cQ (aG (kK T) hr (ae (aa 0) (ae (az bD (aa 1) ag) af))) ag) (ae (aa 2) af)))) (aq (aP 4 rL.nd (aG (Mq T) hr (ae (aG (kK T) hr (ae (aa 0) (ae (az bD (aa 1) ag) af))) af))) (ak (aA (bf (ae (aa 2) (ae (az bD ag (az cQ (aG (kK T) hr (ae (aa 0) (ae (az bD (aa 1) ag) af))) ag)) (ae (aa 4) (ae (aG (Mq T) hr (ae (aG (kK T) hr (ae (aa 0) (ae (az bD (aa 1) ag) af))) af)) (ae (aa 3) af))))))))))),?_];refine aD (λL H1=>∃ e:Int,L=[O (.ref a),O (.int at_),O (.int e),J,J]/\H1=H/\1<=e/\e<=4) (λN hN=>?_) ?_
 .rfl';exact#[a,ns,_,Y,hS,by lia,hN _ _ #[_,Y,Y,by lia,by lia]]
 rintro y yR L H1 ⟨e,rfl,rfl,e1,e2⟩;subst yR;refine aD (λL H2=>∃ m:Int,L=[O (.ref a),O (.int at_),O (.int e),O (.int m),J]/\H2=H1/\0<=m/\m<=e) (λN hN=>?_) ?_
 .rfl';refine#[a,ns,_,Y,hS,by lia,?_];rfl';refine hN _ _ #[_,Y,Y,?_,?_]<;>split<;>lia
 rintro y yR L H2 ⟨m,rfl,rfl,m1,m2⟩;subst yR;refine aD (λL H3=>∃ u:Int,L=[O (.ref a),O (.int at_),O (.int e),O (.int m),O (.int u)]/\H3=H2/\0<=u/\u<=10000000000000000000000000000000000000000) (λN hN=>?_) ?_
 .rfl';exact#[a,ns,_,Y,hS,by lia,_,Y,λu u1 u2=>hN _ _ #[u,Y,Y,u1,u2]]
 rintro y yR L H3 ⟨u,rfl,rfl,u1,u2⟩;subst yR;rfl';refine#[a,ns,_,Y,hS,by lia,#[a,ns,_,Y,hS,by lia,_,Y,λd d1 d2=>#[by decide,λr hr=>?_]]];exact q r e _ u d m _ (aw hr) ao #[#[e1,e2],by lia,#[u1,u2],#[d1,d2],m1,m2]
structure br(B:ac4)(H:Hp)(x:ac4)(e t u d m:Int)(p:ac4)(tb:Tb):Prop where
 ob:∃ dx,H x=O (.ins B dx (E4 e t u d m p))
 tb:TabAt H p tb
theorem br.same{B:ac4}{H H':Hp}{x p:ac4}{e t u d m:Int}{tb:Tb}(h:br B H x e t u d m p tb)(s:aj H H'):br B H' x e t u d m p tb:=let ⟨⟨dx,a⟩,b⟩:=h;#[#[dx,s _ _ a],b.same s]
theorem br.now{B:ac4}{H H':Hp}{x p:ac4}{e t u d m:Int}{tb tb':Tb}(h:br B H x e t u d m p tb)(s:Fr H H')(hp:TabAt H' p tb'):br B H' x e t u d m p tb':=let ⟨⟨dx,a⟩,_⟩:=h;#[#[dx,s _ _ (λy z=>nomatch z) a],hp]
inductive Yj(B:ac4)(vs:List V)(H:Hp)(Q:VK)(aT:XK):Prop
 | mk(x p:ac4)(e t u d m:Int)(tb:Tb)(_:vs=[.ref x])(_:br B H x e t u d m p tb)(_:(tb.map (·.1)).Nodup)(_:tb.length<64)(_:∀ l xs H',aj H H'->H l=J->H' l=O (.lst xs)->ax (kx H') xs (m8 tb)->Q (.ref l) H')
theorem Ms(T:aH):jN 1 T.mh (Yj T.aN):=by
 refine yc Ea ?_;rintro v v v s H v Q v hr ⟨x,p,e,t,u,d,m,tb,rfl,⟨⟨dx,hx⟩,kvs,hp,hT⟩,hn,bB,q⟩;refine#[_,(ak (aA (dC (cO [0] ["self"]) Y (cT (bA (Tr Y) (by rfl) T.ER Am (ae (eE Y (aa 0) Y) af))) (λC s2 H2 ex pn=>#[dt,(bf (ae (eF (K:=K) (aa 0) ag) (ae (eF (K:=K) (aa 0) ag) (ae (Tu (gu hr) (eE (K:=K) Y (aa 1) Y) (aa 0) (λv v=>rfl)) af))))])))),?_];rfl';refine#[_,_,_,hx,T.bY,T.rS,_,Y,p,Y,kvs,hp,ku tb,TC hT,TF,by rw[hT.len];exact bB,λl ys hl hk=>?_];have PS:=TH hT hk;have s1:=aw (o:=.lst (bI (ku tb) .non ys)) hl;have L1:upd H l (.lst (bI (ku tb) .non ys)) l=O (.lst (bI (ku tb) .non ys)):=ao;generalize upd H l (.lst (bI (ku tb) .non ys))=H1 at s1 L1 ⊢;refine#[#[_,ah.of L1],cM gU (acR (by rw[PS.len,oY];exact afS bB:_<=64) (by decide)) (iB (R:=λH x (r:P2 × S2)=>eM H x r.1) (R':=λH y (r:P2 × S2)=>kx H y r) (f:=λr=>r) (bs:=[]) (λv v v v s r=>eM.same r s) (λv v v v s r=>kx.same r s) (PS.imp λx r z=>eM.same z s1) trivial (λH' s'=>ah.of (s' _ _ L1)) (λx r v H' s' bG Q h=>?_) (λx r bG H' s' h0 Q h=>?_) λH2 zs s2 hz=>?_)]
 .rfl';exact h
 .obtain⟨a,rfl,ha⟩:=id h0;have S:=s1.trans s';have Yk:=hT.imp λv a b z=>aO.same z S;obtain⟨w,hw,iw⟩:=(Yk.val r.1).2 _ (xM hn (tI bG));rfl';refine aB (au.of ha) Y (aB (au.of ha) Y #[_,_,_,S _ _ hx,T.bY,T.rS,_,Y,p,Y,w,?_,?_])
  .rw[<- hw];exact fT.t (k:=eo r.1.1 r.1.2) (S _ _ hp) ha
  .exact#[by decide,λz hz=>h _ _ (aw hz) #[z,w,Y,ao,aO.same iw (aw hz)]]
 rw[adl,akE] at hz;exact λl2 bM=>q l2 zs _ (s1.trans (s2.trans (aw bM))) ((s1.trans s2).free bM) ao (hz.imp λx r z=>kx.same z (aw bM))
inductive Yl(vs:List V)(H:Hp)(Q:VK)(aT:XK):Prop
 | mk(a:ac4)(xs:List V)(ss:List S2)(_:vs=[.ref a])(_:ah K H a xs)(_:aX H xs ss)(_:xs.length<=1000)(_:∀ v H',aj H H'->fA H' v (dE (J,J) ss)->Q v H')
inductive Ym(H:Hp)(a:ac4)(xs:List V)(ss:List S2)(i:Nat)(L:St)(H1:Hp):Prop
 | mk(v:V)(e:Option V)(_:L=[O (.ref a),O v,e])(_:aj H H1)(_:aO H1 v (cw (J,J) (ss.take i)).1 (cw (J,J) (ss.take i)).2)(_:aY (cw (J,J) (ss.take i)).1 (cw (J,J) (ss.take i)).2=false)
theorem E8(T:aH):aR 3 T.uC Yl:=by
 refine ba rF ?_;rintro z z z z H z z z hr ⟨a,xs,ss,rfl,hS,hP,hn,q⟩;refine#[_,(aq (aP 1 rF.nd (bf (ae bE (ae bE af)))) (aq (cU adE Y (cT (aa 0)) (cp 2 rF.nd) (aq (aP 1 rF.nd (aG (E2 T) hr (ae (aa 1) (ae (aa 2) af)))) (ak (aE (c8 (aa 1)) (ak (aA bE)) aI)))) (ak (aA (aa 1))))),?_];have hA:=jw.mp hP;have hl:=hA.len;rfl';refine#[bg,λp hp=>?_];have s0:=aw (o:=.tup [.non,.non]) hp;refine#[#[_,s0.seq hS],j8 (xs:=xs) (Ym H a xs ss) #[_,_,Y,s0,#[p,Y,ao],Y] ?_ ?_ ?_]
 .rintro i L H1 z ⟨z,z,z,s1,z⟩;exact s1.seq hS
 .rintro i x L H1 hx ⟨v,e,rfl,s1,hv,hc⟩;obtain⟨w,hw,r⟩:=hA.get hx;have e1:=TL (e:=(J,J)) hw;rfl';refine#[v,x,_,_,w.1,w.2,Y,hv,r.same s1,λy H2 s2 hm=>?_];have q8:Ja H2 y (cw (J,J) (ss.take (i+1))).1 (cw (J,J) (ss.take (i+1))).2:=by rw[e1];exact hm
  cases hk:aY (cw (J,J) (ss.take (i+1))).1 (cw (J,J) (ss.take (i+1))).2 with
  | true =>
   have ey:=q8.1 hk;subst ey;rfl';refine q _ _ (s1.trans s2) ?_;unfold dE;rw[if_pos (TK hk)];rfl
  | false =>
   have hy:=q8.2 hk;obtain⟨t,rfl,ht⟩:=id hy;rfl';exact#[_,_,Y,s1.trans s2,hy,hk]
 .rintro L H1 ⟨v,e,rfl,s1,hv,hc⟩;rfl';rw[hl,aeP] at hv hc;refine q _ _ s1 ?_;unfold dE;rw[if_neg (by rw[hc];simp)];exact hv
inductive Yn(B:ac4)(vs:List V)(H:Hp)(Q:VK)(aT:XK):Prop
 | mk(x p:ac4)(e t u d m i:Int)(k:Str)(kvs:List (List Key × V))(_:vs=[.ref x,.str k,.int i])(_:i5 B H x e t u d m p kvs)(_:Q (.bl (hasB t k i)) H)
theorem Yo(T:aH):aR 2 T.uQ (Yn T.aN):=by
 refine ba Eg ?_;rintro y y y y y y y y hr ⟨x,p,e,t,u,d,m,i,k,kvs,rfl,hb,q⟩;refine#[_,(aq (aE (bW (aa 1) aK) (ak (aA (iK (fP (aa 0) T.bY T.vM (vQ T) hr.m T.iY.b .nil c7 (ae (aa 2) af)) (gf (fP (aa 0) T.bY T.vM (vQ T) hr.m T.iY.b .nil c7 (ae (az bD (aa 2) ag) af)))))) aI) (ak (aA (iK (fN mI (aa 1) aK (dW _)) (gf (fP (aa 0) T.bY T.vM (vQ T) hr.m T.iY.b .nil c7 (ae (aa 2) af))))))),?_];obtain⟨⟨dx,hx⟩,hp⟩:=id hb;unfold hasB at q;rfl'
 try refine#[Y,?_]
 by_cases hk:k = "step"
 .subst hk;rw[if_pos Y] at q ⊢;refine#[_,_,hx,Y,x,p,e,t,u,d,m,i,kvs,Y,hb,?_];by_cases h1:0<=i/\i<t
  .rw[decide_eq_true h1] at q ⊢;rfl';refine#[_,_,hx,Y,x,p,e,t,u,d,m,_,kvs,Y,hb,?_];rw[ahh] at q;exact q
  .rw[decide_eq_false h1] at q ⊢;rfl';exact q
 .rw[if_neg hk] at q;rw[if_neg hk]
  try refine#[Y,?_]
  by_cases lV:k = "at"
  .subst lV;rw[decide_eq_true Y,ahh] at q;rw[if_pos Y];refine#[_,_,hx,Y,x,p,e,t,u,d,m,i,kvs,Y,hb,?_];exact q
  .rw[decide_eq_false lV,ajA] at q;rw[if_neg λz=>lV (V.str.inj z)];exact q
inductive Yp(B C:ac4)(vs:List V)(H:Hp)(Q:VK)(E:XK):Prop
 | mk(x p b:ac4)(e t u d m:Int)(kvs:List (List Key × V))(xs:List V)(ps:List Pa)(_:vs=[.ref x,.ref b])(_:i5 B H x e t u d m p kvs)(_:ah K H b xs)(_:lE H xs ps)(_:(¬ jx t ps->E (.ref C) J H))(_:(jx t ps->Q .non H))
inductive Yq(H:Hp)(x b:ac4)(t:Int)(ps:List Pa)(i:Nat)(L:St)(H1:Hp):Prop
 | mk(e:Option V)(_:L=[O (.ref x),O (.ref b),e])(_:H1=H)(_:jx t (ps.take i))
theorem Mt(T:aH):aR 3 T.jG (Yp T.aN T.jM):=by
 refine kG yo ?_;rintro v v v v H v v v hr ⟨x,p,b,e,t,u,d,m,kvs,xs,ps,rfl,hb,hX,hP,q0,q⟩;refine#[_,(ak (cU agT Y (cT (aa 1)) (cp 2 yo.nd) (ak (aE (cu (cf (aG (Yo T) hr (ae (aa 0) (ae (ay (aa 2) ag) (ae (ay (aa 2) ag) af)))))) (ak (gR gT Y T.L8 T.yZ Y (ae aK af))) aI)))),?_];have hl:=hP.len;rfl';refine#[#[_,hX],j8 (xs:=xs) (Yq H x b t ps) #[_,Y,Y,λv h=>by simp at h] ?_ ?_ ?_]
 .rintro i L H1 v ⟨v,v,rfl,v⟩;exact hX
 .rintro i y L H1 hy ⟨e1,rfl,rfl,hk⟩;obtain⟨pa,mn,ta,qa,rfl,h1,h2⟩:=hP.get hy;rfl';refine bX h1 (bX h1 ?_);refine#[x,p,e,t,u,d,m,pa.2.1,pa.1,kvs,Y,hb,?_];cases hc:hasB t pa.1 pa.2.1 with
  | true =>
   rfl';refine#[_,Y,Y,λz hz=>?_];rw[aeh,mn] at hz;rcases adf.mp hz with h|h
   .exact hk z h
   .have:z=pa:=by simpa using h
    rw[this];exact hc
  | false =>
   rfl';refine#[by decide,q0 λz=>?_];rw[z pa (ads mn)] at hc;cases hc
 .rintro L H1 ⟨e1,rfl,rfl,hk⟩;rw[hl,aeP] at hk;rfl';exact q hk
inductive Yr(vs:List V)(H:Hp)(Q:VK)(aT:XK):Prop
 | mk(b:ac4)(xs:List V)(ps:List Pa)(k:Str)(t:Int)(_:vs=[.ref b,.str k,.int t])(_:ah K H b xs)(_:lE H xs ps)(_:ps.length<=1000)(_:∀ l ys H',aj H H'->H l=J->H' l=O (.lst ys)->aX H' ys (sel ps k t)->Q (.ref l) H')
theorem Mu(T:aH):aR 1 T.uR Yr:=by
 refine ba Eh ?_;rintro z z z s H z Q z z ⟨b,xs,ps,k,t,rfl,hX,hP,hn,q⟩;refine#[_,(ak (aA (dC (cO [1,2] ["kind","turn"]) Y (cT (aa 0)) (λC s2 H2 ex pn=>#[(kh (PW.pt (jc (bW (eF (K:=K) (aa 0) ag) (aa 1)) (jU (bW (eF (K:=K) (aa 0) ag) (aa 2)))))),(eF (K:=K) (aa 0) ag)])))),?_];have hl:=hP.len;rfl';refine#[#[_,hX],cM gU (acR (by lia:xs.length<=1000) (by decide)) (qV (R:=λx p=>tJ H x p) (R':=λy (s:S2)=>aO H y s.1 s.2) (p:=tK k t) (f:=λp=>p.2.2) hX hP (λx p r Q h=>?_) (λx p z r Q h=>?_) λzs hz=>?_)]
 .obtain⟨tt,u,rfl,ht,hu⟩:=r;unfold tK at h;rfl';refine bX ht ?_;rfl'
  try refine#[Y,?_]
  by_cases hk:p.1=k
  .rw[decide_eq_true hk,ahh] at h;rw[if_pos (by rw[hk])];refine bX ht ?_;rfl';exact x5 (Q:=λk=>Q k H) h
  .rw[decide_eq_false hk,ajA] at h;rw[if_neg hk];exact h
 .obtain⟨tt,u,rfl,ht,hu⟩:=r;rfl';exact aB (au.of ht) Y (h _ #[u,Y,hu])
 .rw[adl];intro l bM;exact q l zs _ (aw bM) bM ao (jw.mpr (hz.imp λz z r=>r.same (aw bM)))
noncomputable def dz(u d:Int)(ps:List Pa)(n:Nat):List W2:=(adu n).map λ(k:Nat)=>dE (J,J) ((O (-d),O u)::sel ps "step" (k:Int))
inductive Ys(B C:ac4)(vs:List V)(H:Hp)(Q:VK)(E:XK):Prop
 | mk(x p b:ac4)(e t u d m:Int)(kvs:List (List Key × V))(xs:List V)(ps:List Pa)(_:vs=[.ref x,.ref b])(_:i5 B H x e t u d m p kvs)(_:1<=t)(_:t<=12)(_:ah K H b xs)(_:lE H xs ps)(_:ps.length<=900)(_:(¬ jx t ps->E (.ref C) J H))(_:(jx t ps->∀ l ys H',aj H H'->H l=J->H' l=O (.lst ys)->ax (fA H') ys (dz u d ps (t-1).toNat)->Q (.ref l) H'))
theorem Mv(T:aH):aR 4 T.nK (Ys T.aN T.jM):=by
 refine kG yq ?_;rintro y y y s H y Q y hr ⟨x,p,b,e,t,u,d,m,kvs,xs,ps,rfl,hb,t1,t2,hX,hP,hn,q0,q⟩;refine#[_,(aq (fJ (dI (Mt T) hr.m Y T.jG.m T.jG.F.kp T.jG.b .nil eS (ae (aa 0) (ae (aa 1) af)))) (aq (aP 2 yq.nd (cK (ae (bf (ae (eO fb (eE Y (aa 0) Y)) (ae (eE Y (aa 0) Y) af))) af))) (ak (aA (dC (cO [2,1] ["own","claim"]) Y (fL Y T.fc (ae (az dR (eE Y (aa 0) Y) ag) af)) (λC s2 H2 ex pn=>#[dt,(aG (E8 T) hr (ae (az mR (aa 1) (aG (Mu T) hr (ae (aa 2) (ae aK (ae (aa 0) af))))) af))])))))),?_];obtain⟨⟨dx,hx⟩,hp⟩:=id hb;rfl';refine#[x,p,b,e,t,u,d,m,kvs,xs,ps,Y,hb,hX,hP,q0,λhk=>?_];rfl';refine#[_,_,_,hx,T.bY,T.yW,_,Y,_,_,_,hx,T.bY,T.yV,_,Y,bg,λo ho=>#[by decide,λl hl=>?_]];have s1:=(aw (o:=.tup [.int (-d),.int u]) ho).trans (aw (o:=.lst [.ref o]) hl);have O1:aO (upd (upd H o (.tup [.int (-d),.int u])) l (.lst [.ref o])) (.ref o) (O (-d)) (O u):=#[o,Y,(aw hl) _ _ ao]
 have L1:(upd (upd H o (.tup [.int (-d),.int u])) l (.lst [.ref o])) l=O (.lst [.ref o]):=ao;generalize upd (upd H o (.tup [.int (-d),.int u])) l (.lst [.ref o])=H1 at s1 O1 L1 ⊢;refine#[_,_,_,s1 _ _ hx,T.bY,T.pS,_,Y,by lia,by lia,?_];refine cM mT (by rw[acN,adj];exact acR (by lia:_<=12) (by decide)) (iB (R:=λ_ x (k:Nat)=>x=V.int ((0:Int)+k)) (R':=fA) (f:=λ(k:Nat)=>dE (J,J) ((O (-d),O u)::sel ps "step" (k:Int))) (λy y y y y h=>h) (λy y y y s' h=>h.same s') (ax.iM _) (bs:=[]) trivial (λy y=>trivial) (λx k y H2 s2 r Q h=>?_) (λx k y H2 s2 r Q h=>?_) λH2 zs s2 hz=>?_)
 .rfl';exact h
 .subst r;have S2:=s1.trans s2;rfl';refine#[b,xs,ps,"step",_,Y,S2.seq hX,hP.same S2,by lia,λr ys H3 s3 y R3 hR=>?_];rw[af2] at hR;rfl';have hlen:ys.length<=900:=by
   have:=(jw.mp hR).len;have h2:(sel ps "step" (k:Int)).length<=ps.length:=by unfold sel;rw[acN];exact ad1 _ _
   lia
  refine#[[.ref o],s3 _ _ (s2 _ _ L1),ys,R3,acR (by show 1+ys.length<=1000;lia) (by decide),λc hc=>?_];have s4:=aw (o:=.lst ([.ref o]++ys)) hc;refine#[c,_,(O (-d),O u)::sel ps "step" (k:Int),Y,ah.of ao,#[(O1.same (s2.trans s3)).same s4,?_],by rw[ac7,adb];lia,λv H5 s5 hv=>h _ _ ((s3.trans s4).trans s5) hv];exact jw.mpr ((jw.mp hR).imp λy y r=>r.same s4)
 .intro c hc;refine q hk c zs _ ((s1.trans s2).trans (aw hc)) ((s1.trans s2).free hc) ao ?_;rw[adl] at hz;exact hz.imp λy y r=>r.same (aw hc)
noncomputable def fG(ps:List Pa)(n:Nat):List W2:=(adu n).map λ(k:Nat)=>dE (J,J) (sel ps "at" (k:Int))
inductive Yt(B C:ac4)(vs:List V)(H:Hp)(Q:VK)(E:XK):Prop
 | mk(x p b:ac4)(e t u d m:Int)(kvs:List (List Key × V))(xs:List V)(ps:List Pa)(_:vs=[.ref x,.ref b])(_:i5 B H x e t u d m p kvs)(_:1<=t)(_:t<=12)(_:ah K H b xs)(_:lE H xs ps)(_:ps.length<=900)(_:(¬ jx t ps->E (.ref C) J H))(_:(jx t ps->∀ l ys H',aj H H'->H l=J->H' l=O (.lst ys)->ax (fA H') ys (fG ps t.toNat)->Q (.ref l) H'))
theorem Yu(T:aH):aR 4 T.nM (Yt T.aN T.jM):=by
 refine kG Ei ?_;rintro y y y s y y Q y hr ⟨x,p,b,e,t,u,d,m,kvs,xs,ps,rfl,hb,t1,t2,hX,hP,hn,q0,q⟩;refine#[_,(aq (fJ (dI (Mt T) hr.m Y T.jG.m T.jG.F.kp T.jG.b .nil eS (ae (aa 0) (ae (aa 1) af)))) (ak (aA (dC (cO [1] ["claim"]) Y (fL Y T.fc (ae (eE Y (aa 0) Y) af)) (λC s2 H2 ex pn=>#[dt,(aG (E8 T) hr (ae (aG (Mu T) hr (ae (aa 1) (ae aK (ae (aa 0) af)))) af))]))))),?_];obtain⟨⟨dx,hx⟩,hp⟩:=id hb;rfl';refine#[x,p,b,e,t,u,d,m,kvs,xs,ps,Y,hb,hX,hP,q0,λhk=>?_];rfl';refine#[_,_,_,hx,T.bY,T.pS,_,Y,_,Y,by lia,by lia,?_];refine cM mT (by rw[acN,adj];exact acR (by lia:_<=12) (by decide)) (iB (R:=λ_ x (k:Nat)=>x=V.int ((0:Int)+k)) (R':=fA) (f:=λ(k:Nat)=>dE (J,J) (sel ps "at" (k:Int))) (λy y y y y h=>h) (λy y y y s' h=>h.same s') (ax.iM _) (bs:=[]) trivial (λy y=>trivial) (λx k y H2 s2 r Q h=>?_) (λx k y H2 s2 r Q h=>?_) λH2 zs s2 hz=>?_)
 .rfl';exact h
 .subst r;rfl';refine#[b,xs,ps,"at",_,Y,s2.seq hX,hP.same s2,by lia,λr ys H3 s3 y R3 hR=>?_];rw[af2] at hR;rfl';have hlen:ys.length<=900:=by
   have:=(jw.mp hR).len;have h2:(sel ps "at" (k:Int)).length<=ps.length:=by unfold sel;rw[acN];exact ad1 _ _
   lia
  exact#[r,ys,_,Y,ah.of R3,hR,by lia,λv H5 s5 hv=>h _ _ (s3.trans s5) hv]
 .intro c hc;refine q hk c zs _ (s2.trans (aw hc)) (s2.free hc) ao ?_;rw[adl] at hz;exact hz.imp λy y r=>r.same (aw hc)
inductive Yv(vs:List V)(H:Hp)(Q:VK)(aT:XK):Prop
 | mk(v:V)(c:S2)(_:vs=[v])(_:m9 H v c)(_:Q (.int (lJ c)) H)
theorem Mw(T:aH):aR 1 T.uG Yv:=by
 refine ba Ec ?_;rintro z z z z z z z z z ⟨v,⟨e1,e2⟩,rfl,⟨p,rfl,hp⟩,q⟩;refine#[_,(aq (aE (iJ (ay (aa 0) ag)) (ak (aA (ay (aa 0) ag))) aI) (aq (aE (iJ (ay (aa 0) ag)) (ak (aA (ay (aa 0) ag))) aI) (ak (aA ag)))),?_];rfl';refine bX hp ?_;rcases e1 with z|x
 .rfl';refine bX hp ?_;rcases e2 with z|y
  .rfl';exact q
  .rfl';exact aB (au.of hp) Y q
 .rfl';exact aB (au.of hp) Y q
inductive Yw(B:ac4)(vs:List V)(H:Hp)(Q:VK)(aT:XK):Prop
 | mk(x p:ac4)(e t u d m i:Int)(tb:Tb)(_:vs=[.ref x,.int i])(_:br B H x e t u d m p tb)(_:(tb.map (·.1)).Nodup)(_:tb.length<64)(_:(∀ r∈tb,0<=r.1.2))(_:∀ l ys H',aj H H'->H l=J->H' l=O (.lst ys)->ax (eG H') ys (ng tb i)->Q (.ref l) H')
theorem Yx(T:aH):aR 2 T.uS (Yw T.aN):=by
 refine ba Ej ?_;rintro y y y s H y Q y hr ⟨x,p,e,t,u,d,m,i,tb,rfl,hb,eB,bB,h0,q⟩;refine#[_,(ak (aA (xb (g:=je K 3 (cJ (bZ 0) (cJ (bZ 1) (cJ (bZ 2) iO)))) (ki.mk (own:=["teller","turn","word"]) (fr:=[1]) (ys:=["eye"]) Y (by decide +kernel) Y (by decide +kernel) Y (.cons rfl .nil) (.cons rfl Y Y Y .nil) Y) Y (cT (G3 (aa 0) T.bY T.Mb (Ms T) hr.m T.mh.b .nil c7)) (λC s2 H2 ex pn=>jf (n:=3) Y (da (gh (i:=0) (show (["teller","turn","word","eye"]:List Str).Nodup by decide) Y (.inl (ado Y)) (.inr (ado Y))) (da (gh (i:=1) (show (["teller","turn","word","eye"]:List Str).Nodup by decide) Y (.inl (ado Y)) (.inr (ado Y))) (da (gh (i:=2) (show (["teller","turn","word","eye"]:List Str).Nodup by decide) Y (.inl (ado Y)) (.inr (ado Y))) jd)))) (λC s2 H2 ex pn=>#[(kh (bW (aa 0) (aa 3))),(bf (ae (aa 1) (ae (aa 2) af)))])))),?_];obtain⟨⟨dx,hx⟩,htb⟩:=id hb;rfl';refine#[_,_,hx,Y,x,p,e,t,u,d,m,tb,Y,hb,eB,bB,λl xs H1 s1 y hl hT=>?_];have tl:=hT.len;rw[oY] at tl;refine#[l,Y,#[_,ah.of hl],J1 (row:=rowOf H1) (acR (by lia:xs.length<=64) (by decide)) (xT (R:=λ_ x (r:P2 × S2)=>kx H1 x r) (R':=eG) (p:=λr=>decide (r.1.1=i)) (f:=λr=>(r.1.2.toNat,r.2)) (λy y y y y h=>h) (λy y y y s' h=>h.same s') hT (bs:=[]) trivial (λH' s'=>Ka hl hT s') (λx r y H2 s2 h1 Q h=>?_) (λx r bG hp H2 s2 h1 Q h=>?_) λH2 zs s2 hz=>?_)]
 .obtain⟨ta,w,rfl,ha,hw⟩:=h1;unfold o6;dsimp only;rw[tM ha];rfl';exact x5 (Q:=λk=>Q k H2) h
 .obtain⟨ta,w,rfl,ha,wp,rfl,hw⟩:=h1;unfold o7;dsimp only;rw[tM ha];rfl';have bU:=h0 r (tI bG);refine#[bg,λt1 mq=>h _ _ (aw mq) #[t1,wp,Y,?_,(aw mq) _ _ (s2 _ _ hw)]];rw[ao];show O (HO.tup [.int r.1.2,.ref wp])=O (.tup [.int ((r.1.2.toNat:Nat):Int),.ref wp]);rw[aeU bU]
 .rw[adl] at hz;intro l2 bM;exact q l2 zs _ (s1.trans (s2.trans (aw bM))) ((s1.trans s2).free bM) ao (hz.imp λy y r=>r.same (aw bM))
inductive Yy(B:ac4)(vs:List V)(H:Hp)(Q:VK)(aT:XK):Prop
 | mk(x p o:ac4)(e t u d m:Int)(tb:Tb)(es:List Int)(_:vs=[.ref x,.ref o])(_:br B H x e t u d m p tb)(_:(tb.map (·.1)).Nodup)(_:tb.length<64)(_:(∀ r∈tb,0<=r.1.2))(_:ah K H o (es.map V.int))(_:es.length<=100)(_:∀ l ys H',aj H H'->H' l=O (.lst ys)->ax (eG H') ys (((m8 tb).filter λr=>!es.contains r.1.1).map λr=>(r.1.2.toNat,r.2))->Q (.ref l) H')
theorem Mx(T:aH):aR 2 T.uT (Yy T.aN):=by
 refine ba Ek ?_;rintro y y y s H y Q y hr ⟨x,p,o,e,t,u,d,m,tb,es,rfl,hb,eB,bB,h0,ho,tR,q⟩;refine#[_,(ak (aA (xb (g:=je K 3 (cJ (bZ 0) (cJ (bZ 1) (cJ (bZ 2) iO)))) (ki.mk (own:=["teller","turn","word"]) (fr:=[1]) (ys:=["some"]) Y (by decide +kernel) Y (by decide +kernel) Y (.cons rfl .nil) (.cons rfl Y Y Y .nil) Y) Y (cT (G3 (aa 0) T.bY T.Mb (Ms T) hr.m T.mh.b .nil c7)) (λC s2 H2 ex pn=>jf (n:=3) Y (da (gh (i:=0) (show (["teller","turn","word","some"]:List Str).Nodup by decide) Y (.inl (ado Y)) (.inr (ado Y))) (da (gh (i:=1) (show (["teller","turn","word","some"]:List Str).Nodup by decide) Y (.inl (ado Y)) (.inr (ado Y))) (da (gh (i:=2) (show (["teller","turn","word","some"]:List Str).Nodup by decide) Y (.inl (ado Y)) (.inr (ado Y))) jd)))) (λC s2 H2 ex pn=>#[(kh (gk (Rv (K:=K) Y) (aa 0) (aa 3) (by with_unfolding_all rfl))),(bf (ae (aa 1) (ae (aa 2) af)))])))),?_];obtain⟨⟨dx,hx⟩,htb⟩:=id hb;rfl';refine#[_,_,hx,Y,x,p,e,t,u,d,m,tb,Y,hb,eB,bB,λl xs H1 s1 y hl hT=>?_];have tl:=hT.len;rw[oY] at tl;refine#[l,Y,#[_,ah.of hl],J1 (row:=rowOf H1) (acR (by lia:xs.length<=64) (by decide)) (xT (R:=λ_ x (r:P2 × S2)=>kx H1 x r) (R':=eG) (p:=λr=>!es.contains r.1.1) (f:=λr=>(r.1.2.toNat,r.2)) (λy y y y y h=>h) (λy y y y s' h=>h.same s') hT (bs:=[]) trivial (λH' s'=>Ka hl hT s') (λx r y H2 s2 h1 Q h=>?_) (λx r bG hp H2 s2 h1 Q h=>?_) λH2 zs s2 hz=>?_)]
 .obtain⟨ta,w,rfl,ha,hw⟩:=h1;unfold o6;dsimp only;rw[tM ha];rfl';refine#[o,_,Y,.inl ((s1.trans s2).seq ho),Y,J9 es,_,Y,?_];rw[BP,if_pos Y];exact h
 .obtain⟨ta,w,rfl,ha,wp,rfl,hw⟩:=h1;unfold o7;dsimp only;rw[tM ha];rfl';have bU:=h0 r (tI bG);refine#[bg,λt1 mq=>h _ _ (aw mq) #[t1,wp,Y,?_,(aw mq) _ _ (s2 _ _ hw)]];rw[ao];show O (HO.tup [.int r.1.2,.ref wp])=O (.tup [.int ((r.1.2.toNat:Nat):Int),.ref wp]);rw[aeU bU]
 .rw[adl] at hz;intro l2 bM;exact q l2 zs _ (s1.trans (s2.trans (aw bM))) ao (hz.imp λy y r=>r.same (aw bM))
inductive Yz(vs:List V)(H:Hp)(Q:VK)(aT:XK):Prop
 | mk(v u:V)(s:S2)(p:P2)(_:vs=[v,u])(_:aO H v s.1 s.2)(_:eM H u p)(_:∀ r H',aj H H'->H r=J->H' r=O (.tup [ev (eX s p).1,ev (eX s p).2])->Q (.ref r) H')
theorem My(T:aH):aR 1 T.uH Yz:=by
 refine ba uu ?_;rintro y y y y y y y y hr ⟨v,u,⟨lo,hi⟩,⟨p1,p2⟩,rfl,⟨a,rfl,ha⟩,⟨b,rfl,hb⟩,q⟩;refine#[_,(aq (aP 2 uu.nd (gO (c8 (ay (aa 0) ag)) bE (az bD (ay (aa 0) ag) (ay (aa 1) ag)))) (aq (aP 3 uu.nd (gO (c8 (ay (aa 0) ag)) bE (az bD (ay (aa 0) ag) (ay (aa 1) ag)))) (ak (aA (bf (ae (aa 2) (ae (aa 3) af))))))),?_];rcases lo with y|lo<;>rcases hi with y|hi
 all_goals simp only[Bj,Bk] at ha
 all_goals
  rfl'
  repeat' first
  | refine bX ha ?_
  | refine bX hb ?_
  | (walk_at "p")
 all_goals exact#[bg,λr hr=>q r _ (aw hr) hr ao]
theorem YA(h:ax (λv (s:S2)=>aO H v s.1 s.2) zs ss)(h0:0<ss.length):∃ v,dq zs (-1)=O v/\aO H v (bw ss (ss.length-1)).1 (bw ss (ss.length-1)).2:=by
 have hl:=h.len;obtain⟨v,hv,r⟩:=h.at (acP (l:=ss) (i:=ss.length-1) (by lia));have e:zs=zs.take (ss.length-1)++[v]:=by have:=aeD (ss.length-1) zs;rw[adN (by lia),agG (by lia)] at this;rw[acP (by lia)] at hv;cases hv;exact this.symm
 refine#[v,by rw[e];exact wO _ _,?_];unfold bw;rw[acO,acP (by lia)];exact r
inductive YB(vs:List V)(H:Hp)(Q:VK)(aT:XK):Prop
 | mk(a b:ac4)(xs ys:List V)(ws:List W2)(ps:List P2)(_:vs=[.ref a,.ref b])(_:ah K H a xs)(_:ax (fA H) xs ws)(_:ah K H b ys)(_:d8 H ys ps)(_:ws.length<=ps.length+1)(_:ws.length<=1000)(_:(∀ t,t<ws.length->aZ (fE ws) (aF ps) t=J->∀ H',aj H H'->Q .non H'))(_:((∀ t,t<ws.length->aZ (fE ws) (aF ps) t≠J)->∀ l zs ss H',aj H H'->H l=J->H' l=O (.lst zs)->ax (m9 H') zs ss->ss.length=ws.length->(∀ t,t<ws.length->aZ (fE ws) (aF ps) t=O (bw ss t))->Q (.ref l) H'))
inductive Mz(H:Hp)(a b l:ac4)(ws:List W2)(ps:List P2)(i:Nat)(L:St)(H1:Hp):Prop
 | mk(zs:List V)(ss:List S2)(e1 e2 e3:Option V)(_:L=[O (.ref a),O (.ref b),O (.ref l),e1,e2,e3])(_:aj H H1)(_:H1 l=O (.lst zs))(_:ax (m9 H1) zs ss)(_:ss.length=i)(_:∀ t,t<i->aZ (fE ws) (aF ps) t=O (bw ss t))
theorem MA(T:aH):aR 3 T.uI YB:=by
 refine ba nC ?_;rintro y y y y H y y y hr ⟨a,b,xs,ys,ws,ps,rfl,hS,hW,hT,hP,hl,hn,q0,q⟩;refine#[_,(aq (aP 2 nC.nd (cK af)) (aq (cU adE Y (AU Y T.yy (ae (aa 0) af)) (jf Y (da (cp 3 nC.nd) (da (cp 4 nC.nd) jd))) (aq (aP 5 nC.nd (aa 4)) (aq (aE (PW.pt (jc (nz (aa 3) ag) (jU (iJ (aa 4))))) (ak (aP 5 nC.nd (aG (E2 T) hr (ae (aa 4) (ae (aG (My T) hr (ae (ay (aa 2) (eO fb ag)) (ae (ay (aa 1) (az dR (aa 3) ag)) af))) af))))) aI) (aq (aE (c8 (aa 5)) (ak (aA bE)) aI) (ak (fJ (dJ ad0 aee aef mQ (aa 2) (ae (aa 5) af)))))))) (ak (aA (aa 2))))),?_];have l1:=hW.len;have l2:=hP.len;rfl';refine#[by decide,λl gI=>?_];have s1:=aw (o:=.lst []) gI;have e1:upd H l (.lst []) l=O (.lst []):=ao;generalize upd H l (.lst [])=H1 at s1 e1 ⊢;rfl';refine#[#[_,s1.seq hS],A0 (xs:=xs) (Mz H a b l ws ps) #[[],[],_,_,_,Y,s1,e1,trivial,Y,λt h=>absurd h (ae0 _)] ?_ ?_ ?_]
 .rintro i L H2 y ⟨y,y,y,y,y,y,s2,y⟩;exact s2.seq hS
 .rintro i x L H2 p hx ⟨zs,ss,d1,d2,d3,rfl,s2,bM,hz,hlen,gJ⟩ hp;obtain⟨w,hw,r⟩:=hW.get hx;have sp:=aw (o:=.tup [.int i,x]) hp;refine mV (au.of ao) ?_;generalize upd H2 p (.tup [.int i,x])=H3 at sp ⊢;have s3:=s2.trans sp;have r3:=r.same s3;have cg:=sp _ _ bM;have dF:=hz.imp λy y r=>aO.same r sp;have zl:=hz.len;have ew:fE ws i=w:=by unfold fE;rw[acO,hw];rfl
  have hi:=(acX.mp hx).1;have add:∀ (v:V) (k:S2) (H4:Hp) (d1 d2 d3:Option V),aj H3 H4->aO H4 v k.1 k.2->aZ (fE ws) (aF ps) i=O k->Mz H a b l ws ps (i+1) [O (.ref a),O (.ref b),O (.ref l),d1,d2,d3] (upd H4 l (.lst (zs++[v]))):=λv k H4 d1 d2 d3 s4 hv ek=>by
   have E9:=s4 _ _ cg;refine#[zs++[v],ss++[k],d1,d2,d3,Y,j9 gI (s3.trans s4),ao,?_,by rw[ac7,adb,hlen],λt ht=>?_]
   .exact ((dF.imp λy y r=>aO.same r s4).snoc hv).imp λy y r=>aO.put r E9
   .unfold bw;rw[acO];by_cases e:t=i
    .subst e;rw[ek,ad6 (by lia),hlen,ahK];rfl
    .rw[gJ t (by lia),aen (by lia)];unfold bw;rw[acO]
  cases w with
  | none =>
   obtain rfl:x = .non:=r3;have e0:aZ (fE ws) (aF ps) i=J:=by
    cases i with
    | zero=>exact ew
    | succ i=>unfold aZ;rw[ew]
   rfl';have fin:=q0 i (by lia) e0 _ s3;exact bo (λy=>fin) λy=>fin
  | some k =>
   obtain⟨rp,rfl,hrp⟩:=id (show aO H3 x k.1 k.2 from r3);cases i with
   | zero =>
    rfl';exact#[.inl #[Y,_,ah.of cg],_,cg,adS (by lia:zs.length<=1000) (by decide),add _ k _ _ _ _ (aj.refl _) r3 ew]
   | succ i =>
    rfl';rw[if_pos (by lia)];obtain⟨v,hv,rv⟩:=YA (ss:=ss) dF (by lia);obtain⟨u,hu,ru⟩:=hP.at (acP (l:=ps) (i:=i) (by lia));have ep:ps[i]'(by lia)=aF ps i:=by unfold aF;rw[acO,acP (by lia)];rfl
    rw[ep] at ru;rw[show (((i+1:Nat):Int)-1)=((i:Nat):Int) by lia];refine aU (ah.of cg) hv (aU (s3.seq hT) (cZ hu) ?_);rw[hlen,ahM] at rv;refine#[v,u,bw ss i,aF ps i,Y,rv,ru.same s3,λr H4 s4 y i6=>?_];refine#[_,_,k.1,k.2,_,_,Y,#[rp,Y,s4 _ _ hrp],#[r,Y,i6],λy H5 s5 hy=>?_];have ek:=gJ i (by lia);have en:aZ (fE ws) (aF ps) (i+1)=iF k (eX (bw ss i) (aF ps i)):=by
     show (match fE ws (i+1),aZ (fE ws) (aF ps) i with
      | some b,O k=>iF b (eX k (aF ps i))
      | _,_=>J)=_
     rw[ew,ek]
    have pX:=(s4.trans s5) _ _ cg;unfold iF at en;cases hc:aY (eU k.1 (eX (bw ss i) (aF ps i)).1) (eV k.2 (eX (bw ss i) (aF ps i)).2) with
    | true =>
     rw[if_pos hc] at en;obtain rfl:=hy.1 hc;rfl';exact q0 (i+1) (by lia) en _ (s3.trans (s4.trans s5))
    | false =>
     rw[if_neg (by rw[hc];simp)] at en;have vS:=hy.2 hc;obtain⟨yp,rfl,hyp⟩:=id vS;rfl';exact#[.inl #[Y,_,ah.of pX],_,pX,adS (by lia:zs.length<=1000) (by decide),add _ _ _ _ _ _ (s4.trans s5) vS en]
 .rintro L H2 ⟨zs,ss,d1,d2,d3,rfl,s2,bM,hz,hlen,gJ⟩;rfl';rw[l1] at hlen gJ;exact q (λt ht=>by rw[gJ t ht];simp) l zs ss H2 s2 gI bM hz hlen gJ
inductive YC(vs:List V)(H:Hp)(Q:VK)(aT:XK):Prop
 | mk(a:ac4)(xs:List V)(ms:List Mk)(t:Nat)(_:vs=[.ref a,.int t])(_:ah K H a xs)(_:ax (eG H) xs ms)(_:ms.length<=1000)(_:∀ l ys H',aj H H'->H' l=O (.lst ys)->aX H' ys (atT ms t)->Q (.ref l) H')
theorem YD(T:aH):aR 1 T.uJ YC:=by
 refine ba Ed ?_;rintro y y y s H y Q y y ⟨a,xs,ms,t,rfl,hS,hM,hn,q⟩;refine#[_,(ak (aA (dC (cO [1] ["turn"]) Y (cT (aa 0)) (λC s2 H2 ex pn=>#[(kh (bW (eF (K:=K) (aa 0) ag) (aa 1))),(eF (K:=K) (aa 0) ag)])))),?_];have hl:=hM.len;rfl';refine#[#[_,hS],cM gU (acR (by lia:xs.length<=1000) (by decide)) (qV (R:=eG H) (R':=λv (s:S2)=>aO H v s.1 s.2) (p:=λm=>decide (m.1=t)) (f:=λm=>m.2) hS hM (λx m r Q h=>?_) (λx m hp r Q h=>?_) λzs hz=>?_)]
 .obtain⟨tp,sp,rfl,h1,h2⟩:=r;rfl';refine bX h1 ?_;rfl';refine x5 (Q:=λk=>Q k H) ?_;rw[show decide ((m.1:Int)=(t:Int))=decide (m.1=t) from decide_eq_decide.mpr (by lia)];exact h
 .obtain⟨tp,sp,rfl,h1,h2⟩:=r;rfl';exact aB (au.of h1) Y (h _ #[sp,Y,h2])
 .rw[adl];intro l hl;exact q l zs _ (aw hl) ao (jw.mpr (hz.imp λy y r=>r.same (aw hl)))
theorem ax.rev:∀ {xs:List V} {as:List α},ax R xs as->ax R xs.reverse as.reverse
 | [],[],_=>trivial
 | x::xs,a::as,h=>by rw[agM,agM];exact (ax.rev h.2).app #[h.1,trivial]
 | [],_::_,h=>h.elim
 | _::_,[],h=>h.elim
inductive MB(vs:List V)(H:Hp)(Q:VK)(aT:XK):Prop
 | mk(a b:ac4)(xs ys:List V)(ps:List P2)(ms:List Mk)(_:vs=[.ref a,.ref b])(_:ah K H a xs)(_:d8 H xs ps)(_:ah K H b ys)(_:ax (eG H) ys ms)(_:dw ps)(_:ps.length<=900)(_:ms.length<=1000)(_:(∀ t,t<=ps.length->aZ (bK ms) (aF ps) t=J->∀ H',aj H H'->Q .non H'))(_:((∀ t,t<=ps.length->aZ (bK ms) (aF ps) t≠J)->∀ l zs ss H',aj H H'->H l=J->H' l=O (.lst zs)->ax (m9 H') zs ss->ss.length=ps.length+1->(∀ t,t<=ps.length->cP ps.length (bK ms) (aF ps) t=O (bw ss t))->Q (.ref l) H'))
theorem MC(T:aH):aR 4 T.uK MB:=by
 refine ba uv ?_;rintro y y y s H y Q y hr ⟨a,b,xs,ys,ps,ms,rfl,hS,hP,hT,hM,ar,hn,hm,q0,q⟩;refine#[_,(aq (aP 2 uv.nd (aG (MA T) hr (ae (dC (cO [1] ["marks"]) Y (fL Y T.fc (ae (az bD (bA dk (by rfl) T.di dh (ae (aa 0) af)) ag) af)) (λC s2 H2 ex pn=>#[dt,(aG (E8 T) hr (ae (aG (YD T) hr (ae (aa 1) (ae (aa 0) af))) af))])) (ae (aa 0) af)))) (aq (aE (c8 (aa 2)) (ak (aA bE)) aI) (aq (oJ (i:=3) (cO [] []) Y uv.nd Y Y (RK Y T.Xj (ae (aa 0) af)) (λC s2 H2 ex pn=>#[dt,(bf (ae (eO fb (eF (K:=K) (aa 0) ag)) (ae (eO fb (eF (K:=K) (aa 0) ag)) af)))])) (ak (aA (J6 (aG (MA T) hr (ae (J6 (aa 2) (eO fb ag)) (ae (aa 3) af))) (eO fb ag))))))),?_];have l1:=hP.len;rfl';refine#[_,eQ hS,by lia,by lia,?_];rw[l1,show ((ps.length:Int)+1).toNat=ps.length+1 by lia];refine cM mT (by rw[acN,adj];exact acR (by lia:_<=901) (by decide)) (iB (R:=λ_ x (k:Nat)=>x=V.int ((0:Int)+k)) (R':=fA) (f:=λ(k:Nat)=>bK ms k) (λy y y y y h=>h) (λy y y y s' h=>h.same s') (ax.iM _) (bs:=[]) trivial (λy y=>trivial) (λx k y H2 s2 r Q h=>?_) (λx k y H2 s2 r Q h=>?_) λH2 zs s2 hz=>?_)
 .rfl';exact h
 .subst r;rfl';rw[show (0:Int)+(k:Nat)=((k:Nat):Int) by lia];refine#[b,ys,ms,k,Y,s2.seq hT,hM.imp λy y r=>r.same s2,hm,λl zs H3 s3 hl hs=>?_];refine#[l,zs,_,Y,ah.of hl,hs,?_,λv H4 s4 hv=>h H4 v (s3.trans s4) hv];rw[hs.len];unfold atT;rw[acN];exact acR (ad1 _ _) hm
 rw[adl] at hz;intro c hc;have s3:=s2.trans (aw (o:=.lst zs) hc);have c3:upd H2 c (.lst zs) c=O (.lst zs):=ao;have dF:=hz.imp λy y r=>r.same (aw (o:=.lst zs) hc);generalize upd H2 c (.lst zs)=H3 at s3 c3 dF ⊢;clear hz hc s2;have wl:((adu (ps.length+1)).map λ(k:Nat)=>bK ms k).length=ps.length+1:=by rw[acN,adj]
 have we:∀ t,t<=ps.length->fE ((adu (ps.length+1)).map λ(k:Nat)=>bK ms k) t=bK ms t:=λt ht=>by unfold fE;rw[acO,ac1,adM (by lia)];rfl
 have ne:∀ t,t<=ps.length->aZ (fE ((adu (ps.length+1)).map λ(k:Nat)=>bK ms k)) (aF ps) t=aZ (bK ms) (aF ps) t:=λt ht=>BJ t (λk hk=>we k (by lia)) λk y=>rfl;refine#[c,a,zs,xs,_,ps,Y,ah.of c3,dF,s3.seq hS,hP.same s3,by rw[wl];exact acS _,by rw[wl];lia,λt ht en H4 s4=>?_,λbp l ic ss H4 s4 y hl ff ke gJ=>?_]
 .rw[wl] at ht;rw[ne t (by lia)] at en;rfl';exact q0 t (by lia) en _ (s3.trans s4)
 rw[wl] at bp gJ ke;have MD:∀ t,t<=ps.length->aZ (bK ms) (aF ps) t≠J:=λt ht z=>bp t (by lia) (by rw[ne t ht];exact z);have YE:∀ t,t<ps.length+1->aZ (bK ms) (aF ps) t=O (bw ss t):=λt ht=>by rw[<- ne t (by lia)];exact gJ t ht
 have TB:=BM ar MD;have S4:=s3.trans s4;rfl';refine#[xs,S4.seq hS,Ut (acR (by lia:_<=900) (by decide)) (iB (R:=eM) (R':=eM) (f:=λp=>(-p.2,-p.1)) (λy y y y s' h=>h.same s') (λy y y y s' h=>h.same s') (ax.rev (hP.same S4)) (bs:=[]) trivial (λH' s'=>(S4.trans s').seq hS) (λx k y H2 s2 r Q h=>?_) (λx k y H2 s2 r Q h=>?_) λH5 bs s5 hb=>?_)]
 .rfl';exact h
 .obtain⟨t,rfl,ht⟩:=r;rfl';refine bX ht ?_;rfl';refine bX ht ?_;rfl';exact#[bg,λp hp=>h _ _ (aw hp) #[p,Y,ao]]
 rw[adl] at hb;intro d hd;have s6:=s5.trans (aw (o:=.lst bs) hd);have d6:upd H5 d (.lst bs) d=O (.lst bs):=ao;have ME:d8 (upd H5 d (.lst bs)) bs (lH ps):=hb.imp λy y r=>r.same (aw (o:=.lst bs) hd);generalize upd H5 d (.lst bs)=H6 at s6 d6 ME ⊢;clear hb hd s5;refine#[ic,ah.of (s6 _ _ hl),λp hp=>?_];have s7:=s6.trans (aw (o:=.lst ic.reverse) hp);have p7:upd H6 p (.lst ic.reverse) p=O (.lst ic.reverse):=ao;have d7:=(aw (o:=.lst ic.reverse) hp) _ _ d6;have MF:d8 (upd H6 p (.lst ic.reverse)) bs (lH ps):=ME.same (aw (o:=.lst ic.reverse) hp);generalize upd H6 p (.lst ic.reverse)=H7 at s7 p7 d7 MF ⊢;have rl:(ss.reverse.map O).length=ps.length+1:=by rw[acN,aeR,ke]
 have bl:(lH ps).length=ps.length:=by unfold lH;rw[acN,aeR]
 have be:∀ t,t<=ps.length->aZ (fE (ss.reverse.map O)) (aF (lH ps)) t=cP ps.length (bK ms) (aF ps) (ps.length-t):=λt ht=>back_eq ke YE ht;refine#[p,d,_,bs,ss.reverse.map O,lH ps,Y,ah.of p7,ax.By (ax.rev (ff.imp λy y r=>aO.same r s7)),ah.of d7,MF,by rw[rl,bl];exact acS _,by rw[rl];lia,λt ht en H8 s8=>?_,λy l3 YF YG H8 s8 fl3 cg YH Fc MG=>?_]
 .rw[rl] at ht;rw[be t (by lia)] at en;obtain⟨z,ez,y⟩:=TB.ok (ps.length-t) (by lia);rw[en] at ez;cases ez
 rw[rl] at Fc MG;have S8:=S4.trans (s7.trans s8);refine#[l3,Y,YF,ah.of cg,λp3 vT=>q MD p3 _ YG.reverse _ (S8.trans (aw vT)) (S8.free vT) ao (ax.rev (YH.imp λy y r=>aO.same r (aw vT))) (by rw[aeR,Fc]) λt ht=>?_];rw[Uh Fc ht,<- MG (ps.length-t) (by lia),be _ (by lia),show ps.length-(ps.length-t)=t by lia]
inductive YI(vs:List V)(H:Hp)(Q:VK)(aT:XK):Prop
 | mk(n:Nat)(_:vs=[.int n])(_:n<=7)(_:∀ l ys H',aj H H'->H' l=O (.lst ys)->ax (lK H') ys (cW n)->Q (.ref l) H')
inductive YJ(H:Hp)(n i:Nat)(L:St)(H1:Hp):Prop
 | mk(l:ac4)(ys:List V)(e:Option V)(_:L=[O (.int n),O (.ref l),e])(_:aj H H1)(_:H1 l=O (.lst ys))(_:ax (lK H1) ys (cW i))
theorem YK(T:aH):aR 1 T.uW YI:=by
 refine ba rH ?_;rintro y y y s H y Q y y ⟨n,rfl,hn,q⟩;refine#[_,(aq (aP 1 rH.nd (cK (ae (cK af) af))) (aq (cU adE Y (fL Y T.fc (ae (aa 0) af)) (cp 2 rH.nd) (ak (aP 1 rH.nd (az mR (aa 1) (dC (cO [2] ["eye"]) Y (cT (aa 1)) (λC s2 H2 ex pn=>#[dt,(az mR (aa 0) (cK (ae (aa 1) af)))])))))) (ak (aA (aa 1))))),?_];rfl';refine#[adt _,λp hp=>#[by decide,λr bG=>#[by lia,by lia,?_]]];have u1:=aw (o:=.lst []) hp;have u2:=aw (o:=.lst [.ref p]) bG;rw[adL];refine lg (YJ H n) #[r,_,_,Y,u1.trans u2,ao,#[#[p,Y,u2 _ _ ao],trivial]] ?_ ?_
 .rintro i L H1 hi ⟨l,ys,e,rfl,s1,hl,hy⟩;have yl:=hy.len;rw[tO] at yl;have p2:2 ^ i<=2 ^ 7:=ahd (by decide) (by lia);rfl';refine#[#[_,ah.of hl],cM gU (acR (by lia:ys.length<=128) (by decide)) (iB (R:=lK) (R':=lK) (f:=λs=>s++[((i:Nat):Int)]) (λy y y y s' h=>h.same s') (λy y y y s' h=>h.same s') hy (bs:=[]) trivial (λH' s'=>ah.of (s' _ _ hl)) (λx s y H2 s2 r Q h=>?_) (λx s hs H2 s2 r Q h=>?_) λH2 zs s2 hz=>?_)]
  .rfl';exact h
  .obtain⟨a,rfl,ha⟩:=r;have sl:=tP i s hs;rfl';refine#[by decide,λb hb=>#[_,(aw hb) _ _ ha,_,ao,acR (by rw[acN];show s.length+1<=20;lia) (by decide),λc hc=>h _ _ ((aw hb).trans (aw hc)) #[c,Y,?_]]];rw[ao,adx,show (0:Int)+(i:Int)=((i:Nat):Int) by lia];rfl
  .rw[adl] at hz;intro d hd;have ud:=aw (o:=.lst zs) hd;have zl:=hz.len;rw[acN,tO] at zl;refine#[d,Y,ys,(s2.trans ud) _ _ hl,zs,ao,acR (by lia:ys.length+zs.length<=256) (by decide),λc hc=>?_];have uc:=aw (o:=.lst (ys++zs)) hc;exact#[c,_,_,Y,s1.trans (s2.trans (ud.trans uc)),ao,(hy.imp λy y r=>r.same (s2.trans (ud.trans uc))).app (hz.imp λy y r=>r.same (ud.trans uc))]
 .rintro L H1 ⟨l,ys,e,rfl,s1,hl,hy⟩;rfl';exact q l ys H1 s1 hl hy
theorem YL(hx:ah K H x xs)(hP:d8 H xs ps)(hy:ah K H y ys)(hM:ax (eG H) ys ms)(ar:dw ps)(hn:ps.length<=41)(hm:ms.length<=64)(q:∀ f H',aj H H'->lM H' f (g8 ps ms)->Q f H'):MB [.ref x,.ref y] H Q E0:=by
 refine#[x,y,xs,ys,ps,ms,Y,hx,hP,hy,hM,ar,by lia,by lia,λt ht en H' s'=>q _ _ s' ?_,λbp l zs ss H' s' fl hl hz ke gJ=>q _ _ s' ?_]
 .have e:g8 ps ms=J:=if_pos (aeb.mpr #[t,aeg.mpr (by lia),by rw[en];rfl]);rw[e];rfl
 .have e0:¬ ((adu (ps.length+1)).any λt=>(aZ (bK ms) (aF ps) t).isNone)=true:=λz=>by obtain⟨t,ht,h⟩:=aeb.mp z;exact bp t (by have:=aeg.mp ht;lia) (ahW.mp h)
  have e:g8 ps ms=O ss:=by
   unfold g8;rw[if_neg e0]
   congr 1
   refine aeT λt=>?_;by_cases ht:t<ps.length+1
   .have es:ss[t]?=O (bw ss t):=by unfold bw;rw[acO,acP (by lia)];rfl
    rw[ac1,adM ht,es];simp only[Option.map_some];rw[gJ t (by lia)];rfl
   .rw[adI (by rw[acN,adj];lia),adI (by lia)]
  rw[e];exact#[l,zs,Y,hl,hz]
theorem YM(h : -d<=u):∀ {n:Nat} {ys:List V},ax (fA H) ys (dz u d [] n)->d8 H ys (acY n (-d,u)):=by
 intro n ys hy;have e:dz u d [] n=(adu n).map λy=>O (O (-d),O u):=by
  unfold dz;refine ad9 λk y=>?_;show dE (J,J) [(O (-d),O u)]=O (O (-d),O u);unfold dE;rw[if_neg]
  .rfl
  .show ¬ (aY (O (-d)) (O u))=true;simp[aY];lia
 rw[e] at hy;have r:acY n ((-d,u):P2)=(adu n).map λy=>(-d,u):=by
  refine aeT λk=>?_;rw[adY,ac1];by_cases hk:k<n
  .rw[if_pos hk,adM hk];rfl
  .rw[if_neg hk,adI (by rw[adj];lia)];rfl
 rw[r];exact ax.By ((ax.bind hy).imp λy y z=>z)
inductive YN(B:ac4)(vs:List V)(H:Hp)(Q:VK)(aT:XK):Prop
 | mk(x p:ac4)(e t u d m:Int)(tb:Tb)(_:vs=[.ref x])(_:br B H x e t u d m p tb)(_:(1<=e/\e<=7))(_:(1<=t/\t<=12))(_:0<=u)(_:0<=d)(_:bV e t tb)(_:tb.length<64)(_:∀ l zs H',aj H H'->H' l=O (.lst zs)->ax (λv ss=>lM H' v (O ss)) zs (((cW e.toNat).filter λs=>decide ((s.length:Int)=m)).filterMap λs=>g8 (acY (t-1).toNat (-d,u)) (cH tb s))->Q (.ref l) H')
theorem YO(T:aH):aR 5 T.uX (YN T.aN):=by
 refine ba rJ ?_;rintro y y y s H y Q y hr ⟨x,p,e,t,u,d,m,tb,rfl,hb,he,ht,hu,hd,ar,bB,q⟩;refine#[_,(aq (aP 1 rJ.nd (aG (Mv T) hr (ae (aa 0) (ae (cK af) af)))) (aq (oJ (i:=2) (cO [0] ["board"]) Y rJ.nd Y Y (cT (aG (YK T) hr (ae (eE Y (aa 0) Y) af))) (λC s2 H2 ex pn=>#[(kh (bW (bA (Ru (K:=K) Y) (by rfl) T.di dh (ae (aa 0) af)) (eE (K:=K) Y (aa 1) Y))),(aa 0)])) (aq (oJ (i:=3) (cO [1,0] ["steps","board"]) Y rJ.nd Y Y (cT (aa 2)) (λC s2 H2 ex pn=>#[dt,(aG (MC T) hr (ae (aa 1) (ae (aG (Mx T) hr (ae (aa 2) (ae (aa 0) af))) af)))])) (ak (aA (dC (cO [] []) Y (cT (aa 3)) (λC s2 H2 ex pn=>#[(kh (iJ (aa 0))),(aa 0)]))))))),?_];obtain⟨⟨dx,hx⟩,kvs,hk,hT⟩:=id hb;rfl';refine#[adt _,λr bG=>?_];have u1:=aw (o:=.lst []) bG;refine#[x,p,r,e,t,u,d,m,kvs,[],[],Y,#[#[dx,u1 _ _ hx],u1 _ _ hk],ht.1,ht.2,ah.of ao,trivial,by decide,λz=>absurd (λy h=>(nomatch h)) z,λy st ys H1 s1 y de hy=>?_];have S1:=u1.trans s1;have MH:=YM (by lia) hy;have rl:(acY (t-1).toNat ((-d,u):P2)).length<=11:=by rw[adA];lia
 have MI:dw (acY (t-1).toNat ((-d,u):P2)):=λq hq=>by rw[(ahI.mp hq).2];show -d<=u;lia
 generalize acY (t-1).toNat ((-d,u):P2)=ps at MH rl MI q;refine#[_,_,_,S1 _ _ hx,T.bY,T.rQ,_,Y,?_];refine#[e.toNat,by rw[aeU (by lia)],by lia,λa YQ H2 s2 ha hc=>?_];have S2:=S1.trans s2;have al:=hc.len;rw[tO] at al;have p2:2 ^ e.toNat<=2 ^ 7:=ahd (by decide) (by lia);refine#[a,Y,#[_,ah.of ha],cM gU (acR (by lia:YQ.length<=128) (by decide)) (BO (R:=lK) (p:=λs=>decide ((s.length:Int)=m)) (λy y y y s h=>h.same s) hc (λH' s'=>ah.of (s' _ _ ha)) (λv s y H3 s3 r Q h=>?_) (λv H3 s3 Q h=>?_) λH3 cs s3 hz=>?_)]
 .obtain⟨l,rfl,hl⟩:=r;rfl';refine#[_,eQ (ah.of hl),_,_,_,(S2.trans s3) _ _ hx,T.bY,T.rR,_,Y,?_];rw[acN];rfl';exact x5 (Q:=λk=>Q k H3) (h _ (aj.refl _))
 .rfl';exact h
 rw[adl];intro c YR;have u3:=aw (o:=.lst cs) YR;have S3:=S2.trans (s3.trans u3);have zl:=hz.len;have fl:=ad1 (λs:List Int=>decide ((s.length:Int)=m)) (cW e.toNat);rw[tO] at fl;have dF:=hz.imp λy y r=>r.same u3;have c3:upd H3 c (.lst cs) c=O (.lst cs):=ao;generalize upd H3 c (.lst cs)=H4 at u3 S3 dF c3 ⊢;refine#[c,Y,#[_,ah.of c3],cM gU (acR (by lia:cs.length<=128) (by decide)) (iB (R:=lK) (R':=lM) (f:=λs=>g8 ps (cH tb s)) (λy y y y s h=>h.same s) (λy y y y s h=>h.same s) dF (bs:=[]) trivial (λH' s'=>ah.of (s' _ _ c3)) (λv s y H5 s5 r Q h=>?_) (λv s hs H5 s5 r Q h=>?_) λH5 fs s5 hf=>?_)]
 .rfl';exact h
 .obtain⟨l,rfl,hl⟩:=r;have sl:=tP _ _ (adG.mp hs).1;have S5:=S3.trans s5;rfl';refine#[x,p,l,e,t,u,d,m,tb,s,Y,hb.same S5,ar.1,bB,λr hr=>(ar.2 r hr).2.1,ah.of hl,by lia,λl2 ys2 H6 s6 bM hM=>?_];refine YL (ah.of ((s2.trans (s3.trans u3)).trans (s5.trans s6) _ _ de)) (MH.same ((s2.trans (s3.trans u3)).trans (s5.trans s6))) (ah.of bM) hM MI (by lia) ?_ λf H7 s7 hf=>h H7 f (s6.trans s7) hf;rw[acN];exact acR (ad1 _ _) (by rw[oY];lia)
 rw[adl] at hf;intro g hg;have ug:=aw (o:=.lst fs) hg;have g6:upd H5 g (.lst fs) g=O (.lst fs):=ao;have MJ:=hf.imp λy y r=>r.same ug;have S6:=S3.trans (s5.trans ug);have YS:=hf.len;rw[acN] at YS;generalize upd H5 g (.lst fs)=H6 at S6 g6 MJ ⊢;refine#[g,Y,#[_,ah.of g6],cM gU (acR (by lia:fs.length<=128) (by decide)) (BO (R:=lM) (p:=λo=>o.isSome) (λy y y y s h=>h.same s) MJ (λH' s'=>ah.of (s' _ _ g6)) (λv o y H7 s7 r Q h=>?_) (λv H7 s7 Q h=>?_) λH7 ws s7 hw=>?_)]
 .cases o with
  | none =>
   obtain rfl:v = .non:=r;rfl';exact h _ (aj.refl _)
  | some ss =>
   obtain⟨l,zs,rfl,y⟩:=r;rfl';exact h _ (aj.refl _)
 .rfl';exact h
 rw[adl];intro l hl;have ul:=aw (o:=.lst ws) hl;refine q l ws _ (S6.trans (s7.trans ul)) ao ?_;rw[<- map_some];exact BQ (hw.imp λy y r=>r.same ul)
inductive YT(B C:ac4)(vs:List V)(H:Hp)(Q:VK)(E:XK):Prop
 | mk(x p:ac4)(e t u d m:Int)(tb:Tb)(j:Int)(_:vs=[.ref x,.int j])(_:br B H x e t u d m p tb)(_:(1<=e/\e<=7))(_:(1<=t/\t<=12))(_:0<=u)(_:0<=d)(_:bV e t tb)(_:tb.length<64)(_:(¬ (0<=j/\j<t)->E (.ref C) J H))(_:∀ k:Nat,j=(k:Int)->(k:Int)<t->∀ l ys H',aj H H'->H l=J->H' l=O (.lst ys)->aX H' ys (m6 ((o8 e t u d m tb).map λss=>bw ss k))->Q (.ref l) H')
theorem MK(T:aH):aR 6 T.nN (YT T.aN T.jM):=by
 refine kG Em ?_;rintro y y y s H y Q y hr ⟨x,p,e,t,u,d,m,tb,j,rfl,hb,he,ht,hu,hd,ar,bB,q0,q⟩;refine#[_,(aq (aE (cu (cf (fP (aa 0) T.bY T.vM (vQ T) hr.m T.iY.b .nil c7 (ae (aa 1) af)))) (ak (gR gT Y T.L8 T.yZ Y (ae aK af))) aI) (ak (aA (aG (XJ T) hr (ae (dC (cO [1] ["turn"]) Y (cT (aG (YO T) hr (ae (aa 0) af))) (λC s2 H2 ex pn=>#[dt,(eF (K:=K) (aa 0) (aa 1))])) af))))),?_];obtain⟨⟨dx,hx⟩,kvs,hk,hT⟩:=id hb;rfl';refine#[_,_,hx,Y,x,p,e,t,u,d,m,j,kvs,Y,#[#[dx,hx],hk],?_];by_cases hj:0<=j/\j<t
 rotate_left
 .rw[decide_eq_false hj];rfl';exact#[by decide,q0 hj]
 obtain⟨k,rfl⟩:∃ k:Nat,j=(k:Int):=#[j.toNat,by lia]
 have ie:=hj.2;have q:=q k Y ie;rw[decide_eq_true hj];rfl';refine#[x,p,e,t,u,d,m,tb,Y,hb,he,ht,hu,hd,ar,bB,λl zs H1 s1 hl hz=>?_];have hz:ax (λv ss=>lM H1 v (O ss)) zs (o8 e t u d m tb):=hz;have zl:=hz.len;have tl:=Kb (t:=t) (u:=u) (d:=d) (m:=m) (tb:=tb) he.1 he.2;rfl';refine#[#[_,ah.of hl],cM gU (acR (by lia:zs.length<=64) (by decide)) (iB (R:=λ_ v (ss:List S2)=>lM H1 v (O ss)) (R':=m9) (f:=λss=>bw ss k) (λy y y y y h=>h) (λy y y y s h=>aO.same h s) hz (bs:=[]) trivial (λH' s'=>ah.of (s' _ _ hl)) (λv s y H5 s5 r Q h=>?_) (λv ss hs H5 s5 r Q h=>?_) λH5 fs s5 hf=>?_)]
 .rfl';exact h
 .obtain⟨l2,ic,rfl,bM,ff⟩:=r;have rl:=Uy ht.1 hs;have es:ss[k]?=O (bw ss k):=by unfold bw;rw[acO,acP (by lia)];rfl
  obtain⟨w,hw,rw_⟩:=ff.at es;rfl';exact aU (ah.of (s5 _ _ bM)) (cZ hw) (h _ _ (aj.refl _) (aO.same rw_ s5))
 rw[adl] at hf;intro g hg;have ug:=aw (o:=.lst fs) hg;have fl:=hf.len;rw[acN] at fl;exact#[g,fs,_,Y,ah.of ao,by lia,ax.zL (hf.imp λy y r=>aO.same r ug),λl3 ys H6 s6 f6 kL YU=>q l3 ys H6 (s1.trans (s5.trans (ug.trans s6))) ((s1.trans (s5.trans ug)).free f6) kL YU]
noncomputable def gK(ss:List S2)(n:Int):Bool:=(ss.map λs=>hs s n).any id
noncomputable def sgn(b:Bool):Str:=if b=true then ac0 "#" else ac0 "."
inductive YV(vs:List V)(H:Hp)(Q:VK)(aT:XK):Prop
 | mk(l:ac4)(ys:List V)(ss:List S2)(n:Int)(_:vs=[.ref l,.int n])(_:H l=O (.lst ys))(_:aX H ys ss)(_:ss.length<=64)(_:∀ H',aj H H'->Q (.str (sgn (gK ss n))) H')
theorem YW(T:aH):aR 3 T.uY YV:=by
 refine ba Eo ?_;rintro y y y s H y Q y hr ⟨l,ys,ss,n,rfl,hl,hz,bB,q⟩;refine#[_,(ak (aA (gO (cf (bA (RP Y) (by rfl) T.Xh QD (ae (dC (cO [1] ["number"]) Y (cT (aa 0)) (λC s2 H2 ex pn=>#[dt,(aG (XA T) hr (ae (aa 0) (ae (aa 1) af)))])) af))) aK aK))),?_];have zl:ys.length<=64:=by rw[(jw.mp hz).len];exact bB
 rfl';refine#[#[_,ah.of hl],cM gU (acR zl (by decide)) (xm (R:=λv (s:S2)=>aO H v s.1 s.2) (p:=λy=>true) (f:=λs=>V.bl (hs s n)) (ys:=[]) (ah.of hl) (jw.mp hz) (λv s y r Q h=>?_) (λv s y y r Q h=>?_) (λl2 bM=>?_))]
 .rfl';exact h
 .rfl';exact#[v,s.1,s.2,n,Y,r,h]
 .have ef:([]:List V)++(ss.filter λy=>true).map (λs=>V.bl (hs s n))=(ss.map λs=>hs s n).map V.bl:=by rw[adl,aeS.mpr λy y=>rfl,aei];rfl
  rw[ef];refine#[l2,Y,_,ah.of ao,?_];have q:=q _ (aw (o:=.lst ((ss.map λs=>hs s n).map V.bl)) bM);unfold sgn gK at q;refine bo (λh=>?_) λh=>?_
  .rw[if_pos h] at q;exact q
  .rw[if_neg h] at q;exact q
noncomputable def i7(t:Int)(ss:List S2)(lo:Int)(n:Nat):Str:=(ajb (ac0 (toString t)) 3++ac0 " ")++ad4 (ac0 "") ((adu n).map λi=>sgn (gK ss (lo+(i:Nat))))
theorem ML(b:Bool):(sgn b).length=1:=by cases b<;>decide
theorem Fd:∀ {zs:List V} {bs:List Str},ax (λv (b:Str)=>v=V.str b) zs bs->zs=bs.map V.str
 | [],[],_=>rfl
 | _::_,_::_,h=>by rw[h.1,Fd h.2];rfl
theorem MM{t:Int}(h0:0<=t)(h1:t<12):t.natAbs.log2<1920/\(ajb (ac0 (toString t)) 3).length=3:=by rcases (by lia:t=0∨t=1∨t=2∨t=3∨t=4∨t=5∨t=6∨t=7∨t=8∨t=9∨t=10∨t=11) with rfl|rfl|rfl|rfl|rfl|rfl|rfl|rfl|rfl|rfl|rfl|rfl<;>exact#[by decide +kernel,by decide +kernel]
inductive YX(vs:List V)(H:Hp)(Q:VK)(aT:XK):Prop
 | mk(l:ac4)(ys:List V)(ss:List S2)(t lo hi:Int)(_:vs=[.int t,.ref l,.int lo,.int hi])(_:0<=t)(_:t<12)(_:H l=O (.lst ys))(_:aX H ys ss)(_:ss.length<=64)(_:hi-lo<=100)(_:∀ H',aj H H'->Q (.str (i7 t ss lo (hi+1-lo).toNat)) H')
theorem YY(T:aH):aR 4 T.uZ YX:=by
 refine ba yr ?_;rintro y A y s H y Q y hr ⟨l,ys,ss,t,lo,hi,rfl,t0,t1,hl,hz,bB,hn,q⟩;refine#[_,(aq (oJ (i:=4) (cO [1] ["some"]) Y yr.nd Y Y (Vz Y T.fc (ae (aa 2) (ae (az bD (aa 3) ag) af))) (λC s2 H2 ex pn=>#[dt,(aG (YW T) hr (ae (aa 1) (ae (aa 0) af)))])) (ak (aA (az jg (az jg (dJ adU PySem.F.slot_str_rjust PySem.F.type_str_rjust VA (gp jh (by rfl) T.ia gQ (ae (aa 0) af)) (ae ag af)) aK) (dJ adU afv afw VB aK (ae (aa 4) af)))))),?_];rfl';refine cM mT (by rw[acN,adj];exact acR (by lia:_<=101) (by decide)) (iB (R:=λ_ x (k:Nat)=>x=V.int (lo+k)) (R':=λ_ v (b:Str)=>v=V.str b) (f:=λ(k:Nat)=>sgn (gK ss (lo+(k:Nat)))) (λy y y y y h=>h) (λy y y y y h=>h) (ax.iM _) (bs:=[]) trivial (λy y=>trivial) (λx k y H2 s2 r Q h=>?_) (λx k y H2 s2 r Q h=>?_) λH2 zs s2 ff=>?_)
 .rfl';exact h
 .subst r;rfl';exact#[l,ys,ss,_,Y,s2 _ _ hl,hz.same s2,bB,λH' s'=>h _ _ s' Y]
 .intro r hr;obtain rfl:=Fd ff;obtain⟨l0,l1⟩:=MM t0 t1;have ones:∀ s∈[]++(adu (hi+1-lo).toNat).map λ(k:Nat)=>sgn (gK ss (lo+(k:Nat))),s.length=1:=λs hs=>by rw[adl] at hs;obtain⟨k,y,rfl⟩:=ac2.mp hs;exact ML _
  have ln:([]++(adu (hi+1-lo).toNat).map λ(k:Nat)=>sgn (gK ss (lo+(k:Nat)))).length<=101:=by simp;lia
  have sl:(101:Nat)+4<=adh:=by decide
  have l4:(ajb (ac0 (toString t)) 3++ac0 " ").length<=4:=afx (A:=3) (B:=1) (by lia) (by decide);refine#[l0,Y,_,Y,by decide,_,Y,_,Y,by rw[l1];exact acR (by decide:_<=105) sl,Y,r,Y,_,ah.of ao,ones,by lia,_,Y,_,Y,?_,q _ (s2.trans (aw hr))];rw[ajx _ ones];lia
theorem MN(he:1<=e/\e<=7):(gC e t u d m tb k).length<=64:=acR (SG _) (by rw[acN];exact afS (Kb he.1 he.2))
noncomputable def cY(e t u d m:Int)(tb:Tb)(lo hi:Int):List Str:=(adu t.toNat).map λ(k:Nat)=>i7 (k:Nat) (gC e t u d m tb k) lo (hi+1-lo).toNat
inductive YZ(B C:ac4)(vs:List V)(H:Hp)(Q:VK)(E:XK):Prop
 | mk(x p:ac4)(e t u d m:Int)(tb:Tb)(lo hi:Int)(_:vs=[.ref x,.int lo,.int hi])(_:br B H x e t u d m p tb)(_:(1<=e/\e<=7))(_:(1<=t/\t<=12))(_:0<=u)(_:0<=d)(_:bV e t tb)(_:tb.length<64)(_:hi-lo<=100)(_:(hi<lo->E (.ref C) J H))(_:(lo<=hi->∀ l H',aj H H'->H l=J->H' l=O (.lst ((cY e t u d m tb lo hi).map V.str))->Q (.ref l) H'))
theorem Y0(T:aH):aR 7 T.nO (YZ T.aN T.pQ):=by
 refine kG Ep ?_;rintro y y y y y y Q y hr ⟨x,p,e,t,u,d,m,tb,lo,hi,rfl,hb,he,ht,hu,hd,ar,bB,hn,q0,q⟩;refine#[_,(aq (aE (nz (aa 1) (aa 2)) (ak (gR gT Y T.Xl T.EY Y (ae aK af))) aI) (ak (aA (dC (cO [1,2,0] ["low","high","board"]) Y (fL Y T.fc (ae (eE Y (aa 0) Y) af)) (λC s2 H2 ex pn=>#[dt,(aG (YY T) hr (ae (aa 0) (ae (aG (MK T) hr (ae (aa 3) (ae (aa 0) af))) (ae (aa 1) (ae (aa 2) af)))))]))))),?_];obtain⟨⟨dx,hx⟩,kvs,hk,hT⟩:=id hb;rfl';refine bo (λh0=>?_) λh0=>?_
 .rfl';exact#[by decide,q0 h0]
 refine#[_,_,_,hx,T.bY,T.pS,_,Y,t,Y,by lia,by lia,cM mT (by rw[acN,adj];exact acR (by lia:_<=12) (by decide)) (iB (R:=λ_ x (k:Nat)=>x=V.int ((0:Int)+k)) (R':=λ_ v (b:Str)=>v=V.str b) (f:=λ(k:Nat)=>i7 (k:Nat) (gC e t u d m tb k) lo (hi+1-lo).toNat) (λy y y y y h=>h) (λy y y y y h=>h) (ax.iM _) (bs:=[]) trivial (λy y=>trivial) (λx k y H2 s2 r Q h=>?_) (λx k Fe H2 s2 r Q h=>?_) λH2 zs s2 ff=>?_)]
 .rfl';exact h
 .subst r;have ie:=aeg.mp Fe;rfl';refine#[_,p,e,t,u,d,m,tb,0+k,Y,hb.same s2,he,ht,hu,hd,ar,bB,λz=>absurd #[by lia,by lia] z,λj e1 h1 l ys H3 s3 y hl hz=>?_];obtain rfl:k=j:=by lia
  rfl';rw[af2];exact#[l,ys,_,_,lo,hi,Y,by lia,by lia,hl,hz,MN he,by lia,λH4 s4=>h _ _ (s3.trans s4) Y]
 .intro r hr;obtain rfl:=Fd ff;exact q (by lia) r _ (s2.trans (aw hr)) (s2.free hr) ao
noncomputable def BL:acW := " "
theorem vU:∀ {ss:List acW},(∀ s∈ss,s.length<=B)->(ss.map λx=>x.length).sum<=ss.length * B
 | [],_=>by simp
 | s::ss,h=>by have h1:=h s (.head _);have h2:=vU (ss:=ss) λx hx=>h x (.tail _ hx);rw[adg,aj2,adw,al2];lia
theorem Ff{B n:Nat}{ss:List acW}(h:∀ s∈ss,s.length<=B)(hn:ss.length<=n)(hb:n * (B+1)<=16777216):(ss.map λx=>x.length).sum+ss.length * BL.length<=16777216:=by
 have h1:=vU h;have h2:ss.length * (B+1)<=n * (B+1):=ajy _ hn;have h3:BL.length=1:=by decide
 rw[h3];rw[akF] at h2;lia
theorem mv(h:fe e):(aQ e).length<=61:=by
 cases e with
 | none=>decide
 | some n=>exact gF h
theorem Y1(n:Int):32∉(aL n).cps.toList:=λh=>by
 rcases ui n with ⟨m,rfl⟩|⟨m,rfl⟩
 .rw[pG] at h;have:=pF m _ h;lia
 .rw[uh] at h;rcases acZ.mp h with h|h
  .lia
  .have:=pF _ _ h;lia
theorem MO(e:En):32∉(aQ e).cps.toList:=by
 cases e with
 | none=>decide
 | some n=>exact Y1 n
inductive Y2(vs:List V)(H:Hp)(Q:VK)(aT:XK):Prop
 | mk(p:ac4)(l h:En)(_:vs=[.ref p])(_:H p=O (.tup [ev l,ev h]))(_:fe l)(_:fe h)(_:∀ m H',aj H H'->H' m=O (.lst [.str (aQ l),.str (aQ h)])->Q (.ref m) H')
theorem Y3(T:aH):aR 2 T.vm Y2:=by refine ba Ex ?_;rintro y y y y y y y y hr ⟨p,l,h,rfl,hp,hl,hh,q⟩;refine#[_,(ak (aA (cK (ae (aG (Mo T) hr (ae (ay (aa 0) ag) af)) (ae (aG (Mo T) hr (ae (ay (aa 0) ag) af)) af))))),?_];rfl';exact aB (au.of hp) Y #[l,Y,hl,aB (au.of hp) Y #[h,Y,hh,bg,λm hm=>q m _ (aw hm) ao]]
noncomputable def eN(w:W2):acW:=match w with|none => "none" | some s=>ad4 BL [aQ s.1,aQ s.2]
def B4(o:En):Prop:=∀ a,o=O a->-400000000000000000000000000000000000000000000000000<=a/\a<=400000000000000000000000000000000000000000000000000
def pY(P:Int->Prop)(w:W2):Prop:=match w with|none=>∀ n,¬ P n|some s=>uo P s.1 s.2/\B4 s.1/\B4 s.2
theorem B4.small(h:B4 o):fe o:=by
 cases o with
 | none=>trivial
 | some n =>
  have:=h n rfl;exact adS (show n.natAbs<=400000000000000000000000000000000000000000000000000 by lia) (by decide +kernel)
def vV(tb:Tb):Prop:=∀ r∈tb,∀ y,r.2.1=O y∨r.2.2=O y->-300000000000000000000000000000000000000000000000000<=y/\y<=300000000000000000000000000000000000000000000000000
theorem Y5{H:Hp}{v:V}{e t u d m:Int}{tb:Tb}{k:Nat}(sz:Sz e t u d m)(bc:bV e t tb)(hk:(k:Int)<t)(hf:vV tb)(h:xB H v (gC e t u d m tb k)):∃ w,fA H v w/\pY (hJ e t u d m tb k) w:=by
 have gi:=λx=>Ls (e:=e) (m:=m) (k:=k) sz.hu.1 sz.hd.1 bc sz.ht.1 hk x;by_cases e0:gC e t u d m tb k=[]
 .refine#[J,h.1 e0,λn hn=>?_];have:=(gi n).mpr hn;rw[e0] at this;cases this
 .obtain⟨lo,hi,a,b,c⟩:=h.2 e0;obtain⟨o1,h1⟩:=Kd (m:=m) (k:=k) sz.hu.1 sz.hd.1 bc sz.ht.1 hk;have S:=Xc (Je o1).ok gi b c;exact#[O (lo,hi),a,S,Xe S sz.ht sz.hu sz.hd bc hk hf]
inductive Y6(B:ac4)(vs:List V)(H:Hp)(Q:VK)(aT:XK):Prop
 | mk(x p:ac4)(e t u d m:Int)(tb:Tb)(k:Nat)(_:vs=[.ref x,.int (k:Int)])(_:br B H x e t u d m p tb)(_:Sz e t u d m)(_:bV e t tb)(_:tb.length<64)(_:(k:Int)<t)(_:vV tb)(_:∀ w H',aj H H'->pY (hJ e t u d m tb k) w->Q (.str (eN w)) H')
theorem Y7(T:aH):aR 7 T.nR (Y6 T.aN):=by
 refine kG yw ?_;rintro y y y s H y y y hr ⟨x,p,e,t,u,d,m,tb,k,rfl,hb,sz,bc,bB,hk,hf,q⟩;refine#[_,(aq (aP 2 yw.nd (aG (Md T) hr (ae (dI (MK T) hr.m Y T.nN.m T.nN.F.kp T.nN.b .nil eS (ae (aa 0) (ae (aa 1) af))) af))) (ak (aA (gO (c8 (aa 2)) aK (dJ adU afv afw yf aK (ae (aG (Y3 T) hr (ae (aa 2) af)) af)))))),?_];obtain⟨he,ht,hu,hd,hm⟩:=id sz;refine aD (λL H1=>∃ v w,L=[O (.ref x),O (.int (k:Int)),O v]/\aj H H1/\fA H1 v w/\pY (hJ e t u d m tb k) w) (λN hN=>?_) ?_
 .rfl';refine#[x,p,e,t,u,d,m,tb,_,Y,hb,by lia,by lia,hu.1,hd.1,bc,bB,λz=>absurd #[by lia,hk] z,λj e1 h1 l ys H1 s1 y hl hz=>?_];obtain rfl:k=j:=by lia
  refine#[l,ys,_,Y,ah.of hl,?_,hz,λv H2 s2 hh=>?_]
  .rw[(jw.mp hz).len];exact acR (MN (by lia)) (by decide)
  .obtain⟨w,hw,hs⟩:=Y5 sz bc hk hf hh;exact hN _ _ #[v,w,Y,s1.trans s2,hw,hs]
 rintro y yR L H1 ⟨v,w,rfl,s1,hw,hs⟩;subst yR;rfl';cases w with
 | none =>
  obtain rfl:v = .non:=hw;exact q J _ s1 hs
 | some s =>
  obtain⟨lo,hi⟩:=s;obtain⟨pz,rfl,hp⟩:∃ p,v = .ref p/\H1 p=O (.tup [ev lo,ev hi]):=hw;obtain⟨S,b1,b2⟩:=id hs;rfl';refine#[Y,pz,lo,hi,Y,hp,b1.small,b2.small,λmm H2 s2 hm=>?_];refine#[BL,Y,mm,Y,[aQ lo,aQ hi],ah.of hm,Ff (B:=61) (n:=2) (λs hs=>?_) (by show 2<=2;decide) (by decide),q (O (lo,hi)) _ (s1.trans s2) hs];simp only[acZ,adz,or_false] at hs;rcases hs with rfl|rfl
  .exact mv b1.small
  .exact mv b2.small
inductive Rw where
 | brd (e t u d m:Int)|tel (i k:Int) (lo hi:En)|str (k:Int)|drw (lo hi:Int)
noncomputable def cI:Rw->acW
 | .brd .. => "board" | .tel .. => "tell" | .str _ => "strip" | .drw .. => "draw"
noncomputable def jO:Rw->acW
 | .brd .. => "NNNNN" | .tel .. => "NNEE" | .str _ => "N" | .drw .. => "NN"
noncomputable def cD:Rw->List En
 | .brd e t u d m=>[O e,O t,O u,O d,O m]
 | .tel i k lo hi=>[O i,O k,lo,hi]
 | .str k=>[O k]
 | .drw lo hi=>[O lo,O hi]
noncomputable def kM(r:Rw):List acW:=cI r::(cD r).map aQ
noncomputable def cR(r:Rw):acW:=ad4 BL (kM r)
theorem rw_split(r:Rw):agE (cR r) " " = kM r:=ye 32 (by decide) _ (λz=>nomatch z) λs hs=>by
 rcases acZ.mp hs with rfl|h
 .cases r<;>(simp only[cI];decide)
 .obtain⟨e,y,rfl⟩:=ac2.mp h;exact MO e
theorem rw_five(r:Rw):(cD r).length<=5/\(cD r).length=(jO r).length/\dO uy (.inr (cI r))=O (.str (jO r))/\cI r ≠ "rule" := by
 cases r
 all_goals exact#[by simp[cD],Y,by simp only[cI,jO];decide +kernel,by simp only[cI];decide]
theorem MP(c:Nat):∀ (as bs:List (List Nat)),as≠[]->bs≠[]->fF c (as++bs)=fF c as++c::fF c bs
 | [],_,h,_=>absurd Y h
 | [a],b::bs,_,_=>rfl
 | [_],[],_,h=>absurd Y h
 | a::a2::as,bs,_,hb=>by show a++c::fF c ((a2::as)++bs)=(a++c::fF c (a2::as))++c::fF c bs;rw[MP c (a2::as) bs (by simp) hb];simp
theorem join_cons{w:acW}{ws:List acW}(h:ws≠[]):ad4 BL (w::ws)=w++BL++ad4 BL ws:=rD (by
 rw[show BL=(#[(List.toArray [32])]:acW) from Y,pE,afJ,afJ,pE];rw[show (w::ws).map (λw=>w.cps.toList)=[w.cps.toList]++ws.map (λw=>w.cps.toList) from Y,MP 32 _ _ (by simp) (by simpa using h)];show w.cps.toList++32::_=_;simp)
theorem Fg(c:Nat):∀ ws:List (List Nat),(fF c ws).length<=(ws.map λw=>w.length).sum+ws.length
 | []=>acS _
 | [w]=>by show w.length<=w.length+0+1;lia
 | w::v::ws=>by have:=Fg c (v::ws);show (w++c::fF c (v::ws)).length<=_;rw[ac7,adw,adg,aj2,adw];lia
theorem join_le(h:∀ s∈ws,s.length<=B):(ad4 BL ws).length<=ws.length * (B+1):=by
 have e:(ad4 BL ws).length=(fF 32 (ws.map λw=>w.cps.toList)).length:=by rw[<- pE];exact adK.symm
 have h1:=Fg 32 (ws.map λw=>w.cps.toList);have h2:=vU h;have h3:ws.map ((λw=>w.length) ∘ λw:acW=>w.cps.toList)=ws.map λx=>x.length:=ad9 λx y=>adK;rw[aei,acN,h3] at h1;rw[e,akF];lia
theorem rw_len(h:∀ o∈cD r,fe o):(cR r).length<=1000:=by
 have:=join_le (B:=61) (ws:=kM r) λs hs=>by
  rcases acZ.mp hs with rfl|h2
  .cases r<;>(simp only[cI];decide)
  .obtain⟨o,ho,rfl⟩:=ac2.mp h2;exact mv (h o ho)
 have l5:=(rw_five r).1;have ll:(kM r).length=(cD r).length+1:=by unfold kM;rw[adw,acN]
 unfold cR;rw[ll] at this;have:=ajy 62 (show (cD r).length+1<=6 by lia);lia
theorem rw_ok(h:∀ o∈cD r,fe o):vR (jO r) ((cD r).map aQ):=by
 have num:∀ n:Int,fe (O n)->jC (aL n)=true:=λn h=>LS h;have MQ:∀ o:En,fe o->pV (aQ o)=true:=λo ho=>by
  cases o with
  | none=>decide
  | some n=>show (aL n == "*" || jC (aL n))=true;rw[num n ho,Bool.or_true]
 unfold vR;have cN:∀ x,kJ (.str "N",.str x)=jC x:=λx=>rfl;have cE:∀ x,kJ (.str "E",.str x)=pV x:=λx=>by show (if ("E" : acW) = "N" then jC x else (!(("E" : acW) == "E") || pV x))=pV x;rw[if_neg (by decide)];rfl
 cases r with
 | brd e t u d m =>
  have hh:=λo ho=>h o ho;simp only[cD,acZ,adz,or_false,forall_eq_or_imp,forall_eq] at hh;obtain⟨h1,h2,h3,h4,h5⟩:=hh;show (alV [V.str "N",.str "N",.str "N",.str "N",.str "N"] [V.str (aL e),.str (aL t),.str (aL u),.str (aL d),.str (aL m)]).all kJ=true;simp only[afR,agU,af6,ajh,cN,num _ h1,num _ h2,num _ h3,num _ h4,num _ h5,ahe]
 | tel i k lo hi =>
  have hh:=λo ho=>h o ho;simp only[cD,acZ,adz,or_false,forall_eq_or_imp,forall_eq] at hh;obtain⟨h1,h2,h3,h4⟩:=hh;show (alV [V.str "N",.str "N",.str "E",.str "E"] [V.str (aL i),.str (aL k),.str (aQ lo),.str (aQ hi)]).all kJ=true;simp only[afR,agU,af6,ajh,cN,cE,num _ h1,num _ h2,MQ _ h3,MQ _ h4,ahe]
 | str k =>
  have h1:=h (O k) (.head _);show (alV [V.str "N"] [V.str (aL k)]).all kJ=true;simp only[afR,agU,af6,ajh,cN,num _ h1,ahe]
 | drw lo hi =>
  have h1:=h (O lo) (.head _);have h2:=h (O hi) (.tail _ (.head _));show (alV [V.str "N",.str "N"] [V.str (aL lo),.str (aL hi)]).all kJ=true;simp only[afR,agU,af6,ajh,cN,num _ h1,num _ h2,ahe]
inductive Y8(vs:List V)(H:Hp)(Q:VK)(aT:XK):Prop
 | mk(x l:ac4)(r:Rw)(_:vs=[.ref x,.ref l])(_:H l=O (.lst ((kM r).map V.str)))(_:Q .non H)
theorem Y9(T:aH):jN 1 T.nT Y8:=by refine pB EE ?_;rintro y y y y y y y y hr ⟨x,l,r,rfl,hl,q⟩;refine#[_,(aq (aE (PW.pt (jc (bW (ay (aa 1) ag) aK) (jU (cu (cf Tt))))) (ak (gR gT Y T.L9 T.y0 Y (ae aK af))) aI) (ak (aE (PW.pt (jc (gk sM (ay (aa 1) ag) (qt (v:=.ref T.needr.a) Y T.needr.m Y) (by with_unfolding_all rfl)) (jU (wA (SU (gu hr) (ay (aa 1) ag) (eE Y (aa 0) Y)))))) (ak (gR gT Y T.L9 T.y0 Y (ae aK af))) aI))),?_];rfl';refine aU (ah.of hl) (v:=.str (cI r)) (cZ (j:=0) Y) ?_;rfl';rw[if_neg (rw_five r).2.2.2];refine aU (ah.of hl) (v:=.str (cI r)) (cZ (j:=0) Y) #[_,_,Y,.inr (T.needr.s _),Y,Y,_,Y,?_];rw[if_neg (by cases r<;>(simp only[cI];decide +kernel))];exact q
inductive Za(vs:List V)(H:Hp)(Q:VK)(aT:XK):Prop
 | mk(l:ac4)(r:Rw)(_:vs=[.ref l])(_:H l=O (.lst ((kM r).map V.str)))(_:(∀ o∈cD r,fe o))(_:∀ p H',aj H H'->H' p=O (.lst ((cD r).map ev))->Q (.ref p) H')
noncomputable def y9(x:acW):En:=if x = "*" then J else ajF x
theorem MR(h:fe o):y9 (aQ o)=o:=by
 unfold y9;cases o with
 | none=>exact if_pos rfl
 | some n=>rw[if_neg (show ¬ aQ (O n) = "*" from pW n)];exact Cq h
noncomputable def pairE:V × V->En
 | (_,.str x)=>y9 x
 | _=>J
theorem ax.Zb{zs:List V}{os:List En}(h:ax (λv (o:En)=>v=ev o) zs os):zs=os.map ev:=by
 induction zs generalizing os with
 | nil=>cases os with|nil=>rfl|cons _ _=>exact h.elim
 | cons z zs ih=>cases os with
  | nil=>exact h.elim
  | cons b bs=>rw[adg,<- ih h.2,h.1]
theorem rw_NE(r:Rw):∀ v∈cX (jO r),v = .str "N" ∨ v = .str "E" := by
 cases r<;>(simp only[jO];decide +kernel)
theorem MS:∀ (cs:List V) (os:List En),cs.length=os.length->(∀ o∈os,fe o)->(cs.zip ((os.map aQ).map V.str)).map pairE=os
 | [],[],_,_=>rfl
 | [],_::_,h,_=>nomatch h
 | _::_,[],h,_=>nomatch h
 | c::cs,o::os,h,hs=>by show y9 (aQ o)::(cs.zip ((os.map aQ).map V.str)).map pairE=o::os;rw[MR (hs o (.head _)),MS cs os (by simpa using h) λx hx=>hs x (.tail _ hx)]
theorem Zc(T:aH):aR 2 T.vq Za:=by
 refine ba EC ?_;rintro z z z s H z Q z hr ⟨l,r,rfl,hl,hs,q⟩;refine#[_,(ak (aA (xb (g:=je K 2 (cJ (bZ 0) (cJ (bZ 1) iO))) (ki.mk (own:=["form","word"]) (fr:=[]) (ys:=[]) Y (by decide +kernel) Y (by decide +kernel) Y .nil .nil rfl) Y (LV Y T.ET (ae (Ct T.formd.m (T.formd.d _) (ay (aa 0) ag)) (ae (mP wQ (aa 0) (mO ag) mM) af))) (λC s2 H2 ex pn=>jf (n:=2) Y (da (gh (i:=0) (show (["form","word"]:List Str).Nodup by decide) Y (.inl (ado Y)) (.inr (ado Y))) (da (gh (i:=1) (show (["form","word"]:List Str).Nodup by decide) Y (.inl (ado Y)) (.inr (ado Y))) jd))) (λC s2 H2 ex pn=>#[dt,(gO (gk zV (aa 0) aK (by with_unfolding_all rfl)) (aG (X5 T) hr (ae (aa 1) af)) (aa 1))])))),?_];obtain⟨l5,lf,vf,z⟩:=rw_five r;rfl';refine aU (ah.of hl) (v:=.str (cI r)) (cZ (j:=0) Y) #[.inr (cI r),Y,_,vf,?_];have sl:(cX (jO r)).length=(jO r).length:=nA _;have ml:(((cD r).map aQ).map V.str).length=(cD r).length:=by rw[acN,acN]
 refine#[_,ah.of hl,λp hp=>#[jO r,Y,#[_,ah.of ao],?_]];rw[show j4 ((kM r).map V.str) (O 1) J=((cD r).map aQ).map V.str from A6 _ 1];have u1:=aw (o:=.lst (((cD r).map aQ).map V.str)) hp;refine LW (ys:=((cD r).map aQ).map V.str) (by lia) (acR (by lia:_<=5) (by decide)) (xU (R':=λ_ v (b:En)=>v=ev b) (p:=λz=>true) (f:=pairE) (bs:=[]) (λz z z z z r=>r) trivial (λH' s'=>ah.of (s' _ _ ao)) (λr bG H' s' Q h=>h) (λpr bG z H' s' Q h=>?_) λH' zs s' hz=>?_)
 .obtain⟨r1,r2⟩:=pr;obtain⟨m1,m2⟩:=agz bG;obtain⟨y,my,rfl⟩:=ac2.mp m2;obtain⟨o,mo,rfl⟩:=ac2.mp my;have so:=hs o mo;have er:=MR so;rcases rw_NE r r1 m1 with rfl|rfl
  all_goals
   rfl';refine#[_,Y,_,Y,?_];rw[if_pos (by decide +kernel)];exact#[o,Y,so,h _ _ (aj.refl _) (congrArg ev er.symm)]
 .intro k hk;rw[adl,aeS.mpr λz z=>rfl,MS _ _ (by lia) hs] at hz;have ez:=ax.Zb hz;subst ez;exact q k _ (u1.trans (s'.trans (aw hk))) ao
noncomputable def LF:acW := "\n"
inductive pZ(T:aH)(H:Hp)(Q:VK)(x dx rr:ac4)(bv:V):Rw->Prop
 | brd (e t u d m:Int) (_:gH e t u d m) (_:∀ (y p:ac4) (H':Hp),SameBut x H H'->H y=J->H p=J->H' x=O (.ins T.bQ dx [("board",.ref y),("rules",.ref rr)])->br T.aN H' y e t u d m p []->Q (.str "ok") H'):pZ T H Q x dx rr bv (.brd e t u d m)
 | tel (i k:Int) (lo hi:En) (y p:ac4) (e t u d m:Int) (tb:Tb) (_:bv = .ref y) (_:br T.aN H y e t u d m p tb) (_:kq e t (i,k)) (_:aY lo hi=false) (_:tb.length<900) (_:∀ H',SameBut p H H'->br T.aN H' y e t u d m p (fV tb (i,k) (lo,hi))->Q (.str "ok") H'):pZ T H Q x dx rr bv (.tel i k lo hi)
 | str (k:Nat) (y p:ac4) (e t u d m:Int) (tb:Tb) (_:bv = .ref y) (_:br T.aN H y e t u d m p tb) (_:Sz e t u d m) (_:bV e t tb) (_:tb.length<64) (_:(k:Int)<t) (_:vV tb) (_:∀ w H',aj H H'->pY (hJ e t u d m tb k) w->Q (.str (eN w)) H'):pZ T H Q x dx rr bv (.str (k:Int))
 | drw (lo hi:Int) (y p:ac4) (e t u d m:Int) (tb:Tb) (_:bv = .ref y) (_:br T.aN H y e t u d m p tb) (_:Sz e t u d m) (_:bV e t tb) (_:tb.length<64) (_:lo<=hi) (_:hi-lo<=100) (_:∀ H',aj H H'->Q (.str (ad4 LF (cY e t u d m tb lo hi))) H'):pZ T H Q x dx rr bv (.drw lo hi)
inductive Fh(T:aH)(H:Hp)(Q:VK)(x dx rr:ac4)(bv:V):Rw->Prop
 | brd (e t u d m:Int) (_:gH e t u d m) (_:∀ (y p:ac4) (H':Hp),SameBut x H H'->H y=J->H p=J->H' x=O (.ins T.bQ dx [("board",.ref y),("rules",.ref rr)])->br T.aN H' y e t u d m p []->Q .non H'):Fh T H Q x dx rr bv (.brd e t u d m)
 | tel (i k:Int) (lo hi:En) (y p:ac4) (e t u d m:Int) (tb:Tb) (_:bv = .ref y) (_:br T.aN H y e t u d m p tb) (_:kq e t (i,k)) (_:aY lo hi=false) (_:tb.length<900) (_:∀ H',SameBut p H H'->br T.aN H' y e t u d m p (fV tb (i,k) (lo,hi))->Q .non H'):Fh T H Q x dx rr bv (.tel i k lo hi)
inductive Zd(T:aH)(vs:List V)(H:Hp)(Q:VK)(aT:XK):Prop
 | mk(x dx rr l:ac4)(bv:V)(r:Rw)(_:vs=[.ref x,.str (cI r),.ref l])(_:H x=O (.ins T.bQ dx [("board",bv),("rules",.ref rr)]))(_:H l=O (.lst ((cD r).map ev)))(_:Fh T H Q x dx rr bv r)
theorem Ze(T:aH):jN 4 T.nU (Zd T):=by
 refine pB EF ?_;rintro c c c s H c c c hr ⟨x,dx,rr,l,bv,r,rfl,hx,hl,hk⟩;refine#[_,(ak (aE (bW (aa 1) aK) (ak (lW (aa 0) (Ad T.vL (E5 T) hr.m Y T.EV T.me.b .nil eS (ae (ay (aa 2) ag) (ae (ay (aa 2) ag) (ae (ay (aa 2) ag) (ae (ay (aa 2) ag) (ae (ay (aa 2) ag) af)))))) Y)) (ak (aE (bW (aa 1) aK) (ak (fJ (fP (eE Y (aa 0) Y) T.bY T.Ma (Ml T) hr.m T.mf.b .nil eS (ae (ay (aa 2) ag) (ae (ay (aa 2) ag) (ae (ay (aa 2) ag) (ae (ay (aa 2) ag) af))))))) sx)))),?_];cases hk with
 | brd e t u d m hB q =>
  replace hl:H l=O (.lst [.int e,.int t,.int u,.int d,.int m]):=hl;simp only[cI];rfl';refine aU (ah.of hl) (v:=.int e) Y (aU (ah.of hl) (v:=.int t) Y (aU (ah.of hl) (v:=.int u) Y (aU (ah.of hl) (v:=.int d) Y (aU (ah.of hl) (v:=.int m) Y λy dy hy vW eB=>?_))));refine#[y,dy,e,t,u,d,m,Y,ao,λz=>absurd hB z,λc p H1 hp s1 X1 P1=>#[Y,?_]];have M:=xI (C:=T.aN) (fs:=[]) hy vW eB;have S1:aj H H1:=λb o e=>s1 b o (λz=>by rw[z,hy] at e;cases e) (M _ _ e);have xy:y≠x:=λz=>by rw[<- z,hy] at hx;cases hx
  have fp:=M.free hp;have xp:p≠x:=λz=>by rw[<- z,fp] at hx;cases hx
  refine#[_,_,_,S1 _ _ hx,T.fZ,T.n0,(by show 2<1000;decide),q y p _ (λb o hb e=>by rw[aJ hb];exact S1 _ _ e) hy fp ao #[#[_,by rw[aJ xy];exact X1],[],by rw[aJ xp];exact P1,trivial]]
 | tel i k lo hi y p e t u d m tb e0 hb hon hc h9 q =>
  subst e0;replace hl:H l=O (.lst [.int i,.int k,ev lo,ev hi]):=hl;simp only[cI];rfl';rw[if_neg (by decide)];obtain⟨⟨dy,hy⟩,kvs,hk,hA⟩:=id hb;have kl:=hA.len;refine#[_,_,_,hx,T.fZ,T.n0,_,Y,y,Y,_,_,hy,Y,?_];refine aU (ah.of hl) (v:=.int i) Y (aU (ah.of hl) (v:=.int k) Y (aU (ah.of hl) (v:=ev lo) Y (aU (ah.of hl) (v:=ev hi) Y ?_)));refine#[y,p,e,t,u,d,m,i,k,lo,hi,kvs,Y,#[#[dy,hy],hk],by lia,λz=>absurd #[hon,hc] z,λc v H1 sb h1 hv=>q _ sb ?_];have F:Fr H H1:=SameBut.fr sb hk;exact hb.now F #[_,h1,bJ.put (s:=(i,k)) (w:=(lo,hi)) (hA.imp λv a b z=>z.fr F) hv]
inductive Fi(T:aH)(H:Hp)(Q:VK)(bv:V):Rw->Prop
 | str (k:Nat) (y p:ac4) (e t u d m:Int) (tb:Tb) (_:bv = .ref y) (_:br T.aN H y e t u d m p tb) (_:Sz e t u d m) (_:bV e t tb) (_:tb.length<64) (_:(k:Int)<t) (_:vV tb) (_:∀ w H',aj H H'->pY (hJ e t u d m tb k) w->Q (.str (eN w)) H'):Fi T H Q bv (.str (k:Int))
 | drw (lo hi:Int) (y p:ac4) (e t u d m:Int) (tb:Tb) (_:bv = .ref y) (_:br T.aN H y e t u d m p tb) (_:Sz e t u d m) (_:bV e t tb) (_:tb.length<64) (_:lo<=hi) (_:hi-lo<=100) (_:∀ H',aj H H'->Q (.str (ad4 LF (cY e t u d m tb lo hi))) H'):Fi T H Q bv (.drw lo hi)
inductive Zf(T:aH)(vs:List V)(H:Hp)(Q:VK)(aT:XK):Prop
 | mk(x dx rr l:ac4)(bv:V)(r:Rw)(_:vs=[.ref x,.str (cI r),.ref l])(_:H x=O (.ins T.bQ dx [("board",bv),("rules",.ref rr)]))(_:H l=O (.lst ((cD r).map ev)))(_:Fi T H Q bv r)
theorem xH(h0:0<=t)(h1:t<12)(hn:n<=101):(i7 t ss lo n).length<=105:=by
 have ones:∀ s∈(adu n).map λ(k:Nat)=>sgn (gK ss (lo+(k:Nat))),s.length=1:=λs hs=>by obtain⟨k,y,rfl⟩:=ac2.mp hs;exact ML _
 have l4:(ajb (ac0 (toString t)) 3++ac0 " ").length<=4:=afx (A:=3) (B:=1) (aiW (MM h0 h1).2) (by decide);refine acR (afx l4 (B:=n) ?_) (by lia);rw[ajx _ ones,acN,adj];exact acS _
theorem Zg(T:aH):jN 8 T.nV (Zf T):=by
 refine pB EG ?_;rintro c c c s H c c c hr ⟨x,dx,rr,l,bv,r,rfl,hx,hl,hk⟩;refine#[_,(aq (aE (bW (aa 1) aK) (ak (aA (dI (Y7 T) hr.m Y T.nR.m T.nR.F.kp T.nR.b .nil eS (ae (eE Y (aa 0) Y) (ae (ay (aa 2) ag) af))))) aI) (aq (aE (bW (aa 1) aK) sx aI) (aq (aE (bW (aa 1) aK) sx aI) (aq (aE (bW (aa 1) aK) sx aI) (ak (aA (dJ adU afv afw yf aK (ae (dI (Y0 T) hr.m Y T.nO.m T.nO.F.kp T.nO.b .nil eS (ae (eE Y (aa 0) Y) (ae (ay (aa 2) ag) (ae (ay (aa 2) ag) af)))) af)))))))),?_];cases hk with
 | str k y p e t u d m tb e0 hb sz bc bB ie hf q =>
  subst e0;replace hl:H l=O (.lst [.int (k:Int)]):=hl;simp only[cI];rfl';refine#[_,_,_,hx,T.fZ,T.n0,_,Y,aU (ah.of hl) (v:=.int (k:Int)) Y ?_];exact#[y,p,e,t,u,d,m,tb,k,Y,hb,sz,bc,bB,ie,hf,q]
 | drw lo hi y p e t u d m tb e0 hb sz bc bB hlh zb q =>
  subst e0;obtain⟨he,ht,hu,hd,hm⟩:=id sz;replace hl:H l=O (.lst [.int lo,.int hi]):=hl;simp only[cI];rfl';rw[if_neg (by decide),if_neg (by decide),if_neg (by decide),if_neg (by decide)];refine#[Y,_,_,_,hx,T.fZ,T.n0,_,Y,aU (ah.of hl) (v:=.int lo) Y (aU (ah.of hl) (v:=.int hi) Y ?_)];refine#[y,p,e,t,u,d,m,tb,lo,hi,Y,hb,by lia,by lia,hu.1,hd.1,bc,bB,zb,λz=>absurd z (by lia),λc l2 H1 s1 c h1=>#[LF,Y,l2,Y,_,ah.of h1,?_,q _ s1]];have dl:(cY e t u d m tb lo hi).length=t.toNat:=by unfold cY;rw[acN,adj]
  have sb:=vU (B:=105) (ss:=cY e t u d m tb lo hi) λs hs=>by obtain⟨k,hk,rfl⟩:=ac2.mp hs;have:=aeg.mp hk;exact xH (by lia) (by lia) (by lia)
  have l1:LF.length=1:=by decide
  rw[l1];lia
theorem Fj(q:Q (.bl true) H):iR K (.str x) (.ty "str") H Q:=#[_,_,dm.str x,(λz=>nomatch z),sQ,q]
inductive Zh(T:aH)(vs:List V)(H:Hp)(Q:VK)(aT:XK):Prop
 | mk(x dx rr:ac4)(bv:V)(r:Rw)(_:vs=[.ref x,.str (cR r)])(_:H x=O (.ins T.bQ dx [("board",bv),("rules",.ref rr)]))(_:(bv = .non ∨ ∃ y,bv = .ref y))(_:(∀ o∈cD r,fe o))(_:pZ T H Q x dx rr bv r)
theorem pZ.Zi(h:pZ T H Q x dx rr bv r):cI r = "board" ∨ ∃ y,bv = .ref y:=by
 cases h with
 | brd=>exact .inl rfl
 | tel _ _ _ _ y=>exact .inr #[y,‹_›]
 | str _ y=>exact .inr #[y,‹_›]
 | drw _ _ y=>exact .inr #[y,‹_›]
theorem zc(T:aH):jN 9 T.jJ (Zh T):=by
 refine pB uw ?_;rintro c c c c H c c c hr ⟨x,dx,rr,bv,r,rfl,hx,hbv,hs,hk⟩;refine#[_,(aq (aE (cu (cf (bA lb (by rfl) T.mi k9 (ae (aa 1) (ae (kX (v:=.ty "str") Y T.ia gQ Y) af))))) (ak (gR gT Y T.EU T.vN Y (ae aK af))) aI) (aq (aP 2 uw.nd (aG (X9 T) hr (ae (aa 1) af))) (aq (fJ (dI (Yc T) hr.m Y T.nQ.m T.nQ.F.kp T.nQ.b .nil eS (ae (aa 2) af))) (aq (aE (PW.pt (jc (c8 (eE Y (aa 0) Y)) (jU (gk Ai (ay (aa 2) ag) (qt (v:=.ref T.needn.a) Y T.needn.m Y) (by with_unfolding_all rfl))))) (ak (gR gT Y T.yC T.rT Y (ae aK af))) aI) (aq (fJ (fP (aa 0) T.fZ T.Xp (Y9 T) hr.m T.nT.b .nil eS (ae (aa 2) af))) (aq (aP 3 uw.nd (aG (Zc T) hr (ae (aa 2) af))) (aq (aE (gk sM (ay (aa 2) ag) (bf (ae aK (ae aK (ae aK (ae aK (ae aK af)))))) (by with_unfolding_all rfl)) (aq (fJ (fP (aa 0) T.fZ T.Xq (Ze T) hr.m T.nU.b .nil eS (ae (ay (aa 2) ag) (ae (aa 3) af)))) (ak (aA aK))) aI) (ak (aA (fP (aa 0) T.fZ T.Xr (Zg T) hr.m T.nV.b .nil eS (ae (ay (aa 2) ag) (ae (aa 3) af)))))))))))),?_];obtain⟨l5,lf,vf,nr⟩:=rw_five r;have ml:((cD r).map aQ).length=(cD r).length:=acN _;have f5:(jO r).length<=5:=by lia
 refine aD (λL H1=>L=[O (.ref x),O (.str (cR r)),J,J]/\H1=H) (λN hN=>?_) ?_
 .rfl';exact Fj (hN _ _ #[Y,Y])
 rintro c yR L H1 ⟨rfl,rfl⟩;subst yR;refine aD (λL H2=>∃ l,L=[O (.ref x),O (.str (cR r)),O (.ref l),J]/\aj H1 H2/\H2 l=O (.lst ((kM r).map V.str))) (λN hN=>?_) ?_
 .rfl';exact#[cR r,cI r,(cD r).map aQ,Y,rw_len hs,rw_split r,nr,λl hl=>hN _ _ #[l,Y,aw hl,ao]]
 rintro c yR L H2 ⟨l,rfl,s2,hl⟩;subst yR;refine aD (λL H3=>L=[O (.ref x),O (.str (cR r)),O (.ref l),J]/\aj H2 H3) (λN hN=>?_) ?_
 .rfl';refine#[l,cI r,jO r,(cD r).map aQ,Y,hl,λy hy=>?_,by lia,vf,f5,.inr #[by lia,rw_ok hs,λH3 s3=>hN _ _ #[Y,s3]]];obtain⟨o,ho,rfl⟩:=ac2.mp hy;exact acR (mv (hs o ho)) (by decide)
 rintro c yR L H3 ⟨rfl,s3⟩;subst yR;have S3:=s2.trans s3;have cg:=s3 _ _ hl;refine aD (λL H4=>L=[O (.ref x),O (.str (cR r)),O (.ref l),J]/\H4=H3) (λN hN=>?_) ?_
 .rfl';refine#[_,_,_,S3 _ _ hx,T.fZ,T.n0,_,Y,?_];rcases hbv with rfl|⟨y,rfl⟩
  .rfl';have e0:cI r = "board" := hk.Zi.elim id λ⟨_,z⟩=>nomatch z
   refine aU (ah.of cg) (v:=.str (cI r)) (cZ (j:=0) Y) #[_,_,Y,.inr (T.needn.s _),Y,Y,_,Y,?_];rw[e0,if_neg (by decide +kernel)];exact hN _ _ #[Y,Y]
  .exact hN _ _ #[Y,Y]
 rintro c yR L H4 ⟨rfl,rfl⟩;subst yR;refine aD (λL H5=>L=[O (.ref x),O (.str (cR r)),O (.ref l),J]/\H5=H4) (λN hN=>?_) ?_
 .rfl';exact#[_,_,S3 _ _ hx,Y,x,l,r,Y,cg,hN _ _ #[Y,Y]]
 rintro c yR L H5 ⟨rfl,rfl⟩;subst yR;refine aD (λL H6=>∃ p,L=[O (.ref x),O (.str (cR r)),O (.ref l),O (.ref p)]/\aj H5 H6/\H6 p=O (.lst ((cD r).map ev))) (λN hN=>?_) ?_
 .rfl';exact#[l,r,Y,cg,hs,λp H6 s6 hp=>hN _ _ #[p,Y,s6,hp]]
 rintro c yR L H6 ⟨p,rfl,s6,hp⟩;subst yR;have S6:=S3.trans s6;have kL:=s6 _ _ cg;have w0:dq ((kM r).map V.str) 0=O (.str (cI r)):=cZ (j:=0) rfl;refine aD (λL H7=>L=[O (.ref x),O (.str (cR r)),O (.ref l),O (.ref p)]/\aj H6 H7/\((∃ k,r = .str k) ∨ ∃ a b,r = .drw a b)) (λN hN=>?_) ?_
 .rfl';refine aU (ah.of kL) w0 #[by decide,λq hq=>#[q,_,Y,.inr (au.of ao),Y,Y,_,Y,?_]];have u7:=aw (o:=.tup [.str "board",.str "tell",.str "hush",.str "rule",.str "drop"]) hq;have S7:=S6.trans u7;cases hk with
  | brd e t u d m hB qq =>
   rw[if_pos (by simp only[cI];decide +kernel)];refine#[_,_,S7 _ _ hx,Y,aU (ah.of (u7 _ _ kL)) w0 #[x,dx,rr,p,bv,_,Y,S7 _ _ hx,u7 _ _ hp,.brd e t u d m hB λy p2 H8 s8 fy fp h8 hb=>?_]];exact qq y p2 H8 (λb o hb e=>s8 _ _ hb (S7 _ _ e)) (S7.free fy) (S7.free fp) h8 hb
  | tel i k lo hi y p2 e t u d m tb e0 hb hon hc h9 qq =>
   rw[if_pos (by simp only[cI];decide +kernel)];refine#[_,_,S7 _ _ hx,Y,aU (ah.of (u7 _ _ kL)) w0 #[x,dx,rr,p,bv,_,Y,S7 _ _ hx,u7 _ _ hp,.tel i k lo hi y p2 e t u d m tb e0 (hb.same S7) hon hc h9 λH8 s8 Zj=>?_]];exact qq H8 (λb o hb e=>s8 _ _ hb (S7 _ _ e)) Zj
  | str k y p2 e t u d m tb e0 hb sz bc bB ie hf qq =>
   rw[if_neg (by simp only[cI];decide +kernel)];exact hN _ _ #[Y,u7,.inl #[_,Y]]
  | drw lo hi y p2 e t u d m tb e0 hb sz bc bB hlh zb qq =>
   rw[if_neg (by simp only[cI];decide +kernel)];exact hN _ _ #[Y,u7,.inr #[_,_,Y]]
 rintro c yR L H7 ⟨rfl,s7,MT⟩;subst yR;have S7:=S6.trans s7;rfl';refine#[_,_,S7 _ _ hx,Y,aU (ah.of (s7 _ _ kL)) w0 #[x,dx,rr,p,bv,_,Y,S7 _ _ hx,s7 _ _ hp,?_]];cases hk with
 | brd e t u d m hB qq=>rcases MT with ⟨c,z⟩|⟨c,c,z⟩<;>cases z
 | tel i k lo hi y p2 e t u d m tb e0 hb hon hc h9 qq=>rcases MT with ⟨c,z⟩|⟨c,c,z⟩<;>cases z
 | str k y p2 e t u d m tb e0 hb sz bc bB ie hf qq=>exact .str k y p2 e t u d m tb e0 (hb.same S7) sz bc bB ie hf λw H8 s8 hw=>qq w H8 (S7.trans s8) hw
 | drw lo hi y p2 e t u d m tb e0 hb sz bc bB hlh zb qq=>exact .drw lo hi y p2 e t u d m tb e0 (hb.same S7) sz bc bB hlh zb λH8 s8=>qq H8 (S7.trans s8)
def zd(o:En)(n k:Int):Prop:=∀ x,o=O x->n-k<=x/\x<=n+k
inductive Zk(vs:List V)(H:Hp)(Q:VK)(aT:XK):Prop
 | mk(c n:Int)(_:vs=[.int c,.int n])(_:∀ (p:ac4) (lo hi:En) (H':Hp),aj H H'->H' p=O (.tup [ev lo,ev hi])->aY lo hi=false->zd lo n 40->zd hi n 40->Q (.ref p) H')
theorem Zl(T:aH):aR 1 T.vB Zk:=by
 refine ba md ?_;rintro y y y y H y y y y ⟨c,n,rfl,q⟩;refine#[_,(aq (aE (bW (az cQ (aa 0) ag) ag) (ak (aP 1 md.nd (az bD (az bD (aa 1) ag) (az cQ (az gv (aa 0) ag) ag)))) aI) (aq (aE (bW (az cQ (aa 0) ag) ag) (ak (aP 1 md.nd (az dR (az dR (aa 1) ag) (az cQ (az gv (aa 0) ag) ag)))) aI) (aq (aP 2 md.nd (az dR (aa 1) (az cQ (az gv (aa 0) ag) ag))) (aq (aP 3 md.nd (az bD (aa 1) (az cQ (az gv (aa 0) ag) ag))) (aq (aE (bW (az cQ (az gv (aa 0) ag) ag) ag) (ak (aP 2 md.nd bE)) aI) (aq (aE (bW (az cQ (az gv (aa 0) ag) ag) ag) (ak (aP 3 md.nd bE)) aI) (ak (aA (bf (ae (aa 2) (ae (aa 3) af))))))))))),?_];refine aD (λL H1=>∃ k:Int,L=[O (.int c),O (.int k),J,J]/\H1=H/\n<=k/\k<=n+30) (λN hN=>?_) ?_
 .rfl';exact bo (λy=>#[fR (by decide),hN _ _ #[_,Y,Y,by lia,by lia]]) λy=>hN _ _ #[_,Y,Y,by lia,by lia]
 rintro y yR L H1 ⟨k1,rfl,rfl,k2,k3⟩;subst yR;refine aD (λL H2=>∃ k:Int,L=[O (.int c),O (.int k),J,J]/\H2=H1/\n-30<=k/\k<=n+30) (λN hN=>?_) ?_
 .rfl';exact bo (λy=>#[fR (by decide),hN _ _ #[_,Y,Y,by lia,by lia]]) λy=>hN _ _ #[_,Y,Y,by lia,by lia]
 clear k2 k3;rintro y yR L H2 ⟨k,rfl,rfl,k2,k3⟩;subst yR;refine aD (λL H3=>∃ lo:Int,L=[O (.int c),O (.int k),O (.int lo),J]/\H3=H2/\k-3<=lo/\lo<=k) (λN hN=>?_) ?_
 .rfl';exact#[fR (by decide),hN _ _ #[_,Y,Y,by lia,by lia]]
 rintro y yR L H3 ⟨lo,rfl,rfl,l1,l2⟩;subst yR;refine aD (λL H4=>∃ hi:Int,L=[O (.int c),O (.int k),O (.int lo),O (.int hi)]/\H4=H3/\k<=hi/\hi<=k+3) (λN hN=>?_) ?_
 .rfl';exact#[fR (by decide),hN _ _ #[_,Y,Y,by lia,by lia]]
 rintro y yR L H4 ⟨hi,rfl,rfl,h1,h2⟩;subst yR;refine aD (λL H5=>∃ o:En,L=[O (.int c),O (.int k),O (ev o),O (.int hi)]/\H5=H4/\(o=J∨o=O lo)) (λN hN=>?_) ?_
 .rfl';exact#[fR (by decide),bo (λy=>hN _ _ #[J,Y,Y,.inl rfl]) λy=>hN _ _ #[O lo,Y,Y,.inr rfl]]
 rintro y yR L H5 ⟨o,rfl,rfl,ho⟩;subst yR;refine aD (λL H6=>∃ o2:En,L=[O (.int c),O (.int k),O (ev o),O (ev o2)]/\H6=H5/\(o2=J∨o2=O hi)) (λN hN=>?_) ?_
 .rfl';exact#[fR (by decide),bo (λy=>hN _ _ #[J,Y,Y,.inl rfl]) λy=>hN _ _ #[O hi,Y,Y,.inr rfl]]
 rintro y yR L H6 ⟨o2,rfl,rfl,MU⟩;subst yR;rfl';refine#[by decide,λp hp=>q p o o2 _ (aw hp) ao ?_ (λx hx=>?_) λx hx=>?_]
 .rcases ho with rfl|rfl<;>rcases MU with rfl|rfl
  .rfl
  .rfl
  .rfl
  .rw[Sq,decide_eq_false (by lia)]
 .rcases ho with rfl|rfl
  .cases hx
  .cases hx;lia
 .rcases MU with rfl|rfl
  .cases hx
  .cases hx;lia
theorem Zm{tb:Tb}{s:P2}{w:S2}{r:P2 × S2}(h:r∈fV tb s w):r∈tb∨r.2=w:=by
 unfold fV at h;split at h
 .obtain⟨x,hx,rfl⟩:=ac2.mp h;by_cases e:x.1=s
  .rw[if_pos e];exact .inr rfl
  .rw[if_neg e];exact .inl hx
 .rcases adf.mp h with z|z
  .exact .inl z
  .rw[ada.mp z];exact .inr rfl
def dP(s:S2):Prop:=aY s.1 s.2=false/\zd s.1 0 300000000000000000000000000000000000000000000000000/\zd s.2 0 300000000000000000000000000000000000000000000000000
inductive Zn(vs:List V)(H:Hp)(Q:VK)(aT:XK):Prop
 | mk(a b c:ac4)(ns cs:List Int)(at_ e t u d m:Int)(_:vs=[.ref a,.int at_,.ref b,.ref c])(_:ah K H a (ns.map V.int))(_:0<=at_)(_:H b=O (.tup [.int e,.int t,.int u,.int d,.int m]))(_:Sz e t u d m)(_:H c=O (.lst (cs.map V.int)))(_:cs.length=t.toNat)(_:(∀ c∈cs,-200000000000000000000000000000000000000000000000000<=c/\c<=200000000000000000000000000000000000000000000000000))(_:∀ (q:ac4) (tb:Tb) (H':Hp),aj H H'->H q=J->TabAt H' q tb->bV e t tb->tb.length<=12->(∀ r∈tb,dP r.2)->Q (.ref q) H')
def MV(H:Hp)(e t:Int)(q:ac4)(i:Nat)(H1:Hp):Prop:=∃ tb,aj H H1/\H q=J/\TabAt H1 q tb/\bV e t tb/\tb.length<=i/\∀ r∈tb,dP r.2
def Zo(H:Hp)(a b c w:ac4)(at_ e t:Int)(i:Nat)(L:St)(H1:Hp):Prop:=∃ e1 e2 e3,L=[O (.ref a),O (.int at_),O (.ref b),O (.ref c),O (.ref w),e1,e2,e3]/\MV H e t w i H1
theorem MW(T:aH):aR 2 T.vC Zn:=by
 refine ba pL ?_;rintro y y y s H y y y hr ⟨a,b,c,ns,cs,at_,e,t,u,d,m,rfl,hS,a0,hb,sz,hc,bj,hU,q⟩;refine#[_,(aq (aP 4 pL.nd JJ) (aq (cU adE Y (fL Y T.fc (ae (az pA (ay (aa 2) ag) (ay (aa 2) ag)) af)) (cp 5 pL.nd) (aq (aP 6 pL.nd (aG (kK T) hr (ae (aa 0) (ae (az bD (aa 1) (aa 5)) af)))) (ak (aE (nz (az cQ (aa 6) ag) ag) (aq (aP 7 pL.nd (aG (Zl T) hr (ae (az gv (aa 6) ag) (ae (ay (aa 3) (az gv (aa 5) (ay (aa 2) ag))) af)))) (ak (Bs (gu hr) (aa 4) (bf (ae (az cQ (aa 5) (ay (aa 2) ag)) (ae (az gv (aa 5) (ay (aa 2) ag)) af))) (aa 7) Y))) aI)))) (ak (aA (aa 4))))),?_];obtain⟨he,ht,hu,hd,hm⟩:=id sz;refine aD (λL H1=>∃ w,L=[O (.ref a),O (.int at_),O (.ref b),O (.ref c),O (.ref w),J,J,J]/\MV H e t w 0 H1) (λN hN=>?_) ?_
 .rfl';exact λw n4=>hN _ _ #[w,Y,[],aw n4,n4,#[[],ao,trivial],bV.nil,adt _,λy h=>(nomatch h)]
 rintro y yR L H1 ⟨w,rfl,hw⟩;subst yR;obtain⟨y,s1,y⟩:=id hw;have lS:=au.of (K:=K) (s1 _ _ hb);have et:0<=e * t/\e * t<=12:=by rcases (by lia:t=1∨t=2∨t=3) with rfl|rfl|rfl<;>lia
 rfl';refine aB lS (v:=.int e) Y (aB lS (v:=.int t) Y #[oE (by lia) (by lia),by lia,by lia,?_]);refine lg (Zo H a b c w at_ e t) #[_,_,_,Y,hw] ?_ ?_
 .rintro i L H2 hi ⟨e1,e2,e3,rfl,vX⟩;obtain⟨tb,s2,n4,⟨kvs,hk,hT⟩,ar,Zp,rV⟩:=id vX;have jm:=au.of (K:=K) (s2 _ _ hb);have tl:=hT.len;have b1:=afk (0+(i:Int)) (show e≠0 by lia);have b2:=aeM (0+(i:Int)) (show 0<e by lia);have b3:0<=(0+(i:Int)) / e:=ai2 (by lia) (by lia);have b4:(0+(i:Int)) / e<t:=Int.ediv_lt_of_lt_mul (by lia) (by rw[akG];lia);refine aD (λL H3=>∃ z:Int,L=[O (.ref a),O (.int at_),O (.ref b),O (.ref c),O (.ref w),O (.int (0+i)),O (.int z),e3]/\H3=H2) (λN hN=>?_) ?_
  .rfl';exact#[a,ns,_,Y,s2.seq hS,by lia,hN _ _ #[_,Y,Y]]
  rintro y yR L H3 ⟨z,rfl,rfl⟩;subst yR;rfl';refine bo (λy=>?_) λy=>#[_,_,_,Y,tb,s2,n4,#[kvs,hk,hT],ar,by lia,rV]
  refine#[fR (by decide),aB jm (v:=.int e) Y ?_];rfl';have be:Bd 4000 e:=fR (by lia);refine#[by lia,be,aU (ah.of (s2 _ _ hc)) (int_at b3 (by lia)) #[_,_,Y,λwp lo hi H4 s4 Zq cr n1 n2=>?_]];have cb:=hU _ (agm (show ((0+(i:Int)) / e).toNat<cs.length by lia));rw[<- show cs.getD ((0+(i:Int)) / e).toNat 0=cs[((0+(i:Int)) / e).toNat]'(by lia) from by rw[acO,acP (by lia)];rfl] at cb;have MX:=au.of (K:=K) (s4 _ _ (s2 _ _ hb));refine aB MX (v:=.int e) Y ?_;rfl';refine#[by lia,aB MX (v:=.int e) Y #[_,Y,by lia,be,bg,λk Zr=>?_]];have u:=aw (o:=.tup [.int ((0+(i:Int)) % e),.int ((0+(i:Int)) / e)]) Zr;have MY:=(s4.trans u) _ _ hk;refine#[_,lD.t (k:=eo ((0+(i:Int)) % e) ((0+(i:Int)) / e)) MY ao (adS (by lia:kvs.length<=24) (by decide)),_,_,_,Y,fV tb ((0+(i:Int)) % e,(0+(i:Int)) / e) (lo,hi),j9 n4 (s2.trans (s4.trans u)),n4,#[_,ao,?_],ar.put #[#[b1,b2],b3,b4],?_,λr hr=>?_]
  .have F:Fr _ (upd _ w (.dT (putK kvs (eo ((0+(i:Int)) % e) ((0+(i:Int)) / e)) (.ref wp)))):=Tv MY;exact bJ.put (s:=((0+(i:Int)) % e,(0+(i:Int)) / e)) (w:=(lo,hi)) (hT.imp λv a b z=>(aO.same z (s4.trans u)).fr F) (aO.fr #[wp,Y,u _ _ Zq] F)
  .have:=Tz tb ((0+(i:Int)) % e,(0+(i:Int)) / e) (lo,hi);lia
  .rcases Zm hr with z|z
   .exact rV r z
   .rw[z];exact#[cr,λx hx=>by have:=n1 x hx;lia,λx hx=>by have:=n2 x hx;lia]
 .rintro L H2 ⟨e1,e2,e3,rfl,tb,s2,n4,hT,ar,Zp,rV⟩;rfl';exact q w tb H2 s2 n4 hT ar (by lia) rV
theorem Fl:∀ ss:List Str,qI K H (ss.map V.str) (ss.map PyData.str)
 | []=>.nil
 | s::r=>.cons (.str s) (Fl r)
theorem Zs{ss:List Str}(h:∀ s∈ss,al5 s=true):Gd 1 (.list (ss.map PyData.str)):=.lst λd hd=>by obtain⟨s,hs,rfl⟩:=ac2.mp hd;exact Gd.str (h s hs)
theorem MZ{tb:Tb}{s:P2}{w:S2}(h:s∉tb.map (·.1)):fV tb s w=tb++[(s,w)]:=by unfold fV;rw[if_neg];intro z;obtain⟨r,hr,e⟩:=aeb.mp z;exact h (ac2.mpr #[r,hr,by simpa using e])
theorem M0{α β:Type}{f:α->β}{l:List α}{i:Nat}{a:α}(h:(l.map f).Nodup)(ha:l[i]?=O a):f a∉(l.take i).map f:=by
 have hi:=(acX.mp ha).1;have e:l=l.take i++a::l.drop (i+1):=by have:=aeD i l;rw[adN hi] at this;rw[acP hi] at ha;cases ha;exact this.symm
 intro hm;have h2:((l.take i).map f++f a::(l.drop (i+1)).map f).Nodup:=by rw[<- adg,<- adx,<- e];exact h
 exact (aie.mp h2).2.2 _ hm _ (.head _) rfl
theorem M4{Ok:Hp->Prop}{ρ:L2.St}{tt:TT}{te:TE}{Q':List V->Hp->Prop}(I:Nat->Hp->Prop)(c:V)(ar:∀ i H,I i H->Ok H):∀ (xs:List V) (i:Nat) (ys:List V) (H:Hp),I i H->(∀ x H Q,Q true H->tt (O x::ρ) H Q)->(∀ j x H Q,xs[j]?=O x->I (i+j) H->(∀ H',I (i+j+1) H'->Q c H')->te (O x::ρ) H Q)->(∀ H',I (i+xs.length) H'->Q' (ys++acY xs.length c) H')->eL Ok ρ tt te xs ys H Q'
 | [],i,ys,H,h,_,_,q=>#[ar _ _ h,by have:=q H h;simpa using this]
 | x::r,i,ys,H,h,ht,he,q=>by refine#[ar _ _ h,ht x H _ ?_];rw[if_pos Y];refine he 0 x H _ Y h λH' h'=>M4 I c ar r (i+1) (ys++[c]) H' h' ht (λj z H Q hz hI hQ=>he (j+1) z H Q hz (by rw[show i+(j+1)=i+1+j by lia];exact hI) (by rw[show i+(j+1)+1=i+1+j+1 by lia];exact hQ)) λgy Zt=>?_;have:=q gy (by rw[adw,show i+(r.length+1)=i+1+r.length by lia];exact Zt);rw[adw,aez] at this;rw[aet];exact this
noncomputable def mw(r:P2 × S2):acW:=cR (.tel r.1.1 r.1.2 r.2.1 r.2.2)
theorem Zu(e t u d m:Int):("board " : acW)++ad4 BL [aL e,aL t,aL u,aL d,aL m]=cR (.brd e t u d m):=by show _=ad4 BL ("board" :: [aL e,aL t,aL u,aL d,aL m]);rw[join_cons (w := "board") (by simp),show (("board" : acW)++BL) = "board " by decide +kernel]
theorem Zv(r:P2 × S2):("tell " : acW)++ad4 BL [aL r.1.1,aL r.1.2,aQ r.2.1,aQ r.2.2]=mw r:=by show _=ad4 BL ("tell" :: [aL r.1.1,aL r.1.2,aQ r.2.1,aQ r.2.2]);rw[join_cons (w := "tell") (by simp),show (("tell" : acW)++BL) = "tell " by decide +kernel]
theorem gL(h : -300000000000000000000000000000000000000000000000000<=n/\n<=300000000000000000000000000000000000000000000000000):n.natAbs<10 ^ 60:=adS (show n.natAbs<=300000000000000000000000000000000000000000000000000 by lia) (by decide +kernel)
theorem dP.sm(h:dP s):fe s.1/\fe s.2:=by
 obtain⟨y,h1,h2⟩:=h;obtain⟨lo,hi⟩:=s;refine#[?_,?_]
 .cases lo with
  | none=>trivial
  | some n=>exact gL (by have:=h1 n rfl;lia)
 .cases hi with
  | none=>trivial
  | some n=>exact gL (by have:=h2 n rfl;lia)
noncomputable def Zw:V->V
 | .int n=>.str (aL n)
 | v=>v
theorem br.Zx{B:ac4}{H:Hp}{y p l:ac4}{e t u d m:Int}{tb:Tb}{zs:List V}{o:HO}(h:br B H y e t u d m p tb)(hl:H l=O (.lst zs)):br B (upd H l o) y e t u d m p tb:=by obtain⟨⟨dx,a⟩,kvs,hk,hA⟩:=h;exact#[#[dx,by rw[aJ (λz=>by rw[z,hl] at a;cases a)];exact a],kvs,by rw[aJ (λz=>by rw[z,hl] at hk;cases hk)];exact hk,hA.imp λv a b ⟨q,e,hq⟩=>#[q,e,by rw[aJ (λz=>by rw[z,hl] at hq;cases hq)];exact hq]]
theorem br.sb{B:ac4}{H H':Hp}{x dx y p:ac4}{C:ac4}{fs:List (Str × V)}{e t u d m:Int}{tb:Tb}(h:br B H y e t u d m p tb)(hx:H x=O (.ins C dx fs))(yx:y≠x)(s:SameBut x H H'):br B H' y e t u d m p tb:=by obtain⟨⟨dy,a⟩,kvs,hk,hA⟩:=h;exact#[#[dy,s _ _ yx a],kvs,s _ _ (λz=>by rw[z,hx] at hk;cases hk) hk,hA.imp λv a b ⟨q,e,hq⟩=>#[q,e,s _ _ (λz=>by rw[z,hx] at hq;cases hq) hq]]
def M5(H:Hp)(σ0:St)(lw:ac4)(ws:List acW)(os:List En)(i:Nat)(L:St)(H1:Hp):Prop:=(∃ e3,L=σ0.set 7 e3)/\aj H H1/\H1 lw=O (.lst ((ws++(os.take i).map aQ).map V.str))
def Zy(T:aH)(H2:Hp)(x dx rr:ac4)(e t u d m:Int)(tb:Tb)(i:Nat)(H':Hp):Prop:=(i=0/\H'=H2)∨(1<=i/\∃ y2 p2,H2 y2=J/\H2 p2=J/\SameBut x H2 H'/\H' x=O (.ins T.bQ dx [("board",.ref y2),("rules",.ref rr)])/\br T.aN H' y2 e t u d m p2 (tb.take (i-1)))
inductive Zz(T:aH)(vs:List V)(H:Hp)(Q:VK)(aT:XK):Prop
 | mk(x dx rr y p b w:ac4)(bv:V)(e t u d m:Int)(tb:Tb)(_:vs=[.ref x,.ref y,.ref b,.ref w])(_:H x=O (.ins T.bQ dx [("board",bv),("rules",.ref rr)]))(_:(bv = .non ∨ ∃ z,bv = .ref z))(_:br T.aN H y e t u d m p [])(_:H b=O (.tup [.int e,.int t,.int u,.int d,.int m]))(_:Sz e t u d m)(_:TabAt H w tb)(_:w≠p)(_:bV e t tb)(_:tb.length<=12)(_:(∀ r∈tb,dP r.2))(_:∀ (y2 p2:ac4) (H':Hp),(∀ z o,z≠x->z≠p->H z=O o->H' z=O o)->H y2=J->H p2=J->H' x=O (.ins T.bQ dx [("board",.ref y2),("rules",.ref rr)])->br T.aN H' y2 e t u d m p2 tb->br T.aN H' y e t u d m p tb->Q (.bl true) H')
def ZA(T:aH)(H:Hp)(σ0:St)(y p lr ks:ac4)(ys:List V)(e t u d m:Int)(tb:Tb)(i:Nat)(L:St)(H1:Hp):Prop:=(∃ e1 e2 e3,L=((σ0.set 5 e1).set 6 e2).set 7 e3)/\SameBut p H H1/\H1 ks=O (.lst ys)/\d8 H1 ys (tb.map (·.1))/\H1 lr=O (.lst ((cR (.brd e t u d m)::(tb.take i).map mw).map V.str))/\br T.aN H1 y e t u d m p (tb.take i)
theorem M6(T:aH):aR 10 T.nX (Zz T):=by
 refine kG pM ?_;rintro c c c s H c Q c hr ⟨x,dx,rr,y,p,b,w,bv,e,t,u,d,m,tb,rfl,hx,hbv,hB,hb,sz,hT,wp,bc,kN,hw,q⟩;refine#[_,(aq (aP 4 pM.nd (cK (ae (az jg aK (dJ adU afv afw yf aK (ae (dC (cO [] []) Y (qx (aa 2)) (λC s2 H2 ex pn=>#[dt,(gp jh (by rfl) T.ia gQ (ae (aa 0) af))])) af))) af))) (aq (cU agT Y (cT (gp (JG Y) (by rfl) T.yz wZ (ae (aa 3) af))) (cp 5 pM.nd) (aq (aP 6 pM.nd (cK (ae (gp jh (by rfl) T.ia gQ (ae (ay (aa 5) ag) af)) (ae (gp jh (by rfl) T.ia gQ (ae (ay (aa 5) ag) af)) af)))) (aq (cU agT Y (qx (tF (gu hr) (aa 3) (aa 5) (λc c=>rfl))) (cp 7 pM.nd) (ak (aE (c8 (aa 7)) (ak (fJ (dJ ad0 aee aef mQ (aa 6) (ae aK af)))) (ak (fJ (dJ ad0 aee aef mQ (aa 6) (ae (gp jh (by rfl) T.ia gQ (ae (aa 7) af)) af))))))) (aq (fJ (dJ ad0 aee aef mQ (aa 4) (ae (az jg aK (dJ adU afv afw yf aK (ae (aa 6) af))) af))) (ak (fJ (fP (aa 1) T.bY T.Ma (Ml T) hr.m T.mf.b .nil eS (ae (ay (aa 5) ag) (ae (ay (aa 5) ag) (ae (ay (tF (gu hr) (aa 3) (aa 5) (λc c=>rfl)) ag) (ae (ay (tF (gu hr) (aa 3) (aa 5) (λc c=>rfl)) ag) af))))))))))) (ak (aA (fN (IA hr.units) (dC (cO [0] ["_law_desk"]) Y (cT (aa 4)) (λC s2 H2 ex pn=>#[dt,(fP (aa 1) T.fZ T.yX (zc T) hr.m T.jJ.b .nil c7 (ae (aa 0) af))])) (az Hr (cK (ae aK af)) (bA dk (by rfl) T.di dh (ae (aa 4) af))) (dW _)))))),?_];obtain⟨he,ht,hu,hd,hm⟩:=id sz;have gM:e.natAbs<10 ^ 60/\t.natAbs<10 ^ 60/\u.natAbs<10 ^ 60/\d.natAbs<10 ^ 60/\m.natAbs<10 ^ 60:=#[gL (by lia),gL (by lia),gL (by lia),gL (by lia),gL (by lia)]
 obtain⟨kvs,hk,hA⟩:=id hT;obtain⟨⟨dy,hy⟩,kvp,hkp,c⟩:=id hB;refine aD (λL H1=>∃ lr,L=[O (.ref x),O (.ref y),O (.ref b),O (.ref w),O (.ref lr),J,J,J]/\aj H H1/\H lr=J/\H1 lr=O (.lst [.str (cR (.brd e t u d m))])) (λN hN=>?_) ?_
 .rfl';refine#[Y,#[_,au.of hb],cM (xs:=[.int e,.int t,.int u,.int d,.int m]) AG (by show 5<=adh;decide) (lq (p:=λc=>true) (f:=Zw) (au.of hb) (λc c Q h=>h) (λv hv c Q h=>?_) λl hn=>?_)]
  .simp only[acZ,adz,or_false] at hv;obtain⟨n,hn,rfl⟩:∃ n:Int,n.natAbs<10 ^ 60/\v = .int n:=by
    rcases hv with rfl|rfl|rfl|rfl|rfl
    .exact#[_,gM.1,Y]
    .exact#[_,gM.2.1,Y]
    .exact#[_,gM.2.2.1,Y]
    .exact#[_,gM.2.2.2.1,Y]
    .exact#[_,gM.2.2.2.2,Y]
   rfl';exact#[mj hn,h]
  .have wl:∀ s∈[aL e,aL t,aL u,aL d,aL m],s.length<=61:=λs hs=>by
    simp only[acZ,adz,or_false] at hs;rcases hs with rfl|rfl|rfl|rfl|rfl
    .exact gF gM.1
    .exact gF gM.2.1
    .exact gF gM.2.2.1
    .exact gF gM.2.2.2.1
    .exact gF gM.2.2.2.2
   have jl:=join_le wl;refine#[BL,Y,l,Y,[aL e,aL t,aL u,aL d,aL m],ah.of ao,Ff (n:=5) wl (by show 5<=5;decide) (by decide),_,Y,_,Y,?_,by decide,λlr mY=>?_]
   .exact acR (afM (show ("board " : acW).length<=6 by decide) jl) (show 6+5 * 62<=adh by decide)
   .rw[Zu];exact hN _ _ #[lr,Y,(aw hn).trans (aw mY),(aw hn).free mY,ao]
 rintro c yR L H1 ⟨lr,rfl,s1,flr,mY⟩;subst yR;have lp:lr≠p:=λz=>by rw[z,hkp] at flr;cases flr
 refine aD (λL H2=>∃ (e1 e2 e3:Option V),L=[O (.ref x),O (.ref y),O (.ref b),O (.ref w),O (.ref lr),e1,e2,e3]/\SameBut p H H2/\H2 lr=O (.lst ((cR (.brd e t u d m)::tb.map mw).map V.str))/\br T.aN H2 y e t u d m p tb) (λN hN=>?_) ?_
 .rfl';refine#[kvs,s1 _ _ hk,λks ys mx ZC=>#[#[_,ah.of ao],?_]];have u1:=aw (o:=.lst ys) mx;have A1:bJ H1 kvs tb:=hA.imp λc c c z=>z.same s1;have PT:=A1.xK ZC;have kl:=PT.len;rw[acN] at kl;have kp:ks≠p:=λz=>by rw[z,s1 _ _ hkp] at mx;cases mx
  have kr:ks≠lr:=λz=>by rw[z,mY] at mx;cases mx
  refine j8 (xs:=ys) (ZA T H [O (.ref x),O (.ref y),O (.ref b),O (.ref w),O (.ref lr),J,J,J] y p lr ks ys e t u d m tb) #[#[_,_,_,Y],λz o c h=>u1 _ _ (s1 _ _ h),ao,PT.imp λc c r=>r.same u1,u1 _ _ mY,hB.same (s1.trans u1)] (λi L H3 _ ⟨_,_,h,_⟩=>ah.of h) ?_ ?_
  .rintro i v L H3 hv ⟨⟨e1,e2,e3,rfl⟩,sb,M7,Fo,ze,zf⟩;obtain⟨r1,bU,ka,rfl,hka⟩:=Fo.get hv;rw[ac1] at bU;obtain⟨r,hr,rfl⟩:=ady.mp bU;have mC:=ads hr;have mD:=bc.2 r mC;have wr:=hw r mC;obtain⟨zg,zh⟩:=dP.sm wr;obtain⟨vv,hvv,va,rfl,hva⟩:=(hA.val r.1).2 _ (xM bc.1 mC);have ZD:=sb w _ wp hk;have M8:=sb va _ (λz=>by rw[z,hkp] at hva;cases hva) hva;have n1:r.1.1.natAbs<10 ^ 60:=gL (by have:=mD.1;lia);have n2:r.1.2.natAbs<10 ^ 60:=gL (by have:=mD.2;lia);have il:i<tb.length:=(acX.mp hr).1;refine aD (λL H4=>∃ lw,L=[O (.ref x),O (.ref y),O (.ref b),O (.ref w),O (.ref lr),O (.ref ka),O (.ref lw),e3]/\aj H3 H4/\H3 lw=J/\H4 lw=O (.lst [.str (aL r.1.1),.str (aL r.1.2)])) (λN hN=>?_) ?_
   .rfl';refine aB (au.of hka) (v:=.int r.1.1) Y #[_,Y,mj n1,aB (au.of hka) (v:=.int r.1.2) Y #[_,Y,mj n2,bg,λlw p8=>hN _ _ #[lw,Y,aw p8,p8,ao]]]
   rintro c yR L H4 ⟨lw,rfl,s4,flw,p8⟩;subst yR;refine aD (λL H5=>∃ e3,L=[O (.ref x),O (.ref y),O (.ref b),O (.ref w),O (.ref lr),O (.ref ka),O (.ref lw),e3]/\aj H3 H5/\H5 lw=O (.lst ([aL r.1.1,aL r.1.2,aQ r.2.1,aQ r.2.2].map V.str))) (λN hN=>?_) ?_
   .rfl';refine#[.ref va,by rw[<- hvv];exact fT.t (k:=eo r.1.1 r.1.2) (s4 _ _ ZD) (s4 _ _ hka),va,Y,#[_,au.of (s4 _ _ M8)],?_];refine HE (xs:=[ev r.2.1,ev r.2.2]) (M5 H3 [O (.ref x),O (.ref y),O (.ref b),O (.ref w),O (.ref lr),O (.ref ka),O (.ref lw),J] lw [aL r.1.1,aL r.1.2] [r.2.1,r.2.2]) #[#[_,Y],s4,p8] (λi L H5 _ ⟨_,s5,_⟩=>au.of (s5 _ _ M8)) ?_ ?_
    .rintro j v L H5 hv ⟨⟨e5,rfl⟩,s5,n5⟩;have jl:j<2:=(acX.mp hv).1;obtain⟨o,ho,hso,rfl⟩:∃ o,[r.2.1,r.2.2][j]?=O o/\fe o/\v=ev o:=by
      rcases (by lia:j=0∨j=1) with rfl|rfl
      .cases hv;exact#[_,Y,zg,Y]
      .cases hv;exact#[_,Y,zh,Y]
     have tk:[r.2.1,r.2.2].take (j+1)=[r.2.1,r.2.2].take j++[o]:=by rw[aeh,ho];rfl
     have l5:(([aL r.1.1,aL r.1.2]++([r.2.1,r.2.2].take j).map aQ).map V.str).length<adh:=adS (by rw[acN,ac7,acN,afp];show 2+min j 2<=4;lia) (by decide);have fin:∀ z,z=V.str (aQ o)->M5 H3 [O (.ref x),O (.ref y),O (.ref b),O (.ref w),O (.ref lr),O (.ref ka),O (.ref lw),J] lw [aL r.1.1,aL r.1.2] [r.2.1,r.2.2] (j+1) [O (.ref x),O (.ref y),O (.ref b),O (.ref w),O (.ref lr),O (.ref ka),O (.ref lw),O (ev o)] (upd H5 lw (.lst (([aL r.1.1,aL r.1.2]++([r.2.1,r.2.2].take j).map aQ).map V.str++[z]))):=λz ez=>by subst ez;refine#[#[_,Y],j9 flw s5,?_];rw[ao,tk,adx (l₁:=[r.2.1,r.2.2].take j),<- aet,adx (f:=V.str) (l₂:=List.map aQ [o])];rfl
     cases o with
     | none =>
      rfl';exact#[.inl #[Y,_,ah.of n5],_,n5,l5,fin _ Y]
     | some n =>
      rfl';exact#[.inl #[Y,_,ah.of n5],mj hso,_,n5,l5,fin _ Y]
    .rintro L H5 ⟨⟨e5,rfl⟩,s5,n5⟩;exact hN _ _ #[_,Y,s5,n5]
   rintro c yR L H5 ⟨e5,rfl,s5,n5⟩;subst yR;have wl:∀ s∈[aL r.1.1,aL r.1.2,aQ r.2.1,aQ r.2.2],s.length<=61:=λs hs=>by
    simp only[acZ,adz,or_false] at hs;rcases hs with rfl|rfl|rfl|rfl
    .exact gF n1
    .exact gF n2
    .exact mv zg
    .exact mv zh
   have jl:=join_le wl;have vY:=s5 _ _ ze;have ZE:((cR (.brd e t u d m)::(tb.take i).map mw).map V.str).length<=13:=by rw[acN,adw,acN,afp];lia
   refine aD (λL H6=>L=[O (.ref x),O (.ref y),O (.ref b),O (.ref w),O (.ref lr),O (.ref ka),O (.ref lw),e5]/\SameBut p H H6/\H6 ks=O (.lst ys)/\d8 H6 ys (tb.map (·.1))/\H6 lr=O (.lst ((cR (.brd e t u d m)::(tb.take (i+1)).map mw).map V.str))/\br T.aN H6 y e t u d m p (tb.take i)/\H6 ka=O (.tup [.int r.1.1,.int r.1.2])) (λN hN=>?_) ?_
   .rfl';refine#[.inl #[Y,_,ah.of vY],Y,BL,Y,_,ah.of n5,Ff (n:=4) wl (by show 4<=4;decide) (by decide),_,Y,_,Y,?_,_,vY,adS ZE (by decide),?_]
    .exact acR (afM (show ("tell " : acW).length<=5 by decide) jl) (show 5+4 * 62<=adh by decide)
    .rw[Zv];refine hN _ _ #[Y,λz o hz h=>?_,?_,d8.put (Fo.imp λc c r=>r.same s5) vY,?_,(zf.same s5).Zx vY,?_]
     .rw[aJ (λe=>by rw[e,flr] at h;cases h)];exact s5 _ _ (sb _ _ hz h)
     .rw[aJ kr];exact s5 _ _ M7
     .rw[ao,aeh,hr,aj1,adx (f:=mw),<- List.cons_append,adx (f:=V.str)];rfl
     .have h5:=s5 _ _ hka;rw[aJ (λe=>by rw[e,vY] at h5;cases h5)];exact h5
   rintro c yR L H6 ⟨rfl,Fp,ZF,ZG,ZH,M9,zi⟩;subst yR;have Na:=Fp w _ wp hk;have Nb:=Fp va _ (λz=>by rw[z,hkp] at hva;cases hva) hva;obtain⟨⟨ZI,Nc⟩,ZJ,qb,Nd⟩:=id M9;have ZK:=Nd.len;rw[afp] at ZK;rfl';refine#[_,_,Nc,Y,aB (au.of zi) (v:=.int r.1.1) Y (aB (au.of zi) (v:=.int r.1.2) Y ?_)];refine#[.ref va,by rw[<- hvv];exact fT.t (k:=eo r.1.1 r.1.2) Na zi,aB (au.of Nb) (v:=ev r.2.1) Y ?_];refine#[.ref va,by rw[<- hvv];exact fT.t (k:=eo r.1.1 r.1.2) Na zi,aB (au.of Nb) (v:=ev r.2.2) Y ?_];refine#[y,p,e,t,u,d,m,r.1.1,r.1.2,r.2.1,r.2.2,ZJ,Y,#[#[ZI,Nc],qb],by lia,λz=>absurd #[mD,wr.1] z,λc v7 H7 vZ h7 ZL=>?_];have F:Fr H6 H7:=SameBut.fr vZ qb;refine#[#[_,_,_,Y],λz o hz h=>vZ _ _ hz (Fp _ _ hz h),vZ _ _ kp ZF,ZG.imp λ_ _ ⟨q,e,h⟩=>#[q,e,vZ _ _ (λz=>by rw[z,qb] at h;cases h) h],vZ _ _ lp ZH,?_];have B7:=M9.now F (tb':=fV (tb.take i) r.1 r.2) #[_,h7,bJ.put (s:=r.1) (w:=r.2) (Nd.imp λv a b z=>z.fr F) ZL];rw[MZ (M0 bc.1 hr)] at B7;rw[aeh,hr];exact B7
  .rintro L H3 ⟨⟨e1,e2,e3,rfl⟩,sb,M7,Fo,ze,zf⟩;rw[kl,aeP] at ze zf;exact hN _ _ #[_,_,_,Y,sb,ze,zf]
 rintro c yR L H2 ⟨e1,e2,e3,rfl,s2,rW,Nf⟩;subst yR;have xp:x≠p:=λz=>by rw[z,hkp] at hx;cases hx
 have v5:=s2 x _ xp hx;have yx:y≠x:=λz=>by rw[z,hx] at hy;injection hy with hy;injection hy with _ _ h;exact absurd (congrArg List.length h) (by show ¬ (2:Nat)=6;decide)
 have lx:lr≠x:=λz=>by rw[z,v5] at rW;cases rW
 obtain⟨⟨dy2,vS⟩,kv2,iV,c⟩:=id Nf;have Ng:∀ z,H2 z=J->H z=J:=λz hz=>by
  cases h:H z with
  | none=>rfl
  | some o =>
   have:=s2 z o (λe=>by rw[e,iV] at hz;cases hz) h;rw[hz] at this;cases this
 have rl:((cR (.brd e t u d m)::tb.map mw).map V.str).length=tb.length+1:=by rw[acN,adw,acN]
 rfl';refine#[#[_,ah.of rW],cM (xs:=(cR (.brd e t u d m)::tb.map mw).map V.str) gU (by rw[rl];exact acR (by lia:tb.length+1<=13) (by decide)) (M4 (Zy T H2 x dx rr e t u d m tb) (.str "ok") (λi H' h=>?_) _ 0 [] H2 (.inl #[Y,Y]) (λv H' Q h=>h) (λj v H' Q hj hI hQ=>?_) λH' hI=>?_)]
 .rcases h with ⟨c,rfl⟩|⟨c,y2,p2,c,c,sb,c,c⟩
  .exact ah.of rW
  .exact ah.of (sb _ _ lx rW)
 .rw[ajc] at hI hQ;cases j with
  | zero =>
   cases hj;rcases hI with ⟨c,rfl⟩|⟨z,c⟩
   .rfl';refine#[_,_,v5,Y,x,dx,rr,bv,.brd e t u d m,Y,v5,hbv,λo ho=>?_,.brd e t u d m #[by lia,by lia,hu.1,hd.1,hm.1,hm.2] λy2 p2 H' sb fy fp cL bH=>hQ _ (.inr #[acS _,y2,p2,fy,fp,sb,cL,bH])];simp only[cD,acZ,adz,or_false] at ho;rcases ho with rfl|rfl|rfl|rfl|rfl
    .exact gM.1
    .exact gM.2.1
    .exact gM.2.2.1
    .exact gM.2.2.2.1
    .exact gM.2.2.2.2
   .exact absurd z (by lia)
  | succ j =>
   rw[adg,afH,ac1,ac1] at hj;obtain⟨s,hs,rfl⟩:=ady.mp hj;obtain⟨r,hr,rfl⟩:=ady.mp hs;have mC:=ads hr;have mD:=bc.2 r mC;have wr:=hw r mC;obtain⟨zg,zh⟩:=dP.sm wr;rcases hI with ⟨z,c⟩|⟨c,y2,p2,fy,fp,sb,cL,bH⟩
   .cases z
   .have x2:x≠p2:=λz=>by rw[<- z,v5] at fp;cases fp
    rfl';refine#[_,_,cL,Y,x,dx,rr,.ref y2,.tel r.1.1 r.1.2 r.2.1 r.2.2,Y,cL,.inr #[_,Y],λo ho=>?_,.tel r.1.1 r.1.2 r.2.1 r.2.2 y2 p2 e t u d m _ Y bH mD wr.1 (by rw[afp];lia) λgy Nh jm=>hQ _ (.inr #[by lia,y2,p2,fy,fp,λz o hz h=>Nh _ _ (λe=>by rw[e,fp] at h;cases h) (sb _ _ hz h),Nh _ _ x2 cL,?_])]
    .simp only[cD,acZ,adz,or_false] at ho;rcases ho with rfl|rfl|rfl|rfl
     .exact gL (by have:=mD.1;lia)
     .exact gL (by have:=mD.2;lia)
     .exact zg
     .exact zh
    .have e1:tb.take (j+1+1-1)=fV (tb.take (j+1-1)) (r.1.1,r.1.2) (r.2.1,r.2.2):=by show tb.take (j+1)=fV (tb.take j) r.1 r.2;rw[MZ (M0 bc.1 hr),aeh,hr];rfl
     rw[e1];exact jm
 .rw[ajc,rl] at hI;rcases hI with ⟨z,c⟩|⟨c,y2,p2,fy,fp,sb,cL,bH⟩
  .cases z
  rw[ahM,aeP] at bH;intro l hl;rw[adl,rl];have u1:=aw (o:=.lst (acY (tb.length+1) (V.str "ok"))) hl;refine#[by decide,λp3 h3=>#[_,eQ (ah.of ((u1.trans (aw h3)) _ _ (sb _ _ lx rW))),p3,_,[.str "ok"],Y,Y,ao,by lia,by rw[rl];lia,?_,λp4 h4=>?_]]
  .rw[rl];exact acR (by show 1 * ((tb.length+1:Nat):Int).toNat<=13;lia) (by decide)
  .have u3:=aw (o:=.lst [.str "ok"]) h3;have ef:(acY ((((((cR (.brd e t u d m)::tb.map mw).map V.str).length:Nat):Int)).toNat) [V.str "ok"]).flatten=(acY (tb.length+1) ("ok" : acW)).map V.str:=by
    rw[rl,adL,aka];generalize tb.length+1=n
    induction n with
    | zero=>rfl
    | succ n ih=>rw[aez,afB,ih];rfl
   have el:acY (tb.length+1) (V.str "ok")=(acY (tb.length+1) ("ok" : acW)).map V.str:=by rw[aka]
   rw[ef] at *;have u4:=aw (o:=.lst ((acY (tb.length+1) ("ok" : acW)).map V.str)) h4;have U:=u1.trans (u3.trans u4);refine TN (.lst (ah.of ((u3.trans u4) _ _ (by rw[ao,el]))) (Fl _)) (.lst (ah.of ao) (Fl _)) (Zs λs hs=>by rw[(ahI.mp hs).2];decide +kernel) (by decide) ?_;exact q y2 p2 _ (λz o zx zp h=>U _ _ (sb _ _ zx (s2 _ _ zp h))) (Ng _ fy) (Ng _ fp) (U _ _ cL) (bH.same U) ((Nf.sb v5 yx sb).same U)
inductive ZM(vs:List V)(H:Hp)(Q:VK)(aT:XK):Prop
 | mk(p:ac4)(lo hi:En)(n:Int)(_:vs=[.ref p,.int n])(_:au K H p [ev lo,ev hi])(_:Q (.bl (hold lo hi n)) H)
theorem Ni(T:aH):aR 1 T.vD ZM:=by
 refine ba EN ?_;rintro y y y y H y Q y y ⟨p,lo,hi,n,rfl,hp,q⟩;refine#[_,(ak (aA (iK (ya (qu (zJ (ay (aa 0) ag))) (gf (fN (pw fM) (ay (aa 0) ag) (aa 1) (dW _)))) (gf (ya (qu (zJ (ay (aa 0) ag))) (gf (fN (pw fM) (aa 1) (ay (aa 0) ag) (dW _)))))))),?_];rcases lo with y|lo<;>rcases hi with y|hi
 all_goals simp only[Bj,Bk] at hp
 all_goals
  rfl'
  repeat' first
  | refine aB hp Y ?_
  | (walk_at "p")
  | (refine bo (λhc=>?_) λhc=>?_)
 all_goals first
  | exact q
  | exact (congrArg (λb=>Q (V.bl b) H) (show hold _ _ n=_ by rw[aeY,Bl];simp<;>lia)).mp q
inductive ZN(vs:List V)(H:Hp)(Q:VK)(aT:XK):Prop
 | mk(b:ac4)(e t u d m:Int)(i j:Nat)(_:vs=[.ref b,.int (i:Int),.int (j:Int)])(_:H b=O (.tup [.int e,.int t,.int u,.int d,.int m]))(_:Sz e t u d m)(_:i<=12)(_:j<=12)(_:Q (.int (tW u d i j)) H)
theorem ZO(T:aH):aR 1 T.nW ZN:=by
 refine ba EM ?_;rintro y y y y y y y y y ⟨b,e,t,u,d,m,i,j,rfl,hb,sz,hi,hj,q⟩;refine#[_,(aq (aE (Lb (aa 1) (aa 2)) (ak (aA (az pA (az dR (aa 2) (aa 1)) (ay (aa 0) ag)))) aI) (ak (aA (az pA (az dR (aa 1) (aa 2)) (ay (aa 0) ag))))),?_];obtain⟨he,ht,hu,hd,hm⟩:=id sz;unfold tW at q;rfl';refine bo (λh=>?_) λh=>?_
 .refine aB (au.of hb) (v:=.int u) Y ?_;rfl';refine#[oE (by lia) (by lia),?_];rw[akG];by_cases iC:(i:Int)<j
  .rw[if_pos iC] at q;exact q
  .rw[if_neg iC,show (i:Int)-j=j-i by lia,show ((j:Int)-i)=0 by lia,al8] at q;rw[show ((j:Int)-i)=0 by lia,al8];exact q
 .refine aB (au.of hb) (v:=.int d) Y ?_;rfl';refine#[oE (by lia) (by lia),?_];rw[akG];rw[if_neg (by lia)] at q;exact q
inductive rX(H:Hp)(v:V)(r:Gp):Prop
 | mk(g k:ac4)(zs:List V)(_:v = .ref g)(_:H g=O (.tup [ev r.1,.ref k]))(_:H k=O (.lst zs))(_:ax (eG H) zs r.2)
theorem rX.same(h:rX H v r)(s:aj H H'):rX H' v r:=let ⟨g,k,zs,e,a,b,c⟩:=h;#[g,k,zs,e,s _ _ a,s _ _ b,c.imp λy y x=>x.same s]
inductive ZP(B:ac4)(vs:List V)(H:Hp)(Q:VK)(aT:XK):Prop
 | mk(x p:ac4)(e t u d m:Int)(tb:Tb)(_:vs=[.ref x])(_:br B H x e t u d m p tb)(_:(tb.map (·.1)).Nodup)(_:tb.length<64)(_:(∀ r∈tb,0<=r.1.2))(_:0<=e)(_:e<=7)(_:∀ l ys H',aj H H'->H l=J->H' l=O (.lst ys)->ax (rX H') ys ((tX e.toNat tb).map λr=>(O r.1,r.2))->Q (.ref l) H')
theorem ZQ(T:aH):aR 3 T.uU (ZP T.aN):=by
 refine ba El ?_;rintro y y y s y y Q y hr ⟨x,p,e,t,u,d,m,tb,rfl,hb,eB,bB,bG,h0,h7,q⟩;refine#[_,(ak (aA (dC (cO [0] ["board"]) Y (fL Y T.fc (ae (eE Y (aa 0) Y) af)) (λC s2 H2 ex pn=>#[dt,(bf (ae (aa 0) (ae (aG (Yx T) hr (ae (aa 1) (ae (aa 0) af))) af)))])))),?_];obtain⟨⟨dx,hx⟩,hp⟩:=id hb;rfl';refine#[_,_,_,hx,T.bY,T.rQ,_,Y,?_];refine#[e,Y,by lia,by lia,cM mT (by rw[acN,adj];exact acR (by lia:_<=12) (by decide)) (iB (R:=λ_ x (k:Nat)=>x=V.int ((0:Int)+k)) (R':=rX) (f:=λ(k:Nat)=>((O (k:Int),ng tb (k:Int)):Gp)) (λy y y y y h=>h) (λy y y y s' h=>h.same s') (ax.iM _) (bs:=[]) trivial (λy y=>trivial) (λx k y H2 s2 r Q h=>?_) (λx k y H2 s2 r Q h=>?_) λH2 zs s2 hz=>?_)]
 .rfl';exact h
 .subst r;rfl';rw[af2];refine#[x,p,e,t,u,d,m,(k:Int),tb,Y,hb.same s2,eB,bB,bG,λl ys H3 s3 y hl hM=>#[bg,λg hg=>?_]];have u1:=aw (o:=.tup [.int (k:Int),.ref l]) hg;exact h _ _ (s3.trans u1) #[g,l,ys,Y,ao,u1 _ _ hl,hM.imp λy y x=>x.same u1]
 .intro l hl;rw[adl] at hz;refine q l zs _ (s2.trans (aw hl)) (s2.free hl) ao ?_;unfold tX;rw[aei];exact hz.imp λy y r=>r.same (aw hl)
inductive ZR(vs:List V)(H:Hp)(Q:VK)(aT:XK):Prop
 | mk(a b:ac4)(xs ys:List V)(ps:List P2)(ms:List Mk)(_:vs=[.ref a,.ref b])(_:ah K H a xs)(_:d8 H xs ps)(_:ah K H b ys)(_:ax (eG H) ys ms)(_:dw ps)(_:ps.length<=900)(_:ms.length<=1000)(_:(∀ m∈ms,m.1<=ps.length))(_:((¬ ∃ c,fB ps c/\meets ms c)->∀ H',aj H H'->Q .non H'))(_:(∀ l cs H',aj H H'->H l=J->H' l=O (.lst (cs.map V.int))->cs.length=ps.length+1->fB ps (bT cs)->meets ms (bT cs)->Q (.ref l) H'))
inductive ZT(H:Hp)(a b x l c:ac4)(zs:List V)(ss:List S2)(ps:List P2)(ms:List Mk)(i:Nat)(L:St)(H1:Hp):Prop
 | mk(cs:List Int)(e1 e2:Option V)(_:L=[O (.ref a),O (.ref b),O (.ref x),O (.ref l),e1,e2])(_:aj H H1)(_:H1 l=O (.lst (cs.map V.int)))(_:H1 c=O (.lst (zs.drop 1)))(_:ax (m9 H1) zs ss)(_:cs.length=i+1)(_:(∀ t,t<=i->cc (cP ps.length (bK ms) (aF ps) t) (bT cs t)))(_:∀ k,k<i->(aF ps k).1<=bT cs (k+1)-bT cs k/\bT cs (k+1)-bT cs k<=(aF ps k).2)
theorem zj(h:t<cs.length):bT (cs++[n]) t=bT cs t:=by unfold bT;rw[acO,acO,aen h]
theorem Nj(h:cs.length=t):bT (cs++[n]) t=n:=by unfold bT;rw[acO,ad6 (by lia),h,ahK];rfl
theorem ZU{cs:List Int}{i:Nat}(h:cs.length=i+1):dq (cs.map V.int) (-1)=O (.int (bT cs i)):=by
 have e:cs=cs.take i++[bT cs i]:=by have:=aeD i cs;rw[adN (by lia),agG (by lia)] at this;unfold bT;rw[acO,acP (by lia)];exact this.symm
 have e2:cs.map V.int=(cs.take i).map V.int++[V.int (bT cs i)]:=(congrArg (List.map V.int) e).trans (by rw[adx];rfl);rw[e2];exact wO _ _
theorem Nk(h:aY s.1 s.2=false):bC s (lJ s):=Bz.mpr (Uu h)
theorem Nl(h:i<ss.length):ss[i]?=O (bw ss i):=by unfold bw;rw[acO,acP h];rfl
theorem Fs(h:i<ps.length):ps[i]?=O (aF ps i):=by unfold aF;rw[acO,acP h];rfl
theorem ZV(T:aH):aR 5 T.uL ZR:=by
 refine ba pK ?_;rintro _ _ _ s H _ _ _ hr ⟨a,b,xs,ys,ps,ms,rfl,hS,hP,hT,hM,ar,hn,hm,ht,q0,q⟩;refine#[_,(aq (aP 2 pK.nd (aG (MC T) hr (ae (aa 0) (ae (aa 1) af)))) (aq (aE (c8 (aa 2)) (ak (aA bE)) aI) (aq (aP 3 pK.nd (cK (ae (aG (Mw T) hr (ae (ay (aa 2) ag) af)) af))) (aq (cU adE Y (RO Y T.ET (ae (aa 0) (ae (mP wQ (aa 2) (mO ag) mM) af))) (jf Y (da (cp 4 pK.nd) (da (cp 5 pK.nd) jd))) (ak (fJ (dJ ad0 aee aef mQ (aa 3) (ae (aG (Mw T) hr (ae (aG (E2 T) hr (ae (aa 5) (ae (aG (My T) hr (ae (bf (ae (ay (aa 3) (eO fb ag)) (ae (ay (aa 3) (eO fb ag)) af))) (ae (aa 4) af))) af))) af)) af))))) (ak (aA (aa 3))))))),?_];have l1:=hP.len;rfl';refine#[a,b,xs,ys,ps,ms,Y,hS,hP,hT,hM,ar,hn,hm,λt ht en H1 s1=>?_,λbp x zs ss H1 s1 fx hx hz ke gJ=>?_]
 .rfl';refine q0 ?_ _ s1;rintro ⟨c,hc,lY⟩;exact JX hc lY t ht en
 have TB:=BM ar bp;have zl:=hz.len;have ZW:∀ t,t<=ps.length->aY (bw ss t).1 (bw ss t).2=false:=λt ht=>by obtain⟨s,es,hs⟩:=TB.ok t ht;rw[gJ t ht] at es;cases es;exact hs
 rfl';obtain⟨v0,Ft,r0⟩:=hz.at (Nl (ss:=ss) (i:=0) (by lia));refine aU (ah.of hx) (cZ (j:=0) Ft) ?_;refine#[v0,bw ss 0,Y,r0,by decide,λl gI=>?_];have u1:=aw (o:=.lst [.int (lJ (bw ss 0))]) gI;have L1:upd H1 l (.lst [.int (lJ (bw ss 0))]) l=O (.lst ([lJ (bw ss 0)].map V.int)):=ao;have fl:=s1.free gI;generalize upd H1 l (.lst [.int (lJ (bw ss 0))])=H2 at u1 L1 ⊢;refine#[zs,ah.of (u1 _ _ hx),λc hc=>?_];rw[show j4 zs (O 1) J=zs.drop 1 from A6 zs 1];have u2:=aw (o:=.lst (zs.drop 1)) hc;have c3:upd H2 c (.lst (zs.drop 1)) c=O (.lst (zs.drop 1)):=ao;have lc:l≠c:=λz=>by rw[<- z,L1] at hc;cases hc
 generalize upd H2 c (.lst (zs.drop 1))=H3 at u2 c3 ⊢;have S3:=s1.trans (u1.trans u2);refine#[#[_,S3.seq hS],#[_,ah.of c3],RU (xs:=xs) (ys:=zs.drop 1) (ZT H a b x l c zs ss ps ms) #[[lJ (bw ss 0)],_,_,Y,S3,u2 _ _ L1,c3,hz.imp λ_ _ r=>aO.same r (u1.trans u2),Y,λt ht=>?_,λk hk=>absurd hk (ae0 _)] ?_ ?_ ?_]
 .obtain rfl:t=0:=by lia
  exact#[_,gJ 0 (by lia),Nk (ZW 0 (by lia))]
 .rintro i L H4 ⟨_,_,_,_,s4,_,c4,_⟩;exact#[s4.seq hS,ah.of c4]
 .rintro i u v L H4 p hu hv ⟨cs,d1,d2,rfl,s4,L4,c4,qc,bj,dr,de⟩ hp;have hi:i<ps.length:=by have:=(acX.mp hu).1;lia
  obtain⟨pt,ept,ru⟩:=hP.get hu;rw[Fs hi] at ept;cases ept;rw[List.getElem?_drop,al3 1 i] at hv;obtain⟨sv,esv,rv⟩:=qc.get hv;rw[Nl (by lia)] at esv;cases esv;refine mV (au.of ao) ?_;have up:=aw (o:=.tup [u,v]) hp;generalize upd H4 p (.tup [u,v])=H5 at up ⊢;have L5:=up _ _ L4;rfl';have lst:=ZU bj;refine#[.inl #[Y,_,ah.of L5],aU (ah.of L5) lst (aU (ah.of L5) lst #[bg,λt1 mq=>?_])];have ut:=aw (o:=.tup [.int (bT cs i),.int (bT cs i)]) mq;refine#[.ref t1,u,(O (bT cs i),O (bT cs i)),aF ps i,Y,#[t1,Y,ao],ru.same (s4.trans (up.trans ut)),λr H6 s6 _ n6=>?_];obtain⟨m,em,cV⟩:=Ui TB hi (dr i (acS _)) (gJ (i+1) (by lia));have ZX:=aO.same rv (up.trans (ut.trans s6));refine#[v,.ref r,_,_,_,_,Y,ZX,#[r,Y,n6],λy H7 s7 hy=>?_];have cm:=JO em;have Nm:aY (eU (bw ss (i+1)).1 (eX (O (bT cs i),O (bT cs i)) (aF ps i)).1) (eV (bw ss (i+1)).2 (eX (O (bT cs i),O (bT cs i)) (aF ps i)).2)=false/\m=(eU (bw ss (i+1)).1 (eX (O (bT cs i),O (bT cs i)) (aF ps i)).1,eV (bw ss (i+1)).2 (eX (O (bT cs i),O (bT cs i)) (aF ps i)).2):=by
   unfold iF at em;split at em
   .cases em
   .rename_i hc;cases em;exact#[by simpa using hc,Y]
  have vS:=hy.2 Nm.1;refine#[y,m,Y,by rw[Nm.2];exact vS,?_];have S7:=up.trans (ut.trans (s6.trans s7));have L7:=S7 _ _ L4;obtain⟨n1,n2,n3⟩:=cV _ (Nk cm);refine#[_,L7,by rw[acN];exact adS (by lia:_<=1000) (by decide),cs++[lJ m],_,_,Y,j9 fl (s4.trans S7),by rw[ao,adx];rfl,by rw[aJ (adR lc)];exact S7 _ _ c4,qc.imp λ_ _ r=>aO.put (aO.same r S7) L7,by rw[ac7,adb];lia,λt ht=>?_,λk hk=>?_]
  .by_cases e:t=i+1
   .subst e;rw[Nj bj];exact n1
   .rw[zj (by lia)];exact dr t (by lia)
  .by_cases e:k=i
   .subst e;rw[Nj bj,zj (by lia)];exact#[n2,n3]
   .rw[zj (by lia),zj (by lia)];exact de k (by lia)
 .rintro L H4 ⟨cs,d1,d2,rfl,s4,L4,c4,qc,bj,dr,de⟩;rfl';rw[aiw,show min xs.length (zs.length-1)=ps.length by lia] at bj dr de;exact q l cs H4 s4 fl L4 bj de (meets_of TB ht dr)
def dU(H:Hp)(v:V):Option P2->Prop
 | none=>v = .non
 | some p=>eM H v p
theorem dU.same(h:dU H v o)(s:aj H H'):dU H' v o:=by
 cases o with
 | none=>exact h
 | some p=>exact eM.same h s
inductive ZY(vs:List V)(H:Hp)(Q:VK)(aT:XK):Prop
 | mk(v u:V)(a b:Option P2)(_:vs=[v,u])(_:dU H v a)(_:dU H u b)(_:∀ x,dU H x (ky a b)->(x=v∨x=u)->Q x H)
theorem Fu(T:aH):aR 1 T.uM ZY:=by
 refine ba Ee ?_;rintro y y y y H y y y hr ⟨v,u,a,b,rfl,ha,hb,q⟩;refine#[_,(aq (aE (PW.pt (dj (c8 (aa 0)) (fi (c8 (aa 1))))) (ak (aA (gO (c8 (aa 0)) (aa 1) (aa 0)))) aI) (ak (aA (bA (UP Y (gu hr)) (by rfl) T.yA wY (ae (aa 0) (ae (aa 1) af)))))),?_];rcases a with y|a<;>rcases b with y|b
 .obtain rfl:v = .non:=ha;obtain rfl:u = .non:=hb;rfl';exact q _ Y (.inl rfl)
 .obtain rfl:v = .non:=ha;obtain⟨r,rfl,bU⟩:=id hb;rfl';exact q _ hb (.inr rfl)
 .obtain rfl:u = .non:=hb;obtain⟨r,rfl,bU⟩:=id ha;rfl';exact q _ ha (.inl rfl)
 .obtain⟨r,rfl,bU⟩:=id ha;obtain⟨r2,rfl,kO⟩:=id hb;rfl';refine#[a,bU,b,kO,?_];by_cases hl:fW b a=true
  .rw[if_pos hl];exact q _ (by show eM H _ (fX a b);unfold fX;rw[if_pos hl];exact hb) (.inr rfl)
  .rw[if_neg hl];exact q _ (by show eM H _ (fX a b);unfold fX;rw[if_neg hl];exact ha) (.inl rfl)
inductive ZZ(vs:List V)(H:Hp)(Q:VK)(aT:XK):Prop
 | mk(v:V)(a:Option P2)(b:Int)(_:vs=[v,.int b])(_:dU H v a)(_:∀ x H',aj H H'->dU H' x (qW a b)->Q x H')
theorem Nn(T:aH):aR 1 T.uN ZZ:=by
 refine ba Ef ?_;rintro y y y y y y y y y ⟨v,a,b,rfl,ha,q⟩;refine#[_,(ak (aA (gO (c8 (aa 0)) bE (bf (ae (az bD (ay (aa 0) ag) (aa 1)) (ae (ay (aa 0) ag) af)))))),?_];rcases a with y|a
 .obtain rfl:v = .non:=ha;rfl';exact q _ _ (aj.refl _) rfl
 .obtain⟨r,rfl,bU⟩:=id ha;rfl';refine bX bU ?_;rfl';refine aB (au.of bU) Y #[bg,λp hp=>q _ _ (aw hp) #[p,Y,ao]]
inductive Z0(vs:List V)(H:Hp)(Q:VK)(aT:XK):Prop
 | mk(a b:ac4)(xs ys:List V)(ps:List P2)(ms:List Mk)(_:vs=[.ref a,.ref b])(_:ah K H a xs)(_:d8 H xs ps)(_:ah K H b ys)(_:ax (eG H) ys ms)(_:dw ps)(_:ps.length<=900)(_:ms.length<=1000)(_:(∀ m∈ms,m.1<=ps.length))(_:∀ l zs ts H',aj H H'->H l=J->H' l=O (.lst zs)->ax (dU H') zs ts->ts.length=ps.length+1->lF ps ms (dQ ts)->Q (.ref l) H')
inductive qd(P:Nat->(Nat->Option P2)->Prop)(H:Hp)(a b l:ac4)(n:Nat)(i:Nat)(L:St)(H1:Hp):Prop
 | mk(zs:List V)(ts:List (Option P2))(e1 e2 e3:Option V)(_:L=[O (.ref a),O (.ref b),O (.ref l),e1,e2,e3])(_:aj H H1)(_:H1 l=O (.lst zs))(_:ax (dU H1) zs ts)(_:ts.length=n+1)(_:P i (dQ ts))
theorem dU.put(h:dU H v o)(hl:H l=O (.lst ys)):dU (upd H l (.lst zs)) v o:=by
 cases o with
 | none=>exact h
 | some p=>exact eM.put h hl
theorem ax.Np{α:Type}{R:V->α->Prop}{x:V}{a:α}(r:R x a):∀ {xs:List V} {as:List α} (j:Nat),ax R xs as->ax R (xs.set j x) (as.set j a)
 | [],[],_,_=>trivial
 | _::_,_::_,0,h=>#[r,h.2]
 | _::_,_::_,j+1,h=>#[h.1,ax.Np r j h.2]
 | [],_::_,_,h=>h.elim
 | _::_,[],_,h=>h.elim
theorem rY(h:ax (dU H) zs ts)(ht:t<ts.length):∃ v,dq zs (t:Int)=O v/\dU H v (dQ ts t):=by obtain⟨v,hv,r⟩:=h.at (acP ht);refine#[v,cZ hv,?_];unfold dQ;rw[acO,acP ht];exact r
theorem Fw(h:t<n):iy n (t:Int)=O t:=by unfold iy;rw[if_pos (by lia),if_pos (by lia),adL]
theorem Fx{P:Nat->(Nat->Option P2)->Prop}{H:Hp}{a b l:ac4}{n i:Nat}{zs:List V}{ts:List (Option P2)}{H1:Hp}{v:V}{x:Option P2}{t:Nat}{d1 d2 d3:Option V}(gI:H l=J)(s:aj H H1)(hl:H1 l=O (.lst zs))(hz:ax (dU H1) zs ts)(hlen:ts.length=n+1)(hv:dU H1 v x)(ht:t<n+1)(hP:P i (kz (dQ ts) t x)):qd P H a b l n i [O (.ref a),O (.ref b),O (.ref l),d1,d2,d3] (upd H1 l (.lst (zs.set t v))) :=
 #[zs.set t v,ts.set t x,d1,d2,d3,Y,j9 gI s,ao,(ax.Np hv t hz).imp λy y r=>r.put hl,by rw[ahn];exact hlen,by rw[Uj (by lia)];exact hP]
theorem Z1(n:Nat):mW ((n:Int)-1) (-1) (-1)=n:=by unfold mW adX;simp only[show ¬ ((-1:Int) > 0) by lia,if_false,show (- (-1:Int))=1 by lia,ai7];split<;>lia
theorem Z2(T:aH):aR 2 T.uO Z0:=by
 refine ba nD ?_;rintro z z z z H z Q z hr ⟨a,b,xs,ys,ps,ms,rfl,hS,hP,hT,hM,ar,hn,hm,ht,q⟩;refine#[_,(aq (oJ (i:=2) (cO [] []) Y nD.nd Y Y (fL Y T.fc (ae (az bD (bA dk (by rfl) T.di dh (ae (aa 0) af)) ag) af)) (λC s2 H2 ex pn=>#[dt,bE])) (aq (cU adE Y (AU Y T.yy (ae (aa 1) af)) (jf Y (da (cp 3 nD.nd) (da (cp 4 nD.nd) jd))) (ak (aE (iJ (ay (ay (aa 4) ag) ag)) (ak (sC (aG (Fu T) hr (ae (ay (aa 2) (ay (aa 4) ag)) (ae (bf (ae (ay (ay (aa 4) ag) ag) (ae (aa 3) af))) af))) (sA (aa 2) (ay (aa 4) ag) set_list))) aI))) (aq (cU adE Y (fL Y T.fc (ae (bA dk (by rfl) T.di dh (ae (aa 0) af)) af)) (cp 5 nD.nd) (ak (sC (aG (Fu T) hr (ae (ay (aa 2) (az bD (aa 5) ag)) (ae (aG (Nn T) hr (ae (ay (aa 2) (aa 5)) (ae (ay (ay (aa 0) (aa 5)) ag) af))) af))) (sA (aa 2) (az bD (aa 5) ag) set_list)))) (aq (cU adE Y (RY Y T.fc (ae (az dR (bA dk (by rfl) T.di dh (ae (aa 0) af)) ag) (ae (eO fb ag) (ae (eO fb ag) af)))) (cp 5 nD.nd) (ak (sC (aG (Fu T) hr (ae (ay (aa 2) (aa 5)) (ae (aG (Nn T) hr (ae (ay (aa 2) (az bD (aa 5) ag)) (ae (eO fb (ay (ay (aa 0) (aa 5)) ag)) af))) af))) (sA (aa 2) (aa 5) set_list)))) (ak (aA (aa 2))))))),?_];have l1:=hP.len;have l2:=hM.len;refine aD (λL H1=>∃ l,L=[O (.ref a),O (.ref b),O (.ref l),J,J,J]/\aj H H1/\H l=J/\H1 l=O (.lst (acY (ps.length+1) .non))) (λN hN=>?_) ?_
 .rfl';refine#[_,eQ hS,by lia,by lia,?_];rw[l1,show ((ps.length:Int)+1).toNat=ps.length+1 by lia];refine cM mT (by rw[acN,adj];exact acR (by lia:_<=901) (by decide)) (lq (p:=λz=>true) (f:=λz=>.non) trivial (λx z Q h=>?_) (λx z z Q h=>?_) ?_)
  .rfl';exact h
  .rfl';exact h
  rw[adl,filter_tt];intro l hl;refine hN _ _ #[l,Y,aw hl,hl,?_];rw[ao]
  congr 2
  refine aeT λk=>?_;rw[ac1,ac1,adY];by_cases hk:k<ps.length+1
  .rw[adM hk,if_pos hk];rfl
  .rw[adI (by rw[adj];lia),if_neg hk];rfl
 rintro z yR L H1 ⟨l,rfl,s1,gI,iX⟩;subst yR;refine aD (qd (T1 ps ms) H a b l ps.length ms.length) (λN hN=>?_) ?_
 .rfl';refine#[#[_,s1.seq hT],A0 (xs:=ys) (qd (T1 ps ms) H a b l ps.length) #[_,acY (ps.length+1) J,_,_,_,Y,s1,iX,?_,by rw[adA],by rw[Uk];exact T1.nil] ?_ ?_ ?_]
  .have:∀ k,ax (dU H1) (acY k .non) (acY k J):=λk=>by
    induction k with
    | zero=>exact trivial
    | succ k ih=>exact#[Y,ih]
   exact this _
  .rintro i L H2 z ⟨z,z,z,z,z,z,s2,z⟩;exact s2.seq hT
  .rintro i x L H2 p hx ⟨zs,ts,d1,d2,d3,rfl,s2,bM,hz,ig,rZ⟩ hp;obtain⟨m,qe,tp,sp,rfl,h1,h2⟩:=hM.get hx;have lY:=ht m (ads qe);have up:=aw (o:=.tup [.int i,.ref tp]) hp;refine mV (au.of ao) ?_;generalize upd H2 p (.tup [.int i,.ref tp])=H3 at up ⊢;have s3:=s2.trans up;have g1:=s3 _ _ h1;have g2:=s3 _ _ h2;have cg:=up _ _ bM;have dF:=hz.imp λz z r=>r.same up;obtain⟨mt,lo,hi⟩:=m;rfl';refine bX g1 (bX g2 ?_);cases hi with
   | none =>
    rfl';exact#[zs,ts,_,_,_,Y,s3,cg,dF,ig,rZ.skip qe Y]
   | some h =>
    rfl';obtain⟨v,hv,rv⟩:=rY dF (t:=mt) (by dsimp only at lY;lia);refine aB (au.of g1) Y (aU (ah.of cg) hv (bX g1 (bX g2 ?_)));rfl';refine#[bg,λt1 mq=>?_];have ut:=aw (o:=.tup [.int h,.int i]) mq;have S4:=s3.trans ut;refine#[v,.ref t1,_,O (h,(i:Int)),Y,rv.same ut,#[t1,Y,ao],λy hy z=>?_];refine bX (ut _ _ g1) ?_;exact#[zs,_,Y,ut _ _ cg,mt,Fw (by rw[hz.len,ig];dsimp only at lY;lia),Fx gI S4 (ut _ _ cg) (dF.imp λz z r=>r.same ut) ig hy (by dsimp only at lY;lia) (rZ.put qe Y)]
  .rintro L H2 h;rw[l2] at h;exact hN _ _ h
 rintro z yR L H2 h2;subst yR;refine aD (qd (T2 ps ms) H a b l ps.length ps.length) (λN hN=>?_) ?_
 .obtain⟨zs,ts,d1,d2,d3,rfl,s2,bM,hz,ig,rZ⟩:=h2;rfl';refine#[_,eQ (s2.seq hS),?_];rw[l1];refine#[by lia,by lia,?_];rw[adL];refine lg (qd (T2 ps ms) H a b l ps.length) #[zs,ts,d1,d2,d3,Y,s2,bM,hz,ig,rZ.two] ?_ (λL H3 h=>hN _ _ h);rintro i L H3 hi ⟨zs,ts,d1,d2,d3,rfl,s3,cg,dF,ig,Z5⟩;have zl:=dF.len;obtain⟨v,hv,rv⟩:=rY dF (t:=i+1) (by lia);obtain⟨u,hu,ru⟩:=rY dF (t:=i) (by lia);obtain⟨w,hw,tw,rfl,vX⟩:=hP.at (Fs hi);rfl';rw[show (0:Int)+(i:Int)=((i:Nat):Int) by lia,show ((i:Nat):Int)+1=((i+1:Nat):Int) by lia];refine aU (ah.of cg) hv (aU (ah.of cg) hu (aU (s3.seq hS) (cZ hw) (bX (s3 _ _ vX) ?_)));refine#[u,_,_,Y,ru,λy H4 s4 hy=>?_];refine#[v,y,_,_,Y,rv.same s4,hy,λz v8 z=>?_];exact#[zs,s4 _ _ cg,i+1,Fw (by lia),Fx gI (s3.trans s4) (s4 _ _ cg) (dF.imp λz z r=>r.same s4) ig v8 (by lia) (Z5.step ar ht hi)]
 rintro z yR L H3 h3;subst yR;refine aD (qd (λi=>T3 ps ms (ps.length-i)) H a b l ps.length ps.length) (λN hN=>?_) ?_
 .obtain⟨zs,ts,d1,d2,d3,rfl,s2,bM,hz,ig,rZ⟩:=h3;rfl';refine#[_,eQ (s2.seq hS),?_];rw[l1,Z1];refine#[by lia,by lia,R7 (qd (λi=>T3 ps ms (ps.length-i)) H a b l ps.length) #[zs,ts,d1,d2,d3,Y,s2,bM,hz,ig,rZ.three] ?_ (λL H3 h=>hN _ _ h)];rintro i L H3 hi ⟨zs,ts,d1,d2,d3,rfl,s3,cg,dF,ig,qf⟩;have zl:=dF.len;obtain⟨j,hj⟩:∃ j,ps.length=j+1+i:=#[ps.length-1-i,by lia]
  obtain⟨v,hv,rv⟩:=rY dF (t:=j+1) (by lia);obtain⟨u,hu,ru⟩:=rY dF (t:=j) (by lia);obtain⟨w,hw,tw,rfl,vX⟩:=hP.at (Fs (ps:=ps) (i:=j) (by lia));rfl';rw[show (ps.length:Int)-1+(i:Int) * -1=((j:Nat):Int) by lia,show ((j:Nat):Int)+1=((j+1:Nat):Int) by lia];refine aU (ah.of cg) hu (aU (ah.of cg) hv (aU (s3.seq hS) (cZ hw) (bX (s3 _ _ vX) ?_)));rfl';refine#[v,_,_,Y,rv,λy H4 s4 hy=>?_];refine#[u,y,_,_,Y,ru.same s4,hy,λz v8 z=>?_];refine#[zs,s4 _ _ cg,j,Fw (by lia),Fx gI (s3.trans s4) (s4 _ _ cg) (dF.imp λz z r=>r.same s4) ig v8 (by lia) ?_];show T3 ps ms (ps.length-(i+1)) _;rw[show ps.length-(i+1)=j by lia];have qf:T3 ps ms (ps.length-i) (dQ ts):=qf;rw[show ps.length-i=j+1 by lia] at qf;exact qf.step ar ht (by lia)
 rintro z yR L H4 ⟨zs,ts,d1,d2,d3,rfl,s4,E9,qc,ig,n9⟩;subst yR;rw[ahK] at n9;rfl';exact q l zs ts H4 s4 gI E9 qc ig n9.tops
inductive Z6(vs:List V)(H:Hp)(Q:VK)(aT:XK):Prop
 | mk(a b:ac4)(zs ys:List V)(ts:List (Option P2))(ms:List Mk)(_:vs=[.ref a,.ref b])(_:ah K H a zs)(_:ax (dU H) zs ts)(_:ah K H b ys)(_:ax (eG H) ys ms)(_:(∀ m∈ms,m.1<ts.length))(_:(tL ms (dQ ts)->∀ H',aj H H'->Q .non H'))(_:(∀ (j:Nat) m l v k,ms[j]?=O m->m.2.1=O l->dQ ts m.1=O (v,k)->v<l->∀ p H',aj H H'->H p=J->H' p=O (.tup [.int k,.int j])->Q (.ref p) H'))
inductive Z7(H:Hp)(a b:ac4)(ts:List (Option P2))(ms:List Mk)(i:Nat)(L:St)(H1:Hp):Prop
 | mk(e1 e2 e3:Option V)(_:L=[O (.ref a),O (.ref b),e1,e2,e3])(_:aj H H1)(_:tL (ms.take i) (dQ ts))
theorem Z8(T:aH):aR 1 T.uP Z6:=by
 refine ba rG ?_;rintro _ _ _ _ H _ _ _ _ ⟨a,b,zs,ys,ts,ms,rfl,hA,hZ,hT,hM,ht,q0,q⟩;refine#[_,(aq (cU adE Y (AU Y T.yy (ae (aa 1) af)) (jf Y (da (cp 2 rG.nd) (da (cp 3 rG.nd) jd))) (aq (aP 4 rG.nd (ay (aa 0) (ay (aa 3) ag))) (ak (aE (PW.pt (jc (iJ (aa 4)) (jc (iJ (ay (ay (aa 3) ag) ag)) (jU (nz (ay (ay (aa 3) ag) ag) (ay (aa 4) ag)))))) (ak (aA (bf (ae (ay (aa 4) ag) (ae (aa 2) af))))) aI)))) (ak (aA bE))),?_];have l1:=hZ.len;have l2:=hM.len;rfl';refine#[#[_,hT],A0 (xs:=ys) (Z7 H a b ts ms) #[_,_,_,Y,aj.refl _,λm h=>by simp at h] ?_ ?_ ?_]
 .rintro i L H2 _ ⟨_,_,_,_,s2,_⟩;exact s2.seq hT
 .rintro i x L H2 p hx ⟨d1,d2,d3,rfl,s2,cS⟩ hp;obtain⟨m,qe,tp,sp,rfl,h1,h2⟩:=hM.get hx;have lY:=ht m (ads qe);have up:=aw (o:=.tup [.int i,.ref tp]) hp;refine mV (au.of ao) ?_;generalize upd H2 p (.tup [.int i,.ref tp])=H3 at up ⊢;have s3:=s2.trans up;have g1:=s3 _ _ h1;have g2:=s3 _ _ h2;have next:(∀ l v k,m.2.1=O l->dQ ts m.1=O (v,k)->l<=v)->tL (ms.take (i+1)) (dQ ts):=λhh n hn=>by
   rw[aeh,qe] at hn;rcases adf.mp hn with z|z
   .exact cS n z
   .obtain rfl:n=m:=by simpa using z
    exact hh
  obtain⟨v,hv,rv⟩:=rY hZ lY;obtain⟨mt,lo,hi⟩:=m;rfl';refine aB (au.of g1) Y (aU (s3.seq hA) hv ?_);cases et:dQ ts mt with
  | none =>
   rw[show dQ ts (mt,lo,hi).1=J from et] at rv;obtain rfl:v = .non:=rv;rfl';exact#[_,_,_,Y,s3,next λl v k _ e=>by rw[show dQ ts (mt,lo,hi).1=J from et] at e;cases e]
  | some q2 =>
   obtain⟨w,k⟩:=q2;rw[show dQ ts (mt,lo,hi).1=O (w,k) from et] at rv;obtain⟨rt,rfl,hrt⟩:=rv;rfl';refine bX g1 (bX g2 ?_);cases lo with
   | none =>
    rfl';exact#[_,_,_,Y,s3,next λl v k e _=>by cases e]
   | some l =>
    rfl';refine bX g1 (bX g2 (bX (s3 _ _ hrt) ?_));rfl';refine bo (λhc=>?_) λhc=>?_
    .exact aB (au.of (s3 _ _ hrt)) Y #[bg,λr bG=>q i _ l w k qe Y et hc r _ (s3.trans (aw bG)) (s3.free bG) ao]
    .exact#[_,_,_,Y,s3,next λl' v' k' e1 e2=>by
      cases e1;rw[show dQ ts (mt,O l,hi).1=O (w,k) from et] at e2;cases e2;lia]
 .rintro L H2 ⟨d1,d2,d3,rfl,s2,cS⟩;rfl';rw[l2,aeP] at cS;exact q0 cS _ s2
inductive fh(H:Hp)(v:V)(c:Cl):Prop
 | mk(t a b:ac4)(_:v = .ref t)(_:H t=O (.tup [.ref a,.ref b]))(_:H a=O (.tup [ev c.1.1,.int c.1.2]))(_:H b=O (.tup [ev c.2.1,.int c.2.2]))
theorem fh.same(h:fh H v r)(s:aj H H'):fh H' v r:=let ⟨t,a,b,e,h1,h2,h3⟩:=h;#[t,a,b,e,s _ _ h1,s _ _ h2,s _ _ h3]
theorem fh.put(h:fh H v r)(hl:H l=O (.lst ys)):fh (upd H l o) v r:=by
 obtain⟨t,a,b,e,h1,h2,h3⟩:=h;have nl:∀ (z:ac4) (vs:List V),H z=O (.tup vs)->z≠l:=λz vs e1 e2=>by rw[e2,hl] at e1;cases e1
 exact#[t,a,b,e,by rw[aJ (nl _ _ h1)];exact h1,by rw[aJ (nl _ _ h2)];exact h2,by rw[aJ (nl _ _ h3)];exact h3]
theorem Z9(h:dU H v o)(hl:H l=O (.lst ys))(k:∀ b o,b≠l->H b=O o->H' b=O o):dU H' v o:=by
 cases o with
 | none=>exact h
 | some p =>
  obtain⟨t,e,a⟩:=h;exact#[t,e,k _ _ (λz=>by rw[z,hl] at a;cases a) a]
inductive r9(ps:List P2)(gs:List Gp)(i j:Nat)(H:Hp)(l:ac4):Prop
 | mk(zs:List V)(cs:List Cl)(_:H l=O (.lst zs))(_:ax (fh H) zs cs)(_:cs.length<=8 * i+j)(_:xX ps gs cs)(_:∀ i' j' g h,gs[i']?=O g->gs[j']?=O h->(i'<i∨(i'=i/\j'<j))->kC ps g h cs)
theorem r9.same(h:r9 ps gs i j H l)(s:aj H H'):r9 ps gs i j H' l:=let ⟨zs,cs,a,b,c1,c2,c3⟩:=h;#[zs,cs,s _ _ a,b.imp λy y x=>x.same s,c1,c2,c3]
inductive aaa(vs:List V)(H:Hp)(Q:VK)(aT:XK):Prop
 | mk(a b:ac4)(xs ys:List V)(ps:List P2)(gs:List Gp)(_:vs=[.ref a,.ref b])(_:ah K H a xs)(_:d8 H xs ps)(_:dw ps)(_:ps.length<=900)(_:ah K H b ys)(_:ax (rX H) ys gs)(_:gs.length<=8)(_:(∀ g∈gs,g.2.length<=1000/\∀ m∈g.2,m.1<=ps.length))(_:∀ l zs cs H',aj H H'->H l=J->H' l=O (.lst zs)->ax (fh H') zs cs->cs.length<=64->xX ps gs cs->(∀ g∈gs,∀ h∈gs,kC ps g h cs)->Q (.ref l) H')
inductive Nq(H:Hp)(a b l:ac4)(ps:List P2)(gs:List Gp)(i:Nat)(L:St)(H1:Hp):Prop
 | mk(e1 e2 e3 e4 e5 e6:Option V)(_:L=[O (.ref a),O (.ref b),O (.ref l),e1,e2,e3,e4,e5,e6])(_:aj H H1)(_:r9 ps gs i 0 H1 l)
inductive clN(H H0:Hp)(a b l:ac4)(nm mk tp:V)(ps:List P2)(gs:List Gp)(i j:Nat)(L:St)(H1:Hp):Prop
 | mk(e4 e5 e6:Option V)(_:L=[O (.ref a),O (.ref b),O (.ref l),O nm,O mk,O tp,e4,e5,e6])(_:aj H H1)(_:(∀ b o,b≠l->H0 b=O o->H1 b=O o))(_:r9 ps gs i j H1 l)
theorem aab(T:aH):aR 3 T.uV aaa:=by
 refine ba kH ?_;rintro u u u u H u u u hr ⟨a,b,xs,ys,ps,gs,rfl,hS,hP,ar,hn,hG,hA,h7,hm,q⟩;refine#[_,(aq (aP 2 kH.nd (cK af)) (aq (cU adE Y (cT (aa 1)) (jf Y (da (cp 3 kH.nd) (da (cp 4 kH.nd) jd))) (aq (aP 5 kH.nd (aG (Z2 T) hr (ae (aa 0) (ae (aa 4) af)))) (ak (cU adE Y (cT (aa 1)) (jf Y (da (cp 6 kH.nd) (da (cp 7 kH.nd) jd))) (aq (aP 8 kH.nd (aG (Z8 T) hr (ae (aa 5) (ae (aa 7) af)))) (ak (aE (iJ (aa 8)) (ak (fJ (dJ ad0 aee aef mQ (aa 2) (ae (bf (ae (bf (ae (aa 3) (ae (ay (ay (aa 4) (ay (aa 8) ag)) ag) af))) (ae (bf (ae (aa 6) (ae (ay (ay (aa 7) (ay (aa 8) ag)) ag) af))) af))) af)))) aI))))))) (ak (aA (aa 2))))),?_];have yl:=hA.len;refine aD (λL H1=>∃ l,L=[O (.ref a),O (.ref b),O (.ref l),J,J,J,J,J,J]/\aj H H1/\H l=J/\H1 l=O (.lst [])) (λN hN=>?_) ?_
 .rfl';exact#[by decide,λl hl=>hN _ _ #[l,Y,aw hl,hl,ao]]
 rintro u yR L H1 ⟨l,rfl,s1,fl,hl⟩;subst yR;refine aD (λL H2=>Nq H a b l ps gs ys.length L H2) (λN hN=>?_) ?_
 .rfl';refine#[#[_,s1.seq hG],j8 (xs:=ys) (Nq H a b l ps gs) #[_,_,_,_,_,_,Y,s1,[],[],hl,trivial,adt _,λu h=>(nomatch h),λu u u u u u h=>by lia] ?_ ?_ (λL H' h=>hN _ _ h)]
  .rintro i L H2 u ⟨u,u,u,u,u,u,u,s2,u⟩;exact s2.seq hG
  .rintro i x L H2 hx ⟨u,u,u,u,u,u,rfl,s2,h2⟩;obtain⟨r,hr,gg,k,zs,rfl,h3,h4,h5⟩:=hA.get hx;have Fz:=hm r (ads hr);refine mV (au.of (s2 _ _ h3)) ?_;rfl';refine#[a,k,xs,zs,ps,r.2,Y,s2.seq hS,hP.same s2,ah.of (s2 _ _ h4),h5.imp λu u x=>x.same s2,ar,hn,Fz.1,Fz.2,λtp us ts H3 s3 Nr htp hts ig TT=>?_];have S3:=s2.trans s3;rfl';refine#[#[_,S3.seq hG],j8 (xs:=ys) (clN H H3 a b l (ev r.1) (.ref k) (.ref tp) ps gs i) #[_,_,_,Y,S3,λu u u e=>e,h2.same s3] ?_ ?_ ?_]
   .rintro j L H4 u ⟨u,u,u,u,s4,u,u⟩;exact s4.seq hG
   .rintro j y L H4 hy ⟨u,u,u,rfl,s4,b4,ws,cs,h6,qg,h8,h9,lZ⟩;obtain⟨r',zk,gg',k',zs',rfl,g3,g4,g5⟩:=hA.get hy;have FA:=hm r' (ads zk);obtain⟨ls,u,hls,u⟩:=h2;have tpl:tp≠l:=λz=>by rw[z,hls] at Nr;cases Nr
    have ht4:=b4 _ _ tpl htp;have qc:=hts.imp λu u x=>Z9 x (s3 _ _ hls) b4;have zm:∀ zo:List Cl,(∀ i' j' g h,gs[i']?=O g->gs[j']?=O h->(i'<i∨(i'=i/\j'<j))->kC ps g h zo)->kC ps r r' zo->∀ i' j' g h,gs[i']?=O g->gs[j']?=O h->(i'<i∨(i'=i/\j'<j+1))->kC ps g h zo:=λzo h11 kN i' j' g h a1 a2 a3=>by
     by_cases hz:i'=i/\j'=j
     .obtain⟨rfl,rfl⟩:=hz;rw[hr] at a1;rw[zk] at a2;cases a1;cases a2;exact kN
     .exact h11 i' j' g h a1 a2 (by lia)
    refine mV (au.of (s4 _ _ g3)) ?_;rfl';refine#[tp,k',us,zs',ts,r'.2,Y,ah.of ht4,qc,ah.of (s4 _ _ g4),g5.imp λu u x=>x.same s4,λm cV=>by have:=FA.2 m cV;lia,λcS H5 s5=>?_,λjj m lo v kk e1 e2 e3 e4 p H5 s5 fp hp=>?_]
    .rfl';exact#[_,_,_,Y,s4.trans s5,λb o hb e=>s5 _ _ (b4 b o hb e),r9.same #[ws,cs,h6,qg,by lia,h9,zm cs lZ λm m1 n n1 hc=>absurd hc (VG TT Fz.2 FA.2 cS m1 n1)] s5]
    .obtain⟨i',a',rfl,dD,hc⟩:=TT.clash (FA.2 m (ads e1)) e3 e2 e4;have pX:=s5 _ _ h6;have S5:=s4.trans s5;obtain⟨v1,B1,t1,w1,rfl,m1,u⟩:=(h5.imp λu u x=>eG.same x S5).at dD;obtain⟨v2,B2,t2,w2,rfl,m2,u⟩:=(g5.imp λu u x=>eG.same x S5).at e1;rfl';refine#[.inl #[Y,_,ah.of pX],aB (au.of hp) (v:=.int i') Y (aU (ah.of (S5 _ _ h4)) (cZ B1) (aB (au.of m1) (v:=.int a'.1) Y #[bg,λp1 i8=>?_]))];have u1:=aw (o:=.tup [ev r.1,.int a'.1]) i8;refine aB (au.of (u1 _ _ hp)) (v:=.int jj) Y (aU (ah.of (u1 _ _ (S5 _ _ g4))) (cZ B2) (aB (au.of (u1 _ _ m2)) (v:=.int m.1) Y #[bg,λp2 iV=>#[bg,λp3 vT=>?_]]));have u2:=aw (o:=.tup [ev r'.1,.int m.1]) iV;have u3:=aw (o:=.tup [.ref p1,.ref p2]) vT;have U:=u1.trans (u2.trans u3);have kL:=U _ _ pX;have cq:fh (upd (upd (upd H5 p1 (.tup [ev r.1,.int a'.1])) p2 (.tup [ev r'.1,.int m.1])) p3 (.tup [.ref p1,.ref p2])) (.ref p3) ((r.1,a'.1),(r'.1,m.1)):=#[p3,p1,p2,Y,ao,u3 _ _ (u2 _ _ ao),u3 _ _ ao]
     have wl:ws.length<=100:=by have e8:=qg.len;have b1:=(acX.mp hr).1;have b2:=(acX.mp zk).1;lia
     refine#[ws,kL,adS wl (by decide),_,_,_,Y,j9 fl (S5.trans U),λb o hb e=>by rw[aJ hb];exact U _ _ (s5 _ _ (b4 b o hb e)),_,cs++[((r.1,a'.1),(r'.1,m.1))],ao,ax.app (qg.imp λu u x=>(x.same (s5.trans U)).put kL) #[cq.put kL,trivial],by rw[ac7,adb];lia,λc wz=>?_,zm _ (λi' j' g h a1 a2 a3=>(lZ i' j' g h a1 a2 a3).more) λu u u u u=>#[_,ac6 _ (.head _),Y,Y]];rcases adf.mp wz with z|z
     .exact h9 c z
     .rw[ada.mp z];exact#[r,ads hr,r',ads zk,a',ads dD,m,ads e1,Y,hc]
   .rintro L H4 ⟨u,u,u,rfl,s4,u,ws,cs,h6,qg,h8,h9,lZ⟩;exact#[_,_,_,_,_,_,Y,s4,ws,cs,h6,qg,by lia,h9,λi' j' g h a1 a2 a3=>lZ i' j' g h a1 a2 (by have:=(acX.mp a2).1;lia)]
 rintro u yR L H2 ⟨u,u,u,u,u,u,rfl,s2,ws,cs,h6,qg,h8,h9,lZ⟩;subst yR;rfl';exact q l ws cs H2 s2 fl h6 qg (by lia) h9 λg hg h hh=>by obtain⟨i',dD⟩:=ae1.mp hg;obtain⟨j',Bc⟩:=ae1.mp hh;exact lZ i' j' g h dD Bc (.inl (by have:=(acX.mp dD).1;lia))
theorem Nt(h:Q (!decide (o=O e))):neT (.int e) (ev o) Q:=by
 cases o with
 | none=>exact h
 | some x =>
  show if ¬ e=x then Q true else Q false
  by_cases z:e=x
  .subst z;rw[if_neg (λh=>h Y)];simpa using h
  .rw[if_pos z];have:(O x:En)≠O e:=λh=>z (Option.some.inj h).symm;simpa [this] using h
theorem Nu(h:Q (decide (o=o'))):eqT (ev o) (ev o') Q:=by
 cases o with
 | none=>cases o'<;>exact h
 | some x =>
  cases o' with
  | none=>exact h
  | some y =>
   show if x=y then Q true else Q false
   by_cases z:x=y
   .subst z;rw[if_pos Y];simpa using h
   .rw[if_neg z];have:(O x:En)≠O y:=λh=>z (Option.some.inj h);simpa [this] using h
inductive aac(H:Hp)(v:V)(s:En × Nat):Prop
 | mk(r:ac4)(_:v = .ref r)(_:H r=O (.tup [ev s.1,.int s.2]))
theorem ax.ints(h:ax (λv (n:Int)=>v=V.int n) zs ns):zs=ns.map V.int:=by
 induction zs generalizing ns with
 | nil=>cases ns with|nil=>rfl|cons _ _=>exact h.elim
 | cons z zs ih=>cases ns with
  | nil=>exact h.elim
  | cons n ns=>rw[adg,<- ih h.2,h.1]
theorem Nv:∀ {xs ys:List Int},xs.Nodup->(∀ x∈xs,x∈ys)->xs.length<=ys.length
 | [],_,_,_=>adt _
 | x::xs,ys,h,k=>by obtain⟨h1,h2⟩:=aeI.mp h;have hx:=k x (.head _);have ih:=Nv (ys:=ys.erase x) h2 λy hy=>(aju (λz=>h1 (by rw[<- z];exact hy))).mpr (k y (.tail _ hy));rw[aid hx] at ih;have:=aiM hx;rw[adw];lia
inductive aad(vs:List V)(H:Hp)(Q:VK)(aT:XK):Prop
 | mk(l:ac4)(e:Int)(zs:List V)(cs:List Cl)(_:vs=[.ref l,.int e])(_:H l=O (.lst zs))(_:ax (fh H) zs cs)(_:cs.length<=64)(_:∀ r ys H',aj H H'->H r=J->H' r=O (.lst ys)->ax (fh H') ys (wo e cs)->Q (.ref r) H')
theorem Nw(T:aH):aR 1 T.jH aad:=by
 refine ba Ey ?_;rintro y y y y H y Q y hr ⟨l,e,zs,cs,rfl,hl,hC,hn,q⟩;refine#[_,(ak (aA (dC (cO [1] ["eye"]) Y (cT (aa 0)) (λC s2 H2 ex pn=>#[(kh (PW.pt (jc (gD (aa 1) (eF (K:=K) (eF (K:=K) (aa 0) ag) ag)) (jU (gD (aa 1) (eF (K:=K) (eF (K:=K) (aa 0) ag) ag)))))),(aa 0)])))),?_];have zl:=hC.len;rfl';refine#[#[_,ah.of hl],cM gU (acR (by lia:zs.length<=64) (by decide)) (qV (R:=fh H) (R':=fh H) (p:=λc=>!iI e c) (f:=λc=>c) (ah.of hl) hC (λx c r Q h=>?_) (λx c hp r Q h=>?_) λys hy=>?_)]
 .obtain⟨t,a,b,rfl,h1,h2,h3⟩:=r;rfl';refine aB (au.of h1) (v:=.ref a) Y (aB (au.of h2) (v:=ev c.1.1) Y (Nt ?_));unfold iI at h;by_cases z:c.1.1=O e
  .rw[decide_eq_true z] at h ⊢;exact h
  .rw[decide_eq_false z] at h ⊢;refine aB (au.of h1) (v:=.ref b) Y (aB (au.of h3) (v:=ev c.2.1) Y (Nt ?_));exact h
 .rfl';exact h _ r
 .rw[adl];intro r hr;rw[akE] at hy;exact q r ys _ (aw hr) hr ao (hy.imp λy y x=>x.same (aw hr))
inductive aae(vs:List V)(H:Hp)(Q:VK)(aT:XK):Prop
 | mk(v:V)(c:Cl)(_:vs=[v])(_:fh H v c)(_:∀ l (es:List Int) H',aj H H'->H l=J->H' l=O (.lst (es.map V.int))->(∀ e,e∈es↔iI e c=true)->es.length<=2->Q (.ref l) H')
theorem aaf(T:aH):aR 1 T.nP aae:=by
 refine ba Ez ?_;rintro y y y s H y Q y hr ⟨v,c,rfl,⟨t,a,b,rfl,h1,h2,h3⟩,q⟩;refine#[_,(ak (aA (Vq Y (dC (cO [] []) Y (qx (aa 0)) (λC s2 H2 ex pn=>#[(kh (iJ (eF (K:=K) (aa 0) ag))),(eF (K:=K) (aa 0) ag)])) (by rfl) T.ER Am (by rfl) T.Xk UM))),?_];rfl';refine#[#[_,au.of h1],cM (xs:=[.ref a,.ref b]) AG bg (qV (R:=aac H) (R':=λv (n:Int)=>v=V.int n) (p:=λs=>s.1.isSome) (f:=λs=>s.1.getD 0) (as:=[c.1,c.2]) (au.of h1) #[#[a,Y,h2],#[b,Y,h3],trivial] (λx s r Q h=>?_) (λx s hp r Q h=>?_) λzs hz=>?_)]
 .obtain⟨r,rfl,h4⟩:=r;rfl';refine aB (au.of h4) (v:=ev s.1) Y ?_;cases hs:s.1 with
  | none=>rw[hs] at h;exact h
  | some x=>rw[hs] at h;exact h
 .obtain⟨r,rfl,h4⟩:=r;rfl';refine aB (au.of h4) (v:=ev s.1) Y (h _ ?_);cases hs:s.1 with
  | none=>rw[hs] at hp;cases hp
  | some x=>rfl
 .rw[adl];intro l hl;rw[ax.ints hz];have u1:=aw (o:=.lst ((([c.1,c.2].filter λs=>s.1.isSome).map λs=>s.1.getD 0).map V.int)) hl;have hn:(([c.1,c.2].filter λs=>s.1.isSome).map λs=>s.1.getD 0).length<=2:=by rw[acN];exact ad1 _ _
  have hi:∀ e,e∈(([c.1,c.2].filter λs=>s.1.isSome).map λs=>s.1.getD 0)↔iI e c=true:=λe=>by
   rw[pd];constructor
   .intro h;obtain⟨s,hs,rfl⟩:=ac2.mp h;obtain⟨m1,m2⟩:=adG.mp hs;obtain⟨x,hx⟩:=ags.mp m2;rw[hx];rcases acZ.mp m1 with rfl|m1
    .exact .inl hx
    .rw[ada.mp m1] at hx;exact .inr hx
   .rintro (h|h)
    .exact ac2.mpr #[c.1,adG.mpr #[.head _,by rw[h];rfl],by rw[h];rfl]
    .exact ac2.mpr #[c.2,adG.mpr #[.tail _ (.head _),by rw[h];rfl],by rw[h];rfl]
  refine#[l,Y,_,ah.of ao,by lia,λws nd mem y r hr=>?_];exact q r ws _ (u1.trans (aw hr)) (u1.free hr) ao (λe=>(mem e).trans (hi e)) (acR (Nv nd λx hx=>(mem x).mp hx) hn)
inductive Nx(N:Nat)(vs:List V)(H:Hp)(Q:VK)(aT:XK):Prop
 | mk(l:ac4)(zs:List V)(cs:List Cl)(n:Nat)(_:vs=[.ref l,.int n])(_:n<N)(_:n<=7)(_:H l=O (.lst zs))(_:ax (fh H) zs cs)(_:cs.length<=64)(_:(∀ H',aj H H'->ix (n+1) cs->Q .non H'))(_:∀ r (es:List Int) H',aj H H'->H r=J->H' r=O (.lst (es.map V.int))->tY es cs->es.length<=n->Q (.ref r) H')
inductive cy(H:Hp)(l:ac4)(n:Nat)(cs:List Cl)(es:List Int)(i:Nat)(L:St)(H1:Hp):Prop
 | mk(e1 e2:Option V)(_:L=[O (.ref l),O (.int ((n+1:Nat):Int)),e1,e2])(_:aj H H1)(_:∀ e∈es.take i,ix (n+1) (wo e cs))
theorem aag(T:aH):∀ N,aR (N+2) T.jI (Nx N):=by
 intro N
 induction N with
 | zero =>
  refine okN T.jI.F rK.1 (λvs H Q E h=>?_) (λbh A outer s H vs Q E hr h=>?_)
  .obtain⟨l,zs,cs,n,rfl,hN,y⟩:=h;exact absurd hN (ae0 _)
  .obtain⟨l,zs,cs,n,rfl,hN,y⟩:=h;exact absurd hN (ae0 _)
 | succ N ih =>
  refine okN T.jI.F rK.1 (λvs H Q E h=>?_) (λbh A outer s H vs Q E hr h=>?_)
  .obtain⟨l,zs,cs,n,rfl,y⟩:=h;rfl
  .obtain⟨l,zs,cs,n,rfl,hN,n7,hl,hC,hn,q0,q⟩:=h;refine#[_,(aq (aE (bW (bA dk (by rfl) T.di dh (ae (aa 0) af)) ag) (ak (aA (cK af))) aI) (aq (aE (bW (aa 1) ag) (ak (aA bE)) aI) (aq (cU adE Y (cT (dI (aaf T) (hr.mono (by lia)) Y T.nP.m T.nP.F.kp T.nP.b .nil c7 (ae (cA cB (aa 0) ag (λy y=>rfl)) af))) (gh (i:=2) rK.nd Y (ahc Y)) (aq (kY (i:=3) rK.nd Y (ahc Y) (dI ih (hr.mono (by lia)) Y T.jI.m T.jI.F.kp T.jI.b .nil c7 (ae (dI (Nw T) (hr.mono (by lia)) Y T.jH.m T.jH.F.kp T.jH.b .nil c7 (ae (aa 0) (ae (aa 2) af))) (ae (az dR (aa 1) ag) af)))) (ak (aE (iJ (aa 3)) (ak (aA (az mR (cK (ae (aa 2) af)) (aa 3)))) aI)))) (ak (aA bE))))),?_];have zl:=hC.len;cases cs with
   | nil =>
    obtain rfl:zs=[]:=aeJ.mp zl;rfl';refine#[_,eQ (ah.of hl),?_];rfl';exact#[by decide,λr hr=>q r [] _ (aw hr) hr ao (λc hc=>(nomatch hc)) (adt _)]
   | cons c cs =>
    obtain⟨z,zs,rfl⟩:∃ z z',zs=z::z':=by cases zs with|nil=>cases zl|cons z zs=>exact⟨z,zs,rfl⟩
    cases n with
    | zero =>
     rfl';refine#[_,eQ (ah.of hl),?_];refine bo (λh0=>absurd h0 (by rw[adw];lia)) λy=>?_;rfl';exact q0 _ (aj.refl _) λy y=>trivial
    | succ n =>
     rfl';refine#[_,eQ (ah.of hl),?_];refine bo (λh0=>absurd h0 (by rw[adw];lia)) λy=>bo (λh0=>absurd h0 (by lia)) λy=>?_;refine aU (ah.of hl) (v:=z) (show dq (z::zs) ((0:Nat):Int)=O z from cZ Y) #[z,c,Y,hC.1,λk es H1 s1 y hk hes tf=>?_];rfl';refine#[#[_,ah.of hk],j8 (xs:=es.map V.int) (cy H1 l n (c::cs) es) #[_,_,Y,aj.refl _,λy h=>(nomatch h)] ?_ ?_ ?_]
     .rintro i L H2 y ⟨y,y,rfl,s2,y⟩;exact ah.of (s2 _ _ hk)
     .rintro i x L H2 hx ⟨e1,e2,rfl,s2,cS⟩;rw[ac1] at hx;obtain⟨e,he,rfl⟩:=ady.mp hx;have S2:=s1.trans s2;rfl';refine#[l,e,_,c::cs,Y,S2 _ _ hl,hC.imp λy y x=>x.same S2,hn,λr ys H3 s3 y hr hy=>?_];refine#[r,ys,wo e (c::cs),n,by rw[show (((n+1:Nat):Int)-1)=(n:Int) by lia],by lia,by lia,hr,hy,acR (ad1 _ _) hn,λH4 s4 h4=>?_,λr2 es2 H4 s4 f4 kO hcv hle=>?_]
      .rfl';refine#[_,_,Y,s2.trans (s3.trans s4),λe' qT=>?_];rw[aeh,he] at qT;rcases adf.mp qT with z|z
       .exact cS e' z
       .obtain rfl:e'=e:=by simpa using z
        exact h4
      .rfl';refine#[by decide,λp hp=>#[_,ao,_,(aw hp) _ _ kO,acR (by rw[acN,adb];lia:_<=20) (by decide),λp1 i8=>?_]];have W:=s1.trans (s2.trans (s3.trans (s4.trans (aw (o:=.lst [.int e]) hp))));exact q p1 (e::es2) _ (W.trans (aw i8)) (W.free i8) ao (VM hcv) (by rw[adw];lia)
     .rintro L H2 ⟨e1,e2,rfl,s2,cS⟩;rfl';refine q0 _ (s1.trans s2) λe he=>cS e ?_;rw[acN,aeP];exact (hes e).mpr he
inductive Rk(H:Hp)(b w gl:ac4)(e t u d m:Int)(gs:List S2)(tb:Tb):Prop
 | mk(zs:List V)(_:H b=O (.tup [.int e,.int t,.int u,.int d,.int m]))(_:Sz e t u d m)(_:TabAt H w tb)(_:(tb.map (·.1)).Nodup)(_:∀ r∈tb,0<=r.1.2/\r.1.2<t)(_:H gl=O (.lst zs))(_:ax (λv x=>aO H v x.1 x.2) zs gs)(_:gs.length=t.toNat)
theorem Rk.same{H H':Hp}{b w gl:ac4}{e t u d m:Int}{gs:List S2}{tb:Tb}(h:Rk H b w gl e t u d m gs tb)(s:aj H H'):Rk H' b w gl e t u d m gs tb:=by obtain⟨zs,h1,h2,h3,h4,h5,h6,h7,h8⟩:=h;exact#[zs,s _ _ h1,h2,h3.same s,h4,h5,s _ _ h6,h7.imp λy y r=>r.same s,h8]
inductive aah(vs:List V)(H:Hp)(Q:VK)(aT:XK):Prop
 | mk(a b w gl z:ac4)(e t u d mo:Int)(gs:List S2)(tb:Tb)(as:List Int)(s:En × Nat)(m:Mk)(_:vs=[.ref a,.ref b,.ref w,.ref gl,.ref z])(_:H a=O (.tup [ev s.1,.int (s.2:Int)]))(_:Rk H b w gl e t u d mo gs tb)(_:H z=O (.lst (as.map V.int)))(_:kB gs tb as s m)(_:((s.2:Int)<t->∀ v,aO H v m.2.1 m.2.2->Q v H))
theorem Ny(T:aH):aR 2 T.jK aah:=by
 refine ba EL ?_;rintro y y y y H y y y hr ⟨a,b,w,gl,z,e,t,u,d,mo,gs,tb,as,⟨o,k⟩,⟨k2,wd⟩,rfl,ha,hR,hz,⟨hk,hm⟩,q⟩;refine#[_,(aq (aE (PW.pt (dj (cu (cf (bA lb (by rfl) T.mi k9 (ae (aa 0) (ae (kX (v:=.ty "tuple") Y T.ES Ao Y) af))))) (dj (gD (bA dk (by rfl) T.di dh (ae (aa 0) af)) ag) (fi (cu (cf (aG (E1 T) hr (ae (ay (aa 0) ag) af)))))))) (ak (aA bE)) aI) (aq (aE (c8 (ay (aa 0) ag)) (aq (aE (ue fM wI ag (ay (aa 0) ag) (ay (aa 1) ag)) (ak (aA (ay (aa 3) (ay (aa 0) ag)))) aI) (ak (aA bE))) aI) (aq (aE (PW.pt (dj (cu (cf (aG (E1 T) hr (ae (ay (aa 0) ag) af)))) (fi (gk sM (ay (aa 0) ag) (aa 4) (by with_unfolding_all rfl))))) (ak (aA bE)) aI) (ak (aA (S0 (gu hr) (aa 2) (aa 0) #[Y,Y,Y,Y])))))),?_];obtain⟨zs,hb,sz,hT,eB,aW,hg,hG,lX⟩:=id hR;obtain rfl:k2=k:=hk;have hgz:=hG.len;have yn:(k2:Int)<t:=by
  have:=sz.ht;cases o with
  | none =>
   have:=(acX.mp (show gs[k2]?=O wd from hm)).1;lia
  | some x=>exact (aW _ hm.2).2
 replace q:=q yn;refine aD (λL H1=>L=[O (.ref a),O (.ref b),O (.ref w),O (.ref gl),O (.ref z)]/\H1=H) (λN hN=>?_) ?_
 .rfl';refine Aq ha ?_;rfl';refine#[_,Ar (au.of ha),?_];rfl';refine aB (au.of ha) (v:=.int k2) Y #[_,Y,.inr #[_,Y],?_];simp only[isWhole];exact hN _ _ #[Y,Y]
 rintro y yR L H1 ⟨rfl,rfl⟩;subst yR;cases o with
 | none =>
  obtain⟨v,hv,pz,rfl,hp⟩:=hG.at (i:=k2) (a:=wd) hm;refine aD (λy y=>False) (λN hN=>?_) (λy y y y h=>h.elim);rfl';refine aB (au.of ha) (v:=.non) Y ?_;rfl';refine aB (au.of ha) (v:=.int k2) Y ?_;rfl';refine bo (λy=>?_) λz=>absurd (by lia) z;refine aB (au.of hb) (v:=.int t) Y ?_;rfl';refine bo (λy=>?_) λz=>absurd yn z;exact aB (au.of ha) (v:=.int k2) Y (aU (ah.of hg) (cZ hv) (q _ #[pz,Y,hp]))
 | some e =>
  obtain⟨Cn,dr⟩:e∉as/\((e,((k2:Nat):Int)),wd)∈tb:=hm;obtain⟨kvs,tu,hA⟩:=id hT;obtain⟨vv,hvv,va,rfl,hva⟩:=(hA.val (e,((k2:Nat):Int))).2 _ (xM eB dr);refine aD (λL H2=>L=[O (.ref a),O (.ref b),O (.ref w),O (.ref gl),O (.ref z)]/\H2=H1) (λN hN=>?_) ?_
  .rfl';refine aB (au.of ha) (v:=.int e) Y ?_;rfl';exact hN _ _ #[Y,Y]
  rintro y yR L H2 ⟨rfl,rfl⟩;subst yR;refine aD (λL H3=>L=[O (.ref a),O (.ref b),O (.ref w),O (.ref gl),O (.ref z)]/\H3=H2) (λN hN=>?_) ?_
  .rfl';refine aB (au.of ha) (v:=.int e) Y #[_,Y,.inr #[_,Y],?_];simp only[isWhole];rfl';refine aB (au.of ha) (v:=.int e) Y ?_;rfl';refine#[z,_,Y,.inl (ah.of hz),Y,J9 as,#[_,Y,?_]];rw[BP];exact bo (λh0=>absurd h0 (by simpa using Cn)) λy=>hN _ _ #[Y,Y]
  rintro y yR L H3 ⟨rfl,rfl⟩;subst yR;rfl';refine#[w,Y,.inr #[kvs,.inl tu],_,fT.t (k:=eo e (k2:Int)) tu ha,?_];rw[hvv];exact q _ #[va,Y,hva]
def jP(H:Hp):V->Pp->Prop
 | v,.nil=>v = .non
 | v,.full=>∃ r,v = .ref r/\H r=O (.tup [.str "full"])
 | v,.cls c a b=>∃ r p q x y,v = .ref r/\H r=O (.tup [.str "clash",.ref p,.ref q,x,y])/\H p=O (.tup [ev c.1.1,.int c.1.2])/\H q=O (.tup [ev c.2.1,.int c.2.2])/\jP H x a/\jP H y b
theorem jP.same(s:aj H H'):∀ {t:Pp} {v:V},jP H v t->jP H' v t:=by
 intro t
 induction t with
 | nil=>exact λh=>h
 | full=>rintro z ⟨r,e,h⟩;exact#[r,e,s _ _ h]
 | cls _ _ _ i1 i2=>rintro z ⟨r,p,q,x,y,e,h1,h2,h3,h4,h5⟩;exact#[r,p,q,x,y,e,s _ _ h1,s _ _ h2,s _ _ h3,i1 h4,i2 h5]
noncomputable def wb(n:Nat)(cs:List Cl)(o:En):Pp:=match o with|none=>.nil|some e=>nq n (wo e cs)
theorem Nz(n:Nat)(c:Cl)(cs:List Cl):nq (n+1) (c::cs) = .cls c (wb n (c::cs) c.1.1) (if c.1.1=c.2.1 then .nil else wb n (c::cs) c.2.1):=rfl
inductive FC(N:Nat)(vs:List V)(H:Hp)(Q:VK)(aT:XK):Prop
 | mk(l:ac4)(m:Int)(zs:List V)(cs:List Cl)(n:Nat)(_:vs=[.ref l,.int m])(_:m+1=(n:Int))(_:n<N)(_:H l=O (.lst zs))(_:ax (fh H) zs cs)(_:cs.length<=64)(_:ix n cs)(_:∀ v H',aj H H'->jP H' v (nq n cs)->Q v H')
inductive aai(N:Nat)(vs:List V)(H:Hp)(Q:VK)(aT:XK):Prop
 | mk(l:ac4)(m:Int)(o:En)(zs:List V)(cs:List Cl)(n:Nat)(_:vs=[.ref l,ev o,.int m])(_:m=(n:Int))(_:n<N)(_:H l=O (.lst zs))(_:ax (fh H) zs cs)(_:cs.length<=64)(_:(∀ e,o=O e->ix n (wo e cs)))(_:∀ v H',aj H H'->jP H' v (wb n cs o)->Q v H')
theorem NA(T:aH)(N:Nat)(ih:aR (2 * N+1) T.i4 (FC N)):aR (2 * N+2) T.iZ (aai N):=by
 refine okN T.iZ.F EA.1 (λvs H Q E h=>?_) (λbh A outer s H vs Q E hr h=>?_)
 .obtain⟨l,m,o,zs,cs,n,rfl,y⟩:=h;rfl
 .obtain⟨l,m,o,zs,cs,n,rfl,hm,hN,hl,hC,hn,cS,q⟩:=h;refine#[_,(ak (aA (gO (c8 (aa 1)) bE (dI ih (hr.mono (by lia)) Y T.i4.m T.i4.F.kp T.i4.b .nil c7 (ae (dI (Nw T) (hr.mono (by lia)) Y T.jH.m T.jH.F.kp T.jH.b .nil c7 (ae (aa 0) (ae (aa 1) af))) (ae (az dR (aa 2) ag) af)))))),?_];cases o with
  | none =>
   rfl';exact q _ _ (aj.refl _) rfl
  | some e =>
   rfl';refine#[l,e,zs,cs,Y,hl,hC,hn,λr ys H1 s1 y bU hy=>?_];exact#[r,_,ys,wo e cs,n,Y,by lia,hN,bU,hy,acR (ad1 _ _) hn,cS e Y,λv H2 s2 h2=>q v H2 (s1.trans s2) h2]
theorem aaj(T:aH):∀ N,aR (2 * N+1) T.i4 (FC N):=by
 intro N
 induction N with
 | zero =>
  refine okN T.i4.F nE.1 (λvs H Q E h=>?_) (λbh A outer s H vs Q E hr h=>?_)
  .obtain⟨l,m,zs,cs,n,rfl,hm,hN,y⟩:=h;exact absurd hN (ae0 _)
  .obtain⟨l,m,zs,cs,n,rfl,hm,hN,y⟩:=h;exact absurd hN (ae0 _)
 | succ N ih =>
  refine okN T.i4.F nE.1 (λvs H Q E h=>?_) (λbh A outer s H vs Q E hr h=>?_)
  .obtain⟨l,m,zs,cs,n,rfl,y⟩:=h;rfl
  .obtain⟨l,m,zs,cs,n,rfl,hm,hN,hl,hC,hn,cS,q⟩:=h;refine#[_,(aq (aE (ua (aa 1) ag) (ak (aA (bf (ae aK af)))) aI) (aq (kY (i:=2) nE.nd Y (ahc Y) (cA cB (cA cB (aa 0) ag (λy y=>rfl)) ag (λy y=>rfl))) (aq (kY (i:=3) nE.nd Y (ahc Y) (cA cB (cA cB (aa 0) ag (λy y=>rfl)) ag (λy y=>rfl))) (aq (kY (i:=4) nE.nd Y (ahc Y) (dI (NA T N ih) (hr.mono (by lia)) Y T.iZ.m T.iZ.F.kp T.iZ.b .nil c7 (ae (aa 0) (ae (cA cB (aa 2) ag (λy y=>rfl)) (ae (aa 1) af))))) (aq (kY (i:=5) nE.nd Y (ahc Y) (gO (bW (cA cB (aa 2) ag (λy y=>rfl)) (cA cB (aa 3) ag (λy y=>rfl))) bE (dI (NA T N ih) (hr.mono (by lia)) Y T.iZ.m T.iZ.F.kp T.iZ.b .nil c7 (ae (aa 0) (ae (cA cB (aa 3) ag (λy y=>rfl)) (ae (aa 1) af)))))) (ak (aA (bf (ae aK (ae (aa 2) (ae (aa 3) (ae (aa 4) (ae (aa 5) af))))))))))))),?_];have zl:=hC.len;cases n with
   | zero =>
    rfl';refine bo (λy=>?_) λh0=>absurd (show m<0 by lia) h0;exact#[by decide,λr hr=>q _ _ (aw hr) #[r,Y,ao]]
   | succ n =>
    cases cs with
    | nil=>exact cS.elim
    | cons c cs =>
     obtain⟨z,zs,rfl⟩:∃ z z',zs=z::z':=by cases zs with|nil=>cases zl|cons z zs=>exact⟨z,zs,rfl⟩
     obtain⟨t,a,b,rfl,ht,ha,hb⟩:=id hC.1;have z0:dq (V.ref t::zs) ((0:Nat):Int)=O (.ref t):=cZ rfl;rfl';refine bo (λh0=>absurd h0 (by lia)) λy=>?_;refine aU (ah.of hl) z0 (aB (au.of ht) (v:=.ref a) Y ?_);refine aU (ah.of hl) z0 (aB (au.of ht) (v:=.ref b) Y (aB (au.of ha) (v:=ev c.1.1) Y ?_));refine#[l,m,c.1.1,_,c::cs,n,Y,by lia,by lia,hl,hC,hn,λe he=>cS e (pd.mpr (.inl he)),λv1 H1 s1 h1=>?_];refine aB (au.of (s1 _ _ ha)) (v:=ev c.1.1) Y (aB (au.of (s1 _ _ hb)) (v:=ev c.2.1) Y (Nu ?_));rw[Nz] at q;by_cases he:c.1.1=c.2.1
     .rw[decide_eq_true he];rw[if_pos he] at q;refine#[by decide,λp hp=>?_];have u1:=aw (o:=.tup [.str "clash",.ref a,.ref b,v1,.non]) hp;have U:=s1.trans u1;exact q _ _ U #[p,a,b,v1,_,Y,ao,U _ _ ha,U _ _ hb,h1.same u1,Y]
     .rw[decide_eq_false he];rw[if_neg he] at q;refine aB (au.of (s1 _ _ hb)) (v:=ev c.2.1) Y #[l,m,c.2.1,_,c::cs,n,Y,by lia,by lia,s1 _ _ hl,hC.imp λy y x=>x.same s1,hn,λe he=>cS e (pd.mpr (.inr he)),λv2 H2 s2 h2=>#[by decide,λp hp=>?_]];have u1:=aw (o:=.tup [.str "clash",.ref a,.ref b,v1,v2]) hp;have U:=s1.trans (s2.trans u1);exact q _ _ U #[p,a,b,v1,v2,Y,ao,U _ _ ha,U _ _ hb,h1.same (s2.trans u1),h2.same u1]
theorem aak(T:aH):aR 10 T.jI (Nx 8):=aag T 8
theorem aal(T:aH):aR 19 T.i4 (FC 9):=aaj T 9
noncomputable def bR:Pp->Nat
 | .nil=>0
 | .full=>1
 | .cls _ a b=>(if bR a<=bR b then bR b else bR a)+1
theorem NB:∀ (n:Nat) (cs:List Cl),bR (nq n cs)<=n+1
 | 0,_=>acS _
 | n+1,[]=>alq _ _
 | n+1,c::cs=>by
  have one:∀ o,bR (wb n (c::cs) o)<=n+1:=λo=>by
   cases o with
   | none=>exact adt _
   | some e=>exact NB n _
  have two:bR (if c.1.1=c.2.1 then .nil else wb n (c::cs) c.2.1)<=n+1:=by
   split
   .exact adt _
   .exact one _
  rw[Nz];show (if _<=_ then _ else _)+1<=n+1+1;have:=one c.1.1;split<;>lia
inductive zr(G H:Hp)(v:V)(sw gw:List W2)(tb:Tb)(mo:Int):Prop
 | zm (r k:ac4) (j:Nat) (_:v = .ref r) (_:H r=O (.tup [.str "never",.ref k])) (_:H k=O (.tup [.str "step",.int (j:Int)])) (_:sw[j]?=O J)
 | gol (r k:ac4) (j:Nat) (_:v = .ref r) (_:H r=O (.tup [.str "never",.ref k])) (_:H k=O (.tup [.str "at",.int (j:Int)])) (_:gw[j]?=O J)
 | pap (r:ac4) (k:V) (t:Pp) (pp:List P2) (gs:List S2) (_:v = .ref r) (_:H r=O (.tup [.str "never",k])) (_:jP H k t) (_:bR t<=9) (_:sw=pp.map jB) (_:gw=gs.map O) (_:Val pp gs tb mo t [])
 | may (r k:ac4) (cs:List Int) (pp:List P2) (gs:List S2) (es:List Int) (_:v = .ref r) (_:H r=O (.tup [.str "may",.ref k])) (_:H k=O (.lst (cs.map V.int))) (_:G k=J) (_:cs.length=gw.length) (_:sw=pp.map jB) (_:gw=gs.map O) (_:fB pp (bT cs)) (_:∀ t s,gs[t]?=O s->bC s (bT cs t)) (_:(es.length:Int)<=mo) (_:meets (cH tb es) (bT cs))
noncomputable def f7(gs:List S2):List Mk:=(adu gs.length).map λi=>(i,gs.getD i (J,J))
theorem NC{gs:List S2}{i:Nat}{m:Mk}(h:(f7 gs)[i]?=O m):m.1=i/\gs[i]?=O m.2:=by
 unfold f7 at h;rw[ac1] at h;obtain⟨k,hk,rfl⟩:=ady.mp h;have hi:i<gs.length:=by
  have:=(acX.mp hk).1
  rwa [adj] at this
 rw[adM hi] at hk;cases hk;exact#[Y,by show gs[i]?=O (gs.getD i _);rw[acO,acP hi];rfl]
theorem ND(h:m∈f7 gs):m.1<gs.length/\gs[m.1]?=O m.2:=by obtain⟨i,hi⟩:=ae1.mp h;obtain⟨e1,e2⟩:=NC hi;rw[<- e1] at e2;exact#[(acX.mp e2).1,e2]
theorem zt(gs:List S2):(f7 gs).length=gs.length:=by unfold f7;rw[acN,adj]
theorem ax.NF:∀ {xs:List V} {as:List α},xs.length=as.length->(∀ (i:Nat) x a,xs[i]?=O x->as[i]?=O a->R x a)->ax R xs as
 | [],[],_,_=>trivial
 | _::_,_::_,h,k=>#[k 0 _ _ Y Y,ax.NF (by simpa using h) λi x a h1 h2=>k (i+1) x a h1 h2]
 | [],_::_,h,_=>by cases h
 | _::_,[],h,_=>by cases h
theorem getD_none{ws:List W2}{j:Nat}(h:j<ws.length)(e:aga (ws.getD j J)=true):ws[j]?=O J:=by
 rw[acO,acP h] at e;rw[acP h];cases hw:ws[j] with
 | none=>rfl
 | some s=>rw[hw] at e;cases e
inductive aam(B C:ac4)(vs:List V)(H:Hp)(Q:VK)(E:XK):Prop
 | mk(x p b:ac4)(e t u d m:Int)(xs:List V)(ps:List Pa)(tb:Tb)(_:vs=[.ref x,.ref b])(_:br B H x e t u d m p tb)(_:bV e t tb)(_:tb.length<=60)(_:1<=t)(_:t<=12)(_:0<=e)(_:e<=7)(_:0<=m)(_:m<=7)(_:ah K H b xs)(_:lE H xs ps)(_:ps.length<=900)(_:(¬ jx t ps->E (.ref C) J H))(_:(jx t ps->∀ v H',aj H H'->zr H H' v (dz u d ps (t-1).toNat) (fG ps t.toNat) tb m->Q v H'))
theorem aan(T:aH):aR 20 T.x_ask (aam T.aN T.jM):=by
 refine kG nF ?_;rintro n n n s H vs n n hr ⟨x,p,b,e,t,u,d,m,xs,ps,tb,rfl,hb,bc,mE,t1,t2,e0,e7,m0,m7,hX,hP,hn,Q0,Q9⟩;refine#[_,(aq (aP 2 nF.nd (dI (Mv T) hr.m Y T.nK.m T.nK.F.kp T.nK.b .nil eS (ae (aa 0) (ae (aa 1) af)))) (aq (aP 3 nF.nd (dI (Yu T) hr.m Y T.nM.m T.nM.F.kp T.nM.b .nil eS (ae (aa 0) (ae (aa 1) af)))) (aq (aE (gk (KD (gu hr)) bE (aa 2) (by with_unfolding_all rfl)) (ak (aA (bf (ae aK (ae (bf (ae aK (ae (dJ ad0 agD aiu (KG (gu hr)) (aa 2) (ae bE af)) af))) af))))) aI) (aq (aE (gk (KD (gu hr)) bE (aa 3) (by with_unfolding_all rfl)) (ak (aA (bf (ae aK (ae (bf (ae aK (ae (dJ ad0 agD aiu (KG (gu hr)) (aa 3) (ae bE af)) af))) af))))) aI) (aq (aP 4 nF.nd (V7 Y (by rfl) T.yz (by rfl) T.yy (ae (aa 3) af))) (aq (aP 5 nF.nd (aG (aab T) hr (ae (aa 2) (ae (az mR (cK (ae (bf (ae bE (ae (aa 4) af))) af)) (aG (ZQ T) hr (ae (aa 0) af))) af)))) (aq (aP 6 nF.nd (aG (aak T) hr (ae (aa 5) (ae (eE Y (aa 0) Y) af)))) (aq (aE (c8 (aa 6)) (ak (aA (bf (ae aK (ae (aG (aal T) hr (ae (aa 5) (ae (eE Y (aa 0) Y) af))) af))))) aI) (ak (aA (bf (ae aK (ae (aG (ZV T) hr (ae (aa 2) (ae (az mR (aa 4) (aG (Mx T) hr (ae (aa 0) (ae (aa 6) af)))) af))) af))))))))))))),?_];obtain⟨⟨dx,hx⟩,kvs,tu,hTA⟩:=id hb;have FD:i5 T.aN H x e t u d m p kvs:=#[#[dx,hx],tu]
 by_cases hk:jx t ps
 case neg =>
  refine aD (λn n=>False) (λN hN=>?_) (λn n n n h=>h.elim);rfl';exact#[x,p,b,e,t,u,d,m,kvs,xs,ps,Y,FD,t1,t2,hX,hP,hn,λn=>Q0 hk,λz=>absurd z hk]
 have Q1:=Q9 hk;refine aD (λL H1=>∃ s ys,L=[O (.ref x),O (.ref b),O (.ref s),J,J,J,J]/\aj H H1/\H1 s=O (.lst ys)/\ax (fA H1) ys (dz u d ps (t-1).toNat)) (λN hN=>?_) ?_
 .rfl';exact#[x,p,b,e,t,u,d,m,kvs,xs,ps,Y,FD,t1,t2,hX,hP,hn,λz=>absurd hk z,λn l ys H1 s1 n hl hW=>hN _ _ #[l,ys,Y,s1,hl,hW]]
 rintro n yR L H1 ⟨s,ys,rfl,s1,hs,hW⟩;subst yR;refine aD (λL H2=>∃ gl zs,L=[O (.ref x),O (.ref b),O (.ref s),O (.ref gl),J,J,J]/\aj H1 H2/\H2 gl=O (.lst zs)/\ax (fA H2) zs (fG ps t.toNat)) (λN hN=>?_) ?_
 .rfl';exact#[x,p,b,e,t,u,d,m,kvs,xs,ps,Y,FD.same s1,t1,t2,s1.seq hX,hP.same s1,hn,λz=>absurd hk z,λn l ys H2 s2 n hl hW=>hN _ _ #[l,ys,Y,s2,hl,hW]]
 rintro n yR L H2 ⟨gl,zs,rfl,s2,lX,hG⟩;subst yR;have vP:=s1.trans s2;have df:=s2 _ _ hs;have FE:=hW.imp λn n r=>r.same s2;have wl:(dz u d ps (t-1).toNat).length=(t-1).toNat:=by unfold dz;rw[acN,adj]
 have gw:(fG ps t.toNat).length=t.toNat:=by unfold fG;rw[acN,adj]
 have yl:=hW.len;have zl:=hG.len;obtain⟨n1,n2,n3⟩:=Cb FE;obtain⟨k1,k2,k3⟩:=Cb hG;refine aD (λL H3=>L=[O (.ref x),O (.ref b),O (.ref s),O (.ref gl),J,J,J]/\H3=H2/\(dz u d ps (t-1).toNat).any aga=false) (λN hN=>?_) ?_
 .rfl';refine#[s,ys,Y,Y,ah.of df,n1,?_];rw[n2];cases hA:(dz u d ps (t-1).toNat).any aga with
  | false =>
   rfl';exact hN _ _ #[Y,Y,hA]
  | true =>
   rfl';obtain⟨j,j1,j2,j3⟩:=Cc (d:=V.non) (n2.trans hA);refine#[.inl #[Y,_,ah.of df],s,ys,j,Y,Y,ah.of df,n1,j1,by lia,j2,j3,bg,λk FF=>#[bg,λr hr=>?_]];have u1:=aw (o:=.tup [.str "step",.int (j:Int)]) FF;have u2:=aw (o:=.tup [.str "never",.ref k]) hr;rw[n3] at j2;exact Q1 _ _ (vP.trans (u1.trans u2)) (.zm r k j Y ao (u2 _ _ ao) (getD_none (by lia) j2))
 rintro n yR L H3 ⟨rfl,rfl,hA⟩;subst yR;refine aD (λL H4=>L=[O (.ref x),O (.ref b),O (.ref s),O (.ref gl),J,J,J]/\H4=H3/\(fG ps t.toNat).any aga=false) (λN hN=>?_) ?_
 .rfl';refine#[gl,zs,Y,Y,ah.of lX,k1,?_];rw[k2];cases hB:(fG ps t.toNat).any aga with
  | false =>
   rfl';exact hN _ _ #[Y,Y,hB]
  | true =>
   rfl';obtain⟨j,j1,j2,j3⟩:=Cc (d:=V.non) (k2.trans hB);refine#[.inl #[Y,_,ah.of lX],gl,zs,j,Y,Y,ah.of lX,k1,j1,by lia,j2,j3,bg,λk FF=>#[bg,λr hr=>?_]];have u1:=aw (o:=.tup [.str "at",.int (j:Int)]) FF;have u2:=aw (o:=.tup [.str "never",.ref k]) hr;rw[k3] at j2;exact Q1 _ _ (vP.trans (u1.trans u2)) (.gol r k j Y ao (u2 _ _ ao) (getD_none (by lia) j2))
 rintro n yR L H4 ⟨rfl,rfl,hB⟩;subst yR;obtain⟨pp,ep,ar⟩:=KI (f:=λ(k:Nat)=>dE (J,J) ((O (-d),O u)::sel ps "step" (k:Int))) (λk s h=>VF h) (adu (t-1).toNat) λk hk e=>KJ hA _ (ac2.mpr #[k,hk,Y]) e;replace ep:dz u d ps (t-1).toNat=pp.map jB:=ep;obtain⟨gs,eg⟩:=all_some _ (KJ hB);have ppl:pp.length=(t-1).toNat:=by rw[<- wl,ep,acN]
 have gsl:gs.length=t.toNat:=by rw[<- gw,eg,acN]
 rw[ep] at FE;have NG:=KL FE;have FG:=hG;rw[eg] at FG;have M1:∀ mm∈f7 gs,mm.1<=pp.length:=λmm hm=>by have:=(ND hm).1;lia
 have M2:∀ r∈tb,r.1.2.toNat<=pp.length:=λr hr=>by have ho:=bc.2 r hr;unfold kq at ho;lia
 refine aD (λL H5=>∃ k vs,L=[O (.ref x),O (.ref b),O (.ref s),O (.ref gl),O (.ref k),J,J]/\aj H4 H5/\H5 k=O (.lst vs)/\ax (eG H5) vs (f7 gs)) (λN hN=>?_) ?_
 .rfl';refine#[zs,ah.of lX,λl vs H5 s5 n hl hvl hv=>hN _ _ #[l,vs,Y,s5,hl,ax.NF (by rw[hvl,zt,FG.len,acN]) λi y mk e1 e2=>?_]];obtain⟨f1,f2⟩:=NC e2;obtain⟨z,hz,rz⟩:=FG.at (i:=i) (by rw[ac1,f2];rfl);obtain⟨p0,rfl,n,h5⟩:=hv i y z e1 hz;obtain⟨pz,rfl,hpz⟩:=rz;exact#[p0,pz,Y,by rw[h5,f1],s5 _ _ hpz]
 rintro n yR L H5 ⟨k,vs,rfl,s5,hkl,hM⟩;subst yR;have vl:=hM.len;rw[zt] at vl;have S5:=vP.trans s5;have vn:vs.length<=12:=by lia
 refine aD (λL H6=>∃ c ws cs,L=[O (.ref x),O (.ref b),O (.ref s),O (.ref gl),O (.ref k),O (.ref c),J]/\aj H5 H6/\H6 c=O (.lst ws)/\ax (fh H6) ws cs/\cs.length<=64/\xX pp (kD (f7 gs) e.toNat tb) cs/\∀ g∈kD (f7 gs) e.toNat tb,∀ h∈kD (f7 gs) e.toNat tb,kC pp g h cs) (λN hN=>?_) ?_
 .rfl';refine#[bg,λt0 ht0=>#[by decide,λl0 gI=>?_]];have u1:=aw (o:=.tup [.non,.ref k]) ht0;have u2:=aw (o:=.lst [.ref t0]) gI;have U:=u1.trans u2;refine#[x,p,e,t,u,d,m,tb,Y,hb.same (S5.trans U),bc.1,by lia,λr hr=>(bc.2 r hr).2.1,e0,e7,λl ws H6 s6 n hl NH=>?_];have NI:=NH.len;unfold tX at NI;rw[acN,acN,adj] at NI;refine#[l,Y,[.ref t0],s6 _ _ ao,ws,hl,acR (by show 1+ws.length<=30;lia) (by decide),λc hc=>?_];have u3:=aw (o:=.lst ([.ref t0]++ws)) hc;have S6:=s5.trans (U.trans (s6.trans u3));refine#[s,c,ys,.ref t0::ws,pp,kD (f7 gs) e.toNat tb,Y,ah.of (S6 _ _ df),NG.same S6,ar,by lia,ah.of ao,#[#[t0,k,vs,Y,(u2.trans (s6.trans u3)) _ _ ao,(U.trans (s6.trans u3)) _ _ hkl,hM.imp λn n r=>r.same (U.trans (s6.trans u3))],NH.imp λn n r=>r.same u3],?_,λg hg=>?_,λl7 ws7 cs7 H7 s7 n a1 a2 a3 a4 a5=>hN _ _ #[l7,ws7,cs7,Y,U.trans (s6.trans (u3.trans s7)),a1,a2,a3,a4,a5]]
  .unfold kD tX;rw[adw,acN,acN,adj];lia
  .rcases acZ.mp hg with rfl|z
   .exact#[by show (f7 gs).length<=1000;rw[zt];lia,M1]
   .obtain⟨g1,tT,rfl⟩:=ac2.mp z;obtain⟨i,n,rfl⟩:=ac2.mp tT;refine#[acR (by unfold ng;rw[acN];exact acR (ad1 _ _) (by rw[oY];exact acS _)) (by lia:tb.length<=1000),λmm cV=>?_];obtain⟨r,hr,n,rfl⟩:=Cd.mp cV;exact M2 r hr
 rintro n yR L H6 ⟨c,ws,cs,rfl,s6,hc,hC,bj,hsnd,sY⟩;subst yR;have S6:=S5.trans s6;refine aD (λL H7=>∃ av,L=[O (.ref x),O (.ref b),O (.ref s),O (.ref gl),O (.ref k),O (.ref c),O av]/\aj H6 H7/\((av = .non/\ix (m.toNat+1) cs) ∨ ∃ f es,av = .ref f/\H7 f=O (.lst (es.map V.int))/\tY es cs/\es.length<=m.toNat)) (λN hN=>?_) ?_
 .rfl';refine#[_,_,_,S6 _ _ hx,T.bY,T.rR,_,Y,?_];exact#[c,ws,cs,m.toNat,by rw[aeU m0],by lia,by lia,hc,hC,bj,λH7 s7 h7=>hN _ _ #[_,Y,s7,.inl #[Y,h7]],λr es H7 s7 n hr h1 h2=>hN _ _ #[_,Y,s7,.inr #[r,es,Y,hr,h1,h2]]]
 rintro n yR L H7 ⟨av,rfl,s7,⟨rfl,cS⟩|⟨f,es,rfl,hf,hcov,hle⟩⟩<;>subst yR
 .have S7:=S6.trans s7;rfl';refine#[_,_,_,S7 _ _ hx,T.bY,T.rR,_,Y,?_];refine#[c,m,ws,cs,m.toNat+1,Y,by lia,by lia,s7 _ _ hc,hC.imp λn n r=>r.same s7,bj,cS,λv H8 s8 h8=>#[bg,λz hz=>?_]];have u1:=aw (o:=.tup [.str "never",v]) hz;exact Q1 _ _ (S7.trans (s8.trans u1)) (.pap z v _ pp gs Y ao (h8.same u1) (acR (NB _ _) (by lia)) ep eg (KP _ _ _ cS (by rw[afX];lia) (snd_mk bc (λmm hm=>(ND hm).2) hsnd)))
 .have S7:=S6.trans s7;have M3:∀ mm∈f7 gs++cH tb es,mm.1<=pp.length:=λmm hm=>by
   rcases adf.mp hm with z|z
   .exact M1 mm z
   .obtain⟨r,hr,n,rfl⟩:=tZ.mp z;exact M2 r hr
  have aao:=VN bc ar M3 hcov sY;rfl';refine#[x,p,f,e,t,u,d,m,tb,es,Y,hb.same S7,bc.1,by lia,λr hr=>(bc.2 r hr).2.1,ah.of hf,by lia,λr rs H8 s8 hr sd=>#[r,Y,vs,(s6.trans (s7.trans s8)) _ _ hkl,rs,hr,?_,λk2 lV=>?_]]
  .replace sd:ax (eG H8) rs (cH tb es):=sd;have e1:=sd.len;have e2:(cH tb es).length<=tb.length:=by unfold cH;rw[acN];exact acR (ad1 _ _) (by rw[oY];exact acS _)
   exact acR (by lia:_<=100) (by decide)
  replace sd:ax (eG H8) rs (cH tb es):=sd;have u1:=aw (o:=.lst (vs++rs)) lV;have W:=s5.trans (s6.trans (s7.trans (s8.trans u1)));have X8:=S7.trans (s8.trans u1);have ml:(f7 gs++cH tb es).length<=1000:=by
   rw[ac7,zt];have e2:(cH tb es).length<=tb.length:=by unfold cH;rw[acN];exact acR (ad1 _ _) (by rw[oY];exact acS _)
   lia
  refine#[s,k2,ys,vs++rs,pp,f7 gs++cH tb es,Y,ah.of (W _ _ df),NG.same W,ah.of ao,ax.app (hM.imp λn n r=>r.same (s6.trans (s7.trans (s8.trans u1)))) (sd.imp λn n r=>r.same u1),ar,by lia,ml,M3,λcS=>absurd aao cS,λl9 co H9 s9 f9 hl9 zu rV uf=>#[bg,λz hz=>?_]];have u9:=aw (o:=.tup [.str "may",.ref l9]) hz;refine Q1 _ _ (X8.trans (s9.trans u9)) (.may z l9 co pp gs es Y ao (u9 _ _ hl9) (X8.free f9) (by lia) ep eg rV (λtt ss hh=>?_) (by lia) λmm hm=>uf mm (ac6 _ hm));refine uf (tt,ss) (adH _ (ae1.mpr #[tt,?_]));have htt:=(acX.mp hh).1;unfold f7;rw[ac1,adM htt];show O (tt,gs.getD tt _)=_;rw[acO,hh];rfl
theorem wc:Gd 1 (.tuple [.str "full"]):=.tup λd hd=>by
 obtain rfl:d = .str "full" := by simpa using hd
 exact Gd.str (by decide +kernel)
theorem aap(hx:Dat K H x d)(g:Gd n d)(hn:n<=60)(hp:H p=O (.tup [.str "full"]))(bp:ae5 d (.tuple [.str "full"])=false)(q:Q (.bl false) H):A4 K false x (.ref p) H Q:=by refine#[d,_,hx,.tup (au.of hp) (.cons (.str _) .nil),g.lay,wc.lay,acR g.dep hn,?_];rw[if_neg (by decide),bp];exact q
noncomputable def zv(o:En):ahp:=match o with|none=>.none|some i=>.int i
theorem NJ{H:Hp}(o:En):Dat K H (ev o) (zv o):=by
 cases o with
 | none=>exact .non
 | some i=>exact .int _
noncomputable def wg:Pp->ahp
 | .nil=>.none
 | .full=>.tuple [.str "full"]
 | .cls c a b=>.tuple [.str "clash",.tuple [zv c.1.1,.int (c.1.2:Int)],.tuple [zv c.2.1,.int (c.2.2:Int)],wg a,wg b]
theorem FH{H:Hp}:∀ {t:Pp} {v:V},jP H v t->Dat K H v (wg t)
 | .nil,_,h=>by rw[show _=V.non from h];exact .non
 | .full,_,⟨r,e,h⟩=>by rw[e];exact .tup (au.of h) (.cons (.str _) .nil)
 | .cls c a b,_,⟨r,p,q,x,y,e,h1,h2,h3,h4,h5⟩=>by rw[e];exact .tup (au.of h1) (.cons (.str _) (.cons (.tup (au.of h2) (.cons (NJ _) (.cons (.int _) .nil))) (.cons (.tup (au.of h3) (.cons (NJ _) (.cons (.int _) .nil))) (.cons (FH h4) (.cons (FH h5) .nil)))))
theorem NK(o:En):Gd 0 (zv o):=by
 cases o with
 | none=>exact .of rfl
 | some i=>exact Gd.int _
theorem FI:∀ t:Pp,Gd (bR t+1) (wg t)
 | .nil=>Gd.up (.of rfl:Gd 0 _) (adt _)
 | .full=>wc.up (by decide)
 | .cls c a b=>.tup λd hd=>by
  have l1:bR a<=bR (.cls c a b)-1:=by show bR a<=(if bR a<=bR b then bR b else bR a)+1-1;split<;>lia
  have l2:bR b<=bR (.cls c a b)-1:=by show bR b<=(if bR a<=bR b then bR b else bR a)+1-1;split<;>lia
  have l3:1<=bR (.cls c a b):=alq _ _;simp only[acZ,adz,or_false] at hd;rcases hd with rfl|rfl|rfl|rfl|rfl
  .exact (Gd.str (by decide +kernel)).up (by lia)
  .refine Gd.up (n:=1) (.tup λd hd=>?_) l3;simp only[acZ,adz,or_false] at hd;rcases hd with rfl|rfl
   .exact NK _
   .exact Gd.int _
  .refine Gd.up (n:=1) (.tup λd hd=>?_) l3;simp only[acZ,adz,or_false] at hd;rcases hd with rfl|rfl
   .exact NK _
   .exact Gd.int _
  .exact (FI a).up (by lia)
  .exact (FI b).up (by lia)
inductive NL(N:Nat)(vs:List V)(H:Hp)(Q:VK)(aT:XK):Prop
 | mk(v:V)(b w gl z:ac4)(e t u d m:Int)(gs:List S2)(tb:Tb)(as:List Int)(pa:Pp)(_:vs=[v,.ref b,.ref w,.ref gl,.ref z])(_:0<N)(_:N<=10)(_:Rk H b w gl e t u d m gs tb)(_:H z=O (.lst (as.map V.int)))(_:as.length+N<=30)(_:jP H v pa)(_:bR pa<N)(_:Val (acY (t-1).toNat (-d,u)) gs tb m pa as)(_:∀ H',aj H H'->Q (.bl true) H')
def aaq(H:Hp)(k b w gl z:ac4)(x y:V)(_:Nat)(L:St)(H1:Hp):Prop:=(∃ e1 e2,L=[O (.ref k),O (.ref b),O (.ref w),O (.ref gl),O (.ref z),O x,O y,e1,e2])/\aj H H1
theorem aar(T:aH):∀ N,aR (N+3) T.jL (NL N):=by
 intro N
 induction N with
 | zero =>
  refine okN T.jL.F nG.1 (λvs H Q E h=>?_) (λbh A outer s H vs Q E hr h=>?_)
  .obtain⟨v,b,w,gl,z,e,t,u,d,m,gs,tb,as,pa,rfl,hN,n⟩:=h;exact absurd hN (aex _)
  .obtain⟨v,b,w,gl,z,e,t,u,d,m,gs,tb,as,pa,rfl,hN,n⟩:=h;exact absurd hN (aex _)
 | succ N ih =>
  refine okN T.jL.F nG.1 (λvs H Q E h=>?_) (λbh A outer s H vs Q E hr h=>?_)
  .obtain⟨v,b,w,gl,z,e,t,u,d,m,gs,tb,as,pa,rfl,n⟩:=h;rfl
  .obtain⟨v,b,w,gl,z,e,t,u,d,m,gs,tb,as,pa,rfl,n,hN0,hR,hz,hl,hp,hh,hv,q⟩:=h;refine#[_,(aq (aE (cu (cf (bA lb (by rfl) T.mi k9 (ae (aa 0) (ae (kX (v:=.ty "tuple") Y T.ES Ao Y) af))))) (ak (aA bO)) aI) (aq (aE (gk (IA hr.units) (aa 0) (bf (ae aK af)) (dW _)) (ak (aA (fN (pw wJ) (bA dk (by rfl) T.di dh (ae (aa 4) af)) (cA cB (aa 1) ag (λn n=>rfl)) (dW _)))) aI) (aq (aE (PW.pt (dj (gD (bA dk (by rfl) T.di dh (ae (aa 0) af)) ag) (fi (gD (cA cB (aa 0) ag (λn n=>rfl)) aK)))) (ak (aA bO)) aI) (aq (kY (i:=5) nG.nd Y (ahc Y) (dI (Ny T) (hr.mono (by lia)) Y T.jK.m T.jK.F.kp T.jK.b .nil c7 (ae (cA cB (aa 0) ag (λn n=>rfl)) (ae (aa 1) (ae (aa 2) (ae (aa 3) (ae (aa 4) af))))))) (aq (kY (i:=6) nG.nd Y (ahc Y) (dI (Ny T) (hr.mono (by lia)) Y T.jK.m T.jK.F.kp T.jK.b .nil c7 (ae (cA cB (aa 0) ag (λn n=>rfl)) (ae (aa 1) (ae (aa 2) (ae (aa 3) (ae (aa 4) af))))))) (aq (aE (PW.pt (dj (c8 (aa 5)) (dj (c8 (aa 6)) (dj (c8 (cA cB (aa 5) ag (λn n=>rfl))) (fi (c8 (cA cB (aa 6) ag (λn n=>rfl)))))))) (ak (aA bO)) aI) (aq (aE (Lb (cA cB (aa 6) ag (λn n=>rfl)) (az bD (cA cB (aa 5) ag (λn n=>rfl)) (dI (ZO T) (hr.mono (by lia)) Y T.nW.m T.nW.F.kp T.nW.b .nil c7 (ae (aa 1) (ae (cA cB (cA cB (aa 0) ag (λn n=>rfl)) ag (λn n=>rfl)) (ae (cA cB (cA cB (aa 0) ag (λn n=>rfl)) ag (λn n=>rfl)) af)))))) (ak (aA bO)) aI) (aq (cU adE Y (qx (bf (ae ag (ae ag af)))) (gh (i:=7) nG.nd Y (ahc Y)) (aq (kY (i:=8) nG.nd Y (ahc Y) (cA cB (cA cB (aa 0) (az dR (aa 7) ag) (λn n=>rfl)) ag (λn n=>rfl))) (ak (aE (PW.pt (dj (c8 (aa 8)) (fi (PW.pt (jc (bW (aa 7) ag) (jU (bW (aa 8) (cA cB (cA cB (aa 0) ag (λn n=>rfl)) ag (λn n=>rfl))))))))) (ak (aE (iJ (cA cB (aa 0) (aa 7) (λn n=>rfl))) (ak (aA bO)) aI)) (ak (aE (cu (cf (dI ih (hr.mono (by lia)) Y T.jL.m T.jL.F.kp T.jL.b .nil c7 (ae (cA cB (aa 0) (aa 7) (λn n=>rfl)) (ae (aa 1) (ae (aa 2) (ae (aa 3) (ae (az mR (aa 4) (cK (ae (aa 8) af))) af)))))))) (ak (aA bO)) aI)))))) (ak (aA bO)))))))))),?_];obtain⟨zs,hb,sz,hT,eB,aW,hg,hG,lX⟩:=id hR;have ht:=sz.ht;have Ft:∃ (k:ac4) (u:V) (us:List V),v = .ref k/\H k=O (.tup (u::us)):=by
    cases pa with
    | nil=>exact hv.elim
    | full=>obtain⟨r,rfl,h⟩:=hp;exact#[r,_,_,Y,h]
    | cls c a b=>obtain⟨r,n,n,n,n,rfl,h,n⟩:=hp;exact#[r,_,_,Y,h]
   obtain⟨k,u0,us,rfl,hku⟩:=Ft;refine aD (λL H2=>L=[O (.ref k),O (.ref b),O (.ref w),O (.ref gl),O (.ref z),J,J,J,J]/\H2=H) (λN hN=>?_) ?_
   .rfl';refine Aq hku ?_;exact hN _ _ #[Y,Y]
   rintro n yR L H2 ⟨rfl,rfl⟩;subst yR;cases pa with
   | nil=>exact hv.elim
   | full =>
    obtain⟨r,e1,bU⟩:=hp;cases e1;refine aD (λn n=>False) (λN hN=>?_) (λn n n n h=>h.elim);rfl';refine#[by decide,λp0 FK=>?_];have u1:=aw (o:=.tup [.str "full"]) FK;refine#[_,_,.tup (au.of (u1 _ _ bU)) (.cons (.str _) .nil),.tup (au.of ao) (.cons (.str _) .nil),wc.lay,wc.lay,acR wc.dep (by decide),?_];rw[if_neg (by decide),show ae5 (.tuple [.str "full"]) (.tuple [.str "full"])=true by simp[ae5,agA]];refine#[true,Y,?_];rfl';refine#[_,eQ (ah.of (u1 _ _ hz)),aB (au.of (u1 _ _ hb)) (v:=.int m) Y ?_];rfl';rw[acN,decide_eq_true (show m<((as.length:Nat):Int) from hv)];exact q _ u1
   | cls c a b2 =>
    obtain⟨r,p,p2,x,y,e1,hk,i8,iV,hx,hy⟩:=id hp;cases e1;obtain⟨⟨o,i⟩,⟨o2,i2⟩⟩:=c;obtain⟨⟨mm,nn,mA,mB,bj⟩,va,vb⟩:=hv;dsimp only at va vb i8 iV mA mB;have HA:bR a<N:=by have h2:(if bR a<=bR b2 then bR b2 else bR a)+1<N+1:=hh;split at h2<;>lia
    have HB:bR b2<N:=by have h2:(if bR a<=bR b2 then bR b2 else bR a)+1<N+1:=hh;split at h2<;>lia
    refine aD (λL H3=>L=[O (.ref k),O (.ref b),O (.ref w),O (.ref gl),O (.ref z),J,J,J,J]/\aj H2 H3) (λN hN=>?_) ?_
    .rfl';refine#[by decide,λp0 FK=>?_];have u1:=aw (o:=.tup [.str "full"]) FK;refine aap (FH (hp.same u1)) (FI _) (by lia) ao (by simp[wg,ae5,agA]) #[_,Y,?_];rfl';exact hN _ _ #[Y,u1]
    rintro n yR L H3 ⟨rfl,u1⟩;subst yR;refine aD (λL H4=>L=[O (.ref k),O (.ref b),O (.ref w),O (.ref gl),O (.ref z),J,J,J,J]/\H4=H3) (λN hN=>?_) ?_
    .rfl';refine#[_,Ar (au.of (u1 _ _ hk)),bo (λzz=>absurd Y zz) λn=>?_];refine aB (au.of (u1 _ _ hk)) (v:=.str "clash") Y ?_;rfl'
     first|exact hN _ _ ⟨rfl,rfl⟩|exact bo (λh=>absurd h (by decide)) λn=>hN _ _ #[Y,Y]
    rintro n yR L H4 ⟨rfl,rfl⟩;subst yR;refine aD (λL H5=>∃ v1,∃ _:True,L=[O (.ref k),O (.ref b),O (.ref w),O (.ref gl),O (.ref z),O v1,J,J,J]/\H5=H4/\aO H4 v1 mm.2.1 mm.2.2/\(i:Int)<t) (λN hN=>?_) ?_
    .rfl';exact aB (au.of (u1 _ _ hk)) (v:=.ref p) Y #[p,b,w,gl,z,e,t,u,d,m,gs,tb,as,(o,i),mm,Y,u1 _ _ i8,hR.same u1,u1 _ _ hz,mA,λlt v1 h1=>hN _ _ #[v1,trivial,Y,Y,h1,lt]]
    rintro n yR L H5 ⟨v1,-,rfl,rfl,⟨q1,rfl,FL⟩,lti⟩;subst yR;refine aD (λL H6=>∃ v1,∃ _:True,L=[O (.ref k),O (.ref b),O (.ref w),O (.ref gl),O (.ref z),O (.ref q1),O v1,J,J]/\H6=H5/\aO H5 v1 nn.2.1 nn.2.2/\(i2:Int)<t) (λN hN=>?_) ?_
    .rfl';exact aB (au.of (u1 _ _ hk)) (v:=.ref p2) Y #[p2,b,w,gl,z,e,t,u,d,m,gs,tb,as,(o2,i2),nn,Y,u1 _ _ iV,hR.same u1,u1 _ _ hz,mB,λlt v1 h1=>hN _ _ #[v1,trivial,Y,Y,h1,lt]]
    rintro n yR L H6 ⟨v2,-,rfl,rfl,⟨q2,rfl,oV⟩,acJ⟩;subst yR;obtain⟨NM,ll,h1,h2,h3⟩:=bj;rw[h1] at FL;rw[h2] at oV;rw[show mm.1=i from mA.1,show nn.1=i2 from mB.1,KN u d (by lia) (by lia)] at h3;refine aD (λL H7=>L=[O (.ref k),O (.ref b),O (.ref w),O (.ref gl),O (.ref z),O (.ref q1),O (.ref q2),J,J]/\H7=H6) (λN hN=>?_) ?_
    .rfl';refine aB (au.of FL) (v:=.int NM) Y ?_;rfl';refine aB (au.of oV) (v:=.int ll) Y ?_;rfl';exact hN _ _ #[Y,Y]
    rintro n yR L H7 ⟨rfl,rfl⟩;subst yR;refine aD (λL H8=>L=[O (.ref k),O (.ref b),O (.ref w),O (.ref gl),O (.ref z),O (.ref q1),O (.ref q2),J,J]/\H8=H7) (λN hN=>?_) ?_
    .rfl';refine aB (au.of oV) (v:=.int ll) Y (aB (au.of FL) (v:=.int NM) Y (aB (au.of (u1 _ _ hk)) (v:=.ref p) Y (aB (au.of (u1 _ _ i8)) (v:=.int i) Y (aB (au.of (u1 _ _ hk)) (v:=.ref p2) Y (aB (au.of (u1 _ _ iV)) (v:=.int i2) Y ?_)))));refine#[b,e,t,u,d,m,i,i2,Y,u1 _ _ hb,sz,by lia,by lia,?_];rfl';rw[if_neg (by lia)];exact hN _ _ #[Y,Y]
    rintro n yR L H8 ⟨rfl,rfl⟩;subst yR;rfl';refine#[bg,λp9 hp9=>#[#[_,au.of ao],?_]];have u9:=aw (o:=.tup [.int 3,.int 4]) hp9;refine HE (xs:=[.int 3,.int 4]) (aaq (upd H8 p9 (.tup [.int 3,.int 4])) k b w gl z (.ref q1) (.ref q2)) #[#[_,_,Y],aj.refl _] (λi L H9 _ ⟨_,s9⟩=>au.of (s9 _ _ ao)) ?_ ?_
    .rintro i9 v9 L H9 FN ⟨⟨e1,e2,rfl⟩,s9⟩;have S2:aj H2 H9:=u1.trans (u9.trans s9);have i9l:=(acX.mp FN).1;rcases (by have:i9<2:=i9l;lia:i9=0∨i9=1) with rfl|rfl
     .cases FN;rfl';refine aB (au.of (S2 _ _ hk)) (v:=.ref p) Y (aB (au.of (S2 _ _ i8)) (v:=ev o) Y ?_);cases o with
      | none =>
       obtain rfl:a = .nil:=va;obtain rfl:x = .non:=hx;rfl';refine aB (au.of (S2 _ _ hk)) (v:=.non) Y ?_;rfl';exact#[#[_,_,Y],s9]
      | some x9 =>
       rfl';refine aB (au.of (S2 _ _ hk)) (v:=x) Y ?_;refine#[by decide,λp5 FO=>?_];have u5:=aw (o:=.lst [.int x9]) FO;refine#[_,u5 _ _ (S2 _ _ hz),_,ao,acR (by rw[acN,adb];lia:_<=100) (by decide),λp6 qb=>?_];have U:=u5.trans (aw (o:=.lst (as.map V.int++[.int x9])) qb);refine#[x,b,w,gl,p6,e,t,u,d,m,gs,tb,as++[x9],a,Y,by lia,by lia,(hR.same S2).same U,by rw[adx];exact ao,by rw[ac7,adb];lia,(hx.same S2).same U,HA,va,λH7 s7=>?_];rfl';exact#[#[_,_,Y],s9.trans (U.trans s7)]
     .cases FN;rfl';refine aB (au.of (S2 _ _ hk)) (v:=.ref p2) Y (aB (au.of (S2 _ _ iV)) (v:=ev o2) Y ?_);cases o2 with
      | none =>
       obtain rfl:b2 = .nil:=vb;obtain rfl:y = .non:=hy;rfl';refine aB (au.of (S2 _ _ hk)) (v:=.non) Y ?_;rfl';exact#[#[_,_,Y],s9]
      | some x9 =>
       rfl';refine aB (au.of (S2 _ _ hk)) (v:=.ref p) Y (aB (au.of (S2 _ _ i8)) (v:=ev o) Y ?_);refine Nu (o:=O x9) (o':=o) ?_;replace vb:if o=O x9 then b2 = .nil else Val (acY (t-1).toNat (-d,u)) gs tb m b2 (as++[x9]):=vb
       by_cases he:o=O x9
       .rw[decide_eq_true he.symm];rw[if_pos he] at vb;subst vb;obtain rfl:y = .non:=hy;rfl';refine aB (au.of (S2 _ _ hk)) (v:=.non) Y ?_;rfl';exact#[#[_,_,Y],s9]
       .rw[decide_eq_false (λh=>he h.symm)];rw[if_neg he] at vb;rfl';refine aB (au.of (S2 _ _ hk)) (v:=y) Y ?_;refine#[by decide,λp5 FO=>?_];have u5:=aw (o:=.lst [.int x9]) FO;refine#[_,u5 _ _ (S2 _ _ hz),_,ao,acR (by rw[acN,adb];lia:_<=100) (by decide),λp6 qb=>?_];have U:=u5.trans (aw (o:=.lst (as.map V.int++[.int x9])) qb);refine#[y,b,w,gl,p6,e,t,u,d,m,gs,tb,as++[x9],b2,Y,by lia,by lia,(hR.same S2).same U,by rw[adx];exact ao,by rw[ac7,adb];lia,(hy.same S2).same U,HB,vb,λH7 s7=>?_];rfl';exact#[#[_,_,Y],s9.trans (U.trans s7)]
    .rintro L H9 ⟨⟨e1,e2,rfl⟩,s9⟩;rfl';exact q _ (u1.trans (u9.trans s9))
noncomputable def qh(zs:List Int):List (Key × V):=zs.map λi=>(.inl i,V.bl true)
theorem aas(zs:List Int)(j:Int):putK (qh zs) (.inl j) (.bl true)=qh (if j∈zs then zs else zs++[j]):=by
 unfold putK qh;by_cases h:j∈zs
 .rw[if_pos h,if_pos (by rw[akH];exact aeb.mpr #[j,h,by simp]),aei];refine ad9 λi y=>?_;by_cases e:(ahN i:Key) = .inl j
  .simp only[Function.comp,if_pos e]
  .simp only[Function.comp,if_neg e]
 .rw[if_neg h,if_neg (by rw[akH];intro z;obtain⟨k,hk,e⟩:=aeb.mp z;have e:=of_decide_eq_true e;cases e;exact h hk),adx];rfl
def og(tb:Tb)(cs:List Int)(i:Int):Prop:=∃ r∈tb,r.1.1=i/\hs r.2 (iG cs r.1.2.toNat)=false
theorem NO:∀ cs:List Int,ax (λx (n:Int)=>x=V.int n) (cs.map V.int) cs
 | []=>trivial
 | _::r=>#[Y,NO r]
theorem aat{tb:Tb}{cs:List Int}{r:P2 × S2}{i:Nat}(h:tb[i]?=O r)(j:Int):og (tb.take (i+1)) cs j↔og (tb.take i) cs j∨(r.1.1=j/\hs r.2 (iG cs r.1.2.toNat)=false):=by
 unfold og;rw[aeh,h];constructor
 .rintro ⟨q,hq,e,b⟩;rcases adf.mp hq with z|z
  .exact .inl #[q,z,e,b]
  .obtain rfl:q=r:=by simpa using z
   exact .inr #[e,b]
 .rintro (⟨q,hq,e,b⟩|⟨e,b⟩)
  .exact#[q,adH _ hq,e,b]
  .exact#[r,ac6 _ (by simp),e,b]
inductive aau(vs:List V)(H:Hp)(Q:VK)(aT:XK):Prop
 | mk(c b w gl:ac4)(e t u d m:Int)(gs:List S2)(tb:Tb)(cs:List Int)(_:vs=[.ref c,.ref b,.ref w,.ref gl])(_:Rk H b w gl e t u d m gs tb)(_:tb.length<=60)(_:H c=O (.lst (cs.map V.int)))(_:cs.length=t.toNat)(_:(∀ k,k+1<cs.length->-d<=iG cs (k+1)-iG cs k/\iG cs (k+1)-iG cs k<=u))(_:(∀ zs:List Int,zs.Nodup->(∀ i,i∈zs↔og tb cs i)->(zs.length:Int)<=m))(_:(∀ k s,gs[k]?=O s->hs s (iG cs k)=true))(_:∀ H',aj H H'->Q (.bl true) H')
inductive zw(H:Hp)(c b w gl:ac4)(_:Nat)(L:St)(H1:Hp):Prop
 | mk(e1:Option V)(_:L=[O (.ref c),O (.ref b),O (.ref w),O (.ref gl),e1,J,J])(_:aj H H1)
inductive aav(H3:Hp)(σ0:St)(d:ac4)(tb:Tb)(cs:List Int)(i:Nat)(L:St)(H4:Hp):Prop
 | mk(e1:Option V)(zs:List Int)(_:L=σ0.set 6 e1)(_:tH [d] H3 H4)(_:H4 d=O (.dK (qh zs)))(_:zs.Nodup)(_:zs.length<=i)(_:∀ j,j∈zs↔og (tb.take i) cs j)
theorem aaw(T:aH):aR 2 T.vE aau:=by
 refine ba rN ?_;rintro _ _ _ _ H _ Q _ hr ⟨c,b,w,gl,e,t,u,d,m,gs,tb,cs,rfl,hR,mE,hc,bj,de,nj,hgo,q⟩;refine#[_,(aq (aE (PW.pt (dj (cu (cf (bA lb (by rfl) T.mi k9 (ae (aa 0) (ae (kX (v:=.ty "list") Y T.yz wZ Y) af))))) (fi (gD (bA dk (by rfl) T.di dh (ae (aa 0) af)) (ay (aa 1) ag))))) (ak (aA bO)) aI) (aq (aE (cu (cf (bA (tm Y) (by rfl) T.vK sR (ae (dC (cO [] []) Y (cT (aa 0)) (λC s2 H2 ex pn=>#[dt,(aG (E1 T) hr (ae (aa 0) af))])) af)))) (ak (aA bO)) aI) (aq (cU adE Y (fL Y T.fc (ae (az dR (ay (aa 1) ag) ag) af)) (cp 4 rN.nd) (ak (aE (cu (ue fM fM (eO fb (ay (aa 1) ag)) (az dR (ay (aa 0) (az bD (aa 4) ag)) (ay (aa 0) (aa 4))) (ay (aa 1) ag))) (ak (aA bO)) aI))) (aq (aP 5 rN.nd Jx) (aq (cU adE Y (cT (gp (JG Y) (by rfl) T.yz wZ (ae (aa 2) af))) (cp 6 rN.nd) (ak (aE (cu (cf (aG (Ni T) hr (ae (tF (gu hr) (aa 2) (aa 6) (λ_ _=>rfl)) (ae (ay (aa 0) (ay (aa 6) ag)) af))))) (ak (Bs (gu hr) (aa 5) (ay (aa 6) ag) bO Y)) aI))) (aq (aE (nz (bA Xf (by rfl) T.di dh (ae (aa 5) af)) (ay (aa 1) ag)) (ak (aA bO)) aI) (ak (aA (bA (tm Y) (by rfl) T.vK sR (ae (dC (cO [3,0] ["_law_goals","_law_course_here"]) Y (fL Y T.fc (ae (ay (aa 1) ag) af)) (λC s2 H2 ex pn=>#[dt,(aG (Ni T) hr (ae (eF (K:=K) (aa 1) (aa 0)) (ae (eF (K:=K) (aa 2) (aa 0)) af)))])) af)))))))))),?_];obtain⟨zs,hb,sz,hT,eB,aW,hg,hG,lX⟩:=id hR;have ht:=sz.ht;refine aD (zw H c b w gl 0) (λN hN=>?_) ?_
 .rfl';refine QN hc ?_;rfl';refine#[_,eQ (ah.of hc),aB (au.of hb) (v:=.int t) Y ?_];rw[acN,bj];rfl';rw[if_neg (λz=>z (by lia))];exact hN _ _ #[_,Y,aj.refl _]
 rintro _ yR L H1 ⟨e1,rfl,s1⟩;subst yR;refine aD (zw H c b w gl 0) (λN hN=>?_) ?_
 .rfl';refine#[#[_,ah.of (s1 _ _ hc)],cM gU (acR (by rw[acN];lia:(cs.map V.int).length<=100) (by decide)) (xm (R:=λx (n:Int)=>x=V.int n) (as:=cs) (p:=λ_=>true) (f:=λ_=>.bl true) (ah.of (s1 _ _ hc)) ?_ (λ_ _ _ _ Q h=>h) (λx n _ _ r Q h=>?_) λl hl=>?_)]
  .exact NO cs
  .subst r;rfl';refine#[_,Y,.inr #[_,Y],?_];simp only[isWhole];exact h
  .rw[adl,aeS.mpr λ_ _=>rfl];refine#[l,Y,cs.map λ_=>true,ah.of (by rw[ao,aei];rfl),?_];rw[if_neg (by simp)];exact hN _ _ #[_,Y,s1.trans (aw hl)]
 rintro _ yR L H2 ⟨e1,rfl,s2⟩;subst yR;refine aD (zw H c b w gl 0) (λN hN=>?_) ?_
 .rfl';refine aB (au.of (s2 _ _ hb)) (v:=.int t) Y #[by lia,by lia,lg (zw H c b w gl) #[_,Y,s2] ?_ (λL H3 ⟨e1,h1,h2⟩=>hN _ _ #[e1,h1,h2])];rintro i L H3 hi ⟨e1,rfl,s3⟩;rfl';have NP:=au.of (K:=K) (s3 _ _ hb);have NQ:=ah.of (K:=K) (s3 _ _ hc);have bi:i+1<cs.length:=by lia
  have hs:=de i bi;unfold iG at hs;refine aB NP (v:=.int d) Y ?_;rfl';refine aU NQ (int_at (by lia) (by lia)) (aU NQ (int_at (by lia) (by lia)) ?_);rw[show ((0:Int)+(i:Int)+1).toNat=i+1 by lia,show ((0:Int)+(i:Int)).toNat=i by lia];rfl';refine bo (λ_=>?_) λz=>absurd (by lia) z;refine aB NP (v:=.int u) Y ?_;rfl';exact bo (λ_=>#[_,Y,s3]) λz=>absurd (by lia) z
 rintro _ yR L H3 ⟨e1,rfl,s3⟩;subst yR;refine aD (λL H4=>∃ d1,L=[O (.ref c),O (.ref b),O (.ref w),O (.ref gl),e1,O (.ref d1),J]/\aj H H4/\H d1=J/\H4 d1=O (.dK [])) (λN hN=>?_) ?_
 .rfl';exact λd1 hd=>hN _ _ #[d1,Y,s3.trans (aw hd),s3.free hd,ao]
 rintro _ yR L H4 ⟨d1,rfl,s4,fd,zy⟩;subst yR;obtain⟨kvs,hk,hA⟩:=id hT;refine aD (λL H5=>∃ e2 zs,L=[O (.ref c),O (.ref b),O (.ref w),O (.ref gl),e1,O (.ref d1),e2]/\aj H H5/\H5 d1=O (.dK (qh zs))/\zs.Nodup/\∀ i,i∈zs↔og tb cs i) (λN hN=>?_) ?_
 .rfl';refine#[kvs,s4 _ _ hk,λl ys hl mx=>#[#[_,ah.of ao],?_]];have u1:=aw (o:=.lst ys) hl;have A1:bJ H4 kvs tb:=hA.imp λ_ _ _ z=>z.same s4;have PT:=A1.xK mx;have kl:=PT.len;rw[acN] at kl;have dl:d1≠l:=λz=>by rw[z,hl] at zy;cases zy
  have nd:∀ (z:ac4) (o:HO),H z=O o->z∉[d1]:=λz o hz=>by simpa using λy=>by rw[y,fd] at hz;cases hz
  refine j8 (xs:=ys) (aav (upd H4 l (.lst ys)) [O (.ref c),O (.ref b),O (.ref w),O (.ref gl),e1,O (.ref d1),J] d1 tb cs) #[_,[],Y,λ_ _ _ z=>z,u1 _ _ zy,.nil,acS _,λj=>by simp[og]] (λi L H6 _ ⟨_,_,_,bu,_,_,_,_⟩=>ah.of (bu _ _ (by simpa using adR dl) ao)) ?_ ?_
  .rintro i v L H6 hv ⟨e3,zs,rfl,bu,zA,hzd,hzl,hz⟩;obtain⟨r1,bU,ka,rfl,hka⟩:=PT.get hv;rw[ac1] at bU;obtain⟨r,hr,rfl⟩:=ady.mp bU;have mC:=ads hr;have up:∀ (z:ac4) (o:HO),H z=O o->H6 z=O o:=λz o hz=>bu z o (nd z o hz) (u1 _ _ (s4 _ _ hz));have FP:=bu ka _ (by simpa using λy=>by rw[y,zy] at hka;cases hka) (u1 _ _ hka);obtain⟨vv,hvv,va,rfl,hva⟩:=(hA.val r.1).2 _ (xM eB mC);have bs:=aat (cs:=cs) hr;have mD:=aW r mC;have hi:=(acX.mp hr).1;rfl';refine#[.ref va,by rw[<- hvv];exact fT.t (k:=eo r.1.1 r.1.2) (up _ _ hk) FP,?_];have cj:=int_at (cs:=cs) (t:=r.1.2) mD.1 (by lia);refine aB (au.of FP) (v:=.int r.1.2) Y (aU (ah.of (up _ _ hc)) cj #[va,r.2.1,r.2.2,_,Y,au.of (up _ _ hva),?_]);cases zB:hs r.2 (iG cs r.1.2.toNat) with
   | true =>
    rw[show hold r.2.1 r.2.2 (cs.getD r.1.2.toNat 0)=true from zB];rfl';exact#[_,zs,Y,bu,zA,hzd,by lia,λj=>by rw[bs,hz];exact#[λz=>.inl z,λz=>z.elim id λz=>absurd (zB.symm.trans z.2) (by decide)]]
   | false =>
    rw[show hold r.2.1 r.2.2 (cs.getD r.1.2.toNat 0)=false from zB];rfl';refine aB (au.of FP) (v:=.int r.1.1) Y #[_,lD.k (k:=.inl r.1.1) zA (adS (by unfold qh;rw[acN];lia:_<=60) (by decide)),_,if r.1.1∈zs then zs else zs++[r.1.1],Y,λz o hz ez=>by rw[aJ (by simpa using hz)];exact bu z o hz ez,by rw[ao,aas],?_,?_,λj=>?_]
    .split
     .exact hzd
     .rename_i FQ;exact aie.mpr #[hzd,by simp,λx hx y hy z=>FQ (by rw[<- ada.mp hy,<- z];exact hx)]
    .split
     .lia
     .rw[ac7,adb];lia
    .rw[bs,<- hz];split
     .rename_i FQ;exact#[λz=>.inl z,λz=>z.elim id λz=>z.1 ▸ FQ]
     .rw[adf,ada];exact#[λz=>z.imp id λz=>#[z.symm,zB],λz=>z.imp id λz=>z.1.symm]
  .rintro L H6 ⟨e3,zs,rfl,bu,zA,hzd,hzl,hz⟩;rw[kl,aeP] at hz;exact hN _ _ #[_,zs,Y,λz o hz=>bu z o (nd z o hz) (u1 _ _ (s4 _ _ hz)),zA,hzd,hz]
 rintro _ yR L H5 ⟨e2,FR,rfl,s5,hd5,hzd,v8⟩;subst yR;refine aD (λL H6=>L=[O (.ref c),O (.ref b),O (.ref w),O (.ref gl),e1,O (.ref d1),e2]/\H6=H5) (λN hN=>?_) ?_
 .rfl';refine#[_,hd5,aB (au.of (s5 _ _ hb)) (v:=.int m) Y ?_];rw[show (qh FR).length=FR.length from acN _];rfl';exact bo (λz=>absurd (nj FR hzd v8) (by lia)) λ_=>hN _ _ #[Y,Y]
 rintro _ yR L H6 ⟨rfl,rfl⟩;subst yR;rfl';refine aB (au.of (s5 _ _ hb)) (v:=.int t) Y #[t,Y,by lia,by lia,?_];refine cM mT (by rw[acN,adj];exact acR (by lia:_<=12) (by decide)) (iB (R:=λ_ x (k:Nat)=>x=V.int ((0:Int)+k)) (R':=λ_ v (b:Bool)=>v=V.bl b) (f:=λ_=>true) (λ_ _ _ _ _ h=>h) (λ_ _ _ _ _ h=>h) (ax.iM _) (bs:=[]) trivial (λ_ _=>trivial) (λx k _ H2 s2 r Q h=>?_) (λx k Fe H2 s2 r Q h=>?_) λH2 zs s2 ff=>?_)
 .rfl';exact h
 .subst r;have ie:=aeg.mp Fe;have S6:=s5.trans s2;have kg:k<gs.length:=by lia
  have NR:=acP kg;obtain⟨v,hv,pz,rfl,hp⟩:=hG.at NR;have cj:=int_at (cs:=cs) (t:=(k:Int)) (by lia) (by lia);have ho:=hgo k _ NR;rfl';rw[af2];refine aU (ah.of (S6 _ _ hg)) (cZ hv) (aU (ah.of (S6 _ _ hc)) cj #[pz,_,_,_,Y,au.of (S6 _ _ hp),?_]);rw[adL];exact h _ _ (aj.refl _) (congrArg V.bl ho)
 .intro l hl;have ez:=ax.Mp ff;subst ez;refine#[l,Y,_,ah.of ao,?_];have e9:((adu t.toNat).map λ(_:Nat)=>true).all id=true:=by simp
  rw[adl,e9];exact q _ (s5.trans (s2.trans (aw hl)))
theorem aax:(dz u d ps n).length=n:=by unfold dz;rw[acN,adj]
theorem FT:(fG ps n).length=n:=by unfold fG;rw[acN,adj]
theorem aay{G H:Hp}{v:V}{sw gw:List W2}{tb:Tb}{m:Int}(hl:gw.length=sw.length+1)(ht:∀ r∈tb,r.1.2.toNat<gw.length)(A:zr G H v sw gw tb m):∃ r,v = .ref r/\((∃ z,H r=O (.tup [.str "never",z])/\∀ L9q c,¬ pH sw gw tb m L9q c) ∨ ∃ k cs L9q,H r=O (.tup [.str "may",.ref k])/\H k=O (.lst (cs.map V.int))/\G k=J/\cs.length=gw.length/\pH sw gw tb m L9q (bT cs)):=by
 rcases A with ⟨r,k,j,rfl,h1,h2,h3⟩|⟨r,k,j,rfl,h1,h2,h3⟩|⟨r,k,p,pp,gs,rfl,h1,h2,h3,e1,e2,h4⟩|⟨r,k,cs,pp,gs,es,rfl,h1,h2,h3,h4,e1,e2,h5,h6,h7,h8⟩
 .exact#[r,Y,.inl #[_,h1,λL9q c z=>by obtain⟨s,e,y⟩:=z.2.1 j J h3;cases e]]
 .exact#[r,Y,.inl #[_,h1,λL9q c z=>by obtain⟨s,e,y⟩:=z.2.2.1 j J h3;cases e]]
 .refine#[r,Y,.inl #[_,h1,λL9q c z=>?_]];subst e1 e2;rw[acN] at hl ht;rw[acN] at hl;exact absurd h4 (Lr z.1 (um.mp z.2.1) (Cz.mp z.2.2.1) (by lia) (pI.mpr z.2.2.2) (λr hr=>by have:=ht r hr;lia) p [] .nil (λx hx=>by cases hx))
 .subst e1 e2;exact#[r,Y,.inr #[k,cs,es,h1,h2,h3,h4,h7,um.mpr h5,Cz.mpr h6,pI.mp h8]]
theorem aaz{u d t m:Int}{ps:List Pa}{tb:Tb}{gw:List W2}{L9q cs:List Int}(hl:cs.length=t.toNat)(F:pH (dz u d ps (t-1).toNat) gw tb m L9q (bT cs))(k:Nat)(hk:k+1<cs.length) : -d<=iG cs (k+1)-iG cs k/\iG cs (k+1)-iG cs k<=u:=by have h:=F.2.1 k (dE (J,J) ((O (-d),O u)::sel ps "step" (k:Int))) (by unfold dz;rw[ac1,adM (by lia)];rfl);have:=JP.mp h _ (.head _);exact#[this.1 _ Y,this.2 _ Y]
theorem aaA{m:Int}{tb:Tb}{sw gw:List W2}{L9q cs:List Int}(F:pH sw gw tb m L9q (bT cs))(zs:List Int)(hn:zs.Nodup)(hz:∀ i,i∈zs↔og tb cs i):(zs.length:Int)<=m:=by
 have:=yd (ys:=L9q) hn λi hi=>by obtain⟨r,hr,rfl,hb⟩:=(hz i).mp hi;refine agj λhc=>?_;have:=Bz.mp (F.2.2.2 r hr hc);unfold Gz.hs at hb;exact absurd (this.symm.trans hb) (by decide)
 have:=F.1;lia
noncomputable def dG(o:Option (Nat × S2)):List Pa:=match o with|none=>[]|some (k,s)=>[("at",(k:Int),s)]
noncomputable def kP(n:Nat)(o:Option (Nat × S2)):List S2:=match o with|none=>acY n (J,J)|some (k,s)=>(acY n (J,J)).set k s
theorem aaB(o:Option (Nat × S2))(j:Int):sel (dG o) "step" j=[]:=by
 cases o with
 | none=>rfl
 | some p=>rfl
theorem NS(hu:0<=u)(hd:0<=d)(o:Option (Nat × S2))(n:Nat):dz u d (dG o) n=(acY n (-d,u)).map jB:=by
 unfold dz;refine aeT λj=>?_;rw[ac1,ac1,adY];by_cases hj:j<n
 .rw[adM hj,if_pos hj];show O (dE (J,J) ((O (-d),O u)::sel (dG o) "step" (j:Int)))=O (O (O (-d),O u));rw[aaB];unfold dE;rw[if_neg (by show ¬ decide (u < -d)=true;simp;lia)];rfl
 .rw[adI (by rw[adj];lia),if_neg hj];rfl
theorem FU(o:Option (Nat × S2))(hc:∀ k s,o=O (k,s)->aY s.1 s.2=false/\k<n):fG (dG o) n=(kP n o).map O:=by
 unfold fG;refine aeT λj=>?_;rw[ac1,ac1];by_cases hj:j<n
 .rw[adM hj];cases o with
  | none =>
   show O (dE (J,J) (sel [] "at" (j:Int)))=alI O (acY n _)[j]?;rw[adY,if_pos hj];rfl
  | some p =>
   obtain⟨k,s⟩:=p;obtain⟨h1,h2⟩:=hc k s rfl;show O (dE (J,J) (sel [("at",(k:Int),s)] "at" (j:Int)))=alI O ((acY n _).set k s)[j]?;by_cases e:k=j
   .subst e;rw[afl (by rw[adA];exact hj),show sel [("at",(k:Int),s)] "at" (k:Int)=[s] by unfold sel;rw[List.filter_cons_of_pos (by simp[tK])];rfl];have e2:cw (J,J) [s]=s:=by obtain⟨a,b⟩:=s;cases a<;>cases b<;>rfl
    unfold dE;rw[e2,if_neg (by rw[h1];decide)];rfl
   .rw[agb e,adY,if_pos hj,show sel [("at",(k:Int),s)] "at" (j:Int)=[] by unfold sel;rw[List.filter_cons_of_neg (by simp[tK];lia)];rfl];rfl
 .rw[adI (by rw[adj];lia),adI]
  .rfl
  .cases o with
   | none=>show (acY n _).length<=j;rw[adA];lia
   | some p=>show ((acY n _).set _ _).length<=j;rw[ahn,adA];lia
theorem map_inj{α β:Type}{f:α->β}(h:∀ a b,f a=f b->a=b):∀ {xs ys:List α},xs.map f=ys.map f->xs=ys
 | [],[],_=>rfl
 | [],_::_,e=>nomatch e
 | _::_,[],e=>nomatch e
 | x::xs,y::ys,e=>by obtain⟨e1,e2⟩:=List.cons.inj e;rw[h _ _ e1,map_inj h e2]
theorem aaC(hu:0<=u)(hd:0<=d)(hc:∀ k s,o=O (k,s)->aY s.1 s.2=false/\k<t)(A:zr G H v (dz u d (dG o) n) (fG (dG o) t) tb m)(cS:∀ L9q c,¬ pH (dz u d (dG o) n) (fG (dG o) t) tb m L9q c):∃ r k p,v = .ref r/\H r=O (.tup [.str "never",k])/\jP H k p/\bR p<10/\Val (acY n (-d,u)) (kP t o) tb m p []:=by
 rw[NS hu hd,FU o hc] at A cS;rcases A with ⟨r,k,j,rfl,h1,h2,h3⟩|⟨r,k,j,rfl,h1,h2,h3⟩|⟨r,k,p,pp,gs,rfl,h1,h2,h3,e1,e2,h4⟩|⟨r,k,cs,pp,gs,es,rfl,h1,h2,h3,h4,e1,e2,h5,h6,h7,h8⟩
 .rw[ac1] at h3;obtain⟨x,y,e⟩:=ady.mp h3;cases e
 .rw[ac1] at h3;obtain⟨x,y,e⟩:=ady.mp h3;cases e
 .obtain rfl:=map_inj (λa b z=>by cases a;cases b;cases z;rfl) e1;obtain rfl:=map_inj (λa b z=>Option.some.inj z) e2;exact#[r,k,p,Y,h1,h2,by lia,h4]
 .rw[e1,e2] at cS;exact absurd #[h7,um.mpr h5,Cz.mpr h6,pI.mp h8] (cS es (bT cs))
theorem FV{e t u d m:Int}{tb:Tb}{o:Option (Nat × S2)}{k:Nat}(he:1<=e)(uf:m<=e)(hu:0<=u)(hd:0<=d)(bc:bV e t tb)(hk:(k:Int)<t)(hc:∀ k' s,o=O (k',s)->aY s.1 s.2=false/\k'=k):(∃ L9q c,pH (dz u d (dG o) (t-1).toNat) (fG (dG o) t.toNat) tb m L9q c) ↔ ∃ n,(∀ k' s,o=O (k',s)->bC s n)/\hJ e t u d m tb k n:=by
 rw[NS hu hd,FU o λk' s z=>#[(hc k' s z).1,by have:=(hc k' s z).2;lia]];constructor
 .rintro ⟨L9q,c,F⟩;refine#[c k,λk' s z=>?_,WK he uf bc (um.mp F.2.1) F.1 (pI.mpr F.2.2.2) k];obtain⟨y,rfl⟩:=hc k' s z;subst z;obtain⟨s',e,h⟩:=F.2.2.1 k' (O s) (by rw[ac1];show alI O ((acY _ _).set k' s)[k']?=_;rw[afl (by rw[adA];lia)];rfl);cases e;exact h
 .rintro ⟨n,hn,L9q,hL,hl,c,AE,hm,rfl⟩;refine#[L9q,c,by lia,um.mpr AE,λj w hw=>?_,pI.mp hm];rw[ac1] at hw;obtain⟨s,fU,rfl⟩:=ady.mp hw;refine#[s,Y,?_];cases o with
  | none =>
   rw[show kP t.toNat J=acY t.toNat (J,J) from Y,adY] at fU;split at fU
   .cases fU;exact#[λy z=>(nomatch z),λy z=>(nomatch z)]
   .cases fU
  | some p =>
   obtain⟨k',s'⟩:=p;obtain⟨y,rfl⟩:=hc k' s' rfl;rw[show kP t.toNat (O (k',s'))=(acY t.toNat (J,J)).set k' s' from Y] at fU;by_cases e:k'=j
   .subst e;rw[afl (by rw[adA];lia)] at fU;cases fU;exact hn k' _ rfl
   .rw[agb e,adY] at fU;split at fU
    .cases fU;exact#[λy z=>(nomatch z),λy z=>(nomatch z)]
    .cases fU
theorem NT(n:Nat)(o:Option (Nat × S2)):(kP n o).length=n:=by
 cases o with
 | none=>exact adA
 | some p=>show ((acY n _).set _ _).length=n;rw[ahn,adA]
theorem aaD(T:aH):aR 13 T.jL (NL 10):=aar T 10
inductive aaE(B:ac4)(vs:List V)(H:Hp)(Q:VK)(aT:XK):Prop
 | mk(x p b w cl:ac4)(e t u d m:Int)(tb:Tb)(xs:List V)(o:Option (Nat × S2))(jQ:Bool)(_:vs=[.ref x,.ref b,.ref w,.ref cl,.bl jQ])(_:br B H x e t u d m p tb)(_:H b=O (.tup [.int e,.int t,.int u,.int d,.int m]))(_:Sz e t u d m)(_:TabAt H w tb)(_:bV e t tb)(_:tb.length<=60)(_:H cl=O (.lst xs))(_:lE H xs (dG o))(_:(∀ k s,o=O (k,s)->aY s.1 s.2=false/\(k:Int)<t))(_:(jQ=true ↔ ∃ L9q c,pH (dz u d (dG o) (t-1).toNat) (fG (dG o) t.toNat) tb m L9q c))(_:∀ H',aj H H'->Q (.bl true) H')
inductive NU(H:Hp)(x b w cl g:ac4)(jQ:Bool)(t:Nat)(o:Option (Nat × S2))(i:Nat)(L:St)(H1:Hp):Prop
 | mk(e1:Option V)(zs:List V)(_:L=[O (.ref x),O (.ref b),O (.ref w),O (.ref cl),O (.bl jQ),O (.ref g),e1,J])(_:aj H H1)(_:H1 g=O (.lst zs))(_:ax (λv s=>aO H1 v s.1 s.2) zs (kP t (if i=0 then J else o)))
theorem NV(h:H q=O (.tup [.non,.non])):∀ n,ax (λv s=>aO H v s.1 s.2) (acY n (V.ref q)) (kP n J)
 | 0=>trivial
 | n+1=>#[#[q,Y,h],NV h n]
theorem ax.set:∀ {xs:List V} {ys:List β} {k:Nat} {x:V} {y:β},ax R xs ys->R x y->ax R (xs.set k x) (ys.set k y)
 | [],[],_,_,_,_,_=>trivial
 | [],_::_,_,_,_,h,_=>h.elim
 | _::_,[],_,_,_,h,_=>h.elim
 | _::_,_::_,0,_,_,h,r=>#[r,h.2]
 | _::_,_::_,k+1,_,_,h,r=>#[h.1,ax.set h.2 r]
theorem FW(T:aH):aR 21 T.vF (aaE T.aN):=by
 refine ba rO ?_;rintro f A f s H vs f f hr ⟨x,p,b,w,cl,e,t,u,d,m,tb,xs,o,jQ,rfl,hB,hb,sz,hT,bc,mE,bj,hP,hc,hdue,q⟩;refine#[_,(aq (aP 5 rO.nd (az Hr (cK (ae (bf (ae bE (ae bE af))) af)) (ay (aa 1) ag))) (aq (cU adE Y (cT (aa 3)) (cp 6 rO.nd) (ak (sC (ay (aa 6) ag) (sA (aa 5) (ay (aa 6) ag) set_list)))) (aq (aP 7 rO.nd (aG (aan T) hr (ae (aa 0) (ae (aa 3) af)))) (aq (aE (PW.pt (dj (cu (cf (bA lb (by rfl) T.mi k9 (ae (aa 7) (ae (kX (v:=.ty "tuple") Y T.ES Ao Y) af))))) (fi (gD (bA dk (by rfl) T.di dh (ae (aa 7) af)) ag)))) (ak (aA bO)) aI) (aq (aE (cf (aa 4)) (ak (aA (iK (fN mI (ay (aa 7) ag) aK (dW _)) (gf (aG (aaw T) hr (ae (ay (aa 7) ag) (ae (aa 1) (ae (aa 2) (ae (aa 5) af))))))))) aI) (ak (aA (iK (fN mI (ay (aa 7) ag) aK (dW _)) (gf (aG (aaD T) hr (ae (ay (aa 7) ag) (ae (aa 1) (ae (aa 2) (ae (aa 5) (ae (cK af) af))))))))))))))),?_];obtain⟨he,ht,hu,hd,hm⟩:=id sz;refine aD (λL H1=>∃ g,NU H x b w cl g jQ t.toNat o 0 L H1/\H g=J) (λN hN=>?_) ?_
 .rfl';refine#[bg,λp1 h1=>#[by decide,λp2 h2=>?_]];have u1:=aw (o:=.tup [.non,.non]) h1;have u2:=aw (o:=.lst [.ref p1]) h2;refine aB (au.of ((u1.trans u2) _ _ hb)) (v:=.int t) Y #[p2,t,[.ref p1],Y,Y,ao,by lia,by lia,acR (by show 1 * t.toNat<=3;lia) (by decide),λp3 h3=>?_];have u3:=aw (o:=.lst (acY t.toNat [V.ref p1]).flatten) h3;have ef:(acY t.toNat [V.ref p1]).flatten=acY t.toNat (V.ref p1):=by
   generalize t.toNat=n
   induction n with
   | zero=>rfl
   | succ n ih=>rw[aez,afB,ih];rfl
  rw[ef] at u3 ⊢;refine hN _ _ #[p3,#[J,_,Y,u1.trans (u2.trans u3),ao,?_],(u1.trans u2).free h3];rw[if_pos Y];exact NV ((u2.trans u3) _ _ ao) _
 rintro f yR L H1 ⟨g,hI,fg⟩;subst yR;refine aD (λL H2=>∃ (e1:Option V) (zs:List V),L=[O (.ref x),O (.ref b),O (.ref w),O (.ref cl),O (.bl jQ),O (.ref g),e1,J]/\aj H H2/\H2 g=O (.lst zs)/\ax (λv s=>aO H2 v s.1 s.2) zs (kP t.toNat o)) (λN hN=>?_) ?_
 .obtain⟨e1,zs,rfl,s1,hg,hz⟩:=id hI;have pl:=hP.len;rfl';have nc:cl≠g:=λz=>by rw[z,fg] at bj;cases bj
  refine#[#[_,ah.of (s1 _ _ bj)],j8 (xs:=xs) (NU H x b w cl g jQ t.toNat o) #[e1,zs,Y,s1,hg,hz] (λi L H2 _ ⟨_,_,_,s2,_,_⟩=>ah.of (s2 _ _ bj)) ?_ ?_]
  .rintro i v L H2 hv ⟨e2,ic,rfl,s2,nk,ff⟩;obtain⟨pa,mn,tp,sp,rfl,h1,h2⟩:=hP.get hv;cases o with
   | none=>exact absurd mn (by simp[dG])
   | some ks =>
    obtain⟨k,s⟩:=ks;obtain⟨cr,kt⟩:=hc k s rfl;have i0:i=0:=by have:=(acX.mp mn).1;have:i<1:=this;lia
    subst i0;cases mn;have zl:=ff.len;rw[NT] at zl;rfl';refine aB (au.of (s2 _ _ h1)) (v:=.ref sp) Y (aB (au.of (s2 _ _ h1)) (v:=.int k) Y ?_);refine#[ic,(k:Int),Y,nk,k,by unfold iy;rw[if_pos (by lia),if_pos (by lia)];rfl,_,_,Y,j9 fg s2,ao,?_];rw[if_neg (by lia)];rw[if_pos Y] at ff;have sg:∀ (z:ac4) (vs:List V),H2 z=O (.tup vs)->upd H2 g (.lst (ic.set k (.ref sp))) z=O (.tup vs):=λz vs hz=>by rw[aJ (λy=>by rw[y,nk] at hz;cases hz)];exact hz
    refine ax.set (ys:=kP t.toNat J) (ff.imp λv s r=>?_) #[sp,Y,sg _ _ (s2 _ _ h2)];obtain⟨pz,e,h⟩:=r;exact#[pz,e,sg _ _ h]
  .rintro L H2 ⟨e2,ic,rfl,s2,nk,ff⟩;refine hN _ _ #[e2,ic,Y,s2,nk,?_];by_cases x0:xs.length=0
   .rw[if_pos x0] at ff;cases o with
    | none=>exact ff
    | some ks=>rw[pl] at x0;cases x0
   .rw[if_neg x0] at ff;exact ff
 rintro f yR L H2 ⟨e1,zs,rfl,s2,hg,hz⟩;subst yR;clear hI;have hk:jx t (dG o):=λpa mn=>by
  cases o with
  | none=>exact absurd mn (by simp[dG])
  | some ks =>
   rw[ada.mp mn];exact (TM (show (ac0 "at")≠ac0 "step" by decide)).mpr #[Y,by show (0:Int)<=(ks.1:Int);lia,(hc ks.1 ks.2 Y).2]
 have pc:(dG o).length<=900:=by cases o<;>simp[dG]
 refine aD (λL H3=>∃ v,L=[O (.ref x),O (.ref b),O (.ref w),O (.ref cl),O (.bl jQ),O (.ref g),e1,O v]/\aj H2 H3/\zr H2 H3 v (dz u d (dG o) (t-1).toNat) (fG (dG o) t.toNat) tb m) (λN hN=>?_) ?_
 .rfl';exact#[x,p,cl,e,t,u,d,m,xs,_,tb,Y,hB.same s2,bc,mE,by lia,by lia,by lia,by lia,by lia,by lia,ah.of (s2 _ _ bj),hP.imp λf f r=>r.same s2,pc,λz=>absurd hk z,λf v H3 s3 A=>hN _ _ #[v,Y,s3,A]]
 rintro f yR L H3 ⟨v,rfl,s3,A⟩;subst yR;have S3:=s2.trans s3;have hR:Rk H3 b w g e t u d m (kP t.toNat o) tb:=#[zs,S3 _ _ hb,sz,hT.same S3,bc.1,λr hr=>(bc.2 r hr).2,s3 _ _ hg,hz.imp λf f r=>r.same s3,NT _ _]
 have two:∃ r a c,v = .ref r/\H3 r=O (.tup [a,c]):=by
  rcases A with ⟨r,k,j,rfl,h1,h2,h3⟩|⟨r,k,j,rfl,h1,h2,h3⟩|⟨r,k,p,pp,gs,rfl,h1,h2,h3,e1,e2,h4⟩|⟨r,k,cs,pp,gs,es,rfl,h1,h2,h3,h4,e1,e2,h5,h6,h7,h8⟩
  all_goals exact#[r,_,_,Y,h1]
 obtain⟨r,a1,c1,rfl,bG⟩:=two;refine aD (λL H4=>L=[O (.ref x),O (.ref b),O (.ref w),O (.ref cl),O (.bl jQ),O (.ref g),e1,O (.ref r)]/\H4=H3) (λN hN=>?_) ?_
 .rfl';refine Aq bG ?_;rfl';exact#[_,Ar (au.of bG),bo (λz=>absurd Y z) λf=>hN _ _ #[Y,Y]]
 rintro f yR L H4 ⟨rfl,rfl⟩;subst yR;clear bG;have gwl:(fG (dG o) t.toNat).length=(dz u d (dG o) (t-1).toNat).length+1:=by rw[aax,FT];lia
 cases jQ with
 | true =>
  refine aD (λf f=>False) (λN hN=>?_) (λf f f f h=>h.elim);obtain⟨L9q,c,F0⟩:=hdue.mp rfl;obtain⟨rr,er,⟨z,hrr,cS⟩|⟨c9,cs,L9q,hrr,hc9,f,zu,F⟩⟩:=aay gwl (λr hr=>by rw[FT];have:=(bc.2 r hr).2;lia) A
  .exact absurd F0 (cS L9q c)
  cases er;rw[FT] at zu;rfl';refine aB (au.of hrr) (v:=.str "may") Y #[Y,?_];rfl';refine aB (au.of hrr) (v:=.ref c9) Y #[c9,b,w,g,e,t,u,d,m,_,tb,cs,Y,hR,mE,hc9,zu,aaz zu F,aaA F,λk s mx=>?_,λH5 s5=>q _ (S3.trans s5)];have F2:=F.2.2.1;rw[FU o λk s z=>#[(hc k s z).1,by have:=(hc k s z).2;lia]] at F2;obtain⟨s',e9,h9⟩:=F2 k (O s) (by rw[ac1,mx];rfl);cases e9;exact Bz.mp h9
 | false =>
  refine aD (λL H5=>L=[O (.ref x),O (.ref b),O (.ref w),O (.ref cl),O (.bl false),O (.ref g),e1,O (.ref r)]/\H5=H4) (λN hN=>?_) ?_
  .rfl';exact hN _ _ #[Y,Y]
  rintro f yR L H5 ⟨rfl,rfl⟩;subst yR;obtain⟨rr,k,pp,er,hrr,hp,hh,hv⟩:=aaC (n:=(t-1).toNat) (t:=t.toNat) hu.1 hd.1 (λk s z=>#[(hc k s z).1,by have:=(hc k s z).2;lia]) A (λL9q c F=>absurd (hdue.mpr #[L9q,c,F]) (by decide));cases er;rfl';refine aB (au.of hrr) (v:=.str "never") Y #[Y,?_];rfl';refine aB (au.of hrr) (v:=k) Y #[by decide,λz hz=>?_];have u5:=aw (o:=.lst []) hz;exact#[k,b,w,g,z,e,t,u,d,m,_,tb,[],pp,Y,by decide,by decide,hR.same u5,ao,by decide,hp.same u5,hh,hv,λH6 s6=>q _ (S3.trans (u5.trans s6))]
theorem NW(x:acW):(agh x J (O 1) = "-")↔nB x=true:=by
 rw[show nB x=decide (x.cps.toList.head?=O 45) from Cu x 45,decide_eq_true_iff];constructor
 .intro h;have z:(agh x J (O 1)).cps.toList=x.cps.toList.take 1:=CB x 1;rw[h] at z;cases hx:x.cps.toList with
  | nil=>rw[hx] at z;exact absurd z (by decide)
  | cons d r =>
   rw[hx] at z;have:[45]=[d]:=z;rw[List.head?_cons,(List.cons.inj this).1]
 .intro h;apply rD;rw[show (O (1:Int))=O ((1:Nat):Int) from Y,CB];cases hx:x.cps.toList with
  | nil=>rw[hx] at h;cases h
  | cons d r =>
   rw[hx] at h;injection h with h;rw[h];rfl
theorem aaF(h:n.natAbs<10 ^ 60):cutD (aL n) ≠ "" /\ rB (cutD (aL n))=true/\(cutD (aL n)).length<=60:=by
 have:=LS h;unfold jC at this;by_cases e0:aL n = "0"
 .rw[e0];decide +kernel
 .rw[show (aL n == ("0" : acW))=false from beq_eq_false_iff_ne.mpr e0,ahf,ad2] at this;have hf:=this.1;unfold rC at hf;rw[ad2,ad2,decide_eq_true_eq,decide_eq_true_eq] at hf;exact#[λz=>by rw[z] at hf;exact absurd hf.1.1 (by decide),hf.2,hf.1.2]
inductive aaG(vs:List V)(H:Hp)(Q:VK)(aT:XK):Prop
 | mk(o:En)(jD:Int)(_:vs=[.str (aQ o),.int jD])(_:fe o)(_:∀ H',aj H H'->Q (.int (o.getD jD)) H')
theorem NX(T:aH):aR 1 T.vG aaG:=by
 refine ba ux ?_;rintro y y y y H y Q y y ⟨o,jD,rfl,ho,q⟩;refine#[_,(aq (aP 2 ux.nd (aa 0)) (aq (aE (bW (mP yh (aa 0) mM (mO ag)) aK) (ak (aP 2 ux.nd (mP yh (aa 0) (mO ag) mM))) aI) (aq (aE (PW.pt (jc (gD (aa 0) aK) (jU (PW.pt (dj (bW (aa 2) aK) (fi (cu (cf (bA (tm Y) (by rfl) T.vK sR (ae (dC (cO [] []) Y (LL (aa 2)) (λC s2 H2 ex pn=>#[dt,(fN zV (aa 0) aK (by with_unfolding_all rfl))])) af)))))))))) (ak (aA bE)) aI) (aq (aE (bW (aa 0) aK) (ak (aA (aa 1))) aI) (ak (aA (gp LI (by rfl) T.EO An (ae (aa 0) af)))))))),?_];refine aD (λL H1=>L=[O (.str (aQ o)),O (.int jD),O (.str (aQ o))]/\H=H1) (λN hN=>?_) ?_
 .rfl';exact hN _ _ #[Y,Y]
 rintro y yR L y ⟨rfl,rfl⟩;subst yR;have hx:=mv ho;refine aD (λL H1=>L=[O (.str (aQ o)),O (.int jD),O (.str (cutD (aQ o)))]/\H=H1) (λN hN=>?_) ?_
 .rfl';refine#[_,Y,acR hx (by decide),?_];show if _ then _ else _
  refine bo (λh=>?_) λh=>?_
  .rfl';refine#[_,Y,acR hx (by decide),?_];have e:agh (aQ o) (O 1) J=cutD (aQ o):=by unfold cutD;rw[if_pos ((NW _).mp h)]
   rw[e];exact hN _ _ #[Y,Y]
  .rfl';have e:cutD (aQ o)=aQ o:=by unfold cutD;rw[if_neg λz=>h ((NW _).mpr z)]
   rw[e] at hN;exact hN _ _ #[Y,Y]
 rintro y yR L y ⟨rfl,rfl⟩;subst yR;cases o with
 | none =>
  refine aD (λL H1=>L=[O (.str (aQ J)),O (.int jD),O (.str (cutD (aQ J)))]/\H=H1) (λN hN=>?_) ?_
  .rfl';rw[if_neg λz=>z Y];exact hN _ _ #[Y,Y]
  rintro y yR L y ⟨rfl,rfl⟩;subst yR;rfl';rw[if_pos (show aQ J = "*" from Y)];exact q _ (aj.refl _)
 | some n =>
  obtain⟨f1,f2,f3⟩:=aaF ho;refine aD (λL H1=>L=[O (.str (aQ (O n))),O (.int jD),O (.str (cutD (aQ (O n))))]/\aj H H1) (λN hN=>?_) ?_
  .rfl';rw[if_pos (show aQ (O n) ≠ "*" from pW n),if_neg (show ¬ cutD (aQ (O n)) = "" from f1)];have hll:(cX (cutD (aQ (O n)))).length<=adh:=by rw[nA];exact acR (show (cutD (aQ (O n))).cps.size<=60 from f3) (by decide)
   refine#[_,Y,cM LM hll (lq (p:=λy=>true) (f:=E6) trivial (λy y Q h=>h) (λv hv y Q h=>?_) λl hn=>?_)]
   .unfold cX at hv;obtain⟨c,y,rfl⟩:=ac2.mp hv;rfl';exact#[_,Y,_,Y,h]
   .rw[adl,Mm];refine#[l,Y,_,ah.of ao,?_];rw[LP,show rB (cutD (aQ (O n)))=true from f2];rfl';exact hN _ _ #[Y,aw hn]
  rintro y yR L H1 ⟨rfl,s1⟩;subst yR;rfl';rw[if_neg (show ¬ aQ (O n) = "*" from pW n)];exact#[_,Y,n,Cq ho,acR (gF ho) (by decide),q _ s1]
inductive qi(H:Hp)(v:V)(r:S2 × Bool):Prop
 | mk(t p:ac4)(_:v = .ref t)(_:H t=O (.tup [.ref p,.bl r.2]))(_:H p=O (.tup [ev r.1.1,ev r.1.2]))
theorem qi.same(h:qi H v r)(s:aj H H'):qi H' v r:=let ⟨t,p,e,a,b⟩:=h;#[t,p,e,s _ _ a,s _ _ b]
noncomputable def wj(lo:En):List (S2 × Bool):=match lo with|none=>[((J,O (-100000000000000000000000000000000000000000000000000000000)),true)]|some a=>[((J,O (a-1)),false),((O a,O a),true)]
noncomputable def FX(hi:En):List (S2 × Bool):=match hi with|none=>[((O 100000000000000000000000000000000000000000000000000000000,J),true)]|some a=>[((O (a+1),J),false),((O a,O a),true)]
theorem aaH{P:Int->Prop}{lo hi:En}(h:uo P lo hi):∀ r∈wj lo++FX hi,aY r.1.1 r.1.2=false/\(r.2=true ↔ ∃ n,bC r.1 n/\P n):=by
 have one:∀ a:Int,P a->aY (O a) (O a)=false/\(true=true ↔ ∃ n,bC (O a,O a) n/\P n):=λa ha=>#[decide_eq_false (by lia),λy=>#[a,CA.mpr Y,ha],λy=>rfl]
 intro r hr;rcases adf.mp hr with hr|hr
 .cases lo with
  | none =>
   rw[ada.mp hr];obtain⟨n,hn,hp⟩:=h.lon Y (-100000000000000000000000000000000000000000000000000000000);exact#[Y,λy=>#[n,#[λy z=>(nomatch z),λb z=>by cases z;exact hn],hp],λy=>rfl]
  | some a =>
   obtain⟨h1,h2⟩:=h.los a rfl;simp only[wj,acZ,adz,or_false] at hr;rcases hr with rfl|rfl
   .exact#[Y,λz=>(nomatch z),λ⟨n,hn,hp⟩=>by have:=hn.2 _ rfl;have:=h2 n hp;lia]
   .exact one a h1
 .cases hi with
  | none =>
   rw[ada.mp hr];obtain⟨n,hn,hp⟩:=h.dr Y 100000000000000000000000000000000000000000000000000000000;exact#[Y,λy=>#[n,#[λb z=>by cases z;exact hn,λy z=>(nomatch z)],hp],λy=>rfl]
  | some a =>
   obtain⟨h1,h2⟩:=h.his a rfl;simp only[FX,acZ,adz,or_false] at hr;rcases hr with rfl|rfl
   .exact#[Y,λz=>(nomatch z),λ⟨n,hn,hp⟩=>by have:=hn.1 _ rfl;have:=h2 n hp;lia]
   .exact one a h1
theorem aaI{P:Int->Prop}{lo hi:En}(h:uo P lo hi)(b1:B4 lo)(b2:B4 hi):lo.getD (-100000000000000000000000000000000000000000000000000000000)<=hi.getD 100000000000000000000000000000000000000000000000000000000:=by
 cases lo with
 | none=>cases hi with
  | none=>decide
  | some b=>have:=b2 b rfl;show -100000000000000000000000000000000000000000000000000000000<=b;lia
 | some a=>cases hi with
  | none=>have:=b1 a rfl;show a<=100000000000000000000000000000000000000000000000000000000;lia
  | some b=>exact (h.his b Y).2 a (h.los a Y).1
theorem NY(lo hi:En):agE (eN (O (lo,hi))) " " = [aQ lo,aQ hi]:=ye 32 (by decide) _ (λz=>nomatch z) λs hs=>by simp only[acZ,adz,or_false] at hs;rcases hs with rfl|rfl<;>exact MO _
theorem aaJ(lo hi:En):¬ eN (O (lo,hi)) = "none" := λz=>by
 have:=NY lo hi;rw[z] at this;have e:agE ("none" : acW) " " = [("none" : acW)]:=ye 32 (by decide) [("none" : acW)] (λz=>nomatch z) λs hs=>by rw[ada.mp hs];decide
 rw[e] at this;exact absurd (congrArg List.length this) (by show ¬ (1:Nat)=2;decide)
theorem aaK{ww:W2}{P:Int->Prop}(h:pY P ww):(eN ww).length<=200:=by
 cases ww with
 | none=>decide
 | some s =>
  obtain⟨lo,hi⟩:=s;have:=join_le (B:=61) (ws:=[aQ lo,aQ hi]) λs hs=>by
   simp only[acZ,adz,or_false] at hs;rcases hs with rfl|rfl
   .exact mv h.2.1.small
   .exact mv h.2.2.small
  exact acR this (show 2 * 62<=200 by decide)
inductive aaL(B:ac4)(vs:List V)(H:Hp)(Q:VK)(aT:XK):Prop
 | mk(x p b w:ac4)(e t u d m:Int)(tb:Tb)(k:Nat)(ww:W2)(_:vs=[.str (eN ww),.ref x,.ref b,.ref w,.int (k:Int)])(_:br B H x e t u d m p tb)(_:H b=O (.tup [.int e,.int t,.int u,.int d,.int m]))(_:Sz e t u d m)(_:TabAt H w tb)(_:bV e t tb)(_:tb.length<=60)(_:(k:Int)<t)(_:pY (hJ e t u d m tb k) ww)(_:∀ H',aj H H'->Q (.bl true) H')
def aaM(H:Hp)(σ0:St)(_:Nat)(L:St)(H1:Hp):Prop:=(∃ e1 e2,L=(σ0.set 9 e1).set 10 e2)/\aj H H1
theorem NZ(T:aH):aR 22 T.vH (aaL T.aN):=by
 refine ba jF ?_;rintro y y y s H vs y y hr ⟨x,p,b,w,e,t,u,d,m,tb,k,ww,rfl,hB,hb,sz,hT,bc,mE,ie,hS,q⟩;refine#[_,(aq (aE (PW.pt (dj (cu (cf (bA lb (by rfl) T.mi k9 (ae (aa 0) (ae (kX (v:=.ty "str") Y T.ia gQ Y) af))))) (fi (nz (bA dk (by rfl) T.di dh (ae (aa 0) af)) ag)))) (ak (aA bO)) aI) (aq (aE (bW (aa 0) aK) (ak (aA (aG (FW T) hr (ae (aa 1) (ae (aa 2) (ae (aa 3) (ae (cK af) (ae bO af)))))))) aI) (aq (aP 5 jF.nd (dJ adU agH agI Co (aa 0) (ae aK af))) (aq (aE (gD (bA dk (by rfl) T.di dh (ae (aa 5) af)) ag) (ak (aA bO)) aI) (aq (aP 6 jF.nd (aG (NX T) hr (ae (ay (aa 5) ag) (ae (eO fb (az jX ag ag)) af)))) (aq (aP 7 jF.nd (aG (NX T) hr (ae (ay (aa 5) ag) (ae (az jX ag ag) af)))) (aq (aE (PW.pt (dj (c8 (aa 6)) (dj (c8 (aa 7)) (fi (nz (aa 6) (aa 7)))))) (ak (aA bO)) aI) (aq (aP 8 jF.nd (cK (ae (bf (ae (bf (ae bE (ae (aa 6) af))) (ae (fN mI (ay (aa 5) ag) aK (dW _)) af))) (ae (bf (ae (bf (ae (aa 7) (ae bE af))) (ae (fN mI (ay (aa 5) ag) aK (dW _)) af))) af)))) (aq (aE (gD (ay (aa 5) ag) aK) (ak (aP 8 jF.nd (cK (ae (bf (ae (bf (ae bE (ae (az dR (aa 6) ag) af))) (ae bO af))) (ae (bf (ae (bf (ae (aa 6) (ae (aa 6) af))) (ae bO af))) (ae (ay (aa 8) ag) af)))))) aI) (aq (aE (gD (ay (aa 5) ag) aK) (ak (aP 8 jF.nd (az mR (mP wQ (aa 8) mM (mO (eO fb ag))) (cK (ae (bf (ae (bf (ae (az bD (aa 7) ag) (ae bE af))) (ae bO af))) (ae (bf (ae (bf (ae (aa 7) (ae (aa 7) af))) (ae bO af))) af)))))) aI) (aq (cU adE Y (cT (aa 8)) (jf Y (da (cp 9 jF.nd) (da (cp 10 jF.nd) jd))) (ak (aE (cu (cf (aG (FW T) hr (ae (aa 1) (ae (aa 2) (ae (aa 3) (ae (cK (ae (bf (ae aK (ae (aa 4) (ae (aa 9) af)))) af)) (ae (aa 10) af)))))))) (ak (aA bO)) aI))) (ak (aA bO))))))))))))),?_];obtain⟨he,ht,hu,hd,hm⟩:=id sz;have sl:=aaK hS;refine aD (λL H1=>L=[O (.str (eN ww)),O (.ref x),O (.ref b),O (.ref w),O (.int (k:Int)),J,J,J,J,J,J]/\H=H1) (λN hN=>?_) ?_
 .rfl';refine Fj ?_;rfl';refine#[_,#[acR sl (by decide),Y],?_];rw[if_neg (by lia)];exact hN _ _ #[Y,Y]
 rintro y yR L y ⟨rfl,rfl⟩;subst yR;cases ww with
 | none =>
  refine aD (λy y=>False) (λN hN=>?_) (λy y y y h=>h.elim);rfl';rw[if_pos (show eN J = "none" from Y)];refine#[by decide,λcl bj=>?_];have u1:=aw (o:=.lst []) bj;refine#[x,p,b,w,cl,e,t,u,d,m,tb,[],J,false,Y,hB.same u1,u1 _ _ hb,sz,hT.same u1,bc,mE,ao,trivial,λy y z=>(nomatch z),#[λz=>(nomatch z),λz=>?_],λH2 s2=>q _ (u1.trans s2)];obtain⟨n,y,hn⟩:=(FV (o:=J) he.1 (by lia) hu.1 hd.1 bc ie λy y z=>(nomatch z)).mp z;exact absurd hn (hS n)
 | some s =>
  obtain⟨lo,hi⟩:=s;obtain⟨S,b1,b2⟩:=id hS;refine aD (λL H1=>L=[O (.str (eN (O (lo,hi)))),O (.ref x),O (.ref b),O (.ref w),O (.int (k:Int)),J,J,J,J,J,J]/\H=H1) (λN hN=>?_) ?_
  .rfl';rw[if_neg (aaJ lo hi)];exact hN _ _ #[Y,Y]
  rintro y yR L y ⟨rfl,rfl⟩;subst yR;refine aD (λL H1=>∃ l,L=[O (.str (eN (O (lo,hi)))),O (.ref x),O (.ref b),O (.ref w),O (.int (k:Int)),O (.ref l),J,J,J,J,J]/\aj H H1/\H1 l=O (.lst [.str (aQ lo),.str (aQ hi)])) (λN hN=>?_) ?_
  .rfl';refine#[Y,_,Y,_,Y,by decide,acR (ajz sl 2) (by decide),λl hl=>?_];rw[NY];exact hN _ _ #[l,Y,aw hl,ao]
  rintro y yR L H1 ⟨l,rfl,s1,hl⟩;subst yR;refine aD (λL H2=>L=[O (.str (eN (O (lo,hi)))),O (.ref x),O (.ref b),O (.ref w),O (.int (k:Int)),O (.ref l),J,J,J,J,J]/\H1=H2) (λN hN=>?_) ?_
  .rfl';exact#[_,eQ (ah.of hl),bo (λz=>absurd Y z) λy=>hN _ _ #[Y,Y]]
  rintro y yR L y ⟨rfl,rfl⟩;subst yR;refine aD (λL H2=>L=[O (.str (eN (O (lo,hi)))),O (.ref x),O (.ref b),O (.ref w),O (.int (k:Int)),O (.ref l),O (.int (lo.getD (-100000000000000000000000000000000000000000000000000000000))),J,J,J,J]/\aj H1 H2) (λN hN=>?_) ?_
  .rfl';exact aU (ah.of hl) (v:=.str (aQ lo)) Y #[#[by decide,by decide,by decide],lo,_,Y,b1.small,λH2 s2=>hN _ _ #[Y,s2]]
  rintro y yR L H2 ⟨rfl,s2⟩;subst yR;refine aD (λL H3=>L=[O (.str (eN (O (lo,hi)))),O (.ref x),O (.ref b),O (.ref w),O (.int (k:Int)),O (.ref l),O (.int (lo.getD (-100000000000000000000000000000000000000000000000000000000))),O (.int (hi.getD 100000000000000000000000000000000000000000000000000000000)),J,J,J]/\aj H2 H3) (λN hN=>?_) ?_
  .rfl';exact aU (ah.of (s2 _ _ hl)) (v:=.str (aQ hi)) Y #[#[by decide,by decide,by decide],hi,_,Y,b2.small,λH2 s2=>hN _ _ #[Y,s2]]
  rintro y yR L H3 ⟨rfl,s3⟩;subst yR;refine aD (λL H4=>L=[O (.str (eN (O (lo,hi)))),O (.ref x),O (.ref b),O (.ref w),O (.int (k:Int)),O (.ref l),O (.int (lo.getD (-100000000000000000000000000000000000000000000000000000000))),O (.int (hi.getD 100000000000000000000000000000000000000000000000000000000)),J,J,J]/\H3=H4) (λN hN=>?_) ?_
  .rfl';rw[if_neg (by have:=aaI S b1 b2;lia)];exact hN _ _ #[Y,Y]
  rintro y yR L y ⟨rfl,rfl⟩;subst yR;have S3:=s1.trans (s2.trans s3);have cg:=(s2.trans s3) _ _ hl;have ed:∀ o:En,decide (V.str (aQ o)=V.str "*")=o.isNone:=λo=>by
   cases o with
   | none=>exact decide_eq_true rfl
   | some n=>exact decide_eq_false λz=>pW n (V.str.inj z)
  refine aD (λL H4=>∃ lw vs,L=[O (.str (eN (O (lo,hi)))),O (.ref x),O (.ref b),O (.ref w),O (.int (k:Int)),O (.ref l),O (.int (lo.getD (-100000000000000000000000000000000000000000000000000000000))),O (.int (hi.getD 100000000000000000000000000000000000000000000000000000000)),O (.ref lw),J,J]/\aj H3 H4/\H4 lw=O (.lst vs)/\ax (qi H4) vs [((J,O (lo.getD (-100000000000000000000000000000000000000000000000000000000))),lo.isNone),((O (hi.getD 100000000000000000000000000000000000000000000000000000000),J),hi.isNone)]) (λN hN=>?_) ?_
  .rfl';refine#[bg,λp1 h1=>?_];have u1:=aw (o:=.tup [.non,.int (lo.getD (-100000000000000000000000000000000000000000000000000000000))]) h1;refine aU (ah.of (u1 _ _ cg)) (v:=.str (aQ lo)) Y #[Y,bg,λp2 h2=>#[bg,λp3 h3=>?_]];rw[ed lo] at h3 ⊢;have u2:=aw (o:=.tup [.ref p1,.bl lo.isNone]) h2;have u3:=aw (o:=.tup [.int (hi.getD 100000000000000000000000000000000000000000000000000000000),.non]) h3;refine aU (ah.of ((u1.trans (u2.trans u3)) _ _ cg)) (v:=.str (aQ hi)) Y #[Y,bg,λp4 h4=>#[bg,λp5 h5=>?_]];rw[ed hi] at h5 ⊢;have u4:=aw (o:=.tup [.ref p3,.bl hi.isNone]) h4;have u5:=aw (o:=.lst [.ref p2,.ref p4]) h5;have U3:=u3.trans (u4.trans u5);have U2:=u2.trans U3;exact hN _ _ #[p5,_,Y,u1.trans U2,ao,#[p2,p1,Y,U3 _ _ ao,U2 _ _ ao],#[p4,p3,Y,u5 _ _ ao,(u4.trans u5) _ _ ao],trivial]
  rintro y yR L H4 ⟨lw,vs,rfl,s4,p8,hvs⟩;subst yR;refine aD (λL H5=>∃ lw vs,L=[O (.str (eN (O (lo,hi)))),O (.ref x),O (.ref b),O (.ref w),O (.int (k:Int)),O (.ref l),O (.int (lo.getD (-100000000000000000000000000000000000000000000000000000000))),O (.int (hi.getD 100000000000000000000000000000000000000000000000000000000)),O (.ref lw),J,J]/\aj H4 H5/\H5 lw=O (.lst vs)/\ax (qi H5) vs (wj lo++[((O (hi.getD 100000000000000000000000000000000000000000000000000000000),J),hi.isNone)])) (λN hN=>?_) ?_
  .rfl';refine aU (ah.of (s4 _ _ cg)) (v:=.str (aQ lo)) Y ?_;rfl';cases lo with
   | none =>
    rw[if_neg λz=>z Y];exact hN _ _ #[lw,vs,Y,aj.refl _,p8,hvs]
   | some a =>
    rw[if_pos (show aQ (O a) ≠ "*" from pW a)];rcases vs with y|⟨v1,y|⟨v2,y|⟨v3,vs⟩⟩⟩
    .exact hvs.elim
    .exact hvs.2.elim
    .refine#[bg,λp1 h1=>#[bg,λp2 h2=>#[bg,λp3 h3=>#[bg,λp4 h4=>?_]]]];have u1:=aw (o:=.tup [.non,.int (a-1)]) h1;have u2:=aw (o:=.tup [.ref p1,.bl false]) h2;have u3:=aw (o:=.tup [.int a,.int a]) h3;have u4:=aw (o:=.tup [.ref p3,.bl true]) h4;have U3:=u3.trans u4;have U2:=u2.trans U3;have U1:=u1.trans U2;refine aU (ah.of (U1 _ _ p8)) (v:=v2) Y #[by decide,λp5 h5=>?_];have u5:=aw (o:=.lst [.ref p2,.ref p4,v2]) h5;exact hN _ _ #[p5,_,Y,U1.trans u5,ao,#[p2,p1,Y,(U3.trans u5) _ _ ao,(U2.trans u5) _ _ ao],#[p4,p3,Y,u5 _ _ ao,(u4.trans u5) _ _ ao],hvs.2.1.same (U1.trans u5),trivial]
    .exact hvs.2.2.elim
  rintro y yR L H5 ⟨lw5,wk,rfl,s5,N0,jR⟩;subst yR;have pX:=(s4.trans s5) _ _ cg;refine aD (λL H6=>∃ lw vs,L=[O (.str (eN (O (lo,hi)))),O (.ref x),O (.ref b),O (.ref w),O (.int (k:Int)),O (.ref l),O (.int (lo.getD (-100000000000000000000000000000000000000000000000000000000))),O (.int (hi.getD 100000000000000000000000000000000000000000000000000000000)),O (.ref lw),J,J]/\aj H5 H6/\H6 lw=O (.lst vs)/\ax (qi H6) vs (wj lo++FX hi)) (λN hN=>?_) ?_
  .rfl';refine aU (ah.of pX) (v:=.str (aQ hi)) Y ?_;rfl';cases hi with
   | none =>
    rw[if_neg λz=>z Y];exact hN _ _ #[lw5,wk,Y,aj.refl _,N0,jR]
   | some a =>
    rw[if_pos (show aQ (O a) ≠ "*" from pW a)];have cut:∃ oh,j4 wk J (O (-1))=oh/\oh.length<=2/\ax (qi H5) oh (wj lo):=by
     cases lo with
     | none =>
      rcases wk with y|⟨v1,y|⟨v2,y|⟨v3,vs⟩⟩⟩
      .exact jR.elim
      .exact jR.2.elim
      .exact#[[v1],Y,(show 1<=2 by decide),jR.1,trivial]
      .exact jR.2.2.elim
     | some c =>
      rcases wk with y|⟨v1,y|⟨v2,y|⟨v3,y|⟨v4,vs⟩⟩⟩⟩
      .exact jR.elim
      .exact jR.2.elim
      .exact jR.2.2.elim
      .exact#[[v1,v2],Y,(show 2<=2 by decide),jR.1,jR.2.1,trivial]
      .exact jR.2.2.2.elim
    obtain⟨oh,ec,l0,h0⟩:=cut;refine#[wk,ah.of N0,λp1 h1=>?_];rw[ec] at *;refine#[bg,λp2 h2=>#[bg,λp3 h3=>#[bg,λp4 h4=>#[bg,λp5 h5=>#[bg,λp6 h6=>?_]]]]];have u1:=aw (o:=.lst oh) h1;have u2:=aw (o:=.tup [.int (a+1),.non]) h2;have u3:=aw (o:=.tup [.ref p2,.bl false]) h3;have u4:=aw (o:=.tup [.int a,.int a]) h4;have u5:=aw (o:=.tup [.ref p4,.bl true]) h5;have u6:=aw (o:=.lst [.ref p3,.ref p5]) h6;have U4:=u4.trans (u5.trans u6);have U3:=u3.trans U4;have U2:=u2.trans U3;refine#[oh,U2 _ _ ao,_,ao,acR (by show oh.length+2<=4;lia) (by decide),λp7 h7=>?_];have u7:=aw (o:=.lst (oh++[.ref p3,.ref p5])) h7;exact hN _ _ #[p7,_,Y,u1.trans (U2.trans u7),ao,ax.app (h0.imp λy y r=>r.same (u1.trans (U2.trans u7))) #[#[p3,p2,Y,(U4.trans u7) _ _ ao,(U3.trans u7) _ _ ao],#[p5,p4,Y,(u6.trans u7) _ _ ao,((u5.trans u6).trans u7) _ _ ao],trivial]]
  rintro y yR L H6 ⟨lw6,vs6,rfl,s6,N1,aaN⟩;subst yR;have S6:=S3.trans (s4.trans (s5.trans s6));have aaO:=aaH S;rfl';refine#[#[_,ah.of N1],j8 (xs:=vs6) (aaM H6 [O (.str (eN (O (lo,hi)))),O (.ref x),O (.ref b),O (.ref w),O (.int (k:Int)),O (.ref l),O (.int (lo.getD (-100000000000000000000000000000000000000000000000000000000))),O (.int (hi.getD 100000000000000000000000000000000000000000000000000000000)),O (.ref lw6),J,J]) #[#[_,_,Y],aj.refl _] (λi L H7 _ ⟨_,s7⟩=>ah.of (s7 _ _ N1)) ?_ ?_]
  .rintro i v L H7 hv ⟨⟨e1,e2,rfl⟩,s7⟩;obtain⟨r,hr,tp,sp,rfl,h1,h2⟩:=aaN.get hv;obtain⟨cr,du⟩:=aaO r (ads hr);refine mV (au.of (s7 _ _ h1)) ?_;rfl';refine#[by decide,λp1 i8=>#[by decide,λp2 iV=>?_]];have u1:=aw (o:=.tup [.str "at",.int (k:Int),.ref sp]) i8;have u2:=aw (o:=.lst [.ref p1]) iV;have U:=s7.trans (u1.trans u2);have S8:=S6.trans U;refine#[x,p,b,w,p2,e,t,u,d,m,tb,[.ref p1],O (k,r.1),r.2,Y,hB.same S8,S8 _ _ hb,sz,hT.same S8,bc,mE,ao,#[#[p1,sp,Y,u2 _ _ ao,U _ _ h2],trivial],λk' s z=>by cases z;exact#[cr,ie],?_,λH8 s8=>?_]
   .rw[FV (o:=O (k,r.1)) (k:=k) he.1 (by lia) hu.1 hd.1 bc ie λk' s z=>by cases z;exact#[cr,Y],du];exact#[λ⟨n,a,c⟩=>#[n,λy y z=>by cases z;exact a,c],λ⟨n,a,c⟩=>#[n,a _ _ Y,c]]
   .rfl';exact#[#[_,_,Y],U.trans s8]
  .rintro L H7 ⟨⟨e1,e2,rfl⟩,s7⟩;rfl';exact q _ (S6.trans s7)
noncomputable def kQ(t:Int):Str:=ajb (ac0 (toString t)) 3++ac0 " "
noncomputable def wm(ss:List S2)(lo:Int)(n:Nat):Str:=ad4 (ac0 "") ((adu n).map λi=>sgn (gK ss (lo+(i:Nat))))
theorem join_snoc:∀ (l:List Str) (c:Str),ad4 (ac0 "") (l++[c])=ad4 (ac0 "") l++c:=by
 have e0:ac0 "" = Str.empty:=by decide
 have go:∀ (l:List Str) (c:Str),alW (ac0 "") (l++[c])=alW (ac0 "") l++c:=by
  intro l c
  induction l with
  | nil=>exact (Str.empty_append c).symm
  | cons a l ih =>
   cases l with
   | nil =>
    show a++ac0 "" ++ c=a++c;rw[e0,Str.append_empty]
   | cons b l =>
    show a++ac0 "" ++ alW _ (b::l++[c])=a++ac0 "" ++ alW _ (b::l)++c;rw[ih];exact (Str.append_assoc _ _ _).symm
 intro l c;show akt _ _=akt _ _++c;rw[StrLaws.glued_eq_join,StrLaws.glued_eq_join,go]
theorem aaP(ss:List S2)(lo:Int)(n:Nat):wm ss lo (n+1)=wm ss lo n++sgn (gK ss (lo+(n:Nat))):=by unfold wm;rw[ajd,adx];exact join_snoc _ _
theorem pre_of(h0:0<=t)(h1:t<12):(if t > 9 then ac0 " " ++ ac0 (toString t)++ac0 " " else ac0 "  " ++ ac0 (toString t)++ac0 " ")=kQ t/\(ac0 (toString t)).length<=2/\(kQ t).length=4:=by rcases (by lia:t=0∨t=1∨t=2∨t=3∨t=4∨t=5∨t=6∨t=7∨t=8∨t=9∨t=10∨t=11) with rfl|rfl|rfl|rfl|rfl|rfl|rfl|rfl|rfl|rfl|rfl|rfl<;>exact#[by decide +kernel,by decide +kernel,by decide +kernel]
theorem aaQ(b:Bool):(sgn b).cps.toList=[if b=true then 35 else 46]:=by cases b<;>decide
theorem N2(b:Bool):(#[(List.toArray [if b=true then 35 else 46])]:Str)=sgn b:=by cases b<;>decide
theorem N3(ss:List S2)(lo:Int):∀ n,(wm ss lo n).cps.toList=(adu n).map λi=>if gK ss (lo+(i:Nat))=true then 35 else 46
 | 0=>rfl
 | n+1=>by rw[aaP,afJ,N3 ss lo n,aaQ,ajd,adx];rfl
theorem zC(t:Int)(ss:List S2)(lo:Int)(n:Nat):(i7 t ss lo n).cps.toList=(kQ t).cps.toList++(adu n).map λi=>if gK ss (lo+(i:Nat))=true then 35 else 46 :=
 (afJ (kQ t) (wm ss lo n)).trans (by rw[N3])
theorem aaR(t0:0<=t)(t1:t<12):(i7 t ss lo n).length=4+n:=by have l4:(kQ t).cps.toList.length=4:=(adK).trans (pre_of t0 t1).2.2;have:=congrArg List.length (zC t ss lo n);rw[ac7,l4,acN,adj] at this;exact (adK).symm.trans this
theorem aaS(t0:0<=t)(t1:t<12)(hi:i<n):dq (i7 t ss lo n).cps.toList (4+(i:Int))=O (if gK ss (lo+(i:Nat))=true then 35 else 46):=by have l4:(kQ t).cps.toList.length=4:=(adK).trans (pre_of t0 t1).2.2;rw[zC,show (4+(i:Int))=((4+i:Nat):Int) by lia];refine cZ ?_;rw[ad6 (by lia),l4,show 4+i-4=i by lia,ac1,adM hi];rfl
theorem aaT(h:∀ s∈ws,s.length<=B):(ad4 LF ws).length<=ws.length * (B+1):=by
 have e:(ad4 LF ws).length=(fF 10 (ws.map λw=>w.cps.toList)).length:=by rw[<- pE];exact adK.symm
 have h1:=Fg 10 (ws.map λw=>w.cps.toList);have h2:=vU h;have h3:ws.map ((λw=>w.length) ∘ λw:acW=>w.cps.toList)=ws.map λx=>x.length:=ad9 λx y=>adK;rw[aei,acN,h3] at h1;rw[e,akF];lia
theorem FY(h0:0<=t)(h1:t<3):10∉(kQ t).cps.toList/\ac0 "  " ++ ac0 (toString t)++ac0 " " = kQ t/\(ac0 (toString t)).length<=2/\t.natAbs.log2<1920/\(kQ t).cps.toList.length=4:=by rcases (by lia:t=0∨t=1∨t=2) with rfl|rfl|rfl<;>exact#[by decide +kernel,by decide +kernel,by decide +kernel,by decide +kernel,by decide +kernel]
theorem aaU(ht:t<=3):∀ s∈cY e t u d m tb lo hi,10∉s.cps.toList:=λs hs=>by
 obtain⟨k,hk,rfl⟩:=ac2.mp hs;have:=aeg.mp hk;rw[zC];intro z;rcases adf.mp z with z|z
 .exact (FY (by lia) (by lia)).1 z
 .obtain⟨i,y,e⟩:=ac2.mp z;split at e<;>cases e
theorem aaV(h0:0<=t)(h1:t<3):agh (i7 t ss lo n) J (O 4)=kQ t:=by have l4:=(FY h0 h1).2.2.2.2;refine rD ?_;rw[show (O (4:Int))=O ((4:Nat):Int) from Y,CB,zC,List.take_append_of_le_length (by lia),afN (by lia)]
inductive aaW(B:ac4)(vs:List V)(H:Hp)(Q:VK)(aT:XK):Prop
 | mk(x p b w:ac4)(e t u d m:Int)(tb:Tb)(lo hi:Int)(_:vs=[.str (ad4 LF (cY e t u d m tb lo hi)),.ref x,.ref b,.ref w,.int lo,.int hi])(_:br B H x e t u d m p tb)(_:H b=O (.tup [.int e,.int t,.int u,.int d,.int m]))(_:Sz e t u d m)(_:TabAt H w tb)(_:bV e t tb)(_:tb.length<=60)(_:lo<=hi)(_:hi-lo<=50)(_:∀ H',aj H H'->Q (.bl true) H')
def aaX(H:Hp)(σ0:St)(_:Nat)(L:St)(H1:Hp):Prop:=(∃ e1 e2 e3 e4,L=(((σ0.set 7 e1).set 8 e2).set 9 e3).set 10 e4)/\aj H H1
def aaY(H:Hp)(σ0:St)(_:Nat)(L:St)(H1:Hp):Prop:=(∃ e3 e4,L=(σ0.set 9 e3).set 10 e4)/\aj H H1
theorem aaZ(T:aH):aR 22 T.vI (aaW T.aN):=by
 refine ba nH ?_;rintro y A y s H y y y hr ⟨x,p,b,w,e,t,u,d,m,tb,lo,hi,rfl,hB,hb,sz,hT,bc,mE,hlh,h50,q⟩;refine#[_,(aq (aE (cu (cf (bA lb (by rfl) T.mi k9 (ae (aa 0) (ae (kX (v:=.ty "str") Y T.ia gQ Y) af))))) (ak (aA bO)) aI) (aq (aP 6 nH.nd (dJ adU agH agI Co (aa 0) (ae aK af))) (aq (aE (gD (bA dk (by rfl) T.di dh (ae (aa 6) af)) (ay (aa 2) ag)) (ak (aA bO)) aI) (aq (cU adE Y (fL Y T.fc (ae (ay (aa 2) ag) af)) (cp 7 nH.nd) (aq (aP 8 nH.nd (ay (aa 6) (aa 7))) (aq (aE (PW.pt (dj (gD (mP yh (aa 8) mM (mO ag)) (az jg (az jg aK (gp jh (by rfl) T.ia gQ (ae (aa 7) af))) aK)) (fi (gD (bA dk (by rfl) T.di dh (ae (aa 8) af)) (az dR (az bD ag (aa 5)) (aa 4)))))) (ak (aA bO)) aI) (ak (cU adE Y (fL Y T.fc (ae (az bD (az dR (aa 5) (aa 4)) ag) af)) (cp 9 nH.nd) (aq (aE (gk Ai (ay (aa 8) (az bD ag (aa 9))) (bf (ae aK (ae aK af))) (by with_unfolding_all rfl)) (ak (aA bO)) aI) (aq (aP 10 nH.nd (cK (ae (bf (ae aK (ae (aa 7) (ae (bf (ae (az bD (aa 4) (aa 9)) (ae (az bD (aa 4) (aa 9)) af))) af)))) af))) (ak (aE (cu (cf (aG (FW T) hr (ae (aa 1) (ae (aa 2) (ae (aa 3) (ae (aa 10) (ae (fN mI (ay (aa 8) (az bD ag (aa 9))) aK (dW _)) af)))))))) (ak (aA bO)) aI))))))))) (ak (aA bO)))))),?_];obtain⟨he,ht,hu,hd,hm⟩:=id sz;have dl:(cY e t u d m tb lo hi).length=t.toNat:=by unfold cY;rw[acN,adj]
 have tl:(ad4 LF (cY e t u d m tb lo hi)).length<=1000:=by
  have:=aaT (B:=105) (ws:=cY e t u d m tb lo hi) λs hs=>by obtain⟨k,hk,rfl⟩:=ac2.mp hs;have:=aeg.mp hk;exact xH (by lia) (by lia) (by lia)
  lia
 have sp:agE (ad4 LF (cY e t u d m tb lo hi)) "\n" = cY e t u d m tb lo hi:=ye 10 (by decide) _ (λz=>by rw[z] at dl;have:0=t.toNat:=dl;lia) (aaU ht.2);refine aD (λL H1=>L=[O (.str (ad4 LF (cY e t u d m tb lo hi))),O (.ref x),O (.ref b),O (.ref w),O (.int lo),O (.int hi),J,J,J,J,J]/\H=H1) (λN hN=>?_) ?_
 .rfl';exact Fj (hN _ _ #[Y,Y])
 rintro y yR L y ⟨rfl,rfl⟩;subst yR;refine aD (λL H1=>∃ l,L=[O (.str (ad4 LF (cY e t u d m tb lo hi))),O (.ref x),O (.ref b),O (.ref w),O (.int lo),O (.int hi),O (.ref l),J,J,J,J]/\aj H H1/\H1 l=O (.lst ((cY e t u d m tb lo hi).map V.str))) (λN hN=>?_) ?_
 .rfl';refine#[Y,_,Y,_,Y,by decide,acR (ajz tl 2) (by decide),λl hl=>?_];rw[sp];exact hN _ _ #[l,Y,aw hl,ao]
 rintro y yR L H1 ⟨l,rfl,s1,hl⟩;subst yR;refine aD (λL H2=>L=[O (.str (ad4 LF (cY e t u d m tb lo hi))),O (.ref x),O (.ref b),O (.ref w),O (.int lo),O (.int hi),O (.ref l),J,J,J,J]/\H1=H2) (λN hN=>?_) ?_
 .rfl';refine#[_,eQ (ah.of hl),aB (au.of (s1 _ _ hb)) (v:=.int t) Y ?_];rw[acN,dl];rfl';rw[if_neg (λz=>z (by lia))];exact hN _ _ #[Y,Y]
 rintro y yR L y ⟨rfl,rfl⟩;subst yR;rfl';refine aB (au.of (s1 _ _ hb)) (v:=.int t) Y #[t,Y,by lia,by lia,lg (aaX H1 [O (.str (ad4 LF (cY e t u d m tb lo hi))),O (.ref x),O (.ref b),O (.ref w),O (.int lo),O (.int hi),O (.ref l),J,J,J,J]) #[#[_,_,_,_,Y],aj.refl _] ?_ ?_]
 .rintro i L H2 B3 ⟨⟨e1,e2,e3,e4,rfl⟩,s2⟩;have e0:(0:Int)+(i:Nat)=(i:Nat):=af2 _;rw[e0];have hr:((cY e t u d m tb lo hi).map V.str)[i]?=O (.str (i7 (i:Nat) (gC e t u d m tb i) lo (hi+1-lo).toNat)):=by unfold cY;rw[ac1,ac1,adM (by lia)];rfl
  have rl:(i7 (i:Nat) (gC e t u d m tb i) lo (hi+1-lo).toNat).length=4+(hi+1-lo).toNat:=aaR (by lia) (by lia);have rz:(i7 (i:Nat) (gC e t u d m tb i) lo (hi+1-lo).toNat).length<=adh:=by rw[rl];exact acR (by lia:_<=105) (by decide)
  obtain⟨-,pe,p2,p3,-⟩:=FY (t:=(i:Nat)) (by lia) (by lia);have gin:=λz=>Ls (e:=e) (m:=m) (k:=i) hu.1 hd.1 bc ht.1 (show ((i:Nat):Int)<t by lia) z;have ra:=λ(j:Nat) (hj:j<(hi+1-lo).toNat)=>aaS (t:=(i:Nat)) (by lia) (by lia) (ss:=gC e t u d m tb i) (lo:=lo) (i:=j) (n:=(hi+1-lo).toNat) hj;have rf:=aaV (t:=(i:Nat)) (by lia) (by lia) (ss:=gC e t u d m tb i) (lo:=lo) (n:=(hi+1-lo).toNat);generalize i7 (i:Nat) (gC e t u d m tb i) lo (hi+1-lo).toNat=row at hr rl rz ra rf;refine aD (λL H3=>L=[O (.str (ad4 LF (cY e t u d m tb lo hi))),O (.ref x),O (.ref b),O (.ref w),O (.int lo),O (.int hi),O (.ref l),O (.int (i:Int)),O (.str row),e3,e4]/\H2=H3) (λN hN=>?_) ?_
  .rfl';exact aU (ah.of (s2 _ _ hl)) (cZ hr) (hN _ _ #[Y,Y])
  rintro y yR L y ⟨rfl,rfl⟩;subst yR;refine aD (λL H3=>L=[O (.str (ad4 LF (cY e t u d m tb lo hi))),O (.ref x),O (.ref b),O (.ref w),O (.int lo),O (.int hi),O (.ref l),O (.int (i:Int)),O (.str row),e3,e4]/\H2=H3) (λN hN=>?_) ?_
  .rfl';have d1:(ac0 "  ").length=2:=by decide
   have d2:(ac0 " ").length=1:=by decide
   have k1:(ac0 "  " ++ ac0 (toString ((i:Nat):Int))).length<=4:=afx (A:=2) (B:=2) (by lia) p2;refine#[_,Y,rz,p3,_,Y,_,Y,acR (by lia:_<=4) (by decide),_,Y,_,Y,acR (by lia:_<=5) (by decide),?_];rw[rf,pe,Lc,if_neg (λz=>z Y),if_neg (by decide)];refine#[_,#[rz,Y],?_];rw[if_neg (λz=>z (by lia))];exact hN _ _ #[Y,Y]
  rintro y yR L y ⟨rfl,rfl⟩;subst yR;rfl';refine#[by lia,by lia,lg (aaY H1 [O (.str (ad4 LF (cY e t u d m tb lo hi))),O (.ref x),O (.ref b),O (.ref w),O (.int lo),O (.int hi),O (.ref l),O (.int (i:Int)),O (.str row),e3,e4]) #[#[_,_,Y],s2] ?_ ?_]
  .rintro j L H3 hj ⟨⟨e5,e6,rfl⟩,s3⟩;have e9:(0:Int)+(j:Nat)=(j:Nat):=af2 _;rw[e9];have FZ:=ra j (by lia);have ib:gK (gC e t u d m tb i) (lo+(j:Nat))=true↔hJ e t u d m tb i (lo+j):=by unfold gK;rw[akH];exact gin _
   generalize Hv:gK (gC e t u d m tb i) (lo+(j:Nat))=bb at FZ ib;refine aD (λL H4=>L=[O (.str (ad4 LF (cY e t u d m tb lo hi))),O (.ref x),O (.ref b),O (.ref w),O (.int lo),O (.int hi),O (.ref l),O (.int (i:Int)),O (.str row),O (.int (j:Int)),e6]/\aj H3 H4) (λN hN=>?_) ?_
   .rfl';refine .inr (.inr #[_,_,_,Y,Y,rz,FZ,?_]);rw[N2];refine#[bg,λp1 h1=>#[p1,_,Y,.inr (au.of ao),Y,Y,_,Y,?_]];rw[if_neg (by cases bb<;>decide +kernel)];exact hN _ _ #[Y,aw h1]
   rintro y yR L H4 ⟨rfl,s4⟩;subst yR;refine aD (λL H5=>∃ cl p1 p2,L=[O (.str (ad4 LF (cY e t u d m tb lo hi))),O (.ref x),O (.ref b),O (.ref w),O (.int lo),O (.int hi),O (.ref l),O (.int (i:Int)),O (.str row),O (.int (j:Int)),O (.ref cl)]/\aj H4 H5/\H5 cl=O (.lst [.ref p2])/\H5 p2=O (.tup [.str "at",.int (i:Int),.ref p1])/\H5 p1=O (.tup [.int (lo+j),.int (lo+j)])) (λN hN=>?_) ?_
   .rfl';refine#[bg,λp1 h1=>#[by decide,λp2 h2=>#[by decide,λp3 h3=>?_]]];have u1:=aw (o:=.tup [.int (lo+j),.int (lo+j)]) h1;have u2:=aw (o:=.tup [.str "at",.int (i:Int),.ref p1]) h2;have u3:=aw (o:=.lst [.ref p2]) h3;exact hN _ _ #[p3,p1,p2,Y,u1.trans (u2.trans u3),ao,u3 _ _ ao,(u2.trans u3) _ _ ao]
   rintro y yR L H5 ⟨cl,p1,N4,rfl,s5,bj,h2,h1⟩;subst yR;have S5:=s1.trans (s3.trans (s4.trans s5));rfl';refine .inr (.inr #[_,_,_,Y,Y,rz,FZ,?_]);rw[N2];refine#[Y,?_];have es:decide (V.str (sgn bb)=V.str (ac0 "#"))=bb:=by cases bb<;>decide +kernel
   rw[es];have cr:aY (O (lo+(j:Int))) (O (lo+j))=false:=decide_eq_false (by lia);refine#[x,p,b,w,cl,e,t,u,d,m,tb,[.ref N4],O (i,(O (lo+j),O (lo+j))),bb,Y,hB.same S5,S5 _ _ hb,sz,hT.same S5,bc,mE,bj,#[#[N4,p1,Y,h2,h1],trivial],λk' s z=>by cases z;exact#[cr,by lia],?_,λH8 s8=>?_]
   .rw[FV (o:=O (i,(O (lo+j),O (lo+j)))) (k:=i) he.1 (by lia) hu.1 hd.1 bc (by lia) λk' s z=>by cases z;exact#[cr,Y],ib];exact#[λa=>#[_,λy y z=>by cases z;exact CA.mpr Y,a],λ⟨n,a,c⟩=>by rw[CA.mp (a _ _ Y)] at c;exact c]
   .rfl';exact#[#[_,_,Y],s3.trans (s4.trans (s5.trans s8))]
  .rintro L H3 ⟨⟨e5,e6,rfl⟩,s3⟩;exact#[#[_,_,_,_,Y],s3]
 .rintro L H2 ⟨⟨e1,e2,e3,e4,rfl⟩,s2⟩;rfl';exact q _ (s1.trans s2)
inductive aa0(H:Hp)(a b l:ac4)(at_:Int)(i:Nat)(L:St)(H1:Hp):Prop
 | mk(cs:List Int)(y:Int)(e1 e2:Option V)(_:L=[O (.ref a),O (.int at_),O (.ref b),O (.ref l),e1,e2])(_:aj H H1)(_:H1 l=O (.lst ((cs++[y]).map V.int)))(_:cs.length=i)(_:(∀ c∈cs,-200000000000000000000000000000000000000000000000000<=c/\c<=200000000000000000000000000000000000000000000000000))(_ : -(100000000000000000000000000000000000000000000000000+10000000000000000000000000000000000000000 * (i:Int))<=y)(_:y<=100000000000000000000000000000000000000000000000000+10000000000000000000000000000000000000000 * (i:Int))
inductive aa1(vs:List V)(H:Hp)(Q:VK)(aT:XK):Prop
 | mk(a b:ac4)(ns:List Int)(at_ e t u d m:Int)(_:vs=[.ref a,.int at_,.ref b])(_:ah K H a (ns.map V.int))(_:0<=at_)(_:H b=O (.tup [.int e,.int t,.int u,.int d,.int m]))(_:Sz e t u d m)(_:∀ (l:ac4) (cs:List Int) (H':Hp),aj H H'->H' l=O (.lst (cs.map V.int))->cs.length=t.toNat->(∀ c∈cs,-200000000000000000000000000000000000000000000000000<=c/\c<=200000000000000000000000000000000000000000000000000)->Q (.ref l) H')
theorem N5(T:aH):aR 2 T.vA aa1:=by
 refine ba rM ?_;rintro n n n n H n n n hr ⟨a,b,ns,at_,e,t,u,d,m,rfl,hS,a0,hb,sz,q⟩;refine#[_,(aq (aP 3 rM.nd (cK (ae (aG (Yg T) hr (ae (aG (kK T) hr (ae (aa 0) (ae (aa 1) af))) af)) af))) (aq (cU adE Y (fL Y T.fc (ae (az dR (ay (aa 2) ag) ag) af)) (cp 4 rM.nd) (aq (aP 5 rM.nd (az cQ (az pA (az cQ (aG (kK T) hr (ae (aa 0) (ae (az bD (az bD (aa 1) ag) (aa 4)) af))) (az jX ag ag)) ag) (az bD (az bD (ay (aa 2) ag) (ay (aa 2) ag)) ag))) (ak (fJ (dJ ad0 aee aef mQ (aa 3) (ae (az dR (az bD (ay (aa 3) (eO fb ag)) (aa 5)) (ay (aa 2) ag)) af)))))) (ak (aA (aa 3))))),?_];obtain⟨he,ht,hu,hd,hm⟩:=id sz;refine aD (λL H1=>∃ (l:ac4) (y:Int),L=[O (.ref a),O (.int at_),O (.ref b),O (.ref l),J,J]/\aj H H1/\H l=J/\H1 l=O (.lst [.int y])/\-100000000000000000000000000000000000000000000000000<=y/\y<=100000000000000000000000000000000000000000000000000) (λN hN=>?_) ?_
 .rfl';exact#[a,ns,_,Y,hS,a0,_,Y,λy y1 y2=>#[by decide,λl hl=>hN _ _ #[l,y,Y,aw hl,hl,ao,y1,y2]]]
 rintro n yR L H1 ⟨l,y,rfl,s1,hl,iX,y1,y2⟩;subst yR;rfl';refine aB (au.of (s1 _ _ hb)) (v:=.int t) Y #[by lia,by lia,?_];refine lg (aa0 H a b l at_) #[[],y,_,_,Y,s1,iX,Y,λn z=>(nomatch z),by lia,by lia] ?_ ?_
 .rintro i L H1 hi ⟨cs,y,e1,e2,rfl,s1,iX,bj,hU,y1,y2⟩;have lS:=au.of (K:=K) (s1 _ _ hb);refine aD (λL H2=>∃ p:Int,L=[O (.ref a),O (.int at_),O (.ref b),O (.ref l),O (.int (0+i)),O (.int p)]/\H2=H1/\0<=p/\p<=u+d) (λN hN=>?_) ?_
  .rfl';refine#[a,ns,_,Y,s1.seq hS,by lia,#[by decide,by decide,by decide],?_];rfl';have k1:=afk (jo ns (at_+1+(0+i))) (show (1000000000000000000000000000000000000000000000000000000000000:Int)≠0 by decide);have k2:=aeM (jo ns (at_+1+(0+i))) (show (0:Int)<1000000000000000000000000000000000000000000000000000000000000 by decide);refine#[oE (by lia) (by decide),aB lS (v:=.int u) Y (aB lS (v:=.int d) Y ?_)];rfl';exact#[by lia,hN _ _ #[_,Y,Y,afk _ (by lia),by have:=aeM (jo ns (at_+1+(0+i)) % 1000000000000000000000000000000000000000000000000000000000000 * 48271) (show (0:Int)<u+d+1 by lia);lia]]
  rintro n yR L H2 ⟨p,rfl,rfl,p0,p1⟩;subst yR;rfl';refine#[.inl #[Y,_,ah.of iX],aU (ah.of iX) (v:=.int y) (by rw[adx];exact wO _ _) ?_];rfl';refine aB lS (v:=.int d) Y ?_;rfl';have F1:(cs++[y]).length=i+1:=by rw[ac7,bj];rfl
  refine#[_,iX,adS (by rw[acN,F1];lia:_<=20) (by decide),cs++[y],y+p-d,_,_,Y,j9 hl s1,?_,F1,λc hc=>?_,by lia,by lia]
  .rw[ao,adx (l₁:=cs++[y])];rfl
  .rcases adf.mp hc with z|z
   .exact hU c z
   .rw[ada.mp z];lia
 .rintro L H1 ⟨cs,y,e1,e2,rfl,s1,iX,bj,hU,y1,y2⟩;rfl';have F1:(cs++[y]).length=(t-1).toNat+1:=by rw[ac7,bj];rfl
  refine q l (cs++[y]) H1 s1 iX (by lia) λc hc=>?_;rcases adf.mp hc with z|z
  .exact hU c z
  .rw[ada.mp z];lia
inductive aa2(D:ac4)(vs:List V)(H:Hp)(Q:VK)(aT:XK):Prop
 | mk(x dx:ac4)(_:vs=[.ref x])(_:H x=O (.ins D dx []))(_:∀ r H',SameBut x H H'->H' x=O (.ins D dx [("board",.non),("rules",.ref r)])->H' r=O (.dK [])->Q .non H')
theorem aa3(T:aH):jN 1 T.pP (aa2 T.bQ):=by
 refine yc ED ?_;rintro y y y y H y y y y ⟨x,dx,rfl,hx,q⟩;refine#[_,(aq (lW (aa 0) bE Y) (ak (lW (aa 0) Jx Y))),?_];rfl';refine#[_,_,_,hx,T.fZ,T.n0,(by show 0<1000;decide),λr bG=>?_];have rx:r≠x:=λz=>by rw[z,ao] at bG;cases bG
 refine#[_,_,_,by rw[aJ (adR rx)];exact ao,T.fZ,T.EW,(by show 1<1000;decide),q r _ (λb o hb e=>?_) ao (by rw[aJ rx];exact ao)];have bU:H r=J:=by rw[aJ rx] at bG;exact bG
 rw[aJ hb,aJ (λz=>by rw[z,bU] at e;cases e),aJ hb];exact e
def Bt(x p:ac4)(H H':Hp):Prop:=∀ z o,z≠x->z≠p->H z=O o->H' z=O o
theorem aa4(h:ah K H a xs)(s:Bt x p H H')(hx:H x=O (.ins C dx fs))(hp:H p=O (.dT kvs)):ah K H' a xs:=by
 rcases h with (h|⟨o,h⟩)|h
 .exact .inl (.inl (s _ _ (λz=>by rw[z,hx] at h;cases h) (λz=>by rw[z,hp] at h;cases h) h))
 .exact .inl (.inr #[o,s _ _ (λz=>by rw[z,hx] at h;cases h) (λz=>by rw[z,hp] at h;cases h) h])
 .exact .inr h
theorem N6{H H':Hp}{w x p dx C:ac4}{tb:Tb}{fs:List (Str × V)}{kvs:List (List Key × V)}(h:TabAt H w tb)(s:Bt x p H H')(hx:H x=O (.ins C dx fs))(hp:H p=O (.dT kvs))(wp:w≠p):TabAt H' w tb:=by obtain⟨ks,hk,hA⟩:=h;exact#[ks,s _ _ (λz=>by rw[z,hx] at hk;cases hk) wp hk,hA.imp λv a b ⟨q,e,hq⟩=>#[q,e,s _ _ (λz=>by rw[z,hx] at hq;cases hq) (λz=>by rw[z,hp] at hq;cases hq) hq]]
theorem dP.jD(h:∀ r∈tb,dP r.2):vV tb:=λr hr y hy=>by
 obtain⟨z,h1,h2⟩:=h r hr;rcases hy with e|e
 .have:=h1 y e;lia
 .have:=h2 y e;lia
theorem N7(k:Nat):("strip " : acW)++aL (k:Int)=cR (.str (k:Int)):=by show _=ad4 BL ["strip",aL (k:Int)];rw[join_cons (w := "strip") (by simp),show (("strip" : acW)++BL) = "strip " by decide +kernel,show ad4 BL [aL (k:Int)]=aL (k:Int) from rD (by rw[show BL=(#[(List.toArray [32])]:acW) from Y,pE];rfl)]
theorem aa5(lo hi:Int):(("draw " : acW)++aL lo ++ " ")++aL hi=cR (.drw lo hi):=by show _=ad4 BL ["draw",aL lo,aL hi];rw[join_cons (w := "draw") (by simp),join_cons (w:=aL lo) (by simp),show (("draw" : acW)++BL) = "draw " by decide +kernel,show ad4 BL [aL hi]=aL hi from rD (by rw[show BL=(#[(List.toArray [32])]:acW) from Y,pE];rfl)];refine rD ?_;simp only[afJ];rw[show (BL:acW)=ac0 " " from Y];simp only[aet]
inductive aa6(T:aH)(vs:List V)(H:Hp)(Q:VK)(aT:XK):Prop
 | mk(a x dx rr:ac4)(ns:List Int)(bv:V)(_:vs=[.ref a,.ref x])(_:ah K H a (ns.map V.int))(_:H x=O (.ins T.bQ dx [("board",bv),("rules",.ref rr)]))(_:(bv = .non ∨ ∃ z,bv = .ref z))(_:∀ H',Q (.bl true) H')
def aa7(H:Hp)(σ0:St)(_:Nat)(L:St)(H1:Hp):Prop:=(∃ e1,L=σ0.set 5 e1)/\aj H H1
theorem aa8(T:aH):aR 23 T.vJ (aa6 T):=by
 refine kG pN ?_;rintro c c c c H c c c hr ⟨a,x,dx,rr,ns,bv,rfl,hS,hx,hbv,q⟩;refine#[_,(aq (aP 2 pN.nd (aG (Mr T) hr (ae (aa 0) (ae ag af)))) (aq (aP 3 pN.nd (aG (MW T) hr (ae (aa 0) (ae ag (ae (aa 2) (ae (aG (N5 T) hr (ae (aa 0) (ae ag (ae (aa 2) af)))) af)))))) (aq (aP 4 pN.nd (Ad T.vL (E5 T) hr.m Y T.EV T.me.b .nil eS (ae (ay (aa 2) ag) (ae (ay (aa 2) ag) (ae (ay (aa 2) ag) (ae (ay (aa 2) ag) (ae (ay (aa 2) ag) af))))))) (aq (aE (cu (cf (dI (M6 T) hr.m Y T.nX.m T.nX.F.kp T.nX.b .nil eS (ae (aa 1) (ae (aa 4) (ae (aa 2) (ae (aa 3) af))))))) (ak (aA bO)) aI) (aq (cU agT Y (fL Y T.fc (ae (ay (aa 2) ag) af)) (cp 5 pN.nd) (ak (aE (cu (cf (aG (NZ T) hr (ae (fP (aa 1) T.fZ T.yX (zc T) hr.m T.jJ.b .nil eS (ae (az jg aK (gp jh (by rfl) T.ia gQ (ae (aa 5) af))) af)) (ae (aa 4) (ae (aa 2) (ae (aa 3) (ae (aa 5) af)))))))) (ak (aA bO)) aI))) (ak (aA bO))))))),?_];refine aD (λL H1=>∃ (r:ac4) (e t u d m:Int),L=[O (.ref a),O (.ref x),O (.ref r),J,J,J]/\aj H H1/\H1 r=O (.tup [.int e,.int t,.int u,.int d,.int m])/\Sz e t u d m) (λN hN=>?_) ?_
 .rfl';exact#[a,ns,_,Y,hS,by decide,λr e t u d m H1 s1 bU sz=>hN _ _ #[r,e,t,u,d,m,Y,s1,bU,sz]]
 rintro c yR L H1 ⟨r,e,t,u,d,m,rfl,s1,bU,sz⟩;subst yR;obtain⟨he,ht,hu,hd,hm⟩:=id sz;have F3:gH e t u d m:=#[by lia,by lia,hu.1,hd.1,hm.1,hm.2]
 refine aD (λL H2=>∃ (w:ac4) (tb:Tb),L=[O (.ref a),O (.ref x),O (.ref r),O (.ref w),J,J]/\aj H1 H2/\TabAt H2 w tb/\bV e t tb/\tb.length<=12/\∀ r∈tb,dP r.2) (λN hN=>?_) ?_
 .rfl';refine#[a,r,ns,_,e,t,u,d,m,Y,s1.seq hS,by decide,bU,sz,λl cs H2 s2 hl bj hU=>?_];exact#[a,r,l,ns,cs,_,e,t,u,d,m,Y,(s1.trans s2).seq hS,by decide,s2 _ _ bU,sz,hl,bj,hU,λw tb H3 s3 c hT ar kN hw=>hN _ _ #[w,tb,Y,s2.trans s3,hT,ar,kN,hw]]
 rintro c yR L H2 ⟨w,tb,rfl,s2,hT,bc,kN,hw⟩;subst yR;have kO:=s2 _ _ bU;refine aD (λL H3=>∃ (y p:ac4),L=[O (.ref a),O (.ref x),O (.ref r),O (.ref w),O (.ref y),J]/\aj H2 H3/\H2 y=J/\H2 p=J/\br T.aN H3 y e t u d m p []) (λN hN=>?_) ?_
 .rfl';refine aB (au.of kO) (v:=.int e) Y (aB (au.of kO) (v:=.int t) Y (aB (au.of kO) (v:=.int u) Y (aB (au.of kO) (v:=.int d) Y (aB (au.of kO) (v:=.int m) Y λy dy hy vW eB=>?_))));refine#[y,dy,e,t,u,d,m,Y,ao,λz=>absurd F3 z,λc p H1 hp s1 X1 P1=>#[Y,?_]];have M:=xI (C:=T.aN) (fs:=[]) hy vW eB;have S1:aj _ H1:=λb o e=>s1 b o (λz=>by rw[z,hy] at e;cases e) (M _ _ e);exact hN _ _ #[y,p,Y,S1,hy,M.free hp,#[#[_,X1],[],P1,trivial]]
 rintro c yR L H3 ⟨y,p,rfl,s3,fy,fp,hB⟩;subst yR;have S3:=s1.trans (s2.trans s3);have F4:=S3 _ _ hx;have wp:w≠p:=λz=>by obtain⟨ks,hk,c⟩:=hT;rw[z,fp] at hk;cases hk
 obtain⟨c,kvs,hkp,c⟩:=id hB;have qf:=hT.same s3;have se:=s3 _ _ kO;refine aD (λL H4=>∃ y2 p2,L=[O (.ref a),O (.ref x),O (.ref r),O (.ref w),O (.ref y),J]/\H4 x=O (.ins T.bQ dx [("board",.ref y2),("rules",.ref rr)])/\br T.aN H4 y2 e t u d m p2 tb/\br T.aN H4 y e t u d m p tb/\H4 r=O (.tup [.int e,.int t,.int u,.int d,.int m])/\TabAt H4 w tb) (λN hN=>?_) ?_
 .rfl';refine#[x,dx,rr,y,p,r,w,bv,e,t,u,d,m,tb,Y,F4,hbv,hB,se,sz,qf,wp,bc,kN,hw,λy2 p2 H4 bt c c zD b2 b1=>?_];rfl';exact hN _ _ #[y2,p2,Y,zD,b2,b1,bt _ _ (λz=>by rw[z,F4] at se;cases se) (λz=>by rw[z,hkp] at se;cases se) se,N6 qf bt F4 hkp wp]
 rintro c yR L H4 ⟨y2,p2,rfl,zD,b2,b1,i6,n9⟩;subst yR;rfl';refine aB (au.of i6) (v:=.int t) Y #[t,Y,by lia,by lia,lg (aa7 H4 [O (.ref a),O (.ref x),O (.ref r),O (.ref w),O (.ref y),J]) #[#[_,Y],aj.refl _] ?_ ?_]
 .rintro i L H5 hi ⟨⟨e1,rfl⟩,s5⟩;have e0:(0:Int)+(i:Nat)=(i:Nat):=af2 _;rw[e0];have ni:((i:Nat):Int).natAbs<10 ^ 60:=gL (by lia);have nl:=gF ni;rfl';refine#[_,_,s5 _ _ zD,Y,mj ni,_,Y,_,Y,?_,?_]
  .exact acR (afM (show ("strip " : acW).length<=6 by decide) nl) (by decide)
  .rw[show ac0 "strip " ++ ac0 (toString ((i:Nat):Int))=cR (.str (i:Int)) from N7 i];refine#[x,dx,rr,_,_,Y,s5 _ _ zD,.inr #[_,Y],λo ho=>by rw[ada.mp ho];exact ni,.str i y2 p2 e t u d m tb Y (b2.same s5) sz bc (by lia) (by lia) (dP.jD hw) λww H6 s6 de=>?_];have S6:=s5.trans s6;refine#[y,p,r,w,e,t,u,d,m,tb,i,ww,Y,b1.same S6,S6 _ _ i6,sz,n9.same S6,bc,by lia,by lia,de,λH7 s7=>?_];rfl';exact#[#[_,Y],S6.trans s7]
 .rintro L H5 ⟨⟨e1,rfl⟩,s5⟩;rfl';exact q _
def aa9(H:Hp)(σ0:St)(_:Nat)(L:St)(H1:Hp):Prop:=(∃ e1 e2 e3,L=((σ0.set 9 e1).set 10 e2).set 11 e3)/\aj H H1
theorem aba(T:aH):aR 24 T.kI (pU K):=by
 refine ba gG ?_;rintro n n n n H n n n hr ⟨a,ns,rfl,hS,n,q⟩;refine#[_,(aq (aP 1 gG.nd (aG (Mr T) hr (ae (aa 0) (ae ag af)))) (aq (aP 2 gG.nd (aG (N5 T) hr (ae (aa 0) (ae ag (ae (aa 1) af))))) (aq (aP 3 gG.nd (aG (MW T) hr (ae (aa 0) (ae ag (ae (aa 1) (ae (aa 2) af)))))) (aq (aP 4 gG.nd (PJ T.EX (aa3 T) hr.m Y T.Xm T.pP.b .nil c7)) (aq (aP 5 gG.nd (Ad T.vL (E5 T) hr.m Y T.EV T.me.b .nil c7 (ae (ay (aa 1) ag) (ae (ay (aa 1) ag) (ae (ay (aa 1) ag) (ae (ay (aa 1) ag) (ae (ay (aa 1) ag) af))))))) (aq (aE (cu (cf (aG (M6 T) hr (ae (aa 4) (ae (aa 5) (ae (aa 1) (ae (aa 3) af))))))) (ak (aA bO)) aI) (aq (aP 6 gG.nd (aG (kK T) hr (ae (aa 0) (ae ag af)))) (aq (aP 7 gG.nd (az dR (az bD (ay (aa 2) (az cQ (aa 6) (ay (aa 1) ag))) (az cQ (az gv (aa 6) ag) ag)) ag)) (aq (aP 8 gG.nd (az bD (aa 7) (az cQ (az gv (aa 6) ag) ag))) (aq (cU adE Y (fL Y T.fc (ae (az bD (ay (aa 1) ag) ag) af)) (cp 9 gG.nd) (aq (aP 10 gG.nd (az cQ (az bD (aa 9) (aG (kK T) hr (ae (aa 0) (ae ag af)))) (az bD (ay (aa 1) ag) ag))) (ak (aE (bW (aa 10) (ay (aa 1) ag)) (aq (aP 11 gG.nd (fP (aa 4) T.fZ T.yX (zc T) hr.m T.jJ.b .nil c7 (ae (az jg (az jg (az jg aK (gp jh (by rfl) T.ia gQ (ae (aa 7) af))) aK) (gp jh (by rfl) T.ia gQ (ae (aa 8) af))) af))) (ak (aE (cu (cf (aG (aaZ T) hr (ae (aa 11) (ae (aa 5) (ae (aa 1) (ae (aa 3) (ae (aa 7) (ae (aa 8) af))))))))) (ak (aA bO)) aI))) (ak (aE (cu (cf (aG (NZ T) hr (ae (fP (aa 4) T.fZ T.yX (zc T) hr.m T.jJ.b .nil c7 (ae (az jg aK (gp jh (by rfl) T.ia gQ (ae (aa 10) af))) af)) (ae (aa 5) (ae (aa 1) (ae (aa 3) (ae (aa 10) af)))))))) (ak (aA bO)) aI)))))) (ak (aA (aG (aa8 T) hr (ae (aa 0) (ae (aa 4) af))))))))))))))),?_];refine aD (λL H1=>∃ (r:ac4) (e t u d m:Int),L=[O (.ref a),O (.ref r),J,J,J,J,J,J,J,J,J,J]/\aj H H1/\H1 r=O (.tup [.int e,.int t,.int u,.int d,.int m])/\Sz e t u d m) (λN hN=>?_) ?_
 .rfl';exact#[a,ns,_,Y,hS,by decide,λr e t u d m H1 s1 bU sz=>hN _ _ #[r,e,t,u,d,m,Y,s1,bU,sz]]
 rintro n yR L H1 ⟨r,e,t,u,d,m,rfl,s1,bU,sz⟩;subst yR;obtain⟨he,ht,hu,hd,hm⟩:=id sz;have F3:gH e t u d m:=#[by lia,by lia,hu.1,hd.1,hm.1,hm.2]
 refine aD (λL H2=>∃ (c:ac4) (cs:List Int),L=[O (.ref a),O (.ref r),O (.ref c),J,J,J,J,J,J,J,J,J]/\aj H1 H2/\H2 c=O (.lst (cs.map V.int))/\cs.length=t.toNat/\∀ c∈cs,-200000000000000000000000000000000000000000000000000<=c/\c<=200000000000000000000000000000000000000000000000000) (λN hN=>?_) ?_
 .rfl';exact#[a,r,ns,_,e,t,u,d,m,Y,s1.seq hS,by decide,bU,sz,λl cs H2 s2 hl bj hU=>hN _ _ #[l,cs,Y,s2,hl,bj,hU]]
 rintro n yR L H2 ⟨c,cs,rfl,s2,sW,bj,hU⟩;subst yR;refine aD (λL H3=>∃ (w:ac4) (tb:Tb),L=[O (.ref a),O (.ref r),O (.ref c),O (.ref w),J,J,J,J,J,J,J,J]/\aj H2 H3/\TabAt H3 w tb/\bV e t tb/\tb.length<=12/\∀ r∈tb,dP r.2) (λN hN=>?_) ?_
 .rfl';exact#[a,r,c,ns,cs,_,e,t,u,d,m,Y,(s1.trans s2).seq hS,by decide,s2 _ _ bU,sz,sW,bj,hU,λw tb H3 s3 n hT ar kN hw=>hN _ _ #[w,tb,Y,s3,hT,ar,kN,hw]]
 rintro n yR L H3 ⟨w,tb,rfl,s3,hT,bc,kN,hw⟩;subst yR;refine aD (λL H4=>∃ (x dx rr:ac4),L=[O (.ref a),O (.ref r),O (.ref c),O (.ref w),O (.ref x),J,J,J,J,J,J,J]/\aj H3 H4/\H4 x=O (.ins T.bQ dx [("board",.non),("rules",.ref rr)])) (λN hN=>?_) ?_
 .rfl';refine λx dx hx hdx eB=>#[x,dx,Y,ao,λrr H4 sb h4 n=>#[Y,?_]]
  have M:=xI (C:=T.bQ) (fs:=[]) hx hdx eB;exact hN _ _ #[x,dx,rr,Y,λb o e=>sb b o (λz=>by rw[z,hx] at e;cases e) (M _ _ e),h4]
 rintro n yR L H4 ⟨x,dx,rr,rfl,s4,hx⟩;subst yR;have i6:=(s2.trans (s3.trans s4)) _ _ bU;have n9:=hT.same s4;refine aD (λL H5=>∃ (y p:ac4),L=[O (.ref a),O (.ref r),O (.ref c),O (.ref w),O (.ref x),O (.ref y),J,J,J,J,J,J]/\aj H4 H5/\H4 y=J/\H4 p=J/\br T.aN H5 y e t u d m p []) (λN hN=>?_) ?_
 .rfl';refine aB (au.of i6) (v:=.int e) Y (aB (au.of i6) (v:=.int t) Y (aB (au.of i6) (v:=.int u) Y (aB (au.of i6) (v:=.int d) Y (aB (au.of i6) (v:=.int m) Y λy dy hy vW eB=>?_))));refine#[y,dy,e,t,u,d,m,Y,ao,λz=>absurd F3 z,λn p H1 hp s1 X1 P1=>#[Y,?_]];have M:=xI (C:=T.aN) (fs:=[]) hy vW eB;have S1:aj _ H1:=λb o e=>s1 b o (λz=>by rw[z,hy] at e;cases e) (M _ _ e);exact hN _ _ #[y,p,Y,S1,hy,M.free hp,#[#[_,X1],[],P1,trivial]]
 rintro n yR L H5 ⟨y,p,rfl,s5,fy,fp,hB⟩;subst yR;have sf:=s5 _ _ hx;have wp:w≠p:=λz=>by obtain⟨ks,hk,n⟩:=n9;rw[z,fp] at hk;cases hk
 obtain⟨n,kvs,hkp,n⟩:=id hB;have F5:=n9.same s5;have qj:=s5 _ _ i6;have si:=(s3.trans (s4.trans s5)) _ _ sW;have N8:=(s1.trans (s2.trans (s3.trans (s4.trans s5)))).seq hS;refine aD (λL H6=>∃ y2 p2,L=[O (.ref a),O (.ref r),O (.ref c),O (.ref w),O (.ref x),O (.ref y),J,J,J,J,J,J]/\H6 x=O (.ins T.bQ dx [("board",.ref y2),("rules",.ref rr)])/\br T.aN H6 y2 e t u d m p2 tb/\br T.aN H6 y e t u d m p tb/\H6 r=O (.tup [.int e,.int t,.int u,.int d,.int m])/\TabAt H6 w tb/\H6 c=O (.lst (cs.map V.int))/\ah K H6 a (ns.map V.int)) (λN hN=>?_) ?_
 .rfl';refine#[x,dx,rr,y,p,r,w,_,e,t,u,d,m,tb,Y,sf,.inl rfl,hB,qj,sz,F5,wp,bc,kN,hw,λy2 p2 H6 bt n n qk b2 b1=>?_];rfl';exact hN _ _ #[y2,p2,Y,qk,b2,b1,bt _ _ (λz=>by rw[z,sf] at qj;cases qj) (λz=>by rw[z,hkp] at qj;cases qj) qj,N6 F5 bt sf hkp wp,bt _ _ (λz=>by rw[z,sf] at si;cases si) (λz=>by rw[z,hkp] at si;cases si) si,aa4 N8 bt sf hkp]
 rintro n yR L H6 ⟨y2,p2,rfl,qk,b2,b1,n6,N9,hc6,F6⟩;subst yR;clear s1 s2 s3 s4 s5 bU i6 qj hT n9 F5 sW si hS N8 hB hx sf hkp fy fp wp;refine aD (λL H7=>∃ z:Int,L=[O (.ref a),O (.ref r),O (.ref c),O (.ref w),O (.ref x),O (.ref y),O (.int z),J,J,J,J,J]/\H6=H7) (λN hN=>?_) ?_
 .rfl';exact#[a,ns,_,Y,F6,by decide,hN _ _ #[_,Y,Y]]
 rintro n yR L n ⟨z,rfl,rfl⟩;subst yR;refine aD (λL H7=>∃ lo:Int,L=[O (.ref a),O (.ref r),O (.ref c),O (.ref w),O (.ref x),O (.ref y),O (.int z),O (.int lo),J,J,J,J]/\H6=H7/\-300000000000000000000000000000000000000000000000000<=lo-100/\lo+100<=300000000000000000000000000000000000000000000000000) (λN hN=>?_) ?_
 .rfl';have z1:=afk z (show t≠0 by lia);have z2:=aeM z (show 0<t by lia);refine aB (au.of n6) (v:=.int t) Y ?_;rfl';refine#[by lia,aU (ah.of hc6) (int_at z1 (by lia)) ?_];have cb:=hU _ (agm (show (z % t).toNat<cs.length by lia));rw[<- show cs.getD (z % t).toNat 0=cs[(z % t).toNat]'(by lia) from by rw[acO,acP (by lia)];rfl] at cb;rfl';exact#[fR (by decide),hN _ _ #[_,Y,Y,by lia,by lia]]
 rintro n yR L n ⟨lo,rfl,rfl,l1,l2⟩;subst yR;refine aD (λL H7=>∃ hi:Int,L=[O (.ref a),O (.ref r),O (.ref c),O (.ref w),O (.ref x),O (.ref y),O (.int z),O (.int lo),O (.int hi),J,J,J]/\H6=H7/\lo<=hi/\hi-lo<=5) (λN hN=>?_) ?_
 .rfl';exact#[fR (by decide),hN _ _ #[_,Y,Y,by lia,by lia]]
 rintro n yR L n ⟨hi,rfl,rfl,lh,lh5⟩;subst yR;have F7:lo.natAbs<10 ^ 60:=gL (by lia);have F8:hi.natAbs<10 ^ 60:=gL (by lia);refine aD (λL H7=>(∃ e1 e2 e3,L=[O (.ref a),O (.ref r),O (.ref c),O (.ref w),O (.ref x),O (.ref y),O (.int z),O (.int lo),O (.int hi),e1,e2,e3])/\aj H6 H7) (λN hN=>?_) ?_
 .rfl';refine aB (au.of n6) (v:=.int t) Y ?_;rfl';refine#[by lia,by lia,lg (aa9 H6 [O (.ref a),O (.ref r),O (.ref c),O (.ref w),O (.ref x),O (.ref y),O (.int z),O (.int lo),O (.int hi),J,J,J]) #[#[_,_,_,Y],aj.refl _] ?_ (λL H7 h=>hN _ _ h)];rintro i L H7 hi7 ⟨⟨e1,e2,e3,rfl⟩,s7⟩;refine aD (λL H8=>∃ k:Nat,L=[O (.ref a),O (.ref r),O (.ref c),O (.ref w),O (.ref x),O (.ref y),O (.int z),O (.int lo),O (.int hi),O (.int (0+i)),O (.int (k:Int)),e3]/\H7=H8/\(k:Int)<=t) (λN hN=>?_) ?_
  .rfl';refine#[a,ns,_,Y,s7.seq F6,by decide,?_];rfl';refine aB (au.of (s7 _ _ n6)) (v:=.int t) Y ?_;rfl';have z1:=afk (0+(i:Int)+jo ns 10) (show t+1≠0 by lia);have z2:=aeM (0+(i:Int)+jo ns 10) (show 0<t+1 by lia);refine#[by lia,hN _ _ #[((0+(i:Int)+jo ns 10) % (t+1)).toNat,?_,Y,by lia]];rw[aeU z1]
  rintro n yR L n ⟨k,rfl,rfl,hk⟩;subst yR;rfl';refine aB (au.of (s7 _ _ n6)) (v:=.int t) Y ?_;rfl';refine bo (λie=>?_) λie=>?_
  .have d1:("draw " : acW).length<=5:=by decide
   have d2:(" " : acW).length<=1:=by decide
   have nl:=gF F7;have nh:=gF F8;have k1:=afx d1 nl;have k2:=afx k1 d2;refine#[_,_,s7 _ _ qk,Y,mj F7,_,Y,_,Y,acR (afM d1 nl) (by decide),_,Y,_,Y,acR (afM k1 d2) (by decide),mj F8,_,Y,_,Y,acR (afM k2 nh) (by decide),?_];rw[show (ac0 "draw " ++ ac0 (toString lo)++ac0 " " ++ ac0 (toString hi))=cR (.drw lo hi) from aa5 lo hi];refine#[x,dx,rr,_,_,Y,s7 _ _ qk,.inr #[_,Y],λo ho=>?_,.drw lo hi y2 p2 e t u d m tb Y (b2.same s7) sz bc (by lia) lh (by lia) λH8 s8=>?_]
   .simp only[cD,acZ,adz,or_false] at ho;rcases ho with rfl|rfl
    .exact F7
    .exact F8
   .have S8:=s7.trans s8;refine#[y,p,r,w,e,t,u,d,m,tb,lo,hi,Y,b1.same S8,S8 _ _ n6,sz,N9.same S8,bc,by lia,lh,by lia,λH9 s9=>?_];rfl';exact#[#[_,_,_,Y],S8.trans s9]
  .have ni:((k:Nat):Int).natAbs<10 ^ 60:=gL (by lia);have nl:=gF ni;refine#[_,_,s7 _ _ qk,Y,mj ni,_,Y,_,Y,?_,?_]
   .exact acR (afM (show ("strip " : acW).length<=6 by decide) nl) (by decide)
   .rw[show ac0 "strip " ++ ac0 (toString ((k:Nat):Int))=cR (.str (k:Int)) from N7 k];refine#[x,dx,rr,_,_,Y,s7 _ _ qk,.inr #[_,Y],λo ho=>by rw[ada.mp ho];exact ni,.str k y2 p2 e t u d m tb Y (b2.same s7) sz bc (by lia) (by lia) (dP.jD hw) λww H8 s8 de=>?_];have S8:=s7.trans s8;refine#[y,p,r,w,e,t,u,d,m,tb,k,ww,Y,b1.same S8,S8 _ _ n6,sz,N9.same S8,bc,by lia,by lia,de,λH9 s9=>?_];rfl';exact#[#[_,_,_,Y],S8.trans s9]
 rintro n yR L H7 ⟨⟨e1,e2,e3,rfl⟩,s7⟩;subst yR;rfl';exact#[a,x,dx,rr,ns,_,Y,s7.seq F6,s7 _ _ qk,.inr #[_,Y],λH8=>q _]
end
inductive zE(p:Params):Obj->Prop
 | mk(a0 b0 a1 b1 a2 b2 a3 b3 a4 b4 a5 b5 a6 b6 a7 b7 a8 b8 a9 b9:Tok)(ep:Nat):zE p { cls:=.type "dict",data:=.dict (List.toArray [{ hash:=aeX p "board",key:=.str "board" a0,val:=.str "NNNNN" b0 },{ hash:=aeX p "tell",key:=.str "tell" a1,val:=.str "NNEE" b1 },{ hash:=aeX p "hush",key:=.str "hush" a2,val:=.str "NN" b2 },{ hash:=aeX p "rule",key:=.str "rule" a3,val:=.str "WT" b3 },{ hash:=aeX p "drop",key:=.str "drop" a4,val:=.str "W" b4 },{ hash:=aeX p "strip",key:=.str "strip" a5,val:=.str "N" b5 },{ hash:=aeX p "ask",key:=.str "ask" a6,val:=.str "W" b6 },{ hash:=aeX p "why",key:=.str "why" a7,val:=.str "W" b7 },{ hash:=aeX p "false",key:=.str "false" a8,val:=.str "N" b8 },{ hash:=aeX p "draw",key:=.str "draw" a9,val:=.str "NN" b9 }]) ep }
theorem abb{w:aes}{K:acM}{h:ae7}{mg:Str->Option acU}{a:acU}{b:ac4}{o:Obj}(X:K.In h)(G:h.Ns ac3 mg)(z1:ade K ac3 "FORMS_desk" = O (O a))(z2:a = .ref b)(z3:K.lookup b=O o)(z4:zE w.params o)(z5:(b == aeB)=false):Nonempty (LZ w K mg "FORMS_desk" uy):=by
 subst z2;refine#[#[b,adv X G z1,λP=>#[λh' X'=>#[z5,?_]]]];obtain⟨a0,b0,a1,b1,a2,b2,a3,b3,a4,b4,a5,b5,a6,b6,a7,b7,a8,b8,a9,b9,ep⟩:=z4;have ks:∀ (x:Str) (t:Tok),(eI P w).is (.inr x) (.str x t)=true:=λx t=>Ga x t;refine#[[(.inr "board",.str "NNNNN" b0),(.inr "tell",.str "NNEE" b1),(.inr "hush",.str "NN" b2),(.inr "rule",.str "WT" b3),(.inr "drop",.str "W" b4),(.inr "strip",.str "N" b5),(.inr "ask",.str "W" b6),(.inr "why",.str "W" b7),(.inr "false",.str "N" b8),(.inr "draw",.str "NN" b9)],?_,_,_,_,X' _ _ z3,#[Y,Y,Y],Y,?_,?_,show (uy.map λx=>x.1).Nodup from by decide +kernel]
 .repeat' first|exact .nil|refine .cons #[Y,_,Y] ?_
 .intro e he;have he:=ajm.mpr he;simp only[acZ,adz,or_false] at he;rcases he with rfl|rfl|rfl|rfl|rfl|rfl|rfl|rfl|rfl|rfl
  all_goals exact#[.inr _,ks _ _,Y]
 .repeat' first|exact .nil|refine .cons (ks _ _) Y ?_
inductive sj(x y z:Str):Obj->Prop
 | mk(a b c:Tok)(n:Nat):sj x y z { cls:=.type "tuple",data:=.seq (List.toArray [.str x a,.str y b,.str z c]) n }
theorem Oa{K:acM}{h:ae7}{mg:Str->Option acU}{v:acU}{b:ac4}{o:Obj}{n x y z:Str}(X:K.In h)(G:h.Ns ac3 mg)(z1:ade K ac3 n=O (O v))(z2:v = .ref b)(z3:K.lookup b=O o)(z4:sj x y z o):Nonempty (Cy K mg n [x,y,z]):=by subst z2;obtain⟨t1,t2,t3,k⟩:=z4;exact#[#[b,adv X G z1,λH=>.inr #[_,_,_,z3,Y,Y,(by show 3<=adh;decide),.cons #[_,Y] (.cons #[_,Y] (.cons #[_,Y] .nil))]]]
section
seal L2.PE L2.PS L2.aV L2.PA
end
theorem abc{l:ai4}{w:aes}{K:acM}{h:ae7}{mg:Str->Option acU}{fa:ac4}(X:K.In h)(G:h.Ns ac3 mg)(hfa:mg "law" = O (.ref fa)){yB pQ:ac4}{nY nZ:ac4}{jM yD:ac4}{yE yF:ac4}{yG pR:ac4}{rP aN:ac4}{yH yI:ac4}{yJ yK:ac4}{yL yM:ac4}{yN yO:ac4}{yP yQ:ac4}{yS yT:ac4}{yU bQ:ac4}{abd abe:Tok}{abf abg abh:Tok}{Ob:acU} {F9:ac4} {Oc:Obj}{Od:acU} {Oe:ac4} {Of:Obj}{Og:acU} {Oh:ac4} {Oi:Obj}(abi:ade K ac3 "GazeError" = O (O (.ref yB)))(abj:ade K ac3 "NoStretch" = O (O (.ref pQ)))(abk:ade K ac3 "NoBoard" = O (O (.ref nY)))(abl:ade K ac3 "NoTelling" = O (O (.ref nZ)))(abm:ade K ac3 "NoClaim" = O (O (.ref jM)))(abn:ade K ac3 "NoEvent" = O (O (.ref yD)))(abo:ade K ac3 "TooMany" = O (O (.ref yE)))(abp:ade K ac3 "NoRule" = O (O (.ref yF)))(abq:ade K ac3 "NoAlarm" = O (O (.ref yG)))(abr:ade K ac3 "NoRow" = O (O (.ref pR)))(abt:ade K ac3 "NoName" = O (O (.ref rP)))(abu:ade K ac3 "Board" = O (O (.ref aN)))(abv:ade K ac3 "Event" = O (O (.ref yH)))(abw:ade K ac3 "Spanned" = O (O (.ref yI)))(abx:ade K ac3 "Stayed" = O (O (.ref yJ)))(aby:ade K ac3 "Over" = O (O (.ref yK)))(abz:ade K ac3 "Under" = O (O (.ref yL)))(abA:ade K ac3 "Rose" = O (O (.ref yM)))(abB:ade K ac3 "Paced" = O (O (.ref yN)))(abC:ade K ac3 "Turned" = O (O (.ref yO)))(abD:ade K ac3 "Paired" = O (O (.ref yP)))(abE:ade K ac3 "Both" = O (O (.ref yQ)))(abF:ade K ac3 "Either" = O (O (.ref yS)))(abG:ade K ac3 "Nay" = O (O (.ref yT)))(abH:ade K ac3 "Lying" = O (O (.ref yU)))(abI:ade K ac3 "Desk" = O (O (.ref bQ)))(uz:Fb K "is_crossed" "is_crossed" CC (aS K "is_crossed"))(uA:Fb K "holds" "holds" CD (aS K "holds"))(uB:Fb K "meet" "meet" CF (aS K "meet"))(uC:Fb K "common" "common" CG (aS K "common"))(uD:Fb K "hull" "hull" CH (aS K "hull"))(pO:Fb K "by_lo" "by_lo" CI (aS K "by_lo"))(uE:Fb K "leaves_gap" "leaves_gap" CJ (aS K "leaves_gap"))(uF:Fb K "gathered" "gathered" CK (aS K "gathered"))(me:Fb K "__init__" "Board.__init__" CL (hV K aN "__init__"))(nI:Fb K "has_eye" "Board.has_eye" CM (hV K aN "has_eye"))(iY:Fb K "has_turn" "Board.has_turn" CN (hV K aN "has_turn"))(mf:Fb K "tell" "Board.tell" CO (hV K aN "tell"))(mh:Fb K "tellings" "Board.tellings" CP (hV K aN "tellings"))(nJ:Fb K "check_spot" "Board.check_spot" CQ (hV K aN "check_spot"))(uG:Fb K "number_in" "number_in" CS (aS K "number_in"))(uH:Fb K "moved" "moved" CT (aS K "moved"))(uI:Fb K "narrowed" "narrowed" CU (aS K "narrowed"))(uJ:Fb K "stretches_at" "stretches_at" CV (aS K "stretches_at"))(uK:Fb K "tube" "tube" CW (aS K "tube"))(uL:Fb K "course_in" "course_in" CY (aS K "course_in"))(uM:Fb K "lesser" "lesser" CZ (aS K "lesser"))(uN:Fb K "lifted" "lifted" C0 (aS K "lifted"))(uO:Fb K "ceilings" "ceilings" C1 (aS K "ceilings"))(uP:Fb K "crossing" "crossing" C2 (aS K "crossing"))(uQ:Fb K "has_part" "has_part" C3 (aS K "has_part"))(jG:Fb K "check_claim" "check_claim" C4 (aS K "check_claim"))(uR:Fb K "stretches_of" "stretches_of" C5 (aS K "stretches_of"))(nK:Fb K "paces" "paces" C6 (aS K "paces"))(nM:Fb K "wanted" "wanted" C7 (aS K "wanted"))(uS:Fb K "marks_of" "marks_of" C8 (aS K "marks_of"))(uT:Fb K "marks_without" "marks_without" C9 (aS K "marks_without"))(uU:Fb K "groups_of" "groups_of" Dc (aS K "groups_of"))(uV:Fb K "clashes" "clashes" Dd (aS K "clashes"))(uW:Fb K "choices" "choices" De (aS K "choices"))(uX:Fb K "tubes" "tubes" Df (aS K "tubes"))(nN:Fb K "places" "places" Dg (aS K "places"))(uY:Fb K "sign_of" "sign_of" Dh (aS K "sign_of"))(uZ:Fb K "row_of" "row_of" Di (aS K "row_of"))(nO:Fb K "drawing" "drawing" Dj (aS K "drawing"))(vc:Fb K "is_figures" "is_figures" Dk (aS K "is_figures"))(vd:Fb K "is_number" "is_number" Dl (aS K "is_number"))(ve:Fb K "is_end" "is_end" Dm (aS K "is_end"))(vg:Fb K "is_formed" "is_formed" Dp (aS K "is_formed"))(vh:Fb K "end_of" "end_of" Dq (aS K "end_of"))(vk:Fb K "shown_end" "shown_end" Dr (aS K "shown_end"))(vm:Fb K "shown_ends" "shown_ends" Ds (aS K "shown_ends"))(jH:Fb K "without" "without" Dt (aS K "without"))(nP:Fb K "eyes_of" "eyes_of" Du (aS K "eyes_of"))(jI:Fb K "put_aside" "put_aside" Dv (aS K "put_aside"))(iZ:Fb K "branch" "branch" Dw (aS K "branch"))(i4:Fb K "paper" "paper" Dx (aS K "paper"))(x_ask:Fb K "ask" "ask" Dy (aS K "ask"))(vo:Fb K "cut" "cut" Dz (aS K "cut"))(nQ:Fb K "check_row" "check_row" DA (aS K "check_row"))(vq:Fb K "parts_of" "parts_of" DB (aS K "parts_of"))(nR:Fb K "strip_text" "strip_text" DC (aS K "strip_text"))(pP:Fb K "__init__" "Desk.__init__" DD (hV K bQ "__init__"))(jJ:Fb K "say" "Desk.say" DE (hV K bQ "say"))(nT:Fb K "check_names" "Desk.check_names" DF (hV K bQ "check_names"))(nU:Fb K "carry_out" "Desk.carry_out" DG (hV K bQ "carry_out"))(nV:Fb K "answer" "Desk.answer" DH (hV K bQ "answer"))(vt:Fb K "_law_cell" "_law_cell" DI (aS K "_law_cell"))(vw:Fb K "_law_whole" "_law_whole" DJ (aS K "_law_whole"))(vx:Fb K "_law_number" "_law_number" DK (aS K "_law_number"))(vy:Fb K "_law_pace" "_law_pace" DL (aS K "_law_pace"))(vz:Fb K "_law_sizes" "_law_sizes" DM (aS K "_law_sizes"))(vA:Fb K "_law_course" "_law_course" DN (aS K "_law_course"))(vB:Fb K "_law_word" "_law_word" DO (aS K "_law_word"))(vC:Fb K "_law_table" "_law_table" DP (aS K "_law_table"))(jK:Fb K "_law_mark" "_law_mark" DQ (aS K "_law_mark"))(nW:Fb K "_law_rise" "_law_rise" DR (aS K "_law_rise"))(jL:Fb K "_law_refutes" "_law_refutes" DS (aS K "_law_refutes"))(vD:Fb K "_law_within" "_law_within" DT (aS K "_law_within"))(vE:Fb K "_law_fitting" "_law_fitting" DU (aS K "_law_fitting"))(vF:Fb K "_law_answer" "_law_answer" DV (aS K "_law_answer"))(vG:Fb K "_law_end_of" "_law_end_of" DW (aS K "_law_end_of"))(vH:Fb K "_law_strip" "_law_strip" DX (aS K "_law_strip"))(vI:Fb K "_law_drawn" "_law_drawn" DY (aS K "_law_drawn"))(nX:Fb K "_law_told" "_law_told" DZ (aS K "_law_told"))(vJ:Fb K "_law_next_day" "_law_next_day" D0 (aS K "_law_next_day"))(kI:Fb K "law" "law" D1 (aS K "law"))(abJ:ade K ac3 "all" = O J)(abK:ade K ac3 "any" = O J)(abL:ade K ac3 "bool" = O J)(abM:ade K ac3 "enumerate" = O J)(abN:ade K ac3 "int" = O J)(abO:ade K ac3 "isinstance" = O J)(abP:ade K ac3 "len" = O J)(abQ:ade K ac3 "list" = O J)(abR:ade K ac3 "max" = O J)(abS:ade K ac3 "min" = O J)(abT:ade K ac3 "range" = O J)(abU:ade K ac3 "reversed" = O J)(abV:ade K ac3 "set" = O J)(abW:ade K ac3 "sorted" = O J)(abX:ade K ac3 "str" = O J)(abY:ade K ac3 "tuple" = O J)(abZ:ade K ac3 "zip" = O J)(bY:fq K aN)(rQ:adT K (.ref aN) "eyes" = O J)(pS:adT K (.ref aN) "turns" = O J)(yV:adT K (.ref aN) "up" = O J)(yW:adT K (.ref aN) "down" = O J)(rR:adT K (.ref aN) "most" = O J)(rS:adT K (.ref aN) "told" = O J)(vL:ahl K aN=true)(ab0:afy K (.ref aN)=true)(fZ:fq K bQ)(n0:adT K (.ref bQ) "board" = O J)(EW:adT K (.ref bQ) "rules" = O J)(EX:ahl K bQ=true)(ab1:afy K (.ref bQ)=true)(rT:XC K nY)(yY:XC K nZ)(yZ:XC K jM)(EY:XC K pQ)(vN:XC K pR)(y0:XC K rP)(ab2:ade K ac3 "EYES_AT_MOST" = O (O (.int 7 abd)))(ab3:ade K ac3 "TURNS_AT_MOST" = O (O (.int 12 abe)))(ab4:ade K ac3 "FIGURES_AT_MOST" = O (O (.int 60 abf)))(ab5:ade K ac3 "OPEN_END" = O (O (.str "*" abg)))(ab6:ade K ac3 "FIGURES" = O (O (.str "0123456789" abh)))(ab7:ade K ac3 "FORMS_desk" = O (O Ob))(ab8:Ob = .ref F9)(ab9:K.lookup F9=O Oc)(aca:zE w.params Oc)(acb:(F9 == aeB)=false)(acd:ade K ac3 "NEED_NO_BOARD" = O (O Od))(ace:Od = .ref Oe)(acf:K.lookup Oe=O Of)(acg:sj "board" "rule" "drop" Of)(ach:ade K ac3 "NEED_A_RULE" = O (O Og))(aci:Og = .ref Oh)(acj:K.lookup Oh=O Oi)(ack:sj "drop" "ask" "why" Oi)
 : ∃ fd:agl,(∀ (s:ac8)(v:acU),akg s fd #[[v],[]] [("_law_script",v)])/\∀ base:ae7,K.In base->base.Ns ac3 mg->dH l.prog w K mg base (dY l.prog w) 24 fa fd ["_law_script"] (pU K):=by
 obtain⟨uz⟩:=uz.fn X G D2;obtain⟨uA⟩:=uA.fn X G D3;obtain⟨uB⟩:=uB.fn X G uq;obtain⟨uC⟩:=uC.fn X G rF;obtain⟨uD⟩:=uD.fn X G pJ;obtain⟨pO⟩:=pO.fn X G D4;obtain⟨uE⟩:=uE.fn X G D5;obtain⟨uF⟩:=uF.fn X G ur;obtain⟨me,Oj⟩:=me.fm D6;obtain⟨nI,Ol⟩:=nI.fm D7;obtain⟨iY,Oo⟩:=iY.fm D8;obtain⟨mf,Oq⟩:=mf.fm D9;obtain⟨mh,Ot⟩:=mh.fm Ea;obtain⟨nJ,Ou⟩:=nJ.fm Eb;obtain⟨uG⟩:=uG.fn X G Ec;obtain⟨uH⟩:=uH.fn X G uu;obtain⟨uI⟩:=uI.fn X G nC;obtain⟨uJ⟩:=uJ.fn X G Ed;obtain⟨uK⟩:=uK.fn X G uv;obtain⟨uL⟩:=uL.fn X G pK;obtain⟨uM⟩:=uM.fn X G Ee;obtain⟨uN⟩:=uN.fn X G Ef;obtain⟨uO⟩:=uO.fn X G nD;obtain⟨uP⟩:=uP.fn X G rG;obtain⟨uQ⟩:=uQ.fn X G Eg;obtain⟨jG⟩:=jG.fn X G yo;obtain⟨uR⟩:=uR.fn X G Eh;obtain⟨nK⟩:=nK.fn X G yq;obtain⟨nM⟩:=nM.fn X G Ei;obtain⟨uS⟩:=uS.fn X G Ej;obtain⟨uT⟩:=uT.fn X G Ek;obtain⟨uU⟩:=uU.fn X G El;obtain⟨uV⟩:=uV.fn X G kH;obtain⟨uW⟩:=uW.fn X G rH;obtain⟨uX⟩:=uX.fn X G rJ;obtain⟨nN⟩:=nN.fn X G Em;obtain⟨uY⟩:=uY.fn X G Eo;obtain⟨uZ⟩:=uZ.fn X G yr;obtain⟨nO⟩:=nO.fn X G Ep;obtain⟨vc⟩:=vc.fn X G Er;obtain⟨vd⟩:=vd.fn X G yt;obtain⟨ve⟩:=ve.fn X G Es;obtain⟨vg⟩:=vg.fn X G Et;obtain⟨vh⟩:=vh.fn X G Eu;obtain⟨vk⟩:=vk.fn X G Ew;obtain⟨vm⟩:=vm.fn X G Ex;obtain⟨jH⟩:=jH.fn X G Ey;obtain⟨nP⟩:=nP.fn X G Ez;obtain⟨jI⟩:=jI.fn X G rK;obtain⟨iZ⟩:=iZ.fn X G EA;obtain⟨i4⟩:=i4.fn X G nE;obtain⟨x_ask⟩:=x_ask.fn X G nF;obtain⟨vo⟩:=vo.fn X G yu;obtain⟨nQ⟩:=nQ.fn X G EB;obtain⟨vq⟩:=vq.fn X G EC;obtain⟨nR⟩:=nR.fn X G yw;obtain⟨pP,Ov⟩:=pP.fm ED;obtain⟨jJ,Ow⟩:=jJ.fm uw;obtain⟨nT,Ox⟩:=nT.fm EE;obtain⟨nU,Oy⟩:=nU.fm EF;obtain⟨nV,Oz⟩:=nV.fm EG;obtain⟨vt⟩:=vt.fn X G EH;obtain⟨vw⟩:=vw.fn X G EI;obtain⟨vx⟩:=vx.fn X G EJ;obtain⟨vy⟩:=vy.fn X G EK;obtain⟨vz⟩:=vz.fn X G rL;obtain⟨vA⟩:=vA.fn X G rM;obtain⟨vB⟩:=vB.fn X G md;obtain⟨vC⟩:=vC.fn X G pL;obtain⟨jK⟩:=jK.fn X G EL;obtain⟨nW⟩:=nW.fn X G EM;obtain⟨jL⟩:=jL.fn X G nG;obtain⟨vD⟩:=vD.fn X G EN;obtain⟨vE⟩:=vE.fn X G rN;obtain⟨vF⟩:=vF.fn X G rO;obtain⟨vG⟩:=vG.fn X G ux;obtain⟨vH⟩:=vH.fn X G jF;obtain⟨vI⟩:=vI.fn X G nH;obtain⟨nX⟩:=nX.fn X G pM;obtain⟨vJ⟩:=vJ.fn X G pN;obtain⟨kI⟩:=kI.fn X G gG;obtain⟨hformd⟩:=abb X G ab7 ab8 ab9 aca acb;obtain⟨hneedn⟩:=Oa X G acd ace acf acg;obtain⟨hneedr⟩:=Oa X G ach aci acj ack;cases hfa.symm.trans kI.m;exact#[_,kI.bt gG,λy y y=>Xw aba (#[uz,uA,uB,uC,uD,pO,uE,uF,me,nI,iY,mf,mh,nJ,uG,uH,uI,uJ,uK,uL,uM,uN,uO,uP,uQ,jG,uR,nK,nM,uS,uT,uU,uV,uW,uX,nN,uY,uZ,nO,vc,vd,ve,vg,vh,vk,vm,jH,nP,jI,iZ,i4,x_ask,vo,nQ,vq,nR,pP,jJ,nT,nU,nV,vt,vw,vx,vy,vz,vA,vB,vC,jK,nW,jL,vD,vE,vF,vG,vH,vI,nX,vJ,kI,adF X G abJ,adF X G abK,adF X G abL,adF X G abM,adF X G abN,adF X G abO,adF X G abP,adF X G abQ,adF X G abR,adF X G abS,adF X G abT,adF X G abU,adF X G abV,adF X G abW,adF X G abX,adF X G abY,adF X G abZ,yB,adv X G abi,pQ,adv X G abj,nY,adv X G abk,nZ,adv X G abl,jM,adv X G abm,yD,adv X G abn,yE,adv X G abo,yF,adv X G abp,yG,adv X G abq,pR,adv X G abr,rP,adv X G abt,aN,adv X G abu,yH,adv X G abv,yI,adv X G abw,yJ,adv X G abx,yK,adv X G aby,yL,adv X G abz,yM,adv X G abA,yN,adv X G abB,yO,adv X G abC,yP,adv X G abD,yQ,adv X G abE,yS,adv X G abF,yT,adv X G abG,yU,adv X G abH,bQ,adv X G abI,bY,rQ,pS,yV,yW,rR,rS,#[vL,Oj.1,Oj.2,ab0],#[Ol.1,Ol.2,nI.F.kp],#[Oo.1,Oo.2,iY.F.kp],#[Oq.1,Oq.2,mf.F.kp],#[Ot.1,Ot.2,mh.F.kp],#[Ou.1,Ou.2,nJ.F.kp],fZ,n0,EW,#[EX,Ov.1,Ov.2,ab1],#[Ow.1,Ow.2,jJ.F.kp],#[Ox.1,Ox.2,nT.F.kp],#[Oy.1,Oy.2,nU.F.kp],#[Oz.1,Oz.2,nV.F.kp],rT,yY,yZ,EY,vN,y0,#[_,adv X G ab2],#[_,adv X G ab3],#[_,adv X G ab4],#[_,adv X G ab5],#[_,adv X G ab6],hformd,hneedn,hneedr]:Tx w K mg)]
theorem walk{l:ai4}{q:adP}{loose:List Str}{XP:(Str->Option acU)->ae7->Prop}{YP:aes->ae7->Prop}{d:DefRec}{K:Params->acM}(hn:l.most=O 63)(Bi:d.params.defaults=[])
 (hY:∀ (w:aes) (h:ae7),YP w h->(K w.params).In h)
 (F:∀ (w:aes) (mg:Str->Option acU) (fa:ac4) (h:ae7),(K w.params).In h->h.Ns ac3 mg->mg d.name=O (.ref fa) ->
   ∃ fd:agl,(∀ (s:ac8) (u:acU),akg s fd #[[u],[]] [("_law_script",u)])/\∀ base:ae7,(K w.params).In base->base.Ns ac3 mg->dH l.prog w (K w.params) mg base (dY l.prog w) 24 fa fd ["_law_script"] (pU (K w.params))) :
 alP q loose XP YP l.row.toRowW d [] (λf vs=>PySem.call f vs) :=
 Gz.SJ (k:=24) (x := "_law_script") (CX:=λw=>dY l.prog w) (sp:=λw=>pU (K w.params)) hn Bi #[Y,by decide,by decide] hY F (λy y a ns hl hS=>#[a,ns,Y,hS,hl,λy=>rfl]) λy y y y y z=>HD z
end jE
set_option hygiene true
local macro_rules|`(tactic|walk_at "f")=>`(tactic|(refine' Gz.Fb.mk ?y1 ?y2 ?y3 ?y4; (case y1 => first | (show _ = _; k_is) | (refine' ⟨?y5, ?y6⟩; (case y5 => k_is); (case y6 => k_is))); (case y2 => k_is); (case y3 => k_is); (case y4 => k_is)))
local macro_rules|`(tactic|walk_at "l")=>`(tactic|(refine' L2.fq.mk ?_ ?_ ?_ ?_ <;> k_is))
local macro_rules|`(tactic|walk_at "x")=>`(tactic|(refine' Gz.XC.mk ?y1 ?y2 ?y3 ?y4 ?y5 ?y6; (case y1 => k_exc); (case y2 => k_is); (case y3 => k_is); (case y4 => k_is); (case y5 => k_is); (case y6 => k_is)))
namespace HK
theorem cut{A B C D:Type}{f:A->C}{g:B->C}{a b:D}{l:List A}{m:List B}(n:Nat)(x:((l.take n).map f,a)=((m.take n).map g,b))(y:a=b->(l.drop n).map f=(m.drop n).map g):l.map f=m.map g:=by rw[<- aeD n l,<- aeD n m,adx,adx,(Prod.mk.inj x).1,y (Prod.mk.inj x).2]
noncomputable def q:PySem.Program:={ PySem.Challenge.pw_gaze_k93_whole_strips_of_a_desk with main:={ PySem.Challenge.pw_gaze_k93_whole_strips_of_a_desk.main with body:=PySem.Challenge.pw_gaze_k93_whole_strips_of_a_desk.main.body.drop 142 } }
noncomputable def l:List acW:=["_wall","__name__","GazeError","NoStretch","NoBoard","NoTelling","NoClaim","NoEvent","TooMany","NoRule","NoAlarm","NoRow","NoName","is_crossed","holds","meet","common","hull","by_lo","leaves_gap","gathered","EYES_AT_MOST","TURNS_AT_MOST","Board","number_in","moved","narrowed","stretches_at","tube","course_in","lesser","lifted","ceilings","crossing","has_part","check_claim","stretches_of","paces","wanted","marks_of","marks_without","groups_of","clashes","choices","tubes","places","sign_of","row_of","drawing","FIGURES","FIGURES_AT_MOST","OPEN_END","is_figures","is_number","is_end","is_formed","end_of","shown_end","shown_ends","LAST_TURN","SIZE_AT_MOST","outside","failures","joined","parts_at","Event","Spanned","Stayed","Over","Under","Rose","Paced","Turned","Paired","Both","Either","Nay","Lying","WORDS_AT_MOST","FORMS_rules","end_at","tree_at","ends_as_stretch","event_of_numbers","event_of","read","without","eyes_of","put_aside","branch","paper","ask","seek","verdict","lying","reason","FORMS_desk","NEED_NO_BOARD","NEED_A_RULE","SMALL_LETTERS","LETTERS_AT_MOST","cut","check_row","parts_of","is_name","spots_text","strip_text","Desk","_law_cell","_law_whole","_law_number","_law_pace","_law_sizes","_law_course","_law_word","_law_table","_law_mark","_law_rise","_law_refutes","_law_within","_law_fitting","_law_answer","_law_end_of","_law_strip","_law_drawn","_law_told","_law_next_day"].map aj7
end HK
local macro_rules | `(tactic| refine $t) => do { let s := t.raw; let as := s[1].getArgs; if s.isOfKind ``Lean.Parser.Term.app && Nat.blt 18 as.size && as[4]![3].isOfKind ``Lean.Parser.Term.app then { let H : Lean.Term := Lean.TSyntax.mk as[4]![3][1][0]; let c := Lean.quote 85; let go (a f : Lean.Term) : Lean.MacroM Lean.Term := do { let mut ls := [a]; for _ in List.range 9 do { ls := (<- `(List.drop $c $(ls.head!))) :: ls }; let mut x <- `(List.map $f $(ls.head!)); for l in ls.tail do { x <- `((List.map $f (List.take $c $l), $x)) }; return x }; let mut p <- `(e); for _ in List.range 9 do { p <- `(HK.cut $c e fun e => $p) }; let nm (w : String) (v : Lean.Term) : Lean.MacroM Lean.Syntax := do { return (<- `(f ($(Lean.mkIdent (.mkSimple w)) := $v))).raw[1][0] }; let q0 := as[0]![3]; let q1 <- `(HK.q); let sub (x : Lean.Syntax) : Lean.Syntax := Id.run (x.replaceM fun y => if y.structEq q0 then some q1.raw else none); let y1 <- go (Lean.TSyntax.mk H.raw[1][1][1]) (<- `(s.heap.get?)); let y2 <- go (<- `($(Lean.TSyntax.mk H.raw[1][1][0]) w.params)) (<- `(fun p => some p.2)); let as := (((((as.set! 0 (<- nm "q" q1)).set! 1 (<- nm "loose" (<- `(HK.l)))).set! 2 (sub as[2]!)).set! 3 (sub as[3]!)).set! 4 (<- nm "Yf" (<- `(fun s => $y1)))).set! 5 (<- nm "Ya" (<- `(fun w => $y2))); let as := as.set! 9 (<- `((fun w s e => PySem.W.Hook.of $H w s $p))); `(tactic| refine $(Lean.TSyntax.mk (s.setArg 1 (Lean.mkNullNode as)))) } else { Lean.Macro.throwUnsupported } }
namespace PySem.W.Fast
def Z:=Nat
local macro_rules|`(command|#print $s:str)=>do
 let mut r:=Array.empty;let mut n:=0;let mut k:=0
 for c in s.getString.toList do
  n:=n*62+(c.toNat-48-c.toNat/65*7-c.toNat/97*6);k:=k+1
  if k%11=0 then
   let i:=Lean.mkIdent (.mkSimple s!"tw{n}");r:=r.push (←`(command|def $i:ident:=Z));n:=0
 return Lean.mkNullNode r
#print"1bLPDGfU4hT6ZMJp2z5bSyGttowCeCZ3g96V8uWHTFim54GIZlD2Y5F9LJ6bYfdcROKaVi2pxksvYJxvx9esxZK2EoUlSoQNjEfLTNXpSjavzQD28cmsVN9UO4a8J1Rl0MK44jcCu9yQY86BAp1BnnzPLf3aOLRbYmk9SJuASAyYqE4r3XztUnYftNvGDdgrump6X0AHuNQnvydoF07Vq7xr17kE9iMSTjbhFsYKxsCHU8fUJCJitgvDvzHhY7IjocBeqNO0BQDNVxbrfpQIWx5cJ2gGHqA0OmC7OrFUY189paYSCGsy2bxADrN3mYCIqsGLnLbAhmLGdjy1mKc1sIsFO00OcUFoBTtYvonu21S3bkEd0762paAlAvt0x9Ig703oKHiwYuVYCkaRacP8qNSGPrMxh7HJLRIyMOjlGL8A53fxepvmkteP9adyfLrCt3rCpw3jipTLS88UTc8qcemv5D0NgouEnNsLHHtaJsMSJ77IMxDht6hSWyJ4jDtr8CAtx9GPfAs8qCKCHOnVlsb3YrK2UE1VDLEnvJGwjHg084hsTAWgo8sq1DdXELgUVhFAp2eHIwpD8LNpELFHBoe4dEHoe4oLpwXGaQQtEsI5QGQ9uWy60t11WYVvIJHXzEs97SDO84D8y4tEmCBk4PsRN8FZqHQ9XV5IRxEswoDYaK9SuTqsiKIeAIoFBKgtHsHzm1Fj8iiDhobDdJlftRI6Y9QRL9FntITkrLNEspaX68o9Pl3LXMs4khWFQzTpD5IipUBxSxXbWAKqvzDtNPXw4DibU8UT4pz6dKHmFiukFv2vAz2MS7K9NKb5gQh91jPK3bXhz62mHvEIZj6OEsT6q026iZujxf44fDQZm0Ig9cUI9q9kJ21xhmPIDuLiYpEuLVCbP47CU5zOgAd82RZmNGUiARIOo8GkdkkCnUQeISuX3sFNllR1ruQ6t184lpdxKdokAyBLKZB9o6f51j6MDLQrYO1zrnEdiMty3IlR50ijoHKQ6R0JLgZUdVy1L8d6LaxMJAJq3Bwniw6MBJJ4rcgz8Z8vGzlmpitASwp7fCqnNlYdL6EDDNBcpRh6nJvHT14ijRquGrv9CsRUXv890xIYltQoK4IoRjMvlY6D56QcPGHGqXmn08eBTh9i48X0cQhSqgWuObJ15n7w8hzzZ51PVt935WAWLlLs4XtqsK8ADO3EdRevCb5sXgaAkdEmhDMxuzrp1A29HdGNRoBEAKl3LjXniMRB4jEvvbhDBgXYF5DjONvFBKCQ5m3XDyHCHFNAIKAlRwb6jVK51CuQn4H551JIoc86vMQe0leTfaqAHO7C7NudQJXWmoE2JC0cVWynV7rQoBmHXEwWJeZx16M2Cp81o66TZjI98iLo5EAACx6hE26UaJIZf3oG8R8Wj6iKxaPAtKKWRnneruDihunIVyfJf3QIGZXGoLRSH8EvW42n6pGIHCWQ7lPaTQEle3o4AU9qUJjK3cwHiHep1Yi6aho2aut8ld4uiF6EnAKh8IR2fiMox8KM3Mrxmrl4Ctymyi9qSkGJooFHZPGHz88c2XmMw3wJ7GW6J9siQp0J9syc8txrcr13G3hUwcriQaDfB3ohYm4a1CFoO9fvXPKP7bliJ4mOrGP6G0tkZErXjuIfKSclHFsRrDGb3bUUDAzEDKIIMk1XoPX2o1VkzwjPLUCYAZrLd2eBkIavd9TZdZr9C8240ndjrL19C27iXXk7ti8smutNcoZE35WpFMjm7jjX1TQzKN2NMDk4lHDTsJqg3uFQ2qXKeOSA0Ex3u9ynpRxD26QCQggSAZnGC1hIn0rcug3eHG6gBpm3l3g3YF5k72CT13PeNW0TDcuHEAoptUP7NdDJVmkN6zIZSIOwGyDxlxEs1c1dPLYYXutAYl9HTX8WP6Do82YfxNKWYLDoiUk9Ca3t9g9M3LVe9pGGjKXizo7lUu3bivmHsO0orK4Ad3SXA2aHDyUJSr6GAJn8xn2D3Yr5wGCzsS6cSnib9JNVLQWVKkvA2veZpkanSzt0MmM8JtKumPD7O4hkLsiokKguAwGPChT85i9rWzWQvHWA5erCi1Qhs26PGfkI8V6hUEpfxBd7LGxDKfnYgen9iDMJEedktkzhXsLdDsx7vwiCBCwyfEIMmVpv0eM467U9rD1En7YsT5nugvF4jjuPlk2Mb64GvBKXotIW6eUOXL2Ts4o26yv9rldLU9LcqeeFe9dZb0nmW0LYcA1OGb0oS5y4CNjEj1uBH8MeME2JLTlt10XmH1iUOK5ec8yk499UorMk4aMEqbJL6SKPbmIVrsl9XKrgU3FMki0S3vkz7uZtQZ8hvy8GyQEWKnZXbCK3e6CxHtzRWD5yOdoarjZPDYMrerkZDFGCCFFk76qIOpBk779ApRNO5FEtedCNhcLCAtGpdFJGTo0IZS9uDKajPw8I8drSgmoQWIZe87kJSSUS2d6kXgaqEv01VtU61e95emJY9BHKmXfhTLogbKAsYkFrABhQ3BXfwVx3RIlbBfMMxr68zYNOYZfgZ5tGa2DrxHxRAndP8HGo56Q3Dk0mgLWdBj1jjzqdtf1CrLmBt8IeaJIC2hAAI6e3JOM3W8T3QCcOLw3fFhFkm7ZdQDSH52mrDNkh8tbNHXB7Q7PICpzRtKqfE1E9ObBpG1UWPKdlxCBIlCt94rhSnYOSQ2IBjhCqYHLGvX0PLu6iamI7GIoVpahGJ9ODIC0fyALn2T16iMLE5jAryBBPMR9r3DfjVKnsbw2JwToEGCFMhf3mWRrEYzjsrQXJtrFo7f5eHErncFs6K9x3mLgZ8D599Hsp1Nn5NZeSxKsgeJ2Yr5FgGVgjl7Z0tpp9FDA0Em62gmKcmFD8IZq1pCU6xc13eAQwEtkVoCxafpTAlTxf0R9PBSvoeR2BFHkyKanGmP2TBhbLXlKuS0aY0LpWudnR7g7o6PjD4wME691J3rJ4Mj3bBvUAtQTN9LX723bNY9Cf1FjQP3gUeWJH1X2gylzES9CgBdsmjbYhgB5R1MstsqOe3sCfS75jFYw6pX1vHUFPT3DdVfkUJNwi01wWQmuy4iIUBlNhlPhQw2yKWm4Hv61TJG4LTj85Vw57S8txjQAus9Lq3EMLiPJyNBd4SnRANdYs6x04ORjJ18Sr20fUAddagSAuKtdQ7bCaXdE5XTyVTAYUngGKBKKGUeSLMGxe9GFVx85XGgKfu8VMVArAhRy4FNEtXBFFp0z0OHKRiF08VVWGc03JCmqhjBBUOWU0xZfFzmIAhHK76oz2Fn7ZPGnr5nT0o6aoJLBHhfbhwiQ1sXfqJ9HSL4D3UvwcgYmiWKJhrwpAmg4lI2eQ0dywdDGCse8M2iUi5J1tAA01StCWy5XLHoRyn9aYGpBCNL3oZuH3fVnp9JXlLtEmUR7rZaGE8HKygJUyxXrRB9e3AATnBNh5KNQ2kxTtZg13aKl7oGtoU9mIQkCNblqI0eogjO5FkMtHLZr55oK3S0AwNi4v46R464gOfanXI1985sMaxMWg8ocEjGM33yOrTZLYv51exentY68rx0FWzX4O2qUzF2sKuRmBAyTIefCIfS8gde560do24LezEeGgMx2qIzkfbQLhghjCTaspGiKYeU0kbRxnEvvXi1tEvAaY16jZ8PJu1QUyjlBLpLotkvQxQSHkAVNqmXyN14tz3ic4cXbI9ZjJqkMXJ5XDwCTjEpSy6eDbt6LPrTeTVH5geEko0Y1UAO4JWl6oUSkBn1xZBt8hGJ1qBYiZXR5DB5yfkDwhT9Cg3dq7gHPZ392HJJ0HjQV3th9gutpHc9IPFHHASYHH4EuCAoeoPNHXTMV1VdeT845qsEGTyXEyKkHKSKu6P7gvST8C69GioX3b7qmLeTvHd3asinBQbS9l6mqzb2ZmXXKsAR5FCdUovRvhAzFGV6kbxwJiV69GtBObNEuvrJB6AWukAUoUJaPU27T99x59mguVsW7AzN6y7WualyrOP9BVqXLnIktHJCQgyv5FhgcJnJIpJyzrLX6fuUdPksyc18pjDaE2Gi5lBqf5oqKRmke2xVBQCHoAXL0KbOMkAwxdr1zMJbkohHMMKT3DsbuPaX3H9dsUqZKDSe3DhYQKbB03JDMdX6ncAE9q81EQzCF8I4T8Yg8ec1akR69vXwKLaObeM7U9Hw3UW6fJ3LG3cQbxUKYJS4BvbTqlanGYxY7FKA2BUBpI9MwTFaHJAaUADz2xVk5HcFqQXyQziiCdpnndobDz34h3kJE9r8gcJzS2RZhJiOW7Odtot7jTR3JdXhbQN66Vp1yzoMFPAnAc56wUWrkyR1CBR1qJ60H8NM1lFufGWnYF0Dr2G1TfFyDN1FByXKItom016iFqpBmJVtLHb39tvJIJAFHGVaUUuQ5d8yFxacQMMlQ71KPWitsZwX0kyD5Ti0J843doFcu5O8iAE5B4TclXpLEFwi50Irca7kEAp9oNiljiU1M01zw0X3pbJV1F5pA2TXYEQthlduMbtiFP4UtlkgJjmGd38otazhF46DH8UQn9tUI6reCRw577xd7I8FBWqCxrl0yn8Ht7LwWcAtfk88iYrgGLX4dXDZaDrj6ZNzvz6EuipD1bJ1HtgHYE7d8qu3465lk036HIeCRJKWLth7kFfUgCr33RWQaNBA4f0OSM4dLsgqXG7fh3F7nAlx4XrhOyLR9Q3AhFBMYUmhtZ9kMdGL4NKa0B1Tw8l831w5DAJRqQLWxoQ4BEWUFVYlSZ0ZO4wchw2kuDPlAvjVm3bMCmAr1k0tbVt2xbbWzsXQWt2hYbmsYtnNHCZ6sj6PNuwtG7EG7tkkbnADYtdur751fA4xqAWhwI0j4Jh5hbuwX9R16J81PAh4l8d9tSWopsqOePLB9R9dRzVC71NhFcy45LeS0igPDhcqKX7JaK16VbrU0eC88WCX2NYoq8FUoC2cNi8lAI85gf62IJjLmpkGAOY3GdAshGmQRip8tLpkFgMwqKlOAWZak8I9Y0tH6snZrdOZvbG5KSUX8zGrgGsvR4N6OEu0KVOgUXGjp7fGwq8sZbDxyJK5Q0UseKGx6F4YchqOroJd8RjCrZ2YZ0JJTI3baSCfpxJbyrlOKNy7XGifaoQramM2HaozaBXunfGDKMEhHjkTzMCzPL0jvyTJ43LIwNYJYDDb1feOlNkjgP64JhaxCwcrvb49sQBjJCMGs8RPHaU1hI2SAnGhbLhT4bt6pWOPVsOD378AqCNsFllDC79pJqWqETUu9lH9eJv604RHBSZywQyX8c6Ck79XWWWGA7mmaRyTQjhNBRuS5BH5qmbBPY50CsKUlIAnZddPJaVMCGLX0lYKDnmeJ0RhDFBHe1l6WIgmSyjXT36PiyA0tLpzR2NsG1r0Ybh68u6P6AxWhhF4i5cCOHMgQwE1i48o3a2F60FFab7KqZ7g6ep6SOI79aDC66G0XJorKIJtSRFazYVstAGwgmKRlx9p3F70NCmuecN8GI2d0FYaRDBAvQj6ZfHlmE67a5VHWQS2HENSssRVJYZ8QeO0uAp4dbLCQ1e8RLAOh54EOXLjplUh2NJaPqrZU6wF5pBY0zuoxhCS6CryEDD7Q5vmHjolL9gIEzC333PiCU4HXym7tFhLOZIMeDwxSn2UH5sQlNpJfU3R6x6zrWfrq9c0q1Ua2hce0NIbx7X8aVOgW9XcgwFJ2bPx7EckiXVeVy8J4gF0HoIMKL5oNHplrCmE8LkuKrRkIQHK2S4WlnIXOdxHNcrt2e6oxoLLNW5QqPySfIHJy25OWajD9VE06PpkBC3ANaPlXohgr04uULe8pzsUR2a0FPJ9587r2jqUiEOeSBXLbMCtugmWBzKiYseVTVfpt2QalVKyLJXI6qorulWrU9H3Akm2L4UVnGLHhjY79S8Ex9zh4rG8f6JTG3o3y839JTX3wofJzAnAAZ252bycPc38Q6K8xS3VhH6Y5fEbfwlgdaXK3v801yq7eCB6HHjjiFOGcIEexaMLKdQb6QvtHvIADGYEZblfPEqxi28ncEYKHOfhULG6fSLJlxEnGkKgGGXyLcTHoemECTC7TtKFnRkTUOaJw5gL16m0OMldL7YXbgLzERA4lMjAMwDDSL97rBYKbYLu2EFEDgWM2nn0780EE8cdbyUEXv67d99qUkBGgItbwNq0jARX8BRTP2v60wopam0c5kC6bxc00DDqXYADGX4lgmdj4Lc5TUfY5gOA1IDyQxAKNsf2oliC7vUOZ244VWgh05Q0pKE0qvHsLbsu8rJ39Oq8AqXHB4Yds2e5WkC6MGb2ym8RS32MPz8gVG35BNCC9sVrULg62g2mCeINAH1fjfolrh4BdLXxtkBKjr9O2pv9zuk8XslHQtT9ZDx8XyKqMLMiO0zbq8RgBnpK8kOWFZKphjvQeYG9Ts2B7fOJPM0LOB3LJAzH9ChwJbxsEQvrIQwQA5pq4bpJzlkLiAi1s1EW61Ht2LUkSF8yK0b5peEvFyx4Dju8grw52Ri6zQUjTc85XdF7nhSgMDPSHCC0dsm181rh602m02a3MBOlcQAIl054pgFTFlWwrHwUuaCNKZXmEaShjFXOGQJ8oMh7QAgbJD6eK0wqIBK4MIfmKpKPVLSu2mZqmyUD4z9F14ZHHrH1sp0EOku7mY5I50HljByNm8ZMBdHzzsFxzEm7tHurhHmYeQKeuGa2bgnDnG7Qon2habQi5dZ9lWy2AbnFE0ez1nZqcc6g1hnZ4jAK50S0z11ADPd38a4gS8cQFwGBDhOU6fsH3X94qddtBeiCOAcsJUzOodGzBOmAVV0YiH7CS68UMBoAKCDaLQzCwgcU0ECC1qmSGf2SE2P6Bi9WzCy2msrglu8nBt520TP48SlyQ75eaCiMINi2LZsssQbxm6M6N7xWUIV6S1HjeKruJ7205KYGJVImJweu7GxYUlZi7mQB1dNQZf6cZuDRGzH8ZdNkMABy91t92f4W57iyaq82VvD5cJRgXwcqwZIqO9noL70sKIOi7KCCBGSV3D5M2o7D7EvHJHe9eYUSZ92pE8cGsw01N6WhcBN9fiaLJ0h98JnF4nSI2Hk3f1pCITGsTO50TXY4J7UJ10TG3S9f0RxJoC8SkQdG5m0NFly73C9iVC1agtv4dAJmznZfK570Jc93KNy46wL490lrdfLlIIJ12jh1WZaGpFW1VM0Uv0jiGml48Uir3U3Ej2493fe8p4C2wIQEsFxdu6PHLgDdaVAxKjDYHMz9LDD29vRwy0Wl9NByB0AYQrrX212UryxlSTbwFljSjQPnNOyIgxBixUZT6367WPKoOchdF8mCCAvj0Q0534IKXtBHRjn8acjnbN1rm312qhT6kn1B3Ltoz7U5VlIxJnj4AFS96YkHP6y7hWXNG91CWRJMPb418KSWo6fcWEHQ8iKUhdtk96JBCrjVy7UujnHdNBGvtcBokFiTxuamQDYK6pK0AoP0MxO2cDKgxHhX4PHbwNzuzLxLDFp9yvh0f1TcIbLSCE4wV901D6HTE2JzcHCgimk9bOhqo1NmveXDbLCJ0DezVHeqrKK7KgXsioFDXp6Fg7ysyghtyJ0ncGfnVNCA1GlpqmYtEgWLX9LW212tXQBUI7SExrPLCHyiT5CQu0K5Hji5sVsBjzS3knI0qoDUn8JcfdgfSQeXmAnoBfPWNavkAfp3w77VgdD5RbywjMu8tx8dWA34RdbHSAK0qAnB5qlOGf07UbMbmJj6L8MRdg7STi8vSw8nl6BVcEheAQ3SswFTB7YwBcICVoz4FvYE5TyYIV4rynbC3Mm2mLhEcO96HOYEK2INHycPysa2SNTeEwkDYu9nvbbbKMjK5AMdyYV15KVJIQi4cOIdYoTDsNfNuoFHp4KiyBkjQJ6DhKGv5HLA5CHF5QPz5r8GJLxB2NQZBG5fLFKWHkrneisqi03KMPTnpAEB3Z4bh2vDUA03hPzIIL8hmoJmj14KUQAc4DhNJouKjuKoEA3nJPBIIia59sIwInjzso3GeiLApBIua4JLMER4gHJ6JbQVplYvaDhHzwyfPFKSUn28YIgMP8wlA9idYTQgB92CExAoCWUJYGKHlY4TmrbX9m9CGW8STDrV4CkteYj5EHJD79tMjYKmhXo29jnedLEqNK5PwhroiVFZNJQS5pYfJFITCD5WNlzqSm4GnjbiGUZMrL4o1KxOR0eif5nmWa7tic3T1dYnImJlmj5Ixpfm6xo2peLEsBIuspIAq2dIQ33YHubkCLTHpbkKv7Z5yAxLaGP7vM1HBKuwybFr65ehPgIeBSp7FKAUMJf0BT5Cuqnc16lrePARGikzg0ExBLZ9IoMPM0MQ9C2SwRYU6abDSufWijL4ZRE1WQD4jUifwKW000HZzdgOFozqZROw1oa9I6SqQPsaGv6PdgFfludHdJIB7IT1f1kT1W1kqYvMEJNLDNZKgY4iTB0Osio6TPoWg6vFJUlEudovHUCLR58y6uK8hEOlhbDTJ5HiaXPWjHoO06wgPFCPeJqZKcWH7wlMqmxGSPYogzExPL6mx5kI5qMYc2OYfHKBwUNx1Yy6WhV77ffIYD5ApnKMtn1gpW1SAGISo76djQcnfvwUFA5h6owx78zIj8HkqEyL7u5Kb8jojfxBhA2AdpwpHfiGDfLTuqHPMpGERklB5SrWc59jSEnvQOn5VCc3ibMLQ4v9JfMdxvnFPMVGZvIfLYfXyS1utcpvgYRIF9maiyWRChmG9DJ0RHoJyE1E71d9SJ6TEh7OjggLkF2XCJB2Y3xpCmmEIilcSrstiD5EwoLVtU5YKcJ452klBdNuz8NDYILUFCF6IFDjdBO44i40WfY0TdL9bhH0a9VMmaUXl4ld5jtygFjq45dM4982W03H7g7RiAjk0o0McOFs6kRJVIZMAym4udLK8Va7sHlNe504pepHCfwHoQAXkx5GItuzlA2iebqiE9ucKFQd3gZUhTb6RzzR1Yeb7PBJaFCoy5gBN5kF723BjZ2iGHtdxTxdvWUI32SHsWhJ3bKNpUcinWd3C88lNLjRKDGRBS83pL0CBkG2ZGN4gaSJ807ibU09aUrFhHBu1WQSCwoK2tD1zjpJNrT0Cs0D2CM784CzFjB8dgKRD6exnRcC3uke1niOpPkfxkm1Bwrf9hYexB0etouSdj5WGG9eNzeDzJFAD3UcN55kDwK8frqMLlKTdSCFZJ2tnLxK68jCBqtv4Ph67n8ejiiRKINLKAnSByJWOkAqUD0WsKfh8HBnq7rOmT5p3LLErs9CahTKnkOXW9XkTYI5fms2VFJ8Y0UyF5t4yZ5s5tEqISrFZM39RdRGRCOoPAAitQGoPGAysCgpb0AIfZOS9BklzBpAwqO5yRElRCpCqjCtE4UDOFLo4ARdMjiiJ6tBCU5mBl7CFbD2TLS4Lw3VQCFHfpqscHUhu8epiuXBBVk8F3sXyNQ5gUH9bihhMszCEB2ZezE5emuJ799tzBAqX3ce8qNSW4kjDVn2fonVHdMQPg0azMPklFTluAKl6Cv7fpYg3UyVSRXF7GI4RTvb0y7l5O5iLrqh2BmZKDLaVDhRHZgYHrVsW5xT76UCG4IdrG7QMM1XwWqJFJq9tJ7KX1AVTX9e03b1HlUc6Z99oFpyBeXLjoB9dVpPDLGCz8hQhtxVZjvF6Lay6rkopGTLGeMiJYOqyP9judNDRK5EiFh7qyR0e3N799Otv2UOurMBBXa2I7OPIV9hOO7KfIXhy2gnyKQMk2j2HWVOyVU3PBA87Kd85TGBd39yZt0NbISiS8TDJ7ItrJ3R9leuXdMgJViEYjZuVl0iwq9yvT1zVpg4CJV3gGkKlzRzC3jNDB1WBNbJvABPWmjAuk2eLBSmShorzF0iTnHnhw0SImEQ8ldNMlxCEzMPMvH8Ge8ZpM8DavJPpGie6y80WJ0G49rkxuSBuJSEVrQeClVQ7UL8BCd1DPiGUBqAWurKa9hpCI49sV61TSQ93uPks4lzwHFht4vDfsSp7J7pYi4nacM8EXZR6m1xwHTAEFyczpA3GkG13GNCkL7fnEDsEjqE1Hb3AbZ9xgo4St1BjP2pJht8fH3m5m0D8E3P55tmEN3P60XYDFe7gxKbF12IixyA2YWFBtLvXpu9JCeJ04nTt2jlbWbNAxPTSkVe7Y4GoZyKk8dPwyDKSRDpqOVdxAmzFWkmcuW9HaU6C1jrAGw2OMj35crCxvFxGGHtAWicoGf0VeTOsidq2DmBZtFBRUrJj1o2FJFapd2q6fs6UKpCiGBsbZBSyqEC0L5yqDGq6ph1QmqYjEPPNO7CzronygKazGQaIKpelb3W5NMTvexGCczBRZSjPHjd5i7WqiR2rWMk8HiunRtt16wqK9YyWNkZP40G3tLCm3NClD7ksIdo5ufCr29iHXOcmLOlAIND1tkFZ4hGBW3gpoI3w72qJj9S4lCDx05TD1jQzhiR4llFjNebui93qjRuMVgbBzJ99JtuZAKjtKzBWbLtB1NxDvCsq7sOJ80LTXxm3P6MfpGwvzKZ6e6uo41zhGhVo8RaIwtC03b0Vjh86G7lKI0e0iEZ0d5M9fusJIdv4MujAysjLDhmTTUwkY6Cm3A5I0RecG18WS9blgiqb4logevWIhErIhk49EyU3BXJ2KKbZEl2OLDhAwrCPRHO07ged9FylDxWFPgVqQ1vQ1gCyMX6TRFDtXDo4fppYyUCvJaDDWuamGnrKw9XRV7kqGS4SXCp2aYONP9LyRNvbFRXf9M9PLrc53DY9YywmEz2VWE64w2rVVHmNt6x8F2VEyqkrF1imKTiJETI8YzjBKlcekEI31LzBegyA4D2Ti84nL9so3Vz6B06Qobh0kZfkdDT64F0zpOG8AMkpx8UXCdMfWfA3EU2RlGvSZPCKFsLFMZcLvKGEkHoRheVrtACA5LZmWnjIEu9u3U9jZxRJwOfH2MeTP11M9kCSOk5nXELoEDYm0Y9ZEcA2oDF5YBK7tVIwsoDDQL7TM3oTIM2yK5Syr1QwIRZU8t3pjzWHCBJ5EZo4BOdDwiAsTbOuA2fZ4LVsUq7Husec8jvnHFcVOmG0c4Edj7t77CBIVyUwRk1aVGKd4SBK5NhS6OtSZ5s1KZlDUNDVAtRICGEHlgYSnA6Ni4pfVyL3bkDU5crCfrPRLmeLcv5R7JHQYj3yqySBIIZRZAcTZ6cy0s2t95RbW1WoLlOH6nlO3GIgiP4nrgZUxScT6BU9O3PD4iYRA6RNULHUpypD3EWrdaLTgZESoVl1tSSb0AZzXVAiSAijJGsiNcEOXb8HghSM5fiXj8KTTwBopuuj2CbrC8Wh3z3M1SoF5BZv2GUG2OQ0IrXNOR3MHTHHUr6mp6Te3gng80s88vqPhF5sGwq8zzBWMRSyEICJAXlWJn1iRKFTx6GrKMEh2qPUJ2Uzmyh9Fy1pUXhNNDFj6gZXqVeqTJD7DgoW7hHPArLA5brCT1w2rsDRrpmKH4AaVGBoGxGxC0VQwkfT04PjCKgbzOZkyUw1MqDifJ2Hkm6RTyQQqSqkA27OlzBPacvc2AuHofWpECDEtJOQNkkkQZFQC1jFGr58C0ot7HRKeFzm3PwZFroN42I4lqtOBa4MsD9NEcPLIVYId6lU6P6ro4WM2gZWMUNRNQ8DIYGgZlTjXaGtXQP7iGBm8KrtcCyFzcU51wLaMQL6KA21rUPDEs54WvKLcZRrWzien6XtP5nQYZ3hJVmYniLLwV1JyEoH6cogzv214MldzrR7UC82sNpulT3lIn0esNCX8JOKtaz5Pl6wPw7ILpddkIHQE0MZ3BQWAMca1S0gRQ9Vv159jcPcuKLB0Y02DmOegHhHW9Pi1cLlvbVB1opHfKw5aQdKZmaYi3VqQNClpBYXESQu3B9or4FCD8TUIPscfV8Iobj4B6SDxeSg8nBWeN2NQJxzg7ZfOBOnOCbF9TuJwAOI1UuGyr0qUSWTB53YY3wG0Oi5X09m0fTJobMN6m1URofUtq8D2DcnxpcEo2EKvGvCL4USB8uXA2JVFFRXHRtsqIu0eAmK9uaAJwWxjd3ZsUuMuIc7K7QmjMEJIZwQBZ29Ud23q3d9kj7TaoZfyxAPyk7TS7fpF8QFkJLWCQYSJX7Skwb12nI2qXbxJk70MR3tZc2jLMqJ08T5g7ntwfH01nDOaPgPrL9JCecu0Vxv5CDz5xjP27q8iFXV4lduhkOPIYNlYdPRz4832iXIXTjn18IcSmeSApCZzGd2CUXagM8rDIx0cIlBdVjAmICG4TaThF11MASACWuQEH8Le9JR4rZg1UcuipHcrZm3TJdDOTv12sGUCUurpGZJ7KJB6UIDj62o8IjRGIxi6sCHrxJnJLsamP9PRQHephuB4CaGjhArGJu0DQUfawBt9tR6HBKeThhXkZIwPjucyX45aJPUrAySGRLyCV8SzL9QyWZEqTtSjopCFfJyLUVphjeuz5dypCGZX7qk1fhvwISWymPJEHrQ8GxMs3EulUsU8XCWrFEvf0imLeQ6F9jNvcPMjkq3mRaQ8YlecCBHEBJPUoJhH73VoLkA6KQj2dye0BifgtXJQEvbpE6xf36d4zKFuwOSh4G9Fgevfo911IEh107O7A2Ble2RB479mJ3lU5sXckti1E7rZIrtn2AwLfSO7e9nPfnGuBRNl2UR80ISjjFtm1s772FdPtcYWHzCLgvfALqpspDBIN3CwFLT2pKFMx8zNTc8q6fnPPLRZFxM9e5WaxByM6V02419WaAsIhFLR0UXnq8WLFQxHKaYaqw26z5mQljkWvC7GZffoqiOmHDSdf3AGTnutFUk2EyqKJEn5UtW54JSDnE42L9kgMxK2n8bXqXeBkzrUJMCDu0DOo2k2g9tcexpI3uLWvPkDVMpaL7bwsgCm59yf8CEpzOaJEc05jcfW6T6diWF2FNkS8lT0XIZriH4JyYgV4ocqIxm3vUN9ex6NHpW8vB078WqEdZkiC8MZdebkvCI06yaCqzIQvuX7gCc4KdlV4N9Qf1xzp17K6KbdRVkB5KcH4NFzkQIYxlbAv4USm2oLqrAqEEYhKqMO2DYTCQStp4BK6AI1HqWpCco0LR6kdLJBllAcqJ1NRVRqcLgb7Tcsiup1Kz933jnB9sHJjB6dRfvn7hFdAW0BxzuKQFrRTjZVdMdKKTdLnSlSROB82VK0IaqXhX0pCNJKMu53h7qCbwmmEps93T9GJciIpcvCQovMfoERNdF6uAhskQBwkJIk9RGPAkI414V620LP4Ae5rNn6Pc7lwx4s22VqqcZ5p0rWivwqRDrHKIREFcPPDbeAYkHMXPpYFiDpghYCPeHo9L3q0SpdZDK480OCfRMIrDAB2SEqxPIG3Q6u2QYhMJTyh3yX0mtzrdkDKcTP1CV8Iyc6AF4oEIrH6vAE8WtQxK0MNDXi5L1S8tCxKqycjKteMB18lv0ktD1FzCJjrJh8LB25l4GyE1HadLPn105JEGPe9M0FShZJdDDSnYFXXeAFVGn0YDGsg35ya5aeEYCRRmkDbaYGf7zLeXVNBbKrW9IgHuW9uDkWZsEZBJGM7xZVP0MnnsLIhjQVoz53DV6GnmCWE4u7E9NkbjABM9G434ffMDvGQV1G1J64tHUxy97idshdRICDyArMVpZPWfKiCEc5kdH15wT9Auw07MmNEWJG30njrumfs7aE7Oz3DgcFFtNkatqjfNt7GUSBNF8eMgIsK4ZelGXRqInZXulSiN36HThpSmRPzHsG8Y7TSRNCFS3GIz6vmTs6N45WtNclh9pSLit6l6P7WOR2WwMfYZ5SCB4ysgUR6qK0XF4xNBBroa0v99eNySf0P1WH6ANN9IubKDGs1sEdQjTqTF3bp9ZVXXer5l6QXuYuyhn01vgvoqfxLbFjFmXNdAxjw034CT4tGYEiHHUzmAoCCuaLQFKhEO3oeTDN5dAJPc0Z33DC9gQXSYIW56qfqAX7eDiKFiY50Yckrc0UNZZD2bwtu0a7WMtAHghfHzFABDD3kNHLgaJkIPfPhNFsrNzUps4bB4fp7cpg4bT22DSDcKpNMOGDpZdmKyYyahDJlSsYgzRqpKWoLXmpaxeR7vCGPtdWiPMIp1YCrdiVEwLgZQT6IEtATLcYLAnvor7TJmWesxMxyk816sMmxYRDg4B5J9WNtiZrg1HDnWD5Qp0rHttPs4UhrXV4HCvnMtTV8CHrnCD1jgCRlGPn5oo3cbOx2v8o6kD0O5GJAZjUWfvQ3u8ceib7zg4Uw6fsGClcusxNL4bXJHF0cNJ33M4o0DXaF12PdONhn7luLCrnQF8CoPEC0tDESJvB4G59t4hcpEHpxk8YcHBwxdNEJEtAy5xhek2w6XSeuSAze0hBe97EvH0KkrL8CSaJuIDwSALFmJlffBl29se72YBqoOt7lqbeTm3mlI6OAZuS8XK6AFsouTP1AUe96coXu132a2e48wcc1OSLuDLMDJvtKLlHl0BW2G3LqzGA"
end PySem.W.Fast
open PySem PySem.W PyProof.Rows
set_option maxRecDepth 100000 in
set_option maxHeartbeats 0 in
theorem PySem.Challenge.cw_gaze_k93_whole_strips_of_a_desk_holds : PySem.Challenge.rw_gaze_k93_whole_strips_of_a_desk.Holds := by
 w_on;o_law;k_head;(case hw=>w_witness2)
 k_fill
 refine jE.walk (l:=PySem.Challenge.rw_gaze_k93_whole_strips_of_a_desk) Y Y (λw h Y9q=>PySem.W.kIn_of Y9q) ?F
 case F =>
  intro w mg fa h KX G hmg;refine' jE.abc KX G hmg ?_ ?_ ?_ ?_ ?_ ?_ ?_ ?_ ?_ ?_ ?_ ?_ ?_ ?_ ?_ ?_ ?_ ?_ ?_ ?_ ?_ ?_ ?_ ?_ ?_ ?_ ?_ ?_ ?_ ?_ ?_ ?_ ?_ ?_ ?_ ?_ ?_ ?_ ?_ ?_ ?_ ?_ ?_ ?_ ?_ ?_ ?_ ?_ ?_ ?_ ?_ ?_ ?_ ?_ ?_ ?_ ?_ ?_ ?_ ?_ ?_ ?_ ?_ ?_ ?_ ?_ ?_ ?_ ?_ ?_ ?_ ?_ ?_ ?_ ?_ ?_ ?_ ?_ ?_ ?_ ?_ ?_ ?_ ?_ ?_ ?_ ?_ ?_ ?_ ?_ ?_ ?_ ?_ ?_ ?_ ?_ ?_ ?_ ?_ ?_ ?_ ?_ ?_ ?_ ?_ ?_ ?_ ?_ ?_ ?_ ?_ ?_ ?_ ?_ ?_ ?_ ?_ ?_ ?_ ?_ ?_ ?_ ?_ ?_ ?_ ?_ ?_ ?_ ?_ ?_ ?_ ?_ ?_ ?_ ?_ ?_ ?_ ?_ ?_ ?_ ?_ ?_ ?_ ?_ ?_ ?_ ?_ ?_ ?_ ?_ ?_ ?_ ?_ ?_ ?_ ?_ ?_ ?_ ?_ ?_ ?_ ?_
  rotate_left 40
  iterate 26 k_is
  iterate 81 walk_at "f"
  iterate 17 k_is
  walk_at "l"
  iterate 8 k_is
  walk_at "l"
  iterate 4 k_is
  iterate 6 walk_at "x"
  iterate 6 k_is
  rfl
  k_is
  exact jE.zE.mk ..;rfl
  k_is
  rfl
  k_is
  exact jE.sj.mk ..
  k_is
  rfl
  k_is
  exact jE.sj.mk ..
#print axioms PySem.Challenge.cw_gaze_k93_whole_strips_of_a_desk_holds
