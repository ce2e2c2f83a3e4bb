import PyProof.Rows.All
import Wide.All
import OpenK.AllK
import Wide.FinOn
import Lean
import PyProof.EqAt
import PyProof.EqKinds
import PyProof.TupleCall
import KE.KSortAsk
import KE.KSortTup
import KE.KRevIter
import KE.LcSums
import KE.KDictSum
import KE.KDictList
import PyProof.AttrMissHeap
import PySem.Challenge.RW_gaze_k64_whole_verdicts
set_option Elab.async false
set_option linter.all false
set_option maxRecDepth 100000
set_option maxHeartbeats 4000000
set_option exponentiation.threshold 2000
set_option compiler.extract_closed false
set_option hygiene false
local macro_rules|`(tactic|walk_at "o")=>`(tactic|((try simp only [PySem.Addr] at *); lia))
open Option renaming some->U,none->O
theorem Y{α:Sort u}{a:α}:a=a:=rfl
local macro_rules|`(#[$a,*])=>`(⟨$a,*⟩)
open PySem renaming wpAny_bind->ady,wpAny_pure->adD,Value->adH,Addr->adK,Shared->adQ,starEach->adX,wpAny->adY,sizeLine->ad1,lookup_relabel_local->aeb,bootBuiltins->aej,Program->aek,wpAny_truthy_bool->aeo,codeAny_builtin->aeH,compareOp->aeL,wpAny_mono->aeO,wpAny_newObj_type->aeP,World->aeS,wpAny_call_entry->aeX,wpAny_dictEntries->ae0,wpAny_Call_Name_kw->ae1,wpAny_holding->ae3,intItems->ae4,mainGlobals->ae5,sysModules->ae6,wpAny_callSpecial?_slot->afd,Around->aff,backTo->afi,tupleKind_room_in1->afm,wpAny_typeNameOfWhole_keyiter->afq,plainId_quiet->aft,mem_of_lookup->afz,wpAny_updateSeq->afA,Builtin->afG,Heap->afH,behindInMarks->afJ,builtinLookup_eq_fast->afO,wpAny_missedRemoval_other->afT,FuncData->afV,foldedSetIterable->afW,wpAny_typeNameOf_keyiter->afY,wpAny_isInstance->af9,DictEntry->agg,wpAny_specialOf->agi,size_of_entries->agj,tupleKeyHash->agk,codeAny->ags,codeAny_call_builtin->agt,pyNext->agv,wpAny_seqItems->agw,wpAny_tryCatch->agx,wpAny_fieldsOf->agz,binaryOp->agC,wpAny_askSetting->agE,keywordEach->agF,sliceBounds->agG,wpAny_rule->agL,wpAny_passesOwn->agP,attributeBase->agQ,wpAny_attempt->agW,typeLookup_type->agX,wpAny_ite_split->agY,rawInt->ag2,wpAny_pyIter_list->ag7,sizeLine_eq->ag8,wpAny_letGo->ahc,intItems_at->ahd,wpAny_setState_of->ahg,wpAny_setField->ahj,codeAny_mono->ahm,PyData->ahp,wpAny_notOrdered_dict->ahr,wpAny_isOneOf_keyiter->aht,Expr->ahx,intKind->ahy,checkBuiltinCall->ahA,argBest->ahB,tupleKind->ahM,wpAny_execs_nil->ahN,swapsWith->ahO,letOwnedTupleGo->ahP,wpAny_dictEpoch->ahY,wpAny_setEntries_of->ah0,Tok->ah1,wpAny_field->ah4,wpAny_pyIter_tuple->ah9,entryFor->aib,wpAny_setField_rec->aie,cLine->aii,firstArgMember->ail,assignEach->air,getMethod->ait,wpAny_getItem_list_slice->aix,wpAny_comprehension_free->aiy,updateSeq->aiz,wpAny_pyIter_enum->aiA,wpAny_pyIter_slot->aiD,hashInt->aiJ,Stmt->aiK,backToKw->aiL,richCompare->aiP,wpAny_of_eq->aiQ,wpAny_eqBool_int->aiZ,argsOk->ai1,wpAny_pyNext_range_end->ai5,wpAny_pyIter_rangeiter->ai6,numAt->aja,wpAny_pyNext_enum_item->ajb,wpAny_isTrue_Compare1->aji,wpAny_pyNext_enum_end->ajo,entryOfKey->ajz,NameKind->ajA,typeLookup->ajB,Scope->ajC,wpAny_pyIter_revIter->ajE,wpAny_pyIter_keyiter->ajH,isSubtype_stop->ajL,isSubtype_type->ajN,standAt->ajQ,IsRangeIter->ajR,builtinKind->ajT,call_enumerate_list->ajU,atKey->ajW,wpAny_standAt->aj3,wpAny_pyIter_range->aj4,evalPart_none->aj5,seqItems?->aj7,wpAny_tupleItemsOf->ake,BindsTo->akl,wpAny_call->akm,call_meets->ako,list_append->akp,valueAt->aks,Within->aky,Result->akA,seqIndex_neg->akC,wpAny_typeOf->akG,wpAny_execs_cons->akJ,wpAny_pyIter_zip->akM,wpAny_forIn_list->akO,callWith->akT,setField->akU,lastMarks->akW,getItem->akY,seqIndex_of->akZ,slicePick->ak0,Keyword->ak1,callerA->ak2,notedBy->ak4,plainId->ak5,codeAny_of_tree->alh,builtinsNs->alv,wpAny_Name->alw,typeIs_int->aly,isInstance->alz,closureFor->alA,setsByText->alF,compEnvC->alI,newTuple->alK,SetTable->alL,Paired->alT,isTrue->alU,pyIter->alV,typeOf->alY,pickOrder->al3,Str->al9,bindL->amd,bindC->ame,newList->amf,setNext->amg
open PySem.W renaming Frag->adz,kitOne->aeI,kia_one->aeV,emptyDict->ae7,findIn->afa,instObj->afx,methodCall_KW->afK,keepIn->afQ,fnOf->agf,callWith_K->agR,findCls->agV,plainGet->ahz,plainGet_of->ahQ,callWith_K0->ahR,lookIn->aih,codeIn->aij,exmOne->aik,methodObj->aiq,hasDictIn->ais,specialIn->aiu,subIn->aiO,cellsFrom_some->ai7,hideAll->ajg,isFn->ajj,takerIn->ajk,makesIn->ajl,OpenLaw->ajp,typeIn->ajJ,KdlSrc->ajM,hideAll_get->ajP,of_hideAll->aj0,plainOver->aki,kitx_list->akj,kitx_dict->akk,handedIn->akK,kitMeta->ak3,readsIn->alb,clsIn->alH,WalkO->alJ,mg_of->alQ,nsIn->al5
open List renaming length_map->adA,getD_eq_getElem?_getD->adB,getElem?_eq_getElem->adC,getElem?_eq_some_iff->adI,mem_cons->adL,range->adM,length_range->adO,mem_map->adP,getElem?_map->adR,size_toArray->adS,length_append->adT,map_cons->adU,mem_range->ad0,mem_of_getElem?->ad3,nil_append->ad4,mem_singleton->ad8,mem_append_right->ad9,length_singleton->aea,mem_append->aec,filter_cons->aee,length_cons->aeg,mem_filter->ael,length_filter_le->aen,not_mem_nil->aeq,mem_cons_of_mem->aer,getElem?_append_left->aeu,map_map->aev,getElem?_range->aex,any_eq_true->aez,nodup_cons->aeB,any_cons->aeC,getElem?_eq_none->aeD,mem_iff_getElem?->aeE,drop_eq_getElem_cons->aeF,getElem?_append_right->aeK,all_eq_true->aeM,take_length->aeN,take_succ->aeQ,filterMap_cons->aeT,map_append->afb,find?_cons->afc,length_reverse->afg,map_congr_left->afh,length_take->afp,mem_flatMap->afr,mem_append_left->afs,length_eq_zero_iff->afu,all_cons->afL,getElem?_reverse->afM,toArray->afN,take_append_drop->afP,replicate->afS,map_nil->af2,getElem?_replicate->af3,filter_eq_self->af5,length_drop->af8,drop_eq_nil_of_le->agb,mem_cons_self->agd,length_nil->agh,all_map->agl,ext_getElem?->agq,getElem?_cons_succ->agU,getElem?_drop->agZ,getElem?_set_self->ag1,take_of_length_le->ag4,drop_of_length_le->ag5,lookup->ag9,reverse_cons->aha,nodup_nil->ahk,length_replicate->ahn,all_nil->ahv,getElem?_set_ne->ahE,length_pos_iff->ahU,toList_toArray->ah2,flatMap_append->ah3,length_flatMap->ah5,mem_filterMap->aia,findIdx?_eq_none_iff->aim,getElem?_take_of_lt->aiw,append_assoc->aiB,foldl_append->aiE,length_erase_of_mem->aiG,nodup_append->aiH,sum_cons->aiT,eraseIdx_cons_succ->aiU,drop_length->ai0,getElem_mem->ai3,ext_getElem->ai4,length_pos_of_mem->ajf,of_mem_zip->ajm,length_set->ajn,any_append->ajy,mem_erase_of_ne->ajI,filter_sublist->ajX,getElem_of_mem->ajZ,pairwise_cons->akd,map_take->akf,any_eq_false->akh,flatMap_cons->akw,any_map->akH,any_flatMap->akS,append_nil->akX,foldl_cons->ak6,length_zip->ak8,sum_append->alc,getD->alj,range_succ->alk,all_append->aln,findIdx?->alN,map_drop->alO,sum_nil->al1,map_id'->al6
open PySem.Heap renaming get?_push_of_some->adE,lt_size->adF,get?_push_size->adN,get?_update_other->adZ,get?_update_self->aef,size_push->afR,FlyingW->akE,ExtBut->ald
open Nat renaming le_trans->adG,le_refl->adJ,ne_of_lt->adV,lt_of_lt_of_le->adW,zero_le->ad6,ne_of_gt->aeJ,lt_of_le_of_lt->aeR,lt_irrefl->aeY,not_lt_zero->afj,lt_succ_of_lt->af0,lt_succ_self->af7,le_add_left->agn,min_eq_left->agT,le_of_lt->ahl,le_succ->ahS,min_eq_right->ai2,lt_of_succ_lt_succ->ajd,sub_self->ajx,mul_le_mul->ajO,eq_zero_or_pos->akc,le_succ_of_le->akt,lt_trans->akF,succ_ne_self->akP,succ_le_succ->akQ,le_of_eq->alX,zero_add->al4,add_comm->al7
open Bool renaming false_ne_true->ad2,false_eq_true->ad5,and_eq_true->aew,eq_iff_iff->aeU,and_true->ago,eq_false_iff->ahb,false_and->ahh,or_false->ahH,not_true->ahJ,or_eq_true->ahV,and_self->aiS,true_and->aiX,and_eq_false_iff->ajs,and_false->ajK,false_or->aj9,not_not->akI,not_false->alu,not_and->al8
open PySem.Value renaming ref->ad7,bool->afe,builtin->agS,isInt->ag6,type->aip,float->akV,isStrOf->alG,bytes->amb
open PyProof.Rows renaming callWith_type1->aed,envOfC->afl,callWith_builtin1->af1,seqObj->age,kindOf->aiv,IntsAre->aiM,subscriptTail->aiN,subscriptTail_builtinR->ai8,AllBare->ajh,mirror_perm->ajV,Constant_none->aj2,listUpdate_at->akb,Subscript_->akn,get?_update_seq->ale,seqEpoch_at->alf,mulOk_of_bits->alo,boot_range->alx,test_link->alW,bits_add->alZ,bits_mul->al0,Call_->amc
open Option renaming map_eq_some_iff->aeh,isNone->agr,getD_some->agD,isSome_iff_exists->agJ,ne_none_iff_exists'->ah8,isSome_map->aiC,toList_some->aj8
open Array renaming getElem?_eq_getElem->aei,length_toList->afy,getElem?_eq_none->agc,getElem?_toList->ahu,mem_toList_iff->ahF,getD_eq_getD_getElem?->ahX,append_assoc->aj1,toList_push->akv,toList->akz,getD->alB
open PySem.PassesOwn renaming never->aem,leaving->akx
open Int renaming toNat_natCast->aep,le_refl->aeW,toNat_of_nonneg->afD,mul_nonneg->agB,le_trans->agM,mul_le_mul_of_nonneg_left->ahD,emod_lt_of_pos->aic,zero_add->aif,mul_le_mul->aio,emod_nonneg->ajq,toNat->ajw,ediv_le_self->akN,le_antisymm->ak7,ediv_nonneg->ak9,natCast_mul->alm,ediv_one->al2
open PySem.Around renaming under_plainId->aes,under->akB
open PySem.F renaming plainAttrs_list->aet,slot_dict_keyiterator_next->ae9,slot_list_append->afn,type_list_append->afo,slot_enumerate_next->afE,plain_min_loop->afF,plain_extend_loop->afU,args_dict_keyiterator_next_1->agy,entry_dict_keyiterator_next->agH,slot_list_extend->agN,type_list_extend->agO,slot_list_index->ag0,entry_min_loop->ag3,args_enumerate_next_1->ahC,entry_enumerate_next->ahK,excBase_ValueError->ah7,entry_extend_loop->ain,type_list_index->aiY,slot_dict_iter->ajc,slot_dict_pop->ajr,slot_tuple_lt->aju,plain_set_new->ajv,args_list_append_2->ajD,entry_list_append->ajS,slot_list_append->aj6,plain_min->akq,entry_min->akr,kind_min->akL,slot_set_iter->ali
open Ne renaming symm->aey
open PySem.Builtin.Range renaming rangeSize->aeA,rangeFitsLong->ala
open PySem.Heap.SameBut renaming update->aeG
open PySem.Obj renaming mapSeq->aeZ,mapFields->agp,data_mapDictKeys->agu,isFreed_of_dict->ajY,data_mapFields->aka,putSet->alE
open PySem.Str renaming ofString->ae2
open PySem.SetTable.below renaming go->ae8
open PySem.Calls renaming spliced_cons->afk,spliced_nil->afw,evalArgs_plain->ahG,Name_function_global->ah6,callWith_builtin->ai9
open PyProof.Rows.F renaming plain_set_update_loop->afv,entry_set_update_loop->agA
open PySem.Builtin.Builtins renaming bindParams->afB
open PySem.Builtin.List renaming listExtendWith->afC,listLengthHint->agm,listTooLong->agK,listSameRef->aiF,listItems->aje,listUpdate->alP,listTouch->alS
open False renaming elim->afI
open True renaming intro->afX
open PySem.SetTable.probe renaming go->afZ
open PySem.Builtin.Int renaming intBits->af4
open PySem.W.WData renaming weightAll->af6,layable->ahq,weight->ajF,layableAll->alC
open PySem.PyData renaming eqv->aga,canLayAll0->ahe,canLay0->ahi,depthAll->ahW,eqvAll->aiR,strOk->ajt
open PySem.Builtin.SmallTypes renaming ownedTupleIsFree->agI
open PySem.SetTable renaming insertAt->ahf,probeStart->ahZ,has->aid,fill->aiW,freeSlot->aku,runEnd->alg,probe->alr,turns->als,slot->alM
open Or renaming inl->aho,inr->akD
open PySem.Builtin.Dict renaming showsAll->ahs,entriesForEmpty->ahI,updateFrom->aiV,takeOut->ajG,dictSlotNone->alp,readDirectly->alq,selfAndRest->alD,mergeDict->alR,quietEq->ama,merge->amh
open Classical renaming choose_spec->ahw,choose->akR
open Sum renaming inl->ahL,inr->akg
open ForInStep renaming yield->ahT
open Function renaming comp_def->aiI
namespace L2
open PySem PySem.Spec PyProof.Rows
abbrev Key:=Sum Int Str
noncomputable def qj:Key->adH->Bool
 | .inl k,v=>ag6 k v
 | .inr x,v=>alG x v
noncomputable def N7(w:aeS):Key->Int
 | .inl k=>aiJ k
 | .inr x=>hashStr w x
theorem lP:∀ {k:Key} {v:adH},qj k v=true->(∃ i t,k=ahL i/\v=Value.int i t)∨(∃ x t,k=akg x/\v=Value.str x t)
 | .inl i,v,h=>by obtain⟨t,e⟩:=Value.isInt_shape (k:=i) (v:=v) h;exact .inl #[i,t,Y,e]
 | .inr x,v,h=>by obtain⟨t,e⟩:=Value.isStrOf_shape (x:=x) (v:=v) h;exact .inr #[x,t,Y,e]
theorem N8(i:Int)(t:Tok):qj (.inl i) (.int i t)=true:=by simp[qj,ag6]
theorem Oa(x:Str)(t:Tok):qj (.inr x) (.str x t)=true:=by simp[qj,alG]
theorem Ob(a b:Int):decide ((ahL a:Key)=ahL b)=(a == b):=by
 by_cases e:a=b
 .subst e;simp
 .have h:¬ (ahL a:Key)=ahL b:=λq=>e (Sum.inl.inj q);rw[decide_eq_false h];exact (beq_eq_false_iff_ne.mpr e).symm
theorem Oc(a b:Str):decide ((akg a:Key)=akg b)=decide (a=b):=by
 by_cases e:a=b
 .subst e;simp
 .have h:¬ (akg a:Key)=akg b:=λq=>e (Sum.inr.inj q);rw[decide_eq_false h,decide_eq_false e]
theorem Od(a:Int)(b:Str):decide ((ahL a:Key)=akg b)=false:=decide_eq_false (λq=>nomatch q)
theorem Oe(a:Str)(b:Int):decide ((akg a:Key)=ahL b)=false:=decide_eq_false (λq=>nomatch q)
noncomputable def cT(prog:aek)(w:aeS):PySem.KeyKind prog w Key where
 is:=qj
 hash:=N7 w
 inj:=λv a b ha hb=>by
  rcases lP ha with ⟨i,t,rfl,rfl⟩|⟨x,t,rfl,rfl⟩
  .rcases lP hb with ⟨j,u,rfl,e⟩|⟨y,u,rfl,e⟩
   .injection e with e1 _;rw[e1]
   .exact nomatch e
  .rcases lP hb with ⟨j,u,rfl,e⟩|⟨y,u,rfl,e⟩
   .exact nomatch e
   .injection e with e1 _;rw[e1]
 byValue:=λk v h=>by
  rcases lP h with ⟨i,t,rfl,rfl⟩|⟨x,t,rfl,rfl⟩<;>rfl
 pyHash:=λhv h=>by
  rcases lP hv with ⟨i,t,rfl,rfl⟩|⟨x,t,rfl,rfl⟩
  .exact wpAny_pyHash_int h
  .exact wpAny_pyHash_str h
 eqBool:=λhu hv h=>by
  rcases lP hu with ⟨i,t,rfl,rfl⟩|⟨x,t,rfl,rfl⟩
  .rcases lP hv with ⟨j,u,rfl,rfl⟩|⟨y,u,rfl,rfl⟩
   .rw[Ob] at h;exact aiZ h
   .rw[Od] at h;exact SeqAt.EqAt.int_str i t y u _ _ _ _ h
  .rcases lP hv with ⟨j,u,rfl,rfl⟩|⟨y,u,rfl,rfl⟩
   .rw[Oe] at h;exact SeqAt.EqAt.str_int x t j u _ _ _ _ h
   .rw[Oc] at h;exact wpAny_eqBool_str h
 «strs»:=λk x t v h=>by
  rcases lP h with ⟨i,u,rfl,e⟩|⟨y,u,rfl,e⟩
  .exact nomatch e
  .injection e with e1 _;subst e1;cases v<;>rfl
theorem Of(prog:aek)(w:aeS)(i:Int)(t:Tok):(cT prog w).is (.inl i) (.int i t)=true:=N8 i t
theorem Og(prog:aek)(w:aeS)(x:Str)(t:Tok):(cT prog w).is (.inr x) (.str x t)=true:=Oa x t
inductive V where
 | non|bl (b:Bool)|int (i:Int)|str (x:Str)|byt (b:Array UInt8)|flt (b:UInt64)|ref (a:adK)|ty (n:String)
 deriving DecidableEq
def RelV:V->adH->Prop
 | .non,u=>u=Value.none
 | .bl b,u=>u=afe b
 | .int i,u=>∃ t,u=Value.int i t
 | .str x,u=>∃ t,u=Value.str x t
 | .byt b,u=>∃ t,u=amb b t
 | .flt b,u=>∃ t,u=akV b t
 | .ref a,u=>u=ad7 a
 | .ty n,u=>u=aip n
abbrev Vals:List V->List adH->Prop:=alT RelV
theorem Vals.length(r:Vals xs us):xs.length=us.length:=Paired.length r
theorem Vals.get:∀ {xs:List V} {us:List adH} {i:Nat} {x:V},Vals xs us->xs[i]?=U x->∃ u,us[i]?=U u/\RelV x u
 | _,_,_,_,.nil,e=>by simp at e
 | _,_,0,_,.cons r _,e=>by simp at e;subst e;exact#[_,Y,r]
 | _,_,i+1,x,.cons _ t,e=>by obtain⟨u,h1,h2⟩:=Vals.get (i:=i) (x:=x) t (by simpa using e);exact#[u,by simpa using h1,h2]
theorem Vals.set(r:RelV x u):∀ {xs:List V} {us:List adH} (i:Nat),Vals xs us->Vals (xs.set i x) (us.set i u)
 | _,_,_,.nil=>.nil
 | _,_,0,.cons _ t=>.cons r t
 | _,_,i+1,.cons q t=>.cons q (Vals.set r i t)
theorem Vals.append:∀ {xs ys:List V} {us ws:List adH},Vals xs us->Vals ys ws->Vals (xs++ys) (us++ws):=by
 intro xs ys us ws h s
 induction h with
 | nil=>exact s
 | cons r t ih=>exact .cons r ih
theorem Vals.take:∀ {xs:List V} {us:List adH} (n:Nat),Vals xs us->Vals (xs.take n) (us.take n)
 | _,_,0,_=>.nil
 | _,_,_+1,.nil=>.nil
 | _,_,n+1,.cons r t=>.cons r (Vals.take n t)
theorem Vals.drop:∀ {xs:List V} {us:List adH} (n:Nat),Vals xs us->Vals (xs.drop n) (us.drop n)
 | _,_,0,r=>r
 | _,_,_+1,.nil=>.nil
 | _,_,n+1,.cons _ t=>Vals.drop n t
def gp:Option V->Option adH->Prop
 | some v,U u=>RelV v u
 | none,O=>True
 | _,_=>False
def KV{κ:Type}:List (κ × V)->List (κ × adH)->Prop:=alT λ(p:κ × V) (q:κ × adH)=>p.1=q.1/\RelV p.2 q.2
noncomputable def kV:Key->V
 | .inl i=>.int i
 | .inr x=>.str x
inductive HO where
 | lst (xs:List V)
 | tup (xs:List V)
 | dK (kvs:List (Key × V))|dT (kvs:List (List Key × V))
 | set (S:Int->Bool) (n:Nat)
 | ins (C dx:adK) (fs:List (Str × V))
 | own (x:adK)
 | xd (fs:List (Str × V))
 | met (f x:adK)
 | gq (lo hi:Int)
 | ba (o:Obj) (u:HO)
 | tbl (ps:Array adH)
 | ext (φ:afH->Prop)
abbrev Hp:=adK->Option HO
noncomputable def upd(H:Hp)(a:adK)(o:HO):Hp:=λb=>if b=a then U o else H b
theorem au:upd H a o a=U o:=by unfold upd;rw[if_pos Y]
theorem aK(h:b≠a):upd H a o b=H b:=by unfold upd;rw[if_neg h]
theorem jT:upd (upd H a o) a u=upd H a u:=by funext b;unfold upd;split<;>rfl
theorem qk{H:Hp}{a b:adK}{o u:HO}(h:H a=U o)(h':H b=U u)(d:o≠u):a≠b:=by intro e;subst e;rw[h] at h';exact d (Option.some.inj h')
theorem jU{H:Hp}{a b:adK}{o:HO}(h:H a=U o)(h':H b=O):a≠b:=by intro e;subst e;rw[h] at h';cases h'
section
variable(P:aek)(w:aeS)
def bW(H:Hp)(h:afH)(a:adK):HO->Prop
 | .lst xs=>xs.length<=ad1/\∃ (ax:List adH) (n:Nat),Vals xs ax/\h.get? a=U { cls:=.type "list",data:=.seq ax.toArray n }
 | .tup xs=>xs.length<=ad1/\∃ ax:List adH,Vals xs ax/\IsTup h a ax.toArray
 | .dK kvs=>kvs.length<=ad1/\(a == ae6)=false/\∃ vs,KV kvs vs/\h.DictOf (cT P w) a vs
 | .dT kvs=>kvs.length<=ad1/\(a == ae6)=false/\∃ xs:List (List Key × adK × adH),
  alT (λ(p:List Key × V) (q:List Key × adK × adH)=>p.1=q.1/\H q.2.1=U (.tup (p.1.map kV))/\RelV p.2 q.2.2) kvs xs /\
  ∃ o es ep,h.get? a=U o/\o.ExactDict/\o.data = .dict es ep/\es.toList=xs.map (ajz (ahM (cT P w)))/\(xs.map (·.1)).Nodup
 | .set S n=>h.SetOf (ahy P w) a S n
 | .ins C dx fs=>H dx=U (.own a)/\fs.length<=1000/\dx≠a/\h.get? a=U (afx C dx) /\
  ∃ mA,h.Ns1 dx mA/\(∀ f,gp (fs.lookup f) (mA f))/\aky mA (fs.map (·.1))
 | .own _=>∃ o,h.get? a=U o
 | .xd fs=>∃ mA,h.Ns1 a mA/\∀ f,gp (fs.lookup f) (mA f)
 | .gq lo hi=>∃ t u v,h.get? a=U { cls:=.type "range",data:=.fields (List.toArray [.int lo t,.int hi u,.int 1 v]) }
 | .ba o u=>h.get? a=U o/\bW H h a u
 | .tbl ps=>h.get? a=U { cls:=.none,data:=.fields ps }
 | .met f x=>h.get? a=U (aiq (.ref f) (.ref x))
 | .ext φ=>φ h/\(∃ o,h.get? a=U o)/\∀ h1 h2:afH,φ h1->(∀ o,h1.get? a=U o->h2.get? a=U o)->φ h2
def ck(H:Hp)(h:afH):Prop:=∀ a o,H a=U o->bW P w H h a o
end
section
theorem bW.lt(x:bW P w H h a o):a<h.objs.size:=by
 cases o with
 | lst xs=>obtain⟨z,z,z,z,e⟩:=x;exact adF e
 | tup xs=>obtain⟨z,z,z,p⟩:=x;exact p.lt
 | dK kvs=>obtain⟨z,z,z,z,o,z,z,e,z⟩:=x;exact adF e
 | dT kvs=>obtain⟨z,z,z,z,o,z,z,e,z⟩:=x;exact adF e
 | set S n=>obtain⟨o,z,z,z,e,z⟩:=x;exact adF e
 | ins C dx fs=>obtain⟨z,z,z,e,z⟩:=x;exact adF e
 | own y=>obtain⟨z,e⟩:=x;exact adF e
 | xd fs=>obtain⟨z,⟨z,z,z,e,z⟩,z⟩:=x;exact adF e
 | gq lo hi=>obtain⟨z,z,z,e⟩:=x;exact adF e
 | ba ob u=>obtain⟨e,z⟩:=x;exact adF e
 | tbl ps=>exact adF (show h.get? a=U _ from x)
 | met f y=>exact adF (show h.get? a=U _ from x)
 | ext φ=>obtain⟨z,⟨z,e⟩,z⟩:=x;exact adF e
theorem Paired.Ey:∀ {l₁:List α} {l₂:List β},alT F l₁ l₂->(∀ a b,F a b->G9q a b)->alT G9q l₁ l₂:=by
 intro y y h f
 induction h with
 | nil=>exact .nil
 | cons r t ih=>exact .cons (f _ _ r) ih
theorem bW.stay(x:bW P w H h a o)(k:∀ b u,(b=a∨H b=U (.own a))->h.get? b=U u->h'.get? b=U u)(ho:∀ b,H b=U (.own a)->H' b=U (.own a))(ht:∀ b xs,H b=U (.tup xs)->H' b=U (.tup xs)):bW P w H' h' a o:=by
 induction o with
 | lst xs=>obtain⟨z,ax,n,r,e⟩:=x;exact#[z,ax,n,r,k _ _ (.inl rfl) e]
 | tup xs=>obtain⟨z,ax,r,ob,e,c⟩:=x;exact#[z,ax,r,ob,k _ _ (.inl rfl) e,c]
 | dK kvs=>obtain⟨z,y,vs,r,ob,es,ep,e,c⟩:=x;exact#[z,y,vs,r,ob,es,ep,k _ _ (.inl rfl) e,c]
 | dT kvs =>
  obtain⟨z,y,xs,r,ob,es,ep,e,c⟩:=x;exact#[z,y,xs,Paired.Ey r λp q z=>#[z.1,ht _ _ z.2.1,z.2.2],ob,es,ep,k _ _ (.inl rfl) e,c]
 | set S n=>obtain⟨ob,es,ep,t,e,c⟩:=x;exact#[ob,es,ep,t,k _ _ (.inl rfl) e,c]
 | ins C dx fs =>
  obtain⟨d,z,ne,e,mA,⟨od,es,ep,e2,c⟩,r⟩:=x;exact#[ho _ d,z,ne,k _ _ (.inl rfl) e,mA,#[od,es,ep,k _ _ (.inr d) e2,c],r]
 | own y=>obtain⟨ob,e⟩:=x;exact#[ob,k _ _ (.inl rfl) e]
 | xd fs=>obtain⟨mA,⟨od,es,ep,e,c⟩,r⟩:=x;exact#[mA,#[od,es,ep,k _ _ (.inl rfl) e,c],r]
 | gq lo hi=>obtain⟨t,u,v,e⟩:=x;exact#[t,u,v,k _ _ (.inl rfl) e]
 | ba ob u ih=>obtain⟨e,q⟩:=x;exact#[k _ _ (.inl rfl) e,ih q]
 | tbl ps =>
  have e:h.get? a=U { cls:=.none,data:=.fields ps }:=x;show h'.get? a=U { cls:=.none,data:=.fields ps };exact k a _ (.inl rfl) e
 | met f y =>
  have e:h.get? a=U (aiq (.ref f) (.ref y)):=x;show h'.get? a=U (aiq (.ref f) (.ref y));exact k a _ (.inl rfl) e
 | ext φ=>obtain⟨p,⟨o,e⟩,st⟩:=x;exact#[st _ _ p λo q=>k _ _ (.inl rfl) q,#[o,k _ _ (.inl rfl) e],st]
theorem ck.lt(x:ck P w H h)(e:H a=U o):a<h.objs.size:=(x a o e).lt
theorem ck.fresh(x:ck P w H h)(e:h.objs.size<=a):H a=O:=by
 cases q:H a with
 | none=>rfl
 | some u=>exact absurd (adW (x.lt q) e) (aeY _)
theorem ck.kept(x:ck P w H h)(k:∀ b u,h.get? b=U u->h'.get? b=U u):ck P w H h':=λa o e =>
 (x a o e).stay (λb u y q=>k b u q) (λy q=>q) λy y q=>q
theorem ck.laid(x:ck P w H h)(k:∀ b u,h.get? b=U u->h'.get? b=U u)(hp:h.objs.size<=a)(new:bW P w (upd H a o) h' a o):ck P w (upd H a o) h':=λb u e=>by
 have hn:=x.fresh hp;by_cases hb:b=a
 .subst hb;rw[au] at e;cases e;exact new
 .rw[aK hb] at e;exact (x b u e).stay (λc v y q=>k c v q) (λc q=>by rw[aK (jU q hn)];exact q) λc xs q=>by rw[aK (jU q hn)];exact q
end
def Rd(H:Hp)(a:adK)(u:HO):Prop:=H a=U u ∨ ∃ o,H a=U (.ba o u)
theorem Rd.ok(r:Rd H a u)(x:ck P w H h):bW P w H h a u:=by
 rcases r with r|⟨o,r⟩
 .exact x a u r
 .obtain⟨y,q⟩:=x a _ r;exact q
def sP:Option HO->Prop
 | some (.lst _)=>True
 | some (.dK _)=>True
 | some (.dT _)=>True
 | some (.set _ _)=>True
 | some (.ins _ _ _)=>True
 | some (.ext _)=>True
 | _=>False
section
theorem ck.write(ok:ck P w H h)(mu:sP (H x))(he:e=x∨H e=U (.own x))(k:∀ b u,b≠e->h.get? b=U u->h'.get? b=U u)(ql:∃ u,h'.get? e=U u)(new:bW P w (upd H x o') h' x o'):ck P w (upd H x o') h':=λb u q=>by
 have Ez:∀ c y,H c=U (.own y)->c≠x:=λc y r z=>by subst z;rw[r] at mu;exact mu
 have Oh:∀ c xs,H c=U (.tup xs)->c≠x:=λc xs r z=>by subst z;rw[r] at mu;exact mu
 by_cases hb:b=x
 .subst hb;rw[au] at q;cases q;exact new
 .rw[aK hb] at q;by_cases kK:b=e
  .have q':H b=U (.own x):=by
    rcases he with z|z
    .exact absurd (kK.trans z) hb
    .rw[kK];exact z
   rw[q] at q';cases q';obtain⟨v,hv⟩:=ql;exact#[v,by rw[kK];exact hv]
  .refine (ok b u q).stay (λc v hc r=>k c v ?_ r) (λc r=>by rw[aK (Ez c b r)];exact r) λc xs r=>by rw[aK (Oh c xs r)];exact r
   rcases hc with rfl|hc
   .exact kK
   .rintro rfl;rcases he with z|z
    .exact Ez c b hc z
    .rw[hc] at z;cases z;exact hb rfl
end
structure Un(fs ex:List adK)(H H':Hp)(h h':afH):Prop where
 keep:∀ b o,h.get? b=U o->H b=O->b∉fs->b∉ex->h'.get? b=U o
 slot:∀ b o,h.get? b=U o->H b=O->b∈fs->b∉ex->∃ sl,h'.get? b=U { o with slots:=sl }
 free:∀ b o,h.get? b=U o->H b=O->b∉ex->H' b=O
 there:∀ b o,h.get? b=U o->b∉ex->∃ o',h'.get? b=U o'
 gu:∀ b xs,H b=U (.tup xs)->H' b=U (.tup xs)
 fG:∀ b o u,H b=U (.ba o u)->H' b=U (.ba o u)
 gv:∀ b ps,H b=U (.tbl ps)->∃ more,H' b=U (.tbl (ps++more))
section
variable{fs fs' ex ex':List adK}{H H1 H2:Hp}{h h1 h2 h':afH}{a x e:adK}{o:HO}
theorem Un.any(u:Un fs ex H H1 h h1)(q:h.get? b=U ob)(n:H b=O)(hx:b∉ex):∃ sl,h1.get? b=U { ob with slots:=sl }:=by
 by_cases hb:b∈fs
 .exact u.slot b ob q n hb hx
 .exact#[ob.slots,u.keep b ob q n hb hx]
theorem Un.kept(k:∀ b u,h.get? b=U u->h'.get? b=U u):Un fs ex H H h h' :=
 #[λb ob q y y y=>k b ob q,λb ob q y y y=>#[ob.slots,k b ob q],λy y y n y=>n,λb ob q y=>#[ob,k b ob q],λy y q=>q,λy y y q=>q,λy ps q=>#[(List.toArray []),by rw[q];simp]]
theorem Un.refl:Un fs ex H H h h:=Un.kept λy y q=>q
theorem Un.laid(k:∀ b u,h.get? b=U u->h'.get? b=U u)(hp:h.objs.size<=a)(hn:H a=O):Un fs ex H (upd H a o) h h' where
 keep:=λb u q y y y=>k b u q
 slot:=λb u q y y y=>#[u.slots,k b u q]
 free:=λb u q n y=>by rw[aK (adV (adW (adF q) hp))];exact n
 there:=λb u q y=>#[u,k b u q]
 gu:=λb xs q=>by rw[aK (jU q hn)];exact q
 fG:=λb u xs q=>by rw[aK (jU q hn)];exact q
 gv:=λb ps q=>#[(List.toArray []),by rw[aK (jU q hn),q];simp]
theorem Un.write(mu:sP (H x))(he:e=x∨H e=U (.own x))(k:∀ b u,b≠e->h.get? b=U u->h'.get? b=U u)(ql:∃ u,h'.get? e=U u):Un fs ex H (upd H x o) h h':=by
 have hx:∀ b,H b=O->b≠x:=λb n z=>by subst z;rw[n] at mu;exact mu
 have hb:∀ b,H b=O->b≠e:=λb n z=>by
  subst z;rcases he with r|r
  .exact hx b n r
  .rw[n] at r;cases r
 have hm:∀ b u,H b=U u->¬ sP (U u)->b≠x:=λb u q nm z=>by subst z;rw[q] at mu;exact nm mu
 refine#[λb u q n y y=>k b u (hb b n) q,λb u q n y y=>#[u.slots,k b u (hb b n) q],λb u q n y=>by rw[aK (hx b n)];exact n,λb u q y=>?_,
  λb xs q=>by rw[aK (hm b _ q λz=>z)];exact q,λb u xs q=>by rw[aK (hm b _ q λz=>z)];exact q,λb ps q=>#[(List.toArray []),by rw[aK (hm b _ q λz=>z),q];simp]]
 by_cases kK:b=e
 .subst kK;exact ql
 .exact#[u,k b u kK q]
end
noncomputable def vY(h:afH)(H:Hp):List adK:=(adM h.objs.size).filter λa=>(H a).isSome
noncomputable def lQ(h:afH)(H:Hp):afH:=ajg h (vY h H)
theorem Oi(h:afH)(H:Hp):(lQ h H).objs.size=h.objs.size:=PySem.W.hideAll_size _ _
theorem Oj(e:h.get? b=U o)(n:H b=O):(lQ h H).get? b=U o :=
 ajP _ e λhm=>by have q:(H b).isSome=true:=(ael.mp hm).2;rw[n] at q;simp at q
theorem Ol(e:(lQ h H).get? b=U o):h.get? b=U o/\H b=O:=by
 have e':h.get? b=U o:=aj0 (vY h H) e;refine#[e',?_];cases q:H b with
 | none=>rfl
 | some x =>
  have hm:b∈vY h H:=ael.mpr #[ad0.mpr (adF e'),by simp[q]];have z:(lQ h H).get? b=O:=PySem.W.hideAll_none (vY h H) hm;rw[z] at e;cases e
noncomputable def Oo(g h:afH)(L:adK):List (adK × Obj):=(adM h.objs.size).filterMap λa=>if a=L∨(g.get? a).isSome=true then O else (h.get? a).map λo=>(a,o)
noncomputable def rest(g h:afH)(L d:adK):List (adK × Obj):=(Oo g h L).filter λp=>decide (p.1≠d)
structure Mod(K:adz)(mg:Str->Option adH)(base:afH):Prop where
 kin:K.In base
 glob:base.Ns ae5 mg
 blt:∃ mb,base.Ns alv mb/\∀ x:Str,x ≠ "__name__" -> mb x=aej x
 nolimit:base.NoLimit
structure Cx where
 prog:aek
 w:aeS
 K:adz
 mg:Str->Option adH
 base:afH
 A:aff
 N:List Str
 s₀:adQ
 H₀:Hp
 env:Env
 outer:List Env
 stack:List Env
 ex:List adK
 fn:Str->Bool
 calm:Bool
 pn:List (adK × Obj)
 xe:adH->adQ->Prop
noncomputable def bw(l:List Env):List adK:=l.filterMap (·.frame)
noncomputable abbrev Cx.fs(X:Cx):List adK:=bw X.outer
def vZ(sc:ajC)(x:Str):Prop:=sc.names.lookup x=U .local∨sc.names.lookup x=U .cell∨sc.names.lookup x=U .free
def Loc(sc:ajC)(x:Str):Prop:=sc.names.lookup x=U .local∨sc.names.lookup x=U .cell
def Look(env:Env)(h:afH)(m:Str->Option adH)(x:Str)(u:adH):Prop :=
 (env.kindOf x=U .local/\m x=U u)∨((env.kindOf x=U .cell∨env.kindOf x=U .free)/\∃ c,env.cells.lookup x=U c/\h.IsCell c (U u))
structure Cx.Ok(X:Cx):Prop where
 mod:Mod X.K X.mg X.base
 kind:X.env.scope.kind = .function
 glob:X.env.globals=ae5
 blt:X.env.builtins=alv
 above:X.s₀.heap.objs.size<=X.env.locals
 inj:∀ x y c,X.env.cells.lookup x=U c->X.env.cells.lookup y=U c->x=y
 has:∀ x,(X.env.kindOf x=U .cell∨X.env.kindOf x=U .free)->∃ c,X.env.cells.lookup x=U c
 cab:∀ x c,X.fn x=true->X.env.cells.lookup x=U c->X.s₀.heap.objs.size<=c
 hd:X.calm=true->X.A.handled=O
 frames:X.A.frames=U X.stack
 stk:X.stack=X.outer∨(X.stack=X.env::X.outer/\X.env.frame=U X.env.locals)
 exf:∀ b∈X.ex,b≠X.env.locals/\∀ x c,X.env.cells.lookup x=U c->c≠b
 bs:∀ b o,X.base.get? b=U o->X.s₀.heap.get? b=U o/\X.H₀ b=O
 bsz:X.base.objs.size<=X.s₀.heap.objs.size
 noex:∀ b o,X.base.get? b=U o->b∉X.ex
 exfs:∀ b∈X.ex,b∉X.fs
 gP:X.s₀.heap.FunFrames X.base X.outer
 frf:∀ b∈X.fs,X.H₀ b=O
structure Inv(X:Cx)(pins:List (adK × Obj))(G:List (Option V))(H:Hp)(s:adQ):Prop where
 ok:X.Ok
 os:s.os=X.s₀.os
 bare:ajh s.gens
 base:Un X.fs X.ex X.H₀ H X.s₀.heap s.heap
 loc:∃ m,s.heap.Ns X.env.locals m/\∀ (i:Nat) (x:Str) (v:V),X.N[i]?=U x->G[i]?=U (U v)->vZ X.env.scope x->∃ u,RelV v u/\Look X.env s.heap m x u
 cell:∀ x c,X.env.cells.lookup x=U c->∃ v,s.heap.IsCell c v
 free:H X.env.locals=O
 gx:∀ x c,X.env.cells.lookup x=U c->H c=O
 pin:∀ p∈X.pn++pins,s.heap.get? p.1=U p.2/\H p.1=O/\p.1≠X.env.locals/\p.1∉X.fs/\∀ v,p.2.data ≠ .cell v
 aA:ck X.prog X.w H s.heap
 len:G.length=X.N.length
section
variable{X:Cx}{pins:List (adK × Obj)}{G:List (Option V)}{H H':Hp}{s:adQ}{h':afH}
theorem Cx.Ok.lR(ok:X.Ok){b:adK}{o:Obj}(e:X.base.get? b=U o):b∉X.fs:=λhb=>by have:=(ok.gP.mem hb).1;rw[e] at this;cases this
theorem Inv.bs(I:Inv X pins G H s):∀ b o,X.base.get? b=U o->s.heap.get? b=U o/\H b=O:=λb o e =>
 #[I.base.keep b o (I.ok.bs b o e).1 (I.ok.bs b o e).2 (I.ok.lR e) (I.ok.noex b o e),I.base.free b o (I.ok.bs b o e).1 (I.ok.bs b o e).2 (I.ok.noex b o e)]
theorem Inv.bk(I:Inv X pins G H s):∀ b o,X.base.get? b=U o->s.heap.get? b=U o:=λb o e=>(I.bs b o e).1
theorem Inv.mod(I:Inv X pins G H s):Mod X.K X.mg X.base:=I.ok.mod
theorem Inv.cv(I:Inv X pins G H s):X.K.In s.heap:=I.ok.mod.kin.keeps I.bk
theorem Inv.lt(I:Inv X pins G H s):X.env.locals<s.heap.objs.size:=let ⟨_,hn,_⟩:=I.loc;hn.lt
theorem Inv.sz(I:Inv X pins G H s):X.s₀.heap.objs.size<=s.heap.objs.size:=adG I.ok.above (ahl I.lt)
theorem Inv.EA(I:Inv X pins G H s)(h:s.heap.objs.size<=a):a∉X.fs:=λhb=>by obtain⟨y,o,ho,y⟩:=I.ok.gP.mem hb;exact absurd (adW (adF ho) (adG I.sz h)) (aeY _)
theorem Inv.jV(I:Inv X pins G H s):∀ x c,X.env.cells.lookup x=U c->c≠X.env.locals:=λx c e z=>by obtain⟨v,o,ho,hd⟩:=I.cell x c e;obtain⟨m,⟨o',es,ep,cU,jW,y⟩,y⟩:=I.loc;rw[z,cU] at ho;cases ho;rw[jW] at hd;cases hd
theorem Inv.gP(I:Inv X pins G H s):s.heap.FunFrames X.base X.outer:=by
 have all:∀ (l:List Env),(∀ b∈bw l,b∈X.fs)->X.s₀.heap.FunFrames X.base l->s.heap.FunFrames X.base l:=by
  intro l
  induction l with
  | nil=>intro y y;trivial
  | cons env r ih =>
   intro hs hl;obtain⟨hk,⟨L,o,hf,hn,ho,hd⟩,hr⟩:=hl;have hL:L∈X.fs:=hs L (by unfold bw;rw[aeT,hf];exact agd);obtain⟨sl,e⟩:=I.base.slot L o ho (I.ok.frf L hL) hL λz=>I.ok.exfs L z hL;exact#[hk,#[L,_,hf,hn,e,hd],ih (λb hb=>hs b (by unfold bw;rw[aeT,hf];exact aer _ hb)) hr]
 exact all X.outer (λy hb=>hb) I.ok.gP
theorem Inv.stack(I:Inv X pins G H s):s.heap.FunFrames X.base X.stack:=by
 rcases I.ok.stk with e|⟨e,hf⟩
 .rw[e];exact I.gP
 .rw[e];obtain⟨m,hn,y⟩:=I.loc;refine .cons (by rw[I.ok.kind];decide) hf hn ?_ I.gP;exact Heap.get?_none_of_le (adG I.ok.bsz I.ok.above)
theorem Inv.qm(I:Inv X pins G H s):∀ b∈bw X.stack,b∈X.env.locals::X.fs:=λb hb=>by
 rcases I.ok.stk with e|⟨e,hf⟩
 .rw[e] at hb;exact aer _ hb
 .rw[e] at hb;unfold bw at hb;rw[aeT,hf] at hb;exact hb
theorem Inv.sQ(I:Inv X pins G H s):∀ b∈bw X.stack,H b=O:=λb hb=>by
 rcases adL.mp (I.qm b hb) with e|hb
 .rw[e];exact I.free
 .obtain⟨y,o,ho,y⟩:=I.ok.gP.mem hb;exact I.base.free b o ho (I.ok.frf b hb) λz=>I.ok.exfs b z hb
theorem Inv.step{g':Array GenState}{t':Nat}{d':Drawn}{ch:List adK}(I:Inv X pins G H s)
 (kL:∀ b∈ch,(b∈X.ex∨X.s₀.heap.objs.size<=b)/\b≠X.env.locals/\(∀ x c,X.env.cells.lookup x=U c->c≠b)/\∀ p∈X.pn++pins,p.1≠b)
 (keep:∀ b o,b≠X.env.locals->b∉X.fs->b∉ch->s.heap.get? b=U o->H b=O->h'.get? b=U o)
 (slot:∀ b o,b≠X.env.locals->b∈X.fs->b∉ch->s.heap.get? b=U o->H b=O->∃ sl,h'.get? b=U { o with slots:=sl }) (free:∀ b o,b∉ch->s.heap.get? b=U o->H b=O->H' b=O)
 (there:∀ b o,b∉ch->s.heap.get? b=U o->∃ o',h'.get? b=U o')
 (gu:∀ b xs,H b=U (.tup xs)->H' b=U (.tup xs)) (fG:∀ b o u,H b=U (.ba o u)->H' b=U (.ba o u)) (gv:∀ b ps,H b=U (.tbl ps)->∃ more,H' b=U (.tbl (ps++more)))
 (ns:∀ m,s.heap.Ns X.env.locals m->h'.Ns X.env.locals m) (aA:ck X.prog X.w H' h') (hg:ajh g') :
 Inv X pins G H' { s with heap:=h',gens:=g',drawn:=d',toks:=t' }:=by
 have qq:∀ b o,X.s₀.heap.get? b=U o->b≠X.env.locals:=λb o e=>adV (adW (adF e) I.ok.above);have v3:∀ b o,X.s₀.heap.get? b=U o->b∉X.ex->b∉ch:=λb o e hx hb=>by
  rcases (kL b hb).1 with z|z
  .exact hx z
  .exact absurd (adW (adF e) z) (aeY _)
 have cellK:∀ x c,X.env.cells.lookup x=U c->∀ v,s.heap.IsCell c v->h'.IsCell c v:=λx c e v ⟨o,ho,hd⟩=>by
  have nj:c∉ch:=λz=>(kL c z).2.2.1 x c e rfl;by_cases hc:c∈X.fs
  .obtain⟨sl,q⟩:=slot c o (I.jV x c e) hc nj ho (I.gx x c e);exact#[_,q,hd]
  .exact#[o,keep c o (I.jV x c e) hc nj ho (I.gx x c e),hd]
 refine#[I.ok,I.os,hg,#[λb o e n hb hx=>?_,λb o e n hb hx=>?_,λb o e n hx=>?_,λb o e hx=>?_,λb xs e=>gu b xs (I.base.gu b xs e),λb o xs e=>fG b o xs (I.base.fG b o xs e),λb ps e=>?_],?_,λx c e=>?_,?_,λx c e=>?_,λp hp=>?_,aA,I.len]
 .exact keep b o (qq b o e) hb (v3 b o e hx) (I.base.keep b o e n hb hx) (I.base.free b o e n hx)
 .obtain⟨sl,e1⟩:=I.base.slot b o e n hb hx;obtain⟨fT,e2⟩:=slot b _ (qq b o e) hb (v3 b o e hx) e1 (I.base.free b o e n hx);exact#[fT,e2]
 .obtain⟨o',e1⟩:=I.base.there b o e hx;exact free b o' (v3 b o e hx) e1 (I.base.free b o e n hx)
 .obtain⟨o',e1⟩:=I.base.there b o e hx;exact there b o' (v3 b o e hx) e1
 .obtain⟨m1,e1⟩:=I.base.gv b ps e;obtain⟨m2,e2⟩:=gv b _ e1;exact#[m1++m2,by rw[e2,aj1]]
 .obtain⟨m,hn,hl⟩:=I.loc;refine#[m,ns m hn,λi x v e1 e2 e3=>?_];obtain⟨u,r,l⟩:=hl i x v e1 e2 e3;refine#[u,r,?_];rcases l with l|⟨k,c,e,z⟩
  .exact .inl l
  .exact .inr #[k,c,e,cellK x c e _ z]
 .obtain⟨v,z⟩:=I.cell x c e;exact#[v,cellK x c e v z]
 .obtain⟨m,⟨o,y,y,ho,y⟩,y⟩:=I.loc;exact free _ o (λz=>(kL _ z).2.1 rfl) ho I.free
 .obtain⟨v,o,ho,hd⟩:=I.cell x c e;exact free c o (λz=>(kL c z).2.2.1 x c e Y) ho (I.gx x c e)
 .obtain⟨e,n,ne,nf,d⟩:=I.pin p hp;have nj:p.1∉ch:=λz=>(kL p.1 z).2.2.2 p hp rfl;exact#[keep p.1 p.2 ne nf nj e n,free p.1 p.2 nj e n,ne,nf,d]
theorem Inv.un(I:Inv X pins G H s)(u:Un X.fs [] H H' s.heap h')(aA:ck X.prog X.w H' h'):Inv X pins G H' { s with heap:=h',toks:=t' }:=by
 obtain⟨m,⟨o,es,ep,ho,r⟩,y⟩:=id I.loc;obtain⟨sl,hL⟩:=u.any ho I.free (by simp);exact I.step (g':=s.gens) (d':=s.drawn) (ch:=[]) (λy z=>nomatch z) (λb o y hb y e n=>u.keep b o e n hb (by simp)) (λb o y hb y e n=>u.slot b o e n hb (by simp)) (λb o y e n=>u.free b o e n (by simp)) (λb o y e=>u.there b o e (by simp)) u.gu u.fG u.gv (λm' hm=>by
  obtain⟨o',es',lS,cU,r'⟩:=hm;rw[ho] at cU;cases cU;exact#[_,es',lS,hL,r']) aA I.bare
theorem Inv.call(I:Inv X pins G H s)(u:Un (bw X.stack) ch H H' s.heap h')(aA:ck X.prog X.w H' h')(hg:ajh g')(kL:∀ b∈ch,(b∈X.ex∨X.s₀.heap.objs.size<=b)/\b≠X.env.locals/\(∀ x c,X.env.cells.lookup x=U c->c≠b)/\∀ p∈X.pn++pins,p.1≠b) :
 Inv X pins G H' { s with heap:=h',gens:=g',drawn:=d',toks:=t' }:=by
 obtain⟨m,⟨o,es,ep,ho,r⟩,y⟩:=id I.loc;obtain⟨sl,hL⟩:=u.any ho I.free λz=>(kL _ z).2.1 rfl;exact I.step (ch:=ch) kL (λb o hL hb hc e n=>u.keep b o e n (λz=>(adL.mp (I.qm b z)).elim hL hb) hc) (λb o y y hc e n=>u.any e n hc) (λb o hc e n=>u.free b o e n hc) (λb o hc e=>u.there b o e hc) u.gu u.fG u.gv (λm' hm=>by
  obtain⟨o',es',lS,cU,r'⟩:=hm;rw[ho] at cU;cases cU;exact#[_,es',lS,hL,r']) aA hg
theorem Inv.turned(I:Inv X pins G H s)(k:∀ b o,b≠it->s.heap.get? b=U o->h'.get? b=U o)(hn:H it=O)(hL:it≠X.env.locals)(h1:it∈X.ex∨X.s₀.heap.objs.size<=it)(h2:∀ x c,X.env.cells.lookup x=U c->c≠it)(h3:∀ p∈X.pn++pins,p.1≠it):Inv X pins G H { s with heap:=h',toks:=t' }:=by
 have EB:∀ b u,H b=U u->b≠it:=λb u e z=>by rw[z,hn] at e;cases e
 refine I.step (g':=s.gens) (d':=s.drawn) (ch:=[it]) (λb hb=>?_) (λb o y y hc e y=>k b o (λz=>hc (by simp[z])) e) (λb o y y hc e y=>#[o.slots,k b o (λz=>hc (by simp[z])) e]) (λy y y y n=>n)
  (λb o hc e=>#[o,k b o (λz=>hc (by simp[z])) e]) (λy y e=>e) (λy y y e=>e) (λb ps e=>#[(List.toArray []),by rw[e];simp]) (λm hm=>?_) (λb u e=>?_) I.bare
 .have e:b=it:=by simpa using hb
  subst e;exact#[h1,hL,h2,h3]
 .obtain⟨o,es,ep,ho,r⟩:=hm;exact#[o,es,ep,k _ o (aey hL) ho,r]
 .refine (I.aA b u e).stay (λc v hc q=>k c v ?_ q) (λy q=>q) λy y q=>q;rcases hc with z|z
  .rw[z];exact EB b u e
  .exact EB c _ z
theorem Inv.tok(I:Inv X pins G H s)(t:Nat):Inv X pins G H { s with toks:=t }:=I.un (h':=s.heap) (t':=t) Un.refl I.aA
theorem Inv.kept(I:Inv X pins G H s)(k:∀ b u,s.heap.get? b=U u->h'.get? b=U u):Inv X pins G H { s with heap:=h',toks:=t' }:=I.un (Un.kept k) (I.aA.kept k)
theorem Inv.laid(I:Inv X pins G H s)(k:∀ b u,s.heap.get? b=U u->h'.get? b=U u)(hp:s.heap.objs.size<=a)(new:bW X.prog X.w (upd H a o) h' a o) :
 Inv X pins G (upd H a o) { s with heap:=h',toks:=t' }:=I.un (Un.laid k hp (I.aA.fresh hp)) (I.aA.laid k hp new)
theorem Inv.write(I:Inv X pins G H s)(mu:sP (H x))(he:e=x∨H e=U (.own x))(k:∀ b u,b≠e->s.heap.get? b=U u->h'.get? b=U u)(ql:∃ u,h'.get? e=U u)(new:bW X.prog X.w (upd H x o) h' x o):Inv X pins G (upd H x o) { s with heap:=h',toks:=t' }:=I.un (Un.write mu he k ql) (I.aA.write mu he k ql new)
theorem Inv.weak(I:Inv X pins G H s)(hl:σ'.length=G.length)(w:∀ (i:Nat) v,σ'[i]?=U (U v)->G[i]?=U (U v)):Inv X pins σ' H s :=
 #[I.ok,I.os,I.bare,I.base,let ⟨m,hn,sR⟩:=I.loc;#[m,hn,λi x v e1 e2 e3=>sR i x v e1 (w i v e2) e3],I.cell,I.free,I.gx,I.pin,I.aA,hl.trans I.len]
theorem Inv.sS(I:Inv X pins G H s)(h:∀ p∈zy,s.heap.get? p.1=U p.2/\H p.1=O/\p.1≠X.env.locals/\p.1∉X.fs/\∀ v,p.2.data ≠ .cell v):Inv X zy G H s :=
 #[I.ok,I.os,I.bare,I.base,I.loc,I.cell,I.free,I.gx,λp hp=>(aec.mp hp).elim (λz=>I.pin p (afs _ z)) (h p),I.aA,I.len]
theorem zz{N:List Str}(hN:N.Nodup){i j:Nat}{x:Str}(a:N[i]?=U x)(b:N[j]?=U x):i=j:=by obtain⟨h1,e1⟩:=adI.mp a;obtain⟨h2,e2⟩:=adI.mp b;exact (List.getElem_inj hN).mp (e1.trans e2.symm)
theorem Oq(I:Inv X pins G H s)(hN:X.N.Nodup)(hi:X.N[i]?=U x)(hx:Loc X.env.scope x)(r:RelV v u)(h:∀ s',Inv X pins (G.set i (U v)) H s'->(∃ a,Heap.SameBut a s.heap s'.heap/\(a=X.env.locals∨X.env.cells.lookup x=U a))->Q () s')(hf:X.fn x=true∨X.env.scope.names.lookup x=U .local:=by first|exact .inl rfl|exact .inr rfl|assumption):adY M A (storeName X.env x u) Q E s:=by
 obtain⟨m,hn,hl⟩:=id I.loc;have zA:(X.env.scope.kind == .class || (X.env.scope.kind == .module && X.env.locals != X.env.globals))=false:=by rw[I.ok.kind];rfl
 have EC:i<G.length:=by rw[I.len];exact (adI.mp hi).1
 have jV:=I.jV;have tracked:∀ {a:adK} {h':afH},(∃ o,s.heap.get? a=U o/\H a=O)->Heap.SameBut a s.heap h'->ck X.prog X.w H h':=λ{a h'} ha hs b ob e=>by
  obtain⟨g,g,hfree⟩:=ha;refine (I.aA b ob e).stay (λc w' hc q=>(hs.2 c ?_).trans q) (λg q=>q) λg g q=>q;rintro rfl;rcases hc with rfl|hc
  .rw[hfree] at e;cases e
  .rw[hfree] at hc;cases hc
 rcases hx with hk|hk
 .refine wpAny_storeName_local hk hn (λh' kM hs=>?_) zA;obtain⟨oL,g,g,ED,g⟩:=id hn;refine h _ #[I.ok,I.os,I.bare,#[λb o e n hb hx=>?_,λb o e n hb hx=>?_,I.base.free,λb o e hx=>?_,I.base.gu,I.base.fG,I.base.gv],#[_,kM,λj y v' e1 e2 e3=>?_],λy c e=>?_,I.free,I.gx,λp hp=>?_,tracked #[oL,ED,I.free] hs,by simpa using I.len] #[_,hs,.inl rfl]
  .exact (hs.2 b (adV (adW (adF e) I.ok.above))).trans (I.base.keep b o e n hb hx)
  .obtain⟨sl,e1⟩:=I.base.slot b o e n hb hx;exact#[sl,(hs.2 b (adV (adW (adF e) I.ok.above))).trans e1]
  .obtain⟨o',e1⟩:=I.base.there b o e hx;exact#[o',(hs.2 b (adV (adW (adF e) I.ok.above))).trans e1]
  .by_cases hj:j=i
   .subst hj;rw[hi] at e1;cases e1;rw[ag1 EC] at e2;cases e2;exact#[u,r,.inl #[hk,by simp]]
   .rw[ahE (aey hj)] at e2;obtain⟨u',r',q⟩:=hl j y v' e1 e2 e3;refine#[u',r',?_];rcases q with ⟨k,e⟩|⟨k,c,e,z⟩
    .refine .inl #[k,?_];have:y≠x:=λe=>hj (zz hN e1 (e ▸ hi));simp[this,e]
    .exact .inr #[k,c,e,z.sameBut hs (jV y c e)]
  .obtain⟨w',z⟩:=I.cell y c e;exact#[w',z.sameBut hs (jV y c e)]
  .obtain⟨e,n,ne,nf,d⟩:=I.pin p hp;exact#[(hs.2 p.1 ne).trans e,n,ne,nf,d]
 .have zB:X.fn x=true:=by
   rcases hf with z|z
   .exact z
   .rw[z] at hk;cases hk
  obtain⟨c,hc⟩:=I.ok.has x (.inl hk);obtain⟨w',z⟩:=I.cell x c hc;refine wpAny_storeName_cell I.ok.kind hk hc z (λh' lT hs=>?_);obtain⟨oc,hoc,hocd⟩:=id z;refine h { s with heap:=h' } #[I.ok,I.os,I.bare,#[λb o e n hb hx=>?_,λb o e n hb hx=>?_,I.base.free,λb o e hx=>?_,I.base.gu,I.base.fG,I.base.gv],#[m,hn.sameBut hs (aey (jV x c hc)),λj y v' e1 e2 e3=>?_],λy c' e=>?_,I.free,I.gx,λp hp=>?_,tracked #[oc,hoc,I.gx x c hc] hs,by simpa using I.len] #[c,hs,.inr hc]
  .exact (hs.2 b (adV (adW (adF e) (I.ok.cab x c zB hc)))).trans (I.base.keep b o e n hb hx)
  .obtain⟨sl,e1⟩:=I.base.slot b o e n hb hx;exact#[sl,(hs.2 b (adV (adW (adF e) (I.ok.cab x c zB hc)))).trans e1]
  .obtain⟨o',e1⟩:=I.base.there b o e hx;exact#[o',(hs.2 b (adV (adW (adF e) (I.ok.cab x c zB hc)))).trans e1]
  .by_cases hj:j=i
   .subst hj;rw[hi] at e1;cases e1;rw[ag1 EC] at e2;cases e2;exact#[u,r,.inr #[.inl hk,c,hc,lT]]
   .rw[ahE (aey hj)] at e2;obtain⟨u',r',q⟩:=hl j y v' e1 e2 e3;refine#[u',r',?_];rcases q with q|⟨k,c',e,z'⟩
    .exact .inl q
    .refine .inr #[k,c',e,z'.sameBut hs ?_];rintro rfl;exact hj (zz hN e1 (I.ok.inj _ _ _ e hc ▸ hi))
  .by_cases v5:c'=c
   .subst v5;exact#[_,lT]
   .obtain⟨w2,z2⟩:=I.cell y c' e;exact#[w2,z2.sameBut hs v5]
  .obtain⟨e,n,ne,nf,d⟩:=I.pin p hp;refine#[(hs.2 p.1 ?_).trans e,n,ne,nf,d];intro q;rw[q,hoc] at e;have q':oc=p.2:=Option.some.inj e;exact d w' (by rw[<- q'];exact hocd)
theorem zC(I:Inv X pins G H s)(hN:X.N.Nodup)(hi:X.N[i]?=U x)(hx:Loc X.env.scope x)(r:RelV v u)(h:∀ s',Inv X pins (G.set i (U v)) H s'->Q () s')(hf:X.fn x=true∨X.env.scope.names.lookup x=U .local:=by first|exact .inl rfl|exact .inr rfl|assumption):adY M A (storeName X.env x u) Q E s :=
 Oq I hN hi hx r (λs' I' y=>h s' I') hf
theorem Inv.zD(I:Inv X pins G H s)(ho:s'.os=s.os)(u:Un (bw X.stack) ch H H' s.heap s'.heap)(aA:ck X.prog X.w H' s'.heap)(hg:ajh s'.gens)(kL:∀ b∈ch,(b∈X.ex∨X.s₀.heap.objs.size<=b)/\b≠X.env.locals/\(∀ x c,X.env.cells.lookup x=U c->c≠b)/\∀ p∈X.pn++pins,p.1≠b):Inv X pins G H' s':=by obtain⟨h',g',d',t',o'⟩:=s';have e:o'=s.os:=ho;subst e;exact I.call (g':=g') (t':=t') (d':=d') u aA hg kL
end
abbrev XK:=adH->Option adK->Hp->Prop
abbrev St:=List (Option V)
abbrev VK:=V->Hp->Prop
abbrev TE:=St->Hp->VK->Prop
abbrev TT:=St->Hp->(Bool->Hp->Prop)->Prop
abbrev TA:=St->Hp->(List V->Hp->Prop)->Prop
structure Ends where
 nx:St->Hp->Prop
 rt:VK
 bk:St->Hp->Prop:=λ_ _=>False
 ct:St->Hp->Prop:=λ_ _=>False
abbrev TS:=Ends->St->Hp->Prop
def EP(X:Cx)(pins:List (adK × Obj))(G:St)(Q:VK)(u:adH)(s':adQ):Prop:=∃ v H',Inv X pins G H' s'/\RelV v u/\Q v H'
def TP(X:Cx)(pins:List (adK × Obj))(G:St)(Q:Bool->Hp->Prop)(b:Bool)(s':adQ):Prop:=∃ H',Inv X pins G H' s'/\Q b H'
def AP(X:Cx)(pins:List (adK × Obj))(G:St)(Q:List V->Hp->Prop)(us:List adH)(s':adQ):Prop:=∃ vs H',Inv X pins G H' s'/\Vals vs us/\Q vs H'
def SP(X:Cx)(pins:List (adK × Obj))(D:Ends)(f:Flow)(s':adQ):Prop :=
 match f with
 | .next=>∃ σ' H',Inv X pins σ' H' s'/\D.nx σ' H'
 | .brk=>∃ σ' H',Inv X pins σ' H' s'/\D.bk σ' H'
 | .cont=>∃ σ' H',Inv X pins σ' H' s'/\D.ct σ' H'
 | .ret u=>∃ v σ' H',Inv X pins σ' H' s'/\RelV v u/\D.rt v H'
def PE(X:Cx)(e:ahx)(t:TE):Prop :=
 ∀ (pins:List (adK × Obj)) (s:adQ) (G:St) (H:Hp) (Q:VK),Inv X pins G H s->t G H Q->adY (model X.prog X.w) X.A (eval e X.env) (EP X pins G Q) X.xe s
def PT(X:Cx)(e:ahx)(t:TT):Prop :=
 ∀ (pins:List (adK × Obj)) (s:adQ) (G:St) (H:Hp) (Q:Bool->Hp->Prop),Inv X pins G H s->t G H Q->adY (model X.prog X.w) X.A (alU e X.env (eval e X.env)) (TP X pins G Q) X.xe s
def PW(X:Cx)(e:ahx)(t:TT):Prop :=
 ∀ (whole:Sem adH) (pins:List (adK × Obj)) (s:adQ) (G:St) (H:Hp) (Q:Bool->Hp->Prop),Inv X pins G H s->t G H Q->adY (model X.prog X.w) X.A (alU e X.env whole) (TP X pins G Q) X.xe s
theorem PW.pt(h:PW X e t):PT X e t:=h _
def PA(X:Cx)(es:List ahx)(t:TA):Prop :=
 ∀ (pos:Pos) (pins:List (adK × Obj)) (s:adQ) (G:St) (H:Hp) (Q:List V->Hp->Prop),Inv X pins G H s->t G H Q->adY (model X.prog X.w) X.A (spliced (afi pos (adX es X.env))) (AP X pins G Q) X.xe s
def PS(X:Cx)(st:aiK)(t:TS):Prop :=
 ∀ (pins:List (adK × Obj)) (s:adQ) (G:St) (H:Hp) (D:Ends),Inv X pins G H s->t D G H->adY (model X.prog X.w) X.A (exec st X.env) (SP X pins D) X.xe s
def aT(X:Cx)(st:List aiK)(t:TS):Prop :=
 ∀ (pins:List (adK × Obj)) (s:adQ) (G:St) (H:Hp) (D:Ends),Inv X pins G H s->t D G H->adY (model X.prog X.w) X.A (execs st X.env) (SP X pins D) X.xe s
theorem aI(h:adY M A t Q E s)(hQ:∀ a s,Q a s->Q' a s):adY M A t Q' E s:=aeO h hQ λy y x=>x
section
variable{X:Cx}
def zE(i:Nat):TE:=λG H Q=>∃ v,G[i]?=U (U v)/\Q v H
def tC(v:V):TE:=λy H Q=>Q v H
theorem Ot(hN:X.N[i]?=U x)(hv:vZ X.env.scope x)(hd:(x == ("__debug__" : Str))=false:=by decide)(gQ:(x == ("__classdict__" : Str))=false:=by decide):PE X (.Name x pos) (zE i):=by
 intro pins s G H Q I h;obtain⟨v,e,h⟩:=h;obtain⟨m,hn,hl⟩:=I.loc;obtain⟨u,r,l⟩:=hl i x v hN e hv;have fin:EP X pins G Q u s:=#[v,H,I,r,h]
 rcases l with ⟨hk,hm⟩|⟨hk,c,hc,hcell⟩
 .exact alw (wpAny_loadName_local I.ok.kind hk hn hm fin) hd
 .rcases hk with hk|hk
  .exact alw (wpAny_loadName_cell I.ok.kind hk hc hcell fin) hd
  .exact alw (wpAny_loadName_free I.ok.kind hk hc hcell fin gQ) hd
theorem ag:PE X (.Constant (.int i) j pos) (tC (.int i)):=λy y y H y I h=>wpAny_Constant_int #[.int i,H,I.tok _,#[_,Y],h]
theorem fH:PE X (.Constant (.bool b) j pos) (tC (.bl b)):=λy y y H y I h=>Constant_bool #[.bl b,H,I,Y,h]
theorem bI:PE X (.Constant .none j pos) (tC .non):=λy y y H y I h=>aj2 #[.non,H,I,Y,h]
theorem aS:PE X (.Constant (.str x) j pos) (tC (.str x)):=λy y y H y I h=>Calls.Constant_str #[.str x,H,I.tok _,#[_,Y],h]
def Gl(X:Cx)(x:Str):Prop:=X.env.kindOf x=U .globalImplicit
theorem sT(I:Inv X pins G H s)(hg:Gl X x)(hm:X.mg x=U u)(h:Q u s)(hd:(x == ("__debug__" : Str))=false:=by decide):adY (model X.prog X.w) X.A (eval (.Name x pos) X.env) Q E s :=
 ah6 I.ok.kind hg (Calls.loadGlobal_global (by rw[I.ok.glob];exact I.mod.glob.keeps I.bk) hm h) hd
theorem gy(I:Inv X pins G H s)(hg:Gl X x)(hm:X.mg x=O)(hv:aej x=U u)(h:Q u s)(hn:x ≠ "__name__" := by decide)(hd:(x == ("__debug__" : Str))=false:=by decide):adY (model X.prog X.w) X.A (eval (.Name x pos) X.env) Q E s:=by obtain⟨mb,h1,h2⟩:=I.mod.blt;exact ah6 I.ok.kind hg (Calls.loadGlobal_builtin (by rw[I.ok.glob];exact I.mod.glob.keeps I.bk) hm (by rw[I.ok.blt];exact h1.keeps I.bk) ((h2 x hn).trans hv) h) hd
theorem v7(hg:Gl X x)(hm:X.mg x=U u)(r:RelV v u)(hd:(x == ("__debug__" : Str))=false:=by decide):PE X (.Name x pos) (tC v) :=
 λy y y H y I h=>sT I hg hm #[v,H,I,r,h] hd
theorem oA(hg:Gl X x)(hm:X.mg x=O)(hv:aej x=U u)(r:RelV v u)(hn:x ≠ "__name__" := by decide)(hd:(x == ("__debug__" : Str))=false:=by decide):PE X (.Name x pos) (tC v) :=
 λy y y H y I h=>gy I hg hm hv #[v,H,I,r,h] hn hd
variable{a b:ahx}{ta tb:TE}{pos:Pos}
def PC(X:Cx)(op:CmpOp)(a b:ahx)(t:TE):Prop :=
 ∀ (pins:List (adK × Obj)) (s:adQ) (G:St) (H:Hp) (Q:VK),Inv X pins G H s->t G H Q ->
  adY (model X.prog X.w) X.A (eval a X.env) (λv s₁=>adY (model X.prog X.w) X.A (eval b X.env) (λu s₂=>adY (model X.prog X.w) X.A (aeL op v u) (EP X pins G Q) X.xe s₂) X.xe s₁) X.xe s
theorem EE(b:ahx)(h:op ≠ .In)(h2:op ≠ .NotIn):afJ op b=false:=by
 have e1:(op == CmpOp.In)=false:=by cases op<;>first|rfl|exact absurd Y h
 have e2:(op == CmpOp.NotIn)=false:=by cases op<;>first|rfl|exact absurd Y h2
 cases b<;>simp[afJ,e1,e2]
def EF(ta:TE):TE:=λG H Q=>ta G H λx H1=>Q (.bl (decide (x = .non))) H1
def EG(ta:TE):TE:=λG H Q=>ta G H λx H1=>Q (.bl (!decide (x = .non))) H1
theorem RelV.EH(r:RelV x v):(v == Value.none)=decide (x = .non):=by
 cases x with
 | non=>cases r;rfl
 | bl _=>cases r;rfl
 | int _=>obtain⟨t,rfl⟩:=r;rfl
 | str _=>obtain⟨t,rfl⟩:=r;rfl
 | byt _=>obtain⟨t,rfl⟩:=r;rfl
 | flt _=>obtain⟨t,rfl⟩:=r;rfl
 | ref _=>cases r;rfl
 | ty _=>cases r;rfl
theorem sU(ha:PE X a ta):PC X .Is a (.Constant .none j pos') (EF ta):=by intro pins s G H Q I h;refine aI (ha pins s G H _ I h) λv s1 zq=>?_;obtain⟨x,H1,I1,r1,q1⟩:=zq;exact aj2 (is_none_gen #[.bl _,H1,I1,by rw[r1.EH];rfl,q1])
theorem sV(ha:PE X a ta):PC X .IsNot a (.Constant .none j pos') (EG ta):=by intro pins s G H Q I h;refine aI (ha pins s G H _ I h) λv s1 zq=>?_;obtain⟨x,H1,I1,r1,q1⟩:=zq;exact aj2 (isnot_none_gen #[.bl _,H1,I1,by rw[r1.EH];rfl,q1])
def tB(t:TE):TT:=λG H Q=>t G H λx H1=>∃ c,x = .bl c/\Q c H1
theorem nk(h:PC X op a b t)(h1:afJ op b=false:=by first|exact EE _ (by decide) (by decide)|rfl):PE X (.Compare a [op] [b] pos) t:=λpins s G H Q I hw=>wpAny_Compare1 (h pins s G H Q I hw) h1
theorem sW(h:PC X op a b t)(h1:afJ op b=false:=by first|exact EE _ (by decide) (by decide)|rfl):PT X (.Compare a [op] [b] pos) (tB t):=by intro pins s G H Q I hw;refine aji (aI (h pins s G H _ I hw) λv s1 h1=>aI h1 λu s2 h2=>aI h2 λc s3 zq=>?_) h1;obtain⟨x,H1,I1,r1,q1⟩:=zq;obtain⟨d,rfl,q⟩:=q1;cases r1;exact aeo #[H1,I1,q]
theorem Ou(h:PE X e t)(he:∀ whole,alU e X.env whole=(do let v <- whole;ajQ e.pos;holding [v] (truthy v)):=by intro y;rfl):PT X e (tB t):=by intro pins s G H Q I hw;refine isTrue_plain (aI (h pins s G H _ I hw) λv s1 zq=>?_) (he _);obtain⟨x,H1,I1,r1,q1⟩:=zq;obtain⟨d,rfl,q⟩:=q1;cases r1;exact aeo #[H1,I1,q]
variable{tA v8:TT}{rest:List ahx}
def EI(t u:TT):TT:=λG H Q=>t G H λc H1=>if c=true then u G H1 Q else Q false H1
def EJ(t u:TT):TT:=λG H Q=>t G H λc H1=>if c=true then Q true H1 else u G H1 Q
def EK(t:TT):TT:=λG H Q=>t G H λc H1=>Q (!c) H1
theorem jX(ha:PT X a tA):PW X (.BoolOp .And [a] pos) tA:=by
 intro wh pins s G H Q I h;refine isTrue_and (aI (ha pins s G H Q I h) λc s1 e=>?_);cases c with
 | true=>exact isTrue_and_nil e
 | false=>exact e
theorem eL(ha:PT X a tA):PW X (.BoolOp .Or [a] pos) tA:=by
 intro wh pins s G H Q I h;refine isTrue_or (aI (ha pins s G H Q I h) λc s1 e=>?_);cases c with
 | false=>exact isTrue_or_nil e
 | true=>exact e
theorem jg(ha:PT X a tA)(hb:PW X (.BoolOp .And (b::rest) pos) v8):PW X (.BoolOp .And (a::b::rest) pos) (EI tA v8):=by
 intro wh pins s G H Q I h;refine isTrue_and (aI (ha pins s G H _ I h) λc s1 zq=>?_);obtain⟨H1,I1,q1⟩:=zq;cases c with
 | true=>exact hb wh pins s1 G H1 Q I1 q1
 | false=>exact#[H1,I1,q1]
theorem cL(ha:PT X a tA)(hb:PW X (.BoolOp .Or (b::rest) pos) v8):PW X (.BoolOp .Or (a::b::rest) pos) (EJ tA v8):=by
 intro wh pins s G H Q I h;refine isTrue_or (aI (ha pins s G H _ I h) λc s1 zq=>?_);obtain⟨H1,I1,q1⟩:=zq;cases c with
 | true=>exact#[H1,I1,q1]
 | false=>exact hb wh pins s1 G H1 Q I1 q1
theorem cV(ha:PT X a tA):PT X (.UnaryOp .Not a pos) (EK tA):=by intro pins s G H Q I h;exact isTrue_not (ha pins s G H (λc H1=>Q (!c) H1) I h)
def EL(ta tb:TE):TE:=λG H Q=>ta G H λx H1=>∃ c,x = .bl c/\if c=true then tb G H1 Q else Q (.bl false) H1
def EM(ta tb:TE):TE:=λG H Q=>ta G H λx H1=>∃ c,x = .bl c/\if c=true then Q (.bl true) H1 else tb G H1 Q
def EN(ta:TE):TE:=λG H Q=>ta G H λx H1=>∃ c,x = .bl c/\Q (.bl (!c)) H1
theorem fq(h:PE X a t):PE X (.BoolOp op [a] pos) t:=λpins s G H Q I hw=>BoolOp_one (h pins s G H Q I hw)
theorem Ov(ha:PE X a ta)(hb:PE X (.BoolOp .And (b::rest) pos) tb):PE X (.BoolOp .And (a::b::rest) pos) (EL ta tb):=by
 intro pins s G H Q I h;refine BoolOp_and (aI (ha pins s G H _ I h) λv s1 zq=>?_);obtain⟨x,H1,I1,r1,q1⟩:=zq;obtain⟨c,rfl,q1⟩:=q1;cases r1;refine aeo ?_;cases c with
 | true=>exact hb pins s1 G H1 Q I1 q1
 | false=>exact#[.bl false,H1,I1,Y,q1]
theorem Ow(ha:PE X a ta)(hb:PE X (.BoolOp .Or (b::rest) pos) tb):PE X (.BoolOp .Or (a::b::rest) pos) (EM ta tb):=by
 intro pins s G H Q I h;refine BoolOp_or (aI (ha pins s G H _ I h) λv s1 zq=>?_);obtain⟨x,H1,I1,r1,q1⟩:=zq;obtain⟨c,rfl,q1⟩:=q1;cases r1;refine aeo ?_;cases c with
 | false=>exact hb pins s1 G H1 Q I1 q1
 | true=>exact#[.bl true,H1,I1,Y,q1]
theorem Ox(ha:PE X a ta):PE X (.UnaryOp .Not a pos) (EN ta):=by intro pins s G H Q I h;refine UnaryOp_ (aI (ha pins s G H _ I h) λv s1 zq=>?_);obtain⟨x,H1,I1,r1,q1⟩:=zq;obtain⟨c,rfl,q1⟩:=q1;cases r1;exact not_of (aeo #[.bl (!c),H1,I1,Y,q1])
def EO(t:TT)(ta tb:TE):TE:=λG H Q=>t G H λc H1=>if c=true then ta G H1 Q else tb G H1 Q
theorem nq(hc:PT X c tA)(ha:PE X a ta)(hb:PE X b tb):PE X (.IfExp c a b pos) (EO tA ta tb):=by
 intro pins s G H Q I h;refine wpAny_IfExp (aI (hc pins s G H _ I h) λd s1 zq=>?_);obtain⟨H1,I1,q1⟩:=zq;cases d with
 | true=>exact ha pins s1 G H1 Q I1 q1
 | false=>exact hb pins s1 G H1 Q I1 q1
end
def aj(K:adz)(H:Hp)(a:adK)(xs:List V):Prop :=
 Rd H a (.lst xs) ∨
  ∃ (o:Obj) (ax:Array adH) (n:Nat),K.lookup a=U o/\o.cls = .type "list" /\ o.dict=O/\o.data = .seq ax n/\ax.size<=ad1/\Vals xs ax.toList
def ak(K:adz)(H:Hp)(a:adK)(xs:List V):Prop :=
 Rd H a (.tup xs) ∨
  ∃ (o:Obj) (ax:Array adH) (n:Nat),K.lookup a=U o/\o.cls = .type "tuple" /\ o.data = .seq ax n/\ax.size<=ad1/\Vals xs ax.toList
noncomputable def Oy:adH->Option V
 | .none=>U .non
 | .bool b=>U (.bl b)
 | .int i _=>U (.int i)
 | .str x _=>U (.str x)
 | .bytes b _=>U (.byt b)
 | .float b _=>U (.flt b)
 | .ref a=>U (.ref a)
 | .type n=>U (.ty n)
 | _=>O
theorem RelV.abs(r:RelV x u):Oy u=U x:=by
 cases x with
 | non=>cases r;rfl
 | bl _=>cases r;rfl
 | int _=>obtain⟨t,rfl⟩:=r;rfl
 | str _=>obtain⟨t,rfl⟩:=r;rfl
 | byt _=>obtain⟨t,rfl⟩:=r;rfl
 | flt _=>obtain⟨t,rfl⟩:=r;rfl
 | ref _=>cases r;rfl
 | ty _=>cases r;rfl
theorem RelV.inj(r:RelV x u)(q:RelV y u):x=y:=Option.some.inj (r.abs.symm.trans q.abs)
theorem Vals.inj:∀ {xs ys:List V} {us:List adH},Vals xs us->Vals ys us->xs=ys:=by
 intro xs ys us h h'
 induction h generalizing ys with
 | nil=>cases h';rfl
 | cons r t ih =>
  cases h' with
  | cons r' t'=>rw[r.inj r',ih t']
section
theorem aj.of{K:adz}(h:H a=U (.lst xs)):aj K H a xs:=.inl (.inl h)
theorem ak.of{K:adz}(h:H a=U (.tup xs)):ak K H a xs:=.inl (.inl h)
theorem Inv.list(I:Inv X pins G H s)(h:aj X.K H a xs):∃ ax:List adH,Vals xs ax/\PlainL s.heap a ax.toArray/\xs.length<=ad1:=by
 rcases h with h|⟨o,ax,n,hk,hc,hd,hs,hz,r⟩
 .obtain⟨z,ax,n,r,e⟩:=h.ok I.aA;exact#[ax,r,#[_,n,e,Y,Y,Y],z]
 .refine#[ax.toList,r,#[o,n,I.cv a o hk,hc,hd,by simpa using hs],?_];have e:=r.length;simp only[afy] at e;omega
theorem Inv.tuple(I:Inv X pins G H s)(h:ak X.K H a xs):∃ ax:List adH,Vals xs ax/\IsTup s.heap a ax.toArray/\xs.length<=ad1:=by
 rcases h with h|⟨o,ax,n,hk,hc,hs,hz,r⟩
 .obtain⟨z,ax,r,p⟩:=h.ok I.aA;exact#[ax,r,p,z]
 .refine#[ax.toList,r,#[o,I.cv a o hk,hc,n,by simpa using hs],?_];have e:=r.length;simp only[afy] at e;omega
theorem Inv.sX(I:Inv X pins G H s)(h:aj X.K H a xs)(h':aj X.K H a ys):xs=ys:=by
 obtain⟨ax,r,⟨o,n,e,y,y,d⟩,y⟩:=I.list h;obtain⟨its',r',⟨o',n',e',y,y,d'⟩,y⟩:=I.list h';rw[e] at e';cases e';rw[d] at d';injection d' with d1 _;have:ax=its':=by simpa using congrArg akz d1
 subst this;exact r.inj r'
theorem Inv.Oz(I:Inv X pins G H s)(h:ak X.K H a xs)(h':ak X.K H a ys):xs=ys:=by
 obtain⟨ax,r,⟨o,e,y,n,d⟩,y⟩:=I.tuple h;obtain⟨its',r',⟨o',e',y,n',d'⟩,y⟩:=I.tuple h';rw[e] at e';cases e';rw[d] at d';injection d' with d1 _;have:ax=its':=by simpa using congrArg akz d1
 subst this;exact r.inj r'
end
noncomputable abbrev Cx.kN(X:Cx)(E:adH->adQ->Prop):Cx:={ X with xe:=E }
noncomputable abbrev Cx.qr(X:Cx):Cx:=X.kN λy y=>False
theorem Cx.Ok.kN{X:Cx}(ok:X.Ok)(E:adH->adQ->Prop):(X.kN E).Ok :=
 #[ok.mod,ok.kind,ok.glob,ok.blt,ok.above,ok.inj,ok.has,ok.cab,ok.hd,ok.frames,ok.stk,ok.exf,ok.bs,ok.bsz,ok.noex,ok.exfs,ok.gP,ok.frf]
theorem Cx.Ok.nr{X:Cx}{E:adH->adQ->Prop}(ok:(X.kN E).Ok):X.Ok :=
 #[ok.mod,ok.kind,ok.glob,ok.blt,ok.above,ok.inj,ok.has,ok.cab,ok.hd,ok.frames,ok.stk,ok.exf,ok.bs,ok.bsz,ok.noex,ok.exfs,ok.gP,ok.frf]
section
theorem Inv.kN(I:Inv X pins G H s)(E:adH->adQ->Prop):Inv (X.kN E) pins G H s:=#[I.ok.kN E,I.os,I.bare,I.base,I.loc,I.cell,I.free,I.gx,I.pin,I.aA,I.len]
theorem Inv.nr(I:Inv (X.kN E) pins G H s):Inv X pins G H s:=#[I.ok.nr,I.os,I.bare,I.base,I.loc,I.cell,I.free,I.gx,I.pin,I.aA,I.len]
theorem SP.nr(h:SP (X.kN E) pins D f s'):SP X pins D f s':=by
 cases f with
 | next=>obtain⟨σ',H',I,q⟩:=h;exact#[σ',H',I.nr,q]
 | brk=>obtain⟨σ',H',I,q⟩:=h;exact#[σ',H',I.nr,q]
 | cont=>obtain⟨σ',H',I,q⟩:=h;exact#[σ',H',I.nr,q]
 | ret u=>obtain⟨v,σ',H',I,r,q⟩:=h;exact#[v,σ',H',I.nr,r,q]
theorem aT.qr{st:List aiK}{t:TS}(h:aT X.qr st t):aT X st t:=λpins s G H D I hw =>
 aeO (h pins s G H D (I.kN _) hw) (λy y q=>q.nr) λy y z=>afI z
end
section
variable{X:Cx}{st:aiK}{rest:List aiK}{t u:TS}{e:ahx}{te:TE}{pos:Pos}
def sY:TS:=λD G H=>D.nx G H
def lU(t u:TS):TS:=λD G H=>t { D with nx:=u D } G H
theorem aH:aT X [] sY:=λy y G H y I h=>ahN #[G,H,I,h]
theorem aq(h1:PS X st t)(h2:aT X rest u):aT X (st::rest) (lU t u):=by
 intro pins s G H D I h;refine akJ (aI (h1 pins s G H { D with nx:=u D } I h) λf s1 q=>?_);cases f with
 | next =>
  obtain⟨σ',H',I',q⟩:=q;exact h2 pins s1 σ' H' D I' q
 | ret v=>exact q
 | brk=>exact q
 | cont=>exact q
theorem aw(h1:PS X st t):aT X [st] t:=by
 intro pins s G H D I h;refine akJ (aI (h1 pins s G H D I h) λf s1 q=>?_);cases f with
 | next=>exact ahN q
 | ret v=>exact q
 | brk=>exact q
 | cont=>exact q
theorem Inv.quiet(I:Inv X pins G H s):interactive X.env=false:=by simp[interactive,I.ok.kind]
def ER(te:TE):TS:=λD G H=>te G H λy H1=>D.nx G H1
theorem dq(he:PE X e te)(hs:ahO e O pos.line X.env=pure false:=by rfl):PS X (.Expr e pos) (ER te):=by intro pins s G H D I h;exact wpAny_Expr_any (aI (he pins s G H _ I h) λv s1 ⟨x,H1,I1,r1,q1⟩=>#[G,H1,I1,q1]) I.quiet hs
def ES(te:TE):TS:=λD G H=>te G H D.rt
theorem aB(he:PE X e te):PS X (.Return (U e) pos) (ES te):=by intro pins s G H D I h;exact wpAny_Return_some (aI (he pins s G H _ I h) λv s1 ⟨x,H1,I1,r1,q1⟩=>#[x,G,H1,I1,r1,q1])
def kO(c:TT)(t u:TS):TS:=λD G H=>c G H λb H1=>if b=true then t D G H1 else u D G H1
theorem aG(hc:PT X c tc)(ha:aT X a t)(hb:aT X b u):PS X (.If c a b pos) (kO tc t u):=by
 intro pins s G H D I h;refine wpAny_If (aI (hc pins s G H _ I h) λd s1 zq=>?_);obtain⟨H1,I1,q1⟩:=zq;cases d with
 | true=>exact ha pins s1 G H1 D I1 q1
 | false=>exact hb pins s1 G H1 D I1 q1
def OA:TS:=λy y y=>False
theorem ET:aT X sts OA:=λy y y y y y h=>h.elim
end
abbrev TG:=V->St->Hp->(St->Hp->Prop)->Prop
abbrev sZ:=List V->St->Hp->(St->Hp->Prop)->Prop
def PG(X:Cx)(target:ahx)(t:TG):Prop :=
 ∀ (pins:List (adK × Obj)) (s:adQ) (G:St) (H:Hp) (v:V) (u:adH) (Q:St->Hp->Prop),Inv X pins G H s->RelV v u->t v G H Q ->
  adY (model X.prog X.w) X.A (assign target X.env u) (λy s'=>∃ σ' H',Inv X pins σ' H' s'/\Q σ' H') X.xe s
def wa(X:Cx)(ts:List ahx)(t:sZ):Prop :=
 ∀ (pins:List (adK × Obj)) (s:adQ) (G:St) (H:Hp) (vs:List V) (us:List adH) (Q:St->Hp->Prop),Inv X pins G H s->Vals vs us->t vs G H Q ->
  adY (model X.prog X.w) X.A (assignInOrder ((air ts X.env).map (·.2)) us) (λy s'=>∃ σ' H',Inv X pins σ' H' s'/\Q σ' H') X.xe s
abbrev EU:=V->V->V->Hp->(Hp->Prop)->Prop
def EV(X:Cx)(t:EU):Prop :=
 ∀ (pins:List (adK × Obj)) (s:adQ) (G:St) (H:Hp) (o i v:V) (ov iv u:adH) (Q:Hp->Prop),Inv X pins G H s->RelV o ov->RelV i iv->RelV v u->t o i v H Q ->
  adY (model X.prog X.w) X.A (setItem ov iv u) (λy s'=>∃ H',Inv X pins G H' s'/\Q H') X.xe s
section
def cH(i:Nat):TG:=λv G H Q=>Q (G.set i (U v)) H
theorem jh(hN:X.N.Nodup)(hi:X.N[i]?=U x)(hx:Loc X.env.scope x)(hf:X.fn x=true∨X.env.scope.names.lookup x=U .local:=by first|exact .inl rfl|exact .inr rfl|assumption):PG X (.Name x pos) (cH i):=by intro pins s G H v u Q I r h;exact wpAny_assign_Name (zC I hN hi hx r (λs' I'=>#[_,H,I',h]) hf)
def kP:sZ:=λvs G H Q=>vs=[]/\Q G H
def dO(t:TG)(u:sZ):sZ:=λvs G H Q=>∃ v r,vs=v::r/\t v G H λσ' H'=>u r σ' H' Q
theorem lV:wa X [] kP:=by intro pins s G H vs us Q I r h;obtain⟨e,h⟩:=h;subst e;cases r;exact assignInOrder_nil #[G,H,I,h]
theorem eY(h1:PG X e t)(h2:wa X es u)(hs:(air (e::es) X.env).map (·.2)=assign e X.env::(air es X.env).map (·.2):=by rfl):wa X (e::es) (dO t u):=by
 intro pins s G H vs us Q I r h;obtain⟨v,vr,e1,h⟩:=h;subst e1;cases r with
 | cons r rr =>
  rw[hs];refine assignInOrder_cons (aI (h1 pins s G H _ _ _ I r h) λy s1 zq=>?_);obtain⟨σ1,H1,I1,q1⟩:=zq;exact h2 pins s1 σ1 H1 _ _ Q I1 rr q1
def lW(K:adz)(n:Nat)(t:sZ):TG:=λv G H Q=>∃ a xs,v = .ref a/\ak K H a xs/\xs.length=n/\t xs G H Q
theorem lX(hc:X.calm=true)(h:wa X es t)(hn:(air es X.env).length=n:=by rfl)(cW:(air es X.env).findIdx? (·.1)=O:=by rfl):PG X (.Tuple es k pos) (lW X.K n t):=by intro pins s G H v u Q I r hw;obtain⟨a,xs,e1,hq,hl,hw⟩:=hw;subst e1;cases r;obtain⟨ax,rv,ht,hz⟩:=I.tuple hq;refine assign_Tuple_tuple (I.ok.hd hc) ht (by simp[hn,<- hl,rv.length]) cW λh' hx=>?_;have I1:Inv X pins G H { s with heap:=h' }:=I.kept (t':=s.toks) λb o e=>hx b o (adV (adF e)) e;exact h pins _ G H xs _ Q I1 (by simpa using rv) hw
def EW(to ti:TE)(t:EU):TG:=λv G H Q=>to G H λo H1=>ti G H1 λi H2=>t o i v H2 λH3=>Q G H3
theorem zF(ho:PE X o to)(hi:PE X i ti)(hs:EV X t)(ha:∀ v,assign (.Subscript o i pos) X.env v=(do
 let ov <- holding [v] (eval o X.env);let iv <- holding [v,ov] (eval i X.env)
 ajQ pos
 holding [v,ov,iv] (setItem ov iv v)
 release [v,ov,iv] []):=by intro z;rfl):PG X (.Subscript o i pos) (EW to ti t):=by
 intro pins s G H v u Q I r h;rw[ha];refine ady (ae3 (aI (ho pins s G H _ I h) λov s1 zq=>?_));obtain⟨x,H1,I1,r1,q1⟩:=zq;refine ady (ae3 (aI (hi pins s1 G H1 _ I1 q1) λiv s2 zq=>?_));obtain⟨y,H2,I2,r2,q2⟩:=zq;refine ady (aj3 (ady (ae3 (aI (hs pins s2 G H2 x y v ov iv u _ I2 r1 r2 r q2) λz s3 zq=>?_))));obtain⟨H3,I3,q3⟩:=zq;exact wpAny_release #[G,H3,I3,q3]
def qt(te:TE)(g:TG):TS:=λD G H=>te G H λx H1=>g x G H1 D.nx
theorem zG(he:PE X e te)(hg:PG X tg g)(hs:swapsWithSole [tg] e pos.line X.env=pure false:=by rfl)(hw:swappedStores [tg] e X.env=pure O:=by rfl)(h1:(air [tg] X.env).map (·.2)=[assign tg X.env]:=by rfl):PS X (.Assign [tg] e pos) (qt te g):=by intro pins s G H D I h;refine wpAny_Assign_stores (aI (he pins s G H _ I h) λv s1 zq=>?_) hs hw;obtain⟨x,H1,I1,r1,q1⟩:=zq;rw[h1];exact aI (hg pins s1 G H1 x v _ I1 r1 q1) λy s2 q=>q
theorem jY(hN:X.N.Nodup)(hi:X.N[i]?=U x)(hx:Loc X.env.scope x)(he:PE X e te)(hs:ahO e (U (.Name x pos')) pos.line X.env=pure false:=by rfl)(hf:X.fn x=true∨X.env.scope.names.lookup x=U .local:=by first|exact .inl rfl|exact .inr rfl|assumption) :
 PS X (.Assign [.Name x pos'] e pos) (qt te (cH i)):=by
 intro pins s G H D I h;refine wpAny_Assign_Name (aI (he pins s G H _ I h) λv s1 zq=>?_) hs;obtain⟨y,H1,I1,r1,q1⟩:=zq;exact zC I1 hN hi hx r1 (λs2 I2=>#[_,H1,I2,q1]) hf
end
structure It where
 go:Nat->Hp->Prop
 yld:Nat->Hp->V->Hp->Prop
 stop:Nat->Hp->Prop
def eZ(X:Cx)(pins:List (adK × Obj))(H:Hp)(b:adK):Prop :=
 H b=O/\b≠X.env.locals/\b∉X.fs/\(b∈X.ex∨X.s₀.heap.objs.size<=b)/\(∀ x c,X.env.cells.lookup x=U c->c≠b)/\∀ p∈X.pn++pins,p.1≠b
theorem Inv.ji(I:Inv X pins G H s)(hb:s.heap.objs.size<=b)(hn:H' b=O):eZ X pins H' b:=by
 refine#[hn,aeJ (adW I.lt hb),I.EA hb,.inr (adG I.sz hb),λx c e z=>?_,λp hp z=>?_]
 .obtain⟨v,q⟩:=I.cell x c e;exact absurd (adW q.lt (by rw[z];exact hb)) (aeY _)
 .exact absurd (adW (adF (I.pin p hp).1) (by rw[z];exact hb)) (aeY _)
structure Turn(P:aek)(w:aeS)(K:adz)(tg:ahx)(J:It)(fp:List adK)(it:adK)(tn:Nat->afH->Prop):Prop where
 mem:it∈fp
 obj:∀ i h,tn i h->∀ b∈fp,∃ o,h.get? b=U o/\∀ v,o.data ≠ .cell v
 keep:∀ i h h',tn i h->(∀ b∈fp,∀ o,h.get? b=U o->h'.get? b=U o)->tn i h'
 item:∀ (X:Cx),X.prog=P->X.w=w->X.K=K->X.calm=true->∀ (i:Nat) (pins:List (adK × Obj)) (s:adQ) (G:St) (H:Hp) (E:adH->adQ->Prop),Inv X pins G H s->(∀ b∈fp,eZ X pins H b)->tn i s.heap->J.go i H ->
  adY (model P w) X.A (agv (.ref it)) (λr s1=>∃ u,r=U u /\
   adY (model P w) X.A (ahP tg (.ref it) u) (λ_ s2=>∃ x H',Inv X pins G H' s2/\RelV x u/\J.yld i H x H'/\tn (i+1) s2.heap/\∀ b∈fp,H' b=O) E s1) E s
 done:∀ (X:Cx),X.prog=P->X.w=w->X.K=K->X.calm=true->∀ (i:Nat) (pins:List (adK × Obj)) (s:adQ) (G:St) (H:Hp) (E:adH->adQ->Prop),Inv X pins G H s->(∀ b∈fp,eZ X pins H b)->tn i s.heap->J.stop i H ->
  adY (model P w) X.A (agv (.ref it)) (λr s1=>r=O/\Inv X pins G H s1) E s
 self:∀ (A:aff) (i:Nat) (s:adQ) (Q:adH->adQ->Prop) (E:adH->adQ->Prop),tn i s.heap->Q (.ref it) s->adY (model P w) A (alV (.ref it)) Q E s
abbrev TI:=St->Hp->(It->Hp->Prop)->Prop
def EX(X:Cx)(pins:List (adK × Obj))(G:St)(tg:ahx)(R:It->Hp->Prop)(wb:adH)(s2:adQ):Prop :=
 ∃ (it:adK) (fp:List adK) (tn:Nat->afH->Prop) (J:It) (H':Hp),wb = .ref it/\Inv X pins G H' s2/\Turn X.prog X.w X.K tg J fp it tn/\tn 0 s2.heap/\(∀ b∈fp,eZ X pins H' b)/\R J H'
def PI(X:Cx)(tg iter:ahx)(wi:TI):Prop :=
 ∀ (pins:List (adK × Obj)) (s:adQ) (G:St) (H:Hp) (R:It->Hp->Prop),Inv X pins G H s->wi G H R ->
  adY (model X.prog X.w) X.A (eval iter X.env) (λv s1=>adY (model X.prog X.w) X.A (alV v) (EX X pins G tg R) X.xe s1) X.xe s
theorem qu(ho:s.heap.get? it=U o)(hc:o.cls = .type n)(hd:o.data = .fields vs)(hn:["enumerate","zip","dict_itemiterator","dict_reverseitemiterator","odict_iterator","itertools.zip_longest","itertools.pairwise"].contains n=false)(hQ:Q () s):adY M A (ahP tg (.ref it) u) Q E s:=by
 unfold ahP;cases tg<;>first
  | exact adD hQ
  | (cases u<;>first
      | exact adD hQ
      | (refine ady (wpAny_load ho ?_)
         rw[hc,hd];show adY M A (if (["enumerate","zip","dict_itemiterator","dict_reverseitemiterator","odict_iterator","itertools.zip_longest","itertools.pairwise"].contains n && vs[0]? == U (ag2 _))=true then _ else _) Q E s;rw[if_neg (by intro h;rw[hn,ahh] at h;cases h)];exact adD hQ))
noncomputable def kQ(K:adz)(a:adK):It :=
 #[λi H=>∃ xs x,aj K H a xs/\xs[i]?=U x,λi H x H'=>H'=H/\∀ xs,aj K H a xs->xs[i]?=U x,λi H=>∃ xs,aj K H a xs/\xs.length<=i]
noncomputable def tf(K:adz)(a:adK):It :=
 #[λi H=>∃ xs x,ak K H a xs/\xs[i]?=U x,λi H x H'=>H'=H/\∀ xs,ak K H a xs->xs[i]?=U x,λi H=>∃ xs,ak K H a xs/\xs.length<=i]
noncomputable def jk(lo:Int)(n:Nat):It:=#[λi y=>i<n,λi H x H'=>H'=H/\x = .int (lo+i),λi y=>n<=i]
theorem OB{P:aek}{w:aeS}{K:adz}{tg:ahx}(a it:adK):Turn P w K tg (kQ K a) [it] it (λi h=>h.IsListIter it a i) where
 mem:=by simp
 obj:=λi h st b hb=>by
  have e:b=it:=by simpa using hb
  subst e;obtain⟨o,e,c,d⟩:=st;exact#[o,e,λv z=>by rw[d] at z;cases z]
 keep:=λi h h' st k=>st.at λo e=>k it (by simp) o e
 item:=by intro X hP hw hK hc i pins s G H E I hf st hg;subst hP hw hK;obtain⟨xs,x,hq,hx⟩:=hg;obtain⟨ax,rv,p,hz⟩:=I.list hq;obtain⟨u,hu,ru⟩:=rv.get hx;obtain⟨f0,f1,f2,f3,f4,f5⟩:=hf it (by simp);refine wpAny_pyNext_list_item st p.isList (x:=u) (by simpa using hu) λh' dt sb=>?_;have I1:Inv X pins G H { s with heap:=h' }:=I.turned (t':=s.toks) (λb o hb e=>(sb.2 b hb).trans e) f0 f1 f3 f4 f5;obtain⟨o,e,c,d⟩:=id dt;exact#[u,Y,qu (s:={ s with heap:=h' }) e c d (by decide) #[x,H,I1,ru,#[Y,λys hy=>by rw[I.sX hy hq];exact hx],dt,λb hb=>(hf b hb).1]]
 done:=by
  intro X hP hw hK hc i pins s G H E I hf st hg;subst hP hw hK;obtain⟨xs,hq,hx⟩:=hg;obtain⟨ax,rv,p,hz⟩:=I.list hq;obtain⟨f0,f1,f2,f3,f4,f5⟩:=hf it (by simp);have hl:=rv.length;exact wpAny_pyNext_list_end (I.ok.hd hc) st p.isList (by simp;omega) λh' eb=>#[Y,I.turned (t':=s.toks) (λb o hb e=>eb b o hb e) f0 f1 f3 f4 f5]
 self:=λy y y y y st h=>wpAny_pyIter_listiter st h
theorem OC{P:aek}{w:aeS}{K:adz}{tg:ahx}(a it:adK):Turn P w K tg (tf K a) [it] it (λi h=>h.IsTupleIter it a i) where
 mem:=by simp
 obj:=λi h st b hb=>by
  have e:b=it:=by simpa using hb
  subst e;obtain⟨o,e,c,d⟩:=st;exact#[o,e,λv z=>by rw[d] at z;cases z]
 keep:=λi h h' st k=>st.at λo e=>k it (by simp) o e
 item:=by intro X hP hw hK hc i pins s G H E I hf st hg;subst hP hw hK;obtain⟨xs,x,hq,hx⟩:=hg;obtain⟨ax,rv,p,hz⟩:=I.tuple hq;obtain⟨u,hu,ru⟩:=rv.get hx;obtain⟨f0,f1,f2,f3,f4,f5⟩:=hf it (by simp);refine wpAny_pyNext_tuple_item st (show s.heap.IsTuple a ax.toArray from p) (x:=u) (by simpa using hu) λh' dt sb=>?_;have I1:Inv X pins G H { s with heap:=h' }:=I.turned (t':=s.toks) (λb o hb e=>(sb.2 b hb).trans e) f0 f1 f3 f4 f5;obtain⟨o,e,c,d⟩:=id dt;exact#[u,Y,qu (s:={ s with heap:=h' }) e c d (by decide) #[x,H,I1,ru,#[Y,λys hy=>by rw[I.Oz hy hq];exact hx],dt,λb hb=>(hf b hb).1]]
 done:=by
  intro X hP hw hK hc i pins s G H E I hf st hg;subst hP hw hK;obtain⟨xs,hq,hx⟩:=hg;obtain⟨ax,rv,p,hz⟩:=I.tuple hq;obtain⟨f0,f1,f2,f3,f4,f5⟩:=hf it (by simp);have hl:=rv.length;exact wpAny_pyNext_tuple_end (I.ok.hd hc) st (show s.heap.IsTuple a ax.toArray from p) (by simp;omega) λh' eb=>#[Y,I.turned (t':=s.toks) (λb o hb e=>eb b o hb e) f0 f1 f3 f4 f5]
 self:=λy y y y y st h=>wpAny_pyIter_tupleiter st h
theorem OD{P:aek}{w:aeS}{K:adz}{tg:ahx}(it:adK)(lo:Int)(n:Nat):Turn P w K tg (jk lo n) [it] it (λi h=>ajR h it (lo+(i:Nat) * 1) ((n:Int)-(i:Nat)) 1) where
 mem:=by simp
 obj:=λi h st b hb=>by
  have e:b=it:=by simpa using hb
  subst e;exact#[_,st,λv z=>by
   have z':Data.fields _=Data.cell v:=z;cases z']
 keep:=λi h h' st k=>k it (by simp) _ st
 item:=by intro X hP hw hK hc i pins s G H E I hf st hg;subst hP hw hK;obtain⟨f0,f1,f2,f3,f4,f5⟩:=hf it (by simp);have W:=Walks.range (prog:=X.prog) (w:=X.w) (I.ok.hd hc) it lo 1 n;refine W.item i s _ _ hg st λv h' tk hv dt kk=>?_;obtain⟨t,rfl⟩:=hv;have I1:Inv X pins G H { s with heap:=h',toks:=tk }:=I.turned (λb o hb e=>kk b o (by simpa using hb) e) f0 f1 f3 f4 f5;refine#[_,Y,qu (s:={ s with heap:=h',toks:=tk }) (n := "range_iterator") dt Y Y (by decide) #[.int (lo+i),H,I1,#[t,?_],#[Y,Y],dt,λb hb=>(hf b hb).1]];rw[Int.mul_one]
 done:=by
  intro X hP hw hK hc i pins s G H E I hf st hg;subst hP hw hK;obtain⟨f0,f1,f2,f3,f4,f5⟩:=hf it (by simp);exact ai5 (I.ok.hd hc) st (by have:n<=i:=hg;omega) λh' eb=>#[Y,I.turned (t':=s.toks) (λb o hb e=>eb b o hb e) f0 f1 f3 f4 f5]
 self:=λy y y y y st h=>ai6 st h
section
def zH(K:adz)(tl:TE):TI:=λG H R=>tl G H λx H1=>∃ a,x = .ref a/\(∃ xs,aj K H1 a xs)/\R (kQ K a) H1
def zI(K:adz)(tl:TE):TI:=λG H R=>tl G H λx H1=>∃ a,x = .ref a/\(∃ xs,ak K H1 a xs)/\R (tf K a) H1
theorem dX(hl:PE X l tl):PI X tg l (zH X.K tl):=by
 intro pins s G H R I h;refine aI (hl pins s G H _ I h) λv s1 zq=>?_;obtain⟨x,H1,I1,r1,q1⟩:=zq;obtain⟨a,e,⟨xs,hq⟩,q⟩:=q1;subst e;cases r1;obtain⟨ax,rv,p,hz⟩:=I1.list hq;refine ag7 p.isList ?_;refine#[s1.heap.objs.size,[s1.heap.objs.size],_,_,H1,Y,I1.kept (t':=s1.toks) λb o e=>adE _ e,OB a _,#[_,adN _ Y,Y,Y],λb hb=>?_,q];have e:b=s1.heap.objs.size:=by simpa using hb
 subst e;exact I1.ji (adJ _) (I1.aA.fresh (adJ _))
theorem zJ(hl:PE X l tl):PI X tg l (zI X.K tl):=by
 intro pins s G H R I h;refine aI (hl pins s G H _ I h) λv s1 zq=>?_;obtain⟨x,H1,I1,r1,q1⟩:=zq;obtain⟨a,e,⟨xs,hq⟩,q⟩:=q1;subst e;cases r1;obtain⟨ax,rv,p,hz⟩:=I1.tuple hq;refine ah9 (show s1.heap.IsTuple a ax.toArray from p) ?_;refine#[s1.heap.objs.size,[s1.heap.objs.size],_,_,H1,Y,I1.kept (t':=s1.toks) λb o e=>adE _ e,OC a _,#[_,adN _ Y,Y,Y],λb hb=>?_,q];have e:b=s1.heap.objs.size:=by simpa using hb
 subst e;exact I1.ji (adJ _) (I1.aA.fresh (adJ _))
theorem EY{pins:List (adK × Obj)}{G:St}{H:Hp}{s:adQ}{R:It->Hp->Prop}{E:adH->adQ->Prop}{lo hi:Int}{t u v:Tok}{tk:Nat}(I:Inv X pins G H s)(h1 : -(2 ^ 62)<=lo)(h2:lo<2 ^ 62)(h3 : -(2 ^ 62)<=hi)(h4:hi<2 ^ 62)
 (q:R (jk lo (hi-lo).toNat) H):adY (model X.prog X.w) X.A (alV (.ref s.heap.objs.size)) (EX X pins G tg R) E { s with heap:=s.heap.push { cls:=.type "range",data:=.fields (List.toArray [.int lo t,.int hi u,.int 1 v]) },toks:=tk }:=by
 refine aj4 (IsRange.new ..) (small_one h1 h2 h3 h4) ?_;have I1:Inv X pins G H { s with heap:=s.heap.push { cls:=.type "range",data:=.fields (List.toArray [.int lo t,.int hi u,.int 1 v]) },toks:=tk }:=I.kept λb o e=>adE _ e;refine#[(s.heap.push { cls:=.type "range",data:=.fields (List.toArray [.int lo t,.int hi u,.int 1 v]) }).objs.size,[(s.heap.push { cls:=.type "range",data:=.fields (List.toArray [.int lo t,.int hi u,.int 1 v]) }).objs.size],_,_,H,Y,
  I1.kept (t':=tk) λb o e=>adE _ e,OD _ lo (hi-lo).toNat,?_,λb hb=>?_,q]
 .have e1:lo+((0:Nat):Int) * 1=lo:=by simp
  have e2:(((hi-lo).toNat:Nat):Int)-((0:Nat):Int)=aeA lo hi 1:=by rw[rangeSize_one];split<;>omega
  show ajR _ _ (lo+((0:Nat):Int) * 1) ((((hi-lo).toNat:Nat):Int)-((0:Nat):Int)) 1;rw[e1,e2];exact adN _ rfl
 .have e:b=(s.heap.push { cls:=.type "range",data:=.fields (List.toArray [.int lo t,.int hi u,.int 1 v]) }).objs.size:=by simpa using hb
  subst e;exact I1.ji (adJ _) (I1.aA.fresh (adJ _))
def zK(ta:TA):TI:=λG H R=>ta G H λvs H1=>∃ j:Int,vs=[.int j]/\-(2 ^ 62)<=j/\j<2 ^ 62/\R (jk 0 j.toNat) H1
def zL(ta:TA):TI:=λG H R=>ta G H λvs H1=>∃ i j:Int,vs=[.int i,.int j]/\(-(2 ^ 62)<=i/\i<2 ^ 62/\-(2 ^ 62)<=j/\j<2 ^ 62)/\R (jk i (j-i).toNat) H1
theorem jm(hg:Gl X "range")(hm:X.mg "range" = O)(ha:PA X [a] ta)(hs:adX [a] X.env=[(false,eval a X.env)]:=by rfl):PI X tg (.Call (.Name "range" p) [a] [] pos) (zK ta):=by
 intro pins s G H R I h;refine amc (gy I hg hm alx (aed (aI (ha pos pins s G H _ I h) λus s1 zq=>?_) hs Y));obtain⟨vs,H1,I1,r1,q1⟩:=zq;obtain⟨j,e,q1,q2,q⟩:=q1;subst e;cases r1 with
 | cons r rr =>
  cases rr;obtain⟨t,rfl⟩:=r;exact call_range_1 (EY I1 (by omega) (by omega) q1 q2 (by simpa using q))
theorem nu(hg:Gl X "range")(hm:X.mg "range" = O)(ha:PA X [a,b] ta)(hs:adX [a,b] X.env=[(false,eval a X.env),(false,eval b X.env)]:=by rfl)(dv:adX [b] X.env=[(false,eval b X.env)]:=by rfl) :
 PI X tg (.Call (.Name "range" p) [a,b] [] pos) (zL ta):=by
 intro pins s G H R I h;refine amc (gy I hg hm alx (aed (aI (ha pos pins s G H _ I h) λus s1 ⟨vs,H1,I1,r1,q1⟩=>?_) (by rw[hs,dv]) (by rw[dv];rfl)));obtain⟨i,j,e,⟨q1,q2,q3,q4⟩,q⟩:=q1;subst e;cases r1 with
 | cons r rr =>
  cases rr with
  | cons r' rr =>
   cases rr;obtain⟨t,rfl⟩:=r;obtain⟨t',rfl⟩:=r';exact call_range_2 (EY I1 q1 q2 q3 q4 q)
def kR(wi:TI)(g:TG)(tb:TS):TS:=λD G H=>wi G H λJ H1=>∃ W:Nat->Nat->St->Hp->Prop,(∃ m,W 0 m G H1)/\∀ i m G H,W i m G H ->
 (J.stop i H/\D.nx G H)∨(J.go i H/\∃ N:St->Hp->Prop,(∀ σ' H',N σ' H'->∃ m',m'<m/\W (i+1) m' σ' H')/\∀ x H',J.yld i H x H'->g x G H' λσ2 H2=>tb { D with nx:=N,ct:=N,bk:=D.nx } σ2 H2)
noncomputable def tj(fp:List adK)(h:afH):List (adK × Obj):=fp.filterMap λb=>(h.get? b).map λo=>(b,o)
theorem wc(hb:b∈fp)(e:h.get? b=U o):(b,o)∈tj fp h:=aia.mpr #[b,hb,by rw[e];rfl]
theorem OE(hp:p∈tj fp h):p.1∈fp/\h.get? p.1=U p.2:=by
 obtain⟨b,hb,e⟩:=aia.mp hp;cases q:h.get? b with
 | none=>rw[q] at e;cases e
 | some o =>
  rw[q] at e;have e':(b,o)=p:=Option.some.inj e;subst e';exact#[hb,q]
theorem Inv.pinned(I:Inv X pins G H s)(hf:∀ b∈fp,eZ X pins H b)(ho:∀ b∈fp,∃ o,s.heap.get? b=U o/\∀ v,o.data ≠ .cell v):Inv X (pins++tj fp s.heap) G H s :=
 I.sS λp hp=>(aec.mp hp).elim (λz=>I.pin p (ad9 _ z)) λz=>by obtain⟨hb,e⟩:=OE z;obtain⟨f0,f1,f2,y⟩:=hf p.1 hb;obtain⟨o,e',d⟩:=ho p.1 hb;rw[e] at e';cases e';exact#[e,f0,f1,f2,d]
theorem Inv.wg(I:Inv X (pins++pl) G H s):Inv X pins G H s:=I.sS λp hp=>I.pin p (ad9 _ (afs _ hp))
theorem eM(hp:PassesOwn (model X.prog X.w) X.A X.env X.xe)(hc:X.calm=true)(hi:PI X tg iter wi)(hg:PG X tg g)(hb:aT X body tb)(hs:∀ x,afW iter X.env x=pure x:=by intro _;rfl):PS X (.For tg iter body [] pos) (kR wi g tb):=by
 intro pins s G H D I h;refine wpAny_For (aI (hi pins s G H _ I h) λv s1 h1=>aI h1 λwb s2 h2=>?_) hs;obtain⟨it,fp,tn,J,H2,e,I2,T,iO,f2,W,⟨m0,w0⟩,turn⟩:=h2;subst e;have zM:∀ {H':Hp},(∀ b∈fp,H' b=O)->∀ b∈fp,eZ X pins H' b:=λhn b hb=>#[hn b hb,(f2 b hb).2]
 refine codeAny_forLoop_any (λn s'=>∃ i σ' H',Inv X pins σ' H' s'/\tn i s'.heap/\(∀ b∈fp,H' b=O)/\W i n σ' H') ?_ m0 #[0,G,H2,I2,iO,λb hb=>(f2 b hb).1,w0];rintro n s3 ⟨i,σ3,H3,I3,tq,tu,w3⟩;rcases turn i n σ3 H3 w3 with ⟨stop,qn⟩|⟨go,N,hN,step⟩
 .refine agP hp (aI (T.done X Y Y Y hc i pins s3 σ3 H3 X.xe I3 (zM tu) tq stop) λr s4 zq=>?_);obtain⟨hr,I4⟩:=zq;subst hr;exact ahN #[σ3,H3,I4,qn]
 .refine agP hp (aI (T.item X Y Y Y hc i pins s3 σ3 H3 X.xe I3 (zM tu) tq go) λr s4 zq=>?_);obtain⟨u,hr,h4⟩:=zq;subst hr;refine agP hp (aI h4 λ_ s5 zq=>?_);obtain⟨x,H5,I5,r5,y5,oB,zN⟩:=zq;have zO:=I5.pinned (zM zN) (T.obj _ _ oB);refine agP hp (aI (hg _ s5 σ3 H5 x u _ zO r5 (step x H5 y5)) λ_ s6 zq=>?_);obtain⟨σ6,H6,I6,q6⟩:=zq;refine agP hp (aI (hb _ s6 σ6 H6 _ I6 q6) λf s7 q7=>?_);have again:∀ {σ7:St} {H7:Hp},Inv X (pins++tj fp s5.heap) σ7 H7 s7->N σ7 H7->∃ m,m<n/\∃ i σ' H',Inv X pins σ' H' s7/\tn i s7.heap/\(∀ b∈fp,H' b=O)/\W i m σ' H':=λ{σ7 H7} I7 n7=>by obtain⟨m',hm,w7⟩:=hN σ7 H7 n7;refine#[m',hm,i+1,σ7,H7,I7.wg,T.keep _ _ _ oB λb hb o e=>(I7.pin (b,o) (ad9 _ (ad9 _ (wc hb e)))).1,λb hb=>?_,w7];obtain⟨o,e,d⟩:=T.obj _ _ oB b hb;exact (I7.pin (b,o) (ad9 _ (ad9 _ (wc hb e)))).2.1
  cases f with
  | next=>obtain⟨σ7,H7,I7,n7⟩:=q7;exact again I7 n7
  | cont=>obtain⟨σ7,H7,I7,n7⟩:=q7;exact again I7 n7
  | brk=>obtain⟨σ7,H7,I7,q7⟩:=q7;exact#[σ7,H7,I7.wg,q7]
  | ret v=>obtain⟨x7,σ7,H7,I7,r7,q7⟩:=q7;exact#[x7,σ7,H7,I7.wg,r7,q7]
end
theorem OF{K:adz}{a:adK}{xs:List V}{g:TG}{tb:TS}{D:Ends}{G:St}{H:Hp}(Pv:Nat->St->Hp->Prop)(h0:Pv 0 G H)(hl:∀ i G H,i<=xs.length->Pv i G H->aj K H a xs)
 (hs:∀ i x G H,xs[i]?=U x->Pv i G H->g x G H λσ2 H2=>tb { D with nx:=Pv (i+1),ct:=Pv (i+1),bk:=D.nx } σ2 H2) (hd:∀ G H,Pv xs.length G H->D.nx G H) :
 ∃ W:Nat->Nat->St->Hp->Prop,(∃ m,W 0 m G H)/\∀ i m G H,W i m G H ->
  ((kQ K a).stop i H/\D.nx G H)∨((kQ K a).go i H/\∃ N:St->Hp->Prop,(∀ σ' H',N σ' H'->∃ m',m'<m/\W (i+1) m' σ' H')/\∀ x H',(kQ K a).yld i H x H'->g x G H' λσ2 H2=>tb { D with nx:=N,ct:=N,bk:=D.nx } σ2 H2):=by
 refine#[λi m G H=>m=xs.length-i/\i<=xs.length/\Pv i G H,#[xs.length,by simp,ad6 _,h0],?_];rintro i m G H ⟨rfl,hi,p⟩;have q:=hl i G H hi p;by_cases bc:i<xs.length
 .refine .inr #[#[xs,xs[i],q,by simp[bc]],Pv (i+1),λσ' H' p'=>#[xs.length-(i+1),by omega,Y,bc,p'],λx H' y=>?_];obtain⟨e,y⟩:=y;subst e;exact hs i x G _ (y xs q) p
 .have e:i=xs.length:=by omega
  subst e;exact .inl #[#[xs,q,adJ _],hd G H p]
theorem OG{lo:Int}{n:Nat}{g:TG}{tb:TS}{D:Ends}{G:St}{H:Hp}(Pv:Nat->St->Hp->Prop)(h0:Pv 0 G H)
 (hs:∀ i G H,i<n->Pv i G H->g (.int (lo+i)) G H λσ2 H2=>tb { D with nx:=Pv (i+1),ct:=Pv (i+1),bk:=D.nx } σ2 H2) (hd:∀ G H,Pv n G H->D.nx G H) :
 ∃ W:Nat->Nat->St->Hp->Prop,(∃ m,W 0 m G H)/\∀ i m G H,W i m G H ->
  ((jk lo n).stop i H/\D.nx G H)∨((jk lo n).go i H/\∃ N:St->Hp->Prop,(∀ σ' H',N σ' H'->∃ m',m'<m/\W (i+1) m' σ' H')/\∀ x H',(jk lo n).yld i H x H'->g x G H' λσ2 H2=>tb { D with nx:=N,ct:=N,bk:=D.nx } σ2 H2):=by
 refine#[λi m G H=>m=n-i/\i<=n/\Pv i G H,#[n,by simp,ad6 _,h0],?_];rintro i m G H ⟨rfl,hi,p⟩;by_cases bc:i<n
 .refine .inr #[bc,Pv (i+1),λσ' H' p'=>#[n-(i+1),by omega,Y,bc,p'],λx H' y=>?_];obtain⟨e,y⟩:=y;subst e y;exact hs i G _ bc p
 .have e:i=n:=by omega
  subst e;exact .inl #[adJ _,hd G H p]
abbrev R2:=V->V->Hp->VK->Prop
def bE(X:Cx)(f:adH->adH->Sem adH)(r:R2):Prop :=
 ∀ (pins:List (adK × Obj)) (s:adQ) (G:St) (H:Hp) (x y:V) (v u:adH) (Q:VK),Inv X pins G H s->RelV x v->RelV y u->r x y H Q ->
  adY (model X.prog X.w) X.A (f v u) (EP X pins G Q) X.xe s
def qv(X:Cx)(f:adH->Sem adH)(r:V->Hp->VK->Prop):Prop :=
 ∀ (pins:List (adK × Obj)) (s:adQ) (G:St) (H:Hp) (x:V) (v:adH) (Q:VK),Inv X pins G H s->RelV x v->r x H Q ->
  adY (model X.prog X.w) X.A (f v) (EP X pins G Q) X.xe s
def e9(X:Cx)(f:adH)(r:List V->Hp->VK->Prop):Prop :=
 ∀ (pins:List (adK × Obj)) (s:adQ) (G:St) (H:Hp) (xs:List V) (us:List adH) (Q:VK),Inv X pins G H s->Vals xs us->r xs H Q ->
  adY (model X.prog X.w) X.A (call f us) (EP X pins G Q) X.xe s
def jn(r:R2)(ta tb:TE):TE:=λG H Q=>ta G H λx H1=>tb G H1 λy H2=>r x y H2 Q
def EZ(r:V->Hp->VK->Prop)(ta:TE):TE:=λG H Q=>ta G H λx H1=>r x H1 Q
def rI(C:Int->Int->Prop)(g:Int->Int->V):R2:=λx y H Q=>∃ i j,x = .int i/\y = .int j/\C i j/\Q (g i j) H
def ip(g:Int->Int->V):R2:=λx y H Q=>∃ i j,x = .int i/\y = .int j/\Q (g i j) H
def rU(g:Int->V):V->Hp->VK->Prop:=λx H Q=>∃ i,x = .int i/\Q (g i) H
section
theorem zP(ha:PE X a ta)(hb:PE X b tb){pins:List (adK × Obj)}{s:adQ}{G:St}{H:Hp}{R:V->V->Hp->Prop}(I:Inv X pins G H s)
 (h:ta G H λx H1=>tb G H1 λy H2=>R x y H2) {Q:adH->adQ->Prop} {f:adH->adH->Sem adH}
 (hf:∀ v u s2 x y H2,Inv X pins G H2 s2->RelV x v->RelV y u->R x y H2->adY (model X.prog X.w) X.A (f v u) Q X.xe s2) :
 adY (model X.prog X.w) X.A (eval a X.env) (λv s₁=>adY (model X.prog X.w) X.A (eval b X.env) (λu s₂=>adY (model X.prog X.w) X.A (f v u) Q X.xe s₂) X.xe s₁) X.xe s:=by
 refine aI (ha pins s G H _ I h) λv s1 zq=>?_;obtain⟨x,H1,I1,r1,q1⟩:=zq;refine aI (hb pins s1 G H1 _ I1 q1) λu s2 zq=>?_;obtain⟨y,H2,I2,r2,q2⟩:=zq;exact hf v u s2 x y H2 I2 r1 r2 q2
theorem aE(ho:bE X (agC op) r)(ha:PE X a ta)(hb:PE X b tb):PE X (.BinOp a op b pos) (jn r ta tb):=by intro pins s G H Q I h;exact wpAny_BinOp (zP ha hb I h λv u s2 x y H2 I2 rx ry q=>ho pins s2 G H2 x y v u Q I2 rx ry q)
theorem iP(ho:qv X (unaryOp op) r)(ha:PE X a ta):PE X (.UnaryOp op a pos) (EZ r ta):=by intro pins s G H Q I h;exact UnaryOp_ (aI (ha pins s G H _ I h) λv s1 ⟨x,H1,I1,r1,q1⟩=>ho pins s1 G H1 x v Q I1 r1 q1)
theorem wj{f:adH->adH->Sem adH}{C:Int->Int->Prop}{g:Int->Int->Int}
 (rule:∀ (i j:Int) (t u:Tok) (s:adQ) (Q:adH->adQ->Prop) (E:adH->adQ->Prop),C i j->Q (.int (g i j) s.toks) { s with toks:=s.toks+1 }->adY (model X.prog X.w) X.A (f (.int i t) (.int j u)) Q E s) :
 bE X f (rI C λi j=>.int (g i j)):=by
 intro pins s G H x y v u Q I rx ry h;obtain⟨i,j,rfl,rfl,hc,q⟩:=h;obtain⟨t,rfl⟩:=rx;obtain⟨t',rfl⟩:=ry;exact rule i j t t' s _ _ hc #[.int (g i j),H,I.tok _,#[_,Y],q]
theorem E1{f:adH->adH->Sem adH}{g:Int->Int->Int}
 (rule:∀ (i j:Int) (t u:Tok) (s:adQ) (Q:adH->adQ->Prop) (E:adH->adQ->Prop),Q (.int (g i j) s.toks) { s with toks:=s.toks+1 }->adY (model X.prog X.w) X.A (f (.int i t) (.int j u)) Q E s) :
 bE X f (ip λi j=>.int (g i j)):=by
 intro pins s G H x y v u Q I rx ry h;obtain⟨i,j,rfl,rfl,q⟩:=h;obtain⟨t,rfl⟩:=rx;obtain⟨t',rfl⟩:=ry;exact rule i j t t' s _ _ #[.int (g i j),H,I.tok _,#[_,Y],q]
theorem wk{f:adH->adH->Sem adH}{g:Int->Int->Bool}
 (rule:∀ (i j:Int) (t u:Tok) (s:adQ) (Q:adH->adQ->Prop) (E:adH->adQ->Prop),Q (.bool (g i j)) s->adY (model X.prog X.w) X.A (f (.int i t) (.int j u)) Q E s) :
 bE X f (ip λi j=>.bl (g i j)):=by
 intro pins s G H x y v u Q I rx ry h;obtain⟨i,j,rfl,rfl,q⟩:=h;obtain⟨t,rfl⟩:=rx;obtain⟨t',rfl⟩:=ry;exact rule i j t t' s _ _ #[.bl (g i j),H,I,Y,q]
def OH(i j:Int):Prop:=0<=j/\j<=1000000/\i.natAbs<2 ^ 64
theorem OI:bE X (agC .Add) (ip λi j=>.int (i+j)):=E1 λy y y y y y y q=>add_int q
theorem OJ:bE X (agC .Sub) (ip λi j=>.int (i-j)):=E1 λy y y y y y y q=>sub_int q
theorem OL:bE X (agC .Mod) (rI (λy j=>0<j) λi j=>.int (i % j)):=wj λi j y y y y y hc q=>by have h1:(0:Int)<j:=hc;exact mod_int' (by omega) (by rw[Int.fmod_eq_emod_of_nonneg i (by omega)];exact q)
theorem zQ:bE X (agC .Pow) (rI OH λi j=>.int (i ^ j.toNat)):=wj λy y y y y y y hc q=>pow_int_small hc.1 hc.2.1 hc.2.2 q
theorem OM{f:adH->Sem adH}{g:Int->Int}
 (rule:∀ (i:Int) (t:Tok) (s:adQ) (Q:adH->adQ->Prop) (E:adH->adQ->Prop),Q (.int (g i) s.toks) { s with toks:=s.toks+1 }->adY (model X.prog X.w) X.A (f (.int i t)) Q E s) :
 qv X f (rU λi=>.int (g i)):=by
 intro pins s G H x v Q I rx h;obtain⟨i,rfl,q⟩:=h;obtain⟨t,rfl⟩:=rx;exact rule i t s _ _ #[.int (g i),H,I.tok _,#[_,Y],q]
theorem ON:qv X (unaryOp .USub) (rU λi=>.int (-i)):=OM λy y y y y q=>neg_int q
end
noncomputable def lY:V->V->Bool
 | .non,.non=>true|.non,.int _=>true|.int _,.non=>true|.non,.bl _=>true|.bl _,.non=>true|.non,.str _=>true|.str _,.non=>true
 | .int _,.int _=>true|.bl _,.bl _=>true|.str _,.str _=>true|.byt _,.byt _=>true
 | .int _,.str _=>true|.str _,.int _=>true|.bl _,.str _=>true|.str _,.bl _=>true
 | _,_=>false
def E2:R2:=λx y H Q=>lY x y=true/\Q (.bl (decide (x=y))) H
def E3:R2:=λx y H Q=>lY x y=true/\Q (.bl (!decide (x=y))) H
theorem E4:decide (V.int i=V.int j)=(i == j):=by rw[aeU];simp
theorem E5:decide (V.bl i=V.bl j)=(i == j):=by rw[aeU];simp
theorem E6:decide (V.str i=V.str j)=(i == j):=by rw[aeU];simp
theorem E7:decide (V.byt i=V.byt j)=(i.toList == j.toList):=by rw[aeU];cases i;cases j;simp
section
theorem cI(I:Inv X pins G H s)(q:Q (.bl k) H)(e:k=k'):EP X pins G Q (.bool k') s:=by subst e;exact#[.bl k,H,I,Y,q]
theorem oE:bE X (aeL .Eq) E2:=by
 intro pins s G H x y v u Q I rx ry h;obtain⟨hs,q⟩:=h;cases x with
 | non =>
  cases rx;cases y with
  | non=>cases ry;exact PySem.EqNone.eq_none_none (cI I q (by simp))
  | bl j=>cases ry;exact PySem.EqNone.eq_none_bool (cI I q (by simp))
  | int j=>obtain⟨t',rfl⟩:=ry;exact PySem.EqNone.eq_none_int (cI I q (by simp))
  | str j=>obtain⟨t',rfl⟩:=ry;exact PySem.EqNone.eq_none_str (cI I q (by simp))
  | _=>exact absurd (show false=true from hs) ad2
 | bl i =>
  cases rx;cases y with
  | non=>cases ry;exact PySem.EqNone.eq_bool_none (cI I q (by simp))
  | bl j=>cases ry;exact eq_bool (cI I q E5)
  | str j=>obtain⟨t',rfl⟩:=ry;exact PySem.EqMixed.eq_bool_str (cI I q (by simp))
  | _=>exact absurd (show false=true from hs) ad2
 | int i =>
  obtain⟨t,rfl⟩:=rx;cases y with
  | non=>cases ry;exact PySem.EqNone.eq_int_none (cI I q (by simp))
  | int j=>obtain⟨t',rfl⟩:=ry;exact eq_int (cI I q E4)
  | str j=>obtain⟨t',rfl⟩:=ry;exact PySem.EqMixed.eq_int_str (cI I q (by simp))
  | _=>exact absurd (show false=true from hs) ad2
 | str i =>
  obtain⟨t,rfl⟩:=rx;cases y with
  | non=>cases ry;exact PySem.EqNone.eq_str_none (cI I q (by simp))
  | bl j=>cases ry;exact PySem.EqMixed.eq_str_bool (cI I q (by simp))
  | int j=>obtain⟨t',rfl⟩:=ry;exact PySem.EqMixed.eq_str_int (cI I q (by simp))
  | str j=>obtain⟨t',rfl⟩:=ry;exact eq_str (cI I q E6)
  | _=>exact absurd (show false=true from hs) ad2
 | byt i =>
  obtain⟨t,rfl⟩:=rx;cases y with
  | byt j=>obtain⟨t',rfl⟩:=ry;exact PySem.W.eq_bytes (cI I q E7)
  | _=>exact absurd (show false=true from hs) ad2
 | _=>cases y<;>exact absurd (show false=true from hs) ad2
theorem OO:bE X (aeL .NotEq) E3:=by
 intro pins s G H x y v u Q I rx ry h;obtain⟨hs,q⟩:=h;cases x with
 | non =>
  cases rx;cases y with
  | non=>cases ry;exact PySem.EqNone.ne_none_none (cI I q (by simp))
  | bl j=>cases ry;exact PySem.EqNone.ne_none_bool (cI I q (by simp))
  | int j=>obtain⟨t',rfl⟩:=ry;exact PySem.EqNone.ne_none_int (cI I q (by simp))
  | str j=>obtain⟨t',rfl⟩:=ry;exact PySem.EqNone.ne_none_str (cI I q (by simp))
  | _=>exact absurd (show false=true from hs) ad2
 | bl i =>
  cases rx;cases y with
  | non=>cases ry;exact PySem.EqNone.ne_bool_none (cI I q (by simp))
  | bl j=>cases ry;exact ne_bool (cI I q (congrArg not E5))
  | str j=>obtain⟨t',rfl⟩:=ry;exact PySem.EqMixed.ne_bool_str (cI I q (by simp))
  | _=>exact absurd (show false=true from hs) ad2
 | int i =>
  obtain⟨t,rfl⟩:=rx;cases y with
  | non=>cases ry;exact PySem.EqNone.ne_int_none (cI I q (by simp))
  | int j=>obtain⟨t',rfl⟩:=ry;exact ne_int (cI I q (congrArg not E4))
  | str j=>obtain⟨t',rfl⟩:=ry;exact PySem.EqMixed.ne_int_str (cI I q (by simp))
  | _=>exact absurd (show false=true from hs) ad2
 | str i =>
  obtain⟨t,rfl⟩:=rx;cases y with
  | non=>cases ry;exact PySem.EqNone.ne_str_none (cI I q (by simp))
  | bl j=>cases ry;exact PySem.EqMixed.ne_str_bool (cI I q (by simp))
  | int j=>obtain⟨t',rfl⟩:=ry;exact PySem.EqMixed.ne_str_int (cI I q (by simp))
  | str j=>obtain⟨t',rfl⟩:=ry;exact ne_str (cI I q (congrArg not E6))
  | _=>exact absurd (show false=true from hs) ad2
 | byt i =>
  obtain⟨t,rfl⟩:=rx;cases y with
  | byt j=>obtain⟨t',rfl⟩:=ry;exact PySem.W.ne_bytes (cI I q (congrArg not E7))
  | _=>exact absurd (show false=true from hs) ad2
 | _=>cases y<;>exact absurd (show false=true from hs) ad2
theorem oF:bE X (aeL .Lt) (ip λi j=>.bl (decide (i<j))):=wk λy y y y y y y q=>lt_int q
theorem fU:bE X (aeL .LtE) (ip λi j=>.bl (decide (i<=j))):=wk λy y y y y y y q=>le_int q
theorem tx:bE X (aeL .Gt) (ip λi j=>.bl (decide (j<i))):=wk λy y y y y y y q=>gt_int q
theorem zR:bE X (aeL .GtE) (ip λi j=>.bl (decide (j<=i))):=wk λy y y y y y y q=>ge_int q
theorem c6(b:ahx)(h:op ≠ .In:=by decide)(h2:op ≠ .NotIn:=by decide):afJ op b=false:=by
 have e1:(op == CmpOp.In)=false:=by cases op<;>first|rfl|exact absurd Y h
 have e2:(op == CmpOp.NotIn)=false:=by cases op<;>first|rfl|exact absurd Y h2
 cases b<;>simp[afJ,e1,e2]
theorem fb(ho:bE X (aeL op) r)(ha:PE X a ta)(hb:PE X b tb)(hm:afJ op b=false):PE X (.Compare a [op] [b] pos) (jn r ta tb):=by intro pins s G H Q I h;exact wpAny_Compare1 (zP ha hb I h λv u s2 x y H2 I2 rx ry q=>ho pins s2 G H2 x y v u Q I2 rx ry q) hm
def wm(t:TE):TT:=λG H Q=>t G H λx H'=>∃ k,x = .bl k/\Q k H'
theorem oG(ho:bE X (aeL op) r)(ha:PE X a ta)(hb:PE X b tb)(hm:afJ op b=false):PT X (.Compare a [op] [b] pos) (wm (jn r ta tb)):=by
 intro pins s G H Q I h;refine aji (aI (ha pins s G H _ I h) λv s1 ⟨x,H1,I1,r1,q1⟩=>aI (hb pins s1 G H1 _ I1 q1) λu s2 ⟨y,H2,I2,r2,q2⟩ =>
  aI (ho pins s2 G H2 x y v u _ I2 r1 r2 q2) λc s3 ⟨z,H3,I3,r3,k,e,q3⟩=>?_) hm
 subst e;cases r3;exact aeo #[H3,I3,q3]
def zS(r r':R2)(ta tb tc:TE):TE:=λG H Q=>ta G H λx H1=>tb G H1 λy H2=>r x y H2 λz H3=>∃ k,z = .bl k /\
 (if k=true then tc G H3 λw' H4=>r' y w' H4 Q else Q (.bl false) H3)
theorem E8(ho:bE X (aeL op) r)(cU:bE X (aeL jo) r')(ha:PE X a ta)(hb:PE X b tb)(hc:PE X c tc)(hm:akW [op,jo] [b,c]=false:=by with_unfolding_all rfl):PE X (.Compare a [op,jo] [b,c] pos) (zS r r' ta tb tc):=by
 intro pins s G H Q I h;refine Compare_chain (aI (ha pins s G H _ I h) λv s1 ⟨x,H1,I1,r1,q1⟩=>chain_link (aI (hb pins s1 G H1 _ I1 q1) λu s2 ⟨y,H2,I2,r2,q2⟩ =>
  aI (ho pins s2 G H2 x y v u _ I2 r1 r2 q2) λd s3 ⟨z,H3,I3,r3,k,e,q3⟩=>?_)) hm
 subst e;cases r3;refine aeo ?_;cases k with
 | false=>exact ite_ff #[.bl false,H3,I3,Y,q3]
 | true=>exact ite_tt (chain_last (aI (hc pins s3 G H3 _ I3 q3) λw' s4 ⟨z',H4,I4,r4,q4⟩=>cU pins s4 G H4 y z' u w' Q I4 r2 r4 q4))
theorem OP(ho:bE X (aeL op) r)(cU:bE X (aeL jo) r')(ha:PE X a ta)(hb:PE X b tb)(hc:PE X c tc)(hm:akW [op,jo] [b,c]=false:=by with_unfolding_all rfl):PT X (.Compare a [op,jo] [b,c] pos) (wm (zS r r' ta tb tc)):=by
 intro pins s G H Q I h;refine isTrue_chain (aI (ha pins s G H _ I h) λv s1 ⟨x,H1,I1,r1,q1⟩=>alW (aI (hb pins s1 G H1 _ I1 q1) λu s2 ⟨y,H2,I2,r2,q2⟩ =>
  aI (ho pins s2 G H2 x y v u _ I2 r1 r2 q2) λd s3 ⟨z,H3,I3,r3,k,e,q3⟩=>?_)) hm
 subst e;cases r3;refine aeo ?_;cases k with
 | false =>
  obtain⟨k',e',q'⟩:=q3;cases e';exact ite_ff #[H3,I3,q']
 | true =>
  refine ite_tt (test_last (aI (hc pins s3 G H3 _ I3 q3) λw' s4 ⟨z',H4,I4,r4,q4⟩=>aI (cU pins s4 G H4 y z' u w' _ I4 r2 r4 q4) λd' s5 zq=>?_));obtain⟨z2,H5,I5,r5,k2,e2,q5⟩:=zq;subst e2;cases r5;exact aeo #[H5,I5,q5]
theorem tD:(ad1:Nat)<2 ^ 63:=by rw[ag8];decide
theorem vals1(r:Vals [x] us):∃ u,us=[u]/\RelV x u:=by
 cases r with
 | cons r1 r2=>cases r2;exact#[_,Y,r1]
theorem vals2(r:Vals [x,y] us):∃ u w',us=[u,w']/\RelV x u/\RelV y w':=by
 cases r with
 | cons r1 r2 =>
  cases r2 with
  | cons r3 r4=>cases r4;exact#[_,_,Y,r1,r3]
theorem E9(hc:X.calm=true):e9 X (.builtin "max") (λxs H Q=>∃ i j,xs=[.int i,.int j]/\Q (.int (if j > i then j else i)) H):=by
 intro pins s G H xs us Q I r h;obtain⟨i,j,rfl,q⟩:=h;obtain⟨u,w',rfl,⟨t,rfl⟩,⟨t',rfl⟩⟩:=vals2 r;refine max_two_ints (I.ok.hd hc) λh' tk k=>#[_,H,I.kept k,?_,q]
 by_cases hj:j > i
 .rw[if_pos hj,if_pos hj];exact#[_,Y]
 .rw[if_neg hj,if_neg hj];exact#[_,Y]
theorem wt(hc:X.calm=true):e9 X (.builtin "min") (λxs H Q=>∃ i j,xs=[.int i,.int j]/\Q (.int (if j<i then j else i)) H):=by
 intro pins s G H xs us Q I r h;obtain⟨i,j,rfl,q⟩:=h;obtain⟨u,w',rfl,⟨t,rfl⟩,⟨t',rfl⟩⟩:=vals2 r;refine min_two_ints (I.ok.hd hc) λh' tk k=>#[_,H,I.kept k,?_,q]
 by_cases hj:j<i
 .rw[if_pos hj,if_pos hj];exact#[_,Y]
 .rw[if_neg hj,if_neg hj];exact#[_,Y]
def wu(K:adz)(x:V)(H:Hp)(n:Nat):Prop :=
 match x with
 | .str y=>y.length<=ad1/\n=y.length
 | .byt y=>y.size<=ad1/\n=y.size
 | .ref p=>(∃ xs,aj K H p xs/\n=xs.length) ∨ ∃ xs,ak K H p xs/\n=xs.length
 | _=>False
theorem OQ:e9 X (.builtin "len") (λxs H Q=>∃ x n,xs=[x]/\wu X.K x H n/\Q (.int n) H):=by
 intro pins s G H xs us Q I r h;obtain⟨x,n,rfl,e,q⟩:=h;obtain⟨u,rfl,rx⟩:=vals1 r;have hl:=tD;have hs:ad1=16777216:=ag8;cases x with
 | str y =>
  obtain⟨t,rfl⟩:=rx;obtain⟨hy,e'⟩:y.length<=ad1/\n=y.length:=e;subst e';exact len_str (by omega) #[.int _,H,I.tok _,#[_,Y],q]
 | byt y =>
  obtain⟨t,rfl⟩:=rx;obtain⟨hy,e'⟩:y.size<=ad1/\n=y.size:=e;subst e';exact PySem.W.len_bytes (by omega) #[.int _,H,I.tok _,#[_,Y],q]
 | ref p =>
  cases rx;have e':(∃ xs,aj X.K H p xs/\n=xs.length) ∨ ∃ xs,ak X.K H p xs/\n=xs.length:=e;rcases e' with ⟨xs,hx,e'⟩|⟨xs,hx,e'⟩
  .subst e';obtain⟨ax,r',pl,hz⟩:=I.list hx;have hlen:=r'.length;exact Calls.call_len_list pl.isList (by simp only[adS];omega) #[.int xs.length,H,I.tok _,#[_,by simp only[adS];rw[hlen]],q]
  .subst e';obtain⟨ax,r',pl,hz⟩:=I.tuple hx;have hlen:=r'.length;exact len_tuple pl (by simp only[adS];omega) #[.int xs.length,H,I.tok _,#[_,by simp only[adS];rw[hlen]],q]
 | _=>exact (show False from e).elim
end
structure oH(h:afH)(x dx C:adK)(mA:Str->Option adH):Prop where
 obj:h.get? x=U (afx C dx)
 ns:h.Ns1 dx mA
 ne:dx≠x
theorem OR{h:afH}{dx:adK}{mA:Str->Option adH}(n:h.Ns1 dx mA):∃ od,h.get? dx=U od/\∀ name,aih name od=U (mA name):=by
 obtain⟨o,es,ep,ho,hd,hk,_,hm⟩:=n;refine#[o,ho,λname=>?_];have e:=hm name;unfold nsFind findBy at e;rw[<- Array.find?_toList] at e;unfold aih;rw[hd];dsimp only;split
 .rename_i y q;rw[q] at e;exact congrArg U e
 .rename_i q;rw[q] at e;have a:es.toList.any (·.refKey)=false:=by rw[akh];intro y hy;obtain⟨z,t,iQ⟩:=hk y (ahF.mp hy);simp[DictEntry.refKey,iQ]
  have a':¬ es.toList.any (·.refKey)=true:=by rw[a];exact ad2
  rw[if_neg a'];exact congrArg U e
theorem oH.look(I:oH h x dx C mA):∃ od,PySem.W.InstAt h x (afx C dx) C (U od)/\∀ name,aih name od=U (mA name) :=
 let ⟨od,ho,hl⟩:=OR I.ns
 #[od,#[I.obj,Y,Y,ho],hl]
section
variable{prog:aek}{w:aeS}{A:aff}{E:adH->adQ->Prop}{s:adQ}{K:adz}{x dx C f:adK}{mA:Str->Option adH}{name:Str}{v:adH}
theorem get_map{expr:Bool}{Q:adH->adQ->Prop}(X:K.In s.heap)(I:oH s.heap x dx C mA)(hg:ahz K C name=true)(hh:ais K C=true)
 (ha:afa K (.ref C) name=U O) (hv:mA name=U v) (OS:akK v=true) (h:Q v { s with toks:=s.toks+1 }) :
 adY (model prog w) A (getAttr (.ref x) name expr) Q E s:=by
 obtain⟨od,J,hl⟩:=I.look;exact PySem.W.get_value X J (ahQ hg).1 (PySem.W.findObj_own hh ha Y (by rw[hl,hv])) OS h
theorem OT{pl:Sem Bool}{Q:adH × List adH->adQ->Prop}(X:K.In s.heap)(I:oH s.heap x dx C mA)(hg:ahz K C name=true)
 (hf:afa K (.ref C) name=U (U (.ref f))) (ht:ajj K (.ref f)=true) (hv:mA name=O) (h:Q (.ref f,[.ref x]) s) :
 adY (model prog w) A (ait (.ref x) name pl) Q E s:=by
 obtain⟨od,J,hl⟩:=I.look;exact PySem.W.method_fn X J (ahQ hg).1 (ahQ hg).2 hf (beq_iff_eq.mp ht) (by show (aih name od).map (·.isSome)=U false;rw[hl,hv];rfl) h
theorem OU{ns:List Str}{Q:Unit->adQ->Prop}(X:K.In s.heap)(I:oH s.heap x dx C mA)
 (hs:afa K (.ref C) "__setattr__" = U (U (.builtin "object.__setattr__"))) (hp:aki K C=true) (ht:ajk K C name=U O) (hh:ais K C=true)
 (hw:aky mA ns) (hsz:ns.length<=ad1)
 (h:∀ h',oH h' x dx C (λy=>if y=name then U v else mA y)->Heap.SameBut dx s.heap h'->Q () { s with heap:=h',toks:=s.toks+2 }) :
 adY (model prog w) A (setAttr (.ref x) name v) Q E s:=by
 obtain⟨od,J,hl⟩:=I.look;refine PySem.W.set_plain X J hs (PySem.W.osa_open (s:={ s with toks:=s.toks+1 }) (r:=O) X J hp ht λb=>?_);obtain⟨cd,hc,jW⟩:=PySem.W.any_some hh;have hx:s.heap.get? x=U #[.ref C,U dx,.plain,(List.toArray [])]:=I.obj;refine ady (adD (ady (ady (wpAny_loadPart hx (ady (PySem.W.Looks.here (s:={ s with toks:=s.toks+1 }) (PySem.W.looks_clsIn X hc) ?_))))));rw[jW];refine adD (a:=U dx) (ady (adD (ady ?_)));refine wpAny_nsSet1 (s:={ s with toks:=s.toks+1 }) I.ns λh' zT dv=>?_;obtain⟨oD,esD,epD,OV,OW,OX⟩:=zT.count (PySem.Within.cons name v hw);refine ady (wpAny_lookBehind OV (by rw[OW];exact pastItsLine_dict (adG OX (by rw[aeg];omega))) ?_);exact adD (h _ #[(dv.2 _ (aey I.ne)).trans I.obj,zT,I.ne] dv)
theorem OY{R:akA->adQ->Prop}{vs:List adH}{kw:List (Str × adH)}(X:K.In s.heap)(hm:ajl K C=true)
 (hi:afa K (.ref C) "__init__" = U (U (.ref f))) (hf:ajJ K (.ref f)=U (.type "function"))
 (h:ags (model prog w) (A.under (.builtin "type.__call__" #[.ref C::vs,kw])) (.call (.ref f) #[.ref (s.heap.objs.size+1)::vs,kw]) (PySem.W.InitBack (s.heap.objs.size+1) R)
   { s with heap:=(s.heap.push ae7).push (afx C s.heap.objs.size) }) :
 ags (model prog w) A (.call (.ref C) #[vs,kw]) R s:=by
 obtain⟨hh,g,d,t,os⟩:=s;exact PySem.W.make_core (PySem.W.makes_of X hm) (PySem.W.looks_findIn X hi) (λself=>PySem.W.bind_fn X self hf) (.inl rfl) h
end
noncomputable def fI(f:Str)(v:V):List (Str × V)->List (Str × V)
 | []=>[(f,v)]
 | (g,x)::r=>if g=f then (g,v)::r else (g,x)::fI f v r
theorem Fc(f g:Str)(v:V):∀ fs:List (Str × V),(fI f v fs).lookup g=if g=f then U v else fs.lookup g
 | []=>by
  show ag9 g [(f,v)]=_;by_cases h:g=f
  .have hb:(g == f)=true:=beq_iff_eq.mpr h;simp only[ag9,hb,if_pos h]
  .have hb:(g == f)=false:=beq_eq_false_iff_ne.mpr h;simp only[ag9,hb,if_neg h]
 | (k,x)::r=>by
  have ih:=Fc f g v r;rw[show fI f v ((k,x)::r)=(if k=f then (k,v)::r else (k,x)::fI f v r) from Y];by_cases hk:k=f
  .rw[if_pos hk];by_cases h:g=k
   .have hb:(g == k)=true:=beq_iff_eq.mpr h;simp only[ag9,hb,if_pos (h.trans hk)]
   .have hb:(g == k)=false:=beq_eq_false_iff_ne.mpr h;simp only[ag9,hb,if_neg (λe:g=f=>h (e.trans hk.symm))]
  .rw[if_neg hk];by_cases h:g=k
   .have hb:(g == k)=true:=beq_iff_eq.mpr h;simp only[ag9,hb,if_neg (λe:g=f=>hk (h.symm.trans e))]
   .have hb:(g == k)=false:=beq_eq_false_iff_ne.mpr h;simp only[ag9,hb];exact ih
theorem zU(f:Str)(v:V):∀ fs:List (Str × V),f∈(fI f v fs).map (·.1)/\∀ g,g∈fs.map (·.1)->g∈(fI f v fs).map (·.1)
 | []=>#[by simp[fI],λg h=>by simp at h]
 | (k,x)::r=>by
  obtain⟨i1,i2⟩:=zU f v r;rw[show fI f v ((k,x)::r)=(if k=f then (k,v)::r else (k,x)::fI f v r) from Y];by_cases hk:k=f
  .rw[if_pos hk];subst hk;exact#[by simp,λg h=>by simpa using h]
  .rw[if_neg hk];refine#[?_,λg h=>?_]
   .rw[adU];exact aer _ i1
   .rw[adU] at h ⊢;rcases adL.mp h with e|e
    .exact adL.mpr (.inl e)
    .exact aer _ (i2 g e)
theorem Fd(f:Str)(v:V):∀ fs:List (Str × V),(fI f v fs).length<=fs.length+1
 | []=>by simp[fI]
 | (k,x)::r=>by
  have ih:=Fd f v r;rw[show fI f v ((k,x)::r)=(if k=f then (k,v)::r else (k,x)::fI f v r) from Y];by_cases hk:k=f
  .rw[if_pos hk,aeg,aeg];omega
  .rw[if_neg hk,aeg,aeg];omega
theorem gp.some_of(r:gp (U v) o):∃ u,o=U u/\RelV v u:=by
 cases o with
 | none=>exact (show False from r).elim
 | some u=>exact#[u,Y,r]
theorem gp.none_of(r:gp O o):o=O:=by
 cases o with
 | none=>rfl
 | some u=>exact (show False from r).elim
theorem OZ(r:RelV v u):akK u=true:=by
 cases v with
 | non=>cases (show u=Value.none from r);rfl
 | bl b=>cases (show u=afe b from r);rfl
 | int i=>obtain⟨t,e⟩:=(show ∃ t,u=Value.int i t from r);cases e;rfl
 | str x=>obtain⟨t,e⟩:=(show ∃ t,u=Value.str x t from r);cases e;rfl
 | byt b=>obtain⟨t,e⟩:=(show ∃ t,u=amb b t from r);cases e;rfl
 | flt b=>obtain⟨t,e⟩:=(show ∃ t,u=akV b t from r);cases e;rfl
 | ref a=>cases (show u=ad7 a from r);rfl
 | ty n=>cases (show u=aip n from r);rfl
section
theorem wx(aA:ck P w H h)(e:H a=U (.ins C dx fs)):∃ mA,oH h a dx C mA/\(∀ f,gp (fs.lookup f) (mA f))/\aky mA (fs.map (·.1))/\fs.length<=1000/\H dx=U (.own a):=by
 obtain⟨d,z,ne,ob,mA,n,r,q⟩:=(show bW P w H h a (.ins C dx fs) from aA a _ e)
 exact#[mA,#[ob,n,ne],r,q,z,d]
end
structure cg(K:adz)(C:adK):Prop where
 pg:ahz K C Str.empty=true
 hd:ais K C=true
 po:aki K C=true
 sa:afa K (.ref C) "__setattr__" = U (U (.builtin "object.__setattr__"))
theorem cg.get{K:adz}{C:adK}(c:cg K C)(f:Str):ahz K C f=true:=c.pg
def bA(K:adz)(C:adK)(f:Str):Prop:=afa K (.ref C) f=U O
theorem bA.O0{K:adz}{C:adK}{f:Str}(n:bA K C f):ajk K C f=U O:=by unfold ajk;rw[show afa K (.ref C) f=U O from n];rfl
structure Meth(K:adz)(C:adK)(m:Str)(f:adK):Prop where
 at_:afa K (.ref C) m=U (U (.ref f))
 fn:ajj K (.ref f)=true
 kp:afQ K (.ref f)=true
section
theorem O2(I:Inv X pins G H s)(e:H a=U (.ins C dx fs))(c:cg X.K C)(n:bA X.K C f)(l:fs.lookup f=U v)(h:∀ u s',Inv X pins G H s'->RelV v u->Q u s'):adY (model X.prog X.w) A (getAttr (.ref a) f b) Q E s:=by obtain⟨mA,O9q,r,y,y,y⟩:=wx I.aA e;obtain⟨u,hu,ru⟩:=gp.some_of (v:=v) (o:=mA f) (by rw[<- l];exact r f);exact get_map I.cv O9q (c.get f) c.hd n hu (OZ ru) (h u _ (I.tok _) ru)
theorem wy(I:Inv X pins G H s)(e:H a=U (.ins C dx fs))(c:cg X.K C)(k:Meth X.K C m g)(l:fs.lookup m=O)(h:Q (.ref g,[.ref a]) s):adY (model X.prog X.w) A (ait (.ref a) m pl) Q E s:=by obtain⟨mA,O9q,r,y,y,y⟩:=wx I.aA e;have hn:mA m=O:=gp.none_of (by rw[<- l];exact r m);exact OT I.cv O9q (c.get m) k.at_ k.fn hn h
theorem O3(I:Inv X pins G H s)(e:H a=U (.ins C dx fs))(c:cg X.K C)(n:bA X.K C f)(hl:fs.length<1000)(ry:RelV y u)(h:∀ s',Inv X pins G (upd H a (.ins C dx (fI f y fs))) s'->Q () s'):adY (model X.prog X.w) A (setAttr (.ref a) f u) Q E s:=by
 obtain⟨mA,O9q,r,wi,v,ho⟩:=wx I.aA e;have hz:(fs.map (·.1)).length<=ad1:=by rw[adA,ag8];omega
 refine OU I.cv O9q c.sa c.po n.O0 c.hd wi hz λh' O' sb=>h _ ?_;have hd:∃ o,h'.get? dx=U o:=let ⟨o,_,_,e',_⟩:=O'.ns;#[o,e'];refine I.write (x:=a) (e:=dx) (by rw[e];exact afX) (.inr ho) (λb q hb z=>(sb.2 b hb).trans z) hd ?_;refine#[by rw[aK O9q.ne];exact ho,?_,O9q.ne,O'.obj,_,O'.ns,λg=>?_,λg hg=>?_]
 .have:=Fd f y fs;omega
 .show gp ((fI f y fs).lookup g) (if g=f then U u else mA g);rw[Fc];by_cases q:g=f
  .rw[if_pos q,if_pos q];exact ry
  .rw[if_neg q,if_neg q];exact r g
 .by_cases q:g=f
  .rw[q];exact (zU f y fs).1
  .refine (zU f y fs).2 g (wi g λz=>hg ?_);show (if g=f then U u else mA g)=O;rw[if_neg q];exact z
theorem Inv.made(I:Inv X pins G H s):Inv X pins G (upd (upd H s.heap.objs.size (.own (s.heap.objs.size+1))) (s.heap.objs.size+1) (.ins C s.heap.objs.size []))
 { s with heap:=(s.heap.push ae7).push (afx C s.heap.objs.size) }:=by
 have e1:(s.heap.push ae7).get? s.heap.objs.size=U ae7:=adN s.heap rfl;have e2:((s.heap.push ae7).push (afx C s.heap.objs.size)).get? (s.heap.objs.size+1)=U (afx C s.heap.objs.size):=by
  have:=adN (s.heap.push ae7) (o:=afx C s.heap.objs.size) rfl
  rwa [afR] at this
 have e3:(s.heap.push ae7).Ns s.heap.objs.size (λy=>O):=#[ae7,(List.toArray []),_,e1,Y,(λe he=>absurd he (by simp)),λy=>rfl]
 have I1:=I.laid (a:=s.heap.objs.size) (o:=.own (s.heap.objs.size+1)) (h':=s.heap.push ae7) (t':=s.toks) (λb u q=>adE _ q) (adJ _) #[_,e1];refine I1.laid (a:=s.heap.objs.size+1) (o:=.ins C s.heap.objs.size []) (t':=s.toks) (λb u q=>adE _ q) (alX (afR _ _)) ?_;have ne:s.heap.objs.size≠s.heap.objs.size+1:=adV (af7 _);refine#[by rw[aK ne,au],ad6 _,ne,e2,λy=>O,(Heap.Ns1.of_empty e3).at λo q=>adE _ q,λy=>afX,λy hy=>absurd Y hy]
theorem O4(hb:agQ e f env (eval e env)=eval e env)(h:adY (model prog w) A (eval e env) (λo s₁=>adY (model prog w) A (getAttr o f true) Q E s₁) E s):adY (model prog w) A (eval (.Attribute e f pos) env) Q E s :=
 Attribute_any_ h (by rw[arm_eval_Attribute,hb])
end
def Fe(K:adz)(ta:TE)(f:Str):TE:=λG H Q=>ta G H λx H1=>∃ a C dx fs v,x = .ref a/\H1 a=U (.ins C dx fs)/\cg K C/\bA K C f/\fs.lookup f=U v/\Q v H1
def Ff(K:adz)(ta tv:TE)(f:Str):TS:=λD G H=>tv G H λy H1=>ta G H1 λx H2=>∃ a C dx fs,x = .ref a/\H2 a=U (.ins C dx fs)/\cg K C/\bA K C f/\fs.length<1000 /\
 D.nx G (upd H2 a (.ins C dx (fI f y fs)))
section
theorem O5(he:PE X e ta)(hb:agQ e f X.env (eval e X.env)=eval e X.env):PE X (.Attribute e f pos) (Fe X.K ta f):=by
 intro pins s G H Q I h;refine O4 hb (aI (he pins s G H _ I h) λu s1 zq=>?_);obtain⟨x,H1,I1,rx,a,C,dx,fs,v,ex,ea,c,n,l,q⟩:=zq;subst ex;obtain rfl:u=ad7 a:=rx;exact O2 I1 ea c n l λu' s2 I2 ru=>#[v,H1,I2,ru,q]
theorem O6(ha:PE X o ta)(hv:PE X value tv)(hs:ahO value (U (.Attribute o f pos')) pos.line X.env=pure false):PS X (.Assign [.Attribute o f pos'] value pos) (Ff X.K ta tv f):=by
 intro pins s G H D I h;refine plainObj_wpAny_Assign_Attribute (aI (hv pins s G H _ I h) λu s1 ⟨y,H1,I1,ry,q⟩=>aI (ha pins s1 G H1 _ I1 q) λov s2 zq=>?_) hs;obtain⟨x,H2,I2,rx,a,C,dx,fs,ex,ea,c,n,l,q2⟩:=zq;subst ex;obtain rfl:ov=ad7 a:=rx;exact O3 I2 ea c n l ry λs3 I3=>#[G,_,I3,q2]
inductive dY(K:adz)(H:Hp):V->adH->Prop where
 | non:dY K H .non (.type "NoneType")
 | bl (x:Bool):dY K H (.bl x) (.type "bool")
 | int (i:Int):dY K H (.int i) (.type "int")
 | str (x:Str):dY K H (.str x) (.type "str")
 | flt (x:UInt64):dY K H (.flt x) (.type "float")
 | lst {a:adK} {xs:List V} (e:H a=U (.lst xs)):dY K H (.ref a) (.type "list")
 | ba {a:adK} {o:Obj} {xs:List V} (e:H a=U (.ba o (.lst xs))):dY K H (.ref a) (.type "list")
 | tup {a:adK} {xs:List V} (e:H a=U (.tup xs)):dY K H (.ref a) (.type "tuple")
 | dK {a:adK} {kvs:List (Key × V)} (e:H a=U (.dK kvs)):dY K H (.ref a) (.type "dict")
 | dT {a:adK} {kvs:List (List Key × V)} (e:H a=U (.dT kvs)):dY K H (.ref a) (.type "dict")
 | ins {a C dx:adK} {fs:List (Str × V)} (e:H a=U (.ins C dx fs)) (cl:cg K C) (ha:afa K (.ref C) "__class__" = U (U (.builtin "object.__class__")))
  (hn:aiu K (.builtin "object.__class__") "__get__" = U (U (.builtin "getset_descriptor.__get__"))) (Fg:PySem.W.takesIn K (.builtin "object.__class__")=U true)
  (hm:PySem.W.mroIn K C (.type "object")=U true):dY K H (.ref a) (.ref C)
theorem O7(I:Inv X pins G H s)(rx:RelV x u)(ty:dY X.K H x t)(e:aeI X.K t c=U b)(h:∀ tk,Q (.bool b) { s with toks:=tk }) :
 adY (model X.prog X.w) A (call (.builtin "isinstance") [u,c]) Q E s:=by
 cases ty with
 | non=>cases (show u=Value.none from rx);exact aeV PySem.W.kitx_none I.cv afX e (λz=>nomatch z) h
 | bl y=>cases (show u=afe y from rx);exact aeV PySem.W.kitx_bool I.cv afX e (λz=>nomatch z) h
 | int i=>obtain⟨t,q⟩:=(show ∃ t,u=Value.int i t from rx);cases q;exact aeV PySem.W.kitx_int I.cv afX e (λz=>nomatch z) h
 | str y=>obtain⟨t,q⟩:=(show ∃ t,u=Value.str y t from rx);cases q;exact aeV PySem.W.kitx_str I.cv afX e (λz=>nomatch z) h
 | flt y=>obtain⟨t,q⟩:=(show ∃ t,u=akV y t from rx);cases q;exact aeV PySem.W.kitx_float I.cv afX e (λz=>nomatch z) h
 | @lst a xs ea =>
  cases (show u=ad7 a from rx);obtain⟨v,v,n,v,h1⟩:=(show bW X.prog X.w H s.heap a (.lst xs) from I.aA a _ ea)
  exact aeV akj I.cv #[_,h1,Y] e (λz=>nomatch z) h
 | @ba a ob xs ea =>
  cases (show u=ad7 a from rx);obtain⟨v,v,v,n,v,h1⟩:=(show bW X.prog X.w H s.heap a (.ba ob (.lst xs)) from I.aA a _ ea)
  exact aeV akj I.cv #[_,h1,Y] e (λz=>nomatch z) h
 | @tup a xs ea =>
  cases (show u=ad7 a from rx);obtain⟨v,v,v,p⟩:=(show bW X.prog X.w H s.heap a (.tup xs) from I.aA a _ ea)
  obtain⟨o,h1,h2,v⟩:=p;exact aeV PySem.W.kitx_tuple I.cv #[o,h1,h2] e (λz=>nomatch z) h
 | @dK a kvs ea =>
  cases (show u=ad7 a from rx);obtain⟨v,v,vs,v,p⟩:=(show bW X.prog X.w H s.heap a (.dK kvs) from I.aA a _ ea)
  obtain⟨o,es,ep,h1,h2,v⟩:=p;exact aeV akk I.cv #[o,h1,h2.1] e (λz=>nomatch z) h
 | @dT a kvs ea =>
  cases (show u=ad7 a from rx);obtain⟨v,v,xs,v,o,es,ep,h1,h2,v⟩:=(show bW X.prog X.w H s.heap a (.dT kvs) from I.aA a _ ea)
  exact aeV akk I.cv #[o,h1,h2.1] e (λz=>nomatch z) h
 | @ins a C dx fs ea cl ha hn Fg hm =>
  cases (show u=ad7 a from rx);obtain⟨mA,O9q,v⟩:=wx I.aA ea;obtain⟨od,J,v⟩:=O9q.look;exact aeV (PySem.W.kitx_own (cl.get _) cl.hd ha hn Fg hm) I.cv J e (λz=>nomatch z) h
end
structure bF(k:Nat)(A:aff):Prop where
 hd:A.handled=O
 dp:A.depth+3 * k+5<recursionLimit
 un:A.units+16 * k+200<aii
theorem bF.mono(r:bF k A)(h:j<=k):bF j A:=#[r.hd,by have:=r.dp;omega,by have:=r.un;omega]
theorem bF.deeper(r:bF (k+1) A)(env:Env):bF k (A.deeper env) :=
 #[r.hd,by have:=r.dp;show A.depth+1+3 * k+5<_;omega,by have:=r.un;show A.units+3+16 * k+200<_;omega]
theorem O8{A:aff}{C:adK}{us:List adH}{kw:List (Str × adH)}:(A.under (.builtin "type.__call__" #[.ref C::us,kw])).depth=A.depth+1:=by
 first|rfl|simp[akB,Code.weight,Code.isCreation,Code.isGuard,Code.isCaller,Code.frames,Code.isFrame,guardIds]
theorem O9{A:aff}{C:adK}{us:List adH}{kw:List (Str × adH)}:(A.under (.builtin "type.__call__" #[.ref C::us,kw])).units=A.units+1:=by
 first|rfl|simp[akB,Code.cUnits,Code.frames,Code.isFrame]
theorem bF.make(r:bF (k+1) A)(C:adK)(us:List adH)(kw:List (Str × adH)):bF k (A.under (.builtin "type.__call__" #[.ref C::us,kw])) :=
 #[r.hd,by have:=r.dp;rw[O8];omega,by have:=r.un;rw[O9];omega]
theorem bF.depth(r:bF k A):A.depth<recursionLimit:=by have:=r.dp;omega
theorem bF.units(r:bF k A):A.units+64<aii:=by have:=r.un;omega
def oI:TA:=λy H Q=>Q [] H
def tE(ta:TE)(tr:TA):TA:=λG H Q=>ta G H λx H1=>tr G H1 λxs H2=>Q (x::xs) H2
section
theorem ah:PA X [] oI:=λy y y y H Q I h=>afw #[[],H,I,.nil,h]
theorem ae(ha:PE X e te)(hr:PA X es t)(hs:adX (e::es) X.env=(false,eval e X.env)::adX es X.env:=by rfl):PA X (e::es) (tE te t):=by
 intro pos pins s G H Q I h;rw[hs];show adY _ _ (spliced ((false,eval e X.env)::afi pos (adX es X.env))) _ _ s;refine afk (aI (ha pins s G H _ I h) λu s1 zq=>?_);obtain⟨x,H1,I1,r1,q1⟩:=zq;exact aI (hr pos pins s1 G H1 _ I1 q1) λus s2 ⟨xs,H2,I2,r2,q2⟩=>#[x::xs,H2,I2,.cons r1 r2,q2]
def Fh(t:TA):TE:=λG H Q=>t G H λxs H1=>xs.length<=ad1/\∀ p,H1 p=O->Q (.ref p) (upd H1 p (.tup xs))
def Fi(t:TA):TE:=λG H Q=>t G H λxs H1=>xs.length<=ad1/\∀ p,H1 p=O->Q (.ref p) (upd H1 p (.lst xs))
theorem aP(h:PA X es t):PE X (.Tuple es x1 pos) (Fh t):=by intro pins s G H Q I hq;refine wpAny_Tuple_spliced (aI (h pos pins s G H _ I hq) λus s1 ⟨xs,H1,I1,r,z,q⟩=>#[by rw[<- r.length];exact z,?_]);have hf:H1 s1.heap.objs.size=O:=I1.aA.fresh (adJ _);refine#[.ref s1.heap.objs.size,upd H1 s1.heap.objs.size (.tup xs),I1.laid (t':=s1.toks) (λb u e=>adE _ e) (adJ _) ?_,Y,q _ hf];exact#[z,us,r,#[_,adN _ Y,Y,_,Y]]
theorem cE(h:PA X es t):PE X (.List es pos) (Fi t):=by intro pins s G H Q I hq;refine wpAny_List_spliced (aI (h pos pins s G H _ I hq) λus s1 ⟨xs,H1,I1,r,z,q⟩=>#[by rw[<- r.length];exact z,?_]);have hf:H1 s1.heap.objs.size=O:=I1.aA.fresh (adJ _);refine#[.ref s1.heap.objs.size,upd H1 s1.heap.objs.size (.lst xs),I1.laid (t':=s1.toks) (λb u e=>adE _ e) (adJ _) ?_,Y,q _ hf];exact#[z,us,0,r,adN _ Y]
end
abbrev Sp:=List V->Hp->VK->XK->Prop
abbrev fV:=List Env->Hp->adQ->XK->adH->adQ->Prop
structure oJ(P:aek)(w:aeS)(K:adz)(mg:Str->Option adH)(base:afH)(A:aff)(outer:List Env)(s:adQ)(H:Hp):Prop where
 frames:A.frames=U outer
 mod:Mod K mg base
 bs:∀ b o,base.get? b=U o->s.heap.get? b=U o/\H b=O
 bsz:base.objs.size<=s.heap.objs.size
 gP:s.heap.FunFrames base outer
 frf:∀ b∈bw outer,H b=O
 aA:ck P w H s.heap
 bare:ajh s.gens
def CE(outer:List Env)(P:aek)(w:aeS)(H:Hp)(s:adQ)(Q:VK)(u:adH)(s':adQ):Prop :=
 ∃ v H',s'.os=s.os/\ajh s'.gens/\Un (bw outer) [] H H' s.heap s'.heap/\ck P w H' s'.heap/\RelV v u/\Q v H'
def CR(CX:fV)(outer:List Env)(P:aek)(w:aeS)(H:Hp)(s:adQ)(Q:VK)(E:XK)(r:akA)(s':adQ):Prop :=
 match r with
 | .ok (.ret u)=>CE outer P w H s Q u s'
 | .ok _=>False
 | .error e=>CX outer H s E e s'
structure cF(P:aek)(w:aeS)(K:adz)(mg:Str->Option adH)(base:afH)(CX:fV)(k:Nat)(f:adK)(fd:afV)(ps:List Str)(sp:Sp):Prop where
 len:∀ vs H Q E,sp vs H Q E->vs.length=ps.length
 run:∀ (A:aff) (outer:List Env) (s:adQ) (H:Hp) (args:Args) (us:List adH) (vs:List V) (Q:VK) (E:XK),bF k A->oJ P w K mg base A outer s H->akl s fd args (ps.zip us)->Vals vs us->sp vs H Q E ->
  ags (model P w) A (.call (.ref f) args) (CR CX outer P w H s Q E) s
theorem cF.mono{P:aek}{w:aeS}{K:adz}{mg:Str->Option adH}{base:afH}{CX:fV}{j k:Nat}{f:adK}{fd:afV}{ps:List Str}{sp:Sp}(F:cF P w K mg base CX j f fd ps sp)(h:j<=k) :
 cF P w K mg base CX k f fd ps sp:=#[F.len,λA outer s H args us vs Q E hr=>F.run A outer s H args us vs Q E (hr.mono h)]
theorem cF.imp{P:aek}{w:aeS}{K:adz}{mg:Str->Option adH}{base:afH}{CX:fV}{k:Nat}{f:adK}{fd:afV}{ps:List Str}{sp tF:Sp}(F:cF P w K mg base CX k f fd ps sp)
 (h:∀ vs H Q E,tF vs H Q E->sp vs H Q E):cF P w K mg base CX k f fd ps tF :=
 #[λvs H Q E q=>F.len vs H Q E (h _ _ _ _ q),λA outer s H args us vs Q E hr he hb hv hs=>F.run A outer s H args us vs Q E hr he hb hv (h _ _ _ _ hs)]
theorem oJ.make{P:aek}{w:aeS}{K:adz}{mg:Str->Option adH}{base:afH}{A:aff}{outer:List Env}{s:adQ}{H:Hp}(e:oJ P w K mg base A outer s H)(C:adK)(us:List adH)(kw:List (Str × adH)) :
 oJ P w K mg base (A.under (.builtin "type.__call__" #[.ref C::us,kw])) outer s H:=#[by first|exact e.frames|(simpa [akB,Code.envs,Code.isFrame,pushEnvs] using e.frames),e.mod,e.bs,e.bsz,e.gP,e.frf,e.aA,e.bare]
section
theorem Inv.Fj(I:Inv X pins G H s):oJ X.prog X.w X.K X.mg X.base X.A X.stack s H :=
 #[I.ok.frames,I.ok.mod,I.bs,adG I.ok.bsz I.sz,I.stack,I.sQ,I.aA,I.bare]
theorem Inv.after(I:Inv X pins G H s)(h:CE X.stack X.prog X.w H s Q u s'):EP X pins G Q u s':=by obtain⟨v,H',os,bare,un,aA,r,q⟩:=h;obtain⟨hh,g,d,t,qw⟩:=s';obtain rfl:qw=s.os:=os;exact#[v,H',I.call (h':=hh) (g':=g) (d':=d) (t':=t) (ch:=[]) un aA bare (λb z=>absurd z (by simp)),r,q]
end
def qx(sp:Sp)(c7:List V)(E:XK)(t:TA):TE:=λG H Q=>t G H λvs H1=>sp (vs++c7) H1 Q E
def zV(C:adK)(m:Str)(sp:Sp)(c7:List V)(E:XK)(ta:TE)(t:TA):TE:=λG H Q=>ta G H λx H1=>∃ a dx fs,x = .ref a/\H1 a=U (.ins C dx fs)/\fs.lookup m=O /\
 t G H1 λvs H2=>sp (x::(vs++c7)) H2 Q E
def Fl(C:adK)(sp:Sp)(c7:List V)(E:XK)(t:TA):TE:=λG H Q=>t G H λvs H1=>∀ x dx,H1 x=O->H1 dx=O->dx≠x ->
 sp (.ref x::(vs++c7)) (upd (upd H1 dx (.own x)) x (.ins C dx [])) (λv H2=>v = .non/\Q (.ref x) H2) E
def Binds(K:adz)(fd:afV)(ps:List Str)(ds:List adH):Prop :=
 ∀ (s:adQ) (us:List adH),K.In s.heap->(us++ds).length=ps.length->akl s fd #[us,[]] (ps.zip (us++ds))
theorem Binds.all{K:adz}{fd:afV}{ps:List Str}(h:∀ us:List adH,us.length=ps.length->bindArgs fd #[us,[]]=pure (ps.zip us)):Binds K fd ps []:=λs us y hl=>by rw[akX] at hl ⊢;exact .of_eq (h us hl)
def Passes(CX:fV)(X:Cx)(E:XK):Prop:=∀ (pins:List (adK × Obj)) (G:St) (H:Hp) (s:adQ) (e:adH) (s':adQ),Inv X pins G H s->CX X.stack H s E e s'->X.xe e s'
section
theorem qz(F:cF X.prog X.w X.K X.mg X.base CX k f fd ps sp)(hr:bF k X.A)(hb:Binds X.K fd ps ds)(hd:Vals c7 ds)(hx:Passes CX X E)(I:Inv X pins G H s)(r:Vals vs us)(h:sp (vs++c7) H Q E):adY (model X.prog X.w) X.A (call (.ref f) us) (EP X pins G Q) X.xe s:=by
 have r2:Vals (vs++c7) (us++ds):=r.append hd;have hl:(us++ds).length=ps.length:=by rw[<- r2.length];exact F.len _ _ _ _ h
 refine akm (ahm (F.run X.A X.stack s H #[us,[]] (us++ds) (vs++c7) Q E hr I.Fj (hb s us I.cv hl) r2 h) λr s' hq=>?_);cases r with
 | error e=>exact hx pins G H s e s' I hq
 | ok fl =>
  cases fl with
  | ret u=>exact I.after hq
  | next=>exact afI hq
  | brk=>exact afI hq
  | cont=>exact afI hq
theorem fe(F:cF X.prog X.w X.K X.mg X.base CX k f fd ps sp)(hr:bF k X.A)(hg:Gl X x)(hm:X.mg x=U (.ref f))(hk:afQ X.K (.ref f)=true)(hb:Binds X.K fd ps ds)(hd:Vals c7 ds)(hx:Passes CX X E)(ha:PA X (e::es) t)(fW:(x == ("__debug__" : Str))=false:=by decide)(he:adX (e::es) X.env=(false,eval e X.env)::adX es X.env:=by rfl)(dP:(afi pos (adX es X.env)).any (·.1)=false:=by rfl) :
 PE X (.Call (.Name x p) (e::es) [] pos) (qx sp c7 E t):=by
 intro pins s G H Q I h;refine ae1 (sT I hg hm ?_ fW);refine agR (h₀:=X.base) I.ok.mod.kin hk (aI (ha pos pins s G H _ I h) λus s1 ⟨vs,H1,I1,r,q⟩=>#[I1.cv,?_]) he dP;exact qz F hr hb hd hx I1 r q
theorem ff(he:PE X o ta)(c:cg X.K C)(hm:Meth X.K C m f)(F:cF X.prog X.w X.K X.mg X.base CX k f fd ps sp)(hr:bF k X.A)(hb:Binds X.K fd ps ds)(hd:Vals c7 ds)(hx:Passes CX X E)(ha:PA X (e::es) t)(cW:adX (e::es) X.env=(false,eval e X.env)::adX es X.env:=by rfl)(dP:(afi pos (adX es X.env)).any (·.1)=false:=by rfl)(ht:eval (.Call (.Attribute o m apos) (e::es) [] pos) X.env=(do
 let ov <- eval o X.env
 ajQ apos.atName
 let (f,first) <- holding [ov] (ait ov m pl)
 akT pos f first (afi pos (adX (e::es) X.env)) (aiL pos (agF [] X.env))):=by rfl) :
 PE X (.Call (.Attribute o m apos) (e::es) [] pos) (zV C m sp c7 E ta t):=by
 intro pins s G H Q I h;refine afK (pl:=pl) (aI (he pins s G H _ I h) λu s1 zq=>?_) ht;obtain⟨x,H1,I1,rx,a,dx,fs,ex,ea,l,q⟩:=zq;subst ex;obtain rfl:u=ad7 a:=rx;refine wy I1 ea c hm l ?_;refine agR (first:=[.ref a]) (h₀:=X.base) I.ok.mod.kin hm.kp (aI (ha pos pins s1 G H1 _ I1 q) λus s2 ⟨vs,H2,I2,r,q2⟩=>#[I2.cv,?_]) cW dP;exact qz (us:=.ref a::us) (vs:=.ref a::vs) F hr hb hd hx I2 (.cons rfl r) q2
theorem qA(he:PE X o ta)(c:cg X.K C)(hm:Meth X.K C m f)(F:cF X.prog X.w X.K X.mg X.base CX k f fd ps sp)(hr:bF k X.A)(hb:Binds X.K fd ps ds)(hd:Vals c7 ds)(hx:Passes CX X E)(ht:eval (.Call (.Attribute o m apos) [] [] pos) X.env=(do
 let ov <- eval o X.env
 ajQ apos.atName
 let (f,first) <- holding [ov] (ait ov m pl)
 akT pos f first (afi pos (adX [] X.env)) (aiL pos (agF [] X.env))):=by rfl) :
 PE X (.Call (.Attribute o m apos) [] [] pos) (zV C m sp c7 E ta oI):=by
 intro pins s G H Q I h;refine afK (pl:=pl) (aI (he pins s G H _ I h) λu s1 zq=>?_) ht;obtain⟨x,H1,I1,rx,a,dx,fs,ex,ea,l,q⟩:=zq;subst ex;obtain rfl:u=ad7 a:=rx;refine wy I1 ea c hm l ?_;exact ahR (first:=[.ref a]) I1.cv hm.kp (qz (us:=[.ref a]) (vs:=[.ref a]) F hr hb hd hx I1 (.cons rfl .nil) q)
structure Mk(K:adz)(C f:adK):Prop where
 makes:ajl K C=true
 init:afa K (.ref C) "__init__" = U (U (.ref f))
 fn:ajj K (.ref f)=true
 kp:afQ K (.ref C)=true
theorem Pb(M:Mk X.K C f)(F:cF X.prog X.w X.K X.mg X.base CX k f fd ps sp)(hr:bF (k+1) X.A)(hb:Binds X.K fd ps ds)(hd:Vals c7 ds)(hx:Passes CX X E)(I:Inv X pins G H s)(r:Vals vs us)(h:∀ x dx,H x=O->H dx=O->dx≠x->sp (.ref x::(vs++c7)) (upd (upd H dx (.own x)) x (.ins C dx [])) (λv H2=>v = .non/\Q (.ref x) H2) E) :
 adY (model X.prog X.w) X.A (call (.ref C) us) (EP X pins G Q) X.xe s:=by
 have hq:=h (s.heap.objs.size+1) s.heap.objs.size (I.aA.fresh (ahS _)) (I.aA.fresh (adJ _)) (adV (af7 _));have I2:=Inv.made (C:=C) I;have r2:Vals (V.ref (s.heap.objs.size+1)::(vs++c7)) (ad7 (s.heap.objs.size+1)::(us++ds)):=.cons rfl (r.append hd);have hl:(ad7 (s.heap.objs.size+1)::us++ds).length=ps.length:=by have e:=r2.length;rw[F.len _ _ _ _ hq] at e;exact e.symm
 refine akm (OY (f:=f) I.cv M.makes M.init (beq_iff_eq.mp M.fn) (ahm (F.run _ X.stack _ _ #[ad7 (s.heap.objs.size+1)::us,[]] (ad7 (s.heap.objs.size+1)::(us++ds)) _ _ E (hr.make C us [])
  (I2.Fj.make C us []) (hb _ (ad7 (s.heap.objs.size+1)::us) I2.cv hl) r2 hq) λr s' tG=>?_))
 cases r with
 | error e=>exact hx pins G _ _ e s' I2 tG
 | ok fl =>
  cases fl with
  | ret u =>
   obtain⟨v,H',I3,rv,ev,q3⟩:=I2.after tG;subst ev;exact#[rv,#[V.ref (s.heap.objs.size+1),H',I3,Y,q3]]
  | next=>exact afI tG
  | brk=>exact afI tG
  | cont=>exact afI tG
theorem jq(M:Mk X.K C f)(F:cF X.prog X.w X.K X.mg X.base CX k f fd ps sp)(hr:bF (k+1) X.A)(hg:Gl X x)(hm:X.mg x=U (.ref C))(hb:Binds X.K fd ps ds)(hd:Vals c7 ds)(hx:Passes CX X E)(ha:PA X (e::es) t)(fW:(x == ("__debug__" : Str))=false:=by decide)(he:adX (e::es) X.env=(false,eval e X.env)::adX es X.env:=by rfl)(dP:(afi pos (adX es X.env)).any (·.1)=false:=by rfl) :
 PE X (.Call (.Name x p) (e::es) [] pos) (Fl C sp c7 E t):=by
 intro pins s G H Q I h;refine ae1 (sT I hg hm ?_ fW);refine agR (h₀:=X.base) I.ok.mod.kin M.kp (aI (ha pos pins s G H _ I h) λus s1 ⟨vs,H1,I1,r,q⟩=>#[I1.cv,?_]) he dP;exact Pb M F hr hb hd hx I1 r q
end
structure tH(N P:List Str)(sc:ajC):Prop where
 kind:sc.kind = .function
 co:sc.isCoroutine=false
 gen:sc.isGenerator=false
 nd:N.Nodup
 pre:N.take P.length=P
 par:∀ x∈P,sc.names.lookup x=U .local∨sc.names.lookup x=U .cell
 nofree:∀ y∈sc.names,y.2 ≠ .free
theorem Fo{aiv:Str->Option ajA}{x:Str}:∀ {binds:List (Str × adH)} {m:Str->Option adH},(∀ v,(x,v)∉binds)->amd aiv binds m x=m x
 | [],_,_=>rfl
 | (n,v)::r,m,h=>by
  unfold amd;rw[Fo λw hw=>h w (aer _ hw)];split
  .have:x≠n:=by rintro rfl;exact h v agd
   simp[this]
  .rfl
theorem Fp{aiv:Str->Option ajA}{x:Str}:∀ {binds:List (Str × adH)} {m:Str->Option adH},(∀ v,(x,v)∉binds)->ame aiv binds m x=m x
 | [],_,_=>rfl
 | (n,v)::r,m,h=>by
  unfold ame;rw[Fp λw hw=>h w (aer _ hw)];split
  .rfl
  .have:x≠n:=by rintro rfl;exact h v agd
   simp[this]
theorem Fs{aiv:Str->Option ajA}{x:Str}{v:adH}:∀ {P:List Str} {vs:List adH} {i:Nat} {m:Str->Option adH},P.Nodup->P[i]?=U x->vs[i]?=U v->aiv x=U .local ->
 amd aiv (P.zip vs) m x=U v
 | [],_,_,_,_,h,_,_=>by simp at h
 | _::_,[],_,_,_,_,h,_=>by simp at h
 | p::P,w::vs,0,m,nd,h1,h2,hk=>by simp at h1 h2;subst h1;subst h2;show amd aiv ((p,w)::P.zip vs) m p=_;unfold amd;rw[Fo λv hv=>(aeB.mp nd).1 (ajm hv).1,if_pos hk];simp
 | p::P,w::vs,i+1,m,nd,h1,h2,hk=>by show amd aiv ((p,w)::P.zip vs) m x=_;unfold amd;exact Fs (i:=i) (aeB.mp nd).2 (by simpa using h1) (by simpa using h2) hk
theorem Ft{aiv:Str->Option ajA}{x:Str}{v:adH}:∀ {P:List Str} {vs:List adH} {i:Nat} {m:Str->Option adH},P.Nodup->P[i]?=U x->vs[i]?=U v->aiv x≠U .local ->
 ame aiv (P.zip vs) m x=U v
 | [],_,_,_,_,h,_,_=>by simp at h
 | _::_,[],_,_,_,_,h,_=>by simp at h
 | p::P,w::vs,0,m,nd,h1,h2,hk=>by simp at h1 h2;subst h1;subst h2;show ame aiv ((p,w)::P.zip vs) m p=_;unfold ame;rw[Fp λv hv=>(aeB.mp nd).1 (ajm hv).1,if_neg hk];simp
 | p::P,w::vs,i+1,m,nd,h1,h2,hk=>by show ame aiv ((p,w)::P.zip vs) m x=_;unfold ame;exact Ft (i:=i) (aeB.mp nd).2 (by simpa using h1) (by simpa using h2) hk
noncomputable def start(N:List Str)(vs:List V):St:=vs.map U++afS (N.length-vs.length) O
noncomputable def fX(CX:fV)(P:aek)(w:aeS)(K:adz)(mg:Str->Option adH)(base:afH)(N:List Str)(qual:Str)(scope:ajC)(f:adK)(cd:adH)(A:aff)(outer:List Env)(s:adQ)(H:Hp)(E:XK):Cx where
 prog:=P
 w:=w
 K:=K
 mg:=mg
 base:=base
 A:=A.deeper (afl qual scope s.heap.objs.size f cd)
 N:=N
 s₀:=s
 H₀:=H
 env:=afl qual scope s.heap.objs.size f cd
 outer:=outer
 stack:=afl qual scope s.heap.objs.size f cd::outer
 ex:=[]
 calm:=true
 fn:=λy=>true
 pn:=[]
 xe:=λe s'=>adY (model P w) (A.deeper (afl qual scope s.heap.objs.size f cd)) (leaving (afl qual scope s.heap.objs.size f cd) e) (λy tI=>CX outer H s E e tI) (λe' tI=>CX outer H s E e' tI) s'
theorem Fu{sc:ajC}{n:Nat}{x:Str}(h:sc.names.lookup x=U .cell):∃ c,(cellsFrom n sc.names []).lookup x=U c:=by have q:=ai7 sc.names n [] (.inl h);exact agJ.mp q
theorem Pc{CX:fV}{P:aek}{w:aeS}{K:adz}{mg:Str->Option adH}{base:afH}{N ps:List Str}{qual:Str}{scope:ajC}{f:adK}{cd:adH}{A:aff}{outer:List Env}{s s1:adQ}{H:Hp}{E:XK}{us:List adH}{vs:List V}
 (S:tH N ps scope) (hd:A.handled=O) (e0:oJ P w K mg base A outer s H) (hl:vs.length=ps.length) (r:Vals vs us)
 (x:InCallC s s.heap.objs.size (amd (afl qual scope s.heap.objs.size f cd).kindOf (ps.zip us) λm=>O) (cellsFrom (s.heap.objs.size+1) scope.names []) (ame (afl qual scope s.heap.objs.size f cd).kindOf (ps.zip us) λm=>O) s1) :
 Inv (fX CX P w K mg base N qual scope f cd A outer s H E) [] (start N vs) H s1:=by
 have dP:ps.length<=N.length:=by have:=congrArg List.length S.pre;rw[afp] at this;omega
 obtain⟨h1,tk,rfl,hk⟩:=x.done;have iR:∀ b:adK,b∉(fX CX P w K mg base N qual scope f cd A outer s H E).ex:=λb z=>absurd (show b∈([]:List adK) from z) (by simp);refine#[#[e0.mod,S.kind,Y,Y,adJ _,λy z c h1 h2=>?_,λy hy=>?_,λy c m h=>?_,λm=>hd,Around.frames_deeper e0.frames,.inr #[Y,Y],λb z=>absurd z (iR b),e0.bs,e0.bsz,λb m m=>iR b,λb z=>absurd z (iR b),e0.gP,e0.frf],
  rfl,e0.bare,Un.kept hk,#[_,x.toInCall.ns,λi y v h1 h2 h3=>?_],λy c h=>#[_,x.cell y c h],e0.aA.fresh (adJ _),λy c h=>?_,λp hp=>absurd (show p∈([]:List (adK × Obj)) from hp) (by simp),e0.aA.kept hk,?_]
 .exact name_of_addr x.apart (afz h1) (afz h2)
 .have hy:scope.names.lookup y=U .cell∨scope.names.lookup y=U .free:=hy;rcases hy with hy|hy
  .exact Fu hy
  .exact absurd Y (S.nofree _ (afz hy))
 .exact ahl (x.above y c (afz h))
 .have hi:i<vs.length:=by
   unfold start at h2;by_cases hi:i<vs.length
   .exact hi
   .rw[aeK (by simpa using hi)] at h2;rw[af3] at h2;split at h2<;>cases h2
  have ha:vs[i]?=U v:=by
   unfold start at h2;rw[aeu (by simpa using hi),adR] at h2;cases e:vs[i]? with
   | none=>rw[e] at h2;cases h2
   | some a=>rw[e] at h2;cases h2;rfl
  obtain⟨u,hu,rv⟩:=r.get ha;have hp:ps[i]?=U y:=by rw[<- S.pre,aiw (by omega)];exact h1
  have Fw:ps.Nodup:=by rw[<- S.pre];exact S.nd.sublist (List.take_sublist _ _)
  refine#[u,rv,?_];rcases S.par y (ad3 hp) with k|k
  .exact .inl #[k,Fs Fw hp hu k]
  .obtain⟨c,e⟩:=Fu (n:=s.heap.objs.size+1) k;refine .inr #[.inl k,c,e,?_];have q:=x.cell y c e;rw[Ft Fw hp hu (by show scope.names.lookup y≠_;rw[k];decide)] at q;exact q
 .exact e0.aA.fresh (ahl (x.above y c (afz h)))
 .unfold start;show _=N.length;rw[adT,adA,ahn];omega
theorem Fx{CX:fV}{P:aek}{w:aeS}{K:adz}{mg:Str->Option adH}{base:afH}{k:Nat}{f:adK}{name qual:Str}{params:Arguments}{body:List aiK}{scope:ajC}{dV kV doc pm bq ct oc:adH}{an od:Option adK}
 {kS:Array (Option adH)} {N ps:List Str} {sp:Sp} (lk:K.lookup f=U #[oc,od,.func (agf name qual params body scope dV kV doc pm an bq ct),kS]) (gQ:aij K bq qual=true) (S:tH N ps scope)
 (len:∀ vs H Q E,sp vs H Q E->vs.length=ps.length)
 (iS:∀ (A:aff) (outer:List Env) (s:adQ) (H:Hp) (vs:List V) (Q:VK) (E:XK),bF k (A.deeper (afl qual scope s.heap.objs.size f bq))->sp vs H Q E ->
   ∃ t,aT (fX CX P w K mg base N qual scope f bq A outer s H E) body t/\t { nx:=λ_ H'=>Q .non H',rt:=Q } (start N vs) H) :
 cF P w K mg base CX (k+1) f (agf name qual params body scope dV kV doc pm an bq ct) ps sp:=by
 refine#[len,λA outer s H args us vs Q E hr e0 hb r nv=>?_];have hl:=len _ _ _ _ nv;have KX:K.In s.heap:=e0.mod.kin.keeps λb o e=>(e0.bs b o e).1;have lim:s.heap.NoLimit:=e0.mod.nolimit.keeps λb o e=>(e0.bs b o e).1;have Pd:∀ y∈ps.zip us,scope.names.lookup y.1=U .local∨(scope.names.lookup y.1=U .cell/\((cellsFrom (s.heap.objs.size+1) scope.names []).lookup y.1).isSome=true):=λ⟨n,v⟩ hy=>by
  rcases S.par n (ajm hy).1 with q|q
  .exact .inl q
  .exact .inr #[q,ai7 _ _ _ (.inl q)]
 refine codeAny_call_function hr.depth (KX _ _ lk) Y S.co S.gen Y (PySem.W.codeRec_of KX gQ) (hb _ _ _ _ ?_);refine wpAny_newFunctionEnv_cells S.kind Pd λenv he s1 x=>?_;subst he;refine#[lim.keeps x.toInCall.keep,codeAny_func ?_];obtain⟨t,ht,hq⟩:=iS A outer s H vs Q E (hr.deeper _) nv;have I:Inv (fX CX P w K mg base N qual scope f bq A outer s H E) [] (start N vs) H s1:=Pc S hr.hd e0 hl r x;refine aeO (ht [] s1 (start N vs) H _ I hq) (λfl s' hs=>?_) λe s' hs=>hs;have fin:∀ {σ':St} {H':Hp} {v:V} {u:adH},Inv (fX CX P w K mg base N qual scope f bq A outer s H E) [] σ' H' s'->RelV v u->Q v H'->CE outer P w H s Q u s' :=
  λ{σ' H' v u} J rv q=>#[v,H',J.os,J.bare,J.base,J.aA,rv,q]
 cases fl with
 | ret u =>
  obtain⟨v,σ',H',J,rv,q⟩:=hs;exact fin J rv q
 | next =>
  obtain⟨σ',H',J,q⟩:=hs;exact fin (v:=V.non) (u:=Value.none) J Y q
 | brk =>
  obtain⟨_,_,_,q⟩:=hs;exact afI q
 | cont =>
  obtain⟨_,_,_,q⟩:=hs;exact afI q
section
variable{X:Cx}{x:Str}{p pos:Pos}{e:ahx}{es:List ahx}{t:TA}{id T:String}{r:List V->Hp->VK->Prop}
def wz(r:List V->Hp->VK->Prop)(t:TA):TE:=λG H Q=>t G H λvs H1=>r vs H1 Q
theorem cG(hc:e9 X (.builtin id) r)(hg:Gl X x)(hm:X.mg x=O)(hv:aej x=U (.builtin id))(ha:PA X (e::es) t)(hn:x ≠ "__name__" := by decide)(fW:(x == ("__debug__" : Str))=false:=by decide)(he:adX (e::es) X.env=(false,eval e X.env)::adX es X.env:=by rfl)(dP:(afi pos (adX es X.env)).any (·.1)=false:=by rfl):PE X (.Call (.Name x p) (e::es) [] pos) (wz r t):=by intro pins s G H Q I h;refine ae1 (gy I hg hm hv ?_ hn fW);exact af1 (aI (ha pos pins s G H _ I h) λus s1 ⟨vs,H1,I1,r1,q1⟩=>hc pins s1 G H1 vs us Q I1 r1 q1) he dP
theorem wA(hc:e9 X (.type T) r)(hg:Gl X x)(hm:X.mg x=O)(hv:aej x=U (.type T))(ha:PA X (e::es) t)(hn:x ≠ "__name__" := by decide)(fW:(x == ("__debug__" : Str))=false:=by decide)(he:adX (e::es) X.env=(false,eval e X.env)::adX es X.env:=by rfl)(dP:(afi pos (adX es X.env)).any (·.1)=false:=by rfl):PE X (.Call (.Name x p) (e::es) [] pos) (wz r t):=by intro pins s G H Q I h;refine ae1 (gy I hg hm hv ?_ hn fW);exact aed (aI (ha pos pins s G H _ I h) λus s1 ⟨vs,H1,I1,r1,q1⟩=>hc pins s1 G H1 vs us Q I1 r1 q1) he dP
end
end L2
namespace HT
open PySem PyProof.Rows
noncomputable def lexLt:List Int->List Int->Bool
 | [],[]=>false
 | [],_::_=>true
 | _::_,[]=>false
 | x::xs,y::ys=>if x=y then lexLt xs ys else decide (x<y)
theorem qB(x y:Int)(xs ys:List Int):lexLt (x::xs) (y::ys)=if x=y then lexLt xs ys else decide (x<y):=rfl
section
open PySem.SeqAt
open PySem.AutoSeq1 (wpAny_loadPart')
open PySem.MeetsSeq PySem.MeetsSeq2 PySem.MeetsSeq3
end
section
noncomputable def fY(n d:Nat):Option Int->Nat
 | none=>d
 | some v=>if v<0 then (v+(n:Int)).toNat else min v.toNat n
theorem Fz(n d:Nat):fY n d O=d:=rfl
theorem wB(n d k:Nat):fY n d (U (k:Int))=min k n:=by show (if (k:Int)<0 then ((k:Int)+(n:Int)).toNat else min (k:Int).toNat n)=min k n;rw[if_neg (by omega),aep]
end
end HT
namespace L2
open PySem PySem.Spec PyProof.Rows
abbrev TO:=St->Hp->(Option Int->Hp->Prop)->Prop
def PO(X:Cx)(e:Option ahx)(t:TO):Prop :=
 ∀ (pins:List (adK × Obj)) (s:adQ) (G:St) (H:Hp) (Q:Option Int->Hp->Prop),Inv X pins G H s->t G H Q ->
  adY (model X.prog X.w) X.A (evalPart e X.env) (λu s'=>∃ o H',Inv X pins G H' s'/\IsPart u o/\Q o H') X.xe s
noncomputable def FA:TO:=λy H Q=>Q O H
noncomputable def wC(t:TE):TO:=λG H Q=>t G H λx H1=>∃ i,x = .int i/\Q (U i) H1
theorem intsAre_of:∀ {us:List adH},Vals (ns.map V.int) us->aiM us ns:=by
 induction ns with
 | nil=>intro us r;rw[af2] at r;cases r;exact .nil
 | cons n ns ih =>
  intro us r;rw[adU] at r;cases r with
  | cons r1 r2 =>
   obtain⟨t,e⟩:=r1;subst e;exact .cons n t (ih r2)
section
variable{X:Cx}{e:ahx}{te:TE}{lo hi:Option ahx}{tl th:TO}{pos p2:Pos}
theorem zW:PO X O FA:=by intro pins s G H Q I h;rw[aj5];exact adD #[O,H,I,.none,h]
theorem tJ(h:PE X e te):PO X (U e) (wC te):=by intro pins s G H Q I hw;rw[evalPart_some];refine aI (h pins s G H _ I hw) λu s1 zq=>?_;obtain⟨x,H1,I1,r1,q1⟩:=zq;obtain⟨i,rfl,q⟩:=q1;obtain⟨t,rfl⟩:=r1;exact#[U i,H1,I1,.int i t,q]
def zX(X:Cx)(r:V->Option Int->Option Int->Hp->VK->Prop):Prop :=
 ∀ (pins:List (adK × Obj)) (s:adQ) (G:St) (H:Hp) (x:V) (v vl vu:adH) (lo hi:Option Int) (sl:adK) (Q:VK),Inv X pins G H s->RelV x v->s.heap.IsSliceOf sl vl vu .none->IsPart vl lo->IsPart vu hi->r x lo hi H Q ->
  ∃ T id,ajB (.type T) "__getitem__" = pure (U (.builtin id))/\s.TypeIs v T/\adY (model X.prog X.w) X.A (akY v (.ref sl)) (EP X pins G Q) X.xe s
def zY(r:V->Option Int->Option Int->Hp->VK->Prop)(te:TE)(tl th:TO):TE:=λG H Q=>te G H λx H1=>tl G H1 λl H2=>th G H2 λu H3=>r x l u H3 Q
theorem wD{r:V->Option Int->Option Int->Hp->VK->Prop}(hr:zX X r)(he:PE X e te)(hl:PO X lo tl)(hu:PO X hi th):PE X (.Subscript e (.Slice lo hi O p2) pos) (zY r te tl th):=by intro pins s G H Q I h;refine akn (aI (he pins s G H _ I h) λv s1 zq=>?_);obtain⟨x,H1,I1,r1,q1⟩:=zq;refine wpAny_Slice (aI (hl pins s1 G H1 _ I1 q1) λvl s2 ⟨l,H2,I2,pl,q2⟩=>aI (hu pins s2 G H2 _ I2 q2) λvu s3 zq=>?_);obtain⟨u,H3,I3,pu,q3⟩:=zq;rw[aj5];refine adD ?_;have I4:Inv X pins G H3 { s3 with heap:=s3.heap.push { cls:=.type "slice",data:=.fields (List.toArray [vl,vu,.none]) } }:=I3.kept (t':=s3.toks) λb ob q=>adE _ q;obtain⟨T,id,hT,ht,hg⟩:=hr pins { s3 with heap:=s3.heap.push { cls:=.type "slice",data:=.fields (List.toArray [vl,vu,.none]) } } G H3 x v vl vu l u s3.heap.objs.size Q I4 r1 (Heap.IsSliceOf.new ..) pl pu q3;show adY (model X.prog X.w) X.A (aiN e (.Slice lo hi O p2) v (.ref s3.heap.objs.size)) (EP X pins G Q) X.xe { s3 with heap:=s3.heap.push { cls:=.type "slice",data:=.fields (List.toArray [vl,vu,.none]) } };exact tail_any (ops:=[.ref s3.heap.objs.size,v]) ht hT hg (by with_unfolding_all rfl)
noncomputable def jr(xs:List V)(lo hi:Option Int):List V:=(xs.drop (HT.fY xs.length 0 lo)).take (HT.fY xs.length xs.length hi-HT.fY xs.length 0 lo)
theorem Pe(xs:List V)(lo hi:Option Int):(jr xs lo hi).length<=xs.length:=by unfold jr;rw[afp,af8];omega
end
noncomputable def jZ(n:Nat)(i:Int):Option Nat:=if 0<=i then (if i<n then U i.toNat else O) else if -(n:Int)<=i then U (i+n).toNat else O
noncomputable def dw{α:Type}(xs:List α)(i:Int):Option α:=(jZ xs.length i).bind λj=>xs[j]?
theorem FC(h:jZ n i=U j):seqIndex? i n=U j/\j<n/\-(n:Int)<=i/\i<n:=by
 unfold jZ at h;by_cases h0:0<=i
 .rw[if_pos h0] at h;by_cases h1:i<n
  .rw[if_pos h1] at h;have e:i.toNat=j:=Option.some.inj h;exact#[by rw[akZ h0 h1,e],by omega,by omega,h1]
  .rw[if_neg h1] at h;cases h
 .rw[if_neg h0] at h;by_cases h1 : -(n:Int)<=i
  .rw[if_pos h1] at h;have e:(i+n).toNat=j:=Option.some.inj h;exact#[by rw[akC (by omega) h1,e],by omega,h1,by omega]
  .rw[if_neg h1] at h;cases h
theorem zZ(h:dw xs i=U v):∃ j,seqIndex? i xs.length=U j/\xs[j]?=U v/\j<xs.length/\-(xs.length:Int)<=i/\i<xs.length:=by
 unfold dw at h;cases e:jZ xs.length i with
 | none=>rw[e] at h;cases h
 | some j =>
  rw[e] at h;obtain⟨h1,h2,h3,h4⟩:=FC e;exact#[j,h1,h,h2,h3,h4]
theorem dQ{α:Type}{xs:List α}{j:Nat}{v:α}(h:xs[j]?=U v):dw xs (j:Int)=U v:=by
 have hj:j<xs.length:=(adI.mp h).1;have e:jZ xs.length (j:Int)=U j:=by unfold jZ;rw[if_pos (by omega),if_pos (by omega)];simp
 unfold dw;rw[e];exact h
theorem z5(xs:List α)(v:α):dw (xs++[v]) (-1)=U v:=by
 have hl:(xs++[v]).length=xs.length+1:=by simp
 have e:jZ (xs++[v]).length (-1)=U xs.length:=by
  unfold jZ;rw[hl,if_neg (by decide),if_pos (by omega)]
  congr 1
  omega
 unfold dw;rw[e];show (xs++[v])[xs.length]?=U v;simp
def z6(b:ahx):Prop:=∀ o i,subscripted b false o i=operate [o,i] (akY o i)
def kT(X:Cx)(r:R2):Prop :=
 ∀ (value slice:ahx) (pins:List (adK × Obj)) (s:adQ) (G:St) (H:Hp) (x y:V) (v u:adH) (Q:VK),Inv X pins G H s->RelV x v->RelV y u->r x y H Q ->
  subscripted slice false v u=operate [v,u] (akY v u)->adY (model X.prog X.w) X.A (aiN value slice v u) (EP X pins G Q) X.xe s
def FD(X:Cx)(id:String)(r:V->List V->Hp->VK->Prop):Prop :=
 ∀ (pins:List (adK × Obj)) (s:adQ) (G:St) (H:Hp) (x:V) (xs:List V) (v:adH) (us:List adH) (Q:VK),Inv X pins G H s->RelV x v->Vals xs us->r x xs H Q ->
  adY (model X.prog X.w) X.A (call (.builtin id) (v::us)) (EP X pins G Q) X.xe s
section
variable{X:Cx}{a b:ahx}{ta tb:TE}{pos:Pos}
theorem kT.or(h:kT X r)(h':kT X r'):kT X (λx y H Q=>r x y H Q∨r' x y H Q):=by
 intro value slice pins s G H x y v u Q I rx ry q hs;rcases q with q|q
 .exact h value slice pins s G H x y v u Q I rx ry q hs
 .exact h' value slice pins s G H x y v u Q I rx ry q hs
theorem bM(hr:kT X r)(ha:PE X a ta)(hb:PE X b tb)(hs:z6 b):PE X (.Subscript a b pos) (jn r ta tb):=by intro pins s G H Q I h;exact akn (zP ha hb I h λv u s2 x y H2 I2 rx ry q=>hr a b pins s2 G H2 x y v u Q I2 rx ry q (hs _ _))
def FE(K:adz):R2:=λx y H Q=>∃ p xs i v,x = .ref p/\y = .int i/\aj K H p xs/\dw xs i=U v/\Q v H
def FF(K:adz):R2:=λx y H Q=>∃ p xs i v,x = .ref p/\y = .int i/\ak K H p xs/\dw xs i=U v/\Q v H
def FG:R2:=λx y H Q=>∃ z i c,x = .str z/\y = .int i/\z.length<=ad1/\dw z.cps.toList i=U c/\Q (.str #[(List.toArray [c])]) H
theorem Pf:kT X (FE X.K):=by
 intro value slice pins s G H x y v u Q I rx ry h hs;obtain⟨p,xs,i,z,rfl,rfl,hq,he,q⟩:=h;cases rx;obtain⟨t,rfl⟩:=ry;obtain⟨ax,r,pl,hz⟩:=I.list hq;obtain⟨j,h1,h2,h3,h4,h5⟩:=zZ he;obtain⟨w,ew,j4⟩:=r.get h2;have hl:=r.length;have hn:=tD;have fin:EP X pins G Q w s:=#[z,H,I,j4,q]
 by_cases h0:0<=i
 .have hj:i.toNat=j:=by rw[akZ h0 h5] at h1;exact Option.some.inj h1
  exact item_listR pl.isList h0 (by omega) (by rw[hj];simpa using ew) fin hs
 .have hj:(i+(ax.toArray.size:Int)).toNat=j:=by rw[akC (by omega) h4] at h1;rw[adS,<- hl];exact Option.some.inj h1
  exact ai8 (x:=w) pl.isList.typeIs slot_list_getitem.lookup
   (wpAny_getItem_list_neg (Q:=λr s'=>r=w/\EP X pins G Q r s') pl.isList (by omega) (by rw[adS]<;>omega) (by omega) (by rw[hj];simpa using ew) #[Y,fin]) hs
theorem Pg:kT X (FF X.K):=by
 intro value slice pins s G H x y v u Q I rx ry h hs;obtain⟨p,xs,i,z,rfl,rfl,hq,he,q⟩:=h;cases rx;obtain⟨t,rfl⟩:=ry;obtain⟨ax,r,pl,hz⟩:=I.tuple hq;obtain⟨j,h1,h2,h3,h4,h5⟩:=zZ he;obtain⟨w,ew,j4⟩:=r.get h2;have hl:=r.length;have hn:=tD;have fin:EP X pins G Q w s:=#[z,H,I,j4,q]
 exact ai8 (x:=w) pl.typeIs slot_tuple_getitem.lookup
  (getItem_tuple (j:=j) (Q:=λr s'=>r=w/\EP X pins G Q r s') pl (by omega) (by omega) (by rw[adS,<- hl];exact h1) (by simpa using ew) #[Y,fin]) hs
theorem Ph:kT X FG:=by
 intro value slice pins s G H x y v u Q I rx ry h hs;obtain⟨z,i,c,rfl,rfl,hz,he,q⟩:=h;obtain⟨t,rfl⟩:=rx;obtain⟨t',rfl⟩:=ry;obtain⟨j,h1,h2,h3,h4,h5⟩:=zZ he;have hl:z.cps.toList.length=z.length:=by simp[Str.length]
 rw[hl] at h1 h4 h5;have hn:=tD;exact tail_any (typeIs_str s z t) slot_str_getitem.lookup (getItem_str (c:=c) (by
  have e1:decide (i < -(2 ^ 63:Int))=false:=decide_eq_false (by omega);have e2:decide (i ≥ 2 ^ 63)=false:=decide_eq_false (by omega);rw[e1,e2,ahH]) (by rw[h1];simpa using h2) #[.str #[(List.toArray [c])],H,I.tok _,#[_,Y],q]) hs
def iq(K:adz):R2:=λx y H Q=>FE K x y H Q∨FF K x y H Q∨FG x y H Q
theorem bN:kT X (iq X.K):=Pf.or (Pg.or Ph)
theorem Pj(ax:List adH)(n j:Nat)(u:adH):aeZ (·.setIfInBounds j u) { cls:=.type "list",data:=.seq ax.toArray n } = { cls:=.type "list",data:=.seq (ax.set j u).toArray n }:=by simp[aeZ]
theorem Inv.lst(I:Inv X pins G H s)(h:H p=U (.lst xs)) :
 ∃ (ax:List adH) (n:Nat),Vals xs ax/\s.heap.get? p=U { cls:=.type "list",data:=.seq ax.toArray n }/\xs.length<=ad1:=by
 obtain⟨z,ax,n,r,e⟩:=I.aA p _ h;exact#[ax,n,r,e,z]
theorem Inv.Pk{pins:List (adK × Obj)}{G:St}{H:Hp}{s:adQ}{p:adK}{xs ys:List V}{ax its':List adH}{n n':Nat}{f:Obj->Obj}(I:Inv X pins G H s)(h:H p=U (.lst xs))
 (ho:s.heap.get? p=U { cls:=.type "list",data:=.seq ax.toArray n }) (hf:f { cls:=.type "list",data:=.seq ax.toArray n } = { cls:=.type "list",data:=.seq its'.toArray n' }) (r:Vals ys its') (hz:ys.length<=ad1) (t:Nat) :
 Inv X pins G (upd H p (.lst ys)) { s with heap:=s.heap.update p f,toks:=t }:=by
 have e:(s.heap.update p f).get? p=U { cls:=.type "list",data:=.seq its'.toArray n' }:=by rw[aef f ho (by rw[hf]<;>rfl),hf]
 refine I.write (x:=p) (e:=p) (by rw[h];trivial) (.inl rfl) (λb u hb q=>(adZ _ _ (aey hb)).trans q) #[_,e] ?_;exact#[hz,its',n',r,e]
def FH:V->V->V->Hp->(Hp->Prop)->Prop:=λo i v H Q=>∃ p xs k j,o = .ref p/\i = .int k/\H p=U (.lst xs)/\jZ xs.length k=U j/\Q (upd H p (.lst (xs.set j v)))
theorem set_list:EV X FH:=by
 intro pins s G H o i v ov iv u Q I ro ri rv h;obtain⟨p,xs,k,j,rfl,rfl,hp,hj,q⟩:=h;cases ro;obtain⟨t,rfl⟩:=ri;obtain⟨ax,n,r,ho,hz⟩:=I.lst hp;obtain⟨h1,h2,h3,h4⟩:=FC hj;have hl:=r.length;have hn:=tD;have I':Inv X pins G (upd H p (.lst (xs.set j v))) { s with heap:=s.heap.update p (aeZ (·.setIfInBounds j u)) } :=
  I.Pk hp ho (Pj ax n j u) (r.set rv j) (by rw[ajn];exact hz) s.toks
 by_cases h0:0<=k
 .have hk:k.toNat=j:=by rw[akZ h0 h4] at h1;exact Option.some.inj h1
  exact PySem.W.ki_setAt ho h0 (by omega) (by rw[adS,<- hl];exact h4) (by rw[hk];exact#[_,I',q])
 .have hk:(k+(ax.toArray.size:Int)).toNat=j:=by rw[akC (by omega) h3] at h1;rw[adS,<- hl];exact Option.some.inj h1
  exact PySem.W.ki_setBack ho (by omega) (by rw[adS,<- hl];exact h3) (by omega) (by rw[hk];exact#[_,I',q])
theorem Pl(lo hi:Option Int)(n:Nat):(agG lo hi O n).1=((HT.fY n 0 lo:Nat):Int)/\(agG lo hi O n).2.1=((HT.fY n n hi:Nat):Int)/\(agG lo hi O n).2.2=1:=by
 refine#[?_,?_,Y]
 .cases lo with
  | none=>simp[agG,HT.fY]
  | some i =>
   simp only[agG,HT.fY,Option.getD_none,show (1:Int) > 0 by decide,if_true];by_cases h:i<0
   .simp only[h,if_true]<;>omega
   .simp only[h,if_false]<;>omega
 .cases hi with
  | none=>simp[agG,HT.fY]
  | some i =>
   simp only[agG,HT.fY,Option.getD_none,show (1:Int) > 0 by decide,if_true];by_cases h:i<0
   .simp only[h,if_true]<;>omega
   .simp only[h,if_false]<;>omega
theorem Pm(ax:List adH)(lo hi:Option Int):ak0 ax.toArray lo hi O=((ax.drop (HT.fY ax.length 0 lo)).take (HT.fY ax.length ax.length hi-HT.fY ax.length 0 lo)).toArray:=by obtain⟨h1,h2,h3⟩:=Pl lo hi ax.toArray.size;unfold ak0;rw[h1,h2,h3];simp only[sliceRange_one,pick_run,adS]<;>rfl
def wF(K:adz):V->Option Int->Option Int->Hp->VK->Prop:=λx lo hi H Q=>∃ a xs,x = .ref a/\aj K H a xs/\∀ p,H p=O->Q (.ref p) (upd H p (.lst (jr xs lo hi)))
theorem z7:zX X (wF X.K):=by intro pins s G H x v vl vu lo hi sl Q I rx hs pl pu h;obtain⟨a,xs,rfl,hx,q⟩:=h;cases rx;obtain⟨ax,r,ht,hz⟩:=I.list hx;have hlen:=r.length;refine#["list",_,slot_list_getitem.lookup,ht.isList.typeIs,?_];refine aix ht.isList hs pl pu .none (by simp) ?_ (by rw[adS]<;>omega);rw[Pm,<- hlen];refine#[.ref s.heap.objs.size,_,I.laid (t':=s.toks) (o:=.lst (jr xs lo hi)) (λb ob q=>adE _ q) (adJ _) ?_,Y,q _ (I.aA.fresh (adJ _))];exact#[adG (Pe xs lo hi) hz,_,0,(r.drop (HT.fY xs.length 0 lo)).take (HT.fY xs.length xs.length hi-HT.fY xs.length 0 lo),adN _ Y]
noncomputable def lZ:V->Bool
 | .non=>true
 | .bl _=>true
 | .int _=>true
 | .str _=>true
 | _=>false
noncomputable def ny:V->V->Bool
 | .non,.non=>true
 | .bl a,.bl b=>a == b
 | .bl a,.int b=>(if a then 1 else 0) == b
 | .int a,.bl b=>a == (if b then 1 else 0)
 | .int a,.int b=>a == b
 | .str a,.str b=>a == b
 | _,_=>false
theorem Pn(ry:RelV y u)(rx:RelV x v)(fy:lZ y=true)(fx:lZ x=true):SeqAt.EqAt A s u v (ny y x):=by
 cases y with
 | non =>
  cases ry;cases x with
  | non=>cases rx;exact SeqAt.EqAt.same _
  | bl b=>cases rx;exact SeqAt.EqAt.none_bool b
  | int b=>obtain⟨t,rfl⟩:=rx;exact SeqAt.EqAt.none_int b t
  | str b=>obtain⟨t,rfl⟩:=rx;exact SeqAt.EqAt.none_str b t
  | _=>exact absurd (show false=true from fx) ad2
 | bl a =>
  cases ry;cases x with
  | non=>cases rx;exact SeqAt.EqAt.bool_none a
  | bl b=>cases rx;exact SeqAt.EqAt.bool_bool a b
  | int b=>obtain⟨t,rfl⟩:=rx;exact SeqAt.EqAt.bool_int a b t
  | str b=>obtain⟨t,rfl⟩:=rx;exact SeqAt.EqAt.bool_str a b t
  | _=>exact absurd (show false=true from fx) ad2
 | int a =>
  obtain⟨t',rfl⟩:=ry;cases x with
  | non=>cases rx;exact SeqAt.EqAt.int_none a t'
  | bl b=>cases rx;exact SeqAt.EqAt.int_bool a t' b
  | int b=>obtain⟨t,rfl⟩:=rx;exact SeqAt.EqAt.int_int a t' b t
  | str b=>obtain⟨t,rfl⟩:=rx;exact SeqAt.EqAt.int_str a t' b t
  | _=>exact absurd (show false=true from fx) ad2
 | str a =>
  obtain⟨t',rfl⟩:=ry;cases x with
  | non=>cases rx;exact SeqAt.EqAt.str_none a t'
  | bl b=>cases rx;exact SeqAt.EqAt.str_bool a t' b
  | int b=>obtain⟨t,rfl⟩:=rx;exact SeqAt.EqAt.str_int a t' b t
  | str b=>obtain⟨t,rfl⟩:=rx;exact SeqAt.EqAt.str_str a t' b t
  | _=>exact absurd (show false=true from fx) ad2
 | _=>exact absurd (show false=true from fy) ad2
noncomputable def gR(x:V)(u:adH):Bool:=match u with
 | .none=>ny .non x
 | .bool b=>ny (.bl b) x
 | .int i _=>ny (.int i) x
 | .str z _=>ny (.str z) x
 | _=>false
theorem FI(r:RelV y u)(f:lZ y=true):gR x u=ny y x:=by
 cases y with
 | non=>cases r;rfl
 | bl b=>cases r;rfl
 | int i=>obtain⟨t,rfl⟩:=r;rfl
 | str z=>obtain⟨t,rfl⟩:=r;rfl
 | _=>exact absurd (show false=true from f) ad2
theorem wG:∀ {xs:List V} {us:List adH},Vals xs us->xs.all lZ=true->us.any (gR x)=xs.any λy=>ny y x:=by
 intro z z h f
 induction h with
 | nil=>rfl
 | cons r t ih =>
  rw[afL,aew] at f;rw[aeC,aeC,FI r f.1,ih f.2]
theorem tK(rx:RelV x v)(fx:lZ x=true):∀ {xs:List V} {us:List adH},Vals xs us->xs.all lZ=true->∀ u∈us,SeqAt.EqAt A s u v (gR x u)
 | _,_,.nil,_=>λu hu=>by cases hu
 | y::xs,u::us,.cons r t,f=>λu' hu=>by
  rw[afL,aew] at f;rcases adL.mp hu with rfl|hu
  .rw[FI r f.1];exact Pn r rx f.1 fx
  .exact tK rx fx t f.2 u' hu
noncomputable def wH(x:V)(xs:List V):Bool:=xs.any λy=>ny y x
def z8(K:adz)(neg:Bool):R2:=λx y H Q=>∃ p xs,y = .ref p/\(aj K H p xs∨ak K H p xs)/\lZ x=true/\xs.all lZ=true/\Q (.bl (if neg then !wH x xs else wH x xs)) H
theorem Po:bE X (aeL .In) (z8 X.K false):=by
 intro pins s G H x y v u Q I rx ry h;obtain⟨p,xs,rfl,hq,fx,fs,q⟩:=h;cases ry;rcases hq with hq|hq
 .obtain⟨ax,r,pl,hz⟩:=I.list hq;refine SeqAt.in_listAt (gR x) pl.isList (λw hw=>tK rx fx r fs w (by simpa using hw)) #[.bl _,H,I,Y,?_];rw[show ax.toArray.any (gR x)=ax.any (gR x) by simp,wG r fs];exact q
 .obtain⟨ax,r,pl,hz⟩:=I.tuple hq;refine SeqAt.in_tupleAt (gR x) pl (λw hw=>tK rx fx r fs w (by simpa using hw)) #[.bl _,H,I,Y,?_];rw[show ax.toArray.any (gR x)=ax.any (gR x) by simp,wG r fs];exact q
theorem Pq:bE X (aeL .NotIn) (z8 X.K true):=by
 intro pins s G H x y v u Q I rx ry h;obtain⟨p,xs,rfl,hq,fx,fs,q⟩:=h;cases ry;rcases hq with hq|hq
 .obtain⟨ax,r,pl,hz⟩:=I.list hq;refine SeqAt.notIn_listAt (gR x) pl.isList (λw hw=>tK rx fx r fs w (by simpa using hw)) #[.bl _,H,I,Y,?_];rw[show ax.toArray.any (gR x)=ax.any (gR x) by simp,wG r fs];exact q
 .obtain⟨ax,r,pl,hz⟩:=I.tuple hq;refine SeqAt.notIn_tupleAt (gR x) pl (λw hw=>tK rx fx r fs w (by simpa using hw)) #[.bl _,H,I,Y,?_];rw[show ax.toArray.any (gR x)=ax.any (gR x) by simp,wG r fs];exact q
theorem FK:e9 X (.type "list") (λxs H Q=>∃ p ys,xs=[.ref p]/\(aj X.K H p ys∨ak X.K H p ys)/\∀ l,H l=O->Q (.ref l) (upd H l (.lst ys))):=by
 intro pins s G H xs us Q I r h;obtain⟨p,ys,rfl,hq,q⟩:=h;obtain⟨u,rfl,rx⟩:=vals1 r;cases rx;have fin:∀ (ax:List adH),Vals ys ax->ys.length<=ad1->∀ (h':afH) (c':Nat),(∀ b o',s.heap.get? b=U o'->h'.get? b=U o') ->
  h'.get? s.heap.objs.size=U { cls:=.type "list",dict:=O,data:=.seq ax.toArray c',slots:=(List.toArray []) }->EP X pins G Q (.ref s.heap.objs.size) { s with heap:=h' }:=λax r' hz h' c' kp e =>
  #[.ref s.heap.objs.size,_,I.laid (t':=s.toks) kp (adJ _) (show bW X.prog X.w _ h' _ (.lst ys) from #[hz,ax,c',r',e]),Y,q _ (I.aA.fresh (adJ _))]
 rcases hq with hq|hq
 .obtain⟨ax,r',pl,hz⟩:=I.list hq;have hlen:=r'.length;obtain⟨o,ho,hc,n,hd⟩:=pl.isList;exact call_list_seq p (.inl rfl) ho hc hd (λh' c' kp e=>fin ax r' hz h' c' kp e) (by simp only[adS]<;>omega)
 .obtain⟨ax,r',pl,hz⟩:=I.tuple hq;have hlen:=r'.length;obtain⟨o,ho,hc,n,hd⟩:=pl;exact call_list_seq p (.inr rfl) ho hc hd (λh' c' kp e=>fin ax r' hz h' c' kp e) (by simp only[adS]<;>omega)
def z9(K:adz)(T:String)(x:V)(H:Hp):Prop:=match x with
 | .str _=>T = "str"
 | .int _=>T = "int"
 | .ref p=>(T = "list" /\ ∃ xs,aj K H p xs)∨(T = "tuple" /\ ∃ o,K.lookup p=U o/\o.cls = .type "tuple" /\ o.dict=O) ∨
  (T = "dict" /\ ((∃ kvs,H p=U (.dK kvs)) ∨ ∃ kvs,H p=U (.dT kvs)))∨(T = "set" /\ ∃ S n,H p=U (.set S n))
 | _=>False
theorem Pr(I:Inv X pins G H s)(r:RelV x v)(ty:z9 X.K T x H) :
 s.TypeIs v T/\∀ a,v = .ref a->∃ ob,s.heap.get? a=U ob/\ob.dict=O:=by
 cases x with
 | str z =>
  obtain⟨t,rfl⟩:=r;cases (show T = "str" from ty);exact#[typeIs_str s z t,λy e=>nomatch e]
 | int i =>
  obtain⟨t,rfl⟩:=r;cases (show T = "int" from ty);exact#[aly s i t,λy e=>nomatch e]
 | ref p =>
  cases r;rcases ty with ⟨rfl,xs,hq⟩|⟨rfl,o,hk,hc,hd⟩|⟨rfl,hk⟩|⟨rfl,S,n,hk⟩
  .obtain⟨ax,y,pl,y⟩:=I.list hq;refine#[pl.isList.typeIs,λa e=>?_];cases e;obtain⟨o,n,e,c,hd,y⟩:=pl;exact#[o,e,hd]
  .refine#[#[o,I.cv p o hk,hc],λa e=>?_];cases e;exact#[o,I.cv _ o hk,hd]
  .have z:∃ o,s.heap.get? p=U o/\o.ExactDict:=by
    rcases hk with ⟨kvs,hk⟩|⟨kvs,hk⟩
    .obtain⟨y,y,y,y,o,y,y,e,ex,y⟩:=I.aA p _ hk;exact#[o,e,ex]
    .obtain⟨y,y,y,y,o,y,y,e,ex,y⟩:=I.aA p _ hk;exact#[o,e,ex]
   obtain⟨o,e,ex⟩:=z;refine#[#[o,e,ex.1],λa e2=>?_];cases e2;exact#[o,e,ex.2.1]
  .obtain⟨o,y,y,y,e,ex,y⟩:=I.aA p _ hk;refine#[#[o,e,ex.1],λa e2=>?_];cases e2;exact#[o,e,ex.2.1]
 | _=>exact afI ty
def Pt(K:adz)(T:String)(r:V->List V->Hp->VK->Prop)(to:TE):TE:=λG H Q=>to G H λx H1=>z9 K T x H1/\r x [] H1 Q
def FL(K:adz)(T:String)(r:V->List V->Hp->VK->Prop)(to:TE)(t:TA):TE:=λG H Q=>to G H λx H1=>z9 K T x H1/\t G H1 λxs H2=>r x xs H2 Q
variable{o e:ahx}{es:List ahx}{to:TE}{t:TA}{name:Str}{apos dG:Pos}{T id:String}{r:V->List V->Hp->VK->Prop}
theorem kU(pa:PlainAttrs T)(slot:Slot T name id)(Pu:alY (.builtin id)=pure (.type "method_descriptor"))(hm:FD X id r)(ho:PE X o to)(ha:PA X (e::es) t)(Pw:agQ o name X.env (eval o X.env)=eval o X.env:=by rfl)(Px:((afi dG (adX (e::es) X.env)).all (λx=>!x.1) && (aiL dG (agF [] X.env)).all (λx=>x.1.isSome)
 && decide ((e::es).length+([]:List ak1).length+(if ([]:List ak1).isEmpty then 0 else 1)<30))=true:=by rfl) (Py:(apos.endLine == dG.line)=true:=by rfl) (hs:adX (e::es) X.env=(false,eval e X.env)::adX es X.env:=by rfl) (Pz:(afi dG (adX es X.env)).any (·.1)=false:=by rfl) :
 PE X (.Call (.Attribute o name apos) (e::es) [] dG) (FL X.K T r to t):=by
 intro pins s G H Q I h;refine wpAny_Call_method_late Pw Px Py Y (aI (ho pins s G H _ I h) λv s1 zq=>?_);obtain⟨x,H1,I1,r1,ty,q1⟩:=zq;obtain⟨h1,h2⟩:=Pr I1 r1 ty;refine#[T,id,pa,slot,Pu,h1,h2,?_];have hA:=ha dG pins s1 G H1 _ I1 q1;rw[hs] at hA ⊢;refine ai9 (by show (false || (afi dG (adX es X.env)).any (·.1))=false;rw[Pz]<;>rfl) (ahG ?_);exact aI hA λus s2 ⟨vs,H2,I2,r2,q2⟩=>hm pins s2 G H2 x vs v us Q I2 r1 r2 q2
end
def FN(X:Cx)(id:String)(r:V->List V->Hp->VK->Prop):Prop :=
 ∀ (pins:List (adK × Obj)) (s:adQ) (G:St) (H:Hp) (x:V) (xs:List V) (v:adH) (us:List adH) (Q:VK),Inv X pins G H s->RelV x v->Vals xs us->r x xs H Q ->
  adY (model X.prog X.w) X.A (call (.builtin id) (v::us)) (EP X pins G Q) X.xe s
theorem Vals.one:∀ {x:V} {us:List adH},Vals [x] us->∃ u,us=[u]/\RelV x u:=by
 intro x us h;cases h with
 | cons r t=>cases t;exact#[_,Y,r]
theorem Vals.reverse(h:Vals xs us):Vals xs.reverse us.reverse:=by
 induction h with
 | nil=>exact .nil
 | cons r t ih=>rw[aha,aha];exact Vals.append ih (.cons r .nil)
section
theorem Inv.FO{ax its':List adH}{n:Nat}{f:Array adH->Array adH}{t':Nat}(I:Inv X pins G H s)(hH:H l=U (.lst xs))
 (e:s.heap.get? l=U { cls:=.type "list",data:=.seq ax.toArray n }) (hf:f ax.toArray=its'.toArray) (hv:Vals ys its') (hz:ys.length<=ad1) :
 Inv X pins G (upd H l (.lst ys)) { s with heap:=s.heap.update l (aeZ f),toks:=t' }:=by
 have q:=PySem.IsL.update e f;rw[hf] at q;refine I.write (x:=l) (e:=l) (by rw[hH];exact trivial) (.inl rfl) (λb' u hb hu=>(adZ s.heap (aeZ f) (aey hb)).trans hu) #[_,q] ?_;exact#[hz,its',_,hv,q]
theorem Inv.PB(I:Inv X pins G H s)(hv:Vals ys ax)(hz:ys.length<=ad1) :
 Inv X pins G (upd H s.heap.objs.size (.lst ys)) { s with heap:=s.heap.push { cls:=.type "list",data:=.seq ax.toArray },toks:=t' } :=
 I.laid (λy y q=>adE _ q) (adJ _) #[hz,ax,0,hv,adN _ Y]
theorem Inv.fresh(I:Inv X pins G H s):H s.heap.objs.size=O:=I.aA.fresh (adJ _)
theorem Inv.tL(I:Inv X pins G H s)(hH:H l=U (.lst xs)):xs.length<=ad1/\∃ (ax:List adH) (n:Nat),Vals xs ax/\xs.length=ax.length/\s.heap.get? l=U { cls:=.type "list",data:=.seq ax.toArray n }:=by obtain⟨z,ax,n,r,e⟩:=I.aA l _ hH;exact#[z,ax,n,r,r.length,e]
theorem PD(h:n<=ad1):agK n=false:=by unfold agK;exact decide_eq_false (by omega)
def FP:V->List V->Hp->VK->Prop:=λx vs H Q=>∃ l xs y,x = .ref l/\vs=[y]/\H l=U (.lst xs)/\xs.length<ad1/\Q .non (upd H l (.lst (xs++[y])))
theorem tM:FN X "list.append" FP:=by intro pins s G H x vs v us Q I rx rv h;obtain⟨l,xs,y,rfl,rfl,hH,hz,q⟩:=h;cases rx;obtain⟨u,rfl,ru⟩:=rv.one;obtain⟨z,ax,n,r,hl,e⟩:=I.tL hH;refine ako aj6 #[_,e,Y] ajS (ajD _ _) (akp l ax.toArray n u (by rw[adS];omega)) #[e,?_];refine#[.non,_,I.FO (its':=ax++[u]) hH e (by simp) (r.append (.cons ru .nil)) ?_,Y,q];rw[adT,aea];omega
def PF:V->List V->Hp->VK->Prop:=λx vs H Q=>∃ l b xs zs,x = .ref l/\vs=[.ref b]/\H l=U (.lst xs)/\H b=U (.lst zs)/\xs.length+zs.length<=ad1/\Q .non (upd H l (.lst (xs++zs)))
theorem Aa:FN X "list.extend" PF:=by
 intro pins s G H x vs v us Q I rx rv h;obtain⟨l,b,xs,zs,rfl,rfl,hH,hB,hz,q⟩:=h;cases rx;obtain⟨u,rfl,ru⟩:=rv.one;cases ru;obtain⟨z,ax,n,r,hl,e⟩:=I.tL hH;obtain⟨z2,oK,n2,r2,bb,e2⟩:=I.tL hB;have hsz:ax.toArray.size+oK.toArray.size<=ad1:=by rw[adS,adS];omega
 have PH:¬ (!ax.toArray.isEmpty && agK (ax.toArray.size+oK.toArray.size))=true:=by rw[PD hsz,ajK];exact ad2
 refine ako F.slot_list_extend #[_,e,Y] F.entry_list_extend (F.args_list_extend_2 _ _)
  (AutoSeq1.list_extend_list_list_0 l ax.toArray n b oK.toArray n2 PH (by rw[adS];omega) (by omega)) #[e,e2,?_]
 refine#[.non,_,I.FO (its':=ax++oK) hH e (by simp) (r.append r2) ?_,Y,q];rw[adT];omega
def PJ:V->List V->Hp->VK->Prop:=λx vs H Q=>∃ l xs,x = .ref l/\vs=[]/\H l=U (.lst xs)/\Q .non (upd H l (.lst xs.reverse))
def FQ:R2:=λx y H Q=>∃ l b xs zs,x = .ref l/\y = .ref b/\H l=U (.lst xs)/\H b=U (.lst zs)/\xs.length+zs.length<=ad1/\∀ p,H p=O->Q (.ref p) (upd H p (.lst (xs++zs)))
theorem j5:bE X (agC .Add) FQ:=by
 intro pins s G H x y v u Q I rx ry h;obtain⟨l,b,xs,zs,rfl,rfl,hH,hB,hz,q⟩:=h;cases rx;cases ry;obtain⟨z,ax,n,r,hl,e⟩:=I.tL hH;obtain⟨z2,oK,n2,r2,bb,e2⟩:=I.tL hB;refine PySem.P.add_list e e2 ?_ (by rw[adS,adS];omega);have ea:ax.toArray++oK.toArray=(ax++oK).toArray:=by simp
 rw[ea];exact#[.ref _,_,I.PB (t':=s.toks) (r.append r2) (by rw[adT];omega),Y,q _ I.fresh]
end
section
set_option maxRecDepth 100000 in
end
section
end
end L2
namespace Ab
open PySem PySem.W PySem.Calls PyProof.Rows
theorem PK:∀ (ns:List Int) (vs:List adH),WellAll P h vs (ns.map WData.int)->aiM vs ns:=by
 intro ns
 induction ns with
 | nil =>
  intro vs w;rw[af2] at w;cases w;exact .nil
 | cons n ns ih =>
  intro vs w;rw[adU] at w;cases w with
  | cons a b =>
   cases a;exact .cons _ _ (ih _ b)
theorem PL{l:OpenLaw}{n:Nat}(hn:l.most=U n){P:Params}{h:afH}{args:List WData}{vals:List adH}
 (FR:l.row.toRowW.claim.pre args=true) (PM:WellAll P h vals args) :
 ∃ a vs ns,vals=[ad7 a]/\args=[WData.list (ns.map WData.int)]/\h.get? a=U { cls:=.type "list",data:=.seq vs.toArray }/\aiM vs ns/\ns.length<=n:=by
 have j6:WShape.hasAll [] args [.list .int]=true:=(pre_splitW FR).1;have hc:l.pre.holds [] { args:=args }=true:=(pre_splitW FR).2;obtain⟨d,r,rfl,h1,h2⟩:=hasAllW_cons j6;obtain rfl:=hasAllW_nil h2;obtain⟨xs,rfl,h3⟩:=hasW_list h1;obtain⟨ns,rfl⟩:=items_int h3;have hlen:ns.length<=n:=by
  unfold OpenLaw.pre at hc;have h4:(WTm.not (.lt (.lit (.int (n:Int))) (.len (.arg 0)))).holds [] { args:=[.list (ns.map .int)] }=true:=by have h4:=(holds_andW hc).1;rw[hn] at h4;exact h4
  have h5:=condW_of h4 (w_not (w_lt w_lit (w_len_list (w_arg Y))));rw[adA] at h5;refine Nat.le_of_not_lt λq=>?_;have q':(n:Int)<((ns.length:Nat):Int):=by omega
  first
   | (rw[decide_eq_true q'] at h5;exact absurd h5 (by decide))
   | (simp at h5;omega)
 cases PM with
 | cons w1 w2 =>
  cases w2;cases w1 with
  | list ho hall=>exact#[_,_,ns,Y,Y,ho,PK ns _ hall,hlen]
theorem PN(l:OpenLaw)(args:List WData):l.row.toRowW.claim.post args (.bool true) args=true :=
 postW_of (r:=l.row.toRowW) (X:=(true == true))
  (show WShape.has [] (.bool true) .bool=true by first|rfl|decide|simp[WShape.has,WShape.arms,WShape.armsAll])
  (show (WTm.eq .res (.lit (.bool true))).value [] { args:=args,res:=U (.bool true),after:=args }=U (.bool (true == true)) from w_eq_bool (w_res Y) w_lit) rfl
section
end
end Ab
namespace L2
open PySem PySem.Spec PyProof.Rows
theorem FU:∀ {vs:List adH} {ns:List Int},aiM vs ns->Vals (ns.map V.int) vs:=by
 intro y y h
 induction h with
 | nil=>exact .nil
 | cons n t h ih=>exact .cons #[t,Y] ih
def FV(H:Hp):Prop:=∀ b,H b=O ∨ ∃ o xs,H b=U (.ba o (.lst xs))
theorem PQ{P:aek}{w:aeS}{K:adz}{mg mb:Str->Option adH}{CX:fV}{k:Nat}{fa a:adK}{fd:afV}{x:Str}{sp:Sp}{s₁:adQ}{vs:List adH}{ns:List Int}
 (KX:K.In s₁.heap) (oM:s₁.heap.Ns ae5 mg) (hb:s₁.heap.Ns alv mb) (PR:∀ x:Str,x ≠ "__name__" -> mb x=aej x) (PU:s₁.heap.NoLimit) (hg:s₁.gens = (List.toArray []))
 (ha:s₁.heap.get? a=U { cls:=.type "list",data:=.seq vs.toArray }) (hi:aiM vs ns) (hl:ns.length<=ad1) (hr:bF k ak2)
 (F:∀ base:afH,K.In base->base.Ns ae5 mg->cF P w K mg base CX k fa fd [x] sp) (PV:∀ (s:adQ) (u:adH),akl s fd #[[u],[]] [(x,u)])
 (nv:∀ H:Hp,FV H->aj K H a (ns.map V.int)->sp [.ref a] H (λv _=>v = .bl true) λ_ _ _=>False)
 (PX:∀ H e s',CX [] H s₁ (λ_ _ _=>False) e s'->False) :
 ags (model P w) ak2 (.call (.ref fa) #[[.ref a],[]]) (λr s'=>r = .ok (.ret (.bool true))/\OldK s₁.heap s'.heap/\s'.os=s₁.os/\ajh s'.gens) s₁:=by
 have rv:=FU hi;have PY:=hi.length;have core:∀ H:Hp,FV H->aj K H a (ns.map V.int)->ck P w H s₁.heap->(∀ b,H b≠O->b=a)->(H a≠O->K.lookup a=O) ->
  ags (model P w) ak2 (.call (.ref fa) #[[.ref a],[]]) (λr s'=>r = .ok (.ret (.bool true))/\OldK s₁.heap s'.heap/\s'.os=s₁.os/\ajh s'.gens) s₁:=by
  intro H hO hS aA hA hK;have FW:∀ {b:adK} {o:Obj},s₁.heap.get? b=U o->H b=O->(lQ s₁.heap H).get? b=U o:=λe n=>Oj e n;have iR:∀ {b:adK} {o:Obj} {es:Array agg} {ep:Nat},s₁.heap.get? b=U o->o.data = .dict es ep->H b=O:=λ{b o es ep} e d=>by
   cases q:H b with
   | none=>rfl
   | some u =>
    have e':b=a:=hA b (by rw[q];simp);subst e';rw[ha] at e;cases e;have d':Data.seq vs.toArray _=Data.dict es ep:=d;cases d'
  have wI:∀ {b:adK} {m:Str->Option adH},s₁.heap.Ns b m->(lQ s₁.heap H).Ns b m:=λ{b m} ⟨o,es,ep,e,d,r⟩=>#[o,es,ep,FW e (iR e d),d,r]
  have FX:K.In (lQ s₁.heap H):=λb o e=>FW (KX b o e) (by
   cases q:H b with
   | none=>rfl
   | some u =>
    have e':b=a:=hA b (by rw[q];simp);subst e';rw[hK (by rw[q];simp)] at e;cases e)
  have hM:Mod K mg (lQ s₁.heap H):=#[FX,wI oM,#[mb,wI hb,PR],let ⟨mc,h1,h2⟩:=PU;#[mc,wI h1,h2]]
  have e0:oJ P w K mg (lQ s₁.heap H) ak2 [] s₁ H:=#[Y,hM,λb o e=>Ol e,alX (Oi _ _),trivial,λb hb=>absurd (show b∈([]:List adK) from hb) (by simp),aA,.of_eq hg]
  refine ahm ((F _ FX (wI oM)).run ak2 [] s₁ H #[[.ref a],[]] [.ref a] [.ref a] _ _ hr e0 (PV s₁ (.ref a)) (.cons rfl .nil) (nv H hO hS)) λr s' h=>?_;cases r with
  | error e=>exact (PX H e s' h).elim
  | ok fl =>
   cases fl with
   | next=>exact afI h
   | brk=>exact afI h
   | cont=>exact afI h
   | ret u =>
    obtain⟨v,H',os,bare,un,PZ,r',q⟩:=h;have q':v = .bl true:=q;subst q';obtain rfl:u=afe true:=r';refine#[Y,OldK.of_keep λb o e=>?_,os,bare];cases q:H b with
    | none=>exact un.keep b o e q (by intro z;exact absurd (show b∈([]:List adK) from z) (by simp)) (by simp)
    | some u =>
     rcases hO b with z|⟨ob,xs,z⟩
     .rw[q] at z;cases z
     .have z2:=un.fG b ob _ z;obtain⟨e1,_⟩:=aA b _ z;obtain⟨e2,_⟩:=PZ b _ z2;rw[e] at e1;cases e1;exact e2
 cases hk:K.lookup a with
 | some o =>
  have e:=KX a o hk;rw[ha] at e;cases e;refine core (λ_=>O) (λ_=>.inl rfl) (.inr #[_,vs.toArray,_,hk,Y,Y,Y,by rw[adS,PY];exact hl,by simpa using rv]) (λb u z=>by have z':(O:Option HO)=U u:=z;cases z') (λb z=>absurd Y z) λz=>absurd Y z
 | none =>
  refine core (λb=>if b=a then U (.ba { cls:=.type "list",data:=.seq vs.toArray } (.lst (ns.map V.int))) else O) (λb=>?_) (.inl (.inr #[{ cls:=.type "list",data:=.seq vs.toArray },if_pos Y])) (λb u z=>?_) (λb z=>?_) λ_=>hk
  .by_cases hb:b=a
   .exact .inr #[_,_,if_pos hb]
   .exact .inl (if_neg hb)
  .by_cases hb:b=a
   .have z':=(if_pos hb).symm.trans z;cases z';subst hb;exact#[ha,by rw[adA];exact hl,vs,_,rv,ha]
   .have z':=(if_neg hb).symm.trans z;cases z'
  .by_cases hb:b=a
   .exact hb
   .exact absurd (if_neg hb) z
def inClass(s:aiK)(j:Nat):aiK:=match s with
 | .ClassDef _ _ _ body _ _ _ _ _ _ _=>body.getD j (.Pass #[0,0,0,0])
 | _=>.Pass #[0,0,0,0]
noncomputable def qC(s:aiK):Arguments:=match s with
 | .FunctionDef _ a _ _ _ _ _ _ _ _=>a
 | _=>{ posonlyargs:=[],args:=[],vararg:=O,kwonlyargs:=[],kw_defaults:=[],kwarg:=O,defaults:=[] }
noncomputable def jt(s:aiK):List aiK:=match s with
 | .FunctionDef _ _ b _ _ _ _ _ _ _=>b
 | _=>[]
noncomputable def eN(s:aiK):ajC:=match s with
 | .FunctionDef _ _ _ _ _ _ sc _ _ _=>sc
 | _=>{ kind:=.function,names:=[],isGenerator:=false,isCoroutine:=false }
abbrev E0:XK:=λy y y=>False
structure oN(K:adz)(x qual:Str)(st:aiK)(f:adK)(fd:afV):Prop where
 ex:∃ (oc:adH) (od:Option adK) (kV doc pm:adH) (an:Option adK) (bq ct:adH) (kS:Array (Option adH)),
  fd=agf x qual (qC st) (jt st) (eN st) .none kV doc pm an bq ct/\K.lookup f=U #[oc,od,.func fd,kS]/\aij K bq qual=true
 kp:afQ K (.ref f)=true
section
variable{P:aek}{w:aeS}{K:adz}{mg:Str->Option adH}{base:afH}
theorem oN.binds{x qual:Str}{st:aiK}{f:adK}{fd:afV}{ps:List Str}(F:oN K x qual st f fd)
 (h:∀ (kV doc pm:adH) (an:Option adK) (bq ct:adH) (us:List adH),us.length=ps.length->bindArgs (agf x qual (qC st) (jt st) (eN st) .none kV doc pm an bq ct) #[us,[]]=pure (ps.zip us)):Binds K fd ps []:=by
 obtain⟨oc,od,kV,doc,pm,an,bq,ct,kS,rfl,lk,gQ⟩:=F.ex;exact .all (h kV doc pm an bq ct)
theorem wJ{x qual:Str}{st:aiK}{f:adK}{oc:adH}{od an:Option adK}{kS:Array (Option adH)}{kV doc pm bq ct:adH}(l:K.lookup f=U #[oc,od,.func (agf x qual (qC st) (jt st) (eN st) .none kV doc pm an bq ct),kS])
 (c:aij K bq qual=true) (k:afQ K (.ref f)=true):oN K x qual st f (agf x qual (qC st) (jt st) (eN st) .none kV doc pm an bq ct):=#[#[oc,od,kV,doc,pm,an,bq,ct,kS,Y,l,c],k]
end
theorem fJ(hr:bF k A):A.units+1<aii:=aeR (Nat.add_le_add_left (by decide:1<=64) _) hr.units
section
theorem pv(i:Nat)(hN:X.N[i]?=U x:=by rfl)(hv:vZ X.env.scope x:=by first|exact aho rfl|exact akD (aho Y)|exact akD (akD Y))(hd:(x == ("__debug__" : Str))=false:=by decide)(gQ:(x == ("__classdict__" : Str))=false:=by decide):PE X (.Name x pos) (zE i):=Ot hN hv hd gQ
end
def ai(H H':Hp):Prop:=∀ b o,H b=U o->H' b=U o
theorem ai.refl(H:Hp):ai H H:=λy y h=>h
theorem ai.trans(a:ai H H1)(b:ai H1 H2):ai H H2:=λc o h=>b c o (a c o h)
theorem ai.free(e:ai H H')(h:H' l=Option.none):H l=Option.none:=by
 cases q:H l with
 | none=>rfl
 | some o =>
  rw[e l o q] at h;cases h
theorem ai.seq{K:adz}{H H':Hp}{a:adK}{xs:List V}(e:ai H H')(h:aj K H a xs):aj K H' a xs:=by
 rcases h with (h|⟨o,h⟩)|h
 .exact .inl (.inl (e _ _ h))
 .exact .inl (.inr #[o,e _ _ h])
 .exact .inr h
end L2
namespace Gz
open PySem PySem.Spec PyProof.Rows L2
def Bd(n:Nat)(x:Int):Prop:=x.natAbs<2 ^ n
theorem Bd.up(h:Bd n x)(hm:n<=m):Bd m x:=adW h (Nat.pow_le_pow_right (by decide) hm)
theorem Bd.bits(h:Bd n x):af4 x<=n:=by
 unfold af4;by_cases e:x=0
 .subst e;simp
 .have e0:¬ ((x == 0)=true):=by simpa using e
  rw[if_neg e0];have hn:x.natAbs≠0:=by lia
  have:=(Nat.log2_lt hn).mpr h;lia
def qD(i j:Int):Prop:=Bd 4000 i/\Bd 4000 j
theorem qD.ok(h:qD i j):IntMulOk i j :=
 IntMulOk.of_bits (adG h.1.bits (by decide)) (adG h.2.bits (by decide))
section
theorem P4:bE X (agC .Mult) (rI qD λi j=>.int (i * j)):=wj λy y y y y y y hc q=>mul_int q hc.ok
noncomputable def kW:V->adH
 | .ref a=>.ref a
 | .ty n=>.type n
 | _=>.none
theorem P5:e9 X (.builtin "isinstance") (λxs H Q=>∃ x c t b,xs=[x,c]/\dY X.K H x t/\kW c ≠ .none/\aeI X.K t (kW c)=U b/\Q (.bl b) H):=by
 intro pins s G H xs us Q I r h;obtain⟨x,c,t,b,rfl,ty,hc,e,q⟩:=h;obtain⟨u,v,rfl,rx,rc⟩:=vals2 r;have ev:v=kW c:=by
  cases c with
  | ref a=>exact rc
  | ty n=>exact rc
  | non=>exact absurd Y hc
  | bl _=>exact absurd Y hc
  | int _=>exact absurd Y hc
  | str _=>exact absurd Y hc
  | byt _=>exact absurd Y hc
  | flt _=>exact absurd Y hc
 subst ev;exact O7 I rx ty e λtk=>#[.bl b,H,I.tok tk,Y,q]
end
theorem wK{K:adz}{t:adH}:aeI K t t=U true:=by unfold aeI;rw[if_pos (by simp)]
theorem wL{K:adz}{a c:String}{b:Bool}(h:ak3 c=true)(h2:(PySem.fastBuiltinMro a).map (·.contains (.type c))=U b)(h3:(a == c)=false):aeI K (.type a) (.type c)=U b:=by
 unfold aeI;have e:¬ ((aip a == aip c)=true):=by simp only[beq_iff_eq,Value.type.injEq];simpa using h3
 rw[if_neg e];show (if ak3 c=true then aiO K (.type a) (.type c) else O)=U b;rw[if_pos h];exact h2
theorem P6{K:adz}:aeI K (.type "int") (.type "bool")=U false:=wL (by decide +kernel) (by decide +kernel) (by decide)
theorem P7{K:adz}:aeI K (.type "bool") (.type "int")=U true:=wL (by decide +kernel) (by decide +kernel) (by decide)
theorem P8{K:adz}:aeI K (.type "NoneType") (.type "int")=U false:=wL (by decide +kernel) (by decide +kernel) (by decide)
theorem P9{K:adz}:aeI K (.type "NoneType") (.type "tuple")=U false:=wL (by decide +kernel) (by decide +kernel) (by decide)
theorem FY:aej "len" = U (.builtin "len"):=by decide +kernel
theorem nz:aej "min" = U (.builtin "min"):=by decide +kernel
theorem qE:aej "max" = U (.builtin "max"):=by decide +kernel
theorem l4:aej "isinstance" = U (.builtin "isinstance"):=by decide +kernel
theorem FZ:aej "sorted" = U (.builtin "sorted"):=by decide +kernel
theorem F4:aej "any" = U (.builtin "any"):=by decide +kernel
theorem wM:aej "all" = U (.builtin "all"):=by decide +kernel
theorem F8:aej "sum" = U (.builtin "sum"):=by decide +kernel
theorem Qa:aej "int" = U (.type "int"):=by decide +kernel
theorem Qb:aej "bool" = U (.type "bool"):=by decide +kernel
theorem tN:aej "list" = U (.type "list"):=by decide +kernel
theorem Ac:aej "tuple" = U (.type "tuple"):=by decide +kernel
theorem F9:aej "dict" = U (.type "dict"):=by decide +kernel
theorem Ga:aej "enumerate" = U (.type "enumerate"):=by decide +kernel
theorem Qc:aej "zip" = U (.type "zip"):=by decide +kernel
theorem Qd:aej "reversed" = U (.type "reversed"):=by decide +kernel
noncomputable def Ad:V->V->Option Bool
 | .int _,.ty n=>if n = "int" then U true else if n = "bool" then U false else O
 | .bl _,.ty n=>if n = "int" then U true else if n = "bool" then U true else O
 | .non,.ty n=>if n = "int" then U false else if n = "tuple" then U false else O
 | _,_=>O
def j7(K:adz)(x c:V)(H:Hp)(Q:VK):Prop:=match Ad x c with
 | some b=>Q (.bl b) H
 | none=>∃ t b,dY K H x t/\kW c ≠ .none/\aeI K t (kW c)=U b/\Q (.bl b) H
section
theorem oO:e9 X (.builtin "isinstance") (λxs H Q=>∃ x c,xs=[x,c]/\j7 X.K x c H Q):=by
 intro pins s G H xs us Q I r h;obtain⟨x,c,rfl,h⟩:=h;refine P5 pins s G H _ us Q I r ?_;cases e:Ad x c with
 | none =>
  unfold j7 at h;rw[e] at h;obtain⟨t,b,h1,h2,h3,h4⟩:=h;exact#[x,c,t,b,Y,h1,h2,h3,h4]
 | some b =>
  unfold j7 at h;rw[e] at h;unfold Ad at e;split at e
  .rename_i i n;split at e
   .rename_i z;subst z;cases e;exact#[_,_,_,_,Y,dY.int i,(λz=>nomatch z),wK,h]
   .split at e
    .rename_i z;subst z;cases e;exact#[_,_,_,_,Y,dY.int i,(λz=>nomatch z),P6,h]
    .cases e
  .rename_i i n;split at e
   .rename_i z;subst z;cases e;exact#[_,_,_,_,Y,dY.bl i,(λz=>nomatch z),P7,h]
   .split at e
    .rename_i z;subst z;cases e;exact#[_,_,_,_,Y,dY.bl i,(λz=>nomatch z),wK,h]
    .cases e
  .rename_i n;split at e
   .rename_i z;subst z;cases e;exact#[_,_,_,_,Y,dY.non,(λz=>nomatch z),P8,h]
   .split at e
    .rename_i z;subst z;cases e;exact#[_,_,_,_,Y,dY.non,(λz=>nomatch z),P9,h]
    .cases e
  .cases e
end
section
variable{K:adz}{H:Hp}{Q:VK}{i:Int}{b:Bool}{p:adK}{xs:List V}
theorem Qe:j7 K (.int i) (.ty "int") H Q=Q (.bl true) H:=rfl
theorem Qf:j7 K (.int i) (.ty "bool") H Q=Q (.bl false) H:=rfl
theorem Qg:j7 K (.bl b) (.ty "int") H Q=Q (.bl true) H:=rfl
theorem Qh:j7 K (.bl b) (.ty "bool") H Q=Q (.bl true) H:=rfl
theorem Qi:j7 K .non (.ty "int") H Q=Q (.bl false) H:=rfl
theorem Qj:j7 K .non (.ty "tuple") H Q=Q (.bl false) H:=rfl
theorem Ae(h:H p=U (.tup xs))(q:Q (.bl true) H):j7 K (.ref p) (.ty "tuple") H Q:=#[_,_,dY.tup h,(λz=>nomatch z),wK,q]
theorem Gb(h:H p=U (.lst xs))(q:Q (.bl true) H):j7 K (.ref p) (.ty "list") H Q:=#[_,_,dY.lst h,(λz=>nomatch z),wK,q]
end
def dR(P:aek)(w:aeS):fV:=λouter H s E e s' =>
 ∃ (x:adK) (cls a0:adH) (H':Hp) (B:afH),e = .ref x/\s'.os=s.os/\ajh s'.gens/\Un (bw outer) [] H H' s.heap s'.heap /\
  (∀ b o,s.heap.get? b=U o->H b=O->b∉bw outer->B.get? b=U o)/\(∀ b o,s.heap.get? b=U o->b∉bw outer->∃ o',B.get? b=U o')/\ck P w H' B/\H' x=O/\s.heap.get? x=O /\
  akE B outer x cls a0 s'.heap/\E cls O H'
theorem bB:Passes (dR P w) X E0:=by rintro y y y y y y y ⟨y,y,y,y,y,y,y,y,y,y,y,y,y,y,y,h⟩;exact h.elim
theorem Qk(h:dR P w outer H s (λy y y=>False) e s'):False:=by obtain⟨y,y,y,y,y,y,y,y,y,y,y,y,y,y,y,h⟩:=h;exact h
section
variable{P:aek}{w:aeS}{K:adz}{mg:Str->Option adH}{base:afH}
theorem okN{x qual:Str}{st:aiK}{f:adK}{fd:afV}{N ps:List Str}{k:Nat}{sp:Sp}(F:oN K x qual st f fd)(S:tH N ps (eN st))(len:∀ vs H Q E,sp vs H Q E->vs.length=ps.length)
 (iS:∀ (bq:adH) (A:aff) (outer:List Env) (s:adQ) (H:Hp) (vs:List V) (Q:VK) (E:XK),bF k (A.deeper (afl qual (eN st) s.heap.objs.size f bq))->sp vs H Q E ->
   ∃ t,aT (fX (dR P w) P w K mg base N qual (eN st) f bq A outer s H E).qr (jt st) t/\t { nx:=λy H'=>Q .non H',rt:=Q } (start N vs) H):cF P w K mg base (dR P w) (k+1) f fd ps sp:=by
 obtain⟨oc,od,kV,doc,pm,an,bq,ct,kS,rfl,lk,gQ⟩:=F.ex;refine Fx lk gQ S len λA outer s H vs Q E hr nv=>?_;obtain⟨t,h,q⟩:=iS bq A outer s H vs Q E hr nv;exact#[t,h.qr,q]
end
theorem Ql(a b:Int):lY (.int a) (.int b)=true:=rfl
theorem Qm(a b:Bool):lY (.bl a) (.bl b)=true:=rfl
theorem Qn(a:Int):lY (.int a) .non=true:=rfl
theorem Qo(a:Int):lY .non (.int a)=true:=rfl
theorem Qp:lY .non .non=true:=rfl
theorem ite_tt:(if true=true then A else B)=A:=if_pos rfl
theorem ite_ff:(if false=true then A else B)=B:=if_neg ad2
theorem Qq{CX:fV}{P:aek}{w:aeS}{K:adz}{mg:Str->Option adH}{base:afH}{N:List Str}{qual:Str}{scope:ajC}{f:adK}{cd:adH}{A:aff}{outer:List Env}{s:adQ}{H:Hp}{E:XK} :
 (fX CX P w K mg base N qual scope f cd A outer s H E).K=K:=rfl
theorem Qr{CX:fV}{P:aek}{w:aeS}{K:adz}{mg:Str->Option adH}{base:afH}{N:List Str}{qual:Str}{scope:ajC}{f:adK}{cd:adH}{A:aff}{outer:List Env}{s:adQ}{H:Hp}{E:XK} :
 (fX CX P w K mg base N qual scope f cd A outer s H E).N=N:=rfl
section
variable{K:adz}{H H':Hp}{a p:adK}{xs ys:List V}{i:Int}{v:V}{Q:VK}
theorem ft(e:ai H H')(h:ak K H a xs):ak K H' a xs:=by
 rcases h with (h|⟨o,h⟩)|h
 .exact .inl (.inl (e _ _ h))
 .exact .inl (.inr #[o,e _ _ h])
 .exact .inr h
theorem ao(h:H p=O):ai H (upd H p o):=λb u e=>by rw[aK (jU e h)];exact e
theorem az(h:ak K H p xs)(e:dw xs i=U v)(q:Q v H):iq K (.ref p) (.int i) H Q:=.inr (.inl #[p,xs,i,v,Y,Y,h,e,q])
theorem bR(h:aj K H p xs)(e:dw xs i=U v)(q:Q v H):iq K (.ref p) (.int i) H Q:=.inl #[p,xs,i,v,Y,Y,h,e,q]
theorem fg(h:aj K H p xs):wu K (.ref p) H xs.length:=.inl #[xs,h,Y]
theorem nA(h:ak K H p xs):wu K (.ref p) H xs.length:=.inr #[xs,h,Y]
end
noncomputable def isWhole:V->Bool
 | .int _=>true
 | _=>false
def FJ(J:It)(g:TG)(tb:TS)(D:Ends)(G:L2.St)(H:Hp):Prop:=∃ W:Nat->Nat->L2.St->Hp->Prop,(∃ m,W 0 m G H)/\∀ i m G H,W i m G H ->
 (J.stop i H/\D.nx G H)∨(J.go i H/\∃ N:L2.St->Hp->Prop,(∀ σ' H',N σ' H'->∃ m',m'<m/\W (i+1) m' σ' H')/\∀ x H',J.yld i H x H'->g x G H' λσ2 H2=>tb { D with nx:=N,ct:=N,bk:=D.nx } σ2 H2)
section
variable{K:adz}{g:TG}{tb:TS}{D:Ends}{G:L2.St}{H:Hp}{a:adK}{xs:List V}{lo:Int}{n:Nat}
theorem Qs:kR (zK ta) g tb D G H=ta G H (λvs H1=>∃ j:Int,vs=[.int j]/\-(2 ^ 62)<=j/\j<2 ^ 62/\FJ (jk 0 j.toNat) g tb D G H1):=rfl
theorem Qt{tl:TE}:kR (zH K tl) g tb D G H=tl G H (λx H1=>∃ a,x = .ref a/\(∃ xs,aj K H1 a xs)/\FJ (kQ K a) g tb D G H1):=rfl
theorem Qu{tl:TE}:kR (zI K tl) g tb D G H=tl G H (λx H1=>∃ a,x = .ref a/\(∃ xs,ak K H1 a xs)/\FJ (tf K a) g tb D G H1):=rfl
theorem qF(Pv:Nat->L2.St->Hp->Prop)(h0:Pv 0 G H)(hs:∀ i G H,i<n->Pv i G H->g (.int (lo+i)) G H λσ2 H2=>tb { D with nx:=Pv (i+1),ct:=Pv (i+1),bk:=D.nx } σ2 H2)(hd:∀ G H,Pv n G H->D.nx G H):FJ (jk lo n) g tb D G H:=OG Pv h0 hs hd
theorem l5(Pv:Nat->L2.St->Hp->Prop)(h0:Pv 0 G H)(hl:∀ i G H,i<=xs.length->Pv i G H->aj K H a xs)(hs:∀ i x G H,xs[i]?=U x->Pv i G H->g x G H λσ2 H2=>tb { D with nx:=Pv (i+1),ct:=Pv (i+1),bk:=D.nx } σ2 H2)(hd:∀ G H,Pv xs.length G H->D.nx G H):FJ (kQ K a) g tb D G H:=OF Pv h0 hl hs hd
end
theorem aY:(2:Nat)<=ad1:=by decide
theorem Ge(h:x.natAbs<2 ^ 200):Bd 4000 x:=Bd.up (n:=200) h (by decide)
theorem Gf(h:x.natAbs<2 ^ 200)(h':y.natAbs<2 ^ 200):qD x y:=#[Ge h,Ge h']
section
end
section
variable{K:adz}{H H1:Hp}{l p:adK}{xs ys:List V}{o:HO}
theorem ir(hl:H l=O)(s:ai H H1):ai H (upd H1 l o):=λb u e=>by rw[aK (jU e hl)];exact s b u e
theorem Af(h:ak K H1 p xs)(hl:H1 l=U (.lst ys)):ak K (upd H1 l o) p xs:=by
 rcases h with (h|⟨z,h⟩)|h
 .exact .inl (.inl (by rw[aK (qk h hl (λe=>nomatch e))];exact h))
 .exact .inl (.inr #[z,by rw[aK (qk h hl (λe=>nomatch e))];exact h])
 .exact .inr h
end
end Gz
namespace Gz
open PySem PySem.W PySem.Spec PySem.Calls PyProof.Rows Builtin Builtin.ObjectAttr Builtin.Getset_descriptor
section
variable{prog:aek}{w:aeS}{A:aff}{E:adH->adQ->Prop}{s:adQ}{K:Frag}{x C:adK}{oe:Obj}{R:akA->adQ->Prop}
theorem Qv{tp:adH}(X:K.In s.heap)(he:s.heap.get? x=U oe)(hc:oe.cls = .ref C)(hm:mroIn K C (.type "object")=U true)
 (h:R (.ok (.ret (.ref C))) s):ags (model prog w) A (.call (.builtin "getset_descriptor.__get__") #[[.builtin "object.__class__",.ref x,tp],[]]) R s:=by
 obtain⟨hh,g,dr,t,os⟩:=s;have L0:Looks (model prog w) hh (alY (.ref x)) (.ref C):=hc ▸ (Looks.ld he).andThen .now;have L1:=looks_mroIn (M:=model prog w) X hm;refine agt KF.slot_gs.plain KF.entry_gs (KF.slot_gs.check _ _ _ _ _ _ _ _ KF.type_class (KF.args_gs _ _ _) ?_);unfold afG.«getset_descriptor.__get__» descrGet;rw[dga_obj];refine ady (adD ?_);unfold descrGetter descrCheckInstance descrNameAndClass alz;simp only[KF.owner_class]
 repeat lk
 refine#[Code.quiet_builtin _ (by decide +kernel),aeH KF.entry_class ?_];unfold afG.«object.__class__» shownTypeOf
 repeat lk
 exact h
theorem Qw{tk:Tok}{Q:Fin->adQ->Prop}(X:K.In s.heap)(he:s.heap.get? x=U oe)(hc:oe.cls = .ref C)(hm:mroIn K C (.type "object")=U true)
 (g3:findIn K (.ref C) "__class__" = U (U (.builtin "object.__class__"))) (h:Q (.done (.ret (.ref C))) s) :
 adY (model prog w) A (afG.«object.__getattribute__» #[[.ref x,.str "__class__" tk],[]]) Q E s:=by
 obtain⟨hh,g,dr,t,os⟩:=s;have L0:Looks (model prog w) hh (alY (.ref x)) (.ref C):=hc ▸ (Looks.ld he).andThen .now;have L1:=looks_findIn (M:=model prog w) X g3;have f5:=KF.type_class;have f6:=F.slot_gs_get.lookup;have f7:=F.slot_gs_set.lookup
 repeat (any_goals (first|assumption|(with_reducible refine L0.at ?_)|(with_reducible refine L1.at ?_)|wp_step))
 refine Qv X he hc hm ?_
 repeat (any_goals (first|assumption|wp_step))
theorem Qx{Gg:adH}{Q:Unit->adQ->Prop}(X:K.In s.heap)(he:s.heap.get? x=U oe)(hc:oe.cls = .ref C)(hb:mroIn K C (.type "BaseException")=U true)(h:Q () s) :
 adY (model prog w) A (ahA "BaseException.__getattribute__" #[[.ref x,Gg],[]]) Q E s:=by
 obtain⟨hh,g,dr,t,os⟩:=s;have hk:ajT "BaseException.__getattribute__" = U .slot:=by decide +kernel
 have Qy:splitId "BaseException.__getattribute__" = U ("BaseException","__getattribute__"):=by decide +kernel
 have ha:=F.args_bexc_ga (.ref x) Gg;have L0:Looks (model prog w) hh (alY (.ref x)) (.ref C):=hc ▸ (Looks.ld he).andThen .now;have L1:=looks_mroIn (M:=model prog w) X hb;simp only[ahA,hk,Qy];refine ady ?_;unfold alz
 repeat (first|(with_reducible refine L0.at ?_)|(with_reducible refine L1.at ?_)|wp_step)
 exact h
theorem Qz{Q:Option adH->adQ->Prop}(X:K.In s.heap)(he:s.heap.get? x=U oe)(hc:oe.cls = .ref C)(hm:mroIn K C (.type "object")=U true)(hb:mroIn K C (.type "BaseException")=U true)
 (g1:findIn K (.ref C) "__getattribute__" = U (U (.builtin "BaseException.__getattribute__"))) (g2:findIn K (.ref C) "__getattr__" = U O)
 (g3:findIn K (.ref C) "__class__" = U (U (.builtin "object.__class__"))) (h:Q (U (.ref C)) { s with toks:=s.toks+1 }) :
 adY (model prog w) A (getAttr? (.ref x) "__class__") Q E s:=by
 obtain⟨hh,g,dr,t,os⟩:=s;have L0:Looks (model prog w) hh (alY (.ref x)) (.ref C):=hc ▸ (Looks.ld he).andThen .now;have L1:=looks_findIn (M:=model prog w) X g1;have L2:=looks_findIn (M:=model prog w) X g2;have f3:=F.excAttr_ValueError.ga.bind (.ref x);have gA:(agS "BaseException.__getattribute__" == agS "object.__getattribute__")=false:=by decide +kernel
 have nB:(onTheHeap (ad7 C) && agS "BaseException.__getattribute__" == agS "object.__getattribute__")=false:=by rw[gA];rfl
 unfold getAttr? getAttrBy?
 repeat (any_goals (first|assumption|(with_reducible refine L0.at ?_)|(with_reducible refine L1.at ?_)|(with_reducible refine L2.at ?_)|wp_step))
 refine agt F.excAttr_ValueError.ga.plain F.entry_bexc_ga (Qx X he hc hb (Qw X he hc hm g3 ?_))
 repeat (any_goals (first|assumption|wp_step))
end
structure XC(K:Frag)(C:adK):Prop where
 ex:excIn K C [.type "ValueError",.type "Exception",.type "BaseException",.type "object"] "ValueError.__new__" = true
 mo:mroIn K C (.type "object")=U true
 mb:mroIn K C (.type "BaseException")=U true
 ga:findIn K (.ref C) "__getattribute__" = U (U (.builtin "BaseException.__getattribute__"))
 gr:findIn K (.ref C) "__getattr__" = U O
 gc:findIn K (.ref C) "__class__" = U (U (.builtin "object.__class__"))
theorem XC.cls{K:Frag}{C:adK}(x:XC K C):∃ c d cd sl,K.lookup C=U #[c,d,.cls cd,sl]:=by
 have q:=x.ex;unfold excIn at q;split at q
 .rename_i dd cd sl ho;exact#[_,_,_,_,ho]
 .cases q
theorem QA{K:Frag}{x C:adK}(c:XC K C):KitX K (.ref x) (.ref C) (λh=>∃ oe:Obj,h.get? x=U oe/\oe.cls = .ref C) where
 ty:=λ_ _ _ ⟨oe,he,hc⟩=>hc ▸ (Looks.ld he).andThen .now
 it:=λy y X y=>by obtain⟨a,b,cd,sl,ho⟩:=c.cls;intro A' Q' E' s' k q;unfold isType loadHead;exact ady (wpAny_loadPart (k _ _ (X _ _ ho)) (adD q))
 ne:=λh tp dd ax n sl X nC=>by obtain⟨a,b,cd,sl,ho⟩:=c.cls;refine ahb.mpr λq=>?_;have e:C=tp:=Value.ref.inj (beq_iff_eq.mp q);subst e;have z:=(X _ _ ho).symm.trans nC;cases z
 ca:=λX ⟨oe,he,hc⟩ k=>Qz X he hc c.mo c.mb c.ga c.gr c.gc k
theorem QC{K:Frag}{h:afH}{C:adK}(X:K.In h)(c:XC K C) :
 ∃ bm N nm q bs hdct sn sub ab col dd k0 k1 k2 k3 k5 mN,h.get? C=U (excClassObj nm q C N bs bm hdct sn sub ab col dd k0 k1 k2 k3 k5 "ValueError.__new__")/\h.Ns N mN/\mN "__init__" = O /\
  OwnTail h [.type "ValueError",.type "Exception",.type "BaseException",.type "object"] bm:=by
 have q:=c.ex;unfold excIn at q;split at q
 .rename_i dd cd sl ho;split at q
  .rename_i C' bm k0 k1 k2 k3 n k5 hm hs;simp only[aew,beq_iff_eq,Bool.not_eq_true'] at q;obtain⟨⟨⟨⟨⟨rfl,rfl⟩,hdel⟩,ht⟩,aA⟩,hni⟩:=q;obtain⟨nm,bs,mro,ns,qn,hd,sn,sub,ab,col,del⟩:=cd;dsimp only at hm hdel aA hni;subst hm hdel;have l6:sl = (List.toArray [k0,k1,k2,k3,U (.builtin "ValueError.__new__"),k5]):=by obtain⟨l⟩:=sl;simp only at hs;rw[hs]
   subst l6;exact#[bm,ns,nm,qn,bs,hd,sn,sub,ab,col,dd,k0,k1,k2,k3,k5,_,X _ _ ho,.of_isNs (isNs_of_in X aA),nsMap_none_of_in X aA hni,tail_of_in X ht]
  .cases q
 .cases q
open L2
noncomputable def ju(a C:adK):HO:=.ext λh=>∃ oe:Obj,h.get? a=U oe/\oe.cls = .ref C
theorem QD(he:h.get? a=U oe)(hc:oe.cls = .ref C):bW P w H h a (ju a C) :=
 #[#[oe,he,hc],#[oe,he],λh1 h2 ⟨o,e,c⟩ k=>#[o,k o e,c]]
section
def Gh(K:adz)(a:adK)(c:V)(H:Hp)(Q:VK):Prop:=∃ C b,H a=U (ju a C)/\XC K C/\kW c ≠ .none/\aeI K (.ref C) (kW c)=U b/\Q (.bl b) H
theorem Gi{K:adz}(hK:X.K=K):e9 X (.builtin "isinstance") (λxs H Q=>∃ a c,xs=[.ref a,c]/\Gh K a c H Q):=by
 subst hK;intro pins s G H xs us Q I r h;obtain⟨a,c,rfl,C,b,ha,xc,hc,e,q⟩:=h;obtain⟨u,v,rfl,rx,rc⟩:=vals2 r;have ev:v=kW c:=by
  cases c with
  | ref a=>exact rc
  | ty n=>exact rc
  | non=>exact absurd Y hc
  | bl _=>exact absurd Y hc
  | int _=>exact absurd Y hc
  | str _=>exact absurd Y hc
  | byt _=>exact absurd Y hc
  | flt _=>exact absurd Y hc
 subst ev;cases (show u=ad7 a from rx);obtain⟨hp,y,y⟩:=(show bW X.prog X.w H s.heap a (ju a C) from I.aA a _ ha)
 exact aeV (QA xc) I.cv hp e (λz=>nomatch z) λtk=>#[.bl b,H,I.tok tk,Y,q]
end
theorem Gj{K:adz}{a C:adK}{c:V}{H:Hp}{Q:VK}{b:Bool}(h:H a=U (ju a C))(xc:XC K C)(hc:kW c ≠ .none)(e:aeI K (.ref C) (kW c)=U b)(q:Q (.bl b) H):Gh K a c H Q:=#[C,b,h,xc,hc,e,q]
end Gz
namespace Gz
open PySem PySem.Spec PyProof.Rows L2
theorem bW.some(x:bW P w H h a o):∃ ob,h.get? a=U ob:=by
 cases o with
 | lst xs=>obtain⟨z,z,z,z,e⟩:=x;exact#[_,e]
 | tup xs=>obtain⟨z,z,z,o,e,z⟩:=x;exact#[_,e]
 | dK kvs=>obtain⟨z,z,z,z,o,z,z,e,z⟩:=x;exact#[_,e]
 | dT kvs=>obtain⟨z,z,z,z,o,z,z,e,z⟩:=x;exact#[_,e]
 | set S n=>obtain⟨o,z,z,z,e,z⟩:=x;exact#[_,e]
 | ins C dx fs=>obtain⟨z,z,z,e,z⟩:=x;exact#[_,e]
 | own y=>exact x
 | xd fs=>obtain⟨z,⟨z,z,z,e,z⟩,z⟩:=x;exact#[_,e]
 | gq lo hi=>obtain⟨z,z,z,e⟩:=x;exact#[_,e]
 | ba ob u=>obtain⟨e,z⟩:=x;exact#[_,e]
 | tbl ps=>exact#[_,x]
 | met f y=>exact#[_,x]
 | ext φ=>exact x.2.1
def Gk(X:Cx)(E:XK):Prop:=∀ (pins:List (adK × Obj)) (G:L2.St) (H:Hp) (s:adQ) (e C:adK) (vs:List adH) (h':afH),Inv X pins G H s->Heap.MadeExcOf s.heap h' e (.ref C) vs->E (.ref C) O H->X.xe (.ref e) { s with heap:=h' }
def wN(C:adK)(E:XK)(ta:TA):TS:=λD G H=>ta G H λvs H1=>vs.length<=ad1/\E (.ref C) O H1
section
theorem jv{x:Str}{np dG pos:Pos}{e₀:ahx}{rest:List ahx}{ta:TA}{C:adK}{E:XK}(hx:Gk X E)(hg:Gl X x)(hm:X.mg x=U (.ref C))(xc:XC X.K C)(hc:X.calm=true)(ha:PA X (e₀::rest) ta)
 (hd:(x == ("__debug__" : Str))=false:=by decide) (he:adX (e₀::rest) X.env=(false,eval e₀ X.env)::adX rest X.env:=by rfl)
 (dP:(afi dG (adX rest X.env)).any (·.1)=false:=by rfl) :
 PS X (.Raise (U (.Call (.Name x np) (e₀::rest) [] dG)) O pos) (wN C E ta):=by
 intro pins s G H D I h;obtain⟨tl,N,nm,q,bs,hdct,sn,sub,ab,col,dd,k0,k1,k2,k3,k5,mN,hC,hN,hni,T⟩:=QC I.ok.mod.kin xc;refine wpAny_Raise_call_subU (C:=C) (nm:=nm) (q:=q) (N:=N) (bs:=bs) (bm:=tl) (hdct:=hdct) (sn:=sn) (sub:=sub) (ab:=ab) (col:=col) (dd:=dd) (k0:=k0) (k1:=k1) (k2:=k2) (k3:=k3) (k5:=k5)
  ah7 (by decide +kernel) ah7 (mN:=mN) (T.hasType PySem.F.excBase_ValueError.hasBase) (I.ok.hd hc) (by rw[he];show (false || (afi dG (adX rest X.env)).any (·.1))=false;rw[dP];rfl) hni (sT I hg hm #[Y,?_] hd)
 have tO:=ha dG pins s G H _ I h;rw[he] at tO ⊢;refine ahG (aeO tO (λus s₂ h₂=>?_) λz z y=>y);obtain⟨vs,H1,I1,r,hl,hE⟩:=h₂;exact#[Y,by rw[<- r.length];exact hl,I1.bk _ _ hC,hN.keeps I1.bk,T.keeps I1.bk,λh' e hm=>hx pins G H1 s₂ e C us h' I1 hm hE]
end
section
variable{P:aek}{w:aeS}{K:adz}{mg:Str->Option adH}{base:afH}{N:List Str}{qual:Str}{scope:ajC}{f:adK}{cd:adH}{A:aff}{outer:List Env}{s:adQ}{H:Hp}{E:XK}
theorem Gm(hf:env.frame=U L)(h:b∈bw (env::outer)):b=L∨b∈bw outer:=by unfold bw at h;rw[aeT,hf] at h;exact adL.mp h
theorem jw:Gk (fX (dR P w) P w K mg base N qual scope f cd A outer s H E) E:=by
 intro pins G H1 s1 e C vs h1 I hx hE;have tP:(fX (dR P w) P w K mg base N qual scope f cd A outer s H E).A.frames=U (afl qual scope s.heap.objs.size f cd::outer):=I.ok.frames;have hF:s1.heap.FunFrames base (afl qual scope s.heap.objs.size f cd::outer):=I.stack;have cn:∀ env∈(afl qual scope s.heap.objs.size f cd::outer),∀ b,env.frame=U b->b∈bw (afl qual scope s.heap.objs.size f cd::outer):=λenv he b hb=>aia.mpr #[env,he,hb];have QE:∀ b∈bw (afl qual scope s.heap.objs.size f cd::outer),H1 b=O:=I.sQ;have qq:∀ b o,s.heap.get? b=U o->b≠s.heap.objs.size:=λb o e=>adV (adF e);have lR:∀ b o,s.heap.get? b=U o->b∉bw outer->b∉bw (afl qual scope s.heap.objs.size f cd::outer):=λb o e hb z=>by
  rcases Gm rfl z with z|z
  .exact qq b o e z
  .exact hb z
 have ub:Un (bw outer) [] H H1 s.heap s1.heap:=I.base;refine wpAny_leaves_madeW (base:=ajg s1.heap (bw (afl qual scope s.heap.objs.size f cd::outer))) tP Y (λb o q=>aj0 _ q) (PySem.W.funFrames_hide hF cn) hx λh' t fl tup bt up=>?_;have stays:=fl.1;have qG:∀ b o,s1.heap.get? b=U o->b∉bw (afl qual scope s.heap.objs.size f cd::outer)->(ajg s1.heap (bw (afl qual scope s.heap.objs.size f cd::outer))).get? b=U o:=λb o q hb=>ajP _ q hb;have nD:∀ b∈bw (afl qual scope s.heap.objs.size f cd::outer),∀ o,s1.heap.get? b=U o->∃ sl,h'.get? b=U { o with slots:=sl }:=λb hb o q=>by obtain⟨y,o',cU,hnf⟩:=hF.mem hb;rw[q] at cU;cases cU;exact up b o (hx.keeps b o q) hnf
 refine#[e,.ref C,.ref t,H1,_,Y,I.os,I.bare,#[λb o q n hb bZ=>?_,λb o q n hb bZ=>?_,ub.free,λb o q bZ=>?_,ub.gu,ub.fG,ub.gv],λb o q n hb=>?_,λb o q hb=>?_,λa o q=>?_,?_,?_,fl,hE]
 .exact stays b o (qG b o (ub.keep b o q n hb bZ) (lR b o q hb))
 .obtain⟨sl,e1⟩:=ub.slot b o q n hb bZ;obtain⟨fT,e2⟩:=nD b (by unfold bw;rw[aeT];exact aer _ hb) _ e1;exact#[fT,e2]
 .obtain⟨o',e1⟩:=ub.there b o q bZ;by_cases hb:b∈bw (afl qual scope s.heap.objs.size f cd::outer)
  .obtain⟨sl,e2⟩:=nD b hb o' e1;exact#[_,e2]
  .exact#[o',stays b o' (qG b o' e1 hb)]
 .exact qG b o (ub.keep b o q n hb (by simp)) (lR b o q hb)
 .obtain⟨o',e1⟩:=ub.there b o q (by simp);exact#[o',qG b o' e1 (lR b o q hb)]
 .refine (I.aA a o q).stay (λb u hb z=>qG b u z λhm=>?_) (λy z=>z) λy y z=>z;have:=QE b hm;rcases hb with hb|hb
  .rw[hb,q] at this;cases this
  .rw[hb] at this;cases this
 .cases q:H1 e with
  | none=>rfl
  | some u =>
   obtain⟨ob,z⟩:=bW.some (I.aA e u q);rw[hx.new] at z;cases z
 .cases q:s.heap.get? e with
  | none=>rfl
  | some u =>
   obtain⟨o',z⟩:=ub.there e u q (by simp);rw[hx.new] at z;cases z
theorem gT:Passes (dR P w) (fX (dR P w) P w K mg base N qual scope f cd A outer s H E) E:=by
 intro pins G H1 s1 ev s2 I cx;obtain⟨x,cls,a0,H',B,rfl,os,bare,un,kb,tb,aA,hx,hn,fl,hE⟩:=cx;have tP:(fX (dR P w) P w K mg base N qual scope f cd A outer s H E).A.frames=U (afl qual scope s.heap.objs.size f cd::outer):=I.ok.frames;have hF:s1.heap.FunFrames base (afl qual scope s.heap.objs.size f cd::outer):=I.stack;have qq:∀ b o,s.heap.get? b=U o->b≠s.heap.objs.size:=λb o e=>adV (adF e);have lR:∀ b o,s.heap.get? b=U o->b∉bw outer->b∉bw (afl qual scope s.heap.objs.size f cd::outer):=λb o e hb z=>by
  rcases Gm rfl z with z|z
  .exact qq b o e z
  .exact hb z
 have QF:∀ b,b∈bw outer->b∈bw (afl qual scope s.heap.objs.size f cd::outer):=λb hb=>by unfold bw;rw[aeT];exact aer _ hb
 have ub:Un (bw outer) [] H H1 s.heap s1.heap:=I.base;have Gn:Un (bw (afl qual scope s.heap.objs.size f cd::outer)) [] H1 H' s1.heap s2.heap:=un;have Gq:∀ b o,s1.heap.get? b=U o->H1 b=O->b∉bw (afl qual scope s.heap.objs.size f cd::outer)->B.get? b=U o:=kb;have bS:∀ b o,s1.heap.get? b=U o->b∉bw (afl qual scope s.heap.objs.size f cd::outer)->∃ o',B.get? b=U o':=tb;have Ag:∀ b∈bw (afl qual scope s.heap.objs.size f cd::outer),H1 b=O:=I.sQ;refine wpAny_leaves_onW tP Y fl λh' wO up=>?_;have stays:=wO.1;have nD:∀ b∈bw (afl qual scope s.heap.objs.size f cd::outer),∀ o,s1.heap.get? b=U o->∃ sl,h'.get? b=U { o with slots:=sl }:=λb hb o q=>by obtain⟨y,o',cU,hnf⟩:=hF.mem hb;rw[q] at cU;cases cU;obtain⟨sl,e1⟩:=Gn.slot b o q (Ag b hb) hb (by simp);obtain⟨fT,e2⟩:=up b _ e1 hnf;exact#[fT,e2]
 refine#[x,cls,a0,H',B,Y,os.trans I.os,bare,#[λb o q n hb bZ=>?_,λb o q n hb bZ=>?_,λb o q n bZ=>?_,λb o q bZ=>?_,λb xs q=>un.gu _ _ (ub.gu _ _ q),λb o u q=>un.fG _ _ _ (ub.fG _ _ _ q),λb ps q=>?_],λb o q n hb=>?_,λb o q hb=>?_,aA,hx,?_,wO,hE]
 .exact stays b o (Gq b o (ub.keep b o q n hb bZ) (ub.free b o q n bZ) (lR b o q hb))
 .obtain⟨sl,e1⟩:=ub.slot b o q n hb bZ;obtain⟨fT,e2⟩:=nD b (QF b hb) _ e1;exact#[fT,e2]
 .obtain⟨o',e1⟩:=ub.there b o q bZ;exact Gn.free b o' e1 (ub.free b o q n bZ) (by simp)
 .obtain⟨o',e1⟩:=ub.there b o q bZ;by_cases hb:b∈bw (afl qual scope s.heap.objs.size f cd::outer)
  .obtain⟨sl,e2⟩:=nD b hb o' e1;exact#[_,e2]
  .obtain⟨o2,e2⟩:=bS b o' e1 hb;exact#[o2,stays b o2 e2]
 .obtain⟨m1,e1⟩:=ub.gv b ps q;obtain⟨m2,e2⟩:=un.gv b _ e1;exact#[m1++m2,by rw[e2,aj1]]
 .exact Gq b o (ub.keep b o q n hb (by simp)) (ub.free b o q n (by simp)) (lR b o q hb)
 .obtain⟨o',e1⟩:=ub.there b o q (by simp);exact bS b o' e1 (lR b o q hb)
 .cases q:s.heap.get? x with
  | none=>rfl
  | some u =>
   obtain⟨o',z⟩:=ub.there x u q (by simp);rw[hn] at z;cases z
theorem j8{x qual:Str}{st:aiK}{f:adK}{fd:afV}{N ps:List Str}{k:Nat}{sp:Sp}(F:oN K x qual st f fd)(S:tH N ps (eN st))(len:∀ vs H Q E,sp vs H Q E->vs.length=ps.length)
 (iS:∀ (bq:adH) (A:aff) (outer:List Env) (s:adQ) (H:Hp) (vs:List V) (Q:VK) (E:XK),bF k (A.deeper (afl qual (eN st) s.heap.objs.size f bq))->sp vs H Q E ->
   ∃ t,aT (fX (dR P w) P w K mg base N qual (eN st) f bq A outer s H E) (jt st) t/\t { nx:=λy H'=>Q .non H',rt:=Q } (start N vs) H):cF P w K mg base (dR P w) (k+1) f fd ps sp:=by
 obtain⟨oc,od,kV,doc,pm,an,bq,ct,kS,rfl,lk,gQ⟩:=F.ex;refine Fx lk gQ S len λA outer s H vs Q E hr nv=>?_;exact iS bq A outer s H vs Q E hr nv
end
noncomputable abbrev Xp(X:Cx)(F:adH->adQ->Prop)(pn:List (adK × Obj)):Cx:={ X with xe:=F,pn:=pn }
noncomputable abbrev Xh(X:Cx)(A':aff)(pn:List (adK × Obj)):Cx:={ X with A:=A',calm:=false,xe:=λy y=>False,pn:=pn }
def QG(K:adz)(m i:Nat)(G9q:adK)(tb th:TS)(E':XK):TS:=λD G H=>tb D G H/\∀ cls H',E' cls O H'->∃ C,cls = .ref C/\aik K (.ref C) (.ref G9q)=U true /\
 ∀ a,H' a=O->th { nx:=λσ' H2=>D.nx (σ'.set i O) H2,rt:=D.rt,bk:=λσ' H2=>D.bk (σ'.set i O) H2,ct:=λσ' H2=>D.ct (σ'.set i O) H2 } ((afS m O).set i (U (.ref a))) (upd H' a (ju a C))
section
theorem QH(ok:X.Ok):(Xp X F pn).Ok:=#[ok.mod,ok.kind,ok.glob,ok.blt,ok.above,ok.inj,ok.has,ok.cab,ok.hd,ok.frames,ok.stk,ok.exf,ok.bs,ok.bsz,ok.noex,ok.exfs,ok.gP,ok.frf]
theorem Gr(ok:(Xp X F pn).Ok):X.Ok:=#[ok.mod,ok.kind,ok.glob,ok.blt,ok.above,ok.inj,ok.has,ok.cab,ok.hd,ok.frames,ok.stk,ok.exf,ok.bs,ok.bsz,ok.noex,ok.exfs,ok.gP,ok.frf]
theorem QJ(ok:X.Ok)(hA:A'.frames=X.A.frames):(Xh X A' pn).Ok:=#[ok.mod,ok.kind,ok.glob,ok.blt,ok.above,ok.inj,ok.has,ok.cab,(λz=>nomatch z),hA.trans ok.frames,ok.stk,ok.exf,ok.bs,ok.bsz,ok.noex,ok.exfs,ok.gP,ok.frf]
theorem QK(I:Inv X pins G H s):Inv (Xp X F (X.pn++pins)) [] G H s:=#[QH I.ok,I.os,I.bare,I.base,I.loc,I.cell,I.free,I.gx,λp hp=>I.pin p (by simpa using hp),I.aA,I.len]
theorem wQ(I:Inv (Xp X F (X.pn++pins)) [] G H s):Inv X pins G H s:=#[Gr I.ok,I.os,I.bare,I.base,I.loc,I.cell,I.free,I.gx,λp hp=>I.pin p (by simpa using hp),I.aA,I.len]
theorem Gs(I:Inv (Xp X F pn) zy G H s)(hA:A'.frames=X.A.frames):Inv (Xh X A' pn) [] G H s :=
 #[QJ (Gr I.ok) hA,I.os,I.bare,I.base,I.loc,I.cell,I.free,I.gx,λp hp=>I.pin p (by simp at hp;exact afs _ hp),I.aA,I.len]
theorem SP.QL(h:SP (Xp X F (X.pn++pins)) [] D f s'):SP X pins D f s':=by
 cases f with
 | next=>obtain⟨σ',H',I,q⟩:=h;exact#[σ',H',wQ I,q]
 | brk=>obtain⟨σ',H',I,q⟩:=h;exact#[σ',H',wQ I,q]
 | cont=>obtain⟨σ',H',I,q⟩:=h;exact#[σ',H',wQ I,q]
 | ret u=>obtain⟨v,σ',H',I,r,q⟩:=h;exact#[v,σ',H',wQ I,r,q]
theorem wR(j8:X.Ok)(I:Inv (Xh X A' (X.pn++pins)) [] G H s)(hN:X.N.Nodup)(hi:X.N[i]?=U n)(hl:X.env.scope.names.lookup n=U .local)(h:∀ s',Inv X pins (G.set i O) H s'->Q () s'):adY M A (do bindName X.env n .none;unbindBehindTheSuite X.env n j9) Q E s:=by
 obtain⟨m,hn,hlk⟩:=id I.loc;have zA:(X.env.scope.kind == .class || (X.env.scope.kind == .module && X.env.locals != X.env.globals))=false:=by rw[I.ok.kind];rfl
 have jV:∀ x c,X.env.cells.lookup x=U c->c≠X.env.locals:=I.jV;have Gu:H X.env.locals=O:=I.free;obtain⟨oL,u,u,ED,u⟩:=id hn;refine wpAny_nameGoes_keeps hl hn zA λh' v kM hs=>?_;have tracked:ck X.prog X.w H h':=λb ob e=>by
  refine (I.aA b ob e).stay (λc w' hc q=>(hs.2 c ?_).trans q) (λu q=>q) λu u q=>q;rintro rfl;rcases hc with hc|hc
  .rw[<- hc,Gu] at e;cases e
  .rw[Gu] at hc;cases hc
 have fu:X.s₀.heap.objs.size<=X.env.locals:=j8.above;refine h _ #[j8,I.os,I.bare,#[λb o e nn hb hx=>?_,λb o e nn hb hx=>?_,I.base.free,λb o e hx=>?_,I.base.gu,I.base.fG,I.base.gv],#[_,kM,λj y v' e1 e2 e3=>?_],λy c e=>?_,I.free,I.gx,λp hp=>?_,tracked,by simpa using I.len]
 .exact (hs.2 b (adV (adW (adF e) fu))).trans (I.base.keep b o e nn hb hx)
 .obtain⟨sl,e1⟩:=I.base.slot b o e nn hb hx;exact#[sl,(hs.2 b (adV (adW (adF e) fu))).trans e1]
 .obtain⟨o',e1⟩:=I.base.there b o e hx;exact#[o',(hs.2 b (adV (adW (adF e) fu))).trans e1]
 .have Gv:j≠i:=by
   rintro rfl;by_cases bc:j<G.length
   .rw[ag1 bc] at e2;cases e2
   .rw[aeD (by rw[ajn];lia)] at e2;cases e2
  rw[ahE (aey Gv)] at e2;obtain⟨u',r',q⟩:=hlk j y v' e1 e2 e3;refine#[u',r',?_];rcases q with ⟨k,e⟩|⟨k,c,e,z⟩
  .refine .inl #[k,?_];have:y≠n:=λe=>Gv (zz hN e1 (e ▸ hi));simp[this,e]
  .exact .inr #[k,c,e,z.sameBut hs (jV y c e)]
 .obtain⟨w',z⟩:=I.cell y c e;exact#[w',z.sameBut hs (jV y c e)]
 .obtain⟨e,nn,ne,nf,d⟩:=I.pin p (by simpa using hp);exact#[(hs.2 p.1 ne).trans e,nn,ne,nf,d]
theorem QM(E':XK)(i:Nat)(cW:X.stack=X.env::X.outer)(QN:X.env.frame=U X.env.locals)(hg:Gl X x)(hm:X.mg x=U (.ref G9q))(hN:X.N.Nodup)(hi:X.N[i]?=U n)(hl:X.env.scope.names.lookup n=U .local)(hb:∀ F pn,Passes (dR X.prog X.w) (Xp X F pn) E'->aT (Xp X F pn) body tb)(hh:∀ A' pn,aT (Xh X A' pn) (b₀::suite) th)(hd:(x == ("__debug__" : Str))=false:=by decide)(hf:X.fn n=true∨X.env.scope.names.lookup n=U .local:=by first|exact .inl rfl|exact .inr rfl|assumption) :
 PS X (.Try body [.ExceptHandler (U (.Name x np)) (U n) (b₀::suite) j9] [] [] pos) (QG X.K X.N.length i G9q tb th E'):=by
 intro pins s G H D I h;obtain⟨h1,h2⟩:=h;refine wpAny_Try_except ?_;refine aeO (hb (λe s₁=>adY (model X.prog X.w) X.A (noteFrame e X.env) (λ_ s₂=>adY (model X.prog X.w) X.A (setFlight e O) (λ_ s₃=>adY (model X.prog X.w) X.A (handleBy e X.env [.ExceptHandler (U (.Name x np)) (U n) (b₀::suite) j9]) (SP X pins D) X.xe s₃) X.xe s₂) X.xe s₁) (X.pn++pins) ?_ [] s G H D (QK I) h1) (λf s1 q=>?_) λe s1 q=>q
 .intro zy σ' H1 s1 ev s2 I1 cx;obtain⟨xx,cls,a0,H',B,rfl,os,bare,un,kb,bS,aA,hx,hn,fl,hE⟩:=cx;obtain⟨C,rfl,l8,hth⟩:=h2 cls H' hE;have j8:=I.ok;have tP:X.A.frames=U (X.env::X.outer):=by rw[<- cW];exact j8.frames
  have wO:akE B (X.env::X.outer) xx (.ref C) a0 s2.heap:=by have z:akE B X.stack xx (.ref C) a0 s2.heap:=fl;rw[cW] at z;exact z
  have hF:s1.heap.FunFrames X.base X.stack:=I1.stack;have Ag:∀ b∈bw X.stack,H1 b=O:=I1.sQ;have Gw:∀ h:afH,B.StaysIn h->s2.heap.UpToSlots h->Un (bw X.stack) [] H1 H' s1.heap h:=λh stays up=>by
   have nD:∀ b∈bw X.stack,∀ o,s1.heap.get? b=U o->∃ sl,h.get? b=U { o with slots:=sl }:=λb hb o q=>by obtain⟨_,o',cU,hnf⟩:=hF.mem hb;rw[q] at cU;cases cU;obtain⟨sl,e1⟩:=un.slot b o q (Ag b hb) hb (by simp);obtain⟨fT,e2⟩:=up b _ e1 hnf;exact#[fT,e2]
   refine#[λb o q nn hb bZ=>stays b o (kb b o q nn hb),λb o q nn hb bZ=>nD b hb o q,un.free,λb o q bZ=>?_,un.gu,un.fG,un.gv];by_cases hb:b∈bw X.stack
   .obtain⟨sl,e2⟩:=nD b hb o q;exact#[_,e2]
   .obtain⟨o2,e2⟩:=bS b o q hb;exact#[o2,stays b o2 e2]
  refine wpAny_looks_onW tP QN wO λh₄ QO QP=>?_;refine wpAny_landsW QO λh₅ wU QQ=>?_;have Gx:s2.heap.UpToSlots h₅:=QP.trans QQ;have I5:Inv (Xh X (X.A.mark (U (.ref xx))) (X.pn++pins)) [] σ' H' { s2 with heap:=h₅ }:=by
   refine Gs (I1.zD (s':={ s2 with heap:=h₅ }) (ch:=[]) os (Gw h₅ wU.1 Gx) (aA.kept λb u q=>wU.1 b u q) bare (λb z=>absurd z (by simp))) ?_
   first|rfl|simp
  refine wpAny_handleBy_cons (codeAny_handlers_test ?_) (by intro q;cases q);refine sT (X:=Xh X (X.A.mark (U (.ref xx))) (X.pn++pins)) I5 hg hm ?_ hd;obtain⟨ob,hob,hobc⟩:=wU.there;have LT:PySem.W.Looks (model X.prog X.w) h₅ (alY (.ref xx)) (.ref C):=hobc ▸ (PySem.W.Looks.ld hob).andThen .now;refine (PySem.W.exm_one (M:=model X.prog X.w) (h:=h₅) I5.cv LT l8).here ?_;refine codeAny_handlers_suite_as ?_;refine lands_againW wU λh₆ Ah QS=>?_;have QT:s2.heap.UpToSlots h₆:=Gx.trans QS;obtain⟨oe,hoe,hoec⟩:=Ah.there;have u6:=Gw h₆ Ah.1 QT;have QU:∀ b o,s1.heap.get? b=U o->b≠xx:=λb o q z=>by rw[z,hn] at q;cases q
  have tQ:∀ b o,H' b=U o->b≠xx:=λb o q z=>by rw[z,hx] at q;cases q
  have QV:Un (bw X.stack) [] H1 (upd H' xx (ju xx C)) s1.heap h₆:=by
   refine#[u6.keep,u6.slot,λb o q nn bZ=>?_,u6.there,λb xs q=>?_,λb o u q=>?_,λb ps q=>?_]
   .rw[aK (QU b o q)];exact u6.free b o q nn bZ
   .have:=u6.gu b xs q;rw[aK (tQ b _ this)];exact this
   .have:=u6.fG b o u q;rw[aK (tQ b _ this)];exact this
   .obtain⟨more,z⟩:=u6.gv b ps q;exact#[more,by rw[aK (tQ b _ z)];exact z]
  have QW:ck X.prog X.w (upd H' xx (ju xx C)) h₆:=λb u q=>by
   by_cases cy:b=xx
   .subst cy;rw[au] at q;cases q;exact QD hoe hoec
   .rw[aK cy] at q;exact (aA b u q).stay (λc v _ z=>Ah.1 c v z) (λc z=>by rw[aK (tQ c _ z)];exact z) λc xs z=>by rw[aK (tQ c _ z)];exact z
  have I6:Inv (Xh X (X.A.mark (U (.ref xx))) (X.pn++pins)) [] σ' (upd H' xx (ju xx C)) { s2 with heap:=h₆ }:=by
   refine Gs (I1.zD (s':={ s2 with heap:=h₆ }) (ch:=[]) os QV QW bare (λb z=>absurd z (by simp))) ?_
   first|rfl|simp
  have I7:Inv (Xh X (X.A.mark (U (.ref xx))) (X.pn++pins)) [] (afS X.N.length O) (upd H' xx (ju xx C)) { s2 with heap:=h₆ } :=
   I6.weak (by rw[ahn,I6.len]) λj v z=>by rw[af3] at z;split at z<;>cases z
  refine zC (X:=Xh X (X.A.mark (U (.ref xx))) (X.pn++pins)) (v:=.ref xx) I7 hN hi (.inl hl) Y (λs8 I8=>?_) hf;refine aeO (hh (X.A.mark (U (.ref xx))) (X.pn++pins) [] s8 _ _ _ I8 (hth xx hx)) (λfl s9 q=>?_) λ_ _ z=>z.elim;cases fl with
  | next =>
   obtain⟨σ9,H9,I9,q⟩:=q;exact wR j8 I9 hN hi hl λs' J=>#[_,_,J,q]
  | brk =>
   obtain⟨σ9,H9,I9,q⟩:=q;exact wR j8 I9 hN hi hl λs' J=>#[_,_,J,q]
  | cont =>
   obtain⟨σ9,H9,I9,q⟩:=q;exact wR j8 I9 hN hi hl λs' J=>#[_,_,J,q]
  | ret u =>
   obtain⟨v,σ9,H9,I9,r,q⟩:=q;exact wR j8 I9 hN hi hl λs' J=>#[v,_,_,J,r,q]
 .have q':=SP.QL q;cases f with
  | next =>
   obtain⟨σ',H',I',q'⟩:=q';exact ahN #[σ',H',I',q']
  | brk=>exact q'
  | cont=>exact q'
  | ret u=>exact q'
end
theorem QX{K:adz}{C G9q:adK}{cd:ClassData}{b:Bool}(h1:alH K G9q=U cd)(h2:ajJ K (.ref G9q)=U (.type "type"))(h3:aiO K (.ref C) (.ref G9q)=U b)(h4:aiO K (.ref G9q) (.type "BaseException")=U true) :
 aik K (.ref C) (.ref G9q)=U b:=by
 unfold aik;rw[if_pos (by rw[h4];rfl)];show (if ((alH K G9q).isSome && ajJ K (.ref G9q) == U (.type "type"))=true then aiO K (.ref C) (.ref G9q) else O)=U b;rw[if_pos (by rw[h1,h2];rfl)];exact h3
inductive jx(X:Cx)(scope:ajC)(cl:List (Str × adK)):List Nat->List Str->Prop where
 | nil:jx X scope cl [] []
 | cons {j:Nat} {y:Str} {c:adK} {js:List Nat} {ys:List Str} (hN:X.N[j]?=U y) (hk:X.env.kindOf y=U .cell) (h1:cl.lookup y=U c) (h2:X.env.cells.lookup y=U c) (h:jx X scope cl js ys):jx X scope cl (j::js) (y::ys)
inductive kX(X:Cx):List (Str × adK)->Prop where
 | nil:kX X []
 | cons {n:Str} {a:adK} {r:List (Str × adK)} (h:X.env.cells.lookup n=U a) (t:kX X r):kX X ((n,a)::r)
theorem kX.get:∀ {cl:List (Str × adK)},kX X cl->∀ y c,cl.lookup y=U c->X.env.cells.lookup y=U c:=by
 intro z h y c
 induction h with
 | nil=>intro e;cases e
 | @cons n _ _ h t ih =>
  intro e;rw[List.lookup_cons] at e;by_cases hy:(y == n)=true
  .rw[hy] at e;have e1:y=n:=by simpa using hy
   cases e;rw[e1];exact h
  .rw[ahb.mpr hy] at e;exact ih e
theorem jx.get{X:Cx}{scope:ajC}{cl:List (Str × adK)}{G:L2.St}:∀ {js:List Nat} {ys:List Str},jx X scope cl js ys->∀ (i:Nat) (y:Str) (v:V),ys[i]?=U y->(js.map λj=>(G[j]?).join)[i]?=U (U v) ->
 ∃ (j:Nat) (c:adK),X.N[j]?=U y/\G[j]?=U (U v)/\X.env.kindOf y=U .cell/\cl.lookup y=U c/\X.env.cells.lookup y=U c:=by
 intro js ys h
 induction h with
 | nil=>intro i y v e;cases e
 | cons hN hk h1 h2 h ih =>
  rename_i j _ _ _ _;intro i y v e q;cases i with
  | zero =>
   cases e;refine#[j,_,hN,?_,hk,h1,h2];cases z:G[j]? with
   | none=>rw[adU,z] at q;cases q
   | some o=>rw[adU,z] at q;cases q;rfl
  | succ i=>exact ih i y v e q
theorem jx.len:∀ {js:List Nat} {ys:List Str},jx X scope cl js ys->js.length=ys.length:=by
 intro y y h
 induction h with
 | nil=>rfl
 | cons _ _ _ _ _ ih=>exact congrArg (· + 1) ih
noncomputable def eO(X:Cx)(N':List Str)(scope:ajC)(cl:List (Str × adK))(C:adK)(s2:adQ)(H2:Hp)(ex:List adK)(pn:List (adK × Obj)):Cx :=
 { X with N:=N',s₀:=s2,H₀:=H2,env:=alI scope cl C X.env,outer:=X.stack,ex:=ex,fn:=λy=>false,pn:=pn,xe:=λy y=>False }
structure oP(X:Cx)(x:Str)(scope:ajC)(cl:List (Str × adK))(fr:List Nat)(ys:List Str):Prop where
 clos:alA scope X.env=pure cl
 nocell:(scope.names.all λp=>p.2 != .cell)=true
 kind:scope.kind = .function
 names:(scope.names.all λp=>p.2 != .local || scope.names.lookup p.1 == U .local)=true
 own:scope.names.lookup x=U .local
 kinds:((relabel scope X.env).names.all λp=>(p.2 != .cell && p.2 != .free) || (cl.lookup p.1).isSome)=true
 cls:kX X cl
 bw:jx X scope cl fr ys
 nd:(x::ys).Nodup
 kfr:(ys.all λy=>(relabel scope X.env).names.lookup y == U .cell)=true
def md(X:Cx)(ifs:List ahx)(t:TT):Prop :=
 ∀ (pins:List (adK × Obj)) (s:adQ) (G:L2.St) (H:Hp) (Q:Bool->Hp->Prop),Inv X pins G H s->t G H Q ->
  adY (model X.prog X.w) X.A (forIn ifs true λc r=>if r=true then do let ok <- alU c X.env (eval c X.env);pure (ahT ok) else pure (ahT r)) (TP X pins G Q) X.xe s
def Ai:TT:=λy H Q=>Q true H
theorem dH:md X [] Ai:=λy y y H y I h=>wpAny_tests_nil #[H,I,h]
theorem mf(hc:PT X c t):md X [c] t:=λpins s G H Q I h=>wpAny_tests_one (hc pins s G H Q I h)
def nE(J:It)(ρ:L2.St)(tt:TT)(te:TE)(H:Hp)(Q:VK):Prop:=∃ W:Nat->Nat->List V->Hp->Prop,(∃ m,W 0 m [] H)/\∀ i m ys H,W i m ys H ->
 (J.stop i H/\ys.length<=ad1/\∀ l,H l=O->Q (.ref l) (upd H l (.lst ys)))∨(J.go i H/\ys.length<ad1/\∃ N:List V->Hp->Prop,(∀ zs H',N zs H'->∃ m',m'<m/\W (i+1) m' zs H') /\
  ∀ x H',J.yld i H x H'->tt (U x::ρ) H' λb H1=>if b=true then te (U x::ρ) H1 λy H2=>N (ys++[y]) H2 else N ys H1)
def Aj(wi:TI)(fr:List Nat)(tt:TT)(te:TE):TE:=λG H Q=>wi G H λJ H1=>nE J (fr.map λj=>(G[j]?).join) tt te H1 Q
structure mh(X:Cx)(own:List Str)(scope:ajC)(cl:List (Str × adK))(fr:List Nat)(ys:List Str):Prop where
 clos:alA scope X.env=pure cl
 nocell:(scope.names.all λp=>p.2 != .cell)=true
 kind:scope.kind = .function
 names:(scope.names.all λp=>p.2 != .local || scope.names.lookup p.1 == U .local)=true
 kinds:((relabel scope X.env).names.all λp=>(p.2 != .cell && p.2 != .free) || (cl.lookup p.1).isSome)=true
 cls:kX X cl
 bw:jx X scope cl fr ys
 kfr:(ys.all λy=>(relabel scope X.env).names.lookup y == U .cell)=true
def kY(k:Nat)(J:It)(g:TG)(ρ:L2.St)(tt:TT)(te:TE)(H:Hp)(Q:VK):Prop:=∃ W:Nat->Nat->List V->Hp->Prop,(∃ m,W 0 m [] H)/\∀ i m ys H,W i m ys H ->
 (J.stop i H/\ys.length<=ad1/\∀ l,H l=O->Q (.ref l) (upd H l (.lst ys)))∨(J.go i H/\ys.length<ad1/\∃ N:List V->Hp->Prop,(∀ zs H',N zs H'->∃ m',m'<m/\W (i+1) m' zs H') /\
  ∀ os:List (Option V),os.length=k->∀ x H',J.yld i H x H'->g x (os++ρ) H' λσ2 H2=>∃ qw,qw.length=k/\σ2=qw++ρ/\tt σ2 H2 λb H1=>if b=true then te σ2 H1 λy H2=>N (ys++[y]) H2 else N ys H1)
def Gy(k:Nat)(wi:TI)(g:TG)(fr:List Nat)(tt:TT)(te:TE):TE:=λG H Q=>wi G H λJ H1=>kY k J g (fr.map λj=>(G[j]?).join) tt te H1 Q
theorem QY(I:Nat->adQ->Prop)(turn:∀ n s,I n s->adY (model prog w) A (agv it) (λr s₁=>match r with
 | none=>R (.ok .next) s₁
 | some v=>adY (model prog w) A (ahP target it v) (λ_ GA=>adY (model prog w) A (assign target env v) (λ_ s₂ =>
  adY (model prog w) A (forIn ifs true λc r=>if r=true then do let ok <- alU c env (eval c env);pure (ahT ok) else pure (ahT r)) (λok s₃ =>
   if ok=true then adY (model prog w) A (eval elt env) (λx s₄ =>
    adY (model prog w) A (call (.builtin "list.append") [acc,x]) (λ_ s₅=>∃ m,m<n/\I m s₅) (ak4 (model prog w) A env λe s'=>R (.error e) s') s₄) (ak4 (model prog w) A env λe s'=>R (.error e) s') s₃
   else ∃ m,m<n/\I m s₃) (ak4 (model prog w) A env λe s'=>R (.error e) s') s₂) (ak4 (model prog w) A env λe s'=>R (.error e) s') GA) (ak4 (model prog w) A env λe s'=>R (.error e) s') s₁) (ak4 (model prog w) A env λe s'=>R (.error e) s') s) (n:Nat) (h:I n s) :
 ags (model prog w) A (.compLoop (.ListComp elt [#[target,iter,ifs,0]] scope pos) 0 it acc env) R s:=by
 refine codeAny_loop Y I (λn s hI=>?_) n h;show adY _ A ((compTurn (.ListComp elt [#[target,iter,ifs,0]] scope pos) 0 it acc env).onRaise (λx=>do noteFrame x env;theTreesLotGoes x)) _ _ s;refine wpAny_noted ?_;rw[compTurn_list];refine ady (aj3 (ady (aeO (turn n s hI) (λr s₁ h₁=>?_) λ_ _ h'=>h')));cases r with
 | none=>exact adD h₁
 | some v =>
  refine ady (aeO h₁ (λ_ GA QZ=>?_) λ_ _ h'=>h');refine ady (aeO QZ (λ_ s₂ h₂=>ady (aeO h₂ (λok s₃ h₃=>?_) λ_ _ h'=>h')) λ_ _ h'=>h');cases ok with
  | false=>exact adD #[Y,h₃]
  | true =>
   exact ady (ady (aeO h₃ (λx s₄ h₄=>ady (aeO h₄ (λ_ s₅ h₅=>adD (adD #[Y,h₅])) λ_ _ h'=>h')) λ_ _ h'=>h'))
theorem GB{l:List (Str × ajA)}{p:Str × ajA->Bool}(h:l.all p=true){y:Str}{k:ajA}(e:l.lookup y=U k):p (y,k)=true:=by exact aeM.mp h _ (afz e)
def Ak(i:Nat)(te:TE):TS:=λD G H=>te G H λv H1=>D.nx (G.set i (U v)) H1
section
theorem Q3(S:mh X own scope cl fr ys)(I2:Inv X pins G H2 s2)(f2:∀ b∈ex,eZ X pins H2 b)(hC:s2.heap.objs.size<=C)(hex:∀ b∈ex,b<s2.heap.objs.size):(eO X (own++ys) scope cl C s2 H2 ex pn).Ok:=by
 refine#[I2.ok.mod,S.kind,I2.ok.glob,I2.ok.blt,hC,λa b c h1 h2=>?_,λy hy=>?_,λv v z=>(nomatch z),I2.ok.hd,I2.ok.frames,.inl rfl,λb hb=>#[?_,λy c e z=>?_],I2.bs,adG I2.ok.bsz I2.sz,λb o e hb=>?_,λb hb z=>?_,I2.stack,I2.sQ]
 .exact I2.ok.inj a b c (S.cls.get a c h1) (S.cls.get b c h2)
 .have Q4:(relabel scope X.env).names.lookup y=U .cell∨(relabel scope X.env).names.lookup y=U .free:=hy;have q:(cl.lookup y).isSome=true:=by
   rcases Q4 with e|e
   .simpa using GB S.kinds e
   .simpa using GB S.kinds e
  exact agJ.mp q
 .exact adV (adW (hex b hb) hC)
 .exact (f2 b hb).2.2.2.2.1 y c (S.cls.get y c e) z
 .obtain⟨v,v,v,d,v,v⟩:=f2 b hb;rcases d with d|d
  .exact I2.ok.noex b o e d
  .exact absurd (adW (adF e) (adG I2.ok.bsz d)) (aeY _)
 .obtain⟨v,d1,d2,v⟩:=f2 b hb;rcases adL.mp (I2.qm b z) with q|q
  .exact d1 q
  .exact d2 q
noncomputable def ke(X:Cx)(N':List Str)(fn:Str->Bool)(scope:ajC)(cl:List (Str × adK))(C:adK)(s2:adQ)(H2:Hp)(ex:List adK)(pn:List (adK × Obj)):Cx :=
 { X with N:=N',s₀:=s2,H₀:=H2,env:=alI scope cl C X.env,outer:=X.stack,ex:=ex,fn:=fn,pn:=pn,xe:=λy y=>False }
theorem GC{C D:adK}{fp:List adK}(I2:Inv X pins G H2 s2)(f2:∀ b∈fp,eZ X pins H2 b)(hC:s2.heap.objs.size<=C)(hD:s2.heap.objs.size<=D):∀ p∈X.pn++pins,p.1≠C/\p.1≠D/\p.1∉bw X.stack/\∀ b∈fp,p.1≠b:=λp hp=>by
 obtain⟨e,n,nL,nf,y⟩:=I2.pin p hp;have lt:=adF e;refine#[by walk_at "o",by walk_at "o",λz=>?_,λb hb=>(f2 b hb).2.2.2.2.2 p hp];rcases adL.mp (I2.qm _ z) with q|q
 .exact nL q
 .exact nf q
theorem Q5{J:It}{fp:List adK}{it C D:adK}{tn:Nat->afH->Prop}{Q:VK}{RR:adH->adK->akA->adQ->Prop}{nm:List Str}{fn:Str->Bool}{k:Nat}{Al ρ:List (Option V)}{h1:afH}{tk:Nat}
 (hc:X.calm=true) (hg:PG (ke X nm fn scope cl C s2 H2 fp (X.pn++pins)) tg g) (hb:md (ke X nm fn scope cl C s2 H2 fp (X.pn++pins)) ifs tt/\PE (ke X nm fn scope cl C s2 H2 fp (X.pn++pins)) elt te)
 (I2:Inv X pins G H2 s2) (T:Turn X.prog X.w X.K tg J fp it tn) (iO:tn 0 s2.heap) (f2:∀ b∈fp,eZ X pins H2 b)
 (h:kY k J g ρ tt te H2 Q)
 (Am:∀ D C s' H',Inv X pins G H' s'->(∃ m,s'.heap.Ns C m)->eZ X pins H' C->Q (.ref D) H'->RR (.ref D) C (.ok .next) s')
 (oQ:Al.length=k) (I4:Inv (ke X nm fn scope cl C s2 H2 fp (X.pn++pins)) [] (Al++ρ) H2 { s2 with heap:=h1,toks:=tk }) (keep:∀ b o,s2.heap.get? b=U o->h1.get? b=U o)
 (hD:h1.get? D=U { cls:=.type "list",data:=.seq ([]:List adH).toArray 0 }) (eD:s2.heap.objs.size=D) (eC:s2.heap.objs.size+1=C)
 (bf:∀ y c,cl.lookup y=U c->c≠D/\∀ b∈fp,c≠b) :
 ags (model X.prog X.w) X.A (.compStart (.ListComp elt [#[tg,iter,ifs,0]] scope pos) 0 (.ref it) (.ref D) (alI scope cl C X.env)) (RR (.ref D) C) { s2 with heap:=h1,toks:=tk }:=by
 obtain⟨W,⟨m0,w0⟩,turn⟩:=h;have oR:D≠C:=by walk_at "o"
 have qH:s2.heap.objs.size<=C:=by walk_at "o"
 have tR:s2.heap.objs.size<=D:=by walk_at "o"
 have oT:∀ b∈fp,b<D:=λb hb=>by obtain⟨o,e,_⟩:=T.obj 0 _ iO b hb;exact eD ▸ adF e
 have Q6:∀ b,D<=b->b∉bw X.stack:=λb hle z=>by
  rcases adL.mp (I2.qm b z) with q|q
  .have:=I2.lt;walk_at "o"
  .exact I2.EA (eD ▸ hle) q
 have An:=GC I2 f2 qH tR;have GD:tn 0 h1:=T.keep 0 _ _ iO λb _ o e=>keep b o e;have Ao:∀ (H':Hp) (o:Obj),(∀ b∈fp,H' b=O)->∀ b∈fp,eZ (ke X nm fn scope cl C s2 H2 fp (X.pn++pins)) [(D,o)] H' b:=λH' o hn b hb=>by
  obtain⟨_,d1,d2,d3,d4,d5⟩:=f2 b hb;have lt:=oT b hb;refine#[hn b hb,?_,λz=>?_,.inl hb,λy c e z=>(bf y c e).2 b hb z,λp hp=>?_]
  .show b≠C;walk_at "o"
  .rcases adL.mp (I2.qm b z) with q|q
   .exact d1 q
   .exact d2 q
  .have dI:p∈(X.pn++pins)++[(D,o)]:=hp;rcases aec.mp dI with z|z
   .exact d5 p z
   .have:p=(D,o):=by simpa using z
    subst this;show D≠b;walk_at "o"
 have loop:∀ s':adQ,s' = { s2 with heap:=h1,toks:=tk } ->
  ags (model X.prog X.w) X.A (.compLoop (.ListComp elt [#[tg,iter,ifs,0]] scope pos) 0 (.ref it) (.ref D) (alI scope cl C X.env)) (RR (.ref D) C) s':=by
  rintro s' rfl;refine QY (λn s'=>∃ i zs H' os ax nn,os.length=k/\Inv (ke X nm fn scope cl C s2 H2 fp (X.pn++pins)) [] (os++ρ) H' s'/\tn i s'.heap/\(∀ b∈fp,H' b=O)/\H' D=O /\
   s'.heap.get? D=U { cls:=.type "list",data:=.seq (ax:List adH).toArray nn }/\Vals zs ax/\W i n zs H') ?_ m0 #[0,[],H2,Al,[],0,oQ,I4,GD,λb hb=>(f2 b hb).1,I2.aA.fresh tR,hD,.nil,w0]
  rintro n s3 ⟨i,zs,H3,GF,ax,nn,Q7,I3,tq,tu,Ap,Q8,r3,w3⟩;have GG:Inv (ke X nm fn scope cl C s2 H2 fp (X.pn++pins)) [(D,{ cls:=.type "list",data:=.seq ax.toArray nn })] (GF++ρ) H3 s3:=I3.sS λp hp=>by
   have:p=(D,{ cls:=.type "list",data:=.seq ax.toArray nn }):=by simpa using hp
   subst this;exact#[Q8,Ap,oR,Q6 D (adJ _),λv z=>nomatch z]
  rcases turn i n zs H3 w3 with ⟨stop,hlen,q⟩|⟨go,hlen,N,GH,step⟩
  .refine aeO (T.done (ke X nm fn scope cl C s2 H2 fp (X.pn++pins)) Y Y Y hc i _ s3 _ H3 (λ_ _=>False) GG (Ao H3 _ tu) tq stop) (λr s4 zq=>?_) λ_ _ z=>z.elim;obtain⟨hr,J4⟩:=zq;subst hr;have un:=J4.base;have Ra:∀ b o,s2.heap.get? b=U o->b≠D:=λb o e=>by have:=adF e;walk_at "o"
   have mj:∀ b u,H3 b=U u->b≠D:=λb u e z=>by rw[z,Ap] at e;cases e
   refine Am D C s4 (upd H3 D (.lst zs)) ?_ ?_ ?_ (q D Ap)
   .refine I2.zD (ch:=fp) J4.os #[un.keep,un.slot,λb o e nn hx=>?_,un.there,λb xs e=>?_,λb o u e=>?_,λb ps e=>?_] (λa o e=>?_) J4.bare λb hb=>?_
    .rw[aK (Ra b o e)];exact un.free b o e nn hx
    .have:=un.gu b xs e;rw[aK (mj b _ this)];exact this
    .have:=un.fG b o u e;rw[aK (mj b _ this)];exact this
    .obtain⟨more,this⟩:=un.gv b ps e;exact#[more,by rw[aK (mj b _ this)];exact this]
    .by_cases ha:a=D
     .subst ha;rw[au] at e;cases e;exact#[hlen,ax,nn,r3,(J4.pin (a,_) (ad9 _ (ad8.mpr Y))).1]
     .rw[aK ha] at e;exact (J4.aA a o e).stay (λ_ _ _ z=>z) (λb z=>by rw[aK (mj b _ z)];exact z) λb xs z=>by rw[aK (mj b _ z)];exact z
    .obtain⟨_,d1,d2,d3,d4,d5⟩:=f2 b hb;exact#[d3,d1,d4,d5]
   .obtain⟨m,hm,_⟩:=J4.loc;exact#[m,hm]
   .exact I2.ji qH (by rw[aK (aey oR)];exact J4.free)
  .refine aeO (T.item (ke X nm fn scope cl C s2 H2 fp (X.pn++pins)) Y Y Y hc i _ s3 _ H3 (λ_ _=>False) GG (Ao H3 _ tu) tq go) (λr s4 zq=>?_) λ_ _ z=>z.elim;obtain⟨u,hr,h4⟩:=zq;subst hr;refine aeO h4 (λ_ s5 zq=>?_) λ_ _ z=>z.elim;obtain⟨y5,H5,I5,r5,yl,oB,zN⟩:=zq;have zO:=I5.pinned (Ao H5 _ zN) (T.obj _ _ oB);refine aeO (hg _ s5 _ H5 y5 u _ zO r5 (step GF Q7 y5 H5 yl)) (λ_ s6 zq=>?_) λ_ _ z=>z.elim;obtain⟨σ6,H6,I6,wV,GI,e6,q6⟩:=zq;subst e6;have after:∀ (s7:adQ) (H7:Hp),Inv (ke X nm fn scope cl C s2 H2 fp (X.pn++pins)) ([(D,{ cls:=.type "list",data:=.seq ax.toArray nn })]++tj fp s5.heap) (wV++ρ) H7 s7 ->
    Inv (ke X nm fn scope cl C s2 H2 fp (X.pn++pins)) [] (wV++ρ) H7 s7/\tn (i+1) s7.heap/\(∀ b∈fp,H7 b=O)/\H7 D=O/\s7.heap.get? D=U { cls:=.type "list",data:=.seq ax.toArray nn }:=λs7 H7 I7=>by
    have pD:=I7.pin (D,{ cls:=.type "list",data:=.seq ax.toArray nn }) (ad9 _ (afs _ (ad8.mpr Y)));refine#[I7.sS λp hp=>absurd hp (by simp),T.keep _ _ _ oB λb hb o e=>(I7.pin (b,o) (ad9 _ (ad9 _ (wc hb e)))).1,λb hb=>?_,pD.2.1,pD.1];obtain⟨o,e,_⟩:=T.obj _ _ oB b hb;exact (I7.pin (b,o) (ad9 _ (ad9 _ (wc hb e)))).2.1
   refine aeO (hb.1 _ s6 _ H6 _ I6 q6) (λok s7 zq=>?_) λ_ _ z=>z.elim;obtain⟨H7,I7,q7⟩:=zq
   try dsimp only at q7
   by_cases aA:ok=true
   .rw[if_pos aA] at q7 ⊢;refine aeO (hb.2 _ s7 _ H7 _ I7 q7) (λyv s8 zq=>?_) λ_ _ z=>z.elim;obtain⟨y8,H8,I8,r8,n8⟩:=zq;obtain⟨m',Aq,w8⟩:=GH _ _ n8;obtain⟨J8,Rb,Rc,GJ,Ar⟩:=after s8 H8 I8;have hl:=r3.length;refine ako aj6 #[_,Ar,Y] ajS (ajD _ _) (akp D ax.toArray nn yv (by rw[adS];walk_at "o")) #[Ar,?_];have GK:=PySem.IsL.update Ar (λa=>a.push yv);rw[List.push_toArray] at GK;refine#[m',Aq,i+1,zs++[y8],H8,wV,ax++[yv],_,GI,J8.turned (it:=D) (λb o cy e=>(adZ _ _ (aey cy)).trans e) GJ oR (.inr tR) (λy c e z=>?_) (λp hp=>?_),T.keep _ _ _ Rb λb cy o e=>?_,Rc,GJ,GK,r3.append (.cons r8 .nil),w8]
    .exact (bf y c e).1 z
    .have dI:p∈X.pn++pins:=by have:p∈(X.pn++pins)++[]:=hp;simpa using this
     exact (An p dI).2.1
    .have:=oT b cy;exact (adZ _ _ (by walk_at "o")).trans e
   .rw[if_neg aA] at q7 ⊢;obtain⟨m',Aq,w7⟩:=GH _ _ q7;obtain⟨J7,Rf,Rg,Rh,Ri⟩:=after s7 H7 I7;exact#[m',Aq,i+1,zs,H7,wV,ax,nn,GI,J7,Rf,Rg,Rh,Ri,r3,w7]
 exact codeAny_compStart_list (loop _ Y) (T.self X.A 0 _ _ _ GD (loop _ Y))
theorem GL{J:It}{fp:List adK}{it:adK}{tn:Nat->afH->Prop}{E:adH->adQ->Prop}{Q:VK}{RR:adH->adK->akA->adQ->Prop}
 (S:mh X own scope cl fr ys) (hc:X.calm=true) (hg:∀ (C:adK) (s:adQ) (H:Hp) (ex:List adK) (pn:List (adK × Obj)),PG (eO X (own++ys) scope cl C s H ex pn) tg g)
 (hb:∀ (C:adK) (s:adQ) (H:Hp) (ex:List adK) (pn:List (adK × Obj)),md (eO X (own++ys) scope cl C s H ex pn) ifs tt/\PE (eO X (own++ys) scope cl C s H ex pn) elt te)
 (I2:Inv X pins G H2 s2) (T:Turn X.prog X.w X.K tg J fp it tn) (iO:tn 0 s2.heap) (f2:∀ b∈fp,eZ X pins H2 b)
 (h:kY own.length J g (fr.map λj=>(G[j]?).join) tt te H2 Q)
 (Am:∀ D C s' H',Inv X pins G H' s'->(∃ m,s'.heap.Ns C m)->eZ X pins H' C->Q (.ref D) H'->RR (.ref D) C (.ok .next) s') :
 adY (model X.prog X.w) X.A (amf []) (λacc s3=>adY (model X.prog X.w) X.A (newFunctionEnv scope X.env.globals cl [] X.env.qual O .none (U X.env)) (λGN s4 =>
  ags (model X.prog X.w) X.A (.compStart (.ListComp elt [#[tg,iter,ifs,0]] scope pos) 0 (.ref it) acc { GN with scope:=relabel scope X.env }) (RR acc GN.locals) s4) E s3) E s2:=by
 refine aeP (wpAny_newFunctionEnv (λy hy=>by simpa using aeM.mp S.nocell y hy) (λy hy=>absurd hy (by simp)) (λh1 oM kZ=>?_) S.kind);dsimp only at oM kZ ⊢;generalize eP:s2.heap.push { cls:=.type "list",dict:=O,data:=.seq ([]:List adH).toArray }=P2 at oM kZ ⊢;have sz:P2.objs.size=s2.heap.objs.size+1:=by rw[<- eP,afR]
 have oR:s2.heap.objs.size≠P2.objs.size:=by walk_at "o"
 have keep:∀ b o,s2.heap.get? b=U o->h1.get? b=U o:=λb o e=>by have lt:=adF e;exact kZ.extBut b o (by walk_at "o") (adE _ (eP ▸ adE _ e))
 have hD:h1.get? s2.heap.objs.size=U { cls:=.type "list",data:=.seq ([]:List adH).toArray 0 } :=
  kZ.extBut _ _ oR (adE _ (eP ▸ adN _ Y))
 generalize eC:P2.objs.size=C at oM kZ oR ⊢;generalize eD:s2.heap.objs.size=D at oR hD;have qH:s2.heap.objs.size<=C:=by walk_at "o"
 have tR:s2.heap.objs.size<=D:=by walk_at "o"
 have oT:∀ b∈fp,b<s2.heap.objs.size:=λb hb=>by obtain⟨o,e,_⟩:=T.obj 0 _ iO b hb;exact adF e
 have Rj:(eO X (own++ys) scope cl C s2 H2 fp (X.pn++pins)).Ok:=Q3 S I2 f2 qH (λb hb=>by have:=oT b hb;walk_at "o");have An:=GC I2 f2 qH tR;have I4:Inv (eO X (own++ys) scope cl C s2 H2 fp (X.pn++pins)) [] ((own.map λ_=>O)++fr.map λj=>(G[j]?).join) H2 { s2 with heap:=h1,toks:=s2.toks+([]:List (Str × adH)).length }:=by
  refine#[Rj,Y,I2.bare,Un.kept keep,#[_,oM,λi y v e1 e2 e3=>?_],λy c e=>?_,I2.aA.fresh qH,λy c e=>I2.gx y c (S.cls.get y c e),λp hp=>?_,I2.aA.kept keep,?_]
  .by_cases hio:i<own.length
   .rw[aeu (by simpa using hio)] at e2;simp[hio] at e2
   .rw[aeK (by simp;lia)] at e2;have wW:ys[i-own.length]?=U y:=by
     have:(own++ys)[i]?=U y:=e1
     rwa [aeK (by lia)] at this
    rw[adA] at e2;obtain⟨j,c,hN,hσ,hk,Rk,mn⟩:=S.bw.get (i-own.length) y v wW e2;obtain⟨m,hm,hl⟩:=I2.loc;obtain⟨u,ru,lu⟩:=hl j y v hN hσ (.inr (.inl hk));refine#[u,ru,.inr #[.inl ?_,c,Rk,?_]]
    .have z:=aeM.mp S.kfr y (ad3 wW);exact (by simpa using z:(relabel scope X.env).names.lookup y=U .cell)
    .rcases lu with ⟨z,_⟩|⟨_,c',e',q'⟩
     .rw[hk] at z;cases z
     .rw[mn] at e';cases e';obtain⟨o,ho,hd⟩:=q';exact#[o,keep _ _ ho,hd]
  .obtain⟨v,o,ho,hd⟩:=I2.cell y c (S.cls.get y c e);exact#[v,o,keep _ _ ho,hd]
  .have dI:p∈X.pn++pins:=by have:p∈(X.pn++pins)++[]:=hp;simpa using this
   obtain⟨e,n,_,_,d⟩:=I2.pin p dI;obtain⟨p1,_,p3,_⟩:=An p dI;exact#[keep _ _ e,n,p1,p3,d]
  .show ((own.map λ_=>(O:Option V))++fr.map λj=>(G[j]?).join).length=(own++ys).length;simp[S.bw.len]
 refine Q5 hc (hg C s2 H2 fp (X.pn++pins)) (hb C s2 H2 fp (X.pn++pins)) I2 T iO f2 h Am (by simp) I4 keep hD eD (sz.symm.trans eC) λy c e=>?_;obtain⟨v,o,ho,_⟩:=I2.cell y c (S.cls.get y c e);have:=adF ho;exact#[by walk_at "o",λb hb z=>(f2 b hb).2.2.2.2.1 y c (S.cls.get y c e) z]
theorem GO{wi:TI}{B:L2.St->It->Hp->VK->Prop}(S:mh X own scope cl fr ys)(hc:X.calm=true)(hi:PI X tg iter wi)(hg:∀ (C:adK) (s:adQ) (H:Hp) (ex:List adK) (pn:List (adK × Obj)),PG (eO X (own++ys) scope cl C s H ex pn) tg g)
 (hb:∀ (C:adK) (s:adQ) (H:Hp) (ex:List adK) (pn:List (adK × Obj)),md (eO X (own++ys) scope cl C s H ex pn) ifs tt/\PE (eO X (own++ys) scope cl C s H ex pn) elt te)
 (hB:∀ ρ J H Q,B ρ J H Q->kY own.length J g ρ tt te H Q) (hs:∀ z,afW iter X.env z=pure z:=by intro v;rfl):PE X (.ListComp elt [#[tg,iter,ifs,0]] scope pos) (λG H Q=>wi G H λJ H1=>B (fr.map λj=>(G[j]?).join) J H1 Q):=by
 intro pins s G H Q I h;rw[eval_ListComp];refine aiy (use:=O) Y hs S.clos S.kind (λy hy hl=>?_) (aI (hi pins s G H _ I h) λxv s1 h1=>aI h1 λwb s2 h2=>?_)
 .have z:=aeM.mp S.names y hy;rw[hl] at z;simpa using z
 .obtain⟨it,fp,tn,J,H2,rfl,I2,T,iO,f2,mq⟩:=h2;refine GL (RR:=λacc C=>compPost (model X.prog X.w) X.A X.xe O (EP X pins G Q) acc C) S hc hg hb I2 T iO f2 (hB _ _ _ _ mq) λD C s' H' J' hn fC q=>?_;obtain⟨m,hm⟩:=hn;obtain⟨c0,c1,c2,c3,c4,c5⟩:=fC;exact#[m,hm,λh' sb=>#[.ref D,H',J'.turned (it:=C) (λb o hb e=>sb.extBut b o hb e) c0 c1 c3 c4 c5,Y,q]]
theorem Rl{wi:TI}{B:L2.St->It->Hp->VK->Prop}{y:Str}{py wX:Pos}{i:Nat}(S:mh X own scope cl fr ys)(hc:X.calm=true)(hN:X.N.Nodup)(hy:X.N[i]?=U y)(hl:X.env.scope.names.lookup y=U .local)(hi:PI X tg iter wi)(hg:∀ (C:adK) (s:adQ) (H:Hp) (ex:List adK) (pn:List (adK × Obj)),PG (eO X (own++ys) scope cl C s H ex pn) tg g)
 (hb:∀ (C:adK) (s:adQ) (H:Hp) (ex:List adK) (pn:List (adK × Obj)),md (eO X (own++ys) scope cl C s H ex pn) ifs tt/\PE (eO X (own++ys) scope cl C s H ex pn) elt te)
 (hB:∀ ρ J H Q,B ρ J H Q->kY own.length J g ρ tt te H Q) (tS:ahO (.ListComp elt [#[tg,iter,ifs,0]] scope pos) (U (.Name y py)) wX.line X.env=pure true:=by rfl)
 (hs:∀ z,afW iter X.env z=pure z:=by intro _;rfl):PS X (.Assign [.Name y py] (.ListComp elt [#[tg,iter,ifs,0]] scope pos) wX) (Ak i λG H Q=>wi G H λJ H1=>B (fr.map λj=>(G[j]?).join) J H1 Q):=by
 intro pins s G H Dn I h;rw[exec_Assign_Name_used _ _ _ _ tS];refine ady (aj3 (ady ?_));show adY _ X.A (do let _ <- comprehension (.ListComp elt [#[tg,iter,ifs,0]] scope pos) scope X.env _ (amf []) false (eval iter X.env) (U (assign (.Name y py) X.env))) _ _ s;refine ady (aI (aiy (use:=U (assign (.Name y py) X.env)) (Q:=λ_ s'=>SP X pins Dn .next s') Y hs S.clos S.kind (λz hz hl=>?_) (aI (hi pins s G H _ I h) λxv s1 h1=>aI h1 λwb s2 h2=>?_)) λ_ s' hq=>adD (adD hq))
 .have z':=aeM.mp S.names z hz;rw[hl] at z';simpa using z'
 .obtain⟨it,fp,tn,J,H2,rfl,I2,T,iO,f2,mq⟩:=h2;refine GL (RR:=λacc C=>compPost (model X.prog X.w) X.A X.xe (U (assign (.Name y py) X.env)) (λ_ s'=>SP X pins Dn .next s') acc C) S hc hg hb I2 T iO f2 (hB _ _ _ _ mq) λD C s' H' J' hn fC q=>?_;obtain⟨m,oC,es,ep,ho,hd,hr⟩:=hn;obtain⟨c0,c1,c2,c3,c4,c5⟩:=fC;have J2:Inv X (pins++[(C,oC)]) G H' s':=J'.sS λp hp=>by
   rcases aec.mp hp with z|z
   .exact J'.pin p (ad9 _ z)
   .have:p=(C,oC):=by simpa using z
    subst this;exact#[ho,c0,c1,c2,λv z=>by rw[hd] at z;cases z]
  show adY _ X.A (assign (.Name y py) X.env (.ref D)) _ _ _;refine aI (jh (X:=X) hN hy (.inl hl) (.inr hl) _ s' G H' (.ref D) (.ref D) (λσ' gU=>σ'=G.set i (U (.ref D))/\gU=H') J2 Y #[Y,Y]) λ_ s3 zq=>?_;obtain⟨σ3,H3,J3,e1,e2⟩:=zq;subst e1 e2;obtain⟨pc,pn0,_⟩:=J3.pin (C,oC) (ad9 _ (ad9 _ (ad8.mpr Y)));refine#[m,#[oC,es,ep,pc,hd,hr],λh' sb=>#[_,H3,J3.wg.turned (it:=C) (λb o hb e=>sb.extBut b o hb e) c0 c1 c3 c4 c5,q]]
theorem As(S:mh X own scope cl fr ys)(hc:X.calm=true)(hi:PI X tg iter wi)(hg:∀ (C:adK) (s:adQ) (H:Hp) (ex:List adK) (pn:List (adK × Obj)),PG (eO X (own++ys) scope cl C s H ex pn) tg g)(hb:∀ (C:adK) (s:adQ) (H:Hp) (ex:List adK) (pn:List (adK × Obj)),md (eO X (own++ys) scope cl C s H ex pn) ifs tt/\PE (eO X (own++ys) scope cl C s H ex pn) elt te)(hs:∀ z,afW iter X.env z=pure z:=by intro y;rfl):PE X (.ListComp elt [#[tg,iter,ifs,0]] scope pos) (Gy own.length wi g fr tt te):=GO (B:=λρ J H Q=>kY own.length J g ρ tt te H Q) S hc hi hg hb (λy y y y h=>h) hs
end
theorem GP(h:nE J ρ tt te H Q):kY 1 J (cH 0) ρ tt te H Q:=by
 obtain⟨W,w0,turn⟩:=h;refine#[W,w0,λi m ys H hw=>(turn i m ys H hw).imp id λ⟨a,b,N,hN,st⟩=>#[a,b,N,hN,λos ho x H' y=>?_]]
 match os,ho with
 | [_],_=>exact#[[U x],Y,Y,st x H' y]
section
theorem oP.g(S:oP X x scope cl fr ys):mh X [x] scope cl fr ys:=#[S.clos,S.nocell,S.kind,S.names,S.kinds,S.cls,S.bw,S.kfr]
theorem oP.pg(S:oP X x scope cl fr ys)(C:adK)(s:adQ)(H:Hp)(ex:List adK)(pn:List (adK × Obj)):PG (eO X ([x]++ys) scope cl C s H ex pn) (.Name x px) (cH 0) :=
 jh (X:=eO X (x::ys) scope cl C s H ex pn) (i:=0) S.nd Y (.inl (aeb S.own)) (.inr (aeb S.own))
theorem dz(S:oP X x scope cl fr ys)(hc:X.calm=true)(hi:PI X (.Name x px) iter wi)(hb:∀ (C:adK) (s:adQ) (H:Hp) (ex:List adK) (pn:List (adK × Obj)),md (eO X (x::ys) scope cl C s H ex pn) ifs tt/\PE (eO X (x::ys) scope cl C s H ex pn) elt te)(hs:∀ z,afW iter X.env z=pure z:=by intro y;rfl):PE X (.ListComp elt [#[.Name x px,iter,ifs,0]] scope pos) (Aj wi fr tt te):=GO (B:=λρ J H Q=>nE J ρ tt te H Q) S.g hc hi S.pg hb (λy y y y h=>GP h) hs
theorem tT(S:oP X x scope cl fr ys)(hc:X.calm=true)(hN:X.N.Nodup)(hy:X.N[i]?=U y)(hl:X.env.scope.names.lookup y=U .local)(hi:PI X (.Name x px) iter wi)(hb:∀ (C:adK) (s:adQ) (H:Hp) (ex:List adK) (pn:List (adK × Obj)),md (eO X (x::ys) scope cl C s H ex pn) ifs tt/\PE (eO X (x::ys) scope cl C s H ex pn) elt te)(tS:ahO (.ListComp elt [#[.Name x px,iter,ifs,0]] scope pos) (U (.Name y py)) wX.line X.env=pure true:=by rfl)(hs:∀ z,afW iter X.env z=pure z:=by intro v;rfl):PS X (.Assign [.Name y py] (.ListComp elt [#[.Name x px,iter,ifs,0]] scope pos) wX) (Ak i (Aj wi fr tt te)):=Rl (B:=λρ J H Q=>nE J ρ tt te H Q) S.g hc hN hy hl hi S.pg hb (λv v v v h=>GP h) tS hs
end
def fK(Ok:Hp->Prop)(ρ:L2.St)(tt:TT)(te:TE):List V->List V->Hp->(List V->Hp->Prop)->Prop
 | [],ys,H,Q=>Ok H/\Q ys H
 | x::r,ys,H,Q=>Ok H/\tt (U x::ρ) H λb H1=>if b=true then te (U x::ρ) H1 λy H2=>fK Ok ρ tt te r (ys++[y]) H2 Q else fK Ok ρ tt te r ys H1 Q
structure tU(J:It)(Ok:Hp->Prop)(xs:List V):Prop where
 go:∀ i H x,Ok H->xs[i]?=U x->J.go i H
 yld:∀ i H x H',Ok H->J.yld i H x H'->H'=H/\(i<xs.length->xs[i]?=U x)
 stop:∀ i H,Ok H->xs.length<=i->J.stop i H
section
variable{J:It}{Ok:Hp->Prop}{xs:List V}{ρ:L2.St}{tt:TT}{te:TE}{H:Hp}{Q:VK}{K:adz}{a:adK}
theorem cX(O9q:tU J Ok xs)(hn:xs.length<=ad1)(h:fK Ok ρ tt te xs [] H λys H'=>∀ l,H' l=O->Q (.ref l) (upd H' l (.lst ys))):nE J ρ tt te H Q:=by
 refine#[λi m ys H=>m=xs.length-i/\i<=xs.length/\ys.length<=i/\fK Ok ρ tt te (xs.drop i) ys H λys H'=>∀ l,H' l=O->Q (.ref l) (upd H' l (.lst ys)),#[_,Y,ad6 _,adJ _,h],?_];rintro i m ys H ⟨rfl,hi,hy,g⟩;by_cases bc:i<xs.length
 .have e:=aeF bc;rw[e] at g;obtain⟨g0,g1⟩:=g;refine .inr #[O9q.go i H _ g0 (adC bc),by walk_at "o",λzs H'=>zs.length<=i+1/\fK Ok ρ tt te (xs.drop (i+1)) zs H' λys H'=>∀ l,H' l=O->Q (.ref l) (upd H' l (.lst ys)),λzs H' q=>#[_,by walk_at "o",Y,bc,q.1,q.2],λx H' y=>?_];obtain⟨rfl,ex⟩:=O9q.yld i H x H' g0 y;have ex:=ex bc;rw[adC bc] at ex;cases ex;have l1:∀ y:V,(ys++[y]).length<=i+1:=λy=>by rw[adT,aea];walk_at "o"
  have l2:ys.length<=i+1:=by walk_at "o"
  simp only[l1,l2,true_and];exact g1
 .have e:i=xs.length:=by walk_at "o"
  subst e;rw[ai0] at g;exact .inl #[O9q.stop _ H g.1 (adJ _),by walk_at "o",g.2]
theorem kf:tU (kQ K a) (λH=>aj K H a xs) xs :=
 #[λz z z h e=>#[xs,_,h,e],λz z z z h y=>#[y.1,λz=>y.2 xs h],λz z h hi=>#[xs,h,hi]]
theorem GQ:tU (tf K a) (λH=>ak K H a xs) xs :=
 #[λz z z h e=>#[xs,_,h,e],λz z z z h y=>#[y.1,λz=>y.2 xs h],λz z h hi=>#[xs,h,hi]]
theorem iT{lo:Int}{n:Nat}:tU (jk lo n) (λz=>True) ((adM n).map λk=>V.int (lo+(k:Nat))) :=
 #[λi z z z e=>by
  have:=(adI.mp e).1;show i<n;simpa using this,λi z z z z y=>#[y.1,λhi=>by
   have c8:i<n:=by simpa using hi
   rw[y.2,adR,aex c8];rfl],λi z z hi=>by
   show n<=i;simpa using hi]
theorem wY(b7:Ok H):∀ {xs ys:List V},(∀ x∈xs,∀ Q,Q (p x) H->tt (U x::ρ) H Q)->(∀ x∈xs,p x=true->∀ Q,Q (f x) H->te (U x::ρ) H Q)->Q' (ys++(xs.filter p).map f) H->fK Ok ρ tt te xs ys H Q'
 | [],ys,_,_,q=>#[b7,by simpa using q]
 | x::r,ys,ht,he,q=>by
  refine#[b7,ht x (.head _) _ ?_];by_cases hb:p x=true
  .rw[if_pos hb];refine he x (.head _) hb _ (wY b7 (λy hy=>ht y (.tail _ hy)) (λy hy=>he y (.tail _ hy)) ?_);rw[aee,if_pos hb] at q;simpa using q
  .rw[if_neg hb];refine wY b7 (λy hy=>ht y (.tail _ hy)) (λy hy=>he y (.tail _ hy)) ?_;rw[aee,if_neg hb] at q;exact q
end
section
variable{X:Cx}{K:adz}
theorem Rm(h:X.K=K):kT X (iq K):=h ▸ bN
theorem Rn(h:X.K=K):bE X (aeL .NotIn) (z8 K true):=h ▸ Pq
end
theorem Ro{prog:aek}{w:aeS}{A:aff}{E:adH->adQ->Prop}{s:adQ}{id:String}{b:afG}{args:List adH}{kw:List (Str × adH)}{Q:adH->adQ->Prop}(hk:ajT id=O)(hp:ak5 id=true)
 (hb:aib table id=U b) (ha:ai1 id #[args,kw])
 (hc:adY (model prog w) A.in1 (b #[args,kw]) (λfin s'=>match fin with
   | .done f=>(match (Except.ok f:akA) with|.ok (.ret v)=>Q v s'|.ok _=>False|.error e=>E e s')
   | .again c'=>c'.quiet=true/\ags (model prog w) A c' (λr s'=>match r with|.ok (.ret v)=>Q v s'|.ok _=>False|.error e=>E e s') s') E s) :
 adY (model prog w) A (call (.builtin id) args kw) Q E s:=by
 refine akm (agt hp hb ?_);simp only[ahA,hk];cases hsig:Manifest.signature? id with
 | none=>exact adD hc
 | some sig =>
  have tO:Bind.checkArgs id sig #[args,kw]=pure ():=by simpa only [ai1,hsig] using ha
  simp only[tO];exact adD hc
noncomputable def Au:{ F:String->CmpOp->afG // F "max" .Gt=afG.«max.loop»/\F "min" .Lt=afG.«min.loop» }:=#[_,Y,Y]
noncomputable def GR:{ F:String->afG // F "max" = afG.«max»/\F "min" = afG.«min» }:=#[_,Y,Y]
theorem GS{nx id:String}{op:CmpOp}(nm:(toString nx++toString ".loop" : String)=id)(e1:aib table id=U (Au.1 nx op))(e2:ak5 id=true){prog:aek}{w:aeS}{A:aff}{R:akA->adQ->Prop}{I S:adK}{fp wr:List adK}{n:Nat}{P:Nat->adH->Prop}{St:Nat->afH->Prop}{G9q:afH->Prop}{bt:Nat->Nat->Bool}{kw:List (Str × adH)}
 (W:Walks prog w A.in1 I fp wr n P St) (hG:∀ h h',G9q h->(∀ b o,b∉wr->b≠S->h.get? b=U o->h'.get? b=U o)->G9q h')
 (tV:∀ i j vi vj (s:adQ) (Q:adH->adQ->Prop) (E:adH->adQ->Prop),P i vi->P j vj->G9q s.heap->Q (.bool (bt i j)) s->adY (model prog w) A.in1 (aiP op vi vj) Q E s) (hS:S∉fp):∀ (k j:Nat) (s:adQ) (vb:adH) (c:Nat),k+(j+1)=n->St (j+1) s.heap->G9q s.heap->P (ahB bt j) vb ->
  s.heap.get? S=U { cls:=.type "list",dict:=O,data:=.seq (List.toArray [vb,vb]) c,slots:=(List.toArray []) } ->
  (∀ v h' tk,P (ahB bt (n-1)) v->(∀ b o,b∉wr->b≠S->s.heap.get? b=U o->h'.get? b=U o)->R (.ok (.ret v)) { s with heap:=h',toks:=tk }) ->
  ags (model prog w) A (.builtin id #[[.ref I,.none,.ref S],kw]) R s:=by
 have nS:S∉wr:=λz=>hS (W.sub _ z);intro k
 induction k with
 | zero =>
  intro j s vb c e st g pb oS fin;have e':j+1=n:=by walk_at "o"
  refine aeH e1 ?_;rw[aes e2 _];show adY _ A.in1 (aj7 (.ref S) >>= _) _ _ s;refine ady (agw oS Y ?_);show adY _ A.in1 (tryCatch (agv (.ref I)) _ >>= _) _ _ s;refine ady (agx (W.done s _ _ (e' ▸ st) λh1 tk kp=>?_));have kg:=kp S _ nS oS;show adY _ A.in1 (aiz S (λy=>(List.toArray [])) >>= _) _ _ _;refine ady ?_;refine afA kg Y (ady (ahc (adD ?_)));exact fin vb _ tk (by rw[<- e'];exact pb) λb o hw hb q=>(adZ _ _ (aey hb)).trans (kp b o hw q)
 | succ k ih =>
  intro j s vb c e st g pb oS fin;have lt:j+1<n:=by walk_at "o"
  refine aeH e1 ?_;rw[aes e2 _];show adY _ A.in1 (aj7 (.ref S) >>= _) _ _ s;refine ady (agw oS Y ?_);show adY _ A.in1 (tryCatch (agv (.ref I)) _ >>= _) _ _ s;refine ady (agx (W.item (j+1) s _ _ lt st λv h1 tk pv qI kp=>?_));have kg:=kp S _ nS oS;have g1:G9q h1:=hG _ _ g λb o hw y q=>kp b o hw q;show adY _ A.in1 (tryCatch (holding [v,v] (aiP op v vb >>= _)) _ >>= _) _ _ _;refine ady (agx (ae3 (ady (tV (j+1) (ahB bt j) v vb _ _ _ pv pb g1 ?_))));refine ady (ae3 (aeo ?_));refine ady (ahc (adD ?_));cases hb:bt (j+1) (ahB bt j) with
  | true =>
   simp only[if_true];refine ady ?_;refine afA kg Y (ady (ahc ?_));rw[nm];refine adD #[aft e2 _,ih (j+1) _ v _ (by walk_at "o") (W.frame _ _ _ qI λb hf o q=>?_) (hG _ _ g1 λb o y nF q=>(adZ _ _ (aey nF)).trans q) (by simp only[ahB,hb,if_true];exact pv) (aef _ kg Y) λv2 h2 wZ p2 k2=>?_]
   .exact (adZ _ _ (λz:S=b=>hS (by rw[z];exact hf))).trans q
   .exact fin v2 h2 wZ p2 λb o hw nF q=>k2 b o hw nF ((adZ _ _ (aey nF)).trans (kp b o hw q))
  | false =>
   simp only[ad5,if_false];refine ady (ahc ?_);rw[nm];refine adD #[aft e2 _,ih (j+1) _ vb c (by walk_at "o") qI g1 (by simp only[ahB,hb,ad5,if_false];exact pb) kg λv2 h2 wZ p2 k2=>?_];exact fin v2 h2 wZ p2 λb o hw nF q=>k2 b o hw nF (kp b o hw q)
theorem Rp{nx id:String}{op:CmpOp}(nm:(toString nx++toString ".loop" : String)=id)(e1:aib table id=U (Au.1 nx op))(e2:ak5 id=true)(k0:ajT nx=O)(k1:ak5 nx=true)(k2:aib table nx=U (GR.1 nx))(k3:∀ a d:adH,ai1 nx #[[a],[("default",d)]]){prog:aek}{w:aeS}{A:aff}{E:adH->adQ->Prop}{s:adQ}{l:adK}{xs:Array (Int × Tok)}{d:adH}{Q:adH->adQ->Prop}{bt:Nat->Nat->Bool}(e4:CmpOf prog w A.in1 op (λi v=>(ae4 xs)[i]?=U v) bt)(hh:A.handled=O)(hl:s.heap.IsList l (ae4 xs))
 (h0:xs.size=0->∀ h' tk,(∀ b o,s.heap.get? b=U o->h'.get? b=U o)->Q d { s with heap:=h',toks:=tk })
 (h1:0<xs.size->∀ v h' tk,(ae4 xs)[ahB bt (xs.size-1)]?=U v->(∀ b o,s.heap.get? b=U o->h'.get? b=U o)->Q v { s with heap:=h',toks:=tk }) :
 adY (model prog w) A (call (.builtin nx) [.ref l] [("default",d)]) Q E s:=by
 refine Ro k0 k1 k2 (k3 _ _) ?_;show adY _ A.in1 (afB _ ["key","default"] 0 #[[],[("default",d)]] >>= _) _ _ s;refine ady (aiQ (show afB _ ["key","default"] 0 #[[],[("default",d)]]=pure [O,U d] from Y) ?_);refine ady (adD ?_);refine ady (iter_intList hl λs2 e2 st oT Rq=>?_);subst e2;refine ady (aeP ?_);have W:=Walks.list (prog:=prog) (w:=w) (A:=A.in1) hh s.heap.objs.size l Rq (ae4 xs);generalize eP:(s.heap.push { cls:=.type "list_iterator",data:=.fields (List.toArray [.ref l,.int 0 0]) })=P2 at st oT ⊢;have qJ:P2.objs.size∉[s.heap.objs.size,l]:=λz=>aeY _ (oT _ z);have up:∀ b o,s.heap.get? b=U o->b≠P2.objs.size/\b∉[s.heap.objs.size]/\(P2.push { cls:=.type "list",dict:=O,data:=.seq ([]:List adH).toArray }).get? b=U o:=λb o q=>by
  have lt:=adF q;have q2:P2.get? b=U o:=by rw[<- eP];exact adE _ q
  refine#[adV (adF q2),λz=>?_,adE _ q2];have:b=s.heap.objs.size:=by simpa using z
  walk_at "o"
 rw[nm];refine adD #[aft e2 _,?_];have oS:(P2.push { cls:=.type "list",dict:=O,data:=.seq ([]:List adH).toArray }).get? P2.objs.size=U { cls:=.type "list",dict:=O,data:=.seq (List.toArray []) 0,slots:=(List.toArray []) }:=adN _ rfl;have dt:=W.frame 0 P2 (P2.push { cls:=.type "list",dict:=O,data:=.seq ([]:List adH).toArray }) st λb y o q=>adE _ q;have nS:P2.objs.size∉[s.heap.objs.size]:=λz=>qJ (by simp at z;simp[z]);by_cases hz:xs.size=0
 .have Av:(P2.push { cls:=.type "list",dict:=O,data:=.seq ([]:List adH).toArray }).IsListIter s.heap.objs.size l (ae4 xs).size/\(P2.push { cls:=.type "list",dict:=O,data:=.seq ([]:List adH).toArray }).IsList l (ae4 xs):=by
   have:(ae4 xs).size=0:=by simpa [ae4] using hz
   rw[this];exact dt
  refine aeH e1 ?_;rw[aes e2 _];show adY _ A.in1 (aj7 (.ref P2.objs.size) >>= _) _ _ _;refine ady (agw oS Y ?_);show adY _ A.in1 (tryCatch (agv (.ref s.heap.objs.size)) _ >>= _) _ _ _;refine ady (agx (W.done _ _ _ Av λh2 tk kp=>?_));refine ady (agL (adD ?_));exact h0 hz h2 tk λb o q=>kp b o (up b o q).2.1 (up b o q).2.2
 .have hp:0<xs.size:=by walk_at "o"
  have hn:0<(ae4 xs).size:=by simpa [ae4] using hp
  refine aeH e1 ?_;rw[aes e2 _];show adY _ A.in1 (aj7 (.ref P2.objs.size) >>= _) _ _ _;refine ady (agw oS Y ?_);show adY _ A.in1 (tryCatch (agv (.ref s.heap.objs.size)) _ >>= _) _ _ _;refine ady (agx (W.item 0 _ _ _ hn dt λv h2 tk pv qI kp=>?_));have kg:=kp _ _ nS oS;show adY _ A.in1 (aiz P2.objs.size (λy=>(List.toArray [v,v])) >>= _) _ _ _;refine ady ?_;refine afA kg Y ?_;rw[nm];refine adD #[aft e2 _,GS nm e1 e2 (G9q:=λy=>True) W (λy y y y=>trivial) (λi j vi vj s Q E h1 h2 y q=>e4 i j vi vj s Q E h1 h2 q) qJ ((ae4 xs).size-1) 0 _ v _ (by walk_at "o") (W.frame _ _ _ qI λb hf o q=>?_) trivial pv (aef _ kg Y) λv2 h3 Aw p3 k3=>?_]
  .exact (adZ _ _ (λz:P2.objs.size=b=>qJ (by rw[z];exact hf))).trans q
  .refine h1 hp v2 h3 Aw (by simpa [ae4] using p3) λb o q=>?_;exact k3 b o (up b o q).2.1 (up b o q).1 ((adZ _ _ (aey (up b o q).1)).trans (kp b o (up b o q).2.1 (up b o q).2.2))
noncomputable def fL:List Int->Int
 | []=>0
 | x::r=>r.foldl (λb y=>if y > b then y else b) x
noncomputable def gV:List Int->Int
 | []=>0
 | x::r=>r.foldl (λb y=>if y<b then y else b) x
theorem GU:∀ (r:List Int) (b:Int),b<=r.foldl (λb y=>if y > b then y else b) b/\(∀ y∈r,y<=r.foldl (λb y=>if y > b then y else b) b)/\(r.foldl (λb y=>if y > b then y else b) b=b∨r.foldl (λb y=>if y > b then y else b) b∈r)
 | [],b=>#[aeW _,λv z=>(nomatch z),.inl rfl]
 | x::r,b=>by
  simp only[ak6];obtain⟨h1,h2,h3⟩:=GU r (if x > b then x else b);refine#[?_,λy hy=>?_,?_]
  .refine agM ?_ h1;split<;>lia
  .rcases adL.mp hy with rfl|hy
   .refine agM ?_ h1;split<;>lia
   .exact h2 y hy
  .rcases h3 with h3|h3
   .rw[h3];split
    .right;simp
    .left;rfl
   .right;exact aer _ h3
theorem GV:∀ (r:List Int) (b:Int),r.foldl (λb y=>if y<b then y else b) b<=b/\(∀ y∈r,r.foldl (λb y=>if y<b then y else b) b<=y)/\(r.foldl (λb y=>if y<b then y else b) b=b∨r.foldl (λb y=>if y<b then y else b) b∈r)
 | [],b=>#[aeW _,λv z=>(nomatch z),.inl rfl]
 | x::r,b=>by
  simp only[ak6];obtain⟨h1,h2,h3⟩:=GV r (if x<b then x else b);refine#[?_,λy hy=>?_,?_]
  .refine agM h1 ?_;split<;>lia
  .rcases adL.mp hy with rfl|hy
   .refine agM h1 ?_;split<;>lia
   .exact h2 y hy
  .rcases h3 with h3|h3
   .rw[h3];split
    .right;simp
    .left;rfl
   .right;exact aer _ h3
theorem tW(h:ns≠[]):fL ns∈ns/\∀ y∈ns,y<=fL ns:=by
 cases ns with
 | nil=>exact absurd Y h
 | cons x r =>
  obtain⟨h1,h2,h3⟩:=GU r x;refine#[?_,λy hy=>?_]
  .rcases h3 with h3|h3
   .show r.foldl _ x∈_;rw[h3];exact .head _
   .exact .tail _ h3
  .rcases adL.mp hy with rfl|hy
   .exact h1
   .exact h2 y hy
theorem GW(h:ns≠[]):gV ns∈ns/\∀ y∈ns,gV ns<=y:=by
 cases ns with
 | nil=>exact absurd Y h
 | cons x r =>
  obtain⟨h1,h2,h3⟩:=GV r x;refine#[?_,λy hy=>?_]
  .rcases h3 with h3|h3
   .show r.foldl _ x∈_;rw[h3];exact .head _
   .exact .tail _ h3
  .rcases adL.mp hy with rfl|hy
   .exact h1
   .exact h2 y hy
theorem qK:∀ {ns:List Int} {ax:List adH},Vals (ns.map V.int) ax->∃ xs:Array (Int × Tok),ax.toArray=ae4 xs/\xs.toList.map (·.1)=ns
 | [],_,.nil=>#[(List.toArray []),by simp[ae4],Y]
 | n::ns,_,.cons (l₂:=ax) r t=>by
  obtain⟨xs,e1,e2⟩:=qK (ns:=ns) t;obtain⟨tk,rfl⟩:=r;refine#[((n,tk)::xs.toList).toArray,?_,?_]
  .have:ax=xs.toList.map (λp=>Value.int p.1 p.2):=by have:=congrArg akz e1;simpa [ae4] using this
   simp[ae4,this]
  .simp[e2]
theorem GX(e:xs.toList.map (·.1)=ns)(hi:i<xs.size):aja xs i∈ns/\aja xs i=ns.getD i 0:=by subst e;unfold aja;rw[aei hi];refine#[adP.mpr #[xs[i],by simp,Y],?_];simp[hi]
theorem GY(e:xs.toList.map (·.1)=ns)(hy:y∈ns):∃ i,i<xs.size/\aja xs i=y:=by
 subst e;obtain⟨p,hp,rfl⟩:=adP.mp hy;obtain⟨i,hi,e⟩:=List.mem_iff_getElem.mp hp;refine#[i,by simpa using hi,?_];unfold aja;have c8:i<xs.size:=by simpa using hi
 rw[aei c8];have:xs[i]=p:=by simpa using e
 rw[this];rfl
theorem Ax(e:xs.toList.map (·.1)=ns)(h:0<xs.size):aja xs (ahB (λi j=>decide (aja xs i > aja xs j)) (xs.size-1))=fL ns:=by
 obtain⟨h1,h2⟩:=argBest_gt (aja xs) (xs.size-1);have bT:ns≠[]:=by intro z;subst z;have q:=congrArg List.length e;rw[adA,afy,agh] at q;lia
 obtain⟨m1,m2⟩:=tW bT;refine ak7 (m2 _ (GX e (by lia)).1) ?_;obtain⟨i,hi,ei⟩:=GY e m1;rw[<- ei];exact h2 i (by lia)
theorem GZ(e:xs.toList.map (·.1)=ns)(h:0<xs.size):aja xs (ahB (λi j=>decide (aja xs i<aja xs j)) (xs.size-1))=gV ns:=by
 obtain⟨h1,h2⟩:=argBest_lt (aja xs) (xs.size-1);have bT:ns≠[]:=by intro z;subst z;have q:=congrArg List.length e;rw[adA,afy,agh] at q;lia
 obtain⟨m1,m2⟩:=GW bT;refine ak7 ?_ (m2 _ (GX e (by lia)).1);obtain⟨i,hi,ei⟩:=GY e m1;rw[<- ei];exact h2 i (by lia)
def G0(R:V->Hp->Prop):List V->Hp->Prop
 | [x],H=>R x H
 | _,_=>False
theorem Rr:∀ {vs:List V} {H:Hp},G0 R vs H->∃ x,vs=[x]/\R x H
 | [x],_,h=>#[x,Y,h]
section
noncomputable def oU(f:List Int->Int):List Int->V->V
 | [],y=>y
 | n::ns,_=>.int (f (n::ns))
theorem Rt(h:ns≠[]):oU f ns y = .int (f ns):=by
 cases ns with
 | nil=>exact absurd Y h
 | cons _ _=>rfl
def w5(K:adz)(f:List Int->Int)(te td:TE):TE:=λG H Q=>te G H λx H1=>td G H1 λy H2=>∃ a ns,x = .ref a/\aj K H2 a (ns.map V.int)/\Q (oU f ns y) H2
theorem G1{X:Cx}{e d:ahx}{te td:TE}{p pos kp:Pos}{nx:String}{f:List Int->Int}{op:CmpOp}{id:String}(nm:(toString nx++toString ".loop" : String)=id)(e1:aib table id=U (Au.1 nx op))(e2:ak5 id=true)(k0:ajT nx=O)(k1:ak5 nx=true)(k2:aib table nx=U (GR.1 nx))(k3:∀ a d:adH,ai1 nx #[[a],[("default",d)]])(kb:aej nx=U (.builtin nx))(kn:ae2 nx≠ae2 "__name__")(kd:(ae2 nx == ae2 "__debug__")=false)
 (kc:∀ (A:aff) (xs:Array (Int × Tok)),∃ bt,CmpOf X.prog X.w A op (λi v=>(ae4 xs)[i]?=U v) bt/\∀ ns:List Int,xs.toList.map (·.1)=ns->0<xs.size->aja xs (ahB bt (xs.size-1))=f ns) (hc:X.calm=true) (hg:Gl X nx) (hm:X.mg nx=O) (he:PE X e te) (hd:PE X d td)
 (hs:adX [e] X.env=(false,eval e X.env)::adX [] X.env:=by rfl) (hq:afi pos (adX [e] X.env)=(false,eval e X.env)::afi pos (adX [] X.env):=by rfl) :
 PE X (.Call (.Name nx p) [e] [#[U "default",d,kp]] pos) (w5 X.K f te td):=by
 intro pins s G H Q I h;refine ae1 (gy I hg hm kb ?_ kn (hd:=kd));refine callWith_kw (aI ((ae he ah hs) pos pins s G H (G0 λx H1=>td G H1 λy H2=>∃ (a:adK) (ns:List Int),x = .ref a/\aj X.K H2 a (ns.map V.int)/\Q (oU f ns y) H2) I h) λus s1 ⟨vs,H1,I1,r,q⟩=>?_) hq (by rw[hs];rfl)
 .obtain⟨x,rfl,q⟩:=Rr q;obtain⟨u,rfl,ru⟩:=vals1 r;refine kws_cons (aI (hd pins s1 G H1 _ I1 q) λw s2 ⟨y,H2,I2,ry,a,ns,ex,hS,q1⟩=>kws_nil ?_);subst ex;cases ru;obtain⟨ax,rv,hp,c⟩:=I2.list hS;obtain⟨xs,wW,G4⟩:=qK rv;obtain⟨o,n,ho,bf,c,hdt⟩:=hp;have hl:s2.heap.IsList a (ae4 xs):=#[o,ho,bf,n,by rw[hdt,wW]]
  have len:xs.size=ns.length:=by rw[<- G4,adA];simp
  show adY _ X.A (call (.builtin nx) [.ref a] [("default",w)]) _ _ s2;obtain⟨bt,Ru,Rv⟩:=kc X.A.in1 xs;refine Rp nm e1 e2 k0 k1 k2 k3 Ru (I2.ok.hd hc) hl (λhz h' tk hk=>#[y,H2,I2.kept hk,ry,?_]) λhp v h' tk hv hk=>#[.int (f ns),H2,I2.kept hk,?_,?_]
  .have z:ns=[]:=afu.mp (by walk_at "o");rw[z] at q1;exact q1
  .obtain⟨t,rfl⟩:=ahd hv;exact#[t,by rw[Rv _ G4 hp]]
  .rw[Rt (λz=>by subst z;rw[agh] at len;lia)] at q1;exact q1
theorem Rw(a d:adH):ai1 "max" #[[a],[("default",d)]]:=by unfold ai1;kernel_rfl
theorem Rx{X:Cx}{e d:ahx}{te td:TE}{p pos kp:Pos}(hc:X.calm=true)(hg:Gl X "max")(hm:X.mg "max" = O)(he:PE X e te)(hd:PE X d td)
 (hs:adX [e] X.env=(false,eval e X.env)::adX [] X.env:=by rfl) (hq:afi pos (adX [e] X.env)=(false,eval e X.env)::afi pos (adX [] X.env):=by rfl) :
 PE X (.Call (.Name "max" p) [e] [#[U "default",d,kp]] pos) (w5 X.K fL te td) :=
 G1 (by decide) PySem.F.entry_max_loop PySem.F.plain_max_loop PySem.F.kind_max PySem.F.plain_max PySem.F.entry_max Rw qE (by decide) (by decide) (λy xs=>#[_,CmpOf.ints_gt (aja xs) (λy y=>ahd),λy e h=>Ax e h]) hc hg hm he hd hs hq
theorem G5(hc:X.calm=true):e9 X (.builtin "max") (λxs H Q=>∃ a ns,xs=[.ref a]/\aj X.K H a (ns.map V.int)/\ns≠[]/\Q (.int (fL ns)) H):=by
 intro pins s G H xs us Q I r h;obtain⟨a,ns,rfl,hS,bT,q⟩:=h;obtain⟨u,rfl,ru⟩:=vals1 r;cases ru;obtain⟨ax,rv,hp,y⟩:=I.list hS;obtain⟨xs,e1,e2⟩:=qK rv;obtain⟨o,n,ho,bf,y,hdt⟩:=hp;have hl:s.heap.IsList a (ae4 xs):=#[o,ho,bf,n,by rw[hdt,e1]]
 have len:xs.size=ns.length:=by rw[<- e2,adA];simp
 have j9:0<xs.size:=by rw[len];exact ahU.mpr bT
 refine max_intList (I.ok.hd hc) hl j9 λv h' tk hv hk=>#[.int (fL ns),H,I.kept hk,?_,q]
 obtain⟨t,rfl⟩:=ahd hv;exact#[t,by rw[Ax e2 j9]]
theorem Ry(a d:adH):ai1 "min" #[[a],[("default",d)]]:=by unfold ai1;kernel_rfl
theorem Rz{X:Cx}{e d:ahx}{te td:TE}{p pos kp:Pos}(hc:X.calm=true)(hg:Gl X "min")(hm:X.mg "min" = O)(he:PE X e te)(hd:PE X d td)
 (hs:adX [e] X.env=(false,eval e X.env)::adX [] X.env:=by rfl) (hq:afi pos (adX [e] X.env)=(false,eval e X.env)::afi pos (adX [] X.env):=by rfl) :
 PE X (.Call (.Name "min" p) [e] [#[U "default",d,kp]] pos) (w5 X.K gV te td) :=
 G1 (by decide) ag3 afF akL akq akr Ry nz (by decide) (by decide) (λy xs=>#[_,CmpOf.ints_lt (aja xs) (λy y=>ahd),λy e h=>GZ e h]) hc hg hm he hd hs hq
theorem G6(hc:X.calm=true):e9 X (.builtin "min") (λxs H Q=>∃ a ns,xs=[.ref a]/\aj X.K H a (ns.map V.int)/\ns≠[]/\Q (.int (gV ns)) H):=by
 intro pins s G H xs us Q I r h;obtain⟨a,ns,rfl,hS,bT,q⟩:=h;obtain⟨u,rfl,ru⟩:=vals1 r;cases ru;obtain⟨ax,rv,hp,y⟩:=I.list hS;obtain⟨xs,e1,e2⟩:=qK rv;obtain⟨o,n,ho,bf,y,hdt⟩:=hp;have hl:s.heap.IsList a (ae4 xs):=#[o,ho,bf,n,by rw[hdt,e1]]
 have len:xs.size=ns.length:=by rw[<- e2,adA];simp
 have j9:0<xs.size:=by rw[len];exact ahU.mpr bT
 refine min_intList (I.ok.hd hc) hl j9 λv h' tk hv hk=>#[.int (gV ns),H,I.kept hk,?_,q]
 obtain⟨t,rfl⟩:=ahd hv;exact#[t,by rw[GZ e2 j9]]
end
section
theorem G7{ch:List adK}(I:Inv X pins G H s)(k:∀ b o,b∉ch->s.heap.get? b=U o->h'.get? b=U o)(hf:∀ b∈ch,eZ X pins H b){H':Hp}(up:∀ b u,H b=U u->H' b=U u):∀ b u,H b=U u->bW X.prog X.w H' h' b u:=by
 have nj:∀ b u,H b=U u->b∉ch:=λb u e z=>by rw[(hf b z).1] at e;cases e
 intro b u e;refine (I.aA b u e).stay (λc v hc q=>k c v ?_ q) (λc q=>up c _ q) λc xs q=>up c _ q;rcases hc with z|z
 .rw[z];exact nj b u e
 .exact nj c _ z
theorem G8{t':Nat}{ch:List adK}(I:Inv X pins G H s)(k:∀ b o,b∉ch->s.heap.get? b=U o->h'.get? b=U o)(hf:∀ b∈ch,eZ X pins H b):Inv X pins G H { s with heap:=h',toks:=t' }:=by
 refine I.step (g':=s.gens) (d':=s.drawn) (ch:=ch) (λb hb=>?_) (λb o y y hc e y=>k b o hc e) (λb o y y hc e y=>#[o.slots,k b o hc e]) (λy y y y n=>n)
  (λb o hc e=>#[o,k b o hc e]) (λy y e=>e) (λy y y e=>e) (λb ps e=>#[(List.toArray []),by rw[e];simp]) (λm hm=>?_) (λb u e=>G7 I k hf (λy y q=>q) b u e) I.bare
 .obtain⟨y,d1,d2,d3,d4,d5⟩:=hf b hb;exact#[d3,d1,d4,d5]
 .obtain⟨o,es,ep,ho,r⟩:=hm;exact#[o,es,ep,k _ o (λz=>(hf _ z).2.1 rfl) ho,r]
theorem G9{t':Nat}{ch:List adK}{T:adK}{o:HO}(I:Inv X pins G H s)(k:∀ b o,b∉ch->s.heap.get? b=U o->h'.get? b=U o)(hf:∀ b∈ch,eZ X pins H b)(hT:s.heap.objs.size<=T)
 (new:bW X.prog X.w (upd H T o) h' T o):Inv X pins G (upd H T o) { s with heap:=h',toks:=t' }:=by
 have hn:=I.aA.fresh hT;have neT:∀ b u,s.heap.get? b=U u->b≠T:=λb u e=>adV (adW (adF e) hT);have mj:∀ b u,H b=U u->b≠T:=λb u e=>jU e hn;have up:∀ b u,H b=U u->upd H T o b=U u:=λb u e=>by rw[aK (mj b u e)];exact e
 refine I.step (g':=s.gens) (d':=s.drawn) (ch:=ch) (λb hb=>?_) (λb o y y hc e y=>k b o hc e) (λb o y y hc e y=>#[o.slots,k b o hc e]) (λb u y e n=>by rw[aK (neT b u e)];exact n)
  (λb o hc e=>#[o,k b o hc e]) (λb xs e=>up b _ e) (λb y y e=>up b _ e) (λb ps e=>#[(List.toArray []),by rw[up b _ e];simp]) (λm hm=>?_) (λb u e=>?_) I.bare
 .obtain⟨y,d1,d2,d3,d4,d5⟩:=hf b hb;exact#[d3,d1,d4,d5]
 .obtain⟨o,es,ep,ho,r⟩:=hm;exact#[o,es,ep,k _ o (λz=>(hf _ z).2.1 rfl) ho,r]
 .by_cases hb:b=T
  .subst hb;rw[au] at e;cases e;exact new
  .rw[aK hb] at e;exact G7 I k hf up b u e
end
noncomputable def w6(K:adz)(a:adK)(n:Nat):It :=
 #[λi H=>∃ xs x,aj K H a xs/\xs.length=n/\xs.reverse[i]?=U x,λi H x H'=>H'=H/\∀ xs,aj K H a xs->xs.length=n->xs.reverse[i]?=U x,λi y=>i=n]
theorem RA{P:aek}{w:aeS}{K:adz}{tg:ahx}(a it:adK)(n:Nat):Turn P w K tg (w6 K a n) [it] it (λi h=>i<=n/\h.IsRevIter it a ((n:Int)-1-(i:Nat))) where
 mem:=by simp
 obj:=λi h st b hb=>by
  have e:b=it:=by simpa using hb
  subst e;obtain⟨y,o,e,c,d⟩:=st;exact#[o,e,λv z=>by rw[d] at z;cases z]
 keep:=λi h h' st k=>#[st.1,st.2.at λo e=>k it (by simp) o e]
 item:=by
  intro X hP hw hK hc i pins s G H E I hf st hg;subst hP hw hK;obtain⟨xs,x,hq,hn,hx⟩:=hg;obtain⟨ax,rv,p,hz⟩:=I.list hq;have hl:=rv.length;have hi:i<n:=by have:=(adI.mp hx).1;rw[afg] at this;lia
  have bZ:xs[n-1-i]?=U x:=by rw[afM (by lia),hn] at hx;exact hx
  obtain⟨u,hu,ru⟩:=rv.get bZ;obtain⟨f0,f1,f2,f3,f4,f5⟩:=hf it (by simp);have dt:=st.2;rw[show (n:Int)-1-(i:Nat)=((n-1-i:Nat):Int) by lia] at dt;refine wpAny_pyNext_rev_item dt p.isList (x:=u) (by simpa using hu) λh' dt sb=>?_;have I1:Inv X pins G H { s with heap:=h' }:=I.turned (t':=s.toks) (λb o hb e=>(sb.2 b hb).trans e) f0 f1 f3 f4 f5;obtain⟨o,e,c,d⟩:=id dt;rw[show ((n-1-i:Nat):Int)-1=(n:Int)-1-((i+1:Nat):Int) by lia] at dt;exact#[u,Y,qu (s:={ s with heap:=h' }) e c d (by decide) #[x,H,I1,ru,#[Y,λys hy y=>by rw[I.sX hy hq];exact hx],#[by lia,dt],λb hb=>(hf b hb).1]]
 done:=by
  intro X hP hw hK hc i pins s G H E I hf st hg;subst hP hw hK;have RB:i=n:=hg;subst RB;obtain⟨f0,f1,f2,f3,f4,f5⟩:=hf it (by simp);have dt:=st.2;rw[show (i:Int)-1-(i:Nat) = -1 by lia] at dt;exact wpAny_pyNext_rev_end (I.ok.hd hc) dt λh' eb=>#[Y,I.turned (t':=s.toks) (λb o hb e=>eb b o hb e) f0 f1 f3 f4 f5]
 self:=λy y y y y st h=>ajE st.2 h
def Ay(K:adz)(ta:TA):TI:=λG H R=>ta G H λvs H1=>∃ a xs,vs=[.ref a]/\aj K H1 a xs/\R (w6 K a xs.length) H1
theorem RC(hg:Gl X "reversed")(hm:X.mg "reversed" = O)(ha:PA X [e] ta)(hs:adX [e] X.env=[(false,eval e X.env)]:=by rfl):PI X tg (.Call (.Name "reversed" p) [e] [] pos) (Ay X.K ta):=by
 intro pins s G H R I h;refine amc (gy I hg hm Qd (aed (aI (ha pos pins s G H _ I h) λus s1 zq=>?_) hs Y));obtain⟨vs,H1,I1,r1,q1⟩:=zq;obtain⟨a,xs,rfl,hq,q⟩:=q1;obtain⟨u,rfl,ru⟩:=vals1 r1;cases ru;obtain⟨ax,rv,p,hz⟩:=I1.list hq;refine call_reversed_list p.isList ?_;have hl:=rv.length;refine ajE (i:=(ax.toArray.size:Int)-1) (l:=a) #[_,adN _ Y,Y,Y] ?_;refine#[s1.heap.objs.size,[s1.heap.objs.size],_,_,H1,Y,I1.kept (t':=s1.toks) λb o e=>adE _ e,RA a _ xs.length,#[ad6 _,_,adN _ Y,Y,?_],λb hb=>?_,q]
 .rw[adS,<- hl];simp;rfl
 .have e:b=s1.heap.objs.size:=by simpa using hb
  subst e;exact I1.ji (adJ _) (I1.aA.fresh (adJ _))
noncomputable def w9(K:adz)(a:adK):It :=
 #[λi H=>∃ xs x,aj K H a xs/\xs[i]?=U x,λi H v H'=>∃ (p:adK) (x:V),v = .ref p/\H p=O/\H'=upd H p (.tup [.int i,x])/\∀ xs,aj K H a xs->xs[i]?=U x,λi H=>∃ xs,aj K H a xs/\xs.length<=i]
theorem Az:2<=ad1:=by decide
theorem RD{P:aek}{w:aeS}{K:adz}{es:List ahx}{k:Nat}{tp:Pos}(a e it:adK)(Ha:e≠it):Turn P w K (.Tuple es k tp) (w9 K a) [e,it] e (λi h=>(∃ old,IsEnum h e it (i:Nat) old)/\h.IsListIter it a i) where
 mem:=by simp
 obj:=λi h st b hb=>by
  obtain⟨⟨old,he⟩,o,ho,c,d⟩:=st;have cy:b=e∨b=it:=by simpa using hb
  rcases cy with rfl|rfl
  .exact#[_,he,λv z=>by
    have z':Data.fields _=Data.cell v:=z;cases z']
  .exact#[o,ho,λv z=>by rw[d] at z;cases z]
 keep:=λi h h' st kk=>by obtain⟨⟨old,he⟩,hi⟩:=st;exact#[#[old,kk e (by simp) _ he],hi.at λo e=>kk it (by simp) o e]
 item:=by
  intro X hP hw hK hc i pins s G H E I hf st hg;subst hP hw hK;obtain⟨xs,x,hq,hx⟩:=hg;obtain⟨⟨old,he⟩,hit⟩:=st;obtain⟨ax,rv,p,hz⟩:=I.list hq;obtain⟨u,hu,ru⟩:=rv.get hx;refine ajb he hit p.isList (x:=u) (by simpa using hu) Ha λh1 ho RE hT hsz hk=>?_;refine#[_,Y,wpAny_letOwnedTupleGo_enum ho λh2 Hb dv=>?_];have AA:Heap.SameBut e h1 h2:=dv;have neT:s.heap.objs.size≠e:=aeJ (adF he);have up:∀ b o,b∉[e,it]->s.heap.get? b=U o->h2.get? b=U o:=λb o hb q=>by
   have cy:b≠e/\b≠it:=by simpa using hb
   exact AA.extBut b o cy.1 (hk b o cy.1 cy.2 q)
  have hn:H s.heap.objs.size=O:=I.aA.fresh (adJ _);refine#[.ref s.heap.objs.size,upd H s.heap.objs.size (.tup [.int i,x]),G9 (s:=s) (h':=h2) (t':=s.toks+1) I up hf (adJ _) #[Az,[.int i s.toks,u],.cons #[_,Y] (.cons ru .nil),?_],Y,#[_,x,Y,hn,Y,λys hy=>by rw[I.sX hy hq];exact hx],#[#[u,?_],?_],λb hb=>?_]
  .have:=AA.extBut _ _ neT hT;exact#[_,this,Y,_,Y]
  .have:((i:Int)+1)=((i+1:Nat):Int):=by lia
   rw[<- this];exact Hb
  .exact RE.at λo q=>AA.extBut _ _ (aey Ha) q
  .rw[aK]
   .exact (hf b hb).1
   .have cy:b=e∨b=it:=by simpa using hb
    rcases cy with rfl|rfl
    .exact aey neT
    .obtain⟨o,q,y⟩:=hit;exact adV (adF q)
 done:=by
  intro X hP hw hK hc i pins s G H E I hf st hg;subst hP hw hK;obtain⟨xs,hq,hx⟩:=hg;obtain⟨⟨old,he⟩,hit⟩:=st;obtain⟨ax,rv,p,hz⟩:=I.list hq;have hl:=rv.length;refine ajo (I.ok.hd hc) he hit p.isList (by simp;lia) λh' eb=>#[Y,G8 (t':=s.toks) I (λb o hb q=>?_) hf]
  have cy:b≠e/\b≠it:=by simpa using hb
  exact eb b o cy.2 q
 self:=λy i s Q E st h=>by obtain⟨⟨old,he⟩,y⟩:=st;exact aiA he h
def AB(K:adz)(ta:TA):TI:=λG H R=>ta G H λvs H1=>∃ a,vs=[.ref a]/\(∃ xs,aj K H1 a xs)/\R (w9 K a) H1
theorem AD(hg:Gl X "enumerate")(hm:X.mg "enumerate" = O)(ha:PA X [e] ta)(hs:adX [e] X.env=[(false,eval e X.env)]:=by rfl):PI X (.Tuple es k tp) (.Call (.Name "enumerate" p) [e] [] pos) (AB X.K ta):=by
 intro pins s G H R I h;refine amc (gy I hg hm Ga (aed (aI (ha pos pins s G H _ I h) λus s1 zq=>?_) hs Y));obtain⟨vs,H1,I1,r1,q1⟩:=zq;obtain⟨a,rfl,⟨xs,hq⟩,q⟩:=q1;obtain⟨u,rfl,ru⟩:=vals1 r1;cases ru;obtain⟨ax,rv,p,hz⟩:=I1.list hq;refine ajU p.isList λh' he hit hsz hk=>?_;refine aiA he ?_;have I2:Inv X pins G H1 { s1 with heap:=h' }:=I1.kept (t':=s1.toks) hk;refine#[s1.heap.objs.size+1,[s1.heap.objs.size+1,s1.heap.objs.size],_,_,H1,Y,I2,RD a _ _ (by walk_at "o"),#[#[.none,he],hit],λb hb=>?_,q];have cy:b=s1.heap.objs.size+1∨b=s1.heap.objs.size:=by simpa using hb
 rcases cy with rfl|rfl
 .exact I1.ji (ahS _) (I1.aA.fresh (ahS _))
 .exact I1.ji (adJ _) (I1.aA.fresh (adJ _))
noncomputable def tX(K:adz)(a b:adK):It :=
 #[λi H=>∃ xs ys x y,aj K H a xs/\aj K H b ys/\xs[i]?=U x/\ys[i]?=U y,λi H v H'=>∃ (p:adK) (x y:V),v = .ref p/\H p=O/\H'=upd H p (.tup [x,y])/\(∀ xs,aj K H a xs->xs[i]?=U x)/\∀ ys,aj K H b ys->ys[i]?=U y,
  λi H=>∃ xs ys,aj K H a xs/\aj K H b ys/\(xs.length<=i∨ys.length<=i)]
theorem RF{P:aek}{w:aeS}{K:adz}{es:List ahx}{k:Nat}{tp:Pos}(a b z TI TO i1 i2:adK)(D:ZipApart z TI TO i1 i2 a b):Turn P w K (.Tuple es k tp) (tX K a b) [z,TI,TO,i1,i2] z
 (λi h=>IsZip h z TI TO .none/\IsPair h TI (.ref i1) (.ref i2)/\(∃ a b,IsPair h TO a b)/\h.IsListIter i1 a i/\h.IsListIter i2 b i) where
 mem:=by simp
 obj:=λi h st c hc=>by
  obtain⟨hz,kh,⟨ta,tb,k6⟩,⟨o1,h1,c1,d1⟩,⟨o2,h2,c2,d2⟩⟩:=st;have lT:c=z∨c=TI∨c=TO∨c=i1∨c=i2:=by simpa using hc
  rcases lT with rfl|rfl|rfl|rfl|rfl
  .exact#[_,hz,λv q=>by
    have q':Data.fields _=Data.cell v:=q;cases q']
  .exact#[_,kh,λv q=>by
    have q':Data.seq _ _=Data.cell v:=q;cases q']
  .exact#[_,k6,λv q=>by
    have q':Data.seq _ _=Data.cell v:=q;cases q']
  .exact#[o1,h1,λv q=>by rw[d1] at q;cases q]
  .exact#[o2,h2,λv q=>by rw[d2] at q;cases q]
 keep:=λi h h' st kk=>by obtain⟨hz,kh,⟨ta,tb,k6⟩,h1,h2⟩:=st;exact#[kk z (by simp) _ hz,kk TI (by simp) _ kh,#[ta,tb,kk TO (by simp) _ k6],h1.at λo e=>kk i1 (by simp) o e,h2.at λo e=>kk i2 (by simp) o e]
 item:=by
  intro X hP hw hK hc i pins s G H E I hf st hg;subst hP hw hK;obtain⟨xs,ys,x,y,hqx,hqy,hx,hy⟩:=hg;obtain⟨hz,kh,⟨ta,tb,k6⟩,h1,h2⟩:=st;obtain⟨ax,rv,p1,m⟩:=I.list hqx;obtain⟨jts,xa,p2,m⟩:=I.list hqy;obtain⟨u,hu,ru⟩:=rv.get hx;obtain⟨v,hv,RG⟩:=xa.get hy;refine wpAny_pyNext_zip_item D hz kh k6 h1 h2 p1.isList p2.isList (x:=u) (y:=v) (by simpa using hu) (by simpa using hv) λh' z1 t1 l1 l2 pT hsz hk=>?_;refine#[_,Y,wpAny_letOwnedTupleGo_zip z1 λh3 z3 RH=>?_];have qL:Heap.SameBut z h' h3:=RH;have neT:s.heap.objs.size≠z:=aeJ (adF hz);have up:∀ b o,b∉[z,TI,TO,i1,i2]->s.heap.get? b=U o->h3.get? b=U o:=λb o hb q=>by
   have cy:b≠z/\b≠TI/\b≠TO/\b≠i1/\b≠i2:=by simpa using hb
   exact qL.extBut b o cy.1 (hk b o cy.1 cy.2.2.1 cy.2.2.2.1 cy.2.2.2.2 q)
  have hn:H s.heap.objs.size=O:=I.aA.fresh (adJ _);refine#[.ref s.heap.objs.size,upd H s.heap.objs.size (.tup [x,y]),G9 (s:=s) (h':=h3) (t':=s.toks) I up hf (adJ _) #[Az,[u,v],.cons ru (.cons RG .nil),?_],Y,#[_,x,y,Y,hn,Y,λzs AE=>by rw[I.sX AE hqx];exact hx,λzs AE=>by rw[I.sX AE hqy];exact hy],
   #[z3,qL.extBut _ _ D.TIz (hk _ _ D.TIz D.TITO D.TIi1 D.TIi2 kh),#[_,_,qL.extBut _ _ D.TOz t1],l1.at λo q=>qL.extBut _ _ D.i1z q,l2.at λo q=>qL.extBut _ _ D.i2z q],λb hb=>?_]
  .have:=qL.extBut _ _ neT pT;exact#[_,this,Y,_,Y]
  .rw[aK]
   .exact (hf b hb).1
   .have cy:b=z∨b=TI∨b=TO∨b=i1∨b=i2:=by simpa using hb
    rcases cy with rfl|rfl|rfl|rfl|rfl
    .exact aey neT
    .exact adV (adF kh)
    .exact adV (adF k6)
    .obtain⟨o,q,m⟩:=h1;exact adV (adF q)
    .obtain⟨o,q,m⟩:=h2;exact adV (adF q)
 done:=by
  intro X hP hw hK hc i pins s G H E I hf st hg;subst hP hw hK;obtain⟨xs,ys,hqx,hqy,hx⟩:=hg;obtain⟨hz,kh,⟨ta,tb,k6⟩,h1,h2⟩:=st;obtain⟨ax,rv,p1,m⟩:=I.list hqx;obtain⟨jts,xa,p2,m⟩:=I.list hqy;have l1:=rv.length;have l2:=xa.length;refine wpAny_pyNext_zip_end (I.ok.hd hc) D hz kh k6 h1 h2 p1.isList p2.isList (hx.imp (λq=>by simp;lia) λq=>by simp;lia) λh' hk=>#[Y,G8 (t':=s.toks) I (λb o hb q=>?_) hf]
  have cy:b≠z/\b≠TI/\b≠TO/\b≠i1/\b≠i2:=by simpa using hb
  exact hk b o cy.1 cy.2.2.1 cy.2.2.2.1 cy.2.2.2.2 q
 self:=λm i s Q E st h=>akM st.1 h
def AF(K:adz)(ta:TA):TI:=λG H R=>ta G H λvs H1=>∃ a b,vs=[.ref a,.ref b]/\(∃ xs,aj K H1 a xs)/\(∃ ys,aj K H1 b ys)/\R (tX K a b) H1
theorem Hc(hg:Gl X "zip")(hm:X.mg "zip" = O)(ha:PA X [e,f] ta)(hs:adX [e,f] X.env=(false,eval e X.env)::adX [f] X.env:=by rfl)(dv:adX [f] X.env=[(false,eval f X.env)]:=by rfl):PI X (.Tuple es k tp) (.Call (.Name "zip" p) [e,f] [] pos) (AF X.K ta):=by
 intro pins s G H R I h;refine amc (gy I hg hm Qc (aed (aI (ha pos pins s G H _ I h) λus s1 ⟨vs,H1,I1,r1,q1⟩=>?_) hs (by rw[dv];rfl)));obtain⟨a,b,rfl,⟨xs,hqx⟩,⟨ys,hqy⟩,q⟩:=q1;obtain⟨u,v,rfl,ru,RI⟩:=vals2 r1;cases ru;cases RI;obtain⟨ax,rv,p1,y⟩:=I1.list hqx;obtain⟨jts,xa,p2,y⟩:=I1.list hqy;have a1:a<s1.heap.objs.size:=by obtain⟨y,e,y⟩:=p1.isList;exact adF e
 have a2:b<s1.heap.objs.size:=by obtain⟨y,e,y⟩:=p2.isList;exact adF e
 refine call_zip_2 p1.isList p2.isList λh' hz kh k6 h1 h2 hsz hk=>?_;refine akM hz ?_;have I2:Inv X pins G H1 { s1 with heap:=h' }:=I1.kept (t':=s1.toks) hk;refine#[s1.heap.objs.size+4,[s1.heap.objs.size+4,s1.heap.objs.size+2,s1.heap.objs.size+3,s1.heap.objs.size,s1.heap.objs.size+1],_,_,H1,Y,I2,RF a b _ _ _ _ _ (zipApart_new a1 a2),#[hz,kh,#[_,_,k6],h1,h2],λc hc=>?_,q];have lT:s1.heap.objs.size<=c:=by simp only[adL,aeq,or_false] at hc;walk_at "o"
 exact I1.ji lT (I1.aA.fresh lT)
section
theorem Hd(hc:X.calm=true):e9 X (.builtin "sum") (λxs H Q=>∃ (a:adK) (ns:List Int),xs=[.ref a]/\aj X.K H a (ns.map V.int)/\Q (.int ns.sum) H):=by
 intro pins s G H xs us Q I r h;obtain⟨a,ns,rfl,hS,q⟩:=h;obtain⟨u,rfl,ru⟩:=vals1 r;cases ru;obtain⟨ax,rv,hp,y⟩:=I.list hS;obtain⟨xs,e1,e2⟩:=qK rv;obtain⟨o,n,ho,bf,y,hdt⟩:=hp;have hl:s.heap.IsList a (ae4 xs):=#[o,ho,bf,n,by rw[hdt,e1]]
 refine sum_intListG (I.ok.hd hc) hl λh' tk t' hk=>#[.int ns.sum,H,I.kept hk,#[t',?_],q]
 rw[preSum_eq,ag4 (by simp),e2]
theorem AG:∀ {bs:List Bool} {ax:List adH},Vals (bs.map V.bl) ax->ax=bs.map afe
 | [],ax,r=>by cases r;rfl
 | b::bs,ax,r=>by
  cases r with
  | cons r1 r2 =>
   cases r1;rw[AG r2];rfl
theorem xb(hc:X.calm=true):e9 X (.builtin "all") (λxs H Q=>∃ (a:adK) (bs:List Bool),xs=[.ref a]/\aj X.K H a (bs.map V.bl)/\Q (.bl (bs.all id)) H):=by
 intro pins s G H xs us Q I r h;obtain⟨a,bs,rfl,hS,q⟩:=h;obtain⟨u,rfl,ru⟩:=vals1 r;cases ru;obtain⟨ax,rv,hp,y⟩:=I.list hS;have e:=AG rv;subst e;have hl:=hp.isList;have bc:a<s.heap.objs.size:=by obtain⟨y,e,y⟩:=hl;exact adF e
 refine call_all_walk (ag7 hl ?_);refine#[s.heap.objs.size,[s.heap.objs.size,a],[s.heap.objs.size],(bs.map afe).toArray.size,_,_,λi=>(bs[i]?).getD true,Y,Walks.list (A:=X.A.in1) (I.ok.hd hc) _ a (adV bc) (bs.map afe).toArray,#[#[_,adN _ Y,Y,Y],hl.push _],λi v s' Q' E' hP hQ=>?_,λh' tk hk=>?_]
 .have mv:(bs[i]?).map afe=U v:=by simpa using hP
  cases e:bs[i]? with
  | none=>rw[e] at mv;cases mv
  | some b =>
   rw[e] at mv;cases mv;simp only[e,agD] at hQ;exact aeo hQ
 .have e:((adM (bs.map afe).toArray.size).all λi=>(bs[i]?).getD true)=bs.all id:=by rw[adS,adA];exact PyProof.Rows.LSm.range_all bs
  rw[e];exact#[.bl (bs.all id),H,I.kept (λb o q=>hk b o (λz=>by
   have:b=s.heap.objs.size:=by simpa using z
   rw[this] at q;exact aeY _ (adF q)) (adE _ q)),Y,q]
theorem He(hc:X.calm=true):e9 X (.builtin "any") (λxs H Q=>∃ (a:adK) (bs:List Bool),xs=[.ref a]/\aj X.K H a (bs.map V.bl)/\Q (.bl (bs.any id)) H):=by
 intro pins s G H xs us Q I r h;obtain⟨a,bs,rfl,hS,q⟩:=h;obtain⟨u,rfl,ru⟩:=vals1 r;cases ru;obtain⟨ax,rv,hp,y⟩:=I.list hS;have e:=AG rv;subst e;have hl:=hp.isList;have bc:a<s.heap.objs.size:=by obtain⟨y,e,y⟩:=hl;exact adF e
 refine call_any_walk (ag7 hl ?_);refine#[s.heap.objs.size,[s.heap.objs.size,a],[s.heap.objs.size],(bs.map afe).toArray.size,_,_,λi=>(bs[i]?).getD false,Y,Walks.list (A:=X.A.in1) (I.ok.hd hc) _ a (adV bc) (bs.map afe).toArray,#[#[_,adN _ Y,Y,Y],hl.push _],λi v s' Q' E' hP hQ=>?_,λh' tk hk=>?_]
 .have mv:(bs[i]?).map afe=U v:=by simpa using hP
  cases e:bs[i]? with
  | none=>rw[e] at mv;cases mv
  | some b =>
   rw[e] at mv;cases mv;simp only[e,agD] at hQ;exact aeo hQ
 .have e:((adM (bs.map afe).toArray.size).any λi=>(bs[i]?).getD false)=bs.any id:=by rw[adS,adA];exact PyProof.Rows.LSm.range_any bs
  rw[e];exact#[.bl (bs.any id),H,I.kept (λb o q=>hk b o (λz=>by
   have:b=s.heap.objs.size:=by simpa using z
   rw[this] at q;exact aeY _ (adF q)) (adE _ q)),Y,q]
end
section
variable{K:adz}{g:TG}{tb:TS}{D:Ends}{G:L2.St}{H:Hp}{a b:adK}{xs ys:List V}
theorem RJ{ta:TA}:kR (Ay K ta) g tb D G H=ta G H (λvs H1=>∃ a xs,vs=[.ref a]/\aj K H1 a xs/\FJ (w6 K a xs.length) g tb D G H1):=rfl
theorem RK{ta:TA}:kR (AB K ta) g tb D G H=ta G H (λvs H1=>∃ a,vs=[.ref a]/\(∃ xs,aj K H1 a xs)/\FJ (w9 K a) g tb D G H1):=rfl
theorem RL{ta:TA}:kR (AF K ta) g tb D G H=ta G H (λvs H1=>∃ a b,vs=[.ref a,.ref b]/\(∃ xs,aj K H1 a xs)/\(∃ ys,aj K H1 b ys)/\FJ (tX K a b) g tb D G H1):=rfl
theorem AH(Pv:Nat->L2.St->Hp->Prop)(h0:Pv 0 G H)(hl:∀ i G H,i<=xs.length->Pv i G H->aj K H a xs)(hs:∀ i x G H p,xs[i]?=U x->Pv i G H->H p=O->g (.ref p) G (upd H p (.tup [.int i,x])) λσ2 H2=>tb { D with nx:=Pv (i+1),ct:=Pv (i+1),bk:=D.nx } σ2 H2)(hd:∀ G H,Pv xs.length G H->D.nx G H):FJ (w9 K a) g tb D G H:=by
 refine#[λi m G H=>m=xs.length-i/\i<=xs.length/\Pv i G H,#[_,Y,ad6 _,h0],?_];rintro i m G H ⟨rfl,hi,p⟩;have q:=hl i G H hi p;by_cases bc:i<xs.length
 .refine .inr #[#[xs,xs[i],q,by simp[bc]],Pv (i+1),λσ' H' p'=>#[xs.length-(i+1),by lia,Y,bc,p'],λv H' y=>?_];obtain⟨w,x,rfl,hw,rfl,y⟩:=y;exact hs i x G _ w (y xs q) p hw
 .have e:i=xs.length:=by lia
  subst e;exact .inl #[#[xs,q,adJ _],hd G H p]
theorem RM(Pv:Nat->L2.St->Hp->Prop)(h0:Pv 0 G H)(hl:∀ i G H,Pv i G H->aj K H a xs/\aj K H b ys)(hs:∀ i x y G H p,xs[i]?=U x->ys[i]?=U y->Pv i G H->H p=O->g (.ref p) G (upd H p (.tup [x,y])) λσ2 H2=>tb { D with nx:=Pv (i+1),ct:=Pv (i+1),bk:=D.nx } σ2 H2)(hd:∀ G H,Pv (min xs.length ys.length) G H->D.nx G H):FJ (tX K a b) g tb D G H:=by
 refine#[λi m G H=>m=min xs.length ys.length-i/\i<=min xs.length ys.length/\Pv i G H,#[_,Y,ad6 _,h0],?_];rintro i m G H ⟨rfl,hi,p⟩;have q:=hl i G H p;by_cases bc:i<min xs.length ys.length
 .have h1:i<xs.length:=by lia
  have h2:i<ys.length:=by lia
  refine .inr #[#[xs,ys,xs[i],ys[i],q.1,q.2,by simp[h1],by simp[h2]],Pv (i+1),λσ' H' p'=>#[min xs.length ys.length-(i+1),by lia,Y,bc,p'],λv H' y=>?_];obtain⟨w,x,y',rfl,hw,rfl,e1,e2⟩:=y;exact hs i x y' G _ w (e1 xs q.1) (e2 ys q.2) p hw
 .have e:i=min xs.length ys.length:=by lia
  refine .inl #[#[xs,ys,q.1,q.2,by lia],hd G H (e ▸ p)]
end
theorem oV{K:adz}{i j:Nat}{p:adK}{x y:V}{G:L2.St}{H:Hp}{Q:L2.St->Hp->Prop}(h:ak K H p [x,y])(q:Q ((G.set i (U x)).set j (U y)) H):lW K 2 (dO (cH i) (dO (cH j) kP)) (.ref p) G H Q :=
 #[p,[x,y],Y,h,Y,x,[y],Y,y,[],Y,Y,q]
section
variable{X:Cx}{K:adz}
theorem Hf(h:X.K=K):zX X (wF K):=h ▸ z7
def qM(Ok:Hp->Prop)(ρ:L2.St)(tt:TT)(te:TE):List (V × V)->List V->Hp->(List V->Hp->Prop)->Prop
 | [],zs,H,Q=>Ok H/\Q zs H
 | (x,y)::r,zs,H,Q=>Ok H/\∀ p,H p=O->tt (U x::U y::ρ) (upd H p (.tup [x,y])) λb H1=>if b=true then te (U x::U y::ρ) H1 λz H2=>qM Ok ρ tt te r (zs++[z]) H2 Q else qM Ok ρ tt te r zs H1 Q
theorem RN{os:List (Option V)}(h:os.length=2):∃ a b,os=[a,b]:=by
 match os,h with
 | [a,b],_=>exact#[a,b,Y]
theorem RO(hn:(xs.zip ys).length<=ad1)(h:qM (λH=>aj K H a xs/\aj K H b ys) ρ tt te (xs.zip ys) [] H λzs H'=>∀ l,H' l=O->Q (.ref l) (upd H' l (.lst zs))) :
 kY 2 (tX K a b) (lW K 2 (dO (cH 0) (dO (cH 1) kP))) ρ tt te H Q:=by
 have hlen:(xs.zip ys).length=min xs.length ys.length:=ak8;refine#[λi m zs H=>m=(xs.zip ys).length-i/\i<=(xs.zip ys).length/\zs.length<=i/\qM (λH=>aj K H a xs/\aj K H b ys) ρ tt te ((xs.zip ys).drop i) zs H λzs H'=>∀ l,H' l=O->Q (.ref l) (upd H' l (.lst zs)),#[_,Y,ad6 _,adJ _,h],?_];rintro i m zs H ⟨rfl,hi,hy,g⟩;by_cases bc:i<(xs.zip ys).length
 .have e:=aeF bc;have h1:i<xs.length:=by lia
  have h2:i<ys.length:=by lia
  have e2:(xs.zip ys)[i]=(xs[i],ys[i]):=List.getElem_zip;rw[e,e2] at g;obtain⟨⟨g0,xf⟩,g1⟩:=g;have l1:∀ y:V,(zs++[y]).length<=i+1:=λy=>by rw[adT,aea];lia
  have l2:zs.length<=i+1:=by lia
  refine .inr #[#[xs,ys,xs[i],ys[i],g0,xf,by simp[h1],by simp[h2]],by lia,λws H'=>ws.length<=i+1/\qM (λH=>aj K H a xs/\aj K H b ys) ρ tt te ((xs.zip ys).drop (i+1)) ws H' λzs H'=>∀ l,H' l=O->Q (.ref l) (upd H' l (.lst zs)),λzs H' q=>#[_,by lia,Y,bc,q.1,q.2],λos oQ v H' y=>?_];obtain⟨p,x,y',rfl,hp,rfl,ex,ey⟩:=y;have ex:=ex xs g0;have ey:=ey ys xf;rw[adC h1] at ex;rw[adC h2] at ey;cases ex;cases ey;obtain⟨o1,o2,rfl⟩:=RN oQ;refine oV (ak.of au) #[[U xs[i],U ys[i]],Y,Y,?_];simp only[l1,l2,true_and];exact g1 p hp
 .have e:i=(xs.zip ys).length:=by lia
  subst e;rw[ai0] at g;obtain⟨⟨g0,xf⟩,g1⟩:=g;exact .inl #[#[xs,ys,g0,xf,by lia],by lia,g1]
end
mutual
inductive Dat(K:adz)(H:Hp):V->ahp->Prop where
 | non:Dat K H .non .none
 | bl (b:Bool):Dat K H (.bl b) (.bool b)
 | int (i:Int):Dat K H (.int i) (.int i)
 | str (x:Str):Dat K H (.str x) (.str x)
 | tup {a:adK} {xs:List V} {ds:List ahp} (h:ak K H a xs) (r:iU K H xs ds):Dat K H (.ref a) (.tuple ds)
 | lst {a:adK} {xs:List V} {ds:List ahp} (h:aj K H a xs) (r:iU K H xs ds):Dat K H (.ref a) (.list ds)
inductive iU(K:adz)(H:Hp):List V->List ahp->Prop where
 | nil:iU K H [] []
 | cons {x:V} {d:ahp} {xs:List V} {ds:List ahp} (h:Dat K H x d) (r:iU K H xs ds):iU K H (x::xs) (d::ds)
end
section
variable{X:Cx}{pins:List (adK × Obj)}{G:L2.St}{H:Hp}{s:adQ}
theorem Dat.reads(I:Inv X pins G H s)(d:ahp)(h:Dat X.K H v d):RelV v u->∃ as,Reads s.heap u d as:=by
 refine Dat.rec (motive_1:=λv d y=>∀ u,RelV v u->∃ as,Reads s.heap u d as) (motive_2:=λvs ds y=>∀ us,Vals vs us->∃ as,ReadsAll s.heap us ds as) ?_ ?_ ?_ ?_ ?_ ?_ ?_ ?_ h u
 .intro u r;cases r;exact#[_,.none]
 .intro b u r;cases r;exact#[_,.bool b]
 .rintro i u ⟨t,rfl⟩;exact#[_,.int i t]
 .rintro x u ⟨t,rfl⟩;exact#[_,.str x t]
 .intro a xs ds h q ih u r;cases r;obtain⟨ax,rv,⟨o,ho,hc,n,hd⟩,y⟩:=I.tuple h;obtain⟨as,ra⟩:=ih ax rv;exact#[_,.tuple ho hc hd (by simpa using ra)]
 .intro a xs ds h q ih u r;cases r;obtain⟨ax,rv,⟨o,n,ho,hc,y,hd⟩,y⟩:=I.list h;obtain⟨as,ra⟩:=ih ax rv;exact#[_,.list ho hc hd (by simpa using ra)]
 .intro us r;cases r;exact#[_,.nil]
 .intro x d xs ds h q AI AJ us r;cases r with
  | cons r1 r2 =>
   obtain⟨as,ra⟩:=AI _ r1;obtain⟨bs,rb⟩:=AJ _ r2;exact#[_,.cons ra rb]
def Hg(K:adz)(neg:Bool):R2:=λx y H Q=>∃ d e,Dat K H x d/\Dat K H y e/\d.canLay0=true/\e.canLay0=true/\d.depth<=60/\Q (.bl (if neg=true then !aga d e else aga d e)) H
theorem RP(hu:X.A.units+64<aii):bE X (aeL .Eq) (Hg X.K false):=by intro pins s G H x y v u Q I rx ry h;obtain⟨d,e,dx,dy,c1,c2,dd,q⟩:=h;obtain⟨as,ra⟩:=Dat.reads I d dx rx;obtain⟨bs,rb⟩:=Dat.reads I e dy ry;exact SeqAt.compareEq_reads ra rb c1 c2 (by lia) #[.bl _,H,I,Y,q]
end
noncomputable def xg(lo st:Int)(n:Nat):It:=#[λi y=>i<n,λi H x H'=>H'=H/\x = .int (lo+(i:Int) * st),λi y=>n<=i]
theorem RQ{P:aek}{w:aeS}{K:adz}{tg:ahx}(it:adK)(lo st:Int)(n:Nat):Turn P w K tg (xg lo st n) [it] it (λi h=>ajR h it (lo+(i:Nat) * st) ((n:Int)-(i:Nat)) st) where
 mem:=by simp
 obj:=λi h q b hb=>by
  have e:b=it:=by simpa using hb
  subst e;exact#[_,q,λv z=>by
   have z':Data.fields _=Data.cell v:=z;cases z']
 keep:=λi h h' q k=>k it (by simp) _ q
 item:=by intro X hP hw hK hc i pins s G H E I hf q hg;subst hP hw hK;obtain⟨f0,f1,f2,f3,f4,f5⟩:=hf it (by simp);have W:=Walks.range (prog:=X.prog) (w:=X.w) (I.ok.hd hc) it lo st n;refine W.item i s _ _ hg q λv h' tk hv q' kk=>?_;obtain⟨t,rfl⟩:=hv;have I1:Inv X pins G H { s with heap:=h',toks:=tk }:=I.turned (λb o hb e=>kk b o (by simpa using hb) e) f0 f1 f3 f4 f5;exact#[_,Y,qu (s:={ s with heap:=h',toks:=tk }) (n := "range_iterator") q' Y Y (by decide) #[.int (lo+(i:Int) * st),H,I1,#[t,Y],#[Y,Y],q',λb hb=>(hf b hb).1]]
 done:=by
  intro X hP hw hK hc i pins s G H E I hf q hg;subst hP hw hK;obtain⟨f0,f1,f2,f3,f4,f5⟩:=hf it (by simp);exact ai5 (I.ok.hd hc) q (by have:n<=i:=hg;lia) λh' eb=>#[Y,I.turned (t':=s.toks) (λb o hb e=>eb b o hb e) f0 f1 f3 f4 f5]
 self:=λy y y y y q h=>ai6 q h
noncomputable def nG(lo hi st:Int):Nat:=(aeA lo hi st).toNat
def AK(ta:TA):TI:=λG H R=>ta G H λvs H1=>∃ i j c:Int,vs=[.int i,.int j,.int c]/\(-1000000<=i/\i<=1000000/\-1000000<=j/\j<=1000000/\-1000000<=c/\c<=1000000/\c≠0)/\R (xg i c (nG i j c)) H1
theorem Hh(i j c:Int)(h:c≠0):0<=aeA i j c:=by
 unfold aeA;split
 .rename_i hc;split
  .have:=ak9 (show 0<=j-i-1 by lia) (show 0<=c by lia);lia
  .lia
 .split
  .have:=ak9 (show 0<=i-j-1 by lia) (show 0 <= -c by lia);lia
  .lia
theorem size_le(i j c:Int)(h : -1000000<=i/\i<=1000000/\-1000000<=j/\j<=1000000/\c≠0):aeA i j c<=2000000:=by
 unfold aeA;split
 .split
  .have:=akN (c) (show 0<=j-i-1 by lia);lia
  .lia
 .split
  .have:=akN (-c) (show 0<=i-j-1 by lia);lia
  .lia
theorem RS(h : -1000000<=i/\i<=1000000/\-1000000<=j/\j<=1000000/\-1000000<=c/\c<=1000000/\c≠0):Builtin.Range.small i j c=true:=by have h1:=Hh i j c h.2.2.2.2.2.2;have h2:=size_le i j c #[h.1,h.2.1,h.2.2.1,h.2.2.2.1,h.2.2.2.2.2.2];unfold Builtin.Range.small;generalize aeA i j c=n at h1 h2 ⊢;simp only[ala,aew,ahV,decide_eq_true_eq,beq_iff_eq];refine#[by lia,.inr ?_];split<;>simp only[aew,decide_eq_true_eq]<;>lia
theorem RT(hg:Gl X "range")(hm:X.mg "range" = O)(ha:PA X [a,b,c] ta)(hs:adX [a,b,c] X.env=(false,eval a X.env)::adX [b,c] X.env:=by rfl)(dv:adX [b,c] X.env=[(false,eval b X.env),(false,eval c X.env)]:=by rfl) :
 PI X tg (.Call (.Name "range" p) [a,b,c] [] pos) (AK ta):=by
 intro pins s G H R I h;refine amc (gy I hg hm alx (aed (aI (ha pos pins s G H _ I h) λus s1 ⟨vs,H1,I1,r1,q1⟩=>?_) (by rw[hs]) (by rw[dv];rfl)));obtain⟨i,j,k,e,hb,q⟩:=q1;subst e;cases r1 with
 | cons r rr =>
  cases rr with
  | cons r' rr =>
   cases rr with
   | cons tY rr =>
    cases rr;obtain⟨t,rfl⟩:=r;obtain⟨t',rfl⟩:=r';obtain⟨Hi,rfl⟩:=tY;have hk:k≠0:=hb.2.2.2.2.2.2;refine call_range_3 hk ?_ (.inl (PyProof.noPylong_small (by lia)));refine aj4 (IsRange.new ..) (RS hb) ?_;have I2:Inv X pins G H1 { s1 with heap:=s1.heap.push { cls:=.type "range",data:=.fields (List.toArray [.int i t,.int j t',.int k Hi]) },toks:=s1.toks }:=I1.kept λb o e=>adE _ e;refine#[_,[_],_,_,H1,Y,I2.kept (t':=s1.toks) λb o e=>adE _ e,RQ _ i k (nG i j k),?_,λb hb=>?_,q]
    .have e1:i+((0:Nat):Int) * k=i:=by simp
     have e2:((nG i j k:Nat):Int)-((0:Nat):Int)=aeA i j k:=by have:=Hh i j k hk;unfold nG;lia
     show ajR _ _ (i+((0:Nat):Int) * k) (((nG i j k:Nat):Int)-((0:Nat):Int)) k;rw[e1,e2];exact adN _ rfl
    .have e:b=(s1.heap.push { cls:=.type "range",data:=.fields (List.toArray [.int i t,.int j t',.int k Hi]) }).objs.size:=by simpa using hb
     subst e;exact I2.ji (adJ _) (I2.aA.fresh (adJ _))
section
variable{g:TG}{tb:TS}{D:Ends}{G:L2.St}{H:Hp}{lo st:Int}{n:Nat}
theorem RU:kR (zL ta) g tb D G H=ta G H (λvs H1=>∃ i j:Int,vs=[.int i,.int j]/\(-(2 ^ 62)<=i/\i<2 ^ 62/\-(2 ^ 62)<=j/\j<2 ^ 62)/\FJ (jk i (j-i).toNat) g tb D G H1):=rfl
theorem RV:kR (AK ta) g tb D G H=ta G H (λvs H1=>∃ i j c:Int,vs=[.int i,.int j,.int c]/\(-1000000<=i/\i<=1000000/\-1000000<=j/\j<=1000000/\-1000000<=c/\c<=1000000/\c≠0)/\FJ (xg i c (nG i j c)) g tb D G H1):=rfl
theorem RW(Pv:Nat->L2.St->Hp->Prop)(h0:Pv 0 G H)(hs:∀ i G H,i<n->Pv i G H->g (.int (lo+(i:Int) * st)) G H λσ2 H2=>tb { D with nx:=Pv (i+1),ct:=Pv (i+1),bk:=D.nx } σ2 H2)(hd:∀ G H,Pv n G H->D.nx G H):FJ (xg lo st n) g tb D G H:=by
 refine#[λi m G H=>m=n-i/\i<=n/\Pv i G H,#[n,by simp,ad6 _,h0],?_];rintro i m G H ⟨rfl,hi,p⟩;by_cases bc:i<n
 .refine .inr #[bc,Pv (i+1),λσ' H' p'=>#[n-(i+1),by lia,Y,bc,p'],λx H' y=>?_];obtain⟨e,y⟩:=y;subst e y;exact hs i G _ bc p
 .have e:i=n:=by lia
  subst e;exact .inl #[adJ _,hd G H p]
end
theorem RX(xs:List V){a b:Nat}(h2:b<=xs.length):jr xs (U (a:Int)) (U (b:Int))=(xs.drop a).take (b-a):=by
 unfold jr;rw[HT.wB,HT.wB,agT h2];by_cases h:a<=xs.length
 .rw[agT h]
 .rw[ai2 (by lia),agb (adJ _),agb (by lia)];simp
theorem RY(xs:List V)(b:Nat):jr xs O (U (b:Int))=xs.take b:=by
 unfold jr;rw[HT.wB,HT.Fz,List.drop_zero,Nat.sub_zero];by_cases h:b<=xs.length
 .rw[agT h]
 .rw[ai2 (by lia),aeN,ag4 (by lia)]
theorem Hj(xs:List V)(a:Nat):jr xs (U (a:Int)) O=xs.drop a:=by
 unfold jr;rw[HT.wB,HT.Fz];by_cases h:a<=xs.length
 .rw[agT h,ag4 (by rw[af8];lia)]
 .rw[ai2 (by lia),agb (adJ _),agb (by lia)];simp
theorem AL{K:adz}{H:Hp}:∀ (ns:List Int),iU K H (ns.map V.int) (ns.map PyData.int)
 | []=>.nil
 | n::ns=>.cons (.int n) (AL ns)
mutual
noncomputable def jy:Nat->ahp->Bool
 | _,.none=>true
 | _,.bool _=>true
 | _,.int _=>true
 | n+1,.tuple ds=>qN n ds
 | n+1,.list ds=>qN n ds
 | _,_=>false
noncomputable def qN:Nat->List ahp->Bool
 | _,[]=>true
 | n,d::ds=>jy n d && qN n ds
end
mutual
theorem Hk:∀ (d:ahp) {n:Nat},jy n d=true->aga d d=true/\d.canLay0=true/\d.depth<=n
 | .none,n,_=>#[Y,Y,ad6 _]
 | .bool b,n,_=>#[by simp[aga],Y,ad6 _]
 | .int i,n,_=>#[by simp[aga],Y,ad6 _]
 | .str x,0,h=>by simp[jy] at h
 | .str x,n+1,h=>by simp[jy] at h
 | .dict x,0,h=>by simp[jy] at h
 | .dict x,n+1,h=>by simp[jy] at h
 | .tuple ds,0,h=>by simp[jy] at h
 | .list ds,0,h=>by simp[jy] at h
 | .tuple ds,n+1,h=>by obtain⟨a,b,c⟩:=AM ds (n:=n) (by simpa [jy] using h);exact#[by simpa only [aga] using a,by simpa only [ahi] using b,by simp only[PyData.depth];lia]
 | .list ds,n+1,h=>by obtain⟨a,b,c⟩:=AM ds (n:=n) (by simpa [jy] using h);exact#[by simpa only [aga] using a,by simpa only [ahi] using b,by simp only[PyData.depth];lia]
theorem AM:∀ (ds:List ahp) {n:Nat},qN n ds=true->aiR ds ds=true/\ahe ds=true/\ahW ds<=n
 | [],n,_=>#[Y,Y,ad6 _]
 | d::ds,n,h=>by
  have h':jy n d=true/\qN n ds=true:=by simpa [qN] using h
  obtain⟨a,b,c⟩:=Hk d h'.1;obtain⟨a',b',c'⟩:=AM ds h'.2;exact#[by simp only[aiR,a,a',aiS],by simp only[ahe,b,b',aiS],by simp only[ahW];lia]
end
end Gz
namespace Gz
noncomputable def Hl(a b:Int):Int:=((Nat.gcd a.natAbs b.natAbs:Nat):Int)
noncomputable def sg(t b:Int):Int:=if b<0 then -Hl t b else Hl t b
noncomputable def rt(t b:Int):Int:=t.fdiv (sg t b)
noncomputable def rb(t b:Int):Int:=b.fdiv (sg t b)
end Gz
namespace Gz
open PySem PySem.Spec PyProof.Rows L2
def ay{α:Type}(R:V->α->Prop):List V->List α->Prop
 | [],[]=>True
 | x::xs,a::as=>R x a/\ay R xs as
 | _,_=>False
section
variable{α:Type}{R R':V->α->Prop}
theorem ay.len:∀ {xs:List V} {as:List α},ay R xs as->xs.length=as.length
 | [],[],_=>rfl
 | _::_,_::_,h=>by simp[ay.len h.2]
 | [],_::_,h=>h.elim
 | _::_,[],h=>h.elim
theorem ay.imp(f:∀ x a,R x a->R' x a):∀ {xs:List V} {as:List α},ay R xs as->ay R' xs as
 | [],[],_=>trivial
 | _::_,_::_,h=>#[f _ _ h.1,ay.imp f h.2]
 | [],_::_,h=>h.elim
 | _::_,[],h=>h.elim
theorem ay.get:∀ {xs:List V} {as:List α},ay R xs as->∀ {i:Nat} {x:V},xs[i]?=U x->∃ a,as[i]?=U a/\R x a
 | [],[],_,i,x,e=>by simp at e
 | _::_,a::_,h,0,x,e=>by simp at e;subst e;exact#[a,by simp,h.1]
 | _::_,_::_,h,i+1,x,e=>by simp only[agU] at e ⊢;exact ay.get h.2 e
 | [],_::_,h,_,_,_=>h.elim
 | _::_,[],h,_,_,_=>h.elim
theorem ay.at:∀ {xs:List V} {as:List α},ay R xs as->∀ {i:Nat} {a:α},as[i]?=U a->∃ x,xs[i]?=U x/\R x a
 | [],[],_,i,x,e=>by simp at e
 | x::_,_::_,h,0,a,e=>by simp at e;subst e;exact#[x,by simp,h.1]
 | _::_,_::_,h,i+1,a,e=>by simp only[agU] at e ⊢;exact ay.at h.2 e
 | [],_::_,h,_,_,_=>h.elim
 | _::_,[],h,_,_,_=>h.elim
theorem ay.app:∀ {xs ys:List V} {as bs:List α},ay R xs as->ay R ys bs->ay R (xs++ys) (as++bs)
 | [],_,[],_,_,h=>h
 | _::_,_,_::_,_,h,h'=>#[h.1,ay.app h.2 h']
 | [],_,_::_,_,h,_=>h.elim
 | _::_,_,[],_,h,_=>h.elim
theorem ay.snoc(h:ay R xs as)(h':R x a):ay R (xs++[x]) (as++[a]):=h.app #[h',trivial]
theorem ay.ints:∀ (ns:List Int),ay (λx n=>x=V.int n) (ns.map V.int) ns
 | []=>trivial
 | n::ns=>#[Y,ay.ints ns]
theorem ay.gq{lo:Int}(n:Nat):ay (λx (k:Nat)=>x=V.int (lo+k)) ((adM n).map λk=>V.int (lo+(k:Nat))) (adM n):=by
 suffices ∀ l:List Nat,ay (λx (k:Nat)=>x=V.int (lo+k)) (l.map λk=>V.int (lo+(k:Nat))) l from this _
 intro l
 induction l with
 | nil=>trivial
 | cons a l ih=>exact#[Y,ih]
end
theorem tZ{α:Type}{R:Hp->V->α->Prop}{Ok:Hp->Prop}{ρ:L2.St}{tt:TT}{te:TE}{p:α->Bool}{f:α->V}{Q':List V->Hp->Prop}(mono:∀ H H' x a,ai H H'->R H x a->R H' x a):∀ {xs:List V} {as:List α} {ys:List V} {H:Hp},ay (R H) xs as->(∀ H',ai H H'->Ok H') ->
 (∀ x a,a∈as->∀ H',ai H H'->R H' x a->∀ Q,(∀ gU,ai H' gU->Q (p a) gU)->tt (U x::ρ) H' Q)->(∀ x a,a∈as->p a=true->∀ H',ai H H'->R H' x a->∀ Q:VK,(∀ gU,ai H' gU->Q (f a) gU)->te (U x::ρ) H' Q) ->
 (∀ H',ai H H'->Q' (ys++(as.filter p).map f) H')->fK Ok ρ tt te xs ys H Q'
 | [],[],ys,H,_,b7,_,_,q=>#[b7 H (ai.refl H),by simpa using q H (ai.refl H)]
 | x::xs,a::as,ys,H,h,b7,ht,he,q=>by
  refine#[b7 H (ai.refl H),ht x a (.head _) H (ai.refl H) h.1 _ λH1 s1=>?_];by_cases hb:p a=true
  .rw[if_pos hb];refine he x a (.head _) hb H1 s1 (mono _ _ _ _ s1 h.1) _ λH2 s2=>?_;have S:=s1.trans s2;refine tZ mono (h.2.imp λx a r=>mono _ _ _ _ S r) (λH' s'=>b7 H' (S.trans s')) (λx a ha H' s'=>ht x a (.tail _ ha) H' (S.trans s')) (λx a ha hb H' s'=>he x a (.tail _ ha) hb H' (S.trans s')) λH' s'=>?_;have:=q H' (S.trans s');rw[aee,if_pos hb] at this;simpa using this
  .rw[if_neg hb];refine tZ mono (h.2.imp λx a r=>mono _ _ _ _ s1 r) (λH' s'=>b7 H' (s1.trans s')) (λx a ha H' s'=>ht x a (.tail _ ha) H' (s1.trans s')) (λx a ha hb H' s'=>he x a (.tail _ ha) hb H' (s1.trans s')) λH' s'=>?_;have:=q H' (s1.trans s');rw[aee,if_neg hb] at this;exact this
 | [],_::_,_,_,h,_,_,_,_=>h.elim
 | _::_,[],_,_,h,_,_,_,_=>h.elim
theorem oW(b7:Ok H):∀ {xs:List V} {as:List α} {ys:List V},ay R xs as ->
 (∀ x a,a∈as->R x a->∀ Q,Q (p a) H->tt (U x::ρ) H Q)->(∀ x a,a∈as->p a=true->R x a->∀ Q:VK,Q (f a) H->te (U x::ρ) H Q) ->
 Q' (ys++(as.filter p).map f) H->fK Ok ρ tt te xs ys H Q'
 | [],[],ys,_,_,_,q=>#[b7,by simpa using q]
 | x::xs,a::as,ys,h,ht,he,q=>by
  refine#[b7,ht x a (.head _) h.1 _ ?_];by_cases hb:p a=true
  .rw[if_pos hb];refine he x a (.head _) hb h.1 _ (oW b7 h.2 (λx a ha=>ht x a (.tail _ ha)) (λx a ha=>he x a (.tail _ ha)) ?_);rw[aee,if_pos hb] at q;simpa using q
  .rw[if_neg hb];refine oW b7 h.2 (λx a ha=>ht x a (.tail _ ha)) (λx a ha=>he x a (.tail _ ha)) ?_;rw[aee,if_neg hb] at q;exact q
 | [],_::_,_,h,_,_,_=>h.elim
 | _::_,[],_,h,_,_,_=>h.elim
theorem filter_tt(l:List α):l.filter (λy=>true)=l:=af5.mpr λy y=>rfl
abbrev P2:=Int × Int
def eQ(H:Hp)(v:V)(p:P2):Prop:=∃ a,v = .ref a/\H a=U (.tup [.int p.1,.int p.2])
theorem eQ.same(h:eQ H v p)(s:ai H H'):eQ H' v p:=let ⟨a,e,q⟩:=h;#[a,e,s _ _ q]
theorem eQ.put(h:eQ H v p)(hr:H r=U (.lst ys)):eQ (upd H r (.lst zs)) v p:=by obtain⟨a,e,q⟩:=h;refine#[a,e,?_];rw[aK (qk q hr (λz=>nomatch z))];exact q
abbrev iu(H:Hp):List V->List P2->Prop:=ay (eQ H)
theorem iu.same(h:iu H xs ps)(s:ai H H'):iu H' xs ps:=ay.imp (λy y r=>r.same s) h
noncomputable def aside(s e p:P2):Int:=(p.2-s.2) * (e.1-s.1)-(p.1-s.1) * (e.2-s.2)
noncomputable def aN(ps:List P2)(i:Nat):P2:=ps.getD i (0,0)
def RZ(ks:List P2)(p q:Int)(i:Nat):Prop:=i+1<ks.length/\(aN ks i).1 * q<=p/\p<=(aN ks (i+1)).1 * q
def hit(ks:List P2)(p q:Int):Prop:=∃ i,RZ ks p q i
def SameBut(x:adK)(H H':Hp):Prop:=∀ b o,b≠x->H b=U o->H' b=U o
theorem qO(hi:i<ps.length):aN ps i∈ps:=by unfold aN;rw[adB,adC hi];exact ai3 hi
theorem gW{α β:Type}{R:Hp->V->α->Prop}{R':Hp->V->β->Prop}{Ok:Hp->Prop}{ρ:L2.St}{tt:TT}{te:TE}{f:α->β}{Q':List V->Hp->Prop}(mono:∀ H H' x a,ai H H'->R H x a->R H' x a)(ki:∀ H H' x a,ai H H'->R' H x a->R' H' x a) :
 ∀ {xs:List V} {as:List α} {ys:List V} {bs:List β} {H:Hp},ay (R H) xs as->ay (R' H) ys bs->(∀ H',ai H H'->Ok H')->(∀ x a,a∈as->∀ H',ai H H'->R H' x a->∀ Q,Q true H'->tt (U x::ρ) H' Q) ->
 (∀ x a,a∈as->∀ H',ai H H'->R H' x a->∀ Q:VK,(∀ gU y,ai H' gU->R' gU y (f a)->Q y gU)->te (U x::ρ) H' Q) ->
 (∀ H' zs,ai H H'->ay (R' H') zs (bs++as.map f)->Q' zs H')->fK Ok ρ tt te xs ys H Q'
 | [],[],ys,bs,H,_,hy,b7,_,_,q=>#[b7 H (ai.refl H),q H ys (ai.refl H) (by simpa using hy)]
 | x::xs,a::as,ys,bs,H,h,hy,b7,ht,he,q=>by
  refine#[b7 H (ai.refl H),ht x a (.head _) H (ai.refl H) h.1 _ ?_];rw[if_pos Y];refine he x a (.head _) H (ai.refl H) h.1 _ λH2 y s2 r2=>?_;refine gW mono ki (bs:=bs++[f a]) (h.2.imp λx a r=>mono _ _ _ _ s2 r) ((hy.imp λx a r=>ki _ _ _ _ s2 r).snoc r2) (λH' s'=>b7 H' (s2.trans s')) (λx a ha H' s'=>ht x a (.tail _ ha) H' (s2.trans s')) (λx a ha H' s'=>he x a (.tail _ ha) H' (s2.trans s')) λH' zs s' hz=>?_;refine q H' zs (s2.trans s') ?_;rw[adU]
  rwa [aiB] at hz
 | [],_::_,_,_,_,h,_,_,_,_,_=>h.elim
 | _::_,[],_,_,_,h,_,_,_,_,_=>h.elim
noncomputable def sw(ks:List P2):List P2:=ks.map λp=>(p.2,p.1)
end Gz
namespace Gz
open PySem PySem.W PyProof.Rows
def fh{α:Type}(lt:Nat->Nat->Bool)(n:Nat):KasT α->(α->Prop)->Prop
 | .ret a,P=>P a
 | .ask i j k,P=>i<n/\j<n/\fh lt n (k (lt i j)) P
section
theorem qP:∀ (t:KasT α),fh lt n t (λa=>fh lt n (f a) P)->fh lt n (t.bind f) P
 | .ret _,h=>h
 | .ask _ _ k,h=>#[h.1,h.2.1,qP (k _) h.2.2]
theorem Hm{α:Type}{P P':α->Prop}(h:∀ a,P a->P' a):∀ (t:KasT α),fh lt n t P->fh lt n t P'
 | .ret _,q=>h _ q
 | .ask _ _ k,q=>#[q.1,q.2.1,Hm h (k _) q.2.2]
theorem Hn{α:Type}{cmp:Nat->Nat->(Bool->adQ->Prop)->adQ->Prop}{Ok:adQ->Prop}(hc:∀ i j C s,i<n->j<n->Ok s->(∀ s',Ok s'->C (lt i j) s')->cmp i j C s){P:α->Prop}{Q:α->adQ->Prop}(hQ:∀ a s,Ok s->P a->Q a s) :
 ∀ (t:KasT α) (s:adQ),Ok s->fh lt n t P->t.kasWp cmp Q s
 | .ret a,s,o,h=>hQ a s o h
 | .ask i j k,s,o,h=>hc i j _ s h.1 h.2.1 o λs' o'=>Hn hc hQ (k (lt i j)) s' o' h.2.2
structure Ord(lt:Nat->Nat->Bool):Prop where
 asym:∀ {a b},lt a b=true->lt b a=false
 tr:∀ {a b c},lt b a=false->lt c b=false->lt c a=false
theorem Ord.rfl'(O9q:Ord lt)(a:Nat):lt a a=false:=by
 cases h:lt a a with
 | false=>rfl
 | true=>rw[O9q.asym h] at h;cases h
def fj(lt:Nat->Nat->Bool)(p:Array Nat)(k:Nat):Prop:=∀ i j,i<=j->j<k->lt (p.getD j 0) (p.getD i 0)=false
def gB(lt:Nat->Nat->Bool)(p:Array Nat)(k:Nat):Prop:=∀ i j,i<=j->j<k->lt (p.getD i 0) (p.getD j 0)=false
def cM(n:Nat)(p:Array Nat):Prop:=p.toList.Perm (adM n)
theorem cM.size(h:cM n p):p.size=n:=by have:=h.length_eq;simpa using this
theorem cM.below(h:cM n p)(hi:i<n):p.getD i 0<n:=by
 have hs:=h.size;have c8:i<p.size:=by lia
 have e:p.getD i 0=p[i]:=by simp[alB,c8]
 rw[e];have m:p[i]∈p.toList:=by simp
 simpa using h.mem_iff.mp m
theorem cM.of(h:cM n p)(hq:q.Perm p):cM n q:=(Array.perm_iff_toList_perm.mp hq).trans h
theorem fj.one(O9q:Ord lt):fj lt p 1:=λi j gX hj=>by
 have:i=j:=by lia
 subst this;exact O9q.rfl' _
theorem gB.one(O9q:Ord lt):gB lt p 1:=λi j gX hj=>by
 have:i=j:=by lia
 subst this;exact O9q.rfl' _
theorem fj.succ(O9q:Ord lt)(h:fj lt p k)(hk:1<=k)(hn:lt (p.getD k 0) (p.getD (k-1) 0)=false):fj lt p (k+1):=λi j gX hj=>by
 by_cases e:j=k
 .subst e;by_cases ei:i=j
  .subst ei;exact O9q.rfl' _
  .exact O9q.tr (h i (j-1) (by lia) (by lia)) hn
 .exact h i j gX (by lia)
theorem gB.succ(O9q:Ord lt)(h:gB lt p k)(hk:1<=k)(hn:lt (p.getD (k-1) 0) (p.getD k 0)=false):gB lt p (k+1):=λi j gX hj=>by
 by_cases e:j=k
 .subst e;by_cases ei:i=j
  .subst ei;exact O9q.rfl' _
  .exact O9q.tr hn (h i (j-1) (by lia) (by lia))
 .exact h i j gX (by lia)
theorem nH(hj:j<=p.size)(k:Nat):(kas_rev p i j).getD k 0=if i<=k/\k<j then p.getD (i+j-1-k) 0 else p.getD k 0:=by simp only[ahX];unfold kas_rev;rw[getElem?_mirror_all hj];split<;>rfl
theorem Ho(hk:k<p.size)(hl:l<=k)(i:Nat):(bubble p k (k-l)).getD i 0=if i=l then p.getD k 0 else if l<i/\i<=k then p.getD (i-1) 0 else p.getD i 0:=by
 simp only[ahX];rw[getElem?_bubble hk _ (by lia)];have e:k-(k-l)=l:=by lia
 rw[e];split
 .rfl
 .split<;>rfl
theorem Hq(O9q:Ord lt)(hp:cM n p):∀ (f a:Nat),1<=a->a+f<=n->fj lt p a->(∀ m,a<=m->m<=a+f->fj lt p m->P m)->fh lt n (kas_asc p f a) P
 | 0,a,h1,h2,hs,q=>q a (adJ _) (by lia) hs
 | f+1,a,h1,h2,hs,q=>by
  refine#[hp.below (by lia),hp.below (by lia),?_];cases c:lt (p.getD a 0) (p.getD (a-1) 0) with
  | true =>
   simp only[↓reduceIte];exact q a (adJ _) (by lia) hs
  | false =>
   simp only[ad5,↓reduceIte];exact Hq O9q hp f (a+1) (by lia) (by lia) (hs.succ O9q h1 c) λm m1 m2=>q m (by lia) (by lia)
theorem gB.rev(h:gB lt p k)(hk:k<=p.size)(hi:i<=k)(he:∀ j,i<=j->j<k->lt (p.getD (k-1) 0) (p.getD j 0)=false)(O9q:Ord lt):gB lt (kas_rev p i k) k:=λa b fu hb=>by
 rw[nH hk,nH hk];have eqv:∀ x y,i<=x->x<k->i<=y->y<k->lt (p.getD x 0) (p.getD y 0)=false:=λx y x1 x2 y1 y2=>O9q.tr (he y y1 y2) (h x (k-1) (by lia) (by lia));split
 .split
  .exact eqv _ _ (by lia) (by lia) (by lia) (by lia)
  .exfalso;lia
 .split
  .exact h _ _ (by lia) (by lia)
  .exact h _ _ fu hb
theorem xi(O9q:Ord lt):∀ (f:Nat) (p:Array Nat) (k q:Nat),cM n p->1<=k->k+f<=n->q+1<=k->gB lt p k->(∀ j,k-(q+1)<=j->j<k->lt (p.getD (k-1) 0) (p.getD j 0)=false) ->
 (∀ p' k' q',cM n p'->k<=k'->k'<=k+f->q' + 1<=k'->gB lt p' k'->(∀ j,k' - (q' + 1)<=j->j<k'->lt (p'.getD (k' - 1) 0) (p'.getD j 0)=false)->P (p',k',q'))->fh lt n (kas_desc f p k q) P
 | 0,p,k,q,hp,h1,h2,h3,hd,he,fin=>fin p k q hp (adJ _) (by lia) h3 hd he
 | f+1,p,k,q,hp,h1,h2,h3,hd,he,fin=>by
  have hs:=hp.size;have one:∀ (p':Array Nat),∀ j,(k+1)-(0+1)<=j->j<k+1->lt (p'.getD (k+1-1) 0) (p'.getD j 0)=false:=λp' j j1 j2=>by
   have:j=k:=by lia
   subst this;exact O9q.rfl' _
  refine#[hp.below (by lia),hp.below (by lia),?_];cases c:lt (p.getD k 0) (p.getD (k-1) 0) with
  | true =>
   simp only[↓reduceIte];have c':=O9q.asym c;by_cases hq:q > 0
   .rw[if_pos hq];have dI:cM n (kas_rev p (k-(q+1)) k):=hp.of (ajV _ _ _ _);have jW:gB lt (kas_rev p (k-(q+1)) k) k:=hd.rev (by lia) (by lia) he O9q;refine xi O9q f _ (k+1) 0 dI (by lia) (by lia) (by lia) (jW.succ O9q h1 ?_) (one _) λp2 k2 q2 a1 a2 a3 a4 a5 a6=>fin p2 k2 q2 a1 (by lia) (by lia) a4 a5 a6;rw[nH (by lia),nH (by lia),if_pos (by lia),if_neg (by lia)];have e1:k-(q+1)+k-1-(k-1)=k-(q+1):=by lia
    rw[e1];exact O9q.tr c' (hd _ (k-1) (by lia) (by lia))
   .rw[if_neg hq];exact xi O9q f p (k+1) 0 hp (by lia) (by lia) (by lia) (hd.succ O9q h1 c') (one _) λp2 k2 q2 a1 a2 a3 a4 a5 a6=>fin p2 k2 q2 a1 (by lia) (by lia) a4 a5 a6
  | false =>
   simp only[ad5,↓reduceIte];refine#[hp.below (by lia),hp.below (by lia),?_];cases d:lt (p.getD (k-1) 0) (p.getD k 0) with
   | true =>
    simp only[↓reduceIte];exact fin p k q hp (adJ _) (by lia) h3 hd he
   | false =>
    simp only[ad5,↓reduceIte];refine xi O9q f p (k+1) (q+1) hp (by lia) (by lia) (by lia) (hd.succ O9q h1 d) (λj j1 j2=>?_) λp2 k2 q2 a1 a2 a3 a4 a5 a6=>fin p2 k2 q2 a1 (by lia) (by lia) a4 a5 a6;have ek:k+1-1=k:=by lia
    rw[ek];by_cases ej:j=k
    .subst ej;exact O9q.rfl' _
    .exact O9q.tr (he j (by lia) (by lia)) c
theorem gB.whole(h:gB lt p k)(hk:k<=p.size):fj lt (kas_rev p 0 k) k:=λa b fu hb=>by rw[nH hk,nH hk,if_pos (by lia),if_pos (by lia)];exact h _ _ (by lia) (by lia)
theorem Hr(O9q:Ord lt)(hp:cM n p)(h1:1<=k)(h2:k<=n)(hd:gB lt p k)(fin:∀ m p',cM n p'->1<=m->m<=n->fj lt p' m->P (m,p')):fh lt n (kas_tail3 k n p) P:=by have dI:cM n (kas_rev p 0 k):=hp.of (ajV _ _ _ _);have hs:=hp.size;unfold kas_tail3;refine qP _ (Hq O9q dI (n-k) k h1 (by lia) (hd.whole (by lia)) λm m1 m2 ms=>?_);exact fin m _ dI (by lia) (by lia) ms
theorem Hs(O9q:Ord lt)(hp:cM n p)(h1:1<=k)(h2:k+1<=n)(hd:gB lt p (k+1))(fin:∀ m p',cM n p'->1<=m->m<=n->fj lt p' m->P (m,p')):fh lt n (kas_descPart k n p) P:=by
 unfold kas_descPart;refine qP _ (xi O9q (n-(k+1)) p (k+1) 0 hp (by lia) (by lia) (by lia) hd (λj j1 j2=>?_) λp2 k2 q2 a1 a2 a3 a4 a5 a6=>?_)
 .have:j=k:=by lia
  subst this;exact O9q.rfl' _
 .have hs:=a1.size;dsimp only;by_cases hq:q2 > 0
  .rw[if_pos hq];exact Hr O9q (a1.of (ajV _ _ _ _)) (by lia) (by lia) (a5.rev (by lia) (by lia) a6 O9q) fin
  .rw[if_neg hq];exact Hr O9q a1 (by lia) (by lia) a5 fin
theorem R0(O9q:Ord lt)(hp:cM n p)(hn:1<=n)(fin:∀ m p',cM n p'->1<=m->m<=n->fj lt p' m->P (m,p')):fh lt n (kas_count n p) P:=by
 have hs:=hp.size;unfold kas_count;have key:fh lt n (kas_asc p (n-1) 1) (λm=>1<=m/\m<=n/\fj lt p m/\(m<n->lt (p.getD m 0) (p.getD (m-1) 0)=true)):=by
  have gen:∀ (f a:Nat),1<=a->a+f=n->fj lt p a->fh lt n (kas_asc p f a) (λm=>1<=m/\m<=n/\fj lt p m/\(m<n->lt (p.getD m 0) (p.getD (m-1) 0)=true)):=by
   intro f
   induction f with
   | zero=>intro a h1 h2 hs;exact#[h1,by lia,hs,λz=>absurd z (by lia)]
   | succ f ih =>
    intro a h1 h2 hs;refine#[hp.below (by lia),hp.below (by lia),?_];cases c:lt (p.getD a 0) (p.getD (a-1) 0) with
    | true =>
     simp only[↓reduceIte];exact#[h1,by lia,hs,λv=>c]
    | false =>
     simp only[ad5,↓reduceIte];exact ih (a+1) (by lia) (by lia) (hs.succ O9q h1 c)
  exact gen (n-1) 1 (adJ _) (by lia) (fj.one O9q)
 refine qP _ (Hm (λm hm=>?_) _ key);obtain⟨m1,m2,ms,mc⟩:=hm;by_cases e:(m == n)=true
 .rw[if_pos e];exact fin m p hp m1 m2 ms
 .rw[if_neg e];have R1:m<n:=by
   have:m≠n:=by simpa using e
   lia
  have mc:=mc R1;by_cases h2:m > 1
  .rw[if_pos h2];refine#[hp.below (by lia),hp.below (by lia),?_];cases c:lt (p.getD 0 0) (p.getD (m-1) 0) with
   | true =>
    simp only[↓reduceIte];exact fin m p hp m1 m2 ms
   | false =>
    simp only[ad5,↓reduceIte];have eqv:∀ x y,x<m->y<m->lt (p.getD x 0) (p.getD y 0)=false:=λx y hx hy =>
     O9q.tr (ms y (m-1) (by lia) (by lia)) (O9q.tr c (ms 0 x (by lia) hx))
    have dI:cM n (kas_rev p 0 m):=hp.of (ajV _ _ _ _);refine Hs O9q dI m1 (by lia) (λi j gX hj=>?_) fin;rw[nH (by lia),nH (by lia)];by_cases ej:j=m
    .subst ej;rw[if_neg (show ¬ (0<=j/\j<j) by lia)];split
     .exact O9q.tr (O9q.asym mc) (eqv _ _ (by lia) (by lia))
     .have:i=j:=by lia
      subst this;exact O9q.rfl' _
    .rw[if_pos (by lia),if_pos (by lia)];exact eqv _ _ (by lia) (by lia)
  .rw[if_neg h2];have e1:m=1:=by lia
   subst e1;exact Hs O9q hp (adJ _) (by lia) ((gB.one O9q).succ O9q (adJ _) (O9q.asym mc)) fin
theorem AN(O9q:Ord lt)(hp:cM n p)(hk:k<n)(hs:fj lt p k)(fin:∀ m,m<=k->(∀ i,i<m->lt (p.getD k 0) (p.getD i 0)=false)->(∀ i,m<=i->i<k->lt (p.getD i 0) (p.getD k 0)=false)->P m) :
 ∀ (f l r:Nat),r-l<=f->l<=r->r<=k->(∀ i,i<l->lt (p.getD k 0) (p.getD i 0)=false)->(∀ i,r<=i->i<k->lt (p.getD i 0) (p.getD k 0)=false)->fh lt n (kas_place p k f l r) P
 | 0,l,r,h1,h2,h3,a,b=>by
  have:l=r:=by lia
  subst this;exact fin l h3 a b
 | f+1,l,r,h1,h2,h3,a,b=>by
  unfold kas_place;by_cases hlr:l ≥ r
  .rw[if_pos hlr];have:l=r:=by lia
   subst this;exact fin l h3 a b
  .rw[if_neg hlr];refine#[hp.below hk,hp.below (by lia),?_];cases c:lt (p.getD k 0) (p.getD ((l+r) / 2) 0) with
   | true =>
    simp only[↓reduceIte];refine AN O9q hp hk hs fin f l ((l+r) / 2) (by lia) (by lia) (by lia) a λi i1 i2=>?_;exact O9q.tr (O9q.asym c) (hs _ _ i1 i2)
   | false =>
    simp only[ad5,↓reduceIte];refine AN O9q hp hk hs fin f ((l+r) / 2+1) r (by lia) (by lia) h3 (λi i1=>?_) b;exact O9q.tr (hs i ((l+r) / 2) (by lia) (by lia)) c
theorem Ht(O9q:Ord lt)(fin:∀ p,cM n p->fj lt p n->P p):∀ (f:Nat) (p:Array Nat) (k:Nat),k+f=n->cM n p->fj lt p k->fh lt n (kas_bin f p k) P
 | 0,p,k,h,hp,hs=>fin p hp (by rw[<- h];exact hs)
 | f+1,p,k,h,hp,hs=>by
  have sz:=hp.size;unfold kas_bin;refine qP _ (AN O9q hp (by lia) hs (λm m1 ma mb=>?_) k 0 k (by lia) (by lia) (adJ _) (λy z=>absurd z (by lia)) λy z1 z2=>absurd z2 (by lia));refine Ht O9q fin f _ (k+1) (by lia) (hp.of (bubble_perm _ _ _)) λi j gX hj=>?_;rw[Ho (by lia) m1,Ho (by lia) m1];by_cases ei:i=m
  .rw[if_pos ei];by_cases ej:j=m
   .rw[if_pos ej];exact O9q.rfl' _
   .rw[if_neg ej,if_pos (by lia)];exact mb _ (by lia) (by lia)
  .rw[if_neg ei];by_cases ej:j=m
   .rw[if_pos ej,if_neg (by lia)];exact ma _ (by lia)
   .rw[if_neg ej];split
    .split
     .exact hs _ _ (by lia) (by lia)
     .exact hs _ _ (by lia) (by lia)
    .split
     .exfalso;lia
     .exact hs _ _ (by lia) (by lia)
theorem Hu(O9q:Ord lt)(hn:1<=n):fh lt n (kas_sort n) (λp=>cM n p/\fj lt p n):=by
 unfold kas_sort;have h0:cM n (afN (adM n)):=by unfold cM;simp
 refine qP _ (R0 O9q h0 hn λm p hp m1 m2 ms=>?_);dsimp only;by_cases h:m<n
 .rw[if_pos h];have e:max m 1=m:=by lia
  rw[e];exact Ht O9q (λp hp hs=>#[hp,hs]) (n-m) p m (by lia) hp ms
 .rw[if_neg h];have e:m=n:=by lia
  subst e;exact#[hp,ms]
noncomputable def xj{α:Type}(lt:Nat->Nat->Bool):KasT α->α
 | .ret a=>a
 | .ask i j k=>xj lt (k (lt i j))
theorem Hv:∀ (t:KasT α),fh lt n t P->P (xj lt t)
 | .ret _,h=>h
 | .ask i j k,h=>Hv (k (lt i j)) h.2.2
theorem Hw:∀ (t:KasT α),fh lt n t P->fh lt n t (λa=>a=xj lt t)
 | .ret _,_=>rfl
 | .ask i j k,h=>#[h.1,h.2.1,Hw (k (lt i j)) h.2.2]
noncomputable def c9(lt:Nat->Nat->Bool)(n:Nat):Array Nat:=if n<2 then afN (adM n) else xj lt (kas_sort n)
theorem qQ(O9q:Ord lt):cM n (c9 lt n)/\fj lt (c9 lt n) n:=by
 unfold c9;split
 .rename_i h;refine#[by unfold cM;simp,λi j gX hj=>?_];have:i=j:=by lia
  subst this;exact O9q.rfl' _
 .rename_i h;exact Hv _ (Hu O9q (by lia))
end
end Gz
namespace Gz
open PySem PySem.Spec PyProof.Rows L2
theorem Hy:∀ {a b:List Int},HT.lexLt a b=true->HT.lexLt b a=false
 | [],[],h=>by cases h
 | [],_::_,_=>rfl
 | _::_,[],h=>by cases h
 | x::a,y::b,h=>by
  rw[HT.qB] at h ⊢;by_cases e:x=y
  .subst e;rw[if_pos Y] at h ⊢;exact Hy h
  .rw[if_neg e] at h;rw[if_neg (aey e)];have:x<y:=by simpa using h
   simpa using (by walk_at "o" : ¬ y<x)
theorem Hz:∀ {a b c:List Int},HT.lexLt b a=false->HT.lexLt c b=false->HT.lexLt c a=false
 | [],[],[],_,_=>rfl
 | [],[],_::_,_,_=>rfl
 | [],_::_,[],_,h=>by cases h
 | [],_::_,_::_,_,_=>rfl
 | _::_,[],_,h,_=>by cases h
 | _::_,_::_,[],_,h=>by cases h
 | x::a,y::b,z::c,h1,h2=>by
  rw[HT.qB] at h1 h2 ⊢;by_cases e1:y=x
  .subst e1;rw[if_pos Y] at h1;by_cases e2:z=y
   .subst e2;rw[if_pos Y] at h2 ⊢;exact Hz h1 h2
   .rw[if_neg e2] at h2 ⊢;exact h2
  .rw[if_neg e1] at h1;have qR:¬ y<x:=by simpa using h1
   by_cases e2:z=y
   .subst e2;rw[if_neg e1];exact h1
   .rw[if_neg e2] at h2;have t4:¬ z<y:=by simpa using h2
    rw[if_neg (by walk_at "o")];simpa using (by walk_at "o" : ¬ z<x)
section
theorem R4(h:Q (a == b) s):adY (model prog w) A (eqBool (.int a t) (.int b u)) Q E s:=SeqAt.EqAt.int_int a t b u prog w E Q h
theorem R5:∀ {ns ms:List Int} {us ws:List adH} {i:Nat},aiM us ns->aiM ws ms->fin=decide (ns.length<ms.length)->Q (HT.lexLt ns ms) s->PySem.W.KatLex prog w A b fin Q (us.zip ws) i s:=by
 intro ns
 induction ns with
 | nil =>
  intro ms us ws i r q e h;cases r;cases q with
  | nil=>subst e;exact h
  | cons=>subst e;exact h
 | cons n ns ih =>
  intro ms us ws i r q e h;cases r with
  | cons _ t r =>
   cases q with
   | nil=>subst e;exact h
   | cons m t' q =>
    rw[List.zip_cons_cons];refine PySem.W.kat_cons (R4 (PySem.W.kat_go (λhh=>PySem.W.kat_yes ?_) λhh=>PySem.W.kat_no ?_))
    .have e1:n=m:=by simpa using hh
     subst e1;rw[HT.qB,if_pos Y] at h;exact ih r q (by subst e;simp) h
    .have e1:n≠m:=by simpa using hh
     rw[HT.qB,if_neg e1] at h;cases (b && i == 0) with
     | true=>exact oneLt_int h
     | false=>exact PySem.W.kat_one _ _ (lt_int h)
end
def HC(sp:Sp):List V->List V->Hp->(List V->Hp->Prop)->Prop
 | [],ks,H,Q=>Q ks H
 | x::r,ks,H,Q=>sp [x] H (λk H1=>HC sp r (ks++[k]) H1 Q) E0
def jz(K:adz)(H:Hp):List V->List (List Int)->Prop
 | [],[]=>True
 | k::ks,n::ns=>(∃ p,k = .ref p/\ak K H p (n.map V.int)/\n≠[])/\jz K H ks ns
 | _,_=>False
theorem jz.len{K:adz}{H:Hp}:∀ {ks:List V} {ns:List (List Int)},jz K H ks ns->ks.length=ns.length
 | [],[],_=>rfl
 | _::_,_::_,h=>by simp[jz.len h.2]
 | [],_::_,h=>h.elim
 | _::_,[],h=>h.elim
theorem jz.get{K:adz}{H:Hp}:∀ {ks:List V} {ns:List (List Int)} {i:Nat} {k:V},jz K H ks ns->ks[i]?=U k->∃ p,k = .ref p/\ak K H p ((ns.getD i []).map V.int)
 | [],[],_,_,_,e=>by simp at e
 | k::_,n::_,0,_,h,e=>by simp at e;subst e;obtain⟨⟨p,a,b,y⟩,y⟩:=h;exact#[p,a,b]
 | _::_,_::_,i+1,_,h,e=>by have:=jz.get (i:=i) h.2 (by simpa using e);simpa using this
 | [],_::_,_,_,h,_=>h.elim
 | _::_,[],_,_,h,_=>h.elim
section
noncomputable def dA(kis:List (List Int))(i j:Nat):Bool:=HT.lexLt (kis.getD i []) (kis.getD j [])
theorem oX(kis:List (List Int)):Ord (dA kis):=#[λh=>Hy h,λh1 h2=>Hz h1 h2]
noncomputable def eR{α:Type}(kis:List (List Int))(d:α)(as:List α):List α:=(c9 (dA kis) as.length).toList.map λi=>as.getD i d
theorem qS:(eR kis d as).Perm as:=by
 have h:=(qQ (n:=as.length) (oX kis)).1;have q:=h.map (λi=>as.getD i d);have self:(adM as.length).map (λi=>as.getD i d)=as:=by
  apply ai4
  .simp
  .intro i h1 h2;simp[adB,h2]
 rw[self] at q;exact q
theorem HD:(eR kis d as).length=as.length:=qS.length_eq
theorem R6(hk:kis=as.map f):(eR kis d as).Pairwise (λa b=>HT.lexLt (f b) (f a)=false):=by
 obtain⟨hp,hs⟩:=qQ (n:=as.length) (oX kis);have sz:=hp.size;unfold eR;rw[List.pairwise_map];refine List.pairwise_iff_getElem.mpr λi j hi hj gX=>?_;have c8:i<(c9 (dA kis) as.length).size:=by simpa using hi
 have AO:j<(c9 (dA kis) as.length).size:=by simpa using hj
 have q:=hs i j (by lia) (by lia);have e1:(c9 (dA kis) as.length).getD i 0=(c9 (dA kis) as.length)[i]:=by simp[alB,c8]
 have e2:(c9 (dA kis) as.length).getD j 0=(c9 (dA kis) as.length)[j]:=by simp[alB,AO]
 have l1:=cM.below hp (i:=i) (by lia);have l2:=cM.below hp (i:=j) (by lia);rw[e1,e2] at q;rw[e1] at l1;rw[e2] at l2;have q2:HT.lexLt (kis.getD (c9 (dA kis) as.length)[j] []) (kis.getD (c9 (dA kis) as.length)[i] [])=false:=q;have g:∀ k,k<as.length->kis.getD k []=f (as.getD k d):=λk ix=>by subst hk;simp[adB,ix]
 simp only[Array.getElem_toList];rw[g _ l1,g _ l2] at q2;exact q2
theorem R7(r:Vals xs vs):Vals (eR kis .non xs) ((c9 (dA kis) xs.length).toList.map λi=>vs.getD i Value.none):=by
 have hp:=(qQ (n:=xs.length) (oX kis)).1;have gen:∀ l:List Nat,(∀ i∈l,i<xs.length)->Vals (l.map λi=>xs.getD i .non) (l.map λi=>vs.getD i Value.none):=by
  intro l
  induction l with
  | nil=>intro y;exact .nil
  | cons i l ih =>
   intro h;have hi:=h i (.head _);refine .cons ?_ (ih λj hj=>h j (.tail _ hj));have e:xs[i]?=U xs[i]:=adC hi;obtain⟨u,eu,ru⟩:=r.get e;show RelV (xs.getD i .non) (vs.getD i Value.none);rw[adB,adB,eu,e];exact ru
 exact gen _ λi hi=>by simpa using hp.mem_iff.mp hi
def R8(K:adz)(sp:Sp)(x:V)(H1:Hp)(Q:VK):Prop:=∃ (a:adK) (xs:List V),x = .ref a/\aj K H1 a xs/\xs.length<64/\HC sp xs [] H1 λks H2=>∃ kis,jz K H2 ks kis/\∀ l,H2 l=O->Q (.ref l) (upd H2 l (.lst (eR kis .non xs)))
def R9(K:adz)(sp:Sp)(te:TE):TE:=λG H Q=>te G H λx H1=>R8 K sp x H1 Q
end
abbrev En:=Option Int
noncomputable def ev:En->V
 | none=>.non
 | some i=>.int i
theorem xk:ev O = .non:=rfl
theorem xm(i:Int):ev (U i) = .int i:=rfl
noncomputable def bj:En->En->Bool
 | some x,U y=>decide (y<x)
 | _,_=>false
def aR(H:Hp)(v:V)(a b:En):Prop:=∃ p,v = .ref p/\H p=U (.tup [ev a,ev b])
theorem aR.same(h:aR H v a b)(s:ai H H1):aR H1 v a b:=by obtain⟨p,e,h⟩:=h;exact#[p,e,s _ _ h]
theorem aR.new:aR (upd H p (.tup [ev a,ev b])) (.ref p) a b:=#[p,Y,au]
noncomputable def hold(a b:En)(n:Int):Bool:=!bj a (U n) && !bj (U n) b
theorem gY:hold a b n=true↔(∀ x,a=U x->x<=n)/\(∀ y,b=U y->n<=y):=by unfold hold;rcases a with z|x<;>rcases b with z|y<;>simp[bj]
noncomputable def dS:En->En->En
 | some x,U y=>U (if y > x then y else x)
 | some x,O=>U x
 | none,b=>b
noncomputable def eS:En->En->En
 | some x,U y=>U (if y<x then y else x)
 | some x,O=>U x
 | none,b=>b
noncomputable def nums(a b:En):List Int:=[a,b].filterMap id
noncomputable def t5(v:V):Bool:=!decide (v = .non)
theorem Sb(a b:En):([ev a,ev b].filter t5).map (λv=>v)=(nums a b).map V.int:=by rcases a with z|x<;>rcases b with z|y<;>simp[ev,nums,t5]
theorem Sd(a b:En):oU fL (nums a b) .non=ev (dS a b):=by rcases a with z|x<;>rcases b with z|y<;>simp[nums,dS,fL,oU,ev]
theorem Se(a b:En):oU gV (nums a b) .non=ev (eS a b):=by rcases a with z|x<;>rcases b with z|y<;>simp[nums,eS,gV,oU,ev]
def HE(H:Hp)(v:V)(lo hi:En):Prop:=(bj lo hi=true->v = .non)/\(bj lo hi=false->aR H v lo hi)
theorem HF{K:adz}{H:Hp}{p:adK}{a b:En}{Q:VK}{tt:TT}{te:TE}(hp:H p=U (.tup [ev a,ev b]))(ht:∀ x H Q,Q (t5 x) H->tt [U x] H Q)(he:∀ x H Q,Q x H->te [U x] H Q)
 (q:∀ l,H l=O->Q (.ref l) (upd H l (.lst ((nums a b).map V.int)))):nE (tf K p) [] tt te H Q:=by
 refine cX (xs:=[ev a,ev b]) GQ aY (wY (p:=t5) (f:=λv=>v) (ak.of hp) (λx y Q h=>ht x H Q h) (λx y y Q h=>he x H Q h) ?_);rw[ad4,Sb];exact q
end Gz
namespace Gz
open L2
abbrev S2:=En × En
noncomputable def hs(s:S2)(n:Int):Bool:=hold s.1 s.2 n
def HG(s:S2):Prop:=bj s.1 s.2=false
theorem Sf:hs s n=true↔(∀ x,s.1=U x->x<=n)/\(∀ y,s.2=U y->n<=y):=gY
open PySem in
def mw(H:Hp):List V->List S2->Prop
 | [],[]=>True
 | v::vs,s::ss=>aR H v s.1 s.2/\mw H vs ss
 | _,_=>False
section
theorem aR.put(h:aR H v a b)(hl:H l=U (.lst ys)):aR (upd H l o) v a b:=by obtain⟨p,e,h⟩:=h;exact#[p,e,by rw[aK (qk h hl λz=>nomatch z)];exact h]
theorem mw.len:∀ {vs:List V} {ss:List S2},mw H vs ss->vs.length=ss.length
 | [],[],_=>rfl
 | _::_,_::_,h=>by simp[mw.len h.2]
 | [],_::_,h=>h.elim
 | _::_,[],h=>h.elim
open PySem
end
end Gz
namespace Gz
open PySem PySem.Spec PyProof.Rows L2
structure AQ(K:adz)(C:adK)(m:Str)(f:adK):Prop where
 ga:aiu K (.ref C) "__getattribute__" = U (U (.builtin "type.__getattribute__"))
 rd:alb K C (.type "type")=true
 fd:agV K (.ref C) (.type "type") m=U (.val (.ref f))
 kp:afQ K (.ref f)=true
section
theorem t6(hg:Gl X x)(hm:X.mg x=U (.ref C))(c:AQ X.K C m f)(F:cF X.prog X.w X.K X.mg X.base CX k f fd ps sp)(hr:bF k X.A)(hb:Binds X.K fd ps ds)(hd:Vals c7 ds)(hx:Passes CX X E)(ha:PA X (e::es) t)(fW:(x == ("__debug__" : Str))=false:=by decide)(cW:adX (e::es) X.env=(false,eval e X.env)::adX es X.env:=by rfl)(dP:(afi pos (adX es X.env)).any (·.1)=false:=by rfl)(ht:eval (.Call (.Attribute (.Name x p) m apos) (e::es) [] pos) X.env=(do
 let ov <- eval (.Name x p) X.env
 ajQ apos.atName
 let (f,first) <- holding [ov] (ait ov m pl)
 akT pos f first (afi pos (adX (e::es) X.env)) (aiL pos (agF [] X.env))):=by rfl) :
 PE X (.Call (.Attribute (.Name x p) m apos) (e::es) [] pos) (qx sp c7 E t):=by
 intro pins s G H Q I h;refine afK (pl:=pl) (aI (v7 (X:=X) (v:=.ref C) hg hm Y fW pins s G H (λv H1=>v = .ref C/\H1=H) I #[Y,Y]) λu s1 zq=>?_) ht;obtain⟨y,H1,I1,rx,e1,e2⟩:=zq;subst e1 e2;obtain rfl:u=ad7 C:=rx;refine PySem.W.method_cls I1.cv c.ga (PySem.W.cls_value I1.cv c.rd c.fd Y ?_);have I2:Inv X pins G H1 { s1 with toks:=s1.toks+1 }:=I1.tok _;refine agR (first:=[]) (h₀:=X.base) I.ok.mod.kin c.kp (aI (ha pos pins _ G H1 _ I2 h) λus s2 ⟨vs,H2,I3,r,q2⟩=>#[I3.cv,?_]) cW dP;exact qz (us:=us) (vs:=vs) F hr hb hd hx I3 r q2
def HH(K:adz)(m:Str)(f:adK)(sp:Sp)(c7:List V)(E:XK)(ta:TE)(t:TA):TE:=λG H Q=>ta G H λx H1=>∃ a C dx fs,x = .ref a/\H1 a=U (.ins C dx fs)/\cg K C/\Meth K C m f/\fs.lookup m=O /\
 t G H1 λvs H2=>sp (.ref a::(vs++c7)) H2 Q E
end
abbrev W2:=Option S2
def iy(H:Hp)(v:V):W2->Prop
 | none=>v = .non
 | some s=>aR H v s.1 s.2
theorem iy.same(h:iy H v w)(s:ai H H'):iy H' v w:=by
 cases w with
 | none=>exact h
 | some a=>exact aR.same h s
end Gz
namespace Gz
open PySem L2 PySem.W PySem.Spec PyProof.Rows
def Bt(n:Nat)(x:Int):Prop:=af4 x<=n
theorem Bt.add(h:Bt n x)(h':Bt n y):Bt (n+1) (x+y):=by
 have:=alZ h h'
 rwa [Nat.max_self] at this
theorem Bt.mul(h:Bt n x)(h':Bt m y):Bt (n+m) (x * y):=al0 h h'
theorem Bt.up(h:Bt n x)(hm:n<=m):Bt m x:=adG h hm
theorem Bt.small(h1 : -(2 ^ 64)<x)(h2:x<2 ^ 64):Bt 64 x:=PySem.intBits_le_64 h1 h2
def qT(i j:Int):Prop:=Bt 40000000 i/\Bt 40000000 j
theorem qT.ok(h:qT i j):IntMulOk i j:=alo h.1 h.2 (by decide)
theorem Sg:bE X (agC .Mult) (rI qT λi j=>.int (i * j)):=wj λy y y y y y y hc q=>mul_int q hc.ok
def iV(ns:List Int):Prop:=ns.length<=63/\∀ x∈ns,Bt 1048576 x
theorem weigh:∀ (ns:List Int) (x:Int),x∈ns->af4 x<=af6 (ns.map PySem.W.WData.int)
 | [],x,h=>by simp at h
 | y::ns,x,h=>by
  have e:af6 ((y::ns).map PySem.W.WData.int)=(if y == 0 then 0 else y.natAbs.log2+1)+1+af6 (ns.map PySem.W.WData.int):=by rw[adU];simp only[af6,ajF]
  rw[e];rcases adL.mp h with rfl|h
  .unfold af4;lia
  .have:=weigh ns x h;lia
theorem Sh{ns:List Int}(h:alC [PySem.W.WData.list (ns.map PySem.W.WData.int)]=true):∀ x∈ns,Bt 1048576 x:=by
 intro x hx;have h1:ahq (PySem.W.WData.list (ns.map PySem.W.WData.int))=true:=by
  have:(ahq (PySem.W.WData.list (ns.map PySem.W.WData.int)) && true)=true:=h
  rwa [ago] at this
 unfold ahq at h1;rw[aew] at h1;have h2:=of_decide_eq_true h1.2;have h3:=weigh ns x hx;simp only[ajF] at h2;unfold Bt;lia
theorem Si{l:ajp}{k:Nat}{q:aek}{loose:List Str}{XP:(Str->Option adH)->afH->Prop}{YP:aeS->afH->Prop}{d:DefRec}{K:Params->adz}{CX:aeS->fV}{sp:aeS->Sp}{x:Str}
 (most:l.most=U 63) (plain:d.params.defaults=[]) (room:bF k ak2)
 (Sj:∀ (w:aeS) (h:afH),YP w h->(K w.params).In h)
 (F:∀ (w:aeS) (mg:Str->Option adH) (fa:adK) (h:afH),(K w.params).In h->h.Ns ae5 mg->mg d.name=U (.ref fa) ->
   ∃ fd:afV,(∀ (s:adQ) (u:adH),akl s fd #[[u],[]] [(x,u)]) /\
    ∀ base:afH,(K w.params).In base->base.Ns ae5 mg->cF l.prog w (K w.params) mg base (CX w) k fa fd [x] (sp w))
 (law:∀ (w:aeS) (H:Hp) (a:adK) (ns:List Int),iV ns->aj (K w.params) H a (ns.map V.int)->sp w [.ref a] H (λv y=>v = .bl true) λy y y=>False)
 (calm:∀ (w:aeS) (H:Hp) (s:adQ) (e:adH) (s':adQ),CX w [] H s (λy y y=>False) e s'->False) :
 alJ q loose XP YP l.row.toRowW d [] (λf vs=>PySem.call f vs):=by
 intro w t₀ t mg mb G9q Y9q f ob pm cd doc dV kV look data code defs at_ gens args vals as pre lay y well y;have e1:dV = .none:=Dflts.none defs plain;have e2:kV = .none:=Dflts.noKw defs;cases e1;cases e2;obtain⟨a,vs,ns,e3,e4,obj,are,len⟩:=Ab.PL most pre well;cases e3;cases e4;have KX:=Sj w _ Y9q;obtain⟨fd,bind,ok⟩:=F w mg f _ KX G9q.T.g at_;have run:=PQ KX G9q.T.g G9q.T.b G9q.T.builtins G9q.T.nolimit gens obj are (adG len (by decide)) room ok bind
  (λH y S=>law w H a ns #[len,Sh lay] S) λH e s'=>calm w H t e s'
 refine enter_call (ahm run ?_);rintro r s' ⟨rfl,old,os,bare⟩;exact#[.inl #[.bool true,.bool true,[],Y,λy=>rfl,.bool true,Ab.PN l _,λy=>#[List.Pairwise.nil,λy z=>(nomatch z)]],old,os,bare]
noncomputable def t7(ns:List Int)(k:Int):Int:=if 0<(ns.length:Int) then ns.getD (k % (ns.length:Int)).toNat 0 else 0
theorem Sk(h:iV ns)(k:Int):Bt 1048576 (t7 ns k):=by
 unfold t7;split
 .rw[adB];cases e:ns[(k % (ns.length:Int)).toNat]? with
  | none=>exact (Bt.small (by decide) (by decide)).up (by decide)
  | some n=>exact h.2 _ (ad3 e)
 .exact (Bt.small (by decide) (by decide)).up (by decide)
theorem Sl{ns:List Int}{k:Int}(h:0<(ns.length:Int)):dw (ns.map V.int) (k % (ns.length:Int))=U (.int (t7 ns k)):=by
 have h1:=ajq k (show (ns.length:Int)≠0 by lia);have h2:=aic k h;unfold t7;rw[if_pos h];have ek:k % (ns.length:Int)=(((k % (ns.length:Int)).toNat:Nat):Int):=by lia
 refine (congrArg (dw _) ek).trans (dQ ?_);rw[adR,adB,adC (by lia)];rfl
theorem HI(h:x.natAbs<2 ^ 600):Bd 4000 x:=Bd.up (n:=600) h (by decide)
theorem k7(h:x.natAbs<2 ^ 600)(h':y.natAbs<2 ^ 600):qD x y:=#[HI h,HI h']
theorem aD(I:L2.St->Hp->Prop)(h1:∀ N:L2.St->Hp->Prop,(∀ G H,I G H->N G H)->a { D with nx:=N } G H)(h2:∀ R:TS,R=b->∀ G H,I G H->R D G H):lU a b D G H:=h1 _ (h2 _ Y)
noncomputable def pre(f:P2->Int)(ps:List P2)(i:Nat):Int:=((ps.take i).map f).sum
theorem iz(f:P2->Int)(ps:List P2)(h:i<ps.length):pre f ps (i+1)=pre f ps i+f (aN ps i):=by unfold pre aN;rw[aeQ,afb,alc,adB,adC h];simp only[aj8,adU,af2,aiT,al1,Int.add_zero,agD]
noncomputable def bU(ps:List P2)(i j:Nat):Int:=if i<=j then pre (·.2) ps j-pre (·.2) ps i else pre (·.1) ps j-pre (·.1) ps i
def fM(ps:List P2):Prop:=∀ p∈ps,p.1<=p.2
theorem HJ(h:fM ps)(i:Nat):∀ n,i+n<=ps.length->pre (·.1) ps (i+n)-pre (·.1) ps i<=pre (·.2) ps (i+n)-pre (·.2) ps i
 | 0,_=>by simp
 | n+1,hn=>by have ih:=HJ h i n (by lia);rw[show i+(n+1)=(i+n)+1 by lia,iz _ ps (by lia),iz _ ps (by lia)];have:=h _ (qO (ps:=ps) (i:=i+n) (by lia));lia
theorem qU(h:fM ps)(gX:i<=j)(hj:j<=ps.length):pre (·.1) ps j-pre (·.1) ps i<=pre (·.2) ps j-pre (·.2) ps i:=by
 have:=HJ h i (j-i) (by lia)
 rwa [show i+(j-i)=j by lia] at this
theorem Sm(h:fM ps)(hi:i<=ps.length)(hj:j<=ps.length)(hk:k<=ps.length):bU ps i j<=bU ps i k+bU ps k j:=by have a:=λh'=>qU h (i:=i) (j:=j) h' hj;have b:=λh'=>qU h (i:=j) (j:=i) h' hi;have c:=λh'=>qU h (i:=i) (j:=k) h' hk;have d:=λh'=>qU h (i:=k) (j:=i) h' hi;have e:=λh'=>qU h (i:=j) (j:=k) h' hk;have f:=λh'=>qU h (i:=k) (j:=j) h' hj;unfold bU;split<;>split<;>split<;>lia
noncomputable def part(ps:List P2)(i j k:Nat):Int:=if i<j then pre (·.2) ps (min i j+k)-pre (·.2) ps i else pre (·.1) ps j-pre (·.1) ps (min i j+k)
end Gz
namespace L2
open PySem PySem.Spec PyProof.Rows
section
variable{κ:Type}[DecidableEq κ]
noncomputable def dB(kvs:List (κ × V))(k:κ):Option V:=(kvs.find? λkv=>decide (kv.1=k)).map (·.2)
noncomputable def putK(kvs:List (κ × V))(k:κ)(v:V):List (κ × V) :=
 if (kvs.any λkv=>decide (kv.1=k))=true then kvs.map (λkv=>if kv.1=k then (kv.1,v) else kv) else kvs++[(k,v)]
noncomputable def kj(kvs:List (κ × V))(k:κ):List (κ × V):=kvs.filter λkv=>decide (kv.1≠k)
theorem xq{p:κ × V}{r:List (κ × V)}{k:κ}(e:p.1=k):dB (p::r) k=U p.2:=by simp[dB,afc,e]
theorem xr{p:κ × V}{r:List (κ × V)}{k:κ}(e:¬ p.1=k):dB (p::r) k=dB r k:=by simp[dB,afc,e]
theorem HK(k:κ):∀ kvs:List (κ × V),(kvs.any λkv=>decide (kv.1=k))=(dB kvs k).isSome
 | []=>rfl
 | p::r=>by
  rw[aeC];by_cases e:p.1=k
  .simp only[xq e,decide_eq_true e,Bool.true_or,Option.isSome_some]
  .rw[xr e,decide_eq_false e,aj9];exact HK k r
theorem HL(kvs:List (κ × V))(k:κ)(v:V):(putK kvs k v).length<=kvs.length+1:=by
 unfold putK;split
 .rw[adA];omega
 .rw[adT,aeg,agh];omega
theorem gp.t8(r:gp o u):o.isSome=u.isSome:=by
 cases o with
 | none=>cases u with
  | none=>rfl
  | some _=>exact (show False from r).elim
 | some _=>cases u with
  | none=>exact (show False from r).elim
  | some _=>rfl
theorem KV.val(r:KV kvs vs)(k:κ):gp (dB kvs k) (aks vs k):=by
 unfold KV at r
 induction r with
 | nil=>exact afX
 | @cons p q ps qs h t ih =>
  obtain⟨h1,h2⟩:=h;by_cases e:p.1=k
  .have e':q.1=k:=h1.symm.trans e;have b:aks (q::qs) k=U q.2:=by simp[aks,afc,e']
   rw[xq e,b];exact h2
  .have e':¬ q.1=k:=λz=>e (h1.trans z);have b:aks (q::qs) k=aks qs k:=by simp[aks,afc,e']
   rw[xr e,b];exact ih
theorem KV.any(r:KV kvs vs)(k:κ):(kvs.any λkv=>decide (kv.1=k))=vs.any λkv=>decide (kv.1=k):=by
 unfold KV at r
 induction r with
 | nil=>rfl
 | cons h t ih=>rw[aeC,aeC,ih,h.1]
theorem KV.qV(r:KV kvs vs)(k:κ)(ry:RelV y u) :
 KV (kvs.map λkv=>if kv.1=k then (kv.1,y) else kv) (vs.map λkv=>if kv.1=k then (kv.1,u) else kv):=by
 unfold KV at r ⊢
 induction r with
 | nil=>exact .nil
 | @cons p q ps qs h t ih =>
  rw[adU,adU];refine .cons ?_ ih;obtain⟨h1,h2⟩:=h;by_cases e:p.1=k
  .rw[if_pos e,if_pos (h1.symm.trans e)];exact#[h1,ry]
  .rw[if_neg e,if_neg (λz=>e (h1.trans z))];exact#[h1,h2]
theorem KV.put(r:KV kvs vs)(k:κ)(ry:RelV y u):KV (putK kvs k y) (stored vs k u):=by
 unfold putK stored;rw[r.any k];by_cases e:(vs.any λkv=>decide (kv.1=k))=true
 .rw[if_pos e,if_pos e];exact r.qV k ry
 .rw[if_neg e,if_neg e];exact Paired.snoc r #[Y,ry]
theorem KV.length(r:KV kvs vs):kvs.length=vs.length:=Paired.length r
theorem Sn(kvs:List (κ × V))(k:κ):(kj kvs k).length<=kvs.length:=aen _ _
end
theorem t9(r:RelV (kV k) u):(cT P w).is k u=true:=by
 cases k with
 | inl i=>obtain⟨t,e⟩:=(show ∃ t,u=Value.int i t from r);subst e;exact Of P w i t
 | inr x=>obtain⟨t,e⟩:=(show ∃ t,u=Value.str x t from r);subst e;exact Og P w x t
theorem HM:∀ {ks:List Key} {us:List adH},Vals (ks.map kV) us->ItemsAre (cT P w) ks us
 | [],_,r=>by rw[af2] at r;cases r;exact .nil
 | k::ks,_,r=>by
  rw[adU] at r;cases r with
  | cons h t=>exact .cons (t9 h) (HM t)
abbrev KT(H:Hp):List (List Key × V)->List (List Key × adK × adH)->Prop:=alT λp q=>p.1=q.1/\H q.2.1=U (.tup (p.1.map kV))/\RelV p.2 q.2.2
theorem KT.val(r:KT H kvs xs)(k:List Key):gp (dB kvs k) ((ajW xs k).map (·.2)):=by
 induction r with
 | nil=>exact afX
 | @cons p q ps qs h t ih =>
  obtain⟨h1,y,h2⟩:=h;by_cases e:p.1=k
  .have e':q.1=k:=h1.symm.trans e;have b:ajW (q::qs) k=U q.2:=by simp[ajW,afc,e']
   rw[xq e,b];exact h2
  .have e':¬ q.1=k:=λz=>e (h1.trans z);have b:ajW (q::qs) k=ajW qs k:=by simp[ajW,afc,e']
   rw[xr e,b];exact ih
theorem KT.qV(r:KT H kvs xs)(k:List Key)(ry:RelV y u) :
 KT H (kvs.map λkv=>if kv.1=k then (kv.1,y) else kv) (xs.map (putAt k u)):=by
 induction r with
 | nil=>exact .nil
 | @cons p q ps qs h t ih =>
  rw[adU,adU];refine .cons ?_ ih;obtain⟨h1,h2,h3⟩:=h;unfold putAt;by_cases e:p.1=k
  .rw[if_pos e,if_pos (h1.symm.trans e)];exact#[h1,h2,ry]
  .rw[if_neg e,if_neg (λz=>e (h1.trans z))];exact#[h1,h2,h3]
theorem KT.put(r:KT H kvs xs)(k:List Key)(hb:H b=U (.tup (k.map kV)))(ry:RelV y u) :
 KT H (putK kvs k y) (storedH xs k b u):=by
 have e:(kvs.any λkv=>decide (kv.1=k))=(ajW xs k).isSome:=by rw[HK,(r.val k).t8,aiC]
 unfold putK storedH;rw[e];by_cases q:(ajW xs k).isSome=true
 .rw[if_pos q,if_pos q];exact r.qV k ry
 .rw[if_neg q,if_neg q];exact Paired.snoc r #[Y,hb,ry]
theorem KT.keeps(r:KT H kvs xs)(ht:∀ b ys,H b=U (.tup ys)->H' b=U (.tup ys)):KT H' kvs xs :=
 Paired.Ey r λy y z=>#[z.1,ht _ _ z.2.1,z.2.2]
section
theorem HN(ok:ck P w H h)(e:Rd H a u):bW P w H h a u:=e.ok ok
theorem qW(ok:ck P w H h)(e:Rd H a (.dK kvs)):kvs.length<=ad1/\(a == ae6)=false/\∃ vs,KV kvs vs/\h.DictOf (cT P w) a vs :=
 show bW P w H h a (.dK kvs) from HN ok e
theorem So(ok:ck P w H h)(e:H a=U (.dK kvs)):kvs.length<=ad1/\(a == ae6)=false/\∃ vs,KV kvs vs/\h.DictOf (cT P w) a vs:=qW ok (.inl e)
theorem qX(ok:ck P w H h)(e:H a=U (.tup (ks.map kV))):(ahM (cT P w)).is h ks a:=by
 obtain⟨y,ax,r,o,h1,h2,n,h3⟩:=(show bW P w H h a (.tup (ks.map kV)) from ok a _ e)
 exact#[o,ax.toArray,n,h1,h2,h3,by simpa using HM r]
theorem qY(ok:ck P w H h)(e:Rd H a (.dT kvs)):kvs.length<=ad1/\(a == ae6)=false /\
 ∃ xs,KT H kvs xs/\h.DictOfH (ahM (cT P w)) a xs:=by
 obtain⟨z,y,xs,r,o,es,ep,h1,h2,h3,h4,h5⟩:=(show bW P w H h a (.dT kvs) from HN ok e)
 refine#[z,y,xs,r,o,es,ep,h1,h2,h3,h4,λx hx=>?_,h5];have all:∀ {l:List (List Key × V)} {m:List (List Key × adK × adH)},KT H l m->∀ x∈m,(ahM (cT P w)).is h x.1 x.2.1:=by
  intro l m q
  induction q with
  | nil=>intro x hx;exact nomatch hx
  | @cons p q ps qs hq t ih =>
   intro x hx;rcases adL.mp hx with e|hx
   .subst e;exact qX ok (by rw[<- hq.1];exact hq.2.1)
   .exact ih x hx
 exact all r x hx
theorem xt(ok:ck P w H h)(e:H a=U (.dT kvs)):kvs.length<=ad1/\(a == ae6)=false /\
 ∃ xs,KT H kvs xs/\h.DictOfH (ahM (cT P w)) a xs:=qY ok (.inl e)
end
def fv(H:Hp)(a:adK)(y:V)(r:Option V):Prop :=
 (∃ kvs k,Rd H a (.dK kvs)/\y=kV k/\r=dB kvs k) ∨ ∃ kvs k b,Rd H a (.dT kvs)/\y = .ref b/\H b=U (.tup (k.map kV))/\r=dB kvs k
def oY(H:Hp)(a:adK)(y v:V)(H':Hp):Prop :=
 (∃ kvs k,H a=U (.dK kvs)/\y=kV k/\kvs.length<ad1/\H'=upd H a (.dK (putK kvs k v))) ∨
 ∃ kvs k b,H a=U (.dT kvs)/\y = .ref b/\H b=U (.tup (k.map kV))/\kvs.length<ad1/\H'=upd H a (.dT (putK kvs k v))
theorem fv.t(e:H a=U (.dT kvs))(eb:H b=U (.tup (k.map kV))):fv H a (.ref b) (dB kvs k):=.inr #[kvs,k,b,.inl e,Y,eb,Y]
theorem oY.t{H:Hp}{a b:adK}{kvs:List (List Key × V)}{k:List Key}{v:V}(e:H a=U (.dT kvs))(eb:H b=U (.tup (k.map kV)))(hl:kvs.length<ad1) :
 oY H a (.ref b) v (upd H a (.dT (putK kvs k v))):=.inr #[kvs,k,b,e,Y,eb,hl,Y]
section
theorem Inv.big(I:Inv X pins G H s):ae6<s.heap.objs.size:=by have h:ae5<s.heap.objs.size:=(I.mod.glob.keeps I.bk).lt;exact akF (by decide) h
theorem Sq(hu:A.units+1<aii)(I:Inv X pins G H s)(g:fv H a y (U v))(ry:RelV y u)(h:∀ w' s',Inv X pins G H s'->RelV v w'->Q w' s') :
 adY (model X.prog X.w) A (akY (.ref a) u) Q E s:=by
 rcases g with ⟨kvs,k,e,ey,l⟩|⟨kvs,k,b,e,ey,eb,l⟩
 .subst ey;obtain⟨z,hd,vs,rel,dd⟩:=qW I.aA e;obtain⟨w',hw,j4⟩:=gp.some_of (v:=v) (o:=aks vs k) (by rw[l];exact rel.val k);exact wpAny_getItem_of (t9 ry) dd.mapOf hw (h w' _ (I.tok _) j4)
 .subst ey;cases (show u=ad7 b from ry);obtain⟨z,hd,xs,rel,dd⟩:=qY I.aA e;obtain⟨w',hw,j4⟩:=gp.some_of (v:=v) (o:=(ajW xs k).map (·.2)) (by rw[l];exact rel.val k);obtain⟨p,hp,dZ⟩:=aeh.mp hw;refine wpAny_getItem_heap (afm hu) (qX I.aA eb) dd hp ?_;rw[dZ];exact h w' _ (I.tok _) j4
theorem Sr(hu:A.units+1<aii)(I:Inv X pins G H s)(g:fv H a y o)(ry:RelV y u)(h:∀ s',Inv X pins G H s'->Q (.bool o.isSome) s') :
 adY (model X.prog X.w) A (aeL .In u (.ref a)) Q E s:=by
 rcases g with ⟨kvs,k,e,ey,l⟩|⟨kvs,k,b,e,ey,eb,l⟩
 .subst ey;obtain⟨z,hd,vs,rel,dd⟩:=qW I.aA e;refine wpAny_in_of (t9 ry) hd dd.mapOf ?_;rw[<- (rel.val k).t8,<- l];exact h _ (I.tok _)
 .subst ey;cases (show u=ad7 b from ry);obtain⟨z,hd,xs,rel,dd⟩:=qY I.aA e;refine wpAny_in_heap (afm hu) (qX I.aA eb) hd dd ?_;have q:=(rel.val k).t8;rw[aiC] at q;rw[<- q,<- l];exact h _ (I.tok _)
theorem Ss(hu:A.units+1<aii)(I:Inv X pins G H s)(g:fv H a y o)(ry:RelV y u)(h:∀ s',Inv X pins G H s'->Q (.bool (!o.isSome)) s') :
 adY (model X.prog X.w) A (aeL .NotIn u (.ref a)) Q E s:=by
 rcases g with ⟨kvs,k,e,ey,l⟩|⟨kvs,k,b,e,ey,eb,l⟩
 .subst ey;obtain⟨z,hd,vs,rel,dd⟩:=qW I.aA e;refine wpAny_notIn_of (t9 ry) hd dd.mapOf ?_;rw[<- (rel.val k).t8,<- l];exact h _ (I.tok _)
 .subst ey;cases (show u=ad7 b from ry);obtain⟨z,hd,xs,rel,dd⟩:=qY I.aA e;refine wpAny_notIn_heap (afm hu) (qX I.aA eb) hd dd ?_;have q:=(rel.val k).t8;rw[aiC] at q;rw[<- q,<- l];exact h _ (I.tok _)
theorem AR(I:Inv X pins G H s)(mu:sP (H a))(hs:Heap.SameBut a s.heap h')(he:∃ q,h'.get? a=U q)(new:bW X.prog X.w (upd H a ob) h' a ob) :
 Inv X pins G (upd H a ob) { s with heap:=h',toks:=t' } :=
 I.write (x:=a) (e:=a) mu (.inl rfl) (λb q hb z=>(hs.2 b hb).trans z) he new
theorem HP(z:kvs.length<=ad1)(hd:(a == ae6)=false)(rel:KV kvs vs)(dd:h'.DictOf (cT P w) a vs) :
 bW P w H' h' a (.dK kvs):=#[z,hd,vs,rel,dd]
theorem Su(hu:A.units+1<aii)(I:Inv X pins G H s)(g:oY H a y v H')(ry:RelV y u)(rv:RelV v r)(h:∀ s',Inv X pins G H' s'->Q () s') :
 adY (model X.prog X.w) A (setItem (.ref a) u r) Q E s:=by
 rcases g with ⟨kvs,k,e,ey,l,eH⟩|⟨kvs,k,b,e,ey,eb,l,eH⟩
 .subst ey eH;obtain⟨z,hd,vs,rel,dd⟩:=So I.aA e;have hz:vs.length<=ad1:=by rw[<- rel.length];exact z
  have hl:(putK kvs k v).length<=ad1:=by have:=HL kvs k v;omega
  refine wpAny_setItem_pairs (hsz:=hz) (t9 ry) dd λh' oZ hs=>h _ ?_;have he:∃ q,h'.get? a=U q:=let ⟨q,_,_,hq,_⟩:=oZ;#[q,hq];exact AR I (by rw[e];exact afX) hs he (HP hl hd (rel.put k rv) oZ)
 .subst ey eH;cases (show u=ad7 b from ry);obtain⟨z,hd,xs,rel,dd⟩:=xt I.aA e;have hz:xs.length<=ad1:=by rw[<- Paired.length rel];exact z
  have hl:(putK kvs k v).length<=ad1:=by have:=HL kvs k v;omega
  refine wpAny_setItem_heap (hsz:=hz) (afm hu) (qX I.aA eb) dd λh' oZ hs=>h _ ?_;obtain⟨q,es,ep,hq,h2,h3,h4,c,h5⟩:=oZ;refine AR I (by rw[e];exact afX) hs #[q,hq] #[hl,hd,_,(rel.put k eb rv).keeps λc ys ec=>?_,q,es,ep,hq,h2,h3,h4,h5];rw[aK (qk ec e (λz=>nomatch z))];exact ec
end
def AS(i:ahx):Prop:=∀ ov iv,subscripted i false ov iv=operate [ov,iv] (akY ov iv)
theorem Sv{prog:aek}{w:aeS}{A:aff}{E:adH->adQ->Prop}{s:adQ}{env:Env}{value slice:ahx}{pos:Pos}{T id:String}{Q:adH->adQ->Prop}
 (hl:ajB (.type T) "__getitem__" = pure (U (.builtin id))) (hs:AS slice)
 (h:adY (model prog w) A (eval value env) (λo s₁=>adY (model prog w) A (eval slice env) (λi s₂=>s₂.TypeIs o T/\adY (model prog w) A (akY o i) Q E s₂) E s₁) E s) :
 adY (model prog w) A (eval (.Subscript value slice pos) env) Q E s:=by
 refine akn (aeO h (λo s₁ h₁=>aeO h₁ (λi s₂ h₂=>?_) λy y x=>x) λy y x=>x);obtain⟨hT,h₂⟩:=h₂;unfold aiN;refine ady ?_;rw[getitemInPython_of_ne hT.not_modules];refine ady (agi hT hl ?_);have fin:adY (model prog w) A (subscripted slice false o i) (λr s₃=>adY (model prog w) A (letTemporaryGo value o r >>= λy=>pure r) Q E s₃) E s₂:=by rw[hs o i];exact wpAny_operating (aeO h₂ (λr s₃ h₃=>ady (wpAny_letTemporaryGo (adD h₃))) λy y x=>x)
 first
  | exact adD (ady fin)
  | exact ady (adD (ady fin))
  | exact ady fin
theorem Sw(I:Inv X pins G H s)(g:fv H a y o):s.TypeIs (.ref a) "dict" := by
 rcases g with ⟨kvs,k,e,z,z⟩|⟨kvs,k,b,e,z,z,z⟩
 .obtain⟨z,z,vs,z,dd⟩:=qW I.aA e;exact dd.typeIs
 .obtain⟨z,z,xs,z,dd⟩:=qY I.aA e;exact dd.typeIs
def AU(td ty:TE):TE:=λG H Q=>td G H λx H1=>ty G H1 λy H2=>∃ a v,x = .ref a/\fv H2 a y (U v)/\Q v H2
def HQ(ty td:TE):TE:=λG H Q=>ty G H λy H1=>td G H1 λx H2=>∃ a o,x = .ref a/\fv H2 a y o/\Q (.bl o.isSome) H2
def HR(ty td:TE):TE:=λG H Q=>ty G H λy H1=>td G H1 λx H2=>∃ a o,x = .ref a/\fv H2 a y o/\Q (.bl (!o.isSome)) H2
def HS(td ty tv:TE):TS:=λD G H=>tv G H λv H1=>td G H1 λx H2=>ty G H2 λy H3=>∃ a H4,x = .ref a/\oY H3 a y v H4/\D.nx G H4
section
theorem xu(hu:X.A.units+1<aii)(ho:PE X o td)(hi:PE X i ty)(hs:AS i):PE X (.Subscript o i pos) (AU td ty):=by intro pins s G H Q I h;refine Sv PySem.F.slot_dict_getitem.lookup hs (aI (ho pins s G H _ I h) λu s1 ⟨x,H1,I1,rx,q1⟩=>aI (hi pins s1 G H1 _ I1 q1) λiv s2 zq=>?_);obtain⟨y,H2,I2,ry,a,v,ex,g,q2⟩:=zq;subst ex;obtain rfl:u=ad7 a:=rx;exact#[Sw I2 g,Sq hu I2 g ry λw' s3 I3 j4=>#[v,H2,I3,j4,q2]]
theorem Sx(hu:X.A.units+1<aii)(hi:PE X i ty)(ho:PE X o td):PC X .In i o (HQ ty td):=by
 intro pins s G H Q I h;refine aI (hi pins s G H _ I h) λiv s1 ⟨y,H1,I1,ry,q1⟩=>aI (ho pins s1 G H1 _ I1 q1) λu s2 zq=>?_;obtain⟨x,H2,I2,rx,a,ov,ex,g,q2⟩:=zq;subst ex;obtain rfl:u=ad7 a:=rx;exact Sr hu I2 g ry λs3 I3=>#[.bl ov.isSome,H2,I3,Y,q2]
theorem HU(hu:X.A.units+1<aii)(hi:PE X i ty)(ho:PE X o td):PC X .NotIn i o (HR ty td):=by
 intro pins s G H Q I h;refine aI (hi pins s G H _ I h) λiv s1 ⟨y,H1,I1,ry,q1⟩=>aI (ho pins s1 G H1 _ I1 q1) λu s2 zq=>?_;obtain⟨x,H2,I2,rx,a,ov,ex,g,q2⟩:=zq;subst ex;obtain rfl:u=ad7 a:=rx;exact Ss hu I2 g ry λs3 I3=>#[.bl (!ov.isSome),H2,I3,Y,q2]
theorem AV(hu:X.A.units+1<aii)(ho:PE X o td)(hi:PE X i ty)(hv:PE X value tv)(hs:ahO value (U (.Subscript o i pos')) pos.line X.env=pure false) :
 PS X (.Assign [.Subscript o i pos'] value pos) (HS td ty tv):=by
 intro pins s G H D I h;refine wpAny_Assign_Subscript (aI (hv pins s G H _ I h) λr s1 ⟨v,H1,I1,rv,q1⟩=>aI (ho pins s1 G H1 _ I1 q1) λu s2 ⟨x,H2,I2,rx,q2⟩=>aI (hi pins s2 G H2 _ I2 q2) λiv s3 zq=>?_) hs;obtain⟨y,H3,I3,ry,a,H4,ex,g,q3⟩:=zq;subst ex;obtain rfl:u=ad7 a:=rx;exact Su hu I3 g ry rv λs4 I4=>#[G,H4,I4,q3]
end
structure M1(X:Cx)(o:ahx)(m:Str)(apos:Pos)(e:ahx)(dG:Pos):Prop where
 base:agQ o m X.env (eval o X.env)=eval o X.env
 few:((afi dG (adX [e] X.env)).all (λx=>!x.1) && (aiL dG (agF [] X.env)).all (λx=>x.1.isSome)
  && decide (([e]:List ahx).length+([]:List ak1).length+(if ([]:List ak1).isEmpty then 0 else 1)<30))=true
 line:(apos.endLine == dG.line)=true
 trees:afi dG (adX [e] X.env)=[(false,eval e X.env)]
structure M2(X:Cx)(o:ahx)(m:Str)(apos:Pos)(e f:ahx)(dG:Pos):Prop where
 base:agQ o m X.env (eval o X.env)=eval o X.env
 few:((afi dG (adX [e,f] X.env)).all (λx=>!x.1) && (aiL dG (agF [] X.env)).all (λx=>x.1.isSome)
  && decide (([e,f]:List ahx).length+([]:List ak1).length+(if ([]:List ak1).isEmpty then 0 else 1)<30))=true
 line:(apos.endLine == dG.line)=true
 trees:afi dG (adX [e,f] X.env)=[(false,eval e X.env),(false,eval f X.env)]
def HV(H:Hp)(a:adK):Prop:=(∃ kvs,Rd H a (.dK kvs)) ∨ ∃ kvs,Rd H a (.dT kvs)
theorem Sy(I:Inv X pins G H s)(d:HV H a) :
 s.TypeIs (.ref a) "dict" /\ (∀ b,ad7 a = .ref b->∃ ob,s.heap.get? b=U ob/\ob.dict=O)/\(a == ae6)=false:=by
 rcases d with ⟨kvs,e⟩|⟨kvs,e⟩
 .obtain⟨y,hd,vs,y,dd⟩:=qW I.aA e;refine#[dd.typeIs,λb q=>?_,hd];cases q;obtain⟨ob,y,y,h1,h2,y⟩:=dd;exact#[ob,h1,h2.2.1]
 .obtain⟨y,hd,xs,y,dd⟩:=qY I.aA e;refine#[dd.typeIs,λb q=>?_,hd];cases q;obtain⟨ob,y,y,h1,h2,y⟩:=dd;exact#[ob,h1,h2.2.1]
section
end
section
variable{κ:Type}[DecidableEq κ]
theorem HW:∀ {l:List κ} {k:κ},l.Nodup->¬ k∈l->(l++[k]).Nodup
 | [],k,_,_=>by simp
 | a::r,k,h,hk=>by
  obtain⟨h1,h2⟩:=aeB.mp h;show (a::(r++[k])).Nodup;refine aeB.mpr #[λm=>?_,HW h2 λm=>hk (adL.mpr (akD m))];rcases aec.mp m with q|q
  .exact h1 q
  .exact hk (adL.mpr (aho (ad8.mp q).symm))
end
end L2
namespace Gz
open PySem PySem.Spec PyProof.Rows L2
def bits(bs:List Int):Prop:=∀ x∈bs,x=0∨x=1
theorem qZ(hx:H x=O)(hd:H dx=O)(hn:dx≠x):ai H (upd (upd H dx (.own x)) x (.ins C dx fs)) :=
 (ao hd).trans (ao (by rw[aK (aey hn)];exact hx))
abbrev Lk:=Option (List Int)
def Sz(xs:List adK)(H:Hp)(v:V):Lk->Prop
 | none=>v = .non
 | some bs=>∃ l,v = .ref l/\l∉xs/\H l=U (.lst (bs.map V.int))
abbrev IsL:=Sz []
section
variable{κ:Type}[DecidableEq κ]
noncomputable def gZ(xs:List (κ × adK × adH))(k:κ):List (κ × adK × adH):=xs.filter λx=>decide (x.1≠k)
theorem SA{xs:List (κ × adK × adH)}{k:κ}(h:k∉xs.map (·.1)):gZ xs k=xs:=by unfold gZ;rw[af5];intro x hx;rw[decide_eq_true_eq];exact λz=>h (adP.mpr #[x,hx,z])
theorem HX:∀ {xs:List (κ × adK × adH)} {k:κ} {j:Nat} {p:adK × adH},(xs.map (·.1)).Nodup->xs[j]?=U (k,p)->xs.eraseIdx j=gZ xs k
 | [],_,_,_,_,h=>by simp at h
 | x::r,k,0,p,hn,h=>by
  rw[adU,aeB] at hn;simp at h;subst h;have e:gZ ((k,p)::r) k=gZ r k:=by unfold gZ;rw[aee,if_neg (by simp)]
  rw[e,SA hn.1];rfl
 | x::r,k,j+1,p,hn,h=>by
  rw[adU,aeB] at hn;rw[agU] at h;have ne:¬ x.1=k:=λz=>hn.1 (z ▸ adP.mpr #[_,ad3 h,Y]);have e:gZ (x::r) k=x::gZ r k:=by unfold gZ;rw[aee,if_pos (by simpa using ne)]
  rw[e,aiU,HX hn.2 h]
theorem HY(f:α->β):∀ (l:List α) (j:Nat),(l.map f).eraseIdx j=(l.eraseIdx j).map f
 | [],_=>rfl
 | _::_,0=>rfl
 | x::l,j+1=>by rw[adU,aiU,HY f l j];rfl
theorem SD{xs:List (κ × adK × adH)}{k:κ}(hn:(xs.map (·.1)).Nodup):((gZ xs k).map (·.1)).Nodup:=hn.sublist ((ajX).map _)
end
theorem HZ{prog:aek}{w:aeS}{K:Type}[DecidableEq K]{knd:HeapKind prog w K}{es:Array agg}{xs:List (K × adK × adH)}{k:K}(he:es.toList=xs.map (ajz knd))(h:es.isEmpty=true):ajW xs k=O:=by
 have e:es.size=0:=by simpa using h
 have l:=agj he;have:xs=[]:=afu.mp (by lia);rw[this];rfl
theorem KT.out(r:KT H kvs xs)(k:List Key):KT H (kj kvs k) (gZ xs k):=by
 unfold kj gZ
 induction r with
 | nil=>exact .nil
 | @cons p q ps qs h t ih =>
  rw[aee,aee];by_cases e:p.1=k
  .rw[if_neg (by simp[e]),if_neg (by simp[h.1.symm.trans e])];exact ih
  .rw[if_pos (by simp[e]),if_pos (by rw[decide_eq_true_eq];exact λz=>e (h.1.trans z))];exact .cons h ih
section
variable{prog:aek}{w:aeS}{K:Type}[DecidableEq K]{knd:HeapKind prog w K}{A:aff}{E:adH->adQ->Prop}{s:adQ}
theorem Ia(hu:knd.room A)(iQ:knd.is s.heap k a)(hm:s.heap.DictOfH knd d xs)(hsz:xs.length<=ad1)(h0:ajW xs k=O->Q O { s with toks:=s.toks+knd.draws k })(h1:∀ p e,ajW xs k=U p->e.val=p.2->∀ h',h'.DictOfH knd d (gZ xs k)->Heap.SameBut d s.heap h'->Q (U e) { s with heap:=h',toks:=s.toks+knd.draws k }):adY (model prog w) A (ajG d (.ref a)) Q E s:=by
 obtain⟨o,es,ep,ho,hc,hd,he,his,hn⟩:=hm;have AW:es.size<=ad1:=by have e:=agj he;lia
 unfold ajG
 try with_reducible refine ae3 ?_
 refine ady (knd.pyHash hu iQ ?_);refine ady (wpAny_dictFind_heap (s:={ s with toks:=s.toks+knd.draws k }) hu iQ ho hd he his hn (λb5=>?_) λj p hj=>?_)
 .exact adD (h0 (atKey_none_of_get b5))
 .refine ady (ae0 (s:={ s with toks:=s.toks+knd.draws k }) ho hd ?_);have ej:=entry_at he j;rw[hj] at ej;rw[ej];refine ady (wpAny_updateDictKeys (hz:=AW) (s:={ s with toks:=s.toks+knd.draws k }) ho hd (adD (h1 p (ajz knd (k,p)) (atKey_of_get hn hj) Y _ #[_,_,ep+1,aef _ ho (ajY (agu hd _)),hc.mapDictKeys _,agu hd _,?_,?_,SD hn] (aeG ..))))
  .rw[<- HX hn hj];have lt:j<es.size:=by rw[agj he];exact (adI.mp hj).1
   rw[Array.eraseIdxIfInBounds,dif_pos lt,Array.toList_eraseIdx,he,HY]
  .exact λx hx=>knd.keeps (his x (ael.mp hx).1) ho hd (aeG ..)
theorem SE(hu:knd.room A.in1)(iQ:knd.is s.heap k a)(hd:(d == ae6)=false)(hm:s.heap.DictOfH knd d xs)(hsz:xs.length<=ad1)(Ib:more=[] ∨ ∃ x,more=[x])(h1:∀ p,ajW xs k=U p->∀ h' tk,h'.DictOfH knd d (gZ xs k)->Heap.SameBut d s.heap h'->Q p.2 { s with heap:=h',toks:=tk })(h0:ajW xs k=O->∃ x,more=[x]/\∀ tk,Q x { s with toks:=tk }):adY (model prog w) A (call (.builtin "dict.pop") (.ref d :: .ref a::more)) Q E s:=by
 have ha:ai1 "dict.pop" #[.ref d :: .ref a::more,[]]:=by
  rcases Ib with q|⟨x,q⟩
  .subst q;exact PySem.F.args_dict_pop_2 _ _
  .subst q;exact PySem.F.args_dict_pop_3 _ _ _
 have g:MeetsIn prog w (afG.«dict.pop» #[.ref d :: .ref a::more,[]]) (λA R s=>knd.room A.in1/\knd.is s.heap k a/\s.heap.DictOfH knd d xs/\(∀ p,ajW xs k=U p->∀ h' tk,h'.DictOfH knd d (gZ xs k)->Heap.SameBut d s.heap h'->R (.ok (.ret p.2)) { s with heap:=h',toks:=tk }) /\
  (ajW xs k=O->∃ x,more=[x]/\∀ tk,R (.ok (.ret x)) { s with toks:=tk })):=.of_wp λA R s ⟨hu,iQ,hm,h1,h0⟩=>by
  obtain⟨o,es,ep,ho,hc,hda,he,his,hn⟩:=id hm;refine ady ?_;refine ady (ahr hm.typeIs ?_);rcases Ib with rfl|⟨dflt,rfl⟩
  .refine adD ?_;dsimp only;refine ady (ae0 ho hda (ady (adD ?_)));by_cases hemp:es.isEmpty=true
   .rw[if_pos hemp];refine ady (agL (ady (adD ?_)));refine ady (afT hd ?_);obtain⟨x,ex,hq⟩:=h0 (HZ he hemp);cases ex
   .rw[if_neg hemp];refine ady (Ia hu iQ hm hsz (λAX=>?_) λp e hp AY h' dd hs=>?_)
    .refine ady (afT hd ?_);obtain⟨x,ex,hq⟩:=h0 AX;cases ex
    .exact ady (ahc (adD #[e.val,Y,by rw[AY];exact h1 p hp h' _ dd hs]))
  .refine adD ?_;dsimp only;refine ady (ae0 ho hda (ady (adD ?_)));by_cases hemp:es.isEmpty=true
   .rw[if_pos hemp];refine ady (agL (ady (adD ?_)));refine ady (afT hd ?_);obtain⟨x,ex,hq⟩:=h0 (HZ he hemp);cases ex;exact ady (agL (adD #[dflt,Y,hq _]))
   .rw[if_neg hemp];refine ady (Ia hu iQ hm hsz (λAX=>?_) λp e hp AY h' dd hs=>?_)
    .refine ady (afT hd ?_);obtain⟨x,ex,hq⟩:=h0 AX;cases ex;exact ady (agL (adD #[dflt,Y,hq _]))
    .exact ady (ahc (adD #[e.val,Y,by rw[AY];exact h1 p hp h' _ dd hs]))
 exact call_meetsIn ajr hm.typeIs PySem.F.entry_dict_pop ha g #[hu,iQ,hm,h1,h0]
end
def eT(h:afH)(d:adK)(es:Array agg)(ep:Nat):Prop:=∃ o,h.get? d=U o/\o.ExactDict/\o.data = .dict es ep
theorem eT.at(x:eT h d es ep)(e:∀ o,h.get? d=U o->h'.get? d=U o):eT h' d es ep:=let ⟨o,ho,r⟩:=x;#[o,e o ho,r]
theorem eT.lt(x:eT h d es ep):d<h.objs.size:=let ⟨_,ho,_⟩:=x;adF ho
theorem eT.ty{s:adQ}{d:adK}{es:Array agg}{ep:Nat}(x:eT s.heap d es ep):s.TypeIs (.ref d) "dict" := let ⟨o,ho,hc,_⟩:=x;#[o,ho,hc.1]
section
variable{prog:aek}{w:aeS}{A:aff}{E:adH->adQ->Prop}{s:adQ}{d it:adK}{es:Array agg}{i ep:Nat}
theorem Ic(lo:(d == ae6)=false)(x:eT s.heap d es ep)(q:Q (.ref s.heap.objs.size) { s with heap:=s.heap.push { cls:=.type "dict_keyiterator",data:=.fields (List.toArray [.ref d,.int 0 0,.int es.size 0,.int ep 0]) } }):adY (model prog w) A (alV (.ref d)) Q E s:=by have T:=x.ty;obtain⟨o,ho,hc,hq⟩:=x;refine aiD T ajc (aeX ajc T PySem.F.entry_dict_iter ?_ (PySem.F.args_dict_iter_1 _));unfold afG.«dict.__iter__»;refine ady ?_;unfold alp;refine ady (ahr T ?_);refine adD (a:=ad7 d) ?_;show adY _ A.in1 (ahs d >>= _) _ _ s;unfold ahs;rw[if_neg (by rw[lo];exact ad2)];refine ady (adD (ady (ae0 ho hq (ady (ahY ho hq ?_)))));refine ady (aeP (adD #[_,Y,"dict_keyiterator",_,#[_,adN _ Y,Y],PySem.F.slot_dict_keyiterator_next.lookup,?_]));simpa [ag2] using q
theorem Ie(hit:s.heap.IsKeyIter it d i es.size ep)(x:eT s.heap d es ep)(hi:i<es.size)(q:∀ h',h'.IsKeyIter it d (i+1) es.size ep->Heap.SameBut it s.heap h'->Q (U es[i].key) { s with heap:=h' }):adY (model prog w) A (agv (.ref it)) Q E s:=by
 obtain⟨o,ho,hc,hd⟩:=id hit;obtain⟨od,hod,gQ,hdd⟩:=x;have T:=hit.typeIs;refine ady (agW (afd (name:=ae2 "__next__") T ae9 (aeX ae9 T agH ?_ (agy _))));refine ady (adD (ady (ady ?_)))
 first|refine ady (afq T (adD (ady (agz ho hd ?_))))|refine ady (afY T (adD (ady (agz ho hd ?_))))
 have ow:Builtin.Dict_items.ownsTuple "dict_keyiterator" = false:=by decide
 simp only[ow,ad5,if_false];show adY _ A.in1 (if (ad7 d == Value.none)=true then _ else _) _ _ s;refine ady (adD (ady (ae0 hod hdd ?_)));rw[if_neg (by simp)];refine ady (adD (ady (ahY hod hdd ?_)));rw[if_neg (by simp)];refine adD ?_;simp only[show ¬ (i:Int)<0 by lia,if_false,aep,aei hi];refine ady ?_
 first|refine ady (afq T (adD (ady (aht T ?_))))|refine ady (afY T (adD (ady (aht T ?_))))
 show adY _ A.in1 (akU (.ref it) 1 (ag2 ((i:Int)+1)) >>= _) _ _ s;refine ady (ahj ho hd (by simp) ?_);have my:(s.heap.update it (agp (·.setIfInBounds 1 (ag2 ((i:Int)+1))))).IsKeyIter it d (i+1) es.size ep:=#[_,aef _ ho (Obj.isFreed_of_fields (aka hd _)),(Obj.cls_mapFields ..).trans hc,by rw[aka hd];simp[ag2]]
 refine ady (ae3 (ady (aht (s:={ s with heap:=s.heap.update it (agp (·.setIfInBounds 1 (ag2 ((i:Int)+1)))) }) my.typeIs ?_)));exact adD (adD #[_,Y,adD (q _ my (aeG ..))])
theorem Ig(hh:A.handled=O)(hit:s.heap.IsKeyIter it d es.size es.size ep)(x:eT s.heap d es ep)(q:∀ h',ald it s.heap h'->Q O { s with heap:=h' }):adY (model prog w) A (agv (.ref it)) Q E s:=by
 obtain⟨o,ho,hc,hd⟩:=id hit;obtain⟨od,hod,gQ,hdd⟩:=x;have T:=hit.typeIs;refine ady (agW (afd (name:=ae2 "__next__") T ae9 (aeX ae9 T agH ?_ (agy _))));refine ady (adD (ady (ady ?_)))
 first|refine ady (afq T (adD (ady (agz ho hd ?_))))|refine ady (afY T (adD (ady (agz ho hd ?_))))
 have ow:Builtin.Dict_items.ownsTuple "dict_keyiterator" = false:=by decide
 simp only[ow,ad5,if_false];show adY _ A.in1 (if (ad7 d == Value.none)=true then _ else _) _ _ s;refine ady (adD (ady (ae0 hod hdd ?_)));rw[if_neg (by simp)];refine ady (adD (ady (ahY hod hdd ?_)));rw[if_neg (by simp)];refine adD ?_;simp only[show ¬ (es.size:Int)<0 by lia,if_false,aep,agc (adJ es.size)];refine ady ?_
 first|refine ady (afq T (adD ?_))|refine ady (afY T (adD ?_))
 show adY _ A.in1 (akU (.ref it) 0 .none >>= _) _ _ s;refine ady (ahj ho hd (by simp) ?_);show adY _ A.in1 (newExc (.type "StopIteration") [] >>= _) _ _ _;refine ady ?_;simp only[newExc,alK];refine ady (aeP ?_ (by size_fits));refine ady (m:=ail _ _) (aiQ (a:=Value.none) (by first|rfl|(simp only[ail];rfl)) ?_);refine aeP ?_ (by size_fits);simp only[raiseNew];refine ady (wpAny_handled ?_);rw[show A.in1.handled=O from hh];refine ady (adD (wpAny_throw ?_));refine ady (af9 (T := "StopIteration") (b:=true) #[_,adN _ Y,Y] ajL ?_);exact adD (q _ (((aeG ..).extBut.push _).push _))
theorem SF(hh:A.handled=O)(I d:adK)(bT:d≠I)(es:Array agg)(ep:Nat) :
 Walks prog w A I [I,d] [I] es.size (λi v=>∃ e,es[i]?=U e/\v=e.key) (λi h=>h.IsKeyIter I d i es.size ep/\eT h d es ep) where
 sub:=λb hb=>by simp at hb;simp[hb]
 frame:=λy y y st hk=>#[st.1.at λo e=>hk I (by simp) o e,st.2.at λo e=>hk d (by simp) o e]
 item:=λi s Q E hi st hQ=>by refine Ie st.1 st.2 hi λh' my Ih=>?_;exact hQ _ h' s.toks #[es[i],aei hi,Y] #[my,st.2.at λo e=>Ih.extBut d o bT e] λb o hb e=>Ih.extBut b o (λh=>hb (by simp[h])) e
 done:=λs Q E st hQ=>Ig hh st.1 st.2 λh' q8=>hQ h' s.toks λb o hb e=>q8 b o (λh=>hb (by simp[h])) e
 self:=λy y y y st hQ=>ajH st.1 hQ
theorem SH(lo:(d == ae6)=false):ajM prog w "dict" d d es.size (λi v=>∃ e,es[i]?=U e/\v=e.key) (λh=>eT h d es ep) where
 type:=λy x=>x.ty
 there:=λy x=>#[x.lt,x.lt]
 keep:=λy y x hk=>x.at λo e=>hk d (.inl rfl) o e
 notList:=by decide
 notTuple:=by decide
 hint:=λy y y y x hq=>PySem.W.kdl_hint_dict x.ty hq
 iter:=λy y hh x=>#[_,_,(λy y hq=>Ic lo x hq),SF hh _ d (adV x.lt) es ep,#[#[_,adN _ Y,Y,Y],x.at λo e=>adE _ e]]
end
section
def o4(h:afH)(vs:List adH)(kis:List (List Int))(i:Nat):Prop:=∃ (p:adK) (o:Obj) (ax:List adH) (m:Nat),vs[i]?=U (.ref p)/\h.get? p=U o/\o.cls = .type "tuple" /\ o.data = .seq ax.toArray m/\aiM ax (kis.getD i [])/\ax≠[]
theorem o4.keep(x:o4 h vs kis i)(k:∀ b o,h.get? b=U o->(∀ n xs,o≠age "list" xs n)->h'.get? b=U o):o4 h' vs kis i:=by obtain⟨p,o,ax,m,h1,h2,h3,r⟩:=x;exact#[p,o,ax,m,h1,k p o h2 (λn xs z=>by rw[z] at h3;exact absurd (Value.type.inj h3) (by decide)),h3,r]
theorem SJ(h:aiM ax ns)(hn:ax≠[]):∃ i t,ax[0]?=U (.int i t):=by
 cases h with
 | nil=>exact absurd Y hn
 | cons=>exact#[_,_,Y]
theorem Ii:∀ (vs:List adH) (kis:List (List Int)),kis.length=vs.length->(∀ i,i<vs.length->o4 h vs kis i)->∃ fs,PySem.W.KatTups h vs fs/\fs.length=vs.length/\∀ v∈fs,∃ i t,v = .int i t
 | [],_,_,_=>#[[],PySem.W.KatTups.nil,Y,λv z=>by simp at z]
 | v::vs,[],e,_=>by simp at e
 | v::vs,k::kis,e,hh=>by
  obtain⟨p,o,ax,m,h1,h2,h3,h4,h5,h6⟩:=hh 0 (by simp);have qR:v = .ref p:=by simpa using h1
  subst qR;obtain⟨i,t,hf⟩:=SJ h5 h6;obtain⟨fs,a1,a2,a3⟩:=Ii vs kis (by simpa using e) λi hi=>by obtain⟨p,o,ax,m,h1,r⟩:=hh (i+1) (by simpa using hi);exact#[p,o,ax,m,by simpa using h1,by simpa using r]
  refine#[.int i t::fs,PySem.W.KatTups.cons h2 h3 h4 (by simpa using hf) a1,by simp[a2],λv hv=>?_];rcases adL.mp hv with z|z
  .exact#[i,t,z]
  .exact a3 v z
def xy(prog:aek)(w:aeS)(h:afH)(vs:List adH)(kis:List (List Int)):Prop :=
 2<=vs.length->∃ κ,∀ (A:aff) (E:adH->adQ->Prop) (s:adQ),s.heap=h->(∀ Q:SortKind->adQ->Prop,Q κ s->adY (model prog w) A (keyKind' vs.toArray) Q E s) /\
  ∀ i j,i<vs.length->j<vs.length->∀ C:Bool->adQ->Prop,C (dA kis i j) s->adY (model prog w) A (keyLt' κ (vs.getD i Value.none) (vs.getD j Value.none)) C E s
theorem SK(ho:s.heap.get? a=U (age "list" vs.toArray n))(hl:kis.length=vs.length)(fZ:vs.length<64)(hk:∀ g:afH,(∀ b o,(∀ n xs,o≠age "list" xs n)->s.heap.get? b=U o->g.get? b=U o)->xy prog w g vs kis)(fin:∀ h',(∀ b o,b≠a->s.heap.get? b=U o->h'.get? b=U o)->(∃ c,h'.get? a=U (age "list" (afN ((c9 (dA kis) vs.length).toList.map λi=>vs.getD i Value.none)) c))->P (.done (.ret .none)) { s with heap:=h' }) :
 adY (model prog w) A (afG.«list.sort» #[[.ref a],[]]) P E s:=by
 rw[list_sort_plain];refine ady (listItems_at ho Y (ady (akb ho Y ?_ (by rw[adS,ag8];walk_at "o") (ad6 _))));obtain⟨e1,oa⟩:∃ e1,(s.heap.update a (aeZ λv=>((List.toArray []):Array adH))).get? a=U (age "list" (List.toArray []) e1):=#[_,ale ho λv=>(List.toArray [])]
 have keep:∀ b o,b≠a->s.heap.get? b=U o->(s.heap.update a (aeZ λv=>((List.toArray []):Array adH))).get? b=U o:=λb o z e=>(adZ _ _ (aey z)).trans e;refine ady (alf oa Y ?_);generalize s.heap.update a (aeZ λv=>((List.toArray []):Array adH))=g at oa keep ⊢;refine ady (wpAny_newTuple ?_ (by show vs.length<=_;rw[ag8];walk_at "o"));refine ady (wpAny_newList ?_ (ad6 _));refine ae3 ?_;show adY (model prog w) A _ P E { s with heap:=(g.push (age "tuple" vs.toArray 0)).push (age "list" (List.toArray []) 0) };have q9:((g.push (age "tuple" vs.toArray 0)).push (age "list" (List.toArray []) 0)).get? a=U (age "list" (List.toArray []) e1):=adE _ (adE _ oa);have AZ:∀ b o,b≠a->s.heap.get? b=U o->((g.push (age "tuple" vs.toArray 0)).push (age "list" (List.toArray []) 0)).get? b=U o:=λb o z e=>adE _ (adE _ (keep b o z e));generalize (g.push (age "tuple" vs.toArray 0)).push (age "list" (List.toArray []) 0)=g2 at q9 AZ ⊢;dsimp only;have neT:∀ b o,s.heap.get? b=U o->(∀ n xs,o≠age "list" xs n)->b≠a:=λb o e z y=>by rw[y,ho] at e;cases e;exact z _ _ rfl
 have ue:((c9 (dA kis) vs.length).toList.map λi=>vs.getD i Value.none).length=vs.length:=by rw[adA,(qQ (n:=vs.length) (oX kis)).1.length_eq,adO]
 have sz:(afN ((c9 (dA kis) vs.length).toList.map λi=>vs.getD i Value.none)).size<=ad1+1:=by rw[adS,ue,ag8];walk_at "o"
 have done:P (.done (.ret .none)) { s with heap:=g2.update a (aeZ λv=>afN ((c9 (dA kis) vs.length).toList.map λi=>vs.getD i Value.none)) } :=
  fin _ (λb o z e=>(adZ _ _ (aey z)).trans (AZ b o z e)) #[_,ale q9 λv=>_]
 by_cases h2:vs.toArray.size<2
 .rw[if_pos h2,if_pos h2];refine ady (adD ?_);refine ady (adD ?_);dsimp only;have self:(adM vs.length).map (λi=>vs.getD i Value.none)=vs:=by
   apply ai4
   .simp
   .intro i h1 h2;simp[adB,h2]
  have e0:(arrOf (SortSt.mk' general' (vs.toArray.zip vs.toArray) (List.toArray []) 7 O)).map (·.2)=afN ((c9 (dA kis) vs.length).toList.map λi=>vs.getD i Value.none):=by unfold c9;rw[if_pos (by simpa using h2)];apply Array.toList_inj.mp;rw[show (adM vs.length).toArray.toList=adM vs.length from Y,self];show ((vs.toArray.zip vs.toArray).map (·.2)).toList=_;simp[List.map_snd_zip]
  rw[e0];refine ady (alf q9 Y (ady (akb q9 Y ?_ (ad6 _) sz)));simp only[bne_self_eq_false,ad5,if_false];exact adD done
 .rw[if_neg h2,if_neg h2];have t4:2<=vs.length:=by rw[adS] at h2;walk_at "o"
  obtain⟨κ,hκ⟩:=hk g2 (λb o z e=>AZ b o (neT b o e z) e) t4;refine ady ((hκ A E { s with heap:=g2 } rfl).1 _ ?_);have ask:(PySem.W.kas_sort vs.length).kasWp (PySem.W.kas_ask prog w A κ vs) (λp s'=>s' = { s with heap:=g2 }/\p=c9 (dA kis) vs.length) { s with heap:=g2 }:=by
   have pv:=Hw _ (Hu (n:=vs.length) (oX kis) (by walk_at "o"));refine Hn (lt:=dA kis) (n:=vs.length) (Ok:=λs'=>s' = { s with heap:=g2 }) (λi j C s' hi hj e q=>?_) (λp s' e q=>#[e,?_]) _ _ Y pv
   .subst e;exact (hκ _ _ _ Y).2 i j hi hj C (q _ Y)
   .rw[q];unfold c9;rw[if_neg (by walk_at "o")]
  refine ady (aeO (PySem.W.kat_run (κ:=κ) (ks:=vs) (vs:=vs) (Q:=λst s'=>s' = { s with heap:=g2 }/\arrOf st=(c9 (dA kis) vs.length).map (PySem.W.kas_item (vs.toArray.zip vs.toArray))/\failedOf st=O)
   Y t4 fZ (λp st s' b1 b2 b3 b4=>#[b4.1,by rw[b2,b4.2],b3]) ask) ?_ λv v z=>z)
  rintro ⟨⟨⟩,st⟩ s' ⟨rfl,har,hf⟩;rw[PySem.W.kat_snds Y har];refine ady (alf q9 Y (ady (akb q9 Y ?_ (ad6 _) sz)));rw[hf];simp only[bne_self_eq_false,ad5,if_false];exact adD done
theorem Ij(hl:kis.length=vs.length)(fZ:vs.length<64)(hk:∀ g:afH,(∀ b o,(∀ n xs,o≠age "list" xs n)->s.heap.get? b=U o->g.get? b=U o)->xy prog w g vs kis)(uf:∀ (A':aff) (Q':List adH->adQ->Prop) (E':adH->adQ->Prop),A'.handled=A.handled->(∀ h' tk,(∀ b o,s.heap.get? b=U o->h'.get? b=U o)->s.heap.objs.size<=h'.objs.size->Q' vs { s with heap:=h',toks:=tk })->adY (model prog w) A' (collect (.ref r)) Q' E' s)(q:∀ l h' tk,s.heap.objs.size<=l->(∀ b o,s.heap.get? b=U o->h'.get? b=U o)->(∃ c,h'.get? l=U (age "list" (afN ((c9 (dA kis) vs.length).toList.map λi=>vs.getD i Value.none)) c))->Q (.ref l) { s with heap:=h',toks:=tk }) :
 adY (model prog w) A (call (.builtin "sorted") [.ref r]) Q E s:=by
 refine Calls.call_function_entry kind_sorted plain_sorted entry_sorted (args_sorted1 _) ?_;unfold afG.«sorted»;refine ady (m:=checkCount "sorted" 1 1 _) (adD (ady (uf _ _ _ Y λh1 tk keep hsz=>?_)));refine ady (wpAny_newList ?_ (by rw[ag8];walk_at "o"));have oL:(h1.push (age "list" vs.toArray 0)).get? h1.objs.size=U (age "list" vs.toArray 0):=adN _ rfl;have ug:∀ b o,s.heap.get? b=U o->b≠h1.objs.size/\(h1.push (age "list" vs.toArray 0)).get? b=U o:=λb o e=>by have:=adF e;exact#[by walk_at "o",adE _ (keep b o e)]
 show adY _ A.in1 (holding [.ref h1.objs.size] (call (.builtin "list.sort") [.ref h1.objs.size]) >>= _) _ _ { s with heap:=h1.push (age "list" vs.toArray 0),toks:=tk };generalize h1.push (age "list" vs.toArray 0)=h2 at oL ug ⊢;generalize h1.objs.size=l at oL ug hsz ⊢;refine ady (ae3 (aeX slot_list_sort #[_,oL,Y] entry_list_sort ?body (args_list_sort _)))
 case body =>
  refine SK (s:={ s with heap:=h2,toks:=tk }) oL hl fZ (λg z=>hk g λb o n e=>z b o n (ug b o e).2) λh' k c=>#[_,Y,adD #[_,Y,q l h' tk hsz (λb o e=>k b o (ug b o e).1 (ug b o e).2) c]]
theorem SM(hl:kis.length=vs.length)(hk:∀ i,i<vs.length->o4 h vs kis i):xy prog w h vs kis:=λh2=>by
 obtain⟨fs,ht,lf,hi⟩:=Ii vs kis hl hk;refine#[tuples' true,λA E s e=>?_];subst e;refine#[λQ q=>PySem.W.kat_kind (T:=.type "int") ht (by walk_at "o") (λv hv=>?_) (by decide) q,λi j hi hj C q=>?_]
 .obtain⟨i,t,rfl⟩:=hi v hv;exact PySem.W.Looks.now
 .obtain⟨p1,o1,i1,m1,a1,b1,y,c1,d1,y⟩:=hk i hi;obtain⟨p2,o2,i2,m2,a2,b2,y,c2,d2,y⟩:=hk j hj;rw[adB,adB,a1,a2];have z1:=d1.length;have z2:=d2.length;exact PySem.W.kat_lt b1 c1 b2 c2 (by simpa using R5 (b:=true) (i:=0) d1 d2 (by simp[z1,z2]) q)
theorem SN(hl:kis.length=vs.length)(fZ:vs.length<64)(hk:∀ i,i<vs.length->o4 s.heap vs kis i)(uf:∀ (A':aff) (Q':List adH->adQ->Prop) (E':adH->adQ->Prop),A'.handled=A.handled->(∀ h' tk,(∀ b o,s.heap.get? b=U o->h'.get? b=U o)->s.heap.objs.size<=h'.objs.size->Q' vs { s with heap:=h',toks:=tk })->adY (model prog w) A' (collect (.ref r)) Q' E' s)(q:∀ l h' tk,s.heap.objs.size<=l->(∀ b o,s.heap.get? b=U o->h'.get? b=U o)->(∃ c,h'.get? l=U (age "list" (afN ((c9 (dA kis) vs.length).toList.map λi=>vs.getD i Value.none)) c))->Q (.ref l) { s with heap:=h',toks:=tk }) :
 adY (model prog w) A (call (.builtin "sorted") [.ref r]) Q E s :=
 Ij hl fZ (λg z=>SM hl λi hi=>(hk i hi).keep λb o e n=>z b o n e) uf q
theorem Ik(K:ajM prog w T r d n P OK)(hh:A.handled=O)(aA:OK s.heap)(hn:n<=ad1)(q:∀ h' tk acc,(∀ b o,s.heap.get? b=U o->h'.get? b=U o)->s.heap.objs.size<=h'.objs.size->ItemsOf P acc n->Q acc.toList { s with heap:=h',toks:=tk }):adY (model prog w) A (collect (.ref r)) Q E s:=by
 have lt:=K.there _ aA;unfold collect;refine ady (wpAny_runValue (aeH entry_proto_collect' ?_));rw[aes PySem.F.plain_proto_collect _];show adY _ A.in1 (amf [] >>= λl=>again (.builtin "list.__iadd__" #[[l,.ref r],[]])) _ _ s;refine ady (aeP (adD #[Code.quiet_builtin _ (by decide +kernel),aeH entry_list_iadd' ?_]));rw[aes PySem.F.plain_list_iadd _];have oS:(s.heap.push { cls:=.type "list",data:=.seq ([]:List adH).toArray }).get? s.heap.objs.size=U { cls:=.type "list",data:=.seq (List.toArray []) 0 }:=adN _ rfl;show adY _ A.in1 (afC (.ref s.heap.objs.size) (.ref r) (.ref s.heap.objs.size)) _ _ { s with heap:=s.heap.push { cls:=.type "list",data:=.seq ([]:List adH).toArray } };refine PySem.W.kdl_extend (R:=λr s'=>match r with
  | .ok (.ret v)=>adY (model prog w) A (match v with|.ref a=>(do match (<- load a).data with|.seq xs _=>pure xs.toList|_=>unsupported "internal:collect")|_=>unsupported "internal:collect") Q E s'
  | .ok _=>False
  | .error e=>E e s') (s:={ s with heap:=s.heap.push { cls:=.type "list",data:=.seq ([]:List adH).toArray } }) K hh (K.keep _ _ aA λb y o e=>adE _ e) s.heap.objs.size (aeJ lt.1) (aeJ lt.2) (.ref s.heap.objs.size) 0 oS (λh' tk acc c hk hS jA=>?_) hn
 show adY _ A (load s.heap.objs.size >>= _) _ _ _;refine ady (wpAny_load hS (adD ?_));exact q h' tk acc (λb o e=>hk b o (adV (adF e)) (adE _ e)) (ahl (adF hS)) jA
end
def km(H:Hp)(xs:List V)(kvs:List (List Key × V)):Prop:=ay (λx (kv:List Key × V)=>∃ a,x = .ref a/\H a=U (.tup (kv.1.map kV))) xs kvs
theorem KT.keys(r:KT H kvs xs):xs.map (·.1)=kvs.map (·.1):=by
 induction r with
 | nil=>rfl
 | cons h t ih=>rw[adU,adU,ih,h.1]
theorem KT.Il(r:KT H kvs xs):km H ((xs.map (·.2.1)).map V.ref) kvs:=by
 induction r with
 | nil=>exact trivial
 | cons h t ih=>exact#[#[_,Y,h.2.1],ih]
theorem km.Im{K:adz}{H:Hp}:∀ {ys:List V} {kvs:List (List Key × V)} {kis:List (List Int)},km H ys kvs->kvs.map (·.1)=kis.map (λk=>k.map ahL)->(∀ k∈kis,k≠[])->jz K H ys kis
 | [],[],[],_,_,_=>trivial
 | [],[],_::_,_,e,_=>by simp at e
 | _::_,kv::kvs,[],_,e,_=>by simp at e
 | y::ys,kv::kvs,k::kis,h,e,hn=>by rw[adU,adU] at e;injection e with e1 e2;obtain⟨⟨a,rfl,ha⟩,t⟩:=h;refine#[#[a,Y,?_,hn k (.head _)],km.Im t e2 λk hk=>hn k (.tail _ hk)];rw[e1,aev] at ha;exact .inl (.inl ha)
 | [],_::_,_,h,_,_=>h.elim
 | _::_,[],_,h,_,_=>h.elim
theorem Io:∀ (as:List adK),Vals (as.map V.ref) (as.map ad7)
 | []=>.nil
 | _::as=>.cons rfl (Io as)
section
theorem SO(I:Inv X pins G H s)(e:H p=U (.dT kvs)):∃ (as:List adK) (es:Array agg) (ep:Nat),km H (as.map V.ref) kvs/\(p == ae6)=false/\eT s.heap p es ep/\es.size=as.length/\(∀ acc:Array adH,ItemsOf (λi v=>∃ e,es[i]?=U e/\v=e.key) acc es.size->acc.toList=as.map ad7)/\as.length<=ad1:=by
 obtain⟨z,hd,xs,rel,o,es,ep,ho,hc,hdt,he,his,hn⟩:=xt I.aA e;have hl:xs.length=kvs.length:=(Paired.length rel).symm;have hs:es.size=xs.length:=agj he;refine#[xs.map (·.2.1),es,ep,KT.Il rel,hd,#[o,ho,hc,hdt],by rw[adA];exact hs,λacc ha=>?_,by rw[adA,hl];exact z];refine agq λi=>?_;rw[adR,adR];have la:acc.toList.length=es.size:=by rw[afy];exact ha.1
 by_cases hi:i<es.size
 .obtain⟨v,hv⟩:∃ v,acc.toList[i]?=U v:=#[_,adC (by lia)]
  obtain⟨en,h1,h2⟩:=ha.2 i v (by rw[<- ahu];exact hv);rw[entry_at he i] at h1;cases hx:xs[i]? with
  | none=>rw[hx] at h1;cases h1
  | some y=>rw[hx] at h1;cases h1;rw[hv,h2];rfl
 .rw[aeD (by lia),aeD (by lia)];rfl
theorem SQ(I:Inv X pins G H s)(h:jz X.K H ks kis)(r:Vals ks us):∀ i,i<us.length->o4 s.heap us kis i:=λi hi=>by
 have hk:i<ks.length:=by rw[r.length];exact hi
 have SR:i<kis.length:=by rw[<- h.len];exact hk
 obtain⟨p,ep,hp⟩:=h.get (adC hk);obtain⟨u,eu,ru⟩:=r.get (adC hk);rw[ep] at ru;cases ru;obtain⟨ax,rv,⟨o,ho,hc,m,hd⟩,y⟩:=I.tuple hp;refine#[p,o,ax,m,eu,ho,hc,hd,intsAre_of rv,λz=>?_];have nn:kis.getD i []≠[]:=by
  have all:∀ {ks:List V} {ns:List (List Int)},jz X.K H ks ns->∀ n∈ns,n≠[]:=by
   intro ks
   induction ks with
   | nil=>intro ns h n hn;cases ns with
    | nil=>simp at hn
    | cons _ _=>exact h.elim
   | cons k ks ih=>intro ns h n hn;cases ns with
    | nil=>exact h.elim
    | cons m ns =>
     obtain⟨⟨y,y,y,bT⟩,t⟩:=h;rcases adL.mp hn with z|z
     .rw[z];exact bT
     .exact ih t n z
  rw[adB,adC SR];exact all h _ (ai3 _)
 have:=rv.length;rw[adA,z] at this;exact nn (afu.mp this)
theorem Ip(I:Inv X pins G H s)(r:Vals ks us)(hz:ks.length<=ad1)(hl:s.heap.objs.size<=l)(keep:∀ b o,s.heap.get? b=U o->h'.get? b=U o)(hD:∃ c,h'.get? l=U (age "list" (afN ((c9 (dA kis) us.length).toList.map λi=>us.getD i Value.none)) c))(q:∀ l,H l=O->Q (.ref l) (upd H l (.lst (eR kis .non ks)))):EP X pins G Q (.ref l) { s with heap:=h',toks:=tk }:=by obtain⟨c,hD⟩:=hD;have sv:=R7 (kis:=kis) r;rw[r.length] at sv;exact#[.ref l,_,I.laid (t':=tk) keep hl (show bW X.prog X.w _ h' _ (.lst (eR kis .non ks)) from #[by rw[HD];exact hz,_,c,sv,hD]),Y,q l (I.aA.fresh hl)]
theorem SS(hc:X.calm=true):e9 X (.builtin "sorted") (λxs H Q=>∃ (p:adK) (kvs:List (List Key × V)) (kis:List (List Int)),xs=[.ref p]/\H p=U (.dT kvs)/\kvs.map (·.1)=kis.map (λk=>k.map ahL)/\(∀ k∈kis,k≠[])/\kvs.length<64 /\
 ∀ l ys,H l=O->km H ys kvs->Q (.ref l) (upd H l (.lst (eR kis .non ys)))):=by
 intro pins s G H xs us Q I r h;obtain⟨p,kvs,kis,rfl,e,ek,bT,fZ,q⟩:=h;obtain⟨u,rfl,rx⟩:=vals1 r;cases rx;obtain⟨as,es,ep,hk,lo,ra,hs,jA,hz⟩:=SO I e;have la:as.length=kvs.length:=by have:=hk.len;rwa [adA] at this
 have lk:kis.length=kvs.length:=by have:=congrArg List.length ek;simpa using this.symm
 have hK:jz X.K H (as.map V.ref) kis:=hk.Im ek bT;have rv:=Io as;refine SN (kis:=kis) (vs:=as.map ad7) (by rw[adA];lia) (by rw[adA];lia) (SQ I hK rv) (λA' Q' E' hA hq=>Ik (SH lo) (hA.trans (I.ok.hd hc)) ra (by rw[hs];exact hz) λh' tk acc k1 k2 ha=>?_) λl h' tk h1 h2 h3=>Ip I rv (by rw[adA];exact hz) h1 h2 h3 λl hl=>q l _ hl hk;rw[jA acc ha];exact hq h' tk k1 k2
end
theorem SU(z:kvs.length<=ad1)(lo:(a == ae6)=false)(rel:KT H' kvs xs)(dd:h'.DictOfH (ahM (cT P w)) a xs):bW P w H' h' a (.dT kvs):=by obtain⟨o,es,ep,h1,h2,h3,h4,y,h5⟩:=dd;exact#[z,lo,xs,rel,o,es,ep,h1,h2,h3,h4,h5]
section
theorem SV(e:H p=U (.dT kvs))(r:KT H uh xs):KT (upd H p ob) uh xs :=
 KT.keeps r λb ys z=>by rw[aK (λy=>by rw[y,e] at z;cases z)];exact z
theorem SW(hu:A.units+1<aii)(I:Inv X pins G H s)(e:H p=U (.dT kvs))(eb:H b=U (.tup (k.map kV)))(hm:more=[] ∨ ∃ x,more=[x])(h1:∀ v,dB kvs k=U v->∀ w' s',Inv X pins G (upd H p (.dT (kj kvs k))) s'->RelV v w'->Q w' s')(h0:dB kvs k=O->∃ x,more=[x]/\∀ s',Inv X pins G H s'->Q x s') :
 adY (model X.prog X.w) A (call (.builtin "dict.pop") (.ref p :: .ref b::more)) Q E s:=by
 obtain⟨z,lo,xs,rel,dd⟩:=xt I.aA e;have hl:xs.length=kvs.length:=(Paired.length rel).symm;refine SE (afm hu) (qX I.aA eb) lo dd (by rw[hl];exact z) hm (λy hy h' tk oZ hs=>?_) λhn=>?_
 .have rv:=rel.val k;rw[hy] at rv;cases hv:dB kvs k with
  | none=>rw[hv] at rv;exact (show False from rv).elim
  | some v =>
   rw[hv] at rv;have he:∃ q,h'.get? p=U q:=let ⟨q,_,_,hq,_⟩:=oZ;#[q,hq];exact h1 v hv _ _ (AR (t':=tk) I (by rw[e];exact afX) hs he (SU (adG (Sn kvs k) z) lo (SV e (KT.out rel k)) oZ)) rv
 .have rv:=rel.val k;rw[hn] at rv;cases hv:dB kvs k with
  | some v=>rw[hv] at rv;exact (show False from rv).elim
  | none =>
   obtain⟨x,ex,q⟩:=h0 hv;exact#[x,ex,λtk=>q _ (I.tok tk)]
end
def Iq(td ty:TE):TE:=λG H Q=>td G H λx H1=>∃ a,x = .ref a/\HV H1 a/\ty G H1 λy H2=>∃ b kvs k v,y = .ref b/\H2 a=U (.dT kvs)/\H2 b=U (.tup (k.map kV))/\dB kvs k=U v/\Q v (upd H2 a (.dT (kj kvs k)))
section
theorem Ir(hu:X.A.units+1<aii)(ho:PE X o td)(he:PE X e ty)(m:M1 X o "pop" apos e dG):PE X (.Call (.Attribute o "pop" apos) [e] [] dG) (Iq td ty):=by
 intro pins s G H Q I h;refine wpAny_Call_method m.base m.few m.line PySem.F.plainAttrs_dict ajr PySem.F.type_dict_pop (aI (ho pins s G H _ I h) λu s1 zq=>?_);obtain⟨x,H1,I1,rx,a,ex,d,q1⟩:=zq;subst ex;obtain rfl:u=ad7 a:=rx;obtain⟨t1,t2,z⟩:=Sy I1 d;refine#[t1,t2,?_];rw[m.trees];refine ai9 Y (ahG (afk (aI (he pins s1 G H1 _ I1 q1) λiv s2 ⟨y,H2,I2,ry,b,kvs,k,v,ey,ea,eb,l,q2⟩=>afw ?_)));subst ey;obtain rfl:iv=ad7 b:=ry;exact SW hu I2 ea eb (.inl rfl) (λv' l' w' s3 I3 j4=>#[v',_,I3,j4,by rw[l] at l';cases l';exact q2]) λl'=>by rw[l] at l';cases l'
end
section
variable{prog:aek}{w:aeS}{K:Type}[DecidableEq K]{knd:KeyKind prog w K}{A:aff}{E:adH->adQ->Prop}{s:adQ}{o d:adK}{es:Array agg}{ep:Nat}
def xA(h:afH)(es:Array agg):Prop:=∀ e∈es,(es.filter (·.hash == e.hash)).size<=1/\∃ a ob,e.key = .ref a/\h.get? a=U ob/\ob.cls = .type "tuple"
theorem SX(x:eT s.heap o es ep)(hk:xA s.heap es)(q:Q es s):adY (model prog w) A (ahI nm o) Q E s:=by
 obtain⟨ob,ho,y,hd⟩:=x;unfold ahI;refine ady (ae0 ho hd ?_);refine ady ?_;rw[<- Array.forIn_toList];refine akO _ (λrest y s'=>s'=s/\∀ e∈rest,e∈es) _ ?_ ?_ _ _ #[Y,λe he=>ahF.mp he]
 .rintro e rest b s' ⟨rfl,cn⟩;obtain⟨h1,a,oa,ea,ha,hc⟩:=hk e (cn e (.head _));have T:s'.TypeIs e.key "tuple" := by rw[ea];exact#[oa,ha,hc]
  have nx:¬ 1<(es.filter (·.hash == e.hash)).size:=by lia
  refine ady ?_;rw[ea] at T ⊢;unfold ama;refine ady (agi (name:=ae2 "__eq__") T (show ajB (.type "tuple") (ae2 "__eq__")=pure (U (.builtin "tuple.__eq__")) from by rw[agX,afO];kernel_rfl) (adD ?_));have ne:(U (agS "tuple.__eq__") == U (agS "object.__eq__"))=false:=by decide +kernel
  rw[ne,if_pos (show (!false)=true from Y),if_neg nx];exact adD #[Y,λe he=>cn e (.tail _ he)]
 .rintro b s' ⟨rfl,y⟩;exact adD q
theorem SY(lo:(o == ae6)=false)(x:eT s.heap o es ep)(hk:xA s.heap es)(hz:es.size<=ad1)(q:∀ h' lS,eT h' s.heap.objs.size es lS->Heap.SameBut s.heap.objs.size (s.heap.push { cls:=.type "dict",data:=.dict (List.toArray []) }) h'->Q (.ref s.heap.objs.size) { s with heap:=h' }):adY (model prog w) A (call (.type "dict") [.ref o]) Q E s:=by
 have lt:=x.lt;refine callType_codes (Q₁:=λy s₁=>y = .ref s.heap.objs.size/\s₁ = { s with heap:=s.heap.push { cls:=.type "dict",data:=.dict (List.toArray []) } }) PySem.F.kt_called_dict (PySem.F.kt_typeCall_dict_1 _) PySem.F.entry_dict_init (kt_code_dict_new _ #[Y,Y]) ?_;rintro y s₁ ⟨rfl,rfl⟩;have xn:eT (s.heap.push { cls:=.type "dict",data:=.dict (List.toArray []) }) s.heap.objs.size (List.toArray []) 0:=#[_,adN _ Y,#[Y,Y,Y],Y]
 have xo:eT (s.heap.push { cls:=.type "dict",data:=.dict (List.toArray []) }) o es ep:=x.at λv e=>adE _ e;have ix:xA (s.heap.push { cls:=.type "dict",data:=.dict (List.toArray []) }) es:=λe he=>by obtain⟨h1,a,oa,ea,ha,hc⟩:=hk e he;exact#[h1,a,oa,ea,adE _ ha,hc]
 have Tn:Shared.TypeIs { s with heap:=s.heap.push { cls:=.type "dict",data:=.dict (List.toArray []) } } (.ref s.heap.objs.size) "dict" := eT.ty (s:={ s with heap:=s.heap.push { cls:=.type "dict",data:=.dict (List.toArray []) } }) xn;have To:Shared.TypeIs { s with heap:=s.heap.push { cls:=.type "dict",data:=.dict (List.toArray []) } } (.ref o) "dict" := eT.ty (s:={ s with heap:=s.heap.push { cls:=.type "dict",data:=.dict (List.toArray []) } }) xo;have S9:¬ s.heap.objs.size=o:=by walk_at "o"
 refine#[Tn,PySem.F.args_dict_init_2 _ _,?_];unfold afG.«dict.__init__»;refine ady ?_;unfold alD;refine ady (ahr Tn ?_);refine adD (a:=(s.heap.objs.size,[ad7 o])) ?_;show adY _ _ (aiV "dict.__init__" s.heap.objs.size (.ref o) [] .none) _ _ _;unfold aiV;refine ady (akG To ?_);rw[if_neg (by decide)];refine ady ?_;unfold amh;refine ady ?_;unfold alq;refine ady (af9 To isSubtype_dict_dict ?_);simp only[ahJ,ad5,if_false];refine ady (agi To PySem.F.slot_dict_iter.lookup (adD ?_));simp only[beq_self_eq_true,if_true];refine ady (adD ?_);obtain⟨on,hon,hcn,hdn⟩:=id xn;obtain⟨oo,hoo,hco,A0⟩:=id xo;unfold alR;rw[if_neg (by simpa using S9)];unfold ahs;rw[if_neg (by rw[lo];exact ad2)];refine ady (adD (ady (ae0 hoo A0 ?_)));dsimp only;by_cases hemp:es.isEmpty=true
 .have e0:es = (List.toArray []):=Array.isEmpty_iff.mp hemp;subst e0;rw[if_neg (by simp)];refine ady (ahY hoo A0 (ady (ae0 hoo A0 (ady ?_))));rw[Std.Legacy.Range.forIn_eq_forIn_range'];refine adD (adD ?_);exact ady (adD (adD #[Y,q _ _ xn (Heap.SameBut.refl _ _)]))
 .have nf:(decide (es.size<=8) && es.all λe=>(keyPart e.key).isSome)=false:=by
   rw[ajs];refine .inr (ahb.mpr λz=>?_);have hs:0<es.size:=by
    rcases akc es.size with h|h
    .exact absurd (by simpa using h) hemp
    .exact h
   have z0:=(Array.all_eq_true.mp z) 0 hs;obtain⟨v,a,v,ea,v⟩:=hk es[0] (Array.getElem_mem hs);rw[ea] at z0;cases z0
  rw[nf,if_pos (show (!false)=true from Y)];refine ady (ae0 hon hdn ?_);rw[if_pos (show ((List.toArray []):Array agg).isEmpty=true from Y)];refine ady (SX xo ix ?_);rw[if_pos (by simpa using hemp)];refine ady (wpAny_updateDictKeysTo hon hdn (adD ?_) (akt hz));exact ady (adD (adD #[Y,q _ _ #[_,aef _ hon (ajY (agu hdn _)),hcn.mapDictKeys _,agu hdn _] (aeG ..)]))
end
theorem Iu{α:Type}{f:α->Int}:∀ {l:List α},(l.map f).Nodup->∀ c,(l.filter λx=>f x == c).length<=1
 | [],_,_=>by simp
 | x::l,h,c=>by
  rw[adU,aeB] at h;have ih:=Iu h.2 c;rw[aee];split
  .rename_i hx;have e:(l.filter λx=>f x == c)=[]:=by
    rw[List.filter_eq_nil_iff];intro y hy Tc;have e1:f x=c:=by simpa using hx
    have e2:f y=c:=by simpa using Tc
    exact h.1 (by rw[e1,<- e2];exact adP.mpr #[y,hy,Y])
   rw[e];exact adJ _
  .exact ih
theorem Iv:e9 X (.type "dict") (λxs H Q=>∃ p kvs,xs=[.ref p]/\H p=U (.dT kvs)/\(kvs.map λkv=>agk (cT X.prog X.w) kv.1).Nodup/\∀ l,H l=O->Q (.ref l) (upd H l (.dT kvs))):=by
 intro pins s G H xs us Q I r h;obtain⟨p,kvs,rfl,e,hh,q⟩:=h;obtain⟨u,rfl,rx⟩:=vals1 r;cases rx;obtain⟨z,lo,xs,rel,o,es,ep,ho,hc,hdt,he,his,hn⟩:=xt I.aA e;have hl:xs.length=kvs.length:=(Paired.length rel).symm;have hs:es.size=xs.length:=agj he;have ks:xs.map (·.1)=kvs.map (·.1):=KT.keys rel;have Td:(es.toList.map (·.hash)).Nodup:=by
  have e1:es.toList.map (·.hash)=kvs.map λkv=>agk (cT X.prog X.w) kv.1:=by rw[he,aev,show (kvs.map λkv=>agk (cT X.prog X.w) kv.1)=(kvs.map (·.1)).map (agk (cT X.prog X.w)) by rw[aev];rfl,<- ks,aev];rfl
  rw[e1];exact hh
 have hk:xA s.heap es:=λen Tf=>by
  refine#[?_,?_]
  .have:=Iu (f:=λx:agg=>x.hash) Td en.hash
   rwa [<- Array.toList_filter,afy] at this
  .have:en∈xs.map (ajz (ahM (cT X.prog X.w))):=he ▸ ahF.mpr Tf;obtain⟨x,hx,rfl⟩:=adP.mp this;obtain⟨ob,v,v,h1,h2,v⟩:=his x hx;exact#[x.2.1,ob,Y,h1,h2]
 refine SY lo #[o,ho,hc,hdt] hk (by rw[hs,hl];exact z) λh' lS ra sb=>?_;obtain⟨on,hon,hcn,hdn⟩:=ra;have keep:∀ b q,s.heap.get? b=U q->h'.get? b=U q:=λb q hq=>(sb.2 b (adV (adF hq))).trans (adE _ hq);have fr:=I.aA.fresh (adJ s.heap.objs.size);refine#[.ref s.heap.objs.size,_,I.laid (a:=s.heap.objs.size) (o:=.dT kvs) (t':=s.toks) keep (adJ _) #[z,beq_eq_false_iff_ne.mpr (aey (adV I.big)),xs,KT.keeps rel λb ys y=>?_,on,es,lS,hon,hcn,hdn,he,hn],Y,q _ fr];rw[aK (λz=>by rw[z,fr] at y;cases y)];exact y
section
end
theorem aU{c:Prop}[Decidable c]{a b:Prop}(h:c->a)(h':¬ c->b):if c then a else b:=by
 by_cases z:c
 .rw[if_pos z];exact h z
 .rw[if_neg z];exact h' z
theorem HP(h:afH)(hb:ae6<h.objs.size):bW P w H (h.push { cls:=.type "dict",data:=.dict (List.toArray []) }) h.objs.size (.dK []) :=
 #[ad6 _,beq_eq_false_iff_ne.mpr (aey (adV hb)),[],.nil,Heap.DictOf.new h]
section
theorem Inv.Tg(I:Inv X pins G H s):ae6<s.heap.objs.size:=by have h:ae5<s.heap.objs.size:=(I.mod.glob.keeps I.bk).lt;exact akF (by decide) h
def Iw:TE:=λy H Q=>∀ p,H p=O->Q (.ref p) (upd H p (.dT []))
theorem Iy:PE X (.Dict [] [] pos) Iw:=λpins s G H Q I h=>wpAny_Dict_empty
 #[.ref s.heap.objs.size,_,I.laid (a:=s.heap.objs.size) (o:=.dT []) (t':=s.toks) (λy y z=>adE _ z) (adJ _)
  #[ad6 _,beq_eq_false_iff_ne.mpr (aey (adV (Inv.Tg I))),[],.nil,_,(List.toArray []),0,adN _ Y,#[Y,Y,Y],Y,Y,ahk],Y,h _ (I.aA.fresh (adJ _))]
theorem rf:PE X e (λy y y=>False):=λy y y y y y h=>h.elim
theorem ui(h:∃ t,X.mg x=U (.int n t))(hg:Gl X x)(hd:(x == ("__debug__" : Str))=false:=by decide):PE X (.Name x pos) (tC (.int n)):=by obtain⟨t,ht⟩:=h;exact v7 (v:=.int n) hg ht #[t,Y] hd
end
section
end
noncomputable def qG(ks:List P2)(r:Int)(i:Nat):Bool:=decide ((aN ks i).1<=r) && decide (r<=(aN ks (i+1)).1)
theorem Iz(hu:A.units+1<aii)(ho:PE X o td)(hi:PE X i ty)(hs:AS i)(eA:X.A=A:=by rfl):PE X (.Subscript o i pos) (AU td ty):=by subst eA;exact xu hu ho hi hs
abbrev Tb:=List (P2 × S2)
noncomputable def bP(i j:Int):List Key:=[.inl i,.inl j]
theorem xB{a b:P2}(h:bP a.1 a.2=bP b.1 b.2):a=b:=by unfold bP at h;injection h with h1 h2;injection h2 with h2 _;exact Prod.ext (Sum.inl.inj h1) (Sum.inl.inj h2)
noncomputable def iW(tb:Tb)(s:P2):Option S2:=(tb.find? λr=>decide (r.1=s)).map (·.2)
noncomputable def g9(tb:Tb)(s:P2)(w:S2):Tb:=if (tb.any λr=>decide (r.1=s))=true then tb.map (λr=>if r.1=s then (r.1,w) else r) else tb++[(s,w)]
noncomputable def rg(tb:Tb)(s:P2):Tb:=tb.filter λr=>decide (r.1≠s)
def bp(H:Hp):List (List Key × V)->Tb->Prop
 | [],[]=>True
 | kv::kvs,r::tb=>(kv.1=bP r.1.1 r.1.2/\aR H kv.2 r.2.1 r.2.2)/\bp H kvs tb
 | _,_=>False
section
theorem bp.len:∀ {kvs:List (List Key × V)} {tb:Tb},bp H kvs tb->kvs.length=tb.length
 | [],[],_=>rfl
 | _::kvs,_::tb,h=>congrArg (· + 1) (bp.len (kvs:=kvs) (tb:=tb) h.2)
 | [],_::_,h=>h.elim
 | _::_,[],h=>h.elim
theorem bp.imp(f:∀ v a b,aR H v a b->aR H' v a b):∀ {kvs:List (List Key × V)} {tb:Tb},bp H kvs tb->bp H' kvs tb
 | [],[],_=>trivial
 | _::kvs,_::tb,h=>#[#[h.1.1,f _ _ _ h.1.2],bp.imp f (kvs:=kvs) (tb:=tb) h.2]
 | [],_::_,h=>h.elim
 | _::_,[],h=>h.elim
theorem bp.app:∀ {kvs uh:List (List Key × V)} {tb bS:Tb},bp H kvs tb->bp H uh bS->bp H (kvs++uh) (tb++bS)
 | [],_,[],_,_,h=>h
 | _::kvs,uh,_::tb,bS,h,h'=>#[h.1,bp.app (kvs:=kvs) (tb:=tb) h.2 h']
 | [],_,_::_,_,h,_=>h.elim
 | _::_,_,[],_,h,_=>h.elim
theorem bp.keys:∀ {kvs:List (List Key × V)} {tb:Tb},bp H kvs tb->kvs.map (·.1)=tb.map λr=>bP r.1.1 r.1.2
 | [],[],_=>rfl
 | kv::kvs,r::tb,h=>by rw[adU,adU,h.1.1,bp.keys (kvs:=kvs) (tb:=tb) h.2]
 | [],_::_,h=>h.elim
 | _::_,[],h=>h.elim
theorem bp.any(s:P2):∀ {kvs:List (List Key × V)} {tb:Tb},bp H kvs tb->(kvs.any λkv=>decide (kv.1=bP s.1 s.2))=tb.any λr=>decide (r.1=s)
 | [],[],_=>rfl
 | kv::kvs,r::tb,h=>by
  rw[aeC,aeC,bp.any s (kvs:=kvs) (tb:=tb) h.2,h.1.1]
  congr 1
  by_cases e:r.1=s
  .rw[e,decide_eq_true Y,decide_eq_true Y]
  .rw[decide_eq_false e,decide_eq_false λz=>e (xB z)]
 | [],_::_,h=>h.elim
 | _::_,[],h=>h.elim
theorem bp.val(s:P2):∀ {kvs:List (List Key × V)} {tb:Tb},bp H kvs tb->(iW tb s=O->dB kvs (bP s.1 s.2)=O)/\∀ w,iW tb s=U w->∃ v,dB kvs (bP s.1 s.2)=U v/\aR H v w.1 w.2
 | [],[],_=>#[λy=>rfl,λw h=>by cases h]
 | kv::kvs,r::tb,h=>by
  have ih:=bp.val s (kvs:=kvs) (tb:=tb) h.2;by_cases e:r.1=s
  .have e1:iW (r::tb) s=U r.2:=by simp[iW,afc,e]
   rw[e1,xq (h.1.1.trans (by rw[e]))];exact#[λz=>(by cases z),λw z=>(by cases z;exact#[_,Y,h.1.2])]
  .have e1:iW (r::tb) s=iW tb s:=by simp[iW,afc,e]
   rw[e1,xr (λz=>e (xB (h.1.1.symm.trans z)))];exact ih
 | [],_::_,h=>h.elim
 | _::_,[],h=>h.elim
theorem bp.qV(hv:aR H v w.1 w.2):∀ {kvs:List (List Key × V)} {tb:Tb},bp H kvs tb->bp H (kvs.map λkv=>if kv.1=bP s.1 s.2 then (kv.1,v) else kv) (tb.map λr=>if r.1=s then (r.1,w) else r)
 | [],[],_=>trivial
 | kv::kvs,r::tb,h=>by
  rw[adU,adU];refine#[?_,bp.qV hv (kvs:=kvs) (tb:=tb) h.2];by_cases e:r.1=s
  .rw[if_pos e,if_pos (h.1.1.trans (by rw[e]))];exact#[h.1.1,hv]
  .rw[if_neg e,if_neg (λz=>e (xB (h.1.1.symm.trans z)))];exact h.1
 | [],_::_,h=>h.elim
 | _::_,[],h=>h.elim
theorem bp.put(h:bp H kvs tb)(hv:aR H v w.1 w.2):bp H (putK kvs (bP s.1 s.2) v) (g9 tb s w):=by
 unfold putK g9;rw[h.any s];split
 .exact h.qV hv
 .exact h.app #[#[Y,hv],trivial]
theorem bp.drop:∀ {kvs:List (List Key × V)} {tb:Tb},bp H kvs tb->bp H (kj kvs (bP s.1 s.2)) (rg tb s)
 | [],[],_=>trivial
 | kv::kvs,r::tb,h=>by
  have ih:=bp.drop (s:=s) (kvs:=kvs) (tb:=tb) h.2;unfold kj rg at *;rw[aee,aee];by_cases e:r.1=s
  .have e2:kv.1=bP s.1 s.2:=h.1.1.trans (by rw[e]);rw[if_neg (by simp[e2]),if_neg (by simp[e])];exact ih
  .have e2:¬ kv.1=bP s.1 s.2:=λz=>e (xB (h.1.1.symm.trans z));rw[if_pos (by simp[e2]),if_pos (by simp[e])];exact#[h.1,ih]
 | [],_::_,h=>h.elim
 | _::_,[],h=>h.elim
theorem bp.xC:∀ {ys:List V} {kvs:List (List Key × V)} {tb:Tb},bp H kvs tb->km H ys kvs->iu H ys (tb.map (·.1))
 | [],[],[],_,_=>trivial
 | y::ys,kv::kvs,r::tb,h,⟨⟨a,e,ha⟩,t⟩=>#[#[a,e,by rw[h.1.1] at ha;exact ha],bp.xC (ys:=ys) (kvs:=kvs) (tb:=tb) h.2 t]
 | [],_::_,_,_,h=>h.elim
 | _::_,[],_,_,h=>h.elim
 | _,[],_::_,h,_=>h.elim
 | _,_::_,[],h,_=>h.elim
end
def TabAt(H:Hp)(p:adK)(tb:Tb):Prop:=∃ kvs,H p=U (.dT kvs)/\bp H kvs tb
def Fr(H H':Hp):Prop:=∀ b o,(∀ kvs,o≠HO.dT kvs)->H b=U o->H' b=U o
def mz(ps:List adK)(H H':Hp):Prop:=∀ b o,b∉ps->H b=U o->H' b=U o
def xD(H:Hp)(ps:List adK):Prop:=∀ p∈ps,∃ kvs,H p=U (.dT kvs)
section
theorem Fr.trans(a:Fr H H')(b:Fr H' H2):Fr H H2:=λc o h e=>b c o h (a c o h e)
theorem _root_.L2.ai.fr(s:ai H H'):Fr H H':=λb o y e=>s b o e
theorem SameBut.but(a:SameBut p H H')(h:p∈ps):mz ps H H':=λc o z e=>a c o (λy=>z (y ▸ h)) e
theorem mz.fr(a:mz ps H H')(d:xD H ps):Fr H H':=λb o ho e=>by
 by_cases hb:b∈ps
 .obtain⟨kvs,hk⟩:=d b hb;rw[hk] at e;exact absurd (Option.some.inj e).symm (ho kvs)
 .exact a b o hb e
theorem A1(h:H p=U (.dT kvs)):Fr H (upd H p o):=λb u hu e=>by rw[aK (λz=>by rw[z,h] at e;exact hu _ (Option.some.inj e).symm)];exact e
theorem IA(h:H p=U (.dT kvs)):xD H [p]:=λb hb=>#[kvs,(ad8.mp hb) ▸ h]
theorem SameBut.fr(a:SameBut p H H')(h:H p=U (.dT kvs)):Fr H H':=mz.fr (SameBut.but a (.head _)) (IA h)
theorem aR.fr(h:aR H v a b)(f:Fr H H'):aR H' v a b:=let ⟨p,e,hp⟩:=h;#[p,e,f _ _ (λy z=>nomatch z) hp]
theorem TabAt.fr(h:TabAt H p tb)(f:Fr H H')(e:∀ kvs,H p=U (.dT kvs)->H' p=U (.dT kvs)):TabAt H' p tb:=let ⟨kvs,a,b⟩:=h;#[kvs,e _ a,b.imp λy y y z=>z.fr f]
theorem TabAt.same(h:TabAt H p tb)(s:ai H H'):TabAt H' p tb:=h.fr s.fr λy e=>s _ _ e
end
theorem xE(hn:(tb.map (·.1)).Nodup)(h:r∈tb):iW tb r.1=U r.2:=by
 induction tb with
 | nil=>cases h
 | cons x l ih =>
  rw[adU,aeB] at hn;rcases adL.mp h with z|z
  .rw[<- z];simp[iW,afc]
  .have e:¬ x.1=r.1:=λy=>hn.1 (y ▸ adP.mpr #[r,z,Y]);have:iW (x::l) r.1=iW l r.1:=by simp[iW,afc,e]
   rw[this,ih hn.2 z]
def jB(e t:Int)(s:P2):Prop:=(0<=s.1/\s.1<e)/\0<=s.2/\s.2<t
instance (e t:Int) (s:P2):Decidable (jB e t s):=by unfold jB;infer_instance
def cj(e t:Int)(tb:Tb):Prop:=(tb.map (·.1)).Nodup/\∀ r∈tb,jB e t r.1
theorem xF(tb:Tb)(s:P2)(w:S2):(g9 tb s w).length<=tb.length+1:=by unfold g9;split<;>simp
theorem cj.put(h:cj e t tb)(hs:jB e t s):cj e t (g9 tb s w):=by
 unfold g9;split
 .refine#[?_,λr hr=>?_]
  .have:(tb.map λr=>if r.1=s then (r.1,w) else r).map (·.1)=tb.map (·.1):=by rw[aev];refine afh λr _=>?_;show (if r.1=s then (r.1,w) else r).1=r.1;split<;>rfl
   rw[this];exact h.1
  .obtain⟨x,hx,rfl⟩:=adP.mp hr;have:=h.2 x hx;split<;>exact this
 .rename_i z;refine#[?_,λr hr=>?_]
  .rw[afb];refine HW h.1 λy=>z ?_;obtain⟨x,hx,e⟩:=adP.mp y;rw[aez];exact#[x,hx,by simpa using e]
  .rcases aec.mp hr with y|y
   .exact h.2 r y
   .rw[ad8.mp y];exact hs
theorem cj.drop(h:cj e t tb):cj e t (rg tb s) :=
 #[h.1.sublist ((ajX).map _),λr hr=>h.2 r (ael.mp hr).1]
theorem cj.nil:cj e t []:=#[ahk,λr h=>by cases h]
noncomputable def k8(tb:Tb):List (List Int):=tb.map λr=>[r.1.1,r.1.2]
noncomputable def nI(tb:Tb):Tb:=eR (k8 tb) ((0,0),(O,O)) tb
theorem xG(h:r∈nI tb):r∈tb:=qS.mem_iff.mp h
theorem rh:(nI tb).length=tb.length:=HD
theorem ay.sort(h:ay R xs as):ay R (eR kis .non xs) (eR kis d as):=by
 have hl:=h.len;have hp:=(qQ (n:=xs.length) (oX kis)).1;unfold eR;rw[<- hl];have gen:∀ l:List Nat,(∀ i∈l,i<xs.length)->ay R (l.map λi=>xs.getD i .non) (l.map λi=>as.getD i d):=by
  intro l
  induction l with
  | nil=>intro y;exact trivial
  | cons i l ih =>
   intro q;have hi:=q i (.head _);obtain⟨s,es,hs⟩:=h.get (adC hi);refine#[?_,ih λj hj=>q j (.tail _ hj)];show R (xs.getD i .non) (as.getD i d);rw[adB,adB,es,adC hi];exact hs
 exact gen _ λi hi=>by simpa using hp.mem_iff.mp hi
theorem ay.bind:∀ {xs:List V} {bs:List β},ay R xs (bs.map f)->ay (λx b=>R x (f b)) xs bs
 | [],[],_=>trivial
 | _::_,_::_,h=>#[h.1,ay.bind h.2]
 | [],_::_,h=>h.elim
 | _::_,[],h=>h.elim
theorem ay.IB:∀ {xs:List V} {bs:List β},ay (λx b=>R x (f b)) xs bs->ay R xs (bs.map f)
 | [],[],_=>trivial
 | _::_,_::_,h=>#[h.1,ay.IB h.2]
 | [],_::_,h=>h.elim
 | _::_,[],h=>h.elim
theorem Th(h:bp H kvs tb):kvs.map (·.1)=(k8 tb).map λk=>k.map ahL:=by rw[h.keys];unfold k8;rw[aev];rfl
theorem Ti:∀ k∈k8 tb,k≠[]:=λk hk=>by
 obtain⟨r,y,rfl⟩:=adP.mp hk;exact λz=>nomatch z
theorem Tj(h:bp H kvs tb)(hk:km H ys kvs):ay (λx (r:P2 × S2)=>eQ H x r.1) (eR (k8 tb) .non ys) (nI tb):=ay.sort (ay.bind (h.xC hk))
def lg(H:Hp)(v:V)(r:P2 × S2):Prop:=∃ a w,v = .ref a/\H a=U (.tup [.int r.1.1,.int r.1.2,w])/\aR H w r.2.1 r.2.2
theorem lg.same(h:lg H v r)(s:ai H H'):lg H' v r:=let ⟨a,w,e,ha,hw⟩:=h;#[a,w,e,s _ _ ha,hw.same s]
noncomputable def nJ(i j:Int):Int:=reduceHash (Builtin.Tuple.tupleHashOf [aiJ i,aiJ j])
theorem Tp(P:aek)(w:aeS)(i j:Int):agk (cT P w) (bP i j)=nJ i j:=by unfold agk nJ bP;rw[adU,adU,af2];rw[show (cT P w).hash (ahL i)=aiJ i from Y,show (cT P w).hash (ahL j)=aiJ j from Y]
theorem Tq:((adM 84).all λa=>(adM 84).all λb=>!(nJ ((a / 12:Nat):Int) ((a % 12:Nat):Int) == nJ ((b / 12:Nat):Int) ((b % 12:Nat):Int)) || a == b)=true:=by decide +kernel
theorem Ts(ha:jB 7 12 a)(hb:jB 7 12 b)(h:nJ a.1 a.2=nJ b.1 b.2):a=b:=by
 obtain⟨⟨a1,a2⟩,a3,a4⟩:=ha;obtain⟨⟨b1,b2⟩,b3,b4⟩:=hb;have h1:=aeM.mp Tq (a.1.toNat * 12+a.2.toNat) (ad0.mpr (by lia));have h2:=aeM.mp h1 (b.1.toNat * 12+b.2.toNat) (ad0.mpr (by lia));have ea:(((a.1.toNat * 12+a.2.toNat) / 12:Nat):Int)=a.1:=by lia
 have Tt:(((a.1.toNat * 12+a.2.toNat) % 12:Nat):Int)=a.2:=by lia
 have eb:(((b.1.toNat * 12+b.2.toNat) / 12:Nat):Int)=b.1:=by lia
 have Tu:(((b.1.toNat * 12+b.2.toNat) % 12:Nat):Int)=b.2:=by lia
 rw[ea,Tt,eb,Tu,h] at h2;simp only[beq_self_eq_true,ahJ,aj9,beq_iff_eq] at h2;exact Prod.ext (by lia) (by lia)
theorem IC:∀ {kvs:List (List Key × V)} {tb:Tb},bp H kvs tb->(kvs.map λkv=>agk (cT P w) kv.1)=tb.map λr=>nJ r.1.1 r.1.2
 | [],[],_=>af2.trans af2.symm
 | kv::kvs,r::tb,h=>by have ih:=IC (P:=P) (w:=w) (kvs:=kvs) (tb:=tb) h.2;have h1:=Tp P w r.1.1 r.1.2;rw[<- h.1.1] at h1;rw[adU,adU,ih,h1]
 | [],_::_,h=>h.elim
 | _::_,[],h=>h.elim
theorem ID(he:e<=7)(ht:t<=12):∀ {tb:Tb},cj e t tb->(tb.map λr=>nJ r.1.1 r.1.2).Nodup
 | [],_=>by rw[af2];exact ahk
 | x::l,ok=>by
  have h7:∀ r∈x::l,jB 7 12 r.1:=λr hr=>by obtain⟨⟨a,b⟩,c,d⟩:=ok.2 r hr;exact#[#[a,by lia],c,by lia]
  have nd:=ok.1;rw[adU,aeB] at nd;rw[adU,aeB];refine#[λz=>?_,ID he ht (tb:=l) #[nd.2,λr hr=>ok.2 r (.tail _ hr)]];obtain⟨y,hy,ey⟩:=adP.mp z;have:=Ts (h7 y (.tail _ hy)) (h7 x (.head _)) ey;exact nd.1 (adP.mpr #[y,hy,this])
theorem IE(h:bp H kvs tb)(ok:cj e t tb)(he:e<=7)(ht:t<=12):(kvs.map λkv=>agk (cT P w) kv.1).Nodup:=by rw[IC h];exact ID he ht ok
theorem Tv(h:bj a b=true):bj (dS a c) (eS b d)=true:=by rcases a with v|x<;>rcases b with v|y<;>rcases c with v|z<;>rcases d with v|w<;>simp[bj,dS,eS] at h ⊢<;>lia
noncomputable def bC(e:S2)(ss:List S2):S2:=ss.foldl (λe s=>(dS e.1 s.1,eS e.2 s.2)) e
theorem xH(e s:S2)(ss:List S2):bC e (s::ss)=bC (dS e.1 s.1,eS e.2 s.2) ss:=rfl
theorem IF:∀ (ss:List S2) {e:S2},bj e.1 e.2=true->bj (bC e ss).1 (bC e ss).2=true
 | [],_,h=>h
 | s::ss,e,h=>by rw[xH];exact IF ss (Tv h)
theorem Tw(h:bj (bC e (ss.take i)).1 (bC e (ss.take i)).2=true):bj (bC e ss).1 (bC e ss).2=true:=by
 have:bC e ss=bC (bC e (ss.take i)) (ss.drop i):=by unfold bC;rw[<- aiE,afP]
 rw[this];exact IF _ h
theorem Tz{ss:List S2}{e s:S2}{i:Nat}(h:ss[i]?=U s):bC e (ss.take (i+1))=(dS (bC e (ss.take i)).1 s.1,eS (bC e (ss.take i)).2 s.2):=by unfold bC;rw[aeQ,h,aiE];rfl
noncomputable def gd(e:S2)(ss:List S2):W2:=if bj (bC e ss).1 (bC e ss).2=true then O else U (bC e ss)
theorem lj:∀ {xs:List V} {ss:List S2},mw H xs ss↔ay (λx s=>aR H x s.1 s.2) xs ss
 | [],[]=>Iff.rfl
 | _::_,_::_=>and_congr Iff.rfl lj
 | [],_::_=>Iff.rfl
 | _::_,[]=>Iff.rfl
abbrev Pa:=Str × Int × S2
def jC(H:Hp)(v:V)(p:Pa):Prop:=∃ (t q:adK),v = .ref t/\H t=U (.tup [.str p.1,.int p.2.1,.ref q])/\H q=U (.tup [ev p.2.2.1,ev p.2.2.2])
theorem jC.same(h:jC H v p)(s:ai H H'):jC H' v p:=let ⟨t,q,e,a,b⟩:=h;#[t,q,e,s _ _ a,s _ _ b]
abbrev da(H:Hp):List V->List Pa->Prop:=ay (jC H)
theorem da.same(h:da H xs ps)(s:ai H H'):da H' xs ps:=ay.imp (λy y r=>r.same s) h
theorem jC.fr(h:jC H v p)(hr:H r=U (.lst ys)):jC (upd H r o) v p:=by
 obtain⟨t,q,e,a,b⟩:=h;have h1:t≠r:=λz=>by rw[z,hr] at a;cases a
 have h2:q≠r:=λz=>by rw[z,hr] at b;cases b
 exact#[t,q,e,by rw[aK h1];exact a,by rw[aK h2];exact b]
theorem da.put(h:da H xs ps)(hr:H r=U (.lst ys)):da (upd H r o) xs ps:=ay.imp (λy y x=>x.fr hr) h
noncomputable def lp(k:Str)(t:Int)(p:Pa):Bool:=decide (p.1=k) && decide (p.2.1=t)
noncomputable def sel(ps:List Pa)(k:Str)(t:Int):List S2:=(ps.filter (lp k t)).map (·.2.2)
noncomputable def hasB(n:Int)(k:Str)(t:Int):Bool:=if k = "step" then decide (0<=t/\t<n) && decide (0<=t+1/\t+1<n) else decide (k = "at") && decide (0<=t/\t<n)
def cc(n:Int)(ps:List Pa):Prop:=∀ p∈ps,hasB n p.1 p.2.1=true
theorem xI:hasB n "step" t=true↔0<=t/\t+1<n:=by unfold hasB;rw[if_pos Y];simp only[aew,decide_eq_true_eq];lia
theorem IG{n t:Int}{k:Str}(h:k ≠ "step"):hasB n k t=true↔k = "at" /\ 0<=t/\t<n:=by unfold hasB;rw[if_neg h];simp only[aew,decide_eq_true_eq]
noncomputable def mC(cs:List Int)(k:Str)(t:Int):Int:=if k = "step" then cs.getD (t+1).toNat 0-cs.getD t.toNat 0 else cs.getD t.toNat 0
noncomputable def aM(cs:List Int)(ps:List Pa):Bool:=ps.all λp=>hold p.2.2.1 p.2.2.2 (mC cs p.1 p.2.1)
theorem int_at{cs:List Int}{t:Int}(h0:0<=t)(h1:t<(cs.length:Int)):dw (cs.map V.int) t=U (.int (cs.getD t.toNat 0)):=by
 have e:t=((t.toNat:Nat):Int):=by lia
 refine (congrArg (dw _) e).trans (dQ ?_);rw[adR,adB,adC (by lia)];rfl
structure Gd(n:Nat)(d:ahp):Prop where
 eqv:aga d d=true
 lay:d.canLay0=true
 dep:d.depth<=n
theorem Gd.up(h:Gd n d)(hm:n<=m):Gd m d:=#[h.eqv,h.lay,adG h.dep hm]
theorem Gd.of(h:jy n d=true):Gd n d:=let ⟨a,b,c⟩:=Hk d h;#[a,b,c]
theorem Gd.str(h:ajt x=true):Gd 0 (.str x):=#[by simp[aga],by simpa [ahi] using h,adJ _]
theorem Gd.int(i:Int):Gd 0 (.int i):=.of rfl
theorem Gd.all:∀ {ds:List ahp} {n:Nat},(∀ d∈ds,Gd n d)->aiR ds ds=true/\ahe ds=true/\ahW ds<=n
 | [],n,_=>#[Y,Y,ad6 _]
 | d::ds,n,h=>by obtain⟨a,b,c⟩:=h d (.head _);obtain⟨a',b',c'⟩:=Gd.all (ds:=ds) λx hx=>h x (.tail _ hx);exact#[by simp only[aiR,a,a',aiS],by simp only[ahe,b,b',aiS],by simp only[ahW];lia]
theorem Gd.lst(h:∀ d∈ds,Gd n d):Gd (n+1) (.list ds):=by obtain⟨a,b,c⟩:=Gd.all h;exact#[by simpa only [aga] using a,by simpa only [ahi] using b,by simp only[PyData.depth];lia]
theorem Gd.tup(h:∀ d∈ds,Gd n d):Gd (n+1) (.tuple ds):=by obtain⟨a,b,c⟩:=Gd.all h;exact#[by simpa only [aga] using a,by simpa only [ahi] using b,by simp only[PyData.depth];lia]
theorem TC{K:adz}{H:Hp}{x y:V}{d:ahp}{n:Nat}{neg:Bool}{Q:VK}(hx:Dat K H x d)(hy:Dat K H y d)(g:Gd n d)(hn:n<=60)(q:Q (.bl (!neg)) H):Hg K neg x y H Q:=by refine#[d,d,hx,hy,g.lay,g.lay,adG g.dep hn,?_];rw[g.eqv];cases neg<;>exact q
theorem rj(b7:Ok H):∀ {xs:List V} {as:List α} {ys:List V},ay R xs as ->
 (∀ x a,R x a->∀ Q,Q (p a) H->tt (U x::ρ) H Q)->(∀ x a,p a=true->R x a->∀ Q:VK,(∀ y,R' y (f a)->Q y H)->te (U x::ρ) H Q)->(∀ zs,ay R' zs ((as.filter p).map f)->Q' (ys++zs) H)->fK Ok ρ tt te xs ys H Q'
 | [],[],ys,_,_,_,q=>#[b7,by simpa using q [] trivial]
 | x::xs,a::as,ys,h,ht,he,q=>by
  refine#[b7,ht x a h.1 _ ?_];by_cases hb:p a=true
  .rw[if_pos hb];refine he x a hb h.1 _ λy ry=>rj b7 h.2 ht he λzs hz=>?_;have:=q (y::zs) (by rw[aee,if_pos hb];exact#[ry,hz]);simpa using this
  .rw[if_neg hb];refine rj b7 h.2 ht he λzs hz=>q zs ?_;rw[aee,if_neg hb];exact hz
 | [],_::_,_,h,_,_,_=>h.elim
 | _::_,[],_,h,_,_,_=>h.elim
theorem TF{K:adz}{i j k:Nat}{p:adK}{x y z:V}{G:L2.St}{H:Hp}{Q:L2.St->Hp->Prop}(h:ak K H p [x,y,z])(q:Q (((G.set i (U x)).set j (U y)).set k (U z)) H):lW K 3 (dO (cH i) (dO (cH j) (dO (cH k) kP))) (.ref p) G H Q :=
 #[p,_,Y,h,Y,_,_,Y,_,_,Y,_,_,Y,Y,q]
theorem rk(hx:H x=O)(hd:H dx=O)(hn:dx≠x):ai H (upd (upd H dx (.own x)) x (.ins C dx fs)) :=
 (ao hd).trans (ao (by rw[aK (aey hn)];exact hx))
end Gz
namespace Gz
open PySem L2
def b8(s:S2)(x:Int):Prop:=(∀ a,s.1=U a->a<=x)/\∀ b,s.2=U b->x<=b
def d8(w:W2)(x:Int):Prop:=∃ s,w=U s/\b8 s x
theorem A2:b8 s x↔hold s.1 s.2 x=true:=gY.symm
theorem A3:b8 (dS a.1 b.1,eS a.2 b.2) x↔b8 a x/\b8 b x:=by obtain⟨a1,a2⟩:=a;obtain⟨b1,b2⟩:=b;unfold b8;rcases a1 with y|p<;>rcases a2 with y|q<;>rcases b1 with y|r<;>rcases b2 with y|s<;>simp[dS,eS]<;>(try split)<;>(try split)<;>lia
theorem IH:∀ {e:S2},b8 (bC e ss) x↔b8 e x/\∀ s∈ss,b8 s x:=by
 induction ss with
 | nil=>intro e;exact#[λh=>#[h,λy z=>nomatch z],λh=>h.1]
 | cons s ss ih =>
  intro e;rw[xH,ih,A3];simp only[adL,forall_eq_or_imp,and_assoc]
theorem TH(h:bj s.1 s.2=false):∃ x,b8 s x:=by
 obtain⟨a,b⟩:=s;rcases a with y|a<;>rcases b with y|b
 .exact#[0,λy z=>(nomatch z),λy z=>(nomatch z)]
 .exact#[b,λy z=>(nomatch z),λy z=>by cases z;exact aeW _]
 .exact#[a,λy z=>by cases z;exact aeW _,λy z=>(nomatch z)]
 .refine#[a,λy z=>by cases z;exact aeW _,λy z=>?_];cases z;simp[bj] at h;exact h
theorem II(h:b8 s x):bj s.1 s.2=false:=by
 obtain⟨a,b⟩:=s;rcases a with y|a<;>rcases b with y|b
 .rfl
 .rfl
 .rfl
 .have h1:=h.1 a rfl;have h2:=h.2 b rfl;simp[bj];lia
noncomputable def jD(a b:S2):W2:=if bj (dS a.1 b.1) (eS a.2 b.2)=true then O else U (dS a.1 b.1,eS a.2 b.2)
theorem rm:d8 (jD a b) x↔b8 a x/\b8 b x:=by
 unfold jD;constructor
 .rintro ⟨s,e,h⟩;split at e
  .cases e
  .cases e;exact A3.mp h
 .intro h;have h:=A3.mpr h;rw[if_neg (by rw[II h];simp)];exact#[_,Y,h]
theorem IJ(h:jD a b=U s):bj s.1 s.2=false:=by
 unfold jD at h;split at h
 .cases h
 .rename_i hc;cases h;simpa using hc
theorem xJ:d8 (gd (O,O) ss) x ↔ ∀ s∈ss,b8 s x:=by
 have e0:b8 (O,O) x:=#[λy z=>(nomatch z),λy z=>(nomatch z)]
 unfold gd;constructor
 .rintro ⟨s,e,h⟩;split at e
  .cases e
  .cases e;exact (IH.mp h).2
 .intro h;have h:=IH.mpr #[e0,h];rw[if_neg (by rw[II h];simp)];exact#[_,Y,h]
noncomputable def gf(s:S2)(p:P2):S2:=(s.1.map (· + p.1),s.2.map (· + p.2))
theorem A4(h:b8 s x)(h1:p.1<=y-x)(h2:y-x<=p.2):b8 (gf s p) y:=by
 obtain⟨a,b⟩:=s;refine#[λz e=>?_,λz e=>?_]
 .obtain⟨a,ea,rfl⟩:=aeh.mp (show a.map (· + p.1)=U z from e);have:=h.1 a ea;lia
 .obtain⟨b,eb,rfl⟩:=aeh.mp (show b.map (· + p.2)=U z from e);have:=h.2 b eb;lia
theorem TJ(hs:bj s.1 s.2=false)(hp:p.1<=p.2)(h:b8 (gf s p) y):∃ x,b8 s x/\p.1<=y-x/\y-x<=p.2:=by
 obtain⟨a,b⟩:=s;rcases a with v|a<;>rcases b with v|b
 .exact#[y-p.1,#[λv z=>(nomatch z),λv z=>(nomatch z)],by lia,by lia]
 .have h2:=h.2 (b+p.2) rfl;exact#[y-p.2,#[λv z=>(nomatch z),λv z=>by cases z;lia],by lia,by lia]
 .have h1:=h.1 (a+p.1) rfl;exact#[y-p.1,#[λv z=>by cases z;lia,λv z=>(nomatch z)],by lia,by lia]
 .have h1:=h.1 (a+p.1) rfl;have h2:=h.2 (b+p.2) rfl;simp[bj] at hs;by_cases hc:a<=y-p.2
  .exact#[y-p.2,#[λv z=>by cases z;lia,λv z=>by cases z;lia],by lia,by lia]
  .exact#[a,#[λv z=>by cases z;lia,λv z=>by cases z;lia],by lia,by lia]
noncomputable def bG(bx:Nat->W2)(st:Nat->P2):Nat->W2
 | 0=>bx 0
 | t+1=>match bx (t+1),bG bx st t with
  | some b,U k=>jD b (gf k (st t))
  | _,_=>O
def uj(w:W2):Prop:=∀ s,w=U s->bj s.1 s.2=false
theorem xK(h0:uj (bx 0)):∀ t,uj (bG bx st t)
 | 0=>h0
 | t+1=>λs e=>by
  unfold bG at e;split at e
  .exact IJ e
  .cases e
theorem IK(h:bG bx st (t+1)=U s):∃ b k,bx (t+1)=U b/\bG bx st t=U k/\jD b (gf k (st t))=U s:=by
 unfold bG at h;split at h
 .rename_i b k e1 e2;exact#[b,k,e1,e2,h]
 .cases h
theorem IL{bx:Nat->W2}{st:Nat->P2}{c:Nat->Int}{n:Nat}(hb:∀ t,t<=n->d8 (bx t) (c t))(hs:∀ t,t<n->(st t).1<=c (t+1)-c t/\c (t+1)-c t<=(st t).2):∀ t,t<=n->d8 (bG bx st t) (c t)
 | 0,h=>hb 0 h
 | t+1,h=>by obtain⟨k,ek,hk⟩:=IL hb hs t (by lia);obtain⟨b,eb,A5⟩:=hb (t+1) h;obtain⟨h1,h2⟩:=hs t (by lia);unfold bG;rw[eb,ek];exact rm.mpr #[A5,A4 hk h1 h2]
theorem A6:∀ {t:Nat},d8 (bG bx st t) x->d8 (bx t) x
 | 0,h=>h
 | t+1,⟨s,e,h⟩=>by obtain⟨b,k,e1,y,e3⟩:=IK e;exact#[b,e1,(rm.mp #[s,e3,h]).1]
theorem IM(h0:uj (bx 0))(hp:(st t).1<=(st t).2)(h:d8 (bG bx st (t+1)) y):∃ x,d8 (bG bx st t) x/\(st t).1<=y-x/\y-x<=(st t).2:=by obtain⟨s,e,h⟩:=h;obtain⟨b,k,z,e2,e3⟩:=IK e;obtain⟨x,hx,h1,h2⟩:=TJ (xK h0 t k e2) hp (rm.mp #[s,e3,h]).2;exact#[x,#[k,e2,hx],h1,h2]
noncomputable def jE(n:Nat)(st:Nat->P2)(t:Nat):P2:=(-(st (n-1-t)).2,-(st (n-1-t)).1)
noncomputable def iA(n:Nat)(bx:Nat->W2)(st:Nat->P2)(t:Nat):W2:=bG (λk=>bG bx st (n-k)) (jE n st) (n-t)
structure xM(n:Nat)(bx:Nat->W2)(st:Nat->P2):Prop where
 ok:∀ t,t<=n->∃ s,iA n bx st t=U s/\bj s.1 s.2=false
 sub:∀ t x,t<=n->d8 (iA n bx st t) x->d8 (bx t) x
 next:∀ t x,t<n->d8 (iA n bx st t) x->∃ y,d8 (iA n bx st (t+1)) y/\(st t).1<=y-x/\y-x<=(st t).2
theorem TK(h0:uj (bx 0))(hp:∀ t,t<n->(st t).1<=(st t).2)(hf:∀ t,t<=n->bG bx st t≠O):xM n bx st:=by
 have A7:=xK (st:=st) h0;have TL:∀ k,k<=n->∃ s,bG (λk=>bG bx st (n-k)) (jE n st) k=U s:=by
  intro k
  induction k with
  | zero =>
   intro v;obtain⟨s,e⟩:=ah8.mp (hf n (adJ _));exact#[s,e]
  | succ k ih =>
   intro hk;obtain⟨s,e⟩:=ih (by lia);obtain⟨y,hy⟩:=TH (xK (bx:=λk=>bG bx st (n-k)) (A7 n) k s e);have IP:d8 (bG bx st (n-k)) y:=A6 (bx:=λk=>bG bx st (n-k)) #[s,e,hy];rw[show n-k=n-(k+1)+1 by lia] at IP;obtain⟨x,⟨f,ef,hx⟩,h1,h2⟩:=IM h0 (hp _ (by lia)) IP;have em:n-1-k=n-(k+1):=by lia
   have hm:b8 (gf s (jE n st k)) x:=A4 hy (by unfold jE;rw[em];dsimp only;lia) (by unfold jE;rw[em];dsimp only;lia);obtain⟨z,ez,v⟩:=rm.mpr #[hx,hm];refine#[z,?_];unfold bG;rw[e];show (match bG bx st (n-(k+1)),U s with
    | some b,U TM=>jD b (gf TM (jE n st k))
    | _,_=>O)=U z
   rw[ef];exact ez
 refine#[λt ht=>?_,λt x ht h=>?_,λt x ht h=>?_]
 .obtain⟨s,e⟩:=TL (n-t) (by lia);exact#[s,e,xK (bx:=λk=>bG bx st (n-k)) (A7 n) _ s e]
 .have:=A6 (bx:=λk=>bG bx st (n-k)) h;rw[show n-(n-t)=t by lia] at this;exact A6 this
 .unfold iA at h;rw[show n-t=n-(t+1)+1 by lia] at h;have hb:(jE n st (n-(t+1))).1<=(jE n st (n-(t+1))).2:=by unfold jE;have:=hp (n-1-(n-(t+1))) (by lia);lia
  obtain⟨y,hy,h1,h2⟩:=IM (bx:=λk=>bG bx st (n-k)) (A7 n) hb h;have em:n-1-(n-(t+1))=t:=by lia
  unfold jE at h1 h2;exact#[y,hy,by lia,by lia]
def jF(ps:List P2)(c:Nat->Int):Prop:=∀ k,k<ps.length->(aN ps k).1<=c (k+1)-c k/\c (k+1)-c k<=(aN ps k).2
theorem A8(h:jF ps c):∀ n,i+n<=ps.length->pre (·.1) ps (i+n)-pre (·.1) ps i<=c (i+n)-c i/\c (i+n)-c i<=pre (·.2) ps (i+n)-pre (·.2) ps i
 | 0,_=>by simp
 | n+1,hn=>by have ih:=A8 h (i:=i) n (by lia);have hk:=h (i+n) (by lia);rw[show i+(n+1)=(i+n)+1 by lia,iz _ ps (by lia),iz _ ps (by lia)];lia
theorem TN(h:jF ps c)(hi:i<=ps.length)(hj:j<=ps.length):c j-c i<=bU ps i j:=by
 unfold bU;split
 .have:=(A8 h (i:=i) (j-i) (by lia)).2
  rwa [show i+(j-i)=j by lia] at this
 .have:=(A8 h (i:=j) (i-j) (by lia)).1;rw[show j+(i-j)=i by lia] at this;lia
abbrev Mk:=Nat × S2
def meets(ms:List Mk)(c:Nat->Int):Prop:=∀ m∈ms,b8 m.2 (c m.1)
structure mD(ps:List P2)(ms:List Mk)(tp:Nat->Option P2):Prop where
 val:∀ t v k,t<=ps.length->tp t=U (v,k)->∃ (i:Nat) (m:Mk) (h:Int),k=(i:Int)/\ms[i]?=U m/\m.2.2=U h/\h+bU ps m.1 t<=v
 top:∀ m∈ms,∀ h,m.2.2=U h->∃ v k,tp m.1=U (v,k)/\v<=h
 fwd:∀ t v k,t<ps.length->tp t=U (v,k)->∃ v' k',tp (t+1)=U (v',k')/\v'<=v+(aN ps t).2
 bwd:∀ t v k,t<ps.length->tp (t+1)=U (v,k)->∃ v' k',tp t=U (v',k')/\v'<=v-(aN ps t).1
def uk(ms:List Mk)(tp:Nat->Option P2):Prop:=∀ m∈ms,∀ l v k,m.2.1=U l->tp m.1=U (v,k)->l<=v
theorem TQ(hp:fM ps)(hm:∀ m∈ms,m.1<=ps.length)(T:mD ps ms tp)(hn:uk ms tp):∃ c,jF ps c/\meets ms c:=by
 by_cases h0:tp 0=O
 .have TR:∀ t,t<=ps.length->tp t=O:=by
   intro t
   induction t with
   | zero=>intro y;exact h0
   | succ t ih =>
    intro ht;cases e:tp (t+1) with
    | none=>rfl
    | some q =>
     obtain⟨v,k⟩:=q;obtain⟨v',k',e',y⟩:=T.bwd t v k (by lia) e;rw[ih (by lia)] at e';cases e'
  have TU:∀ m∈ms,m.2.2=O:=λm dJ=>by
   cases e:m.2.2 with
   | none=>rfl
   | some h =>
    obtain⟨v,k,e',y⟩:=T.top m dJ h e;rw[TR m.1 (hm m dJ)] at e';cases e'
  have big:∀ (l:List Mk),∃ M:Int,∀ m∈l,∀ a,m.2.1=U a->a<=M+pre (·.1) ps m.1:=by
   intro l
   induction l with
   | nil=>exact#[0,λy z=>nomatch z]
   | cons m l ih =>
    obtain⟨M,hM⟩:=ih;cases e:m.2.1 with
    | none =>
     refine#[M,λq hq a ha=>?_];rcases adL.mp hq with rfl|hq
     .rw[e] at ha;cases ha
     .exact hM q hq a ha
    | some b =>
     refine#[if M<=b-pre (·.1) ps m.1 then b-pre (·.1) ps m.1 else M,λq hq a ha=>?_];rcases adL.mp hq with rfl|hq
     .rw[e] at ha;cases ha;split<;>lia
     .have:=hM q hq a ha;split<;>lia
  obtain⟨M,hM⟩:=big ms;refine#[λt=>M+pre (·.1) ps t,λk hk=>?_,λm dJ=>#[λa ha=>hM m dJ a ha,λb hb=>?_]]
  .have:=hp _ (qO hk);dsimp only;rw[iz _ ps hk];lia
  .rw[TU m dJ] at hb;cases hb
 .have IQ:∀ t,t<=ps.length->∃ v k,tp t=U (v,k):=by
   intro t
   induction t with
   | zero =>
    intro y;obtain⟨⟨v,k⟩,e⟩:=ah8.mp h0;exact#[v,k,e]
   | succ t ih =>
    intro ht;obtain⟨v,k,e⟩:=ih (by lia);obtain⟨v',k',e',y⟩:=T.fwd t v k (by lia) e;exact#[v',k',e']
  refine#[λt=>((tp t).map (·.1)).getD 0,λk hk=>?_,λm dJ=>#[λa ha=>?_,λb hb=>?_]]
  .obtain⟨v,q,e⟩:=IQ k (by lia);obtain⟨v',q',e',h1⟩:=T.fwd k v q hk e;obtain⟨v2,q2,e2,h2⟩:=T.bwd k v' q' hk e';rw[e] at e2;cases e2;dsimp only;rw[e,e'];simp only[Option.map_some,agD];lia
  .obtain⟨v,q,e⟩:=IQ m.1 (hm m dJ);have:=hn m dJ a v q ha e;dsimp only;rw[e];exact this
  .obtain⟨v,q,e,h1⟩:=T.top m dJ b hb;dsimp only;rw[e];exact h1
def clash(ps:List P2)(a b:Mk):Prop:=∃ h l,a.2.2=U h/\b.2.1=U l/\h+bU ps a.1 b.1<l
theorem TV(hc:jF ps c)(hm:meets ms c)(ht:∀ m∈ms,m.1<=ps.length)(ha:a∈ms)(hb:b∈ms):¬ clash ps a b:=by rintro ⟨h,l,e1,e2,bc⟩;have h1:=(hm a ha).2 h e1;have h2:=(hm b hb).1 l e2;have h3:=TN hc (ht a ha) (ht b hb);lia
noncomputable def gC(a b:P2):Bool:=decide (a.1<b.1) || (decide (a.1=b.1) && decide (a.2<b.2))
noncomputable def gD(a b:P2):P2:=if gC b a=true then b else a
noncomputable def lq:Option P2->Option P2->Option P2
 | none,b=>b
 | some a,O=>U a
 | some a,U b=>U (gD a b)
theorem A9(a b:P2):(gD a b=a∨gD a b=b)/\(gD a b).1<=a.1/\(gD a b).1<=b.1:=by
 unfold gD gC;split
 .rename_i h;simp only[ahV,aew,decide_eq_true_eq] at h;exact#[.inr rfl,by lia,by lia]
 .rename_i h;simp only[ahV,aew,decide_eq_true_eq,not_or,not_and] at h;exact#[.inl rfl,by lia,by lia]
theorem IS(a b:Option P2):lq a b=a∨lq a b=b:=by
 rcases a with y|a<;>rcases b with y|b
 .exact .inl rfl
 .exact .inr rfl
 .exact .inl rfl
 .show U (gD a b)=U a∨U (gD a b)=U b;rcases (A9 a b).1 with h|h<;>rw[h]
  .exact .inl rfl
  .exact .inr rfl
def gh(a:Option P2)(v:Int):Prop:=∃ w k,a=U (w,k)/\w<=v
theorem TX(h:gh a v):gh (lq a b) v:=by
 obtain⟨w,k,rfl,hw⟩:=h;rcases b with y|b
 .exact#[w,k,Y,hw]
 .have:=(A9 (w,k) b).2.1;exact#[(gD (w,k) b).1,(gD (w,k) b).2,Y,by dsimp only at this;lia]
theorem Ba(h:gh b v):gh (lq a b) v:=by
 obtain⟨w,k,rfl,hw⟩:=h;rcases a with y|a
 .exact#[w,k,Y,hw]
 .have:=(A9 a (w,k)).2.2;exact#[(gD a (w,k)).1,(gD a (w,k)).2,Y,by dsimp only at this;lia]
noncomputable def rn(a:Option P2)(TY:Int):Option P2:=a.map λq=>(q.1+TY,q.2)
theorem IT(h:gh a v):gh (rn a b) (v+b):=by obtain⟨w,k,rfl,hw⟩:=h;exact#[w+b,k,Y,by lia]
def iB(ps:List P2)(ms:List Mk)(t:Nat)(a:Option P2):Prop:=∀ v k,a=U (v,k)->∃ (i:Nat) (m:Mk) (h:Int),k=(i:Int)/\ms[i]?=U m/\m.2.2=U h/\h+bU ps m.1 t<=v
theorem iB.Bb(ha:iB ps ms t a)(hb:iB ps ms t b):iB ps ms t (lq a b):=by
 rcases IS a b with h|h<;>rw[h]
 .exact ha
 .exact hb
theorem TZ(ps:List P2)(t:Nat):bU ps t t=0:=by unfold bU;rw[if_pos (adJ _)];lia
theorem T4(h:t<ps.length):bU ps t (t+1)=(aN ps t).2:=by unfold bU;rw[if_pos (ahS _),iz _ ps h];lia
theorem T5(h:t<ps.length):bU ps (t+1) t = -(aN ps t).1:=by unfold bU;rw[if_neg (by lia),iz _ ps h];lia
theorem iB.lift(hp:fM ps)(hm:∀ m∈ms,m.1<=ps.length)(ht:t<=ps.length)(hu:u<=ps.length)(hb:bU ps t u=b)(h:iB ps ms t a):iB ps ms u (rn a b):=by intro v k e;obtain⟨⟨w,q⟩,ea,e⟩:=aeh.mp e;cases e;obtain⟨i,m,x,e1,e2,e3,hx⟩:=h w q ea;refine#[i,m,x,e1,e2,e3,?_];have:=Sm hp (hm m (ad3 e2)) hu ht;lia
noncomputable def lr(tp:Nat->Option P2)(i:Nat)(x:Option P2):Nat->Option P2:=λt=>if t=i then x else tp t
theorem o5:lr tp i x i=x:=if_pos rfl
theorem mE(h:t≠i):lr tp i x t=tp t:=if_neg h
theorem IU(h:∀ t,t<=ps.length->iB ps ms t (tp t))(hx:iB ps ms i x):∀ t,t<=ps.length->iB ps ms t (lr tp i x t):=λt ht=>by
 by_cases e:t=i
 .subst e;rw[o5];exact hx
 .rw[mE e];exact h t ht
theorem xN(h:gh (tp t) v):gh (lr tp i (lq (tp i) b) t) v:=by
 by_cases e:t=i
 .subst e;rw[o5];exact TX h
 .rw[mE e];exact h
structure T1(ps:List P2)(ms:List Mk)(j:Nat)(tp:Nat->Option P2):Prop where
 val:∀ t,t<=ps.length->iB ps ms t (tp t)
 top:∀ m∈ms.take j,∀ h,m.2.2=U h->gh (tp m.1) h
theorem T1.nil:T1 ps ms 0 λy=>O:=#[λy y y y e=>(nomatch e),λy h=>by simp at h]
theorem T1.skip(T:T1 ps ms j tp)(hm:ms[j]?=U m)(hn:m.2.2=O):T1 ps ms (j+1) tp:=#[T.val,λq hq h e=>by
 rw[aeQ,hm] at hq;rcases aec.mp hq with z|z
 .exact T.top q z h e
 .obtain rfl:q=m:=by simpa using z
  rw[hn] at e;cases e]
theorem T1.put(T:T1 ps ms j tp)(hm:ms[j]?=U m)(hh:m.2.2=U h):T1 ps ms (j+1) (lr tp m.1 (lq (tp m.1) (U (h,(j:Int))))):=by
 have hv:iB ps ms m.1 (U (h,(j:Int))):=λv k e=>by cases e;exact#[j,m,h,Y,hm,hh,by rw[TZ];lia]
 refine#[λt ht=>?_,λq hq x e=>?_]
 .by_cases e:t=m.1
  .subst e;rw[o5];exact (T.val _ ht).Bb hv
  .rw[mE e];exact T.val t ht
 .rw[aeQ,hm] at hq;rcases aec.mp hq with z|z
  .exact xN (T.top q z x e)
  .obtain rfl:q=m:=by simpa using z
   rw[hh] at e;cases e;rw[o5];exact Ba #[h,j,Y,aeW _]
structure T2(ps:List P2)(ms:List Mk)(j:Nat)(tp:Nat->Option P2):Prop where
 val:∀ t,t<=ps.length->iB ps ms t (tp t)
 top:∀ m∈ms,∀ h,m.2.2=U h->gh (tp m.1) h
 fwd:∀ t,t<j->∀ v,gh (tp t) v->gh (tp (t+1)) (v+(aN ps t).2)
theorem T1.two(T:T1 ps ms ms.length tp):T2 ps ms 0 tp:=#[T.val,λm h=>T.top m (by rw[aeN];exact h),λy h=>absurd h (afj _)]
theorem T2.step(hp:fM ps)(hm:∀ m∈ms,m.1<=ps.length)(hj:j<ps.length)(T:T2 ps ms j tp):T2 ps ms (j+1) (lr tp (j+1) (lq (tp (j+1)) (rn (tp j) (aN ps j).2))):=by
 refine#[IU T.val ((T.val _ (by lia)).Bb ((T.val j (by lia)).lift hp hm (by lia) (by lia) (T4 hj))),λm h x e=>xN (T.top m h x e),λt ht v hv=>?_];rw[mE (by lia)] at hv;by_cases e:t=j
 .subst e;rw[o5];exact Ba (IT hv)
 .rw[mE (by lia)];exact T.fwd t (by lia) v hv
structure T3(ps:List P2)(ms:List Mk)(j:Nat)(tp:Nat->Option P2):Prop where
 val:∀ t,t<=ps.length->iB ps ms t (tp t)
 top:∀ m∈ms,∀ h,m.2.2=U h->gh (tp m.1) h
 fwd:∀ t,t<ps.length->∀ v,gh (tp t) v->gh (tp (t+1)) (v+(aN ps t).2)
 bwd:∀ t,j<=t->t<ps.length->∀ v,gh (tp (t+1)) v->gh (tp t) (v-(aN ps t).1)
theorem T2.three(T:T2 ps ms ps.length tp):T3 ps ms ps.length tp:=#[T.val,T.top,T.fwd,λt h1 h2=>absurd h2 (by lia)]
theorem T3.step(hp:fM ps)(hm:∀ m∈ms,m.1<=ps.length)(hj:j<ps.length)(T:T3 ps ms (j+1) tp):T3 ps ms j (lr tp j (lq (tp j) (rn (tp (j+1)) (-(aN ps j).1)))):=by
 have h1:=hp _ (qO hj);refine#[IU T.val ((T.val _ (by lia)).Bb ((T.val (j+1) (by lia)).lift hp hm (by lia) (by lia) (T5 hj))),λm h x e=>xN (T.top m h x e),λt ht v hv=>?_,λt h2 h3 v hv=>?_]
 .by_cases e:t=j
  .subst e;rw[o5] at hv;rw[mE (by lia)];rcases IS (tp t) (rn (tp (t+1)) (-(aN ps t).1)) with z|z
   .rw[z] at hv;exact T.fwd t ht v hv
   .rw[z] at hv;obtain⟨w,k,e,hw⟩:=hv;obtain⟨⟨w',k'⟩,e1,e2⟩:=aeh.mp e;cases e2;exact#[w',k',e1,by dsimp only at hw;lia]
  .rw[mE e] at hv;exact xN (T.fwd t ht v hv)
 .rw[mE (by lia)] at hv;by_cases e:t=j
  .subst e;rw[o5];refine Ba ?_;have:=IT (b:=-(aN ps t).1) hv
   rwa [show v + -(aN ps t).1=v-(aN ps t).1 by lia] at this
  .rw[mE e];exact T.bwd t (by lia) h3 v hv
theorem T3.tops(T:T3 ps ms 0 tp):mD ps ms tp :=
 #[λt v k ht e=>T.val t ht v k e,T.top,λt v k ht e=>T.fwd t ht v #[v,k,e,aeW _],λt v k ht e=>T.bwd t (ad6 _) ht v #[v,k,e,aeW _]]
theorem mD.clash(T:mD ps ms tp)(hb:b.1<=ps.length)(e:tp b.1=U (v,k))(hl:b.2.1=U l)(hv:v<l):∃ (i:Nat) (a:Mk),k=(i:Int)/\ms[i]?=U a/\clash ps a b:=by obtain⟨i,m,h,e1,e2,e3,h4⟩:=T.val _ v k hb e;exact#[i,m,e1,e2,h,l,e3,hl,by lia]
theorem Bc:∀ t,(∀ k,k<=t->bx k=T6 k)->(∀ k,k<t->st k=dt k)->bG bx st t=bG T6 dt t
 | 0,h,_=>h 0 (adJ _)
 | t+1,h,hs=>by unfold bG;rw[h (t+1) (adJ _),Bc t (λk hk=>h k (by lia)) (λk hk=>hs k (by lia)),hs t (by lia)]
noncomputable def gi(ws:List W2)(t:Nat):W2:=ws.getD t O
noncomputable def cz(ss:List S2)(t:Nat):S2:=ss.getD t (O,O)
noncomputable def atT(ms:List Mk)(t:Nat):List S2:=(ms.filter λm=>decide (m.1=t)).map (·.2)
noncomputable def cN(ms:List Mk)(t:Nat):W2:=gd (O,O) (atT ms t)
theorem IV:d8 (cN ms t) x ↔ ∀ m∈ms,m.1=t->b8 m.2 x:=by
 unfold cN;rw[xJ];unfold atT;constructor
 .intro h m hm e;exact h _ (adP.mpr #[m,ael.mpr #[hm,by simpa using e],Y])
 .intro h s hs;obtain⟨m,hm,rfl⟩:=adP.mp hs;obtain⟨h1,h2⟩:=ael.mp hm;exact h m h1 (by simpa using h2)
theorem T7(ms:List Mk)(t:Nat):uj (cN ms t):=λs e=>by
 unfold cN gd at e;split at e
 .cases e
 .rename_i h;cases e;simpa using h
theorem T8(hc:jF ps c)(hm:meets ms c):∀ t,t<=ps.length->bG (cN ms) (aN ps) t≠O:=λt ht e=>by obtain⟨s,es,y⟩:=IL (bx:=cN ms) (st:=aN ps) (c:=c) (n:=ps.length) (λt y=>IV.mpr λm dJ e=>by rw[<- e];exact hm m dJ) (λt ht=>hc t ht) t ht;rw[e] at es;cases es
theorem IW(hp:fM ps)(hf:∀ t,t<=ps.length->bG (cN ms) (aN ps) t≠O):xM ps.length (cN ms) (aN ps):=TK (T7 ms 0) (λt ht=>hp _ (qO ht)) hf
noncomputable def mF(ps:List P2):List P2:=ps.reverse.map λp=>(-p.2,-p.1)
theorem T9(h:t<ps.length):aN (mF ps) t=jE ps.length (aN ps) t:=by unfold mF jE aN;rw[adB,adR,afM h,adB,adC (by lia)];rfl
theorem back_eq(hl:ss.length=ps.length+1)(h:∀ t,t<ps.length+1->bG (cN ms) (aN ps) t=U (cz ss t))(ht:t<=ps.length):bG (gi (ss.reverse.map U)) (aN (mF ps)) t=iA ps.length (cN ms) (aN ps) (ps.length-t):=by unfold iA;rw[show ps.length-(ps.length-t)=t by lia];refine Bc t (λk hk=>?_) λk hk=>T9 (by lia);rw[h (ps.length-k) (by lia)];unfold gi cz;rw[adB,adR,afM (by lia),hl,show ps.length+1-1-k=ps.length-k by lia,adB,adC (by lia)];rfl
theorem Ua(hl:ss.length=n+1)(ht:t<=n):cz ss.reverse t=cz ss (n-t):=by unfold cz;rw[adB,afM (by lia),adB,hl,show n+1-1-t=n-t by lia]
theorem Ub(T:xM ps.length (cN ms) (aN ps))(ht:t<ps.length)(hx:d8 (iA ps.length (cN ms) (aN ps) t) x)(hs:iA ps.length (cN ms) (aN ps) (t+1)=U s):∃ r,jD s (gf (U x,U x) (aN ps t))=U r/\∀ y,b8 r y->d8 (iA ps.length (cN ms) (aN ps) (t+1)) y/\(aN ps t).1<=y-x/\y-x<=(aN ps t).2:=by
 obtain⟨y,⟨s',e',hy⟩,h1,h2⟩:=T.next t x ht hx
 rw[hs] at e';cases e';have xx:b8 (U x,U x) x:=#[λ_ z=>by cases z;exact aeW _,λ_ z=>by cases z;exact aeW _]
 obtain⟨r,er,_⟩:=rm.mpr #[hy,A4 xx h1 h2];refine#[r,er,λz hz=>?_];obtain⟨z1,z2⟩:=rm.mp #[r,er,hz];refine#[#[s,hs,z1],?_];have a:=z2.1 (x+(aN ps t).1) rfl;have b:=z2.2 (x+(aN ps t).2) rfl;lia
noncomputable def bV(cs:List Int)(t:Nat):Int:=cs.getD t 0
theorem meets_of(T:xM ps.length (cN ms) (aN ps))(hm:∀ m∈ms,m.1<=ps.length)(h:∀ t,t<=ps.length->d8 (iA ps.length (cN ms) (aN ps) t) (c t)):meets ms c:=λm dJ=>IV.mp (T.sub _ _ (hm m dJ) (h _ (hm m dJ))) m dJ rfl
noncomputable def eU(ts:List (Option P2))(t:Nat):Option P2:=ts.getD t O
theorem Uc(h:i<ts.length):eU (ts.set i x)=lr (eU ts) i x:=by
 funext t;unfold eU lr;rw[adB,List.getElem?_set];by_cases e:t=i
 .subst e;rw[if_pos Y,if_pos Y,if_pos h];rfl
 .rw[if_neg (λz=>e z.symm),if_neg e];exact (adB ..).symm
theorem Ud(n:Nat):eU (afS n O)=λy=>O:=by funext t;unfold eU;rw[adB,af3];split<;>rfl
end Gz
namespace Gz
open PySem PySem.Spec PyProof.Rows L2
noncomputable def rowOf(H:Hp):V->List V
 | .ref p=>match H p with
  | some (.tup xs)=>xs
  | _=>[]
 | _=>[]
theorem um(h:H p=U (.tup xs)):rowOf H (.ref p)=xs:=by
 show (match H p with
  | some (.tup xs)=>xs
  | _=>[])=xs
 rw[h]
def o6(row:V->List V)(tt:TT):TT:=λG H Q=>match G with
 | some v::ρ=>tt ((row v).map U++ρ) H Q
 | _=>False
def o7(row:V->List V)(te:TE):TE:=λG H Q=>match G with
 | some v::ρ=>te ((row v).map U++ρ) H Q
 | _=>False
section
variable{K:adz}{ρ:L2.St}{tt:TT}{te:TE}{H:Hp}{Q:VK}{a:adK}{xs:List V}{row:V->List V}
def uo(K:adz)(a:adK)(xs:List V)(row:V->List V)(k:Nat)(H:Hp):Prop:=aj K H a xs/\∀ x∈xs,∃ p,x = .ref p/\ak K H p (row x)/\(row x).length=k
theorem Ue{k:Nat}{g:TG}(hg:∀ (p:adK) (ys:List V) (os:List (Option V)) (H:Hp) (Q:L2.St->Hp->Prop),os.length=k->ys.length=k->ak K H p ys->Q (ys.map U++ρ) H->g (.ref p) (os++ρ) H Q)
 (hn:xs.length<=ad1) (h:fK (uo K a xs row k) ρ (o6 row tt) (o7 row te) xs [] H λzs H'=>∀ l,H' l=O->Q (.ref l) (upd H' l (.lst zs))) :
 kY k (kQ K a) g ρ tt te H Q:=by
 refine#[λi m ys H=>m=xs.length-i/\i<=xs.length/\ys.length<=i/\fK (uo K a xs row k) ρ (o6 row tt) (o7 row te) (xs.drop i) ys H λys H'=>∀ l,H' l=O->Q (.ref l) (upd H' l (.lst ys)),#[_,Y,ad6 _,adJ _,h],?_];rintro i m ys H ⟨rfl,hi,hy,c⟩;by_cases bc:i<xs.length
 .have e:=aeF bc;rw[e] at c;obtain⟨⟨c0,c1⟩,c2⟩:=c;have l1:∀ y:V,(ys++[y]).length<=i+1:=λy=>by rw[adT,aea];lia
  have l2:ys.length<=i+1:=by lia
  refine .inr #[#[xs,_,c0,adC bc],by lia,λzs H'=>zs.length<=i+1/\fK (uo K a xs row k) ρ (o6 row tt) (o7 row te) (xs.drop (i+1)) zs H' λys H'=>∀ l,H' l=O->Q (.ref l) (upd H' l (.lst ys)),λzs H' q=>#[_,by lia,Y,bc,q.1,q.2],λos oQ v H' y=>?_];obtain⟨rfl,ex⟩:=y;have ex:=ex xs c0;rw[adC bc] at ex;obtain⟨p,ep,hp,hl⟩:=c1 xs[i] (ai3 _);cases ex;rw[ep] at hp hl c2 ⊢;refine hg p _ os _ _ oQ hl hp #[(row (.ref p)).map U,by rw[adA];exact hl,Y,?_];simp only[l1,l2,true_and];exact c2
 .have e:i=xs.length:=by lia
  subst e;rw[ai0] at c;exact .inl #[#[xs,c.1.1,adJ _],by lia,c.2]
theorem Be{α:Type}{l:List α}{n:Nat}(h:l.length=n+1):∃ a r,l=a::r/\r.length=n:=by
 cases l with
 | nil=>cases h
 | cons a r=>exact#[a,r,Y,Nat.succ.inj h]
theorem Ug{α:Type}{l:List α}(h:l.length=2):∃ a b,l=[a,b]:=by obtain⟨a,r,rfl,j⟩:=Be (n:=1) h;obtain⟨b,r,rfl,k⟩:=Be (n:=0) j;obtain rfl:=List.eq_nil_of_length_eq_zero k;exact#[a,b,Y]
theorem IX{α:Type}{l:List α}(h:l.length=3):∃ a b c,l=[a,b,c]:=by obtain⟨a,r,rfl,k⟩:=Be (n:=2) h;obtain⟨b,c,rfl⟩:=Ug k;exact#[a,b,c,Y]
theorem Uh{p:adK}{ys:List V}{os:List (Option V)}{H:Hp}{Q:L2.St->Hp->Prop}(ho:os.length=3)(hy:ys.length=3)(h:ak K H p ys)(q:Q (ys.map U++ρ) H):lW K 3 (dO (cH 0) (dO (cH 1) (dO (cH 2) kP))) (.ref p) (os++ρ) H Q:=by obtain⟨o1,o2,o3,rfl⟩:=IX ho;obtain⟨x,y,z,rfl⟩:=IX hy;exact TF h q
theorem IY(hn:xs.length<=ad1)(h:fK (uo K a xs row 3) ρ (o6 row tt) (o7 row te) xs [] H λzs H'=>∀ l,H' l=O->Q (.ref l) (upd H' l (.lst zs))) :
 kY 3 (kQ K a) (lW K 3 (dO (cH 0) (dO (cH 1) (dO (cH 2) kP)))) ρ tt te H Q:=Ue (λy y y y y ho hy h q=>Uh ho hy h q) hn h
end
theorem xO{α β:Type}{R:Hp->V->α->Prop}{R':Hp->V->β->Prop}{Ok:Hp->Prop}{ρ:L2.St}{tt:TT}{te:TE}{p:α->Bool}{f:α->β}{Q':List V->Hp->Prop}(mono:∀ H H' x a,ai H H'->R H x a->R H' x a)(ki:∀ H H' x a,ai H H'->R' H x a->R' H' x a):∀ {xs:List V} {as:List α} {zs:List V} {bs:List β} {H:Hp},ay (R H) xs as->ay (R' H) zs bs->(∀ H',ai H H'->Ok H') ->
 (∀ x a,a∈as->∀ H',ai H H'->R H' x a->∀ Q:Bool->Hp->Prop,Q (p a) H'->tt (U x::ρ) H' Q)->(∀ x a,a∈as->p a=true->∀ H',ai H H'->R H' x a->∀ Q:VK,(∀ H2 y,ai H' H2->R' H2 y (f a)->Q y H2)->te (U x::ρ) H' Q)->(∀ H' ws,ai H H'->ay (R' H') ws (bs++(as.filter p).map f)->Q' ws H')->fK Ok ρ tt te xs zs H Q'
 | [],[],zs,bs,H,_,hz,b7,_,_,q=>#[b7 H (ai.refl H),q H zs (ai.refl H) (by simpa using hz)]
 | x::xs,a::as,zs,bs,H,h,hz,b7,ht,he,q=>by
  refine#[b7 H (ai.refl H),ht x a (.head _) H (ai.refl H) h.1 _ ?_];by_cases hp:p a=true
  .rw[if_pos hp];refine he x a (.head _) hp H (ai.refl H) h.1 _ λH2 y s2 ry=>?_;refine xO mono ki (bs:=bs++[f a]) (h.2.imp λz z r=>mono _ _ _ _ s2 r) ((hz.imp λz z r=>ki _ _ _ _ s2 r).snoc ry) (λH' s'=>b7 H' (s2.trans s')) (λx b hb H' s'=>ht x b (.tail _ hb) H' (s2.trans s')) (λx b hb hp H' s'=>he x b (.tail _ hb) hp H' (s2.trans s')) λH' ws s' hw=>q H' ws (s2.trans s') ?_;rw[aee,if_pos hp];simpa using hw
  .rw[if_neg hp];refine xO mono ki h.2 hz b7 (λx b hb=>ht x b (.tail _ hb)) (λx b hb hp=>he x b (.tail _ hb) hp) λH' ws s' hw=>q H' ws s' ?_;rw[aee,if_neg hp];exact hw
 | [],_::_,_,_,_,h,_,_,_,_,_=>h.elim
 | _::_,[],_,_,_,h,_,_,_,_,_=>h.elim
theorem Ui(ax:List adH):ak0 ax.toArray O O (U (-1))=ax.reverse.toArray:=by
 have e1:agG O O (U (-1)) ax.toArray.size=(((ax.length:Nat):Int)-1,-1,-1):=by rw[adS];rfl
 unfold ak0;rw[e1];dsimp only;have e2:sliceRange (((ax.length:Nat):Int)-1) (-1) (-1)=(adM ax.length).map λk=>ax.length-1-k:=by
  unfold sliceRange;have h1:¬ ((-1:Int) > 0):=by lia
  simp only[h1,if_false];by_cases h:ax.length=0
  .rw[h];rfl
  .rw[if_pos (by lia),show (((ax.length:Nat):Int)-1 - -1 - -1-1) / (- -1)=((ax.length:Nat):Int) by
    rw[show (- (-1:Int))=1 by lia,al2];lia,aep]
   refine afh λk hk=>?_;have:=ad0.mp hk;lia
 rw[e2]
 congr 1
 refine agq λk=>?_;have key:((adM ax.length).map λk=>ax.length-1-k).filterMap (ax.toArray[·]?)=(adM ax.length).map λk=>ax.getD (ax.length-1-k) .none:=by
  rw[List.filterMap_map];have:∀ (l:List Nat),(∀ k∈l,k<ax.length)->l.filterMap ((λx=>ax.toArray[x]?) ∘ λk=>ax.length-1-k)=l.map λk=>ax.getD (ax.length-1-k) .none:=by
   intro l
   induction l with
   | nil=>intro y;rfl
   | cons k l ih =>
    intro h;have hk:=h k (.head _);rw[aeT,adU];have e:((λx=>ax.toArray[x]?) ∘ λk=>ax.length-1-k) k=U (ax.getD (ax.length-1-k) .none):=by show ax.toArray[ax.length-1-k]?=_;rw[List.getElem?_toArray,adB,adC (by lia)];rfl
    rw[e,ih λj hj=>h j (.tail _ hj)]
  exact this _ λk hk=>ad0.mp hk
 rw[key];by_cases hk:k<ax.length
 .rw[adR,aex hk,afM hk];simp only[Option.map_some];rw[adB,adC (by lia)];rfl
 .rw[aeD (by rw[adA,adO];lia),aeD (by rw[afg];lia)]
section
variable{X:Cx}{e st:ahx}{te ts:TE}{p2 pos:Pos}
def IZ(K:adz)(te ts:TE):TE:=λG H Q=>te G H λx H1=>ts G H1 λy H2=>y = .int (-1)/\∃ a xs,x = .ref a/\aj K H2 a xs/\∀ p,H2 p=O->Q (.ref p) (upd H2 p (.lst xs.reverse))
theorem I0(he:PE X e te)(hs:PE X st ts):PE X (.Subscript e (.Slice O O (U st) p2) pos) (IZ X.K te ts):=by intro pins s G H Q I h;refine akn (aI (he pins s G H _ I h) λv s1 zq=>?_);obtain⟨x,H1,I1,r1,q1⟩:=zq;refine wpAny_Slice ?_;rw[aj5];refine adD (adD ?_);rw[evalPart_some];refine aI (hs pins s1 G H1 _ I1 q1) λu s2 zq=>?_;obtain⟨y,H2,I2,r2,q2⟩:=zq;obtain⟨rfl,a,xs,rfl,hx,q⟩:=q2;obtain⟨t,rfl⟩:=r2;cases r1;have I4:Inv X pins G H2 { s2 with heap:=s2.heap.push { cls:=.type "slice",data:=.fields (List.toArray [.none,.none,.int (-1) t]) } }:=I2.kept (t':=s2.toks) λb ob q=>adE _ q;obtain⟨ax,r,ht,hz⟩:=I4.list hx;have hlen:=r.length;show adY (model X.prog X.w) X.A (aiN e (.Slice O O (U st) p2) (.ref a) (.ref s2.heap.objs.size)) (EP X pins G Q) X.xe { s2 with heap:=s2.heap.push { cls:=.type "slice",data:=.fields (List.toArray [.none,.none,.int (-1) t]) } };refine tail_any (ops:=[.ref a,.ref s2.heap.objs.size]) ht.isList.typeIs slot_list_getitem.lookup ?_ (by with_unfolding_all rfl);refine aix ht.isList (Heap.IsSliceOf.new ..) .none .none (.int (-1) t) (by simp) ?_ (by rw[adS];lia);rw[Ui];refine#[.ref _,_,I4.laid (t':=s2.toks) (o:=.lst xs.reverse) (λb ob q=>adE _ q) (adJ _) ?_,Y,q _ (I4.aA.fresh (adJ _))];exact#[by rw[afg];exact hz,_,0,r.reverse,adN _ Y]
end
theorem Uj{K:adz}{a:adK}{xs:List V}{ρ:L2.St}{tt:TT}{te:TE}{H:Hp}{Q:VK}(hn:xs.length<=ad1)(h:fK (λH=>aj K H a xs) ρ tt te xs.reverse [] H λys H'=>∀ l,H' l=O->Q (.ref l) (upd H' l (.lst ys))):nE (w6 K a xs.length) ρ tt te H Q:=by
 have hr:xs.reverse.length=xs.length:=afg;refine#[λi m ys H=>m=xs.length-i/\i<=xs.length/\ys.length<=i/\fK (λH=>aj K H a xs) ρ tt te (xs.reverse.drop i) ys H λys H'=>∀ l,H' l=O->Q (.ref l) (upd H' l (.lst ys)),#[_,Y,ad6 _,adJ _,h],?_];rintro i m ys H ⟨rfl,hi,hy,g⟩;by_cases bc:i<xs.length
 .have e:=aeF (show i<xs.reverse.length by lia);rw[e] at g;obtain⟨g0,g1⟩:=g;refine .inr #[#[xs,_,g0,Y,adC (by lia)],by lia,λzs H'=>zs.length<=i+1/\fK (λH=>aj K H a xs) ρ tt te (xs.reverse.drop (i+1)) zs H' λys H'=>∀ l,H' l=O->Q (.ref l) (upd H' l (.lst ys)),λzs H' q=>#[_,by lia,Y,bc,q.1,q.2],λx H' y=>?_];obtain⟨rfl,ex⟩:=y;have ex:=ex xs g0 rfl;rw[adC (by lia)] at ex;cases ex;have l1:∀ y:V,(ys++[y]).length<=i+1:=λy=>by rw[adT,aea];lia
  have l2:ys.length<=i+1:=by lia
  simp only[l1,l2,true_and];exact g1
 .have e:i=xs.length:=by lia
  subst e;rw[ag5 (by lia)] at g;exact .inl #[Y,by lia,g.2]
theorem FU(h:aiM us ns):Vals (ns.map V.int) us:=by
 induction h with
 | nil=>exact .nil
 | cons n t r ih=>exact .cons #[t,Y] ih
theorem Bf{β:Type}{R':Hp->V->β->Prop}{Ok:Hp->Prop}{ρ:L2.St}{tt:TT}{te:TE}{p:V × V->Bool}{f:V × V->β}{Q':List V->Hp->Prop}(ki:∀ H H' x a,ai H H'->R' H x a->R' H' x a):∀ {rows:List (V × V)} {H:Hp} {zs:List V} {bs:List β},ay (R' H) zs bs->(∀ H',ai H H'->Ok H') ->
 (∀ r∈rows,∀ H',ai H H'->∀ Q,Q (p r) H'->tt (U r.1::U r.2::ρ) H' Q)->(∀ r∈rows,p r=true->∀ H',ai H H'->∀ Q:VK,(∀ gU y,ai H' gU->R' gU y (f r)->Q y gU)->te (U r.1::U r.2::ρ) H' Q) ->
 (∀ H' ws,ai H H'->ay (R' H') ws (bs++(rows.filter p).map f)->Q' ws H')->qM Ok ρ tt te rows zs H Q'
 | [],H,zs,bs,hz,b7,_,_,q=>#[b7 H (ai.refl H),q H zs (ai.refl H) (by simpa using hz)]
 | (x,y)::r,H,zs,bs,hz,b7,ht,he,q=>by
  refine#[b7 H (ai.refl H),λw hw=>?_];have s:=Gz.ao (o:=.tup [x,y]) hw;refine ht _ (.head _) _ s _ ?_;by_cases hb:p (x,y)=true
  .rw[if_pos hb];refine he _ (.head _) hb _ s _ λH2 v s2 r2=>?_;have S:=s.trans s2;refine Bf ki (bs:=bs++[f (x,y)]) ((hz.imp λx a r=>ki _ _ _ _ S r).snoc r2) (λH' s'=>b7 H' (S.trans s')) (λz hz H' s'=>ht z (.tail _ hz) H' (S.trans s')) (λz hz hb H' s'=>he z (.tail _ hz) hb H' (S.trans s')) λH' ws s' hw=>q H' ws (S.trans s') ?_;rw[aee,if_pos hb,adU]
   rwa [aiB] at hw
  .rw[if_neg hb];refine Bf ki (hz.imp λx a r=>ki _ _ _ _ s r) (λH' s'=>b7 H' (s.trans s')) (λz hz H' s'=>ht z (.tail _ hz) H' (s.trans s')) (λz hz hb H' s'=>he z (.tail _ hz) hb H' (s.trans s')) λH' ws s' hw=>q H' ws (s.trans s') ?_;rw[aee,if_neg hb];exact hw
abbrev uq(H:Hp)(v:V)(s:S2):Prop:=aR H v s.1 s.2
noncomputable def cellsFrom:En->List Int->List S2
 | lo,[]=>[(lo,O)]
 | lo,z::zs=>(lo,U (z-1))::cellsFrom (U z) zs
noncomputable def mG(c:S2):Int:=match c.1,c.2 with
 | some x,_=>x
 | none,U y=>y
 | none,O=>0
theorem Uk(h:HG c):hs c (mG c)=true:=by
 rw[Sf];unfold HG at h;rcases c with ⟨z|x,z|y⟩
 .exact#[λz e=>(nomatch e),λz e=>(nomatch e)]
 .exact#[λz e=>(nomatch e),λz e=>by cases e;exact aeW _]
 .exact#[λz e=>by cases e;exact aeW _,λz e=>(nomatch e)]
 .refine#[λz e=>by cases e;exact aeW _,λz e=>?_];cases e;show x<=y;simp[bj] at h;lia
theorem Ja(es:List Int):(es.map V.int).all lZ=true:=by rw[agl];exact aeM.mpr λy y=>rfl
theorem Bg(a:Int):∀ (es:List Int),wH (.int a) (es.map V.int)=es.contains a
 | []=>rfl
 | e::es=>by
  have ih:=Bg a es;unfold wH at *;rw[adU,aeC,ih,List.contains_cons]
  congr 1
  show (e == a)=(a == e);rw[aeU];simp only[beq_iff_eq];exact eq_comm
theorem Jb{K:adz}{H1 H':Hp}{l:adK}{ys:List V}{tb:Tb}(hl:H1 l=U (.lst ys))(hM:ay (lg H1) ys tb)(s:ai H1 H'):uo K l ys (rowOf H1) 3 H':=by refine#[aj.of (s _ _ hl),λx hx=>?_];obtain⟨i,hi⟩:=aeE.mp hx;obtain⟨m,y,t,p,rfl,h1,h2⟩:=hM.get hi;rw[um h1];exact#[t,Y,ak.of (s _ _ h1),Y]
noncomputable def fw(tb:Tb)(es:List Int):List Mk:=((nI tb).filter λr=>!es.contains r.1.1).map λr=>(r.1.2.toNat,r.2)
theorem map_some:∀ (l:List α),(l.map f).filterMap id=l.filterMap f
 | []=>rfl
 | a::l=>by rw[adU,aeT,aeT,map_some l];rfl
theorem cL:∀ {l:List α},l.Pairwise R->∀ {p q:α},p∈l->q∈l->p=q∨R p q∨R q p
 | [],_,_,_,h,_=>by cases h
 | x::l,h,p,q,hp,hq=>by
  have h1:=akd.mp h;rcases adL.mp hp with e1|i1<;>rcases adL.mp hq with e2|i2
  .exact .inl (e1.trans e2.symm)
  .rw[e1];exact .inr (.inl (h1.1 q i2))
  .rw[e2];exact .inr (.inr (h1.1 p i1))
  .exact cL h1.2 i1 i2
theorem xP:(nI tb).Perm tb:=qS
section
end
noncomputable def Ul(K:adz)(a b c:adK):It :=
 #[λi H=>∃ xs ys zs x y z,aj K H a xs/\aj K H b ys/\aj K H c zs/\xs[i]?=U x/\ys[i]?=U y/\zs[i]?=U z,λi H v H'=>∃ (p:adK) (x y z:V),v = .ref p/\H p=O/\H'=upd H p (.tup [x,y,z])/\(∀ xs,aj K H a xs->xs[i]?=U x)/\(∀ ys,aj K H b ys->ys[i]?=U y)/\∀ zs,aj K H c zs->zs[i]?=U z,
  λi H=>∃ xs,aj K H a xs/\xs.length<=i]
def Um(K:adz)(ta:TA):TI:=λG H R=>ta G H λvs H1=>∃ a b c,vs=[.ref a,.ref b,.ref c]/\(∃ xs,aj K H1 a xs)/\(∃ ys,aj K H1 b ys)/\(∃ zs,aj K H1 c zs)/\R (Ul K a b c) H1
section
def Loose:HO->Prop
 | .dT _=>True
 | .ba _ (.dT _)=>True
 | _=>False
theorem Jc(I:Inv X pins G H s)(e:H a=U u)(lu:Loose u)(h0:∀ o v,X.H₀ a≠U (.ba o v))(new:bW X.prog X.w (upd H a u') s.heap a u'):Inv X pins G (upd H a u') s:=by
 have nn:∀ b,H b=O->b≠a:=λb h z=>by rw[z,e] at h;cases h
 have nt:∀ b xs,H b=U (.tup xs)->b≠a:=λb xs h z=>by rw[z,e] at h;cases h;exact lu
 have no:∀ b x,H b=U (.own x)->b≠a:=λb x h z=>by rw[z,e] at h;cases h;exact lu
 have nb:∀ b ps,H b=U (.tbl ps)->b≠a:=λb ps h z=>by rw[z,e] at h;cases h;exact lu
 refine#[I.ok,I.os,I.bare,#[I.base.keep,I.base.slot,λb o e1 n hx=>?_,I.base.there,λb xs e1=>?_,λb o v e1=>?_,λb ps e1=>?_],I.loc,I.cell,?_,λx c e1=>?_,λp hp=>?_,λb ob e1=>?_,I.len]
 .have:=I.base.free b o e1 n hx;rw[aK (nn b this)];exact this
 .have:=I.base.gu b xs e1;rw[aK (nt b xs this)];exact this
 .have:=I.base.fG b o v e1;rw[aK (show b≠a from λz=>h0 o v (by rw[<- z];exact e1))];exact this
 .obtain⟨more,this⟩:=I.base.gv b ps e1;exact#[more,by rw[aK (nb b _ this)];exact this]
 .rw[aK (nn _ I.free)];exact I.free
 .have:=I.gx x c e1;rw[aK (nn c this)];exact this
 .obtain⟨p1,p2,p3⟩:=I.pin p hp;exact#[p1,by rw[aK (nn _ p2)];exact p2,p3]
 .by_cases hb:b=a
  .subst hb;rw[au] at e1;cases e1;exact new
  .rw[aK hb] at e1;exact (I.aA b ob e1).stay (λy y y q=>q) (λc h=>by rw[aK (no c _ h)];exact h) λc xs h=>by rw[aK (nt c xs h)];exact h
theorem Uo(I:Inv X pins G H s)(e:H a=U (.dT kvs)):∃ o,Inv X pins G (upd H a (.ba o (.dT kvs))) s/\∀ o v,X.H₀ a≠U (.ba o v):=by
 have h0:∀ o v,X.H₀ a≠U (.ba o v):=λo v z=>by have:=I.base.fG a o v z;rw[e] at this;cases this
 have ok:=I.aA a _ e;obtain⟨y,y,y,y,o,y,y,ho,y⟩:=id ok;refine#[o,Jc I e trivial h0 #[ho,ok.stay (λy y y q=>q) (λc h=>?_) λc xs h=>?_],h0]
 .rw[aK λz=>by rw[z,e] at h;cases h];exact h
 .rw[aK λz=>by rw[z,e] at h;cases h];exact h
theorem xQ(I:Inv X pins G H s)(e:H a=U (.ba o (.dT kvs)))(h0:∀ o v,X.H₀ a≠U (.ba o v)):Inv X pins G (upd H a (.dT kvs)) s:=by
 obtain⟨y,ok⟩:=I.aA a _ e;refine Jc I e trivial h0 (ok.stay (λy y y q=>q) (λc h=>?_) λc xs h=>?_)
 .rw[aK λz=>by rw[z,e] at h;cases h];exact h
 .rw[aK λz=>by rw[z,e] at h;cases h];exact h
noncomputable def Jd(a:adK)(o:Obj)(kvs:List (List Key × V))(D:Ends):Ends where
 nx:=λG H=>H a=U (.ba o (.dT kvs))/\D.nx G (upd H a (.dT kvs))
 rt:=λv H=>H a=U (.ba o (.dT kvs))/\D.rt v (upd H a (.dT kvs))
 bk:=λG H=>H a=U (.ba o (.dT kvs))/\D.bk G (upd H a (.dT kvs))
 ct:=λG H=>H a=U (.ba o (.dT kvs))/\D.ct G (upd H a (.dT kvs))
def Je(t:TS):TS:=λD G H=>∃ a kvs,H a=U (.dT kvs)/\∀ o,t (Jd a o kvs D) G (upd H a (.ba o (.dT kvs)))
theorem Jf{st:aiK}{t:TS}(h:PS X st t):PS X st (Je t):=by
 rintro pins s G H D I ⟨a,kvs,e,q⟩;obtain⟨o,I1,h0⟩:=Uo I e;refine aI (h pins s G _ _ I1 (q o)) λf s' hf=>?_;cases f with
 | next=>obtain⟨σ',H',I',e',q'⟩:=hf;exact#[σ',_,xQ I' e' h0,q']
 | brk=>obtain⟨σ',H',I',e',q'⟩:=hf;exact#[σ',_,xQ I' e' h0,q']
 | cont=>obtain⟨σ',H',I',e',q'⟩:=hf;exact#[σ',_,xQ I' e' h0,q']
 | ret v=>obtain⟨v',σ',H',I',r',e',q'⟩:=hf;exact#[v',σ',_,xQ I' e' h0,r',q']
def Up(t:TE):TE:=λG H Q=>∃ a kvs,H a=U (.dT kvs)/\∀ o,t G (upd H a (.ba o (.dT kvs))) λv H'=>H' a=U (.ba o (.dT kvs))/\Q v (upd H' a (.dT kvs))
noncomputable def iX(o:Obj):List V:=match o.data with
 | .dict es _=>es.toList.map λe=>match e.key with
  | .ref a=>V.ref a
  | _=>V.non
 | _=>[]
noncomputable def uu(a:adK)(o:Obj)(kvs:List (List Key × V)):It where
 go i H:=H a=U (.ba o (.dT kvs))/\i<kvs.length
 yld i H x H':=H'=H/\(iX o)[i]?=U x
 stop i H:=H a=U (.ba o (.dT kvs))/\kvs.length<=i
def Bh(tl:TE):TI:=λG H R=>tl G H λx H1=>∃ a o kvs,x = .ref a/\H1 a=U (.ba o (.dT kvs))/\(km H1 (iX o) kvs->R (uu a o kvs) H1)
theorem Bi(ok:ck P w H h)(e:H a=U (.ba o (.dT kvs))):∃ (as:List adK) (es:Array agg) (ep:Nat),km H (iX o) kvs/\(a == ae6)=false/\eT h a es ep/\o.data = .dict es ep/\es.size=kvs.length/\kvs.length<=ad1/\∀ i (hi:i<es.size),∃ b,es[i].key = .ref b/\(iX o)[i]?=U (.ref b):=by
 obtain⟨ho,z,lo,xs,rel,o',es,ep,cU,hc,hd,he,hn⟩:=ok a _ e;rw[ho] at cU;cases cU;have hl:xs.length=kvs.length:=(Paired.length rel).symm;have hs:es.size=xs.length:=agj he;have ek:iX o=(xs.map (·.2.1)).map V.ref:=by unfold iX;rw[hd];show es.toList.map _=_;rw[he,aev,aev];exact afh λx y=>rfl
 refine#[xs.map (·.2.1),es,ep,?_,lo,#[o,ho,hc,hd],hd,hs.trans hl,z,λi hi=>?_]
 .rw[ek];exact KT.Il rel
 .have hx:i<xs.length:=by lia
  have e1:=entry_at he i;rw[aei hi,adC hx] at e1;have e2:es[i]=ajz (ahM (cT P w)) xs[i]:=by simpa using e1
  refine#[xs[i].2.1,by rw[e2];rfl,?_];rw[ek,adR,adR,adC hx];rfl
theorem Uq{P:aek}{w:aeS}{K:adz}{tg:ahx}(a it:adK)(o:Obj)(kvs:List (List Key × V))(bT:a≠it):Turn P w K tg (uu a o kvs) [it] it (λi h=>∃ es ep,o.data = .dict es ep/\i<=es.size/\h.IsKeyIter it a i es.size ep) where
 mem:=by simp
 obj:=λi h st b hb=>by
  have e:b=it:=by simpa using hb
  subst e;obtain⟨es,ep,y,y,ob,e,c,d⟩:=st;exact#[ob,e,λv z=>by rw[d] at z;cases z]
 keep:=λi h h' st k=>by obtain⟨es,ep,h1,h2,ob,e,c,d⟩:=st;exact#[es,ep,h1,h2,ob,k it (by simp) ob e,c,d]
 item:=by
  intro X hP hw hK hc i pins s G H E I hf st hg;subst hP hw hK;obtain⟨e,hi⟩:=hg;obtain⟨es,ep,hd,hle,hit⟩:=st;obtain⟨as,es',lS,hk,lo,raw,jW,hs,hz,iQ⟩:=Bi I.aA e;rw[hd] at jW;cases jW;obtain⟨f0,f1,f2,f3,f4,f5⟩:=hf it (by simp);have c8:i<es.size:=by lia
  obtain⟨b,eb,kb⟩:=iQ i c8;refine Ie hit raw c8 λh' my sb=>?_;have I1:Inv X pins G H { s with heap:=h' }:=I.turned (t':=s.toks) (λb o hb e=>(sb.2 b hb).trans e) f0 f1 f3 f4 f5;obtain⟨ob,e1,c1,d1⟩:=id my;exact#[es[i].key,Y,qu (s:={ s with heap:=h' }) e1 c1 d1 (by decide) #[.ref b,H,I1,eb,#[Y,kb],#[es,ep,hd,c8,my],λb hb=>(hf b hb).1]]
 done:=by
  intro X hP hw hK hc i pins s G H E I hf st hg;subst hP hw hK;obtain⟨e,hi⟩:=hg;obtain⟨es,ep,hd,hle,hit⟩:=st;obtain⟨as,es',lS,hk,lo,raw,jW,hs,hz,iQ⟩:=Bi I.aA e;rw[hd] at jW;cases jW;obtain⟨f0,f1,f2,f3,f4,f5⟩:=hf it (by simp);have ei:i=es.size:=by lia
  subst ei;exact Ig (I.ok.hd hc) hit raw λh' eb=>#[Y,I.turned (t':=s.toks) (λb o hb e=>eb b o hb e) f0 f1 f3 f4 f5]
 self:=λy y y y y st h=>by obtain⟨es,ep,y,y,hit⟩:=st;exact ajH hit h
theorem Jg(hl:PE X l tl):PI X tg l (Bh tl):=by
 intro pins s G H R I h;refine aI (hl pins s G H _ I h) λv s1 zq=>?_;obtain⟨x,H1,I1,r1,q1⟩:=zq;obtain⟨a,o,kvs,e,hf,q⟩:=q1;subst e;cases r1;obtain⟨as,es,ep,hk,lo,raw,hd,hs,hz,iQ⟩:=Bi I1.aA hf;refine Ic lo raw ?_;refine#[s1.heap.objs.size,[s1.heap.objs.size],_,_,H1,Y,I1.kept (t':=s1.toks) λb o e=>adE _ e,Uq a _ o kvs (adV raw.lt),#[es,ep,hd,ad6 _,_,adN _ Y,Y,Y],λb hb=>?_,q hk];have e:b=s1.heap.objs.size:=by simpa using hb
 subst e;exact I1.ji (adJ _) (I1.aA.fresh (adJ _))
theorem Ur:kR (Bh tl) g tb D G H=tl G H (λx H1=>∃ a o kvs,x = .ref a/\H1 a=U (.ba o (.dT kvs))/\(km H1 (iX o) kvs->FJ (uu a o kvs) g tb D G H1)):=rfl
theorem Us(Pv:Nat->L2.St->Hp->Prop)(hk:iX o=xs)(Ut:xs.length=kvs.length)(h0:Pv 0 G H)(hl:∀ i G H,i<=xs.length->Pv i G H->H a=U (.ba o (.dT kvs)))(hs:∀ i x G H,xs[i]?=U x->Pv i G H->g x G H λσ2 H2=>tb { D with nx:=Pv (i+1),ct:=Pv (i+1),bk:=D.nx } σ2 H2)(hd:∀ G H,Pv xs.length G H->D.nx G H):FJ (uu a o kvs) g tb D G H:=by
 refine#[λi m G H=>m=xs.length-i/\i<=xs.length/\Pv i G H,#[xs.length,by simp,ad6 _,h0],?_];rintro i m G H ⟨rfl,hi,p⟩;have q:=hl i G H hi p;by_cases bc:i<xs.length
 .refine .inr #[#[q,by lia],Pv (i+1),λσ' H' p'=>#[xs.length-(i+1),by lia,Y,bc,p'],λx H' y=>?_];obtain⟨e,y⟩:=y;subst e;rw[hk] at y;exact hs i x G _ y p
 .have e:i=xs.length:=by lia
  subst e;exact .inl #[#[q,by lia],hd G H p]
theorem Uu(hk:iX o=xs)(Ut:xs.length=kvs.length):tU (uu a o kvs) (λH=>H a=U (.ba o (.dT kvs))) xs :=
 #[λi z z h e=>#[h,by have:=(adI.mp e).1;lia],λi z z z z y=>#[y.1,λz=>hk ▸ y.2],λi z h hi=>#[h,by lia]]
end
theorem Bj(e:H a=U u)(h:H p=U v)(ne:v≠u):upd H a w p=U v:=by rw[aK (qk h e ne)];exact h
section
theorem Uv(e:H0 a=U (.dT kvs))(s:ai (upd H0 a (.ba o (.dT kvs))) H1):ai H0 (upd H1 a (.dT kvs)):=λb u h=>by
 by_cases hb:b=a
 .subst hb;rw[e] at h;cases h;exact au
 .rw[aK hb];exact s b u (by rw[aK hb];exact h)
theorem Bk(e:H a=U (.dT kvs))(h:H p=U (.tup xs)):upd H a u p=U (.tup xs):=Bj e h λz=>nomatch z
theorem Uw(e:H a=U (.dT kvs))(h:H p=U (.lst xs)):upd H a u p=U (.lst xs):=Bj e h λz=>nomatch z
theorem aR.ba(h:aR H v x y)(e:H a=U (.dT kvs)):aR (upd H a u) v x y:=let ⟨t,e1,h1⟩:=h;#[t,e1,Bk e h1]
theorem bp.ba(h:bp H kvs tb)(e:H a=U (.dT kvs)):bp (upd H a u) kvs tb:=h.imp λy y y z=>z.ba e
theorem Ux{K:adz}{xs:List V}(e:H a=U (.dT kvs))(h:aj K H p xs):aj K (upd H a (.ba o (.dT kvs))) p xs:=by
 rcases h with (h|⟨z,h⟩)|h
 .exact .inl (.inl (Uw e h))
 .exact .inl (.inr #[z,Bj e h λz=>nomatch z])
 .exact .inr h
end
theorem fv.z(e:H a=U (.ba o (.dT kvs)))(eb:H b=U (.tup (k.map kV))):fv H a (.ref b) (dB kvs k):=.inr #[kvs,k,b,.inr #[o,e],Y,eb,Y]
noncomputable def nK(tb:Tb)(i:Int):List Mk:=((nI tb).filter λr=>decide (r.1.1=i)).map λr=>(r.1.2.toNat,r.2)
noncomputable def fN(cs:List Int)(t:Nat):Int:=cs.getD t 0
theorem Uy(h:t<cs.length):(cs.map V.int)[t]?=U (V.int (fN cs t)):=by rw[adR,adC h];unfold fN;rw[adB,adC h];rfl
section
end
end Gz
namespace Gz
open PySem
theorem slot1{t:alL}{q:Nat}(hp:t.place = (List.toArray [q]))(hd:t.dummies = (List.toArray []))(j:Nat):t.slot j=if q=j then .live 0 else .empty:=by
 unfold alM aid;rw[hp,hd];simp only[SetTable.below,ae8,adS,aeg,agh];by_cases h:q<j
 .have:q≠j:=by lia
  simp[h,this]
 .by_cases e:q=j<;>simp[h,e]
theorem Jh(hp:t.place = (List.toArray [q]))(hd:t.dummies = (List.toArray []))(hm:t.mask=7)(hf:∀ i,(f i == h)=false) :
 ∀ (n m:Nat) (p:SetTable.Probe),p.more=0->p.j=p.i->p.dummy=O->p.perturb<32 ^ n->p.i<=7->∃ j,j≠q/\afZ t f h (n+(m+2)) p=U (.empty j O)
 | n,m,⟨j,mo,i,pe,du⟩,h1,h2,h3,h4,h5=>by
  dsimp only at h1 h2 h3 h4 h5;subst h1 h3;obtain rfl:i=j:=h2.symm;have ad:t.advance #[i,0,i,pe,O]=#[(i * 5+1+pe / 32) % 8,0,(i * 5+1+pe / 32) % 8,pe / 32,O]:=by simp[SetTable.advance,SetTable.leap,hm,alg]
  have le:(i * 5+1+pe / 32) % 8<=7:=by lia
  by_cases e:q=i
  .cases n with
   | zero =>
    have z:(i * 5+1+pe / 32) % 8≠q:=by lia
    refine#[_,z,?_];rw[show 0+(m+2)=(m+1)+1 by lia,afZ,slot1 hp hd,if_pos e];simp only[hf,ad5,if_false];rw[ad,afZ,slot1 hp hd,if_neg (aey z)]
   | succ n =>
    obtain⟨j,j1,j2⟩:=Jh hp hd hm hf n m #[_,0,_,pe / 32,O] Y Y Y (by dsimp only;rw[Nat.pow_succ] at h4;exact Nat.div_lt_of_lt_mul (by lia)) le;refine#[j,j1,?_];rw[show n+1+(m+2)=(n+(m+2))+1 by lia,afZ,slot1 hp hd,if_pos e];simp only[hf,ad5,if_false];rw[ad];exact j2
  .refine#[i,aey e,?_];rw[show n+(m+2)=(n+m+1)+1 by lia,afZ,slot1 hp hd,if_neg e]
structure iY(t:alL)(L:List (Nat × Int × adH)):Prop where
 pl:t.place=(L.map (·.1)).toArray
 du:t.dummies = (List.toArray [])
 ma:t.mask=7
 sh:L=[]∨(∃ a,L=[a]) ∨ ∃ a b,L=[a,b]/\a.1<b.1
section
theorem iY.fits(k:iY t L):t.fits (L.map (·.2)).toArray.size=true:=by obtain⟨h1,h2,h3,h4⟩:=k;rcases h4 with rfl|⟨a,rfl⟩|⟨a,b,rfl,y⟩<;>simp[SetTable.fits,aiW,h1,h2,h3]
theorem iY.zero(k:iY t L):SetTable.below t.place 0=0:=by obtain⟨h1,h2,h3,h4⟩:=k;rcases h4 with rfl|⟨a,rfl⟩|⟨a,b,rfl,y⟩<;>simp[h1,SetTable.below,ae8]
theorem iY.next(k:iY t L)(hi:i<L.length):SetTable.below t.place (L[i].1+1)=i+1:=by
 obtain⟨h1,h2,h3,h4⟩:=k;rw[h1];rcases h4 with rfl|⟨a,rfl⟩|⟨a,b,rfl,z⟩
 .cases hi
 .obtain rfl:i=0:=by simpa using hi
  simp[SetTable.below,ae8]
 .match i,hi with
  | 0,_ =>
   have:¬ b.1<a.1+1:=by lia
   simp[SetTable.below,ae8,this]
  | 1,_=>simp[SetTable.below,ae8]
theorem iY.free(k:iY t L)(hl:L.length<=1)(h:Int):∃ j,t.freeSlot h=U (j,false)/\j∉L.map (·.1):=by
 obtain⟨h1,h2,h3,h4⟩:=k;rcases h4 with rfl|⟨a,rfl⟩|⟨a,b,rfl,y⟩
 .refine#[SetTable.bits h % 8,?_,λhx=>nomatch hx];simp[aku,alr,als,ahZ,h3,afZ,alM,aid,h1,h2,SetTable.below,ae8]
 .have bt:SetTable.bits h<2 ^ 64:=by unfold SetTable.bits;lia
  obtain⟨j,j1,j2⟩:=Jh (q:=a.1) h1 h2 h3 (f:=λy=>h+1) (h:=h) (λy=>by simp;lia) 13 205 (t.probeStart h) (by simp[ahZ,h3,alg]) Y Y (adW bt (by decide)) (by simp only[ahZ,h3];lia);refine#[j,?_,by simpa using j1];unfold aku alr als;rw[h3,j2];rfl
 .simp at hl
theorem iY.put(k:iY t L)(hl:L.length<=1)(hj:j∉L.map (·.1))(h:Int)(x:adH) :
 ∃ t' p L',t.put j=(t',p)/\iY t' L'/\ahf (L.map (·.2)).toArray p (h,x)=(L'.map (·.2)).toArray/\t'.led=t.led/\t'.plain=t.plain/\t'.fill=L.length+1/\L'.Perm ((j,h,x)::L):=by
 obtain⟨h1,h2,h3,h4⟩:=k;rcases h4 with rfl|⟨a,rfl⟩|⟨a,b,rfl,y⟩
 .refine#[_,_,[(j,h,x)],Y,#[?_,?_,h3,.inr (.inl #[_,Y])],?_,Y,Y,?_,.refl _]<;>simp[aiW,aid,ahf,h1,h2,SetTable.below,ae8]
 .have hj:j≠a.1:=by simpa using hj
  by_cases z:a.1<j
  .refine#[_,_,[a,(j,h,x)],Y,#[?_,?_,h3,.inr (.inr #[_,_,Y,z])],?_,Y,Y,?_,.swap _ _ _]<;>simp[aiW,aid,ahf,h1,h2,SetTable.below,ae8,z]
  .refine#[_,_,[(j,h,x),a],Y,#[?_,?_,h3,.inr (.inr #[_,_,Y,show j<a.1 by lia])],?_,Y,Y,?_,.refl _]<;>simp[aiW,aid,ahf,h1,h2,SetTable.below,ae8,z]
 .simp at hl
end
end Gz
namespace Gz
open PySem PySem.Spec PyProof.Rows L2
theorem Ji:Manifest.owners.lookup (String.ofList ['r','o','t','a','r','e','t','i','_','t','e','s'].reverse)=U Manifest.sig_set_iterator:=by kernel_rfl
theorem rq:Slot "set_iterator" "__next__" "set_iterator.__next__" :=
 .of (owner := "set_iterator") (n := "__next__") (by rw[agX,afO];kernel_rfl) (by decide +kernel) (by decide +kernel) (by decide +kernel)
  (by first|exact .inl (by decide +kernel)|exact .inr (by decide +kernel)) (by rw[ajN];kernel_rfl)
theorem Jj:aib table "set_iterator.__next__" = U afG.«set_iterator.__next__»:=entryFor_of_tree (by kernel_rfl)
theorem Jk(a:adH):ai1 "set_iterator.__next__" #[[a],[]]:=by unfold ai1;rw[signature?_of (id := "set_iterator.__next__") (n:=['_','_','t','x','e','n','_','_']) (o:=['r','o','t','a','r','e','t','i','_','t','e','s']) (by kernel_rfl) Ji];kernel_rfl
theorem Uz:aib table "set.__iter__" = U afG.«frozenset.__iter__» :=
 entryFor_alias (id' := "frozenset.__iter__") (by kernel_rfl) (by first|rfl|decide +kernel) (by decide +kernel) (by kernel_rfl)
section
theorem UA(hT:s.TypeIs (.ref d) "set")(q:Q false s):adY (model prog w) A (agm (.ref d)) Q E s:=by
 unfold agm;refine ady (agi hT PySem.F.slot_set_len.lookup ?_);generalize hid:("set.__len__" : String)=UB
 wp_delta
 rw[show splitId UB=U ("set","__len__") from by subst hid;decide +kernel];subst hid;refine ady (af9 (T := "set") (b:=true) hT (by rw[ajN];kernel_rfl) ?_);refine agY (λfu=>absurd fu (by decide)) (λy=>?_);refine agY (λy=>?_) (λfu=>absurd (by decide +kernel) fu);refine ady (akG hT ?_);exact adD q
theorem Jl:aej "set" = U (.type "set"):=by decide +kernel
end
def ko(h:afH)(a:adK)(p:P2):Prop:=∃ o t u n,h.get? a=U o/\o.cls = .type "tuple" /\ o.data = .seq (List.toArray [.int p.1 t,.int p.2 u]) n
theorem ko.keep(x:ko h a p)(k:∀ o,h.get? a=U o->h'.get? a=U o):ko h' a p:=let ⟨o,t,u,n,e,r⟩:=x;#[o,t,u,n,k o e,r]
section
theorem Jm(h:Q (.bool (decide (x<y))) s):adY (model prog w) A (aiP .Lt (.int x t) (.int y u)) Q E s :=
 richCompare_gives (op:=.Lt) (aly s _ t) (aly s _ u) PySem.F.slot_int_lt PySem.F.entry_int_lt (PySem.F.args_int_lt_2 _ _) (gives_int_lt _ _ t u) (λx=>nomatch x) h
theorem xR(ha:ko s.heap a p)(hb:ko s.heap b q)(hu:A.units<aii)(h:Q (.bool (gC p q)) s):adY (model prog w) A (aiP .Lt (.ref a) (.ref b)) Q E s:=by
 obtain⟨oa,t1,u1,n1,uv,hca,hda⟩:=ha;obtain⟨ob,t2,u2,n2,hob,hcb,fW⟩:=hb;have Ta:s.TypeIs (.ref a) "tuple" := #[oa,uv,hca];have Tb:s.TypeIs (.ref b) "tuple" := #[ob,hob,hcb];refine wpAny_richCompare_same_room Ta Tb aju (aeX aju Ta PySem.F.entry_tuple_lt ?_ (PySem.F.args_tuple_lt_2 _ _)) hu;show adY _ _ (alz (.ref b) (.type "tuple") >>= _) _ _ s;refine ady (af9 Tb isSubtype_tuple_tuple ?_);simp only[ahJ,ad5,if_false];refine ady (ake uv hda ?_);refine ady (ake hob fW ?_);refine ady ?_;refine akO _ (λrest r s'=>r.1=O/\s'=s/\(rest=[(.int p.1 t1,.int q.1 t2),(.int p.2 u1,.int q.2 u2)]∨(rest=[(.int p.2 u1,.int q.2 u2)]/\p.1=q.1)∨(rest=[]/\p.1=q.1/\p.2=q.2))) _ ?_ ?_ _ _ #[Y,Y,.inl rfl]
 .rintro ⟨u,v⟩ rest r s' ⟨hr,rfl,hz⟩;rcases hz with hz|⟨hz,e1⟩|⟨hz,y⟩
  .cases hz;refine ady (aiZ ?_);by_cases e:p.1=q.1
   .rw[show (p.1 == q.1)=true by simpa using e];simp only[ahJ,ad5,if_false];exact adD #[Y,Y,.inr (.inl #[trivial,e])]
   .rw[show (p.1 == q.1)=false by simpa using e];simp only[alu,if_true];refine ady (agL (ady (Jm (ady (adD (adD (adD #[_,Y,λz=>(nomatch z),?_])))))));have e2:gC p q=decide (p.1<q.1):=by unfold gC;rw[decide_eq_false e];simp
    rw[<- e2];exact h
  .cases hz;refine ady (aiZ ?_);by_cases e:p.2=q.2
   .rw[show (p.2 == q.2)=true by simpa using e];simp only[ahJ,ad5,if_false];exact adD #[Y,Y,.inr (.inr #[trivial,e1,e])]
   .rw[show (p.2 == q.2)=false by simpa using e];simp only[alu,if_true];refine ady (agL (ady (Jm (ady (adD (adD (adD #[_,Y,λz=>(nomatch z),?_])))))));have e2:gC p q=decide (p.2<q.2):=by unfold gC;rw[e1];simp
    rw[<- e2];exact h
  .cases hz
 .rintro ⟨r1,r2⟩ s' ⟨hr,rfl,hz⟩;simp only at hr;subst hr;rcases hz with hz|⟨hz,y⟩|⟨y,e1,e2⟩
  .cases hz
  .cases hz
  .refine adD #[_,Y,λz=>(nomatch z),?_];have e3:gC p q=false:=by unfold gC;rw[e1,e2];simp
   rw[e3] at h;exact h
theorem UC(hh:A.handled=O)(ha:ko s.heap a p)(hb:ko s.heap b q)(hu:A.in1.units<aii)(h:∀ h' tk,(∀ c o,s.heap.get? c=U o->h'.get? c=U o)->Q (.ref (if gC q p=true then b else a)) { s with heap:=h',toks:=tk }):adY (model prog w) A (call (.builtin "min") [.ref a,.ref b]) Q E s:=by
 have nm:(toString "min" ++ toString ".loop" : String) = "min.loop" := by decide
 refine call_function_tree akL akq akr (PySem.F.args_min2 _ _) ?_;show adY _ A.in1 (afB "min" ["key","default"] 0 #[[],[]] >>= _) _ _ s;refine ady (aiQ (show afB "min" ["key","default"] 0 #[[],[]]=pure [O,O] from Y) ?_);show adY _ A.in1 (alK [.ref a,.ref b] >>= _) _ _ s;refine ady (aeP ?_);have hT:(s.heap.push { cls:=.type "tuple",data:=.seq (List.toArray [.ref a,.ref b]) }).IsTuple s.heap.objs.size (List.toArray [.ref a,.ref b]):=#[_,adN _ Y,Y,0,Y]
 refine ady (ah9 hT ?_);show adY _ A.in1 (amf [] >>= _) _ _ _;refine ady (aeP ?_);generalize e1:s.heap.push { cls:=.type "tuple",data:=.seq (List.toArray [.ref a,.ref b]) }=h1 at hT;have z1:h1.objs.size=s.heap.objs.size+1:=by rw[<- e1];exact afR ..
 have k1:∀ c o,s.heap.get? c=U o->h1.get? c=U o:=λc o e=>by rw[<- e1];exact adE _ e
 dsimp only;generalize e2:h1.push { cls:=.type "tuple_iterator",data:=.fields (List.toArray [.ref s.heap.objs.size,.int 0 0]) }=h2;have z2:h2.objs.size=h1.objs.size+1:=by rw[<- e2];exact afR ..
 have k2:∀ c o,h1.get? c=U o->h2.get? c=U o:=λc o e=>by rw[<- e2];exact adE _ e
 have W:=Walks.tuple (prog:=prog) (w:=w) (A:=A.in1) hh h1.objs.size s.heap.objs.size (by rw[z1];exact adV (af7 _)) (List.toArray [.ref a,.ref b]);have Av:h2.IsTupleIter h1.objs.size s.heap.objs.size 0/\h2.IsTuple s.heap.objs.size (List.toArray [.ref a,.ref b]):=#[#[_,by rw[<- e2];exact adN _ Y,Y,Y],by rw[<- e2];exact hT.push _]
 have zs:h2.objs.size∉[h1.objs.size,s.heap.objs.size]:=λz=>by
  simp only[adL,aeq,or_false] at z;rcases z with z|z
  .rw[z2] at z;exact akP _ z
  .rw[z2,z1] at z;exact absurd z (by intro z;have:s.heap.objs.size<s.heap.objs.size+1+1:=af0 (af7 _);rw[z] at this;exact aeY _ this)
 have nS:h2.objs.size∉[h1.objs.size]:=λz=>zs (by simp at z;simp[z]);have up:∀ c o,s.heap.get? c=U o->c∉[h1.objs.size]/\c≠h2.objs.size/\(h2.push { cls:=.type "list",data:=.seq (List.toArray []) }).get? c=U o:=λc o e=>by have l1:=adF (k1 c o e);have l2:=adF (k2 c o (k1 c o e));exact#[λz=>by simp at z;rw[z] at l1;exact aeY _ l1,adV l2,adE _ (k2 c o (k1 c o e))]
 let G9q:afH->Prop:=λh=>ko h a p/\ko h b q;have b8:∀ (x:adK) (r:P2),ko s.heap x r->x∉[h1.objs.size]/\x≠h2.objs.size:=λx r hx=>by obtain⟨o,y,y,y,e,y⟩:=hx;exact#[(up x o e).1,(up x o e).2.1]
 have hG:∀ h h',G9q h->(∀ b o,b∉[h1.objs.size]->b≠h2.objs.size->h.get? b=U o->h'.get? b=U o)->G9q h':=λh h' g k=>#[g.1.keep λo e=>k a o (b8 a p ha).1 (b8 a p ha).2 e,g.2.keep λo e=>k b o (b8 b q hb).1 (b8 b q hb).2 e]
 let bt:Nat->Nat->Bool:=λi j=>gC (if i=0 then p else q) (if j=0 then p else q);have Jn:∀ i v,((List.toArray [ad7 a,ad7 b]):Array adH)[i]?=U v->(i=0/\v = .ref a)∨(i=1/\v = .ref b):=λi v e=>by
  match i,e with
  | 0,e=>cases e;exact .inl #[Y,Y]
  | 1,e=>cases e;exact .inr #[Y,Y]
  | i+2,e=>simp at e
 have tV:∀ i j vi vj (s:adQ) (Q:adH->adQ->Prop) (E:adH->adQ->Prop),((List.toArray [ad7 a,ad7 b]):Array adH)[i]?=U vi->((List.toArray [ad7 a,ad7 b]):Array adH)[j]?=U vj->G9q s.heap->Q (.bool (bt i j)) s->adY (model prog w) A.in1 (aiP .Lt vi vj) Q E s:=by
  intro i j vi vj s Q E ei ej g hq;rcases Jn i vi ei with ⟨rfl,rfl⟩|⟨rfl,rfl⟩<;>rcases Jn j vj ej with ⟨rfl,rfl⟩|⟨rfl,rfl⟩
  .exact xR g.1 g.1 hu hq
  .exact xR g.1 g.2 hu hq
  .exact xR g.2 g.1 hu hq
  .exact xR g.2 g.2 hu hq
 have g0:G9q (h2.push { cls:=.type "list",data:=.seq (List.toArray []) }):=#[ha.keep λo e=>(up a o e).2.2,hb.keep λo e=>(up b o e).2.2]
 have oS:(h2.push { cls:=.type "list",data:=.seq (List.toArray []) }).get? h2.objs.size=U { cls:=.type "list",dict:=O,data:=.seq (List.toArray []) 0,slots:=(List.toArray []) }:=adN _ rfl;have qI:=W.frame 0 h2 (h2.push { cls:=.type "list",data:=.seq (List.toArray []) }) Av λb y o q=>adE _ q;rw[nm];refine adD #[aft afF _,?_];refine aeH ag3 ?_;rw[aes afF _];show adY _ A.in1 (aj7 (.ref h2.objs.size) >>= _) _ _ _;refine ady (agw oS Y ?_);show adY _ A.in1 (tryCatch (agv (.ref h1.objs.size)) _ >>= _) _ _ _;refine ady (agx (W.item 0 _ _ _ (by simp) qI λv h3 tk pv iO kp=>?_));have kg:=kp _ _ nS oS;show adY _ A.in1 (aiz h2.objs.size (λy=>(List.toArray [v,v])) >>= _) _ _ _;refine ady ?_;refine afA kg Y ?_;rw[nm];have g3:G9q h3:=hG _ _ g0 λb o hw y e=>kp b o hw e;refine adD #[aft afF _,(GS (by decide) ag3 afF) W hG tV zs 1 0 _ v _ (by simp) (W.frame _ _ _ iO λb hf o e=>?_) (hG _ _ g3 λb o y nF e=>(adZ _ _ (aey nF)).trans e) pv (aef _ kg Y) λv2 h4 UD p4 k4=>?_]
 .exact (adZ _ _ (λz:h2.objs.size=b=>zs (by rw[z];exact hf))).trans e
 .have ev:v2 = .ref (if gC q p=true then b else a):=by
   have e4:((List.toArray [ad7 a,ad7 b]):Array adH)[ahB bt 1]?=U v2:=by simpa using p4
   have A5:ahB bt 1=if gC q p=true then 1 else 0:=by show (if bt 1 0 then 1 else 0)=_;rfl
   rw[A5] at e4;by_cases hl:gC q p=true
   .rw[if_pos hl] at e4 ⊢;cases e4;rfl
   .rw[if_neg hl] at e4 ⊢;cases e4;rfl
  subst ev;refine h h4 UD λc o e=>?_;obtain⟨u1,u2,u3⟩:=up c o e;exact k4 c o u1 u2 ((adZ _ _ (aey u2)).trans (kp c o u1 u3))
def Jo(H:Hp)(Q:VK)(xs:List V):Prop:=∃ (a b:adK) (p q:P2),xs=[.ref a,.ref b]/\H a=U (.tup [.int p.1,.int p.2])/\H b=U (.tup [.int q.1,.int q.2])/\Q (.ref (if gC q p=true then b else a)) H
theorem UE(hc:X.calm=true)(hu:X.A.units+1<aii):e9 X (.builtin "min") (λxs H Q=>Jo H Q xs):=by
 intro pins s G H xs us Q I r h;obtain⟨a,b,p,q,rfl,ha,hb,hq⟩:=h;obtain⟨u,v,rfl,ru,rv⟩:=vals2 r;cases ru;cases rv;have pr:∀ (x:adK) (r:P2),H x=U (.tup [.int r.1,.int r.2])->ko s.heap x r:=λx r hx=>by
  obtain⟨y,ax,hv,hi⟩:=(show bW X.prog X.w H s.heap x (.tup [.int r.1,.int r.2]) from I.aA x _ hx)
  obtain⟨u1,u2,rfl,⟨t1,rfl⟩,⟨t2,rfl⟩⟩:=vals2 hv;obtain⟨o,ho,bf,n,hd⟩:=hi;exact#[o,t1,t2,n,ho,bf,hd]
 exact UC (I.ok.hd hc) (pr a p ha) (pr b q hb) (show X.A.units+1<aii from hu) λh' tk k=>#[.ref _,H,I.kept k,Y,hq]
end
section
end
section
def Jp(vs:List adH)(kis:List (List Int))(i:Nat):Prop:=∃ x t,vs[i]?=U (.int x t)/\kis.getD i []=[x]
theorem UG(hk:∀ i,i<vs.length->Jp vs kis i):xy prog w h vs kis:=λh2=>by
 refine#[oneType',λA E s e=>#[λQ q=>PySem.W.kas_kind (T:=.type "int") h2 (λv hv=>?_) (by decide) (by decide) q,λi j hi hj C q=>?_]]
 .obtain⟨i,hi,rfl⟩:=ajZ hv;obtain⟨x,tt,e,y⟩:=hk i hi;rw[adC hi] at e;rw[Option.some.inj e];exact PySem.W.Looks.now
 .obtain⟨x1,t1,a1,l1⟩:=hk i hi;obtain⟨x2,t2,a2,l2⟩:=hk j hj;rw[adB,adB,a1,a2];refine PySem.W.kat_lt_int (cast (congrArg (λb=>C b s) ?_) q);unfold dA;rw[l1,l2,HT.qB];by_cases e:x1=x2
  .rw[if_pos e,e];simp[HT.lexLt]
  .rw[if_neg e]
theorem UH(hl:kis.length=vs.length)(fZ:vs.length<64)(hk:∀ i,i<vs.length->Jp vs kis i)(uf:∀ (A':aff) (Q':List adH->adQ->Prop) (E':adH->adQ->Prop),A'.handled=A.handled->(∀ h' tk,(∀ b o,s.heap.get? b=U o->h'.get? b=U o)->s.heap.objs.size<=h'.objs.size->Q' vs { s with heap:=h',toks:=tk })->adY (model prog w) A' (collect (.ref r)) Q' E' s)(q:∀ l h' tk,s.heap.objs.size<=l->(∀ b o,s.heap.get? b=U o->h'.get? b=U o)->(∃ c,h'.get? l=U (age "list" (afN ((c9 (dA kis) vs.length).toList.map λi=>vs.getD i Value.none)) c))->Q (.ref l) { s with heap:=h',toks:=tk }) :
 adY (model prog w) A (call (.builtin "sorted") [.ref r]) Q E s:=Ij hl fZ (λg y=>UG hk) uf q
end
noncomputable def o8(w:aeS):Bool:=!(w.params.followText "set-order")
section
noncomputable abbrev ku(w:aeS):Obj:={ cls:=.type "set",dict:=O,data:=.set (List.toArray []) 0 (.fresh 0 0 (o8 w)) }
theorem UI(a:adH)(h:Q₁ (.ref s.heap.objs.size) { s with heap:=s.heap.push (ku w) }) :
 ags (model prog w) A (.call (.builtin "set.__new__") #[[.type "set",a],[]]) (wants Q₁ E) s:=by
 refine alh (show adY _ A.in1 (do ahA "set.__new__" #[[.type "set",a],[]];again (.builtin "set.__new__" #[[.type "set",a],[]])) _ _ s from ?_);refine ady (aiQ (PySem.F.newCall_set_1 a) (adD #[aft ajv _,aeH PySem.F.entry_set_new ?_]));rw[aes ajv _];unfold afG.«set.__new__» Builtin.Frozenset.newClass;have xS:=PySem.sub_set_self;obtain⟨hp,g,d,tk,os⟩:=s;dsimp only;wp_walk;refine agE (adD ?_);dsimp only;simp only[newObj];exact ady (wpAny_alloc (adD (adD h)))
theorem UJ{h:afH}{S:adK}{o:Obj}{es es':Array (Int × adH)}{ep:Nat}{t t':alL}(g1:h.get? S=U o)(g3:o.data = .set es ep t) :
 (h.update S (alE es' t')).get? S=U { o with data:=.set es' (ep+1) t' }:=by
 have:=aef (alE es' t') g1 (by rw[putSet_of es' t' g3];rfl);rw[putSet_of es' t' g3] at this;exact this
theorem Jq:∀ {xs:List α} {l:List β},l.Perm (xs.map f)->∃ ys:List α,l=ys.map f/\ys.Perm xs:=by
 intro xs l h;generalize hz:xs.map f=z at h
 induction h generalizing xs with
 | nil=>exact#[[],Y,by cases xs with|nil=>exact .nil|cons=>cases hz]
 | @cons a l1 l2 p ih =>
  cases xs with
  | nil=>cases hz
  | cons x xs =>
   obtain⟨e1,e2⟩:=List.cons.inj hz;obtain⟨ys,rfl,q⟩:=ih e2;exact#[x::ys,by rw[<- e1];rfl,q.cons x]
 | swap a b l =>
  cases xs with
  | nil=>cases hz
  | cons x xs =>
   cases xs with
   | nil=>simp at hz
   | cons y xs =>
    simp only[adU,List.cons.injEq] at hz;obtain⟨e1,e2,e3⟩:=hz;exact#[y::x::xs,by simp[e1,e2,e3],.swap x y xs]
 | trans p q AI AJ =>
  obtain⟨ys,e,r⟩:=AJ hz;obtain⟨zs,e',r'⟩:=AI e.symm;exact#[zs,e',r'.trans r]
end
theorem Jr:Slot "set_iterator" "__iter__" "set_iterator.__iter__" :=
 .of (owner := "set_iterator") (n := "__iter__") (by rw[agX,afO];kernel_rfl) (by decide +kernel) (by decide +kernel) (by decide +kernel)
  (by first|exact .inl (by decide +kernel)|exact .inr (by decide +kernel)) (by rw[ajN];kernel_rfl)
theorem UK:aib table "set_iterator.__iter__" = U afG.«dict_keyiterator.__iter__» :=
 entryFor_alias (id' := "dict_keyiterator.__iter__") (by kernel_rfl) (by first|rfl|decide +kernel) (by decide +kernel) (by kernel_rfl)
theorem UL(a:adH):ai1 "set_iterator.__iter__" #[[a],[]]:=by unfold ai1;rw[signature?_of (id := "set_iterator.__iter__") (n:=['_','_','r','e','t','i','_','_']) (o:=['r','o','t','a','r','e','t','i','_','t','e','s']) (by kernel_rfl) Ji];kernel_rfl
theorem Js(f:Nat->Nat):∀ (n k:Nat) (left:List α) (out:Array α),left.length=n->(pickOrder.go f n k left out).toList.Perm (out.toList++left)
 | 0,k,left,out,h=>by obtain rfl:left=[]:=afu.mp h;unfold pickOrder.go;simp
 | n+1,k,left,out,h=>by have hl:f k % left.length<left.length:=Nat.mod_lt _ (by lia);unfold pickOrder.go;rw[adC hl];refine (Js f n (k+1) _ _ (by rw[List.length_eraseIdx_of_lt hl];lia)).trans ?_;rw[akv,aiB];refine List.Perm.append_left _ ?_;have:=List.perm_middle (a:=left[f k % left.length]) (l₁:=left.take (f k % left.length)) (l₂:=left.drop (f k % left.length+1));rw[List.eraseIdx_eq_take_drop_succ];refine .trans ?_ (.of_eq (afP (f k % left.length) left));rw[aeF hl];exact this.symm
theorem UM(f:Nat->Nat)(xs:Array α):(al3 f xs).toList.Perm xs.toList:=by unfold al3;simpa using Js f xs.size 0 xs.toList (List.toArray []) (by simp)
section
noncomputable def kx(w:aeS)(S:adK)(ep:Nat)(es:Array (Int × adH)):Array (Int × adH):=if w.params.followText "set-order" then al3 (w.params.setOrder S ep) es else es
theorem Bl(w:aeS)(S:adK)(ep:Nat)(es:Array (Int × adH)):(kx w S ep es).toList.Perm es.toList:=by
 unfold kx;split
 .exact UM _ _
 .exact .refl _
structure rA(w:aeS)(S:adK)(o:Obj)(ep:Nat)(t:alL)(L:List (Nat × Int × adH)):Prop where
 cls:o.cls = .type "set"
 dat:o.data = .set (L.map (·.2)).toArray ep t
 tok:iY t L
 led:t.led=o8 w
 pln:t.plain=true
theorem UN(x:rA w S o ep t L)(h:s.heap.get? S=U o)(q:Q false s):adY (model prog w) A (setDrawn S) Q E s:=by unfold setDrawn alF;refine ady (ahg h x.dat x.tok.fits ?_);dsimp only;refine ady (ady (agE (adD (adD ?_))));refine cast (congrArg (λb=>Q b s) ?_) q;symm;rw[ajs];right;show (!t.plain && _)=false;rw[x.pln];rfl
noncomputable abbrev Bm(S:adK)(n ep:Nat)(sl i:Int):Obj:={ cls:=.type "set_iterator",data:=.fields (List.toArray [ag2 sl,ag2 i,.ref S,ag2 n,ag2 ep]) }
theorem UO(x:rA w S o ep t L)(h:s.heap.get? S=U o)(hQ:Q (.ref s.heap.objs.size) { s with heap:=s.heap.push (Bm S L.length ep 0 0) }):adY (model prog w) A (alV (.ref S)) Q E s:=by have hT:s.TypeIs (.ref S) "set" := #[o,h,x.cls];refine aiD hT ali (aeX ali hT Uz ?_ (F.args_set_iter_1 _));unfold afG.«frozenset.__iter__»;refine ady (m:=Builtin.Frozenset.slot0 _ _) (adD ?_);refine ady (m:=Builtin.Frozenset.sizeOf _) (ady (ah0 h x.dat x.tok.fits (adD ?_)));refine ady (UN x h ?_);simp only[ad5,if_false];refine ady (adD ?_);refine ady (wpAny_setEpoch_of h x.dat x.tok.fits ?_);refine ady (aeP (adD #[_,Y,"set_iterator",_,#[_,adN _ Y,Y],rq.lookup,?_]));refine cast (congrArg (λb=>Q _ { s with heap:=s.heap.push b }) ?_) hQ;simp[Bm]
theorem Jt(x:rA w S o ep t L)(h:s.heap.get? S=U o)(hb:w.params.followText "set-order" = false->SetTable.below t.place sl=i)(q:∀ fT,(w.params.followText "set-order" = false->i<L.length->SetTable.below t.place fT=i+1)->Q (((kx w S ep (L.map (·.2)).toArray)[i]?).map λe=>(e.2,fT)) s):adY (model prog w) A (amg S sl i ep) Q E s:=by
 unfold amg alF;refine ady (ahg h x.dat x.tok.fits ?_);dsimp only;refine ady (ady (agE (adD ?_)));unfold kx at q;cases hf:w.params.followText "set-order" with
 | true =>
  simp only[hf,if_true] at q;rw[if_pos (show (model prog w).w.params.followText "set-order" = true from hf),if_neg (by simp)];unfold setWalk alF;refine ady (ady (ahg h x.dat x.tok.fits ?_));refine ady (ady (agE (adD ?_)));rw[if_pos (show (model prog w).w.params.followText "set-order" = true from hf)];exact ady (agE (adD (adD (q sl (λhz=>nomatch hz)))))
 | false =>
  simp only[hf,ad5,if_false] at q;rw[if_neg (show ¬ (model prog w).w.params.followText "set-order" = true from by rw[show (model prog w).w.params.followText "set-order" = false from hf];decide)];refine agY (λz=>absurd (show (!t.plain && _)=true from z) (by rw[x.pln];simp)) (λ_=>?_);have hl:t.led=true:=by rw[x.led];unfold o8;rw[hf];rfl
  refine ady ?_;show adY _ _ (if (!t.led && !(L.map (·.2)).toArray.isEmpty)=true then _ else pure _) _ _ _;rw[if_neg (by rw[hl];simp)];refine adD (adD ?_);rw[hb hf];by_cases hi:i<L.length
  .have e1:(L.map (·.2)).toArray[i]?=U L[i].2:=by simp[hi]
   have e2:t.place[i]?=U L[i].1:=by rw[x.tok.pl];simp[hi]
   have:=q (L[i].1+1) λ_ _=>x.tok.next hi
   rw[e1] at this ⊢;rw[e2];exact this
  .have e1:(L.map (·.2)).toArray[i]?=O:=by simp;lia
   have:=q 0 λ_ hz=>absurd hz hi;rw[e1] at this ⊢;exact this
theorem UP(hh:A.handled=O)(x:rA w S o ep t L)(bT:S≠I):Walks prog w A I [I,S] [I] L.length (λi v=>((kx w S ep (L.map (·.2)).toArray)[i]?).map (·.2)=U v)
 (λi h=>h.get? S=U o/\∃ sl:Nat,h.get? I=U (Bm S L.length ep sl i)/\(w.params.followText "set-order" = false->SetTable.below t.place sl=i)) where
 sub:=λb hb=>by simp at hb;simp[hb]
 frame:=λy y y st hk=>#[hk S (by simp) _ st.1,let ⟨sl,a,b⟩:=st.2;#[sl,hk I (by simp) _ a,b]]
 item:=λi s Q E hi st hQ=>by
  obtain⟨h1,sl,hI,hb⟩:=st;have hT:s.TypeIs (.ref I) "set_iterator" := #[_,hI,Y];have hlen:(kx w S ep (L.map (·.2)).toArray).size=L.length:=by have:=(Bl w S ep (L.map (·.2)).toArray).length_eq;simpa using this
  have c8:i<(kx w S ep (L.map (·.2)).toArray).size:=by lia
  unfold agv;refine ady (agW (afd (name:=ae2 "__next__") hT rq
   (aeX rq hT Jj ?_ (Jk _))))
  unfold afG.«set_iterator.__next__»;refine ady (adD (ady (agz hI Y ?_)));show adY _ _ (setEntries S >>= _) _ _ _;refine ady (ah0 h1 x.dat x.tok.fits ?_);refine agY (λz=>absurd z (by simp)) (λy=>?_);show adY _ _ (amg S (ajw (sl:Int)) (ajw (i:Int)) (ajw (ep:Int)) >>= _) _ _ _;rw[aep,aep,aep];refine ady (Jt x h1 hb λfT l6=>?_);rw[aei c8];dsimp only [Option.map_some];refine ady (ahj hI Y (by simp) ?_);have Ju:=aef (agp (·.setIfInBounds 0 (ag2 (fT:Int)))) hI rfl;refine ady (ahj Ju Y (by simp[agp]) ?_);have UQ:=aef (agp (·.setIfInBounds 1 (ag2 ((i:Int)+1)))) Ju rfl;have Jv:∀ (b:adK) (u:Obj),b≠I->s.heap.get? b=U u->((s.heap.update I (agp (·.setIfInBounds 0 (ag2 (fT:Int))))).update I (agp (·.setIfInBounds 1 (ag2 ((i:Int)+1))))).get? b=U u:=λb u hb e =>
   (adZ _ _ (aey hb)).trans ((adZ _ _ (aey hb)).trans e)
  refine adD #[_,Y,adD (hQ _ _ s.toks (by rw[aei c8];rfl) #[Jv S o bT h1,fT,UQ,λhf=>l6 hf hi] λb u hb e=>Jv b u (by simpa using hb) e)]
 done:=λs Q E st hQ=>by
  obtain⟨h1,sl,hI,hb⟩:=st;have hT:s.TypeIs (.ref I) "set_iterator" := #[_,hI,Y];have hlen:(kx w S ep (L.map (·.2)).toArray).size=L.length:=by have:=(Bl w S ep (L.map (·.2)).toArray).length_eq;simpa using this
  unfold agv;refine ady (agW (afd (name:=ae2 "__next__") hT rq
   (aeX rq hT Jj ?_ (Jk _))))
  unfold afG.«set_iterator.__next__»;refine ady (adD (ady (agz hI Y ?_)));show adY _ _ (setEntries S >>= _) _ _ _;refine ady (ah0 h1 x.dat x.tok.fits ?_);refine agY (λz=>absurd z (by simp)) (λy=>?_);show adY _ _ (amg S (ajw (sl:Int)) (ajw (L.length:Int)) (ajw (ep:Int)) >>= _) _ _ _;rw[aep,aep,aep];refine ady (Jt x h1 hb λfT l6=>?_);rw[agc (by lia)];show adY _ _ (akU (.ref I) 2 .none >>= _) _ _ s;refine ady (ahj hI Y (by simp) ?_);show adY _ _ (newExc (.type "StopIteration") [] >>= _) _ _ _;refine ady ?_;simp only[newExc,alK];refine ady (aeP ?_ (by size_fits));refine ady (m:=ail _ _) (aiQ (a:=Value.none) (by first|rfl|(simp only[ail];rfl)) ?_);refine aeP ?_ (by size_fits);simp only[raiseNew];refine ady (wpAny_handled ?_);rw[show A.in1.handled=O from hh];refine ady (adD (wpAny_throw ?_));refine ady (af9 (T := "StopIteration") (b:=true) #[_,adN _ Y,Y] ajL ?_);refine adD (hQ _ s.toks λb u hb e=>(((aeG ..).extBut.push _).push _) b u (by simpa using hb) e)
 self:=λy s y y st hQ=>by obtain⟨h1,sl,hI,hb⟩:=st;have hT:s.TypeIs (.ref I) "set_iterator" := #[_,hI,Y];refine aiD hT Jr (aeX Jr hT UK ?_ (UL _));show adY _ _ (ret (.ref I)) _ _ s;exact adD #[_,Y,"set_iterator",_,hT,rq.lookup,hQ]
theorem UR(x:rA w S o ep t L):ajM prog w "set" S S L.length (λi v=>((kx w S ep (L.map (·.2)).toArray)[i]?).map (·.2)=U v) (λh=>h.get? S=U o) where
 type:=λy h=>#[o,h,x.cls]
 there:=λy h=>#[adF h,adF h]
 keep:=λy y h hk=>hk S (.inl rfl) o h
 notList:=by decide
 notTuple:=by decide
 hint:=λy y y y h hq=>UA #[o,h,x.cls] hq
 iter:=λy y hh h=>#[_,_,(λy y hq=>UO x h hq),UP hh x (adV (adF h)),
  #[adE _ h,0,adN _ Y,λy=>x.tok.zero]]
noncomputable abbrev mH(m:Int × ah1):Int × adH:=(aiJ m.1,.int m.1 m.2)
def mI(h:afH)(S:adK)(M:List (Int × ah1))(led:Bool):Prop :=
 ∃ o ep t L,h.get? S=U o/\o.cls = .type "set" /\ o.data = .set (L.map (·.2)).toArray ep t/\iY t L/\t.led=led/\t.plain=true/\L.map (·.2)=M.map mH
theorem US(prog:aek)(w:aeS){M:List (Int × ah1)}:ElemsOf (ahy prog w) (M.map mH):=λe he=>by obtain⟨m,y,rfl⟩:=adP.mp he;exact#[#[m.1,by simp[ahy,ag6],Y],Y]
theorem add_int(hS:mI s.heap S M led)(hlen:M.length<2)(h0:k∈M.map (·.1)->Q false s)(h1:k∉M.map (·.1)->∀ h' M',Heap.SameBut S s.heap h'->mI h' S M' led->M'.Perm ((k,tt)::M)->Q true { s with heap:=h' }) :
 adY (model prog w) A (setAddHashed S (.int k tt) (aiJ k)) Q E s:=by
 obtain⟨o,ep,t,L,g1,g2,g3,tk,g4,g5,g7⟩:=hS;have hlM:L.length=M.length:=by have:=congrArg List.length g7;simpa using this
 have uw:ElemsOf (ahy prog w) (L.map (·.2)).toArray.toList:=by rw[ah2,g7];exact US prog w
 unfold setAddHashed setAddHashedIn;refine ae3 (ady (ahg g1 g3 tk.fits ?_));dsimp only;rw[byScan_of (knd:=ahy prog w) Y (by rw[adS,adA];unfold scanBound;lia) uw];simp only[if_true];unfold setAddByScan;refine ady (ady (agL ?_));refine ady (wpAny_setScan_of (knd:=ahy prog w) (k:=k) (by simp[ahy,ag6]) g1 g3 tk.fits uw ?_);rw[ah2,g7];by_cases cn:k∈M.map (·.1)
 .obtain⟨m,hm,hmk⟩:=adP.mp cn;cases hf:alN (λe=>(ahy prog w).is k e.2) (M.map mH) with
  | none =>
   have:=aim.mp hf (mH m) (adP.mpr #[m,hm,Y]);rw[<- hmk] at this;simp[ahy,ag6] at this
  | some j =>
   dsimp only;exact adD (adD (h0 cn))
 .have hf:alN (λe=>(ahy prog w).is k e.2) (M.map mH)=O:=by refine aim.mpr λe he=>?_;obtain⟨m,hm,rfl⟩:=adP.mp he;simp only[ahy,ag6];exact beq_eq_false_iff_ne.mpr λz=>cn (adP.mpr #[m,hm,z])
  rw[hf];dsimp only;obtain⟨j,j0,j1⟩:=tk.free (by lia) (aiJ k);obtain⟨t',p,L',p1,p2,p3,p5,p6,p7,hperm⟩:=tk.put (by lia) j1 (aiJ k) (Value.int k tt);have UT:layNew t (M.map mH).toArray (aiJ k) (.int k tt)=((L'.map (·.2)).toArray,t',false,false):=by rw[<- g7];unfold layNew;rw[j0];dsimp only;rw[p1,p3];have:=p2.fits;unfold SetTable.orStandIn;rw[this];rfl
  rw[UT];dsimp only;refine ady ?_;show adY _ _ (pure ()) _ _ _;refine adD ?_;rw[p6,g5];simp only[if_true];refine ady ?_;rw[hashByValue_scannable 8 (show (Value.int k tt).scannable=true from Y)];refine adD ?_;rw[show plainKind (Value.int k tt)=true from Y];simp only[if_true];have hsz:(L'.map (·.2)).toArray.size<=ad1:=by have:=hperm.length_eq;simp at this ⊢;rw[this];exact adG (show _<=64 by lia) (by decide)
  refine ady (wpAny_storeSet_of g1 g3 ?_ hsz);have gS:=UJ (es':=(L'.map (·.2)).toArray) (t':=t') g1 g3;have UU:=aeG s.heap S (alE (L'.map (·.2)).toArray t');have rB:(L'.map (·.2)).Perm (((k,tt)::M).map mH):=by refine (hperm.map (·.2)).trans ?_;simp only[adU,g7];exact .refl _
  have UW:t'.tooFull=false:=by unfold SetTable.tooFull;rw[p7,p2.ma];simp;lia
  rw[UW];simp only[ajK,ad5,if_false];obtain⟨M',e1,e2⟩:=Jq rB;exact adD (adD (h1 cn _ M' UU #[_,_,t',_,gS,g2,Y,p2,p5.trans g4,p6.trans g5,e1] e2))
def ux(key:Nat->Int)(i:Nat)(M:List (Int × ah1)):Prop :=
 (M.map (·.1)).Nodup/\(∀ m∈M,∃ j,j<i/\m.1=key j)/\(∀ j,j<i->key j∈M.map (·.1))/\M.length<=i
theorem UX(e:h.get? S=U (ku w)):mI h S [] (o8 w) :=
 #[_,0,_,([]:List (Nat × Int × adH)),e,Y,Y,#[Y,Y,Y,.inl rfl],Y,Y,Y]
theorem UY{R:akA->adQ->Prop}{I:adK}{fp wr:List adK}{G9q:Array GenState->Array GenState->Prop}{n:Nat}{P:Nat->adH->Prop}{St:Nat->adQ->Prop}(W:WalksS prog w A.in1 I fp wr G9q n P St)(S:adK)(qJ:S∉fp){key:Nat->Int}{led:Bool}(UZ:∀ i v,P i v->∃ tt,v = .int (key i) tt)(hn:n<=2) :
 ∀ (k i:Nat) (s:adQ) (M:List (Int × ah1)),n-i=k->i<=n->St i s->mI s.heap S M led->ux key i M ->
  (∀ s' M',Moved (S::wr) G9q s s'->mI s'.heap S M' led->ux key n M'->R (.ok (.ret .none)) s') ->
  ags (model prog w) A (.builtin "set.update.loop" #[[.ref S,.ref I],[]]) R s:=by
 have Jw:S∉wr:=λh=>qJ (W.sub _ h);have xS:∀ b∈wr,b∈S::wr:=λb hb=>aer _ hb;intro k
 induction k with
 | zero =>
  intro i s M hk hi cW hS hM hR;obtain rfl:i=n:=by lia
  refine aeH agA ?_;rw[aes afv _];refine show adY _ A.in1 (agv (.ref I) >>= _) _ _ s from ady (W.done s _ _ cW λs' hm=>?_);exact show adY _ A.in1 (ret Value.none) _ _ s' from adD (hR s' M (hm.mono xS) (let ⟨o,ep,t,L,ho,rest⟩:=hS;#[o,ep,t,L,hm.heap S _ Jw ho,rest]) hM)
 | succ k ih =>
  intro i s M hk hi cW hS hM hR;have bc:i<n:=by lia
  refine aeH agA ?_;rw[aes afv _];refine show adY _ A.in1 (agv (.ref I) >>= _) _ _ s from ady (W.item i s _ _ bc cW λv s' hP U0 hm=>?_);obtain⟨tt,rfl⟩:=UZ i v hP;have mJ:mI s'.heap S M led:=let ⟨o,ep,t,L,ho,rest⟩:=hS;#[o,ep,t,L,hm.heap S _ Jw ho,rest];refine show adY _ A.in1 (holding [Value.int (key i) tt] (setAdd S (.int (key i) tt)) >>= _) _ _ s' from ady (ae3 ?_);unfold setAdd;refine ae3 (ady ((ahy prog w).pyHash (k:=key i) (by simp[ahy,ag6]) ?_));have go:∀ (h':afH) (M':List (Int × ah1)),Heap.SameBut S s'.heap h'->mI h' S M' led->ux key (i+1) M' ->
   adY (model prog w) A.in1 (again (.builtin "set.update.loop" #[[.ref S,.ref I],[]])) (λfin s'=>match fin with|.done f=>R (.ok f) s'|.again c'=>c'.quiet=true/\ags (model prog w) A c' R s') (λe s'=>R (.error e) s') { s' with heap:=h',toks:=s'.toks+1 }:=by
   intro h' M' kZ Bn U1;refine adD #[aft afv _,ih (i+1) _ M' (by lia) bc (W.frame _ s' _ _ U0 (ahS _) λb hb o e=>?_) Bn U1 λtI U2 U3 U4 U5=>?_]
   .rw[kZ.2 b (λh:b=S=>qJ (by rw[<- h];exact hb))];exact e
   .refine hR tI U2 (Moved.trans W.gtrans ((hm.mono xS).then_heap (ahS _) λb o hb e=>?_) U3) U4 U5;rw[kZ.2 b (λh:b=S=>hb (by rw[h];exact agd))];exact e
  refine add_int (s:={ s' with toks:=s'.toks+1 }) (M:=M) mJ (by have:=hM.2.2.2;lia) (λcn=>?_) (λcn h' M' kZ Bn rB=>?_)
  .refine go s'.heap M (Heap.SameBut.refl S s'.heap) mJ #[hM.1,λm hm=>?_,λj hj=>?_,by have:=hM.2.2.2;lia]
   .obtain⟨j,hj,e⟩:=hM.2.1 m hm;exact#[j,by lia,e]
   .by_cases e:j=i
    .rw[e];exact cn
    .exact hM.2.2.1 j (by lia)
  .refine go h' M' kZ Bn #[((rB.map (·.1)).nodup_iff).mpr (aeB.mpr #[cn,hM.1]),λm hm=>?_,λj hj=>?_,by have:=rB.length_eq;have:=hM.2.2.2;simp at *;lia]
   .rcases adL.mp (rB.mem_iff.mp hm) with rfl|hm
    .exact#[i,by lia,Y]
    .obtain⟨j,hj,e⟩:=hM.2.1 m hm;exact#[j,by lia,e]
   .refine ((rB.map (·.1)).mem_iff).mpr ?_;by_cases e:j=i
    .rw[e];exact agd
    .exact aer _ (hM.2.2.1 j (by lia))
theorem U6(hh:A.handled=O)(hl:s.heap.IsList l items)(hn:items.size<=2)(hit:∀ (i:Nat) (v:adH),items[i]?=U v->∃ tt,v = .int (key i) tt)(h:∀ (h':afH) (tk:Nat) (M:List (Int × ah1)),mI h' s.heap.objs.size M (o8 w)->ux key items.size M->(∀ b o,b<s.heap.objs.size->s.heap.get? b=U o->h'.get? b=U o)->Q (.ref s.heap.objs.size) { s with heap:=h',toks:=tk }) :
 adY (model prog w) A (call (.type "set") [.ref l]) Q E s:=by
 obtain⟨c,tl,hmro⟩:=PySem.F.called_set.mro;have ac4:=PySem.F.called_set.made;have xS:=PySem.F.called_set.sub;refine akm (alh (show adY _ _ (callAny (.type "set") _) _ _ _ from adD #[Code.quiet_builtin _ (by decide +kernel),aeH PySem.F.entry_type_call ?_]));rw[Around.under_plain (weight_type_call_type "set" [.ref l] []) Y];have h1:=PySem.F.called_set.notType;have h2:=PySem.F.called_set.canCreate;have hct:=PySem.F.typeCall_set_1 (.ref l);repeat (any_goals (first|assumption|wp_step))
 refine ahm (UI (.ref l) (E:=E) (Q₁:=λobj s₁=>obj = .ref s.heap.objs.size/\s₁ = { s with heap:=s.heap.push (ku w) }) #[Y,Y]) λr s₁ hr=>?_;cases r with
 | error e=>exact hr
 | ok fl =>
  cases fl with
  | ret obj =>
   obtain⟨rfl,rfl⟩:=hr;have gS:(s.heap.push (ku w)).get? s.heap.objs.size=U (ku w):=adN _ rfl;have hT:Shared.TypeIs { s with heap:=s.heap.push (ku w) } (.ref s.heap.objs.size) "set" := #[_,gS,Y];have nM:=PySem.F.called_set.init.lookup;have Jx:=PySem.F.called_set.init.bind (.ref s.heap.objs.size)
   repeat (any_goals (first|assumption|wp_step))
   refine ahm (agt (R:=wants (λr s₂=>r = .none/\∃ h' tk M,s₂ = { s with heap:=h',toks:=tk }/\mI h' s.heap.objs.size M (o8 w)/\ux key items.size M /\
    (∀ b o,b<s.heap.objs.size->s.heap.get? b=U o->h'.get? b=U o)) E) PySem.F.called_set.init.plain PySem.F.entry_set_init (check_set_init_1 hT ?_)) λr₂ s₂ Bo=>?_
   .have lt:l<s.heap.objs.size:=let ⟨_,e,_⟩:=hl;adF e;obtain⟨ol,Jy,bf,nl,hdl⟩:=id hl;obtain⟨ocls,odict,odata,oslots⟩:=ol;obtain rfl:ocls = .type "list" := bf;obtain rfl:odata = .seq items nl:=hdl;have U7:(s.heap.push (ku w)).get? l=U { cls:=.type "list",dict:=odict,data:=.seq items nl,slots:=oslots }:=adE _ Jy;have ac5:=PySem.F.sub_list_set;have ac6:=PySem.F.sub_list_frozenset;have bT:(aip "list" == aip "dict")=false:=by decide
    have gE:(s.heap.push (ku w)).IsList l items:=#[_,U7,Y,nl,Y]
    unfold afG.«set.__init__» noKeywords Builtin.Frozenset.updateFrom;generalize U8:alV=PI;wp_walk;subst U8;refine ag7 gE (ady (wpAny_runValue ?_));have U9:A.in1.in1.in1.handled=O:=by simp[hh]
    have Bp:(s.heap.push (ku w)).objs.size=s.heap.objs.size+1:=afR _ _;have lI:l≠(s.heap.push (ku w)).objs.size:=by rw[Bp];exact adV (af0 lt)
    have SI:s.heap.objs.size∉[(s.heap.push (ku w)).objs.size,l]:=by rw[Bp];simp only[adL,aeq,or_false,not_or];exact#[adV (af7 _),aeJ lt]
    refine UY ((Walks.list U9 _ l lI items).toS) s.heap.objs.size SI (key:=key) (led:=o8 w) hit hn (items.size-0) 0 _ [] (by lia) (ad6 _)
     #[#[_,adN _ Y,Y,Y],(gE.push _)] (UX (adE _ gS))
     #[ahk,λy hx=>(by cases hx),λj hj=>(by lia),ad6 _] λs' M hm mJ hM=>?_
    obtain⟨h',g',d',Bq,qw⟩:=s';obtain rfl:g'=s.gens:=hm.gens;obtain rfl:d'=s.drawn:=hm.drawn;obtain rfl:qw=s.os:=hm.os;show adY _ _ _ _ _ _;refine adD (show adY _ _ (ret Value.none) _ _ _ from adD #[Y,h',Bq,M,Y,mJ,hM,λb o hb e=>?_]);refine hm.heap b o ?_ (adE _ (adE _ e));simp only[adL,aeq,or_false,not_or,Bp];exact#[adV hb,adV (af0 hb)]
   .cases r₂ with
    | error e=>exact Bo
    | ok Va =>
     cases Va with
     | ret r =>
      obtain⟨rfl,h',tk,M,rfl,mJ,hM,ix⟩:=Bo
      repeat (any_goals (first|assumption|wp_step))
      exact h _ _ M mJ hM ix
     | _=>exact Bo.elim
  | _=>exact hr.elim
end
theorem Vb(kis:List (List Int))(ns:List Int):eR kis V.non (ns.map V.int)=(eR kis 0 ns).map V.int:=by unfold eR;rw[aev,adA];refine afh λi hi=>?_;have hp:=(qQ (n:=ns.length) (oX kis)).1;have:i<ns.length:=ad0.mp (hp.mem_iff.mp hi);simp[alj,this]
theorem Jz:∀ M:List (Int × ah1),Vals ((M.map (·.1)).map V.int) (M.map λm=>Value.int m.1 m.2)
 | []=>.nil
 | m::M=>.cons #[m.2,Y] (Jz M)
def JA(K:adz)(t:TE):TE:=λG H Q=>t G H λv H1=>∃ (a:adK) (ns:List Int),v=V.ref a/\aj K H1 a (ns.map V.int)/\ns.length<=2 /\
 ∀ zs:List Int,zs.Nodup->(∀ x,x∈zs↔x∈ns)->zs.Pairwise (· <= ·)->∀ l,H1 l=O->Q (.ref l) (upd H1 l (.lst (zs.map V.int)))
section
theorem Vc(hc:X.calm=true)(he:PE X e t)(hJ:Gl X "sorted")(Br:X.mg "sorted" = O)(Bs:aej "sorted" = U (.builtin "sorted"))(uy:Gl X "set")(ky:X.mg "set" = O)(Bu:aej "set" = U (.type "set"))(dv:adX [e] X.env=[(false,eval e X.env)]:=by rfl)(lx:adX [.Call (.Name "set" p2) [e] [] iC] X.env=[(false,eval (.Call (.Name "set" p2) [e] [] iC) X.env)]:=by rfl) :
 PE X (.Call (.Name "sorted" p1) [.Call (.Name "set" p2) [e] [] iC] [] pos) (JA X.K t):=by
 intro pins s G H Q I h;refine ae1 (gy I hJ Br Bs ?_ (by decide) (by decide));refine af1 ?_ (by rw[lx];rfl) rfl;rw[lx];show adY _ _ (spliced ((false,eval (.Call (.Name "set" p2) [e] [] iC) X.env)::afi pos [])) _ _ s;refine afk ?_;refine ae1 (gy I uy ky Bu ?_ (by decide) (by decide));refine aed ?_ (by rw[dv];rfl) rfl;rw[dv];show adY _ _ (spliced ((false,eval e X.env)::afi iC [])) _ _ s;refine afk (aI (he pins s G H _ I h) λu s1 zq=>?_);obtain⟨x,H1,I1,r1,q1⟩:=zq;obtain⟨a,ns,rfl,hS,hn,q⟩:=q1;cases r1;refine afw ?_;obtain⟨us,rv,pl,hz⟩:=I1.list hS;have hl:us.length=ns.length:=by have:=rv.length;rw[adA] at this;lia
 have hint:=intsAre_of rv;refine U6 (items:=us.toArray) (key:=λi=>ns.getD i 0) (I1.ok.hd hc) pl.isList (by simp;lia) (λi v hv=>?_) λh2 tk M Vd hM hk=>?_
 .exact IntsAre.int_at hint i v (by simpa using hv)
 refine afw ?_;obtain⟨o,ep,tb,L,g1,g2,g3,Bq,g4,g5,g7⟩:=Vd;have hx:rA X.w s1.heap.objs.size o ep tb L:=#[g2,g3,Bq,g4,g5]
 have hsz:us.toArray.size=us.length:=by simp
 rw[hsz] at hM;obtain⟨m1,m2,m3,m4⟩:=hM;have Ve:L.length=M.length:=by have:=congrArg List.length g7;simpa using this
 have hp:((kx X.w s1.heap.objs.size ep (L.map (·.2)).toArray).toList).Perm (M.map mH):=by have:=Bl X.w s1.heap.objs.size ep (L.map (·.2)).toArray;rw[ah2,g7] at this;rw[g7];exact this
 obtain⟨M',e1,e2⟩:=Jq hp;have ac7:M'.length=L.length:=e2.length_eq.trans Ve.symm;have b9:(M'.map (·.1)).Nodup:=((e2.map (·.1)).nodup_iff).mpr m1;have Vf:=Jz M';refine UH (s:={ s1 with heap:=h2,toks:=tk }) (kis:=M'.map λm=>[m.1]) (vs:=M'.map λm=>Value.int m.1 m.2) (by simp) (by simp;lia) (λi hi=>?_) (λA' Q' E' hA hq=>?_) λl h' wZ k1 k2 k3=>?_
 .have c8:i<M'.length:=by simpa using hi
  exact#[M'[i].1,M'[i].2,by simp[c8],by simp[alj,c8]]
 .refine Ik (s:={ s1 with heap:=h2,toks:=tk }) (UR hx) (hA.trans (I1.ok.hd hc)) g1 (adG (show L.length<=64 by lia) (by decide)) λh3 Aw acc b1 b2 b3=>?_;have Vg:acc.toList=M'.map λm=>Value.int m.1 m.2:=by
   refine agq λi=>?_;rw[ahu];by_cases hi:i<L.length
   .have c8:i<acc.size:=by rw[b3.1];exact hi
    have JB:i<M'.length:=by lia
    have:=b3.2 i acc[i] (aei c8);dsimp only at this;have e3:(kx X.w s1.heap.objs.size ep (L.map (·.2)).toArray)[i]?=U (mH M'[i]):=by rw[<- ahu,e1];simp[JB]
    rw[e3] at this;rw[aei c8,<- this];simp[JB]
   .rw[agc (by rw[b3.1];lia)];rw[eq_comm,List.getElem?_eq_none_iff];simp only[adA];lia
  rw[Vg];exact hq h3 Aw b1 b2
 .refine Ip (s:=s1) (ks:=(M'.map (·.1)).map V.int) (kis:=M'.map λm=>[m.1]) (us:=M'.map λm=>Value.int m.1 m.2) I1 Vf ?_ ?_ (λb u e=>k2 b u (hk b u (adF e) e)) k3 λl' sR=>?_
  .simp only[adA];exact adG (show _<=64 by lia) (by decide)
  .exact adG (ahl (adF g1)) k1
  .rw[Vb];refine q _ ((qS.nodup_iff).mpr b9) (λx=>?_) ?_ l' sR
   .rw[qS.mem_iff,(e2.map (·.1)).mem_iff];constructor
    .intro ix;obtain⟨m,hm,rfl⟩:=adP.mp ix;obtain⟨j,hj,ej⟩:=m2 m hm;have:j<ns.length:=by lia
     rw[ej];simp[alj,this]
    .intro ix;obtain⟨j,hj,rfl⟩:=ajZ ix;have:=m3 j (by lia);simpa [alj,hj] using this
   .have:=R6 (kis:=M'.map λm=>[m.1]) (d:=(0:Int)) (as:=M'.map (·.1)) (f:=λx=>[x]) (by rw[aev];rfl);refine this.imp λ{a b} fu=>?_;rw[HT.qB] at fu;by_cases e:b=a
    .lia
    .rw[if_neg e] at fu;have:=of_decide_eq_false fu;lia
def JC(r r' tY:R2)(ta tb tc td:TE):TE:=λG H Q=>ta G H λx H1=>tb G H1 λy H2=>r x y H2 λz H3=>∃ k,z = .bl k /\
 (if k=true then tc G H3 λw' H4=>r' y w' H4 λz2 H5=>∃ k2,z2 = .bl k2/\(if k2=true then td G H5 λw2 H6=>tY w' w2 H6 Q else Q (.bl false) H5) else Q (.bl false) H3)
theorem Vh(ho:bE X (aeL op) r)(cU:bE X (aeL jo) r')(Vi:bE X (aeL JD) tY)(ha:PE X a ta)(hb:PE X b tb)(hc:PE X c tc)(hd:PE X d td)(hm:akW [op,jo,JD] [b,c,d]=false:=by with_unfolding_all rfl):PT X (.Compare a [op,jo,JD] [b,c,d] pos) (wm (JC r r' tY ta tb tc td)):=by
 intro pins s G H Q I h;refine isTrue_chain (aI (ha pins s G H _ I h) λv s1 ⟨x,H1,I1,r1,q1⟩=>alW (aI (hb pins s1 G H1 _ I1 q1) λu s2 ⟨y,H2,I2,r2,q2⟩ =>
  aI (ho pins s2 G H2 x y v u _ I2 r1 r2 q2) λd s3 ⟨z,H3,I3,r3,k,e,q3⟩=>?_)) hm
 subst e;cases r3;refine aeo ?_;cases k with
 | false =>
  obtain⟨k',e',q'⟩:=q3;cases e';exact (if_neg (by decide)).mpr #[H3,I3,q']
 | true =>
  refine (if_pos Y).mpr (alW (aI (hc pins s3 G H3 _ I3 q3) λw' s4 ⟨z',H4,I4,r4,q4⟩=>aI (cU pins s4 G H4 y z' u w' _ I4 r2 r4 q4) λd2 s5 zq=>?_));obtain⟨z2,H5,I5,r5,k2,e2,q5⟩:=zq;subst e2;cases r5;refine aeo ?_;cases k2 with
  | false =>
   obtain⟨k',e',q'⟩:=q5;cases e';exact (if_neg (by decide)).mpr #[H5,I5,q']
  | true =>
   refine (if_pos Y).mpr (test_last (aI (hd pins s5 G H5 _ I5 q5) λw2 s6 ⟨z3,H6,I6,r6,q6⟩=>aI (Vi pins s6 G H6 z' z3 w' w2 _ I6 r4 r6 q6) λd' s7 zq=>?_));obtain⟨z4,H7,I7,r7,k3,e3,q7⟩:=zq;subst e3;cases r7;exact aeo #[H7,I7,q7]
theorem JE(he:PE X o ta)(F:cF X.prog X.w X.K X.mg X.base CX k f fd ps sp)(hr:bF k X.A)(hb:Binds X.K fd ps ds)(hd:Vals c7 ds)(hx:Passes CX X E)(ht:eval (.Call (.Attribute o m apos) [] [] pos) X.env=(do
 let ov <- eval o X.env
 ajQ apos.atName
 let (f,first) <- holding [ov] (ait ov m pl)
 akT pos f first (afi pos (adX [] X.env)) (aiL pos (agF [] X.env))):=by rfl) :
 PE X (.Call (.Attribute o m apos) [] [] pos) (HH X.K m f sp c7 E ta oI):=by
 intro pins s G H Q I h;refine afK (pl:=pl) (aI (he pins s G H _ I h) λu s1 zq=>?_) ht;obtain⟨x,H1,I1,rx,a,C,dx,fs,ex,ea,c,hm,l,q⟩:=zq;subst ex;obtain rfl:u=ad7 a:=rx;refine wy I1 ea c hm l ?_;exact ahR (first:=[.ref a]) I1.cv hm.kp (qz (us:=[.ref a]) (vs:=[.ref a]) F hr hb hd hx I1 (.cons rfl .nil) q)
end
def JF(t1 t2:TE):TE:=λG H Q=>t1 G H Q∨t2 G H Q
theorem Vj(h1:PE X e t1)(h2:PE X e t2):PE X e (JF t1 t2):=λpins s G H Q I h=>h.elim (h1 pins s G H Q I) (h2 pins s G H Q I)
noncomputable def gF:S2->List S2
 | (O,O)=>[]
 | (U l,O)=>[(O,U (l-1))]
 | (O,U h)=>[(U (h+1),O)]
 | (U l,U h)=>[(O,U (l-1)),(U (h+1),O)]
noncomputable def bX(ps:List Pa):List (List Pa):=ps.flatMap λp=>(gF p.2.2).map λo=>[((p.1,p.2.1,o):Pa)]
noncomputable def bz(i j:Int)(s:S2):List Pa:=(adM (j+1-i).toNat).map λk=>("at",i+(k:Nat),s)
def d9(H:Hp)(v:V)(ps:List Pa):Prop:=∃ l xs,v = .ref l/\H l=U (.lst xs)/\da H xs ps
theorem d9.same(h:d9 H v ps)(s:ai H H'):d9 H' v ps:=let ⟨l,xs,e,a,b⟩:=h;#[l,xs,e,s _ _ a,b.same s]
def bO(H0 H:Hp)(v:V)(ps:List Pa):Prop:=∃ c xs,v = .ref c/\H0 c=O/\H c=U (.lst xs)/\da H xs ps
theorem bO.same(h:bO H0 H v ps)(s:ai H H'):bO H0 H' v ps:=let ⟨c,xs,e,n,a,b⟩:=h;#[c,xs,e,n,s _ _ a,b.same s]
theorem bO.back(h:bO H1 H v ps)(s:ai H0 H1):bO H0 H v ps:=let ⟨c,xs,e,n,a,b⟩:=h;#[c,xs,e,s.free n,a,b]
def iD(H0:Hp)(l:adK)(H:Hp)(v:V)(ps:List Pa):Prop:=∃ c xs,v = .ref c/\c≠l/\H0 c=O/\H c=U (.lst xs)/\da H xs ps
theorem iD.same(h:iD H0 l H v ps)(s:ai H H'):iD H0 l H' v ps:=let ⟨c,xs,e,m,n,a,b⟩:=h;#[c,xs,e,m,n,s _ _ a,b.same s]
theorem iD.put(h:iD H0 l H v ps)(hl:H l=U (.lst ys)):iD H0 l (upd H l o) v ps:=let ⟨c,xs,e,m,n,a,b⟩:=h;#[c,xs,e,m,n,by rw[aK m];exact a,b.put hl]
theorem iD.Bv(h:iD H0 l H v ps):bO H0 H v ps:=let ⟨c,xs,e,_,n,a,b⟩:=h;#[c,xs,e,n,a,b]
theorem Vk{ps:List Pa}{i:Nat}{p:Pa}(h:ps[i]?=U p):bX (ps.take (i+1))=bX (ps.take i)++(gF p.2.2).map λo=>[((p.1,p.2.1,o):Pa)]:=by unfold bX;rw[aeQ,h,ah3];simp
theorem ue(s:S2):(gF s).length<=2:=by obtain⟨a,b⟩:=s;cases a<;>cases b<;>simp[gF]
theorem gG(i j:Int)(s:S2):(bz i j s).length=(j+1-i).toNat:=by unfold bz;rw[adA,adO]
noncomputable def hU(i j:Int)(s:S2):List Pa:=(adM (j-i).toNat).map λk=>("step",i+(k:Nat),s)
noncomputable def gH(i j l h:Int):List (List Pa):=(adM (j-i).toNat).flatMap λk=>(bz (i+(k:Nat)+1) j (U h,O)).map λp=>[(("at",i+(k:Nat),O,U l):Pa),p]
theorem Bw(h:p∈bz i j s):∃ k:Nat,k<(j+1-i).toNat/\p=(("at",i+(k:Int),s):Pa):=by unfold bz at h;obtain⟨k,hk,rfl⟩:=adP.mp h;exact#[k,ad0.mp hk,Y]
theorem JG(h:qs∈bX ps):∃ p∈ps,∃ o∈gF p.2.2,qs=[((p.1,p.2.1,o):Pa)]:=by unfold bX at h;obtain⟨p,hp,h⟩:=afr.mp h;obtain⟨o,ho,rfl⟩:=adP.mp h;exact#[p,hp,o,ho,Y]
theorem Vl(hq:qs∈gH i j l h):∃ k:Nat,k<(j-i).toNat/\∃ p∈bz (i+(k:Int)+1) j (U h,O),qs=[(("at",i+(k:Int),O,U l):Pa),p]:=by unfold gH at hq;obtain⟨k,hk,hq⟩:=afr.mp hq;obtain⟨p,hp,rfl⟩:=adP.mp hq;exact#[k,ad0.mp hk,p,hp,Y]
theorem JH{α β:Type}{f:α->List β}{c:Nat}:∀ (l:List α),(∀ a∈l,(f a).length<=c)->(l.flatMap f).length<=c * l.length
 | [],_=>by simp
 | a::l,h=>by have h1:=h a (.head _);have h2:=JH l λb hb=>h b (.tail _ hb);rw[akw,adT,aeg,Nat.mul_add,Nat.mul_one];omega
theorem o9(ps:List Pa):(bX ps).length<=2 * ps.length:=JH ps λp y=>by rw[adA];exact ue _
theorem Vm{X:Cx}{K:adz}(h:X.K=K)(hc:X.calm=true):e9 X (.builtin "max") (λxs H Q=>∃ a ns,xs=[.ref a]/\aj K H a (ns.map V.int)/\ns≠[]/\Q (.int (fL ns)) H):=h ▸ G5 hc
theorem Vn{X:Cx}{K:adz}(h:X.K=K)(hc:X.calm=true):e9 X (.builtin "min") (λxs H Q=>∃ a ns,xs=[.ref a]/\aj K H a (ns.map V.int)/\ns≠[]/\Q (.int (gV ns)) H):=h ▸ G6 hc
noncomputable def bH(cs:List Int)(i:Int)(k:Nat):Int:=cs.getD (i+(k:Int)).toNat 0
theorem Bx(cs:List Int)(i j:Int)(s:S2):aM cs (bz i j s)=(adM (j+1-i).toNat).all λk=>hold s.1 s.2 (bH cs i k):=by
 unfold aM bz;rw[agl]
 congr 1
theorem Vo(cs:List Int)(i j:Int)(s:S2):aM cs (hU i j s)=(adM (j-i).toNat).all λk=>hold s.1 s.2 (cs.getD (i+(k:Int)+1).toNat 0-bH cs i k):=by
 unfold aM hU;rw[agl]
 congr 1
theorem Vp(h0:0<=i)(h1:i<=j)(h2:j<(cs.length:Int)):jr (cs.map V.int) (U i) (U (j+1))=((adM (j+1-i).toNat).map (bH cs i)).map V.int:=by
 obtain⟨a,rfl⟩:∃ a:Nat,i=(a:Int):=#[i.toNat,by omega]
 obtain⟨b,eb⟩:∃ b:Nat,j+1=(b:Int):=#[(j+1).toNat,by omega]
 rw[eb,RX _ (by rw[adA];omega),<- alO,<- akf]
 congr 1
 refine agq λk=>?_;rw[show ((b:Int)-(a:Int)).toNat=b-a by omega];by_cases hk:k<b-a
 .rw[aiw hk,agZ,adR,aex hk,adC (by omega)];unfold bH;simp only[Option.map_some];rw[show ((a:Int)+(k:Int)).toNat=a+k by omega];simp[adC (show a+k<cs.length by omega)]
 .rw[aeD (by rw[afp,af8];omega),aeD (by rw[adA,adO];omega)]
theorem Vq:((bX (bz i j (O,U (s-1)))).any (aM cs))=true ↔ ∃ k,k<(j+1-i).toNat/\s<=bH cs i k:=by
 rw[aez];constructor
 .rintro ⟨ps,hps,hm⟩;obtain⟨p,hp,o,ho,rfl⟩:=JG hps;obtain⟨k,hk,rfl⟩:=Bw hp;simp only[gF,adL,aeq,or_false] at ho;subst ho;refine#[k,hk,?_];unfold aM at hm;simp only[afL,ahv,ago] at hm;have:=(gY.mp hm).1 _ rfl;unfold mC at this;rw[if_neg (by decide)] at this;unfold bH;omega
 .rintro ⟨k,hk,hc⟩;refine#[[(("at",i+(k:Int),U (s-1+1),O):Pa)],?_,?_]
  .unfold bX;refine afr.mpr #[(("at",i+(k:Int),O,U (s-1)):Pa),?_,?_]
   .unfold bz;exact adP.mpr #[k,ad0.mpr hk,Y]
   .simp[gF]
  .unfold aM;simp only[afL,ahv,ago];refine gY.mpr #[λx hx=>?_,λx hx=>(nomatch hx)];cases hx;unfold mC;rw[if_neg (by decide)];unfold bH at hc;omega
theorem Vr:((bX (bz i j (U (s+1),O))).any (aM cs))=true ↔ ∃ k,k<(j+1-i).toNat/\bH cs i k<=s:=by
 rw[aez];constructor
 .rintro ⟨ps,hps,hm⟩;obtain⟨p,hp,o,ho,rfl⟩:=JG hps;obtain⟨k,hk,rfl⟩:=Bw hp;simp only[gF,adL,aeq,or_false] at ho;subst ho;refine#[k,hk,?_];unfold aM at hm;simp only[afL,ahv,ago] at hm;have:=(gY.mp hm).2 _ rfl;unfold mC at this;rw[if_neg (by decide)] at this;unfold bH;omega
 .rintro ⟨k,hk,hc⟩;refine#[[(("at",i+(k:Int),O,U (s+1-1)):Pa)],?_,?_]
  .unfold bX;refine afr.mpr #[(("at",i+(k:Int),U (s+1),O):Pa),?_,?_]
   .unfold bz;exact adP.mpr #[k,ad0.mpr hk,Y]
   .simp[gF]
  .unfold aM;simp only[afL,ahv,ago];refine gY.mpr #[λx hx=>(nomatch hx),λx hx=>?_];cases hx;unfold mC;rw[if_neg (by decide)];unfold bH at hc;omega
theorem Vs(h:0<n):s<=fL ((adM n).map f) ↔ ∃ k,k<n/\s<=f k:=by
 have ne:(adM n).map f≠[]:=by simp;omega
 obtain⟨hm,hu⟩:=tW ne;constructor
 .intro hs;obtain⟨k,hk,e⟩:=adP.mp hm;exact#[k,ad0.mp hk,by rw[e];exact hs]
 .rintro ⟨k,hk,hs⟩;have:=hu (f k) (adP.mpr #[k,ad0.mpr hk,Y]);omega
theorem By(h:0<n):gV ((adM n).map f)<=s ↔ ∃ k,k<n/\f k<=s:=by
 have ne:(adM n).map f≠[]:=by simp;omega
 obtain⟨hm,hu⟩:=GW ne;constructor
 .intro hs;obtain⟨k,hk,e⟩:=adP.mp hm;exact#[k,ad0.mp hk,by rw[e];exact hs]
 .rintro ⟨k,hk,hs⟩;have:=hu (f k) (adP.mpr #[k,ad0.mpr hk,Y]);omega
theorem JI:((gH i j l h).any (aM cs))=true ↔ ∃ a b,a<b/\b<(j+1-i).toNat/\bH cs i a<=l/\h<=bH cs i b:=by
 have JJ:∀ (a b:Int),aM cs [(("at",a,O,U l):Pa),(("at",b,U h,O):Pa)]=true↔cs.getD a.toNat 0<=l/\h<=cs.getD b.toNat 0:=λa b=>by
  unfold aM;simp only[afL,ahv,ago,aew,gY];unfold mC;rw[if_neg (by decide),if_neg (by decide)];constructor
  .rintro ⟨⟨y,h1⟩,h2,y⟩;exact#[h1 _ Y,h2 _ Y]
  .rintro ⟨h1,h2⟩;refine#[#[λx hx=>(nomatch hx),λx hx=>?_],λx hx=>?_,λx hx=>(nomatch hx)]
   .cases hx;exact h1
   .cases hx;exact h2
 rw[aez];constructor
 .rintro ⟨ps,hps,hm⟩;obtain⟨k,hk,p,hp,rfl⟩:=Vl hps;obtain⟨m,ky,rfl⟩:=Bw hp;have:=(JJ _ _).mp hm;refine#[k,k+1+m,by omega,by omega,this.1,?_];unfold bH;rw[show i+((k+1+m:Nat):Int)=i+(k:Int)+1+(m:Int) by omega];exact this.2
 .rintro ⟨a,b,fu,hb,h1,h2⟩;refine#[[(("at",i+(a:Int),O,U l):Pa),(("at",i+(a:Int)+1+((b-a-1:Nat):Int),U h,O):Pa)],?_,(JJ _ _).mpr #[h1,?_]]
  .unfold gH;refine afr.mpr #[a,ad0.mpr (by omega),adP.mpr #[_,?_,Y]];unfold bz;exact adP.mpr #[b-a-1,ad0.mpr (by omega),Y]
  .unfold bH at h2;rw[show i+(a:Int)+1+((b-a-1:Nat):Int)=i+(b:Int) by omega];exact h2
theorem Vt:((adM (n-1)).any λk=>decide (gV (((adM n).map f).take (k+1))<=l) && decide (h<=fL (((adM n).map f).drop (k+1))))=true ↔ ∃ a b,a<b/\b<n/\f a<=l/\h<=f b:=by
 have tk:∀ k,k<n-1->((adM n).map f).take (k+1)=(adM (k+1)).map f:=λk hk=>by rw[<- akf,List.take_range,agT (by omega)]
 have at_:∀ m x,((adM n).map f)[m]?=U x->m<n/\x=f m:=λm x e=>by
  rw[adR] at e;by_cases hm:m<n
  .rw[aex hm] at e;cases e;exact#[hm,Y]
  .rw[aeD (by rw[adO];omega)] at e;cases e
 have len:((adM n).map f).length=n:=by rw[adA,adO]
 have JK:∀ k,k<n-1->((adM n).map f).drop (k+1)≠[]:=λk hk z=>by have:=congrArg List.length z;rw[af8,len] at this;simp at this;omega
 rw[aez];constructor
 .rintro ⟨k,hk,hb⟩;have hk:=ad0.mp hk;rw[aew,decide_eq_true_eq,decide_eq_true_eq,tk k hk] at hb;obtain⟨a,ha,h1⟩:=(By (by omega)).mp hb.1;obtain⟨hm,y⟩:=tW (JK k hk);obtain⟨m,hm⟩:=aeE.mp hm;rw[agZ] at hm;obtain⟨m1,m2⟩:=at_ _ _ hm;exact#[a,k+1+m,by omega,m1,h1,by rw[<- m2];exact hb.2]
 .rintro ⟨a,b,fu,hb,h1,h2⟩;have ha:a<n-1:=by omega
  refine#[a,ad0.mpr ha,?_];rw[aew,decide_eq_true_eq,decide_eq_true_eq,tk a ha];refine#[(By (by omega)).mpr #[a,by omega,h1],?_];have hm:f b∈((adM n).map f).drop (a+1):=aeE.mpr #[b-(a+1),by
   rw[agZ,show a+1+(b-(a+1))=b by omega,adR,aex hb];rfl]
  have:=(tW (JK a ha)).2 _ hm;omega
noncomputable def ly(u:adH):Bool:=match u with|.none=>true|_=>false
noncomputable def mK(v:V):Bool:=decide (v = .non)
def rC(H:Hp)(xs:List V):Prop:=∀ v∈xs,v = .non ∨ ∃ a ys,v = .ref a/\H a=U (.tup ys)
section
theorem JL{x:V}{u:adH}{H:Hp}(r:RelV x u)(h:x = .non ∨ ∃ a ys,x = .ref a/\H a=U (.tup ys)):ly u=mK x:=by
 rcases h with rfl|⟨a,ys,rfl,y⟩
 .cases r;rfl
 .cases r;rfl
theorem Vu:∀ {xs:List V} {us:List adH},Vals xs us->rC H xs->us.any ly=xs.any mK:=by
 intro y y h f
 induction h with
 | nil=>rfl
 | cons r t ih=>rw[aeC,aeC,JL r (f _ (.head _)),ih λv hv=>f v (.tail _ hv)]
theorem JM:∀ {xs:List V} {us:List adH},Vals xs us->rC H xs->∀ (m:Nat) (h:m<us.length),ly us[m]=mK (xs.getD m .non):=by
 intro y y h f
 induction h with
 | nil=>exact λm h=>absurd h (afj _)
 | cons r t ih =>
  intro m h;cases m with
  | zero=>exact JL r (f _ (.head _))
  | succ m=>exact ih (λv hv=>f v (.tail _ hv)) m (ajd h)
theorem Bz(I:Inv X pins G H s)(hu:A.units<aii):∀ {xs:List V} {us:List adH},Vals xs us->rC H xs->∀ u∈us,SeqAt.EqAt A s u .none (ly u)
 | _,_,.nil,_=>λu hu=>by cases hu
 | x::xs,u::us,.cons r t,f=>λu' BA=>by
  rcases adL.mp BA with rfl|BA
  .rcases f x (.head _) with rfl|⟨a,ys,rfl,ha⟩
   .cases r;exact SeqAt.EqAt.same _
   .cases r;obtain⟨y,ax,r',o',k1,k2,n,k3⟩:=(show bW X.prog X.w H s.heap a (.tup ys) from I.aA a _ ha)
    exact SeqAt.EqAt.tuple_none #[o',k1,k2,n,k3] hu
  .exact Bz I hu t (λv hv=>f v (.tail _ hv)) u' BA
def Vv(K:adz):R2:=λx y H Q=>∃ a xs,x = .non/\y = .ref a/\aj K H a xs/\rC H xs/\Q (.bl (xs.any mK)) H
theorem JN(hu:X.A.units+1<aii):bE X (aeL .In) (Vv X.K):=by intro pins s G H x y v u Q I rx ry h;obtain⟨a,xs,rfl,rfl,hq,hn,q⟩:=h;cases rx;cases ry;obtain⟨ax,r,pl,hz⟩:=I.list hq;refine SeqAt.in_listAt ly pl.isList (λw hw=>Bz I (A:=X.A.in1) (afm (knd:=cT X.prog X.w) hu) r hn w (by simpa using hw)) #[.bl _,H,I,Y,?_];rw[show ax.toArray.any ly=ax.any ly by simp,Vu r hn];exact q
def Vw(K:adz)(x:V)(ys:List V)(H:Hp)(Q:VK):Prop:=∃ a xs j,x = .ref a/\ys=[.non]/\aj K H a xs/\rC H xs/\j<xs.length/\xs.length<=1000/\mK (xs.getD j .non)=true/\(∀ m,m<j->mK (xs.getD m .non)=false)/\Q (.int (j:Nat)) H
theorem JO(hu:X.A.units+1<aii):FD X "list.index" (Vw X.K):=by
 intro pins s G H x xs v us Q I rx r h;obtain⟨a,xs,j,rfl,rfl,hq,hn,hj,hl,h1,h2,q⟩:=h;cases rx;obtain⟨u,rfl,ru⟩:=vals1 r;cases ru;obtain⟨ax,r,pl,hz⟩:=I.list hq;obtain⟨⟨cls,dd,data,sl⟩,ho,hc,n,hd⟩:=id pl.isList;simp only at hc hd;subst hc hd;have hlen:ax.length=xs.length:=(Vals.length r).symm;refine ako ag0 #[_,ho,Y] PySem.F.entry_list_index (PySem.F.args_list_index_2 _ _)
  (SeqAt.list_indexAt a ax.toArray n dd sl .none ly j (by simpa [hlen] using hj) (by lia) ?_ ?_) #[ho,λy hy=>Bz I (A:=X.A.in1) (afm (knd:=cT X.prog X.w) hu) r hn y (by simpa using hy),?_]
 .show ly ax[j]=true;rw[JM r hn];exact h1
 .intro m hm bc;show ly ax[m]=false;rw[JM r hn];exact h2 m bc
 .exact#[.int j,H,I.tok _,#[_,Y],q]
end
noncomputable def iE(p:P2):W2:=U (U p.1,U p.2)
theorem JP:∀ (ss:List S2) (a b:Int),∃ a' b',bC (U a,U b) ss=(U a',U b')
 | [],a,b=>#[a,b,Y]
 | s::ss,a,b=>by
  rw[xH];have h1:∃ x,dS (U a) s.1=U x:=by rcases s.1 with z|c<;>exact#[_,Y]
  have h2:∃ x,eS (U b) s.2=U x:=by rcases s.2 with z|c<;>exact#[_,Y]
  obtain⟨x,hx⟩:=h1;obtain⟨y,hy⟩:=h2;rw[hx,hy];exact JP ss x y
theorem Vx(h:gd (O,O) ((U a,U b)::ss)=U s):∃ p:P2,U s=iE p/\p.1<=p.2:=by
 unfold gd at h;rw[xH] at h;obtain⟨x,y,e⟩:=JP ss a b;rw[show (dS (O,O).1 (U a,U b).1,eS (O,O).2 (U a,U b).2)=((U a,U b):S2) from Y,e] at h;split at h
 .cases h
 .rename_i hc;cases h;exact#[(x,y),Y,by simpa [bj] using hc]
theorem JQ(hf:∀ k s,f k=U s->∃ p:P2,U s=iE p/\p.1<=p.2):∀ (ks:List Nat),(∀ k∈ks,f k≠O)->∃ pp:List P2,ks.map f=pp.map iE/\fM pp
 | [],_=>#[[],Y,λy h=>nomatch h]
 | k::ks,h=>by
  obtain⟨pp,e,ho⟩:=JQ hf ks λj hj=>h j (.tail _ hj);cases hk:f k with
  | none=>exact absurd hk (h k (.head _))
  | some s =>
   obtain⟨p,e1,e2⟩:=hf k s hk;refine#[p::pp,by rw[adU,adU,e,hk,e1],λq hq=>?_];rcases adL.mp hq with rfl|hq
   .exact e2
   .exact ho q hq
theorem all_some:∀ (ws:List W2),(∀ w∈ws,w≠O)->∃ gs:List S2,ws=gs.map U
 | [],_=>#[[],Y]
 | w::ws,h=>by
  obtain⟨gs,e⟩:=all_some ws λj hj=>h j (.tail _ hj);cases w with
  | none=>exact absurd Y (h O (.head _))
  | some s=>exact#[s::gs,by rw[e];rfl]
theorem BB:∀ {ys:List V} {ws:List W2},ay (iy H) ys ws->rC H ys/\(ys.any mK=ws.any agr)/\∀ m,mK (ys.getD m .non)=(ws.getD m O).isNone
 | [],[],_=>#[(λz h=>nomatch h),Y,λz=>rfl]
 | y::ys,w::ws,h=>by
  obtain⟨h1,h2⟩:=h;obtain⟨a,b,c⟩:=BB h2;have key:(y = .non ∨ ∃ a ys,y = .ref a/\H a=U (.tup ys))/\mK y=w.isNone:=by
   cases w with
   | none =>
    obtain rfl:y = .non:=h1;exact#[.inl rfl,Y]
   | some s =>
    obtain⟨p,rfl,hp⟩:=h1;exact#[.inr #[p,_,Y,hp],Y]
  refine#[λv hv=>?_,by rw[aeC,aeC,b,key.2],λm=>?_]
  .rcases adL.mp hv with rfl|hv
   .exact key.1
   .exact a v hv
  .cases m with
   | zero=>exact key.2
   | succ m=>exact c m
 | [],_::_,h=>h.elim
 | _::_,[],h=>h.elim
theorem BC:∀ {xs:List α},xs.any p=true->∃ j,j<xs.length/\p (xs.getD j d)=true/\∀ m,m<j->p (xs.getD m d)=false
 | [],h=>by cases h
 | x::xs,h=>by
  cases hx:p x with
  | true=>exact#[0,Nat.zero_lt_succ _,hx,λm hm=>absurd hm (afj _)]
  | false =>
   rw[aeC,hx,aj9] at h;obtain⟨j,h1,h2,h3⟩:=BC (d:=d) h;refine#[j+1,Nat.succ_lt_succ h1,h2,λm hm=>?_];cases m with
   | zero=>exact hx
   | succ m=>exact h3 m (ajd hm)
theorem JR{ws:List W2}(h:ws.any agr=false):∀ w∈ws,w≠O:=λw hw e=>by have:=akh.mp h w hw;rw[e] at this;exact this rfl
theorem JS:∀ {ys:List V} {pp:List P2},ay (iy H) ys (pp.map iE)->iu H ys pp
 | [],[],_=>trivial
 | _::_,_::_,h=>#[h.1,JS h.2]
 | [],_::_,h=>h.elim
 | _::_,[],h=>h.elim
theorem mD.reach(T:mD ps ms tp):∀ (n t:Nat) {v k:Int},t+n<=ps.length ->
 (tp t=U (v,k)->∃ v' k',tp (t+n)=U (v',k')/\v'<=v+(pre (·.2) ps (t+n)-pre (·.2) ps t)) /\
 (tp (t+n)=U (v,k)->∃ v' k',tp t=U (v',k')/\v'<=v+(pre (·.1) ps t-pre (·.1) ps (t+n)))
 | 0,t,v,k,_=>#[λh=>#[v,k,h,by simp],λh=>#[v,k,h,by simp]]
 | n+1,t,v,k,hn=>by
  refine#[λh=>?_,λh=>?_]
  .obtain⟨v1,k1,e1,h1⟩:=(T.reach n t (by lia)).1 h;obtain⟨v2,k2,e2,h2⟩:=T.fwd (t+n) v1 k1 (by lia) e1;refine#[v2,k2,e2,?_];rw[show t+(n+1)=(t+n)+1 by lia,iz _ ps (by lia)];lia
  .obtain⟨v1,k1,e1,h1⟩:=T.bwd (t+n) v k (by lia) h;obtain⟨v2,k2,e2,h2⟩:=(T.reach n t (by lia)).2 e1;refine#[v2,k2,e2,?_];rw[show t+(n+1)=(t+n)+1 by lia,iz _ ps (by lia)];lia
theorem Vy(T:mD ps ms tp)(hm:∀ m∈ms,m.1<=ps.length)(hn:∀ m∈ns,m.1<=ps.length)(h0:uk ns tp)(ha:a∈ms)(hb:b∈ns):¬ clash ps a b:=by
 rintro ⟨h,l,e1,e2,bc⟩;obtain⟨v,k,e3,h3⟩:=T.top a ha h e1;have tO:=hm a ha;have cy:=hn b hb;have key:∃ v' k',tp b.1=U (v',k')/\v'<=v+bU ps a.1 b.1:=by
  unfold bU;by_cases hle:a.1<=b.1
  .rw[if_pos hle];obtain⟨n,kM⟩:∃ n,b.1=a.1+n:=#[b.1-a.1,by lia]
   rw[kM];exact (T.reach n a.1 (by lia)).1 e3
  .rw[if_neg hle];obtain⟨n,kM⟩:∃ n,a.1=b.1+n:=#[a.1-b.1,by lia]
   rw[kM] at e3 ⊢;exact (T.reach n b.1 (by lia)).2 e3
 obtain⟨v',k',e4,h4⟩:=key;have:=h0 b hb l v' k' e2 e4;lia
theorem BD:m∈nK tb i ↔ ∃ r∈tb,r.1.1=i/\m=(r.1.2.toNat,r.2):=by
 unfold nK;simp only[adP,ael,decide_eq_true_eq];constructor
 .rintro ⟨r,⟨h1,h2⟩,rfl⟩;exact#[r,xP.mem_iff.mp h1,h2,Y]
 .rintro ⟨r,h1,h2,rfl⟩;exact#[r,#[xP.mem_iff.mpr h1,h2],Y]
noncomputable def uz(e:Nat)(tb:Tb):List (Int × List Mk):=(adM e).map λ(i:Nat)=>((i:Int),nK tb (i:Int))
theorem Vz(hp:fM ps)(ht:t<ps.length):bU ps i (t+1)<=bU ps i t+(aN ps t).2:=by
 have h:=hp _ (qO ht);have e1:=iz (·.1) ps ht;have e2:=iz (·.2) ps ht;unfold bU;split<;>split<;>first|lia|(have z:i=t+1:=(by lia);subst z;lia)
theorem VA(hp:fM ps)(ht:t<ps.length):bU ps i t<=bU ps i (t+1)-(aN ps t).1:=by
 have h:=hp _ (qO ht);have e1:=iz (·.1) ps ht;have e2:=iz (·.2) ps ht;unfold bU;split<;>split<;>first|lia|(have z:i=t+1:=(by lia);subst z;lia)
theorem VB(ps:List P2)(i:Nat):bU ps i i<=0:=by unfold bU;split<;>lia
theorem JT(hp:fM ps)(ms:List Mk):∀ n,n<=ms.length->∃ tp,mD ps (ms.take n) tp
 | 0,_=>#[λy=>O,#[λy y y y e=>(nomatch e),λy h=>(nomatch h),λy y y y e=>(nomatch e),λy y y y e=>(nomatch e)]]
 | n+1,hn=>by
  obtain⟨tp,T⟩:=JT hp ms n (by lia);have hm:ms[n]?=U ms[n]:=adC (by lia);generalize ms[n]=m at hm;have et:ms.take (n+1)=ms.take n++[m]:=by rw[aeQ,hm];rfl
  have tl:(ms.take n).length=n:=by rw[afp];lia
  cases hi:m.2.2 with
  | none =>
   refine#[tp,#[λt v k ht e=>?_,λa ha h e=>?_,T.fwd,T.bwd]]
   .obtain⟨i,a,h,h1,h2,h3⟩:=T.val t v k ht e;have:=(adI.mp h2).1;exact#[i,a,h,h1,by rw[et,aeu this];exact h2,h3]
   .rw[et] at ha;rcases aec.mp ha with z|z
    .exact T.top a z h e
    .rw[ad8.mp z,hi] at e;cases e
  | some h0 =>
   have one:∀ t v k,(match tp t with|some (v,k)=>if h0+bU ps m.1 t<v then U (h0+bU ps m.1 t,(n:Int)) else U (v,k)|none=>U (h0+bU ps m.1 t,(n:Int)))=U (v,k) ->
    v<=h0+bU ps m.1 t/\(∀ v' k',tp t=U (v',k')->v<=v')/\((v=h0+bU ps m.1 t/\k=(n:Int))∨tp t=U (v,k)):=by
    intro t v k e;cases h1:tp t with
    | none =>
     rw[h1] at e;cases e;exact#[aeW _,λy y z=>(nomatch z),.inl #[Y,Y]]
    | some q =>
     obtain⟨v1,k1⟩:=q;rw[h1] at e;dsimp only at e;split at e
     .cases e;refine#[aeW _,λv' k' z=>?_,.inl #[Y,Y]];cases z;lia
     .cases e;refine#[by lia,λv' k' z=>?_,.inr rfl];cases z;exact aeW _
   have ex:∀ t,∃ v k,(match tp t with|some (v,k)=>if h0+bU ps m.1 t<v then U (h0+bU ps m.1 t,(n:Int)) else U (v,k)|none=>U (h0+bU ps m.1 t,(n:Int)))=U (v,k):=λt=>by
    cases h1:tp t with
    | none=>exact#[_,_,Y]
    | some q =>
     obtain⟨v1,k1⟩:=q;dsimp only;split<;>exact#[_,_,Y]
   refine#[λt=>match tp t with|some (v,k)=>if h0+bU ps m.1 t<v then U (h0+bU ps m.1 t,(n:Int)) else U (v,k)|none=>U (h0+bU ps m.1 t,(n:Int)),⟨λt v k ht e=>?_,λa ha h e=>?_,λt v k ht e=>?_,λt v k ht e=>?_⟩]
   .obtain⟨y,y,⟨rfl,rfl⟩|e1⟩:=one t v k e
    .exact#[n,m,h0,Y,by rw[et,aeK (by lia),tl,ajx];rfl,hi,aeW _]
    .obtain⟨i,a,h,h1,h2,h3⟩:=T.val t v k ht e1;have:=(adI.mp h2).1;exact#[i,a,h,h1,by rw[et,aeu this];exact h2,h3]
   .obtain⟨v,k,e1⟩:=ex a.1;obtain⟨o1,o2,y⟩:=one _ _ _ e1;refine#[v,k,e1,?_];rw[et] at ha;rcases aec.mp ha with z|z
    .obtain⟨v',k',e2,h2⟩:=T.top a z h e;have:=o2 v' k' e2;lia
    .rw[ad8.mp z] at e o1;rw[hi] at e;cases e;have:=VB ps m.1;lia
   .obtain⟨v',k',e1⟩:=ex (t+1);obtain⟨o1,o2,y⟩:=one _ _ _ e1;refine#[v',k',e1,?_];obtain⟨y,y,⟨rfl,rfl⟩|e3⟩:=one t v k e
    .have:=Vz hp (i:=m.1) ht;lia
    .obtain⟨v2,k2,e4,h4⟩:=T.fwd t v k ht e3;have:=o2 _ _ e4;lia
   .obtain⟨v',k',e1⟩:=ex t;obtain⟨o1,o2,y⟩:=one _ _ _ e1;refine#[v',k',e1,?_];obtain⟨y,y,⟨rfl,rfl⟩|e3⟩:=one (t+1) v k e
    .have:=VA hp (i:=m.1) ht;lia
    .obtain⟨v2,k2,e4,h4⟩:=T.bwd t v k ht e3;have:=o2 _ _ e4;lia
theorem VC(hp:fM ps)(hm:∀ m∈ms,m.1<=ps.length)(hc:∀ a∈ms,∀ b∈ms,¬ clash ps a b):∃ c,jF ps c/\meets ms c:=by
 obtain⟨tp,T⟩:=JT hp ms ms.length (adJ _);rw[aeN] at T;refine TQ hp hm T λm dJ l v k e1 e2=>?_;rcases Int.lt_or_le v l with h|h
 .obtain⟨i,a,y,h2,h3⟩:=T.clash (hm m dJ) e2 e1 h;exact absurd h3 (hc a (ad3 h2) m dJ)
 .exact h
abbrev Cl:=(En × Nat) × (En × Nat)
noncomputable def iZ(e:Int)(c:Cl):Bool:=decide (c.1.1=U e) || decide (c.2.1=U e)
noncomputable def wo(e:Int)(cs:List Cl):List Cl:=cs.filter λc=>!iZ e c
def iR:Nat->List Cl->Prop
 | 0,_=>True
 | _+1,[]=>False
 | n+1,c::cs=>∀ e,iZ e c=true->iR n (wo e (c::cs))
def uA(es:List Int)(cs:List Cl):Prop:=∀ c∈cs,∃ e∈es,iZ e c=true
theorem VD(h:uA es (wo e cs)):uA (e::es) cs:=λc hc=>by
 cases hb:iZ e c with
 | true=>exact#[e,.head _,hb]
 | false =>
  obtain⟨x,hx,h1⟩:=h c (ael.mpr #[hc,by rw[hb];rfl]);exact#[x,.tail _ hx,h1]
inductive Pp where
 | nil:Pp
 | full:Pp
 | cls:Cl->Pp->Pp->Pp
noncomputable def nN:Nat->List Cl->Pp
 | 0,_=>.full
 | _+1,[]=>.full
 | n+1,c::cs=>.cls c (match c.1.1 with|none=>.nil|some e=>nN n (wo e (c::cs))) (if c.1.1=c.2.1 then .nil else match c.2.1 with|none=>.nil|some e=>nN n (wo e (c::cs)))
def kz(gs:List S2)(tb:Tb)(as:List Int)(s:En × Nat)(m:Mk):Prop:=m.1=s.2/\match s.1 with|none=>gs[s.2]?=U m.2|some e=>e∉as/\((e,(s.2:Int)),m.2)∈tb
def Val(ps:List P2)(gs:List S2)(tb:Tb)(mo:Int):Pp->List Int->Prop
 | .nil,_=>False
 | .full,as=>mo<as.length
 | .cls c a b,as=>(∃ m n,kz gs tb as c.1 m/\kz gs tb as c.2 n/\clash ps m n)/\(match c.1.1 with|none=>a = .nil|some e=>Val ps gs tb mo a (as++[e]))/\(match c.2.1 with|none=>b = .nil|some e=>if c.1.1=U e then b = .nil else Val ps gs tb mo b (as++[e]))
theorem pd:iZ e c=true↔c.1.1=U e∨c.2.1=U e:=by unfold iZ;rw[ahV,decide_eq_true_eq,decide_eq_true_eq]
theorem JU:∀ (n:Nat) (cs:List Cl) (as:List Int),iR n cs->(as.length:Int)+n=mo+1->(∀ c∈cs,∃ m n,kz gs tb as c.1 m/\kz gs tb as c.2 n/\clash ps m n)->Val ps gs tb mo (nN n cs) as
 | 0,_,as,_,h,_=>by show mo<as.length;lia
 | n+1,[],_,h,_,_=>h.elim
 | n+1,c::cs,as,h,hl,hs=>by
  have sub:∀ e,iZ e c=true->Val ps gs tb mo (nN n (wo e (c::cs))) (as++[e]):=λe he=>by
   refine JU n _ _ (h e he) (by rw[adT,aea];lia) λc' lT=>?_;obtain⟨h1,h2⟩:=ael.mp lT;obtain⟨m,k,a1,a2,a3⟩:=hs c' h1;have h3:iZ e c'=false:=by cases hh:iZ e c' with|false=>rfl|true=>rw[hh] at h2;cases h2
   have h4:∀ x,c'.1.1=U x∨c'.2.1=U x->x≠e:=λx hx z=>by subst z;rw[pd.mpr hx] at h3;cases h3
   refine#[m,k,#[a1.1,?_],#[a2.1,?_],a3]
   .have:=a1.2;cases hx:c'.1.1 with
    | none=>rw[hx] at this;exact this
    | some x =>
     rw[hx] at this;refine#[λz=>?_,this.2];rcases aec.mp z with z|z
     .exact this.1 z
     .exact h4 x (.inl hx) (ad8.mp z)
   .have:=a2.2;cases hx:c'.2.1 with
    | none=>rw[hx] at this;exact this
    | some x =>
     rw[hx] at this;refine#[λz=>?_,this.2];rcases aec.mp z with z|z
     .exact this.1 z
     .exact h4 x (.inr hx) (ad8.mp z)
  refine#[hs c (.head _),?_,?_]
  .cases hx:c.1.1 with
   | none=>rfl
   | some e=>exact sub e (pd.mpr (.inl hx))
  .cases hx:c.2.1 with
   | none=>dsimp only;split<;>rfl
   | some e =>
    dsimp only;by_cases he:c.1.1=U e
    .rw[if_pos he,if_pos he]
    .rw[if_neg he,if_neg he];exact sub e (pd.mpr (.inr hx))
abbrev Gp:=En × List Mk
def xT(ps:List P2)(gs:List Gp)(cs:List Cl):Prop:=∀ c∈cs,∃ g∈gs,∃ h∈gs,∃ m∈g.2,∃ n∈h.2,c=((g.1,m.1),(h.1,n.1))/\clash ps m n
def lz(ps:List P2)(g h:Gp)(cs:List Cl):Prop:=∀ m∈g.2,∀ n∈h.2,clash ps m n->∃ c∈cs,c.1.1=g.1/\c.2.1=h.1
theorem lz.more(x:lz ps g h cs):lz ps g h (cs++ds):=λm hm n hn hc=>let ⟨c,h1,h2⟩:=x m hm n hn hc;#[c,afs _ h1,h2]
noncomputable def lA(gs:List Mk)(e:Nat)(tb:Tb):List Gp:=(O,gs)::(uz e tb).map λr=>(U r.1,r.2)
theorem BE:m∈fw tb es ↔ ∃ r∈tb,r.1.1∉es/\m=(r.1.2.toNat,r.2):=by
 unfold fw;constructor
 .intro h;obtain⟨r,hr,rfl⟩:=adP.mp h;obtain⟨h1,h2⟩:=ael.mp hr;exact#[r,xG h1,by simpa using h2,Y]
 .rintro ⟨r,hr,h1,rfl⟩;exact adP.mpr #[r,ael.mpr #[qS.mem_iff.mpr hr,by simpa using h1],Y]
theorem JV(aA:cj e t tb)(h:m∈gm++fw tb es):∃ g∈lA gm e.toNat tb,m∈g.2/\∀ x,g.1=U x->x∉es:=by
 rcases aec.mp h with z|z
 .exact#[_,.head _,z,λx hx=>nomatch hx]
 .obtain⟨r,hr,h1,rfl⟩:=BE.mp z;have ho:=aA.2 r hr;unfold jB at ho;refine#[(U r.1.1,nK tb r.1.1),.tail _ (adP.mpr #[(r.1.1,nK tb r.1.1),adP.mpr #[r.1.1.toNat,ad0.mpr (by lia),by rw[afD ho.1.1]],Y]),BD.mpr #[r,hr,Y,Y],λx hx=>?_];cases hx;exact h1
theorem VE(aA:cj e t tb)(hp:fM ps)(hm:∀ m∈gm++fw tb es,m.1<=ps.length)(hc:uA es cs)(hx:∀ g∈lA gm e.toNat tb,∀ h∈lA gm e.toNat tb,lz ps g h cs):∃ c,jF ps c/\meets (gm++fw tb es) c :=
 VC hp hm λa ha b hb fu=>by
  obtain⟨g,h1,h2,h3⟩:=JV aA ha;obtain⟨h,k1,k2,k3⟩:=JV aA hb;obtain⟨c,c1,c2,c3⟩:=hx g h1 h k1 a h2 b k2 fu;obtain⟨x,x1,x2⟩:=hc c c1;rcases pd.mp x2 with z|z
  .exact h3 x (c2.symm.trans z) x1
  .exact k3 x (c3.symm.trans z) x1
theorem snd_mk(aA:cj e t tb)(hg:∀ m∈gm,gs[m.1]?=U m.2)(h:xT ps (lA gm e.toNat tb) cs):∀ c∈cs,∃ m n,kz gs tb [] c.1 m/\kz gs tb [] c.2 n/\clash ps m n:=λc hc=>by
 obtain⟨g,h1,k,h2,m,h3,n,h4,rfl,h5⟩:=h c hc;have one:∀ g∈lA gm e.toNat tb,∀ m∈g.2,kz gs tb [] (g.1,m.1) m:=λg hJ m hm=>by
  rcases adL.mp hJ with rfl|z
  .exact#[Y,hg m hm]
  .obtain⟨q,hq,rfl⟩:=adP.mp z;obtain⟨i,y,rfl⟩:=adP.mp hq;obtain⟨r,hr,e1,rfl⟩:=BD.mp hm;have ho:=aA.2 r hr;unfold jB at ho;refine#[Y,aeq,?_];show (((i:Int),((r.1.2.toNat:Nat):Int)),r.2)∈tb;rw[afD ho.2.1,<- e1];exact hr
 exact#[m,n,one g h1 m h3,one k h2 n h4,h5]
section
end
abbrev lB(h:afH)(e it:adK)(i:Int)(old:adH)(a:adK)(f:Bool):Prop :=
 h.get? e=U { cls:=.type "enumerate",dict:=O,data:=.fields (List.toArray [ag2 a,.bool f,.ref it,ag2 i,.none,old]),slots:=(List.toArray []) }
section
theorem VF{e it l a:adK}{f:Bool}{oa:Obj}{i:Nat}{items:Array adH}{x old:adH}{Q:Option adH->adQ->Prop}
 (he:lB s.heap e it i old a f) (ha:s.heap.get? a=U oa) (VG:a≠e) (VH:a≠it) (hit:s.heap.IsListIter it l i) (hl:s.heap.IsList l items) (hx:items[i]?=U x) (bT:e≠it)
 (hQ:∀ h',lB h' e it ((i:Int)+1) old a true->h'.IsListIter it l (i+1) ->
   h'.get? s.heap.objs.size=U { cls:=.type "tuple",data:=.seq (List.toArray [.int i s.toks,x]) }->h'.objs.size=s.heap.objs.size+1 ->
   (∀ b o,b≠e->b≠it->s.heap.get? b=U o->h'.get? b=U o)->Q (U (.ref s.heap.objs.size)) { s with heap:=h',toks:=s.toks+1 }) :
 adY (model prog w) A (agv (.ref e)) Q E s:=by
 have hT:s.TypeIs (.ref e) "enumerate" := #[_,he,Y];obtain⟨hp,g,d,tk,os⟩:=s;unfold agv;refine ady (agW (afd (name:=ae2 "__next__") hT afE
  (aeX afE hT ahK ?_ (ahC _))))
 show adY _ _ (field (.ref e) 2 >>= _) _ _ _;refine ady (ah4 he Y (x:=.ref it) Y ?_);refine ady (wpAny_nextOf_list_item hit hl hx λh₁ JW rD=>?_);replace rD:Heap.SameBut it hp h₁:=rD;have xU:lB h₁ e it i old a f:=(rD.2 e bT).trans he;show adY _ _ (field (.ref e) 3 >>= _) _ _ #[h₁,g,d,tk,os];refine ady (ah4 xU Y (x:=ag2 i) Y ?_);show adY _ _ (field (.ref e) 4 >>= _) _ _ #[h₁,g,d,tk,os];refine ady (ah4 xU Y (x:=.none) Y ?_);show adY _ _ (mkInt i >>= _) _ _ #[h₁,g,d,tk,os];refine ady (wpAny_mkInt ?_);show adY _ _ (akU (.ref e) 3 (ag2 ((i:Int)+1)) >>= _) _ _ #[h₁,g,d,tk+1,os];refine ady (aie xU (by simp) λh₂ xV rE=>?_);replace rE:Heap.SameBut e h₁ h₂:=rE;replace xV:lB h₂ e it ((i:Int)+1) old a f:=xV;show adY _ _ (akU (.ref e) 4 .none >>= _) _ _ #[h₂,g,d,tk+1,os];refine ady (aie xV (by simp) λh₃ xW rF=>?_);replace rF:Heap.SameBut e h₂ h₃:=rF;replace xW:lB h₃ e it ((i:Int)+1) old a f:=xW;show adY _ _ (alK [.int i tk,x] >>= _) _ _ #[h₃,g,d,tk+1,os];refine ady (wpAny_newTuple ?_);have uB:lB (h₃.push { cls:=.type "tuple",data:=.seq (List.toArray [.int i tk,x]) }) e it ((i:Int)+1) old a f:=adE _ xW;generalize uC:h₃.push { cls:=.type "tuple",data:=.seq (List.toArray [.int i tk,x]) }=h₄ at uB;have hsz:h₃.objs.size=hp.objs.size:=by rw[rF.1,rE.1,rD.1]
 have uw:e<hp.objs.size:=adF he;have VI:h₄.get? hp.objs.size=U { cls:=.type "tuple",data:=.seq (List.toArray [.int i tk,x]) }:=by rw[<- uC,<- hsz];exact adN _ rfl
 have VJ:h₄.objs.size=hp.objs.size+1:=by rw[<- uC,afR,hsz]
 have JX:∀ b o,b≠e->b≠it->hp.get? b=U o->h₄.get? b=U o:=λb o kK Jx hb=>by rw[<- uC];exact adE _ (rF.extBut b o kK (rE.extBut b o kK (rD.extBut b o Jx hb)))
 have VL:h₄.IsListIter it l (i+1):=by rw[<- uC];obtain⟨o,ho,r⟩:=(JW.extBut rE.extBut (aey bT)).extBut rF.extBut (aey bT);exact#[o,adE _ ho,r]
 show adY _ _ (agI (.ref e) >>= _) _ _ #[h₄,g,d,tk+1,os];rw[hsz];clear uC xW rF xV rE xU rD JW hsz h₃ h₂ h₁;have VM:h₄.get? a=U oa:=JX a oa VG VH ha;refine ady ?_;unfold agI;refine ady (ah4 uB Y (x:=ag2 a) Y ?_);show adY _ _ (loadIfAlive ((a:Int).toNat) >>= _) _ _ _;rw[aep];refine ady (PySem.W.kdx_alive VM ?_);simp only[Option.isNone_some,ad5,if_false];refine ady (ah4 uB Y (x:=.bool f) Y ?_);have fin:∀ h₅:afH,lB h₅ e it ((i:Int)+1) old a true->Heap.SameBut e h₄ h₅->Q (U (.ref hp.objs.size)) #[h₅,g,d,tk+1,os]:=λh₅ uD nO =>
  hQ h₅ uD (VL.extBut nO.extBut (aey bT)) (nO.extBut _ _ (aeJ uw) VI) (by show h₅.objs.size=hp.objs.size+1;rw[nO.1,VJ]) λb o JY mq q=>nO.extBut b o JY (JX b o JY mq q)
 cases f with
 | true =>
  rw[if_neg (show ¬ ((afe true != afe true)=true) from ad2)];refine adD ?_;simp only[ad5,if_false];exact adD #[_,Y,adD (fin h₄ uB (Heap.SameBut.refl _ _))]
 | false =>
  rw[if_pos (show (afe false != afe true)=true from Y)];refine ady (aie uB (by simp) λh₅ uD nO=>?_);replace nO:Heap.SameBut e h₄ h₅:=nO;replace uD:lB h₅ e it ((i:Int)+1) old a true:=uD;refine adD ?_;simp only[ad5,if_false];exact adD #[_,Y,adD (fin h₅ uD nO)]
theorem VN{e it l a:adK}{f:Bool}{i:Nat}{items:Array adH}{old:adH}{Q:Option adH->adQ->Prop}(hh:A.handled=O)
 (he:lB s.heap e it i old a f) (hit:s.heap.IsListIter it l i) (hl:s.heap.IsList l items) (hx:items[i]?=O)
 (hQ:∀ h',ald it s.heap h'->Q O { s with heap:=h' }):adY (model prog w) A (agv (.ref e)) Q E s:=by
 have hT:s.TypeIs (.ref e) "enumerate" := #[_,he,Y];unfold agv;refine ady (agW (afd (name:=ae2 "__next__") hT afE
  (aeX afE hT ahK ?_ (ahC _))))
 show adY _ _ (field (.ref e) 2 >>= _) _ _ _;refine ady (ah4 he Y (x:=.ref it) Y ?_);refine ady (wpAny_nextOf_list_end hh hit hl hx λh' x q8 bZ=>?_);obtain⟨o,ho,hc⟩:=bZ;refine ady (af9 (T := "StopIteration") (b:=true) #[o,ho,hc] ajL ?_);exact adD (hQ _ q8)
def pf(h:afH)(e it S:adK)(i:Nat):Prop :=
 (∃ old,IsEnum h e it i old) ∨ ∃ old a f oa,lB h e it i old a f/\h.get? a=U oa/\a≠e/\a≠it/\a≠S
theorem pf.keep(x:pf h e it S i)(hk:∀ b o,b≠S->h.get? b=U o->h'.get? b=U o)(hI:e≠S):pf h' e it S i:=by
 rcases x with ⟨old,q⟩|⟨old,a,f,oa,q,ha,h1,h2,h3⟩
 .exact .inl #[old,hk _ _ hI q]
 .exact .inr #[old,a,f,oa,hk _ _ hI q,hk _ _ h3 ha,h1,h2,h3]
theorem VO(st:pf s.heap e it S i)(hS:S<s.heap.objs.size)(hit:s.heap.IsListIter it l i)(hl:s.heap.IsList l items)(hx:items[i]?=U x)(bT:e≠it)(hQ:∀ h',pf h' e it S (i+1)->h'.IsListIter it l (i+1) ->
 h'.get? s.heap.objs.size=U { cls:=.type "tuple",data:=.seq (List.toArray [.int i s.toks,x]) }->h'.objs.size=s.heap.objs.size+1 ->
 (∀ b o,b≠e->b≠it->s.heap.get? b=U o->h'.get? b=U o)->Q (U (.ref s.heap.objs.size)) { s with heap:=h',toks:=s.toks+1 }) :
 adY (model prog w) A (agv (.ref e)) Q E s:=by
 have ce:((i:Int)+1)=((i+1:Nat):Int):=by lia
 have hi:it<s.heap.objs.size:=let ⟨_,q,_⟩:=hit;adF q;rcases st with ⟨old,he⟩|⟨old,a,f,oa,he,ha,h1,h2,h3⟩
 .exact ajb he hit hl hx bT λh' q1 q2 q3 q4 q5=>hQ h' (.inr #[x,_,false,_,by rw[<- ce];exact q1,q3,aeJ (adF he),aeJ hi,aeJ hS]) q2 q3 q4 q5
 .exact VF he ha h1 h2 hit hl hx bT λh' q1 q2 q3 q4 q5=>hQ h' (.inr #[old,a,true,oa,by rw[<- ce];exact q1,q5 a oa h1 h2 ha,h1,h2,h3]) q2 q3 q4 q5
theorem VP(hh:A.handled=O)(st:pf s.heap e it S i)(hit:s.heap.IsListIter it l i)(hl:s.heap.IsList l items)(hx:items[i]?=O)(hQ:∀ h',ald it s.heap h'->Q O { s with heap:=h' }):adY (model prog w) A (agv (.ref e)) Q E s:=by
 rcases st with ⟨old,he⟩|⟨old,a,f,oa,he,y⟩
 .exact ajo hh he hit hl hx hQ
 .exact VN hh he hit hl hx hQ
end
structure mL(items:Array adH)(lo:adK)(h:afH)(as:List adK):Prop where
 rise:as.Pairwise (· < ·)
 above:∀ a∈as,lo<=a
 pairs:∀ (j:Nat) (a:adK),as[j]?=U a->∃ t x,items[j]?=U x/\h.get? a=U { cls:=.type "tuple",data:=.seq (List.toArray [.int j t,x]) }
theorem mL.there{items:Array adH}{lo:adK}{h:afH}{as:List adK}(g:mL items lo h as){a:adK}(ha:a∈as):a<h.objs.size:=by obtain⟨j,hj⟩:=aeE.mp ha;obtain⟨y,y,y,e⟩:=g.pairs j a hj;exact adF e
theorem mL.keep{items:Array adH}{lo:adK}{h h':afH}{as:List adK}(g:mL items lo h as)(k:∀ b o,lo<=b->h.get? b=U o->h'.get? b=U o):mL items lo h' as :=
 #[g.rise,g.above,λj a hj=>let ⟨t,x,e1,e2⟩:=g.pairs j a hj;#[t,x,e1,k a _ (g.above a (ad3 hj)) e2]]
section
variable{prog:aek}{w:aeS}{A:aff}{s:adQ}{R:akA->adQ->Prop}{items:Array adH}
theorem VQ{S e it l lo:adK}(hh:A.handled=O)(bT:e≠it)(rG:S≠e)(rH:S≠it)(xX:l≠S)(hle:l≠e)(nM:l≠it)(JZ:S<lo)(VR:e<lo)(J0:it<lo)(hn:items.size<=ad1)(res:adH){h₁:afH}
 (hR:∀ h' tk acc c as,(∀ b o,b≠S->b≠e->b≠it->h₁.get? b=U o->h'.get? b=U o)->h'.get? S=U { cls:=.type "list",dict:=O,data:=.seq acc c,slots:=(List.toArray []) }->as.length=items.size->mL items lo h' as ->
   acc.toList=as.map ad7->R (.ok (.ret res)) { s with heap:=h',toks:=tk }) :
 ∀ (k i:Nat) (h:afH) (tk c:Nat) (acc:Array adH) (as:List adK),items.size-i=k->i<=items.size->pf h e it S i->h.IsListIter it l i->h.IsList l items->(∀ b o,b≠S->b≠e->b≠it->h₁.get? b=U o->h.get? b=U o) ->
  h.get? S=U { cls:=.type "list",dict:=O,data:=.seq acc c,slots:=(List.toArray []) }->acc.toList=as.map ad7->as.length=i->mL items lo h as->lo<=h.objs.size ->
  ags (model prog w) A (.builtin "list.extend.loop" #[[.ref S,.ref e,res],[]]) R { s with heap:=h,toks:=tk }:=by
 intro k
 induction k with
 | zero =>
  intro i h tk c acc as hk hi cW hit hl BF hS jA nP hG hz;have cn:i=items.size:=by lia
  refine aeH ain ?_;rw[aes afU _];show adY _ A.in1 (agv (.ref e) >>= _) _ _ _;refine ady (VP (s:={ s with heap:=h,toks:=tk }) (A:=A.in1) hh cW hit hl (agc (by lia)) λh' he=>?_);exact adD (hR h' tk acc c as (λb o h1 h2 h3 q=>he b o h3 (BF b o h1 h2 h3 q)) (he S _ rH hS) (by lia) (hG.keep λb o hb q=>he b o (aeJ (adW J0 hb)) q) jA)
 | succ k ih =>
  intro i h tk c acc as hk hi cW hit hl BF hS jA nP hG hz;have bc:i<items.size:=by lia
  refine aeH ain ?_;rw[aes afU _];show adY _ A.in1 (agv (.ref e) >>= _) _ _ _;refine ady (VO (s:={ s with heap:=h,toks:=tk }) (A:=A.in1) cW (adF hS) hit hl (aei bc) bT λh' dt my hT hsz ix=>?_);have mJ:=ix S _ rG rH hS;have J1:acc.size=i:=by
   have:acc.toList.length=i:=by rw[jA,adA,nP]
   simpa using this
  show adY _ A.in1 (aiz S (·.push (.ref h.objs.size)) >>= _) _ _ _;refine ady ?_;have J5:lo<=h.objs.size:=hz;have sb:∀ b o,b≠S->h'.get? b=U o->(h'.update S (aeZ (·.push (.ref h.objs.size)))).get? b=U o:=λb o hb q=>(adZ _ _ (aey hb)).trans q;refine afA mJ Y (adD #[aft afU _,ih (i+1) _ (tk+1) _ (acc.push (.ref h.objs.size)) (as++[h.objs.size]) (by lia) bc
   (dt.keep sb (aey rG)) (my.at λo q=>sb it o (aey rH) q) ((hl.at λo q=>ix l o hle nM q).at λo q=>sb l o xX q)
   (λb o h1 h2 h3 q=>sb b o h1 (ix b o h2 h3 (BF b o h1 h2 h3 q))) (aef _ mJ Y) (by rw[akv,jA];simp) (by rw[adT,nP];rfl) ?_ ?_])
   (by rw[J1];lia) (by show (acc.push _).size<=ad1+1;rw[Array.size_push,J1];lia)
  .have up:∀ b o,lo<=b->h.get? b=U o->(h'.update S (aeZ (·.push (.ref h.objs.size)))).get? b=U o:=λb o hb q =>
    sb b o (aeJ (adW JZ hb)) (ix b o (aeJ (adW VR hb)) (aeJ (adW J0 hb)) q)
   have G':=hG.keep up;refine#[?_,?_,?_]
   .refine List.pairwise_append.mpr #[hG.rise,List.pairwise_singleton _ _,λa ha b hb=>?_];rw[ad8.mp hb];exact hG.there ha
   .intro a ha;rcases aec.mp ha with ha|ha
    .exact hG.above a ha
    .rw[ad8.mp ha];exact J5
   .intro j a hj;by_cases hjl:j<as.length
    .rw[aeu hjl] at hj;exact G'.pairs j a hj
    .rw[aeK (by lia)] at hj;have VS:j-as.length=0:=by
      rcases akc (j-as.length) with z|z
      .exact z
      .rw[aeD (by rw[aea];exact z)] at hj;cases hj
     rw[VS] at hj;cases hj;obtain rfl:j=i:=by lia
     exact#[_,_,aei bc,sb _ _ (aeJ (adW JZ J5)) hT]
  .rw[(aeG ..).1];show lo<=h'.objs.size;rw[hsz];exact akt hz
end
theorem VT:ajB (.type "enumerate") "__len__" = pure O:=by rw[agX,afO];kernel_rfl
theorem VU:ajB (.type "enumerate") "__length_hint__" = pure O:=by rw[agX,afO];kernel_rfl
section
theorem VV(hh:A.handled=O)(old:adH)(he:IsEnum s.heap e it 0 old)(hit:s.heap.IsListIter it l 0)(hl:s.heap.IsList l items)(bT:e≠it)(hle:l≠e)(nM:l≠it)(S:adK)(rG:S≠e)(rH:S≠it)(xX:l≠S)(res:adH)(c:Nat)(hS:s.heap.get? S=U { cls:=.type "list",data:=.seq (List.toArray []) c })(hn:items.size<=ad1)(hR:∀ g tk acc c' as,(∀ b o,b≠S->b≠e->b≠it->s.heap.get? b=U o->g.get? b=U o)->g.get? S=U { cls:=.type "list",dict:=O,data:=.seq acc c',slots:=(List.toArray []) }->as.length=items.size->mL items s.heap.objs.size g as ->
 acc.toList=as.map ad7->R (.ok (.ret res)) { s with heap:=g,toks:=tk }) :
 adY (model prog w) A.in1 (afC (.ref S) (.ref e) res)
  (λf u=>match f with|.done f=>R (.ok f) u|.again k=>k.quiet=true/\ags (model prog w) A k R u) (λe u=>R (.error e) u) s:=by
 have h1:aiF (.ref S) (.ref e)=false:=by simp[aiF,rG]
 have hT:s.TypeIs (.ref e) "enumerate" := #[_,he,Y];unfold afC;refine ady (akG hT ?_);rw[if_neg (by rw[h1];decide)];refine ady (aiA he ?_);refine ady (ae3 ?_);unfold agm;refine ady (agi hT VT ?_);show adY _ A.in1 (specialOf (ad7 e) (ae2 "__length_hint__") >>= _) _ _ _;refine ady (agi hT VU ?_);refine adD ?_;show adY _ A.in1 (rule "list.extend.makes-room" >>= λy=>alS (.ref S) >>= λy=>again (.builtin "list.extend.loop" #[[.ref S,.ref e,res],[]])) _ _ _;refine ady (agL ?_);refine ady ?_;show adY _ A.in1 (aiz S (·.push .none) >>= λy=>aiz S (·.pop)) _ _ _;refine ady (afA hS Y ?_);have J6:=aef (aeZ (·.push Value.none)) hS rfl;refine afA J6 Y ?_;have VW:=aef (aeZ (·.pop)) J6 rfl;have mM:∀ b o,b≠S->s.heap.get? b=U o->((s.heap.update S (aeZ (·.push Value.none))).update S (aeZ (·.pop))).get? b=U o :=
  λb o hb e=>(adZ _ _ (aey hb)).trans ((adZ _ _ (aey hb)).trans e)
 have sz:((s.heap.update S (aeZ (·.push Value.none))).update S (aeZ (·.pop))).objs.size=s.heap.objs.size:=by rw[(aeG ..).1,(aeG ..).1]
 refine adD #[aft afU _,VQ (s:=s) (l:=l) (it:=it) (lo:=s.heap.objs.size) (items:=items) (h₁:=s.heap) hh bT rG rH xX hle nM (adF hS) (adF he) (let ⟨_,q,_⟩:=hit;adF q) hn res hR
  items.size 0 _ s.toks _ (List.toArray []) [] Y (ad6 _) (.inl #[old,mM _ _ (aey rG) he]) (hit.at λo q=>mM it o (aey rH) q) (hl.at λo q=>mM l o xX q) (λb o h1 y y q=>mM b o h1 q) VW Y Y #[.nil,(λy h=>nomatch h),λj a h=>by cases h] (by rw[sz];exact adJ _)]
theorem VX(hh:A.handled=O)(old:adH)(he:IsEnum s.heap e it 0 old)(hit:s.heap.IsListIter it l 0)(hl:s.heap.IsList l items)(bT:e≠it)(hle:l≠e)(nM:l≠it)(hn:items.size<=ad1)(hQ:∀ g tk acc c as,(∀ b o,b≠e->b≠it->s.heap.get? b=U o->g.get? b=U o)->g.get? s.heap.objs.size=U { cls:=.type "list",dict:=O,data:=.seq acc c,slots:=(List.toArray []) }->as.length=items.size->mL items (s.heap.objs.size+1) g as ->
 acc.toList=as.map ad7->Q (.ref s.heap.objs.size) { s with heap:=g,toks:=tk }) :
 adY (model prog w) A (call (.type "list") [.ref e]) Q E s:=by
 have le:e<s.heap.objs.size:=adF he;have li:it<s.heap.objs.size:=let ⟨_,q,_⟩:=hit;adF q;have ll:l<s.heap.objs.size:=let ⟨_,q,_⟩:=hl;adF q;refine callType_codes (Q₁:=λy s₁=>y = .ref s.heap.objs.size/\s₁ = { s with heap:=s.heap.push { cls:=.type "list",data:=.seq (List.toArray []) } }) PySem.F.called_list (PySem.F.typeCall_list_1 _) PySem.F.entry_list_init (code_list_new _ #[Y,Y]) λy s₁ h₁=>?_;obtain⟨rfl,rfl⟩:=h₁;have e0:(s.heap.push { cls:=.type "list",data:=.seq (List.toArray []) }).get? s.heap.objs.size=U { cls:=.type "list",data:=.seq (List.toArray []) }:=adN _ rfl;refine#[#[_,e0,Y],PySem.F.args_list_init_2 _ _,?_];show adY _ A.in1.in1 (do let z <- aje (.ref s.heap.objs.size);alP (.ref s.heap.objs.size) (λv=>(List.toArray []));letGo z.toList.reverse;afC (.ref s.heap.objs.size) (.ref e) .none) _ _ _;refine ady ?_;unfold aje;refine ady (agw e0 Y (adD ?_));refine ady (m:=aiz s.heap.objs.size (λv=>(List.toArray []))) (afA e0 Y ?_);have e1:=aef (aeZ (λv=>((List.toArray []):Array adH))) e0 rfl;have mM:∀ b o,b≠s.heap.objs.size->s.heap.get? b=U o->((s.heap.push { cls:=.type "list",data:=.seq (List.toArray []) }).update s.heap.objs.size (aeZ (λv=>((List.toArray []):Array adH)))).get? b=U o :=
  λb o hb e=>(adZ _ _ (aey hb)).trans (adE _ e)
 have sz:((s.heap.push { cls:=.type "list",data:=.seq (List.toArray []) }).update s.heap.objs.size (aeZ (λv=>((List.toArray []):Array adH)))).objs.size=s.heap.objs.size+1:=by rw[(aeG ..).1,size_push']
 refine ady (ahc ?_);exact VV (A:=A.in1) hh old (mM e _ (adV le) he) (hit.at λo q=>mM it o (adV li) q) (hl.at λo q=>mM l o (adV ll) q) bT hle nM s.heap.objs.size (aeJ le) (aeJ li) (adV ll) .none _ e1 hn
  λg tk acc c as hk hS nP hG jA=>#[Y,hQ g tk acc c as (λb o h1 h2 q=>hk b o (adV (adF q)) h1 h2 (mM b o (adV (adF q)) q)) hS nP (by rw[<- sz];exact hG) jA]
theorem Inv.J9(I:Inv X pins G H s)(hf:eZ X pins H T)(new:bW X.prog X.w (upd H T o) s.heap T o):Inv X pins G (upd H T o) s:=by
 have mj:∀ b u,H b=U u->b≠T:=λb u e=>jU e hf.1;have up:∀ b u,H b=U u->upd H T o b=U u:=λb u e=>by rw[aK (mj b u e)];exact e
 refine I.step (g':=s.gens) (t':=s.toks) (d':=s.drawn) (h':=s.heap) (ch:=[T]) (λb hb=>?_) (λb o y y hc e y=>e) (λb o y y hc e y=>#[o.slots,e]) (λb u hc e n=>by rw[aK (by simpa using hc)];exact n)
  (λb o hc e=>#[o,e]) (λb xs e=>up b _ e) (λb y y e=>up b _ e) (λb ps e=>#[(List.toArray []),by rw[up b _ e];simp]) (λm hm=>hm) (λb u e=>?_) I.bare
 .obtain rfl:b=T:=by simpa using hb
  obtain⟨y,d1,d2,d3,d4,d5⟩:=hf;exact#[d3,d1,d4,d5]
 .by_cases hb:b=T
  .subst hb;rw[au] at e;cases e;exact new
  .rw[aK hb] at e;exact (I.aA b u e).stay (λc v hc q=>q) (λc q=>up c _ q) λc xs q=>up c _ q
theorem VY(h:eZ X pins H b)(hb:b≠T):eZ X pins (upd H T o) b:=#[by rw[aK hb];exact h.1,h.2]
theorem Ka:∀ (as:List adK) (xs:List V) (us:List adH) (i:Nat) (H:Hp),Inv X pins G H s->Vals xs us->as.length=xs.length->as.Pairwise (· < ·)->(∀ a∈as,eZ X pins H a) ->
 (∀ j a u,as[j]?=U a->us[j]?=U u->∃ t,s.heap.get? a=U { cls:=.type "tuple",data:=.seq (List.toArray [.int ((i+j:Nat):Int) t,u]) }) ->
 ∃ H',ai H H'/\Inv X pins G H' s/\(∀ b,b∉as->H' b=H b)/\∀ j a x,as[j]?=U a->xs[j]?=U x->H' a=U (.tup [.int ((i+j:Nat):Int),x])
 | [],[],us,i,H,I,r,hl,hp,hf,ht=>#[H,λc c e=>e,I,λc c=>rfl,λj a x h=>by cases h]
 | [],_::_,us,i,H,I,r,hl,hp,hf,ht=>by cases hl
 | _::_,[],us,i,H,I,r,hl,hp,hf,ht=>by cases hl
 | a::as,x::xs,us,i,H,I,r,hl,hp,hf,ht=>by
  cases us with
  | nil=>cases r
  | cons u us =>
  cases r with
  | cons r rs =>
  obtain⟨bc,dI⟩:=akd.mp hp;have na:∀ b∈as,b≠a:=λb hb=>aeJ (bc b hb);obtain⟨t,h0⟩:=ht 0 a u Y rfl;have I1:=Inv.J9 (o:=.tup [.int ((i+0:Nat):Int),x]) I (hf a (.head _)) #[Az,[.int ((i+0:Nat):Int) t,u],.cons #[_,Y] (.cons r .nil),#[_,h0,Y,_,Y]];obtain⟨H',s1,I2,k1,k2⟩:=Ka as xs us (i+1) _ I1 rs (by simpa using hl) dI (λb hb=>VY (hf b (.tail _ hb)) (na b hb)) λj b v e1 e2=>by obtain⟨t',q⟩:=ht (j+1) b v e1 e2;exact#[t',by rw[show i+1+j=i+(j+1) by lia];exact q]
  refine#[H',λb v e=>s1 b v (by rw[aK (jU e (hf a (.head _)).1)];exact e),I2,λb hb=>?_,λj b y e1 e2=>?_]
  .rw[k1 b (λz=>hb (.tail _ z)),aK (λz=>hb (by rw[z];exact .head _))]
  .cases j with
   | zero =>
    cases e1;cases e2;rw[k1 a (λz=>na a z Y),au]
   | succ j =>
    have:=k2 j b y e1 e2;rw[show i+1+j=i+(j+1) by lia] at this;exact this
end
theorem Kb:∀ as:List adK,Vals (as.map V.ref) (as.map ad7)
 | []=>.nil
 | _::as=>.cons rfl (Kb as)
def Kc(K:adz)(ta:TA):TE:=λG H Q=>ta G H λvs H1=>∃ a xs,vs=[.ref a]/\aj K H1 a xs/\∀ l ys H',ai H1 H'->H1 l=O->H' l=U (.lst ys)->ys.length=xs.length ->
 (∀ j y x,ys[j]?=U y->xs[j]?=U x->∃ p,y = .ref p/\H1 p=O/\H' p=U (.tup [.int (j:Nat),x]))->Q (.ref l) H'
theorem VZ(hc:X.calm=true)(hg:Gl X "list")(hm:X.mg "list" = O)(uy:Gl X "enumerate")(ky:X.mg "enumerate" = O)(ha:PA X [e] ta)(hs:adX [.Call (.Name "enumerate" p2) [e] [] iC] X.env=[(false,eval (.Call (.Name "enumerate" p2) [e] [] iC) X.env)]:=by rfl)(dv:adX [e] X.env=[(false,eval e X.env)]:=by rfl) :
 PE X (.Call (.Name "list" p) [.Call (.Name "enumerate" p2) [e] [] iC] [] pos) (Kc X.K ta):=by
 intro pins s G H Q I h;refine amc (gy I hg hm tN (aed ?_ hs Y));rw[hs];show adY _ _ (spliced ((false,eval (.Call (.Name "enumerate" p2) [e] [] iC) X.env)::afi pos [])) _ _ s;refine afk (amc (gy I uy ky Ga (aed (aI (ha iC pins s G H _ I h) λus s1 zq=>?_) dv Y)));obtain⟨vs,H1,I1,r1,q1⟩:=zq;obtain⟨a,xs,rfl,hq,q⟩:=q1;obtain⟨u,rfl,ru⟩:=vals1 r1;cases ru;obtain⟨ax,rv,pl,hz⟩:=I1.list hq;refine ajU pl.isList λh' he hit hsz hk=>?_;refine afw ?_;have la:a<s1.heap.objs.size:=let ⟨_,e,_⟩:=pl.isList;adF e;refine VX (s:={ s1 with heap:=h' }) (l:=a) (items:=ax.toArray) (I1.ok.hd hc) .none he hit (pl.isList.at λo e=>hk a o e) (akP _) (adV (af0 la)) (adV la) (by rw[adS,<- rv.length];exact hz) λg tk acc c as jG hD nP hG jA=>?_;have up:∀ b o,s1.heap.get? b=U o->g.get? b=U o:=λb o e=>jG b o (adV (af0 (adF e))) (adV (adF e)) (hk b o e);have I2:Inv X pins G H1 { s1 with heap:=g,toks:=tk }:=I1.kept (t':=tk) up;have BG:∀ b∈as,s1.heap.objs.size<=b:=λb hb=>by have:=hG.above b hb;have e:({ s1 with heap:=h' }:adQ).heap.objs.size=s1.heap.objs.size+2:=hsz;walk_at "o"
 obtain⟨H',s2,I3,k1,k2⟩:=Ka as xs ax 0 H1 I2 rv (by rw[nP,adS];exact rv.length.symm) hG.rise (λb hb=>I1.ji (BG b hb) (I1.aA.fresh (BG b hb))) λj b v e1 e2=>by
  obtain⟨t,x,e3,e4⟩:=hG.pairs j b e1;have:x=v:=by simpa [e2] using e3.symm
  subst this;exact#[t,by rw[al4];exact e4]
 have hl:s1.heap.objs.size<=h'.objs.size:=by rw[hsz];exact Nat.le_add_right _ _
 have nl:h'.objs.size∉as:=λz=>absurd (hG.above _ z) (Nat.not_succ_le_self _);have f0:=I1.aA.fresh hl;have Kd:as.length=xs.length:=by rw[nP,adS];exact rv.length.symm
 refine#[.ref h'.objs.size,upd H' h'.objs.size (.lst (as.map V.ref)),Inv.J9 I3 (I1.ji hl (by rw[k1 _ nl];exact f0)) #[by rw[adA,Kd];exact hz,acc.toList,c,?_,by rw[Array.toArray_toList];exact hD],Y,q _ (as.map V.ref) _ (λb v e=>?_) f0 (au ..) (by rw[adA,Kd]) λj y x e1 e2=>?_]
 .rw[jA];exact Kb as
 .rw[aK (jU e f0)];exact s2 b v e
 .rw[adR] at e1;obtain⟨b,hb,rfl⟩:=aeh.mp e1;have hm:=ad3 hb;refine#[b,Y,I1.aA.fresh (BG b hm),?_];rw[aK (λz=>nl (by rw[<- z];exact hm))];have:=k2 j b x hb e2;rw[al4] at this;exact this
def gI:L2.St->Nat->(V->Prop)->Prop
 | [],_,_=>False
 | x::_,0,Q=>match x with|some v=>Q v|none=>False
 | _::G,n+1,Q=>gI G n Q
def cJ(x:V)(Q:Int->Prop):Prop:=match x with|.int i=>Q i|_=>False
def ph(x:V)(Q:Bool->Prop):Prop:=match x with|.bl i=>Q i|_=>False
def uE(x:V)(Q:adK->Prop):Prop:=match x with|.ref i=>Q i|_=>False
def V0(xs:List V)(Q:V->Prop):Prop:=match xs with|[x]=>Q x|_=>False
def V1(xs:List V)(Q:V->V->Prop):Prop:=match xs with|[x,y]=>Q x y|_=>False
def nQ(x:V)(Q:Bool->Prop):Prop:=match x with|.non=>Q true|_=>Q false
def lC(x:V)(Q:Bool->Prop):Prop:=match x with|.non=>Q false|_=>Q true
section
theorem V2:gI (U v::G) 0 Q=Q v:=rfl
theorem V3:gI (o::G) (n+1) Q=gI G n Q:=rfl
theorem V4:cJ (.int i) QI=QI i:=rfl
theorem V5:ph (.bl b) QB=QB b:=rfl
theorem V6:uE (.ref a) QR=QR a:=rfl
theorem V7:V0 [x] Q=Q x:=rfl
theorem V8:V1 [x,y] Q2=Q2 x y:=rfl
theorem V9:nQ .non QB=QB true:=rfl
theorem Wa:nQ (.int i) QB=QB false:=rfl
theorem Wb:nQ (.bl b) QB=QB false:=rfl
theorem Wc:nQ (.ref a) QB=QB false:=rfl
theorem Wd:lC .non QB=QB false:=rfl
theorem We:lC (.int i) QB=QB true:=rfl
theorem Wf:lC (.bl b) QB=QB true:=rfl
theorem Wg:lC (.ref a) QB=QB true:=rfl
theorem Wh:lC (.str s) QB=QB true:=rfl
theorem Wi:nQ (.str s) QB=QB false:=rfl
theorem gI.ex:∀ {G:L2.St} {n:Nat},gI G n Q->∃ v,G[n]?=U (U v)/\Q v
 | [],_,h=>h.elim
 | some v::_,0,h=>#[v,Y,h]
 | none::_,0,h=>h.elim
 | _::G,n+1,h=>gI.ex (G:=G) (n:=n) h
theorem cJ.ex(h:cJ x QI):∃ i,x = .int i/\QI i:=by cases x<;>first|exact#[_,Y,h]|exact h.elim
theorem ph.ex(h:ph x QB):∃ i,x = .bl i/\QB i:=by cases x<;>first|exact#[_,Y,h]|exact h.elim
theorem uE.ex(h:uE x QR):∃ i,x = .ref i/\QR i:=by cases x<;>first|exact#[_,Y,h]|exact h.elim
theorem lC.ex(h:lC x QB):QB (!decide (x = .non)):=by cases x<;>exact h
theorem nQ.ex(h:nQ x QB):QB (decide (x = .non)):=by cases x<;>exact h
end
section
variable{X:Cx}{e a b c:ahx}{pos:Pos}{ta tb tc:TE}{op jo:CmpOp}
theorem Ke(h:Q (t5 x)):lC x Q:=by cases x<;>exact h
theorem BH{c:Prop}[Decidable c]{Q:Bool->Prop}(h:Q (decide c)):if c then Q true else Q false:=by
 by_cases z:c
 .rw[decide_eq_true z] at h;exact (show _=_ from if_pos z).mpr h
 .rw[decide_eq_false z] at h;exact (show _=_ from if_neg z).mpr h
def Wj(t:TE):TE:=λG H Q=>∃ Q':VK,(∀ v H1,Q' v H1->Q v H1)/\t G H Q'
theorem fO(h:PE X e ta):PE X e (Wj ta):=λpins s G H Q I ⟨Q',k,q⟩=>aI (h pins s G H Q' I q) λ_ _ ⟨x,H1,I1,r1,q1⟩=>#[x,H1,I1,r1,k _ _ q1]
theorem uF(h:PE X e ta)(k:∀ G H Q,t' G H Q->ta G H Q):PE X e t':=λpins s G H Q I q=>h pins s G H Q I (k G H Q q)
theorem pq(h:PT X e t)(k:∀ G H Q,t' G H Q->t G H Q):PT X e t':=λpins s G H Q I q=>h pins s G H Q I (k G H Q q)
theorem BI(h:bE X f r)(k:∀ x y H Q,r' x y H Q->r x y H Q):bE X f r':=λpins s G H x y v u Q I rx ry q=>h pins s G H x y v u Q I rx ry (k _ _ _ _ q)
def mO(i:Nat):TE:=λG H Q=>gI G i λv=>Q v H
theorem aa(i:Nat)(hN:X.N[i]?=U x:=by rfl)(hv:vZ X.env.scope x:=by first|exact aho rfl|exact akD (aho Y)|exact akD (akD Y))(hd:(x == ("__debug__" : Str))=false:=by decide)(gQ:(x == ("__classdict__" : Str))=false:=by decide):PE X (.Name x pos) (mO i):=uF (pv i hN hv hd gQ) λy y y h=>h.ex
def uG(C:Int->Int->Prop)(g:Int->Int->V):R2:=λx y H Q=>cJ x λi=>cJ y λj=>C i j/\Q (g i j) H
def uH(g:Int->Int->V):R2:=λx y H Q=>cJ x λi=>cJ y λj=>Q (g i j) H
def BJ(g:Int->V):V->Hp->VK->Prop:=λx H Q=>cJ x λi=>Q (g i) H
def BK(p:Int->Int->Prop)[∀ i j,Decidable (p i j)]:R2:=λx y H Q=>cJ x λi=>cJ y λj=>if p i j then Q (.bl true) H else Q (.bl false) H
theorem BL(h:bE X f (rI C g)):bE X f (uG C g):=BI h λx y H Q q=>by obtain⟨i,rfl,q1⟩:=cJ.ex q;obtain⟨j,rfl,q5⟩:=cJ.ex q1;exact#[i,j,Y,Y,q5]
theorem hV(h:bE X f (ip g)):bE X f (uH g):=BI h λx y H Q q=>by obtain⟨i,rfl,q1⟩:=cJ.ex q;obtain⟨j,rfl,q5⟩:=cJ.ex q1;exact#[i,j,Y,Y,q5]
theorem BM[∀ i j,Decidable (p i j)](h:bE X f (ip λi j=>.bl (decide (p i j)))):bE X f (BK p):=BI h λx y H Q q=>by
 obtain⟨i,rfl,q1⟩:=cJ.ex q;obtain⟨j,rfl,q5⟩:=cJ.ex q1;clear q q1;refine#[i,j,Y,Y,?_];by_cases z:p i j
 .rw[if_pos z] at q5;show Q (.bl (decide (p i j))) H;rw[decide_eq_true z];exact q5
 .rw[if_neg z] at q5;show Q (.bl (decide (p i j))) H;rw[decide_eq_false z];exact q5
theorem Wk(h:qv X f (rU g)):qv X f (BJ g):=λpins s G H x v Q I rx q=>h pins s G H x v Q I rx q.ex
theorem a8:bE X (agC .Add) (uH λi j=>.int (i+j)):=hV OI
theorem cf:bE X (agC .Sub) (uH λi j=>.int (i-j)):=hV OJ
theorem pw:bE X (agC .Mod) (uG (λy j=>0<j) λi j=>.int (i % j)):=BL OL
theorem jH:bE X (agC .Mult) (uG qD λi j=>.int (i * j)):=BL P4
theorem Kf:bE X (agC .Mult) (uG qT λi j=>.int (i * j)):=BL Sg
theorem i3:qv X (unaryOp .USub) (BJ λi=>.int (-i)):=Wk ON
def Kg(t:TE):TT:=λG H Q=>t G H λx H'=>ph x λk=>Q k H'
theorem de(h:PE X e ta)(he:∀ whole,alU e X.env whole=(do let v <- whole;ajQ e.pos;holding [v] (truthy v)):=by intro y;rfl):PT X e (Kg ta):=pq (Ou (fO h) he) λG H Q q=>#[_,λy y h=>h.ex,q]
def rJ(p:Int->Int->Prop)[∀ i j,Decidable (p i j)](ta tb:TE):TT:=λG H Q=>ta G H λx H1=>tb G H1 λy H2=>cJ x λi=>cJ y λj=>if p i j then Q true H2 else Q false H2
theorem Kh{p:Int->Int->Prop}[∀ i j,Decidable (p i j)]{x y:V}{H:Hp}{Q:Bool->Hp->Prop}(q:cJ x λi=>cJ y λj=>if p i j then Q true H else Q false H):BK p x y H (λz H'=>∃ k,z = .bl k/\Q k H'):=by
 obtain⟨i,rfl,q1⟩:=cJ.ex q;obtain⟨j,rfl,q5⟩:=cJ.ex q1;clear q q1;by_cases z:p i j
 .rw[if_pos z] at q5;exact (show _=_ from if_pos z).mpr #[_,Y,q5]
 .rw[if_neg z] at q5;exact (show _=_ from if_neg z).mpr #[_,Y,q5]
theorem xY[∀ i j,Decidable (p i j)](ho:bE X (aeL op) (ip λi j=>.bl (decide (p i j))))(ha:PE X a ta)(hb:PE X b tb)(hm:afJ op b=false):PT X (.Compare a [op] [b] pos) (rJ p ta tb) :=
 pq (oG (BM ho) (fO ha) (fO hb) hm) λG H Q q=>#[_,λx H1 q1=>#[_,λy H2 q2=>Kh q2,q1],q]
theorem i4(ha:PE X a ta)(hb:PE X b tb):PT X (.Compare a [.Lt] [b] pos) (rJ (λi j=>i<j) ta tb):=xY oF ha hb (c6 _)
theorem Wl(ha:PE X a ta)(hb:PE X b tb):PT X (.Compare a [.LtE] [b] pos) (rJ (λi j=>i<=j) ta tb):=xY fU ha hb (c6 _)
theorem rK(ha:PE X a ta)(hb:PE X b tb):PT X (.Compare a [.Gt] [b] pos) (rJ (λi j=>j<i) ta tb):=xY tx ha hb (c6 _)
theorem BN(ha:PE X a ta)(hb:PE X b tb):PT X (.Compare a [.GtE] [b] pos) (rJ (λi j=>j<=i) ta tb):=xY zR ha hb (c6 _)
def eqT(x y:V)(Q:Bool->Prop):Prop:=match x with
 | .int i=>(match y with|.int j=>if i=j then Q true else Q false|.non=>Q false|.str _=>Q false|_=>False)
 | .str i=>(match y with|.str j=>if i=j then Q true else Q false|.non=>Q false|.int _=>Q false|_=>False)
 | .bl i=>(match y with|.bl j=>if i=j then Q true else Q false|.non=>Q false|_=>False)
 | .non=>(match y with|.non=>Q true|.int _=>Q false|.bl _=>Q false|.str _=>Q false|_=>False)
 | _=>False
def neT(x y:V)(Q:Bool->Prop):Prop:=match x with
 | .int i=>(match y with|.int j=>if ¬ i=j then Q true else Q false|.non=>Q true|.str _=>Q true|_=>False)
 | .str i=>(match y with|.str j=>if ¬ i=j then Q true else Q false|.non=>Q true|.int _=>Q true|_=>False)
 | .bl i=>(match y with|.bl j=>if ¬ i=j then Q true else Q false|.non=>Q true|_=>False)
 | .non=>(match y with|.non=>Q false|.int _=>Q true|.bl _=>Q true|.str _=>Q true|_=>False)
 | _=>False
section
theorem Wm:eqT (.int i) (.int j) Q=if i=j then Q true else Q false:=rfl
theorem Wn:eqT (.str s) (.str t) Q=if s=t then Q true else Q false:=rfl
theorem Wo:eqT (.bl b') (.bl b1) Q=if b'=b1 then Q true else Q false:=rfl
theorem Wq:eqT .non .non Q=Q true:=rfl
theorem Wr:eqT .non (.int j) Q=Q false:=rfl
theorem Ws:eqT (.int i) .non Q=Q false:=rfl
theorem Wt:eqT (.int i) (.str s) Q=Q false:=rfl
theorem Wu:eqT .non (.str s) Q=Q false:=rfl
theorem Wv:neT (.int i) (.int j) Q=if ¬ i=j then Q true else Q false:=rfl
theorem Ww:neT (.str s) (.str t) Q=if ¬ s=t then Q true else Q false:=rfl
theorem Wx:neT .non .non Q=Q false:=rfl
theorem Wy:neT .non (.int j) Q=Q true:=rfl
theorem Wz:neT (.int i) .non Q=Q true:=rfl
theorem Ki{c:Prop}[Decidable c]{Q:Bool->Prop}(q:if c then Q true else Q false):Q (decide c):=by
 by_cases z:c
 .rw[if_pos z] at q;rw[decide_eq_true z];exact q
 .rw[if_neg z] at q;rw[decide_eq_false z];exact q
theorem eqT.ex(h:eqT x y Q):lY x y=true/\Q (decide (x=y)):=by
 cases x<;>cases y<;>first
  | exact h.elim
  | exact#[Y,h]
  | (refine#[Y,?_];have:=Ki h;simpa using this)
theorem neT.ex(h:neT x y Q):lY x y=true/\Q (!decide (x=y)):=by
 cases x<;>cases y<;>first
  | exact h.elim
  | exact#[Y,h]
  | (refine#[Y,?_];have:=Ki h;simpa using this)
end
def uI(ta tb:TE):TT:=λG H Q=>ta G H λx H1=>tb G H1 λy H2=>eqT x y λk=>Q k H2
def Kj(ta tb:TE):TT:=λG H Q=>ta G H λx H1=>tb G H1 λy H2=>neT x y λk=>Q k H2
theorem aW(ha:PE X a ta)(hb:PE X b tb):PT X (.Compare a [.Eq] [b] pos) (uI ta tb) :=
 pq (oG oE (fO ha) (fO hb) (c6 _)) λG H Q q=>#[_,λx H1 q1=>#[_,λy H2 q2=>#[(eqT.ex q2).1,_,Y,(eqT.ex q2).2],q1],q]
theorem nR(ha:PE X a ta)(hb:PE X b tb):PT X (.Compare a [.NotEq] [b] pos) (Kj ta tb) :=
 pq (oG OO (fO ha) (fO hb) (c6 _)) λG H Q q=>#[_,λx H1 q1=>#[_,λy H2 q2=>#[(neT.ex q2).1,_,Y,(neT.ex q2).2],q1],q]
def Kk(ta:TE):TT:=λG H Q=>ta G H λx H1=>nQ x λk=>Q k H1
def Kl(ta:TE):TT:=λG H Q=>ta G H λx H1=>lC x λk=>Q k H1
theorem eh(ha:PE X a ta):PT X (.Compare a [.Is] [.Constant .none j pos'] pos) (Kk ta):=pq (sW (sU (fO ha))) λG H Q q=>#[_,λx H1 q1=>#[_,Y,q1.ex],q]
theorem iF(ha:PE X a ta):PT X (.Compare a [.IsNot] [.Constant .none j pos'] pos) (Kl ta):=pq (sW (sV (fO ha))) λG H Q q=>#[_,λx H1 q1=>#[_,Y,lC.ex q1],q]
def Km(p q:Int->Int->Prop)[∀ i j,Decidable (p i j)][∀ i j,Decidable (q i j)](ta tb tc:TE):TT:=λG H Q=>ta G H λx H1=>tb G H1 λy H2=>cJ x λi=>cJ y λj=>if p i j then (tc G H2 λz H3=>cJ z λk=>if q j k then Q true H3 else Q false H3) else Q false H2
theorem xZ[∀ i j,Decidable (p i j)][∀ i j,Decidable (q i j)](ho:bE X (aeL op) (ip λi j=>.bl (decide (p i j))))(cU:bE X (aeL jo) (ip λi j=>.bl (decide (q i j))))(ha:PE X a ta)(hb:PE X b tb)(hc:PE X c tc)(hm:akW [op,jo] [b,c]=false:=by with_unfolding_all rfl):PT X (.Compare a [op,jo] [b,c] pos) (Km p q ta tb tc) :=
 pq (OP (BM ho) (BM cU) (fO ha) (fO hb) (fO hc) hm) λG H Q q=>#[_,λx H1 q1=>#[_,λy H2 q2=>by
  obtain⟨i,rfl,q3⟩:=cJ.ex q2;obtain⟨j,rfl,q5⟩:=cJ.ex q3;clear q2 q3;by_cases z:p i j
  .rw[if_pos z] at q5;exact (show _=_ from if_pos z).mpr #[_,Y,_,λw' H4 q4=>by
    obtain⟨k,rfl,y⟩:=cJ.ex q4;exact Kh (x:=.int j) q4,q5]
  .rw[if_neg z] at q5;exact (show _=_ from if_neg z).mpr #[_,Y,#[_,Y,q5]],q1],q]
variable{rest:List ahx}
def Kn(ta tb:TE):TE:=λG H Q=>ta G H λx H1=>ph x λc=>if c=true then tb G H1 Q else Q (.bl false) H1
def Ko(ta tb:TE):TE:=λG H Q=>ta G H λx H1=>ph x λc=>if c=true then Q (.bl true) H1 else tb G H1 Q
def Kp(ta:TE):TE:=λG H Q=>ta G H λx H1=>ph x λc=>Q (.bl (!c)) H1
theorem fP(ha:PE X a ta)(hb:PE X (.BoolOp .And (b::rest) pos) tb):PE X (.BoolOp .And (a::b::rest) pos) (Kn ta tb):=uF (Ov (fO ha) hb) λG H Q q=>#[_,λx H1 q1=>q1.ex,q]
theorem BO(ha:PE X a ta)(hb:PE X (.BoolOp .Or (b::rest) pos) tb):PE X (.BoolOp .Or (a::b::rest) pos) (Ko ta tb):=uF (Ow (fO ha) hb) λG H Q q=>#[_,λx H1 q1=>q1.ex,q]
theorem x3(ha:PE X a ta):PE X (.UnaryOp .Not a pos) (Kp ta):=uF (Ox (fO ha)) λG H Q q=>#[_,λx H1 q1=>q1.ex,q]
def Kq(K:adz)(ta:TE)(f:Str):TE:=λG H Q=>ta G H λx H1=>uE x λa=>∃ C dx fs,H1 a=U (.ins C dx fs)/\cg K C/\bA K C f/\∃ v,fs.lookup f=U v/\Q v H1
theorem a9{f:Str}{K:adz}(hK:X.K=K)(he:PE X e ta)(hb:agQ e f X.env (eval e X.env)=eval e X.env):PE X (.Attribute e f pos) (Kq K ta f):=by
 subst hK;exact uF (O5 (fO he) hb) λG H Q q=>#[_,λx H1 q1=>by
  obtain⟨a,rfl,C,dx,fs,h1,h2,h3,v,h4,q2⟩:=q1.ex;exact#[a,C,dx,fs,v,Y,h1,h2,h3,h4,q2],q]
def Kr(K:adz)(ta tv:TE)(f:Str):TS:=λD G H=>tv G H λy H1=>ta G H1 λx H2=>uE x λa=>∃ C dx fs,H2 a=U (.ins C dx fs)/\cg K C/\bA K C f/\fs.length<1000 /\
 D.nx G (upd H2 a (.ins C dx (fI f y fs)))
theorem fz(ha:PE X o ta)(hv:PE X value tv)(hs:ahO value (U (.Attribute o f pos')) pos.line X.env=pure false):PS X (.Assign [.Attribute o f pos'] value pos) (Kr X.K ta tv f):=λpins s G H D I h =>
 O6 (fO ha) (fO hv) hs pins s G H D I #[_,λy H1 q1=>#[_,λx H2 q2=>by
  obtain⟨a,rfl,C,dx,fs,h⟩:=q2.ex;exact#[a,C,dx,fs,Y,h],q1],h]
end
section
variable{X:Cx}{K:adz}{a b e:ahx}{es:List ahx}{ta tb:TE}{t:TA}{pos p:Pos}
theorem ar(ha:PE X a ta)(hb:PE X b tb)(hs:z6 b:=by exact λy y=>rfl):PE X (.Subscript a b pos) (jn (iq X.K) ta tb):=bM bN ha hb hs
theorem cu(ha:PE X a ta)(hb:PE X b tb)(h:X.K=K:=by rfl)(hs:z6 b:=by exact λy y=>rfl):PE X (.Subscript a b pos) (jn (iq K) ta tb):=bM (Rm h) ha hb hs
end
structure Fn(K:adz)(mg:Str->Option adH)(x:Str)(st:aiK)(ps:List Str) where
 a:adK
 fd:afV
 F:oN K x x st a fd
 m:mg x=U (.ref a)
 b:Binds K fd ps []
structure Fm(K:adz)(x q:Str)(st:aiK)(ps:List Str) where
 a:adK
 fd:afV
 F:oN K x q st a fd
 b:Binds K fd ps []
section
theorem WA{CX:fV}{k n:Nat}{ps:List Str}{sp:Sp}{x:Str}{st:aiK}(N:Fn X.K X.mg x st ps)(F:cF X.prog X.w X.K X.mg X.base CX k N.a N.fd ps sp)(hr:bF n X.A)(hx:Passes CX X E0)(ha:PA X (e::es) t)
 (hk:k<=n:=by decide) (hg:Gl X x:=by rfl) (fW:(x == ("__debug__" : Str))=false:=by decide) (he:adX (e::es) X.env=(false,eval e X.env)::adX es X.env:=by rfl) (dP:(afi pos (adX es X.env)).any (·.1)=false:=by rfl) :
 PE X (.Call (.Name x p) (e::es) [] pos) (qx sp [] E0 t):=fe F (hr.mono hk) hg N.m N.F.kp N.b .nil hx ha fW he dP
end
theorem WB{α:Type}{n:Nat}{p:List α->Prop}(h:∀ u vs,vs.length=n->p (u::vs)):∀ us:List α,us.length=n+1->p us
 | u::vs,e=>h u vs (Nat.succ.inj e)
theorem WC{α:Type}{p:List α->Prop}(h:p []):∀ us:List α,us.length=0->p us
 | [],_=>h
structure Sc(N ps:List Str)(st:aiK):Prop extends tH N ps (eN st) where
 b:∀ (x q:Str) (kV doc pm:adH) (an:Option adK) (bq ct:adH) (us:List adH),us.length=ps.length->bindArgs (agf x q (qC st) (jt st) (eN st) .none kV doc pm an bq ct) #[us,[]]=pure (ps.zip us)
section
variable{P:aek}{w:aeS}{K:adz}{mg:Str->Option adH}{base h:afH}{x q:Str}{st:aiK}{N ps:List Str}{k:Nat}{sp:Sp}{C:adK}
inductive Fb(K:adz)(x q:Str)(st:aiK)(p:adK->Prop):Prop
 | mk {f:adK} {od an:Option adK} {sl:Array (Option adH)} {oc kV dc pm cd ct:adH} (_:p f) (_:K.lookup f=U #[oc,od,.func (agf x q (qC st) (jt st) (eN st) .none kV dc pm an cd ct),sl]) (_:aij K cd q=true) (_:afQ K (.ref f)=true)
def Ks(K:adz)(x:Str)(f:adK):Prop:=al5 K ae5 x=U (U (.ref f))
def cp(K:adz)(C:adK)(x:Str)(f:adK):Prop:=afa K (.ref C) x=U (U (.ref f))/\ajj K (.ref f)=true
theorem Fb.fn(b:Fb K x x st (Ks K x))(X:K.In h)(G9q:h.Ns ae5 mg)(S:Sc N ps st):Nonempty (Fn K mg x st ps) :=
 let ⟨a,l,c,k⟩:=b;#[#[_,_,wJ l c k,alQ X G9q a,(wJ l c k).binds (S.b x x)]]
theorem Fn.bt{y:Str}(F:Fn K mg x st [y])(S:Sc N [y] st)(s:adQ)(v:adH):akl s F.fd #[[v],[]] [(y,v)]:=by obtain⟨oc,od,kV,doc,pm,an,bq,ct,kS,e,lk,gQ⟩:=F.F.ex;rw[e];exact .of_eq (S.b _ _ _ _ _ _ _ _ [v] Y)
abbrev Ok(P:aek)(w:aeS){K:adz}{mg:Str->Option adH}(base:afH)(k:Nat){x:Str}{st:aiK}{ps:List Str}(F:Fn K mg x st ps)(sp:Sp):Prop:=cF P w K mg base (dR P w) k F.a F.fd ps sp
abbrev Om(P:aek)(w:aeS){K:adz}(mg:Str->Option adH)(base:afH)(k:Nat){x q:Str}{st:aiK}{ps:List Str}(F:Fm K x q st ps)(sp:Sp):Prop:=cF P w K mg base (dR P w) k F.a F.fd ps sp
theorem bD{F:Fn K mg x st ps}(S:Sc N ps st)
 (iS:∀ (bq:adH) (A:aff) (outer:List Env) (s:adQ) (H:Hp) (vs:List V) (Q:VK) (E:XK),bF k (A.deeper (afl x (eN st) s.heap.objs.size F.a bq))->sp vs H Q E ->
   ∃ t,aT (fX (dR P w) P w K mg base N x (eN st) F.a bq A outer s H E).qr (jt st) t/\t { nx:=λy H'=>Q .non H',rt:=Q } (start N vs) H)
 (len:∀ vs H Q E,sp vs H Q E->vs.length=ps.length:=by intro y y y y h;cases h;subst_vars;rfl):Ok P w base (k+1) F sp:=okN F.F S.1 len iS
theorem kA{F:Fn K mg x st ps}(S:Sc N ps st)
 (iS:∀ (bq:adH) (A:aff) (outer:List Env) (s:adQ) (H:Hp) (vs:List V) (Q:VK) (E:XK),bF k (A.deeper (afl x (eN st) s.heap.objs.size F.a bq))->sp vs H Q E ->
   ∃ t,aT (fX (dR P w) P w K mg base N x (eN st) F.a bq A outer s H E) (jt st) t/\t { nx:=λy H'=>Q .non H',rt:=Q } (start N vs) H)
 (len:∀ vs H Q E,sp vs H Q E->vs.length=ps.length:=by intro y y y y h;cases h;subst_vars;rfl):Ok P w base (k+1) F sp:=j8 F.F S.1 len iS
theorem cA{F:Fm K x q st ps}(S:Sc N ps st)
 (iS:∀ (bq:adH) (A:aff) (outer:List Env) (s:adQ) (H:Hp) (vs:List V) (Q:VK) (E:XK),bF k (A.deeper (afl q (eN st) s.heap.objs.size F.a bq))->sp vs H Q E ->
   ∃ t,aT (fX (dR P w) P w K mg base N q (eN st) F.a bq A outer s H E).qr (jt st) t/\t { nx:=λy H'=>Q .non H',rt:=Q } (start N vs) H)
 (len:∀ vs H Q E,sp vs H Q E->vs.length=ps.length:=by intro y y y y h;cases h;subst_vars;rfl):Om P w mg base (k+1) F sp:=okN F.F S.1 len iS
theorem iG{F:Fm K x q st ps}(S:Sc N ps st)
 (iS:∀ (bq:adH) (A:aff) (outer:List Env) (s:adQ) (H:Hp) (vs:List V) (Q:VK) (E:XK),bF k (A.deeper (afl q (eN st) s.heap.objs.size F.a bq))->sp vs H Q E ->
   ∃ t,aT (fX (dR P w) P w K mg base N q (eN st) F.a bq A outer s H E) (jt st) t/\t { nx:=λy H'=>Q .non H',rt:=Q } (start N vs) H)
 (len:∀ vs H Q E,sp vs H Q E->vs.length=ps.length:=by intro y y y y h;cases h;subst_vars;rfl):Om P w mg base (k+1) F sp:=j8 F.F S.1 len iS
end
section
theorem aJ(i:Nat)(hN:X.N.Nodup)(he:PE X e te)(hi:X.N[i]?=U x:=by rfl)(hx:Loc X.env.scope x:=by first|exact aho rfl|exact akD Y)(hs:ahO e (U (.Name x pos')) pos.line X.env=pure false:=by rfl)(hf:X.fn x=true∨X.env.scope.names.lookup x=U .local:=by first|exact .inl rfl|exact .inr rfl) :
 PS X (.Assign [.Name x pos'] e pos) (qt te (cH i)):=jY hN hi hx he hs hf
theorem df(i:Nat)(hN:X.N.Nodup)(hi:X.N[i]?=U x:=by rfl)(hx:Loc X.env.scope x:=by first|exact aho rfl|exact akD Y)(hf:X.fn x=true∨X.env.scope.names.lookup x=U .local:=by first|exact .inl rfl|exact .inr rfl):PG X (.Name x pos) (cH i):=jh hN hi hx hf
theorem aF{k n:Nat}{ps:List Str}{sp:Sp}{st:aiK}{CX:fV}{N:Fn X.K X.mg x st ps}(F:cF X.prog X.w X.K X.mg X.base CX k N.a N.fd ps sp)(hr:bF n X.A)(ha:PA X (e::es) t)(hx:Passes CX X E0:=by exact bB)
 (hk:k<=n:=by decide) (hg:Gl X x:=by rfl) (fW:(x == ("__debug__" : Str))=false:=by decide) (he:adX (e::es) X.env=(false,eval e X.env)::adX es X.env:=by rfl) (dP:(afi pos (adX es X.env)).any (·.1)=false:=by rfl) :
 PE X (.Call (.Name x p) (e::es) [] pos) (qx sp [] E0 t):=WA N F hr hx ha hk hg fW he dP
end
end Gz
namespace Gz
open PySem L2
theorem BP:∀ {xs ys:List Int},xs.Nodup->(∀ x∈xs,x∈ys)->xs.length<=ys.length
 | [],_,_,_=>ad6 _
 | x::xs,ys,h,k=>by obtain⟨h1,h2⟩:=aeB.mp h;have hx:=k x (.head _);have ih:=BP (ys:=ys.erase x) h2 λy hy=>(ajI (λz=>h1 (by rw[<- z];exact hy))).mpr (k y (.tail _ hy));rw[aiG hx] at ih;have:=ajf hx;rw[aeg];omega
end Gz
namespace Gz
open PySem PySem.Spec PyProof.Rows L2
theorem Kt(hL:(L.length:Int)<=mo)(hc:jF ps c)(hg:∀ k s,gs[k]?=U s->b8 s (c k))(ia:gs.length<=ps.length+1)(hw:meets (fw tb L) c)(ht:∀ r∈tb,r.1.2.toNat<=ps.length) :
 ∀ (t:Pp) (as:List Int),as.Nodup->(∀ x∈as,x∈L)->¬ Val ps gs tb mo t as
 | .nil,_,_,_,h=>h
 | .full,as,hn,hs,h=>by have:=BP hn hs;have h:mo<as.length:=h;lia
 | .cls x a b,as,hn,hs,h=>by
  obtain⟨⟨m,n,hm,kM,bf⟩,ha,hb⟩:=h;have met:∀ (s:En × Nat) (k:Mk),kz gs tb as s k->(∀ e,s.1=U e->e∉L)->b8 k.2 (c k.1)/\k.1<=ps.length:=λs k hk hl=>by
   obtain⟨h1,h2⟩:=hk;obtain⟨o,j⟩:=s;cases o with
   | none =>
    have h2:gs[j]?=U k.2:=h2;have:=(adI.mp h2).1;have h1:k.1=j:=h1;rw[h1];exact#[hg _ _ h2,by lia]
   | some e =>
    have h2:e∉as/\((e,(j:Int)),k.2)∈tb:=h2;have h1:k.1=j:=h1;have jG:(j,k.2)∈fw tb L:=BE.mpr #[_,h2.2,hl e Y,by simp];have:=ht _ h2.2;rw[h1];exact#[hw _ jG,by simpa using this]
  have step:∀ (e:Int) (t:Pp) (s:En × Nat) (k:Mk),kz gs tb as s k->s.1=U e->e∈L->Val ps gs tb mo t (as++[e])->sizeOf t<1+sizeOf x+sizeOf a+sizeOf b->False:=λe t s k hk es hl hv bc=>by
   have BQ:e∉as:=by obtain⟨v,h2⟩:=hk;rw[es] at h2;exact h2.1
   refine Kt hL hc hg ia hw ht t (as++[e]) (aiH.mpr #[hn,by simp,λy hy z hz=>?_]) (λy hy=>?_) hv
   .obtain rfl:z=e:=by simpa using hz
    exact λq=>BQ (q ▸ hy)
   .rcases aec.mp hy with z|z
    .exact hs y z
    .obtain rfl:y=e:=by simpa using z
     exact hl
  by_cases h1:∃ e,x.1.1=U e/\e∈L
  .obtain⟨e,e1,e2⟩:=h1;rw[e1] at ha;exact step e a x.1 m hm e1 e2 ha (by lia)
  by_cases h2:∃ e,x.2.1=U e/\e∈L
  .obtain⟨e,e1,e2⟩:=h2;have hb:if x.1.1=U e then b = .nil else Val ps gs tb mo b (as++[e]):=by rw[e1] at hb;exact hb
   rw[if_neg (λz=>h1 #[e,z,e2])] at hb;exact step e b x.2 n kM e1 e2 hb (by lia)
  have m1:=met x.1 m hm λe he z=>h1 #[e,he,z];have m2:=met x.2 n kM λe he z=>h2 #[e,he,z];refine TV (ms:=[m,n]) hc (λq hq=>?_) (λq hq=>?_) (.head _) (.tail _ (.head _)) bf
  .rcases adL.mp hq with rfl|hq
   .exact m1.1
   .obtain rfl:q=n:=by simpa using hq
    exact m2.1
  .rcases adL.mp hq with rfl|hq
   .exact m1.2
   .obtain rfl:q=n:=by simpa using hq
    exact m2.2
termination_by t=>sizeOf t
decreasing_by simp_wf;lia
theorem BR(f:Nat->Int):∀ i,(firstMet f i).Nodup
 | 0=>ahk
 | i+1=>by
  rw[firstMet_succ];unfold step_dedup;split
  .exact BR f i
  .rename_i h;refine aiH.mpr #[BR f i,by simp,λa ha b hb z=>h ?_];obtain rfl:b=f i:=by simpa using hb
   exact aez.mpr #[a,ha,by simpa using z]
theorem WD(ns:List Int)(x:Int):x∈firstMet (λi=>ns.getD i 0) ns.length↔x∈ns:=by
 have h:=firstMet_any (λi=>ns.getD i 0) ns.length x;have e:(adM ns.length).map (λi=>ns.getD i 0)=ns:=by refine ai4 (by simp) λi h1 h2=>?_;simp[h2]
 rw[e] at h;constructor
 .intro z;have:ns.any (· == x)=true:=by rw[<- h];exact aez.mpr #[x,z,by simp]
  obtain⟨y,hy,e⟩:=aez.mp this;exact (by simpa using e:y=x) ▸ hy
 .intro z;have:(firstMet (λi=>ns.getD i 0) ns.length).any (· == x)=true:=by rw[h];exact aez.mpr #[x,z,by simp]
  obtain⟨y,hy,e⟩:=aez.mp this;exact (by simpa using e:y=x) ▸ hy
def Ku(K:adz)(t:TE):TE:=λG H Q=>t G H λv H1=>∃ (a:adK) (ns:List Int),v=V.ref a/\aj K H1 a (ns.map V.int)/\ns.length<=1000/\∀ zs:List Int,zs.Nodup->(∀ x,x∈zs↔x∈ns)->Q (.int zs.length) H1
theorem WE(hc:X.calm=true)(he:PE X e t)(Br:X.mg "len" = O)(ky:X.mg "set" = O)(hJ:Gl X "len" := by rfl)(uy:Gl X "set" := by rfl)(dv:adX [e] X.env=[(false,eval e X.env)]:=by rfl)(lx:adX [.Call (.Name "set" p2) [e] [] iC] X.env=[(false,eval (.Call (.Name "set" p2) [e] [] iC) X.env)]:=by rfl) :
 PE X (.Call (.Name "len" p1) [.Call (.Name "set" p2) [e] [] iC] [] pos) (Ku X.K t):=by
 intro pins s G H Q I h;refine ae1 (gy I hJ Br FY ?_ (by decide) (by decide));refine af1 ?_ (by rw[lx];rfl) rfl;rw[lx];show adY _ _ (spliced ((false,eval (.Call (.Name "set" p2) [e] [] iC) X.env)::afi pos [])) _ _ s;refine afk ?_;refine ae1 (gy I uy ky Jl ?_ (by decide) (by decide));refine aed ?_ (by rw[dv];rfl) rfl;rw[dv];show adY _ _ (spliced ((false,eval e X.env)::afi iC [])) _ _ s;refine afk (aI (he pins s G H _ I h) λu s1 zq=>?_);obtain⟨x,H1,I1,r1,q1⟩:=zq;obtain⟨a,ns,rfl,hS,hn,q⟩:=q1;cases r1;refine afw ?_;obtain⟨us,rv,pl,hz⟩:=I1.list hS;have hl:us.length=ns.length:=by have:=rv.length;rw[adA] at this;lia
 refine call_set_list (items:=us.toArray) (ns:=ns) (I1.ok.hd hc) pl.isList (intsAre_of rv) (by simp;rw[hl];exact aeR (akQ hn) (by decide)) λh2 tk WG hk=>?_;refine afw ?_;obtain⟨o,es,ep,tb,g1,g2,g3,g4,g5,g6,g7,g8⟩:=WG;have WH:us.toArray.size=ns.length:=by simp[hl]
 rw[WH] at g8;refine call_len_set g1 g2 g3 g7 (by rw[g8];have:=firstMet_length_le (λi=>ns.getD i 0) ns.length;lia) ?_;refine#[.int es.size,H1,I1.kept λb o hb=>hk b o (adF hb) hb,#[_,Y],?_];rw[g8];exact q _ (BR _ _) (WD ns)
theorem _root_.L2.bF.m(r:bF k A)(h:j<=k:=by decide):bF j A:=r.mono h
theorem aQ{K:adz}{H:Hp}{p:adK}{xs:List V}{i:Int}{v:V}{Q:VK}(h:H p=U (.tup xs))(q:Q v H)(e:dw xs i=U v:=by rfl):iq K (.ref p) (.int i) H Q:=az (ak.of h) e q
theorem cO(fr:List Nat)(ys:List Str)(a:alA scope X.env=pure cl:=by rfl)(b:(scope.names.all λp=>p.2 != .cell)=true:=by decide +kernel)(c:scope.kind = .function:=by rfl)(d:(scope.names.all λp=>p.2 != .local || scope.names.lookup p.1 == U .local)=true:=by decide +kernel)(e:scope.names.lookup x=U .local:=by rfl)(f:((relabel scope X.env).names.all λp=>(p.2 != .cell && p.2 != .free) || (cl.lookup p.1).isSome)=true:=by rfl)(g:kX X cl:=by repeat' first|exact kX.nil|refine kX.cons Y ?_)(h:jx X scope cl fr ys:=by repeat' first|exact jx.nil|refine jx.cons Y Y Y Y ?_)(i:(x::ys).Nodup:=by decide)(j:(ys.all λy=>(relabel scope X.env).names.lookup y == U .cell)=true:=by rfl):oP X x scope cl fr ys:=#[a,b,c,d,e,f,g,h,i,j]
theorem x4(h:∀ B:TS,B=t->kO tc B u D G H):kO tc t u D G H:=h t rfl
noncomputable abbrev Fq(K:adz)(mg:Str->Option adH)(x:Str){N ps:List Str}{st:aiK}(_:Sc N ps st):=Fn K mg x st ps
abbrev BS(K:adz)(x:Str){N ps:List Str}{st:aiK}(_:Sc N ps st):Prop:=Fb K x x st (Ks K x)
abbrev pA(K:adz)(C:adK)(x q:Str){N ps:List Str}{st:aiK}(_:Sc N ps st):Prop:=Fb K x q st (cp K C x)
abbrev kB(K:adz)(x q:Str){N ps:List Str}{st:aiK}(_:Sc N ps st)(p:adK->Prop):Prop:=Fb K x q st p
noncomputable def BS.c{K:adz}{mg:Str->Option adH}{h:afH}{x:Str}{st:aiK}{N ps:List Str}{S:Sc N ps st}(b:BS K x S)(X:K.In h)(G9q:h.Ns ae5 mg):Fq K mg x S:=Classical.choice (Fb.fn b X G9q S)
theorem WI{K:adz}{C:adK}{x y q:Str}{st:aiK}{ps:List Str}{F:Fm K y q st ps}(a:cp K C x F.a):Meth K C x F.a:=#[a.1,a.2,F.F.kp]
section
theorem gJ{k n:Nat}{ps:List Str}{sp:Sp}{st:aiK}{CX:fV}{E:XK}{N:Fn X.K X.mg x st ps}(F:cF X.prog X.w X.K X.mg X.base CX k N.a N.fd ps sp)(hr:bF n X.A)(ha:PA X (e::es) t)(hx:Passes CX X E:=by exact gT)
 (hk:k<=n:=by decide) (hg:Gl X x:=by rfl) (fW:(x == ("__debug__" : Str))=false:=by decide) (he:adX (e::es) X.env=(false,eval e X.env)::adX es X.env:=by rfl) (dP:(afi pos (adX es X.env)).any (·.1)=false:=by rfl) :
 PE X (.Call (.Name x p) (e::es) [] pos) (qx sp [] E t):=fe F (hr.mono hk) hg N.m N.F.kp N.b .nil hx ha fW he dP
theorem cY(hm:X.mg "len" = O)(ha:PA X (e::es) t)(hg:Gl X "len" := by rfl)(he:adX (e::es) X.env=(false,eval e X.env)::adX es X.env:=by rfl)(dP:(afi pos (adX es X.env)).any (·.1)=false:=by rfl) :
 PE X (.Call (.Name "len" p) (e::es) [] pos) (wz (λxs H Q=>∃ x n,xs=[x]/\wu X.K x H n/\Q (.int n) H) t):=cG OQ hg hm FY ha (by decide) (by decide) he dP
end
noncomputable abbrev Fy(K:adz)(_:adK)(x q:Str){N ps:List Str}{st:aiK}(_:Sc N ps st):=Fm K x q st ps
noncomputable abbrev Fv(K:adz)(x q:Str){N ps:List Str}{st:aiK}(_:Sc N ps st)(_:adK->Prop):=Fm K x q st ps
section
variable{K:adz}{C:adK}{x q y:Str}{N ps:List Str}{st:aiK}{S:Sc N ps st}{p:adK->Prop}
theorem Fb.fx(b:Fb K x q st p)(S:Sc N ps st):∃ F:Fm K x q st ps,p F.a :=
 let ⟨a,l,c,k⟩:=b;#[#[_,_,wJ l c k,(wJ l c k).binds (S.b x q)],a]
noncomputable def kB.c(b:kB K x q S p):Fv K x q S p:=akR (Fb.fx b S)
noncomputable def pA.c(b:pA K C x q S):Fy K C x q S:=akR (Fb.fx b S)
theorem kB.i{b:kB K x q S p}(h:∀ f,p f->cp K C y f):cp K C y (kB.c b).a:=h _ (ahw (Fb.fx b S))
theorem pA.i{b:pA K C x q S}:cp K C x (pA.c b).a:=ahw (Fb.fx b S)
theorem kB.j{b:kB K x q S p}{v u:adH}(h:∀ f,p f->agV K v u y=U (.val (.ref f))):agV K v u y=U (.val (.ref (kB.c b).a)):=h _ (ahw (Fb.fx b S))
theorem WJ{f:adK}(a:ajl K C=true)(c:cp K C "__init__" f)(b:afQ K (.ref C)=true):L2.Mk K C f:=#[a,c.1,c.2,b]
theorem WK{F:Fm K x q st ps}(a:aiu K (.ref C) "__getattribute__" = U (U (.builtin "type.__getattribute__")))(b:alb K C (.type "type")=true)(c:agV K (.ref C) (.type "type") y=U (.val (.ref F.a))):AQ K C y F.a:=#[a,b,c,F.F.kp]
end
structure lD(P:aek)(w:aeS)(K:adz)(mg:Str->Option adH)(base:afH)(A:aff)(m:Str)(x:V)(H:Hp)(Q:VK):Prop where
 mk ::
 ex:∃ a C dx fs f k fd ps sp,x = .ref a/\H a=U (.ins C dx fs)/\cg K C/\Meth K C m f/\fs.lookup m=O/\cF P w K mg base (dR P w) k f fd ps sp/\bF k A/\Binds K fd ps []/\sp [.ref a] H Q E0
theorem lD.of{P:aek}{w:aeS}{K:adz}{mg:Str->Option adH}{base:afH}{A:aff}{m:Str}{H:Hp}{Q:VK}{a C dx f:adK}{fs:List (Str × V)}{k n:Nat}{fd:afV}{ps:List Str}{sp:Sp}(ha:H a=U (.ins C dx fs))(hc:cg K C)(hm:Meth K C m f)(F:cF P w K mg base (dR P w) k f fd ps sp)(hr:bF n A)(hb:Binds K fd ps [])(q:sp [.ref a] H Q E0)(hl:fs.lookup m=O:=by rfl)(hk:k<=n:=by decide):lD P w K mg base A m (.ref a) H Q :=
 #[a,C,dx,fs,f,k,fd,ps,sp,Y,ha,hc,hm,hl,F,hr.mono hk,hb,q]
theorem dC{X:Cx}{R:V->Hp->VK->Prop}{m:Str}{o:ahx}{apos pos:Pos}{ta:TE}{pl:Sem Bool}(hR:∀ x H Q,R x H Q->lD X.prog X.w X.K X.mg X.base X.A m x H Q)(he:PE X o ta)
 (ht:eval (.Call (.Attribute o m apos) [] [] pos) X.env=(do
   let ov <- eval o X.env
   ajQ apos.atName
   let (f,first) <- holding [ov] (ait ov m pl)
   akT pos f first (afi pos (adX [] X.env)) (aiL pos (agF [] X.env))):=by rfl) :
 PE X (.Call (.Attribute o m apos) [] [] pos) (λG H Q=>ta G H λx H1=>R x H1 Q):=by
 intro pins s G H Q I h;refine afK (pl:=pl) (aI (he pins s G H _ I h) λu s1 zq=>?_) ht;obtain⟨x,H1,I1,rx,q⟩:=zq;obtain⟨a,C,dx,fs,f,k,fd,ps,sp,rfl,ea,c,hm,l,F,hr,hb,q⟩:=hR _ _ _ q;obtain rfl:u=ad7 a:=rx;refine wy I1 ea c hm l ?_;exact ahR (first:=[.ref a]) I1.cv hm.kp (qz (us:=[.ref a]) (vs:=[.ref a]) F hr hb .nil bB I1 (.cons rfl .nil) q)
section
theorem WL(hh:A.handled=O)(hl:s.heap.IsTuple l (ae4 xs))(bT:0<xs.size)(h:∀ v h' tk,(ae4 xs)[ahB (λi j=>decide (aja xs i > aja xs j)) (xs.size-1)]?=U v->(∀ b o,s.heap.get? b=U o->h'.get? b=U o)->Q v { s with heap:=h',toks:=tk }) :
 adY (model prog w) A (call (.builtin "max") [.ref l]) Q E s:=by
 have bc:l<s.heap.objs.size:=by obtain⟨y,e,y⟩:=hl;exact adF e
 refine call_max_walk (ah9 hl ?_);refine#[_,_,_,_,_,_,_,Y,Walks.tuple (A:=A.in1) hh _ l (adV bc) (ae4 xs),#[#[_,adN _ Y,Y,Y],hl.push _],(λb hb=>?_),by simpa [ae4] using bT,CmpOf.ints_gt (aja xs) (λy y=>ahd),λv h' tk hP hk=>?_]
 .show b<(s.heap.push _).objs.size;rw[afR];rcases adL.mp hb with rfl|hb
  .exact af7 _
  .rcases adL.mp hb with rfl|hb
   .exact af0 bc
   .cases hb
 .refine h v h' tk (by simpa [ae4] using hP) λb o e=>hk b o (λhm=>?_) (adE _ e);rcases adL.mp hm with e1|hm
  .exact absurd (e1 ▸ adF e) (aeY _)
  .cases hm
end
theorem WM(hc:X.calm=true):e9 X (.builtin "max") (λxs H Q=>∃ a ns,xs=[.ref a]/\ak X.K H a (ns.map V.int)/\ns≠[]/\Q (.int (fL ns)) H):=by
 intro pins s G H xs us Q I r h;obtain⟨a,ns,rfl,hS,bT,q⟩:=h;obtain⟨u,rfl,ru⟩:=vals1 r;cases ru;obtain⟨ax,rv,hp,y⟩:=I.tuple hS;obtain⟨xs,e1,e2⟩:=qK rv;rw[e1] at hp;have len:xs.size=ns.length:=by rw[<- e2,adA];simp
 have j9:0<xs.size:=by rw[len];exact ahU.mpr bT
 refine WL (I.ok.hd hc) hp j9 λv h' tk hv hk=>#[.int (fL ns),H,I.kept hk,?_,q]
 obtain⟨t,rfl⟩:=ahd hv;exact#[t,by rw[Ax e2 j9]]
section
variable{K:adz}{i:Nat}{p:adK}{a b:Str}{vs:List V}{t u:TS}{D:Ends}{G:L2.St}{H:Hp}
theorem jI(hp:H p=U (.tup (.str a::vs)))(h:u D (G.set i (U (.str a))) H)(hs:∀ Q:V->Prop,gI G 0 Q=Q (.ref p):=by intro y;rfl):lU (qt (jn (iq K) (mO 0) (tC (.int 0))) (cH i)) u D G H:=by show gI G 0 _;rw[hs];exact aQ hp h (dQ (j:=0) Y)
theorem aX(a:Str)(h:u D G H)(hs:∀ Q:V->Prop,gI G i Q=Q (.str a):=by intro y;rfl)(hn:a≠b:=by decide):lU (kO (uI (mO i) (tC (.str b))) t sY) u D G H:=by show gI G i _;rw[hs];show (if a=b then (if true=true then t { D with nx:=u D } G H else u D G H) else (if false=true then t { D with nx:=u D } G H else u D G H));rw[if_neg hn,if_neg (by decide)];exact h
theorem lE(h:t { D with nx:=u D } G H)(hs:∀ Q:V->Prop,gI G i Q=Q (.str b):=by intro y;rfl):lU (kO (uI (mO i) (tC (.str b))) t sY) u D G H:=by show gI G i _;rw[hs];show (if b=b then (if true=true then t { D with nx:=u D } G H else u D G H) else (if false=true then t { D with nx:=u D } G H else u D G H));rw[if_pos Y,if_pos Y];exact h
theorem uJ(a:Str)(hp:H p=U (.tup (.str a::us)))(h:u D G H)(hs:∀ Q:V->Prop,gI G i Q=Q (.ref p):=by intro y;rfl)(hn:a≠b:=by decide):lU (kO (uI (jn (iq K) (mO i) (tC (.int 0))) (tC (.str b))) t sY) u D G H:=by show gI G i _;rw[hs];refine aQ hp ?_ (dQ (j:=0) Y);show (if a=b then (if true=true then t { D with nx:=u D } G H else u D G H) else (if false=true then t { D with nx:=u D } G H else u D G H));rw[if_neg hn,if_neg (by decide)];exact h
end
def jJ(sw gw:List W2)(tb:Tb)(m:Int)(L:List Int)(c:Nat->Int):Prop:=(L.length:Int)<=m/\(∀ (j:Nat) w,sw[j]?=U w->d8 w (c (j+1)-c j))/\(∀ (j:Nat) w,gw[j]?=U w->d8 w (c j))/\∀ r∈tb,r.1.1∉L->b8 r.2 (c r.1.2.toNat)
theorem BU:meets (fw tb L) c ↔ ∀ r∈tb,r.1.1∉L->b8 r.2 (c r.1.2.toNat):=by
 unfold meets fw;constructor
 .intro h r hr hn;exact h (r.1.2.toNat,r.2) (adP.mpr #[r,ael.mpr #[xP.mem_iff.mpr hr,by simpa using hn],Y])
 .intro h m hm;obtain⟨r,hr,rfl⟩:=adP.mp hm;obtain⟨h1,h2⟩:=ael.mp hr;exact h r (xP.mem_iff.mp h1) (by simpa using h2)
theorem BV:(∀ (j:Nat) w,(pp.map iE)[j]?=U w->d8 w (c (j+1)-c j))↔jF pp c:=by
 constructor
 .intro h k hk;obtain⟨s,e,h1,h2⟩:=h k (iE (aN pp k)) (by rw[adR,adC hk];unfold aN;rw[adB,adC hk];rfl);unfold iE at e;cases e;exact#[h1 _ Y,h2 _ Y]
 .intro h j w hw;rw[adR] at hw;obtain⟨p,hp,rfl⟩:=aeh.mp hw;have hj:=(adI.mp hp).1;have:=h j hj;unfold aN at this;rw[adB,hp] at this;exact#[_,Y,λa z=>by cases z;exact this.1,λa z=>by cases z;exact this.2]
theorem BW{gs:List S2}{c:Nat->Int}:(∀ (j:Nat) w,(gs.map U)[j]?=U w->d8 w (c j)) ↔ ∀ (j:Nat) s,gs[j]?=U s->b8 s (c j):=by
 constructor
 .intro h j s hs;obtain⟨s',e,z⟩:=h j (U s) (by rw[adR,hs];rfl);cases e;exact z
 .intro h j w hw;rw[adR] at hw;obtain⟨s,hs,rfl⟩:=aeh.mp hw;exact#[s,Y,h j s hs]
end Gz
namespace lF
open PySem L2 Gz
local macro_rules|`(tactic|walk_at "d")=>do{let a←("seval Nat.reduceAdd Nat.reduceSub lU kO wm jn EZ zE tC ES sY qt cH wz tE oI qx EF EG tB EI EJ EK EL EM EN EO ER rI ip rU E2 E3 Ql Qm Qn Qo Qp Qe Qf Qg Qh Qi Qj ite_tt ite_ff L2.start Qq Qr List.map_cons List.map_nil List.length_cons List.length_nil List.replicate List.nil_append List.cons_append List.getElem?_cons_zero List.getElem?_cons_succ List.set_cons_zero List.set_cons_succ Bool.not_true Bool.not_false Fh Fi FL Pt FP Qs Qt Qu Aj w5 R9 Ak zI zH Ai EW FH AK zL zK RU RV Fe Ff zV Fl zY FA wC wF FQ RJ RK RL zS Gy Ay AB AF mO V2 V3 V4 V5 V6 V7 V8 V9 Wa Wb Wc Wi Wd We Wf Wg Wh uG uH BJ BK Kg rJ uI Kj Wm Wn Wo Wq Wr Ws Wt Wu Wv Ww Wx Wy Wz Kk Kl Km Kn Ko Kp Kq Kr xk xm HH Iw AU HQ HR HS Iq IZ PJ o6 o7 dO kP Kc Je Up Jd Bh Ur Jo JA Um Ku JC JF".splitOn " ").toArray.mapM fun s=>`(Lean.Parser.Tactic.simpLemma|$(Lean.mkIdent s.toName):ident);`(tactic|dsimp only[↓reduceIte,$a,*])}
local macro_rules|`(tactic|walk_at "s")=>do{let a←("seval Nat.reduceAdd Nat.reduceSub reduceCtorEq ite_tt ite_ff List.map_cons List.map_nil List.length_cons List.length_nil List.nil_append List.cons_append Option.some.injEq V.int.injEq V.bl.injEq V.ref.injEq List.cons.injEq exists_eq_left exists_eq_left' exists_and_left true_and and_true decide_eq_true_eq Nat.zero_add Nat.sub_self Nat.add_one_sub_one decide_true decide_false Bool.not_eq_true' decide_eq_false_iff_not false_and exists_false and_assoc not_false_eq_true not_true_eq_false List.append_nil Option.join_some".splitOn " ").toArray.mapM fun s=>`(Lean.Parser.Tactic.simpLemma|$(Lean.mkIdent s.toName):ident);`(tactic|simp only[↓reduceIte,$a,*])}
local macro_rules|`(tactic|walk_at "p")=>`(tactic|first | (walk_at "d"; repeat (first | walk_at "s" | walk_at "d")) | (walk_at "s"; repeat (first | walk_at "d" | walk_at "s")))
local macro_rules|`(tactic|walk_at "g")=>`(tactic|try walk_at "p")
local macro_rules|`(tactic|rfl')=>`(tactic|walk_at "g")
local macro_rules|`(tactic|walk_at "c")=>`(tactic|(refine ⟨⟨rfl, rfl, rfl, by decide +kernel, rfl, by decide +kernel, by decide +kernel⟩, fun _ _ _ _ _ _ _ _ => ?_⟩; (repeat (refine WB fun _ => ?_)); exact WC rfl))
inductive fA(H:Hp)(v:V)(m:Mk):Prop
 | mk(t p:adK)(_:v = .ref t)(_:H t=U (.tup [.int m.1,.ref p]))(_:H p=U (.tup [ev m.2.1,ev m.2.2]))
theorem fA.same(h:fA H v m)(s:ai H H'):fA H' v m:=let ⟨t,p,e,a,b⟩:=h;#[t,p,e,s _ _ a,s _ _ b]
def top(i:Nat):aiK:=PySem.Challenge.pw_gaze_k64_whole_verdicts.main.body.getD i (.Pass #[0,0,0,0])
noncomputable abbrev aL:Str := "self"
noncomputable abbrev cR:Str := "_law_world_here"
noncomputable abbrev dg:Str := "one"
noncomputable abbrev dU:Str := "turn"
noncomputable abbrev eo:Str := "board"
noncomputable abbrev fk:Str := "_law_script"
noncomputable abbrev fQ:Str := "eye"
noncomputable abbrev fR:Str := "_law_course"
noncomputable abbrev ib:Str := "claim"
noncomputable abbrev ic:Str := "first"
noncomputable abbrev iH:Str := "last"
noncomputable abbrev i5:Str := "marks"
noncomputable abbrev kC:Str := "steps"
noncomputable abbrev kD:Str := "_law_tree_here"
noncomputable abbrev kE:Str := "_law_steps"
noncomputable abbrev lG:Str := "most"
noncomputable abbrev mP:Str := "other"
noncomputable abbrev mQ:Str := "pairs"
noncomputable abbrev mR:Str := "_law_goals"
noncomputable abbrev nT:Str := "_law_found"
noncomputable abbrev nU:Str := "_law_board_here"
noncomputable abbrev nV:Str := "_law_aside"
noncomputable abbrev nW:Str := "_law_paper"
noncomputable abbrev pB:Str := "_law_k"
noncomputable abbrev pC:Str := "_law_unit"
noncomputable abbrev pE:Str := "_law_shape_here"
noncomputable abbrev rL:Str := "_law_turn"
noncomputable abbrev rM:Str := "_law_claim"
noncomputable abbrev uK:Str := "_law_number"
noncomputable abbrev uL:Str := "_law_sort"
noncomputable abbrev uM:Str := "_law_event_here"
noncomputable abbrev x5:Str := "_law_span"
theorem sO(h:Sc N ps st:=by walk_at "c"):Sc N ps st:=h
theorem Kv:Sc ["lo","hi"] ["lo","hi"] (top 9):=sO
theorem x6:Sc [dg,mP,"lo","hi"] [dg,mP] (top 10):=sO
theorem uN:Sc ["some","whole",dg] ["some"] (top 11):=sO
theorem Kw:Sc [eo,"kind",dU] [eo,"kind",dU] (top 13):=sO
theorem BX:Sc [eo,ib,"part"] [eo,ib] (top 14):=sO
theorem Kx:Sc [ib,"kind",dU] [ib,"kind",dU] (top 15):=sO
theorem BY:Sc [eo,ib,"own"] [eo,ib] (top 16):=sO
theorem Ky:Sc [eo,ib] [eo,ib] (top 17):=sO
theorem x8:Sc [dg,"below","above"] [dg] (top 21):=sO
theorem x9:Sc [ib,"found","part"] [ib] (top 22):=sO
theorem ya:Sc ["some","others","found",dg] ["some","others"] (top 23):=sO
theorem Kz:Sc [ic,iH,dg] [ic,iH,dg] (top 24):=sO
theorem KA:Sc [aL] [aL] (inClass (top 25) 1):=sO
theorem KC:Sc [aL,ic,iH] [aL,ic,iH] (inClass (top 26) 0):=sO
theorem KD:Sc [aL] [aL] (inClass (top 26) 1):=sO
theorem KG:Sc [aL,dg] [aL,dg] (inClass (top 26) 2):=sO
theorem KH:Sc [aL,ic,iH,"stretch"] [aL,ic,iH,"stretch"] (inClass (top 27) 0):=sO
theorem KI:Sc [aL] [aL] (inClass (top 27) 1):=sO
theorem KJ:Sc [aL] [aL] (inClass (top 27) 2):=sO
theorem KL:Sc [aL,ic,iH,"sill"] [aL,ic,iH,"sill"] (inClass (top 28) 0):=sO
theorem KN:Sc [aL] [aL] (inClass (top 28) 1):=sO
theorem KO:Sc [aL] [aL] (inClass (top 28) 2):=sO
theorem KP:Sc [aL,ic,iH,"sill"] [aL,ic,iH,"sill"] (inClass (top 29) 0):=sO
theorem KQ:Sc [aL] [aL] (inClass (top 29) 1):=sO
theorem KR:Sc [aL] [aL] (inClass (top 29) 2):=sO
theorem KS:Sc [aL,ic,iH,"low","high"] [aL,ic,iH,"low","high"] (inClass (top 30) 0):=sO
theorem uO:Sc [aL,"found",dU,"lows"] [aL] (inClass (top 30) 1):=sO
theorem KU:Sc [aL] [aL] (inClass (top 30) 2):=sO
theorem KW:Sc [aL,ic,iH,"stretch"] [aL,ic,iH,"stretch"] (inClass (top 31) 0):=sO
theorem KY:Sc [aL] [aL] (inClass (top 31) 1):=sO
theorem KZ:Sc [aL] [aL] (inClass (top 31) 2):=sO
theorem K0:Sc [aL] [aL] (inClass (top 31) 3):=sO
theorem K2:Sc [aL,dU] [aL,dU] (inClass (top 32) 0):=sO
theorem K3:Sc [aL] [aL] (inClass (top 32) 1):=sO
theorem K4:Sc [aL] [aL] (inClass (top 32) 2):=sO
theorem K5:Sc [aL] [aL] (inClass (top 32) 3):=sO
theorem K6:Sc [aL] [aL] (inClass (top 32) 4):=sO
theorem K7:Sc [aL,dg,mP] [aL,dg,mP] (inClass (top 33) 0):=sO
theorem K8:Sc [aL] [aL] (inClass (top 33) 1):=sO
theorem K9:Sc [aL] [aL] (inClass (top 34) 0):=sO
theorem La:Sc [aL] [aL] (inClass (top 34) 1):=sO
theorem yb:Sc [aL,dg,mP] [aL] (inClass (top 34) 2):=sO
theorem Lb:Sc [aL] [aL] (inClass (top 35) 0):=sO
theorem Lc:Sc [aL] [aL] (inClass (top 35) 1):=sO
theorem yc:Sc [aL,dg,mP] [aL] (inClass (top 35) 2):=sO
theorem Ld:Sc [aL,dg] [aL,dg] (inClass (top 36) 0):=sO
theorem Le:Sc [aL] [aL] (inClass (top 36) 1):=sO
theorem Lf:Sc [aL] [aL] (inClass (top 36) 2):=sO
theorem Lg:Sc [aL] [aL] (inClass (top 36) 3):=sO
theorem WN:Sc [aL,dg] [aL] (inClass (top 36) 4):=sO
theorem Lh:Sc ["cell"] ["cell"] (top 38):=sO
theorem yd:Sc [dg,"step","lo","hi"] [dg,"step"] (top 40):=sO
theorem pF:Sc ["boxes",kC,"kept",dU,"box","left"] ["boxes",kC] (top 41):=sO
theorem Li:Sc [i5,dU] [i5,dU] (top 42):=sO
theorem ye:Sc [kC,i5,"forth","backward"] [kC,i5] (top 43):=sO
theorem rN:Sc [kC,i5,"boxes","course","step","box"] [kC,i5] (top 44):=sO
theorem Lj:Sc [dg,mP] [dg,mP] (top 45):=sO
theorem Ll:Sc [dg,"by"] [dg,"by"] (top 46):=sO
theorem pG:Sc [kC,i5,"tops","number","mark",dU] [kC,i5] (top 47):=sO
theorem uP:Sc ["tops",i5,"number","mark","top"] ["tops",i5] (top 48):=sO
theorem Lm:Sc [eo,fQ] [eo,fQ] (top 50):=sO
theorem Ln:Sc [eo,"some"] [eo,"some"] (top 51):=sO
theorem Lo:Sc [eo] [eo] (top 52):=sO
theorem mS:Sc [kC,"groups","found","name",i5,"tops","beside","others","pair"] [kC,"groups"] (top 53):=sO
theorem Lp:Sc [mQ,fQ] [mQ,fQ] (top 55):=sO
theorem Lq:Sc ["pair"] ["pair"] (top 56):=sO
theorem uQ:Sc [mQ,lG,fQ,"others"] [mQ,lG] (top 57):=sO
theorem Lr:Sc [mQ,fQ,lG] [mQ,fQ,lG] (top 58):=sO
theorem pH:Sc [mQ,lG,dg,mP,ic,"second"] [mQ,lG] (top 59):=sO
theorem pI:Sc [eo,ib,kC,"goals",i5,mQ,"aside"] [eo,ib] (top 60):=sO
theorem uR:Sc [eo,"claims","papers",ib,"answer"] [eo,"claims"] (top 62):=sO
theorem uS:Sc [eo,"event","fitting","without","having"] [eo,"event"] (top 63):=sO
theorem Ls:Sc [aL,"eyes","turns","up","down",lG] [aL,"eyes","turns","up","down",lG] (inClass (top 67) 0):=sO
theorem Lu:Sc [aL,fQ] [aL,fQ] (inClass (top 67) 1):=sO
theorem Lv:Sc [aL,dU] [aL,dU] (inClass (top 67) 2):=sO
theorem Lw:Sc [aL,fQ,dU,"lo","hi"] [aL,fQ,dU,"lo","hi"] (inClass (top 67) 3):=sO
theorem Lx:Sc [aL,fQ,dU] [aL,fQ,dU] (inClass (top 67) 4):=sO
theorem Ly:Sc [aL] [aL] (inClass (top 67) 6):=sO
theorem BZ:Sc [aL,lG,eo] [aL,lG] (inClass (top 67) 9):=sO
theorem Lz:Sc [aL,fQ,dU] [aL,fQ,dU] (inClass (top 67) 10):=sO
theorem LA:Sc [aL,fQ,dU] [aL,fQ,dU] (inClass (top 67) 11):=sO
theorem LB:Sc [fk,pB,"_law_prime","_law_many"] [fk,pB,"_law_prime","_law_many"] (top 69):=sO
theorem B0:Sc [fk,"_law_great"] [fk] (top 70):=sO
theorem LC:Sc [nT] [nT] (top 71):=sO
theorem LD:Sc [x5,uK] [x5,uK] (top 72):=sO
theorem iI:Sc [fk,uL,"_law_eyes","_law_turns",pC,"_law_ups","_law_downs"] [fk] (top 73):=sO
theorem uT:Sc [fk,pE,"_law_base_here",fR,rL,"_law_step"] [fk,pE,"_law_base_here"] (top 74):=sO
theorem pJ:Sc [fk,pB,uK,pC,"_law_lo","_law_hi","_law_open_end"] [fk,pB,uK,pC] (top 75):=sO
theorem kF:Sc [fk,pE,fR,"_law_words","_law_wrong","_law_eye",rL,pB,uK,"_law_silent"] [fk,pE,fR] (top 76):=sO
theorem yf:Sc [cR,nU,"_law_spot"] [cR] (top 77):=sO
theorem pK:Sc [kD,fR,"_law_head","_law_gaps","_law_seen"] [kD,fR] (top 78):=sO
theorem uU:Sc [kD,"_law_head"] [kD] (top 79):=sO
theorem LF:Sc [cR,fR] [cR,fR] (top 80):=sO
theorem B1:Sc [cR,fR,rL] [cR,fR] (top 81):=sO
theorem pL:Sc ["_law_begin",rM,uL,rL,"_law_lo","_law_hi","_law_part"] ["_law_begin",rM,uL,rL] (top 82):=sO
theorem LG:Sc [x5] [x5] (top 83):=sO
theorem B2:Sc [kE,"_law_one","_law_other","_law_up"] [kE,"_law_one","_law_other"] (top 84):=sO
theorem LH:Sc [cR,mR,"_law_spot",nV] [cR,mR,"_law_spot",nV] (top 85):=sO
theorem LI:Sc [cR,kE,mR,nW,"_law_eye",nV] [cR,kE,mR,nW,"_law_eye",nV] (top 86):=sO
theorem yg:Sc [cR,kE,mR,nW,nV,"_law_one","_law_other"] [cR,kE,mR,nW,nV] (top 87):=sO
theorem rO:Sc [cR,kE,mR,nW,nV,"_law_spans"] [cR,kE,mR,nW,nV] (top 88):=sO
theorem uV:Sc [cR,rM,nW,"_law_own",kE,mR] [cR,rM,nW] (top 89):=sO
theorem LJ:Sc [cR,"_law_claims","_law_papers"] [cR,"_law_claims","_law_papers"] (top 90):=sO
theorem B5:Sc [cR,nU,nT] [cR,nU] (top 91):=sO
theorem LK:Sc [cR,nU,kD,uM,nT] [cR,nU,kD,uM,nT] (top 92):=sO
theorem ie:Sc [fk,pB,"_law_turns",fR,pC,"_law_first","_law_last","_law_low","_law_more",uL,"_law_lo","_law_hi","_law_open_end"] [fk,pB,"_law_turns",fR,pC] (top 93):=sO
theorem yh:Sc [fk,pE,fR,kD,uL] [fk,pE,fR] (top 94):=sO
theorem pM:Sc [fk,cR,nU,fR,pC,"_law_eye",rL,"_law_words","_law_most","_law_word_here"] [fk,cR,nU,fR,pC] (top 95):=sO
theorem pN:Sc [uM,cR,"_law_many","_law_small","_law_caught","e"] [uM,cR] (top 96):=sO
theorem LL:Sc [nT] [nT] (top 97):=sO
theorem i6:Sc [fk,pE,fR,cR,kD,nU,uM,nT,"_law_kept_here","_law_after_here","_law_behind"] [fk] (top 98):=sO
set_option genInjectivity false
set_option genSizeOf false
structure Tx(K:adz)(mg:Str->Option adH) where
 B6:adK
 uW:adK
 nX:adK
 ig:adK
 kG:adK
 LM:adK
 yi:adK
 iJ:adK
 dh:adK
 di:adK
 dj:adK
 dD:adK
 cZ:adK
 eB:adK
 lH:adK
 eE:adK
 eF:adK
 gj:adK
 aZ:adK
 WO:mg "GazeError" = U (.ref B6)
 B7:mg "NoBoard" = U (.ref uW)
 yj:mg "NoTelling" = U (.ref nX)
 B8:mg "NoClaim" = U (.ref ig)
 B9:mg "NoEvent" = U (.ref kG)
 WQ:mg "TooMany" = U (.ref LM)
 ac8:mg "Event" = U (.ref yi)
 uX:mg "Spanned" = U (.ref iJ)
 WR:mg "Stayed" = U (.ref dh)
 WS:mg "Over" = U (.ref di)
 WT:mg "Under" = U (.ref dj)
 WU:mg "Rose" = U (.ref dD)
 WV:mg "Paced" = U (.ref cZ)
 WW:mg "Turned" = U (.ref eB)
 ac9:mg "Paired" = U (.ref lH)
 WX:mg "Both" = U (.ref eE)
 WY:mg "Either" = U (.ref eF)
 WZ:mg "Nay" = U (.ref gj)
 Ca:mg "Board" = U (.ref aZ)
 W0:Fq K mg "is_crossed" Kv
 W3:Fq K mg "meet" x6
 W4:Fq K mg "common" uN
 W5:Fq K mg "has_part" Kw
 W6:Fq K mg "check_claim" BX
 W7:Fq K mg "stretches_of" Kx
 W8:Fq K mg "paces" BY
 W9:Fq K mg "wanted" Ky
 Xa:Fq K mg "outside" x8
 Xb:Fq K mg "failures" x9
 Xc:Fq K mg "joined" ya
 Xd:Fq K mg "parts_at" Kz
 Xe:Fq K mg "number_in" Lh
 Xf:Fq K mg "moved" yd
 Xg:Fq K mg "narrowed" pF
 Xi:Fq K mg "stretches_at" Li
 Xj:Fq K mg "tube" ye
 Xk:Fq K mg "course_in" rN
 Xl:Fq K mg "lesser" Lj
 Xm:Fq K mg "lifted" Ll
 Xn:Fq K mg "ceilings" pG
 Xo:Fq K mg "crossing" uP
 Xq:Fq K mg "marks_of" Lm
 Xr:Fq K mg "marks_without" Ln
 Xs:Fq K mg "groups_of" Lo
 Xt:Fq K mg "clashes" mS
 pO:Fq K mg "without" Lp
 yk:Fq K mg "eyes_of" Lq
 pP:Fq K mg "put_aside" uQ
 nY:Fq K mg "branch" Lr
 nZ:Fq K mg "paper" pH
 x_ask:Fq K mg "ask" pI
 Xu:Fq K mg "seek" uR
 ym:Fq K mg "verdict" uS
 Xv:Fq K mg "_law_draw" LB
 Xw:Fq K mg "_law_base" B0
 yn:Fq K mg "_law_whole" LC
 Xx:Fq K mg "_law_within" LD
 Xy:Fq K mg "_law_shape" iI
 Xz:Fq K mg "_law_true_course" uT
 XA:Fq K mg "_law_word" pJ
 XB:Fq K mg "_law_world" kF
 XD:Fq K mg "_law_board" yf
 Cb:Fq K mg "_law_truth" pK
 Cc:Fq K mg "_law_event" uU
 XE:Fq K mg "_law_liars" LF
 XF:Fq K mg "_law_fits" B1
 XG:Fq K mg "_law_common" pL
 pQ:Fq K mg "_law_empty" LG
 yo:Fq K mg "_law_climb" B2
 pR:Fq K mg "_law_mark" LH
 n5:Fq K mg "_law_branch" LI
 uY:Fq K mg "_law_clash" yg
 mT:Fq K mg "_law_refuted" rO
 XH:Fq K mg "_law_refutes" uV
 XI:Fq K mg "_law_all_refuted" LJ
 XJ:Fq K mg "_law_some_fits" B5
 XM:Fq K mg "_law_right" LK
 XN:Fq K mg "_law_leaf" ie
 XO:Fq K mg "_law_tree" yh
 XQ:Fq K mg "_law_after" pM
 XR:Fq K mg "_law_off_board" pN
 XS:Fq K mg "_law_kept" LL
 rP:Fq K mg "law" i6
 Ce:Fy K dh "__init__" "Stayed.__init__" KH
 Cf:Fy K dh "ways" "Stayed.ways" KI
 Cg:Fy K dh "breaks" "Stayed.breaks" KJ
 Ci:Fy K di "__init__" "Over.__init__" KL
 Cj:Fy K di "ways" "Over.ways" KN
 Ck:Fy K di "breaks" "Over.breaks" KO
 Cm:Fy K dj "__init__" "Under.__init__" KP
 Cn:Fy K dj "ways" "Under.ways" KQ
 Co:Fy K dj "breaks" "Under.breaks" KR
 Cp:Fy K dD "__init__" "Rose.__init__" KS
 Cq:Fy K dD "ways" "Rose.ways" uO
 Cr:Fy K dD "breaks" "Rose.breaks" KU
 Cs:Fy K cZ "__init__" "Paced.__init__" KW
 yq:Fy K cZ "all_steps" "Paced.all_steps" KY
 Ct:Fy K cZ "ways" "Paced.ways" KZ
 Cu:Fy K cZ "breaks" "Paced.breaks" K0
 Cv:Fy K eB "__init__" "Turned.__init__" K2
 Cw:Fy K eB "far" "Turned.far" K3
 yr:Fy K eB "both_steps" "Turned.both_steps" K4
 Cy:Fy K eB "ways" "Turned.ways" K5
 Cz:Fy K eB "breaks" "Turned.breaks" K6
 CA:Fy K eE "ways" "Both.ways" K9
 CB:Fy K eE "breaks" "Both.breaks" La
 CC:Fy K eE "sizes" "Both.sizes" yb
 CD:Fy K eF "ways" "Either.ways" Lb
 CF:Fy K eF "breaks" "Either.breaks" Lc
 CG:Fy K eF "sizes" "Either.sizes" yc
 CH:Fy K gj "__init__" "Nay.__init__" Ld
 CI:Fy K gj "far" "Nay.far" Le
 CJ:Fy K gj "ways" "Nay.ways" Lf
 CK:Fy K gj "breaks" "Nay.breaks" Lg
 XT:Fy K gj "sizes" "Nay.sizes" WN
 uZ:Fy K aZ "__init__" "Board.__init__" Ls
 CL:Fy K aZ "has_eye" "Board.has_eye" Lu
 pS:Fy K aZ "has_turn" "Board.has_turn" Lv
 rQ:Fy K aZ "tell" "Board.tell" Lw
 CM:Fy K aZ "hush" "Board.hush" Lx
 yt:Fy K aZ "tellings" "Board.tellings" Ly
 CN:Fy K aZ "allowing" "Board.allowing" BZ
 CO:Fy K aZ "check_spot" "Board.check_spot" Lz
 CP:Fy K aZ "check_word" "Board.check_word" LA
 gK:Fv K "sizes" "Event.sizes" KA (λf=>cp K yi "sizes" f/\cp K iJ "sizes" f/\cp K dh "sizes" f/\cp K di "sizes" f/\cp K dj "sizes" f/\cp K dD "sizes" f/\cp K cZ "sizes" f/\cp K eB "sizes" f/\cp K lH "sizes" f)
 n6:Fv K "__init__" "Spanned.__init__" KC (λf=>cp K iJ "__init__" f/\agV K (.ref iJ) (.type "type") "__init__" = U (.val (.ref f)))
 jK:Fv K "far" "Spanned.far" KD (λf=>cp K iJ "far" f/\cp K dh "far" f/\cp K di "far" f/\cp K dj "far" f/\cp K dD "far" f/\cp K cZ "far" f)
 i7:Fv K "all_at" "Spanned.all_at" KG (λf=>cp K iJ "all_at" f/\cp K dh "all_at" f/\cp K di "all_at" f/\cp K dj "all_at" f/\cp K dD "all_at" f/\cp K cZ "all_at" f)
 rR:Fv K "__init__" "Paired.__init__" K7 (λf=>cp K lH "__init__" f/\cp K eE "__init__" f/\cp K eF "__init__" f)
 rS:Fv K "far" "Paired.far" K8 (λf=>cp K lH "far" f/\cp K eE "far" f/\cp K eF "far" f)
 yu:mg "all" = O
 LN:mg "any" = O
 XU:mg "bool" = O
 LO:mg "dict" = O
 yw:mg "enumerate" = O
 XW:mg "int" = O
 mU:mg "isinstance" = O
 cS:mg "len" = O
 u5:mg "list" = O
 rT:mg "max" = O
 n9:mg "min" = O
 eV:mg "range" = O
 XX:mg "reversed" = O
 LP:mg "set" = O
 LQ:mg "sorted" = O
 LR:mg "sum" = O
 CQ:mg "tuple" = O
 LS:mg "zip" = O
 ada:cg K yi
 adb:cg K iJ
 i8:cg K dh
 i9:cg K di
 ja:cg K dj
 fB:cg K dD
 jL:cg K cZ
 lJ:cg K eB
 ade:cg K lH
 jM:cg K eE
 jN:cg K eF
 pU:cg K gj
 bQ:cg K aZ
 adf:bA K iJ "first"
 adg:bA K iJ "last"
 CS:bA K dh "first"
 yx:bA K dh "last"
 CT:bA K dh "stretch"
 CU:bA K di "first"
 yy:bA K di "last"
 CV:bA K di "sill"
 CW:bA K dj "first"
 yz:bA K dj "last"
 CY:bA K dj "sill"
 yA:bA K dD "first"
 rV:bA K dD "last"
 CZ:bA K dD "low"
 C0:bA K dD "high"
 LU:bA K cZ "first"
 C1:bA K cZ "last"
 LV:bA K cZ "stretch"
 yB:bA K eB "turn"
 adh:bA K lH "one"
 adi:bA K lH "other"
 u7:bA K eE "one"
 vc:bA K eE "other"
 vd:bA K eF "one"
 ve:bA K eF "other"
 yC:bA K gj "one"
 yD:bA K aZ "eyes"
 vf:bA K aZ "turns"
 C2:bA K aZ "up"
 C3:bA K aZ "down"
 C4:bA K aZ "most"
 og:bA K aZ "told"
 adj:Mk K iJ n6.a
 XY:Mk K dh Ce.a
 XZ:Mk K di Ci.a
 X2:Mk K dj Cm.a
 X4:Mk K dD Cp.a
 X5:Mk K cZ Cs.a
 X6:Mk K eB Cv.a
 adk:Mk K lH rR.a
 X7:Mk K eE rR.a
 X9:Mk K eF rR.a
 Ya:Mk K gj CH.a
 C5:Mk K aZ uZ.a
 adl:Meth K yi "sizes" gK.a
 adm:Meth K iJ "sizes" gK.a
 adn:Meth K iJ "far" jK.a
 ado:Meth K iJ "all_at" i7.a
 Yb:Meth K dh "sizes" gK.a
 Yc:Meth K dh "far" jK.a
 LW:Meth K dh "all_at" i7.a
 Yd:Meth K dh "ways" Cf.a
 Ye:Meth K dh "breaks" Cg.a
 Yf:Meth K di "sizes" gK.a
 Yg:Meth K di "far" jK.a
 LX:Meth K di "all_at" i7.a
 Yh:Meth K di "ways" Cj.a
 Yi:Meth K di "breaks" Ck.a
 Yj:Meth K dj "sizes" gK.a
 Yk:Meth K dj "far" jK.a
 LY:Meth K dj "all_at" i7.a
 Yl:Meth K dj "ways" Cn.a
 Ym:Meth K dj "breaks" Co.a
 Yn:Meth K dD "sizes" gK.a
 Yo:Meth K dD "far" jK.a
 adp:Meth K dD "all_at" i7.a
 Yp:Meth K dD "ways" Cq.a
 Yq:Meth K dD "breaks" Cr.a
 Yr:Meth K cZ "sizes" gK.a
 Ys:Meth K cZ "far" jK.a
 adq:Meth K cZ "all_at" i7.a
 Yt:Meth K cZ "ways" Ct.a
 Yu:Meth K cZ "breaks" Cu.a
 LZ:Meth K cZ "all_steps" yq.a
 Yv:Meth K eB "sizes" gK.a
 Yw:Meth K eB "far" Cw.a
 Yx:Meth K eB "ways" Cy.a
 Yy:Meth K eB "breaks" Cz.a
 L3:Meth K eB "both_steps" yr.a
 ads:Meth K lH "sizes" gK.a
 adt:Meth K lH "far" rS.a
 Yz:Meth K eE "sizes" CC.a
 YA:Meth K eE "far" rS.a
 YB:Meth K eE "ways" CA.a
 YC:Meth K eE "breaks" CB.a
 YD:Meth K eF "sizes" CG.a
 YE:Meth K eF "far" rS.a
 YF:Meth K eF "ways" CD.a
 YG:Meth K eF "breaks" CF.a
 adu:Meth K gj "sizes" XT.a
 YH:Meth K gj "far" CI.a
 YI:Meth K gj "ways" CJ.a
 YJ:Meth K gj "breaks" CK.a
 YK:Meth K aZ "has_eye" CL.a
 vg:Meth K aZ "has_turn" pS.a
 yE:Meth K aZ "tell" rQ.a
 YL:Meth K aZ "hush" CM.a
 L6:Meth K aZ "tellings" yt.a
 YM:Meth K aZ "allowing" CN.a
 YN:Meth K aZ "check_spot" CO.a
 YO:Meth K aZ "check_word" CP.a
 vh:AQ K iJ "__init__" n6.a
 C6:XC K uW
 C7:XC K nX
 yF:XC K ig
 C8:XC K kG
 YQ:XC K LM
 YR:aik K (.ref ig) (.ref ig)=U true
 YS:aeI K (.ref ig) (.ref B6)=U true
 YT:aeI K (.ref ig) (.ref nX)=U false
 YU:∃ t,mg "SIZE_AT_MOST" = U (.int 100 t)
 L8:∃ t,mg "LAST_TURN" = U (.int 11 t)
 YV:∃ t,mg "EYES_AT_MOST" = U (.int 7 t)
 YW:∃ t,mg "TURNS_AT_MOST" = U (.int 12 t)
set_option genInjectivity true
set_option genSizeOf true
inductive pV(K:adz)(vs:List V)(H:Hp)(Q:VK)(aO:XK):Prop
 | mk(a:adK)(ns:List Int)(_:vs=[.ref a])(_:aj K H a (ns.map V.int))(_:iV ns)(_:∀ H',Q (.bl true) H')
def L9(c:aek × aeS × adz × (Str->Option adH) × afH):Prop:=∃ T:Tx c.2.2.1 c.2.2.2.1,¬ Ok c.1 c.2.1 c.2.2.2.2 37 T.rP (pV c.2.2.1)
noncomputable def vk:aek × aeS × adz × (Str->Option adH) × afH:=@Classical.epsilon _ #[(default,#[λy y=>0,{strHash:=λy=>0,shareClass:=λy=>0,mergeTok:=id,idOf:=λy=>0,idOfShared:=λy y=>0,followText:=λy=>false,idOfImm:=λy=>0}],[],λy=>O,default)] L9
@[irreducible] noncomputable def P:aek:=vk.1
@[irreducible] noncomputable def w:aeS:=vk.2.1
@[irreducible] noncomputable def K:adz:=vk.2.2.1
@[irreducible] noncomputable def mg:Str->Option adH:=vk.2.2.2.1
@[irreducible] noncomputable def base:afH:=vk.2.2.2.2
theorem YX(h:∀ T:Tx K mg,Ok P w base 37 T.rP (pV K)){P:aek}{w:aeS}{K:adz}{mg:Str->Option adH}{base:afH}(T:Tx K mg):Ok P w base 37 T.rP (pV K):=Classical.byContradiction λz=>by obtain⟨T,n⟩:=Classical.epsilon_spec (p:=L9) #[(P,w,K,mg,base),T,z];unfold lF.P lF.w lF.K lF.mg lF.base at h;exact n (h T)
abbrev aC:=Tx K mg
abbrev aV(k:Nat){x:Str}{st:aiK}{ps:List Str}(F:Fn K mg x st ps)(sp:Sp):Prop:=Ok P w base k F sp
abbrev bJ(k:Nat){x q:Str}{st:aiK}{ps:List Str}(F:Fm K x q st ps)(sp:Sp):Prop:=Om P w mg base k F sp
section
seal L2.PE L2.PS L2.aT L2.PA
inductive YY(vs:List V)(H:Hp)(Q:VK)(aO:XK):Prop
 | mk(v:V)(_:vs=[v])(_:(v = .non ∨ ∃ i,v = .int i))(_:Q (.bl (isWhole v)) H)
theorem yG(T:aC):aV 1 T.yn YY:=by
 refine bD LC ?_;rintro y y y y y y y y y ⟨v,rfl,hv,q⟩;refine#[_,(aw (aB (fP (cG oO (by rfl) T.mU l4 (ae (aa 0) (ae (oA (v:=.ty "int") Y T.XW Qa Y) ah))) (fq (x3 (cG oO (by rfl) T.mU l4 (ae (aa 0) (ae (oA (v:=.ty "bool") Y T.XU Qb Y) ah)))))))),?_];rcases hv with rfl|⟨i,rfl⟩
 .rfl';exact q
 .rfl';exact q
inductive YZ(vs:List V)(H:Hp)(Q:VK)(aO:XK):Prop
 | mk(a b:En)(_:vs=[ev a,ev b])(_:Q (.bl (bj a b)) H)
theorem Ma(T:aC):aV 1 T.W0 YZ:=by
 refine bD Kv ?_;rintro z z z z z z z z z ⟨a,b,rfl,q⟩;refine#[_,(aw (aB (fP (nk (sV (aa 0))) (fP (nk (sV (aa 1))) (fq (fb (hV tx) (aa 0) (aa 1) (c6 _))))))),?_];rcases a with z|x
 .exact q
 rcases b with z|y
 .exact q
 exact q
inductive Y0(vs:List V)(H:Hp)(Q:VK)(aO:XK):Prop
 | mk(v u:V)(a b c d:En)(_:vs=[v,u])(_:aR H v a b)(_:aR H u c d)(_:∀ x H',ai H H'->HE H' x (dS a c) (eS b d)->Q x H')
theorem C9(T:aC):aV 2 T.W3 Y0:=by
 refine bD x6 ?_;rintro y y y y H y Q y hr ⟨v,u,a,b,c,d,rfl,⟨p,rfl,hp⟩,⟨r,rfl,dk⟩,q⟩;refine#[_,(aq (aJ 2 x6.nd (Rx Y Y T.rT (dz (cO [] []) Y (zJ (aP (ae (ar (aa 0) ag) (ae (ar (aa 1) ag) ah)))) (λC s2 H2 ex pn=>#[(mf (iF (aa 0))),(aa 0)])) bI)) (aq (aJ 3 x6.nd (Rz Y Y T.n9 (dz (cO [] []) Y (zJ (aP (ae (ar (aa 0) ag) (ae (ar (aa 1) ag) ah)))) (λC s2 H2 ex pn=>#[(mf (iF (aa 0))),(aa 0)])) bI)) (aq (aG (de (aF (Ma T) hr (ae (aa 2) (ae (aa 3) ah)))) (aw (aB bI)) aH) (aw (aB (aP (ae (aa 2) (ae (aa 3) ah)))))))),?_];rfl';refine aQ hp (aQ dk ?_);refine#[aY,λt ht=>#[#[_,ak.of au],HF au (λx H Q h=>?_) (λx H Q h=>?_) λl hl=>?_]]
 .rfl';exact Ke (Q:=λk=>Q k H) h
 .rfl';exact h
 refine#[l,Y,nums a c,aj.of au,?_];rw[Sd];have s2:=(ao (o:=.tup [ev a,ev c]) ht).trans (ao (o:=.lst ((nums a c).map V.int)) hl);generalize upd (upd H t (.tup [ev a,ev c])) l (.lst ((nums a c).map V.int))=H2 at s2 ⊢;refine aQ (s2 _ _ hp) (aQ (s2 _ _ dk) ?_);refine#[aY,λt' Y1=>#[#[_,ak.of au],HF au (λx H Q h=>?_) (λx H Q h=>?_) λl' sR=>?_]]
 .rfl';exact Ke (Q:=λk=>Q k H) h
 .rfl';exact h
 refine#[l',Y,nums b d,aj.of au,?_];rw[Se];have s3:=s2.trans ((ao (o:=.tup [ev b,ev d]) Y1).trans (ao (o:=.lst ((nums b d).map V.int)) sR));generalize upd (upd H2 t' (.tup [ev b,ev d])) l' (.lst ((nums b d).map V.int))=H3 at s3 ⊢;refine#[_,_,Y,?_];cases hc:bj (dS a c) (eS b d) with
 | true =>
  exact q _ _ s3 #[λy=>rfl,λz=>nomatch hc.symm.trans z]
 | false =>
  exact#[aY,λp' dI=>q _ _ (s3.trans (ao dI)) #[λz=>(nomatch hc.symm.trans z),λy=>aR.new]]
def dE(e t u d m:Int):Prop:=(1<=e/\e<=7)/\(1<=t/\t<=12)/\0<=u/\0<=d/\0<=m/\m<=e
noncomputable def pW(e t u d m:Int)(p:adK):List (Str × V):=[("eyes",.int e),("turns",.int t),("up",.int u),("down",.int d),("most",.int m),("told",.ref p)]
inductive Y2(B C:adK)(vs:List V)(H:Hp)(Q:VK)(E:XK):Prop
 | mk(x dx:adK)(e t u d m:Int)(_:vs=[.ref x,.int e,.int t,.int u,.int d,.int m])(_:H x=U (.ins B dx []))(_:(¬ dE e t u d m->E (.ref C) O H))(_:(dE e t u d m->∀ p H',H p=O->SameBut x H H'->H' x=U (.ins B dx (pW e t u d m p))->H' p=U (.dT [])->Q .non H'))
theorem Dc(T:aC):bJ 1 T.uZ (Y2 T.aZ T.uW):=by
 refine iG Ls ?_;rintro y y y y H y y E y ⟨x,dx,e,t,u,d,m,rfl,hx,q0,q⟩;refine#[_,(aq (aG (PW.pt (cL (cV (xZ fU fU ag (aa 1) (ui T.YV Y))) (eL (cV (xZ fU fU ag (aa 2) (ui T.YW Y)))))) (aw (jv jw Y T.B7 T.C6 Y (ae aS ah))) aH) (aq (aG (PW.pt (cL (i4 (aa 3) ag) (eL (i4 (aa 4) ag)))) (aw (jv jw Y T.B7 T.C6 Y (ae aS ah))) aH) (aq (aG (cV (xZ fU fU ag (aa 5) (aa 1))) (aw (jv jw Y T.B7 T.C6 Y (ae aS ah))) aH) (aq (fz (aa 0) (aa 1) Y) (aq (fz (aa 0) (aa 2) Y) (aq (fz (aa 0) (aa 3) Y) (aq (fz (aa 0) (aa 4) Y) (aq (fz (aa 0) (aa 5) Y) (aw (fz (aa 0) Iy Y)))))))))),?_];have no:∀ D G,¬ dE e t u d m->∀ x,wN T.uW E (tE (tC (.str x)) oI) D G H:=λD G z x=>#[by show 1<=ad1;decide,q0 z]
 refine aD (λG H1=>G=[U (.ref x),U (.int e),U (.int t),U (.int u),U (.int d),U (.int m)]/\H=H1/\(1<=e/\e<=7)/\1<=t/\t<=12) (λN hN=>?_) ?_
 .rfl';exact aU (λh1=>aU (λh2=>aU (λh3=>aU (λh4=>hN _ _ #[Y,Y,#[h1,h2],h3,h4]) λh4=>no _ _ (λz=>by unfold dE at z;lia) _) λh3=>no _ _ (λz=>by unfold dE at z;lia) _) λh2=>no _ _ (λz=>by unfold dE at z;lia) _) λh1=>no _ _ (λz=>by unfold dE at z;lia) _
 rintro y yR G y ⟨rfl,rfl,e1,t1⟩;subst yR;refine aD (λG H1=>G=[U (.ref x),U (.int e),U (.int t),U (.int u),U (.int d),U (.int m)]/\H=H1/\0<=u/\0<=d) (λN hN=>?_) ?_
 .rfl';exact aU (λh5=>no _ _ (λz=>by unfold dE at z;lia) _) λh5=>aU (λh6=>no _ _ (λz=>by unfold dE at z;lia) _) λh6=>hN _ _ #[Y,Y,by lia,by lia]
 rintro y yR G y ⟨rfl,rfl,u1,d1⟩;subst yR;refine aD (λG H1=>G=[U (.ref x),U (.int e),U (.int t),U (.int u),U (.int d),U (.int m)]/\H=H1/\0<=m/\m<=e) (λN hN=>?_) ?_
 .rfl';exact aU (λh7=>aU (λh8=>hN _ _ #[Y,Y,h7,h8]) λh8=>no _ _ (λz=>by unfold dE at z;lia) _) λh7=>no _ _ (λz=>by unfold dE at z;lia) _
 rintro y yR G y ⟨rfl,rfl,m1⟩;subst yR;replace q:=q #[e1,t1,u1,d1,m1];rfl';refine#[_,_,_,hx,T.bQ,T.yD,(by show 0<1000;decide),_,_,_,au,T.bQ,T.vf,(by show 1<1000;decide),_,_,_,au,T.bQ,T.C2,(by show 2<1000;decide),_,_,_,au,T.bQ,T.C3,(by show 3<1000;decide),_,_,_,au,T.bQ,T.C4,(by show 4<1000;decide),?_];rw[jT,jT,jT,jT];intro p hp;have Mb:p≠x:=λz=>by rw[z,au] at hp;cases hp
 refine#[_,_,_,(ao hp) _ _ au,T.bQ,T.og,(by show 5<1000;decide),q p _ (by rw[aK Mb] at hp;exact hp) (λb o hb e=>?_) au ?_]
 .rw[aK hb];exact (ao hp) _ _ (by rw[aK hb];exact e)
 .rw[aK Mb,au]
structure iK(B:adK)(H:Hp)(x:adK)(e t u d m:Int)(p:adK)(kvs:List (List Key × V)):Prop where
 ob:∃ dx,H x=U (.ins B dx (pW e t u d m p))
 tb:H p=U (.dT kvs)
theorem iK.same(h:iK B H x e t u d m p kvs)(s:ai H H'):iK B H' x e t u d m p kvs:=let ⟨⟨dx,a⟩,b⟩:=h;#[#[dx,s _ _ a],s _ _ b]
inductive Y3(B:adK)(vs:List V)(H:Hp)(Q:VK)(aO:XK):Prop
 | mk(x p:adK)(e t u d m i:Int)(kvs:List (List Key × V))(_:vs=[.ref x,.int i])(_:iK B H x e t u d m p kvs)(_:Q (.bl (decide (0<=i/\i<e))) H)
inductive Y4(B:adK)(vs:List V)(H:Hp)(Q:VK)(aO:XK):Prop
 | mk(x p:adK)(e t u d m i:Int)(kvs:List (List Key × V))(_:vs=[.ref x,.int i])(_:iK B H x e t u d m p kvs)(_:Q (.bl (decide (0<=i/\i<t))) H)
theorem Y5(T:aC):bJ 1 T.CL (Y3 T.aZ):=by
 refine cA Lu ?_;rintro y y y y y y y y y ⟨x,p,e,t,u,d,m,i,kvs,rfl,⟨⟨dx,hx⟩,hp⟩,q⟩;refine#[_,(aw (aB (E8 fU oF ag (aa 1) (a9 Y (aa 0) Y)))),?_];rfl';refine aU (λh1=>?_) λh1=>?_
 .refine#[_,_,_,hx,T.bQ,T.yD,_,Y,?_];rfl';rw[show decide (0<=i/\i<e)=decide (i<e) by simp[h1]] at q;exact q
 .rw[show decide (0<=i/\i<e)=false by simp[h1]] at q;exact q
theorem vm(T:aC):bJ 1 T.pS (Y4 T.aZ):=by
 refine cA Lv ?_;rintro y y y y y y y y y ⟨x,p,e,t,u,d,m,i,kvs,rfl,⟨⟨dx,hx⟩,hp⟩,q⟩;refine#[_,(aw (aB (E8 fU oF ag (aa 1) (a9 Y (aa 0) Y)))),?_];rfl';refine aU (λh1=>?_) λh1=>?_
 .refine#[_,_,_,hx,T.bQ,T.vf,_,Y,?_];rfl';rw[show decide (0<=i/\i<t)=decide (i<t) by simp[h1]] at q;exact q
 .rw[show decide (0<=i/\i<t)=false by simp[h1]] at q;exact q
inductive Y6(B C:adK)(vs:List V)(H:Hp)(Q:VK)(E:XK):Prop
 | mk(x p:adK)(e t u d m i j:Int)(kvs:List (List Key × V))(_:vs=[.ref x,.int i,.int j])(_:iK B H x e t u d m p kvs)(_:(¬ ((0<=i/\i<e)/\0<=j/\j<t)->E (.ref C) O H))(_:((0<=i/\i<e)/\0<=j/\j<t->Q .non H))
theorem Y7(T:aC):bJ 2 T.CO (Y6 T.aZ T.nX):=by
 refine iG Lz ?_;rintro y y y y y y y y hr ⟨x,p,e,t,u,d,m,i,j,kvs,rfl,hb,q0,q⟩;refine#[_,(aw (aG (PW.pt (cL (cV (de (ff (aa 0) T.bQ T.YK (Y5 T) hr.m T.CL.b .nil bB (ae (aa 1) ah)))) (eL (cV (de (ff (aa 0) T.bQ T.vg (vm T) hr.m T.pS.b .nil bB (ae (aa 2) ah))))))) (aw (jv jw Y T.yj T.C7 Y (ae aS ah))) aH)),?_];obtain⟨⟨dx,hx⟩,hp⟩:=id hb;rfl';refine#[_,_,hx,Y,x,p,e,t,u,d,m,i,kvs,Y,hb,?_];by_cases h1:0<=i/\i<e
 .rw[decide_eq_true h1];refine#[_,_,hx,Y,x,p,e,t,u,d,m,j,kvs,Y,hb,?_];by_cases h2:0<=j/\j<t
  .rw[decide_eq_true h2];exact q #[h1,h2]
  .rw[decide_eq_false h2];exact#[by decide,q0 λz=>h2 z.2]
 .rw[decide_eq_false h1];exact#[by decide,q0 λz=>h1 z.1]
inductive Y8(B C:adK)(vs:List V)(H:Hp)(Q:VK)(E:XK):Prop
 | mk(x p:adK)(e t u d m i j:Int)(kvs:List (List Key × V))(_:vs=[.ref x,.int i,.int j])(_:iK B H x e t u d m p kvs)(_:(dB kvs (bP i j)=O->∀ H',ai H H'->E (.ref C) O H'))(_:(∀ v,dB kvs (bP i j)=U v->∀ H',ai H H'->Q .non H'))
theorem Y9(T:aC):bJ 1 T.CP (Y8 T.aZ T.nX):=by
 refine iG LA ?_;rintro y y y y y y y y hr ⟨x,p,e,t,u,d,m,i,j,kvs,rfl,hb,q0,q⟩;refine#[_,(aw (aG (sW (HU (fJ hr) (aP (ae (aa 1) (ae (aa 2) ah))) (a9 Y (aa 0) Y))) (aw (jv jw Y T.yj T.C7 Y (ae aS ah))) aH)),?_];obtain⟨⟨dx,hx⟩,hp⟩:=id hb;rfl';refine#[aY,λk hk=>#[_,_,_,(ao hk) _ _ hx,T.bQ,T.og,_,Y,p,Y,dB kvs (bP i j),fv.t (k:=bP i j) ((ao hk) _ _ hp) au,?_]];cases hv:dB kvs (bP i j) with
 | none=>exact#[by decide,q0 hv _ (ao hk)]
 | some v=>exact q v hv _ (ao hk)
inductive Za(B C:adK)(vs:List V)(H:Hp)(Q:VK)(E:XK):Prop
 | mk(x p:adK)(e t u d m i j:Int)(lo hi:En)(kvs:List (List Key × V))(_:vs=[.ref x,.int i,.int j,ev lo,ev hi])(_:iK B H x e t u d m p kvs)(_:kvs.length<1000)(_:(¬ (((0<=i/\i<e)/\0<=j/\j<t)/\bj lo hi=false)->E (.ref C) O H))(_:(((0<=i/\i<e)/\0<=j/\j<t)/\bj lo hi=false->∀ v H',SameBut p H H'->H' p=U (.dT (putK kvs (bP i j) v))->aR H' v lo hi->Q .non H'))
theorem yH(T:aC):bJ 3 T.rQ (Za T.aZ T.nX):=by
 refine iG Lw ?_;rintro c c c c c c c c hr ⟨x,p,e,t,u,d,m,i,j,lo,hi,kvs,rfl,hb,hl,q0,q⟩;refine#[_,(aq (dq (ff (aa 0) T.bQ T.YN (Y7 T) hr.m T.CO.b .nil gT (ae (aa 1) (ae (aa 2) ah)))) (aq (aG (de (aF (Ma T) hr (ae (aa 3) (ae (aa 4) ah)))) (aw (jv jw Y T.yj T.C7 Y (ae aS ah))) aH) (aw (AV (fJ hr) (a9 Y (aa 0) Y) (aP (ae (aa 1) (ae (aa 2) ah))) (aP (ae (aa 3) (ae (aa 4) ah))) Y)))),?_];obtain⟨⟨dx,hx⟩,hp⟩:=id hb;rfl';refine#[_,_,hx,Y,x,p,e,t,u,d,m,i,j,kvs,Y,hb,λz=>q0 λy=>z y.1,λcn=>?_];refine#[lo,hi,Y,?_];cases hc:bj lo hi with
 | true =>
  exact#[by decide,q0 λz=>by rw[hc] at z;cases z.2]
 | false =>
  refine#[aY,λv hv=>#[_,_,_,(ao hv) _ _ hx,T.bQ,T.og,_,Y,aY,λk hk=>?_]];have s2:=(ao (o:=.tup [ev lo,ev hi]) hv).trans (ao (o:=.tup [.int i,.int j]) hk);refine#[p,Y,_,oY.t (k:=bP i j) (s2 _ _ hp) au (akF hl (by decide)),q #[cn,hc] (.ref v) _ (λb o mq e=>?_) au #[v,Y,?_]]
  .rw[aK mq];exact s2 _ _ e
  .have vp:v≠p:=λz=>by rw[z] at hv;rw[hp] at hv;cases hv
   rw[aK vp];exact (ao hk) _ _ au
inductive Zb(vs:List V)(H:Hp)(Q:VK)(aO:XK):Prop
 | mk(a:adK)(ns:List Int)(k pr m:Int)(_:vs=[.ref a,.int k,.int pr,.int m])(_:aj K H a (ns.map V.int))(_:iV ns)(_:(-1000000<=k/\k<=1000000))(_:0<pr)(_:0<m)(_:∀ p:Int,0<=p->p<m->Q (.int p) H)
theorem Zc(h:iV ns)(hk : -1000000<=k/\k<=1000000):qT k k/\qT (t7 ns k+k * k) 48271:=by have c:=Sk h k;have k1:Bt 64 k:=Bt.small (by lia) (by lia);have k2:Bt 128 (k * k):=k1.mul k1;have n2:Bt 64 48271:=Bt.small (by decide) (by decide);exact#[#[k1.up (by decide),k1.up (by decide)],(c.add (k2.up (by decide))).up (by decide),n2.up (by decide)]
theorem cB(T:aC):aV 1 T.Xv Zb:=by
 refine bD LB ?_;rintro y y y y y y y y y ⟨a,ns,k,pr,m,rfl,hS,hn,hk,hpr,hm,q⟩;refine#[_,(aq (aG (aW (cY T.cS (ae (aa 0) ah)) ag) (aw (aB ag)) aH) (aw (aB (aE pw (aE pw (aE Kf (aE a8 (ar (aa 0) (aE pw (aa 1) (cY T.cS (ae (aa 0) ah)))) (aE Kf (aa 1) (aa 1))) ag) (aa 2)) (aa 3))))),?_];rfl';refine#[_,fg hS,?_];rw[adA];have pm:=Zc hn hk;refine aU (λh=>?_) λh=>?_
 .exact q 0 (by decide) hm
 .have h:0<(ns.length:Int):=by have:ns.length≠0:=λz=>h (by rw[z];rfl);lia
  refine#[_,fg hS,?_];rw[adA];refine#[h,bR hS (Sl h) ?_];exact#[pm.1,pm.2,hpr,hm,q _ (ajq _ (by lia)) (aic _ hm)]
inductive Zd(vs:List V)(H:Hp)(Q:VK)(aO:XK):Prop
 | mk(a:adK)(ns:List Int)(_:vs=[.ref a])(_:aj K H a (ns.map V.int))(_:iV ns)(_:∀ (p:Int) (H':Hp),ai H H'->Q (.int p) H')
theorem Ze(T:aC):aV 2 T.Xw Zd:=by
 refine bD B0 ?_;rintro y y y y y y y y hr ⟨a,ns,rfl,hS,hn,q⟩;refine#[_,(aq (aG (aW (cY T.cS (ae (aa 0) ah)) ag) (aw (aB ag)) aH) (aq (aJ 1 B0.nd (aE pw (ar (aa 0) ag) (aE zQ ag ag))) (aw (aB (ar (aP (ae ag (ae (aa 1) (ae (aE cf ag (aa 1)) (ae (aE cf (aE zQ ag ag) (aa 1)) ah))))) (aF (cB T) hr (ae (aa 0) (ae ag (ae ag (ae ag ah)))))))))),?_];rfl';refine#[_,fg hS,?_];rw[adA];refine aU (λh=>q _ _ (ai.refl _)) λh=>?_;have h:0<(ns.length:Int):=by have:ns.length≠0:=λz=>h (by rw[z];rfl);lia
 have h0:dw (ns.map V.int) 0=U (.int (ns.getD 0 0)):=dQ (j:=0) (by rw[adR,adB,adC (by lia)];rfl);refine bR hS h0 ?_;refine#[#[by decide,by decide,by decide],#[by decide,by decide,by decide],by decide,λt ht=>?_];refine#[a,ns,_,_,_,Y,(ao ht).seq hS,hn,by lia,by lia,by lia,λp p1 p2=>?_];rcases (by lia:p=0∨p=1∨p=2∨p=3) with rfl|rfl|rfl|rfl
 all_goals exact az (ak.of au) Y (q _ _ (ao ht))
inductive Zf(vs:List V)(H:Hp)(Q:VK)(aO:XK):Prop
 | mk(p:adK)(lo hi:En)(n:Int)(_:vs=[.ref p,.int n])(_:ak K H p [ev lo,ev hi])(_:Q (.bl (hold lo hi n)) H)
theorem yI(T:aC):aV 1 T.Xx Zf:=by
 refine bD LD ?_;rintro y y y y H y Q y y ⟨p,lo,hi,n,rfl,hp,q⟩;refine#[_,(aw (aB (fP (BO (nk (sU (ar (aa 0) ag))) (fq (fb (hV fU) (ar (aa 0) ag) (aa 1) (c6 _)))) (fq (BO (nk (sU (ar (aa 0) ag))) (fq (fb (hV fU) (aa 1) (ar (aa 0) ag) (c6 _)))))))),?_];rcases lo with y|lo<;>rcases hi with y|hi
 all_goals simp only[xk,xm] at hp
 all_goals
  repeat' first
  | refine az hp Y ?_
  | (walk_at "p")
  | (refine aU (λhc=>?_) λhc=>?_)
 all_goals first
  | exact q
  | exact (congrArg (λb=>Q (V.bl b) H) (show hold _ _ n=_ by rw[aeU,gY];simp<;>lia)).mp q
inductive Zg(vs:List V)(H:Hp)(Q:VK)(aO:XK):Prop
 | mk(p:adK)(lo hi:En)(_:vs=[.ref p])(_:ak K H p [ev lo,ev hi])(_:Q (.bl (bj lo hi)) H)
theorem Dd(T:aC):aV 1 T.pQ Zg:=by
 refine bD LG ?_;rintro y y y y y y y y y ⟨p,lo,hi,rfl,hp,q⟩;refine#[_,(aw (aB (fP (nk (sV (ar (aa 0) ag))) (fP (nk (sV (ar (aa 0) ag))) (fq (fb (hV tx) (ar (aa 0) ag) (ar (aa 0) ag) (c6 _))))))),?_];rcases lo with y|lo<;>rcases hi with y|hi
 all_goals simp only[xk,xm] at hp
 all_goals
  repeat' first
  | exact q
  | refine az hp Y ?_
  | (walk_at "p")
structure rW(e t u d m f:Int):Prop where
 he:1<=e/\e<=7
 ht:1<=t/\t<=12
 het:(e<=3/\t<=4)∨(e<=7/\t<=2)∨(e<=2/\t<=12)
 hu:0<=u/\u<=13
 hd:0<=d/\d<=13
 hm:0<=m/\m<=e
 hf:1<=f/\f<=1000000000000000000000000000000
noncomputable def vo(e t u d m f:Int):List V:=[.int e,.int t,.int u,.int d,.int m,.int f]
inductive Zh(vs:List V)(H:Hp)(Q:VK)(aO:XK):Prop
 | mk(a:adK)(ns:List Int)(_:vs=[.ref a])(_:aj K H a (ns.map V.int))(_:iV ns)(_:∀ (r:adK) (e t u d m f:Int) (H':Hp),ai H H'->H' r=U (.tup (vo e t u d m f))->rW e t u d m f->Q (.ref r) H')
def Mc(e t:Int):Prop:=(1<=e/\1<=t)/\((e<=3/\t<=4)∨(e<=7/\t<=2)∨(e<=2/\t<=12))
theorem Zi(T:aC):aV 2 T.Xy Zh:=by
 refine bD iI ?_;rintro y y y y H y y y hr ⟨a,ns,rfl,hS,hn,q⟩;refine#[_,(aq (aJ 1 iI.nd (aF (cB T) hr (ae (aa 0) (ae ag (ae ag (ae ag ah)))))) (aq (aJ 2 iI.nd (aE a8 ag (aF (cB T) hr (ae (aa 0) (ae ag (ae ag (ae ag ah))))))) (aq (aJ 3 iI.nd (aE a8 ag (aF (cB T) hr (ae (aa 0) (ae ag (ae ag (ae ag ah))))))) (aq (aG (aW (aa 1) ag) (aq (aJ 2 iI.nd ag) (aw (aJ 3 iI.nd ag))) aH) (aq (aG (aW (aa 1) ag) (aq (aJ 2 iI.nd ag) (aw (aJ 3 iI.nd ag))) aH) (aq (aJ 4 iI.nd (ar (aP (ae ag (ae ag (ae ag (ae (aE zQ ag ag) ah))))) (aF (cB T) hr (ae (aa 0) (ae ag (ae ag (ae ag ah))))))) (aq (aJ 5 iI.nd (aF (cB T) hr (ae (aa 0) (ae ag (ae ag (ae ag ah)))))) (aq (aJ 6 iI.nd (aF (cB T) hr (ae (aa 0) (ae ag (ae ag (ae ag ah)))))) (aq (aG (aW (aa 1) ag) (aq (aJ 5 iI.nd ag) (aw (aJ 6 iI.nd ag))) aH) (aw (aB (aP (ae (aa 2) (ae (aa 3) (ae (aa 5) (ae (aa 6) (ae (cG (wt Y) (by rfl) T.n9 nz (ae (aa 2) (ae (aF (cB T) hr (ae (aa 0) (ae ag (ae ag (ae ag ah))))) ah))) (ae (aa 4) ah)))))))))))))))))),?_];refine aD (λG H1=>∃ w:Int,G=[U (.ref a),U (.int w),O,O,O,O,O]/\H1=H) (λN hN=>?_) ?_
 .refine#[a,ns,_,_,_,Y,hS,hn,by lia,by lia,by lia,λp p1 p2=>?_];exact hN _ _ #[_,Y,Y]
 rintro y yR G H1 ⟨w,rfl,rfl⟩;subst yR;refine aD (λG H2=>∃ e:Int,G=[U (.ref a),U (.int w),U (.int e),O,O,O,O]/\H2=H1/\1<=e/\e<=3) (λN hN=>?_) ?_
 .rfl';refine#[a,ns,_,_,_,Y,hS,hn,by lia,by lia,by lia,λp p1 p2=>?_];exact hN _ _ #[_,Y,Y,by lia,by lia]
 rintro y yR G H ⟨e,rfl,rfl,e1,e2⟩;subst yR;refine aD (λG H2=>∃ t:Int,G=[U (.ref a),U (.int w),U (.int e),U (.int t),O,O,O]/\H2=H/\1<=t/\t<=4) (λN hN=>?_) ?_
 .rfl';refine#[a,ns,_,_,_,Y,hS,hn,by lia,by lia,by lia,λp p1 p2=>?_];exact hN _ _ #[_,Y,Y,by lia,by lia]
 rintro y yR G H1 ⟨t,rfl,rfl,t1,t2⟩;subst yR;refine aD (λG H2=>∃ e t:Int,G=[U (.ref a),U (.int w),U (.int e),U (.int t),O,O,O]/\H2=H1/\Mc e t) (λN hN=>?_) ?_
 .rfl';exact aU (λy=>hN _ _ #[7,2,Y,Y,by decide,.inr (.inl (by decide))]) λy=>hN _ _ #[e,t,Y,Y,#[e1,t1],.inl #[e2,t2]]
 rintro y yR G H ⟨e,t,rfl,rfl,hE⟩;subst yR;refine aD (λG H2=>∃ e t:Int,G=[U (.ref a),U (.int w),U (.int e),U (.int t),O,O,O]/\H2=H/\Mc e t) (λN hN=>?_) ?_
 .rfl';exact aU (λy=>hN _ _ #[2,12,Y,Y,by decide,.inr (.inr (by decide))]) λy=>hN _ _ #[e,t,Y,Y,hE]
 rintro y yR G H1 ⟨e,t,rfl,rfl,⟨e1,t1⟩,hE⟩;subst yR;refine aD (λG H2=>∃ f:Int,G=[U (.ref a),U (.int w),U (.int e),U (.int t),U (.int f),O,O]/\ai H1 H2/\1<=f/\f<=1000000000000000000000000000000) (λN hN=>?_) ?_
 .rfl';refine#[#[by decide,by decide,by decide],by decide,λl hl=>?_];refine#[a,ns,_,_,_,Y,(ao hl).seq hS,hn,by lia,by lia,by lia,λp p1 p2=>?_];rcases (by lia:p=0∨p=1∨p=2∨p=3) with rfl|rfl|rfl|rfl
  all_goals exact az (ak.of au) Y (hN _ _ #[_,Y,ao hl,by decide,by decide])
 rintro y yR G H2 ⟨f,rfl,s2,f1,f2⟩;subst yR;refine aD (λG H3=>∃ u:Int,G=[U (.ref a),U (.int w),U (.int e),U (.int t),U (.int f),U (.int u),O]/\H3=H2/\0<=u/\u<=13) (λN hN=>?_) ?_
 .rfl';refine#[a,ns,_,_,_,Y,s2.seq hS,hn,by lia,by lia,by lia,λp p1 p2=>?_];exact hN _ _ #[_,Y,Y,by lia,by lia]
 rintro y yR G H3 ⟨u,rfl,rfl,hu⟩;subst yR;refine aD (λG H4=>∃ d:Int,G=[U (.ref a),U (.int w),U (.int e),U (.int t),U (.int f),U (.int u),U (.int d)]/\H4=H3/\0<=d/\d<=13) (λN hN=>?_) ?_
 .rfl';refine#[a,ns,_,_,_,Y,s2.seq hS,hn,by lia,by lia,by lia,λp p1 p2=>?_];exact hN _ _ #[_,Y,Y,by lia,by lia]
 rintro y yR G H4 ⟨d,rfl,rfl,hd⟩;subst yR;refine aD (λG H5=>∃ u d:Int,G=[U (.ref a),U (.int w),U (.int e),U (.int t),U (.int f),U (.int u),U (.int d)]/\H5=H4/\(0<=u/\u<=13)/\0<=d/\d<=13) (λN hN=>?_) ?_
 .rfl';exact aU (λy=>hN _ _ #[0,0,Y,Y,by decide,by decide]) λy=>hN _ _ #[u,d,Y,Y,hu,hd]
 rintro y yR G H5 ⟨u,d,rfl,rfl,hu,hd⟩;subst yR;rfl';refine#[a,ns,_,_,_,Y,s2.seq hS,hn,by lia,by lia,by lia,λp p1 p2=>?_];rfl';refine#[by decide,λr hr=>q r e t u d _ f _ (s2.trans (ao hr)) au #[by lia,by lia,hE,hu,hd,?_,f1,f2]];split<;>lia
def vq(u d:Int)(cs:List Int):Prop:=∀ i,i+1<cs.length->-d<=cs.getD (i+1) 0-cs.getD i 0/\cs.getD (i+1) 0-cs.getD i 0<=u
theorem vq.snoc(h:vq u d (cs++[n]))(h1 : -d<=k-n)(h2:k-n<=u):vq u d (cs++[n]++[k]):=by
 intro i hi;rw[adT,adT,aea,aea] at hi;by_cases e:i+1<(cs++[n]).length
 .have:=h i e;simp only[adB] at this ⊢;rw[aeu (l₁:=cs++[n]) e,aeu (l₁:=cs++[n]) (by lia)];exact this
 .rw[adT,aea] at e;have ei:i=cs.length:=by lia
  subst ei;have a1:(cs++[n]++[k])[cs.length+1]?=U k:=by simp
  have a2:(cs++[n]++[k])[cs.length]?=U n:=by simp
  simp only[adB,a1,a2,agD];exact#[h1,h2]
inductive Zj(vs:List V)(H:Hp)(Q:VK)(aO:XK):Prop
 | mk(a b:adK)(ns:List Int)(e t u d m f n:Int)(_:vs=[.ref a,.ref b,.int n])(_:aj K H a (ns.map V.int))(_:iV ns)(_:ak K H b (vo e t u d m f))(_:rW e t u d m f)(_:∀ (l:adK) (cs:List Int) (H':Hp),ai H H'->H l=O->H' l=U (.lst (cs.map V.int))->cs.length=t.toNat->vq (f * u) (f * d) cs->Q (.ref l) H')
inductive Md(H:Hp)(a b l:adK)(u d f n:Int)(i:Nat)(G:St)(H1:Hp):Prop
 | mk(cs:List Int)(y:Int)(d4 d5:Option V)(_:G=[U (.ref a),U (.ref b),U (.int n),U (.ref l),d4,d5])(_:ai H H1)(_:H1 l=U (.lst ((cs++[y]).map V.int)))(_:cs.length=i)(_:vq (f * u) (f * d) (cs++[y]))
theorem Zk(T:aC):aV 2 T.Xz Zj:=by
 refine bD uT ?_;rintro z z z z H z z z hr ⟨a,b,ns,e,t,u,d,m,f,n,rfl,hS,hn,hb,sh,q⟩;refine#[_,(aq (aJ 3 uT.nd (cE (ae (aa 2) ah))) (aq (eM aem Y (nu Y T.eV (ae ag (ae (ar (aa 1) ag) ah))) (df 4 uT.nd) (aq (aJ 5 uT.nd (aE cf (aF (cB T) hr (ae (aa 0) (ae (aE a8 ag (aa 4)) (ae ag (ae (aE a8 (aE a8 (ar (aa 1) ag) (ar (aa 1) ag)) ag) ah))))) (ar (aa 1) ag))) (aw (dq (kU aet afn afo tM (aa 3) (ae (aE a8 (ar (aa 3) (iP i3 ag)) (aE jH (ar (aa 1) ag) (aa 5))) ah)))))) (aw (aB (aa 3))))),?_];obtain⟨-,⟨t1,t2⟩,-,⟨u1,u2⟩,⟨d1,d2⟩,-,f1,f2⟩:=id sh;refine aD (λG H1=>∃ l,G=[U (.ref a),U (.ref b),U (.int n),U (.ref l),O,O]/\ai H H1/\H l=O/\H1 l=U (.lst ([n].map V.int))) (λN hN=>?_) ?_
 .rfl';exact#[by decide,λl hl=>hN _ _ #[l,Y,ao hl,hl,au]]
 rintro z yR G H1 ⟨l,rfl,s1,f0,hl⟩;subst yR;refine aD (Md H a b l u d f n (t-1).toNat) (λN hN=>?_) ?_
 .rfl';refine az (ft s1 hb) (v:=.int t) Y ?_;rfl';refine#[by lia,by lia,qF (Md H a b l u d f n) #[[],n,_,_,Y,s1,hl,Y,λk h=>absurd h (by show ¬ k+1<1;lia)] ?_ (λG H' h=>hN _ _ h)];rintro i G H2 hi ⟨cs,y,d4,d5,rfl,s2,bb,bf,cW⟩;rfl';refine az (ft s2 hb) (v:=.int u) Y (az (ft s2 hb) (v:=.int d) Y ?_);refine#[a,ns,_,_,_,Y,s2.seq hS,hn,by lia,by lia,by lia,λp p1 p2=>?_];refine az (ft s2 hb) (v:=.int d) Y ?_;refine#[.inl #[Y,_,aj.of bb],bR (aj.of bb) (v:=.int y) (by rw[afb];exact z5 _ _) (az (ft s2 hb) (v:=.int f) Y ?_)];rfl';have m1:=ahD (show p-d<=u by lia) (show 0<=f by lia);have m2:=ahD (show -d<=p-d by lia) (show 0<=f by lia);rw[Int.mul_neg] at m2;refine#[k7 (by lia) (by lia),_,bb,aeR (by rw[adA,adT,bf];show i+1<=20;lia:_<=20) (by decide),cs++[y],y+f * (p-d),_,_,Y,ir f0 s2,?_,by rw[adT,bf];rfl,cW.snoc (by lia) (by lia)];rw[au,afb (l₁:=cs++[y])];rfl
 rintro z yR G H2 ⟨cs,y,d4,d5,rfl,s2,bb,bf,cW⟩;subst yR;exact q l _ H2 s2 f0 bb (by rw[adT,bf];show (t-1).toNat+1=_;lia) cW
inductive Zl(vs:List V)(H:Hp)(Q:VK)(aO:XK):Prop
 | mk(a:adK)(ns:List Int)(k n f:Int)(_:vs=[.ref a,.int k,.int n,.int f])(_:aj K H a (ns.map V.int))(_:iV ns)(_:(-900000<=k/\k<=900000))(_:(1<=f/\f<=1000000000000000000000000000000))(_:∀ (p:adK) (lo hi:En) (H':Hp),ai H H'->H' p=U (.tup [ev lo,ev hi])->bj lo hi=false->hold lo hi n=true->Q (.ref p) H')
inductive De(H:Hp)(a:adK)(k n f:Int)(G:St)(H1:Hp):Prop
 | mk(lo hi:En)(o:Int)(_:G=[U (.ref a),U (.int k),U (.int n),U (.int f),U (ev lo),U (ev hi),U (.int o)])(_:H1=H)(_:b8 (lo,hi) n)
theorem Me(T:aC):aV 2 T.XA Zl:=by
 refine bD pJ ?_;rintro v v v v H v v v hr ⟨a,ns,k,n,f,rfl,hS,hn,hk,⟨f1,f2⟩,q⟩;refine#[_,(aq (aJ 4 pJ.nd (aE cf (aE cf (aa 2) (aE jH (aa 3) (aF (cB T) hr (ae (aa 0) (ae (aa 1) (ae ag (ae ag ah))))))) (aF (cB T) hr (ae (aa 0) (ae (aa 1) (ae ag (ae ag ah))))))) (aq (aJ 5 pJ.nd (aE a8 (aa 2) (aE jH (aa 3) (aF (cB T) hr (ae (aa 0) (ae (aa 1) (ae ag (ae ag ah)))))))) (aq (aJ 6 pJ.nd (aF (cB T) hr (ae (aa 0) (ae (aa 1) (ae ag (ae ag ah)))))) (aq (aG (aW (aa 6) ag) (aw (aJ 4 pJ.nd bI)) aH) (aq (aG (aW (aa 6) ag) (aw (aJ 5 pJ.nd bI)) aH) (aw (aB (aP (ae (aa 4) (ae (aa 5) ah)))))))))),?_];refine aD (λG H1=>∃ lo:Int,G=[U (.ref a),U (.int k),U (.int n),U (.int f),U (.int lo),O,O]/\H1=H/\lo<=n) (λN hN=>?_) ?_
 .refine#[a,ns,_,_,_,Y,hS,hn,by lia,by lia,by lia,λp p1 p2=>?_];have:=agB (show 0<=f by lia) p1;refine#[k7 (by lia) (by lia),?_];refine#[a,ns,_,_,_,Y,hS,hn,by lia,by lia,by lia,λr r1 r2=>?_];exact hN _ _ #[_,Y,Y,by lia]
 rintro v yR G H1 ⟨lo,rfl,rfl,h1⟩;subst yR;refine aD (λG H2=>∃ hi:Int,G=[U (.ref a),U (.int k),U (.int n),U (.int f),U (.int lo),U (.int hi),O]/\H2=H1/\n<=hi) (λN hN=>?_) ?_
 .refine#[a,ns,_,_,_,Y,hS,hn,by lia,by lia,by lia,λp p1 p2=>?_];rfl';have:=agB (show 0<=f by lia) p1;exact#[k7 (by lia) (by lia),hN _ _ #[_,Y,Y,by lia]]
 rintro v yR G H ⟨hi,rfl,rfl,h2⟩;subst yR;refine aD (De H a k n f) (λN hN=>?_) ?_
 .rfl';refine#[a,ns,_,_,_,Y,hS,hn,by lia,by lia,by lia,λp p1 p2=>?_];exact hN _ _ #[U lo,U hi,p,Y,Y,λx z=>by cases z;exact h1,λy z=>by cases z;exact h2]
 rintro v yR G H1 ⟨lo,hi,o,rfl,rfl,cn⟩;subst yR;refine aD (De H1 a k n f) (λN hN=>?_) ?_
 .rfl';exact aU (λv=>hN _ _ #[O,hi,o,Y,Y,λx z=>(nomatch z),cn.2]) λv=>hN _ _ #[lo,hi,o,Y,Y,cn]
 rintro v yR G H ⟨lo,hi,o,rfl,rfl,cn⟩;subst yR;refine aD (De H a k n f) (λN hN=>?_) ?_
 .rfl';exact aU (λv=>hN _ _ #[lo,O,o,Y,Y,cn.1,λx z=>(nomatch z)]) λv=>hN _ _ #[lo,hi,o,Y,Y,cn]
 rintro v yR G H1 ⟨lo,hi,o,rfl,rfl,cn⟩;subst yR;refine#[aY,λp hp=>q p lo hi _ (ao hp) au ?_ (A2.mp cn)];rcases lo with v|x<;>rcases hi with v|y
 .rfl
 .rfl
 .rfl
 .have h1:=cn.1 x rfl;have h2:=cn.2 y rfl;simp only[bj];exact decide_eq_false (by lia)
theorem Zm{tb:Tb}{s:P2}{w:S2}{r:P2 × S2}(h:r∈g9 tb s w):r∈tb∨r.2=w:=by
 unfold g9 at h;split at h
 .obtain⟨x,hx,rfl⟩:=adP.mp h;by_cases e:x.1=s
  .rw[if_pos e];exact .inr rfl
  .rw[if_neg e];exact .inl hx
 .rcases aec.mp h with z|z
  .exact .inl z
  .rw[ad8.mp z];exact .inr rfl
inductive fD(H:Hp)(v:V)(w:adK)(e t u d m:Int)(tb:Tb):Prop
 | mk(r:adK)(_:v = .ref r)(_:H r=U (.tup [.int e,.int t,.int u,.int d,.int m,.ref w]))(_:TabAt H w tb)
theorem fD.same{H H':Hp}{v:V}{w:adK}{e t u d m:Int}{tb:Tb}(h:fD H v w e t u d m tb)(s:ai H H'):fD H' v w e t u d m tb:=let ⟨r,e,a,b⟩:=h;#[r,e,s _ _ a,b.same s]
inductive Mf(H:Hp)(e t:Int)(q:adK)(n:Int)(H1:Hp):Prop
 | mk(tb:Tb)(_:ai H H1)(_:H q=O)(_:TabAt H1 q tb)(_:cj e t tb)(_:(tb.length:Int)<=n)(_:∀ r∈tb,bj r.2.1 r.2.2=false)
inductive Zn(vs:List V)(H:Hp)(Q:VK)(aO:XK):Prop
 | mk(a b c:adK)(ns cs:List Int)(e t u d m f:Int)(_:vs=[.ref a,.ref b,.ref c])(_:aj K H a (ns.map V.int))(_:iV ns)(_:ak K H b (vo e t u d m f))(_:rW e t u d m f)(_:aj K H c (cs.map V.int))(_:cs.length=t.toNat)(_:∀ (v:V) (w:adK) (tb:Tb) (H':Hp),ai H H'->H w=O->fD H' v w e t (f * u) (f * d) m tb->cj e t tb->tb.length<=24->(∀ r∈tb,bj r.2.1 r.2.2=false)->Q v H')
def Df(σ0:Option V->Option V->Option V->Option V->Option V->St)(H:Hp)(e t:Int)(q:adK)(n:Nat->Int)(i:Nat)(G:St)(H1:Hp):Prop:=∃ e1 e2 e3 e4 e5,G=σ0 e1 e2 e3 e4 e5/\Mf H e t q (n i) H1
theorem Zo(h:rW e t u d m f):e * t<=24:=by
 obtain⟨he,ht,h,-⟩:=h;rcases h with ⟨h1,h2⟩|⟨h1,h2⟩|⟨h1,h2⟩
 .exact agM (aio h1 h2 (by lia) (by decide)) (by decide)
 .exact agM (aio h1 h2 (by lia) (by decide)) (by decide)
 .exact aio h1 h2 (by lia) (by decide)
theorem Zp(T:aC):aV 3 T.XB Zn:=by
 refine bD kF ?_;rintro y y y s H y y y hr ⟨a,b,c,ns,cs,e,t,u,d,m,f,rfl,hS,hn,hb,sh,hc,bf,q⟩;refine#[_,(aq (aJ 3 kF.nd Iy) (aq (aJ 4 kF.nd (aF (cB T) hr (ae (aa 0) (ae ag (ae ag (ae (aE a8 (ar (aa 1) ag) ag) ah)))))) (aq (eM aem Y (jm Y T.eV (ae (ar (aa 1) ag) ah)) (df 5 kF.nd) (aw (eM aem Y (jm Y T.eV (ae (ar (aa 1) ag) ah)) (df 6 kF.nd) (aq (aJ 7 kF.nd (aE a8 (aE a8 ag (aE jH ag (aa 5))) (aa 6))) (aq (aJ 8 kF.nd (ar (aa 2) (aa 6))) (aq (aG (i4 (aE pw (aE a8 (aa 5) (aF (cB T) hr (ae (aa 0) (ae ag (ae ag (ae ag ah)))))) (ar (aa 1) ag)) (aa 4)) (aw (aJ 8 kF.nd (aE a8 (aa 8) (aE jH (ar (aa 1) ag) (aE cf (aF (cB T) hr (ae (aa 0) (ae (aa 7) (ae ag (ae ag ah))))) ag))))) aH) (aq (aJ 9 kF.nd (fb oE (aF (cB T) hr (ae (aa 0) (ae (aa 7) (ae ag (ae ag ah))))) ag (c6 _))) (aq (aG (aW (ar (aa 1) ag) ag) (aw (aJ 9 kF.nd (fb (hV tx) (aE pw (aE a8 (aE a8 (aa 5) (aa 6)) (aF (cB T) hr (ae (aa 0) (ae ag (ae ag (ae ag ah)))))) ag) ag (c6 _)))) aH) (aw (aG (cV (de (aa 9))) (aw (AV (fJ hr) (aa 3) (aP (ae (aa 5) (ae (aa 6) ah))) (aF (Me T) hr (ae (aa 0) (ae (aa 7) (ae (aa 8) (ae (ar (aa 1) ag) ah))))) Y)) aH)))))))))) (aw (aB (aP (ae (ar (aa 1) ag) (ae (ar (aa 1) ag) (ae (aE jH (ar (aa 1) ag) (ar (aa 1) ag)) (ae (aE jH (ar (aa 1) ag) (ar (aa 1) ag)) (ae (ar (aa 1) ag) (ae (aa 3) ah)))))))))))),?_];obtain⟨⟨e1,e2⟩,⟨t1,t2⟩,-,⟨u1,u2⟩,⟨d1,d2⟩,⟨m1,m2⟩,hf⟩:=id sh;have et:=Zo sh;refine aD (λG H1=>∃ w,G=[U (.ref a),U (.ref b),U (.ref c),U (.ref w),O,O,O,O,O,O]/\Mf H e t w 0 H1) (λN hN=>?_) ?_
 .exact λw jO=>hN _ _ #[w,Y,[],ao jO,jO,#[[],au,trivial],cj.nil,aeW _,λy h=>(nomatch h)]
 rintro y yR G H1 ⟨w,rfl,hw⟩;subst yR;obtain⟨y,s1,y⟩:=id hw;refine aD (λG H2=>∃ wr:Int,G=[U (.ref a),U (.ref b),U (.ref c),U (.ref w),U (.int wr),O,O,O,O,O]/\H2=H1) (λN hN=>?_) ?_
 .rfl';refine az (ft s1 hb) (v:=.int m) Y ?_;refine#[a,ns,_,_,_,Y,s1.seq hS,hn,by lia,by lia,by lia,λp p1 p2=>?_];exact hN _ _ #[_,Y,Y]
 rintro y yR G H2 ⟨wr,rfl,rfl⟩;subst yR;refine aD (Df (λe1 e2 e3 e4 e5=>[U (.ref a),U (.ref b),U (.ref c),U (.ref w),U (.int wr),e1,e2,e3,e4,e5]) H e t w (λy=>e * t) 0) (λN hN=>?_) ?_
 .rfl';refine az (ft s1 hb) (v:=.int e) Y ?_;rfl';refine#[by lia,by lia,qF (Df (λe1 e2 e3 e4 e5=>[U (.ref a),U (.ref b),U (.ref c),U (.ref w),U (.int wr),e1,e2,e3,e4,e5]) H e t w λi=>(i:Int) * t) #[_,_,_,_,_,Y,by simpa using hw] ?_ (λG H' h=>hN _ _ ?_)]
  .rintro i G H5 hi ⟨e1,e2,e3,e4,e5,rfl,Mg⟩;obtain⟨y,s5,y⟩:=id Mg;rfl';refine az (ft s5 hb) (v:=.int t) Y ?_;rfl';refine#[by lia,by lia,qF (Df (λe2 e3 e4 e5 y=>[U (.ref a),U (.ref b),U (.ref c),U (.ref w),U (.int wr),U (.int (0+(i:Int))),e2,e3,e4,e5]) H e t w λj=>(i:Int) * t+j) #[_,_,_,_,O,Y,by simpa using Mg] ?_ ?_]
   .rintro j G H6 hj ⟨e2,e3,e4,e5,y,rfl,Zq⟩;obtain⟨tb,s6,jO,⟨kvs,hk,hT⟩,aA,jb,dW⟩:=id Zq;have tl:=hT.len;refine aD (λG H7=>∃ kk:Int,G=[U (.ref a),U (.ref b),U (.ref c),U (.ref w),U (.int wr),U (.int (0+(i:Int))),U (.int (0+(j:Int))),U (.int kk),e4,e5]/\H7=H6/\0<=kk/\kk<=1000) (λN hN=>?_) ?_
    .rfl';exact#[k7 (by lia) (by lia),hN _ _ #[_,Y,Y,by lia,by lia]]
    rintro y yR G H7 ⟨kk,rfl,rfl,k1,k2⟩;subst yR;refine aD (λG H8=>∃ nn:Int,G=[U (.ref a),U (.ref b),U (.ref c),U (.ref w),U (.int wr),U (.int (0+(i:Int))),U (.int (0+(j:Int))),U (.int kk),U (.int nn),e5]/\H8=H7) (λN hN=>?_) ?_
    .exact bR (s6.seq hc) (int_at (by lia) (by lia)) (hN _ _ #[_,Y,Y])
    rintro y yR G H6 ⟨nn,rfl,rfl⟩;subst yR;refine aD (λG H8=>∃ nn:Int,G=[U (.ref a),U (.ref b),U (.ref c),U (.ref w),U (.int wr),U (.int (0+(i:Int))),U (.int (0+(j:Int))),U (.int kk),U (.int nn),e5]/\H8=H6) (λN hN=>?_) ?_
    .rfl';refine#[a,ns,_,_,_,Y,s6.seq hS,hn,by lia,by lia,by lia,λp p1 p2=>?_];refine az (ft s6 hb) (v:=.int e) Y ?_;refine#[by lia,aU (λy=>?_) λy=>hN _ _ #[nn,Y,Y]];refine az (ft s6 hb) (v:=.int f) Y ?_;refine#[a,ns,_,_,_,Y,s6.seq hS,hn,by lia,by lia,by lia,λr r1 r2=>?_];exact#[k7 (by lia) (by lia),hN _ _ #[_,Y,Y]]
    rintro y yR G H7 ⟨nn,rfl,rfl⟩;subst yR;refine aD (λG H8=>∃ o:Bool,G=[U (.ref a),U (.ref b),U (.ref c),U (.ref w),U (.int wr),U (.int (0+(i:Int))),U (.int (0+(j:Int))),U (.int kk),U (.int nn),U (.bl o)]/\H8=H7) (λN hN=>?_) ?_
    .rfl';refine#[a,ns,_,_,_,Y,s6.seq hS,hn,by lia,by lia,by lia,λp p1 p2=>?_];rfl';exact hN _ _ #[_,Y,Y]
    rintro y yR G H6 ⟨o,rfl,rfl⟩;subst yR;refine aD (λG H8=>∃ o:Bool,G=[U (.ref a),U (.ref b),U (.ref c),U (.ref w),U (.int wr),U (.int (0+(i:Int))),U (.int (0+(j:Int))),U (.int kk),U (.int nn),U (.bl o)]/\H8=H6) (λN hN=>?_) ?_
    .refine az (ft s6 hb) (v:=.int t) Y ?_;rfl';refine aU (λy=>?_) λy=>hN _ _ #[o,Y,Y];refine#[a,ns,_,_,_,Y,s6.seq hS,hn,by lia,by lia,by lia,λp p1 p2=>?_];exact hN _ _ #[_,Y,Y]
    rintro y yR G H7 ⟨o,rfl,rfl⟩;subst yR;have le:(i:Int) * t+(j:Int)<=(i:Int) * t+((j+1:Nat):Int):=by lia
    have bm:0<=(i:Int) * t/\(i:Int) * t<=6 * 12:=#[agB (by lia) (by lia),aio (by lia) t2 (by lia) (by decide)]
    cases o with
    | true =>
     exact#[_,_,_,_,O,Y,tb,s6,jO,#[kvs,hk,hT],aA,agM jb le,dW]
    | false =>
     rfl';refine az (ft s6 hb) (v:=.int f) Y ?_;refine#[a,ns,_,_,_,Y,s6.seq hS,hn,by lia,hf,λwp lo hi H8 s7 Zr vt y=>#[aY,λk Zs=>?_]];have u:=ao (o:=.tup [.int (0+(i:Int)),.int (0+(j:Int))]) Zs;have Mh:=(s7.trans u) _ _ hk;refine#[_,oY.t (k:=bP (0+(i:Int)) (0+(j:Int))) Mh au (aeR (by lia:kvs.length<=100) (by decide)),_,_,_,_,O,Y,g9 tb (0+(i:Int),0+(j:Int)) (lo,hi),ir jO (s6.trans (s7.trans u)),jO,#[_,au,?_],aA.put #[#[by show 0<=0+(i:Int);lia,by show 0+(i:Int)<e;lia],by show 0<=0+(j:Int);lia,by show 0+(j:Int)<t;lia],?_,λr hr=>?_]
     .have F:Fr _ (upd _ w (.dT (putK kvs (bP (0+(i:Int)) (0+(j:Int))) (.ref wp)))):=A1 Mh;exact bp.put (s:=(0+(i:Int),0+(j:Int))) (w:=(lo,hi)) (hT.imp λv a b z=>(aR.same z (s7.trans u)).fr F) (aR.fr #[wp,Y,u _ _ Zr] F)
     .have:=xF tb (0+(i:Int),0+(j:Int)) (lo,hi);lia
     .rcases Zm hr with z|z
      .exact dW r z
      .rw[z];exact vt
   .rintro G H6 ⟨e2,e3,e4,e5,y,rfl,tb,s6,jO,hT,aA,jb,dW⟩;refine#[_,_,_,_,_,Y,tb,s6,jO,hT,aA,?_,dW];show (tb.length:Int)<=((i+1:Nat):Int) * t;lia
  .obtain⟨e1,e2,e3,e4,e5,rfl,tb,s6,jO,hT,aA,jb,dW⟩:=h;refine#[_,_,_,_,_,Y,tb,s6,jO,hT,aA,?_,dW];have jb:(tb.length:Int)<=((e.toNat:Nat):Int) * t:=jb;rw[afD (by lia)] at jb;exact jb
 rintro y yR G H5 ⟨e1,e2,e3,e4,e5,rfl,tb,s5,jO,hT,aA,jb,dW⟩;subst yR;rfl';refine az (ft s5 hb) (v:=.int e) Y (az (ft s5 hb) (v:=.int t) Y (az (ft s5 hb) (v:=.int f) Y (az (ft s5 hb) (v:=.int u) Y ?_)));refine#[k7 (by lia) (by lia),az (ft s5 hb) (v:=.int f) Y (az (ft s5 hb) (v:=.int d) Y ?_)];refine#[k7 (by lia) (by lia),az (ft s5 hb) (v:=.int m) Y #[by decide,λr hr=>?_]];exact q (.ref r) w tb _ (s5.trans (ao hr)) jO #[r,Y,au,hT.same (ao hr)] aA (by lia) dW
structure b6(B:adK)(H:Hp)(x:adK)(e t u d m:Int)(p:adK)(tb:Tb):Prop where
 ob:∃ dx,H x=U (.ins B dx (pW e t u d m p))
 tb:TabAt H p tb
theorem b6.same{B:adK}{H H':Hp}{x p:adK}{e t u d m:Int}{tb:Tb}(h:b6 B H x e t u d m p tb)(s:ai H H'):b6 B H' x e t u d m p tb:=let ⟨⟨dx,a⟩,b⟩:=h;#[#[dx,s _ _ a],b.same s]
theorem b6.now{B:adK}{H H':Hp}{x p:adK}{e t u d m:Int}{tb bS:Tb}(h:b6 B H x e t u d m p tb)(s:Fr H H')(hp:TabAt H' p bS):b6 B H' x e t u d m p bS:=let ⟨⟨dx,a⟩,_⟩:=h;#[#[dx,s _ _ (λy z=>nomatch z) a],hp]
inductive Zt(B C:adK)(vs:List V)(H:Hp)(Q:VK)(E:XK):Prop
 | mk(x p:adK)(e t u d m i j:Int)(kvs:List (List Key × V))(_:vs=[.ref x,.int i,.int j])(_:iK B H x e t u d m p kvs)(_:(dB kvs (bP i j)=O->∀ H',ai H H'->E (.ref C) O H'))(_:(∀ v,dB kvs (bP i j)=U v->∀ H',SameBut p H H'->H' p=U (.dT (kj kvs (bP i j)))->Q .non H'))
theorem Zu(T:aC):bJ 2 T.CM (Zt T.aZ T.nX):=by refine iG Lx ?_;rintro y y y y y y y y hr ⟨x,p,e,t,u,d,m,i,j,kvs,rfl,hb,q0,q⟩;refine#[_,(aq (dq (ff (aa 0) T.bQ T.YO (Y9 T) hr.m T.CP.b .nil gT (ae (aa 1) (ae (aa 2) ah)))) (aw (dq (Ir (fJ hr) (a9 Y (aa 0) Y) (aP (ae (aa 1) (ae (aa 2) ah))) #[Y,Y,Y,Y])))),?_];obtain⟨⟨dx,hx⟩,hp⟩:=id hb;rfl';refine#[_,_,hx,Y,x,p,e,t,u,d,m,i,j,kvs,Y,hb,q0,λv hv H1 s1=>?_];have nB:=s1 _ _ hx;have cK:=s1 _ _ hp;refine#[_,_,_,nB,T.bQ,T.og,_,Y,p,Y,.inr #[kvs,.inl cK],aY,λk hk=>?_];refine#[kvs,(ao hk) _ _ cK,bP i j,au,v,hv,q v hv _ (λb o mq e=>?_) au];rw[aK mq];exact (ao hk) _ _ (s1 _ _ e)
inductive Zv(B:adK)(vs:List V)(H:Hp)(Q:VK)(aO:XK):Prop
 | mk(x p:adK)(e t u d m:Int)(tb:Tb)(_:vs=[.ref x])(_:b6 B H x e t u d m p tb)(_:(tb.map (·.1)).Nodup)(_:tb.length<64)(_:∀ l xs H',ai H H'->H l=O->H' l=U (.lst xs)->ay (lg H') xs (nI tb)->Q (.ref l) H')
theorem Mi(T:aC):bJ 1 T.yt (Zv T.aZ):=by
 refine cA Ly ?_;rintro v v v s H v Q v hr ⟨x,p,e,t,u,d,m,tb,rfl,⟨⟨dx,hx⟩,kvs,hp,hT⟩,hn,fZ,q⟩;refine#[_,(aw (aB (dz (cO [0] [aL]) Y (dX (cG (SS Y) (by rfl) T.LQ FZ (ae (a9 Y (aa 0) Y) ah))) (λC s2 H2 ex pn=>#[dH,(aP (ae (cu (K:=K) (aa 0) ag) (ae (cu (K:=K) (aa 0) ag) (ae (Iz (fJ hr) (a9 (K:=K) Y (aa 1) Y) (aa 0) (λv v=>rfl)) ah))))])))),?_];rfl';refine#[_,_,_,hx,T.bQ,T.og,_,Y,p,Y,kvs,hp,k8 tb,Th hT,Ti,by rw[hT.len];exact fZ,λl ys hl hk=>?_];have PS:=Tj hT hk;have s1:=ao (o:=.lst (eR (k8 tb) .non ys)) hl;have L1:upd H l (.lst (eR (k8 tb) .non ys)) l=U (.lst (eR (k8 tb) .non ys)):=au;generalize upd H l (.lst (eR (k8 tb) .non ys))=H1 at s1 L1 ⊢;refine#[#[_,aj.of L1],cX kf (adG (by rw[PS.len,rh];exact ahl fZ:_<=64) (by decide)) (gW (R:=λH x (r:P2 × S2)=>eQ H x r.1) (R':=λH y (r:P2 × S2)=>lg H y r) (f:=λr=>r) (bs:=[]) (λv v v v s r=>eQ.same r s) (λv v v v s r=>lg.same r s) (PS.imp λx r z=>eQ.same z s1) trivial (λH' s'=>aj.of (s' _ _ L1)) (λx r v H' s' dk Q h=>?_) (λx r dk H' s' h0 Q h=>?_) λH2 zs s2 hz=>?_)]
 .exact h
 .obtain⟨a,rfl,ha⟩:=id h0;have S:=s1.trans s';have Zw:=hT.imp λv a b z=>aR.same z S;obtain⟨w,hw,iw⟩:=(Zw.val r.1).2 _ (xE hn (xG dk));rfl';refine az (ak.of ha) Y (az (ak.of ha) Y #[_,_,_,S _ _ hx,T.bQ,T.og,_,Y,p,Y,w,?_,?_])
  .rw[<- hw];exact fv.t (k:=bP r.1.1 r.1.2) (S _ _ hp) ha
  .exact#[by decide,λz hz=>h _ _ (ao hz) #[z,w,Y,au,aR.same iw (ao hz)]]
 rw[ad4,al6] at hz;exact λl2 bb=>q l2 zs _ (s1.trans (s2.trans (ao bb))) ((s1.trans s2).free bb) au (hz.imp λx r z=>lg.same z (ao bb))
inductive Zx(B N:adK)(vs:List V)(H:Hp)(Q:VK)(E:XK):Prop
 | mk(x p:adK)(e t u d m mo:Int)(tb:Tb)(_:vs=[.ref x,.int mo])(_:b6 B H x e t u d m p tb)(_:cj e t tb)(_:(¬ dE e t u d mo->∀ H',ai H H'->E (.ref N) O H'))(_:(dE e t u d mo->∀ x' p' H',ai H H'->H x'=O->H p'=O->b6 B H' x' e t u d mo p' tb->Q (.ref x') H'))
theorem Zy(T:aC):bJ 3 T.CN (Zx T.aZ T.uW):=by
 refine iG BZ ?_;rintro y y y y H y y y hr ⟨x,p,e,t,u,d,m,mo,tb,rfl,hb,aA,q0,q⟩;refine#[_,(aq (aJ 2 BZ.nd (jq T.C5 (Dc T) hr.m Y T.Ca T.uZ.b .nil gT (ae (a9 Y (aa 0) Y) (ae (a9 Y (aa 0) Y) (ae (a9 Y (aa 0) Y) (ae (a9 Y (aa 0) Y) (ae (aa 1) ah))))))) (aq (fz (aa 2) (wA Iv (by rfl) T.LO F9 (ae (a9 Y (aa 0) Y) ah)) Y) (aw (aB (aa 2))))),?_];obtain⟨⟨dx,hx⟩,kvs,hp,hT⟩:=id hb;refine aD (λG H1=>∃ x' oh p',G=[U (.ref x),U (.int mo),U (.ref x')]/\dE e t u d mo/\H x'=O/\ai H H1/\H1 x'=U (.ins T.aZ oh (pW e t u d mo p'))) (λN hN=>?_) ?_
 .rfl';refine#[_,_,_,hx,T.bQ,T.yD,_,Y,_,_,_,hx,T.bQ,T.vf,_,Y,_,_,_,hx,T.bQ,T.C2,_,Y,_,_,_,hx,T.bQ,T.C3,_,Y,λx' oh bZ Dg b9=>?_];have M:=qZ (C:=T.aZ) (fs:=[]) bZ Dg b9;exact#[x',oh,e,t,u,d,mo,Y,au,λz=>q0 z _ M,λhk p' H1 dI s1 X1 P1=>#[Y,hN _ _ #[x',oh,p',Y,hk,bZ,λb o e=>s1 b o (λz=>by rw[z,bZ] at e;cases e) (M _ _ e),X1]]]
 rintro y yR G H1 ⟨x',oh,p',rfl,hk,bZ,S1,X1⟩;subst yR;have k1:=hk.1;have k2:=hk.2.1;rfl';refine#[_,_,_,S1 _ _ hx,T.bQ,T.og,_,Y,p,Y,kvs,S1 _ _ hp,IE hT aA (by lia) (by lia),λl hl=>?_];have s2:=ao (o:=.dT kvs) hl;refine#[_,_,_,s2 _ _ X1,T.bQ,T.og,(by show 6<1000;decide),?_];have nl:l≠x':=λz=>by rw[z,X1] at hl;cases hl
 have S2:ai H (upd (upd H1 l (.dT kvs)) x' (.ins T.aZ oh (fI "told" (.ref l) (pW e t u d mo p')))):=ir bZ (S1.trans s2);exact q hk x' l _ S2 bZ (S1.free hl) #[#[_,au],kvs,by rw[aK nl];exact au,hT.imp λv a b z=>aR.same z S2]
inductive Zz(vs:List V)(H:Hp)(Q:VK)(aO:XK):Prop
 | mk(a:adK)(xs:List V)(ss:List S2)(_:vs=[.ref a])(_:aj K H a xs)(_:mw H xs ss)(_:xs.length<=1000)(_:∀ v H',ai H H'->iy H' v (gd (O,O) ss)->Q v H')
inductive ZA(H:Hp)(a:adK)(xs:List V)(ss:List S2)(i:Nat)(G:St)(H1:Hp):Prop
 | mk(v:V)(e:Option V)(_:G=[U (.ref a),U v,e])(_:ai H H1)(_:aR H1 v (bC (O,O) (ss.take i)).1 (bC (O,O) (ss.take i)).2)(_:bj (bC (O,O) (ss.take i)).1 (bC (O,O) (ss.take i)).2=false)
theorem Dh(T:aC):aV 3 T.W4 Zz:=by
 refine bD uN ?_;rintro z z z z H z z z hr ⟨a,xs,ss,rfl,hS,hP,hn,q⟩;refine#[_,(aq (aJ 1 uN.nd (aP (ae bI (ae bI ah)))) (aq (eM aem Y (dX (aa 0)) (df 2 uN.nd) (aq (aJ 1 uN.nd (aF (C9 T) hr (ae (aa 1) (ae (aa 2) ah)))) (aw (aG (eh (aa 1)) (aw (aB bI)) aH)))) (aw (aB (aa 1))))),?_];have hA:=lj.mp hP;have hl:=hA.len;rfl';refine#[aY,λp hp=>?_];have s0:=ao (o:=.tup [.non,.non]) hp;refine#[#[_,s0.seq hS],l5 (xs:=xs) (ZA H a xs ss) #[_,_,Y,s0,#[p,Y,au],Y] ?_ ?_ ?_]
 .rintro i G H1 z ⟨z,z,z,s1,z⟩;exact s1.seq hS
 .rintro i x G H1 hx ⟨v,e,rfl,s1,hv,hc⟩;obtain⟨w,hw,r⟩:=hA.get hx;have e1:=Tz (e:=(O,O)) hw;rfl';refine#[v,x,_,_,w.1,w.2,Y,hv,r.same s1,λy H2 s2 hm=>?_];have ky:HE H2 y (bC (O,O) (ss.take (i+1))).1 (bC (O,O) (ss.take (i+1))).2:=by rw[e1];exact hm
  cases hk:bj (bC (O,O) (ss.take (i+1))).1 (bC (O,O) (ss.take (i+1))).2 with
  | true =>
   have ey:=ky.1 hk;subst ey;refine q _ _ (s1.trans s2) ?_;unfold gd;rw[if_pos (Tw hk)];rfl
  | false =>
   have hy:=ky.2 hk;obtain⟨t,rfl,ht⟩:=id hy;exact#[_,_,Y,s1.trans s2,hy,hk]
 .rintro G H1 ⟨v,e,rfl,s1,hv,hc⟩;rw[hl,aeN] at hv hc;refine q _ _ s1 ?_;unfold gd;rw[if_neg (by rw[hc];simp)];exact hv
inductive ZC(B:adK)(vs:List V)(H:Hp)(Q:VK)(aO:XK):Prop
 | mk(x p:adK)(e t u d m i:Int)(k:Str)(kvs:List (List Key × V))(_:vs=[.ref x,.str k,.int i])(_:iK B H x e t u d m p kvs)(_:Q (.bl (hasB t k i)) H)
theorem ZD(T:aC):aV 2 T.W5 (ZC T.aZ):=by
 refine bD Kw ?_;rintro y y y y y y y y hr ⟨x,p,e,t,u,d,m,i,k,kvs,rfl,hb,q⟩;refine#[_,(aq (aG (aW (aa 1) aS) (aw (aB (fP (ff (aa 0) T.bQ T.vg (vm T) hr.m T.pS.b .nil bB (ae (aa 2) ah)) (fq (ff (aa 0) T.bQ T.vg (vm T) hr.m T.pS.b .nil bB (ae (aE a8 (aa 2) ag) ah)))))) aH) (aw (aB (fP (fb oE (aa 1) aS (c6 _)) (fq (ff (aa 0) T.bQ T.vg (vm T) hr.m T.pS.b .nil bB (ae (aa 2) ah))))))),?_];obtain⟨⟨dx,hx⟩,hp⟩:=id hb;unfold hasB at q;rfl'
 try refine#[Y,?_]
 by_cases hk:k = "step"
 .subst hk;rw[if_pos Y] at q ⊢;refine#[_,_,hx,Y,x,p,e,t,u,d,m,i,kvs,Y,hb,?_];by_cases h1:0<=i/\i<t
  .rw[decide_eq_true h1] at q ⊢;refine#[_,_,hx,Y,x,p,e,t,u,d,m,_,kvs,Y,hb,?_];rw[aiX] at q;exact q
  .rw[decide_eq_false h1] at q ⊢;exact q
 .rw[if_neg hk] at q;rw[if_neg hk]
  try refine#[Y,?_]
  by_cases jG:k = "at"
  .subst jG;rw[decide_eq_true Y,aiX] at q;rw[if_pos Y];refine#[_,_,hx,Y,x,p,e,t,u,d,m,i,kvs,Y,hb,?_];exact q
  .rw[decide_eq_false jG,ahh] at q;rw[if_neg λz=>jG (V.str.inj z)];exact q
inductive ZE(B C:adK)(vs:List V)(H:Hp)(Q:VK)(E:XK):Prop
 | mk(x p b:adK)(e t u d m:Int)(kvs:List (List Key × V))(xs:List V)(ps:List Pa)(_:vs=[.ref x,.ref b])(_:iK B H x e t u d m p kvs)(_:aj K H b xs)(_:da H xs ps)(_:(¬ cc t ps->E (.ref C) O H))(_:(cc t ps->Q .non H))
inductive ZF(H:Hp)(x b:adK)(t:Int)(ps:List Pa)(i:Nat)(G:St)(H1:Hp):Prop
 | mk(e:Option V)(_:G=[U (.ref x),U (.ref b),e])(_:H1=H)(_:cc t (ps.take i))
theorem Mj(T:aC):aV 3 T.W6 (ZE T.aZ T.ig):=by
 refine kA BX ?_;rintro v v v v H v v v hr ⟨x,p,b,e,t,u,d,m,kvs,xs,ps,rfl,hb,hX,hP,q0,q⟩;refine#[_,(aw (eM akx Y (dX (aa 1)) (df 2 BX.nd) (aw (aG (cV (de (aF (ZD T) hr (ae (aa 0) (ae (ar (aa 2) ag) (ae (ar (aa 2) ag) ah)))))) (aw (jv jw Y T.B8 T.yF Y (ae aS ah))) aH)))),?_];have hl:=hP.len;rfl';refine#[#[_,hX],l5 (xs:=xs) (ZF H x b t ps) #[_,Y,Y,λv h=>by simp at h] ?_ ?_ ?_]
 .rintro i G H1 v ⟨v,v,rfl,v⟩;exact hX
 .rintro i y G H1 hy ⟨e1,rfl,rfl,hk⟩;obtain⟨pa,mV,ta,qa,rfl,h1,h2⟩:=hP.get hy;refine aQ h1 (aQ h1 ?_);refine#[x,p,e,t,u,d,m,pa.2.1,pa.1,kvs,Y,hb,?_];cases hc:hasB t pa.1 pa.2.1 with
  | true =>
   refine#[_,Y,Y,λz hz=>?_];rw[aeQ,mV] at hz;rcases aec.mp hz with h|h
   .exact hk z h
   .have:z=pa:=by simpa using h
    rw[this];exact hc
  | false =>
   refine#[by decide,q0 λz=>?_];rw[z pa (ad3 mV)] at hc;cases hc
 .rintro G H1 ⟨e1,rfl,rfl,hk⟩;rw[hl,aeN] at hk;exact q hk
inductive ZG(vs:List V)(H:Hp)(Q:VK)(aO:XK):Prop
 | mk(b:adK)(xs:List V)(ps:List Pa)(k:Str)(t:Int)(_:vs=[.ref b,.str k,.int t])(_:aj K H b xs)(_:da H xs ps)(_:ps.length<=1000)(_:∀ l ys H',ai H H'->H l=O->H' l=U (.lst ys)->mw H' ys (sel ps k t)->Q (.ref l) H')
theorem Ml(T:aC):aV 1 T.W7 ZG:=by
 refine bD Kx ?_;rintro z z z s H z Q z z ⟨b,xs,ps,k,t,rfl,hX,hP,hn,q⟩;refine#[_,(aw (aB (dz (cO [1,2] ["kind",dU]) Y (dX (aa 0)) (λC s2 H2 ex pn=>#[(mf (PW.pt (jg (aW (cu (K:=K) (aa 0) ag) (aa 1)) (jX (aW (cu (K:=K) (aa 0) ag) (aa 2)))))),(cu (K:=K) (aa 0) ag)])))),?_];have hl:=hP.len;rfl';refine#[#[_,hX],cX kf (adG (by lia:xs.length<=1000) (by decide)) (rj (R:=λx p=>jC H x p) (R':=λy (s:S2)=>aR H y s.1 s.2) (p:=lp k t) (f:=λp=>p.2.2) hX hP (λx p r Q h=>?_) (λx p z r Q h=>?_) λzs hz=>?_)]
 .obtain⟨tt,u,rfl,ht,hu⟩:=r;unfold lp at h;rfl';refine aQ ht ?_;rfl'
  try refine#[Y,?_]
  by_cases hk:p.1=k
  .rw[decide_eq_true hk,aiX] at h;rw[if_pos (by rw[hk])];refine aQ ht ?_;exact BH (Q:=λk=>Q k H) h
  .rw[decide_eq_false hk,ahh] at h;rw[if_neg hk];exact h
 .obtain⟨tt,u,rfl,ht,hu⟩:=r;exact az (ak.of ht) Y (h _ #[u,Y,hu])
 .rw[ad4];intro l bb;exact q l zs _ (ao bb) bb au (lj.mpr (hz.imp λz z r=>r.same (ao bb)))
noncomputable def dM(u d:Int)(ps:List Pa)(n:Nat):List W2:=(adM n).map λ(k:Nat)=>gd (O,O) ((U (-d),U u)::sel ps "step" (k:Int))
inductive ZH(B C:adK)(vs:List V)(H:Hp)(Q:VK)(E:XK):Prop
 | mk(x p b:adK)(e t u d m:Int)(kvs:List (List Key × V))(xs:List V)(ps:List Pa)(_:vs=[.ref x,.ref b])(_:iK B H x e t u d m p kvs)(_:1<=t)(_:t<=12)(_:aj K H b xs)(_:da H xs ps)(_:ps.length<=900)(_:(¬ cc t ps->E (.ref C) O H))(_:(cc t ps->∀ l ys H',ai H H'->H l=O->H' l=U (.lst ys)->ay (iy H') ys (dM u d ps (t-1).toNat)->Q (.ref l) H'))
theorem ZI(T:aC):aV 4 T.W8 (ZH T.aZ T.ig):=by
 refine kA BY ?_;rintro y y y s H y Q y hr ⟨x,p,b,e,t,u,d,m,kvs,xs,ps,rfl,hb,t1,t2,hX,hP,hn,q0,q⟩;refine#[_,(aq (dq (gJ (Mj T) hr (ae (aa 0) (ae (aa 1) ah)))) (aq (aJ 2 BY.nd (cE (ae (aP (ae (iP i3 (a9 Y (aa 0) Y)) (ae (a9 Y (aa 0) Y) ah))) ah))) (aw (aB (dz (cO [2,1] ["own",ib]) Y (jm Y T.eV (ae (aE cf (a9 Y (aa 0) Y) ag) ah)) (λC s2 H2 ex pn=>#[dH,(aF (Dh T) hr (ae (aE j5 (aa 1) (aF (Ml T) hr (ae (aa 2) (ae aS (ae (aa 0) ah))))) ah))])))))),?_];obtain⟨⟨dx,hx⟩,hp⟩:=id hb;refine#[x,p,b,e,t,u,d,m,kvs,xs,ps,Y,hb,hX,hP,q0,λhk=>?_];rfl';refine#[_,_,_,hx,T.bQ,T.C3,_,Y,_,_,_,hx,T.bQ,T.C2,_,Y,aY,λo ho=>#[by decide,λl hl=>?_]];have s1:=(ao (o:=.tup [.int (-d),.int u]) ho).trans (ao (o:=.lst [.ref o]) hl);have O1:aR (upd (upd H o (.tup [.int (-d),.int u])) l (.lst [.ref o])) (.ref o) (U (-d)) (U u):=#[o,Y,(ao hl) _ _ au]
 have L1:(upd (upd H o (.tup [.int (-d),.int u])) l (.lst [.ref o])) l=U (.lst [.ref o]):=au;generalize upd (upd H o (.tup [.int (-d),.int u])) l (.lst [.ref o])=H1 at s1 O1 L1 ⊢;refine#[_,_,_,s1 _ _ hx,T.bQ,T.vf,_,Y,by lia,by lia,?_];refine cX iT (by rw[adA,adO];exact adG (by lia:_<=12) (by decide)) (gW (R:=λ_ x (k:Nat)=>x=V.int ((0:Int)+k)) (R':=iy) (f:=λ(k:Nat)=>gd (O,O) ((U (-d),U u)::sel ps "step" (k:Int))) (λy y y y y h=>h) (λy y y y s' h=>h.same s') (ay.gq _) (bs:=[]) trivial (λy y=>trivial) (λx k y H2 s2 r Q h=>?_) (λx k y H2 s2 r Q h=>?_) λH2 zs s2 hz=>?_)
 .exact h
 .subst r;have S2:=s1.trans s2;refine#[b,xs,ps,"step",_,Y,S2.seq hX,hP.same S2,by lia,λr ys H3 s3 y R3 hR=>?_];rw[aif] at hR;rfl';have hlen:ys.length<=900:=by
   have:=(lj.mp hR).len;have h2:(sel ps "step" (k:Int)).length<=ps.length:=by unfold sel;rw[adA];exact aen _ _
   lia
  refine#[[.ref o],s3 _ _ (s2 _ _ L1),ys,R3,adG (by show 1+ys.length<=1000;lia) (by decide),λc hc=>?_];have s4:=ao (o:=.lst ([.ref o]++ys)) hc;refine#[c,_,(U (-d),U u)::sel ps "step" (k:Int),Y,aj.of au,#[(O1.same (s2.trans s3)).same s4,?_],by rw[adT,aea];lia,λv H5 s5 hv=>h _ _ ((s3.trans s4).trans s5) hv];exact lj.mpr ((lj.mp hR).imp λy y r=>r.same s4)
 .intro c hc;refine q hk c zs _ ((s1.trans s2).trans (ao hc)) ((s1.trans s2).free hc) au ?_;rw[ad4] at hz;exact hz.imp λy y r=>r.same (ao hc)
noncomputable def eW(ps:List Pa)(n:Nat):List W2:=(adM n).map λ(k:Nat)=>gd (O,O) (sel ps "at" (k:Int))
inductive ZJ(B C:adK)(vs:List V)(H:Hp)(Q:VK)(E:XK):Prop
 | mk(x p b:adK)(e t u d m:Int)(kvs:List (List Key × V))(xs:List V)(ps:List Pa)(_:vs=[.ref x,.ref b])(_:iK B H x e t u d m p kvs)(_:1<=t)(_:t<=12)(_:aj K H b xs)(_:da H xs ps)(_:ps.length<=900)(_:(¬ cc t ps->E (.ref C) O H))(_:(cc t ps->∀ l ys H',ai H H'->H l=O->H' l=U (.lst ys)->ay (iy H') ys (eW ps t.toNat)->Q (.ref l) H'))
theorem ZK(T:aC):aV 4 T.W9 (ZJ T.aZ T.ig):=by
 refine kA Ky ?_;rintro y y y s y y Q y hr ⟨x,p,b,e,t,u,d,m,kvs,xs,ps,rfl,hb,t1,t2,hX,hP,hn,q0,q⟩;refine#[_,(aq (dq (gJ (Mj T) hr (ae (aa 0) (ae (aa 1) ah)))) (aw (aB (dz (cO [1] [ib]) Y (jm Y T.eV (ae (a9 Y (aa 0) Y) ah)) (λC s2 H2 ex pn=>#[dH,(aF (Dh T) hr (ae (aF (Ml T) hr (ae (aa 1) (ae aS (ae (aa 0) ah)))) ah))]))))),?_];obtain⟨⟨dx,hx⟩,hp⟩:=id hb;refine#[x,p,b,e,t,u,d,m,kvs,xs,ps,Y,hb,hX,hP,q0,λhk=>?_];rfl';refine#[_,_,_,hx,T.bQ,T.vf,_,Y,_,Y,by lia,by lia,?_];refine cX iT (by rw[adA,adO];exact adG (by lia:_<=12) (by decide)) (gW (R:=λ_ x (k:Nat)=>x=V.int ((0:Int)+k)) (R':=iy) (f:=λ(k:Nat)=>gd (O,O) (sel ps "at" (k:Int))) (λy y y y y h=>h) (λy y y y s' h=>h.same s') (ay.gq _) (bs:=[]) trivial (λy y=>trivial) (λx k y H2 s2 r Q h=>?_) (λx k y H2 s2 r Q h=>?_) λH2 zs s2 hz=>?_)
 .exact h
 .subst r;rfl';refine#[b,xs,ps,"at",_,Y,s2.seq hX,hP.same s2,by lia,λr ys H3 s3 y R3 hR=>?_];rw[aif] at hR;have hlen:ys.length<=900:=by
   have:=(lj.mp hR).len;have h2:(sel ps "at" (k:Int)).length<=ps.length:=by unfold sel;rw[adA];exact aen _ _
   lia
  exact#[r,ys,_,Y,aj.of R3,hR,by lia,λv H5 s5 hv=>h _ _ (s3.trans s5) hv]
 .intro c hc;refine q hk c zs _ (s2.trans (ao hc)) (s2.free hc) au ?_;rw[ad4] at hz;exact hz.imp λy y r=>r.same (ao hc)
inductive ZL(vs:List V)(H:Hp)(Q:VK)(aO:XK):Prop
 | mk(v:V)(c:S2)(_:vs=[v])(_:uq H v c)(_:Q (.int (mG c)) H)
theorem Mm(T:aC):aV 1 T.Xe ZL:=by
 refine bD Lh ?_;rintro z z z z z z z z z ⟨v,⟨e1,e2⟩,rfl,⟨p,rfl,hp⟩,q⟩;refine#[_,(aq (aG (iF (ar (aa 0) ag)) (aw (aB (ar (aa 0) ag))) aH) (aq (aG (iF (ar (aa 0) ag)) (aw (aB (ar (aa 0) ag))) aH) (aw (aB ag)))),?_];refine aQ hp ?_;rcases e1 with z|x
 .refine aQ hp ?_;rcases e2 with z|y
  .exact q
  .exact az (ak.of hp) Y q
 .exact az (ak.of hp) Y q
theorem ZM{tb:Tb}{s:P2}{w:S2}(h:s∉tb.map (·.1)):g9 tb s w=tb++[(s,w)]:=by unfold g9;rw[if_neg];intro z;obtain⟨r,hr,e⟩:=aez.mp z;exact h (adP.mpr #[r,hr,by simpa using e])
theorem ZN{α β:Type}{f:α->β}{l:List α}{i:Nat}{a:α}(h:(l.map f).Nodup)(ha:l[i]?=U a):f a∉(l.take i).map f:=by
 have hi:=(adI.mp ha).1;have e:l=l.take i++a::l.drop (i+1):=by have:=afP i l;rw[aeF hi] at this;rw[adC hi] at ha;cases ha;exact this.symm
 intro hm;have h2:((l.take i).map f++f a::(l.drop (i+1)).map f).Nodup:=by rw[<- adU,<- afb,<- e];exact h
 exact (aiH.mp h2).2.2 _ hm _ (.head _) rfl
def ZO(B:adK)(H3:Hp)(v:V)(x p:adK)(e t u d m:Int)(tb:Tb)(i:Nat)(G:St)(H4:Hp):Prop:=(∃ e1,G=[U v,U (.ref x),e1])/\mz [p] H3 H4/\b6 B H4 x e t u d m p (tb.take i)
inductive ZP(B:adK)(vs:List V)(H:Hp)(Q:VK)(aO:XK):Prop
 | mk(v:V)(w:adK)(e t u d m:Int)(tb:Tb)(_:vs=[v])(_:fD H v w e t u d m tb)(_:dE e t u d m)(_:cj e t tb)(_:tb.length<=60)(_:(∀ r∈tb,bj r.2.1 r.2.2=false))(_:∀ (x p:adK) (H':Hp),ai H H'->H x=O->H p=O->b6 B H' x e t u d m p tb->Q (.ref x) H')
theorem ZQ(T:aC):aV 4 T.XD (ZP T.aZ):=by
 refine bD yf ?_;rintro n n n n H n n n hr ⟨n,w,e,t,u,d,m,tb,rfl,⟨wr,rfl,hwr,hT⟩,dm,aA,gL,dW,q⟩;refine#[_,(aq (aJ 1 yf.nd (jq T.C5 (Dc T) hr.m Y T.Ca T.uZ.b .nil bB (ae (ar (aa 0) ag) (ae (ar (aa 0) ag) (ae (ar (aa 0) ag) (ae (ar (aa 0) ag) (ae (ar (aa 0) ag) ah))))))) (aq (Jf (eM aem Y (Jg (ar (aa 0) ag)) (df 2 yf.nd) (aw (dq (ff (aa 1) T.bQ T.yE (yH T) hr.m T.rQ.b .nil bB (ae (ar (aa 2) ag) (ae (ar (aa 2) ag) (ae (ar (xu (fJ hr) (ar (aa 0) ag) (aa 2) (λn n=>rfl)) ag) (ae (ar (xu (fJ hr) (ar (aa 0) ag) (aa 2) (λn n=>rfl)) ag) ah))))))))) (aw (aB (aa 1))))),?_];obtain⟨kvs,hk,hA⟩:=id hT;refine aD (λG H1=>∃ x p,G=[U (.ref wr),U (.ref x),O]/\ai H H1/\H x=O/\H p=O/\b6 T.aZ H1 x e t u d m p []) (λN hN=>?_) ?_
 .refine az (ak.of hwr) (v:=.int e) Y (az (ak.of hwr) (v:=.int t) Y (az (ak.of hwr) (v:=.int u) Y (az (ak.of hwr) (v:=.int d) Y (az (ak.of hwr) (v:=.int m) Y λx dx hx fE b9=>?_))));refine#[x,dx,e,t,u,d,m,Y,au,λz=>absurd dm z,λn p H1 hp s1 X1 P1=>#[Y,?_]];have M:=qZ (C:=T.aZ) (fs:=[]) hx fE b9;have S1:ai H H1:=λb o e=>s1 b o (λz=>by rw[z,hx] at e;cases e) (M _ _ e);exact hN _ _ #[x,p,Y,S1,hx,M.free hp,#[#[_,X1],[],P1,trivial]]
 rintro n yR G H1 ⟨x,p,rfl,s1,fx,fp,hB⟩;subst yR;have kH:=s1 _ _ hk;have wp:w≠p:=λz=>by rw[z,fp] at hk;cases hk
 refine aD (λG H2=>(∃ e1,G=[U (.ref wr),U (.ref x),e1])/\ai H H2/\b6 T.aZ H2 x e t u d m p tb) (λN hN=>?_) ?_
 .rfl';refine#[w,kvs,kH,λo=>?_];obtain⟨⟨dx,nB⟩,kp,cK,oi⟩:=id hB;have xw:x≠w:=λz=>by rw[z,kH] at nB;cases nB
  have oj:=Bk kH (s1 _ _ hwr) (u:=.ba o (.dT kvs));have w3:upd H1 w (.ba o (.dT kvs)) w=U (.ba o (.dT kvs)):=au;have p3:upd H1 w (.ba o (.dT kvs)) p=U (.dT kp):=by rw[aK (aey wp)];exact cK
  have oq:b6 T.aZ (upd H1 w (.ba o (.dT kvs))) x e t u d m p []:=#[#[dx,by rw[aK xw];exact nB],kp,p3,oi.imp λn n n z=>z.ba kH]
  have lK:=bp.ba (hA.imp λn n n z=>aR.same z s1) kH (u:=.ba o (.dT kvs));have vx:∀ H4,mz [p] (upd H1 w (.ba o (.dT kvs))) H4->ai H (upd H4 w (.dT kvs)):=λH4 bu b u hb=>by
   by_cases hbw:b=w
   .subst hbw;rw[au];rw[hk] at hb;exact hb
   .rw[aK hbw];exact bu b u (by simpa using λz=>by rw[z,fp] at hb;cases hb) (by rw[aK hbw];exact s1 _ _ hb)
  refine az (ak.of oj) (v:=.ref w) Y #[w,Y,o,kvs,w3,λlL=>?_];have PT:=lK.xC lL;have kl:=PT.len;rw[adA] at kl;generalize upd H1 w (.ba o (.dT kvs))=H3 at oj w3 p3 oq lK vx PT;have np:∀ (z:adK) (us:List V),H3 z=U (.tup us)->z∉[p]:=λz us hz=>by simpa using λy=>by rw[y,p3] at hz;cases hz
  refine Us (xs:=iX o) (ZO T.aZ H3 (.ref wr) x p e t u d m tb) Y (by rw[kl,hA.len]) #[#[_,Y],λn n n z=>z,oq] ?_ ?_ ?_
  .rintro i G H4 n ⟨n,bu,n⟩;exact bu w _ (by simpa using wp) w3
  .rintro i v G H4 hv ⟨⟨e1,rfl⟩,bu,yJ⟩;obtain⟨r1,cP,ka,rfl,kI⟩:=PT.get hv;rw[adR] at cP;obtain⟨r,hr,rfl⟩:=aeh.mp cP;have Di:=ad3 hr;obtain⟨⟨yK,pX⟩,kq,vy,yL⟩:=id yJ;obtain⟨vv,hvv,va,rfl,hva⟩:=(lK.val r.1).2 _ (xE aA.1 Di);have Dj:=bu ka _ (np _ _ kI) kI;have Mn:=bu wr _ (np _ _ oj) oj;have w4:=bu w _ (by simpa using wp) w3;have Mo:=bu va _ (np _ _ hva) hva;have gt:fv H4 w (.ref ka) (U (.ref va)):=by rw[<- hvv];exact fv.z (k:=bP r.1.1 r.1.2) w4 Dj
   rfl';refine#[_,_,pX,Y,az (ak.of Dj) (v:=.int r.1.1) Y (az (ak.of Dj) (v:=.int r.1.2) Y (az (ak.of Mn) (v:=.ref w) Y #[w,Y,.ref va,gt,az (ak.of Mo) Y (az (ak.of Mn) (v:=.ref w) Y #[w,Y,.ref va,gt,aQ Mo ?_])]))];have yM:=aA.2 r Di;have ZR:=yL.len;rw[afp] at ZR;have xp:x≠p:=λz=>by rw[z,vy] at pX;cases pX
   refine#[x,p,e,t,u,d,m,r.1.1,r.1.2,r.2.1,r.2.2,kq,Y,#[#[yK,pX],vy],by lia,λz=>absurd #[yM,dW r Di] z,λn v9 H9 sb Dk ZS=>#[#[_,Y],λc o hc ec=>sb c o (by simpa using hc) (bu c o hc ec),?_]];have ek:tb.take (i+1)=g9 (tb.take i) r.1 r.2:=by rw[ZM (ZN aA.1 hr),aeQ,hr];rfl
   rw[ek];exact#[#[yK,sb x _ xp pX],_,Dk,bp.put (yL.imp λv a b z=>z.fr (SameBut.fr sb vy)) ZS]
  .rintro G H4 ⟨⟨e1,rfl⟩,bu,yJ⟩;rw[kl,aeN] at yJ;have w4:=bu w _ (by simpa using wp) w3;obtain⟨⟨yK,pX⟩,kq,vy,yL⟩:=yJ;refine#[w4,hN _ _ #[#[_,Y],vx _ bu,#[yK,by rw[aK xw];exact pX],kq,by rw[aK (aey wp)];exact vy,yL.imp λv a b ⟨pt,e,h⟩=>#[pt,e,?_]]];rw[aK (λz=>by rw[z,w4] at h;cases h)];exact h
 rintro n yR G H2 ⟨⟨e1,rfl⟩,s2,rX⟩;subst yR;exact q x p H2 s2 fx fp rX
def Dl(tb:Tb)(cs:List Int)(i:Int):Prop:=∃ r∈tb,r.1.1=i/\hs r.2 (fN cs r.1.2.toNat)=false
inductive ZT(vs:List V)(H:Hp)(Q:VK)(aO:XK):Prop
 | mk(v:V)(w c:adK)(e t u d m:Int)(tb:Tb)(cs:List Int)(_:vs=[v,.ref c])(_:fD H v w e t u d m tb)(_:cj e t tb)(_:tb.length<=60)(_:aj K H c (cs.map V.int))(_:cs.length=t.toNat)(_:∀ (zs:List Int) (H':Hp),ai H H'->zs.Nodup->(∀ i,i∈zs↔Dl tb cs i)->Q (.int zs.length) H')
theorem ZU(T:aC):aV 2 T.XE ZT:=by
 refine bD LF ?_;rintro y y y y H y Q y hr ⟨y,w,c,e,t,u,d,m,tb,cs,rfl,⟨wr,rfl,hwr,hT⟩,aA,gL,hc,bf,q⟩;refine#[_,(aw (Jf (aB (WE Y (dz (cO [1,0] [fR,cR]) Y (Jg (ar (aa 0) ag)) (λC s2 H2 ex pn=>#[(mf (cV (de (aF (yI T) hr (ae (Iz (fJ hr) (cu (K:=K) (aa 2) ag) (aa 0) (λy y=>rfl)) (ae (cu (K:=K) (aa 1) (cu (K:=K) (aa 0) ag)) ah)))))),(cu (K:=K) (aa 0) ag)])) T.cS T.LP)))),?_];obtain⟨kvs,hk,hA⟩:=id hT;rfl';refine#[w,kvs,hk,λo=>?_];have oj:=Bk hk hwr (u:=.ba o (.dT kvs));have w3:upd H w (.ba o (.dT kvs)) w=U (.ba o (.dT kvs)):=au;have lK:=hA.ba hk (u:=.ba o (.dT kvs));have rY:aj K (upd H w (.ba o (.dT kvs))) c (cs.map V.int):=Ux hk hc;have vx:∀ H4,ai (upd H w (.ba o (.dT kvs))) H4->ai H (upd H4 w (.dT kvs)):=λH4 s4=>Uv hk s4;refine az (ak.of oj) (v:=.ref w) Y #[w,Y,o,kvs,w3,λlL=>?_];have PT:=lK.xC lL;have kl:=PT.len;rw[adA] at kl;generalize upd H w (.ba o (.dT kvs))=H3 at oj w3 lK rY vx PT;have P0:ay (λv (r:P2 × S2)=>eQ H3 v r.1) (iX o) tb:=ay.bind PT;refine cX (Uu (xs:=iX o) Y (by rw[kl,hA.len])) (adG (by lia:(iX o).length<=64) (by decide)) (oW (R:=λv (r:P2 × S2)=>eQ H3 v r.1) (p:=λr=>!hs r.2 (fN cs r.1.2.toNat)) (f:=λr=>.int r.1.1) w3 P0 (λv r hr rv Q h=>?_) (λv r hr hp rv Q h=>?_) ?_)
 .obtain⟨ka,rfl,kI⟩:=rv;obtain⟨⟨b1,b2⟩,b3,b4⟩:=aA.2 r hr;obtain⟨vv,hvv,va,rfl,hva⟩:=(lK.val r.1).2 _ (xE aA.1 hr);rfl';refine az (ak.of oj) (v:=.ref w) Y #[w,Y,.ref va,by rw[<- hvv];exact fv.z (k:=bP r.1.1 r.1.2) w3 kI,az (ak.of kI) (v:=.int r.1.2) Y (bR rY ((congrArg (dw _) (show r.1.2=((r.1.2.toNat:Nat):Int) by lia)).trans (dQ (Uy (by lia)))) #[va,r.2.1,r.2.2,fN cs r.1.2.toNat,Y,ak.of hva,?_])];exact h
 .obtain⟨ka,rfl,kI⟩:=rv;exact az (ak.of kI) (v:=.int r.1.1) Y h
 .rw[ad4,show ((tb.filter λr=>!hs r.2 (fN cs r.1.2.toNat)).map λr=>V.int r.1.1)=((tb.filter λr=>!hs r.2 (fN cs r.1.2.toNat)).map λr=>r.1.1).map V.int by rw[aev];rfl];intro l hl;have u:=ao (o:=.lst (((tb.filter λr=>!hs r.2 (fN cs r.1.2.toNat)).map λr=>r.1.1).map V.int)) hl;have fl:=aen (λr:P2 × S2=>!hs r.2 (fN cs r.1.2.toNat)) tb;refine#[l,Y,_,aj.of au,by rw[adA];lia,λzs hz hm=>#[u _ _ w3,q zs _ (vx _ u) hz λi=>?_]];rw[hm,adP];constructor
  .rintro ⟨r,hr,e⟩;obtain⟨h1,h2⟩:=ael.mp hr;exact#[r,h1,e,by simpa using h2]
  .rintro ⟨r,hr,e,h⟩;exact#[r,ael.mpr #[hr,by simpa using h],e]
theorem ZV{ps:List Pa}{i:Nat}{p:Pa}{k:Str}{t:Int}(h:ps[i]?=U p):sel (ps.take (i+1)) k t=sel (ps.take i) k t++(if lp k t p=true then [p.2.2] else []):=by
 unfold sel;rw[aeQ,h,List.filter_append,afb]
 congr 1
 simp only[aj8,aee,List.filter_nil];split<;>rfl
theorem ZW(e:S2)(ss:List S2)(s:S2):bC e (ss++[s])=(dS (bC e ss).1 s.1,eS (bC e ss).2 s.2):=by unfold bC;rw[aiE];rfl
inductive ZX(vs:List V)(H:Hp)(Q:VK)(aO:XK):Prop
 | mk(bg b:adK)(lo hi:En)(xs:List V)(ps:List Pa)(k:Str)(t:Int)(_:vs=[.ref bg,.ref b,.str k,.int t])(_:ak K H bg [ev lo,ev hi])(_:aj K H b xs)(_:da H xs ps)(_:ps.length<=1000)(_:∀ v H',ai H H'->aR H' v (bC (lo,hi) (sel ps k t)).1 (bC (lo,hi) (sel ps k t)).2->Q v H')
inductive vz(H:Hp)(bg b:adK)(lo hi:En)(ps:List Pa)(k:Str)(t:Int)(i:Nat)(G:St)(H1:Hp):Prop
 | mk(e1:Option V)(_:G=[U (.ref bg),U (.ref b),U (.str k),U (.int t),U (ev (bC (lo,hi) (sel (ps.take i) k t)).1),U (ev (bC (lo,hi) (sel (ps.take i) k t)).2),e1])(_:H1=H)
theorem Mp(T:aC):aV 1 T.XG ZX:=by
 refine bD pL ?_;rintro u u u u H u u u u ⟨bg,b,lo,hi,xs,ps,k,t,rfl,hg,hX,hP,hn,q⟩;refine#[_,(aq (aJ 4 pL.nd (ar (aa 0) ag)) (aq (aJ 5 pL.nd (ar (aa 0) ag)) (aq (eM aem Y (dX (aa 1)) (df 6 pL.nd) (aw (aG (PW.pt (jg (aW (ar (aa 6) ag) (aa 2)) (jX (aW (ar (aa 6) ag) (aa 3))))) (aq (aG (PW.pt (cL (eh (aa 4)) (eL (PW.pt (jg (iF (ar (ar (aa 6) ag) ag)) (jX (rK (ar (ar (aa 6) ag) ag) (aa 4)))))))) (aw (aJ 4 pL.nd (ar (ar (aa 6) ag) ag))) aH) (aw (aG (PW.pt (cL (eh (aa 5)) (eL (PW.pt (jg (iF (ar (ar (aa 6) ag) ag)) (jX (i4 (ar (ar (aa 6) ag) ag) (aa 5)))))))) (aw (aJ 5 pL.nd (ar (ar (aa 6) ag) ag))) aH))) aH))) (aw (aB (aP (ae (aa 4) (ae (aa 5) ah)))))))),?_];have hl:=hP.len;refine aD (λG H1=>G=[U (.ref bg),U (.ref b),U (.str k),U (.int t),U (ev lo),O,O]/\H1=H) (λN hN=>?_) ?_
 .exact az hg Y (hN _ _ #[Y,Y])
 rintro u yR G H1 ⟨rfl,rfl⟩;subst yR;refine aD (vz H1 bg b lo hi ps k t 0) (λN hN=>?_) ?_
 .exact az hg Y (hN _ _ #[_,Y,Y])
 rintro u yR G H ⟨e1,rfl,rfl⟩;subst yR;refine aD (vz H bg b lo hi ps k t xs.length) (λN hN=>?_) ?_
 .rfl';refine#[#[_,hX],l5 (xs:=xs) (vz H bg b lo hi ps k t) #[_,Y,Y] ?_ ?_ ?_]
  .rintro i G H1 u ⟨u,u,rfl⟩;exact hX
  .rintro i x G H1 hx ⟨e1,rfl,rfl⟩;obtain⟨p,hp,tp,sp,rfl,h1,h2⟩:=hP.get hx;have es:=ZV (k:=k) (t:=t) hp;have skip:lp k t p=false->vz H1 bg b lo hi ps k t (i+1) [U (.ref bg),U (.ref b),U (.str k),U (.int t),U (ev (bC (lo,hi) (sel (ps.take i) k t)).1),U (ev (bC (lo,hi) (sel (ps.take i) k t)).2),U (.ref tp)] H1:=λhz=>#[_,by rw[es,hz,if_neg ad2,akX],Y]
   show kO _ (lU _ _) _ _ _ _;refine x4 λB hB=>?_;rfl';refine az (ak.of h1) (v:=.str p.1) Y ?_;rfl';by_cases hk:p.1=k
   .rw[if_pos (by rw[hk])];refine az (ak.of h1) (v:=.int p.2.1) Y ?_;rfl';refine aU (λht=>?_) λht=>?_
    .have hz:lp k t p=true:=by unfold lp;rw[decide_eq_true hk,decide_eq_true ht];rfl
     rw[hz,if_pos Y] at es;have fin:vz H1 bg b lo hi ps k t (i+1) [U (.ref bg),U (.ref b),U (.str k),U (.int t),U (ev (dS (bC (lo,hi) (sel (ps.take i) k t)).1 p.2.2.1)),U (ev (eS (bC (lo,hi) (sel (ps.take i) k t)).2 p.2.2.2)),U (.ref tp)] H1:=#[_,by rw[es,ZW],Y]
     generalize (bC (lo,hi) (sel (ps.take i) k t)).1=x at fin ⊢;generalize (bC (lo,hi) (sel (ps.take i) k t)).2=y at fin ⊢;obtain⟨pk,pt,pa,pc⟩:=p;dsimp only at fin h1 h2;clear skip es hz hk ht hX hP hx hp hn hl q hN;subst hB;refine aD (λG H2=>G=[U (.ref bg),U (.ref b),U (.str k),U (.int t),U (ev (dS x pa)),U (ev y),U (.ref tp)]/\H2=H1) (λN hN=>?_) ?_
     .clear fin;rcases pa with u|pa<;>rcases x with u|x
      all_goals repeat' first
       | exact hN _ _ #[Y,Y]
       | refine aQ h2 ?_
       | refine az (ak.of h1) (v:=.ref sp) Y ?_
       | (walk_at "p")
       | (refine aU (λhc=>?_) λhc=>?_)
      all_goals (refine hN _ _ #[?_,Y];simp only[dS];first|(rw[if_pos (by lia)];rfl)|(rw[if_neg (by lia)];rfl))
     rintro u yR G H2 ⟨rfl,rfl⟩;subst yR;generalize ev (dS x pa)=z at fin ⊢;rcases pc with u|pc<;>rcases y with u|y
     all_goals repeat' first
      | exact fin
      | refine aQ h2 ?_
      | refine az (ak.of h1) (v:=.ref sp) Y ?_
      | (walk_at "p")
      | (refine aU (λhc=>?_) λhc=>?_)
     all_goals (simp only[eS] at fin;repeat' split at fin)
     all_goals first|exact fin|(exfalso;lia)
    .refine skip ?_;unfold lp;rw[decide_eq_false ht,ajK]
   .rw[if_neg hk];refine skip ?_;unfold lp;rw[decide_eq_false hk,ahh]
  .rintro G H1 h;exact hN _ _ h
 rintro u yR G H1 ⟨e1,rfl,rfl⟩;subst yR;rw[hl,aeN];rfl';exact#[aY,λp hp=>q _ _ (ao hp) #[p,Y,au]]
inductive ZY(B:adK)(vs:List V)(H:Hp)(Q:VK)(aO:XK):Prop
 | mk(x p:adK)(e t u d m i:Int)(tb:Tb)(_:vs=[.ref x,.int i])(_:b6 B H x e t u d m p tb)(_:(tb.map (·.1)).Nodup)(_:tb.length<64)(_:(∀ r∈tb,0<=r.1.2))(_:∀ l ys H',ai H H'->H l=O->H' l=U (.lst ys)->ay (fA H') ys (nK tb i)->Q (.ref l) H')
theorem ZZ(T:aC):aV 2 T.Xq (ZY T.aZ):=by
 refine bD Lm ?_;rintro y y y s H y Q y hr ⟨x,p,e,t,u,d,m,i,tb,rfl,hb,b9,fZ,h0,q⟩;refine#[_,(aw (aB (As (g:=lW K 3 (dO (cH 0) (dO (cH 1) (dO (cH 2) kP)))) (mh.mk (own:=["teller","turn","word"]) (fr:=[1]) (ys:=["eye"]) Y (by decide +kernel) Y (by decide +kernel) Y (.cons rfl .nil) (.cons rfl Y Y Y .nil) Y) Y (dX (qA (aa 0) T.bQ T.L6 (Mi T) hr.m T.yt.b .nil bB)) (λC s2 H2 ex pn=>lX (n:=3) Y (eY (jh (i:=0) (show (["teller","turn","word","eye"]:List Str).Nodup by decide) Y (.inl (aeb Y)) (.inr (aeb Y))) (eY (jh (i:=1) (show (["teller","turn","word","eye"]:List Str).Nodup by decide) Y (.inl (aeb Y)) (.inr (aeb Y))) (eY (jh (i:=2) (show (["teller","turn","word","eye"]:List Str).Nodup by decide) Y (.inl (aeb Y)) (.inr (aeb Y))) lV)))) (λC s2 H2 ex pn=>#[(mf (aW (aa 0) (aa 3))),(aP (ae (aa 1) (ae (aa 2) ah)))])))),?_];obtain⟨⟨dx,hx⟩,htb⟩:=id hb;rfl';refine#[_,_,hx,Y,x,p,e,t,u,d,m,tb,Y,hb,b9,fZ,λl xs H1 s1 y hl hT=>?_];have tl:=hT.len;rw[rh] at tl;refine#[l,Y,#[_,aj.of hl],IY (row:=rowOf H1) (adG (by lia:xs.length<=64) (by decide)) (xO (R:=λ_ x (r:P2 × S2)=>lg H1 x r) (R':=fA) (p:=λr=>decide (r.1.1=i)) (f:=λr=>(r.1.2.toNat,r.2)) (λy y y y y h=>h) (λy y y y s' h=>h.same s') hT (bs:=[]) trivial (λH' s'=>Jb hl hT s') (λx r y H2 s2 h1 Q h=>?_) (λx r dk hp H2 s2 h1 Q h=>?_) λH2 zs s2 hz=>?_)]
 .obtain⟨ta,w,rfl,ha,hw⟩:=h1;unfold o6;dsimp only;rw[um ha];exact BH (Q:=λk=>Q k H2) h
 .obtain⟨ta,w,rfl,ha,wp,rfl,hw⟩:=h1;unfold o7;dsimp only;rw[um ha];have cP:=h0 r (xG dk);refine#[aY,λt1 mW=>h _ _ (ao mW) #[t1,wp,Y,?_,(ao mW) _ _ (s2 _ _ hw)]];rw[au];show U (HO.tup [.int r.1.2,.ref wp])=U (.tup [.int ((r.1.2.toNat:Nat):Int),.ref wp]);rw[afD cP]
 .rw[ad4] at hz;intro l2 bb;exact q l2 zs _ (s1.trans (s2.trans (ao bb))) ((s1.trans s2).free bb) au (hz.imp λy y r=>r.same (ao bb))
inductive Z0(B:adK)(vs:List V)(H:Hp)(Q:VK)(aO:XK):Prop
 | mk(x p o:adK)(e t u d m:Int)(tb:Tb)(es:List Int)(_:vs=[.ref x,.ref o])(_:b6 B H x e t u d m p tb)(_:(tb.map (·.1)).Nodup)(_:tb.length<64)(_:(∀ r∈tb,0<=r.1.2))(_:aj K H o (es.map V.int))(_:es.length<=100)(_:∀ l ys H',ai H H'->H' l=U (.lst ys)->ay (fA H') ys (((nI tb).filter λr=>!es.contains r.1.1).map λr=>(r.1.2.toNat,r.2))->Q (.ref l) H')
theorem Z1(T:aC):aV 2 T.Xr (Z0 T.aZ):=by
 refine bD Ln ?_;rintro y y y s H y Q y hr ⟨x,p,o,e,t,u,d,m,tb,es,rfl,hb,b9,fZ,h0,ho,uw,q⟩;refine#[_,(aw (aB (As (g:=lW K 3 (dO (cH 0) (dO (cH 1) (dO (cH 2) kP)))) (mh.mk (own:=["teller","turn","word"]) (fr:=[1]) (ys:=["some"]) Y (by decide +kernel) Y (by decide +kernel) Y (.cons rfl .nil) (.cons rfl Y Y Y .nil) Y) Y (dX (qA (aa 0) T.bQ T.L6 (Mi T) hr.m T.yt.b .nil bB)) (λC s2 H2 ex pn=>lX (n:=3) Y (eY (jh (i:=0) (show (["teller","turn","word","some"]:List Str).Nodup by decide) Y (.inl (aeb Y)) (.inr (aeb Y))) (eY (jh (i:=1) (show (["teller","turn","word","some"]:List Str).Nodup by decide) Y (.inl (aeb Y)) (.inr (aeb Y))) (eY (jh (i:=2) (show (["teller","turn","word","some"]:List Str).Nodup by decide) Y (.inl (aeb Y)) (.inr (aeb Y))) lV)))) (λC s2 H2 ex pn=>#[(mf (oG (Rn (K:=K) Y) (aa 0) (aa 3) (by with_unfolding_all rfl))),(aP (ae (aa 1) (ae (aa 2) ah)))])))),?_];obtain⟨⟨dx,hx⟩,htb⟩:=id hb;rfl';refine#[_,_,hx,Y,x,p,e,t,u,d,m,tb,Y,hb,b9,fZ,λl xs H1 s1 y hl hT=>?_];have tl:=hT.len;rw[rh] at tl;refine#[l,Y,#[_,aj.of hl],IY (row:=rowOf H1) (adG (by lia:xs.length<=64) (by decide)) (xO (R:=λ_ x (r:P2 × S2)=>lg H1 x r) (R':=fA) (p:=λr=>!es.contains r.1.1) (f:=λr=>(r.1.2.toNat,r.2)) (λy y y y y h=>h) (λy y y y s' h=>h.same s') hT (bs:=[]) trivial (λH' s'=>Jb hl hT s') (λx r y H2 s2 h1 Q h=>?_) (λx r dk hp H2 s2 h1 Q h=>?_) λH2 zs s2 hz=>?_)]
 .obtain⟨ta,w,rfl,ha,hw⟩:=h1;unfold o6;dsimp only;rw[um ha];refine#[o,_,Y,.inl ((s1.trans s2).seq ho),Y,Ja es,_,Y,?_];rw[Bg,if_pos Y];exact h
 .obtain⟨ta,w,rfl,ha,wp,rfl,hw⟩:=h1;unfold o7;dsimp only;rw[um ha];have cP:=h0 r (xG dk);refine#[aY,λt1 mW=>h _ _ (ao mW) #[t1,wp,Y,?_,(ao mW) _ _ (s2 _ _ hw)]];rw[au];show U (HO.tup [.int r.1.2,.ref wp])=U (.tup [.int ((r.1.2.toNat:Nat):Int),.ref wp]);rw[afD cP]
 .rw[ad4] at hz;intro l2 bb;exact q l2 zs _ (s1.trans (s2.trans (ao bb))) au (hz.imp λy y r=>r.same (ao bb))
inductive rZ(H:Hp)(v:V)(r:Gp):Prop
 | mk(g k:adK)(zs:List V)(_:v = .ref g)(_:H g=U (.tup [ev r.1,.ref k]))(_:H k=U (.lst zs))(_:ay (fA H) zs r.2)
theorem rZ.same(h:rZ H v r)(s:ai H H'):rZ H' v r:=let ⟨g,k,zs,e,a,b,c⟩:=h;#[g,k,zs,e,s _ _ a,s _ _ b,c.imp λy y x=>x.same s]
inductive Z2(B:adK)(vs:List V)(H:Hp)(Q:VK)(aO:XK):Prop
 | mk(x p:adK)(e t u d m:Int)(tb:Tb)(_:vs=[.ref x])(_:b6 B H x e t u d m p tb)(_:(tb.map (·.1)).Nodup)(_:tb.length<64)(_:(∀ r∈tb,0<=r.1.2))(_:0<=e)(_:e<=7)(_:∀ l ys H',ai H H'->H l=O->H' l=U (.lst ys)->ay (rZ H') ys ((uz e.toNat tb).map λr=>(U r.1,r.2))->Q (.ref l) H')
theorem Z3(T:aC):aV 3 T.Xs (Z2 T.aZ):=by
 refine bD Lo ?_;rintro y y y s y y Q y hr ⟨x,p,e,t,u,d,m,tb,rfl,hb,b9,fZ,dk,h0,h7,q⟩;refine#[_,(aw (aB (dz (cO [0] [eo]) Y (jm Y T.eV (ae (a9 Y (aa 0) Y) ah)) (λC s2 H2 ex pn=>#[dH,(aP (ae (aa 0) (ae (aF (ZZ T) hr (ae (aa 1) (ae (aa 0) ah))) ah)))])))),?_];obtain⟨⟨dx,hx⟩,hp⟩:=id hb;rfl';refine#[_,_,_,hx,T.bQ,T.yD,_,Y,?_];refine#[e,Y,by lia,by lia,cX iT (by rw[adA,adO];exact adG (by lia:_<=12) (by decide)) (gW (R:=λ_ x (k:Nat)=>x=V.int ((0:Int)+k)) (R':=rZ) (f:=λ(k:Nat)=>((U (k:Int),nK tb (k:Int)):Gp)) (λy y y y y h=>h) (λy y y y s' h=>h.same s') (ay.gq _) (bs:=[]) trivial (λy y=>trivial) (λx k y H2 s2 r Q h=>?_) (λx k y H2 s2 r Q h=>?_) λH2 zs s2 hz=>?_)]
 .exact h
 .subst r;rfl';rw[aif];refine#[x,p,e,t,u,d,m,(k:Int),tb,Y,hb.same s2,b9,fZ,dk,λl ys H3 s3 y hl hM=>#[aY,λg hg=>?_]];have u1:=ao (o:=.tup [.int (k:Int),.ref l]) hg;exact h _ _ (s3.trans u1) #[g,l,ys,Y,au,u1 _ _ hl,hM.imp λy y x=>x.same u1]
 .intro l hl;rw[ad4] at hz;refine q l zs _ (s2.trans (ao hl)) (s2.free hl) au ?_;unfold uz;rw[aev];exact hz.imp λy y r=>r.same (ao hl)
inductive Z4(vs:List V)(H:Hp)(Q:VK)(aO:XK):Prop
 | mk(v u:V)(s:S2)(p:P2)(_:vs=[v,u])(_:aR H v s.1 s.2)(_:eQ H u p)(_:∀ r H',ai H H'->H r=O->H' r=U (.tup [ev (gf s p).1,ev (gf s p).2])->Q (.ref r) H')
theorem Mq(T:aC):aV 1 T.Xf Z4:=by
 refine bD yd ?_;rintro y y y y y y y y hr ⟨v,u,⟨lo,hi⟩,⟨p1,p2⟩,rfl,⟨a,rfl,ha⟩,⟨b,rfl,hb⟩,q⟩;refine#[_,(aq (aJ 2 yd.nd (nq (eh (ar (aa 0) ag)) bI (aE a8 (ar (aa 0) ag) (ar (aa 1) ag)))) (aq (aJ 3 yd.nd (nq (eh (ar (aa 0) ag)) bI (aE a8 (ar (aa 0) ag) (ar (aa 1) ag)))) (aw (aB (aP (ae (aa 2) (ae (aa 3) ah))))))),?_];rcases lo with y|lo<;>rcases hi with y|hi
 all_goals simp only[xk,xm] at ha
 all_goals
  repeat' first
  | refine aQ ha ?_
  | refine aQ hb ?_
  | (walk_at "p")
 all_goals exact#[aY,λr hr=>q r _ (ao hr) hr au]
theorem Z5(h:ay (λv (s:S2)=>aR H v s.1 s.2) zs ss)(h0:0<ss.length):∃ v,dw zs (-1)=U v/\aR H v (cz ss (ss.length-1)).1 (cz ss (ss.length-1)).2:=by
 have hl:=h.len;obtain⟨v,hv,r⟩:=h.at (adC (l:=ss) (i:=ss.length-1) (by lia));have e:zs=zs.take (ss.length-1)++[v]:=by have:=afP (ss.length-1) zs;rw[aeF (by lia),ag5 (by lia)] at this;rw[adC (by lia)] at hv;cases hv;exact this.symm
 refine#[v,by rw[e];exact z5 _ _,?_];unfold cz;rw[adB,adC (by lia)];exact r
inductive Z6(vs:List V)(H:Hp)(Q:VK)(aO:XK):Prop
 | mk(a b:adK)(xs ys:List V)(ws:List W2)(ps:List P2)(_:vs=[.ref a,.ref b])(_:aj K H a xs)(_:ay (iy H) xs ws)(_:aj K H b ys)(_:iu H ys ps)(_:ws.length<=ps.length+1)(_:ws.length<=1000)(_:(∀ t,t<ws.length->bG (gi ws) (aN ps) t=O->∀ H',ai H H'->Q .non H'))(_:((∀ t,t<ws.length->bG (gi ws) (aN ps) t≠O)->∀ l zs ss H',ai H H'->H l=O->H' l=U (.lst zs)->ay (uq H') zs ss->ss.length=ws.length->(∀ t,t<ws.length->bG (gi ws) (aN ps) t=U (cz ss t))->Q (.ref l) H'))
inductive Mr(H:Hp)(a b l:adK)(ws:List W2)(ps:List P2)(i:Nat)(G:St)(H1:Hp):Prop
 | mk(zs:List V)(ss:List S2)(e1 e2 e3:Option V)(_:G=[U (.ref a),U (.ref b),U (.ref l),e1,e2,e3])(_:ai H H1)(_:H1 l=U (.lst zs))(_:ay (uq H1) zs ss)(_:ss.length=i)(_:∀ t,t<i->bG (gi ws) (aN ps) t=U (cz ss t))
theorem Ms(T:aC):aV 3 T.Xg Z6:=by
 refine bD pF ?_;rintro y y y y H y y y hr ⟨a,b,xs,ys,ws,ps,rfl,hS,hW,hT,hP,hl,hn,q0,q⟩;refine#[_,(aq (aJ 2 pF.nd (cE ah)) (aq (eM aem Y (AD Y T.yw (ae (aa 0) ah)) (lX Y (eY (df 3 pF.nd) (eY (df 4 pF.nd) lV))) (aq (aJ 5 pF.nd (aa 4)) (aq (aG (PW.pt (jg (rK (aa 3) ag) (jX (iF (aa 4))))) (aw (aJ 5 pF.nd (aF (C9 T) hr (ae (aa 4) (ae (aF (Mq T) hr (ae (ar (aa 2) (iP i3 ag)) (ae (ar (aa 1) (aE cf (aa 3) ag)) ah))) ah))))) aH) (aq (aG (eh (aa 5)) (aw (aB bI)) aH) (aw (dq (kU aet afn afo tM (aa 2) (ae (aa 5) ah)))))))) (aw (aB (aa 2))))),?_];have l1:=hW.len;have l2:=hP.len;refine#[by decide,λl eG=>?_];have s1:=ao (o:=.lst []) eG;have e1:upd H l (.lst []) l=U (.lst []):=au;generalize upd H l (.lst [])=H1 at s1 e1 ⊢;rfl';refine#[#[_,s1.seq hS],AH (xs:=xs) (Mr H a b l ws ps) #[[],[],_,_,_,Y,s1,e1,trivial,Y,λt h=>absurd h (afj _)] ?_ ?_ ?_]
 .rintro i G H2 y ⟨y,y,y,y,y,y,s2,y⟩;exact s2.seq hS
 .rintro i x G H2 p hx ⟨zs,ss,d1,d2,d3,rfl,s2,bb,hz,hlen,jc⟩ hp;obtain⟨w,hw,r⟩:=hW.get hx;have sp:=ao (o:=.tup [.int i,x]) hp;refine oV (ak.of au) ?_;generalize upd H2 p (.tup [.int i,x])=H3 at sp ⊢;have s3:=s2.trans sp;have r3:=r.same s3;have eI:=sp _ _ bb;have eJ:=hz.imp λy y r=>aR.same r sp;have zl:=hz.len;have ew:gi ws i=w:=by unfold gi;rw[adB,hw];rfl
  have hi:=(adI.mp hx).1;have add:∀ (v:V) (k:S2) (H4:Hp) (d1 d2 d3:Option V),ai H3 H4->aR H4 v k.1 k.2->bG (gi ws) (aN ps) i=U k->Mr H a b l ws ps (i+1) [U (.ref a),U (.ref b),U (.ref l),d1,d2,d3] (upd H4 l (.lst (zs++[v]))):=λv k H4 d1 d2 d3 s4 hv ek=>by
   have Dm:=s4 _ _ eI;refine#[zs++[v],ss++[k],d1,d2,d3,Y,ir eG (s3.trans s4),au,?_,by rw[adT,aea,hlen],λt ht=>?_]
   .exact ((eJ.imp λy y r=>aR.same r s4).snoc hv).imp λy y r=>aR.put r Dm
   .unfold cz;rw[adB];by_cases e:t=i
    .subst e;rw[ek,aeK (by lia),hlen,ajx];rfl
    .rw[jc t (by lia),aeu (by lia)];unfold cz;rw[adB]
  cases w with
  | none =>
   obtain rfl:x = .non:=r3;have e0:bG (gi ws) (aN ps) i=O:=by
    cases i with
    | zero=>exact ew
    | succ i=>unfold bG;rw[ew]
   rfl';have fin:=q0 i (by lia) e0 _ s3;exact aU (λy=>fin) λy=>fin
  | some k =>
   obtain⟨rp,rfl,hrp⟩:=id (show aR H3 x k.1 k.2 from r3);cases i with
   | zero =>
    rfl';exact#[.inl #[Y,_,aj.of eI],_,eI,aeR (by lia:zs.length<=1000) (by decide),add _ k _ _ _ _ (ai.refl _) r3 ew]
   | succ i =>
    rfl';rw[if_pos (by lia)];obtain⟨v,hv,rv⟩:=Z5 (ss:=ss) eJ (by lia);obtain⟨u,hu,ru⟩:=hP.at (adC (l:=ps) (i:=i) (by lia));have ep:ps[i]'(by lia)=aN ps i:=by unfold aN;rw[adB,adC (by lia)];rfl
    rw[ep] at ru;rw[show (((i+1:Nat):Int)-1)=((i:Nat):Int) by lia];refine bR (aj.of eI) hv (bR (s3.seq hT) (dQ hu) ?_);rw[hlen,Nat.add_sub_cancel] at rv;refine#[v,u,cz ss i,aN ps i,Y,rv,ru.same s3,λr H4 s4 y Z7=>?_];refine#[_,_,k.1,k.2,_,_,Y,#[rp,Y,s4 _ _ hrp],#[r,Y,Z7],λy H5 s5 hy=>?_];have ek:=jc i (by lia);have en:bG (gi ws) (aN ps) (i+1)=jD k (gf (cz ss i) (aN ps i)):=by
     show (match gi ws (i+1),bG (gi ws) (aN ps) i with
      | some b,U k=>jD b (gf k (aN ps i))
      | _,_=>O)=_
     rw[ew,ek]
    have vA:=(s4.trans s5) _ _ eI;unfold jD at en;cases hc:bj (dS k.1 (gf (cz ss i) (aN ps i)).1) (eS k.2 (gf (cz ss i) (aN ps i)).2) with
    | true =>
     rw[if_pos hc] at en;obtain rfl:=hy.1 hc;exact q0 (i+1) (by lia) en _ (s3.trans (s4.trans s5))
    | false =>
     rw[if_neg (by rw[hc];simp)] at en;have yN:=hy.2 hc;obtain⟨yp,rfl,hyp⟩:=id yN;exact#[.inl #[Y,_,aj.of vA],_,vA,aeR (by lia:zs.length<=1000) (by decide),add _ _ _ _ _ _ (s4.trans s5) yN en]
 .rintro G H2 ⟨zs,ss,d1,d2,d3,rfl,s2,bb,hz,hlen,jc⟩;rw[l1] at hlen jc;exact q (λt ht=>by rw[jc t ht];simp) l zs ss H2 s2 eG bb hz hlen jc
inductive Z8(vs:List V)(H:Hp)(Q:VK)(aO:XK):Prop
 | mk(a:adK)(xs:List V)(ms:List Mk)(t:Nat)(_:vs=[.ref a,.int t])(_:aj K H a xs)(_:ay (fA H) xs ms)(_:ms.length<=1000)(_:∀ l ys H',ai H H'->H' l=U (.lst ys)->mw H' ys (atT ms t)->Q (.ref l) H')
theorem Z9(T:aC):aV 1 T.Xi Z8:=by
 refine bD Li ?_;rintro y y y s H y Q y y ⟨a,xs,ms,t,rfl,hS,hM,hn,q⟩;refine#[_,(aw (aB (dz (cO [1] [dU]) Y (dX (aa 0)) (λC s2 H2 ex pn=>#[(mf (aW (cu (K:=K) (aa 0) ag) (aa 1))),(cu (K:=K) (aa 0) ag)])))),?_];have hl:=hM.len;rfl';refine#[#[_,hS],cX kf (adG (by lia:xs.length<=1000) (by decide)) (rj (R:=fA H) (R':=λv (s:S2)=>aR H v s.1 s.2) (p:=λm=>decide (m.1=t)) (f:=λm=>m.2) hS hM (λx m r Q h=>?_) (λx m hp r Q h=>?_) λzs hz=>?_)]
 .obtain⟨tp,sp,rfl,h1,h2⟩:=r;rfl';refine aQ h1 ?_;refine BH (Q:=λk=>Q k H) ?_;rw[show decide ((m.1:Int)=(t:Int))=decide (m.1=t) from decide_eq_decide.mpr (by lia)];exact h
 .obtain⟨tp,sp,rfl,h1,h2⟩:=r;exact az (ak.of h1) Y (h _ #[sp,Y,h2])
 .rw[ad4];intro l hl;exact q l zs _ (ao hl) au (lj.mpr (hz.imp λy y r=>r.same (ao hl)))
theorem ay.rev:∀ {xs:List V} {as:List α},ay R xs as->ay R xs.reverse as.reverse
 | [],[],_=>trivial
 | x::xs,a::as,h=>by rw[aha,aha];exact (ay.rev h.2).app #[h.1,trivial]
 | [],_::_,h=>h.elim
 | _::_,[],h=>h.elim
inductive aaa(vs:List V)(H:Hp)(Q:VK)(aO:XK):Prop
 | mk(a b:adK)(xs ys:List V)(ps:List P2)(ms:List Mk)(_:vs=[.ref a,.ref b])(_:aj K H a xs)(_:iu H xs ps)(_:aj K H b ys)(_:ay (fA H) ys ms)(_:fM ps)(_:ps.length<=900)(_:ms.length<=1000)(_:(∀ t,t<=ps.length->bG (cN ms) (aN ps) t=O->∀ H',ai H H'->Q .non H'))(_:((∀ t,t<=ps.length->bG (cN ms) (aN ps) t≠O)->∀ l zs ss H',ai H H'->H l=O->H' l=U (.lst zs)->ay (uq H') zs ss->ss.length=ps.length+1->(∀ t,t<=ps.length->iA ps.length (cN ms) (aN ps) t=U (cz ss t))->Q (.ref l) H'))
theorem aab(T:aC):aV 4 T.Xj aaa:=by
 refine bD ye ?_;rintro y y y s H y Q y hr ⟨a,b,xs,ys,ps,ms,rfl,hS,hP,hT,hM,aA,hn,hm,q0,q⟩;refine#[_,(aq (aJ 2 ye.nd (aF (Ms T) hr (ae (dz (cO [1] [i5]) Y (jm Y T.eV (ae (aE a8 (cY T.cS (ae (aa 0) ah)) ag) ah)) (λC s2 H2 ex pn=>#[dH,(aF (Dh T) hr (ae (aF (Z9 T) hr (ae (aa 1) (ae (aa 0) ah))) ah))])) (ae (aa 0) ah)))) (aq (aG (eh (aa 2)) (aw (aB bI)) aH) (aq (tT (i:=3) (cO [] []) Y ye.nd Y Y (RC Y T.XX (ae (aa 0) ah)) (λC s2 H2 ex pn=>#[dH,(aP (ae (iP i3 (cu (K:=K) (aa 0) ag)) (ae (iP i3 (cu (K:=K) (aa 0) ag)) ah)))])) (aw (aB (I0 (aF (Ms T) hr (ae (I0 (aa 2) (iP i3 ag)) (ae (aa 3) ah))) (iP i3 ag))))))),?_];have l1:=hP.len;rfl';refine#[_,fg hS,by lia,by lia,?_];rw[l1,show ((ps.length:Int)+1).toNat=ps.length+1 by lia];refine cX iT (by rw[adA,adO];exact adG (by lia:_<=901) (by decide)) (gW (R:=λ_ x (k:Nat)=>x=V.int ((0:Int)+k)) (R':=iy) (f:=λ(k:Nat)=>cN ms k) (λy y y y y h=>h) (λy y y y s' h=>h.same s') (ay.gq _) (bs:=[]) trivial (λy y=>trivial) (λx k y H2 s2 r Q h=>?_) (λx k y H2 s2 r Q h=>?_) λH2 zs s2 hz=>?_)
 .exact h
 .subst r;rfl';rw[show (0:Int)+(k:Nat)=((k:Nat):Int) by lia];refine#[b,ys,ms,k,Y,s2.seq hT,hM.imp λy y r=>r.same s2,hm,λl zs H3 s3 hl hs=>?_];refine#[l,zs,_,Y,aj.of hl,hs,?_,λv H4 s4 hv=>h H4 v (s3.trans s4) hv];rw[hs.len];unfold atT;rw[adA];exact adG (aen _ _) hm
 rw[ad4] at hz;intro c hc;have s3:=s2.trans (ao (o:=.lst zs) hc);have c3:upd H2 c (.lst zs) c=U (.lst zs):=au;have eJ:=hz.imp λy y r=>r.same (ao (o:=.lst zs) hc);generalize upd H2 c (.lst zs)=H3 at s3 c3 eJ ⊢;clear hz hc s2;have wl:((adM (ps.length+1)).map λ(k:Nat)=>cN ms k).length=ps.length+1:=by rw[adA,adO]
 have we:∀ t,t<=ps.length->gi ((adM (ps.length+1)).map λ(k:Nat)=>cN ms k) t=cN ms t:=λt ht=>by unfold gi;rw[adB,adR,aex (by lia)];rfl
 have ne:∀ t,t<=ps.length->bG (gi ((adM (ps.length+1)).map λ(k:Nat)=>cN ms k)) (aN ps) t=bG (cN ms) (aN ps) t:=λt ht=>Bc t (λk hk=>we k (by lia)) λk y=>rfl;refine#[c,a,zs,xs,_,ps,Y,aj.of c3,eJ,s3.seq hS,hP.same s3,by rw[wl];exact adJ _,by rw[wl];lia,λt ht en H4 s4=>?_,λbT l ot ss H4 s4 y hl hz2 l6 jc=>?_]
 .rw[wl] at ht;rw[ne t (by lia)] at en;exact q0 t (by lia) en _ (s3.trans s4)
 rw[wl] at bT jc l6;have Mt:∀ t,t<=ps.length->bG (cN ms) (aN ps) t≠O:=λt ht z=>bT t (by lia) (by rw[ne t ht];exact z);have aac:∀ t,t<ps.length+1->bG (cN ms) (aN ps) t=U (cz ss t):=λt ht=>by rw[<- ne t (by lia)];exact jc t ht
 have TB:=IW aA Mt;have S4:=s3.trans s4;rfl';refine#[xs,S4.seq hS,Uj (adG (by lia:_<=900) (by decide)) (gW (R:=eQ) (R':=eQ) (f:=λp=>(-p.2,-p.1)) (λy y y y s' h=>h.same s') (λy y y y s' h=>h.same s') (ay.rev (hP.same S4)) (bs:=[]) trivial (λH' s'=>(S4.trans s').seq hS) (λx k y H2 s2 r Q h=>?_) (λx k y H2 s2 r Q h=>?_) λH5 bs s5 hb=>?_)]
 .exact h
 .obtain⟨t,rfl,ht⟩:=r;rfl';refine aQ ht ?_;refine aQ ht ?_;exact#[aY,λp hp=>h _ _ (ao hp) #[p,Y,au]]
 rw[ad4] at hb;intro d hd;have s6:=s5.trans (ao (o:=.lst bs) hd);have d6:upd H5 d (.lst bs) d=U (.lst bs):=au;have Mu:iu (upd H5 d (.lst bs)) bs (mF ps):=hb.imp λy y r=>r.same (ao (o:=.lst bs) hd);generalize upd H5 d (.lst bs)=H6 at s6 d6 Mu ⊢;clear hb hd s5;refine#[ot,aj.of (s6 _ _ hl),λp hp=>?_];have s7:=s6.trans (ao (o:=.lst ot.reverse) hp);have p7:upd H6 p (.lst ot.reverse) p=U (.lst ot.reverse):=au;have d7:=(ao (o:=.lst ot.reverse) hp) _ _ d6;have Mv:iu (upd H6 p (.lst ot.reverse)) bs (mF ps):=Mu.same (ao (o:=.lst ot.reverse) hp);generalize upd H6 p (.lst ot.reverse)=H7 at s7 p7 d7 Mv ⊢;have rl:(ss.reverse.map U).length=ps.length+1:=by rw[adA,afg,l6]
 have bl:(mF ps).length=ps.length:=by unfold mF;rw[adA,afg]
 have be:∀ t,t<=ps.length->bG (gi (ss.reverse.map U)) (aN (mF ps)) t=iA ps.length (cN ms) (aN ps) (ps.length-t):=λt ht=>back_eq l6 aac ht;refine#[p,d,_,bs,ss.reverse.map U,mF ps,Y,aj.of p7,ay.IB (ay.rev (hz2.imp λy y r=>aR.same r s7)),aj.of d7,Mv,by rw[rl,bl];exact adJ _,by rw[rl];lia,λt ht en H8 s8=>?_,λy l3 zs3 ss3 H8 s8 fl3 eI hz8 Dp Mw=>?_]
 .rw[rl] at ht;rw[be t (by lia)] at en;obtain⟨z,ez,y⟩:=TB.ok (ps.length-t) (by lia);rw[en] at ez;cases ez
 rw[rl] at Dp Mw;have S8:=S4.trans (s7.trans s8);refine#[l3,Y,zs3,aj.of eI,λp3 mX=>q Mt p3 _ ss3.reverse _ (S8.trans (ao mX)) (S8.free mX) au (ay.rev (hz8.imp λy y r=>aR.same r (ao mX))) (by rw[afg,Dp]) λt ht=>?_];rw[Ua Dp ht,<- Mw (ps.length-t) (by lia),be _ (by lia),show ps.length-(ps.length-t)=t by lia]
inductive aad(vs:List V)(H:Hp)(Q:VK)(aO:XK):Prop
 | mk(a b:adK)(xs ys:List V)(ps:List P2)(ms:List Mk)(_:vs=[.ref a,.ref b])(_:aj K H a xs)(_:iu H xs ps)(_:aj K H b ys)(_:ay (fA H) ys ms)(_:fM ps)(_:ps.length<=900)(_:ms.length<=1000)(_:(∀ m∈ms,m.1<=ps.length))(_:((¬ ∃ c,jF ps c/\meets ms c)->∀ H',ai H H'->Q .non H'))(_:(∀ l cs H',ai H H'->H l=O->H' l=U (.lst (cs.map V.int))->cs.length=ps.length+1->jF ps (bV cs)->meets ms (bV cs)->Q (.ref l) H'))
inductive aae(H:Hp)(a b x l c:adK)(zs:List V)(ss:List S2)(ps:List P2)(ms:List Mk)(i:Nat)(G:St)(H1:Hp):Prop
 | mk(cs:List Int)(e1 e2:Option V)(_:G=[U (.ref a),U (.ref b),U (.ref x),U (.ref l),e1,e2])(_:ai H H1)(_:H1 l=U (.lst (cs.map V.int)))(_:H1 c=U (.lst (zs.drop 1)))(_:ay (uq H1) zs ss)(_:cs.length=i+1)(_:(∀ t,t<=i->d8 (iA ps.length (cN ms) (aN ps) t) (bV cs t)))(_:∀ k,k<i->(aN ps k).1<=bV cs (k+1)-bV cs k/\bV cs (k+1)-bV cs k<=(aN ps k).2)
theorem yO(h:t<cs.length):bV (cs++[n]) t=bV cs t:=by unfold bV;rw[adB,adB,aeu h]
theorem Mx(h:cs.length=t):bV (cs++[n]) t=n:=by unfold bV;rw[adB,aeK (by lia),h,ajx];rfl
theorem aaf{cs:List Int}{i:Nat}(h:cs.length=i+1):dw (cs.map V.int) (-1)=U (.int (bV cs i)):=by
 have e:cs=cs.take i++[bV cs i]:=by have:=afP i cs;rw[aeF (by lia),ag5 (by lia)] at this;unfold bV;rw[adB,adC (by lia)];exact this.symm
 have e2:cs.map V.int=(cs.take i).map V.int++[V.int (bV cs i)]:=(congrArg (List.map V.int) e).trans (by rw[afb];rfl);rw[e2];exact z5 _ _
theorem My(h:bj s.1 s.2=false):b8 s (mG s):=A2.mpr (Uk h)
theorem Mz(h:i<ss.length):ss[i]?=U (cz ss i):=by unfold cz;rw[adB,adC h];rfl
theorem Dq(h:i<ps.length):ps[i]?=U (aN ps i):=by unfold aN;rw[adB,adC h];rfl
theorem aag(T:aC):aV 5 T.Xk aad:=by
 refine bD rN ?_;rintro _ _ _ s H _ _ _ hr ⟨a,b,xs,ys,ps,ms,rfl,hS,hP,hT,hM,aA,hn,hm,ht,q0,q⟩;refine#[_,(aq (aJ 2 rN.nd (aF (aab T) hr (ae (aa 0) (ae (aa 1) ah)))) (aq (aG (eh (aa 2)) (aw (aB bI)) aH) (aq (aJ 3 rN.nd (cE (ae (aF (Mm T) hr (ae (ar (aa 2) ag) ah)) ah))) (aq (eM aem Y (Hc Y T.LS (ae (aa 0) (ae (wD z7 (aa 2) (tJ ag) zW) ah))) (lX Y (eY (df 4 rN.nd) (eY (df 5 rN.nd) lV))) (aw (dq (kU aet afn afo tM (aa 3) (ae (aF (Mm T) hr (ae (aF (C9 T) hr (ae (aa 5) (ae (aF (Mq T) hr (ae (aP (ae (ar (aa 3) (iP i3 ag)) (ae (ar (aa 3) (iP i3 ag)) ah))) (ae (aa 4) ah))) ah))) ah)) ah))))) (aw (aB (aa 3))))))),?_];have l1:=hP.len;rfl';refine#[a,b,xs,ys,ps,ms,Y,hS,hP,hT,hM,aA,hn,hm,λt ht en H1 s1=>?_,λbT x zs ss H1 s1 fx hx hz l6 jc=>?_]
 .refine q0 ?_ _ s1;rintro ⟨c,hc,l8⟩;exact T8 hc l8 t ht en
 have TB:=IW aA bT;have zl:=hz.len;have ok0:∀ t,t<=ps.length->bj (cz ss t).1 (cz ss t).2=false:=λt ht=>by obtain⟨s,es,hs⟩:=TB.ok t ht;rw[jc t ht] at es;cases es;exact hs
 rfl';obtain⟨v0,Dr,r0⟩:=hz.at (Mz (ss:=ss) (i:=0) (by lia));refine bR (aj.of hx) (dQ (j:=0) Dr) ?_;refine#[v0,cz ss 0,Y,r0,by decide,λl eG=>?_];have u1:=ao (o:=.lst [.int (mG (cz ss 0))]) eG;have L1:upd H1 l (.lst [.int (mG (cz ss 0))]) l=U (.lst ([mG (cz ss 0)].map V.int)):=au;have fl:=s1.free eG;generalize upd H1 l (.lst [.int (mG (cz ss 0))])=H2 at u1 L1 ⊢;refine#[zs,aj.of (u1 _ _ hx),λc hc=>?_];rw[show jr zs (U 1) O=zs.drop 1 from Hj zs 1];have u2:=ao (o:=.lst (zs.drop 1)) hc;have c3:upd H2 c (.lst (zs.drop 1)) c=U (.lst (zs.drop 1)):=au;have lc:l≠c:=λz=>by rw[<- z,L1] at hc;cases hc
 generalize upd H2 c (.lst (zs.drop 1))=H3 at u2 c3 ⊢;have S3:=s1.trans (u1.trans u2);refine#[#[_,S3.seq hS],#[_,aj.of c3],RM (xs:=xs) (ys:=zs.drop 1) (aae H a b x l c zs ss ps ms) #[[mG (cz ss 0)],_,_,Y,S3,u2 _ _ L1,c3,hz.imp λ_ _ r=>aR.same r (u1.trans u2),Y,λt ht=>?_,λk hk=>absurd hk (afj _)] ?_ ?_ ?_]
 .obtain rfl:t=0:=by lia
  exact#[_,jc 0 (by lia),My (ok0 0 (by lia))]
 .rintro i G H4 ⟨_,_,_,_,s4,_,c4,_⟩;exact#[s4.seq hS,aj.of c4]
 .rintro i u v G H4 p hu hv ⟨cs,d1,d2,rfl,s4,L4,c4,pY,bf,cn,cW⟩ hp;have hi:i<ps.length:=by have:=(adI.mp hu).1;lia
  obtain⟨pt,ept,ru⟩:=hP.get hu;rw[Dq hi] at ept;cases ept;rw[agZ,al7 1 i] at hv;obtain⟨sv,esv,rv⟩:=pY.get hv;rw[Mz (by lia)] at esv;cases esv;refine oV (ak.of au) ?_;have up:=ao (o:=.tup [u,v]) hp;generalize upd H4 p (.tup [u,v])=H5 at up ⊢;have L5:=up _ _ L4;rfl';have lst:=aaf bf;refine#[.inl #[Y,_,aj.of L5],bR (aj.of L5) lst (bR (aj.of L5) lst #[aY,λt1 mW=>?_])];have ut:=ao (o:=.tup [.int (bV cs i),.int (bV cs i)]) mW;refine#[.ref t1,u,(U (bV cs i),U (bV cs i)),aN ps i,Y,#[t1,Y,au],ru.same (s4.trans (up.trans ut)),λr H6 s6 _ hr6=>?_];obtain⟨m,em,dJ⟩:=Ub TB hi (cn i (adJ _)) (jc (i+1) (by lia));have rv6:=aR.same rv (up.trans (ut.trans s6));refine#[v,.ref r,_,_,_,_,Y,rv6,#[r,Y,hr6],λy H7 s7 hy=>?_];have cm:=IJ em;have MA:bj (dS (cz ss (i+1)).1 (gf (U (bV cs i),U (bV cs i)) (aN ps i)).1) (eS (cz ss (i+1)).2 (gf (U (bV cs i),U (bV cs i)) (aN ps i)).2)=false/\m=(dS (cz ss (i+1)).1 (gf (U (bV cs i),U (bV cs i)) (aN ps i)).1,eS (cz ss (i+1)).2 (gf (U (bV cs i),U (bV cs i)) (aN ps i)).2):=by
   unfold jD at em;split at em
   .cases em
   .rename_i hc;cases em;exact#[by simpa using hc,Y]
  have yN:=hy.2 MA.1;refine#[y,m,Y,by rw[MA.2];exact yN,?_];have S7:=up.trans (ut.trans (s6.trans s7));have L7:=S7 _ _ L4;obtain⟨n1,n2,n3⟩:=dJ _ (My cm);refine#[_,L7,by rw[adA];exact aeR (by lia:_<=1000) (by decide),cs++[mG m],_,_,Y,ir fl (s4.trans S7),by rw[au,afb];rfl,by rw[aK (aey lc)];exact S7 _ _ c4,pY.imp λ_ _ r=>aR.put (aR.same r S7) L7,by rw[adT,aea];lia,λt ht=>?_,λk hk=>?_]
  .by_cases e:t=i+1
   .subst e;rw[Mx bf];exact n1
   .rw[yO (by lia)];exact cn t (by lia)
  .by_cases e:k=i
   .subst e;rw[Mx bf,yO (by lia)];exact#[n2,n3]
   .rw[yO (by lia),yO (by lia)];exact cW k (by lia)
 .rintro G H4 ⟨cs,d1,d2,rfl,s4,L4,c4,pY,bf,cn,cW⟩;rw[af8,show min xs.length (zs.length-1)=ps.length by lia] at bf cn cW;exact q l cs H4 s4 fl L4 bf cW (meets_of TB ht cn)
def eX(H:Hp)(v:V):Option P2->Prop
 | none=>v = .non
 | some p=>eQ H v p
theorem eX.same(h:eX H v o)(s:ai H H'):eX H' v o:=by
 cases o with
 | none=>exact h
 | some p=>exact eQ.same h s
inductive aah(vs:List V)(H:Hp)(Q:VK)(aO:XK):Prop
 | mk(v u:V)(a b:Option P2)(_:vs=[v,u])(_:eX H v a)(_:eX H u b)(_:∀ x,eX H x (lq a b)->(x=v∨x=u)->Q x H)
theorem Ds(T:aC):aV 1 T.Xl aah:=by
 refine bD Lj ?_;rintro y y y y H y y y hr ⟨v,u,a,b,rfl,ha,hb,q⟩;refine#[_,(aq (aG (PW.pt (cL (eh (aa 0)) (eL (eh (aa 1))))) (aw (aB (nq (eh (aa 0)) (aa 1) (aa 0)))) aH) (aw (aB (cG (UE Y (fJ hr)) (by rfl) T.n9 nz (ae (aa 0) (ae (aa 1) ah)))))),?_];rcases a with y|a<;>rcases b with y|b
 .obtain rfl:v = .non:=ha;obtain rfl:u = .non:=hb;exact q _ Y (.inl rfl)
 .obtain rfl:v = .non:=ha;obtain⟨r,rfl,cP⟩:=id hb;exact q _ hb (.inr rfl)
 .obtain rfl:u = .non:=hb;obtain⟨r,rfl,cP⟩:=id ha;exact q _ ha (.inl rfl)
 .obtain⟨r,rfl,cP⟩:=id ha;obtain⟨r2,rfl,ij⟩:=id hb;rfl';refine#[a,cP,b,ij,?_];by_cases hl:gC b a=true
  .rw[if_pos hl];exact q _ (by show eQ H _ (gD a b);unfold gD;rw[if_pos hl];exact hb) (.inr rfl)
  .rw[if_neg hl];exact q _ (by show eQ H _ (gD a b);unfold gD;rw[if_neg hl];exact ha) (.inl rfl)
inductive aai(vs:List V)(H:Hp)(Q:VK)(aO:XK):Prop
 | mk(v:V)(a:Option P2)(b:Int)(_:vs=[v,.int b])(_:eX H v a)(_:∀ x H',ai H H'->eX H' x (rn a b)->Q x H')
theorem MB(T:aC):aV 1 T.Xm aai:=by
 refine bD Ll ?_;rintro y y y y y y y y y ⟨v,a,b,rfl,ha,q⟩;refine#[_,(aw (aB (nq (eh (aa 0)) bI (aP (ae (aE a8 (ar (aa 0) ag) (aa 1)) (ae (ar (aa 0) ag) ah)))))),?_];rcases a with y|a
 .obtain rfl:v = .non:=ha;exact q _ _ (ai.refl _) rfl
 .obtain⟨r,rfl,cP⟩:=id ha;refine aQ cP ?_;refine az (ak.of cP) Y #[aY,λp hp=>q _ _ (ao hp) #[p,Y,au]]
inductive aaj(vs:List V)(H:Hp)(Q:VK)(aO:XK):Prop
 | mk(a b:adK)(xs ys:List V)(ps:List P2)(ms:List Mk)(_:vs=[.ref a,.ref b])(_:aj K H a xs)(_:iu H xs ps)(_:aj K H b ys)(_:ay (fA H) ys ms)(_:fM ps)(_:ps.length<=900)(_:ms.length<=1000)(_:(∀ m∈ms,m.1<=ps.length))(_:∀ l zs ts H',ai H H'->H l=O->H' l=U (.lst zs)->ay (eX H') zs ts->ts.length=ps.length+1->mD ps ms (eU ts)->Q (.ref l) H')
inductive pZ(P:Nat->(Nat->Option P2)->Prop)(H:Hp)(a b l:adK)(n:Nat)(i:Nat)(G:St)(H1:Hp):Prop
 | mk(zs:List V)(ts:List (Option P2))(e1 e2 e3:Option V)(_:G=[U (.ref a),U (.ref b),U (.ref l),e1,e2,e3])(_:ai H H1)(_:H1 l=U (.lst zs))(_:ay (eX H1) zs ts)(_:ts.length=n+1)(_:P i (eU ts))
theorem eX.put(h:eX H v o)(hl:H l=U (.lst ys)):eX (upd H l (.lst zs)) v o:=by
 cases o with
 | none=>exact h
 | some p=>exact eQ.put h hl
theorem ay.MC{α:Type}{R:V->α->Prop}{x:V}{a:α}(r:R x a):∀ {xs:List V} {as:List α} (j:Nat),ay R xs as->ay R (xs.set j x) (as.set j a)
 | [],[],_,_=>trivial
 | _::_,_::_,0,h=>#[r,h.2]
 | _::_,_::_,j+1,h=>#[h.1,ay.MC r j h.2]
 | [],_::_,_,h=>h.elim
 | _::_,[],_,h=>h.elim
theorem sf(h:ay (eX H) zs ts)(ht:t<ts.length):∃ v,dw zs (t:Int)=U v/\eX H v (eU ts t):=by obtain⟨v,hv,r⟩:=h.at (adC ht);refine#[v,dQ hv,?_];unfold eU;rw[adB,adC ht];exact r
theorem Dt(h:t<n):jZ n (t:Int)=U t:=by unfold jZ;rw[if_pos (by lia),if_pos (by lia),aep]
theorem Du{P:Nat->(Nat->Option P2)->Prop}{H:Hp}{a b l:adK}{n i:Nat}{zs:List V}{ts:List (Option P2)}{H1:Hp}{v:V}{x:Option P2}{t:Nat}{d1 d2 d3:Option V}(eG:H l=O)(s:ai H H1)(hl:H1 l=U (.lst zs))(hz:ay (eX H1) zs ts)(hlen:ts.length=n+1)(hv:eX H1 v x)(ht:t<n+1)(hP:P i (lr (eU ts) t x)):pZ P H a b l n i [U (.ref a),U (.ref b),U (.ref l),d1,d2,d3] (upd H1 l (.lst (zs.set t v))) :=
 #[zs.set t v,ts.set t x,d1,d2,d3,Y,ir eG s,au,(ay.MC hv t hz).imp λy y r=>r.put hl,by rw[ajn];exact hlen,by rw[Uc (by lia)];exact hP]
theorem aak(n:Nat):nG ((n:Int)-1) (-1) (-1)=n:=by unfold nG aeA;simp only[show ¬ ((-1:Int) > 0) by lia,if_false,show (- (-1:Int))=1 by lia,al2];split<;>lia
theorem aal(T:aC):aV 2 T.Xn aaj:=by
 refine bD pG ?_;rintro z z z z H z Q z hr ⟨a,b,xs,ys,ps,ms,rfl,hS,hP,hT,hM,aA,hn,hm,ht,q⟩;refine#[_,(aq (tT (i:=2) (cO [] []) Y pG.nd Y Y (jm Y T.eV (ae (aE a8 (cY T.cS (ae (aa 0) ah)) ag) ah)) (λC s2 H2 ex pn=>#[dH,bI])) (aq (eM aem Y (AD Y T.yw (ae (aa 1) ah)) (lX Y (eY (df 3 pG.nd) (eY (df 4 pG.nd) lV))) (aw (aG (iF (ar (ar (aa 4) ag) ag)) (aw (zG (aF (Ds T) hr (ae (ar (aa 2) (ar (aa 4) ag)) (ae (aP (ae (ar (ar (aa 4) ag) ag) (ae (aa 3) ah))) ah))) (zF (aa 2) (ar (aa 4) ag) set_list))) aH))) (aq (eM aem Y (jm Y T.eV (ae (cY T.cS (ae (aa 0) ah)) ah)) (df 5 pG.nd) (aw (zG (aF (Ds T) hr (ae (ar (aa 2) (aE a8 (aa 5) ag)) (ae (aF (MB T) hr (ae (ar (aa 2) (aa 5)) (ae (ar (ar (aa 0) (aa 5)) ag) ah))) ah))) (zF (aa 2) (aE a8 (aa 5) ag) set_list)))) (aq (eM aem Y (RT Y T.eV (ae (aE cf (cY T.cS (ae (aa 0) ah)) ag) (ae (iP i3 ag) (ae (iP i3 ag) ah)))) (df 5 pG.nd) (aw (zG (aF (Ds T) hr (ae (ar (aa 2) (aa 5)) (ae (aF (MB T) hr (ae (ar (aa 2) (aE a8 (aa 5) ag)) (ae (iP i3 (ar (ar (aa 0) (aa 5)) ag)) ah))) ah))) (zF (aa 2) (aa 5) set_list)))) (aw (aB (aa 2))))))),?_];have l1:=hP.len;have l2:=hM.len;refine aD (λG H1=>∃ l,G=[U (.ref a),U (.ref b),U (.ref l),O,O,O]/\ai H H1/\H l=O/\H1 l=U (.lst (afS (ps.length+1) .non))) (λN hN=>?_) ?_
 .rfl';refine#[_,fg hS,by lia,by lia,?_];rw[l1,show ((ps.length:Int)+1).toNat=ps.length+1 by lia];refine cX iT (by rw[adA,adO];exact adG (by lia:_<=901) (by decide)) (wY (p:=λz=>true) (f:=λz=>.non) trivial (λx z Q h=>?_) (λx z z Q h=>?_) ?_)
  .exact h
  .exact h
  rw[ad4,filter_tt];intro l hl;refine hN _ _ #[l,Y,ao hl,hl,?_];rw[au]
  congr 2
  refine agq λk=>?_;rw[adR,adR,af3];by_cases hk:k<ps.length+1
  .rw[aex hk,if_pos hk];rfl
  .rw[aeD (by rw[adO];lia),if_neg hk];rfl
 rintro z yR G H1 ⟨l,rfl,s1,eG,gE⟩;subst yR;refine aD (pZ (T1 ps ms) H a b l ps.length ms.length) (λN hN=>?_) ?_
 .rfl';refine#[#[_,s1.seq hT],AH (xs:=ys) (pZ (T1 ps ms) H a b l ps.length) #[_,afS (ps.length+1) O,_,_,_,Y,s1,gE,?_,by rw[ahn],by rw[Ud];exact T1.nil] ?_ ?_ ?_]
  .have:∀ k,ay (eX H1) (afS k .non) (afS k O):=λk=>by
    induction k with
    | zero=>exact trivial
    | succ k ih=>exact#[Y,ih]
   exact this _
  .rintro i G H2 z ⟨z,z,z,z,z,z,s2,z⟩;exact s2.seq hT
  .rintro i x G H2 p hx ⟨zs,ts,d1,d2,d3,rfl,s2,bb,hz,iL,si⟩ hp;obtain⟨m,p8,tp,sp,rfl,h1,h2⟩:=hM.get hx;have l8:=ht m (ad3 p8);have up:=ao (o:=.tup [.int i,.ref tp]) hp;refine oV (ak.of au) ?_;generalize upd H2 p (.tup [.int i,.ref tp])=H3 at up ⊢;have s3:=s2.trans up;have g1:=s3 _ _ h1;have g2:=s3 _ _ h2;have eI:=up _ _ bb;have eJ:=hz.imp λz z r=>r.same up;obtain⟨mt,lo,hi⟩:=m;refine aQ g1 (aQ g2 ?_);cases hi with
   | none =>
    exact#[zs,ts,_,_,_,Y,s3,eI,eJ,iL,si.skip p8 Y]
   | some h =>
    rfl';obtain⟨v,hv,rv⟩:=sf eJ (t:=mt) (by dsimp only at l8;lia);refine az (ak.of g1) Y (bR (aj.of eI) hv (aQ g1 (aQ g2 ?_)));rfl';refine#[aY,λt1 mW=>?_];have ut:=ao (o:=.tup [.int h,.int i]) mW;have S4:=s3.trans ut;refine#[v,.ref t1,_,U (h,(i:Int)),Y,rv.same ut,#[t1,Y,au],λy hy z=>?_];refine aQ (ut _ _ g1) ?_;exact#[zs,_,Y,ut _ _ eI,mt,Dt (by rw[hz.len,iL];dsimp only at l8;lia),Du eG S4 (ut _ _ eI) (eJ.imp λz z r=>r.same ut) iL hy (by dsimp only at l8;lia) (si.put p8 Y)]
  .rintro G H2 h;rw[l2] at h;exact hN _ _ h
 rintro z yR G H2 h2;subst yR;refine aD (pZ (T2 ps ms) H a b l ps.length ps.length) (λN hN=>?_) ?_
 .obtain⟨zs,ts,d1,d2,d3,rfl,s2,bb,hz,iL,si⟩:=h2;rfl';refine#[_,fg (s2.seq hS),?_];rw[l1];refine#[by lia,by lia,?_];rw[aep];refine qF (pZ (T2 ps ms) H a b l ps.length) #[zs,ts,d1,d2,d3,Y,s2,bb,hz,iL,si.two] ?_ (λG H3 h=>hN _ _ h);rintro i G H3 hi ⟨zs,ts,d1,d2,d3,rfl,s3,eI,eJ,iL,Dv⟩;have zl:=eJ.len;obtain⟨v,hv,rv⟩:=sf eJ (t:=i+1) (by lia);obtain⟨u,hu,ru⟩:=sf eJ (t:=i) (by lia);obtain⟨w,hw,tw,rfl,vB⟩:=hP.at (Dq hi);rfl';rw[show (0:Int)+(i:Int)=((i:Nat):Int) by lia,show ((i:Nat):Int)+1=((i+1:Nat):Int) by lia];refine bR (aj.of eI) hv (bR (aj.of eI) hu (bR (s3.seq hS) (dQ hw) (aQ (s3 _ _ vB) ?_)));refine#[u,_,_,Y,ru,λy H4 s4 hy=>?_];refine#[v,y,_,_,Y,rv.same s4,hy,λz Dw z=>?_];exact#[zs,s4 _ _ eI,i+1,Dt (by lia),Du eG (s3.trans s4) (s4 _ _ eI) (eJ.imp λz z r=>r.same s4) iL Dw (by lia) (Dv.step aA ht hi)]
 rintro z yR G H3 h3;subst yR;refine aD (pZ (λi=>T3 ps ms (ps.length-i)) H a b l ps.length ps.length) (λN hN=>?_) ?_
 .obtain⟨zs,ts,d1,d2,d3,rfl,s2,bb,hz,iL,si⟩:=h3;rfl';refine#[_,fg (s2.seq hS),?_];rw[l1,aak];refine#[by lia,by lia,RW (pZ (λi=>T3 ps ms (ps.length-i)) H a b l ps.length) #[zs,ts,d1,d2,d3,Y,s2,bb,hz,iL,si.three] ?_ (λG H3 h=>hN _ _ h)];rintro i G H3 hi ⟨zs,ts,d1,d2,d3,rfl,s3,eI,eJ,iL,yP⟩;have zl:=eJ.len;obtain⟨j,hj⟩:∃ j,ps.length=j+1+i:=#[ps.length-1-i,by lia]
  obtain⟨v,hv,rv⟩:=sf eJ (t:=j+1) (by lia);obtain⟨u,hu,ru⟩:=sf eJ (t:=j) (by lia);obtain⟨w,hw,tw,rfl,vB⟩:=hP.at (Dq (ps:=ps) (i:=j) (by lia));rfl';rw[show (ps.length:Int)-1+(i:Int) * -1=((j:Nat):Int) by lia,show ((j:Nat):Int)+1=((j+1:Nat):Int) by lia];refine bR (aj.of eI) hu (bR (aj.of eI) hv (bR (s3.seq hS) (dQ hw) (aQ (s3 _ _ vB) ?_)));refine#[v,_,_,Y,rv,λy H4 s4 hy=>?_];refine#[u,y,_,_,Y,ru.same s4,hy,λz Dw z=>?_];refine#[zs,s4 _ _ eI,j,Dt (by lia),Du eG (s3.trans s4) (s4 _ _ eI) (eJ.imp λz z r=>r.same s4) iL Dw (by lia) ?_];show T3 ps ms (ps.length-(i+1)) _;rw[show ps.length-(i+1)=j by lia];have yP:T3 ps ms (ps.length-i) (eU ts):=yP;rw[show ps.length-i=j+1 by lia] at yP;exact yP.step aA ht (by lia)
 rintro z yR G H4 ⟨zs,ts,d1,d2,d3,rfl,s4,Dm,pY,iL,MD⟩;subst yR;rw[ajx] at MD;exact q l zs ts H4 s4 eG Dm pY iL MD.tops
inductive aam(vs:List V)(H:Hp)(Q:VK)(aO:XK):Prop
 | mk(a b:adK)(zs ys:List V)(ts:List (Option P2))(ms:List Mk)(_:vs=[.ref a,.ref b])(_:aj K H a zs)(_:ay (eX H) zs ts)(_:aj K H b ys)(_:ay (fA H) ys ms)(_:(∀ m∈ms,m.1<ts.length))(_:(uk ms (eU ts)->∀ H',ai H H'->Q .non H'))(_:(∀ (j:Nat) m l v k,ms[j]?=U m->m.2.1=U l->eU ts m.1=U (v,k)->v<l->∀ p H',ai H H'->H p=O->H' p=U (.tup [.int k,.int j])->Q (.ref p) H'))
inductive aan(H:Hp)(a b:adK)(ts:List (Option P2))(ms:List Mk)(i:Nat)(G:St)(H1:Hp):Prop
 | mk(e1 e2 e3:Option V)(_:G=[U (.ref a),U (.ref b),e1,e2,e3])(_:ai H H1)(_:uk (ms.take i) (eU ts))
theorem aao(T:aC):aV 1 T.Xo aam:=by
 refine bD uP ?_;rintro _ _ _ _ H _ _ _ _ ⟨a,b,zs,ys,ts,ms,rfl,hA,hZ,hT,hM,ht,q0,q⟩;refine#[_,(aq (eM aem Y (AD Y T.yw (ae (aa 1) ah)) (lX Y (eY (df 2 uP.nd) (eY (df 3 uP.nd) lV))) (aq (aJ 4 uP.nd (ar (aa 0) (ar (aa 3) ag))) (aw (aG (PW.pt (jg (iF (aa 4)) (jg (iF (ar (ar (aa 3) ag) ag)) (jX (rK (ar (ar (aa 3) ag) ag) (ar (aa 4) ag)))))) (aw (aB (aP (ae (ar (aa 4) ag) (ae (aa 2) ah))))) aH)))) (aw (aB bI))),?_];have l1:=hZ.len;have l2:=hM.len;rfl';refine#[#[_,hT],AH (xs:=ys) (aan H a b ts ms) #[_,_,_,Y,ai.refl _,λm h=>by simp at h] ?_ ?_ ?_]
 .rintro i G H2 _ ⟨_,_,_,_,s2,_⟩;exact s2.seq hT
 .rintro i x G H2 p hx ⟨d1,d2,d3,rfl,s2,b5⟩ hp;obtain⟨m,p8,tp,sp,rfl,h1,h2⟩:=hM.get hx;have l8:=ht m (ad3 p8);have up:=ao (o:=.tup [.int i,.ref tp]) hp;refine oV (ak.of au) ?_;generalize upd H2 p (.tup [.int i,.ref tp])=H3 at up ⊢;have s3:=s2.trans up;have g1:=s3 _ _ h1;have g2:=s3 _ _ h2;have next:(∀ l v k,m.2.1=U l->eU ts m.1=U (v,k)->l<=v)->uk (ms.take (i+1)) (eU ts):=λhh n hn=>by
   rw[aeQ,p8] at hn;rcases aec.mp hn with z|z
   .exact b5 n z
   .obtain rfl:n=m:=by simpa using z
    exact hh
  obtain⟨v,hv,rv⟩:=sf hZ l8;obtain⟨mt,lo,hi⟩:=m;refine az (ak.of g1) Y (bR (s3.seq hA) hv ?_);cases et:eU ts mt with
  | none =>
   rw[show eU ts (mt,lo,hi).1=O from et] at rv;obtain rfl:v = .non:=rv;exact#[_,_,_,Y,s3,next λl v k _ e=>by rw[show eU ts (mt,lo,hi).1=O from et] at e;cases e]
  | some q2 =>
   obtain⟨w,k⟩:=q2;rw[show eU ts (mt,lo,hi).1=U (w,k) from et] at rv;obtain⟨rt,rfl,hrt⟩:=rv;rfl';refine aQ g1 (aQ g2 ?_);cases lo with
   | none =>
    exact#[_,_,_,Y,s3,next λl v k e _=>by cases e]
   | some l =>
    refine aQ g1 (aQ g2 (aQ (s3 _ _ hrt) ?_));refine aU (λhc=>?_) λhc=>?_
    .exact az (ak.of (s3 _ _ hrt)) Y #[aY,λr dk=>q i _ l w k p8 Y et hc r _ (s3.trans (ao dk)) (s3.free dk) au]
    .exact#[_,_,_,Y,s3,next λl' v' k' e1 e2=>by
      cases e1;rw[show eU ts (mt,U l,hi).1=U (w,k) from et] at e2;cases e2;lia]
 .rintro G H2 ⟨d1,d2,d3,rfl,s2,b5⟩;rw[l2,aeN] at b5;exact q0 b5 _ s2
inductive d9(H:Hp)(v:V)(c:Cl):Prop
 | mk(t a b:adK)(_:v = .ref t)(_:H t=U (.tup [.ref a,.ref b]))(_:H a=U (.tup [ev c.1.1,.int c.1.2]))(_:H b=U (.tup [ev c.2.1,.int c.2.2]))
theorem d9.same(h:d9 H v r)(s:ai H H'):d9 H' v r:=let ⟨t,a,b,e,h1,h2,h3⟩:=h;#[t,a,b,e,s _ _ h1,s _ _ h2,s _ _ h3]
theorem d9.put(h:d9 H v r)(hl:H l=U (.lst ys)):d9 (upd H l o) v r:=by
 obtain⟨t,a,b,e,h1,h2,h3⟩:=h;have nl:∀ (z:adK) (vs:List V),H z=U (.tup vs)->z≠l:=λz vs e1 e2=>by rw[e2,hl] at e1;cases e1
 exact#[t,a,b,e,by rw[aK (nl _ _ h1)];exact h1,by rw[aK (nl _ _ h2)];exact h2,by rw[aK (nl _ _ h3)];exact h3]
theorem aap(h:eX H v o)(hl:H l=U (.lst ys))(k:∀ b o,b≠l->H b=U o->H' b=U o):eX H' v o:=by
 cases o with
 | none=>exact h
 | some p =>
  obtain⟨t,e,a⟩:=h;exact#[t,e,k _ _ (λz=>by rw[z,hl] at a;cases a) a]
inductive sk(ps:List P2)(gs:List Gp)(i j:Nat)(H:Hp)(l:adK):Prop
 | mk(zs:List V)(cs:List Cl)(_:H l=U (.lst zs))(_:ay (d9 H) zs cs)(_:cs.length<=8 * i+j)(_:xT ps gs cs)(_:∀ i' j' g h,gs[i']?=U g->gs[j']?=U h->(i'<i∨(i'=i/\j'<j))->lz ps g h cs)
theorem sk.same(h:sk ps gs i j H l)(s:ai H H'):sk ps gs i j H' l:=let ⟨zs,cs,a,b,c1,c2,c3⟩:=h;#[zs,cs,s _ _ a,b.imp λy y x=>x.same s,c1,c2,c3]
inductive aaq(vs:List V)(H:Hp)(Q:VK)(aO:XK):Prop
 | mk(a b:adK)(xs ys:List V)(ps:List P2)(gs:List Gp)(_:vs=[.ref a,.ref b])(_:aj K H a xs)(_:iu H xs ps)(_:fM ps)(_:ps.length<=900)(_:aj K H b ys)(_:ay (rZ H) ys gs)(_:gs.length<=8)(_:(∀ g∈gs,g.2.length<=1000/\∀ m∈g.2,m.1<=ps.length))(_:∀ l zs cs H',ai H H'->H l=O->H' l=U (.lst zs)->ay (d9 H') zs cs->cs.length<=64->xT ps gs cs->(∀ g∈gs,∀ h∈gs,lz ps g h cs)->Q (.ref l) H')
inductive ME(H:Hp)(a b l:adK)(ps:List P2)(gs:List Gp)(i:Nat)(G:St)(H1:Hp):Prop
 | mk(e1 e2 e3 e4 e5 e6:Option V)(_:G=[U (.ref a),U (.ref b),U (.ref l),e1,e2,e3,e4,e5,e6])(_:ai H H1)(_:sk ps gs i 0 H1 l)
inductive clN(H H0:Hp)(a b l:adK)(nm mk tp:V)(ps:List P2)(gs:List Gp)(i j:Nat)(G:St)(H1:Hp):Prop
 | mk(e4 e5 e6:Option V)(_:G=[U (.ref a),U (.ref b),U (.ref l),U nm,U mk,U tp,e4,e5,e6])(_:ai H H1)(_:(∀ b o,b≠l->H0 b=U o->H1 b=U o))(_:sk ps gs i j H1 l)
theorem aar(T:aC):aV 3 T.Xt aaq:=by
 refine bD mS ?_;rintro u u u u H u u u hr ⟨a,b,xs,ys,ps,gs,rfl,hS,hP,aA,hn,hG,hA,h7,hm,q⟩;refine#[_,(aq (aJ 2 mS.nd (cE ah)) (aq (eM aem Y (dX (aa 1)) (lX Y (eY (df 3 mS.nd) (eY (df 4 mS.nd) lV))) (aq (aJ 5 mS.nd (aF (aal T) hr (ae (aa 0) (ae (aa 4) ah)))) (aw (eM aem Y (dX (aa 1)) (lX Y (eY (df 6 mS.nd) (eY (df 7 mS.nd) lV))) (aq (aJ 8 mS.nd (aF (aao T) hr (ae (aa 5) (ae (aa 7) ah)))) (aw (aG (iF (aa 8)) (aw (dq (kU aet afn afo tM (aa 2) (ae (aP (ae (aP (ae (aa 3) (ae (ar (ar (aa 4) (ar (aa 8) ag)) ag) ah))) (ae (aP (ae (aa 6) (ae (ar (ar (aa 7) (ar (aa 8) ag)) ag) ah))) ah))) ah)))) aH))))))) (aw (aB (aa 2))))),?_];have yl:=hA.len;refine aD (λG H1=>∃ l,G=[U (.ref a),U (.ref b),U (.ref l),O,O,O,O,O,O]/\ai H H1/\H l=O/\H1 l=U (.lst [])) (λN hN=>?_) ?_
 .exact#[by decide,λl hl=>hN _ _ #[l,Y,ao hl,hl,au]]
 rintro u yR G H1 ⟨l,rfl,s1,fl,hl⟩;subst yR;refine aD (λG H2=>ME H a b l ps gs ys.length G H2) (λN hN=>?_) ?_
 .rfl';refine#[#[_,s1.seq hG],l5 (xs:=ys) (ME H a b l ps gs) #[_,_,_,_,_,_,Y,s1,[],[],hl,trivial,ad6 _,λu h=>(nomatch h),λu u u u u u h=>by lia] ?_ ?_ (λG H' h=>hN _ _ h)]
  .rintro i G H2 u ⟨u,u,u,u,u,u,u,s2,u⟩;exact s2.seq hG
  .rintro i x G H2 hx ⟨u,u,u,u,u,u,rfl,s2,h2⟩;obtain⟨r,hr,gg,k,zs,rfl,h3,h4,h5⟩:=hA.get hx;have Dx:=hm r (ad3 hr);refine oV (ak.of (s2 _ _ h3)) ?_;refine#[a,k,xs,zs,ps,r.2,Y,s2.seq hS,hP.same s2,aj.of (s2 _ _ h4),h5.imp λu u x=>x.same s2,aA,hn,Dx.1,Dx.2,λtp us ts H3 s3 MF nC hts iL TT=>?_];have S3:=s2.trans s3;rfl';refine#[#[_,S3.seq hG],l5 (xs:=ys) (clN H H3 a b l (ev r.1) (.ref k) (.ref tp) ps gs i) #[_,_,_,Y,S3,λu u u e=>e,h2.same s3] ?_ ?_ ?_]
   .rintro j G H4 u ⟨u,u,u,u,s4,u,u⟩;exact s4.seq hG
   .rintro j y G H4 hy ⟨u,u,u,rfl,s4,b4,ws,cs,h6,qb,h8,h9,sq⟩;obtain⟨r',jP,gg',k',zs',rfl,g3,g4,g5⟩:=hA.get hy;have Dy:=hm r' (ad3 jP);obtain⟨ls,u,hls,u⟩:=h2;have tpl:tp≠l:=λz=>by rw[z,hls] at MF;cases MF
    have ht4:=b4 _ _ tpl nC;have pY:=hts.imp λu u x=>aap x (s3 _ _ hls) b4;have ou:∀ yQ:List Cl,(∀ i' j' g h,gs[i']?=U g->gs[j']?=U h->(i'<i∨(i'=i/\j'<j))->lz ps g h yQ)->lz ps r r' yQ->∀ i' j' g h,gs[i']?=U g->gs[j']?=U h->(i'<i∨(i'=i/\j'<j+1))->lz ps g h yQ:=λyQ h11 h12 i' j' g h a1 a2 a3=>by
     by_cases hz:i'=i/\j'=j
     .obtain⟨rfl,rfl⟩:=hz;rw[hr] at a1;rw[jP] at a2;cases a1;cases a2;exact h12
     .exact h11 i' j' g h a1 a2 (by lia)
    refine oV (ak.of (s4 _ _ g3)) ?_;refine#[tp,k',us,zs',ts,r'.2,Y,aj.of ht4,pY,aj.of (s4 _ _ g4),g5.imp λu u x=>x.same s4,λm dJ=>by have:=Dy.2 m dJ;lia,λb5 H5 s5=>?_,λjj m lo v kk e1 e2 e3 e4 p H5 s5 fp hp=>?_]
    .exact#[_,_,_,Y,s4.trans s5,λb o hb e=>s5 _ _ (b4 b o hb e),sk.same #[ws,cs,h6,qb,by lia,h9,ou cs sq λm m1 n n1 hc=>absurd hc (Vy TT Dx.2 Dy.2 b5 m1 n1)] s5]
    .obtain⟨i',a',rfl,c8,hc⟩:=TT.clash (Dy.2 m (ad3 e1)) e3 e2 e4;have vA:=s5 _ _ h6;have S5:=s4.trans s5;obtain⟨v1,Bs,t1,w1,rfl,m1,u⟩:=(h5.imp λu u x=>fA.same x S5).at c8;obtain⟨v2,Bu,t2,w2,rfl,m2,u⟩:=(g5.imp λu u x=>fA.same x S5).at e1;rfl';refine#[.inl #[Y,_,aj.of vA],az (ak.of hp) (v:=.int i') Y (bR (aj.of (S5 _ _ h4)) (dQ Bs) (az (ak.of m1) (v:=.int a'.1) Y #[aY,λp1 cK=>?_]))];have u1:=ao (o:=.tup [ev r.1,.int a'.1]) cK;refine az (ak.of (u1 _ _ hp)) (v:=.int jj) Y (bR (aj.of (u1 _ _ (S5 _ _ g4))) (dQ Bu) (az (ak.of (u1 _ _ m2)) (v:=.int m.1) Y #[aY,λp2 dZ=>#[aY,λp3 mX=>?_]]));have u2:=ao (o:=.tup [ev r'.1,.int m.1]) dZ;have u3:=ao (o:=.tup [.ref p1,.ref p2]) mX;have U9q:=u1.trans (u2.trans u3);have Dz:=U9q _ _ vA;have cq:d9 (upd (upd (upd H5 p1 (.tup [ev r.1,.int a'.1])) p2 (.tup [ev r'.1,.int m.1])) p3 (.tup [.ref p1,.ref p2])) (.ref p3) ((r.1,a'.1),(r'.1,m.1)):=#[p3,p1,p2,Y,au,u3 _ _ (u2 _ _ au),u3 _ _ au]
     have wl:ws.length<=100:=by have e8:=qb.len;have b1:=(adI.mp hr).1;have b2:=(adI.mp jP).1;lia
     refine#[ws,Dz,aeR wl (by decide),_,_,_,Y,ir fl (S5.trans U9q),λb o hb e=>by rw[aK hb];exact U9q _ _ (s5 _ _ (b4 b o hb e)),_,cs++[((r.1,a'.1),(r'.1,m.1))],au,ay.app (qb.imp λu u x=>(x.same (s5.trans U9q)).put Dz) #[cq.put Dz,trivial],by rw[adT,aea];lia,λc v5=>?_,ou _ (λi' j' g h a1 a2 a3=>(sq i' j' g h a1 a2 a3).more) λu u u u u=>#[_,ad9 _ (.head _),Y,Y]];rcases aec.mp v5 with z|z
     .exact h9 c z
     .rw[ad8.mp z];exact#[r,ad3 hr,r',ad3 jP,a',ad3 c8,m,ad3 e1,Y,hc]
   .rintro G H4 ⟨u,u,u,rfl,s4,u,ws,cs,h6,qb,h8,h9,sq⟩;exact#[_,_,_,_,_,_,Y,s4,ws,cs,h6,qb,by lia,h9,λi' j' g h a1 a2 a3=>sq i' j' g h a1 a2 (by have:=(adI.mp a2).1;lia)]
 rintro u yR G H2 ⟨u,u,u,u,u,u,rfl,s2,ws,cs,h6,qb,h8,h9,sq⟩;subst yR;exact q l ws cs H2 s2 fl h6 qb (by lia) h9 λg hg h hh=>by obtain⟨i',c8⟩:=aeE.mp hg;obtain⟨j',AO⟩:=aeE.mp hh;exact sq i' j' g h c8 AO (.inl (by have:=(adI.mp c8).1;lia))
theorem MG(h:Q (!decide (o=U e))):neT (.int e) (ev o) Q:=by
 cases o with
 | none=>exact h
 | some x =>
  show if ¬ e=x then Q true else Q false
  by_cases z:e=x
  .subst z;rw[if_neg (λh=>h Y)];simpa using h
  .rw[if_pos z];have:(U x:En)≠U e:=λh=>z (Option.some.inj h).symm;simpa [this] using h
theorem MH(h:Q (decide (o=o'))):eqT (ev o) (ev o') Q:=by
 cases o with
 | none=>cases o'<;>exact h
 | some x =>
  cases o' with
  | none=>exact h
  | some y =>
   show if x=y then Q true else Q false
   by_cases z:x=y
   .subst z;rw[if_pos Y];simpa using h
   .rw[if_neg z];have:(U x:En)≠U y:=λh=>z (Option.some.inj h);simpa [this] using h
inductive aas(H:Hp)(v:V)(s:En × Nat):Prop
 | mk(r:adK)(_:v = .ref r)(_:H r=U (.tup [ev s.1,.int s.2]))
theorem ay.ints(h:ay (λv (n:Int)=>v=V.int n) zs ns):zs=ns.map V.int:=by
 induction zs generalizing ns with
 | nil=>cases ns with|nil=>rfl|cons _ _=>exact h.elim
 | cons z zs ih=>cases ns with
  | nil=>exact h.elim
  | cons n ns=>rw[adU,<- ih h.2,h.1]
theorem MI:∀ {xs ys:List Int},xs.Nodup->(∀ x∈xs,x∈ys)->xs.length<=ys.length
 | [],_,_,_=>ad6 _
 | x::xs,ys,h,k=>by obtain⟨h1,h2⟩:=aeB.mp h;have hx:=k x (.head _);have ih:=MI (ys:=ys.erase x) h2 λy hy=>(ajI (λz=>h1 (by rw[<- z];exact hy))).mpr (k y (.tail _ hy));rw[aiG hx] at ih;have:=ajf hx;rw[aeg];lia
inductive aat(vs:List V)(H:Hp)(Q:VK)(aO:XK):Prop
 | mk(l:adK)(e:Int)(zs:List V)(cs:List Cl)(_:vs=[.ref l,.int e])(_:H l=U (.lst zs))(_:ay (d9 H) zs cs)(_:cs.length<=64)(_:∀ r ys H',ai H H'->H r=O->H' r=U (.lst ys)->ay (d9 H') ys (wo e cs)->Q (.ref r) H')
theorem MJ(T:aC):aV 1 T.pO aat:=by
 refine bD Lp ?_;rintro y y y y H y Q y hr ⟨l,e,zs,cs,rfl,hl,hC,hn,q⟩;refine#[_,(aw (aB (dz (cO [1] [fQ]) Y (dX (aa 0)) (λC s2 H2 ex pn=>#[(mf (PW.pt (jg (nR (aa 1) (cu (K:=K) (cu (K:=K) (aa 0) ag) ag)) (jX (nR (aa 1) (cu (K:=K) (cu (K:=K) (aa 0) ag) ag)))))),(aa 0)])))),?_];have zl:=hC.len;rfl';refine#[#[_,aj.of hl],cX kf (adG (by lia:zs.length<=64) (by decide)) (rj (R:=d9 H) (R':=d9 H) (p:=λc=>!iZ e c) (f:=λc=>c) (aj.of hl) hC (λx c r Q h=>?_) (λx c hp r Q h=>?_) λys hy=>?_)]
 .obtain⟨t,a,b,rfl,h1,h2,h3⟩:=r;refine az (ak.of h1) (v:=.ref a) Y (az (ak.of h2) (v:=ev c.1.1) Y (MG ?_));unfold iZ at h;by_cases z:c.1.1=U e
  .rw[decide_eq_true z] at h ⊢;exact h
  .rw[decide_eq_false z] at h ⊢;refine az (ak.of h1) (v:=.ref b) Y (az (ak.of h3) (v:=ev c.2.1) Y (MG ?_));exact h
 .exact h _ r
 .rw[ad4];intro r hr;rw[al6] at hy;exact q r ys _ (ao hr) hr au (hy.imp λy y x=>x.same (ao hr))
inductive aau(vs:List V)(H:Hp)(Q:VK)(aO:XK):Prop
 | mk(v:V)(c:Cl)(_:vs=[v])(_:d9 H v c)(_:∀ l (es:List Int) H',ai H H'->H l=O->H' l=U (.lst (es.map V.int))->(∀ e,e∈es↔iZ e c=true)->es.length<=2->Q (.ref l) H')
theorem aav(T:aC):aV 1 T.yk aau:=by
 refine bD Lq ?_;rintro y y y s H y Q y hr ⟨v,c,rfl,⟨t,a,b,rfl,h1,h2,h3⟩,q⟩;refine#[_,(aw (aB (Vc Y (dz (cO [] []) Y (zJ (aa 0)) (λC s2 H2 ex pn=>#[(mf (iF (cu (K:=K) (aa 0) ag))),(cu (K:=K) (aa 0) ag)])) (by rfl) T.LQ FZ (by rfl) T.LP Jl))),?_];rfl';refine#[#[_,ak.of h1],cX (xs:=[.ref a,.ref b]) GQ aY (rj (R:=aas H) (R':=λv (n:Int)=>v=V.int n) (p:=λs=>s.1.isSome) (f:=λs=>s.1.getD 0) (as:=[c.1,c.2]) (ak.of h1) #[#[a,Y,h2],#[b,Y,h3],trivial] (λx s r Q h=>?_) (λx s hp r Q h=>?_) λzs hz=>?_)]
 .obtain⟨r,rfl,h4⟩:=r;refine az (ak.of h4) (v:=ev s.1) Y ?_;cases hs:s.1 with
  | none=>rw[hs] at h;exact h
  | some x=>rw[hs] at h;exact h
 .obtain⟨r,rfl,h4⟩:=r;refine az (ak.of h4) (v:=ev s.1) Y (h _ ?_);cases hs:s.1 with
  | none=>rw[hs] at hp;cases hp
  | some x=>rfl
 .rw[ad4];intro l hl;rw[ay.ints hz];have u1:=ao (o:=.lst ((([c.1,c.2].filter λs=>s.1.isSome).map λs=>s.1.getD 0).map V.int)) hl;have hn:(([c.1,c.2].filter λs=>s.1.isSome).map λs=>s.1.getD 0).length<=2:=by rw[adA];exact aen _ _
  have hi:∀ e,e∈(([c.1,c.2].filter λs=>s.1.isSome).map λs=>s.1.getD 0)↔iZ e c=true:=λe=>by
   rw[pd];constructor
   .intro h;obtain⟨s,hs,rfl⟩:=adP.mp h;obtain⟨m1,m2⟩:=ael.mp hs;obtain⟨x,hx⟩:=agJ.mp m2;rw[hx];rcases adL.mp m1 with rfl|m1
    .exact .inl hx
    .rw[ad8.mp m1] at hx;exact .inr hx
   .rintro (h|h)
    .exact adP.mpr #[c.1,ael.mpr #[.head _,by rw[h];rfl],by rw[h];rfl]
    .exact adP.mpr #[c.2,ael.mpr #[.tail _ (.head _),by rw[h];rfl],by rw[h];rfl]
  refine#[l,Y,_,aj.of au,by lia,λws nd mem y r hr=>?_];exact q r ws _ (u1.trans (ao hr)) (u1.free hr) au (λe=>(mem e).trans (hi e)) (adG (MI nd λx hx=>(mem x).mp hx) hn)
inductive MK(N:Nat)(vs:List V)(H:Hp)(Q:VK)(aO:XK):Prop
 | mk(l:adK)(zs:List V)(cs:List Cl)(n:Nat)(_:vs=[.ref l,.int n])(_:n<N)(_:n<=7)(_:H l=U (.lst zs))(_:ay (d9 H) zs cs)(_:cs.length<=64)(_:(∀ H',ai H H'->iR (n+1) cs->Q .non H'))(_:∀ r (es:List Int) H',ai H H'->H r=O->H' r=U (.lst (es.map V.int))->uA es cs->es.length<=n->Q (.ref r) H')
inductive cJ(H:Hp)(l:adK)(n:Nat)(cs:List Cl)(es:List Int)(i:Nat)(G:St)(H1:Hp):Prop
 | mk(e1 e2:Option V)(_:G=[U (.ref l),U (.int ((n+1:Nat):Int)),e1,e2])(_:ai H H1)(_:∀ e∈es.take i,iR (n+1) (wo e cs))
theorem aaw(T:aC):∀ N,aV (N+2) T.pP (MK N):=by
 intro N
 induction N with
 | zero =>
  refine okN T.pP.F uQ.1 (λvs H Q E h=>?_) (λbq A outer s H vs Q E hr h=>?_)
  .obtain⟨l,zs,cs,n,rfl,hN,y⟩:=h;exact absurd hN (afj _)
  .obtain⟨l,zs,cs,n,rfl,hN,y⟩:=h;exact absurd hN (afj _)
 | succ N ih =>
  refine okN T.pP.F uQ.1 (λvs H Q E h=>?_) (λbq A outer s H vs Q E hr h=>?_)
  .obtain⟨l,zs,cs,n,rfl,y⟩:=h;rfl
  .obtain⟨l,zs,cs,n,rfl,hN,n7,hl,hC,hn,q0,q⟩:=h;refine#[_,(aq (aG (aW (cY T.cS (ae (aa 0) ah)) ag) (aw (aB (cE ah))) aH) (aq (aG (aW (aa 1) ag) (aw (aB bI)) aH) (aq (eM aem Y (dX (fe (aav T) (hr.mono (by lia)) Y T.yk.m T.yk.F.kp T.yk.b .nil bB (ae (bM bN (aa 0) ag (λy y=>rfl)) ah))) (jh (i:=2) uQ.nd Y (aho Y)) (aq (jY (i:=3) uQ.nd Y (aho Y) (fe ih (hr.mono (by lia)) Y T.pP.m T.pP.F.kp T.pP.b .nil bB (ae (fe (MJ T) (hr.mono (by lia)) Y T.pO.m T.pO.F.kp T.pO.b .nil bB (ae (aa 0) (ae (aa 2) ah))) (ae (aE cf (aa 1) ag) ah)))) (aw (aG (iF (aa 3)) (aw (aB (aE j5 (cE (ae (aa 2) ah)) (aa 3)))) aH)))) (aw (aB bI))))),?_];have zl:=hC.len;cases cs with
   | nil =>
    obtain rfl:zs=[]:=afu.mp zl;rfl';refine#[_,fg (aj.of hl),?_];exact#[by decide,λr hr=>q r [] _ (ao hr) hr au (λc hc=>(nomatch hc)) (ad6 _)]
   | cons c cs =>
    obtain⟨z,zs,rfl⟩:∃ z z',zs=z::z':=by cases zs with|nil=>cases zl|cons z zs=>exact⟨z,zs,rfl⟩
    cases n with
    | zero =>
     rfl';refine#[_,fg (aj.of hl),?_];refine aU (λh0=>absurd h0 (by rw[aeg];lia)) λy=>?_;exact q0 _ (ai.refl _) λy y=>trivial
    | succ n =>
     rfl';refine#[_,fg (aj.of hl),?_];refine aU (λh0=>absurd h0 (by rw[aeg];lia)) λy=>aU (λh0=>absurd h0 (by lia)) λy=>?_;refine bR (aj.of hl) (v:=z) (show dw (z::zs) ((0:Nat):Int)=U z from dQ Y) #[z,c,Y,hC.1,λk es H1 s1 y hk AW Hb=>?_];rfl';refine#[#[_,aj.of hk],l5 (xs:=es.map V.int) (cJ H1 l n (c::cs) es) #[_,_,Y,ai.refl _,λy h=>(nomatch h)] ?_ ?_ ?_]
     .rintro i G H2 y ⟨y,y,rfl,s2,y⟩;exact aj.of (s2 _ _ hk)
     .rintro i x G H2 hx ⟨e1,e2,rfl,s2,b5⟩;rw[adR] at hx;obtain⟨e,he,rfl⟩:=aeh.mp hx;have S2:=s1.trans s2;rfl';refine#[l,e,_,c::cs,Y,S2 _ _ hl,hC.imp λy y x=>x.same S2,hn,λr ys H3 s3 y hr hy=>?_];refine#[r,ys,wo e (c::cs),n,by rw[show (((n+1:Nat):Int)-1)=(n:Int) by lia],by lia,by lia,hr,hy,adG (aen _ _) hn,λH4 s4 h4=>?_,λr2 es2 H4 s4 f4 ij hcv hle=>?_]
      .refine#[_,_,Y,s2.trans (s3.trans s4),λe' q8=>?_];rw[aeQ,he] at q8;rcases aec.mp q8 with z|z
       .exact b5 e' z
       .obtain rfl:e'=e:=by simpa using z
        exact h4
      .rfl';refine#[by decide,λp hp=>#[_,au,_,(ao hp) _ _ ij,adG (by rw[adA,aea];lia:_<=20) (by decide),λp1 cK=>?_]];have W:=s1.trans (s2.trans (s3.trans (s4.trans (ao (o:=.lst [.int e]) hp))));exact q p1 (e::es2) _ (W.trans (ao cK)) (W.free cK) au (VD hcv) (by rw[aeg];lia)
     .rintro G H2 ⟨e1,e2,rfl,s2,b5⟩;refine q0 _ (s1.trans s2) λe he=>b5 e ?_;rw[adA,aeN];exact (AW e).mpr he
def fS(H:Hp):V->Pp->Prop
 | v,.nil=>v = .non
 | v,.full=>∃ r,v = .ref r/\H r=U (.tup [.str "full"])
 | v,.cls c a b=>∃ r p q x y,v = .ref r/\H r=U (.tup [.str "clash",.ref p,.ref q,x,y])/\H p=U (.tup [ev c.1.1,.int c.1.2])/\H q=U (.tup [ev c.2.1,.int c.2.2])/\fS H x a/\fS H y b
theorem fS.same(s:ai H H'):∀ {t:Pp} {v:V},fS H v t->fS H' v t:=by
 intro t
 induction t with
 | nil=>exact λh=>h
 | full=>rintro z ⟨r,e,h⟩;exact#[r,e,s _ _ h]
 | cls _ _ _ i1 i2=>rintro z ⟨r,p,q,x,y,e,h1,h2,h3,h4,h5⟩;exact#[r,p,q,x,y,e,s _ _ h1,s _ _ h2,s _ _ h3,i1 h4,i2 h5]
noncomputable def vC(n:Nat)(cs:List Cl)(o:En):Pp:=match o with|none=>.nil|some e=>nN n (wo e cs)
theorem ML(n:Nat)(c:Cl)(cs:List Cl):nN (n+1) (c::cs) = .cls c (vC n (c::cs) c.1.1) (if c.1.1=c.2.1 then .nil else vC n (c::cs) c.2.1):=rfl
inductive DA(N:Nat)(vs:List V)(H:Hp)(Q:VK)(aO:XK):Prop
 | mk(l:adK)(m:Int)(zs:List V)(cs:List Cl)(n:Nat)(_:vs=[.ref l,.int m])(_:m+1=(n:Int))(_:n<N)(_:H l=U (.lst zs))(_:ay (d9 H) zs cs)(_:cs.length<=64)(_:iR n cs)(_:∀ v H',ai H H'->fS H' v (nN n cs)->Q v H')
inductive aax(N:Nat)(vs:List V)(H:Hp)(Q:VK)(aO:XK):Prop
 | mk(l:adK)(m:Int)(o:En)(zs:List V)(cs:List Cl)(n:Nat)(_:vs=[.ref l,ev o,.int m])(_:m=(n:Int))(_:n<N)(_:H l=U (.lst zs))(_:ay (d9 H) zs cs)(_:cs.length<=64)(_:(∀ e,o=U e->iR n (wo e cs)))(_:∀ v H',ai H H'->fS H' v (vC n cs o)->Q v H')
theorem MM(T:aC)(N:Nat)(ih:aV (2 * N+1) T.nZ (DA N)):aV (2 * N+2) T.nY (aax N):=by
 refine okN T.nY.F Lr.1 (λvs H Q E h=>?_) (λbq A outer s H vs Q E hr h=>?_)
 .obtain⟨l,m,o,zs,cs,n,rfl,y⟩:=h;rfl
 .obtain⟨l,m,o,zs,cs,n,rfl,hm,hN,hl,hC,hn,b5,q⟩:=h;refine#[_,(aw (aB (nq (eh (aa 1)) bI (fe ih (hr.mono (by lia)) Y T.nZ.m T.nZ.F.kp T.nZ.b .nil bB (ae (fe (MJ T) (hr.mono (by lia)) Y T.pO.m T.pO.F.kp T.pO.b .nil bB (ae (aa 0) (ae (aa 1) ah))) (ae (aE cf (aa 2) ag) ah)))))),?_];cases o with
  | none =>
   exact q _ _ (ai.refl _) rfl
  | some e =>
   refine#[l,e,zs,cs,Y,hl,hC,hn,λr ys H1 s1 y cP hy=>?_];exact#[r,_,ys,wo e cs,n,Y,by lia,hN,cP,hy,adG (aen _ _) hn,b5 e Y,λv H2 s2 h2=>q v H2 (s1.trans s2) h2]
theorem aay(T:aC):∀ N,aV (2 * N+1) T.nZ (DA N):=by
 intro N
 induction N with
 | zero =>
  refine okN T.nZ.F pH.1 (λvs H Q E h=>?_) (λbq A outer s H vs Q E hr h=>?_)
  .obtain⟨l,m,zs,cs,n,rfl,hm,hN,y⟩:=h;exact absurd hN (afj _)
  .obtain⟨l,m,zs,cs,n,rfl,hm,hN,y⟩:=h;exact absurd hN (afj _)
 | succ N ih =>
  refine okN T.nZ.F pH.1 (λvs H Q E h=>?_) (λbq A outer s H vs Q E hr h=>?_)
  .obtain⟨l,m,zs,cs,n,rfl,y⟩:=h;rfl
  .obtain⟨l,m,zs,cs,n,rfl,hm,hN,hl,hC,hn,b5,q⟩:=h;refine#[_,(aq (aG (i4 (aa 1) ag) (aw (aB (aP (ae aS ah)))) aH) (aq (jY (i:=2) pH.nd Y (aho Y) (bM bN (bM bN (aa 0) ag (λy y=>rfl)) ag (λy y=>rfl))) (aq (jY (i:=3) pH.nd Y (aho Y) (bM bN (bM bN (aa 0) ag (λy y=>rfl)) ag (λy y=>rfl))) (aq (jY (i:=4) pH.nd Y (aho Y) (fe (MM T N ih) (hr.mono (by lia)) Y T.nY.m T.nY.F.kp T.nY.b .nil bB (ae (aa 0) (ae (bM bN (aa 2) ag (λy y=>rfl)) (ae (aa 1) ah))))) (aq (jY (i:=5) pH.nd Y (aho Y) (nq (aW (bM bN (aa 2) ag (λy y=>rfl)) (bM bN (aa 3) ag (λy y=>rfl))) bI (fe (MM T N ih) (hr.mono (by lia)) Y T.nY.m T.nY.F.kp T.nY.b .nil bB (ae (aa 0) (ae (bM bN (aa 3) ag (λy y=>rfl)) (ae (aa 1) ah)))))) (aw (aB (aP (ae aS (ae (aa 2) (ae (aa 3) (ae (aa 4) (ae (aa 5) ah))))))))))))),?_];have zl:=hC.len;cases n with
   | zero =>
    refine aU (λy=>?_) λh0=>absurd (show m<0 by lia) h0;exact#[by decide,λr hr=>q _ _ (ao hr) #[r,Y,au]]
   | succ n =>
    cases cs with
    | nil=>exact b5.elim
    | cons c cs =>
     obtain⟨z,zs,rfl⟩:∃ z z',zs=z::z':=by cases zs with|nil=>cases zl|cons z zs=>exact⟨z,zs,rfl⟩
     obtain⟨t,a,b,rfl,ht,ha,hb⟩:=id hC.1;have z0:dw (V.ref t::zs) ((0:Nat):Int)=U (.ref t):=dQ rfl;rfl';refine aU (λh0=>absurd h0 (by lia)) λy=>?_;refine bR (aj.of hl) z0 (az (ak.of ht) (v:=.ref a) Y ?_);refine bR (aj.of hl) z0 (az (ak.of ht) (v:=.ref b) Y (az (ak.of ha) (v:=ev c.1.1) Y ?_));refine#[l,m,c.1.1,_,c::cs,n,Y,by lia,by lia,hl,hC,hn,λe he=>b5 e (pd.mpr (.inl he)),λv1 H1 s1 h1=>?_];refine az (ak.of (s1 _ _ ha)) (v:=ev c.1.1) Y (az (ak.of (s1 _ _ hb)) (v:=ev c.2.1) Y (MH ?_));rw[ML] at q;by_cases he:c.1.1=c.2.1
     .rw[decide_eq_true he];rw[if_pos he] at q;refine#[by decide,λp hp=>?_];have u1:=ao (o:=.tup [.str "clash",.ref a,.ref b,v1,.non]) hp;have U9q:=s1.trans u1;exact q _ _ U9q #[p,a,b,v1,_,Y,au,U9q _ _ ha,U9q _ _ hb,h1.same u1,Y]
     .rw[decide_eq_false he];rw[if_neg he] at q;refine az (ak.of (s1 _ _ hb)) (v:=ev c.2.1) Y #[l,m,c.2.1,_,c::cs,n,Y,by lia,by lia,s1 _ _ hl,hC.imp λy y x=>x.same s1,hn,λe he=>b5 e (pd.mpr (.inr he)),λv2 H2 s2 h2=>#[by decide,λp hp=>?_]];have u1:=ao (o:=.tup [.str "clash",.ref a,.ref b,v1,v2]) hp;have U9q:=s1.trans (s2.trans u1);exact q _ _ U9q #[p,a,b,v1,v2,Y,au,U9q _ _ ha,U9q _ _ hb,h1.same (s2.trans u1),h2.same u1]
theorem aaz(T:aC):aV 10 T.pP (MK 8):=aaw T 8
theorem aaA(T:aC):aV 19 T.nZ (DA 9):=aay T 9
noncomputable def br:Pp->Nat
 | .nil=>0
 | .full=>1
 | .cls _ a b=>(if br a<=br b then br b else br a)+1
theorem MN:∀ (n:Nat) (cs:List Cl),br (nN n cs)<=n+1
 | 0,_=>adJ _
 | n+1,[]=>agn _ _
 | n+1,c::cs=>by
  have one:∀ o,br (vC n (c::cs) o)<=n+1:=λo=>by
   cases o with
   | none=>exact ad6 _
   | some e=>exact MN n _
  have two:br (if c.1.1=c.2.1 then .nil else vC n (c::cs) c.2.1)<=n+1:=by
   split
   .exact ad6 _
   .exact one _
  rw[ML];show (if _<=_ then _ else _)+1<=n+1+1;have:=one c.1.1;split<;>lia
inductive DB(G9q H:Hp)(v:V)(sw gw:List W2)(tb:Tb)(mo:Int):Prop
 | ou (r k:adK) (j:Nat) (_:v = .ref r) (_:H r=U (.tup [.str "never",.ref k])) (_:H k=U (.tup [.str "step",.int (j:Int)])) (_:sw[j]?=U O)
 | gol (r k:adK) (j:Nat) (_:v = .ref r) (_:H r=U (.tup [.str "never",.ref k])) (_:H k=U (.tup [.str "at",.int (j:Int)])) (_:gw[j]?=U O)
 | pap (r:adK) (k:V) (t:Pp) (pp:List P2) (gs:List S2) (_:v = .ref r) (_:H r=U (.tup [.str "never",k])) (_:fS H k t) (_:br t<=9) (_:sw=pp.map iE) (_:gw=gs.map U) (_:Val pp gs tb mo t [])
 | may (r k:adK) (cs:List Int) (pp:List P2) (gs:List S2) (es:List Int) (_:v = .ref r) (_:H r=U (.tup [.str "may",.ref k])) (_:H k=U (.lst (cs.map V.int))) (_:G9q k=O) (_:cs.length=gw.length) (_:sw=pp.map iE) (_:gw=gs.map U) (_:jF pp (bV cs)) (_:∀ t s,gs[t]?=U s->b8 s (bV cs t)) (_:(es.length:Int)<=mo) (_:meets (fw tb es) (bV cs))
noncomputable def gM(gs:List S2):List Mk:=(adM gs.length).map λi=>(i,gs.getD i (O,O))
theorem MO{gs:List S2}{i:Nat}{m:Mk}(h:(gM gs)[i]?=U m):m.1=i/\gs[i]?=U m.2:=by
 unfold gM at h;rw[adR] at h;obtain⟨k,hk,rfl⟩:=aeh.mp h;have hi:i<gs.length:=by
  have:=(adI.mp hk).1
  rwa [adO] at this
 rw[aex hi] at hk;cases hk;exact#[Y,by show gs[i]?=U (gs.getD i _);rw[adB,adC hi];rfl]
theorem MP(h:m∈gM gs):m.1<gs.length/\gs[m.1]?=U m.2:=by obtain⟨i,hi⟩:=aeE.mp h;obtain⟨e1,e2⟩:=MO hi;rw[<- e1] at e2;exact#[(adI.mp e2).1,e2]
theorem yS(gs:List S2):(gM gs).length=gs.length:=by unfold gM;rw[adA,adO]
theorem ay.yT:∀ {xs:List V} {as:List α},xs.length=as.length->(∀ (i:Nat) x a,xs[i]?=U x->as[i]?=U a->R x a)->ay R xs as
 | [],[],_,_=>trivial
 | _::_,_::_,h,k=>#[k 0 _ _ Y Y,ay.yT (by simpa using h) λi x a h1 h2=>k (i+1) x a h1 h2]
 | [],_::_,h,_=>by cases h
 | _::_,[],h,_=>by cases h
theorem getD_none{ws:List W2}{j:Nat}(h:j<ws.length)(e:agr (ws.getD j O)=true):ws[j]?=U O:=by
 rw[adB,adC h] at e;rw[adC h];cases hw:ws[j] with
 | none=>rfl
 | some s=>rw[hw] at e;cases e
inductive aaB(B C:adK)(vs:List V)(H:Hp)(Q:VK)(E:XK):Prop
 | mk(x p b:adK)(e t u d m:Int)(xs:List V)(ps:List Pa)(tb:Tb)(_:vs=[.ref x,.ref b])(_:b6 B H x e t u d m p tb)(_:cj e t tb)(_:tb.length<=60)(_:1<=t)(_:t<=12)(_:0<=e)(_:e<=7)(_:0<=m)(_:m<=7)(_:aj K H b xs)(_:da H xs ps)(_:ps.length<=900)(_:(¬ cc t ps->E (.ref C) O H))(_:(cc t ps->∀ v H',ai H H'->DB H H' v (dM u d ps (t-1).toNat) (eW ps t.toNat) tb m->Q v H'))
theorem DC(T:aC):aV 20 T.x_ask (aaB T.aZ T.ig):=by
 refine kA pI ?_;rintro n n n s H vs n n hr ⟨x,p,b,e,t,u,d,m,xs,ps,tb,rfl,hb,hot,gL,t1,t2,e0,e7,m0,m7,hX,hP,hn,Q0,Q9⟩;refine#[_,(aq (aJ 2 pI.nd (gJ (ZI T) hr (ae (aa 0) (ae (aa 1) ah)))) (aq (aJ 3 pI.nd (gJ (ZK T) hr (ae (aa 0) (ae (aa 1) ah)))) (aq (aG (oG (JN (fJ hr)) bI (aa 2) (by with_unfolding_all rfl)) (aw (aB (aP (ae aS (ae (aP (ae aS (ae (kU aet ag0 aiY (JO (fJ hr)) (aa 2) (ae bI ah)) ah))) ah))))) aH) (aq (aG (oG (JN (fJ hr)) bI (aa 3) (by with_unfolding_all rfl)) (aw (aB (aP (ae aS (ae (aP (ae aS (ae (kU aet ag0 aiY (JO (fJ hr)) (aa 3) (ae bI ah)) ah))) ah))))) aH) (aq (aJ 4 pI.nd (VZ Y (by rfl) T.u5 (by rfl) T.yw (ae (aa 3) ah))) (aq (aJ 5 pI.nd (aF (aar T) hr (ae (aa 2) (ae (aE j5 (cE (ae (aP (ae bI (ae (aa 4) ah))) ah)) (aF (Z3 T) hr (ae (aa 0) ah))) ah)))) (aq (aJ 6 pI.nd (aF (aaz T) hr (ae (aa 5) (ae (a9 Y (aa 0) Y) ah)))) (aq (aG (eh (aa 6)) (aw (aB (aP (ae aS (ae (aF (aaA T) hr (ae (aa 5) (ae (a9 Y (aa 0) Y) ah))) ah))))) aH) (aw (aB (aP (ae aS (ae (aF (aag T) hr (ae (aa 2) (ae (aE j5 (aa 4) (aF (Z1 T) hr (ae (aa 0) (ae (aa 6) ah)))) ah))) ah))))))))))))),?_];obtain⟨⟨dx,hx⟩,kvs,hkv,hTA⟩:=id hb;have DD:iK T.aZ H x e t u d m p kvs:=#[#[dx,hx],hkv]
 by_cases hk:cc t ps
 case neg =>
  refine aD (λn n=>False) (λN hN=>?_) (λn n n n h=>h.elim);exact#[x,p,b,e,t,u,d,m,kvs,xs,ps,Y,DD,t1,t2,hX,hP,hn,λn=>Q0 hk,λz=>absurd z hk]
 have Q1:=Q9 hk;refine aD (λG H1=>∃ s ys,G=[U (.ref x),U (.ref b),U (.ref s),O,O,O,O]/\ai H H1/\H1 s=U (.lst ys)/\ay (iy H1) ys (dM u d ps (t-1).toNat)) (λN hN=>?_) ?_
 .exact#[x,p,b,e,t,u,d,m,kvs,xs,ps,Y,DD,t1,t2,hX,hP,hn,λz=>absurd hk z,λn l ys H1 s1 n hl hW=>hN _ _ #[l,ys,Y,s1,hl,hW]]
 rintro n yR G H1 ⟨s,ys,rfl,s1,hs,hW⟩;subst yR;refine aD (λG H2=>∃ gl zs,G=[U (.ref x),U (.ref b),U (.ref s),U (.ref gl),O,O,O]/\ai H1 H2/\H2 gl=U (.lst zs)/\ay (iy H2) zs (eW ps t.toNat)) (λN hN=>?_) ?_
 .exact#[x,p,b,e,t,u,d,m,kvs,xs,ps,Y,DD.same s1,t1,t2,s1.seq hX,hP.same s1,hn,λz=>absurd hk z,λn l ys H2 s2 n hl hW=>hN _ _ #[l,ys,Y,s2,hl,hW]]
 rintro n yR G H2 ⟨gl,zs,rfl,s2,ia,hG⟩;subst yR;have DE:=s1.trans s2;have dv:=s2 _ _ hs;have DF:=hW.imp λn n r=>r.same s2;have wl:(dM u d ps (t-1).toNat).length=(t-1).toNat:=by unfold dM;rw[adA,adO]
 have gw:(eW ps t.toNat).length=t.toNat:=by unfold eW;rw[adA,adO]
 have yl:=hW.len;have zl:=hG.len;obtain⟨n1,n2,n3⟩:=BB DF;obtain⟨k1,k2,k3⟩:=BB hG;refine aD (λG H3=>G=[U (.ref x),U (.ref b),U (.ref s),U (.ref gl),O,O,O]/\H3=H2/\(dM u d ps (t-1).toNat).any agr=false) (λN hN=>?_) ?_
 .rfl';refine#[s,ys,Y,Y,aj.of dv,n1,?_];rw[n2];cases hA:(dM u d ps (t-1).toNat).any agr with
  | false =>
   rfl';exact hN _ _ #[Y,Y,hA]
  | true =>
   rfl';obtain⟨j,j1,j2,j3⟩:=BC (d:=V.non) (n2.trans hA);refine#[.inl #[Y,_,aj.of dv],s,ys,j,Y,Y,aj.of dv,n1,j1,by lia,j2,j3,aY,λk kH=>#[aY,λr hr=>?_]];have u1:=ao (o:=.tup [.str "step",.int (j:Int)]) kH;have u2:=ao (o:=.tup [.str "never",.ref k]) hr;rw[n3] at j2;exact Q1 _ _ (DE.trans (u1.trans u2)) (.ou r k j Y au (u2 _ _ au) (getD_none (by lia) j2))
 rintro n yR G H3 ⟨rfl,rfl,hA⟩;subst yR;refine aD (λG H4=>G=[U (.ref x),U (.ref b),U (.ref s),U (.ref gl),O,O,O]/\H4=H3/\(eW ps t.toNat).any agr=false) (λN hN=>?_) ?_
 .rfl';refine#[gl,zs,Y,Y,aj.of ia,k1,?_];rw[k2];cases hB:(eW ps t.toNat).any agr with
  | false =>
   rfl';exact hN _ _ #[Y,Y,hB]
  | true =>
   rfl';obtain⟨j,j1,j2,j3⟩:=BC (d:=V.non) (k2.trans hB);refine#[.inl #[Y,_,aj.of ia],gl,zs,j,Y,Y,aj.of ia,k1,j1,by lia,j2,j3,aY,λk kH=>#[aY,λr hr=>?_]];have u1:=ao (o:=.tup [.str "at",.int (j:Int)]) kH;have u2:=ao (o:=.tup [.str "never",.ref k]) hr;rw[k3] at j2;exact Q1 _ _ (DE.trans (u1.trans u2)) (.gol r k j Y au (u2 _ _ au) (getD_none (by lia) j2))
 rintro n yR G H4 ⟨rfl,rfl,hB⟩;subst yR;obtain⟨pp,ep,aA⟩:=JQ (f:=λ(k:Nat)=>gd (O,O) ((U (-d),U u)::sel ps "step" (k:Int))) (λk s h=>Vx h) (adM (t-1).toNat) λk hk e=>JR hA _ (adP.mpr #[k,hk,Y]) e;replace ep:dM u d ps (t-1).toNat=pp.map iE:=ep;obtain⟨gs,eg⟩:=all_some _ (JR hB);have ppl:pp.length=(t-1).toNat:=by rw[<- wl,ep,adA]
 have gsl:gs.length=t.toNat:=by rw[<- gw,eg,adA]
 rw[ep] at DF;have MQ:=JS DF;have DG:=hG;rw[eg] at DG;have M1:∀ mm∈gM gs,mm.1<=pp.length:=λmm hm=>by have:=(MP hm).1;lia
 have M2:∀ r∈tb,r.1.2.toNat<=pp.length:=λr hr=>by have ho:=hot.2 r hr;unfold jB at ho;lia
 refine aD (λG H5=>∃ k vs,G=[U (.ref x),U (.ref b),U (.ref s),U (.ref gl),U (.ref k),O,O]/\ai H4 H5/\H5 k=U (.lst vs)/\ay (fA H5) vs (gM gs)) (λN hN=>?_) ?_
 .rfl';refine#[zs,aj.of ia,λl vs H5 s5 n hl hvl hv=>hN _ _ #[l,vs,Y,s5,hl,ay.yT (by rw[hvl,yS,DG.len,adA]) λi y mk e1 e2=>?_]];obtain⟨f1,f2⟩:=MO e2;obtain⟨z,hz,rz⟩:=DG.at (i:=i) (by rw[adR,f2];rfl);obtain⟨p0,rfl,n,h5⟩:=hv i y z e1 hz;obtain⟨pz,rfl,hpz⟩:=rz;exact#[p0,pz,Y,by rw[h5,f1],s5 _ _ hpz]
 rintro n yR G H5 ⟨k,vs,rfl,s5,hkl,hM⟩;subst yR;have vl:=hM.len;rw[yS] at vl;have S5:=DE.trans s5;have vn:vs.length<=12:=by lia
 refine aD (λG H6=>∃ c ws cs,G=[U (.ref x),U (.ref b),U (.ref s),U (.ref gl),U (.ref k),U (.ref c),O]/\ai H5 H6/\H6 c=U (.lst ws)/\ay (d9 H6) ws cs/\cs.length<=64/\xT pp (lA (gM gs) e.toNat tb) cs/\∀ g∈lA (gM gs) e.toNat tb,∀ h∈lA (gM gs) e.toNat tb,lz pp g h cs) (λN hN=>?_) ?_
 .rfl';refine#[aY,λt0 ht0=>#[by decide,λl0 eG=>?_]];have u1:=ao (o:=.tup [.non,.ref k]) ht0;have u2:=ao (o:=.lst [.ref t0]) eG;have U9q:=u1.trans u2;refine#[x,p,e,t,u,d,m,tb,Y,hb.same (S5.trans U9q),hot.1,by lia,λr hr=>(hot.2 r hr).2.1,e0,e7,λl ws H6 s6 n hl MR=>?_];have MS:=MR.len;unfold uz at MS;rw[adA,adA,adO] at MS;refine#[l,Y,[.ref t0],s6 _ _ au,ws,hl,adG (by show 1+ws.length<=30;lia) (by decide),λc hc=>?_];have u3:=ao (o:=.lst ([.ref t0]++ws)) hc;have S6:=s5.trans (U9q.trans (s6.trans u3));refine#[s,c,ys,.ref t0::ws,pp,lA (gM gs) e.toNat tb,Y,aj.of (S6 _ _ dv),MQ.same S6,aA,by lia,aj.of au,#[#[t0,k,vs,Y,(u2.trans (s6.trans u3)) _ _ au,(U9q.trans (s6.trans u3)) _ _ hkl,hM.imp λn n r=>r.same (U9q.trans (s6.trans u3))],MR.imp λn n r=>r.same u3],?_,λg hg=>?_,λl7 ws7 cs7 H7 s7 n a1 a2 a3 a4 a5=>hN _ _ #[l7,ws7,cs7,Y,U9q.trans (s6.trans (u3.trans s7)),a1,a2,a3,a4,a5]]
  .unfold lA uz;rw[aeg,adA,adA,adO];lia
  .rcases adL.mp hg with rfl|z
   .exact#[by show (gM gs).length<=1000;rw[yS];lia,M1]
   .obtain⟨g1,hJ,rfl⟩:=adP.mp z;obtain⟨i,n,rfl⟩:=adP.mp hJ;refine#[adG (by unfold nK;rw[adA];exact adG (aen _ _) (by rw[rh];exact adJ _)) (by lia:tb.length<=1000),λmm dJ=>?_];obtain⟨r,hr,n,rfl⟩:=BD.mp dJ;exact M2 r hr
 rintro n yR G H6 ⟨c,ws,cs,rfl,s6,hc,hC,bf,hsnd,tV⟩;subst yR;have S6:=S5.trans s6;refine aD (λG H7=>∃ av,G=[U (.ref x),U (.ref b),U (.ref s),U (.ref gl),U (.ref k),U (.ref c),U av]/\ai H6 H7/\((av = .non/\iR (m.toNat+1) cs) ∨ ∃ f es,av = .ref f/\H7 f=U (.lst (es.map V.int))/\uA es cs/\es.length<=m.toNat)) (λN hN=>?_) ?_
 .rfl';refine#[_,_,_,S6 _ _ hx,T.bQ,T.C4,_,Y,?_];exact#[c,ws,cs,m.toNat,by rw[afD m0],by lia,by lia,hc,hC,bf,λH7 s7 h7=>hN _ _ #[_,Y,s7,.inl #[Y,h7]],λr es H7 s7 n hr h1 h2=>hN _ _ #[_,Y,s7,.inr #[r,es,Y,hr,h1,h2]]]
 rintro n yR G H7 ⟨av,rfl,s7,⟨rfl,b5⟩|⟨f,es,rfl,hf,hcov,hle⟩⟩<;>subst yR
 .have S7:=S6.trans s7;rfl';refine#[_,_,_,S7 _ _ hx,T.bQ,T.C4,_,Y,?_];refine#[c,m,ws,cs,m.toNat+1,Y,by lia,by lia,s7 _ _ hc,hC.imp λn n r=>r.same s7,bf,b5,λv H8 s8 h8=>#[aY,λz hz=>?_]];have u1:=ao (o:=.tup [.str "never",v]) hz;exact Q1 _ _ (S7.trans (s8.trans u1)) (.pap z v _ pp gs Y au (h8.same u1) (adG (MN _ _) (by lia)) ep eg (JU _ _ _ b5 (by rw[agh];lia) (snd_mk hot (λmm hm=>(MP hm).2) hsnd)))
 .have S7:=S6.trans s7;have M3:∀ mm∈gM gs++fw tb es,mm.1<=pp.length:=λmm hm=>by
   rcases aec.mp hm with z|z
   .exact M1 mm z
   .obtain⟨r,hr,n,rfl⟩:=BE.mp z;exact M2 r hr
  have aaC:=VE hot aA M3 hcov tV;rfl';refine#[x,p,f,e,t,u,d,m,tb,es,Y,hb.same S7,hot.1,by lia,λr hr=>(hot.2 r hr).2.1,aj.of hf,by lia,λr rs H8 s8 hr sr=>#[r,Y,vs,(s6.trans (s7.trans s8)) _ _ hkl,rs,hr,?_,λk2 jG=>?_]]
  .replace sr:ay (fA H8) rs (fw tb es):=sr;have e1:=sr.len;have e2:(fw tb es).length<=tb.length:=by unfold fw;rw[adA];exact adG (aen _ _) (by rw[rh];exact adJ _)
   exact adG (by lia:_<=100) (by decide)
  replace sr:ay (fA H8) rs (fw tb es):=sr;have u1:=ao (o:=.lst (vs++rs)) jG;have W:=s5.trans (s6.trans (s7.trans (s8.trans u1)));have X8:=S7.trans (s8.trans u1);have ml:(gM gs++fw tb es).length<=1000:=by
   rw[adT,yS];have e2:(fw tb es).length<=tb.length:=by unfold fw;rw[adA];exact adG (aen _ _) (by rw[rh];exact adJ _)
   lia
  refine#[s,k2,ys,vs++rs,pp,gM gs++fw tb es,Y,aj.of (W _ _ dv),MQ.same W,aj.of au,ay.app (hM.imp λn n r=>r.same (s6.trans (s7.trans (s8.trans u1)))) (sr.imp λn n r=>r.same u1),aA,by lia,ml,M3,λb5=>absurd aaC b5,λl9 co H9 s9 f9 hl9 adv dW MT=>#[aY,λz hz=>?_]];have u9:=ao (o:=.tup [.str "may",.ref l9]) hz;refine Q1 _ _ (X8.trans (s9.trans u9)) (.may z l9 co pp gs es Y au (u9 _ _ hl9) (X8.free f9) (by lia) ep eg dW (λtt ss hh=>?_) (by lia) λmm hm=>MT mm (ad9 _ hm));refine MT (tt,ss) (afs _ (aeE.mpr #[tt,?_]));have htt:=(adI.mp hh).1;unfold gM;rw[adR,aex htt];show U (tt,gs.getD tt _)=_;rw[adB,hh];rfl
theorem DH(f:P2->Int):∀ {n:Nat},i+n<=ps.length->((adM n).map λk=>f (aN ps (i+k))).sum=pre f ps (i+n)-pre f ps i
 | 0,_=>by simp
 | n+1,h=>by rw[alk,afb,alc,DH f (by lia),show i+(n+1)=i+n+1 by lia,iz _ _ (by lia)];simp only[adU,af2,aiT,al1];lia
theorem MU{H:Hp}{ps:List P2}{i n:Nat}{f:P2->Int}{te:TE}{ρ:St}{Q:VK}(h9:n<=900)(he:∀ k:Nat,k<n->∀ Q:VK,Q (.int (f (aN ps (i+k)))) H->te (U (.int ((i:Int)+(k:Nat)))::ρ) H Q)
 (q:∀ l,H l=O->Q (.ref l) (upd H l (.lst (((adM n).map λk=>f (aN ps (i+k))).map V.int)))):nE (jk (i:Int) n) ρ Ai te H Q:=by
 refine cX iT (by rw[adA,adO];exact adG h9 (by decide)) (oW (R:=λx (k:Nat)=>x=V.int ((i:Int)+(k:Nat))) (as:=adM n) (p:=λy=>true) (f:=λk=>.int (f (aN ps (i+k)))) trivial ?_ (λy y y y Q h=>h) (λx k hk y r Q h=>?_) ?_)
 .exact ay.yT (by rw[adA]) λj x a h1 h2=>by rw[adR,h2] at h1;cases h1;rfl
 .subst r;exact he k (ad0.mp hk) Q h
 .rw[ad4,af5.mpr λy y=>rfl];rw[aev] at q;exact q
inductive aaD(vs:List V)(H:Hp)(Q:VK)(aO:XK):Prop
 | mk(s:adK)(zs:List V)(ps:List P2)(i j:Nat)(_:vs=[.ref s,.int i,.int j])(_:aj K H s zs)(_:iu H zs ps)(_:ps.length<=900)(_:i<=ps.length)(_:j<=ps.length)(_:∀ H',ai H H'->Q (.int (bU ps i j)) H')
theorem aaE(T:aC):aV 1 T.yo aaD:=by
 refine bD B2 ?_;rintro y y y s H y Q y y ⟨s,zs,ps,i,j,rfl,hs,hP,h9,hi,hj,q⟩;refine#[_,(aq (aJ 3 B2.nd (cG (Hd Y) (by rfl) T.LR F8 (ae (dz (cO [0] [kE]) Y (nu Y T.eV (ae (aa 1) (ae (aa 2) ah))) (λC s2 H2 ex pn=>#[dH,(cu (K:=K) (cu (K:=K) (aa 1) (aa 0)) ag)])) ah))) (aw (aB (aE cf (aa 3) (cG (Hd Y) (by rfl) T.LR F8 (ae (dz (cO [0] [kE]) Y (nu Y T.eV (ae (aa 2) (ae (aa 1) ah))) (λC s2 H2 ex pn=>#[dH,(cu (K:=K) (cu (K:=K) (aa 1) (aa 0)) ag)])) ah)))))),?_];have hl:=hP.len;have row:∀ (H':Hp) (k:Nat),ai H H'->k<ps.length->∃ p,dw zs (k:Int)=U (.ref p)/\H' p=U (.tup [.int (aN ps k).1,.int (aN ps k).2]):=λH' k s' hk=>by obtain⟨v,hv,p,rfl,hp⟩:=hP.at (adC (l:=ps) (i:=k) hk);refine#[p,dQ hv,?_];rw[show ps[k]=aN ps k by unfold aN;rw[adB,adC hk];rfl] at hp;exact s' _ _ hp
 rfl';refine#[by lia,by lia,by lia,by lia,MU (ps:=ps) (f:=λp=>p.2) (by lia) (λk hk Q h=>?_) λl gE=>?_]
 .obtain⟨p,e,hp⟩:=row H (i+k) (ai.refl _) (by lia);rfl';exact bR hs (by rw[<- e];congr 1) (az (ak.of hp) Y h)
 have u1:=ao (o:=.lst (((adM (((j:Int)-(i:Int)).toNat)).map λk=>(aN ps (i+k)).2).map V.int)) gE;refine#[l,Y,_,aj.of au,by lia,by lia,by lia,by lia,MU (ps:=ps) (f:=λp=>p.1) (by lia) (λk hk Q h=>?_) λl2 bb=>?_]
 .obtain⟨p,e,hp⟩:=row _ (j+k) u1 (by lia);exact bR (u1.seq hs) (by rw[<- e];congr 1) (az (ak.of hp) Y h)
 refine#[l2,Y,_,aj.of au,?_];have fin:=q _ (u1.trans (ao (o:=.lst (((adM (((i:Int)-(j:Int)).toNat)).map λk=>(aN ps (j+k)).1).map V.int)) bb));have e:bU ps i j=((adM (((j:Int)-(i:Int)).toNat)).map λk=>(aN ps (i+k)).2).sum-((adM (((i:Int)-(j:Int)).toNat)).map λk=>(aN ps (j+k)).1).sum:=by
  unfold bU;by_cases gX:i<=j
  .rw[if_pos gX,show ((i:Int)-(j:Int)).toNat=0 by lia,DH (λp=>p.2) (by lia),show i+((j:Int)-(i:Int)).toNat=j by lia];simp
  .rw[if_neg gX,show ((j:Int)-(i:Int)).toNat=0 by lia,DH (λp=>p.1) (by lia),show j+((i:Int)-(j:Int)).toNat=i by lia];simp;lia
 rw[e] at fin;exact fin
inductive aaF(vs:List V)(H:Hp)(Q:VK)(aO:XK):Prop
 | mk(v:V)(w a b z:adK)(e t u d mo:Int)(zs:List V)(gs:List S2)(tb:Tb)(as:List Int)(s:En × Nat)(m:Mk)(_:vs=[v,.ref b,.ref a,.ref z])(_:fD H v w e t u d mo tb)(_:(tb.map (·.1)).Nodup)(_:H a=U (.tup [ev s.1,.int (s.2:Int)]))(_:aj K H b zs)(_:ay (λv x=>aR H v x.1 x.2) zs gs)(_:(∀ x∈gs,bj x.1 x.2=false))(_:H z=U (.lst (as.map V.int)))(_:kz gs tb as s m)(_:(∀ r∈tb,r.1.2.toNat<gs.length))(_:∀ v,aR H v m.2.1 m.2.2->Q v H)
theorem MV(T:aC):aV 2 T.pR aaF:=by
 refine bD LH ?_;rintro y y y y H y y y hr ⟨v,w,a,b,z,e,t,u,d,mo,zs,gs,tb,as,⟨o,k⟩,⟨k2,wd⟩,rfl,⟨r,rfl,hR,hT⟩,b9,ha,hb,hG,dW,hz,⟨hk,hm⟩,bc,q⟩;refine#[_,(aq (aG (PW.pt (cL (cV (de (cG oO (by rfl) T.mU l4 (ae (aa 2) (ae (oA (v:=.ty "tuple") Y T.CQ Ac Y) ah))))) (eL (nR (cY T.cS (ae (aa 2) ah)) ag)))) (aw (aB bI)) aH) (aq (aG (PW.pt (cL (cV (de (aF (yG T) hr (ae (ar (aa 2) ag) ah)))) (cL (i4 (ar (aa 2) ag) ag) (eL (BN (ar (aa 2) ag) (cY T.cS (ae (aa 1) ah))))))) (aw (aB bI)) aH) (aq (aG (eh (ar (aa 2) ag)) (aq (aG (de (aF (Dd T) hr (ae (ar (aa 1) (ar (aa 2) ag)) ah))) (aw (aB bI)) aH) (aw (aB (ar (aa 1) (ar (aa 2) ag))))) aH) (aq (aG (PW.pt (cL (cV (de (aF (yG T) hr (ae (ar (aa 2) ag) ah)))) (cL (oG Po (ar (aa 2) ag) (aa 3) (by with_unfolding_all rfl)) (eL (sW (HU (fJ hr) (aa 2) (ar (aa 0) ag))))))) (aw (aB bI)) aH) (aw (aB (xu (fJ hr) (ar (aa 0) ag) (aa 2) (λy y=>rfl)))))))),?_];obtain rfl:k2=k:=hk;have ia:=hG.len;have jd:k2<zs.length:=by
  cases o with
  | none =>
   have:=(adI.mp (show gs[k2]?=U wd from hm)).1;lia
  | some x =>
   have:=bc _ hm.2;rw[aep] at this;lia
 refine aD (λG H1=>G=[U (.ref r),U (.ref b),U (.ref a),U (.ref z)]/\H=H1) (λN hN=>?_) ?_
 .rfl';exact Ae ha #[_,nA (ak.of ha),hN _ _ #[Y,Y]]
 rintro y yR G y ⟨rfl,rfl⟩;subst yR;refine aD (λG H1=>G=[U (.ref r),U (.ref b),U (.ref a),U (.ref z)]/\H=H1) (λN hN=>?_) ?_
 .rfl';refine az (ak.of ha) (v:=.int k2) Y #[_,Y,.inr #[_,Y],?_];simp only[isWhole];refine az (ak.of ha) (v:=.int k2) Y ?_;rfl';exact aU (λh0=>absurd h0 (by lia)) λy=>az (ak.of ha) (v:=.int k2) Y #[_,fg hb,aU (λh0=>absurd h0 (by lia)) λy=>hN _ _ #[Y,Y]]
 rintro y yR G y ⟨rfl,rfl⟩;subst yR;rfl';refine az (ak.of ha) (v:=ev o) Y ?_;cases o with
 | none =>
  obtain⟨v,hv,pz,rfl,hp⟩:=hG.at (i:=k2) (a:=wd) hm;refine az (ak.of ha) (v:=.int k2) Y (bR hb (dQ hv) #[pz,wd.1,wd.2,Y,ak.of hp,?_]);rw[dW wd (aeE.mpr #[_,hm])];exact az (ak.of ha) (v:=.int k2) Y (bR hb (dQ hv) (q _ #[pz,Y,hp]))
 | some e =>
  refine az (ak.of ha) (v:=.int e) Y #[_,Y,.inr #[_,Y],?_];simp only[isWhole];refine az (ak.of ha) (v:=.int e) Y ?_;obtain⟨BQ,cn⟩:e∉as/\((e,((k2:Nat):Int)),wd)∈tb:=hm;obtain⟨kvs,hkv,hA⟩:=id hT;obtain⟨vv,hvv,va,rfl,hva⟩:=(hA.val (e,((k2:Nat):Int))).2 _ (xE b9 cn);refine#[z,_,Y,.inl (aj.of hz),Y,Ja as,#[_,Y,?_]];rw[Bg];refine aU (λh0=>absurd h0 (by simpa using BQ)) λy=>?_;refine az (ak.of hR) (v:=.ref w) Y ?_;rfl';refine#[_,fv.t (k:=bP e (k2:Int)) hkv ha,?_];rw[hvv];refine aU (λh0=>nomatch h0) λy=>?_;refine az (ak.of hR) (v:=.ref w) Y ?_;exact#[w,Y,.ref va,by rw[<- hvv];exact fv.t (k:=bP e (k2:Int)) hkv ha,q _ #[va,Y,hva]]
inductive MW(vs:List V)(H:Hp)(Q:VK)(aO:XK):Prop
 | mk(v:V)(w c:adK)(e t u d m:Int)(tb:Tb)(cs:List Int)(_:vs=[v,.ref c])(_:fD H v w e t u d m tb)(_:1<=t)(_:t<=12)(_:cj e t tb)(_:tb.length<=60)(_:H c=U (.lst (cs.map V.int)))(_:cs.length=t.toNat)(_:(∀ k,k+1<cs.length->-d<=fN cs (k+1)-fN cs k/\fN cs (k+1)-fN cs k<=u))(_:(∀ zs:List Int,zs.Nodup->(∀ i,i∈zs↔Dl tb cs i)->(zs.length:Int)<=m))(_:∀ H',ai H H'->Q (.bl true) H')
inductive yU(H:Hp)(v:V)(c:adK)(_:Nat)(G:St)(H1:Hp):Prop
 | mk(e1:Option V)(_:G=[U v,U (.ref c),e1])(_:ai H H1)
theorem DI(T:aC):aV 3 T.XF MW:=by
 refine bD B1 ?_;rintro y y y y H y Q y hr ⟨v,w,c,e,t,u,d,m,tb,cs,rfl,hW,t1,t2,aA,gL,hc,bf,cW,nM,q⟩;refine#[_,(aq (aG (PW.pt (cL (cV (de (cG oO (by rfl) T.mU l4 (ae (aa 1) (ae (oA (v:=.ty "list") Y T.u5 tN Y) ah))))) (eL (nR (cY T.cS (ae (aa 1) ah)) (ar (aa 0) ag))))) (aw (aB fH)) aH) (aq (aG (cV (de (cG (xb Y) (by rfl) T.yu wM (ae (dz (cO [] []) Y (dX (aa 1)) (λC s2 H2 ex pn=>#[dH,(aF (yG T) hr (ae (aa 0) ah))])) ah)))) (aw (aB fH)) aH) (aq (eM aem Y (jm Y T.eV (ae (aE cf (ar (aa 0) ag) ag) ah)) (df 2 B1.nd) (aw (aG (cV (de (aF (yI T) hr (ae (aP (ae (aE cf ag (ar (aa 0) ag)) (ae (ar (aa 0) ag) ah))) (ae (aE cf (ar (aa 1) (aE a8 (aa 2) ag)) (ar (aa 1) (aa 2))) ah))))) (aw (aB fH)) aH))) (aw (aB (fb (hV fU) (aF (ZU T) hr (ae (aa 0) (ae (aa 1) ah))) (ar (aa 0) ag) (c6 _))))))),?_];obtain⟨r,rfl,hR,hT⟩:=id hW;refine aD (yU H (.ref r) c 0) (λN hN=>?_) ?_
 .rfl';refine Gb hc ?_;refine#[_,fg (aj.of hc),az (ak.of hR) (v:=.int t) Y ?_];rw[adA,bf];rfl';rw[if_neg (λz=>z (by lia))];exact hN _ _ #[_,Y,ai.refl _]
 rintro y yR G H1 ⟨e1,rfl,s1⟩;subst yR;refine aD (yU H (.ref r) c 0) (λN hN=>?_) ?_
 .rfl';refine#[#[_,aj.of (s1 _ _ hc)],cX kf (adG (by rw[adA];lia:(cs.map V.int).length<=100) (by decide)) (oW (R:=λx (n:Int)=>x=V.int n) (as:=cs) (p:=λy=>true) (f:=λy=>.bl true) (aj.of (s1 _ _ hc)) ?_ (λy y y y Q h=>h) (λx n y y r Q h=>?_) λl hl=>?_)]
  .exact ay.yT (by rw[adA]) λj x a h1 h2=>by rw[adR,h2] at h1;cases h1;rfl
  .subst r;refine#[_,Y,.inr #[_,Y],?_];simp only[isWhole];exact h
  .rw[ad4,af5.mpr λy y=>rfl];refine#[l,Y,cs.map λy=>true,aj.of (by rw[au,aev];rfl),?_];rw[if_neg (by simp)];exact hN _ _ #[_,Y,s1.trans (ao hl)]
 rintro y yR G H2 ⟨e1,rfl,s2⟩;subst yR;refine aD (yU H (.ref r) c 0) (λN hN=>?_) ?_
 .rfl';refine az (ak.of (s2 _ _ hR)) (v:=.int t) Y ?_;refine#[by lia,by lia,qF (yU H (.ref r) c) #[_,Y,s2] ?_ (λG H3 ⟨e1,h1,h2⟩=>hN _ _ #[e1,h1,h2])];rintro i G H3 hi ⟨e1,rfl,s3⟩;refine az (ak.of (s3 _ _ hR)) (v:=.int d) Y (az (ak.of (s3 _ _ hR)) (v:=.int u) Y #[aY,λp hp=>?_]);have u4:=ao (o:=.tup [.int (0-d),.int u]) hp;have S4:=s3.trans u4;have bi:i+1<cs.length:=by lia
  refine bR (aj.of (S4 _ _ hc)) (int_at (by lia) (by lia)) (bR (aj.of (S4 _ _ hc)) (int_at (by lia) (by lia)) #[p,U (0-d),U u,_,Y,ak.of au,?_]);have hs:=cW i bi;unfold fN at hs;rw[show ((0:Int)+(i:Int)+1).toNat=i+1 by lia,show ((0:Int)+(i:Int)).toNat=i by lia,gY.mpr #[λx hx=>by cases hx;lia,λx hx=>by cases hx;lia]];exact#[_,Y,S4]
 rintro y yR G H3 ⟨e1,rfl,s3⟩;subst yR;rfl';refine#[.ref r,w,c,e,t,u,d,m,tb,cs,Y,hW.same s3,aA,gL,aj.of (s3 _ _ hc),bf,λzs H4 s4 hz hm=>?_];refine az (ak.of ((s3.trans s4) _ _ hR)) (v:=.int m) Y ?_;rfl';rw[decide_eq_true (nM zs hz hm)];exact q _ (s3.trans s4)
noncomputable def iM(s:S2):W2:=if bj s.1 s.2=true then O else U s
theorem aaG(h:iM s=U x):s=x/\bj s.1 s.2=false:=by
 unfold iM at h;split at h
 .cases h
 .rename_i hc;exact#[Option.some.inj h,by simpa using hc]
theorem MX(h:iM s=O):bj s.1 s.2=true:=by
 unfold iM at h;split at h
 .rename_i hc;exact hc
 .cases h
theorem DJ:∀ {gs:List S2} {fs:List S2},gs.map iM=fs.map U->gs=fs/\∀ x∈gs,bj x.1 x.2=false
 | [],[],_=>#[Y,λy h=>nomatch h]
 | [],_::_,h=>nomatch h
 | _::_,[],h=>nomatch h
 | g::gs,f::fs,h=>by
  obtain⟨h1,h2⟩:=List.cons.inj h;obtain⟨rfl,h3⟩:=aaG h1;obtain⟨rfl,h4⟩:=DJ h2;refine#[Y,λx hx=>?_];rcases adL.mp hx with rfl|hx
  .exact h3
  .exact h4 x hx
theorem aaH(h:ay (λv x=>aR H v x.1 x.2) ys sl)(e:sl.map iM=pp.map iE):iu H ys pp/\(∀ x∈sl,bj x.1 x.2=false)/\sl.length=pp.length:=by obtain⟨rfl,h2⟩:=DJ (fs:=pp.map λp=>(U p.1,U p.2)) (by rw[e,aev];rfl);refine#[?_,h2,by rw[adA]];exact (ay.bind h:ay (λv (p:P2)=>aR H v (U p.1) (U p.2)) ys pp)
inductive su(H:Hp)(wv:V)(w s gl:adK)(sl gs:List S2)(e t u d m:Int)(tb:Tb):Prop
 | mk(ys zs:List V)(_:fD H wv w e t u d m tb)(_:H s=U (.lst ys))(_:ay (λv x=>aR H v x.1 x.2) ys sl)(_:H gl=U (.lst zs))(_:ay (λv x=>aR H v x.1 x.2) zs gs)(_:gs.length=sl.length+1)(_:sl.length<=900)(_:(tb.map (·.1)).Nodup)(_:∀ r∈tb,r.1.2.toNat<=sl.length)
theorem su.same{H H':Hp}{wv:V}{w s gl:adK}{sl gs:List S2}{e t u d m:Int}{tb:Tb}(h:su H wv w s gl sl gs e t u d m tb)(x:ai H H'):su H' wv w s gl sl gs e t u d m tb:=let ⟨ys,zs,a,b,c,d,e,f,g,i,j⟩:=h;#[ys,zs,a.same x,x _ _ b,c.imp λy y r=>r.same x,x _ _ d,e.imp λy y r=>r.same x,f,g,i,j]
inductive gN(H:Hp)(v:V)(sw gw:List W2)(tb:Tb)(m:Int)(as:List Int)(N:Nat):Prop
 | ou (k:adK) (j:Nat) (_:v = .ref k) (_:H k=U (.tup [.str "step",.int (j:Int)])) (_:sw[j]?=U O)
 | gol (k:adK) (j:Nat) (_:v = .ref k) (_:H k=U (.tup [.str "at",.int (j:Int)])) (_:gw[j]?=U O)
 | pap (t:Pp) (pp:List P2) (gs:List S2) (_:fS H v t) (_:br t<N) (_:sw=pp.map iE) (_:gw=gs.map U) (_:Val pp gs tb m t as)
theorem gN.same{H H':Hp}{v:V}{sw gw:List W2}{tb:Tb}{m:Int}{as:List Int}{N:Nat}(h:gN H v sw gw tb m as N)(s:ai H H'):gN H' v sw gw tb m as N:=by
 rcases h with ⟨k,j,e,h1,h2⟩|⟨k,j,e,h1,h2⟩|⟨t,pp,gs,h1,h2,h3,h4,h5⟩
 .exact .ou k j e (s _ _ h1) h2
 .exact .gol k j e (s _ _ h1) h2
 .exact .pap t pp gs (h1.same s) h2 h3 h4 h5
inductive yV(N:Nat)(vs:List V)(H:Hp)(Q:VK)(aO:XK):Prop
 | mk(wv v:V)(w s gl z:adK)(e t u d m:Int)(sl gs:List S2)(tb:Tb)(as:List Int)(_:vs=[wv,.ref s,.ref gl,v,.ref z])(_:0<N)(_:N<=10)(_:su H wv w s gl sl gs e t u d m tb)(_:H z=U (.lst (as.map V.int)))(_:as.length+N<=30)(_:gN H v (sl.map iM) (gs.map iM) tb m as N)(_:∀ H',ai H H'->Q (.bl true) H')
def MY(pp:List P2)(fs:List S2)(tb:Tb)(m:Int)(a:Pp)(as:List Int)(o:En):Prop:=match o with|none=>a = .nil|some e=>Val pp fs tb m a (as++[e])
inductive MZ(N:Nat)(vs:List V)(H:Hp)(Q:VK)(aO:XK):Prop
 | mk(wv v:V)(w s gl z:adK)(e t u d m:Int)(sl gs fs:List S2)(pp:List P2)(tb:Tb)(as:List Int)(o:En)(a:Pp)(_:vs=[wv,.ref s,.ref gl,v,ev o,.ref z])(_:N<=10)(_:su H wv w s gl sl gs e t u d m tb)(_:H z=U (.lst (as.map V.int)))(_:as.length+1+N<=30)(_:fS H v a)(_:br a<N)(_:sl.map iM=pp.map iE)(_:gs.map iM=fs.map U)(_:MY pp fs tb m a as o)(_:∀ H',ai H H'->Q (.bl true) H')
inductive aaI(N:Nat)(vs:List V)(H:Hp)(Q:VK)(aO:XK):Prop
 | mk(wv v:V)(w s gl z:adK)(e t u d m:Int)(sl gs fs:List S2)(pp:List P2)(tb:Tb)(as:List Int)(c:Cl)(a b:Pp)(_:vs=[wv,.ref s,.ref gl,v,.ref z])(_:N<=10)(_:su H wv w s gl sl gs e t u d m tb)(_:H z=U (.lst (as.map V.int)))(_:as.length+1+N<=30)(_:fS H v (.cls c a b))(_:br a<N)(_:br b<N)(_:sl.map iM=pp.map iE)(_:gs.map iM=fs.map U)(_:Val pp fs tb m (.cls c a b) as)(_:∀ H',ai H H'->Q (.bl true) H')
theorem M0(T:aC)(N:Nat)(ih:aV (3 * N+3) T.mT (yV N)):aV (3 * N+4) T.n5 (MZ N):=by
 refine okN T.n5.F LI.1 (λvs H Q E h=>?_) (λbq A outer s H vs Q E hr h=>?_)
 .obtain⟨wv,v,w,s,gl,z,e,t,u,d,m,sl,gs,fs,pp,tb,as,o,a,rfl,y⟩:=h;rfl
 .obtain⟨wv,v,w,s,gl,z,e,t,u,d,m,sl,gs,fs,pp,tb,as,o,a,rfl,hN,hK,hz,hl,ha,la,e1,e2,hv,q⟩:=h;refine#[_,(aq (aG (eh (aa 4)) (aw (aB (nk (sU (aa 3))))) aH) (aw (aB (fe ih (hr.mono (by lia)) Y T.mT.m T.mT.F.kp T.mT.b .nil bB (ae (aa 0) (ae (aa 1) (ae (aa 2) (ae (aa 3) (ae (aE j5 (aa 5) (cE (ae (aa 4) ah))) ah))))))))),?_];rfl';cases o with
  | none =>
   obtain rfl:a = .nil:=hv;obtain rfl:v = .non:=ha;exact q _ (ai.refl _)
  | some x =>
   refine#[by decide,λp1 cK=>?_];have u1:=ao (o:=.lst [.int x]) cK;refine#[_,u1 _ _ hz,_,au,adG (by rw[adA,aea];lia:_<=100) (by decide),λp2 dZ=>?_];have u2:=ao (o:=.lst (as.map V.int++[.int x])) dZ;have U9q:=u1.trans u2;exact#[wv,v,w,s,gl,p2,e,t,u,d,m,sl,gs,tb,as++[x],Y,by lia,hN,hK.same U9q,by rw[afb];exact au,by rw[adT,aea];lia,.pap a pp fs (ha.same U9q) la e1 e2 hv,λH' s'=>q _ (U9q.trans s')]
theorem M4(h:kz gs tb as s m)(hg:gs.length=n+1)(ht:∀ r∈tb,r.1.2.toNat<=n):m.1<=n:=by
 obtain⟨e,h⟩:=h;rw[e];obtain⟨o,k⟩:=s;cases o with
 | none =>
  have:=(adI.mp (show gs[k]?=U m.2 from h)).1;show k<=n;lia
 | some x=>exact ht _ h.2
theorem aaJ(T:aC)(N:Nat)(ih:aV (3 * N+3) T.mT (yV N)):aV (3 * N+5) T.uY (aaI N):=by
 refine okN T.uY.F yg.1 (λvs H Q E h=>?_) (λbq A outer s H vs Q E hr h=>?_)
 .obtain⟨wv,v,w,s,gl,z,e,t,u,d,m,sl,gs,fs,pp,tb,as,c,a,b,rfl,j⟩:=h;rfl
 .obtain⟨wv,v,w,s,gl,z,e,t,u,d,m,sl,gs,fs,pp,tb,as,⟨⟨o,i⟩,⟨o2,i2⟩⟩,a,b,rfl,hM,hK,hz,hl,⟨k,p,p2,x,y,rfl,hk,hp,dZ,hx,hy⟩,la,lb,e1,e2,⟨⟨mm,nn,mA,mB,bf⟩,va,vb⟩,q⟩:=h;refine#[_,(aq (jY (i:=5) yg.nd Y (aho Y) (fe (MV T) (hr.mono (by lia)) Y T.pR.m T.pR.F.kp T.pR.b .nil bB (ae (aa 0) (ae (aa 2) (ae (bM bN (aa 3) ag (λj j=>rfl)) (ae (aa 4) ah)))))) (aq (jY (i:=6) yg.nd Y (aho Y) (fe (MV T) (hr.mono (by lia)) Y T.pR.m T.pR.F.kp T.pR.b .nil bB (ae (aa 0) (ae (aa 2) (ae (bM bN (aa 3) ag (λj j=>rfl)) (ae (aa 4) ah)))))) (aq (aG (PW.pt (cL (eh (aa 5)) (cL (eh (aa 6)) (eL (de (cG (He Y) (by rfl) T.LN F4 (ae (dz (cO [] []) Y (dX (aa 1)) (λC s2 H2 ex pn=>#[dH,(fe (Dd T) (hr.mono (by lia)) Y T.pQ.m T.pQ.F.kp T.pQ.b .nil bB (ae (aa 0) ah))])) ah))))))) (aw (aB fH)) aH) (aq (aG (PW.pt (cL (eh (bM bN (aa 5) ag (λj j=>rfl))) (eL (eh (bM bN (aa 6) ag (λj j=>rfl)))))) (aw (aB fH)) aH) (aq (aG (Wl (bM bN (aa 6) ag (λj j=>rfl)) (aE a8 (bM bN (aa 5) ag (λj j=>rfl)) (fe (aaE T) (hr.mono (by lia)) Y T.yo.m T.yo.F.kp T.yo.b .nil bB (ae (aa 1) (ae (bM bN (bM bN (aa 3) ag (λj j=>rfl)) ag (λj j=>rfl)) (ae (bM bN (bM bN (aa 3) ag (λj j=>rfl)) ag (λj j=>rfl)) ah)))))) (aw (aB fH)) aH) (aq (aG (cV (de (fe (M0 T N ih) (hr.mono (by lia)) Y T.n5.m T.n5.F.kp T.n5.b .nil bB (ae (aa 0) (ae (aa 1) (ae (aa 2) (ae (bM bN (aa 3) ag (λj j=>rfl)) (ae (bM bN (bM bN (aa 3) ag (λj j=>rfl)) ag (λj j=>rfl)) (ae (aa 4) ah))))))))) (aw (aB fH)) aH) (aq (aG (PW.pt (jg (iF (bM bN (bM bN (aa 3) ag (λj j=>rfl)) ag (λj j=>rfl))) (jX (aW (bM bN (bM bN (aa 3) ag (λj j=>rfl)) ag (λj j=>rfl)) (bM bN (bM bN (aa 3) ag (λj j=>rfl)) ag (λj j=>rfl)))))) (aw (aB (nk (sU (bM bN (aa 3) ag (λj j=>rfl)))))) aH) (aw (aB (fe (M0 T N ih) (hr.mono (by lia)) Y T.n5.m T.n5.F.kp T.n5.b .nil bB (ae (aa 0) (ae (aa 1) (ae (aa 2) (ae (bM bN (aa 3) ag (λj j=>rfl)) (ae (bM bN (bM bN (aa 3) ag (λj j=>rfl)) ag (λj j=>rfl)) (ae (aa 4) ah)))))))))))))))),?_];obtain⟨ys,zs,hW,hs,hS,hg,hG,ia,hn,b9,hle⟩:=id hK;obtain⟨rfl,dW⟩:=DJ e2;obtain⟨hP,hcs,dP⟩:=aaH hS e1;dsimp only at va vb hp dZ;have lt:∀ r∈tb,r.1.2.toNat<gs.length:=λr hr=>by have:=hle r hr;lia
  refine aD (λG H1=>∃ v1,G=[U wv,U (.ref s),U (.ref gl),U (.ref k),U (.ref z),U v1,O]/\H1=H/\aR H v1 mm.2.1 mm.2.2) (λN hN=>?_) ?_
  .exact az (ak.of hk) (v:=.ref p) Y #[wv,w,p,gl,z,e,t,u,d,m,zs,gs,tb,as,(o,i),mm,Y,hW,b9,hp,aj.of hg,hG,dW,hz,mA,lt,λv1 h1=>hN _ _ #[v1,Y,Y,h1]]
  rintro j yR G H1 ⟨v1,rfl,rfl,q1,rfl,DK⟩;subst yR;refine aD (λG H2=>∃ v2,G=[U wv,U (.ref s),U (.ref gl),U (.ref k),U (.ref z),U (.ref q1),U v2]/\H2=H1/\aR H1 v2 nn.2.1 nn.2.2) (λN hN=>?_) ?_
  .rfl';exact az (ak.of hk) (v:=.ref p2) Y #[wv,w,p2,gl,z,e,t,u,d,m,zs,gs,tb,as,(o2,i2),nn,Y,hW,b9,dZ,aj.of hg,hG,dW,hz,mB,lt,λv1 h1=>hN _ _ #[v1,Y,Y,h1]]
  rintro j yR G H2 ⟨v2,rfl,rfl,q2,rfl,DL⟩;subst yR;refine aD (λG H3=>G=[U wv,U (.ref s),U (.ref gl),U (.ref k),U (.ref z),U (.ref q1),U (.ref q2)]/\ai H2 H3) (λN hN=>?_) ?_
  .rfl';refine#[#[_,aj.of hs],cX kf (adG (by rw[hS.len];lia:ys.length<=1000) (by decide)) (oW (R:=λx (n:S2)=>aR H2 x n.1 n.2) (as:=sl) (p:=λj=>true) (f:=λj=>.bl false) (aj.of hs) hS (λj j j j Q h=>h) (λx n hn j r Q h=>?_) λl hl=>?_)]
   .obtain⟨pa,rfl,mV⟩:=r;refine#[pa,n.1,n.2,Y,ak.of mV,?_];rw[hcs n hn];exact h
   .rw[ad4,af5.mpr λj j=>rfl];refine#[l,Y,sl.map λj=>false,aj.of (by rw[au,aev];rfl),?_];rw[if_neg (by simp)];exact hN _ _ #[Y,ao hl]
  rintro j yR G H3 ⟨rfl,s3⟩;subst yR;obtain⟨hh,ll,h1,h2,h3⟩:=bf;rw[h1] at DK;rw[h2] at DL;refine aD (λG H4=>G=[U wv,U (.ref s),U (.ref gl),U (.ref k),U (.ref z),U (.ref q1),U (.ref q2)]/\H4=H3) (λN hN=>?_) ?_
  .rfl';refine az (ak.of (s3 _ _ DK)) (v:=.int hh) Y ?_;refine az (ak.of (s3 _ _ DL)) (v:=.int ll) Y ?_;exact hN _ _ #[Y,Y]
  rintro j yR G H4 ⟨rfl,rfl⟩;subst yR;refine aD (λG H5=>G=[U wv,U (.ref s),U (.ref gl),U (.ref k),U (.ref z),U (.ref q1),U (.ref q2)]/\ai H2 H5) (λN hN=>?_) ?_
  .rfl';refine az (ak.of (s3 _ _ DL)) (v:=.int ll) Y (az (ak.of (s3 _ _ DK)) (v:=.int hh) Y (az (ak.of (s3 _ _ hk)) (v:=.ref p) Y (az (ak.of (s3 _ _ hp)) (v:=.int i) Y (az (ak.of (s3 _ _ hk)) (v:=.ref p2) Y (az (ak.of (s3 _ _ dZ)) (v:=.int i2) Y ?_)))));have ma:=M4 mA ia hle;have mb:=M4 mB ia hle;have ea:mm.1=i:=mA.1;have eb:nn.1=i2:=mB.1;rw[ea] at ma h3;rw[eb] at mb h3;refine#[s,ys,pp,i,i2,Y,aj.of (s3 _ _ hs),hP.imp λj j r=>r.same s3,by lia,by lia,by lia,λH5 s5=>?_];rfl';rw[if_neg (by lia)];exact hN _ _ #[Y,s3.trans s5]
  rintro j yR G H5 ⟨rfl,s5⟩;subst yR;refine aD (λG H6=>G=[U wv,U (.ref s),U (.ref gl),U (.ref k),U (.ref z),U (.ref q1),U (.ref q2)]/\ai H2 H6) (λN hN=>?_) ?_
  .refine az (ak.of (s5 _ _ hk)) (v:=x) Y (az (ak.of (s5 _ _ hk)) (v:=.ref p) Y (az (ak.of (s5 _ _ hp)) (v:=ev o) Y ?_));refine#[wv,x,w,s,gl,z,e,t,u,d,m,sl,gs,gs,pp,tb,as,o,a,Y,hM,hK.same s5,s5 _ _ hz,hl,hx.same s5,la,e1,e2,va,λH6 s6=>?_];exact hN _ _ #[Y,s5.trans s6]
  rintro j yR G H6 ⟨rfl,s6⟩;subst yR;rfl';have last:∀ R:V->Hp->Prop,(∀ H',ai H2 H'->R (.bl true) H')->MY pp gs tb m b as o2->iq K (.ref k) (.int 4) H6 λx H1=>iq K (.ref k) (.int 2) H1 λx_2 H1=>iq K x_2 (.int 0) H1 λx_3 H1=>MZ N [wv,.ref s,.ref gl,x,x_3,.ref z] H1 R E0:=λR hR hv =>
   az (ak.of (s6 _ _ hk)) (v:=y) Y (az (ak.of (s6 _ _ hk)) (v:=.ref p2) Y (az (ak.of (s6 _ _ dZ)) (v:=ev o2) Y #[wv,y,w,s,gl,z,e,t,u,d,m,sl,gs,gs,pp,tb,as,o2,b,Y,hM,hK.same s6,s6 _ _ hz,hl,hy.same s6,lb,e1,e2,hv,λH7 s7=>hR _ (s6.trans s7)]))
  refine az (ak.of (s6 _ _ hk)) (v:=.ref p) Y (az (ak.of (s6 _ _ hp)) (v:=ev o) Y ?_);cases o with
  | none =>
   refine last _ q ?_;cases o2 with
   | none=>exact vb
   | some x=>exact vb
  | some x0 =>
   refine az (ak.of (s6 _ _ hk)) (v:=.ref p) Y (az (ak.of (s6 _ _ hp)) (v:=.int x0) Y (az (ak.of (s6 _ _ hk)) (v:=.ref p2) Y (az (ak.of (s6 _ _ dZ)) (v:=ev o2) Y ?_)));refine MH (o:=U x0) (o':=o2) ?_;cases o2 with
   | none=>exact last _ q vb
   | some x2 =>
    replace vb:if (U x0:En)=U x2 then b = .nil else Val pp gs tb m b (as++[x2]):=vb
    by_cases he:(U x0:En)=U x2
    .rw[decide_eq_true he];rw[if_pos he] at vb;subst vb;obtain rfl:y = .non:=hy;exact az (ak.of (s6 _ _ hk)) (v:=.non) Y (q _ s6)
    .rw[decide_eq_false he];rw[if_neg he] at vb;exact last _ q vb
theorem aaK(T:aC):∀ N,aV (3 * N+3) T.mT (yV N):=by
 intro N
 induction N with
 | zero =>
  refine okN T.mT.F rO.1 (λvs H Q E h=>?_) (λbq A outer s H vs Q E hr h=>?_)
  .obtain⟨wv,v,w,s,gl,z,e,t,u,d,m,sl,gs,tb,as,rfl,hN,n⟩:=h;exact absurd hN (aeY _)
  .obtain⟨wv,v,w,s,gl,z,e,t,u,d,m,sl,gs,tb,as,rfl,hN,n⟩:=h;exact absurd hN (aeY _)
 | succ N ih =>
  refine okN T.mT.F rO.1 (λvs H Q E h=>?_) (λbq A outer s H vs Q E hr h=>?_)
  .obtain⟨wv,v,w,s,gl,z,e,t,u,d,m,sl,gs,tb,as,rfl,n⟩:=h;rfl
  .obtain⟨wv,v,w,s,gl,z,e,t,u,d,m,sl,gs,tb,as,rfl,n,hM,hK,hz,hl,hR,q⟩:=h;refine#[_,(aq (aG (PW.pt (cL (cV (de (cG oO (by rfl) T.mU l4 (ae (aa 3) (ae (oA (v:=.ty "tuple") Y T.CQ Ac Y) ah))))) (eL (aW (cY T.cS (ae (aa 3) ah)) ag)))) (aw (aB fH)) aH) (aq (aG (aW (bM bN (aa 3) ag (λn n=>rfl)) aS) (aw (aB (fP (fb oE (cY T.cS (ae (aa 3) ah)) ag (c6 _)) (fq (fb (hV tx) (cY T.cS (ae (aa 4) ah)) (bM bN (aa 0) ag (λn n=>rfl)) (c6 _)))))) aH) (aq (aG (aW (bM bN (aa 3) ag (λn n=>rfl)) aS) (aw (aB (fP (fb oE (cY T.cS (ae (aa 3) ah)) ag (c6 _)) (fq (fe (aaJ T N ih) (hr.mono (by lia)) Y T.uY.m T.uY.F.kp T.uY.b .nil bB (ae (aa 0) (ae (aa 1) (ae (aa 2) (ae (aa 3) (ae (aa 4) ah)))))))))) aH) (aq (jY (i:=5) rO.nd Y (aho Y) (cE ah)) (aq (aG (aW (bM bN (aa 3) ag (λn n=>rfl)) aS) (aw (jY (i:=5) rO.nd Y (aho Y) (aa 1))) aH) (aq (aG (aW (bM bN (aa 3) ag (λn n=>rfl)) aS) (aw (jY (i:=5) rO.nd Y (aho Y) (aa 2))) aH) (aq (aG (PW.pt (cL (nR (cY T.cS (ae (aa 3) ah)) ag) (cL (cV (de (fe (yG T) (hr.mono (by lia)) Y T.yn.m T.yn.F.kp T.yn.b .nil bB (ae (bM bN (aa 3) ag (λn n=>rfl)) ah)))) (cL (i4 (bM bN (aa 3) ag (λn n=>rfl)) ag) (eL (BN (bM bN (aa 3) ag (λn n=>rfl)) (cY T.cS (ae (aa 5) ah)))))))) (aw (aB fH)) aH) (aw (aB (fe (Dd T) (hr.mono (by lia)) Y T.pQ.m T.pQ.F.kp T.pQ.b .nil bB (ae (bM bN (aa 5) (bM bN (aa 3) ag (λn n=>rfl)) (λn n=>rfl)) ah))))))))))),?_];obtain⟨ys,zs,hW,hs,hS,hg,hG,ia,hn,b9,hle⟩:=id hK;have Dr:∃ (k:adK) (u:V) (us:List V),v = .ref k/\H k=U (.tup (u::us)):=by
    rcases hR with ⟨k,j,rfl,hk,hj⟩|⟨k,j,rfl,hk,hj⟩|⟨t,pp,fs,hp,hh,e1,e2,hv⟩
    .exact#[k,_,_,Y,hk]
    .exact#[k,_,_,Y,hk]
    .cases t with
     | nil=>exact hv.elim
     | full=>obtain⟨r,rfl,h⟩:=hp;exact#[r,_,_,Y,h]
     | cls c a b=>obtain⟨r,n,n,n,n,rfl,h,n⟩:=hp;exact#[r,_,_,Y,h]
   obtain⟨k,u0,us,rfl,hku⟩:=Dr;refine aD (λG H2=>G=[U wv,U (.ref s),U (.ref gl),U (.ref k),U (.ref z),O]/\H2=H) (λN hN=>?_) ?_
   .rfl';refine Ae hku ?_;refine#[_,nA (ak.of hku),?_];refine aU (λh0=>absurd h0 (by rw[aeg];lia)) λn=>hN _ _ #[Y,Y]
   rintro n yR G H2 ⟨rfl,rfl⟩;subst yR;rcases hR with ⟨k2,j,e1,hk,hj⟩|⟨k2,j,e1,hk,hj⟩|⟨tt,pp,fs,hp,hh,e1,e2,hv⟩
   .cases e1;refine uJ "step" (hk) ?_;refine uJ "step" (hk) ?_;refine aD (λG H5=>∃ l0,G=[U wv,U (.ref s),U (.ref gl),U (.ref k),U (.ref z),U (.ref l0)]/\ai H2 H5) (λN hN=>?_) ?_
    .rfl';exact#[by decide,λp hp=>hN _ _ #[p,Y,ao hp]]
    rintro n yR G H5 ⟨l0,rfl,s5⟩;subst yR;refine aD (λG H6=>G=[U wv,U (.ref s),U (.ref gl),U (.ref k),U (.ref z),U (.ref s)]/\H6=H5) (λN hN=>?_) ?_
    .rfl';refine az (ak.of (s5 _ _ hk)) (v:=.str "step") Y ?_
     first|exact hN _ _ ⟨rfl,rfl⟩|exact aU (λh=>absurd h (by decide)) λn=>hN _ _ #[Y,Y]
    rintro n yR G H6 ⟨rfl,rfl⟩;subst yR;refine uJ "step" ((s5 _ _ hk)) ?_;rw[adR] at hj;obtain⟨sj,hsj,hcj⟩:=aeh.mp hj;obtain⟨vj,hvj,pj,rfl,hpj⟩:=hS.at hsj;have jl:=(adI.mp hvj).1;refine aD (λG H8=>G=[U wv,U (.ref s),U (.ref gl),U (.ref k),U (.ref z),U (.ref s)]/\H8=H6) (λN hN=>?_) ?_
    .rfl';refine#[_,nA (ak.of (s5 _ _ hk)),?_];refine az (ak.of (s5 _ _ hk)) (v:=.int j) Y #[_,Y,.inr #[_,Y],?_];refine az (ak.of (s5 _ _ hk)) (v:=.int j) Y ?_;rfl';refine aU (λh0=>absurd h0 (by lia)) λn=>az (ak.of (s5 _ _ hk)) (v:=.int j) Y #[_,fg (aj.of (s5 _ _ hs)),?_];exact aU (λh0=>absurd h0 (by lia)) λn=>hN _ _ #[Y,Y]
    rintro n yR G H8 ⟨rfl,rfl⟩;subst yR;rfl';refine az (ak.of (s5 _ _ hk)) (v:=.int j) Y (bR (aj.of (s5 _ _ hs)) (dQ hvj) #[pj,sj.1,sj.2,Y,ak.of (s5 _ _ hpj),?_]);rw[MX hcj];exact q _ s5
   .cases e1;refine aD (λG H3=>G=[U wv,U (.ref s),U (.ref gl),U (.ref k),U (.ref z),O]/\H3=H2) (λN hN=>?_) ?_
    .rfl';refine az (ak.of hk) (v:=.str "at") Y ?_
     first|exact hN _ _ ⟨rfl,rfl⟩|exact aU (λh=>absurd h (by decide)) λn=>hN _ _ #[Y,Y]
    rintro n yR G H3 ⟨rfl,rfl⟩;subst yR;refine uJ "at" (hk) ?_;refine aD (λG H5=>∃ l0,G=[U wv,U (.ref s),U (.ref gl),U (.ref k),U (.ref z),U (.ref l0)]/\ai H3 H5) (λN hN=>?_) ?_
    .rfl';exact#[by decide,λp hp=>hN _ _ #[p,Y,ao hp]]
    rintro n yR G H5 ⟨l0,rfl,s5⟩;subst yR;refine uJ "at" ((s5 _ _ hk)) ?_;refine aD (λG H7=>G=[U wv,U (.ref s),U (.ref gl),U (.ref k),U (.ref z),U (.ref gl)]/\H7=H5) (λN hN=>?_) ?_
    .rfl';refine az (ak.of (s5 _ _ hk)) (v:=.str "at") Y ?_
     first|exact hN _ _ ⟨rfl,rfl⟩|exact aU (λh=>absurd h (by decide)) λn=>hN _ _ #[Y,Y]
    rintro n yR G H7 ⟨rfl,rfl⟩;subst yR;rw[adR] at hj;obtain⟨sj,hsj,hcj⟩:=aeh.mp hj;obtain⟨vj,hvj,pj,rfl,hpj⟩:=hG.at hsj;have jl:=(adI.mp hvj).1;refine aD (λG H8=>G=[U wv,U (.ref s),U (.ref gl),U (.ref k),U (.ref z),U (.ref gl)]/\H8=H7) (λN hN=>?_) ?_
    .rfl';refine#[_,nA (ak.of (s5 _ _ hk)),?_];refine az (ak.of (s5 _ _ hk)) (v:=.int j) Y #[_,Y,.inr #[_,Y],?_];refine az (ak.of (s5 _ _ hk)) (v:=.int j) Y ?_;rfl';refine aU (λh0=>absurd h0 (by lia)) λn=>az (ak.of (s5 _ _ hk)) (v:=.int j) Y #[_,fg (aj.of (s5 _ _ hg)),?_];exact aU (λh0=>absurd h0 (by lia)) λn=>hN _ _ #[Y,Y]
    rintro n yR G H8 ⟨rfl,rfl⟩;subst yR;rfl';refine az (ak.of (s5 _ _ hk)) (v:=.int j) Y (bR (aj.of (s5 _ _ hg)) (dQ hvj) #[pj,sj.1,sj.2,Y,ak.of (s5 _ _ hpj),?_]);rw[MX hcj];exact q _ s5
   .cases tt with
    | nil=>exact hv.elim
    | full =>
     obtain⟨r,er,cP⟩:=hp;cases er;refine aD (λn n=>False) (λN hN=>?_) (λn n n n h=>h.elim);refine az (ak.of cP) (v:=.str "full") Y ?_;rfl';refine#[_,nA (ak.of cP),aU (λn=>?_) λh0=>absurd Y h0];obtain⟨r9,rfl,hR9,n⟩:=hW;refine#[_,fg (aj.of hz),az (ak.of hR9) (v:=.int m) Y ?_];rfl';rw[adA,decide_eq_true (show m<((as.length:Nat):Int) from hv)];exact q _ (ai.refl _)
    | cls c a b =>
     obtain⟨r,p,p2,x,y,er,hk,cK,dZ,hx,hy⟩:=id hp;cases er;refine aD (λG H3=>G=[U wv,U (.ref s),U (.ref gl),U (.ref k),U (.ref z),O]/\H3=H2) (λN hN=>?_) ?_
     .refine az (ak.of hk) (v:=.str "clash") Y ?_
      first|exact hN _ _ ⟨rfl,rfl⟩|exact aU (λh=>absurd h (by decide)) λn=>hN _ _ #[Y,Y]
     rintro n yR G H3 ⟨rfl,rfl⟩;subst yR;have HA:br a<N:=by have h2:(if br a<=br b then br b else br a)+1<N+1:=hh;split at h2<;>lia
     have HB:br b<N:=by have h2:(if br a<=br b then br b else br a)+1<N+1:=hh;split at h2<;>lia
     refine aD (λn n=>False) (λN9 hN=>?_) (λn n n n h=>h.elim);refine az (ak.of hk) (v:=.str "clash") Y ?_;rfl';exact#[_,nA (ak.of hk),aU (λn=>#[wv,_,w,s,gl,z,e,t,u,d,m,sl,gs,fs,pp,tb,as,c,a,b,Y,by lia,hK,hz,by lia,hp,HA,HB,e1,e2,hv,q]) λh0=>absurd Y h0]
theorem aaL(T:aC):aV 33 T.mT (yV 10):=aaK T 10
theorem aaM(u d:Int)(ps:List Pa)(n:Nat):((adM n).map (λ(k:Nat)=>bC (U (-d),U u) (sel ps "step" (k:Int)))).map iM=dM u d ps n:=by unfold dM;rw[aev];exact afh λk y=>rfl
theorem aaN(ps:List Pa)(n:Nat):((adM n).map (λ(k:Nat)=>bC (O,O) (sel ps "at" (k:Int)))).map iM=eW ps n:=by unfold eW;rw[aev];exact afh λk y=>rfl
inductive aaO(vs:List V)(H:Hp)(Q:VK)(aO:XK):Prop
 | mk(wv v:V)(w cl:adK)(e t u d m:Int)(tb:Tb)(xs:List V)(ps:List Pa)(_:vs=[wv,.ref cl,v])(_:fD H wv w e t u d m tb)(_:1<=t)(_:t<=12)(_:cj e t tb)(_:aj K H cl xs)(_:da H xs ps)(_:ps.length<=900)(_:gN H v (dM u d ps (t-1).toNat) (eW ps t.toNat) tb m [] 10)(_:∀ H',ai H H'->Q (.bl true) H')
theorem M5(T:aC):aV 34 T.XH aaO:=by
 refine bD uV ?_;rintro y y y s H y Q y hr ⟨wv,v,w,cl,e,t,u,d,m,tb,xs,ps,rfl,hW,t1,t2,aA,hX,hP,hn,hR,q⟩;refine#[_,(aq (aJ 3 uV.nd (aP (ae (aE cf ag (ar (aa 0) ag)) (ae (ar (aa 0) ag) ah)))) (aq (tT (i:=4) (cO [3,1] ["_law_own",rM]) Y uV.nd Y Y (jm Y T.eV (ae (aE cf (ar (aa 0) ag) ag) ah)) (λC s2 H2 ex pn=>#[dH,(aF (Mp T) hr (ae (aa 1) (ae (aa 2) (ae aS (ae (aa 0) ah)))))])) (aq (tT (i:=5) (cO [1] [rM]) Y uV.nd Y Y (jm Y T.eV (ae (ar (aa 0) ag) ah)) (λC s2 H2 ex pn=>#[dH,(aF (Mp T) hr (ae (aP (ae bI (ae bI ah))) (ae (aa 1) (ae aS (ae (aa 0) ah)))))])) (aw (aB (aF (aaL T) hr (ae (aa 0) (ae (aa 4) (ae (aa 5) (ae (aa 2) (ae (cE ah) ah))))))))))),?_];obtain⟨r,rfl,dk,hT⟩:=id hW;refine aD (λG H1=>∃ p,G=[U (.ref r),U (.ref cl),U v,U (.ref p),O,O]/\ai H H1/\H1 p=U (.tup [.int (-d),.int u])) (λN hN=>?_) ?_
 .refine az (ak.of dk) (v:=.int d) Y ?_;rfl';refine az (ak.of dk) (v:=.int u) Y #[aY,λp hp=>hN _ _ #[p,Y,ao hp,?_]];rw[au,Int.zero_sub]
 rintro y yR G H1 ⟨p,rfl,s1,hp⟩;subst yR;refine aD (λG H2=>∃ s ys,G=[U (.ref r),U (.ref cl),U v,U (.ref p),U (.ref s),O]/\ai H H2/\H2 s=U (.lst ys)/\ay (λv x=>aR H2 v x.1 x.2) ys ((adM (t-1).toNat).map (λ(k:Nat)=>bC (U (-d),U u) (sel ps "step" (k:Int))))) (λN hN=>?_) ?_
 .rfl';refine az (ak.of (s1 _ _ dk)) (v:=.int t) Y ?_;refine#[by lia,by lia,cX iT (by rw[adA,adO];exact adG (by lia:_<=12) (by decide)) (gW (R:=λ_ x (k:Nat)=>x=V.int ((0:Int)+k)) (R':=λH v (x:S2)=>aR H v x.1 x.2) (f:=λ(k:Nat)=>bC (U (-d),U u) (sel ps "step" (k:Int))) (λy y y y y h=>h) (λy y y y s' h=>h.same s') (ay.gq _) (bs:=[]) trivial (λy y=>trivial) (λx k y H2 s2 r Q h=>?_) (λx k y H2 s2 r Q h=>?_) λH2 zs s2 hz=>?_)]
  .exact h
  .subst r;refine#[p,cl,U (-d),U u,xs,ps,"step",_,Y,ak.of (s2 _ _ hp),(s1.trans s2).seq hX,hP.same (s1.trans s2),by lia,λv H3 s3 hv=>h _ _ s3 ?_];rw[aif] at hv;exact hv
  .intro l hl;rw[ad4] at hz;exact hN _ _ #[l,zs,Y,s1.trans (s2.trans (ao hl)),au,hz.imp λy y r=>r.same (ao hl)]
 rintro y yR G H2 ⟨s,ys,rfl,s2,hs,hS⟩;subst yR;refine aD (λG H3=>∃ gl zs,G=[U (.ref r),U (.ref cl),U v,U (.ref p),U (.ref s),U (.ref gl)]/\ai H2 H3/\H3 gl=U (.lst zs)/\ay (λv x=>aR H3 v x.1 x.2) zs ((adM t.toNat).map (λ(k:Nat)=>bC (O,O) (sel ps "at" (k:Int))))) (λN hN=>?_) ?_
 .rfl';refine az (ak.of (s2 _ _ dk)) (v:=.int t) Y ?_;rfl';refine#[by lia,by lia,cX iT (by rw[adA,adO];exact adG (by lia:_<=12) (by decide)) (gW (R:=λ_ x (k:Nat)=>x=V.int ((0:Int)+k)) (R':=λH v (x:S2)=>aR H v x.1 x.2) (f:=λ(k:Nat)=>bC (O,O) (sel ps "at" (k:Int))) (λy y y y y h=>h) (λy y y y s' h=>h.same s') (ay.gq _) (bs:=[]) trivial (λy y=>trivial) (λx k y H4 s4 r Q h=>?_) (λx k y H4 s4 r Q h=>?_) λH4 zs s4 hz=>?_)]
  .exact h
  .subst r;rfl';refine#[aY,λp2 dZ=>?_];have u2:=ao (o:=.tup [.non,.non]) dZ;have U9q:=s2.trans (s4.trans u2);refine#[p2,cl,O,O,xs,ps,"at",_,Y,ak.of au,U9q.seq hX,hP.same U9q,by lia,λv H3 s3 hv=>h _ _ (u2.trans s3) ?_];rw[aif] at hv;exact hv
  .intro l hl;rw[ad4] at hz;exact hN _ _ #[l,zs,Y,s4.trans (ao hl),au,hz.imp λy y r=>r.same (ao hl)]
 rintro y yR G H3 ⟨gl,zs,rfl,s3,hg,hG⟩;subst yR;rfl';refine#[by decide,λp9 Dk=>?_];have u9:=ao (o:=.lst []) Dk;have U9q:=s2.trans (s3.trans u9);refine#[.ref r,v,w,s,gl,p9,e,t,u,d,m,_,_,tb,[],Y,by decide,by decide,#[ys,zs,hW.same U9q,(s3.trans u9) _ _ hs,hS.imp λy y x=>x.same (s3.trans u9),u9 _ _ hg,hG.imp λy y x=>x.same u9,?_,?_,aA.1,λx hx=>?_],au,by decide,?_,λH' s'=>q _ (U9q.trans s')]
 .rw[adA,adA,adO,adO];lia
 .rw[adA,adO];lia
 .rw[adA,adO];obtain⟨⟨b1,b2⟩,b3,b4⟩:=aA.2 x hx;lia
 .rw[aaM,aaN];exact hR.same U9q
def bY(i j:Int):Prop:=0<=i/\i<=j/\j<=11
inductive aaP(N:adK)(vs:List V)(H:Hp)(Q:VK)(E:XK):Prop
 | mk(x C dx:adK)(i j:Int)(_:vs=[.ref x,.int i,.int j])(_:H x=U (.ins C dx []))(_:cg K C)(_:bA K C "first")(_:bA K C "last")(_:(¬ bY i j->E (.ref N) O H))(_:(bY i j->Q .non (upd H x (.ins C dx [("first",.int i),("last",.int j)]))))
theorem vD(T:aC):bJ 1 T.n6 (aaP T.kG):=by
 refine iG KC ?_;rintro v v v v H v v E v ⟨x,C,dx,i,j,rfl,hx,hc,n1,n2,q0,q⟩;refine#[_,(aq (aG (cV (Vh fU fU fU ag (aa 1) (aa 2) (ui T.L8 Y))) (aw (jv jw Y T.B9 T.C8 Y (ae aS ah))) aH) (aq (fz (aa 0) (aa 1) Y) (aw (fz (aa 0) (aa 2) Y)))),?_];rfl';have no:∀ D G,¬ bY i j->∀ y,wN T.kG E (tE (tC (.str y)) oI) D G H:=λD G z y=>#[by show 1<=ad1;decide,q0 z]
 refine aU (λh1=>aU (λh2=>aU (λh3=>no _ _ (λz=>h3 z.2.2) _) λh3=>?_) λh2=>no _ _ (λz=>h2 z.2.1) _) λh1=>no _ _ (λz=>h1 z.1) _;refine#[_,_,_,hx,hc,n1,(by show 0<1000;decide),_,_,_,au,hc,n2,(by show 1<1000;decide),?_];rw[jT];exact q #[h1,h2,by lia]
inductive aaQ(C N:adK)(vs:List V)(H:Hp)(Q:VK)(E:XK):Prop
 | mk(x dx:adK)(i j:Int)(v:V)(_:vs=[.ref x,.int i,.int j,v])(_:H x=U (.ins C dx []))(_:(¬ bY i j->E (.ref N) O H))(_:(bY i j->Q .non (upd H x (.ins C dx [("first",.int i),("last",.int j),("stretch",v)]))))
theorem aaR(T:aC):bJ 2 T.Ce (aaQ T.dh T.kG):=by refine iG KH ?_;rintro y y y y y y y y hr ⟨x,dx,i,j,v,rfl,hx,q0,q⟩;refine#[_,(aq (dq (t6 Y T.uX T.vh (vD T) hr.m T.n6.b .nil gT (ae (aa 0) (ae (aa 1) (ae (aa 2) ah))))) (aw (fz (aa 0) (aa 3) Y))),?_];refine#[x,T.dh,dx,i,j,Y,hx,T.i8,T.CS,T.yx,q0,λhk=>?_];refine#[_,_,_,au,T.i8,T.CT,(by show 2<1000;decide),?_];rw[jT];exact q hk
inductive aaS(C N:adK)(vs:List V)(H:Hp)(Q:VK)(E:XK):Prop
 | mk(x dx:adK)(i j:Int)(v:V)(_:vs=[.ref x,.int i,.int j,v])(_:H x=U (.ins C dx []))(_:(¬ bY i j->E (.ref N) O H))(_:(bY i j->Q .non (upd H x (.ins C dx [("first",.int i),("last",.int j),("sill",v)]))))
theorem aaT(T:aC):bJ 2 T.Ci (aaS T.di T.kG):=by refine iG KL ?_;rintro y y y y y y y y hr ⟨x,dx,i,j,v,rfl,hx,q0,q⟩;refine#[_,(aq (dq (t6 Y T.uX T.vh (vD T) hr.m T.n6.b .nil gT (ae (aa 0) (ae (aa 1) (ae (aa 2) ah))))) (aw (fz (aa 0) (aa 3) Y))),?_];refine#[x,T.di,dx,i,j,Y,hx,T.i9,T.CU,T.yy,q0,λhk=>?_];refine#[_,_,_,au,T.i9,T.CV,(by show 2<1000;decide),?_];rw[jT];exact q hk
inductive aaU(C N:adK)(vs:List V)(H:Hp)(Q:VK)(E:XK):Prop
 | mk(x dx:adK)(i j:Int)(v:V)(_:vs=[.ref x,.int i,.int j,v])(_:H x=U (.ins C dx []))(_:(¬ bY i j->E (.ref N) O H))(_:(bY i j->Q .non (upd H x (.ins C dx [("first",.int i),("last",.int j),("sill",v)]))))
theorem aaV(T:aC):bJ 2 T.Cm (aaU T.dj T.kG):=by refine iG KP ?_;rintro y y y y y y y y hr ⟨x,dx,i,j,v,rfl,hx,q0,q⟩;refine#[_,(aq (dq (t6 Y T.uX T.vh (vD T) hr.m T.n6.b .nil gT (ae (aa 0) (ae (aa 1) (ae (aa 2) ah))))) (aw (fz (aa 0) (aa 3) Y))),?_];refine#[x,T.dj,dx,i,j,Y,hx,T.ja,T.CW,T.yz,q0,λhk=>?_];refine#[_,_,_,au,T.ja,T.CY,(by show 2<1000;decide),?_];rw[jT];exact q hk
inductive aaW(C N:adK)(vs:List V)(H:Hp)(Q:VK)(E:XK):Prop
 | mk(x dx:adK)(i j:Int)(v:V)(_:vs=[.ref x,.int i,.int j,v])(_:H x=U (.ins C dx []))(_:(¬ bY i j->E (.ref N) O H))(_:(bY i j->Q .non (upd H x (.ins C dx [("first",.int i),("last",.int j),("stretch",v)]))))
theorem aaX(T:aC):bJ 2 T.Cs (aaW T.cZ T.kG):=by refine iG KW ?_;rintro y y y y y y y y hr ⟨x,dx,i,j,v,rfl,hx,q0,q⟩;refine#[_,(aq (dq (t6 Y T.uX T.vh (vD T) hr.m T.n6.b .nil gT (ae (aa 0) (ae (aa 1) (ae (aa 2) ah))))) (aw (fz (aa 0) (aa 3) Y))),?_];refine#[x,T.cZ,dx,i,j,Y,hx,T.jL,T.LU,T.C1,q0,λhk=>?_];refine#[_,_,_,au,T.jL,T.LV,(by show 2<1000;decide),?_];rw[jT];exact q hk
inductive aaY(C N:adK)(vs:List V)(H:Hp)(Q:VK)(E:XK):Prop
 | mk(x dx:adK)(i j l h:Int)(_:vs=[.ref x,.int i,.int j,.int l,.int h])(_:H x=U (.ins C dx []))(_:(¬ (bY i j/\l<h)->∀ H',SameBut x H H'->E (.ref N) O H'))(_:(bY i j/\l<h->Q .non (upd H x (.ins C dx [("first",.int i),("last",.int j),("low",.int l),("high",.int h)]))))
theorem aaZ(T:aC):bJ 2 T.Cp (aaY T.dD T.kG):=by refine iG KS ?_;rintro v v v v v v v v hr ⟨x,dx,i,j,l,h,rfl,hx,q0,q⟩;refine#[_,(aq (dq (t6 Y T.uX T.vh (vD T) hr.m T.n6.b .nil gT (ae (aa 0) (ae (aa 1) (ae (aa 2) ah))))) (aq (aG (BN (aa 3) (aa 4)) (aw (jv jw Y T.B9 T.C8 Y (ae aS ah))) aH) (aq (fz (aa 0) (aa 3) Y) (aw (fz (aa 0) (aa 4) Y))))),?_];refine#[x,T.dD,dx,i,j,Y,hx,T.fB,T.yA,T.rV,λz=>q0 (λy=>z y.1) _ λv v v e=>e,λhk=>?_];refine aU (λh1=>#[by decide,q0 (λy=>by lia) _ λb o hb e=>by rw[aK hb];exact e]) λh1=>?_;refine#[_,_,_,au,T.fB,T.CZ,(by show 2<1000;decide),_,_,_,au,T.fB,T.C0,(by show 3<1000;decide),?_];rw[jT,jT];exact q #[hk,by lia]
inductive aa0(C N:adK)(vs:List V)(H:Hp)(Q:VK)(E:XK):Prop
 | mk(x dx:adK)(i:Int)(_:vs=[.ref x,.int i])(_:H x=U (.ins C dx []))(_:(¬ (0<i/\i<11)->E (.ref N) O H))(_:(0<i/\i<11->Q .non (upd H x (.ins C dx [("turn",.int i)]))))
theorem aa1(T:aC):bJ 1 T.Cv (aa0 T.eB T.kG):=by
 refine iG K2 ?_;rintro v v v v H v v E v ⟨x,dx,i,rfl,hx,q0,q⟩;refine#[_,(aq (aG (cV (xZ oF oF ag (aa 1) (ui T.L8 Y))) (aw (jv jw Y T.B9 T.C8 Y (ae aS ah))) aH) (aw (fz (aa 0) (aa 1) Y))),?_];rfl';have no:∀ D G,¬ (0<i/\i<11)->∀ y,wN T.kG E (tE (tC (.str y)) oI) D G H:=λD G z y=>#[by show 1<=ad1;decide,q0 z]
 refine aU (λh1=>aU (λh2=>?_) λh2=>no _ _ (λz=>h2 z.2) _) λh1=>no _ _ (λz=>h1 z.1) _;exact#[_,_,_,hx,T.lJ,T.yB,(by show 0<1000;decide),q #[h1,h2]]
inductive aa2(vs:List V)(H:Hp)(Q:VK)(aO:XK):Prop
 | mk(x C dx:adK)(fs:List (Str × V))(j:Int)(_:vs=[.ref x])(_:H x=U (.ins C dx fs))(_:cg K C)(_:bA K C "last")(_:fs.lookup ("last" : Str)=U (.int j))(_:Q (.int j) H)
theorem vE(T:aC):bJ 1 T.jK aa2:=by refine cA KD ?_;rintro y y y y y y y y y ⟨x,C,dx,fs,j,rfl,hx,hc,n1,hl,q⟩;refine#[_,(aw (aB (a9 Y (aa 0) Y))),?_];exact#[_,_,_,hx,hc,n1,_,hl,q]
inductive aa3(vs:List V)(H:Hp)(Q:VK)(aO:XK):Prop
 | mk(x C dx:adK)(fs:List (Str × V))(j:Int)(_:vs=[.ref x])(_:H x=U (.ins C dx fs))(_:cg K C)(_:bA K C "turn")(_:fs.lookup ("turn" : Str)=U (.int j))(_:Q (.int (j+1)) H)
theorem aa4(T:aC):bJ 1 T.Cw aa3:=by refine cA K3 ?_;rintro y y y y y y y y y ⟨x,C,dx,fs,j,rfl,hx,hc,n1,hl,q⟩;refine#[_,(aw (aB (aE a8 (a9 Y (aa 0) Y) ag))),?_];exact#[_,_,_,hx,hc,n1,_,hl,q]
noncomputable def M6(lo:En):List S2:=match lo with|none=>[]|some l=>[(O,U (l-1))]
noncomputable def M7(hi:En):List S2:=match hi with|none=>[]|some h=>[(U (h+1),O)]
theorem aa5(lo hi:En):gF (lo,hi)=M6 lo++M7 hi:=by cases lo<;>cases hi<;>rfl
inductive aa6(vs:List V)(H:Hp)(Q:VK)(aO:XK):Prop
 | mk(p:adK)(s:S2)(_:vs=[.ref p])(_:H p=U (.tup [ev s.1,ev s.2]))(_:∀ l xs H',ai H H'->H l=O->H' l=U (.lst xs)->mw H' xs (gF s)->Q (.ref l) H')
theorem aa7(T:aC):aV 1 T.Xa aa6:=by
 refine bD x8 ?_;rintro y y y s H y y y y ⟨p,⟨lo,hi⟩,rfl,hp,q⟩;refine#[_,(aq (aJ 1 x8.nd (nq (eh (ar (aa 0) ag)) (cE ah) (cE (ae (aP (ae bI (ae (aE cf (ar (aa 0) ag) ag) ah))) ah)))) (aq (aJ 2 x8.nd (nq (eh (ar (aa 0) ag)) (cE ah) (cE (ae (aP (ae (aE a8 (ar (aa 0) ag) ag) (ae bI ah))) ah)))) (aw (aB (aE j5 (aa 1) (aa 2)))))),?_];replace hp:H p=U (.tup [ev lo,ev hi]):=hp;rw[aa5] at q;refine aD (λG H1=>∃ a xs,G=[U (.ref p),U (.ref a),O]/\ai H H1/\H1 a=U (.lst xs)/\xs.length<=1/\ay (λv (s:S2)=>aR H1 v s.1 s.2) xs (M6 lo)) (λN hN=>?_) ?_
 .clear q;rcases lo with y|lo
  .refine aQ hp ?_;exact#[by decide,λa ha=>hN _ _ #[a,[],Y,ao ha,au,by decide,trivial]]
  .refine aQ hp ?_;refine aQ hp ?_;rfl';exact#[aY,λta DM=>#[by decide,λa ha=>hN _ _ #[a,[.ref ta],Y,(ao DM).trans (ao ha),au,adJ _,#[ta,Y,(ao ha) _ _ au],trivial]]]
 rintro y yR G H1 ⟨a,xs,rfl,s1,ha,xl,hx⟩;subst yR;refine aD (λG H2=>∃ b ys,G=[U (.ref p),U (.ref a),U (.ref b)]/\ai H1 H2/\H2 b=U (.lst ys)/\ys.length<=1/\ay (λv (s:S2)=>aR H2 v s.1 s.2) ys (M7 hi)) (λN hN=>?_) ?_
 .clear q;replace hp:=s1 _ _ hp;rcases hi with y|hi
  .rfl';refine aQ hp ?_;exact#[by decide,λa ha=>hN _ _ #[a,[],Y,ao ha,au,by decide,trivial]]
  .rfl';refine aQ hp ?_;refine aQ hp ?_;exact#[aY,λta DM=>#[by decide,λa ha=>hN _ _ #[a,[.ref ta],Y,(ao DM).trans (ao ha),au,adJ _,#[ta,Y,(ao ha) _ _ au],trivial]]]
 rintro y yR G H2 ⟨b,ys,rfl,s2,hb,yl,hy⟩;subst yR;rfl';exact#[_,s2 _ _ ha,_,hb,adG (by lia:xs.length+ys.length<=2) (by decide),λc hc=>q c _ _ (s1.trans (s2.trans (ao hc))) ((s1.trans s2).free hc) au (lj.mpr (ay.app (hx.imp λy y z=>aR.same z (s2.trans (ao hc))) (hy.imp λy y z=>aR.same z (ao hc))))]
inductive aa8(vs:List V)(H:Hp)(Q:VK)(aO:XK):Prop
 | mk(a:adK)(xs:List V)(ps:List Pa)(_:vs=[.ref a])(_:aj K H a xs)(_:da H xs ps)(_:ps.length<=100)(_:∀ l ys H',ai H H'->H l=O->H' l=U (.lst ys)->ay (bO H H') ys (bX ps)->Q (.ref l) H')
inductive aa9(H:Hp)(a l:adK)(ps:List Pa)(i:Nat)(G:St)(H1:Hp):Prop
 | mk(ys:List V)(e:Option V)(_:G=[U (.ref a),U (.ref l),e])(_:ai H H1)(_:H1 l=U (.lst ys))(_:ay (iD H l H1) ys (bX (ps.take i)))(_:ys.length<=2 * i)
theorem vF(T:aC):aV 2 T.Xb aa8:=by
 refine bD x9 ?_;rintro y y y s H y Q y hr ⟨a,xs,ps,rfl,hS,hP,hn,q⟩;refine#[_,(aq (aJ 1 x9.nd (cE ah)) (aq (eM aem Y (dX (aa 0)) (df 2 x9.nd) (aw (dq (kU aet agN agO Aa (aa 1) (ae (dz (cO [2] ["part"]) Y (dX (aF (aa7 T) hr (ae (ar (aa 2) ag) ah))) (λC s2 H2 ex pn=>#[dH,(cE (ae (aP (ae (cu (K:=K) (aa 1) ag) (ae (cu (K:=K) (aa 1) ag) (ae (aa 0) ah)))) ah))])) ah))))) (aw (aB (aa 1))))),?_];have hl:=hP.len;rfl';refine#[by decide,λl eG=>?_];have s1:=ao (o:=.lst []) eG;have e1:upd H l (.lst []) l=U (.lst []):=au;generalize upd H l (.lst [])=H1 at s1 e1 ⊢;refine#[#[_,s1.seq hS],l5 (xs:=xs) (aa9 H a l ps) #[[],_,Y,s1,e1,trivial,ad6 _] ?_ ?_ ?_]
 .rintro i G H2 y ⟨y,y,y,s2,y⟩;exact s2.seq hS
 .rintro i x G H2 hx ⟨ys,e,rfl,s2,bb,hy,hlen⟩;obtain⟨p,hp,tp,sp,rfl,h1,h2⟩:=hP.get hx;have qR:=s2 _ _ h1;have t4:=s2 _ _ h2;rfl';refine#[.inl #[Y,_,aj.of bb],aQ qR ?_];refine#[sp,p.2.2,Y,t4,λo os H3 s3 y ho oQ=>?_];rfl';have uv:=lj.mp oQ;have Jy:=uv.len;have h2o:=ue p.2.2;refine#[#[_,aj.of ho],cX kf (adG (by lia:os.length<=2) (by decide)) (gW (R:=λH x (s:S2)=>aR H x s.1 s.2) (R':=iD H l) (f:=λs=>[((p.1,p.2.1,s):Pa)]) (λy y y y s' h=>h.same s') (λy y y y s' h=>h.same s') uv (bs:=[]) trivial (λH' s'=>aj.of (s' _ _ ho)) (λx k y H4 s4 r Q h=>?_) (λx k y H4 s4 r Q h=>?_) λH4 zs s4 hz=>?_)]
  .exact h
  .obtain⟨xo,rfl,hxo⟩:=r;have S4:=s3.trans s4;rfl';refine az (ak.of (S4 _ _ qR)) Y (az (ak.of (S4 _ _ qR)) Y #[by decide,λt ht=>#[by decide,λc hc=>?_]]);have u1:=ao (o:=.tup [.str p.1,.int p.2.1,.ref xo]) ht;have u2:=ao (o:=.lst [.ref t]) hc;have cl:c≠l:=λz=>by rw[z,u1 _ _ (S4 _ _ bb)] at hc;cases hc
   exact h _ _ (u1.trans u2) #[c,[.ref t],Y,cl,(s2.trans (S4.trans u1)).free hc,au,#[t,xo,Y,u2 _ _ au,(u1.trans u2) _ _ hxo],trivial]
  .intro b hb;rw[ad4] at hz;have S4:=s3.trans s4;have u:=ao (o:=.lst zs) hb;have DN:=hz.len;rw[adA] at DN;have hi:i<xs.length:=(adI.mp hx).1;refine#[l,b,_,_,Y,Y,u _ _ (S4 _ _ bb),au,adG (by lia:ys.length+zs.length<=300) (by decide),ys++zs,_,Y,ir eG (s2.trans (S4.trans u)),au,?_,by rw[adT];lia];rw[Vk hp];have a1:=(hy.imp λy y r=>(r.same (S4.trans u)).put (o:=.lst (ys++zs)) (u _ _ (S4 _ _ bb)))
   have a2:=(hz.imp λy y r=>(r.same u).put (o:=.lst (ys++zs)) (u _ _ (S4 _ _ bb)))
   exact a1.app a2
 .rintro G H2 ⟨ys,e,rfl,s2,bb,hy,hlen⟩;rw[hl,aeN] at hy;exact q l ys H2 s2 eG bb (hy.imp λy y r=>r.Bv)
inductive aba(vs:List V)(H:Hp)(Q:VK)(aO:XK):Prop
 | mk(i j:Int)(p:adK)(s:S2)(_:vs=[.int i,.int j,.ref p])(_:H p=U (.tup [ev s.1,ev s.2]))(_:(0<=i/\i<=12))(_:(-1<=j/\j<=11))(_:∀ l xs H',ai H H'->H l=O->H' l=U (.lst xs)->da H' xs (bz i j s)->Q (.ref l) H')
theorem yW(T:aC):aV 1 T.Xd aba:=by
 refine bD Kz ?_;rintro y y y s y y Q y y ⟨i,j,p,s,rfl,hp,hi,hj,q⟩;refine#[_,(aw (aB (dz (cO [2] [dg]) Y (nu Y T.eV (ae (aa 0) (ae (aE a8 (aa 1) ag) ah))) (λC s2 H2 ex pn=>#[dH,(aP (ae aS (ae (aa 0) (ae (aa 1) ah))))])))),?_];rfl';refine#[by lia,by lia,by lia,by lia,cX iT (by rw[adA,adO];exact adG (by lia:_<=20) (by decide)) (gW (R:=λ_ x (k:Nat)=>x=V.int (i+k)) (R':=jC) (f:=λ(k:Nat)=>(("at",i+(k:Int),s):Pa)) (λy y y y y h=>h) (λy y y y s' h=>h.same s') (ay.gq _) (bs:=[]) trivial (λy y=>trivial) (λx k y H2 s2 r Q h=>?_) (λx k y H2 s2 r Q h=>?_) λH2 zs s2 hz=>?_)]
 .exact h
 .subst r;rfl';exact#[by decide,λt ht=>h _ _ (ao ht) #[t,p,Y,au,(ao ht) _ _ (s2 _ _ hp)]]
 .intro l hl;refine q l zs _ (s2.trans (ao hl)) (s2.free hl) au ?_;rw[ad4] at hz;exact hz.imp λy y r=>r.same (ao hl)
inductive abb(vs:List V)(H:Hp)(Q:VK)(aO:XK):Prop
 | mk(x C dx p:adK)(fs:List (Str × V))(i j:Int)(s:S2)(_:vs=[.ref x,.ref p])(_:H x=U (.ins C dx fs))(_:cg K C)(_:bA K C "first")(_:bA K C "last")(_:fs.lookup ("first" : Str)=U (.int i))(_:fs.lookup ("last" : Str)=U (.int j))(_:bY i j)(_:H p=U (.tup [ev s.1,ev s.2]))(_:∀ l xs H',ai H H'->H l=O->H' l=U (.lst xs)->da H' xs (bz i j s)->Q (.ref l) H')
theorem sx(T:aC):bJ 2 T.i7 abb:=by refine cA KG ?_;rintro y y y s y y y y hr ⟨x,C,dx,p,fs,i,j,s,rfl,hx,hc,n1,n2,l1,l2,hk,hp,q⟩;refine#[_,(aw (aB (aF (yW T) hr (ae (a9 Y (aa 0) Y) (ae (a9 Y (aa 0) Y) (ae (aa 1) ah)))))),?_];obtain⟨k1,k2,k3⟩:=hk;refine#[_,_,_,hx,hc,n1,_,l1,_,_,_,hx,hc,n2,_,l2,?_];exact#[i,j,p,s,Y,hp,by lia,by lia,q]
inductive abc(C:adK)(vs:List V)(H:Hp)(Q:VK)(aO:XK):Prop
 | mk(x dx p:adK)(i j:Int)(s:S2)(_:vs=[.ref x])(_:H x=U (.ins C dx [("first",.int i),("last",.int j),("stretch",.ref p)]))(_:bY i j)(_:H p=U (.tup [ev s.1,ev s.2]))(_:∀ l ys H',ai H H'->H l=O->H' l=U (.lst ys)->ay (bO H H') ys [bz i j s]->Q (.ref l) H')
theorem abd(T:aC):bJ 3 T.Cf (abc T.dh):=by refine cA KI ?_;rintro y y y s y y y y hr ⟨x,dx,p,i,j,s,rfl,hx,hk,hp,q⟩;refine#[_,(aw (aB (cE (ae (ff (aa 0) T.i8 T.LW (sx T) hr.m T.i7.b .nil bB (ae (a9 Y (aa 0) Y) ah)) ah)))),?_];rfl';refine#[_,_,hx,Y,_,_,_,hx,T.i8,T.CT,_,Y,?_];exact#[x,T.dh,dx,p,_,i,j,s,Y,hx,T.i8,T.CS,T.yx,Y,Y,hk,hp,λl xs H1 s1 fl hl hP=>#[by decide,λc hc=>q c _ _ (s1.trans (ao hc)) (s1.free hc) au #[#[l,xs,Y,fl,(ao hc) _ _ hl,hP.same (ao hc)],trivial]]]
inductive abe(C:adK)(vs:List V)(H:Hp)(Q:VK)(aO:XK):Prop
 | mk(x dx:adK)(i j z:Int)(_:vs=[.ref x])(_:H x=U (.ins C dx [("first",.int i),("last",.int j),("sill",.int z)]))(_:bY i j)(_:∀ l ys H',ai H H'->H l=O->H' l=U (.lst ys)->ay (bO H H') ys (bX (bz i j (O,U (z-1))))->Q (.ref l) H')
theorem abf(T:aC):bJ 3 T.Cj (abe T.di):=by refine cA KN ?_;rintro y y y y y y y y hr ⟨x,dx,i,j,z,rfl,hx,hk,q⟩;refine#[_,(aw (aB (aF (vF T) hr (ae (ff (aa 0) T.i9 T.LX (sx T) hr.m T.i7.b .nil bB (ae (aP (ae bI (ae (aE cf (a9 Y (aa 0) Y) ag) ah))) ah)) ah)))),?_];rfl';refine#[_,_,hx,Y,_,_,_,hx,T.i9,T.CV,_,Y,aY,λt ht=>?_];have s0:=ao (o:=.tup [.non,.int (z-1)]) ht;refine#[x,T.di,dx,t,_,i,j,(O,U (z-1)),Y,s0 _ _ hx,T.i9,T.CU,T.yy,Y,Y,hk,au,λl xs H1 s1 y hl hP=>?_];have hlen:=gG i j (O,U (z-1));obtain⟨k1,k2,k3⟩:=id hk;exact#[l,xs,_,Y,aj.of hl,hP,by lia,λc ys H2 s2 fc hc hy=>q c ys H2 (s0.trans (s1.trans s2)) ((s0.trans s1).free fc) hc (hy.imp λy y r=>r.back (s0.trans s1))]
inductive abg(C:adK)(vs:List V)(H:Hp)(Q:VK)(aO:XK):Prop
 | mk(x dx:adK)(i j z:Int)(_:vs=[.ref x])(_:H x=U (.ins C dx [("first",.int i),("last",.int j),("sill",.int z)]))(_:bY i j)(_:∀ l ys H',ai H H'->H l=O->H' l=U (.lst ys)->ay (bO H H') ys (bX (bz i j (U (z+1),O)))->Q (.ref l) H')
theorem abh(T:aC):bJ 3 T.Cn (abg T.dj):=by refine cA KQ ?_;rintro y y y y y y y y hr ⟨x,dx,i,j,z,rfl,hx,hk,q⟩;refine#[_,(aw (aB (aF (vF T) hr (ae (ff (aa 0) T.ja T.LY (sx T) hr.m T.i7.b .nil bB (ae (aP (ae (aE a8 (a9 Y (aa 0) Y) ag) (ae bI ah))) ah)) ah)))),?_];rfl';refine#[_,_,hx,Y,_,_,_,hx,T.ja,T.CY,_,Y,aY,λt ht=>?_];have s0:=ao (o:=.tup [.int (z+1),.non]) ht;refine#[x,T.dj,dx,t,_,i,j,(U (z+1),O),Y,s0 _ _ hx,T.ja,T.CW,T.yz,Y,Y,hk,au,λl xs H1 s1 y hl hP=>?_];have hlen:=gG i j (U (z+1),O);obtain⟨k1,k2,k3⟩:=id hk;exact#[l,xs,_,Y,aj.of hl,hP,by lia,λc ys H2 s2 fc hc hy=>q c ys H2 (s0.trans (s1.trans s2)) ((s0.trans s1).free fc) hc (hy.imp λy y r=>r.back (s0.trans s1))]
inductive abi(C:adK)(vs:List V)(H:Hp)(Q:VK)(aO:XK):Prop
 | mk(x dx p:adK)(i j:Int)(s:S2)(_:vs=[.ref x])(_:H x=U (.ins C dx [("first",.int i),("last",.int j),("stretch",.ref p)]))(_:bY i j)(_:H p=U (.tup [ev s.1,ev s.2]))(_:∀ l xs H',ai H H'->H l=O->H' l=U (.lst xs)->da H' xs (hU i j s)->Q (.ref l) H')
theorem M8(T:aC):bJ 1 T.yq (abi T.cZ):=by
 refine cA KY ?_;rintro y y y s y y Q y y ⟨x,dx,p,i,j,s,rfl,hx,hk,hp,q⟩;refine#[_,(aw (aB (dz (cO [0] [aL]) Y (nu Y T.eV (ae (a9 Y (aa 0) Y) (ae (a9 Y (aa 0) Y) ah))) (λC s2 H2 ex pn=>#[dH,(aP (ae aS (ae (aa 0) (ae (a9 (K:=K) Y (aa 1) Y) ah))))])))),?_];obtain⟨k1,k2,k3⟩:=hk;rfl';refine#[_,_,_,hx,T.jL,T.LU,_,Y,_,_,_,hx,T.jL,T.C1,_,Y,_,Y,_,Y,by lia,by lia,by lia,by lia,?_];refine cX iT (by rw[adA,adO];exact adG (by lia:_<=20) (by decide)) (gW (R:=λ_ x (k:Nat)=>x=V.int (i+k)) (R':=jC) (f:=λ(k:Nat)=>(("step",i+(k:Int),s):Pa)) (λy y y y y h=>h) (λy y y y s' h=>h.same s') (ay.gq _) (bs:=[]) trivial (λy y=>trivial) (λx k y H2 s2 r Q h=>?_) (λy k y H2 s2 r Q h=>?_) λH2 zs s2 hz=>?_)
 .exact h
 .subst r;rfl';refine#[_,_,_,s2 _ _ hx,T.jL,T.LV,_,Y,by decide,λt ht=>h _ _ (ao ht) #[t,p,Y,au,(ao ht) _ _ (s2 _ _ hp)]]
 .intro l hl;refine q l zs _ (s2.trans (ao hl)) (s2.free hl) au ?_;rw[ad4] at hz;exact hz.imp λy y r=>r.same (ao hl)
inductive abj(C:adK)(vs:List V)(H:Hp)(Q:VK)(aO:XK):Prop
 | mk(x dx p:adK)(i j:Int)(s:S2)(_:vs=[.ref x])(_:H x=U (.ins C dx [("first",.int i),("last",.int j),("stretch",.ref p)]))(_:bY i j)(_:H p=U (.tup [ev s.1,ev s.2]))(_:∀ l ys H',ai H H'->H l=O->H' l=U (.lst ys)->ay (bO H H') ys [hU i j s]->Q (.ref l) H')
theorem abk(T:aC):bJ 2 T.Ct (abj T.cZ):=by refine cA KZ ?_;rintro y y y s y y y y hr ⟨x,dx,p,i,j,s,rfl,hx,hk,hp,q⟩;refine#[_,(aw (aB (cE (ae (qA (aa 0) T.jL T.LZ (M8 T) hr.m T.yq.b .nil bB) ah)))),?_];rfl';refine#[_,_,hx,Y,?_];exact#[x,dx,p,i,j,s,Y,hx,hk,hp,λl xs H1 s1 fl hl hP=>#[by decide,λc hc=>q c _ _ (s1.trans (ao hc)) (s1.free hc) au #[#[l,xs,Y,fl,(ao hc) _ _ hl,hP.same (ao hc)],trivial]]]
noncomputable def je(t:Int):List Pa:=[("step",t-1,U 1,O),("step",t,O,U (-1))]
inductive abl(C:adK)(vs:List V)(H:Hp)(Q:VK)(aO:XK):Prop
 | mk(x dx:adK)(t:Int)(_:vs=[.ref x])(_:H x=U (.ins C dx [("turn",.int t)]))(_:∀ l xs H',ai H H'->H l=O->H' l=U (.lst xs)->da H' xs (je t)->Q (.ref l) H')
theorem M9(T:aC):bJ 1 T.yr (abl T.eB):=by refine cA K4 ?_;rintro y y y y y y y y y ⟨x,dx,t,rfl,hx,q⟩;refine#[_,(aw (aB (cE (ae (aP (ae aS (ae (aE cf (a9 Y (aa 0) Y) ag) (ae (aP (ae ag (ae bI ah))) ah)))) (ae (aP (ae aS (ae (a9 Y (aa 0) Y) (ae (aP (ae bI (ae (iP i3 ag) ah))) ah)))) ah))))),?_];rfl';refine#[_,_,_,hx,T.lJ,T.yB,_,Y,aY,λa ha=>#[by decide,λb hb=>?_]];have sa:=ao (o:=.tup [.int 1,.non]) ha;have sb:=ao (o:=.tup [.str "step",.int (t-1),.ref a]) hb;refine#[_,_,_,(sa.trans sb) _ _ hx,T.lJ,T.yB,_,Y,aY,λc hc=>#[by decide,λd hd=>#[by decide,λe he=>?_]]];have sc:=ao (o:=.tup [.non,.int (-1)]) hc;have sd:=ao (o:=.tup [.str "step",.int t,.ref c]) hd;have se:=ao (o:=.lst [.ref b,.ref d]) he;have zd:=sd.trans se;have zc:=sc.trans zd;have zb:=sb.trans zc;exact q e _ _ (sa.trans zb) ((sa.trans (sb.trans (sc.trans sd))).free he) au #[#[b,a,Y,zc _ _ au,zb _ _ au],#[d,c,Y,se _ _ au,zd _ _ au],trivial]
inductive abm(C:adK)(vs:List V)(H:Hp)(Q:VK)(aO:XK):Prop
 | mk(x dx:adK)(t:Int)(_:vs=[.ref x])(_:H x=U (.ins C dx [("turn",.int t)]))(_:∀ l ys H',ai H H'->H l=O->H' l=U (.lst ys)->ay (bO H H') ys [je t]->Q (.ref l) H')
theorem abn(T:aC):bJ 2 T.Cy (abm T.eB):=by refine cA K5 ?_;rintro y y y y y y y y hr ⟨x,dx,t,rfl,hx,q⟩;refine#[_,(aw (aB (cE (ae (qA (aa 0) T.lJ T.L3 (M9 T) hr.m T.yr.b .nil bB) ah)))),?_];rfl';refine#[_,_,hx,Y,?_];exact#[x,dx,t,Y,hx,λl xs H1 s1 fl hl hP=>#[by decide,λc hc=>q c _ _ (s1.trans (ao hc)) (s1.free hc) au #[#[l,xs,Y,fl,(ao hc) _ _ hl,hP.same (ao hc)],trivial]]]
noncomputable def yX(i j l h:Int)(n:Nat):List (List Pa):=(adM n).flatMap λk=>(bz (i+(k:Nat)+1) j (U h,O)).map λp=>[(("at",i+(k:Nat),O,U l):Pa),p]
theorem abo(i j l h:Int)(n:Nat):yX i j l h (n+1)=yX i j l h n++(bz (i+(n:Nat)+1) j (U h,O)).map λp=>[(("at",i+(n:Nat),O,U l):Pa),p]:=by unfold yX;rw[alk,ah3];simp
inductive abp(H:Hp)(x r:adK)(i j l h:Int)(n:Nat)(G:St)(H1:Hp):Prop
 | mk(ys:List V)(e1 e2:Option V)(_:G=[U (.ref x),U (.ref r),e1,e2])(_:ai H H1)(_:H1 r=U (.lst ys))(_:ay (iD H r H1) ys (yX i j l h n))(_:ys.length<=12 * n)
inductive abq(C:adK)(vs:List V)(H:Hp)(Q:VK)(aO:XK):Prop
 | mk(x dx:adK)(i j l h:Int)(_:vs=[.ref x])(_:H x=U (.ins C dx [("first",.int i),("last",.int j),("low",.int l),("high",.int h)]))(_:bY i j)(_:∀ r ys H',ai H H'->H r=O->H' r=U (.lst ys)->ay (bO H H') ys (gH i j l h)->Q (.ref r) H')
theorem abr(T:aC):bJ 2 T.Cq (abq T.dD):=by
 refine cA uO ?_;rintro v v v s H v Q v hr ⟨x,dx,i,j,l,h,rfl,hx,hk,q⟩;refine#[_,(aq (aJ 1 uO.nd (cE ah)) (aq (eM aem Y (nu Y T.eV (ae (a9 Y (aa 0) Y) (ae (a9 Y (aa 0) Y) ah))) (df 2 uO.nd) (aq (aJ 3 uO.nd (cE (ae (aP (ae aS (ae (aa 2) (ae (aP (ae bI (ae (a9 Y (aa 0) Y) ah))) ah)))) ah))) (aw (dq (kU aet agN agO Aa (aa 1) (ae (dz (cO [3] ["lows"]) Y (dX (aF (yW T) hr (ae (aE a8 (aa 2) ag) (ae (a9 Y (aa 0) Y) (ae (aP (ae (a9 Y (aa 0) Y) (ae bI ah))) ah))))) (λC s2 H2 ex pn=>#[dH,(aE j5 (aa 1) (cE (ae (aa 0) ah)))])) ah)))))) (aw (aB (aa 1))))),?_];obtain⟨k1,k2,k3⟩:=id hk;rfl';refine#[by decide,λr dk=>?_];have s1:=ao (o:=.lst []) dk;have e1:upd H r (.lst []) r=U (.lst []):=au;generalize upd H r (.lst [])=H1 at s1 e1 ⊢;refine#[_,_,_,s1 _ _ hx,T.fB,T.yA,_,Y,_,_,_,s1 _ _ hx,T.fB,T.rV,_,Y,_,Y,_,Y,by lia,by lia,by lia,by lia,?_];refine qF (abp H x r i j l h) #[[],_,_,Y,s1,e1,trivial,ad6 _] ?_ ?_
 .rintro k G H2 jG ⟨ys,v,v,rfl,s2,ij,hy,hlen⟩;rfl';refine#[_,_,_,s2 _ _ hx,T.fB,T.CZ,_,Y,aY,λa ha=>#[by decide,λb hb=>#[by decide,λlo hlo=>?_]]];have sa:=ao (o:=.tup [.non,.int l]) ha;have sb:=ao (o:=.tup [.str "at",.int (i+(k:Int)),.ref a]) hb;have sl:=ao (o:=.lst [.ref b]) hlo;have S3:=sa.trans (sb.trans sl);have eb:jC (upd (upd (upd H2 a (.tup [.non,.int l])) b (.tup [.str "at",.int (i+(k:Int)),.ref a])) lo (.lst [.ref b])) (.ref b) (("at",i+(k:Int),O,U l):Pa):=#[b,a,Y,sl _ _ au,(sb.trans sl) _ _ au]
  have Na:(upd (upd (upd H2 a (.tup [.non,.int l])) b (.tup [.str "at",.int (i+(k:Int)),.ref a])) lo (.lst [.ref b])) lo=U (.lst [.ref b]):=au;generalize upd (upd (upd H2 a (.tup [.non,.int l])) b (.tup [.str "at",.int (i+(k:Int)),.ref a])) lo (.lst [.ref b])=H3 at S3 eb Na ⊢;have iN:=S3 _ _ ij;have mY:=S3 _ _ (s2 _ _ hx);refine#[.inl #[Y,_,aj.of iN],_,_,_,mY,T.fB,T.rV,_,Y,_,_,_,mY,T.fB,T.C0,_,Y,aY,λc hc=>?_];have sc:=ao (o:=.tup [.int h,.non]) hc;refine#[_,_,c,(U h,O),Y,au,by lia,by lia,λg gs H4 s4 v hg hG=>?_];have S4:=sc.trans s4;have ia:=hG.len;rw[gG] at ia;rfl';refine#[#[_,aj.of hg],cX kf (adG (by lia:gs.length<=12) (by decide)) (gW (R:=jC) (R':=iD H r) (f:=λp=>[(("at",i+(k:Int),O,U l):Pa),p]) (λv v v v s' h=>h.same s') (λv v v v s' h=>h.same s') hG (bs:=[]) trivial (λH' s'=>aj.of (s' _ _ hg)) (λx k v H5 s5 r Q h=>?_) (λy p v H5 s5 ry Q h=>?_) λH5 zs s5 hz=>?_)]
  .exact h
  .have S5:=S4.trans s5;rfl';refine#[by decide,λd hd=>?_];have sd:=ao (o:=.lst [y]) hd;refine#[_,sd _ _ (S5 _ _ Na),_,au,(show 2<=ad1 by decide),λm hm=>?_];have sm:=ao (o:=.lst ([.ref b]++[y])) hm;have mr:m≠r:=λz=>by rw[z,sd _ _ (S5 _ _ iN)] at hm;cases hm
   exact h _ _ (sd.trans sm) #[m,[.ref b,y],Y,mr,(s2.trans (S3.trans (S5.trans sd))).free hm,au,(eb.same (S5.trans (sd.trans sm))),ry.same (sd.trans sm),trivial]
  .intro d hd;rw[ad4] at hz;have u:=(S4.trans s5).trans (ao (o:=.lst zs) hd);have DN:=hz.len;rw[adA,gG] at DN;refine#[r,d,_,_,Y,Y,u _ _ iN,au,adG (by lia:ys.length+zs.length<=300) (by decide),ys++zs,_,_,Y,ir dk (s2.trans (S3.trans u)),au,?_,by rw[adT];lia];rw[abo];have a1:=(hy.imp λv v z=>(z.same (S3.trans u)).put (o:=.lst (ys++zs)) (u _ _ iN))
   have a2:=(hz.imp λv v z=>(z.same (ao (o:=.lst zs) hd)).put (o:=.lst (ys++zs)) (u _ _ iN))
   exact a1.app a2
 .rintro G H2 ⟨ys,v,v,rfl,s2,ij,hy,hlen⟩;exact q r ys H2 s2 dk ij (hy.imp λv v z=>z.Bv)
inductive abt(C:adK)(vs:List V)(H:Hp)(Q:VK)(aO:XK):Prop
 | mk(x dx p:adK)(i j:Int)(s:S2)(_:vs=[.ref x])(_:H x=U (.ins C dx [("first",.int i),("last",.int j),("stretch",.ref p)]))(_:bY i j)(_:H p=U (.tup [ev s.1,ev s.2]))(_:∀ l ys H',ai H H'->H l=O->H' l=U (.lst ys)->ay (bO H H') ys (bX (bz i j s))->Q (.ref l) H')
theorem abu(T:aC):bJ 3 T.Cg (abt T.dh):=by refine cA KJ ?_;rintro y y y s y y y y hr ⟨x,dx,p,i,j,s,rfl,hx,hk,hp,q⟩;refine#[_,(aw (aB (aF (vF T) hr (ae (ff (aa 0) T.i8 T.LW (sx T) hr.m T.i7.b .nil bB (ae (a9 Y (aa 0) Y) ah)) ah)))),?_];rfl';refine#[_,_,hx,Y,_,_,_,hx,T.i8,T.CT,_,Y,?_];have hlen:=gG i j s;obtain⟨k1,k2,k3⟩:=id hk;exact#[x,T.dh,dx,p,_,i,j,s,Y,hx,T.i8,T.CS,T.yx,Y,Y,hk,hp,λl xs H1 s1 y hl hP=>#[l,xs,_,Y,aj.of hl,hP,by lia,λc ys H2 s2 fc hc hy=>q c ys H2 (s1.trans s2) (s1.free fc) hc (hy.imp λy y r=>r.back s1)]]
inductive abv(C:adK)(vs:List V)(H:Hp)(Q:VK)(aO:XK):Prop
 | mk(x dx:adK)(i j z:Int)(_:vs=[.ref x])(_:H x=U (.ins C dx [("first",.int i),("last",.int j),("sill",.int z)]))(_:bY i j)(_:∀ l ys H',ai H H'->H l=O->H' l=U (.lst ys)->ay (bO H H') ys [bz i j (O,U (z-1))]->Q (.ref l) H')
theorem abw(T:aC):bJ 3 T.Ck (abv T.di):=by refine cA KO ?_;rintro y y y y y y y y hr ⟨x,dx,i,j,z,rfl,hx,hk,q⟩;refine#[_,(aw (aB (cE (ae (ff (aa 0) T.i9 T.LX (sx T) hr.m T.i7.b .nil bB (ae (aP (ae bI (ae (aE cf (a9 Y (aa 0) Y) ag) ah))) ah)) ah)))),?_];rfl';refine#[_,_,hx,Y,_,_,_,hx,T.i9,T.CV,_,Y,aY,λt ht=>?_];have s0:=ao (o:=.tup [.non,.int (z-1)]) ht;exact#[x,T.di,dx,t,_,i,j,(O,U (z-1)),Y,s0 _ _ hx,T.i9,T.CU,T.yy,Y,Y,hk,au,λl xs H1 s1 fl hl hP=>#[by decide,λc hc=>q c _ _ (s0.trans (s1.trans (ao hc))) ((s0.trans s1).free hc) au #[#[l,xs,Y,s0.free fl,(ao hc) _ _ hl,hP.same (ao hc)],trivial]]]
inductive abx(C:adK)(vs:List V)(H:Hp)(Q:VK)(aO:XK):Prop
 | mk(x dx:adK)(i j z:Int)(_:vs=[.ref x])(_:H x=U (.ins C dx [("first",.int i),("last",.int j),("sill",.int z)]))(_:bY i j)(_:∀ l ys H',ai H H'->H l=O->H' l=U (.lst ys)->ay (bO H H') ys [bz i j (U (z+1),O)]->Q (.ref l) H')
theorem aby(T:aC):bJ 3 T.Co (abx T.dj):=by refine cA KR ?_;rintro y y y y y y y y hr ⟨x,dx,i,j,z,rfl,hx,hk,q⟩;refine#[_,(aw (aB (cE (ae (ff (aa 0) T.ja T.LY (sx T) hr.m T.i7.b .nil bB (ae (aP (ae (aE a8 (a9 Y (aa 0) Y) ag) (ae bI ah))) ah)) ah)))),?_];rfl';refine#[_,_,hx,Y,_,_,_,hx,T.ja,T.CY,_,Y,aY,λt ht=>?_];have s0:=ao (o:=.tup [.int (z+1),.non]) ht;exact#[x,T.dj,dx,t,_,i,j,(U (z+1),O),Y,s0 _ _ hx,T.ja,T.CW,T.yz,Y,Y,hk,au,λl xs H1 s1 fl hl hP=>#[by decide,λc hc=>q c _ _ (s0.trans (s1.trans (ao hc))) ((s0.trans s1).free hc) au #[#[l,xs,Y,s0.free fl,(ao hc) _ _ hl,hP.same (ao hc)],trivial]]]
theorem DO(i j:Int)(s:S2):(hU i j s).length=(j-i).toNat:=by unfold hU;rw[adA,adO]
inductive abz(C:adK)(vs:List V)(H:Hp)(Q:VK)(aO:XK):Prop
 | mk(x dx p:adK)(i j:Int)(s:S2)(_:vs=[.ref x])(_:H x=U (.ins C dx [("first",.int i),("last",.int j),("stretch",.ref p)]))(_:bY i j)(_:H p=U (.tup [ev s.1,ev s.2]))(_:∀ l ys H',ai H H'->H l=O->H' l=U (.lst ys)->ay (bO H H') ys (bX (hU i j s))->Q (.ref l) H')
theorem abA(T:aC):bJ 3 T.Cu (abz T.cZ):=by refine cA K0 ?_;rintro y y y s y y y y hr ⟨x,dx,p,i,j,s,rfl,hx,hk,hp,q⟩;refine#[_,(aw (aB (aF (vF T) hr (ae (qA (aa 0) T.jL T.LZ (M8 T) hr.m T.yq.b .nil bB) ah)))),?_];rfl';refine#[_,_,hx,Y,?_];have hlen:=DO i j s;obtain⟨k1,k2,k3⟩:=id hk;exact#[x,dx,p,i,j,s,Y,hx,hk,hp,λl xs H1 s1 y hl hP=>#[l,xs,_,Y,aj.of hl,hP,by lia,λc ys H2 s2 fc hc hy=>q c ys H2 (s1.trans s2) (s1.free fc) hc (hy.imp λy y r=>r.back s1)]]
inductive abB(C:adK)(vs:List V)(H:Hp)(Q:VK)(aO:XK):Prop
 | mk(x dx:adK)(t:Int)(_:vs=[.ref x])(_:H x=U (.ins C dx [("turn",.int t)]))(_:∀ l ys H',ai H H'->H l=O->H' l=U (.lst ys)->ay (bO H H') ys (bX (je t))->Q (.ref l) H')
theorem abC(T:aC):bJ 3 T.Cz (abB T.eB):=by refine cA K6 ?_;rintro y y y y y y y y hr ⟨x,dx,t,rfl,hx,q⟩;refine#[_,(aw (aB (aF (vF T) hr (ae (qA (aa 0) T.lJ T.L3 (M9 T) hr.m T.yr.b .nil bB) ah)))),?_];rfl';refine#[_,_,hx,Y,?_];exact#[x,dx,t,Y,hx,λl xs H1 s1 y hl hP=>#[l,xs,_,Y,aj.of hl,hP,(show 2<=100 by decide),λc ys H2 s2 fc hc hy=>q c ys H2 (s1.trans s2) (s1.free fc) hc (hy.imp λy y r=>r.back s1)]]
noncomputable def jQ(i j l h:Int):List (List Pa):=(adM (j+1-i).toNat).map λk=>bz i (i+(k:Nat)-1) (U (l+1),O)++bz (i+(k:Nat)+1) j (O,U (h-1))
inductive abD(C:adK)(vs:List V)(H:Hp)(Q:VK)(aO:XK):Prop
 | mk(x dx:adK)(i j l h:Int)(_:vs=[.ref x])(_:H x=U (.ins C dx [("first",.int i),("last",.int j),("low",.int l),("high",.int h)]))(_:bY i j)(_:∀ r ys H',ai H H'->H r=O->H' r=U (.lst ys)->ay (bO H H') ys (jQ i j l h)->Q (.ref r) H')
theorem abE(T:aC):bJ 2 T.Cr (abD T.dD):=by
 refine cA KU ?_;rintro y y y s H y Q y hr ⟨x,dx,i,j,l,h,rfl,hx,hk,q⟩;refine#[_,(aw (aB (dz (cO [0] [aL]) Y (nu Y T.eV (ae (a9 Y (aa 0) Y) (ae (aE a8 (a9 Y (aa 0) Y) ag) ah))) (λC s2 H2 ex pn=>#[dH,(aE j5 (aF (yW T) hr (ae (a9 (K:=K) Y (aa 1) Y) (ae (aE cf (aa 0) ag) (ae (aP (ae (aE a8 (a9 (K:=K) Y (aa 1) Y) ag) (ae bI ah))) ah)))) (aF (yW T) hr (ae (aE a8 (aa 0) ag) (ae (a9 (K:=K) Y (aa 1) Y) (ae (aP (ae bI (ae (aE cf (a9 (K:=K) Y (aa 1) Y) ag) ah))) ah)))))])))),?_];obtain⟨k1,k2,k3⟩:=id hk;rfl';refine#[_,_,_,hx,T.fB,T.yA,_,Y,_,_,_,hx,T.fB,T.rV,_,Y,_,Y,by lia,by lia,by lia,by lia,?_];refine cX iT (by rw[adA,adO];exact adG (by lia:_<=20) (by decide)) (gW (R:=λ_ x (k:Nat)=>x=V.int (i+k)) (R':=bO H) (f:=λ(k:Nat)=>bz i (i+(k:Int)-1) (U (l+1),O)++bz (i+(k:Int)+1) j (O,U (h-1))) (λy y y y y h=>h) (λy y y y s' h=>h.same s') (ay.gq _) (bs:=[]) trivial (λy y=>trivial) (λx k y H2 s2 r Q h=>?_) (λy k Nb H2 s2 r Q hq=>?_) λH2 zs s2 hz=>?_)
 .exact h
 .subst r;have Nb:=ad0.mp Nb;have gA:=s2 _ _ hx;refine#[_,_,_,gA,T.fB,T.yA,_,Y,_,_,_,gA,T.fB,T.CZ,_,Y,aY,λa ha=>?_];have sa:=ao (o:=.tup [.int (l+1),.non]) ha;refine#[_,_,a,(U (l+1),O),Y,au,by lia,by lia,λg gs H3 s3 y hg hG=>?_];have mY:=(sa.trans s3) _ _ gA;refine#[_,_,_,mY,T.fB,T.rV,_,Y,_,_,_,mY,T.fB,T.C0,_,Y,aY,λb hb=>?_];have sb:=ao (o:=.tup [.non,.int (h-1)]) hb;refine#[_,_,b,(O,U (h-1)),Y,au,by lia,by lia,λd ds H4 s4 y hd hD=>?_];have S4:=sb.trans s4;have l1:=hG.len;have l2:=hD.len;rw[gG] at l1 l2;rfl';refine#[gs,S4 _ _ hg,ds,hd,adG (by lia:gs.length+ds.length<=40) (by decide),λc hc=>?_];have sc:=ao (o:=.lst (gs++ds)) hc;exact hq _ _ ((sa.trans s3).trans (S4.trans sc)) #[c,gs++ds,Y,(s2.trans ((sa.trans s3).trans S4)).free hc,au,ay.app (da.same hG (S4.trans sc)) (da.same hD sc)]
 .intro c hc;refine q c zs _ (s2.trans (ao hc)) (s2.free hc) au ?_;rw[ad4] at hz;exact hz.imp λy y r=>r.same (ao hc)
theorem DP:(dM u d ps n).length=n:=by unfold dM;rw[adA,adO]
theorem ox:(eW ps n).length=n:=by unfold eW;rw[adA,adO]
theorem DQ{G9q H:Hp}{v:V}{sw gw:List W2}{tb:Tb}{m:Int}(hl:gw.length=sw.length+1)(ht:∀ r∈tb,r.1.2.toNat<gw.length)(A:DB G9q H v sw gw tb m):∃ r,v = .ref r/\((∃ z,H r=U (.tup [.str "never",z])/\∀ L c,¬ jJ sw gw tb m L c) ∨ ∃ k cs L,H r=U (.tup [.str "may",.ref k])/\H k=U (.lst (cs.map V.int))/\G9q k=O/\cs.length=gw.length/\jJ sw gw tb m L (bV cs)):=by
 rcases A with ⟨r,k,j,rfl,h1,h2,h3⟩|⟨r,k,j,rfl,h1,h2,h3⟩|⟨r,k,p,pp,gs,rfl,h1,h2,h3,e1,e2,h4⟩|⟨r,k,cs,pp,gs,es,rfl,h1,h2,h3,h4,e1,e2,h5,h6,h7,h8⟩
 .exact#[r,Y,.inl #[_,h1,λL c z=>by obtain⟨s,e,y⟩:=z.2.1 j O h3;cases e]]
 .exact#[r,Y,.inl #[_,h1,λL c z=>by obtain⟨s,e,y⟩:=z.2.2.1 j O h3;cases e]]
 .refine#[r,Y,.inl #[_,h1,λL c z=>?_]];subst e1 e2;rw[adA] at hl ht;rw[adA] at hl;exact absurd h4 (Kt z.1 (BV.mp z.2.1) (BW.mp z.2.2.1) (by lia) (BU.mpr z.2.2.2) (λr hr=>by have:=ht r hr;lia) p [] .nil (λx hx=>by cases hx))
 .subst e1 e2;exact#[r,Y,.inr #[k,cs,es,h1,h2,h3,h4,h7,BV.mpr h5,BW.mpr h6,BU.mp h8]]
theorem Nc{u d t m:Int}{ps:List Pa}{tb:Tb}{gw:List W2}{L cs:List Int}(hl:cs.length=t.toNat)(F:jJ (dM u d ps (t-1).toNat) gw tb m L (bV cs))(k:Nat)(hk:k+1<cs.length) : -d<=fN cs (k+1)-fN cs k/\fN cs (k+1)-fN cs k<=u:=by have h:=F.2.1 k (gd (O,O) ((U (-d),U u)::sel ps "step" (k:Int))) (by unfold dM;rw[adR,aex (by lia)];rfl);have:=xJ.mp h _ (.head _);exact#[this.1 _ Y,this.2 _ Y]
theorem Nd{m:Int}{tb:Tb}{sw gw:List W2}{L cs:List Int}(F:jJ sw gw tb m L (bV cs))(zs:List Int)(hn:zs.Nodup)(hz:∀ i,i∈zs↔Dl tb cs i):(zs.length:Int)<=m:=by
 have:=BP (ys:=L) hn λi hi=>by obtain⟨r,hr,rfl,hb⟩:=(hz i).mp hi;refine Decidable.byContradiction λhc=>?_;have:=A2.mp (F.2.2.2 r hr hc);unfold Gz.hs at hb;exact absurd (this.symm.trans hb) (by decide)
 have:=F.1;lia
theorem Nf(h:p∈ps):p.2.2∈sel ps p.1 p.2.1:=adP.mpr #[p,ael.mpr #[h,by simp[lp]],Y]
theorem Ng{G9q H:Hp}{v:V}{sw gw:List W2}{tb:Tb}{m:Int}(A:DB G9q H v sw gw tb m)(b5:∀ L c,¬ jJ sw gw tb m L c):∃ r k,v = .ref r/\H r=U (.tup [.str "never",k])/\gN H k sw gw tb m [] 10:=by
 rcases A with ⟨r,k,j,rfl,h1,h2,h3⟩|⟨r,k,j,rfl,h1,h2,h3⟩|⟨r,k,p,pp,gs,rfl,h1,h2,h3,e1,e2,h4⟩|⟨r,k,cs,pp,gs,es,rfl,h1,h2,h3,h4,e1,e2,h5,h6,h7,h8⟩
 .exact#[r,_,Y,h1,.ou k j Y h2 h3]
 .exact#[r,_,Y,h1,.gol k j Y h2 h3]
 .exact#[r,_,Y,h1,.pap p pp gs h2 (by lia) e1 e2 h4]
 .subst e1 e2;exact absurd #[h7,BV.mpr h5,BW.mpr h6,BU.mp h8] (b5 es (bV cs))
def gO(u d t m:Int)(tb:Tb)(ps:List Pa):Prop:=∃ L c,jJ (dM u d ps (t-1).toNat) (eW ps t.toNat) tb m L c
def mZ(H:Hp)(v:V)(ps:List Pa):Prop:=∃ c xs,v = .ref c/\H c=U (.lst xs)/\da H xs ps
theorem mZ.same(h:mZ H v ps)(s:ai H H'):mZ H' v ps:=let ⟨c,xs,e,a,b⟩:=h;#[c,xs,e,s _ _ a,b.same s]
def dn(u d t m:Int)(tb:Tb)(H:Hp)(v:V)(ps:List Pa):Prop:=gN H v (dM u d ps (t-1).toNat) (eW ps t.toNat) tb m [] 10
def m5(H H':Hp):Prop:=∀ a xs,H a=U (.tup xs)->H' a=U (.tup xs)
theorem fS.tp(s:m5 H H'):∀ {t:Pp} {v:V},fS H v t->fS H' v t
 | .nil,_,h=>h
 | .full,_,⟨r,e,h1⟩=>#[r,e,s _ _ h1]
 | .cls _ _ _,_,⟨r,p,q,x,y,e,h1,h2,h3,h4,h5⟩=>#[r,p,q,x,y,e,s _ _ h1,s _ _ h2,s _ _ h3,fS.tp s h4,fS.tp s h5]
theorem dn.tp(h:dn u d t m tb H v ps)(s:m5 H H'):dn u d t m tb H' v ps:=by
 rcases h with ⟨k,j,e,h1,h2⟩|⟨k,j,e,h1,h2⟩|⟨t,pp,gs,h1,h2,h3,h4,h5⟩
 .exact .ou k j e (s _ _ h1) h2
 .exact .gol k j e (s _ _ h1) h2
 .exact .pap t pp gs (h1.tp s) h2 h3 h4 h5
theorem Af(h:H l=U (.lst xs)):m5 H (upd H l o):=λa us e=>by rw[aK λz=>by rw[z,h] at e;cases e];exact e
inductive abF(B:adK)(vs:List V)(H:Hp)(Q:VK)(aO:XK):Prop
 | mk(x p l:adK)(e t u d m:Int)(tb:Tb)(ys:List V)(cl:List (List Pa))(_:vs=[.ref x,.ref l])(_:b6 B H x e t u d m p tb)(_:dE e t u d m)(_:cj e t tb)(_:tb.length<=60)(_:H l=U (.lst ys))(_:ay (mZ H) ys cl)(_:cl.length<=200)(_:(∀ ps∈cl,ps.length<=900/\cc t ps))(_:(∀ r k cs L ps H',ai H H'->ps∈cl->H' r=U (.tup [.str "may",.ref k])->H' k=U (.lst (cs.map V.int))->cs.length=t.toNat->jJ (dM u d ps (t-1).toNat) (eW ps t.toNat) tb m L (bV cs)->Q (.ref r) H'))(_:(∀ r k zs H',ai H H'->H' r=U (.tup [.str "never",.ref k])->H' k=U (.lst zs)->ay (dn u d t m tb H') zs cl->(∀ ps∈cl,¬ gO u d t m tb ps)->Q (.ref r) H'))
inductive abG(H:Hp)(x l pa:adK)(u d t m:Int)(tb:Tb)(cl:List (List Pa))(i:Nat)(G:St)(H1:Hp):Prop
 | mk(zs:List V)(e1 e2:Option V)(_:G=[U (.ref x),U (.ref l),U (.ref pa),e1,e2])(_:ai H H1)(_:H1 pa=U (.lst zs))(_:ay (dn u d t m tb H1) zs (cl.take i))(_:(∀ ps∈cl.take i,¬ gO u d t m tb ps))
theorem Nh(T:aC):aV 21 T.Xu (abF T.aZ):=by
 refine kA uR ?_;rintro y A y y H y y y hr ⟨x,p,l,e,t,u,d,m,tb,ys,cl,rfl,hB,dm,hot,gL,hl,hC,bf,aA,q1,q2⟩;refine#[_,(aq (aJ 2 uR.nd (cE ah)) (aq (eM akx Y (dX (aa 1)) (df 3 uR.nd) (aq (aJ 4 uR.nd (gJ (DC T) hr (ae (aa 0) (ae (aa 3) ah)))) (aq (aG (aW (ar (aa 4) ag) aS) (aw (aB (aa 4))) aH) (aw (dq (kU aet afn afo tM (aa 2) (ae (ar (aa 4) ag) ah))))))) (aw (aB (aP (ae aS (ae (aa 2) ah))))))),?_];obtain⟨⟨e1,e7⟩,⟨t1,t2⟩,u0,d0,m0,me⟩:=id dm;have yl:=hC.len;refine aD (λG H1=>∃ pa,G=[U (.ref x),U (.ref l),U (.ref pa),O,O]/\ai H H1/\H pa=O/\H1 pa=U (.lst [])) (λN hN=>?_) ?_
 .exact#[ad6 _,λpa mV=>hN _ _ #[pa,Y,ao mV,mV,au]]
 rintro y yR G H1 ⟨pa,rfl,s1,fpa,mV⟩;subst yR;rfl';refine#[#[_,aj.of (s1 _ _ hl)],l5 (abG H x l pa u d t m tb cl) #[[],_,_,Y,s1,mV,trivial,λy z=>by simp at z] (λi G H2 _ ⟨_,_,_,_,s2,_,_,_⟩=>aj.of (s2 _ _ hl)) ?_ ?_]
 .rintro i v G H2 hv ⟨zs,z1,z2,rfl,s2,DR,hZ,b5⟩;obtain⟨ps,hps,c,xs,rfl,hc,hP⟩:=hC.get hv;have pin:=ad3 hps;obtain⟨pl,oy⟩:=aA ps pin;rfl';refine#[x,p,c,e,t,u,d,m,xs,ps,tb,Y,hB.same s2,hot,gL,t1,t2,by lia,e7,m0,by lia,aj.of (s2 _ _ hc),hP.same s2,pl,λz=>absurd oy z,λy v H3 s3 A=>?_];have S3:=s2.trans s3;by_cases hh:gO u d t m tb ps
  .obtain⟨L0,c0,F0⟩:=hh;obtain⟨rr,rfl,⟨z,hrr,hn⟩|⟨k9,cs,L,hrr,jd,y,hcs,F⟩⟩:=DQ (by rw[DP,ox];lia) (λr hr=>by rw[ox];have:=(hot.2 r hr).2;lia) A
   .exact absurd F0 (hn _ _)
   rw[ox] at hcs;refine aQ hrr ?_;exact q1 rr k9 cs L ps H3 S3 pin hrr jd hcs F
  .obtain⟨rr,z,rfl,hrr,hR⟩:=Ng A λL c F=>hh #[L,c,F];refine aQ hrr ?_;rfl';have yY:=s3 _ _ DR;have zl:=hZ.len;have il:=(adI.mp hps).1;rw[afp] at zl;rw[if_neg (by decide)];refine#[.inl #[Y,_,aj.of yY],az (ak.of hrr) Y #[zs,yY,aeR (by lia:_<=200) (by decide),_,_,_,Y,ir fpa S3,au,?_,λqs hq=>?_]]
   .rw[aeQ,hps];exact ay.snoc (hZ.imp λy y h=>dn.tp (gN.same h s3) (Af yY)) (dn.tp hR (Af yY))
   .rw[aeQ,hps] at hq;rcases aec.mp hq with z|z
    .exact b5 qs z
    .obtain rfl:qs=ps:=by simpa using z
     exact hh
 .rintro G H2 ⟨zs,z1,z2,rfl,s2,DR,hZ,b5⟩;rw[yl,aeN] at hZ b5;exact#[aY,λr hr=>q2 r pa zs _ (s2.trans (ao hr)) au ((ao hr) _ _ DR) (hZ.imp λy y h=>gN.same h (ao hr)) b5]
inductive Tr where
 | stay (i j:Int) (l h:En)|over (i j s:Int)|under (i j s:Int)|rose (i j l h:Int)|pace (i j:Int) (l h:En)|turn (t:Int)
noncomputable def lM:Tr->List V
 | .stay i j l h=>[.str "stay",.int i,.int j,ev l,ev h]
 | .over i j s=>[.str "over",.int i,.int j,.int s]
 | .under i j s=>[.str "under",.int i,.int j,.int s]
 | .rose i j l h=>[.str "rose",.int i,.int j,.int l,.int h]
 | .pace i j l h=>[.str "pace",.int i,.int j,ev l,ev h]
 | .turn t=>[.str "turn",.int t]
def bK:Tr->Prop
 | .stay i j l h=>bY i j
 | .over i j s=>bY i j
 | .under i j s=>bY i j
 | .rose i j l h=>bY i j/\l<h
 | .pace i j l h=>bY i j
 | .turn t=>0<t/\t<11
noncomputable def dN:Tr->Int
 | .stay i j l h=>j
 | .over i j s=>j
 | .under i j s=>j
 | .rose i j l h=>j
 | .pace i j l h=>j
 | .turn t=>t+1
noncomputable def a7:Tr->List (List Pa)
 | .stay i j l h=>[bz i j (l,h)]
 | .over i j s=>bX (bz i j (O,U (s-1)))
 | .under i j s=>bX (bz i j (U (s+1),O))
 | .rose i j l h=>gH i j l h
 | .pace i j l h=>[hU i j (l,h)]
 | .turn t=>[je t]
noncomputable def bL:Tr->List (List Pa)
 | .stay i j l h=>bX (bz i j (l,h))
 | .over i j s=>[bz i j (O,U (s-1))]
 | .under i j s=>[bz i j (U (s+1),O)]
 | .rose i j l h=>jQ i j l h
 | .pace i j l h=>bX (hU i j (l,h))
 | .turn t=>bX (je t)
def eK(T:aC)(H:Hp)(x:adK):Tr->Prop
 | .stay i j l h=>∃ dx p,H x=U (.ins T.dh dx [("first",.int i),("last",.int j),("stretch",.ref p)])/\H p=U (.tup [ev l,ev h])
 | .over i j s=>∃ dx,H x=U (.ins T.di dx [("first",.int i),("last",.int j),("sill",.int s)])
 | .under i j s=>∃ dx,H x=U (.ins T.dj dx [("first",.int i),("last",.int j),("sill",.int s)])
 | .rose i j l h=>∃ dx,H x=U (.ins T.dD dx [("first",.int i),("last",.int j),("low",.int l),("high",.int h)])
 | .pace i j l h=>∃ dx p,H x=U (.ins T.cZ dx [("first",.int i),("last",.int j),("stretch",.ref p)])/\H p=U (.tup [ev l,ev h])
 | .turn t=>∃ dx,H x=U (.ins T.eB dx [("turn",.int t)])
theorem eK.same{T:aC}{H H':Hp}{x:adK}{tr:Tr}(h:eK T H x tr)(s:ai H H'):eK T H' x tr:=by
 cases tr
 case stay=>obtain⟨dx,p,a,b⟩:=h;exact#[dx,p,s _ _ a,s _ _ b]
 case pace=>obtain⟨dx,p,a,b⟩:=h;exact#[dx,p,s _ _ a,s _ _ b]
 all_goals (obtain⟨dx,a⟩:=h;exact#[dx,s _ _ a])
inductive yZ(T:aC)(f:Tr->List (List Pa))(x:V)(H:Hp)(Q:VK):Prop
 | mk(a:adK)(tr:Tr)(_:x = .ref a)(_:eK T H a tr)(_:bK tr)(_:∀ l ys H',ai H H'->H l=O->H' l=U (.lst ys)->ay (bO H H') ys (f tr)->Q (.ref l) H')
inductive Ni(T:aC)(x:V)(H:Hp)(Q:VK):Prop
 | mk(a:adK)(tr:Tr)(_:x = .ref a)(_:eK T H a tr)(_:bK tr)(_:∀ H',ai H H'->Q (.int (dN tr)) H')
theorem qc(T:aC)(hr:bF n A)(hn:3<=n:=by decide)(x:V)(H:Hp)(Q:VK)(h:yZ T a7 x H Q):lD P w K mg base A "ways" x H Q:=by
 obtain⟨x,tr,rfl,he,hg,cont⟩:=h;replace hr:=hr.mono hn;cases tr with
 | stay i j l h =>
  obtain⟨dx,p,hx,hp⟩:=id he;exact .of hx T.i8 T.Yd (abd T) hr T.Cf.b #[x,dx,p,i,j,(l,h),Y,hx,hg,hp,cont]
 | over i j s =>
  obtain⟨dx,hx⟩:=id he;exact .of hx T.i9 T.Yh (abf T) hr T.Cj.b #[x,dx,i,j,s,Y,hx,hg,cont]
 | under i j s =>
  obtain⟨dx,hx⟩:=id he;exact .of hx T.ja T.Yl (abh T) hr T.Cn.b #[x,dx,i,j,s,Y,hx,hg,cont]
 | rose i j l h =>
  obtain⟨dx,hx⟩:=id he;exact .of hx T.fB T.Yp (abr T) hr T.Cq.b #[x,dx,i,j,l,h,Y,hx,hg.1,cont]
 | pace i j l h =>
  obtain⟨dx,p,hx,hp⟩:=id he;exact .of hx T.jL T.Yt (abk T) hr T.Ct.b #[x,dx,p,i,j,(l,h),Y,hx,hg,hp,cont]
 | turn t =>
  obtain⟨dx,hx⟩:=id he;exact .of hx T.lJ T.Yx (abn T) hr T.Cy.b #[x,dx,t,Y,hx,cont]
theorem sA(T:aC){H:Hp}{x:adK}{tr:Tr}(he:eK T H x tr)(hg:bK tr)(Q:VK)(cont:∀ l ys H',ai H H'->H l=O->H' l=U (.lst ys)->ay (bO H H') ys (a7 tr)->Q (.ref l) H'):yZ T a7 (.ref x) H Q:=#[x,tr,Y,he,hg,cont]
theorem qd(T:aC)(hr:bF n A)(hn:3<=n:=by decide)(x:V)(H:Hp)(Q:VK)(h:yZ T bL x H Q):lD P w K mg base A "breaks" x H Q:=by
 obtain⟨x,tr,rfl,he,hg,cont⟩:=h;replace hr:=hr.mono hn;cases tr with
 | stay i j l h =>
  obtain⟨dx,p,hx,hp⟩:=id he;exact .of hx T.i8 T.Ye (abu T) hr T.Cg.b #[x,dx,p,i,j,(l,h),Y,hx,hg,hp,cont]
 | over i j s =>
  obtain⟨dx,hx⟩:=id he;exact .of hx T.i9 T.Yi (abw T) hr T.Ck.b #[x,dx,i,j,s,Y,hx,hg,cont]
 | under i j s =>
  obtain⟨dx,hx⟩:=id he;exact .of hx T.ja T.Ym (aby T) hr T.Co.b #[x,dx,i,j,s,Y,hx,hg,cont]
 | rose i j l h =>
  obtain⟨dx,hx⟩:=id he;exact .of hx T.fB T.Yq (abE T) hr T.Cr.b #[x,dx,i,j,l,h,Y,hx,hg.1,cont]
 | pace i j l h =>
  obtain⟨dx,p,hx,hp⟩:=id he;exact .of hx T.jL T.Yu (abA T) hr T.Cu.b #[x,dx,p,i,j,(l,h),Y,hx,hg,hp,cont]
 | turn t =>
  obtain⟨dx,hx⟩:=id he;exact .of hx T.lJ T.Yy (abC T) hr T.Cz.b #[x,dx,t,Y,hx,cont]
theorem sC(T:aC){H:Hp}{x:adK}{tr:Tr}(he:eK T H x tr)(hg:bK tr)(Q:VK)(cont:∀ l ys H',ai H H'->H l=O->H' l=U (.lst ys)->ay (bO H H') ys (bL tr)->Q (.ref l) H'):yZ T bL (.ref x) H Q:=#[x,tr,Y,he,hg,cont]
theorem za(T:aC)(hr:bF n A)(hn:1<=n:=by decide)(x:V)(H:Hp)(Q:VK)(h:Ni T x H Q):lD P w K mg base A "far" x H Q:=by
 obtain⟨x,tr,rfl,he,hg,cont⟩:=h;replace hr:=hr.mono hn;cases tr with
 | stay i j l h =>
  obtain⟨dx,p,hx,hp⟩:=id he;exact .of hx T.i8 T.Yc (vE T) hr T.jK.b #[x,T.dh,dx,_,j,Y,hx,T.i8,T.yx,Y,cont _ (ai.refl _)]
 | over i j s =>
  obtain⟨dx,hx⟩:=id he;exact .of hx T.i9 T.Yg (vE T) hr T.jK.b #[x,T.di,dx,_,j,Y,hx,T.i9,T.yy,Y,cont _ (ai.refl _)]
 | under i j s =>
  obtain⟨dx,hx⟩:=id he;exact .of hx T.ja T.Yk (vE T) hr T.jK.b #[x,T.dj,dx,_,j,Y,hx,T.ja,T.yz,Y,cont _ (ai.refl _)]
 | rose i j l h =>
  obtain⟨dx,hx⟩:=id he;exact .of hx T.fB T.Yo (vE T) hr T.jK.b #[x,T.dD,dx,_,j,Y,hx,T.fB,T.rV,Y,cont _ (ai.refl _)]
 | pace i j l h =>
  obtain⟨dx,p,hx,hp⟩:=id he;exact .of hx T.jL T.Ys (vE T) hr T.jK.b #[x,T.cZ,dx,_,j,Y,hx,T.jL,T.C1,Y,cont _ (ai.refl _)]
 | turn t =>
  obtain⟨dx,hx⟩:=id he;exact .of hx T.lJ T.Yw (aa4 T) hr T.Cw.b #[x,T.eB,dx,_,t,Y,hx,T.lJ,T.yB,Y,cont _ (ai.refl _)]
theorem DS(T:aC){H:Hp}{x:adK}{tr:Tr}(he:eK T H x tr)(hg:bK tr)(Q:VK)(cont:∀ H',ai H H'->Q (.int (dN tr)) H'):Ni T (.ref x) H Q:=#[x,tr,Y,he,hg,cont]
theorem o9(ps:List Pa):(bX ps).length<=2 * ps.length:=by
 unfold bX;rw[ah5];have:∀ l:List Pa,(l.map λp=>((gF p.2.2).map λo=>[((p.1,p.2.1,o):Pa)]).length).sum<=2 * l.length:=by
  intro l
  induction l with
  | nil=>exact adJ _
  | cons p l ih =>
   rw[adU,aiT,adA,aeg];have:=ue p.2.2;lia
 exact this ps
theorem ze(h:p∈bz i j s):p.1 = "at" /\ i<=p.2.1/\p.2.1<=j:=by unfold bz at h;obtain⟨k,hk,rfl⟩:=adP.mp h;have:=ad0.mp hk;exact#[Y,by show i<=i+(k:Int);lia,by show i+(k:Int)<=j;lia]
theorem DT{t:Int}{ps:List Pa}(h:∀ p∈ps,p.1 = "at" /\ 0<=p.2.1/\p.2.1<t):cc t ps:=λp hp=>by obtain⟨e,h1,h2⟩:=h p hp;rw[e];exact (IG (show (ae2 "at")≠ae2 "step" by decide)).mpr #[Y,h1,h2]
theorem abH(hk:bY i j)(hj:j<t):∀ ps∈jQ i j l h,ps.length<=100/\cc t ps:=λps hp=>by
 obtain⟨k0,k1,k2⟩:=hk;unfold jQ at hp;obtain⟨k,hk,rfl⟩:=adP.mp hp;have:=ad0.mp hk;refine#[by rw[adT,gG,gG];lia,DT λp hp=>?_];rcases aec.mp hp with z|z
 .obtain⟨a,b,c⟩:=ze z;exact#[a,by lia,by lia]
 .obtain⟨a,b,c⟩:=ze z;exact#[a,by lia,by lia]
theorem abI(hk:bY i j)(hj:j<t):∀ ps∈gH i j l h,ps.length<=100/\cc t ps:=λps hp=>by
 obtain⟨k0,k1,k2⟩:=hk;unfold gH at hp;obtain⟨k,hk,hq⟩:=afr.mp hp;obtain⟨p0,hp0,rfl⟩:=adP.mp hq;have:=ad0.mp hk;obtain⟨a,b,c⟩:=ze hp0;refine#[(show 2<=100 by decide),DT λp hp=>?_];rcases adL.mp hp with rfl|z
 .exact#[Y,by show 0<=i+(k:Int);lia,by show i+(k:Int)<t;lia]
 .rw[ad8.mp z];exact#[a,by lia,by lia]
theorem Nj:∀ {l:List Nat},(∀ x∈l,x<=n)->l.sum<=n * l.length
 | [],_=>adJ _
 | x::l,h=>by have a:=h x (.head _);have b:=Nj λy hy=>h y (.tail _ hy);rw[aiT,aeg,Nat.mul_succ];lia
theorem abJ(hk:bY i j):(gH i j l h).length<=200:=by
 obtain⟨k0,k1,k2⟩:=hk;unfold gH;rw[ah5];refine adG (Nj (n:=11) λx hx=>?_) ?_
 .obtain⟨k,hk,rfl⟩:=adP.mp hx;rw[adA,gG];have:=ad0.mp hk;lia
 .rw[adA,adO];lia
theorem DU(h:0<=i)(hj:j<t):cc t (bz i j s):=DT λp hp=>by obtain⟨a,b,c⟩:=ze hp;exact#[a,by lia,by lia]
theorem abK(h:0<=i)(hj:j<t):cc t (hU i j s):=λp hp=>by unfold hU at hp;obtain⟨k,hk,rfl⟩:=adP.mp hp;have:=ad0.mp hk;exact xI.mpr #[by lia,by lia]
theorem abL(h:0<k)(hj:k+1<t):cc t (je k):=λp hp=>by
 unfold je at hp;rcases adL.mp hp with rfl|z
 .exact xI.mpr #[by lia,by lia]
 .rw[ad8.mp z];exact xI.mpr #[by lia,by lia]
theorem vG(h:cc t ps)(hl:ps.length<=60):(∀ qs∈bX ps,qs.length<=100/\cc t qs)/\(∀ qs∈[ps],qs.length<=100/\cc t qs)/\(bX ps).length<=200/\[ps].length<=200:=by
 refine#[λqs hq=>?_,λqs hq=>?_,?_,(show 1<=200 by decide)]
 .unfold bX at hq;obtain⟨p,hp,hq⟩:=afr.mp hq;obtain⟨o,y,rfl⟩:=adP.mp hq;refine#[(show 1<=100 by decide),λz hz=>?_];rw[ad8.mp hz];exact h p hp
 .rw[ad8.mp hq];exact#[by lia,h]
 .have:=o9 ps;lia
theorem vH(hg:bK tr)(hj:dN tr<t):(∀ ps∈bL tr,ps.length<=100/\cc t ps)/\(∀ ps∈a7 tr,ps.length<=100/\cc t ps)/\(bL tr).length<=200/\(a7 tr).length<=200:=by
 cases tr with
 | stay i j l h =>
  obtain⟨k0,k1,k2⟩:=id hg;replace hj:j<t:=hj;exact vG (DU (s:=(l,h)) k0 hj) (by rw[gG];lia)
 | over i j s =>
  obtain⟨k0,k1,k2⟩:=id hg;replace hj:j<t:=hj;obtain⟨a,b,c,d⟩:=vG (DU (s:=(O,U (s-1))) k0 hj) (by rw[gG];lia);exact#[b,a,d,c]
 | under i j s =>
  obtain⟨k0,k1,k2⟩:=id hg;replace hj:j<t:=hj;obtain⟨a,b,c,d⟩:=vG (DU (s:=(U (s+1),O)) k0 hj) (by rw[gG];lia);exact#[b,a,d,c]
 | rose i j l h =>
  refine#[abH hg.1 hj,abI hg.1 hj,?_,abJ hg.1];show (jQ i j l h).length<=200;obtain⟨⟨y,y,y⟩,y⟩:=hg;unfold jQ;rw[adA,adO];lia
 | pace i j l h =>
  obtain⟨k0,k1,k2⟩:=id hg;replace hj:j<t:=hj;exact vG (abK (s:=(l,h)) k0 hj) (by rw[DO];lia)
 | turn k=>exact vG (abL hg.1 hj) (show 2<=60 by decide)
theorem DV(hg:bK tr)(hj:dN tr<t):(∀ ps∈bL tr,ps.length<=900/\cc t ps)/\(∀ ps∈a7 tr,ps.length<=900/\cc t ps)/\(bL tr).length<=200/\(a7 tr).length<=200:=let ⟨a,b,c,d⟩:=vH hg hj;#[λp h=>#[adG (a p h).1 (by decide),(a p h).2],λp h=>#[adG (b p h).1 (by decide),(b p h).2],c,d]
theorem sD(hg:bK tr):0<=dN tr:=by
 cases tr with
 | over i j s=>obtain⟨y,y,y⟩:=hg;show 0<=j;lia
 | under i j s=>obtain⟨y,y,y⟩:=hg;show 0<=j;lia
 | rose i j l h=>obtain⟨⟨y,y,y⟩,y⟩:=hg;show 0<=j;lia
 | turn k=>obtain⟨y,y⟩:=hg;show 0<=k+1;lia
 | stay i j l h=>obtain⟨y,y,y⟩:=hg;show 0<=j;lia
 | pace i j l h=>obtain⟨y,y,y⟩:=hg;show 0<=j;lia
noncomputable def fF(as bs:List (List Pa)):List (List Pa):=as.flatMap λa=>bs.map λb=>a++b
theorem abM{as bs:List (List Pa)}{i:Nat}{a:List Pa}(h:as[i]?=U a):fF (as.take (i+1)) bs=fF (as.take i) bs++bs.map λb=>a++b:=by unfold fF;rw[aeQ,h,ah3];simp
theorem DW(as bs:List (List Pa)):(fF as bs).length=as.length * bs.length:=by
 unfold fF
 induction as with
 | nil=>simp
 | cons a as ih=>rw[akw,adT,adA,ih,aeg,Nat.add_mul,Nat.one_mul,al7]
inductive abN(vs:List V)(H:Hp)(Q:VK)(aO:XK):Prop
 | mk(a b:adK)(xs ys:List V)(as bs:List (List Pa))(_:vs=[.ref a,.ref b])(_:H a=U (.lst xs))(_:H b=U (.lst ys))(_:ay (mZ H) xs as)(_:ay (mZ H) ys bs)(_:as.length<=200)(_:bs.length<=200)(_:(∀ p∈as,p.length<=900))(_:(∀ p∈bs,p.length<=900))(_:∀ l zs H',ai H H'->H l=O->H' l=U (.lst zs)->ay (bO H H') zs (fF as bs)->Q (.ref l) H')
inductive abO(H:Hp)(a b l:adK)(as bs:List (List Pa))(i:Nat)(G:St)(H1:Hp):Prop
 | mk(zs:List V)(e:Option V)(_:G=[U (.ref a),U (.ref b),U (.ref l),e])(_:ai H H1)(_:H1 l=U (.lst zs))(_:ay (iD H l H1) zs (fF (as.take i) bs))
theorem Nk(T:aC):aV 1 T.Xc abN:=by
 refine bD ya ?_;rintro y y y s H y Q y y ⟨a,b,xs,ys,as,bs,rfl,ha,hb,hA,hB,al,bl,pa,pb,q⟩;refine#[_,(aq (aJ 2 ya.nd (cE ah)) (aq (eM aem Y (dX (aa 0)) (df 3 ya.nd) (aw (dq (kU aet agN agO Aa (aa 2) (ae (dz (cO [3] [dg]) Y (dX (aa 1)) (λC s2 H2 ex pn=>#[dH,(aE j5 (aa 1) (aa 0))])) ah))))) (aw (aB (aa 2))))),?_];have xl:=hA.len;have yl:=hB.len;refine aD (λG H1=>∃ l,G=[U (.ref a),U (.ref b),U (.ref l),O]/\ai H H1/\H l=O/\H1 l=U (.lst [])) (λN hN=>?_) ?_
 .exact#[by decide,λl hl=>hN _ _ #[l,Y,ao hl,hl,au]]
 rintro y yR G H1 ⟨l,rfl,s1,eG,gE⟩;subst yR;rfl';refine#[#[_,aj.of (s1 _ _ ha)],l5 (xs:=xs) (abO H a b l as bs) #[[],_,Y,s1,gE,trivial] (λi G H2 _ ⟨_,_,_,s2,_,_⟩=>aj.of (s2 _ _ ha)) ?_ ?_]
 .rintro i x G H2 hx ⟨zs,e,rfl,s2,bb,hz⟩;obtain⟨ca,hca,c,us,rfl,hc,hP⟩:=hA.get hx;have il:=(adI.mp hca).1;have zl:=hz.len;rw[DW,afp] at zl;have zb:zs.length<=200 * 200:=by rw[zl];exact ajO (by lia) bl
  have cl:=pa ca (ad3 hca);have ul:=hP.len;rfl';refine#[.inl #[Y,_,aj.of bb],#[_,aj.of (s2 _ _ hb)],cX kf (adG (by lia:ys.length<=200) (by decide)) (gW (R:=λH x ps=>mZ H x ps) (R':=iD H l) (f:=λps=>ca++ps) (λy y y y s' h=>h.same s') (λy y y y s' h=>h.same s') (hB.imp λy y r=>r.same s2) (bs:=[]) trivial (λH' s'=>aj.of (s' _ _ (s2 _ _ hb))) (λx k y H4 s4 r Q h=>?_) (λx k hk H4 s4 r Q h=>?_) λH4 ws s4 hw=>?_)]
  .exact h
  .obtain⟨c2,DX,rfl,mn,Nl⟩:=r;have kl:=pb k hk;have ul2:=Nl.len;rfl';refine#[_,(s2.trans s4) _ _ hc,_,mn,adG (by lia:us.length+DX.length<=1800) (by decide),λd hd=>?_];have ud:=ao (o:=.lst (us++DX)) hd;have dl:d≠l:=λz=>by rw[z,s4 _ _ bb] at hd;cases hd
   exact h _ _ ud #[d,us++DX,Y,dl,(s2.trans s4).free hd,au,ay.app (da.same hP ((s2.trans s4).trans ud)) (da.same Nl ud)]
  .intro d hd;rw[ad4] at hw;have u:=s4.trans (ao (o:=.lst ws) hd);have wl:=hw.len;rw[adA] at wl;refine#[l,d,_,_,Y,Y,u _ _ bb,au,adG (by lia:zs.length+ws.length<=50000) (by decide),zs++ws,_,Y,ir eG (s2.trans u),au,?_];rw[abM hca];exact (hz.imp λy y r=>(r.same u).put (o:=.lst (zs++ws)) (u _ _ bb)).app (hw.imp λy y r=>(r.same (ao hd)).put (o:=.lst (zs++ws)) (u _ _ bb))
 .rintro G H2 ⟨zs,e,rfl,s2,bb,hz⟩;rw[xl,aeN] at hz;exact q l zs H2 s2 eG bb (hz.imp λy y r=>r.Bv)
inductive abP(T:aC)(vs:List V)(H:Hp)(Q:VK)(aO:XK):Prop
 | mk(x:adK)(tr:Tr)(_:vs=[.ref x])(_:eK T H x tr)(_:bK tr)(_:∀ p H',ai H H'->H' p=U (.tup [.int (a7 tr).length,.int (bL tr).length])->Q (.ref p) H')
theorem sE(T:aC):bJ 10 T.gK (abP T):=by refine cA KA ?_;rintro y y y y y y y y hr ⟨x,tr,rfl,he,hg,q⟩;refine#[_,(aw (aB (aP (ae (cY T.cS (ae (dC (qc T hr) (aa 0)) ah)) (ae (cY T.cS (ae (dC (qd T hr) (aa 0)) ah)) ah))))),?_];rfl';refine sA T he hg _ λl ys H1 s1 y hl hy=>?_;refine#[_,fg (aj.of hl),?_];refine sC T (he.same s1) hg _ λm zs H2 s2 y hm hz=>?_;refine#[_,fg (aj.of hm),aY,λp hp=>q p _ (s1.trans (s2.trans (ao hp))) ?_];rw[au,hy.len,hz.len]
inductive EvS(T:aC)(x:V)(H:Hp)(Q:VK):Prop
 | mk(a:adK)(tr:Tr)(_:x = .ref a)(_:eK T H a tr)(_:bK tr)(_:∀ p H',ai H H'->H' p=U (.tup [.int (a7 tr).length,.int (bL tr).length])->Q (.ref p) H')
theorem zf(T:aC)(hr:bF n A)(hn:10<=n:=by decide)(x:V)(H:Hp)(Q:VK)(h:EvS T x H Q):lD P w K mg base A "sizes" x H Q:=by
 obtain⟨x,tr,rfl,he,hg,cont⟩:=h;replace hr:=hr.mono hn;cases tr with
 | stay i j l h =>
  obtain⟨dx,p,hx,hp⟩:=id he;exact .of hx T.i8 T.Yb (sE T) hr T.gK.b #[x,_,Y,he,hg,cont]
 | over i j s =>
  obtain⟨dx,hx⟩:=id he;exact .of hx T.i9 T.Yf (sE T) hr T.gK.b #[x,_,Y,he,hg,cont]
 | under i j s =>
  obtain⟨dx,hx⟩:=id he;exact .of hx T.ja T.Yj (sE T) hr T.gK.b #[x,_,Y,he,hg,cont]
 | rose i j l h =>
  obtain⟨dx,hx⟩:=id he;exact .of hx T.fB T.Yn (sE T) hr T.gK.b #[x,_,Y,he,hg,cont]
 | pace i j l h =>
  obtain⟨dx,p,hx,hp⟩:=id he;exact .of hx T.jL T.Yr (sE T) hr T.gK.b #[x,_,Y,he,hg,cont]
 | turn t =>
  obtain⟨dx,hx⟩:=id he;exact .of hx T.lJ T.Yv (sE T) hr T.gK.b #[x,_,Y,he,hg,cont]
def jf(C:adK)(T:aC)(H:Hp)(x:adK)(a b:Tr):Prop:=∃ dx c1 c2,H x=U (.ins C dx [("one",.ref c1),("other",.ref c2)])/\eK T H c1 a/\eK T H c2 b
theorem jf.same(h:jf C T H x a b)(s:ai H H'):jf C T H' x a b:=let ⟨dx,c1,c2,h1,h2,h3⟩:=h;#[dx,c1,c2,s _ _ h1,h2.same s,h3.same s]
def oz(T:aC)(H:Hp)(x:adK)(a:Tr):Prop:=∃ dx c,H x=U (.ins T.gj dx [("one",.ref c)])/\eK T H c a
theorem oz.same(h:oz T H x a)(s:ai H H'):oz T H' x a:=let ⟨dx,c,h1,h2⟩:=h;#[dx,c,s _ _ h1,h2.same s]
theorem bO.cm(h:bO G9q H v ps):mZ H v ps:=let ⟨c,xs,e,_,a,b⟩:=h;#[c,xs,e,a,b]
theorem jR(hg:bK tr):(∀ ps∈bL tr,ps.length<=900)/\(∀ ps∈a7 tr,ps.length<=900)/\(bL tr).length<=200/\(a7 tr).length<=200:=let ⟨a,b,c,d⟩:=DV hg (Int.lt_succ _);#[λp h=>(a p h).1,λp h=>(b p h).1,c,d]
inductive abQ(T:aC)(vs:List V)(H:Hp)(Q:VK)(aO:XK):Prop
 | mk(x:adK)(a:Tr)(_:vs=[.ref x])(_:oz T H x a)(_:bK a)(_:∀ l ys H',ai H H'->H l=O->H' l=U (.lst ys)->ay (bO H H') ys (bL a)->Q (.ref l) H')
theorem abR(T:aC):bJ 9 T.CJ (abQ T):=by refine cA Lf ?_;rintro y y y y y y y y hr ⟨x,a,rfl,⟨dx,c,hx,hc⟩,ga,q⟩;refine#[_,(aw (aB (dC (qd T hr) (a9 Y (aa 0) Y)))),?_];exact#[_,_,_,hx,T.pU,T.yC,_,Y,sC T hc ga _ q]
inductive abS(T:aC)(vs:List V)(H:Hp)(Q:VK)(aO:XK):Prop
 | mk(x:adK)(a:Tr)(_:vs=[.ref x])(_:oz T H x a)(_:bK a)(_:∀ l ys H',ai H H'->H l=O->H' l=U (.lst ys)->ay (bO H H') ys (a7 a)->Q (.ref l) H')
theorem abT(T:aC):bJ 9 T.CK (abS T):=by refine cA Lg ?_;rintro y y y y y y y y hr ⟨x,a,rfl,⟨dx,c,hx,hc⟩,ga,q⟩;refine#[_,(aw (aB (dC (qc T hr) (a9 Y (aa 0) Y)))),?_];exact#[_,_,_,hx,T.pU,T.yC,_,Y,sA T hc ga _ q]
inductive abU(T:aC)(vs:List V)(H:Hp)(Q:VK)(aO:XK):Prop
 | mk(x:adK)(a:Tr)(_:vs=[.ref x])(_:oz T H x a)(_:bK a)(_:∀ H',ai H H'->Q (.int (dN a)) H')
theorem abV(T:aC):bJ 3 T.CI (abU T):=by refine cA Le ?_;rintro y y y y y y y y hr ⟨x,a,rfl,⟨dx,c,hx,hc⟩,ga,q⟩;refine#[_,(aw (aB (dC (za T hr) (a9 Y (aa 0) Y)))),?_];exact#[_,_,_,hx,T.pU,T.yC,_,Y,DS T hc ga _ q]
inductive abW(T:aC)(vs:List V)(H:Hp)(Q:VK)(aO:XK):Prop
 | mk(x:adK)(a b:Tr)(_:vs=[.ref x])(_:jf T.eE T H x a b)(_:bK a)(_:bK b)(_:∀ l ys H',ai H H'->H l=O->H' l=U (.lst ys)->ay (bO H H') ys (fF (a7 a) (a7 b))->Q (.ref l) H')
theorem abX(T:aC):bJ 9 T.CA (abW T):=by refine cA K9 ?_;rintro y y y y y y y y hr ⟨x,a,b,rfl,⟨dx,c1,c2,hx,h1,h2⟩,ga,gb,q⟩;refine#[_,(aw (aB (aF (Nk T) hr (ae (dC (qc T hr) (a9 Y (aa 0) Y)) (ae (dC (qc T hr) (a9 Y (aa 0) Y)) ah))))),?_];obtain⟨DY,DZ,vI,vJ⟩:=jR ga;obtain⟨D0,D3,vK,vL⟩:=jR gb;refine#[_,_,_,hx,T.jM,T.u7,_,Y,sA T h1 ga _ λl1 m6 H1 s1 f1 gE m8=>?_];rfl';refine#[_,_,_,s1 _ _ hx,T.jM,T.vc,_,Y,sA T (h2.same s1) gb _ λl2 m9 H2 s2 f2 bb nc=>?_];exact#[l1,l2,m6,m9,_,_,Y,s2 _ _ gE,bb,m8.imp λy y r=>(bO.cm r).same s2,nc.imp λy y r=>bO.cm r,by assumption,by assumption,by assumption,by assumption,λl zs H3 s3 fl hl hz=>q l zs H3 (s1.trans (s2.trans s3)) ((s1.trans s2).free fl) hl (hz.imp λy y r=>r.back (s1.trans s2))]
inductive abY(T:aC)(vs:List V)(H:Hp)(Q:VK)(aO:XK):Prop
 | mk(x:adK)(a b:Tr)(_:vs=[.ref x])(_:jf T.eE T H x a b)(_:bK a)(_:bK b)(_:∀ l ys H',ai H H'->H l=O->H' l=U (.lst ys)->ay (bO H H') ys (bL a++bL b)->Q (.ref l) H')
theorem abZ(T:aC):bJ 9 T.CB (abY T):=by refine cA La ?_;rintro y y y y y y y y hr ⟨x,a,b,rfl,⟨dx,c1,c2,hx,h1,h2⟩,ga,gb,q⟩;refine#[_,(aw (aB (aE j5 (dC (qd T hr) (a9 Y (aa 0) Y)) (dC (qd T hr) (a9 Y (aa 0) Y))))),?_];obtain⟨DY,DZ,vI,vJ⟩:=jR ga;obtain⟨D0,D3,vK,vL⟩:=jR gb;refine#[_,_,_,hx,T.jM,T.u7,_,Y,sC T h1 ga _ λl1 m6 H1 s1 f1 gE m8=>?_];rfl';refine#[_,_,_,s1 _ _ hx,T.jM,T.vc,_,Y,sC T (h2.same s1) gb _ λl2 m9 H2 s2 f2 bb nc=>?_];have e1:=m8.len;have e2:=nc.len;refine#[l2,Y,_,s2 _ _ gE,_,bb,adG (by lia:m6.length+m9.length<=400) (by decide),λc hc=>?_];have uc:=ao (o:=.lst (m6++m9)) hc;exact q c _ _ (s1.trans (s2.trans uc)) ((s1.trans s2).free hc) au (ay.app (m8.imp λy y r=>r.same (s2.trans uc)) (nc.imp λy y r=>(r.back s1).same uc))
inductive ab0(T:aC)(vs:List V)(H:Hp)(Q:VK)(aO:XK):Prop
 | mk(x:adK)(a b:Tr)(_:vs=[.ref x])(_:jf T.eF T H x a b)(_:bK a)(_:bK b)(_:∀ l ys H',ai H H'->H l=O->H' l=U (.lst ys)->ay (bO H H') ys (fF (bL a) (bL b))->Q (.ref l) H')
theorem ab1(T:aC):bJ 9 T.CF (ab0 T):=by refine cA Lc ?_;rintro y y y y y y y y hr ⟨x,a,b,rfl,⟨dx,c1,c2,hx,h1,h2⟩,ga,gb,q⟩;refine#[_,(aw (aB (aF (Nk T) hr (ae (dC (qd T hr) (a9 Y (aa 0) Y)) (ae (dC (qd T hr) (a9 Y (aa 0) Y)) ah))))),?_];obtain⟨DY,DZ,vI,vJ⟩:=jR ga;obtain⟨D0,D3,vK,vL⟩:=jR gb;refine#[_,_,_,hx,T.jN,T.vd,_,Y,sC T h1 ga _ λl1 m6 H1 s1 f1 gE m8=>?_];rfl';refine#[_,_,_,s1 _ _ hx,T.jN,T.ve,_,Y,sC T (h2.same s1) gb _ λl2 m9 H2 s2 f2 bb nc=>?_];exact#[l1,l2,m6,m9,_,_,Y,s2 _ _ gE,bb,m8.imp λy y r=>(bO.cm r).same s2,nc.imp λy y r=>bO.cm r,by assumption,by assumption,by assumption,by assumption,λl zs H3 s3 fl hl hz=>q l zs H3 (s1.trans (s2.trans s3)) ((s1.trans s2).free fl) hl (hz.imp λy y r=>r.back (s1.trans s2))]
inductive ab2(T:aC)(vs:List V)(H:Hp)(Q:VK)(aO:XK):Prop
 | mk(x:adK)(a b:Tr)(_:vs=[.ref x])(_:jf T.eF T H x a b)(_:bK a)(_:bK b)(_:∀ l ys H',ai H H'->H l=O->H' l=U (.lst ys)->ay (bO H H') ys (a7 a++a7 b)->Q (.ref l) H')
theorem ab3(T:aC):bJ 9 T.CD (ab2 T):=by refine cA Lb ?_;rintro y y y y y y y y hr ⟨x,a,b,rfl,⟨dx,c1,c2,hx,h1,h2⟩,ga,gb,q⟩;refine#[_,(aw (aB (aE j5 (dC (qc T hr) (a9 Y (aa 0) Y)) (dC (qc T hr) (a9 Y (aa 0) Y))))),?_];obtain⟨DY,DZ,vI,vJ⟩:=jR ga;obtain⟨D0,D3,vK,vL⟩:=jR gb;refine#[_,_,_,hx,T.jN,T.vd,_,Y,sA T h1 ga _ λl1 m6 H1 s1 f1 gE m8=>?_];rfl';refine#[_,_,_,s1 _ _ hx,T.jN,T.ve,_,Y,sA T (h2.same s1) gb _ λl2 m9 H2 s2 f2 bb nc=>?_];have e1:=m8.len;have e2:=nc.len;refine#[l2,Y,_,s2 _ _ gE,_,bb,adG (by lia:m6.length+m9.length<=400) (by decide),λc hc=>?_];have uc:=ao (o:=.lst (m6++m9)) hc;exact q c _ _ (s1.trans (s2.trans uc)) ((s1.trans s2).free hc) au (ay.app (m8.imp λy y r=>r.same (s2.trans uc)) (nc.imp λy y r=>(r.back s1).same uc))
noncomputable def ik(a b:Int):Int:=if a<b then b else a
inductive ab4(T:aC)(vs:List V)(H:Hp)(Q:VK)(aO:XK):Prop
 | mk(x C:adK)(a b:Tr)(_:vs=[.ref x])(_:jf C T H x a b)(_:cg K C)(_:bA K C "one")(_:bA K C "other")(_:bK a)(_:bK b)(_:∀ H',ai H H'->Q (.int (ik (dN a) (dN b))) H')
theorem Nm(T:aC):bJ 3 T.rS (ab4 T):=by refine cA K8 ?_;rintro y y y y y y y y hr ⟨x,C,a,b,rfl,⟨dx,c1,c2,hx,h1,h2⟩,hc,n1,n2,ga,gb,q⟩;refine#[_,(aw (aB (cG (E9 Y) (by rfl) T.rT qE (ae (dC (za T hr) (a9 Y (aa 0) Y)) (ae (dC (za T hr) (a9 Y (aa 0) Y)) ah))))),?_];refine#[_,_,_,hx,hc,n1,_,Y,DS T h1 ga _ λH1 s1=>?_];refine#[_,_,_,s1 _ _ hx,hc,n2,_,Y,DS T (h2.same s1) gb _ λH2 s2=>?_];rfl';exact q _ (s1.trans s2)
def D4(a b:Tr):Prop:=(a7 a).length * (a7 b).length<=100/\(bL a).length+(bL b).length<=100
def D5(a b:Tr):Prop:=(a7 a).length+(a7 b).length<=100/\(bL a).length * (bL b).length<=100
inductive ab5(T:aC)(vs:List V)(H:Hp)(Q:VK)(aO:XK):Prop
 | mk(x:adK)(a b:Tr)(_:vs=[.ref x])(_:jf T.eE T H x a b)(_:bK a)(_:bK b)(_:∀ p H',ai H H'->H' p=U (.tup [.int (((a7 a).length:Int) * (a7 b).length),.int (((bL a).length:Int)+(bL b).length)])->Q (.ref p) H')
theorem ab6(T:aC):bJ 13 T.CC (ab5 T):=by
 refine cA yb ?_;rintro y y y y H y y y hr ⟨x,a,b,rfl,⟨dx,c1,c2,hx,h1,h2⟩,ga,gb,q⟩;refine#[_,(aq (aJ 1 yb.nd (dC (zf T hr) (a9 Y (aa 0) Y))) (aq (aJ 2 yb.nd (dC (zf T hr) (a9 Y (aa 0) Y))) (aw (aB (aP (ae (aE jH (ar (aa 1) ag) (ar (aa 2) ag)) (ae (aE a8 (ar (aa 1) ag) (ar (aa 2) ag)) ah))))))),?_];obtain⟨y,y,vI,vJ⟩:=jR ga;obtain⟨y,y,vK,vL⟩:=jR gb;refine aD (λG H1=>∃ p1,G=[U (.ref x),U (.ref p1),O]/\ai H H1/\H1 p1=U (.tup [.int (a7 a).length,.int (bL a).length])) (λN hN=>?_) ?_
 .exact#[_,_,_,hx,T.jM,T.u7,_,Y,#[c1,a,Y,h1,ga,λp H1 s1 hp=>hN _ _ #[p,Y,s1,hp]]]
 rintro y yR G H1 ⟨p1,rfl,s1,cK⟩;subst yR;refine aD (λG H2=>∃ p2,G=[U (.ref x),U (.ref p1),U (.ref p2)]/\ai H1 H2/\H2 p2=U (.tup [.int (a7 b).length,.int (bL b).length])) (λN hN=>?_) ?_
 .rfl';exact#[_,_,_,s1 _ _ hx,T.jM,T.vc,_,Y,#[c2,b,Y,h2.same s1,gb,λp H2 s2 hp=>hN _ _ #[p,Y,s2,hp]]]
 rintro y yR G H2 ⟨p2,rfl,s2,dZ⟩;subst yR;replace cK:=s2 _ _ cK;rfl';refine aQ cK (aQ dZ ?_);exact#[Gf (by lia) (by lia),az (ak.of cK) Y (az (ak.of dZ) Y #[aY,λp hp=>q p _ (s1.trans (s2.trans (ao hp))) au])]
inductive ab7(T:aC)(vs:List V)(H:Hp)(Q:VK)(aO:XK):Prop
 | mk(x:adK)(a b:Tr)(_:vs=[.ref x])(_:jf T.eF T H x a b)(_:bK a)(_:bK b)(_:∀ p H',ai H H'->H' p=U (.tup [.int (((a7 a).length:Int)+(a7 b).length),.int (((bL a).length:Int) * (bL b).length)])->Q (.ref p) H')
theorem ab8(T:aC):bJ 13 T.CG (ab7 T):=by
 refine cA yc ?_;rintro y y y y H y y y hr ⟨x,a,b,rfl,⟨dx,c1,c2,hx,h1,h2⟩,ga,gb,q⟩;refine#[_,(aq (aJ 1 yc.nd (dC (zf T hr) (a9 Y (aa 0) Y))) (aq (aJ 2 yc.nd (dC (zf T hr) (a9 Y (aa 0) Y))) (aw (aB (aP (ae (aE a8 (ar (aa 1) ag) (ar (aa 2) ag)) (ae (aE jH (ar (aa 1) ag) (ar (aa 2) ag)) ah))))))),?_];obtain⟨y,y,vI,vJ⟩:=jR ga;obtain⟨y,y,vK,vL⟩:=jR gb;refine aD (λG H1=>∃ p1,G=[U (.ref x),U (.ref p1),O]/\ai H H1/\H1 p1=U (.tup [.int (a7 a).length,.int (bL a).length])) (λN hN=>?_) ?_
 .exact#[_,_,_,hx,T.jN,T.vd,_,Y,#[c1,a,Y,h1,ga,λp H1 s1 hp=>hN _ _ #[p,Y,s1,hp]]]
 rintro y yR G H1 ⟨p1,rfl,s1,cK⟩;subst yR;refine aD (λG H2=>∃ p2,G=[U (.ref x),U (.ref p1),U (.ref p2)]/\ai H1 H2/\H2 p2=U (.tup [.int (a7 b).length,.int (bL b).length])) (λN hN=>?_) ?_
 .rfl';exact#[_,_,_,s1 _ _ hx,T.jN,T.ve,_,Y,#[c2,b,Y,h2.same s1,gb,λp H2 s2 hp=>hN _ _ #[p,Y,s2,hp]]]
 rintro y yR G H2 ⟨p2,rfl,s2,dZ⟩;subst yR;replace cK:=s2 _ _ cK;rfl';refine aQ cK (aQ dZ ?_);exact az (ak.of cK) Y (az (ak.of dZ) Y #[Gf (by lia) (by lia),aY,λp hp=>q p _ (s1.trans (s2.trans (ao hp))) au])
inductive ab9(C:adK)(vs:List V)(H:Hp)(Q:VK)(aO:XK):Prop
 | mk(x dx:adK)(v:V)(_:vs=[.ref x,v])(_:H x=U (.ins C dx []))(_:Q .non (upd H x (.ins C dx [("one",v)])))
theorem aca(T:aC):bJ 1 T.CH (ab9 T.gj):=by refine cA Ld ?_;rintro y y y y y y y y y ⟨x,dx,v,rfl,hx,q⟩;refine#[_,(aw (fz (aa 0) (aa 1) Y)),?_];exact#[_,_,_,hx,T.pU,T.yC,(by show 0<1000;decide),q]
inductive acb(T:aC)(vs:List V)(H:Hp)(Q:VK)(E:XK):Prop
 | mk(H0:Hp)(x C dx c1 c2:adK)(a b:Tr)(_:vs=[.ref x,.ref c1,.ref c2])(_:H x=U (.ins C dx []))(_:H0 x=O)(_:ai H0 H)(_:((C=T.eE/\D4 a b)∨(C=T.eF/\D5 a b)))(_:eK T H0 c1 a)(_:eK T H0 c2 b)(_:bK a)(_:bK b)(_:∀ H',ai H0 H'->H' x=U (.ins C dx [("one",.ref c1),("other",.ref c2)])->Q .non H')
theorem Nn(T:aC):bJ 14 T.rR (acb T):=by
 refine iG K7 ?_;rintro y y y y y y y y hr ⟨H0,x,C,dx,c1,c2,a,b,rfl,hx,fx,s0,hC,h1,h2,ga,gb,q⟩;refine#[_,(aq (fz (aa 0) (aa 1) Y) (aq (fz (aa 0) (aa 2) Y) (aw (aG (rK (cG (WM Y) (by rfl) T.rT qE (ae (Vj (JE (aa 0) (ab6 T) hr.m T.CC.b .nil bB) (JE (aa 0) (ab8 T) hr.m T.CG.b .nil bB)) ah)) (ui T.YU Y)) (aw (jv jw Y T.WQ T.YQ Y (ae aS ah))) aH)))),?_];obtain⟨cC,n1,n2⟩:cg K C/\bA K C "one" /\ bA K C "other" := by
  rcases hC with ⟨rfl,y⟩|⟨rfl,y⟩
  .exact#[T.jM,T.u7,T.vc]
  .exact#[T.jN,T.vd,T.ve]
 refine aD (λG H1=>G=[U (.ref x),U (.ref c1),U (.ref c2)]/\ai H0 H1/\H1 x=U (.ins C dx [("one",.ref c1)])) (λN hN=>?_) ?_
 .exact#[_,_,_,hx,cC,n1,(by show 0<1000;decide),hN _ _ #[Y,ir fx s0,au]]
 rintro y yR G H1 ⟨rfl,s1,nB⟩;subst yR;refine aD (λG H2=>G=[U (.ref x),U (.ref c1),U (.ref c2)]/\ai H0 H2/\H2 x=U (.ins C dx [("one",.ref c1),("other",.ref c2)])) (λN hN=>?_) ?_
 .rfl';exact#[_,_,_,nB,cC,n2,(by show 1<1000;decide),hN _ _ #[Y,ir fx s1,au]]
 rintro y yR G H2 ⟨rfl,s2,gA⟩;subst yR;have mx:∀ m n:Int,m<=100->n<=100->¬ fL [m,n] > 100:=λm n h1 h2 z=>by have:=(tW (ns:=[m,n]) (by simp)).1;simp only[adL,aeq,or_false] at this;lia
 rfl';rcases hC with ⟨rfl,z1,z2⟩|⟨rfl,z1,z2⟩
 .refine .inl #[_,_,_,gA,T.jM,T.Yz,Y,x,a,b,Y,#[dx,c1,c2,gA,h1.same s2,h2.same s2],ga,gb,λp H3 s3 hp=>?_];rfl';refine#[[_,_],ak.of hp,by simp,?_];rw[if_neg (mx _ _ (by rw[<- alm];lia) (by lia))];exact q _ (s2.trans s3) (s3 _ _ gA)
 .refine .inr #[_,_,_,gA,T.jN,T.YD,Y,x,a,b,Y,#[dx,c1,c2,gA,h1.same s2,h2.same s2],ga,gb,λp H3 s3 hp=>?_];rfl';refine#[[_,_],ak.of hp,by simp,?_];rw[if_neg (mx _ _ (by lia) (by rw[<- alm];lia))];exact q _ (s2.trans s3) (s3 _ _ gA)
inductive acd(T:aC)(vs:List V)(H:Hp)(Q:VK)(E:XK):Prop
 | mk(p:adK)(tr:Tr)(_:vs=[.ref p])(_:H p=U (.tup (lM tr)))(_:bK tr)(_:(∀ x H',ai H H'->eK T H' x tr->Q (.ref x) H'))
theorem sF(T:aC):aV 16 T.Cc (acd T):=by
 refine bD uU ?_;rintro v v v s H v v v hr ⟨p,tr,rfl,hp,hg,q⟩;refine#[_,(aq (aJ 1 uU.nd (ar (aa 0) ag)) (aq (aG (aW (aa 1) aS) (aw (aB rf)) aH) (aq (aG (aW (aa 1) aS) (aw (aB rf)) aH) (aq (aG (aW (aa 1) aS) (aw (aB rf)) aH) (aq (aG (aW (aa 1) aS) (aw (aB (jq T.X6 (aa1 T) hr.m Y T.WW T.Cv.b .nil bB (ae (ar (aa 0) ag) ah)))) aH) (aq (aG (aW (aa 1) aS) (aw (aB (jq T.X5 (aaX T) hr.m Y T.WV T.Cs.b .nil bB (ae (ar (aa 0) ag) (ae (ar (aa 0) ag) (ae (aP (ae (ar (aa 0) ag) (ae (ar (aa 0) ag) ah))) ah)))))) aH) (aq (aG (aW (aa 1) aS) (aw (aB (jq T.XY (aaR T) hr.m Y T.WR T.Ce.b .nil bB (ae (ar (aa 0) ag) (ae (ar (aa 0) ag) (ae (aP (ae (ar (aa 0) ag) (ae (ar (aa 0) ag) ah))) ah)))))) aH) (aq (aG (aW (aa 1) aS) (aw (aB (jq T.XZ (aaT T) hr.m Y T.WS T.Ci.b .nil bB (ae (ar (aa 0) ag) (ae (ar (aa 0) ag) (ae (ar (aa 0) ag) ah)))))) aH) (aq (aG (aW (aa 1) aS) (aw (aB (jq T.X2 (aaV T) hr.m Y T.WT T.Cm.b .nil bB (ae (ar (aa 0) ag) (ae (ar (aa 0) ag) (ae (ar (aa 0) ag) ah)))))) aH) (aw (aB (jq T.X4 (aaZ T) hr.m Y T.WU T.Cp.b .nil bB (ae (ar (aa 0) ag) (ae (ar (aa 0) ag) (ae (ar (aa 0) ag) (ae (ar (aa 0) ag) ah)))))))))))))))),?_];cases tr with
 | turn t =>
  refine jI hp (aX "turn" (aX "turn" (aX "turn" (lE ?_))));rfl';refine aQ hp ?_;intro x dx hx fE b9;have mk:=rk (C:=T.eB) (fs:=[]) hx fE b9;refine#[x,dx,t,Y,au,λz=>absurd hg z,λhk=>#[Y,?_]];refine q x _ (λb o e=>?_) #[dx,au];have e2:=(ai.refl H:ai H _) _ _ e;rw[aK (λz=>by rw[z,hx] at e2;cases e2)];exact mk _ _ e2
 | pace i j l h =>
  refine jI hp (aX "pace" (aX "pace" (aX "pace" (aX "pace" (lE ?_)))));rfl';refine aQ hp ?_;refine aQ hp ?_;refine aQ hp ?_;refine aQ hp ?_;refine#[aY,λy hy=>?_];have sy:=ao (o:=.tup [ev l,ev h]) hy;have ey:upd H y (.tup [ev l,ev h]) y=U (.tup [ev l,ev h]):=au;intro x dx hx fE b9;have mk:=rk (C:=T.cZ) (fs:=[]) hx fE b9;refine#[x,dx,i,j,_,Y,au,λz=>absurd hg z,λhk=>#[Y,?_]];refine q x _ (λb o e=>?_) #[dx,y,au,by rw[aK (λz=>by rw[<- z,ey] at hx;cases hx)];exact mk _ _ ey];have e2:=(sy:ai H _) _ _ e;rw[aK (λz=>by rw[z,hx] at e2;cases e2)];exact mk _ _ e2
 | stay i j l h =>
  refine jI hp (aX "stay" (aX "stay" (aX "stay" (aX "stay" (aX "stay" (lE ?_))))));rfl';refine aQ hp ?_;refine aQ hp ?_;refine aQ hp ?_;refine aQ hp ?_;refine#[aY,λy hy=>?_];have sy:=ao (o:=.tup [ev l,ev h]) hy;have ey:upd H y (.tup [ev l,ev h]) y=U (.tup [ev l,ev h]):=au;intro x dx hx fE b9;have mk:=rk (C:=T.dh) (fs:=[]) hx fE b9;refine#[x,dx,i,j,_,Y,au,λz=>absurd hg z,λhk=>#[Y,?_]];refine q x _ (λb o e=>?_) #[dx,y,au,by rw[aK (λz=>by rw[<- z,ey] at hx;cases hx)];exact mk _ _ ey];have e2:=(sy:ai H _) _ _ e;rw[aK (λz=>by rw[z,hx] at e2;cases e2)];exact mk _ _ e2
 | over i j s =>
  refine jI hp (aX "over" (aX "over" (aX "over" (aX "over" (aX "over" (aX "over" (lE ?_)))))));rfl';refine aQ hp ?_;refine aQ hp ?_;refine aQ hp ?_;intro x dx hx fE b9;have mk:=rk (C:=T.di) (fs:=[]) hx fE b9;refine#[x,dx,i,j,_,Y,au,λz=>absurd hg z,λhk=>#[Y,?_]];refine q x _ (λb o e=>?_) #[dx,au];have e2:=(ai.refl H:ai H _) _ _ e;rw[aK (λz=>by rw[z,hx] at e2;cases e2)];exact mk _ _ e2
 | under i j s =>
  refine jI hp (aX "under" (aX "under" (aX "under" (aX "under" (aX "under" (aX "under" (aX "under" (lE ?_))))))));rfl';refine aQ hp ?_;refine aQ hp ?_;refine aQ hp ?_;intro x dx hx fE b9;have mk:=rk (C:=T.dj) (fs:=[]) hx fE b9;refine#[x,dx,i,j,_,Y,au,λz=>absurd hg z,λhk=>#[Y,?_]];refine q x _ (λb o e=>?_) #[dx,au];have e2:=(ai.refl H:ai H _) _ _ e;rw[aK (λz=>by rw[z,hx] at e2;cases e2)];exact mk _ _ e2
 | rose i j l h =>
  refine jI hp (aX "rose" (aX "rose" (aX "rose" (aX "rose" (aX "rose" (aX "rose" (aX "rose" (aX "rose" ?_))))))));refine aQ hp ?_;refine aQ hp ?_;refine aQ hp ?_;refine aQ hp ?_;intro x dx hx fE b9;have mk:=rk (C:=T.dD) (fs:=[]) hx fE b9;refine#[x,dx,i,j,l,h,Y,au,λz=>absurd hg z,λhk=>#[Y,?_]];refine q x _ (λb o e=>?_) #[dx,au];have e2:=(ai.refl H:ai H _) _ _ e;rw[aK (λz=>by rw[z,hx] at e2;cases e2)];exact mk _ _ e2
theorem ace(h:0<t):(a7 (.turn t)).any (aM cs)=true↔cs.getD (t-1).toNat 0<cs.getD t.toNat 0/\cs.getD (t+1).toNat 0<cs.getD t.toNat 0:=by
 rw[show (a7 (.turn t)).any (aM cs)=aM cs (je t) from ahH _];unfold aM je;simp only[afL,ahv,ago,aew,gY];unfold mC;rw[if_pos Y,if_pos Y,show t-1+1=t by lia];constructor
 .rintro ⟨⟨h1,y⟩,y,h2⟩;have a:=h1 _ rfl;have b:=h2 _ rfl;lia
 .rintro ⟨h1,h2⟩;refine#[#[λx hx=>?_,λx hx=>(nomatch hx)],λx hx=>(nomatch hx),λx hx=>?_]
  .cases hx;lia
  .cases hx;lia
inductive acf(vs:List V)(H:Hp)(Q:VK)(aO:XK):Prop
 | mk(p a:adK)(tr:Tr)(cs:List Int)(_:vs=[.ref p,.ref a])(_:H p=U (.tup (lM tr)))(_:bK tr)(_:aj K H a (cs.map V.int))(_:cs.length<=100)(_:dN tr<(cs.length:Int))(_:∀ H',ai H H'->Q (.bl ((a7 tr).any (aM cs))) H')
theorem zg(hp:H p=U (.tup (.str s :: .int i :: .int j::vs)))(hS:aj K1 H a (cs.map V.int))(g1:0<=i)(g2:i<=j)(hf:j<(cs.length:Int))(h:∀ d H1,ai H H1->H1 d=U (.lst (((adM (j+1-i).toNat).map (bH cs i)).map V.int))->u D [U (.ref p),U (.ref a),U (.str s),O,U (.ref d)] H1):lU (qt (zY (wF K1) (mO 1) (wC (jn (iq K1) (mO 0) (tC (.int 1)))) (wC (jn (uH λi j=>V.int (i+j)) (jn (iq K1) (mO 0) (tC (.int 2))) (tC (.int 1))))) (cH 4)) u D [U (.ref p),U (.ref a),U (.str s),O,O] H:=by refine az (ak.of hp) (dQ (j:=1) Y) ?_;rfl';refine az (ak.of hp) (dQ (j:=2) Y) ?_;refine#[_,hS,?_];rw[Vp g1 g2 hf];exact λd hd=>h d _ (ao hd) au
theorem sH(T:aC):aV 2 T.Cb acf:=by
 refine bD pK ?_;rintro y y y s H y Q y hr ⟨p,a,tr,cs,rfl,hp,hg,hS,hn,hf,q⟩;refine#[_,(aq (aJ 2 pK.nd (ar (aa 0) ag)) (aq (aG (aW (aa 2) aS) (aw (aB rf)) aH) (aq (aG (aW (aa 2) aS) (aw (aB rf)) aH) (aq (aG (aW (aa 2) aS) (aw (aB rf)) aH) (aq (aG (aW (aa 2) aS) (aw (aB (fP (fb (hV oF) (ar (aa 1) (aE cf (ar (aa 0) ag) ag)) (ar (aa 1) (ar (aa 0) ag)) (c6 _)) (fq (fb (hV oF) (ar (aa 1) (aE a8 (ar (aa 0) ag) ag)) (ar (aa 1) (ar (aa 0) ag)) (c6 _)))))) aH) (aq (aG (aW (aa 2) aS) (aq (tT (i:=3) (cO [1] [fR]) Y pK.nd Y Y (nu Y T.eV (ae (ar (aa 0) ag) (ae (ar (aa 0) ag) ah))) (λC s2 H2 ex pn=>#[dH,(aE cf (cu (K:=K) (aa 1) (aE a8 (aa 0) ag)) (cu (K:=K) (aa 1) (aa 0)))])) (aw (aB (cG (xb Y) (by rfl) T.yu wM (ae (dz (cO [0] [kD]) Y (dX (aa 3)) (λC s2 H2 ex pn=>#[dH,(aF (yI T) hr (ae (aP (ae (cu (K:=K) (aa 1) ag) (ae (cu (K:=K) (aa 1) ag) ah))) (ae (aa 0) ah)))])) ah))))) aH) (aq (aJ 4 pK.nd (wD z7 (aa 1) (tJ (ar (aa 0) ag)) (tJ (aE a8 (ar (aa 0) ag) ag)))) (aq (aG (aW (aa 2) aS) (aw (aB (cG (xb Y) (by rfl) T.yu wM (ae (dz (cO [0] [kD]) Y (dX (aa 4)) (λC s2 H2 ex pn=>#[dH,(aF (yI T) hr (ae (aP (ae (cu (K:=K) (aa 1) ag) (ae (cu (K:=K) (aa 1) ag) ah))) (ae (aa 0) ah)))])) ah)))) aH) (aq (aG (aW (aa 2) aS) (aw (aB (fb (hV zR) (cG (G5 Y) (by rfl) T.rT qE (ae (aa 4) ah)) (ar (aa 0) ag) (c6 _)))) aH) (aq (aG (aW (aa 2) aS) (aw (aB (fb (hV fU) (cG (G6 Y) (by rfl) T.n9 nz (ae (aa 4) ah)) (ar (aa 0) ag) (c6 _)))) aH) (aw (aB (cG (He Y) (by rfl) T.LN F4 (ae (dz (cO [0,4] [kD,"_law_seen"]) Y (jm Y T.eV (ae (aE cf (cY T.cS (ae (aa 4) ah)) ag) ah)) (λC s2 H2 ex pn=>#[dH,(fP (fb (hV fU) (cG (Vn (K:=K) Y Y) (by rfl) T.n9 nz (ae (wD (Hf (K:=K) Y) (aa 2) zW (tJ (aE a8 (aa 0) ag))) ah)) (cu (K:=K) (aa 1) ag) (c6 _)) (fq (fb (hV zR) (cG (Vm (K:=K) Y Y) (by rfl) T.rT qE (ae (wD (Hf (K:=K) Y) (aa 2) (tJ (aE a8 (aa 0) ag)) zW) ah)) (cu (K:=K) (aa 1) ag) (c6 _))))])) ah)))))))))))))),?_];cases tr with
 | turn t =>
  obtain⟨g1,g2⟩:=(hg:0<t/\t<11)
  simp only[dN] at hf;refine jI hp (aX "turn" (aX "turn" (aX "turn" (lE ?_))));rfl';refine aQ hp ?_;refine bR hS (int_at (by lia) (by lia)) (az (ak.of hp) Y (bR hS (int_at (by lia) (by lia)) ?_));have tm:=ace (cs:=cs) g1;refine aU (λhc=>?_) λhc=>?_
  .refine aQ hp ?_;refine bR hS (int_at (by lia) (by lia)) (az (ak.of hp) Y (bR hS (int_at (by lia) (by lia)) ?_));rfl';have:=q _ (ai.refl _);rw[show decide (cs.getD (t+1).toNat 0<cs.getD t.toNat 0)=(a7 (.turn t)).any (aM cs) from by
    rw[aeU,decide_eq_true_eq,tm];exact#[λz=>#[hc,z],λz=>z.2]]
   exact this
  .have:=q _ (ai.refl _);rw[show (a7 (.turn t)).any (aM cs)=false from ahb.mpr λz=>hc (tm.mp z).1] at this;exact this
 | stay i j l h =>
  obtain⟨g1,g2,g3⟩:=(hg:bY i j)
  simp only[dN] at hf;refine jI hp (aX "stay" (aX "stay" (aX "stay" (aX "stay" (aX "stay" (zg hp hS g1 g2 hf λd H1 sd ed=>lE ?_))))));rfl';refine#[#[_,aj.of ed],cX kf (by rw[adA,adA,adO];exact adG (by lia:_<=12) (by decide)) (tZ (R:=λ_ x (n:Int)=>x=V.int n) (p:=λy=>true) (f:=λn=>.bl (hold l h n)) (λy y y y y h=>h) (Gz.ay.ints _) (λH' s'=>aj.of (s' _ _ ed)) (λx n y H2 s2 r Q h=>?_) (λx n y y H2 s2 r Q h=>?_) λH2 s2=>?_)]
  .exact h _ (ai.refl _)
  .subst r;rfl';refine az (ak.of ((sd.trans s2) _ _ hp)) Y (az (ak.of ((sd.trans s2) _ _ hp)) Y #[aY,λt ht=>?_]);exact#[t,l,_,n,Y,ak.of au,h _ (ao ht)]
  .rw[ad4,filter_tt];intro m hm;refine#[m,Y,((adM (j+1-i).toNat).map (bH cs i)).map (hold l h),aj.of ?_,?_]
   .rw[au];simp only[aev,aiI]
   .rw[agl,agl];have e:(a7 (.stay i j l h)).any (aM cs)=(adM (j+1-i).toNat).all ((id ∘ hold l h) ∘ bH cs i):=by rw[show (a7 (.stay i j l h)).any (aM cs)=aM cs (bz i j (l,h)) from ahH _,Bx];rfl
    rw[<- e];exact q _ (sd.trans (s2.trans (ao hm)))
 | pace i j l h =>
  obtain⟨g1,g2,g3⟩:=(hg:bY i j)
  simp only[dN] at hf;refine jI hp (aX "pace" (aX "pace" (aX "pace" (aX "pace" (lE ?_)))));rfl';refine aQ hp (aQ hp ?_);rfl';refine#[by lia,by lia,by lia,by lia,cX iT (by rw[adA,adO];exact adG (by lia:_<=12) (by decide)) (oW (R:=λx (k:Nat)=>x=V.int (i+k)) (p:=λy=>true) (f:=λk=>.int (cs.getD (i+(k:Int)+1).toNat 0-bH cs i k)) trivial (ay.gq _) (λx k y r Q h=>?_) (λx k hk y r Q h=>?_) ?_)]
  .exact h
  .subst r;have hk:=ad0.mp hk;refine bR hS (int_at (by lia) (by lia)) (bR hS (int_at (by lia) (by lia)) ?_);exact h
  rw[ad4,filter_tt];intro d hd;rw[show ((adM (j-i).toNat).map λ(k:Nat)=>V.int (cs.getD (i+(k:Int)+1).toNat 0-bH cs i k))=((adM (j-i).toNat).map λ(k:Nat)=>cs.getD (i+(k:Int)+1).toNat 0-bH cs i k).map V.int by rw[aev];rfl];generalize eg:((adM (j-i).toNat).map λ(k:Nat)=>cs.getD (i+(k:Int)+1).toNat 0-bH cs i k)=gs;have sd:=ao (o:=.lst (gs.map V.int)) hd;have ed:upd H d (.lst (gs.map V.int)) d=U (.lst (gs.map V.int)):=au;have ia:gs.length<=12:=by rw[<- eg,adA,adO];lia
  generalize upd H d (.lst (gs.map V.int))=H1 at sd ed ⊢;refine#[d,Y,#[_,aj.of ed],cX kf (by rw[adA];exact adG ia (by decide)) (tZ (R:=λ_ x (n:Int)=>x=V.int n) (p:=λy=>true) (f:=λn=>.bl (hold l h n)) (λy y y y y h=>h) (Gz.ay.ints _) (λH' s'=>aj.of (s' _ _ ed)) (λx n y H2 s2 r Q h=>?_) (λx n y y H2 s2 r Q h=>?_) λH2 s2=>?_)]
  .exact h _ (ai.refl _)
  .subst r;rfl';refine az (ak.of ((sd.trans s2) _ _ hp)) Y (az (ak.of ((sd.trans s2) _ _ hp)) Y #[aY,λt ht=>?_]);exact#[t,l,_,n,Y,ak.of au,h _ (ao ht)]
  .rw[ad4,filter_tt];intro m hm;refine#[m,Y,gs.map (hold l h),aj.of ?_,?_]
   .rw[au];simp only[aev,aiI]
   .have e:(a7 (.pace i j l h)).any (aM cs)=(gs.map (hold l h)).all id:=by rw[show (a7 (.pace i j l h)).any (aM cs)=aM cs (hU i j (l,h)) from ahH _,Vo,agl,<- eg,agl];rfl
    rw[<- e];exact q _ (sd.trans (s2.trans (ao hm)))
 | over i j s =>
  obtain⟨g1,g2,g3⟩:=(hg:bY i j)
  simp only[dN] at hf;refine jI hp (aX "over" (aX "over" (aX "over" (aX "over" (aX "over" (zg hp hS g1 g2 hf λd H1 sd ed=>aX "over" (lE ?_)))))));rfl';refine#[_,aj.of ed,by simp;lia,aQ (sd _ _ hp) ?_];rfl';have:=q _ sd;rw[show decide (s<=fL ((adM (j+1-i).toNat).map (bH cs i)))=(a7 (.over i j s)).any (aM cs) from by
   rw[aeU,decide_eq_true_eq,Vs (by lia)];exact Vq.symm]
  exact this
 | under i j s =>
  obtain⟨g1,g2,g3⟩:=(hg:bY i j)
  simp only[dN] at hf;refine jI hp (aX "under" (aX "under" (aX "under" (aX "under" (aX "under" (zg hp hS g1 g2 hf λd H1 sd ed=>aX "under" (aX "under" (lE ?_))))))));rfl';refine#[_,aj.of ed,by simp;lia,aQ (sd _ _ hp) ?_];rfl';have:=q _ sd;rw[show decide (gV ((adM (j+1-i).toNat).map (bH cs i))<=s)=(a7 (.under i j s)).any (aM cs) from by
   rw[aeU,decide_eq_true_eq,By (by lia)];exact Vr.symm]
  exact this
 | rose i j l h =>
  obtain⟨g1,g2,g3⟩:=(hg.1:bY i j)
  simp only[dN] at hf;refine jI hp (aX "rose" (aX "rose" (aX "rose" (aX "rose" (aX "rose" (zg hp hS g1 g2 hf λd H1 sd ed=>aX "rose" (aX "rose" (aX "rose" ?_))))))));rfl';obtain⟨n,hn1,zT⟩:∃ n,(j+1-i).toNat=n/\n<=12:=#[_,Y,by lia]
  have Np:=JI (cs:=cs) (i:=i) (j:=j) (l:=l) (h:=h);rw[hn1] at Np ed;have n1:1<=n:=by lia
  refine#[_,fg (aj.of ed),?_];rw[adA,adA,adO];refine#[by lia,by lia,?_];rw[show ((n:Int)-1).toNat=n-1 by lia];refine cX iT (by rw[adA,adO];exact adG (by lia:_<=12) (by decide)) (tZ (R:=λ_ x (k:Nat)=>x=V.int ((0:Int)+k)) (p:=λy=>true) (f:=λk=>.bl (decide (gV (((adM n).map (bH cs i)).take (k+1))<=l) && decide (h<=fL (((adM n).map (bH cs i)).drop (k+1))))) (λy y y y y h=>h) (ay.gq _) (λy y=>trivial) (λx k y H2 s2 r Q h=>?_) (λx k hk y H2 s2 r Q h=>?_) λH2 s2=>?_)
  .exact h _ (ai.refl _)
  .subst r;have hk:=ad0.mp hk;have len:((adM n).map (bH cs i)).length=n:=by rw[adA,adO]
   have ne1:((adM n).map (bH cs i)).take (k+1)≠[]:=λz=>by have:=congrArg List.length z;rw[afp,len] at this;simp at this;lia
   have ne2:((adM n).map (bH cs i)).drop (k+1)≠[]:=λz=>by have:=congrArg List.length z;rw[af8,len] at this;simp at this;lia
   rfl';rw[show (0:Int)+(k:Int)+1=((k+1:Nat):Int) by lia];refine#[_,aj.of (s2 _ _ ed),?_];rw[RY,<- akf];intro p1 cK;have u1:=ao (o:=.lst ((((adM n).map (bH cs i)).take (k+1)).map V.int)) cK;refine#[_,aj.of au,ne1,az (ak.of ((sd.trans (s2.trans u1)) _ _ hp)) Y ?_];refine aU (λhc=>?_) λhc=>?_
   .refine#[_,aj.of ((s2.trans u1) _ _ ed),?_];rw[Hj,<- alO];intro p2 dZ;have u2:=ao (o:=.lst ((((adM n).map (bH cs i)).drop (k+1)).map V.int)) dZ;refine#[_,aj.of au,ne2,az (ak.of ((sd.trans (s2.trans (u1.trans u2))) _ _ hp)) Y ?_];have:=h _ (u1.trans u2);rw[decide_eq_true hc,aiX] at this;exact this
   .have:=h _ u1;rw[decide_eq_false hc,ahh] at this;exact this
  .rw[ad4,filter_tt];intro m hm;refine#[m,Y,(adM (n-1)).map λk=>decide (gV (((adM n).map (bH cs i)).take (k+1))<=l) && decide (h<=fL (((adM n).map (bH cs i)).drop (k+1))),aj.of ?_,?_]
   .rw[au];simp only[aev,aiI]
   .rw[akH];have e:(a7 (.rose i j l h)).any (aM cs)=((adM (n-1)).any λk=>decide (gV (((adM n).map (bH cs i)).take (k+1))<=l) && decide (h<=fL (((adM n).map (bH cs i)).drop (k+1)))):=by rw[aeU,Vt];exact Np
    exact (congrArg (λb=>Q (V.bl b) _) e).mp (q _ (sd.trans (s2.trans (ao hm))))
inductive Te where
 | leaf (a:Tr)|nay (a:Tr)|both (a b:Tr)|either (a b:Tr)
def gk(T:aC)(H:Hp)(x:adK):Te->Prop
 | .leaf a=>eK T H x a
 | .nay a=>oz T H x a
 | .both a b=>jf T.eE T H x a b
 | .either a b=>jf T.eF T H x a b
def fm:Te->Prop
 | .leaf a=>bK a
 | .nay a=>bK a
 | .both a b=>(bK a/\bK b)/\D4 a b
 | .either a b=>(bK a/\bK b)/\D5 a b
noncomputable def cD:Te->Int
 | .leaf a=>dN a
 | .nay a=>dN a
 | .both a b=>ik (dN a) (dN b)
 | .either a b=>ik (dN a) (dN b)
noncomputable def dF:Te->List (List Pa)
 | .leaf a=>a7 a
 | .nay a=>bL a
 | .both a b=>fF (a7 a) (a7 b)
 | .either a b=>a7 a++a7 b
noncomputable def cQ:Te->List (List Pa)
 | .leaf a=>bL a
 | .nay a=>a7 a
 | .both a b=>bL a++bL b
 | .either a b=>fF (bL a) (bL b)
theorem gk.same(h:gk T H x te)(s:ai H H'):gk T H' x te:=by
 cases te
 case leaf=>exact eK.same h s
 case nay=>exact oz.same h s
 all_goals exact jf.same h s
inductive zh(T:aC)(f:Te->List (List Pa))(x:V)(H:Hp)(Q:VK):Prop
 | mk(a:adK)(tr:Te)(_:x = .ref a)(_:gk T H a tr)(_:fm tr)(_:∀ l ys H',ai H H'->H l=O->H' l=U (.lst ys)->ay (bO H H') ys (f tr)->Q (.ref l) H')
inductive Nq(T:aC)(x:V)(H:Hp)(Q:VK):Prop
 | mk(a:adK)(tr:Te)(_:x = .ref a)(_:gk T H a tr)(_:fm tr)(_:∀ H',ai H H'->Q (.int (cD tr)) H')
theorem Nr(T:aC)(hr:bF n A)(hn:9<=n:=by decide)(x:V)(H:Hp)(Q:VK)(h:zh T dF x H Q):lD P w K mg base A "ways" x H Q:=by
 obtain⟨x,tr,rfl,he,hg,cont⟩:=h;replace hr:=hr.mono hn;cases tr with
 | leaf a=>exact qc T hr (by decide) _ _ _ #[x,a,Y,he,hg,cont]
 | nay a =>
  obtain⟨dx,c,hx,hc⟩:=id he;exact .of hx T.pU T.YI (abR T) hr T.CJ.b #[x,a,Y,he,hg,cont]
 | both a b =>
  obtain⟨dx,c1,c2,hx,y⟩:=id he;exact .of hx T.jM T.YB (abX T) hr T.CA.b #[x,a,b,Y,he,hg.1.1,hg.1.2,cont]
 | either a b =>
  obtain⟨dx,c1,c2,hx,y⟩:=id he;exact .of hx T.jN T.YF (ab3 T) hr T.CD.b #[x,a,b,Y,he,hg.1.1,hg.1.2,cont]
theorem Nt(T:aC)(he:gk T H x tr)(hg:fm tr)(Q:VK)(cont:∀ l ys H',ai H H'->H l=O->H' l=U (.lst ys)->ay (bO H H') ys (dF tr)->Q (.ref l) H'):zh T dF (.ref x) H Q:=#[x,tr,Y,he,hg,cont]
theorem Nu(T:aC)(hr:bF n A)(hn:9<=n:=by decide)(x:V)(H:Hp)(Q:VK)(h:zh T cQ x H Q):lD P w K mg base A "breaks" x H Q:=by
 obtain⟨x,tr,rfl,he,hg,cont⟩:=h;replace hr:=hr.mono hn;cases tr with
 | leaf a=>exact qd T hr (by decide) _ _ _ #[x,a,Y,he,hg,cont]
 | nay a =>
  obtain⟨dx,c,hx,hc⟩:=id he;exact .of hx T.pU T.YJ (abT T) hr T.CK.b #[x,a,Y,he,hg,cont]
 | both a b =>
  obtain⟨dx,c1,c2,hx,y⟩:=id he;exact .of hx T.jM T.YC (abZ T) hr T.CB.b #[x,a,b,Y,he,hg.1.1,hg.1.2,cont]
 | either a b =>
  obtain⟨dx,c1,c2,hx,y⟩:=id he;exact .of hx T.jN T.YG (ab1 T) hr T.CF.b #[x,a,b,Y,he,hg.1.1,hg.1.2,cont]
theorem Nv(T:aC)(he:gk T H x tr)(hg:fm tr)(Q:VK)(cont:∀ l ys H',ai H H'->H l=O->H' l=U (.lst ys)->ay (bO H H') ys (cQ tr)->Q (.ref l) H'):zh T cQ (.ref x) H Q:=#[x,tr,Y,he,hg,cont]
theorem Nw(T:aC)(hr:bF n A)(hn:3<=n:=by decide)(x:V)(H:Hp)(Q:VK)(h:Nq T x H Q):lD P w K mg base A "far" x H Q:=by
 obtain⟨x,tr,rfl,he,hg,cont⟩:=h;replace hr:=hr.mono hn;cases tr with
 | leaf a=>exact za T hr (by decide) _ _ _ #[x,a,Y,he,hg,cont]
 | nay a =>
  obtain⟨dx,c,hx,hc⟩:=id he;exact .of hx T.pU T.YH (abV T) hr T.CI.b #[x,a,Y,he,hg,cont]
 | both a b =>
  obtain⟨dx,c1,c2,hx,y⟩:=id he;exact .of hx T.jM T.YA (Nm T) hr T.rS.b #[x,T.eE,a,b,Y,he,T.jM,T.u7,T.vc,hg.1.1,hg.1.2,cont]
 | either a b =>
  obtain⟨dx,c1,c2,hx,y⟩:=id he;exact .of hx T.jN T.YE (Nm T) hr T.rS.b #[x,T.eF,a,b,Y,he,T.jN,T.vd,T.ve,hg.1.1,hg.1.2,cont]
theorem Nx(T:aC)(he:gk T H x tr)(hg:fm tr)(Q:VK)(cont:∀ H',ai H H'->Q (.int (cD tr)) H'):Nq T (.ref x) H Q:=#[x,tr,Y,he,hg,cont]
theorem max_lt(h:ik a b<t):a<t/\b<t:=by unfold ik at h;split at h<;>lia
theorem Ny(ha:∀ ps∈as,ps.length<=100/\cc t ps)(hb:∀ ps∈bs,ps.length<=100/\cc t ps):∀ ps∈fF as bs,ps.length<=900/\cc t ps:=λps h=>by
 unfold fF at h;obtain⟨a,h1,h⟩:=afr.mp h;obtain⟨b,h2,rfl⟩:=adP.mp h;obtain⟨l1,k1⟩:=ha a h1;obtain⟨l2,k2⟩:=hb b h2;refine#[by rw[adT];lia,λp hp=>?_];rcases aec.mp hp with z|z
 .exact k1 p z
 .exact k2 p z
theorem Nz{t:Int}{as bs:List (List Pa)}(ha:∀ ps∈as,ps.length<=100/\cc t ps)(hb:∀ ps∈bs,ps.length<=100/\cc t ps):∀ ps∈as++bs,ps.length<=900/\cc t ps:=λps h=>by
 rcases aec.mp h with z|z
 .exact#[adG (ha ps z).1 (by decide),(ha ps z).2]
 .exact#[adG (hb ps z).1 (by decide),(hb ps z).2]
theorem zi(hg:fm tr)(hj:cD tr<t):(∀ ps∈cQ tr,ps.length<=900/\cc t ps)/\(∀ ps∈dF tr,ps.length<=900/\cc t ps)/\(cQ tr).length<=200/\(dF tr).length<=200:=by
 cases tr with
 | leaf a=>exact DV hg hj
 | nay a =>
  obtain⟨a,b,c,d⟩:=DV hg hj;exact#[b,a,d,c]
 | both a b =>
  obtain⟨⟨ga,gb⟩,z1,z2⟩:=hg;obtain⟨j1,j2⟩:=max_lt hj;obtain⟨a1,a2,y,y⟩:=vH ga j1;obtain⟨b1,b2,y,y⟩:=vH gb j2;refine#[Nz a1 b1,Ny a2 b2,?_,?_]
  .show (bL a++bL b).length<=200;rw[adT];lia
  .show (fF (a7 a) (a7 b)).length<=200;rw[DW];lia
 | either a b =>
  obtain⟨⟨ga,gb⟩,z1,z2⟩:=hg;obtain⟨j1,j2⟩:=max_lt hj;obtain⟨a1,a2,y,y⟩:=vH ga j1;obtain⟨b1,b2,y,y⟩:=vH gb j2;refine#[Ny a1 b1,Nz a2 b2,?_,?_]
  .show (fF (bL a) (bL b)).length<=200;rw[DW];lia
  .show (a7 a++a7 b).length<=200;rw[adT];lia
theorem acg(hg:fm tr):0<=cD tr:=by
 cases tr with
 | leaf a=>exact sD hg
 | nay a=>exact sD hg
 | both a b =>
  have h1:=sD hg.1.1;have h2:=sD hg.1.2;show 0<=ik _ _;unfold ik;split<;>lia
 | either a b =>
  have h1:=sD hg.1.1;have h2:=sD hg.1.2;show 0<=ik _ _;unfold ik;split<;>lia
def ng(u d t m:Int)(tb:Tb)(cl:List (List Pa)):Prop:=gO u d t m tb []/\∀ ps∈cl,¬ gO u d t m tb ps
def gn(u d t m:Int)(tb:Tb)(cl:List (List Pa))(H:Hp)(k:adK):Prop:=∃ cs L ps,ps∈cl/\H k=U (.lst (cs.map V.int))/\cs.length=t.toNat/\jJ (dM u d ps (t-1).toNat) (eW ps t.toNat) tb m L (bV cs)
theorem gn.same(h:gn u d t m tb cl H k)(s:ai H H'):gn u d t m tb cl H' k:=let ⟨cs,L,ps,a,b,c⟩:=h;#[cs,L,ps,a,s _ _ b,c]
theorem gn.un(h:gn u d t m tb cl H k):¬ ng u d t m tb cl:=λz=>let ⟨cs,L,ps,a,_,_,c⟩:=h;z.2 ps a #[L,_,c]
inductive ach(T:aC)(vs:List V)(H:Hp)(Q:VK)(E:XK):Prop
 | mk(x p v:adK)(e t u d m:Int)(tr:Te)(tb:Tb)(_:vs=[.ref x,.ref v])(_:b6 T.aZ H x e t u d m p tb)(_:dE e t u d m)(_:cj e t tb)(_:tb.length<=60)(_:gk T H v tr)(_:fm tr)(_:(¬ cD tr<t->∀ H',ai H H'->E (.ref T.ig) O H'))(_:(cD tr<t->(¬ ng u d t m tb (cQ tr)->∀ r z H',ai H H'->H' r=U (.tup [.str "none",z])->dn u d t m tb H' z []->Q (.ref r) H')/\(ng u d t m tb (cQ tr)->∀ r k zs H',ai H H'->H' r=U (.tup [.str "yes",.ref k])->H' k=U (.lst zs)->ay (dn u d t m tb H') zs (cQ tr)->Q (.ref r) H')/\(¬ ng u d t m tb (cQ tr)->gO u d t m tb []->∀ r k zs H',ai H H'->H' r=U (.tup [.str "no",.ref k])->H' k=U (.lst zs)->ay (dn u d t m tb H') zs (dF tr)->Q (.ref r) H')/\(¬ ng u d t m tb (cQ tr)->∀ r k1 k2 H',ai H H'->H' r=U (.tup [.str "open",.ref k1,.ref k2])->gn u d t m tb (dF tr) H' k1->gn u d t m tb (cQ tr) H' k2->Q (.ref r) H')))
theorem D6(T:aC):aV 22 T.ym (ach T):=by
 refine kA uS ?_;rintro n A n n H n n n hr ⟨x,p,v,e,t,u,d,m,tr,tb,rfl,hB,dm,hot,gL,hv,hg,q0,q⟩;refine#[_,(aq (aG (cV (de (ff (aa 0) T.bQ T.vg (vm T) hr.m T.pS.b .nil bB (ae (dC (Nw T hr) (aa 1)) ah)))) (aw (jv jw Y T.B8 T.yF Y (ae aS ah))) aH) (aq (aJ 2 uS.nd (gJ (DC T) hr (ae (aa 0) (ae (cE ah) ah)))) (aq (aG (aW (ar (aa 2) ag) aS) (aw (aB (aP (ae aS (ae (ar (aa 2) ag) ah))))) aH) (aq (aJ 3 uS.nd (gJ (Nh T) hr (ae (aa 0) (ae (dC (Nu T hr) (aa 1)) ah)))) (aq (aG (aW (ar (aa 3) ag) aS) (aw (aB (aP (ae aS (ae (ar (aa 3) ag) ah))))) aH) (aq (aJ 4 uS.nd (gJ (Nh T) hr (ae (aa 0) (ae (dC (Nr T hr) (aa 1)) ah)))) (aq (aG (aW (ar (aa 4) ag) aS) (aw (aB (aP (ae aS (ae (ar (aa 4) ag) ah))))) aH) (aw (aB (aP (ae aS (ae (ar (aa 4) ag) (ae (ar (aa 3) ag) ah))))))))))))),?_];obtain⟨⟨e1,e7⟩,⟨t1,t2⟩,u0,d0,m0,me⟩:=id dm;refine aD (λG H1=>G=[U (.ref x),U (.ref v),O,O,O]/\ai H H1/\cD tr<t) (λN hN=>?_) ?_
 .obtain⟨⟨bx,hx⟩,hT⟩:=id hB;obtain⟨kvs,hkv,n⟩:=hT;rfl';refine#[_,_,hx,Y,Nx T hv hg _ λH1 s1=>?_];refine#[x,p,e,t,u,d,m,_,kvs,Y,#[#[bx,s1 _ _ hx],s1 _ _ hkv],?_];by_cases hf:cD tr<t
  .rw[decide_eq_true #[acg hg,hf]];exact hN _ _ #[Y,s1,hf]
  .rw[decide_eq_false λz=>hf z.2];exact#[by show 1<=ad1;decide,q0 hf _ s1]
 rintro n yR G H1 ⟨rfl,sI,hf⟩;subst yR;replace hB:=hB.same sI;replace hv:=hv.same sI;obtain⟨qn,qy,qo,qp⟩:=q hf;replace qn:=λa r z H' s b c=>qn a r z H' (sI.trans s) b c;replace qy:=λa r k zs H' s b c d=>qy a r k zs H' (sI.trans s) b c d;replace qo:=λa a2 r k zs H' s b c d=>qo a a2 r k zs H' (sI.trans s) b c d;replace qp:=λa r k1 k2 H' s b c d=>qp a r k1 k2 H' (sI.trans s) b c d;obtain⟨bo,wo,bl,wl⟩:=zi hg hf;refine aD (λG H2=>∃ a z y,G=[U (.ref x),U (.ref v),U (.ref a),O,O]/\ai H1 H2/\H2 a=U (.tup [.str y,z])/\((gO u d t m tb []/\y = "may")∨(¬ gO u d t m tb []/\y = "never" /\ dn u d t m tb H2 z []))) (λN hN=>?_) ?_
 .rfl';refine#[ad6 _,λb hb=>?_];have sb:=ao (o:=.lst []) hb;have oy:cc t []:=λp hp=>by cases hp
  refine#[x,p,b,e,t,u,d,m,[],[],tb,Y,hB.same sb,hot,gL,t1,t2,by lia,e7,m0,by lia,aj.of au,trivial,ad6 _,λz=>absurd oy z,λn a H2 s2 A=>?_];by_cases hh:gO u d t m tb []
  .obtain⟨L0,c0,F0⟩:=id hh;obtain⟨rr,rfl,⟨z,hrr,hn⟩|⟨k9,cs,L,hrr,jd,n,hcs,F⟩⟩:=DQ (by rw[DP,ox];lia) (λr hr=>by rw[ox];have:=(hot.2 r hr).2;lia) A
   .exact absurd F0 (hn _ _)
   .exact hN _ _ #[rr,_,_,Y,sb.trans s2,hrr,.inl #[hh,Y]]
  .obtain⟨rr,z,rfl,hrr,hR⟩:=Ng A λL c F=>hh #[L,c,F];exact hN _ _ #[rr,_,_,Y,sb.trans s2,hrr,.inr #[hh,Y,hR]]
 rintro n yR G H2 ⟨a,z,y,rfl,s2,ha,ca⟩;subst yR;refine aD (λG H3=>G=[U (.ref x),U (.ref v),U (.ref a),O,O]/\H3=H2/\gO u d t m tb []) (λN hN=>?_) ?_
 .rfl';refine aQ ha ?_;rcases ca with ⟨hh,rfl⟩|⟨hh,rfl,hR⟩
  .rfl';rw[if_neg (by decide)];exact hN _ _ #[Y,Y,hh]
  .refine az (ak.of ha) Y #[aY,λr hr=>qn (λz=>hh z.1) r _ _ (s2.trans (ao hr)) au (gN.same hR (ao hr))]
 rintro n yR G H3 ⟨rfl,rfl,hh⟩;subst yR;refine aD (λG H4=>∃ w,G=[U (.ref x),U (.ref v),U (.ref a),U (.ref w),O]/\ai H1 H4/\((∃ k,H4 w=U (.tup [.str "may",.ref k])/\gn u d t m tb (cQ tr) H4 k)∨(∃ k zs,H4 w=U (.tup [.str "never",.ref k])/\H4 k=U (.lst zs)/\ay (dn u d t m tb H4) zs (cQ tr)/\∀ ps∈cQ tr,¬ gO u d t m tb ps))) (λN hN=>?_) ?_
 .rfl';refine Nv T (hv.same s2) hg _ λb ys H4 s4 n hb hC=>?_;refine#[x,p,b,e,t,u,d,m,tb,ys,_,Y,(hB.same s2).same s4,dm,hot,gL,hb,hC.imp λn n r=>bO.cm r,bl,bo,λr k9 cs L ps H5 s5 pin hr hk bf F=>hN _ _ #[r,Y,s2.trans (s4.trans s5),.inl #[k9,hr,cs,L,ps,pin,hk,bf,F]],λr k9 zs H5 s5 hr jd hR b5=>hN _ _ #[r,Y,s2.trans (s4.trans s5),.inr #[k9,zs,hr,jd,hR,b5]]]
 rintro n yR G H4 ⟨w,rfl,s4,cw⟩;subst yR;refine aD (λG H5=>G=[U (.ref x),U (.ref v),U (.ref a),U (.ref w),O]/\H5=H4/\∃ k,H4 w=U (.tup [.str "may",.ref k])/\gn u d t m tb (cQ tr) H4 k) (λN hN=>?_) ?_
 .rfl';rcases cw with ⟨k,hw,hf⟩|⟨k9,zs,hw,jd,hR,b5⟩
  .refine aQ hw ?_;rfl';rw[if_neg (by decide)];exact hN _ _ #[Y,Y,k,hw,hf]
  .refine aQ hw ?_;refine az (ak.of hw) Y #[aY,λr hr=>qy #[hh,b5] r k9 zs _ (s4.trans (ao hr)) au ((ao hr) _ _ jd) (hR.imp λn n h=>gN.same h (ao hr))]
 rintro n yR G H5 ⟨rfl,rfl,k2,hw,qe⟩;subst yR;refine aD (λG H6=>∃ b,G=[U (.ref x),U (.ref v),U (.ref a),U (.ref w),U (.ref b)]/\ai H5 H6/\((∃ k,H6 b=U (.tup [.str "may",.ref k])/\gn u d t m tb (dF tr) H6 k)∨(∃ k zs,H6 b=U (.tup [.str "never",.ref k])/\H6 k=U (.lst zs)/\ay (dn u d t m tb H6) zs (dF tr)))) (λN hN=>?_) ?_
 .rfl';refine Nt T (hv.same s4) hg _ λb ys H6 s6 n hb hC=>?_;refine#[x,p,b,e,t,u,d,m,tb,ys,_,Y,(hB.same s4).same s6,dm,hot,gL,hb,hC.imp λn n r=>bO.cm r,wl,wo,λr k9 cs L ps H7 s7 pin hr hk bf F=>hN _ _ #[r,Y,s6.trans s7,.inl #[k9,hr,cs,L,ps,pin,hk,bf,F]],λr k9 zs H7 s7 hr jd hR b5=>hN _ _ #[r,Y,s6.trans s7,.inr #[k9,zs,hr,jd,hR]]]
 rintro n yR G H6 ⟨b,rfl,s6,cb⟩;subst yR;have S6:=s4.trans s6;have un:=qe.un;rfl';rcases cb with ⟨k1,hb,jS⟩|⟨k9,zs,hb,jd,hR⟩
 .refine aQ hb ?_;rfl';rw[if_neg (by decide)];refine az (ak.of hb) Y (az (ak.of (s6 _ _ hw)) Y #[by decide,λr hr=>?_]);have ur:=ao (o:=.tup [.str "open",.ref k1,.ref k2]) hr;exact qp un r k1 k2 _ (S6.trans ur) au (jS.same ur) (qe.same (s6.trans ur))
 .refine aQ hb ?_;refine az (ak.of hb) Y #[aY,λr hr=>qo un hh r k9 zs _ (S6.trans (ao hr)) au ((ao hr) _ _ jd) (hR.imp λn n h=>gN.same h (ao hr))]
theorem aci(s:S2)(n:Int):(gF s).any (λo=>hold o.1 o.2 n) = !hold s.1 s.2 n:=by
 obtain⟨a,b⟩:=s;rcases a with y|a<;>rcases b with y|b
 .simp[gF,hold,bj]
 all_goals (rw[aeU];simp[gF,hold,bj];lia)
theorem vM(cs:List Int)(ps:List Pa):(bX ps).any (aM cs) = !aM cs ps:=by
 unfold bX;rw[akS]
 induction ps with
 | nil=>rfl
 | cons p ps ih =>
  rw[aeC,ih,akH];have e:((gF p.2.2).any (aM cs ∘ λo=>[((p.1,p.2.1,o):Pa)])) = !hold p.2.2.1 p.2.2.2 (mC cs p.1 p.2.1):=by
   rw[<- aci]
   congr 1
   funext o;simp[aM]
  rw[e];simp only[aM,afL,al8]
theorem acj(gX:i<=j):((jQ i j l h).any (aM cs))=true↔¬ ∃ a b,a<b/\b<(j+1-i).toNat/\bH cs i a<=l/\h<=bH cs i b:=by
 have one:∀ k:Nat,k<(j+1-i).toNat->(aM cs (bz i (i+(k:Nat)-1) (U (l+1),O)++bz (i+(k:Nat)+1) j (O,U (h-1)))=true↔(∀ a,a<k->l<bH cs i a)/\∀ b,k<b->b<(j+1-i).toNat->bH cs i b<h):=λk hk=>by
  have e:aM cs (bz i (i+(k:Nat)-1) (U (l+1),O)++bz (i+(k:Nat)+1) j (O,U (h-1)))=(aM cs (bz i (i+(k:Nat)-1) (U (l+1),O)) && aM cs (bz (i+(k:Nat)+1) j (O,U (h-1)))):=by unfold aM;rw[aln]
  rw[e,aew,Bx,Bx,aeM,aeM];refine and_congr #[λz a ha=>?_,λz a ha=>?_] #[λz b hb hn=>?_,λz b hb=>?_]
  .have:=(gY.mp (z a (ad0.mpr (by lia)))).1 _ rfl;lia
  .have ha:=ad0.mp ha;refine gY.mpr #[λx hx=>?_,λx hx=>(nomatch hx)];cases hx;have:=z a (by lia);lia
  .have:=(gY.mp (z (b-k-1) (ad0.mpr (by lia)))).2 _ rfl;unfold bH at *;rw[show i+(k:Int)+1+((b-k-1:Nat):Int)=i+(b:Int) by lia] at this;lia
  .have hb:=ad0.mp hb;refine gY.mpr #[λx hx=>(nomatch hx),λx hx=>?_];cases hx;have:=z (k+1+b) (by lia) (by lia);unfold bH at *;rw[show i+((k+1+b:Nat):Int)=i+(k:Int)+1+(b:Int) by lia] at this;lia
 unfold jQ;rw[akH,aez];constructor
 .rintro ⟨k,hk,hm⟩ ⟨a,b,fu,hb,h1,h2⟩;have hk:=ad0.mp hk;obtain⟨m1,m2⟩:=(one k hk).mp hm;by_cases ha:a<k
  .have:=m1 a ha;lia
  .have:=m2 b (by lia) hb;lia
 .intro b5;by_cases hex:∃ a,a<(j+1-i).toNat/\bH cs i a<=l
  .obtain⟨a,⟨ha,hl⟩,hmin⟩:∃ a,(a<(j+1-i).toNat/\bH cs i a<=l)/\∀ b,b<a->¬ (b<(j+1-i).toNat/\bH cs i b<=l):=by
    obtain⟨a,ha⟩:=hex
    induction a using Nat.strongRecOn with
    | _ a ih =>
     by_cases h9:∃ b,b<a/\(b<(j+1-i).toNat/\bH cs i b<=l)
     .obtain⟨b,hb,z⟩:=h9;exact ih b hb z
     .exact#[a,ha,λb hb z=>h9 #[b,hb,z]]
   refine#[a,ad0.mpr ha,(one a ha).mpr #[λb hb=>?_,λb hb hn=>?_]]
   .have:=hmin b hb;by_cases hz:bH cs i b<=l
    .exact absurd #[by lia,hz] this
    .lia
   .by_cases hz:h<=bH cs i b
    .exact absurd #[a,b,hb,hn,hl,hz] b5
    .lia
  .have hn:(j+1-i).toNat-1<(j+1-i).toNat:=by lia
   refine#[(j+1-i).toNat-1,ad0.mpr hn,(one _ hn).mpr #[λb hb=>?_,λb hb hn=>by lia]];by_cases hz:bH cs i b<=l
   .exact absurd #[b,by lia,hz] hex
   .lia
theorem qf(hg:bK tr)(cs:List Int):(bL tr).any (aM cs) = !(a7 tr).any (aM cs):=by
 have one:∀ ps:List Pa,([ps].any (aM cs))=aM cs ps:=λps=>ahH _;cases tr with
 | stay i j l h =>
  show ((bX (bz i j (l,h))).any (aM cs)) = !([bz i j (l,h)].any (aM cs));rw[one,vM]
 | over i j s =>
  show ([bz i j (O,U (s-1))].any (aM cs)) = !((bX (bz i j (O,U (s-1)))).any (aM cs));rw[one,vM,akI]
 | under i j s =>
  show ([bz i j (U (s+1),O)].any (aM cs)) = !((bX (bz i j (U (s+1),O))).any (aM cs));rw[one,vM,akI]
 | rose i j l h =>
  have e:=acj (cs:=cs) (l:=l) (h:=h) (hg.1:bY i j).2.1;have f:=JI (cs:=cs) (i:=i) (j:=j) (l:=l) (h:=h);show ((jQ i j l h).any (aM cs)) = !((gH i j l h).any (aM cs));rw[aeU,e,<- f];cases (gH i j l h).any (aM cs)<;>simp
 | pace i j l h =>
  show ((bX (hU i j (l,h))).any (aM cs)) = !([hU i j (l,h)].any (aM cs));rw[one,vM]
 | turn t =>
  show ((bX (je t)).any (aM cs)) = !([je t].any (aM cs));rw[one,vM]
theorem ack{u d t m:Int}{tb:Tb}{ps:List Pa}{L:List Int}{c:Nat->Int}(F:jJ (dM u d ps (t-1).toNat) (eW ps t.toNat) tb m L c){k:Nat}{s:S2}(hk:(k:Int)<t)(hm:(("at",(k:Int),s):Pa)∈ps):(∀ a,s.1=U a->a<=c k)/\∀ a,s.2=U a->c k<=a:=xJ.mp (F.2.2.1 k (gd (O,O) (sel _ "at" (k:Int))) (by unfold eW;rw[adR,aex (by lia)];rfl)) s (Nf (p:=("at",(k:Int),s)) hm)
theorem NA(oy:cc t ps)(F:jJ (dM u d ps (t-1).toNat) (eW ps t.toNat) tb m L (bV cs)):aM cs ps=true:=by
 unfold aM;refine aeM.mpr λp hp=>?_;obtain⟨kd,j,s⟩:=p;have ok:=oy _ hp;refine gY.mpr ?_;unfold mC;by_cases e:kd = "step"
 .subst e;obtain⟨j0,j1⟩:=xI.mp ok;rw[if_pos Y];obtain⟨n,rfl⟩:∃ n:Nat,j=n:=#[j.toNat,by lia]
  have:=xJ.mp (F.2.1 n (gd (O,O) ((U (-d),U u)::sel ps "step" (n:Int))) (by unfold dM;rw[adR,aex (by lia)];rfl)) s (.tail _ (Nf (p:=("step",(n:Int),s)) hp));exact this
 .obtain⟨rfl,j0,j1⟩:=(IG e).mp ok;rw[if_neg e];obtain⟨n,rfl⟩:∃ n:Nat,j=n:=#[j.toNat,by lia]
  exact ack F (k:=n) (s:=s) (by lia) hp
theorem acm(cs:List Int)(a b:List Pa):aM cs (a++b)=(aM cs a && aM cs b):=by unfold aM;rw[aln]
theorem acn(cs:List Int)(a:List Pa)(bs:List (List Pa)):(bs.map λb=>a++b).any (aM cs)=(aM cs a && bs.any (aM cs)):=by
 induction bs with
 | nil=>simp
 | cons b bs ih =>
  rw[adU,aeC,ih,aeC,acm];cases aM cs a<;>rfl
theorem D7(cs:List Int)(as bs:List (List Pa)):(fF as bs).any (aM cs)=(as.any (aM cs) && bs.any (aM cs)):=by
 unfold fF;rw[akS]
 induction as with
 | nil=>rfl
 | cons a as ih =>
  rw[aeC,aeC,ih,acn];cases aM cs a<;>cases as.any (aM cs)<;>cases bs.any (aM cs)<;>rfl
theorem aco(hg:fm tr)(cs:List Int):(cQ tr).any (aM cs) = !(dF tr).any (aM cs):=by
 cases tr with
 | leaf a=>exact qf hg cs
 | nay a =>
  show (a7 a).any (aM cs) = !(bL a).any (aM cs);rw[qf hg,akI]
 | both a b =>
  show (bL a++bL b).any (aM cs) = !(fF (a7 a) (a7 b)).any (aM cs);rw[ajy,D7,qf hg.1.1,qf hg.1.2,al8]
 | either a b =>
  show (fF (bL a) (bL b)).any (aM cs) = !(a7 a++a7 b).any (aM cs);rw[ajy,D7,qf hg.1.1,qf hg.1.2,Bool.not_or]
theorem acp(hg:fm tr)(hf:cD tr<t)(hp:ps∈dF tr)(F:jJ (dM u d ps (t-1).toNat) (eW ps t.toNat) tb m L (bV cs)):(dF tr).any (aM cs)=true:=aez.mpr #[ps,hp,NA ((zi hg hf).2.1 ps hp).2 F]
theorem acq(hg:fm tr)(hf:cD tr<t)(hp:ps∈cQ tr)(F:jJ (dM u d ps (t-1).toNat) (eW ps t.toNat) tb m L (bV cs)):(dF tr).any (aM cs)=false:=by have h:(cQ tr).any (aM cs)=true:=aez.mpr #[ps,hp,NA ((zi hg hf).1 ps hp).2 F];rw[aco hg] at h;simpa using h
def vN(H:Hp)(p:adK):Te->Prop
 | .leaf _=>False
 | .nay a=>∃ q,H p=U (.tup [.str "not",.ref q])/\H q=U (.tup (lM a))
 | .both a b=>∃ q1 q2,H p=U (.tup [.str "both",.ref q1,.ref q2])/\H q1=U (.tup (lM a))/\H q2=U (.tup (lM b))
 | .either a b=>∃ q1 q2,H p=U (.tup [.str "either",.ref q1,.ref q2])/\H q1=U (.tup (lM a))/\H q2=U (.tup (lM b))
inductive acr(vs:List V)(H:Hp)(Q:VK)(aO:XK):Prop
 | mk(p a:adK)(te:Te)(cs:List Int)(_:vs=[.ref p,.ref a])(_:vN H p te)(_:fm te)(_:aj K H a (cs.map V.int))(_:cs.length<=100)(_:cD te<(cs.length:Int))(_:∀ H',ai H H'->Q (.bl ((dF te).any (aM cs))) H')
theorem acs(T:aC):aV 3 T.Cb acr:=by
 refine bD pK ?_;rintro y y y y y y y y hr ⟨p,a,te,cs,rfl,hp,hg,hS,hn,hf,q⟩;refine#[_,(aq (aJ 2 pK.nd (ar (aa 0) ag)) (aq (aG (aW (aa 2) aS) (aw (aB (fP (aF (sH T) hr (ae (ar (aa 0) ag) (ae (aa 1) ah))) (fq (aF (sH T) hr (ae (ar (aa 0) ag) (ae (aa 1) ah))))))) aH) (aq (aG (aW (aa 2) aS) (aw (aB (BO (aF (sH T) hr (ae (ar (aa 0) ag) (ae (aa 1) ah))) (fq (aF (sH T) hr (ae (ar (aa 0) ag) (ae (aa 1) ah))))))) aH) (aq (aG (aW (aa 2) aS) (aw (aB (x3 (aF (sH T) hr (ae (ar (aa 0) ag) (ae (aa 1) ah)))))) aH) ET)))),?_];cases te with
 | leaf a'=>exact hp.elim
 | nay a' =>
  obtain⟨q1,hp,h1⟩:=hp;refine aQ hp ?_;refine az (ak.of hp) Y #[q1,a,a',cs,Y,h1,hg,hS,hn,hf,λH1 s1=>?_];have e:(dF (.nay a')).any (aM cs) = !(a7 a').any (aM cs):=qf hg cs;rw[e] at q;exact q _ s1
 | both a' b' =>
  obtain⟨q1,q2,hp,h1,h2⟩:=hp;obtain⟨f1,f2⟩:=max_lt hf;rfl';refine aQ hp ?_;refine az (ak.of hp) Y #[q1,a,a',cs,Y,h1,hg.1.1,hS,hn,f1,λH1 s1=>?_];have e:(dF (.both a' b')).any (aM cs)=((a7 a').any (aM cs) && (a7 b').any (aM cs)):=D7 _ _ _;rw[e] at q;cases hb:(a7 a').any (aM cs) with
  | false =>
   rw[hb] at q;exact q _ s1
  | true =>
   rw[hb] at q;exact az (ak.of (s1 _ _ hp)) Y #[q2,a,b',cs,Y,s1 _ _ h2,hg.1.2,s1.seq hS,hn,f2,λH2 s2=>q _ (s1.trans s2)]
 | either a' b' =>
  obtain⟨q1,q2,hp,h1,h2⟩:=hp;obtain⟨f1,f2⟩:=max_lt hf;rfl';refine aQ hp ?_;refine az (ak.of hp) Y #[q1,a,a',cs,Y,h1,hg.1.1,hS,hn,f1,λH1 s1=>?_];have e:(dF (.either a' b')).any (aM cs)=((a7 a').any (aM cs) || (a7 b').any (aM cs)):=ajy;rw[e] at q;cases hb:(a7 a').any (aM cs) with
  | true =>
   rw[hb] at q;exact q _ s1
  | false =>
   rw[hb] at q;exact az (ak.of (s1 _ _ hp)) Y #[q2,a,b',cs,Y,s1 _ _ h2,hg.1.2,s1.seq hS,hn,f2,λH2 s2=>q _ (s1.trans s2)]
inductive acu(T:aC)(vs:List V)(H:Hp)(Q:VK)(aO:XK):Prop
 | mk(p:adK)(te:Te)(_:vs=[.ref p])(_:vN H p te)(_:fm te)(_:∀ x H',ai H H'->gk T H' x te->Q (.ref x) H')
theorem acv(T:aC):aV 17 T.Cc (acu T):=by
 refine bD uU ?_;rintro y y y s H y y y hr ⟨p,te,rfl,hp,hg,q⟩;refine#[_,(aq (aJ 1 uU.nd (ar (aa 0) ag)) (aq (aG (aW (aa 1) aS) (aw (aB (jq T.X7 (Nn T) hr.m Y T.WX T.rR.b .nil bB (ae (aF (sF T) hr (ae (ar (aa 0) ag) ah)) (ae (aF (sF T) hr (ae (ar (aa 0) ag) ah)) ah))))) aH) (aq (aG (aW (aa 1) aS) (aw (aB (jq T.X9 (Nn T) hr.m Y T.WY T.rR.b .nil bB (ae (aF (sF T) hr (ae (ar (aa 0) ag) ah)) (ae (aF (sF T) hr (ae (ar (aa 0) ag) ah)) ah))))) aH) (aq (aG (aW (aa 1) aS) (aw (aB (jq T.Ya (aca T) hr.m Y T.WZ T.CH.b .nil bB (ae (aF (sF T) hr (ae (ar (aa 0) ag) ah)) ah)))) aH) ET)))),?_];cases te with
 | leaf a'=>exact hp.elim
 | nay a' =>
  obtain⟨q1,hp,h1⟩:=hp;refine aQ hp ?_;refine az (ak.of hp) Y #[q1,a',Y,h1,hg,λx1 H1 s1 e1=>?_];intro x dx hx fE b9;have M:=qZ (C:=T.gj) (fs:=[]) hx fE b9;have S2:=ir (o:=.ins T.gj dx [("one",.ref x1)]) hx M;exact#[x,dx,.ref x1,Y,au,Y,q x _ (s1.trans S2) #[dx,x1,au,e1.same S2]]
 | both a' b' =>
  obtain⟨q1,q2,hp,h1,h2⟩:=hp;obtain⟨⟨ga,gb⟩,sz⟩:=id hg;rfl';refine aQ hp ?_;refine az (ak.of hp) Y #[q1,a',Y,h1,ga,λx1 H1 s1 e1=>?_];refine az (ak.of (s1 _ _ hp)) Y #[q2,b',Y,s1 _ _ h2,gb,λx2 H2 s2 e2=>?_];intro x dx hx fE b9;have M:=qZ (C:=T.eE) (fs:=[]) hx fE b9;exact#[H2,x,T.eE,dx,x1,x2,a',b',Y,au,hx,M,.inl #[Y,sz],e1.same s2,e2,ga,gb,λH' s' bZ=>#[Y,q x H' (s1.trans (s2.trans s')) #[dx,x1,x2,bZ,e1.same (s2.trans s'),e2.same s']]]
 | either a' b' =>
  obtain⟨q1,q2,hp,h1,h2⟩:=hp;obtain⟨⟨ga,gb⟩,sz⟩:=id hg;rfl';refine aQ hp ?_;refine az (ak.of hp) Y #[q1,a',Y,h1,ga,λx1 H1 s1 e1=>?_];refine az (ak.of (s1 _ _ hp)) Y #[q2,b',Y,s1 _ _ h2,gb,λx2 H2 s2 e2=>?_];intro x dx hx fE b9;have M:=qZ (C:=T.eF) (fs:=[]) hx fE b9;exact#[H2,x,T.eF,dx,x1,x2,a',b',Y,au,hx,M,.inr #[Y,sz],e1.same s2,e2,ga,gb,λH' s' bZ=>#[Y,q x H' (s1.trans (s2.trans s')) #[dx,x1,x2,bZ,e1.same (s2.trans s'),e2.same s']]]
theorem NB{P:aek}{w:aeS}{K:adz}{mg:Str->Option adH}{base:afH}{CX:fV}{k:Nat}{f:adK}{fd:afV}{ps:List Str}{sp tF:Sp}(F:cF P w K mg base CX k f fd ps sp)(G9q:cF P w K mg base CX k f fd ps tF):cF P w K mg base CX k f fd ps λvs H Q E=>sp vs H Q E∨tF vs H Q E :=
 #[λvs H Q E h=>h.elim (F.len vs H Q E) (G9q.len vs H Q E),λA outer s H args us vs Q E hr he hb hv h=>h.elim (F.run A outer s H args us vs Q E hr he hb hv) (G9q.run A outer s H args us vs Q E hr he hb hv)]
def kJ(H:Hp)(p:adK):Te->Prop
 | .leaf a=>H p=U (.tup (lM a))
 | .nay a=>vN H p (.nay a)
 | .both a b=>vN H p (.both a b)
 | .either a b=>vN H p (.either a b)
theorem kJ.tp(h:kJ H p te)(s:∀ a xs,H a=U (.tup xs)->H' a=U (.tup xs)):kJ H' p te:=by
 cases te
 case leaf=>exact s _ _ h
 case nay=>obtain⟨q,a,b⟩:=h;exact#[q,s _ _ a,s _ _ b]
 all_goals (obtain⟨q1,q2,a,b,c⟩:=h;exact#[q1,q2,s _ _ a,s _ _ b,s _ _ c])
theorem kJ.same(h:kJ H p te)(s:ai H H'):kJ H' p te:=h.tp λa xs e=>s a _ e
inductive acw(vs:List V)(H:Hp)(Q:VK)(E:XK):Prop
 | mk(p a:adK)(te:Te)(cs:List Int)(_:vs=[.ref p,.ref a])(_:kJ H p te)(_:fm te)(_:aj K H a (cs.map V.int))(_:cs.length<=100)(_:cD te<(cs.length:Int))(_:∀ H',ai H H'->Q (.bl ((dF te).any (aM cs))) H')
theorem NC(T:aC):aV 3 T.Cb acw:=by
 refine (NB ((sH T).mono (by decide)) (acs T)).imp λvs H Q E h=>?_;obtain⟨p,a,te,cs,rfl,hp,hg,hS,hn,hf,q⟩:=h;cases te with
 | leaf a'=>exact .inl #[p,a,a',cs,Y,hp,hg,hS,hn,hf,q]
 | nay a'=>exact .inr #[p,a,.nay a',cs,Y,hp,hg,hS,hn,hf,q]
 | both a' b'=>exact .inr #[p,a,.both a' b',cs,Y,hp,hg,hS,hn,hf,q]
 | either a' b'=>exact .inr #[p,a,.either a' b',cs,Y,hp,hg,hS,hn,hf,q]
inductive acx(T:aC)(vs:List V)(H:Hp)(Q:VK)(E:XK):Prop
 | mk(p:adK)(te:Te)(_:vs=[.ref p])(_:kJ H p te)(_:fm te)(_:∀ x H',ai H H'->gk T H' x te->Q (.ref x) H')
theorem acy(T:aC):aV 17 T.Cc (acx T):=by
 refine (NB ((sF T).mono (by decide)) (acv T)).imp λvs H Q E h=>?_;obtain⟨p,te,rfl,hp,hg,q⟩:=h;cases te with
 | leaf a'=>exact .inl #[p,a',Y,hp,hg,q]
 | nay a'=>exact .inr #[p,.nay a',Y,hp,hg,q]
 | both a' b'=>exact .inr #[p,.both a' b',Y,hp,hg,q]
 | either a' b'=>exact .inr #[p,.either a' b',Y,hp,hg,q]
theorem ND:∀ {zs:List V} {bs:List Bool},ay (λv (b:Bool)=>v=V.bl b) zs bs->zs=bs.map V.bl
 | [],[],_=>rfl
 | _::_,_::_,h=>by rw[h.1,ND h.2];rfl
inductive acz(vs:List V)(H:Hp)(Q:VK)(aO:XK):Prop
 | mk(w b k:adK)(wv:V)(e t u d m:Int)(tb:Tb)(ys zs:List V)(cl:List (List Pa))(_:vs=[wv,.ref b,.ref k])(_:fD H wv w e t u d m tb)(_:(1<=t/\t<=12))(_:cj e t tb)(_:H b=U (.lst ys))(_:ay (mZ H) ys cl)(_:H k=U (.lst zs))(_:ay (dn u d t m tb H) zs cl)(_:cl.length<=200)(_:(∀ ps∈cl,ps.length<=900/\cc t ps))(_:∀ H',ai H H'->Q (.bl true) H')
theorem NF(T:aC):aV 35 T.XI acz:=by
 refine bD LJ ?_;rintro y y y s H y Q y hr ⟨w,b,k,wv,e,t,u,d,m,tb,ys,zs,cl,rfl,hW,ht,hot,D8,NG,vO,eJ,bl,bo,q⟩;refine#[_,(aq (aG (PW.pt (cL (cV (de (cG oO (by rfl) T.mU l4 (ae (aa 2) (ae (oA (v:=.ty "list") Y T.u5 tN Y) ah))))) (eL (nR (cY T.cS (ae (aa 2) ah)) (cY T.cS (ae (aa 1) ah)))))) (aw (aB fH)) aH) (aw (aB (cG (xb Y) (by rfl) T.yu wM (ae (As (g:=lW K 2 (dO (cH 0) (dO (cH 1) kP))) (mh.mk (own:=["_law_claim","_law_paper"]) (fr:=[0]) (ys:=["_law_world_here"]) Y (by decide +kernel) Y (by decide +kernel) Y (.cons rfl .nil) (.cons rfl Y Y Y .nil) Y) Y (Hc Y T.LS (ae (aa 1) (ae (aa 2) ah))) (λC s2 H2 ex pn=>lX (n:=2) Y (eY (jh (i:=0) (show (["_law_claim","_law_paper","_law_world_here"]:List Str).Nodup by decide) Y (.inl (aeb Y)) (.inr (aeb Y))) (eY (jh (i:=1) (show (["_law_claim","_law_paper","_law_world_here"]:List Str).Nodup by decide) Y (.inl (aeb Y)) (.inr (aeb Y))) lV))) (λC s2 H2 ex pn=>#[dH,(aF (M5 T) hr (ae (aa 2) (ae (aa 0) (ae (aa 1) ah))))])) ah))))),?_];have yl:=NG.len;have zl:=eJ.len;rfl';refine Gb vO ?_;refine#[_,fg (aj.of vO),_,fg (aj.of D8),?_];rw[if_neg (by rw[yl,zl];simp)];refine#[#[_,aj.of D8],#[_,aj.of vO],?_];refine RO (xs:=ys) (ys:=zs) (adG (by rw[ak8];lia:_<=200) (by decide)) (Bf (R':=λ_ v (b:Bool)=>v=V.bl b) (p:=λy=>true) (f:=λy=>true) (bs:=[]) (λy y y y y h=>h) trivial (λH' s'=>#[aj.of (s' _ _ D8),aj.of (s' _ _ vO)]) (λr dk H' s' Q h=>?_) (λr dk y H' s' Q h=>?_) λH' ws s' hw=>?_)
 .exact h
 .obtain⟨n,hn⟩:=aeE.mp dk;rw[List.getElem?_zip_eq_some] at hn;obtain⟨ps,hps,c,xs,e1,hc,hP⟩:=NG.get hn.1;obtain⟨ps',NH,hR⟩:=eJ.get hn.2;obtain rfl:ps=ps':=by rw[hps] at NH;exact Option.some.inj NH
  obtain⟨pl,oy⟩:=bo ps (ad3 hps);rfl';rw[e1];exact#[wv,r.2,w,c,e,t,u,d,m,tb,xs,ps,Y,hW.same s',ht.1,ht.2,hot,aj.of (s' _ _ hc),hP.same s',pl,gN.same hR s',λH4 s4=>h _ _ s4 Y]
 .intro l2 bb;rw[ad4] at hw;have ez:=ND hw;refine#[l2,Y,_,by rw[ez];exact aj.of au,?_];rw[show ((((ys.zip zs).filter λy=>true).map λy=>true).all id)=true by rw[agl];exact aeM.mpr λy y=>rfl];exact q _ (s'.trans (ao bb))
inductive acA(B:adK)(vs:List V)(H:Hp)(Q:VK)(aO:XK):Prop
 | mk(x p w:adK)(wv:V)(e t u d m:Int)(tb:Tb)(_:vs=[wv,.ref x])(_:b6 B H x e t u d m p tb)(_:fD H wv w e t u d m tb)(_:dE e t u d m)(_:cj e t tb)(_:tb.length<=60)(_:gO u d t m tb [])(_:∀ H',ai H H'->Q (.bl true) H')
theorem acB(T:aC):aV 21 T.XJ (acA T.aZ):=by
 refine kA B5 ?_;rintro y A y y y y y y hr ⟨x,p,w,wv,e,t,u,d,m,tb,rfl,hB,hW,dm,hot,gL,hh,q⟩;refine#[_,(aq (aJ 2 B5.nd (gJ (DC T) hr (ae (aa 1) (ae (cE ah) ah)))) (aq (aG (aW (ar (aa 2) ag) aS) (aw (aB (aF (DI T) hr (ae (aa 0) (ae (ar (aa 2) ag) ah))))) aH) (aw (aB fH)))),?_];obtain⟨⟨e1,e7⟩,⟨t1,t2⟩,u0,d0,m0,me⟩:=id dm;rfl';refine#[ad6 _,λb hb=>?_];have sb:=ao (o:=.lst []) hb;have oy:cc t []:=λp hp=>by cases hp
 refine#[x,p,b,e,t,u,d,m,[],[],tb,Y,hB.same sb,hot,gL,t1,t2,by lia,e7,m0,by lia,aj.of au,trivial,ad6 _,λz=>absurd oy z,λy a H2 s2 A=>?_];obtain⟨L0,c0,F0⟩:=id hh;obtain⟨rr,rfl,⟨z,hrr,hn⟩|⟨k9,cs,L,hrr,jd,y,hcs,F⟩⟩:=DQ (by rw[DP,ox];lia) (λr hr=>by rw[ox];have:=(hot.2 r hr).2;lia) A
 .exact absurd F0 (hn _ _)
 rw[ox] at hcs;have S2:=sb.trans s2;refine aQ hrr ?_;exact az (ak.of hrr) Y #[wv,w,k9,e,t,u,d,m,tb,cs,Y,hW.same S2,t1,t2,hot,gL,jd,hcs,Nc hcs F,Nd F,λH3 s3=>q _ (S2.trans s3)]
structure vP(u d t m:Int)(tb:Tb)(tr:Te)(H:Hp)(r:adK):Prop where
 h:(¬ ng u d t m tb (cQ tr)/\∃ z,H r=U (.tup [.str "none",z])/\dn u d t m tb H z [])∨(ng u d t m tb (cQ tr)/\∃ k zs,H r=U (.tup [.str "yes",.ref k])/\H k=U (.lst zs)/\ay (dn u d t m tb H) zs (cQ tr))∨(¬ ng u d t m tb (cQ tr)/\gO u d t m tb []/\∃ k zs,H r=U (.tup [.str "no",.ref k])/\H k=U (.lst zs)/\ay (dn u d t m tb H) zs (dF tr))∨(¬ ng u d t m tb (cQ tr)/\∃ k1 k2,H r=U (.tup [.str "open",.ref k1,.ref k2])/\gn u d t m tb (dF tr) H k1/\gn u d t m tb (cQ tr) H k2)
inductive acC(T:aC)(vs:List V)(H:Hp)(Q:VK)(aO:XK):Prop
 | mk(x p w v tp r:adK)(wv:V)(e t u d m:Int)(tr:Te)(tb:Tb)(_:vs=[wv,.ref x,.ref tp,.ref v,.ref r])(_:b6 T.aZ H x e t u d m p tb)(_:fD H wv w e t u d m tb)(_:dE e t u d m)(_:cj e t tb)(_:tb.length<=60)(_:kJ H tp tr)(_:gk T H v tr)(_:fm tr)(_:cD tr<t)(_:vP u d t m tb tr H r)(_:∀ H',ai H H'->Q (.bl true) H')
theorem NI:dw (a::r) 0=U a:=dQ (j:=0) rfl
theorem NJ(T:aC):aV 36 T.XM (acC T):=by
 refine kA LK ?_;rintro c c c c H c c c hr ⟨x,p,w,v,tp,r,wv,e,t,u,d,m,tr,tb,rfl,hB,hW,dm,hot,gL,nC,hv,hg,hf,hF,q⟩;refine#[_,(aq (aG (PW.pt (cL (cV (de (cG oO (by rfl) T.mU l4 (ae (aa 4) (ae (oA (v:=.ty "tuple") Y T.CQ Ac Y) ah))))) (eL (i4 (cY T.cS (ae (aa 4) ah)) ag)))) (aw (aB fH)) aH) (aq (aG (aW (ar (aa 4) ag) aS) (aw (aB (fP (fb oE (cY T.cS (ae (aa 4) ah)) ag (c6 _)) (fq (aF (M5 T) hr (ae (aa 0) (ae (cE ah) (ae (ar (aa 4) ag) ah)))))))) aH) (aq (aG (aW (ar (aa 4) ag) aS) (aq (aG (PW.pt (cL (nR (cY T.cS (ae (aa 4) ah)) ag) (cL (cV (de (aF (DI T) hr (ae (aa 0) (ae (ar (aa 4) ag) ah))))) (eL (cV (de (aF (DI T) hr (ae (aa 0) (ae (ar (aa 4) ag) ah))))))))) (aw (aB fH)) aH) (aw (aB (fP (aF (NC T) hr (ae (aa 2) (ae (ar (aa 4) ag) ah))) (fq (x3 (aF (NC T) hr (ae (aa 2) (ae (ar (aa 4) ag) ah))))))))) aH) (aq (aG (PW.pt (cL (nR (cY T.cS (ae (aa 4) ah)) ag) (eL (cV (de (gJ (acB T) hr (ae (aa 0) (ae (aa 1) ah)))))))) (aw (aB fH)) aH) (aq (aG (aW (ar (aa 4) ag) aS) (aw (aB (aF (NF T) hr (ae (aa 0) (ae (dC (Nu T hr) (aa 3)) (ae (ar (aa 4) ag) ah)))))) aH) (aw (aB (fP (fb oE (ar (aa 4) ag) aS (c6 _)) (fq (aF (NF T) hr (ae (aa 0) (ae (dC (Nr T hr) (aa 3)) (ae (ar (aa 4) ag) ah))))))))))))),?_];obtain⟨⟨e1,e7⟩,⟨t1,t2⟩,u0,d0,m0,me⟩:=id dm;obtain⟨bo,wo,bl,wl⟩:=zi hg hf;have FT:∀ (H1:Hp) (k:adK) (cl:List (List Pa)) (R:VK),ai H H1->gn u d t m tb cl H1 k->(∀ H2,ai H1 H2->R (.bl true) H2)->MW [wv,.ref k] H1 R E0:=λH1 k cl R s1 hf hr=>by obtain⟨cs,L,ps,pin,hk,hcs,F⟩:=hf;exact#[wv,w,k,e,t,u,d,m,tb,cs,Y,hW.same s1,t1,t2,hot,gL,hk,hcs,Nc hcs F,Nd F,hr]
 obtain⟨y,zs,hr,z1,cas⟩:∃ (y:Str) (zs:List V),H r=U (.tup (.str y::zs))/\1<=zs.length/\((y = "none" /\ ∃ z,zs=[z]/\dn u d t m tb H z [])∨(y = "open" /\ ∃ k1 k2,zs=[.ref k1,.ref k2]/\gn u d t m tb (dF tr) H k1/\gn u d t m tb (cQ tr) H k2)∨((y = "yes" ∨ y = "no")/\gO u d t m tb []/\∃ k ws,zs=[.ref k]/\H k=U (.lst ws)/\(y = "yes" -> ay (dn u d t m tb H) ws (cQ tr))/\(y = "no" -> ay (dn u d t m tb H) ws (dF tr)))):=by
  rcases hF.h with ⟨c,z,hr,hR⟩|⟨⟨hh,b5⟩,k,zs,hr,hk,hR⟩|⟨c,hh,k,zs,hr,hk,hR⟩|⟨c,k1,k2,hr,jS,qe⟩
  .exact#[_,_,hr,agn _ _,.inl #[Y,z,Y,hR]]
  .exact#[_,_,hr,agn _ _,.inr (.inr #[.inl rfl,hh,k,zs,Y,hk,λc=>hR,λz=>absurd z (by decide)])]
  .exact#[_,_,hr,agn _ _,.inr (.inr #[.inr rfl,hh,k,zs,Y,hk,λz=>absurd z (by decide),λc=>hR])]
  .exact#[_,_,hr,agn _ _,.inr (.inl #[Y,k1,k2,Y,jS,qe])]
 clear hF;refine aD (λG H1=>G=[U wv,U (.ref x),U (.ref tp),U (.ref v),U (.ref r)]/\H=H1) (λN hN=>?_) ?_
 .rfl';refine Ae hr ?_;refine#[_,.inr #[_,ak.of hr,Y],?_];rw[if_neg (by rw[aeg];lia)];exact hN _ _ #[Y,Y]
 rintro c yR G c ⟨rfl,rfl⟩;subst yR;refine aD (λG H1=>G=[U wv,U (.ref x),U (.ref tp),U (.ref v),U (.ref r)]/\H=H1/\((y = "open" /\ ∃ k1 k2,zs=[.ref k1,.ref k2]/\gn u d t m tb (dF tr) H k1/\gn u d t m tb (cQ tr) H k2)∨((y = "yes" ∨ y = "no")/\gO u d t m tb []/\∃ k ws,zs=[.ref k]/\H k=U (.lst ws)/\(y = "yes" -> ay (dn u d t m tb H) ws (cQ tr))/\(y = "no" -> ay (dn u d t m tb H) ws (dF tr))))) (λN hN=>?_) ?_
 .rfl';refine az (ak.of hr) NI ?_;rcases cas with ⟨rfl,z,rfl,hR⟩|cas
  .refine#[_,.inr #[_,ak.of hr,Y],?_];rw[if_pos (by simp)];refine#[ad6 _,λb hb=>?_];have u1:=ao (o:=.lst []) hb;refine az (ak.of (u1 _ _ hr)) Y #[wv,z,w,b,e,t,u,d,m,tb,[],[],Y,hW.same u1,t1,t2,hot,aj.of au,trivial,ad6 _,gN.same hR u1,λH2 s2=>q _ (u1.trans s2)]
  .have ne:y ≠ "none" := by rcases cas with ⟨rfl,c⟩|⟨rfl|rfl,c⟩<;>decide
   rfl';rw[if_neg ne];exact hN _ _ #[Y,Y,cas]
 clear cas;rintro c yR G c ⟨rfl,rfl,cas⟩;subst yR;refine aD (λG H1=>G=[U wv,U (.ref x),U (.ref tp),U (.ref v),U (.ref r)]/\H=H1/\(y = "yes" ∨ y = "no")/\gO u d t m tb []/\∃ k ws,zs=[.ref k]/\H k=U (.lst ws)/\(y = "yes" -> ay (dn u d t m tb H) ws (cQ tr))/\(y = "no" -> ay (dn u d t m tb H) ws (dF tr))) (λN hN=>?_) ?_
 .rfl';refine az (ak.of hr) NI ?_;rcases cas with ⟨rfl,k1,k2,rfl,jS,qe⟩|cas
  .refine#[_,.inr #[_,ak.of hr,Y],?_];rw[if_neg (by simp)];refine az (ak.of hr) Y (FT H k1 _ _ (ai.refl _) jS λH2 s2=>?_);refine az (ak.of (s2 _ _ hr)) Y (FT H2 k2 _ _ s2 (qe.same s2) λH3 s3=>?_);have S3:=s2.trans s3;obtain⟨cs1,L1,ps1,acD,kH,adw,F1⟩:=jS;obtain⟨Ea,L2,ps2,acE,jG,adx,F2⟩:=qe;refine az (ak.of (S3 _ _ hr)) Y #[tp,k1,tr,cs1,Y,nC.same S3,hg,aj.of (S3 _ _ kH),by lia,by lia,λH4 s4=>?_];have S4:=S3.trans s4;rw[acp hg hf acD F1];refine az (ak.of (S4 _ _ hr)) Y #[tp,k2,tr,Ea,Y,nC.same S4,hg,aj.of (S4 _ _ jG),by lia,by lia,λH5 s5=>?_];rw[acq hg hf acE F2];exact q _ (S4.trans s5)
  .have ne:y ≠ "open" := by rcases cas with ⟨rfl|rfl,c⟩<;>decide
   rfl';rw[if_neg ne];exact hN _ _ #[Y,Y,cas]
 clear cas;rintro c yR G c ⟨rfl,rfl,hy,hh,k,ws,rfl,hk,hR1,hR2⟩;subst yR;refine aD (λG H3=>G=[U wv,U (.ref x),U (.ref tp),U (.ref v),U (.ref r)]/\ai H H3) (λN hN=>?_) ?_
 .rfl';refine#[_,.inr #[_,ak.of hr,Y],?_];rw[if_neg (by simp)];refine#[x,p,w,wv,e,t,u,d,m,tb,Y,hB,hW,dm,hot,gL,hh,λH3 s3=>?_];exact hN _ _ #[Y,s3]
 rintro c yR G H3 ⟨rfl,s3⟩;subst yR;have iN:=s3 _ _ hr;have vO:=s3 _ _ hk;refine aD (λG H4=>G=[U wv,U (.ref x),U (.ref tp),U (.ref v),U (.ref r)]/\H3=H4/\y = "no") (λN hN=>?_) ?_
 .rfl';refine aQ iN ?_;rcases hy with rfl|rfl
  .refine Nv T (hv.same s3) hg _ λb4 Eb H4 s4 c Ec Ed=>?_;have S4:=s3.trans s4;refine az (ak.of (s4 _ _ iN)) Y #[w,b4,k,wv,e,t,u,d,m,tb,Eb,ws,_,Y,hW.same S4,#[t1,t2],hot,Ec,Ed.imp λc c r=>bO.cm r,S4 _ _ hk,(hR1 Y).imp λc c r=>gN.same r S4,bl,bo,λH5 s5=>q _ (S4.trans s5)]
  .rfl';rw[if_neg (by decide)];exact hN _ _ #[Y,Y,Y]
 rintro c yR G c ⟨rfl,rfl,rfl⟩;subst yR;rfl';refine aQ iN ?_;refine#[Y,Nt T (hv.same s3) hg _ λb4 Eb H4 s4 c Ec Ed=>?_];have S4:=s3.trans s4;refine az (ak.of (s4 _ _ iN)) Y #[w,b4,k,wv,e,t,u,d,m,tb,Eb,ws,_,Y,hW.same S4,#[t1,t2],hot,Ec,Ed.imp λc c r=>bO.cm r,S4 _ _ hk,(hR2 Y).imp λc c r=>gN.same r S4,wl,wo,λH5 s5=>q _ (S4.trans s5)]
def vQ:Tr->Prop
 | .over i j _=>j-i<=2
 | .under i j _=>j-i<=2
 | .rose i j _ _=>j-i<=4
 | .turn _=>True
 | .stay i j _ _=>j-i<=2
 | .pace i j _ _=>j-i<=2
inductive acF(vs:List V)(H:Hp)(Q:VK)(aO:XK):Prop
 | mk(a c:adK)(ns cs:List Int)(k t f:Int)(_:vs=[.ref a,.int k,.int t,.ref c,.int f])(_:aj K H a (ns.map V.int))(_:iV ns)(_:(0<=k/\k<=1000))(_:H c=U (.lst (cs.map V.int)))(_:cs.length=t.toNat)(_:(1<=t/\t<=12))(_:(1<=f/\f<=1000000000000000000000000000000))(_:∀ r tr H',ai H H'->H' r=U (.tup (lM tr))->bK tr->dN tr<t->(t<12->vQ tr)->Q (.ref r) H')
theorem Ee(T:aC):aV 2 T.XN acF:=by
 refine bD ie ?_;rintro v v v v H v v v hr ⟨a,c,ns,cs,k,t,f,rfl,hS,hn,⟨k0,k1⟩,hc,bf,⟨t1,zj⟩,⟨u1,u2⟩,q⟩;refine#[_,(aq (aJ 5 ie.nd (aF (cB T) hr (ae (aa 0) (ae (aa 1) (ae ag (ae (aa 2) ah)))))) (aq (aJ 6 ie.nd (aE a8 (aa 5) (aF (cB T) hr (ae (aa 0) (ae (aE a8 (aa 1) ag) (ae ag (ae (aE cf (aa 2) (aa 5)) ah))))))) (aq (aG (i4 (aa 2) ag) (aw (aJ 6 ie.nd (cG (wt Y) (by rfl) T.n9 nz (ae (aa 6) (ae (aE a8 (aa 5) ag) ah))))) aH) (aq (aJ 7 ie.nd (aE cf (aE a8 (aE a8 (ar (aa 3) (aa 5)) (aE jH (aa 4) (aE cf (aF (cB T) hr (ae (aa 0) (ae (aE a8 (aa 1) ag) (ae ag (ae ag ah))))) ag))) (aF (cB T) hr (ae (aa 0) (ae (aE a8 (aa 1) ag) (ae ag (ae ag ah)))))) ag)) (aq (aJ 8 ie.nd (aE jH (aa 4) (aF (cB T) hr (ae (aa 0) (ae (aE a8 (aa 1) ag) (ae ag (ae ag ah))))))) (aq (aJ 9 ie.nd (aF (cB T) hr (ae (aa 0) (ae (aE a8 (aa 1) ag) (ae ag (ae ag ah)))))) (aq (aG (aW (aa 9) ag) (aw (aB (aP (ae aS (ae (aa 5) (ae (aa 6) (ae (aa 7) ah))))))) aH) (aq (aG (aW (aa 9) ag) (aw (aB (aP (ae aS (ae (aa 5) (ae (aa 6) (ae (aa 7) ah))))))) aH) (aq (aG (PW.pt (jg (i4 (aa 9) ag) (jX (i4 (aa 5) (aE cf (aa 2) ag))))) (aw (aB (aP (ae aS (ae (aa 5) (ae (cG (wt Y) (by rfl) T.n9 nz (ae (aE a8 (aa 5) ag) (ae (cG (E9 Y) (by rfl) T.rT qE (ae (aa 6) (ae (aE a8 (aa 5) ag) ah))) ah))) (ae (aa 7) (ae (aE a8 (aE a8 (aa 7) ag) (aa 8)) ah)))))))) aH) (aq (aG (PW.pt (jg (aW (aa 9) ag) (jX (rK (aa 2) ag)))) (aw (aB (aP (ae aS (ae (aE a8 ag (aE pw (aa 5) (aE cf (aa 2) ag))) ah))))) aH) (aq (aJ 10 ie.nd (aE cf (aa 7) (aa 8))) (aq (aJ 11 ie.nd (aE a8 (aa 7) (aa 8))) (aq (aG (aW (aa 9) ag) (aq (aJ 10 ie.nd (aE cf (aE cf (aa 7) (ar (aa 3) (aa 5))) (aa 4))) (aw (aJ 11 ie.nd (aE a8 (aa 10) (aa 8))))) aH) (aq (aJ 12 ie.nd (aF (cB T) hr (ae (aa 0) (ae (aE a8 (aa 1) ag) (ae ag (ae ag ah)))))) (aq (aG (PW.pt (cL (aW (aa 12) ag) (eL (aW (aa 12) ag)))) (aw (aJ 10 ie.nd bI)) aH) (aq (aG (PW.pt (cL (aW (aa 12) ag) (eL (aW (aa 12) ag)))) (aw (aJ 11 ie.nd bI)) aH) (aq (aG (aW (aa 9) ag) (aw (aB (aP (ae aS (ae (aa 5) (ae (aa 6) (ae (aa 10) (ae (aa 11) ah)))))))) aH) (aw (aB (aP (ae aS (ae (aa 5) (ae (aa 6) (ae (aa 10) (ae (aa 11) ah))))))))))))))))))))))))),?_];refine aD (λG H2=>∃ fi:Int,G=[U (.ref a),U (.int k),U (.int t),U (.ref c),U (.int f),U (.int fi),O,O,O,O,O,O,O]/\H=H2/\0<=fi/\fi<t) (λN hN=>?_) ?_
 .refine#[a,ns,_,_,_,Y,hS,hn,by lia,by lia,by lia,λp p1 p2=>?_];exact hN _ _ #[_,Y,Y,p1,p2]
 rintro v yR G v ⟨fi,rfl,rfl,f0,f1⟩;subst yR;refine aD (λG H2=>∃ la:Int,G=[U (.ref a),U (.int k),U (.int t),U (.ref c),U (.int f),U (.int fi),U (.int la),O,O,O,O,O,O]/\H=H2/\fi<=la/\la<t) (λN hN=>?_) ?_
 .rfl';refine#[a,ns,_,_,_,Y,hS,hn,by lia,by lia,by lia,λp p1 p2=>?_];exact hN _ _ #[_,Y,Y,by lia,by lia]
 rintro v yR G v ⟨la,rfl,rfl,l0,l1⟩;subst yR;refine aD (λG H2=>∃ lb:Int,G=[U (.ref a),U (.int k),U (.int t),U (.ref c),U (.int f),U (.int fi),U (.int lb),O,O,O,O,O,O]/\H=H2/\fi<=lb/\lb<t/\(t<12->lb<=fi+2)) (λN hN=>?_) ?_
 .refine aU (λz=>?_) λz=>hN _ _ #[la,Y,Y,l0,l1,λy=>absurd y z];rfl';exact hN _ _ #[_,Y,Y,by split<;>lia,by split<;>lia,λv=>by split<;>lia]
 rintro v yR G v ⟨lb,rfl,rfl,b0,b1,b2⟩;subst yR;refine aD (λG H2=>∃ lo:Int,G=[U (.ref a),U (.int k),U (.int t),U (.ref c),U (.int f),U (.int fi),U (.int lb),U (.int lo),O,O,O,O,O]/\H=H2) (λN hN=>?_) ?_
 .rfl';refine bR (aj.of hc) (int_at (by lia) (by lia)) ?_;refine#[a,ns,_,_,_,Y,hS,hn,by lia,by lia,by lia,λp p1 p2=>?_];refine#[k7 (by lia) (by lia),?_];refine#[a,ns,_,_,_,Y,hS,hn,by lia,by lia,by lia,λr r1 r2=>?_];exact hN _ _ #[_,Y,Y]
 rintro v yR G v ⟨lo,rfl,rfl⟩;subst yR;refine aD (λG H2=>∃ mo:Int,G=[U (.ref a),U (.int k),U (.int t),U (.ref c),U (.int f),U (.int fi),U (.int lb),U (.int lo),U (.int mo),O,O,O,O]/\H=H2/\0<=mo) (λN hN=>?_) ?_
 .refine#[a,ns,_,_,_,Y,hS,hn,by lia,by lia,by lia,λp p1 p2=>?_];exact#[k7 (by lia) (by lia),hN _ _ #[_,Y,Y,agB (by lia) (by lia)]]
 rintro v yR G v ⟨mo,rfl,rfl,m0⟩;subst yR;refine aD (λG H2=>∃ so:Int,G=[U (.ref a),U (.int k),U (.int t),U (.ref c),U (.int f),U (.int fi),U (.int lb),U (.int lo),U (.int mo),U (.int so),O,O,O]/\H=H2) (λN hN=>?_) ?_
 .refine#[a,ns,_,_,_,Y,hS,hn,by lia,by lia,by lia,λp p1 p2=>?_];exact hN _ _ #[_,Y,Y]
 rintro v yR G v ⟨so,rfl,rfl⟩;subst yR;refine aD (λG H2=>G=[U (.ref a),U (.int k),U (.int t),U (.ref c),U (.int f),U (.int fi),U (.int lb),U (.int lo),U (.int mo),U (.int so),O,O,O]/\H=H2) (λN hN=>?_) ?_
 .rfl';exact aU (λv=>#[by decide,λr hr=>q r (.over fi lb _) _ (ao hr) au #[f0,b0,by lia] (by show lb<t;lia) (λz=>by have:=b2 z;show lb-fi<=2;lia)]) λv=>hN _ _ #[Y,Y]
 rintro v yR G v ⟨rfl,rfl⟩;subst yR;refine aD (λG H2=>G=[U (.ref a),U (.int k),U (.int t),U (.ref c),U (.int f),U (.int fi),U (.int lb),U (.int lo),U (.int mo),U (.int so),O,O,O]/\H=H2) (λN hN=>?_) ?_
 .rfl';exact aU (λv=>#[by decide,λr hr=>q r (.under fi lb _) _ (ao hr) au #[f0,b0,by lia] (by show lb<t;lia) (λz=>by have:=b2 z;show lb-fi<=2;lia)]) λv=>hN _ _ #[Y,Y]
 rintro v yR G v ⟨rfl,rfl⟩;subst yR;refine aD (λG H2=>G=[U (.ref a),U (.int k),U (.int t),U (.ref c),U (.int f),U (.int fi),U (.int lb),U (.int lo),U (.int mo),U (.int so),O,O,O]/\H=H2) (λN hN=>?_) ?_
 .rfl';refine aU (λv=>?_) λv=>hN _ _ #[Y,Y];refine aU (λz=>?_) λv=>hN _ _ #[Y,Y];generalize ee:(if (if fi+1 > lb then fi+1 else lb)<fi+4 then (if fi+1 > lb then fi+1 else lb) else fi+4)=e;have eb:fi<=e/\e<t/\e<=11/\e-fi<=4:=by rw[<- ee];(repeat' split)<;>lia
  exact#[by decide,λr hr=>q r (.rose fi e _ _) _ (ao hr) au #[#[f0,eb.1,eb.2.2.1],by lia] eb.2.1 λv=>eb.2.2.2]
 rintro v yR G v ⟨rfl,rfl⟩;subst yR;refine aD (λG H2=>G=[U (.ref a),U (.int k),U (.int t),U (.ref c),U (.int f),U (.int fi),U (.int lb),U (.int lo),U (.int mo),U (.int so),O,O,O]/\H=H2) (λN hN=>?_) ?_
 .rfl';refine aU (λv=>?_) λv=>hN _ _ #[Y,Y];refine aU (λz=>?_) λv=>hN _ _ #[Y,Y];have e0:=ajq fi (show t-2≠0 by lia);have e1:=aic fi (show 0<t-2 by lia);exact#[by lia,by decide,λr hr=>q r (.turn _) _ (ao hr) au #[by lia,by lia] (by show 1+fi % (t-2)+1<t;lia) λv=>trivial]
 rintro v yR G v ⟨rfl,rfl⟩;subst yR;refine aD (λG H2=>∃ xl:Int,G=[U (.ref a),U (.int k),U (.int t),U (.ref c),U (.int f),U (.int fi),U (.int lb),U (.int lo),U (.int mo),U (.int so),U (.int xl),O,O]/\H=H2/\xl=lo-mo) (λN hN=>?_) ?_
 .exact hN _ _ #[_,Y,Y,Y]
 rintro v yR G v ⟨xl,rfl,rfl,el⟩;subst yR;refine aD (λG H2=>∃ xh:Int,G=[U (.ref a),U (.int k),U (.int t),U (.ref c),U (.int f),U (.int fi),U (.int lb),U (.int lo),U (.int mo),U (.int so),U (.int xl),U (.int xh),O]/\H=H2/\xl<=xh) (λN hN=>?_) ?_
 .exact hN _ _ #[_,Y,Y,by lia]
 rintro v yR G v ⟨xh,rfl,rfl,lh⟩;subst yR;clear el;refine aD (λG H2=>∃ xl xh:Int,G=[U (.ref a),U (.int k),U (.int t),U (.ref c),U (.int f),U (.int fi),U (.int lb),U (.int lo),U (.int mo),U (.int so),U (.int xl),U (.int xh),O]/\H=H2/\xl<=xh) (λN hN=>?_) ?_
 .rfl';refine aU (λv=>?_) λv=>hN _ _ #[xl,xh,Y,Y,lh];refine bR (aj.of hc) (int_at (by lia) (by lia)) ?_;exact hN _ _ #[_,_,Y,Y,by lia]
 clear lh;rintro v yR G v ⟨xl,xh,rfl,rfl,lh⟩;subst yR;refine aD (λG H2=>∃ oe:Int,G=[U (.ref a),U (.int k),U (.int t),U (.ref c),U (.int f),U (.int fi),U (.int lb),U (.int lo),U (.int mo),U (.int so),U (.int xl),U (.int xh),U (.int oe)]/\H=H2) (λN hN=>?_) ?_
 .refine#[a,ns,_,_,_,Y,hS,hn,by lia,by lia,by lia,λp p1 p2=>?_];exact hN _ _ #[_,Y,Y]
 rintro v yR G v ⟨oe,rfl,rfl⟩;subst yR;refine aD (λG H2=>∃ x:En,G=[U (.ref a),U (.int k),U (.int t),U (.ref c),U (.int f),U (.int fi),U (.int lb),U (.int lo),U (.int mo),U (.int so),U (ev x),U (.int xh),U (.int oe)]/\H=H2) (λN hN=>?_) ?_
 .rfl';exact aU (λv=>hN _ _ #[O,Y,Y]) λv=>aU (λv=>hN _ _ #[O,Y,Y]) λv=>hN _ _ #[U xl,Y,Y]
 rintro v yR G v ⟨x,rfl,rfl⟩;subst yR;refine aD (λG H2=>∃ y:En,G=[U (.ref a),U (.int k),U (.int t),U (.ref c),U (.int f),U (.int fi),U (.int lb),U (.int lo),U (.int mo),U (.int so),U (ev x),U (ev y),U (.int oe)]/\H=H2) (λN hN=>?_) ?_
 .rfl';exact aU (λv=>hN _ _ #[O,Y,Y]) λv=>aU (λv=>hN _ _ #[O,Y,Y]) λv=>hN _ _ #[U xh,Y,Y]
 rintro v yR G v ⟨y,rfl,rfl⟩;subst yR;rfl';exact aU (λv=>#[by decide,λr hr=>q r (.pace fi lb x y) _ (ao hr) au #[f0,b0,by lia] (by show lb<t;lia) (λz=>by have:=b2 z;show lb-fi<=2;lia)]) λv=>#[by decide,λr hr=>q r (.stay fi lb x y) _ (ao hr) au #[f0,b0,by lia] (by show lb<t;lia) (λz=>by have:=b2 z;show lb-fi<=2;lia)]
theorem acG(h0:0<=i)(gX:i<=j)(hj:j<=11):((gH i j l h).length:Int)=(j-i+1) * (j-i+1-1) / 2:=by
 have e:(gH i j l h).length=((adM (j-i).toNat).map λk=>(j-i).toNat-k).sum:=by
  unfold gH;rw[ah5]
  congr 1
  refine afh λk hk=>?_;rw[adA,gG];lia
 rw[e];obtain⟨m,hm⟩:∃ m:Nat,j-i=(m:Int):=#[(j-i).toNat,by lia]
 have ky:m<12:=by lia
 rw[hm,aep];have key:∀ m:Nat,m<12->((((adM m).map λk=>m-k).sum:Nat):Int)=((m:Int)+1) * ((m:Int)+1-1) / 2:=by decide
 exact key m ky
theorem acH:(jQ i j l h).length=(j+1-i).toNat:=by unfold jQ;rw[adA,adO]
theorem NK(hg:bK tr)(h:vQ tr):(a7 tr).length<=10/\(bL tr).length<=6:=by
 cases tr with
 | over i j s =>
  obtain⟨k0,k1,k2⟩:=hg;replace h:j-i<=2:=h;have:=o9 (bz i j (O,U (s-1)));rw[gG] at this;exact#[by show (bX _).length<=10;lia,(show 1<=6 by decide)]
 | under i j s =>
  obtain⟨k0,k1,k2⟩:=hg;replace h:j-i<=2:=h;have:=o9 (bz i j (U (s+1),O));rw[gG] at this;exact#[by show (bX _).length<=10;lia,(show 1<=6 by decide)]
 | rose i j l h' =>
  obtain⟨⟨k0,k1,k2⟩,y⟩:=hg;replace h:j-i<=4:=h;have e:=acG (l:=l) (h:=h') k0 k1 k2;have e2:=acH (i:=i) (j:=j) (l:=l) (h:=h');obtain⟨n,hn⟩:∃ n:Nat,j-i=(n:Int):=#[(j-i).toNat,by lia]
  rw[hn] at e;refine#[?_,by show (jQ i j l h').length<=6;lia];show (gH i j l h').length<=10;have n4:n<=4:=by lia
  have key:∀ n:Nat,n<=4->((n:Int)+1) * ((n:Int)+1-1) / 2<=10:=by intro n hn;rcases (by lia:n=0∨n=1∨n=2∨n=3∨n=4) with rfl|rfl|rfl|rfl|rfl<;>decide
  have:=key n n4;lia
 | turn k =>
  have:=o9 (je k);exact#[(show 1<=10 by decide),by show (bX (je k)).length<=6;exact adG this (by show 2 * 2<=6;decide)]
 | stay i j l h' =>
  obtain⟨k0,k1,k2⟩:=hg;replace h:j-i<=2:=h;have:=o9 (bz i j (l,h'));rw[gG] at this;exact#[(show 1<=10 by decide),by show (bX _).length<=6;lia]
 | pace i j l h' =>
  obtain⟨k0,k1,k2⟩:=hg;replace h:j-i<=2:=h;have:=o9 (hU i j (l,h'));rw[DO] at this;exact#[(show 1<=10 by decide),by show (bX _).length<=6;lia]
theorem NL(ga:bK a)(gb:bK b)(ha:vQ a)(hb:vQ b):D4 a b/\D5 a b:=by obtain⟨a1,a2⟩:=NK ga ha;obtain⟨b1,b2⟩:=NK gb hb;have m1:=ajO a1 b1;have m2:=ajO a2 b2;exact#[#[m1,by lia],by lia,by lia]
theorem NM(ha:a<t)(hb:b<t):ik a b<t:=by unfold ik;split<;>lia
inductive acI(vs:List V)(H:Hp)(Q:VK)(aO:XK):Prop
 | mk(a sh c:adK)(ns cs:List Int)(e t u d m f:Int)(_:vs=[.ref a,.ref sh,.ref c])(_:aj K H a (ns.map V.int))(_:iV ns)(_:H sh=U (.tup (vo e t u d m f)))(_:rW e t u d m f)(_:H c=U (.lst (cs.map V.int)))(_:cs.length=t.toNat)(_:∀ r te H',ai H H'->kJ H' r te->fm te->cD te<t->Q (.ref r) H')
theorem acJ(T:aC):aV 3 T.XO acI:=by
 refine bD yh ?_;rintro y y y y H y y y hr ⟨a,sh,c,ns,cs,e,t,u,d,m,f,rfl,hS,hn,j6,hq,hc,bf,q⟩;refine#[_,(aq (aJ 3 yh.nd (aF (Ee T) hr (ae (aa 0) (ae ag (ae (ar (aa 1) ag) (ae (aa 2) (ae (ar (aa 1) ag) ah))))))) (aq (aJ 4 yh.nd (aF (cB T) hr (ae (aa 0) (ae ag (ae ag (ae ag ah)))))) (aq (aG (aW (aa 4) ag) (aw (aB (aP (ae aS (ae (aa 3) ah))))) aH) (aq (aG (PW.pt (cL (i4 (aa 4) ag) (eL (aW (ar (aa 1) ag) ag)))) (aw (aB (aa 3))) aH) (aq (aG (aW (aa 4) ag) (aw (aB (aP (ae aS (ae (aa 3) (ae (aF (Ee T) hr (ae (aa 0) (ae ag (ae (ar (aa 1) ag) (ae (aa 2) (ae (ar (aa 1) ag) ah)))))) ah)))))) aH) (aw (aB (aP (ae aS (ae (aa 3) (ae (aF (Ee T) hr (ae (aa 0) (ae ag (ae (ar (aa 1) ag) (ae (aa 2) (ae (ar (aa 1) ag) ah)))))) ah))))))))))),?_];refine aD (λG H1=>∃ p1 tr,G=[U (.ref a),U (.ref sh),U (.ref c),U (.ref p1),O]/\ai H H1/\H1 p1=U (.tup (lM tr))/\bK tr/\dN tr<t/\(t<12->vQ tr)) (λN hN=>?_) ?_
 .refine az (ak.of j6) (v:=.int t) Y (az (ak.of j6) (v:=.int f) Y #[a,c,ns,cs,_,t,f,Y,hS,hn,by decide,hc,bf,hq.ht,hq.hf,λr tr H1 s1 hr hg hf hs=>hN _ _ #[r,tr,Y,s1,hr,hg,hf,hs]])
 rintro y yR G H1 ⟨p1,tr,rfl,s1,cK,hJ,jS,lx⟩;subst yR;replace hS:=s1.seq hS;replace j6:=s1 _ _ j6;replace hc:=s1 _ _ hc;refine aD (λG H2=>∃ so:Int,G=[U (.ref a),U (.ref sh),U (.ref c),U (.ref p1),U (.int so)]/\H1=H2) (λN hN=>?_) ?_
 .refine#[a,ns,_,_,_,Y,hS,hn,by lia,by lia,by lia,λp p1 p2=>?_];exact hN _ _ #[_,Y,Y]
 rintro y yR G y ⟨so,rfl,rfl⟩;subst yR;refine aD (λG H2=>G=[U (.ref a),U (.ref sh),U (.ref c),U (.ref p1),U (.int so)]/\H1=H2) (λN hN=>?_) ?_
 .rfl';exact aU (λy=>#[aY,λr hr=>q r (.nay tr) _ (s1.trans (ao hr)) #[p1,au,(ao hr) _ _ cK] hJ jS]) λy=>hN _ _ #[Y,Y]
 rintro y yR G y ⟨rfl,rfl⟩;subst yR;refine aD (λG H2=>G=[U (.ref a),U (.ref sh),U (.ref c),U (.ref p1),U (.int so)]/\H1=H2/\t<12) (λN hN=>?_) ?_
 .rfl';refine aU (λy=>q p1 (.leaf tr) _ s1 cK hJ jS) λy=>?_;refine az (ak.of j6) (v:=.int t) Y ?_;rfl';have:=hq.ht;exact aU (λy=>q p1 (.leaf tr) _ s1 cK hJ jS) λy=>hN _ _ #[Y,Y,by lia]
 rintro y yR G y ⟨rfl,rfl,zj⟩;subst yR;replace lx:=lx zj;refine aD (λG H2=>G=[U (.ref a),U (.ref sh),U (.ref c),U (.ref p1),U (.int so)]/\H1=H2) (λN hN=>?_) ?_
 .rfl';refine aU (λy=>?_) λy=>hN _ _ #[Y,Y];refine az (ak.of j6) (v:=.int t) Y (az (ak.of j6) (v:=.int f) Y #[a,c,ns,cs,_,t,f,Y,hS,hn,by decide,hc,bf,hq.ht,hq.hf,λp2 Ef H2 s2 hr hg hf hs=>#[by decide,λr ij=>?_]]);exact q r (.both tr Ef) _ (s1.trans (s2.trans (ao ij))) #[p1,p2,au,(s2.trans (ao ij)) _ _ cK,(ao ij) _ _ hr] #[#[hJ,hg],(NL hJ hg lx (hs zj)).1] (NM jS hf)
 rintro y yR G y ⟨rfl,rfl⟩;subst yR;rfl';refine az (ak.of j6) (v:=.int t) Y (az (ak.of j6) (v:=.int f) Y #[a,c,ns,cs,_,t,f,Y,hS,hn,by decide,hc,bf,hq.ht,hq.hf,λp2 Ef H2 s2 hr hg hf hs=>#[by decide,λr ij=>?_]]);exact q r (.either tr Ef) _ (s1.trans (s2.trans (ao ij))) #[p1,p2,au,(s2.trans (ao ij)) _ _ cK,(ao ij) _ _ hr] #[#[hJ,hg],(NL hJ hg lx (hs zj)).2] (NM jS hf)
theorem b6.told{B:adK}{H H':Hp}{y p:adK}{e t u d m:Int}{tb:Tb}{kvs:List (List Key × V)}{s:P2}{w:S2}{v:V}(ob:∃ dx,H y=U (.ins B dx (pW e t u d m p)))(hp:H p=U (.dT kvs))(hA:bp H kvs tb)(sb:SameBut p H H')(dI:H' p=U (.dT (putK kvs (bP s.1 s.2) v)))(iv:aR H' v w.1 w.2):b6 B H' y e t u d m p (g9 tb s w) :=
 let ⟨dx,hx⟩:=ob
 #[#[dx,sb y _ (λz=>by rw[z,hp] at hx;cases hx) hx],_,dI,bp.put (hA.imp λv a b z=>z.fr (SameBut.fr sb hp)) iv]
theorem b6.acK{B:adK}{H H':Hp}{y p:adK}{e t u d m:Int}{tb:Tb}{kvs:List (List Key × V)}{s:P2}(ob:∃ dx,H y=U (.ins B dx (pW e t u d m p)))(hp:H p=U (.dT kvs))(hA:bp H kvs tb)(sb:SameBut p H H')(dI:H' p=U (.dT (kj kvs (bP s.1 s.2)))):b6 B H' y e t u d m p (rg tb s) :=
 let ⟨dx,hx⟩:=ob
 #[#[dx,sb y _ (λz=>by rw[z,hp] at hx;cases hx) hx],_,dI,bp.drop (hA.imp λv a b z=>z.fr (SameBut.fr sb hp))]
theorem acL(hu:∀ G9q,ai H G9q->u D G G9q)(h:∀ C:TS,(∀ G9q,ai H G9q->C D G G9q)->kO tc t C D G H):kO tc t u D G H:=h u hu
inductive acM(B:adK)(vs:List V)(H:Hp)(Q:VK)(aO:XK):Prop
 | mk(a x p w c:adK)(wv:V)(ns cs:List Int)(e t u d m f:Int)(tb:Tb)(_:vs=[.ref a,wv,.ref x,.ref c,.int f])(_:aj K H a (ns.map V.int))(_:iV ns)(_:b6 B H x e t u d m p tb)(_:fD H wv w e t u d m tb)(_:dE e t u d m)(_:cj e t tb)(_:tb.length<=24)(_:(∀ r∈tb,bj r.2.1 r.2.2=false))(_:H c=U (.lst (cs.map V.int)))(_:cs.length=t.toNat)(_:(1<=f/\f<=1000000000000000000000000000000))(_:∀ (r x' p' w' lN:adK) (m':Int) (bS:Tb) (H':Hp),mz [p] H H'->H' r=U (.tup [.ref lN,.ref x'])->fD H' (.ref lN) w' e t u d m' bS->b6 B H' x' e t u d m' p' bS->dE e t u d m'->cj e t bS->bS.length<=60->Q (.ref r) H')
theorem acN(T:aC):aV 4 T.XQ (acM T.aZ):=by
 refine kA pM ?_;rintro n n n s H n n n hr ⟨a,x,p,w,c,wv,ns,cs,e,t,u,d,m,f,tb,rfl,hS,hn,hB,⟨wr,rfl,hwr,hT⟩,dm,hot,jb,dW,hc,bf,⟨u1,u2⟩,q⟩;refine#[_,(aq (aJ 5 pM.nd (aF (cB T) hr (ae (aa 0) (ae ag (ae ag (ae (ar (aa 1) ag) ah)))))) (aq (aJ 6 pM.nd (aF (cB T) hr (ae (aa 0) (ae ag (ae ag (ae (ar (aa 1) ag) ah)))))) (aq (aJ 7 pM.nd (wA Iv (by rfl) T.LO F9 (ae (ar (aa 1) ag) ah))) (aq (aG (aW (aF (cB T) hr (ae (aa 0) (ae ag (ae ag (ae ag ah))))) ag) (aq (aJ 8 pM.nd (aF (cB T) hr (ae (aa 0) (ae ag (ae ag (ae (aE a8 (cG (wt Y) (by rfl) T.n9 nz (ae (ar (aa 1) ag) (ae ag ah))) ag) ah)))))) (aw (aB (aP (ae (aP (ae (ar (aa 1) ag) (ae (ar (aa 1) ag) (ae (ar (aa 1) ag) (ae (ar (aa 1) ag) (ae (aa 8) (ae (aa 7) ah))))))) (ae (ff (aa 2) T.bQ T.YM (Zy T) hr.m T.CN.b .nil gT (ae (aa 8) ah)) ah)))))) aH) (aq (aG (PW.pt (jg (sW (Sx (fJ hr) (aP (ae (aa 5) (ae (aa 6) ah))) (aa 7))) (jX (aW (aF (cB T) hr (ae (aa 0) (ae ag (ae ag (ae ag ah))))) ag)))) (aq (dq (ff (aa 2) T.bQ T.YL (Zu T) hr.m T.CM.b .nil gT (ae (aa 5) (ae (aa 6) ah)))) (aw (dq (Ir (fJ hr) (aa 7) (aP (ae (aa 5) (ae (aa 6) ah))) #[Y,Y,Y,Y])))) (aq (aJ 9 pM.nd (aF (Me T) hr (ae (aa 0) (ae ag (ae (aE a8 (ar (aa 3) (aa 6)) (aE jH (aa 4) (aE cf (aF (cB T) hr (ae (aa 0) (ae ag (ae ag (ae ag ah))))) ag))) (ae (aa 4) ah)))))) (aq (dq (ff (aa 2) T.bQ T.yE (yH T) hr.m T.rQ.b .nil gT (ae (aa 5) (ae (aa 6) (ae (ar (aa 9) ag) (ae (ar (aa 9) ag) ah)))))) (aw (AV (fJ hr) (aa 7) (aP (ae (aa 5) (ae (aa 6) ah))) (aa 9) Y))))) (aw (aB (aP (ae (aP (ae (ar (aa 1) ag) (ae (ar (aa 1) ag) (ae (ar (aa 1) ag) (ae (ar (aa 1) ag) (ae (ar (aa 1) ag) (ae (aa 7) ah))))))) (ae (aa 2) ah)))))))))),?_];obtain⟨⟨e1,e7⟩,⟨t1,t2⟩,u0,d0,m0,me⟩:=id dm;obtain⟨⟨dx,hx⟩,kp,hkp,qg⟩:=id hB;refine aD (λG H1=>∃ i:Int,G=[U (.ref a),U (.ref wr),U (.ref x),U (.ref c),U (.int f),U (.int i),O,O,O,O]/\H=H1/\0<=i/\i<e) (λN hN=>?_) ?_
 .refine az (ak.of hwr) (v:=.int e) Y ?_;refine#[a,ns,_,_,_,Y,hS,hn,by lia,by lia,by lia,λp0 p1 p2=>?_];exact hN _ _ #[_,Y,Y,p1,p2]
 rintro n yR G n ⟨i,rfl,rfl,i0,i1⟩;subst yR;refine aD (λG H1=>∃ j:Int,G=[U (.ref a),U (.ref wr),U (.ref x),U (.ref c),U (.int f),U (.int i),U (.int j),O,O,O]/\H=H1/\0<=j/\j<t) (λN hN=>?_) ?_
 .rfl';refine az (ak.of hwr) (v:=.int t) Y ?_;refine#[a,ns,_,_,_,Y,hS,hn,by lia,by lia,by lia,λp0 p1 p2=>?_];exact hN _ _ #[_,Y,Y,p1,p2]
 rintro n yR G n ⟨j,rfl,rfl,j0,j1⟩;subst yR;refine aD (λG H1=>∃ w1 kv,G=[U (.ref a),U (.ref wr),U (.ref x),U (.ref c),U (.int f),U (.int i),U (.int j),U (.ref w1),O,O]/\ai H H1/\H w1=O/\H1 w1=U (.dT kv)/\bp H1 kv tb) (λN hN=>?_) ?_
 .obtain⟨kw,hkw,NN⟩:=id hT;rfl';exact az (ak.of hwr) (v:=.ref w) Y #[w,Y,kw,hkw,IE NN hot (by lia) (by lia),λl hl=>hN _ _ #[l,kw,Y,ao hl,hl,au,NN.imp λn n n z=>aR.same z (ao hl)]]
 rintro n yR G H1 ⟨w1,kv,rfl,s1,Eg,vR,oi⟩;subst yR;have wp:w1≠p:=λz=>by rw[z,hkp] at Eg;cases Eg
 have lO:=s1 _ _ hwr;have NO:=s1.seq hS;refine aD (λG H2=>G=[U (.ref a),U (.ref wr),U (.ref x),U (.ref c),U (.int f),U (.int i),U (.int j),U (.ref w1),O,O]/\H1=H2) (λN hN=>?_) ?_
 .refine x4 λBd vS=>?_;rfl';refine#[a,ns,_,_,_,Y,NO,hn,by lia,by lia,by lia,λp0 p1 p2=>?_];rfl';refine aU (λn=>?_) λn=>hN _ _ #[Y,Y];subst vS;refine aD (λG H2=>∃ m':Int,G=[U (.ref a),U (.ref wr),U (.ref x),U (.ref c),U (.int f),U (.int i),U (.int j),U (.ref w1),U (.int m'),O]/\H1=H2/\0<=m'/\m'<=e) (λN2 nh=>?_) ?_
  .rfl';refine az (ak.of lO) (v:=.int e) Y ?_;rfl';generalize en:(if (2:Int)<e then (2:Int) else e)=mi;have mb:0<=mi/\mi<=e:=by rw[<- en];split<;>lia
   refine#[a,ns,_,_,_,Y,NO,hn,by lia,by lia,by lia,λp0 p1 p2=>?_];exact nh _ _ #[_,Y,Y,p1,by lia]
  rintro n yR G n ⟨m',rfl,rfl,n0,n1⟩;subst yR;have vT:dE e t u d m':=#[#[e1,e7],#[t1,t2],u0,d0,n0,n1]
  rfl';refine az (ak.of lO) Y (az (ak.of lO) Y (az (ak.of lO) Y (az (ak.of lO) Y #[by decide,λr1 cP=>?_])));have ur:=ao (o:=.tup [.int e,.int t,.int u,.int d,.int m',.ref w1]) cP;refine#[_,_,(s1.trans ur) _ _ hx,Y,x,p,e,t,u,d,m,m',tb,Y,hB.same (s1.trans ur),hot,λz=>absurd vT z,λn x' p' H3 s3 n n oq=>#[aY,λr hr=>?_]];have u3:=ao (o:=.tup [.ref r1,.ref x']) hr;have W:=ur.trans (s3.trans u3);exact q r x' p' w1 r1 m' tb _ (λz o n ez=>(s1.trans W) _ _ ez) au #[r1,Y,(s3.trans u3) _ _ au,kv,W _ _ vR,oi.imp λn n n z=>aR.same z W] (oq.same u3) vT hot (by lia)
 rintro n yR G n ⟨rfl,rfl⟩;subst yR;refine aD (λG H2=>(∃ z,G=[U (.ref a),U (.ref wr),U (.ref x),U (.ref c),U (.int f),U (.int i),U (.int j),U (.ref w1),O,z])/\∃ bS,mz [p,w1] H1 H2/\TabAt H2 w1 bS/\b6 T.aZ H2 x e t u d m p bS/\cj e t bS/\bS.length<=60) (λN hN=>?_) ?_
 .have yM:(0<=i/\i<e)/\0<=j/\j<t:=#[#[i0,i1],j0,j1]
  have kl:=qg.len;have k1l:=oi.len;refine acL (λG9q sG=>?_) λCd hC=>?_
  .have SG:=s1.trans sG;refine aD (λG G2=>∃ wq lo hi,G=[U (.ref a),U (.ref wr),U (.ref x),U (.ref c),U (.int f),U (.int i),U (.int j),U (.ref w1),O,U (.ref wq)]/\ai G9q G2/\G2 wq=U (.tup [ev lo,ev hi])/\bj lo hi=false) (λN2 nh=>?_) ?_
   .rfl';refine bR (aj.of (SG _ _ hc)) (int_at (by lia) (by lia)) ?_;refine#[a,ns,_,_,_,Y,(SG.seq hS),hn,by lia,by lia,by lia,λp0 p1 p2=>?_];exact#[k7 (by lia) (by lia),a,ns,17,_,f,Y,SG.seq hS,hn,by decide,#[u1,u2],λwq lo hi G2 s2 vU vt n=>nh _ _ #[wq,lo,hi,Y,s2,vU,vt]]
   rintro n yR G G2 ⟨wq,lo,hi,rfl,s2,vU,vt⟩;subst yR;have S2:=SG.trans s2;have gA:=S2 _ _ hx;have Eh:=S2 _ _ hkp;have vB:=(sG.trans s2) _ _ vR;refine aD (λG G3=>∃ v9,G=[U (.ref a),U (.ref wr),U (.ref x),U (.ref c),U (.int f),U (.int i),U (.int j),U (.ref w1),O,U (.ref wq)]/\SameBut p G2 G3/\G3 p=U (.dT (putK kp (bP i j) v9))/\aR G3 v9 lo hi) (λN2 nh=>?_) ?_
   .rfl';exact#[_,_,gA,Y,az (ak.of vU) Y (az (ak.of vU) Y #[x,p,e,t,u,d,m,i,j,lo,hi,kp,Y,#[#[dx,gA],Eh],by lia,λz=>absurd #[yM,vt] z,λn v9 G3 sb hp iv=>nh _ _ #[v9,Y,sb,hp,iv]])]
   rintro n yR G G3 ⟨v9,rfl,sb,mX,iv⟩;subst yR;have F3:Fr G2 G3:=SameBut.fr sb Eh;have zk:=sb w1 _ wp vB;have acO:=F3 _ (.tup _) (λn z=>nomatch z) vU;have B3:=b6.told (s:=(i,j)) (w:=(lo,hi)) #[dx,gA] Eh (qg.imp λn n n z=>aR.same z S2) sb mX iv;rfl';refine#[aY,λka kI=>?_];have ua:=ao (o:=.tup [.int i,.int j]) kI;have vV:=ua _ _ zk;have F5:Fr (upd G3 ka (.tup [.int i,.int j])) (upd (upd G3 ka (.tup [.int i,.int j])) w1 (.dT (putK kv (bP i j) (.ref wq)))):=A1 vV;have B4:=B3.same ua;have pl:=xF tb (i,j) (lo,hi);refine#[_,oY.t (k:=bP i j) vV au (aeR (by lia:kv.length<=60) (by decide)),hN _ _ #[#[_,Y],g9 tb (i,j) (lo,hi),λz o hz ez=>?_,#[_,au,bp.put (s:=(i,j)) (w:=(lo,hi)) (oi.imp λn n n z=>(((aR.same z (sG.trans s2)).fr F3).same ua).fr F5) #[wq,Y,F5 _ (.tup _) (λn z=>nomatch z) (ua _ _ acO)]],B4.now F5 (B4.tb.fr F5 λn z=>by rw[aK (aey wp)];exact z),hot.put yM,by lia]];rw[aK λy=>hz (by rw[y];simp)];exact ua _ _ (sb z o (λy=>hz (by rw[y];simp)) ((sG.trans s2) _ _ ez))
  .refine x4 λBd vS=>?_;rfl';refine#[aY,λka kI=>?_];have ua:=ao (o:=.tup [.int i,.int j]) kI;refine#[_,fv.t (k:=bP i j) (ua _ _ vR) au,?_];cases hv:iW tb (i,j) with
   | none =>
    rw[(oi.val (i,j)).1 hv];exact hC _ ua
   | some ww =>
    obtain⟨vw,hvw,n⟩:=(oi.val (i,j)).2 _ hv;obtain⟨vp,hvp,n⟩:=(qg.val (i,j)).2 _ hv;rw[hvw];refine#[a,ns,_,_,_,Y,((s1.trans ua).seq hS),hn,by lia,by lia,by lia,λp0 p1 p2=>?_];rfl';refine aU (λn=>?_) λn=>hC _ ua;subst vS;have Sa:=s1.trans ua;refine aD (λG G3=>G=[U (.ref a),U (.ref wr),U (.ref x),U (.ref c),U (.int f),U (.int i),U (.int j),U (.ref w1),O,O]/\SameBut p (upd H1 ka (.tup [.int i,.int j])) G3/\G3 p=U (.dT (kj kp (bP i j)))) (λN2 nh=>?_) ?_
    .rfl';exact#[_,_,Sa _ _ hx,Y,x,p,e,t,u,d,m,i,j,kp,Y,#[#[dx,Sa _ _ hx],Sa _ _ hkp],λz=>absurd (hvp.symm.trans z) (λz=>nomatch z),λv9 n G3 sb hp=>nh _ _ #[Y,sb,hp]]
    rintro n yR G G3 ⟨rfl,sb,mX⟩;subst yR;have F3:=SameBut.fr sb (Sa _ _ hkp);have zk:=sb w1 _ wp (ua _ _ vR);have B3:=b6.acK (s:=(i,j)) #[dx,Sa _ _ hx] (Sa _ _ hkp) (qg.imp λn n n z=>aR.same z Sa) sb mX;rfl';refine#[.inr #[kv,.inl zk],aY,λkb hkb=>?_];have ub:=ao (o:=.tup [.int i,.int j]) hkb;have vV:=ub _ _ zk;have B4:=B3.same ub;have F6:Fr (upd G3 kb (.tup [.int i,.int j])) (upd (upd G3 kb (.tup [.int i,.int j])) w1 (.dT (kj kv (bP i j)))):=A1 vV;have n2:(rg tb (i,j)).length<=tb.length:=aen _ _;refine#[kv,vV,bP i j,au,vw,hvw,hN _ _ #[#[_,Y],rg tb (i,j),λz o hz ez=>?_,#[_,au,bp.drop (s:=(i,j)) (oi.imp λn n n z=>(((aR.same z ua).fr F3).same ub).fr F6)],B4.now F6 (B4.tb.fr F6 λn z=>by rw[aK (aey wp)];exact z),hot.drop,by lia]];rw[aK λy=>hz (by rw[y];simp)];exact ub _ _ (sb z o (λy=>hz (by rw[y];simp)) (ua _ _ ez))
 rintro n yR G H2 ⟨⟨z,rfl⟩,bS,b2,Dv,rX,ok2,l2⟩;subst yR;have D2:xD H1 [p,w1]:=λz hz=>by
  rcases adL.mp hz with rfl|hz
  .exact#[kp,s1 _ _ hkp]
  .rw[ad8.mp hz];exact#[kv,vR]
 have F2:=b2.fr D2;have vW:=F2 _ (.tup _) (λn z=>nomatch z) lO;rfl';refine az (ak.of vW) Y (az (ak.of vW) Y (az (ak.of vW) Y (az (ak.of vW) Y (az (ak.of vW) Y #[by decide,λr1 cP=>#[aY,λr hr=>?_]]))));have ur:=ao (o:=.tup [.int e,.int t,.int u,.int d,.int m,.ref w1]) cP;have u3:=ao (o:=.tup [.ref r1,.ref x]) hr;refine q r x p w1 r1 m bS _ (λz o hz ez=>(ur.trans u3) _ _ (b2 z o (λy=>?_) (s1 _ _ ez))) au #[r1,Y,u3 _ _ au,Dv.same (ur.trans u3)] (rX.same (ur.trans u3)) dm ok2 l2;rcases adL.mp y with rfl|y
 .exact hz (.head _)
 .rw[ad8.mp y,Eg] at ez;cases ez
inductive acP(vs:List V)(H:Hp)(Q:VK)(aO:XK):Prop
 | mk(r a b:adK)(s:al9)(xs ys:List V)(_:vs=[.ref r])(_:((H r=U (.tup [.str s,.ref a])/\a=b)∨H r=U (.tup [.str s,.ref a,.ref b])))(_:(H a=U (.lst xs)∨H a=U (.tup xs)))(_:(H b=U (.lst ys)∨H b=U (.tup ys)))(_:∀ (r' l1 l2:adK) (H':Hp),ai H H'->H' r'=U (.tup [.str s,.ref l1,.ref l2])->H' l1=U (.lst xs)->H' l2=U (.lst ys)->Q (.ref r') H')
theorem NP(T:aC):aV 1 T.XS acP:=by
 refine bD LL ?_;rintro y y y s H y y y hr ⟨r,a,b,s,xs,ys,rfl,hr,hx,hy,q⟩;refine#[_,(aw (aB (aP (ae (ar (aa 0) ag) (ae (wA FK (by rfl) T.u5 tN (ae (ar (aa 0) ag) ah)) (ae (wA FK (by rfl) T.u5 tN (ae (ar (aa 0) (aE cf (cY T.cS (ae (aa 0) ah)) ag)) ah)) ah)))))),?_];rcases hr with ⟨hr,rfl⟩|hr
 .refine az (ak.of hr) (v:=.str s) Y ?_;rfl';refine az (ak.of hr) (v:=.ref a) Y ?_;rfl';refine#[_,hx.imp aj.of ak.of,λl1 f1=>?_];have u1:=ao (o:=.lst xs) f1;refine#[_,nA (ak.of (u1 _ _ hr)),?_];refine az (ak.of (u1 _ _ hr)) (v:=.ref a) Y ?_;rfl';refine#[_,hy.imp (λz=>aj.of (u1 _ _ z)) (λz=>ak.of (u1 _ _ z)),λl2 f2=>?_];have u2:=ao (o:=.lst ys) f2;have e1:=u2 _ _ (au (H:=H) (a:=l1) (o:=.lst xs));exact#[by decide,λr' jP=>q r' l1 l2 _ (u1.trans (u2.trans (ao jP))) au (ao jP _ _ e1) (ao jP _ _ au)]
 .rfl';refine az (ak.of hr) (v:=.str s) Y ?_;refine az (ak.of hr) (v:=.ref a) Y ?_;rfl';refine#[_,hx.imp aj.of ak.of,λl1 f1=>?_];have u1:=ao (o:=.lst xs) f1;refine#[_,nA (ak.of (u1 _ _ hr)),?_];refine az (ak.of (u1 _ _ hr)) (v:=.ref b) Y ?_;rfl';refine#[_,hy.imp (λz=>aj.of (u1 _ _ z)) (λz=>ak.of (u1 _ _ z)),λl2 f2=>?_];have u2:=ao (o:=.lst ys) f2;have e1:=u2 _ _ (au (H:=H) (a:=l1) (o:=.lst xs));exact#[by decide,λr' jP=>q r' l1 l2 _ (u1.trans (u2.trans (ao jP))) au (ao jP _ _ e1) (ao jP _ _ au)]
theorem sJ(hg:bK tr):dN tr<=11:=by
 cases tr with
 | over i j s=>obtain⟨y,y,y⟩:=hg;show j<=11;lia
 | under i j s=>obtain⟨y,y,y⟩:=hg;show j<=11;lia
 | rose i j l h=>obtain⟨⟨y,y,y⟩,y⟩:=hg;show j<=11;lia
 | turn k=>obtain⟨y,y⟩:=hg;show k+1<=11;lia
 | stay i j l h=>obtain⟨y,y,y⟩:=hg;show j<=11;lia
 | pace i j l h=>obtain⟨y,y,y⟩:=hg;show j<=11;lia
theorem acQ(hg:fm tr):cD tr<=11:=by
 cases tr with
 | leaf a=>exact sJ hg
 | nay a=>exact sJ hg
 | both a b =>
  have h1:=sJ hg.1.1;have h2:=sJ hg.1.2;show ik _ _<=11;unfold ik;split<;>lia
 | either a b =>
  have h1:=sJ hg.1.1;have h2:=sJ hg.1.2;show ik _ _<=11;unfold ik;split<;>lia
inductive acR(T:aC)(vs:List V)(H:Hp)(Q:VK)(aO:XK):Prop
 | mk(w v:adK)(wv:V)(e t u d m:Int)(tr:Te)(tb:Tb)(_:vs=[.ref v,wv])(_:fD H wv w e t u d m tb)(_:0<=u)(_:0<=d)(_:gk T H v tr)(_:fm tr)(_:∀ H',ai H H'->Q (.bl true) H')
theorem acS(T:aC):aV 23 T.XR (acR T):=by
 refine kA pN ?_;rintro y A y s H y y y hr ⟨w,v,y,e,t,u,d,m,tr,tb,rfl,⟨wr,rfl,hwr,hT⟩,u0,d0,hv,hg,q⟩;refine#[_,(aq (aJ 2 pN.nd (dC (Nw T hr) (aa 0))) (aq (aG (i4 (aa 2) ag) (aw (aB fH)) aH) (aq (aJ 3 pN.nd (jq T.C5 (Dc T) hr.m Y T.Ca T.uZ.b .nil gT (ae ag (ae (aa 2) (ae (ar (aa 1) ag) (ae (ar (aa 1) ag) (ae ag ah))))))) (aq (aG (rK (aa 2) ag) (aq (dq (ff (aa 3) T.bQ T.yE (yH T) hr.m T.rQ.b .nil gT (ae ag (ae ag (ae ag (ae ag ah)))))) (aw (dq (ff (aa 3) T.bQ T.yE (yH T) hr.m T.rQ.b .nil gT (ae ag (ae ag (ae (aE a8 (ar (aa 1) ag) ag) (ae bI ah)))))))) aH) (aq (aJ 4 pN.nd fH) (aq (QM (λcls y H1=>cls = .ref T.ig/\ai H H1) 5 Y Y Y T.B8 pN.nd Y Y (λF pn hx=>(aw (dq (fe (D6 T) hr.m Y T.ym.m T.ym.F.kp T.ym.b .nil hx (ae (aa 3) (ae (aa 0) ah)))))) (λA' pn=>(aw (aJ 4 pN.nd (fP (cG (Gi (K:=K) Y) (by rfl) T.mU l4 (ae (aa 5) (ae (v7 (v:=.ref T.B6) Y T.WO Y) ah))) (fq (x3 (cG (Gi (K:=K) Y) (by rfl) T.mU l4 (ae (aa 5) (ae (v7 (v:=.ref T.nX) Y T.yj Y) ah)))))))))) (aw (aB (aa 4))))))))),?_];have f11:=acQ hg;refine aD (λG H1=>G=[U (.ref v),U (.ref wr),U (.int (cD tr)),O,O,O]/\ai H H1) (λN hN=>?_) ?_
 .exact Nx T hv hg _ λH1 s1=>hN _ _ #[Y,s1]
 rintro y yR G H1 ⟨rfl,s1⟩;subst yR;replace hv:=hv.same s1;have lO:=s1 _ _ hwr;refine aD (λG H2=>G=[U (.ref v),U (.ref wr),U (.int (cD tr)),O,O,O]/\H1=H2/\1<=cD tr) (λN hN=>?_) ?_
 .rfl';exact aU (λy=>q _ s1) λh=>hN _ _ #[Y,Y,by lia]
 rintro y yR G y ⟨rfl,rfl,f1⟩;subst yR;have dm:dE 1 (cD tr) u d 0:=#[#[by decide,by decide],#[f1,by lia],u0,d0,by decide,by decide]
 refine aD (λG H2=>∃ x p,G=[U (.ref v),U (.ref wr),U (.int (cD tr)),U (.ref x),O,O]/\ai H1 H2/\H1 p=O/\b6 T.aZ H2 x 1 (cD tr) u d 0 p []) (λN hN=>?_) ?_
 .rfl';refine az (ak.of lO) Y (az (ak.of lO) Y λx' oh bZ Dg b9=>?_);refine#[x',oh,1,cD tr,u,d,0,Y,au,λz=>absurd dm z,λy p' H3 dI s3 X3 P3=>#[Y,?_]];have M:=qZ (C:=T.aZ) (fs:=[]) bZ Dg b9;have np:H1 p'=O:=by
   cases h:H1 p' with
   | none=>rfl
   | some o=>have:=M _ _ h;rw[dI] at this;cases this
  exact hN _ _ #[x',p',Y,λb o e=>s3 b o (λz=>by rw[z,bZ] at e;cases e) (M _ _ e),np,#[#[_,X3],_,P3,trivial]]
 rintro y yR G H2 ⟨x,p,rfl,s2,np,rX⟩;subst yR;refine aD (λG H3=>G=[U (.ref v),U (.ref wr),U (.int (cD tr)),U (.ref x),O,O]/\ai H1 H3/\∃ bS,b6 T.aZ H3 x 1 (cD tr) u d 0 p bS/\cj 1 (cD tr) bS/\bS.length<=2) (λN hN=>?_) ?_
 .refine x4 λBd vS=>?_;rfl';refine aU (λh1=>?_) λy=>hN _ _ #[Y,s2,[],rX,cj.nil,by decide];subst vS;obtain⟨⟨dx,hx⟩,kp,hkp,qg⟩:=id rX;have kl:kp.length=0:=qg.len;have o0:jB 1 (cD tr) (0,0):=#[#[by decide,by decide],by decide,f1]
  have o1:jB 1 (cD tr) (0,1):=#[#[by decide,by decide],by decide,h1]
  refine aD (λG H3=>G=[U (.ref v),U (.ref wr),U (.int (cD tr)),U (.ref x),O,O]/\ai H1 H3/\b6 T.aZ H3 x 1 (cD tr) u d 0 p (g9 [] (0,0) (U 0,U 0))) (λN2 nh=>?_) ?_
  .rfl';exact#[_,_,hx,Y,x,p,1,cD tr,u,d,0,0,0,U 0,U 0,kp,Y,#[#[dx,hx],hkp],by lia,λz=>absurd #[o0,Y] z,λy v9 G3 sb hp iv=>nh _ _ #[Y,λb o e=>sb b o (λz=>by rw[z,np] at e;cases e) (s2 _ _ e),b6.told (s:=(0,0)) (w:=(U 0,U 0)) #[dx,hx] hkp qg sb hp iv]]
  rintro y yR G H3 ⟨rfl,s3,oq⟩;subst yR;obtain⟨⟨NQ,mY⟩,NR,NS,lK⟩:=id oq;have kl3:NR.length=1:=lK.len;rfl';refine#[_,_,mY,Y,az (ak.of (s3 _ _ lO)) (v:=.int u) Y ?_];exact#[x,p,1,cD tr,u,d,0,0,1,U (u+1),O,NR,Y,#[#[NQ,mY],NS],by lia,λz=>absurd #[o1,Y] z,λy v9 G3 sb hp iv=>hN _ _ #[Y,λb o e=>sb b o (λz=>by rw[z,np] at e;cases e) (s3 _ _ e),_,b6.told (s:=(0,1)) (w:=(U (u+1),O)) #[NQ,mY] NS lK sb hp iv,(cj.nil.put o0).put o1,adG (xF _ _ _) (akQ (xF [] _ _))]]
 rintro y yR G H3 ⟨rfl,s3,bS,oq,hot,hl⟩;subst yR;rfl';refine#[?_,?_]
 .rfl';exact#[x,p,v,1,_,u,d,0,tr,bS,Y,oq,dm,hot,by lia,hv.same s3,hg,λy H' s'=>#[Y,s1.trans (s3.trans s')],λz=>absurd z (by lia)]
 .rintro cls H' ⟨rfl,hs⟩;refine#[_,Y,T.YR,λa ha=>?_];have X0:=au (H:=H') (a:=a) (o:=ju a T.ig);have S0:=hs.trans (ao (o:=ju a T.ig) ha);generalize upd H' a (ju a T.ig)=Hx at X0 S0 ⊢;rfl';refine Gj X0 T.yF (λz=>nomatch z) T.YS ?_;rfl';refine Gj X0 T.yF (λz=>nomatch z) T.YT ?_;exact q _ S0
theorem acT:Gd 1 (.tuple [.str "full"]):=.tup λd hd=>by
 obtain rfl:d = .str "full" := by simpa using hd
 exact Gd.str (by decide +kernel)
noncomputable def qh(o:En):ahp:=match o with|none=>.none|some i=>.int i
theorem zm{K:adz}{H:Hp}(o:En):Dat K H (ev o) (qh o):=by
 cases o with
 | none=>exact .non
 | some i=>exact .int _
noncomputable def sL:Pp->ahp
 | .nil=>.none
 | .full=>.tuple [.str "full"]
 | .cls c a b=>.tuple [.str "clash",.tuple [qh c.1.1,.int (c.1.2:Int)],.tuple [qh c.2.1,.int (c.2.2:Int)],sL a,sL b]
theorem zo{K:adz}{H:Hp}:∀ {t:Pp} {v:V},fS H v t->Dat K H v (sL t)
 | .nil,_,h=>by rw[show _=V.non from h];exact .non
 | .full,_,⟨r,e,h⟩=>by rw[e];exact .tup (ak.of h) (.cons (.str _) .nil)
 | .cls c a b,_,⟨r,p,q,x,y,e,h1,h2,h3,h4,h5⟩=>by rw[e];exact .tup (ak.of h1) (.cons (.str _) (.cons (.tup (ak.of h2) (.cons (zm _) (.cons (.int _) .nil))) (.cons (.tup (ak.of h3) (.cons (zm _) (.cons (.int _) .nil))) (.cons (zo h4) (.cons (zo h5) .nil)))))
theorem Ei(o:En):Gd 0 (qh o):=by
 cases o with
 | none=>exact .of rfl
 | some i=>exact Gd.int _
theorem zp:∀ t:Pp,Gd (br t+1) (sL t)
 | .nil=>Gd.up (.of rfl:Gd 0 _) (ad6 _)
 | .full=>acT.up (by decide)
 | .cls c a b=>.tup λd hd=>by
  have l1:br a<=br (.cls c a b)-1:=by show br a<=(if br a<=br b then br b else br a)+1-1;split<;>lia
  have l2:br b<=br (.cls c a b)-1:=by show br b<=(if br a<=br b then br b else br a)+1-1;split<;>lia
  have l3:1<=br (.cls c a b):=agn _ _;simp only[adL,aeq,or_false] at hd;rcases hd with rfl|rfl|rfl|rfl|rfl
  .exact (Gd.str (by decide +kernel)).up (by lia)
  .refine Gd.up (n:=1) (.tup λd hd=>?_) l3;simp only[adL,aeq,or_false] at hd;rcases hd with rfl|rfl
   .exact Ei _
   .exact Gd.int _
  .refine Gd.up (n:=1) (.tup λd hd=>?_) l3;simp only[adL,aeq,or_false] at hd;rcases hd with rfl|rfl
   .exact Ei _
   .exact Gd.int _
  .exact (zp a).up (by lia)
  .exact (zp b).up (by lia)
theorem acU(h:fS H v t)(hn:t ≠ .nil)(hh:br t<10):∃ k xs ds,v = .ref k/\H k=U (.tup xs)/\(∀ d∈ds,Gd 12 d)/\∀ (K:adz) H',m5 H H'->iU K H' xs ds:=by
 cases t with
 | nil=>exact absurd Y hn
 | full =>
  obtain⟨r,e,h⟩:=h;refine#[r,_,[.str "full"],e,h,λd hd=>?_,λz z z=>.cons (.str _) .nil];simp only[adL,aeq,or_false] at hd;rw[hd];exact (Gd.str (by decide +kernel)).up (by decide)
 | cls c a b =>
  obtain⟨r,p,q,x,y,e,h1,h2,h3,h4,h5⟩:=h;have l1:br a<=br (.cls c a b)-1:=by show br a<=(if br a<=br b then br b else br a)+1-1;split<;>lia
  have l2:br b<=br (.cls c a b)-1:=by show br b<=(if br a<=br b then br b else br a)+1-1;split<;>lia
  refine#[r,_,[.str "clash",.tuple [qh c.1.1,.int (c.1.2:Int)],.tuple [qh c.2.1,.int (c.2.2:Int)],sL a,sL b],e,h1,λd hd=>?_,λz z s=>.cons (.str _) (.cons (.tup (ak.of (s _ _ h2)) (.cons (zm _) (.cons (.int _) .nil))) (.cons (.tup (ak.of (s _ _ h3)) (.cons (zm _) (.cons (.int _) .nil))) (.cons (zo (h4.tp s)) (.cons (zo (h5.tp s)) .nil))))];have two:∀ (o:En) (n:Int),Gd 12 (.tuple [qh o,.int n]):=λo n=>Gd.up (n:=1) (.tup λd hd=>by
   simp only[adL,aeq,or_false] at hd;rcases hd with rfl|rfl
   .exact Ei _
   .exact Gd.int _) (by decide)
  simp only[adL,aeq,or_false] at hd;rcases hd with rfl|rfl|rfl|rfl|rfl
  .exact (Gd.str (by decide +kernel)).up (by decide)
  .exact two _ _
  .exact two _ _
  .exact (zp a).up (by lia)
  .exact (zp b).up (by lia)
theorem NT(h:dn u d t m tb H v ps):∃ k xs ds,v = .ref k/\H k=U (.tup xs)/\(∀ d∈ds,Gd 12 d)/\∀ (K:adz) H',m5 H H'->iU K H' xs ds:=by
 have two:∀ (s:Str) (j:Int),ajt s=true->∀ d∈[PyData.str s,.int j],Gd 12 d:=λs j hs d hd=>by
  simp only[adL,aeq,or_false] at hd;rcases hd with rfl|rfl
  .exact (Gd.str hs).up (by decide)
  .exact (Gd.int _).up (by decide)
 rcases h with ⟨k,j,e,h1,h2⟩|⟨k,j,e,h1,h2⟩|⟨tt,pp,gs,h1,h2,h3,h4,h5⟩
 .exact#[k,_,[.str "step",.int j],e,h1,two _ _ (by decide +kernel),λy y y=>.cons (.str _) (.cons (.int _) .nil)]
 .exact#[k,_,[.str "at",.int j],e,h1,two _ _ (by decide +kernel),λy y y=>.cons (.str _) (.cons (.int _) .nil)]
 .exact acU h1 (λz=>by rw[z] at h5;exact h5) h2
theorem Ej:∀ {zs:List V} {cl:List (List Pa)},ay (dn u d t m tb H) zs cl->∃ ds,(∀ d∈ds,Gd 13 d)/\∀ (K:adz) H',m5 H H'->iU K H' zs ds
 | [],_::_,h=>(show False from h).elim
 | _::_,[],h=>(show False from h).elim
 | [],[],_=>#[[],λy h=>(by cases h),λy y y=>.nil]
 | _::_,_::_,⟨h,hs⟩=>by
  obtain⟨k,xs,ds,e,hk,g,D⟩:=NT h;obtain⟨es,ge,E⟩:=Ej hs;refine#[.tuple ds::es,λd hd=>?_,λK H' s=>.cons (e ▸ .tup (ak.of (s _ _ hk)) (D K H' s)) (E K H' s)];rcases adL.mp hd with rfl|hd
  .exact .tup g
  .exact ge _ hd
theorem eK.fr{T:aC}{H H':Hp}{x:adK}{tr:Tr}(h:eK T H x tr)(F:Fr H H'):eK T H' x tr:=by
 cases tr
 case stay=>obtain⟨dx,p,a,b⟩:=h;exact#[dx,p,F _ (.ins _ _ _) (λy z=>nomatch z) a,F _ (.tup _) (λy z=>nomatch z) b]
 case pace=>obtain⟨dx,p,a,b⟩:=h;exact#[dx,p,F _ (.ins _ _ _) (λy z=>nomatch z) a,F _ (.tup _) (λy z=>nomatch z) b]
 all_goals (obtain⟨dx,a⟩:=h;exact#[dx,F _ (.ins _ _ _) (λy z=>nomatch z) a])
theorem gk.fr(h:gk T H x te)(F:Fr H H'):gk T H' x te:=by
 cases te
 case leaf=>exact eK.fr h F
 case nay=>obtain⟨dx,c,a,b⟩:=h;exact#[dx,c,F _ (.ins _ _ _) (λy z=>nomatch z) a,b.fr F]
 all_goals (obtain⟨dx,c1,c2,a,b1,b2⟩:=h;exact#[dx,c1,c2,F _ (.ins _ _ _) (λy z=>nomatch z) a,b1.fr F,b2.fr F])
inductive Kp2(H:Hp)(r:adK):Prop
 | mk(a b:adK)(s:al9)(xs ys:List V)(ds es:List ahp)(_:ajt s=true)(_:(H r=U (.tup [.str s,.ref a])/\a=b)∨H r=U (.tup [.str s,.ref a,.ref b]))(_:H a=U (.lst xs)∨H a=U (.tup xs))(_:H b=U (.lst ys)∨H b=U (.tup ys))(_:∀ d∈ds,Gd 13 d)(_:∀ d∈es,Gd 13 d)(_:∀ (K:adz) H',m5 H H'->iU K H' xs ds)(_:∀ (K:adz) H',m5 H H'->iU K H' ys es)
theorem NU(cs:List Int):∀ d∈cs.map PyData.int,Gd 13 d:=λd hd=>by obtain⟨n,y,rfl⟩:=adP.mp hd;exact (Gd.int n).up (by decide)
theorem vP.kp(h:vP u d t m tb tr H r):Kp2 H r:=by
 obtain⟨⟨y,z,h1,h2⟩|⟨y,k,zs,h1,h2,h3⟩|⟨y,y,k,zs,h1,h2,h3⟩|⟨y,k1,k2,h1,⟨cs,y,y,y,hc,y⟩,⟨Ea,y,y,y,mn,y⟩⟩⟩:=h
 .obtain⟨k,xs,ds,rfl,hk,g,D⟩:=NT h2;have g':∀ d∈ds,Gd 13 d:=λd hd=>(g d hd).up (by decide);exact#[k,k,"none",xs,xs,ds,ds,by decide +kernel,.inl #[h1,Y],.inr hk,.inr hk,g',g',D,D]
 .obtain⟨ds,g,D⟩:=Ej h3;exact#[k,k,"yes",zs,zs,ds,ds,by decide +kernel,.inl #[h1,Y],.inl h2,.inl h2,g,g,D,D]
 .obtain⟨ds,g,D⟩:=Ej h3;exact#[k,k,"no",zs,zs,ds,ds,by decide +kernel,.inl #[h1,Y],.inl h2,.inl h2,g,g,D,D]
 .exact#[k1,k2,"open",_,_,_,_,by decide +kernel,.inr h1,.inl hc,.inl mn,NU cs,NU Ea,λy y y=>AL _,λy y y=>AL _]
theorem zr(F:Fr H H')(h:H a=U (.lst xs)∨H a=U (.tup xs)):H' a=U (.lst xs)∨H' a=U (.tup xs):=h.imp (F _ (.lst _) (λy z=>nomatch z)) (F _ (.tup _) (λy z=>nomatch z))
theorem NV(F:Fr H H')(h:(H r=U (.tup [.str s,.ref a])/\a=b)∨H r=U (.tup [.str s,.ref a,.ref b])):(H' r=U (.tup [.str s,.ref a])/\a=b)∨H' r=U (.tup [.str s,.ref a,.ref b]):=h.imp (λ⟨x,y⟩=>#[F _ (.tup _) (λv z=>nomatch z) x,y]) (F _ (.tup _) (λv z=>nomatch z))
theorem NW{K:adz}{H:Hp}{r l1 l2:adK}{s:al9}{xs ys:List V}{ds es:List ahp}(h:H r=U (.tup [.str s,.ref l1,.ref l2]))(h1:H l1=U (.lst xs))(h2:H l2=U (.lst ys))(D1:iU K H xs ds)(D2:iU K H ys es):Dat K H (.ref r) (.tuple [.str s,.list ds,.list es]):=.tup (ak.of h) (.cons (.str _) (.cons (.lst (aj.of h1) D1) (.cons (.lst (aj.of h2) D2) .nil)))
theorem acV(hs:ajt s=true)(h1:∀ d∈ds,Gd 13 d)(h2:∀ d∈es,Gd 13 d):Gd 15 (.tuple [.str s,.list ds,.list es]):=.tup λd hd=>by
 simp only[adL,aeq,or_false] at hd;rcases hd with rfl|rfl|rfl
 .exact (Gd.str hs).up (by decide)
 .exact .lst h1
 .exact .lst h2
theorem vX(F:Fr H H'):m5 H H':=λy y e=>F _ (.tup _) (λy z=>nomatch z) e
theorem acW(T:aC):aV 37 T.rP (pV K):=by
 refine kA i6 ?_;rintro y y y s H y y y hr ⟨a,ns,rfl,hS,hn,q⟩;refine#[_,(aq (aJ 1 i6.nd (aF (Zi T) hr (ae (aa 0) ah))) (aq (aJ 2 i6.nd (aF (Zk T) hr (ae (aa 0) (ae (aa 1) (ae (aF (Ze T) hr (ae (aa 0) ah)) ah))))) (aq (aJ 3 i6.nd (aF (Zp T) hr (ae (aa 0) (ae (aa 1) (ae (aa 2) ah))))) (aq (aJ 4 i6.nd (aF (acJ T) hr (ae (aa 0) (ae (aa 1) (ae (aa 2) ah))))) (aq (aJ 5 i6.nd (aF (ZQ T) hr (ae (aa 3) ah))) (aq (aJ 6 i6.nd (aF (acy T) hr (ae (aa 4) ah))) (aq (aJ 7 i6.nd (gJ (D6 T) hr (ae (aa 5) (ae (aa 6) ah)))) (aq (aG (cV (de (gJ (NJ T) hr (ae (aa 3) (ae (aa 5) (ae (aa 4) (ae (aa 6) (ae (aa 7) ah)))))))) (aw (aB fH)) aH) (aq (aJ 8 i6.nd (aF (NP T) hr (ae (aa 7) ah))) (aq (aJ 9 i6.nd (gJ (acN T) hr (ae (aa 0) (ae (aa 3) (ae (aa 5) (ae (aa 2) (ae (ar (aa 1) ag) ah))))))) (aq (aJ 10 i6.nd (gJ (D6 T) hr (ae (ar (aa 9) ag) (ae (aa 6) ah)))) (aq (aG (cV (de (gJ (NJ T) hr (ae (ar (aa 9) ag) (ae (ar (aa 9) ag) (ae (aa 4) (ae (aa 6) (ae (aa 10) ah)))))))) (aw (aB fH)) aH) (aw (aB (fP (fb (RP hr.units) (aF (NP T) hr (ae (aa 7) ah)) (aa 8) (c6 _)) (fq (gJ (acS T) hr (ae (aa 6) (ae (aa 3) ah))))))))))))))))))),?_];refine aD (λG H1=>∃ (r:adK) (e t u d m f:Int),G=[U (.ref a),U (.ref r),O,O,O,O,O,O,O,O,O]/\ai H H1/\H1 r=U (.tup (vo e t u d m f))/\rW e t u d m f) (λN hN=>?_) ?_
 .exact#[a,ns,Y,hS,hn,λr e t u d m f H1 s1 cP sh=>hN _ _ #[r,e,t,u,d,m,f,Y,s1,cP,sh]]
 rintro y yR G H1 ⟨r,e,t,u,d,m,f,rfl,s1,cP,sh⟩;subst yR;refine aD (λG H2=>∃ (c:adK) (cs:List Int),G=[U (.ref a),U (.ref r),U (.ref c),O,O,O,O,O,O,O,O]/\ai H1 H2/\H2 c=U (.lst (cs.map V.int))/\cs.length=t.toNat) (λN hN=>?_) ?_
 .rfl';refine#[a,ns,Y,s1.seq hS,hn,λn H2 s2=>?_];exact#[a,r,ns,e,t,u,d,m,f,n,Y,(s1.trans s2).seq hS,hn,ak.of (s2 _ _ cP),sh,λc cs H3 s3 y hc bf y=>hN _ _ #[c,cs,Y,s2.trans s3,hc,bf]]
 rintro y yR G H2 ⟨c,cs,rfl,s2,mn,bf⟩;subst yR;have S2:=s1.trans s2;refine aD (λG H3=>∃ (wr w:adK) (tb:Tb),G=[U (.ref a),U (.ref r),U (.ref c),U (.ref wr),O,O,O,O,O,O,O]/\ai H2 H3/\H3 wr=U (.tup [.int e,.int t,.int (f * u),.int (f * d),.int m,.ref w])/\TabAt H3 w tb/\cj e t tb/\tb.length<=24/\∀ r∈tb,bj r.2.1 r.2.2=false) (λN hN=>?_) ?_
 .rfl';refine#[a,r,c,ns,cs,e,t,u,d,m,f,Y,S2.seq hS,hn,ak.of (s2 _ _ cP),sh,aj.of mn,bf,λv w tb H3 s3 y hW aA jb dW=>?_];obtain⟨wr,rfl,h1,h2⟩:=hW;exact hN _ _ #[wr,w,tb,Y,s3,h1,h2,aA,jb,dW]
 rintro y yR G H3 ⟨wr,w,tb,rfl,s3,hwr,hT,hot,jb,dW⟩;subst yR;have hff:=sh.hf;have dm:dE e t (f * u) (f * d) m:=#[sh.he,sh.ht,agB (by lia) sh.hu.1,agB (by lia) sh.hd.1,sh.hm.1,sh.hm.2]
 obtain⟨he,ht,u0,d0,m0,me⟩:=id dm;have iN:=(s2.trans s3) _ _ cP;have rY:=s3 _ _ mn;have Ek:=(S2.trans s3).seq hS;generalize f * u=U9q at dm hwr u0;generalize f * d=D at dm hwr d0;clear s1 s2 s3 S2 hS mn cP;refine aD (λG H4=>∃ tp te,G=[U (.ref a),U (.ref r),U (.ref c),U (.ref wr),U (.ref tp),O,O,O,O,O,O]/\ai H3 H4/\kJ H4 tp te/\fm te/\cD te<t) (λN hN=>?_) ?_
 .rfl';exact#[a,r,c,ns,cs,e,t,u,d,m,f,Y,Ek,hn,iN,sh,rY,bf,λtp te H4 s4 nC hg hf=>hN _ _ #[tp,te,Y,s4,nC,hg,hf]]
 rintro y yR G H4 ⟨tp,te,rfl,s4,El,hg,hf⟩;subst yR;refine aD (λG H5=>∃ (x p:adK),G=[U (.ref a),U (.ref r),U (.ref c),U (.ref wr),U (.ref tp),U (.ref x),O,O,O,O,O]/\ai H4 H5/\H4 p=O/\b6 T.aZ H5 x e t U9q D m p tb) (λN hN=>?_) ?_
 .exact#[.ref wr,w,e,t,U9q,D,m,tb,Y,#[wr,Y,s4 _ _ hwr,hT.same s4],dm,hot,by lia,dW,λx p H5 s5 y fp hB=>hN _ _ #[x,p,Y,s5,fp,hB]]
 rintro y yR G H5 ⟨x,p,rfl,s5,fp,Em⟩;subst yR;have wp:w≠p:=λz=>by obtain⟨ks,lL,y⟩:=hT.same s4;rw[z,fp] at lL;cases lL
 refine aD (λG H6=>∃ v,G=[U (.ref a),U (.ref r),U (.ref c),U (.ref wr),U (.ref tp),U (.ref x),U (.ref v),O,O,O,O]/\ai H5 H6/\gk T H6 v te) (λN hN=>?_) ?_
 .exact#[tp,te,Y,El.same s5,hg,λv H6 s6 hv=>hN _ _ #[v,Y,s6,hv]]
 rintro y yR G H6 ⟨v,rfl,s6,Eo⟩;subst yR;have Ep:=s5.trans s6;have NX:=s4.trans Ep;refine aD (λG H7=>∃ fo,G=[U (.ref a),U (.ref r),U (.ref c),U (.ref wr),U (.ref tp),U (.ref x),U (.ref v),U (.ref fo),O,O,O]/\ai H6 H7/\vP U9q D t m tb te H7 fo) (λN hN=>?_) ?_
 .rfl';exact#[x,p,v,e,t,U9q,D,m,te,tb,Y,Em.same s6,dm,hot,by lia,Eo,hg,λz=>absurd hf z,λy=>#[λhs r z H' s' h1 h2=>hN _ _ #[r,Y,s',#[.inl #[hs,z,h1,h2]]],λhs r k zs H' s' h1 h2 h3=>hN _ _ #[r,Y,s',#[.inr (.inl #[hs,k,zs,h1,h2,h3])]],λhs hh r k zs H' s' h1 h2 h3=>hN _ _ #[r,Y,s',#[.inr (.inr (.inl #[hs,hh,k,zs,h1,h2,h3]))]],λhs r k1 k2 H' s' h1 h2 h3=>hN _ _ #[r,Y,s',#[.inr (.inr (.inr #[hs,k1,k2,h1,h2,h3]))]]]]
 rintro y yR G H7 ⟨fo,rfl,s7,NY⟩;subst yR;have sM:=NX.trans s7;have Er:=Em.same (s6.trans s7);have Es:fD H7 (.ref wr) w e t U9q D m tb:=#[wr,Y,sM _ _ hwr,hT.same sM]
 have NZ:=El.same (Ep.trans s7);have N0:=Eo.same s7;have hr7:=sM _ _ iN;have hc7:=sM _ _ rY;have hS7:=sM.seq Ek;clear sM NX Ep s7 s6 s5 s4 Em hwr hT El Eo iN rY Ek fp;refine aD (λG H8=>G=[U (.ref a),U (.ref r),U (.ref c),U (.ref wr),U (.ref tp),U (.ref x),U (.ref v),U (.ref fo),O,O,O]/\ai H7 H8) (λN hN=>?_) ?_
 .refine#[x,p,w,v,tp,fo,.ref wr,e,t,U9q,D,m,te,tb,Y,Er,Es,dm,hot,by lia,NZ,N0,hg,hf,NY,λH8 s8=>?_];exact hN _ _ #[Y,s8]
 rintro y yR G H8 ⟨rfl,s8⟩;subst yR;obtain⟨k1,k2,sw,xs,ys,ds,es,tS,N1,N3,N4,gd1,gd2,D1,D2⟩:=NY.kp;refine aD (λG H9=>∃ kr l1 l2,G=[U (.ref a),U (.ref r),U (.ref c),U (.ref wr),U (.ref tp),U (.ref x),U (.ref v),U (.ref fo),U (.ref kr),O,O]/\ai H7 H9/\H9 kr=U (.tup [.str sw,.ref l1,.ref l2])/\H9 l1=U (.lst xs)/\H9 l2=U (.lst ys)) (λN hN=>?_) ?_
 .rfl';exact#[fo,k1,k2,sw,xs,ys,Y,NV s8.fr N1,zr s8.fr N3,zr s8.fr N4,λkr l1 l2 H9 s9 h1 h2 h3=>hN _ _ #[kr,l1,l2,Y,s8.trans s9,h1,h2,h3]]
 clear s8;rintro y yR G H9 ⟨kr,l1,l2,rfl,s9,acX,acY,acZ⟩;subst yR;refine aD (λG ni=>∃ af x' p' w' lN m' bS,G=[U (.ref a),U (.ref r),U (.ref c),U (.ref wr),U (.ref tp),U (.ref x),U (.ref v),U (.ref fo),U (.ref kr),U (.ref af),O]/\mz [p] H9 ni/\ni af=U (.tup [.ref lN,.ref x'])/\fD ni (.ref lN) w' e t U9q D m' bS/\b6 T.aZ ni x' e t U9q D m' p' bS/\dE e t U9q D m'/\cj e t bS/\bS.length<=60) (λN hN=>?_) ?_
 .rfl';exact az (ak.of (s9 _ _ hr7)) Y #[a,x,p,w,c,.ref wr,ns,cs,e,t,U9q,D,m,f,tb,Y,s9.seq hS7,hn,Er.same s9,Es.same s9,dm,hot,jb,dW,s9 _ _ hc7,bf,hff,λaf x' p' w' lN m' bS ni zt h1 h2 h3 h4 h5 h6=>hN _ _ #[af,x',p',w',lN,m',bS,Y,zt,h1,h2,h3,h4,h5,h6]]
 rintro y yR G ni ⟨af,x',p',w',lN,m',bS,rfl,zt,haf,hW',N5,vT,N6,l60⟩;subst yR;have D9:xD H9 [p]:=by obtain⟨y,ks,lL,y⟩:=Er.same s9;exact IA lL
 have zu:=zt.fr D9;have F7:=s9.fr.trans zu;have Et:=N0.fr F7;have ac0:=NZ.tp (vX F7);have ac1:fD ni (.ref wr) w e t U9q D m tb:=by obtain⟨y,er,h1,ks,lL,hA⟩:=Es.same s9;cases er;exact#[wr,Y,zu _ (.tup _) (λy z=>nomatch z) h1,ks,zt _ _ (by simpa using wp) lL,hA.imp λy y y z=>z.fr zu]
 refine aD (λG Eu=>∃ bh,G=[U (.ref a),U (.ref r),U (.ref c),U (.ref wr),U (.ref tp),U (.ref x),U (.ref v),U (.ref fo),U (.ref kr),U (.ref af),U (.ref bh)]/\ai ni Eu/\vP U9q D t m' bS te Eu bh) (λN hN=>?_) ?_
 .rfl';exact az (ak.of haf) (v:=.ref x') Y #[x',p',v,e,t,U9q,D,m',te,bS,Y,N5,vT,N6,by lia,Et,hg,λz=>absurd hf z,λy=>#[λhs r z H' s' h1 h2=>hN _ _ #[r,Y,s',#[.inl #[hs,z,h1,h2]]],λhs r k zs H' s' h1 h2 h3=>hN _ _ #[r,Y,s',#[.inr (.inl #[hs,k,zs,h1,h2,h3])]],λhs hh r k zs H' s' h1 h2 h3=>hN _ _ #[r,Y,s',#[.inr (.inr (.inl #[hs,hh,k,zs,h1,h2,h3]))]],λhs r k1 k2 H' s' h1 h2 h3=>hN _ _ #[r,Y,s',#[.inr (.inr (.inr #[hs,k1,k2,h1,h2,h3]))]]]]
 rintro y yR G Eu ⟨bh,rfl,qi,ac2⟩;subst yR;refine aD (λG Ew=>G=[U (.ref a),U (.ref r),U (.ref c),U (.ref wr),U (.ref tp),U (.ref x),U (.ref v),U (.ref fo),U (.ref kr),U (.ref af),U (.ref bh)]/\ai ni Ew) (λN hN=>?_) ?_
 .refine az (ak.of (qi _ _ haf)) (v:=.ref lN) Y (az (ak.of (qi _ _ haf)) (v:=.ref x') Y #[x',p',w',v,tp,bh,.ref lN,e,t,U9q,D,m',te,bS,Y,N5.same qi,hW'.same qi,vT,N6,l60,ac0.same qi,Et.same qi,hg,hf,ac2,λEw sN=>?_]);exact hN _ _ #[Y,qi.trans sN]
 rintro y yR G Ew ⟨rfl,sN⟩;subst yR;have zv:=F7.trans sN.fr;have G12:=zu.trans sN.fr;rfl';refine#[fo,k1,k2,sw,xs,ys,Y,NV zv N1,zr zv N3,zr zv N4,λkr2 j1 j2 H13 zw h1 h2 h3=>?_];have zx:=zv.trans zw.fr;have Ex:=G12.trans zw.fr;refine TC (NW h1 h2 h3 (D1 _ _ (vX zx)) (D2 _ _ (vX zx))) (NW (Ex _ (.tup _) (λy z=>nomatch z) acX) (Ex _ (.lst _) (λy z=>nomatch z) acY) (Ex _ (.lst _) (λy z=>nomatch z) acZ) (D1 _ _ (vX zx)) (D2 _ _ (vX zx))) (acV tS gd1 gd2) (by decide) ?_;exact#[w,v,.ref wr,e,t,U9q,D,m,te,tb,Y,ac1.same (sN.trans zw),u0,d0,Et.same (sN.trans zw),hg,λH14 y=>q H14]
end
theorem ac3{K:adz}{h:afH}{mg:Str->Option adH}{x:Str}{n:Int}{t:Tok}(X:K.In h)(G9q:h.Ns ae5 mg)(z:al5 K ae5 x=U (U (.int n t))):∃ t,mg x=U (.int n t):=#[t,alQ X G9q z]
theorem fin{l:ajp}{w:aeS}{K:adz}{mg:Str->Option adH}{fa:adK}(hfa:mg "law" = U (.ref fa))(T:Tx K mg):∃ fd:afV,(∀ (s:adQ)(v:adH),akl s fd #[[v],[]] [("_law_script",v)])/\∀ base:afH,K.In base->base.Ns ae5 mg->cF l.prog w K mg base (dR l.prog w) 37 fa fd ["_law_script"] (pV K):=by cases hfa.symm.trans T.rP.m;exact#[_,T.rP.bt i6,λy y y=>YX acW T]
theorem walk{l:ajp}{q:aek}{loose:List Str}{XP:(Str->Option adH)->afH->Prop}{YP:aeS->afH->Prop}{d:DefRec}{K:Params->adz}(hn:l.most=U 63)(hdf:d.params.defaults=[])
 (hY:∀ (w:aeS) (h:afH),YP w h->(K w.params).In h)
 (F:∀ (w:aeS) (mg:Str->Option adH) (fa:adK) (h:afH),(K w.params).In h->h.Ns ae5 mg->mg d.name=U (.ref fa) ->
   ∃ fd:afV,(∀ (s:adQ) (u:adH),akl s fd #[[u],[]] [("_law_script",u)])/\∀ base:afH,(K w.params).In base->base.Ns ae5 mg->cF l.prog w (K w.params) mg base (dR l.prog w) 37 fa fd ["_law_script"] (pV (K w.params))) :
 alJ q loose XP YP l.row.toRowW d [] (λf vs=>PySem.call f vs) :=
 Gz.Si (k:=37) (x := "_law_script") (CX:=λw=>dR l.prog w) (sp:=λw=>pV (K w.params)) hn hdf #[Y,by decide,by decide] hY F (λy y a ns hl hS=>#[a,ns,Y,hS,hl,λy=>rfl]) λy y y y y z=>Qk z
end lF
set_option hygiene true
local macro_rules|`(tactic|walk_at "gzin")=>`(tactic|first | (show _ = _; k_is) | (refine' And.intro ?y7 ?y8; (case y7 => walk_at "gzin"); (case y8 => walk_at "gzin")))
local macro_rules|`(tactic|walk_at "f")=>`(tactic|(refine' Gz.Fb.mk ?y1 ?y2 ?y3 ?y4; (case y1 => first | (show _ = _; k_is) | (refine' ⟨?y5, ?y6⟩; (case y5 => k_is); (case y6 => k_is))); (case y2 => k_is); (case y3 => k_is); (case y4 => k_is)))
local macro_rules|`(tactic|walk_at "gzfi")=>`(tactic|(refine' Gz.Fb.mk ?y1 ?y2 ?y3 ?y4; (case y1 => walk_at "gzin"); (case y2 => k_is); (case y3 => k_is); (case y4 => k_is)))
local macro_rules|`(tactic|walk_at "x")=>`(tactic|(refine' Gz.XC.mk ?y1 ?y2 ?y3 ?y4 ?y5 ?y6; (case y1 => k_exc); (case y2 => k_is); (case y3 => k_is); (case y4 => k_is); (case y5 => k_is); (case y6 => k_is)))
local macro_rules|`(tactic|walk_at "gzic")=>`(tactic|first | exact Gz.pA.i | (refine' Gz.kB.i ?y9; (case y9 => (intro f h; first | exact h.1 | exact h.2 | exact h.2.1 | exact h.2.2.1 | exact h.2.2.2.1 | exact h.2.2.2.2.1 | exact h.2.2.2.2.2))))
local macro_rules|`(tactic|walk_at "gzem")=>`(tactic|(refine' Gz.QX ?y1 ?y2 ?y3 ?y4; (case y1 => k_is); (case y2 => k_is); (case y3 => k_is); (case y4 => k_is)))
local macro_rules|`(tactic|walk_at "gzgl")=>`(tactic|(refine' lF.ac3 (by assumption) (by assumption) ?y0; (case y0 => k_is)))
namespace PySem.W.Fast
def Z:=Nat
local macro_rules|`(command|#print $s:str)=>do
 let mut r:=Array.empty;let mut n:=0;let mut k:=0
 for c in s.getString.toList do
  n:=n*62+(c.toNat-48-c.toNat/65*7-c.toNat/97*6);k:=k+1
  if k%11=0 then
   let i:=Lean.mkIdent (.mkSimple s!"tw{n}");r:=r.push (←`(command|def $i:ident:=Z));n:=0
 return Lean.mkNullNode r
#print"1OPQ0qNV33a6SDUSj40SnUKb1XdtrxNcxKV5d2suo5V3Fcsz6G36nyr3DkWuvPvMcJ82PeSmlmwp2404bHMMOqgw2yuJwljUI3n9go76cXcN1M3UOHTz73R4OBwjgZfSeI5PENMe3pQ9JuU2OQhnaRU46f2sacKGePsXE64LpkJv5WFHLeJn9xKjk1X9vUWQJI5HOWDYclZ8U26zg8SDKFzvdvZY9rmTN1XNMI1IttR0AGJQmK188IuOuPQPU2OgMUQ6dw3K359o9A3d0nX1DtnyiXcS92IXiYZE4OGpt8ufDhJduUUc9Yf18PU6y0qBXMlowmLEfk8JLydDVLdGf6kSx9hh9P3Q8bV2PzcPovt4BuQUgOg94z1RPs1nEQaZQ86tOxHhdStR5fug3XjSG9T9fnNtKbXPVKI0BcxFFk8nqAkVJH3dOUXpDyBT6Zm8rr2IPQ4i0Olk6m53rk8VgNyN20K1ooHmRSqfCyPLQlEi5hc1m9xGmB3ei26CAoe5Q0rpLGpl0XeJo5VT149AanDoqzG174KGbZPNnW1e6hivEX82EJmlFLg4odqR5e0umVbzNgL6nIKycyP0kiIYVmsuH2EesIprRGAh6xpu6yOXuG6i3yE8mzsjfUVnZuB6DCInKCEcP8jgza6nlEHPGz162qFX9Cj8x5YU5lrTVL7KXVe6NYqMRJYzwB4kdC5XGOrab0RX8FhIjaMFSksRCxKdk2ZyO5AHL30lAdvWlflgGrJrV7yBQFQDFCwwNB7MqiFBM0ULNEXe7GolgxCIT6rWI7g97HbkQT5CUGb5XKz7YIHWWKLdHHO0d1oOqtf5wmC5IRcMfd3Ns3KBEK1YSmGHmmIAhpVM6e6yy1Qyzd9jYJ37EqkR1QGhAx15mskEpcpsYw4HIiJ7UhhWlIR6O7qxjsLoBN9gead5WRdBuSJhY7umkVGMLJQj6HrZsJGVrdlVSvBp41OMrOSTCOrFKcKV0yGXSWAlt0UJCTlyO7WVZaSxpv94AENaHEJeUcd9PCp5xOdI6v0kRvXTPuO8LENB42hljLqf3HmyFKZqGL6FTaV7ITB2ccDL2eeNYvpSEHqueSC8lzonFVz3EFXJoSjGbNcxhZCw5o2qhgMendirsJ3NP8ICfQauI0yYShsei7IJmEZDmMeBhXClVndaMNhYyAjvnf6F7gHvBw0QE6Y5VP49Bsao6bFchKAsjrIsYKLMcKmmosVuAW9X5JO9PK6VYGpIJzFQR2cZcbGdD5BSJLwqFGgwVJjtAmXAAmMEHd1mkxqF4HVDXt2Zfn4VdPZO3qtOR8mYHS8q99Bp64TMiUBJRYSFfFkK1sqJ8VHTWj0l9u6fe68475TV2PGfLLEaPcFqqfv86DaABGvpcZ3xvBWI21ZxwFCzHea51ZxZIy09yNpyufkArndtyC4lE5AUGK1WxsGW00dPxRYRDi0wDvpVR852QWsGrRXOijfuCM1K1vXlvd2ty2Z8rCBGyRnjEchuMTV8hlb8lAPXiK3i1kEYUbDAofHpAEOe3RMJqJhhL7d4wgGrU364CSj1gW3cs26myG4b0h9yY1YHHjuSNRP05O9JqLWoEfeBViNGGaiahB7twsoGXW5oE39fSckMaVdf5s34Q3uTWrvJuoSWPbgApMGM3rhiJyKYx2gcKJT4DRXmIYus67dz2n67WlcPIpIS2M4wvTu9my3jG4nlXZ9JEpEX2NJAnGlV1KFHWOJrROwdXb99E0ApdDsD1GQbjiXVuRnn0bBEtM60mL807SJQmfixiSJy6wHW3vsDyKLGwTDYcHu57dlCOdck7jS9vJH5lfaRWt93NbfzRZGt3HcLYwbeaHbYIzmxUtRZ20C2q89HO9AGydC3MGFTpk6HgAhwtxOcUXVz0EGSj4g9j5DKJmr1IxU2ccBL49VM5t1DLDwiW3VcAS56BjtXG7D4gIjDcBrbBsycGWGYuISOamPykCXAegPy7BhQE56Ep9riJWs5MD5wOhxm49FRADhjRTIypGMZR9vdOCsKIM5ImzBh8aM3h2POKg0bXdFi6JitOQrKu049fcwhB1QE5peC2tE4LoS4knKhpWvqGqI3EyKI6gRNL6wJkDBlA9BUEWP1DYZkXaB20HuzrIWt8UAmhEgdlokI1H0mtGk7nli46wPCiLTGZqPLIwgVVzoUarDbVVdc64Hlz9WPp2knVQxlLajMphNYrlM3qYMeTeobqd3GL2JIfPuIyFWPoUOuROmOEBuhrqGNBWT6Xg5RlQkcJXH2e5gZfNpf21WGnaMw3ae2Eu9TX6eZvjCIgxEcXm5OAx1BfGdxKRWgT5xCZ4A4MvSE8V12gNkxg7E82aLo6raVEZ5rNysYKdFBQKVniOo6751U5aVp7R3rFDX7pLfMOhn7AoD9pJ6AWoH4YE6f77n3DjJQLI9HJj4YiiKERc0BUHo5EUEwmdU0VpJh19e5PcAeXpp2B3863jOdBFT9FwBlmZzTm00znuD0W8ks337I9HKjd9Dh4hM7Tkl1UJe5csKeUTrgtO91qBR0lPKNC3zkLBdJrVK7GPGeA26tjL1FhB6oy5rIqP02twuVCbmNp4tZHPR5uIcVGRNjGQbNPM712Pvx7n4EyfFmAjqGT5GP4ITBZb6lmV6o9112SLzpuYr5VtAOehj5qyBt0U3tyqNDzCV2MsYgXUNAKm1anX1MVUzG5dC8GHYp5uKF13HYVqU1cAXOHcfS1kYkG3FdE5c7QHZ40cLdB8X7mcFSmvS0ozWC1A1HQDHR7rKPLstierAa7ge4Rm2fUMnhunEUh65AYA9LK4A9piwQSeuNEZA2n11Ore3E0kyAsJhDhi0wVInj6S7wNBGG0hf5ny0OKnJodViiQVN8dpXsylBJ4CGcHhwa3Mi3W9syAxGkWrgLCRhFLeZPpYv1hPEovi6RV8BpcIk2FECxe2cuokvOLZYWBVIFCU7JmBH9M9jBg3rT8d0edl5ofnEJCAAiyTAE3FKWL9sgNl0ffyxB7YsDdeMX022i5QkBmXLcOCUXmNFBtGN9Fjq6jKSqGx410QtWDgglWLHTUeaIaZrFd0u9k1W0VZKf42v0xMI9hh100f3S11G7vcK5egqqP1qVYCs046keJfUk6ZaN5n9KNxE28Jxjv4dmmDJXSWK2mFHm15AksJZxL0ef9s0VTmr904Z5uQqGMLWMyQC1xFnRJmRDQIBONrIxkORL1EJ3Ha98S6J8EQZt4UAvlWJr2v7u1XOTpGfWcWnnY8U34kFP2EgjPV8LOIxaLgwl9uABzyuenDhc5GXOUH7rq8MqGpNabVKyiBv145xWCSU0qBKU4bYVdrEJQC0fFKfl0LEfBFHhn1TmaER8aQOtFYsoPMIlmF9ICWH2sBBG4RRRpZqo6gZykuQTMTzFLgB0hJ1fQb0vFIy47PRVg3aIA5w2Xdb5JmuL3UZq1Ol0jYIMX1jY1108JSqSxOxnb4ktcDcUmRmo0hr8rMlFYk359xkia4oN4kLWY6q1j7TLFIoGg9mRHyJlABNUDceZkoi5HIrMgtMWnv7RsFWrx2feAB1d5lt4RpXd7NjOQNNZ9IZKGtg9lGTF4EKaXjx4qIiATFvaMdKjLrLP57cLATG2gnwGvQaruPvUpdC8SgV7kQ4o9ApW2oXds1riGDs4r9GIauJ5bvMBMdR8C6HsPXJqoTA1z1CKZkZHWtlmEGyFmwXNi9J1gRlRy9ALpy6HvOZTZzoig1VOB0DT0ADP9wriIYEQwiD1i3IWMgdlpwDIKo8hlFxVf1Y0I3kAxqjt7Z6qcgB6Plz4hxGyODIvkN5kcVaL69xy41VcBOfKohTELm39aX3wDiIGcktNBImMuQ8HMHdvm3LncFM9R84WiKGL7ULjEWIoIqJ9EKxoNvCwMJGMaZWHfxNJH8MHnVCSVbQP1g6kBXXvgF78zctulIiPuHKF6tBy6tUMPJ2r3Zn25PaiItaGdtOyL2d765AMXwX7QVJYixrHHqGiJKzk7VhHxjA01ZSd1YuYXCG2vPyztE5ERc5OkyBJp0xSuID6O6EDVR2Y85i8TK9gmJd5j6anSdFXB9HaUQuUDLWaqEUfEKUHx38mCMp7jx83ZF9EOzFi3k2bp241mr5VTvdccAjhJxVKHE2wD8NzljRaNMKJAN3QyMi2sT0Sa2CBLaesQ5g94WlB60kQ1DmmCjQgDlJHPRKEno1BaZHSWDsM7Q59B0kcjMnVq3XcGWl38Az2bi7I1RmlahYnzVDp8C88SxrFuIHNje06mayvEE37JgMe9gdHobb8L1v1ifIGcBke4qAgQLMAZR926c1WFXGnAQpEbwxGnS3zMIIik9BtagTYGtYfxJIVxRGmCUaN5VMi9IhtCEg4cuFNRKczJa5FbvrvVAUTo9MqnJjXCTeoLaBdbq5pMn9Ad4GqID8RzP9IIr4rKDf3P4hbUeH0mYBFEQ2jwIvo6SFBv4XohaDv09KtqeA8xBkVOBG5UndbJog78mJzmqQlOLTIFV59BNy91fLCZdQK78DugF4lPJcdtG7r2Fq00FtBykS71L1KR8fjUH8NLB3R0TRquA8KqEvxyY9hGD19fnoE9UfJhQScJXnUBn6VuZqgpAPhzDmkf1hGb5oe6JNRbrVv2y41OE3iPmYFeNHB9KzvHujRX3F2v8mTfZ8S8DgoXl1LPYhEDgcDv1ni0X8LFxDEGO5ZV2siAXmsVgaO11QFs2ukdyqKqKaEF389Fi4j7cPOS3cQ3K6fTXZ0Goq82HqfNA2Awg59gkr3eOaHDF2F2DIYTNu0A4s3fIRMqKI46ftnE8tpi1t3jkcy8jrURrJrPYTGj7qFjIKYgbutdFYI74lWHw4vCEXCfIq8H6bjDn2Ah4MES10vTEVCx9KzrDF0Hog3CmEO9JQ4qxskKxs39G3pzlugw4E1R5plDJcMMQhuJtS4qetehZA4a3pavto475KBwmcwFmvgXIf4VGGQ4gG3Jmx1AeAWUhI2N4ivAqgjZ2D9xfAvqwnTh0sPFCmL4aGN6Od6fEvFZud49oY5KqwwYO5OXKeLHTPZd076B7Uf5fv04RPtTrCMSEB77PIAeGWONWDlyedxJGBrqJEwbVtM59qjIDKwmXCiUjS9oGvoXG5c8uBE1orikkkb23Xd0EYl6cDWC93OnVDg97VCOj5U2Xdrcf0fOavmjeglt7zDLEQa8qHY1tAWshOeJe518UkeIKuUIIDbnjUUFdH84Go5GJuBGymjIVfFAAY5tcr8GzZrpqRtsNEn4xb7CS53m1Vs3CC8AhtsL3tiVTyWmJlDShH5hCElAdCj6YdCAPNBK08AVbfXQgc61WEmg1JYHY0AbeT6xltuVk3ucM7ptOWDUBdswi05pjI14A6cZoxeQFx3fL5GvcdYSkGo82cReRgtMJsNxYGZlX5n9HswJcDYbpn4R04P61xEdz5WyAAJ59JkBKjfVWq70z4dG4DnITcnanL4FFaeTlVpk3KfopRPB7WvpDG1kd2758Xb7cEQUo1eZ4t9Q2nQgvkLHwDcRtMv3AV3dLd4GrT61nTx7yyMtF7Dfa8HaqlBRMav5sESY4botKmeqFUzdxuCWqfq3vCBcdysvYN8eIZLNmB83ZAxuxl2JWVqgEFe7fteZDuLEMmku4x60GUHQfrlK0wMBcHFXG8vJlak5HyuvKGiaUDbGZdZUWfc74mI5hVd3emDA8BmDmDBXs62YGFh9rjUnqeoH32OoIvLN87H2Rxocheyc4I3WaHPV3qXKCspr08CT1tWH6XBHErmQANJu4vNDcvndyH7Sq79UiMG6JtBTLLmQiJDA4EfRSE35KCHBruREaPv7P2olwtv3pxOGF9becqqW9yrCuvsx0IUjnoIsKvVng3sak53fXQj2BqFS65rHEqT6l5l3v6pVuVTvygISQLKKRJ58VKCCAxa7CrMX3AvuJlb54zi5dNXcVrqYXH55U3hXQ992hJOHj9rzwfhSAHIQJ4uHE9L4CDKrWyuhwM2oqDxEkvgPE1VCFmNWFxcU6bm2FPxyIhnEahgo9BonkI9yhy77QQSk7GiS5pMteZbp4OOi1jYDaZcBPRYnKtrVRmGTCUk5KGZ8kEjZTPWh6w4W6O8h3FwjN28KZ0JRUQMeXQFDzQTIOiYEB1owSsuFn1SX70Yalj8zWZjBiX4k1pnCazJHsoY1u52IM8gvaneYQBvbEQSNfwX1iYR6rOJaHbEEmEL8OzGnCeevQ2cQAfEjCXU98BjzOrhLYUaAtNzoIce2KzGloPPlPHUROJrl28pDnIUG6ekKOd57olNHOt9MqflcfS7hqKy0Ym8IrHNJREvI81UHJq1IEW7gMIVLy59VMEuZzgHRzLUR4xl8p7s2kKw270yqETHW9lPG4qxK23Kc9ISu0vAfTOSG64l7yGn258bY65gb7RDjpkRwDPPAZkiqNbSSmcKlHK8dhuQSAFg6SeZIACg30MYskYZLnxX3mZsqDjqAN6Kg4omndC9FY5yFqVf4eH4X3p6ldKXW7YB1zbLP3S7VSSGb4AzYNWX6W90Yr8v8E2aYDM8FbO21YqTEBKYxgsG74AJwoO9LQo5E23aj3FnidLo44Ljh5JdfWSzL12HeiuIY3X1FGJRNv20JF3HonWCzN2hYBHHDzxuwG038Yftz9F4zpBELqgNMQwrjHIHai1fKwTyNL7LsZFXziq3Kh7nrfqnf488W6DwWTasg20ohu9L6ZzCK9OKUbjxVgJaACQeG0tbAkiKNdmmqLplk3Dt0MwNfnwlc373PI4M22Ob583jPCyUBbKDrVMmRSjer8GtfsWJGL0iK4t2ouamowOOHnpzVKTXJw12rFc1tTmnq7AOM1TuwOBLfD8fplYDzwlK5RMqL4sVtG251rDnX3nFzUJUtgNvN1Fe23bi5qOlk1EdHKGiMsOL7DPAJIKdemDXuo9fGbMskLmho8nlZFtX33gy5EP2oS1XnvGB62dM3ffHJYIlN32WsosFRAGRF8JEqaSXDIpnkCUM6QV8zUoTuYHfYi103zOMg0h3j2GOF0vHKyAZ1OnJYhKauMs48oW1psTEcZ6lpvdYM5htB0HqjIfr0xilLIOD8DBt9hBKcz3ss2x5KTEp01IeCsur12kZ2SCVQhAzAneGCdYWkWeIIl9CQ5WbY768jCqfzP0tq6hfT0acukyCDRbxVcpCcHe3o5oaffmTWyBaBodcntl9VLRsECrr0kr70YJNr0ohPukHndIiLVUy9LL5EycoP67bCAeu2FXnAmEY2CjMETFFqH9DHyGaaB3Yfu6FdG78adsxeLkSaVzpCdc92EMn3vJeG209aSYsosGa7dFsOsH3xODVH2uBA2iHjrSJEuv4e6FYQVr7553mbJ2oyHB2xYjRagpEn6MZdOLdkxsO90LC6le8XXOAd83v4FjsLTLHT36lvKpYcAvAIOOy2b10Cz55BaNZG0jILb2kPgxakf355Pf2l6Txw6xA2hGEnfEm9zKwkOB667YD8iorsjwKiG159rwlVgvpk51NyEoYUZLZLc7ti1EKiKBGjZboqXG2fs4GqqR9jNxru30dshqa0ua9ExOOn98n44c2QqOKk6Oq705FGInEMPdy9LBmzLkUpNAsAEpezpb49T0AYkLWrMHTeSLCdY4RywZCeIvrlwMCMRrQIszSVp2QEoo72KCO6V1jua7uNRh23LHFeE6jY3t7PKlvKTMYfBEcoe9KrEQlqQcRY7C7IdvtNd8cL1Hw22k1T1I66uie7fQf7dWIwptiOrZUoB3SBX2niy8guE95ykui1pkR2DzwrDlZ26S3CpTuUr1mv6DyotpoGfulN55wYWuMku2u4CcHFjS8EhXBGOyChafhPy7ftcNAnJIqvA3qJvos7lr13NjSQJYnCmzLmdT7IQkQbWDprY7N1tMuqIm2Ezg8IOK83HM3zgLNpaODyZZSl29zhK5tcrLV2lH6r9FERCsRc3UfAN4EABGh1ln3Go7DUjkHTW3vpBD4KX7Gs1PzVg1p45jK9gutqI1AfkT9XRGxf7kJnl6RIe4VH2z6fAkVIQ8Jy4bxJw00p5jFppEFsxjyq6UmhX8cg0TWDZnIf1alXKtB1V7p5HV00sRbNKP897mxmWlu1X2a5xFOAzkAPIolBFw5vBW6EeGe7HK2PwM3cRuyQUf66v6wAxzLKj0UGFR6aisFZMj3AFGmhTud6kgFA4aGGXMxsZH2g4E8fMRBfCPt3hBPzyOQAgkfBvmyYYoAtBI1fxR2o06uokYyzspp7IYUdureTN5T1Kgi6r7s6Hr2tTA5FDOXyDDWydKe9v3fX4WIDR3fW5DRG8JUEqt4Nxz34iX5uA0pp96lrvQGLKFos0narZ5jdvHiFyu7GDN3b416BjBeoWdiAIF2kZJ6q2Ob626azZ2YD21dAf6rFLeb86Q1ZXW0UR2gzEDcHYgdm7HpL6Ajy4N9TdfhI5RA6z6S4QY7wdphVI2Z4yJy9YXfY4Cj1Dtzbjh9vm9eC2X1s6pDjHpIs68tKWSWEOLS4VtQZC4Ht6Cwv9yMOrAB7EQ76sYlN2AEgoBvLbeeCX2h630glpMTdCNeSLvLm4I4H5PCviuPE9ML9YKpGY9ltjLSPbKqWnnOkGE9xSxtn8upCclrQZGrSM2EK62Nt3hxILHhZlGl8Xb31EngM39l84zb9DBqmdHgtag1glRvpQfRfYJ5wuGftYjOyA4Ng7b4PAfdDsQyvbVH7PO8KAPw6rW9lPB8nXjrZOX1p9O5p2jOjtrzEL8LthVbYGm2yGpI7kxfYF8cRrdym5HMF8aHliN1iLIk6TO9ADddOWMCapDxgN7Ujb8JLb62k7QO37JTCvWjmFoSBPhlCiyH5EV51f4Qm0yCBG7NQORFQQJgc1YeE8nojoi7Eykxuf8bA0o7JpZwnQgSHL1RGcuH1VG1aISzccl2PxcMHA4c3UnizCp459BM7T4ohc72jBXTXuJKsI4nKM5SFGWD7j5dBkzFeIZIOAn3ijXfxbB32X8NOJv7wDPTIBW5nLyD8TM7xxRLzPVAUQLsAvo4GFIWLxD9JdTgLKWZTqC3jxSbF6une2gMewXFLI52wkMB0n4BEdrZkLUPO3W5cevWENlLGxEjtDvudnJ3lgHwapQfmdFTe8Qszqrov1tLsvTsCBAGAqA1jawsTaW6dWAkD0QU9OKXYMd2AJIp0LDcDR0IhukJC5gnMbn5TCs7FWdMv7GXky0hJMdXwPN7v8Jyi9mpJ9Tk2keNgdQXG7BF4DhGCuB9xGGxBT7SEc4ktJsrlrrJg2wgEvERYwM4P3o6uZUHIFllRP2Wj9dQ46zNqBuXK4wuxRGO8ie5SdlaqQR5TMXxDMgoL0KMZejHK0v9298dCImgH2HpF2tvKtwo4xd0IRoAwtma5QDkSZVKlXhdk2TqFwNQbk3kLqdkg9szs7YCQboM7Uzpju7I0S8X9ifMD44rnE2eHvWe90IdFF3c7dH3YgQI0HPdre0ViRc7hR53JDjTh75eoTN3Jdt6foTgdfh3Wlsg6AER7x9kaJN6kdHK8Gc3qd9Yy7t5HVaLYyXynAtKPInd3LctiT3FkevuihD0oBe4TXKE2d3726M2o16IS8VKGctWpsMPlq8BXz26R4wwp3lI7bHo9yc99t1BWHadJMJ5IzKs0klnQQ9N2bdXcLPr9DFKazxL4KuTAwtlzVMcvS0HcyG2K8pCK0JXfNAuzWlMNDSpccWKiaDCBspi7hf2Dpa5mfoElSSqPe4yJ9IFU8eRd2A2bzdToR2JBN2o8xzpmwf421f0anPkJg9CprZUoGgYJDYg4Cz9Tqqb4X2PX502AM4LAgeCJJl5RcFk7yTVARU9VKxWoXFvGtlS8YZ9E0t4S0DDj4zuIlS2Kw6q5j9MUoU3IKByxrGfUuYIAAjmPq0IdZXAFQ7tOhtbxYBoQRO40nHJlL32dbMxhtT4GRuOzEh8ZC8HSh9kc5YMed9G9GmYeUe5IIjzWzInA3pUCebMv2dQgmFIGMOVpP2anh4OAo6P36I5B6oGHx9tKQWhKECTCOGBt0a2KgAxe3pIiz3kwJ2goTfeM8vK1SurCI3z4ZND5h4YKmJGlLzeAMaG2C5XxKOfTVddhCFGnXK2ZjgADk5gfW4i2NzGXSkEdMLH2AGIT64MUUz8G4L08UGlJH3T5HXHm6yd0lyE8zxmHhGYm12rhydGcuudt7V8Wd92gf2iLU6o1Je1VX78BzcmJnNGHu9WIxBBTSaGL9gvE2Y4w55i9mOOyZg7RI6CWqrSy1zSfy27XW4dW5RU2IvIXTqWEdm66WyYOK7RNaoCL5ePgVdPfa1nYfeBvkMRUF5qCp9sl2zZ9lgn5r7fblF5YJ2xilDq4z3NLvCv6SPcvCgczpjKd7NH0sQRCZolSKL4ZcrAVBtKFaICM1aQuQME5Iwos1pIdMaN3BVGIu3qs3XJVSZNarLm809D8z2ju3XyHJdnDOlxEvJQ2eXVYCPPCG62fis3iN6xgwFbKNcVEllBzJzGCOvM4LHcKereSQUBGOZ7toQFfninaY4IySILt8QPhI7BJ50AvHZo7kRBzJEHgnP1nharTayyvsL9QGHd5BXEbLxnppo26o125SZGlTGskGB5CPuLLjWKKxD4uPHDeh200AOba6UL3GAMLGxXngbHJbuIPYqMmPHq5L4U66YHdBBPp297QjunFeGv94J7az8ZzMk39fMXDZ2x6l5v0PpRKG4YU3RVegv0aj6y8TaNggG8EAVLtloZ5y9xBU1RAACdxlDsWLgbpCyKRGw5HI4qMA8tGoqLxl96q5NFsxBVy5NkaKJ3v4eO2fxO44pRDQPtpBE2SZQEbx4TDZghg7G4KwyaRGv81J1dN7X3SWMcIdiSkUXFftP1cJ7eFO3olP32gNIGSUWxi0CxC7mcCADhHfzHiI8BPwS4uP2Ul96G3MAtq1GwoRjruDx4TsHcnwrv4if9yQrdWPFCIvBBQgmdWPIaKX4JPaR2zJAJ5s0HDfUN3IwOYzRF6TqIHHTfIcAvCwJyRrwHcp9YA4WI9bqROBZZ6uyNkbltig0Ah9aI9S8Fo94tWpHmRXvOdJmseWencg4VKSDwUtekz9e8q0ciAPVXHn1qVDdX8e3cfJUlPGZYSiGXDbFnZKVvMZe0lSnHIzlGvmLS6VgOpz09GLGehMiMqZKi36L9Vb4p03p9u8gEv8XqMIH9HRtHGMHYa2N9QsCyLjvZ"
end PySem.W.Fast
open PySem PySem.W PyProof.Rows
set_option maxRecDepth 100000 in
set_option maxHeartbeats 0 in
theorem PySem.Challenge.cw_gaze_k64_whole_verdicts_holds : PySem.Challenge.rw_gaze_k64_whole_verdicts.Holds := by
 w_on;o_law;k_head;(case hw=>w_witness2)
 k_fill
 refine lF.walk (l:=PySem.Challenge.rw_gaze_k64_whole_verdicts) Y Y (λw h Y9q=>PySem.W.kIn_of Y9q) ?F
 case F =>
  intro w mg fa h KX G9q hmg;refine' lF.fin hmg (lF.Tx.mk ..)
  rotate_left 19
  iterate 19 (refine' PySem.W.mg_of (by assumption) (by assumption) ?_; k_is)
  iterate 64 (refine' Gz.BS.c ?_ (by assumption) (by assumption); walk_at "f")
  iterate 41 (refine' Gz.pA.c ?_; walk_at "f")
  iterate 6 (refine' Gz.kB.c ?_; walk_at "gzfi")
  iterate 18 (refine' PySem.W.mg_none_of (by assumption) (by assumption) ?_; k_is)
  iterate 13 (refine' L2.cg.mk ?_ ?_ ?_ ?_ <;> k_is)
  iterate 32 (show _ = _; k_is)
  iterate 12 (refine' Gz.WJ ?_ ?_ ?_; k_is; walk_at "gzic"; k_is)
  iterate 57 (refine' Gz.WI ?_; walk_at "gzic")
  (refine' Gz.WK ?_ ?_ ?_; k_is; k_is; refine' Gz.kB.j ?_; intro f h; first | exact h.1 | exact h.2 | exact h.2.1 | exact h.2.2.1 | exact h.2.2.2.1 | exact h.2.2.2.2.1 | exact h.2.2.2.2.2)
  iterate 5 walk_at "x"
  walk_at "gzem"
  iterate 2 kit_is
  iterate 4 walk_at "gzgl"
#print axioms PySem.Challenge.cw_gaze_k64_whole_verdicts_holds
