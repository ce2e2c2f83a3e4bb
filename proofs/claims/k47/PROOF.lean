import PyProof.Rows.All
import Wide.All
import OpenK.AllK
import Wide.FinOn
import Lean
import PyProof.EqAt
import PyProof.EqKinds
import PyProof.TupleCall
import KE.KSortAsk
import KE.KSortTup
import KE.KRevIter
import KE.LcSums
import KE.KDictSum
import KE.KDictList
import PyProof.AttrMissHeap
import PySem.Challenge.RW_gaze_k47_whole_the_truth_stays_in
set_option Elab.async false
set_option linter.all false
set_option maxRecDepth 100000
set_option maxHeartbeats 4000000
set_option exponentiation.threshold 2000
open PySem renaming wpAny_bind → acR, wpAny_pure → acX, Value → acY, Shared → acZ, mainGlobals → ac4, Addr → ac6, wpAny → adg, Program → ado, lookup_relabel_local → adt, sizeLine → adz, starEach → adC, wpAny_mono → adJ, World → adM, Around → adQ, codeAny_builtin → adV, wpAny_holding → adZ, bootBuiltins → ad3, wpAny_seqItems → ad6, wpAny_newObj_type → ad8, wpAny_truthy_bool → aed, wpAny_call_entry → aee, wpAny_callSpecial?_slot → aei, wpAny_updateSeq → aej, sizeLine_eq → aen, plainId_quiet → aep, wpAny_tryCatch → aet, intItems → aex, Heap → aeA, wpAny_letGo → aeD, wpAny_Call_Name_kw → aeJ, compareOp → aeO, wpAny_setField_rec → aeU, Expr → aeY, wpAny_field → ae0, wpAny_typeNameOfWhole_keyiter → ae6, pyNext → ae7, letOwnedTupleGo → afe, mem_of_lookup → afg, argBest → afh, sysModules → afp, Stmt → afr, behindInMarks → afs, FuncData → afu, wpAny_attempt → afw, compEnvC → afD, backTo → afE, wpAny_pyIter_list → afF, codeAny → afG, Builtin → afH, wpAny_comprehension_free → afI, wpAny_typeNameOf_keyiter → afJ, wpAny_isInstance → afT, wpAny_nextOf_list_item → afX, builtinLookup_eq_fast → af4, foldedSetIterable → af7, attributeBase → af9, SetTable → agd, rawInt → agf, seqItems? → agj, updateSeq → agk, PyData → agl, wpAny_fieldsOf → agn, binaryOp → ags, wpAny_askSetting → agw, sliceBounds → agy, codeAny_mono → agC, wpAny_rule → agD, wpAny_passesOwn → agE, DictEntry → agH, wpAny_newList → agJ, wpAny_ite_split → agK, codeAny_compStart_list → agL, intKind → agP, list_append → agU, richCompare → agV, wpAny_dictEntries → agZ, wpAny_setState_of → ag1, wpAny_newTuple → ag3, newFunctionEnv → ag4, wpAny_setField → ag5, wpAny_isOneOf_keyiter → ahd, Scope → ahg, wpAny_pyIter_zip → ahk, wpAny_of_eq → aht, intItems_at → ahu, wpAny_specialOf → ahz, typeLookup_type → ahA, wpAny_setEntries_of → ahB, Result → ahG, tupleKind_room_in1 → ahJ, hashInt → ahL, wpAny_letOwnedTupleGo_zip → ahP, firstArgMember → ahR, isSubtype_stop → ahS, tupleKind → ahZ, assignEach → ah1, wpAny_getItem_list_slice → ah4, wpAny_pyIter_enum → ah7, wpAny_pyIter_slot → ah8, keywordEach → aif, NameKind → aih, wpAny_onRaise → aim, wpAny_eqBool_int → aip, checkBuiltinCall → aiq, wpAny_pyNext_range_end → aiz, wpAny_pyIter_rangeiter → aiA, numAt → aiE, codeAny_compLoop_tests → aiF, wpAny_pyNext_enum_item → aiG, wpAny_isTrue_Compare1 → aiN, wpAny_execs_nil → aiO, swapsWith → aiP, argsOk → aiW, wpAny_pyNext_enum_end → ai4, wpAny_dictEpoch → ai6, size_of_entries → ai7, wpAny_nextOf_list_end → ajb, wpAny_call → aji, call_meets → ajj, codeAny_call_builtin → ajn, wpAny_newFunctionEnv → ajp, wpAny_pyIter_revIter → ajq, wpAny_pyIter_keyiter → ajs, isSubtype_type → ajx, IsRangeIter → ajA, call_enumerate_list → ajD, GenState → ajH, wpAny_standAt → ajK, wpAny_pyIter_tuple → ajL, wpAny_pyIter_range → ajM, cLine → ajN, evalPart_none → ajO, eval_ListComp → ajP, wpAny_tupleItemsOf → ajU, builtinsNs → ajZ, Keyword → aj2, typeLookup → aj3, valueAt → aj8, Within → akf, seqIndex_neg → akj, wpAny_execs_cons → akn, backToKw → akB, setField → akD, isTrue → akF, getMethod → akG, BindsTo → akH, getItem → akI, seqIndex_of → akJ, slicePick → akL, callerA → akM, newList → akT, notedBy → akW, codeAny_of_tree → ak1, wpAny_Name → ak9, typeIs_int → ala, checkCount → alb, closureFor → alc, setsByText → alf, CmpOp → ali, standAt → alj, entryFor → alm, compPost → aln, newTuple → alq, Paired → alw, pyIter → alx, lastMarks → aly, IsZip → alz, atKey → alC, Fin → alD, pickOrder → alJ, bindL → alP, bindC → alQ, setNext → alR, Addr → alU
open PySem.W renaming Frag → acS, nsIn → ac5, mg_of → ac7, findIn → adA, mg_none_of → adW, kia_one → aeL, emptyDict → aeP, kitOne → aeT, instObj → afd, fnOf → afv, keepIn → afz, isFn → afN, mroIn → aga, plainGet → agt, hasDictIn → agQ, codeIn → ag2, plainGet_of → ahr, callWith_K → ahH, lookIn → ahM, methodObj → ah0, plainOver → ah2, kas_sort → aiu, kas_item → aiv, kat_snds → aiw, cellsFrom_some → aiB, hideAll → aiL, takerIn → aiQ, makesIn → aiR, methodCall_KW → aiT, kas_ask → ai2, kat_run → ai3, OpenLaw → ai5, KdlSrc → ajw, hideAll_get → ajz, of_hideAll → ajG, excIn → ajX, kitx_list → aj0, kitx_dict → aj1, handedIn → ako, kat_kind → aks, kitMeta → akN, KatTups → akP, kat_lt → ak6, WalkO → alp
open PySem.Heap renaming get?_push_of_some → acT, lt_size → ac0, get?_update_other → ac2, get?_push_size → ac3, get?_update_self → adG, size_push → ad0, size_update → air, ExtBut → akX, IsList → ak0
open List renaming getD_eq_getElem?_getD → acU, length_map → acV, getElem?_eq_getElem → acW, mem_append_right → ac1, mem_cons → ac9, size_toArray → ada, getElem?_eq_some_iff → ade, mem_map → adf, length_singleton → adh, getElem?_map → adi, length_append → adj, mem_of_getElem? → adl, mem_append → adm, map_cons → adq, length_range → ads, range → adx, mem_singleton → ady, nil_append → adB, mem_append_left → adD, mem_cons_of_mem → adL, find?_cons → adN, mem_filter → adS, getElem?_range → adX, mem_range → adY, all_eq_true → ad1, replicate → ad4, getElem?_append_left → ad5, length_filter_le → ad7, length_cons → ad9, map_append → aea, toArray → aeh, length_replicate → aek, getElem?_eq_none → ael, getElem?_append_right → aem, any_cons → aeo, nodup_cons → aer, any_eq_true → aes, drop_eq_getElem_cons → aeu, filterMap_cons → aeB, length_reverse → aeC, mem_iff_getElem? → aeG, length_eq_zero_iff → aeI, take_succ → aeM, take_append_drop → aeR, lookup_cons → aeV, not_mem_nil → aeW, take_length → aeX, map_congr_left → aeZ, map_map → ae1, mem_cons_self → ae2, pairwise_cons → ae4, filter_cons → ae5, getElem?_replicate → ae8, getElem?_cons_succ → afa, append_assoc → afc, mem_filterMap → aft, getElem?_reverse → afx, pairwise_iff_getElem → afA, ext_getElem? → afK, length_erase_of_mem → afL, getElem_of_mem → afR, length_pos_of_mem → afY, any_append → af1, any_eq_false → af8, pairwise_append → agh, mem_erase_of_ne → agi, lookup → agx, length_nil → agI, take_of_length_le → agM, drop_of_length_le → agN, reverse_cons → agT, push_toArray → agW, nodup_nil → ag6, map_nil → ahb, length_take → ahh, length_drop → ahi, ext_getElem → ahj, getElem_mem → ahm, foldl_cons → ahv, filter_eq_self → ahw, toList_toArray → ahC, forIn_nil → ahO, mem_drop_iff_getElem → ahV, mem_take_iff_getElem → ahW, findIdx?_eq_none_iff → ahX, foldl_append → ah9, eq_of_mem_replicate → aic, all_cons → aij, map_snd_zip → ait, getElem?_set_self → aiy, drop_eq_nil_of_le → aiH, append_nil → aiS, of_mem_zip → aiU, forIn_cons → aiZ, getElem?_toArray → ai9, all_map → aja, range_succ → ajc, map_id' → ajg, contains_iff_mem → ajh, getElem?_set_ne → ajl, mem_iff_getElem → ajo, length_pos_iff → ajC, filter_sublist → ajE, contains_cons → ajS, getElem?_drop → ajW, all_eq_false → aka, nodup_append → akd, reverse_perm → ake, drop_length → akt, zipIdx_cons → akv, perm_middle → akw, nodup_range → aky, map_reverse → akz, mem_reverse → akA, length_set → akK, zipIdx_nil → akZ, getD → ak3, all_append → ak4, findIdx? → als
open Nat renaming le_refl → ac8, le_trans → adb, lt_of_lt_of_le → adn, ne_of_lt → adp, zero_le → adw, ne_of_gt → aec, lt_of_le_of_lt → aeg, lt_irrefl → aeN, not_lt_zero → af2, lt_succ_of_lt → age, lt_succ_self → agu, le_succ → agS, le_of_lt_succ → ag0, le_of_lt → ag8, pow_le_pow_right → ahp, sub_self → ahK, mod_lt → ajk, add_sub_cancel → ajV, le_succ_of_le → aj9, lt_trichotomy → akb, le_of_eq → akh, add_comm → akm, le_of_not_lt → akq, succ_ne_self → akx, add_zero → alE, lt_trans → alF, pow_succ → alH, zero_add → alK
open Bool renaming false_eq_true → adk, false_ne_true → adu, and_eq_true → aeH, eq_iff_iff → aff, or_eq_true → af0, eq_false_iff → agX, and_self → ail, true_and → aio, false_and → aju, not_true → ajT, not_eq_true' → aj5, not_false → ak7, or_false → alk, and_true → alo
open Or renaming inl → adv, inr → aiV
open PySem.Around renaming under_plainId → adE, under → aki
open PySem.Obj renaming mapSeq → adF, mapFields → agc, data_mapFields → ajR, putSet → ale
open PySem.F renaming plain_min_loop → adH, plainAttrs_list → aeq, plain_max_loop → aev, slot_list_append → aey, type_list_append → aez, entry_min_loop → aeK, slot_dict_keyiterator_next → aeS, slot_enumerate_next → afm, plain_extend_loop → afC, entry_max_loop → afV, slot_zip_next → af3, args_list_append_2 → agg, args_dict_keyiterator_next_1 → agm, entry_list_append → agz, entry_dict_keyiterator_next → agB, slot_list_append → agG, args_enumerate_next_1 → ahn, entry_enumerate_next → ahq, excBase_ValueError → ahE, entry_extend_loop → ahY, args_zip_next_1 → ain, slot_dict_iter → aiI, entry_zip_next → aiJ, slot_dict_len → ai8, plain_set_new → ajd, slot_tuple_lt → ajf, plain_min → aj6, entry_min → aj7, kind_min → akr, slot_set_iter → ak2
open PySem.Value renaming ref → adI, bool → afo, type → af6, isInt → agO, str → ajF, float → akE, isStrOf → alh, bytes → alN
open PySem.PassesOwn renaming never → adK
open Option renaming map_eq_some_iff → adO, isSome_iff_exists → ae3, isNone → afS, getD_some → ahl, ne_none_iff_exists' → ahF, isNone_iff_eq_none → ahT, isSome_some → ajQ, getD_none → akp
open Ne renaming symm → adP
open Array renaming getElem?_eq_getElem → adR, length_toList → afO, getElem?_eq_none → afW, getElem?_toList → ahe, getD_eq_getD_getElem? → ahs, getD → ah5, toList_inj → ais, toArray_toList → ajt, append_assoc → ajI, toList_push → akc, toList → akg, size_push → akR
open PyProof.Rows renaming callWith_type1 → adT, seqObj → ad2, listUpdate_at → ae9, envOfC → afn, get?_update_seq → afZ, seqEpoch_at → agA, callWith_builtin1 → aha, IntsAre → ahN, kindOf → ah3, subscriptTail → aii, subscriptTail_builtinR → aiC, AllBare → aiM, entry_list_sort → ai0, listItems_at → ai1, slot_list_sort → ajv, mirror_perm → ajB, Constant_none → ajJ, Subscript_ → aj4, plain_sorted → akk, entry_sorted → akl, failedOf → akC, callWith_kw → akO, kind_sorted → akQ, tuples' → akS, list_sort_plain → akY, mulOk_of_bits → ak5, bits_add → alA, bits_mul → alB, Call_ → alO, arrOf → alT
open Int renaming toNat_natCast → adU, le_refl → aew, toNat_of_nonneg → afl, zero_add → ahf, mul_le_mul_of_nonneg_left → aho, emod_nonneg → ahy, emod_lt_of_pos → ahI, le_trans → aiX, le_antisymm → aiY, toNat → aje, mul_nonneg → ajy, ediv_le_self → aku, ediv_nonneg → akU, mul_le_mul → ak8, ediv_one → alG, emod_def → alL, le_of_lt → alM
open PySem.Builtin.SmallTypes renaming ownedTupleIsFree → aeb, nextOf → afB, ownedTupleHandOut → agp
open PySem.Builtin.Range renaming rangeSize → aef, rangeFitsLong → akV
open PySem.Builtin.Builtins renaming bindParams → aeE
open PySem.Heap.SameBut renaming update → aeF
open PySem.Str renaming ofString → aeQ
open PyProof.Rows.F renaming plain_set_update_loop → afb, entry_set_update_loop → agr
open ForInStep renaming yield → afi
open PySem.Builtin.List renaming listExtendWith → afj, listLengthHint → af5, listSameRef → aia, listItems → aiK, listUpdate → alu, listTouch → alv
open PySem.SetTable renaming runEnd → afk, leap → afy, insertAt → afM, Probe → ag7, turns → ahU, advance → aix, slot → alr, has → alI
open False renaming elim → afq
open PySem.Builtin.Int renaming intBits → afP
open PySem.W.WData renaming weightAll → afQ, layable → ahc, weight → ajr, layableAll → ald
open True renaming intro → afU
open PySem.PyData renaming eqv → agb, canLayAll0 → agY, depthAll → ahx, canLay0 → ahQ, eqvAll → aik
open PySem.Calls renaming call_function_entry → ago, spliced_cons → agF, spliced_nil → agR, Name_function_global → ahD, callWith_builtin → aiD, evalArgs_plain → ajm
open Classical renaming byContradiction → agq
open PySem.IsL renaming update → agv
open PySem.Data renaming cell → ag9, fields → aie
open PySem.W.Looks renaming now → ah6, here → alS
open List.Pairwise renaming map → aib, imp_of_mem → alg
open Sum renaming inl → aid, inr → ajY
namespace L2
open PySem PySem.Spec PyProof.Rows
noncomputable abbrev Key:=Sum Int Str
noncomputable def nH:Key->acY->Bool
 | .inl k,v=>agO k v
 | .inr x,v=>alh x v
noncomputable def Ol(w:adM):Key->Int
 | .inl k=>ahL k
 | .inr x=>hashStr w x
theorem jH:∀ {k:Key} {v:acY},nH k v=true->(∃ i t,k=aid i/\v=Value.int i t)∨(∃ x t,k=ajY x/\v=ajF x t)
 | .inl i,v,h=>by obtain⟨t,e⟩:=Value.isInt_shape (k:=i) (v:=v) h;exact .inl ⟨i,t,rfl,e⟩
 | .inr x,v,h=>by obtain⟨t,e⟩:=Value.isStrOf_shape (x:=x) (v:=v) h;exact .inr ⟨x,t,rfl,e⟩
theorem Om(i:Int)(t:Tok):nH (.inl i) (.int i t)=true:=by simp[nH,agO]
theorem Oo(x:Str)(t:Tok):nH (.inr x) (.str x t)=true:=by simp[nH,alh]
theorem Oq(a b:Int):decide ((aid a:Key)=aid b)=(a == b):=by
 by_cases e:a=b
 .subst e;simp
 .have h:¬ (aid a:Key)=aid b:=λq=>e (Sum.inl.inj q);rw[decide_eq_false h];exact (beq_eq_false_iff_ne.mpr e).symm
theorem Ot(a b:Str):decide ((ajY a:Key)=ajY b)=decide (a=b):=by
 by_cases e:a=b
 .subst e;simp
 .have h:¬ (ajY a:Key)=ajY b:=λq=>e (Sum.inr.inj q);rw[decide_eq_false h,decide_eq_false e]
theorem Ou(a:Int)(b:Str):decide ((aid a:Key)=ajY b)=false:=decide_eq_false (λq=>nomatch q)
theorem Ov(a:Str)(b:Int):decide ((ajY a:Key)=aid b)=false:=decide_eq_false (λq=>nomatch q)
noncomputable def fo(prog:ado)(w:adM):PySem.KeyKind prog w Key where
 is:=nH
 hash:=Ol w
 inj:=λv a b ha hb=>by
  rcases jH ha with ⟨i,t,rfl,rfl⟩|⟨x,t,rfl,rfl⟩
  .rcases jH hb with ⟨j,u,rfl,e⟩|⟨y,u,rfl,e⟩
   .injection e with e1 _;rw[e1]
   .exact nomatch e
  .rcases jH hb with ⟨j,u,rfl,e⟩|⟨y,u,rfl,e⟩
   .exact nomatch e
   .injection e with e1 _;rw[e1]
 byValue:=λk v h=>by
  rcases jH h with ⟨i,t,rfl,rfl⟩|⟨x,t,rfl,rfl⟩<;>rfl
 pyHash:=λhv h=>by
  rcases jH hv with ⟨i,t,rfl,rfl⟩|⟨x,t,rfl,rfl⟩
  .exact wpAny_pyHash_int h
  .exact wpAny_pyHash_str h
 eqBool:=λhu hv h=>by
  rcases jH hu with ⟨i,t,rfl,rfl⟩|⟨x,t,rfl,rfl⟩
  .rcases jH hv with ⟨j,u,rfl,rfl⟩|⟨y,u,rfl,rfl⟩
   .rw[Oq] at h;exact aip h
   .rw[Ou] at h;exact SeqAt.EqAt.int_str i t y u _ _ _ _ h
  .rcases jH hv with ⟨j,u,rfl,rfl⟩|⟨y,u,rfl,rfl⟩
   .rw[Ov] at h;exact SeqAt.EqAt.str_int x t j u _ _ _ _ h
   .rw[Ot] at h;exact wpAny_eqBool_str h
 «strs»:=λk x t v h=>by
  rcases jH h with ⟨i,u,rfl,e⟩|⟨y,u,rfl,e⟩
  .exact nomatch e
  .injection e with e1 _;subst e1;cases v<;>rfl
theorem Ow(prog:ado)(w:adM)(i:Int)(t:Tok):(fo prog w).is (.inl i) (.int i t)=true:=Om i t
theorem Ox(prog:ado)(w:adM)(x:Str)(t:Tok):(fo prog w).is (.inr x) (.str x t)=true:=Oo x t
inductive V where
 | non|bl (b:Bool)|int (i:Int)|str (x:Str)|byt (b:Array UInt8)|flt (b:UInt64)|ref (a:ac6)|ty (n:String)
 deriving DecidableEq
noncomputable def RelV:V->acY->Prop
 | .non,u=>u=Value.none
 | .bl b,u=>u=afo b
 | .int i,u=>∃ t,u=Value.int i t
 | .str x,u=>∃ t,u=ajF x t
 | .byt b,u=>∃ t,u=alN b t
 | .flt b,u=>∃ t,u=akE b t
 | .ref a,u=>u=adI a
 | .ty n,u=>u=af6 n
noncomputable abbrev Vals:List V->List acY->Prop:=alw RelV
theorem Vals.length{xs:List V}{us:List acY}(r:Vals xs us):xs.length=us.length:=Paired.length r
theorem Vals.get:∀ {xs:List V} {us:List acY} {i:Nat} {x:V},Vals xs us->xs[i]?=some x->∃ u,us[i]?=some u/\RelV x u
 | _,_,_,_,.nil,e=>by simp at e
 | _,_,0,_,.cons r _,e=>by simp at e;subst e;exact⟨_,rfl,r⟩
 | _,_,i+1,x,.cons _ t,e=>by obtain⟨u,h1,h2⟩:=Vals.get (i:=i) (x:=x) t (by simpa using e);exact⟨u,by simpa using h1,h2⟩
theorem Vals.set{x:V}{u:acY}(r:RelV x u):∀ {xs:List V} {us:List acY} (i:Nat),Vals xs us->Vals (xs.set i x) (us.set i u)
 | _,_,_,.nil=>.nil
 | _,_,0,.cons _ t=>.cons r t
 | _,_,i+1,.cons q t=>.cons q (Vals.set r i t)
theorem Vals.append:∀ {xs ys:List V} {us ws:List acY},Vals xs us->Vals ys ws->Vals (xs++ys) (us++ws)
 | _,_,_,_,.nil,s=>s
 | _,_,_,_,.cons r t,s=>.cons r (Vals.append t s)
theorem Vals.take:∀ {xs:List V} {us:List acY} (n:Nat),Vals xs us->Vals (xs.take n) (us.take n)
 | _,_,0,_=>.nil
 | _,_,_+1,.nil=>.nil
 | _,_,n+1,.cons r t=>.cons r (Vals.take n t)
theorem Vals.drop:∀ {xs:List V} {us:List acY} (n:Nat),Vals xs us->Vals (xs.drop n) (us.drop n)
 | _,_,0,r=>r
 | _,_,_+1,.nil=>.nil
 | _,_,n+1,.cons _ t=>Vals.drop n t
noncomputable def eN:Option V->Option acY->Prop
 | some v,some u=>RelV v u
 | none,none=>True
 | _,_=>False
noncomputable def KV{κ:Type}:List (κ × V)->List (κ × acY)->Prop:=alw λ(p:κ × V) (q:κ × acY)=>p.1=q.1/\RelV p.2 q.2
noncomputable def kV:Key->V
 | .inl i=>.int i
 | .inr x=>.str x
inductive HO where
 | lst (xs:List V)
 | tup (xs:List V)
 | dK (kvs:List (Key × V))|dT (kvs:List (List Key × V))
 | set (S:Int->Bool) (n:Nat)
 | ins (C dx:ac6) (fs:List (Str × V))
 | own (x:ac6)
 | xd (fs:List (Str × V))
 | met (f x:ac6)
 | ix (lo hi:Int)
 | aX (o:Obj) (u:HO)
 | tbl (ps:Array acY)
 | ext (φ:aeA->Prop)
noncomputable abbrev Hp:=ac6->Option HO
noncomputable def upd(H:Hp)(a:ac6)(o:HO):Hp:=λb=>if b=a then some o else H b
theorem ar{H:Hp}{a:ac6}{o:HO}:upd H a o a=some o:=by unfold upd;rw[if_pos rfl]
theorem aB{H:Hp}{a b:ac6}{o:HO}(h:b≠a):upd H a o b=H b:=by unfold upd;rw[if_neg h]
theorem r9{H:Hp}{a:ac6}{o u:HO}:upd (upd H a o) a u=upd H a u:=by funext b;unfold upd;split<;>rfl
theorem sd{H:Hp}{a b:ac6}{o u:HO}(h:H a=some o)(h':H b=some u)(d:o≠u):a≠b:=by intro e;subst e;rw[h] at h';exact d (Option.some.inj h')
theorem iy{H:Hp}{a b:ac6}{o:HO}(h:H a=some o)(h':H b=none):a≠b:=by intro e;subst e;rw[h] at h';cases h'
section
variable(P:ado)(w:adM)
noncomputable def bG(H:Hp)(h:aeA)(a:ac6):HO->Prop
 | .lst xs=>xs.length<=adz/\∃ (af:List acY) (n:Nat),Vals xs af/\h.get? a=some { cls:=.type "list",data:=.seq af.toArray n }
 | .tup xs=>xs.length<=adz/\∃ af:List acY,Vals xs af/\IsTup h a af.toArray
 | .dK kvs=>kvs.length<=adz/\(a == afp)=false/\∃ vs,KV kvs vs/\h.DictOf (fo P w) a vs
 | .dT kvs=>kvs.length<=adz/\(a == afp)=false/\∃ xs:List (List Key × ac6 × acY),
  alw (λ(p:List Key × V) (q:List Key × ac6 × acY)=>p.1=q.1/\H q.2.1=some (.tup (p.1.map kV))/\RelV p.2 q.2.2) kvs xs /\
  ∃ o es ep,h.get? a=some o/\o.ExactDict/\o.data = .dict es ep/\es.toList=xs.map (entryOfKey (ahZ (fo P w)))/\(xs.map (·.1)).Nodup
 | .set S n=>h.SetOf (agP P w) a S n
 | .ins C dx fs=>H dx=some (.own a)/\fs.length<=1000/\dx≠a/\h.get? a=some (afd C dx) /\
  ∃ mA,h.Ns1 dx mA/\(∀ f,eN (fs.lookup f) (mA f))/\akf mA (fs.map (·.1))
 | .own _=>∃ o,h.get? a=some o
 | .xd fs=>∃ mA,h.Ns1 a mA/\∀ f,eN (fs.lookup f) (mA f)
 | .ix lo hi=>∃ t u v,h.get? a=some { cls:=.type "range",data:=.fields #[.int lo t,.int hi u,.int 1 v] }
 | .aX o u=>h.get? a=some o/\bG H h a u
 | .tbl ps=>h.get? a=some { cls:=.none,data:=.fields ps }
 | .met f x=>h.get? a=some (ah0 (.ref f) (.ref x))
 | .ext φ=>φ h/\(∃ o,h.get? a=some o)/\∀ h1 h2:aeA,φ h1->(∀ o,h1.get? a=some o->h2.get? a=some o)->φ h2
noncomputable def bQ(H:Hp)(h:aeA):Prop:=∀ a o,H a=some o->bG P w H h a o
variable{P:ado}{w:adM}{H H':Hp}{h h':aeA}{a:ac6}{o:HO}
theorem bG.lt(x:bG P w H h a o):a<h.objs.size:=by
 cases o with
 | lst xs=>obtain⟨_,_,_,_,e⟩:=x;exact ac0 e
 | tup xs=>obtain⟨_,_,_,p⟩:=x;exact p.lt
 | dK kvs=>obtain⟨_,_,_,_,o,_,_,e,_⟩:=x;exact ac0 e
 | dT kvs=>obtain⟨_,_,_,_,o,_,_,e,_⟩:=x;exact ac0 e
 | set S n=>obtain⟨o,_,_,_,e,_⟩:=x;exact ac0 e
 | ins C dx fs=>obtain⟨_,_,_,e,_⟩:=x;exact ac0 e
 | own y=>obtain⟨_,e⟩:=x;exact ac0 e
 | xd fs=>obtain⟨_,⟨_,_,_,e,_⟩,_⟩:=x;exact ac0 e
 | ix lo hi=>obtain⟨_,_,_,e⟩:=x;exact ac0 e
 | aX ob u=>obtain⟨e,_⟩:=x;exact ac0 e
 | tbl ps=>exact ac0 (show h.get? a=some _ from x)
 | met f y=>exact ac0 (show h.get? a=some _ from x)
 | ext φ=>obtain⟨_,⟨_,e⟩,_⟩:=x;exact ac0 e
theorem Paired.vR{α β:Type}{F G:α->β->Prop}:∀ {l₁:List α} {l₂:List β},alw F l₁ l₂->(∀ a b,F a b->G a b)->alw G l₁ l₂
 | _,_,.nil,_=>.nil
 | _,_,.cons r t,f=>.cons (f _ _ r) (Paired.vR t f)
theorem bG.fq(x:bG P w H h a o)(k:∀ b u,(b=a∨H b=some (.own a))->h.get? b=some u->h'.get? b=some u)
 (ho:∀ b,H b=some (.own a)->H' b=some (.own a)) (ht:∀ b xs,H b=some (.tup xs)->H' b=some (.tup xs)):bG P w H' h' a o:=by
 induction o with
 | lst xs=>obtain⟨z,af,n,r,e⟩:=x;exact⟨z,af,n,r,k _ _ (.inl rfl) e⟩
 | tup xs=>obtain⟨z,af,r,ob,e,c⟩:=x;exact⟨z,af,r,ob,k _ _ (.inl rfl) e,c⟩
 | dK kvs=>obtain⟨z,y,vs,r,ob,es,ep,e,c⟩:=x;exact⟨z,y,vs,r,ob,es,ep,k _ _ (.inl rfl) e,c⟩
 | dT kvs =>
  obtain⟨z,y,xs,r,ob,es,ep,e,c⟩:=x;exact⟨z,y,xs,Paired.vR r λp q z=>⟨z.1,ht _ _ z.2.1,z.2.2⟩,ob,es,ep,k _ _ (.inl rfl) e,c⟩
 | set S n=>obtain⟨ob,es,ep,t,e,c⟩:=x;exact⟨ob,es,ep,t,k _ _ (.inl rfl) e,c⟩
 | ins C dx fs =>
  obtain⟨d,z,ne,e,mA,⟨od,es,ep,e2,c⟩,r⟩:=x;exact⟨ho _ d,z,ne,k _ _ (.inl rfl) e,mA,⟨od,es,ep,k _ _ (.inr d) e2,c⟩,r⟩
 | own y=>obtain⟨ob,e⟩:=x;exact⟨ob,k _ _ (.inl rfl) e⟩
 | xd fs=>obtain⟨mA,⟨od,es,ep,e,c⟩,r⟩:=x;exact⟨mA,⟨od,es,ep,k _ _ (.inl rfl) e,c⟩,r⟩
 | ix lo hi=>obtain⟨t,u,v,e⟩:=x;exact⟨t,u,v,k _ _ (.inl rfl) e⟩
 | aX ob u ih=>obtain⟨e,q⟩:=x;exact⟨k _ _ (.inl rfl) e,ih q⟩
 | tbl ps =>
  have e:h.get? a=some { cls:=.none,data:=.fields ps }:=x;show h'.get? a=some { cls:=.none,data:=.fields ps };exact k a _ (.inl rfl) e
 | met f y =>
  have e:h.get? a=some (ah0 (.ref f) (.ref y)):=x;show h'.get? a=some (ah0 (.ref f) (.ref y));exact k a _ (.inl rfl) e
 | ext φ=>obtain⟨p,⟨o,e⟩,st⟩:=x;exact⟨st _ _ p λo q=>k _ _ (.inl rfl) q,⟨o,k _ _ (.inl rfl) e⟩,st⟩
theorem bQ.lt(x:bQ P w H h)(e:H a=some o):a<h.objs.size:=(x a o e).lt
theorem bQ.fresh(x:bQ P w H h)(e:h.objs.size<=a):H a=none:=by
 cases q:H a with
 | none=>rfl
 | some u=>exact absurd (adn (x.lt q) e) (aeN _)
theorem bQ.kept(x:bQ P w H h)(k:∀ b u,h.get? b=some u->h'.get? b=some u):bQ P w H h':=λa o e =>
 (x a o e).fq (λb u _ q=>k b u q) (λ_ q=>q) λ_ _ q=>q
theorem bQ.laid(x:bQ P w H h)(k:∀ b u,h.get? b=some u->h'.get? b=some u)(hp:h.objs.size<=a)(new:bG P w (upd H a o) h' a o):bQ P w (upd H a o) h':=λb u e=>by
 have hn:=x.fresh hp;by_cases hb:b=a
 .subst hb;rw[ar] at e;cases e;exact new
 .rw[aB hb] at e;exact (x b u e).fq (λc v _ q=>k c v q) (λc q=>by rw[aB (iy q hn)];exact q) λc xs q=>by rw[aB (iy q hn)];exact q
end
noncomputable def Rd(H:Hp)(a:ac6)(u:HO):Prop:=H a=some u ∨ ∃ o,H a=some (.aX o u)
theorem Rd.ok{P:ado}{w:adM}{H:Hp}{h:aeA}{a:ac6}{u:HO}(r:Rd H a u)(x:bQ P w H h):bG P w H h a u:=by
 rcases r with r|⟨o,r⟩
 .exact x a u r
 .obtain⟨_,q⟩:=x a _ r;exact q
noncomputable def pK:Option HO->Prop
 | some (.lst _)=>True
 | some (.dK _)=>True
 | some (.dT _)=>True
 | some (.set _ _)=>True
 | some (.ins _ _ _)=>True
 | some (.ext _)=>True
 | _=>False
section
variable{P:ado}{w:adM}{H:Hp}{h h':aeA}{x e:ac6}{o':HO}
theorem bQ.write(ok:bQ P w H h)(mu:pK (H x))(he:e=x∨H e=some (.own x))(k:∀ b u,b≠e->h.get? b=some u->h'.get? b=some u)(nI:∃ u,h'.get? e=some u)
 (new:bG P w (upd H x o') h' x o'):bQ P w (upd H x o') h':=λb u q=>by
 have EC:∀ c y,H c=some (.own y)->c≠x:=λc y r z=>by subst z;rw[r] at mu;exact mu
 have Oy:∀ c xs,H c=some (.tup xs)->c≠x:=λc xs r z=>by subst z;rw[r] at mu;exact mu
 by_cases hb:b=x
 .subst hb;rw[ar] at q;cases q;exact new
 .rw[aB hb] at q;by_cases i9:b=e
  .have q':H b=some (.own x):=by
    rcases he with z|z
    .exact absurd (i9.trans z) hb
    .rw[i9];exact z
   rw[q] at q';cases q';obtain⟨v,hv⟩:=nI;exact⟨v,by rw[i9];exact hv⟩
  .refine (ok b u q).fq (λc v hc r=>k c v ?_ r) (λc r=>by rw[aB (EC c b r)];exact r) λc xs r=>by rw[aB (Oy c xs r)];exact r
   rcases hc with rfl|hc
   .exact i9
   .rintro rfl;rcases he with z|z
    .exact EC c b hc z
    .rw[hc] at z;cases z;exact hb rfl
end
structure Un(fs ex:List ac6)(H H':Hp)(h h':aeA):Prop where
 keep:∀ b o,h.get? b=some o->H b=none->b∉fs->b∉ex->h'.get? b=some o
 slot:∀ b o,h.get? b=some o->H b=none->b∈fs->b∉ex->∃ sl,h'.get? b=some { o with slots:=sl }
 free:∀ b o,h.get? b=some o->H b=none->b∉ex->H' b=none
 there:∀ b o,h.get? b=some o->b∉ex->∃ o',h'.get? b=some o'
 dv:∀ b xs,H b=some (.tup xs)->H' b=some (.tup xs)
 dI:∀ b o u,H b=some (.aX o u)->H' b=some (.aX o u)
 eO:∀ b ps,H b=some (.tbl ps)->∃ more,H' b=some (.tbl (ps++more))
section
variable{fs Oz ex ex':List ac6}{H H1 H2:Hp}{h h1 h2 h':aeA}{a x e:ac6}{o:HO}
theorem Un.any(u:Un fs ex H H1 h h1){b:ac6}{ob:Obj}(q:h.get? b=some ob)(n:H b=none)(hx:b∉ex):∃ sl,h1.get? b=some { ob with slots:=sl }:=by
 by_cases hb:b∈fs
 .exact u.slot b ob q n hb hx
 .exact⟨ob.slots,u.keep b ob q n hb hx⟩
theorem Un.kept(k:∀ b u,h.get? b=some u->h'.get? b=some u):Un fs ex H H h h' :=
 ⟨λb ob q _ _ _=>k b ob q,λb ob q _ _ _=>⟨ob.slots,k b ob q⟩,λ_ _ _ n _=>n,λb ob q _=>⟨ob,k b ob q⟩,λ_ _ q=>q,λ_ _ _ q=>q,λ_ ps q=>⟨#[],by rw[q];simp⟩⟩
theorem Un.refl:Un fs ex H H h h:=Un.kept λ_ _ q=>q
theorem Un.laid(k:∀ b u,h.get? b=some u->h'.get? b=some u)(hp:h.objs.size<=a)(hn:H a=none):Un fs ex H (upd H a o) h h' where
 keep:=λb u q _ _ _=>k b u q
 slot:=λb u q _ _ _=>⟨u.slots,k b u q⟩
 free:=λb u q n _=>by rw[aB (adp (adn (ac0 q) hp))];exact n
 there:=λb u q _=>⟨u,k b u q⟩
 dv:=λb xs q=>by rw[aB (iy q hn)];exact q
 dI:=λb u xs q=>by rw[aB (iy q hn)];exact q
 eO:=λb ps q=>⟨#[],by rw[aB (iy q hn),q];simp⟩
theorem Un.write(mu:pK (H x))(he:e=x∨H e=some (.own x))(k:∀ b u,b≠e->h.get? b=some u->h'.get? b=some u)(nI:∃ u,h'.get? e=some u):Un fs ex H (upd H x o) h h':=by
 have hx:∀ b,H b=none->b≠x:=λb n z=>by subst z;rw[n] at mu;exact mu
 have hb:∀ b,H b=none->b≠e:=λb n z=>by
  subst z;rcases he with r|r
  .exact hx b n r
  .rw[n] at r;cases r
 have hm:∀ b u,H b=some u->¬ pK (some u)->b≠x:=λb u q nm z=>by subst z;rw[q] at mu;exact nm mu
 refine⟨λb u q n _ _=>k b u (hb b n) q,λb u q n _ _=>⟨u.slots,k b u (hb b n) q⟩,λb u q n _=>by rw[aB (hx b n)];exact n,λb u q _=>?_,
  λb xs q=>by rw[aB (hm b _ q λz=>z)];exact q,λb u xs q=>by rw[aB (hm b _ q λz=>z)];exact q,λb ps q=>⟨#[],by rw[aB (hm b _ q λz=>z),q];simp⟩⟩
 by_cases i9:b=e
 .subst i9;exact nI
 .exact⟨u,k b u i9 q⟩
end
noncomputable def gN(h:aeA)(H:Hp):List ac6:=(adx h.objs.size).filter λa=>(H a).isSome
noncomputable def jI(h:aeA)(H:Hp):aeA:=aiL h (gN h H)
theorem OA(h:aeA)(H:Hp):(jI h H).objs.size=h.objs.size:=PySem.W.hideAll_size _ _
theorem OB{h:aeA}{H:Hp}{b:ac6}{o:Obj}(e:h.get? b=some o)(n:H b=none):(jI h H).get? b=some o :=
 ajz _ e λhm=>by have q:(H b).isSome=true:=(adS.mp hm).2;rw[n] at q;simp at q
theorem OC{h:aeA}{H:Hp}{b:ac6}{o:Obj}(e:(jI h H).get? b=some o):h.get? b=some o/\H b=none:=by
 have e':h.get? b=some o:=ajG (gN h H) e;refine⟨e',?_⟩;cases q:H b with
 | none=>rfl
 | some x =>
  have hm:b∈gN h H:=adS.mpr ⟨adY.mpr (ac0 e'),by simp[q]⟩;have z:(jI h H).get? b=none:=PySem.W.hideAll_none (gN h H) hm;rw[z] at e;cases e
noncomputable def OD(g h:aeA)(L:ac6):List (ac6 × Obj):=(adx h.objs.size).filterMap λa=>if a=L∨(g.get? a).isSome=true then none else (h.get? a).map λo=>(a,o)
noncomputable def rest(g h:aeA)(L d:ac6):List (ac6 × Obj):=(OD g h L).filter λp=>decide (p.1≠d)
structure Mod(K:acS)(mg:Str->Option acY)(base:aeA):Prop where
 kin:K.In base
 glob:base.Ns ac4 mg
 blt:∃ mb,base.Ns ajZ mb/\∀ x:Str,x ≠ "__name__" -> mb x=ad3 x
 nolimit:base.NoLimit
structure Cx where
 prog:ado
 w:adM
 K:acS
 mg:Str->Option acY
 base:aeA
 A:adQ
 N:List Str
 s₀:acZ
 H₀:Hp
 env:Env
 outer:List Env
 stack:List Env
 ex:List ac6
 fn:Str->Bool
 calm:Bool
 pn:List (ac6 × Obj)
 xe:acY->acZ->Prop
noncomputable def aY(l:List Env):List ac6:=l.filterMap (·.frame)
noncomputable abbrev Cx.fs(X:Cx):List ac6:=aY X.outer
noncomputable def se(sc:ahg)(x:Str):Prop:=sc.names.lookup x=some .local∨sc.names.lookup x=some .cell∨sc.names.lookup x=some .free
noncomputable def Loc(sc:ahg)(x:Str):Prop:=sc.names.lookup x=some .local∨sc.names.lookup x=some .cell
noncomputable def Look(env:Env)(h:aeA)(m:Str->Option acY)(x:Str)(u:acY):Prop :=
 (env.kindOf x=some .local/\m x=some u)∨((env.kindOf x=some .cell∨env.kindOf x=some .free)/\∃ c,env.cells.lookup x=some c/\h.IsCell c (some u))
structure Cx.Ok(X:Cx):Prop where
 mod:Mod X.K X.mg X.base
 kind:X.env.scope.kind = .function
 glob:X.env.globals=ac4
 blt:X.env.builtins=ajZ
 above:X.s₀.heap.objs.size<=X.env.locals
 inj:∀ x y c,X.env.cells.lookup x=some c->X.env.cells.lookup y=some c->x=y
 has:∀ x,(X.env.kindOf x=some .cell∨X.env.kindOf x=some .free)->∃ c,X.env.cells.lookup x=some c
 cab:∀ x c,X.fn x=true->X.env.cells.lookup x=some c->X.s₀.heap.objs.size<=c
 hd:X.calm=true->X.A.handled=none
 frames:X.A.frames=some X.stack
 stk:X.stack=X.outer∨(X.stack=X.env::X.outer/\X.env.frame=some X.env.locals)
 exf:∀ b∈X.ex,b≠X.env.locals/\∀ x c,X.env.cells.lookup x=some c->c≠b
 bs:∀ b o,X.base.get? b=some o->X.s₀.heap.get? b=some o/\X.H₀ b=none
 bsz:X.base.objs.size<=X.s₀.heap.objs.size
 noex:∀ b o,X.base.get? b=some o->b∉X.ex
 exfs:∀ b∈X.ex,b∉X.fs
 gn:X.s₀.heap.FunFrames X.base X.outer
 frf:∀ b∈X.fs,X.H₀ b=none
structure Inv(X:Cx)(pins:List (ac6 × Obj))(σ:List (Option V))(H:Hp)(s:acZ):Prop where
 ok:X.Ok
 os:s.os=X.s₀.os
 bare:aiM s.gens
 base:Un X.fs X.ex X.H₀ H X.s₀.heap s.heap
 loc:∃ m,s.heap.Ns X.env.locals m/\∀ (i:Nat) (x:Str) (v:V),X.N[i]?=some x->σ[i]?=some (some v)->se X.env.scope x->∃ u,RelV v u/\Look X.env s.heap m x u
 cell:∀ x c,X.env.cells.lookup x=some c->∃ v,s.heap.IsCell c v
 free:H X.env.locals=none
 fM:∀ x c,X.env.cells.lookup x=some c->H c=none
 pin:∀ p∈X.pn++pins,s.heap.get? p.1=some p.2/\H p.1=none/\p.1≠X.env.locals/\p.1∉X.fs/\∀ v,p.2.data ≠ .cell v
 aj:bQ X.prog X.w H s.heap
 len:σ.length=X.N.length
section
variable{X:Cx}{pins:List (ac6 × Obj)}{σ:List (Option V)}{H H':Hp}{s:acZ}{h':aeA}
theorem Cx.Ok.jJ(ok:X.Ok){b:ac6}{o:Obj}(e:X.base.get? b=some o):b∉X.fs:=λhb=>by have:=(ok.gn.mem hb).1;rw[e] at this;cases this
theorem Inv.bs(I:Inv X pins σ H s):∀ b o,X.base.get? b=some o->s.heap.get? b=some o/\H b=none:=λb o e =>
 ⟨I.base.keep b o (I.ok.bs b o e).1 (I.ok.bs b o e).2 (I.ok.jJ e) (I.ok.noex b o e),I.base.free b o (I.ok.bs b o e).1 (I.ok.bs b o e).2 (I.ok.noex b o e)⟩
theorem Inv.bk(I:Inv X pins σ H s):∀ b o,X.base.get? b=some o->s.heap.get? b=some o:=λb o e=>(I.bs b o e).1
theorem Inv.mod(I:Inv X pins σ H s):Mod X.K X.mg X.base:=I.ok.mod
theorem Inv.cv(I:Inv X pins σ H s):X.K.In s.heap:=I.ok.mod.kin.keeps I.bk
theorem Inv.lt(I:Inv X pins σ H s):X.env.locals<s.heap.objs.size:=let ⟨_,hn,_⟩:=I.loc;hn.lt
theorem Inv.sz(I:Inv X pins σ H s):X.s₀.heap.objs.size<=s.heap.objs.size:=adb I.ok.above (ag8 I.lt)
theorem Inv.sf(I:Inv X pins σ H s){a:ac6}(h:s.heap.objs.size<=a):a∉X.fs:=λhb=>by obtain⟨_,o,ho,_⟩:=I.ok.gn.mem hb;exact absurd (adn (ac0 ho) (adb I.sz h)) (aeN _)
theorem Inv.mj(I:Inv X pins σ H s):∀ x c,X.env.cells.lookup x=some c->c≠X.env.locals:=λx c e z=>by obtain⟨v,o,ho,hd⟩:=I.cell x c e;obtain⟨m,⟨o',es,ep,cR,iz,_⟩,_⟩:=I.loc;rw[z,cR] at ho;cases ho;rw[iz] at hd;cases hd
theorem Inv.gn(I:Inv X pins σ H s):s.heap.FunFrames X.base X.outer:=by
 have all:∀ (l:List Env),(∀ b∈aY l,b∈X.fs)->X.s₀.heap.FunFrames X.base l->s.heap.FunFrames X.base l:=by
  intro l
  induction l with
  | nil=>intro _ _;trivial
  | cons env r ih =>
   intro hs hl;obtain⟨hk,⟨L,o,hf,hn,ho,hd⟩,hr⟩:=hl;have hL:L∈X.fs:=hs L (by unfold aY;rw[aeB,hf];exact ae2);obtain⟨sl,e⟩:=I.base.slot L o ho (I.ok.frf L hL) hL λz=>I.ok.exfs L z hL;exact⟨hk,⟨L,_,hf,hn,e,hd⟩,ih (λb hb=>hs b (by unfold aY;rw[aeB,hf];exact adL _ hb)) hr⟩
 exact all X.outer (λ_ hb=>hb) I.ok.gn
theorem Inv.stack(I:Inv X pins σ H s):s.heap.FunFrames X.base X.stack:=by
 rcases I.ok.stk with e|⟨e,hf⟩
 .rw[e];exact I.gn
 .rw[e];obtain⟨m,hn,_⟩:=I.loc;refine .cons (by rw[I.ok.kind];decide) hf hn ?_ I.gn;exact Heap.get?_none_of_le (adb I.ok.bsz I.ok.above)
theorem Inv.fN(I:Inv X pins σ H s):∀ b∈aY X.stack,b∈X.env.locals::X.fs:=λb hb=>by
 rcases I.ok.stk with e|⟨e,hf⟩
 .rw[e] at hb;exact adL _ hb
 .rw[e] at hb;unfold aY at hb;rw[aeB,hf] at hb;exact hb
theorem Inv.nJ(I:Inv X pins σ H s):∀ b∈aY X.stack,H b=none:=λb hb=>by
 rcases ac9.mp (I.fN b hb) with e|hb
 .rw[e];exact I.free
 .obtain⟨_,o,ho,_⟩:=I.ok.gn.mem hb;exact I.base.free b o ho (I.ok.frf b hb) λz=>I.ok.exfs b z hb
theorem Inv.step{g':Array ajH}{t':Nat}{d':Drawn}{ch:List ac6}(I:Inv X pins σ H s)
 (ja:∀ b∈ch,(b∈X.ex∨X.s₀.heap.objs.size<=b)/\b≠X.env.locals/\(∀ x c,X.env.cells.lookup x=some c->c≠b)/\∀ p∈X.pn++pins,p.1≠b)
 (keep:∀ b o,b≠X.env.locals->b∉X.fs->b∉ch->s.heap.get? b=some o->H b=none->h'.get? b=some o)
 (slot:∀ b o,b≠X.env.locals->b∈X.fs->b∉ch->s.heap.get? b=some o->H b=none->∃ sl,h'.get? b=some { o with slots:=sl }) (free:∀ b o,b∉ch->s.heap.get? b=some o->H b=none->H' b=none)
 (there:∀ b o,b∉ch->s.heap.get? b=some o->∃ o',h'.get? b=some o')
 (dv:∀ b xs,H b=some (.tup xs)->H' b=some (.tup xs)) (dI:∀ b o u,H b=some (.aX o u)->H' b=some (.aX o u)) (eO:∀ b ps,H b=some (.tbl ps)->∃ more,H' b=some (.tbl (ps++more)))
 (ns:∀ m,s.heap.Ns X.env.locals m->h'.Ns X.env.locals m) (aj:bQ X.prog X.w H' h') (hg:aiM g') :
 Inv X pins σ H' { s with heap:=h',gens:=g',drawn:=d',toks:=t' }:=by
 have nK:∀ b o,X.s₀.heap.get? b=some o->b≠X.env.locals:=λb o e=>adp (adn (ac0 e) I.ok.above);have si:∀ b o,X.s₀.heap.get? b=some o->b∉X.ex->b∉ch:=λb o e hx hb=>by
  rcases (ja b hb).1 with z|z
  .exact hx z
  .exact absurd (adn (ac0 e) z) (aeN _)
 have cellK:∀ x c,X.env.cells.lookup x=some c->∀ v,s.heap.IsCell c v->h'.IsCell c v:=λx c e v ⟨o,ho,hd⟩=>by
  have kG:c∉ch:=λz=>(ja c z).2.2.1 x c e rfl;by_cases hc:c∈X.fs
  .obtain⟨sl,q⟩:=slot c o (I.mj x c e) hc kG ho (I.fM x c e);exact⟨_,q,hd⟩
  .exact⟨o,keep c o (I.mj x c e) hc kG ho (I.fM x c e),hd⟩
 refine⟨I.ok,I.os,hg,⟨λb o e n hb hx=>?_,λb o e n hb hx=>?_,λb o e n hx=>?_,λb o e hx=>?_,λb xs e=>dv b xs (I.base.dv b xs e),λb o xs e=>dI b o xs (I.base.dI b o xs e),λb ps e=>?_⟩,?_,λx c e=>?_,?_,λx c e=>?_,λp hp=>?_,aj,I.len⟩
 .exact keep b o (nK b o e) hb (si b o e hx) (I.base.keep b o e n hb hx) (I.base.free b o e n hx)
 .obtain⟨sl,e1⟩:=I.base.slot b o e n hb hx;obtain⟨fu,e2⟩:=slot b _ (nK b o e) hb (si b o e hx) e1 (I.base.free b o e n hx);exact⟨fu,e2⟩
 .obtain⟨o',e1⟩:=I.base.there b o e hx;exact free b o' (si b o e hx) e1 (I.base.free b o e n hx)
 .obtain⟨o',e1⟩:=I.base.there b o e hx;exact there b o' (si b o e hx) e1
 .obtain⟨m1,e1⟩:=I.base.eO b ps e;obtain⟨m2,e2⟩:=eO b _ e1;exact⟨m1++m2,by rw[e2,ajI]⟩
 .obtain⟨m,hn,hl⟩:=I.loc;refine⟨m,ns m hn,λi x v e1 e2 e3=>?_⟩;obtain⟨u,r,l⟩:=hl i x v e1 e2 e3;refine⟨u,r,?_⟩;rcases l with l|⟨k,c,e,z⟩
  .exact .inl l
  .exact .inr ⟨k,c,e,cellK x c e _ z⟩
 .obtain⟨v,z⟩:=I.cell x c e;exact⟨v,cellK x c e v z⟩
 .obtain⟨m,⟨o,_,_,ho,_⟩,_⟩:=I.loc;exact free _ o (λz=>(ja _ z).2.1 rfl) ho I.free
 .obtain⟨v,o,ho,hd⟩:=I.cell x c e;exact free c o (λz=>(ja c z).2.2.1 x c e rfl) ho (I.fM x c e)
 .obtain⟨e,n,ne,nf,d⟩:=I.pin p hp;have kG:p.1∉ch:=λz=>(ja p.1 z).2.2.2 p hp rfl;exact⟨keep p.1 p.2 ne nf kG e n,free p.1 p.2 kG e n,ne,nf,d⟩
theorem Inv.un{t':Nat}(I:Inv X pins σ H s)(u:Un X.fs [] H H' s.heap h')(aj:bQ X.prog X.w H' h'):Inv X pins σ H' { s with heap:=h',toks:=t' }:=by
 obtain⟨m,⟨o,es,ep,ho,r⟩,_⟩:=id I.loc;obtain⟨sl,hL⟩:=u.any ho I.free (by simp);exact I.step (g':=s.gens) (d':=s.drawn) (ch:=[]) (λ_ z=>nomatch z) (λb o _ hb _ e n=>u.keep b o e n hb (by simp)) (λb o _ hb _ e n=>u.slot b o e n hb (by simp)) (λb o _ e n=>u.free b o e n (by simp)) (λb o _ e=>u.there b o e (by simp)) u.dv u.dI u.eO (λm' hm=>by
  obtain⟨o',es',pL,cR,r'⟩:=hm;rw[ho] at cR;cases cR;exact⟨_,es',pL,hL,r'⟩) aj I.bare
theorem Inv.call{g':Array ajH}{t':Nat}{d':Drawn}{ch:List ac6}(I:Inv X pins σ H s)(u:Un (aY X.stack) ch H H' s.heap h')(aj:bQ X.prog X.w H' h')(hg:aiM g')
 (ja:∀ b∈ch,(b∈X.ex∨X.s₀.heap.objs.size<=b)/\b≠X.env.locals/\(∀ x c,X.env.cells.lookup x=some c->c≠b)/\∀ p∈X.pn++pins,p.1≠b) :
 Inv X pins σ H' { s with heap:=h',gens:=g',drawn:=d',toks:=t' }:=by
 obtain⟨m,⟨o,es,ep,ho,r⟩,_⟩:=id I.loc;obtain⟨sl,hL⟩:=u.any ho I.free λz=>(ja _ z).2.1 rfl;exact I.step (ch:=ch) ja (λb o hL hb hc e n=>u.keep b o e n (λz=>(ac9.mp (I.fN b z)).elim hL hb) hc) (λb o _ _ hc e n=>u.any e n hc) (λb o hc e n=>u.free b o e n hc) (λb o hc e=>u.there b o e hc) u.dv u.dI u.eO (λm' hm=>by
  obtain⟨o',es',pL,cR,r'⟩:=hm;rw[ho] at cR;cases cR;exact⟨_,es',pL,hL,r'⟩) aj hg
theorem Inv.turned{t':Nat}{it:ac6}(I:Inv X pins σ H s)(k:∀ b o,b≠it->s.heap.get? b=some o->h'.get? b=some o)(hn:H it=none)(hL:it≠X.env.locals)
 (h1:it∈X.ex∨X.s₀.heap.objs.size<=it) (h2:∀ x c,X.env.cells.lookup x=some c->c≠it) (h3:∀ p∈X.pn++pins,p.1≠it):Inv X pins σ H { s with heap:=h',toks:=t' }:=by
 have ED:∀ b u,H b=some u->b≠it:=λb u e z=>by rw[z,hn] at e;cases e
 refine I.step (g':=s.gens) (d':=s.drawn) (ch:=[it]) (λb hb=>?_) (λb o _ _ hc e _=>k b o (λz=>hc (by simp[z])) e) (λb o _ _ hc e _=>⟨o.slots,k b o (λz=>hc (by simp[z])) e⟩) (λ_ _ _ _ n=>n)
  (λb o hc e=>⟨o,k b o (λz=>hc (by simp[z])) e⟩) (λ_ _ e=>e) (λ_ _ _ e=>e) (λb ps e=>⟨#[],by rw[e];simp⟩) (λm hm=>?_) (λb u e=>?_) I.bare
 .have e:b=it:=by simpa using hb
  subst e;exact⟨h1,hL,h2,h3⟩
 .obtain⟨o,es,ep,ho,r⟩:=hm;exact⟨o,es,ep,k _ o (adP hL) ho,r⟩
 .refine (I.aj b u e).fq (λc v hc q=>k c v ?_ q) (λ_ q=>q) λ_ _ q=>q;rcases hc with z|z
  .rw[z];exact ED b u e
  .exact ED c _ z
theorem Inv.tok(I:Inv X pins σ H s)(t:Nat):Inv X pins σ H { s with toks:=t }:=I.un (h':=s.heap) (t':=t) Un.refl I.aj
theorem Inv.kept{t':Nat}(I:Inv X pins σ H s)(k:∀ b u,s.heap.get? b=some u->h'.get? b=some u):Inv X pins σ H { s with heap:=h',toks:=t' }:=I.un (Un.kept k) (I.aj.kept k)
theorem Inv.laid{a:ac6}{o:HO}{t':Nat}(I:Inv X pins σ H s)(k:∀ b u,s.heap.get? b=some u->h'.get? b=some u)(hp:s.heap.objs.size<=a)(new:bG X.prog X.w (upd H a o) h' a o) :
 Inv X pins σ (upd H a o) { s with heap:=h',toks:=t' }:=I.un (Un.laid k hp (I.aj.fresh hp)) (I.aj.laid k hp new)
theorem Inv.write{x e:ac6}{o:HO}{t':Nat}(I:Inv X pins σ H s)(mu:pK (H x))(he:e=x∨H e=some (.own x))(k:∀ b u,b≠e->s.heap.get? b=some u->h'.get? b=some u)(nI:∃ u,h'.get? e=some u)
 (new:bG X.prog X.w (upd H x o) h' x o):Inv X pins σ (upd H x o) { s with heap:=h',toks:=t' }:=I.un (Un.write mu he k nI) (I.aj.write mu he k nI new)
theorem Inv.iA{EE:List (ac6 × Obj)}(I:Inv X pins σ H s)(h:∀ p∈EE,s.heap.get? p.1=some p.2/\H p.1=none/\p.1≠X.env.locals/\p.1∉X.fs/\∀ v,p.2.data ≠ .cell v):Inv X EE σ H s :=
 ⟨I.ok,I.os,I.bare,I.base,I.loc,I.cell,I.free,I.fM,λp hp=>(adm.mp hp).elim (λz=>I.pin p (adD _ z)) (h p),I.aj,I.len⟩
theorem EF{N:List Str}(hN:N.Nodup){i j:Nat}{x:Str}(a:N[i]?=some x)(b:N[j]?=some x):i=j:=by obtain⟨h1,e1⟩:=ade.mp a;obtain⟨h2,e2⟩:=ade.mp b;exact (List.getElem_inj hN).mp (e1.trans e2.symm)
theorem OE{M:Model}{A:adQ}{E:acY->acZ->Prop}{i:Nat}{x:Str}{v:V}{u:acY}{Q:Unit->acZ->Prop}(I:Inv X pins σ H s)(hN:X.N.Nodup)(hi:X.N[i]?=some x)(hx:Loc X.env.scope x)(r:RelV v u)
 (h:∀ s',Inv X pins (σ.set i (some v)) H s'->(∃ a,Heap.SameBut a s.heap s'.heap/\(a=X.env.locals∨X.env.cells.lookup x=some a))->Q () s') (hf:X.fn x=true∨X.env.scope.names.lookup x=some .local:=by first|exact .inl rfl|exact .inr rfl|assumption):adg M A (storeName X.env x u) Q E s:=by
 obtain⟨m,hn,hl⟩:=id I.loc;have OF:(X.env.scope.kind == .class || (X.env.scope.kind == .module && X.env.locals != X.env.globals))=false:=by rw[I.ok.kind];rfl
 have EG:i<σ.length:=by rw[I.len];exact (ade.mp hi).1
 have mj:=I.mj;have tracked:∀ {a:ac6} {h':aeA},(∃ o,s.heap.get? a=some o/\H a=none)->Heap.SameBut a s.heap h'->bQ X.prog X.w H h':=λ{a h'} ha hs b ob e=>by
  obtain⟨_,_,hfree⟩:=ha;refine (I.aj b ob e).fq (λc w' hc q=>(hs.2 c ?_).trans q) (λ_ q=>q) λ_ _ q=>q;rintro rfl;rcases hc with rfl|hc
  .rw[hfree] at e;cases e
  .rw[hfree] at hc;cases hc
 rcases hx with hk|hk
 .refine wpAny_storeName_local hk hn (λh' pM hs=>?_) OF;obtain⟨oL,_,_,OG,_⟩:=id hn;refine h _ ⟨I.ok,I.os,I.bare,⟨λb o e n hb hx=>?_,λb o e n hb hx=>?_,I.base.free,λb o e hx=>?_,I.base.dv,I.base.dI,I.base.eO⟩,⟨_,pM,λj y v' e1 e2 e3=>?_⟩,λy c e=>?_,I.free,I.fM,λp hp=>?_,tracked ⟨oL,OG,I.free⟩ hs,by simpa using I.len⟩ ⟨_,hs,.inl rfl⟩
  .exact (hs.2 b (adp (adn (ac0 e) I.ok.above))).trans (I.base.keep b o e n hb hx)
  .obtain⟨sl,e1⟩:=I.base.slot b o e n hb hx;exact⟨sl,(hs.2 b (adp (adn (ac0 e) I.ok.above))).trans e1⟩
  .obtain⟨o',e1⟩:=I.base.there b o e hx;exact⟨o',(hs.2 b (adp (adn (ac0 e) I.ok.above))).trans e1⟩
  .by_cases hj:j=i
   .subst hj;rw[hi] at e1;cases e1;rw[aiy EG] at e2;cases e2;exact⟨u,r,.inl ⟨hk,by simp⟩⟩
   .rw[ajl (adP hj)] at e2;obtain⟨u',r',q⟩:=hl j y v' e1 e2 e3;refine⟨u',r',?_⟩;rcases q with ⟨k,e⟩|⟨k,c,e,z⟩
    .refine .inl ⟨k,?_⟩;have:y≠x:=λe=>hj (EF hN e1 (e ▸ hi));simp[this,e]
    .exact .inr ⟨k,c,e,z.sameBut hs (mj y c e)⟩
  .obtain⟨w',z⟩:=I.cell y c e;exact⟨w',z.sameBut hs (mj y c e)⟩
  .obtain⟨e,n,ne,nf,d⟩:=I.pin p hp;exact⟨(hs.2 p.1 ne).trans e,n,ne,nf,d⟩
 .have vS:X.fn x=true:=by
   rcases hf with z|z
   .exact z
   .rw[z] at hk;cases hk
  obtain⟨c,hc⟩:=I.ok.has x (.inl hk);obtain⟨w',z⟩:=I.cell x c hc;refine wpAny_storeName_cell I.ok.kind hk hc z (λh' jK hs=>?_);obtain⟨oc,hoc,hocd⟩:=id z;refine h { s with heap:=h' } ⟨I.ok,I.os,I.bare,⟨λb o e n hb hx=>?_,λb o e n hb hx=>?_,I.base.free,λb o e hx=>?_,I.base.dv,I.base.dI,I.base.eO⟩,⟨m,hn.sameBut hs (adP (mj x c hc)),λj y v' e1 e2 e3=>?_⟩,λy c' e=>?_,I.free,I.fM,λp hp=>?_,tracked ⟨oc,hoc,I.fM x c hc⟩ hs,by simpa using I.len⟩ ⟨c,hs,.inr hc⟩
  .exact (hs.2 b (adp (adn (ac0 e) (I.ok.cab x c vS hc)))).trans (I.base.keep b o e n hb hx)
  .obtain⟨sl,e1⟩:=I.base.slot b o e n hb hx;exact⟨sl,(hs.2 b (adp (adn (ac0 e) (I.ok.cab x c vS hc)))).trans e1⟩
  .obtain⟨o',e1⟩:=I.base.there b o e hx;exact⟨o',(hs.2 b (adp (adn (ac0 e) (I.ok.cab x c vS hc)))).trans e1⟩
  .by_cases hj:j=i
   .subst hj;rw[hi] at e1;cases e1;rw[aiy EG] at e2;cases e2;exact⟨u,r,.inr ⟨.inl hk,c,hc,jK⟩⟩
   .rw[ajl (adP hj)] at e2;obtain⟨u',r',q⟩:=hl j y v' e1 e2 e3;refine⟨u',r',?_⟩;rcases q with q|⟨k,c',e,z'⟩
    .exact .inl q
    .refine .inr ⟨k,c',e,z'.sameBut hs ?_⟩;rintro rfl;exact hj (EF hN e1 (I.ok.inj _ _ _ e hc ▸ hi))
  .by_cases nM:c'=c
   .subst nM;exact⟨_,jK⟩
   .obtain⟨w2,z2⟩:=I.cell y c' e;exact⟨w2,z2.sameBut hs nM⟩
  .obtain⟨e,n,ne,nf,d⟩:=I.pin p hp;refine⟨(hs.2 p.1 ?_).trans e,n,ne,nf,d⟩;intro q;rw[q,hoc] at e;have q':oc=p.2:=Option.some.inj e;exact d w' (by rw[<- q'];exact hocd)
theorem EH{M:Model}{A:adQ}{E:acY->acZ->Prop}{i:Nat}{x:Str}{v:V}{u:acY}{Q:Unit->acZ->Prop}(I:Inv X pins σ H s)(hN:X.N.Nodup)(hi:X.N[i]?=some x)(hx:Loc X.env.scope x)(r:RelV v u)
 (h:∀ s',Inv X pins (σ.set i (some v)) H s'->Q () s') (hf:X.fn x=true∨X.env.scope.names.lookup x=some .local:=by first|exact .inl rfl|exact .inr rfl|assumption):adg M A (storeName X.env x u) Q E s :=
 OE I hN hi hx r (λs' I' _=>h s' I') hf
theorem Inv.vT{s':acZ}{ch:List ac6}(I:Inv X pins σ H s)(ho:s'.os=s.os)(u:Un (aY X.stack) ch H H' s.heap s'.heap)(aj:bQ X.prog X.w H' s'.heap)(hg:aiM s'.gens)
 (ja:∀ b∈ch,(b∈X.ex∨X.s₀.heap.objs.size<=b)/\b≠X.env.locals/\(∀ x c,X.env.cells.lookup x=some c->c≠b)/\∀ p∈X.pn++pins,p.1≠b):Inv X pins σ H' s':=by
 obtain⟨h',g',d',t',o'⟩:=s';have e:o'=s.os:=ho;subst e;exact I.call (g':=g') (t':=t') (d':=d') u aj hg ja
end
noncomputable abbrev XK:=acY->Option ac6->Hp->Prop
noncomputable abbrev St:=List (Option V)
noncomputable abbrev VK:=V->Hp->Prop
noncomputable abbrev TE:=St->Hp->VK->Prop
noncomputable abbrev TT:=St->Hp->(Bool->Hp->Prop)->Prop
noncomputable abbrev TA:=St->Hp->(List V->Hp->Prop)->Prop
structure Ends where
 nx:St->Hp->Prop
 rt:VK
 bk:St->Hp->Prop:=λ_ _=>False
 ct:St->Hp->Prop:=λ_ _=>False
noncomputable abbrev TS:=Ends->St->Hp->Prop
noncomputable def EP(X:Cx)(pins:List (ac6 × Obj))(σ:St)(Q:VK)(u:acY)(s':acZ):Prop:=∃ v H',Inv X pins σ H' s'/\RelV v u/\Q v H'
noncomputable def TP(X:Cx)(pins:List (ac6 × Obj))(σ:St)(Q:Bool->Hp->Prop)(b:Bool)(s':acZ):Prop:=∃ H',Inv X pins σ H' s'/\Q b H'
noncomputable def AP(X:Cx)(pins:List (ac6 × Obj))(σ:St)(Q:List V->Hp->Prop)(us:List acY)(s':acZ):Prop:=∃ vs H',Inv X pins σ H' s'/\Vals vs us/\Q vs H'
noncomputable def SP(X:Cx)(pins:List (ac6 × Obj))(D:Ends)(f:Flow)(s':acZ):Prop :=
 match f with
 | .next=>∃ σ' H',Inv X pins σ' H' s'/\D.nx σ' H'
 | .brk=>∃ σ' H',Inv X pins σ' H' s'/\D.bk σ' H'
 | .cont=>∃ σ' H',Inv X pins σ' H' s'/\D.ct σ' H'
 | .ret u=>∃ v σ' H',Inv X pins σ' H' s'/\RelV v u/\D.rt v H'
noncomputable def PE(X:Cx)(e:aeY)(t:TE):Prop :=
 ∀ (pins:List (ac6 × Obj)) (s:acZ) (σ:St) (H:Hp) (Q:VK),Inv X pins σ H s->t σ H Q->adg (model X.prog X.w) X.A (eval e X.env) (EP X pins σ Q) X.xe s
noncomputable def PT(X:Cx)(e:aeY)(t:TT):Prop :=
 ∀ (pins:List (ac6 × Obj)) (s:acZ) (σ:St) (H:Hp) (Q:Bool->Hp->Prop),Inv X pins σ H s->t σ H Q->adg (model X.prog X.w) X.A (akF e X.env (eval e X.env)) (TP X pins σ Q) X.xe s
noncomputable def PW(X:Cx)(e:aeY)(t:TT):Prop :=
 ∀ (whole:Sem acY) (pins:List (ac6 × Obj)) (s:acZ) (σ:St) (H:Hp) (Q:Bool->Hp->Prop),Inv X pins σ H s->t σ H Q->adg (model X.prog X.w) X.A (akF e X.env whole) (TP X pins σ Q) X.xe s
theorem PW.pt{X:Cx}{e:aeY}{t:TT}(h:PW X e t):PT X e t:=h _
noncomputable def PA(X:Cx)(es:List aeY)(t:TA):Prop :=
 ∀ (pos:Pos) (pins:List (ac6 × Obj)) (s:acZ) (σ:St) (H:Hp) (Q:List V->Hp->Prop),Inv X pins σ H s->t σ H Q->adg (model X.prog X.w) X.A (spliced (afE pos (adC es X.env))) (AP X pins σ Q) X.xe s
noncomputable def PS(X:Cx)(st:afr)(t:TS):Prop :=
 ∀ (pins:List (ac6 × Obj)) (s:acZ) (σ:St) (H:Hp) (D:Ends),Inv X pins σ H s->t D σ H->adg (model X.prog X.w) X.A (exec st X.env) (SP X pins D) X.xe s
noncomputable def bw(X:Cx)(st:List afr)(t:TS):Prop :=
 ∀ (pins:List (ac6 × Obj)) (s:acZ) (σ:St) (H:Hp) (D:Ends),Inv X pins σ H s->t D σ H->adg (model X.prog X.w) X.A (execs st X.env) (SP X pins D) X.xe s
theorem aA{α:Type}{t:Sem α}{Q Q':α->acZ->Prop}{M:Model}{A:adQ}{E:acY->acZ->Prop}{s:acZ}(h:adg M A t Q E s)(hQ:∀ a s,Q a s->Q' a s):adg M A t Q' E s:=adJ h hQ λ_ _ x=>x
section
variable{X:Cx}
noncomputable def vU(i:Nat):TE:=λσ H Q=>∃ v,σ[i]?=some (some v)/\Q v H
noncomputable def tC(v:V):TE:=λ_ H Q=>Q v H
theorem OH{i:Nat}{x:Str}{pos:Pos}(hN:X.N[i]?=some x)(hv:se X.env.scope x)(hd:(x == ("__debug__" : Str))=false:=by decide)(fO:(x == ("__classdict__" : Str))=false:=by decide):PE X (.Name x pos) (vU i):=by
 intro pins s σ H Q I h;obtain⟨v,e,h⟩:=h;obtain⟨m,hn,hl⟩:=I.loc;obtain⟨u,r,l⟩:=hl i x v hN e hv;have fin:EP X pins σ Q u s:=⟨v,H,I,r,h⟩
 rcases l with ⟨hk,hm⟩|⟨hk,c,hc,pN⟩
 .exact ak9 (wpAny_loadName_local I.ok.kind hk hn hm fin) hd
 .rcases hk with hk|hk
  .exact ak9 (wpAny_loadName_cell I.ok.kind hk hc pN fin) hd
  .exact ak9 (wpAny_loadName_free I.ok.kind hk hc pN fin fO) hd
theorem ag{i j pos}:PE X (.Constant (.int i) j pos) (tC (.int i)):=λ_ _ _ H _ I h=>wpAny_Constant_int ⟨.int i,H,I.tok _,⟨_,rfl⟩,h⟩
theorem dJ{b j pos}:PE X (.Constant (.bool b) j pos) (tC (.bl b)):=λ_ _ _ H _ I h=>Constant_bool ⟨.bl b,H,I,rfl,h⟩
theorem cj{j pos}:PE X (.Constant .none j pos) (tC .non):=λ_ _ _ H _ I h=>ajJ ⟨.non,H,I,rfl,h⟩
theorem cX{x j pos}:PE X (.Constant (.str x) j pos) (tC (.str x)):=λ_ _ _ H _ I h=>Calls.Constant_str ⟨.str x,H,I.tok _,⟨_,rfl⟩,h⟩
noncomputable def Gl(X:Cx)(x:Str):Prop:=X.env.kindOf x=some .globalImplicit
theorem pO{E:acY->acZ->Prop}{pins:List (ac6 × Obj)}{s:acZ}{σ:St}{H:Hp}{x:Str}{u:acY}{pos:Pos}{Q:acY->acZ->Prop}(I:Inv X pins σ H s)(hg:Gl X x)(hm:X.mg x=some u)(h:Q u s)
 (hd:(x == ("__debug__" : Str))=false:=by decide):adg (model X.prog X.w) X.A (eval (.Name x pos) X.env) Q E s :=
 ahD I.ok.kind hg (Calls.loadGlobal_global (by rw[I.ok.glob];exact I.mod.glob.keeps I.bk) hm h) hd
theorem eQ{E:acY->acZ->Prop}{pins:List (ac6 × Obj)}{s:acZ}{σ:St}{H:Hp}{x:Str}{u:acY}{pos:Pos}{Q:acY->acZ->Prop}(I:Inv X pins σ H s)(hg:Gl X x)(hm:X.mg x=none)(hv:ad3 x=some u)(h:Q u s)
 (hn:x ≠ "__name__" := by decide) (hd:(x == ("__debug__" : Str))=false:=by decide):adg (model X.prog X.w) X.A (eval (.Name x pos) X.env) Q E s:=by
 obtain⟨mb,h1,h2⟩:=I.mod.blt;exact ahD I.ok.kind hg (Calls.loadGlobal_builtin (by rw[I.ok.glob];exact I.mod.glob.keeps I.bk) hm (by rw[I.ok.blt];exact h1.keeps I.bk) ((h2 x hn).trans hv) h) hd
theorem OI{x:Str}{v:V}{u:acY}{pos:Pos}(hg:Gl X x)(hm:X.mg x=some u)(r:RelV v u)(hd:(x == ("__debug__" : Str))=false:=by decide):PE X (.Name x pos) (tC v) :=
 λ_ _ _ H _ I h=>pO I hg hm ⟨v,H,I,r,h⟩ hd
theorem nN{x:Str}{v:V}{u:acY}{pos:Pos}(hg:Gl X x)(hm:X.mg x=none)(hv:ad3 x=some u)(r:RelV v u)(hn:x ≠ "__name__" := by decide)(hd:(x == ("__debug__" : Str))=false:=by decide):PE X (.Name x pos) (tC v) :=
 λ_ _ _ H _ I h=>eQ I hg hm hv ⟨v,H,I,r,h⟩ hn hd
variable{a b:aeY}{ta tb:TE}{pos:Pos}
noncomputable def PC(X:Cx)(op:ali)(a b:aeY)(t:TE):Prop :=
 ∀ (pins:List (ac6 × Obj)) (s:acZ) (σ:St) (H:Hp) (Q:VK),Inv X pins σ H s->t σ H Q ->
  adg (model X.prog X.w) X.A (eval a X.env) (λv s₁=>adg (model X.prog X.w) X.A (eval b X.env) (λu s₂=>adg (model X.prog X.w) X.A (aeO op v u) (EP X pins σ Q) X.xe s₂) X.xe s₁) X.xe s
theorem EI(b:aeY){op:ali}(h:op ≠ .In)(h2:op ≠ .NotIn):afs op b=false:=by
 have e1:(op == CmpOp.In)=false:=by cases op<;>first|rfl|exact absurd rfl h
 have e2:(op == CmpOp.NotIn)=false:=by cases op<;>first|rfl|exact absurd rfl h2
 cases b<;>simp[afs,e1,e2]
noncomputable def EJ(ta:TE):TE:=λσ H Q=>ta σ H λx H1=>Q (.bl (decide (x = .non))) H1
noncomputable def EK(ta:TE):TE:=λσ H Q=>ta σ H λx H1=>Q (.bl (!decide (x = .non))) H1
theorem RelV.EL{x:V}{v:acY}(r:RelV x v):(v == Value.none)=decide (x = .non):=by
 cases x with
 | non=>cases r;rfl
 | bl _=>cases r;rfl
 | int _=>obtain⟨t,rfl⟩:=r;rfl
 | str _=>obtain⟨t,rfl⟩:=r;rfl
 | byt _=>obtain⟨t,rfl⟩:=r;rfl
 | flt _=>obtain⟨t,rfl⟩:=r;rfl
 | ref _=>cases r;rfl
 | ty _=>cases r;rfl
theorem EM{j pos'}(ha:PE X a ta):PC X .Is a (.Constant .none j pos') (EJ ta):=by intro pins s σ H Q I h;refine aA (ha pins s σ H _ I h) λv s1 ⟨x,H1,I1,r1,q1⟩=>?_;exact ajJ (is_none_gen ⟨.bl _,H1,I1,by rw[r1.EL];rfl,q1⟩)
theorem pP{j pos'}(ha:PE X a ta):PC X .IsNot a (.Constant .none j pos') (EK ta):=by intro pins s σ H Q I h;refine aA (ha pins s σ H _ I h) λv s1 ⟨x,H1,I1,r1,q1⟩=>?_;exact ajJ (isnot_none_gen ⟨.bl _,H1,I1,by rw[r1.EL];rfl,q1⟩)
noncomputable def tB(t:TE):TT:=λσ H Q=>t σ H λx H1=>∃ c,x = .bl c/\Q c H1
theorem pQ{op:ali}{t:TE}(h:PC X op a b t)(h1:afs op b=false:=by first|exact EI _ (by decide) (by decide)|rfl):PE X (.Compare a [op] [b] pos) t:=λpins s σ H Q I hw=>wpAny_Compare1 (h pins s σ H Q I hw) h1
theorem EN{op:ali}{t:TE}(h:PC X op a b t)(h1:afs op b=false:=by first|exact EI _ (by decide) (by decide)|rfl):PT X (.Compare a [op] [b] pos) (tB t):=by intro pins s σ H Q I hw;refine aiN (aA (h pins s σ H _ I hw) λv s1 h1=>aA h1 λu s2 h2=>aA h2 λc s3 ⟨x,H1,I1,r1,q1⟩=>?_) h1;obtain⟨d,rfl,q⟩:=q1;cases r1;exact aed ⟨H1,I1,q⟩
theorem OJ{e:aeY}{t:TE}(h:PE X e t)(he:∀ whole,akF e X.env whole=(do let v <- whole;alj e.pos;holding [v] (truthy v)):=by intro _;rfl):PT X e (tB t):=by intro pins s σ H Q I hw;refine isTrue_plain (aA (h pins s σ H _ I hw) λv s1 ⟨x,H1,I1,r1,q1⟩=>?_) (he _);obtain⟨d,rfl,q⟩:=q1;cases r1;exact aed ⟨H1,I1,q⟩
variable{tA sj:TT}{rest:List aeY}
noncomputable def EO(t u:TT):TT:=λσ H Q=>t σ H λc H1=>if c=true then u σ H1 Q else Q false H1
noncomputable def ER(t u:TT):TT:=λσ H Q=>t σ H λc H1=>if c=true then Q true H1 else u σ H1 Q
noncomputable def ES(t:TT):TT:=λσ H Q=>t σ H λc H1=>Q (!c) H1
theorem jL(ha:PT X a tA):PW X (.BoolOp .And [a] pos) tA:=by
 intro wh pins s σ H Q I h;refine isTrue_and (aA (ha pins s σ H Q I h) λc s1 e=>?_);cases c with
 | true=>exact isTrue_and_nil e
 | false=>exact e
theorem gO(ha:PT X a tA):PW X (.BoolOp .Or [a] pos) tA:=by
 intro wh pins s σ H Q I h;refine isTrue_or (aA (ha pins s σ H Q I h) λc s1 e=>?_);cases c with
 | false=>exact isTrue_or_nil e
 | true=>exact e
theorem jb(ha:PT X a tA)(hb:PW X (.BoolOp .And (b::rest) pos) sj):PW X (.BoolOp .And (a::b::rest) pos) (EO tA sj):=by
 intro wh pins s σ H Q I h;refine isTrue_and (aA (ha pins s σ H _ I h) λc s1 ⟨H1,I1,q1⟩=>?_);cases c with
 | true=>exact hb wh pins s1 σ H1 Q I1 q1
 | false=>exact⟨H1,I1,q1⟩
theorem eS(ha:PT X a tA)(hb:PW X (.BoolOp .Or (b::rest) pos) sj):PW X (.BoolOp .Or (a::b::rest) pos) (ER tA sj):=by
 intro wh pins s σ H Q I h;refine isTrue_or (aA (ha pins s σ H _ I h) λc s1 ⟨H1,I1,q1⟩=>?_);cases c with
 | true=>exact⟨H1,I1,q1⟩
 | false=>exact hb wh pins s1 σ H1 Q I1 q1
theorem d8(ha:PT X a tA):PT X (.UnaryOp .Not a pos) (ES tA):=by intro pins s σ H Q I h;exact isTrue_not (ha pins s σ H (λc H1=>Q (!c) H1) I h)
noncomputable def ET(ta tb:TE):TE:=λσ H Q=>ta σ H λx H1=>∃ c,x = .bl c/\if c=true then tb σ H1 Q else Q (.bl false) H1
noncomputable def EU(ta tb:TE):TE:=λσ H Q=>ta σ H λx H1=>∃ c,x = .bl c/\if c=true then Q (.bl true) H1 else tb σ H1 Q
noncomputable def EV(ta:TE):TE:=λσ H Q=>ta σ H λx H1=>∃ c,x = .bl c/\Q (.bl (!c)) H1
theorem jc{op}{t:TE}(h:PE X a t):PE X (.BoolOp op [a] pos) t:=λpins s σ H Q I hw=>BoolOp_one (h pins s σ H Q I hw)
theorem OL(ha:PE X a ta)(hb:PE X (.BoolOp .And (b::rest) pos) tb):PE X (.BoolOp .And (a::b::rest) pos) (ET ta tb):=by
 intro pins s σ H Q I h;refine BoolOp_and (aA (ha pins s σ H _ I h) λv s1 ⟨x,H1,I1,r1,q1⟩=>?_);obtain⟨c,rfl,q1⟩:=q1;cases r1;refine aed ?_;cases c with
 | true=>exact hb pins s1 σ H1 Q I1 q1
 | false=>exact⟨.bl false,H1,I1,rfl,q1⟩
theorem OM(ha:PE X a ta)(hb:PE X (.BoolOp .Or (b::rest) pos) tb):PE X (.BoolOp .Or (a::b::rest) pos) (EU ta tb):=by
 intro pins s σ H Q I h;refine BoolOp_or (aA (ha pins s σ H _ I h) λv s1 ⟨x,H1,I1,r1,q1⟩=>?_);obtain⟨c,rfl,q1⟩:=q1;cases r1;refine aed ?_;cases c with
 | false=>exact hb pins s1 σ H1 Q I1 q1
 | true=>exact⟨.bl true,H1,I1,rfl,q1⟩
theorem ON(ha:PE X a ta):PE X (.UnaryOp .Not a pos) (EV ta):=by intro pins s σ H Q I h;refine UnaryOp_ (aA (ha pins s σ H _ I h) λv s1 ⟨x,H1,I1,r1,q1⟩=>?_);obtain⟨c,rfl,q1⟩:=q1;cases r1;exact not_of (aed ⟨.bl (!c),H1,I1,rfl,q1⟩)
noncomputable def EW(t:TT)(ta tb:TE):TE:=λσ H Q=>t σ H λc H1=>if c=true then ta σ H1 Q else tb σ H1 Q
theorem nO{c:aeY}(hc:PT X c tA)(ha:PE X a ta)(hb:PE X b tb):PE X (.IfExp c a b pos) (EW tA ta tb):=by
 intro pins s σ H Q I h;refine wpAny_IfExp (aA (hc pins s σ H _ I h) λd s1 ⟨H1,I1,q1⟩=>?_);cases d with
 | true=>exact ha pins s1 σ H1 Q I1 q1
 | false=>exact hb pins s1 σ H1 Q I1 q1
end
noncomputable def ah(K:acS)(H:Hp)(a:ac6)(xs:List V):Prop :=
 Rd H a (.lst xs) ∨
  ∃ (o:Obj) (af:Array acY) (n:Nat),K.lookup a=some o/\o.cls = .type "list" /\ o.dict=none/\o.data = .seq af n/\af.size<=adz/\Vals xs af.toList
noncomputable def ax(K:acS)(H:Hp)(a:ac6)(xs:List V):Prop :=
 Rd H a (.tup xs) ∨
  ∃ (o:Obj) (af:Array acY) (n:Nat),K.lookup a=some o/\o.cls = .type "tuple" /\ o.data = .seq af n/\af.size<=adz/\Vals xs af.toList
noncomputable def OO:acY->Option V
 | .none=>some .non
 | .bool b=>some (.bl b)
 | .int i _=>some (.int i)
 | .str x _=>some (.str x)
 | .bytes b _=>some (.byt b)
 | .float b _=>some (.flt b)
 | .ref a=>some (.ref a)
 | .type n=>some (.ty n)
 | _=>none
theorem RelV.abs{x:V}{u:acY}(r:RelV x u):OO u=some x:=by
 cases x with
 | non=>cases r;rfl
 | bl _=>cases r;rfl
 | int _=>obtain⟨t,rfl⟩:=r;rfl
 | str _=>obtain⟨t,rfl⟩:=r;rfl
 | byt _=>obtain⟨t,rfl⟩:=r;rfl
 | flt _=>obtain⟨t,rfl⟩:=r;rfl
 | ref _=>cases r;rfl
 | ty _=>cases r;rfl
theorem RelV.inj{x y:V}{u:acY}(r:RelV x u)(q:RelV y u):x=y:=Option.some.inj (r.abs.symm.trans q.abs)
theorem Vals.inj:∀ {xs ys:List V} {us:List acY},Vals xs us->Vals ys us->xs=ys
 | _,_,_,.nil,.nil=>rfl
 | _,_,_,.cons r t,.cons r' t'=>by rw[r.inj r',Vals.inj t t']
section
variable{X:Cx}{pins:List (ac6 × Obj)}{σ:St}{H:Hp}{s:acZ}{a:ac6}{xs ys:List V}
theorem ah.of{K:acS}(h:H a=some (.lst xs)):ah K H a xs:=.inl (.inl h)
theorem ax.of{K:acS}(h:H a=some (.tup xs)):ax K H a xs:=.inl (.inl h)
theorem Inv.list(I:Inv X pins σ H s)(h:ah X.K H a xs):∃ af:List acY,Vals xs af/\PlainL s.heap a af.toArray/\xs.length<=adz:=by
 rcases h with h|⟨o,af,n,hk,hc,hd,hs,hz,r⟩
 .obtain⟨z,af,n,r,e⟩:=h.ok I.aj;exact⟨af,r,⟨_,n,e,rfl,rfl,rfl⟩,z⟩
 .refine⟨af.toList,r,⟨o,n,I.cv a o hk,hc,hd,by simpa using hs⟩,?_⟩;have e:=r.length;simp only[afO] at e;omega
theorem Inv.tuple(I:Inv X pins σ H s)(h:ax X.K H a xs):∃ af:List acY,Vals xs af/\IsTup s.heap a af.toArray/\xs.length<=adz:=by
 rcases h with h|⟨o,af,n,hk,hc,hs,hz,r⟩
 .obtain⟨z,af,r,p⟩:=h.ok I.aj;exact⟨af,r,p,z⟩
 .refine⟨af.toList,r,⟨o,I.cv a o hk,hc,n,by simpa using hs⟩,?_⟩;have e:=r.length;simp only[afO] at e;omega
theorem Inv.kH(I:Inv X pins σ H s)(h:ah X.K H a xs)(h':ah X.K H a ys):xs=ys:=by
 obtain⟨af,r,⟨o,n,e,_,_,d⟩,_⟩:=I.list h;obtain⟨its',r',⟨o',n',e',_,_,d'⟩,_⟩:=I.list h';rw[e] at e';cases e';rw[d] at d';injection d' with d1 _;have:af=its':=by simpa using congrArg akg d1
 subst this;exact r.inj r'
theorem Inv.OP(I:Inv X pins σ H s)(h:ax X.K H a xs)(h':ax X.K H a ys):xs=ys:=by
 obtain⟨af,r,⟨o,e,_,n,d⟩,_⟩:=I.tuple h;obtain⟨its',r',⟨o',e',_,n',d'⟩,_⟩:=I.tuple h';rw[e] at e';cases e';rw[d] at d';injection d' with d1 _;have:af=its':=by simpa using congrArg akg d1
 subst this;exact r.inj r'
end
noncomputable abbrev Cx.jd(X:Cx)(E:acY->acZ->Prop):Cx:={ X with xe:=E }
noncomputable abbrev Cx.sk(X:Cx):Cx:=X.jd λ_ _=>False
theorem Cx.Ok.jd{X:Cx}(ok:X.Ok)(E:acY->acZ->Prop):(X.jd E).Ok :=
 ⟨ok.mod,ok.kind,ok.glob,ok.blt,ok.above,ok.inj,ok.has,ok.cab,ok.hd,ok.frames,ok.stk,ok.exf,ok.bs,ok.bsz,ok.noex,ok.exfs,ok.gn,ok.frf⟩
theorem Cx.Ok.kI{X:Cx}{E:acY->acZ->Prop}(ok:(X.jd E).Ok):X.Ok :=
 ⟨ok.mod,ok.kind,ok.glob,ok.blt,ok.above,ok.inj,ok.has,ok.cab,ok.hd,ok.frames,ok.stk,ok.exf,ok.bs,ok.bsz,ok.noex,ok.exfs,ok.gn,ok.frf⟩
section
variable{X:Cx}{pins:List (ac6 × Obj)}{σ:St}{H:Hp}{s:acZ}{E:acY->acZ->Prop}
theorem Inv.jd(I:Inv X pins σ H s)(E:acY->acZ->Prop):Inv (X.jd E) pins σ H s:=⟨I.ok.jd E,I.os,I.bare,I.base,I.loc,I.cell,I.free,I.fM,I.pin,I.aj,I.len⟩
theorem Inv.kI(I:Inv (X.jd E) pins σ H s):Inv X pins σ H s:=⟨I.ok.kI,I.os,I.bare,I.base,I.loc,I.cell,I.free,I.fM,I.pin,I.aj,I.len⟩
theorem SP.kI{D:Ends}{f:Flow}{s':acZ}(h:SP (X.jd E) pins D f s'):SP X pins D f s':=by
 cases f with
 | next=>obtain⟨σ',H',I,q⟩:=h;exact⟨σ',H',I.kI,q⟩
 | brk=>obtain⟨σ',H',I,q⟩:=h;exact⟨σ',H',I.kI,q⟩
 | cont=>obtain⟨σ',H',I,q⟩:=h;exact⟨σ',H',I.kI,q⟩
 | ret u=>obtain⟨v,σ',H',I,r,q⟩:=h;exact⟨v,σ',H',I.kI,r,q⟩
theorem bw.sk{st:List afr}{t:TS}(h:bw X.sk st t):bw X st t:=λpins s σ H D I hw =>
 adJ (h pins s σ H D (I.jd _) hw) (λ_ _ q=>q.kI) λ_ _ z=>afq z
variable{X:Cx}{st:afr}{rest:List afr}{t u:TS}{e:aeY}{te:TE}{pos:Pos}
noncomputable def EX:TS:=λD σ H=>D.nx σ H
noncomputable def vV(t u:TS):TS:=λD σ H=>t { D with nx:=u D } σ H
theorem aV:bw X [] EX:=λ_ _ σ H _ I h=>aiO ⟨σ,H,I,h⟩
theorem aq(h1:PS X st t)(h2:bw X rest u):bw X (st::rest) (vV t u):=by
 intro pins s σ H D I h;refine akn (aA (h1 pins s σ H { D with nx:=u D } I h) λf s1 q=>?_);cases f with
 | next =>
  obtain⟨σ',H',I',q⟩:=q;exact h2 pins s1 σ' H' D I' q
 | ret v=>exact q
 | brk=>exact q
 | cont=>exact q
theorem au(h1:PS X st t):bw X [st] t:=by
 intro pins s σ H D I h;refine akn (aA (h1 pins s σ H D I h) λf s1 q=>?_);cases f with
 | next=>exact aiO q
 | ret v=>exact q
 | brk=>exact q
 | cont=>exact q
theorem Inv.quiet{pins:List (ac6 × Obj)}{σ:St}{H:Hp}{s:acZ}(I:Inv X pins σ H s):interactive X.env=false:=by simp[interactive,I.ok.kind]
noncomputable def EY(te:TE):TS:=λD σ H=>te σ H λ_ H1=>D.nx σ H1
theorem gp(he:PE X e te)(hs:aiP e none pos.line X.env=pure false:=by rfl):PS X (.Expr e pos) (EY te):=by intro pins s σ H D I h;exact wpAny_Expr_any (aA (he pins s σ H _ I h) λv s1 ⟨x,H1,I1,r1,q1⟩=>⟨σ,H1,I1,q1⟩) I.quiet hs
noncomputable def EZ(te:TE):TS:=λD σ H=>te σ H D.rt
theorem aH(he:PE X e te):PS X (.Return (some e) pos) (EZ te):=by intro pins s σ H D I h;exact wpAny_Return_some (aA (he pins s σ H _ I h) λv s1 ⟨x,H1,I1,r1,q1⟩=>⟨x,σ,H1,I1,r1,q1⟩)
noncomputable def E2(c:TT)(t u:TS):TS:=λD σ H=>c σ H λb H1=>if b=true then t D σ H1 else u D σ H1
theorem aT{c:aeY}{a b:List afr}{tc:TT}(hc:PT X c tc)(ha:bw X a t)(hb:bw X b u):PS X (.If c a b pos) (E2 tc t u):=by
 intro pins s σ H D I h;refine wpAny_If (aA (hc pins s σ H _ I h) λd s1 ⟨H1,I1,q1⟩=>?_);cases d with
 | true=>exact ha pins s1 σ H1 D I1 q1
 | false=>exact hb pins s1 σ H1 D I1 q1
end
noncomputable abbrev TG:=V->St->Hp->(St->Hp->Prop)->Prop
noncomputable abbrev mn:=List V->St->Hp->(St->Hp->Prop)->Prop
noncomputable def PG(X:Cx)(target:aeY)(t:TG):Prop :=
 ∀ (pins:List (ac6 × Obj)) (s:acZ) (σ:St) (H:Hp) (v:V) (u:acY) (Q:St->Hp->Prop),Inv X pins σ H s->RelV v u->t v σ H Q ->
  adg (model X.prog X.w) X.A (assign target X.env u) (λ_ s'=>∃ σ' H',Inv X pins σ' H' s'/\Q σ' H') X.xe s
noncomputable def sm(X:Cx)(ts:List aeY)(t:mn):Prop :=
 ∀ (pins:List (ac6 × Obj)) (s:acZ) (σ:St) (H:Hp) (vs:List V) (us:List acY) (Q:St->Hp->Prop),Inv X pins σ H s->Vals vs us->t vs σ H Q ->
  adg (model X.prog X.w) X.A (assignInOrder ((ah1 ts X.env).map (·.2)) us) (λ_ s'=>∃ σ' H',Inv X pins σ' H' s'/\Q σ' H') X.xe s
noncomputable abbrev vW:=V->V->V->Hp->(Hp->Prop)->Prop
noncomputable def E3(X:Cx)(t:vW):Prop :=
 ∀ (pins:List (ac6 × Obj)) (s:acZ) (σ:St) (H:Hp) (o i v:V) (ov iv u:acY) (Q:Hp->Prop),Inv X pins σ H s->RelV o ov->RelV i iv->RelV v u->t o i v H Q ->
  adg (model X.prog X.w) X.A (setItem ov iv u) (λ_ s'=>∃ H',Inv X pins σ H' s'/\Q H') X.xe s
section
variable{X:Cx}{pos:Pos}
noncomputable def bR(i:Nat):TG:=λv σ H Q=>Q (σ.set i (some v)) H
theorem bf{i:Nat}{x:Str}(hN:X.N.Nodup)(hi:X.N[i]?=some x)(hx:Loc X.env.scope x)(hf:X.fn x=true∨X.env.scope.names.lookup x=some .local:=by first|exact .inl rfl|exact .inr rfl|assumption):PG X (.Name x pos) (bR i):=by intro pins s σ H v u Q I r h;exact wpAny_assign_Name (EH I hN hi hx r (λs' I'=>⟨_,H,I',h⟩) hf)
noncomputable def gq:mn:=λvs σ H Q=>vs=[]/\Q σ H
noncomputable def bU(t:TG)(u:mn):mn:=λvs σ H Q=>∃ v r,vs=v::r/\t v σ H λσ' H'=>u r σ' H' Q
theorem gu:sm X [] gq:=by intro pins s σ H vs us Q I r h;obtain⟨e,h⟩:=h;subst e;cases r;exact assignInOrder_nil ⟨σ,H,I,h⟩
theorem bW{e:aeY}{es:List aeY}{t:TG}{u:mn}(h1:PG X e t)(h2:sm X es u)
 (hs:(ah1 (e::es) X.env).map (·.2)=assign e X.env::(ah1 es X.env).map (·.2):=by rfl):sm X (e::es) (bU t u):=by
 intro pins s σ H vs us Q I r h;obtain⟨v,vr,e1,h⟩:=h;subst e1;cases r with
 | cons r rr =>
  rw[hs];refine assignInOrder_cons (aA (h1 pins s σ H _ _ _ I r h) λ_ s1 ⟨σ1,H1,I1,q1⟩=>?_);exact h2 pins s1 σ1 H1 _ _ Q I1 rr q1
noncomputable def gP(K:acS)(n:Nat)(t:mn):TG:=λv σ H Q=>∃ a xs,v = .ref a/\ax K H a xs/\xs.length=n/\t xs σ H Q
theorem gv{es:List aeY}{k:Nat}{t:mn}{n:Nat}(hc:X.calm=true)(h:sm X es t)
 (hn:(ah1 es X.env).length=n:=by rfl) (bC:(ah1 es X.env).findIdx? (·.1)=none:=by rfl):PG X (.Tuple es k pos) (gP X.K n t):=by
 intro pins s σ H v u Q I r hw;obtain⟨a,xs,e1,hq,hl,hw⟩:=hw;subst e1;cases r;obtain⟨af,rv,ht,hz⟩:=I.tuple hq;refine assign_Tuple_tuple (I.ok.hd hc) ht (by simp[hn,<- hl,rv.length]) bC λh' hx=>?_;have I1:Inv X pins σ H { s with heap:=h' }:=I.kept (t':=s.toks) λb o e=>hx b o (adp (ac0 e)) e;exact h pins _ σ H xs _ Q I1 (by simpa using rv) hw
noncomputable def E4(to ti:TE)(t:vW):TG:=λv σ H Q=>to σ H λo H1=>ti σ H1 λi H2=>t o i v H2 λH3=>Q σ H3
theorem so{o i:aeY}{to ti:TE}{t:vW}(ho:PE X o to)(hi:PE X i ti)(hs:E3 X t)
 (ha:∀ v,assign (.Subscript o i pos) X.env v=(do
   let ov <- holding [v] (eval o X.env);let iv <- holding [v,ov] (eval i X.env)
   alj pos
   holding [v,ov,iv] (setItem ov iv v)
   release [v,ov,iv] []):=by intro _;rfl):PG X (.Subscript o i pos) (E4 to ti t):=by
 intro pins s σ H v u Q I r h;rw[ha];refine acR (adZ (aA (ho pins s σ H _ I h) λov s1 ⟨x,H1,I1,r1,q1⟩=>?_));refine acR (adZ (aA (hi pins s1 σ H1 _ I1 q1) λiv s2 ⟨y,H2,I2,r2,q2⟩=>?_));refine acR (ajK (acR (adZ (aA (hs pins s2 σ H2 x y v ov iv u _ I2 r1 r2 r q2) λ_ s3 ⟨H3,I3,q3⟩=>?_))));exact wpAny_release ⟨σ,H3,I3,q3⟩
noncomputable def vX(te:TE)(g:TG):TS:=λD σ H=>te σ H λx H1=>g x σ H1 D.nx
theorem sq{tg e:aeY}{te:TE}{g:TG}(he:PE X e te)(hg:PG X tg g)(hs:swapsWithSole [tg] e pos.line X.env=pure false:=by rfl)(hw:swappedStores [tg] e X.env=pure none:=by rfl)
 (h1:(ah1 [tg] X.env).map (·.2)=[assign tg X.env]:=by rfl):PS X (.Assign [tg] e pos) (vX te g):=by
 intro pins s σ H D I h;refine wpAny_Assign_stores (aA (he pins s σ H _ I h) λv s1 ⟨x,H1,I1,r1,q1⟩=>?_) hs hw;rw[h1];exact aA (hg pins s1 σ H1 x v _ I1 r1 q1) λ_ s2 q=>q
theorem aE{i:Nat}{x:Str}{e:aeY}{te:TE}{pos':Pos}(hN:X.N.Nodup)(hi:X.N[i]?=some x)(hx:Loc X.env.scope x)(he:PE X e te)(hs:aiP e (some (.Name x pos')) pos.line X.env=pure false:=by rfl)(hf:X.fn x=true∨X.env.scope.names.lookup x=some .local:=by first|exact .inl rfl|exact .inr rfl|assumption) :
 PS X (.Assign [.Name x pos'] e pos) (vX te (bR i)):=by
 intro pins s σ H D I h;refine wpAny_Assign_Name (aA (he pins s σ H _ I h) λv s1 ⟨y,H1,I1,r1,q1⟩=>?_) hs;exact EH I1 hN hi hx r1 (λs2 I2=>⟨_,H1,I2,q1⟩) hf
variable{X:Cx}{pos:Pos}
end
structure It where
 go:Nat->Hp->Prop
 yld:Nat->Hp->V->Hp->Prop
 stop:Nat->Hp->Prop
noncomputable def cw(X:Cx)(pins:List (ac6 × Obj))(H:Hp)(b:ac6):Prop :=
 H b=none/\b≠X.env.locals/\b∉X.fs/\(b∈X.ex∨X.s₀.heap.objs.size<=b)/\(∀ x c,X.env.cells.lookup x=some c->c≠b)/\∀ p∈X.pn++pins,p.1≠b
theorem Inv.d9{X:Cx}{pins:List (ac6 × Obj)}{σ:St}{H H':Hp}{s:acZ}{b:ac6}(I:Inv X pins σ H s)(hb:s.heap.objs.size<=b)(hn:H' b=none):cw X pins H' b:=by
 refine⟨hn,aec (adn I.lt hb),I.sf hb,.inr (adb I.sz hb),λx c e z=>?_,λp hp z=>?_⟩
 .obtain⟨v,q⟩:=I.cell x c e;exact absurd (adn q.lt (by rw[z];exact hb)) (aeN _)
 .exact absurd (adn (ac0 (I.pin p hp).1) (by rw[z];exact hb)) (aeN _)
structure Turn(P:ado)(w:adM)(K:acS)(tg:aeY)(J:It)(fp:List ac6)(it:ac6)(tn:Nat->aeA->Prop):Prop where
 mem:it∈fp
 obj:∀ i h,tn i h->∀ b∈fp,∃ o,h.get? b=some o/\∀ v,o.data ≠ .cell v
 keep:∀ i h h',tn i h->(∀ b∈fp,∀ o,h.get? b=some o->h'.get? b=some o)->tn i h'
 item:∀ (X:Cx),X.prog=P->X.w=w->X.K=K->X.calm=true->∀ (i:Nat) (pins:List (ac6 × Obj)) (s:acZ) (σ:St) (H:Hp) (E:acY->acZ->Prop),Inv X pins σ H s->(∀ b∈fp,cw X pins H b)->tn i s.heap->J.go i H ->
  adg (model P w) X.A (ae7 (.ref it)) (λr s1=>∃ u,r=some u /\
   adg (model P w) X.A (afe tg (.ref it) u) (λ_ s2=>∃ x H',Inv X pins σ H' s2/\RelV x u/\J.yld i H x H'/\tn (i+1) s2.heap/\∀ b∈fp,H' b=none) E s1) E s
 done:∀ (X:Cx),X.prog=P->X.w=w->X.K=K->X.calm=true->∀ (i:Nat) (pins:List (ac6 × Obj)) (s:acZ) (σ:St) (H:Hp) (E:acY->acZ->Prop),Inv X pins σ H s->(∀ b∈fp,cw X pins H b)->tn i s.heap->J.stop i H ->
  adg (model P w) X.A (ae7 (.ref it)) (λr s1=>r=none/\Inv X pins σ H s1) E s
 self:∀ (A:adQ) (i:Nat) (s:acZ) (Q:acY->acZ->Prop) (E:acY->acZ->Prop),tn i s.heap->Q (.ref it) s->adg (model P w) A (alx (.ref it)) Q E s
noncomputable abbrev TI:=St->Hp->(It->Hp->Prop)->Prop
noncomputable def E5(X:Cx)(pins:List (ac6 × Obj))(σ:St)(tg:aeY)(R:It->Hp->Prop)(nP:acY)(s2:acZ):Prop :=
 ∃ (it:ac6) (fp:List ac6) (tn:Nat->aeA->Prop) (J:It) (H':Hp),nP = .ref it/\Inv X pins σ H' s2/\Turn X.prog X.w X.K tg J fp it tn/\tn 0 s2.heap/\(∀ b∈fp,cw X pins H' b)/\R J H'
noncomputable def PI(X:Cx)(tg iter:aeY)(wi:TI):Prop :=
 ∀ (pins:List (ac6 × Obj)) (s:acZ) (σ:St) (H:Hp) (R:It->Hp->Prop),Inv X pins σ H s->wi σ H R ->
  adg (model X.prog X.w) X.A (eval iter X.env) (λv s1=>adg (model X.prog X.w) X.A (alx v) (E5 X pins σ tg R) X.xe s1) X.xe s
theorem nQ{M:Model}{A:adQ}{E:acY->acZ->Prop}{s:acZ}{tg:aeY}{it:ac6}{u:acY}{o:Obj}{n:String}{vs:Array acY}{Q:Unit->acZ->Prop}(ho:s.heap.get? it=some o)(hc:o.cls = .type n)(hd:o.data = .fields vs)
 (hn:["enumerate","zip","dict_itemiterator","dict_reverseitemiterator","odict_iterator","itertools.zip_longest","itertools.pairwise"].contains n=false) (hQ:Q () s):adg M A (afe tg (.ref it) u) Q E s:=by
 unfold afe;cases tg<;>first
  | exact acX hQ
  | (cases u<;>first
      | exact acX hQ
      | (refine acR (wpAny_load ho ?_)
         rw[hc,hd];show adg M A (if (["enumerate","zip","dict_itemiterator","dict_reverseitemiterator","odict_iterator","itertools.zip_longest","itertools.pairwise"].contains n && vs[0]? == some (agf _))=true then _ else _) Q E s;rw[if_neg (by intro h;rw[hn,aju] at h;cases h)];exact acX hQ))
noncomputable def iB(K:acS)(a:ac6):It :=
 ⟨λi H=>∃ xs x,ah K H a xs/\xs[i]?=some x,λi H x H'=>H'=H/\∀ xs,ah K H a xs->xs[i]?=some x,λi H=>∃ xs,ah K H a xs/\xs.length<=i⟩
noncomputable def pR(K:acS)(a:ac6):It :=
 ⟨λi H=>∃ xs x,ax K H a xs/\xs[i]?=some x,λi H x H'=>H'=H/\∀ xs,ax K H a xs->xs[i]?=some x,λi H=>∃ xs,ax K H a xs/\xs.length<=i⟩
noncomputable def iC(lo:Int)(n:Nat):It:=⟨λi _=>i<n,λi H x H'=>H'=H/\x = .int (lo+i),λi _=>n<=i⟩
theorem OQ{P:ado}{w:adM}{K:acS}{tg:aeY}(a it:ac6):Turn P w K tg (iB K a) [it] it (λi h=>h.IsListIter it a i) where
 mem:=by simp
 obj:=λi h st b hb=>by
  have e:b=it:=by simpa using hb
  subst e;obtain⟨o,e,c,d⟩:=st;exact⟨o,e,λv z=>by rw[d] at z;cases z⟩
 keep:=λi h h' st k=>st.at λo e=>k it (by simp) o e
 item:=by intro X hP hw hK hc i pins s σ H E I hf st hg;subst hP hw hK;obtain⟨xs,x,hq,hx⟩:=hg;obtain⟨af,rv,p,hz⟩:=I.list hq;obtain⟨u,hu,ru⟩:=rv.get hx;obtain⟨f0,f1,f2,f3,f4,f5⟩:=hf it (by simp);refine wpAny_pyNext_list_item st p.isList (x:=u) (by simpa using hu) λh' b5 sb=>?_;have I1:Inv X pins σ H { s with heap:=h' }:=I.turned (t':=s.toks) (λb o hb e=>(sb.2 b hb).trans e) f0 f1 f3 f4 f5;obtain⟨o,e,c,d⟩:=id b5;exact⟨u,rfl,nQ (s:={ s with heap:=h' }) e c d (by decide) ⟨x,H,I1,ru,⟨rfl,λys hy=>by rw[I.kH hy hq];exact hx⟩,b5,λb hb=>(hf b hb).1⟩⟩
 done:=by
  intro X hP hw hK hc i pins s σ H E I hf st hg;subst hP hw hK;obtain⟨xs,hq,hx⟩:=hg;obtain⟨af,rv,p,hz⟩:=I.list hq;obtain⟨f0,f1,f2,f3,f4,f5⟩:=hf it (by simp);have hl:=rv.length;exact wpAny_pyNext_list_end (I.ok.hd hc) st p.isList (by simp;omega) λh' eb=>⟨rfl,I.turned (t':=s.toks) (λb o hb e=>eb b o hb e) f0 f1 f3 f4 f5⟩
 self:=λ_ _ _ _ _ st h=>wpAny_pyIter_listiter st h
theorem OR{P:ado}{w:adM}{K:acS}{tg:aeY}(a it:ac6):Turn P w K tg (pR K a) [it] it (λi h=>h.IsTupleIter it a i) where
 mem:=by simp
 obj:=λi h st b hb=>by
  have e:b=it:=by simpa using hb
  subst e;obtain⟨o,e,c,d⟩:=st;exact⟨o,e,λv z=>by rw[d] at z;cases z⟩
 keep:=λi h h' st k=>st.at λo e=>k it (by simp) o e
 item:=by intro X hP hw hK hc i pins s σ H E I hf st hg;subst hP hw hK;obtain⟨xs,x,hq,hx⟩:=hg;obtain⟨af,rv,p,hz⟩:=I.tuple hq;obtain⟨u,hu,ru⟩:=rv.get hx;obtain⟨f0,f1,f2,f3,f4,f5⟩:=hf it (by simp);refine wpAny_pyNext_tuple_item st (show s.heap.IsTuple a af.toArray from p) (x:=u) (by simpa using hu) λh' b5 sb=>?_;have I1:Inv X pins σ H { s with heap:=h' }:=I.turned (t':=s.toks) (λb o hb e=>(sb.2 b hb).trans e) f0 f1 f3 f4 f5;obtain⟨o,e,c,d⟩:=id b5;exact⟨u,rfl,nQ (s:={ s with heap:=h' }) e c d (by decide) ⟨x,H,I1,ru,⟨rfl,λys hy=>by rw[I.OP hy hq];exact hx⟩,b5,λb hb=>(hf b hb).1⟩⟩
 done:=by
  intro X hP hw hK hc i pins s σ H E I hf st hg;subst hP hw hK;obtain⟨xs,hq,hx⟩:=hg;obtain⟨af,rv,p,hz⟩:=I.tuple hq;obtain⟨f0,f1,f2,f3,f4,f5⟩:=hf it (by simp);have hl:=rv.length;exact wpAny_pyNext_tuple_end (I.ok.hd hc) st (show s.heap.IsTuple a af.toArray from p) (by simp;omega) λh' eb=>⟨rfl,I.turned (t':=s.toks) (λb o hb e=>eb b o hb e) f0 f1 f3 f4 f5⟩
 self:=λ_ _ _ _ _ st h=>wpAny_pyIter_tupleiter st h
theorem OS{P:ado}{w:adM}{K:acS}{tg:aeY}(it:ac6)(lo:Int)(n:Nat):Turn P w K tg (iC lo n) [it] it (λi h=>ajA h it (lo+(i:Nat) * 1) ((n:Int)-(i:Nat)) 1) where
 mem:=by simp
 obj:=λi h st b hb=>by
  have e:b=it:=by simpa using hb
  subst e;exact⟨_,st,λv z=>by
   have z':aie _=ag9 v:=z;cases z'⟩
 keep:=λi h h' st k=>k it (by simp) _ st
 item:=by intro X hP hw hK hc i pins s σ H E I hf st hg;subst hP hw hK;obtain⟨f0,f1,f2,f3,f4,f5⟩:=hf it (by simp);have W:=Walks.range (prog:=X.prog) (w:=X.w) (I.ok.hd hc) it lo 1 n;refine W.item i s _ _ hg st λv h' tk hv b5 kk=>?_;obtain⟨t,rfl⟩:=hv;have I1:Inv X pins σ H { s with heap:=h',toks:=tk }:=I.turned (λb o hb e=>kk b o (by simpa using hb) e) f0 f1 f3 f4 f5;refine⟨_,rfl,nQ (s:={ s with heap:=h',toks:=tk }) (n := "range_iterator") b5 rfl rfl (by decide) ⟨.int (lo+i),H,I1,⟨t,?_⟩,⟨rfl,rfl⟩,b5,λb hb=>(hf b hb).1⟩⟩;rw[Int.mul_one]
 done:=by
  intro X hP hw hK hc i pins s σ H E I hf st hg;subst hP hw hK;obtain⟨f0,f1,f2,f3,f4,f5⟩:=hf it (by simp);exact aiz (I.ok.hd hc) st (by have:n<=i:=hg;omega) λh' eb=>⟨rfl,I.turned (t':=s.toks) (λb o hb e=>eb b o hb e) f0 f1 f3 f4 f5⟩
 self:=λ_ _ _ _ _ st h=>aiA st h
section
variable{X:Cx}{tg:aeY}
noncomputable def su(K:acS)(tl:TE):TI:=λσ H R=>tl σ H λx H1=>∃ a,x = .ref a/\(∃ xs,ah K H1 a xs)/\R (iB K a) H1
noncomputable def vY(K:acS)(tl:TE):TI:=λσ H R=>tl σ H λx H1=>∃ a,x = .ref a/\(∃ xs,ax K H1 a xs)/\R (pR K a) H1
theorem ck{l:aeY}{tl:TE}(hl:PE X l tl):PI X tg l (su X.K tl):=by
 intro pins s σ H R I h;refine aA (hl pins s σ H _ I h) λv s1 ⟨x,H1,I1,r1,q1⟩=>?_;obtain⟨a,e,⟨xs,hq⟩,q⟩:=q1;subst e;cases r1;obtain⟨af,rv,p,hz⟩:=I1.list hq;refine afF p.isList ?_;refine⟨s1.heap.objs.size,[s1.heap.objs.size],_,_,H1,rfl,I1.kept (t':=s1.toks) λb o e=>acT _ e,OQ a _,⟨_,ac3 _ rfl,rfl,rfl⟩,λb hb=>?_,q⟩;have e:b=s1.heap.objs.size:=by simpa using hb
 subst e;exact I1.d9 (ac8 _) (I1.aj.fresh (ac8 _))
theorem vZ{l:aeY}{tl:TE}(hl:PE X l tl):PI X tg l (vY X.K tl):=by
 intro pins s σ H R I h;refine aA (hl pins s σ H _ I h) λv s1 ⟨x,H1,I1,r1,q1⟩=>?_;obtain⟨a,e,⟨xs,hq⟩,q⟩:=q1;subst e;cases r1;obtain⟨af,rv,p,hz⟩:=I1.tuple hq;refine ajL (show s1.heap.IsTuple a af.toArray from p) ?_;refine⟨s1.heap.objs.size,[s1.heap.objs.size],_,_,H1,rfl,I1.kept (t':=s1.toks) λb o e=>acT _ e,OR a _,⟨_,ac3 _ rfl,rfl,rfl⟩,λb hb=>?_,q⟩;have e:b=s1.heap.objs.size:=by simpa using hb
 subst e;exact I1.d9 (ac8 _) (I1.aj.fresh (ac8 _))
theorem OT{pins:List (ac6 × Obj)}{σ:St}{H:Hp}{s:acZ}{R:It->Hp->Prop}{E:acY->acZ->Prop}{lo hi:Int}{t u v:Tok}{tk:Nat}(I:Inv X pins σ H s)(h1 : -(2 ^ 62)<=lo)(h2:lo<2 ^ 62)(h3 : -(2 ^ 62)<=hi)(h4:hi<2 ^ 62)
 (q:R (iC lo (hi-lo).toNat) H):adg (model X.prog X.w) X.A (alx (.ref s.heap.objs.size)) (E5 X pins σ tg R) E { s with heap:=s.heap.push { cls:=.type "range",data:=.fields #[.int lo t,.int hi u,.int 1 v] },toks:=tk }:=by
 refine ajM (IsRange.new ..) (small_one h1 h2 h3 h4) ?_;have I1:Inv X pins σ H { s with heap:=s.heap.push { cls:=.type "range",data:=.fields #[.int lo t,.int hi u,.int 1 v] },toks:=tk }:=I.kept λb o e=>acT _ e;refine⟨(s.heap.push { cls:=.type "range",data:=.fields #[.int lo t,.int hi u,.int 1 v] }).objs.size,[(s.heap.push { cls:=.type "range",data:=.fields #[.int lo t,.int hi u,.int 1 v] }).objs.size],_,_,H,rfl,
  I1.kept (t':=tk) λb o e=>acT _ e,OS _ lo (hi-lo).toNat,?_,λb hb=>?_,q⟩
 .have e1:lo+((0:Nat):Int) * 1=lo:=by simp
  have e2:(((hi-lo).toNat:Nat):Int)-((0:Nat):Int)=aef lo hi 1:=by rw[rangeSize_one];split<;>omega
  show ajA _ _ (lo+((0:Nat):Int) * 1) ((((hi-lo).toNat:Nat):Int)-((0:Nat):Int)) 1;rw[e1,e2];exact ac3 _ rfl
 .have e:b=(s.heap.push { cls:=.type "range",data:=.fields #[.int lo t,.int hi u,.int 1 v] }).objs.size:=by simpa using hb
  subst e;exact I1.d9 (ac8 _) (I1.aj.fresh (ac8 _))
noncomputable def v3(ta:TA):TI:=λσ H R=>ta σ H λvs H1=>∃ j:Int,vs=[.int j]/\-(2 ^ 62)<=j/\j<2 ^ 62/\R (iC 0 j.toNat) H1
noncomputable def E6(ta:TA):TI:=λσ H R=>ta σ H λvs H1=>∃ i j:Int,vs=[.int i,.int j]/\(-(2 ^ 62)<=i/\i<2 ^ 62/\-(2 ^ 62)<=j/\j<2 ^ 62)/\R (iC i (j-i).toNat) H1
theorem fv{a:aeY}{ta:TA}{p pos:Pos}(hg:Gl X "range")(hm:X.mg "range" = none)(ha:PA X [a] ta)(hs:adC [a] X.env=[(false,eval a X.env)]:=by rfl):PI X tg (.Call (.Name "range" p) [a] [] pos) (v3 ta):=by
 intro pins s σ H R I h;refine alO (eQ I hg hm boot_range (adT (aA (ha pos pins s σ H _ I h) λus s1 ⟨vs,H1,I1,r1,q1⟩=>?_) hs rfl));obtain⟨j,e,q1,q2,q⟩:=q1;subst e;cases r1 with
 | cons r rr =>
  cases rr;obtain⟨t,rfl⟩:=r;exact call_range_1 (OT I1 (by omega) (by omega) q1 q2 (by simpa using q))
noncomputable def jf(wi:TI)(g:TG)(tb:TS):TS:=λD σ H=>wi σ H λJ H1=>∃ W:Nat->Nat->St->Hp->Prop,(∃ m,W 0 m σ H1)/\∀ i m σ H,W i m σ H ->
 (J.stop i H/\D.nx σ H)∨(J.go i H/\∃ N:St->Hp->Prop,(∀ σ' H',N σ' H'->∃ m',m'<m/\W (i+1) m' σ' H')/\∀ x H',J.yld i H x H'->g x σ H' λσ2 H2=>tb { D with nx:=N,ct:=N,bk:=D.nx } σ2 H2)
noncomputable def mq(fp:List ac6)(h:aeA):List (ac6 × Obj):=fp.filterMap λb=>(h.get? b).map λo=>(b,o)
theorem kJ{fp:List ac6}{h:aeA}{b:ac6}{o:Obj}(hb:b∈fp)(e:h.get? b=some o):(b,o)∈mq fp h:=aft.mpr ⟨b,hb,by rw[e];rfl⟩
theorem OU{fp:List ac6}{h:aeA}{p:ac6 × Obj}(hp:p∈mq fp h):p.1∈fp/\h.get? p.1=some p.2:=by
 obtain⟨b,hb,e⟩:=aft.mp hp;cases q:h.get? b with
 | none=>rw[q] at e;cases e
 | some o =>
  rw[q] at e;have e':(b,o)=p:=Option.some.inj e;subst e';exact⟨hb,q⟩
theorem Inv.pinned{pins:List (ac6 × Obj)}{σ:St}{H:Hp}{s:acZ}{fp:List ac6}(I:Inv X pins σ H s)(hf:∀ b∈fp,cw X pins H b)(ho:∀ b∈fp,∃ o,s.heap.get? b=some o/\∀ v,o.data ≠ .cell v):Inv X (pins++mq fp s.heap) σ H s :=
 I.iA λp hp=>(adm.mp hp).elim (λz=>I.pin p (ac1 _ z)) λz=>by obtain⟨hb,e⟩:=OU z;obtain⟨f0,f1,f2,_⟩:=hf p.1 hb;obtain⟨o,e',d⟩:=ho p.1 hb;rw[e] at e';cases e';exact⟨e,f0,f1,f2,d⟩
theorem Inv.mr{pins pl:List (ac6 × Obj)}{σ:St}{H:Hp}{s:acZ}(I:Inv X (pins++pl) σ H s):Inv X pins σ H s:=I.iA λp hp=>I.pin p (ac1 _ (adD _ hp))
theorem cL{iter:aeY}{body:List afr}{wi:TI}{g:TG}{tb:TS}{pos:Pos}(hp:PassesOwn (model X.prog X.w) X.A X.env X.xe)(hc:X.calm=true)(hi:PI X tg iter wi)(hg:PG X tg g)(hb:bw X body tb)
 (hs:∀ x,af7 iter X.env x=pure x:=by intro _;rfl):PS X (.For tg iter body [] pos) (jf wi g tb):=by
 intro pins s σ H D I h;refine wpAny_For (aA (hi pins s σ H _ I h) λv s1 h1=>aA h1 λnP s2 h2=>?_) hs;obtain⟨it,fp,tn,J,H2,e,I2,T,df,f2,W,⟨m0,w0⟩,turn⟩:=h2;subst e;have v5:∀ {H':Hp},(∀ b∈fp,H' b=none)->∀ b∈fp,cw X pins H' b:=λhn b hb=>⟨hn b hb,(f2 b hb).2⟩
 refine codeAny_forLoop_any (λn s'=>∃ i σ' H',Inv X pins σ' H' s'/\tn i s'.heap/\(∀ b∈fp,H' b=none)/\W i n σ' H') ?_ m0 ⟨0,σ,H2,I2,df,λb hb=>(f2 b hb).1,w0⟩;rintro n s3 ⟨i,σ3,H3,I3,iD,iE,w3⟩;rcases turn i n σ3 H3 w3 with ⟨stop,qn⟩|⟨go,N,hN,step⟩
 .refine agE hp (aA (T.done X rfl rfl rfl hc i pins s3 σ3 H3 X.xe I3 (v5 iE) iD stop) λr s4 ⟨hr,I4⟩=>?_);subst hr;exact aiO ⟨σ3,H3,I4,qn⟩
 .refine agE hp (aA (T.item X rfl rfl rfl hc i pins s3 σ3 H3 X.xe I3 (v5 iE) iD go) λr s4 ⟨u,hr,h4⟩=>?_);subst hr;refine agE hp (aA h4 λ_ s5 ⟨x,H5,I5,r5,y5,fz,mv⟩=>?_);have mw:=I5.pinned (v5 mv) (T.obj _ _ fz);refine agE hp (aA (hg _ s5 σ3 H5 x u _ mw r5 (step x H5 y5)) λ_ s6 ⟨σ6,H6,I6,q6⟩=>?_);refine agE hp (aA (hb _ s6 σ6 H6 _ I6 q6) λf s7 q7=>?_);have again:∀ {σ7:St} {H7:Hp},Inv X (pins++mq fp s5.heap) σ7 H7 s7->N σ7 H7->∃ m,m<n/\∃ i σ' H',Inv X pins σ' H' s7/\tn i s7.heap/\(∀ b∈fp,H' b=none)/\W i m σ' H':=λ{σ7 H7} I7 n7=>by obtain⟨m',hm,w7⟩:=hN σ7 H7 n7;refine⟨m',hm,i+1,σ7,H7,I7.mr,T.keep _ _ _ fz λb hb o e=>(I7.pin (b,o) (ac1 _ (ac1 _ (kJ hb e)))).1,λb hb=>?_,w7⟩;obtain⟨o,e,d⟩:=T.obj _ _ fz b hb;exact (I7.pin (b,o) (ac1 _ (ac1 _ (kJ hb e)))).2.1
  cases f with
  | next=>obtain⟨σ7,H7,I7,n7⟩:=q7;exact again I7 n7
  | cont=>obtain⟨σ7,H7,I7,n7⟩:=q7;exact again I7 n7
  | brk=>obtain⟨σ7,H7,I7,q7⟩:=q7;exact⟨σ7,H7,I7.mr,q7⟩
  | ret v=>obtain⟨x7,σ7,H7,I7,r7,q7⟩:=q7;exact⟨x7,σ7,H7,I7.mr,r7,q7⟩
end
theorem OV{K:acS}{a:ac6}{xs:List V}{g:TG}{tb:TS}{D:Ends}{σ:St}{H:Hp}(Pv:Nat->St->Hp->Prop)(h0:Pv 0 σ H)(hl:∀ i σ H,i<=xs.length->Pv i σ H->ah K H a xs)
 (hs:∀ i x σ H,xs[i]?=some x->Pv i σ H->g x σ H λσ2 H2=>tb { D with nx:=Pv (i+1),ct:=Pv (i+1),bk:=D.nx } σ2 H2) (hd:∀ σ H,Pv xs.length σ H->D.nx σ H) :
 ∃ W:Nat->Nat->St->Hp->Prop,(∃ m,W 0 m σ H)/\∀ i m σ H,W i m σ H ->
  ((iB K a).stop i H/\D.nx σ H)∨((iB K a).go i H/\∃ N:St->Hp->Prop,(∀ σ' H',N σ' H'->∃ m',m'<m/\W (i+1) m' σ' H')/\∀ x H',(iB K a).yld i H x H'->g x σ H' λσ2 H2=>tb { D with nx:=N,ct:=N,bk:=D.nx } σ2 H2):=by
 refine⟨λi m σ H=>m=xs.length-i/\i<=xs.length/\Pv i σ H,⟨xs.length,by simp,adw _,h0⟩,?_⟩;rintro i m σ H ⟨rfl,hi,p⟩;have q:=hl i σ H hi p;by_cases aZ:i<xs.length
 .refine .inr ⟨⟨xs,xs[i],q,by simp[aZ]⟩,Pv (i+1),λσ' H' p'=>⟨xs.length-(i+1),by omega,rfl,aZ,p'⟩,λx H' y=>?_⟩;obtain⟨e,y⟩:=y;subst e;exact hs i x σ _ (y xs q) p
 .have e:i=xs.length:=by omega
  subst e;exact .inl ⟨⟨xs,q,ac8 _⟩,hd σ H p⟩
theorem OW{lo:Int}{n:Nat}{g:TG}{tb:TS}{D:Ends}{σ:St}{H:Hp}(Pv:Nat->St->Hp->Prop)(h0:Pv 0 σ H)
 (hs:∀ i σ H,i<n->Pv i σ H->g (.int (lo+i)) σ H λσ2 H2=>tb { D with nx:=Pv (i+1),ct:=Pv (i+1),bk:=D.nx } σ2 H2) (hd:∀ σ H,Pv n σ H->D.nx σ H) :
 ∃ W:Nat->Nat->St->Hp->Prop,(∃ m,W 0 m σ H)/\∀ i m σ H,W i m σ H ->
  ((iC lo n).stop i H/\D.nx σ H)∨((iC lo n).go i H/\∃ N:St->Hp->Prop,(∀ σ' H',N σ' H'->∃ m',m'<m/\W (i+1) m' σ' H')/\∀ x H',(iC lo n).yld i H x H'->g x σ H' λσ2 H2=>tb { D with nx:=N,ct:=N,bk:=D.nx } σ2 H2):=by
 refine⟨λi m σ H=>m=n-i/\i<=n/\Pv i σ H,⟨n,by simp,adw _,h0⟩,?_⟩;rintro i m σ H ⟨rfl,hi,p⟩;by_cases aZ:i<n
 .refine .inr ⟨aZ,Pv (i+1),λσ' H' p'=>⟨n-(i+1),by omega,rfl,aZ,p'⟩,λx H' y=>?_⟩;obtain⟨e,y⟩:=y;subst e y;exact hs i σ _ aZ p
 .have e:i=n:=by omega
  subst e;exact .inl ⟨ac8 _,hd σ H p⟩
noncomputable abbrev R2:=V->V->Hp->VK->Prop
noncomputable def bp(X:Cx)(f:acY->acY->Sem acY)(r:R2):Prop :=
 ∀ (pins:List (ac6 × Obj)) (s:acZ) (σ:St) (H:Hp) (x y:V) (v u:acY) (Q:VK),Inv X pins σ H s->RelV x v->RelV y u->r x y H Q ->
  adg (model X.prog X.w) X.A (f v u) (EP X pins σ Q) X.xe s
noncomputable def nR(X:Cx)(f:acY->Sem acY)(r:V->Hp->VK->Prop):Prop :=
 ∀ (pins:List (ac6 × Obj)) (s:acZ) (σ:St) (H:Hp) (x:V) (v:acY) (Q:VK),Inv X pins σ H s->RelV x v->r x H Q ->
  adg (model X.prog X.w) X.A (f v) (EP X pins σ Q) X.xe s
noncomputable def eU(X:Cx)(f:acY)(r:List V->Hp->VK->Prop):Prop :=
 ∀ (pins:List (ac6 × Obj)) (s:acZ) (σ:St) (H:Hp) (xs:List V) (us:List acY) (Q:VK),Inv X pins σ H s->Vals xs us->r xs H Q ->
  adg (model X.prog X.w) X.A (call f us) (EP X pins σ Q) X.xe s
noncomputable def mx(r:R2)(ta tb:TE):TE:=λσ H Q=>ta σ H λx H1=>tb σ H1 λy H2=>r x y H2 Q
noncomputable def E7(r:V->Hp->VK->Prop)(ta:TE):TE:=λσ H Q=>ta σ H λx H1=>r x H1 Q
noncomputable def rI(C:Int->Int->Prop)(g:Int->Int->V):R2:=λx y H Q=>∃ i j,x = .int i/\y = .int j/\C i j/\Q (g i j) H
noncomputable def gx(g:Int->Int->V):R2:=λx y H Q=>∃ i j,x = .int i/\y = .int j/\Q (g i j) H
noncomputable def rU(g:Int->V):V->Hp->VK->Prop:=λx H Q=>∃ i,x = .int i/\Q (g i) H
section
variable{X:Cx}{a b c:aeY}{ta tb tc:TE}{pos:Pos}
theorem v7(ha:PE X a ta)(hb:PE X b tb){pins:List (ac6 × Obj)}{s:acZ}{σ:St}{H:Hp}{R:V->V->Hp->Prop}(I:Inv X pins σ H s)
 (h:ta σ H λx H1=>tb σ H1 λy H2=>R x y H2) {Q:acY->acZ->Prop} {f:acY->acY->Sem acY}
 (hf:∀ v u s2 x y H2,Inv X pins σ H2 s2->RelV x v->RelV y u->R x y H2->adg (model X.prog X.w) X.A (f v u) Q X.xe s2) :
 adg (model X.prog X.w) X.A (eval a X.env) (λv s₁=>adg (model X.prog X.w) X.A (eval b X.env) (λu s₂=>adg (model X.prog X.w) X.A (f v u) Q X.xe s₂) X.xe s₁) X.xe s:=by
 refine aA (ha pins s σ H _ I h) λv s1 ⟨x,H1,I1,r1,q1⟩=>?_;refine aA (hb pins s1 σ H1 _ I1 q1) λu s2 ⟨y,H2,I2,r2,q2⟩=>?_;exact hf v u s2 x y H2 I2 r1 r2 q2
theorem aD{op:Operator}{r:R2}(ho:bp X (ags op) r)(ha:PE X a ta)(hb:PE X b tb):PE X (.BinOp a op b pos) (mx r ta tb):=by intro pins s σ H Q I h;exact wpAny_BinOp (v7 ha hb I h λv u s2 x y H2 I2 rx ry q=>ho pins s2 σ H2 x y v u Q I2 rx ry q)
theorem fP{op:UnaryOp}{r:V->Hp->VK->Prop}(ho:nR X (unaryOp op) r)(ha:PE X a ta):PE X (.UnaryOp op a pos) (E7 r ta):=by intro pins s σ H Q I h;exact UnaryOp_ (aA (ha pins s σ H _ I h) λv s1 ⟨x,H1,I1,r1,q1⟩=>ho pins s1 σ H1 x v Q I1 r1 q1)
theorem sx{f:acY->acY->Sem acY}{C:Int->Int->Prop}{g:Int->Int->Int}
 (rule:∀ (i j:Int) (t u:Tok) (s:acZ) (Q:acY->acZ->Prop) (E:acY->acZ->Prop),C i j->Q (.int (g i j) s.toks) { s with toks:=s.toks+1 }->adg (model X.prog X.w) X.A (f (.int i t) (.int j u)) Q E s) :
 bp X f (rI C λi j=>.int (g i j)):=by
 intro pins s σ H x y v u Q I rx ry h;obtain⟨i,j,rfl,rfl,hc,q⟩:=h;obtain⟨t,rfl⟩:=rx;obtain⟨t',rfl⟩:=ry;exact rule i j t t' s _ _ hc ⟨.int (g i j),H,I.tok _,⟨_,rfl⟩,q⟩
theorem E8{f:acY->acY->Sem acY}{g:Int->Int->Int}
 (rule:∀ (i j:Int) (t u:Tok) (s:acZ) (Q:acY->acZ->Prop) (E:acY->acZ->Prop),Q (.int (g i j) s.toks) { s with toks:=s.toks+1 }->adg (model X.prog X.w) X.A (f (.int i t) (.int j u)) Q E s) :
 bp X f (gx λi j=>.int (g i j)):=by
 intro pins s σ H x y v u Q I rx ry h;obtain⟨i,j,rfl,rfl,q⟩:=h;obtain⟨t,rfl⟩:=rx;obtain⟨t',rfl⟩:=ry;exact rule i j t t' s _ _ ⟨.int (g i j),H,I.tok _,⟨_,rfl⟩,q⟩
theorem v8{f:acY->acY->Sem acY}{g:Int->Int->Bool}
 (rule:∀ (i j:Int) (t u:Tok) (s:acZ) (Q:acY->acZ->Prop) (E:acY->acZ->Prop),Q (.bool (g i j)) s->adg (model X.prog X.w) X.A (f (.int i t) (.int j u)) Q E s) :
 bp X f (gx λi j=>.bl (g i j)):=by
 intro pins s σ H x y v u Q I rx ry h;obtain⟨i,j,rfl,rfl,q⟩:=h;obtain⟨t,rfl⟩:=rx;obtain⟨t',rfl⟩:=ry;exact rule i j t t' s _ _ ⟨.bl (g i j),H,I,rfl,q⟩
noncomputable def OX(i j:Int):Prop:=0<=j/\j<=1000000/\i.natAbs<2 ^ 64
theorem OY:bp X (ags .Add) (gx λi j=>.int (i+j)):=E8 λ_ _ _ _ _ _ _ q=>add_int q
theorem OZ:bp X (ags .Sub) (gx λi j=>.int (i-j)):=E8 λ_ _ _ _ _ _ _ q=>sub_int q
theorem O0:bp X (ags .Mod) (rI (λ_ j=>0<j) λi j=>.int (i % j)):=sx λi j _ _ _ _ _ hc q=>by have h1:(0:Int)<j:=hc;exact mod_int' (by omega) (by rw[Int.fmod_eq_emod_of_nonneg i (by omega)];exact q)
theorem my:bp X (ags .Pow) (rI OX λi j=>.int (i ^ j.toNat)):=sx λ_ _ _ _ _ _ _ hc q=>pow_int_small hc.1 hc.2.1 hc.2.2 q
theorem O2{f:acY->Sem acY}{g:Int->Int}
 (rule:∀ (i:Int) (t:Tok) (s:acZ) (Q:acY->acZ->Prop) (E:acY->acZ->Prop),Q (.int (g i) s.toks) { s with toks:=s.toks+1 }->adg (model X.prog X.w) X.A (f (.int i t)) Q E s) :
 nR X f (rU λi=>.int (g i)):=by
 intro pins s σ H x v Q I rx h;obtain⟨i,rfl,q⟩:=h;obtain⟨t,rfl⟩:=rx;exact rule i t s _ _ ⟨.int (g i),H,I.tok _,⟨_,rfl⟩,q⟩
theorem O3:nR X (unaryOp .USub) (rU λi=>.int (-i)):=O2 λ_ _ _ _ _ q=>neg_int q
end
noncomputable def jM:V->V->Bool
 | .non,.non=>true|.non,.int _=>true|.int _,.non=>true|.non,.bl _=>true|.bl _,.non=>true|.non,.str _=>true|.str _,.non=>true
 | .int _,.int _=>true|.bl _,.bl _=>true|.str _,.str _=>true|.byt _,.byt _=>true
 | .int _,.str _=>true|.str _,.int _=>true|.bl _,.str _=>true|.str _,.bl _=>true
 | _,_=>false
noncomputable def E9:R2:=λx y H Q=>jM x y=true/\Q (.bl (decide (x=y))) H
noncomputable def Fb:R2:=λx y H Q=>jM x y=true/\Q (.bl (!decide (x=y))) H
theorem Fc{i j:Int}:decide (V.int i=V.int j)=(i == j):=by rw[aff];simp
theorem Fd{i j:Bool}:decide (V.bl i=V.bl j)=(i == j):=by rw[aff];simp
theorem Fe{i j:Str}:decide (V.str i=V.str j)=(i == j):=by rw[aff];simp
theorem Ff{i j:Array UInt8}:decide (V.byt i=V.byt j)=(i.toList == j.toList):=by rw[aff];cases i;cases j;simp
section
variable{X:Cx}{a b c:aeY}{ta tb tc:TE}{pos:Pos}
theorem bX{pins:List (ac6 × Obj)}{σ:St}{H:Hp}{s:acZ}{Q:VK}{k k':Bool}(I:Inv X pins σ H s)(q:Q (.bl k) H)(e:k=k'):EP X pins σ Q (.bool k') s:=by subst e;exact⟨.bl k,H,I,rfl,q⟩
theorem Fg:bp X (aeO .Eq) E9:=by
 intro pins s σ H x y v u Q I rx ry h;obtain⟨hs,q⟩:=h;cases x with
 | non =>
  cases rx;cases y with
  | non=>cases ry;exact PySem.EqNone.eq_none_none (bX I q (by simp))
  | bl j=>cases ry;exact PySem.EqNone.eq_none_bool (bX I q (by simp))
  | int j=>obtain⟨t',rfl⟩:=ry;exact PySem.EqNone.eq_none_int (bX I q (by simp))
  | str j=>obtain⟨t',rfl⟩:=ry;exact PySem.EqNone.eq_none_str (bX I q (by simp))
  | _=>exact absurd (show false=true from hs) adu
 | bl i =>
  cases rx;cases y with
  | non=>cases ry;exact PySem.EqNone.eq_bool_none (bX I q (by simp))
  | bl j=>cases ry;exact eq_bool (bX I q Fd)
  | str j=>obtain⟨t',rfl⟩:=ry;exact PySem.EqMixed.eq_bool_str (bX I q (by simp))
  | _=>exact absurd (show false=true from hs) adu
 | int i =>
  obtain⟨t,rfl⟩:=rx;cases y with
  | non=>cases ry;exact PySem.EqNone.eq_int_none (bX I q (by simp))
  | int j=>obtain⟨t',rfl⟩:=ry;exact eq_int (bX I q Fc)
  | str j=>obtain⟨t',rfl⟩:=ry;exact PySem.EqMixed.eq_int_str (bX I q (by simp))
  | _=>exact absurd (show false=true from hs) adu
 | str i =>
  obtain⟨t,rfl⟩:=rx;cases y with
  | non=>cases ry;exact PySem.EqNone.eq_str_none (bX I q (by simp))
  | bl j=>cases ry;exact PySem.EqMixed.eq_str_bool (bX I q (by simp))
  | int j=>obtain⟨t',rfl⟩:=ry;exact PySem.EqMixed.eq_str_int (bX I q (by simp))
  | str j=>obtain⟨t',rfl⟩:=ry;exact eq_str (bX I q Fe)
  | _=>exact absurd (show false=true from hs) adu
 | byt i =>
  obtain⟨t,rfl⟩:=rx;cases y with
  | byt j=>obtain⟨t',rfl⟩:=ry;exact PySem.W.eq_bytes (bX I q Ff)
  | _=>exact absurd (show false=true from hs) adu
 | _=>cases y<;>exact absurd (show false=true from hs) adu
theorem O4:bp X (aeO .NotEq) Fb:=by
 intro pins s σ H x y v u Q I rx ry h;obtain⟨hs,q⟩:=h;cases x with
 | non =>
  cases rx;cases y with
  | non=>cases ry;exact PySem.EqNone.ne_none_none (bX I q (by simp))
  | bl j=>cases ry;exact PySem.EqNone.ne_none_bool (bX I q (by simp))
  | int j=>obtain⟨t',rfl⟩:=ry;exact PySem.EqNone.ne_none_int (bX I q (by simp))
  | str j=>obtain⟨t',rfl⟩:=ry;exact PySem.EqNone.ne_none_str (bX I q (by simp))
  | _=>exact absurd (show false=true from hs) adu
 | bl i =>
  cases rx;cases y with
  | non=>cases ry;exact PySem.EqNone.ne_bool_none (bX I q (by simp))
  | bl j=>cases ry;exact ne_bool (bX I q (congrArg not Fd))
  | str j=>obtain⟨t',rfl⟩:=ry;exact PySem.EqMixed.ne_bool_str (bX I q (by simp))
  | _=>exact absurd (show false=true from hs) adu
 | int i =>
  obtain⟨t,rfl⟩:=rx;cases y with
  | non=>cases ry;exact PySem.EqNone.ne_int_none (bX I q (by simp))
  | int j=>obtain⟨t',rfl⟩:=ry;exact ne_int (bX I q (congrArg not Fc))
  | str j=>obtain⟨t',rfl⟩:=ry;exact PySem.EqMixed.ne_int_str (bX I q (by simp))
  | _=>exact absurd (show false=true from hs) adu
 | str i =>
  obtain⟨t,rfl⟩:=rx;cases y with
  | non=>cases ry;exact PySem.EqNone.ne_str_none (bX I q (by simp))
  | bl j=>cases ry;exact PySem.EqMixed.ne_str_bool (bX I q (by simp))
  | int j=>obtain⟨t',rfl⟩:=ry;exact PySem.EqMixed.ne_str_int (bX I q (by simp))
  | str j=>obtain⟨t',rfl⟩:=ry;exact ne_str (bX I q (congrArg not Fe))
  | _=>exact absurd (show false=true from hs) adu
 | byt i =>
  obtain⟨t,rfl⟩:=rx;cases y with
  | byt j=>obtain⟨t',rfl⟩:=ry;exact PySem.W.ne_bytes (bX I q (congrArg not Ff))
  | _=>exact absurd (show false=true from hs) adu
 | _=>cases y<;>exact absurd (show false=true from hs) adu
theorem sy:bp X (aeO .Lt) (gx λi j=>.bl (decide (i<j))):=v8 λ_ _ _ _ _ _ _ q=>lt_int q
theorem iF:bp X (aeO .LtE) (gx λi j=>.bl (decide (i<=j))):=v8 λ_ _ _ _ _ _ _ q=>le_int q
theorem wb:bp X (aeO .Gt) (gx λi j=>.bl (decide (j<i))):=v8 λ_ _ _ _ _ _ _ q=>gt_int q
theorem fQ(b:aeY){op:ali}(h:op ≠ .In:=by decide)(h2:op ≠ .NotIn:=by decide):afs op b=false:=by
 have e1:(op == CmpOp.In)=false:=by cases op<;>first|rfl|exact absurd rfl h
 have e2:(op == CmpOp.NotIn)=false:=by cases op<;>first|rfl|exact absurd rfl h2
 cases b<;>simp[afs,e1,e2]
theorem jg{op:ali}{r:R2}(ho:bp X (aeO op) r)(ha:PE X a ta)(hb:PE X b tb)(hm:afs op b=false):PE X (.Compare a [op] [b] pos) (mx r ta tb):=by intro pins s σ H Q I h;exact wpAny_Compare1 (v7 ha hb I h λv u s2 x y H2 I2 rx ry q=>ho pins s2 σ H2 x y v u Q I2 rx ry q) hm
noncomputable def wc(t:TE):TT:=λσ H Q=>t σ H λx H'=>∃ k,x = .bl k/\Q k H'
theorem gQ{op:ali}{r:R2}(ho:bp X (aeO op) r)(ha:PE X a ta)(hb:PE X b tb)(hm:afs op b=false):PT X (.Compare a [op] [b] pos) (wc (mx r ta tb)):=by
 intro pins s σ H Q I h;refine aiN (aA (ha pins s σ H _ I h) λv s1 ⟨x,H1,I1,r1,q1⟩=>aA (hb pins s1 σ H1 _ I1 q1) λu s2 ⟨y,H2,I2,r2,q2⟩ =>
  aA (ho pins s2 σ H2 x y v u _ I2 r1 r2 q2) λc s3 ⟨z,H3,I3,r3,k,e,q3⟩=>?_) hm
 subst e;cases r3;exact aed ⟨H3,I3,q3⟩
noncomputable def wd(r r':R2)(ta tb tc:TE):TE:=λσ H Q=>ta σ H λx H1=>tb σ H1 λy H2=>r x y H2 λz H3=>∃ k,z = .bl k /\
 (if k=true then tc σ H3 λw' H4=>r' y w' H4 Q else Q (.bl false) H3)
theorem Fh{op iG:ali}{r r':R2}(ho:bp X (aeO op) r)(cR:bp X (aeO iG) r')(ha:PE X a ta)(hb:PE X b tb)(hc:PE X c tc)
 (hm:aly [op,iG] [b,c]=false:=by with_unfolding_all rfl):PE X (.Compare a [op,iG] [b,c] pos) (wd r r' ta tb tc):=by
 intro pins s σ H Q I h;refine Compare_chain (aA (ha pins s σ H _ I h) λv s1 ⟨x,H1,I1,r1,q1⟩=>chain_link (aA (hb pins s1 σ H1 _ I1 q1) λu s2 ⟨y,H2,I2,r2,q2⟩ =>
  aA (ho pins s2 σ H2 x y v u _ I2 r1 r2 q2) λd s3 ⟨z,H3,I3,r3,k,e,q3⟩=>?_)) hm
 subst e;cases r3;refine aed ?_;cases k with
 | false=>exact ite_ff ⟨.bl false,H3,I3,rfl,q3⟩
 | true=>exact ite_tt (chain_last (aA (hc pins s3 σ H3 _ I3 q3) λw' s4 ⟨z',H4,I4,r4,q4⟩=>cR pins s4 σ H4 y z' u w' Q I4 r2 r4 q4))
theorem O5{op iG:ali}{r r':R2}(ho:bp X (aeO op) r)(cR:bp X (aeO iG) r')(ha:PE X a ta)(hb:PE X b tb)(hc:PE X c tc)
 (hm:aly [op,iG] [b,c]=false:=by with_unfolding_all rfl):PT X (.Compare a [op,iG] [b,c] pos) (wc (wd r r' ta tb tc)):=by
 intro pins s σ H Q I h;refine isTrue_chain (aA (ha pins s σ H _ I h) λv s1 ⟨x,H1,I1,r1,q1⟩=>test_link (aA (hb pins s1 σ H1 _ I1 q1) λu s2 ⟨y,H2,I2,r2,q2⟩ =>
  aA (ho pins s2 σ H2 x y v u _ I2 r1 r2 q2) λd s3 ⟨z,H3,I3,r3,k,e,q3⟩=>?_)) hm
 subst e;cases r3;refine aed ?_;cases k with
 | false =>
  obtain⟨k',e',q'⟩:=q3;cases e';exact ite_ff ⟨H3,I3,q'⟩
 | true =>
  refine ite_tt (test_last (aA (hc pins s3 σ H3 _ I3 q3) λw' s4 ⟨z',H4,I4,r4,q4⟩=>aA (cR pins s4 σ H4 y z' u w' _ I4 r2 r4 q4) λd' s5 ⟨z2,H5,I5,r5,k2,e2,q5⟩=>?_));subst e2;cases r5;exact aed ⟨H5,I5,q5⟩
theorem pS:(adz:Nat)<2 ^ 63:=by rw[aen];decide
theorem vals1{x:V}{us:List acY}(r:Vals [x] us):∃ u,us=[u]/\RelV x u:=by
 cases r with
 | cons r1 r2=>cases r2;exact⟨_,rfl,r1⟩
theorem vals2{x y:V}{us:List acY}(r:Vals [x,y] us):∃ u w',us=[u,w']/\RelV x u/\RelV y w':=by
 cases r with
 | cons r1 r2 =>
  cases r2 with
  | cons r3 r4=>cases r4;exact⟨_,_,rfl,r1,r3⟩
theorem wg(hc:X.calm=true):eU X (.builtin "min") (λxs H Q=>∃ i j,xs=[.int i,.int j]/\Q (.int (if j<i then j else i)) H):=by
 intro pins s σ H xs us Q I r h;obtain⟨i,j,rfl,q⟩:=h;obtain⟨u,w',rfl,⟨t,rfl⟩,⟨t',rfl⟩⟩:=vals2 r;refine min_two_ints (I.ok.hd hc) λh' tk k=>⟨_,H,I.kept k,?_,q⟩
 by_cases hj:j<i
 .rw[if_pos hj,if_pos hj];exact⟨_,rfl⟩
 .rw[if_neg hj,if_neg hj];exact⟨_,rfl⟩
noncomputable def sA(K:acS)(x:V)(H:Hp)(n:Nat):Prop :=
 match x with
 | .str y=>y.length<=adz/\n=y.length
 | .byt y=>y.size<=adz/\n=y.size
 | .ref p=>(∃ xs,ah K H p xs/\n=xs.length) ∨ ∃ xs,ax K H p xs/\n=xs.length
 | _=>False
theorem ed:eU X (.builtin "len") (λxs H Q=>∃ x n,xs=[x]/\sA X.K x H n/\Q (.int n) H):=by
 intro pins s σ H xs us Q I r h;obtain⟨x,n,rfl,e,q⟩:=h;obtain⟨u,rfl,rx⟩:=vals1 r;have hl:=pS;have hs:adz=16777216:=aen;cases x with
 | str y =>
  obtain⟨t,rfl⟩:=rx;obtain⟨hy,e'⟩:y.length<=adz/\n=y.length:=e;subst e';exact len_str (by omega) ⟨.int _,H,I.tok _,⟨_,rfl⟩,q⟩
 | byt y =>
  obtain⟨t,rfl⟩:=rx;obtain⟨hy,e'⟩:y.size<=adz/\n=y.size:=e;subst e';exact PySem.W.len_bytes (by omega) ⟨.int _,H,I.tok _,⟨_,rfl⟩,q⟩
 | ref p =>
  cases rx;have e':(∃ xs,ah X.K H p xs/\n=xs.length) ∨ ∃ xs,ax X.K H p xs/\n=xs.length:=e;rcases e' with ⟨xs,hx,e'⟩|⟨xs,hx,e'⟩
  .subst e';obtain⟨af,r',pl,hz⟩:=I.list hx;have hlen:=r'.length;exact Calls.call_len_list pl.isList (by simp only[ada];omega) ⟨.int xs.length,H,I.tok _,⟨_,by simp only[ada];rw[hlen]⟩,q⟩
  .subst e';obtain⟨af,r',pl,hz⟩:=I.tuple hx;have hlen:=r'.length;exact len_tuple pl (by simp only[ada];omega) ⟨.int xs.length,H,I.tok _,⟨_,by simp only[ada];rw[hlen]⟩,q⟩
 | _=>exact (show False from e).elim
end
structure mz(h:aeA)(x dx C:ac6)(mA:Str->Option acY):Prop where
 obj:h.get? x=some (afd C dx)
 ns:h.Ns1 dx mA
 ne:dx≠x
theorem O6{h:aeA}{dx:ac6}{mA:Str->Option acY}(n:h.Ns1 dx mA):∃ od,h.get? dx=some od/\∀ name,ahM name od=some (mA name):=by
 obtain⟨o,es,ep,ho,hd,hk,_,hm⟩:=n;refine⟨o,ho,λname=>?_⟩;have e:=hm name;unfold nsFind findBy at e;rw[<- Array.find?_toList] at e;unfold ahM;rw[hd];dsimp only;split
 .rename_i y q;rw[q] at e;exact congrArg some e
 .rename_i q;rw[q] at e;have a:es.toList.any (·.refKey)=false:=by rw[af8];intro y hy;obtain⟨z,t,hkey⟩:=hk y (Array.mem_toList_iff.mp hy);simp[DictEntry.refKey,hkey]
  have a':¬ es.toList.any (·.refKey)=true:=by rw[a];exact adu
  rw[if_neg a'];exact congrArg some e
theorem mz.look{h:aeA}{x dx C:ac6}{mA:Str->Option acY}(I:mz h x dx C mA):∃ od,PySem.W.InstAt h x (afd C dx) C (some od)/\∀ name,ahM name od=some (mA name) :=
 let ⟨od,ho,hl⟩:=O6 I.ns
 ⟨od,⟨I.obj,rfl,rfl,ho⟩,hl⟩
section
variable{prog:ado}{w:adM}{A:adQ}{E:acY->acZ->Prop}{s:acZ}{K:acS}{x dx C f:ac6}{mA:Str->Option acY}{name:Str}{v:acY}
theorem get_map{expr:Bool}{Q:acY->acZ->Prop}(X:K.In s.heap)(I:mz s.heap x dx C mA)(hg:agt K C name=true)(hh:agQ K C=true)
 (ha:adA K (.ref C) name=some none) (hv:mA name=some v) (O7:ako v=true) (h:Q v { s with toks:=s.toks+1 }) :
 adg (model prog w) A (getAttr (.ref x) name expr) Q E s:=by
 obtain⟨od,J,hl⟩:=I.look;exact PySem.W.get_value X J (ahr hg).1 (PySem.W.findObj_own hh ha rfl (by rw[hl,hv])) O7 h
theorem O8{pl:Sem Bool}{Q:acY × List acY->acZ->Prop}(X:K.In s.heap)(I:mz s.heap x dx C mA)(hg:agt K C name=true)
 (hf:adA K (.ref C) name=some (some (.ref f))) (ht:afN K (.ref f)=true) (hv:mA name=none) (h:Q (.ref f,[.ref x]) s) :
 adg (model prog w) A (akG (.ref x) name pl) Q E s:=by
 obtain⟨od,J,hl⟩:=I.look;exact PySem.W.method_fn X J (ahr hg).1 (ahr hg).2 hf (beq_iff_eq.mp ht) (by show (ahM name od).map (·.isSome)=some false;rw[hl,hv];rfl) h
theorem O9{ns:List Str}{Q:Unit->acZ->Prop}(X:K.In s.heap)(I:mz s.heap x dx C mA)
 (hs:adA K (.ref C) "__setattr__" = some (some (.builtin "object.__setattr__"))) (hp:ah2 K C=true) (ht:aiQ K C name=some none) (hh:agQ K C=true)
 (hw:akf mA ns) (hsz:ns.length<=adz)
 (h:∀ h',mz h' x dx C (λy=>if y=name then some v else mA y)->Heap.SameBut dx s.heap h'->Q () { s with heap:=h',toks:=s.toks+2 }) :
 adg (model prog w) A (setAttr (.ref x) name v) Q E s:=by
 obtain⟨od,J,hl⟩:=I.look;refine PySem.W.set_plain X J hs (PySem.W.osa_open (s:={ s with toks:=s.toks+1 }) (r:=none) X J hp ht λb=>?_);obtain⟨cd,hc,iz⟩:=PySem.W.any_some hh;have hx:s.heap.get? x=some ⟨.ref C,some dx,.plain,#[]⟩:=I.obj;refine acR (acX (acR (acR (wpAny_loadPart hx (acR (alS (s:={ s with toks:=s.toks+1 }) (PySem.W.looks_clsIn X hc) ?_))))));rw[iz];refine acX (a:=some dx) (acR (acX (acR ?_)));refine wpAny_nsSet1 (s:={ s with toks:=s.toks+1 }) I.ns λh' Fi dw=>?_;obtain⟨oD,esD,epD,Pb,Pc,Pd⟩:=Fi.count (PySem.Within.cons name v hw);refine acR (wpAny_lookBehind Pb (by rw[Pc];exact pastItsLine_dict (adb Pd (by rw[ad9];omega))) ?_);exact acX (h _ ⟨(dw.2 _ (adP I.ne)).trans I.obj,Fi,I.ne⟩ dw)
theorem Pe{R:ahG->acZ->Prop}{vs:List acY}{kw:List (Str × acY)}(X:K.In s.heap)(hm:aiR K C=true)
 (hi:adA K (.ref C) "__init__" = some (some (.ref f))) (hf:PySem.W.typeIn K (.ref f)=some (.type "function"))
 (h:afG (model prog w) (A.under (.builtin "type.__call__" ⟨.ref C::vs,kw⟩)) (.call (.ref f) ⟨.ref (s.heap.objs.size+1)::vs,kw⟩) (PySem.W.InitBack (s.heap.objs.size+1) R)
   { s with heap:=(s.heap.push aeP).push (afd C s.heap.objs.size) }) :
 afG (model prog w) A (.call (.ref C) ⟨vs,kw⟩) R s:=by
 obtain⟨hh,g,d,t,os⟩:=s;exact PySem.W.make_core (PySem.W.makes_of X hm) (PySem.W.looks_findIn X hi) (λself=>PySem.W.bind_fn X self hf) (.inl rfl) h
end
noncomputable def ee(f:Str)(v:V):List (Str × V)->List (Str × V)
 | []=>[(f,v)]
 | (g,x)::r=>if g=f then (g,v)::r else (g,x)::ee f v r
theorem Fj(f g:Str)(v:V):∀ fs:List (Str × V),(ee f v fs).lookup g=if g=f then some v else fs.lookup g
 | []=>by
  show agx g [(f,v)]=_;by_cases h:g=f
  .have hb:(g == f)=true:=beq_iff_eq.mpr h;simp only[agx,hb,if_pos h]
  .have hb:(g == f)=false:=beq_eq_false_iff_ne.mpr h;simp only[agx,hb,if_neg h]
 | (k,x)::r=>by
  have ih:=Fj f g v r;rw[show ee f v ((k,x)::r)=(if k=f then (k,v)::r else (k,x)::ee f v r) from rfl];by_cases hk:k=f
  .rw[if_pos hk];by_cases h:g=k
   .have hb:(g == k)=true:=beq_iff_eq.mpr h;simp only[agx,hb,if_pos (h.trans hk)]
   .have hb:(g == k)=false:=beq_eq_false_iff_ne.mpr h;simp only[agx,hb,if_neg (λe:g=f=>h (e.trans hk.symm))]
  .rw[if_neg hk];by_cases h:g=k
   .have hb:(g == k)=true:=beq_iff_eq.mpr h;simp only[agx,hb,if_neg (λe:g=f=>hk (h.symm.trans e))]
   .have hb:(g == k)=false:=beq_eq_false_iff_ne.mpr h;simp only[agx,hb];exact ih
theorem wj(f:Str)(v:V):∀ fs:List (Str × V),f∈(ee f v fs).map (·.1)/\∀ g,g∈fs.map (·.1)->g∈(ee f v fs).map (·.1)
 | []=>⟨by simp[ee],λg h=>by simp at h⟩
 | (k,x)::r=>by
  obtain⟨i1,i2⟩:=wj f v r;rw[show ee f v ((k,x)::r)=(if k=f then (k,v)::r else (k,x)::ee f v r) from rfl];by_cases hk:k=f
  .rw[if_pos hk];subst hk;exact⟨by simp,λg h=>by simpa using h⟩
  .rw[if_neg hk];refine⟨?_,λg h=>?_⟩
   .rw[adq];exact adL _ i1
   .rw[adq] at h ⊢;rcases ac9.mp h with e|e
    .exact ac9.mpr (.inl e)
    .exact adL _ (i2 g e)
theorem Fl(f:Str)(v:V):∀ fs:List (Str × V),(ee f v fs).length<=fs.length+1
 | []=>by simp[ee]
 | (k,x)::r=>by
  have ih:=Fl f v r;rw[show ee f v ((k,x)::r)=(if k=f then (k,v)::r else (k,x)::ee f v r) from rfl];by_cases hk:k=f
  .rw[if_pos hk,ad9,ad9];omega
  .rw[if_neg hk,ad9,ad9];omega
theorem eN.some_of{v:V}{o:Option acY}(r:eN (some v) o):∃ u,o=some u/\RelV v u:=by
 cases o with
 | none=>exact (show False from r).elim
 | some u=>exact⟨u,rfl,r⟩
theorem eN.none_of{o:Option acY}(r:eN none o):o=none:=by
 cases o with
 | none=>rfl
 | some u=>exact (show False from r).elim
theorem Pf{v:V}{u:acY}(r:RelV v u):ako u=true:=by
 cases v with
 | non=>cases (show u=Value.none from r);rfl
 | bl b=>cases (show u=afo b from r);rfl
 | int i=>obtain⟨t,e⟩:=(show ∃ t,u=Value.int i t from r);cases e;rfl
 | str x=>obtain⟨t,e⟩:=(show ∃ t,u=ajF x t from r);cases e;rfl
 | byt b=>obtain⟨t,e⟩:=(show ∃ t,u=alN b t from r);cases e;rfl
 | flt b=>obtain⟨t,e⟩:=(show ∃ t,u=akE b t from r);cases e;rfl
 | ref a=>cases (show u=adI a from r);rfl
 | ty n=>cases (show u=af6 n from r);rfl
section
variable{P:ado}{w:adM}{H H':Hp}{h h':aeA}{a C dx:ac6}{fs Oz:List (Str × V)}
theorem sC(aj:bQ P w H h)(e:H a=some (.ins C dx fs)):∃ mA,mz h a dx C mA/\(∀ f,eN (fs.lookup f) (mA f))/\akf mA (fs.map (·.1))/\fs.length<=1000/\H dx=some (.own a):=by
 obtain⟨d,z,ne,ob,mA,n,r,q⟩:=(show bG P w H h a (.ins C dx fs) from aj a _ e)
 exact⟨mA,⟨ob,n,ne⟩,r,q,z,d⟩
end
structure gy(K:acS)(C:ac6):Prop where
 pg:agt K C Str.empty=true
 hd:agQ K C=true
 po:ah2 K C=true
 sa:adA K (.ref C) "__setattr__" = some (some (.builtin "object.__setattr__"))
theorem gy.get{K:acS}{C:ac6}(c:gy K C)(f:Str):agt K C f=true:=c.pg
noncomputable def fR(K:acS)(C:ac6)(f:Str):Prop:=adA K (.ref C) f=some none
theorem fR.Pg{K:acS}{C:ac6}{f:Str}(n:fR K C f):aiQ K C f=some none:=by unfold aiQ;rw[show adA K (.ref C) f=some none from n];rfl
structure Meth(K:acS)(C:ac6)(m:Str)(f:ac6):Prop where
 at_:adA K (.ref C) m=some (some (.ref f))
 fn:afN K (.ref f)=true
 kp:afz K (.ref f)=true
section
variable{X:Cx}{pins:List (ac6 × Obj)}{σ:St}{H:Hp}{s:acZ}{a C dx:ac6}{fs:List (Str × V)}{f:Str}{v:V}{A:adQ}{E:acY->acZ->Prop}
theorem Ph{b:Bool}{Q:acY->acZ->Prop}(I:Inv X pins σ H s)(e:H a=some (.ins C dx fs))(c:gy X.K C)(n:fR X.K C f)(l:fs.lookup f=some v)
 (h:∀ u s',Inv X pins σ H s'->RelV v u->Q u s'):adg (model X.prog X.w) A (getAttr (.ref a) f b) Q E s:=by
 obtain⟨mA,O,r,_,_,_⟩:=sC I.aj e;obtain⟨u,hu,ru⟩:=eN.some_of (v:=v) (o:=mA f) (by rw[<- l];exact r f);exact get_map I.cv O (c.get f) c.hd n hu (Pf ru) (h u _ (I.tok _) ru)
theorem Fo{m:Str}{g:ac6}{pl:Sem Bool}{Q:acY × List acY->acZ->Prop}(I:Inv X pins σ H s)(e:H a=some (.ins C dx fs))(c:gy X.K C)(k:Meth X.K C m g)(l:fs.lookup m=none)
 (h:Q (.ref g,[.ref a]) s):adg (model X.prog X.w) A (akG (.ref a) m pl) Q E s:=by
 obtain⟨mA,O,r,_,_,_⟩:=sC I.aj e;have hn:mA m=none:=eN.none_of (by rw[<- l];exact r m);exact O8 I.cv O (c.get m) k.at_ k.fn hn h
theorem Pj{y:V}{u:acY}{Q:Unit->acZ->Prop}(I:Inv X pins σ H s)(e:H a=some (.ins C dx fs))(c:gy X.K C)(n:fR X.K C f)(hl:fs.length<1000)(ry:RelV y u)
 (h:∀ s',Inv X pins σ (upd H a (.ins C dx (ee f y fs))) s'->Q () s'):adg (model X.prog X.w) A (setAttr (.ref a) f u) Q E s:=by
 obtain⟨mA,O,r,wi,_,ho⟩:=sC I.aj e;have hz:(fs.map (·.1)).length<=adz:=by rw[acV,aen];omega
 refine O9 I.cv O c.sa c.po n.Pg c.hd wi hz λh' O' sb=>h _ ?_;have hd:∃ o,h'.get? dx=some o:=let ⟨o,_,_,e',_⟩:=O'.ns;⟨o,e'⟩;refine I.write (x:=a) (e:=dx) (by rw[e];exact afU) (.inr ho) (λb q hb z=>(sb.2 b hb).trans z) hd ?_;refine⟨by rw[aB O.ne];exact ho,?_,O.ne,O'.obj,_,O'.ns,λg=>?_,λg hg=>?_⟩
 .have:=Fl f y fs;omega
 .show eN ((ee f y fs).lookup g) (if g=f then some u else mA g);rw[Fj];by_cases q:g=f
  .rw[if_pos q,if_pos q];exact ry
  .rw[if_neg q,if_neg q];exact r g
 .by_cases q:g=f
  .rw[q];exact (wj f y fs).1
  .refine (wj f y fs).2 g (wi g λz=>hg ?_);show (if g=f then some u else mA g)=none;rw[if_neg q];exact z
theorem Inv.made(I:Inv X pins σ H s):Inv X pins σ (upd (upd H s.heap.objs.size (.own (s.heap.objs.size+1))) (s.heap.objs.size+1) (.ins C s.heap.objs.size []))
 { s with heap:=(s.heap.push aeP).push (afd C s.heap.objs.size) }:=by
 have e1:(s.heap.push aeP).get? s.heap.objs.size=some aeP:=ac3 s.heap rfl;have e2:((s.heap.push aeP).push (afd C s.heap.objs.size)).get? (s.heap.objs.size+1)=some (afd C s.heap.objs.size):=by
  have:=ac3 (s.heap.push aeP) (o:=afd C s.heap.objs.size) rfl
  rwa [ad0] at this
 have e3:(s.heap.push aeP).Ns s.heap.objs.size (λ_=>none):=⟨aeP,#[],_,e1,rfl,(λe he=>absurd he (by simp)),λ_=>rfl⟩
 have I1:=I.laid (a:=s.heap.objs.size) (o:=.own (s.heap.objs.size+1)) (h':=s.heap.push aeP) (t':=s.toks) (λb u q=>acT _ q) (ac8 _) ⟨_,e1⟩;refine I1.laid (a:=s.heap.objs.size+1) (o:=.ins C s.heap.objs.size []) (t':=s.toks) (λb u q=>acT _ q) (akh (ad0 _ _)) ?_;have ne:s.heap.objs.size≠s.heap.objs.size+1:=adp (agu _);refine⟨by rw[aB ne,ar],adw _,ne,e2,λ_=>none,(Heap.Ns1.of_empty e3).at λo q=>acT _ q,λ_=>afU,λy hy=>absurd rfl hy⟩
theorem Pk{prog:ado}{w:adM}{env:Env}{e:aeY}{f:Str}{pos:Pos}{s:acZ}{Q:acY->acZ->Prop}(hb:af9 e f env (eval e env)=eval e env)
 (h:adg (model prog w) A (eval e env) (λo s₁=>adg (model prog w) A (getAttr o f true) Q E s₁) E s):adg (model prog w) A (eval (.Attribute e f pos) env) Q E s :=
 Attribute_any_ h (by rw[arm_eval_Attribute,hb])
end
noncomputable def Fp(K:acS)(ta:TE)(f:Str):TE:=λσ H Q=>ta σ H λx H1=>∃ a C dx fs v,x = .ref a/\H1 a=some (.ins C dx fs)/\gy K C/\fR K C f/\fs.lookup f=some v/\Q v H1
noncomputable def Fq(K:acS)(ta tv:TE)(f:Str):TS:=λD σ H=>tv σ H λy H1=>ta σ H1 λx H2=>∃ a C dx fs,x = .ref a/\H2 a=some (.ins C dx fs)/\gy K C/\fR K C f/\fs.length<1000 /\
 D.nx σ (upd H2 a (.ins C dx (ee f y fs)))
section
variable{X:Cx}{o e value:aeY}{f:Str}{pos pos' Pl:Pos}{ta tv:TE}
theorem Pm(he:PE X e ta)(hb:af9 e f X.env (eval e X.env)=eval e X.env):PE X (.Attribute e f pos) (Fp X.K ta f):=by
 intro pins s σ H Q I h;refine Pk hb (aA (he pins s σ H _ I h) λu s1 ⟨x,H1,I1,rx,a,C,dx,fs,v,ex,ea,c,n,l,q⟩=>?_);subst ex;obtain rfl:u=adI a:=rx;exact Ph I1 ea c n l λu' s2 I2 ru=>⟨v,H1,I2,ru,q⟩
theorem Pn(ha:PE X o ta)(hv:PE X value tv)(hs:aiP value (some (.Attribute o f pos')) pos.line X.env=pure false):PS X (.Assign [.Attribute o f pos'] value pos) (Fq X.K ta tv f):=by
 intro pins s σ H D I h;refine plainObj_wpAny_Assign_Attribute (aA (hv pins s σ H _ I h) λu s1 ⟨y,H1,I1,ry,q⟩=>aA (ha pins s1 σ H1 _ I1 q) λov s2 ⟨x,H2,I2,rx,a,C,dx,fs,ex,ea,c,n,l,q2⟩=>?_) hs;subst ex;obtain rfl:ov=adI a:=rx;exact Pj I2 ea c n l ry λs3 I3=>⟨σ,_,I3,q2⟩
variable{X:Cx}{pins:List (ac6 × Obj)}{σ:St}{H:Hp}{s:acZ}{A:adQ}{E:acY->acZ->Prop}{Q:acY->acZ->Prop}{c:acY}{b:Bool}
inductive cS(K:acS)(H:Hp):V->acY->Prop where
 | non:cS K H .non (.type "NoneType")
 | bl (x:Bool):cS K H (.bl x) (.type "bool")
 | int (i:Int):cS K H (.int i) (.type "int")
 | str (x:Str):cS K H (.str x) (.type "str")
 | flt (x:UInt64):cS K H (.flt x) (.type "float")
 | lst {a:ac6} {xs:List V} (e:H a=some (.lst xs)):cS K H (.ref a) (.type "list")
 | aX {a:ac6} {o:Obj} {xs:List V} (e:H a=some (.aX o (.lst xs))):cS K H (.ref a) (.type "list")
 | tup {a:ac6} {xs:List V} (e:H a=some (.tup xs)):cS K H (.ref a) (.type "tuple")
 | dK {a:ac6} {kvs:List (Key × V)} (e:H a=some (.dK kvs)):cS K H (.ref a) (.type "dict")
 | dT {a:ac6} {kvs:List (List Key × V)} (e:H a=some (.dT kvs)):cS K H (.ref a) (.type "dict")
 | ins {a C dx:ac6} {fs:List (Str × V)} (e:H a=some (.ins C dx fs)) (cl:gy K C) (ha:adA K (.ref C) "__class__" = some (some (.builtin "object.__class__")))
  (hn:PySem.W.specialIn K (.builtin "object.__class__") "__get__" = some (some (.builtin "getset_descriptor.__get__"))) (Fs:PySem.W.takesIn K (.builtin "object.__class__")=some true)
  (hm:aga K C (.type "object")=some true):cS K H (.ref a) (.ref C)
theorem Po{x:V}{u t:acY}(I:Inv X pins σ H s)(rx:RelV x u)(ty:cS X.K H x t)(e:aeT X.K t c=some b)(h:∀ tk,Q (.bool b) { s with toks:=tk }) :
 adg (model X.prog X.w) A (call (.builtin "isinstance") [u,c]) Q E s:=by
 cases ty with
 | non=>cases (show u=Value.none from rx);exact aeL PySem.W.kitx_none I.cv afU e (λz=>nomatch z) h
 | bl y=>cases (show u=afo y from rx);exact aeL PySem.W.kitx_bool I.cv afU e (λz=>nomatch z) h
 | int i=>obtain⟨t,q⟩:=(show ∃ t,u=Value.int i t from rx);cases q;exact aeL PySem.W.kitx_int I.cv afU e (λz=>nomatch z) h
 | str y=>obtain⟨t,q⟩:=(show ∃ t,u=ajF y t from rx);cases q;exact aeL PySem.W.kitx_str I.cv afU e (λz=>nomatch z) h
 | flt y=>obtain⟨t,q⟩:=(show ∃ t,u=akE y t from rx);cases q;exact aeL PySem.W.kitx_float I.cv afU e (λz=>nomatch z) h
 | @lst a xs ea =>
  cases (show u=adI a from rx);obtain⟨_,_,n,_,h1⟩:=(show bG X.prog X.w H s.heap a (.lst xs) from I.aj a _ ea)
  exact aeL aj0 I.cv ⟨_,h1,rfl⟩ e (λz=>nomatch z) h
 | @aX a ob xs ea =>
  cases (show u=adI a from rx);obtain⟨_,_,_,n,_,h1⟩:=(show bG X.prog X.w H s.heap a (.aX ob (.lst xs)) from I.aj a _ ea)
  exact aeL aj0 I.cv ⟨_,h1,rfl⟩ e (λz=>nomatch z) h
 | @tup a xs ea =>
  cases (show u=adI a from rx);obtain⟨_,_,_,p⟩:=(show bG X.prog X.w H s.heap a (.tup xs) from I.aj a _ ea)
  obtain⟨o,h1,h2,_⟩:=p;exact aeL PySem.W.kitx_tuple I.cv ⟨o,h1,h2⟩ e (λz=>nomatch z) h
 | @dK a kvs ea =>
  cases (show u=adI a from rx);obtain⟨_,_,vs,_,p⟩:=(show bG X.prog X.w H s.heap a (.dK kvs) from I.aj a _ ea)
  obtain⟨o,es,ep,h1,h2,_⟩:=p;exact aeL aj1 I.cv ⟨o,h1,h2.1⟩ e (λz=>nomatch z) h
 | @dT a kvs ea =>
  cases (show u=adI a from rx);obtain⟨_,_,xs,_,o,es,ep,h1,h2,_⟩:=(show bG X.prog X.w H s.heap a (.dT kvs) from I.aj a _ ea)
  exact aeL aj1 I.cv ⟨o,h1,h2.1⟩ e (λz=>nomatch z) h
 | @ins a C dx fs ea cl ha hn Fs hm =>
  cases (show u=adI a from rx);obtain⟨mA,O,_⟩:=sC I.aj ea;obtain⟨od,J,_⟩:=O.look;exact aeL (PySem.W.kitx_own (cl.get _) cl.hd ha hn Fs hm) I.cv J e (λz=>nomatch z) h
end
structure bO(k:Nat)(A:adQ):Prop where
 hd:A.handled=none
 dp:A.depth+3 * k+5<recursionLimit
 un:A.units+16 * k+200<ajN
theorem bO.mono{j k:Nat}{A:adQ}(r:bO k A)(h:j<=k):bO j A:=⟨r.hd,by have:=r.dp;omega,by have:=r.un;omega⟩
theorem bO.deeper{k:Nat}{A:adQ}(r:bO (k+1) A)(env:Env):bO k (A.deeper env) :=
 ⟨r.hd,by have:=r.dp;show A.depth+1+3 * k+5<_;omega,by have:=r.un;show A.units+3+16 * k+200<_;omega⟩
theorem bO.in1{k:Nat}{A:adQ}(r:bO (k+1) A):bO k A.in1 :=
 ⟨r.hd,by have:=r.dp;show A.depth+3 * k+5<_;omega,by have:=r.un;show A.units+1+16 * k+200<_;omega⟩
theorem Pp{A:adQ}{C:ac6}{us:List acY}{kw:List (Str × acY)}:(A.under (.builtin "type.__call__" ⟨.ref C::us,kw⟩)).depth=A.depth+1:=by
 first|rfl|simp[aki,Code.weight,Code.isCreation,Code.isGuard,Code.isCaller,Code.frames,Code.isFrame,guardIds]
theorem Pq{A:adQ}{C:ac6}{us:List acY}{kw:List (Str × acY)}:(A.under (.builtin "type.__call__" ⟨.ref C::us,kw⟩)).units=A.units+1:=by
 first|rfl|simp[aki,Code.cUnits,Code.frames,Code.isFrame]
theorem bO.make{k:Nat}{A:adQ}(r:bO (k+1) A)(C:ac6)(us:List acY)(kw:List (Str × acY)):bO k (A.under (.builtin "type.__call__" ⟨.ref C::us,kw⟩)) :=
 ⟨r.hd,by have:=r.dp;rw[Pp];omega,by have:=r.un;rw[Pq];omega⟩
theorem bO.depth{k:Nat}{A:adQ}(r:bO k A):A.depth<recursionLimit:=by have:=r.dp;omega
theorem bO.units{k:Nat}{A:adQ}(r:bO k A):A.units+64<ajN:=by have:=r.un;omega
noncomputable def sD:TA:=λ_ H Q=>Q [] H
noncomputable def wk(ta:TE)(tr:TA):TA:=λσ H Q=>ta σ H λx H1=>tr σ H1 λxs H2=>Q (x::xs) H2
section
variable{X:Cx}{e:aeY}{es:List aeY}{te:TE}{t:TA}{pos:Pos}
theorem ai:PA X [] sD:=λ_ _ _ _ H Q I h=>agR ⟨[],H,I,.nil,h⟩
theorem ae(ha:PE X e te)(hr:PA X es t)(hs:adC (e::es) X.env=(false,eval e X.env)::adC es X.env:=by rfl):PA X (e::es) (wk te t):=by
 intro pos pins s σ H Q I h;rw[hs];show adg _ _ (spliced ((false,eval e X.env)::afE pos (adC es X.env))) _ _ s;refine agF (aA (ha pins s σ H _ I h) λu s1 ⟨x,H1,I1,r1,q1⟩=>?_);exact aA (hr pos pins s1 σ H1 _ I1 q1) λus s2 ⟨xs,H2,I2,r2,q2⟩=>⟨x::xs,H2,I2,.cons r1 r2,q2⟩
noncomputable def Ft(t:TA):TE:=λσ H Q=>t σ H λxs H1=>xs.length<=adz/\∀ p,H1 p=none->Q (.ref p) (upd H1 p (.tup xs))
noncomputable def Fu(t:TA):TE:=λσ H Q=>t σ H λxs H1=>xs.length<=adz/\∀ p,H1 p=none->Q (.ref p) (upd H1 p (.lst xs))
theorem bE{x1}(h:PA X es t):PE X (.Tuple es x1 pos) (Ft t):=by intro pins s σ H Q I hq;refine wpAny_Tuple_spliced (aA (h pos pins s σ H _ I hq) λus s1 ⟨xs,H1,I1,r,z,q⟩=>⟨by rw[<- r.length];exact z,?_⟩);have hf:H1 s1.heap.objs.size=none:=I1.aj.fresh (ac8 _);refine⟨.ref s1.heap.objs.size,upd H1 s1.heap.objs.size (.tup xs),I1.laid (t':=s1.toks) (λb u e=>acT _ e) (ac8 _) ?_,rfl,q _ hf⟩;exact⟨z,us,r,⟨_,ac3 _ rfl,rfl,_,rfl⟩⟩
theorem cM(h:PA X es t):PE X (.List es pos) (Fu t):=by intro pins s σ H Q I hq;refine wpAny_List_spliced (aA (h pos pins s σ H _ I hq) λus s1 ⟨xs,H1,I1,r,z,q⟩=>⟨by rw[<- r.length];exact z,?_⟩);have hf:H1 s1.heap.objs.size=none:=I1.aj.fresh (ac8 _);refine⟨.ref s1.heap.objs.size,upd H1 s1.heap.objs.size (.lst xs),I1.laid (t':=s1.toks) (λb u e=>acT _ e) (ac8 _) ?_,rfl,q _ hf⟩;exact⟨z,us,0,r,ac3 _ rfl⟩
end
noncomputable abbrev Sp:=List V->Hp->VK->XK->Prop
noncomputable abbrev el:=List Env->Hp->acZ->XK->acY->acZ->Prop
structure kK(P:ado)(w:adM)(K:acS)(mg:Str->Option acY)(base:aeA)(A:adQ)(outer:List Env)(s:acZ)(H:Hp):Prop where
 frames:A.frames=some outer
 mod:Mod K mg base
 bs:∀ b o,base.get? b=some o->s.heap.get? b=some o/\H b=none
 bsz:base.objs.size<=s.heap.objs.size
 gn:s.heap.FunFrames base outer
 frf:∀ b∈aY outer,H b=none
 aj:bQ P w H s.heap
 bare:aiM s.gens
noncomputable def CE(outer:List Env)(P:ado)(w:adM)(H:Hp)(s:acZ)(Q:VK)(u:acY)(s':acZ):Prop :=
 ∃ v H',s'.os=s.os/\aiM s'.gens/\Un (aY outer) [] H H' s.heap s'.heap/\bQ P w H' s'.heap/\RelV v u/\Q v H'
noncomputable def CR(CX:el)(outer:List Env)(P:ado)(w:adM)(H:Hp)(s:acZ)(Q:VK)(E:XK)(r:ahG)(s':acZ):Prop :=
 match r with
 | .ok (.ret u)=>CE outer P w H s Q u s'
 | .ok _=>False
 | .error e=>CX outer H s E e s'
structure aJ(P:ado)(w:adM)(K:acS)(mg:Str->Option acY)(base:aeA)(CX:el)(k:Nat)(f:ac6)(fd:afu)(ps:List Str)(sp:Sp):Prop where
 len:∀ vs H Q E,sp vs H Q E->vs.length=ps.length
 run:∀ (A:adQ) (outer:List Env) (s:acZ) (H:Hp) (args:Args) (us:List acY) (vs:List V) (Q:VK) (E:XK),bO k A->kK P w K mg base A outer s H->akH s fd args (ps.zip us)->Vals vs us->sp vs H Q E ->
  afG (model P w) A (.call (.ref f) args) (CR CX outer P w H s Q E) s
theorem kK.make{P:ado}{w:adM}{K:acS}{mg:Str->Option acY}{base:aeA}{A:adQ}{outer:List Env}{s:acZ}{H:Hp}(e:kK P w K mg base A outer s H)(C:ac6)(us:List acY)(kw:List (Str × acY)) :
 kK P w K mg base (A.under (.builtin "type.__call__" ⟨.ref C::us,kw⟩)) outer s H:=⟨by first|exact e.frames|(simpa [aki,Code.envs,Code.isFrame,pushEnvs] using e.frames),e.mod,e.bs,e.bsz,e.gn,e.frf,e.aj,e.bare⟩
section
variable{X:Cx}{pins:List (ac6 × Obj)}{σ:St}{H:Hp}{s s':acZ}
theorem Inv.jh(I:Inv X pins σ H s):kK X.prog X.w X.K X.mg X.base X.A X.stack s H :=
 ⟨I.ok.frames,I.ok.mod,I.bs,adb I.ok.bsz I.sz,I.stack,I.nJ,I.aj,I.bare⟩
theorem Inv.after{Q:VK}{u:acY}(I:Inv X pins σ H s)(h:CE X.stack X.prog X.w H s Q u s'):EP X pins σ Q u s':=by obtain⟨v,H',os,bare,un,aj,r,q⟩:=h;obtain⟨hh,g,d,t,nT⟩:=s';obtain rfl:nT=s.os:=os;exact⟨v,H',I.call (h':=hh) (g':=g) (d':=d) (t':=t) (ch:=[]) un aj bare (λb z=>absurd z (by simp)),r,q⟩
end
noncomputable def wm(sp:Sp)(cN:List V)(E:XK)(t:TA):TE:=λσ H Q=>t σ H λvs H1=>sp (vs++cN) H1 Q E
noncomputable def wt(C:ac6)(m:Str)(sp:Sp)(cN:List V)(E:XK)(ta:TE)(t:TA):TE:=λσ H Q=>ta σ H λx H1=>∃ a dx fs,x = .ref a/\H1 a=some (.ins C dx fs)/\fs.lookup m=none /\
 t σ H1 λvs H2=>sp (x::(vs++cN)) H2 Q E
noncomputable def Fv(C:ac6)(sp:Sp)(cN:List V)(E:XK)(t:TA):TE:=λσ H Q=>t σ H λvs H1=>∀ x dx,H1 x=none->H1 dx=none->dx≠x ->
 sp (.ref x::(vs++cN)) (upd (upd H1 dx (.own x)) x (.ins C dx [])) (λv H2=>v = .non/\Q (.ref x) H2) E
noncomputable def Binds(K:acS)(fd:afu)(ps:List Str)(ds:List acY):Prop :=
 ∀ (s:acZ) (us:List acY),K.In s.heap->(us++ds).length=ps.length->akH s fd ⟨us,[]⟩ (ps.zip (us++ds))
theorem Binds.all{K:acS}{fd:afu}{ps:List Str}(h:∀ us:List acY,us.length=ps.length->bindArgs fd ⟨us,[]⟩=pure (ps.zip us)):Binds K fd ps []:=λs us _ hl=>by rw[aiS] at hl ⊢;exact .of_eq (h us hl)
noncomputable def Passes(CX:el)(X:Cx)(E:XK):Prop:=∀ (pins:List (ac6 × Obj)) (σ:St) (H:Hp) (s:acZ) (e:acY) (s':acZ),Inv X pins σ H s->CX X.stack H s E e s'->X.xe e s'
section
variable{X:Cx}{CX:el}{k:Nat}{f C:ac6}{fd:afu}{ps:List Str}{sp:Sp}{cN:List V}{ds:List acY}{E:XK}{x m:Str}{p pos apos:Pos}{e o:aeY}{es:List aeY}{ta:TE}{t:TA}
theorem wu{pins:List (ac6 × Obj)}{σ:St}{H:Hp}{s:acZ}{Q:VK}{us:List acY}{vs:List V}(F:aJ X.prog X.w X.K X.mg X.base CX k f fd ps sp)(hr:bO k X.A)(hb:Binds X.K fd ps ds)(hd:Vals cN ds)(hx:Passes CX X E)
 (I:Inv X pins σ H s) (r:Vals vs us) (h:sp (vs++cN) H Q E):adg (model X.prog X.w) X.A (call (.ref f) us) (EP X pins σ Q) X.xe s:=by
 have r2:Vals (vs++cN) (us++ds):=r.append hd;have hl:(us++ds).length=ps.length:=by rw[<- r2.length];exact F.len _ _ _ _ h
 refine aji (agC (F.run X.A X.stack s H ⟨us,[]⟩ (us++ds) (vs++cN) Q E hr I.jh (hb s us I.cv hl) r2 h) λr s' hq=>?_);cases r with
 | error e=>exact hx pins σ H s e s' I hq
 | ok fl =>
  cases fl with
  | ret u=>exact I.after hq
  | next=>exact afq hq
  | brk=>exact afq hq
  | cont=>exact afq hq
theorem kL(F:aJ X.prog X.w X.K X.mg X.base CX k f fd ps sp)(hr:bO k X.A)(hg:Gl X x)(hm:X.mg x=some (.ref f))(hk:afz X.K (.ref f)=true)(hb:Binds X.K fd ps ds)(hd:Vals cN ds)(hx:Passes CX X E)
 (ha:PA X (e::es) t) (iH:(x == ("__debug__" : Str))=false:=by decide) (he:adC (e::es) X.env=(false,eval e X.env)::adC es X.env:=by rfl) (dM:(afE pos (adC es X.env)).any (·.1)=false:=by rfl) :
 PE X (.Call (.Name x p) (e::es) [] pos) (wm sp cN E t):=by
 intro pins s σ H Q I h;refine aeJ (pO I hg hm ?_ iH);refine ahH (h₀:=X.base) I.ok.mod.kin hk (aA (ha pos pins s σ H _ I h) λus s1 ⟨vs,H1,I1,r,q⟩=>⟨I1.cv,?_⟩) he dM;exact wu F hr hb hd hx I1 r q
theorem jN{pl:Sem Bool}(he:PE X o ta)(c:gy X.K C)(hm:Meth X.K C m f)(F:aJ X.prog X.w X.K X.mg X.base CX k f fd ps sp)(hr:bO k X.A)(hb:Binds X.K fd ps ds)(hd:Vals cN ds)(hx:Passes CX X E)(ha:PA X (e::es) t)
 (bC:adC (e::es) X.env=(false,eval e X.env)::adC es X.env:=by rfl) (dM:(afE pos (adC es X.env)).any (·.1)=false:=by rfl)
 (ht:eval (.Call (.Attribute o m apos) (e::es) [] pos) X.env=(do
   let ov <- eval o X.env
   alj apos.atName
   let (f,first) <- holding [ov] (akG ov m pl)
   callWith pos f first (afE pos (adC (e::es) X.env)) (akB pos (aif [] X.env))):=by rfl) :
 PE X (.Call (.Attribute o m apos) (e::es) [] pos) (wt C m sp cN E ta t):=by
 intro pins s σ H Q I h;refine aiT (pl:=pl) (aA (he pins s σ H _ I h) λu s1 ⟨x,H1,I1,rx,a,dx,fs,ex,ea,l,q⟩=>?_) ht;subst ex;obtain rfl:u=adI a:=rx;refine Fo I1 ea c hm l ?_;refine ahH (first:=[.ref a]) (h₀:=X.base) I.ok.mod.kin hm.kp (aA (ha pos pins s1 σ H1 _ I1 q) λus s2 ⟨vs,H2,I2,r,q2⟩=>⟨I2.cv,?_⟩) bC dM;exact wu (us:=.ref a::us) (vs:=.ref a::vs) F hr hb hd hx I2 (.cons rfl r) q2
theorem wx{pl:Sem Bool}(he:PE X o ta)(c:gy X.K C)(hm:Meth X.K C m f)(F:aJ X.prog X.w X.K X.mg X.base CX k f fd ps sp)(hr:bO k X.A)(hb:Binds X.K fd ps ds)(hd:Vals cN ds)(hx:Passes CX X E)
 (ht:eval (.Call (.Attribute o m apos) [] [] pos) X.env=(do
   let ov <- eval o X.env
   alj apos.atName
   let (f,first) <- holding [ov] (akG ov m pl)
   callWith pos f first (afE pos (adC [] X.env)) (akB pos (aif [] X.env))):=by rfl) :
 PE X (.Call (.Attribute o m apos) [] [] pos) (wt C m sp cN E ta sD):=by
 intro pins s σ H Q I h;refine aiT (pl:=pl) (aA (he pins s σ H _ I h) λu s1 ⟨x,H1,I1,rx,a,dx,fs,ex,ea,l,q⟩=>?_) ht;subst ex;obtain rfl:u=adI a:=rx;refine Fo I1 ea c hm l ?_;exact PySem.W.callWith_K0 (first:=[.ref a]) I1.cv hm.kp (wu (us:=[.ref a]) (vs:=[.ref a]) F hr hb hd hx I1 (.cons rfl .nil) q)
structure Mk(K:acS)(C f:ac6):Prop where
 makes:aiR K C=true
 init:adA K (.ref C) "__init__" = some (some (.ref f))
 fn:afN K (.ref f)=true
 kp:afz K (.ref C)=true
theorem Pr{pins:List (ac6 × Obj)}{σ:St}{H:Hp}{s:acZ}{Q:VK}{us:List acY}{vs:List V}(M:Mk X.K C f)(F:aJ X.prog X.w X.K X.mg X.base CX k f fd ps sp)(hr:bO (k+1) X.A)(hb:Binds X.K fd ps ds)(hd:Vals cN ds)
 (hx:Passes CX X E) (I:Inv X pins σ H s) (r:Vals vs us)
 (h:∀ x dx,H x=none->H dx=none->dx≠x->sp (.ref x::(vs++cN)) (upd (upd H dx (.own x)) x (.ins C dx [])) (λv H2=>v = .non/\Q (.ref x) H2) E) :
 adg (model X.prog X.w) X.A (call (.ref C) us) (EP X pins σ Q) X.xe s:=by
 have hq:=h (s.heap.objs.size+1) s.heap.objs.size (I.aj.fresh (agS _)) (I.aj.fresh (ac8 _)) (adp (agu _));have I2:=Inv.made (C:=C) I;have r2:Vals (V.ref (s.heap.objs.size+1)::(vs++cN)) (adI (s.heap.objs.size+1)::(us++ds)):=.cons rfl (r.append hd);have hl:(adI (s.heap.objs.size+1)::us++ds).length=ps.length:=by have e:=r2.length;rw[F.len _ _ _ _ hq] at e;exact e.symm
 refine aji (Pe (f:=f) I.cv M.makes M.init (beq_iff_eq.mp M.fn) (agC (F.run _ X.stack _ _ ⟨adI (s.heap.objs.size+1)::us,[]⟩ (adI (s.heap.objs.size+1)::(us++ds)) _ _ E (hr.make C us [])
  (I2.jh.make C us []) (hb _ (adI (s.heap.objs.size+1)::us) I2.cv hl) r2 hq) λr s' eV=>?_))
 cases r with
 | error e=>exact hx pins σ _ _ e s' I2 eV
 | ok fl =>
  cases fl with
  | ret u =>
   obtain⟨v,H',I3,rv,ev,q3⟩:=I2.after eV;subst ev;exact⟨rv,⟨V.ref (s.heap.objs.size+1),H',I3,rfl,q3⟩⟩
  | next=>exact afq eV
  | brk=>exact afq eV
  | cont=>exact afq eV
theorem Pt(M:Mk X.K C f)(F:aJ X.prog X.w X.K X.mg X.base CX k f fd ps sp)(hr:bO (k+1) X.A)(hg:Gl X x)(hm:X.mg x=some (.ref C))(hb:Binds X.K fd ps ds)(hd:Vals cN ds)(hx:Passes CX X E)
 (ha:PA X (e::es) t) (iH:(x == ("__debug__" : Str))=false:=by decide) (he:adC (e::es) X.env=(false,eval e X.env)::adC es X.env:=by rfl) (dM:(afE pos (adC es X.env)).any (·.1)=false:=by rfl) :
 PE X (.Call (.Name x p) (e::es) [] pos) (Fv C sp cN E t):=by
 intro pins s σ H Q I h;refine aeJ (pO I hg hm ?_ iH);refine ahH (h₀:=X.base) I.ok.mod.kin M.kp (aA (ha pos pins s σ H _ I h) λus s1 ⟨vs,H1,I1,r,q⟩=>⟨I1.cv,?_⟩) he dM;exact Pr M F hr hb hd hx I1 r q
variable{X:Cx}{CX:el}{k:Nat}{f C:ac6}{fd:afu}{ps ks:List Str}{sp:Sp}{E:XK}{x m:Str}{p pos apos abC:Pos}{e o:aeY}{es:List aeY}{kws:List aj2}{te ta:TE}{t tk:TA}{nm:Option Str}
variable{g:List acY->List acY->List acY}{gV:List V->List V->List V}
end
structure aP(N P:List Str)(sc:ahg):Prop where
 kind:sc.kind = .function
 co:sc.isCoroutine=false
 gen:sc.isGenerator=false
 nd:N.Nodup
 pre:N.take P.length=P
 par:∀ x∈P,sc.names.lookup x=some .local∨sc.names.lookup x=some .cell
 nofree:∀ y∈sc.names,y.2 ≠ .free
theorem Fw{ah3:Str->Option aih}{x:Str}:∀ {binds:List (Str × acY)} {m:Str->Option acY},(∀ v,(x,v)∉binds)->alP ah3 binds m x=m x
 | [],_,_=>rfl
 | (n,v)::r,m,h=>by
  unfold alP;rw[Fw λw hw=>h w (adL _ hw)];split
  .have:x≠n:=by rintro rfl;exact h v ae2
   simp[this]
  .rfl
theorem Fx{ah3:Str->Option aih}{x:Str}:∀ {binds:List (Str × acY)} {m:Str->Option acY},(∀ v,(x,v)∉binds)->alQ ah3 binds m x=m x
 | [],_,_=>rfl
 | (n,v)::r,m,h=>by
  unfold alQ;rw[Fx λw hw=>h w (adL _ hw)];split
  .rfl
  .have:x≠n:=by rintro rfl;exact h v ae2
   simp[this]
theorem Fy{ah3:Str->Option aih}{x:Str}{v:acY}:∀ {P:List Str} {vs:List acY} {i:Nat} {m:Str->Option acY},P.Nodup->P[i]?=some x->vs[i]?=some v->ah3 x=some .local ->
 alP ah3 (P.zip vs) m x=some v
 | [],_,_,_,_,h,_,_=>by simp at h
 | _::_,[],_,_,_,_,h,_=>by simp at h
 | p::P,w::vs,0,m,nd,h1,h2,hk=>by simp at h1 h2;subst h1;subst h2;show alP ah3 ((p,w)::P.zip vs) m p=_;unfold alP;rw[Fw λv hv=>(aer.mp nd).1 (aiU hv).1,if_pos hk];simp
 | p::P,w::vs,i+1,m,nd,h1,h2,hk=>by show alP ah3 ((p,w)::P.zip vs) m x=_;unfold alP;exact Fy (i:=i) (aer.mp nd).2 (by simpa using h1) (by simpa using h2) hk
theorem Fz{ah3:Str->Option aih}{x:Str}{v:acY}:∀ {P:List Str} {vs:List acY} {i:Nat} {m:Str->Option acY},P.Nodup->P[i]?=some x->vs[i]?=some v->ah3 x≠some .local ->
 alQ ah3 (P.zip vs) m x=some v
 | [],_,_,_,_,h,_,_=>by simp at h
 | _::_,[],_,_,_,_,h,_=>by simp at h
 | p::P,w::vs,0,m,nd,h1,h2,hk=>by simp at h1 h2;subst h1;subst h2;show alQ ah3 ((p,w)::P.zip vs) m p=_;unfold alQ;rw[Fx λv hv=>(aer.mp nd).1 (aiU hv).1,if_neg hk];simp
 | p::P,w::vs,i+1,m,nd,h1,h2,hk=>by show alQ ah3 ((p,w)::P.zip vs) m x=_;unfold alQ;exact Fz (i:=i) (aer.mp nd).2 (by simpa using h1) (by simpa using h2) hk
noncomputable def start(N:List Str)(vs:List V):St:=vs.map some++ad4 (N.length-vs.length) none
noncomputable def gA(CX:el)(P:ado)(w:adM)(K:acS)(mg:Str->Option acY)(base:aeA)(N:List Str)(qual:Str)(scope:ahg)(f:ac6)(cd:acY)(A:adQ)(outer:List Env)(s:acZ)(H:Hp)(E:XK):Cx where
 prog:=P
 w:=w
 K:=K
 mg:=mg
 base:=base
 A:=A.deeper (afn qual scope s.heap.objs.size f cd)
 N:=N
 s₀:=s
 H₀:=H
 env:=afn qual scope s.heap.objs.size f cd
 outer:=outer
 stack:=afn qual scope s.heap.objs.size f cd::outer
 ex:=[]
 calm:=true
 fn:=λ_=>true
 pn:=[]
 xe:=λe s'=>adg (model P w) (A.deeper (afn qual scope s.heap.objs.size f cd)) (leaving (afn qual scope s.heap.objs.size f cd) e) (λ_ mB=>CX outer H s E e mB) (λe' mB=>CX outer H s E e' mB) s'
theorem FC{sc:ahg}{n:Nat}{x:Str}(h:sc.names.lookup x=some .cell):∃ c,(cellsFrom n sc.names []).lookup x=some c:=by have q:=aiB sc.names n [] (.inl h);exact ae3.mp q
theorem Pu{CX:el}{P:ado}{w:adM}{K:acS}{mg:Str->Option acY}{base:aeA}{N ps:List Str}{qual:Str}{scope:ahg}{f:ac6}{cd:acY}{A:adQ}{outer:List Env}{s s1:acZ}{H:Hp}{E:XK}{us:List acY}{vs:List V}
 (S:aP N ps scope) (hd:A.handled=none) (e0:kK P w K mg base A outer s H) (hl:vs.length=ps.length) (r:Vals vs us)
 (x:InCallC s s.heap.objs.size (alP (afn qual scope s.heap.objs.size f cd).kindOf (ps.zip us) λ_=>none) (cellsFrom (s.heap.objs.size+1) scope.names []) (alQ (afn qual scope s.heap.objs.size f cd).kindOf (ps.zip us) λ_=>none) s1) :
 Inv (gA CX P w K mg base N qual scope f cd A outer s H E) [] (start N vs) H s1:=by
 have dM:ps.length<=N.length:=by have:=congrArg List.length S.pre;rw[ahh] at this;omega
 obtain⟨h1,tk,rfl,hk⟩:=x.done;have iI:∀ b:ac6,b∉(gA CX P w K mg base N qual scope f cd A outer s H E).ex:=λb z=>absurd (show b∈([]:List ac6) from z) (by simp);refine⟨⟨e0.mod,S.kind,rfl,rfl,ac8 _,λy z c h1 h2=>?_,λy hy=>?_,λy c _ h=>?_,λ_=>hd,Around.frames_deeper e0.frames,.inr ⟨rfl,rfl⟩,λb z=>absurd z (iI b),e0.bs,e0.bsz,λb _ _=>iI b,λb z=>absurd z (iI b),e0.gn,e0.frf⟩,
  rfl,e0.bare,Un.kept hk,⟨_,x.toInCall.ns,λi y v h1 h2 h3=>?_⟩,λy c h=>⟨_,x.cell y c h⟩,e0.aj.fresh (ac8 _),λy c h=>?_,λp hp=>absurd (show p∈([]:List (ac6 × Obj)) from hp) (by simp),e0.aj.kept hk,?_⟩
 .exact name_of_addr x.apart (afg h1) (afg h2)
 .have hy:scope.names.lookup y=some .cell∨scope.names.lookup y=some .free:=hy;rcases hy with hy|hy
  .exact FC hy
  .exact absurd rfl (S.nofree _ (afg hy))
 .exact ag8 (x.above y c (afg h))
 .have hi:i<vs.length:=by
   unfold start at h2;by_cases hi:i<vs.length
   .exact hi
   .rw[aem (by simpa using hi)] at h2;rw[ae8] at h2;split at h2<;>cases h2
  have ha:vs[i]?=some v:=by
   unfold start at h2;rw[ad5 (by simpa using hi),adi] at h2;cases e:vs[i]? with
   | none=>rw[e] at h2;cases h2
   | some a=>rw[e] at h2;cases h2;rfl
  obtain⟨u,hu,rv⟩:=r.get ha;have hp:ps[i]?=some y:=by rw[<- S.pre,List.getElem?_take_of_lt (by omega)];exact h1
  have FD:ps.Nodup:=by rw[<- S.pre];exact S.nd.sublist (List.take_sublist _ _)
  refine⟨u,rv,?_⟩;rcases S.par y (adl hp) with k|k
  .exact .inl ⟨k,Fy FD hp hu k⟩
  .obtain⟨c,e⟩:=FC (n:=s.heap.objs.size+1) k;refine .inr ⟨.inl k,c,e,?_⟩;have q:=x.cell y c e;rw[Fz FD hp hu (by show scope.names.lookup y≠_;rw[k];decide)] at q;exact q
 .exact e0.aj.fresh (ag8 (x.above y c (afg h)))
 .unfold start;show _=N.length;rw[adj,acV,aek];omega
theorem FE{CX:el}{P:ado}{w:adM}{K:acS}{mg:Str->Option acY}{base:aeA}{k:Nat}{f:ac6}{name qual:Str}{params:Arguments}{body:List afr}{scope:ahg}{dV kV doc pm aG ct oc:acY}{an od:Option ac6}
 {jO:Array (Option acY)} {N ps:List Str} {sp:Sp} (lk:K.lookup f=some ⟨oc,od,.func (afv name qual params body scope dV kV doc pm an aG ct),jO⟩) (fO:ag2 K aG qual=true) (S:aP N ps scope)
 (len:∀ vs H Q E,sp vs H Q E->vs.length=ps.length)
 (kM:∀ (A:adQ) (outer:List Env) (s:acZ) (H:Hp) (vs:List V) (Q:VK) (E:XK),bO k (A.deeper (afn qual scope s.heap.objs.size f aG))->sp vs H Q E ->
   ∃ t,bw (gA CX P w K mg base N qual scope f aG A outer s H E) body t/\t { nx:=λ_ H'=>Q .non H',rt:=Q } (start N vs) H) :
 aJ P w K mg base CX (k+1) f (afv name qual params body scope dV kV doc pm an aG ct) ps sp:=by
 refine⟨len,λA outer s H args us vs Q E hr e0 hb r kN=>?_⟩;have hl:=len _ _ _ _ kN;have KX:K.In s.heap:=e0.mod.kin.keeps λb o e=>(e0.bs b o e).1;have lim:s.heap.NoLimit:=e0.mod.nolimit.keeps λb o e=>(e0.bs b o e).1;have Pw:∀ y∈ps.zip us,scope.names.lookup y.1=some .local∨(scope.names.lookup y.1=some .cell/\((cellsFrom (s.heap.objs.size+1) scope.names []).lookup y.1).isSome=true):=λ⟨n,v⟩ hy=>by
  rcases S.par n (aiU hy).1 with q|q
  .exact .inl q
  .exact .inr ⟨q,aiB _ _ _ (.inl q)⟩
 refine codeAny_call_function hr.depth (KX _ _ lk) rfl S.co S.gen rfl (PySem.W.codeRec_of KX fO) (hb _ _ _ _ ?_);refine wpAny_newFunctionEnv_cells S.kind Pw λenv he s1 x=>?_;subst he;refine⟨lim.keeps x.toInCall.keep,codeAny_func ?_⟩;obtain⟨t,ht,hq⟩:=kM A outer s H vs Q E (hr.deeper _) kN;have I:Inv (gA CX P w K mg base N qual scope f aG A outer s H E) [] (start N vs) H s1:=Pu S hr.hd e0 hl r x;refine adJ (ht [] s1 (start N vs) H _ I hq) (λfl s' hs=>?_) λe s' hs=>hs;have fin:∀ {σ':St} {H':Hp} {v:V} {u:acY},Inv (gA CX P w K mg base N qual scope f aG A outer s H E) [] σ' H' s'->RelV v u->Q v H'->CE outer P w H s Q u s' :=
  λ{σ' H' v u} J rv q=>⟨v,H',J.os,J.bare,J.base,J.aj,rv,q⟩
 cases fl with
 | ret u =>
  obtain⟨v,σ',H',J,rv,q⟩:=hs;exact fin J rv q
 | next =>
  obtain⟨σ',H',J,q⟩:=hs;exact fin (v:=V.non) (u:=Value.none) J rfl q
 | brk =>
  obtain⟨_,_,_,q⟩:=hs;exact afq q
 | cont =>
  obtain⟨_,_,_,q⟩:=hs;exact afq q
section
variable{X:Cx}{x:Str}{p pos:Pos}{e:aeY}{es:List aeY}{t:TA}{id T:String}{r:List V->Hp->VK->Prop}
noncomputable def wy(r:List V->Hp->VK->Prop)(t:TA):TE:=λσ H Q=>t σ H λvs H1=>r vs H1 Q
theorem bM(hc:eU X (.builtin id) r)(hg:Gl X x)(hm:X.mg x=none)(hv:ad3 x=some (.builtin id))(ha:PA X (e::es) t)(hn:x ≠ "__name__" := by decide)(iH:(x == ("__debug__" : Str))=false:=by decide)
 (he:adC (e::es) X.env=(false,eval e X.env)::adC es X.env:=by rfl) (dM:(afE pos (adC es X.env)).any (·.1)=false:=by rfl):PE X (.Call (.Name x p) (e::es) [] pos) (wy r t):=by
 intro pins s σ H Q I h;refine aeJ (eQ I hg hm hv ?_ hn iH);exact aha (aA (ha pos pins s σ H _ I h) λus s1 ⟨vs,H1,I1,r1,q1⟩=>hc pins s1 σ H1 vs us Q I1 r1 q1) he dM
theorem sE(hc:eU X (.type T) r)(hg:Gl X x)(hm:X.mg x=none)(hv:ad3 x=some (.type T))(ha:PA X (e::es) t)(hn:x ≠ "__name__" := by decide)(iH:(x == ("__debug__" : Str))=false:=by decide)
 (he:adC (e::es) X.env=(false,eval e X.env)::adC es X.env:=by rfl) (dM:(afE pos (adC es X.env)).any (·.1)=false:=by rfl):PE X (.Call (.Name x p) (e::es) [] pos) (wy r t):=by
 intro pins s σ H Q I h;refine aeJ (eQ I hg hm hv ?_ hn iH);exact adT (aA (ha pos pins s σ H _ I h) λus s1 ⟨vs,H1,I1,r1,q1⟩=>hc pins s1 σ H1 vs us Q I1 r1 q1) he dM
end
end L2
namespace HT
open PySem PyProof.Rows
noncomputable def lexLt:List Int->List Int->Bool
 | [],[]=>false
 | [],_::_=>true
 | _::_,[]=>false
 | x::xs,y::ys=>if x=y then lexLt xs ys else decide (x<y)
theorem jP(x y:Int)(xs ys:List Int):lexLt (x::xs) (y::ys)=if x=y then lexLt xs ys else decide (x<y):=rfl
theorem Px:lexLt [] []=false:=rfl
section
open PySem.SeqAt
open PySem.AutoSeq1 (wpAny_loadPart')
open PySem.MeetsSeq PySem.MeetsSeq2 PySem.MeetsSeq3
end
section
variable{prog:ado}{w:adM}{A:adQ}{E:acY->acZ->Prop}{s:acZ}
noncomputable def eo(n d:Nat):Option Int->Nat
 | none=>d
 | some v=>if v<0 then (v+(n:Int)).toNat else min v.toNat n
theorem Py(n d:Nat):eo n d none=d:=rfl
theorem Pz(n d k:Nat):eo n d (some (k:Int))=min k n:=by show (if (k:Int)<0 then ((k:Int)+(n:Int)).toNat else min (k:Int).toNat n)=min k n;rw[if_neg (by omega),adU]
end
end HT
namespace L2
open PySem PySem.Spec PyProof.Rows
noncomputable abbrev TO:=St->Hp->(Option Int->Hp->Prop)->Prop
noncomputable def PO(X:Cx)(e:Option aeY)(t:TO):Prop :=
 ∀ (pins:List (ac6 × Obj)) (s:acZ) (σ:St) (H:Hp) (Q:Option Int->Hp->Prop),Inv X pins σ H s->t σ H Q ->
  adg (model X.prog X.w) X.A (evalPart e X.env) (λu s'=>∃ o H',Inv X pins σ H' s'/\IsPart u o/\Q o H') X.xe s
noncomputable def FF:TO:=λ_ H Q=>Q none H
noncomputable def FG(t:TE):TO:=λσ H Q=>t σ H λx H1=>∃ i,x = .int i/\Q (some i) H1
theorem intsAre_of{ns:List Int}:∀ {us:List acY},Vals (ns.map V.int) us->ahN us ns:=by
 induction ns with
 | nil=>intro us r;rw[ahb] at r;cases r;exact .nil
 | cons n ns ih =>
  intro us r;rw[adq] at r;cases r with
  | cons r1 r2 =>
   obtain⟨t,e⟩:=r1;subst e;exact .cons n t (ih r2)
section
variable{X:Cx}{e:aeY}{te:TE}{lo hi:Option aeY}{tl th:TO}{pos p2:Pos}
theorem FH:PO X none FF:=by intro pins s σ H Q I h;rw[ajO];exact acX ⟨none,H,I,.none,h⟩
theorem FI(h:PE X e te):PO X (some e) (FG te):=by intro pins s σ H Q I hw;rw[evalPart_some];refine aA (h pins s σ H _ I hw) λu s1 ⟨x,H1,I1,r1,q1⟩=>?_;obtain⟨i,rfl,q⟩:=q1;obtain⟨t,rfl⟩:=r1;exact⟨some i,H1,I1,.int i t,q⟩
noncomputable def FK(X:Cx)(r:V->Option Int->Option Int->Hp->VK->Prop):Prop :=
 ∀ (pins:List (ac6 × Obj)) (s:acZ) (σ:St) (H:Hp) (x:V) (v vl vu:acY) (lo hi:Option Int) (sl:ac6) (Q:VK),Inv X pins σ H s->RelV x v->s.heap.IsSliceOf sl vl vu .none->IsPart vl lo->IsPart vu hi->r x lo hi H Q ->
  ∃ T id,aj3 (.type T) "__getitem__" = pure (some (.builtin id))/\s.TypeIs v T/\adg (model X.prog X.w) X.A (akI v (.ref sl)) (EP X pins σ Q) X.xe s
noncomputable def FL(r:V->Option Int->Option Int->Hp->VK->Prop)(te:TE)(tl th:TO):TE:=λσ H Q=>te σ H λx H1=>tl σ H1 λl H2=>th σ H2 λu H3=>r x l u H3 Q
theorem FN{r:V->Option Int->Option Int->Hp->VK->Prop}(hr:FK X r)(he:PE X e te)(hl:PO X lo tl)(hu:PO X hi th):PE X (.Subscript e (.Slice lo hi none p2) pos) (FL r te tl th):=by intro pins s σ H Q I h;refine aj4 (aA (he pins s σ H _ I h) λv s1 ⟨x,H1,I1,r1,q1⟩=>?_);refine wpAny_Slice (aA (hl pins s1 σ H1 _ I1 q1) λvl s2 ⟨l,H2,I2,pl,q2⟩=>aA (hu pins s2 σ H2 _ I2 q2) λvu s3 ⟨u,H3,I3,pu,q3⟩=>?_);rw[ajO];refine acX ?_;have I4:Inv X pins σ H3 { s3 with heap:=s3.heap.push { cls:=.type "slice",data:=.fields #[vl,vu,.none] } }:=I3.kept (t':=s3.toks) λb ob q=>acT _ q;obtain⟨T,id,hT,ht,hg⟩:=hr pins { s3 with heap:=s3.heap.push { cls:=.type "slice",data:=.fields #[vl,vu,.none] } } σ H3 x v vl vu l u s3.heap.objs.size Q I4 r1 (Heap.IsSliceOf.new ..) pl pu q3;show adg (model X.prog X.w) X.A (aii e (.Slice lo hi none p2) v (.ref s3.heap.objs.size)) (EP X pins σ Q) X.xe { s3 with heap:=s3.heap.push { cls:=.type "slice",data:=.fields #[vl,vu,.none] } };exact tail_any (ops:=[.ref s3.heap.objs.size,v]) ht hT hg (by with_unfolding_all rfl)
noncomputable def kO(xs:List V)(lo hi:Option Int):List V:=(xs.drop (HT.eo xs.length 0 lo)).take (HT.eo xs.length xs.length hi-HT.eo xs.length 0 lo)
theorem PB(xs:List V)(lo hi:Option Int):(kO xs lo hi).length<=xs.length:=by unfold kO;rw[ahh,ahi];omega
end
noncomputable def gR(n:Nat)(i:Int):Option Nat:=if 0<=i then (if i<n then some i.toNat else none) else if -(n:Int)<=i then some (i+n).toNat else none
noncomputable def cO{α:Type}(xs:List α)(i:Int):Option α:=(gR xs.length i).bind λj=>xs[j]?
theorem FO{n:Nat}{i:Int}{j:Nat}(h:gR n i=some j):seqIndex? i n=some j/\j<n/\-(n:Int)<=i/\i<n:=by
 unfold gR at h;by_cases h0:0<=i
 .rw[if_pos h0] at h;by_cases h1:i<n
  .rw[if_pos h1] at h;have e:i.toNat=j:=Option.some.inj h;exact⟨by rw[akJ h0 h1,e],by omega,by omega,h1⟩
  .rw[if_neg h1] at h;cases h
 .rw[if_neg h0] at h;by_cases h1 : -(n:Int)<=i
  .rw[if_pos h1] at h;have e:(i+n).toNat=j:=Option.some.inj h;exact⟨by rw[akj (by omega) h1,e],by omega,h1,by omega⟩
  .rw[if_neg h1] at h;cases h
theorem wz{α:Type}{xs:List α}{i:Int}{v:α}(h:cO xs i=some v):∃ j,seqIndex? i xs.length=some j/\xs[j]?=some v/\j<xs.length/\-(xs.length:Int)<=i/\i<xs.length:=by
 unfold cO at h;cases e:gR xs.length i with
 | none=>rw[e] at h;cases h
 | some j =>
  rw[e] at h;obtain⟨h1,h2,h3,h4⟩:=FO e;exact⟨j,h1,h,h2,h3,h4⟩
theorem eB{α:Type}{xs:List α}{j:Nat}{v:α}(h:xs[j]?=some v):cO xs (j:Int)=some v:=by
 have hj:j<xs.length:=(ade.mp h).1;have e:gR xs.length (j:Int)=some j:=by unfold gR;rw[if_pos (by omega),if_pos (by omega)];simp
 unfold cO;rw[e];exact h
theorem wA{α:Type}(xs:List α)(v:α):cO (xs++[v]) (-1)=some v:=by
 have hl:(xs++[v]).length=xs.length+1:=by simp
 have e:gR (xs++[v]).length (-1)=some xs.length:=by
  unfold gR;rw[hl,if_neg (by decide),if_pos (by omega)]
  congr 1
  omega
 unfold cO;rw[e];show (xs++[v])[xs.length]?=some v;simp
noncomputable def wB(b:aeY):Prop:=∀ o i,subscripted b false o i=operate [o,i] (akI o i)
noncomputable def ji(X:Cx)(r:R2):Prop :=
 ∀ (value slice:aeY) (pins:List (ac6 × Obj)) (s:acZ) (σ:St) (H:Hp) (x y:V) (v u:acY) (Q:VK),Inv X pins σ H s->RelV x v->RelV y u->r x y H Q ->
  subscripted slice false v u=operate [v,u] (akI v u)->adg (model X.prog X.w) X.A (aii value slice v u) (EP X pins σ Q) X.xe s
noncomputable def FP(X:Cx)(id:String)(r:V->List V->Hp->VK->Prop):Prop :=
 ∀ (pins:List (ac6 × Obj)) (s:acZ) (σ:St) (H:Hp) (x:V) (xs:List V) (v:acY) (us:List acY) (Q:VK),Inv X pins σ H s->RelV x v->Vals xs us->r x xs H Q ->
  adg (model X.prog X.w) X.A (call (.builtin id) (v::us)) (EP X pins σ Q) X.xe s
section
variable{X:Cx}{a b:aeY}{ta tb:TE}{pos:Pos}
theorem ji.or{r r':R2}(h:ji X r)(h':ji X r'):ji X (λx y H Q=>r x y H Q∨r' x y H Q):=by
 intro value slice pins s σ H x y v u Q I rx ry q hs;rcases q with q|q
 .exact h value slice pins s σ H x y v u Q I rx ry q hs
 .exact h' value slice pins s σ H x y v u Q I rx ry q hs
theorem wC{r:R2}(hr:ji X r)(ha:PE X a ta)(hb:PE X b tb)(hs:wB b):PE X (.Subscript a b pos) (mx r ta tb):=by intro pins s σ H Q I h;exact aj4 (v7 ha hb I h λv u s2 x y H2 I2 rx ry q=>hr a b pins s2 σ H2 x y v u Q I2 rx ry q (hs _ _))
noncomputable def FQ(K:acS):R2:=λx y H Q=>∃ p xs i v,x = .ref p/\y = .int i/\ah K H p xs/\cO xs i=some v/\Q v H
noncomputable def FR(K:acS):R2:=λx y H Q=>∃ p xs i v,x = .ref p/\y = .int i/\ax K H p xs/\cO xs i=some v/\Q v H
noncomputable def FT:R2:=λx y H Q=>∃ z i c,x = .str z/\y = .int i/\z.length<=adz/\cO z.cps.toList i=some c/\Q (.str ⟨#[c]⟩) H
theorem PD:ji X (FQ X.K):=by
 intro value slice pins s σ H x y v u Q I rx ry h hs;obtain⟨p,xs,i,z,rfl,rfl,hq,he,q⟩:=h;cases rx;obtain⟨t,rfl⟩:=ry;obtain⟨af,r,pl,hz⟩:=I.list hq;obtain⟨j,h1,h2,h3,h4,h5⟩:=wz he;obtain⟨w,ew,jQ⟩:=r.get h2;have hl:=r.length;have hn:=pS;have fin:EP X pins σ Q w s:=⟨z,H,I,jQ,q⟩
 by_cases h0:0<=i
 .have hj:i.toNat=j:=by rw[akJ h0 h5] at h1;exact Option.some.inj h1
  exact item_listR pl.isList h0 (by omega) (by rw[hj];simpa using ew) fin hs
 .have hj:(i+(af.toArray.size:Int)).toNat=j:=by rw[akj (by omega) h4] at h1;rw[ada,<- hl];exact Option.some.inj h1
  exact aiC (x:=w) pl.isList.typeIs slot_list_getitem.lookup
   (wpAny_getItem_list_neg (Q:=λr s'=>r=w/\EP X pins σ Q r s') pl.isList (by omega) (by rw[ada]<;>omega) (by omega) (by rw[hj];simpa using ew) ⟨rfl,fin⟩) hs
theorem PF:ji X (FR X.K):=by
 intro value slice pins s σ H x y v u Q I rx ry h hs;obtain⟨p,xs,i,z,rfl,rfl,hq,he,q⟩:=h;cases rx;obtain⟨t,rfl⟩:=ry;obtain⟨af,r,pl,hz⟩:=I.tuple hq;obtain⟨j,h1,h2,h3,h4,h5⟩:=wz he;obtain⟨w,ew,jQ⟩:=r.get h2;have hl:=r.length;have hn:=pS;have fin:EP X pins σ Q w s:=⟨z,H,I,jQ,q⟩
 exact aiC (x:=w) pl.typeIs slot_tuple_getitem.lookup
  (getItem_tuple (j:=j) (Q:=λr s'=>r=w/\EP X pins σ Q r s') pl (by omega) (by omega) (by rw[ada,<- hl];exact h1) (by simpa using ew) ⟨rfl,fin⟩) hs
theorem PH:ji X FT:=by
 intro value slice pins s σ H x y v u Q I rx ry h hs;obtain⟨z,i,c,rfl,rfl,hz,he,q⟩:=h;obtain⟨t,rfl⟩:=rx;obtain⟨t',rfl⟩:=ry;obtain⟨j,h1,h2,h3,h4,h5⟩:=wz he;have hl:z.cps.toList.length=z.length:=by simp[Str.length]
 rw[hl] at h1 h4 h5;have hn:=pS;exact tail_any (typeIs_str s z t) slot_str_getitem.lookup (getItem_str (c:=c) (by
  have e1:decide (i < -(2 ^ 63:Int))=false:=decide_eq_false (by omega);have e2:decide (i ≥ 2 ^ 63)=false:=decide_eq_false (by omega);rw[e1,e2,alk]) (by rw[h1];simpa using h2) ⟨.str ⟨#[c]⟩,H,I.tok _,⟨_,rfl⟩,q⟩) hs
noncomputable def nU(K:acS):R2:=λx y H Q=>FQ K x y H Q∨FR K x y H Q∨FT x y H Q
theorem wD:ji X (nU X.K):=PD.or (PF.or PH)
theorem PJ(af:List acY)(n j:Nat)(u:acY):adF (·.setIfInBounds j u) { cls:=.type "list",data:=.seq af.toArray n } = { cls:=.type "list",data:=.seq (af.set j u).toArray n }:=by simp[adF]
theorem Inv.lst{pins:List (ac6 × Obj)}{σ:St}{H:Hp}{s:acZ}{p:ac6}{xs:List V}(I:Inv X pins σ H s)(h:H p=some (.lst xs)) :
 ∃ (af:List acY) (n:Nat),Vals xs af/\s.heap.get? p=some { cls:=.type "list",data:=.seq af.toArray n }/\xs.length<=adz:=by
 obtain⟨z,af,n,r,e⟩:=I.aj p _ h;exact⟨af,n,r,e,z⟩
theorem Inv.PK{pins:List (ac6 × Obj)}{σ:St}{H:Hp}{s:acZ}{p:ac6}{xs ys:List V}{af its':List acY}{n n':Nat}{f:Obj->Obj}(I:Inv X pins σ H s)(h:H p=some (.lst xs))
 (ho:s.heap.get? p=some { cls:=.type "list",data:=.seq af.toArray n }) (hf:f { cls:=.type "list",data:=.seq af.toArray n } = { cls:=.type "list",data:=.seq its'.toArray n' }) (r:Vals ys its') (hz:ys.length<=adz) (t:Nat) :
 Inv X pins σ (upd H p (.lst ys)) { s with heap:=s.heap.update p f,toks:=t }:=by
 have e:(s.heap.update p f).get? p=some { cls:=.type "list",data:=.seq its'.toArray n' }:=by rw[adG f ho (by rw[hf]<;>rfl),hf]
 refine I.write (x:=p) (e:=p) (by rw[h];trivial) (.inl rfl) (λb u hb q=>(ac2 _ _ (adP hb)).trans q) ⟨_,e⟩ ?_;exact⟨hz,its',n',r,e⟩
noncomputable def FU:V->V->V->Hp->(Hp->Prop)->Prop:=λo i v H Q=>∃ p xs k j,o = .ref p/\i = .int k/\H p=some (.lst xs)/\gR xs.length k=some j/\Q (upd H p (.lst (xs.set j v)))
theorem set_list:E3 X FU:=by
 intro pins s σ H o i v ov iv u Q I ro ri rv h;obtain⟨p,xs,k,j,rfl,rfl,hp,hj,q⟩:=h;cases ro;obtain⟨t,rfl⟩:=ri;obtain⟨af,n,r,ho,hz⟩:=I.lst hp;obtain⟨h1,h2,h3,h4⟩:=FO hj;have hl:=r.length;have hn:=pS;have I':Inv X pins σ (upd H p (.lst (xs.set j v))) { s with heap:=s.heap.update p (adF (·.setIfInBounds j u)) } :=
  I.PK hp ho (PJ af n j u) (r.set rv j) (by rw[akK];exact hz) s.toks
 by_cases h0:0<=k
 .have hk:k.toNat=j:=by rw[akJ h0 h4] at h1;exact Option.some.inj h1
  exact PySem.W.ki_setAt ho h0 (by omega) (by rw[ada,<- hl];exact h4) (by rw[hk];exact⟨_,I',q⟩)
 .have hk:(k+(af.toArray.size:Int)).toNat=j:=by rw[akj (by omega) h3] at h1;rw[ada,<- hl];exact Option.some.inj h1
  exact PySem.W.ki_setBack ho (by omega) (by rw[ada,<- hl];exact h3) (by omega) (by rw[hk];exact⟨_,I',q⟩)
theorem PL(lo hi:Option Int)(n:Nat):(agy lo hi none n).1=((HT.eo n 0 lo:Nat):Int)/\(agy lo hi none n).2.1=((HT.eo n n hi:Nat):Int)/\(agy lo hi none n).2.2=1:=by
 refine⟨?_,?_,rfl⟩
 .cases lo with
  | none=>simp[agy,HT.eo]
  | some i =>
   simp only[agy,HT.eo,akp,show (1:Int) > 0 by decide,if_true];by_cases h:i<0
   .simp only[h,if_true]<;>omega
   .simp only[h,if_false]<;>omega
 .cases hi with
  | none=>simp[agy,HT.eo]
  | some i =>
   simp only[agy,HT.eo,akp,show (1:Int) > 0 by decide,if_true];by_cases h:i<0
   .simp only[h,if_true]<;>omega
   .simp only[h,if_false]<;>omega
theorem PM(af:List acY)(lo hi:Option Int):akL af.toArray lo hi none=((af.drop (HT.eo af.length 0 lo)).take (HT.eo af.length af.length hi-HT.eo af.length 0 lo)).toArray:=by obtain⟨h1,h2,h3⟩:=PL lo hi af.toArray.size;unfold akL;rw[h1,h2,h3];simp only[sliceRange_one,pick_run,ada]<;>rfl
noncomputable def FV(K:acS):V->Option Int->Option Int->Hp->VK->Prop:=λx lo hi H Q=>∃ a xs,x = .ref a/\ah K H a xs/\∀ p,H p=none->Q (.ref p) (upd H p (.lst (kO xs lo hi)))
theorem FW:FK X (FV X.K):=by intro pins s σ H x v vl vu lo hi sl Q I rx hs pl pu h;obtain⟨a,xs,rfl,hx,q⟩:=h;cases rx;obtain⟨af,r,ht,hz⟩:=I.list hx;have hlen:=r.length;refine⟨"list",_,slot_list_getitem.lookup,ht.isList.typeIs,?_⟩;refine ah4 ht.isList hs pl pu .none (by simp) ?_ (by rw[ada]<;>omega);rw[PM,<- hlen];refine⟨.ref s.heap.objs.size,_,I.laid (t':=s.toks) (o:=.lst (kO xs lo hi)) (λb ob q=>acT _ q) (ac8 _) ?_,rfl,q _ (I.aj.fresh (ac8 _))⟩;exact⟨adb (PB xs lo hi) hz,_,0,(r.drop (HT.eo xs.length 0 lo)).take (HT.eo xs.length xs.length hi-HT.eo xs.length 0 lo),ac3 _ rfl⟩
noncomputable def iJ:V->Bool
 | .non=>true
 | .bl _=>true
 | .int _=>true
 | .str _=>true
 | _=>false
noncomputable def jk:V->V->Bool
 | .non,.non=>true
 | .bl a,.bl b=>a == b
 | .bl a,.int b=>(if a then 1 else 0) == b
 | .int a,.bl b=>a == (if b then 1 else 0)
 | .int a,.int b=>a == b
 | .str a,.str b=>a == b
 | _,_=>false
theorem PN{A:adQ}{s:acZ}{y x:V}{u v:acY}(ry:RelV y u)(rx:RelV x v)(fy:iJ y=true)(fx:iJ x=true):SeqAt.EqAt A s u v (jk y x):=by
 cases y with
 | non =>
  cases ry;cases x with
  | non=>cases rx;exact SeqAt.EqAt.same _
  | bl b=>cases rx;exact SeqAt.EqAt.none_bool b
  | int b=>obtain⟨t,rfl⟩:=rx;exact SeqAt.EqAt.none_int b t
  | str b=>obtain⟨t,rfl⟩:=rx;exact SeqAt.EqAt.none_str b t
  | _=>exact absurd (show false=true from fx) adu
 | bl a =>
  cases ry;cases x with
  | non=>cases rx;exact SeqAt.EqAt.bool_none a
  | bl b=>cases rx;exact SeqAt.EqAt.bool_bool a b
  | int b=>obtain⟨t,rfl⟩:=rx;exact SeqAt.EqAt.bool_int a b t
  | str b=>obtain⟨t,rfl⟩:=rx;exact SeqAt.EqAt.bool_str a b t
  | _=>exact absurd (show false=true from fx) adu
 | int a =>
  obtain⟨t',rfl⟩:=ry;cases x with
  | non=>cases rx;exact SeqAt.EqAt.int_none a t'
  | bl b=>cases rx;exact SeqAt.EqAt.int_bool a t' b
  | int b=>obtain⟨t,rfl⟩:=rx;exact SeqAt.EqAt.int_int a t' b t
  | str b=>obtain⟨t,rfl⟩:=rx;exact SeqAt.EqAt.int_str a t' b t
  | _=>exact absurd (show false=true from fx) adu
 | str a =>
  obtain⟨t',rfl⟩:=ry;cases x with
  | non=>cases rx;exact SeqAt.EqAt.str_none a t'
  | bl b=>cases rx;exact SeqAt.EqAt.str_bool a t' b
  | int b=>obtain⟨t,rfl⟩:=rx;exact SeqAt.EqAt.str_int a t' b t
  | str b=>obtain⟨t,rfl⟩:=rx;exact SeqAt.EqAt.str_str a t' b t
  | _=>exact absurd (show false=true from fx) adu
 | _=>exact absurd (show false=true from fy) adu
noncomputable def fA(x:V)(u:acY):Bool:=match u with
 | .none=>jk .non x
 | .bool b=>jk (.bl b) x
 | .int i _=>jk (.int i) x
 | .str z _=>jk (.str z) x
 | _=>false
theorem FX{x y:V}{u:acY}(r:RelV y u)(f:iJ y=true):fA x u=jk y x:=by
 cases y with
 | non=>cases r;rfl
 | bl b=>cases r;rfl
 | int i=>obtain⟨t,rfl⟩:=r;rfl
 | str z=>obtain⟨t,rfl⟩:=r;rfl
 | _=>exact absurd (show false=true from f) adu
theorem pU{x:V}:∀ {xs:List V} {us:List acY},Vals xs us->xs.all iJ=true->us.any (fA x)=xs.any λy=>jk y x
 | _,_,.nil,_=>rfl
 | y::xs,u::us,.cons r t,f=>by rw[aij,aeH] at f;rw[aeo,aeo,FX r f.1,pU t f.2]
theorem pV{A:adQ}{s:acZ}{x:V}{v:acY}(rx:RelV x v)(fx:iJ x=true):∀ {xs:List V} {us:List acY},Vals xs us->xs.all iJ=true->∀ u∈us,SeqAt.EqAt A s u v (fA x u)
 | _,_,.nil,_=>λu hu=>by cases hu
 | y::xs,u::us,.cons r t,f=>λu' hu=>by
  rw[aij,aeH] at f;rcases ac9.mp hu with rfl|hu
  .rw[FX r f.1];exact PN r rx f.1 fx
  .exact pV rx fx t f.2 u' hu
noncomputable def kP(x:V)(xs:List V):Bool:=xs.any λy=>jk y x
noncomputable def sF(K:acS)(neg:Bool):R2:=λx y H Q=>∃ p xs,y = .ref p/\(ah K H p xs∨ax K H p xs)/\iJ x=true/\xs.all iJ=true/\Q (.bl (if neg then !kP x xs else kP x xs)) H
theorem sH:bp X (aeO .In) (sF X.K false):=by
 intro pins s σ H x y v u Q I rx ry h;obtain⟨p,xs,rfl,hq,fx,fs,q⟩:=h;cases ry;rcases hq with hq|hq
 .obtain⟨af,r,pl,hz⟩:=I.list hq;refine SeqAt.in_listAt (fA x) pl.isList (λw hw=>pV rx fx r fs w (by simpa using hw)) ⟨.bl _,H,I,rfl,?_⟩;rw[show af.toArray.any (fA x)=af.any (fA x) by simp,pU r fs];exact q
 .obtain⟨af,r,pl,hz⟩:=I.tuple hq;refine SeqAt.in_tupleAt (fA x) pl (λw hw=>pV rx fx r fs w (by simpa using hw)) ⟨.bl _,H,I,rfl,?_⟩;rw[show af.toArray.any (fA x)=af.any (fA x) by simp,pU r fs];exact q
theorem FY:bp X (aeO .NotIn) (sF X.K true):=by
 intro pins s σ H x y v u Q I rx ry h;obtain⟨p,xs,rfl,hq,fx,fs,q⟩:=h;cases ry;rcases hq with hq|hq
 .obtain⟨af,r,pl,hz⟩:=I.list hq;refine SeqAt.notIn_listAt (fA x) pl.isList (λw hw=>pV rx fx r fs w (by simpa using hw)) ⟨.bl _,H,I,rfl,?_⟩;rw[show af.toArray.any (fA x)=af.any (fA x) by simp,pU r fs];exact q
 .obtain⟨af,r,pl,hz⟩:=I.tuple hq;refine SeqAt.notIn_tupleAt (fA x) pl (λw hw=>pV rx fx r fs w (by simpa using hw)) ⟨.bl _,H,I,rfl,?_⟩;rw[show af.toArray.any (fA x)=af.any (fA x) by simp,pU r fs];exact q
theorem FZ:eU X (.type "list") (λxs H Q=>∃ p ys,xs=[.ref p]/\(ah X.K H p ys∨ax X.K H p ys)/\∀ l,H l=none->Q (.ref l) (upd H l (.lst ys))):=by
 intro pins s σ H xs us Q I r h;obtain⟨p,ys,rfl,hq,q⟩:=h;obtain⟨u,rfl,rx⟩:=vals1 r;cases rx;have fin:∀ (af:List acY),Vals ys af->ys.length<=adz->∀ (h':aeA) (c':Nat),(∀ b o',s.heap.get? b=some o'->h'.get? b=some o') ->
  h'.get? s.heap.objs.size=some { cls:=.type "list",dict:=none,data:=.seq af.toArray c',slots:=#[] }->EP X pins σ Q (.ref s.heap.objs.size) { s with heap:=h' }:=λaf r' hz h' c' kp e =>
  ⟨.ref s.heap.objs.size,_,I.laid (t':=s.toks) kp (ac8 _) (show bG X.prog X.w _ h' _ (.lst ys) from ⟨hz,af,c',r',e⟩),rfl,q _ (I.aj.fresh (ac8 _))⟩
 rcases hq with hq|hq
 .obtain⟨af,r',pl,hz⟩:=I.list hq;have hlen:=r'.length;obtain⟨o,ho,hc,n,hd⟩:=pl.isList;exact call_list_seq p (.inl rfl) ho hc hd (λh' c' kp e=>fin af r' hz h' c' kp e) (by simp only[ada]<;>omega)
 .obtain⟨af,r',pl,hz⟩:=I.tuple hq;have hlen:=r'.length;obtain⟨o,ho,hc,n,hd⟩:=pl;exact call_list_seq p (.inr rfl) ho hc hd (λh' c' kp e=>fin af r' hz h' c' kp e) (by simp only[ada]<;>omega)
noncomputable def sI(K:acS)(T:String)(x:V)(H:Hp):Prop:=match x with
 | .str _=>T = "str"
 | .int _=>T = "int"
 | .ref p=>(T = "list" /\ ∃ xs,ah K H p xs)∨(T = "tuple" /\ ∃ o,K.lookup p=some o/\o.cls = .type "tuple" /\ o.dict=none) ∨
  (T = "dict" /\ ((∃ kvs,H p=some (.dK kvs)) ∨ ∃ kvs,H p=some (.dT kvs)))∨(T = "set" /\ ∃ S n,H p=some (.set S n))
 | _=>False
theorem F0{pins:List (ac6 × Obj)}{σ:St}{H:Hp}{s:acZ}{T:String}{x:V}{v:acY}(I:Inv X pins σ H s)(r:RelV x v)(ty:sI X.K T x H) :
 s.TypeIs v T/\∀ a,v = .ref a->∃ ob,s.heap.get? a=some ob/\ob.dict=none:=by
 cases x with
 | str z =>
  obtain⟨t,rfl⟩:=r;cases (show T = "str" from ty);exact⟨typeIs_str s z t,λ_ e=>nomatch e⟩
 | int i =>
  obtain⟨t,rfl⟩:=r;cases (show T = "int" from ty);exact⟨ala s i t,λ_ e=>nomatch e⟩
 | ref p =>
  cases r;rcases ty with ⟨rfl,xs,hq⟩|⟨rfl,o,hk,hc,hd⟩|⟨rfl,hk⟩|⟨rfl,S,n,hk⟩
  .obtain⟨af,_,pl,_⟩:=I.list hq;refine⟨pl.isList.typeIs,λa e=>?_⟩;cases e;obtain⟨o,n,e,c,hd,_⟩:=pl;exact⟨o,e,hd⟩
  .refine⟨⟨o,I.cv p o hk,hc⟩,λa e=>?_⟩;cases e;exact⟨o,I.cv _ o hk,hd⟩
  .have z:∃ o,s.heap.get? p=some o/\o.ExactDict:=by
    rcases hk with ⟨kvs,hk⟩|⟨kvs,hk⟩
    .obtain⟨_,_,_,_,o,_,_,e,ex,_⟩:=I.aj p _ hk;exact⟨o,e,ex⟩
    .obtain⟨_,_,_,_,o,_,_,e,ex,_⟩:=I.aj p _ hk;exact⟨o,e,ex⟩
   obtain⟨o,e,ex⟩:=z;refine⟨⟨o,e,ex.1⟩,λa e2=>?_⟩;cases e2;exact⟨o,e,ex.2.1⟩
  .obtain⟨o,_,_,_,e,ex,_⟩:=I.aj p _ hk;refine⟨⟨o,e,ex.1⟩,λa e2=>?_⟩;cases e2;exact⟨o,e,ex.2.1⟩
 | _=>exact afq ty
noncomputable def F1(K:acS)(T:String)(r:V->List V->Hp->VK->Prop)(to:TE):TE:=λσ H Q=>to σ H λx H1=>sI K T x H1/\r x [] H1 Q
noncomputable def F2(K:acS)(T:String)(r:V->List V->Hp->VK->Prop)(to:TE)(t:TA):TE:=λσ H Q=>to σ H λx H1=>sI K T x H1/\t σ H1 λxs H2=>r x xs H2 Q
variable{o e:aeY}{es:List aeY}{to:TE}{t:TA}{name:Str}{apos cy:Pos}{T id:String}{r:V->List V->Hp->VK->Prop}
theorem PQ(pa:PlainAttrs T)(slot:Slot T name id)(mC:typeOf (.builtin id)=pure (.type "method_descriptor"))(hm:FP X id r)(ho:PE X o to)
 (wF:af9 o name X.env (eval o X.env)=eval o X.env:=by rfl) (wH:(apos.endLine == cy.line)=true:=by rfl):PE X (.Call (.Attribute o name apos) [] [] cy) (F1 X.K T r to):=by
 intro pins s σ H Q I h;refine wpAny_Call_method0_late wF wH (aA (ho pins s σ H _ I h) λv s1 ⟨x,H1,I1,r1,ty,q1⟩=>?_);obtain⟨h1,h2⟩:=F0 I1 r1 ty;exact⟨T,id,pa,slot,mC,h1,h2,aiD rfl (PySem.evalArgs_none (hm pins s1 σ H1 x [] v [] Q I1 r1 .nil q1))⟩
theorem mD(pa:PlainAttrs T)(slot:Slot T name id)(mC:typeOf (.builtin id)=pure (.type "method_descriptor"))(hm:FP X id r)(ho:PE X o to)(ha:PA X (e::es) t)
 (wF:af9 o name X.env (eval o X.env)=eval o X.env:=by rfl)
 (PR:((afE cy (adC (e::es) X.env)).all (λx=>!x.1) && (akB cy (aif [] X.env)).all (λx=>x.1.isSome)
   && decide ((e::es).length+([]:List aj2).length+(if ([]:List aj2).isEmpty then 0 else 1)<30))=true:=by rfl)
 (wH:(apos.endLine == cy.line)=true:=by rfl) (hs:adC (e::es) X.env=(false,eval e X.env)::adC es X.env:=by rfl) (PU:(afE cy (adC es X.env)).any (·.1)=false:=by rfl) :
 PE X (.Call (.Attribute o name apos) (e::es) [] cy) (F2 X.K T r to t):=by
 intro pins s σ H Q I h;refine wpAny_Call_method_late wF PR wH rfl (aA (ho pins s σ H _ I h) λv s1 ⟨x,H1,I1,r1,ty,q1⟩=>?_);obtain⟨h1,h2⟩:=F0 I1 r1 ty;refine⟨T,id,pa,slot,mC,h1,h2,?_⟩;have hA:=ha cy pins s1 σ H1 _ I1 q1;rw[hs] at hA ⊢;refine aiD (by show (false || (afE cy (adC es X.env)).any (·.1))=false;rw[PU]<;>rfl) (ajm ?_);exact aA hA λus s2 ⟨vs,H2,I2,r2,q2⟩=>hm pins s2 σ H2 x vs v us Q I2 r1 r2 q2
end
noncomputable def F3(X:Cx)(id:String)(r:V->List V->Hp->VK->Prop):Prop :=
 ∀ (pins:List (ac6 × Obj)) (s:acZ) (σ:St) (H:Hp) (x:V) (xs:List V) (v:acY) (us:List acY) (Q:VK),Inv X pins σ H s->RelV x v->Vals xs us->r x xs H Q ->
  adg (model X.prog X.w) X.A (call (.builtin id) (v::us)) (EP X pins σ Q) X.xe s
theorem Vals.one:∀ {x:V} {us:List acY},Vals [x] us->∃ u,us=[u]/\RelV x u
 | _,_,.cons r .nil=>⟨_,rfl,r⟩
theorem Vals.zero:∀ {us:List acY},Vals [] us->us=[]
 | _,.nil=>rfl
theorem Vals.reverse{xs:List V}{us:List acY}(h:Vals xs us):Vals xs.reverse us.reverse:=by
 induction h with
 | nil=>exact .nil
 | cons r t ih=>rw[agT,agT];exact Vals.append ih (.cons r .nil)
section
variable{X:Cx}{pins:List (ac6 × Obj)}{σ:St}{H:Hp}{s:acZ}{l b:ac6}{xs ys zs:List V}
theorem Inv.F4{af its':List acY}{n:Nat}{f:Array acY->Array acY}{t':Nat}(I:Inv X pins σ H s)(hH:H l=some (.lst xs))
 (e:s.heap.get? l=some { cls:=.type "list",data:=.seq af.toArray n }) (hf:f af.toArray=its'.toArray) (hv:Vals ys its') (hz:ys.length<=adz) :
 Inv X pins σ (upd H l (.lst ys)) { s with heap:=s.heap.update l (adF f),toks:=t' }:=by
 have q:=agv e f;rw[hf] at q;refine I.write (x:=l) (e:=l) (by rw[hH];exact trivial) (.inl rfl) (λb' u hb hu=>(ac2 s.heap (adF f) (adP hb)).trans hu) ⟨_,q⟩ ?_;exact⟨hz,its',_,hv,q⟩
theorem Inv.PV{af:List acY}{t':Nat}(I:Inv X pins σ H s)(hv:Vals ys af)(hz:ys.length<=adz) :
 Inv X pins σ (upd H s.heap.objs.size (.lst ys)) { s with heap:=s.heap.push { cls:=.type "list",data:=.seq af.toArray },toks:=t' } :=
 I.laid (λ_ _ q=>acT _ q) (ac8 _) ⟨hz,af,0,hv,ac3 _ rfl⟩
theorem Inv.fresh(I:Inv X pins σ H s):H s.heap.objs.size=none:=I.aj.fresh (ac8 _)
theorem Inv.sJ(I:Inv X pins σ H s)(hH:H l=some (.lst xs)):xs.length<=adz/\∃ (af:List acY) (n:Nat),Vals xs af/\xs.length=af.length/\s.heap.get? l=some { cls:=.type "list",data:=.seq af.toArray n }:=by obtain⟨z,af,n,r,e⟩:=I.aj l _ hH;exact⟨z,af,n,r,r.length,e⟩
variable{X:Cx}
noncomputable def F5:V->List V->Hp->VK->Prop:=λx vs H Q=>∃ l xs y,x = .ref l/\vs=[y]/\H l=some (.lst xs)/\xs.length<adz/\Q .non (upd H l (.lst (xs++[y])))
theorem mE:F3 X "list.append" F5:=by intro pins s σ H x vs v us Q I rx rv h;obtain⟨l,xs,y,rfl,rfl,hH,hz,q⟩:=h;cases rx;obtain⟨u,rfl,ru⟩:=rv.one;obtain⟨z,af,n,r,hl,e⟩:=I.sJ hH;refine ajj agG ⟨_,e,rfl⟩ agz (agg _ _) (agU l af.toArray n u (by rw[ada];omega)) ⟨e,?_⟩;refine⟨.non,_,I.F4 (its':=af++[u]) hH e (by simp) (r.append (.cons ru .nil)) ?_,rfl,q⟩;rw[adj,adh];omega
noncomputable def F6:V->List V->Hp->VK->Prop:=λx vs H Q=>∃ l xs,x = .ref l/\vs=[]/\H l=some (.lst xs)/\Q .non (upd H l (.lst xs.reverse))
theorem PX:F3 X "list.reverse" F6:=by intro pins s σ H x vs v us Q I rx rv h;obtain⟨l,xs,rfl,rfl,hH,q⟩:=h;cases rx;have PY:=rv.zero;subst PY;obtain⟨z,af,n,r,hl,e⟩:=I.sJ hH;refine ajj F.slot_list_reverse ⟨_,e,rfl⟩ F.entry_list_reverse (F.args_list_reverse_1 _) (AutoSeq1.list_reverse_list_0 l af.toArray n (by rw[ada];omega)) ⟨e,?_⟩;refine⟨.non,_,I.F4 (its':=af.reverse) hH e (by simp) r.reverse ?_,rfl,q⟩;rw[aeC];omega
noncomputable def F7:R2:=λx y H Q=>∃ l b xs zs,x = .ref l/\y = .ref b/\H l=some (.lst xs)/\H b=some (.lst zs)/\xs.length+zs.length<=adz/\∀ p,H p=none->Q (.ref p) (upd H p (.lst (xs++zs)))
theorem nV:bp X (ags .Add) F7:=by
 intro pins s σ H x y v u Q I rx ry h;obtain⟨l,b,xs,zs,rfl,rfl,hH,hB,hz,q⟩:=h;cases rx;cases ry;obtain⟨z,af,n,r,hl,e⟩:=I.sJ hH;obtain⟨z2,F8,n2,r2,ba,e2⟩:=I.sJ hB;refine PySem.P.add_list e e2 ?_ (by rw[ada,ada];omega);have ea:af.toArray++F8.toArray=(af++F8).toArray:=by simp
 rw[ea];exact⟨.ref _,_,I.PV (t':=s.toks) (r.append r2) (by rw[adj];omega),rfl,q _ I.fresh⟩
variable{prog:ado}{w:adM}{A:adQ}{E:acY->acZ->Prop}{s:acZ}
set_option maxRecDepth 100000 in
variable{X:Cx}
end
end L2
namespace wI
open PySem PySem.W PySem.Calls PyProof.Rows
theorem PZ{P:Params}{h:aeA}:∀ (ns:List Int) (vs:List acY),WellAll P h vs (ns.map WData.int)->ahN vs ns:=by
 intro ns
 induction ns with
 | nil =>
  intro vs w;rw[ahb] at w;cases w;exact .nil
 | cons n ns ih =>
  intro vs w;rw[adq] at w;cases w with
  | cons a b =>
   cases a;exact .cons _ _ (ih _ b)
theorem P4{l:OpenLaw}{n:Nat}(hn:l.most=some n){P:Params}{h:aeA}{args:List WData}{vals:List acY}
 (Ga:l.row.toRowW.claim.pre args=true) (P5:WellAll P h vals args) :
 ∃ a vs ns,vals=[adI a]/\args=[WData.list (ns.map WData.int)]/\h.get? a=some { cls:=.type "list",data:=.seq vs.toArray }/\ahN vs ns/\ns.length<=n:=by
 have Gb:WShape.hasAll [] args [.list .int]=true:=(pre_splitW Ga).1;have hc:l.pre.holds [] { args:=args }=true:=(pre_splitW Ga).2;obtain⟨d,r,rfl,h1,h2⟩:=hasAllW_cons Gb;obtain rfl:=hasAllW_nil h2;obtain⟨xs,rfl,h3⟩:=hasW_list h1;obtain⟨ns,rfl⟩:=items_int h3;have hlen:ns.length<=n:=by
  unfold OpenLaw.pre at hc;have h4:(WTm.not (.lt (.lit (.int (n:Int))) (.len (.arg 0)))).holds [] { args:=[.list (ns.map .int)] }=true:=by have h4:=(holds_andW hc).1;rw[hn] at h4;exact h4
  have h5:=condW_of h4 (w_not (w_lt w_lit (w_len_list (w_arg rfl))));rw[acV] at h5;refine akq λq=>?_;have q':(n:Int)<((ns.length:Nat):Int):=by omega
  first
   | (rw[decide_eq_true q'] at h5;exact absurd h5 (by decide))
   | (simp at h5;omega)
 cases P5 with
 | cons w1 w2 =>
  cases w2;cases w1 with
  | list ho hall=>exact⟨_,_,ns,rfl,rfl,ho,PZ ns _ hall,hlen⟩
theorem P6(l:OpenLaw)(args:List WData):l.row.toRowW.claim.post args (.bool true) args=true :=
 postW_of (r:=l.row.toRowW) (X:=(true == true))
  (show WShape.has [] (.bool true) .bool=true by first|rfl|decide|simp[WShape.has,WShape.arms,WShape.armsAll])
  (show (WTm.eq .res (.lit (.bool true))).value [] { args:=args,res:=some (.bool true),after:=args }=some (.bool (true == true)) from w_eq_bool (w_res rfl) w_lit) rfl
section
variable{prog:ado}{w:adM}{A:adQ}{E:acY->acZ->Prop}{s:acZ}{K:Frag}
end
end wI
namespace L2
open PySem PySem.Spec PyProof.Rows
theorem wJ:∀ {vs:List acY} {ns:List Int},ahN vs ns->Vals (ns.map V.int) vs
 | _,_,.nil=>.nil
 | _,_,.cons n t h=>.cons ⟨t,rfl⟩ (wJ h)
noncomputable def Ge(H:Hp):Prop:=∀ b,H b=none ∨ ∃ o xs,H b=some (.aX o (.lst xs))
theorem P7{P:ado}{w:adM}{K:acS}{mg mb:Str->Option acY}{CX:el}{k:Nat}{fa a:ac6}{fd:afu}{x:Str}{sp:Sp}{s₁:acZ}{vs:List acY}{ns:List Int}
 (KX:K.In s₁.heap) (fB:s₁.heap.Ns ac4 mg) (hb:s₁.heap.Ns ajZ mb) (Qa:∀ x:Str,x ≠ "__name__" -> mb x=ad3 x) (Qb:s₁.heap.NoLimit) (hg:s₁.gens = #[])
 (ha:s₁.heap.get? a=some { cls:=.type "list",data:=.seq vs.toArray }) (hi:ahN vs ns) (hl:ns.length<=adz) (hr:bO k akM)
 (F:∀ base:aeA,K.In base->base.Ns ac4 mg->aJ P w K mg base CX k fa fd [x] sp) (Qc:∀ (s:acZ) (u:acY),akH s fd ⟨[u],[]⟩ [(x,u)])
 (kN:∀ H:Hp,Ge H->ah K H a (ns.map V.int)->sp [.ref a] H (λv _=>v = .bl true) λ_ _ _=>False)
 (kQ:∀ H e s',CX [] H s₁ (λ_ _ _=>False) e s'->False) :
 afG (model P w) akM (.call (.ref fa) ⟨[.ref a],[]⟩) (λr s'=>r = .ok (.ret (.bool true))/\OldK s₁.heap s'.heap/\s'.os=s₁.os/\aiM s'.gens) s₁:=by
 have rv:=wJ hi;have Qd:=hi.length;have core:∀ H:Hp,Ge H->ah K H a (ns.map V.int)->bQ P w H s₁.heap->(∀ b,H b≠none->b=a)->(H a≠none->K.lookup a=none) ->
  afG (model P w) akM (.call (.ref fa) ⟨[.ref a],[]⟩) (λr s'=>r = .ok (.ret (.bool true))/\OldK s₁.heap s'.heap/\s'.os=s₁.os/\aiM s'.gens) s₁:=by
  intro H hO hS aj hA hK;have Gf:∀ {b:ac6} {o:Obj},s₁.heap.get? b=some o->H b=none->(jI s₁.heap H).get? b=some o:=λe n=>OB e n;have iI:∀ {b:ac6} {o:Obj} {es:Array agH} {ep:Nat},s₁.heap.get? b=some o->o.data = .dict es ep->H b=none:=λ{b o es ep} e d=>by
   cases q:H b with
   | none=>rfl
   | some u =>
    have e':b=a:=hA b (by rw[q];simp);subst e';rw[ha] at e;cases e;have d':Data.seq vs.toArray _=Data.dict es ep:=d;cases d'
  have sL:∀ {b:ac6} {m:Str->Option acY},s₁.heap.Ns b m->(jI s₁.heap H).Ns b m:=λ{b m} ⟨o,es,ep,e,d,r⟩=>⟨o,es,ep,Gf e (iI e d),d,r⟩
  have Gg:K.In (jI s₁.heap H):=λb o e=>Gf (KX b o e) (by
   cases q:H b with
   | none=>rfl
   | some u =>
    have e':b=a:=hA b (by rw[q];simp);subst e';rw[hK (by rw[q];simp)] at e;cases e)
  have hM:Mod K mg (jI s₁.heap H):=⟨Gg,sL fB,⟨mb,sL hb,Qa⟩,let ⟨mc,h1,h2⟩:=Qb;⟨mc,sL h1,h2⟩⟩
  have e0:kK P w K mg (jI s₁.heap H) akM [] s₁ H:=⟨rfl,hM,λb o e=>OC e,akh (OA _ _),trivial,λb hb=>absurd (show b∈([]:List ac6) from hb) (by simp),aj,.of_eq hg⟩
  refine agC ((F _ Gg (sL fB)).run akM [] s₁ H ⟨[.ref a],[]⟩ [.ref a] [.ref a] _ _ hr e0 (Qc s₁ (.ref a)) (.cons rfl .nil) (kN H hO hS)) λr s' h=>?_;cases r with
  | error e=>exact (kQ H e s' h).elim
  | ok fl =>
   cases fl with
   | next=>exact afq h
   | brk=>exact afq h
   | cont=>exact afq h
   | ret u =>
    obtain⟨v,H',os,bare,un,Qe,r',q⟩:=h;have q':v = .bl true:=q;subst q';obtain rfl:u=afo true:=r';refine⟨rfl,OldK.of_keep λb o e=>?_,os,bare⟩;cases q:H b with
    | none=>exact un.keep b o e q (by intro z;exact absurd (show b∈([]:List ac6) from z) (by simp)) (by simp)
    | some u =>
     rcases hO b with z|⟨ob,xs,z⟩
     .rw[q] at z;cases z
     .have z2:=un.dI b ob _ z;obtain⟨e1,_⟩:=aj b _ z;obtain⟨e2,_⟩:=Qe b _ z2;rw[e] at e1;cases e1;exact e2
 cases hk:K.lookup a with
 | some o =>
  have e:=KX a o hk;rw[ha] at e;cases e;refine core (λ_=>none) (λ_=>.inl rfl) (.inr ⟨_,vs.toArray,_,hk,rfl,rfl,rfl,by rw[ada,Qd];exact hl,by simpa using rv⟩) (λb u z=>by have z':(none:Option HO)=some u:=z;cases z') (λb z=>absurd rfl z) λz=>absurd rfl z
 | none =>
  refine core (λb=>if b=a then some (.aX { cls:=.type "list",data:=.seq vs.toArray } (.lst (ns.map V.int))) else none) (λb=>?_) (.inl (.inr ⟨{ cls:=.type "list",data:=.seq vs.toArray },if_pos rfl⟩)) (λb u z=>?_) (λb z=>?_) λ_=>hk
  .by_cases hb:b=a
   .exact .inr ⟨_,_,if_pos hb⟩
   .exact .inl (if_neg hb)
  .by_cases hb:b=a
   .have z':=(if_pos hb).symm.trans z;cases z';subst hb;exact⟨ha,by rw[acV];exact hl,vs,_,rv,ha⟩
   .have z':=(if_neg hb).symm.trans z;cases z'
  .by_cases hb:b=a
   .exact hb
   .exact absurd (if_neg hb) z
noncomputable def inClass(s:afr)(j:Nat):afr:=match s with
 | .ClassDef _ _ _ body _ _ _ _ _ _ _=>body.getD j (.Pass ⟨0,0,0,0⟩)
 | _=>.Pass ⟨0,0,0,0⟩
noncomputable def kR(s:afr):Arguments:=match s with
 | .FunctionDef _ a _ _ _ _ _ _ _ _=>a
 | _=>{ posonlyargs:=[],args:=[],vararg:=none,kwonlyargs:=[],kw_defaults:=[],kwarg:=none,defaults:=[] }
noncomputable def jl(s:afr):List afr:=match s with
 | .FunctionDef _ _ b _ _ _ _ _ _ _=>b
 | _=>[]
noncomputable def aL(s:afr):ahg:=match s with
 | .FunctionDef _ _ _ _ _ _ sc _ _ _=>sc
 | _=>{ kind:=.function,names:=[],isGenerator:=false,isCoroutine:=false }
noncomputable abbrev E0:XK:=λ_ _ _=>False
structure kT(K:acS)(x qual:Str)(st:afr)(f:ac6)(fd:afu):Prop where
 ex:∃ (oc:acY) (od:Option ac6) (kV doc pm:acY) (an:Option ac6) (aG ct:acY) (jO:Array (Option acY)),
  fd=afv x qual (kR st) (jl st) (aL st) .none kV doc pm an aG ct/\K.lookup f=some ⟨oc,od,.func fd,jO⟩/\ag2 K aG qual=true
 kp:afz K (.ref f)=true
section
variable{P:ado}{w:adM}{K:acS}{mg:Str->Option acY}{base:aeA}
theorem kT.binds{x qual:Str}{st:afr}{f:ac6}{fd:afu}{ps:List Str}(F:kT K x qual st f fd)
 (h:∀ (kV doc pm:acY) (an:Option ac6) (aG ct:acY) (us:List acY),us.length=ps.length->bindArgs (afv x qual (kR st) (jl st) (aL st) .none kV doc pm an aG ct) ⟨us,[]⟩=pure (ps.zip us)):Binds K fd ps []:=by
 obtain⟨oc,od,kV,doc,pm,an,aG,ct,jO,rfl,lk,fO⟩:=F.ex;exact .all (h kV doc pm an aG ct)
theorem Gh{x qual:Str}{st:afr}{f:ac6}{oc:acY}{od an:Option ac6}{jO:Array (Option acY)}{kV doc pm aG ct:acY}(l:K.lookup f=some ⟨oc,od,.func (afv x qual (kR st) (jl st) (aL st) .none kV doc pm an aG ct),jO⟩)
 (c:ag2 K aG qual=true) (k:afz K (.ref f)=true):kT K x qual st f (afv x qual (kR st) (jl st) (aL st) .none kV doc pm an aG ct):=⟨⟨oc,od,kV,doc,pm,an,aG,ct,jO,rfl,l,c⟩,k⟩
end
theorem fS{A:adQ}{k:Nat}(hr:bO k A):A.units+1<ajN:=aeg (Nat.add_le_add_left (by decide:1<=64) _) hr.units
section
variable{X:Cx}
theorem pv(i:Nat){x:Str}{pos:Pos}(hN:X.N[i]?=some x:=by rfl)(hv:se X.env.scope x:=by first|exact adv rfl|exact aiV (adv rfl)|exact aiV (aiV rfl))(hd:(x == ("__debug__" : Str))=false:=by decide)
 (fO:(x == ("__classdict__" : Str))=false:=by decide):PE X (.Name x pos) (vU i):=OH hN hv hd fO
end
noncomputable def ak(H H':Hp):Prop:=∀ b o,H b=some o->H' b=some o
theorem ak.refl(H:Hp):ak H H:=λ_ _ h=>h
theorem ak.trans{H H1 H2:Hp}(a:ak H H1)(b:ak H1 H2):ak H H2:=λc o h=>b c o (a c o h)
theorem ak.free{H H':Hp}(e:ak H H'){l:ac6}(h:H' l=Option.none):H l=Option.none:=by
 cases q:H l with
 | none=>rfl
 | some o =>
  rw[e l o q] at h;cases h
theorem ak.seq{K:acS}{H H':Hp}{a:ac6}{xs:List V}(e:ak H H')(h:ah K H a xs):ah K H' a xs:=by
 rcases h with (h|⟨o,h⟩)|h
 .exact .inl (.inl (e _ _ h))
 .exact .inl (.inr ⟨o,e _ _ h⟩)
 .exact .inr h
end L2
namespace Gz
open PySem PySem.Spec PyProof.Rows L2
noncomputable def Bd(n:Nat)(x:Int):Prop:=x.natAbs<2 ^ n
theorem Bd.up{n m:Nat}{x:Int}(h:Bd n x)(hm:n<=m):Bd m x:=adn h (ahp (by decide) hm)
theorem Bd.bits{n:Nat}{x:Int}(h:Bd n x):afP x<=n:=by
 unfold afP;by_cases e:x=0
 .subst e;simp
 .have e0:¬ ((x == 0)=true):=by simpa using e
  rw[if_neg e0];have hn:x.natAbs≠0:=by lia
  have:=(Nat.log2_lt hn).mpr h;lia
noncomputable def nW(i j:Int):Prop:=Bd 4000 i/\Bd 4000 j
theorem nW.ok{i j:Int}(h:nW i j):IntMulOk i j :=
 IntMulOk.of_bits (adb h.1.bits (by decide)) (adb h.2.bits (by decide))
section
variable{X:Cx}
theorem Qf:bp X (ags .Mult) (rI nW λi j=>.int (i * j)):=sx λ_ _ _ _ _ _ _ hc q=>mul_int q hc.ok
noncomputable def pW:V->acY
 | .ref a=>.ref a
 | .ty n=>.type n
 | _=>.none
theorem Qg:eU X (.builtin "isinstance") (λxs H Q=>∃ x c t b,xs=[x,c]/\cS X.K H x t/\pW c ≠ .none/\aeT X.K t (pW c)=some b/\Q (.bl b) H):=by
 intro pins s σ H xs us Q I r h;obtain⟨x,c,t,b,rfl,ty,hc,e,q⟩:=h;obtain⟨u,v,rfl,rx,rc⟩:=vals2 r;have ev:v=pW c:=by
  cases c with
  | ref a=>exact rc
  | ty n=>exact rc
  | non=>exact absurd rfl hc
  | bl _=>exact absurd rfl hc
  | int _=>exact absurd rfl hc
  | str _=>exact absurd rfl hc
  | byt _=>exact absurd rfl hc
  | flt _=>exact absurd rfl hc
 subst ev;exact Po I rx ty e λtk=>⟨.bl b,H,I.tok tk,rfl,q⟩
end
theorem sM{K:acS}{t:acY}:aeT K t t=some true:=by unfold aeT;rw[if_pos (by simp)]
theorem sN{K:acS}{a c:String}{b:Bool}(h:akN c=true)(h2:(PySem.fastBuiltinMro a).map (·.contains (.type c))=some b)(h3:(a == c)=false):aeT K (.type a) (.type c)=some b:=by
 unfold aeT;have e:¬ ((af6 a == af6 c)=true):=by simp only[beq_iff_eq,Value.type.injEq];simpa using h3
 rw[if_neg e];show (if akN c=true then PySem.W.subIn K (.type a) (.type c) else none)=some b;rw[if_pos h];exact h2
theorem Qh{K:acS}:aeT K (.type "int") (.type "bool")=some false:=sN (by decide +kernel) (by decide +kernel) (by decide)
theorem Qi{K:acS}:aeT K (.type "bool") (.type "int")=some true:=sN (by decide +kernel) (by decide +kernel) (by decide)
theorem Qj{K:acS}:aeT K (.type "NoneType") (.type "int")=some false:=sN (by decide +kernel) (by decide +kernel) (by decide)
theorem Ql{K:acS}:aeT K (.type "NoneType") (.type "tuple")=some false:=sN (by decide +kernel) (by decide +kernel) (by decide)
theorem dN:ad3 "len" = some (.builtin "len"):=by decide +kernel
theorem nX:ad3 "min" = some (.builtin "min"):=by decide +kernel
theorem Gi:ad3 "max" = some (.builtin "max"):=by decide +kernel
theorem nY:ad3 "isinstance" = some (.builtin "isinstance"):=by decide +kernel
theorem sO:ad3 "sorted" = some (.builtin "sorted"):=by decide +kernel
theorem Gj:ad3 "all" = some (.builtin "all"):=by decide +kernel
theorem Qm:ad3 "int" = some (.type "int"):=by decide +kernel
theorem Qn:ad3 "bool" = some (.type "bool"):=by decide +kernel
theorem kU:ad3 "list" = some (.type "list"):=by decide +kernel
theorem Qo:ad3 "tuple" = some (.type "tuple"):=by decide +kernel
theorem Gk:ad3 "enumerate" = some (.type "enumerate"):=by decide +kernel
theorem Gm:ad3 "zip" = some (.type "zip"):=by decide +kernel
theorem Qp:ad3 "reversed" = some (.type "reversed"):=by decide +kernel
noncomputable def wK:V->V->Option Bool
 | .int _,.ty n=>if n = "int" then some true else if n = "bool" then some false else none
 | .bl _,.ty n=>if n = "int" then some true else if n = "bool" then some true else none
 | .non,.ty n=>if n = "int" then some false else if n = "tuple" then some false else none
 | _,_=>none
noncomputable def iK(K:acS)(x c:V)(H:Hp)(Q:VK):Prop:=match wK x c with
 | some b=>Q (.bl b) H
 | none=>∃ t b,cS K H x t/\pW c ≠ .none/\aeT K t (pW c)=some b/\Q (.bl b) H
section
variable{X:Cx}
theorem nZ:eU X (.builtin "isinstance") (λxs H Q=>∃ x c,xs=[x,c]/\iK X.K x c H Q):=by
 intro pins s σ H xs us Q I r h;obtain⟨x,c,rfl,h⟩:=h;refine Qg pins s σ H _ us Q I r ?_;cases e:wK x c with
 | none =>
  unfold iK at h;rw[e] at h;obtain⟨t,b,h1,h2,h3,h4⟩:=h;exact⟨x,c,t,b,rfl,h1,h2,h3,h4⟩
 | some b =>
  unfold iK at h;rw[e] at h;unfold wK at e;split at e
  .rename_i i n;split at e
   .rename_i z;subst z;cases e;exact⟨_,_,_,_,rfl,cS.int i,(λz=>nomatch z),sM,h⟩
   .split at e
    .rename_i z;subst z;cases e;exact⟨_,_,_,_,rfl,cS.int i,(λz=>nomatch z),Qh,h⟩
    .cases e
  .rename_i i n;split at e
   .rename_i z;subst z;cases e;exact⟨_,_,_,_,rfl,cS.bl i,(λz=>nomatch z),Qi,h⟩
   .split at e
    .rename_i z;subst z;cases e;exact⟨_,_,_,_,rfl,cS.bl i,(λz=>nomatch z),sM,h⟩
    .cases e
  .rename_i n;split at e
   .rename_i z;subst z;cases e;exact⟨_,_,_,_,rfl,cS.non,(λz=>nomatch z),Qj,h⟩
   .split at e
    .rename_i z;subst z;cases e;exact⟨_,_,_,_,rfl,cS.non,(λz=>nomatch z),Ql,h⟩
    .cases e
  .cases e
variable{K:acS}{H:Hp}{Q:VK}{i:Int}{b:Bool}{p:ac6}{xs:List V}
theorem Qq:iK K (.int i) (.ty "int") H Q=Q (.bl true) H:=rfl
theorem Qr:iK K (.int i) (.ty "bool") H Q=Q (.bl false) H:=rfl
theorem Qs:iK K (.bl b) (.ty "int") H Q=Q (.bl true) H:=rfl
theorem Qt:iK K (.bl b) (.ty "bool") H Q=Q (.bl true) H:=rfl
theorem Qu:iK K .non (.ty "int") H Q=Q (.bl false) H:=rfl
theorem Qv:iK K .non (.ty "tuple") H Q=Q (.bl false) H:=rfl
theorem Qw(h:H p=some (.tup xs))(q:Q (.bl true) H):iK K (.ref p) (.ty "tuple") H Q:=⟨_,_,cS.tup h,(λz=>nomatch z),sM,q⟩
theorem wL(h:H p=some (.lst xs))(q:Q (.bl true) H):iK K (.ref p) (.ty "list") H Q:=⟨_,_,cS.lst h,(λz=>nomatch z),sM,q⟩
end
noncomputable def aK(P:ado)(w:adM):el:=λouter H s E e s' =>
 ∃ (x:ac6) (cls a0:acY) (H':Hp) (B:aeA),e = .ref x/\s'.os=s.os/\aiM s'.gens/\Un (aY outer) [] H H' s.heap s'.heap /\
  (∀ b o,s.heap.get? b=some o->H b=none->b∉aY outer->B.get? b=some o)/\(∀ b o,s.heap.get? b=some o->b∉aY outer->∃ o',B.get? b=some o')/\bQ P w H' B/\H' x=none/\s.heap.get? x=none /\
  Heap.FlyingW B outer x cls a0 s'.heap/\E cls none H'
theorem az{P:ado}{w:adM}{X:Cx}:Passes (aK P w) X E0:=λ_ _ _ _ _ _ _ ⟨_,_,_,_,_,_,_,_,_,_,_,_,_,_,_,h⟩=>h.elim
theorem Gn{P:ado}{w:adM}{outer:List Env}{H:Hp}{s s':acZ}{e:acY}(h:aK P w outer H s (λ_ _ _=>False) e s'):False:=by obtain⟨_,_,_,_,_,_,_,_,_,_,_,_,_,_,_,h⟩:=h;exact h
section
variable{P:ado}{w:adM}{K:acS}{mg:Str->Option acY}{base:aeA}
theorem okN{x qual:Str}{st:afr}{f:ac6}{fd:afu}{N ps:List Str}{k:Nat}{sp:Sp}(F:kT K x qual st f fd)(S:aP N ps (aL st))(len:∀ vs H Q E,sp vs H Q E->vs.length=ps.length)
 (kM:∀ (aG:acY) (A:adQ) (outer:List Env) (s:acZ) (H:Hp) (vs:List V) (Q:VK) (E:XK),bO k (A.deeper (afn qual (aL st) s.heap.objs.size f aG))->sp vs H Q E ->
   ∃ t,bw (gA (aK P w) P w K mg base N qual (aL st) f aG A outer s H E).sk (jl st) t/\t { nx:=λ_ H'=>Q .non H',rt:=Q } (start N vs) H):aJ P w K mg base (aK P w) (k+1) f fd ps sp:=by
 obtain⟨oc,od,kV,doc,pm,an,aG,ct,jO,rfl,lk,fO⟩:=F.ex;refine FE lk fO S len λA outer s H vs Q E hr kN=>?_;obtain⟨t,h,q⟩:=kM aG A outer s H vs Q E hr kN;exact⟨t,h.sk,q⟩
end
theorem Qx(a b:Int):jM (.int a) (.int b)=true:=rfl
theorem Qy(a b:Bool):jM (.bl a) (.bl b)=true:=rfl
theorem Qz(a:Int):jM (.int a) .non=true:=rfl
theorem QA(a:Int):jM .non (.int a)=true:=rfl
theorem QC:jM .non .non=true:=rfl
theorem ite_tt{A B:Prop}:(if true=true then A else B)=A:=if_pos rfl
theorem ite_ff{A B:Prop}:(if false=true then A else B)=B:=if_neg adu
theorem QD{CX:el}{P:ado}{w:adM}{K:acS}{mg:Str->Option acY}{base:aeA}{N:List Str}{qual:Str}{scope:ahg}{f:ac6}{cd:acY}{A:adQ}{outer:List Env}{s:acZ}{H:Hp}{E:XK} :
 (gA CX P w K mg base N qual scope f cd A outer s H E).K=K:=rfl
theorem QE{CX:el}{P:ado}{w:adM}{K:acS}{mg:Str->Option acY}{base:aeA}{N:List Str}{qual:Str}{scope:ahg}{f:ac6}{cd:acY}{A:adQ}{outer:List Env}{s:acZ}{H:Hp}{E:XK} :
 (gA CX P w K mg base N qual scope f cd A outer s H E).N=N:=rfl
section
variable{K:acS}{H H':Hp}{a p:ac6}{xs ys:List V}{i:Int}{v:V}{Q:VK}
theorem QF(e:ak H H')(h:ax K H a xs):ax K H' a xs:=by
 rcases h with (h|⟨o,h⟩)|h
 .exact .inl (.inl (e _ _ h))
 .exact .inl (.inr ⟨o,e _ _ h⟩)
 .exact .inr h
theorem aw{o:HO}(h:H p=none):ak H (upd H p o):=λb u e=>by rw[aB (iy e h)];exact e
theorem aO(h:ax K H p xs)(e:cO xs i=some v)(q:Q v H):nU K (.ref p) (.int i) H Q:=.inr (.inl ⟨p,xs,i,v,rfl,rfl,h,e,q⟩)
theorem aN(h:ah K H p xs)(e:cO xs i=some v)(q:Q v H):nU K (.ref p) (.int i) H Q:=.inl ⟨p,xs,i,v,rfl,rfl,h,e,q⟩
theorem dz(h:ah K H p xs):sA K (.ref p) H xs.length:=.inl ⟨xs,h,rfl⟩
theorem QG(h:ax K H p xs):sA K (.ref p) H xs.length:=.inr ⟨xs,h,rfl⟩
end
noncomputable def isWhole:V->Bool
 | .int _=>true
 | _=>false
noncomputable def FJ(J:It)(g:TG)(tb:TS)(D:Ends)(σ:L2.St)(H:Hp):Prop:=∃ W:Nat->Nat->L2.St->Hp->Prop,(∃ m,W 0 m σ H)/\∀ i m σ H,W i m σ H ->
 (J.stop i H/\D.nx σ H)∨(J.go i H/\∃ N:L2.St->Hp->Prop,(∀ σ' H',N σ' H'->∃ m',m'<m/\W (i+1) m' σ' H')/\∀ x H',J.yld i H x H'->g x σ H' λσ2 H2=>tb { D with nx:=N,ct:=N,bk:=D.nx } σ2 H2)
section
variable{K:acS}{g:TG}{tb:TS}{D:Ends}{σ:L2.St}{H:Hp}{a:ac6}{xs:List V}{lo:Int}{n:Nat}
theorem QH{ta:TA}:jf (v3 ta) g tb D σ H=ta σ H (λvs H1=>∃ j:Int,vs=[.int j]/\-(2 ^ 62)<=j/\j<2 ^ 62/\FJ (iC 0 j.toNat) g tb D σ H1):=rfl
theorem QJ{tl:TE}:jf (su K tl) g tb D σ H=tl σ H (λx H1=>∃ a,x = .ref a/\(∃ xs,ah K H1 a xs)/\FJ (iB K a) g tb D σ H1):=rfl
theorem QK{tl:TE}:jf (vY K tl) g tb D σ H=tl σ H (λx H1=>∃ a,x = .ref a/\(∃ xs,ax K H1 a xs)/\FJ (pR K a) g tb D σ H1):=rfl
theorem mF(Pv:Nat->L2.St->Hp->Prop)(h0:Pv 0 σ H)
 (hs:∀ i σ H,i<n->Pv i σ H->g (.int (lo+i)) σ H λσ2 H2=>tb { D with nx:=Pv (i+1),ct:=Pv (i+1),bk:=D.nx } σ2 H2) (hd:∀ σ H,Pv n σ H->D.nx σ H):FJ (iC lo n) g tb D σ H:=OW Pv h0 hs hd
theorem jm(Pv:Nat->L2.St->Hp->Prop)(h0:Pv 0 σ H)(hl:∀ i σ H,i<=xs.length->Pv i σ H->ah K H a xs)
 (hs:∀ i x σ H,xs[i]?=some x->Pv i σ H->g x σ H λσ2 H2=>tb { D with nx:=Pv (i+1),ct:=Pv (i+1),bk:=D.nx } σ2 H2) (hd:∀ σ H,Pv xs.length σ H->D.nx σ H):FJ (iB K a) g tb D σ H:=OV Pv h0 hl hs hd
end
theorem bJ:(2:Nat)<=adz:=by decide
theorem Gq{x:Int}(h:x.natAbs<2 ^ 200):Bd 4000 x:=Bd.up (n:=200) h (by decide)
theorem Gr{x y:Int}(h:x.natAbs<2 ^ 200)(h':y.natAbs<2 ^ 200):nW x y:=⟨Gq h,Gq h'⟩
section
variable{X:Cx}
theorem QL:bp X (aeO .IsNot) (λx y H Q=>∃ a b,x = .bl a/\y = .bl b/\Q (.bl (a != b)) H):=by intro pins s σ H x y v u Q I rx ry h;obtain⟨a,b,rfl,rfl,q⟩:=h;cases rx;cases ry;exact isnot_bool ⟨.bl _,H,I,rfl,q⟩
variable{K:acS}{H H1:Hp}{l p:ac6}{xs ys:List V}{o:HO}
theorem iL(hl:H l=none)(s:ak H H1):ak H (upd H1 l o):=λb u e=>by rw[aB (iy e hl)];exact s b u e
end
open PySem.W PySem.Calls Builtin Builtin.ObjectAttr Builtin.Getset_descriptor
section
variable{prog:ado}{w:adM}{A:adQ}{E:acY->acZ->Prop}{s:acZ}{K:Frag}{x C:ac6}{oe:Obj}{R:ahG->acZ->Prop}
end
structure XC(K:Frag)(C:ac6):Prop where
 ex:excIn K C [.type "ValueError",.type "Exception",.type "BaseException",.type "object"] "ValueError.__new__" = true
 mo:mroIn K C (.type "object")=some true
 mb:mroIn K C (.type "BaseException")=some true
 ga:findIn K (.ref C) "__getattribute__" = some (some (.builtin "BaseException.__getattribute__"))
 gr:findIn K (.ref C) "__getattr__" = some none
 gc:findIn K (.ref C) "__class__" = some (some (.builtin "object.__class__"))
theorem QM{K:Frag}{h:aeA}{C:ac6}(X:K.In h)(c:XC K C) :
 ∃ bm N nm q bs hdct sn sub ab col dd k0 k1 k2 k3 k5 mN,h.get? C=some (excClassObj nm q C N bs bm hdct sn sub ab col dd k0 k1 k2 k3 k5 "ValueError.__new__")/\h.Ns N mN/\mN "__init__" = none /\
  OwnTail h [.type "ValueError",.type "Exception",.type "BaseException",.type "object"] bm:=by
 have q:=c.ex;unfold excIn at q;split at q
 .rename_i dd cd sl ho;split at q
  .rename_i C' bm k0 k1 k2 k3 n k5 hm hs;simp only[aeH,beq_iff_eq,aj5] at q;obtain⟨⟨⟨⟨⟨rfl,rfl⟩,hdel⟩,ht⟩,aj⟩,hni⟩:=q;obtain⟨nm,bs,mro,ns,qn,hd,sn,sub,ab,col,del⟩:=cd;dsimp only at hm hdel aj hni;subst hm hdel;have jn:sl = #[k0,k1,k2,k3,some (.builtin "ValueError.__new__"),k5]:=by obtain⟨l⟩:=sl;simp only at hs;rw[hs]
   subst jn;exact⟨bm,ns,nm,qn,bs,hd,sn,sub,ab,col,dd,k0,k1,k2,k3,k5,_,X _ _ ho,.of_isNs (isNs_of_in X aj),nsMap_none_of_in X aj hni,tail_of_in X ht⟩
  .cases q
 .cases q
section
variable{X:Cx}
end
theorem bG.some{P:ado}{w:adM}{H:Hp}{h:aeA}{a:ac6}{o:HO}(x:bG P w H h a o):∃ ob,h.get? a=some ob:=by
 cases o with
 | lst xs=>obtain⟨_,_,_,_,e⟩:=x;exact⟨_,e⟩
 | tup xs=>obtain⟨_,_,_,o,e,_⟩:=x;exact⟨_,e⟩
 | dK kvs=>obtain⟨_,_,_,_,o,_,_,e,_⟩:=x;exact⟨_,e⟩
 | dT kvs=>obtain⟨_,_,_,_,o,_,_,e,_⟩:=x;exact⟨_,e⟩
 | set S n=>obtain⟨o,_,_,_,e,_⟩:=x;exact⟨_,e⟩
 | ins C dx fs=>obtain⟨_,_,_,e,_⟩:=x;exact⟨_,e⟩
 | own y=>exact x
 | xd fs=>obtain⟨_,⟨_,_,_,e,_⟩,_⟩:=x;exact⟨_,e⟩
 | ix lo hi=>obtain⟨_,_,_,e⟩:=x;exact⟨_,e⟩
 | aX ob u=>obtain⟨e,_⟩:=x;exact⟨_,e⟩
 | tbl ps=>exact⟨_,x⟩
 | met f y=>exact⟨_,x⟩
 | ext φ=>exact x.2.1
noncomputable def Gs(X:Cx)(E:XK):Prop:=∀ (pins:List (ac6 × Obj)) (σ:L2.St) (H:Hp) (s:acZ) (e C:ac6) (vs:List acY) (h':aeA),Inv X pins σ H s->Heap.MadeExcOf s.heap h' e (.ref C) vs->E (.ref C) none H->X.xe (.ref e) { s with heap:=h' }
noncomputable def Gu(C:ac6)(E:XK)(ta:TA):TS:=λD σ H=>ta σ H λvs H1=>vs.length<=adz/\E (.ref C) none H1
section
variable{X:Cx}
theorem mG{x:Str}{np cy pos:Pos}{e₀:aeY}{rest:List aeY}{ta:TA}{C:ac6}{E:XK}(hx:Gs X E)(hg:Gl X x)(hm:X.mg x=some (.ref C))(xc:XC X.K C)(hc:X.calm=true)(ha:PA X (e₀::rest) ta)
 (hd:(x == ("__debug__" : Str))=false:=by decide) (he:adC (e₀::rest) X.env=(false,eval e₀ X.env)::adC rest X.env:=by rfl)
 (dM:(afE cy (adC rest X.env)).any (·.1)=false:=by rfl) :
 PS X (.Raise (some (.Call (.Name x np) (e₀::rest) [] cy)) none pos) (Gu C E ta):=by
 intro pins s σ H D I h;obtain⟨tl,N,nm,q,bs,hdct,sn,sub,ab,col,dd,k0,k1,k2,k3,k5,mN,hC,hN,hni,T⟩:=QM I.ok.mod.kin xc;refine wpAny_Raise_call_subU (C:=C) (nm:=nm) (q:=q) (N:=N) (bs:=bs) (bm:=tl) (hdct:=hdct) (sn:=sn) (sub:=sub) (ab:=ab) (col:=col) (dd:=dd) (k0:=k0) (k1:=k1) (k2:=k2) (k3:=k3) (k5:=k5)
  ahE (by decide +kernel) ahE (mN:=mN) (T.hasType PySem.F.excBase_ValueError.hasBase) (I.ok.hd hc) (by rw[he];show (false || (afE cy (adC rest X.env)).any (·.1))=false;rw[dM];rfl) hni (pO I hg hm ⟨rfl,?_⟩ hd)
 have pX:=ha cy pins s σ H _ I h;rw[he] at pX ⊢;refine ajm (adJ pX (λus s₂ h₂=>?_) λ_ _ y=>y);obtain⟨vs,H1,I1,r,hl,hE⟩:=h₂;exact⟨rfl,by rw[<- r.length];exact hl,I1.bk _ _ hC,hN.keeps I1.bk,T.keeps I1.bk,λh' e hm=>hx pins σ H1 s₂ e C us h' I1 hm hE⟩
variable{P:ado}{w:adM}{K:acS}{mg:Str->Option acY}{base:aeA}{N:List Str}{qual:Str}{scope:ahg}{f:ac6}{cd:acY}{A:adQ}{outer:List Env}{s:acZ}{H:Hp}{E:XK}
theorem Gv{env:Env}{b L:ac6}(hf:env.frame=some L)(h:b∈aY (env::outer)):b=L∨b∈aY outer:=by unfold aY at h;rw[aeB,hf] at h;exact ac9.mp h
theorem mH:Gs (gA (aK P w) P w K mg base N qual scope f cd A outer s H E) E:=by
 intro pins σ H1 s1 e C vs h1 I hx hE;have wM:(gA (aK P w) P w K mg base N qual scope f cd A outer s H E).A.frames=some (afn qual scope s.heap.objs.size f cd::outer):=I.ok.frames;have hF:s1.heap.FunFrames base (afn qual scope s.heap.objs.size f cd::outer):=I.stack;have cG:∀ env∈(afn qual scope s.heap.objs.size f cd::outer),∀ b,env.frame=some b->b∈aY (afn qual scope s.heap.objs.size f cd::outer):=λenv he b hb=>aft.mpr ⟨env,he,hb⟩;have QN:∀ b∈aY (afn qual scope s.heap.objs.size f cd::outer),H1 b=none:=I.nJ;have nK:∀ b o,s.heap.get? b=some o->b≠s.heap.objs.size:=λb o e=>adp (ac0 e);have jJ:∀ b o,s.heap.get? b=some o->b∉aY outer->b∉aY (afn qual scope s.heap.objs.size f cd::outer):=λb o e hb z=>by
  rcases Gv rfl z with z|z
  .exact nK b o e z
  .exact hb z
 have ub:Un (aY outer) [] H H1 s.heap s1.heap:=I.base;refine wpAny_leaves_madeW (base:=aiL s1.heap (aY (afn qual scope s.heap.objs.size f cd::outer))) wM rfl (λb o q=>ajG _ q) (PySem.W.funFrames_hide hF cG) hx λh' t fl tup bt up=>?_;have stays:=fl.1;have n4:∀ b o,s1.heap.get? b=some o->b∉aY (afn qual scope s.heap.objs.size f cd::outer)->(aiL s1.heap (aY (afn qual scope s.heap.objs.size f cd::outer))).get? b=some o:=λb o q hb=>ajz _ q hb;have pY:∀ b∈aY (afn qual scope s.heap.objs.size f cd::outer),∀ o,s1.heap.get? b=some o->∃ sl,h'.get? b=some { o with slots:=sl }:=λb hb o q=>by obtain⟨_,o',cR,hnf⟩:=hF.mem hb;rw[q] at cR;cases cR;exact up b o (hx.keeps b o q) hnf
 refine⟨e,.ref C,.ref t,H1,_,rfl,I.os,I.bare,⟨λb o q n hb dA=>?_,λb o q n hb dA=>?_,ub.free,λb o q dA=>?_,ub.dv,ub.dI,ub.eO⟩,λb o q n hb=>?_,λb o q hb=>?_,λa o q=>?_,?_,?_,fl,hE⟩
 .exact stays b o (n4 b o (ub.keep b o q n hb dA) (jJ b o q hb))
 .obtain⟨sl,e1⟩:=ub.slot b o q n hb dA;obtain⟨fu,e2⟩:=pY b (by unfold aY;rw[aeB];exact adL _ hb) _ e1;exact⟨fu,e2⟩
 .obtain⟨o',e1⟩:=ub.there b o q dA;by_cases hb:b∈aY (afn qual scope s.heap.objs.size f cd::outer)
  .obtain⟨sl,e2⟩:=pY b hb o' e1;exact⟨_,e2⟩
  .exact⟨o',stays b o' (n4 b o' e1 hb)⟩
 .exact n4 b o (ub.keep b o q n hb (by simp)) (jJ b o q hb)
 .obtain⟨o',e1⟩:=ub.there b o q (by simp);exact⟨o',n4 b o' e1 (jJ b o q hb)⟩
 .refine (I.aj a o q).fq (λb u hb z=>n4 b u z λhm=>?_) (λ_ z=>z) λ_ _ z=>z;have:=QN b hm;rcases hb with hb|hb
  .rw[hb,q] at this;cases this
  .rw[hb] at this;cases this
 .cases q:H1 e with
  | none=>rfl
  | some u =>
   obtain⟨ob,z⟩:=bG.some (I.aj e u q);rw[hx.new] at z;cases z
 .cases q:s.heap.get? e with
  | none=>rfl
  | some u =>
   obtain⟨o',z⟩:=ub.there e u q (by simp);rw[hx.new] at z;cases z
theorem pZ:Passes (aK P w) (gA (aK P w) P w K mg base N qual scope f cd A outer s H E) E:=by
 intro pins σ H1 s1 ev s2 I cx;obtain⟨x,cls,a0,H',B,rfl,os,bare,un,kb,tb,aj,hx,hn,fl,hE⟩:=cx;have wM:(gA (aK P w) P w K mg base N qual scope f cd A outer s H E).A.frames=some (afn qual scope s.heap.objs.size f cd::outer):=I.ok.frames;have hF:s1.heap.FunFrames base (afn qual scope s.heap.objs.size f cd::outer):=I.stack;have nK:∀ b o,s.heap.get? b=some o->b≠s.heap.objs.size:=λb o e=>adp (ac0 e);have jJ:∀ b o,s.heap.get? b=some o->b∉aY outer->b∉aY (afn qual scope s.heap.objs.size f cd::outer):=λb o e hb z=>by
  rcases Gv rfl z with z|z
  .exact nK b o e z
  .exact hb z
 have QO:∀ b,b∈aY outer->b∈aY (afn qual scope s.heap.objs.size f cd::outer):=λb hb=>by unfold aY;rw[aeB];exact adL _ hb
 have ub:Un (aY outer) [] H H1 s.heap s1.heap:=I.base;have Gw:Un (aY (afn qual scope s.heap.objs.size f cd::outer)) [] H1 H' s1.heap s2.heap:=un;have Gx:∀ b o,s1.heap.get? b=some o->H1 b=none->b∉aY (afn qual scope s.heap.objs.size f cd::outer)->B.get? b=some o:=kb;have jR:∀ b o,s1.heap.get? b=some o->b∉aY (afn qual scope s.heap.objs.size f cd::outer)->∃ o',B.get? b=some o':=tb;have QP:∀ b∈aY (afn qual scope s.heap.objs.size f cd::outer),H1 b=none:=I.nJ;refine wpAny_leaves_onW wM rfl fl λh' Gy up=>?_;have stays:=Gy.1;have pY:∀ b∈aY (afn qual scope s.heap.objs.size f cd::outer),∀ o,s1.heap.get? b=some o->∃ sl,h'.get? b=some { o with slots:=sl }:=λb hb o q=>by obtain⟨_,o',cR,hnf⟩:=hF.mem hb;rw[q] at cR;cases cR;obtain⟨sl,e1⟩:=Gw.slot b o q (QP b hb) hb (by simp);obtain⟨fu,e2⟩:=up b _ e1 hnf;exact⟨fu,e2⟩
 refine⟨x,cls,a0,H',B,rfl,os.trans I.os,bare,⟨λb o q n hb dA=>?_,λb o q n hb dA=>?_,λb o q n dA=>?_,λb o q dA=>?_,λb xs q=>un.dv _ _ (ub.dv _ _ q),λb o u q=>un.dI _ _ _ (ub.dI _ _ _ q),λb ps q=>?_⟩,λb o q n hb=>?_,λb o q hb=>?_,aj,hx,?_,Gy,hE⟩
 .exact stays b o (Gx b o (ub.keep b o q n hb dA) (ub.free b o q n dA) (jJ b o q hb))
 .obtain⟨sl,e1⟩:=ub.slot b o q n hb dA;obtain⟨fu,e2⟩:=pY b (QO b hb) _ e1;exact⟨fu,e2⟩
 .obtain⟨o',e1⟩:=ub.there b o q dA;exact Gw.free b o' e1 (ub.free b o q n dA) (by simp)
 .obtain⟨o',e1⟩:=ub.there b o q dA;by_cases hb:b∈aY (afn qual scope s.heap.objs.size f cd::outer)
  .obtain⟨sl,e2⟩:=pY b hb o' e1;exact⟨_,e2⟩
  .obtain⟨o2,e2⟩:=jR b o' e1 hb;exact⟨o2,stays b o2 e2⟩
 .obtain⟨m1,e1⟩:=ub.eO b ps q;obtain⟨m2,e2⟩:=un.eO b _ e1;exact⟨m1++m2,by rw[e2,ajI]⟩
 .exact Gx b o (ub.keep b o q n hb (by simp)) (ub.free b o q n (by simp)) (jJ b o q hb)
 .obtain⟨o',e1⟩:=ub.there b o q (by simp);exact jR b o' e1 (jJ b o q hb)
 .cases q:s.heap.get? x with
  | none=>rfl
  | some u =>
   obtain⟨o',z⟩:=ub.there x u q (by simp);rw[hn] at z;cases z
theorem jS{x qual:Str}{st:afr}{f:ac6}{fd:afu}{N ps:List Str}{k:Nat}{sp:Sp}(F:kT K x qual st f fd)(S:aP N ps (aL st))(len:∀ vs H Q E,sp vs H Q E->vs.length=ps.length)
 (kM:∀ (aG:acY) (A:adQ) (outer:List Env) (s:acZ) (H:Hp) (vs:List V) (Q:VK) (E:XK),bO k (A.deeper (afn qual (aL st) s.heap.objs.size f aG))->sp vs H Q E ->
   ∃ t,bw (gA (aK P w) P w K mg base N qual (aL st) f aG A outer s H E) (jl st) t/\t { nx:=λ_ H'=>Q .non H',rt:=Q } (start N vs) H):aJ P w K mg base (aK P w) (k+1) f fd ps sp:=by
 obtain⟨oc,od,kV,doc,pm,an,aG,ct,jO,rfl,lk,fO⟩:=F.ex;refine FE lk fO S len λA outer s H vs Q E hr kN=>?_;exact kM aG A outer s H vs Q E hr kN
variable{X:Cx}{F:acY->acZ->Prop}{pins pn:List (ac6 × Obj)}{σ:L2.St}{H:Hp}{s:acZ}{A':adQ}
end
noncomputable def GA(a b:Int):Int:=((Nat.gcd a.natAbs b.natAbs:Nat):Int)
noncomputable def sg(t b:Int):Int:=if b<0 then -GA t b else GA t b
noncomputable def rt(t b:Int):Int:=t.fdiv (sg t b)
noncomputable def rb(t b:Int):Int:=b.fdiv (sg t b)
noncomputable def dh{α:Type}(lt:Nat->Nat->Bool)(n:Nat):KasT α->(α->Prop)->Prop
 | .ret a,P=>P a
 | .ask i j k,P=>i<n/\j<n/\dh lt n (k (lt i j)) P
section
variable{lt:Nat->Nat->Bool}{n:Nat}
theorem n5{α β:Type}{f:α->KasT β}{P:β->Prop}:∀ (t:KasT α),dh lt n t (λa=>dh lt n (f a) P)->dh lt n (t.bind f) P
 | .ret _,h=>h
 | .ask _ _ k,h=>⟨h.1,h.2.1,n5 (k _) h.2.2⟩
theorem GB{α:Type}{P P':α->Prop}(h:∀ a,P a->P' a):∀ (t:KasT α),dh lt n t P->dh lt n t P'
 | .ret _,q=>h _ q
 | .ask _ _ k,q=>⟨q.1,q.2.1,GB h (k _) q.2.2⟩
theorem sP{α:Type}{cmp:Nat->Nat->(Bool->acZ->Prop)->acZ->Prop}{Ok:acZ->Prop}(hc:∀ i j C s,i<n->j<n->Ok s->(∀ s',Ok s'->C (lt i j) s')->cmp i j C s){P:α->Prop}{Q:α->acZ->Prop}(hQ:∀ a s,Ok s->P a->Q a s) :
 ∀ (t:KasT α) (s:acZ),Ok s->dh lt n t P->t.kasWp cmp Q s
 | .ret a,s,o,h=>hQ a s o h
 | .ask i j k,s,o,h=>hc i j _ s h.1 h.2.1 o λs' o'=>sP hc hQ (k (lt i j)) s' o' h.2.2
structure Ord(lt:Nat->Nat->Bool):Prop where
 asym:∀ {a b},lt a b=true->lt b a=false
 tr:∀ {a b c},lt b a=false->lt c b=false->lt c a=false
theorem Ord.rfl'(O:Ord lt)(a:Nat):lt a a=false:=by
 cases h:lt a a with
 | false=>rfl
 | true=>rw[O.asym h] at h;cases h
noncomputable def di(lt:Nat->Nat->Bool)(p:Array Nat)(k:Nat):Prop:=∀ i j,i<=j->j<k->lt (p.getD j 0) (p.getD i 0)=false
noncomputable def eW(lt:Nat->Nat->Bool)(p:Array Nat)(k:Nat):Prop:=∀ i j,i<=j->j<k->lt (p.getD i 0) (p.getD j 0)=false
noncomputable def b6(n:Nat)(p:Array Nat):Prop:=p.toList.Perm (adx n)
theorem b6.size{p:Array Nat}(h:b6 n p):p.size=n:=by have:=h.length_eq;simpa using this
theorem b6.below{p:Array Nat}(h:b6 n p){i:Nat}(hi:i<n):p.getD i 0<n:=by
 have hs:=h.size;have bP:i<p.size:=by lia
 have e:p.getD i 0=p[i]:=by simp[ah5,bP]
 rw[e];have m:p[i]∈p.toList:=by simp
 simpa using h.mem_iff.mp m
theorem b6.of{p q:Array Nat}(h:b6 n p)(hq:q.Perm p):b6 n q:=(Array.perm_iff_toList_perm.mp hq).trans h
theorem di.one(O:Ord lt){p:Array Nat}:di lt p 1:=λi j gT hj=>by
 have:i=j:=by lia
 subst this;exact O.rfl' _
theorem eW.one(O:Ord lt){p:Array Nat}:eW lt p 1:=λi j gT hj=>by
 have:i=j:=by lia
 subst this;exact O.rfl' _
theorem di.succ(O:Ord lt){p:Array Nat}{k:Nat}(h:di lt p k)(hk:1<=k)(hn:lt (p.getD k 0) (p.getD (k-1) 0)=false):di lt p (k+1):=λi j gT hj=>by
 by_cases e:j=k
 .subst e;by_cases ei:i=j
  .subst ei;exact O.rfl' _
  .exact O.tr (h i (j-1) (by lia) (by lia)) hn
 .exact h i j gT (by lia)
theorem eW.succ(O:Ord lt){p:Array Nat}{k:Nat}(h:eW lt p k)(hk:1<=k)(hn:lt (p.getD (k-1) 0) (p.getD k 0)=false):eW lt p (k+1):=λi j gT hj=>by
 by_cases e:j=k
 .subst e;by_cases ei:i=j
  .subst ei;exact O.rfl' _
  .exact O.tr hn (h i (j-1) (by lia) (by lia))
 .exact h i j gT (by lia)
theorem kW{p:Array Nat}{i j:Nat}(hj:j<=p.size)(k:Nat):(kas_rev p i j).getD k 0=if i<=k/\k<j then p.getD (i+j-1-k) 0 else p.getD k 0:=by simp only[ahs];unfold kas_rev;rw[getElem?_mirror_all hj];split<;>rfl
theorem GC{p:Array Nat}{k l:Nat}(hk:k<p.size)(hl:l<=k)(i:Nat):(bubble p k (k-l)).getD i 0=if i=l then p.getD k 0 else if l<i/\i<=k then p.getD (i-1) 0 else p.getD i 0:=by
 simp only[ahs];rw[getElem?_bubble hk _ (by lia)];have e:k-(k-l)=l:=by lia
 rw[e];split
 .rfl
 .split<;>rfl
theorem GD(O:Ord lt){p:Array Nat}(hp:b6 n p){P:Nat->Prop}:∀ (f a:Nat),1<=a->a+f<=n->di lt p a->(∀ m,a<=m->m<=a+f->di lt p m->P m)->dh lt n (kas_asc p f a) P
 | 0,a,h1,h2,hs,q=>q a (ac8 _) (by lia) hs
 | f+1,a,h1,h2,hs,q=>by
  refine⟨hp.below (by lia),hp.below (by lia),?_⟩;cases c:lt (p.getD a 0) (p.getD (a-1) 0) with
  | true =>
   simp only[↓reduceIte];exact q a (ac8 _) (by lia) hs
  | false =>
   simp only[adk,↓reduceIte];exact GD O hp f (a+1) (by lia) (by lia) (hs.succ O h1 c) λm m1 m2=>q m (by lia) (by lia)
theorem eW.rev{p:Array Nat}{k i:Nat}(h:eW lt p k)(hk:k<=p.size)(hi:i<=k)(he:∀ j,i<=j->j<k->lt (p.getD (k-1) 0) (p.getD j 0)=false)(O:Ord lt):eW lt (kas_rev p i k) k:=λa b eX hb=>by
 rw[kW hk,kW hk];have eqv:∀ x y,i<=x->x<k->i<=y->y<k->lt (p.getD x 0) (p.getD y 0)=false:=λx y x1 x2 y1 y2=>O.tr (he y y1 y2) (h x (k-1) (by lia) (by lia));split
 .split
  .exact eqv _ _ (by lia) (by lia) (by lia) (by lia)
  .exfalso;lia
 .split
  .exact h _ _ (by lia) (by lia)
  .exact h _ _ eX hb
theorem sQ(O:Ord lt){P:Array Nat × Nat × Nat->Prop}:∀ (f:Nat) (p:Array Nat) (k q:Nat),b6 n p->1<=k->k+f<=n->q+1<=k->eW lt p k->(∀ j,k-(q+1)<=j->j<k->lt (p.getD (k-1) 0) (p.getD j 0)=false) ->
 (∀ p' k' q',b6 n p'->k<=k'->k'<=k+f->q' + 1<=k'->eW lt p' k'->(∀ j,k' - (q' + 1)<=j->j<k'->lt (p'.getD (k' - 1) 0) (p'.getD j 0)=false)->P (p',k',q'))->dh lt n (kas_desc f p k q) P
 | 0,p,k,q,hp,h1,h2,h3,hd,he,fin=>fin p k q hp (ac8 _) (by lia) h3 hd he
 | f+1,p,k,q,hp,h1,h2,h3,hd,he,fin=>by
  have hs:=hp.size;have one:∀ (p':Array Nat),∀ j,(k+1)-(0+1)<=j->j<k+1->lt (p'.getD (k+1-1) 0) (p'.getD j 0)=false:=λp' j j1 j2=>by
   have:j=k:=by lia
   subst this;exact O.rfl' _
  refine⟨hp.below (by lia),hp.below (by lia),?_⟩;cases c:lt (p.getD k 0) (p.getD (k-1) 0) with
  | true =>
   simp only[↓reduceIte];have c':=O.asym c;by_cases hq:q > 0
   .rw[if_pos hq];have bV:b6 n (kas_rev p (k-(q+1)) k):=hp.of (ajB _ _ _ _);have iz:eW lt (kas_rev p (k-(q+1)) k) k:=hd.rev (by lia) (by lia) he O;refine sQ O f _ (k+1) 0 bV (by lia) (by lia) (by lia) (iz.succ O h1 ?_) (one _) λp2 k2 q2 a1 a2 a3 a4 a5 a6=>fin p2 k2 q2 a1 (by lia) (by lia) a4 a5 a6;rw[kW (by lia),kW (by lia),if_pos (by lia),if_neg (by lia)];have e1:k-(q+1)+k-1-(k-1)=k-(q+1):=by lia
    rw[e1];exact O.tr c' (hd _ (k-1) (by lia) (by lia))
   .rw[if_neg hq];exact sQ O f p (k+1) 0 hp (by lia) (by lia) (by lia) (hd.succ O h1 c') (one _) λp2 k2 q2 a1 a2 a3 a4 a5 a6=>fin p2 k2 q2 a1 (by lia) (by lia) a4 a5 a6
  | false =>
   simp only[adk,↓reduceIte];refine⟨hp.below (by lia),hp.below (by lia),?_⟩;cases d:lt (p.getD (k-1) 0) (p.getD k 0) with
   | true =>
    simp only[↓reduceIte];exact fin p k q hp (ac8 _) (by lia) h3 hd he
   | false =>
    simp only[adk,↓reduceIte];refine sQ O f p (k+1) (q+1) hp (by lia) (by lia) (by lia) (hd.succ O h1 d) (λj j1 j2=>?_) λp2 k2 q2 a1 a2 a3 a4 a5 a6=>fin p2 k2 q2 a1 (by lia) (by lia) a4 a5 a6;have ek:k+1-1=k:=by lia
    rw[ek];by_cases ej:j=k
    .subst ej;exact O.rfl' _
    .exact O.tr (he j (by lia) (by lia)) c
theorem eW.whole{p:Array Nat}{k:Nat}(h:eW lt p k)(hk:k<=p.size):di lt (kas_rev p 0 k) k:=λa b eX hb=>by rw[kW hk,kW hk,if_pos (by lia),if_pos (by lia)];exact h _ _ (by lia) (by lia)
theorem GF(O:Ord lt){P:Nat × Array Nat->Prop}{p:Array Nat}{k:Nat}(hp:b6 n p)(h1:1<=k)(h2:k<=n)(hd:eW lt p k)(fin:∀ m p',b6 n p'->1<=m->m<=n->di lt p' m->P (m,p')):dh lt n (kas_tail3 k n p) P:=by have bV:b6 n (kas_rev p 0 k):=hp.of (ajB _ _ _ _);have hs:=hp.size;unfold kas_tail3;refine n5 _ (GD O bV (n-k) k h1 (by lia) (hd.whole (by lia)) λm m1 m2 ms=>?_);exact fin m _ bV (by lia) (by lia) ms
theorem GG(O:Ord lt){P:Nat × Array Nat->Prop}{p:Array Nat}{k:Nat}(hp:b6 n p)(h1:1<=k)(h2:k+1<=n)(hd:eW lt p (k+1))(fin:∀ m p',b6 n p'->1<=m->m<=n->di lt p' m->P (m,p')):dh lt n (kas_descPart k n p) P:=by
 unfold kas_descPart;refine n5 _ (sQ O (n-(k+1)) p (k+1) 0 hp (by lia) (by lia) (by lia) hd (λj j1 j2=>?_) λp2 k2 q2 a1 a2 a3 a4 a5 a6=>?_)
 .have:j=k:=by lia
  subst this;exact O.rfl' _
 .have hs:=a1.size;dsimp only;by_cases hq:q2 > 0
  .rw[if_pos hq];exact GF O (a1.of (ajB _ _ _ _)) (by lia) (by lia) (a5.rev (by lia) (by lia) a6 O) fin
  .rw[if_neg hq];exact GF O a1 (by lia) (by lia) a5 fin
theorem QQ(O:Ord lt){P:Nat × Array Nat->Prop}{p:Array Nat}(hp:b6 n p)(hn:1<=n)(fin:∀ m p',b6 n p'->1<=m->m<=n->di lt p' m->P (m,p')):dh lt n (kas_count n p) P:=by
 have hs:=hp.size;unfold kas_count;have key:dh lt n (kas_asc p (n-1) 1) (λm=>1<=m/\m<=n/\di lt p m/\(m<n->lt (p.getD m 0) (p.getD (m-1) 0)=true)):=by
  have gen:∀ (f a:Nat),1<=a->a+f=n->di lt p a->dh lt n (kas_asc p f a) (λm=>1<=m/\m<=n/\di lt p m/\(m<n->lt (p.getD m 0) (p.getD (m-1) 0)=true)):=by
   intro f
   induction f with
   | zero=>intro a h1 h2 hs;exact⟨h1,by lia,hs,λz=>absurd z (by lia)⟩
   | succ f ih =>
    intro a h1 h2 hs;refine⟨hp.below (by lia),hp.below (by lia),?_⟩;cases c:lt (p.getD a 0) (p.getD (a-1) 0) with
    | true =>
     simp only[↓reduceIte];exact⟨h1,by lia,hs,λ_=>c⟩
    | false =>
     simp only[adk,↓reduceIte];exact ih (a+1) (by lia) (by lia) (hs.succ O h1 c)
  exact gen (n-1) 1 (ac8 _) (by lia) (di.one O)
 refine n5 _ (GB (λm hm=>?_) _ key);obtain⟨m1,m2,ms,mc⟩:=hm;by_cases e:(m == n)=true
 .rw[if_pos e];exact fin m p hp m1 m2 ms
 .rw[if_neg e];have QS:m<n:=by
   have:m≠n:=by simpa using e
   lia
  have mc:=mc QS;by_cases h2:m > 1
  .rw[if_pos h2];refine⟨hp.below (by lia),hp.below (by lia),?_⟩;cases c:lt (p.getD 0 0) (p.getD (m-1) 0) with
   | true =>
    simp only[↓reduceIte];exact fin m p hp m1 m2 ms
   | false =>
    simp only[adk,↓reduceIte];have eqv:∀ x y,x<m->y<m->lt (p.getD x 0) (p.getD y 0)=false:=λx y hx hy =>
     O.tr (ms y (m-1) (by lia) (by lia)) (O.tr c (ms 0 x (by lia) hx))
    have bV:b6 n (kas_rev p 0 m):=hp.of (ajB _ _ _ _);refine GG O bV m1 (by lia) (λi j gT hj=>?_) fin;rw[kW (by lia),kW (by lia)];by_cases ej:j=m
    .subst ej;rw[if_neg (show ¬ (0<=j/\j<j) by lia)];split
     .exact O.tr (O.asym mc) (eqv _ _ (by lia) (by lia))
     .have:i=j:=by lia
      subst this;exact O.rfl' _
    .rw[if_pos (by lia),if_pos (by lia)];exact eqv _ _ (by lia) (by lia)
  .rw[if_neg h2];have e1:m=1:=by lia
   subst e1;exact GG O hp (ac8 _) (by lia) ((eW.one O).succ O (ac8 _) (O.asym mc)) fin
theorem wN{p:Array Nat}{k:Nat}{P:Nat->Prop}(O:Ord lt)(hp:b6 n p)(hk:k<n)(hs:di lt p k)(fin:∀ m,m<=k->(∀ i,i<m->lt (p.getD k 0) (p.getD i 0)=false)->(∀ i,m<=i->i<k->lt (p.getD i 0) (p.getD k 0)=false)->P m) :
 ∀ (f l r:Nat),r-l<=f->l<=r->r<=k->(∀ i,i<l->lt (p.getD k 0) (p.getD i 0)=false)->(∀ i,r<=i->i<k->lt (p.getD i 0) (p.getD k 0)=false)->dh lt n (kas_place p k f l r) P
 | 0,l,r,h1,h2,h3,a,b=>by
  have:l=r:=by lia
  subst this;exact fin l h3 a b
 | f+1,l,r,h1,h2,h3,a,b=>by
  unfold kas_place;by_cases hlr:l ≥ r
  .rw[if_pos hlr];have:l=r:=by lia
   subst this;exact fin l h3 a b
  .rw[if_neg hlr];refine⟨hp.below hk,hp.below (by lia),?_⟩;cases c:lt (p.getD k 0) (p.getD ((l+r) / 2) 0) with
   | true =>
    simp only[↓reduceIte];refine wN O hp hk hs fin f l ((l+r) / 2) (by lia) (by lia) (by lia) a λi i1 i2=>?_;exact O.tr (O.asym c) (hs _ _ i1 i2)
   | false =>
    simp only[adk,↓reduceIte];refine wN O hp hk hs fin f ((l+r) / 2+1) r (by lia) (by lia) h3 (λi i1=>?_) b;exact O.tr (hs i ((l+r) / 2) (by lia) (by lia)) c
theorem GH(O:Ord lt){P:Array Nat->Prop}(fin:∀ p,b6 n p->di lt p n->P p):∀ (f:Nat) (p:Array Nat) (k:Nat),k+f=n->b6 n p->di lt p k->dh lt n (kas_bin f p k) P
 | 0,p,k,h,hp,hs=>fin p hp (by rw[<- h];exact hs)
 | f+1,p,k,h,hp,hs=>by
  have sz:=hp.size;unfold kas_bin;refine n5 _ (wN O hp (by lia) hs (λm m1 ma mb=>?_) k 0 k (by lia) (by lia) (ac8 _) (λ_ z=>absurd z (by lia)) λ_ z1 z2=>absurd z2 (by lia));refine GH O fin f _ (k+1) (by lia) (hp.of (bubble_perm _ _ _)) λi j gT hj=>?_;rw[GC (by lia) m1,GC (by lia) m1];by_cases ei:i=m
  .rw[if_pos ei];by_cases ej:j=m
   .rw[if_pos ej];exact O.rfl' _
   .rw[if_neg ej,if_pos (by lia)];exact mb _ (by lia) (by lia)
  .rw[if_neg ei];by_cases ej:j=m
   .rw[if_pos ej,if_neg (by lia)];exact ma _ (by lia)
   .rw[if_neg ej];split
    .split
     .exact hs _ _ (by lia) (by lia)
     .exact hs _ _ (by lia) (by lia)
    .split
     .exfalso;lia
     .exact hs _ _ (by lia) (by lia)
theorem sR(O:Ord lt)(hn:1<=n):dh lt n (kas_sort n) (λp=>b6 n p/\di lt p n):=by
 unfold kas_sort;have h0:b6 n (aeh (adx n)):=by unfold b6;simp
 refine n5 _ (QQ O h0 hn λm p hp m1 m2 ms=>?_);dsimp only;by_cases h:m<n
 .rw[if_pos h];have e:max m 1=m:=by lia
  rw[e];exact GH O (λp hp hs=>⟨hp,hs⟩) (n-m) p m (by lia) hp ms
 .rw[if_neg h];have e:m=n:=by lia
  subst e;exact⟨hp,ms⟩
noncomputable def sS{α:Type}(lt:Nat->Nat->Bool):KasT α->α
 | .ret a=>a
 | .ask i j k=>sS lt (k (lt i j))
theorem GI{α:Type}{P:α->Prop}:∀ (t:KasT α),dh lt n t P->P (sS lt t)
 | .ret _,h=>h
 | .ask i j k,h=>GI (k (lt i j)) h.2.2
theorem sT{α:Type}{P:α->Prop}:∀ (t:KasT α),dh lt n t P->dh lt n t (λa=>a=sS lt t)
 | .ret _,_=>rfl
 | .ask i j k,h=>⟨h.1,h.2.1,sT (k (lt i j)) h.2.2⟩
noncomputable def bF(lt:Nat->Nat->Bool)(n:Nat):Array Nat:=if n<2 then aeh (adx n) else sS lt (kas_sort n)
theorem kX(O:Ord lt):b6 n (bF lt n)/\di lt (bF lt n) n:=by
 unfold bF;split
 .rename_i h;refine⟨by unfold b6;simp,λi j gT hj=>?_⟩;have:i=j:=by lia
  subst this;exact O.rfl' _
 .rename_i h;exact GI _ (sR O (by lia))
end
local macro_rules | `(tactic| walk_at "om") => `(tactic| ((try simp only [PySem.Addr] at *); lia))
theorem GJ{prog:ado}{w:adM}{A:adQ}{E:acY->acZ->Prop}{s:acZ}{id:String}{b:afH}{args:List acY}{kw:List (Str × acY)}{Q:acY->acZ->Prop}(hk:builtinKind id=none)(hp:plainId id=true)
 (hb:alm table id=some b) (ha:aiW id ⟨args,kw⟩)
 (hc:adg (model prog w) A.in1 (b ⟨args,kw⟩) (λfin s'=>match fin with
   | .done f=>(match (Except.ok f:ahG) with|.ok (.ret v)=>Q v s'|.ok _=>False|.error e=>E e s')
   | .again c'=>c'.quiet=true/\afG (model prog w) A c' (λr s'=>match r with|.ok (.ret v)=>Q v s'|.ok _=>False|.error e=>E e s') s') E s) :
 adg (model prog w) A (call (.builtin id) args kw) Q E s:=by
 refine aji (ajn hp hb ?_);simp only[aiq,hk];cases hsig:Manifest.signature? id with
 | none=>exact acX hc
 | some sig =>
  have pX:Bind.checkArgs id sig ⟨args,kw⟩=pure ():=by simpa only [aiW,hsig] using ha
  simp only[pX];exact acX hc
theorem QT{prog:ado}{w:adM}{A:adQ}{R:ahG->acZ->Prop}{I S:ac6}{fp wr:List ac6}{n:Nat}{P:Nat->acY->Prop}{St:Nat->aeA->Prop}{bt:Nat->Nat->Bool}{kw:List (Str × acY)}
 (W:Walks prog w A.in1 I fp wr n P St) (jT:CmpOf prog w A.in1 .Gt P bt) (hS:S∉fp):∀ (k j:Nat) (s:acZ) (vb:acY) (c:Nat),k+(j+1)=n->St (j+1) s.heap->P (afh bt j) vb ->
  s.heap.get? S=some { cls:=.type "list",dict:=none,data:=.seq #[vb,vb] c,slots:=#[] } ->
  (∀ v h' tk,P (afh bt (n-1)) v->(∀ b o,b∉wr->b≠S->s.heap.get? b=some o->h'.get? b=some o)->R (.ok (.ret v)) { s with heap:=h',toks:=tk }) ->
  afG (model prog w) A (.builtin "max.loop" ⟨[.ref I,.none,.ref S],kw⟩) R s:=by
 have nS:S∉wr:=λz=>hS (W.sub _ z);have nm:(toString "max" ++ toString ".loop" : String) = "max.loop" := by decide
 intro k
 induction k with
 | zero =>
  intro j s vb c e st pb oS fin;have e':j+1=n:=by walk_at "om"
  refine adV afV ?_;rw[adE aev _];show adg _ A.in1 (agj (.ref S) >>= _) _ _ s;refine acR (ad6 oS rfl ?_);show adg _ A.in1 (tryCatch (ae7 (.ref I)) _ >>= _) _ _ s;refine acR (aet (W.done s _ _ (e' ▸ st) λh1 tk kp=>?_));have cz:=kp S _ nS oS;show adg _ A.in1 (agk S (λ_=>#[]) >>= _) _ _ _;refine acR ?_;refine aej cz rfl (acR (aeD (acX ?_)));exact fin vb _ tk (by rw[<- e'];exact pb) λb o hw hb q=>(ac2 _ _ (adP hb)).trans (kp b o hw q)
 | succ k ih =>
  intro j s vb c e st pb oS fin;have lt:j+1<n:=by walk_at "om"
  refine adV afV ?_;rw[adE aev _];show adg _ A.in1 (agj (.ref S) >>= _) _ _ s;refine acR (ad6 oS rfl ?_);show adg _ A.in1 (tryCatch (ae7 (.ref I)) _ >>= _) _ _ s;refine acR (aet (W.item (j+1) s _ _ lt st λv h1 tk pv fT kp=>?_));have cz:=kp S _ nS oS;show adg _ A.in1 (tryCatch (holding [v,v] (agV .Gt v vb >>= _)) _ >>= _) _ _ _;refine acR (aet (adZ (acR (jT (j+1) (afh bt j) v vb _ _ _ pv pb ?_))));refine acR (adZ (aed ?_));refine acR (aeD (acX ?_));cases hb:bt (j+1) (afh bt j) with
  | true =>
   simp only[if_true];refine acR ?_;refine aej cz rfl (acR (aeD ?_));rw[nm];refine acX ⟨aep aev _,ih (j+1) _ v _ (by walk_at "om") (W.frame _ _ _ fT λb hf o q=>?_) (by simp only[afh,hb,if_true];exact pv) (adG _ cz rfl) λv2 h2 gU p2 k2=>?_⟩
   .exact (ac2 _ _ (λz:S=b=>hS (by rw[z];exact hf))).trans q
   .exact fin v2 h2 gU p2 λb o hw dO q=>k2 b o hw dO ((ac2 _ _ (adP dO)).trans (kp b o hw q))
  | false =>
   simp only[adk,if_false];refine acR (aeD ?_);rw[nm];refine acX ⟨aep aev _,ih (j+1) _ vb c (by walk_at "om") fT (by simp only[afh,hb,adk,if_false];exact pb) cz λv2 h2 gU p2 k2=>?_⟩;exact fin v2 h2 gU p2 λb o hw dO q=>k2 b o hw dO (kp b o hw q)
theorem QU(a d:acY):aiW "max" ⟨[a],[("default",d)]⟩:=by unfold aiW;kernel_rfl
theorem QV{prog:ado}{w:adM}{A:adQ}{E:acY->acZ->Prop}{s:acZ}{l:ac6}{xs:Array (Int × Tok)}{d:acY}{Q:acY->acZ->Prop}(hh:A.handled=none)(hl:s.heap.IsList l (aex xs))
 (h0:xs.size=0->∀ h' tk,(∀ b o,s.heap.get? b=some o->h'.get? b=some o)->Q d { s with heap:=h',toks:=tk })
 (h1:0<xs.size->∀ v h' tk,(aex xs)[afh (λi j=>decide (aiE xs i > aiE xs j)) (xs.size-1)]?=some v->(∀ b o,s.heap.get? b=some o->h'.get? b=some o)->Q v { s with heap:=h',toks:=tk }) :
 adg (model prog w) A (call (.builtin "max") [.ref l] [("default",d)]) Q E s:=by
 have nm:(toString "max" ++ toString ".loop" : String) = "max.loop" := by decide
 refine GJ PySem.F.kind_max PySem.F.plain_max PySem.F.entry_max (QU _ _) ?_;show adg _ A.in1 (aeE "max" ["key","default"] 0 ⟨[],[("default",d)]⟩ >>= _) _ _ s;refine acR (aht (show aeE "max" ["key","default"] 0 ⟨[],[("default",d)]⟩=pure [none,some d] from rfl) ?_);refine acR (acX ?_);refine acR (iter_intList hl λs2 e2 st dj wO=>?_);subst e2;refine acR (ad8 ?_);have W:=Walks.list (prog:=prog) (w:=w) (A:=A.in1) hh s.heap.objs.size l wO (aex xs);generalize eP:(s.heap.push { cls:=.type "list_iterator",data:=.fields #[.ref l,.int 0 0] })=P2 at st dj ⊢;have jo:P2.objs.size∉[s.heap.objs.size,l]:=λz=>aeN _ (dj _ z);have up:∀ b o,s.heap.get? b=some o->b≠P2.objs.size/\b∉[s.heap.objs.size]/\(P2.push { cls:=.type "list",dict:=none,data:=.seq ([]:List acY).toArray }).get? b=some o:=λb o q=>by
  have lt:=ac0 q;have q2:P2.get? b=some o:=by rw[<- eP];exact acT _ q
  refine⟨adp (ac0 q2),λz=>?_,acT _ q2⟩;have:b=s.heap.objs.size:=by simpa using z
  walk_at "om"
 rw[nm];refine acX ⟨aep aev _,?_⟩;have oS:(P2.push { cls:=.type "list",dict:=none,data:=.seq ([]:List acY).toArray }).get? P2.objs.size=some { cls:=.type "list",dict:=none,data:=.seq #[] 0,slots:=#[] }:=ac3 _ rfl;have b5:=W.frame 0 P2 (P2.push { cls:=.type "list",dict:=none,data:=.seq ([]:List acY).toArray }) st λb _ o q=>acT _ q;have nS:P2.objs.size∉[s.heap.objs.size]:=λz=>jo (by simp at z;simp[z]);by_cases hz:xs.size=0
 .have p8:(P2.push { cls:=.type "list",dict:=none,data:=.seq ([]:List acY).toArray }).IsListIter s.heap.objs.size l (aex xs).size/\(P2.push { cls:=.type "list",dict:=none,data:=.seq ([]:List acY).toArray }).IsList l (aex xs):=by
   have:(aex xs).size=0:=by simpa [aex] using hz
   rw[this];exact b5
  refine adV afV ?_;rw[adE aev _];show adg _ A.in1 (agj (.ref P2.objs.size) >>= _) _ _ _;refine acR (ad6 oS rfl ?_);show adg _ A.in1 (tryCatch (ae7 (.ref s.heap.objs.size)) _ >>= _) _ _ _;refine acR (aet (W.done _ _ _ p8 λh2 tk kp=>?_));refine acR (agD (acX ?_));exact h0 hz h2 tk λb o q=>kp b o (up b o q).2.1 (up b o q).2.2
 .have hp:0<xs.size:=by walk_at "om"
  have hn:0<(aex xs).size:=by simpa [aex] using hp
  refine adV afV ?_;rw[adE aev _];show adg _ A.in1 (agj (.ref P2.objs.size) >>= _) _ _ _;refine acR (ad6 oS rfl ?_);show adg _ A.in1 (tryCatch (ae7 (.ref s.heap.objs.size)) _ >>= _) _ _ _;refine acR (aet (W.item 0 _ _ _ hn b5 λv h2 tk pv fT kp=>?_));have cz:=kp _ _ nS oS;show adg _ A.in1 (agk P2.objs.size (λ_=>#[v,v]) >>= _) _ _ _;refine acR ?_;refine aej cz rfl ?_;rw[nm];refine acX ⟨aep aev _,QT W (CmpOf.ints_gt (aiE xs) (λ_ _=>ahu)) jo ((aex xs).size-1) 0 _ v _ (by walk_at "om") (W.frame _ _ _ fT λb hf o q=>?_) pv (adG _ cz rfl) λv2 h3 p9 p3 k3=>?_⟩
  .exact (ac2 _ _ (λz:P2.objs.size=b=>jo (by rw[z];exact hf))).trans q
  .refine h1 hp v2 h3 p9 (by simpa [aex] using p3) λb o q=>?_;exact k3 b o (up b o q).2.1 (up b o q).1 ((ac2 _ _ (adP (up b o q).1)).trans (kp b o (up b o q).2.1 (up b o q).2.2))
theorem QW{prog:ado}{w:adM}{A:adQ}{R:ahG->acZ->Prop}{I S:ac6}{fp wr:List ac6}{n:Nat}{P:Nat->acY->Prop}{St:Nat->aeA->Prop}{bt:Nat->Nat->Bool}{kw:List (Str × acY)}
 (W:Walks prog w A.in1 I fp wr n P St) (jT:CmpOf prog w A.in1 .Lt P bt) (hS:S∉fp):∀ (k j:Nat) (s:acZ) (vb:acY) (c:Nat),k+(j+1)=n->St (j+1) s.heap->P (afh bt j) vb ->
  s.heap.get? S=some { cls:=.type "list",dict:=none,data:=.seq #[vb,vb] c,slots:=#[] } ->
  (∀ v h' tk,P (afh bt (n-1)) v->(∀ b o,b∉wr->b≠S->s.heap.get? b=some o->h'.get? b=some o)->R (.ok (.ret v)) { s with heap:=h',toks:=tk }) ->
  afG (model prog w) A (.builtin "min.loop" ⟨[.ref I,.none,.ref S],kw⟩) R s:=by
 have nS:S∉wr:=λz=>hS (W.sub _ z);have nm:(toString "min" ++ toString ".loop" : String) = "min.loop" := by decide
 intro k
 induction k with
 | zero =>
  intro j s vb c e st pb oS fin;have e':j+1=n:=by walk_at "om"
  refine adV aeK ?_;rw[adE adH _];show adg _ A.in1 (agj (.ref S) >>= _) _ _ s;refine acR (ad6 oS rfl ?_);show adg _ A.in1 (tryCatch (ae7 (.ref I)) _ >>= _) _ _ s;refine acR (aet (W.done s _ _ (e' ▸ st) λh1 tk kp=>?_));have cz:=kp S _ nS oS;show adg _ A.in1 (agk S (λ_=>#[]) >>= _) _ _ _;refine acR ?_;refine aej cz rfl (acR (aeD (acX ?_)));exact fin vb _ tk (by rw[<- e'];exact pb) λb o hw hb q=>(ac2 _ _ (adP hb)).trans (kp b o hw q)
 | succ k ih =>
  intro j s vb c e st pb oS fin;have lt:j+1<n:=by walk_at "om"
  refine adV aeK ?_;rw[adE adH _];show adg _ A.in1 (agj (.ref S) >>= _) _ _ s;refine acR (ad6 oS rfl ?_);show adg _ A.in1 (tryCatch (ae7 (.ref I)) _ >>= _) _ _ s;refine acR (aet (W.item (j+1) s _ _ lt st λv h1 tk pv fT kp=>?_));have cz:=kp S _ nS oS;show adg _ A.in1 (tryCatch (holding [v,v] (agV .Lt v vb >>= _)) _ >>= _) _ _ _;refine acR (aet (adZ (acR (jT (j+1) (afh bt j) v vb _ _ _ pv pb ?_))));refine acR (adZ (aed ?_));refine acR (aeD (acX ?_));cases hb:bt (j+1) (afh bt j) with
  | true =>
   simp only[if_true];refine acR ?_;refine aej cz rfl (acR (aeD ?_));rw[nm];refine acX ⟨aep adH _,ih (j+1) _ v _ (by walk_at "om") (W.frame _ _ _ fT λb hf o q=>?_) (by simp only[afh,hb,if_true];exact pv) (adG _ cz rfl) λv2 h2 gU p2 k2=>?_⟩
   .exact (ac2 _ _ (λz:S=b=>hS (by rw[z];exact hf))).trans q
   .exact fin v2 h2 gU p2 λb o hw dO q=>k2 b o hw dO ((ac2 _ _ (adP dO)).trans (kp b o hw q))
  | false =>
   simp only[adk,if_false];refine acR (aeD ?_);rw[nm];refine acX ⟨aep adH _,ih (j+1) _ vb c (by walk_at "om") fT (by simp only[afh,hb,adk,if_false];exact pb) cz λv2 h2 gU p2 k2=>?_⟩;exact fin v2 h2 gU p2 λb o hw dO q=>k2 b o hw dO (kp b o hw q)
theorem QX(a d:acY):aiW "min" ⟨[a],[("default",d)]⟩:=by unfold aiW;kernel_rfl
theorem QY{prog:ado}{w:adM}{A:adQ}{E:acY->acZ->Prop}{s:acZ}{l:ac6}{xs:Array (Int × Tok)}{d:acY}{Q:acY->acZ->Prop}(hh:A.handled=none)(hl:s.heap.IsList l (aex xs))
 (h0:xs.size=0->∀ h' tk,(∀ b o,s.heap.get? b=some o->h'.get? b=some o)->Q d { s with heap:=h',toks:=tk })
 (h1:0<xs.size->∀ v h' tk,(aex xs)[afh (λi j=>decide (aiE xs i<aiE xs j)) (xs.size-1)]?=some v->(∀ b o,s.heap.get? b=some o->h'.get? b=some o)->Q v { s with heap:=h',toks:=tk }) :
 adg (model prog w) A (call (.builtin "min") [.ref l] [("default",d)]) Q E s:=by
 have nm:(toString "min" ++ toString ".loop" : String) = "min.loop" := by decide
 refine GJ akr aj6 aj7 (QX _ _) ?_;show adg _ A.in1 (aeE "min" ["key","default"] 0 ⟨[],[("default",d)]⟩ >>= _) _ _ s;refine acR (aht (show aeE "min" ["key","default"] 0 ⟨[],[("default",d)]⟩=pure [none,some d] from rfl) ?_);refine acR (acX ?_);refine acR (iter_intList hl λs2 e2 st dj wO=>?_);subst e2;refine acR (ad8 ?_);have W:=Walks.list (prog:=prog) (w:=w) (A:=A.in1) hh s.heap.objs.size l wO (aex xs);generalize eP:(s.heap.push { cls:=.type "list_iterator",data:=.fields #[.ref l,.int 0 0] })=P2 at st dj ⊢;have jo:P2.objs.size∉[s.heap.objs.size,l]:=λz=>aeN _ (dj _ z);have up:∀ b o,s.heap.get? b=some o->b≠P2.objs.size/\b∉[s.heap.objs.size]/\(P2.push { cls:=.type "list",dict:=none,data:=.seq ([]:List acY).toArray }).get? b=some o:=λb o q=>by
  have lt:=ac0 q;have q2:P2.get? b=some o:=by rw[<- eP];exact acT _ q
  refine⟨adp (ac0 q2),λz=>?_,acT _ q2⟩;have:b=s.heap.objs.size:=by simpa using z
  walk_at "om"
 rw[nm];refine acX ⟨aep adH _,?_⟩;have oS:(P2.push { cls:=.type "list",dict:=none,data:=.seq ([]:List acY).toArray }).get? P2.objs.size=some { cls:=.type "list",dict:=none,data:=.seq #[] 0,slots:=#[] }:=ac3 _ rfl;have b5:=W.frame 0 P2 (P2.push { cls:=.type "list",dict:=none,data:=.seq ([]:List acY).toArray }) st λb _ o q=>acT _ q;have nS:P2.objs.size∉[s.heap.objs.size]:=λz=>jo (by simp at z;simp[z]);by_cases hz:xs.size=0
 .have p8:(P2.push { cls:=.type "list",dict:=none,data:=.seq ([]:List acY).toArray }).IsListIter s.heap.objs.size l (aex xs).size/\(P2.push { cls:=.type "list",dict:=none,data:=.seq ([]:List acY).toArray }).IsList l (aex xs):=by
   have:(aex xs).size=0:=by simpa [aex] using hz
   rw[this];exact b5
  refine adV aeK ?_;rw[adE adH _];show adg _ A.in1 (agj (.ref P2.objs.size) >>= _) _ _ _;refine acR (ad6 oS rfl ?_);show adg _ A.in1 (tryCatch (ae7 (.ref s.heap.objs.size)) _ >>= _) _ _ _;refine acR (aet (W.done _ _ _ p8 λh2 tk kp=>?_));refine acR (agD (acX ?_));exact h0 hz h2 tk λb o q=>kp b o (up b o q).2.1 (up b o q).2.2
 .have hp:0<xs.size:=by walk_at "om"
  have hn:0<(aex xs).size:=by simpa [aex] using hp
  refine adV aeK ?_;rw[adE adH _];show adg _ A.in1 (agj (.ref P2.objs.size) >>= _) _ _ _;refine acR (ad6 oS rfl ?_);show adg _ A.in1 (tryCatch (ae7 (.ref s.heap.objs.size)) _ >>= _) _ _ _;refine acR (aet (W.item 0 _ _ _ hn b5 λv h2 tk pv fT kp=>?_));have cz:=kp _ _ nS oS;show adg _ A.in1 (agk P2.objs.size (λ_=>#[v,v]) >>= _) _ _ _;refine acR ?_;refine aej cz rfl ?_;rw[nm];refine acX ⟨aep adH _,QW W (CmpOf.ints_lt (aiE xs) (λ_ _=>ahu)) jo ((aex xs).size-1) 0 _ v _ (by walk_at "om") (W.frame _ _ _ fT λb hf o q=>?_) pv (adG _ cz rfl) λv2 h3 p9 p3 k3=>?_⟩
  .exact (ac2 _ _ (λz:P2.objs.size=b=>jo (by rw[z];exact hf))).trans q
  .refine h1 hp v2 h3 p9 (by simpa [aex] using p3) λb o q=>?_;exact k3 b o (up b o q).2.1 (up b o q).1 ((ac2 _ _ (adP (up b o q).1)).trans (kp b o (up b o q).2.1 (up b o q).2.2))
noncomputable def gW:List Int->Int
 | []=>0
 | x::r=>r.foldl (λb y=>if y > b then y else b) x
noncomputable def iM:List Int->Int
 | []=>0
 | x::r=>r.foldl (λb y=>if y<b then y else b) x
theorem GK:∀ (r:List Int) (b:Int),b<=r.foldl (λb y=>if y > b then y else b) b/\(∀ y∈r,y<=r.foldl (λb y=>if y > b then y else b) b)/\(r.foldl (λb y=>if y > b then y else b) b=b∨r.foldl (λb y=>if y > b then y else b) b∈r)
 | [],b=>⟨aew _,λ_ z=>(nomatch z),.inl rfl⟩
 | x::r,b=>by
  simp only[ahv];obtain⟨h1,h2,h3⟩:=GK r (if x > b then x else b);refine⟨?_,λy hy=>?_,?_⟩
  .refine aiX ?_ h1;split<;>lia
  .rcases ac9.mp hy with rfl|hy
   .refine aiX ?_ h1;split<;>lia
   .exact h2 y hy
  .rcases h3 with h3|h3
   .rw[h3];split
    .right;simp
    .left;rfl
   .right;exact adL _ h3
theorem GL:∀ (r:List Int) (b:Int),r.foldl (λb y=>if y<b then y else b) b<=b/\(∀ y∈r,r.foldl (λb y=>if y<b then y else b) b<=y)/\(r.foldl (λb y=>if y<b then y else b) b=b∨r.foldl (λb y=>if y<b then y else b) b∈r)
 | [],b=>⟨aew _,λ_ z=>(nomatch z),.inl rfl⟩
 | x::r,b=>by
  simp only[ahv];obtain⟨h1,h2,h3⟩:=GL r (if x<b then x else b);refine⟨?_,λy hy=>?_,?_⟩
  .refine aiX h1 ?_;split<;>lia
  .rcases ac9.mp hy with rfl|hy
   .refine aiX h1 ?_;split<;>lia
   .exact h2 y hy
  .rcases h3 with h3|h3
   .rw[h3];split
    .right;simp
    .left;rfl
   .right;exact adL _ h3
theorem GN{ns:List Int}(h:ns≠[]):gW ns∈ns/\∀ y∈ns,y<=gW ns:=by
 cases ns with
 | nil=>exact absurd rfl h
 | cons x r =>
  obtain⟨h1,h2,h3⟩:=GK r x;refine⟨?_,λy hy=>?_⟩
  .rcases h3 with h3|h3
   .show r.foldl _ x∈_;rw[h3];exact .head _
   .exact .tail _ h3
  .rcases ac9.mp hy with rfl|hy
   .exact h1
   .exact h2 y hy
theorem GO{ns:List Int}(h:ns≠[]):iM ns∈ns/\∀ y∈ns,iM ns<=y:=by
 cases ns with
 | nil=>exact absurd rfl h
 | cons x r =>
  obtain⟨h1,h2,h3⟩:=GL r x;refine⟨?_,λy hy=>?_⟩
  .rcases h3 with h3|h3
   .show r.foldl _ x∈_;rw[h3];exact .head _
   .exact .tail _ h3
  .rcases ac9.mp hy with rfl|hy
   .exact h1
   .exact h2 y hy
theorem qb:∀ {ns:List Int} {af:List acY},Vals (ns.map V.int) af->∃ xs:Array (Int × Tok),af.toArray=aex xs/\xs.toList.map (·.1)=ns
 | [],_,.nil=>⟨#[],by simp[aex],rfl⟩
 | n::ns,_,.cons (l₂:=af) r t=>by
  obtain⟨xs,e1,e2⟩:=qb (ns:=ns) t;obtain⟨tk,rfl⟩:=r;refine⟨((n,tk)::xs.toList).toArray,?_,?_⟩
  .have:af=xs.toList.map (λp=>Value.int p.1 p.2):=by have:=congrArg akg e1;simpa [aex] using this
   simp[aex,this]
  .simp[e2]
theorem GP{xs:Array (Int × Tok)}{ns:List Int}(e:xs.toList.map (·.1)=ns){i:Nat}(hi:i<xs.size):aiE xs i∈ns/\aiE xs i=ns.getD i 0:=by subst e;unfold aiE;rw[adR hi];refine⟨adf.mpr ⟨xs[i],by simp,rfl⟩,?_⟩;simp[hi]
theorem GQ{xs:Array (Int × Tok)}{ns:List Int}(e:xs.toList.map (·.1)=ns){y:Int}(hy:y∈ns):∃ i,i<xs.size/\aiE xs i=y:=by
 subst e;obtain⟨p,hp,rfl⟩:=adf.mp hy;obtain⟨i,hi,e⟩:=ajo.mp hp;refine⟨i,by simpa using hi,?_⟩;unfold aiE;have bP:i<xs.size:=by simpa using hi
 rw[adR bP];have:xs[i]=p:=by simpa using e
 rw[this];rfl
theorem GR{xs:Array (Int × Tok)}{ns:List Int}(e:xs.toList.map (·.1)=ns)(h:0<xs.size):aiE xs (afh (λi j=>decide (aiE xs i > aiE xs j)) (xs.size-1))=gW ns:=by
 obtain⟨h1,h2⟩:=argBest_gt (aiE xs) (xs.size-1);have bg:ns≠[]:=by intro z;subst z;have q:=congrArg List.length e;rw[acV,afO,agI] at q;lia
 obtain⟨m1,m2⟩:=GN bg;refine aiY (m2 _ (GP e (by lia)).1) ?_;obtain⟨i,hi,ei⟩:=GQ e m1;rw[<- ei];exact h2 i (by lia)
theorem GS{xs:Array (Int × Tok)}{ns:List Int}(e:xs.toList.map (·.1)=ns)(h:0<xs.size):aiE xs (afh (λi j=>decide (aiE xs i<aiE xs j)) (xs.size-1))=iM ns:=by
 obtain⟨h1,h2⟩:=argBest_lt (aiE xs) (xs.size-1);have bg:ns≠[]:=by intro z;subst z;have q:=congrArg List.length e;rw[acV,afO,agI] at q;lia
 obtain⟨m1,m2⟩:=GO bg;refine aiY ?_ (m2 _ (GP e (by lia)).1);obtain⟨i,hi,ei⟩:=GQ e m1;rw[<- ei];exact h2 i (by lia)
noncomputable def sU(R:V->Hp->Prop):List V->Hp->Prop
 | [x],H=>R x H
 | _,_=>False
theorem wQ{R:V->Hp->Prop}:∀ {vs:List V} {H:Hp},sU R vs H->∃ x,vs=[x]/\R x H
 | [x],_,h=>⟨x,rfl,h⟩
section
variable{X:Cx}{e d:aeY}{te td:TE}{p pos kp:Pos}
noncomputable def kY(f:List Int->Int):List Int->V->V
 | [],y=>y
 | n::ns,_=>.int (f (n::ns))
theorem GU{f:List Int->Int}{ns:List Int}{y:V}(h:ns≠[]):kY f ns y = .int (f ns):=by
 cases ns with
 | nil=>exact absurd rfl h
 | cons _ _=>rfl
noncomputable def wR(K:acS)(f:List Int->Int)(te td:TE):TE:=λσ H Q=>te σ H λx H1=>td σ H1 λy H2=>∃ a ns,x = .ref a/\ah K H2 a (ns.map V.int)/\Q (kY f ns y) H2
theorem QZ(hc:X.calm=true)(hg:Gl X "max")(hm:X.mg "max" = none)(he:PE X e te)(hd:PE X d td)
 (hs:adC [e] X.env=(false,eval e X.env)::adC [] X.env:=by rfl) (hq:afE pos (adC [e] X.env)=(false,eval e X.env)::afE pos (adC [] X.env):=by rfl) :
 PE X (.Call (.Name "max" p) [e] [⟨some "default",d,kp⟩] pos) (wR X.K gW te td):=by
 intro pins s σ H Q I h;refine aeJ (eQ I hg hm Gi ?_ (by decide));refine akO (aA ((ae he ai hs) pos pins s σ H (sU λx H1=>td σ H1 λy H2=>∃ (a:ac6) (ns:List Int),x = .ref a/\ah X.K H2 a (ns.map V.int)/\Q (kY gW ns y) H2) I h) λus s1 ⟨vs,H1,I1,r,q⟩=>?_) hq (by rw[hs];rfl)
 .obtain⟨x,rfl,q⟩:=wQ q;obtain⟨u,rfl,ru⟩:=vals1 r;refine kws_cons (aA (hd pins s1 σ H1 _ I1 q) λw s2 ⟨y,H2,I2,ry,a,ns,ex,hS,q1⟩=>kws_nil ?_);subst ex;cases ru;obtain⟨af,rv,hp,_⟩:=I2.list hS;obtain⟨xs,e1,e2⟩:=qb rv;obtain⟨o,n,ho,bc,_,hdt⟩:=hp;have hl:s2.heap.IsList a (aex xs):=⟨o,ho,bc,n,by rw[hdt,e1]⟩
  have len:xs.size=ns.length:=by rw[<- e2,acV];simp
  show adg _ X.A (call (.builtin "max") [.ref a] [("default",w)]) _ _ s2;refine QV (I2.ok.hd hc) hl (λhz h' tk hk=>⟨y,H2,I2.kept hk,ry,?_⟩) λhp v h' tk hv hk=>⟨.int (gW ns),H2,I2.kept hk,?_,?_⟩
  .have z:ns=[]:=aeI.mp (by walk_at "om");rw[z] at q1;exact q1
  .obtain⟨t,rfl⟩:=ahu hv;exact⟨t,by rw[GR e2 hp]⟩
  .rw[GU (λz=>by subst z;rw[agI] at len;lia)] at q1;exact q1
theorem Q0(hc:X.calm=true):eU X (.builtin "max") (λxs H Q=>∃ a ns,xs=[.ref a]/\ah X.K H a (ns.map V.int)/\ns≠[]/\Q (.int (gW ns)) H):=by
 intro pins s σ H xs us Q I r h;obtain⟨a,ns,rfl,hS,bg,q⟩:=h;obtain⟨u,rfl,ru⟩:=vals1 r;cases ru;obtain⟨af,rv,hp,_⟩:=I.list hS;obtain⟨xs,e1,e2⟩:=qb rv;obtain⟨o,n,ho,bc,_,hdt⟩:=hp;have hl:s.heap.IsList a (aex xs):=⟨o,ho,bc,n,by rw[hdt,e1]⟩
 have len:xs.size=ns.length:=by rw[<- e2,acV];simp
 have qc:0<xs.size:=by rw[len];exact ajC.mpr bg
 refine max_intList (I.ok.hd hc) hl qc λv h' tk hv hk=>⟨.int (gW ns),H,I.kept hk,?_,q⟩
 obtain⟨t,rfl⟩:=ahu hv;exact⟨t,by rw[GR e2 qc]⟩
theorem Q3(hc:X.calm=true)(hg:Gl X "min")(hm:X.mg "min" = none)(he:PE X e te)(hd:PE X d td)
 (hs:adC [e] X.env=(false,eval e X.env)::adC [] X.env:=by rfl) (hq:afE pos (adC [e] X.env)=(false,eval e X.env)::afE pos (adC [] X.env):=by rfl) :
 PE X (.Call (.Name "min" p) [e] [⟨some "default",d,kp⟩] pos) (wR X.K iM te td):=by
 intro pins s σ H Q I h;refine aeJ (eQ I hg hm nX ?_ (by decide));refine akO (aA ((ae he ai hs) pos pins s σ H (sU λx H1=>td σ H1 λy H2=>∃ (a:ac6) (ns:List Int),x = .ref a/\ah X.K H2 a (ns.map V.int)/\Q (kY iM ns y) H2) I h) λus s1 ⟨vs,H1,I1,r,q⟩=>?_) hq (by rw[hs];rfl)
 .obtain⟨x,rfl,q⟩:=wQ q;obtain⟨u,rfl,ru⟩:=vals1 r;refine kws_cons (aA (hd pins s1 σ H1 _ I1 q) λw s2 ⟨y,H2,I2,ry,a,ns,ex,hS,q1⟩=>kws_nil ?_);subst ex;cases ru;obtain⟨af,rv,hp,_⟩:=I2.list hS;obtain⟨xs,e1,e2⟩:=qb rv;obtain⟨o,n,ho,bc,_,hdt⟩:=hp;have hl:s2.heap.IsList a (aex xs):=⟨o,ho,bc,n,by rw[hdt,e1]⟩
  have len:xs.size=ns.length:=by rw[<- e2,acV];simp
  show adg _ X.A (call (.builtin "min") [.ref a] [("default",w)]) _ _ s2;refine QY (I2.ok.hd hc) hl (λhz h' tk hk=>⟨y,H2,I2.kept hk,ry,?_⟩) λhp v h' tk hv hk=>⟨.int (iM ns),H2,I2.kept hk,?_,?_⟩
  .have z:ns=[]:=aeI.mp (by walk_at "om");rw[z] at q1;exact q1
  .obtain⟨t,rfl⟩:=ahu hv;exact⟨t,by rw[GS e2 hp]⟩
  .rw[GU (λz=>by subst z;rw[agI] at len;lia)] at q1;exact q1
theorem Q4(hc:X.calm=true):eU X (.builtin "min") (λxs H Q=>∃ a ns,xs=[.ref a]/\ah X.K H a (ns.map V.int)/\ns≠[]/\Q (.int (iM ns)) H):=by
 intro pins s σ H xs us Q I r h;obtain⟨a,ns,rfl,hS,bg,q⟩:=h;obtain⟨u,rfl,ru⟩:=vals1 r;cases ru;obtain⟨af,rv,hp,_⟩:=I.list hS;obtain⟨xs,e1,e2⟩:=qb rv;obtain⟨o,n,ho,bc,_,hdt⟩:=hp;have hl:s.heap.IsList a (aex xs):=⟨o,ho,bc,n,by rw[hdt,e1]⟩
 have len:xs.size=ns.length:=by rw[<- e2,acV];simp
 have qc:0<xs.size:=by rw[len];exact ajC.mpr bg
 refine min_intList (I.ok.hd hc) hl qc λv h' tk hv hk=>⟨.int (iM ns),H,I.kept hk,?_,q⟩
 obtain⟨t,rfl⟩:=ahu hv;exact⟨t,by rw[GS e2 qc]⟩
end
local macro_rules | `(tactic| walk_at "om") => `(tactic| ((try simp only [PySem.Addr] at *); lia))
theorem Inv.Q5{X:Cx}{pins:List (ac6 × Obj)}{σ:L2.St}{H:Hp}{s:acZ}{l:ac6}{ys:List V}{af:List acY}{n:Nat}(I:Inv X pins σ H s)(f:cw X pins H l)(Q6:X.s₀.heap.objs.size<=l)
 (e:s.heap.get? l=some { cls:=.type "list",data:=.seq af.toArray n }) (r:Vals ys af) (hz:ys.length<=adz):Inv X pins σ (upd H l (.lst ys)) s:=by
 obtain⟨c0,c1,c2,c3,c4,c5⟩:=f;have cn:∀ b u,H b=some u->b≠l:=λb u q z=>by rw[z,c0] at q;cases q
 have Q7:∀ b o,X.s₀.heap.get? b=some o->b≠l:=λb o q=>adp (adn (ac0 q) Q6);refine⟨I.ok,I.os,I.bare,⟨I.base.keep,I.base.slot,λb o q n hx=>?_,I.base.there,λb xs q=>?_,λb o u q=>?_,λb ps q=>?_⟩,I.loc,I.cell,?_,λx c q=>?_,λp hp=>?_,λa o q=>?_,I.len⟩
 .rw[aB (Q7 b o q)];exact I.base.free b o q n hx
 .have z:=I.base.dv b xs q;rw[aB (cn b _ z)];exact z
 .have z:=I.base.dI b o u q;rw[aB (cn b _ z)];exact z
 .obtain⟨more,z⟩:=I.base.eO b ps q;exact⟨more,by rw[aB (cn b _ z)];exact z⟩
 .rw[aB (adP c1)];exact I.free
 .rw[aB (c4 x c q)];exact I.fM x c q
 .obtain⟨a1,a2,a3⟩:=I.pin p hp;exact⟨a1,by rw[aB (c5 p hp)];exact a2,a3⟩
 .by_cases ha:a=l
  .subst ha;rw[ar] at q;cases q;exact⟨hz,af,n,r,e⟩
  .rw[aB ha] at q;exact (I.aj a o q).fq (λ_ _ _ z=>z) (λb z=>by rw[aB (cn b _ z)];exact z) λb xs z=>by rw[aB (cn b _ z)];exact z
theorem GV:∀ {a b:List Int},HT.lexLt a b=true->HT.lexLt b a=false
 | [],[],h=>by cases h
 | [],_::_,_=>rfl
 | _::_,[],h=>by cases h
 | x::a,y::b,h=>by
  rw[HT.jP] at h ⊢;by_cases e:x=y
  .subst e;rw[if_pos rfl] at h ⊢;exact GV h
  .rw[if_neg e] at h;rw[if_neg (adP e)];have:x<y:=by simpa using h
   simpa using (by walk_at "om" : ¬ y<x)
theorem GW:∀ {a b c:List Int},HT.lexLt b a=false->HT.lexLt c b=false->HT.lexLt c a=false
 | [],[],[],_,_=>rfl
 | [],[],_::_,_,_=>rfl
 | [],_::_,[],_,h=>by cases h
 | [],_::_,_::_,_,_=>rfl
 | _::_,[],_,h,_=>by cases h
 | _::_,_::_,[],_,h=>by cases h
 | x::a,y::b,z::c,h1,h2=>by
  rw[HT.jP] at h1 h2 ⊢;by_cases e1:y=x
  .subst e1;rw[if_pos rfl] at h1;by_cases e2:z=y
   .subst e2;rw[if_pos rfl] at h2 ⊢;exact GW h1 h2
   .rw[if_neg e2] at h2 ⊢;exact h2
  .rw[if_neg e1] at h1;have GX:¬ y<x:=by simpa using h1
   by_cases e2:z=y
   .subst e2;rw[if_neg e1];exact h1
   .rw[if_neg e2] at h2;have mI:¬ z<y:=by simpa using h2
    rw[if_neg (by walk_at "om")];simpa using (by walk_at "om" : ¬ z<x)
section
variable{prog:ado}{w:adM}{A:adQ}{E:acY->acZ->Prop}{s:acZ}
theorem Q8{a b:Int}{t u:Tok}{Q:Bool->acZ->Prop}(h:Q (a == b) s):adg (model prog w) A (eqBool (.int a t) (.int b u)) Q E s:=SeqAt.EqAt.int_int a t b u prog w E Q h
theorem GY{b fin:Bool}{Q:Bool->acZ->Prop}:∀ {ns ms:List Int} {us ws:List acY} {i:Nat},ahN us ns->ahN ws ms->fin=decide (ns.length<ms.length)->Q (HT.lexLt ns ms) s->PySem.W.KatLex prog w A b fin Q (us.zip ws) i s:=by
 intro ns
 induction ns with
 | nil =>
  intro ms us ws i r q e h;cases r;cases q with
  | nil=>subst e;exact h
  | cons=>subst e;exact h
 | cons n ns ih =>
  intro ms us ws i r q e h;cases r with
  | cons _ t r =>
   cases q with
   | nil=>subst e;exact h
   | cons m t' q =>
    rw[List.zip_cons_cons];refine PySem.W.kat_cons (Q8 (PySem.W.kat_go (λhh=>PySem.W.kat_yes ?_) λhh=>PySem.W.kat_no ?_))
    .have e1:n=m:=by simpa using hh
     subst e1;rw[HT.jP,if_pos rfl] at h;exact ih r q (by subst e;simp) h
    .have e1:n≠m:=by simpa using hh
     rw[HT.jP,if_neg e1] at h;cases (b && i == 0) with
     | true=>exact oneLt_int h
     | false=>exact PySem.W.kat_one _ _ (lt_int h)
end
noncomputable def mJ(sp:Sp):List V->List V->Hp->(List V->Hp->Prop)->Prop
 | [],ks,H,Q=>Q ks H
 | x::r,ks,H,Q=>sp [x] H (λk H1=>mJ sp r (ks++[k]) H1 Q) E0
noncomputable def bY(K:acS)(H:Hp):List V->List (List Int)->Prop
 | [],[]=>True
 | k::ks,n::ns=>(∃ p,k = .ref p/\ax K H p (n.map V.int)/\n≠[])/\bY K H ks ns
 | _,_=>False
theorem bY.len{K:acS}{H:Hp}:∀ {ks:List V} {ns:List (List Int)},bY K H ks ns->ks.length=ns.length
 | [],[],_=>rfl
 | _::_,_::_,h=>by simp[bY.len h.2]
 | [],_::_,h=>h.elim
 | _::_,[],h=>h.elim
theorem bY.same{K:acS}{H H1:Hp}(e:ak H H1):∀ {ks:List V} {ns:List (List Int)},bY K H ks ns->bY K H1 ks ns
 | [],[],_=>trivial
 | _::_,_::_,h=>by obtain⟨⟨p,a,b,c⟩,d⟩:=h;exact⟨⟨p,a,QF e b,c⟩,bY.same e d⟩
 | [],_::_,h=>h.elim
 | _::_,[],h=>h.elim
theorem bY.snoc{K:acS}{H:Hp}{p:ac6}{n:List Int}(hp:ax K H p (n.map V.int))(hn:n≠[]):∀ {ks:List V} {ns:List (List Int)},bY K H ks ns->bY K H (ks++[.ref p]) (ns++[n])
 | [],[],_=>⟨⟨p,rfl,hp,hn⟩,trivial⟩
 | _::_,_::_,h=>⟨h.1,bY.snoc hp hn h.2⟩
 | [],_::_,h=>h.elim
 | _::_,[],h=>h.elim
theorem bY.get{K:acS}{H:Hp}:∀ {ks:List V} {ns:List (List Int)} {i:Nat} {k:V},bY K H ks ns->ks[i]?=some k->∃ p,k = .ref p/\ax K H p ((ns.getD i []).map V.int)
 | [],[],_,_,_,e=>by simp at e
 | k::_,n::_,0,_,h,e=>by simp at e;subst e;obtain⟨⟨p,a,b,_⟩,_⟩:=h;exact⟨p,a,b⟩
 | _::_,_::_,i+1,_,h,e=>by have:=bY.get (i:=i) h.2 (by simpa using e);simpa using this
 | [],_::_,_,_,h,_=>h.elim
 | _::_,[],_,_,h,_=>h.elim
section
variable{X:Cx}{pins:List (ac6 × Obj)}{σ:L2.St}{H:Hp}{s:acZ}
theorem bY.dv(I:Inv X pins σ H s):∀ {ks:List V} {ns:List (List Int)} {us:List acY},bY X.K H ks ns->Vals ks us->∃ fs,akP s.heap us fs/\fs.length=us.length/\∀ v∈fs,∃ i t,v = .int i t
 | [],[],_,_,.nil=>⟨[],trivial,rfl,λ_ z=>(nomatch z)⟩
 | k::ks,n::ns,_,h,.cons r rs=>by
  obtain⟨⟨p,rfl,hp,hn⟩,h⟩:=h;cases r;obtain⟨fs,a,b,c⟩:=bY.dv I h rs;obtain⟨af,rv,⟨o,ho,hc,m,hd⟩,_⟩:=I.tuple hp;cases n with
  | nil=>exact absurd rfl hn
  | cons z zs =>
   cases rv with
   | cons r1 r2 =>
    obtain⟨t,rfl⟩:=r1;refine⟨.int z t::fs,PySem.W.KatTups.cons ho hc hd (by simp) a,by simp[b],λv hv=>?_⟩;rcases ac9.mp hv with rfl|hv
    .exact⟨_,_,rfl⟩
    .exact c v hv
 | [],_::_,_,h,_=>h.elim
 | _::_,[],_,h,_=>h.elim
noncomputable def bK(kis:List (List Int))(i j:Nat):Bool:=HT.lexLt (kis.getD i []) (kis.getD j [])
theorem iN(kis:List (List Int)):Ord (bK kis):=⟨λh=>GV h,λh1 h2=>GW h1 h2⟩
noncomputable def br{α:Type}(kis:List (List Int))(d:α)(as:List α):List α:=(bF (bK kis) as.length).toList.map λi=>as.getD i d
theorem mK{α:Type}{kis:List (List Int)}{d:α}{as:List α}:(br kis d as).Perm as:=by
 have h:=(kX (n:=as.length) (iN kis)).1;have q:=h.map (λi=>as.getD i d);have self:(adx as.length).map (λi=>as.getD i d)=as:=by
  apply ahj
  .simp
  .intro i h1 h2;simp[acU,h2]
 rw[self] at q;exact q
theorem n6{α:Type}{kis:List (List Int)}{d:α}{as:List α}:(br kis d as).length=as.length:=mK.length_eq
theorem wU{α:Type}{kis:List (List Int)}{d:α}{as:List α}{f:α->List Int}(hk:kis=as.map f):(br kis d as).Pairwise (λa b=>HT.lexLt (f b) (f a)=false):=by
 obtain⟨hp,hs⟩:=kX (n:=as.length) (iN kis);have sz:=hp.size;unfold br;rw[List.pairwise_map];refine afA.mpr λi j hi hj gT=>?_;have bP:i<(bF (bK kis) as.length).size:=by simpa using hi
 have wV:j<(bF (bK kis) as.length).size:=by simpa using hj
 have q:=hs i j (by lia) (by lia);have e1:(bF (bK kis) as.length).getD i 0=(bF (bK kis) as.length)[i]:=by simp[ah5,bP]
 have e2:(bF (bK kis) as.length).getD j 0=(bF (bK kis) as.length)[j]:=by simp[ah5,wV]
 have l1:=b6.below hp (i:=i) (by lia);have l2:=b6.below hp (i:=j) (by lia);rw[e1,e2] at q;rw[e1] at l1;rw[e2] at l2;have q2:HT.lexLt (kis.getD (bF (bK kis) as.length)[j] []) (kis.getD (bF (bK kis) as.length)[i] [])=false:=q;have g:∀ k,k<as.length->kis.getD k []=f (as.getD k d):=λk dB=>by subst hk;simp[acU,dB]
 simp only[Array.getElem_toList];rw[g _ l1,g _ l2] at q2;exact q2
theorem GZ{xs:List V}{vs:List acY}{kis:List (List Int)}(r:Vals xs vs):Vals (br kis .non xs) ((bF (bK kis) xs.length).toList.map λi=>vs.getD i Value.none):=by
 have hp:=(kX (n:=xs.length) (iN kis)).1;have gen:∀ l:List Nat,(∀ i∈l,i<xs.length)->Vals (l.map λi=>xs.getD i .non) (l.map λi=>vs.getD i Value.none):=by
  intro l
  induction l with
  | nil=>intro _;exact .nil
  | cons i l ih =>
   intro h;have hi:=h i (.head _);refine .cons ?_ (ih λj hj=>h j (.tail _ hj));have e:xs[i]?=some xs[i]:=acW hi;obtain⟨u,eu,ru⟩:=r.get e;show RelV (xs.getD i .non) (vs.getD i Value.none);rw[acU,acU,eu,e];exact ru
 exact gen _ λi hi=>by simpa using hp.mem_iff.mp hi
variable{X:Cx}{pins:List (ac6 × Obj)}{σ:L2.St}{H:Hp}{s:acZ}{CX:el}{k:Nat}{fa a:ac6}{fd:afu}{y:Str}{sp:Sp}{xs:List V}{Q:VK}
theorem G0{A':adQ}{E:acY->acZ->Prop}{kS:ac6}{body:acY->PUnit->Sem (ForInStep PUnit)}{Qk:List V->Hp->Prop}{pl:List (ac6 × Obj)}
 (F:aJ X.prog X.w X.K X.mg X.base CX k fa fd [y] sp) (kQ:∀ outer H s e s',¬ CX outer H s E0 e s') (hr:bO k A') (hA:A'.frames=X.A.frames) (hb:Binds X.K fd [y] [])
 (k1:kS≠X.env.locals) (k2:kS∉X.fs) (k3:kS∈X.ex∨X.s₀.heap.objs.size<=kS) (k4:∀ x c,X.env.cells.lookup x=some c->c≠kS) (k5:∀ p∈X.pn++pl,p.1≠kS)
 (kM:∀ (u:acY) (s:acZ) (kvs:List acY) (c:Nat) (C:acY->acZ->Prop),kvs.length<64->adg (model X.prog X.w) A' (call (.ref fa) [u]) (λv s'=>s'.heap.get? kS=some { cls:=.type "list",data:=.seq kvs.toArray c }/\C v { s' with heap:=s'.heap.update kS (adF (·.push v)) }) (λ_ _=>False) s ->
   adg (model X.prog X.w) A' (body u ⟨⟩) (λr s'=>r = .yield ⟨⟩/\∃ v,C v s') E s) :
 ∀ (r ks:List V) (G1 kvs:List acY) (c:Nat) (H:Hp) (s:acZ),ks.length+r.length<64->Inv X (pl++[(kS,{ cls:=.type "list",data:=.seq kvs.toArray c })]) σ H s->Vals ks kvs->Vals r G1->mJ sp r ks H Qk ->
  adg (model X.prog X.w) A' (forIn G1 PUnit.unit body) (λ_ s'=>∃ jq kZ H' c',Inv X (pl++[(kS,{ cls:=.type "list",data:=.seq (kZ:List acY).toArray c' })]) σ H' s'/\Vals jq kZ/\jq.length=ks.length+r.length/\Qk jq H') E s
 | [],ks,_,kvs,c,H,s,hl,I,rk,.nil,h=>by rw[ahO];exact acX ⟨ks,kvs,H,c,I,rk,by simp,h⟩
 | x::r,ks,_,kvs,c,H,s,hl,I,rk,.cons (b:=u) rx rr,h=>by
  rw[ad9] at hl;rw[aiZ];have jU:=rk.length;have h':sp [x] H (λk H1=>mJ sp r (ks++[k]) H1 Qk) E0:=h;have e0:kK X.prog X.w X.K X.mg X.base A' X.stack s H:=⟨hA.trans I.jh.frames,I.jh.mod,I.jh.bs,I.jh.bsz,I.jh.gn,I.jh.frf,I.jh.aj,I.jh.bare⟩
  refine acR (adJ (kM u s kvs c (λv s'=>∃ z H' c',Inv X (pl++[(kS,{ cls:=.type "list",data:=.seq (kvs++[v]).toArray c' })]) σ H' s'/\RelV z v/\mJ sp r (ks++[z]) H' Qk) (by walk_at "om") ?_) (λq s' hq=>?_) λ_ _ z=>z)
  .refine aji (agC (F.run A' X.stack s H ⟨[u],[]⟩ [u] [x] _ E0 hr e0 (hb s [u] I.cv rfl) (.cons rx .nil) h') λres s' hq=>?_);cases res with
   | error e=>exact absurd hq (kQ _ _ _ _ _)
   | ok fl =>
    cases fl with
    | ret v =>
     obtain⟨z,H',I',rz,qz⟩:=I.after hq;have pk:=I'.pin (kS,{ cls:=.type "list",data:=.seq kvs.toArray c }) (ac1 _ (ac1 _ (ady.mpr rfl)));obtain⟨c2,o2⟩:∃ c2,(s'.heap.update kS (adF (·.push v))).get? kS=some { cls:=.type "list",data:=.seq (kvs++[v]).toArray c2 }:=⟨_,by rw[<- agW];exact agv pk.1 (λa=>a.push v)⟩
     have I2:Inv X pl σ H' { s' with heap:=s'.heap.update kS (adF (·.push v)) }:=I'.mr.turned (it:=kS) (λb o hb e=>(ac2 _ _ (adP hb)).trans e) pk.2.1 k1 k3 k4 k5;refine⟨pk.1,z,H',c2,I2.iA λp hp=>?_,rz,qz⟩;rcases adm.mp hp with hp|hp
     .exact I2.pin p (ac1 _ hp)
     .have:p=_:=ady.mp hp;subst this;exact⟨o2,pk.2.1,k1,k2,λv z=>nomatch z⟩
    | next=>exact hq.elim
    | brk=>exact hq.elim
    | cont=>exact hq.elim
  .obtain⟨rfl,v,z,H',c',I2,rz,qz⟩:=hq;show adg _ _ (forIn _ PUnit.unit body) _ _ s';refine adJ (G0 F kQ hr hA hb k1 k2 k3 k4 k5 kM r (ks++[z]) _ (kvs++[v]) c' H' s' (by rw[adj,adh];walk_at "om") I2 (rk.append (.cons rz .nil)) rr qz) (λ_ s3 ⟨jq,kZ,H3,c3,I3,r3,l3,q3⟩=>⟨jq,kZ,H3,c3,I3,r3,?_,q3⟩) λ_ _ z=>z;rw[l3,adj,adh,ad9];walk_at "om"
theorem Q9(I:Inv X pins σ H s)(hS:ah X.K H a xs)(bH:xs.length<64)(F:aJ X.prog X.w X.K X.mg X.base CX k fa fd [y] sp)(kQ:∀ outer H s e s',¬ CX outer H s E0 e s')(hr:bO (k+2) X.A)(hb:Binds X.K fd [y] [])
 (h:mJ sp xs [] H λks H2=>∃ kis,bY X.K H2 ks kis/\∀ l,H2 l=none->Q (.ref l) (upd H2 l (.lst (br kis .non xs)))) :
 adg (model X.prog X.w) X.A (call (.builtin "sorted") [.ref a] [(aeQ "key",.ref fa)]) (EP X pins σ Q) X.xe s:=by
 obtain⟨af,rv,⟨o,n,ho,bc,hdc,hdt⟩,hlen⟩:=I.list hS;have hl:s.heap.IsList a af.toArray:=⟨o,ho,bc,n,hdt⟩
 have len:af.length=xs.length:=rv.length.symm;refine call_function_entry_kw akQ akk akl (ksk_s1 _ _) ?_;unfold afH.«sorted»;refine acR (m:=alb "sorted" 1 1 _) (acX ?_);refine acR (collect_list hl ?_ (by rw[aen];walk_at "om"));refine acR (agJ ?_ (by rw[aen];walk_at "om"));have G2:((s.heap.push (ad2 "list" #[] 0)).update s.heap.objs.size (adF (· ++ af.toArray))).objs.size=s.heap.objs.size+1:=by rw[air,ad0]
 have G3:∀ b o,s.heap.get? b=some o->((s.heap.push (ad2 "list" #[] 0)).update s.heap.objs.size (adF (· ++ af.toArray))).get? b=some o:=λb o e=>by have:=ac0 e;exact (ac2 _ _ (by walk_at "om")).trans (acT _ e)
 generalize ((s.heap.push (ad2 "list" #[] 0)).update s.heap.objs.size (adF (· ++ af.toArray)))=h0 at G2 G3 ⊢;have oL:(h0.push (ad2 "list" af.toArray 0)).get? h0.objs.size=some (ad2 "list" af.toArray 0):=ac3 _ rfl;have eY:∀ b o,s.heap.get? b=some o->b≠h0.objs.size/\(h0.push (ad2 "list" af.toArray 0)).get? b=some o:=λb o e=>by have:=ac0 e;exact⟨by walk_at "om",acT _ (G3 b o e)⟩
 have wW:(h0.push (ad2 "list" af.toArray 0)).objs.size=s.heap.objs.size+2:=by rw[ad0,G2]
 have hle:s.heap.objs.size<=h0.objs.size:=by walk_at "om"
 show adg _ X.A.in1 (holding [.ref h0.objs.size] (call (.builtin "list.sort") [.ref h0.objs.size] [(aeQ "key",.ref fa)]) >>= _) _ _ { s with heap:=h0.push (ad2 "list" af.toArray 0) };generalize h0.push (ad2 "list" af.toArray 0)=h1 at oL eY wW ⊢;generalize h0.objs.size=l at oL eY wW hle ⊢;refine acR (adZ (wpAny_call_entry_kw ajv ⟨_,oL,rfl⟩ ai0 ?body (ksk_l1 _ _)))
 case body =>
  show adg (model X.prog X.w) X.A.in1.in1 (afH.«list.sort» ⟨[.ref l],[(aeQ "key",.ref fa)]⟩) _ _ _;rw[ksk_t1];unfold ksk_tree;refine acR (ai1 oL rfl ?_);refine acR (ae9 oL rfl ?_ (by rw[ada,aen];walk_at "om") (adw _));obtain⟨e1,sV⟩:∃ e1,(h1.update l (adF λ_=>(#[]:Array acY))).get? l=some (ad2 "list" #[] e1):=⟨_,afZ oL λ_=>#[]⟩
  refine acR (agA sV rfl ?_);have jV:∀ b o,s.heap.get? b=some o->b≠l/\(h1.update l (adF λ_=>(#[]:Array acY))).get? b=some o:=λb o e=>⟨(eY b o e).1,(ac2 _ _ (adP (eY b o e).1)).trans (eY b o e).2⟩
  have wX:(h1.update l (adF λ_=>(#[]:Array acY))).objs.size=s.heap.objs.size+2:=by rw[air,wW]
  show adg _ _ _ _ _ { s with heap:=h1.update l (adF λ_=>(#[]:Array acY)) };generalize h1.update l (adF λ_=>(#[]:Array acY))=h2 at sV jV wX ⊢;refine acR (ag3 ?_ (by show af.length<=_;rw[aen];walk_at "om"));refine acR (agJ ?_ (adw _));refine adZ ?_;show adg _ _ (ksk_rest l (.ref fa) false af.toArray e1 (.ref (h2.push (ad2 "tuple" af.toArray 0)).objs.size)) _ _ { s with heap:=(h2.push (ad2 "tuple" af.toArray 0)).push (ad2 "list" #[] 0) };have wY:∀ b o,h2.get? b=some o->((h2.push (ad2 "tuple" af.toArray 0)).push (ad2 "list" #[] 0)).get? b=some o:=λb o e=>acT _ (acT _ e);have oK:((h2.push (ad2 "tuple" af.toArray 0)).push (ad2 "list" #[] 0)).get? (h2.push (ad2 "tuple" af.toArray 0)).objs.size=some (ad2 "list" #[] 0):=ac3 _ rfl;have Ra:(h2.push (ad2 "tuple" af.toArray 0)).objs.size=s.heap.objs.size+3:=by rw[ad0,wX]
  generalize (h2.push (ad2 "tuple" af.toArray 0)).push (ad2 "list" #[] 0)=h4 at wY oK ⊢;generalize (h2.push (ad2 "tuple" af.toArray 0)).objs.size=kS at Ra oK ⊢;have lL:l<s.heap.objs.size+2:=by rw[<- wX];exact ac0 sV
  have I4:Inv X pins σ H { s with heap:=h4 }:=I.kept (t':=s.toks) λb o e=>wY b o (jV b o e).2;have fl:=I.d9 (H':=H) hle (I.aj.fresh hle);have fk:=I.d9 (b:=kS) (H':=H) (by walk_at "om") (I.aj.fresh (by walk_at "om"));have G4:l≠kS:=by walk_at "om"
  have Rb:X.s₀.heap.objs.size<=l:=adb I.sz hle;have I5:Inv X ((pins++[(l,ad2 "list" #[] e1)])++[(kS,{ cls:=.type "list",data:=.seq ([]:List acY).toArray 0 })]) σ H { s with heap:=h4 }:=I4.iA λp hp=>by
   rcases adm.mp hp with hp|hp
   .rcases adm.mp hp with hp|hp
    .exact I4.pin p (ac1 _ hp)
    .have:p=_:=ady.mp hp;subst this;exact⟨wY _ _ sV,fl.1,fl.2.1,fl.2.2.1,λv z=>nomatch z⟩
   .have:p=_:=ady.mp hp;subst this;exact⟨oK,fk.1,fk.2.1,fk.2.2.1,λv z=>nomatch z⟩
  unfold ksk_rest;refine acR (agD ?_);rw[<- Array.forIn_toList];refine acR (adJ (G0 (A':=X.A.in1.in1) (kS:=kS) (pl:=pins++[(l,ad2 "list" #[] e1)]) F kQ (hr.in1.in1) rfl hb fk.2.1 fk.2.2.1 fk.2.2.2.1 fk.2.2.2.2.1 (λp hp=>?_) (λu s' kvs c C hz hx=>?_) xs [] af [] 0 H _ (by simpa using bH) I5 .nil rv h) (λ_ s6 h6=>?_) λ_ _ z=>z)
  .rw[<- afc] at hp;rcases adm.mp hp with hp|hp
   .exact fk.2.2.2.2.2 p hp
   .have:p=_:=ady.mp hp;subst this;exact G4
  .refine acR (afw (adJ hx (λv s2 hv=>?_) λ_ _ z=>z.elim));dsimp only;refine acR (ae9 hv.1 rfl ?_ (by rw[ada,aen];walk_at "om") (adb (akh (akR ..)) (by rw[ada,aen];walk_at "om")));exact acX ⟨rfl,v,hv.2⟩
  .obtain⟨ks,kvs,H6,c6,I6,r6,l6,kis,hK,q6⟩:=h6;have lk:kvs.length=af.length:=by rw[<- r6.length,l6];simp[len]
   have lkk:kis.length=xs.length:=by rw[<- hK.len,l6];simp
   have pk:=I6.pin (kS,{ cls:=.type "list",data:=.seq kvs.toArray c6 }) (ac1 _ (ac1 _ (ady.mpr rfl)));have pl:=I6.pin (l,ad2 "list" #[] e1) (ac1 _ (adD _ (ac1 _ (ady.mpr rfl))));refine acR (ai1 pk.1 rfl ?_);have tail:∀ (st:SortSt) (out:List acY),(alT st).map (·.2)=aeh out->akC st=none->Vals (br kis .non xs) out ->
    adg (model X.prog X.w) X.A.in1.in1 (ksk_tail l false e1 (.ref kS) st) (λfin s'=>∃ v,fin = .done (.ret v)/\EP X pins σ Q (.ref l) s') (λe s'=>X.xe e s') s6:=λst out e0 ef hv=>by
    have lo:out.length=xs.length:=by rw[<- hv.length,n6]
    unfold ksk_tail;dsimp only;rw[e0];refine acR (ae9 pk.1 rfl ?_ (by rw[ada,aen];walk_at "om") (adw _));refine acR (aeD ?_);have wZ:(s6.heap.update kS (adF λ_=>(#[]:Array acY))).get? l=some (ad2 "list" #[] e1):=(ac2 _ _ (adP G4)).trans pl.1;refine acR (agA wZ rfl ?_);refine acR (ae9 wZ rfl ?_ (adw _) (by show (aeh out).size<=_;rw[ada,aen];walk_at "om"));rw[ef];simp only[bne_self_eq_false,adk,if_false];refine acX ⟨_,rfl,.ref l,upd H6 l (.lst (br kis .non xs)),?_,rfl,q6 l pl.2.1⟩;have I7:Inv X pins σ H6 { s6 with heap:=s6.heap.update kS (adF λ_=>(#[]:Array acY)) }:=(I6.mr.mr).turned (it:=kS) (λb o hb e=>(ac2 _ _ (adP hb)).trans e) pk.2.1 fk.2.1 fk.2.2.2.1 fk.2.2.2.2.1 fk.2.2.2.2.2;have I8:Inv X pins σ H6 { s6 with heap:=(s6.heap.update kS (adF λ_=>(#[]:Array acY))).update l (adF λ_=>aeh out) }:=L2.Inv.turned (s:={ s6 with heap:=s6.heap.update kS (adF λ_=>(#[]:Array acY)) }) (t':=s6.toks) (it:=l) I7 (λb o hb e=>(ac2 _ _ (adP hb)).trans e) pl.2.1 fl.2.1 fl.2.2.2.1 fl.2.2.2.2.1 fl.2.2.2.2.2;obtain⟨c9,Rc⟩:∃ c9,((s6.heap.update kS (adF λ_=>(#[]:Array acY))).update l (adF λ_=>aeh out)).get? l=some (ad2 "list" (aeh out) c9):=⟨_,afZ wZ λ_=>aeh out⟩
    exact Inv.Q5 I8 ⟨pl.2.1,fl.2⟩ Rb Rc hv (by rw[n6];exact hlen)
   unfold ksk_end;dsimp only;have fin:∀ (st:SortSt) (out:List acY),(alT st).map (·.2)=aeh out->akC st=none->Vals (br kis .non xs) out ->
    adg (model X.prog X.w) X.A.in1.in1 (ksk_tail l false e1 (.ref kS) st) (λfin s'=>∃ v,fin=PySem.Fin.done (Flow.ret v)/\adg (model X.prog X.w) X.A.in1 (ret (.ref l)) (λfin s'=>∃ v,fin=PySem.Fin.done (Flow.ret v)/\EP X pins σ Q v s') X.xe s') X.xe s6:=λst out e0 ef hv =>
    aA (tail st out e0 ef hv) λfin s' ⟨v,e,q⟩=>⟨v,e,acX ⟨_,rfl,q⟩⟩
   have sv:=GZ (kis:=kis) rv;by_cases h2:af.toArray.size<2
   .rw[if_neg (by decide),if_pos h2,if_pos h2];refine acR (acX ?_);rw[StateT.run_pure];refine acR (acX ?_);dsimp only;have ba:xs.length<2:=by rw[ada] at h2;walk_at "om"
    refine fin _ _ ?_ rfl sv;show (if false=true then (kvs.toArray.zip af.toArray).reverse else kvs.toArray.zip af.toArray).map (·.2)=_;rw[if_neg (by decide)];unfold bF;rw[if_pos ba];apply ais.mp;have self:(adx xs.length).map (λi=>af.getD i Value.none)=af:=by
     rw[<- len];apply ahj
     .simp
     .intro i h1 h2;simp[acU,h2]
    simp[ait,lk];simpa [acU] using self.symm
   .rw[if_neg (by decide),if_neg h2,if_neg h2,if_neg (by decide)];have mI:2<=af.length:=by rw[ada] at h2;walk_at "om"
    obtain⟨fs,ht,lf,hi⟩:=bY.dv I6 hK r6;have eT:(af6 "int" != af6 "tuple")=true:=by decide
    refine acR (aks (T:=.type "int") ht (by walk_at "om") (λv hv=>?_) (by decide) ?_)
    .obtain⟨i,t,rfl⟩:=hi v hv;exact ah6
    rw[eT];have ask:(aiu af.length).kasWp (ai2 X.prog X.w X.A.in1.in1 (akS true) kvs) (λp s'=>s'=s6/\p=bF (bK kis) xs.length) s6:=by
     rw[len];have pv:=sT _ (sR (n:=xs.length) (iN kis) (by walk_at "om"));refine sP (lt:=bK kis) (n:=xs.length) (Ok:=λs'=>s'=s6) (λi j C s' hi hj e q=>?_) (λp s' e q=>⟨e,?_⟩) _ s6 rfl pv
     .subst e;have g:∀ i,i<xs.length->∃ p o its' m,kvs.getD i Value.none = .ref p/\s'.heap.get? p=some o/\o.data = .seq (its':List acY).toArray m/\ahN its' (kis.getD i []):=λi hi=>by
       have hk:i<ks.length:=by rw[l6];simpa using hi
       obtain⟨p,ep,hp⟩:=hK.get (acW hk);obtain⟨u,eu,ru⟩:=r6.get (acW hk);rw[ep] at ru;cases ru;obtain⟨its',qd,⟨o,ho,_,m,hd⟩,_⟩:=I6.tuple hp;exact⟨p,o,its',m,by rw[acU,eu];rfl,ho,hd,intsAre_of qd⟩
      obtain⟨p1,o1,i1,m1,a1,b1,c1,d1⟩:=g i hi;obtain⟨p2,o2,i2,m2,a2,b2,c2,d2⟩:=g j hj;show adg _ _ (keyLt' (akS true) (kvs.getD i Value.none) (kvs.getD j Value.none)) C _ s';rw[a1,a2];have z1:=d1.length;have z2:=d2.length;exact ak6 b1 c1 b2 c2 (by simpa using GY (b:=true) (i:=0) d1 d2 (by simp[z1,z2]) (q s' rfl))
     .rw[q];unfold bF;rw[if_neg (by walk_at "om")]
    refine acR (adJ (ai3 (κ:=akS true) (ks:=kvs) (vs:=af) (Q:=λst s'=>s'=s6/\alT st=(bF (bK kis) xs.length).map (aiv (kvs.toArray.zip af.toArray))/\akC st=none)
     lk mI (by walk_at "om") (λp st s' b1 b2 b3 b4=>⟨b4.1,by rw[b2,b4.2],b3⟩) ask) ?_ λ_ _ z=>z)
    rintro ⟨⟨⟩,st⟩ s' ⟨rfl,har,hf⟩;exact fin st _ (aiw lk har) hf sv
noncomputable def G5(K:acS)(sp:Sp)(x:V)(H1:Hp)(Q:VK):Prop:=∃ (a:ac6) (xs:List V),x = .ref a/\ah K H1 a xs/\xs.length<64/\mJ sp xs [] H1 λks H2=>∃ kis,bY K H2 ks kis/\∀ l,H2 l=none->Q (.ref l) (upd H2 l (.lst (br kis .non xs)))
noncomputable def G6(K:acS)(sp:Sp)(te:TE):TE:=λσ H Q=>te σ H λx H1=>G5 K sp x H1 Q
theorem Rf{e:aeY}{te:TE}{f:Str}{p pf pos kp:Pos}(F:aJ X.prog X.w X.K X.mg X.base CX k fa fd [y] sp)(kQ:∀ outer H s e s',¬ CX outer H s E0 e s')(hr:bO (k+2) X.A)(hb:Binds X.K fd [y] [])(Rg:Gl X f)(Rh:X.mg f=some (.ref fa))
 (hg:Gl X "sorted") (hm:X.mg "sorted" = none) (he:PE X e te) (xa:(f == ("__debug__" : Str))=false:=by decide)
 (hs:adC [e] X.env=(false,eval e X.env)::adC [] X.env:=by rfl) (hq:afE pos (adC [e] X.env)=(false,eval e X.env)::afE pos (adC [] X.env):=by rfl) :
 PE X (.Call (.Name "sorted" p) [e] [⟨some "key",.Name f pf,kp⟩] pos) (G6 X.K sp te):=by
 intro pins s σ H Q I h;refine aeJ (eQ I hg hm sO ?_ (by decide));refine akO (aA ((ae he ai hs) pos pins s σ H (sU λx H1=>G5 X.K sp x H1 Q) I h) λus s1 ⟨vs,H1,I1,r,q⟩=>?_) hq (by rw[hs];rfl);obtain⟨x,rfl,a,xs,rfl,hS,bH,q⟩:=wQ q;obtain⟨u,rfl,ru⟩:=vals1 r;cases ru;refine kws_cons (pO I1 Rg Rh (kws_nil ?_) xa);exact Q9 I1 hS bH F kQ hr hb q
end
local macro_rules | `(tactic| walk_at "om") => `(tactic| ((try simp only [PySem.Addr] at *); lia))
inductive jr(X:Cx)(scope:ahg)(cl:List (Str × ac6)):List Nat->List Str->Prop where
 | nil:jr X scope cl [] []
 | cons {j:Nat} {y:Str} {c:ac6} {js:List Nat} {ys:List Str} (hN:X.N[j]?=some y) (hk:X.env.kindOf y=some .cell) (h1:cl.lookup y=some c) (h2:X.env.cells.lookup y=some c) (h:jr X scope cl js ys):jr X scope cl (j::js) (y::ys)
inductive k6(X:Cx):List (Str × ac6)->Prop where
 | nil:k6 X []
 | cons {n:Str} {a:ac6} {r:List (Str × ac6)} (h:X.env.cells.lookup n=some a) (t:k6 X r):k6 X ((n,a)::r)
theorem k6.get{X:Cx}:∀ {cl:List (Str × ac6)},k6 X cl->∀ y c,cl.lookup y=some c->X.env.cells.lookup y=some c
 | _,.nil,y,c,e=>by simp at e
 | _,.cons (n:=n) h t,y,c,e=>by
  rw[aeV] at e;by_cases hy:(y == n)=true
  .rw[hy] at e;have e1:y=n:=by simpa using hy
   cases e;rw[e1];exact h
  .rw[agX.mpr hy] at e;exact t.get y c e
theorem jr.get{X:Cx}{scope:ahg}{cl:List (Str × ac6)}{σ:L2.St}:∀ {js:List Nat} {ys:List Str},jr X scope cl js ys->∀ (i:Nat) (y:Str) (v:V),ys[i]?=some y->(js.map λj=>(σ[j]?).join)[i]?=some (some v) ->
 ∃ (j:Nat) (c:ac6),X.N[j]?=some y/\σ[j]?=some (some v)/\X.env.kindOf y=some .cell/\cl.lookup y=some c/\X.env.cells.lookup y=some c
 | _,_,.nil,i,y,v,e,_=>by simp at e
 | _,_,.cons (j:=j) hN hk h1 h2 h,0,y,v,e,q=>by
  simp at e q;subst e;refine⟨j,_,hN,?_,hk,h1,h2⟩;cases z:σ[j]? with
  | none=>rw[z] at q;simp at q
  | some o=>rw[z] at q;simp at q;rw[q]
 | _,_,.cons hN hk h1 h2 h,i+1,y,v,e,q=>by simp only[afa,adq] at e q;exact h.get i y v e q
theorem jr.len{X:Cx}{scope:ahg}{cl:List (Str × ac6)}:∀ {js:List Nat} {ys:List Str},jr X scope cl js ys->js.length=ys.length
 | _,_,.nil=>rfl
 | _,_,.cons _ _ _ _ h=>by simp[h.len]
noncomputable def bL(X:Cx)(N':List Str)(scope:ahg)(cl:List (Str × ac6))(C:ac6)(s2:acZ)(H2:Hp)(ex:List ac6)(pn:List (ac6 × Obj)):Cx :=
 { X with N:=N',s₀:=s2,H₀:=H2,env:=afD scope cl C X.env,outer:=X.stack,ex:=ex,fn:=λ_=>false,pn:=pn,xe:=λ_ _=>False }
structure b7(X:Cx)(x:Str)(scope:ahg)(cl:List (Str × ac6))(fr:List Nat)(ys:List Str):Prop where
 clos:alc scope X.env=pure cl
 nocell:(scope.names.all λp=>p.2 != .cell)=true
 kind:scope.kind = .function
 names:(scope.names.all λp=>p.2 != .local || scope.names.lookup p.1 == some .local)=true
 own:scope.names.lookup x=some .local
 kinds:((relabel scope X.env).names.all λp=>(p.2 != .cell && p.2 != .free) || (cl.lookup p.1).isSome)=true
 cls:k6 X cl
 aY:jr X scope cl fr ys
 nd:(x::ys).Nodup
 kfr:(ys.all λy=>(relabel scope X.env).names.lookup y == some .cell)=true
noncomputable def jW(X:Cx)(ifs:List aeY)(t:TT):Prop :=
 ∀ (pins:List (ac6 × Obj)) (s:acZ) (σ:L2.St) (H:Hp) (Q:Bool->Hp->Prop),Inv X pins σ H s->t σ H Q ->
  adg (model X.prog X.w) X.A (forIn ifs true λc r=>if r=true then do let ok <- akF c X.env (eval c X.env);pure (afi ok) else pure (afi r)) (TP X pins σ Q) X.xe s
noncomputable def sW:TT:=λ_ H Q=>Q true H
theorem dC{X:Cx}:jW X [] sW:=λ_ _ _ H _ I h=>wpAny_tests_nil ⟨H,I,h⟩
theorem iO{X:Cx}{c:aeY}{t:TT}(hc:PT X c t):jW X [c] t:=λpins s σ H Q I h=>wpAny_tests_one (hc pins s σ H Q I h)
noncomputable def n9(J:It)(ρ:L2.St)(tt:TT)(te:TE)(H:Hp)(Q:VK):Prop:=∃ W:Nat->Nat->List V->Hp->Prop,(∃ m,W 0 m [] H)/\∀ i m ys H,W i m ys H ->
 (J.stop i H/\ys.length<=adz/\∀ l,H l=none->Q (.ref l) (upd H l (.lst ys)))∨(J.go i H/\ys.length<adz/\∃ N:List V->Hp->Prop,(∀ zs H',N zs H'->∃ m',m'<m/\W (i+1) m' zs H') /\
  ∀ x H',J.yld i H x H'->tt (some x::ρ) H' λb H1=>if b=true then te (some x::ρ) H1 λy H2=>N (ys++[y]) H2 else N ys H1)
noncomputable def sX(wi:TI)(fr:List Nat)(tt:TT)(te:TE):TE:=λσ H Q=>wi σ H λJ H1=>n9 J (fr.map λj=>(σ[j]?).join) tt te H1 Q
section
variable{X:Cx}{pins:List (ac6 × Obj)}{σ:L2.St}{H2:Hp}{s2:acZ}{x:Str}{px pos:Pos}{elt iter:aeY}{ifs:List aeY}{scope:ahg}{cl:List (Str × ac6)}{fr:List Nat}{ys:List Str}{tt:TT}{te:TE}
theorem og{l:List (Str × aih)}{p:Str × aih->Bool}(h:l.all p=true){y:Str}{k:aih}(e:l.lookup y=some k):p (y,k)=true:=by exact ad1.mp h _ (afg e)
theorem Ri{C:ac6}{ex:List ac6}{pn:List (ac6 × Obj)}(S:b7 X x scope cl fr ys)(I2:Inv X pins σ H2 s2)(f2:∀ b∈ex,cw X pins H2 b)(hC:s2.heap.objs.size<=C)(hex:∀ b∈ex,b<s2.heap.objs.size):(bL X (x::ys) scope cl C s2 H2 ex pn).Ok:=by
 refine⟨I2.ok.mod,S.kind,I2.ok.glob,I2.ok.blt,hC,λa b c h1 h2=>?_,λy hy=>?_,λ_ _ z=>(nomatch z),I2.ok.hd,I2.ok.frames,.inl rfl,λb hb=>⟨?_,λy c e z=>?_⟩,I2.bs,adb I2.ok.bsz I2.sz,λb o e hb=>?_,λb hb z=>?_,I2.stack,I2.nJ⟩
 .exact I2.ok.inj a b c (S.cls.get a c h1) (S.cls.get b c h2)
 .have qe:(relabel scope X.env).names.lookup y=some .cell∨(relabel scope X.env).names.lookup y=some .free:=hy;have q:(cl.lookup y).isSome=true:=by
   rcases qe with e|e
   .simpa using og S.kinds e
   .simpa using og S.kinds e
  exact ae3.mp q
 .exact adp (adn (hex b hb) hC)
 .exact (f2 b hb).2.2.2.2.1 y c (S.cls.get y c e) z
 .obtain⟨_,_,_,d,_,_⟩:=f2 b hb;rcases d with d|d
  .exact I2.ok.noex b o e d
  .exact absurd (adn (ac0 e) (adb I2.ok.bsz d)) (aeN _)
 .obtain⟨_,d1,d2,_⟩:=f2 b hb;rcases ac9.mp (I2.fN b z) with q|q
  .exact d1 q
  .exact d2 q
theorem G7{J:It}{fp:List ac6}{it:ac6}{tn:Nat->aeA->Prop}{E:acY->acZ->Prop}{Q:VK}{RR:acY->ac6->ahG->acZ->Prop}
 (S:b7 X x scope cl fr ys) (hc:X.calm=true)
 (hb:∀ (C:ac6) (s:acZ) (H:Hp) (ex:List ac6) (pn:List (ac6 × Obj)),jW (bL X (x::ys) scope cl C s H ex pn) ifs tt/\PE (bL X (x::ys) scope cl C s H ex pn) elt te)
 (I2:Inv X pins σ H2 s2) (T:Turn X.prog X.w X.K (.Name x px) J fp it tn) (df:tn 0 s2.heap) (f2:∀ b∈fp,cw X pins H2 b)
 (h:n9 J (fr.map λj=>(σ[j]?).join) tt te H2 Q)
 (qf:∀ D C s' H',Inv X pins σ H' s'->(∃ m,s'.heap.Ns C m)->cw X pins H' C->Q (.ref D) H'->RR (.ref D) C (.ok .next) s') :
 adg (model X.prog X.w) X.A (akT []) (λacc s3=>adg (model X.prog X.w) X.A (ag4 scope X.env.globals cl [] X.env.qual none .none (some X.env)) (λk8 s4 =>
  afG (model X.prog X.w) X.A (.compStart (.ListComp elt [⟨.Name x px,iter,ifs,0⟩] scope pos) 0 (.ref it) acc { k8 with scope:=relabel scope X.env }) (RR acc k8.locals) s4) E s3) E s2:=by
 obtain⟨W,⟨m0,w0⟩,turn⟩:=h;refine ad8 (ajp (λy hy=>by simpa using ad1.mp S.nocell y hy) (λy hy=>absurd hy (by simp)) (λh1 fB eZ=>?_) S.kind);dsimp only at fB eZ ⊢;generalize eP:s2.heap.push { cls:=.type "list",dict:=none,data:=.seq ([]:List acY).toArray }=P2 at fB eZ ⊢;have sz:P2.objs.size=s2.heap.objs.size+1:=by rw[<- eP,ad0]
 have dD:s2.heap.objs.size≠P2.objs.size:=by walk_at "om"
 have keep:∀ b o,s2.heap.get? b=some o->h1.get? b=some o:=λb o e=>by have lt:=ac0 e;exact eZ.extBut b o (by walk_at "om") (acT _ (eP ▸ acT _ e))
 have hD:h1.get? s2.heap.objs.size=some { cls:=.type "list",data:=.seq ([]:List acY).toArray 0 } :=
  eZ.extBut _ _ dD (acT _ (eP ▸ ac3 _ rfl))
 have dj:∀ b∈fp,b<s2.heap.objs.size:=λb hb=>by obtain⟨o,e,_⟩:=T.obj 0 _ df b hb;exact ac0 e
 have k9:∀ b,s2.heap.objs.size<=b->b∉aY X.stack:=λb hle z=>by
  rcases ac9.mp (I2.fN b z) with q|q
  .have:=I2.lt;walk_at "om"
  .exact I2.sf hle q
 generalize eC:P2.objs.size=C at fB eZ dD ⊢;generalize eD:s2.heap.objs.size=D at dD hD dj k9;have iP:s2.heap.objs.size<=C:=by walk_at "om"
 have lb:s2.heap.objs.size<=D:=by walk_at "om"
 have qg:(bL X (x::ys) scope cl C s2 H2 fp (X.pn++pins)).Ok:=Ri S I2 f2 iP (λb hb=>by have:=dj b hb;walk_at "om");have lg:∀ p∈X.pn++pins,p.1≠C/\p.1≠D/\p.1∉aY X.stack/\∀ b∈fp,p.1≠b:=λp hp=>by
  obtain⟨e,n,nL,nf,_⟩:=I2.pin p hp;have lt:=ac0 e;refine⟨by walk_at "om",by walk_at "om",λz=>?_,λb hb=>(f2 b hb).2.2.2.2.2 p hp⟩;rcases ac9.mp (I2.fN _ z) with q|q
  .exact nL q
  .exact nf q
 have I4:Inv (bL X (x::ys) scope cl C s2 H2 fp (X.pn++pins)) [] (none::fr.map λj=>(σ[j]?).join) H2 { s2 with heap:=h1,toks:=s2.toks+([]:List (Str × acY)).length }:=by
  refine⟨qg,rfl,I2.bare,Un.kept keep,⟨_,fB,λi y v e1 e2 e3=>?_⟩,λy c e=>?_,I2.aj.fresh iP,λy c e=>I2.fM y c (S.cls.get y c e),λp hp=>?_,I2.aj.kept keep,?_⟩
  .cases i with
   | zero=>simp at e2
   | succ i =>
    simp only[afa] at e1 e2;have jX:ys[i]?=some y:=e1;obtain⟨j,c,hN,hσ,hk,mL,mM⟩:=S.aY.get i y v jX e2;obtain⟨m,hm,hl⟩:=I2.loc;obtain⟨u,ru,lu⟩:=hl j y v hN hσ (.inr (.inl hk));refine⟨u,ru,.inr ⟨.inl ?_,c,mL,?_⟩⟩
    .have z:=ad1.mp S.kfr y (adl jX);exact (by simpa using z:(relabel scope X.env).names.lookup y=some .cell)
    .rcases lu with ⟨z,_⟩|⟨_,c',e',q'⟩
     .rw[hk] at z;cases z
     .rw[mM] at e';cases e';obtain⟨o,ho,hd⟩:=q';exact⟨o,keep _ _ ho,hd⟩
  .obtain⟨v,o,ho,hd⟩:=I2.cell y c (S.cls.get y c e);exact⟨v,o,keep _ _ ho,hd⟩
  .have bV:p∈X.pn++pins:=by have:p∈(X.pn++pins)++[]:=hp;simpa using this
   obtain⟨e,n,_,_,d⟩:=I2.pin p bV;obtain⟨p1,_,p3,_⟩:=lg p bV;exact⟨keep _ _ e,n,p1,p3,d⟩
  .show (none::fr.map λj=>(σ[j]?).join).length=(x::ys).length;simp[S.aY.len]
 have lh:tn 0 h1:=T.keep 0 _ _ df λb _ o e=>keep b o e;have iQ:∀ (H':Hp) (o:Obj),(∀ b∈fp,H' b=none)->∀ b∈fp,cw (bL X (x::ys) scope cl C s2 H2 fp (X.pn++pins)) [(D,o)] H' b:=λH' o hn b hb=>by
  obtain⟨_,d1,d2,d3,d4,d5⟩:=f2 b hb;have lt:=dj b hb;refine⟨hn b hb,?_,λz=>?_,.inl hb,λy c e=>d4 y c (S.cls.get y c e),λp hp=>?_⟩
  .show b≠C;walk_at "om"
  .rcases ac9.mp (I2.fN b z) with q|q
   .exact d1 q
   .exact d2 q
  .have bV:p∈(X.pn++pins)++[(D,o)]:=hp;rcases adm.mp bV with z|z
   .exact d5 p z
   .have:p=(D,o):=by simpa using z
    subst this;show D≠b;walk_at "om"
 have loop:∀ s':acZ,s' = { s2 with heap:=h1,toks:=s2.toks+([]:List (Str × acY)).length } ->
  afG (model X.prog X.w) X.A (.compLoop (.ListComp elt [⟨.Name x px,iter,ifs,0⟩] scope pos) 0 (.ref it) (.ref D) (afD scope cl C X.env)) (RR (.ref D) C) s':=by
  rintro s' rfl;refine aiF (λn s'=>∃ i zs H' o af nn,Inv (bL X (x::ys) scope cl C s2 H2 fp (X.pn++pins)) [] (o::fr.map λj=>(σ[j]?).join) H' s'/\tn i s'.heap/\(∀ b∈fp,H' b=none)/\H' D=none /\
   s'.heap.get? D=some { cls:=.type "list",data:=.seq (af:List acY).toArray nn }/\Vals zs af/\W i n zs H') ?_ m0 ⟨0,[],H2,none,[],0,I4,lh,λb hb=>(f2 b hb).1,I2.aj.fresh lb,hD,.nil,w0⟩
  rintro n s3 ⟨i,zs,H3,o3,af,nn,I3,iD,iE,iR,qh,r3,w3⟩;have lj:Inv (bL X (x::ys) scope cl C s2 H2 fp (X.pn++pins)) [(D,{ cls:=.type "list",data:=.seq af.toArray nn })] (o3::fr.map λj=>(σ[j]?).join) H3 s3:=I3.iA λp hp=>by
   have:p=(D,{ cls:=.type "list",data:=.seq af.toArray nn }):=by simpa using hp
   subst this;exact⟨qh,iR,dD,k9 D (ac8 _),λv z=>nomatch z⟩
  rcases turn i n zs H3 w3 with ⟨stop,hlen,q⟩|⟨go,hlen,N,lq,step⟩
  .refine adJ (T.done (bL X (x::ys) scope cl C s2 H2 fp (X.pn++pins)) rfl rfl rfl hc i _ s3 _ H3 (λ_ _=>False) lj (iQ H3 _ iE) iD stop) (λr s4 ⟨hr,J4⟩=>?_) λ_ _ z=>z.elim;subst hr;have un:=J4.base;have qi:∀ b o,s2.heap.get? b=some o->b≠D:=λb o e=>by have:=ac0 e;walk_at "om"
   have cn:∀ b u,H3 b=some u->b≠D:=λb u e z=>by rw[z,iR] at e;cases e
   refine qf D C s4 (upd H3 D (.lst zs)) ?_ ?_ ?_ (q D iR)
   .refine I2.vT (ch:=fp) J4.os ⟨un.keep,un.slot,λb o e nn hx=>?_,un.there,λb xs e=>?_,λb o u e=>?_,λb ps e=>?_⟩ (λa o e=>?_) J4.bare λb hb=>?_
    .rw[aB (qi b o e)];exact un.free b o e nn hx
    .have:=un.dv b xs e;rw[aB (cn b _ this)];exact this
    .have:=un.dI b o u e;rw[aB (cn b _ this)];exact this
    .obtain⟨more,this⟩:=un.eO b ps e;exact⟨more,by rw[aB (cn b _ this)];exact this⟩
    .by_cases ha:a=D
     .subst ha;rw[ar] at e;cases e;exact⟨hlen,af,nn,r3,(J4.pin (a,_) (ac1 _ (ady.mpr rfl))).1⟩
     .rw[aB ha] at e;exact (J4.aj a o e).fq (λ_ _ _ z=>z) (λb z=>by rw[aB (cn b _ z)];exact z) λb xs z=>by rw[aB (cn b _ z)];exact z
    .obtain⟨_,d1,d2,d3,d4,d5⟩:=f2 b hb;exact⟨d3,d1,d4,d5⟩
   .obtain⟨m,hm,_⟩:=J4.loc;exact⟨m,hm⟩
   .exact I2.d9 iP (by rw[aB (adP dD)];exact J4.free)
  .refine adJ (T.item (bL X (x::ys) scope cl C s2 H2 fp (X.pn++pins)) rfl rfl rfl hc i _ s3 _ H3 (λ_ _=>False) lj (iQ H3 _ iE) iD go) (λr s4 ⟨u,hr,h4⟩=>?_) λ_ _ z=>z.elim;subst hr;have go':adg (model X.prog X.w) X.A (afe (.Name x px) (.ref it) u >>= λ_=>assign (.Name x px) (afD scope cl C X.env) u) (λ_ s5 =>
    adg (model X.prog X.w) X.A (forIn ifs true λc r=>if r=true then do let ok <- akF c (afD scope cl C X.env) (eval c (afD scope cl C X.env));pure (afi ok) else pure (afi r)) (λok s6 =>
     if ok=true then adg (model X.prog X.w) X.A (eval elt (afD scope cl C X.env)) (λy s7 =>
      adg (model X.prog X.w) X.A (call (.builtin "list.append") [.ref D,y]) (λ_ s8=>∃ m,m<n/\∃ i zs H' o af nn,Inv (bL X (x::ys) scope cl C s2 H2 fp (X.pn++pins)) [] (o::fr.map λj=>(σ[j]?).join) H' s8/\tn i s8.heap/\(∀ b∈fp,H' b=none)/\H' D=none /\
       s8.heap.get? D=some { cls:=.type "list",data:=.seq (af:List acY).toArray nn }/\Vals zs af/\W i m zs H') (λ_ _=>False) s7) (λ_ _=>False) s6
     else ∃ m,m<n/\∃ i zs H' o af nn,Inv (bL X (x::ys) scope cl C s2 H2 fp (X.pn++pins)) [] (o::fr.map λj=>(σ[j]?).join) H' s6/\tn i s6.heap/\(∀ b∈fp,H' b=none)/\H' D=none /\
      s6.heap.get? D=some { cls:=.type "list",data:=.seq (af:List acY).toArray nn }/\Vals zs af/\W i m zs H') (λ_ _=>False) s5) (λ_ _=>False) s4:=by
    refine acR (aA h4 λ_ s5 ⟨y5,H5,I5,r5,yl,fz,mv⟩=>?_);have mw:=I5.pinned (iQ H5 _ mv) (T.obj _ _ fz);refine aA (bf (X:=bL X (x::ys) scope cl C s2 H2 fp (X.pn++pins)) (i:=0) S.nd rfl (.inl (adt S.own)) (.inr (adt S.own)) _ s5 _ H5 y5 u (λσ' H'=>σ'=(some y5::fr.map λj=>(σ[j]?).join)/\H'=H5) mw r5 ⟨rfl,rfl⟩) λ_ s6 ⟨σ6,H6,I6,e6,xb⟩=>?_;subst e6 xb;have after:∀ (s7:acZ) (H7:Hp),Inv (bL X (x::ys) scope cl C s2 H2 fp (X.pn++pins)) ([(D,{ cls:=.type "list",data:=.seq af.toArray nn })]++mq fp s5.heap) (some y5::fr.map λj=>(σ[j]?).join) H7 s7 ->
     Inv (bL X (x::ys) scope cl C s2 H2 fp (X.pn++pins)) [] (some y5::fr.map λj=>(σ[j]?).join) H7 s7/\tn (i+1) s7.heap/\(∀ b∈fp,H7 b=none)/\H7 D=none/\s7.heap.get? D=some { cls:=.type "list",data:=.seq af.toArray nn }:=λs7 H7 I7=>by
     have pD:=I7.pin (D,{ cls:=.type "list",data:=.seq af.toArray nn }) (ac1 _ (adD _ (ady.mpr rfl)));refine⟨I7.iA λp hp=>absurd hp (by simp),T.keep _ _ _ fz λb hb o e=>(I7.pin (b,o) (ac1 _ (ac1 _ (kJ hb e)))).1,λb hb=>?_,pD.2.1,pD.1⟩;obtain⟨o,e,_⟩:=T.obj _ _ fz b hb;exact (I7.pin (b,o) (ac1 _ (ac1 _ (kJ hb e)))).2.1
    refine aA ((hb C s2 H2 fp (X.pn++pins)).1 _ s6 _ H6 _ I6 (step y5 H6 yl)) λok s7 ⟨H7,I7,q7⟩=>?_;dsimp only at q7;by_cases aj:ok=true
    .rw[if_pos aj] at q7 ⊢;refine aA ((hb C s2 H2 fp (X.pn++pins)).2 _ s7 _ H7 _ I7 q7) λyv s8 ⟨y8,H8,I8,r8,n8⟩=>?_;obtain⟨m',iS,w8⟩:=lq _ _ n8;obtain⟨J8,qj,qk,lr,iT⟩:=after s8 H8 I8;have hl:=r3.length;refine ajj agG ⟨_,iT,rfl⟩ agz (agg _ _) (agU D af.toArray nn yv (by rw[ada];walk_at "om")) ⟨iT,?_⟩;have lx:=agv iT (λa=>a.push yv);rw[agW] at lx;refine⟨m',iS,i+1,zs++[y8],H8,some y5,af++[yv],_,J8.turned (it:=D) (λb o bq e=>(ac2 _ _ (adP bq)).trans e) lr dD (.inr lb) (λy c e z=>?_) (λp hp=>?_),T.keep _ _ _ qj λb bq o e=>?_,qk,lr,lx,r3.append (.cons r8 .nil),w8⟩
     .obtain⟨v,o,ho,_⟩:=I2.cell y c (S.cls.get y c e);have:=ac0 ho;walk_at "om"
     .have bV:p∈X.pn++pins:=by have:p∈(X.pn++pins)++[]:=hp;simpa using this
      exact (lg p bV).2.1
     .have:=dj b bq;exact (ac2 _ _ (by walk_at "om")).trans e
    .rw[if_neg aj] at q7 ⊢;obtain⟨m',iS,w7⟩:=lq _ _ q7;obtain⟨J7,ql,qm,qo,qp⟩:=after s7 H7 I7;exact⟨m',iS,i+1,zs,H7,some y5,af,nn,J7,ql,qm,qo,qp,r3,w7⟩
   have e0:(afe (.Name x px) (.ref it) u >>= λ_=>assign (.Name x px) (afD scope cl C X.env) u)=assign (.Name x px) (afD scope cl C X.env) u:=rfl;rw[e0] at go';refine adJ go' (λ_ s5 h5=>adJ h5 (λok s6 h6=>?_) λ_ _ z=>z.elim) λ_ _ z=>z.elim;by_cases aj:ok=true
   .rw[if_pos aj] at h6 ⊢;exact adJ h6 (λy s7 h7=>adJ h7 (λ_ _ z=>z) λ_ _ z=>z.elim) λ_ _ z=>z.elim
   .rw[if_neg aj] at h6 ⊢;exact h6
 exact agL (loop _ rfl) (T.self X.A 0 _ _ _ lh (loop _ rfl))
theorem dE{wi:TI}(S:b7 X x scope cl fr ys)(hc:X.calm=true)(hi:PI X (.Name x px) iter wi)
 (hb:∀ (C:ac6) (s:acZ) (H:Hp) (ex:List ac6) (pn:List (ac6 × Obj)),jW (bL X (x::ys) scope cl C s H ex pn) ifs tt/\PE (bL X (x::ys) scope cl C s H ex pn) elt te)
 (hs:∀ z,af7 iter X.env z=pure z:=by intro _;rfl):PE X (.ListComp elt [⟨.Name x px,iter,ifs,0⟩] scope pos) (sX wi fr tt te):=by
 intro pins s σ H Q I h;rw[ajP];refine afI (use:=none) rfl hs S.clos S.kind (λy hy hl=>?_) (aA (hi pins s σ H _ I h) λxv s1 h1=>aA h1 λnP s2 h2=>?_)
 .have z:=ad1.mp S.names y hy;rw[hl] at z;simpa using z
 .obtain⟨it,fp,tn,J,H2,rfl,I2,T,df,f2,hB⟩:=h2;refine G7 (RR:=λacc C=>aln (model X.prog X.w) X.A X.xe none (EP X pins σ Q) acc C) S hc hb I2 T df f2 hB λD C s' H' J' hn fC q=>?_;obtain⟨m,hm⟩:=hn;obtain⟨c0,c1,c2,c3,c4,c5⟩:=fC;exact⟨m,hm,λh' sb=>⟨.ref D,H',J'.turned (it:=C) (λb o hb e=>sb.extBut b o hb e) c0 c1 c3 c4 c5,rfl,q⟩⟩
noncomputable def G8(i:Nat)(te:TE):TS:=λD σ H=>te σ H λv H1=>D.nx (σ.set i (some v)) H1
theorem oh{wi:TI}{y:Str}{py G9:Pos}{i:Nat}(S:b7 X x scope cl fr ys)(hc:X.calm=true)(hN:X.N.Nodup)(hy:X.N[i]?=some y)(hl:X.env.scope.names.lookup y=some .local)(hi:PI X (.Name x px) iter wi)
 (hb:∀ (C:ac6) (s:acZ) (H:Hp) (ex:List ac6) (pn:List (ac6 × Obj)),jW (bL X (x::ys) scope cl C s H ex pn) ifs tt/\PE (bL X (x::ys) scope cl C s H ex pn) elt te)
 (Rj:aiP (.ListComp elt [⟨.Name x px,iter,ifs,0⟩] scope pos) (some (.Name y py)) G9.line X.env=pure true:=by rfl)
 (hs:∀ z,af7 iter X.env z=pure z:=by intro _;rfl):PS X (.Assign [.Name y py] (.ListComp elt [⟨.Name x px,iter,ifs,0⟩] scope pos) G9) (G8 i (sX wi fr tt te)):=by
 intro pins s σ H Dn I h;rw[exec_Assign_Name_used _ _ _ _ Rj];refine acR (ajK (acR ?_));show adg _ X.A (do let _ <- comprehension (.ListComp elt [⟨.Name x px,iter,ifs,0⟩] scope pos) scope X.env _ (akT []) false (eval iter X.env) (some (assign (.Name y py) X.env))) _ _ s;refine acR (aA (afI (use:=some (assign (.Name y py) X.env)) (Q:=λ_ s'=>SP X pins Dn .next s') rfl hs S.clos S.kind (λz hz hl=>?_) (aA (hi pins s σ H _ I h) λxv s1 h1=>aA h1 λnP s2 h2=>?_)) λ_ s' hq=>acX (acX hq))
 .have z':=ad1.mp S.names z hz;rw[hl] at z';simpa using z'
 .obtain⟨it,fp,tn,J,H2,rfl,I2,T,df,f2,hB⟩:=h2;refine G7 (RR:=λacc C=>aln (model X.prog X.w) X.A X.xe (some (assign (.Name y py) X.env)) (λ_ s'=>SP X pins Dn .next s') acc C) S hc hb I2 T df f2 hB λD C s' H' J' hn fC q=>?_;obtain⟨m,oC,es,ep,ho,hd,hr⟩:=hn;obtain⟨c0,c1,c2,c3,c4,c5⟩:=fC;have J2:Inv X (pins++[(C,oC)]) σ H' s':=J'.iA λp hp=>by
   rcases adm.mp hp with z|z
   .exact J'.pin p (ac1 _ z)
   .have:p=(C,oC):=by simpa using z
    subst this;exact⟨ho,c0,c1,c2,λv z=>by rw[hd] at z;cases z⟩
  show adg _ X.A (assign (.Name y py) X.env (.ref D)) _ _ _;refine aA (bf (X:=X) hN hy (.inl hl) (.inr hl) _ s' σ H' (.ref D) (.ref D) (λσ' gX=>σ'=σ.set i (some (.ref D))/\gX=H') J2 rfl ⟨rfl,rfl⟩) λ_ s3 ⟨σ3,H3,J3,e1,e2⟩=>?_;subst e1 e2;obtain⟨pc,pn0,_⟩:=J3.pin (C,oC) (ac1 _ (ac1 _ (ady.mpr rfl)));refine⟨m,⟨oC,es,ep,pc,hd,hr⟩,λh' sb=>⟨_,H3,J3.mr.turned (it:=C) (λb o hb e=>sb.extBut b o hb e) c0 c1 c3 c4 c5,q⟩⟩
end
noncomputable def dP(Ok:Hp->Prop)(ρ:L2.St)(tt:TT)(te:TE):List V->List V->Hp->(List V->Hp->Prop)->Prop
 | [],ys,H,Q=>Ok H/\Q ys H
 | x::r,ys,H,Q=>Ok H/\tt (some x::ρ) H λb H1=>if b=true then te (some x::ρ) H1 λy H2=>dP Ok ρ tt te r (ys++[y]) H2 Q else dP Ok ρ tt te r ys H1 Q
structure sY(J:It)(Ok:Hp->Prop)(xs:List V):Prop where
 go:∀ i H x,Ok H->xs[i]?=some x->J.go i H
 yld:∀ i H x H',Ok H->J.yld i H x H'->H'=H/\(i<xs.length->xs[i]?=some x)
 stop:∀ i H,Ok H->xs.length<=i->J.stop i H
section
variable{J:It}{Ok:Hp->Prop}{xs:List V}{ρ:L2.St}{tt:TT}{te:TE}{H:Hp}{Q:VK}{K:acS}{a:ac6}
theorem cH(O:sY J Ok xs)(hn:xs.length<=adz)(h:dP Ok ρ tt te xs [] H λys H'=>∀ l,H' l=none->Q (.ref l) (upd H' l (.lst ys))):n9 J ρ tt te H Q:=by
 refine⟨λi m ys H=>m=xs.length-i/\i<=xs.length/\ys.length<=i/\dP Ok ρ tt te (xs.drop i) ys H λys H'=>∀ l,H' l=none->Q (.ref l) (upd H' l (.lst ys)),⟨_,rfl,adw _,ac8 _,h⟩,?_⟩;rintro i m ys H ⟨rfl,hi,hy,g⟩;by_cases aZ:i<xs.length
 .have e:=aeu aZ;rw[e] at g;obtain⟨g0,g1⟩:=g;refine .inr ⟨O.go i H _ g0 (acW aZ),by walk_at "om",λzs H'=>zs.length<=i+1/\dP Ok ρ tt te (xs.drop (i+1)) zs H' λys H'=>∀ l,H' l=none->Q (.ref l) (upd H' l (.lst ys)),λzs H' q=>⟨_,by walk_at "om",rfl,aZ,q.1,q.2⟩,λx H' y=>?_⟩;obtain⟨rfl,ex⟩:=O.yld i H x H' g0 y;have ex:=ex aZ;rw[acW aZ] at ex;cases ex;have l1:∀ y:V,(ys++[y]).length<=i+1:=λy=>by rw[adj,adh];walk_at "om"
  have l2:ys.length<=i+1:=by walk_at "om"
  simp only[l1,l2,true_and];exact g1
 .have e:i=xs.length:=by walk_at "om"
  subst e;rw[akt] at g;exact .inl ⟨O.stop _ H g.1 (ac8 _),by walk_at "om",g.2⟩
theorem fU:sY (iB K a) (λH=>ah K H a xs) xs :=
 ⟨λ_ _ _ h e=>⟨xs,_,h,e⟩,λ_ _ _ _ h y=>⟨y.1,λ_=>y.2 xs h⟩,λ_ _ h hi=>⟨xs,h,hi⟩⟩
theorem Ha:sY (pR K a) (λH=>ax K H a xs) xs :=
 ⟨λ_ _ _ h e=>⟨xs,_,h,e⟩,λ_ _ _ _ h y=>⟨y.1,λ_=>y.2 xs h⟩,λ_ _ h hi=>⟨xs,h,hi⟩⟩
theorem ly{lo:Int}{n:Nat}:sY (iC lo n) (λ_=>True) ((adx n).map λk=>V.int (lo+(k:Nat))) :=
 ⟨λi _ _ _ e=>by
  have:=(ade.mp e).1;show i<n;simpa using this,λi _ _ _ _ y=>⟨y.1,λhi=>by
   have bP:i<n:=by simpa using hi
   rw[y.2,adi,adX bP];rfl⟩,λi _ _ hi=>by
   show n<=i;simpa using hi⟩
theorem oi{p:V->Bool}{f:V->V}{Q':List V->Hp->Prop}(cD:Ok H):∀ {xs ys:List V},(∀ x∈xs,∀ Q,Q (p x) H->tt (some x::ρ) H Q)->(∀ x∈xs,p x=true->∀ Q,Q (f x) H->te (some x::ρ) H Q)->Q' (ys++(xs.filter p).map f) H->dP Ok ρ tt te xs ys H Q'
 | [],ys,_,_,q=>⟨cD,by simpa using q⟩
 | x::r,ys,ht,he,q=>by
  refine⟨cD,ht x (.head _) _ ?_⟩;by_cases hb:p x=true
  .rw[if_pos hb];refine he x (.head _) hb _ (oi cD (λy hy=>ht y (.tail _ hy)) (λy hy=>he y (.tail _ hy)) ?_);rw[ae5,if_pos hb] at q;simpa using q
  .rw[if_neg hb];refine oi cD (λy hy=>ht y (.tail _ hy)) (λy hy=>he y (.tail _ hy)) ?_;rw[ae5,if_neg hb] at q;exact q
variable{X:Cx}{K:acS}
theorem Rk(h:X.K=K):ji X (nU K):=h ▸ wD
theorem Rl(h:X.K=K):eU X (.builtin "len") (λxs H Q=>∃ x n,xs=[x]/\sA K x H n/\Q (.int n) H):=h ▸ ed
theorem Rm(h:X.K=K):bp X (aeO .NotIn) (sF K true):=h ▸ FY
end
mutual
inductive Dat(K:acS)(H:Hp):V->agl->Prop where
 | non:Dat K H .non .none
 | bl (b:Bool):Dat K H (.bl b) (.bool b)
 | int (i:Int):Dat K H (.int i) (.int i)
 | str (x:Str):Dat K H (.str x) (.str x)
 | tup {a:ac6} {xs:List V} {ds:List agl} (h:ax K H a xs) (r:gY K H xs ds):Dat K H (.ref a) (.tuple ds)
 | lst {a:ac6} {xs:List V} {ds:List agl} (h:ah K H a xs) (r:gY K H xs ds):Dat K H (.ref a) (.list ds)
inductive gY(K:acS)(H:Hp):List V->List agl->Prop where
 | nil:gY K H [] []
 | cons {x:V} {d:agl} {xs:List V} {ds:List agl} (h:Dat K H x d) (r:gY K H xs ds):gY K H (x::xs) (d::ds)
end
section
variable{X:Cx}{pins:List (ac6 × Obj)}{σ:L2.St}{H:Hp}{s:acZ}
mutual
theorem Dat.reads(I:Inv X pins σ H s):∀ (d:agl) {v:V} {u:acY},Dat X.K H v d->RelV v u->∃ as,Reads s.heap u d as
 | .none,_,_,.non,r=>by cases r;exact⟨_,.none⟩
 | .bool b,_,_,.bl _,r=>by cases r;exact⟨_,.bool b⟩
 | .int i,_,_,.int _,r=>by obtain⟨t,rfl⟩:=r;exact⟨_,.int i t⟩
 | .str x,_,_,.str _,r=>by obtain⟨t,rfl⟩:=r;exact⟨_,.str x t⟩
 | .tuple ds,_,_,.tup h q,r=>by cases r;obtain⟨af,rv,⟨o,ho,hc,n,hd⟩,_⟩:=I.tuple h;obtain⟨as,ra⟩:=gY.reads I ds q rv;exact⟨_,.tuple ho hc hd (by simpa using ra)⟩
 | .list ds,_,_,.lst h q,r=>by cases r;obtain⟨af,rv,⟨o,n,ho,hc,_,hd⟩,_⟩:=I.list h;obtain⟨as,ra⟩:=gY.reads I ds q rv;exact⟨_,.list ho hc hd (by simpa using ra)⟩
theorem gY.reads(I:Inv X pins σ H s):∀ (ds:List agl) {vs:List V} {us:List acY},gY X.K H vs ds->Vals vs us->∃ as,ReadsAll s.heap us ds as
 | [],_,_,.nil,r=>by cases r;exact⟨_,.nil⟩
 | d::ds,_,_,.cons h q,r=>by
  cases r with
  | cons r1 r2 =>
   obtain⟨as,ra⟩:=Dat.reads I d h r1;obtain⟨bs,rb⟩:=gY.reads I ds q r2;exact⟨_,.cons ra rb⟩
end
noncomputable def Hb(K:acS)(neg:Bool):R2:=λx y H Q=>∃ d e,Dat K H x d/\Dat K H y e/\d.canLay0=true/\e.canLay0=true/\d.depth<=60/\Q (.bl (if neg=true then !agb d e else agb d e)) H
theorem Hc(hu:X.A.units+64<ajN):bp X (aeO .Eq) (Hb X.K false):=by intro pins s σ H x y v u Q I rx ry h;obtain⟨d,e,dx,dy,c1,c2,dd,q⟩:=h;obtain⟨as,ra⟩:=Dat.reads I d dx rx;obtain⟨bs,rb⟩:=Dat.reads I e dy ry;exact SeqAt.compareEq_reads ra rb c1 c2 (by lia) ⟨.bl _,H,I,rfl,q⟩
end
noncomputable abbrev En:=Option Int
noncomputable def ev:En->V
 | none=>.non
 | some i=>.int i
theorem xf:ev none = .non:=rfl
theorem xg(i:Int):ev (some i) = .int i:=rfl
noncomputable def aS:En->En->Bool
 | some x,some y=>decide (y<x)
 | _,_=>false
noncomputable def aI(H:Hp)(v:V)(a b:En):Prop:=∃ p,v = .ref p/\H p=some (.tup [ev a,ev b])
theorem aI.same{H H1:Hp}{v:V}{a b:En}(h:aI H v a b)(s:ak H H1):aI H1 v a b:=by obtain⟨p,e,h⟩:=h;exact⟨p,e,s _ _ h⟩
theorem aI.new{H:Hp}{p:ac6}{a b:En}:aI (upd H p (.tup [ev a,ev b])) (.ref p) a b:=⟨p,rfl,ar⟩
noncomputable def hold(a b:En)(n:Int):Bool:=!aS a (some n) && !aS (some n) b
theorem xh{a b:En}{n:Int}:hold a b n=true↔(∀ x,a=some x->x<=n)/\(∀ y,b=some y->n<=y):=by unfold hold;rcases a with _|x<;>rcases b with _|y<;>simp[aS]
theorem Rn(b:En)(n:Int):hold none b n = !aS (some n) b:=by unfold hold aS;simp
theorem Hd(y n:Int):hold none (some y) n=decide (n<=y):=by
 rw[Rn];by_cases h:y<n
 .simp[aS,h]
 .simp[aS,h];lia
theorem He{x n:Int}(b:En)(h:¬ n<x):hold (some x) b n=hold none b n:=by unfold hold;simp[aS,h]
theorem Ro{x n:Int}(b:En)(h:n<x):hold (some x) b n=false:=by unfold hold;simp[aS,h]
noncomputable def dQ:En->En->En
 | some x,some y=>some (if y > x then y else x)
 | some x,none=>some x
 | none,b=>b
noncomputable def dR:En->En->En
 | some x,some y=>some (if y<x then y else x)
 | some x,none=>some x
 | none,b=>b
noncomputable def nums(a b:En):List Int:=[a,b].filterMap id
noncomputable def qq(v:V):Bool:=!decide (v = .non)
theorem Rp(a b:En):([ev a,ev b].filter qq).map (λv=>v)=(nums a b).map V.int:=by rcases a with _|x<;>rcases b with _|y<;>simp[ev,nums,qq]
theorem Rq(a b:En):kY gW (nums a b) .non=ev (dQ a b):=by rcases a with _|x<;>rcases b with _|y<;>simp[nums,dQ,gW,kY,ev]
theorem Rr(a b:En):kY iM (nums a b) .non=ev (dR a b):=by rcases a with _|x<;>rcases b with _|y<;>simp[nums,dR,iM,kY,ev]
theorem Rt(b:En):aS none b=false:=by cases b<;>rfl
theorem Ru(a:En):aS a none=false:=by cases a<;>rfl
noncomputable def Hf(H:Hp)(v:V)(lo hi:En):Prop:=(aS lo hi=true->v = .non)/\(aS lo hi=false->aI H v lo hi)
theorem Hg{K:acS}{H:Hp}{p:ac6}{a b:En}{Q:VK}{tt:TT}{te:TE}(hp:H p=some (.tup [ev a,ev b]))(ht:∀ x H Q,Q (qq x) H->tt [some x] H Q)(he:∀ x H Q,Q x H->te [some x] H Q)
 (q:∀ l,H l=none->Q (.ref l) (upd H l (.lst ((nums a b).map V.int)))):n9 (pR K p) [] tt te H Q:=by
 refine cH (xs:=[ev a,ev b]) Ha bJ (oi (p:=qq) (f:=λv=>v) (ax.of hp) (λx _ Q h=>ht x H Q h) (λx _ _ Q h=>he x H Q h) ?_);rw[adB,Rp];exact q
noncomputable abbrev S2:=En × En
noncomputable def hs(s:S2)(n:Int):Bool:=hold s.1 s.2 n
noncomputable def e9(s:S2):Prop:=aS s.1 s.2=false
noncomputable def cP:En->List Int
 | none=>[0,0]
 | some x=>[1,x]
noncomputable def fD(a b:En):Prop:=a=none ∨ ∃ x y,a=some x/\b=some y/\x<=y
theorem Rv{a b:En}:HT.lexLt (cP b) (cP a)=false↔fD a b:=by
 rcases a with _|x<;>rcases b with _|y
 .exact⟨λ_=>.inl rfl,λ_=>rfl⟩
 .exact⟨λ_=>.inl rfl,λ_=>rfl⟩
 .refine⟨λh=>(nomatch h),λh=>?_⟩;rcases h with h|⟨_,_,_,h,_⟩<;>cases h
 .have e:HT.lexLt (cP (some y)) (cP (some x))=decide (y<x):=by
   show HT.lexLt [1,y] [1,x]=_;rw[HT.jP,if_pos rfl,HT.jP];split
   .rename_i e;subst e;rw[HT.Px];simp
   .rfl
  rw[e];constructor
  .intro h;have:¬ y<x:=by simpa using h
   exact .inr ⟨x,y,rfl,rfl,by lia⟩
  .intro h;rcases h with h|⟨x',y',e1,e2,h⟩
   .cases h
   .cases e1;cases e2;simpa using h
theorem fD.refl(a:En):fD a a:=by
 rcases a with _|x
 .exact .inl rfl
 .exact .inr ⟨x,x,rfl,rfl,aew _⟩
noncomputable def gap(p q:S2):Bool:=match p.2,q.1 with
 | some h,some l=>decide (l > h+1)
 | _,_=>false
noncomputable def oj:En->En->En
 | some x,some y=>some (if y<x then y else x)
 | _,_=>none
noncomputable def iU:En->En->En
 | some x,some y=>some (if y > x then y else x)
 | _,_=>none
noncomputable def jY(p q:S2):S2:=(oj p.1 q.1,iU p.2 q.2)
theorem Rw{a b:En}(h:fD a b):oj a b=a:=by
 rcases h with rfl|⟨x,y,rfl,rfl,h⟩
 .cases b<;>rfl
 .simp only[oj];rw[if_neg (by lia)]
theorem sZ{s:S2}{n:Int}:hs s n=true↔(∀ x,s.1=some x->x<=n)/\(∀ y,s.2=some y->n<=y):=xh
theorem Rx{p q:S2}{n:Int}(hp:e9 p)(hq:e9 q)(hl:fD p.1 q.1)(hg:gap p q=false):(hs p n || hs q n)=hs (jY p q) n:=by obtain⟨a,b⟩:=p;obtain⟨c,d⟩:=q;rw[aff,af0,sZ,sZ,sZ];simp only[e9,gap,jY,fD] at *;rcases a with _|x<;>rcases b with _|y<;>rcases c with _|z<;>rcases d with _|w<;>simp[aS,oj,iU] at *<;>(try (constructor<;>intro h))<;>(try split at *)<;>(try split)<;>lia
noncomputable def xi(p q:S2):Prop:=∃ h l,p.2=some h/\q.1=some l/\h+2<=l
noncomputable def Apart:List S2->Prop
 | x::y::r=>xi x y/\Apart (y::r)
 | _=>True
theorem Apart.snoc:∀ {i:List S2} {p q:S2},Apart (i++[p])->xi p q->Apart (i++[p,q])
 | [],p,q,_,h=>⟨h,trivial⟩
 | [x],p,q,h,h'=>⟨h.1,h',trivial⟩
 | x::y::r,p,q,h,h'=>⟨h.1,Apart.snoc (i:=y::r) h.2 h'⟩
theorem Apart.last:∀ {i:List S2} {p q:S2},Apart (i++[p])->p.1=q.1->Apart (i++[q])
 | [],p,q,_,h=>trivial
 | [x],p,q,h,h'=>by obtain⟨⟨a,b,e1,e2,e3⟩,_⟩:=h;exact⟨⟨a,b,e1,h' ▸ e2,e3⟩,trivial⟩
 | x::y::r,p,q,h,h'=>⟨h.1,Apart.last (i:=y::r) h.2 h'⟩
noncomputable def gZ(l:List En)(e:En):Prop:=e∈l/\∀ x∈l,fD e x
noncomputable def fE(a b:En):Prop:=b=none ∨ ∃ x y,a=some x/\b=some y/\x<=y
noncomputable def jt(l:List En)(e:En):Prop:=e∈l/\∀ x∈l,fE x e
theorem fD.xj{a b:En}(h:fD a b)(h':fD b a):a=b:=by
 rcases h with rfl|⟨x,y,rfl,rfl,h1⟩
 .rcases h' with h'|⟨x,y,e,e',_⟩
  .exact h'.symm
  .cases e'
 .rcases h' with h'|⟨x',y',e,e',h2⟩
  .cases h'
  .cases e;cases e';congr 1;lia
theorem fE.xj{a b:En}(h:fE a b)(h':fE b a):a=b:=by
 rcases h with rfl|⟨x,y,rfl,rfl,h1⟩
 .rcases h' with h'|⟨x,y,e,e',_⟩
  .exact h'
  .cases e
 .rcases h' with h'|⟨x',y',e,e',h2⟩
  .cases h'
  .cases e;cases e';congr 1;lia
theorem fE.refl(a:En):fE a a:=by
 rcases a with _|x
 .exact .inl rfl
 .exact .inr ⟨x,x,rfl,rfl,aew _⟩
theorem fE.trans{a b c:En}(h:fE a b)(h':fE b c):fE a c:=by
 rcases h' with rfl|⟨x',y',rfl,rfl,h2⟩
 .exact .inl rfl
 .rcases h with h|⟨x,y,rfl,e,h1⟩
  .cases h
  .cases e;exact .inr ⟨_,_,rfl,rfl,by lia⟩
theorem gZ.uniq{l l':List En}{a b:En}(h:gZ l a)(h':gZ l' b)(e:∀ x,x∈l↔x∈l'):a=b:=(h.2 b ((e b).mpr h'.1)).xj (h'.2 a ((e a).mp h.1))
theorem jt.uniq{l l':List En}{a b:En}(h:jt l a)(h':jt l' b)(e:∀ x,x∈l↔x∈l'):a=b:=(h'.2 a ((e a).mp h.1)).xj (h.2 b ((e b).mpr h'.1))
theorem Ry(a b:En):fE a (iU a b)/\fE b (iU a b)/\(iU a b=a∨iU a b=b):=by rcases a with _|x<;>rcases b with _|y<;>simp[iU,fE];split<;>lia
noncomputable abbrev g8:=Option (List S2 × S2)
noncomputable def dS:g8->S2->g8
 | none,q=>some ([],q)
 | some (i,p),q=>if gap p q then some (i++[p],q) else some (i,jY p q)
noncomputable def hJ:g8->List S2
 | none=>[]
 | some (i,p)=>i++[p]
structure mO(ps:List S2)(i:List S2)(p:S2):Prop where
 ap:Apart (i++[p])
 ok:∀ s∈i++[p],e9 s
 held:∀ n,((i++[p]).any λs=>hs s n)=ps.any λs=>hs s n
 lo:gZ (ps.map (·.1)) ((i++[p]).headD p).1
 hi:jt (ps.map (·.2)) p.2
 at_:p.1∈ps.map (·.1)
theorem mO.step{ps i:List S2}{p q:S2}(h:mO ps i p)(hq:e9 q)(hl:∀ s∈ps,fD s.1 q.1):∃ i' p',dS (some (i,p)) q=some (i',p')/\mO (ps++[q]) i' p':=by
 have hp:e9 p:=h.ok p (by simp);have dM:fD p.1 q.1:=by obtain⟨s,hs,e⟩:=adf.mp h.at_;rw[<- e];exact hl s hs
 have Hh:gZ ((ps++[q]).map (·.1)) ((i++[p]).headD p).1:=by
  refine⟨by rw[aea];exact adD _ h.lo.1,λx hx=>?_⟩;rw[aea] at hx;rcases adm.mp hx with hx|hx
  .exact h.lo.2 x hx
  .have:x=q.1:=by simpa using hx
   subst this;obtain⟨s,hs,e⟩:=adf.mp h.lo.1;rw[<- e];exact hl s hs
 simp only[dS];by_cases hg:gap p q=true
 .rw[if_pos hg];refine⟨_,_,rfl,?_⟩;obtain⟨a,b,e1,e2,e3⟩:xi p q:=by
   unfold gap at hg;split at hg
   .rename_i x y e1 e2;refine⟨x,y,e1,e2,?_⟩;have:y > x+1:=by simpa using hg
    lia
   .cases hg
  have hd:((i++[p]++[q]).headD q).1=((i++[p]).headD p).1:=by cases i<;>rfl
  refine⟨by rw[afc];exact h.ap.snoc ⟨a,b,e1,e2,e3⟩,λs hs=>?_,λn=>?_,by rw[hd];exact Hh,?_,?_⟩
  .rcases adm.mp hs with hs|hs
   .exact h.ok s hs
   .have:s=q:=by simpa using hs
    subst this;exact hq
  .have hh:=h.held n;rw[af1] at hh;rw[af1,af1,af1,hh]
  .refine⟨by simp,λx hx=>?_⟩;rw[aea] at hx;rcases adm.mp hx with hx|hx
   .have z:=h.hi.2 x hx;rw[e1] at z;rcases xk:q.2 with _|y
    .exact .inl rfl
    .have eV:=hq;unfold e9 at eV;rw[e2,xk] at eV;have:¬ y<b:=by simpa [aS] using eV
     rcases z with z|⟨u,v,rfl,ev,h1⟩
     .cases z
     .cases ev;exact .inr ⟨_,_,rfl,rfl,by lia⟩
   .have:x=q.2:=by simpa using hx
    subst this;exact fE.refl _
  .simp
 .have xm:gap p q=false:=by simpa using hg
  rw[if_neg hg];refine⟨_,_,rfl,?_⟩;have e1:(jY p q).1=p.1:=Rw dM;have hd:((i++[jY p q]).headD (jY p q)).1=((i++[p]).headD p).1:=by
   cases i with
   | nil=>exact e1
   | cons x r=>rfl
  obtain⟨m1,m2,m3⟩:=Ry p.2 q.2;refine⟨h.ap.last e1.symm,λs hs=>?_,λn=>?_,by rw[hd];exact Hh,⟨?_,λx hx=>?_⟩,?_⟩
  .rcases adm.mp hs with hs|hs
   .exact h.ok s (adD _ hs)
   .have:s=jY p q:=by simpa using hs
    subst this;unfold e9 at *;rw[e1];show aS p.1 (iU p.2 q.2)=false;rcases m3 with m3|m3
    .rw[m3];exact hp
    .rw[m3];rcases dM with z|⟨x,y,z1,z2,z3⟩
     .rw[z];exact Rt _
     .rw[z1];rw[z2] at hq;rcases xk:q.2 with _|w
      .exact Ru _
      .rw[xk] at hq;simp[aS] at hq ⊢;lia
  .have hh:=h.held n;rw[af1] at hh ⊢;rw[af1,<- hh];have k:=Rx (n:=n) hp hq dM xm;simp only[aeo,List.any_nil,alk];rw[<- k,Bool.or_assoc]
  .rw[aea];show iU p.2 q.2∈_;rcases m3 with m3|m3
   .rw[m3];exact adD _ h.hi.1
   .rw[m3];simp
  .rw[aea] at hx;rcases adm.mp hx with hx|hx
   .exact (h.hi.2 x hx).trans m1
   .have:x=q.2:=by simpa using hx
    subst this;exact m2
  .rw[e1,aea];exact adD _ h.at_
noncomputable def tf(zs:List S2):g8:=zs.foldl dS none
theorem Hi:∀ (rest ps i:List S2) (p:S2),mO ps i p->(∀ s∈rest,e9 s)->(ps++rest).Pairwise (λa b=>fD a.1 b.1)->∃ i' p',rest.foldl dS (some (i,p))=some (i',p')/\mO (ps++rest) i' p'
 | [],ps,i,p,h,_,_=>⟨i,p,rfl,by rw[aiS];exact h⟩
 | q::rest,ps,i,p,h,ho,hp=>by
  obtain⟨i1,p1,e,h1⟩:=h.step (ho q (.head _)) λs hs=>(agh.mp hp).2.2 s hs q (.head _);have ea:ps++q::rest=(ps++[q])++rest:=by simp
  rw[ea] at hp;obtain⟨i2,p2,e2,h2⟩:=Hi rest (ps++[q]) i1 p1 h1 (λs hs=>ho s (.tail _ hs)) hp;refine⟨i2,p2,?_,by rw[ea];exact h2⟩;rw[ahv,e];exact e2
theorem Rz{zs:List S2}(ho:∀ s∈zs,e9 s)(hp:zs.Pairwise (λa b=>fD a.1 b.1)):(zs=[]/\tf zs=none) ∨ ∃ i p,tf zs=some (i,p)/\mO zs i p:=by
 cases zs with
 | nil=>exact .inl ⟨rfl,rfl⟩
 | cons q rest =>
  right;have h0:mO [q] [] q:=⟨trivial,λs hs=>by
   have:s=q:=by simpa using hs
   subst this;exact ho s (.head _),λn=>rfl,⟨by simp,λx hx=>by
    have:x=q.1:=by simpa using hx
    subst this;exact fD.refl _⟩,⟨by simp,λx hx=>by
    have:x=q.2:=by simpa using hx
    subst this;exact fE.refl _⟩,by simp⟩
  obtain⟨i,p,e,h⟩:=Hi rest [q] [] q h0 (λs hs=>ho s (.tail _ hs)) hp;exact⟨i,p,e,h⟩
noncomputable def mP(as:List S2):List S2:=hJ (tf (br (as.map λs=>cP s.1) (none,none) as))
structure RA(as gs:List S2):Prop where
 ap:Apart gs
 ok:∀ s∈gs,e9 s
 held:∀ n,(gs.any λs=>hs s n)=as.any λs=>hs s n
 nil:gs=[]↔as=[]
 lo:∀ g,gs.head?=some g->gZ (as.map (·.1)) g.1
 hi:∀ g,gs.getLast?=some g->jt (as.map (·.2)) g.2
theorem RB{as:List S2}(ho:∀ s∈as,e9 s):RA as (mP as):=by
 have pm:(br (as.map λs=>cP s.1) (none,none) as).Perm as:=mK;have sr:=wU (kis:=as.map λs=>cP s.1) (d:=((none,none):S2)) (as:=as) (f:=λs=>cP s.1) rfl;unfold mP;generalize br (as.map λs=>cP s.1) (none,none) as=zs at pm sr ⊢;rcases Rz (λs hs=>ho s (pm.mem_iff.mp hs)) (sr.imp λh=>Rv.mp h) with ⟨rfl,e⟩|⟨i,p,e,h⟩
 .have:as=[]:=by simpa using pm.symm.eq_nil
  subst this;rw[e];exact⟨trivial,λs hs=>(nomatch hs),λ_=>rfl,Iff.rfl,λg hg=>(nomatch hg),λg hg=>(nomatch hg)⟩
 .rw[e];have RC:∀ n,(zs.any λs=>hs s n)=as.any λs=>hs s n:=λn=>by rw[aff,aes,aes];exact⟨λ⟨x,hx,q⟩=>⟨x,pm.mem_iff.mp hx,q⟩,λ⟨x,hx,q⟩=>⟨x,pm.mem_iff.mpr hx,q⟩⟩
  refine⟨h.ap,h.ok,λn=>(h.held n).trans (RC n),?_,λg hg=>?_,λg hg=>?_⟩
  .constructor
   .intro z;simp[hJ] at z
   .intro z;subst z;have z:=pm.eq_nil;subst z;cases e
  .have e2:((i++[p]).headD p)=g:=by show ((i++[p]).headD p)=g;have:(i++[p]).head?=some g:=hg;rw[List.headD_eq_head?_getD,this];rfl
   have z:=h.lo;rw[e2] at z;exact⟨((pm.map _).mem_iff).mp z.1,λx hx=>z.2 x ((pm.map _).mem_iff.mpr hx)⟩
  .have e2:p=g:=by have:(i++[p]).getLast?=some g:=hg;rw[List.getLast?_concat] at this;exact Option.some.inj this
   subst e2;have z:=h.hi;exact⟨((pm.map _).mem_iff).mp z.1,λx hx=>z.2 x ((pm.map _).mem_iff.mpr hx)⟩
open PySem in
noncomputable def aU(H:Hp):List V->List S2->Prop
 | [],[]=>True
 | v::vs,s::ss=>aI H v s.1 s.2/\aU H vs ss
 | _,_=>False
section
variable{H H1:Hp}{K:acS}
theorem aU.same(e:ak H H1):∀ {vs:List V} {ss:List S2},aU H vs ss->aU H1 vs ss
 | [],[],_=>trivial
 | _::_,_::_,h=>⟨h.1.same e,aU.same e h.2⟩
 | [],_::_,h=>h.elim
 | _::_,[],h=>h.elim
theorem aI.put{v:V}{a b:En}{l:alU}{ys:List V}{o:HO}(h:aI H v a b)(hl:H l=some (.lst ys)):aI (upd H l o) v a b:=by obtain⟨p,e,h⟩:=h;exact⟨p,e,by rw[aB (sd h hl λz=>nomatch z)];exact h⟩
theorem aU.put{l:alU}{ys:List V}{o:HO}(hl:H l=some (.lst ys)):∀ {vs:List V} {ss:List S2},aU H vs ss->aU (upd H l o) vs ss
 | [],[],_=>trivial
 | _::_,_::_,h=>⟨h.1.put hl,aU.put hl h.2⟩
 | [],_::_,h=>h.elim
 | _::_,[],h=>h.elim
theorem aU.len:∀ {vs:List V} {ss:List S2},aU H vs ss->vs.length=ss.length
 | [],[],_=>rfl
 | _::_,_::_,h=>by simp[aU.len h.2]
 | [],_::_,h=>h.elim
 | _::_,[],h=>h.elim
theorem aU.get:∀ {vs:List V} {ss:List S2} {i:Nat} {v:V},aU H vs ss->vs[i]?=some v->∃ s,ss[i]?=some s/\aI H v s.1 s.2
 | [],[],_,_,_,e=>by simp at e
 | _::_,s::_,0,_,h,e=>by simp at e;subst e;exact⟨s,rfl,h.1⟩
 | _::_,_::_,i+1,_,h,e=>by obtain⟨s,a,b⟩:=aU.get (i:=i) h.2 (by simpa using e);exact⟨s,by simpa using a,b⟩
 | [],_::_,_,_,h,_=>h.elim
 | _::_,[],_,_,h,_=>h.elim
theorem aU.app:∀ {vs ws:List V} {ss ts:List S2},aU H vs ss->aU H ws ts->aU H (vs++ws) (ss++ts)
 | [],_,[],_,_,h=>h
 | _::_,_,_::_,_,h,h'=>⟨h.1,aU.app h.2 h'⟩
 | [],_,_::_,_,h,_=>h.elim
 | _::_,_,[],_,h,_=>h.elim
theorem aU.snoc_inv:∀ {vs:List V} {ss:List S2} {s:S2},aU H vs (ss++[s])->∃ ws v,vs=ws++[v]/\aU H ws ss/\aI H v s.1 s.2
 | [],[],_,h=>h.elim
 | [],_::_,_,h=>h.elim
 | v::[],[],s,h=>⟨[],v,rfl,trivial,h.1⟩
 | _::_::_,[],_,h=>h.2.elim
 | v::vs,t::ss,s,h=>by obtain⟨ws,u,e,a,b⟩:=aU.snoc_inv (vs:=vs) (ss:=ss) h.2;exact⟨v::ws,u,by rw[e];rfl,⟨h.1,a⟩,b⟩
theorem aU.sort{xs:List V}{as:List S2}{kis:List (List Int)}(h:aU H xs as):aU H (br kis .non xs) (br kis (none,none) as):=by
 have hl:=h.len;have hp:=(kX (n:=xs.length) (iN kis)).1;unfold br;rw[<- hl];have gen:∀ l:List Nat,(∀ i∈l,i<xs.length)->aU H (l.map λi=>xs.getD i .non) (l.map λi=>as.getD i (none,none)):=by
  intro l
  induction l with
  | nil=>intro _;exact trivial
  | cons i l ih =>
   intro q;have hi:=q i (.head _);obtain⟨s,es,hs⟩:=h.get (acW hi);refine⟨?_,ih λj hj=>q j (.tail _ hj)⟩;show aI H (xs.getD i .non) (as.getD i (none,none)).1 (as.getD i (none,none)).2;rw[acU,acU,es,acW hi];exact hs
 exact gen _ λi hi=>by simpa using hp.mem_iff.mp hi
noncomputable def tj(H:Hp):V->V
 | .ref p=>(match H p with|some (.tup (x::_))=>x|_=>.non)
 | _=>.non
noncomputable def tm(H:Hp):V->V
 | .ref p=>(match H p with|some (.tup (_::x::_))=>x|_=>.non)
 | _=>.non
theorem aI.fst{v:V}{a b:En}(h:aI H v a b):tj H v=ev a:=by obtain⟨p,rfl,h⟩:=h;simp only[tj,h]
theorem aI.snd{v:V}{a b:En}(h:aI H v a b):tm H v=ev b:=by obtain⟨p,rfl,h⟩:=h;simp only[tm,h]
theorem aU.fst:∀ {vs:List V} {ss:List S2},aU H vs ss->vs.map (tj H)=ss.map λs=>ev s.1
 | [],[],_=>rfl
 | _::_,_::_,h=>by rw[adq,adq,h.1.fst,aU.fst h.2]
 | [],_::_,h=>h.elim
 | _::_,[],h=>h.elim
theorem aU.snd:∀ {vs:List V} {ss:List S2},aU H vs ss->vs.map (tm H)=ss.map λs=>ev s.2
 | [],[],_=>rfl
 | _::_,_::_,h=>by rw[adq,adq,h.1.snd,aU.snd h.2]
 | [],_::_,h=>h.elim
 | _::_,[],h=>h.elim
theorem aU.mem:∀ {vs:List V} {ss:List S2} {v:V},aU H vs ss->v∈vs->∃ s∈ss,aI H v s.1 s.2:=λh hv=>by obtain⟨i,hi,e⟩:=ajo.mp hv;obtain⟨s,es,q⟩:=aU.get h (by rw[acW hi,e]);exact⟨s,adl es,q⟩
theorem xn:∀ (es:List En),kP .non (es.map ev)=decide ((none:En)∈es)
 | []=>rfl
 | e::es=>by
  have ih:=xn es;unfold kP at ih ⊢;rw[adq,aeo,ih];rcases e with _|x
  .simp[ev,jk]
  .simp[ev,jk]
theorem xo:∀ (es:List En),(es.map ev).all iJ=true
 | []=>rfl
 | e::es=>by rw[adq,aij,xo es];rcases e with _|x<;>rfl
theorem xq:∀ {es:List En},(none:En)∉es->es.map ev=(es.filterMap id).map V.int
 | [],_=>rfl
 | e::es,h=>by
  rcases e with _|x
  .exact absurd (.head _) h
  .have ih:=xq (es:=es) λz=>h (.tail _ z);rw[adq,ih];rfl
theorem Hj{es:List En}(h:(none:En)∉es)(h0:es≠[]):es.filterMap id≠[]:=by
 cases es with
 | nil=>exact absurd rfl h0
 | cons e r =>
  rcases e with _|x
  .exact absurd (.head _) h
  .intro z;simp at z
theorem Hk{es:List En}(h:(none:En)∉es)(h0:es≠[]):gZ es (some (iM (es.filterMap id))):=by
 have mem:∀ x,some x∈es↔x∈es.filterMap id:=λx=>by simp
 have bg:es.filterMap id≠[]:=by
  cases es with
  | nil=>exact absurd rfl h0
  | cons e r =>
   rcases e with _|x
   .exact absurd (.head _) h
   .intro z;simp at z
 obtain⟨m1,m2⟩:=GO bg;refine⟨(mem _).mpr m1,λx hx=>?_⟩;rcases x with _|x
 .exact absurd hx h
 .exact .inr ⟨_,_,rfl,rfl,m2 x ((mem x).mp hx)⟩
theorem Hl{es:List En}(h:(none:En)∉es)(h0:es≠[]):jt es (some (gW (es.filterMap id))):=by
 have mem:∀ x,some x∈es↔x∈es.filterMap id:=λx=>by simp
 have bg:es.filterMap id≠[]:=by
  cases es with
  | nil=>exact absurd rfl h0
  | cons e r =>
   rcases e with _|x
   .exact absurd (.head _) h
   .intro z;simp at z
 obtain⟨m1,m2⟩:=GN bg;refine⟨(mem _).mpr m1,λx hx=>?_⟩;rcases x with _|x
 .exact absurd hx h
 .exact .inr ⟨_,_,rfl,rfl,m2 x ((mem x).mp hx)⟩
theorem tq{es:List En}(h:(none:En)∈es):gZ es none:=⟨h,λ_ _=>.inl rfl⟩
theorem tu{es:List En}(h:(none:En)∈es):jt es none:=⟨h,λ_ _=>.inl rfl⟩
theorem RD(a b:En):gZ [a,b] (oj a b):=by
 rcases a with _|x<;>rcases b with _|y
 .exact tq (by simp)
 .exact tq (by simp)
 .exact tq (by simp)
 .exact Hk (es:=[some x,some y]) (by simp) (by simp)
theorem RE(a b:En):jt [a,b] (iU a b):=by
 rcases a with _|x<;>rcases b with _|y
 .exact tu (by simp)
 .exact tu (by simp)
 .exact tu (by simp)
 .exact Hl (es:=[some x,some y]) (by simp) (by simp)
noncomputable def lA(H:Hp)(v:V)(as:List S2):Prop:=(as=[]->v = .non)/\(as≠[]->∃ lo hi,aI H v lo hi/\gZ (as.map (·.1)) lo/\jt (as.map (·.2)) hi)
theorem lA.two{v:V}{p q:S2}(h:lA H v [p,q]):aI H v (jY p q).1 (jY p q).2:=by obtain⟨lo,hi,a,b,c⟩:=h.2 (by simp);have e1:lo=oj p.1 q.1:=b.uniq (RD p.1 q.1) λ_=>Iff.rfl;have e2:hi=iU p.2 q.2:=c.uniq (RE p.2 q.2) λ_=>Iff.rfl;rw[e1,e2] at a;exact a
theorem filter_all(l:List V):l.filter (λ_=>true)=l:=ahw.mpr λ_ _=>rfl
noncomputable def xr:En->agl
 | none=>.none
 | some i=>.int i
noncomputable def xt(s:S2):agl:=.tuple [xr s.1,xr s.2]
theorem Hm(e:En):Dat K H (ev e) (xr e):=by
 rcases e with _|x
 .exact .non
 .exact .int x
theorem aI.dat{v:V}{a b:En}(h:aI H v a b):Dat K H v (xt (a,b)):=by obtain⟨p,rfl,h⟩:=h;exact .tup (ax.of h) (.cons (Hm a) (.cons (Hm b) .nil))
theorem Hn:∀ (zs:List S2) (R:g8),(hJ (zs.foldl dS R)).length<=(hJ R).length+zs.length
 | [],R=>by simp
 | z::zs,R=>by
  rw[ahv];have h:=Hn zs (dS R z);have h2:(hJ (dS R z)).length<=(hJ R).length+1:=by
   rcases R with _|⟨i,p⟩
   .simp[dS,hJ]
   .simp only[dS];split<;>simp[hJ]
  rw[ad9];lia
theorem RF(as:List S2):(mP as).length<=as.length:=by unfold mP tf;have h:=Hn (br (as.map λs=>cP s.1) (none,none) as) none;rw[n6] at h;have e:(hJ none).length=0:=rfl;lia
end
noncomputable def tD(lo st:Int)(n:Nat):It:=⟨λi _=>i<n,λi H x H'=>H'=H/\x = .int (lo+(i:Int) * st),λi _=>n<=i⟩
theorem RG{P:ado}{w:adM}{K:acS}{tg:aeY}(it:ac6)(lo st:Int)(n:Nat):Turn P w K tg (tD lo st n) [it] it (λi h=>ajA h it (lo+(i:Nat) * st) ((n:Int)-(i:Nat)) st) where
 mem:=by simp
 obj:=λi h q b hb=>by
  have e:b=it:=by simpa using hb
  subst e;exact⟨_,q,λv z=>by
   have z':aie _=ag9 v:=z;cases z'⟩
 keep:=λi h h' q k=>k it (by simp) _ q
 item:=by intro X hP hw hK hc i pins s σ H E I hf q hg;subst hP hw hK;obtain⟨f0,f1,f2,f3,f4,f5⟩:=hf it (by simp);have W:=Walks.range (prog:=X.prog) (w:=X.w) (I.ok.hd hc) it lo st n;refine W.item i s _ _ hg q λv h' tk hv q' kk=>?_;obtain⟨t,rfl⟩:=hv;have I1:Inv X pins σ H { s with heap:=h',toks:=tk }:=I.turned (λb o hb e=>kk b o (by simpa using hb) e) f0 f1 f3 f4 f5;exact⟨_,rfl,nQ (s:={ s with heap:=h',toks:=tk }) (n := "range_iterator") q' rfl rfl (by decide) ⟨.int (lo+(i:Int) * st),H,I1,⟨t,rfl⟩,⟨rfl,rfl⟩,q',λb hb=>(hf b hb).1⟩⟩
 done:=by
  intro X hP hw hK hc i pins s σ H E I hf q hg;subst hP hw hK;obtain⟨f0,f1,f2,f3,f4,f5⟩:=hf it (by simp);exact aiz (I.ok.hd hc) q (by have:n<=i:=hg;lia) λh' eb=>⟨rfl,I.turned (t':=s.toks) (λb o hb e=>eb b o hb e) f0 f1 f3 f4 f5⟩
 self:=λ_ _ _ _ _ q h=>aiA q h
noncomputable def lB(lo hi st:Int):Nat:=(aef lo hi st).toNat
noncomputable def xu(ta:TA):TI:=λσ H R=>ta σ H λvs H1=>∃ i j c:Int,vs=[.int i,.int j,.int c]/\(-1000000<=i/\i<=1000000/\-1000000<=j/\j<=1000000/\-1000000<=c/\c<=1000000/\c≠0)/\R (tD i c (lB i j c)) H1
theorem Ho(i j c:Int)(h:c≠0):0<=aef i j c:=by
 unfold aef;split
 .rename_i hc;split
  .have:=akU (show 0<=j-i-1 by lia) (show 0<=c by lia);lia
  .lia
 .split
  .have:=akU (show 0<=i-j-1 by lia) (show 0 <= -c by lia);lia
  .lia
theorem size_le(i j c:Int)(h : -1000000<=i/\i<=1000000/\-1000000<=j/\j<=1000000/\c≠0):aef i j c<=2000000:=by
 unfold aef;split
 .split
  .have:=aku (c) (show 0<=j-i-1 by lia);lia
  .lia
 .split
  .have:=aku (-c) (show 0<=i-j-1 by lia);lia
  .lia
theorem RH{i j c:Int}(h : -1000000<=i/\i<=1000000/\-1000000<=j/\j<=1000000/\-1000000<=c/\c<=1000000/\c≠0):Builtin.Range.small i j c=true:=by have h1:=Ho i j c h.2.2.2.2.2.2;have h2:=size_le i j c ⟨h.1,h.2.1,h.2.2.1,h.2.2.2.1,h.2.2.2.2.2.2⟩;unfold Builtin.Range.small;generalize aef i j c=n at h1 h2 ⊢;simp only[akV,aeH,af0,decide_eq_true_eq,beq_iff_eq];refine⟨by lia,.inr ?_⟩;split<;>simp only[aeH,decide_eq_true_eq]<;>lia
theorem RI{X:Cx}{tg a b c:aeY}{ta:TA}{p pos:Pos}(hg:Gl X "range")(hm:X.mg "range" = none)(ha:PA X [a,b,c] ta)(hs:adC [a,b,c] X.env=(false,eval a X.env)::adC [b,c] X.env:=by rfl)(dw:adC [b,c] X.env=[(false,eval b X.env),(false,eval c X.env)]:=by rfl) :
 PI X tg (.Call (.Name "range" p) [a,b,c] [] pos) (xu ta):=by
 intro pins s σ H R I h;refine alO (eQ I hg hm boot_range (adT (aA (ha pos pins s σ H _ I h) λus s1 ⟨vs,H1,I1,r1,q1⟩=>?_) (by rw[hs]) (by rw[dw];rfl)));obtain⟨i,j,k,e,hb,q⟩:=q1;subst e;cases r1 with
 | cons r rr =>
  cases rr with
  | cons r' rr =>
   cases rr with
   | cons RJ rr =>
    cases rr;obtain⟨t,rfl⟩:=r;obtain⟨t',rfl⟩:=r';obtain⟨Hq,rfl⟩:=RJ;have hk:k≠0:=hb.2.2.2.2.2.2;refine call_range_3 hk ?_ (.inl (PyProof.noPylong_small (by lia)));refine ajM (IsRange.new ..) (RH hb) ?_;have I2:Inv X pins σ H1 { s1 with heap:=s1.heap.push { cls:=.type "range",data:=.fields #[.int i t,.int j t',.int k Hq] },toks:=s1.toks }:=I1.kept λb o e=>acT _ e;refine⟨_,[_],_,_,H1,rfl,I2.kept (t':=s1.toks) λb o e=>acT _ e,RG _ i k (lB i j k),?_,λb hb=>?_,q⟩
    .have e1:i+((0:Nat):Int) * k=i:=by simp
     have e2:((lB i j k:Nat):Int)-((0:Nat):Int)=aef i j k:=by have:=Ho i j k hk;unfold lB;lia
     show ajA _ _ (i+((0:Nat):Int) * k) (((lB i j k:Nat):Int)-((0:Nat):Int)) k;rw[e1,e2];exact ac3 _ rfl
    .have e:b=(s1.heap.push { cls:=.type "range",data:=.fields #[.int i t,.int j t',.int k Hq] }).objs.size:=by simpa using hb
     subst e;exact I2.d9 (ac8 _) (I2.aj.fresh (ac8 _))
section
variable{g:TG}{tb:TS}{D:Ends}{σ:L2.St}{H:Hp}{lo st:Int}{n:Nat}
theorem RK{ta:TA}:jf (E6 ta) g tb D σ H=ta σ H (λvs H1=>∃ i j:Int,vs=[.int i,.int j]/\(-(2 ^ 62)<=i/\i<2 ^ 62/\-(2 ^ 62)<=j/\j<2 ^ 62)/\FJ (iC i (j-i).toNat) g tb D σ H1):=rfl
theorem RL{ta:TA}:jf (xu ta) g tb D σ H=ta σ H (λvs H1=>∃ i j c:Int,vs=[.int i,.int j,.int c]/\(-1000000<=i/\i<=1000000/\-1000000<=j/\j<=1000000/\-1000000<=c/\c<=1000000/\c≠0)/\FJ (tD i c (lB i j c)) g tb D σ H1):=rfl
theorem RM(Pv:Nat->L2.St->Hp->Prop)(h0:Pv 0 σ H)
 (hs:∀ i σ H,i<n->Pv i σ H->g (.int (lo+(i:Int) * st)) σ H λσ2 H2=>tb { D with nx:=Pv (i+1),ct:=Pv (i+1),bk:=D.nx } σ2 H2) (hd:∀ σ H,Pv n σ H->D.nx σ H):FJ (tD lo st n) g tb D σ H:=by
 refine⟨λi m σ H=>m=n-i/\i<=n/\Pv i σ H,⟨n,by simp,adw _,h0⟩,?_⟩;rintro i m σ H ⟨rfl,hi,p⟩;by_cases aZ:i<n
 .refine .inr ⟨aZ,Pv (i+1),λσ' H' p'=>⟨n-(i+1),by lia,rfl,aZ,p'⟩,λx H' y=>?_⟩;obtain⟨e,y⟩:=y;subst e y;exact hs i σ _ aZ p
 .have e:i=n:=by lia
  subst e;exact .inl ⟨ac8 _,hd σ H p⟩
end
local macro_rules | `(tactic| walk_at "om") => `(tactic| ((try simp only [PySem.Addr] at *); lia))
section
variable{X:Cx}{pins:List (ac6 × Obj)}{σ:L2.St}{H:Hp}{s:acZ}{h':aeA}
theorem Hr{ch:List ac6}(I:Inv X pins σ H s)(k:∀ b o,b∉ch->s.heap.get? b=some o->h'.get? b=some o)(hf:∀ b∈ch,cw X pins H b){H':Hp}(up:∀ b u,H b=some u->H' b=some u):∀ b u,H b=some u->bG X.prog X.w H' h' b u:=by
 have kG:∀ b u,H b=some u->b∉ch:=λb u e z=>by rw[(hf b z).1] at e;cases e
 intro b u e;refine (I.aj b u e).fq (λc v hc q=>k c v ?_ q) (λc q=>up c _ q) λc xs q=>up c _ q;rcases hc with z|z
 .rw[z];exact kG b u e
 .exact kG c _ z
theorem xw{t':Nat}{ch:List ac6}(I:Inv X pins σ H s)(k:∀ b o,b∉ch->s.heap.get? b=some o->h'.get? b=some o)(hf:∀ b∈ch,cw X pins H b):Inv X pins σ H { s with heap:=h',toks:=t' }:=by
 refine I.step (g':=s.gens) (d':=s.drawn) (ch:=ch) (λb hb=>?_) (λb o _ _ hc e _=>k b o hc e) (λb o _ _ hc e _=>⟨o.slots,k b o hc e⟩) (λ_ _ _ _ n=>n)
  (λb o hc e=>⟨o,k b o hc e⟩) (λ_ _ e=>e) (λ_ _ _ e=>e) (λb ps e=>⟨#[],by rw[e];simp⟩) (λm hm=>?_) (λb u e=>Hr I k hf (λ_ _ q=>q) b u e) I.bare
 .obtain⟨_,d1,d2,d3,d4,d5⟩:=hf b hb;exact⟨d3,d1,d4,d5⟩
 .obtain⟨o,es,ep,ho,r⟩:=hm;exact⟨o,es,ep,k _ o (λz=>(hf _ z).2.1 rfl) ho,r⟩
theorem xy{t':Nat}{ch:List ac6}{T:ac6}{o:HO}(I:Inv X pins σ H s)(k:∀ b o,b∉ch->s.heap.get? b=some o->h'.get? b=some o)(hf:∀ b∈ch,cw X pins H b)(hT:s.heap.objs.size<=T)
 (new:bG X.prog X.w (upd H T o) h' T o):Inv X pins σ (upd H T o) { s with heap:=h',toks:=t' }:=by
 have hn:=I.aj.fresh hT;have neT:∀ b u,s.heap.get? b=some u->b≠T:=λb u e=>adp (adn (ac0 e) hT);have cn:∀ b u,H b=some u->b≠T:=λb u e=>iy e hn;have up:∀ b u,H b=some u->upd H T o b=some u:=λb u e=>by rw[aB (cn b u e)];exact e
 refine I.step (g':=s.gens) (d':=s.drawn) (ch:=ch) (λb hb=>?_) (λb o _ _ hc e _=>k b o hc e) (λb o _ _ hc e _=>⟨o.slots,k b o hc e⟩) (λb u _ e n=>by rw[aB (neT b u e)];exact n)
  (λb o hc e=>⟨o,k b o hc e⟩) (λb xs e=>up b _ e) (λb _ _ e=>up b _ e) (λb ps e=>⟨#[],by rw[up b _ e];simp⟩) (λm hm=>?_) (λb u e=>?_) I.bare
 .obtain⟨_,d1,d2,d3,d4,d5⟩:=hf b hb;exact⟨d3,d1,d4,d5⟩
 .obtain⟨o,es,ep,ho,r⟩:=hm;exact⟨o,es,ep,k _ o (λz=>(hf _ z).2.1 rfl) ho,r⟩
 .by_cases hb:b=T
  .subst hb;rw[ar] at e;cases e;exact new
  .rw[aB hb] at e;exact Hr I k hf up b u e
end
noncomputable def tE(K:acS)(a:ac6)(n:Nat):It :=
 ⟨λi H=>∃ xs x,ah K H a xs/\xs.length=n/\xs.reverse[i]?=some x,λi H x H'=>H'=H/\∀ xs,ah K H a xs->xs.length=n->xs.reverse[i]?=some x,λi _=>i=n⟩
theorem RN{P:ado}{w:adM}{K:acS}{tg:aeY}(a it:ac6)(n:Nat):Turn P w K tg (tE K a n) [it] it (λi h=>i<=n/\h.IsRevIter it a ((n:Int)-1-(i:Nat))) where
 mem:=by simp
 obj:=λi h st b hb=>by
  have e:b=it:=by simpa using hb
  subst e;obtain⟨_,o,e,c,d⟩:=st;exact⟨o,e,λv z=>by rw[d] at z;cases z⟩
 keep:=λi h h' st k=>⟨st.1,st.2.at λo e=>k it (by simp) o e⟩
 item:=by
  intro X hP hw hK hc i pins s σ H E I hf st hg;subst hP hw hK;obtain⟨xs,x,hq,hn,hx⟩:=hg;obtain⟨af,rv,p,hz⟩:=I.list hq;have hl:=rv.length;have hi:i<n:=by have:=(ade.mp hx).1;rw[aeC] at this;lia
  have dA:xs[n-1-i]?=some x:=by rw[afx (by lia),hn] at hx;exact hx
  obtain⟨u,hu,ru⟩:=rv.get dA;obtain⟨f0,f1,f2,f3,f4,f5⟩:=hf it (by simp);have b5:=st.2;rw[show (n:Int)-1-(i:Nat)=((n-1-i:Nat):Int) by lia] at b5;refine wpAny_pyNext_rev_item b5 p.isList (x:=u) (by simpa using hu) λh' b5 sb=>?_;have I1:Inv X pins σ H { s with heap:=h' }:=I.turned (t':=s.toks) (λb o hb e=>(sb.2 b hb).trans e) f0 f1 f3 f4 f5;obtain⟨o,e,c,d⟩:=id b5;rw[show ((n-1-i:Nat):Int)-1=(n:Int)-1-((i+1:Nat):Int) by lia] at b5;exact⟨u,rfl,nQ (s:={ s with heap:=h' }) e c d (by decide) ⟨x,H,I1,ru,⟨rfl,λys hy _=>by rw[I.kH hy hq];exact hx⟩,⟨by lia,b5⟩,λb hb=>(hf b hb).1⟩⟩
 done:=by
  intro X hP hw hK hc i pins s σ H E I hf st hg;subst hP hw hK;have xm:i=n:=hg;subst xm;obtain⟨f0,f1,f2,f3,f4,f5⟩:=hf it (by simp);have b5:=st.2;rw[show (i:Int)-1-(i:Nat) = -1 by lia] at b5;exact wpAny_pyNext_rev_end (I.ok.hd hc) b5 λh' eb=>⟨rfl,I.turned (t':=s.toks) (λb o hb e=>eb b o hb e) f0 f1 f3 f4 f5⟩
 self:=λ_ _ _ _ _ st h=>ajq st.2 h
noncomputable def xA(K:acS)(ta:TA):TI:=λσ H R=>ta σ H λvs H1=>∃ a xs,vs=[.ref a]/\ah K H1 a xs/\R (tE K a xs.length) H1
theorem RO{X:Cx}{tg e:aeY}{ta:TA}{p pos:Pos}(hg:Gl X "reversed")(hm:X.mg "reversed" = none)(ha:PA X [e] ta)(hs:adC [e] X.env=[(false,eval e X.env)]:=by rfl):PI X tg (.Call (.Name "reversed" p) [e] [] pos) (xA X.K ta):=by
 intro pins s σ H R I h;refine alO (eQ I hg hm Qp (adT (aA (ha pos pins s σ H _ I h) λus s1 ⟨vs,H1,I1,r1,q1⟩=>?_) hs rfl));obtain⟨a,xs,rfl,hq,q⟩:=q1;obtain⟨u,rfl,ru⟩:=vals1 r1;cases ru;obtain⟨af,rv,p,hz⟩:=I1.list hq;refine call_reversed_list p.isList ?_;have hl:=rv.length;refine ajq (i:=(af.toArray.size:Int)-1) (l:=a) ⟨_,ac3 _ rfl,rfl,rfl⟩ ?_;refine⟨s1.heap.objs.size,[s1.heap.objs.size],_,_,H1,rfl,I1.kept (t':=s1.toks) λb o e=>acT _ e,RN a _ xs.length,⟨adw _,_,ac3 _ rfl,rfl,?_⟩,λb hb=>?_,q⟩
 .rw[ada,<- hl];simp;rfl
 .have e:b=s1.heap.objs.size:=by simpa using hb
  subst e;exact I1.d9 (ac8 _) (I1.aj.fresh (ac8 _))
noncomputable def tF(K:acS)(a:ac6):It :=
 ⟨λi H=>∃ xs x,ah K H a xs/\xs[i]?=some x,λi H v H'=>∃ (p:ac6) (x:V),v = .ref p/\H p=none/\H'=upd H p (.tup [.int i,x])/\∀ xs,ah K H a xs->xs[i]?=some x,λi H=>∃ xs,ah K H a xs/\xs.length<=i⟩
theorem xB:2<=adz:=by decide
theorem RP{P:ado}{w:adM}{K:acS}{es:List aeY}{k:Nat}{tp:Pos}(a e it:ac6)(Hs:e≠it):Turn P w K (.Tuple es k tp) (tF K a) [e,it] e (λi h=>(∃ old,IsEnum h e it (i:Nat) old)/\h.IsListIter it a i) where
 mem:=by simp
 obj:=λi h st b hb=>by
  obtain⟨⟨old,he⟩,o,ho,c,d⟩:=st;have bq:b=e∨b=it:=by simpa using hb
  rcases bq with rfl|rfl
  .exact⟨_,he,λv z=>by
    have z':aie _=ag9 v:=z;cases z'⟩
  .exact⟨o,ho,λv z=>by rw[d] at z;cases z⟩
 keep:=λi h h' st kk=>by obtain⟨⟨old,he⟩,hi⟩:=st;exact⟨⟨old,kk e (by simp) _ he⟩,hi.at λo e=>kk it (by simp) o e⟩
 item:=by
  intro X hP hw hK hc i pins s σ H E I hf st hg;subst hP hw hK;obtain⟨xs,x,hq,hx⟩:=hg;obtain⟨⟨old,he⟩,hit⟩:=st;obtain⟨af,rv,p,hz⟩:=I.list hq;obtain⟨u,hu,ru⟩:=rv.get hx;refine aiG he hit p.isList (x:=u) (by simpa using hu) Hs λh1 ho RQ hT hsz hk=>?_;refine⟨_,rfl,wpAny_letOwnedTupleGo_enum ho λh2 qr dw=>?_⟩;have xC:Heap.SameBut e h1 h2:=dw;have neT:s.heap.objs.size≠e:=aec (ac0 he);have up:∀ b o,b∉[e,it]->s.heap.get? b=some o->h2.get? b=some o:=λb o hb q=>by
   have bq:b≠e/\b≠it:=by simpa using hb
   exact xC.extBut b o bq.1 (hk b o bq.1 bq.2 q)
  have hn:H s.heap.objs.size=none:=I.aj.fresh (ac8 _);refine⟨.ref s.heap.objs.size,upd H s.heap.objs.size (.tup [.int i,x]),xy (s:=s) (h':=h2) (t':=s.toks+1) I up hf (ac8 _) ⟨xB,[.int i s.toks,u],.cons ⟨_,rfl⟩ (.cons ru .nil),?_⟩,rfl,⟨_,x,rfl,hn,rfl,λys hy=>by rw[I.kH hy hq];exact hx⟩,⟨⟨u,?_⟩,?_⟩,λb hb=>?_⟩
  .have:=xC.extBut _ _ neT hT;exact⟨_,this,rfl,_,rfl⟩
  .have:((i:Int)+1)=((i+1:Nat):Int):=by lia
   rw[<- this];exact qr
  .exact RQ.at λo q=>xC.extBut _ _ (adP Hs) q
  .rw[aB]
   .exact (hf b hb).1
   .have bq:b=e∨b=it:=by simpa using hb
    rcases bq with rfl|rfl
    .exact adP neT
    .obtain⟨o,q,_⟩:=hit;exact adp (ac0 q)
 done:=by
  intro X hP hw hK hc i pins s σ H E I hf st hg;subst hP hw hK;obtain⟨xs,hq,hx⟩:=hg;obtain⟨⟨old,he⟩,hit⟩:=st;obtain⟨af,rv,p,hz⟩:=I.list hq;have hl:=rv.length;refine ai4 (I.ok.hd hc) he hit p.isList (by simp;lia) λh' eb=>⟨rfl,xw (t':=s.toks) I (λb o hb q=>?_) hf⟩
  have bq:b≠e/\b≠it:=by simpa using hb
  exact eb b o bq.2 q
 self:=λ_ i s Q E st h=>by obtain⟨⟨old,he⟩,_⟩:=st;exact ah7 he h
noncomputable def xD(K:acS)(ta:TA):TI:=λσ H R=>ta σ H λvs H1=>∃ a,vs=[.ref a]/\(∃ xs,ah K H1 a xs)/\R (tF K a) H1
theorem xE{X:Cx}{es:List aeY}{k:Nat}{tp:Pos}{e:aeY}{ta:TA}{p pos:Pos}(hg:Gl X "enumerate")(hm:X.mg "enumerate" = none)(ha:PA X [e] ta)(hs:adC [e] X.env=[(false,eval e X.env)]:=by rfl):PI X (.Tuple es k tp) (.Call (.Name "enumerate" p) [e] [] pos) (xD X.K ta):=by
 intro pins s σ H R I h;refine alO (eQ I hg hm Gk (adT (aA (ha pos pins s σ H _ I h) λus s1 ⟨vs,H1,I1,r1,q1⟩=>?_) hs rfl));obtain⟨a,rfl,⟨xs,hq⟩,q⟩:=q1;obtain⟨u,rfl,ru⟩:=vals1 r1;cases ru;obtain⟨af,rv,p,hz⟩:=I1.list hq;refine ajD p.isList λh' he hit hsz hk=>?_;refine ah7 he ?_;have I2:Inv X pins σ H1 { s1 with heap:=h' }:=I1.kept (t':=s1.toks) hk;refine⟨s1.heap.objs.size+1,[s1.heap.objs.size+1,s1.heap.objs.size],_,_,H1,rfl,I2,RP a _ _ (by walk_at "om"),⟨⟨.none,he⟩,hit⟩,λb hb=>?_,q⟩;have bq:b=s1.heap.objs.size+1∨b=s1.heap.objs.size:=by simpa using hb
 rcases bq with rfl|rfl
 .exact I1.d9 (agS _) (I1.aj.fresh (agS _))
 .exact I1.d9 (ac8 _) (I1.aj.fresh (ac8 _))
noncomputable def tG(K:acS)(a b:ac6):It :=
 ⟨λi H=>∃ xs ys x y,ah K H a xs/\ah K H b ys/\xs[i]?=some x/\ys[i]?=some y,λi H v H'=>∃ (p:ac6) (x y:V),v = .ref p/\H p=none/\H'=upd H p (.tup [x,y])/\(∀ xs,ah K H a xs->xs[i]?=some x)/\∀ ys,ah K H b ys->ys[i]?=some y,
  λi H=>∃ xs ys,ah K H a xs/\ah K H b ys/\(xs.length<=i∨ys.length<=i)⟩
theorem RS{P:ado}{w:adM}{K:acS}{es:List aeY}{k:Nat}{tp:Pos}(a b z TI TO i1 i2:ac6)(D:ZipApart z TI TO i1 i2 a b):Turn P w K (.Tuple es k tp) (tG K a b) [z,TI,TO,i1,i2] z
 (λi h=>alz h z TI TO .none/\IsPair h TI (.ref i1) (.ref i2)/\(∃ a b,IsPair h TO a b)/\h.IsListIter i1 a i/\h.IsListIter i2 b i) where
 mem:=by simp
 obj:=λi h st c hc=>by
  obtain⟨hz,dk,⟨ta,tb,eE⟩,⟨o1,h1,c1,d1⟩,⟨o2,h2,c2,d2⟩⟩:=st;have jK:c=z∨c=TI∨c=TO∨c=i1∨c=i2:=by simpa using hc
  rcases jK with rfl|rfl|rfl|rfl|rfl
  .exact⟨_,hz,λv q=>by
    have q':aie _=ag9 v:=q;cases q'⟩
  .exact⟨_,dk,λv q=>by
    have q':Data.seq _ _=ag9 v:=q;cases q'⟩
  .exact⟨_,eE,λv q=>by
    have q':Data.seq _ _=ag9 v:=q;cases q'⟩
  .exact⟨o1,h1,λv q=>by rw[d1] at q;cases q⟩
  .exact⟨o2,h2,λv q=>by rw[d2] at q;cases q⟩
 keep:=λi h h' st kk=>by obtain⟨hz,dk,⟨ta,tb,eE⟩,h1,h2⟩:=st;exact⟨kk z (by simp) _ hz,kk TI (by simp) _ dk,⟨ta,tb,kk TO (by simp) _ eE⟩,h1.at λo e=>kk i1 (by simp) o e,h2.at λo e=>kk i2 (by simp) o e⟩
 item:=by
  intro X hP hw hK hc i pins s σ H E I hf st hg;subst hP hw hK;obtain⟨xs,ys,x,y,hqx,hqy,hx,hy⟩:=hg;obtain⟨hz,dk,⟨ta,tb,eE⟩,h1,h2⟩:=st;obtain⟨af,rv,p1,_⟩:=I.list hqx;obtain⟨jts,mQ,p2,_⟩:=I.list hqy;obtain⟨u,hu,ru⟩:=rv.get hx;obtain⟨v,hv,qd⟩:=mQ.get hy;refine wpAny_pyNext_zip_item D hz dk eE h1 h2 p1.isList p2.isList (x:=u) (y:=v) (by simpa using hu) (by simpa using hv) λh' z1 t1 l1 l2 pT hsz hk=>?_;refine⟨_,rfl,ahP z1 λh3 z3 qt=>?_⟩;have fV:Heap.SameBut z h' h3:=qt;have neT:s.heap.objs.size≠z:=aec (ac0 hz);have up:∀ b o,b∉[z,TI,TO,i1,i2]->s.heap.get? b=some o->h3.get? b=some o:=λb o hb q=>by
   have bq:b≠z/\b≠TI/\b≠TO/\b≠i1/\b≠i2:=by simpa using hb
   exact fV.extBut b o bq.1 (hk b o bq.1 bq.2.2.1 bq.2.2.2.1 bq.2.2.2.2 q)
  have hn:H s.heap.objs.size=none:=I.aj.fresh (ac8 _);refine⟨.ref s.heap.objs.size,upd H s.heap.objs.size (.tup [x,y]),xy (s:=s) (h':=h3) (t':=s.toks) I up hf (ac8 _) ⟨xB,[u,v],.cons ru (.cons qd .nil),?_⟩,rfl,⟨_,x,y,rfl,hn,rfl,λzs xF=>by rw[I.kH xF hqx];exact hx,λzs xF=>by rw[I.kH xF hqy];exact hy⟩,
   ⟨z3,fV.extBut _ _ D.TIz (hk _ _ D.TIz D.TITO D.TIi1 D.TIi2 dk),⟨_,_,fV.extBut _ _ D.TOz t1⟩,l1.at λo q=>fV.extBut _ _ D.i1z q,l2.at λo q=>fV.extBut _ _ D.i2z q⟩,λb hb=>?_⟩
  .have:=fV.extBut _ _ neT pT;exact⟨_,this,rfl,_,rfl⟩
  .rw[aB]
   .exact (hf b hb).1
   .have bq:b=z∨b=TI∨b=TO∨b=i1∨b=i2:=by simpa using hb
    rcases bq with rfl|rfl|rfl|rfl|rfl
    .exact adP neT
    .exact adp (ac0 dk)
    .exact adp (ac0 eE)
    .obtain⟨o,q,_⟩:=h1;exact adp (ac0 q)
    .obtain⟨o,q,_⟩:=h2;exact adp (ac0 q)
 done:=by
  intro X hP hw hK hc i pins s σ H E I hf st hg;subst hP hw hK;obtain⟨xs,ys,hqx,hqy,hx⟩:=hg;obtain⟨hz,dk,⟨ta,tb,eE⟩,h1,h2⟩:=st;obtain⟨af,rv,p1,_⟩:=I.list hqx;obtain⟨jts,mQ,p2,_⟩:=I.list hqy;have l1:=rv.length;have l2:=mQ.length;refine wpAny_pyNext_zip_end (I.ok.hd hc) D hz dk eE h1 h2 p1.isList p2.isList (hx.imp (λq=>by simp;lia) λq=>by simp;lia) λh' hk=>⟨rfl,xw (t':=s.toks) I (λb o hb q=>?_) hf⟩
  have bq:b≠z/\b≠TI/\b≠TO/\b≠i1/\b≠i2:=by simpa using hb
  exact hk b o bq.1 bq.2.2.1 bq.2.2.2.1 bq.2.2.2.2 q
 self:=λ_ i s Q E st h=>ahk st.1 h
noncomputable def xG(K:acS)(ta:TA):TI:=λσ H R=>ta σ H λvs H1=>∃ a b,vs=[.ref a,.ref b]/\(∃ xs,ah K H1 a xs)/\(∃ ys,ah K H1 b ys)/\R (tG K a b) H1
theorem RT{X:Cx}{es:List aeY}{k:Nat}{tp:Pos}{e f:aeY}{ta:TA}{p pos:Pos}(hg:Gl X "zip")(hm:X.mg "zip" = none)(ha:PA X [e,f] ta)(hs:adC [e,f] X.env=(false,eval e X.env)::adC [f] X.env:=by rfl)(dw:adC [f] X.env=[(false,eval f X.env)]:=by rfl):PI X (.Tuple es k tp) (.Call (.Name "zip" p) [e,f] [] pos) (xG X.K ta):=by
 intro pins s σ H R I h;refine alO (eQ I hg hm Gm (adT (aA (ha pos pins s σ H _ I h) λus s1 ⟨vs,H1,I1,r1,q1⟩=>?_) hs (by rw[dw];rfl)));obtain⟨a,b,rfl,⟨xs,hqx⟩,⟨ys,hqy⟩,q⟩:=q1;obtain⟨u,v,rfl,ru,xH⟩:=vals2 r1;cases ru;cases xH;obtain⟨af,rv,p1,_⟩:=I1.list hqx;obtain⟨jts,mQ,p2,_⟩:=I1.list hqy;have a1:a<s1.heap.objs.size:=by obtain⟨_,e,_⟩:=p1.isList;exact ac0 e
 have a2:b<s1.heap.objs.size:=by obtain⟨_,e,_⟩:=p2.isList;exact ac0 e
 refine call_zip_2 p1.isList p2.isList λh' hz dk eE h1 h2 hsz hk=>?_;refine ahk hz ?_;have I2:Inv X pins σ H1 { s1 with heap:=h' }:=I1.kept (t':=s1.toks) hk;refine⟨s1.heap.objs.size+4,[s1.heap.objs.size+4,s1.heap.objs.size+2,s1.heap.objs.size+3,s1.heap.objs.size,s1.heap.objs.size+1],_,_,H1,rfl,I2,RS a b _ _ _ _ _ (zipApart_new a1 a2),⟨hz,dk,⟨_,_,eE⟩,h1,h2⟩,λc hc=>?_,q⟩;have jK:s1.heap.objs.size<=c:=by simp only[ac9,aeW,or_false] at hc;walk_at "om"
 exact I1.d9 jK (I1.aj.fresh jK)
section
variable{X:Cx}
theorem Ht:∀ {bs:List Bool} {af:List acY},Vals (bs.map V.bl) af->af=bs.map afo
 | [],af,r=>by cases r;rfl
 | b::bs,af,r=>by
  cases r with
  | cons r1 r2 =>
   cases r1;rw[Ht r2];rfl
theorem Hu(hc:X.calm=true):eU X (.builtin "all") (λxs H Q=>∃ (a:ac6) (bs:List Bool),xs=[.ref a]/\ah X.K H a (bs.map V.bl)/\Q (.bl (bs.all id)) H):=by
 intro pins s σ H xs us Q I r h;obtain⟨a,bs,rfl,hS,q⟩:=h;obtain⟨u,rfl,ru⟩:=vals1 r;cases ru;obtain⟨af,rv,hp,_⟩:=I.list hS;have e:=Ht rv;subst e;have hl:=hp.isList;have aZ:a<s.heap.objs.size:=by obtain⟨_,e,_⟩:=hl;exact ac0 e
 refine call_all_walk (afF hl ?_);refine⟨s.heap.objs.size,[s.heap.objs.size,a],[s.heap.objs.size],(bs.map afo).toArray.size,_,_,λi=>(bs[i]?).getD true,rfl,Walks.list (A:=X.A.in1) (I.ok.hd hc) _ a (adp aZ) (bs.map afo).toArray,⟨⟨_,ac3 _ rfl,rfl,rfl⟩,hl.push _⟩,λi v s' Q' E' hP hQ=>?_,λh' tk hk=>?_⟩
 .have tH:(bs[i]?).map afo=some v:=by simpa using hP
  cases e:bs[i]? with
  | none=>rw[e] at tH;cases tH
  | some b =>
   rw[e] at tH;cases tH;simp only[e,ahl] at hQ;exact aed hQ
 .have e:((adx (bs.map afo).toArray.size).all λi=>(bs[i]?).getD true)=bs.all id:=by rw[ada,acV];exact PyProof.Rows.LSm.range_all bs
  rw[e];exact⟨.bl (bs.all id),H,I.kept (λb o q=>hk b o (λz=>by
   have:b=s.heap.objs.size:=by simpa using z
   rw[this] at q;exact aeN _ (ac0 q)) (acT _ q)),rfl,q⟩
variable{K:acS}{g:TG}{tb:TS}{D:Ends}{σ:L2.St}{H:Hp}{a b:ac6}{xs ys:List V}
theorem RU{ta:TA}:jf (xA K ta) g tb D σ H=ta σ H (λvs H1=>∃ a xs,vs=[.ref a]/\ah K H1 a xs/\FJ (tE K a xs.length) g tb D σ H1):=rfl
theorem RV{ta:TA}:jf (xD K ta) g tb D σ H=ta σ H (λvs H1=>∃ a,vs=[.ref a]/\(∃ xs,ah K H1 a xs)/\FJ (tF K a) g tb D σ H1):=rfl
theorem RW{ta:TA}:jf (xG K ta) g tb D σ H=ta σ H (λvs H1=>∃ a b,vs=[.ref a,.ref b]/\(∃ xs,ah K H1 a xs)/\(∃ ys,ah K H1 b ys)/\FJ (tG K a b) g tb D σ H1):=rfl
theorem xI(Pv:Nat->L2.St->Hp->Prop)(h0:Pv 0 σ H)(hl:∀ i σ H,i<=xs.length->Pv i σ H->ah K H a xs)
 (hs:∀ i x σ H p,xs[i]?=some x->Pv i σ H->H p=none->g (.ref p) σ (upd H p (.tup [.int i,x])) λσ2 H2=>tb { D with nx:=Pv (i+1),ct:=Pv (i+1),bk:=D.nx } σ2 H2) (hd:∀ σ H,Pv xs.length σ H->D.nx σ H):FJ (tF K a) g tb D σ H:=by
 refine⟨λi m σ H=>m=xs.length-i/\i<=xs.length/\Pv i σ H,⟨_,rfl,adw _,h0⟩,?_⟩;rintro i m σ H ⟨rfl,hi,p⟩;have q:=hl i σ H hi p;by_cases aZ:i<xs.length
 .refine .inr ⟨⟨xs,xs[i],q,by simp[aZ]⟩,Pv (i+1),λσ' H' p'=>⟨xs.length-(i+1),by lia,rfl,aZ,p'⟩,λv H' y=>?_⟩;obtain⟨w,x,rfl,hw,rfl,y⟩:=y;exact hs i x σ _ w (y xs q) p hw
 .have e:i=xs.length:=by lia
  subst e;exact .inl ⟨⟨xs,q,ac8 _⟩,hd σ H p⟩
theorem RX(Pv:Nat->L2.St->Hp->Prop)(h0:Pv 0 σ H)(hl:∀ i σ H,Pv i σ H->ah K H a xs/\ah K H b ys)
 (hs:∀ i x y σ H p,xs[i]?=some x->ys[i]?=some y->Pv i σ H->H p=none->g (.ref p) σ (upd H p (.tup [x,y])) λσ2 H2=>tb { D with nx:=Pv (i+1),ct:=Pv (i+1),bk:=D.nx } σ2 H2) (hd:∀ σ H,Pv (min xs.length ys.length) σ H->D.nx σ H):FJ (tG K a b) g tb D σ H:=by
 refine⟨λi m σ H=>m=min xs.length ys.length-i/\i<=min xs.length ys.length/\Pv i σ H,⟨_,rfl,adw _,h0⟩,?_⟩;rintro i m σ H ⟨rfl,hi,p⟩;have q:=hl i σ H p;by_cases aZ:i<min xs.length ys.length
 .have h1:i<xs.length:=by lia
  have h2:i<ys.length:=by lia
  refine .inr ⟨⟨xs,ys,xs[i],ys[i],q.1,q.2,by simp[h1],by simp[h2]⟩,Pv (i+1),λσ' H' p'=>⟨min xs.length ys.length-(i+1),by lia,rfl,aZ,p'⟩,λv H' y=>?_⟩;obtain⟨w,x,y',rfl,hw,rfl,e1,e2⟩:=y;exact hs i x y' σ _ w (e1 xs q.1) (e2 ys q.2) p hw
 .have e:i=min xs.length ys.length:=by lia
  refine .inl ⟨⟨xs,ys,q.1,q.2,by lia⟩,hd σ H (e ▸ p)⟩
end
theorem jZ{K:acS}{i j:Nat}{p:ac6}{x y:V}{σ:L2.St}{H:Hp}{Q:L2.St->Hp->Prop}(h:ax K H p [x,y])(q:Q ((σ.set i (some x)).set j (some y)) H):gP K 2 (bU (bR i) (bU (bR j) gq)) (.ref p) σ H Q :=
 ⟨p,[x,y],rfl,h,rfl,x,[y],rfl,y,[],rfl,rfl,q⟩
local macro_rules | `(tactic| walk_at "om") => `(tactic| ((try simp only [PySem.Addr] at *); lia))
structure mR(X:Cx)(own:List Str)(scope:ahg)(cl:List (Str × ac6))(fr:List Nat)(ys:List Str):Prop where
 clos:alc scope X.env=pure cl
 nocell:(scope.names.all λp=>p.2 != .cell)=true
 kind:scope.kind = .function
 names:(scope.names.all λp=>p.2 != .local || scope.names.lookup p.1 == some .local)=true
 kinds:((relabel scope X.env).names.all λp=>(p.2 != .cell && p.2 != .free) || (cl.lookup p.1).isSome)=true
 cls:k6 X cl
 aY:jr X scope cl fr ys
 kfr:(ys.all λy=>(relabel scope X.env).names.lookup y == some .cell)=true
noncomputable def oo(k:Nat)(J:It)(g:TG)(ρ:L2.St)(tt:TT)(te:TE)(H:Hp)(Q:VK):Prop:=∃ W:Nat->Nat->List V->Hp->Prop,(∃ m,W 0 m [] H)/\∀ i m ys H,W i m ys H ->
 (J.stop i H/\ys.length<=adz/\∀ l,H l=none->Q (.ref l) (upd H l (.lst ys)))∨(J.go i H/\ys.length<adz/\∃ N:List V->Hp->Prop,(∀ zs H',N zs H'->∃ m',m'<m/\W (i+1) m' zs H') /\
  ∀ os:List (Option V),os.length=k->∀ x H',J.yld i H x H'->g x (os++ρ) H' λσ2 H2=>∃ nT,nT.length=k/\σ2=nT++ρ/\tt σ2 H2 λb H1=>if b=true then te σ2 H1 λy H2=>N (ys++[y]) H2 else N ys H1)
noncomputable def Hv(k:Nat)(wi:TI)(g:TG)(fr:List Nat)(tt:TT)(te:TE):TE:=λσ H Q=>wi σ H λJ H1=>oo k J g (fr.map λj=>(σ[j]?).join) tt te H1 Q
theorem RY{prog:ado}{w:adM}{A:adQ}{s:acZ}{R:ahG->acZ->Prop}{elt target iter:aeY}{ifs:List aeY}{scope:ahg}{pos:Pos}{it acc:acY}{env:Env}(I:Nat->acZ->Prop)
 (turn:∀ n s,I n s->adg (model prog w) A (ae7 it) (λr s₁=>match r with
   | none=>R (.ok .next) s₁
   | some v=>adg (model prog w) A (afe target it v) (λ_ Hw=>adg (model prog w) A (assign target env v) (λ_ s₂ =>
    adg (model prog w) A (forIn ifs true λc r=>if r=true then do let ok <- akF c env (eval c env);pure (afi ok) else pure (afi r)) (λok s₃ =>
     if ok=true then adg (model prog w) A (eval elt env) (λx s₄ =>
      adg (model prog w) A (call (.builtin "list.append") [acc,x]) (λ_ s₅=>∃ m,m<n/\I m s₅) (akW (model prog w) A env λe s'=>R (.error e) s') s₄) (akW (model prog w) A env λe s'=>R (.error e) s') s₃
     else ∃ m,m<n/\I m s₃) (akW (model prog w) A env λe s'=>R (.error e) s') s₂) (akW (model prog w) A env λe s'=>R (.error e) s') Hw) (akW (model prog w) A env λe s'=>R (.error e) s') s₁) (akW (model prog w) A env λe s'=>R (.error e) s') s)
 (n:Nat) (h:I n s) :
 afG (model prog w) A (.compLoop (.ListComp elt [⟨target,iter,ifs,0⟩] scope pos) 0 it acc env) R s:=by
 refine codeAny_loop rfl I (λn s hI=>?_) n h;show adg _ A ((compTurn (.ListComp elt [⟨target,iter,ifs,0⟩] scope pos) 0 it acc env).onRaise (λx=>do noteFrame x env;theTreesLotGoes x)) _ _ s;refine wpAny_noted ?_;rw[compTurn_list];refine acR (ajK (acR (adJ (turn n s hI) (λr s₁ h₁=>?_) λ_ _ h'=>h')));cases r with
 | none=>exact acX h₁
 | some v =>
  refine acR (adJ h₁ (λ_ Hw RZ=>?_) λ_ _ h'=>h');refine acR (adJ RZ (λ_ s₂ h₂=>acR (adJ h₂ (λok s₃ h₃=>?_) λ_ _ h'=>h')) λ_ _ h'=>h');cases ok with
  | false=>exact acX ⟨rfl,h₃⟩
  | true =>
   exact acR (acR (adJ h₃ (λx s₄ h₄=>acR (adJ h₄ (λ_ s₅ h₅=>acX (acX ⟨rfl,h₅⟩)) λ_ _ h'=>h')) λ_ _ h'=>h'))
section
variable{X:Cx}{pins:List (ac6 × Obj)}{σ:L2.St}{H2:Hp}{s2:acZ}{own:List Str}{tg:aeY}{g:TG}{pos:Pos}{elt iter:aeY}{ifs:List aeY}{scope:ahg}{cl:List (Str × ac6)}{fr:List Nat}{ys:List Str}{tt:TT}{te:TE}
theorem R0{C:ac6}{ex:List ac6}{pn:List (ac6 × Obj)}(S:mR X own scope cl fr ys)(I2:Inv X pins σ H2 s2)(f2:∀ b∈ex,cw X pins H2 b)(hC:s2.heap.objs.size<=C)(hex:∀ b∈ex,b<s2.heap.objs.size):(bL X (own++ys) scope cl C s2 H2 ex pn).Ok:=by
 refine⟨I2.ok.mod,S.kind,I2.ok.glob,I2.ok.blt,hC,λa b c h1 h2=>?_,λy hy=>?_,λ_ _ z=>(nomatch z),I2.ok.hd,I2.ok.frames,.inl rfl,λb hb=>⟨?_,λy c e z=>?_⟩,I2.bs,adb I2.ok.bsz I2.sz,λb o e hb=>?_,λb hb z=>?_,I2.stack,I2.nJ⟩
 .exact I2.ok.inj a b c (S.cls.get a c h1) (S.cls.get b c h2)
 .have qe:(relabel scope X.env).names.lookup y=some .cell∨(relabel scope X.env).names.lookup y=some .free:=hy;have q:(cl.lookup y).isSome=true:=by
   rcases qe with e|e
   .simpa using og S.kinds e
   .simpa using og S.kinds e
  exact ae3.mp q
 .exact adp (adn (hex b hb) hC)
 .exact (f2 b hb).2.2.2.2.1 y c (S.cls.get y c e) z
 .obtain⟨_,_,_,d,_,_⟩:=f2 b hb;rcases d with d|d
  .exact I2.ok.noex b o e d
  .exact absurd (adn (ac0 e) (adb I2.ok.bsz d)) (aeN _)
 .obtain⟨_,d1,d2,_⟩:=f2 b hb;rcases ac9.mp (I2.fN b z) with q|q
  .exact d1 q
  .exact d2 q
theorem R6{J:It}{fp:List ac6}{it:ac6}{tn:Nat->aeA->Prop}{E:acY->acZ->Prop}{Q:VK}{RR:acY->ac6->ahG->acZ->Prop}
 (S:mR X own scope cl fr ys) (hc:X.calm=true) (hg:∀ (C:ac6) (s:acZ) (H:Hp) (ex:List ac6) (pn:List (ac6 × Obj)),PG (bL X (own++ys) scope cl C s H ex pn) tg g)
 (hb:∀ (C:ac6) (s:acZ) (H:Hp) (ex:List ac6) (pn:List (ac6 × Obj)),jW (bL X (own++ys) scope cl C s H ex pn) ifs tt/\PE (bL X (own++ys) scope cl C s H ex pn) elt te)
 (I2:Inv X pins σ H2 s2) (T:Turn X.prog X.w X.K tg J fp it tn) (df:tn 0 s2.heap) (f2:∀ b∈fp,cw X pins H2 b)
 (h:oo own.length J g (fr.map λj=>(σ[j]?).join) tt te H2 Q)
 (qf:∀ D C s' H',Inv X pins σ H' s'->(∃ m,s'.heap.Ns C m)->cw X pins H' C->Q (.ref D) H'->RR (.ref D) C (.ok .next) s') :
 adg (model X.prog X.w) X.A (akT []) (λacc s3=>adg (model X.prog X.w) X.A (ag4 scope X.env.globals cl [] X.env.qual none .none (some X.env)) (λk8 s4 =>
  afG (model X.prog X.w) X.A (.compStart (.ListComp elt [⟨tg,iter,ifs,0⟩] scope pos) 0 (.ref it) acc { k8 with scope:=relabel scope X.env }) (RR acc k8.locals) s4) E s3) E s2:=by
 obtain⟨W,⟨m0,w0⟩,turn⟩:=h;refine ad8 (ajp (λy hy=>by simpa using ad1.mp S.nocell y hy) (λy hy=>absurd hy (by simp)) (λh1 fB eZ=>?_) S.kind);dsimp only at fB eZ ⊢;generalize eP:s2.heap.push { cls:=.type "list",dict:=none,data:=.seq ([]:List acY).toArray }=P2 at fB eZ ⊢;have sz:P2.objs.size=s2.heap.objs.size+1:=by rw[<- eP,ad0]
 have dD:s2.heap.objs.size≠P2.objs.size:=by walk_at "om"
 have keep:∀ b o,s2.heap.get? b=some o->h1.get? b=some o:=λb o e=>by have lt:=ac0 e;exact eZ.extBut b o (by walk_at "om") (acT _ (eP ▸ acT _ e))
 have hD:h1.get? s2.heap.objs.size=some { cls:=.type "list",data:=.seq ([]:List acY).toArray 0 } :=
  eZ.extBut _ _ dD (acT _ (eP ▸ ac3 _ rfl))
 have dj:∀ b∈fp,b<s2.heap.objs.size:=λb hb=>by obtain⟨o,e,_⟩:=T.obj 0 _ df b hb;exact ac0 e
 have k9:∀ b,s2.heap.objs.size<=b->b∉aY X.stack:=λb hle z=>by
  rcases ac9.mp (I2.fN b z) with q|q
  .have:=I2.lt;walk_at "om"
  .exact I2.sf hle q
 generalize eC:P2.objs.size=C at fB eZ dD ⊢;generalize eD:s2.heap.objs.size=D at dD hD dj k9;have iP:s2.heap.objs.size<=C:=by walk_at "om"
 have lb:s2.heap.objs.size<=D:=by walk_at "om"
 have qg:(bL X (own++ys) scope cl C s2 H2 fp (X.pn++pins)).Ok:=R0 S I2 f2 iP (λb hb=>by have:=dj b hb;walk_at "om");have lg:∀ p∈X.pn++pins,p.1≠C/\p.1≠D/\p.1∉aY X.stack/\∀ b∈fp,p.1≠b:=λp hp=>by
  obtain⟨e,n,nL,nf,_⟩:=I2.pin p hp;have lt:=ac0 e;refine⟨by walk_at "om",by walk_at "om",λz=>?_,λb hb=>(f2 b hb).2.2.2.2.2 p hp⟩;rcases ac9.mp (I2.fN _ z) with q|q
  .exact nL q
  .exact nf q
 have I4:Inv (bL X (own++ys) scope cl C s2 H2 fp (X.pn++pins)) [] ((own.map λ_=>none)++fr.map λj=>(σ[j]?).join) H2 { s2 with heap:=h1,toks:=s2.toks+([]:List (Str × acY)).length }:=by
  refine⟨qg,rfl,I2.bare,Un.kept keep,⟨_,fB,λi y v e1 e2 e3=>?_⟩,λy c e=>?_,I2.aj.fresh iP,λy c e=>I2.fM y c (S.cls.get y c e),λp hp=>?_,I2.aj.kept keep,?_⟩
  .by_cases hio:i<own.length
   .rw[ad5 (by simpa using hio)] at e2;simp[hio] at e2
   .rw[aem (by simp;lia)] at e2;have jX:ys[i-own.length]?=some y:=by
     have:(own++ys)[i]?=some y:=e1
     rwa [aem (by lia)] at this
    rw[acV] at e2;obtain⟨j,c,hN,hσ,hk,mL,mM⟩:=S.aY.get (i-own.length) y v jX e2;obtain⟨m,hm,hl⟩:=I2.loc;obtain⟨u,ru,lu⟩:=hl j y v hN hσ (.inr (.inl hk));refine⟨u,ru,.inr ⟨.inl ?_,c,mL,?_⟩⟩
    .have z:=ad1.mp S.kfr y (adl jX);exact (by simpa using z:(relabel scope X.env).names.lookup y=some .cell)
    .rcases lu with ⟨z,_⟩|⟨_,c',e',q'⟩
     .rw[hk] at z;cases z
     .rw[mM] at e';cases e';obtain⟨o,ho,hd⟩:=q';exact⟨o,keep _ _ ho,hd⟩
  .obtain⟨v,o,ho,hd⟩:=I2.cell y c (S.cls.get y c e);exact⟨v,o,keep _ _ ho,hd⟩
  .have bV:p∈X.pn++pins:=by have:p∈(X.pn++pins)++[]:=hp;simpa using this
   obtain⟨e,n,_,_,d⟩:=I2.pin p bV;obtain⟨p1,_,p3,_⟩:=lg p bV;exact⟨keep _ _ e,n,p1,p3,d⟩
  .show ((own.map λ_=>(none:Option V))++fr.map λj=>(σ[j]?).join).length=(own++ys).length;simp[S.aY.len]
 have lh:tn 0 h1:=T.keep 0 _ _ df λb _ o e=>keep b o e;have iQ:∀ (H':Hp) (o:Obj),(∀ b∈fp,H' b=none)->∀ b∈fp,cw (bL X (own++ys) scope cl C s2 H2 fp (X.pn++pins)) [(D,o)] H' b:=λH' o hn b hb=>by
  obtain⟨_,d1,d2,d3,d4,d5⟩:=f2 b hb;have lt:=dj b hb;refine⟨hn b hb,?_,λz=>?_,.inl hb,λy c e=>d4 y c (S.cls.get y c e),λp hp=>?_⟩
  .show b≠C;walk_at "om"
  .rcases ac9.mp (I2.fN b z) with q|q
   .exact d1 q
   .exact d2 q
  .have bV:p∈(X.pn++pins)++[(D,o)]:=hp;rcases adm.mp bV with z|z
   .exact d5 p z
   .have:p=(D,o):=by simpa using z
    subst this;show D≠b;walk_at "om"
 have loop:∀ s':acZ,s' = { s2 with heap:=h1,toks:=s2.toks+([]:List (Str × acY)).length } ->
  afG (model X.prog X.w) X.A (.compLoop (.ListComp elt [⟨tg,iter,ifs,0⟩] scope pos) 0 (.ref it) (.ref D) (afD scope cl C X.env)) (RR (.ref D) C) s':=by
  rintro s' rfl;refine RY (λn s'=>∃ i zs H' os af nn,os.length=own.length/\Inv (bL X (own++ys) scope cl C s2 H2 fp (X.pn++pins)) [] (os++fr.map λj=>(σ[j]?).join) H' s'/\tn i s'.heap/\(∀ b∈fp,H' b=none)/\H' D=none /\
   s'.heap.get? D=some { cls:=.type "list",data:=.seq (af:List acY).toArray nn }/\Vals zs af/\W i n zs H') ?_ m0 ⟨0,[],H2,own.map λ_=>none,[],0,by simp,I4,lh,λb hb=>(f2 b hb).1,I2.aj.fresh lb,hD,.nil,w0⟩
  rintro n s3 ⟨i,zs,H3,Hy,af,nn,R7,I3,iD,iE,iR,qh,r3,w3⟩;have lj:Inv (bL X (own++ys) scope cl C s2 H2 fp (X.pn++pins)) [(D,{ cls:=.type "list",data:=.seq af.toArray nn })] (Hy++fr.map λj=>(σ[j]?).join) H3 s3:=I3.iA λp hp=>by
   have:p=(D,{ cls:=.type "list",data:=.seq af.toArray nn }):=by simpa using hp
   subst this;exact⟨qh,iR,dD,k9 D (ac8 _),λv z=>nomatch z⟩
  rcases turn i n zs H3 w3 with ⟨stop,hlen,q⟩|⟨go,hlen,N,lq,step⟩
  .refine adJ (T.done (bL X (own++ys) scope cl C s2 H2 fp (X.pn++pins)) rfl rfl rfl hc i _ s3 _ H3 (λ_ _=>False) lj (iQ H3 _ iE) iD stop) (λr s4 ⟨hr,J4⟩=>?_) λ_ _ z=>z.elim;subst hr;have un:=J4.base;have qi:∀ b o,s2.heap.get? b=some o->b≠D:=λb o e=>by have:=ac0 e;walk_at "om"
   have cn:∀ b u,H3 b=some u->b≠D:=λb u e z=>by rw[z,iR] at e;cases e
   refine qf D C s4 (upd H3 D (.lst zs)) ?_ ?_ ?_ (q D iR)
   .refine I2.vT (ch:=fp) J4.os ⟨un.keep,un.slot,λb o e nn hx=>?_,un.there,λb xs e=>?_,λb o u e=>?_,λb ps e=>?_⟩ (λa o e=>?_) J4.bare λb hb=>?_
    .rw[aB (qi b o e)];exact un.free b o e nn hx
    .have:=un.dv b xs e;rw[aB (cn b _ this)];exact this
    .have:=un.dI b o u e;rw[aB (cn b _ this)];exact this
    .obtain⟨more,this⟩:=un.eO b ps e;exact⟨more,by rw[aB (cn b _ this)];exact this⟩
    .by_cases ha:a=D
     .subst ha;rw[ar] at e;cases e;exact⟨hlen,af,nn,r3,(J4.pin (a,_) (ac1 _ (ady.mpr rfl))).1⟩
     .rw[aB ha] at e;exact (J4.aj a o e).fq (λ_ _ _ z=>z) (λb z=>by rw[aB (cn b _ z)];exact z) λb xs z=>by rw[aB (cn b _ z)];exact z
    .obtain⟨_,d1,d2,d3,d4,d5⟩:=f2 b hb;exact⟨d3,d1,d4,d5⟩
   .obtain⟨m,hm,_⟩:=J4.loc;exact⟨m,hm⟩
   .exact I2.d9 iP (by rw[aB (adP dD)];exact J4.free)
  .refine adJ (T.item (bL X (own++ys) scope cl C s2 H2 fp (X.pn++pins)) rfl rfl rfl hc i _ s3 _ H3 (λ_ _=>False) lj (iQ H3 _ iE) iD go) (λr s4 ⟨u,hr,h4⟩=>?_) λ_ _ z=>z.elim;subst hr;refine adJ h4 (λ_ s5 ⟨y5,H5,I5,r5,yl,fz,mv⟩=>?_) λ_ _ z=>z.elim;have mw:=I5.pinned (iQ H5 _ mv) (T.obj _ _ fz);refine adJ (hg C s2 H2 fp (X.pn++pins) _ s5 _ H5 y5 u _ mw r5 (step Hy R7 y5 H5 yl)) (λ_ s6 ⟨σ6,H6,I6,tI,Hz,e6,q6⟩=>?_) λ_ _ z=>z.elim;subst e6;have after:∀ (s7:acZ) (H7:Hp),Inv (bL X (own++ys) scope cl C s2 H2 fp (X.pn++pins)) ([(D,{ cls:=.type "list",data:=.seq af.toArray nn })]++mq fp s5.heap) (tI++fr.map λj=>(σ[j]?).join) H7 s7 ->
    Inv (bL X (own++ys) scope cl C s2 H2 fp (X.pn++pins)) [] (tI++fr.map λj=>(σ[j]?).join) H7 s7/\tn (i+1) s7.heap/\(∀ b∈fp,H7 b=none)/\H7 D=none/\s7.heap.get? D=some { cls:=.type "list",data:=.seq af.toArray nn }:=λs7 H7 I7=>by
    have pD:=I7.pin (D,{ cls:=.type "list",data:=.seq af.toArray nn }) (ac1 _ (adD _ (ady.mpr rfl)));refine⟨I7.iA λp hp=>absurd hp (by simp),T.keep _ _ _ fz λb hb o e=>(I7.pin (b,o) (ac1 _ (ac1 _ (kJ hb e)))).1,λb hb=>?_,pD.2.1,pD.1⟩;obtain⟨o,e,_⟩:=T.obj _ _ fz b hb;exact (I7.pin (b,o) (ac1 _ (ac1 _ (kJ hb e)))).2.1
   refine adJ ((hb C s2 H2 fp (X.pn++pins)).1 _ s6 _ H6 _ I6 q6) (λok s7 ⟨H7,I7,q7⟩=>?_) λ_ _ z=>z.elim;dsimp only at q7;by_cases aj:ok=true
   .rw[if_pos aj] at q7 ⊢;refine adJ ((hb C s2 H2 fp (X.pn++pins)).2 _ s7 _ H7 _ I7 q7) (λyv s8 ⟨y8,H8,I8,r8,n8⟩=>?_) λ_ _ z=>z.elim;obtain⟨m',iS,w8⟩:=lq _ _ n8;obtain⟨J8,qj,qk,lr,iT⟩:=after s8 H8 I8;have hl:=r3.length;refine ajj agG ⟨_,iT,rfl⟩ agz (agg _ _) (agU D af.toArray nn yv (by rw[ada];walk_at "om")) ⟨iT,?_⟩;have lx:=agv iT (λa=>a.push yv);rw[agW] at lx;refine⟨m',iS,i+1,zs++[y8],H8,tI,af++[yv],_,Hz,J8.turned (it:=D) (λb o bq e=>(ac2 _ _ (adP bq)).trans e) lr dD (.inr lb) (λy c e z=>?_) (λp hp=>?_),T.keep _ _ _ qj λb bq o e=>?_,qk,lr,lx,r3.append (.cons r8 .nil),w8⟩
    .obtain⟨v,o,ho,_⟩:=I2.cell y c (S.cls.get y c e);have:=ac0 ho;walk_at "om"
    .have bV:p∈X.pn++pins:=by have:p∈(X.pn++pins)++[]:=hp;simpa using this
     exact (lg p bV).2.1
    .have:=dj b bq;exact (ac2 _ _ (by walk_at "om")).trans e
   .rw[if_neg aj] at q7 ⊢;obtain⟨m',iS,w7⟩:=lq _ _ q7;obtain⟨J7,ql,qm,qo,qp⟩:=after s7 H7 I7;exact⟨m',iS,i+1,zs,H7,tI,af,nn,Hz,J7,ql,qm,qo,qp,r3,w7⟩
 exact agL (loop _ rfl) (T.self X.A 0 _ _ _ lh (loop _ rfl))
theorem tJ{wi:TI}(S:mR X own scope cl fr ys)(hc:X.calm=true)(hi:PI X tg iter wi)(hg:∀ (C:ac6) (s:acZ) (H:Hp) (ex:List ac6) (pn:List (ac6 × Obj)),PG (bL X (own++ys) scope cl C s H ex pn) tg g)
 (hb:∀ (C:ac6) (s:acZ) (H:Hp) (ex:List ac6) (pn:List (ac6 × Obj)),jW (bL X (own++ys) scope cl C s H ex pn) ifs tt/\PE (bL X (own++ys) scope cl C s H ex pn) elt te)
 (hs:∀ z,af7 iter X.env z=pure z:=by intro _;rfl):PE X (.ListComp elt [⟨tg,iter,ifs,0⟩] scope pos) (Hv own.length wi g fr tt te):=by
 intro pins s σ H Q I h;rw[ajP];refine afI (use:=none) rfl hs S.clos S.kind (λy hy hl=>?_) (aA (hi pins s σ H _ I h) λxv s1 h1=>aA h1 λnP s2 h2=>?_)
 .have z:=ad1.mp S.names y hy;rw[hl] at z;simpa using z
 .obtain⟨it,fp,tn,J,H2,rfl,I2,T,df,f2,hB⟩:=h2;refine R6 (RR:=λacc C=>aln (model X.prog X.w) X.A X.xe none (EP X pins σ Q) acc C) S hc hg hb I2 T df f2 hB λD C s' H' J' hn fC q=>?_;obtain⟨m,hm⟩:=hn;obtain⟨c0,c1,c2,c3,c4,c5⟩:=fC;exact⟨m,hm,λh' sb=>⟨.ref D,H',J'.turned (it:=C) (λb o hb e=>sb.extBut b o hb e) c0 c1 c3 c4 c5,rfl,q⟩⟩
variable{X:Cx}{K:acS}
variable{ρ:L2.St}{tt:TT}{te:TE}{H:Hp}{Q:VK}{a b:ac6}{xs ys:List V}
end
theorem HA(xs:List V)(a:Nat):kO xs (some (a:Int)) none=xs.drop a:=by
 unfold kO;rw[HT.Pz,HT.Py];by_cases h:a<=xs.length
 .rw[Nat.min_eq_left h,agM (by rw[ahi];lia)]
 .rw[Nat.min_eq_right (by lia),aiH (ac8 _),aiH (by lia)];simp
theorem xJ{K:acS}{H:Hp}:∀ (ns:List Int),gY K H (ns.map V.int) (ns.map PyData.int)
 | []=>.nil
 | n::ns=>.cons (.int n) (xJ ns)
mutual
noncomputable def hU:Nat->agl->Bool
 | _,.none=>true
 | _,.bool _=>true
 | _,.int _=>true
 | n+1,.tuple ds=>oq n ds
 | n+1,.list ds=>oq n ds
 | _,_=>false
noncomputable def oq:Nat->List agl->Bool
 | _,[]=>true
 | n,d::ds=>hU n d && oq n ds
end
mutual
theorem HB:∀ (d:agl) {n:Nat},hU n d=true->agb d d=true/\d.canLay0=true/\d.depth<=n
 | .none,n,_=>⟨rfl,rfl,adw _⟩
 | .bool b,n,_=>⟨by simp[agb],rfl,adw _⟩
 | .int i,n,_=>⟨by simp[agb],rfl,adw _⟩
 | .str x,0,h=>by simp[hU] at h
 | .str x,n+1,h=>by simp[hU] at h
 | .dict x,0,h=>by simp[hU] at h
 | .dict x,n+1,h=>by simp[hU] at h
 | .tuple ds,0,h=>by simp[hU] at h
 | .list ds,0,h=>by simp[hU] at h
 | .tuple ds,n+1,h=>by obtain⟨a,b,c⟩:=xK ds (n:=n) (by simpa [hU] using h);exact⟨by simpa only [agb] using a,by simpa only [ahQ] using b,by simp only[PyData.depth];lia⟩
 | .list ds,n+1,h=>by obtain⟨a,b,c⟩:=xK ds (n:=n) (by simpa [hU] using h);exact⟨by simpa only [agb] using a,by simpa only [ahQ] using b,by simp only[PyData.depth];lia⟩
theorem xK:∀ (ds:List agl) {n:Nat},oq n ds=true->aik ds ds=true/\agY ds=true/\ahx ds<=n
 | [],n,_=>⟨rfl,rfl,adw _⟩
 | d::ds,n,h=>by
  have h':hU n d=true/\oq n ds=true:=by simpa [oq] using h
  obtain⟨a,b,c⟩:=HB d h'.1;obtain⟨a',b',c'⟩:=xK ds h'.2;exact⟨by simp only[aik,a,a',ail],by simp only[agY,b,b',ail],by simp only[ahx];lia⟩
end
noncomputable def ao{α:Type}(R:V->α->Prop):List V->List α->Prop
 | [],[]=>True
 | x::xs,a::as=>R x a/\ao R xs as
 | _,_=>False
section
variable{α:Type}{R R':V->α->Prop}
theorem ao.len:∀ {xs:List V} {as:List α},ao R xs as->xs.length=as.length
 | [],[],_=>rfl
 | _::_,_::_,h=>by simp[ao.len h.2]
 | [],_::_,h=>h.elim
 | _::_,[],h=>h.elim
theorem ao.imp(f:∀ x a,R x a->R' x a):∀ {xs:List V} {as:List α},ao R xs as->ao R' xs as
 | [],[],_=>trivial
 | _::_,_::_,h=>⟨f _ _ h.1,ao.imp f h.2⟩
 | [],_::_,h=>h.elim
 | _::_,[],h=>h.elim
theorem ao.get:∀ {xs:List V} {as:List α},ao R xs as->∀ {i:Nat} {x:V},xs[i]?=some x->∃ a,as[i]?=some a/\R x a
 | [],[],_,i,x,e=>by simp at e
 | _::_,a::_,h,0,x,e=>by simp at e;subst e;exact⟨a,by simp,h.1⟩
 | _::_,_::_,h,i+1,x,e=>by simp only[afa] at e ⊢;exact ao.get h.2 e
 | [],_::_,h,_,_,_=>h.elim
 | _::_,[],h,_,_,_=>h.elim
theorem ao.at:∀ {xs:List V} {as:List α},ao R xs as->∀ {i:Nat} {a:α},as[i]?=some a->∃ x,xs[i]?=some x/\R x a
 | [],[],_,i,x,e=>by simp at e
 | x::_,_::_,h,0,a,e=>by simp at e;subst e;exact⟨x,by simp,h.1⟩
 | _::_,_::_,h,i+1,a,e=>by simp only[afa] at e ⊢;exact ao.at h.2 e
 | [],_::_,h,_,_,_=>h.elim
 | _::_,[],h,_,_,_=>h.elim
theorem ao.app:∀ {xs ys:List V} {as bs:List α},ao R xs as->ao R ys bs->ao R (xs++ys) (as++bs)
 | [],_,[],_,_,h=>h
 | _::_,_,_::_,_,h,h'=>⟨h.1,ao.app h.2 h'⟩
 | [],_,_::_,_,h,_=>h.elim
 | _::_,_,[],_,h,_=>h.elim
theorem ao.snoc{xs:List V}{as:List α}{x:V}{a:α}(h:ao R xs as)(h':R x a):ao R (xs++[x]) (as++[a]):=h.app ⟨h',trivial⟩
theorem ao.ints:∀ (ns:List Int),ao (λx n=>x=V.int n) (ns.map V.int) ns
 | []=>trivial
 | n::ns=>⟨rfl,ao.ints ns⟩
theorem ao.ix{lo:Int}(n:Nat):ao (λx (k:Nat)=>x=V.int (lo+k)) ((adx n).map λk=>V.int (lo+(k:Nat))) (adx n):=by
 suffices ∀ l:List Nat,ao (λx (k:Nat)=>x=V.int (lo+k)) (l.map λk=>V.int (lo+(k:Nat))) l from this _
 intro l
 induction l with
 | nil=>trivial
 | cons a l ih=>exact⟨rfl,ih⟩
end
theorem filter_tt{α:Type}(l:List α):l.filter (λ_=>true)=l:=ahw.mpr λ_ _=>rfl
noncomputable abbrev P2:=Int × Int
noncomputable def cE(H:Hp)(v:V)(p:P2):Prop:=∃ a,v = .ref a/\H a=some (.tup [.int p.1,.int p.2])
theorem cE.same{H H':Hp}{v:V}{p:P2}(h:cE H v p)(s:ak H H'):cE H' v p:=let ⟨a,e,q⟩:=h;⟨a,e,s _ _ q⟩
theorem cE.put{H:Hp}{v:V}{p:P2}{r:ac6}{ys zs:List V}(h:cE H v p)(hr:H r=some (.lst ys)):cE (upd H r (.lst zs)) v p:=by obtain⟨a,e,q⟩:=h;refine⟨a,e,?_⟩;rw[aB (sd q hr (λz=>nomatch z))];exact q
noncomputable abbrev dm(H:Hp):List V->List P2->Prop:=ao (cE H)
theorem dm.same{H H':Hp}{xs:List V}{ps:List P2}(h:dm H xs ps)(s:ak H H'):dm H' xs ps:=ao.imp (λ_ _ r=>r.same s) h
theorem dm.put{H:Hp}{xs:List V}{ps:List P2}{r:ac6}{ys zs:List V}(h:dm H xs ps)(hr:H r=some (.lst ys)):dm (upd H r (.lst zs)) xs ps:=ao.imp (λ_ _ x=>x.put hr) h
noncomputable def aside(s e p:P2):Int:=(p.2-s.2) * (e.1-s.1)-(p.1-s.1) * (e.2-s.2)
noncomputable def aF(ps:List P2)(i:Nat):P2:=ps.getD i (0,0)
noncomputable def R8(ks:List P2)(p q:Int)(i:Nat):Prop:=i+1<ks.length/\(aF ks i).1 * q<=p/\p<=(aF ks (i+1)).1 * q
noncomputable def hit(ks:List P2)(p q:Int):Prop:=∃ i,R8 ks p q i
noncomputable def SameBut(x:ac6)(H H':Hp):Prop:=∀ b o,b≠x->H b=some o->H' b=some o
theorem mS{ps:List P2}{i:Nat}(hi:i<ps.length):aF ps i∈ps:=by unfold aF;rw[acU,acW hi];exact ahm hi
theorem fF{α β:Type}{R:Hp->V->α->Prop}{R':Hp->V->β->Prop}{Ok:Hp->Prop}{ρ:L2.St}{tt:TT}{te:TE}{f:α->β}{Q':List V->Hp->Prop}(mono:∀ H H' x a,ak H H'->R H x a->R H' x a)(ot:∀ H H' x a,ak H H'->R' H x a->R' H' x a) :
 ∀ {xs:List V} {as:List α} {ys:List V} {bs:List β} {H:Hp},ao (R H) xs as->ao (R' H) ys bs->(∀ H',ak H H'->Ok H')->(∀ x a,a∈as->∀ H',ak H H'->R H' x a->∀ Q,Q true H'->tt (some x::ρ) H' Q) ->
 (∀ x a,a∈as->∀ H',ak H H'->R H' x a->∀ Q:VK,(∀ gX y,ak H' gX->R' gX y (f a)->Q y gX)->te (some x::ρ) H' Q) ->
 (∀ H' zs,ak H H'->ao (R' H') zs (bs++as.map f)->Q' zs H')->dP Ok ρ tt te xs ys H Q'
 | [],[],ys,bs,H,_,hy,cD,_,_,q=>⟨cD H (ak.refl H),q H ys (ak.refl H) (by simpa using hy)⟩
 | x::xs,a::as,ys,bs,H,h,hy,cD,ht,he,q=>by
  refine⟨cD H (ak.refl H),ht x a (.head _) H (ak.refl H) h.1 _ ?_⟩;rw[if_pos rfl];refine he x a (.head _) H (ak.refl H) h.1 _ λH2 y s2 r2=>?_;refine fF mono ot (bs:=bs++[f a]) (h.2.imp λx a r=>mono _ _ _ _ s2 r) ((hy.imp λx a r=>ot _ _ _ _ s2 r).snoc r2) (λH' s'=>cD H' (s2.trans s')) (λx a ha H' s'=>ht x a (.tail _ ha) H' (s2.trans s')) (λx a ha H' s'=>he x a (.tail _ ha) H' (s2.trans s')) λH' zs s' hz=>?_;refine q H' zs (s2.trans s') ?_;rw[adq]
  rwa [afc] at hz
 | [],_::_,_,_,_,h,_,_,_,_,_=>h.elim
 | _::_,[],_,_,_,h,_,_,_,_,_=>h.elim
noncomputable def sw(ks:List P2):List P2:=ks.map λp=>(p.2,p.1)
theorem wJ{us:List acY}{ns:List Int}(h:ahN us ns):Vals (ns.map V.int) us:=by
 induction h with
 | nil=>exact .nil
 | cons n t r ih=>exact .cons ⟨t,rfl⟩ ih
theorem tL{α:Type}{R:Hp->V->α->Prop}{Ok:Hp->Prop}{ρ:L2.St}{tt:TT}{te:TE}{p:α->Bool}{Q':List V->Hp->Prop}(mono:∀ H H' x a,ak H H'->R H x a->R H' x a):∀ {xs:List V} {as:List α} {ys:List V} {H:Hp},ao (R H) xs as->(∀ H',ak H H'->Ok H') ->
 (∀ x a,a∈as->∀ H',ak H H'->R H' x a->∀ Q,(∀ gX,ak H' gX->Q (p a) gX)->tt (some x::ρ) H' Q)->(∀ x H',ak H H'->∀ Q:VK,Q x H'->te (some x::ρ) H' Q) ->
 (∀ H' zs,ak H H'->ao (R H') zs (as.filter p)->Q' (ys++zs) H')->dP Ok ρ tt te xs ys H Q'
 | [],[],ys,H,_,cD,_,_,q=>⟨cD H (ak.refl H),by simpa using q H [] (ak.refl H) trivial⟩
 | x::xs,a::as,ys,H,h,cD,ht,he,q=>by
  refine⟨cD H (ak.refl H),ht x a (.head _) H (ak.refl H) h.1 _ λH1 s1=>?_⟩;have go:=λ(ws:List V) (q2:∀ H' zs,ak H1 H'->ao (R H') zs (as.filter p)->Q' (ws++zs) H')=>tL (ys:=ws) mono (h.2.imp λx a r=>mono _ _ _ _ s1 r) (λH' s'=>cD H' (s1.trans s')) (λx a ha H' s'=>ht x a (.tail _ ha) H' (s1.trans s')) (λx H' s'=>he x H' (s1.trans s')) q2;by_cases hb:p a=true
  .rw[if_pos hb];refine he x H1 s1 _ (go _ λH' zs s' hz=>?_);have:=q H' (x::zs) (s1.trans s') (by rw[ae5,if_pos hb];exact⟨mono _ _ _ _ (s1.trans s') h.1,hz⟩);simpa using this
  .rw[if_neg hb];refine go _ λH' zs s' hz=>q H' zs (s1.trans s') ?_;rw[ae5,if_neg hb];exact hz
 | [],_::_,_,_,h,_,_,_,_=>h.elim
 | _::_,[],_,_,h,_,_,_,_=>h.elim
noncomputable abbrev iV(H:Hp)(v:V)(s:S2):Prop:=aI H v s.1 s.2
theorem ao.xM:∀ {H:Hp} {xs:List V} {ss:List S2},ao (iV H) xs ss->aU H xs ss
 | _,[],[],_=>trivial
 | _,_::_,_::_,h=>⟨h.1,ao.xM h.2⟩
 | _,[],_::_,h=>h.elim
 | _,_::_,[],h=>h.elim
noncomputable def cellsFrom:En->List Int->List S2
 | lo,[]=>[(lo,none)]
 | lo,z::zs=>(lo,some (z-1))::cellsFrom (some z) zs
noncomputable def j4(c:S2):Int:=match c.1,c.2 with
 | some x,_=>x
 | none,some y=>y
 | none,none=>0
theorem R9{c:S2}(h:e9 c):hs c (j4 c)=true:=by
 rw[sZ];unfold e9 at h;rcases c with ⟨_|x,_|y⟩
 .exact⟨λ_ e=>(nomatch e),λ_ e=>(nomatch e)⟩
 .exact⟨λ_ e=>(nomatch e),λ_ e=>by cases e;exact aew _⟩
 .exact⟨λ_ e=>by cases e;exact aew _,λ_ e=>(nomatch e)⟩
 .refine⟨λ_ e=>by cases e;exact aew _,λ_ e=>?_⟩;cases e;show x<=y;simp[aS] at h;lia
section
variable{X:Cx}{CX:el}{k:Nat}{f C:ac6}{fd:afu}{ps:List Str}{ds:List acY}{cN:List V}{sp:Sp}{E:XK}{x m:Str}{p pos apos:Pos}{e:aeY}{es:List aeY}{t:TA}
variable{X:Cx}
variable{X:Cx}{CX:el}{k:Nat}{f:ac6}{fd:afu}{ps:List Str}{ds:List acY}{cN:List V}{sp:Sp}{E:XK}{m:Str}{pos apos:Pos}{o e:aeY}{es:List aeY}{ta:TE}{t:TA}
end
noncomputable abbrev W2:=Option S2
noncomputable def fb(H:Hp)(v:V):W2->Prop
 | none=>v = .non
 | some s=>aI H v s.1 s.2
theorem fb.same{H H':Hp}{v:V}{w:W2}(h:fb H v w)(s:ak H H'):fb H' v w:=by
 cases w with
 | none=>exact h
 | some a=>exact aI.same h s
noncomputable def Bt(n:Nat)(x:Int):Prop:=afP x<=n
theorem Bt.add{n:Nat}{x y:Int}(h:Bt n x)(h':Bt n y):Bt (n+1) (x+y):=by
 have:=alA h h'
 rwa [Nat.max_self] at this
theorem Bt.mul{n m:Nat}{x y:Int}(h:Bt n x)(h':Bt m y):Bt (n+m) (x * y):=alB h h'
theorem Bt.up{n m:Nat}{x:Int}(h:Bt n x)(hm:n<=m):Bt m x:=adb h hm
theorem Bt.small{x:Int}(h1 : -(2 ^ 64)<x)(h2:x<2 ^ 64):Bt 64 x:=PySem.intBits_le_64 h1 h2
noncomputable def j5(i j:Int):Prop:=Bt 40000000 i/\Bt 40000000 j
theorem j5.ok{i j:Int}(h:j5 i j):IntMulOk i j:=ak5 h.1 h.2 (by decide)
theorem Sa{X:Cx}:bp X (ags .Mult) (rI j5 λi j=>.int (i * j)):=sx λ_ _ _ _ _ _ _ hc q=>mul_int q hc.ok
noncomputable def gB(ns:List Int):Prop:=ns.length<=63/\∀ x∈ns,Bt 1048576 x
theorem weigh:∀ (ns:List Int) (x:Int),x∈ns->afP x<=afQ (ns.map PySem.W.WData.int)
 | [],x,h=>by simp at h
 | y::ns,x,h=>by
  have e:afQ ((y::ns).map PySem.W.WData.int)=(if y == 0 then 0 else y.natAbs.log2+1)+1+afQ (ns.map PySem.W.WData.int):=by rw[adq];simp only[afQ,ajr]
  rw[e];rcases ac9.mp h with rfl|h
  .unfold afP;lia
  .have:=weigh ns x h;lia
theorem Sb{ns:List Int}(h:ald [PySem.W.WData.list (ns.map PySem.W.WData.int)]=true):∀ x∈ns,Bt 1048576 x:=by
 intro x hx;have h1:ahc (PySem.W.WData.list (ns.map PySem.W.WData.int))=true:=by
  have:(ahc (PySem.W.WData.list (ns.map PySem.W.WData.int)) && true)=true:=h
  rwa [alo] at this
 unfold ahc at h1;rw[aeH] at h1;have h2:=of_decide_eq_true h1.2;have h3:=weigh ns x hx;simp only[ajr] at h2;unfold Bt;lia
theorem Sd{l:ai5}{k:Nat}{q:ado}{loose:List Str}{XP:(Str->Option acY)->aeA->Prop}{YP:adM->aeA->Prop}{d:DefRec}{K:Params->acS}{CX:adM->el}{sp:adM->Sp}{x:Str}
 (most:l.most=some 63) (plain:d.params.defaults=[]) (room:bO k akM)
 (Se:∀ (w:adM) (h:aeA),YP w h->(K w.params).In h)
 (F:∀ (w:adM) (mg:Str->Option acY) (fa:ac6) (h:aeA),(K w.params).In h->h.Ns ac4 mg->mg d.name=some (.ref fa) ->
   ∃ fd:afu,(∀ (s:acZ) (u:acY),akH s fd ⟨[u],[]⟩ [(x,u)]) /\
    ∀ base:aeA,(K w.params).In base->base.Ns ac4 mg->aJ l.prog w (K w.params) mg base (CX w) k fa fd [x] (sp w))
 (law:∀ (w:adM) (H:Hp) (a:ac6) (ns:List Int),gB ns->ah (K w.params) H a (ns.map V.int)->sp w [.ref a] H (λv _=>v = .bl true) λ_ _ _=>False)
 (calm:∀ (w:adM) (H:Hp) (s:acZ) (e:acY) (s':acZ),CX w [] H s (λ_ _ _=>False) e s'->False) :
 alp q loose XP YP l.row.toRowW d [] (λf vs=>PySem.call f vs):=by
 intro w t₀ t mg mb G Y f ob pm cd doc dV kV look data code defs at_ gens args vals as pre lay _ well _;have e1:dV = .none:=Dflts.none defs plain;have e2:kV = .none:=Dflts.noKw defs;cases e1;cases e2;obtain⟨a,vs,ns,e3,e4,obj,are,len⟩:=wI.P4 most pre well;cases e3;cases e4;have KX:=Se w _ Y;obtain⟨fd,bind,ok⟩:=F w mg f _ KX G.T.g at_;have run:=P7 KX G.T.g G.T.b G.T.builtins G.T.nolimit gens obj are (adb len (by decide)) room ok bind
  (λH _ S=>law w H a ns ⟨len,Sb lay⟩ S) λH e s'=>calm w H t e s'
 refine enter_call (agC run ?_);rintro r s' ⟨rfl,old,os,bare⟩;exact⟨.inl ⟨.bool true,.bool true,[],rfl,λ_=>rfl,.bool true,wI.P6 l _,λ_=>⟨List.Pairwise.nil,λ_ z=>(nomatch z)⟩⟩,old,os,bare⟩
noncomputable def fW(ns:List Int)(k:Int):Int:=if 0<(ns.length:Int) then ns.getD (k % (ns.length:Int)).toNat 0 else 0
theorem HC{ns:List Int}(h:gB ns)(k:Int):Bt 1048576 (fW ns k):=by
 unfold fW;split
 .rw[acU];cases e:ns[(k % (ns.length:Int)).toNat]? with
  | none=>exact (Bt.small (by decide) (by decide)).up (by decide)
  | some n=>exact h.2 _ (adl e)
 .exact (Bt.small (by decide) (by decide)).up (by decide)
theorem HD{ns:List Int}{k:Int}(h:0<(ns.length:Int)):cO (ns.map V.int) (k % (ns.length:Int))=some (.int (fW ns k)):=by
 have h1:=ahy k (show (ns.length:Int)≠0 by lia);have h2:=ahI k h;unfold fW;rw[if_pos h];have ek:k % (ns.length:Int)=(((k % (ns.length:Int)).toNat:Nat):Int):=by lia
 refine (congrArg (cO _) ek).trans (eB ?_);rw[adi,acU,acW (by lia)];rfl
theorem Sf{ns:List Int}(h:gB ns){k:Int}(hk : -1000000<=k/\k<=1000000):j5 k k/\j5 (fW ns k+1009) (fW ns k+48271+k * k):=by have c:=HC h k;have k1:Bt 64 k:=Bt.small (by lia) (by lia);have k2:Bt 128 (k * k):=k1.mul k1;have n1:Bt 1048576 1009:=(Bt.small (by decide) (by decide)).up (by decide);have n2:Bt 1048576 48271:=(Bt.small (by decide) (by decide)).up (by decide);exact⟨⟨k1.up (by decide),k1.up (by decide)⟩,(c.add n1).up (by decide),((c.add n2).add (k2.up (by decide))).up (by decide)⟩
theorem Sg{ns:List Int}(h:gB ns)(k:Int):j5 2147483629 (fW ns k)/\j5 (2147483629 * fW ns k) (fW ns k)/\j5 (2147483629 * fW ns k * fW ns k) (fW ns k):=by have c:=HC h k;have n1:Bt 64 2147483629:=Bt.small (by decide) (by decide);have c1:=n1.mul c;have c2:=c1.mul c;exact⟨⟨n1.up (by decide),c.up (by decide)⟩,⟨c1.up (by decide),c.up (by decide)⟩,c2.up (by decide),c.up (by decide)⟩
theorem xN{vs:List Int}{p:Int}(h0:0<=p)(h1:p<(vs.length:Int)):∃ v,v∈vs/\cO (vs.map V.int) p=some (.int v):=by
 have e:p=((p.toNat:Nat):Int):=by lia
 refine⟨vs[p.toNat]'(by lia),ahm _,?_⟩;refine (congrArg (cO _) e).trans (eB ?_);rw[adi,acW (by lia)];rfl
theorem HE{x:Int}(h:x.natAbs<2 ^ 600):Bd 4000 x:=Bd.up (n:=600) h (by decide)
theorem ju{x y:Int}(h:x.natAbs<2 ^ 600)(h':y.natAbs<2 ^ 600):nW x y:=⟨HE h,HE h'⟩
theorem aM{a b:TS}{D:Ends}{σ:L2.St}{H:Hp}(I:L2.St->Hp->Prop)(h1:∀ N:L2.St->Hp->Prop,(∀ σ H,I σ H->N σ H)->a { D with nx:=N } σ H)(h2:∀ σ H,I σ H->b D σ H):vV a b D σ H:=h1 _ h2
noncomputable def pre(f:P2->Int)(ps:List P2)(i:Nat):Int:=((ps.take i).map f).sum
theorem gC(f:P2->Int)(ps:List P2){i:Nat}(h:i<ps.length):pre f ps (i+1)=pre f ps i+f (aF ps i):=by unfold pre aF;rw[aeM,aea,List.sum_append,acU,acW h];simp only[Option.toList_some,adq,ahb,List.sum_cons,List.sum_nil,Int.add_zero,ahl]
noncomputable def bI(ps:List P2)(i j:Nat):Int:=if i<=j then pre (·.2) ps j-pre (·.2) ps i else pre (·.1) ps j-pre (·.1) ps i
noncomputable def cI(ps:List P2):Prop:=∀ p∈ps,p.1<=p.2
theorem HF{ps:List P2}(h:cI ps)(i:Nat):∀ n,i+n<=ps.length->pre (·.1) ps (i+n)-pre (·.1) ps i<=pre (·.2) ps (i+n)-pre (·.2) ps i
 | 0,_=>by simp
 | n+1,hn=>by have ih:=HF h i n (by lia);rw[show i+(n+1)=(i+n)+1 by lia,gC _ ps (by lia),gC _ ps (by lia)];have:=h _ (mS (ps:=ps) (i:=i+n) (by lia));lia
theorem ou{ps:List P2}(h:cI ps){i j:Nat}(gT:i<=j)(hj:j<=ps.length):pre (·.1) ps j-pre (·.1) ps i<=pre (·.2) ps j-pre (·.2) ps i:=by
 have:=HF h i (j-i) (by lia)
 rwa [show i+(j-i)=j by lia] at this
theorem Sh{ps:List P2}(h:cI ps){i j k:Nat}(hi:i<=ps.length)(hj:j<=ps.length)(hk:k<=ps.length):bI ps i j<=bI ps i k+bI ps k j:=by have a:=λh'=>ou h (i:=i) (j:=j) h' hj;have b:=λh'=>ou h (i:=j) (j:=i) h' hi;have c:=λh'=>ou h (i:=i) (j:=k) h' hk;have d:=λh'=>ou h (i:=k) (j:=i) h' hi;have e:=λh'=>ou h (i:=j) (j:=k) h' hk;have f:=λh'=>ou h (i:=k) (j:=j) h' hj;unfold bI;split<;>split<;>split<;>lia
noncomputable def part(ps:List P2)(i j k:Nat):Int:=if i<j then pre (·.2) ps (min i j+k)-pre (·.2) ps i else pre (·.1) ps j-pre (·.1) ps (min i j+k)
end Gz
namespace L2
open PySem PySem.Spec PyProof.Rows
section
variable{κ:Type}[DecidableEq κ]
noncomputable def fX(kvs:List (κ × V))(k:κ):Option V:=(kvs.find? λkv=>decide (kv.1=k)).map (·.2)
noncomputable def putK(kvs:List (κ × V))(k:κ)(v:V):List (κ × V) :=
 if (kvs.any λkv=>decide (kv.1=k))=true then kvs.map (λkv=>if kv.1=k then (kv.1,v) else kv) else kvs++[(k,v)]
theorem tM{p:κ × V}{r:List (κ × V)}{k:κ}(e:p.1=k):fX (p::r) k=some p.2:=by simp[fX,adN,e]
theorem tN{p:κ × V}{r:List (κ × V)}{k:κ}(e:¬ p.1=k):fX (p::r) k=fX r k:=by simp[fX,adN,e]
theorem HG(k:κ):∀ kvs:List (κ × V),(kvs.any λkv=>decide (kv.1=k))=(fX kvs k).isSome
 | []=>rfl
 | p::r=>by
  rw[aeo];by_cases e:p.1=k
  .simp only[tM e,decide_eq_true e,Bool.true_or,ajQ]
  .rw[tN e,decide_eq_false e,Bool.false_or];exact HG k r
theorem HH(kvs:List (κ × V))(k:κ)(v:V):(putK kvs k v).length<=kvs.length+1:=by
 unfold putK;split
 .rw[acV];omega
 .rw[adj,ad9,agI];omega
theorem eN.Si{o:Option V}{u:Option acY}(r:eN o u):o.isSome=u.isSome:=by
 cases o with
 | none=>cases u with
  | none=>rfl
  | some _=>exact (show False from r).elim
 | some _=>cases u with
  | none=>exact (show False from r).elim
  | some _=>rfl
theorem KV.val{kvs:List (κ × V)}{vs:List (κ × acY)}(r:KV kvs vs)(k:κ):eN (fX kvs k) (aj8 vs k):=by
 unfold KV at r
 induction r with
 | nil=>exact afU
 | @cons p q ps qs h t ih =>
  obtain⟨h1,h2⟩:=h;by_cases e:p.1=k
  .have e':q.1=k:=h1.symm.trans e;have b:aj8 (q::qs) k=some q.2:=by simp[aj8,adN,e']
   rw[tM e,b];exact h2
  .have e':¬ q.1=k:=λz=>e (h1.trans z);have b:aj8 (q::qs) k=aj8 qs k:=by simp[aj8,adN,e']
   rw[tN e,b];exact ih
theorem KV.any{kvs:List (κ × V)}{vs:List (κ × acY)}(r:KV kvs vs)(k:κ):(kvs.any λkv=>decide (kv.1=k))=vs.any λkv=>decide (kv.1=k):=by
 unfold KV at r
 induction r with
 | nil=>rfl
 | cons h t ih=>rw[aeo,aeo,ih,h.1]
theorem KV.ox{kvs:List (κ × V)}{vs:List (κ × acY)}(r:KV kvs vs)(k:κ){y:V}{u:acY}(ry:RelV y u) :
 KV (kvs.map λkv=>if kv.1=k then (kv.1,y) else kv) (vs.map λkv=>if kv.1=k then (kv.1,u) else kv):=by
 unfold KV at r ⊢
 induction r with
 | nil=>exact .nil
 | @cons p q ps qs h t ih =>
  rw[adq,adq];refine .cons ?_ ih;obtain⟨h1,h2⟩:=h;by_cases e:p.1=k
  .rw[if_pos e,if_pos (h1.symm.trans e)];exact⟨h1,ry⟩
  .rw[if_neg e,if_neg (λz=>e (h1.trans z))];exact⟨h1,h2⟩
theorem KV.put{kvs:List (κ × V)}{vs:List (κ × acY)}(r:KV kvs vs)(k:κ){y:V}{u:acY}(ry:RelV y u):KV (putK kvs k y) (stored vs k u):=by
 unfold putK stored;rw[r.any k];by_cases e:(vs.any λkv=>decide (kv.1=k))=true
 .rw[if_pos e,if_pos e];exact r.ox k ry
 .rw[if_neg e,if_neg e];exact Paired.snoc r ⟨rfl,ry⟩
theorem KV.length{kvs:List (κ × V)}{vs:List (κ × acY)}(r:KV kvs vs):kvs.length=vs.length:=Paired.length r
end
theorem xO{P:ado}{w:adM}{k:Key}{u:acY}(r:RelV (kV k) u):(fo P w).is k u=true:=by
 cases k with
 | inl i=>obtain⟨t,e⟩:=(show ∃ t,u=Value.int i t from r);subst e;exact Ow P w i t
 | inr x=>obtain⟨t,e⟩:=(show ∃ t,u=ajF x t from r);subst e;exact Ox P w x t
theorem HI{P:ado}{w:adM}:∀ {ks:List Key} {us:List acY},Vals (ks.map kV) us->ItemsAre (fo P w) ks us
 | [],_,r=>by rw[ahb] at r;cases r;exact .nil
 | k::ks,_,r=>by
  rw[adq] at r;cases r with
  | cons h t=>exact .cons (xO h) (HI t)
noncomputable abbrev KT(H:Hp):List (List Key × V)->List (List Key × ac6 × acY)->Prop:=alw λp q=>p.1=q.1/\H q.2.1=some (.tup (p.1.map kV))/\RelV p.2 q.2.2
theorem KT.val{H:Hp}{kvs:List (List Key × V)}{xs:List (List Key × ac6 × acY)}(r:KT H kvs xs)(k:List Key):eN (fX kvs k) ((alC xs k).map (·.2)):=by
 induction r with
 | nil=>exact afU
 | @cons p q ps qs h t ih =>
  obtain⟨h1,_,h2⟩:=h;by_cases e:p.1=k
  .have e':q.1=k:=h1.symm.trans e;have b:alC (q::qs) k=some q.2:=by simp[alC,adN,e']
   rw[tM e,b];exact h2
  .have e':¬ q.1=k:=λz=>e (h1.trans z);have b:alC (q::qs) k=alC qs k:=by simp[alC,adN,e']
   rw[tN e,b];exact ih
theorem KT.ox{H:Hp}{kvs:List (List Key × V)}{xs:List (List Key × ac6 × acY)}(r:KT H kvs xs)(k:List Key){y:V}{u:acY}(ry:RelV y u) :
 KT H (kvs.map λkv=>if kv.1=k then (kv.1,y) else kv) (xs.map (putAt k u)):=by
 induction r with
 | nil=>exact .nil
 | @cons p q ps qs h t ih =>
  rw[adq,adq];refine .cons ?_ ih;obtain⟨h1,h2,h3⟩:=h;unfold putAt;by_cases e:p.1=k
  .rw[if_pos e,if_pos (h1.symm.trans e)];exact⟨h1,h2,ry⟩
  .rw[if_neg e,if_neg (λz=>e (h1.trans z))];exact⟨h1,h2,h3⟩
theorem KT.put{H:Hp}{kvs:List (List Key × V)}{xs:List (List Key × ac6 × acY)}(r:KT H kvs xs)(k:List Key){b:ac6}{y:V}{u:acY}(hb:H b=some (.tup (k.map kV)))(ry:RelV y u) :
 KT H (putK kvs k y) (storedH xs k b u):=by
 have e:(kvs.any λkv=>decide (kv.1=k))=(alC xs k).isSome:=by rw[HG,(r.val k).Si,Option.isSome_map]
 unfold putK storedH;rw[e];by_cases q:(alC xs k).isSome=true
 .rw[if_pos q,if_pos q];exact r.ox k ry
 .rw[if_neg q,if_neg q];exact Paired.snoc r ⟨rfl,hb,ry⟩
theorem KT.keeps{H H':Hp}{kvs:List (List Key × V)}{xs:List (List Key × ac6 × acY)}(r:KT H kvs xs)(ht:∀ b ys,H b=some (.tup ys)->H' b=some (.tup ys)):KT H' kvs xs :=
 Paired.vR r λ_ _ z=>⟨z.1,ht _ _ z.2.1,z.2.2⟩
section
variable{P:ado}{w:adM}{H:Hp}{h:aeA}{a:ac6}
theorem HJ{u:HO}(ok:bQ P w H h)(e:Rd H a u):bG P w H h a u:=e.ok ok
theorem xP{kvs:List (Key × V)}(ok:bQ P w H h)(e:Rd H a (.dK kvs)):kvs.length<=adz/\(a == afp)=false/\∃ vs,KV kvs vs/\h.DictOf (fo P w) a vs :=
 show bG P w H h a (.dK kvs) from HJ ok e
theorem Sj{kvs:List (Key × V)}(ok:bQ P w H h)(e:H a=some (.dK kvs)):kvs.length<=adz/\(a == afp)=false/\∃ vs,KV kvs vs/\h.DictOf (fo P w) a vs:=xP ok (.inl e)
theorem xQ{ks:List Key}(ok:bQ P w H h)(e:H a=some (.tup (ks.map kV))):(ahZ (fo P w)).is h ks a:=by
 obtain⟨_,af,r,o,h1,h2,n,h3⟩:=(show bG P w H h a (.tup (ks.map kV)) from ok a _ e)
 exact⟨o,af.toArray,n,h1,h2,h3,by simpa using HI r⟩
theorem xR{kvs:List (List Key × V)}(ok:bQ P w H h)(e:Rd H a (.dT kvs)):kvs.length<=adz/\(a == afp)=false /\
 ∃ xs,KT H kvs xs/\h.DictOfH (ahZ (fo P w)) a xs:=by
 obtain⟨z,y,xs,r,o,es,ep,h1,h2,h3,h4,h5⟩:=(show bG P w H h a (.dT kvs) from HJ ok e)
 refine⟨z,y,xs,r,o,es,ep,h1,h2,h3,h4,λx hx=>?_,h5⟩;have all:∀ {l:List (List Key × V)} {m:List (List Key × ac6 × acY)},KT H l m->∀ x∈m,(ahZ (fo P w)).is h x.1 x.2.1:=by
  intro l m q
  induction q with
  | nil=>intro x hx;exact nomatch hx
  | @cons p q ps qs hq t ih =>
   intro x hx;rcases ac9.mp hx with e|hx
   .subst e;exact xQ ok (by rw[<- hq.1];exact hq.2.1)
   .exact ih x hx
 exact all r x hx
theorem xS{kvs:List (List Key × V)}(ok:bQ P w H h)(e:H a=some (.dT kvs)):kvs.length<=adz/\(a == afp)=false /\
 ∃ xs,KT H kvs xs/\h.DictOfH (ahZ (fo P w)) a xs:=xR ok (.inl e)
end
noncomputable def fc(H:Hp)(a:ac6)(y:V)(r:Option V):Prop :=
 (∃ kvs k,Rd H a (.dK kvs)/\y=kV k/\r=fX kvs k) ∨ ∃ kvs k b,Rd H a (.dT kvs)/\y = .ref b/\H b=some (.tup (k.map kV))/\r=fX kvs k
noncomputable def mT(H:Hp)(a:ac6)(y v:V)(H':Hp):Prop :=
 (∃ kvs k,H a=some (.dK kvs)/\y=kV k/\kvs.length<adz/\H'=upd H a (.dK (putK kvs k v))) ∨
 ∃ kvs k b,H a=some (.dT kvs)/\y = .ref b/\H b=some (.tup (k.map kV))/\kvs.length<adz/\H'=upd H a (.dT (putK kvs k v))
theorem fc.t{H:Hp}{a b:ac6}{kvs:List (List Key × V)}{k:List Key}(e:H a=some (.dT kvs))(eb:H b=some (.tup (k.map kV))):fc H a (.ref b) (fX kvs k):=.inr ⟨kvs,k,b,.inl e,rfl,eb,rfl⟩
theorem mT.t{H:Hp}{a b:ac6}{kvs:List (List Key × V)}{k:List Key}{v:V}(e:H a=some (.dT kvs))(eb:H b=some (.tup (k.map kV)))(hl:kvs.length<adz) :
 mT H a (.ref b) v (upd H a (.dT (putK kvs k v))):=.inr ⟨kvs,k,b,e,rfl,eb,hl,rfl⟩
section
variable{X:Cx}{pins:List (ac6 × Obj)}{σ:St}{H:Hp}{s:acZ}{a:ac6}{y v:V}{u r:acY}{o:Option V}{A:adQ}{E:acY->acZ->Prop}
theorem Sk{Q:acY->acZ->Prop}(hu:A.units+1<ajN)(I:Inv X pins σ H s)(g:fc H a y (some v))(ry:RelV y u)(h:∀ w' s',Inv X pins σ H s'->RelV v w'->Q w' s') :
 adg (model X.prog X.w) A (akI (.ref a) u) Q E s:=by
 rcases g with ⟨kvs,k,e,ey,l⟩|⟨kvs,k,b,e,ey,eb,l⟩
 .subst ey;obtain⟨z,hd,vs,rel,dd⟩:=xP I.aj e;obtain⟨w',hw,jQ⟩:=eN.some_of (v:=v) (o:=aj8 vs k) (by rw[l];exact rel.val k);exact wpAny_getItem_of (xO ry) dd.mapOf hw (h w' _ (I.tok _) jQ)
 .subst ey;cases (show u=adI b from ry);obtain⟨z,hd,xs,rel,dd⟩:=xR I.aj e;obtain⟨w',hw,jQ⟩:=eN.some_of (v:=v) (o:=(alC xs k).map (·.2)) (by rw[l];exact rel.val k);obtain⟨p,hp,xT⟩:=adO.mp hw;refine wpAny_getItem_heap (ahJ hu) (xQ I.aj eb) dd hp ?_;rw[xT];exact h w' _ (I.tok _) jQ
theorem HK{h':aeA}{t':Nat}{ob:HO}(I:Inv X pins σ H s)(mu:pK (H a))(hs:Heap.SameBut a s.heap h')(he:∃ q,h'.get? a=some q)(new:bG X.prog X.w (upd H a ob) h' a ob) :
 Inv X pins σ (upd H a ob) { s with heap:=h',toks:=t' } :=
 I.write (x:=a) (e:=a) mu (.inl rfl) (λb q hb z=>(hs.2 b hb).trans z) he new
theorem HL{P:ado}{w:adM}{H':Hp}{h':aeA}{kvs:List (Key × V)}{vs:List (Key × acY)}(z:kvs.length<=adz)(hd:(a == afp)=false)(rel:KV kvs vs)(dd:h'.DictOf (fo P w) a vs) :
 bG P w H' h' a (.dK kvs):=⟨z,hd,vs,rel,dd⟩
theorem Sl{H':Hp}{Q:Unit->acZ->Prop}(hu:A.units+1<ajN)(I:Inv X pins σ H s)(g:mT H a y v H')(ry:RelV y u)(rv:RelV v r)(h:∀ s',Inv X pins σ H' s'->Q () s') :
 adg (model X.prog X.w) A (setItem (.ref a) u r) Q E s:=by
 rcases g with ⟨kvs,k,e,ey,l,eH⟩|⟨kvs,k,b,e,ey,eb,l,eH⟩
 .subst ey eH;obtain⟨z,hd,vs,rel,dd⟩:=Sj I.aj e;have hz:vs.length<=adz:=by rw[<- rel.length];exact z
  have hl:(putK kvs k v).length<=adz:=by have:=HH kvs k v;omega
  refine wpAny_setItem_pairs (hsz:=hz) (xO ry) dd λh' tO hs=>h _ ?_;have he:∃ q,h'.get? a=some q:=let ⟨q,_,_,hq,_⟩:=tO;⟨q,hq⟩;exact HK I (by rw[e];exact afU) hs he (HL hl hd (rel.put k rv) tO)
 .subst ey eH;cases (show u=adI b from ry);obtain⟨z,hd,xs,rel,dd⟩:=xS I.aj e;have hz:xs.length<=adz:=by rw[<- Paired.length rel];exact z
  have hl:(putK kvs k v).length<=adz:=by have:=HH kvs k v;omega
  refine wpAny_setItem_heap (hsz:=hz) (ahJ hu) (xQ I.aj eb) dd λh' tO hs=>h _ ?_;obtain⟨q,es,ep,hq,h2,h3,h4,_,h5⟩:=tO;refine HK I (by rw[e];exact afU) hs ⟨q,hq⟩ ⟨hl,hd,_,(rel.put k eb rv).keeps λc ys ec=>?_,q,es,ep,hq,h2,h3,h4,h5⟩;rw[aB (sd ec e (λz=>nomatch z))];exact ec
variable{X:Cx}{pins:List (ac6 × Obj)}{σ:St}{H:Hp}{s:acZ}{a:ac6}{kvs:List (Key × V)}{k:Key}{u:acY}{A:adQ}{E:acY->acZ->Prop}
end
noncomputable def xU(i:aeY):Prop:=∀ ov iv,subscripted i false ov iv=operate [ov,iv] (akI ov iv)
theorem Sm{prog:ado}{w:adM}{A:adQ}{E:acY->acZ->Prop}{s:acZ}{env:Env}{value slice:aeY}{pos:Pos}{T id:String}{Q:acY->acZ->Prop}
 (hl:aj3 (.type T) "__getitem__" = pure (some (.builtin id))) (hs:xU slice)
 (h:adg (model prog w) A (eval value env) (λo s₁=>adg (model prog w) A (eval slice env) (λi s₂=>s₂.TypeIs o T/\adg (model prog w) A (akI o i) Q E s₂) E s₁) E s) :
 adg (model prog w) A (eval (.Subscript value slice pos) env) Q E s:=by
 refine aj4 (adJ h (λo s₁ h₁=>adJ h₁ (λi s₂ h₂=>?_) λ_ _ x=>x) λ_ _ x=>x);obtain⟨hT,h₂⟩:=h₂;unfold aii;refine acR ?_;rw[getitemInPython_of_ne hT.not_modules];refine acR (ahz hT hl ?_);have fin:adg (model prog w) A (subscripted slice false o i) (λr s₃=>adg (model prog w) A (letTemporaryGo value o r >>= λ_=>pure r) Q E s₃) E s₂:=by rw[hs o i];exact wpAny_operating (adJ h₂ (λr s₃ h₃=>acR (wpAny_letTemporaryGo (acX h₃))) λ_ _ x=>x)
 first
  | exact acX (acR fin)
  | exact acR (acX (acR fin))
  | exact acR fin
theorem Sn{X:Cx}{pins:List (ac6 × Obj)}{σ:St}{H:Hp}{s:acZ}{a:ac6}{y:V}{o:Option V}(I:Inv X pins σ H s)(g:fc H a y o):s.TypeIs (.ref a) "dict" := by
 rcases g with ⟨kvs,k,e,_,_⟩|⟨kvs,k,b,e,_,_,_⟩
 .obtain⟨_,_,vs,_,dd⟩:=xP I.aj e;exact dd.typeIs
 .obtain⟨_,_,xs,_,dd⟩:=xR I.aj e;exact dd.typeIs
noncomputable def xV(td ty:TE):TE:=λσ H Q=>td σ H λx H1=>ty σ H1 λy H2=>∃ a v,x = .ref a/\fc H2 a y (some v)/\Q v H2
noncomputable def So(ty td:TE):TE:=λσ H Q=>ty σ H λy H1=>td σ H1 λx H2=>∃ a o,x = .ref a/\fc H2 a y o/\Q (.bl o.isSome) H2
noncomputable def Sq(ty td:TE):TE:=λσ H Q=>ty σ H λy H1=>td σ H1 λx H2=>∃ a o,x = .ref a/\fc H2 a y o/\Q (.bl (!o.isSome)) H2
noncomputable def HM(td ty tv:TE):TS:=λD σ H=>tv σ H λv H1=>td σ H1 λx H2=>ty σ H2 λy H3=>∃ a H4,x = .ref a/\mT H3 a y v H4/\D.nx σ H4
section
variable{X:Cx}{o i e value:aeY}{pos pos' Pl:Pos}{td ty tv:TE}
theorem oy(hu:X.A.units+1<ajN)(ho:PE X o td)(hi:PE X i ty)(hs:xU i):PE X (.Subscript o i pos) (xV td ty):=by intro pins s σ H Q I h;refine Sm PySem.F.slot_dict_getitem.lookup hs (aA (ho pins s σ H _ I h) λu s1 ⟨x,H1,I1,rx,q1⟩=>aA (hi pins s1 σ H1 _ I1 q1) λiv s2 ⟨y,H2,I2,ry,a,v,ex,g,q2⟩=>?_);subst ex;obtain rfl:u=adI a:=rx;exact⟨Sn I2 g,Sk hu I2 g ry λw' s3 I3 jQ=>⟨v,H2,I3,jQ,q2⟩⟩
theorem xW(hu:X.A.units+1<ajN)(ho:PE X o td)(hi:PE X i ty)(hv:PE X value tv)(hs:aiP value (some (.Subscript o i pos')) pos.line X.env=pure false) :
 PS X (.Assign [.Subscript o i pos'] value pos) (HM td ty tv):=by
 intro pins s σ H D I h;refine wpAny_Assign_Subscript (aA (hv pins s σ H _ I h) λr s1 ⟨v,H1,I1,rv,q1⟩=>aA (ho pins s1 σ H1 _ I1 q1) λu s2 ⟨x,H2,I2,rx,q2⟩=>aA (hi pins s2 σ H2 _ I2 q2) λiv s3 ⟨y,H3,I3,ry,a,H4,ex,g,q3⟩=>?_) hs;subst ex;obtain rfl:u=adI a:=rx;exact Sl hu I3 g ry rv λs4 I4=>⟨σ,H4,I4,q3⟩
variable{X:Cx}{pos:Pos}
end
structure M1(X:Cx)(o:aeY)(m:Str)(apos:Pos)(e:aeY)(cy:Pos):Prop where
 base:af9 o m X.env (eval o X.env)=eval o X.env
 few:((afE cy (adC [e] X.env)).all (λx=>!x.1) && (akB cy (aif [] X.env)).all (λx=>x.1.isSome)
  && decide (([e]:List aeY).length+([]:List aj2).length+(if ([]:List aj2).isEmpty then 0 else 1)<30))=true
 line:(apos.endLine == cy.line)=true
 trees:afE cy (adC [e] X.env)=[(false,eval e X.env)]
structure M2(X:Cx)(o:aeY)(m:Str)(apos:Pos)(e f:aeY)(cy:Pos):Prop where
 base:af9 o m X.env (eval o X.env)=eval o X.env
 few:((afE cy (adC [e,f] X.env)).all (λx=>!x.1) && (akB cy (aif [] X.env)).all (λx=>x.1.isSome)
  && decide (([e,f]:List aeY).length+([]:List aj2).length+(if ([]:List aj2).isEmpty then 0 else 1)<30))=true
 line:(apos.endLine == cy.line)=true
 trees:afE cy (adC [e,f] X.env)=[(false,eval e X.env),(false,eval f X.env)]
section
variable{X:Cx}{pins:List (ac6 × Obj)}{σ:St}{H:Hp}{s:acZ}{a:ac6}{y d:V}{u r:acY}{o:Option V}{A:adQ}{E:acY->acZ->Prop}
variable{X:Cx}{o e f:aeY}{apos cy:Pos}{td ty tx:TE}
variable{X:Cx}{pins:List (ac6 × Obj)}{σ:St}{H:Hp}{s:acZ}{a:ac6}{kvs:List (Key × V)}{A:adQ}{E:acY->acZ->Prop}
variable{X:Cx}{pins:List (ac6 × Obj)}{σ:St}{H:Hp}{s:acZ}{a:ac6}{y:V}{u:acY}{A:adQ}{E:acY->acZ->Prop}
variable{κ:Type}[DecidableEq κ]
theorem HN:∀ {l:List κ} {k:κ},l.Nodup->¬ k∈l->(l++[k]).Nodup
 | [],k,_,_=>by simp
 | a::r,k,h,hk=>by
  obtain⟨h1,h2⟩:=aer.mp h;show (a::(r++[k])).Nodup;refine aer.mpr ⟨λm=>?_,HN h2 λm=>hk (ac9.mpr (aiV m))⟩;rcases adm.mp m with q|q
  .exact h1 q
  .exact hk (ac9.mpr (adv (ady.mp q).symm))
end
end L2
namespace Gz
open PySem PySem.Spec PyProof.Rows L2
noncomputable def bits(bs:List Int):Prop:=∀ x∈bs,x=0∨x=1
theorem Sr{H:Hp}{x dx C:ac6}{fs:List (Str × V)}(hx:H x=none)(hd:H dx=none)(hn:dx≠x):ak H (upd (upd H dx (.own x)) x (.ins C dx fs)) :=
 (aw hd).trans (aw (by rw[aB (adP hn)];exact hx))
noncomputable abbrev Lk:=Option (List Int)
noncomputable def Ss(xs:List ac6)(H:Hp)(v:V):Lk->Prop
 | none=>v = .non
 | some bs=>∃ l,v = .ref l/\l∉xs/\H l=some (.lst (bs.map V.int))
noncomputable abbrev IsL:=Ss []
local macro_rules | `(tactic| walk_at "om") => `(tactic| ((try simp only [PySem.Addr] at *); lia))
section
variable{κ:Type}[DecidableEq κ]
variable{prog:ado}{w:adM}{K:Type}[DecidableEq K]{knd:HeapKind prog w K}{A:adQ}{E:acY->acZ->Prop}{s:acZ}
end
noncomputable def fY(h:aeA)(d:ac6)(es:Array agH)(ep:Nat):Prop:=∃ o,h.get? d=some o/\o.ExactDict/\o.data = .dict es ep
theorem fY.at{h h':aeA}{d:ac6}{es:Array agH}{ep:Nat}(x:fY h d es ep)(e:∀ o,h.get? d=some o->h'.get? d=some o):fY h' d es ep:=let ⟨o,ho,r⟩:=x;⟨o,e o ho,r⟩
theorem fY.lt{h:aeA}{d:ac6}{es:Array agH}{ep:Nat}(x:fY h d es ep):d<h.objs.size:=let ⟨_,ho,_⟩:=x;ac0 ho
theorem fY.ty{s:acZ}{d:ac6}{es:Array agH}{ep:Nat}(x:fY s.heap d es ep):s.TypeIs (.ref d) "dict" := let ⟨o,ho,hc,_⟩:=x;⟨o,ho,hc.1⟩
section
variable{prog:ado}{w:adM}{A:adQ}{E:acY->acZ->Prop}{s:acZ}{d it:ac6}{es:Array agH}{i ep:Nat}
theorem HP{Q:acY->acZ->Prop}(lo:(d == afp)=false)(x:fY s.heap d es ep)
 (q:Q (.ref s.heap.objs.size) { s with heap:=s.heap.push { cls:=.type "dict_keyiterator",data:=.fields #[.ref d,.int 0 0,.int es.size 0,.int ep 0] } }):adg (model prog w) A (alx (.ref d)) Q E s:=by
 have T:=x.ty;obtain⟨o,ho,hc,hq⟩:=x;refine ah8 T aiI (aee aiI T PySem.F.entry_dict_iter ?_ (PySem.F.args_dict_iter_1 _));unfold afH.«dict.__iter__»;refine acR ?_;unfold Builtin.Dict.dictSlotNone;refine acR (wpAny_notOrdered_dict T ?_);refine acX (a:=adI d) ?_;show adg _ A.in1 (Builtin.Dict.showsAll d >>= _) _ _ s;unfold Builtin.Dict.showsAll;rw[if_neg (by rw[lo];exact adu)];refine acR (acX (acR (agZ ho hq (acR (ai6 ho hq ?_)))));refine acR (ad8 (acX ⟨_,rfl,"dict_keyiterator",_,⟨_,ac3 _ rfl,rfl⟩,PySem.F.slot_dict_keyiterator_next.lookup,?_⟩));simpa [agf] using q
theorem HQ{Q:Option acY->acZ->Prop}(hit:s.heap.IsKeyIter it d i es.size ep)(x:fY s.heap d es ep)(hi:i<es.size)
 (q:∀ h',h'.IsKeyIter it d (i+1) es.size ep->Heap.SameBut it s.heap h'->Q (some es[i].key) { s with heap:=h' }):adg (model prog w) A (ae7 (.ref it)) Q E s:=by
 obtain⟨o,ho,hc,hd⟩:=id hit;obtain⟨od,hod,fO,hdd⟩:=x;have T:=hit.typeIs;unfold ae7;refine acR (afw (aei (name:=aeQ "__next__") T aeS (aee aeS T agB ?_ (agm _))));refine acR (acX (acR (acR ?_)))
 first|refine acR (ae6 T (acX (acR (agn ho hd ?_))))|refine acR (afJ T (acX (acR (agn ho hd ?_))))
 have ow:Builtin.Dict_items.ownsTuple "dict_keyiterator" = false:=by decide
 simp only[ow,adk,if_false];show adg _ A.in1 (if (adI d == Value.none)=true then _ else _) _ _ s;rw[if_neg (show ¬ (adI d == Value.none)=true from adu)];refine acR (acX (acR (agZ hod hdd ?_)));rw[if_neg (by simp)];refine acR (acX (acR (ai6 hod hdd ?_)));rw[if_neg (by simp)];refine acX ?_;simp only[show ¬ (i:Int)<0 by lia,if_false,adU,adR hi];refine acR ?_
 first|refine acR (ae6 T (acX (acR (ahd T ?_))))|refine acR (afJ T (acX (acR (ahd T ?_))))
 show adg _ A.in1 (akD (.ref it) 1 (agf ((i:Int)+1)) >>= _) _ _ s;refine acR (ag5 ho hd (by simp) ?_);have j6:(s.heap.update it (agc (·.setIfInBounds 1 (agf ((i:Int)+1))))).IsKeyIter it d (i+1) es.size ep:=⟨_,adG _ ho (Obj.isFreed_of_fields (ajR hd _)),(Obj.cls_mapFields ..).trans hc,by rw[ajR hd];simp[agf]⟩
 refine acR (adZ (acR (ahd (s:={ s with heap:=s.heap.update it (agc (·.setIfInBounds 1 (agf ((i:Int)+1)))) }) j6.typeIs ?_)));show adg _ A.in1 (pure es[i].key) _ _ _;exact acX (acX ⟨_,rfl,acX (q _ j6 (aeF ..))⟩)
theorem HR{Q:Option acY->acZ->Prop}(hh:A.handled=none)(hit:s.heap.IsKeyIter it d es.size es.size ep)(x:fY s.heap d es ep)
 (q:∀ h',akX it s.heap h'->Q none { s with heap:=h' }):adg (model prog w) A (ae7 (.ref it)) Q E s:=by
 obtain⟨o,ho,hc,hd⟩:=id hit;obtain⟨od,hod,fO,hdd⟩:=x;have T:=hit.typeIs;unfold ae7;refine acR (afw (aei (name:=aeQ "__next__") T aeS (aee aeS T agB ?_ (agm _))));refine acR (acX (acR (acR ?_)))
 first|refine acR (ae6 T (acX (acR (agn ho hd ?_))))|refine acR (afJ T (acX (acR (agn ho hd ?_))))
 have ow:Builtin.Dict_items.ownsTuple "dict_keyiterator" = false:=by decide
 simp only[ow,adk,if_false];show adg _ A.in1 (if (adI d == Value.none)=true then _ else _) _ _ s;rw[if_neg (show ¬ (adI d == Value.none)=true from adu)];refine acR (acX (acR (agZ hod hdd ?_)));rw[if_neg (by simp)];refine acR (acX (acR (ai6 hod hdd ?_)));rw[if_neg (by simp)];refine acX ?_;simp only[show ¬ (es.size:Int)<0 by lia,if_false,adU,afW (ac8 es.size)];refine acR ?_
 first|refine acR (ae6 T (acX ?_))|refine acR (afJ T (acX ?_))
 show adg _ A.in1 (akD (.ref it) 0 .none >>= _) _ _ s;refine acR (ag5 ho hd (by simp) ?_);show adg _ A.in1 (newExc (.type "StopIteration") [] >>= _) _ _ _;refine acR ?_;simp only[newExc,alq];refine acR (ad8 ?_ (by size_fits));refine acR (m:=ahR _ _) (aht (a:=Value.none) (by first|rfl|(simp only[ahR];rfl)) ?_);refine ad8 ?_ (by size_fits);simp only[raiseNew];refine acR (wpAny_handled ?_);rw[show A.in1.handled=none from hh];refine acR (acX (wpAny_throw ?_));refine acR (afT (T := "StopIteration") (b:=true) ⟨_,ac3 _ rfl,rfl⟩ ahS ?_);exact acX (q _ (((aeF ..).extBut.push _).push _))
theorem Su(hh:A.handled=none)(I d:ac6)(bg:d≠I)(es:Array agH)(ep:Nat) :
 Walks prog w A I [I,d] [I] es.size (λi v=>∃ e,es[i]?=some e/\v=e.key) (λi h=>h.IsKeyIter I d i es.size ep/\fY h d es ep) where
 sub:=λb hb=>by simp at hb;simp[hb]
 frame:=λ_ _ _ st hk=>⟨st.1.at λo e=>hk I (by simp) o e,st.2.at λo e=>hk d (by simp) o e⟩
 item:=λi s Q E hi st hQ=>by refine HQ st.1 st.2 hi λh' j6 HS=>?_;exact hQ _ h' s.toks ⟨es[i],adR hi,rfl⟩ ⟨j6,st.2.at λo e=>HS.extBut d o bg e⟩ λb o hb e=>HS.extBut b o (λh=>hb (by simp[h])) e
 done:=λs Q E st hQ=>HR hh st.1 st.2 λh' oz=>hQ h' s.toks λb o hb e=>oz b o (λh=>hb (by simp[h])) e
 self:=λ_ _ _ _ st hQ=>ajs st.1 hQ
theorem HU(lo:(d == afp)=false):ajw prog w "dict" d d es.size (λi v=>∃ e,es[i]?=some e/\v=e.key) (λh=>fY h d es ep) where
 type:=λ_ x=>x.ty
 there:=λ_ x=>⟨x.lt,x.lt⟩
 keep:=λ_ _ x hk=>x.at λo e=>hk d (.inl rfl) o e
 notList:=by decide
 notTuple:=by decide
 hint:=λ_ _ _ _ x hq=>PySem.W.kdl_hint_dict x.ty hq
 iter:=λ_ _ hh x=>⟨_,_,(λ_ _ hq=>HP lo x hq),Su hh _ d (adp x.lt) es ep,⟨⟨_,ac3 _ rfl,rfl,rfl⟩,x.at λo e=>acT _ e⟩⟩
variable{prog:ado}{w:adM}{A:adQ}{E:acY->acZ->Prop}{s:acZ}
noncomputable def lC(h:aeA)(vs:List acY)(kis:List (List Int))(i:Nat):Prop:=∃ (p:ac6) (o:Obj) (af:List acY) (m:Nat),vs[i]?=some (.ref p)/\h.get? p=some o/\o.cls = .type "tuple" /\ o.data = .seq af.toArray m/\ahN af (kis.getD i [])/\af≠[]
theorem lC.keep{h h':aeA}{vs:List acY}{kis:List (List Int)}{i:Nat}(x:lC h vs kis i)(k:∀ b o,h.get? b=some o->(∀ n xs,o≠ad2 "list" xs n)->h'.get? b=some o):lC h' vs kis i:=by obtain⟨p,o,af,m,h1,h2,h3,r⟩:=x;exact⟨p,o,af,m,h1,k p o h2 (λn xs z=>by rw[z] at h3;exact absurd (Value.type.inj h3) (by decide)),h3,r⟩
theorem Sv{af:List acY}{ns:List Int}(h:ahN af ns)(hn:af≠[]):∃ i t,af[0]?=some (.int i t):=by
 cases h with
 | nil=>exact absurd rfl hn
 | cons=>exact⟨_,_,rfl⟩
theorem HV{h:aeA}:∀ (vs:List acY) (kis:List (List Int)),kis.length=vs.length->(∀ i,i<vs.length->lC h vs kis i)->∃ fs,akP h vs fs/\fs.length=vs.length/\∀ v∈fs,∃ i t,v = .int i t
 | [],_,_,_=>⟨[],PySem.W.KatTups.nil,rfl,λv z=>by simp at z⟩
 | v::vs,[],e,_=>by simp at e
 | v::vs,k::kis,e,hh=>by
  obtain⟨p,o,af,m,h1,h2,h3,h4,h5,h6⟩:=hh 0 (by simp);have GX:v = .ref p:=by simpa using h1
  subst GX;obtain⟨i,t,hf⟩:=Sv h5 h6;obtain⟨fs,a1,a2,a3⟩:=HV vs kis (by simpa using e) λi hi=>by obtain⟨p,o,af,m,h1,r⟩:=hh (i+1) (by simpa using hi);exact⟨p,o,af,m,by simpa using h1,by simpa using r⟩
  refine⟨.int i t::fs,PySem.W.KatTups.cons h2 h3 h4 (by simpa using hf) a1,by simp[a2],λv hv=>?_⟩;rcases ac9.mp hv with z|z
  .exact⟨i,t,z⟩
  .exact a3 v z
theorem Sw{a:ac6}{vs:List acY}{kis:List (List Int)}{n:Nat}{P:alD->acZ->Prop}(ho:s.heap.get? a=some (ad2 "list" vs.toArray n))(hl:kis.length=vs.length)(bH:vs.length<64)(hk:∀ i,i<vs.length->lC s.heap vs kis i)
 (fin:∀ h',(∀ b o,b≠a->s.heap.get? b=some o->h'.get? b=some o)->(∃ c,h'.get? a=some (ad2 "list" (aeh ((bF (bK kis) vs.length).toList.map λi=>vs.getD i Value.none)) c))->P (.done (.ret .none)) { s with heap:=h' }) :
 adg (model prog w) A (afH.«list.sort» ⟨[.ref a],[]⟩) P E s:=by
 rw[akY];have la:a<s.heap.objs.size:=ac0 ho;refine acR (ai1 ho rfl (acR (ae9 ho rfl ?_ (by rw[ada,aen];walk_at "om") (adw _))));obtain⟨e1,oa⟩:∃ e1,(s.heap.update a (adF λ_=>(#[]:Array acY))).get? a=some (ad2 "list" #[] e1):=⟨_,afZ ho λ_=>#[]⟩
 have keep:∀ b o,b≠a->s.heap.get? b=some o->(s.heap.update a (adF λ_=>(#[]:Array acY))).get? b=some o:=λb o z e=>(ac2 _ _ (adP z)).trans e;refine acR (agA oa rfl ?_);generalize s.heap.update a (adF λ_=>(#[]:Array acY))=g at oa keep ⊢;refine acR (ag3 ?_ (by show vs.length<=_;rw[aen];walk_at "om"));refine acR (agJ ?_ (adw _));refine adZ ?_;show adg (model prog w) A _ P E { s with heap:=(g.push (ad2 "tuple" vs.toArray 0)).push (ad2 "list" #[] 0) };have gD:((g.push (ad2 "tuple" vs.toArray 0)).push (ad2 "list" #[] 0)).get? a=some (ad2 "list" #[] e1):=acT _ (acT _ oa);have jV:∀ b o,b≠a->s.heap.get? b=some o->((g.push (ad2 "tuple" vs.toArray 0)).push (ad2 "list" #[] 0)).get? b=some o:=λb o z e=>acT _ (acT _ (keep b o z e));generalize (g.push (ad2 "tuple" vs.toArray 0)).push (ad2 "list" #[] 0)=g2 at gD jV ⊢;dsimp only;have neT:∀ b o,s.heap.get? b=some o->(∀ n xs,o≠ad2 "list" xs n)->b≠a:=λb o e z y=>by rw[y,ho] at e;cases e;exact z _ _ rfl
 have xX:((bF (bK kis) vs.length).toList.map λi=>vs.getD i Value.none).length=vs.length:=by rw[acV,(kX (n:=vs.length) (iN kis)).1.length_eq,ads]
 have sz:(aeh ((bF (bK kis) vs.length).toList.map λi=>vs.getD i Value.none)).size<=adz+1:=by rw[ada,xX,aen];walk_at "om"
 have done:P (.done (.ret .none)) { s with heap:=g2.update a (adF λ_=>aeh ((bF (bK kis) vs.length).toList.map λi=>vs.getD i Value.none)) } :=
  fin _ (λb o z e=>(ac2 _ _ (adP z)).trans (jV b o z e)) ⟨_,afZ gD λ_=>_⟩
 by_cases h2:vs.toArray.size<2
 .rw[if_pos h2,if_pos h2];refine acR (acX ?_);rw[StateT.run_pure];refine acR (acX ?_);dsimp only;have self:(adx vs.length).map (λi=>vs.getD i Value.none)=vs:=by
   apply ahj
   .simp
   .intro i h1 h2;simp[acU,h2]
  have e0:(alT (SortSt.mk' general' (vs.toArray.zip vs.toArray) #[] 7 none)).map (·.2)=aeh ((bF (bK kis) vs.length).toList.map λi=>vs.getD i Value.none):=by unfold bF;rw[if_pos (by simpa using h2)];apply ais.mp;rw[show (adx vs.length).toArray.toList=adx vs.length from rfl,self];show ((vs.toArray.zip vs.toArray).map (·.2)).toList=_;simp[ait]
  rw[e0];refine acR (agA gD rfl (acR (ae9 gD rfl ?_ (adw _) sz)));simp only[bne_self_eq_false,adk,if_false];exact acX done
 .rw[if_neg h2,if_neg h2];have mI:2<=vs.length:=by rw[ada] at h2;walk_at "om"
  have dF:∀ i,i<vs.length->lC g2 vs kis i:=λi hi=>(hk i hi).keep λb o e z=>jV b o (neT b o e z) e;obtain⟨fs,ht,lf,hi⟩:=HV vs kis hl dF;have eT:(af6 "int" != af6 "tuple")=true:=by decide
  refine acR (aks (s:={ s with heap:=g2 }) (T:=.type "int") ht (by walk_at "om") (λv hv=>?_) (by decide) ?_)
  .obtain⟨i,t,rfl⟩:=hi v hv;exact ah6
  rw[eT];have ask:(aiu vs.length).kasWp (ai2 prog w A (akS true) vs) (λp s'=>s' = { s with heap:=g2 }/\p=bF (bK kis) vs.length) { s with heap:=g2 }:=by
   have pv:=sT _ (sR (n:=vs.length) (iN kis) (by walk_at "om"));refine sP (lt:=bK kis) (n:=vs.length) (Ok:=λs'=>s' = { s with heap:=g2 }) (λi j C s' hi hj e q=>?_) (λp s' e q=>⟨e,?_⟩) _ _ rfl pv
   .subst e;obtain⟨p1,o1,i1,m1,a1,b1,_,c1,d1,_⟩:=dF i hi;obtain⟨p2,o2,i2,m2,a2,b2,_,c2,d2,_⟩:=dF j hj;show adg _ _ (keyLt' (akS true) (vs.getD i Value.none) (vs.getD j Value.none)) C _ _;rw[acU,acU,a1,a2];have z1:=d1.length;have z2:=d2.length;exact ak6 b1 c1 b2 c2 (by simpa using GY (b:=true) (i:=0) d1 d2 (by simp[z1,z2]) (q _ rfl))
   .rw[q];unfold bF;rw[if_neg (by walk_at "om")]
  refine acR (adJ (ai3 (κ:=akS true) (ks:=vs) (vs:=vs) (Q:=λst s'=>s' = { s with heap:=g2 }/\alT st=(bF (bK kis) vs.length).map (aiv (vs.toArray.zip vs.toArray))/\akC st=none)
   rfl mI bH (λp st s' b1 b2 b3 b4=>⟨b4.1,by rw[b2,b4.2],b3⟩) ask) ?_ λ_ _ z=>z)
  rintro ⟨⟨⟩,st⟩ s' ⟨rfl,har,hf⟩;dsimp only;rw[aiw rfl har];refine acR (agA gD rfl (acR (ae9 gD rfl ?_ (adw _) sz)));rw[hf];simp only[bne_self_eq_false,adk,if_false];exact acX done
theorem HW{r:ac6}{vs:List acY}{kis:List (List Int)}{Q:acY->acZ->Prop}(hl:kis.length=vs.length)(bH:vs.length<64)(hk:∀ i,i<vs.length->lC s.heap vs kis i)
 (xY:∀ (A':adQ) (Q':List acY->acZ->Prop) (E':acY->acZ->Prop),A'.handled=A.handled->(∀ h' tk,(∀ b o,s.heap.get? b=some o->h'.get? b=some o)->s.heap.objs.size<=h'.objs.size->Q' vs { s with heap:=h',toks:=tk })->adg (model prog w) A' (collect (.ref r)) Q' E' s)
 (q:∀ l h' tk,s.heap.objs.size<=l->(∀ b o,s.heap.get? b=some o->h'.get? b=some o)->(∃ c,h'.get? l=some (ad2 "list" (aeh ((bF (bK kis) vs.length).toList.map λi=>vs.getD i Value.none)) c))->Q (.ref l) { s with heap:=h',toks:=tk }) :
 adg (model prog w) A (call (.builtin "sorted") [.ref r]) Q E s:=by
 refine ago akQ akk akl (args_sorted1 _) ?_;unfold afH.«sorted»;refine acR (m:=alb "sorted" 1 1 _) (acX (acR (xY _ _ _ rfl λh1 tk keep hsz=>?_)));refine acR (agJ ?_ (by rw[aen];walk_at "om"));have oL:(h1.push (ad2 "list" vs.toArray 0)).get? h1.objs.size=some (ad2 "list" vs.toArray 0):=ac3 _ rfl;have eY:∀ b o,s.heap.get? b=some o->b≠h1.objs.size/\(h1.push (ad2 "list" vs.toArray 0)).get? b=some o:=λb o e=>by have:=ac0 e;exact⟨by walk_at "om",acT _ (keep b o e)⟩
 show adg _ A.in1 (holding [.ref h1.objs.size] (call (.builtin "list.sort") [.ref h1.objs.size]) >>= _) _ _ { s with heap:=h1.push (ad2 "list" vs.toArray 0),toks:=tk };generalize h1.push (ad2 "list" vs.toArray 0)=h2 at oL eY ⊢;generalize h1.objs.size=l at oL eY hsz ⊢;refine acR (adZ (aee ajv ⟨_,oL,rfl⟩ ai0 ?body (args_list_sort _)))
 case body =>
  refine Sw (s:={ s with heap:=h2,toks:=tk }) oL hl bH (λi hi=>(hk i hi).keep λb o e _=>(eY b o e).2) λh' k c=>⟨_,rfl,acX ⟨_,rfl,q l h' tk hsz (λb o e=>k b o (eY b o e).1 (eY b o e).2) c⟩⟩
theorem HX{T:String}{r d:ac6}{n:Nat}{P:Nat->acY->Prop}{OK:aeA->Prop}{Q:List acY->acZ->Prop}(K:ajw prog w T r d n P OK)(hh:A.handled=none)(aj:OK s.heap)(hn:n<=adz)
 (q:∀ h' tk acc,(∀ b o,s.heap.get? b=some o->h'.get? b=some o)->s.heap.objs.size<=h'.objs.size->ItemsOf P acc n->Q acc.toList { s with heap:=h',toks:=tk }):adg (model prog w) A (collect (.ref r)) Q E s:=by
 have lt:=K.there _ aj;unfold collect;refine acR (wpAny_runValue (adV entry_proto_collect' ?_));rw[adE PySem.F.plain_proto_collect _];show adg _ A.in1 (akT [] >>= λl=>again (.builtin "list.__iadd__" ⟨[l,.ref r],[]⟩)) _ _ s;refine acR (ad8 (acX ⟨Code.quiet_builtin _ (by decide +kernel),adV entry_list_iadd' ?_⟩));rw[adE PySem.F.plain_list_iadd _];have oS:(s.heap.push { cls:=.type "list",data:=.seq ([]:List acY).toArray }).get? s.heap.objs.size=some { cls:=.type "list",data:=.seq #[] 0 }:=ac3 _ rfl;show adg _ A.in1 (afj (.ref s.heap.objs.size) (.ref r) (.ref s.heap.objs.size)) _ _ { s with heap:=s.heap.push { cls:=.type "list",data:=.seq ([]:List acY).toArray } };refine PySem.W.kdl_extend (R:=λr s'=>match r with
  | .ok (.ret v)=>adg (model prog w) A (match v with|.ref a=>(do match (<- load a).data with|.seq xs _=>pure xs.toList|_=>unsupported "internal:collect")|_=>unsupported "internal:collect") Q E s'
  | .ok _=>False
  | .error e=>E e s') (s:={ s with heap:=s.heap.push { cls:=.type "list",data:=.seq ([]:List acY).toArray } }) K hh (K.keep _ _ aj λb _ o e=>acT _ e) s.heap.objs.size (aec lt.1) (aec lt.2) (.ref s.heap.objs.size) 0 oS (λh' tk acc c hk hS fZ=>?_) hn
 show adg _ A (load s.heap.objs.size >>= _) _ _ _;refine acR (wpAny_load hS (acX ?_));exact q h' tk acc (λb o e=>hk b o (adp (ac0 e)) (acT _ e)) (ag8 (ac0 hS)) fZ
end
noncomputable def hV(H:Hp)(xs:List V)(kvs:List (List Key × V)):Prop:=ao (λx (kv:List Key × V)=>∃ a,x = .ref a/\H a=some (.tup (kv.1.map kV))) xs kvs
theorem KT.HY{H:Hp}{kvs:List (List Key × V)}{xs:List (List Key × ac6 × acY)}(r:KT H kvs xs):hV H ((xs.map (·.2.1)).map V.ref) kvs:=by
 induction r with
 | nil=>exact trivial
 | cons h t ih=>exact⟨⟨_,rfl,h.2.1⟩,ih⟩
theorem hV.HZ{K:acS}{H:Hp}:∀ {ys:List V} {kvs:List (List Key × V)} {kis:List (List Int)},hV H ys kvs->kvs.map (·.1)=kis.map (λk=>k.map aid)->(∀ k∈kis,k≠[])->bY K H ys kis
 | [],[],[],_,_,_=>trivial
 | [],[],_::_,_,e,_=>by simp at e
 | _::_,kv::kvs,[],_,e,_=>by simp at e
 | y::ys,kv::kvs,k::kis,h,e,hn=>by rw[adq,adq] at e;injection e with e1 e2;obtain⟨⟨a,rfl,ha⟩,t⟩:=h;refine⟨⟨a,rfl,?_,hn k (.head _)⟩,hV.HZ t e2 λk hk=>hn k (.tail _ hk)⟩;rw[e1,ae1] at ha;exact .inl (.inl ha)
 | [],_::_,_,h,_,_=>h.elim
 | _::_,[],_,h,_,_=>h.elim
theorem xZ:∀ (as:List ac6),Vals (as.map V.ref) (as.map adI)
 | []=>.nil
 | _::as=>.cons rfl (xZ as)
section
variable{X:Cx}{pins:List (ac6 × Obj)}{σ:L2.St}{H:Hp}{s:acZ}{p:ac6}{kvs:List (List Key × V)}
theorem Ia(I:Inv X pins σ H s)(e:H p=some (.dT kvs)):∃ (as:List ac6) (es:Array agH) (ep:Nat),hV H (as.map V.ref) kvs/\(p == afp)=false/\fY s.heap p es ep/\es.size=as.length/\(∀ acc:Array acY,ItemsOf (λi v=>∃ e,es[i]?=some e/\v=e.key) acc es.size->acc.toList=as.map adI)/\as.length<=adz:=by
 obtain⟨z,hd,xs,rel,o,es,ep,ho,hc,hdt,he,his,hn⟩:=xS I.aj e;have hl:xs.length=kvs.length:=(Paired.length rel).symm;have hs:es.size=xs.length:=ai7 he;refine⟨xs.map (·.2.1),es,ep,KT.HY rel,hd,⟨o,ho,hc,hdt⟩,by rw[acV];exact hs,λacc ha=>?_,by rw[acV,hl];exact z⟩;refine afK λi=>?_;rw[adi,adi];have la:acc.toList.length=es.size:=by rw[afO];exact ha.1
 by_cases hi:i<es.size
 .obtain⟨v,hv⟩:∃ v,acc.toList[i]?=some v:=⟨_,acW (by lia)⟩
  obtain⟨en,h1,h2⟩:=ha.2 i v (by rw[<- ahe];exact hv);rw[entry_at he i] at h1;cases hx:xs[i]? with
  | none=>rw[hx] at h1;cases h1
  | some y=>rw[hx] at h1;cases h1;rw[hv,h2];rfl
 .rw[ael (by lia),ael (by lia)];rfl
theorem Ib(hc:X.calm=true):eU X (.type "list") (λxs H Q=>∃ p kvs,xs=[.ref p]/\H p=some (.dT kvs)/\∀ l ys,H l=none->hV H ys kvs->Q (.ref l) (upd H l (.lst ys))):=by intro pins s σ H xs us Q I r h;obtain⟨p,kvs,rfl,e,q⟩:=h;obtain⟨u,rfl,rx⟩:=vals1 r;cases rx;obtain⟨as,es,ep,hk,lo,ra,hs,fZ,hz⟩:=Ia I e;refine PySem.W.kdl_call (HU lo) (I.ok.hd hc) ra (by rw[hs];exact hz) λh' tk acc c keep hD ha=>?_;have ea:=fZ acc ha;exact⟨.ref s.heap.objs.size,_,I.laid (t':=tk) keep (ac8 _) (show bG X.prog X.w _ h' _ (.lst (as.map V.ref)) from ⟨by rw[acV];exact hz,as.map adI,c,xZ as,by rw[<- ea,ajt];exact hD⟩),rfl,q _ _ (I.aj.fresh (ac8 _)) hk⟩
theorem Ic(I:Inv X pins σ H s){ks:List V}{kis:List (List Int)}{us:List acY}(h:bY X.K H ks kis)(r:Vals ks us):∀ i,i<us.length->lC s.heap us kis i:=λi hi=>by
 have hk:i<ks.length:=by rw[r.length];exact hi
 have Sx:i<kis.length:=by rw[<- h.len];exact hk
 obtain⟨p,ep,hp⟩:=h.get (acW hk);obtain⟨u,eu,ru⟩:=r.get (acW hk);rw[ep] at ru;cases ru;obtain⟨af,rv,⟨o,ho,hc,m,hd⟩,_⟩:=I.tuple hp;refine⟨p,o,af,m,eu,ho,hc,hd,intsAre_of rv,λz=>?_⟩;have nn:kis.getD i []≠[]:=by
  have all:∀ {ks:List V} {ns:List (List Int)},bY X.K H ks ns->∀ n∈ns,n≠[]:=by
   intro ks
   induction ks with
   | nil=>intro ns h n hn;cases ns with
    | nil=>simp at hn
    | cons _ _=>exact h.elim
   | cons k ks ih=>intro ns h n hn;cases ns with
    | nil=>exact h.elim
    | cons m ns =>
     obtain⟨⟨_,_,_,bg⟩,t⟩:=h;rcases ac9.mp hn with z|z
     .rw[z];exact bg
     .exact ih t n z
  rw[acU,acW Sx];exact all h _ (ahm _)
 have:=rv.length;rw[acV,z] at this;exact nn (aeI.mp this)
theorem x3(I:Inv X pins σ H s){ks:List V}{kis:List (List Int)}{us:List acY}{Q:VK}{l:ac6}{h':aeA}{tk:Nat}(r:Vals ks us)(hz:ks.length<=adz)(hl:s.heap.objs.size<=l)(keep:∀ b o,s.heap.get? b=some o->h'.get? b=some o)
 (hD:∃ c,h'.get? l=some (ad2 "list" (aeh ((bF (bK kis) us.length).toList.map λi=>us.getD i Value.none)) c)) (q:∀ l,H l=none->Q (.ref l) (upd H l (.lst (br kis .non ks)))):EP X pins σ Q (.ref l) { s with heap:=h',toks:=tk }:=by
 obtain⟨c,hD⟩:=hD;have sv:=GZ (kis:=kis) r;rw[r.length] at sv;exact⟨.ref l,_,I.laid (t':=tk) keep hl (show bG X.prog X.w _ h' _ (.lst (br kis .non ks)) from ⟨by rw[n6];exact hz,_,c,sv,hD⟩),rfl,q l (I.aj.fresh hl)⟩
theorem Sy:eU X (.builtin "sorted") (λxs H Q=>∃ (a:ac6) (ks:List V) (kis:List (List Int)),xs=[.ref a]/\ah X.K H a ks/\bY X.K H ks kis/\ks.length<64/\∀ l,H l=none->Q (.ref l) (upd H l (.lst (br kis .non ks)))):=by
 intro pins s σ H xs us Q I r h;obtain⟨a,ks,kis,rfl,hS,hK,bH,q⟩:=h;obtain⟨u,rfl,ru⟩:=vals1 r;cases ru;obtain⟨af,rv,hp,hz⟩:=I.list hS;have hl:af.length=ks.length:=rv.length.symm;refine HW (kis:=kis) (by rw[<- hK.len,hl]) (by lia) (Ic I hK rv) (λA' Q' E' _ hq=>collect_list hp.isList (hq _ s.toks (λb o e=>?_) ?_) (by rw[hl];exact hz)) λl h' tk h1 h2 h3=>x3 I rv hz h1 h2 h3 q
 .have:=ac0 e;exact (ac2 _ _ (by walk_at "om")).trans (acT _ e)
 .rw[air,size_push'];exact agS _
theorem Sz(hc:X.calm=true):eU X (.builtin "sorted") (λxs H Q=>∃ (p:ac6) (kvs:List (List Key × V)) (kis:List (List Int)),xs=[.ref p]/\H p=some (.dT kvs)/\kvs.map (·.1)=kis.map (λk=>k.map aid)/\(∀ k∈kis,k≠[])/\kvs.length<64 /\
 ∀ l ys,H l=none->hV H ys kvs->Q (.ref l) (upd H l (.lst (br kis .non ys)))):=by
 intro pins s σ H xs us Q I r h;obtain⟨p,kvs,kis,rfl,e,ek,bg,bH,q⟩:=h;obtain⟨u,rfl,rx⟩:=vals1 r;cases rx;obtain⟨as,es,ep,hk,lo,ra,hs,fZ,hz⟩:=Ia I e;have la:as.length=kvs.length:=by have:=hk.len;rwa [acV] at this
 have lk:kis.length=kvs.length:=by have:=congrArg List.length ek;simpa using this.symm
 have hK:bY X.K H (as.map V.ref) kis:=hk.HZ ek bg;have rv:=xZ as;refine HW (kis:=kis) (vs:=as.map adI) (by rw[acV];lia) (by rw[acV];lia) (Ic I hK rv) (λA' Q' E' hA hq=>HX (HU lo) (hA.trans (I.ok.hd hc)) ra (by rw[hs];exact hz) λh' tk acc k1 k2 ha=>?_) λl h' tk h1 h2 h3=>x3 I rv (by rw[acV];exact hz) h1 h2 h3 λl hl=>q l _ hl hk;rw[fZ acc ha];exact hq h' tk k1 k2
variable{X:Cx}{pins:List (ac6 × Obj)}{σ:L2.St}{H:Hp}{s:acZ}{p b:ac6}{kvs:List (List Key × V)}{k:List Key}{A:adQ}{E:acY->acZ->Prop}
variable{X:Cx}{o e f:aeY}{td ty tx:TE}{apos cy:Pos}
theorem SA:eU X (.builtin "len") (λxs H Q=>∃ p kvs,xs=[.ref p]/\H p=some (.dT kvs)/\Q (.int kvs.length) H):=by
 intro pins s σ H xs us Q I r h;obtain⟨p,kvs,rfl,e,q⟩:=h;obtain⟨u,rfl,rx⟩:=vals1 r;cases rx;obtain⟨z,lo,xs,rel,o,es,ep,ho,hc,hdt,he,his,hn⟩:=xS I.aj e;have hs:es.size=kvs.length:=(ai7 he).trans (Paired.length rel).symm;have T:s.TypeIs (.ref p) "dict" := ⟨o,ho,hc.1⟩;have g:MeetsIn X.prog X.w (afH.«dict.__len__» ⟨[.ref p],[]⟩) (λ_ R s=>s.heap.get? p=some o/\R (.ok (.ret (.int kvs.length s.toks))) { s with toks:=s.toks+1 }):=.of_wp λA R s ⟨ho,h⟩=>by show adg _ _ (dictSize p >>= _) _ _ s;unfold dictSize;refine acR (acR (agZ ho hdt (acX ?_)));show adg _ _ (Builtin.Dict.pendingCount p >>= _) _ _ s;refine acR (wpAny_pendingCount_other lo (wpAny_ret_mkInt ?_));rw[alE,hs];exact h
 refine ago kind_len plain_len entry_len (args_len1 _) ?_;unfold afH.«len»;refine acR (m:=oneArg "len" _) (acX (acR (m:=callSpecial? (.ref p) (aeQ "__len__")) (aei (name:=aeQ "__len__") T ai8 (call_meetsIn ai8 T PySem.F.entry_dict_len (PySem.F.args_dict_len_1 _) g ⟨ho,?_⟩))));show adg _ _ _ _ _ { s with toks:=s.toks+1 };refine acR (adZ (acX (acR (aeD ?_))));show adg _ _ (if ((kvs.length:Nat):Int)<0 then _ else _) _ _ _;rw[if_neg (by lia)];rw[aen] at z;show adg _ _ (if ((kvs.length:Nat):Int) ≥ 2 ^ 63 then _ else _) _ _ _;rw[if_neg (by lia)];exact acR (wpAny_mkInt (acX ⟨_,rfl,.int kvs.length,H,I.tok _,⟨_,rfl⟩,q⟩))
variable{prog:ado}{w:adM}{K:Type}[DecidableEq K]{knd:KeyKind prog w K}{A:adQ}{E:acY->acZ->Prop}{s:acZ}{o d:ac6}{es:Array agH}{ep:Nat}
end
local macro_rules | `(tactic| walk_at "om") => `(tactic| ((try simp only [PySem.Addr] at *); lia))
section
variable{prog:ado}{w:adM}{A:adQ}{E:acY->acZ->Prop}{s:acZ}
variable{prog:ado}{w:adM}{A:adQ}{E:acY->acZ->Prop}{s:acZ}
variable{X:Cx}{pins:List (ac6 × Obj)}{σ:L2.St}{H:Hp}{s:acZ}
end
theorem bA{c:Prop}[Decidable c]{a b:Prop}(h:c->a)(h':¬ c->b):if c then a else b:=by
 by_cases z:c
 .rw[if_pos z];exact h z
 .rw[if_neg z];exact h' z
theorem HL{P:ado}{w:adM}{H:Hp}(h:aeA)(hb:afp<h.objs.size):bG P w H (h.push { cls:=.type "dict",data:=.dict #[] }) h.objs.size (.dK []) :=
 ⟨adw _,beq_eq_false_iff_ne.mpr (adP (adp hb)),[],.nil,Heap.DictOf.new h⟩
section
variable{X:Cx}{pos:Pos}
theorem Inv.SD{pins:List (ac6 × Obj)}{σ:L2.St}{H:Hp}{s:acZ}(I:Inv X pins σ H s):afp<s.heap.objs.size:=by have h:ac4<s.heap.objs.size:=(I.mod.glob.keeps I.bk).lt;exact alF (by decide) h
noncomputable def Ie:TE:=λ_ H Q=>∀ p,H p=none->Q (.ref p) (upd H p (.dT []))
theorem Ig:PE X (.Dict [] [] pos) Ie:=λpins s σ H Q I h=>wpAny_Dict_empty
 ⟨.ref s.heap.objs.size,_,I.laid (a:=s.heap.objs.size) (o:=.dT []) (t':=s.toks) (λ_ _ z=>acT _ z) (ac8 _)
  ⟨adw _,beq_eq_false_iff_ne.mpr (adP (adp (Inv.SD I))),[],.nil,_,#[],0,ac3 _ rfl,⟨rfl,rfl,rfl⟩,rfl,rfl,ag6⟩,rfl,h _ (I.aj.fresh (ac8 _))⟩
theorem x4{e:aeY}:PE X e (λ_ _ _=>False):=λ_ _ _ _ _ _ h=>h.elim
theorem Ih{x:Str}{n:Int}(h:∃ t,X.mg x=some (.int n t))(hg:Gl X x)(hd:(x == ("__debug__" : Str))=false:=by decide):PE X (.Name x pos) (tC (.int n)):=by obtain⟨t,ht⟩:=h;exact OI (v:=.int n) hg ht ⟨t,rfl⟩ hd
end
local macro_rules | `(tactic| walk_at "om") => `(tactic| ((try simp only [PySem.Addr] at *); lia))
section
variable{M:Model}{A:adQ}{E:acY->acZ->Prop}{s:acZ}{B:aeA}{l outer:List Env}{env:Env}{L x C:ac6}{cls a0 mk:acY}{Q:Unit->acZ->Prop}
variable{P:ado}{w:adM}{K:acS}{mg:Str->Option acY}{base:aeA}{N:List Str}{qual:Str}{scope:ahg}{f:ac6}{cd:acY}{A:adQ}{outer:List Env}{s:acZ}{H:Hp}{E:XK}
variable{X:Cx}{pins:List (ac6 × Obj)}{σ:L2.St}{H2:Hp}{s2:acZ}{x:Str}{px pos:Pos}{elt iter:aeY}{ifs:List aeY}{scope:ahg}{cl:List (Str × ac6)}{fr:List Nat}{ys:List Str}{tt:TT}{te:TE}
variable{X:Cx}{F:acY->acZ->Prop}{pins pn:List (ac6 × Obj)}{σ:L2.St}{H:Hp}{s:acZ}{A':adQ}
end
noncomputable def n4(ks:List P2)(r:Int)(i:Nat):Bool:=decide ((aF ks i).1<=r) && decide (r<=(aF ks (i+1)).1)
local macro_rules | `(tactic| walk_at "om") => `(tactic| ((try simp only [PySem.Addr] at *); lia))
theorem Ii{X:Cx}{A:adQ}{o i:aeY}{pos:Pos}{td ty:TE}(hu:A.units+1<ajN)(ho:PE X o td)(hi:PE X i ty)(hs:xU i)(eA:X.A=A:=by rfl):PE X (.Subscript o i pos) (xV td ty):=by subst eA;exact oy hu ho hi hs
noncomputable abbrev Tb:=List (P2 × S2)
noncomputable def cA(i j:Int):List Key:=[.inl i,.inl j]
theorem x5{a b:P2}(h:cA a.1 a.2=cA b.1 b.2):a=b:=by unfold cA at h;injection h with h1 h2;injection h2 with h2 _;exact Prod.ext (Sum.inl.inj h1) (Sum.inl.inj h2)
noncomputable def bh(tb:Tb)(s:P2):Option S2:=(tb.find? λr=>decide (r.1=s)).map (·.2)
noncomputable def cY(tb:Tb)(s:P2)(w:S2):Tb:=if (tb.any λr=>decide (r.1=s))=true then tb.map (λr=>if r.1=s then (r.1,w) else r) else tb++[(s,w)]
noncomputable def bo(H:Hp):List (List Key × V)->Tb->Prop
 | [],[]=>True
 | kv::kvs,r::tb=>(kv.1=cA r.1.1 r.1.2/\aI H kv.2 r.2.1 r.2.2)/\bo H kvs tb
 | _,_=>False
section
variable{H H':Hp}{kvs:List (List Key × V)}{tb:Tb}
theorem bo.len:∀ {kvs:List (List Key × V)} {tb:Tb},bo H kvs tb->kvs.length=tb.length
 | [],[],_=>rfl
 | _::kvs,_::tb,h=>congrArg (· + 1) (bo.len (kvs:=kvs) (tb:=tb) h.2)
 | [],_::_,h=>h.elim
 | _::_,[],h=>h.elim
theorem bo.imp(f:∀ v a b,aI H v a b->aI H' v a b):∀ {kvs:List (List Key × V)} {tb:Tb},bo H kvs tb->bo H' kvs tb
 | [],[],_=>trivial
 | _::kvs,_::tb,h=>⟨⟨h.1.1,f _ _ _ h.1.2⟩,bo.imp f (kvs:=kvs) (tb:=tb) h.2⟩
 | [],_::_,h=>h.elim
 | _::_,[],h=>h.elim
theorem bo.app:∀ {kvs kZ:List (List Key × V)} {tb jR:Tb},bo H kvs tb->bo H kZ jR->bo H (kvs++kZ) (tb++jR)
 | [],_,[],_,_,h=>h
 | _::kvs,kZ,_::tb,jR,h,h'=>⟨h.1,bo.app (kvs:=kvs) (tb:=tb) h.2 h'⟩
 | [],_,_::_,_,h,_=>h.elim
 | _::_,_,[],_,h,_=>h.elim
theorem bo.keys:∀ {kvs:List (List Key × V)} {tb:Tb},bo H kvs tb->kvs.map (·.1)=tb.map λr=>cA r.1.1 r.1.2
 | [],[],_=>rfl
 | kv::kvs,r::tb,h=>by rw[adq,adq,h.1.1,bo.keys (kvs:=kvs) (tb:=tb) h.2]
 | [],_::_,h=>h.elim
 | _::_,[],h=>h.elim
theorem bo.any(s:P2):∀ {kvs:List (List Key × V)} {tb:Tb},bo H kvs tb->(kvs.any λkv=>decide (kv.1=cA s.1 s.2))=tb.any λr=>decide (r.1=s)
 | [],[],_=>rfl
 | kv::kvs,r::tb,h=>by
  rw[aeo,aeo,bo.any s (kvs:=kvs) (tb:=tb) h.2,h.1.1]
  congr 1
  by_cases e:r.1=s
  .rw[e,decide_eq_true rfl,decide_eq_true rfl]
  .rw[decide_eq_false e,decide_eq_false λz=>e (x5 z)]
 | [],_::_,h=>h.elim
 | _::_,[],h=>h.elim
theorem bo.val(s:P2):∀ {kvs:List (List Key × V)} {tb:Tb},bo H kvs tb->(bh tb s=none->fX kvs (cA s.1 s.2)=none)/\∀ w,bh tb s=some w->∃ v,fX kvs (cA s.1 s.2)=some v/\aI H v w.1 w.2
 | [],[],_=>⟨λ_=>rfl,λw h=>by cases h⟩
 | kv::kvs,r::tb,h=>by
  have ih:=bo.val s (kvs:=kvs) (tb:=tb) h.2;by_cases e:r.1=s
  .have e1:bh (r::tb) s=some r.2:=by simp[bh,adN,e]
   rw[e1,tM (h.1.1.trans (by rw[e]))];exact⟨λz=>(by cases z),λw z=>(by cases z;exact⟨_,rfl,h.1.2⟩)⟩
  .have e1:bh (r::tb) s=bh tb s:=by simp[bh,adN,e]
   rw[e1,tN (λz=>e (x5 (h.1.1.symm.trans z)))];exact ih
 | [],_::_,h=>h.elim
 | _::_,[],h=>h.elim
theorem bo.ox{s:P2}{v:V}{w:S2}(hv:aI H v w.1 w.2):∀ {kvs:List (List Key × V)} {tb:Tb},bo H kvs tb->bo H (kvs.map λkv=>if kv.1=cA s.1 s.2 then (kv.1,v) else kv) (tb.map λr=>if r.1=s then (r.1,w) else r)
 | [],[],_=>trivial
 | kv::kvs,r::tb,h=>by
  rw[adq,adq];refine⟨?_,bo.ox hv (kvs:=kvs) (tb:=tb) h.2⟩;by_cases e:r.1=s
  .rw[if_pos e,if_pos (h.1.1.trans (by rw[e]))];exact⟨h.1.1,hv⟩
  .rw[if_neg e,if_neg (λz=>e (x5 (h.1.1.symm.trans z)))];exact h.1
 | [],_::_,h=>h.elim
 | _::_,[],h=>h.elim
theorem bo.put{s:P2}{v:V}{w:S2}(h:bo H kvs tb)(hv:aI H v w.1 w.2):bo H (putK kvs (cA s.1 s.2) v) (cY tb s w):=by
 unfold putK cY;rw[h.any s];split
 .exact h.ox hv
 .exact h.app ⟨⟨rfl,hv⟩,trivial⟩
theorem bo.qu:∀ {ys:List V} {kvs:List (List Key × V)} {tb:Tb},bo H kvs tb->hV H ys kvs->dm H ys (tb.map (·.1))
 | [],[],[],_,_=>trivial
 | y::ys,kv::kvs,r::tb,h,⟨⟨a,e,ha⟩,t⟩=>⟨⟨a,e,by rw[h.1.1] at ha;exact ha⟩,bo.qu (ys:=ys) (kvs:=kvs) (tb:=tb) h.2 t⟩
 | [],_::_,_,_,h=>h.elim
 | _::_,[],_,_,h=>h.elim
 | _,[],_::_,h,_=>h.elim
 | _,_::_,[],h,_=>h.elim
end
noncomputable def TabAt(H:Hp)(p:ac6)(tb:Tb):Prop:=∃ kvs,H p=some (.dT kvs)/\bo H kvs tb
noncomputable def Fr(H H':Hp):Prop:=∀ b o,(∀ kvs,o≠HO.dT kvs)->H b=some o->H' b=some o
noncomputable def qv(ps:List ac6)(H H':Hp):Prop:=∀ b o,b∉ps->H b=some o->H' b=some o
noncomputable def Ij(H:Hp)(ps:List ac6):Prop:=∀ p∈ps,∃ kvs,H p=some (.dT kvs)
section
variable{H H' H2:Hp}{ps qs:List ac6}{p q:ac6}{tb:Tb}
theorem _root_.L2.ak.fr(s:ak H H'):Fr H H':=λb o _ e=>s b o e
theorem SameBut.but(a:SameBut p H H')(h:p∈ps):qv ps H H':=λc o z e=>a c o (λy=>z (y ▸ h)) e
theorem qv.fr(a:qv ps H H')(d:Ij H ps):Fr H H':=λb o ho e=>by
 by_cases hb:b∈ps
 .obtain⟨kvs,hk⟩:=d b hb;rw[hk] at e;exact absurd (Option.some.inj e).symm (ho kvs)
 .exact a b o hb e
theorem Ik{kvs:List (List Key × V)}{o:HO}(h:H p=some (.dT kvs)):Fr H (upd H p o):=λb u hu e=>by rw[aB (λz=>by rw[z,h] at e;exact hu _ (Option.some.inj e).symm)];exact e
theorem SE{kvs:List (List Key × V)}(h:H p=some (.dT kvs)):Ij H [p]:=λb hb=>⟨kvs,(ady.mp hb) ▸ h⟩
theorem SameBut.fr{kvs:List (List Key × V)}(a:SameBut p H H')(h:H p=some (.dT kvs)):Fr H H':=qv.fr (SameBut.but a (.head _)) (SE h)
theorem aI.fr{v:V}{a b:En}(h:aI H v a b)(f:Fr H H'):aI H' v a b:=let ⟨p,e,hp⟩:=h;⟨p,e,f _ _ (λ_ z=>nomatch z) hp⟩
theorem TabAt.fr(h:TabAt H p tb)(f:Fr H H')(e:∀ kvs,H p=some (.dT kvs)->H' p=some (.dT kvs)):TabAt H' p tb:=let ⟨kvs,a,b⟩:=h;⟨kvs,e _ a,b.imp λ_ _ _ z=>z.fr f⟩
theorem TabAt.same(h:TabAt H p tb)(s:ak H H'):TabAt H' p tb:=h.fr s.fr λ_ e=>s _ _ e
theorem TabAt.ne(h:TabAt H p tb)(hq:H q=none):p≠q:=λz=>by obtain⟨kvs,a,_⟩:=h;rw[z,hq] at a;cases a
end
theorem SF(tb:Tb)(s j:P2)(w:S2):bh (cY tb s w) j=if j=s then some w else bh tb j:=by
 have gen:∀ l:Tb,bh (l.map λr=>if r.1=s then (r.1,w) else r) j=(bh l j).map λx=>if j=s then w else x:=by
  intro l
  induction l with
  | nil=>rfl
  | cons r l ih =>
   rw[adq];by_cases e:r.1=j
   .have e1:bh (r::l) j=some r.2:=by simp[bh,adN,e]
    rw[e1];by_cases z:r.1=s
    .rw[if_pos z];have:bh ((r.1,w)::l.map λr=>if r.1=s then (r.1,w) else r) j=some w:=by simp[bh,adN,e]
     rw[this,Option.map_some,if_pos (e ▸ z)]
    .rw[if_neg z];have:bh (r::l.map λr=>if r.1=s then (r.1,w) else r) j=some r.2:=by simp[bh,adN,e]
     rw[this,Option.map_some,if_neg (λy=>z (e.trans y))]
   .have e1:bh (r::l) j=bh l j:=by simp[bh,adN,e]
    rw[e1,<- ih];by_cases z:r.1=s
    .rw[if_pos z];simp[bh,adN,e]
    .rw[if_neg z];simp[bh,adN,e]
 have SG:∀ l:Tb,(l.any λr=>decide (r.1=s))=(bh l s).isSome:=by
  intro l
  induction l with
  | nil=>rfl
  | cons r l ih =>
   rw[aeo,ih];by_cases e:r.1=s
   .have e1:bh (r::l) s=some r.2:=by simp[bh,adN,e]
    rw[e1];simp[e]
   .have e1:bh (r::l) s=bh l s:=by simp[bh,adN,e]
    rw[e1];simp[e]
 unfold cY;rw[SG];cases hv:bh tb s with
 | some x =>
  rw[if_pos (show (some x).isSome=true from rfl),gen];by_cases e:j=s
  .rw[if_pos e,e,hv,Option.map_some,if_pos rfl]
  .rw[if_neg e];cases bh tb j with
   | none=>rfl
   | some y=>rw[Option.map_some,if_neg e]
 | none =>
  rw[if_neg (by simp)];have app:∀ l:Tb,bh (l++[(s,w)]) j=(bh l j).or (if j=s then some w else none):=by
   intro l
   induction l with
   | nil =>
    by_cases e:j=s
    .simp[bh,e]
    .have e':¬ s=j:=λz=>e z.symm;simp[bh,e,e']
   | cons r l ih =>
    by_cases e:r.1=j
    .simp[bh,adN,e]
    .have:bh (r::l++[(s,w)]) j=bh (l++[(s,w)]) j:=by simp[bh,adN,e]
     rw[this,ih];have:bh (r::l) j=bh l j:=by simp[bh,adN,e]
     rw[this]
  rw[app];by_cases e:j=s
  .simp[e,hv]
  .simp[e]
theorem tP{tb:Tb}{r:P2 × S2}(hn:(tb.map (·.1)).Nodup)(h:r∈tb):bh tb r.1=some r.2:=by
 induction tb with
 | nil=>cases h
 | cons x l ih =>
  rw[adq,aer] at hn;rcases ac9.mp h with z|z
  .rw[<- z];simp[bh,adN]
  .have e:¬ x.1=r.1:=λy=>hn.1 (y ▸ adf.mpr ⟨r,z,rfl⟩);have:bh (x::l) r.1=bh l r.1:=by simp[bh,adN,e]
   rw[this,ih hn.2 z]
noncomputable def j7(e t:Int)(s:P2):Prop:=(0<=s.1/\s.1<e)/\0<=s.2/\s.2<t
instance (e t:Int) (s:P2):Decidable (j7 e t s):=by unfold j7;infer_instance
noncomputable def cB(e t:Int)(tb:Tb):Prop:=(tb.map (·.1)).Nodup/\∀ r∈tb,j7 e t r.1
theorem Il(tb:Tb)(s:P2)(w:S2):(cY tb s w).length<=tb.length+1:=by unfold cY;split<;>simp
theorem cB.put{e t:Int}{tb:Tb}{s:P2}{w:S2}(h:cB e t tb)(hs:j7 e t s):cB e t (cY tb s w):=by
 unfold cY;split
 .refine⟨?_,λr hr=>?_⟩
  .have:(tb.map λr=>if r.1=s then (r.1,w) else r).map (·.1)=tb.map (·.1):=by rw[ae1];refine aeZ λr _=>?_;show (if r.1=s then (r.1,w) else r).1=r.1;split<;>rfl
   rw[this];exact h.1
  .obtain⟨x,hx,rfl⟩:=adf.mp hr;have:=h.2 x hx;split<;>exact this
 .rename_i z;refine⟨?_,λr hr=>?_⟩
  .rw[aea];refine HN h.1 λy=>z ?_;obtain⟨x,hx,e⟩:=adf.mp y;rw[aes];exact⟨x,hx,by simpa using e⟩
  .rcases adm.mp hr with y|y
   .exact h.2 r y
   .rw[ady.mp y];exact hs
theorem cB.nil{e t:Int}:cB e t []:=⟨ag6,λr h=>by cases h⟩
noncomputable def gE(tb:Tb):List (List Int):=tb.map λr=>[r.1.1,r.1.2]
noncomputable def iW(tb:Tb):Tb:=br (gE tb) ((0,0),(none,none)) tb
theorem lD{tb:Tb}{r:P2 × S2}(h:r∈iW tb):r∈tb:=mK.mem_iff.mp h
theorem j8{tb:Tb}:(iW tb).length=tb.length:=n6
theorem ao.sort{α:Type}{R:V->α->Prop}{xs:List V}{as:List α}{d:α}{kis:List (List Int)}(h:ao R xs as):ao R (br kis .non xs) (br kis d as):=by
 have hl:=h.len;have hp:=(kX (n:=xs.length) (iN kis)).1;unfold br;rw[<- hl];have gen:∀ l:List Nat,(∀ i∈l,i<xs.length)->ao R (l.map λi=>xs.getD i .non) (l.map λi=>as.getD i d):=by
  intro l
  induction l with
  | nil=>intro _;exact trivial
  | cons i l ih =>
   intro q;have hi:=q i (.head _);obtain⟨s,es,hs⟩:=h.get (acW hi);refine⟨?_,ih λj hj=>q j (.tail _ hj)⟩;show R (xs.getD i .non) (as.getD i d);rw[acU,acU,es,acW hi];exact hs
 exact gen _ λi hi=>by simpa using hp.mem_iff.mp hi
theorem ao.bind{α β:Type}{R:V->α->Prop}{f:β->α}:∀ {xs:List V} {bs:List β},ao R xs (bs.map f)->ao (λx b=>R x (f b)) xs bs
 | [],[],_=>trivial
 | _::_,_::_,h=>⟨h.1,ao.bind h.2⟩
 | [],_::_,h=>h.elim
 | _::_,[],h=>h.elim
theorem ao.x6{α β:Type}{R:V->α->Prop}{f:β->α}:∀ {xs:List V} {bs:List β},ao (λx b=>R x (f b)) xs bs->ao R xs (bs.map f)
 | [],[],_=>trivial
 | _::_,_::_,h=>⟨h.1,ao.x6 h.2⟩
 | [],_::_,h=>h.elim
 | _::_,[],h=>h.elim
theorem SH{H:Hp}{kvs:List (List Key × V)}{tb:Tb}(h:bo H kvs tb):kvs.map (·.1)=(gE tb).map λk=>k.map aid:=by rw[h.keys];unfold gE;rw[ae1];rfl
theorem SJ{tb:Tb}:∀ k∈gE tb,k≠[]:=λk hk=>by
 obtain⟨r,_,rfl⟩:=adf.mp hk;exact λz=>nomatch z
theorem Im{H:Hp}{kvs:List (List Key × V)}{ys:List V}{tb:Tb}(h:bo H kvs tb)(hk:hV H ys kvs):ao (λx (r:P2 × S2)=>cE H x r.1) (br (gE tb) .non ys) (iW tb):=ao.sort (ao.bind (h.qu hk))
theorem Io{K:acS}{H:Hp}:∀ {ys:List V} {tb:Tb},ao (λx (r:P2 × S2)=>cE H x r.1) ys tb->bY K H ys (gE tb)
 | [],[],_=>trivial
 | y::ys,r::tb,⟨⟨a,e,ha⟩,t⟩=>⟨⟨a,e,.inl (.inl ha),λz=>nomatch z⟩,Io (ys:=ys) (tb:=tb) t⟩
 | [],_::_,h=>h.elim
 | _::_,[],h=>h.elim
noncomputable def fG(H:Hp)(v:V)(r:P2 × S2):Prop:=∃ a w,v = .ref a/\H a=some (.tup [.int r.1.1,.int r.1.2,w])/\aI H w r.2.1 r.2.2
theorem fG.same{H H':Hp}{v:V}{r:P2 × S2}(h:fG H v r)(s:ak H H'):fG H' v r:=let ⟨a,w,e,ha,hw⟩:=h;⟨a,w,e,s _ _ ha,hw.same s⟩
noncomputable def Ip(r:P2 × S2):agl:=.tuple [.int r.1.1,.int r.1.2,xt r.2]
theorem x8{K:acS}{H:Hp}:∀ {xs:List V} {tb:Tb},ao (fG H) xs tb->gY K H xs (tb.map Ip)
 | [],[],_=>.nil
 | x::xs,r::tb,⟨⟨a,w,e,ha,hw⟩,t⟩=>by subst e;exact .cons (.tup (ax.of ha) (.cons (.int _) (.cons (.int _) (.cons (aI.dat hw) .nil)))) (x8 t)
 | [],_::_,h=>h.elim
 | _::_,[],h=>h.elim
theorem SK{a b c d:En}(h:aS a b=true):aS (dQ a c) (dR b d)=true:=by rcases a with _|x<;>rcases b with _|y<;>rcases c with _|z<;>rcases d with _|w<;>simp[aS,dQ,dR] at h ⊢<;>lia
noncomputable def cb(e:S2)(ss:List S2):S2:=ss.foldl (λe s=>(dQ e.1 s.1,dR e.2 s.2)) e
theorem tQ(e s:S2)(ss:List S2):cb e (s::ss)=cb (dQ e.1 s.1,dR e.2 s.2) ss:=rfl
theorem Iq:∀ (ss:List S2) {e:S2},aS e.1 e.2=true->aS (cb e ss).1 (cb e ss).2=true
 | [],_,h=>h
 | s::ss,e,h=>by rw[tQ];exact Iq ss (SK h)
theorem SM{ss:List S2}{e:S2}{i:Nat}(h:aS (cb e (ss.take i)).1 (cb e (ss.take i)).2=true):aS (cb e ss).1 (cb e ss).2=true:=by
 have:cb e ss=cb (cb e (ss.take i)) (ss.drop i):=by unfold cb;rw[<- ah9,aeR]
 rw[this];exact Iq _ h
theorem SN{ss:List S2}{e s:S2}{i:Nat}(h:ss[i]?=some s):cb e (ss.take (i+1))=(dQ (cb e (ss.take i)).1 s.1,dR (cb e (ss.take i)).2 s.2):=by unfold cb;rw[aeM,h,ah9];rfl
noncomputable def cJ(e:S2)(ss:List S2):W2:=if aS (cb e ss).1 (cb e ss).2=true then none else some (cb e ss)
theorem j9{H:Hp}:∀ {xs:List V} {ss:List S2},aU H xs ss↔ao (λx s=>aI H x s.1 s.2) xs ss
 | [],[]=>Iff.rfl
 | _::_,_::_=>and_congr Iff.rfl j9
 | [],_::_=>Iff.rfl
 | _::_,[]=>Iff.rfl
noncomputable abbrev Pa:=Str × Int × S2
noncomputable def lE(H:Hp)(v:V)(p:Pa):Prop:=∃ (t q:ac6),v = .ref t/\H t=some (.tup [.str p.1,.int p.2.1,.ref q])/\H q=some (.tup [ev p.2.2.1,ev p.2.2.2])
theorem lE.same{H H':Hp}{v:V}{p:Pa}(h:lE H v p)(s:ak H H'):lE H' v p:=let ⟨t,q,e,a,b⟩:=h;⟨t,q,e,s _ _ a,s _ _ b⟩
noncomputable abbrev dG(H:Hp):List V->List Pa->Prop:=ao (lE H)
theorem dG.same{H H':Hp}{xs:List V}{ps:List Pa}(h:dG H xs ps)(s:ak H H'):dG H' xs ps:=ao.imp (λ_ _ r=>r.same s) h
theorem lE.fr{H:Hp}{v:V}{p:Pa}{r:ac6}{ys:List V}{o:HO}(h:lE H v p)(hr:H r=some (.lst ys)):lE (upd H r o) v p:=by
 obtain⟨t,q,e,a,b⟩:=h;have h1:t≠r:=λz=>by rw[z,hr] at a;cases a
 have h2:q≠r:=λz=>by rw[z,hr] at b;cases b
 exact⟨t,q,e,by rw[aB h1];exact a,by rw[aB h2];exact b⟩
theorem dG.put{H:Hp}{xs:List V}{ps:List Pa}{r:ac6}{ys:List V}{o:HO}(h:dG H xs ps)(hr:H r=some (.lst ys)):dG (upd H r o) xs ps:=ao.imp (λ_ _ x=>x.fr hr) h
noncomputable def qw(k:Str)(t:Int)(p:Pa):Bool:=decide (p.1=k) && decide (p.2.1=t)
noncomputable def sel(ps:List Pa)(k:Str)(t:Int):List S2:=(ps.filter (qw k t)).map (·.2.2)
noncomputable def hasB(n:Int)(k:Str)(t:Int):Bool:=if k = "step" then decide (0<=t/\t<n) && decide (0<=t+1/\t+1<n) else decide (k = "at") && decide (0<=t/\t<n)
noncomputable def f7(n:Int)(ps:List Pa):Prop:=∀ p∈ps,hasB n p.1 p.2.1=true
theorem x9{n t:Int}:hasB n "step" t=true↔0<=t/\t+1<n:=by unfold hasB;rw[if_pos rfl];simp only[aeH,decide_eq_true_eq];lia
theorem ya{n t:Int}{k:Str}(h:k ≠ "step"):hasB n k t=true↔k = "at" /\ 0<=t/\t<n:=by unfold hasB;rw[if_neg h];simp only[aeH,decide_eq_true_eq]
noncomputable def fH(cs:List Int)(k:Str)(t:Int):Int:=if k = "step" then cs.getD (t+1).toNat 0-cs.getD t.toNat 0 else cs.getD t.toNat 0
noncomputable def eF(cs:List Int)(ps:List Pa):Bool:=ps.all λp=>hold p.2.2.1 p.2.2.2 (fH cs p.1 p.2.1)
theorem int_at{cs:List Int}{t:Int}(h0:0<=t)(h1:t<(cs.length:Int)):cO (cs.map V.int) t=some (.int (cs.getD t.toNat 0)):=by
 have e:t=((t.toNat:Nat):Int):=by lia
 refine (congrArg (cO _) e).trans (eB ?_);rw[adi,acU,acW (by lia)];rfl
structure Gd(n:Nat)(d:agl):Prop where
 eqv:agb d d=true
 lay:d.canLay0=true
 dep:d.depth<=n
theorem Gd.up{n m:Nat}{d:agl}(h:Gd n d)(hm:n<=m):Gd m d:=⟨h.eqv,h.lay,adb h.dep hm⟩
theorem Gd.of{n:Nat}{d:agl}(h:hU n d=true):Gd n d:=let ⟨a,b,c⟩:=HB d h;⟨a,b,c⟩
theorem Gd.int(i:Int):Gd 0 (.int i):=.of rfl
theorem Gd.all:∀ {ds:List agl} {n:Nat},(∀ d∈ds,Gd n d)->aik ds ds=true/\agY ds=true/\ahx ds<=n
 | [],n,_=>⟨rfl,rfl,adw _⟩
 | d::ds,n,h=>by obtain⟨a,b,c⟩:=h d (.head _);obtain⟨a',b',c'⟩:=Gd.all (ds:=ds) λx hx=>h x (.tail _ hx);exact⟨by simp only[aik,a,a',ail],by simp only[agY,b,b',ail],by simp only[ahx];lia⟩
theorem Gd.lst{ds:List agl}{n:Nat}(h:∀ d∈ds,Gd n d):Gd (n+1) (.list ds):=by obtain⟨a,b,c⟩:=Gd.all h;exact⟨by simpa only [agb] using a,by simpa only [ahQ] using b,by simp only[PyData.depth];lia⟩
theorem Gd.tup{ds:List agl}{n:Nat}(h:∀ d∈ds,Gd n d):Gd (n+1) (.tuple ds):=by obtain⟨a,b,c⟩:=Gd.all h;exact⟨by simpa only [agb] using a,by simpa only [ahQ] using b,by simp only[PyData.depth];lia⟩
theorem Ir{K:acS}{H:Hp}{x y:V}{d:agl}{n:Nat}{neg:Bool}{Q:VK}(hx:Dat K H x d)(hy:Dat K H y d)(g:Gd n d)(hn:n<=60)(q:Q (.bl (!neg)) H):Hb K neg x y H Q:=by refine⟨d,d,hx,hy,g.lay,g.lay,adb g.dep hn,?_⟩;rw[g.eqv];cases neg<;>exact q
theorem SO(s:S2):Gd 1 (xt s):=.of (by
 obtain⟨a,b⟩:=s;cases a<;>cases b<;>rfl)
theorem mU{α β:Type}{R:V->α->Prop}{R':V->β->Prop}{Ok:Hp->Prop}{ρ:L2.St}{tt:TT}{te:TE}{p:α->Bool}{f:α->β}{Q':List V->Hp->Prop}{H:Hp}(cD:Ok H):∀ {xs:List V} {as:List α} {ys:List V},ao R xs as ->
 (∀ x a,R x a->∀ Q,Q (p a) H->tt (some x::ρ) H Q)->(∀ x a,p a=true->R x a->∀ Q:VK,(∀ y,R' y (f a)->Q y H)->te (some x::ρ) H Q)->(∀ zs,ao R' zs ((as.filter p).map f)->Q' (ys++zs) H)->dP Ok ρ tt te xs ys H Q'
 | [],[],ys,_,_,_,q=>⟨cD,by simpa using q [] trivial⟩
 | x::xs,a::as,ys,h,ht,he,q=>by
  refine⟨cD,ht x a h.1 _ ?_⟩;by_cases hb:p a=true
  .rw[if_pos hb];refine he x a hb h.1 _ λy ry=>mU cD h.2 ht he λzs hz=>?_;have:=q (y::zs) (by rw[ae5,if_pos hb];exact⟨ry,hz⟩);simpa using this
  .rw[if_neg hb];refine mU cD h.2 ht he λzs hz=>q zs ?_;rw[ae5,if_neg hb];exact hz
 | [],_::_,_,h,_,_,_=>h.elim
 | _::_,[],_,h,_,_,_=>h.elim
theorem yb{K:acS}{i j k:Nat}{p:ac6}{x y z:V}{σ:L2.St}{H:Hp}{Q:L2.St->Hp->Prop}(h:ax K H p [x,y,z])(q:Q (((σ.set i (some x)).set j (some y)).set k (some z)) H):gP K 3 (bU (bR i) (bU (bR j) (bU (bR k) gq))) (.ref p) σ H Q :=
 ⟨p,_,rfl,h,rfl,_,_,rfl,_,_,rfl,_,_,rfl,rfl,q⟩
noncomputable def bD(s:S2)(x:Int):Prop:=(∀ a,s.1=some a->a<=x)/\∀ b,s.2=some b->x<=b
noncomputable def bZ(w:W2)(x:Int):Prop:=∃ s,w=some s/\bD s x
theorem lF{s:S2}{x:Int}:bD s x↔hold s.1 s.2 x=true:=xh.symm
theorem yc{a b:S2}{x:Int}:bD (dQ a.1 b.1,dR a.2 b.2) x↔bD a x/\bD b x:=by obtain⟨a1,a2⟩:=a;obtain⟨b1,b2⟩:=b;unfold bD;rcases a1 with _|p<;>rcases a2 with _|q<;>rcases b1 with _|r<;>rcases b2 with _|s<;>simp[dQ,dR]<;>(try split)<;>(try split)<;>lia
theorem Iu{ss:List S2}{x:Int}:∀ {e:S2},bD (cb e ss) x↔bD e x/\∀ s∈ss,bD s x:=by
 induction ss with
 | nil=>intro e;exact⟨λh=>⟨h,λ_ z=>nomatch z⟩,λh=>h.1⟩
 | cons s ss ih =>
  intro e;rw[tQ,ih,yc];simp only[ac9,forall_eq_or_imp,and_assoc]
theorem SQ{s:S2}(h:aS s.1 s.2=false):∃ x,bD s x:=by
 obtain⟨a,b⟩:=s;rcases a with _|a<;>rcases b with _|b
 .exact⟨0,λ_ z=>(nomatch z),λ_ z=>(nomatch z)⟩
 .exact⟨b,λ_ z=>(nomatch z),λ_ z=>by cases z;exact aew _⟩
 .exact⟨a,λ_ z=>by cases z;exact aew _,λ_ z=>(nomatch z)⟩
 .refine⟨a,λ_ z=>by cases z;exact aew _,λ_ z=>?_⟩;cases z;simp[aS] at h;exact h
theorem Iv{s:S2}{x:Int}(h:bD s x):aS s.1 s.2=false:=by
 obtain⟨a,b⟩:=s;rcases a with _|a<;>rcases b with _|b
 .rfl
 .rfl
 .rfl
 .have h1:=h.1 a rfl;have h2:=h.2 b rfl;simp[aS];lia
noncomputable def gF(a b:S2):W2:=if aS (dQ a.1 b.1) (dR a.2 b.2)=true then none else some (dQ a.1 b.1,dR a.2 b.2)
theorem mV{a b:S2}{x:Int}:bZ (gF a b) x↔bD a x/\bD b x:=by
 unfold gF;constructor
 .rintro ⟨s,e,h⟩;split at e
  .cases e
  .cases e;exact yc.mp h
 .intro h;have h:=yc.mpr h;rw[if_neg (by rw[Iv h];simp)];exact⟨_,rfl,h⟩
theorem Iw{a b s:S2}(h:gF a b=some s):aS s.1 s.2=false:=by
 unfold gF at h;split at h
 .cases h
 .rename_i hc;cases h;simpa using hc
theorem qx{ss:List S2}{x:Int}:bZ (cJ (none,none) ss) x ↔ ∀ s∈ss,bD s x:=by
 have e0:bD (none,none) x:=⟨λ_ z=>(nomatch z),λ_ z=>(nomatch z)⟩
 unfold cJ;constructor
 .rintro ⟨s,e,h⟩;split at e
  .cases e
  .cases e;exact (Iu.mp h).2
 .intro h;have h:=Iu.mpr ⟨e0,h⟩;rw[if_neg (by rw[Iv h];simp)];exact⟨_,rfl,h⟩
noncomputable def dU(s:S2)(p:P2):S2:=(s.1.map (· + p.1),s.2.map (· + p.2))
theorem tR{s:S2}{p:P2}{x y:Int}(h:bD s x)(h1:p.1<=y-x)(h2:y-x<=p.2):bD (dU s p) y:=by
 obtain⟨a,b⟩:=s;refine⟨λz e=>?_,λz e=>?_⟩
 .obtain⟨a,ea,rfl⟩:=adO.mp (show a.map (· + p.1)=some z from e);have:=h.1 a ea;lia
 .obtain⟨b,eb,rfl⟩:=adO.mp (show b.map (· + p.2)=some z from e);have:=h.2 b eb;lia
theorem SR{s:S2}{p:P2}{y:Int}(hs:aS s.1 s.2=false)(hp:p.1<=p.2)(h:bD (dU s p) y):∃ x,bD s x/\p.1<=y-x/\y-x<=p.2:=by
 obtain⟨a,b⟩:=s;rcases a with _|a<;>rcases b with _|b
 .exact⟨y-p.1,⟨λ_ z=>(nomatch z),λ_ z=>(nomatch z)⟩,by lia,by lia⟩
 .have h2:=h.2 (b+p.2) rfl;exact⟨y-p.2,⟨λ_ z=>(nomatch z),λ_ z=>by cases z;lia⟩,by lia,by lia⟩
 .have h1:=h.1 (a+p.1) rfl;exact⟨y-p.1,⟨λ_ z=>by cases z;lia,λ_ z=>(nomatch z)⟩,by lia,by lia⟩
 .have h1:=h.1 (a+p.1) rfl;have h2:=h.2 (b+p.2) rfl;simp[aS] at hs;by_cases hc:a<=y-p.2
  .exact⟨y-p.2,⟨λ_ z=>by cases z;lia,λ_ z=>by cases z;lia⟩,by lia,by lia⟩
  .exact⟨a,⟨λ_ z=>by cases z;lia,λ_ z=>by cases z;lia⟩,by lia,by lia⟩
noncomputable def aW(bx:Nat->W2)(st:Nat->P2):Nat->W2
 | 0=>bx 0
 | t+1=>match bx (t+1),aW bx st t with
  | some b,some k=>gF b (dU k (st t))
  | _,_=>none
noncomputable def mW(w:W2):Prop:=∀ s,w=some s->aS s.1 s.2=false
theorem tS{bx:Nat->W2}{st:Nat->P2}(h0:mW (bx 0)):∀ t,mW (aW bx st t)
 | 0=>h0
 | t+1=>λs e=>by
  unfold aW at e;split at e
  .exact Iw e
  .cases e
theorem Iy{bx:Nat->W2}{st:Nat->P2}{t:Nat}{s:S2}(h:aW bx st (t+1)=some s):∃ b k,bx (t+1)=some b/\aW bx st t=some k/\gF b (dU k (st t))=some s:=by
 unfold aW at h;split at h
 .rename_i b k e1 e2;exact⟨b,k,e1,e2,h⟩
 .cases h
theorem tT{bx:Nat->W2}{st:Nat->P2}{c:Nat->Int}{n:Nat}(hb:∀ t,t<=n->bZ (bx t) (c t))(hs:∀ t,t<n->(st t).1<=c (t+1)-c t/\c (t+1)-c t<=(st t).2):∀ t,t<=n->bZ (aW bx st t) (c t)
 | 0,h=>hb 0 h
 | t+1,h=>by obtain⟨k,ek,hk⟩:=tT hb hs t (by lia);obtain⟨b,eb,yd⟩:=hb (t+1) h;obtain⟨h1,h2⟩:=hs t (by lia);unfold aW;rw[eb,ek];exact mV.mpr ⟨yd,tR hk h1 h2⟩
theorem tU{bx:Nat->W2}{st:Nat->P2}{x:Int}:∀ {t:Nat},bZ (aW bx st t) x->bZ (bx t) x
 | 0,h=>h
 | t+1,⟨s,e,h⟩=>by obtain⟨b,k,e1,_,e3⟩:=Iy e;exact⟨b,e1,(mV.mp ⟨s,e3,h⟩).1⟩
theorem ye{bx:Nat->W2}{st:Nat->P2}(h0:mW (bx 0)){t:Nat}(hp:(st t).1<=(st t).2){y:Int}(h:bZ (aW bx st (t+1)) y):∃ x,bZ (aW bx st t) x/\(st t).1<=y-x/\y-x<=(st t).2:=by obtain⟨s,e,h⟩:=h;obtain⟨b,k,_,e2,e3⟩:=Iy e;obtain⟨x,hx,h1,h2⟩:=SR (tS h0 t k e2) hp (mV.mp ⟨s,e3,h⟩).2;exact⟨x,⟨k,e2,hx⟩,h1,h2⟩
noncomputable def dW(n:Nat)(st:Nat->P2)(t:Nat):P2:=(-(st (n-1-t)).2,-(st (n-1-t)).1)
noncomputable def cp(n:Nat)(bx:Nat->W2)(st:Nat->P2)(t:Nat):W2:=aW (λk=>aW bx st (n-k)) (dW n st) (n-t)
structure mX(n:Nat)(bx:Nat->W2)(st:Nat->P2):Prop where
 ok:∀ t,t<=n->∃ s,cp n bx st t=some s/\aS s.1 s.2=false
 sub:∀ t x,t<=n->bZ (cp n bx st t) x->bZ (bx t) x
 next:∀ t x,t<n->bZ (cp n bx st t) x->∃ y,bZ (cp n bx st (t+1)) y/\(st t).1<=y-x/\y-x<=(st t).2
theorem SU{n:Nat}{bx:Nat->W2}{st:Nat->P2}(h0:mW (bx 0))(hp:∀ t,t<n->(st t).1<=(st t).2)(hf:∀ t,t<=n->aW bx st t≠none):mX n bx st:=by
 have yf:=tS (st:=st) h0;have SV:∀ k,k<=n->∃ s,aW (λk=>aW bx st (n-k)) (dW n st) k=some s:=by
  intro k
  induction k with
  | zero =>
   intro _;obtain⟨s,e⟩:=ahF.mp (hf n (ac8 _));exact⟨s,e⟩
  | succ k ih =>
   intro hk;obtain⟨s,e⟩:=ih (by lia);obtain⟨y,hy⟩:=SQ (tS (bx:=λk=>aW bx st (n-k)) (yf n) k s e);have Iz:bZ (aW bx st (n-k)) y:=tU (bx:=λk=>aW bx st (n-k)) ⟨s,e,hy⟩;rw[show n-k=n-(k+1)+1 by lia] at Iz;obtain⟨x,⟨f,ef,hx⟩,h1,h2⟩:=ye h0 (hp _ (by lia)) Iz;have em:n-1-k=n-(k+1):=by lia
   have hm:bD (dU s (dW n st k)) x:=tR hy (by unfold dW;rw[em];dsimp only;lia) (by unfold dW;rw[em];dsimp only;lia);obtain⟨z,ez,_⟩:=mV.mpr ⟨hx,hm⟩;refine⟨z,?_⟩;unfold aW;rw[e];show (match aW bx st (n-(k+1)),some s with
    | some b,some SW=>gF b (dU SW (dW n st k))
    | _,_=>none)=some z
   rw[ef];exact ez
 refine⟨λt ht=>?_,λt x ht h=>?_,λt x ht h=>?_⟩
 .obtain⟨s,e⟩:=SV (n-t) (by lia);exact⟨s,e,tS (bx:=λk=>aW bx st (n-k)) (yf n) _ s e⟩
 .have:=tU (bx:=λk=>aW bx st (n-k)) h;rw[show n-(n-t)=t by lia] at this;exact tU this
 .unfold cp at h;rw[show n-t=n-(t+1)+1 by lia] at h;have hb:(dW n st (n-(t+1))).1<=(dW n st (n-(t+1))).2:=by unfold dW;have:=hp (n-1-(n-(t+1))) (by lia);dsimp only;lia
  obtain⟨y,hy,h1,h2⟩:=ye (bx:=λk=>aW bx st (n-k)) (yf n) hb h;have em:n-1-(n-(t+1))=t:=by lia
  unfold dW at h1 h2;rw[em] at h1 h2;dsimp only at h1 h2;exact⟨y,hy,by lia,by lia⟩
noncomputable def dX(ps:List P2)(c:Nat->Int):Prop:=∀ k,k<ps.length->(aF ps k).1<=c (k+1)-c k/\c (k+1)-c k<=(aF ps k).2
theorem yg{ps:List P2}{c:Nat->Int}(h:dX ps c){i:Nat}:∀ n,i+n<=ps.length->pre (·.1) ps (i+n)-pre (·.1) ps i<=c (i+n)-c i/\c (i+n)-c i<=pre (·.2) ps (i+n)-pre (·.2) ps i
 | 0,_=>by simp
 | n+1,hn=>by have ih:=yg h (i:=i) n (by lia);have hk:=h (i+n) (by lia);rw[show i+(n+1)=(i+n)+1 by lia,gC _ ps (by lia),gC _ ps (by lia)];lia
theorem SX{ps:List P2}{c:Nat->Int}(h:dX ps c){i j:Nat}(hi:i<=ps.length)(hj:j<=ps.length):c j-c i<=bI ps i j:=by
 unfold bI;split
 .have:=(yg h (i:=i) (j-i) (by lia)).2
  rwa [show i+(j-i)=j by lia] at this
 .have:=(yg h (i:=j) (i-j) (by lia)).1;rw[show j+(i-j)=i by lia] at this;lia
noncomputable abbrev Mk:=Nat × S2
noncomputable def meets(ms:List Mk)(c:Nat->Int):Prop:=∀ m∈ms,bD m.2 (c m.1)
structure kc(ps:List P2)(ms:List Mk)(tp:Nat->Option P2):Prop where
 val:∀ t v k,t<=ps.length->tp t=some (v,k)->∃ (i:Nat) (m:Mk) (h:Int),k=(i:Int)/\ms[i]?=some m/\m.2.2=some h/\h+bI ps m.1 t<=v
 top:∀ m∈ms,∀ h,m.2.2=some h->∃ v k,tp m.1=some (v,k)/\v<=h
 fwd:∀ t v k,t<ps.length->tp t=some (v,k)->∃ v' k',tp (t+1)=some (v',k')/\v'<=v+(aF ps t).2
 bwd:∀ t v k,t<ps.length->tp (t+1)=some (v,k)->∃ v' k',tp t=some (v',k')/\v'<=v-(aF ps t).1
noncomputable def qy(ms:List Mk)(tp:Nat->Option P2):Prop:=∀ m∈ms,∀ l v k,m.2.1=some l->tp m.1=some (v,k)->l<=v
theorem SY{ps:List P2}{ms:List Mk}{tp:Nat->Option P2}(hp:cI ps)(hm:∀ m∈ms,m.1<=ps.length)(T:kc ps ms tp)(hn:qy ms tp):∃ c,dX ps c/\meets ms c:=by
 by_cases h0:tp 0=none
 .have S0:∀ t,t<=ps.length->tp t=none:=by
   intro t
   induction t with
   | zero=>intro _;exact h0
   | succ t ih =>
    intro ht;cases e:tp (t+1) with
    | none=>rfl
    | some q =>
     obtain⟨v,k⟩:=q;obtain⟨v',k',e',_⟩:=T.bwd t v k (by lia) e;rw[ih (by lia)] at e';cases e'
  have S9:∀ m∈ms,m.2.2=none:=λm cg=>by
   cases e:m.2.2 with
   | none=>rfl
   | some h =>
    obtain⟨v,k,e',_⟩:=T.top m cg h e;rw[S0 m.1 (hm m cg)] at e';cases e'
  have big:∀ (l:List Mk),∃ M:Int,∀ m∈l,∀ a,m.2.1=some a->a<=M+pre (·.1) ps m.1:=by
   intro l
   induction l with
   | nil=>exact⟨0,λ_ z=>nomatch z⟩
   | cons m l ih =>
    obtain⟨M,hM⟩:=ih;cases e:m.2.1 with
    | none =>
     refine⟨M,λq hq a ha=>?_⟩;rcases ac9.mp hq with rfl|hq
     .rw[e] at ha;cases ha
     .exact hM q hq a ha
    | some b =>
     refine⟨if M<=b-pre (·.1) ps m.1 then b-pre (·.1) ps m.1 else M,λq hq a ha=>?_⟩;rcases ac9.mp hq with rfl|hq
     .rw[e] at ha;cases ha;split<;>lia
     .have:=hM q hq a ha;split<;>lia
  obtain⟨M,hM⟩:=big ms;refine⟨λt=>M+pre (·.1) ps t,λk hk=>?_,λm cg=>⟨λa ha=>hM m cg a ha,λb hb=>?_⟩⟩
  .have:=hp _ (mS hk);dsimp only;rw[gC _ ps hk];lia
  .rw[S9 m cg] at hb;cases hb
 .have IA:∀ t,t<=ps.length->∃ v k,tp t=some (v,k):=by
   intro t
   induction t with
   | zero =>
    intro _;obtain⟨⟨v,k⟩,e⟩:=ahF.mp h0;exact⟨v,k,e⟩
   | succ t ih =>
    intro ht;obtain⟨v,k,e⟩:=ih (by lia);obtain⟨v',k',e',_⟩:=T.fwd t v k (by lia) e;exact⟨v',k',e'⟩
  refine⟨λt=>((tp t).map (·.1)).getD 0,λk hk=>?_,λm cg=>⟨λa ha=>?_,λb hb=>?_⟩⟩
  .obtain⟨v,q,e⟩:=IA k (by lia);obtain⟨v',q',e',h1⟩:=T.fwd k v q hk e;obtain⟨v2,q2,e2,h2⟩:=T.bwd k v' q' hk e';rw[e] at e2;cases e2;dsimp only;rw[e,e'];simp only[Option.map_some,ahl];lia
  .obtain⟨v,q,e⟩:=IA m.1 (hm m cg);have:=hn m cg a v q ha e;dsimp only;rw[e];exact this
  .obtain⟨v,q,e,h1⟩:=T.top m cg b hb;dsimp only;rw[e];exact h1
noncomputable def ke(ps:List P2)(a b:Mk):Prop:=∃ h l,a.2.2=some h/\b.2.1=some l/\h+bI ps a.1 b.1<l
theorem Tc{ps:List P2}{ms:List Mk}{c:Nat->Int}(hc:dX ps c)(hm:meets ms c)(ht:∀ m∈ms,m.1<=ps.length){a b:Mk}(ha:a∈ms)(hb:b∈ms):¬ ke ps a b:=by rintro ⟨h,l,e1,e2,aZ⟩;have h1:=(hm a ha).2 h e1;have h2:=(hm b hb).1 l e2;have h3:=SX hc (ht a ha) (ht b hb);lia
noncomputable def fe(a b:P2):Bool:=decide (a.1<b.1) || (decide (a.1=b.1) && decide (a.2<b.2))
noncomputable def ff(a b:P2):P2:=if fe b a=true then b else a
noncomputable def jv:Option P2->Option P2->Option P2
 | none,b=>b
 | some a,none=>some a
 | some a,some b=>some (ff a b)
theorem yh(a b:P2):(ff a b=a∨ff a b=b)/\(ff a b).1<=a.1/\(ff a b).1<=b.1:=by
 unfold ff fe;split
 .rename_i h;simp only[af0,aeH,decide_eq_true_eq] at h;exact⟨.inr rfl,by lia,by lia⟩
 .rename_i h;simp only[af0,aeH,decide_eq_true_eq,not_or,not_and] at h;exact⟨.inl rfl,by lia,by lia⟩
theorem IB(a b:Option P2):jv a b=a∨jv a b=b:=by
 rcases a with _|a<;>rcases b with _|b
 .exact .inl rfl
 .exact .inr rfl
 .exact .inl rfl
 .show some (ff a b)=some a∨some (ff a b)=some b;rcases (yh a b).1 with h|h<;>rw[h]
  .exact .inl rfl
  .exact .inr rfl
noncomputable def eG(a:Option P2)(v:Int):Prop:=∃ w k,a=some (w,k)/\w<=v
theorem Td{a b:Option P2}{v:Int}(h:eG a v):eG (jv a b) v:=by
 obtain⟨w,k,rfl,hw⟩:=h;rcases b with _|b
 .exact⟨w,k,rfl,hw⟩
 .have:=(yh (w,k) b).2.1;exact⟨(ff (w,k) b).1,(ff (w,k) b).2,rfl,by dsimp only at this;lia⟩
theorem yi{a b:Option P2}{v:Int}(h:eG b v):eG (jv a b) v:=by
 obtain⟨w,k,rfl,hw⟩:=h;rcases a with _|a
 .exact⟨w,k,rfl,hw⟩
 .have:=(yh a (w,k)).2.2;exact⟨(ff a (w,k)).1,(ff a (w,k)).2,rfl,by dsimp only at this;lia⟩
noncomputable def oA(a:Option P2)(Te:Int):Option P2:=a.map λq=>(q.1+Te,q.2)
theorem IC{a:Option P2}{v b:Int}(h:eG a v):eG (oA a b) (v+b):=by obtain⟨w,k,rfl,hw⟩:=h;exact⟨w+b,k,rfl,by lia⟩
noncomputable def gb(ps:List P2)(ms:List Mk)(t:Nat)(a:Option P2):Prop:=∀ v k,a=some (v,k)->∃ (i:Nat) (m:Mk) (h:Int),k=(i:Int)/\ms[i]?=some m/\m.2.2=some h/\h+bI ps m.1 t<=v
theorem gb.yj{ps:List P2}{ms:List Mk}{t:Nat}{a b:Option P2}(ha:gb ps ms t a)(hb:gb ps ms t b):gb ps ms t (jv a b):=by
 rcases IB a b with h|h<;>rw[h]
 .exact ha
 .exact hb
theorem Tf(ps:List P2)(t:Nat):bI ps t t=0:=by unfold bI;rw[if_pos (ac8 _)];lia
theorem Tg{ps:List P2}{t:Nat}(h:t<ps.length):bI ps t (t+1)=(aF ps t).2:=by unfold bI;rw[if_pos (agS _),gC _ ps h];lia
theorem Th{ps:List P2}{t:Nat}(h:t<ps.length):bI ps (t+1) t = -(aF ps t).1:=by unfold bI;rw[if_neg (by lia),gC _ ps h];lia
theorem gb.lift{ps:List P2}{ms:List Mk}(hp:cI ps)(hm:∀ m∈ms,m.1<=ps.length){t u:Nat}(ht:t<=ps.length)(hu:u<=ps.length){a:Option P2}{b:Int}(hb:bI ps t u=b)(h:gb ps ms t a):gb ps ms u (oA a b):=by intro v k e;obtain⟨⟨w,q⟩,ea,e⟩:=adO.mp e;cases e;obtain⟨i,m,x,e1,e2,e3,hx⟩:=h w q ea;refine⟨i,m,x,e1,e2,e3,?_⟩;have:=Sh hp (hm m (adl e2)) hu ht;dsimp only;lia
noncomputable def jw(tp:Nat->Option P2)(i:Nat)(x:Option P2):Nat->Option P2:=λt=>if t=i then x else tp t
theorem mY{tp:Nat->Option P2}{i:Nat}{x:Option P2}:jw tp i x i=x:=if_pos rfl
theorem kf{tp:Nat->Option P2}{i t:Nat}{x:Option P2}(h:t≠i):jw tp i x t=tp t:=if_neg h
theorem ID{ps:List P2}{ms:List Mk}{tp:Nat->Option P2}{i:Nat}{x:Option P2}(h:∀ t,t<=ps.length->gb ps ms t (tp t))(hx:gb ps ms i x):∀ t,t<=ps.length->gb ps ms t (jw tp i x t):=λt ht=>by
 by_cases e:t=i
 .subst e;rw[mY];exact hx
 .rw[kf e];exact h t ht
theorem tV{tp:Nat->Option P2}{i t:Nat}{b:Option P2}{v:Int}(h:eG (tp t) v):eG (jw tp i (jv (tp i) b) t) v:=by
 by_cases e:t=i
 .subst e;rw[mY];exact Td h
 .rw[kf e];exact h
structure T1(ps:List P2)(ms:List Mk)(j:Nat)(tp:Nat->Option P2):Prop where
 val:∀ t,t<=ps.length->gb ps ms t (tp t)
 top:∀ m∈ms.take j,∀ h,m.2.2=some h->eG (tp m.1) h
theorem T1.nil{ps:List P2}{ms:List Mk}:T1 ps ms 0 λ_=>none:=⟨λ_ _ _ _ e=>(nomatch e),λ_ h=>by simp at h⟩
theorem T1.skip{ps:List P2}{ms:List Mk}{j:Nat}{tp:Nat->Option P2}{m:Mk}(T:T1 ps ms j tp)(hm:ms[j]?=some m)(hn:m.2.2=none):T1 ps ms (j+1) tp:=⟨T.val,λq hq h e=>by
 rw[aeM,hm] at hq;rcases adm.mp hq with z|z
 .exact T.top q z h e
 .obtain rfl:q=m:=by simpa using z
  rw[hn] at e;cases e⟩
theorem T1.put{ps:List P2}{ms:List Mk}{j:Nat}{tp:Nat->Option P2}{m:Mk}{h:Int}(T:T1 ps ms j tp)(hm:ms[j]?=some m)(hh:m.2.2=some h):T1 ps ms (j+1) (jw tp m.1 (jv (tp m.1) (some (h,(j:Int))))):=by
 have hv:gb ps ms m.1 (some (h,(j:Int))):=λv k e=>by cases e;exact⟨j,m,h,rfl,hm,hh,by rw[Tf];lia⟩
 refine⟨λt ht=>?_,λq hq x e=>?_⟩
 .by_cases e:t=m.1
  .subst e;rw[mY];exact (T.val _ ht).yj hv
  .rw[kf e];exact T.val t ht
 .rw[aeM,hm] at hq;rcases adm.mp hq with z|z
  .exact tV (T.top q z x e)
  .obtain rfl:q=m:=by simpa using z
   rw[hh] at e;cases e;rw[mY];exact yi ⟨h,j,rfl,aew _⟩
structure T2(ps:List P2)(ms:List Mk)(j:Nat)(tp:Nat->Option P2):Prop where
 val:∀ t,t<=ps.length->gb ps ms t (tp t)
 top:∀ m∈ms,∀ h,m.2.2=some h->eG (tp m.1) h
 fwd:∀ t,t<j->∀ v,eG (tp t) v->eG (tp (t+1)) (v+(aF ps t).2)
theorem T1.two{ps:List P2}{ms:List Mk}{tp:Nat->Option P2}(T:T1 ps ms ms.length tp):T2 ps ms 0 tp:=⟨T.val,λm h=>T.top m (by rw[aeX];exact h),λ_ h=>absurd h (af2 _)⟩
theorem T2.step{ps:List P2}{ms:List Mk}{j:Nat}{tp:Nat->Option P2}(hp:cI ps)(hm:∀ m∈ms,m.1<=ps.length)(hj:j<ps.length)(T:T2 ps ms j tp):T2 ps ms (j+1) (jw tp (j+1) (jv (tp (j+1)) (oA (tp j) (aF ps j).2))):=by
 refine⟨ID T.val ((T.val _ (by lia)).yj ((T.val j (by lia)).lift hp hm (by lia) (by lia) (Tg hj))),λm h x e=>tV (T.top m h x e),λt ht v hv=>?_⟩;rw[kf (by lia)] at hv;by_cases e:t=j
 .subst e;rw[mY];exact yi (IC hv)
 .rw[kf (by lia)];exact T.fwd t (by lia) v hv
structure T3(ps:List P2)(ms:List Mk)(j:Nat)(tp:Nat->Option P2):Prop where
 val:∀ t,t<=ps.length->gb ps ms t (tp t)
 top:∀ m∈ms,∀ h,m.2.2=some h->eG (tp m.1) h
 fwd:∀ t,t<ps.length->∀ v,eG (tp t) v->eG (tp (t+1)) (v+(aF ps t).2)
 bwd:∀ t,j<=t->t<ps.length->∀ v,eG (tp (t+1)) v->eG (tp t) (v-(aF ps t).1)
theorem T2.three{ps:List P2}{ms:List Mk}{tp:Nat->Option P2}(T:T2 ps ms ps.length tp):T3 ps ms ps.length tp:=⟨T.val,T.top,T.fwd,λt h1 h2=>absurd h2 (by lia)⟩
theorem T3.step{ps:List P2}{ms:List Mk}{j:Nat}{tp:Nat->Option P2}(hp:cI ps)(hm:∀ m∈ms,m.1<=ps.length)(hj:j<ps.length)(T:T3 ps ms (j+1) tp):T3 ps ms j (jw tp j (jv (tp j) (oA (tp (j+1)) (-(aF ps j).1)))):=by
 have h1:=hp _ (mS hj);refine⟨ID T.val ((T.val _ (by lia)).yj ((T.val (j+1) (by lia)).lift hp hm (by lia) (by lia) (Th hj))),λm h x e=>tV (T.top m h x e),λt ht v hv=>?_,λt h2 h3 v hv=>?_⟩
 .by_cases e:t=j
  .subst e;rw[mY] at hv;rw[kf (by lia)];rcases IB (tp t) (oA (tp (t+1)) (-(aF ps t).1)) with z|z
   .rw[z] at hv;exact T.fwd t ht v hv
   .rw[z] at hv;obtain⟨w,k,e,hw⟩:=hv;obtain⟨⟨w',k'⟩,e1,e2⟩:=adO.mp e;cases e2;exact⟨w',k',e1,by dsimp only at hw;lia⟩
  .rw[kf e] at hv;exact tV (T.fwd t ht v hv)
 .rw[kf (by lia)] at hv;by_cases e:t=j
  .subst e;rw[mY];refine yi ?_;have:=IC (b:=-(aF ps t).1) hv
   rwa [show v + -(aF ps t).1=v-(aF ps t).1 by lia] at this
  .rw[kf e];exact T.bwd t (by lia) h3 v hv
theorem T3.tops{ps:List P2}{ms:List Mk}{tp:Nat->Option P2}(T:T3 ps ms 0 tp):kc ps ms tp :=
 ⟨λt v k ht e=>T.val t ht v k e,T.top,λt v k ht e=>T.fwd t ht v ⟨v,k,e,aew _⟩,λt v k ht e=>T.bwd t (adw _) ht v ⟨v,k,e,aew _⟩⟩
theorem kc.ke{ps:List P2}{ms:List Mk}{tp:Nat->Option P2}(T:kc ps ms tp){b:Mk}{v k l:Int}(hb:b.1<=ps.length)(e:tp b.1=some (v,k))(hl:b.2.1=some l)(hv:v<l):∃ (i:Nat) (a:Mk),k=(i:Int)/\ms[i]?=some a/\ke ps a b:=by obtain⟨i,m,h,e1,e2,e3,h4⟩:=T.val _ v k hb e;exact⟨i,m,e1,e2,h,l,e3,hl,by lia⟩
theorem yk{bx IE:Nat->W2}{st b5:Nat->P2}:∀ t,(∀ k,k<=t->bx k=IE k)->(∀ k,k<t->st k=b5 k)->aW bx st t=aW IE b5 t
 | 0,h,_=>h 0 (ac8 _)
 | t+1,h,hs=>by unfold aW;rw[h (t+1) (ac8 _),yk t (λk hk=>h k (by lia)) (λk hk=>hs k (by lia)),hs t (by lia)]
noncomputable def eI(ws:List W2)(t:Nat):W2:=ws.getD t none
noncomputable def a8(ss:List S2)(t:Nat):S2:=ss.getD t (none,none)
noncomputable def atT(ms:List Mk)(t:Nat):List S2:=(ms.filter λm=>decide (m.1=t)).map (·.2)
noncomputable def bB(ms:List Mk)(t:Nat):W2:=cJ (none,none) (atT ms t)
theorem ym{ms:List Mk}{t:Nat}{x:Int}:bZ (bB ms t) x ↔ ∀ m∈ms,m.1=t->bD m.2 x:=by
 unfold bB;rw[qx];unfold atT;constructor
 .intro h m hm e;exact h _ (adf.mpr ⟨m,adS.mpr ⟨hm,by simpa using e⟩,rfl⟩)
 .intro h s hs;obtain⟨m,hm,rfl⟩:=adf.mp hs;obtain⟨h1,h2⟩:=adS.mp hm;exact h m h1 (by simpa using h2)
theorem IF(ms:List Mk)(t:Nat):mW (bB ms t):=λs e=>by
 unfold bB cJ at e;split at e
 .cases e
 .rename_i h;cases e;simpa using h
theorem IG{ps:List P2}{ms:List Mk}{c:Nat->Int}(hc:dX ps c)(hm:meets ms c):∀ t,t<=ps.length->aW (bB ms) (aF ps) t≠none:=λt ht e=>by obtain⟨s,es,_⟩:=tT (bx:=bB ms) (st:=aF ps) (c:=c) (n:=ps.length) (λt _=>ym.mpr λm cg e=>by rw[<- e];exact hm m cg) (λt ht=>hc t ht) t ht;rw[e] at es;cases es
theorem yn{ps:List P2}{ms:List Mk}(hp:cI ps)(hf:∀ t,t<=ps.length->aW (bB ms) (aF ps) t≠none):mX ps.length (bB ms) (aF ps):=SU (IF ms 0) (λt ht=>hp _ (mS ht)) hf
noncomputable def kg(ps:List P2):List P2:=ps.reverse.map λp=>(-p.2,-p.1)
theorem Ti{ps:List P2}{t:Nat}(h:t<ps.length):aF (kg ps) t=dW ps.length (aF ps) t:=by unfold kg dW aF;rw[acU,adi,afx h,acU,acW (by lia)];rfl
theorem back_eq{ps:List P2}{ms:List Mk}{ss:List S2}(hl:ss.length=ps.length+1)(h:∀ t,t<ps.length+1->aW (bB ms) (aF ps) t=some (a8 ss t)){t:Nat}(ht:t<=ps.length):aW (eI (ss.reverse.map some)) (aF (kg ps)) t=cp ps.length (bB ms) (aF ps) (ps.length-t):=by unfold cp;rw[show ps.length-(ps.length-t)=t by lia];refine yk t (λk hk=>?_) λk hk=>Ti (by lia);rw[h (ps.length-k) (by lia)];unfold eI a8;rw[acU,adi,afx (by lia),hl,show ps.length+1-1-k=ps.length-k by lia,acU,acW (by lia)];rfl
theorem Tj{ss:List S2}{n t:Nat}(hl:ss.length=n+1)(ht:t<=n):a8 ss.reverse t=a8 ss (n-t):=by unfold a8;rw[acU,afx (by lia),acU,hl,show n+1-1-t=n-t by lia]
theorem Tn{ps:List P2}{ms:List Mk}(T:mX ps.length (bB ms) (aF ps)){t:Nat}(ht:t<ps.length){x:Int}{s:S2}(hx:bZ (cp ps.length (bB ms) (aF ps) t) x)(hs:cp ps.length (bB ms) (aF ps) (t+1)=some s):∃ r,gF s (dU (some x,some x) (aF ps t))=some r/\∀ y,bD r y->bZ (cp ps.length (bB ms) (aF ps) (t+1)) y/\(aF ps t).1<=y-x/\y-x<=(aF ps t).2:=by
 obtain⟨y,⟨s',e',hy⟩,h1,h2⟩:=T.next t x ht hx
 rw[hs] at e';cases e';have xx:bD (some x,some x) x:=⟨λ_ z=>by cases z;exact aew _,λ_ z=>by cases z;exact aew _⟩
 obtain⟨r,er,_⟩:=mV.mpr ⟨hy,tR xx h1 h2⟩;refine⟨r,er,λz hz=>?_⟩;obtain⟨z1,z2⟩:=mV.mp ⟨r,er,hz⟩;refine⟨⟨s,hs,z1⟩,?_⟩;have a:=z2.1 (x+(aF ps t).1) rfl;have b:=z2.2 (x+(aF ps t).2) rfl;lia
noncomputable def aR(cs:List Int)(t:Nat):Int:=cs.getD t 0
theorem meets_of{ps:List P2}{ms:List Mk}(T:mX ps.length (bB ms) (aF ps))(hm:∀ m∈ms,m.1<=ps.length){c:Nat->Int}(h:∀ t,t<=ps.length->bZ (cp ps.length (bB ms) (aF ps) t) (c t)):meets ms c:=λm cg=>ym.mp (T.sub _ _ (hm m cg) (h _ (hm m cg))) m cg rfl
noncomputable def cZ(ts:List (Option P2))(t:Nat):Option P2:=ts.getD t none
theorem To{ts:List (Option P2)}{i:Nat}{x:Option P2}(h:i<ts.length):cZ (ts.set i x)=jw (cZ ts) i x:=by
 funext t;unfold cZ jw;rw[acU,List.getElem?_set];by_cases e:t=i
 .subst e;rw[if_pos rfl,if_pos rfl,if_pos h];rfl
 .rw[if_neg (λz=>e z.symm),if_neg e];exact (acU ..).symm
theorem Tp(n:Nat):cZ (ad4 n none)=λ_=>none:=by funext t;unfold cZ;rw[acU,ae8];split<;>rfl
theorem Tq{n:Nat}{bx:Nat->W2}{st:Nat->P2}(h0:mW (bx 0))(hp:∀ t,t<n->(st t).1<=(st t).2){t:Nat}(ht:t<n){y:Int}(h:bZ (cp n bx st (t+1)) y)(hs:∃ s,cp n bx st t=some s):∃ x,bZ (cp n bx st t) x/\(st t).1<=y-x/\y-x<=(st t).2:=by
 have hf:bZ (aW bx st (t+1)) y:=by
  have:=tU (bx:=λk=>aW bx st (n-k)) h
  rwa [show n-(n-(t+1))=t+1 by lia] at this
 obtain⟨x,hx,h1,h2⟩:=ye h0 (hp t ht) hf;refine⟨x,?_,h1,h2⟩;obtain⟨k,ek,hk⟩:=h;obtain⟨f,ef,hxf⟩:=hx;unfold cp at ek ⊢;rw[show n-t=n-(t+1)+1 by lia];show bZ (match aW bx st (n-(n-(t+1)+1)),aW (λk=>aW bx st (n-k)) (dW n st) (n-(t+1)) with
  | some b,some k=>gF b (dU k (dW n st (n-(t+1))))
  | _,_=>none) x
 rw[ek,show n-(n-(t+1)+1)=t by lia,ef];refine mV.mpr ⟨hxf,tR hk ?_ ?_⟩
 .unfold dW;rw[show n-1-(n-(t+1))=t by lia];dsimp only;lia
 .unfold dW;rw[show n-1-(n-(t+1))=t by lia];dsimp only;lia
theorem IH{n:Nat}{bx:Nat->W2}{st:Nat->P2}(T:mX n bx st):∀ (d t:Nat) (x:Int),t+d=n->bZ (cp n bx st t) x->∃ c:Nat->Int,c t=x/\(∀ k,t<=k->k<=n->bZ (cp n bx st k) (c k))/\∀ k,t<=k->k<n->(st k).1<=c (k+1)-c k/\c (k+1)-c k<=(st k).2
 | 0,t,x,e,h=>⟨λ_=>x,rfl,λk h1 h2=>by rw[show k=t by lia];exact h,λk h1 h2=>absurd h2 (by lia)⟩
 | d+1,t,x,e,h=>by
  obtain⟨y,hy,h1,h2⟩:=T.next t x (by lia) h
  obtain⟨c,c0,c1,c2⟩:=IH T d (t+1) y (by lia) hy;refine⟨λk=>if k=t then x else c k,if_pos rfl,λk k1 k2=>?_,λk k1 k2=>?_⟩
  .dsimp only;by_cases ek:k=t
   .rw[if_pos ek,ek];exact h
   .rw[if_neg ek];exact c1 k (by lia) k2
  .dsimp only;rw[if_neg (show ¬ k+1=t by lia)];by_cases ek:k=t
   .rw[if_pos ek,ek,c0];exact⟨h1,h2⟩
   .rw[if_neg ek];exact c2 k (by lia) k2
theorem II{n:Nat}{bx:Nat->W2}{st:Nat->P2}(h0:mW (bx 0))(hp:∀ t,t<n->(st t).1<=(st t).2)(T:mX n bx st):∀ (t:Nat) (x:Int),t<=n->bZ (cp n bx st t) x->∃ c:Nat->Int,c t=x/\(∀ k,k<=t->bZ (cp n bx st k) (c k))/\∀ k,k<t->(st k).1<=c (k+1)-c k/\c (k+1)-c k<=(st k).2
 | 0,x,_,h=>⟨λ_=>x,rfl,λk h1=>by rw[show k=0 by lia];exact h,λk h1=>absurd h1 (by lia)⟩
 | t+1,x,ht,h=>by
  obtain⟨s,es,_⟩:=T.ok t (by lia);obtain⟨y,hy,h1,h2⟩:=Tq h0 hp (by lia) h ⟨s,es⟩;obtain⟨c,c0,c1,c2⟩:=II h0 hp T t y (by lia) hy;refine⟨λk=>if k=t+1 then x else c k,if_pos rfl,λk k1=>?_,λk k1=>?_⟩
  .dsimp only;by_cases ek:k=t+1
   .rw[if_pos ek,ek];exact h
   .rw[if_neg ek];exact c1 k (by lia)
  .dsimp only;rw[if_neg (show ¬ k=t+1 by lia)];by_cases ek:k=t
   .rw[ek,if_pos rfl,c0];exact⟨h1,h2⟩
   .rw[if_neg (by lia)];exact c2 k (by lia)
theorem Tr{ps:List P2}{ms:List Mk}(hp:cI ps)(hm:∀ m∈ms,m.1<=ps.length)(T:mX ps.length (bB ms) (aF ps)){t:Nat}(ht:t<=ps.length){x:Int}(h:bZ (cp ps.length (bB ms) (aF ps) t) x):∃ c,dX ps c/\meets ms c/\c t=x:=by
 obtain⟨c,c0,c1,c2⟩:=IH T (ps.length-t) t x (by lia) h;obtain⟨d,d0,d1,d2⟩:=II (IF ms 0) (λt ht=>hp _ (mS ht)) T t x ht h;refine⟨λk=>if k<=t then d k else c k,λk hk=>?_,meets_of T hm λk hk=>?_,?_⟩
 .dsimp only;by_cases e1:k<t
  .rw[if_pos (by lia),if_pos (by lia)];exact d2 k e1
  .by_cases e2:k=t
   .subst e2;rw[if_neg (by lia),if_pos (by lia),d0,<- c0];exact c2 k (by lia) hk
   .rw[if_neg (by lia),if_neg (by lia)];exact c2 k (by lia) hk
 .by_cases e:k<=t
  .rw[if_pos e];exact d1 k e
  .rw[if_neg e];exact c1 k (by lia) hk
 .dsimp only;rw[if_pos (ac8 _)];exact d0
theorem Ts{ps:List P2}{ms:List Mk}{c:Nat->Int}(hc:dX ps c)(hm:meets ms c){t:Nat}(ht:t<=ps.length):bZ (cp ps.length (bB ms) (aF ps) t) (c t):=by
 have f:=tT (bx:=bB ms) (st:=aF ps) (c:=c) (n:=ps.length) (λt _=>ym.mpr λm cg e=>by rw[<- e];exact hm m cg) (λt ht=>hc t ht);have b:=tT (bx:=λk=>aW (bB ms) (aF ps) (ps.length-k)) (st:=dW ps.length (aF ps)) (c:=λk=>c (ps.length-k)) (n:=ps.length) (λk hk=>f _ (by lia)) (λk hk=>by
  have:=hc (ps.length-1-k) (by lia);unfold dW;rw[show ps.length-1-k+1=ps.length-k by lia] at this;rw[show ps.length-(k+1)=ps.length-1-k by lia];lia) (ps.length-t) (by lia)
 have e:ps.length-(ps.length-t)=t:=by lia
 unfold cp;rw[e] at b;exact b
noncomputable def rowOf(H:Hp):V->List V
 | .ref p=>match H p with
  | some (.tup xs)=>xs
  | _=>[]
 | _=>[]
theorem lH{H:Hp}{p:ac6}{xs:List V}(h:H p=some (.tup xs)):rowOf H (.ref p)=xs:=by
 show (match H p with
  | some (.tup xs)=>xs
  | _=>[])=xs
 rw[h]
noncomputable def kh(row:V->List V)(tt:TT):TT:=λσ H Q=>match σ with
 | some v::ρ=>tt ((row v).map some++ρ) H Q
 | _=>False
noncomputable def ki(row:V->List V)(te:TE):TE:=λσ H Q=>match σ with
 | some v::ρ=>te ((row v).map some++ρ) H Q
 | _=>False
section
variable{K:acS}{ρ:L2.St}{tt:TT}{te:TE}{H:Hp}{Q:VK}{a:ac6}{xs:List V}{row:V->List V}
noncomputable def mZ(K:acS)(a:ac6)(xs:List V)(row:V->List V)(k:Nat)(H:Hp):Prop:=ah K H a xs/\∀ x∈xs,∃ p,x = .ref p/\ax K H p (row x)/\(row x).length=k
theorem IJ{k:Nat}{g:TG}(hg:∀ (p:ac6) (ys:List V) (os:List (Option V)) (H:Hp) (Q:L2.St->Hp->Prop),os.length=k->ys.length=k->ax K H p ys->Q (ys.map some++ρ) H->g (.ref p) (os++ρ) H Q)
 (hn:xs.length<=adz) (h:dP (mZ K a xs row k) ρ (kh row tt) (ki row te) xs [] H λzs H'=>∀ l,H' l=none->Q (.ref l) (upd H' l (.lst zs))) :
 oo k (iB K a) g ρ tt te H Q:=by
 refine⟨λi m ys H=>m=xs.length-i/\i<=xs.length/\ys.length<=i/\dP (mZ K a xs row k) ρ (kh row tt) (ki row te) (xs.drop i) ys H λys H'=>∀ l,H' l=none->Q (.ref l) (upd H' l (.lst ys)),⟨_,rfl,adw _,ac8 _,h⟩,?_⟩;rintro i m ys H ⟨rfl,hi,hy,c⟩;by_cases aZ:i<xs.length
 .have e:=aeu aZ;rw[e] at c;obtain⟨⟨c0,c1⟩,c2⟩:=c;have l1:∀ y:V,(ys++[y]).length<=i+1:=λy=>by rw[adj,adh];lia
  have l2:ys.length<=i+1:=by lia
  refine .inr ⟨⟨xs,_,c0,acW aZ⟩,by lia,λzs H'=>zs.length<=i+1/\dP (mZ K a xs row k) ρ (kh row tt) (ki row te) (xs.drop (i+1)) zs H' λys H'=>∀ l,H' l=none->Q (.ref l) (upd H' l (.lst ys)),λzs H' q=>⟨_,by lia,rfl,aZ,q.1,q.2⟩,λos yo v H' y=>?_⟩;obtain⟨rfl,ex⟩:=y;have ex:=ex xs c0;rw[acW aZ] at ex;obtain⟨p,ep,hp,hl⟩:=c1 xs[i] (ahm _);cases ex;rw[ep] at hp hl c2 ⊢;refine hg p _ os _ _ yo hl hp ⟨(row (.ref p)).map some,by rw[acV];exact hl,rfl,?_⟩;simp only[l1,l2,true_and];exact c2
 .have e:i=xs.length:=by lia
  subst e;rw[akt] at c;exact .inl ⟨⟨xs,c.1.1,ac8 _⟩,by lia,c.2⟩
theorem Tt{p:ac6}{ys:List V}{os:List (Option V)}{H:Hp}{Q:L2.St->Hp->Prop}(ho:os.length=2)(hy:ys.length=2)(h:ax K H p ys)(q:Q (ys.map some++ρ) H):gP K 2 (bU (bR 0) (bU (bR 1) gq)) (.ref p) (os++ρ) H Q:=by
 match os,ho,ys,hy with
 | [o1,o2],_,[x,y],_=>exact jZ h q
theorem Tu{p:ac6}{ys:List V}{os:List (Option V)}{H:Hp}{Q:L2.St->Hp->Prop}(ho:os.length=3)(hy:ys.length=3)(h:ax K H p ys)(q:Q (ys.map some++ρ) H):gP K 3 (bU (bR 0) (bU (bR 1) (bU (bR 2) gq))) (.ref p) (os++ρ) H Q:=by
 match os,ho,ys,hy with
 | [o1,o2,o3],_,[x,y,z],_=>exact yb h q
theorem Tv(hn:xs.length<=adz)(h:dP (mZ K a xs row 2) ρ (kh row tt) (ki row te) xs [] H λzs H'=>∀ l,H' l=none->Q (.ref l) (upd H' l (.lst zs))) :
 oo 2 (iB K a) (gP K 2 (bU (bR 0) (bU (bR 1) gq))) ρ tt te H Q:=IJ (λ_ _ _ _ _ ho hy h q=>Tt ho hy h q) hn h
theorem IK(hn:xs.length<=adz)(h:dP (mZ K a xs row 3) ρ (kh row tt) (ki row te) xs [] H λzs H'=>∀ l,H' l=none->Q (.ref l) (upd H' l (.lst zs))) :
 oo 3 (iB K a) (gP K 3 (bU (bR 0) (bU (bR 1) (bU (bR 2) gq)))) ρ tt te H Q:=IJ (λ_ _ _ _ _ ho hy h q=>Tu ho hy h q) hn h
end
theorem tW{α β:Type}{R:Hp->V->α->Prop}{R':Hp->V->β->Prop}{Ok:Hp->Prop}{ρ:L2.St}{tt:TT}{te:TE}{p:α->Bool}{f:α->β}{Q':List V->Hp->Prop}(mono:∀ H H' x a,ak H H'->R H x a->R H' x a)(ot:∀ H H' x a,ak H H'->R' H x a->R' H' x a):∀ {xs:List V} {as:List α} {zs:List V} {bs:List β} {H:Hp},ao (R H) xs as->ao (R' H) zs bs->(∀ H',ak H H'->Ok H') ->
 (∀ x a,a∈as->∀ H',ak H H'->R H' x a->∀ Q:Bool->Hp->Prop,Q (p a) H'->tt (some x::ρ) H' Q)->(∀ x a,a∈as->p a=true->∀ H',ak H H'->R H' x a->∀ Q:VK,(∀ H2 y,ak H' H2->R' H2 y (f a)->Q y H2)->te (some x::ρ) H' Q)->(∀ H' ws,ak H H'->ao (R' H') ws (bs++(as.filter p).map f)->Q' ws H')->dP Ok ρ tt te xs zs H Q'
 | [],[],zs,bs,H,_,hz,cD,_,_,q=>⟨cD H (ak.refl H),q H zs (ak.refl H) (by simpa using hz)⟩
 | x::xs,a::as,zs,bs,H,h,hz,cD,ht,he,q=>by
  refine⟨cD H (ak.refl H),ht x a (.head _) H (ak.refl H) h.1 _ ?_⟩;by_cases hp:p a=true
  .rw[if_pos hp];refine he x a (.head _) hp H (ak.refl H) h.1 _ λH2 y s2 ry=>?_;refine tW mono ot (bs:=bs++[f a]) (h.2.imp λ_ _ r=>mono _ _ _ _ s2 r) ((hz.imp λ_ _ r=>ot _ _ _ _ s2 r).snoc ry) (λH' s'=>cD H' (s2.trans s')) (λx b hb H' s'=>ht x b (.tail _ hb) H' (s2.trans s')) (λx b hb hp H' s'=>he x b (.tail _ hb) hp H' (s2.trans s')) λH' ws s' hw=>q H' ws (s2.trans s') ?_;rw[ae5,if_pos hp];simpa using hw
  .rw[if_neg hp];refine tW mono ot h.2 hz cD (λx b hb=>ht x b (.tail _ hb)) (λx b hb hp=>he x b (.tail _ hb) hp) λH' ws s' hw=>q H' ws s' ?_;rw[ae5,if_neg hp];exact hw
 | [],_::_,_,_,_,h,_,_,_,_,_=>h.elim
 | _::_,[],_,_,_,h,_,_,_,_,_=>h.elim
theorem Tw(af:List acY):akL af.toArray none none (some (-1))=af.reverse.toArray:=by
 have e1:agy none none (some (-1)) af.toArray.size=(((af.length:Nat):Int)-1,-1,-1):=by rw[ada];rfl
 unfold akL;rw[e1];dsimp only;have e2:sliceRange (((af.length:Nat):Int)-1) (-1) (-1)=(adx af.length).map λk=>af.length-1-k:=by
  unfold sliceRange;have h1:¬ ((-1:Int) > 0):=by lia
  simp only[h1,if_false];by_cases h:af.length=0
  .rw[h];rfl
  .rw[if_pos (by lia),show (((af.length:Nat):Int)-1 - -1 - -1-1) / (- -1)=((af.length:Nat):Int) by
    rw[show (- (-1:Int))=1 by lia,alG];lia,adU]
   refine aeZ λk hk=>?_;have:=adY.mp hk;lia
 rw[e2]
 congr 1
 refine afK λk=>?_;have key:((adx af.length).map λk=>af.length-1-k).filterMap (af.toArray[·]?)=(adx af.length).map λk=>af.getD (af.length-1-k) .none:=by
  rw[List.filterMap_map];have:∀ (l:List Nat),(∀ k∈l,k<af.length)->l.filterMap ((λx=>af.toArray[x]?) ∘ λk=>af.length-1-k)=l.map λk=>af.getD (af.length-1-k) .none:=by
   intro l
   induction l with
   | nil=>intro _;rfl
   | cons k l ih =>
    intro h;have hk:=h k (.head _);rw[aeB,adq];have e:((λx=>af.toArray[x]?) ∘ λk=>af.length-1-k) k=some (af.getD (af.length-1-k) .none):=by show af.toArray[af.length-1-k]?=_;rw[ai9,acU,acW (by lia)];rfl
    rw[e,ih λj hj=>h j (.tail _ hj)]
  exact this _ λk hk=>adY.mp hk
 rw[key];by_cases hk:k<af.length
 .rw[adi,adX hk,afx hk];simp only[Option.map_some];rw[acU,acW (by lia)];rfl
 .rw[ael (by rw[acV,ads];lia),ael (by rw[aeC];lia)]
section
variable{X:Cx}{e st:aeY}{te ts:TE}{p2 pos:Pos}
noncomputable def IL(K:acS)(te ts:TE):TE:=λσ H Q=>te σ H λx H1=>ts σ H1 λy H2=>y = .int (-1)/\∃ a xs,x = .ref a/\ah K H2 a xs/\∀ p,H2 p=none->Q (.ref p) (upd H2 p (.lst xs.reverse))
theorem IM(he:PE X e te)(hs:PE X st ts):PE X (.Subscript e (.Slice none none (some st) p2) pos) (IL X.K te ts):=by intro pins s σ H Q I h;refine aj4 (aA (he pins s σ H _ I h) λv s1 ⟨x,H1,I1,r1,q1⟩=>?_);refine wpAny_Slice ?_;rw[ajO];refine acX (acX ?_);rw[evalPart_some];refine aA (hs pins s1 σ H1 _ I1 q1) λu s2 ⟨y,H2,I2,r2,q2⟩=>?_;obtain⟨rfl,a,xs,rfl,hx,q⟩:=q2;obtain⟨t,rfl⟩:=r2;cases r1;have I4:Inv X pins σ H2 { s2 with heap:=s2.heap.push { cls:=.type "slice",data:=.fields #[.none,.none,.int (-1) t] } }:=I2.kept (t':=s2.toks) λb ob q=>acT _ q;obtain⟨af,r,ht,hz⟩:=I4.list hx;have hlen:=r.length;show adg (model X.prog X.w) X.A (aii e (.Slice none none (some st) p2) (.ref a) (.ref s2.heap.objs.size)) (EP X pins σ Q) X.xe { s2 with heap:=s2.heap.push { cls:=.type "slice",data:=.fields #[.none,.none,.int (-1) t] } };refine tail_any (ops:=[.ref a,.ref s2.heap.objs.size]) ht.isList.typeIs slot_list_getitem.lookup ?_ (by with_unfolding_all rfl);refine ah4 ht.isList (Heap.IsSliceOf.new ..) .none .none (.int (-1) t) (by simp) ?_ (by rw[ada];lia);rw[Tw];refine⟨.ref _,_,I4.laid (t':=s2.toks) (o:=.lst xs.reverse) (λb ob q=>acT _ q) (ac8 _) ?_,rfl,q _ (I4.aj.fresh (ac8 _))⟩;exact⟨by rw[aeC];exact hz,_,0,r.reverse,ac3 _ rfl⟩
end
theorem Tz{K:acS}{a:ac6}{xs:List V}{ρ:L2.St}{tt:TT}{te:TE}{H:Hp}{Q:VK}(hn:xs.length<=adz)(h:dP (λH=>ah K H a xs) ρ tt te xs.reverse [] H λys H'=>∀ l,H' l=none->Q (.ref l) (upd H' l (.lst ys))):n9 (tE K a xs.length) ρ tt te H Q:=by
 have hr:xs.reverse.length=xs.length:=aeC;refine⟨λi m ys H=>m=xs.length-i/\i<=xs.length/\ys.length<=i/\dP (λH=>ah K H a xs) ρ tt te (xs.reverse.drop i) ys H λys H'=>∀ l,H' l=none->Q (.ref l) (upd H' l (.lst ys)),⟨_,rfl,adw _,ac8 _,h⟩,?_⟩;rintro i m ys H ⟨rfl,hi,hy,g⟩;by_cases aZ:i<xs.length
 .have e:=aeu (show i<xs.reverse.length by lia);rw[e] at g;obtain⟨g0,g1⟩:=g;refine .inr ⟨⟨xs,_,g0,rfl,acW (by lia)⟩,by lia,λzs H'=>zs.length<=i+1/\dP (λH=>ah K H a xs) ρ tt te (xs.reverse.drop (i+1)) zs H' λys H'=>∀ l,H' l=none->Q (.ref l) (upd H' l (.lst ys)),λzs H' q=>⟨_,by lia,rfl,aZ,q.1,q.2⟩,λx H' y=>?_⟩;obtain⟨rfl,ex⟩:=y;have ex:=ex xs g0 rfl;rw[acW (by lia)] at ex;cases ex;have l1:∀ y:V,(ys++[y]).length<=i+1:=λy=>by rw[adj,adh];lia
  have l2:ys.length<=i+1:=by lia
  simp only[l1,l2,true_and];exact g1
 .have e:i=xs.length:=by lia
  subst e;rw[agN (by lia)] at g;exact .inl ⟨rfl,by lia,g.2⟩
theorem IP(es:List Int):(es.map V.int).all iJ=true:=by rw[aja];exact ad1.mpr λ_ _=>rfl
theorem yq(a:Int):∀ (es:List Int),kP (.int a) (es.map V.int)=es.contains a
 | []=>rfl
 | e::es=>by
  have ih:=yq a es;unfold kP at *;rw[adq,aeo,ih,ajS]
  congr 1
  show (e == a)=(a == e);rw[aff];simp only[beq_iff_eq];exact eq_comm
theorem IQ{K:acS}{H1 H':Hp}{l:ac6}{ys:List V}{tb:Tb}(hl:H1 l=some (.lst ys))(hM:ao (fG H1) ys tb)(s:ak H1 H'):mZ K l ys (rowOf H1) 3 H':=by refine⟨ah.of (s _ _ hl),λx hx=>?_⟩;obtain⟨i,hi⟩:=aeG.mp hx;obtain⟨m,_,t,p,rfl,h1,h2⟩:=hM.get hi;rw[lH h1];exact⟨t,rfl,ax.of (s _ _ h1),rfl⟩
noncomputable def cC:Nat->List (List Int)
 | 0=>[[]]
 | n+1=>cC n++(cC n).map λs=>s++[((n:Nat):Int)]
theorem qA:∀ n,(cC n).length=2 ^ n
 | 0=>rfl
 | n+1=>by rw[cC,adj,acV,qA n,alH];lia
theorem qB:∀ (n:Nat) (s:List Int),s∈cC n->s.length<=n
 | 0,s,h=>by
  obtain rfl:s=[]:=by simpa [cC] using h
  exact ac8 _
 | n+1,s,h=>by
  rw[cC] at h;rcases adm.mp h with h|h
  .exact aj9 (qB n s h)
  .obtain⟨s',h',rfl⟩:=adf.mp h;have:=qB n s' h';rw[adj,adh];lia
noncomputable def kj(H:Hp)(v:V)(s:List Int):Prop:=∃ l,v = .ref l/\H l=some (.lst (s.map V.int))
theorem kj.same{H H':Hp}{v:V}{s:List Int}(h:kj H v s)(u:ak H H'):kj H' v s:=let ⟨l,e,a⟩:=h;⟨l,e,u _ _ a⟩
noncomputable def cu(tb:Tb)(es:List Int):List Mk:=((iW tb).filter λr=>!es.contains r.1.1).map λr=>(r.1.2.toNat,r.2)
noncomputable def gd(ps:List P2)(ms:List Mk):Option (List S2):=if ((adx (ps.length+1)).any λt=>(aW (bB ms) (aF ps) t).isNone)=true then none else some ((adx (ps.length+1)).map λt=>(cp ps.length (bB ms) (aF ps) t).getD (none,none))
noncomputable def iX(H:Hp)(v:V)(o:Option (List S2)):Prop:=match o with
 | none=>v = .non
 | some ss=>∃ l zs,v = .ref l/\H l=some (.lst zs)/\ao (iV H) zs ss
theorem iX.same{H H':Hp}{v:V}{o:Option (List S2)}(h:iX H v o)(s:ak H H'):iX H' v o:=by
 cases o with
 | none=>exact h
 | some ss=>obtain⟨l,zs,e,a,b⟩:=h;exact⟨l,zs,e,s _ _ a,b.imp λ_ _ r=>aI.same r s⟩
theorem map_some{α β:Type}{f:α->Option β}:∀ (l:List α),(l.map f).filterMap id=l.filterMap f
 | []=>rfl
 | a::l=>by rw[adq,aeB,aeB,map_some l];rfl
theorem yr{α:Type}{R:V->Option α->Prop}:∀ {os:List (Option α)} {xs:List V},ao R xs (os.filter λo=>o.isSome)->ao (λv a=>R v (some a)) xs (os.filterMap id)
 | [],[],_=>trivial
 | [],_::_,h=>h.elim
 | none::os,xs,h=>yr (os:=os) h
 | some a::os,x::xs,h=>⟨h.1,yr (os:=os) h.2⟩
 | some a::os,[],h=>h.elim
theorem TC:∀ n:Nat,n<8->∀ k:Nat,k<8->((cC n).filter λs=>decide (s.length=k)).length<=35:=by decide +kernel
theorem TF{e m:Int}(h1:1<=e)(h7:e<=7):((cC e.toNat).filter λs=>decide ((s.length:Int)=m)).length<64:=by
 by_cases hm:0<=m/\m<8
 .have:=TC e.toNat (by lia) m.toNat (by lia);have e2:(λs:List Int=>decide ((s.length:Int)=m))=λs=>decide (s.length=m.toNat):=by funext s;exact decide_eq_decide.mpr (by lia)
  rw[e2];lia
 .have:(cC e.toNat).filter (λs=>decide ((s.length:Int)=m))=[]:=List.filter_eq_nil_iff.mpr λs hs=>by have:=qB _ s hs;simp only[decide_eq_true_eq];lia
  rw[this];decide
noncomputable def gf(e t u d m:Int)(tb:Tb):List (List S2):=((cC e.toNat).filter λs=>decide ((s.length:Int)=m)).filterMap λs=>gd (ad4 (t-1).toNat (-d,u)) (cu tb s)
theorem yt{e t u d m:Int}{tb:Tb}(h1:1<=e)(h7:e<=7):(gf e t u d m tb).length<64:=aeg (List.length_filterMap_le _ _) (TF h1 h7)
theorem TH{ps:List P2}{ms:List Mk}{ss:List S2}(h:gd ps ms=some ss):ss.length=ps.length+1:=by
 unfold gd at h;split at h
 .cases h
 .cases h;rw[acV,ads]
theorem IS{e t u d m:Int}{tb:Tb}(ht:1<=t){ss:List S2}(h:ss∈gf e t u d m tb):(ss.length:Int)=t:=by obtain⟨s,_,hs⟩:=aft.mp h;have:=TH hs;rw[aek] at this;lia
theorem eS{α:Type}{R:α->α->Prop}:∀ {l:List α},l.Pairwise R->∀ {p q:α},p∈l->q∈l->p=q∨R p q∨R q p
 | [],_,_,_,h,_=>by cases h
 | x::l,h,p,q,hp,hq=>by
  have h1:=ae4.mp h;rcases ac9.mp hp with e1|i1<;>rcases ac9.mp hq with e2|i2
  .exact .inl (e1.trans e2.symm)
  .rw[e1];exact .inr (.inl (h1.1 q i2))
  .rw[e2];exact .inr (.inr (h1.1 p i1))
  .exact eS h1.2 i1 i2
theorem IT:∀ {n:Nat} {s:List Int},s∈cC n->s.length<n->∃ s'∈cC n,s'.length=s.length+1/\∀ x∈s,x∈s'
 | 0,s,_,h=>by lia
 | n+1,s,hs,hl=>by
  rw[cC] at hs;rcases adm.mp hs with h|h
  .refine⟨s++[(n:Int)],?_,by simp,λx hx=>adD _ hx⟩;rw[cC];exact ac1 _ (adf.mpr ⟨s,h,rfl⟩)
  .obtain⟨r,hr,rfl⟩:=adf.mp h;rw[adj,adh] at hl;obtain⟨r',h1,h2,h3⟩:=IT hr (by lia);refine⟨r' ++ [(n:Int)],?_,by simp[h2],λx hx=>?_⟩
   .rw[cC];exact ac1 _ (adf.mpr ⟨r',h1,rfl⟩)
   .rcases adm.mp hx with z|z
    .exact adD _ (h3 x z)
    .exact ac1 _ z
theorem IU:∀ {a b:List Int},HT.lexLt a b=false->HT.lexLt b a=false->a=b
 | [],[],_,_=>rfl
 | [],_::_,h,_=>by cases h
 | _::_,[],_,h=>by cases h
 | x::a,y::b,h1,h2=>by
  rw[HT.jP] at h1 h2;by_cases e:x=y
  .subst e;rw[if_pos rfl] at h1 h2;rw[IU h1 h2]
  .rw[if_neg e] at h1;rw[if_neg (adP e)] at h2;have a1:¬ x<y:=by simpa using h1
   have a2:¬ y<x:=by simpa using h2
   exact absurd (aiY (Int.not_lt.mp a2) (Int.not_lt.mp a1)) e
theorem IV{α:Type}{R:α->α->Prop}:∀ {as bs:List α},(∀ x∈as,∀ y∈as,R x y->R y x->x=y)->as.Pairwise R->bs.Pairwise R->as.Perm bs->as=bs
 | [],bs,_,_,_,h=>h.nil_eq
 | a::as,[],_,_,_,h=>by cases h.length_eq
 | a::as,b::bs,ha,s1,s2,h=>by
  have e:a=b:=by
   have m1:a∈b::bs:=h.mem_iff.mp (.head _);have m2:b∈a::as:=h.mem_iff.mpr (.head _);rcases ac9.mp m1 with z|z
   .exact z
   .rcases ac9.mp m2 with y|y
    .exact y.symm
    .exact ha a (.head _) b (.tail _ y) ((ae4.mp s1).1 b y) ((ae4.mp s2).1 a z)
  subst e;rw[IV (λx hx y hy=>ha x (.tail _ hx) y (.tail _ hy)) (ae4.mp s1).2 (ae4.mp s2).2 (List.Perm.cons_inv h)]
theorem qC{tb:Tb}:(iW tb).Perm tb:=mK
theorem IW{tb:Tb}:(iW tb).Pairwise λa b=>HT.lexLt [b.1.1,b.1.2] [a.1.1,a.1.2]=false:=wU (f:=λr:P2 × S2=>[r.1.1,r.1.2]) rfl
theorem TJ{tb:Tb}(hn:(tb.map (·.1)).Nodup){x y:P2 × S2}(hx:x∈tb)(hy:y∈tb)(e:x.1=y.1):x=y:=by
 induction tb with
 | nil=>cases hx
 | cons r tb ih =>
  rw[adq,aer] at hn;rcases ac9.mp hx with a|a<;>rcases ac9.mp hy with b|b
  .rw[a,b]
  .exact absurd (adf.mpr ⟨y,b,by rw[<- e,a]⟩) hn.1
  .exact absurd (adf.mpr ⟨x,a,by rw[e,b]⟩) hn.1
  .exact ih hn.2 a b
theorem TK{tb jR:Tb}(hn:(tb.map (·.1)).Nodup)(h:tb.Perm jR):iW tb=iW jR:=by refine IV (λx hx y hy r1 r2=>TJ hn (lD hx) (lD hy) ?_) IW IW (qC.trans (h.trans qC.symm));have:=IU r1 r2;injection this with e1 e2;injection e2 with e2 _;exact Prod.ext e1.symm e2.symm
theorem TL{ps:List P2}{ms:List Mk}{ss:List S2}(h:gd ps ms=some ss):(∀ t,t<=ps.length->aW (bB ms) (aF ps) t≠none)/\∀ t,t<=ps.length->a8 ss t=(cp ps.length (bB ms) (aF ps) t).getD (none,none):=by
 unfold gd at h;split at h
 .cases h
 .rename_i hn;cases h;refine⟨λt ht e=>hn (aes.mpr ⟨t,adY.mpr (by lia),by rw[e];rfl⟩),λt ht=>?_⟩;unfold a8;rw[acU,adi,adX (by lia)];rfl
theorem TM{ps:List P2}{ms:List Mk}(h:∀ t,t<=ps.length->aW (bB ms) (aF ps) t≠none):∃ ss,gd ps ms=some ss:=by
 unfold gd;rw[if_neg]
 .exact⟨_,rfl⟩
 .intro z;obtain⟨t,ht,e⟩:=aes.mp z;exact h t (by have:=adY.mp ht;lia) (ahT.mp e)
theorem IX{ps:List P2}{ms:List Mk}{ss:List S2}(hp:cI ps)(hm:∀ m∈ms,m.1<=ps.length)(h:gd ps ms=some ss){t:Nat}(ht:t<=ps.length):e9 (a8 ss t)/\∀ x,bD (a8 ss t) x ↔ ∃ c,dX ps c/\meets ms c/\c t=x:=by obtain⟨h1,h2⟩:=TL h;have T:=yn hp h1;obtain⟨s,es,hc⟩:=T.ok t ht;rw[h2 t ht,es];refine⟨hc,λx=>⟨λhx=>Tr hp hm T ht ⟨s,es,hx⟩,?_⟩⟩;rintro ⟨c,h3,h4,rfl⟩;obtain⟨s',es',hx⟩:=Ts h3 h4 ht;rw[es] at es';cases es';exact hx
local macro_rules | `(tactic| walk_at "om") => `(tactic| ((try simp only [PySem.Addr] at *); lia))
theorem TN(a b c:acY):checkTypeCall "zip" ⟨[a,b,c],[]⟩=pure ():=by kernel_rfl
theorem TQ(a b c:acY):aiq "zip.__new__" ⟨[.type "zip",a,b,c],[]⟩=pure ():=by kernel_rfl
theorem TR(a b c d:acY):aiW "object.__init__" ⟨[a,b,c,d],[]⟩:=by unfold aiW;rw[PySem.signature?_of (id := "object.__init__") (n:=['_','_','t','i','n','i','_','_']) (o:=['t','c','e','j','b','o']) (by kernel_rfl) PySem.F.owner_object];kernel_rfl
noncomputable abbrev ia(h:aeA)(T:ac6)(a b c:acY):Prop:=h.get? T=some { cls:=.type "tuple",data:=.seq #[a,b,c] }
section
variable{prog:ado}{w:adM}{A:adQ}{E:acY->acZ->Prop}{s:acZ}
theorem yu{T:ac6}{a b c x:acY}{k:Nat}{Q:Unit->acZ->Prop}(hT:ia s.heap T a b c)
 (h:∀ h',h'.get? T=some { cls:=.type "tuple",data:=.seq ((#[a,b,c]:Array acY).setIfInBounds k x) }->Heap.SameBut T s.heap h'->Q () { s with heap:=h' }):adg (model prog w) A (agk T (·.setIfInBounds k x)) Q E s:=by
 refine aej hT rfl (h _ ?_ (aeF ..));rw[adG _ hT rfl];simp[adF]
structure Z3(n:Nat)(l1 l2 l3:ac6)(h:aeA)(k:Nat)(f0:acY):Prop where
 z:alz h (n+5:Nat) (n+3:Nat) (n+4:Nat) f0
 ti:ia h (n+3:Nat) (.ref n) (.ref (n+1:Nat)) (.ref (n+2:Nat))
 to:∃ a b c,ia h (n+4:Nat) a b c
 i1:h.IsListIter n l1 k
 i2:h.IsListIter (n+1:Nat) l2 k
 i3:h.IsListIter (n+2:Nat) l3 k
theorem TU{n:Nat}{l1 l2 l3:ac6}{k:Nat}{xs ys zs:Array acY}{x y u:acY}{Q:acY->acZ->Prop}(d1:l1<n)(d2:l2<n)(d3:l3<n)(S:Z3 n l1 l2 l3 s.heap k .none)
 (fg:s.heap.IsList l1 xs) (ba:s.heap.IsList l2 ys) (bz:s.heap.IsList l3 zs) (hx:xs[k]?=some x) (hy:ys[k]?=some y) (hu:zs[k]?=some u)
 (hQ:∀ h',Z3 n l1 l2 l3 h' (k+1) (agf s.heap.objs.size)->ia h' s.heap.objs.size x y u->(∀ c o,(c<n∨n+5<c)->s.heap.get? c=some o->h'.get? c=some o)->Q (.ref s.heap.objs.size) { s with heap:=h' }) :
 adg (model prog w) A (afH.«zip.__next__» ⟨[.ref (n+5:Nat)],[]⟩) (λfin s'=>∃ v,fin = .done (.ret v)/\Q v s') E s:=by
 obtain⟨hz,dk,⟨a,b,c,eE⟩,h1,h2,h3⟩:=S;show adg _ A (field (.ref (n+5:Nat)) 2 >>= _) _ _ _;refine acR (ae0 hz rfl (x:=.bool false) rfl ?_);show adg _ A (field (.ref (n+5:Nat)) 3 >>= _) _ _ _;refine acR (ae0 hz rfl (x:=.ref (n+3:Nat)) rfl (acR (ad6 dk rfl ?_)));show adg _ A (aeb (.ref (n+5:Nat)) >>= _) _ _ _;refine acR ?_;unfold aeb;refine acR (ae0 hz rfl (x:=.none) rfl (acX ?_));simp only[if_true];refine acR (agD (acR (ae0 hz rfl (x:=.ref (n+4:Nat)) rfl ?_)));refine acR (aeU hz (by simp) λg1 z1 w1=>?_);replace z1:alz g1 (n+5:Nat) (n+3:Nat) (n+4:Nat) .ellipsis:=z1;refine acR ?_;simp only[akv,akZ,aiZ,ahO];have E1:∀ q o,q≠(n+5:Nat)->s.heap.get? q=some o->g1.get? q=some o:=λq o hq e=>w1.extBut q o hq e;refine acR (acR (aim ?_));show adg _ A (afB (.ref n) >>= _) _ _ _;refine acR (afX (h1.extBut w1.extBut (by walk_at "om")) (fg.extBut w1.extBut (by walk_at "om")) hx λg2 j1 w2=>acX ?_);have T2:ia g2 (n+4:Nat) a b c:=w2.extBut _ _ (by walk_at "om") (w1.extBut _ _ (by walk_at "om") eE);refine acR (ad6 T2 rfl (acR (yu T2 λg3 T3 w3=>?_)));replace T3:ia g3 (n+4:Nat) x b c:=T3;refine acR (aeD (acX ?_));refine acR (acR (aim ?_));show adg _ A (afB (.ref (n+1:Nat)) >>= _) _ _ _;refine acR (afX (((h2.extBut w1.extBut (by walk_at "om")).extBut w2.extBut (by walk_at "om")).extBut w3.extBut (by walk_at "om")) (((ba.extBut w1.extBut (by walk_at "om")).extBut w2.extBut (by walk_at "om")).extBut w3.extBut (by walk_at "om")) hy λg4 j2 w4=>acX ?_);have T4:ia g4 (n+4:Nat) x b c:=w4.extBut _ _ (by walk_at "om") T3;refine acR (ad6 T4 rfl (acR (yu T4 λg5 T5 w5=>?_)));replace T5:ia g5 (n+4:Nat) x y c:=T5;refine acR (aeD (acX ?_));refine acR (acR (aim ?_));show adg _ A (afB (.ref (n+2:Nat)) >>= _) _ _ _;have k5:∀ q o,q≠(n+5:Nat)->q≠(n+4:Nat)->q≠n->q≠(n+1:Nat)->s.heap.get? q=some o->g5.get? q=some o:=λq o c1 c2 c3 c4 e=>w5.extBut _ _ c2 (w4.extBut _ _ c4 (w3.extBut _ _ c2 (w2.extBut _ _ c3 (w1.extBut _ _ c1 e))));refine acR (afX (h3.at λo e=>k5 _ o (by walk_at "om") (by walk_at "om") (by walk_at "om") (by walk_at "om") e) (bz.at λo e=>k5 _ o (by walk_at "om") (by walk_at "om") (by walk_at "om") (by walk_at "om") e) hu λg6 j3 w6=>acX ?_);have T6:ia g6 (n+4:Nat) x y c:=w6.extBut _ _ (by walk_at "om") T5;refine acR (ad6 T6 rfl (acR (yu T6 λg7 T7 w7=>?_)));replace T7:ia g7 (n+4:Nat) x y u:=T7;refine acR (aeD (acX (acX ?_)));refine acR (ad6 T7 rfl (acR (ag3 ?_)));have sz:g7.objs.size=s.heap.objs.size:=by rw[w7.1,w6.1,w5.1,w4.1,w3.1,w2.1,w1.1]
 have z7:alz g7 (n+5:Nat) (n+3:Nat) (n+4:Nat) .ellipsis:=w7.extBut _ _ (by walk_at "om") (w6.extBut _ _ (by walk_at "om") (w5.extBut _ _ (by walk_at "om") (w4.extBut _ _ (by walk_at "om") (w3.extBut _ _ (by walk_at "om") (w2.extBut _ _ (by walk_at "om") z1)))));have k7:∀ q o,(q<n∨q=n+3∨n+5<q)->s.heap.get? q=some o->g7.get? q=some o:=λq o hq e=>w7.extBut _ _ (by walk_at "om") (w6.extBut _ _ (by walk_at "om") (k5 q o (by walk_at "om") (by walk_at "om") (by walk_at "om") (by walk_at "om") e));have n1:g7.IsListIter n l1 (k+1):=((((j1.extBut w3.extBut (by walk_at "om")).extBut w4.extBut (by walk_at "om")).extBut w5.extBut (by walk_at "om")).extBut w6.extBut (by walk_at "om")).extBut w7.extBut (by walk_at "om");have n2:g7.IsListIter (n+1:Nat) l2 (k+1):=((j2.extBut w5.extBut (by walk_at "om")).extBut w6.extBut (by walk_at "om")).extBut w7.extBut (by walk_at "om");have n3:g7.IsListIter (n+2:Nat) l3 (k+1):=j3.extBut w7.extBut (by walk_at "om");have zl:(n+5:Nat)<g7.objs.size:=ac0 z7;show adg _ A (agp (.ref (n+5:Nat)) (.ref g7.objs.size) >>= _) _ _ _;refine acR ?_;unfold agp;have z8:alz (g7.push { cls:=.type "tuple",data:=.seq #[x,y,u] }) (n+5:Nat) (n+3:Nat) (n+4:Nat) .ellipsis:=acT _ z7;refine acR (aeU z8 (by simp) λg9 z9 w9=>?_);replace z9:alz g9 (n+5:Nat) (n+3:Nat) (n+4:Nat) (agf g7.objs.size):=z9;refine aeU z9 (by simp) λga za wa=>?_;replace za:alz ga (n+5:Nat) (n+3:Nat) (n+4:Nat) (agf g7.objs.size):=za;have up:∀ q o,q≠(n+5:Nat)->g7.get? q=some o->ga.get? q=some o:=λq o c1 e=>wa.extBut _ _ c1 (w9.extBut _ _ c1 (acT _ e));have Ta:ia ga g7.objs.size x y u:=wa.extBut _ _ (aec zl) (w9.extBut _ _ (aec zl) (ac3 _ rfl));rw[sz] at za Ta;refine acX ⟨_,rfl,?_⟩;show Q (.ref g7.objs.size) _;rw[sz];exact hQ ga ⟨za,up (n+3:Nat) _ (by walk_at "om") (k7 (n+3:Nat) _ (.inr (.inl rfl)) dk),⟨_,_,_,up (n+4:Nat) _ (by walk_at "om") T7⟩,n1.at λo e=>up _ o (by walk_at "om") e,n2.at λo e=>up _ o (by walk_at "om") e,n3.at λo e=>up _ o (by walk_at "om") e⟩ Ta λq o hq e=>up q o (by walk_at "om") (k7 q o (by walk_at "om") e)
theorem TV{n:Nat}{l1 l2 l3:ac6}{k:Nat}{xs:Array acY}{Q:alD->acZ->Prop}(hh:A.handled=none)(d1:l1<n)(S:Z3 n l1 l2 l3 s.heap k .none)(fg:s.heap.IsList l1 xs)(hx:xs[k]?=none)
 (hE:∀ h' e,(∀ c o,(c<n∨n+5<c)->s.heap.get? c=some o->h'.get? c=some o)->(∃ o,h'.get? e=some o/\o.cls = .type "StopIteration")->E (.ref e) { s with heap:=h' }) :
 adg (model prog w) A (afH.«zip.__next__» ⟨[.ref (n+5:Nat)],[]⟩) Q E s:=by
 obtain⟨hz,dk,⟨a,b,c,eE⟩,h1,h2,h3⟩:=S;show adg _ A (field (.ref (n+5:Nat)) 2 >>= _) _ _ _;refine acR (ae0 hz rfl (x:=.bool false) rfl ?_);show adg _ A (field (.ref (n+5:Nat)) 3 >>= _) _ _ _;refine acR (ae0 hz rfl (x:=.ref (n+3:Nat)) rfl (acR (ad6 dk rfl ?_)));show adg _ A (aeb (.ref (n+5:Nat)) >>= _) _ _ _;refine acR ?_;unfold aeb;refine acR (ae0 hz rfl (x:=.none) rfl (acX ?_));simp only[if_true];refine acR (agD (acR (ae0 hz rfl (x:=.ref (n+4:Nat)) rfl ?_)));refine acR (aeU hz (by simp) λg1 z1 w1=>?_);replace z1:alz g1 (n+5:Nat) (n+3:Nat) (n+4:Nat) .ellipsis:=z1;refine acR ?_;simp only[akv,akZ,aiZ,ahO];refine acR (acR (aim ?_));show adg _ A (afB (.ref n) >>= _) _ _ _;refine acR (ajb hh (h1.extBut w1.extBut (by walk_at "om")) (fg.extBut w1.extBut (by walk_at "om")) hx λg2 e w2 he=>?_);obtain⟨oe,yw,qr⟩:=he;have z2:alz g2 (n+5:Nat) (n+3:Nat) (n+4:Nat) .ellipsis:=w2 _ _ (by walk_at "om") z1;have ne:e≠(n+5:Nat):=λq=>by subst q;rw[z2] at yw;cases yw;simp at qr
 exact aeU z2 (by simp) λg3 _ w3=>hE g3 e (λq o hq e0=>w3.extBut _ _ (by walk_at "om") (w2 _ _ (by walk_at "om") (w1.extBut _ _ (by walk_at "om") e0))) ⟨oe,w3.extBut _ _ ne yw,qr⟩
theorem TX{n:Nat}{l1 l2 l3:ac6}{k:Nat}{xs ys zs:Array acY}{x y u:acY}{Q:Option acY->acZ->Prop}(d1:l1<n)(d2:l2<n)(d3:l3<n)(S:Z3 n l1 l2 l3 s.heap k .none)
 (fg:s.heap.IsList l1 xs) (ba:s.heap.IsList l2 ys) (bz:s.heap.IsList l3 zs) (hx:xs[k]?=some x) (hy:ys[k]?=some y) (hu:zs[k]?=some u)
 (hQ:∀ h',Z3 n l1 l2 l3 h' (k+1) (agf s.heap.objs.size)->ia h' s.heap.objs.size x y u->(∀ c o,(c<n∨n+5<c)->s.heap.get? c=some o->h'.get? c=some o)->Q (some (.ref s.heap.objs.size)) { s with heap:=h' }) :
 adg (model prog w) A (ae7 (.ref (n+5:Nat))) Q E s:=by
 have T:s.TypeIs (.ref (n+5:Nat)) "zip" := ⟨_,S.z,rfl⟩;unfold ae7;exact acR (afw (aei (name:=aeQ "__next__") T af3 (aee af3 T aiJ (TU d1 d2 d3 S fg ba bz hx hy hu λh' a1 a2 a3=>acX (hQ h' a1 a2 a3)) (ain _))))
theorem TY{n:Nat}{l1 l2 l3:ac6}{k:Nat}{xs:Array acY}{Q:Option acY->acZ->Prop}(hh:A.handled=none)(d1:l1<n)(S:Z3 n l1 l2 l3 s.heap k .none)(fg:s.heap.IsList l1 xs)(hx:xs[k]?=none)
 (hQ:∀ h',(∀ c o,(c<n∨n+5<c)->s.heap.get? c=some o->h'.get? c=some o)->Q none { s with heap:=h' }):adg (model prog w) A (ae7 (.ref (n+5:Nat))) Q E s:=by
 have T:s.TypeIs (.ref (n+5:Nat)) "zip" := ⟨_,S.z,rfl⟩;unfold ae7;refine acR (afw (aei (name:=aeQ "__next__") T af3 (aee af3 T aiJ (TV hh d1 S fg hx λh' e hk he=>?_) (ain _))));obtain⟨o,h1,h2⟩:=he;refine acR (afT (T := "StopIteration") (b:=true) ⟨o,h1,h2⟩ ahS ?_);exact acX (hQ _ hk)
end
noncomputable abbrev qD(h:aeA)(l1:ac6):aeA:=h.push { cls:=.type "list_iterator",data:=.fields #[.ref l1,.int 0 0] }
noncomputable abbrev qE(h:aeA)(l1 l2:ac6):aeA:=(qD h l1).push { cls:=.type "list_iterator",data:=.fields #[.ref l2,.int 0 0] }
noncomputable abbrev tX(h:aeA)(l1 l2 l3:ac6):aeA:=(qE h l1 l2).push { cls:=.type "list_iterator",data:=.fields #[.ref l3,.int 0 0] }
noncomputable abbrev tY(h:aeA)(l1 l2 l3:ac6):aeA:=(tX h l1 l2 l3).push { cls:=.type "tuple",data:=.seq #[.ref h.objs.size,.ref (qD h l1).objs.size,.ref (qE h l1 l2).objs.size] }
noncomputable abbrev tZ(h:aeA)(l1 l2 l3:ac6):aeA:=(tY h l1 l2 l3).push { cls:=.type "tuple",data:=.seq #[.none,.none,.none] }
noncomputable abbrev m5(h:aeA)(l1 l2 l3:ac6):aeA:=(tZ h l1 l2 l3).push { cls:=.type "zip",data:=.fields #[.none,.bool false,.bool false,.ref (tX h l1 l2 l3).objs.size,.ref (tY h l1 l2 l3).objs.size] }
theorem TZ(l1 l2 l3:ac6)(xs ys zs:Array acY):Meets (afH.«zip.__new__» ⟨[.type "zip",.ref l1,.ref l2,.ref l3],[]⟩) (λ_ R s=>s.heap.IsList l1 xs/\s.heap.IsList l2 ys/\s.heap.IsList l3 zs/\R (.ok (.ret (.ref (tZ s.heap l1 l2 l3).objs.size))) { s with heap:=m5 s.heap l1 l2 l3 }) :=
 .of_wp λprog w A R s h=>by
  obtain⟨hp,g,d,tk,os⟩:=s;obtain⟨q1,q2,q3,h⟩:=h;have sub:=sub_zip;have L1:ak0 (Shared.heap ⟨hp,g,d,tk,os⟩) l1 xs:=q1;have L2:ak0 (Shared.heap ⟨qD hp l1,g,d,tk,os⟩) l2 ys:=Heap.IsList.push q2 _;have L3:ak0 (Shared.heap ⟨qE hp l1 l2,g,d,tk,os⟩) l3 zs:=Heap.IsList.push (Heap.IsList.push q3 _) _
  wp_walk using afF L1,afF L2,afF L3
  exact⟨_,rfl,h⟩
theorem Ua{prog:ado}{w:adM}{A:adQ}{E:acY->acZ->Prop}{s:acZ}{l1 l2 l3:ac6}{xs ys zs:Array acY}{Q:acY->acZ->Prop}(fg:s.heap.IsList l1 xs)(ba:s.heap.IsList l2 ys)(bz:s.heap.IsList l3 zs)
 (h:∀ h',Z3 s.heap.objs.size l1 l2 l3 h' 0 .none->(∀ c o,s.heap.get? c=some o->h'.get? c=some o)->Q (.ref (s.heap.objs.size+5:Nat)) { s with heap:=h' }):adg (model prog w) A (call (.type "zip") [.ref l1,.ref l2,.ref l3]) Q E s:=by
 refine callType_new PySem.F.called_zip (by decide) (TN _ _ _) (TQ _ _ _) (λobj=>TR obj _ _ _) PySem.F.entry_zip_new (TZ l1 l2 l3 xs ys zs) ⟨fg,ba,bz,?_⟩;have s1:(qD s.heap l1).objs.size=s.heap.objs.size+1:=ad0 ..;have s2:(qE s.heap l1 l2).objs.size=s.heap.objs.size+2:=by rw[ad0,s1]
 have s3:(tX s.heap l1 l2 l3).objs.size=s.heap.objs.size+3:=by rw[ad0,s2]
 have s4:(tY s.heap l1 l2 l3).objs.size=s.heap.objs.size+4:=by rw[ad0,s3]
 have s5:(tZ s.heap l1 l2 l3).objs.size=s.heap.objs.size+5:=by rw[ad0,s4]
 have p6:(m5 s.heap l1 l2 l3).get? (tZ s.heap l1 l2 l3).objs.size=some _:=ac3 _ rfl;have p5:(m5 s.heap l1 l2 l3).get? (tY s.heap l1 l2 l3).objs.size=some _:=acT _ (ac3 _ rfl);have p4:(m5 s.heap l1 l2 l3).get? (tX s.heap l1 l2 l3).objs.size=some _:=acT _ (acT _ (ac3 _ rfl));have p3:(m5 s.heap l1 l2 l3).get? (qE s.heap l1 l2).objs.size=some _:=acT _ (acT _ (acT _ (ac3 _ rfl)));have p2:(m5 s.heap l1 l2 l3).get? (qD s.heap l1).objs.size=some _:=acT _ (acT _ (acT _ (acT _ (ac3 _ rfl))));have p1:(m5 s.heap l1 l2 l3).get? s.heap.objs.size=some _:=acT _ (acT _ (acT _ (acT _ (acT _ (ac3 _ rfl)))));show _/\_;rw[s3,s4,s5] at p6;rw[s1,s2,s3] at p4;rw[s4] at p5;rw[s2] at p3;rw[s1] at p2;rw[s5];exact⟨⟨_,p6,rfl⟩,h _ ⟨p6,p4,⟨_,_,_,p5⟩,⟨_,p1,rfl,rfl⟩,⟨_,p2,rfl,rfl⟩,⟨_,p3,rfl,rfl⟩⟩ λc o q=>acT _ (acT _ (acT _ (acT _ (acT _ (acT _ q)))))⟩
noncomputable def yz(K:acS)(a b c:ac6):It :=
 ⟨λi H=>∃ xs ys zs x y z,ah K H a xs/\ah K H b ys/\ah K H c zs/\xs[i]?=some x/\ys[i]?=some y/\zs[i]?=some z,λi H v H'=>∃ (p:ac6) (x y z:V),v = .ref p/\H p=none/\H'=upd H p (.tup [x,y,z])/\(∀ xs,ah K H a xs->xs[i]?=some x)/\(∀ ys,ah K H b ys->ys[i]?=some y)/\∀ zs,ah K H c zs->zs[i]?=some z,
  λi H=>∃ xs,ah K H a xs/\xs.length<=i⟩
theorem Ub{P:ado}{w:adM}{K:acS}{es:List aeY}{k:Nat}{tp:Pos}(n:Nat)(a b c:ac6)(d1:a<n)(d2:b<n)(d3:c<n):Turn P w K (.Tuple es k tp) (yz K a b c) [(n+5:Nat),(n+3:Nat),(n+4:Nat),n,(n+1:Nat),(n+2:Nat)] (n+5:Nat) (λi h=>Z3 n a b c h i .none) where
 mem:=by simp
 obj:=λi h st q hq=>by
  obtain⟨hz,dk,⟨ta,tb,tc,eE⟩,⟨o1,h1,c1,e1⟩,⟨o2,h2,c2,e2⟩,⟨o3,h3,c3,e3⟩⟩:=st;have eV:q=(n+5:Nat)∨q=(n+3:Nat)∨q=(n+4:Nat)∨q=n∨q=(n+1:Nat)∨q=(n+2:Nat):=by simpa using hq
  rcases eV with rfl|rfl|rfl|rfl|rfl|rfl
  .exact⟨_,hz,λv q=>by
    have q':aie _=ag9 v:=q;cases q'⟩
  .exact⟨_,dk,λv q=>by
    have q':Data.seq _ _=ag9 v:=q;cases q'⟩
  .exact⟨_,eE,λv q=>by
    have q':Data.seq _ _=ag9 v:=q;cases q'⟩
  .exact⟨o1,h1,λv q=>by rw[e1] at q;cases q⟩
  .exact⟨o2,h2,λv q=>by rw[e2] at q;cases q⟩
  .exact⟨o3,h3,λv q=>by rw[e3] at q;cases q⟩
 keep:=λi h h' st kk=>by obtain⟨hz,dk,⟨ta,tb,tc,eE⟩,h1,h2,h3⟩:=st;exact⟨kk _ (by simp) _ hz,kk _ (by simp) _ dk,⟨ta,tb,tc,kk _ (by simp) _ eE⟩,h1.at λo e=>kk _ (by simp) o e,h2.at λo e=>kk _ (by simp) o e,h3.at λo e=>kk _ (by simp) o e⟩
 item:=by
  intro X hP hw hK hc i pins s σ H E I hf st hg;subst hP hw hK;obtain⟨xs,ys,zs,x,y,z,hqx,hqy,hqz,hx,hy,hz⟩:=hg;obtain⟨af,rv,p1,_⟩:=I.list hqx;obtain⟨jts,mQ,p2,_⟩:=I.list hqy;obtain⟨kts,IY,p3,_⟩:=I.list hqz;obtain⟨u,hu,ru⟩:=rv.get hx;obtain⟨v,hv,qd⟩:=mQ.get hy;obtain⟨t,ht,Uc⟩:=IY.get hz;have lz:=ac0 st.z;refine TX d1 d2 d3 st p1.isList p2.isList p3.isList (x:=u) (y:=v) (u:=t) (by simpa using hu) (by simpa using hv) (by simpa using ht) λh' S1 pT hk=>?_;refine⟨_,rfl,ahP S1.z λh3 z3 qt=>?_⟩;have fV:Heap.SameBut (n+5:Nat) h' h3:=qt;have neT:s.heap.objs.size≠(n+5:Nat):=aec lz;have up:∀ b o,b∉[((n+5:Nat):ac6),(n+3:Nat),(n+4:Nat),n,(n+1:Nat),(n+2:Nat)]->s.heap.get? b=some o->h3.get? b=some o:=λb o hb q=>by
   have bq:b≠(n+5:Nat)/\b≠(n+3:Nat)/\b≠(n+4:Nat)/\b≠n/\b≠(n+1:Nat)/\b≠(n+2:Nat):=by simpa using hb
   exact fV.extBut b o bq.1 (hk b o (by walk_at "om") q)
  have hn:H s.heap.objs.size=none:=I.aj.fresh (ac8 _);obtain⟨_,s2,⟨ta,tb,tc,s3⟩,s4,s5,s6⟩:=S1;refine⟨.ref s.heap.objs.size,upd H s.heap.objs.size (.tup [x,y,z]),xy (s:=s) (h':=h3) (t':=s.toks) I up hf (ac8 _) ⟨show 3<=adz by decide,[u,v,t],.cons ru (.cons qd (.cons Uc .nil)),?_⟩,rfl,⟨_,x,y,z,rfl,hn,rfl,λq hq=>by rw[I.kH hq hqx];exact hx,λq hq=>by rw[I.kH hq hqy];exact hy,λq hq=>by rw[I.kH hq hqz];exact hz⟩,
   ⟨z3,fV.extBut _ _ (by walk_at "om") s2,⟨_,_,_,fV.extBut _ _ (by walk_at "om") s3⟩,s4.at λo q=>fV.extBut _ _ (by walk_at "om") q,s5.at λo q=>fV.extBut _ _ (by walk_at "om") q,s6.at λo q=>fV.extBut _ _ (by walk_at "om") q⟩,λb hb=>?_⟩
  .exact⟨_,fV.extBut _ _ neT pT,rfl,_,rfl⟩
  .rw[aB]
   .exact (hf b hb).1
   .have bq:b=(n+5:Nat)∨b=(n+3:Nat)∨b=(n+4:Nat)∨b=n∨b=(n+1:Nat)∨b=(n+2:Nat):=by simpa using hb
    walk_at "om"
 done:=by
  intro X hP hw hK hc i pins s σ H E I hf st hg;subst hP hw hK;obtain⟨xs,hqx,hx⟩:=hg;obtain⟨af,rv,p1,_⟩:=I.list hqx;have l1:=rv.length;refine TY (I.ok.hd hc) d1 st p1.isList (by simp;lia) λh' hk=>⟨rfl,xw (t':=s.toks) I (λb o hb q=>?_) hf⟩
  have bq:b≠(n+5:Nat)/\b≠(n+3:Nat)/\b≠(n+4:Nat)/\b≠n/\b≠(n+1:Nat)/\b≠(n+2:Nat):=by simpa using hb
  exact hk b o (by walk_at "om") q
 self:=λ_ i s Q E st h=>ahk st.z h
noncomputable def IZ(K:acS)(ta:TA):TI:=λσ H R=>ta σ H λvs H1=>∃ a b c,vs=[.ref a,.ref b,.ref c]/\(∃ xs,ah K H1 a xs)/\(∃ ys,ah K H1 b ys)/\(∃ zs,ah K H1 c zs)/\R (yz K a b c) H1
theorem Ud{X:Cx}{es:List aeY}{k:Nat}{tp:Pos}{e f g:aeY}{ta:TA}{p pos:Pos}(hg:Gl X "zip")(hm:X.mg "zip" = none)(ha:PA X [e,f,g] ta)(hs:adC [e,f,g] X.env=(false,eval e X.env)::adC [f,g] X.env:=by rfl)(dw:adC [f,g] X.env=(false,eval f X.env)::adC [g] X.env:=by rfl)(qt:adC [g] X.env=[(false,eval g X.env)]:=by rfl):PI X (.Tuple es k tp) (.Call (.Name "zip" p) [e,f,g] [] pos) (IZ X.K ta):=by
 intro pins s σ H R I h;refine alO (eQ I hg hm Gm (adT (aA (ha pos pins s σ H _ I h) λus s1 ⟨vs,H1,I1,r1,q1⟩=>?_) hs (by rw[dw,qt];rfl)));obtain⟨a,b,c,rfl,⟨xs,hqx⟩,⟨ys,hqy⟩,⟨zs,hqz⟩,q⟩:=q1;obtain⟨u,v,t,rfl,ru,xH,Ue⟩:∃ u v t,us=[u,v,t]/\RelV (.ref a) u/\RelV (.ref b) v/\RelV (.ref c) t:=by
  cases r1 with
  | cons h1 r=>cases r with
   | cons h2 r=>cases r with
    | cons h3 r=>cases r;exact⟨_,_,_,rfl,h1,h2,h3⟩
 cases ru;cases xH;cases Ue;obtain⟨af,rv,p1,_⟩:=I1.list hqx;obtain⟨jts,mQ,p2,_⟩:=I1.list hqy;obtain⟨kts,IY,p3,_⟩:=I1.list hqz;have a1:a<s1.heap.objs.size:=by obtain⟨_,e,_⟩:=p1.isList;exact ac0 e
 have a2:b<s1.heap.objs.size:=by obtain⟨_,e,_⟩:=p2.isList;exact ac0 e
 have a3:c<s1.heap.objs.size:=by obtain⟨_,e,_⟩:=p3.isList;exact ac0 e
 refine Ua p1.isList p2.isList p3.isList λh' S hk=>ahk S.z ?_;have I2:Inv X pins σ H1 { s1 with heap:=h' }:=I1.kept (t':=s1.toks) hk;refine⟨_,_,_,_,H1,rfl,I2,Ub s1.heap.objs.size a b c a1 a2 a3,S,λq hq=>?_,q⟩;have eV:s1.heap.objs.size<=q:=by simp only[ac9,aeW,or_false] at hq;walk_at "om"
 exact I1.d9 eV (I1.aj.fresh eV)
local macro_rules | `(tactic| walk_at "om") => `(tactic| ((try simp only [PySem.Addr] at *); lia))
section
variable{X:Cx}{pins:List (ac6 × Obj)}{σ:L2.St}{H:Hp}{s:acZ}{a:ac6}{kvs:List (List Key × V)}{o:Obj}{u u':HO}
noncomputable def Loose:HO->Prop
 | .dT _=>True
 | .aX _ (.dT _)=>True
 | _=>False
theorem I0(I:Inv X pins σ H s)(e:H a=some u)(lu:Loose u)(h0:∀ o v,X.H₀ a≠some (.aX o v))(new:bG X.prog X.w (upd H a u') s.heap a u'):Inv X pins σ (upd H a u') s:=by
 have nn:∀ b,H b=none->b≠a:=λb h z=>by rw[z,e] at h;cases h
 have nt:∀ b xs,H b=some (.tup xs)->b≠a:=λb xs h z=>by rw[z,e] at h;cases h;exact lu
 have no:∀ b x,H b=some (.own x)->b≠a:=λb x h z=>by rw[z,e] at h;cases h;exact lu
 have nb:∀ b ps,H b=some (.tbl ps)->b≠a:=λb ps h z=>by rw[z,e] at h;cases h;exact lu
 refine⟨I.ok,I.os,I.bare,⟨I.base.keep,I.base.slot,λb o e1 n hx=>?_,I.base.there,λb xs e1=>?_,λb o v e1=>?_,λb ps e1=>?_⟩,I.loc,I.cell,?_,λx c e1=>?_,λp hp=>?_,λb ob e1=>?_,I.len⟩
 .have:=I.base.free b o e1 n hx;rw[aB (nn b this)];exact this
 .have:=I.base.dv b xs e1;rw[aB (nt b xs this)];exact this
 .have:=I.base.dI b o v e1;rw[aB (show b≠a from λz=>h0 o v (by rw[<- z];exact e1))];exact this
 .obtain⟨more,this⟩:=I.base.eO b ps e1;exact⟨more,by rw[aB (nb b _ this)];exact this⟩
 .rw[aB (nn _ I.free)];exact I.free
 .have:=I.fM x c e1;rw[aB (nn c this)];exact this
 .obtain⟨p1,p2,p3⟩:=I.pin p hp;exact⟨p1,by rw[aB (nn _ p2)];exact p2,p3⟩
 .by_cases hb:b=a
  .subst hb;rw[ar] at e1;cases e1;exact new
  .rw[aB hb] at e1;exact (I.aj b ob e1).fq (λ_ _ _ q=>q) (λc h=>by rw[aB (no c _ h)];exact h) λc xs h=>by rw[aB (nt c xs h)];exact h
theorem Ug(I:Inv X pins σ H s)(e:H a=some (.dT kvs)):∃ o,Inv X pins σ (upd H a (.aX o (.dT kvs))) s/\∀ o v,X.H₀ a≠some (.aX o v):=by
 have h0:∀ o v,X.H₀ a≠some (.aX o v):=λo v z=>by have:=I.base.dI a o v z;rw[e] at this;cases this
 have ok:=I.aj a _ e;obtain⟨_,_,_,_,o,_,_,ho,_⟩:=id ok;refine⟨o,I0 I e trivial h0 ⟨ho,ok.fq (λ_ _ _ q=>q) (λc h=>?_) λc xs h=>?_⟩,h0⟩
 .rw[aB λz=>by rw[z,e] at h;cases h];exact h
 .rw[aB λz=>by rw[z,e] at h;cases h];exact h
theorem t4(I:Inv X pins σ H s)(e:H a=some (.aX o (.dT kvs)))(h0:∀ o v,X.H₀ a≠some (.aX o v)):Inv X pins σ (upd H a (.dT kvs)) s:=by
 obtain⟨_,ok⟩:=I.aj a _ e;refine I0 I e trivial h0 (ok.fq (λ_ _ _ q=>q) (λc h=>?_) λc xs h=>?_)
 .rw[aB λz=>by rw[z,e] at h;cases h];exact h
 .rw[aB λz=>by rw[z,e] at h;cases h];exact h
noncomputable def I9(a:ac6)(o:Obj)(kvs:List (List Key × V))(D:Ends):Ends where
 nx:=λσ H=>H a=some (.aX o (.dT kvs))/\D.nx σ (upd H a (.dT kvs))
 rt:=λv H=>H a=some (.aX o (.dT kvs))/\D.rt v (upd H a (.dT kvs))
 bk:=λσ H=>H a=some (.aX o (.dT kvs))/\D.bk σ (upd H a (.dT kvs))
 ct:=λσ H=>H a=some (.aX o (.dT kvs))/\D.ct σ (upd H a (.dT kvs))
noncomputable def Ja(t:TS):TS:=λD σ H=>∃ a kvs,H a=some (.dT kvs)/\∀ o,t (I9 a o kvs D) σ (upd H a (.aX o (.dT kvs)))
theorem Uh{st:afr}{t:TS}(h:PS X st t):PS X st (Ja t):=by
 rintro pins s σ H D I ⟨a,kvs,e,q⟩;obtain⟨o,I1,h0⟩:=Ug I e;refine aA (h pins s σ _ _ I1 (q o)) λf s' hf=>?_;cases f with
 | next=>obtain⟨σ',H',I',e',q'⟩:=hf;exact⟨σ',_,t4 I' e' h0,q'⟩
 | brk=>obtain⟨σ',H',I',e',q'⟩:=hf;exact⟨σ',_,t4 I' e' h0,q'⟩
 | cont=>obtain⟨σ',H',I',e',q'⟩:=hf;exact⟨σ',_,t4 I' e' h0,q'⟩
 | ret v=>obtain⟨v',σ',H',I',r',e',q'⟩:=hf;exact⟨v',σ',_,t4 I' e' h0,r',q'⟩
noncomputable def Ui(t:TE):TE:=λσ H Q=>∃ a kvs,H a=some (.dT kvs)/\∀ o,t σ (upd H a (.aX o (.dT kvs))) λv H'=>H' a=some (.aX o (.dT kvs))/\Q v (upd H' a (.dT kvs))
noncomputable def jx(o:Obj):List V:=match o.data with
 | .dict es _=>es.toList.map λe=>match e.key with
  | .ref a=>V.ref a
  | _=>V.non
 | _=>[]
noncomputable def t6(a:ac6)(o:Obj)(kvs:List (List Key × V)):It where
 go i H:=H a=some (.aX o (.dT kvs))/\i<kvs.length
 yld i H x H':=H'=H/\(jx o)[i]?=some x
 stop i H:=H a=some (.aX o (.dT kvs))/\kvs.length<=i
noncomputable def yA(tl:TE):TI:=λσ H R=>tl σ H λx H1=>∃ a o kvs,x = .ref a/\H1 a=some (.aX o (.dT kvs))/\(hV H1 (jx o) kvs->R (t6 a o kvs) H1)
theorem yB{P:ado}{w:adM}{h:aeA}(ok:bQ P w H h)(e:H a=some (.aX o (.dT kvs))):∃ (as:List ac6) (es:Array agH) (ep:Nat),hV H (jx o) kvs/\(a == afp)=false/\fY h a es ep/\o.data = .dict es ep/\es.size=kvs.length/\kvs.length<=adz/\∀ i (hi:i<es.size),∃ b,es[i].key = .ref b/\(jx o)[i]?=some (.ref b):=by
 obtain⟨ho,z,lo,xs,rel,o',es,ep,cR,hc,hd,he,hn⟩:=ok a _ e;rw[ho] at cR;cases cR;have hl:xs.length=kvs.length:=(Paired.length rel).symm;have hs:es.size=xs.length:=ai7 he;have ek:jx o=(xs.map (·.2.1)).map V.ref:=by unfold jx;rw[hd];show es.toList.map _=_;rw[he,ae1,ae1];exact aeZ λx _=>rfl
 refine⟨xs.map (·.2.1),es,ep,?_,lo,⟨o,ho,hc,hd⟩,hd,hs.trans hl,z,λi hi=>?_⟩
 .rw[ek];exact KT.HY rel
 .have hx:i<xs.length:=by lia
  have e1:=entry_at he i;rw[adR hi,acW hx] at e1;have e2:es[i]=entryOfKey (ahZ (fo P w)) xs[i]:=by simpa using e1
  refine⟨xs[i].2.1,by rw[e2];rfl,?_⟩;rw[ek,adi,adi,acW hx];rfl
theorem Uj{P:ado}{w:adM}{K:acS}{tg:aeY}(a it:ac6)(o:Obj)(kvs:List (List Key × V))(bg:a≠it):Turn P w K tg (t6 a o kvs) [it] it (λi h=>∃ es ep,o.data = .dict es ep/\i<=es.size/\h.IsKeyIter it a i es.size ep) where
 mem:=by simp
 obj:=λi h st b hb=>by
  have e:b=it:=by simpa using hb
  subst e;obtain⟨es,ep,_,_,ob,e,c,d⟩:=st;exact⟨ob,e,λv z=>by rw[d] at z;cases z⟩
 keep:=λi h h' st k=>by obtain⟨es,ep,h1,h2,ob,e,c,d⟩:=st;exact⟨es,ep,h1,h2,ob,k it (by simp) ob e,c,d⟩
 item:=by
  intro X hP hw hK hc i pins s σ H E I hf st hg;subst hP hw hK;obtain⟨e,hi⟩:=hg;obtain⟨es,ep,hd,hle,hit⟩:=st;obtain⟨as,es',pL,hk,lo,raw,iz,hs,hz,hkey⟩:=yB I.aj e;rw[hd] at iz;cases iz;obtain⟨f0,f1,f2,f3,f4,f5⟩:=hf it (by simp);have bP:i<es.size:=by lia
  obtain⟨b,eb,kb⟩:=hkey i bP;refine HQ hit raw bP λh' j6 sb=>?_;have I1:Inv X pins σ H { s with heap:=h' }:=I.turned (t':=s.toks) (λb o hb e=>(sb.2 b hb).trans e) f0 f1 f3 f4 f5;obtain⟨ob,e1,c1,d1⟩:=id j6;exact⟨es[i].key,rfl,nQ (s:={ s with heap:=h' }) e1 c1 d1 (by decide) ⟨.ref b,H,I1,eb,⟨rfl,kb⟩,⟨es,ep,hd,bP,j6⟩,λb hb=>(hf b hb).1⟩⟩
 done:=by
  intro X hP hw hK hc i pins s σ H E I hf st hg;subst hP hw hK;obtain⟨e,hi⟩:=hg;obtain⟨es,ep,hd,hle,hit⟩:=st;obtain⟨as,es',pL,hk,lo,raw,iz,hs,hz,hkey⟩:=yB I.aj e;rw[hd] at iz;cases iz;obtain⟨f0,f1,f2,f3,f4,f5⟩:=hf it (by simp);have ei:i=es.size:=by lia
  subst ei;exact HR (I.ok.hd hc) hit raw λh' eb=>⟨rfl,I.turned (t':=s.toks) (λb o hb e=>eb b o hb e) f0 f1 f3 f4 f5⟩
 self:=λ_ _ _ _ _ st h=>by obtain⟨es,ep,_,_,hit⟩:=st;exact ajs hit h
theorem Uk{tg l:aeY}{tl:TE}(hl:PE X l tl):PI X tg l (yA tl):=by
 intro pins s σ H R I h;refine aA (hl pins s σ H _ I h) λv s1 ⟨x,H1,I1,r1,q1⟩=>?_;obtain⟨a,o,kvs,e,hf,q⟩:=q1;subst e;cases r1;obtain⟨as,es,ep,hk,lo,raw,hd,hs,hz,hkey⟩:=yB I1.aj hf;refine HP lo raw ?_;refine⟨s1.heap.objs.size,[s1.heap.objs.size],_,_,H1,rfl,I1.kept (t':=s1.toks) λb o e=>acT _ e,Uj a _ o kvs (adp raw.lt),⟨es,ep,hd,adw _,_,ac3 _ rfl,rfl,rfl⟩,λb hb=>?_,q hk⟩;have e:b=s1.heap.objs.size:=by simpa using hb
 subst e;exact I1.d9 (ac8 _) (I1.aj.fresh (ac8 _))
theorem Ul{tl:TE}{g:TG}{tb:TS}{D:Ends}:jf (yA tl) g tb D σ H=tl σ H (λx H1=>∃ a o kvs,x = .ref a/\H1 a=some (.aX o (.dT kvs))/\(hV H1 (jx o) kvs->FJ (t6 a o kvs) g tb D σ H1)):=rfl
theorem Um{g:TG}{tb:TS}{D:Ends}{xs:List V}(Pv:Nat->L2.St->Hp->Prop)(hk:jx o=xs)(hxl:xs.length=kvs.length)(h0:Pv 0 σ H)(hl:∀ i σ H,i<=xs.length->Pv i σ H->H a=some (.aX o (.dT kvs)))
 (hs:∀ i x σ H,xs[i]?=some x->Pv i σ H->g x σ H λσ2 H2=>tb { D with nx:=Pv (i+1),ct:=Pv (i+1),bk:=D.nx } σ2 H2) (hd:∀ σ H,Pv xs.length σ H->D.nx σ H):FJ (t6 a o kvs) g tb D σ H:=by
 refine⟨λi m σ H=>m=xs.length-i/\i<=xs.length/\Pv i σ H,⟨xs.length,by simp,adw _,h0⟩,?_⟩;rintro i m σ H ⟨rfl,hi,p⟩;have q:=hl i σ H hi p;by_cases aZ:i<xs.length
 .refine .inr ⟨⟨q,by lia⟩,Pv (i+1),λσ' H' p'=>⟨xs.length-(i+1),by lia,rfl,aZ,p'⟩,λx H' y=>?_⟩;obtain⟨e,y⟩:=y;subst e;rw[hk] at y;exact hs i x σ _ y p
 .have e:i=xs.length:=by lia
  subst e;exact .inl ⟨⟨q,by lia⟩,hd σ H p⟩
end
theorem t7{H:Hp}{a p:ac6}{u v w:HO}(e:H a=some u)(h:H p=some v)(ne:v≠u):upd H a w p=some v:=by rw[aB (sd h e ne)];exact h
section
variable{H H0 H1:Hp}{a p:ac6}{kvs:List (List Key × V)}{o:Obj}
theorem Uo(e:H0 a=some (.dT kvs))(s:ak (upd H0 a (.aX o (.dT kvs))) H1):ak H0 (upd H1 a (.dT kvs)):=λb u h=>by
 by_cases hb:b=a
 .subst hb;rw[e] at h;cases h;exact ar
 .rw[aB hb];exact s b u (by rw[aB hb];exact h)
theorem Up{xs:List V}(e:H a=some (.dT kvs))(h:H p=some (.tup xs)){u:HO}:upd H a u p=some (.tup xs):=t7 e h λz=>nomatch z
theorem Jb{xs:List V}(e:H a=some (.dT kvs))(h:H p=some (.lst xs)){u:HO}:upd H a u p=some (.lst xs):=t7 e h λz=>nomatch z
theorem Uq{xs:List V}(e:H a=some (.aX o (.dT kvs)))(h:H p=some (.lst xs)){u:HO}:upd H a u p=some (.lst xs):=t7 e h λz=>nomatch z
theorem aI.aX{v:V}{x y:En}(h:aI H v x y)(e:H a=some (.dT kvs)){u:HO}:aI (upd H a u) v x y:=let ⟨t,e1,h1⟩:=h;⟨t,e1,Up e h1⟩
theorem bo.aX{tb:Tb}(h:bo H kvs tb)(e:H a=some (.dT kvs)){u:HO}:bo (upd H a u) kvs tb:=h.imp λ_ _ _ z=>z.aX e
theorem Ur{K:acS}{xs:List V}(e:H a=some (.dT kvs))(h:ah K H p xs):ah K (upd H a (.aX o (.dT kvs))) p xs:=by
 rcases h with (h|⟨z,h⟩)|h
 .exact .inl (.inl (Jb e h))
 .exact .inl (.inr ⟨z,t7 e h λz=>nomatch z⟩)
 .exact .inr h
end
theorem fc.z{H:Hp}{a b:ac6}{kvs:List (List Key × V)}{k:List Key}{o:Obj}(e:H a=some (.aX o (.dT kvs)))(eb:H b=some (.tup (k.map kV))):fc H a (.ref b) (fX kvs k):=.inr ⟨kvs,k,b,.inr ⟨o,e⟩,rfl,eb,rfl⟩
noncomputable def fI(tb:Tb)(i:Int):List Mk:=((iW tb).filter λr=>decide (r.1.1=i)).map λr=>(r.1.2.toNat,r.2)
theorem yC{tb:Tb}{i:Int}{k:Mk}:k∈fI tb i ↔ ∃ r∈tb,r.1.1=i/\k=(r.1.2.toNat,r.2):=by
 unfold fI;rw[adf];constructor
 .rintro ⟨r,hr,rfl⟩;obtain⟨h1,h2⟩:=adS.mp hr;exact⟨r,lD h1,by simpa using h2,rfl⟩
 .rintro ⟨r,hr,hn,rfl⟩;exact⟨r,adS.mpr ⟨qC.mem_iff.mpr hr,by simpa using hn⟩,rfl⟩
noncomputable def c7(cs:List Int)(t:Nat):Int:=cs.getD t 0
theorem qF{cs:List Int}{t:Nat}(h:t<cs.length):(cs.map V.int)[t]?=some (V.int (c7 cs t)):=by rw[adi,acW h];unfold c7;rw[acU,acW h];rfl
noncomputable def qG(tb:Tb)(cs:List Int)(i:Int):Bool:=!((fI tb i).all λm=>hold m.2.1 m.2.2 (c7 cs m.1))
theorem Us{tb:Tb}{cs:List Int}{i:Int}:qG tb cs i=true ↔ ∃ r∈tb,r.1.1=i/\hs r.2 (c7 cs r.1.2.toNat)=false:=by
 unfold qG;rw[aj5,aka];constructor
 .rintro ⟨m,hm,h⟩;obtain⟨r,hr,e,rfl⟩:=yC.mp hm;have h:hold r.2.1 r.2.2 (c7 cs r.1.2.toNat)=false:=by simpa using h
  exact⟨r,hr,e,h⟩
 .rintro ⟨r,hr,e,h⟩;refine⟨_,yC.mpr ⟨r,hr,e,rfl⟩,?_⟩;have h:hold r.2.1 r.2.2 (c7 cs r.1.2.toNat)=false:=h;rw[h];simp
noncomputable def t8(e:Int)(tb:Tb)(cs:List Int):List Int:=((adx e.toNat).map λ(k:Nat)=>(k:Int)).filter (qG tb cs)
theorem Ut{tb rs:Tb}{s:P2}{w:S2}(h:tb.Perm rs):(cY tb s w).Perm (cY rs s w):=by
 have e:(tb.any λr=>decide (r.1=s))=rs.any λr=>decide (r.1=s):=by rw[aff,aes,aes];exact⟨λ⟨x,h1,h2⟩=>⟨x,h.mem_iff.mp h1,h2⟩,λ⟨x,h1,h2⟩=>⟨x,h.mem_iff.mpr h1,h2⟩⟩
 unfold cY;rw[e];split
 .exact h.map _
 .exact h.append_right _
theorem Uu{K:acS}{ρ:L2.St}{te:TE}{H:Hp}{Q:VK}{a b c:ac6}{xs ys zs:List V}{n:Nat}{f:Nat->V}(hn:n<=adz)(ha:ah K H a xs)(hb:ah K H b ys)(hc:ah K H c zs)(h1:xs.length=n)(h2:n<=ys.length)(h3:n<=zs.length)
 (hs:∀ i x y z H',i<n->xs[i]?=some x->ys[i]?=some y->zs[i]?=some z->ak H H'->∀ Q:VK,(∀ gX,ak H' gX->Q (f i) gX)->te (some x::some y::some z::ρ) H' Q)
 (q:∀ H',ak H H'->∀ l,H' l=none->Q (.ref l) (upd H' l (.lst ((adx n).map f)))):oo 3 (yz K a b c) (gP K 3 (bU (bR 0) (bU (bR 1) (bU (bR 2) gq)))) ρ sW te H Q:=by
 refine⟨λi m ws H1=>m=n-i/\i<=n/\ws=(adx i).map f/\ak H H1,⟨_,rfl,adw _,rfl,ak.refl _⟩,?_⟩;rintro i m ws H1 ⟨rfl,hi,rfl,s1⟩;by_cases aZ:i<n
 .obtain⟨x,hx⟩:∃ x,xs[i]?=some x:=⟨_,acW (by lia)⟩
  obtain⟨y,hy⟩:∃ y,ys[i]?=some y:=⟨_,acW (by lia)⟩
  obtain⟨z,hz⟩:∃ z,zs[i]?=some z:=⟨_,acW (by lia)⟩
  refine .inr ⟨⟨xs,ys,zs,x,y,z,s1.seq ha,s1.seq hb,s1.seq hc,hx,hy,hz⟩,by rw[acV,ads];lia,λJc H'=>Jc=(adx (i+1)).map f/\ak H H',λJc H' q'=>⟨_,by lia,rfl,aZ,q'.1,q'.2⟩,λos yo v H' yy=>?_⟩;obtain⟨p,x',y',z',rfl,hp,rfl,ex,ey,ez⟩:=yy;have ex:=(ex xs (s1.seq ha)).symm.trans hx;have ey:=(ey ys (s1.seq hb)).symm.trans hy;have ez:=(ez zs (s1.seq hc)).symm.trans hz;cases ex;cases ey;cases ez
  match os,yo with
  | [o1,o2,o3],_ =>
   refine yb (ax.of ar) ⟨[some x,some y,some z],rfl,rfl,?_⟩;have u:=s1.trans (aw (o:=.tup [x,y,z]) hp);unfold sW;dsimp only;rw[if_pos rfl];refine hs i x y z _ aZ hx hy hz u _ λgX mB=>⟨?_,u.trans mB⟩
   rw[ajc,aea];rfl
 .have e:i=n:=by lia
  subst e;exact .inl ⟨⟨xs,s1.seq ha,by lia⟩,by rw[acV,ads];lia,q H1 s1⟩
local macro_rules | `(tactic| walk_at "om") => `(tactic| ((try simp only [PySem.Addr] at *); lia))
noncomputable def eJ(X:Cx)(x:Str)(N':List Str)(scope:ahg)(cl:List (Str × ac6))(C:ac6)(s2:acZ)(H2:Hp)(ex:List ac6)(pn:List (ac6 × Obj)):Cx :=
 { X with N:=N',s₀:=s2,H₀:=H2,env:=afD scope ((x,(C+1:Nat))::cl) C X.env,outer:=X.stack,ex:=ex,fn:=λy=>y == x,pn:=pn,xe:=λ_ _=>False }
structure oB(X:Cx)(x:Str)(scope:ahg)(cl:List (Str × ac6))(fr:List Nat)(ys:List Str):Prop where
 clos:alc scope X.env=pure cl
 one:∀ n acc,PySem.cellsFrom n scope.names acc=(x,n)::acc
 push:∀ h,pushCells h scope.names=h.push { cls:=.type "cell",data:=.cell none }
 kind:scope.kind = .function
 names:(scope.names.all λp=>p.2 != .local || scope.names.lookup p.1 == some .local)=true
 own:scope.names.lookup x=some .cell
 kinds:((relabel scope X.env).names.all λp=>(p.2 != .cell && p.2 != .free) || p.1 == x || (cl.lookup p.1).isSome)=true
 cls:k6 X cl
 aY:jr X scope cl fr ys
 nd:(x::ys).Nodup
 kfr:(ys.all λy=>(relabel scope X.env).names.lookup y == some .cell)=true
theorem Jd{env:Env}:∀ {names:List (Str × aih)} {x:Str},names.lookup x=some .cell ->
 (names.map λ(n,k)=>if (k == NameKind.free && env.scope.kind == .function && env.kindOf n == some .cell) then (n,NameKind.cell) else (n,k)).lookup x=some .cell
 | [],_,h=>by simp at h
 | (n,k)::r,x,h=>by
  have ih:=@Jd env r x;show agx x ((if (k == NameKind.free && env.scope.kind == .function && env.kindOf n == some .cell)=true then (n,NameKind.cell) else (n,k))::_)=_;cases hx:x == n with
  | true =>
   simp only[aeV,hx] at h;cases h;simp[aeV,hx]
  | false =>
   simp only[aeV,hx] at h;by_cases hc:(k == NameKind.free && env.scope.kind == .function && env.kindOf n == some .cell)=true
   .rw[if_pos hc];simp only[aeV,hx];exact ih h
   .rw[if_neg hc];simp only[aeV,hx];exact ih h
theorem lJ{x y:Str}{a c:ac6}{cl:List (Str × ac6)}(h:((x,a)::cl).lookup y=some c):(y=x/\c=a)∨(y≠x/\cl.lookup y=some c):=by
 rw[aeV] at h;by_cases hy:(y == x)=true
 .rw[hy] at h;cases h;exact .inl ⟨by simpa using hy,rfl⟩
 .rw[agX.mpr hy] at h;exact .inr ⟨by simpa using hy,h⟩
theorem Uv{x y:Str}{a c:ac6}{cl:List (Str × ac6)}(h:cl.lookup y=some c)(hy:y≠x):((x,a)::cl).lookup y=some c:=by rw[aeV,beq_eq_false_iff_ne.mpr hy];exact h
theorem Uw{M:Model}{A:adQ}{E:acY->acZ->Prop}{s:acZ}{scope:ahg}{globals:ac6}{cl:List (Str × ac6)}{qual:Str}{x:Str}{env:Env}{Q:Env->acZ->Prop}
 (one:∀ n acc,PySem.cellsFrom n scope.names acc=(x,n)::acc) (push:∀ h,pushCells h scope.names=h.push { cls:=.type "cell",data:=.cell none })
 (hQ:Q (newEnv scope s.heap.objs.size globals ((x,(s.heap.objs.size+1:Nat))::cl) qual none .none (some env) ajZ) { s with heap:=(s.heap.push { cls:=.type "dict",data:=.dict #[] }).push { cls:=.type "cell",data:=.cell none } }) :
 adg M A (ag4 scope globals cl [] qual none .none (some env)) Q E s:=by
 simp only[ag4,ajQ,if_true];refine acR (wpAny_alloc ?_);refine acR (wpAny_layCells _ (λname kind cells=>by cases hkc:kind == NameKind.cell<;>simp[hkc]) _ _ _ _ ?_);rw[one,push,show ({ s with heap:=s.heap.push { cls:=.type "dict",data:=.dict #[] } }:acZ).heap.objs.size=s.heap.objs.size+1 from ad0 ..];refine acR ?_;rw[ahO];exact acX (acX hQ)
theorem Ux{X:Cx}{K:acS}{tg l:aeY}{tl:TE}(h:X.K=K)(hl:PE X l tl):PI X tg l (su K tl):=h ▸ ck hl
section
variable{X:Cx}{pins:List (ac6 × Obj)}{σ:L2.St}{H2:Hp}{s2:acZ}{x:Str}{px pos:Pos}{elt iter:aeY}{ifs:List aeY}{scope:ahg}{cl:List (Str × ac6)}{fr:List Nat}{ys:List Str}{tt:TT}{te:TE}
theorem oB.low(S:oB X x scope cl fr ys)(I2:Inv X pins σ H2 s2){y:Str}{c:ac6}(e:cl.lookup y=some c):c<s2.heap.objs.size:=by obtain⟨v,o,ho,_⟩:=I2.cell y c (S.cls.get y c e);exact ac0 ho
theorem Uy{C:ac6}{ex:List ac6}{pn:List (ac6 × Obj)}(S:oB X x scope cl fr ys)(I2:Inv X pins σ H2 s2)(f2:∀ b∈ex,cw X pins H2 b)(hC:s2.heap.objs.size<=C)(hex:∀ b∈ex,b<s2.heap.objs.size):(eJ X x (x::ys) scope cl C s2 H2 ex pn).Ok:=by
 refine⟨I2.ok.mod,S.kind,I2.ok.glob,I2.ok.blt,hC,λa b c h1 h2=>?_,λy hy=>?_,λy c hy h1=>?_,I2.ok.hd,I2.ok.frames,.inl rfl,λb hb=>⟨?_,λy c e z=>?_⟩,I2.bs,adb I2.ok.bsz I2.sz,λb o e hb=>?_,λb hb z=>?_,I2.stack,I2.nJ⟩
 .rcases lJ h1 with ⟨e1,e2⟩|⟨_,e1⟩<;>rcases lJ h2 with ⟨e3,e4⟩|⟨_,e3⟩
  .rw[e1,e3]
  .have:=S.low I2 e3;walk_at "om"
  .have:=S.low I2 e1;walk_at "om"
  .exact I2.ok.inj a b c (S.cls.get a c e1) (S.cls.get b c e3)
 .have qe:(relabel scope X.env).names.lookup y=some .cell∨(relabel scope X.env).names.lookup y=some .free:=hy;have q:(y == x)=true∨(cl.lookup y).isSome=true:=by
   rcases qe with e|e
   .simpa using og S.kinds e
   .simpa using og S.kinds e
  show ∃ c,((x,(C+1:Nat))::cl).lookup y=some c;rw[aeV];by_cases hyx:(y == x)=true
  .rw[hyx];exact⟨_,rfl⟩
  .rw[agX.mpr hyx];exact ae3.mp (q.resolve_left hyx)
 .have e:y=x:=by have:(y == x)=true:=hy;simpa using this
  rcases lJ h1 with ⟨_,e2⟩|⟨n,_⟩
  .show s2.heap.objs.size<=c;walk_at "om"
  .exact absurd e n
 .exact adp (adn (hex b hb) hC)
 .have:=hex b hb;rcases lJ e with ⟨_,e2⟩|⟨_,e2⟩
  .walk_at "om"
  .exact (f2 b hb).2.2.2.2.1 y c (S.cls.get y c e2) z
 .obtain⟨_,_,_,d,_,_⟩:=f2 b hb;rcases d with d|d
  .exact I2.ok.noex b o e d
  .exact absurd (adn (ac0 e) (adb I2.ok.bsz d)) (aeN _)
 .obtain⟨_,d1,d2,_⟩:=f2 b hb;rcases ac9.mp (I2.fN b z) with q|q
  .exact d1 q
  .exact d2 q
theorem Uz{J:It}{fp:List ac6}{it:ac6}{tn:Nat->aeA->Prop}{E:acY->acZ->Prop}{Q:VK}{RR:acY->ac6->ahG->acZ->Prop}
 (S:oB X x scope cl fr ys) (hc:X.calm=true)
 (hb:∀ (C:ac6) (s:acZ) (H:Hp) (ex:List ac6) (pn:List (ac6 × Obj)),jW (eJ X x (x::ys) scope cl C s H ex pn) ifs tt/\PE (eJ X x (x::ys) scope cl C s H ex pn) elt te)
 (I2:Inv X pins σ H2 s2) (T:Turn X.prog X.w X.K (.Name x px) J fp it tn) (df:tn 0 s2.heap) (f2:∀ b∈fp,cw X pins H2 b)
 (h:n9 J (fr.map λj=>(σ[j]?).join) tt te H2 Q)
 (qf:∀ D C s' H',Inv X pins σ H' s'->(∃ m,s'.heap.Ns C m)->cw X pins H' C->Q (.ref D) H'->RR (.ref D) C (.ok .next) s') :
 adg (model X.prog X.w) X.A (akT []) (λacc s3=>adg (model X.prog X.w) X.A (ag4 scope X.env.globals cl [] X.env.qual none .none (some X.env)) (λk8 s4 =>
  afG (model X.prog X.w) X.A (.compStart (.ListComp elt [⟨.Name x px,iter,ifs,0⟩] scope pos) 0 (.ref it) acc { k8 with scope:=relabel scope X.env }) (RR acc k8.locals) s4) E s3) E s2:=by
 obtain⟨W,⟨m0,w0⟩,turn⟩:=h;refine ad8 (Uw S.one S.push ?_);dsimp only;generalize eP:s2.heap.push { cls:=.type "list",dict:=none,data:=.seq ([]:List acY).toArray }=P2;have sz:P2.objs.size=s2.heap.objs.size+1:=by rw[<- eP,ad0]
 have dD:s2.heap.objs.size≠P2.objs.size:=by walk_at "om"
 generalize eh:(P2.push { cls:=.type "dict",data:=.dict #[] }).push { cls:=.type "cell",data:=.cell none }=h1;have Je:∀ b o,P2.get? b=some o->h1.get? b=some o:=λb o e=>by rw[<- eh];exact acT _ (acT _ e)
 have keep:∀ b o,s2.heap.get? b=some o->h1.get? b=some o:=λb o e=>Je b o (eP ▸ acT _ e);have hD:h1.get? s2.heap.objs.size=some { cls:=.type "list",data:=.seq ([]:List acY).toArray 0 }:=Je _ _ (eP ▸ ac3 _ rfl);have fB:h1.Ns P2.objs.size λ_=>none:=by rw[<- eh];exact (Heap.Ns.new P2 (.type "dict")).keeps λb o e=>acT _ e
 have pN:h1.IsCell (P2.objs.size+1:Nat) none:=by have e:=ac3 (P2.push { cls:=.type "dict",data:=.dict #[] }) (o:={ cls:=.type "cell",data:=.cell none }) rfl;rw[ad0,eh] at e;exact⟨_,e,rfl⟩
 have dj:∀ b∈fp,b<s2.heap.objs.size:=λb hb=>by obtain⟨o,e,_⟩:=T.obj 0 _ df b hb;exact ac0 e
 have k9:∀ b,s2.heap.objs.size<=b->b∉aY X.stack:=λb hle z=>by
  rcases ac9.mp (I2.fN b z) with q|q
  .have:=I2.lt;walk_at "om"
  .exact I2.sf hle q
 generalize eC:P2.objs.size=C at fB pN dD ⊢;generalize eD:s2.heap.objs.size=D at dD hD dj k9;have iP:s2.heap.objs.size<=C:=by walk_at "om"
 have lb:s2.heap.objs.size<=D:=by walk_at "om"
 have qg:(eJ X x (x::ys) scope cl C s2 H2 fp (X.pn++pins)).Ok:=Uy S I2 f2 iP (λb hb=>by have:=dj b hb;walk_at "om");have lg:∀ p∈X.pn++pins,p.1≠C/\p.1≠D/\p.1∉aY X.stack/\∀ b∈fp,p.1≠b:=λp hp=>by
  obtain⟨e,n,nL,nf,_⟩:=I2.pin p hp;have lt:=ac0 e;refine⟨by walk_at "om",by walk_at "om",λz=>?_,λb hb=>(f2 b hb).2.2.2.2.2 p hp⟩;rcases ac9.mp (I2.fN _ z) with q|q
  .exact nL q
  .exact nf q
 have I4:Inv (eJ X x (x::ys) scope cl C s2 H2 fp (X.pn++pins)) [] (none::fr.map λj=>(σ[j]?).join) H2 { s2 with heap:=h1 }:=by
  refine⟨qg,rfl,I2.bare,Un.kept keep,⟨_,fB,λi y v e1 e2 e3=>?_⟩,λy c e=>?_,I2.aj.fresh iP,λy c e=>?_,λp hp=>?_,I2.aj.kept keep,?_⟩
  .cases i with
   | zero=>simp at e2
   | succ i =>
    simp only[afa] at e1 e2;have jX:ys[i]?=some y:=e1;obtain⟨j,c,hN,hσ,hk,mL,mM⟩:=S.aY.get i y v jX e2;obtain⟨m,hm,hl⟩:=I2.loc;obtain⟨u,ru,lu⟩:=hl j y v hN hσ (.inr (.inl hk));have yx:y≠x:=λz=>(aer.mp S.nd).1 (z ▸ adl jX);refine⟨u,ru,.inr ⟨.inl ?_,c,Uv mL yx,?_⟩⟩
    .have z:=ad1.mp S.kfr y (adl jX);exact (by simpa using z:(relabel scope X.env).names.lookup y=some .cell)
    .rcases lu with ⟨z,_⟩|⟨_,c',e',q'⟩
     .rw[hk] at z;cases z
     .rw[mM] at e';cases e';obtain⟨o,ho,hd⟩:=q';exact⟨o,keep _ _ ho,hd⟩
  .rcases lJ e with ⟨_,rfl⟩|⟨_,e⟩
   .exact⟨_,pN⟩
   .obtain⟨v,o,ho,hd⟩:=I2.cell y c (S.cls.get y c e);exact⟨v,o,keep _ _ ho,hd⟩
  .rcases lJ e with ⟨_,rfl⟩|⟨_,e⟩
   .exact I2.aj.fresh (by walk_at "om")
   .exact I2.fM y c (S.cls.get y c e)
  .have bV:p∈X.pn++pins:=by have:p∈(X.pn++pins)++[]:=hp;simpa using this
   obtain⟨e,n,_,_,d⟩:=I2.pin p bV;obtain⟨p1,_,p3,_⟩:=lg p bV;exact⟨keep _ _ e,n,p1,p3,d⟩
  .show (none::fr.map λj=>(σ[j]?).join).length=(x::ys).length;simp[S.aY.len]
 have lh:tn 0 h1:=T.keep 0 _ _ df λb _ o e=>keep b o e;have iQ:∀ (H':Hp) (o:Obj),(∀ b∈fp,H' b=none)->∀ b∈fp,cw (eJ X x (x::ys) scope cl C s2 H2 fp (X.pn++pins)) [(D,o)] H' b:=λH' o hn b hb=>by
  obtain⟨_,d1,d2,d3,d4,d5⟩:=f2 b hb;have lt:=dj b hb;refine⟨hn b hb,?_,λz=>?_,.inl hb,λy c e=>?_,λp hp=>?_⟩
  .show b≠C;walk_at "om"
  .rcases ac9.mp (I2.fN b z) with q|q
   .exact d1 q
   .exact d2 q
  .rcases lJ e with ⟨_,e2⟩|⟨_,e2⟩
   .walk_at "om"
   .exact d4 y c (S.cls.get y c e2)
  .have bV:p∈(X.pn++pins)++[(D,o)]:=hp;rcases adm.mp bV with z|z
   .exact d5 p z
   .have:p=(D,o):=by simpa using z
    subst this;show D≠b;walk_at "om"
 have loop:∀ s':acZ,s' = { s2 with heap:=h1 } ->
  afG (model X.prog X.w) X.A (.compLoop (.ListComp elt [⟨.Name x px,iter,ifs,0⟩] scope pos) 0 (.ref it) (.ref D) (afD scope ((x,(C+1:Nat))::cl) C X.env)) (RR (.ref D) C) s':=by
  rintro s' rfl;refine aiF (λn s'=>∃ i zs H' o af nn,Inv (eJ X x (x::ys) scope cl C s2 H2 fp (X.pn++pins)) [] (o::fr.map λj=>(σ[j]?).join) H' s'/\tn i s'.heap/\(∀ b∈fp,H' b=none)/\H' D=none /\
   s'.heap.get? D=some { cls:=.type "list",data:=.seq (af:List acY).toArray nn }/\Vals zs af/\W i n zs H') ?_ m0 ⟨0,[],H2,none,[],0,I4,lh,λb hb=>(f2 b hb).1,I2.aj.fresh lb,hD,.nil,w0⟩
  rintro n s3 ⟨i,zs,H3,o3,af,nn,I3,iD,iE,iR,qh,r3,w3⟩;have lj:Inv (eJ X x (x::ys) scope cl C s2 H2 fp (X.pn++pins)) [(D,{ cls:=.type "list",data:=.seq af.toArray nn })] (o3::fr.map λj=>(σ[j]?).join) H3 s3:=I3.iA λp hp=>by
   have:p=(D,{ cls:=.type "list",data:=.seq af.toArray nn }):=by simpa using hp
   subst this;exact⟨qh,iR,dD,k9 D (ac8 _),λv z=>nomatch z⟩
  rcases turn i n zs H3 w3 with ⟨stop,hlen,q⟩|⟨go,hlen,N,lq,step⟩
  .refine adJ (T.done (eJ X x (x::ys) scope cl C s2 H2 fp (X.pn++pins)) rfl rfl rfl hc i _ s3 _ H3 (λ_ _=>False) lj (iQ H3 _ iE) iD stop) (λr s4 ⟨hr,J4⟩=>?_) λ_ _ z=>z.elim;subst hr;have un:=J4.base;have qi:∀ b o,s2.heap.get? b=some o->b≠D:=λb o e=>by have:=ac0 e;walk_at "om"
   have cn:∀ b u,H3 b=some u->b≠D:=λb u e z=>by rw[z,iR] at e;cases e
   refine qf D C s4 (upd H3 D (.lst zs)) ?_ ?_ ?_ (q D iR)
   .refine I2.vT (ch:=fp) J4.os ⟨un.keep,un.slot,λb o e nn hx=>?_,un.there,λb xs e=>?_,λb o u e=>?_,λb ps e=>?_⟩ (λa o e=>?_) J4.bare λb hb=>?_
    .rw[aB (qi b o e)];exact un.free b o e nn hx
    .have:=un.dv b xs e;rw[aB (cn b _ this)];exact this
    .have:=un.dI b o u e;rw[aB (cn b _ this)];exact this
    .obtain⟨more,this⟩:=un.eO b ps e;exact⟨more,by rw[aB (cn b _ this)];exact this⟩
    .by_cases ha:a=D
     .subst ha;rw[ar] at e;cases e;exact⟨hlen,af,nn,r3,(J4.pin (a,_) (ac1 _ (ady.mpr rfl))).1⟩
     .rw[aB ha] at e;exact (J4.aj a o e).fq (λ_ _ _ z=>z) (λb z=>by rw[aB (cn b _ z)];exact z) λb xs z=>by rw[aB (cn b _ z)];exact z
    .obtain⟨_,d1,d2,d3,d4,d5⟩:=f2 b hb;exact⟨d3,d1,d4,d5⟩
   .obtain⟨m,hm,_⟩:=J4.loc;exact⟨m,hm⟩
   .exact I2.d9 iP (by rw[aB (adP dD)];exact J4.free)
  .refine adJ (T.item (eJ X x (x::ys) scope cl C s2 H2 fp (X.pn++pins)) rfl rfl rfl hc i _ s3 _ H3 (λ_ _=>False) lj (iQ H3 _ iE) iD go) (λr s4 ⟨u,hr,h4⟩=>?_) λ_ _ z=>z.elim;subst hr;have go':adg (model X.prog X.w) X.A (afe (.Name x px) (.ref it) u >>= λ_=>assign (.Name x px) (afD scope ((x,(C+1:Nat))::cl) C X.env) u) (λ_ s5 =>
    adg (model X.prog X.w) X.A (forIn ifs true λc r=>if r=true then do let ok <- akF c (afD scope ((x,(C+1:Nat))::cl) C X.env) (eval c (afD scope ((x,(C+1:Nat))::cl) C X.env));pure (afi ok) else pure (afi r)) (λok s6 =>
     if ok=true then adg (model X.prog X.w) X.A (eval elt (afD scope ((x,(C+1:Nat))::cl) C X.env)) (λy s7 =>
      adg (model X.prog X.w) X.A (call (.builtin "list.append") [.ref D,y]) (λ_ s8=>∃ m,m<n/\∃ i zs H' o af nn,Inv (eJ X x (x::ys) scope cl C s2 H2 fp (X.pn++pins)) [] (o::fr.map λj=>(σ[j]?).join) H' s8/\tn i s8.heap/\(∀ b∈fp,H' b=none)/\H' D=none /\
       s8.heap.get? D=some { cls:=.type "list",data:=.seq (af:List acY).toArray nn }/\Vals zs af/\W i m zs H') (λ_ _=>False) s7) (λ_ _=>False) s6
     else ∃ m,m<n/\∃ i zs H' o af nn,Inv (eJ X x (x::ys) scope cl C s2 H2 fp (X.pn++pins)) [] (o::fr.map λj=>(σ[j]?).join) H' s6/\tn i s6.heap/\(∀ b∈fp,H' b=none)/\H' D=none /\
      s6.heap.get? D=some { cls:=.type "list",data:=.seq (af:List acY).toArray nn }/\Vals zs af/\W i m zs H') (λ_ _=>False) s5) (λ_ _=>False) s4:=by
    refine acR (aA h4 λ_ s5 ⟨y5,H5,I5,r5,yl,fz,mv⟩=>?_);have mw:=I5.pinned (iQ H5 _ mv) (T.obj _ _ fz);refine aA (bf (X:=eJ X x (x::ys) scope cl C s2 H2 fp (X.pn++pins)) (i:=0) S.nd rfl (.inr (Jd S.own)) (.inl (beq_self_eq_true x)) _ s5 _ H5 y5 u (λσ' H'=>σ'=(some y5::fr.map λj=>(σ[j]?).join)/\H'=H5) mw r5 ⟨rfl,rfl⟩) λ_ s6 ⟨σ6,H6,I6,e6,xb⟩=>?_;subst e6 xb;have after:∀ (s7:acZ) (H7:Hp),Inv (eJ X x (x::ys) scope cl C s2 H2 fp (X.pn++pins)) ([(D,{ cls:=.type "list",data:=.seq af.toArray nn })]++mq fp s5.heap) (some y5::fr.map λj=>(σ[j]?).join) H7 s7 ->
     Inv (eJ X x (x::ys) scope cl C s2 H2 fp (X.pn++pins)) [] (some y5::fr.map λj=>(σ[j]?).join) H7 s7/\tn (i+1) s7.heap/\(∀ b∈fp,H7 b=none)/\H7 D=none/\s7.heap.get? D=some { cls:=.type "list",data:=.seq af.toArray nn }:=λs7 H7 I7=>by
     have pD:=I7.pin (D,{ cls:=.type "list",data:=.seq af.toArray nn }) (ac1 _ (adD _ (ady.mpr rfl)));refine⟨I7.iA λp hp=>absurd hp (by simp),T.keep _ _ _ fz λb hb o e=>(I7.pin (b,o) (ac1 _ (ac1 _ (kJ hb e)))).1,λb hb=>?_,pD.2.1,pD.1⟩;obtain⟨o,e,_⟩:=T.obj _ _ fz b hb;exact (I7.pin (b,o) (ac1 _ (ac1 _ (kJ hb e)))).2.1
    refine aA ((hb C s2 H2 fp (X.pn++pins)).1 _ s6 _ H6 _ I6 (step y5 H6 yl)) λok s7 ⟨H7,I7,q7⟩=>?_;dsimp only at q7;by_cases aj:ok=true
    .rw[if_pos aj] at q7 ⊢;refine aA ((hb C s2 H2 fp (X.pn++pins)).2 _ s7 _ H7 _ I7 q7) λyv s8 ⟨y8,H8,I8,r8,n8⟩=>?_;obtain⟨m',iS,w8⟩:=lq _ _ n8;obtain⟨J8,qj,qk,lr,iT⟩:=after s8 H8 I8;have hl:=r3.length;refine ajj agG ⟨_,iT,rfl⟩ agz (agg _ _) (agU D af.toArray nn yv (by rw[ada];walk_at "om")) ⟨iT,?_⟩;have lx:=agv iT (λa=>a.push yv);rw[agW] at lx;refine⟨m',iS,i+1,zs++[y8],H8,some y5,af++[yv],_,J8.turned (it:=D) (λb o bq e=>(ac2 _ _ (adP bq)).trans e) lr dD (.inr lb) (λy c e z=>?_) (λp hp=>?_),T.keep _ _ _ qj λb bq o e=>?_,qk,lr,lx,r3.append (.cons r8 .nil),w8⟩
     .rcases lJ e with ⟨_,e2⟩|⟨_,e2⟩
      .walk_at "om"
      .have:=S.low I2 e2;walk_at "om"
     .have bV:p∈X.pn++pins:=by have:p∈(X.pn++pins)++[]:=hp;simpa using this
      exact (lg p bV).2.1
     .have:=dj b bq;exact (ac2 _ _ (by walk_at "om")).trans e
    .rw[if_neg aj] at q7 ⊢;obtain⟨m',iS,w7⟩:=lq _ _ q7;obtain⟨J7,ql,qm,qo,qp⟩:=after s7 H7 I7;exact⟨m',iS,i+1,zs,H7,some y5,af,nn,J7,ql,qm,qo,qp,r3,w7⟩
   have e0:(afe (.Name x px) (.ref it) u >>= λ_=>assign (.Name x px) (afD scope ((x,(C+1:Nat))::cl) C X.env) u)=assign (.Name x px) (afD scope ((x,(C+1:Nat))::cl) C X.env) u:=rfl;rw[e0] at go';refine adJ go' (λ_ s5 h5=>adJ h5 (λok s6 h6=>?_) λ_ _ z=>z.elim) λ_ _ z=>z.elim;by_cases aj:ok=true
   .rw[if_pos aj] at h6 ⊢;exact adJ h6 (λy s7 h7=>adJ h7 (λ_ _ z=>z) λ_ _ z=>z.elim) λ_ _ z=>z.elim
   .rw[if_neg aj] at h6 ⊢;exact h6
 exact agL (loop _ rfl) (T.self X.A 0 _ _ _ lh (loop _ rfl))
theorem UA{wi:TI}(S:oB X x scope cl fr ys)(hc:X.calm=true)(hi:PI X (.Name x px) iter wi)
 (hb:∀ (C:ac6) (s:acZ) (H:Hp) (ex:List ac6) (pn:List (ac6 × Obj)),jW (eJ X x (x::ys) scope cl C s H ex pn) ifs tt/\PE (eJ X x (x::ys) scope cl C s H ex pn) elt te)
 (hs:∀ z,af7 iter X.env z=pure z:=by intro _;rfl):PE X (.ListComp elt [⟨.Name x px,iter,ifs,0⟩] scope pos) (sX wi fr tt te):=by
 intro pins s σ H Q I h;rw[ajP];refine afI (use:=none) rfl hs S.clos S.kind (λy hy hl=>?_) (aA (hi pins s σ H _ I h) λxv s1 h1=>aA h1 λnP s2 h2=>?_)
 .have z:=ad1.mp S.names y hy;rw[hl] at z;simpa using z
 .obtain⟨it,fp,tn,J,H2,rfl,I2,T,df,f2,hB⟩:=h2;refine Uz (RR:=λacc C=>aln (model X.prog X.w) X.A X.xe none (EP X pins σ Q) acc C) S hc hb I2 T df f2 hB λD C s' H' J' hn fC q=>?_;obtain⟨m,hm⟩:=hn;obtain⟨c0,c1,c2,c3,c4,c5⟩:=fC;exact⟨m,hm,λh' sb=>⟨.ref D,H',J'.turned (it:=C) (λb o hb e=>sb.extBut b o hb e) c0 c1 c3 c4 c5,rfl,q⟩⟩
end
end Gz
namespace lK
open PySem
noncomputable def m6(mask i:Nat):List Nat:=(adx (afk mask i+1-i)).map (i + ·)
noncomputable def gN(mask:Nat):Nat->Nat->Nat->List Nat
 | 0,_,_=>[]
 | n+1,i,p=>m6 mask i++gN mask n (afy mask i p).1 (afy mask i p).2
noncomputable def road(mask:Nat)(h:Int):List Nat:=gN mask (ahU mask) (SetTable.bits h % (mask+1)) (SetTable.bits h)
noncomputable def yD(mask:Nat):Nat->Nat->List Nat
 | 0,_=>[]
 | n+1,i=>i::yD mask n ((i * 5+1) % (mask+1))
noncomputable def t9(l:List Nat):Nat:=l.foldr (λx a=>a ||| 2 ^ x) 0
theorem Jf(j:Nat):∀ l:List Nat,(t9 l).testBit j=true->j∈l
 | [],h=>by simp[t9] at h
 | x::l,h=>by
  have h':((t9 l) ||| 2 ^ x).testBit j=true:=h;rw[Nat.testBit_or,af0] at h';rcases h' with h'|h'
  .exact adL _ (Jf j l h')
  .rw[Nat.testBit_two_pow] at h';rw[of_decide_eq_true h'];exact ae2
theorem UB(mask i:Nat):i∈m6 mask i:=by unfold m6;refine adf.mpr ⟨0,adY.mpr ?_,rfl⟩;unfold afk;split<;>lia
theorem Jg(mask:Nat):∀ (n i:Nat),∀ x∈yD mask n i,x∈gN mask n i 0
 | 0,_,x,h=>by cases h
 | n+1,i,x,h=>by
  rcases ac9.mp h with rfl|h
  .exact adD _ (UB _ _)
  .refine ac1 _ ?_;have:=Jg mask n _ x h;simpa [afy] using this
theorem Jh(mask:Nat):∀ (k n i p:Nat),i<=mask->∃ i',i'<=mask/\∀ x∈gN mask n i' (p / 32 ^ k),x∈gN mask (k+n) i p
 | 0,n,i,p,hi=>⟨i,hi,λx h=>by simpa using h⟩
 | k+1,n,i,p,hi=>by
  obtain⟨i',hi,h⟩:=Jh mask k n (afy mask i p).1 (afy mask i p).2 (ag0 (ajk _ (by lia)));refine⟨i',hi,λx hx=>?_⟩;rw[show k+1+n=(k+n)+1 from by lia];refine ac1 _ (h x ?_);have:(afy mask i p).2 / 32 ^ k=p / 32 ^ (k+1):=by show p / 32 / 32 ^ k=_;rw[Nat.div_div_eq_div_mul,alH,Nat.mul_comm]
  rw[this];exact hx
noncomputable def ua(m:Nat):Prop:=m=7∨m=31∨m=127
theorem UC{m:Nat}(hm:ua m):((adx (m+1)).all λi=>t9 (yD m (m+2) i) == 2 ^ (m+1)-1)=true:=by rcases hm with rfl|rfl|rfl<;>decide +kernel
theorem UD{m:Nat}(hm:ua m)(h:Int){j:Nat}(hj:j<=m):j∈road m h:=by
 unfold road;have hb:SetTable.bits h<2 ^ 64:=by unfold SetTable.bits;lia
 obtain⟨i',hi,k⟩:=Jh m 13 (m+2) (SetTable.bits h % (m+1)) (SetTable.bits h) (ag0 (ajk _ (by lia)));rw[show ahU m=13+(m+2) from by unfold ahU;lia];refine k j ?_;rw[Nat.div_eq_of_lt (adn hb (by decide))];refine Jg m _ _ j (Jf j _ ?_);have:=ad1.mp (UC hm) i' (adY.mpr (by lia));rw[eq_of_beq this,Nat.testBit_two_pow_sub_one];simp;lia
theorem UE{m i x:Nat}(hi:i<=m)(h:x∈m6 m i):x<=m:=by unfold m6 at h;obtain⟨k,hk,rfl⟩:=adf.mp h;have:=adY.mp hk;unfold afk at this;split at this<;>lia
theorem Ji{m:Nat}:∀ (n i p:Nat),i<=m->∀ x∈gN m n i p,x<=m
 | 0,_,_,_,x,h=>by cases h
 | n+1,i,p,hi,x,h=>by
  rcases adm.mp h with h|h
  .exact UE hi h
  .exact Ji n _ _ (ag0 (ajk _ (by lia))) x h
theorem UG{m:Nat}{h:Int}{x:Nat}(hx:x∈road m h):x<=m:=Ji _ _ _ (ag0 (ajk _ (by lia))) x hx
theorem Jj{α:Type}[DecidableEq α](p:α->Prop)[DecidablePred p]:∀ l:List α,(∃ x∈l,p x)->∃ a x b,l=a++x::b/\p x/\∀ y∈a,¬ p y
 | [],⟨x,h,_⟩=>by cases h
 | y::l,⟨x,h,px⟩=>by
  by_cases py:p y
  .exact⟨[],y,l,rfl,py,λ_ h=>by cases h⟩
  .rcases ac9.mp h with rfl|h
   .exact absurd px py
   .obtain⟨a,z,b,e,pz,k⟩:=Jj p l ⟨x,h,px⟩;exact⟨y::a,z,b,by rw[e];rfl,pz,λq hq=>(ac9.mp hq).elim (λe=>e ▸ py) (k q)⟩
noncomputable def lM(t:agd):Nat->ag7->List Nat
 | 0,_=>[]
 | n+1,p=>p.j::lM t n (t.advance p)
theorem Jk(t:agd):∀ (k n:Nat) (p:ag7),p.more+1=k->∃ p',lM t (k+n) p=(adx k).map (p.j + ·)++lM t n p' /\
 p'.i=(afy t.mask p.i p.perturb).1/\p'.j=p'.i/\p'.more=afk t.mask p'.i-p'.i/\p'.perturb=(afy t.mask p.i p.perturb).2/\p'.dummy=p.dummy
 | 0,n,p,h=>by lia
 | 1,n,p,h=>by
  refine⟨t.advance p,?_,?_⟩
  .rw[akm];simp[lM,ajc]
  .have:p.more=0:=by lia
   simp[aix,this,afy]
 | k+2,n,p,h=>by
  have hm:p.more > 0:=by lia
  have ha:t.advance p = { p with j:=p.j+1,more:=p.more-1 }:=by simp[aix,hm]
  obtain⟨p',e,r⟩:=Jk t (k+1) n (t.advance p) (by rw[ha];show p.more-1+1=k+1;lia);rw[ha] at e r;refine⟨p',?_,r⟩;rw[show k+2+n=(k+1+n)+1 from by lia];show p.j::lM t (k+1+n) (t.advance p)=_;rw[ha,e,List.range_succ_eq_map (n:=k+1)];simp only[adq,ae1,alE,List.cons_append,List.cons.injEq,true_and]
  congr 1
  apply aeZ;intro a _;simp;lia
theorem Jl(t:agd):∀ (n m:Nat) (p:ag7),p.j=p.i->p.more=afk t.mask p.i-p.i->10 * n<=m->∃ r,lM t m p=gN t.mask n p.i p.perturb++r
 | 0,m,p,_,_,_=>⟨_,rfl⟩
 | n+1,m,p,hj,hm,hl=>by
  have hk:p.more+1<=10:=by rw[hm];unfold afk;split<;>lia
  obtain⟨p',e,e1,e2,e3,e4,e5⟩:=Jk t (p.more+1) (m-(p.more+1)) p rfl;rw[show p.more+1+(m-(p.more+1))=m from by lia] at e;obtain⟨r,er⟩:=Jl t n (m-(p.more+1)) p' e2 e3 (by lia);refine⟨r,?_⟩;rw[e,er,e1,e4,<- afc]
  congr 1
  show _=m6 t.mask p.i++_
  congr 1
  unfold m6;rw[hj,show afk t.mask p.i+1-p.i=p.more+1 from by rw[hm];unfold afk;split<;>lia]
theorem UH(t:agd)(h:Int):∃ r,lM t (10 * ahU t.mask) (t.probeStart h)=road t.mask h++r :=
 Jl t _ _ _ rfl rfl (ac8 _)
theorem UI(t:agd)(p:ag7):(t.advance p).dummy=p.dummy:=by unfold aix;split<;>rfl
theorem Jm(t:agd)(f:Nat->Int)(h:Int)(j:Nat)(r:List Nat)(hj:t.slot j = .empty):∀ (l:List Nat) (n:Nat) (p:ag7),lM t n p=l++j::r ->
 (∀ q∈l,∃ i,t.slot q = .live i/\f i≠h)->SetTable.probe.go t f h n p=some (.empty j p.dummy)
 | l,0,p,e,_=>by cases l<;>cases e
 | [],n+1,p,e,_=>by obtain⟨e1,_⟩:=List.cons.inj e;simp only[SetTable.probe.go,e1,hj]
 | q::l,n+1,p,e,hl=>by obtain⟨e1,e2⟩:=List.cons.inj e;obtain⟨i,hi,hf⟩:=hl q ae2;simp only[SetTable.probe.go,e1,hi,beq_iff_eq,hf,if_false];rw[Jm t f h j r hj l n _ e2 (λq hq=>hl q (adL _ hq)),UI]
theorem yE(xs:Array Nat)(j:Nat):∀ (n lo hi:Nat),hi-lo<=n->lo<=hi->hi<=xs.size->(∀ k,k<lo->xs.getD k j<j)->(∀ k,hi<=k->k<xs.size->¬ xs.getD k j<j) ->
 (∀ a b,a<b->b<xs.size->xs.getD a j<xs.getD b j) ->
 let r:=SetTable.below.go xs j n lo hi
 r<=xs.size/\(∀ k,k<r->xs.getD k j<j)/\(∀ k,r<=k->k<xs.size->¬ xs.getD k j<j)
 | 0,lo,hi,hn,hl,hs,h1,h2,hr=>by
  obtain rfl:lo=hi:=by lia
  exact⟨hs,h1,h2⟩
 | n+1,lo,hi,hn,hl,hs,h1,h2,hr=>by
  dsimp only;unfold SetTable.below.go;by_cases aZ:lo<hi
  .simp only[aZ,if_true];by_cases hm:xs.getD ((lo+hi) / 2) j<j
   .simp only[hm,if_true];exact yE xs j n _ hi (by lia) (by lia) hs (λk hk=>by
     by_cases e:k=(lo+hi) / 2
     .rw[e];exact hm
     .have:=hr k ((lo+hi) / 2) (by lia) (by lia);lia) h2 hr
   .simp only[hm,if_false];exact yE xs j n lo _ (by lia) (by lia) (by lia) h1 (λk hk dF=>by
     by_cases e:k=(lo+hi) / 2
     .rw[e];exact hm
     .have:=hr ((lo+hi) / 2) k (by lia) dF;lia) hr
  .simp only[aZ,if_false];obtain rfl:lo=hi:=by lia
   exact⟨hs,h1,h2⟩
noncomputable def g8(l:List Nat):Prop:=l.Pairwise (· < ·)
theorem UJ{l:List Nat}(h:g8 l)(j:Nat){a b:Nat}(eX:a<b)(hb:b<l.toArray.size):l.toArray.getD a j<l.toArray.getD b j:=by
 have bq:b<l.length:=by simpa using hb
 have:=afA.mp h a b (by lia) bq eX;simpa [ah5,bq,show a<l.length from by lia] using this
theorem ue{l:List Nat}(h:g8 l)(j:Nat):let r:=SetTable.below l.toArray j
 r<=l.length/\(∀ x∈l.take r,x<j)/\(∀ x∈l.drop r,j<=x):=by
 have k:=yE l.toArray j l.toArray.size 0 l.toArray.size (by lia) (by lia) (by lia) (λk hk=>by lia) (λk Jn dF=>by lia) (λa b eX hb=>UJ h j eX hb);dsimp only at k ⊢;rw[show SetTable.below.go l.toArray j l.toArray.size 0 l.toArray.size=SetTable.below l.toArray j from rfl] at k;obtain⟨k1,k2,k3⟩:=k;have UK:SetTable.below l.toArray j<=l.length:=by simpa using k1
 refine⟨UK,λx hx=>?_,λx hx=>?_⟩
 .obtain⟨i,hi,rfl⟩:=afR hx;have bP:i<SetTable.below l.toArray j:=by simp at hi;lia
  have:=k2 i bP;have hl:i<l.length:=by lia
  simpa [ah5,hl] using this
 .obtain⟨i,hi,rfl⟩:=afR hx;have bP:SetTable.below l.toArray j+i<l.length:=by simp at hi;lia
  have:=k3 (SetTable.below l.toArray j+i) (by lia) (by simpa using bP);simpa [ah5,bP] using this
theorem below_at{l:List Nat}(h:g8 l){i:Nat}{j:Nat}(hi:l[i]?=some j):SetTable.below l.toArray j=i:=by
 have hb:=ue h j;dsimp only at hb;generalize SetTable.below l.toArray j=r at hb;obtain⟨hr,h1,h2⟩:=hb;obtain⟨uf,gT⟩:=ade.mp hi;rcases akb r i with aZ|rfl|hgt
 .exfalso;have:=h2 l[r] (ahV.mpr ⟨0,by lia,by simp⟩);have:=afA.mp h r i (by lia) uf aZ;lia
 .rfl
 .exfalso;have:=h1 l[i] (ahW.mpr ⟨i,by lia,rfl⟩);lia
theorem UL{l:List Nat}(h:g8 l){i:Nat}{j:Nat}(hi:l[i]?=some j):SetTable.below l.toArray (j+1)=i+1:=by
 have hb:=ue h (j+1);dsimp only at hb;generalize SetTable.below l.toArray (j+1)=r at hb;obtain⟨hr,h1,h2⟩:=hb;obtain⟨uf,gT⟩:=ade.mp hi;rcases akb r (i+1) with aZ|rfl|hgt
 .exfalso;have abD:r<=i:=by lia
  have h3:=h2 l[i] (ahV.mpr ⟨i-r,by lia,by congr 1;lia⟩);lia
 .rfl
 .exfalso;have h3:=h1 l[i+1] (ahW.mpr ⟨i+1,by lia,rfl⟩);have:=afA.mp h i (i+1) uf (by lia) (by lia);lia
noncomputable def m8(m:Nat)(h:Int)(occ:List Nat)(s:Nat):Prop:=∃ l r,road m h=l++s::r/\s∉l/\∀ q∈l,q∈occ
theorem m8.mono{m:Nat}{h:Int}{occ Jo:List Nat}{s:Nat}(k:∀ q∈occ,q∈Jo):m8 m h occ s->m8 m h Jo s
 | ⟨l,r,e,n,a⟩=>⟨l,r,e,n,λq hq=>k q (a q hq)⟩
theorem Jp:∀ (n:Nat) (l:List Nat),(∀ j,j<n->j∈l)->n<=l.length
 | 0,_,_=>adw _
 | n+1,l,h=>by have:=Jp n (l.erase n) λj hj=>(agi (by lia)).mpr (h j (by lia));rw[afL (h n (by lia))] at this;have:=afY (h n (by lia));lia
theorem UM{m:Nat}(hm:ua m)(h:Int){occ:List Nat}(hn:occ.length<=m):∃ s,m8 m h occ s/\s∉occ/\s<=m:=by
 have hex:∃ x∈road m h,x∉occ:=by refine agq λhc=>?_;have all:∀ j,j<=m->j∈occ:=λj hj=>agq λUN=>hc ⟨j,UD hm h hj,UN⟩;have:=Jp (m+1) occ λj hj=>all j (by lia);lia
 obtain⟨a,x,b,e,px,k⟩:=Jj (λx=>x∉occ) (road m h) hex;exact⟨x,⟨a,b,e,λhx=>k x hx px,λq hq=>agq (k q hq)⟩,px,UG (by rw[e];simp)⟩
structure Tok{β:Type}(t:agd)(L:List (Nat × Int × β)):Prop where
 pl:t.place=(L.map (·.1)).toArray
 du:t.dummies = #[]
 ri:g8 (L.map (·.1))
 le:∀ e∈L,e.1<=t.mask
 om:ua t.mask
 rm:L.length<=t.mask
 ro:∀ e∈L,m8 t.mask e.2.1 (L.map (·.1)) e.1
section
variable{β:Type}{t:agd}{L:List (Nat × Int × β)}
theorem Tok.live(k:Tok t L){i q:Nat}(h:(L.map (·.1))[i]?=some q):t.slot q = .live i:=by unfold alr;rw[k.pl,below_at k.ri h];simp[h] at h ⊢
theorem Tok.empty(k:Tok t L){q:Nat}(h:q∉L.map (·.1)):t.slot q = .empty:=by
 unfold alr;have h1:((t.place[SetTable.below t.place q]? == some q))=false:=by
  rw[k.pl];cases hb:((L.map (·.1)).toArray[SetTable.below (L.map (·.1)).toArray q]? == some q) with
  | false=>rfl
  | true =>
   have:=eq_of_beq hb;rw[ai9] at this;exact absurd (adl this) h
 have h2:alI t.dummies q=false:=by rw[k.du];rfl
 simp only[h1,h2,adk,if_false]
noncomputable def gG(L:List (Nat × Int × β))(p:Nat)(e:Nat × Int × β):List (Nat × Int × β):=L.take p++e::L.drop p
theorem qH(p:Nat)(e:Nat × Int × β):(gG L p e).Perm (e::L):=by unfold gG;refine akw.trans ?_;rw[aeR]
theorem yF{α:Type}(l:List α)(p:Nat)(x:α):afM l.toArray p x=(l.take p++x::l.drop p).toArray:=by unfold afM;apply Array.ext';simp[Array.toList_extract,List.extract];exact agM (by simp)
theorem Tok.put(k:Tok t L){j:Nat}{h:Int}{x:β}(hj:j∉L.map (·.1))(hm:j<=t.mask)(ho:m8 t.mask h (L.map (·.1)) j)(hs:L.length<t.mask) :
 ∃ t' p,t.put j=(t',p)/\Tok t' (gG L p (j,h,x))/\afM (L.map (·.2)).toArray p (h,x)=((gG L p (j,h,x)).map (·.2)).toArray /\
  t'.mask=t.mask/\t'.led=t.led/\t'.plain=t.plain/\t'.fill=L.length+1:=by
 have hb:=ue k.ri j;dsimp only at hb;obtain⟨h0,h1,h2⟩:=hb;have hd:alI t.dummies j=false:=by rw[k.du];rfl
 generalize hp:SetTable.below (L.map (·.1)).toArray j=p at h0 h1 h2;have e1:(gG L p (j,h,x)).map (·.1)=(L.map (·.1)).take p++j::(L.map (·.1)).drop p:=by simp[gG]
 have mem:∀ q∈L.map (·.1),q∈(gG L p (j,h,x)).map (·.1):=λq hq=>((qH p (j,h,x)).map (·.1)).mem_iff.mpr (adL _ hq);refine⟨{ t with place:=afM (L.map (·.1)).toArray p j },p,by unfold SetTable.put;simp only[k.pl,hp,hd,adk,if_false],?_,?_,rfl,rfl,rfl,?_⟩
 .refine⟨?_,k.du,?_,λe he=>?_,k.om,?_,λe he=>?_⟩
  .show afM (L.map (·.1)).toArray p j=_;rw[yF,e1]
  .rw[e1];have hr:=k.ri;unfold g8 at hr ⊢;rw[<- aeR p (L.map (·.1)),agh] at hr;refine agh.mpr ⟨hr.1,ae4.mpr ⟨λy hy=>?_,hr.2.1⟩,λa ha b hb=>?_⟩
   .have:=h2 y hy;have:y≠j:=λe=>hj (e ▸ List.mem_of_mem_drop hy);lia
   .rcases ac9.mp hb with rfl|hb
    .exact h1 a ha
    .exact hr.2.2 a ha b hb
  .rcases ac9.mp ((qH p (j,h,x)).mem_iff.mp he) with rfl|he
   .exact hm
   .exact k.le e he
  .rw[(qH p (j,h,x)).length_eq];exact hs
  .rcases ac9.mp ((qH p (j,h,x)).mem_iff.mp he) with rfl|he
   .exact ho.mono mem
   .exact (k.ro e he).mono mem
 .rw[yF];simp[gG]
 .show (afM _ _ _).size+t.dummies.size=_;rw[yF,k.du];simp;simp at h0;lia
end
end lK
namespace Gz
open PySem PySem.Spec PyProof.Rows L2
theorem Jq:Manifest.owners.lookup (String.ofList ['r','o','t','a','r','e','t','i','_','t','e','s'].reverse)=some Manifest.sig_set_iterator:=by kernel_rfl
theorem oE:Slot "set_iterator" "__next__" "set_iterator.__next__" :=
 .of (owner := "set_iterator") (n := "__next__") (by rw[ahA,af4];kernel_rfl) (by decide +kernel) (by decide +kernel) (by decide +kernel)
  (by first|exact .inl (by decide +kernel)|exact .inr (by decide +kernel)) (by rw[ajx];kernel_rfl)
theorem Jr:alm table "set_iterator.__next__" = some afH.«set_iterator.__next__»:=entryFor_of_tree (by kernel_rfl)
theorem Js(a:acY):aiW "set_iterator.__next__" ⟨[a],[]⟩:=by unfold aiW;rw[signature?_of (id := "set_iterator.__next__") (n:=['_','_','t','x','e','n','_','_']) (o:=['r','o','t','a','r','e','t','i','_','t','e','s']) (by kernel_rfl) Jq];kernel_rfl
theorem UO:alm table "set.__iter__" = some afH.«frozenset.__iter__» :=
 entryFor_alias (id' := "frozenset.__iter__") (by kernel_rfl) (by first|rfl|decide +kernel) (by decide +kernel) (by kernel_rfl)
section
variable{prog:ado}{w:adM}{A:adQ}{E:acY->acZ->Prop}{s:acZ}{d I:ac6}{ep:Nat}{t:agd}
theorem UP{Q:Bool->acZ->Prop}(hT:s.TypeIs (.ref d) "set")(q:Q false s):adg (model prog w) A (af5 (.ref d)) Q E s:=by
 unfold af5;refine acR (ahz hT PySem.F.slot_set_len.lookup ?_);generalize hid:("set.__len__" : String)=UQ
 wp_delta
 rw[show splitId UQ=some ("set","__len__") from by subst hid;decide +kernel];subst hid;refine acR (afT (T := "set") (b:=true) hT (by rw[ajx];kernel_rfl) ?_);refine agK (λeX=>absurd eX (by decide)) (λ_=>?_);refine agK (λ_=>?_) (λeX=>absurd (by decide +kernel) eX);refine acR (wpAny_typeOf hT ?_);exact acX q
variable{X:Cx}
theorem UR:ad3 "set" = some (.type "set"):=by decide +kernel
end
open lK
section
variable{prog:ado}{w:adM}{A:adQ}{E:acY->acZ->Prop}{s:acZ}
noncomputable abbrev tK(prog:ado)(w:adM):HeapKind prog w (List Int):=ahZ (agP prog w)
noncomputable def Gb(prog:ado)(w:adM)(k:List Int):Int:=(tK prog w).hash k
theorem fits_of{β:Type}{t:agd}{L:List (Nat × Int × β)}(k:Tok t L):t.fits (L.map (·.2)).toArray.size=true:=by unfold SetTable.fits SetTable.fill;rw[k.pl,k.du];have:=k.rm;simp;lia
theorem US{h:aeA}{S:ac6}{o:Obj}{es es':Array (Int × acY)}{ep:Nat}{t t':agd}(g1:h.get? S=some o)(g3:o.data = .set es ep t) :
 (h.update S (ale es' t')).get? S=some { o with data:=.set es' (ep+1) t' }:=by
 have:=adG (ale es' t') g1 (by rw[putSet_of es' t' g3];rfl);rw[putSet_of es' t' g3] at this;exact this
theorem Jt{α β:Type}{f:α->β}:∀ {xs:List α} {l:List β},l.Perm (xs.map f)->∃ ys:List α,l=ys.map f/\ys.Perm xs:=by
 intro xs l h;generalize hz:xs.map f=z at h
 induction h generalizing xs with
 | nil=>exact⟨[],rfl,by cases xs with|nil=>exact .nil|cons=>cases hz⟩
 | @cons a l1 l2 p ih =>
  cases xs with
  | nil=>cases hz
  | cons x xs =>
   obtain⟨e1,e2⟩:=List.cons.inj hz;obtain⟨ys,rfl,q⟩:=ih e2;exact⟨x::ys,by rw[<- e1];rfl,q.cons x⟩
 | swap a b l =>
  cases xs with
  | nil=>cases hz
  | cons x xs =>
   cases xs with
   | nil=>simp at hz
   | cons y xs =>
    simp only[adq,List.cons.injEq] at hz;obtain⟨e1,e2,e3⟩:=hz;exact⟨y::x::xs,by simp[e1,e2,e3],.swap x y xs⟩
 | trans p q UT UU =>
  obtain⟨ys,e,r⟩:=UU hz;obtain⟨zs,e',r'⟩:=UT e.symm;exact⟨zs,e',r'.trans r⟩
end
noncomputable def m9(w:adM):Bool:=!(w.params.followText "set-order")
section
variable{prog:ado}{w:adM}{A:adQ}{R:ahG->acZ->Prop}{I:ac6}{fp wr:List ac6}{G:Array ajH->Array ajH->Prop}{n:Nat}{P:Nat->acY->Prop}{St:Nat->acZ->Prop}
variable{prog:ado}{w:adM}{A:adQ}{E:acY->acZ->Prop}{s:acZ}
noncomputable abbrev iY(w:adM):Obj:={ cls:=.type "set",dict:=none,data:=.set #[] 0 (.fresh 0 0 (m9 w)) }
theorem UW(a:acY){Q₁:acY->acZ->Prop}(h:Q₁ (.ref s.heap.objs.size) { s with heap:=s.heap.push (iY w) }) :
 afG (model prog w) A (.call (.builtin "set.__new__") ⟨[.type "set",a],[]⟩) (wants Q₁ E) s:=by
 refine ak1 (show adg _ A.in1 (do aiq "set.__new__" ⟨[.type "set",a],[]⟩;again (.builtin "set.__new__" ⟨[.type "set",a],[]⟩)) _ _ s from ?_);refine acR (aht (PySem.F.newCall_set_1 a) (acX ⟨aep ajd _,adV PySem.F.entry_set_new ?_⟩));rw[adE ajd _];unfold afH.«set.__new__» Builtin.Frozenset.newClass;have uh:=PySem.sub_set_self;obtain⟨hp,g,d,tk,os⟩:=s;dsimp only;wp_walk;refine agw (acX ?_);dsimp only;simp only[newObj];exact acR (wpAny_alloc (acX (acX h)))
end
theorem Ju:Slot "set_iterator" "__iter__" "set_iterator.__iter__" :=
 .of (owner := "set_iterator") (n := "__iter__") (by rw[ahA,af4];kernel_rfl) (by decide +kernel) (by decide +kernel) (by decide +kernel)
  (by first|exact .inl (by decide +kernel)|exact .inr (by decide +kernel)) (by rw[ajx];kernel_rfl)
theorem UX:alm table "set_iterator.__iter__" = some afH.«dict_keyiterator.__iter__» :=
 entryFor_alias (id' := "dict_keyiterator.__iter__") (by kernel_rfl) (by first|rfl|decide +kernel) (by decide +kernel) (by kernel_rfl)
theorem UY(a:acY):aiW "set_iterator.__iter__" ⟨[a],[]⟩:=by unfold aiW;rw[signature?_of (id := "set_iterator.__iter__") (n:=['_','_','r','e','t','i','_','_']) (o:=['r','o','t','a','r','e','t','i','_','t','e','s']) (by kernel_rfl) Jq];kernel_rfl
theorem Jv{α:Type}(f:Nat->Nat):∀ (n k:Nat) (left:List α) (out:Array α),left.length=n->(pickOrder.go f n k left out).toList.Perm (out.toList++left)
 | 0,k,left,out,h=>by obtain rfl:left=[]:=aeI.mp h;unfold pickOrder.go;simp
 | n+1,k,left,out,h=>by have hl:f k % left.length<left.length:=ajk _ (by lia);unfold pickOrder.go;rw[acW hl];refine (Jv f n (k+1) _ _ (by rw[List.length_eraseIdx_of_lt hl];lia)).trans ?_;rw[akc,afc];refine List.Perm.append_left _ ?_;have:=akw (a:=left[f k % left.length]) (l₁:=left.take (f k % left.length)) (l₂:=left.drop (f k % left.length+1));rw[List.eraseIdx_eq_take_drop_succ];refine .trans ?_ (.of_eq (aeR (f k % left.length) left));rw[aeu hl];exact this.symm
theorem UZ{α:Type}(f:Nat->Nat)(xs:Array α):(alJ f xs).toList.Perm xs.toList:=by unfold alJ;simpa using Jv f xs.size 0 xs.toList #[] (by simp)
section
variable{prog:ado}{w:adM}{A:adQ}{E:acY->acZ->Prop}{s:acZ}{S I:ac6}{o:Obj}{ep:Nat}{t:agd}{L:List (Nat × Int × acY)}
noncomputable def iZ(w:adM)(S:ac6)(ep:Nat)(es:Array (Int × acY)):Array (Int × acY):=if w.params.followText "set-order" then alJ (w.params.setOrder S ep) es else es
theorem yG(w:adM)(S:ac6)(ep:Nat)(es:Array (Int × acY)):(iZ w S ep es).toList.Perm es.toList:=by
 unfold iZ;split
 .exact UZ _ _
 .exact .refl _
structure oF(w:adM)(S:ac6)(o:Obj)(ep:Nat)(t:agd)(L:List (Nat × Int × acY)):Prop where
 cls:o.cls = .type "set"
 dat:o.data = .set (L.map (·.2)).toArray ep t
 tok:Tok t L
 led:t.led=m9 w
 pln:t.plain=true
theorem U0{Q:Bool->acZ->Prop}(x:oF w S o ep t L)(h:s.heap.get? S=some o)(q:Q false s):adg (model prog w) A (setDrawn S) Q E s:=by unfold setDrawn alf;refine acR (ag1 h x.dat (fits_of x.tok) ?_);dsimp only;refine acR (acR (agw (acX (acX ?_))));refine cast (congrArg (λb=>Q b s) ?_) q;symm;rw[Bool.and_eq_false_iff];right;show (!t.plain && _)=false;rw[x.pln];rfl
noncomputable abbrev yH(S:ac6)(n ep:Nat)(sl i:Int):Obj:={ cls:=.type "set_iterator",data:=.fields #[agf sl,agf i,.ref S,agf n,agf ep] }
theorem U1{Q:acY->acZ->Prop}(x:oF w S o ep t L)(h:s.heap.get? S=some o)(hQ:Q (.ref s.heap.objs.size) { s with heap:=s.heap.push (yH S L.length ep 0 0) }):adg (model prog w) A (alx (.ref S)) Q E s:=by have hT:s.TypeIs (.ref S) "set" := ⟨o,h,x.cls⟩;refine ah8 hT ak2 (aee ak2 hT UO ?_ (F.args_set_iter_1 _));unfold afH.«frozenset.__iter__»;refine acR (m:=Builtin.Frozenset.slot0 _ _) (acX ?_);refine acR (m:=Builtin.Frozenset.sizeOf _) (acR (ahB h x.dat (fits_of x.tok) (acX ?_)));refine acR (U0 x h ?_);simp only[adk,if_false];refine acR (acX ?_);refine acR (wpAny_setEpoch_of h x.dat (fits_of x.tok) ?_);refine acR (ad8 (acX ⟨_,rfl,"set_iterator",_,⟨_,ac3 _ rfl,rfl⟩,oE.lookup,?_⟩));refine cast (congrArg (λb=>Q _ { s with heap:=s.heap.push b }) ?_) hQ;simp[yH]
theorem Jw{sl i:Nat}{Q:Option (acY × Nat)->acZ->Prop}(x:oF w S o ep t L)(h:s.heap.get? S=some o)(hb:w.params.followText "set-order" = false->SetTable.below t.place sl=i)
 (q:∀ fu,(w.params.followText "set-order" = false->i<L.length->SetTable.below t.place fu=i+1)->Q (((iZ w S ep (L.map (·.2)).toArray)[i]?).map λe=>(e.2,fu)) s):adg (model prog w) A (alR S sl i ep) Q E s:=by
 unfold alR alf;refine acR (ag1 h x.dat (fits_of x.tok) ?_);dsimp only;refine acR (acR (agw (acX ?_)));unfold iZ at q;cases hf:w.params.followText "set-order" with
 | true =>
  simp only[hf,if_true] at q;rw[if_pos (show (model prog w).w.params.followText "set-order" = true from hf),if_neg (by simp)];unfold setWalk alf;refine acR (acR (ag1 h x.dat (fits_of x.tok) ?_));refine acR (acR (agw (acX ?_)));rw[if_pos (show (model prog w).w.params.followText "set-order" = true from hf)];exact acR (agw (acX (acX (q sl (λhz=>nomatch hz)))))
 | false =>
  simp only[hf,adk,if_false] at q;rw[if_neg (show ¬ (model prog w).w.params.followText "set-order" = true from by rw[show (model prog w).w.params.followText "set-order" = false from hf];decide)];refine agK (λz=>absurd (show (!t.plain && _)=true from z) (by rw[x.pln];simp)) (λ_=>?_);have hl:t.led=true:=by rw[x.led];unfold m9;rw[hf];rfl
  refine acR ?_;show adg _ _ (if (!t.led && !(L.map (·.2)).toArray.isEmpty)=true then _ else pure _) _ _ _;rw[if_neg (by rw[hl];simp)];refine acX (acX ?_);rw[hb hf];by_cases hi:i<L.length
  .have e1:(L.map (·.2)).toArray[i]?=some L[i].2:=by simp[hi]
   have e2:t.place[i]?=some L[i].1:=by rw[x.tok.pl];simp[hi]
   have:=q (L[i].1+1) λ_ _=>by rw[x.tok.pl];exact UL x.tok.ri (by simp[hi])
   rw[e1] at this ⊢;rw[e2];exact this
  .have e1:(L.map (·.2)).toArray[i]?=none:=by simp;lia
   have:=q 0 λ_ hz=>absurd hz hi;rw[e1] at this ⊢;exact this
theorem U2(hh:A.handled=none)(x:oF w S o ep t L)(bg:S≠I):Walks prog w A I [I,S] [I] L.length (λi v=>((iZ w S ep (L.map (·.2)).toArray)[i]?).map (·.2)=some v)
 (λi h=>h.get? S=some o/\∃ sl:Nat,h.get? I=some (yH S L.length ep sl i)/\(w.params.followText "set-order" = false->SetTable.below t.place sl=i)) where
 sub:=λb hb=>by simp at hb;simp[hb]
 frame:=λ_ _ _ st hk=>⟨hk S (by simp) _ st.1,let ⟨sl,a,b⟩:=st.2;⟨sl,hk I (by simp) _ a,b⟩⟩
 item:=λi s Q E hi st hQ=>by
  obtain⟨h1,sl,hI,hb⟩:=st;have hT:s.TypeIs (.ref I) "set_iterator" := ⟨_,hI,rfl⟩;have hlen:(iZ w S ep (L.map (·.2)).toArray).size=L.length:=by have:=(yG w S ep (L.map (·.2)).toArray).length_eq;simpa using this
  have bP:i<(iZ w S ep (L.map (·.2)).toArray).size:=by lia
  unfold ae7;refine acR (afw (aei (name:=aeQ "__next__") hT oE
   (aee oE hT Jr ?_ (Js _))))
  unfold afH.«set_iterator.__next__»;refine acR (acX (acR (agn hI rfl ?_)));show adg _ _ (setEntries S >>= _) _ _ _;refine acR (ahB h1 x.dat (fits_of x.tok) ?_);refine agK (λz=>absurd z (by simp)) (λ_=>?_);show adg _ _ (alR S (aje (sl:Int)) (aje (i:Int)) (aje (ep:Int)) >>= _) _ _ _;rw[adU,adU,adU];refine acR (Jw x h1 hb λfu jn=>?_);rw[adR bP];dsimp only [Option.map_some];refine acR (ag5 hI rfl (by simp) ?_);have Jx:=adG (agc (·.setIfInBounds 0 (agf (fu:Int)))) hI rfl;refine acR (ag5 Jx rfl (by simp[agc]) ?_);have U3:=adG (agc (·.setIfInBounds 1 (agf ((i:Int)+1)))) Jx rfl;have Jy:∀ (b:ac6) (u:Obj),b≠I->s.heap.get? b=some u->((s.heap.update I (agc (·.setIfInBounds 0 (agf (fu:Int))))).update I (agc (·.setIfInBounds 1 (agf ((i:Int)+1))))).get? b=some u:=λb u hb e =>
   (ac2 _ _ (adP hb)).trans ((ac2 _ _ (adP hb)).trans e)
  refine acX ⟨_,rfl,acX (hQ _ _ s.toks (by rw[adR bP];rfl) ⟨Jy S o bg h1,fu,U3,λhf=>jn hf hi⟩ λb u hb e=>Jy b u (by simpa using hb) e)⟩
 done:=λs Q E st hQ=>by
  obtain⟨h1,sl,hI,hb⟩:=st;have hT:s.TypeIs (.ref I) "set_iterator" := ⟨_,hI,rfl⟩;have hlen:(iZ w S ep (L.map (·.2)).toArray).size=L.length:=by have:=(yG w S ep (L.map (·.2)).toArray).length_eq;simpa using this
  unfold ae7;refine acR (afw (aei (name:=aeQ "__next__") hT oE
   (aee oE hT Jr ?_ (Js _))))
  unfold afH.«set_iterator.__next__»;refine acR (acX (acR (agn hI rfl ?_)));show adg _ _ (setEntries S >>= _) _ _ _;refine acR (ahB h1 x.dat (fits_of x.tok) ?_);refine agK (λz=>absurd z (by simp)) (λ_=>?_);show adg _ _ (alR S (aje (sl:Int)) (aje (L.length:Int)) (aje (ep:Int)) >>= _) _ _ _;rw[adU,adU,adU];refine acR (Jw x h1 hb λfu jn=>?_);rw[afW (by lia)];show adg _ _ (akD (.ref I) 2 .none >>= _) _ _ s;refine acR (ag5 hI rfl (by simp) ?_);show adg _ _ (newExc (.type "StopIteration") [] >>= _) _ _ _;refine acR ?_;simp only[newExc,alq];refine acR (ad8 ?_ (by size_fits));refine acR (m:=ahR _ _) (aht (a:=Value.none) (by first|rfl|(simp only[ahR];rfl)) ?_);refine ad8 ?_ (by size_fits);simp only[raiseNew];refine acR (wpAny_handled ?_);rw[show A.in1.handled=none from hh];refine acR (acX (wpAny_throw ?_));refine acR (afT (T := "StopIteration") (b:=true) ⟨_,ac3 _ rfl,rfl⟩ ahS ?_);refine acX (hQ _ s.toks λb u hb e=>(((aeF ..).extBut.push _).push _) b u (by simpa using hb) e)
 self:=λ_ s _ _ st hQ=>by obtain⟨h1,sl,hI,hb⟩:=st;have hT:s.TypeIs (.ref I) "set_iterator" := ⟨_,hI,rfl⟩;refine ah8 hT Ju (aee Ju hT UX ?_ (UY _));show adg _ _ (ret (.ref I)) _ _ s;exact acX ⟨_,rfl,"set_iterator",_,hT,oE.lookup,hQ⟩
theorem U4(x:oF w S o ep t L):ajw prog w "set" S S L.length (λi v=>((iZ w S ep (L.map (·.2)).toArray)[i]?).map (·.2)=some v) (λh=>h.get? S=some o) where
 type:=λ_ h=>⟨o,h,x.cls⟩
 there:=λ_ h=>⟨ac0 h,ac0 h⟩
 keep:=λ_ _ h hk=>hk S (.inl rfl) o h
 notList:=by decide
 notTuple:=by decide
 hint:=λ_ _ _ _ h hq=>UP ⟨o,h,x.cls⟩ hq
 iter:=λ_ _ hh h=>⟨_,_,(λ_ _ hq=>U1 x h hq),U2 hh x (adp (ac0 h)),
  ⟨acT _ h,0,ac3 _ rfl,λ_=>Nat.le_zero.mp (by
   have hb:=ue x.tok.ri 0;dsimp only at hb;rw[x.tok.pl];refine akq λaZ=>?_;generalize SetTable.below (L.map (·.1)).toArray 0=r at hb aZ;cases hL:L.map (·.1) with
   | nil=>rw[hL] at hb;simp at hb;lia
   | cons a l =>
    have:=hb.2.1 a (by rw[hL];cases r with|zero=>lia|succ r=>simp);lia)⟩⟩
variable{prog:ado}{w:adM}{A:adQ}{E:acY->acZ->Prop}{s:acZ}
noncomputable abbrev km(m:Int × PySem.Tok):Int × acY:=(ahL m.1,.int m.1 m.2)
noncomputable def kn(h:aeA)(S:ac6)(M:List (Int × PySem.Tok))(led:Bool):Prop :=
 ∃ o ep t L,h.get? S=some o/\o.cls = .type "set" /\ o.data = .set (L.map (·.2)).toArray ep t/\lK.Tok t L/\t.led=led/\t.plain=true/\L.length * 5<t.mask * 3/\L.map (·.2)=M.map km
theorem U5{t:agd}{L:List (Nat × Int × acY)}(k:lK.Tok t L)(h:Int):∃ j,t.freeSlot h=some (j,false)/\j∉L.map (·.1)/\j<=t.mask/\m8 t.mask h (L.map (·.1)) j:=by
 obtain⟨j,⟨l,r,e1,e2,e3⟩,hj,hm⟩:=UM k.om h (occ:=L.map (·.1)) (by have:=k.rm;simp;lia);obtain⟨r',er⟩:=UH t h;rw[e1,afc] at er;have:=Jm t (λ_=>h+1) h j (r++r') (k.empty hj) l _ _ er λq hq=>by obtain⟨i',bP,eV⟩:=afR (e3 q hq);exact⟨i',k.live (ade.mpr ⟨bP,eV⟩),by lia⟩
 refine⟨j,?_,hj,hm,l,r,e1,e2,e3⟩;unfold SetTable.freeSlot;rw[show t.probe (λ_=>h+1) h (t.probeStart h)=some (.empty j none) from this];rfl
theorem U6(prog:ado)(w:adM){M:List (Int × PySem.Tok)}:ElemsOf (agP prog w) (M.map km):=λe he=>by obtain⟨m,_,rfl⟩:=adf.mp he;exact⟨⟨m.1,by simp[agP,agO],rfl⟩,rfl⟩
theorem add_int{S:ac6}{k:Int}{tt:PySem.Tok}{M:List (Int × PySem.Tok)}{led:Bool}{Q:Bool->acZ->Prop}(hS:kn s.heap S M led)(hlen:M.length<4)
 (h0:k∈M.map (·.1)->Q false s)
 (h1:k∉M.map (·.1)->∀ h' M',Heap.SameBut S s.heap h'->kn h' S M' led->M'.Perm ((k,tt)::M)->Q true { s with heap:=h' }) :
 adg (model prog w) A (setAddHashed S (.int k tt) (ahL k)) Q E s:=by
 obtain⟨o,ep,t,L,g1,g2,g3,tk,g4,g5,g6,g7⟩:=hS;have hlM:L.length=M.length:=by have:=congrArg List.length g7;simpa using this
 have qI:ElemsOf (agP prog w) (L.map (·.2)).toArray.toList:=by rw[ahC,g7];exact U6 prog w
 unfold setAddHashed setAddHashedIn;refine adZ (acR (ag1 g1 g3 (fits_of tk) ?_));dsimp only;rw[byScan_of (knd:=agP prog w) rfl (by rw[ada,acV];unfold scanBound;lia) qI];simp only[if_true];unfold setAddByScan;refine acR (acR (agD ?_));refine acR (wpAny_setScan_of (knd:=agP prog w) (k:=k) (by simp[agP,agO]) g1 g3 (fits_of tk) qI ?_);rw[ahC,g7];by_cases cG:k∈M.map (·.1)
 .obtain⟨m,hm,hmk⟩:=adf.mp cG;cases hf:als (λe=>(agP prog w).is k e.2) (M.map km) with
  | none =>
   have:=ahX.mp hf (km m) (adf.mpr ⟨m,hm,rfl⟩);rw[<- hmk] at this;simp[agP,agO] at this
  | some j =>
   dsimp only;exact acX (acX (h0 cG))
 .have hf:als (λe=>(agP prog w).is k e.2) (M.map km)=none:=by refine ahX.mpr λe he=>?_;obtain⟨m,hm,rfl⟩:=adf.mp he;simp only[agP,agO];exact beq_eq_false_iff_ne.mpr λz=>cG (adf.mpr ⟨m,hm,z⟩)
  rw[hf];dsimp only;obtain⟨j,j0,j1,j2,j3⟩:=U5 tk (ahL k);obtain⟨t',p,p1,p2,p3,p4,p5,p6,p7⟩:=tk.put (x:=Value.int k tt) j1 j2 j3 (by lia);have yI:=qH (L:=L) p (j,ahL k,Value.int k tt);have U7:layNew t (M.map km).toArray (ahL k) (.int k tt)=(((gG L p (j,ahL k,Value.int k tt)).map (·.2)).toArray,t',false,false):=by rw[<- g7];unfold layNew;rw[j0];dsimp only;rw[p1,p3];have:=fits_of p2;unfold SetTable.orStandIn;rw[this];rfl
  rw[U7];dsimp only;refine acR ?_;show adg _ _ (pure ()) _ _ _;refine acX ?_;rw[p6,g5];simp only[if_true];refine acR ?_;rw[hashByValue_scannable 8 (show (Value.int k tt).scannable=true from rfl)];refine acX ?_;rw[show plainKind (Value.int k tt)=true from rfl];simp only[if_true];have hsz:((gG L p (j,ahL k,Value.int k tt)).map (·.2)).toArray.size<=adz:=by have:=yI.length_eq;simp at this ⊢;rw[this];exact adb (show _<=64 by lia) (by decide)
  refine acR (wpAny_storeSet_of g1 g3 ?_ hsz);have gS:=US (es':=((gG L p (j,ahL k,Value.int k tt)).map (·.2)).toArray) (t':=t') g1 g3;have U9:=aeF s.heap S (ale ((gG L p (j,ahL k,Value.int k tt)).map (·.2)).toArray t');have cT:((gG L p (j,ahL k,Value.int k tt)).map (·.2)).Perm (((k,tt)::M).map km):=by refine (yI.map (·.2)).trans ?_;simp only[adq,g7];exact .refl _
  have m7:7<=t.mask:=by rcases tk.om with e|e|e<;>lia
  have Va:t'.tooFull=false:=by unfold SetTable.tooFull;rw[p7,p4];simp;lia
  rw[Va];simp only[Bool.and_false,adk,if_false];obtain⟨M',e1,e2⟩:=Jt cT;refine acX (acX (h1 cG _ M' U9 ⟨_,_,t',_,gS,g2,rfl,p2,p5.trans g4,p6.trans g5,?_,e1⟩ e2));rw[yI.length_eq,p4];simp;lia
noncomputable def qJ(key:Nat->Int)(i:Nat)(M:List (Int × PySem.Tok)):Prop :=
 (M.map (·.1)).Nodup/\(∀ m∈M,∃ j,j<i/\m.1=key j)/\(∀ j,j<i->key j∈M.map (·.1))/\M.length<=i
theorem Vb{h:aeA}{S:ac6}(e:h.get? S=some (iY w)):kn h S [] (m9 w) :=
 ⟨_,0,_,([]:List (Nat × Int × acY)),e,rfl,rfl,⟨rfl,rfl,List.Pairwise.nil,(λ_ hx=>nomatch hx),adv rfl,adw _,(λ_ hx=>nomatch hx)⟩,rfl,rfl,(show 0 * 5<7 * 3 by decide),rfl⟩
theorem Vc{R:ahG->acZ->Prop}{I:ac6}{fp wr:List ac6}{G:Array ajH->Array ajH->Prop}{n:Nat}{P:Nat->acY->Prop}{St:Nat->acZ->Prop}(W:WalksS prog w A.in1 I fp wr G n P St)(S:ac6)(jo:S∉fp){key:Nat->Int}{led:Bool}(Vd:∀ i v,P i v->∃ tt,v = .int (key i) tt)(hn:n<=3) :
 ∀ (k i:Nat) (s:acZ) (M:List (Int × PySem.Tok)),n-i=k->i<=n->St i s->kn s.heap S M led->qJ key i M ->
  (∀ s' M',Moved (S::wr) G s s'->kn s'.heap S M' led->qJ key n M'->R (.ok (.ret .none)) s') ->
  afG (model prog w) A (.builtin "set.update.loop" ⟨[.ref S,.ref I],[]⟩) R s:=by
 have Jz:S∉wr:=λh=>jo (W.sub _ h);have uh:∀ b∈wr,b∈S::wr:=λb hb=>adL _ hb;intro k
 induction k with
 | zero =>
  intro i s M hk hi bC hS hM hR;obtain rfl:i=n:=by lia
  refine adV agr ?_;rw[adE afb _];refine show adg _ A.in1 (ae7 (.ref I) >>= _) _ _ s from acR (W.done s _ _ bC λs' hm=>?_);exact show adg _ A.in1 (ret Value.none) _ _ s' from acX (hR s' M (hm.mono uh) (let ⟨o,ep,t,L,ho,rest⟩:=hS;⟨o,ep,t,L,hm.heap S _ Jz ho,rest⟩) hM)
 | succ k ih =>
  intro i s M hk hi bC hS hM hR;have aZ:i<n:=by lia
  refine adV agr ?_;rw[adE afb _];refine show adg _ A.in1 (ae7 (.ref I) >>= _) _ _ s from acR (W.item i s _ _ aZ bC λv s' hP Ve hm=>?_);obtain⟨tt,rfl⟩:=Vd i v hP;have ko:kn s'.heap S M led:=let ⟨o,ep,t,L,ho,rest⟩:=hS;⟨o,ep,t,L,hm.heap S _ Jz ho,rest⟩;refine show adg _ A.in1 (holding [Value.int (key i) tt] (setAdd S (.int (key i) tt)) >>= _) _ _ s' from acR (adZ ?_);unfold setAdd;refine adZ (acR ((agP prog w).pyHash (k:=key i) (by simp[agP,agO]) ?_));have go:∀ (h':aeA) (M':List (Int × PySem.Tok)),Heap.SameBut S s'.heap h'->kn h' S M' led->qJ key (i+1) M' ->
   adg (model prog w) A.in1 (again (.builtin "set.update.loop" ⟨[.ref S,.ref I],[]⟩)) (λfin s'=>match fin with|.done f=>R (.ok f) s'|.again c'=>c'.quiet=true/\afG (model prog w) A c' R s') (λe s'=>R (.error e) s') { s' with heap:=h',toks:=s'.toks+1 }:=by
   intro h' M' eZ oG Vf;refine acX ⟨aep afb _,ih (i+1) _ M' (by lia) aZ (W.frame _ s' _ _ Ve (agS _) λb hb o e=>?_) oG Vf λmB Vg Vh Vi Vj=>?_⟩
   .rw[eZ.2 b (λh:b=S=>jo (by rw[<- h];exact hb))];exact e
   .refine hR mB Vg (Moved.trans W.gtrans ((hm.mono uh).then_heap (agS _) λb o hb e=>?_) Vh) Vi Vj;rw[eZ.2 b (λh:b=S=>hb (by rw[h];exact ae2))];exact e
  refine add_int (s:={ s' with toks:=s'.toks+1 }) (M:=M) ko (by have:=hM.2.2.2;lia) (λcG=>?_) (λcG h' M' eZ oG cT=>?_)
  .refine go s'.heap M (Heap.SameBut.refl S s'.heap) ko ⟨hM.1,λm hm=>?_,λj hj=>?_,by have:=hM.2.2.2;lia⟩
   .obtain⟨j,hj,e⟩:=hM.2.1 m hm;exact⟨j,by lia,e⟩
   .by_cases e:j=i
    .rw[e];exact cG
    .exact hM.2.2.1 j (by lia)
  .refine go h' M' eZ oG ⟨((cT.map (·.1)).nodup_iff).mpr (aer.mpr ⟨cG,hM.1⟩),λm hm=>?_,λj hj=>?_,by have:=cT.length_eq;have:=hM.2.2.2;simp at *;lia⟩
   .rcases ac9.mp (cT.mem_iff.mp hm) with rfl|hm
    .exact⟨i,by lia,rfl⟩
    .obtain⟨j,hj,e⟩:=hM.2.1 m hm;exact⟨j,by lia,e⟩
   .refine ((cT.map (·.1)).mem_iff).mpr ?_;by_cases e:j=i
    .rw[e];exact ae2
    .exact adL _ (hM.2.2.1 j (by lia))
theorem Vk{l:ac6}{items:Array acY}{Q:acY->acZ->Prop}{key:Nat->Int}(hh:A.handled=none)(hl:s.heap.IsList l items)(hn:items.size<=3)
 (hit:∀ (i:Nat) (v:acY),items[i]?=some v->∃ tt,v = .int (key i) tt)
 (h:∀ (h':aeA) (tk:Nat) (M:List (Int × PySem.Tok)),kn h' s.heap.objs.size M (m9 w)->qJ key items.size M->(∀ b o,b<s.heap.objs.size->s.heap.get? b=some o->h'.get? b=some o)->Q (.ref s.heap.objs.size) { s with heap:=h',toks:=tk }) :
 adg (model prog w) A (call (.type "set") [.ref l]) Q E s:=by
 obtain⟨c,tl,hmro⟩:=PySem.F.called_set.mro;have abE:=PySem.F.called_set.made;have uh:=PySem.F.called_set.sub;refine aji (ak1 (show adg _ _ (callAny (.type "set") _) _ _ _ from acX ⟨Code.quiet_builtin _ (by decide +kernel),adV PySem.F.entry_type_call ?_⟩));rw[Around.under_plain (weight_type_call_type "set" [.ref l] []) rfl];have h1:=PySem.F.called_set.notType;have h2:=PySem.F.called_set.canCreate;have hct:=PySem.F.typeCall_set_1 (.ref l);repeat (any_goals (first|assumption|wp_step))
 refine agC (UW (.ref l) (E:=E) (Q₁:=λobj s₁=>obj = .ref s.heap.objs.size/\s₁ = { s with heap:=s.heap.push (iY w) }) ⟨rfl,rfl⟩) λr s₁ hr=>?_;cases r with
 | error e=>exact hr
 | ok fl =>
  cases fl with
  | ret obj =>
   obtain⟨rfl,rfl⟩:=hr;have gS:(s.heap.push (iY w)).get? s.heap.objs.size=some (iY w):=ac3 _ rfl;have hT:Shared.TypeIs { s with heap:=s.heap.push (iY w) } (.ref s.heap.objs.size) "set" := ⟨_,gS,rfl⟩;have oH:=PySem.F.called_set.init.lookup;have JA:=PySem.F.called_set.init.bind (.ref s.heap.objs.size)
   repeat (any_goals (first|assumption|wp_step))
   refine agC (ajn (R:=wants (λr s₂=>r = .none/\∃ h' tk M,s₂ = { s with heap:=h',toks:=tk }/\kn h' s.heap.objs.size M (m9 w)/\qJ key items.size M /\
    (∀ b o,b<s.heap.objs.size->s.heap.get? b=some o->h'.get? b=some o)) E) PySem.F.called_set.init.plain PySem.F.entry_set_init (check_set_init_1 hT ?_)) λr₂ s₂ yJ=>?_
   .have lt:l<s.heap.objs.size:=let ⟨_,e,_⟩:=hl;ac0 e;obtain⟨ol,hol,bc,nl,hdl⟩:=id hl;obtain⟨ocls,odict,odata,oslots⟩:=ol;obtain rfl:ocls = .type "list" := bc;obtain rfl:odata = .seq items nl:=hdl;have Vl:(s.heap.push (iY w)).get? l=some { cls:=.type "list",dict:=odict,data:=.seq items nl,slots:=oslots }:=acT _ hol;have abF:=PySem.F.sub_list_set;have abG:=PySem.F.sub_list_frozenset;have bg:(af6 "list" == af6 "dict")=false:=by decide
    have fg:(s.heap.push (iY w)).IsList l items:=⟨_,Vl,rfl,nl,rfl⟩
    unfold afH.«set.__init__» noKeywords Builtin.Frozenset.updateFrom;generalize Vm:alx=PI;wp_walk;subst Vm;refine afF fg (acR (wpAny_runValue ?_));have Vn:A.in1.in1.in1.handled=none:=by simp[hh]
    have yK:(s.heap.push (iY w)).objs.size=s.heap.objs.size+1:=ad0 _ _;have lI:l≠(s.heap.push (iY w)).objs.size:=by rw[yK];exact adp (age lt)
    have SI:s.heap.objs.size∉[(s.heap.push (iY w)).objs.size,l]:=by rw[yK];simp only[ac9,aeW,or_false,not_or];exact⟨adp (agu _),aec lt⟩
    refine Vc ((Walks.list Vn _ l lI items).toS) s.heap.objs.size SI (key:=key) (led:=m9 w) hit hn (items.size-0) 0 _ [] (by lia) (adw _)
     ⟨⟨_,ac3 _ rfl,rfl,rfl⟩,(fg.push _)⟩ (Vb (acT _ gS))
     ⟨ag6,λ_ hx=>(by cases hx),λj hj=>(by lia),adw _⟩ λs' M hm ko hM=>?_
    obtain⟨h',g',d',yL,nT⟩:=s';obtain rfl:g'=s.gens:=hm.gens;obtain rfl:d'=s.drawn:=hm.drawn;obtain rfl:nT=s.os:=hm.os;show adg _ _ _ _ _ _;refine acX (show adg _ _ (ret Value.none) _ _ _ from acX ⟨rfl,h',yL,M,rfl,ko,hM,λb o hb e=>?_⟩);refine hm.heap b o ?_ (acT _ (acT _ e));simp only[ac9,aeW,or_false,not_or,yK];exact⟨adp hb,adp (age hb)⟩
   .cases r₂ with
    | error e=>exact yJ
    | ok Vo =>
     cases Vo with
     | ret r =>
      obtain⟨rfl,h',tk,M,rfl,ko,hM,dB⟩:=yJ
      repeat (any_goals (first|assumption|wp_step))
      exact h _ _ M ko hM dB
     | _=>exact yJ.elim
  | _=>exact hr.elim
end
noncomputable def i4(h:aeA)(a:ac6)(p:P2):Prop:=∃ o t u n,h.get? a=some o/\o.cls = .type "tuple" /\ o.data = .seq #[.int p.1 t,.int p.2 u] n
theorem i4.keep{h h':aeA}{a:ac6}{p:P2}(x:i4 h a p)(k:∀ o,h.get? a=some o->h'.get? a=some o):i4 h' a p:=let ⟨o,t,u,n,e,r⟩:=x;⟨o,t,u,n,k o e,r⟩
section
variable{prog:ado}{w:adM}{A:adQ}{E:acY->acZ->Prop}{s:acZ}
theorem JB{x y:Int}{t u:Tok}{Q:acY->acZ->Prop}(h:Q (.bool (decide (x<y))) s):adg (model prog w) A (agV .Lt (.int x t) (.int y u)) Q E s :=
 richCompare_gives (op:=.Lt) (ala s _ t) (ala s _ u) PySem.F.slot_int_lt PySem.F.entry_int_lt (PySem.F.args_int_lt_2 _ _) (gives_int_lt _ _ t u) (λx=>nomatch x) h
theorem ui{Q:acY->acZ->Prop}{a b:ac6}{p q:P2}(ha:i4 s.heap a p)(hb:i4 s.heap b q)(hu:A.units<ajN)(h:Q (.bool (fe p q)) s):adg (model prog w) A (agV .Lt (.ref a) (.ref b)) Q E s:=by
 obtain⟨oa,t1,u1,n1,hoa,hca,hda⟩:=ha;obtain⟨ob,t2,u2,n2,hob,hcb,iH⟩:=hb;have Ta:s.TypeIs (.ref a) "tuple" := ⟨oa,hoa,hca⟩;have Tb:s.TypeIs (.ref b) "tuple" := ⟨ob,hob,hcb⟩;refine wpAny_richCompare_same_room Ta Tb ajf (aee ajf Ta PySem.F.entry_tuple_lt ?_ (PySem.F.args_tuple_lt_2 _ _)) hu;show adg _ _ (isInstance (.ref b) (.type "tuple") >>= _) _ _ s;refine acR (afT Tb isSubtype_tuple_tuple ?_);simp only[ajT,adk,if_false];refine acR (ajU hoa hda ?_);refine acR (ajU hob iH ?_);refine acR ?_;refine wpAny_forIn_list _ (λrest r s'=>r.1=none/\s'=s/\(rest=[(.int p.1 t1,.int q.1 t2),(.int p.2 u1,.int q.2 u2)]∨(rest=[(.int p.2 u1,.int q.2 u2)]/\p.1=q.1)∨(rest=[]/\p.1=q.1/\p.2=q.2))) _ ?_ ?_ _ _ ⟨rfl,rfl,.inl rfl⟩
 .rintro ⟨u,v⟩ rest r s' ⟨hr,rfl,hz⟩;rcases hz with hz|⟨hz,e1⟩|⟨hz,_⟩
  .cases hz;refine acR (aip ?_);by_cases e:p.1=q.1
   .rw[show (p.1 == q.1)=true by simpa using e];simp only[ajT,adk,if_false];exact acX ⟨rfl,rfl,.inr (.inl ⟨trivial,e⟩)⟩
   .rw[show (p.1 == q.1)=false by simpa using e];simp only[ak7,if_true];refine acR (agD (acR (JB (acR (acX (acX (acX ⟨_,rfl,λz=>(nomatch z),?_⟩)))))));have e2:fe p q=decide (p.1<q.1):=by unfold fe;rw[decide_eq_false e];simp
    rw[<- e2];exact h
  .cases hz;refine acR (aip ?_);by_cases e:p.2=q.2
   .rw[show (p.2 == q.2)=true by simpa using e];simp only[ajT,adk,if_false];exact acX ⟨rfl,rfl,.inr (.inr ⟨trivial,e1,e⟩)⟩
   .rw[show (p.2 == q.2)=false by simpa using e];simp only[ak7,if_true];refine acR (agD (acR (JB (acR (acX (acX (acX ⟨_,rfl,λz=>(nomatch z),?_⟩)))))));have e2:fe p q=decide (p.2<q.2):=by unfold fe;rw[e1];simp
    rw[<- e2];exact h
  .cases hz
 .rintro ⟨r1,r2⟩ s' ⟨hr,rfl,hz⟩;simp only at hr;subst hr;rcases hz with hz|⟨hz,_⟩|⟨_,e1,e2⟩
  .cases hz
  .cases hz
  .refine acX ⟨_,rfl,λz=>(nomatch z),?_⟩;have e3:fe p q=false:=by unfold fe;rw[e1,e2];simp
   rw[e3] at h;exact h
theorem Vp{R:ahG->acZ->Prop}{I S:ac6}{fp wr:List ac6}{n:Nat}{P:Nat->acY->Prop}{St:Nat->aeA->Prop}{G:aeA->Prop}{bt:Nat->Nat->Bool}{kw:List (Str × acY)}
 (W:Walks prog w A.in1 I fp wr n P St) (hG:∀ h h',G h->(∀ b o,b∉wr->b≠S->h.get? b=some o->h'.get? b=some o)->G h')
 (jT:∀ i j vi vj (s:acZ) (Q:acY->acZ->Prop) (E:acY->acZ->Prop),P i vi->P j vj->G s.heap->Q (.bool (bt i j)) s->adg (model prog w) A.in1 (agV .Lt vi vj) Q E s) (hS:S∉fp):∀ (k j:Nat) (s:acZ) (vb:acY) (c:Nat),k+(j+1)=n->St (j+1) s.heap->G s.heap->P (afh bt j) vb ->
  s.heap.get? S=some { cls:=.type "list",dict:=none,data:=.seq #[vb,vb] c,slots:=#[] } ->
  (∀ v h' tk,P (afh bt (n-1)) v->(∀ b o,b∉wr->b≠S->s.heap.get? b=some o->h'.get? b=some o)->R (.ok (.ret v)) { s with heap:=h',toks:=tk }) ->
  afG (model prog w) A (.builtin "min.loop" ⟨[.ref I,.none,.ref S],kw⟩) R s:=by
 have nS:S∉wr:=λz=>hS (W.sub _ z);have nm:(toString "min" ++ toString ".loop" : String) = "min.loop" := by decide
 intro k
 induction k with
 | zero =>
  intro j s vb c e st g pb oS fin;have e':j+1=n:=by lia
  refine adV aeK ?_;rw[adE adH _];show adg _ A.in1 (agj (.ref S) >>= _) _ _ s;refine acR (ad6 oS rfl ?_);show adg _ A.in1 (tryCatch (ae7 (.ref I)) _ >>= _) _ _ s;refine acR (aet (W.done s _ _ (e' ▸ st) λh1 tk kp=>?_));have cz:=kp S _ nS oS;show adg _ A.in1 (agk S (λ_=>#[]) >>= _) _ _ _;refine acR ?_;refine aej cz rfl (acR (aeD (acX ?_)));exact fin vb _ tk (by rw[<- e'];exact pb) λb o hw hb q=>(ac2 _ _ (adP hb)).trans (kp b o hw q)
 | succ k ih =>
  intro j s vb c e st g pb oS fin;have lt:j+1<n:=by lia
  refine adV aeK ?_;rw[adE adH _];show adg _ A.in1 (agj (.ref S) >>= _) _ _ s;refine acR (ad6 oS rfl ?_);show adg _ A.in1 (tryCatch (ae7 (.ref I)) _ >>= _) _ _ s;refine acR (aet (W.item (j+1) s _ _ lt st λv h1 tk pv fT kp=>?_));have cz:=kp S _ nS oS;have g1:G h1:=hG _ _ g λb o hw _ q=>kp b o hw q;show adg _ A.in1 (tryCatch (holding [v,v] (agV .Lt v vb >>= _)) _ >>= _) _ _ _;refine acR (aet (adZ (acR (jT (j+1) (afh bt j) v vb _ _ _ pv pb g1 ?_))));refine acR (adZ (aed ?_));refine acR (aeD (acX ?_));cases hb:bt (j+1) (afh bt j) with
  | true =>
   simp only[if_true];refine acR ?_;refine aej cz rfl (acR (aeD ?_));rw[nm];refine acX ⟨aep adH _,ih (j+1) _ v _ (by lia) (W.frame _ _ _ fT λb hf o q=>?_) (hG _ _ g1 λb o _ dO q=>(ac2 _ _ (adP dO)).trans q) (by simp only[afh,hb,if_true];exact pv) (adG _ cz rfl) λv2 h2 gU p2 k2=>?_⟩
   .exact (ac2 _ _ (λz:S=b=>hS (by rw[z];exact hf))).trans q
   .exact fin v2 h2 gU p2 λb o hw dO q=>k2 b o hw dO ((ac2 _ _ (adP dO)).trans (kp b o hw q))
  | false =>
   simp only[adk,if_false];refine acR (aeD ?_);rw[nm];refine acX ⟨aep adH _,ih (j+1) _ vb c (by lia) fT g1 (by simp only[afh,hb,adk,if_false];exact pb) cz λv2 h2 gU p2 k2=>?_⟩;exact fin v2 h2 gU p2 λb o hw dO q=>k2 b o hw dO (kp b o hw q)
theorem Vq{Q:acY->acZ->Prop}{a b:ac6}{p q:P2}(hh:A.handled=none)(ha:i4 s.heap a p)(hb:i4 s.heap b q)(hu:A.in1.units<ajN)
 (h:∀ h' tk,(∀ c o,s.heap.get? c=some o->h'.get? c=some o)->Q (.ref (if fe q p=true then b else a)) { s with heap:=h',toks:=tk }):adg (model prog w) A (call (.builtin "min") [.ref a,.ref b]) Q E s:=by
 have nm:(toString "min" ++ toString ".loop" : String) = "min.loop" := by decide
 refine call_function_tree akr aj6 aj7 (PySem.F.args_min2 _ _) ?_;show adg _ A.in1 (aeE "min" ["key","default"] 0 ⟨[],[]⟩ >>= _) _ _ s;refine acR (aht (show aeE "min" ["key","default"] 0 ⟨[],[]⟩=pure [none,none] from rfl) ?_);show adg _ A.in1 (alq [.ref a,.ref b] >>= _) _ _ s;refine acR (ad8 ?_);have hT:(s.heap.push { cls:=.type "tuple",data:=.seq #[.ref a,.ref b] }).IsTuple s.heap.objs.size #[.ref a,.ref b]:=⟨_,ac3 _ rfl,rfl,0,rfl⟩
 refine acR (ajL hT ?_);show adg _ A.in1 (akT [] >>= _) _ _ _;refine acR (ad8 ?_);generalize e1:s.heap.push { cls:=.type "tuple",data:=.seq #[.ref a,.ref b] }=h1 at hT;have z1:h1.objs.size=s.heap.objs.size+1:=by rw[<- e1];exact ad0 ..
 have k1:∀ c o,s.heap.get? c=some o->h1.get? c=some o:=λc o e=>by rw[<- e1];exact acT _ e
 dsimp only;generalize e2:h1.push { cls:=.type "tuple_iterator",data:=.fields #[.ref s.heap.objs.size,.int 0 0] }=h2;have z2:h2.objs.size=h1.objs.size+1:=by rw[<- e2];exact ad0 ..
 have k2:∀ c o,h1.get? c=some o->h2.get? c=some o:=λc o e=>by rw[<- e2];exact acT _ e
 have W:=Walks.tuple (prog:=prog) (w:=w) (A:=A.in1) hh h1.objs.size s.heap.objs.size (by rw[z1];exact adp (agu _)) #[.ref a,.ref b];have p8:h2.IsTupleIter h1.objs.size s.heap.objs.size 0/\h2.IsTuple s.heap.objs.size #[.ref a,.ref b]:=⟨⟨_,by rw[<- e2];exact ac3 _ rfl,rfl,rfl⟩,by rw[<- e2];exact hT.push _⟩
 have zs:h2.objs.size∉[h1.objs.size,s.heap.objs.size]:=λz=>by
  simp only[ac9,aeW,or_false] at z;rcases z with z|z
  .rw[z2] at z;exact akx _ z
  .rw[z2,z1] at z;exact absurd z (by intro z;have:s.heap.objs.size<s.heap.objs.size+1+1:=age (agu _);rw[z] at this;exact aeN _ this)
 have nS:h2.objs.size∉[h1.objs.size]:=λz=>zs (by simp at z;simp[z]);have up:∀ c o,s.heap.get? c=some o->c∉[h1.objs.size]/\c≠h2.objs.size/\(h2.push { cls:=.type "list",data:=.seq #[] }).get? c=some o:=λc o e=>by have l1:=ac0 (k1 c o e);have l2:=ac0 (k2 c o (k1 c o e));exact⟨λz=>by simp at z;rw[z] at l1;exact aeN _ l1,adp l2,acT _ (k2 c o (k1 c o e))⟩
 let G:aeA->Prop:=λh=>i4 h a p/\i4 h b q;have bD:∀ (x:ac6) (r:P2),i4 s.heap x r->x∉[h1.objs.size]/\x≠h2.objs.size:=λx r hx=>by obtain⟨o,_,_,_,e,_⟩:=hx;exact⟨(up x o e).1,(up x o e).2.1⟩
 have hG:∀ h h',G h->(∀ b o,b∉[h1.objs.size]->b≠h2.objs.size->h.get? b=some o->h'.get? b=some o)->G h':=λh h' g k=>⟨g.1.keep λo e=>k a o (bD a p ha).1 (bD a p ha).2 e,g.2.keep λo e=>k b o (bD b q hb).1 (bD b q hb).2 e⟩
 let bt:Nat->Nat->Bool:=λi j=>fe (if i=0 then p else q) (if j=0 then p else q);have JC:∀ i v,(#[adI a,adI b]:Array acY)[i]?=some v->(i=0/\v = .ref a)∨(i=1/\v = .ref b):=λi v e=>by
  match i,e with
  | 0,e=>cases e;exact .inl ⟨rfl,rfl⟩
  | 1,e=>cases e;exact .inr ⟨rfl,rfl⟩
  | i+2,e=>simp at e
 have jT:∀ i j vi vj (s:acZ) (Q:acY->acZ->Prop) (E:acY->acZ->Prop),(#[adI a,adI b]:Array acY)[i]?=some vi->(#[adI a,adI b]:Array acY)[j]?=some vj->G s.heap->Q (.bool (bt i j)) s->adg (model prog w) A.in1 (agV .Lt vi vj) Q E s:=by
  intro i j vi vj s Q E ei ej g hq;rcases JC i vi ei with ⟨rfl,rfl⟩|⟨rfl,rfl⟩<;>rcases JC j vj ej with ⟨rfl,rfl⟩|⟨rfl,rfl⟩
  .exact ui g.1 g.1 hu hq
  .exact ui g.1 g.2 hu hq
  .exact ui g.2 g.1 hu hq
  .exact ui g.2 g.2 hu hq
 have g0:G (h2.push { cls:=.type "list",data:=.seq #[] }):=⟨ha.keep λo e=>(up a o e).2.2,hb.keep λo e=>(up b o e).2.2⟩
 have oS:(h2.push { cls:=.type "list",data:=.seq #[] }).get? h2.objs.size=some { cls:=.type "list",dict:=none,data:=.seq #[] 0,slots:=#[] }:=ac3 _ rfl;have fT:=W.frame 0 h2 (h2.push { cls:=.type "list",data:=.seq #[] }) p8 λb _ o q=>acT _ q;rw[nm];refine acX ⟨aep adH _,?_⟩;refine adV aeK ?_;rw[adE adH _];show adg _ A.in1 (agj (.ref h2.objs.size) >>= _) _ _ _;refine acR (ad6 oS rfl ?_);show adg _ A.in1 (tryCatch (ae7 (.ref h1.objs.size)) _ >>= _) _ _ _;refine acR (aet (W.item 0 _ _ _ (by simp) fT λv h3 tk pv df kp=>?_));have cz:=kp _ _ nS oS;show adg _ A.in1 (agk h2.objs.size (λ_=>#[v,v]) >>= _) _ _ _;refine acR ?_;refine aej cz rfl ?_;rw[nm];have g3:G h3:=hG _ _ g0 λb o hw _ e=>kp b o hw e;refine acX ⟨aep adH _,Vp W hG jT zs 1 0 _ v _ (by simp) (W.frame _ _ _ df λb hf o e=>?_) (hG _ _ g3 λb o _ dO e=>(ac2 _ _ (adP dO)).trans e) pv (adG _ cz rfl) λv2 h4 Vr p4 k4=>?_⟩
 .exact (ac2 _ _ (λz:h2.objs.size=b=>zs (by rw[z];exact hf))).trans e
 .have ev:v2 = .ref (if fe q p=true then b else a):=by
   have e4:(#[adI a,adI b]:Array acY)[afh bt 1]?=some v2:=by simpa using p4
   have yd:afh bt 1=if fe q p=true then 1 else 0:=by show (if bt 1 0 then 1 else 0)=_;rfl
   rw[yd] at e4;by_cases hl:fe q p=true
   .rw[if_pos hl] at e4 ⊢;cases e4;rfl
   .rw[if_neg hl] at e4 ⊢;cases e4;rfl
  subst ev;refine h h4 Vr λc o e=>?_;obtain⟨u1,u2,u3⟩:=up c o e;exact k4 c o u1 u2 ((ac2 _ _ (adP u2)).trans (kp c o u1 u3))
variable{X:Cx}
noncomputable def JD(H:Hp)(Q:VK)(xs:List V):Prop:=∃ (a b:ac6) (p q:P2),xs=[.ref a,.ref b]/\H a=some (.tup [.int p.1,.int p.2])/\H b=some (.tup [.int q.1,.int q.2])/\Q (.ref (if fe q p=true then b else a)) H
theorem Vs(hc:X.calm=true)(hu:X.A.units+1<ajN):eU X (.builtin "min") (λxs H Q=>JD H Q xs):=by
 intro pins s σ H xs us Q I r h;obtain⟨a,b,p,q,rfl,ha,hb,hq⟩:=h;obtain⟨u,v,rfl,ru,rv⟩:=vals2 r;cases ru;cases rv;have pr:∀ (x:ac6) (r:P2),H x=some (.tup [.int r.1,.int r.2])->i4 s.heap x r:=λx r hx=>by
  obtain⟨_,af,hv,hi⟩:=(show bG X.prog X.w H s.heap x (.tup [.int r.1,.int r.2]) from I.aj x _ hx)
  obtain⟨u1,u2,rfl,⟨t1,rfl⟩,⟨t2,rfl⟩⟩:=vals2 hv;obtain⟨o,ho,bc,n,hd⟩:=hi;exact⟨o,t1,t2,n,ho,bc,hd⟩
 exact Vq (I.ok.hd hc) (pr a p ha) (pr b q hb) (show X.A.units+1<ajN from hu) λh' tk k=>⟨.ref _,H,I.kept k,rfl,hq⟩
end
local macro_rules | `(tactic| walk_at "om") => `(tactic| ((try simp only [PySem.Addr] at *); lia))
section
variable{prog:ado}{w:adM}{A:adQ}{E:acY->acZ->Prop}{s:acZ}
end
local macro_rules | `(tactic| walk_at "om") => `(tactic| ((try simp only [PySem.Addr] at *); lia))
section
variable{prog:ado}{w:adM}{A:adQ}{E:acY->acZ->Prop}{s:acZ}
noncomputable def JE(vs:List acY)(kis:List (List Int))(i:Nat):Prop:=∃ x t,vs[i]?=some (.int x t)/\kis.getD i []=[x]
theorem Vt{a:ac6}{vs:List acY}{kis:List (List Int)}{n:Nat}{P:alD->acZ->Prop}(ho:s.heap.get? a=some (ad2 "list" vs.toArray n))(hl:kis.length=vs.length)(bH:vs.length<64)(hk:∀ i,i<vs.length->JE vs kis i)
 (fin:∀ h',(∀ b o,b≠a->s.heap.get? b=some o->h'.get? b=some o)->(∃ c,h'.get? a=some (ad2 "list" (aeh ((bF (bK kis) vs.length).toList.map λi=>vs.getD i Value.none)) c))->P (.done (.ret .none)) { s with heap:=h' }) :
 adg (model prog w) A (afH.«list.sort» ⟨[.ref a],[]⟩) P E s:=by
 rw[akY];have la:a<s.heap.objs.size:=ac0 ho;refine acR (ai1 ho rfl (acR (ae9 ho rfl ?_ (by rw[ada,aen];walk_at "om") (adw _))));obtain⟨e1,oa⟩:∃ e1,(s.heap.update a (adF λ_=>(#[]:Array acY))).get? a=some (ad2 "list" #[] e1):=⟨_,afZ ho λ_=>#[]⟩
 have keep:∀ b o,b≠a->s.heap.get? b=some o->(s.heap.update a (adF λ_=>(#[]:Array acY))).get? b=some o:=λb o z e=>(ac2 _ _ (adP z)).trans e;refine acR (agA oa rfl ?_);generalize s.heap.update a (adF λ_=>(#[]:Array acY))=g at oa keep ⊢;refine acR (ag3 ?_ (by show vs.length<=_;rw[aen];walk_at "om"));refine acR (agJ ?_ (adw _));refine adZ ?_;show adg (model prog w) A _ P E { s with heap:=(g.push (ad2 "tuple" vs.toArray 0)).push (ad2 "list" #[] 0) };have gD:((g.push (ad2 "tuple" vs.toArray 0)).push (ad2 "list" #[] 0)).get? a=some (ad2 "list" #[] e1):=acT _ (acT _ oa);have jV:∀ b o,b≠a->s.heap.get? b=some o->((g.push (ad2 "tuple" vs.toArray 0)).push (ad2 "list" #[] 0)).get? b=some o:=λb o z e=>acT _ (acT _ (keep b o z e));generalize (g.push (ad2 "tuple" vs.toArray 0)).push (ad2 "list" #[] 0)=g2 at gD jV ⊢;dsimp only;have xX:((bF (bK kis) vs.length).toList.map λi=>vs.getD i Value.none).length=vs.length:=by rw[acV,(kX (n:=vs.length) (iN kis)).1.length_eq,ads]
 have sz:(aeh ((bF (bK kis) vs.length).toList.map λi=>vs.getD i Value.none)).size<=adz+1:=by rw[ada,xX,aen];walk_at "om"
 have done:P (.done (.ret .none)) { s with heap:=g2.update a (adF λ_=>aeh ((bF (bK kis) vs.length).toList.map λi=>vs.getD i Value.none)) } :=
  fin _ (λb o z e=>(ac2 _ _ (adP z)).trans (jV b o z e)) ⟨_,afZ gD λ_=>_⟩
 by_cases h2:vs.toArray.size<2
 .rw[if_pos h2,if_pos h2];refine acR (acX ?_);rw[StateT.run_pure];refine acR (acX ?_);dsimp only;have self:(adx vs.length).map (λi=>vs.getD i Value.none)=vs:=by
   apply ahj
   .simp
   .intro i h1 h2;simp[acU,h2]
  have e0:(alT (SortSt.mk' general' (vs.toArray.zip vs.toArray) #[] 7 none)).map (·.2)=aeh ((bF (bK kis) vs.length).toList.map λi=>vs.getD i Value.none):=by unfold bF;rw[if_pos (by simpa using h2)];apply ais.mp;rw[show (adx vs.length).toArray.toList=adx vs.length from rfl,self];show ((vs.toArray.zip vs.toArray).map (·.2)).toList=_;simp[ait]
  rw[e0];refine acR (agA gD rfl (acR (ae9 gD rfl ?_ (adw _) sz)));simp only[bne_self_eq_false,adk,if_false];exact acX done
 .rw[if_neg h2,if_neg h2];have mI:2<=vs.length:=by rw[ada] at h2;walk_at "om"
  refine acR (PySem.W.kas_kind (s:={ s with heap:=g2 }) (T:=.type "int") mI (λv hv=>?_) (by decide) (by decide) ?_)
  .obtain⟨i,hi,rfl⟩:=afR hv;obtain⟨x,tt,e,_⟩:=hk i hi;rw[acW hi] at e;rw[Option.some.inj e];exact ah6
  have ask:(aiu vs.length).kasWp (ai2 prog w A (oneType') vs) (λp s'=>s' = { s with heap:=g2 }/\p=bF (bK kis) vs.length) { s with heap:=g2 }:=by
   have pv:=sT _ (sR (n:=vs.length) (iN kis) (by walk_at "om"));refine sP (lt:=bK kis) (n:=vs.length) (Ok:=λs'=>s' = { s with heap:=g2 }) (λi j C s' hi hj e q=>?_) (λp s' e q=>⟨e,?_⟩) _ _ rfl pv
   .subst e;obtain⟨x1,t1,a1,l1⟩:=hk i hi;obtain⟨x2,t2,a2,l2⟩:=hk j hj;show adg _ _ (keyLt' oneType' (vs.getD i Value.none) (vs.getD j Value.none)) C _ _;rw[acU,acU,a1,a2,keyLt'_oneType];have e1:bK kis i j=decide (x1<x2):=by
     unfold bK;rw[l1,l2,HT.jP];by_cases e:x1=x2
     .rw[if_pos e,e];simp[HT.lexLt]
     .rw[if_neg e]
    have q0:=q { s with heap:=g2 } rfl;rw[e1] at q0;exact oneLt_int (s:={ s with heap:=g2 }) q0
   .rw[q];unfold bF;rw[if_neg (by walk_at "om")]
  refine acR (adJ (ai3 (κ:=oneType') (ks:=vs) (vs:=vs) (Q:=λst s'=>s' = { s with heap:=g2 }/\alT st=(bF (bK kis) vs.length).map (aiv (vs.toArray.zip vs.toArray))/\akC st=none)
   rfl mI bH (λp st s' b1 b2 b3 b4=>⟨b4.1,by rw[b2,b4.2],b3⟩) ask) ?_ λ_ _ z=>z)
  rintro ⟨⟨⟩,st⟩ s' ⟨rfl,har,hf⟩;dsimp only;rw[aiw rfl har];refine acR (agA gD rfl (acR (ae9 gD rfl ?_ (adw _) sz)));rw[hf];simp only[bne_self_eq_false,adk,if_false];exact acX done
theorem Vu{r:ac6}{vs:List acY}{kis:List (List Int)}{Q:acY->acZ->Prop}(hl:kis.length=vs.length)(bH:vs.length<64)(hk:∀ i,i<vs.length->JE vs kis i)
 (xY:∀ (A':adQ) (Q':List acY->acZ->Prop) (E':acY->acZ->Prop),A'.handled=A.handled->(∀ h' tk,(∀ b o,s.heap.get? b=some o->h'.get? b=some o)->s.heap.objs.size<=h'.objs.size->Q' vs { s with heap:=h',toks:=tk })->adg (model prog w) A' (collect (.ref r)) Q' E' s)
 (q:∀ l h' tk,s.heap.objs.size<=l->(∀ b o,s.heap.get? b=some o->h'.get? b=some o)->(∃ c,h'.get? l=some (ad2 "list" (aeh ((bF (bK kis) vs.length).toList.map λi=>vs.getD i Value.none)) c))->Q (.ref l) { s with heap:=h',toks:=tk }) :
 adg (model prog w) A (call (.builtin "sorted") [.ref r]) Q E s:=by
 refine ago akQ akk akl (args_sorted1 _) ?_;unfold afH.«sorted»;refine acR (m:=alb "sorted" 1 1 _) (acX (acR (xY _ _ _ rfl λh1 tk keep hsz=>?_)));refine acR (agJ ?_ (by rw[aen];walk_at "om"));have oL:(h1.push (ad2 "list" vs.toArray 0)).get? h1.objs.size=some (ad2 "list" vs.toArray 0):=ac3 _ rfl;have eY:∀ b o,s.heap.get? b=some o->b≠h1.objs.size/\(h1.push (ad2 "list" vs.toArray 0)).get? b=some o:=λb o e=>by have:=ac0 e;exact⟨by walk_at "om",acT _ (keep b o e)⟩
 show adg _ A.in1 (holding [.ref h1.objs.size] (call (.builtin "list.sort") [.ref h1.objs.size]) >>= _) _ _ { s with heap:=h1.push (ad2 "list" vs.toArray 0),toks:=tk };generalize h1.push (ad2 "list" vs.toArray 0)=h2 at oL eY ⊢;generalize h1.objs.size=l at oL eY hsz ⊢;refine acR (adZ (aee ajv ⟨_,oL,rfl⟩ ai0 ?body (args_list_sort _)))
 case body =>
  refine Vt (s:={ s with heap:=h2,toks:=tk }) oL hl bH hk λh' k c=>⟨_,rfl,acX ⟨_,rfl,q l h' tk hsz (λb o e=>k b o (eY b o e).1 (eY b o e).2) c⟩⟩
end
theorem Vv(kis:List (List Int))(ns:List Int):br kis V.non (ns.map V.int)=(br kis 0 ns).map V.int:=by unfold br;rw[ae1,acV];refine aeZ λi hi=>?_;have hp:=(kX (n:=ns.length) (iN kis)).1;have:i<ns.length:=adY.mp (hp.mem_iff.mp hi);simp[ak3,this]
theorem JF:∀ M:List (Int × PySem.Tok),Vals ((M.map (·.1)).map V.int) (M.map λm=>Value.int m.1 m.2)
 | []=>.nil
 | m::M=>.cons ⟨m.2,rfl⟩ (JF M)
noncomputable def JG(K:acS)(t:TE):TE:=λσ H Q=>t σ H λv H1=>∃ (a:ac6) (ns:List Int),v=V.ref a/\ah K H1 a (ns.map V.int)/\ns.length<=3 /\
 ∀ zs:List Int,zs.Nodup->(∀ x,x∈zs↔x∈ns)->zs.Pairwise (· <= ·)->∀ l,H1 l=none->Q (.ref l) (upd H1 l (.lst (zs.map V.int)))
section
variable{X:Cx}
theorem Vw{e:aeY}{t:TE}{p1 p2 pos i5:Pos}(hc:X.calm=true)(he:PE X e t)(qK:Gl X "sorted")(Vx:X.mg "sorted" = none)(yM:ad3 "sorted" = some (.builtin "sorted"))
 (qL:Gl X "set") (oI:X.mg "set" = none) (yN:ad3 "set" = some (.type "set"))
 (dw:adC [e] X.env=[(false,eval e X.env)]:=by rfl) (qM:adC [.Call (.Name "set" p2) [e] [] i5] X.env=[(false,eval (.Call (.Name "set" p2) [e] [] i5) X.env)]:=by rfl) :
 PE X (.Call (.Name "sorted" p1) [.Call (.Name "set" p2) [e] [] i5] [] pos) (JG X.K t):=by
 intro pins s σ H Q I h;refine aeJ (eQ I qK Vx yM ?_ (by decide) (by decide));refine aha ?_ (by rw[qM];rfl) rfl;rw[qM];show adg _ _ (spliced ((false,eval (.Call (.Name "set" p2) [e] [] i5) X.env)::afE pos [])) _ _ s;refine agF ?_;refine aeJ (eQ I qL oI yN ?_ (by decide) (by decide));refine adT ?_ (by rw[dw];rfl) rfl;rw[dw];show adg _ _ (spliced ((false,eval e X.env)::afE i5 [])) _ _ s;refine agF (aA (he pins s σ H _ I h) λu s1 ⟨x,H1,I1,r1,q1⟩=>?_);obtain⟨a,ns,rfl,hS,hn,q⟩:=q1;cases r1;refine agR ?_;obtain⟨us,rv,pl,hz⟩:=I1.list hS;have hl:us.length=ns.length:=by have:=rv.length;rw[acV] at this;lia
 have hint:=intsAre_of rv;refine Vk (items:=us.toArray) (key:=λi=>ns.getD i 0) (I1.ok.hd hc) pl.isList (by simp;lia) (λi v hv=>?_) λh2 tk M Vy hM hk=>?_
 .exact IntsAre.int_at hint i v (by simpa using hv)
 refine agR ?_;obtain⟨o,ep,tb,L,g1,g2,g3,yL,g4,g5,g6,g7⟩:=Vy;have hx:oF X.w s1.heap.objs.size o ep tb L:=⟨g2,g3,yL,g4,g5⟩
 have hsz:us.toArray.size=us.length:=by simp
 rw[hsz] at hM;obtain⟨m1,m2,m3,m4⟩:=hM;have Vz:L.length=M.length:=by have:=congrArg List.length g7;simpa using this
 have hp:((iZ X.w s1.heap.objs.size ep (L.map (·.2)).toArray).toList).Perm (M.map km):=by have:=yG X.w s1.heap.objs.size ep (L.map (·.2)).toArray;rw[ahC,g7] at this;rw[g7];exact this
 obtain⟨M',e1,e2⟩:=Jt hp;have abH:M'.length=L.length:=e2.length_eq.trans Vz.symm;have eK:(M'.map (·.1)).Nodup:=((e2.map (·.1)).nodup_iff).mpr m1;have VA:=JF M';refine Vu (s:={ s1 with heap:=h2,toks:=tk }) (kis:=M'.map λm=>[m.1]) (vs:=M'.map λm=>Value.int m.1 m.2) (by simp) (by simp;lia) (λi hi=>?_) (λA' Q' E' hA hq=>?_) λl h' gU k1 k2 k3=>?_
 .have bP:i<M'.length:=by simpa using hi
  exact⟨M'[i].1,M'[i].2,by simp[bP],by simp[ak3,bP]⟩
 .refine HX (s:={ s1 with heap:=h2,toks:=tk }) (U4 hx) (hA.trans (I1.ok.hd hc)) g1 (adb (show L.length<=64 by lia) (by decide)) λh3 p9 acc b1 b2 b3=>?_;have VB:acc.toList=M'.map λm=>Value.int m.1 m.2:=by
   refine afK λi=>?_;rw[ahe];by_cases hi:i<L.length
   .have bP:i<acc.size:=by rw[b3.1];exact hi
    have JH:i<M'.length:=by lia
    have:=b3.2 i acc[i] (adR bP);dsimp only at this;have e3:(iZ X.w s1.heap.objs.size ep (L.map (·.2)).toArray)[i]?=some (km M'[i]):=by rw[<- ahe,e1];simp[JH]
    rw[e3] at this;rw[adR bP,<- this];simp[JH]
   .rw[afW (by rw[b3.1];lia)];rw[eq_comm,List.getElem?_eq_none_iff];simp only[acV];lia
  rw[VB];exact hq h3 p9 b1 b2
 .refine x3 (s:=s1) (ks:=(M'.map (·.1)).map V.int) (kis:=M'.map λm=>[m.1]) (us:=M'.map λm=>Value.int m.1 m.2) I1 VA ?_ ?_ (λb u e=>k2 b u (hk b u (ac0 e) e)) k3 λl' nc=>?_
  .simp only[acV];exact adb (show _<=64 by lia) (by decide)
  .exact adb (ag8 (ac0 g1)) k1
  .rw[Vv];refine q _ ((mK.nodup_iff).mpr eK) (λx=>?_) ?_ l' nc
   .rw[mK.mem_iff,(e2.map (·.1)).mem_iff];constructor
    .intro dB;obtain⟨m,hm,rfl⟩:=adf.mp dB;obtain⟨j,hj,ej⟩:=m2 m hm;have:j<ns.length:=by lia
     rw[ej];simp[ak3,this]
    .intro dB;obtain⟨j,hj,rfl⟩:=afR dB;have:=m3 j (by lia);simpa [ak3,hj] using this
   .have:=wU (kis:=M'.map λm=>[m.1]) (d:=(0:Int)) (as:=M'.map (·.1)) (f:=λx=>[x]) (by rw[ae1];rfl);refine this.imp λ{a b} eX=>?_;rw[HT.jP] at eX;by_cases e:b=a
    .lia
    .rw[if_neg e] at eX;have:=of_decide_eq_false eX;lia
end
noncomputable def oJ(u:acY):Bool:=match u with|.none=>true|_=>false
noncomputable def ng(v:V):Bool:=decide (v = .non)
noncomputable def uj(H:Hp)(xs:List V):Prop:=∀ v∈xs,v = .non ∨ ∃ a ys,v = .ref a/\H a=some (.tup ys)
section
variable{X:Cx}{pos:Pos}
theorem VC{x:V}{u:acY}{H:Hp}(r:RelV x u)(h:x = .non ∨ ∃ a ys,x = .ref a/\H a=some (.tup ys)):oJ u=ng x:=by
 rcases h with rfl|⟨a,ys,rfl,_⟩
 .cases r;rfl
 .cases r;rfl
theorem JI{H:Hp}:∀ {xs:List V} {us:List acY},Vals xs us->uj H xs->us.any oJ=xs.any ng
 | _,_,.nil,_=>rfl
 | x::xs,u::us,.cons r t,f=>by rw[aeo,aeo,VC r (f x (.head _)),JI t λv hv=>f v (.tail _ hv)]
theorem JJ{pins:List (ac6 × Obj)}{σ:L2.St}{H:Hp}{s:acZ}{A:adQ}(I:Inv X pins σ H s)(hu:A.units<ajN):∀ {xs:List V} {us:List acY},Vals xs us->uj H xs->∀ u∈us,SeqAt.EqAt A s u .none (oJ u)
 | _,_,.nil,_=>λu hu=>by cases hu
 | x::xs,u::us,.cons r t,f=>λu' yO=>by
  rcases ac9.mp yO with rfl|yO
  .rcases f x (.head _) with rfl|⟨a,ys,rfl,ha⟩
   .cases r;exact SeqAt.EqAt.same _
   .cases r;obtain⟨_,af,r',o',k1,k2,n,k3⟩:=(show bG X.prog X.w H s.heap a (.tup ys) from I.aj a _ ha)
    exact SeqAt.EqAt.tuple_none ⟨o',k1,k2,n,k3⟩ hu
  .exact JJ I hu t (λv hv=>f v (.tail _ hv)) u' yO
noncomputable def VD(K:acS):R2:=λx y H Q=>∃ a xs,x = .non/\y = .ref a/\ah K H a xs/\uj H xs/\Q (.bl (xs.any ng)) H
theorem yP(hu:X.A.units+1<ajN):bp X (aeO .In) (VD X.K):=by intro pins s σ H x y v u Q I rx ry h;obtain⟨a,xs,rfl,rfl,hq,hn,q⟩:=h;cases rx;cases ry;obtain⟨af,r,pl,hz⟩:=I.list hq;refine SeqAt.in_listAt oJ pl.isList (λw hw=>JJ I (A:=X.A.in1) (ahJ (knd:=fo X.prog X.w) hu) r hn w (by simpa using hw)) ⟨.bl _,H,I,rfl,?_⟩;rw[show af.toArray.any oJ=af.any oJ by simp,JI r hn];exact q
end
noncomputable def jy(p:P2):W2:=some (some p.1,some p.2)
theorem JK:∀ (ss:List S2) (a b:Int),∃ a' b',cb (some a,some b) ss=(some a',some b')
 | [],a,b=>⟨a,b,rfl⟩
 | s::ss,a,b=>by
  rw[tQ];have h1:∃ x,dQ (some a) s.1=some x:=by rcases s.1 with _|c<;>exact⟨_,rfl⟩
  have h2:∃ x,dR (some b) s.2=some x:=by rcases s.2 with _|c<;>exact⟨_,rfl⟩
  obtain⟨x,hx⟩:=h1;obtain⟨y,hy⟩:=h2;rw[hx,hy];exact JK ss x y
theorem VE{a b:Int}{ss:List S2}{s:S2}(h:cJ (none,none) ((some a,some b)::ss)=some s):∃ p:P2,some s=jy p/\p.1<=p.2:=by
 unfold cJ at h;rw[tQ] at h;obtain⟨x,y,e⟩:=JK ss a b;rw[show (dQ (none,none).1 (some a,some b).1,dR (none,none).2 (some a,some b).2)=((some a,some b):S2) from rfl,e] at h;split at h
 .cases h
 .rename_i hc;cases h;exact⟨(x,y),rfl,by simpa [aS] using hc⟩
theorem JL{f:Nat->W2}(hf:∀ k s,f k=some s->∃ p:P2,some s=jy p/\p.1<=p.2):∀ (ks:List Nat),(∀ k∈ks,f k≠none)->∃ pp:List P2,ks.map f=pp.map jy/\cI pp
 | [],_=>⟨[],rfl,λ_ h=>nomatch h⟩
 | k::ks,h=>by
  obtain⟨pp,e,ho⟩:=JL hf ks λj hj=>h j (.tail _ hj);cases hk:f k with
  | none=>exact absurd hk (h k (.head _))
  | some s =>
   obtain⟨p,e1,e2⟩:=hf k s hk;refine⟨p::pp,by rw[adq,adq,e,hk,e1],λq hq=>?_⟩;rcases ac9.mp hq with rfl|hq
   .exact e2
   .exact ho q hq
theorem all_some:∀ (ws:List W2),(∀ w∈ws,w≠none)->∃ gs:List S2,ws=gs.map some
 | [],_=>⟨[],rfl⟩
 | w::ws,h=>by
  obtain⟨gs,e⟩:=all_some ws λj hj=>h j (.tail _ hj);cases w with
  | none=>exact absurd rfl (h none (.head _))
  | some s=>exact⟨s::gs,by rw[e];rfl⟩
theorem yQ{H:Hp}:∀ {ys:List V} {ws:List W2},ao (fb H) ys ws->uj H ys/\(ys.any ng=ws.any afS)/\∀ m,ng (ys.getD m .non)=(ws.getD m none).isNone
 | [],[],_=>⟨(λ_ h=>nomatch h),rfl,λ_=>rfl⟩
 | y::ys,w::ws,h=>by
  obtain⟨h1,h2⟩:=h;obtain⟨a,b,c⟩:=yQ h2;have key:(y = .non ∨ ∃ a ys,y = .ref a/\H a=some (.tup ys))/\ng y=w.isNone:=by
   cases w with
   | none =>
    obtain rfl:y = .non:=h1;exact⟨.inl rfl,rfl⟩
   | some s =>
    obtain⟨p,rfl,hp⟩:=h1;exact⟨.inr ⟨p,_,rfl,hp⟩,rfl⟩
  refine⟨λv hv=>?_,by rw[aeo,aeo,b,key.2],λm=>?_⟩
  .rcases ac9.mp hv with rfl|hv
   .exact key.1
   .exact a v hv
  .cases m with
   | zero=>exact key.2
   | succ m=>exact c m
 | [],_::_,h=>h.elim
 | _::_,[],h=>h.elim
theorem JM{ws:List W2}(h:ws.any afS=false):∀ w∈ws,w≠none:=λw hw e=>by have:=af8.mp h w hw;rw[e] at this;exact this rfl
theorem JN{H:Hp}:∀ {ys:List V} {pp:List P2},ao (fb H) ys (pp.map jy)->dm H ys pp
 | [],[],_=>trivial
 | _::_,_::_,h=>⟨h.1,JN h.2⟩
 | [],_::_,h=>h.elim
 | _::_,[],h=>h.elim
theorem kc.reach{ps:List P2}{ms:List Mk}{tp:Nat->Option P2}(T:kc ps ms tp):∀ (n t:Nat) {v k:Int},t+n<=ps.length ->
 (tp t=some (v,k)->∃ v' k',tp (t+n)=some (v',k')/\v'<=v+(pre (·.2) ps (t+n)-pre (·.2) ps t)) /\
 (tp (t+n)=some (v,k)->∃ v' k',tp t=some (v',k')/\v'<=v+(pre (·.1) ps t-pre (·.1) ps (t+n)))
 | 0,t,v,k,_=>⟨λh=>⟨v,k,h,by simp⟩,λh=>⟨v,k,h,by simp⟩⟩
 | n+1,t,v,k,hn=>by
  refine⟨λh=>?_,λh=>?_⟩
  .obtain⟨v1,k1,e1,h1⟩:=(T.reach n t (by lia)).1 h;obtain⟨v2,k2,e2,h2⟩:=T.fwd (t+n) v1 k1 (by lia) e1;refine⟨v2,k2,e2,?_⟩;rw[show t+(n+1)=(t+n)+1 by lia,gC _ ps (by lia)];lia
  .obtain⟨v1,k1,e1,h1⟩:=T.bwd (t+n) v k (by lia) h;obtain⟨v2,k2,e2,h2⟩:=(T.reach n t (by lia)).2 e1;refine⟨v2,k2,e2,?_⟩;rw[show t+(n+1)=(t+n)+1 by lia,gC _ ps (by lia)];lia
theorem VF{ps:List P2}{ms ns:List Mk}{tp:Nat->Option P2}(T:kc ps ms tp)(hm:∀ m∈ms,m.1<=ps.length)(hn:∀ m∈ns,m.1<=ps.length)(h0:qy ns tp){a b:Mk}(ha:a∈ms)(hb:b∈ns):¬ ke ps a b:=by
 rintro ⟨h,l,e1,e2,aZ⟩;obtain⟨v,k,e3,h3⟩:=T.top a ha h e1;have pX:=hm a ha;have bq:=hn b hb;have key:∃ v' k',tp b.1=some (v',k')/\v'<=v+bI ps a.1 b.1:=by
  unfold bI;by_cases hle:a.1<=b.1
  .rw[if_pos hle];obtain⟨n,pM⟩:∃ n,b.1=a.1+n:=⟨b.1-a.1,by lia⟩
   rw[pM];exact (T.reach n a.1 (by lia)).1 e3
  .rw[if_neg hle];obtain⟨n,pM⟩:∃ n,a.1=b.1+n:=⟨a.1-b.1,by lia⟩
   rw[pM] at e3 ⊢;exact (T.reach n b.1 (by lia)).2 e3
 obtain⟨v',k',e4,h4⟩:=key;have:=h0 b hb l v' k' e2 e4;lia
theorem yR{tb:Tb}{i:Int}{m:Mk}:m∈fI tb i ↔ ∃ r∈tb,r.1.1=i/\m=(r.1.2.toNat,r.2):=by
 unfold fI;simp only[adf,adS,decide_eq_true_eq];constructor
 .rintro ⟨r,⟨h1,h2⟩,rfl⟩;exact⟨r,qC.mem_iff.mp h1,h2,rfl⟩
 .rintro ⟨r,h1,h2,rfl⟩;exact⟨r,⟨qC.mem_iff.mpr h1,h2⟩,rfl⟩
noncomputable def qN(e:Nat)(tb:Tb):List (Int × List Mk):=(adx e).map λ(i:Nat)=>((i:Int),fI tb (i:Int))
theorem VG{ps:List P2}(hp:cI ps){i t:Nat}(ht:t<ps.length):bI ps i (t+1)<=bI ps i t+(aF ps t).2:=by
 have h:=hp _ (mS ht);have e1:=gC (·.1) ps ht;have e2:=gC (·.2) ps ht;unfold bI;split<;>split<;>first|lia|(have z:i=t+1:=(by lia);subst z;lia)
theorem VH{ps:List P2}(hp:cI ps){i t:Nat}(ht:t<ps.length):bI ps i t<=bI ps i (t+1)-(aF ps t).1:=by
 have h:=hp _ (mS ht);have e1:=gC (·.1) ps ht;have e2:=gC (·.2) ps ht;unfold bI;split<;>split<;>first|lia|(have z:i=t+1:=(by lia);subst z;lia)
theorem VI(ps:List P2)(i:Nat):bI ps i i<=0:=by unfold bI;split<;>lia
theorem JO{ps:List P2}(hp:cI ps)(ms:List Mk):∀ n,n<=ms.length->∃ tp,kc ps (ms.take n) tp
 | 0,_=>⟨λ_=>none,⟨λ_ _ _ _ e=>(nomatch e),λ_ h=>(nomatch h),λ_ _ _ _ e=>(nomatch e),λ_ _ _ _ e=>(nomatch e)⟩⟩
 | n+1,hn=>by
  obtain⟨tp,T⟩:=JO hp ms n (by lia);have hm:ms[n]?=some ms[n]:=acW (by lia);generalize ms[n]=m at hm;have et:ms.take (n+1)=ms.take n++[m]:=by rw[aeM,hm];rfl
  have tl:(ms.take n).length=n:=by rw[ahh];lia
  cases hi:m.2.2 with
  | none =>
   refine⟨tp,⟨λt v k ht e=>?_,λa ha h e=>?_,T.fwd,T.bwd⟩⟩
   .obtain⟨i,a,h,h1,h2,h3⟩:=T.val t v k ht e;have:=(ade.mp h2).1;exact⟨i,a,h,h1,by rw[et,ad5 this];exact h2,h3⟩
   .rw[et] at ha;rcases adm.mp ha with z|z
    .exact T.top a z h e
    .rw[ady.mp z,hi] at e;cases e
  | some h0 =>
   have one:∀ t v k,(match tp t with|some (v,k)=>if h0+bI ps m.1 t<v then some (h0+bI ps m.1 t,(n:Int)) else some (v,k)|none=>some (h0+bI ps m.1 t,(n:Int)))=some (v,k) ->
    v<=h0+bI ps m.1 t/\(∀ v' k',tp t=some (v',k')->v<=v')/\((v=h0+bI ps m.1 t/\k=(n:Int))∨tp t=some (v,k)):=by
    intro t v k e;cases h1:tp t with
    | none =>
     rw[h1] at e;cases e;exact⟨aew _,λ_ _ z=>(nomatch z),.inl ⟨rfl,rfl⟩⟩
    | some q =>
     obtain⟨v1,k1⟩:=q;rw[h1] at e;dsimp only at e;split at e
     .cases e;refine⟨aew _,λv' k' z=>?_,.inl ⟨rfl,rfl⟩⟩;cases z;lia
     .cases e;refine⟨by lia,λv' k' z=>?_,.inr rfl⟩;cases z;exact aew _
   have ex:∀ t,∃ v k,(match tp t with|some (v,k)=>if h0+bI ps m.1 t<v then some (h0+bI ps m.1 t,(n:Int)) else some (v,k)|none=>some (h0+bI ps m.1 t,(n:Int)))=some (v,k):=λt=>by
    cases h1:tp t with
    | none=>exact⟨_,_,rfl⟩
    | some q =>
     obtain⟨v1,k1⟩:=q;dsimp only;split<;>exact⟨_,_,rfl⟩
   refine⟨λt=>match tp t with|some (v,k)=>if h0+bI ps m.1 t<v then some (h0+bI ps m.1 t,(n:Int)) else some (v,k)|none=>some (h0+bI ps m.1 t,(n:Int)),⟨λt v k ht e=>?_,λa ha h e=>?_,λt v k ht e=>?_,λt v k ht e=>?_⟩⟩
   .obtain⟨_,_,⟨rfl,rfl⟩|e1⟩:=one t v k e
    .exact⟨n,m,h0,rfl,by rw[et,aem (by lia),tl,ahK];rfl,hi,aew _⟩
    .obtain⟨i,a,h,h1,h2,h3⟩:=T.val t v k ht e1;have:=(ade.mp h2).1;exact⟨i,a,h,h1,by rw[et,ad5 this];exact h2,h3⟩
   .obtain⟨v,k,e1⟩:=ex a.1;obtain⟨o1,o2,_⟩:=one _ _ _ e1;refine⟨v,k,e1,?_⟩;rw[et] at ha;rcases adm.mp ha with z|z
    .obtain⟨v',k',e2,h2⟩:=T.top a z h e;have:=o2 v' k' e2;lia
    .rw[ady.mp z] at e o1;rw[hi] at e;cases e;have:=VI ps m.1;lia
   .obtain⟨v',k',e1⟩:=ex (t+1);obtain⟨o1,o2,_⟩:=one _ _ _ e1;refine⟨v',k',e1,?_⟩;obtain⟨_,_,⟨rfl,rfl⟩|e3⟩:=one t v k e
    .have:=VG hp (i:=m.1) ht;lia
    .obtain⟨v2,k2,e4,h4⟩:=T.fwd t v k ht e3;have:=o2 _ _ e4;lia
   .obtain⟨v',k',e1⟩:=ex t;obtain⟨o1,o2,_⟩:=one _ _ _ e1;refine⟨v',k',e1,?_⟩;obtain⟨_,_,⟨rfl,rfl⟩|e3⟩:=one (t+1) v k e
    .have:=VH hp (i:=m.1) ht;lia
    .obtain⟨v2,k2,e4,h4⟩:=T.bwd t v k ht e3;have:=o2 _ _ e4;lia
theorem VJ{ps:List P2}{ms:List Mk}(hp:cI ps)(hm:∀ m∈ms,m.1<=ps.length)(hc:∀ a∈ms,∀ b∈ms,¬ ke ps a b):∃ c,dX ps c/\meets ms c:=by
 obtain⟨tp,T⟩:=JO hp ms ms.length (ac8 _);rw[aeX] at T;refine SY hp hm T λm cg l v k e1 e2=>?_;rcases Int.lt_or_le v l with h|h
 .obtain⟨i,a,_,h2,h3⟩:=T.ke (hm m cg) e2 e1 h;exact absurd h3 (hc a (adl h2) m cg)
 .exact h
noncomputable abbrev Cl:=(En × Nat) × (En × Nat)
noncomputable def jz(e:Int)(c:Cl):Bool:=decide (c.1.1=some e) || decide (c.2.1=some e)
noncomputable def wo(e:Int)(cs:List Cl):List Cl:=cs.filter λc=>!jz e c
noncomputable def iI:Nat->List Cl->Prop
 | 0,_=>True
 | _+1,[]=>False
 | n+1,c::cs=>∀ e,jz e c=true->iI n (wo e (c::cs))
noncomputable def oM(es:List Int)(cs:List Cl):Prop:=∀ c∈cs,∃ e∈es,jz e c=true
theorem VL{e:Int}{es:List Int}{cs:List Cl}(h:oM es (wo e cs)):oM (e::es) cs:=λc hc=>by
 cases hb:jz e c with
 | true=>exact⟨e,.head _,hb⟩
 | false =>
  obtain⟨x,hx,h1⟩:=h c (adS.mpr ⟨hc,by rw[hb];rfl⟩);exact⟨x,.tail _ hx,h1⟩
theorem uk{e:Int}{c:Cl}:jz e c=true↔c.1.1=some e∨c.2.1=some e:=by unfold jz;rw[af0,decide_eq_true_eq,decide_eq_true_eq]
noncomputable abbrev Gp:=En × List Mk
noncomputable def yS(ps:List P2)(gs:List Gp)(cs:List Cl):Prop:=∀ c∈cs,∃ g∈gs,∃ h∈gs,∃ m∈g.2,∃ n∈h.2,c=((g.1,m.1),(h.1,n.1))/\ke ps m n
noncomputable def jA(ps:List P2)(g h:Gp)(cs:List Cl):Prop:=∀ m∈g.2,∀ n∈h.2,ke ps m n->∃ c∈cs,c.1.1=g.1/\c.2.1=h.1
theorem jA.more{ps:List P2}{g h:Gp}{cs ds:List Cl}(x:jA ps g h cs):jA ps g h (cs++ds):=λm hm n hn hc=>let ⟨c,h1,h2⟩:=x m hm n hn hc;⟨c,adD _ h1,h2⟩
noncomputable def kr(gs:List Mk)(e:Nat)(tb:Tb):List Gp:=(none,gs)::(qN e tb).map λr=>(some r.1,r.2)
theorem ib{tb:Tb}{es:List Int}{m:Mk}:m∈cu tb es ↔ ∃ r∈tb,r.1.1∉es/\m=(r.1.2.toNat,r.2):=by
 unfold cu;constructor
 .intro h;obtain⟨r,hr,rfl⟩:=adf.mp h;obtain⟨h1,h2⟩:=adS.mp hr;exact⟨r,lD h1,by simpa using h2,rfl⟩
 .rintro ⟨r,hr,h1,rfl⟩;exact adf.mpr ⟨r,adS.mpr ⟨mK.mem_iff.mpr hr,by simpa using h1⟩,rfl⟩
theorem JP{gm:List Mk}{e t:Int}{tb:Tb}{es:List Int}(aj:cB e t tb){m:Mk}(h:m∈gm++cu tb es):∃ g∈kr gm e.toNat tb,m∈g.2/\∀ x,g.1=some x->x∉es:=by
 rcases adm.mp h with z|z
 .exact⟨_,.head _,z,λx hx=>nomatch hx⟩
 .obtain⟨r,hr,h1,rfl⟩:=ib.mp z;have ho:=aj.2 r hr;unfold j7 at ho;refine⟨(some r.1.1,fI tb r.1.1),.tail _ (adf.mpr ⟨(r.1.1,fI tb r.1.1),adf.mpr ⟨r.1.1.toNat,adY.mpr (by lia),by rw[afl ho.1.1]⟩,rfl⟩),yR.mpr ⟨r,hr,rfl,rfl⟩,λx hx=>?_⟩;cases hx;exact h1
theorem VM{ps:List P2}{gm:List Mk}{e t:Int}{tb:Tb}{es:List Int}{cs:List Cl}(aj:cB e t tb)(hp:cI ps)(hm:∀ m∈gm++cu tb es,m.1<=ps.length)(hc:oM es cs)
 (hx:∀ g∈kr gm e.toNat tb,∀ h∈kr gm e.toNat tb,jA ps g h cs):∃ c,dX ps c/\meets (gm++cu tb es) c :=
 VJ hp hm λa ha b hb eX=>by
  obtain⟨g,h1,h2,h3⟩:=JP aj ha;obtain⟨h,k1,k2,k3⟩:=JP aj hb;obtain⟨c,c1,c2,c3⟩:=hx g h1 h k1 a h2 b k2 eX;obtain⟨x,x1,x2⟩:=hc c c1;rcases uk.mp x2 with z|z
  .exact h3 x (c2.symm.trans z) x1
  .exact k3 x (c3.symm.trans z) x1
section
variable{prog:ado}{w:adM}{A:adQ}{E:acY->acZ->Prop}{s:acZ}
variable{X:Cx}{pos:Pos}
end
local macro_rules | `(tactic| walk_at "om") => `(tactic| ((try simp only [PySem.Addr] at *); lia))
noncomputable abbrev jB(h:aeA)(e it:ac6)(i:Int)(old:acY)(a:ac6)(f:Bool):Prop :=
 h.get? e=some { cls:=.type "enumerate",dict:=none,data:=.fields #[agf a,.bool f,.ref it,agf i,.none,old],slots:=#[] }
section
variable{prog:ado}{w:adM}{A:adQ}{E:acY->acZ->Prop}{s:acZ}
theorem VN{e it l a:ac6}{f:Bool}{oa:Obj}{i:Nat}{items:Array acY}{x old:acY}{Q:Option acY->acZ->Prop}
 (he:jB s.heap e it i old a f) (ha:s.heap.get? a=some oa) (VO:a≠e) (VP:a≠it) (hit:s.heap.IsListIter it l i) (hl:s.heap.IsList l items) (hx:items[i]?=some x) (bg:e≠it)
 (hQ:∀ h',jB h' e it ((i:Int)+1) old a true->h'.IsListIter it l (i+1) ->
   h'.get? s.heap.objs.size=some { cls:=.type "tuple",data:=.seq #[.int i s.toks,x] }->h'.objs.size=s.heap.objs.size+1 ->
   (∀ b o,b≠e->b≠it->s.heap.get? b=some o->h'.get? b=some o)->Q (some (.ref s.heap.objs.size)) { s with heap:=h',toks:=s.toks+1 }) :
 adg (model prog w) A (ae7 (.ref e)) Q E s:=by
 have hT:s.TypeIs (.ref e) "enumerate" := ⟨_,he,rfl⟩;obtain⟨hp,g,d,tk,os⟩:=s;unfold ae7;refine acR (afw (aei (name:=aeQ "__next__") hT afm
  (aee afm hT ahq ?_ (ahn _))))
 show adg _ _ (field (.ref e) 2 >>= _) _ _ _;refine acR (ae0 he rfl (x:=.ref it) rfl ?_);refine acR (afX hit hl hx λh₁ JQ oN=>?_);replace oN:Heap.SameBut it hp h₁:=oN;have um:jB h₁ e it i old a f:=(oN.2 e bg).trans he;show adg _ _ (field (.ref e) 3 >>= _) _ _ ⟨h₁,g,d,tk,os⟩;refine acR (ae0 um rfl (x:=agf i) rfl ?_);show adg _ _ (field (.ref e) 4 >>= _) _ _ ⟨h₁,g,d,tk,os⟩;refine acR (ae0 um rfl (x:=.none) rfl ?_);show adg _ _ (mkInt i >>= _) _ _ ⟨h₁,g,d,tk,os⟩;refine acR (wpAny_mkInt ?_);show adg _ _ (akD (.ref e) 3 (agf ((i:Int)+1)) >>= _) _ _ ⟨h₁,g,d,tk+1,os⟩;refine acR (aeU um (by simp) λh₂ uq oO=>?_);replace oO:Heap.SameBut e h₁ h₂:=oO;replace uq:jB h₂ e it ((i:Int)+1) old a f:=uq;show adg _ _ (akD (.ref e) 4 .none >>= _) _ _ ⟨h₂,g,d,tk+1,os⟩;refine acR (aeU uq (by simp) λh₃ ur oP=>?_);replace oP:Heap.SameBut e h₂ h₃:=oP;replace ur:jB h₃ e it ((i:Int)+1) old a f:=ur;show adg _ _ (alq [.int i tk,x] >>= _) _ _ ⟨h₃,g,d,tk+1,os⟩;refine acR (ag3 ?_);have qO:jB (h₃.push { cls:=.type "tuple",data:=.seq #[.int i tk,x] }) e it ((i:Int)+1) old a f:=acT _ ur;generalize qP:h₃.push { cls:=.type "tuple",data:=.seq #[.int i tk,x] }=h₄ at qO;have hsz:h₃.objs.size=hp.objs.size:=by rw[oP.1,oO.1,oN.1]
 have qI:e<hp.objs.size:=ac0 he;have VQ:h₄.get? hp.objs.size=some { cls:=.type "tuple",data:=.seq #[.int i tk,x] }:=by rw[<- qP,<- hsz];exact ac3 _ rfl
 have VR:h₄.objs.size=hp.objs.size+1:=by rw[<- qP,ad0,hsz]
 have JR:∀ b o,b≠e->b≠it->hp.get? b=some o->h₄.get? b=some o:=λb o i9 JA hb=>by rw[<- qP];exact acT _ (oP.extBut b o i9 (oO.extBut b o i9 (oN.extBut b o JA hb)))
 have VS:h₄.IsListIter it l (i+1):=by rw[<- qP];obtain⟨o,ho,r⟩:=(JQ.extBut oO.extBut (adP bg)).extBut oP.extBut (adP bg);exact⟨o,acT _ ho,r⟩
 show adg _ _ (aeb (.ref e) >>= _) _ _ ⟨h₄,g,d,tk+1,os⟩;rw[hsz];clear qP ur oP uq oO um oN JQ hsz h₃ h₂ h₁;have VT:h₄.get? a=some oa:=JR a oa VO VP ha;refine acR ?_;unfold aeb;refine acR (ae0 qO rfl (x:=agf a) rfl ?_);show adg _ _ (loadIfAlive ((a:Int).toNat) >>= _) _ _ _;rw[adU];refine acR (PySem.W.kdx_alive VT ?_);simp only[Option.isNone_some,adk,if_false];refine acR (ae0 qO rfl (x:=.bool f) rfl ?_);have fin:∀ h₅:aeA,jB h₅ e it ((i:Int)+1) old a true->Heap.SameBut e h₄ h₅->Q (some (.ref hp.objs.size)) ⟨h₅,g,d,tk+1,os⟩:=λh₅ qQ lN =>
  hQ h₅ qQ (VS.extBut lN.extBut (adP bg)) (lN.extBut _ _ (aec qI) VQ) (by show h₅.objs.size=hp.objs.size+1;rw[lN.1,VR]) λb o qR yT q=>lN.extBut b o qR (JR b o qR yT q)
 cases f with
 | true =>
  rw[if_neg (show ¬ ((afo true != afo true)=true) from adu)];refine acX ?_;simp only[adk,if_false];exact acX ⟨_,rfl,acX (fin h₄ qO (Heap.SameBut.refl _ _))⟩
 | false =>
  rw[if_pos (show (afo false != afo true)=true from rfl)];refine acR (aeU qO (by simp) λh₅ qQ lN=>?_);replace lN:Heap.SameBut e h₄ h₅:=lN;replace qQ:jB h₅ e it ((i:Int)+1) old a true:=qQ;refine acX ?_;simp only[adk,if_false];exact acX ⟨_,rfl,acX (fin h₅ qQ lN)⟩
theorem VU{e it l a:ac6}{f:Bool}{i:Nat}{items:Array acY}{old:acY}{Q:Option acY->acZ->Prop}(hh:A.handled=none)
 (he:jB s.heap e it i old a f) (hit:s.heap.IsListIter it l i) (hl:s.heap.IsList l items) (hx:items[i]?=none)
 (hQ:∀ h',akX it s.heap h'->Q none { s with heap:=h' }):adg (model prog w) A (ae7 (.ref e)) Q E s:=by
 have hT:s.TypeIs (.ref e) "enumerate" := ⟨_,he,rfl⟩;unfold ae7;refine acR (afw (aei (name:=aeQ "__next__") hT afm
  (aee afm hT ahq ?_ (ahn _))))
 show adg _ _ (field (.ref e) 2 >>= _) _ _ _;refine acR (ae0 he rfl (x:=.ref it) rfl ?_);refine acR (ajb hh hit hl hx λh' x oz dA=>?_);obtain⟨o,ho,hc⟩:=dA;refine acR (afT (T := "StopIteration") (b:=true) ⟨o,ho,hc⟩ ahS ?_);exact acX (hQ _ oz)
noncomputable def nh(h:aeA)(e it S:ac6)(i:Nat):Prop :=
 (∃ old,IsEnum h e it i old) ∨ ∃ old a f oa,jB h e it i old a f/\h.get? a=some oa/\a≠e/\a≠it/\a≠S
theorem nh.keep{h h':aeA}{e it S:ac6}{i:Nat}(x:nh h e it S i)(hk:∀ b o,b≠S->h.get? b=some o->h'.get? b=some o)(hI:e≠S):nh h' e it S i:=by
 rcases x with ⟨old,q⟩|⟨old,a,f,oa,q,ha,h1,h2,h3⟩
 .exact .inl ⟨old,hk _ _ hI q⟩
 .exact .inr ⟨old,a,f,oa,hk _ _ hI q,hk _ _ h3 ha,h1,h2,h3⟩
theorem VV{e it l S:ac6}{i:Nat}{items:Array acY}{x:acY}{Q:Option acY->acZ->Prop}(st:nh s.heap e it S i)(hS:S<s.heap.objs.size)
 (hit:s.heap.IsListIter it l i) (hl:s.heap.IsList l items) (hx:items[i]?=some x) (bg:e≠it)
 (hQ:∀ h',nh h' e it S (i+1)->h'.IsListIter it l (i+1) ->
   h'.get? s.heap.objs.size=some { cls:=.type "tuple",data:=.seq #[.int i s.toks,x] }->h'.objs.size=s.heap.objs.size+1 ->
   (∀ b o,b≠e->b≠it->s.heap.get? b=some o->h'.get? b=some o)->Q (some (.ref s.heap.objs.size)) { s with heap:=h',toks:=s.toks+1 }) :
 adg (model prog w) A (ae7 (.ref e)) Q E s:=by
 have ce:((i:Int)+1)=((i+1:Nat):Int):=by lia
 have hi:it<s.heap.objs.size:=let ⟨_,q,_⟩:=hit;ac0 q;rcases st with ⟨old,he⟩|⟨old,a,f,oa,he,ha,h1,h2,h3⟩
 .exact aiG he hit hl hx bg λh' q1 q2 q3 q4 q5=>hQ h' (.inr ⟨x,_,false,_,by rw[<- ce];exact q1,q3,aec (ac0 he),aec hi,aec hS⟩) q2 q3 q4 q5
 .exact VN he ha h1 h2 hit hl hx bg λh' q1 q2 q3 q4 q5=>hQ h' (.inr ⟨old,a,true,oa,by rw[<- ce];exact q1,q5 a oa h1 h2 ha,h1,h2,h3⟩) q2 q3 q4 q5
theorem VW{e it l S:ac6}{i:Nat}{items:Array acY}{Q:Option acY->acZ->Prop}(hh:A.handled=none)(st:nh s.heap e it S i)(hit:s.heap.IsListIter it l i)(hl:s.heap.IsList l items)(hx:items[i]?=none)
 (hQ:∀ h',akX it s.heap h'->Q none { s with heap:=h' }):adg (model prog w) A (ae7 (.ref e)) Q E s:=by
 rcases st with ⟨old,he⟩|⟨old,a,f,oa,he,_⟩
 .exact ai4 hh he hit hl hx hQ
 .exact VU hh he hit hl hx hQ
end
structure ku(items:Array acY)(lo:ac6)(h:aeA)(as:List ac6):Prop where
 rise:as.Pairwise (· < ·)
 above:∀ a∈as,lo<=a
 pairs:∀ (j:Nat) (a:ac6),as[j]?=some a->∃ t x,items[j]?=some x/\h.get? a=some { cls:=.type "tuple",data:=.seq #[.int j t,x] }
theorem ku.there{items:Array acY}{lo:ac6}{h:aeA}{as:List ac6}(g:ku items lo h as){a:ac6}(ha:a∈as):a<h.objs.size:=by obtain⟨j,hj⟩:=aeG.mp ha;obtain⟨_,_,_,e⟩:=g.pairs j a hj;exact ac0 e
theorem ku.keep{items:Array acY}{lo:ac6}{h h':aeA}{as:List ac6}(g:ku items lo h as)(k:∀ b o,lo<=b->h.get? b=some o->h'.get? b=some o):ku items lo h' as :=
 ⟨g.rise,g.above,λj a hj=>let ⟨t,x,e1,e2⟩:=g.pairs j a hj;⟨t,x,e1,k a _ (g.above a (adl hj)) e2⟩⟩
section
variable{prog:ado}{w:adM}{A:adQ}{s:acZ}{R:ahG->acZ->Prop}{items:Array acY}
theorem VX{S e it l lo:ac6}(hh:A.handled=none)(bg:e≠it)(oQ:S≠e)(oR:S≠it)(uu:l≠S)(hle:l≠e)(oH:l≠it)(JS:S<lo)(VY:e<lo)(JT:it<lo)(hn:items.size<=adz)(res:acY){h₁:aeA}
 (hR:∀ h' tk acc c as,(∀ b o,b≠S->b≠e->b≠it->h₁.get? b=some o->h'.get? b=some o)->h'.get? S=some { cls:=.type "list",dict:=none,data:=.seq acc c,slots:=#[] }->as.length=items.size->ku items lo h' as ->
   acc.toList=as.map adI->R (.ok (.ret res)) { s with heap:=h',toks:=tk }) :
 ∀ (k i:Nat) (h:aeA) (tk c:Nat) (acc:Array acY) (as:List ac6),items.size-i=k->i<=items.size->nh h e it S i->h.IsListIter it l i->h.IsList l items->(∀ b o,b≠S->b≠e->b≠it->h₁.get? b=some o->h.get? b=some o) ->
  h.get? S=some { cls:=.type "list",dict:=none,data:=.seq acc c,slots:=#[] }->acc.toList=as.map adI->as.length=i->ku items lo h as->lo<=h.objs.size ->
  afG (model prog w) A (.builtin "list.extend.loop" ⟨[.ref S,.ref e,res],[]⟩) R { s with heap:=h,toks:=tk }:=by
 intro k
 induction k with
 | zero =>
  intro i h tk c acc as hk hi bC hit hl yU hS fZ lO hG hz;have cG:i=items.size:=by lia
  refine adV ahY ?_;rw[adE afC _];show adg _ A.in1 (ae7 (.ref e) >>= _) _ _ _;refine acR (VW (s:={ s with heap:=h,toks:=tk }) (A:=A.in1) hh bC hit hl (afW (by lia)) λh' he=>?_);exact acX (hR h' tk acc c as (λb o h1 h2 h3 q=>he b o h3 (yU b o h1 h2 h3 q)) (he S _ oR hS) (by lia) (hG.keep λb o hb q=>he b o (aec (adn JT hb)) q) fZ)
 | succ k ih =>
  intro i h tk c acc as hk hi bC hit hl yU hS fZ lO hG hz;have aZ:i<items.size:=by lia
  refine adV ahY ?_;rw[adE afC _];show adg _ A.in1 (ae7 (.ref e) >>= _) _ _ _;refine acR (VV (s:={ s with heap:=h,toks:=tk }) (A:=A.in1) bC (ac0 hS) hit hl (adR aZ) bg λh' b5 j6 hT hsz dB=>?_);have ko:=dB S _ oQ oR hS;have JU:acc.size=i:=by
   have:acc.toList.length=i:=by rw[fZ,acV,lO]
   simpa using this
  show adg _ A.in1 (agk S (·.push (.ref h.objs.size)) >>= _) _ _ _;refine acR ?_;have JV:lo<=h.objs.size:=hz;have sb:∀ b o,b≠S->h'.get? b=some o->(h'.update S (adF (·.push (.ref h.objs.size)))).get? b=some o:=λb o hb q=>(ac2 _ _ (adP hb)).trans q;refine aej ko rfl (acX ⟨aep afC _,ih (i+1) _ (tk+1) _ (acc.push (.ref h.objs.size)) (as++[h.objs.size]) (by lia) aZ
   (b5.keep sb (adP oQ)) (j6.at λo q=>sb it o (adP oR) q) ((hl.at λo q=>dB l o hle oH q).at λo q=>sb l o uu q)
   (λb o h1 h2 h3 q=>sb b o h1 (dB b o h2 h3 (yU b o h1 h2 h3 q))) (adG _ ko rfl) (by rw[akc,fZ];simp) (by rw[adj,lO];rfl) ?_ ?_⟩)
   (by rw[JU];lia) (by show (acc.push _).size<=adz+1;rw[akR,JU];lia)
  .have up:∀ b o,lo<=b->h.get? b=some o->(h'.update S (adF (·.push (.ref h.objs.size)))).get? b=some o:=λb o hb q =>
    sb b o (aec (adn JS hb)) (dB b o (aec (adn VY hb)) (aec (adn JT hb)) q)
   have G':=hG.keep up;refine⟨?_,?_,?_⟩
   .refine agh.mpr ⟨hG.rise,List.pairwise_singleton _ _,λa ha b hb=>?_⟩;rw[ady.mp hb];exact hG.there ha
   .intro a ha;rcases adm.mp ha with ha|ha
    .exact hG.above a ha
    .rw[ady.mp ha];exact JV
   .intro j a hj;by_cases hjl:j<as.length
    .rw[ad5 hjl] at hj;exact G'.pairs j a hj
    .rw[aem (by lia)] at hj;have VZ:j-as.length=0:=by
      rcases Nat.eq_zero_or_pos (j-as.length) with z|z
      .exact z
      .rw[ael (by rw[adh];exact z)] at hj;cases hj
     rw[VZ] at hj;cases hj;obtain rfl:j=i:=by lia
     exact⟨_,_,adR aZ,sb _ _ (aec (adn JS JV)) hT⟩
  .rw[(aeF ..).1];show lo<=h'.objs.size;rw[hsz];exact aj9 hz
end
theorem V0:aj3 (.type "enumerate") "__len__" = pure none:=by rw[ahA,af4];kernel_rfl
theorem V1:aj3 (.type "enumerate") "__length_hint__" = pure none:=by rw[ahA,af4];kernel_rfl
section
variable{prog:ado}{w:adM}{A:adQ}{E:acY->acZ->Prop}{s:acZ}{e it l:ac6}{items:Array acY}
theorem V2{R:ahG->acZ->Prop}(hh:A.handled=none)(old:acY)(he:IsEnum s.heap e it 0 old)(hit:s.heap.IsListIter it l 0)(hl:s.heap.IsList l items)(bg:e≠it)(hle:l≠e)(oH:l≠it)(S:ac6)(oQ:S≠e)(oR:S≠it)(uu:l≠S)(res:acY)(c:Nat)
 (hS:s.heap.get? S=some { cls:=.type "list",data:=.seq #[] c }) (hn:items.size<=adz)
 (hR:∀ g tk acc c' as,(∀ b o,b≠S->b≠e->b≠it->s.heap.get? b=some o->g.get? b=some o)->g.get? S=some { cls:=.type "list",dict:=none,data:=.seq acc c',slots:=#[] }->as.length=items.size->ku items s.heap.objs.size g as ->
   acc.toList=as.map adI->R (.ok (.ret res)) { s with heap:=g,toks:=tk }) :
 adg (model prog w) A.in1 (afj (.ref S) (.ref e) res)
  (λf u=>match f with|.done f=>R (.ok f) u|.again k=>k.quiet=true/\afG (model prog w) A k R u) (λe u=>R (.error e) u) s:=by
 have h1:aia (.ref S) (.ref e)=false:=by simp[aia,oQ]
 have hT:s.TypeIs (.ref e) "enumerate" := ⟨_,he,rfl⟩;unfold afj;refine acR (wpAny_typeOf hT ?_);rw[if_neg (by rw[h1];decide)];refine acR (ah7 he ?_);refine acR (adZ ?_);unfold af5;refine acR (ahz hT V0 ?_);show adg _ A.in1 (specialOf (adI e) (aeQ "__length_hint__") >>= _) _ _ _;refine acR (ahz hT V1 ?_);refine acX ?_;show adg _ A.in1 (rule "list.extend.makes-room" >>= λ_=>alv (.ref S) >>= λ_=>again (.builtin "list.extend.loop" ⟨[.ref S,.ref e,res],[]⟩)) _ _ _;refine acR (agD ?_);refine acR ?_;show adg _ A.in1 (agk S (·.push .none) >>= λ_=>agk S (·.pop)) _ _ _;refine acR (aej hS rfl ?_);have JW:=adG (adF (·.push Value.none)) hS rfl;refine aej JW rfl ?_;have V3:=adG (adF (·.pop)) JW rfl;have kx:∀ b o,b≠S->s.heap.get? b=some o->((s.heap.update S (adF (·.push Value.none))).update S (adF (·.pop))).get? b=some o :=
  λb o hb e=>(ac2 _ _ (adP hb)).trans ((ac2 _ _ (adP hb)).trans e)
 have sz:((s.heap.update S (adF (·.push Value.none))).update S (adF (·.pop))).objs.size=s.heap.objs.size:=by rw[(aeF ..).1,(aeF ..).1]
 refine acX ⟨aep afC _,VX (s:=s) (l:=l) (it:=it) (lo:=s.heap.objs.size) (items:=items) (h₁:=s.heap) hh bg oQ oR uu hle oH (ac0 hS) (ac0 he) (let ⟨_,q,_⟩:=hit;ac0 q) hn res hR
  items.size 0 _ s.toks _ #[] [] rfl (adw _) (.inl ⟨old,kx _ _ (adP oQ) he⟩) (hit.at λo q=>kx it o (adP oR) q) (hl.at λo q=>kx l o uu q) (λb o h1 _ _ q=>kx b o h1 q) V3 rfl rfl ⟨.nil,(λ_ h=>nomatch h),λj a h=>by cases h⟩ (by rw[sz];exact ac8 _)⟩
theorem V4{Q:acY->acZ->Prop}(hh:A.handled=none)(old:acY)(he:IsEnum s.heap e it 0 old)(hit:s.heap.IsListIter it l 0)(hl:s.heap.IsList l items)(bg:e≠it)(hle:l≠e)(oH:l≠it)(hn:items.size<=adz)
 (hQ:∀ g tk acc c as,(∀ b o,b≠e->b≠it->s.heap.get? b=some o->g.get? b=some o)->g.get? s.heap.objs.size=some { cls:=.type "list",dict:=none,data:=.seq acc c,slots:=#[] }->as.length=items.size->ku items (s.heap.objs.size+1) g as ->
   acc.toList=as.map adI->Q (.ref s.heap.objs.size) { s with heap:=g,toks:=tk }) :
 adg (model prog w) A (call (.type "list") [.ref e]) Q E s:=by
 have le:e<s.heap.objs.size:=ac0 he;have li:it<s.heap.objs.size:=let ⟨_,q,_⟩:=hit;ac0 q;have ll:l<s.heap.objs.size:=let ⟨_,q,_⟩:=hl;ac0 q;refine callType_codes (Q₁:=λy s₁=>y = .ref s.heap.objs.size/\s₁ = { s with heap:=s.heap.push { cls:=.type "list",data:=.seq #[] } }) PySem.F.called_list (PySem.F.typeCall_list_1 _) PySem.F.entry_list_init (code_list_new _ ⟨rfl,rfl⟩) λy s₁ h₁=>?_;obtain⟨rfl,rfl⟩:=h₁;have e0:(s.heap.push { cls:=.type "list",data:=.seq #[] }).get? s.heap.objs.size=some { cls:=.type "list",data:=.seq #[] }:=ac3 _ rfl;refine⟨⟨_,e0,rfl⟩,PySem.F.args_list_init_2 _ _,?_⟩;show adg _ A.in1.in1 (do let z <- aiK (.ref s.heap.objs.size);alu (.ref s.heap.objs.size) (λ_=>#[]);letGo z.toList.reverse;afj (.ref s.heap.objs.size) (.ref e) .none) _ _ _;refine acR ?_;unfold aiK;refine acR (ad6 e0 rfl (acX ?_));refine acR (m:=agk s.heap.objs.size (λ_=>#[])) (aej e0 rfl ?_);have e1:=adG (adF (λ_=>(#[]:Array acY))) e0 rfl;have kx:∀ b o,b≠s.heap.objs.size->s.heap.get? b=some o->((s.heap.push { cls:=.type "list",data:=.seq #[] }).update s.heap.objs.size (adF (λ_=>(#[]:Array acY)))).get? b=some o :=
  λb o hb e=>(ac2 _ _ (adP hb)).trans (acT _ e)
 have sz:((s.heap.push { cls:=.type "list",data:=.seq #[] }).update s.heap.objs.size (adF (λ_=>(#[]:Array acY)))).objs.size=s.heap.objs.size+1:=by rw[(aeF ..).1,size_push']
 refine acR (aeD ?_);exact V2 (A:=A.in1) hh old (kx e _ (adp le) he) (hit.at λo q=>kx it o (adp li) q) (hl.at λo q=>kx l o (adp ll) q) bg hle oH s.heap.objs.size (aec le) (aec li) (adp ll) .none _ e1 hn
  λg tk acc c as hk hS lO hG fZ=>⟨rfl,hQ g tk acc c as (λb o h1 h2 q=>hk b o (adp (ac0 q)) h1 h2 (kx b o (adp (ac0 q)) q)) hS lO (by rw[<- sz];exact hG) fZ⟩
variable{X:Cx}{pins:List (ac6 × Obj)}{σ:L2.St}{H:Hp}{s:acZ}
theorem Inv.JX{T:ac6}{o:HO}(I:Inv X pins σ H s)(hf:cw X pins H T)(new:bG X.prog X.w (upd H T o) s.heap T o):Inv X pins σ (upd H T o) s:=by
 have cn:∀ b u,H b=some u->b≠T:=λb u e=>iy e hf.1;have up:∀ b u,H b=some u->upd H T o b=some u:=λb u e=>by rw[aB (cn b u e)];exact e
 refine I.step (g':=s.gens) (t':=s.toks) (d':=s.drawn) (h':=s.heap) (ch:=[T]) (λb hb=>?_) (λb o _ _ hc e _=>e) (λb o _ _ hc e _=>⟨o.slots,e⟩) (λb u hc e n=>by rw[aB (by simpa using hc)];exact n)
  (λb o hc e=>⟨o,e⟩) (λb xs e=>up b _ e) (λb _ _ e=>up b _ e) (λb ps e=>⟨#[],by rw[up b _ e];simp⟩) (λm hm=>hm) (λb u e=>?_) I.bare
 .obtain rfl:b=T:=by simpa using hb
  obtain⟨_,d1,d2,d3,d4,d5⟩:=hf;exact⟨d3,d1,d4,d5⟩
 .by_cases hb:b=T
  .subst hb;rw[ar] at e;cases e;exact new
  .rw[aB hb] at e;exact (I.aj b u e).fq (λc v hc q=>q) (λc q=>up c _ q) λc xs q=>up c _ q
theorem V5{T b:ac6}{o:HO}(h:cw X pins H b)(hb:b≠T):cw X pins (upd H T o) b:=⟨by rw[aB hb];exact h.1,h.2⟩
theorem JY:∀ (as:List ac6) (xs:List V) (us:List acY) (i:Nat) (H:Hp),Inv X pins σ H s->Vals xs us->as.length=xs.length->as.Pairwise (· < ·)->(∀ a∈as,cw X pins H a) ->
 (∀ j a u,as[j]?=some a->us[j]?=some u->∃ t,s.heap.get? a=some { cls:=.type "tuple",data:=.seq #[.int ((i+j:Nat):Int) t,u] }) ->
 ∃ H',ak H H'/\Inv X pins σ H' s/\(∀ b,b∉as->H' b=H b)/\∀ j a x,as[j]?=some a->xs[j]?=some x->H' a=some (.tup [.int ((i+j:Nat):Int),x])
 | [],[],us,i,H,I,r,hl,hp,hf,ht=>⟨H,λ_ _ e=>e,I,λ_ _=>rfl,λj a x h=>by cases h⟩
 | [],_::_,us,i,H,I,r,hl,hp,hf,ht=>by cases hl
 | _::_,[],us,i,H,I,r,hl,hp,hf,ht=>by cases hl
 | a::as,x::xs,us,i,H,I,r,hl,hp,hf,ht=>by
  cases us with
  | nil=>cases r
  | cons u us =>
  cases r with
  | cons r rs =>
  obtain⟨aZ,bV⟩:=ae4.mp hp;have na:∀ b∈as,b≠a:=λb hb=>aec (aZ b hb);obtain⟨t,h0⟩:=ht 0 a u rfl rfl;have I1:=Inv.JX (o:=.tup [.int ((i+0:Nat):Int),x]) I (hf a (.head _)) ⟨xB,[.int ((i+0:Nat):Int) t,u],.cons ⟨_,rfl⟩ (.cons r .nil),⟨_,h0,rfl,_,rfl⟩⟩;obtain⟨H',s1,I2,k1,k2⟩:=JY as xs us (i+1) _ I1 rs (by simpa using hl) bV (λb hb=>V5 (hf b (.tail _ hb)) (na b hb)) λj b v e1 e2=>by obtain⟨t',q⟩:=ht (j+1) b v e1 e2;exact⟨t',by rw[show i+1+j=i+(j+1) by lia];exact q⟩
  refine⟨H',λb v e=>s1 b v (by rw[aB (iy e (hf a (.head _)).1)];exact e),I2,λb hb=>?_,λj b y e1 e2=>?_⟩
  .rw[k1 b (λz=>hb (.tail _ z)),aB (λz=>hb (by rw[z];exact .head _))]
  .cases j with
   | zero =>
    cases e1;cases e2;rw[k1 a (λz=>na a z rfl),ar]
   | succ j =>
    have:=k2 j b y e1 e2;rw[show i+1+j=i+(j+1) by lia] at this;exact this
end
theorem JZ:∀ as:List ac6,Vals (as.map V.ref) (as.map adI)
 | []=>.nil
 | _::as=>.cons rfl (JZ as)
noncomputable def J0(K:acS)(ta:TA):TE:=λσ H Q=>ta σ H λvs H1=>∃ a xs,vs=[.ref a]/\ah K H1 a xs/\∀ l ys H',ak H1 H'->H1 l=none->H' l=some (.lst ys)->ys.length=xs.length ->
 (∀ j y x,ys[j]?=some y->xs[j]?=some x->∃ p,y = .ref p/\H1 p=none/\H' p=some (.tup [.int (j:Nat),x]))->Q (.ref l) H'
theorem V6{X:Cx}{e:aeY}{ta:TA}{p p2 pos i5:Pos}(hc:X.calm=true)(hg:Gl X "list")(hm:X.mg "list" = none)(qL:Gl X "enumerate")(oI:X.mg "enumerate" = none)(ha:PA X [e] ta)
 (hs:adC [.Call (.Name "enumerate" p2) [e] [] i5] X.env=[(false,eval (.Call (.Name "enumerate" p2) [e] [] i5) X.env)]:=by rfl) (dw:adC [e] X.env=[(false,eval e X.env)]:=by rfl) :
 PE X (.Call (.Name "list" p) [.Call (.Name "enumerate" p2) [e] [] i5] [] pos) (J0 X.K ta):=by
 intro pins s σ H Q I h;refine alO (eQ I hg hm kU (adT ?_ hs rfl));rw[hs];show adg _ _ (spliced ((false,eval (.Call (.Name "enumerate" p2) [e] [] i5) X.env)::afE pos [])) _ _ s;refine agF (alO (eQ I qL oI Gk (adT (aA (ha i5 pins s σ H _ I h) λus s1 ⟨vs,H1,I1,r1,q1⟩=>?_) dw rfl)));obtain⟨a,xs,rfl,hq,q⟩:=q1;obtain⟨u,rfl,ru⟩:=vals1 r1;cases ru;obtain⟨af,rv,pl,hz⟩:=I1.list hq;refine ajD pl.isList λh' he hit hsz hk=>?_;refine agR ?_;have la:a<s1.heap.objs.size:=let ⟨_,e,_⟩:=pl.isList;ac0 e;refine V4 (s:={ s1 with heap:=h' }) (l:=a) (items:=af.toArray) (I1.ok.hd hc) .none he hit (pl.isList.at λo e=>hk a o e) (akx _) (adp (age la)) (adp la) (by rw[ada,<- rv.length];exact hz) λg tk acc c as dF hD lO hG fZ=>?_;have up:∀ b o,s1.heap.get? b=some o->g.get? b=some o:=λb o e=>dF b o (adp (age (ac0 e))) (adp (ac0 e)) (hk b o e);have I2:Inv X pins σ H1 { s1 with heap:=g,toks:=tk }:=I1.kept (t':=tk) up;have yV:∀ b∈as,s1.heap.objs.size<=b:=λb hb=>by have:=hG.above b hb;have e:({ s1 with heap:=h' }:acZ).heap.objs.size=s1.heap.objs.size+2:=hsz;walk_at "om"
 obtain⟨H',s2,I3,k1,k2⟩:=JY as xs af 0 H1 I2 rv (by rw[lO,ada];exact rv.length.symm) hG.rise (λb hb=>I1.d9 (yV b hb) (I1.aj.fresh (yV b hb))) λj b v e1 e2=>by
  obtain⟨t,x,e3,e4⟩:=hG.pairs j b e1;have:x=v:=by simpa [e2] using e3.symm
  subst this;exact⟨t,by rw[alK];exact e4⟩
 have hl:s1.heap.objs.size<=h'.objs.size:=by rw[hsz];exact Nat.le_add_right _ _
 have nl:h'.objs.size∉as:=λz=>absurd (hG.above _ z) (Nat.not_succ_le_self _);have f0:=I1.aj.fresh hl;have J1:as.length=xs.length:=by rw[lO,ada];exact rv.length.symm
 refine⟨.ref h'.objs.size,upd H' h'.objs.size (.lst (as.map V.ref)),Inv.JX I3 (I1.d9 hl (by rw[k1 _ nl];exact f0)) ⟨by rw[acV,J1];exact hz,acc.toList,c,?_,by rw[ajt];exact hD⟩,rfl,q _ (as.map V.ref) _ (λb v e=>?_) f0 (ar ..) (by rw[acV,J1]) λj y x e1 e2=>?_⟩
 .rw[fZ];exact JZ as
 .rw[aB (iy e f0)];exact s2 b v e
 .rw[adi] at e1;obtain⟨b,hb,rfl⟩:=adO.mp e1;have hm:=adl hb;refine⟨b,rfl,I1.aj.fresh (yV b hm),?_⟩;rw[aB (λz=>nl (by rw[<- z];exact hm))];have:=k2 j b x hb e2;rw[alK] at this;exact this
noncomputable def lP:L2.St->Nat->(V->Prop)->Prop
 | [],_,_=>False
 | x::_,0,Q=>match x with|some v=>Q v|none=>False
 | _::σ,n+1,Q=>lP σ n Q
noncomputable def b0(x:V)(Q:Int->Prop):Prop:=match x with|.int i=>Q i|_=>False
noncomputable def ni(x:V)(Q:Bool->Prop):Prop:=match x with|.bl i=>Q i|_=>False
noncomputable def qS(x:V)(Q:ac6->Prop):Prop:=match x with|.ref i=>Q i|_=>False
noncomputable def V7(xs:List V)(Q:V->Prop):Prop:=match xs with|[x]=>Q x|_=>False
noncomputable def V8(xs:List V)(Q:V->V->Prop):Prop:=match xs with|[x,y]=>Q x y|_=>False
noncomputable def lQ(x:V)(Q:Bool->Prop):Prop:=match x with|.non=>Q true|_=>Q false
noncomputable def jC(x:V)(Q:Bool->Prop):Prop:=match x with|.non=>Q false|_=>Q true
section
variable{v:V}{o:Option V}{σ:L2.St}{n:Nat}{Q:V->Prop}{i:Int}{b:Bool}{a:ac6}{QI:Int->Prop}{QB:Bool->Prop}{QR:ac6->Prop}{x y:V}{Q2:V->V->Prop}
theorem V9:lP (some v::σ) 0 Q=Q v:=rfl
theorem Wa:lP (o::σ) (n+1) Q=lP σ n Q:=rfl
theorem Wb:b0 (.int i) QI=QI i:=rfl
theorem Wc:ni (.bl b) QB=QB b:=rfl
theorem We:qS (.ref a) QR=QR a:=rfl
theorem Wf:V7 [x] Q=Q x:=rfl
theorem Wg:V8 [x,y] Q2=Q2 x y:=rfl
theorem Wh:lQ .non QB=QB true:=rfl
theorem Wi:lQ (.int i) QB=QB false:=rfl
theorem Wj:lQ (.bl b) QB=QB false:=rfl
theorem Wk:lQ (.ref a) QB=QB false:=rfl
theorem Wl:jC .non QB=QB false:=rfl
theorem Wm:jC (.int i) QB=QB true:=rfl
theorem Wn:jC (.bl b) QB=QB true:=rfl
theorem Wo:jC (.ref a) QB=QB true:=rfl
theorem Wq{s:Str}:jC (.str s) QB=QB true:=rfl
theorem Wr{s:Str}:lQ (.str s) QB=QB false:=rfl
theorem lP.ex:∀ {σ:L2.St} {n:Nat},lP σ n Q->∃ v,σ[n]?=some (some v)/\Q v
 | [],_,h=>h.elim
 | some v::_,0,h=>⟨v,rfl,h⟩
 | none::_,0,h=>h.elim
 | _::σ,n+1,h=>lP.ex (σ:=σ) (n:=n) h
theorem b0.ex(h:b0 x QI):∃ i,x = .int i/\QI i:=by cases x<;>first|exact⟨_,rfl,h⟩|exact h.elim
theorem ni.ex(h:ni x QB):∃ i,x = .bl i/\QB i:=by cases x<;>first|exact⟨_,rfl,h⟩|exact h.elim
theorem qS.ex(h:qS x QR):∃ i,x = .ref i/\QR i:=by cases x<;>first|exact⟨_,rfl,h⟩|exact h.elim
theorem jC.ex(h:jC x QB):QB (!decide (x = .non)):=by cases x<;>exact h
theorem lQ.ex(h:lQ x QB):QB (decide (x = .non)):=by cases x<;>exact h
variable{X:Cx}{e a b c:aeY}{pos:Pos}{ta tb tc:TE}{op iG:ali}
theorem J5{x:V}{Q:Bool->Prop}(h:Q (qq x)):jC x Q:=by cases x<;>exact h
theorem uv{c:Prop}[Decidable c]{Q:Bool->Prop}(h:Q (decide c)):if c then Q true else Q false:=by
 by_cases z:c
 .rw[decide_eq_true z] at h;exact (show _=_ from if_pos z).mpr h
 .rw[decide_eq_false z] at h;exact (show _=_ from if_neg z).mpr h
noncomputable def Ws(t:TE):TE:=λσ H Q=>∃ Q':VK,(∀ v H1,Q' v H1->Q v H1)/\t σ H Q'
theorem dY(h:PE X e ta):PE X e (Ws ta):=λpins s σ H Q I ⟨Q',k,q⟩=>aA (h pins s σ H Q' I q) λ_ _ ⟨x,H1,I1,r1,q1⟩=>⟨x,H1,I1,r1,k _ _ q1⟩
theorem qT{t':TE}(h:PE X e ta)(k:∀ σ H Q,t' σ H Q->ta σ H Q):PE X e t':=λpins s σ H Q I q=>h pins s σ H Q I (k σ H Q q)
theorem nj{t t':TT}(h:PT X e t)(k:∀ σ H Q,t' σ H Q->t σ H Q):PT X e t':=λpins s σ H Q I q=>h pins s σ H Q I (k σ H Q q)
theorem yW{f:acY->acY->Sem acY}{r r':R2}(h:bp X f r)(k:∀ x y H Q,r' x y H Q->r x y H Q):bp X f r':=λpins s σ H x y v u Q I rx ry q=>h pins s σ H x y v u Q I rx ry (k _ _ _ _ q)
noncomputable def J6(i:Nat):TE:=λσ H Q=>lP σ i λv=>Q v H
theorem aa(i:Nat){x:Str}{pos:Pos}(hN:X.N[i]?=some x:=by rfl)(hv:se X.env.scope x:=by first|exact adv rfl|exact aiV (adv rfl)|exact aiV (aiV rfl))(hd:(x == ("__debug__" : Str))=false:=by decide)
 (fO:(x == ("__classdict__" : Str))=false:=by decide):PE X (.Name x pos) (J6 i):=qT (pv i hN hv hd fO) λ_ _ _ h=>h.ex
noncomputable def qU(C:Int->Int->Prop)(g:Int->Int->V):R2:=λx y H Q=>b0 x λi=>b0 y λj=>C i j/\Q (g i j) H
noncomputable def uw(g:Int->Int->V):R2:=λx y H Q=>b0 x λi=>b0 y λj=>Q (g i j) H
noncomputable def yX(g:Int->V):V->Hp->VK->Prop:=λx H Q=>b0 x λi=>Q (g i) H
noncomputable def yY(p:Int->Int->Prop)[∀ i j,Decidable (p i j)]:R2:=λx y H Q=>b0 x λi=>b0 y λj=>if p i j then Q (.bl true) H else Q (.bl false) H
theorem yZ{f:acY->acY->Sem acY}{C:Int->Int->Prop}{g:Int->Int->V}(h:bp X f (rI C g)):bp X f (qU C g):=yW h λx y H Q q=>by obtain⟨i,rfl,q1⟩:=b0.ex q;obtain⟨j,rfl,q5⟩:=b0.ex q1;exact⟨i,j,rfl,rfl,q5⟩
theorem lR{f:acY->acY->Sem acY}{g:Int->Int->V}(h:bp X f (gx g)):bp X f (uw g):=yW h λx y H Q q=>by obtain⟨i,rfl,q1⟩:=b0.ex q;obtain⟨j,rfl,q5⟩:=b0.ex q1;exact⟨i,j,rfl,rfl,q5⟩
theorem y6{f:acY->acY->Sem acY}{p:Int->Int->Prop}[∀ i j,Decidable (p i j)](h:bp X f (gx λi j=>.bl (decide (p i j)))):bp X f (yY p):=yW h λx y H Q q=>by
 obtain⟨i,rfl,q1⟩:=b0.ex q;obtain⟨j,rfl,q5⟩:=b0.ex q1;clear q q1;refine⟨i,j,rfl,rfl,?_⟩;by_cases z:p i j
 .rw[if_pos z] at q5;show Q (.bl (decide (p i j))) H;rw[decide_eq_true z];exact q5
 .rw[if_neg z] at q5;show Q (.bl (decide (p i j))) H;rw[decide_eq_false z];exact q5
theorem Wt{f:acY->Sem acY}{g:Int->V}(h:nR X f (rU g)):nR X f (yX g):=λpins s σ H x v Q I rx q=>h pins s σ H x v Q I rx q.ex
theorem bb:bp X (ags .Add) (uw λi j=>.int (i+j)):=lR OY
theorem eL:bp X (ags .Sub) (uw λi j=>.int (i-j)):=lR OZ
theorem jD:bp X (ags .Mod) (qU (λ_ j=>0<j) λi j=>.int (i % j)):=yZ O0
theorem ic:bp X (ags .Mult) (qU nW λi j=>.int (i * j)):=yZ Qf
theorem qV:bp X (ags .Mult) (qU j5 λi j=>.int (i * j)):=yZ Sa
theorem gi:nR X (unaryOp .USub) (yX λi=>.int (-i)):=Wt O3
noncomputable def J9(t:TE):TT:=λσ H Q=>t σ H λx H'=>ni x λk=>Q k H'
theorem dq(h:PE X e ta)(he:∀ whole,akF e X.env whole=(do let v <- whole;alj e.pos;holding [v] (truthy v)):=by intro _;rfl):PT X e (J9 ta):=nj (OJ (dY h) he) λσ H Q q=>⟨_,λ_ _ h=>h.ex,q⟩
noncomputable def ux(p:Int->Int->Prop)[∀ i j,Decidable (p i j)](ta tb:TE):TT:=λσ H Q=>ta σ H λx H1=>tb σ H1 λy H2=>b0 x λi=>b0 y λj=>if p i j then Q true H2 else Q false H2
theorem Ka{p:Int->Int->Prop}[∀ i j,Decidable (p i j)]{x y:V}{H:Hp}{Q:Bool->Hp->Prop}(q:b0 x λi=>b0 y λj=>if p i j then Q true H else Q false H):yY p x y H (λz H'=>∃ k,z = .bl k/\Q k H'):=by
 obtain⟨i,rfl,q1⟩:=b0.ex q;obtain⟨j,rfl,q5⟩:=b0.ex q1;clear q q1;by_cases z:p i j
 .rw[if_pos z] at q5;exact (show _=_ from if_pos z).mpr ⟨_,rfl,q5⟩
 .rw[if_neg z] at q5;exact (show _=_ from if_neg z).mpr ⟨_,rfl,q5⟩
theorem Kb{p:Int->Int->Prop}[∀ i j,Decidable (p i j)](ho:bp X (aeO op) (gx λi j=>.bl (decide (p i j))))(ha:PE X a ta)(hb:PE X b tb)(hm:afs op b=false):PT X (.Compare a [op] [b] pos) (ux p ta tb) :=
 nj (gQ (y6 ho) (dY ha) (dY hb) hm) λσ H Q q=>⟨_,λx H1 q1=>⟨_,λy H2 q2=>Ka q2,q1⟩,q⟩
theorem qW(ha:PE X a ta)(hb:PE X b tb):PT X (.Compare a [.Lt] [b] pos) (ux (λi j=>i<j) ta tb):=Kb sy ha hb (fQ _)
theorem lS(ha:PE X a ta)(hb:PE X b tb):PT X (.Compare a [.Gt] [b] pos) (ux (λi j=>j<i) ta tb):=Kb wb ha hb (fQ _)
noncomputable def eqT(x y:V)(Q:Bool->Prop):Prop:=match x with
 | .int i=>(match y with|.int j=>if i=j then Q true else Q false|.non=>Q false|.str _=>Q false|_=>False)
 | .str i=>(match y with|.str j=>if i=j then Q true else Q false|.non=>Q false|.int _=>Q false|_=>False)
 | .bl i=>(match y with|.bl j=>if i=j then Q true else Q false|.non=>Q false|_=>False)
 | .non=>(match y with|.non=>Q true|.int _=>Q false|.bl _=>Q false|.str _=>Q false|_=>False)
 | _=>False
noncomputable def neT(x y:V)(Q:Bool->Prop):Prop:=match x with
 | .int i=>(match y with|.int j=>if ¬ i=j then Q true else Q false|.non=>Q true|.str _=>Q true|_=>False)
 | .str i=>(match y with|.str j=>if ¬ i=j then Q true else Q false|.non=>Q true|.int _=>Q true|_=>False)
 | .bl i=>(match y with|.bl j=>if ¬ i=j then Q true else Q false|.non=>Q true|_=>False)
 | .non=>(match y with|.non=>Q false|.int _=>Q true|.bl _=>Q true|.str _=>Q true|_=>False)
 | _=>False
section
variable{i j:Int}{x y:V}{s t:Str}{b' b1:Bool}{Q:Bool->Prop}
theorem Wu:eqT (.int i) (.int j) Q=if i=j then Q true else Q false:=rfl
theorem Wv:eqT (.str s) (.str t) Q=if s=t then Q true else Q false:=rfl
theorem Ww:eqT (.bl b') (.bl b1) Q=if b'=b1 then Q true else Q false:=rfl
theorem Wx:eqT .non .non Q=Q true:=rfl
theorem Wy:eqT .non (.int j) Q=Q false:=rfl
theorem Wz:eqT (.int i) .non Q=Q false:=rfl
theorem WA:eqT (.int i) (.str s) Q=Q false:=rfl
theorem WB:eqT .non (.str s) Q=Q false:=rfl
theorem WC:neT (.int i) (.int j) Q=if ¬ i=j then Q true else Q false:=rfl
theorem WD:neT (.str s) (.str t) Q=if ¬ s=t then Q true else Q false:=rfl
theorem WE:neT .non .non Q=Q false:=rfl
theorem WG:neT .non (.int j) Q=Q true:=rfl
theorem WH:neT (.int i) .non Q=Q true:=rfl
theorem Kc{c:Prop}[Decidable c]{Q:Bool->Prop}(q:if c then Q true else Q false):Q (decide c):=by
 by_cases z:c
 .rw[if_pos z] at q;rw[decide_eq_true z];exact q
 .rw[if_neg z] at q;rw[decide_eq_false z];exact q
theorem eqT.ex(h:eqT x y Q):jM x y=true/\Q (decide (x=y)):=by
 cases x<;>cases y<;>first
  | exact h.elim
  | exact⟨rfl,h⟩
  | (refine⟨rfl,?_⟩;have:=Kc h;simpa using this)
theorem neT.ex(h:neT x y Q):jM x y=true/\Q (!decide (x=y)):=by
 cases x<;>cases y<;>first
  | exact h.elim
  | exact⟨rfl,h⟩
  | (refine⟨rfl,?_⟩;have:=Kc h;simpa using this)
end
noncomputable def Kd(ta tb:TE):TT:=λσ H Q=>ta σ H λx H1=>tb σ H1 λy H2=>eqT x y λk=>Q k H2
noncomputable def Ke(ta tb:TE):TT:=λσ H Q=>ta σ H λx H1=>tb σ H1 λy H2=>neT x y λk=>Q k H2
theorem cQ(ha:PE X a ta)(hb:PE X b tb):PT X (.Compare a [.Eq] [b] pos) (Kd ta tb) :=
 nj (gQ Fg (dY ha) (dY hb) (fQ _)) λσ H Q q=>⟨_,λx H1 q1=>⟨_,λy H2 q2=>⟨(eqT.ex q2).1,_,rfl,(eqT.ex q2).2⟩,q1⟩,q⟩
theorem oT(ha:PE X a ta)(hb:PE X b tb):PT X (.Compare a [.NotEq] [b] pos) (Ke ta tb) :=
 nj (gQ O4 (dY ha) (dY hb) (fQ _)) λσ H Q q=>⟨_,λx H1 q1=>⟨_,λy H2 q2=>⟨(neT.ex q2).1,_,rfl,(neT.ex q2).2⟩,q1⟩,q⟩
noncomputable def Kf(ta:TE):TT:=λσ H Q=>ta σ H λx H1=>lQ x λk=>Q k H1
noncomputable def Kg(ta:TE):TT:=λσ H Q=>ta σ H λx H1=>jC x λk=>Q k H1
theorem ig{j pos'}(ha:PE X a ta):PT X (.Compare a [.Is] [.Constant .none j pos'] pos) (Kf ta):=nj (EN (EM (dY ha))) λσ H Q q=>⟨_,λx H1 q1=>⟨_,rfl,q1.ex⟩,q⟩
theorem gH{j pos'}(ha:PE X a ta):PT X (.Compare a [.IsNot] [.Constant .none j pos'] pos) (Kg ta):=nj (EN (pP (dY ha))) λσ H Q q=>⟨_,λx H1 q1=>⟨_,rfl,jC.ex q1⟩,q⟩
noncomputable def Kh(p q:Int->Int->Prop)[∀ i j,Decidable (p i j)][∀ i j,Decidable (q i j)](ta tb tc:TE):TT:=λσ H Q=>ta σ H λx H1=>tb σ H1 λy H2=>b0 x λi=>b0 y λj=>if p i j then (tc σ H2 λz H3=>b0 z λk=>if q j k then Q true H3 else Q false H3) else Q false H2
theorem y7{p q:Int->Int->Prop}[∀ i j,Decidable (p i j)][∀ i j,Decidable (q i j)](ho:bp X (aeO op) (gx λi j=>.bl (decide (p i j))))(cR:bp X (aeO iG) (gx λi j=>.bl (decide (q i j))))(ha:PE X a ta)(hb:PE X b tb)(hc:PE X c tc)
 (hm:aly [op,iG] [b,c]=false:=by with_unfolding_all rfl):PT X (.Compare a [op,iG] [b,c] pos) (Kh p q ta tb tc) :=
 nj (O5 (y6 ho) (y6 cR) (dY ha) (dY hb) (dY hc) hm) λσ H Q q=>⟨_,λx H1 q1=>⟨_,λy H2 q2=>by
  obtain⟨i,rfl,q3⟩:=b0.ex q2;obtain⟨j,rfl,q5⟩:=b0.ex q3;clear q2 q3;by_cases z:p i j
  .rw[if_pos z] at q5;exact (show _=_ from if_pos z).mpr ⟨_,rfl,_,λw' H4 q4=>by
    obtain⟨k,rfl,_⟩:=b0.ex q4;exact Ka (x:=.int j) q4,q5⟩
  .rw[if_neg z] at q5;exact (show _=_ from if_neg z).mpr ⟨_,rfl,⟨_,rfl,q5⟩⟩,q1⟩,q⟩
variable{rest:List aeY}
noncomputable def Ki(ta tb:TE):TE:=λσ H Q=>ta σ H λx H1=>ni x λc=>if c=true then tb σ H1 Q else Q (.bl false) H1
noncomputable def Kj(ta tb:TE):TE:=λσ H Q=>ta σ H λx H1=>ni x λc=>if c=true then Q (.bl true) H1 else tb σ H1 Q
noncomputable def Kk(ta:TE):TE:=λσ H Q=>ta σ H λx H1=>ni x λc=>Q (.bl (!c)) H1
theorem i6(ha:PE X a ta)(hb:PE X (.BoolOp .And (b::rest) pos) tb):PE X (.BoolOp .And (a::b::rest) pos) (Ki ta tb):=qT (OL (dY ha) hb) λσ H Q q=>⟨_,λx H1 q1=>q1.ex,q⟩
theorem WI(ha:PE X a ta)(hb:PE X (.BoolOp .Or (b::rest) pos) tb):PE X (.BoolOp .Or (a::b::rest) pos) (Kj ta tb):=qT (OM (dY ha) hb) λσ H Q q=>⟨_,λx H1 q1=>q1.ex,q⟩
theorem uy(ha:PE X a ta):PE X (.UnaryOp .Not a pos) (Kk ta):=qT (ON (dY ha)) λσ H Q q=>⟨_,λx H1 q1=>q1.ex,q⟩
noncomputable def Kl(K:acS)(ta:TE)(f:Str):TE:=λσ H Q=>ta σ H λx H1=>qS x λa=>∃ C dx fs,H1 a=some (.ins C dx fs)/\gy K C/\fR K C f/\∃ v,fs.lookup f=some v/\Q v H1
theorem fh{f:Str}{K:acS}(hK:X.K=K)(he:PE X e ta)(hb:af9 e f X.env (eval e X.env)=eval e X.env):PE X (.Attribute e f pos) (Kl K ta f):=by
 subst hK;exact qT (Pm (dY he) hb) λσ H Q q=>⟨_,λx H1 q1=>by
  obtain⟨a,rfl,C,dx,fs,h1,h2,h3,v,h4,q2⟩:=q1.ex;exact⟨a,C,dx,fs,v,rfl,h1,h2,h3,h4,q2⟩,q⟩
noncomputable def Km(K:acS)(ta tv:TE)(f:Str):TS:=λD σ H=>tv σ H λy H1=>ta σ H1 λx H2=>qS x λa=>∃ C dx fs,H2 a=some (.ins C dx fs)/\gy K C/\fR K C f/\fs.length<1000 /\
 D.nx σ (upd H2 a (.ins C dx (ee f y fs)))
theorem oU{o value:aeY}{f:Str}{pos':Pos}{tv:TE}(ha:PE X o ta)(hv:PE X value tv)(hs:aiP value (some (.Attribute o f pos')) pos.line X.env=pure false):PS X (.Assign [.Attribute o f pos'] value pos) (Km X.K ta tv f):=λpins s σ H D I h =>
 Pn (dY ha) (dY hv) hs pins s σ H D I ⟨_,λy H1 q1=>⟨_,λx H2 q2=>by
  obtain⟨a,rfl,C,dx,fs,h⟩:=q2.ex;exact⟨a,C,dx,fs,rfl,h⟩,q1⟩,h⟩
variable{X:Cx}{K:acS}{a b e:aeY}{es:List aeY}{ta tb:TE}{t:TA}{pos p:Pos}
theorem ay(ha:PE X a ta)(hb:PE X b tb)(hs:wB b:=by exact λ_ _=>rfl):PE X (.Subscript a b pos) (mx (nU X.K) ta tb):=wC wD ha hb hs
theorem cK(ha:PE X a ta)(hb:PE X b tb)(h:X.K=K:=by rfl)(hs:wB b:=by exact λ_ _=>rfl):PE X (.Subscript a b pos) (mx (nU K) ta tb):=wC (Rk h) ha hb hs
end
structure Fn(K:acS)(mg:Str->Option acY)(x:Str)(st:afr)(ps:List Str) where
 a:ac6
 fd:afu
 F:kT K x x st a fd
 m:mg x=some (.ref a)
 b:Binds K fd ps []
structure Fm(K:acS)(x q:Str)(st:afr)(ps:List Str) where
 a:ac6
 fd:afu
 F:kT K x q st a fd
 b:Binds K fd ps []
inductive FA(K:acS)(x q:Str)(st:afr)(f:ac6):Prop
 | mk {od an:Option ac6} {sl:Array (Option acY)} {oc kV dc pm cd ct:acY} (_:K.lookup f=some ⟨oc,od,.func (afv x q (kR st) (jl st) (aL st) .none kV dc pm an cd ct),sl⟩) (_:ag2 K cd q=true) (_:afz K (.ref f)=true)
theorem FA.fn{K:acS}{x q:Str}{st:afr}{f:ac6}(h:FA K x q st f):∃ fd,kT K x q st f fd:=let ⟨l,c,k⟩:=h;⟨_,Gh l c k⟩
section
variable{X:Cx}{e:aeY}{es:List aeY}{t:TA}{pos p:Pos}
theorem aC{CX:el}{k n:Nat}{ps:List Str}{sp:Sp}{x:Str}{st:afr}(N:Fn X.K X.mg x st ps)(F:aJ X.prog X.w X.K X.mg X.base CX k N.a N.fd ps sp)(hr:bO n X.A)(hx:Passes CX X E0)(ha:PA X (e::es) t)
 (hk:k<=n:=by decide) (hg:Gl X x:=by rfl) (iH:(x == ("__debug__" : Str))=false:=by decide) (he:adC (e::es) X.env=(false,eval e X.env)::adC es X.env:=by rfl) (dM:(afE pos (adC es X.env)).any (·.1)=false:=by rfl) :
 PE X (.Call (.Name x p) (e::es) [] pos) (wm sp [] E0 t):=kL F (hr.mono hk) hg N.m N.F.kp N.b .nil hx ha iH he dM
end
theorem Kn(P:Int->Bool):∀ n:Nat,((adx n).map λ(i:Nat)=>(i:Int)).filter P∈cC n
 | 0=>by simp[cC]
 | n+1=>by
  have ih:=Kn P n;rw[ajc,aea,List.filter_append,cC];by_cases h:P n=true
  .refine ac1 _ (adf.mpr ⟨_,ih,?_⟩);simp[h]
  .refine adD _ ?_;simpa [h] using ih
theorem Ko{n:Nat}:∀ (j:Nat) {s:List Int},s∈cC n->s.length+j<=n->∃ s'∈cC n,s'.length=s.length+j/\∀ x∈s,x∈s'
 | 0,s,h,_=>⟨s,h,rfl,λ_ z=>z⟩
 | j+1,s,h,hl=>by obtain⟨s1,h1,h2,h3⟩:=Ko j h (by lia);obtain⟨s2,h4,h5,h6⟩:=IT h1 (by lia);exact⟨s2,h4,by lia,λx hx=>h6 x (h3 x hx)⟩
noncomputable def ij(e m fi:Int):List Int:=((adx e.toNat).map λ(i:Nat)=>(i:Int)).filter λi=>decide ((i+fi) % e<m)
theorem WJ{e fi i j:Int}(he:0<e)(i0:0<=i)(ie:i<e)(j0:0<=j)(je:j<e)(h:(i+fi) % e=(j+fi) % e):i=j:=by
 have a:=alL (i+fi) e;have b:=alL (j+fi) e;have:i-j=e * ((i+fi) / e-(j+fi) / e):=by rw[Int.mul_sub];omega
 generalize (i+fi) / e-(j+fi) / e=k at this;have k0:k=0:=by
  rcases Int.lt_trichotomy k 0 with z|z|z
  .have:=aho (show k <= -1 by omega) (alM he);omega
  .exact z
  .have:=aho (show 1<=k by omega) (alM he);omega
 rw[k0] at this;omega
theorem Kp:∀ {xs ys:List Int},xs.Nodup->(∀ x∈xs,x∈ys)->xs.length<=ys.length
 | [],_,_,_=>adw _
 | x::xs,ys,h,k=>by obtain⟨h1,h2⟩:=aer.mp h;have hx:=k x (.head _);have ih:=Kp (ys:=ys.erase x) h2 λy hy=>(agi (λz=>h1 (by rw[<- z];exact hy))).mpr (k y (.tail _ hy));rw[afL hx] at ih;have:=afY hx;rw[ad9];omega
theorem uz{e m fi i:Int}(he:1<=e):i∈ij e m fi↔(0<=i/\i<e)/\(i+fi) % e<m:=by
 unfold ij;rw[adS,decide_eq_true_eq];refine and_congr_left λ_=>?_;constructor
 .intro h;obtain⟨k,hk,rfl⟩:=adf.mp h;have:=adY.mp hk;omega
 .intro h;exact adf.mpr ⟨i.toNat,adY.mpr (by omega),by omega⟩
theorem Kq{e m fi:Int}(he:1<=e)(hm:0<=m):((ij e m fi).length:Int)<=m:=by
 have WK:(ij e m fi).Nodup:=by unfold ij;exact List.Nodup.sublist ajE (aib _ (λa b h=>λz=>h (Int.ofNat.inj z)) aky)
 have nd:((ij e m fi).map λi=>(i+fi) % e).Nodup:=by refine aib _ (λa b h=>h) ?_;refine alg (λ{a b} ha hb h z=>?_) WK;have a1:=(uz he).mp ha;have b1:=(uz he).mp hb;exact h (WJ (by omega) a1.1.1 a1.1.2 b1.1.1 b1.1.2 z)
 have:=Kp nd (ys:=(adx m.toNat).map λ(i:Nat)=>(i:Int)) λx hx=>by obtain⟨i,hi,rfl⟩:=adf.mp hx;have h1:=((uz he).mp hi).2;have h2:=ahy (i+fi) (show e≠0 by omega);exact adf.mpr ⟨((i+fi) % e).toNat,adY.mpr (by omega),by omega⟩
 rw[acV,acV,ads] at this;omega
theorem WL{e t u d m fi:Int}{tb:Tb}{c:Nat->Int}(he:1<=e)(ht:1<=t)(hm:0<=m)(ky:m<=e)(hu:0<=u)(hd:0<=d)(aj:cB e t tb)(hc:dX (ad4 (t-1).toNat (-d,u)) c)(i7:meets (cu tb (ij e m fi)) c) :
 ∃ ss∈gf e t u d m tb,∀ k:Nat,(k:Int)<t->bD (a8 ss k) (c k):=by
 have hl:=Kq (fi:=fi) he hm;have h0:ij e m fi∈cC e.toNat:=Kn (λi=>decide ((i+fi) % e<m)) e.toNat;obtain⟨s,hs,sl,sup⟩:=Ko (m.toNat-(ij e m fi).length) h0 (by omega);have Kr:meets (cu tb s) c:=λq hq=>by obtain⟨r,hr,hn,rfl⟩:=ib.mp hq;exact i7 _ (ib.mpr ⟨r,hr,λz=>hn (sup _ z),rfl⟩)
 have hp:cI (ad4 (t-1).toNat (-d,u)):=λp hp=>by rw[aic hp];show -d<=u;omega
 obtain⟨ss,hss⟩:=TM (IG hc Kr);refine⟨ss,aft.mpr ⟨s,adS.mpr ⟨hs,decide_eq_true (by omega)⟩,hss⟩,λk hk=>?_⟩;refine ((IX hp (λq hq=>?_) hss (by rw[aek];omega)).2 _).mpr ⟨c,hc,Kr,rfl⟩;obtain⟨r,hr,_,rfl⟩:=ib.mp hq;have ho:=aj.2 r hr;unfold j7 at ho;rw[aek];show r.1.2.toNat<=_;omega
end Gz
namespace y9
open PySem L2 Gz
local macro_rules | `(tactic| walk_at "gzd") => `(tactic| dsimp only [seval, Nat.reduceAdd, Nat.reduceSub, ↓reduceIte, vV, E2, wc, mx, E7, vU, tC, EZ, EX, vX, bR, wy, wk, sD, wm, EJ, EK, tB, EO, ER, ES, ET, EU, EV, EW, EY, rI, gx, rU, E9, Fb, Qx, Qy, Qz, QA, QC, Qq, Qr, Qs, Qt, Qu, Qv, ite_tt, ite_ff, L2.start, QD, QE, List.map_cons, List.map_nil, List.length_cons, List.length_nil, List.replicate, List.nil_append, List.cons_append, List.getElem?_cons_zero, List.getElem?_cons_succ, List.set_cons_zero, List.set_cons_succ, Bool.not_true, Bool.not_false, Ft, Fu, F2, F1, F5, QH, QJ, QK, sX, wR, G6, G8, vY, su, sW, E4, FU, xu, E6, v3, RK, RL, Fp, Fq, wt, Fv, FL, FF, FG, FV, F7, RU, RV, RW, wd, Hv, xA, xD, xG, J6, V9, Wa, Wb, Wc, We, Wf, Wg, Wh, Wi, Wj, Wk, Wr, Wl, Wm, Wn, Wo, Wq, qU, uw, yX, yY, J9, ux, Kd, Ke, Wu, Wv, Ww, Wx, Wy, Wz, WA, WB, WC, WD, WE, WG, WH, Kf, Kg, Kh, Ki, Kj, Kk, Kl, Km, xf, xg, Ie, xV, So, Sq, HM, IL, F6, kh, ki, bU, gq, J0, Ja, Ui, I9, yA, Ul, JD, JG, IZ])
local macro_rules | `(tactic| walk_at "gzs") => `(tactic| simp only [seval, Nat.reduceAdd, Nat.reduceSub, reduceCtorEq, ↓reduceIte, ite_tt, ite_ff, List.map_cons, List.map_nil, List.length_cons, List.length_nil, List.nil_append, List.cons_append, Option.some.injEq, V.int.injEq, V.bl.injEq, V.ref.injEq, List.cons.injEq, exists_eq_left, exists_eq_left', exists_and_left, true_and, and_true, decide_eq_true_eq, Nat.zero_add, Nat.sub_self, Nat.add_one_sub_one, decide_true, decide_false, Bool.not_eq_true', decide_eq_false_iff_not, false_and, exists_false, and_assoc, not_false_eq_true, not_true_eq_false, List.append_nil, Option.join_some])
local macro_rules | `(tactic| walk_at "gzp") => `(tactic| first | (walk_at "gzd"; repeat (first | walk_at "gzs" | walk_at "gzd")) | (walk_at "gzs"; repeat (first | walk_at "gzd" | walk_at "gzs")))
local macro_rules | `(tactic| walk_at "gz") => `(tactic| try walk_at "gzp")
local macro_rules | `(tactic| walk_at "gzn") => `(tactic| try walk_at "gzp")
inductive cU(H:Hp)(v:V)(m:Mk):Prop
 | mk(t p:ac6)(_:v = .ref t)(_:H t=some (.tup [.int m.1,.ref p]))(_:H p=some (.tup [ev m.2.1,ev m.2.2]))
theorem cU.same{H H':Hp}{v:V}{m:Mk}(h:cU H v m)(s:ak H H'):cU H' v m:=let ⟨t,p,e,a,b⟩:=h;⟨t,p,e,s _ _ a,s _ _ b⟩
noncomputable def top(i:Nat):afr:=PySem.Challenge.pw_gaze_k47_whole_the_truth_stays_in.main.body.getD i (.Pass ⟨0,0,0,0⟩)
noncomputable abbrev zb:afr:=top 7
noncomputable abbrev zc:afr:=top 8
noncomputable abbrev zd:afr:=top 9
noncomputable abbrev ze:afr:=top 10
noncomputable abbrev zf:afr:=top 11
noncomputable abbrev zg:afr:=top 12
noncomputable abbrev zh:afr:=top 13
noncomputable abbrev zi:afr:=top 14
noncomputable abbrev zj:afr:=top 16
noncomputable abbrev zk:afr:=top 18
noncomputable abbrev zm:afr:=top 19
noncomputable abbrev zo:afr:=top 20
noncomputable abbrev zp:afr:=top 21
noncomputable abbrev zr:afr:=top 22
noncomputable abbrev zt:afr:=top 23
noncomputable abbrev zu:afr:=top 24
noncomputable abbrev zv:afr:=top 25
noncomputable abbrev zw:afr:=top 26
noncomputable abbrev zx:afr:=top 28
noncomputable abbrev zy:afr:=top 29
noncomputable abbrev zA:afr:=top 30
noncomputable abbrev zB:afr:=top 31
noncomputable abbrev zC:afr:=top 32
noncomputable abbrev zD:afr:=top 34
noncomputable abbrev zE:afr:=top 35
noncomputable abbrev zF:afr:=top 36
noncomputable abbrev zG:afr:=top 37
noncomputable abbrev zH:afr:=top 38
noncomputable abbrev zI:afr:=top 39
noncomputable abbrev zJ:afr:=top 40
noncomputable abbrev zK:afr:=top 41
noncomputable abbrev zL:afr:=top 42
noncomputable abbrev zM:afr:=top 44
noncomputable abbrev zN:afr:=top 45
noncomputable abbrev zO:afr:=top 46
noncomputable abbrev zP:afr:=inClass (top 50) 0
noncomputable abbrev zQ:afr:=inClass (top 50) 1
noncomputable abbrev zR:afr:=inClass (top 50) 2
noncomputable abbrev zS:afr:=inClass (top 50) 3
noncomputable abbrev zT:afr:=inClass (top 50) 6
noncomputable abbrev zU:afr:=inClass (top 50) 10
noncomputable abbrev zV:afr:=top 52
noncomputable abbrev zW:afr:=top 53
noncomputable abbrev zX:afr:=top 54
noncomputable abbrev Ks:afr:=top 55
noncomputable abbrev Kt:afr:=top 56
noncomputable abbrev zY:afr:=top 57
noncomputable abbrev zZ:afr:=top 59
noncomputable abbrev z0:afr:=top 60
noncomputable abbrev z4:afr:=top 61
noncomputable abbrev z5:afr:=top 62
noncomputable abbrev z6:afr:=top 63
noncomputable abbrev Aa:afr:=top 64
noncomputable abbrev Ab:afr:=top 65
noncomputable abbrev Ac:afr:=top 66
noncomputable abbrev Ad:afr:=top 67
noncomputable abbrev Ae:afr:=top 68
noncomputable abbrev Af:afr:=top 69
noncomputable abbrev Ag:afr:=top 70
noncomputable abbrev Ah:afr:=top 71
noncomputable abbrev Ai:afr:=top 72
noncomputable abbrev Aj:afr:=top 73
noncomputable abbrev Ak:afr:=top 74
noncomputable abbrev ik:afr:=top 75
theorem WM:aP ["lo","hi"] ["lo","hi"] (aL zb):=⟨rfl,rfl,rfl,by decide +kernel,rfl,by decide +kernel,by decide +kernel⟩
theorem WN:aP ["one","number"] ["one","number"] (aL zc):=⟨rfl,rfl,rfl,by decide +kernel,rfl,by decide +kernel,by decide +kernel⟩
theorem Al:aP ["one","other","lo","hi"] ["one","other"] (aL zd):=⟨rfl,rfl,rfl,by decide +kernel,rfl,by decide +kernel,by decide +kernel⟩
theorem uA:aP ["some","whole","one"] ["some"] (aL ze):=⟨rfl,rfl,rfl,by decide +kernel,rfl,by decide +kernel,by decide +kernel⟩
theorem qX:aP ["some","los","his","lo","hi"] ["some"] (aL zf):=⟨rfl,rfl,rfl,by decide +kernel,rfl,by decide +kernel,by decide +kernel⟩
theorem WO:aP ["one"] ["one"] (aL zg):=⟨rfl,rfl,rfl,by decide +kernel,rfl,by decide +kernel,by decide +kernel⟩
theorem WQ:aP ["one","later"] ["one","later"] (aL zh):=⟨rfl,rfl,rfl,by decide +kernel,rfl,by decide +kernel,by decide +kernel⟩
theorem Am:aP ["some","rising","one"] ["some"] (aL zi):=⟨rfl,rfl,rfl,by decide +kernel,rfl,by decide +kernel,by decide +kernel⟩
theorem WR:aP ["cell"] ["cell"] (aL zj):=⟨rfl,rfl,rfl,by decide +kernel,rfl,by decide +kernel,by decide +kernel⟩
theorem An:aP ["one","step","lo","hi"] ["one","step"] (aL zk):=⟨rfl,rfl,rfl,by decide +kernel,rfl,by decide +kernel,by decide +kernel⟩
theorem oV:aP ["boxes","steps","kept","turn","box","left"] ["boxes","steps"] (aL zm):=⟨rfl,rfl,rfl,by decide +kernel,rfl,by decide +kernel,by decide +kernel⟩
theorem WS:aP ["marks","turn"] ["marks","turn"] (aL zo):=⟨rfl,rfl,rfl,by decide +kernel,rfl,by decide +kernel,by decide +kernel⟩
theorem Ao:aP ["steps","marks","forth","backward"] ["steps","marks"] (aL zp):=⟨rfl,rfl,rfl,by decide +kernel,rfl,by decide +kernel,by decide +kernel⟩
theorem qY:aP ["steps","marks","boxes","course","step","box"] ["steps","marks"] (aL zr):=⟨rfl,rfl,rfl,by decide +kernel,rfl,by decide +kernel,by decide +kernel⟩
theorem WT:aP ["one","other"] ["one","other"] (aL zt):=⟨rfl,rfl,rfl,by decide +kernel,rfl,by decide +kernel,by decide +kernel⟩
theorem WU:aP ["one","by"] ["one","by"] (aL zu):=⟨rfl,rfl,rfl,by decide +kernel,rfl,by decide +kernel,by decide +kernel⟩
theorem oW:aP ["steps","marks","tops","number","mark","turn"] ["steps","marks"] (aL zv):=⟨rfl,rfl,rfl,by decide +kernel,rfl,by decide +kernel,by decide +kernel⟩
theorem uB:aP ["tops","marks","number","mark","top"] ["tops","marks"] (aL zw):=⟨rfl,rfl,rfl,by decide +kernel,rfl,by decide +kernel,by decide +kernel⟩
theorem WV:aP ["board","kind","turn"] ["board","kind","turn"] (aL zx):=⟨rfl,rfl,rfl,by decide +kernel,rfl,by decide +kernel,by decide +kernel⟩
theorem Ku:aP ["board","claim","part"] ["board","claim"] (aL zy):=⟨rfl,rfl,rfl,by decide +kernel,rfl,by decide +kernel,by decide +kernel⟩
theorem WW:aP ["claim","kind","turn"] ["claim","kind","turn"] (aL zA):=⟨rfl,rfl,rfl,by decide +kernel,rfl,by decide +kernel,by decide +kernel⟩
theorem Kv:aP ["board","claim","own"] ["board","claim"] (aL zB):=⟨rfl,rfl,rfl,by decide +kernel,rfl,by decide +kernel,by decide +kernel⟩
theorem WX:aP ["board","claim"] ["board","claim"] (aL zC):=⟨rfl,rfl,rfl,by decide +kernel,rfl,by decide +kernel,by decide +kernel⟩
theorem WY:aP ["board","eye"] ["board","eye"] (aL zD):=⟨rfl,rfl,rfl,by decide +kernel,rfl,by decide +kernel,by decide +kernel⟩
theorem WZ:aP ["board","some"] ["board","some"] (aL zE):=⟨rfl,rfl,rfl,by decide +kernel,rfl,by decide +kernel,by decide +kernel⟩
theorem W0:aP ["board","eye","course"] ["board","eye","course"] (aL zF):=⟨rfl,rfl,rfl,by decide +kernel,rfl,by decide +kernel,by decide +kernel⟩
theorem W3:aP ["board","course"] ["board","course"] (aL zG):=⟨rfl,rfl,rfl,by decide +kernel,rfl,by decide +kernel,by decide +kernel⟩
theorem W6:aP ["steps","course"] ["steps","course"] (aL zH):=⟨rfl,rfl,rfl,by decide +kernel,rfl,by decide +kernel,by decide +kernel⟩
theorem Xa:aP ["board","course"] ["board","course"] (aL zI):=⟨rfl,rfl,rfl,by decide +kernel,rfl,by decide +kernel,by decide +kernel⟩
theorem Xb:aP ["board"] ["board"] (aL zJ):=⟨rfl,rfl,rfl,by decide +kernel,rfl,by decide +kernel,by decide +kernel⟩
theorem lT:aP ["steps","groups","found","name","marks","tops","beside","others","pair"] ["steps","groups"] (aL zK):=⟨rfl,rfl,rfl,by decide +kernel,rfl,by decide +kernel,by decide +kernel⟩
theorem uC:aP ["eyes","some","eye"] ["eyes"] (aL zL):=⟨rfl,rfl,rfl,by decide +kernel,rfl,by decide +kernel,by decide +kernel⟩
theorem uD:aP ["board","steps","asides","found"] ["board"] (aL zM):=⟨rfl,rfl,rfl,by decide +kernel,rfl,by decide +kernel,by decide +kernel⟩
theorem Xc:aP ["board","turn"] ["board","turn"] (aL zN):=⟨rfl,rfl,rfl,by decide +kernel,rfl,by decide +kernel,by decide +kernel⟩
theorem Kw:aP ["board","found"] ["board"] (aL zO):=⟨rfl,rfl,rfl,by decide +kernel,rfl,by decide +kernel,by decide +kernel⟩
theorem Xd:aP ["self","eyes","turns","up","down","most"] ["self","eyes","turns","up","down","most"] (aL zP):=⟨rfl,rfl,rfl,by decide +kernel,rfl,by decide +kernel,by decide +kernel⟩
theorem Xe:aP ["self","eye"] ["self","eye"] (aL zQ):=⟨rfl,rfl,rfl,by decide +kernel,rfl,by decide +kernel,by decide +kernel⟩
theorem Xf:aP ["self","turn"] ["self","turn"] (aL zR):=⟨rfl,rfl,rfl,by decide +kernel,rfl,by decide +kernel,by decide +kernel⟩
theorem Xg:aP ["self","eye","turn","lo","hi"] ["self","eye","turn","lo","hi"] (aL zS):=⟨rfl,rfl,rfl,by decide +kernel,rfl,by decide +kernel,by decide +kernel⟩
theorem Xh:aP ["self"] ["self"] (aL zT):=⟨rfl,rfl,rfl,by decide +kernel,rfl,by decide +kernel,by decide +kernel⟩
theorem Xi:aP ["self","eye","turn"] ["self","eye","turn"] (aL zU):=⟨rfl,rfl,rfl,by decide +kernel,rfl,by decide +kernel,by decide +kernel⟩
theorem Xj:aP ["pairs","eye"] ["pairs","eye"] (aL zV):=⟨rfl,rfl,rfl,by decide +kernel,rfl,by decide +kernel,by decide +kernel⟩
theorem Xk:aP ["pair"] ["pair"] (aL zW):=⟨rfl,rfl,rfl,by decide +kernel,rfl,by decide +kernel,by decide +kernel⟩
theorem uE:aP ["pairs","most","eye","others"] ["pairs","most"] (aL zX):=⟨rfl,rfl,rfl,by decide +kernel,rfl,by decide +kernel,by decide +kernel⟩
theorem oX:aP ["board","claim","steps","goals","marks","pairs","aside"] ["board","claim"] (aL zY):=⟨rfl,rfl,rfl,by decide +kernel,rfl,by decide +kernel,by decide +kernel⟩
theorem Ap:aP ["_law_script","_law_k","_law_many","_law_cell"] ["_law_script","_law_k","_law_many"] (aL zZ):=⟨rfl,rfl,rfl,by decide +kernel,rfl,by decide +kernel,by decide +kernel⟩
theorem Aq:aP ["_law_script","_law_k","_law_many","_law_cell"] ["_law_script","_law_k","_law_many"] (aL z0):=⟨rfl,rfl,rfl,by decide +kernel,rfl,by decide +kernel,by decide +kernel⟩
theorem cV:aP ["_law_script","_law_way","_law_eyes","_law_turns","_law_most","_law_far","_law_up","_law_down"] ["_law_script"] (aL z4):=⟨rfl,rfl,rfl,by decide +kernel,rfl,by decide +kernel,by decide +kernel⟩
theorem oY:aP ["_law_script","_law_shape_here","_law_size","_law_number","_law_course_here","_law_k"] ["_law_script","_law_shape_here"] (aL z5):=⟨rfl,rfl,rfl,by decide +kernel,rfl,by decide +kernel,by decide +kernel⟩
theorem jE:aP ["_law_script","_law_k","_law_far","_law_number","_law_false","_law_by","_law_lo","_law_hi","_law_end"] ["_law_script","_law_k","_law_far","_law_number","_law_false"] (aL z6):=⟨rfl,rfl,rfl,by decide +kernel,rfl,by decide +kernel,by decide +kernel⟩
theorem qZ:aP ["_law_script","_law_shape_here","_law_told","_law_board_here","_law_spots","_law_eye","_law_turn"] ["_law_script","_law_shape_here","_law_told"] (aL Aa):=⟨rfl,rfl,rfl,by decide +kernel,rfl,by decide +kernel,by decide +kernel⟩
theorem Xl:aP ["_law_span","_law_number"] ["_law_span","_law_number"] (aL Ab):=⟨rfl,rfl,rfl,by decide +kernel,rfl,by decide +kernel,by decide +kernel⟩
theorem Xm:aP ["_law_found"] ["_law_found"] (aL Ac):=⟨rfl,rfl,rfl,by decide +kernel,rfl,by decide +kernel,by decide +kernel⟩
theorem uF:aP ["_law_told","_law_course_here","_law_eyes","_law_eye","_law_turn"] ["_law_told","_law_course_here"] (aL Ad):=⟨rfl,rfl,rfl,by decide +kernel,rfl,by decide +kernel,by decide +kernel⟩
theorem oZ:aP ["_law_course_here","_law_claim","_law_kind","_law_turn","_law_span","_law_number"] ["_law_course_here","_law_claim"] (aL Ae):=⟨rfl,rfl,rfl,by decide +kernel,rfl,by decide +kernel,by decide +kernel⟩
theorem Ar:aP ["_law_found","_law_shape_here","_law_told","_law_claim","_law_number","_law_k"] ["_law_found","_law_shape_here","_law_told","_law_claim"] (aL Af):=⟨rfl,rfl,rfl,by decide +kernel,rfl,by decide +kernel,by decide +kernel⟩
theorem Kx:aP ["_law_board_here","_law_told","_law_spots"] ["_law_board_here","_law_told"] (aL Ag):=⟨rfl,rfl,rfl,by decide +kernel,rfl,by decide +kernel,by decide +kernel⟩
theorem gI:aP ["_law_script","_law_shape_here","_law_course_here","_law_first","_law_told","_law_dense","_law_limit","_law_eye","_law_false","_law_turn","_law_k","_law_number"] ["_law_script","_law_shape_here","_law_course_here"] (aL Ah):=⟨rfl,rfl,rfl,by decide +kernel,rfl,by decide +kernel,by decide +kernel⟩
theorem kz:aP ["_law_script","_law_shape_here","_law_course_here","_law_parts","_law_j","_law_k","_law_turn","_law_kind","_law_number"] ["_law_script","_law_shape_here","_law_course_here"] (aL Ai):=⟨rfl,rfl,rfl,by decide +kernel,rfl,by decide +kernel,by decide +kernel⟩
theorem Xn:aP ["_law_some","_law_number"] ["_law_some","_law_number"] (aL Aj):=⟨rfl,rfl,rfl,by decide +kernel,rfl,by decide +kernel,by decide +kernel⟩
theorem q8:aP ["_law_board_here","_law_shape_here","_law_told","_law_course_here","_law_claim","_law_turn","_law_rows","_law_handed","_law_parts","_law_answer"] ["_law_board_here","_law_shape_here","_law_told","_law_course_here","_law_claim","_law_turn"] (aL Ak):=⟨rfl,rfl,rfl,by decide +kernel,rfl,by decide +kernel,by decide +kernel⟩
theorem lU:aP ["_law_script","_law_shape_here","_law_course_here","_law_told","_law_claim","_law_board_here","_law_turn","_law_spot"] ["_law_script"] (aL ik):=⟨rfl,rfl,rfl,by decide +kernel,rfl,by decide +kernel,by decide +kernel⟩
set_option genInjectivity false
set_option genSizeOf false
structure Tx(K:acS)(mg:Str->Option acY) where
 nk:Fn K mg "is_crossed" zb ["lo","hi"]
 q9:Fn K mg "holds" zc ["one","number"]
 o4:Fn K mg "meet" zd ["one","other"]
 o5:Fn K mg "common" ze ["some"]
 rd:Fn K mg "hull" zf ["some"]
 rf:Fn K mg "by_lo" zg ["one"]
 uG:Fn K mg "leaves_gap" zh ["one","later"]
 uH:Fn K mg "gathered" zi ["some"]
 rg:Fn K mg "number_in" zj ["cell"]
 rh:Fn K mg "moved" zk ["one","step"]
 rj:Fn K mg "narrowed" zm ["boxes","steps"]
 uI:Fn K mg "stretches_at" zo ["marks","turn"]
 rn:Fn K mg "tube" zp ["steps","marks"]
 uJ:Fn K mg "course_in" zr ["steps","marks"]
 o6:Fn K mg "lesser" zt ["one","other"]
 rq:Fn K mg "lifted" zu ["one","by"]
 uK:Fn K mg "ceilings" zv ["steps","marks"]
 uL:Fn K mg "crossing" zw ["tops","marks"]
 uM:Fn K mg "has_part" zx ["board","kind","turn"]
 kA:Fn K mg "check_claim" zy ["board","claim"]
 rA:Fn K mg "stretches_of" zA ["claim","kind","turn"]
 lV:Fn K mg "paces" zB ["board","claim"]
 o7:Fn K mg "wanted" zC ["board","claim"]
 rB:Fn K mg "marks_of" zD ["board","eye"]
 rC:Fn K mg "marks_without" zE ["board","some"]
 uN:Fn K mg "is_lying" zF ["board","eye","course"]
 uO:Fn K mg "liars" zG ["board","course"]
 uP:Fn K mg "keeps" zH ["steps","course"]
 uQ:Fn K mg "fits" zI ["board","course"]
 uR:Fn K mg "groups_of" zJ ["board"]
 uS:Fn K mg "clashes" zK ["steps","groups"]
 uT:Fn K mg "choices" zL ["eyes"]
 rD:Fn K mg "tubes" zM ["board"]
 uU:Fn K mg "places" zN ["board","turn"]
 uV:Fn K mg "strips" zO ["board"]
 rE:Fm K "__init__" "Board.__init__" zP ["self","eyes","turns","up","down","most"]
 rF:Fm K "has_eye" "Board.has_eye" zQ ["self","eye"]
 kB:Fm K "has_turn" "Board.has_turn" zR ["self","turn"]
 o8:Fm K "tell" "Board.tell" zS ["self","eye","turn","lo","hi"]
 nq:Fm K "tellings" "Board.tellings" zT ["self"]
 rG:Fm K "check_spot" "Board.check_spot" zU ["self","eye","turn"]
 o9:Fn K mg "without" zV ["pairs","eye"]
 pd:Fn K mg "eyes_of" zW ["pair"]
 jF:Fn K mg "put_aside" zX ["pairs","most"]
 abI:Fn K mg "branch" Ks ["pairs","eye","most"]
 abJ:Fn K mg "paper" Kt ["pairs","most"]
 x_ask:Fn K mg "ask" zY ["board","claim"]
 bS:Fn K mg "_law_pick" zZ ["_law_script","_law_k","_law_many"]
 nr:Fn K mg "_law_wide" z0 ["_law_script","_law_k","_law_many"]
 uW:Fn K mg "_law_shape" z4 ["_law_script"]
 uX:Fn K mg "_law_course" z5 ["_law_script","_law_shape_here"]
 pe:Fn K mg "_law_word" z6 ["_law_script","_law_k","_law_far","_law_number","_law_false"]
 uY:Fn K mg "_law_board" Aa ["_law_script","_law_shape_here","_law_told"]
 nu:Fn K mg "_law_in" Ab ["_law_span","_law_number"]
 uZ:Fn K mg "_law_whole" Ac ["_law_found"]
 u0:Fn K mg "_law_liars" Ad ["_law_told","_law_course_here"]
 u5:Fn K mg "_law_met" Ae ["_law_course_here","_law_claim"]
 u6:Fn K mg "_law_walked" Af ["_law_found","_law_shape_here","_law_told","_law_claim"]
 u7:Fn K mg "_law_same" Ag ["_law_board_here","_law_told"]
 vc:Fn K mg "_law_mostly" Ah ["_law_script","_law_shape_here","_law_course_here"]
 vd:Fn K mg "_law_true_parts" Ai ["_law_script","_law_shape_here","_law_course_here"]
 ve:Fn K mg "_law_has" Aj ["_law_some","_law_number"]
 rH:Fn K mg "_law_stays" Ak ["_law_board_here","_law_shape_here","_law_told","_law_course_here","_law_claim","_law_turn"]
 rJ:Fn K mg "law" ik ["_law_script"]
 Ky:mg "all" = none
 Xo:mg "bool" = none
 vf:mg "enumerate" = none
 Xp:mg "int" = none
 ph:mg "isinstance" = none
 dZ:mg "len" = none
 lW:mg "list" = none
 Kz:mg "max" = none
 pj:mg "min" = none
 fj:mg "range" = none
 Xq:mg "reversed" = none
 Xr:mg "set" = none
 vg:mg "sorted" = none
 Xs:mg "tuple" = none
 KA:mg "zip" = none
 vh:ac6
 abK:mg "GazeError" = some (.ref vh)
 gJ:ac6
 As:mg "NoBoard" = some (.ref gJ)
 gK:ac6
 KC:mg "NoTelling" = some (.ref gK)
 gj:ac6
 KD:mg "NoClaim" = some (.ref gj)
 aQ:ac6
 Xt:mg "Board" = some (.ref aQ)
 bN:gy K aQ
 kC:fR K aQ "eyes"
 kD:fR K aQ "turns"
 pq:fR K aQ "up"
 pw:fR K aQ "down"
 lX:fR K aQ "most"
 lY:fR K aQ "told"
 rK:Mk K aQ rE.a
 Xu:Meth K aQ "has_eye" rF.a
 rL:Meth K aQ "has_turn" kB.a
 KG:Meth K aQ "tell" o8.a
 Au:Meth K aQ "tellings" nq.a
 Xv:Meth K aQ "check_spot" rG.a
 Av:XC K gJ
 KH:XC K gK
 KI:XC K gj
 Xw:∃ t,mg "EYES_AT_MOST" = some (.int 7 t)
 Xx:∃ t,mg "TURNS_AT_MOST" = some (.int 12 t)
set_option genInjectivity true
set_option genSizeOf true
section
seal L2.PE L2.PS L2.bw L2.PA
variable{P:ado}{w:adM}{K:acS}{mg:Str->Option acY}{base:aeA}
inductive Xy(K:acS)(vs:List V)(H:Hp)(Q:VK)(a9:XK):Prop
 | mk(a:ac6)(ns:List Int)(k m:Int)(_:vs=[.ref a,.int k,.int m])(_:ah K H a (ns.map V.int))(_:gB ns)(_:(-1000000<=k/\k<=1000000))(_:0<m)(_:∀ p:Int,0<=p->p<m->Q (.int p) H)
theorem cc(T:Tx K mg):aJ P w K mg base (aK P w) 1 T.bS.a T.bS.fd ["_law_script","_law_k","_law_many"] (Xy K):=by
 refine okN T.bS.F Ap (λvs H Q E h=>?_) (λaG A outer s H vs Q E hr h=>?_)
 .obtain⟨a,ns,k,m,rfl,_⟩:=h;rfl
 .obtain⟨a,ns,k,m,rfl,hS,hn,hk,hm,q⟩:=h;refine⟨_,(aq (aE (i:=3) Ap.nd rfl (adv rfl) ag)
  (aq (aT (lS (bM ed (by rfl) T.dZ dN (ae (aa 0) ai)) ag) (au (aE (i:=3) Ap.nd rfl (adv rfl) (ay (aa 0) (aD jD (aa 1) (bM ed (by rfl) T.dZ dN (ae (aa 0) ai)))))) aV)
  (au (aH (aD jD (aD jD (aD jD (aD qV (aD bb (aa 3) ag) (aD bb (aD bb (aa 3) ag) (aD qV (aa 1) (aa 1)))) ag) ag) (aa 2)))))),?_⟩
  walk_at "gz";refine⟨_,dz hS,?_⟩;rw[acV];have pm:=Sf hn hk;have fin:∀ x:Int,Q (.int (x % 2147483629 % 999983 % m)) H:=λx=>q _ (ahy _ (by lia)) (ahI _ hm);split
  .rename_i h;refine⟨_,dz hS,?_⟩;rw[acV];refine⟨h,aN hS (HD h) ?_⟩;walk_at "gz";exact⟨pm.1,pm.2,hm,fin _⟩
  .rename_i h;have e:fW ns k=0:=if_neg h;rw[e] at pm;exact⟨pm.1,pm.2,hm,fin _⟩
inductive Xz(K:acS)(vs:List V)(H:Hp)(Q:VK)(a9:XK):Prop
 | mk(a:ac6)(ns:List Int)(k m:Int)(_:vs=[.ref a,.int k,.int m])(_:ah K H a (ns.map V.int))(_:gB ns)(_:(-1000000<=k/\k<=1000000))(_:0<m)(_:∀ p:Int,0<=p->p<m->Q (.int p) H)
theorem vk(T:Tx K mg):aJ P w K mg base (aK P w) 2 T.nr.a T.nr.fd ["_law_script","_law_k","_law_many"] (Xz K):=by
 refine okN T.nr.F Aq (λvs H Q E h=>?_) (λaG A outer s H vs Q E hr h=>?_)
 .obtain⟨a,ns,k,m,rfl,_⟩:=h;rfl
 .obtain⟨a,ns,k,m,rfl,hS,hn,hk,hm,q⟩:=h;refine⟨_,(aq (aE (i:=3) Aq.nd rfl (adv rfl) ag)
  (aq (aT (lS (bM ed (by rfl) T.dZ dN (ae (aa 0) ai)) ag) (au (aE (i:=3) Aq.nd rfl (adv rfl) (ay (aa 0) (aD jD (aa 1) (bM ed (by rfl) T.dZ dN (ae (aa 0) ai)))))) aV)
  (au (aH (aD jD (aD bb (aC T.bS (cc T) hr az (ae (aa 0) (ae (aa 1) (ae ag ai)))) (aD qV (aD qV (aD qV ag (aa 3)) (aa 3)) (aa 3))) (aa 2)))))),?_⟩
  walk_at "gz";refine⟨_,dz hS,?_⟩;rw[acV];have pm:=Sg hn k;have fin:∀ x:Int,Q (.int (x % m)) H:=λx=>q _ (ahy _ (by lia)) (ahI _ hm);split
  .rename_i h;refine⟨_,dz hS,?_⟩;rw[acV];refine⟨h,aN hS (HD h) ?_⟩;walk_at "gz";refine⟨a,ns,k,999983,rfl,hS,hn,hk,by decide,λp _ _=>?_⟩;walk_at "gz";exact⟨pm.1,pm.2.1,pm.2.2,hm,fin _⟩
  .rename_i h;have e:fW ns k=0:=if_neg h;rw[e] at pm;refine⟨a,ns,k,999983,rfl,hS,hn,hk,by decide,λp _ _=>?_⟩;walk_at "gz";exact⟨pm.1,pm.2.1,pm.2.2,hm,fin _⟩
inductive XA(vs:List V)(H:Hp)(Q:VK)(a9:XK):Prop
 | mk(v:V)(_:vs=[v])(_:(v = .non ∨ ∃ i,v = .int i))(_:Q (.bl (isWhole v)) H)
theorem XB(T:Tx K mg):aJ P w K mg base (aK P w) 1 T.uZ.a T.uZ.fd ["_law_found"] XA:=by
 refine okN T.uZ.F Xm (λvs H Q E h=>?_) (λaG A outer s H vs Q E hr h=>?_)
 .obtain⟨v,rfl,_⟩:=h;rfl
 .obtain⟨v,rfl,hv,q⟩:=h;refine⟨_,(au (aH (i6 (bM nZ (by rfl) T.ph nY (ae (aa 0) (ae (nN (v:=.ty "int") rfl T.Xp Qm rfl) ai))) (jc (uy (bM nZ (by rfl) T.ph nY (ae (aa 0) (ae (nN (v:=.ty "bool") rfl T.Xo Qn rfl) ai)))))))),?_⟩;rcases hv with rfl|⟨i,rfl⟩
  .walk_at "gz";exact q
  .walk_at "gz";exact q
inductive XD(vs:List V)(H:Hp)(Q:VK)(a9:XK):Prop
 | mk(a b:En)(_:vs=[ev a,ev b])(_:Q (.bl (aS a b)) H)
theorem vm(T:Tx K mg):aJ P w K mg base (aK P w) 1 T.nk.a T.nk.fd ["lo","hi"] XD:=by
 refine okN T.nk.F WM (λvs H Q E h=>?_) (λaG A outer s H vs Q E hr h=>?_)
 .obtain⟨a,b,rfl,_⟩:=h;rfl
 .obtain⟨a,b,rfl,q⟩:=h;refine⟨_,(au (aH (i6 (pQ (pP (aa 0))) (i6 (pQ (pP (aa 1))) (jc (jg (lR wb) (aa 0) (aa 1) (fQ _))))))),?_⟩;rcases a with _|x
  .walk_at "gz";exact q
  rcases b with _|y
  .walk_at "gz";exact q
  walk_at "gz";exact q
inductive XE(vs:List V)(H:Hp)(Q:VK)(a9:XK):Prop
 | mk(v:V)(a b:En)(n:Int)(_:vs=[v,.int n])(_:aI H v a b)(_:Q (.bl (hold a b n)) H)
theorem KJ(T:Tx K mg):aJ P w K mg base (aK P w) 2 T.q9.a T.q9.fd ["one","number"] XE:=by
 refine okN T.q9.F WN (λvs H Q E h=>?_) (λaG A outer s H vs Q E hr h=>?_)
 .obtain⟨v,a,b,n,rfl,_⟩:=h;rfl
 .obtain⟨v,a,b,n,rfl,⟨p,rfl,hp⟩,q⟩:=h;refine⟨_,(au (aH (i6 (uy (aC T.nk (vm T) hr az (ae (ay (aa 0) ag) (ae (aa 1) ai)))) (jc (uy (aC T.nk (vm T) hr az (ae (aa 1) (ae (ay (aa 0) ag) ai)))))))),?_⟩;walk_at "gz";refine aO (ax.of hp) rfl ⟨a,some n,rfl,?_⟩;unfold hold at q;walk_at "gz";cases hc:aS a (some n) with
  | true =>
   rw[hc] at q;walk_at "gz";exact q
  | false =>
   rw[hc] at q;walk_at "gz";refine aO (ax.of hp) rfl ⟨some n,b,rfl,?_⟩;walk_at "gz";exact q
inductive XF(vs:List V)(H:Hp)(Q:VK)(a9:XK):Prop
 | mk(v u:V)(a b c d:En)(_:vs=[v,u])(_:aI H v a b)(_:aI H u c d)(_:∀ x H',ak H H'->Hf H' x (dQ a c) (dR b d)->Q x H')
theorem Aw(T:Tx K mg):aJ P w K mg base (aK P w) 2 T.o4.a T.o4.fd ["one","other"] XF:=by
 refine okN T.o4.F Al (λvs H Q E h=>?_) (λaG A outer s H vs Q E hr h=>?_)
 .obtain⟨v,u,a,b,c,d,rfl,_⟩:=h;rfl
 .obtain⟨v,u,a,b,c,d,rfl,⟨p,rfl,hp⟩,⟨r,rfl,bT⟩,q⟩:=h;refine⟨_,(aq (aE (i:=2) Al.nd rfl (adv rfl) (QZ rfl rfl T.Kz (dE (b7.mk (fr:=[]) (ys:=[]) rfl (by decide +kernel) rfl (by decide +kernel) rfl rfl .nil .nil (by decide) rfl) rfl (vZ (bE (ae (ay (aa 0) ag) (ae (ay (aa 1) ag) ai)))) (λC s2 H2 ex pn=>⟨(iO (gH (aa 0))),(aa 0)⟩)) cj))
  (aq (aE (i:=3) Al.nd rfl (adv rfl) (Q3 rfl rfl T.pj (dE (b7.mk (fr:=[]) (ys:=[]) rfl (by decide +kernel) rfl (by decide +kernel) rfl rfl .nil .nil (by decide) rfl) rfl (vZ (bE (ae (ay (aa 0) ag) (ae (ay (aa 1) ag) ai)))) (λC s2 H2 ex pn=>⟨(iO (gH (aa 0))),(aa 0)⟩)) cj))
  (aq (aT (dq (aC T.nk (vm T) hr az (ae (aa 2) (ae (aa 3) ai)))) (au (aH cj)) aV)
  (au (aH (bE (ae (aa 2) (ae (aa 3) ai)))))))),?_⟩
  walk_at "gz";refine aO (ax.of hp) rfl (aO (ax.of bT) rfl ?_);walk_at "gz";refine⟨bJ,λt ht=>⟨⟨_,ax.of ar⟩,Hg ar (λx H Q h=>?_) (λx H Q h=>?_) λl hl=>?_⟩⟩
  .walk_at "gz";exact J5 (Q:=λk=>Q k H) h
  .walk_at "gz";exact h
  refine⟨l,rfl,nums a c,ah.of ar,?_⟩;rw[Rq];have s2:=(aw (o:=.tup [ev a,ev c]) ht).trans (aw (o:=.lst ((nums a c).map V.int)) hl);generalize upd (upd H t (.tup [ev a,ev c])) l (.lst ((nums a c).map V.int))=H2 at s2 ⊢;refine aO (ax.of (s2 _ _ hp)) rfl (aO (ax.of (s2 _ _ bT)) rfl ?_);walk_at "gz";refine⟨bJ,λt' XG=>⟨⟨_,ax.of ar⟩,Hg ar (λx H Q h=>?_) (λx H Q h=>?_) λl' nc=>?_⟩⟩
  .walk_at "gz";exact J5 (Q:=λk=>Q k H) h
  .walk_at "gz";exact h
  refine⟨l',rfl,nums b d,ah.of ar,?_⟩;rw[Rr];have s3:=s2.trans ((aw (o:=.tup [ev b,ev d]) XG).trans (aw (o:=.lst ((nums b d).map V.int)) nc));generalize upd (upd H2 t' (.tup [ev b,ev d])) l' (.lst ((nums b d).map V.int))=H3 at s3 ⊢;refine⟨_,_,rfl,?_⟩;cases hc:aS (dQ a c) (dR b d) with
  | true =>
   walk_at "gz";exact q _ _ s3 ⟨λ_=>rfl,λz=>nomatch hc.symm.trans z⟩
  | false =>
   walk_at "gz";exact⟨bJ,λp' bV=>q _ _ (s3.trans (aw bV)) ⟨λz=>(nomatch hc.symm.trans z),λ_=>aI.new⟩⟩
inductive XH(K:acS)(vs:List V)(H:Hp)(Q:VK)(a9:XK):Prop
 | mk(a:ac6)(xs:List V)(as:List S2)(_:vs=[.ref a])(_:ah K H a xs)(_:xs.length<=adz)(_:aU H xs as)(_:∀ v H',ak H H'->lA H' v as->Q v H')
theorem KL(T:Tx K mg):aJ P w K mg base (aK P w) 1 T.rd.a T.rd.fd ["some"] (XH K):=by
 refine okN T.rd.F qX (λvs H Q E h=>?_) (λaG A outer s H vs Q E hr h=>?_)
 .obtain⟨a,xs,as,rfl,_⟩:=h;rfl
 .obtain⟨a,xs,as,rfl,hS,hz,hs,q⟩:=h;refine⟨_,(aq (aT (cQ (bM ed (by rfl) T.dZ dN (ae (aa 0) ai)) ag) (au (aH cj)) aV)
  (aq (oh (i:=1) (b7.mk (fr:=[]) (ys:=[]) rfl (by decide +kernel) rfl (by decide +kernel) rfl rfl .nil .nil (by decide) rfl) rfl qX.nd rfl rfl (ck (aa 0)) (λC s2 H2 ex pn=>⟨dC,(cK (K:=K) (aa 0) ag)⟩))
  (aq (oh (i:=2) (b7.mk (fr:=[]) (ys:=[]) rfl (by decide +kernel) rfl (by decide +kernel) rfl rfl .nil .nil (by decide) rfl) rfl qX.nd rfl rfl (ck (aa 0)) (λC s2 H2 ex pn=>⟨dC,(cK (K:=K) (aa 0) ag)⟩))
  (aq (aE (i:=3) qX.nd rfl (adv rfl) (nO (gQ sH cj (aa 1) (by with_unfolding_all rfl)) cj (bM (Q4 rfl) (by rfl) T.pj nX (ae (aa 1) ai))))
  (aq (aE (i:=4) qX.nd rfl (adv rfl) (nO (gQ sH cj (aa 2) (by with_unfolding_all rfl)) cj (bM (Q0 rfl) (by rfl) T.Kz Gi (ae (aa 2) ai))))
  (au (aH (bE (ae (aa 3) (ae (aa 4) ai)))))))))),?_⟩
  have hl:=hs.len;walk_at "gz";refine⟨_,dz hS,?_⟩;split
  .rename_i h0;have e:as=[]:=aeI.mp (by lia);exact q _ _ (ak.refl H) ⟨λ_=>rfl,λz=>absurd e z⟩
  rename_i h0;have bg:as≠[]:=λz=>h0 (by rw[z] at hl;simp[hl]);refine⟨⟨_,hS⟩,cH fU hz (oi (p:=λ_=>true) (f:=tj H) hS (λx _ Q h=>?_) (λx hx _ Q h=>?_) ?_)⟩
  .walk_at "gz";exact h
  .walk_at "gz";obtain⟨t,_,ht⟩:=hs.mem hx;have e:=ht.fst;obtain⟨p,rfl,hp⟩:=ht;rw[e] at h;exact aO (ax.of hp) rfl h
  rw[adB,filter_all,hs.fst];intro l1 h1;have s1:=aw (o:=.lst (as.map λs=>ev s.1)) h1;have L1:upd H l1 (.lst (as.map λs=>ev s.1)) l1=some (.lst ((as.map (·.1)).map ev)):=by rw[ar,ae1];rfl
  generalize upd H l1 (.lst (as.map λs=>ev s.1))=H1 at s1 L1 ⊢;have qM:=hs.same s1;walk_at "gz";refine⟨⟨_,s1.seq hS⟩,cH fU hz (oi (p:=λ_=>true) (f:=tm H1) (s1.seq hS) (λx _ Q h=>?_) (λx hx _ Q h=>?_) ?_)⟩
  .walk_at "gz";exact h
  .walk_at "gz";obtain⟨t,_,ht⟩:=qM.mem hx;have e:=ht.snd;obtain⟨p,rfl,hp⟩:=ht;rw[e] at h;exact aO (ax.of hp) rfl h
  rw[adB,filter_all,qM.snd];intro l2 h2;have s2:=aw (o:=.lst (as.map λs=>ev s.2)) h2;have L2:upd H1 l2 (.lst (as.map λs=>ev s.2)) l2=some (.lst ((as.map (·.2)).map ev)):=by rw[ar,ae1];rfl
  generalize upd H1 l2 (.lst (as.map λs=>ev s.2))=H2 at s2 L2 ⊢;have KN:=s2 _ _ L1;have Ax:=s1.trans s2;have fin:∀ lo hi,gZ (as.map (·.1)) lo->jt (as.map (·.2)) hi->2<=adz/\∀ p,H2 p=none->Q (.ref p) (upd H2 p (.tup [ev lo,ev hi])):=λlo hi a b =>
   ⟨bJ,λp hp=>q _ _ (Ax.trans (aw hp)) ⟨λz=>absurd z bg,λ_=>⟨lo,hi,aI.new,a,b⟩⟩⟩
  have n1:as.map (·.1)≠[]:=by simpa using bg
  have n2:as.map (·.2)≠[]:=by simpa using bg
  walk_at "gz";refine⟨l1,_,rfl,.inl (ah.of KN),rfl,xo _,?_⟩;rw[if_neg (by decide),xn];walk_at "gz";have part:∀ lo,gZ (as.map (·.1)) lo->sF K false .non (.ref l2) H2 (λz H1=>∃ k,z = .bl k/\if k=true then 2<=adz/\∀ p,H1 p=none->Q (.ref p) (upd H1 p (.tup [ev lo,.non])) else ∃ x,ah K H1 l2 (x.map V.int)/\x≠[]/\2<=adz/\∀ p,H1 p=none->Q (.ref p) (upd H1 p (.tup [ev lo,.int (gW x)]))):=λlo KO=>by
   refine⟨l2,_,rfl,.inl (ah.of L2),rfl,xo _,_,rfl,?_⟩;simp only[adk,↓reduceIte];rw[xn];by_cases hn:(none:En)∈as.map (·.2)
   .rw[decide_eq_true hn,if_pos rfl];exact fin lo none KO (tu hn)
   .rw[decide_eq_false hn,if_neg (by decide)];exact⟨_,ah.of (by rw[L2,xq hn]),Hj hn n2,fin lo _ KO (Hl hn n2)⟩
  split
  .rename_i hn;exact part none (tq hn)
  .rename_i hn;exact⟨_,ah.of (by rw[KN,xq hn]),Hj hn n1,part _ (Hk hn n1)⟩
inductive KP(vs:List V)(H:Hp)(Q:VK)(a9:XK):Prop
 | mk(v:V)(s:S2)(_:vs=[v])(_:aI H v s.1 s.2)(_:∀ p,H p=none->Q (.ref p) (upd H p (.tup ((cP s.1).map V.int))))
theorem XI(T:Tx K mg):aJ P w K mg base (aK P w) 1 T.rf.a T.rf.fd ["one"] KP:=by
 refine okN T.rf.F WO (λvs H Q E h=>?_) (λaG A outer s H vs Q E hr h=>?_)
 .obtain⟨v,s,rfl,_⟩:=h;rfl
 .obtain⟨v,⟨a,b⟩,rfl,⟨p,rfl,hp⟩,q⟩:=h;refine⟨_,(aq (aT (ig (ay (aa 0) ag)) (au (aH (bE (ae ag (ae ag ai))))) aV)
  (au (aH (bE (ae ag (ae (ay (aa 0) ag) ai)))))),?_⟩
  walk_at "gz";refine aO (ax.of hp) rfl ?_;rcases a with _|x
  .walk_at "gz";exact⟨bJ,q⟩
  .walk_at "gz";refine aO (ax.of hp) rfl ?_;walk_at "gz";exact⟨bJ,q⟩
theorem KQ:∀ {xs:List V} {as:List S2} {ks:List V} {kis:List (List Int)} {H:Hp} {Q:List V->Hp->Prop},aU H xs as->bY K H ks kis->(∀ jq H',ak H H'->bY K H' jq (kis++as.map λs=>cP s.1)->Q jq H')->mJ KP xs ks H Q
 | [],[],ks,kis,H,Q,_,hk,q=>q ks H (ak.refl H) (by rw[ahb,aiS];exact hk)
 | x::xs,s::as,ks,kis,H,Q,hs,hk,q=>by
  refine⟨x,s,rfl,hs.1,λp hp=>?_⟩;have s1:=aw (o:=.tup ((cP s.1).map V.int)) hp;refine KQ (hs.2.same s1) (kis:=kis++[cP s.1]) (bY.snoc (ax.of ar) ?_ (hk.same s1)) λjq H' s' dB=>q jq H' (s1.trans s') ?_
  .rcases s.1 with _|y<;>exact λz=>nomatch z
  .rw[adq];rwa [afc] at dB
 | [],_::_,_,_,_,_,h,_,_=>h.elim
 | _::_,[],_,_,_,_,h,_,_=>h.elim
inductive XJ(vs:List V)(H:Hp)(Q:VK)(a9:XK):Prop
 | mk(v u:V)(s t:S2)(_:vs=[v,u])(_:aI H v s.1 s.2)(_:aI H u t.1 t.2)(_:Q (.bl (gap s t)) H)
theorem XM(T:Tx K mg):aJ P w K mg base (aK P w) 1 T.uG.a T.uG.fd ["one","later"] XJ:=by
 refine okN T.uG.F WQ (λvs H Q E h=>?_) (λaG A outer s H vs Q E hr h=>?_)
 .obtain⟨v,u,s,t,rfl,_⟩:=h;rfl
 .obtain⟨v,u,⟨a,b⟩,⟨c,d⟩,rfl,⟨p,rfl,hp⟩,⟨r,rfl,bT⟩,q⟩:=h;refine⟨_,(au (aH (i6 (pQ (pP (ay (aa 0) ag))) (i6 (pQ (pP (ay (aa 1) ag))) (jc (jg (lR wb) (ay (aa 1) ag) (aD bb (ay (aa 0) ag) ag) (fQ _))))))),?_⟩;walk_at "gz";refine aO (ax.of hp) rfl ?_;rcases b with _|y
  .walk_at "gz";exact q
  .walk_at "gz";refine aO (ax.of bT) rfl ?_;rcases c with _|z
   .walk_at "gz";exact q
   .walk_at "gz";refine aO (ax.of bT) rfl (aO (ax.of hp) rfl ?_);walk_at "gz";exact q
inductive KR(K:acS)(H:Hp)(a r l:ac6)(zs:List V)(ss:List S2)(i:Nat)(σ:St)(H1:Hp):Prop
 | mk(ys:List V)(e:Option V)(_:σ=[some (.ref a),some (.ref r),e])(_:ak H H1)(_:H1 r=some (.lst ys))(_:aU H1 ys (hJ ((ss.take i).foldl dS none)))(_:ah K H1 l zs)(_:aU H1 zs ss)(_:ys.length<=i)
inductive XN(K:acS)(vs:List V)(H:Hp)(Q:VK)(a9:XK):Prop
 | mk(a:ac6)(xs:List V)(as:List S2)(_:vs=[.ref a])(_:ah K H a xs)(_:xs.length<64)(_:aU H xs as)(_:∀ l ys H',ak H H'->H l=none->H' l=some (.lst ys)->aU H' ys (mP as)->Q (.ref l) H')
theorem XO(T:Tx K mg):aJ P w K mg base (aK P w) 4 T.uH.a T.uH.fd ["some"] (XN K):=by
 refine okN T.uH.F Am (λvs H Q E h=>?_) (λaG A outer s H vs Q E hr h=>?_)
 .obtain⟨a,xs,as,rfl,_⟩:=h;rfl
 .obtain⟨a,xs,as,rfl,hS,hz,hs,q⟩:=h;refine⟨_,(aq (aE (i:=1) Am.nd rfl (adv rfl) (cM ai))
  (aq (cL adK rfl (ck (Rf (XI T) (λ_ _ _ _ _ z=>Gn z) (hr.mono (by decide)) T.rf.b rfl T.rf.m rfl T.vg (aa 0))) (bf (i:=2) Am.nd rfl (adv rfl)) (au (aT (PW.pt (eS (cQ (bM ed (by rfl) T.dZ dN (ae (aa 1) ai)) ag) (gO (dq (aC T.uG (XM T) hr az (ae (ay (aa 1) (fP gi ag)) (ae (aa 2) ai))))))) (au (gp (mD aeq aey aez mE (aa 1) (ae (aa 2) ai)))) (au (sq (aC T.rd (KL T) hr az (ae (cM (ae (ay (aa 1) (fP gi ag)) (ae (aa 2) ai))) ai)) (so (aa 1) (fP gi ag) set_list))))))
  (au (aH (aa 1))))),?_⟩
  walk_at "gz";refine⟨by decide,λr bT=>?_⟩;have s1:=aw (o:=.lst []) bT;have R1:upd H r (.lst []) r=some (.lst []):=ar;generalize upd H r (.lst [])=H1 at s1 R1 ⊢;refine⟨a,xs,rfl,s1.seq hS,hz,KQ (hs.same s1) (ks:=[]) (kis:=[]) trivial λks H2 s2 hk=>⟨_,hk,λl hl=>?_⟩⟩;rw[adB];have s3:=(s1.trans s2).trans (aw (o:=.lst (br (as.map λs=>cP s.1) .non xs)) hl);have L3:upd H2 l (.lst (br (as.map λs=>cP s.1) .non xs)) l=some (.lst (br (as.map λs=>cP s.1) .non xs)):=ar;have R3:=aw (o:=.lst (br (as.map λs=>cP s.1) .non xs)) hl _ _ (s2 _ _ R1);have Z3:=(hs.same s3).sort (kis:=as.map λs=>cP s.1);generalize upd H2 l (.lst (br (as.map λs=>cP s.1) .non xs))=H3 at s3 L3 R3 Z3 ⊢;have zl:(br (as.map λs=>cP s.1) .non xs).length<64:=by rw[n6];exact hz
  have rl:r≠l:=λz=>by rw[z] at R1;rw[s2 _ _ R1] at hl;cases hl
  unfold mP at q;generalize br (as.map λs=>cP s.1) .non xs=zs at L3 Z3 zl ⊢;generalize br (as.map λs=>cP s.1) (none,none) as=ss at Z3 q;walk_at "gz";refine⟨⟨_,ah.of L3⟩,jm (xs:=zs) (KR K H a r l zs ss) ⟨[],none,rfl,s3,R3,trivial,ah.of L3,Z3,ac8 _⟩ ?_ ?_ ?_⟩
  .rintro i σ H4 _ ⟨_,_,_,_,_,_,h,_⟩;exact h
  .rintro i x σ H4 hx ⟨ys,e,rfl,s4,R4,Y4,L4,Z4,hy⟩;obtain⟨s,es,hsx⟩:=Z4.get hx;have hi:i<zs.length:=(ade.mp hx).1;have tk:(ss.take (i+1)).foldl dS none=dS ((ss.take i).foldl dS none) s:=by rw[aeM,es,ah9];rfl
   have XQ:∀ o,ah K (upd H4 r o) l zs:=λo=>by
    rcases L4 with (h|⟨z,h⟩)|h
    .exact .inl (.inl (by rw[aB (adP rl)];exact h))
    .exact .inl (.inr ⟨z,by rw[aB (adP rl)];exact h⟩)
    .exact .inr h
   have app:∀ R,dS ((ss.take i).foldl dS none) s=R->aU H4 (ys++[x]) (hJ R)->sI K "list" (.ref r) H4/\∃ Ay,H4 r=some (.lst Ay)/\Ay.length<adz/\KR K H a r l zs ss (i+1) [some (.ref a),some (.ref r),some x] (upd H4 r (.lst (Ay++[x]))):=λR eR hY=>by
    refine⟨.inl ⟨rfl,_,ah.of R4⟩,ys,R4,aeg hy (adn (by lia:i<64) (by decide)),ys++[x],_,rfl,iL bT s4,ar,?_,XQ _,aU.put R4 Z4,?_⟩
    .rw[tk,eR];exact aU.put R4 hY
    .rw[adj,adh];lia
   walk_at "gz";cases hR:(ss.take i).foldl dS none with
   | none =>
    rw[hR] at Y4 app;have e0:ys=[]:=aeI.mp (by have:=Y4.len;simpa [hJ] using this);refine⟨_,dz (ah.of R4),?_⟩;rw[if_pos (by rw[e0];rfl)];refine app _ rfl ?_;rw[e0];exact⟨hsx,trivial⟩
   | some ip =>
    obtain⟨is,p⟩:=ip;rw[hR] at Y4 app;obtain⟨ws,v,e0,W4,hv⟩:=aU.snoc_inv Y4;have il:cO ys (-1)=some v:=by rw[e0];exact wA ws v
    refine⟨_,dz (ah.of R4),?_⟩;rw[if_neg (by rw[e0,adj,adh];lia)];refine aN (ah.of R4) il ⟨v,x,p,s,rfl,hv,hsx,?_⟩;cases hg:gap p s with
    | true =>
     walk_at "gz";refine app _ (by simp only[dS];rw[if_pos hg]) ?_;exact aU.app Y4 ⟨hsx,trivial⟩
    | false =>
     walk_at "gz";refine aN (ah.of R4) il ⟨bJ,λm hm=>?_⟩;have s5:=aw (o:=.lst [v,x]) hm;refine⟨m,[v,x],[p,s],rfl,ah.of ar,bJ,⟨hv.same s5,hsx.same s5,trivial⟩,λw H5 s6 hw=>?_⟩;have s7:=s5.trans s6;have R5:=s7 _ _ R4;walk_at "gz";refine⟨ys,R5,ys.length-1,?_,ws++[w],_,rfl,iL bT (s4.trans s7),?_,?_,?_,aU.put R5 (Z4.same s7),?_⟩
     .unfold gR;rw[if_neg (by decide),if_pos (by rw[e0,adj,adh];lia)]
      congr 1
      lia
     .rw[ar,e0,adj,adh,ajV,List.set_append_right _ _ (ac8 _),ahK];rfl
     .rw[tk,hR];simp only[dS];rw[if_neg (by rw[hg];decide)];exact aU.put R5 (aU.app (W4.same s7) ⟨hw.two,trivial⟩)
     .rcases s7.seq L4 with (h|⟨z,h⟩)|h
      .exact .inl (.inl (by rw[aB (adP rl)];exact h))
      .exact .inl (.inr ⟨z,by rw[aB (adP rl)];exact h⟩)
      .exact .inr h
     .rw[adj,adh];rw[e0,adj,adh] at hy;lia
  .rintro σ H4 ⟨ys,e,rfl,s4,R4,Y4,L4,Z4,hy⟩;walk_at "gz";rw[agM (by rw[<- Z4.len];exact ac8 _)] at Y4;exact q _ _ _ s4 bT R4 Y4
noncomputable def gL(e t u d m:Int):Prop:=(1<=e/\e<=7)/\(1<=t/\t<=12)/\0<=u/\0<=d/\0<=m/\m<=e
noncomputable def Az(e t u d m:Int)(p:ac6):List (Str × V):=[("eyes",.int e),("turns",.int t),("up",.int u),("down",.int d),("most",.int m),("told",.ref p)]
inductive XR(B C:ac6)(vs:List V)(H:Hp)(Q:VK)(E:XK):Prop
 | mk(x dx:ac6)(e t u d m:Int)(_:vs=[.ref x,.int e,.int t,.int u,.int d,.int m])(_:H x=some (.ins B dx []))(_:(¬ gL e t u d m->E (.ref C) none H))(_:(gL e t u d m->∀ p H',H p=none->SameBut x H H'->H' x=some (.ins B dx (Az e t u d m p))->H' p=some (.dT [])->Q .non H'))
theorem XS(T:Tx K mg):aJ P w K mg base (aK P w) 1 T.rE.a T.rE.fd ["self","eyes","turns","up","down","most"] (XR T.aQ T.gJ):=by
 refine jS T.rE.F Xd (λvs H Q E h=>?_) (λaG A outer s H vs Q E hr h=>?_)
 .obtain⟨x,dx,e,t,u,d,m,rfl,_⟩:=h;rfl
 .obtain⟨x,dx,e,t,u,d,m,rfl,hx,q0,q⟩:=h;refine⟨_,(aq (aT (PW.pt (eS (d8 (y7 iF iF ag (aa 1) (Ih T.Xw rfl))) (gO (d8 (y7 iF iF ag (aa 2) (Ih T.Xx rfl)))))) (au (mG mH rfl T.As T.Av rfl (ae cX ai))) aV)
  (aq (aT (PW.pt (eS (qW (aa 3) ag) (gO (qW (aa 4) ag)))) (au (mG mH rfl T.As T.Av rfl (ae cX ai))) aV)
  (aq (aT (d8 (y7 iF iF ag (aa 5) (aa 1))) (au (mG mH rfl T.As T.Av rfl (ae cX ai))) aV)
  (aq (oU (aa 0) (aa 1) rfl)
  (aq (oU (aa 0) (aa 2) rfl)
  (aq (oU (aa 0) (aa 3) rfl)
  (aq (oU (aa 0) (aa 4) rfl)
  (aq (oU (aa 0) (aa 5) rfl)
  (au (oU (aa 0) Ig rfl)))))))))),?_⟩
  walk_at "gz";have no:∀ D σ,¬ gL e t u d m->∀ x,Gu T.gJ E (wk (tC (.str x)) sD) D σ H:=λD σ z x=>⟨by show 1<=adz;decide,q0 z⟩
  refine bA (λh1=>bA (λh2=>?_) λh2=>no _ _ (λz=>by unfold gL at z;lia) _) λh1=>no _ _ (λz=>by unfold gL at z;lia) _;refine bA (λh3=>bA (λh4=>?_) λh4=>no _ _ (λz=>by unfold gL at z;lia) _) λh3=>no _ _ (λz=>by unfold gL at z;lia) _;refine bA (λh5=>no _ _ (λz=>by unfold gL at z;lia) _) λh5=>bA (λh6=>no _ _ (λz=>by unfold gL at z;lia) _) λh6=>?_;refine bA (λh7=>bA (λh8=>?_) λh8=>no _ _ (λz=>by unfold gL at z;lia) _) λh7=>no _ _ (λz=>by unfold gL at z;lia) _;replace q:=q (by unfold gL;lia);refine⟨_,_,_,hx,T.bN,T.kC,(by show 0<1000;decide),_,_,_,ar,T.bN,T.kD,(by show 1<1000;decide),_,_,_,ar,T.bN,T.pq,(by show 2<1000;decide),_,_,_,ar,T.bN,T.pw,(by show 3<1000;decide),_,_,_,ar,T.bN,T.lX,(by show 4<1000;decide),?_⟩;rw[r9,r9,r9,r9];intro p hp;have KS:p≠x:=λz=>by rw[z,ar] at hp;cases hp
  refine⟨_,_,_,(aw hp) _ _ ar,T.bN,T.lY,(by show 5<1000;decide),q p _ (by rw[aB KS] at hp;exact hp) (λb o hb e=>?_) ar ?_⟩
  .rw[aB hb];exact (aw hp) _ _ (by rw[aB hb];exact e)
  .rw[aB KS,ar]
structure iq(B:ac6)(H:Hp)(x:ac6)(e t u d m:Int)(p:ac6)(kvs:List (List Key × V)):Prop where
 ob:∃ dx,H x=some (.ins B dx (Az e t u d m p))
 tb:H p=some (.dT kvs)
theorem iq.same{B:ac6}{H H':Hp}{x p:ac6}{e t u d m:Int}{kvs:List (List Key × V)}(h:iq B H x e t u d m p kvs)(s:ak H H'):iq B H' x e t u d m p kvs:=let ⟨⟨dx,a⟩,b⟩:=h;⟨⟨dx,s _ _ a⟩,s _ _ b⟩
inductive XT(B:ac6)(vs:List V)(H:Hp)(Q:VK)(a9:XK):Prop
 | mk(x p:ac6)(e t u d m i:Int)(kvs:List (List Key × V))(_:vs=[.ref x,.int i])(_:iq B H x e t u d m p kvs)(_:Q (.bl (decide (0<=i/\i<e))) H)
inductive XU(B:ac6)(vs:List V)(H:Hp)(Q:VK)(a9:XK):Prop
 | mk(x p:ac6)(e t u d m i:Int)(kvs:List (List Key × V))(_:vs=[.ref x,.int i])(_:iq B H x e t u d m p kvs)(_:Q (.bl (decide (0<=i/\i<t))) H)
theorem XW(T:Tx K mg):aJ P w K mg base (aK P w) 1 T.rF.a T.rF.fd ["self","eye"] (XT T.aQ):=by
 refine okN T.rF.F Xe (λvs H Q E h=>?_) (λaG A outer s H vs Q E hr h=>?_)
 .obtain⟨x,p,e,t,u,d,m,i,kvs,rfl,_⟩:=h;rfl
 .obtain⟨x,p,e,t,u,d,m,i,kvs,rfl,⟨⟨dx,hx⟩,hp⟩,q⟩:=h;refine⟨_,(au (aH (Fh iF sy ag (aa 1) (fh rfl (aa 0) rfl)))),?_⟩;walk_at "gz";refine bA (λh1=>?_) λh1=>?_
  .refine⟨_,_,_,hx,T.bN,T.kC,_,rfl,?_⟩;walk_at "gz";rw[show decide (0<=i/\i<e)=decide (i<e) by simp[h1]] at q;exact q
  .rw[show decide (0<=i/\i<e)=false by simp[h1]] at q;exact q
theorem rM(T:Tx K mg):aJ P w K mg base (aK P w) 1 T.kB.a T.kB.fd ["self","turn"] (XU T.aQ):=by
 refine okN T.kB.F Xf (λvs H Q E h=>?_) (λaG A outer s H vs Q E hr h=>?_)
 .obtain⟨x,p,e,t,u,d,m,i,kvs,rfl,_⟩:=h;rfl
 .obtain⟨x,p,e,t,u,d,m,i,kvs,rfl,⟨⟨dx,hx⟩,hp⟩,q⟩:=h;refine⟨_,(au (aH (Fh iF sy ag (aa 1) (fh rfl (aa 0) rfl)))),?_⟩;walk_at "gz";refine bA (λh1=>?_) λh1=>?_
  .refine⟨_,_,_,hx,T.bN,T.kD,_,rfl,?_⟩;walk_at "gz";rw[show decide (0<=i/\i<t)=decide (i<t) by simp[h1]] at q;exact q
  .rw[show decide (0<=i/\i<t)=false by simp[h1]] at q;exact q
inductive XX(B C:ac6)(vs:List V)(H:Hp)(Q:VK)(E:XK):Prop
 | mk(x p:ac6)(e t u d m i j:Int)(kvs:List (List Key × V))(_:vs=[.ref x,.int i,.int j])(_:iq B H x e t u d m p kvs)(_:(¬ ((0<=i/\i<e)/\0<=j/\j<t)->E (.ref C) none H))(_:((0<=i/\i<e)/\0<=j/\j<t->Q .non H))
theorem XY(T:Tx K mg):aJ P w K mg base (aK P w) 2 T.rG.a T.rG.fd ["self","eye","turn"] (XX T.aQ T.gK):=by
 refine jS T.rG.F Xi (λvs H Q E h=>?_) (λaG A outer s H vs Q E hr h=>?_)
 .obtain⟨x,p,e,t,u,d,m,i,j,kvs,rfl,_⟩:=h;rfl
 .obtain⟨x,p,e,t,u,d,m,i,j,kvs,rfl,hb,q0,q⟩:=h;refine⟨_,(au (aT (PW.pt (eS (d8 (dq (jN (aa 0) T.bN T.Xu (XW T) (hr.mono (by decide)) T.rF.b .nil az (ae (aa 1) ai)))) (gO (d8 (dq (jN (aa 0) T.bN T.rL (rM T) (hr.mono (by decide)) T.kB.b .nil az (ae (aa 2) ai))))))) (au (mG mH rfl T.KC T.KH rfl (ae cX ai))) aV)),?_⟩;obtain⟨⟨dx,hx⟩,hp⟩:=id hb;walk_at "gz";refine⟨_,_,hx,rfl,x,p,e,t,u,d,m,i,kvs,rfl,hb,?_⟩;by_cases h1:0<=i/\i<e
  .rw[decide_eq_true h1];walk_at "gz";refine⟨_,_,hx,rfl,x,p,e,t,u,d,m,j,kvs,rfl,hb,?_⟩;by_cases h2:0<=j/\j<t
   .rw[decide_eq_true h2];walk_at "gz";exact q ⟨h1,h2⟩
   .rw[decide_eq_false h2];walk_at "gz";exact⟨by decide,q0 λz=>h2 z.2⟩
  .rw[decide_eq_false h1];walk_at "gz";exact⟨by decide,q0 λz=>h1 z.1⟩
inductive XZ(B C:ac6)(vs:List V)(H:Hp)(Q:VK)(E:XK):Prop
 | mk(x p:ac6)(e t u d m i j:Int)(lo hi:En)(kvs:List (List Key × V))(_:vs=[.ref x,.int i,.int j,ev lo,ev hi])(_:iq B H x e t u d m p kvs)(_:kvs.length<1000)(_:(¬ (((0<=i/\i<e)/\0<=j/\j<t)/\aS lo hi=false)->E (.ref C) none H))(_:(((0<=i/\i<e)/\0<=j/\j<t)/\aS lo hi=false->∀ v H',SameBut p H H'->H' p=some (.dT (putK kvs (cA i j) v))->aI H' v lo hi->Q .non H'))
theorem KU(T:Tx K mg):aJ P w K mg base (aK P w) 3 T.o8.a T.o8.fd ["self","eye","turn","lo","hi"] (XZ T.aQ T.gK):=by
 refine jS T.o8.F Xg (λvs H Q E h=>?_) (λaG A outer s H vs Q E hr h=>?_)
 .obtain⟨x,p,e,t,u,d,m,i,j,lo,hi,kvs,rfl,_⟩:=h;rfl
 .obtain⟨x,p,e,t,u,d,m,i,j,lo,hi,kvs,rfl,hb,hl,q0,q⟩:=h;refine⟨_,(aq (gp (jN (aa 0) T.bN T.Xv (XY T) (hr.mono (by decide)) T.rG.b .nil pZ (ae (aa 1) (ae (aa 2) ai))))
  (aq (aT (dq (aC T.nk (vm T) hr az (ae (aa 3) (ae (aa 4) ai)))) (au (mG mH rfl T.KC T.KH rfl (ae cX ai))) aV)
  (au (xW (fS hr) (fh rfl (aa 0) rfl) (bE (ae (aa 1) (ae (aa 2) ai))) (bE (ae (aa 3) (ae (aa 4) ai))) rfl)))),?_⟩
  obtain⟨⟨dx,hx⟩,hp⟩:=id hb;walk_at "gz";refine⟨_,_,hx,rfl,x,p,e,t,u,d,m,i,j,kvs,rfl,hb,λz=>q0 λy=>z y.1,λcG=>?_⟩;refine⟨lo,hi,rfl,?_⟩;cases hc:aS lo hi with
  | true =>
   walk_at "gz";exact⟨by decide,q0 λz=>by rw[hc] at z;cases z.2⟩
  | false =>
   walk_at "gz";refine⟨bJ,λv hv=>⟨_,_,_,(aw hv) _ _ hx,T.bN,T.lY,_,rfl,bJ,λk hk=>?_⟩⟩;have s2:=(aw (o:=.tup [ev lo,ev hi]) hv).trans (aw (o:=.tup [.int i,.int j]) hk);refine⟨p,rfl,_,mT.t (k:=cA i j) (s2 _ _ hp) ar (alF hl (by decide)),q ⟨cG,hc⟩ (.ref v) _ (λb o yT e=>?_) ar ⟨v,rfl,?_⟩⟩
   .rw[aB yT];exact s2 _ _ e
   .have vp:v≠p:=λz=>by rw[z] at hv;rw[hp] at hv;cases hv
    rw[aB vp];exact (aw hk) _ _ ar
variable{P:ado}{w:adM}{K:acS}{mg:Str->Option acY}{base:aeA}
structure dr(B:ac6)(H:Hp)(x:ac6)(e t u d m:Int)(p:ac6)(tb:Tb):Prop where
 ob:∃ dx,H x=some (.ins B dx (Az e t u d m p))
 tb:TabAt H p tb
theorem dr.same{B:ac6}{H H':Hp}{x p:ac6}{e t u d m:Int}{tb:Tb}(h:dr B H x e t u d m p tb)(s:ak H H'):dr B H' x e t u d m p tb:=let ⟨⟨dx,a⟩,b⟩:=h;⟨⟨dx,s _ _ a⟩,b.same s⟩
inductive X0(B:ac6)(vs:List V)(H:Hp)(Q:VK)(a9:XK):Prop
 | mk(x p:ac6)(e t u d m:Int)(tb:Tb)(_:vs=[.ref x])(_:dr B H x e t u d m p tb)(_:(tb.map (·.1)).Nodup)(_:tb.length<64)(_:∀ l xs H',ak H H'->H l=none->H' l=some (.lst xs)->ao (fG H') xs (iW tb)->Q (.ref l) H')
theorem AA(T:Tx K mg):aJ P w K mg base (aK P w) 1 T.nq.a T.nq.fd ["self"] (X0 T.aQ):=by
 refine okN T.nq.F Xh (λvs H Q E h=>?_) (λaG A outer s H vs Q E hr h=>?_)
 .obtain⟨x,p,e,t,u,d,m,tb,rfl,_⟩:=h;rfl
 .obtain⟨x,p,e,t,u,d,m,tb,rfl,⟨⟨dx,hx⟩,kvs,hp,hT⟩,hn,bH,q⟩:=h;refine⟨_,(au (aH (dE (b7.mk (fr:=[0]) (ys:=["self"]) rfl (by decide +kernel) rfl (by decide +kernel) rfl rfl (.cons rfl .nil) (.cons rfl rfl rfl rfl .nil) (by decide) rfl) rfl (ck (bM (Sz rfl) (by rfl) T.vg sO (ae (fh rfl (aa 0) rfl) ai))) (λC s2 H2 ex pn=>⟨dC,(bE (ae (cK (K:=K) (aa 0) ag) (ae (cK (K:=K) (aa 0) ag) (ae (Ii (fS hr) (fh (K:=K) rfl (aa 1) rfl) (aa 0) (λ_ _=>rfl)) ai))))⟩)))),?_⟩;walk_at "gz";refine⟨_,_,_,hx,T.bN,T.lY,_,rfl,p,rfl,kvs,hp,gE tb,SH hT,SJ,by rw[hT.len];exact bH,λl ys hl hk=>?_⟩;have PS:=Im hT hk;have s1:=aw (o:=.lst (br (gE tb) .non ys)) hl;have L1:upd H l (.lst (br (gE tb) .non ys)) l=some (.lst (br (gE tb) .non ys)):=ar;generalize upd H l (.lst (br (gE tb) .non ys))=H1 at s1 L1 ⊢;refine⟨⟨_,ah.of L1⟩,cH fU (adb (by rw[PS.len,j8];exact ag8 bH:_<=64) (by decide)) (fF (R:=λH x (r:P2 × S2)=>cE H x r.1) (R':=λH y (r:P2 × S2)=>fG H y r) (f:=λr=>r) (bs:=[]) (λ_ _ _ _ s r=>cE.same r s) (λ_ _ _ _ s r=>fG.same r s) (PS.imp λx r z=>cE.same z s1) trivial (λH' s'=>ah.of (s' _ _ L1)) (λx r _ H' s' bT Q h=>?_) (λx r bT H' s' h0 Q h=>?_) λH2 zs s2 hz=>?_)⟩
  .walk_at "gz";exact h
  .obtain⟨a,rfl,ha⟩:=id h0;have S:=s1.trans s';have X2:=hT.imp λv a b z=>aI.same z S;obtain⟨w,hw,iw⟩:=(X2.val r.1).2 _ (tP hn (lD bT));walk_at "gz";refine aO (ax.of ha) rfl (aO (ax.of ha) rfl ⟨_,_,_,S _ _ hx,T.bN,T.lY,_,rfl,p,rfl,w,?_,?_⟩)
   .rw[<- hw];exact fc.t (k:=cA r.1.1 r.1.2) (S _ _ hp) ha
   .exact⟨by decide,λz hz=>h _ _ (aw hz) ⟨z,w,rfl,ar,aI.same iw (aw hz)⟩⟩
  rw[adB,ajg] at hz;exact λl2 ba=>q l2 zs _ (s1.trans (s2.trans (aw ba))) ((s1.trans s2).free ba) ar (hz.imp λx r z=>fG.same z (aw ba))
inductive X3(K:acS)(vs:List V)(H:Hp)(Q:VK)(a9:XK):Prop
 | mk(a:ac6)(xs:List V)(ss:List S2)(_:vs=[.ref a])(_:ah K H a xs)(_:aU H xs ss)(_:xs.length<=1000)(_:∀ v H',ak H H'->fb H' v (cJ (none,none) ss)->Q v H')
inductive X4(K:acS)(H:Hp)(a:ac6)(xs:List V)(ss:List S2)(i:Nat)(σ:St)(H1:Hp):Prop
 | mk(v:V)(e:Option V)(_:σ=[some (.ref a),some v,e])(_:ak H H1)(_:aI H1 v (cb (none,none) (ss.take i)).1 (cb (none,none) (ss.take i)).2)(_:aS (cb (none,none) (ss.take i)).1 (cb (none,none) (ss.take i)).2=false)
theorem AB(T:Tx K mg):aJ P w K mg base (aK P w) 3 T.o5.a T.o5.fd ["some"] (X3 K):=by
 refine okN T.o5.F uA (λvs H Q E h=>?_) (λaG A outer s H vs Q E hr h=>?_)
 .obtain⟨a,xs,ss,rfl,_⟩:=h;rfl
 .obtain⟨a,xs,ss,rfl,hS,hP,hn,q⟩:=h;refine⟨_,(aq (aE (i:=1) uA.nd rfl (adv rfl) (bE (ae cj (ae cj ai))))
  (aq (cL adK rfl (ck (aa 0)) (bf (i:=2) uA.nd rfl (adv rfl)) (aq (aE (i:=1) uA.nd rfl (adv rfl) (aC T.o4 (Aw T) hr az (ae (aa 1) (ae (aa 2) ai))))
    (au (aT (ig (aa 1)) (au (aH cj)) aV))))
  (au (aH (aa 1))))),?_⟩
  have hA:=j9.mp hP;have hl:=hA.len;walk_at "gz";refine⟨bJ,λp hp=>?_⟩;have s0:=aw (o:=.tup [.non,.non]) hp;refine⟨⟨_,s0.seq hS⟩,jm (xs:=xs) (X4 K H a xs ss) ⟨_,_,rfl,s0,⟨p,rfl,ar⟩,rfl⟩ ?_ ?_ ?_⟩
  .rintro i σ H1 _ ⟨_,_,_,s1,_⟩;exact s1.seq hS
  .rintro i x σ H1 hx ⟨v,e,rfl,s1,hv,hc⟩;obtain⟨w,hw,r⟩:=hA.get hx;have e1:=SN (e:=(none,none)) hw;walk_at "gz";refine⟨v,x,_,_,w.1,w.2,rfl,hv,r.same s1,λy H2 s2 hm=>?_⟩;have oI:Hf H2 y (cb (none,none) (ss.take (i+1))).1 (cb (none,none) (ss.take (i+1))).2:=by rw[e1];exact hm
   cases hk:aS (cb (none,none) (ss.take (i+1))).1 (cb (none,none) (ss.take (i+1))).2 with
   | true =>
    have ey:=oI.1 hk;subst ey;walk_at "gz";refine q _ _ (s1.trans s2) ?_;unfold cJ;rw[if_pos (SM hk)];rfl
   | false =>
    have hy:=oI.2 hk;obtain⟨t,rfl,ht⟩:=id hy;walk_at "gz";exact⟨_,_,rfl,s1.trans s2,hy,hk⟩
  .rintro σ H1 ⟨v,e,rfl,s1,hv,hc⟩;walk_at "gz";rw[hl,aeX] at hv hc;refine q _ _ s1 ?_;unfold cJ;rw[if_neg (by rw[hc];simp)];exact hv
inductive X5(B:ac6)(vs:List V)(H:Hp)(Q:VK)(a9:XK):Prop
 | mk(x p:ac6)(e t u d m i:Int)(k:Str)(kvs:List (List Key × V))(_:vs=[.ref x,.str k,.int i])(_:iq B H x e t u d m p kvs)(_:Q (.bl (hasB t k i)) H)
theorem X6(T:Tx K mg):aJ P w K mg base (aK P w) 2 T.uM.a T.uM.fd ["board","kind","turn"] (X5 T.aQ):=by
 refine okN T.uM.F WV (λvs H Q E h=>?_) (λaG A outer s H vs Q E hr h=>?_)
 .obtain⟨x,p,e,t,u,d,m,i,k,kvs,rfl,_⟩:=h;rfl
 .obtain⟨x,p,e,t,u,d,m,i,k,kvs,rfl,hb,q⟩:=h;refine⟨_,(aq (aT (cQ (aa 1) cX) (au (aH (i6 (jN (aa 0) T.bN T.rL (rM T) (hr.mono (by decide)) T.kB.b .nil az (ae (aa 2) ai)) (jc (jN (aa 0) T.bN T.rL (rM T) (hr.mono (by decide)) T.kB.b .nil az (ae (aD bb (aa 2) ag) ai)))))) aV)
  (au (aH (i6 (jg Fg (aa 1) cX (fQ _)) (jc (jN (aa 0) T.bN T.rL (rM T) (hr.mono (by decide)) T.kB.b .nil az (ae (aa 2) ai))))))),?_⟩
  obtain⟨⟨dx,hx⟩,hp⟩:=id hb;unfold hasB at q;walk_at "gz"
  try refine⟨rfl,?_⟩
  by_cases hk:k = "step"
  .subst hk;rw[if_pos rfl] at q ⊢;refine⟨_,_,hx,rfl,x,p,e,t,u,d,m,i,kvs,rfl,hb,?_⟩;by_cases h1:0<=i/\i<t
   .rw[decide_eq_true h1] at q ⊢;walk_at "gz";refine⟨_,_,hx,rfl,x,p,e,t,u,d,m,_,kvs,rfl,hb,?_⟩;rw[aio] at q;exact q
   .rw[decide_eq_false h1] at q ⊢;walk_at "gz";exact q
  .rw[if_neg hk] at q;rw[if_neg hk]
   try refine⟨rfl,?_⟩
   by_cases dF:k = "at"
   .subst dF;rw[decide_eq_true rfl,aio] at q;rw[if_pos rfl];refine⟨_,_,hx,rfl,x,p,e,t,u,d,m,i,kvs,rfl,hb,?_⟩;exact q
   .rw[decide_eq_false dF,aju] at q;rw[if_neg λz=>dF (V.str.inj z)];exact q
inductive X7(K:acS)(B C:ac6)(vs:List V)(H:Hp)(Q:VK)(E:XK):Prop
 | mk(x p b:ac6)(e t u d m:Int)(kvs:List (List Key × V))(xs:List V)(ps:List Pa)(_:vs=[.ref x,.ref b])(_:iq B H x e t u d m p kvs)(_:ah K H b xs)(_:dG H xs ps)(_:(¬ f7 t ps->E (.ref C) none H))(_:(f7 t ps->Q .non H))
inductive X9(H:Hp)(x b:ac6)(t:Int)(ps:List Pa)(i:Nat)(σ:St)(H1:Hp):Prop
 | mk(e:Option V)(_:σ=[some (.ref x),some (.ref b),e])(_:H1=H)(_:f7 t (ps.take i))
theorem KW(T:Tx K mg):aJ P w K mg base (aK P w) 3 T.kA.a T.kA.fd ["board","claim"] (X7 K T.aQ T.gj):=by
 refine jS T.kA.F Ku (λvs H Q E h=>?_) (λaG A outer s H vs Q E hr h=>?_)
 .obtain⟨x,p,b,e,t,u,d,m,kvs,xs,ps,rfl,_⟩:=h;rfl
 .obtain⟨x,p,b,e,t,u,d,m,kvs,xs,ps,rfl,hb,hX,hP,q0,q⟩:=h;refine⟨_,(au (cL PassesOwn.leaving rfl (ck (aa 1)) (bf (i:=2) Ku.nd rfl (adv rfl)) (au (aT (d8 (dq (aC T.uM (X6 T) hr az (ae (aa 0) (ae (ay (aa 2) ag) (ae (ay (aa 2) ag) ai)))))) (au (mG mH rfl T.KD T.KI rfl (ae cX ai))) aV)))),?_⟩;have hl:=hP.len;walk_at "gz";refine⟨⟨_,hX⟩,jm (xs:=xs) (X9 H x b t ps) ⟨_,rfl,rfl,λ_ h=>by simp at h⟩ ?_ ?_ ?_⟩
  .rintro i σ H1 _ ⟨_,_,rfl,_⟩;exact hX
  .rintro i y σ H1 hy ⟨e1,rfl,rfl,hk⟩;obtain⟨pa,hpa,ta,qa,rfl,h1,h2⟩:=hP.get hy;walk_at "gz";refine aO (ax.of h1) rfl (aO (ax.of h1) rfl ?_);refine⟨x,p,e,t,u,d,m,pa.2.1,pa.1,kvs,rfl,hb,?_⟩;cases hc:hasB t pa.1 pa.2.1 with
   | true =>
    walk_at "gz";refine⟨_,rfl,rfl,λz hz=>?_⟩;rw[aeM,hpa] at hz;rcases adm.mp hz with h|h
    .exact hk z h
    .have:z=pa:=by simpa using h
     rw[this];exact hc
   | false =>
    walk_at "gz";refine⟨by decide,q0 λz=>?_⟩;rw[z pa (adl hpa)] at hc;cases hc
  .rintro σ H1 ⟨e1,rfl,rfl,hk⟩;rw[hl,aeX] at hk;walk_at "gz";exact q hk
inductive Ya(K:acS)(vs:List V)(H:Hp)(Q:VK)(a9:XK):Prop
 | mk(b:ac6)(xs:List V)(ps:List Pa)(k:Str)(t:Int)(_:vs=[.ref b,.str k,.int t])(_:ah K H b xs)(_:dG H xs ps)(_:ps.length<=1000)(_:∀ l ys H',ak H H'->H l=none->H' l=some (.lst ys)->aU H' ys (sel ps k t)->Q (.ref l) H')
theorem KY(T:Tx K mg):aJ P w K mg base (aK P w) 1 T.rA.a T.rA.fd ["claim","kind","turn"] (Ya K):=by
 refine okN T.rA.F WW (λvs H Q E h=>?_) (λaG A outer s H vs Q E hr h=>?_)
 .obtain⟨b,xs,ps,k,t,rfl,_⟩:=h;rfl
 .obtain⟨b,xs,ps,k,t,rfl,hX,hP,hn,q⟩:=h;refine⟨_,(au (aH (dE (b7.mk (fr:=[1,2]) (ys:=["kind","turn"]) rfl (by decide +kernel) rfl (by decide +kernel) rfl rfl (.cons rfl (.cons rfl .nil)) (.cons rfl rfl rfl rfl (.cons rfl rfl rfl rfl .nil)) (by decide) rfl) rfl (ck (aa 0)) (λC s2 H2 ex pn=>⟨(iO (PW.pt (jb (cQ (cK (K:=K) (aa 0) ag) (aa 1)) (jL (cQ (cK (K:=K) (aa 0) ag) (aa 2)))))),(cK (K:=K) (aa 0) ag)⟩)))),?_⟩;have hl:=hP.len;walk_at "gz";refine⟨⟨_,hX⟩,cH fU (adb (by lia:xs.length<=1000) (by decide)) (mU (R:=λx p=>lE H x p) (R':=λy (s:S2)=>aI H y s.1 s.2) (p:=qw k t) (f:=λp=>p.2.2) hX hP (λx p r Q h=>?_) (λx p _ r Q h=>?_) λzs hz=>?_)⟩
  .obtain⟨tt,u,rfl,ht,hu⟩:=r;unfold qw at h;walk_at "gz";refine aO (ax.of ht) rfl ?_;walk_at "gz"
   try refine⟨rfl,?_⟩
   by_cases hk:p.1=k
   .rw[decide_eq_true hk,aio] at h;rw[if_pos (by rw[hk])];refine aO (ax.of ht) rfl ?_;walk_at "gz";exact uv (Q:=λk=>Q k H) h
   .rw[decide_eq_false hk,aju] at h;rw[if_neg hk];exact h
  .obtain⟨tt,u,rfl,ht,hu⟩:=r;walk_at "gz";exact aO (ax.of ht) rfl (h _ ⟨u,rfl,hu⟩)
  .rw[adB];intro l ba;exact q l zs _ (aw ba) ba ar (j9.mpr (hz.imp λ_ _ r=>r.same (aw ba)))
noncomputable def cW(u d:Int)(ps:List Pa)(n:Nat):List W2:=(adx n).map λ(k:Nat)=>cJ (none,none) ((some (-d),some u)::sel ps "step" (k:Int))
inductive Yb(K:acS)(B C:ac6)(vs:List V)(H:Hp)(Q:VK)(E:XK):Prop
 | mk(x p b:ac6)(e t u d m:Int)(kvs:List (List Key × V))(xs:List V)(ps:List Pa)(_:vs=[.ref x,.ref b])(_:iq B H x e t u d m p kvs)(_:1<=t)(_:t<=12)(_:ah K H b xs)(_:dG H xs ps)(_:ps.length<=900)(_:(¬ f7 t ps->E (.ref C) none H))(_:(f7 t ps->∀ l ys H',ak H H'->H l=none->H' l=some (.lst ys)->ao (fb H') ys (cW u d ps (t-1).toNat)->Q (.ref l) H'))
theorem AD(T:Tx K mg):aJ P w K mg base (aK P w) 4 T.lV.a T.lV.fd ["board","claim"] (Yb K T.aQ T.gj):=by
 refine jS T.lV.F Kv (λvs H Q E h=>?_) (λaG A outer s H vs Q E hr h=>?_)
 .obtain⟨x,p,b,e,t,u,d,m,kvs,xs,ps,rfl,_⟩:=h;rfl
 .obtain⟨x,p,b,e,t,u,d,m,kvs,xs,ps,rfl,hb,t1,t2,hX,hP,hn,q0,q⟩:=h;refine⟨_,(aq (gp (kL (KW T) (hr.mono (by decide)) rfl T.kA.m T.kA.F.kp T.kA.b .nil pZ (ae (aa 0) (ae (aa 1) ai))))
  (aq (aE (i:=2) Kv.nd rfl (aiV rfl) (cM (ae (bE (ae (fP gi (fh rfl (aa 0) rfl)) (ae (fh rfl (aa 0) rfl) ai))) ai)))
  (au (aH (dE (b7.mk (fr:=[2,1]) (ys:=["own","claim"]) rfl (by decide +kernel) rfl (by decide +kernel) rfl rfl (.cons rfl (.cons rfl .nil)) (.cons rfl rfl rfl rfl (.cons rfl rfl rfl rfl .nil)) (by decide) rfl) rfl (fv rfl T.fj (ae (aD eL (fh rfl (aa 0) rfl) ag) ai)) (λC s2 H2 ex pn=>⟨dC,(aC T.o5 (AB T) hr az (ae (aD nV (aa 1) (aC T.rA (KY T) hr az (ae (aa 2) (ae cX (ae (aa 0) ai))))) ai))⟩)))))),?_⟩
  obtain⟨⟨dx,hx⟩,hp⟩:=id hb;walk_at "gz";refine⟨x,p,b,e,t,u,d,m,kvs,xs,ps,rfl,hb,hX,hP,q0,λhk=>?_⟩;walk_at "gz";refine⟨_,_,_,hx,T.bN,T.pw,_,rfl,_,_,_,hx,T.bN,T.pq,_,rfl,bJ,λo ho=>⟨by decide,λl hl=>?_⟩⟩;have s1:=(aw (o:=.tup [.int (-d),.int u]) ho).trans (aw (o:=.lst [.ref o]) hl);have O1:aI (upd (upd H o (.tup [.int (-d),.int u])) l (.lst [.ref o])) (.ref o) (some (-d)) (some u):=⟨o,rfl,(aw hl) _ _ ar⟩
  have L1:(upd (upd H o (.tup [.int (-d),.int u])) l (.lst [.ref o])) l=some (.lst [.ref o]):=ar;generalize upd (upd H o (.tup [.int (-d),.int u])) l (.lst [.ref o])=H1 at s1 O1 L1 ⊢;refine⟨_,_,_,s1 _ _ hx,T.bN,T.kD,_,rfl,by lia,by lia,?_⟩;refine cH ly (by rw[acV,ads];exact adb (by lia:_<=12) (by decide)) (fF (R:=λ_ x (k:Nat)=>x=V.int ((0:Int)+k)) (R':=fb) (f:=λ(k:Nat)=>cJ (none,none) ((some (-d),some u)::sel ps "step" (k:Int))) (λ_ _ _ _ _ h=>h) (λ_ _ _ _ s' h=>h.same s') (ao.ix _) (bs:=[]) trivial (λ_ _=>trivial) (λx k _ H2 s2 r Q h=>?_) (λx k _ H2 s2 r Q h=>?_) λH2 zs s2 hz=>?_)
  .walk_at "gz";exact h
  .subst r;have S2:=s1.trans s2;walk_at "gz";refine⟨b,xs,ps,"step",_,rfl,S2.seq hX,hP.same S2,by lia,λr ys H3 s3 _ R3 hR=>?_⟩;rw[ahf] at hR;walk_at "gz";have hlen:ys.length<=900:=by
    have:=(j9.mp hR).len;have h2:(sel ps "step" (k:Int)).length<=ps.length:=by unfold sel;rw[acV];exact ad7 _ _
    lia
   refine⟨[.ref o],s3 _ _ (s2 _ _ L1),ys,R3,adb (by show 1+ys.length<=1000;lia) (by decide),λc hc=>?_⟩;have s4:=aw (o:=.lst ([.ref o]++ys)) hc;refine⟨c,_,(some (-d),some u)::sel ps "step" (k:Int),rfl,ah.of ar,⟨(O1.same (s2.trans s3)).same s4,?_⟩,by rw[adj,adh];lia,λv H5 s5 hv=>h _ _ ((s3.trans s4).trans s5) hv⟩;exact j9.mpr ((j9.mp hR).imp λ_ _ r=>r.same s4)
  .intro c hc;refine q hk c zs _ ((s1.trans s2).trans (aw hc)) ((s1.trans s2).free hc) ar ?_;rw[adB] at hz;exact hz.imp λ_ _ r=>r.same (aw hc)
noncomputable def eM(ps:List Pa)(n:Nat):List W2:=(adx n).map λ(k:Nat)=>cJ (none,none) (sel ps "at" (k:Int))
inductive Yc(K:acS)(B C:ac6)(vs:List V)(H:Hp)(Q:VK)(E:XK):Prop
 | mk(x p b:ac6)(e t u d m:Int)(kvs:List (List Key × V))(xs:List V)(ps:List Pa)(_:vs=[.ref x,.ref b])(_:iq B H x e t u d m p kvs)(_:1<=t)(_:t<=12)(_:ah K H b xs)(_:dG H xs ps)(_:ps.length<=900)(_:(¬ f7 t ps->E (.ref C) none H))(_:(f7 t ps->∀ l ys H',ak H H'->H l=none->H' l=some (.lst ys)->ao (fb H') ys (eM ps t.toNat)->Q (.ref l) H'))
theorem Yd(T:Tx K mg):aJ P w K mg base (aK P w) 4 T.o7.a T.o7.fd ["board","claim"] (Yc K T.aQ T.gj):=by
 refine jS T.o7.F WX (λvs H Q E h=>?_) (λaG A outer s H vs Q E hr h=>?_)
 .obtain⟨x,p,b,e,t,u,d,m,kvs,xs,ps,rfl,_⟩:=h;rfl
 .obtain⟨x,p,b,e,t,u,d,m,kvs,xs,ps,rfl,hb,t1,t2,hX,hP,hn,q0,q⟩:=h;refine⟨_,(aq (gp (kL (KW T) (hr.mono (by decide)) rfl T.kA.m T.kA.F.kp T.kA.b .nil pZ (ae (aa 0) (ae (aa 1) ai))))
  (au (aH (dE (b7.mk (fr:=[1]) (ys:=["claim"]) rfl (by decide +kernel) rfl (by decide +kernel) rfl rfl (.cons rfl .nil) (.cons rfl rfl rfl rfl .nil) (by decide) rfl) rfl (fv rfl T.fj (ae (fh rfl (aa 0) rfl) ai)) (λC s2 H2 ex pn=>⟨dC,(aC T.o5 (AB T) hr az (ae (aC T.rA (KY T) hr az (ae (aa 1) (ae cX (ae (aa 0) ai)))) ai))⟩))))),?_⟩
  obtain⟨⟨dx,hx⟩,hp⟩:=id hb;walk_at "gz";refine⟨x,p,b,e,t,u,d,m,kvs,xs,ps,rfl,hb,hX,hP,q0,λhk=>?_⟩;walk_at "gz";refine⟨_,_,_,hx,T.bN,T.kD,_,rfl,_,rfl,by lia,by lia,?_⟩;refine cH ly (by rw[acV,ads];exact adb (by lia:_<=12) (by decide)) (fF (R:=λ_ x (k:Nat)=>x=V.int ((0:Int)+k)) (R':=fb) (f:=λ(k:Nat)=>cJ (none,none) (sel ps "at" (k:Int))) (λ_ _ _ _ _ h=>h) (λ_ _ _ _ s' h=>h.same s') (ao.ix _) (bs:=[]) trivial (λ_ _=>trivial) (λx k _ H2 s2 r Q h=>?_) (λx k _ H2 s2 r Q h=>?_) λH2 zs s2 hz=>?_)
  .walk_at "gz";exact h
  .subst r;walk_at "gz";refine⟨b,xs,ps,"at",_,rfl,s2.seq hX,hP.same s2,by lia,λr ys H3 s3 _ R3 hR=>?_⟩;rw[ahf] at hR;walk_at "gz";have hlen:ys.length<=900:=by
    have:=(j9.mp hR).len;have h2:(sel ps "at" (k:Int)).length<=ps.length:=by unfold sel;rw[acV];exact ad7 _ _
    lia
   exact⟨r,ys,_,rfl,ah.of R3,hR,by lia,λv H5 s5 hv=>h _ _ (s3.trans s5) hv⟩
  .intro c hc;refine q hk c zs _ (s2.trans (aw hc)) (s2.free hc) ar ?_;rw[adB] at hz;exact hz.imp λ_ _ r=>r.same (aw hc)
inductive Ye(vs:List V)(H:Hp)(Q:VK)(a9:XK):Prop
 | mk(v:V)(c:S2)(_:vs=[v])(_:iV H v c)(_:Q (.int (j4 c)) H)
theorem KZ(T:Tx K mg):aJ P w K mg base (aK P w) 1 T.rg.a T.rg.fd ["cell"] Ye:=by
 refine okN T.rg.F WR (λvs H Q E h=>?_) (λaG A outer s H vs Q E hr h=>?_)
 .obtain⟨v,c,rfl,_⟩:=h;rfl
 .obtain⟨v,⟨e1,e2⟩,rfl,⟨p,rfl,hp⟩,q⟩:=h;refine⟨_,(aq (aT (gH (ay (aa 0) ag)) (au (aH (ay (aa 0) ag))) aV)
  (aq (aT (gH (ay (aa 0) ag)) (au (aH (ay (aa 0) ag))) aV)
  (au (aH ag)))),?_⟩
  walk_at "gz";refine aO (ax.of hp) rfl ?_;rcases e1 with _|x
  .walk_at "gz";refine aO (ax.of hp) rfl ?_;rcases e2 with _|y
   .walk_at "gz";exact q
   .walk_at "gz";exact aO (ax.of hp) rfl q
  .walk_at "gz";exact aO (ax.of hp) rfl q
variable{P:ado}{w:adM}{K:acS}{mg:Str->Option acY}{base:aeA}
inductive Yf(K:acS)(B:ac6)(vs:List V)(H:Hp)(Q:VK)(a9:XK):Prop
 | mk(x p:ac6)(e t u d m i:Int)(tb:Tb)(_:vs=[.ref x,.int i])(_:dr B H x e t u d m p tb)(_:(tb.map (·.1)).Nodup)(_:tb.length<64)(_:(∀ r∈tb,0<=r.1.2))(_:∀ l ys H',ak H H'->H l=none->H' l=some (.lst ys)->ao (cU H') ys (fI tb i)->Q (.ref l) H')
theorem K0(T:Tx K mg):aJ P w K mg base (aK P w) 2 T.rB.a T.rB.fd ["board","eye"] (Yf K T.aQ):=by
 refine okN T.rB.F WY (λvs H Q E h=>?_) (λaG A outer s H vs Q E hr h=>?_)
 .obtain⟨x,p,e,t,u,d,m,i,tb,rfl,_⟩:=h;rfl
 .obtain⟨x,p,e,t,u,d,m,i,tb,rfl,hb,eK,bH,h0,q⟩:=h;refine⟨_,(au (aH (tJ (g:=gP K 3 (bU (bR 0) (bU (bR 1) (bU (bR 2) gq)))) (mR.mk (own:=["teller","turn","word"]) (fr:=[1]) (ys:=["eye"]) rfl (by decide +kernel) rfl (by decide +kernel) rfl (.cons rfl .nil) (.cons rfl rfl rfl rfl .nil) rfl) rfl (ck (wx (aa 0) T.bN T.Au (AA T) (hr.mono (by decide)) T.nq.b .nil az)) (λC s2 H2 ex pn=>gv (n:=3) rfl (bW (bf (i:=0) (show (["teller","turn","word","eye"]:List Str).Nodup by decide) rfl (.inl (adt rfl)) (.inr (adt rfl))) (bW (bf (i:=1) (show (["teller","turn","word","eye"]:List Str).Nodup by decide) rfl (.inl (adt rfl)) (.inr (adt rfl))) (bW (bf (i:=2) (show (["teller","turn","word","eye"]:List Str).Nodup by decide) rfl (.inl (adt rfl)) (.inr (adt rfl))) gu)))) (λC s2 H2 ex pn=>⟨(iO (cQ (aa 0) (aa 3))),(bE (ae (aa 1) (ae (aa 2) ai)))⟩)))),?_⟩;obtain⟨⟨dx,hx⟩,htb⟩:=id hb;walk_at "gzn";refine⟨_,_,hx,rfl,x,p,e,t,u,d,m,tb,rfl,hb,eK,bH,λl xs H1 s1 _ hl hT=>?_⟩;have tl:=hT.len;rw[j8] at tl;refine⟨l,rfl,⟨_,ah.of hl⟩,IK (row:=rowOf H1) (adb (by lia:xs.length<=64) (by decide)) (tW (R:=λ_ x (r:P2 × S2)=>fG H1 x r) (R':=cU) (p:=λr=>decide (r.1.1=i)) (f:=λr=>(r.1.2.toNat,r.2)) (λ_ _ _ _ _ h=>h) (λ_ _ _ _ s' h=>h.same s') hT (bs:=[]) trivial (λH' s'=>IQ hl hT s') (λx r _ H2 s2 h1 Q h=>?_) (λx r bT hp H2 s2 h1 Q h=>?_) λH2 zs s2 hz=>?_)⟩
  .obtain⟨ta,w,rfl,ha,hw⟩:=h1;unfold kh;dsimp only;rw[lH ha];walk_at "gzn";exact uv (Q:=λk=>Q k H2) h
  .obtain⟨ta,w,rfl,ha,wp,rfl,hw⟩:=h1;unfold ki;dsimp only;rw[lH ha];walk_at "gzn";have fJ:=h0 r (lD bT);refine⟨bJ,λt1 kE=>h _ _ (aw kE) ⟨t1,wp,rfl,?_,(aw kE) _ _ (s2 _ _ hw)⟩⟩;rw[ar];show some (HO.tup [.int r.1.2,.ref wp])=some (.tup [.int ((r.1.2.toNat:Nat):Int),.ref wp]);rw[afl fJ]
  .rw[adB] at hz;intro l2 ba;exact q l2 zs _ (s1.trans (s2.trans (aw ba))) ((s1.trans s2).free ba) ar (hz.imp λ_ _ r=>r.same (aw ba))
inductive Yg(K:acS)(B:ac6)(vs:List V)(H:Hp)(Q:VK)(a9:XK):Prop
 | mk(x p o:ac6)(e t u d m:Int)(tb:Tb)(es:List Int)(_:vs=[.ref x,.ref o])(_:dr B H x e t u d m p tb)(_:(tb.map (·.1)).Nodup)(_:tb.length<64)(_:(∀ r∈tb,0<=r.1.2))(_:ah K H o (es.map V.int))(_:es.length<=100)(_:∀ l ys H',ak H H'->H' l=some (.lst ys)->ao (cU H') ys (((iW tb).filter λr=>!es.contains r.1.1).map λr=>(r.1.2.toNat,r.2))->Q (.ref l) H')
theorem K1(T:Tx K mg):aJ P w K mg base (aK P w) 2 T.rC.a T.rC.fd ["board","some"] (Yg K T.aQ):=by
 refine okN T.rC.F WZ (λvs H Q E h=>?_) (λaG A outer s H vs Q E hr h=>?_)
 .obtain⟨x,p,o,e,t,u,d,m,tb,es,rfl,_⟩:=h;rfl
 .obtain⟨x,p,o,e,t,u,d,m,tb,es,rfl,hb,eK,bH,h0,ho,qI,q⟩:=h;refine⟨_,(au (aH (tJ (g:=gP K 3 (bU (bR 0) (bU (bR 1) (bU (bR 2) gq)))) (mR.mk (own:=["teller","turn","word"]) (fr:=[1]) (ys:=["some"]) rfl (by decide +kernel) rfl (by decide +kernel) rfl (.cons rfl .nil) (.cons rfl rfl rfl rfl .nil) rfl) rfl (ck (wx (aa 0) T.bN T.Au (AA T) (hr.mono (by decide)) T.nq.b .nil az)) (λC s2 H2 ex pn=>gv (n:=3) rfl (bW (bf (i:=0) (show (["teller","turn","word","some"]:List Str).Nodup by decide) rfl (.inl (adt rfl)) (.inr (adt rfl))) (bW (bf (i:=1) (show (["teller","turn","word","some"]:List Str).Nodup by decide) rfl (.inl (adt rfl)) (.inr (adt rfl))) (bW (bf (i:=2) (show (["teller","turn","word","some"]:List Str).Nodup by decide) rfl (.inl (adt rfl)) (.inr (adt rfl))) gu)))) (λC s2 H2 ex pn=>⟨(iO (gQ (Rm (K:=K) rfl) (aa 0) (aa 3) (by with_unfolding_all rfl))),(bE (ae (aa 1) (ae (aa 2) ai)))⟩)))),?_⟩;obtain⟨⟨dx,hx⟩,htb⟩:=id hb;walk_at "gzn";refine⟨_,_,hx,rfl,x,p,e,t,u,d,m,tb,rfl,hb,eK,bH,λl xs H1 s1 _ hl hT=>?_⟩;have tl:=hT.len;rw[j8] at tl;refine⟨l,rfl,⟨_,ah.of hl⟩,IK (row:=rowOf H1) (adb (by lia:xs.length<=64) (by decide)) (tW (R:=λ_ x (r:P2 × S2)=>fG H1 x r) (R':=cU) (p:=λr=>!es.contains r.1.1) (f:=λr=>(r.1.2.toNat,r.2)) (λ_ _ _ _ _ h=>h) (λ_ _ _ _ s' h=>h.same s') hT (bs:=[]) trivial (λH' s'=>IQ hl hT s') (λx r _ H2 s2 h1 Q h=>?_) (λx r bT hp H2 s2 h1 Q h=>?_) λH2 zs s2 hz=>?_)⟩
  .obtain⟨ta,w,rfl,ha,hw⟩:=h1;unfold kh;dsimp only;rw[lH ha];walk_at "gzn";refine⟨o,_,rfl,.inl ((s1.trans s2).seq ho),rfl,IP es,_,rfl,?_⟩;rw[yq,if_pos rfl];exact h
  .obtain⟨ta,w,rfl,ha,wp,rfl,hw⟩:=h1;unfold ki;dsimp only;rw[lH ha];walk_at "gzn";have fJ:=h0 r (lD bT);refine⟨bJ,λt1 kE=>h _ _ (aw kE) ⟨t1,wp,rfl,?_,(aw kE) _ _ (s2 _ _ hw)⟩⟩;rw[ar];show some (HO.tup [.int r.1.2,.ref wp])=some (.tup [.int ((r.1.2.toNat:Nat):Int),.ref wp]);rw[afl fJ]
  .rw[adB] at hz;intro l2 ba;exact q l2 zs _ (s1.trans (s2.trans (aw ba))) ar (hz.imp λ_ _ r=>r.same (aw ba))
variable{P:ado}{w:adM}{K:acS}{mg:Str->Option acY}{base:aeA}
inductive Yh(K:acS)(vs:List V)(H:Hp)(Q:VK)(a9:XK):Prop
 | mk(v u:V)(s:S2)(p:P2)(_:vs=[v,u])(_:aI H v s.1 s.2)(_:cE H u p)(_:∀ r H',ak H H'->H r=none->H' r=some (.tup [ev (dU s p).1,ev (dU s p).2])->Q (.ref r) H')
theorem K2(T:Tx K mg):aJ P w K mg base (aK P w) 1 T.rh.a T.rh.fd ["one","step"] (Yh K):=by
 refine okN T.rh.F An (λvs H Q E h=>?_) (λaG A outer s H vs Q E hr h=>?_)
 .obtain⟨v,u,s,p,rfl,_⟩:=h;rfl
 .obtain⟨v,u,⟨lo,hi⟩,⟨p1,p2⟩,rfl,⟨a,rfl,ha⟩,⟨b,rfl,hb⟩,q⟩:=h;refine⟨_,(aq (aE (i:=2) An.nd rfl (adv rfl) (nO (ig (ay (aa 0) ag)) cj (aD bb (ay (aa 0) ag) (ay (aa 1) ag))))
  (aq (aE (i:=3) An.nd rfl (adv rfl) (nO (ig (ay (aa 0) ag)) cj (aD bb (ay (aa 0) ag) (ay (aa 1) ag))))
  (au (aH (bE (ae (aa 2) (ae (aa 3) ai))))))),?_⟩
  rcases lo with _|lo<;>rcases hi with _|hi
  all_goals simp only[xf,xg] at ha
  all_goals
   walk_at "gzn"
   repeat' first
   | refine aO (ax.of ha) rfl ?_
   | refine aO (ax.of hb) rfl ?_
   | (walk_at "gzp")
  all_goals exact⟨bJ,λr hr=>q r _ (aw hr) hr ar⟩
theorem Yi{H:Hp}{zs:List V}{ss:List S2}(h:ao (λv (s:S2)=>aI H v s.1 s.2) zs ss)(h0:0<ss.length):∃ v,cO zs (-1)=some v/\aI H v (a8 ss (ss.length-1)).1 (a8 ss (ss.length-1)).2:=by
 have hl:=h.len;obtain⟨v,hv,r⟩:=h.at (acW (l:=ss) (i:=ss.length-1) (by lia));have e:zs=zs.take (ss.length-1)++[v]:=by have:=aeR (ss.length-1) zs;rw[aeu (by lia),agN (by lia)] at this;rw[acW (by lia)] at hv;cases hv;exact this.symm
 refine⟨v,by rw[e];exact wA _ _,?_⟩;unfold a8;rw[acU,acW (by lia)];exact r
inductive Yj(K:acS)(vs:List V)(H:Hp)(Q:VK)(a9:XK):Prop
 | mk(a b:ac6)(xs ys:List V)(ws:List W2)(ps:List P2)(_:vs=[.ref a,.ref b])(_:ah K H a xs)(_:ao (fb H) xs ws)(_:ah K H b ys)(_:dm H ys ps)(_:ws.length<=ps.length+1)(_:ws.length<=1000)(_:(∀ t,t<ws.length->aW (eI ws) (aF ps) t=none->∀ H',ak H H'->Q .non H'))(_:((∀ t,t<ws.length->aW (eI ws) (aF ps) t≠none)->∀ l zs ss H',ak H H'->H l=none->H' l=some (.lst zs)->ao (iV H') zs ss->ss.length=ws.length->(∀ t,t<ws.length->aW (eI ws) (aF ps) t=some (a8 ss t))->Q (.ref l) H'))
inductive K3(H:Hp)(a b l:ac6)(ws:List W2)(ps:List P2)(i:Nat)(σ:St)(H1:Hp):Prop
 | mk(zs:List V)(ss:List S2)(e1 e2 e3:Option V)(_:σ=[some (.ref a),some (.ref b),some (.ref l),e1,e2,e3])(_:ak H H1)(_:H1 l=some (.lst zs))(_:ao (iV H1) zs ss)(_:ss.length=i)(_:∀ t,t<i->aW (eI ws) (aF ps) t=some (a8 ss t))
theorem K4(T:Tx K mg):aJ P w K mg base (aK P w) 3 T.rj.a T.rj.fd ["boxes","steps"] (Yj K):=by
 refine okN T.rj.F oV (λvs H Q E h=>?_) (λaG A outer s H vs Q E hr h=>?_)
 .obtain⟨a,b,xs,ys,ws,ps,rfl,_⟩:=h;rfl
 .obtain⟨a,b,xs,ys,ws,ps,rfl,hS,hW,hT,hP,hl,hn,q0,q⟩:=h;refine⟨_,(aq (aE (i:=2) oV.nd rfl (adv rfl) (cM ai))
  (aq (cL adK rfl (xE rfl T.vf (ae (aa 0) ai)) (gv rfl (bW (bf (i:=3) oV.nd rfl (adv rfl)) (bW (bf (i:=4) oV.nd rfl (adv rfl)) gu))) (aq (aE (i:=5) oV.nd rfl (adv rfl) (aa 4))
    (aq (aT (PW.pt (jb (lS (aa 3) ag) (jL (gH (aa 4))))) (au (aE (i:=5) oV.nd rfl (adv rfl) (aC T.o4 (Aw T) hr az (ae (aa 4) (ae (aC T.rh (K2 T) hr az (ae (ay (aa 2) (fP gi ag)) (ae (ay (aa 1) (aD eL (aa 3) ag)) ai))) ai))))) aV)
    (aq (aT (ig (aa 5)) (au (aH cj)) aV)
    (au (gp (mD aeq aey aez mE (aa 2) (ae (aa 5) ai))))))))
  (au (aH (aa 2))))),?_⟩
  have l1:=hW.len;have l2:=hP.len;walk_at "gzn";refine⟨by decide,λl da=>?_⟩;have s1:=aw (o:=.lst []) da;have e1:upd H l (.lst []) l=some (.lst []):=ar;generalize upd H l (.lst [])=H1 at s1 e1 ⊢;walk_at "gzn";refine⟨⟨_,s1.seq hS⟩,xI (xs:=xs) (K3 H a b l ws ps) ⟨[],[],_,_,_,rfl,s1,e1,trivial,rfl,λt h=>absurd h (af2 _)⟩ ?_ ?_ ?_⟩
  .rintro i σ H2 _ ⟨_,_,_,_,_,_,s2,_⟩;exact s2.seq hS
  .rintro i x σ H2 p hx ⟨zs,ss,d1,d2,d3,rfl,s2,ba,hz,hlen,fK⟩ hp;obtain⟨w,hw,r⟩:=hW.get hx;have sp:=aw (o:=.tup [.int i,x]) hp;refine jZ (ax.of ar) ?_;generalize upd H2 p (.tup [.int i,x])=H3 at sp ⊢;have s3:=s2.trans sp;have r3:=r.same s3;have bz:=sp _ _ ba;have cF:=hz.imp λ_ _ r=>aI.same r sp;have zl:=hz.len;have ew:eI ws i=w:=by unfold eI;rw[acU,hw];rfl
   have hi:=(ade.mp hx).1;have add:∀ (v:V) (k:S2) (H4:Hp) (d1 d2 d3:Option V),ak H3 H4->aI H4 v k.1 k.2->aW (eI ws) (aF ps) i=some k->K3 H a b l ws ps (i+1) [some (.ref a),some (.ref b),some (.ref l),d1,d2,d3] (upd H4 l (.lst (zs++[v]))):=λv k H4 d1 d2 d3 s4 hv ek=>by
    have i8:=s4 _ _ bz;refine⟨zs++[v],ss++[k],d1,d2,d3,rfl,iL da (s3.trans s4),ar,?_,by rw[adj,adh,hlen],λt ht=>?_⟩
    .exact ((cF.imp λ_ _ r=>aI.same r s4).snoc hv).imp λ_ _ r=>aI.put r i8
    .unfold a8;rw[acU];by_cases e:t=i
     .subst e;rw[ek,aem (by lia),hlen,ahK];rfl
     .rw[fK t (by lia),ad5 (by lia)];unfold a8;rw[acU]
   cases w with
   | none =>
    obtain rfl:x = .non:=r3;have e0:aW (eI ws) (aF ps) i=none:=by
     cases i with
     | zero=>exact ew
     | succ i=>unfold aW;rw[ew]
    walk_at "gzn";have fin:=q0 i (by lia) e0 _ s3;exact bA (λ_=>fin) λ_=>fin
   | some k =>
    obtain⟨rp,rfl,hrp⟩:=id (show aI H3 x k.1 k.2 from r3);cases i with
    | zero =>
     walk_at "gzn";exact⟨.inl ⟨rfl,_,ah.of bz⟩,_,bz,aeg (by lia:zs.length<=1000) (by decide),add _ k _ _ _ _ (ak.refl _) r3 ew⟩
    | succ i =>
     walk_at "gzn";rw[if_pos (by lia)];obtain⟨v,hv,rv⟩:=Yi (ss:=ss) cF (by lia);obtain⟨u,hu,ru⟩:=hP.at (acW (l:=ps) (i:=i) (by lia));have ep:ps[i]'(by lia)=aF ps i:=by unfold aF;rw[acU,acW (by lia)];rfl
     rw[ep] at ru;rw[show (((i+1:Nat):Int)-1)=((i:Nat):Int) by lia];refine aN (ah.of bz) hv (aN (s3.seq hT) (eB hu) ?_);rw[hlen,ajV] at rv;refine⟨v,u,a8 ss i,aF ps i,rfl,rv,ru.same s3,λr H4 s4 _ Yk=>?_⟩;refine⟨_,_,k.1,k.2,_,_,rfl,⟨rp,rfl,s4 _ _ hrp⟩,⟨r,rfl,Yk⟩,λy H5 s5 hy=>?_⟩;have ek:=fK i (by lia);have en:aW (eI ws) (aF ps) (i+1)=gF k (dU (a8 ss i) (aF ps i)):=by
      show (match eI ws (i+1),aW (eI ws) (aF ps) i with
       | some b,some k=>gF b (dU k (aF ps i))
       | _,_=>none)=_
      rw[ew,ek]
     have rN:=(s4.trans s5) _ _ bz;unfold gF at en;cases hc:aS (dQ k.1 (dU (a8 ss i) (aF ps i)).1) (dR k.2 (dU (a8 ss i) (aF ps i)).2) with
     | true =>
      rw[if_pos hc] at en;obtain rfl:=hy.1 hc;walk_at "gzn";exact q0 (i+1) (by lia) en _ (s3.trans (s4.trans s5))
     | false =>
      rw[if_neg (by rw[hc];simp)] at en;have vo:=hy.2 hc;obtain⟨yp,rfl,hyp⟩:=id vo;walk_at "gzn";exact⟨.inl ⟨rfl,_,ah.of rN⟩,_,rN,aeg (by lia:zs.length<=1000) (by decide),add _ _ _ _ _ _ (s4.trans s5) vo en⟩
  .rintro σ H2 ⟨zs,ss,d1,d2,d3,rfl,s2,ba,hz,hlen,fK⟩;walk_at "gzn";rw[l1] at hlen fK;exact q (λt ht=>by rw[fK t ht];simp) l zs ss H2 s2 da ba hz hlen fK
variable{P:ado}{w:adM}{K:acS}{mg:Str->Option acY}{base:aeA}
inductive Yl(K:acS)(vs:List V)(H:Hp)(Q:VK)(a9:XK):Prop
 | mk(a:ac6)(xs:List V)(ms:List Mk)(t:Nat)(_:vs=[.ref a,.int t])(_:ah K H a xs)(_:ao (cU H) xs ms)(_:ms.length<=1000)(_:∀ l ys H',ak H H'->H' l=some (.lst ys)->aU H' ys (atT ms t)->Q (.ref l) H')
theorem Ym(T:Tx K mg):aJ P w K mg base (aK P w) 1 T.uI.a T.uI.fd ["marks","turn"] (Yl K):=by
 refine okN T.uI.F WS (λvs H Q E h=>?_) (λaG A outer s H vs Q E hr h=>?_)
 .obtain⟨a,xs,ms,t,rfl,_⟩:=h;rfl
 .obtain⟨a,xs,ms,t,rfl,hS,hM,hn,q⟩:=h;refine⟨_,(au (aH (dE (b7.mk (fr:=[1]) (ys:=["turn"]) rfl (by decide +kernel) rfl (by decide +kernel) rfl rfl (.cons rfl .nil) (.cons rfl rfl rfl rfl .nil) (by decide) rfl) rfl (ck (aa 0)) (λC s2 H2 ex pn=>⟨(iO (cQ (cK (K:=K) (aa 0) ag) (aa 1))),(cK (K:=K) (aa 0) ag)⟩)))),?_⟩;have hl:=hM.len;walk_at "gzn";refine⟨⟨_,hS⟩,cH fU (adb (by lia:xs.length<=1000) (by decide)) (mU (R:=cU H) (R':=λv (s:S2)=>aI H v s.1 s.2) (p:=λm=>decide (m.1=t)) (f:=λm=>m.2) hS hM (λx m r Q h=>?_) (λx m hp r Q h=>?_) λzs hz=>?_)⟩
  .obtain⟨tp,sp,rfl,h1,h2⟩:=r;walk_at "gzn";refine aO (ax.of h1) rfl ?_;walk_at "gzn";refine uv (Q:=λk=>Q k H) ?_;rw[show decide ((m.1:Int)=(t:Int))=decide (m.1=t) from decide_eq_decide.mpr (by lia)];exact h
  .obtain⟨tp,sp,rfl,h1,h2⟩:=r;walk_at "gzn";exact aO (ax.of h1) rfl (h _ ⟨sp,rfl,h2⟩)
  .rw[adB];intro l hl;exact q l zs _ (aw hl) ar (j9.mpr (hz.imp λ_ _ r=>r.same (aw hl)))
theorem ao.rev{α:Type}{R:V->α->Prop}:∀ {xs:List V} {as:List α},ao R xs as->ao R xs.reverse as.reverse
 | [],[],_=>trivial
 | x::xs,a::as,h=>by rw[agT,agT];exact (ao.rev h.2).app ⟨h.1,trivial⟩
 | [],_::_,h=>h.elim
 | _::_,[],h=>h.elim
inductive K5(K:acS)(vs:List V)(H:Hp)(Q:VK)(a9:XK):Prop
 | mk(a b:ac6)(xs ys:List V)(ps:List P2)(ms:List Mk)(_:vs=[.ref a,.ref b])(_:ah K H a xs)(_:dm H xs ps)(_:ah K H b ys)(_:ao (cU H) ys ms)(_:cI ps)(_:ps.length<=900)(_:ms.length<=1000)(_:(∀ t,t<=ps.length->aW (bB ms) (aF ps) t=none->∀ H',ak H H'->Q .non H'))(_:((∀ t,t<=ps.length->aW (bB ms) (aF ps) t≠none)->∀ l zs ss H',ak H H'->H l=none->H' l=some (.lst zs)->ao (iV H') zs ss->ss.length=ps.length+1->(∀ t,t<=ps.length->cp ps.length (bB ms) (aF ps) t=some (a8 ss t))->Q (.ref l) H'))
theorem K6(T:Tx K mg):aJ P w K mg base (aK P w) 4 T.rn.a T.rn.fd ["steps","marks"] (K5 K):=by
 refine okN T.rn.F Ao (λvs H Q E h=>?_) (λaG A outer s H vs Q E hr h=>?_)
 .obtain⟨a,b,xs,ys,ps,ms,rfl,_⟩:=h;rfl
 .obtain⟨a,b,xs,ys,ps,ms,rfl,hS,hP,hT,hM,aj,hn,hm,q0,q⟩:=h;refine⟨_,(aq (aE (i:=2) Ao.nd rfl (adv rfl) (aC T.rj (K4 T) hr az (ae (dE (b7.mk (fr:=[1]) (ys:=["marks"]) rfl (by decide +kernel) rfl (by decide +kernel) rfl rfl (.cons rfl .nil) (.cons rfl rfl rfl rfl .nil) (by decide) rfl) rfl (fv rfl T.fj (ae (aD bb (bM ed (by rfl) T.dZ dN (ae (aa 0) ai)) ag) ai)) (λC s2 H2 ex pn=>⟨dC,(aC T.o5 (AB T) hr az (ae (aC T.uI (Ym T) hr az (ae (aa 1) (ae (aa 0) ai))) ai))⟩)) (ae (aa 0) ai))))
  (aq (aT (ig (aa 2)) (au (aH cj)) aV)
  (aq (oh (i:=3) (b7.mk (fr:=[]) (ys:=[]) rfl (by decide +kernel) rfl (by decide +kernel) rfl rfl .nil .nil (by decide) rfl) rfl Ao.nd rfl rfl (RO rfl T.Xq (ae (aa 0) ai)) (λC s2 H2 ex pn=>⟨dC,(bE (ae (fP gi (cK (K:=K) (aa 0) ag)) (ae (fP gi (cK (K:=K) (aa 0) ag)) ai)))⟩))
  (au (aH (IM (aC T.rj (K4 T) hr az (ae (IM (aa 2) (fP gi ag)) (ae (aa 3) ai))) (fP gi ag))))))),?_⟩
  have l1:=hP.len;walk_at "gzn";refine⟨_,dz hS,by lia,by lia,?_⟩;rw[l1,show ((ps.length:Int)+1).toNat=ps.length+1 by lia];refine cH ly (by rw[acV,ads];exact adb (by lia:_<=901) (by decide)) (fF (R:=λ_ x (k:Nat)=>x=V.int ((0:Int)+k)) (R':=fb) (f:=λ(k:Nat)=>bB ms k) (λ_ _ _ _ _ h=>h) (λ_ _ _ _ s' h=>h.same s') (ao.ix _) (bs:=[]) trivial (λ_ _=>trivial) (λx k _ H2 s2 r Q h=>?_) (λx k _ H2 s2 r Q h=>?_) λH2 zs s2 hz=>?_)
  .walk_at "gzn";exact h
  .subst r;walk_at "gzn";rw[show (0:Int)+(k:Nat)=((k:Nat):Int) by lia];refine⟨b,ys,ms,k,rfl,s2.seq hT,hM.imp λ_ _ r=>r.same s2,hm,λl zs H3 s3 hl hs=>?_⟩;refine⟨l,zs,_,rfl,ah.of hl,hs,?_,λv H4 s4 hv=>h H4 v (s3.trans s4) hv⟩;rw[hs.len];unfold atT;rw[acV];exact adb (ad7 _ _) hm
  rw[adB] at hz;intro c hc;have s3:=s2.trans (aw (o:=.lst zs) hc);have c3:upd H2 c (.lst zs) c=some (.lst zs):=ar;have cF:=hz.imp λ_ _ r=>r.same (aw (o:=.lst zs) hc);generalize upd H2 c (.lst zs)=H3 at s3 c3 cF ⊢;clear hz hc s2;have wl:((adx (ps.length+1)).map λ(k:Nat)=>bB ms k).length=ps.length+1:=by rw[acV,ads]
  have we:∀ t,t<=ps.length->eI ((adx (ps.length+1)).map λ(k:Nat)=>bB ms k) t=bB ms t:=λt ht=>by unfold eI;rw[acU,adi,adX (by lia)];rfl
  have ne:∀ t,t<=ps.length->aW (eI ((adx (ps.length+1)).map λ(k:Nat)=>bB ms k)) (aF ps) t=aW (bB ms) (aF ps) t:=λt ht=>yk t (λk hk=>we k (by lia)) λk _=>rfl;refine⟨c,a,zs,xs,_,ps,rfl,ah.of c3,cF,s3.seq hS,hP.same s3,by rw[wl];exact ac8 _,by rw[wl];lia,λt ht en H4 s4=>?_,λbg l ir ss H4 s4 _ hl lZ jn fK=>?_⟩
  .rw[wl] at ht;rw[ne t (by lia)] at en;walk_at "gzn";exact q0 t (by lia) en _ (s3.trans s4)
  rw[wl] at bg fK jn;have K7:∀ t,t<=ps.length->aW (bB ms) (aF ps) t≠none:=λt ht z=>bg t (by lia) (by rw[ne t ht];exact z);have Yn:∀ t,t<ps.length+1->aW (bB ms) (aF ps) t=some (a8 ss t):=λt ht=>by rw[<- ne t (by lia)];exact fK t ht
  have TB:=yn aj K7;have S4:=s3.trans s4;walk_at "gzn";refine⟨xs,S4.seq hS,Tz (adb (by lia:_<=900) (by decide)) (fF (R:=cE) (R':=cE) (f:=λp=>(-p.2,-p.1)) (λ_ _ _ _ s' h=>h.same s') (λ_ _ _ _ s' h=>h.same s') (ao.rev (hP.same S4)) (bs:=[]) trivial (λH' s'=>(S4.trans s').seq hS) (λx k _ H2 s2 r Q h=>?_) (λx k _ H2 s2 r Q h=>?_) λH5 bs s5 hb=>?_)⟩
  .walk_at "gzn";exact h
  .obtain⟨t,rfl,ht⟩:=r;walk_at "gzn";refine aO (ax.of ht) rfl ?_;walk_at "gzn";refine aO (ax.of ht) rfl ?_;walk_at "gzn";exact⟨bJ,λp hp=>h _ _ (aw hp) ⟨p,rfl,ar⟩⟩
  rw[adB] at hb;intro d hd;have s6:=s5.trans (aw (o:=.lst bs) hd);have d6:upd H5 d (.lst bs) d=some (.lst bs):=ar;have K8:dm (upd H5 d (.lst bs)) bs (kg ps):=hb.imp λ_ _ r=>r.same (aw (o:=.lst bs) hd);generalize upd H5 d (.lst bs)=H6 at s6 d6 K8 ⊢;clear hb hd s5;refine⟨ir,ah.of (s6 _ _ hl),λp hp=>?_⟩;have s7:=s6.trans (aw (o:=.lst ir.reverse) hp);have p7:upd H6 p (.lst ir.reverse) p=some (.lst ir.reverse):=ar;have d7:=(aw (o:=.lst ir.reverse) hp) _ _ d6;have K9:dm (upd H6 p (.lst ir.reverse)) bs (kg ps):=K8.same (aw (o:=.lst ir.reverse) hp);generalize upd H6 p (.lst ir.reverse)=H7 at s7 p7 d7 K9 ⊢;have rl:(ss.reverse.map some).length=ps.length+1:=by rw[acV,aeC,jn]
  have bl:(kg ps).length=ps.length:=by unfold kg;rw[acV,aeC]
  have be:∀ t,t<=ps.length->aW (eI (ss.reverse.map some)) (aF (kg ps)) t=cp ps.length (bB ms) (aF ps) (ps.length-t):=λt ht=>back_eq jn Yn ht;refine⟨p,d,_,bs,ss.reverse.map some,kg ps,rfl,ah.of p7,ao.x6 (ao.rev (lZ.imp λ_ _ r=>aI.same r s7)),ah.of d7,K9,by rw[rl,bl];exact ac8 _,by rw[rl];lia,λt ht en H8 s8=>?_,λ_ l3 Yo Yp H8 s8 fl3 bz Yq AE La=>?_⟩
  .rw[rl] at ht;rw[be t (by lia)] at en;obtain⟨z,ez,_⟩:=TB.ok (ps.length-t) (by lia);rw[en] at ez;cases ez
  rw[rl] at AE La;have S8:=S4.trans (s7.trans s8);refine⟨l3,rfl,Yo,ah.of bz,λp3 md=>q K7 p3 _ Yp.reverse _ (S8.trans (aw md)) (S8.free md) ar (ao.rev (Yq.imp λ_ _ r=>aI.same r (aw md))) (by rw[aeC,AE]) λt ht=>?_⟩;rw[Tj AE ht,<- La (ps.length-t) (by lia),be _ (by lia),show ps.length-(ps.length-t)=t by lia]
variable{P:ado}{w:adM}{K:acS}{mg:Str->Option acY}{base:aeA}
inductive Yr(K:acS)(vs:List V)(H:Hp)(Q:VK)(a9:XK):Prop
 | mk(n:Nat)(_:vs=[.int n])(_:n<=7)(_:∀ l ys H',ak H H'->H' l=some (.lst ys)->ao (kj H') ys (cC n)->Q (.ref l) H')
inductive Ys(H:Hp)(n i:Nat)(σ:St)(H1:Hp):Prop
 | mk(l:ac6)(ys:List V)(e:Option V)(_:σ=[some (.int n),some (.ref l),e])(_:ak H H1)(_:H1 l=some (.lst ys))(_:ao (kj H1) ys (cC i))
theorem Yt(T:Tx K mg):aJ P w K mg base (aK P w) 1 T.uT.a T.uT.fd ["eyes"] (Yr K):=by
 refine okN T.uT.F uC (λvs H Q E h=>?_) (λaG A outer s H vs Q E hr h=>?_)
 .obtain⟨n,rfl,_⟩:=h;rfl
 .obtain⟨n,rfl,hn,q⟩:=h;refine⟨_,(aq (aE (i:=1) uC.nd rfl (adv rfl) (cM (ae (cM ai) ai)))
  (aq (cL adK rfl (fv rfl T.fj (ae (aa 0) ai)) (bf (i:=2) uC.nd rfl (aiV rfl)) (au (aE (i:=1) uC.nd rfl (adv rfl) (aD nV (aa 1) (dE (b7.mk (fr:=[2]) (ys:=["eye"]) rfl (by decide +kernel) rfl (by decide +kernel) rfl rfl (.cons rfl .nil) (.cons rfl rfl rfl rfl .nil) (by decide) rfl) rfl (ck (aa 1)) (λC s2 H2 ex pn=>⟨dC,(aD nV (aa 0) (cM (ae (aa 1) ai)))⟩))))))
  (au (aH (aa 1))))),?_⟩
  walk_at "gzn";refine⟨adw _,λp hp=>⟨by decide,λr bT=>⟨by lia,by lia,?_⟩⟩⟩;have u1:=aw (o:=.lst []) hp;have u2:=aw (o:=.lst [.ref p]) bT;rw[adU];refine mF (Ys H n) ⟨r,_,_,rfl,u1.trans u2,ar,⟨⟨p,rfl,u2 _ _ ar⟩,trivial⟩⟩ ?_ ?_
  .rintro i σ H1 hi ⟨l,ys,e,rfl,s1,hl,hy⟩;have yl:=hy.len;rw[qA] at yl;have p2:2 ^ i<=2 ^ 7:=ahp (by decide) (by lia);walk_at "gzn";refine⟨⟨_,ah.of hl⟩,cH fU (adb (by lia:ys.length<=128) (by decide)) (fF (R:=kj) (R':=kj) (f:=λs=>s++[((i:Nat):Int)]) (λ_ _ _ _ s' h=>h.same s') (λ_ _ _ _ s' h=>h.same s') hy (bs:=[]) trivial (λH' s'=>ah.of (s' _ _ hl)) (λx s _ H2 s2 r Q h=>?_) (λx s hs H2 s2 r Q h=>?_) λH2 zs s2 hz=>?_)⟩
   .walk_at "gzn";exact h
   .obtain⟨a,rfl,ha⟩:=r;have sl:=qB i s hs;walk_at "gzn";refine⟨by decide,λb hb=>⟨_,(aw hb) _ _ ha,_,ar,adb (by rw[acV];show s.length+1<=20;lia) (by decide),λc hc=>h _ _ ((aw hb).trans (aw hc)) ⟨c,rfl,?_⟩⟩⟩;rw[ar,aea,show (0:Int)+(i:Int)=((i:Nat):Int) by lia];rfl
   .rw[adB] at hz;intro d hd;have ud:=aw (o:=.lst zs) hd;have zl:=hz.len;rw[acV,qA] at zl;refine⟨d,rfl,ys,(s2.trans ud) _ _ hl,zs,ar,adb (by lia:ys.length+zs.length<=256) (by decide),λc hc=>?_⟩;have uc:=aw (o:=.lst (ys++zs)) hc;exact⟨c,_,_,rfl,s1.trans (s2.trans (ud.trans uc)),ar,(hy.imp λ_ _ r=>r.same (s2.trans (ud.trans uc))).app (hz.imp λ_ _ r=>r.same (ud.trans uc))⟩
  .rintro σ H1 ⟨l,ys,e,rfl,s1,hl,hy⟩;walk_at "gzn";exact q l ys H1 s1 hl hy
theorem Yu{K:acS}{H:Hp}{Q:VK}{x y:ac6}{xs ys:List V}{ps:List P2}{ms:List Mk}(hx:ah K H x xs)(hP:dm H xs ps)(hy:ah K H y ys)(hM:ao (cU H) ys ms)(aj:cI ps)(hn:ps.length<=41)(hm:ms.length<=64)(q:∀ f H',ak H H'->iX H' f (gd ps ms)->Q f H'):K5 K [.ref x,.ref y] H Q E0:=by
 refine⟨x,y,xs,ys,ps,ms,rfl,hx,hP,hy,hM,aj,by lia,by lia,λt ht en H' s'=>q _ _ s' ?_,λbg l zs ss H' s' fl hl hz jn fK=>q _ _ s' ?_⟩
 .have e:gd ps ms=none:=if_pos (aes.mpr ⟨t,adY.mpr (by lia),by rw[en];rfl⟩);rw[e];rfl
 .have e0:¬ ((adx (ps.length+1)).any λt=>(aW (bB ms) (aF ps) t).isNone)=true:=λz=>by obtain⟨t,ht,h⟩:=aes.mp z;exact bg t (by have:=adY.mp ht;lia) (ahT.mp h)
  have e:gd ps ms=some ss:=by
   unfold gd;rw[if_neg e0]
   congr 1
   refine afK λt=>?_;by_cases ht:t<ps.length+1
   .have es:ss[t]?=some (a8 ss t):=by unfold a8;rw[acU,acW (by lia)];rfl
    rw[adi,adX ht,es];simp only[Option.map_some];rw[fK t (by lia)];rfl
   .rw[ael (by rw[acV,ads];lia),ael (by lia)]
  rw[e];exact⟨l,zs,rfl,hl,hz⟩
theorem Yv{H:Hp}{u d:Int}(h : -d<=u):∀ {n:Nat} {ys:List V},ao (fb H) ys (cW u d [] n)->dm H ys (ad4 n (-d,u)):=by
 intro n ys hy;have e:cW u d [] n=(adx n).map λ_=>some (some (-d),some u):=by
  unfold cW;refine aeZ λk _=>?_;show cJ (none,none) [(some (-d),some u)]=some (some (-d),some u);unfold cJ;rw[if_neg]
  .rfl
  .show ¬ (aS (some (-d)) (some u))=true;simp[aS];lia
 rw[e] at hy;have r:ad4 n ((-d,u):P2)=(adx n).map λ_=>(-d,u):=by
  refine afK λk=>?_;rw[ae8,adi];by_cases hk:k<n
  .rw[if_pos hk,adX hk];rfl
  .rw[if_neg hk,ael (by rw[ads];lia)];rfl
 rw[r];exact ao.x6 ((ao.bind hy).imp λ_ _ z=>z)
inductive Yw(K:acS)(B:ac6)(vs:List V)(H:Hp)(Q:VK)(a9:XK):Prop
 | mk(x p:ac6)(e t u d m:Int)(tb:Tb)(_:vs=[.ref x])(_:dr B H x e t u d m p tb)(_:(1<=e/\e<=7))(_:(1<=t/\t<=12))(_:0<=u)(_:0<=d)(_:cB e t tb)(_:tb.length<64)(_:∀ l zs H',ak H H'->H' l=some (.lst zs)->ao (λv ss=>iX H' v (some ss)) zs (((cC e.toNat).filter λs=>decide ((s.length:Int)=m)).filterMap λs=>gd (ad4 (t-1).toNat (-d,u)) (cu tb s))->Q (.ref l) H')
theorem Lb(T:Tx K mg):aJ P w K mg base (aK P w) 5 T.rD.a T.rD.fd ["board"] (Yw K T.aQ):=by
 refine okN T.rD.F uD (λvs H Q E h=>?_) (λaG A outer s H vs Q E hr h=>?_)
 .obtain⟨x,p,e,t,u,d,m,tb,rfl,_⟩:=h;rfl
 .obtain⟨x,p,e,t,u,d,m,tb,rfl,hb,he,ht,hu,hd,aj,bH,q⟩:=h;refine⟨_,(aq (aE (i:=1) uD.nd rfl (aiV rfl) (aC T.lV (AD T) hr az (ae (aa 0) (ae (cM ai) ai))))
  (aq (oh (i:=2) (b7.mk (fr:=[0]) (ys:=["board"]) rfl (by decide +kernel) rfl (by decide +kernel) rfl rfl (.cons rfl .nil) (.cons rfl rfl rfl rfl .nil) (by decide) rfl) rfl uD.nd rfl rfl (ck (aC T.uT (Yt T) hr az (ae (fh rfl (aa 0) rfl) ai))) (λC s2 H2 ex pn=>⟨(iO (cQ (bM (Rl (K:=K) rfl) (by rfl) T.dZ dN (ae (aa 0) ai)) (fh (K:=K) rfl (aa 1) rfl))),(aa 0)⟩))
  (aq (oh (i:=3) (b7.mk (fr:=[1,0]) (ys:=["steps","board"]) rfl (by decide +kernel) rfl (by decide +kernel) rfl rfl (.cons rfl (.cons rfl .nil)) (.cons rfl rfl rfl rfl (.cons rfl rfl rfl rfl .nil)) (by decide) rfl) rfl uD.nd rfl rfl (ck (aa 2)) (λC s2 H2 ex pn=>⟨dC,(aC T.rn (K6 T) hr az (ae (aa 1) (ae (aC T.rC (K1 T) hr az (ae (aa 2) (ae (aa 0) ai))) ai)))⟩))
  (au (aH (dE (b7.mk (fr:=[]) (ys:=[]) rfl (by decide +kernel) rfl (by decide +kernel) rfl rfl .nil .nil (by decide) rfl) rfl (ck (aa 3)) (λC s2 H2 ex pn=>⟨(iO (gH (aa 0))),(aa 0)⟩))))))),?_⟩
  obtain⟨⟨dx,hx⟩,kvs,hk,hT⟩:=id hb;walk_at "gzn";refine⟨adw _,λr bT=>?_⟩;have u1:=aw (o:=.lst []) bT;refine⟨x,p,r,e,t,u,d,m,kvs,[],[],rfl,⟨⟨dx,u1 _ _ hx⟩,u1 _ _ hk⟩,ht.1,ht.2,ah.of ar,trivial,by decide,λz=>absurd (λ_ h=>(nomatch h)) z,λ_ st ys H1 s1 _ bC hy=>?_⟩;have S1:=u1.trans s1;have Lc:=Yv (by lia) hy;have rl:(ad4 (t-1).toNat ((-d,u):P2)).length<=11:=by rw[aek];lia
  have iu:cI (ad4 (t-1).toNat ((-d,u):P2)):=λq hq=>by rw[(List.mem_replicate.mp hq).2];show -d<=u;lia
  generalize ad4 (t-1).toNat ((-d,u):P2)=ps at Lc rl iu q;refine⟨_,_,_,S1 _ _ hx,T.bN,T.kC,_,rfl,?_⟩;refine⟨e.toNat,by rw[afl (by lia)],by lia,λa Yx H2 s2 ha hc=>?_⟩;have S2:=S1.trans s2;have al:=hc.len;rw[qA] at al;have p2:2 ^ e.toNat<=2 ^ 7:=ahp (by decide) (by lia);refine⟨a,rfl,⟨_,ah.of ha⟩,cH fU (adb (by lia:Yx.length<=128) (by decide)) (tL (R:=kj) (p:=λs=>decide ((s.length:Int)=m)) (λ_ _ _ _ s h=>h.same s) hc (λH' s'=>ah.of (s' _ _ ha)) (λv s _ H3 s3 r Q h=>?_) (λv H3 s3 Q h=>?_) λH3 cs s3 hz=>?_)⟩
  .obtain⟨l,rfl,hl⟩:=r;walk_at "gzn";refine⟨_,dz (ah.of hl),_,_,_,(S2.trans s3) _ _ hx,T.bN,T.lX,_,rfl,?_⟩;rw[acV];walk_at "gzn";exact uv (Q:=λk=>Q k H3) (h _ (ak.refl _))
  .walk_at "gzn";exact h
  rw[adB];intro c Yy;have u3:=aw (o:=.lst cs) Yy;have S3:=S2.trans (s3.trans u3);have zl:=hz.len;have fl:=ad7 (λs:List Int=>decide ((s.length:Int)=m)) (cC e.toNat);rw[qA] at fl;have cF:=hz.imp λ_ _ r=>r.same u3;have c3:upd H3 c (.lst cs) c=some (.lst cs):=ar;generalize upd H3 c (.lst cs)=H4 at u3 S3 cF c3 ⊢;refine⟨c,rfl,⟨_,ah.of c3⟩,cH fU (adb (by lia:cs.length<=128) (by decide)) (fF (R:=kj) (R':=iX) (f:=λs=>gd ps (cu tb s)) (λ_ _ _ _ s h=>h.same s) (λ_ _ _ _ s h=>h.same s) cF (bs:=[]) trivial (λH' s'=>ah.of (s' _ _ c3)) (λv s _ H5 s5 r Q h=>?_) (λv s hs H5 s5 r Q h=>?_) λH5 fs s5 hf=>?_)⟩
  .walk_at "gzn";exact h
  .obtain⟨l,rfl,hl⟩:=r;have sl:=qB _ _ (adS.mp hs).1;have S5:=S3.trans s5;walk_at "gzn";refine⟨x,p,l,e,t,u,d,m,tb,s,rfl,hb.same S5,aj.1,bH,λr hr=>(aj.2 r hr).2.1,ah.of hl,by lia,λl2 ys2 H6 s6 ba hM=>?_⟩;refine Yu (ah.of ((s2.trans (s3.trans u3)).trans (s5.trans s6) _ _ bC)) (Lc.same ((s2.trans (s3.trans u3)).trans (s5.trans s6))) (ah.of ba) hM iu (by lia) ?_ λf H7 s7 hf=>h H7 f (s6.trans s7) hf;rw[acV];exact adb (ad7 _ _) (by rw[j8];lia)
  rw[adB] at hf;intro g hg;have ug:=aw (o:=.lst fs) hg;have g6:upd H5 g (.lst fs) g=some (.lst fs):=ar;have Ld:=hf.imp λ_ _ r=>r.same ug;have S6:=S3.trans (s5.trans ug);have Yz:=hf.len;rw[acV] at Yz;generalize upd H5 g (.lst fs)=H6 at S6 g6 Ld ⊢;refine⟨g,rfl,⟨_,ah.of g6⟩,cH fU (adb (by lia:fs.length<=128) (by decide)) (tL (R:=iX) (p:=λo=>o.isSome) (λ_ _ _ _ s h=>h.same s) Ld (λH' s'=>ah.of (s' _ _ g6)) (λv o _ H7 s7 r Q h=>?_) (λv H7 s7 Q h=>?_) λH7 ws s7 hw=>?_)⟩
  .cases o with
   | none =>
    obtain rfl:v = .non:=r;walk_at "gzn";exact h _ (ak.refl _)
   | some ss =>
    obtain⟨l,zs,rfl,_⟩:=r;walk_at "gzn";exact h _ (ak.refl _)
  .walk_at "gzn";exact h
  rw[adB];intro l hl;have ul:=aw (o:=.lst ws) hl;refine q l ws _ (S6.trans (s7.trans ul)) ar ?_;rw[<- map_some];exact yr (hw.imp λ_ _ r=>r.same ul)
inductive YA(K:acS)(B:ac6)(vs:List V)(H:Hp)(Q:VK)(a9:XK):Prop
 | mk(x p:ac6)(e t u d m:Int)(tb:Tb)(k:Nat)(_:vs=[.ref x,.int k])(_:dr B H x e t u d m p tb)(_:(1<=e/\e<=7))(_:(1<=t/\t<=12))(_:0<=u)(_:0<=d)(_:cB e t tb)(_:tb.length<64)(_:(k:Int)<t)(_:∀ l ys H',ak H H'->H l=none->H' l=some (.lst ys)->aU H' ys (mP ((gf e t u d m tb).map λss=>a8 ss k))->Q (.ref l) H')
theorem YB(T:Tx K mg):aJ P w K mg base (aK P w) 6 T.uU.a T.uU.fd ["board","turn"] (YA K T.aQ):=by
 refine jS T.uU.F Xc (λvs H Q E h=>?_) (λaG A outer s H vs Q E hr h=>?_)
 .obtain⟨x,p,e,t,u,d,m,tb,k,rfl,_⟩:=h;rfl
 .obtain⟨x,p,e,t,u,d,m,tb,k,rfl,hb,he,ht,hu,hd,aj,bH,vq,q⟩:=h;refine⟨_,(aq (aT (d8 (dq (jN (aa 0) T.bN T.rL (rM T) (hr.mono (by decide)) T.kB.b .nil az (ae (aa 1) ai)))) (au (mG mH rfl T.KD T.KI rfl (ae cX ai))) aV)
  (au (aH (aC T.uH (XO T) hr az (ae (dE (b7.mk (fr:=[1]) (ys:=["turn"]) rfl (by decide +kernel) rfl (by decide +kernel) rfl rfl (.cons rfl .nil) (.cons rfl rfl rfl rfl .nil) (by decide) rfl) rfl (ck (aC T.rD (Lb T) hr az (ae (aa 0) ai))) (λC s2 H2 ex pn=>⟨dC,(cK (K:=K) (aa 0) (aa 1))⟩)) ai))))),?_⟩
  obtain⟨⟨dx,hx⟩,kvs,hk,hT⟩:=id hb;walk_at "gzn";refine⟨_,_,hx,rfl,x,p,e,t,u,d,m,k,kvs,rfl,⟨⟨dx,hx⟩,hk⟩,?_⟩;rw[decide_eq_true (⟨by lia,vq⟩:(0:Int)<=(k:Int)/\(k:Int)<t)];walk_at "gzn";refine⟨x,p,e,t,u,d,m,tb,rfl,hb,he,ht,hu,hd,aj,bH,λl zs H1 s1 hl hz=>?_⟩;have hz:ao (λv ss=>iX H1 v (some ss)) zs (gf e t u d m tb):=hz;have zl:=hz.len;have tl:=yt (t:=t) (u:=u) (d:=d) (m:=m) (tb:=tb) he.1 he.2;walk_at "gzn";refine⟨⟨_,ah.of hl⟩,cH fU (adb (by lia:zs.length<=64) (by decide)) (fF (R:=λ_ v (ss:List S2)=>iX H1 v (some ss)) (R':=iV) (f:=λss=>a8 ss k) (λ_ _ _ _ _ h=>h) (λ_ _ _ _ s h=>aI.same h s) hz (bs:=[]) trivial (λH' s'=>ah.of (s' _ _ hl)) (λv s _ H5 s5 r Q h=>?_) (λv ss hs H5 s5 r Q h=>?_) λH5 fs s5 hf=>?_)⟩
  .walk_at "gzn";exact h
  .obtain⟨l2,ir,rfl,ba,lZ⟩:=r;have rl:=IS ht.1 hs;have es:ss[k]?=some (a8 ss k):=by unfold a8;rw[acU,acW (by lia)];rfl
   obtain⟨w,hw,rw_⟩:=lZ.at es;walk_at "gzn";exact aN (ah.of (s5 _ _ ba)) (eB hw) (h _ _ (ak.refl _) (aI.same rw_ s5))
  rw[adB] at hf;intro g hg;have ug:=aw (o:=.lst fs) hg;have fl:=hf.len;rw[acV] at fl;exact⟨g,fs,_,rfl,ah.of ar,by lia,ao.xM (hf.imp λ_ _ r=>aI.same r ug),λl3 ys H6 s6 f6 rO YC=>q l3 ys H6 (s1.trans (s5.trans (ug.trans s6))) ((s1.trans (s5.trans ug)).free f6) rO YC⟩
variable{P:ado}{w:adM}{K:acS}{mg:Str->Option acY}{base:aeA}
theorem Le{H H':Hp}{v:V}{as:List S2}(h:lA H v as)(s:ak H H'):lA H' v as:=⟨h.1,λz=>let ⟨lo,hi,a,b⟩:=h.2 z;⟨lo,hi,a.same s,b⟩⟩
inductive YD(K:acS)(B:ac6)(vs:List V)(H:Hp)(Q:VK)(a9:XK):Prop
 | mk(x p:ac6)(e t u d m:Int)(tb:Tb)(_:vs=[.ref x])(_:dr B H x e t u d m p tb)(_:(1<=e/\e<=7))(_:(1<=t/\t<=12))(_:0<=u)(_:0<=d)(_:cB e t tb)(_:tb.length<64)(_:∀ l ys H',ak H H'->H' l=some (.lst ys)->ao (λv (k:Nat)=>lA H' v ((gf e t u d m tb).map λss=>a8 ss k)) ys (adx t.toNat)->Q (.ref l) H')
theorem YE(T:Tx K mg):aJ P w K mg base (aK P w) 6 T.uV.a T.uV.fd ["board"] (YD K T.aQ):=by
 refine jS T.uV.F Kw (λvs H Q E h=>?_) (λaG A outer s H vs Q E hr h=>?_)
 .obtain⟨x,p,e,t,u,d,m,tb,rfl,_⟩:=h;rfl
 .obtain⟨x,p,e,t,u,d,m,tb,rfl,hb,he,ht,hu,hd,aj,bH,q⟩:=h;refine⟨_,(aq (aE (i:=1) Kw.nd rfl (aiV rfl) (aC T.rD (Lb T) hr az (ae (aa 0) ai)))
  (au (aH (UA (oB.mk (fr:=[1]) (ys:=["found"]) rfl (λ_ _=>rfl) (λ_=>rfl) rfl (by decide +kernel) rfl rfl (.cons rfl .nil) (.cons rfl rfl rfl rfl .nil) (by decide) rfl) rfl (fv rfl T.fj (ae (fh rfl (aa 0) rfl) ai)) (λC s2 H2 ex pn=>⟨dC,(aC T.rd (KL T) hr az (ae (dE (b7.mk (fr:=[0]) (ys:=["turn"]) rfl (by decide +kernel) rfl (by decide +kernel) rfl rfl (.cons rfl .nil) (.cons rfl rfl rfl rfl .nil) (by decide) rfl) rfl (Ux (K:=K) rfl (aa 1)) (λC s2 H2 ex pn=>⟨dC,(cK (K:=K) (aa 0) (aa 1))⟩)) ai))⟩))))),?_⟩
  obtain⟨⟨dx,hx⟩,kvs,hk,hT⟩:=id hb;walk_at "gzn";refine⟨x,p,e,t,u,d,m,tb,rfl,hb,he,ht,hu,hd,aj,bH,λl zs H1 s1 hl hz=>?_⟩;have hz:ao (λv ss=>iX H1 v (some ss)) zs (gf e t u d m tb):=hz;have zl:=hz.len;have tl:=yt (t:=t) (u:=u) (d:=d) (m:=m) (tb:=tb) he.1 he.2;walk_at "gzn";refine⟨_,_,_,s1 _ _ hx,T.bN,T.kD,_,rfl,?_⟩;refine⟨t,rfl,by lia,by lia,cH ly (by rw[acV,ads];exact adb (by lia:_<=12) (by decide)) (fF (R:=λ_ x (k:Nat)=>x=V.int ((0:Int)+k)) (R':=λH v (k:Nat)=>lA H v ((gf e t u d m tb).map λss=>a8 ss k)) (f:=λ(k:Nat)=>k) (λ_ _ _ _ _ h=>h) (λ_ _ _ _ s' h=>Le h s') (ao.ix _) (bs:=[]) trivial (λ_ _=>trivial) (λx k _ H2 s2 r Q h=>?_) (λx k AF H2 s2 r Q h=>?_) λH2 ir s2 lZ=>?_)⟩
  .walk_at "gz";exact h
  .subst r;have vq:=adY.mp AF;walk_at "gz";rw[ahf];refine⟨⟨_,ah.of (s2 _ _ hl)⟩,cH fU (adb (by lia:zs.length<=64) (by decide)) (fF (R:=λ_ v (ss:List S2)=>iX H1 v (some ss)) (R':=iV) (f:=λss=>a8 ss k) (λ_ _ _ _ _ h=>h) (λ_ _ _ _ s h=>aI.same h s) hz (bs:=[]) trivial (λH' s'=>ah.of ((s2.trans s') _ _ hl)) (λv s _ H5 s5 r Q h=>?_) (λv ss hs H5 s5 r Q h=>?_) λH5 fs s5 hf=>?_)⟩
   .walk_at "gzn";exact h
   .obtain⟨l2,ir,rfl,ba,lZ⟩:=r;have rl:=IS ht.1 hs;have es:ss[k]?=some (a8 ss k):=by unfold a8;rw[acU,acW (by lia)];rfl
    obtain⟨w,hw,rw_⟩:=lZ.at es;walk_at "gzn";exact aN (ah.of ((s2.trans s5) _ _ ba)) (eB hw) (h _ _ (ak.refl _) (aI.same rw_ (s2.trans s5)))
   rw[adB] at hf;intro g hg;have ug:=aw (o:=.lst fs) hg;have fl:=hf.len;rw[acV] at fl;exact⟨g,fs,_,rfl,ah.of ar,adb (by lia:fs.length<=64) (by decide),ao.xM (hf.imp λ_ _ r=>aI.same r ug),λv H6 s6 hh=>h _ _ (s5.trans (ug.trans s6)) hh⟩
  .intro l2 ba;rw[adB,ajg] at lZ;exact q l2 ir _ (s1.trans (s2.trans (aw ba))) ar (lZ.imp λ_ _ r=>Le r (aw ba))
variable{P:ado}{w:adM}{K:acS}{mg:Str->Option acY}{base:aeA}
theorem YF{K:acS}{H1 H':Hp}{l:ac6}{ys:List V}{ms:List Mk}(hl:H1 l=some (.lst ys))(hM:ao (cU H1) ys ms)(s:ak H1 H'):mZ K l ys (rowOf H1) 2 H':=by refine⟨ah.of (s _ _ hl),λx hx=>?_⟩;obtain⟨i,hi⟩:=aeG.mp hx;obtain⟨m,_,t,p,rfl,h1,h2⟩:=hM.get hi;rw[lH h1];exact⟨t,rfl,ax.of (s _ _ h1),rfl⟩
theorem Lf:∀ {ws:List V} {bs:List Bool},ao (λv b=>v=V.bl b) ws bs->ws=bs.map V.bl
 | [],[],_=>rfl
 | _::_,_::_,h=>by rw[h.1,Lf h.2];rfl
 | [],_::_,h=>h.elim
 | _::_,[],h=>h.elim
theorem Lg:∀ {ws:List V} {bs:List Int},ao (λv b=>v=V.int b) ws bs->ws=bs.map V.int
 | [],[],_=>rfl
 | _::_,_::_,h=>by rw[h.1,Lg h.2];rfl
 | [],_::_,h=>h.elim
 | _::_,[],h=>h.elim
theorem YG(tb:Tb)(i:Int):(fI tb i).length<=tb.length:=by unfold fI;rw[acV];exact adb (ad7 _ _) (by rw[j8];exact ac8 _)
inductive YH(K:acS)(B:ac6)(vs:List V)(H:Hp)(Q:VK)(a9:XK):Prop
 | mk(x p c:ac6)(e t u d m i:Int)(tb:Tb)(cs:List Int)(_:vs=[.ref x,.int i,.ref c])(_:dr B H x e t u d m p tb)(_:cB e t tb)(_:tb.length<64)(_:ah K H c (cs.map V.int))(_:cs.length=t.toNat)(_:∀ H',ak H H'->Q (.bl (qG tb cs i)) H')
theorem YI(T:Tx K mg):aJ P w K mg base (aK P w) 3 T.uN.a T.uN.fd ["board","eye","course"] (YH K T.aQ):=by
 refine okN T.uN.F W0 (λvs H Q E h=>?_) (λaG A outer s H vs Q E hr h=>?_)
 .obtain⟨x,p,c,e,t,u,d,m,i,tb,cs,rfl,_⟩:=h;rfl
 .obtain⟨x,p,c,e,t,u,d,m,i,tb,cs,rfl,hb,aj,bH,hc,bc,q⟩:=h;refine⟨_,(au (aH (uy (bM (Hu rfl) (by rfl) T.Ky Gj (ae (tJ (g:=gP K 2 (bU (bR 0) (bU (bR 1) gq))) (mR.mk (own:=["turn","word"]) (fr:=[2]) (ys:=["course"]) rfl (by decide +kernel) rfl (by decide +kernel) rfl (.cons rfl .nil) (.cons rfl rfl rfl rfl .nil) rfl) rfl (ck (aC T.rB (K0 T) hr az (ae (aa 0) (ae (aa 1) ai)))) (λC s2 H2 ex pn=>gv (n:=2) rfl (bW (bf (i:=0) (show (["turn","word","course"]:List Str).Nodup by decide) rfl (.inl (adt rfl)) (.inr (adt rfl))) (bW (bf (i:=1) (show (["turn","word","course"]:List Str).Nodup by decide) rfl (.inl (adt rfl)) (.inr (adt rfl))) gu))) (λC s2 H2 ex pn=>⟨dC,(aC T.q9 (KJ T) hr az (ae (aa 1) (ae (cK (K:=K) (aa 2) (aa 0)) ai)))⟩)) ai))))),?_⟩;walk_at "gzn";refine⟨x,p,e,t,u,d,m,i,tb,rfl,hb,aj.1,bH,λr hr=>(aj.2 r hr).2.1,λl ys H1 s1 _ hl hM=>?_⟩;have yl:=hM.len;have ml:=YG tb i;refine⟨l,rfl,⟨_,ah.of hl⟩,Tv (row:=rowOf H1) (adb (by lia:ys.length<=64) (by decide)) (fF (R:=λ_ x (k:Mk)=>cU H1 x k) (R':=λ_ v (b:Bool)=>v=V.bl b) (f:=λk=>hold k.2.1 k.2.2 (c7 cs k.1)) (λ_ _ _ _ _ h=>h) (λ_ _ _ _ _ h=>h) hM (bs:=[]) trivial (λH' s'=>YF hl hM s') (λv k _ H2 s2 h1 Q h=>?_) (λv k hk H2 s2 h1 Q h=>?_) λH2 zs s2 hz=>?_)⟩
  .obtain⟨ta,wp,rfl,ha,hw⟩:=h1;unfold kh;dsimp only;rw[lH ha];walk_at "gzn";exact h
  .obtain⟨ta,wp,rfl,ha,hw⟩:=h1;obtain⟨r,hr,_,rfl⟩:=yC.mp hk;have rP:=(aj.2 r hr).2;unfold ki;dsimp only;rw[lH ha];walk_at "gzn";refine aN ((s1.trans s2).seq hc) (eB (qF (by lia))) ?_;exact⟨_,_,_,_,rfl,⟨wp,rfl,s2 _ _ hw⟩,h _ _ (ak.refl _) rfl⟩
  rw[adB] at hz;have ez:=Lf hz;subst ez;intro l2 ba;walk_at "gzn";refine⟨_,ah.of ar,?_⟩;have e1:(((fI tb i).map λk=>hold k.2.1 k.2.2 (c7 cs k.1)).all id)=((fI tb i).all λk=>hold k.2.1 k.2.2 (c7 cs k.1)):=by rw[aja];rfl
  rw[e1];exact q _ (s1.trans (s2.trans (aw ba)))
inductive YJ(K:acS)(B:ac6)(vs:List V)(H:Hp)(Q:VK)(a9:XK):Prop
 | mk(x p c:ac6)(e t u d m:Int)(tb:Tb)(cs:List Int)(_:vs=[.ref x,.ref c])(_:dr B H x e t u d m p tb)(_:(1<=e/\e<=7))(_:cB e t tb)(_:tb.length<64)(_:ah K H c (cs.map V.int))(_:cs.length=t.toNat)(_:∀ l H',ak H H'->H l=none->H' l=some (.lst ((t8 e tb cs).map V.int))->Q (.ref l) H')
theorem YK(T:Tx K mg):aJ P w K mg base (aK P w) 4 T.uO.a T.uO.fd ["board","course"] (YJ K T.aQ):=by
 refine okN T.uO.F W3 (λvs H Q E h=>?_) (λaG A outer s H vs Q E hr h=>?_)
 .obtain⟨x,p,c,e,t,u,d,m,tb,cs,rfl,_⟩:=h;rfl
 .obtain⟨x,p,c,e,t,u,d,m,tb,cs,rfl,hb,he,aj,bH,hc,bc,q⟩:=h;refine⟨_,(au (aH (dE (b7.mk (fr:=[0,1]) (ys:=["board","course"]) rfl (by decide +kernel) rfl (by decide +kernel) rfl rfl (.cons rfl (.cons rfl .nil)) (.cons rfl rfl rfl rfl (.cons rfl rfl rfl rfl .nil)) (by decide) rfl) rfl (fv rfl T.fj (ae (fh rfl (aa 0) rfl) ai)) (λC s2 H2 ex pn=>⟨(iO (dq (aC T.uN (YI T) hr az (ae (aa 1) (ae (aa 0) (ae (aa 2) ai)))))),(aa 0)⟩)))),?_⟩;obtain⟨⟨dx,hx⟩,htb⟩:=id hb;walk_at "gzn";refine⟨_,_,_,hx,T.bN,T.kC,_,rfl,?_⟩;walk_at "gzn";refine⟨by lia,by lia,?_⟩;have A:ao (λv (k:Int)=>v=V.int k) ((adx e.toNat).map λk=>V.int (0+(k:Nat))) ((adx e.toNat).map λ(k:Nat)=>(k:Int)):=by
   generalize adx e.toNat=ks
   induction ks with
   | nil=>exact trivial
   | cons k ks ih=>exact⟨by show V.int (0+(k:Int))=V.int (k:Int);rw[ahf],ih⟩
  refine cH ly (adb (by rw[acV,ads];lia:_<=64) (by decide)) (tL (R:=λ_ v (k:Int)=>v=V.int k) (p:=qG tb cs) (λ_ _ _ _ _ h=>h) A (λ_ _=>trivial) (λv k _ H3 s3 r Q h=>?_) (λv H3 s3 Q h=>?_) λH3 zs s3 hz=>?_)
  .subst r;walk_at "gzn";refine⟨x,p,c,e,t,u,d,m,k,tb,cs,rfl,hb.same s3,aj,bH,s3.seq hc,bc,λH' s'=>?_⟩;walk_at "gzn";exact h _ s'
  .walk_at "gzn";exact h
  rw[adB];have ez:=Lg hz;subst ez;intro l hl;exact q l _ (s3.trans (aw hl)) (s3.free hl) ar
theorem YL{H:Hp}{u d:Int}(h : -d<=u){n:Nat}{ys:List V}(hy:ao (fb H) ys (cW u d [] n)):ao (λv (_:Nat)=>iV H v (some (-d),some u)) ys (adx n):=by
 have e:cW u d [] n=(adx n).map λ_=>some (some (-d),some u):=by
  unfold cW;refine aeZ λk _=>?_;show cJ (none,none) [(some (-d),some u)]=some (some (-d),some u);unfold cJ;rw[if_neg]
  .rfl
  .show ¬ (aS (some (-d)) (some u))=true;simp[aS];lia
 rw[e] at hy;exact (ao.bind hy).imp λ_ _ z=>z
noncomputable def vt(u d:Int)(cs:List Int)(n:Nat):Bool:=(adx n).all λk=>hold (some (-d)) (some u) (c7 cs (k+1)-c7 cs k)
inductive YM(K:acS)(vs:List V)(H:Hp)(Q:VK)(a9:XK):Prop
 | mk(a c:ac6)(xs:List V)(u d:Int)(n:Nat)(cs:List Int)(_:vs=[.ref a,.ref c])(_:ah K H a xs)(_:ao (λv (_:Nat)=>iV H v (some (-d),some u)) xs (adx n))(_:n<=100)(_:ah K H c (cs.map V.int))(_:cs.length=n+1)(_:∀ H',ak H H'->Q (.bl (vt u d cs n)) H')
theorem YN(T:Tx K mg):aJ P w K mg base (aK P w) 3 T.uP.a T.uP.fd ["steps","course"] (YM K):=by
 refine okN T.uP.F W6 (λvs H Q E h=>?_) (λaG A outer s H vs Q E hr h=>?_)
 .obtain⟨a,c,xs,u,d,n,cs,rfl,_⟩:=h;rfl
 .obtain⟨a,c,xs,u,d,n,cs,rfl,ha,hA,hn,hc,bc,q⟩:=h;refine⟨_,(au (aH (bM (Hu rfl) (by rfl) T.Ky Gj (ae (tJ (g:=gP K 3 (bU (bR 0) (bU (bR 1) (bU (bR 2) gq)))) (mR.mk (own:=["step","ahead","after"]) (fr:=[]) (ys:=[]) rfl (by decide +kernel) rfl (by decide +kernel) rfl .nil .nil rfl) rfl (Ud rfl T.KA (ae (aa 0) (ae (aa 1) (ae (FN FW (aa 1) (FI ag) FH) ai)))) (λC s2 H2 ex pn=>gv (n:=3) rfl (bW (bf (i:=0) (show (["step","ahead","after"]:List Str).Nodup by decide) rfl (.inl (adt rfl)) (.inr (adt rfl))) (bW (bf (i:=1) (show (["step","ahead","after"]:List Str).Nodup by decide) rfl (.inl (adt rfl)) (.inr (adt rfl))) (bW (bf (i:=2) (show (["step","ahead","after"]:List Str).Nodup by decide) rfl (.inl (adt rfl)) (.inr (adt rfl))) gu)))) (λC s2 H2 ex pn=>⟨dC,(aC T.q9 (KJ T) hr az (ae (aa 0) (ae (aD eL (aa 2) (aa 1)) ai)))⟩)) ai)))),?_⟩;have xl:=hA.len;rw[ads] at xl;walk_at "gzn";refine⟨_,hc,λp hp=>?_⟩;have ec:kO (cs.map V.int) (some 1) none=(cs.map V.int).drop 1:=HA _ 1;rw[ec];have u1:=aw (o:=.lst ((cs.map V.int).drop 1)) hp;refine⟨⟨_,u1.seq ha⟩,⟨_,u1.seq hc⟩,⟨_,ah.of ar⟩,Uu (n:=n) (f:=λi=>V.bl (hold (some (-d)) (some u) (c7 cs (i+1)-c7 cs i))) (adb hn (by decide)) (u1.seq ha) (u1.seq hc) (ah.of ar) xl (by rw[acV];lia) (by rw[ahi,acV];lia) (λi x y z H' hi hx hy hz s' Q h=>?_) λH' s' l hl=>?_⟩
  .obtain⟨_,_,tp,rfl,AG⟩:=hA.get hx;rw[qF (by lia)] at hy;rw[ajW,akm 1 i,qF (by lia)] at hz;cases hy;cases hz;walk_at "gzn";exact⟨_,_,_,_,rfl,⟨tp,rfl,(u1.trans s') _ _ AG⟩,h _ (ak.refl _)⟩
  .refine⟨l,rfl,(adx n).map λi=>hold (some (-d)) (some u) (c7 cs (i+1)-c7 cs i),ah.of (by rw[ar,ae1];rfl),?_⟩;rw[aja];exact q _ (u1.trans (s'.trans (aw hl)))
inductive YO(K:acS)(B:ac6)(vs:List V)(H:Hp)(Q:VK)(a9:XK):Prop
 | mk(x p c:ac6)(e t u d m:Int)(tb:Tb)(cs:List Int)(_:vs=[.ref x,.ref c])(_:dr B H x e t u d m p tb)(_:(1<=e/\e<=7))(_:(1<=t/\t<=12))(_:0<=u)(_:0<=d)(_:cB e t tb)(_:tb.length<64)(_:ah K H c (cs.map V.int))(_:cs.length=t.toNat)(_:∀ H',ak H H'->Q (.bl (vt u d cs (t-1).toNat && decide (((t8 e tb cs).length:Int)<=m))) H')
theorem YQ(T:Tx K mg):aJ P w K mg base (aK P w) 5 T.uQ.a T.uQ.fd ["board","course"] (YO K T.aQ):=by
 refine okN T.uQ.F Xa (λvs H Q E h=>?_) (λaG A outer s H vs Q E hr h=>?_)
 .obtain⟨x,p,c,e,t,u,d,m,tb,cs,rfl,_⟩:=h;rfl
 .obtain⟨x,p,c,e,t,u,d,m,tb,cs,rfl,hb,he,ht,hu,hd,aj,bH,hc,bc,q⟩:=h;refine⟨_,(au (aH (i6 (aC T.uP (YN T) hr az (ae (aC T.lV (AD T) hr az (ae (aa 0) (ae (cM ai) ai))) (ae (aa 1) ai))) (jc (jg (lR iF) (bM ed (by rfl) T.dZ dN (ae (aC T.uO (YK T) hr az (ae (aa 0) (ae (aa 1) ai))) ai)) (fh rfl (aa 0) rfl) (fQ _)))))),?_⟩;obtain⟨⟨dx,hx⟩,kvs,hk,hT⟩:=id hb;walk_at "gzn";refine⟨adw _,λr bT=>?_⟩;have u1:=aw (o:=.lst []) bT;refine⟨x,p,r,e,t,u,d,m,kvs,[],[],rfl,⟨⟨dx,u1 _ _ hx⟩,u1 _ _ hk⟩,ht.1,ht.2,ah.of ar,trivial,by decide,λz=>absurd (λ_ h=>(nomatch h)) z,λ_ st ys H1 s1 _ bC hy=>?_⟩;have S1:=u1.trans s1;refine⟨st,c,ys,u,d,(t-1).toNat,cs,rfl,ah.of bC,YL (by lia) hy,by lia,S1.seq hc,by lia,λH2 s2=>bA (λh1=>?_) λh1=>?_⟩
  .have SS:=S1.trans s2;rw[h1] at q;refine⟨x,p,c,e,t,u,d,m,tb,cs,rfl,hb.same SS,he,aj,bH,SS.seq hc,bc,λl H3 s3 _ hl=>⟨_,dz (ah.of hl),_,_,_,(SS.trans s3) _ _ hx,T.bN,T.lX,_,rfl,?_⟩⟩;rw[acV];exact q _ (SS.trans s3)
  .have h1:vt u d cs (t-1).toNat=false:=by simpa using h1
   rw[h1] at q;exact q _ (S1.trans s2)
variable{P:ado}{w:adM}{K:acS}{mg:Str->Option acY}{base:aeA}
structure me(e t u d m f:Int):Prop where
 he:1<=e/\e<=7
 ht:1<=t/\t<=12
 hu:0<=u/\u<=6 * 1000000000000000000000000000000000000000000000000000000000
 hd:0<=d/\d<=6 * 1000000000000000000000000000000000000000000000000000000000
 hm:0<=m/\m<=e
 hf:1<=f/\f<=1000000000000000000000000000000000000000000000000000000000
noncomputable def mf(e t u d m f:Int):List V:=[.int e,.int t,.int u,.int d,.int m,.int f]
inductive YR(K:acS)(vs:List V)(H:Hp)(Q:VK)(a9:XK):Prop
 | mk(a:ac6)(ns:List Int)(_:vs=[.ref a])(_:ah K H a (ns.map V.int))(_:gB ns)(_:∀ (l:ac6) (e t u d m f:Int) (H':Hp),ak H H'->H l=none->H' l=some (.lst (mf e t u d m f))->me e t u d m f->Q (.ref l) H')
noncomputable def YS(w e t m:Int):Prop:=(1<=t/\t<=12)/\(1<=e/\e<=7)/\(0<=m/\m<=e)/\(w=1∨w=3∨e<=4)
noncomputable def vw(e t m:Int):Prop:=(1<=t/\t<=12)/\(1<=e/\e<=7)/\(0<=m/\m<=e)
noncomputable def vx(a:ac6)(H:Hp)(σ:St)(H':Hp):Prop:=∃ w e t m:Int,σ=[some (.ref a),some (.int w),some (.int e),some (.int t),some (.int m),none,none,none]/\H'=H/\YS w e t m
noncomputable def YT(a:ac6)(H:Hp)(σ:St)(H':Hp):Prop:=∃ w e t m:Int,σ=[some (.ref a),some (.int w),some (.int e),some (.int t),some (.int m),none,none,none]/\H'=H/\vw e t m
noncomputable def YU(a:ac6)(H:Hp)(σ:St)(H':Hp):Prop:=∃ w e t m f:Int,σ=[some (.ref a),some (.int w),some (.int e),some (.int t),some (.int m),some (.int f),none,none]/\ak H H'/\vw e t m/\1<=f/\f<=1000000000000000000000000000000000000000000000000000000000
noncomputable def YV(a:ac6)(H:Hp)(σ:St)(H':Hp):Prop:=∃ w e t m f u:Int,σ=[some (.ref a),some (.int w),some (.int e),some (.int t),some (.int m),some (.int f),some (.int u),none]/\ak H H'/\vw e t m/\(1<=f/\f<=1000000000000000000000000000000000000000000000000000000000)/\0<=u/\u<=6 * 1000000000000000000000000000000000000000000000000000000000
noncomputable def Lh(a:ac6)(H:Hp)(σ:St)(H':Hp):Prop:=∃ w e t m f u d:Int,σ=[some (.ref a),some (.int w),some (.int e),some (.int t),some (.int m),some (.int f),some (.int u),some (.int d)]/\ak H H'/\vw e t m/\(1<=f/\f<=1000000000000000000000000000000000000000000000000000000000)/\(0<=u/\u<=6 * 1000000000000000000000000000000000000000000000000000000000)/\0<=d/\d<=6 * 1000000000000000000000000000000000000000000000000000000000
theorem Li{p f:Int}(h0:0<=p)(h1:p<7)(f1:1<=f)(f2:f<=1000000000000000000000000000000000000000000000000000000000):0<=p * f/\p * f<=6 * 1000000000000000000000000000000000000000000000000000000000:=by have a:=ak8 (show p<=6 by lia) f2 (by lia) (by decide);exact⟨ajy h0 (by lia),a⟩
theorem YW(T:Tx K mg):aJ P w K mg base (aK P w) 3 T.uW.a T.uW.fd ["_law_script"] (YR K):=by
 refine okN T.uW.F cV (λvs H Q E h=>?_) (λaG A outer s H vs Q E hr h=>?_)
 .obtain⟨a,ns,rfl,_⟩:=h;rfl
 .obtain⟨a,ns,rfl,hS,hn,q⟩:=h;refine⟨_,(aq (aE (i:=1) cV.nd rfl (adv rfl) (aC T.bS (cc T) hr az (ae (aa 0) (ae ag (ae ag ai)))))
  (aq (aE (i:=2) cV.nd rfl (adv rfl) (aD bb ag (aC T.bS (cc T) hr az (ae (aa 0) (ae ag (ae ag ai))))))
  (aq (aE (i:=3) cV.nd rfl (adv rfl) (aD bb ag (aC T.bS (cc T) hr az (ae (aa 0) (ae ag (ae ag ai))))))
  (aq (aE (i:=4) cV.nd rfl (adv rfl) (bM (wg rfl) (by rfl) T.pj nX (ae (aa 2) (ae (aC T.bS (cc T) hr az (ae (aa 0) (ae ag (ae ag ai)))) ai))))
  (aq (aT (cQ (aa 1) ag) (aq (aE (i:=2) cV.nd rfl (adv rfl) ag)
    (aq (aE (i:=3) cV.nd rfl (adv rfl) (aD bb ag (aD jD (aa 3) ag)))
    (au (aE (i:=4) cV.nd rfl (adv rfl) (aC T.bS (cc T) hr az (ae (aa 0) (ae ag (ae ag ai)))))))) aV)
  (aq (aT (cQ (aa 1) ag) (aq (aE (i:=2) cV.nd rfl (adv rfl) (aD bb ag (aD jD (aa 2) ag)))
    (aq (aE (i:=3) cV.nd rfl (adv rfl) (aD bb ag (aC T.bS (cc T) hr az (ae (aa 0) (ae ag (ae ag ai))))))
    (au (aE (i:=4) cV.nd rfl (adv rfl) (bM (wg rfl) (by rfl) T.pj nX (ae (aa 2) (ae (aa 4) ai))))))) aV)
  (aq (aT (cQ (aa 1) ag) (aq (aE (i:=2) cV.nd rfl (adv rfl) (aD bb ag (aD jD (aa 2) ag)))
    (aq (aE (i:=3) cV.nd rfl (adv rfl) ag)
    (au (aE (i:=4) cV.nd rfl (adv rfl) (aC T.bS (cc T) hr az (ae (aa 0) (ae ag (ae (aD bb (aa 2) ag) ai)))))))) aV)
  (aq (aT (cQ (aa 1) ag) (aq (aE (i:=2) cV.nd rfl (adv rfl) (aD bb ag (aa 2)))
    (aq (aE (i:=3) cV.nd rfl (adv rfl) (aD bb ag (aC T.bS (cc T) hr az (ae (aa 0) (ae ag (ae ag ai))))))
    (au (aE (i:=4) cV.nd rfl (adv rfl) (bM (wg rfl) (by rfl) T.pj nX (ae (aa 4) (ae ag ai))))))) aV)
  (aq (aE (i:=5) cV.nd rfl (adv rfl) (ay (cM (ae ag (ae ag (ae ag (ae ag (ae (aD bb (aD my ag ag) ag) (ae (aD bb ag (aC T.nr (vk T) hr az (ae (aa 0) (ae ag (ae (aD my ag ag) ai))))) ai))))))) (aC T.bS (cc T) hr az (ae (aa 0) (ae ag (ae ag ai))))))
  (aq (aE (i:=6) cV.nd rfl (adv rfl) (aD ic (aC T.bS (cc T) hr az (ae (aa 0) (ae ag (ae ag ai)))) (aa 5)))
  (aq (aE (i:=7) cV.nd rfl (adv rfl) (aD ic (aC T.bS (cc T) hr az (ae (aa 0) (ae ag (ae ag ai)))) (aa 5)))
  (aq (aT (cQ (aC T.bS (cc T) hr az (ae (aa 0) (ae ag (ae ag ai)))) ag) (aq (aE (i:=6) cV.nd rfl (adv rfl) ag)
    (au (aE (i:=7) cV.nd rfl (adv rfl) ag))) aV)
  (au (aH (cM (ae (aa 2) (ae (aa 3) (ae (aa 6) (ae (aa 7) (ae (aa 4) (ae (aa 5) ai))))))))))))))))))))),?_⟩
  refine aM (λσ H'=>∃ w:Int,σ=[some (.ref a),some (.int w),none,none,none,none,none,none]/\H'=H) (λN hN=>?_) ?_
  .walk_at "gzn";refine⟨a,ns,_,_,rfl,hS,hn,by lia,by lia,λp p1 p2=>?_⟩;walk_at "gzn";exact hN _ _ ⟨_,rfl,rfl⟩
  rintro σ H' ⟨w,rfl,rfl⟩;refine aM (λσ H1=>∃ e:Int,σ=[some (.ref a),some (.int w),some (.int e),none,none,none,none,none]/\H1=H'/\1<=e/\e<=4) (λN hN=>?_) ?_
  .walk_at "gzn";refine⟨a,ns,_,_,rfl,hS,hn,by lia,by lia,λp p1 p2=>?_⟩;walk_at "gzn";exact hN _ _ ⟨_,rfl,rfl,by lia,by lia⟩
  rintro σ H ⟨e,rfl,rfl,e1,e2⟩;refine aM (λσ H1=>∃ t:Int,σ=[some (.ref a),some (.int w),some (.int e),some (.int t),none,none,none,none]/\H1=H/\1<=t/\t<=4) (λN hN=>?_) ?_
  .walk_at "gzn";refine⟨a,ns,_,_,rfl,hS,hn,by lia,by lia,λp p1 p2=>?_⟩;walk_at "gzn";exact hN _ _ ⟨_,rfl,rfl,by lia,by lia⟩
  rintro σ H' ⟨t,rfl,rfl,t1,t2⟩;refine aM (vx a H') (λN hN=>?_) ?_
  .walk_at "gzn";refine⟨a,ns,_,_,rfl,hS,hn,by lia,by lia,λp p1 p2=>?_⟩;walk_at "gzn";refine hN _ _ ⟨_,_,_,_,rfl,rfl,by lia,by lia,?_,.inr (.inr e2)⟩;split<;>lia
  rintro σ H ⟨w,e,t,m,rfl,rfl,hA⟩;refine aM (vx a H) (λN hN=>?_) ?_
  .obtain⟨a1,a2,a3,a4⟩:=id hA;walk_at "gzn";refine bA (λhw=>?_) λhw=>?_
   .subst hw;refine⟨a,ns,_,_,rfl,hS,hn,by lia,by lia,λp p1 p2=>?_⟩;walk_at "gzn";exact hN _ _ ⟨_,_,_,_,rfl,rfl,by lia,by lia,by lia,.inl rfl⟩
   .exact hN _ _ ⟨_,_,_,_,rfl,rfl,hA⟩
  rintro σ H' ⟨w,e,t,m,rfl,rfl,hA⟩;refine aM (vx a H') (λN hN=>?_) ?_
  .obtain⟨a1,a2,a3,a4⟩:=id hA;walk_at "gzn";refine bA (λhw=>?_) λhw=>?_
   .subst hw;refine⟨a,ns,_,_,rfl,hS,hn,by lia,by lia,λp p1 p2=>?_⟩;walk_at "gzn";refine hN _ _ ⟨_,_,_,_,rfl,rfl,by lia,by lia,?_,.inr (.inr (by lia))⟩;split<;>lia
   .exact hN _ _ ⟨_,_,_,_,rfl,rfl,hA⟩
  rintro σ H ⟨w,e,t,m,rfl,rfl,hA⟩;refine aM (vx a H) (λN hN=>?_) ?_
  .obtain⟨a1,a2,a3,a4⟩:=id hA;walk_at "gzn";refine bA (λhw=>?_) λhw=>?_
   .subst hw;refine⟨a,ns,_,_,rfl,hS,hn,by lia,by lia,λp p1 p2=>?_⟩;walk_at "gzn";exact hN _ _ ⟨_,_,_,_,rfl,rfl,by lia,by lia,by lia,.inr (.inl rfl)⟩
   .exact hN _ _ ⟨_,_,_,_,rfl,rfl,hA⟩
  rintro σ H' ⟨w,e,t,m,rfl,rfl,hA⟩;refine aM (YT a H') (λN hN=>?_) ?_
  .obtain⟨a1,a2,a3,a4⟩:=id hA;walk_at "gzn";refine bA (λhw=>?_) λhw=>?_
   .subst hw;refine⟨a,ns,_,_,rfl,hS,hn,by lia,by lia,λp p1 p2=>?_⟩;walk_at "gzn";refine hN _ _ ⟨_,_,_,_,rfl,rfl,by lia,by lia,?_⟩;split<;>lia
   .exact hN _ _ ⟨_,_,_,_,rfl,rfl,a1,a2,a3⟩
  rintro σ H ⟨w,e,t,m,rfl,rfl,hA⟩;refine aM (YU a H) (λN hN=>?_) ?_
  .walk_at "gzn";refine⟨⟨by decide,by decide,by decide⟩,⟨by decide,by decide,by decide⟩,?_⟩;refine⟨a,ns,_,_,rfl,hS,hn,by lia,by lia,λf f1 f2=>?_⟩;walk_at "gzn";refine⟨by decide,λl hl=>?_⟩;refine⟨a,ns,_,_,rfl,(aw hl).seq hS,hn,by lia,by lia,λp p1 p2=>?_⟩;obtain⟨v,hv,ev⟩:=xN (vs:=[1,1,1,1,1000000007,1+f]) p1 p2;refine aN (ah.of ar) ev ?_;walk_at "gzn";refine hN _ _ ⟨_,_,_,_,_,rfl,aw hl,hA,?_⟩;simp only[ac9,aeW,or_false] at hv;lia
  rintro σ H1 ⟨w,e,t,m,f,rfl,s1,hA,f1,f2⟩;refine aM (YV a H) (λN hN=>?_) ?_
  .walk_at "gzn";refine⟨a,ns,_,_,rfl,s1.seq hS,hn,by lia,by lia,λp p1 p2=>?_⟩;walk_at "gzn";refine⟨ju (by lia) (by lia),?_⟩;exact hN _ _ ⟨_,_,_,_,_,_,rfl,s1,hA,⟨f1,f2⟩,Li p1 p2 f1 f2⟩
  rintro σ H2 ⟨w,e,t,m,f,u,rfl,s2,hA,⟨f1,f2⟩,hu⟩;refine aM (Lh a H) (λN hN=>?_) ?_
  .walk_at "gzn";refine⟨a,ns,_,_,rfl,s2.seq hS,hn,by lia,by lia,λp p1 p2=>?_⟩;walk_at "gzn";refine⟨ju (by lia) (by lia),?_⟩;exact hN _ _ ⟨_,_,_,_,_,_,_,rfl,s2,hA,⟨f1,f2⟩,hu,Li p1 p2 f1 f2⟩
  rintro σ H3 ⟨w,e,t,m,f,u,d,rfl,s3,hA,⟨f1,f2⟩,hu,hd⟩;refine aM (Lh a H) (λN hN=>?_) ?_
  .walk_at "gzn";refine⟨a,ns,_,_,rfl,s3.seq hS,hn,by lia,by lia,λp p1 p2=>?_⟩;walk_at "gzn";refine bA (λhw=>?_) λhw=>?_
   .exact hN _ _ ⟨_,_,_,_,_,_,_,rfl,s3,hA,⟨f1,f2⟩,by decide,by decide⟩
   .exact hN _ _ ⟨_,_,_,_,_,_,_,rfl,s3,hA,⟨f1,f2⟩,hu,hd⟩
  rintro σ H4 ⟨w,e,t,m,f,u,d,rfl,s4,hA,hf,hu,hd⟩;walk_at "gzn";refine⟨by decide,λl hl=>?_⟩;obtain⟨a1,a2,a3⟩:=hA;exact q l e t u d m f _ (s4.trans (aw hl)) (s4.free hl) ar ⟨a2,a1,hu,hd,a3,hf⟩
variable{P:ado}{w:adM}{K:acS}{mg:Str->Option acY}{base:aeA}
noncomputable def kF(u d:Int)(cs:List Int):Prop:=∀ i,i+1<cs.length->-d<=cs.getD (i+1) 0-cs.getD i 0/\cs.getD (i+1) 0-cs.getD i 0<=u
theorem kF.snoc{u d n k:Int}{cs:List Int}(h:kF u d (cs++[n]))(h1 : -d<=k-n)(h2:k-n<=u):kF u d (cs++[n]++[k]):=by
 intro i hi;rw[adj,adj,adh,adh] at hi;by_cases e:i+1<(cs++[n]).length
 .have:=h i e;simp only[acU] at this ⊢;rw[ad5 (l₁:=cs++[n]) e,ad5 (l₁:=cs++[n]) (by lia)];exact this
 .rw[adj,adh] at e;have ei:i=cs.length:=by lia
  subst ei;have a1:(cs++[n]++[k])[cs.length+1]?=some k:=by simp
  have a2:(cs++[n]++[k])[cs.length]?=some n:=by simp
  simp only[acU,a1,a2,ahl];exact⟨h1,h2⟩
inductive YX(K:acS)(vs:List V)(H:Hp)(Q:VK)(a9:XK):Prop
 | mk(a b:ac6)(ns:List Int)(e t u d m f:Int)(_:vs=[.ref a,.ref b])(_:ah K H a (ns.map V.int))(_:gB ns)(_:ah K H b (mf e t u d m f))(_:me e t u d m f)(_:∀ (l:ac6) (cs:List Int) (H':Hp),ak H H'->H l=none->H' l=some (.lst (cs.map V.int))->cs.length=t.toNat->kF u d cs->Q (.ref l) H')
inductive YY(H:Hp)(a b l:ac6)(z u d:Int)(i:Nat)(σ:St)(H1:Hp):Prop
 | mk(cs:List Int)(n:Int)(e1:Option V)(_:σ=[some (.ref a),some (.ref b),some (.int z),some (.int n),some (.ref l),e1])(_:ak H H1)(_:H1 l=some (.lst ((cs++[n]).map V.int)))(_:cs.length=i)(_:kF u d (cs++[n]))
theorem YZ(T:Tx K mg):aJ P w K mg base (aK P w) 3 T.uX.a T.uX.fd ["_law_script","_law_shape_here"] (YX K):=by
 refine okN T.uX.F oY (λvs H Q E h=>?_) (λaG A outer s H vs Q E hr h=>?_)
 .obtain⟨a,b,ns,e,t,u,d,m,f,rfl,_⟩:=h;rfl
 .obtain⟨a,b,ns,e,t,u,d,m,f,rfl,hS,hn,hb,sh,q⟩:=h;refine⟨_,(aq (aE (i:=2) oY.nd rfl (adv rfl) (ay (cM (ae ag (ae ag (ae (aD my ag ag) (ae (aD ic (aD my ag ag) (aD my ag ag)) ai))))) (aC T.bS (cc T) hr az (ae (aa 0) (ae ag (ae ag ai))))))
  (aq (aE (i:=3) oY.nd rfl (adv rfl) (aD eL (aC T.nr (vk T) hr az (ae (aa 0) (ae ag (ae (aD bb (aD ic ag (aa 2)) ag) ai)))) (aa 2)))
  (aq (aE (i:=4) oY.nd rfl (adv rfl) (cM (ae (aa 3) ai)))
  (aq (cL adK rfl (fv rfl T.fj (ae (aD eL (ay (aa 1) ag) ag) ai)) (bf (i:=5) oY.nd rfl (adv rfl)) (aq (aE (i:=3) oY.nd rfl (adv rfl) (aD eL (aD bb (aa 3) (aC T.nr (vk T) hr az (ae (aa 0) (ae (aD bb ag (aa 5)) (ae (aD bb (aD bb (ay (aa 1) ag) (ay (aa 1) ag)) ag) ai))))) (ay (aa 1) ag)))
    (au (gp (mD aeq aey aez mE (aa 4) (ae (aa 3) ai))))))
  (au (aH (aa 4))))))),?_⟩
  obtain⟨⟨e1,e2⟩,⟨t1,t2⟩,⟨u1,u2⟩,⟨d1,d2⟩,-,-⟩:=id sh;walk_at "gzn";refine⟨⟨by decide,by decide,by decide⟩,⟨by decide,by decide,by decide⟩,⟨by decide,by decide,by decide⟩,Gr (by decide) (by decide),by decide,λr bT=>?_⟩;have P1:upd H r (.lst [V.int 9,V.int 1000,V.int 1000000000000000000,V.int 1000000000000000000000000000000000000000000000000000000000000000000000000000000000000000000000000000000000000000000000000]) r=some (.lst (([9,1000,1000000000000000000,1000000000000000000000000000000000000000000000000000000000000000000000000000000000000000000000000000000000000000000000000]:List Int).map V.int)):=ar;have s1:=aw (o:=.lst [V.int 9,V.int 1000,V.int 1000000000000000000,V.int 1000000000000000000000000000000000000000000000000000000000000000000000000000000000000000000000000000000000000000000000000]) bT;refine⟨a,ns,_,_,rfl,s1.seq hS,hn,by decide,by decide,λk h1 h2=>?_⟩;obtain⟨z,hz,ez⟩:=xN (vs:=([9,1000,1000000000000000000,1000000000000000000000000000000000000000000000000000000000000000000000000000000000000000000000000000000000000000000000000]:List Int)) h1 h2;have hz:0<=z/\z<=1000000000000000000000000000000000000000000000000000000000000000000000000000000000000000000000000000000000000000000000000:=by simp only[ac9,aeW,or_false] at hz;lia
  refine aN (ah.of P1) ez ?_;walk_at "gzn";generalize upd H r (.lst [V.int 9,V.int 1000,V.int 1000000000000000000,V.int 1000000000000000000000000000000000000000000000000000000000000000000000000000000000000000000000000000000000000000000000000])=H1 at s1 ⊢;refine⟨ju (by decide) (by lia),?_⟩;refine⟨a,ns,_,_,rfl,s1.seq hS,hn,by decide,by lia,λn0 _ _=>?_⟩;walk_at "gzn";refine⟨by decide,λl hl=>?_⟩;have da:H l=none:=s1.free hl;have s2:=s1.trans (aw (o:=.lst [V.int (n0-z)]) hl);refine aN (s2.seq hb) (v:=.int t) rfl ?_;walk_at "gzn";refine⟨by lia,by lia,mF (YY H a b l z u d) ⟨[],_,_,rfl,s2,ar,rfl,λi hi=>?_⟩ ?_ ?_⟩
  .simp at hi
  .rintro i σ H3 hi ⟨cs,n,e1,rfl,s3,L3,hlen,bC⟩;walk_at "gzn";refine aN (s3.seq hb) (v:=.int u) rfl (aN (s3.seq hb) (v:=.int d) rfl ?_);walk_at "gzn";refine⟨a,ns,_,_,rfl,s3.seq hS,hn,by lia,by lia,λk k1 k2=>?_⟩;walk_at "gzn";refine aN (s3.seq hb) (v:=.int d) rfl ?_;walk_at "gzn";refine⟨.inl ⟨rfl,_,ah.of L3⟩,_,L3,?_,cs++[n],_,_,rfl,iL da s3,?_,?_,?_⟩
   .rw[acV,adj,adh];exact aeg (by lia:_<=13) (by decide)
   .simp only[ar,aea,adq,ahb]
   .rw[adj,adh,hlen]
   .exact bC.snoc (by lia) (by lia)
  .rintro σ H3 ⟨cs,n,e1,rfl,s3,L3,hlen,bC⟩;walk_at "gzn";exact q l _ H3 s3 da L3 (by rw[adj,adh];lia) bC
inductive Y0(K:acS)(vs:List V)(H:Hp)(Q:VK)(a9:XK):Prop
 | mk(a:ac6)(ns:List Int)(k f n:Int)(b:Bool)(_:vs=[.ref a,.int k,.int f,.int n,.bl b])(_:ah K H a (ns.map V.int))(_:gB ns)(_:(-900000<=k/\k<=900000))(_:(1<=f/\f<=1000000000000000000000000000000000000000000000000000000000))(_:∀ (p:ac6) (lo hi:En) (H':Hp),ak H H'->H p=none->H' p=some (.tup [ev lo,ev hi])->aS lo hi=false->(b=false->hold lo hi n=true)->Q (.ref p) H')
inductive Y1(a:ac6)(H:Hp)(k f n:Int)(b:Bool)(σ:St)(H':Hp):Prop
 | mk(y lo hi:Int)(_:σ=[some (.ref a),some (.int k),some (.int f),some (.int n),some (.bl b),some (.int y),some (.int lo),some (.int hi),none])(_:ak H H')(_:(1<=y/\y<=1000000000000000000000000000000000000000000000000000000000))(_:lo<=hi)(_:(b=false->lo<=n/\n<=hi))
inductive Y2(a:ac6)(H:Hp)(k f n:Int)(b:Bool)(σ:St)(H':Hp):Prop
 | mk(y lo hi:Int)(_:σ=[some (.ref a),some (.int k),some (.int f),some (.int n),some (.bl b),some (.int y),some (.int lo),some (.int hi),none])(_:ak H H')(_:lo<=hi)(_:(b=false->lo<=n/\n<=hi))
inductive AH(a:ac6)(H:Hp)(k f n:Int)(b:Bool)(σ:St)(H':Hp):Prop
 | mk(y g lo:Int)(l h:En)(hi:Int)(_:σ=[some (.ref a),some (.int k),some (.int f),some (.int n),some (.bl b),some (.int y),some (ev l),some (ev h),some (.int g)])(_:ak H H')(_:(l=none∨l=some lo))(_:(h=none∨h=some hi))(_:lo<=hi)(_:(b=false->lo<=n/\n<=hi))
theorem Lj{p y:Int}(h0:0<=p)(y0:0<=y):0<=p * y:=ajy h0 y0
theorem AI(T:Tx K mg):aJ P w K mg base (aK P w) 2 T.pe.a T.pe.fd ["_law_script","_law_k","_law_far","_law_number","_law_false"] (Y0 K):=by
 refine okN T.pe.F jE (λvs H Q E h=>?_) (λaG A outer s H vs Q E hr h=>?_)
 .obtain⟨a,ns,k,f,n,b,rfl,_⟩:=h;rfl
 .obtain⟨a,ns,k,f,n,b,rfl,hS,hn,hk,hf,q⟩:=h;refine⟨_,(aq (aE (i:=5) jE.nd rfl (adv rfl) (ay (cM (ae ag (ae (aa 2) ai))) (aC T.bS (cc T) hr az (ae (aa 0) (ae (aa 1) (ae ag ai))))))
  (aq (aE (i:=6) jE.nd rfl (adv rfl) (aD eL (aa 3) (aD ic (aC T.bS (cc T) hr az (ae (aa 0) (ae (aD bb (aa 1) ag) (ae ag ai)))) (aa 5))))
  (aq (aE (i:=7) jE.nd rfl (adv rfl) (aD bb (aa 3) (aD ic (aC T.bS (cc T) hr az (ae (aa 0) (ae (aD bb (aa 1) ag) (ae ag ai)))) (aa 5))))
  (aq (aT (dq (aa 4)) (aq (aE (i:=5) jE.nd rfl (adv rfl) (aD ic (aD eL (aC T.bS (cc T) hr az (ae (aa 0) (ae (aD bb (aa 1) ag) (ae ag ai)))) ag) (aa 5)))
    (aq (aE (i:=6) jE.nd rfl (adv rfl) (aD bb (aa 6) (aa 5)))
    (au (aE (i:=7) jE.nd rfl (adv rfl) (aD bb (aa 7) (aa 5)))))) aV)
  (aq (aE (i:=8) jE.nd rfl (adv rfl) (aC T.bS (cc T) hr az (ae (aa 0) (ae (aD bb (aa 1) ag) (ae ag ai)))))
  (aq (aT (PW.pt (eS (cQ (aa 8) ag) (gO (cQ (aa 8) ag)))) (au (aE (i:=6) jE.nd rfl (adv rfl) cj)) aV)
  (aq (aT (PW.pt (eS (cQ (aa 8) ag) (gO (cQ (aa 8) ag)))) (au (aE (i:=7) jE.nd rfl (adv rfl) cj)) aV)
  (au (aH (bE (ae (aa 6) (ae (aa 7) ai)))))))))))),?_⟩
  refine aM (λσ H'=>∃ y:Int,σ=[some (.ref a),some (.int k),some (.int f),some (.int n),some (.bl b),some (.int y),none,none,none]/\ak H H'/\1<=y/\y<=1000000000000000000000000000000000000000000000000000000000) (λN hN=>?_) ?_
  .walk_at "gzn";refine⟨by decide,λl hl=>?_⟩;refine⟨a,ns,_,_,rfl,(aw hl).seq hS,hn,by lia,by lia,λp p1 p2=>?_⟩;obtain⟨v,hv,ev⟩:=xN (vs:=[1,f]) p1 p2;refine aN (ah.of ar) ev ?_;walk_at "gzn";refine hN _ _ ⟨_,rfl,aw hl,?_⟩;simp only[ac9,aeW,or_false] at hv;lia
  rintro σ H1 ⟨y,rfl,s1,y1,y2⟩;refine aM (λσ H'=>∃ lo:Int,σ=[some (.ref a),some (.int k),some (.int f),some (.int n),some (.bl b),some (.int y),some (.int lo),none,none]/\H'=H1/\lo<=n) (λN hN=>?_) ?_
  .walk_at "gzn";refine⟨a,ns,_,_,rfl,s1.seq hS,hn,by lia,by lia,λp p1 p2=>?_⟩;walk_at "gzn";have:=Lj p1 (show 0<=y by lia);exact⟨ju (by lia) (by lia),hN _ _ ⟨_,rfl,rfl,by lia⟩⟩
  rintro σ H2 ⟨lo,rfl,rfl,l1⟩;refine aM (Y1 a H k f n b) (λN hN=>?_) ?_
  .walk_at "gzn";refine⟨a,ns,_,_,rfl,s1.seq hS,hn,by lia,by lia,λp p1 p2=>?_⟩;walk_at "gzn";have:=Lj p1 (show 0<=y by lia);exact⟨ju (by lia) (by lia),hN _ _ ⟨_,_,_,rfl,s1,⟨y1,y2⟩,by lia,λ_=>by lia⟩⟩
  rintro σ H3 ⟨y,lo,hi,rfl,s3,hy,h1,h2⟩;refine aM (Y2 a H k f n b) (λN hN=>?_) ?_
  .cases b with
   | true =>
    walk_at "gzn";refine⟨a,ns,_,_,rfl,s3.seq hS,hn,by lia,by lia,λp p1 p2=>?_⟩;walk_at "gzn";exact⟨ju (by lia) (by lia),hN _ _ ⟨_,_,_,rfl,s3,by lia,λz=>nomatch z⟩⟩
   | false =>
    walk_at "gzn";exact hN _ _ ⟨_,_,_,rfl,s3,h1,h2⟩
  rintro σ H4 ⟨y,lo,hi,rfl,s4,h1,h2⟩;refine aM (AH a H k f n b) (λN hN=>?_) ?_
  .walk_at "gzn";refine⟨a,ns,_,_,rfl,s4.seq hS,hn,by lia,by lia,λp p1 p2=>?_⟩;walk_at "gzn";exact hN _ _ ⟨_,_,lo,some lo,some hi,hi,rfl,s4,.inr rfl,.inr rfl,h1,h2⟩
  rintro σ H5 ⟨y,g,lo,l,h,hi,rfl,s5,hl,hh,h1,h2⟩;refine aM (AH a H k f n b) (λN hN=>?_) ?_
  .walk_at "gzn";have none_:=hN _ _ ⟨y,g,lo,none,h,hi,rfl,s5,.inl rfl,hh,h1,h2⟩;have AJ:=hN _ _ ⟨y,g,lo,l,h,hi,rfl,s5,hl,hh,h1,h2⟩;exact bA (λ_=>none_) λ_=>bA (λ_=>none_) λ_=>AJ
  rintro σ H6 ⟨y,g,lo,l,h,hi,rfl,s6,hl,hh,h1,h2⟩;refine aM (AH a H k f n b) (λN hN=>?_) ?_
  .walk_at "gzn";have none_:=hN _ _ ⟨y,g,lo,l,none,hi,rfl,s6,hl,.inl rfl,h1,h2⟩;have AJ:=hN _ _ ⟨y,g,lo,l,h,hi,rfl,s6,hl,hh,h1,h2⟩;exact bA (λ_=>none_) λ_=>bA (λ_=>none_) λ_=>AJ
  rintro σ H7 ⟨y,g,lo,l,h,hi,rfl,s7,hl,hh,h1,h2⟩;walk_at "gzn";refine⟨bJ,λp hp=>q p l h _ (s7.trans (aw hp)) (s7.free hp) ar ?_ λhb=>xh.mpr ⟨?_,?_⟩⟩
  .rcases hl with rfl|rfl<;>rcases hh with rfl|rfl<;>simp[aS]<;>lia
  .intro x hx;rcases hl with rfl|rfl<;>cases hx;exact (h2 hb).1
  .intro x hx;rcases hh with rfl|rfl<;>cases hx;exact (h2 hb).2
variable{P:ado}{w:adM}{K:acS}{mg:Str->Option acY}{base:aeA}
theorem AK{tb:Tb}{s:P2}{w:S2}{r:P2 × S2}(h:r∈cY tb s w):r∈tb∨r=(s,w):=by
 unfold cY at h;split at h
 .obtain⟨x,hx,rfl⟩:=adf.mp h;by_cases e:x.1=s
  .rw[if_pos e,e];exact .inr rfl
  .rw[if_neg e];exact .inl hx
 .rcases adm.mp h with z|z
  .exact .inl z
  .exact .inr (ady.mp z)
noncomputable def vy(e m fi:Int)(cs:List Int)(tb:Tb):Prop:=∀ r∈tb,¬ (r.1.1+fi) % e<m->hold r.2.1 r.2.2 (c7 cs r.1.2.toNat)=true
inductive Y3(K:acS)(vs:List V)(H:Hp)(Q:VK)(a9:XK):Prop
 | mk(a b c:ac6)(ns cs:List Int)(e t u d m f:Int)(_:vs=[.ref a,.ref b,.ref c])(_:ah K H a (ns.map V.int))(_:gB ns)(_:ah K H b (mf e t u d m f))(_:me e t u d m f)(_:ah K H c (cs.map V.int))(_:cs.length=t.toNat)(_:∀ (q:ac6) (tb:Tb) (fi:Int) (H':Hp),ak H H'->H q=none->TabAt H' q tb->cB e t tb->tb.length<=24->(∀ r∈tb,aS r.2.1 r.2.2=false)->0<=fi->fi<e->vy e m fi cs tb->Q (.ref q) H')
inductive Ll(H:Hp)(e t m fi:Int)(cs:List Int)(q:ac6)(H1:Hp):Prop
 | mk(tb:Tb)(_:ak H H1)(_:H q=none)(_:TabAt H1 q tb)(_:cB e t tb)(_:tb.length<=24)(_:(∀ r∈tb,aS r.2.1 r.2.2=false))(_:vy e m fi cs tb)
inductive AL(σ0:Option V->Option V->Option V->Option V->Option V->St)(H:Hp)(e t m fi:Int)(cs:List Int)(q:ac6)(_:Nat)(σ:St)(H1:Hp):Prop
 | mk(e1 e2 e3 e4 e5:Option V)(_:σ=σ0 e1 e2 e3 e4 e5)(_:Ll H e t m fi cs q H1)
theorem Y5(T:Tx K mg):aJ P w K mg base (aK P w) 3 T.vc.a T.vc.fd ["_law_script","_law_shape_here","_law_course_here"] (Y3 K):=by
 refine okN T.vc.F gI (λvs H Q E h=>?_) (λaG A outer s H vs Q E hr h=>?_)
 .obtain⟨a,b,c,ns,cs,e,t,u,d,m,f,rfl,_⟩:=h;rfl
 .obtain⟨a,b,c,ns,cs,e,t,u,d,m,f,rfl,hS,hn,hb,sh,hc,bc,q⟩:=h;refine⟨_,(aq (aE (i:=3) gI.nd rfl (adv rfl) (aC T.bS (cc T) hr az (ae (aa 0) (ae ag (ae (ay (aa 1) ag) ai)))))
  (aq (aE (i:=4) gI.nd rfl (adv rfl) Ig)
  (aq (aE (i:=5) gI.nd rfl (adv rfl) ag)
  (aq (aE (i:=6) gI.nd rfl (adv rfl) ag)
  (aq (aT (lS (aD ic (ay (aa 1) ag) (ay (aa 1) ag)) ag) (aq (aE (i:=5) gI.nd rfl (adv rfl) ag)
    (au (aE (i:=6) gI.nd rfl (adv rfl) ag))) aV)
  (aq (cL adK rfl (fv rfl T.fj (ae (ay (aa 1) ag) ai)) (bf (i:=7) gI.nd rfl (adv rfl)) (aq (aE (i:=8) gI.nd rfl (adv rfl) (jg (lR sy) (aD jD (aD bb (aa 7) (aa 3)) (ay (aa 1) ag)) (ay (aa 1) ag) (fQ _)))
    (au (cL adK rfl (fv rfl T.fj (ae (ay (aa 1) ag) ai)) (bf (i:=9) gI.nd rfl (adv rfl)) (aq (aE (i:=10) gI.nd rfl (adv rfl) (aD bb ag (aD ic ag (aD bb (aD ic (aa 7) (ay (aa 1) ag)) (aa 9)))))
      (aq (aE (i:=11) gI.nd rfl (adv rfl) (ay (aa 2) (aa 9)))
      (aq (aT (PW.pt (jb (dq (aa 8)) (jL (cQ (aC T.bS (cc T) hr az (ae (aa 0) (ae (aa 10) (ae ag ai)))) ag)))) (au (aE (i:=11) gI.nd rfl (adv rfl) (aD eL (aC T.nr (vk T) hr az (ae (aa 0) (ae (aa 10) (ae (aD bb (aD ic ag (aD my ag ag)) ag) ai)))) (aD my ag ag)))) aV)
      (au (aT (PW.pt (jb (qW (bM SA (by rfl) T.dZ dN (ae (aa 4) ai)) (aa 6)) (jL (lS (aC T.bS (cc T) hr az (ae (aa 0) (ae (aa 10) (ae (aa 5) ai)))) (aD eL (aa 5) ag))))) (au (xW (fS hr) (aa 4) (bE (ae (aa 7) (ae (aa 9) ai))) (aC T.pe (AI T) hr az (ae (aa 0) (ae (aD bb (aa 10) ag) (ae (ay (aa 1) ag) (ae (aa 11) (ae (aa 8) ai)))))) rfl)) aV)))))))))
  (au (aH (aa 4))))))))),?_⟩
  obtain⟨⟨e1,e2⟩,⟨t1,t2⟩,-,-,-,hf⟩:=id sh;refine aM (λσ H1=>∃ fi:Int,σ=[some (.ref a),some (.ref b),some (.ref c),some (.int fi),none,none,none,none,none,none,none,none]/\H1=H/\0<=fi/\fi<e) (λN hN=>?_) ?_
  .walk_at "gzn";refine aN hb (v:=.int e) rfl ?_;refine⟨a,ns,_,_,rfl,hS,hn,by lia,by lia,λfi fi1 fi2=>?_⟩;exact hN _ _ ⟨fi,rfl,rfl,by lia,by lia⟩
  rintro σ H1 ⟨fi,rfl,rfl,Y6,fie⟩;refine aM (λσ H2=>∃ w,σ=[some (.ref a),some (.ref b),some (.ref c),some (.int fi),some (.ref w),none,none,none,none,none,none,none]/\Ll H1 e t m fi cs w H2) (λN hN=>?_) ?_
  .walk_at "gzn";exact λw nv=>hN _ _ ⟨w,rfl,[],aw nv,nv,⟨[],ar,trivial⟩,cB.nil,adw _,λ_ h=>(nomatch h),λ_ h=>(nomatch h)⟩
  rintro σ H2 ⟨w,rfl,hw⟩;obtain⟨_,s1,_⟩:=id hw;refine aM (λσ H3=>σ=[some (.ref a),some (.ref b),some (.ref c),some (.int fi),some (.ref w),some (.int 4),none,none,none,none,none,none]/\H3=H2) (λN hN=>?_) ?_
  .walk_at "gzn";exact hN _ _ ⟨rfl,rfl⟩
  rintro σ H3 ⟨rfl,rfl⟩;refine aM (λσ H4=>σ=[some (.ref a),some (.ref b),some (.ref c),some (.int fi),some (.ref w),some (.int 4),some (.int 24),none,none,none,none,none]/\H4=H3) (λN hN=>?_) ?_
  .walk_at "gzn";exact hN _ _ ⟨rfl,rfl⟩
  rintro σ H4 ⟨rfl,rfl⟩;refine aM (λσ H5=>∃ dn lm:Int,σ=[some (.ref a),some (.ref b),some (.ref c),some (.int fi),some (.ref w),some (.int dn),some (.int lm),none,none,none,none,none]/\H5=H4/\(dn=4∨dn=16)/\0<=lm/\lm<=24) (λN hN=>?_) ?_
  .walk_at "gzn";refine aN (s1.seq hb) (v:=.int e) rfl (aN (s1.seq hb) (v:=.int t) rfl ?_);walk_at "gzn";refine⟨ju (by lia) (by lia),bA (λ_=>hN _ _ ⟨16,16,rfl,rfl,.inr rfl,by decide,by decide⟩) λ_=>hN _ _ ⟨4,24,rfl,rfl,.inl rfl,by decide,by decide⟩⟩
  rintro σ H5 ⟨dn,lm,rfl,rfl,hdn,hlm⟩;refine aM (AL (λe1 e2 e3 e4 e5=>[some (.ref a),some (.ref b),some (.ref c),some (.int fi),some (.ref w),some (.int dn),some (.int lm),e1,e2,e3,e4,e5]) H1 e t m fi cs w 0) (λN hN=>?_) ?_
  .walk_at "gzn";refine aN (s1.seq hb) (v:=.int e) rfl ?_;walk_at "gzn";refine⟨by lia,by lia,mF (AL (λe1 e2 e3 e4 e5=>[some (.ref a),some (.ref b),some (.ref c),some (.int fi),some (.ref w),some (.int dn),some (.int lm),e1,e2,e3,e4,e5]) H1 e t m fi cs w) ⟨_,_,_,_,_,rfl,hw⟩ ?_ (λσ H' ⟨a1,a2,a3,a4,a5,a6,a7⟩=>hN _ _ ⟨a1,a2,a3,a4,a5,a6,a7⟩)⟩;rintro i σ H5 hi ⟨e1,e2,e3,e4,e5,rfl,Lm⟩;obtain⟨_,s5,_⟩:=id Lm;walk_at "gzn";refine aN (s5.seq hb) (v:=.int e) rfl ?_;walk_at "gzn";refine⟨by lia,aN (s5.seq hb) (v:=.int m) rfl ?_⟩;walk_at "gzn";refine aN (s5.seq hb) (v:=.int t) rfl ?_;walk_at "gzn";refine⟨by lia,by lia,mF (AL (λ_ _ e3 e4 e5=>[some (.ref a),some (.ref b),some (.ref c),some (.int fi),some (.ref w),some (.int dn),some (.int lm),some (.int (0+(i:Int))),some (.bl (decide ((0+(i:Int)+fi) % e<m))),e3,e4,e5]) H1 e t m fi cs w) ⟨none,none,_,_,_,rfl,Lm⟩ ?_ ?_⟩
   .rintro j σ H6 hj ⟨_,_,e3,e4,e5,rfl,rQ⟩;obtain⟨tb,s6,nv,⟨kvs,hk,hT⟩,aj,rR,fL,jG⟩:=id rQ;have bi:(i:Int)<e:=by lia
    have bj:(j:Int)<t:=by lia
    have tl:=hT.len;have bm:0<=(0+(i:Int)) * t/\(0+(i:Int)) * t<=6 * 12:=⟨ajy (by lia) (by lia),ak8 (by lia) t2 (by lia) (by decide)⟩
    refine aM (λσ H7=>∃ k:Int,σ=[some (.ref a),some (.ref b),some (.ref c),some (.int fi),some (.ref w),some (.int dn),some (.int lm),some (.int (0+(i:Int))),some (.bl (decide ((0+(i:Int)+fi) % e<m))),some (.int (0+(j:Int))),some (.int k),e5]/\H7=H6/\600<=k/\k<=2000) (λN hN=>?_) ?_
    .walk_at "gzn";exact aN (s6.seq hb) (v:=.int t) rfl ⟨ju (by lia) (by lia),ju (by decide) (by lia),hN _ _ ⟨_,rfl,rfl,by lia,by lia⟩⟩
    rintro σ H7 ⟨k,rfl,rfl,k1,k2⟩;refine aM (λσ H8=>σ=[some (.ref a),some (.ref b),some (.ref c),some (.int fi),some (.ref w),some (.int dn),some (.int lm),some (.int (0+(i:Int))),some (.bl (decide ((0+(i:Int)+fi) % e<m))),some (.int (0+(j:Int))),some (.int k),some (.int (cs.getD (0+(j:Int)).toNat 0))]/\H8=H7) (λN hN=>?_) ?_
    .walk_at "gzn";exact aN (s6.seq hc) (int_at (by lia) (by lia)) (hN _ _ ⟨rfl,rfl⟩)
    rintro σ H8 ⟨rfl,rfl⟩;refine aM (λσ H9=>∃ n:Int,σ=[some (.ref a),some (.ref b),some (.ref c),some (.int fi),some (.ref w),some (.int dn),some (.int lm),some (.int (0+(i:Int))),some (.bl (decide ((0+(i:Int)+fi) % e<m))),some (.int (0+(j:Int))),some (.int k),some (.int n)]/\H9=H8/\(decide ((0+(i:Int)+fi) % e<m)=false->n=cs.getD (0+(j:Int)).toNat 0)) (λN hN=>?_) ?_
    .walk_at "gzn";refine bA (λqR=>?_) λqR=>hN _ _ ⟨_,rfl,rfl,λ_=>rfl⟩;refine⟨a,ns,_,_,rfl,s6.seq hS,hn,by lia,by lia,λr r1 r2=>?_⟩;walk_at "gzn";refine bA (λ_=>?_) λ_=>hN _ _ ⟨_,rfl,rfl,λ_=>rfl⟩;exact⟨⟨by decide,by decide,by decide⟩,Gr (by decide) (by decide),a,ns,_,_,rfl,s6.seq hS,hn,by lia,by decide,λr2 _ _=>⟨⟨by decide,by decide,by decide⟩,hN _ _ ⟨_,rfl,rfl,λz=>absurd qR (of_decide_eq_false z)⟩⟩⟩
    rintro σ H9 ⟨n,rfl,rfl,Y7⟩;walk_at "gzn";refine⟨kvs,hk,bA (λaZ=>?_) λ_=>⟨none,none,_,_,_,rfl,rQ⟩⟩;refine⟨a,ns,_,_,rfl,s6.seq hS,hn,by lia,by lia,λr r1 r2=>bA (λ_=>?_) λ_=>⟨none,none,_,_,_,rfl,rQ⟩⟩;refine aN (s6.seq hb) (v:=.int f) rfl ⟨a,ns,_,_,_,_,rfl,s6.seq hS,hn,by lia,hf,λwp lo hi H7 s7 _ Y8 rS AM=>⟨bJ,λk ny=>?_⟩⟩;have u:=aw (o:=.tup [.int (0+(i:Int)),.int (0+(j:Int))]) ny;have Ln:=(s7.trans u) _ _ hk;refine⟨_,mT.t (k:=cA (0+(i:Int)) (0+(j:Int))) Ln ar (aeg (by lia:kvs.length<=24) (by decide)),none,none,_,_,_,rfl,cY tb (0+(i:Int),0+(j:Int)) (lo,hi),iL nv (s6.trans (s7.trans u)),nv,⟨_,ar,?_⟩,aj.put ⟨⟨by show 0<=0+(i:Int);lia,by show 0+(i:Int)<e;lia⟩,by show 0<=0+(j:Int);lia,by show 0+(j:Int)<t;lia⟩,?_,λr hr=>?_,λr hr dH=>?_⟩
    .have F:Fr _ (upd _ w (.dT (putK kvs (cA (0+(i:Int)) (0+(j:Int))) (.ref wp)))):=Ik Ln;exact bo.put (s:=(0+(i:Int),0+(j:Int))) (w:=(lo,hi)) (hT.imp λv a b z=>(aI.same z (s7.trans u)).fr F) (aI.fr ⟨wp,rfl,u _ _ Y8⟩ F)
    .have:=Il tb (0+(i:Int),0+(j:Int)) (lo,hi);lia
    .rcases AK hr with z|rfl
     .exact fL r z
     .exact rS
    .rcases AK hr with z|rfl
     .exact jG r z dH
     .have h1:decide ((0+(i:Int)+fi) % e<m)=false:=decide_eq_false dH;have h2:=AM h1;rw[Y7 h1] at h2;exact h2
   .rintro σ H6 ⟨_,_,e3,e4,e5,rfl,rQ⟩;exact⟨_,_,_,_,_,rfl,rQ⟩
  rintro σ H5 ⟨e1,e2,e3,e4,e5,rfl,tb,s5,nv,hT,aj,rR,fL,jG⟩;walk_at "gzn";exact q w tb fi H5 s5 nv hT aj rR fL Y6 fie jG
variable{P:ado}{w:adM}{K:acS}{mg:Str->Option acY}{base:aeA}
theorem Y9{tb:Tb}{s:P2}{w:S2}(h:s∉tb.map (·.1)):cY tb s w=tb++[(s,w)]:=by unfold cY;rw[if_neg];intro z;obtain⟨r,hr,e⟩:=aes.mp z;exact h (adf.mpr ⟨r,hr,by simpa using e⟩)
theorem Za{α β:Type}{f:α->β}{l:List α}{i:Nat}{a:α}(h:(l.map f).Nodup)(ha:l[i]?=some a):f a∉(l.take i).map f:=by
 have hi:=(ade.mp ha).1;have e:l=l.take i++a::l.drop (i+1):=by have:=aeR i l;rw[aeu hi] at this;rw[acW hi] at ha;cases ha;exact this.symm
 intro hm;have h2:((l.take i).map f++f a::(l.drop (i+1)).map f).Nodup:=by rw[<- adq,<- aea,<- e];exact h
 exact (akd.mp h2).2.2 _ hm _ (.head _) rfl
noncomputable def Zb(B:ac6)(H3:Hp)(a b w x l p:ac6)(e t u d m:Int)(rs:Tb)(i:Nat)(σ:St)(H4:Hp):Prop:=(∃ e1 e2,σ=[some (.ref a),some (.ref b),some (.ref w),some (.ref x),some (.ref l),e1,e2])/\qv [p] H3 H4/\dr B H4 x e t u d m p (rs.take i)
inductive Zc(K:acS)(B:ac6)(vs:List V)(H:Hp)(Q:VK)(a9:XK):Prop
 | mk(a b q:ac6)(ns:List Int)(e t u d m f:Int)(tb:Tb)(_:vs=[.ref a,.ref b,.ref q])(_:ah K H a (ns.map V.int))(_:gB ns)(_:ah K H b (mf e t u d m f))(_:me e t u d m f)(_:TabAt H q tb)(_:cB e t tb)(_:tb.length<=30)(_:(∀ r∈tb,aS r.2.1 r.2.2=false))(_:∀ (x p:ac6) (rs:Tb) (H':Hp),ak H H'->H x=none->H p=none->dr B H' x e t u d m p rs->(rs=tb∨rs=tb.reverse)->Q (.ref x) H')
theorem Zd(T:Tx K mg):aJ P w K mg base (aK P w) 4 T.uY.a T.uY.fd ["_law_script","_law_shape_here","_law_told"] (Zc K T.aQ):=by
 refine okN T.uY.F qZ (λvs H Q E h=>?_) (λaG A outer s H vs Q E hr h=>?_)
 .obtain⟨a,b,q,ns,e,t,u,d,m,f,tb,rfl,_⟩:=h;rfl
 .obtain⟨a,b,w,ns,e,t,u,d,m,f,tb,rfl,hS,hn,hb,sh,hT,aj,Lo,fL,q⟩:=h;refine⟨_,(aq (aE (i:=3) qZ.nd rfl (adv rfl) (Pt T.rK (XS T) (hr.mono (by decide)) rfl T.Xt T.rE.b .nil az (ae (ay (aa 1) ag) (ae (ay (aa 1) ag) (ae (ay (aa 1) ag) (ae (ay (aa 1) ag) (ae (ay (aa 1) ag) ai)))))))
  (aq (aE (i:=4) qZ.nd rfl (adv rfl) (sE (Ib rfl) (by rfl) T.lW kU (ae (aa 2) ai)))
  (aq (aT (cQ (aC T.bS (cc T) hr az (ae (aa 0) (ae ag (ae ag ai)))) ag) (au (gp (PQ aeq PySem.F.slot_list_reverse PySem.F.type_list_reverse PX (aa 4)))) aV)
  (aq (cL adK rfl (ck (aa 4)) (gv rfl (bW (bf (i:=5) qZ.nd rfl (adv rfl)) (bW (bf (i:=6) qZ.nd rfl (adv rfl)) gu))) (au (gp (jN (aa 3) T.bN T.KG (KU T) (hr.mono (by decide)) T.o8.b .nil az (ae (aa 5) (ae (aa 6) (ae (ay (oy (fS hr) (aa 2) (bE (ae (aa 5) (ae (aa 6) ai))) (λ_ _=>rfl)) ag) (ae (ay (oy (fS hr) (aa 2) (bE (ae (aa 5) (ae (aa 6) ai))) (λ_ _=>rfl)) ag) ai))))))))
  (au (aH (aa 3))))))),?_⟩
  obtain⟨⟨e1,e2⟩,⟨t1,t2⟩,⟨u1,_⟩,⟨d1,_⟩,⟨m1,m2⟩,hf⟩:=id sh;refine aM (λσ H1=>∃ x p,σ=[some (.ref a),some (.ref b),some (.ref w),some (.ref x),none,none,none]/\ak H H1/\H x=none/\H p=none/\dr T.aQ H1 x e t u d m p []) (λN hN=>?_) ?_
  .walk_at "gzn";refine aN hb (v:=.int e) rfl (aN hb (v:=.int t) rfl (aN hb (v:=.int u) rfl (aN hb (v:=.int d) rfl (aN hb (v:=.int m) rfl λx dx hx Ze eK=>?_))));have Zf:gL e t u d m:=⟨⟨e1,e2⟩,⟨t1,t2⟩,u1,d1,m1,m2⟩
   refine⟨x,dx,e,t,u,d,m,rfl,ar,λz=>absurd Zf z,λ_ p H1 hp s1 X1 P1=>⟨rfl,?_⟩⟩;have M:=Sr (C:=T.aQ) (fs:=[]) hx Ze eK;have S1:ak H H1:=λb o e=>s1 b o (λz=>by rw[z,hx] at e;cases e) (M _ _ e);exact hN _ _ ⟨x,p,rfl,S1,hx,M.free hp,⟨⟨_,X1⟩,[],P1,trivial⟩⟩
  rintro σ H1 ⟨x,p,rfl,s1,fx,fp,hB⟩;obtain⟨kvs,hk,hA⟩:=hT;refine aM (λσ H2=>∃ l ys,σ=[some (.ref a),some (.ref b),some (.ref w),some (.ref x),some (.ref l),none,none]/\ak H1 H2/\H1 l=none/\H2 l=some (.lst ys)/\dm H2 ys (tb.map (·.1))) (λN hN=>?_) ?_
  .walk_at "gzn";refine⟨kvs,s1 _ _ hk,λl ys hl nz=>hN _ _ ⟨l,ys,rfl,aw hl,hl,ar,?_⟩⟩;exact ((bo.imp (λv a b z=>aI.same z s1) hA).qu nz).imp λ_ _ r=>r.same (aw hl)
  rintro σ H2 ⟨l,ys,rfl,s2,fl,hl,hY⟩;refine aM (λσ H3=>∃ (ys:List V) (rs:Tb),σ=[some (.ref a),some (.ref b),some (.ref w),some (.ref x),some (.ref l),none,none]/\ak H1 H3/\H3 l=some (.lst ys)/\dm H3 ys (rs.map (·.1))/\(rs=tb∨rs=tb.reverse)) (λN hN=>?_) ?_
  .walk_at "gzn";refine⟨a,ns,_,_,rfl,(s1.trans s2).seq hS,hn,by lia,by lia,λpp pp1 pp2=>?_⟩;walk_at "gzn";refine bA (λ_=>?_) λ_=>hN _ _ ⟨ys,tb,rfl,s2,hl,hY,.inl rfl⟩;refine⟨.inl ⟨rfl,_,ah.of hl⟩,_,hl,hN _ _ ⟨ys.reverse,tb.reverse,rfl,iL fl s2,ar,?_,.inr rfl⟩⟩;rw[akz];exact dm.put (ao.rev hY) hl
  rintro σ H3 ⟨ys,rs,rfl,s3,bz,Lp,pA⟩;have iu:cB e t rs:=by
   rcases pA with rfl|rfl
   .exact aj
   .refine⟨?_,λr hr=>aj.2 r (akA.mp hr)⟩;rw[akz];exact (ake _).nodup_iff.mpr aj.1
  have Zg:∀ r∈rs,r∈tb:=λr hr=>by
   rcases pA with rfl|rfl
   .exact hr
   .exact akA.mp hr
  have abL:rs.length<=30:=by
   rcases pA with rfl|rfl
   .exact Lo
   .rw[aeC];exact Lo
  have yl:=Lp.len;rw[acV] at yl;refine aM (λσ H4=>(∃ e1 e2,σ=[some (.ref a),some (.ref b),some (.ref w),some (.ref x),some (.ref l),e1,e2])/\ak H H4/\dr T.aQ H4 x e t u d m p rs) (λN hN=>?_) ?_
  .walk_at "gzn";have S3:=s1.trans s3;have Lq:=hB.same s3;obtain⟨⟨dx,hx3⟩,kp,md,hA3⟩:=id Lq;have lp:l≠p:=λz=>by rw[z,md] at bz;cases bz
   have wp:w≠p:=λz=>by rw[z,fp] at hk;cases hk
   refine⟨⟨_,ah.of bz⟩,jm (xs:=ys) (Zb T.aQ H3 a b w x l p e t u d m rs) ⟨⟨_,_,rfl⟩,λ_ _ _ z=>z,Lq⟩ ?_ ?_ ?_⟩
   .rintro i σ H4 _ ⟨_,bu,_⟩;exact ah.of (bu l _ (by simpa using lp) bz)
   .rintro i y σ H4 hy ⟨⟨e1,e2,rfl⟩,bu,pB⟩;obtain⟨r1,fJ,ty,rfl,mC⟩:=Lp.get hy;rw[adi] at fJ;obtain⟨r,hr,rfl⟩:=adO.mp fJ;have typ:ty≠p:=λz=>by rw[z,md] at mC;cases mC
    have rT:=Zg r (adl hr);have Lr:=bu w _ (by simpa using wp) (S3 _ _ hk);obtain⟨⟨Ls,rV⟩,kq,AN,Lu⟩:=id pB;obtain⟨v,hv,iv⟩:=(hA.val r.1).2 _ (tP aj.1 rT);obtain⟨va,rfl,hva⟩:=id iv;have Zh:va≠p:=λz=>by rw[z,fp] at hva;cases hva
    have Lv:=bu va _ (by simpa using Zh) (S3 _ _ hva);refine jZ (ax.of (bu ty _ (by simpa using typ) mC)) ?_;walk_at "gzn";refine⟨_,_,rV,rfl,bJ,λk1 Jn=>?_⟩;have v1:=aw (o:=.tup [.int r.1.1,.int r.1.2]) Jn;refine⟨.ref va,by rw[<- hv];exact fc.t (k:=cA r.1.1 r.1.2) (v1 _ _ Lr) ar,aO (ax.of (v1 _ _ Lv)) rfl ⟨bJ,λk2 dF=>?_⟩⟩;have v2:=aw (o:=.tup [.int r.1.1,.int r.1.2]) dF;have mh:=v1.trans v2;refine⟨.ref va,by rw[<- hv];exact fc.t (k:=cA r.1.1 r.1.2) (mh _ _ Lr) ar,aO (ax.of (mh _ _ Lv)) rfl ?_⟩;have rP:=iu.2 r (adl hr);have kl:=Lu.len;rw[ahh] at kl;have xp:x≠p:=λz=>by rw[z,AN] at rV;cases rV
    refine⟨x,p,e,t,u,d,m,r.1.1,r.1.2,r.2.1,r.2.2,kq,rfl,⟨⟨Ls,mh _ _ rV⟩,mh _ _ AN⟩,by lia,λz=>absurd ⟨rP,fL r rT⟩ z,λ_ v9 H9 sb Zi Zj=>⟨⟨_,_,rfl⟩,λc o hc ec=>sb c o (by simpa using hc) (mh c o (bu c o hc ec)),?_⟩⟩;have ek:rs.take (i+1)=cY (rs.take i) r.1 r.2:=by rw[Y9 (Za iu.1 hr),aeM,hr];rfl
    rw[ek];exact⟨⟨Ls,sb x _ xp (mh _ _ rV)⟩,_,Zi,bo.put (Lu.imp λv a b z=>(aI.same z mh).fr (SameBut.fr sb (mh _ _ AN))) Zj⟩
   .rintro σ H4 ⟨⟨e1,e2,rfl⟩,bu,pB⟩;rw[yl,aeX] at pB;exact hN _ _ ⟨⟨_,_,rfl⟩,λc o ec=>bu c o (by simpa using λz=>by rw[z,fp] at ec;cases ec) (S3 c o ec),pB⟩
  rintro σ H4 ⟨⟨e1,e2,rfl⟩,s4,pB⟩;walk_at "gzn";exact q x p rs H4 s4 fx fp pB pA
variable{P:ado}{w:adM}{K:acS}{mg:Str->Option acY}{base:aeA}
noncomputable def AO(cs:List Int)(k:Str)(t:Int):Prop:=0<=t/\t<(cs.length:Int)/\(k = "step" -> t+1<(cs.length:Int))
inductive Zk(K:acS)(vs:List V)(H:Hp)(Q:VK)(a9:XK):Prop
 | mk(p:ac6)(lo hi:En)(n:Int)(_:vs=[.ref p,.int n])(_:ax K H p [ev lo,ev hi])(_:Q (.bl (hold lo hi n)) H)
theorem vz(T:Tx K mg):aJ P w K mg base (aK P w) 1 T.nu.a T.nu.fd ["_law_span","_law_number"] (Zk K):=by
 refine okN T.nu.F Xl (λvs H Q E h=>?_) (λaG A outer s H vs Q E hr h=>?_)
 .obtain⟨p,lo,hi,n,rfl,_⟩:=h;rfl
 .obtain⟨p,lo,hi,n,rfl,hp,q⟩:=h;refine⟨_,(aq (aT (PW.pt (jb (gH (ay (aa 0) ag)) (jL (qW (aa 1) (ay (aa 0) ag))))) (au (aH dJ)) aV)
  (au (aH (WI (pQ (EM (ay (aa 0) ag))) (jc (jg (lR iF) (aa 1) (ay (aa 0) ag) (fQ _))))))),?_⟩
  rcases lo with _|lo<;>rcases hi with _|hi
  all_goals simp only[xf,xg] at hp
  all_goals
   walk_at "gzn"
   repeat' first
   | refine aO hp rfl ?_
   | (walk_at "gzp")
   | (refine bA (λhc=>?_) λhc=>?_)
  all_goals first
   | exact q
   | (rw[Ro _ hc] at q;exact q)
   | (rw[He _ hc] at q;exact q)
   | (rw[Hd] at q;exact q)
   | (rw[He _ hc,Hd] at q;exact q)
inductive Zl(K:acS)(vs:List V)(H:Hp)(Q:VK)(a9:XK):Prop
 | mk(a b:ac6)(cs:List Int)(xs:List V)(ps:List Pa)(_:vs=[.ref a,.ref b])(_:ah K H a (cs.map V.int))(_:ah K H b xs)(_:dG H xs ps)(_:(∀ p∈ps,AO cs p.1 p.2.1))(_:Q (.bl (eF cs ps)) H)
inductive Zm(H:Hp)(a b:ac6)(cs:List Int)(ps:List Pa)(i:Nat)(σ:St)(H1:Hp):Prop
 | mk(e1 e2 e3 e4:Option V)(_:σ=[some (.ref a),some (.ref b),e1,e2,e3,e4])(_:H1=H)(_:eF cs (ps.take i)=true)
theorem Zn{cs:List Int}{ps:List Pa}{p:Pa}(h:p∈ps)(hf:hold p.2.2.1 p.2.2.2 (fH cs p.1 p.2.1)=false):eF cs ps=false:=by unfold eF;exact aka.mpr ⟨p,h,by rw[hf];simp⟩
theorem Lw{cs:List Int}{ps:List Pa}{p:Pa}{i:Nat}(h:ps[i]?=some p)(ht:eF cs (ps.take i)=true)(hf:hold p.2.2.1 p.2.2.2 (fH cs p.1 p.2.1)=true):eF cs (ps.take (i+1))=true:=by unfold eF at *;rw[aeM,h,ak4,ht];simp[hf]
theorem Zo(T:Tx K mg):aJ P w K mg base (aK P w) 2 T.u5.a T.u5.fd ["_law_course_here","_law_claim"] (Zl K):=by
 refine okN T.u5.F oZ (λvs H Q E h=>?_) (λaG A outer s H vs Q E hr h=>?_)
 .obtain⟨a,b,cs,xs,ps,rfl,_⟩:=h;rfl
 .obtain⟨a,b,cs,xs,ps,rfl,hS,hX,hP,hk,q⟩:=h;refine⟨_,(aq (cL adK rfl (ck (aa 1)) (gv rfl (bW (bf (i:=2) oZ.nd rfl (adv rfl)) (bW (bf (i:=3) oZ.nd rfl (adv rfl)) (bW (bf (i:=4) oZ.nd rfl (adv rfl)) gu)))) (aq (aE (i:=5) oZ.nd rfl (adv rfl) (ay (aa 0) (aa 3)))
   (aq (aT (cQ (aa 2) cX) (au (aE (i:=5) oZ.nd rfl (adv rfl) (aD eL (ay (aa 0) (aD bb (aa 3) ag)) (aa 5)))) aV)
   (au (aT (d8 (dq (aC T.nu (vz T) hr az (ae (aa 4) (ae (aa 5) ai))))) (au (aH dJ)) aV)))))
  (au (aH dJ))),?_⟩
  have hl:=hP.len;walk_at "gzn";refine⟨⟨_,hX⟩,jm (xs:=xs) (Zm H a b cs ps) ⟨_,_,_,_,rfl,rfl,rfl⟩ ?_ ?_ ?_⟩
  .rintro i σ H1 _ ⟨_,_,_,_,_,rfl,_⟩;exact hX
  .rintro i x σ H1 hx ⟨e1,e2,e3,e4,rfl,rfl,hm⟩;obtain⟨p,hp,tp,sp,rfl,h1,h2⟩:=hP.get hx;have Zp:=hk p (adl hp);obtain⟨o1,o2,o3⟩:=id Zp;refine yb (ax.of h1) ?_;walk_at "gzn";refine aN hS (int_at o1 o2) ?_;walk_at "gzn"
   try refine⟨rfl,?_⟩
   have fin:hold p.2.2.1 p.2.2.2 (fH cs p.1 p.2.1)=false->Q (V.bl false) H1:=λhf=>by rw[Zn (adl hp) hf] at q;exact q
   by_cases hs:p.1 = "step"
   .rw[if_pos (by rw[hs])];have en:fH cs p.1 p.2.1=cs.getD (p.2.1+1).toNat 0-cs.getD p.2.1.toNat 0:=if_pos hs;refine aN hS (int_at (by lia) (o3 hs)) ?_;walk_at "gzn";rw[<- en];refine⟨sp,_,_,_,rfl,ax.of h2,bA (λhc=>fin hc) λhc=>⟨_,_,_,_,rfl,rfl,Lw hp hm (by simpa using hc)⟩⟩
   .rw[if_neg hs];have en:fH cs p.1 p.2.1=cs.getD p.2.1.toNat 0:=if_neg hs;rw[<- en];refine⟨sp,_,_,_,rfl,ax.of h2,bA (λhc=>fin hc) λhc=>⟨_,_,_,_,rfl,rfl,Lw hp hm (by simpa using hc)⟩⟩
  .rintro σ H1 ⟨e1,e2,e3,e4,rfl,rfl,hm⟩;rw[hl,aeX] at hm;rw[hm] at q;walk_at "gzn";exact q
variable{P:ado}{w:adM}{K:acS}{mg:Str->Option acY}{base:aeA}
theorem Zq(tb:Tb):Gd 3 (.list (tb.map Ip)):=.lst λd hd=>by
 obtain⟨r,_,rfl⟩:=adf.mp hd;refine .tup λd hd=>?_;simp only[ac9,aeW,or_false] at hd;rcases hd with rfl|rfl|rfl
 .exact (Gd.int _).up (by decide)
 .exact (Gd.int _).up (by decide)
 .exact SO r.2
inductive Zr(K:acS)(B:ac6)(vs:List V)(H:Hp)(Q:VK)(a9:XK):Prop
 | mk(x p w:ac6)(e t u d m:Int)(tb rs:Tb)(_:vs=[.ref x,.ref w])(_:dr B H x e t u d m p rs)(_:TabAt H w tb)(_:cB e t tb)(_:rs.Perm tb)(_:tb.length<64)(_:∀ H',ak H H'->Q (.bl true) H')
theorem Zs(T:Tx K mg):aJ P w K mg base (aK P w) 2 T.u7.a T.u7.fd ["_law_board_here","_law_told"] (Zr K T.aQ):=by
 refine okN T.u7.F Kx (λvs H Q E h=>?_) (λaG A outer s H vs Q E hr h=>?_)
 .obtain⟨x,p,w,e,t,u,d,m,tb,rs,rfl,_⟩:=h;rfl
 .obtain⟨x,p,w,e,t,u,d,m,tb,rs,rfl,hB,hT,aj,cT,bH,q⟩:=h;refine⟨_,(aq (aE (i:=2) Kx.nd rfl (adv rfl) (bM Sy (by rfl) T.vg sO (ae (sE (Ib rfl) (by rfl) T.lW kU (ae (aa 1) ai)) ai)))
  (au (aH (jg (Hc hr.units) (wx (aa 0) T.bN T.Au (AA T) (hr.mono (by decide)) T.nq.b .nil az) (dE (b7.mk (fr:=[1]) (ys:=["_law_told"]) rfl (by decide +kernel) rfl (by decide +kernel) rfl rfl (.cons rfl .nil) (.cons rfl rfl rfl rfl .nil) (by decide) rfl) rfl (ck (aa 2)) (λC s2 H2 ex pn=>⟨dC,(bE (ae (cK (K:=K) (aa 0) ag) (ae (cK (K:=K) (aa 0) ag) (ae (Ii (fS hr) (aa 1) (aa 0) (λ_ _=>rfl)) ai))))⟩)) (fQ _))))),?_⟩
  obtain⟨kvs,jU,hA⟩:=id hT;obtain⟨⟨dx,hx⟩,_⟩:=id hB;have Lx:(rs.map (·.1)).Nodup:=(cT.map _).nodup_iff.mpr aj.1;walk_at "gzn";refine⟨kvs,jU,λl ys hl nz=>?_⟩;have P0:ao (λv (r:P2 × S2)=>cE H v r.1) ys tb:=ao.bind (hA.qu nz);have u1:=aw (o:=.lst ys) hl;refine⟨ys,ah.of ar,gE tb,Io (P0.imp λ_ _ r=>cE.same r u1),by rw[P0.len];exact bH,λl2 ba=>?_⟩;have PS:=Im hA nz;have pl:=PS.len;rw[j8] at pl;generalize br (gE tb) .non ys=zs at PS pl;have u2:=aw (o:=.lst zs) ba;have SS:=u1.trans u2;have z2:upd (upd H l (.lst ys)) l2 (.lst zs) l2=some (.lst zs):=ar;generalize upd (upd H l (.lst ys)) l2 (.lst zs)=H2 at SS z2;refine⟨_,_,SS _ _ hx,rfl,x,p,e,t,u,d,m,rs,rfl,hB.same SS,Lx,by rw[cT.length_eq];exact bH,λl3 xs3 H3 s3 _ bz nA=>⟨⟨_,ah.of (s3 _ _ z2)⟩,cH fU (adb (by lia:zs.length<=64) (by decide)) (fF (R:=λHx v (r:P2 × S2)=>cE Hx v r.1) (R':=λHx v (r:P2 × S2)=>fG Hx v r) (f:=λr=>r) (bs:=[]) (λ_ _ _ _ s r=>cE.same r s) (λ_ _ _ _ s r=>fG.same r s) (PS.imp λ_ _ r=>cE.same r (SS.trans s3)) trivial (λH' s'=>ah.of ((s3.trans s') _ _ z2)) (λv r _ H4 s4 h0 Q h=>?_) (λv r bT H4 s4 h0 Q h=>?_) λH4 ts s4 vA=>?_)⟩⟩
  .walk_at "gzn";exact h
  .obtain⟨ka,rfl,hka⟩:=id h0;have S4:=SS.trans (s3.trans s4);obtain⟨v,hv,iv⟩:=(hA.val r.1).2 _ (tP aj.1 (lD bT));walk_at "gzn";refine aO (ax.of hka) rfl (aO (ax.of hka) rfl ⟨v,?_,?_⟩)
   .rw[<- hv];exact fc.t (k:=cA r.1.1 r.1.2) (S4 _ _ jU) hka
   .exact⟨by decide,λz hz=>h _ _ (aw hz) ⟨z,v,rfl,ar,aI.same iv (S4.trans (aw hz))⟩⟩
  rw[adB,ajg] at vA;rw[TK Lx cT] at nA;intro l4 i8;have u4:=aw (o:=.lst ts) i8;exact Ir (.lst (ah.of ((s4.trans u4) _ _ bz)) (x8 (nA.imp λ_ _ r=>fG.same r (s4.trans u4)))) (.lst (ah.of ar) (x8 (vA.imp λ_ _ r=>fG.same r u4))) (Zq _) (by decide) (q _ (SS.trans (s3.trans (s4.trans u4))))
noncomputable def mi(tb:Tb)(cs:List Int)(i:Int):Prop:=∃ r∈tb,r.1.1=i/\hs r.2 (c7 cs r.1.2.toNat)=false
inductive Zt(K:acS)(vs:List V)(H:Hp)(Q:VK)(a9:XK):Prop
 | mk(w c:ac6)(e t:Int)(tb:Tb)(cs:List Int)(_:vs=[.ref w,.ref c])(_:TabAt H w tb)(_:cB e t tb)(_:tb.length<=60)(_:ah K H c (cs.map V.int))(_:cs.length=t.toNat)(_:∀ (l:ac6) (es:List Int) (H':Hp),ak H H'->H l=none->H' l=some (.lst (es.map V.int))->es.Nodup->(∀ i,i∈es↔mi tb cs i)->es.length<=tb.length->Q (.ref l) H')
inductive Zu(G H3:Hp)(w c l:ac6)(tb:Tb)(cs:List Int)(i:Nat)(σ:St)(H4:Hp):Prop
 | mk(es:List Int)(e1 e2:Option V)(_:σ=[some (.ref w),some (.ref c),some (.ref l),e1,e2])(_:ak G H4)(_:SameBut l H3 H4)(_:H4 l=some (.lst (es.map V.int)))(_:es.Nodup)(_:(∀ j,j∈es↔mi (tb.take i) cs j))(_:es.length<=i)
theorem Ly{tb:Tb}{cs:List Int}{r:P2 × S2}{i:Nat}(h:tb[i]?=some r)(j:Int):mi (tb.take (i+1)) cs j↔mi (tb.take i) cs j∨(r.1.1=j/\hs r.2 (c7 cs r.1.2.toNat)=false):=by
 unfold mi;rw[aeM,h];constructor
 .rintro ⟨q,hq,h1,h2⟩;rcases adm.mp hq with z|z
  .exact .inl ⟨q,z,h1,h2⟩
  .obtain rfl:q=r:=by simpa using z
   exact .inr ⟨h1,h2⟩
 .rintro (⟨q,hq,h1,h2⟩|⟨h1,h2⟩)
  .exact⟨q,adD _ hq,h1,h2⟩
  .exact⟨r,ac1 _ (by simp),h1,h2⟩
theorem Zv(T:Tx K mg):aJ P w K mg base (aK P w) 2 T.u0.a T.u0.fd ["_law_told","_law_course_here"] (Zt K):=by
 refine okN T.u0.F uF (λvs H Q E h=>?_) (λaG A outer s H vs Q E hr h=>?_)
 .obtain⟨w,c,e,t,tb,cs,rfl,_⟩:=h;rfl
 .obtain⟨w,c,e,t,tb,cs,rfl,hT,aj,rW,hc,bc,q⟩:=h;refine⟨_,(aq (aE (i:=2) uF.nd rfl (adv rfl) (cM ai))
  (aq (Uh (cL adK rfl (Uk (aa 0)) (gv rfl (bW (bf (i:=3) uF.nd rfl (adv rfl)) (bW (bf (i:=4) uF.nd rfl (adv rfl)) gu))) (au (aT (PW.pt (jb (d8 (dq (aC T.nu (vz T) hr az (ae (oy (fS hr) (aa 0) (bE (ae (aa 3) (ae (aa 4) ai))) (λ_ _=>rfl)) (ae (ay (aa 1) (aa 4)) ai))))) (jL (gQ FY (aa 3) (aa 2) (by with_unfolding_all rfl))))) (au (gp (mD aeq aey aez mE (aa 2) (ae (aa 3) ai)))) aV))))
  (au (aH (aa 2))))),?_⟩
  refine aM (λσ H1=>∃ l,σ=[some (.ref w),some (.ref c),some (.ref l),none,none]/\ak H H1/\H l=none/\H1 l=some (.lst [])) (λN hN=>?_) ?_
  .walk_at "gzn";exact⟨adw _,λl hl=>hN _ _ ⟨l,rfl,aw hl,hl,ar⟩⟩
  rintro σ H1 ⟨l,rfl,s1,fl,hl⟩;obtain⟨kvs,ny,hA⟩:=id hT;have jU:=s1 _ _ ny;refine aM (λσ H2=>∃ (es:List Int) (e1 e2:Option V),σ=[some (.ref w),some (.ref c),some (.ref l),e1,e2]/\ak H H2/\H2 l=some (.lst (es.map V.int))/\es.Nodup/\(∀ j,j∈es↔mi tb cs j)/\es.length<=tb.length) (λN hN=>?_) ?_
  .walk_at "gzn";refine⟨w,kvs,jU,λo=>⟨o,kvs,ar,λnz=>?_⟩⟩;have Lz:=hA.aX ny (u:=.aX o (.dT kvs));have PT:=(bo.aX (hA.imp λ_ _ _ z=>aI.same z s1) jU (u:=.aX o (.dT kvs))).qu nz;have kl:=PT.len;rw[acV] at kl;have wl:l≠w:=λz=>by rw[z,ny] at fl;cases fl
   have nc:upd H1 w (.aX o (.dT kvs)) l=some (.lst []):=Jb jU hl;have LA:ah K (upd H w (.aX o (.dT kvs))) c (cs.map V.int):=Ur ny hc;have lG:upd H w (.aX o (.dT kvs)) l=none:=by rw[aB wl];exact fl
   have wG:upd H w (.aX o (.dT kvs)) w=some (.aX o (.dT kvs)):=ar;have sG:ak (upd H w (.aX o (.dT kvs))) (upd H1 w (.aX o (.dT kvs))):=λb u h=>by
    by_cases hb:b=w
    .subst hb;rw[ar] at h ⊢;exact h
    .rw[aB hb] at h ⊢;exact s1 _ _ h
   have LB:∀ H4,ak (upd H w (.aX o (.dT kvs))) H4->ak H (upd H4 w (.dT kvs)):=λH4 s4=>Uo ny s4;generalize upd H1 w (.aX o (.dT kvs))=H3 at PT nc sG nz;generalize upd H w (.aX o (.dT kvs))=G at Lz LA lG wG sG LB;refine Um (xs:=jx o) (Zu G H3 w c l tb cs) rfl (by rw[kl,hA.len]) ⟨[],_,_,rfl,sG,λ_ _ _ z=>z,nc,ag6,λj=>⟨λz=>(nomatch z),λ⟨r,hr,_⟩=>by simp at hr⟩,ac8 _⟩ ?_ ?_ ?_
   .rintro i σ H4 _ ⟨es,e1,e2,_,s4,_⟩;exact s4 _ _ wG
   .rintro i v σ H4 hv ⟨es,e1,e2,rfl,s4,sb,i8,eK,hmem,hlen⟩;obtain⟨s0,pC,ka,rfl,hka⟩:=PT.get hv;rw[adi] at pC;obtain⟨r,hr,rfl⟩:=adO.mp pC;have rT:=adl hr;obtain⟨⟨b1,b2⟩,b3,b4⟩:=aj.2 r rT;have uf:=(ade.mp hr).1;obtain⟨vv,hvv,va,rfl,hva⟩:=(Lz.val r.1).2 _ (tP aj.1 rT);have Zw:=sb ka _ (λz=>by rw[z,nc] at hka;cases hka) hka;have LC:∀ (b:Bool),hs r.2 (c7 cs r.1.2.toNat)=b->(b=true∨r.1.1∈es)->∀ j,j∈es↔mi (tb.take (i+1)) cs j:=λb hb h j=>by
     rw[Ly hr j,hmem j];constructor
     .exact λz=>.inl z
     .rintro (z|⟨z1,z2⟩)
      .exact z
      .rcases h with h|h
       .rw[h] at hb;rw[hb] at z2;cases z2
       .rw[<- z1];exact (hmem _).mp h
    refine jZ (ax.of Zw) ?_;walk_at "gzn";refine⟨bJ,λp hp=>?_⟩;have up:=aw (o:=.tup [.int r.1.1,.int r.1.2]) hp;have kp:upd H4 p (.tup [.int r.1.1,.int r.1.2]) p=some (.tup [.int r.1.1,.int r.1.2]):=ar;have S5:=s4.trans up;have vB:SameBut l H3 (upd H4 p (.tup [.int r.1.1,.int r.1.2])):=λb o hb h=>up _ _ (sb b o hb h);have l5:=up _ _ i8;generalize upd H4 p (.tup [.int r.1.1,.int r.1.2])=H5 at kp S5 vB l5;refine⟨.ref va,by rw[<- hvv];exact fc.z (k:=cA r.1.1 r.1.2) (S5 _ _ wG) kp,aN (S5.seq LA) ((congrArg (cO _) (show r.1.2=((r.1.2.toNat:Nat):Int) by lia)).trans (eB (qF (by lia)))) ⟨va,r.2.1,r.2.2,c7 cs r.1.2.toNat,rfl,ax.of (S5 _ _ hva),bA (λhf=>?_) λhf=>?_⟩⟩
    .refine⟨l,_,rfl,.inl (ah.of l5),rfl,IP es,⟨_,rfl,?_⟩⟩;rw[if_pos rfl,yq];refine bA (λhk=>?_) λhk=>?_
     .have Zx:r.1.1∉es:=by simpa using hk
      refine⟨.inl ⟨rfl,_,ah.of l5⟩,_,l5,aeg (by rw[acV];lia:_<=60) (by decide),es++[r.1.1],_,_,rfl,iL lG S5,λb o hb h=>by rw[aB hb];exact vB b o hb h,by rw[ar,aea];rfl,akd.mpr ⟨eK,aer.mpr ⟨by simp,ag6⟩,λa ha b hb=>by
       obtain rfl:b=r.1.1:=by simpa using hb
       exact λz=>Zx (z ▸ ha)⟩,λj=>?_,by rw[adj,adh];lia⟩
      rw[Ly hr j,adm,hmem j,ady];exact⟨λz=>z.imp id λz=>⟨z.symm,hf⟩,λz=>z.imp id λz=>z.1.symm⟩
     .have cG:r.1.1∈es:=by simpa using hk
      exact⟨es,_,_,rfl,S5,vB,l5,eK,LC _ rfl (.inr cG),by lia⟩
    .exact⟨es,_,_,rfl,S5,vB,l5,eK,LC _ rfl (.inl (show hold r.2.1 r.2.2 (c7 cs r.1.2.toNat)=true by simpa using hf)),by lia⟩
   .rintro σ H4 ⟨es,e1,e2,rfl,s4,sb,i8,eK,hmem,hlen⟩;have tl:(jx o).length=tb.length:=kl;rw[tl] at hlen hmem;rw[aeX] at hmem;have w4:=s4 _ _ wG;exact⟨w4,hN _ _ ⟨es,e1,e2,rfl,LB _ s4,Uq w4 i8,eK,hmem,hlen⟩⟩
  rintro σ H2 ⟨es,e1,e2,rfl,s2,ba,eK,hmem,hlen⟩;walk_at "gzn";exact q l es H2 s2 fl ba eK hmem hlen
variable{P:ado}{w:adM}{K:acS}{mg:Str->Option acY}{base:aeA}
inductive pE(H:Hp)(v:V)(r:Gp):Prop
 | mk(g k:ac6)(zs:List V)(_:v = .ref g)(_:H g=some (.tup [ev r.1,.ref k]))(_:H k=some (.lst zs))(_:ao (cU H) zs r.2)
theorem pE.same{H H':Hp}{v:V}{r:Gp}(h:pE H v r)(s:ak H H'):pE H' v r:=let ⟨g,k,zs,e,a,b,c⟩:=h;⟨g,k,zs,e,s _ _ a,s _ _ b,c.imp λ_ _ x=>x.same s⟩
inductive Zy(K:acS)(B:ac6)(vs:List V)(H:Hp)(Q:VK)(a9:XK):Prop
 | mk(x p:ac6)(e t u d m:Int)(tb:Tb)(_:vs=[.ref x])(_:dr B H x e t u d m p tb)(_:(tb.map (·.1)).Nodup)(_:tb.length<64)(_:(∀ r∈tb,0<=r.1.2))(_:0<=e)(_:e<=7)(_:∀ l ys H',ak H H'->H l=none->H' l=some (.lst ys)->ao (pE H') ys ((qN e.toNat tb).map λr=>(some r.1,r.2))->Q (.ref l) H')
theorem Zz(T:Tx K mg):aJ P w K mg base (aK P w) 3 T.uR.a T.uR.fd ["board"] (Zy K T.aQ):=by
 refine okN T.uR.F Xb (λvs H Q E h=>?_) (λaG A outer s H vs Q E hr h=>?_)
 .obtain⟨x,p,e,t,u,d,m,tb,rfl,_⟩:=h;rfl
 .obtain⟨x,p,e,t,u,d,m,tb,rfl,hb,eK,bH,bT,h0,h7,q⟩:=h;refine⟨_,(au (aH (dE (b7.mk (fr:=[0]) (ys:=["board"]) rfl (by decide +kernel) rfl (by decide +kernel) rfl rfl (.cons rfl .nil) (.cons rfl rfl rfl rfl .nil) (by decide) rfl) rfl (fv rfl T.fj (ae (fh rfl (aa 0) rfl) ai)) (λC s2 H2 ex pn=>⟨dC,(bE (ae (aa 0) (ae (aC T.rB (K0 T) hr az (ae (aa 1) (ae (aa 0) ai))) ai)))⟩)))),?_⟩;obtain⟨⟨dx,hx⟩,hp⟩:=id hb;walk_at "gzn";refine⟨_,_,_,hx,T.bN,T.kC,_,rfl,?_⟩;refine⟨e,rfl,by lia,by lia,cH ly (by rw[acV,ads];exact adb (by lia:_<=12) (by decide)) (fF (R:=λ_ x (k:Nat)=>x=V.int ((0:Int)+k)) (R':=pE) (f:=λ(k:Nat)=>((some (k:Int),fI tb (k:Int)):Gp)) (λ_ _ _ _ _ h=>h) (λ_ _ _ _ s' h=>h.same s') (ao.ix _) (bs:=[]) trivial (λ_ _=>trivial) (λx k _ H2 s2 r Q h=>?_) (λx k _ H2 s2 r Q h=>?_) λH2 zs s2 hz=>?_)⟩
  .walk_at "gz";exact h
  .subst r;walk_at "gz";rw[ahf];refine⟨x,p,e,t,u,d,m,(k:Int),tb,rfl,hb.same s2,eK,bH,bT,λl ys H3 s3 _ hl hM=>⟨bJ,λg hg=>?_⟩⟩;have u1:=aw (o:=.tup [.int (k:Int),.ref l]) hg;exact h _ _ (s3.trans u1) ⟨g,l,ys,rfl,ar,u1 _ _ hl,hM.imp λ_ _ x=>x.same u1⟩
  .intro l hl;rw[adB] at hz;refine q l zs _ (s2.trans (aw hl)) (s2.free hl) ar ?_;unfold qN;rw[ae1];exact hz.imp λ_ _ r=>r.same (aw hl)
variable{P:ado}{w:adM}{K:acS}{mg:Str->Option acY}{base:aeA}
inductive ZA(K:acS)(vs:List V)(H:Hp)(Q:VK)(a9:XK):Prop
 | mk(a b:ac6)(xs ys:List V)(ps:List P2)(ms:List Mk)(_:vs=[.ref a,.ref b])(_:ah K H a xs)(_:dm H xs ps)(_:ah K H b ys)(_:ao (cU H) ys ms)(_:cI ps)(_:ps.length<=900)(_:ms.length<=1000)(_:(∀ m∈ms,m.1<=ps.length))(_:((¬ ∃ c,dX ps c/\meets ms c)->∀ H',ak H H'->Q .non H'))(_:(∀ l cs H',ak H H'->H l=none->H' l=some (.lst (cs.map V.int))->cs.length=ps.length+1->dX ps (aR cs)->meets ms (aR cs)->Q (.ref l) H'))
inductive ZC(H:Hp)(a b x l c:ac6)(zs:List V)(ss:List S2)(ps:List P2)(ms:List Mk)(i:Nat)(σ:St)(H1:Hp):Prop
 | mk(cs:List Int)(e1 e2:Option V)(_:σ=[some (.ref a),some (.ref b),some (.ref x),some (.ref l),e1,e2])(_:ak H H1)(_:H1 l=some (.lst (cs.map V.int)))(_:H1 c=some (.lst (zs.drop 1)))(_:ao (iV H1) zs ss)(_:cs.length=i+1)(_:(∀ t,t<=i->bZ (cp ps.length (bB ms) (aF ps) t) (aR cs t)))(_:∀ k,k<i->(aF ps k).1<=aR cs (k+1)-aR cs k/\aR cs (k+1)-aR cs k<=(aF ps k).2)
theorem vC{cs:List Int}{n:Int}{t:Nat}(h:t<cs.length):aR (cs++[n]) t=aR cs t:=by unfold aR;rw[acU,acU,ad5 h]
theorem LD{cs:List Int}{n:Int}{t:Nat}(h:cs.length=t):aR (cs++[n]) t=n:=by unfold aR;rw[acU,aem (by lia),h,ahK];rfl
theorem ZD{cs:List Int}{i:Nat}(h:cs.length=i+1):cO (cs.map V.int) (-1)=some (.int (aR cs i)):=by
 have e:cs=cs.take i++[aR cs i]:=by have:=aeR i cs;rw[aeu (by lia),agN (by lia)] at this;unfold aR;rw[acU,acW (by lia)];exact this.symm
 have e2:cs.map V.int=(cs.take i).map V.int++[V.int (aR cs i)]:=(congrArg (List.map V.int) e).trans (by rw[aea];rfl);rw[e2];exact wA _ _
theorem LF{s:S2}(h:aS s.1 s.2=false):bD s (j4 s):=lF.mpr (R9 h)
theorem LG{ss:List S2}{i:Nat}(h:i<ss.length):ss[i]?=some (a8 ss i):=by unfold a8;rw[acU,acW h];rfl
theorem AQ{ps:List P2}{i:Nat}(h:i<ps.length):ps[i]?=some (aF ps i):=by unfold aF;rw[acU,acW h];rfl
theorem ZE(T:Tx K mg):aJ P w K mg base (aK P w) 5 T.uJ.a T.uJ.fd ["steps","marks"] (ZA K):=by
 refine okN T.uJ.F qY (λvs H Q E h=>?_) (λaG A outer s H vs Q E hr h=>?_)
 .obtain⟨a,b,xs,ys,ps,ms,rfl,_⟩:=h;rfl
 .obtain⟨a,b,xs,ys,ps,ms,rfl,hS,hP,hT,hM,aj,hn,hm,ht,q0,q⟩:=h;refine⟨_,(aq (aE (i:=2) qY.nd rfl (adv rfl) (aC T.rn (K6 T) hr az (ae (aa 0) (ae (aa 1) ai))))
  (aq (aT (ig (aa 2)) (au (aH cj)) aV)
  (aq (aE (i:=3) qY.nd rfl (adv rfl) (cM (ae (aC T.rg (KZ T) hr az (ae (ay (aa 2) ag) ai)) ai)))
  (aq (cL adK rfl (RT rfl T.KA (ae (aa 0) (ae (FN FW (aa 2) (FI ag) FH) ai))) (gv rfl (bW (bf (i:=4) qY.nd rfl (adv rfl)) (bW (bf (i:=5) qY.nd rfl (adv rfl)) gu))) (au (gp (mD aeq aey aez mE (aa 3) (ae (aC T.rg (KZ T) hr az (ae (aC T.o4 (Aw T) hr az (ae (aa 5) (ae (aC T.rh (K2 T) hr az (ae (bE (ae (ay (aa 3) (fP gi ag)) (ae (ay (aa 3) (fP gi ag)) ai))) (ae (aa 4) ai))) ai))) ai)) ai)))))
  (au (aH (aa 3))))))),?_⟩
  have l1:=hP.len;walk_at "gzn";refine⟨a,b,xs,ys,ps,ms,rfl,hS,hP,hT,hM,aj,hn,hm,λt ht en H1 s1=>?_,λbg x zs ss H1 s1 fx hx hz jn fK=>?_⟩
  .walk_at "gzn";refine q0 ?_ _ s1;rintro ⟨c,hc,i7⟩;exact IG hc i7 t ht en
  have TB:=yn aj bg;have zl:=hz.len;have AR:∀ t,t<=ps.length->aS (a8 ss t).1 (a8 ss t).2=false:=λt ht=>by obtain⟨s,es,hs⟩:=TB.ok t ht;rw[fK t ht] at es;cases es;exact hs
  walk_at "gzn";obtain⟨v0,ZF,r0⟩:=hz.at (LG (ss:=ss) (i:=0) (by lia));refine aN (ah.of hx) (eB (j:=0) ZF) ?_;refine⟨v0,a8 ss 0,rfl,r0,by decide,λl da=>?_⟩;have u1:=aw (o:=.lst [.int (j4 (a8 ss 0))]) da;have L1:upd H1 l (.lst [.int (j4 (a8 ss 0))]) l=some (.lst ([j4 (a8 ss 0)].map V.int)):=ar;have fl:=s1.free da;generalize upd H1 l (.lst [.int (j4 (a8 ss 0))])=H2 at u1 L1 ⊢;refine⟨zs,ah.of (u1 _ _ hx),λc hc=>?_⟩;rw[show kO zs (some 1) none=zs.drop 1 from HA zs 1];have u2:=aw (o:=.lst (zs.drop 1)) hc;have c3:upd H2 c (.lst (zs.drop 1)) c=some (.lst (zs.drop 1)):=ar;have lc:l≠c:=λz=>by rw[<- z,L1] at hc;cases hc
  generalize upd H2 c (.lst (zs.drop 1))=H3 at u2 c3 ⊢;have S3:=s1.trans (u1.trans u2);refine⟨⟨_,S3.seq hS⟩,⟨_,ah.of c3⟩,RX (xs:=xs) (ys:=zs.drop 1) (ZC H a b x l c zs ss ps ms) ⟨[j4 (a8 ss 0)],_,_,rfl,S3,u2 _ _ L1,c3,hz.imp λ_ _ r=>aI.same r (u1.trans u2),rfl,λt ht=>?_,λk hk=>absurd hk (af2 _)⟩ ?_ ?_ ?_⟩
  .obtain rfl:t=0:=by lia
   exact⟨_,fK 0 (by lia),LF (AR 0 (by lia))⟩
  .rintro i σ H4 ⟨_,_,_,_,s4,_,c4,_⟩;exact⟨s4.seq hS,ah.of c4⟩
  .rintro i u v σ H4 p hu hv ⟨cs,d1,d2,rfl,s4,L4,c4,nB,bc,cG,bC⟩ hp;have hi:i<ps.length:=by have:=(ade.mp hu).1;lia
   obtain⟨pt,ept,ru⟩:=hP.get hu;rw[AQ hi] at ept;cases ept;rw[ajW,akm 1 i] at hv;obtain⟨sv,esv,rv⟩:=nB.get hv;rw[LG (by lia)] at esv;cases esv;refine jZ (ax.of ar) ?_;have up:=aw (o:=.tup [u,v]) hp;generalize upd H4 p (.tup [u,v])=H5 at up ⊢;have L5:=up _ _ L4;walk_at "gzn";have lst:=ZD bc;refine⟨.inl ⟨rfl,_,ah.of L5⟩,aN (ah.of L5) lst (aN (ah.of L5) lst ⟨bJ,λt1 kE=>?_⟩)⟩;have ut:=aw (o:=.tup [.int (aR cs i),.int (aR cs i)]) kE;refine⟨.ref t1,u,(some (aR cs i),some (aR cs i)),aF ps i,rfl,⟨t1,rfl,ar⟩,ru.same (s4.trans (up.trans ut)),λr H6 s6 _ ZG=>?_⟩;obtain⟨m,em,cg⟩:=Tn TB hi (cG i (ac8 _)) (fK (i+1) (by lia));have ZH:=aI.same rv (up.trans (ut.trans s6));refine⟨v,.ref r,_,_,_,_,rfl,ZH,⟨r,rfl,ZG⟩,λy H7 s7 hy=>?_⟩;have cm:=Iw em;have LH:aS (dQ (a8 ss (i+1)).1 (dU (some (aR cs i),some (aR cs i)) (aF ps i)).1) (dR (a8 ss (i+1)).2 (dU (some (aR cs i),some (aR cs i)) (aF ps i)).2)=false/\m=(dQ (a8 ss (i+1)).1 (dU (some (aR cs i),some (aR cs i)) (aF ps i)).1,dR (a8 ss (i+1)).2 (dU (some (aR cs i),some (aR cs i)) (aF ps i)).2):=by
    unfold gF at em;split at em
    .cases em
    .rename_i hc;cases em;exact⟨by simpa using hc,rfl⟩
   have vo:=hy.2 LH.1;refine⟨y,m,rfl,by rw[LH.2];exact vo,?_⟩;have S7:=up.trans (ut.trans (s6.trans s7));have L7:=S7 _ _ L4;obtain⟨n1,n2,n3⟩:=cg _ (LF cm);refine⟨_,L7,by rw[acV];exact aeg (by lia:_<=1000) (by decide),cs++[j4 m],_,_,rfl,iL fl (s4.trans S7),by rw[ar,aea];rfl,by rw[aB (adP lc)];exact S7 _ _ c4,nB.imp λ_ _ r=>aI.put (aI.same r S7) L7,by rw[adj,adh];lia,λt ht=>?_,λk hk=>?_⟩
   .by_cases e:t=i+1
    .subst e;rw[LD bc];exact n1
    .rw[vC (by lia)];exact cG t (by lia)
   .by_cases e:k=i
    .subst e;rw[LD bc,vC (by lia)];exact⟨n2,n3⟩
    .rw[vC (by lia),vC (by lia)];exact bC k (by lia)
  .rintro σ H4 ⟨cs,d1,d2,rfl,s4,L4,c4,nB,bc,cG,bC⟩;walk_at "gzn";rw[ahi,show min xs.length (zs.length-1)=ps.length by lia] at bc cG bC;exact q l cs H4 s4 fl L4 bc bC (meets_of TB ht cG)
variable{P:ado}{w:adM}{K:acS}{mg:Str->Option acY}{base:aeA}
noncomputable def de(H:Hp)(v:V):Option P2->Prop
 | none=>v = .non
 | some p=>cE H v p
theorem de.same{H H':Hp}{v:V}{o:Option P2}(h:de H v o)(s:ak H H'):de H' v o:=by
 cases o with
 | none=>exact h
 | some p=>exact cE.same h s
inductive ZI(K:acS)(vs:List V)(H:Hp)(Q:VK)(a9:XK):Prop
 | mk(v u:V)(a b:Option P2)(_:vs=[v,u])(_:de H v a)(_:de H u b)(_:∀ x,de H x (jv a b)->(x=v∨x=u)->Q x H)
theorem AS(T:Tx K mg):aJ P w K mg base (aK P w) 1 T.o6.a T.o6.fd ["one","other"] (ZI K):=by
 refine okN T.o6.F WT (λvs H Q E h=>?_) (λaG A outer s H vs Q E hr h=>?_)
 .obtain⟨v,u,a,b,rfl,_⟩:=h;rfl
 .obtain⟨v,u,a,b,rfl,ha,hb,q⟩:=h;refine⟨_,(aq (aT (PW.pt (eS (ig (aa 0)) (gO (ig (aa 1))))) (au (aH (nO (ig (aa 0)) (aa 1) (aa 0)))) aV)
  (au (aH (bM (Vs rfl (fS hr)) (by rfl) T.pj nX (ae (aa 0) (ae (aa 1) ai)))))),?_⟩
  rcases a with _|a<;>rcases b with _|b
  .obtain rfl:v = .non:=ha;obtain rfl:u = .non:=hb;walk_at "gzn";exact q _ rfl (.inl rfl)
  .obtain rfl:v = .non:=ha;obtain⟨r,rfl,fJ⟩:=id hb;walk_at "gzn";exact q _ hb (.inr rfl)
  .obtain rfl:u = .non:=hb;obtain⟨r,rfl,fJ⟩:=id ha;walk_at "gzn";exact q _ ha (.inl rfl)
  .obtain⟨r,rfl,fJ⟩:=id ha;obtain⟨r2,rfl,AU⟩:=id hb;walk_at "gzn";refine⟨a,fJ,b,AU,?_⟩;by_cases hl:fe b a=true
   .rw[if_pos hl];exact q _ (by show cE H _ (ff a b);unfold ff;rw[if_pos hl];exact hb) (.inr rfl)
   .rw[if_neg hl];exact q _ (by show cE H _ (ff a b);unfold ff;rw[if_neg hl];exact ha) (.inl rfl)
inductive ZJ(K:acS)(vs:List V)(H:Hp)(Q:VK)(a9:XK):Prop
 | mk(v:V)(a:Option P2)(b:Int)(_:vs=[v,.int b])(_:de H v a)(_:∀ x H',ak H H'->de H' x (oA a b)->Q x H')
theorem LI(T:Tx K mg):aJ P w K mg base (aK P w) 1 T.rq.a T.rq.fd ["one","by"] (ZJ K):=by
 refine okN T.rq.F WU (λvs H Q E h=>?_) (λaG A outer s H vs Q E hr h=>?_)
 .obtain⟨v,a,b,rfl,_⟩:=h;rfl
 .obtain⟨v,a,b,rfl,ha,q⟩:=h;refine⟨_,(au (aH (nO (ig (aa 0)) cj (bE (ae (aD bb (ay (aa 0) ag) (aa 1)) (ae (ay (aa 0) ag) ai)))))),?_⟩;rcases a with _|a
  .obtain rfl:v = .non:=ha;walk_at "gzn";exact q _ _ (ak.refl _) rfl
  .obtain⟨r,rfl,fJ⟩:=id ha;walk_at "gzn";refine aO (ax.of fJ) rfl ?_;walk_at "gzn";refine aO (ax.of fJ) rfl ⟨bJ,λp hp=>q _ _ (aw hp) ⟨p,rfl,ar⟩⟩
inductive ZK(K:acS)(vs:List V)(H:Hp)(Q:VK)(a9:XK):Prop
 | mk(a b:ac6)(xs ys:List V)(ps:List P2)(ms:List Mk)(_:vs=[.ref a,.ref b])(_:ah K H a xs)(_:dm H xs ps)(_:ah K H b ys)(_:ao (cU H) ys ms)(_:cI ps)(_:ps.length<=900)(_:ms.length<=1000)(_:(∀ m∈ms,m.1<=ps.length))(_:∀ l zs ts H',ak H H'->H l=none->H' l=some (.lst zs)->ao (de H') zs ts->ts.length=ps.length+1->kc ps ms (cZ ts)->Q (.ref l) H')
inductive nC(P:Nat->(Nat->Option P2)->Prop)(H:Hp)(a b l:ac6)(n:Nat)(i:Nat)(σ:St)(H1:Hp):Prop
 | mk(zs:List V)(ts:List (Option P2))(e1 e2 e3:Option V)(_:σ=[some (.ref a),some (.ref b),some (.ref l),e1,e2,e3])(_:ak H H1)(_:H1 l=some (.lst zs))(_:ao (de H1) zs ts)(_:ts.length=n+1)(_:P i (cZ ts))
theorem de.put{H:Hp}{v:V}{o:Option P2}{l:ac6}{ys zs:List V}(h:de H v o)(hl:H l=some (.lst ys)):de (upd H l (.lst zs)) v o:=by
 cases o with
 | none=>exact h
 | some p=>exact cE.put h hl
theorem ao.LJ{α:Type}{R:V->α->Prop}{x:V}{a:α}(r:R x a):∀ {xs:List V} {as:List α} (j:Nat),ao R xs as->ao R (xs.set j x) (as.set j a)
 | [],[],_,_=>trivial
 | _::_,_::_,0,h=>⟨r,h.2⟩
 | _::_,_::_,j+1,h=>⟨h.1,ao.LJ r j h.2⟩
 | [],_::_,_,h=>h.elim
 | _::_,[],_,h=>h.elim
theorem pF{H:Hp}{zs:List V}{ts:List (Option P2)}{t:Nat}(h:ao (de H) zs ts)(ht:t<ts.length):∃ v,cO zs (t:Int)=some v/\de H v (cZ ts t):=by obtain⟨v,hv,r⟩:=h.at (acW ht);refine⟨v,eB hv,?_⟩;unfold cZ;rw[acU,acW ht];exact r
theorem AV{n t:Nat}(h:t<n):gR n (t:Int)=some t:=by unfold gR;rw[if_pos (by lia),if_pos (by lia),adU]
theorem AW{P:Nat->(Nat->Option P2)->Prop}{H:Hp}{a b l:ac6}{n i:Nat}{zs:List V}{ts:List (Option P2)}{H1:Hp}{v:V}{x:Option P2}{t:Nat}{d1 d2 d3:Option V}(da:H l=none)(s:ak H H1)(hl:H1 l=some (.lst zs))(hz:ao (de H1) zs ts)(hlen:ts.length=n+1)(hv:de H1 v x)(ht:t<n+1)(hP:P i (jw (cZ ts) t x)):nC P H a b l n i [some (.ref a),some (.ref b),some (.ref l),d1,d2,d3] (upd H1 l (.lst (zs.set t v))) :=
 ⟨zs.set t v,ts.set t x,d1,d2,d3,rfl,iL da s,ar,(ao.LJ hv t hz).imp λ_ _ r=>r.put hl,by rw[akK];exact hlen,by rw[To (by lia)];exact hP⟩
theorem ZL(n:Nat):lB ((n:Int)-1) (-1) (-1)=n:=by unfold lB aef;simp only[show ¬ ((-1:Int) > 0) by lia,if_false,show (- (-1:Int))=1 by lia,alG];split<;>lia
theorem ZM(T:Tx K mg):aJ P w K mg base (aK P w) 2 T.uK.a T.uK.fd ["steps","marks"] (ZK K):=by
 refine okN T.uK.F oW (λvs H Q E h=>?_) (λaG A outer s H vs Q E hr h=>?_)
 .obtain⟨a,b,xs,ys,ps,ms,rfl,_⟩:=h;rfl
 .obtain⟨a,b,xs,ys,ps,ms,rfl,hS,hP,hT,hM,aj,hn,hm,ht,q⟩:=h;refine⟨_,(aq (oh (i:=2) (b7.mk (fr:=[]) (ys:=[]) rfl (by decide +kernel) rfl (by decide +kernel) rfl rfl .nil .nil (by decide) rfl) rfl oW.nd rfl rfl (fv rfl T.fj (ae (aD bb (bM ed (by rfl) T.dZ dN (ae (aa 0) ai)) ag) ai)) (λC s2 H2 ex pn=>⟨dC,cj⟩))
  (aq (cL adK rfl (xE rfl T.vf (ae (aa 1) ai)) (gv rfl (bW (bf (i:=3) oW.nd rfl (adv rfl)) (bW (bf (i:=4) oW.nd rfl (adv rfl)) gu))) (au (aT (gH (ay (ay (aa 4) ag) ag)) (au (sq (aC T.o6 (AS T) hr az (ae (ay (aa 2) (ay (aa 4) ag)) (ae (bE (ae (ay (ay (aa 4) ag) ag) (ae (aa 3) ai))) ai))) (so (aa 2) (ay (aa 4) ag) set_list))) aV)))
  (aq (cL adK rfl (fv rfl T.fj (ae (bM ed (by rfl) T.dZ dN (ae (aa 0) ai)) ai)) (bf (i:=5) oW.nd rfl (adv rfl)) (au (sq (aC T.o6 (AS T) hr az (ae (ay (aa 2) (aD bb (aa 5) ag)) (ae (aC T.rq (LI T) hr az (ae (ay (aa 2) (aa 5)) (ae (ay (ay (aa 0) (aa 5)) ag) ai))) ai))) (so (aa 2) (aD bb (aa 5) ag) set_list))))
  (aq (cL adK rfl (RI rfl T.fj (ae (aD eL (bM ed (by rfl) T.dZ dN (ae (aa 0) ai)) ag) (ae (fP gi ag) (ae (fP gi ag) ai)))) (bf (i:=5) oW.nd rfl (adv rfl)) (au (sq (aC T.o6 (AS T) hr az (ae (ay (aa 2) (aa 5)) (ae (aC T.rq (LI T) hr az (ae (ay (aa 2) (aD bb (aa 5) ag)) (ae (fP gi (ay (ay (aa 0) (aa 5)) ag)) ai))) ai))) (so (aa 2) (aa 5) set_list))))
  (au (aH (aa 2))))))),?_⟩
  have l1:=hP.len;have l2:=hM.len;refine aM (λσ H1=>∃ l,σ=[some (.ref a),some (.ref b),some (.ref l),none,none,none]/\ak H H1/\H l=none/\H1 l=some (.lst (ad4 (ps.length+1) .non))) (λN hN=>?_) ?_
  .walk_at "gzn";refine⟨_,dz hS,by lia,by lia,?_⟩;rw[l1,show ((ps.length:Int)+1).toNat=ps.length+1 by lia];refine cH ly (by rw[acV,ads];exact adb (by lia:_<=901) (by decide)) (oi (p:=λ_=>true) (f:=λ_=>.non) trivial (λx _ Q h=>?_) (λx _ _ Q h=>?_) ?_)
   .walk_at "gzn";exact h
   .walk_at "gzn";exact h
   rw[adB,filter_tt];intro l hl;refine hN _ _ ⟨l,rfl,aw hl,hl,?_⟩;rw[ar]
   congr 2
   refine afK λk=>?_;rw[adi,adi,ae8];by_cases hk:k<ps.length+1
   .rw[adX hk,if_pos hk];rfl
   .rw[ael (by rw[ads];lia),if_neg hk];rfl
  rintro σ H1 ⟨l,rfl,s1,da,fg⟩;refine aM (nC (T1 ps ms) H a b l ps.length ms.length) (λN hN=>?_) ?_
  .walk_at "gzn";refine⟨⟨_,s1.seq hT⟩,xI (xs:=ys) (nC (T1 ps ms) H a b l ps.length) ⟨_,ad4 (ps.length+1) none,_,_,_,rfl,s1,fg,?_,by rw[aek],by rw[Tp];exact T1.nil⟩ ?_ ?_ ?_⟩
   .have:∀ k,ao (de H1) (ad4 k .non) (ad4 k none):=λk=>by
     induction k with
     | zero=>exact trivial
     | succ k ih=>exact⟨rfl,ih⟩
    exact this _
   .rintro i σ H2 _ ⟨_,_,_,_,_,_,s2,_⟩;exact s2.seq hT
   .rintro i x σ H2 p hx ⟨zs,ts,d1,d2,d3,rfl,s2,ba,hz,gk,pG⟩ hp;obtain⟨m,nD,tp,sp,rfl,h1,h2⟩:=hM.get hx;have i7:=ht m (adl nD);have up:=aw (o:=.tup [.int i,.ref tp]) hp;refine jZ (ax.of ar) ?_;generalize upd H2 p (.tup [.int i,.ref tp])=H3 at up ⊢;have s3:=s2.trans up;have g1:=s3 _ _ h1;have g2:=s3 _ _ h2;have bz:=up _ _ ba;have cF:=hz.imp λ_ _ r=>r.same up;obtain⟨mt,lo,hi⟩:=m;walk_at "gzn";refine aO (ax.of g1) rfl (aO (ax.of g2) rfl ?_);cases hi with
    | none =>
     walk_at "gzn";exact⟨zs,ts,_,_,_,rfl,s3,bz,cF,gk,pG.skip nD rfl⟩
    | some h =>
     walk_at "gzn";obtain⟨v,hv,rv⟩:=pF cF (t:=mt) (by dsimp only at i7;lia);refine aO (ax.of g1) rfl (aN (ah.of bz) hv (aO (ax.of g1) rfl (aO (ax.of g2) rfl ?_)));walk_at "gzn";refine⟨bJ,λt1 kE=>?_⟩;have ut:=aw (o:=.tup [.int h,.int i]) kE;have S4:=s3.trans ut;refine⟨v,.ref t1,_,some (h,(i:Int)),rfl,rv.same ut,⟨t1,rfl,ar⟩,λy hy _=>?_⟩;refine aO (ax.of (ut _ _ g1)) rfl ?_;exact⟨zs,_,rfl,ut _ _ bz,mt,AV (by rw[hz.len,gk];dsimp only at i7;lia),AW da S4 (ut _ _ bz) (cF.imp λ_ _ r=>r.same ut) gk hy (by dsimp only at i7;lia) (pG.put nD rfl)⟩
   .rintro σ H2 h;rw[l2] at h;exact hN _ _ h
  rintro σ H2 h2;refine aM (nC (T2 ps ms) H a b l ps.length ps.length) (λN hN=>?_) ?_
  .obtain⟨zs,ts,d1,d2,d3,rfl,s2,ba,hz,gk,pG⟩:=h2;walk_at "gzn";refine⟨_,dz (s2.seq hS),?_⟩;rw[l1];refine⟨by lia,by lia,?_⟩;rw[adU];refine mF (nC (T2 ps ms) H a b l ps.length) ⟨zs,ts,d1,d2,d3,rfl,s2,ba,hz,gk,pG.two⟩ ?_ (λσ H3 h=>hN _ _ h);rintro i σ H3 hi ⟨zs,ts,d1,d2,d3,rfl,s3,bz,cF,gk,ZN⟩;have zl:=cF.len;obtain⟨v,hv,rv⟩:=pF cF (t:=i+1) (by lia);obtain⟨u,hu,ru⟩:=pF cF (t:=i) (by lia);obtain⟨w,hw,tw,rfl,AX⟩:=hP.at (AQ hi);walk_at "gzn";rw[show (0:Int)+(i:Int)=((i:Nat):Int) by lia,show ((i:Nat):Int)+1=((i+1:Nat):Int) by lia];refine aN (ah.of bz) hv (aN (ah.of bz) hu (aN (s3.seq hS) (eB hw) (aO (ax.of (s3 _ _ AX)) rfl ?_)));refine⟨u,_,_,rfl,ru,λy H4 s4 hy=>?_⟩;refine⟨v,y,_,_,rfl,rv.same s4,hy,λz AY _=>?_⟩;exact⟨zs,s4 _ _ bz,i+1,AV (by lia),AW da (s3.trans s4) (s4 _ _ bz) (cF.imp λ_ _ r=>r.same s4) gk AY (by lia) (ZN.step aj ht hi)⟩
  rintro σ H3 h3;refine aM (nC (λi=>T3 ps ms (ps.length-i)) H a b l ps.length ps.length) (λN hN=>?_) ?_
  .obtain⟨zs,ts,d1,d2,d3,rfl,s2,ba,hz,gk,pG⟩:=h3;walk_at "gzn";refine⟨_,dz (s2.seq hS),?_⟩;rw[l1,ZL];refine⟨by lia,by lia,RM (nC (λi=>T3 ps ms (ps.length-i)) H a b l ps.length) ⟨zs,ts,d1,d2,d3,rfl,s2,ba,hz,gk,pG.three⟩ ?_ (λσ H3 h=>hN _ _ h)⟩;rintro i σ H3 hi ⟨zs,ts,d1,d2,d3,rfl,s3,bz,cF,gk,nA⟩;have zl:=cF.len;obtain⟨j,hj⟩:∃ j,ps.length=j+1+i:=⟨ps.length-1-i,by lia⟩
   obtain⟨v,hv,rv⟩:=pF cF (t:=j+1) (by lia);obtain⟨u,hu,ru⟩:=pF cF (t:=j) (by lia);obtain⟨w,hw,tw,rfl,AX⟩:=hP.at (AQ (ps:=ps) (i:=j) (by lia));walk_at "gzn";rw[show (ps.length:Int)-1+(i:Int) * -1=((j:Nat):Int) by lia,show ((j:Nat):Int)+1=((j+1:Nat):Int) by lia];refine aN (ah.of bz) hu (aN (ah.of bz) hv (aN (s3.seq hS) (eB hw) (aO (ax.of (s3 _ _ AX)) rfl ?_)));walk_at "gzn";refine⟨v,_,_,rfl,rv,λy H4 s4 hy=>?_⟩;refine⟨u,y,_,_,rfl,ru.same s4,hy,λz AY _=>?_⟩;refine⟨zs,s4 _ _ bz,j,AV (by lia),AW da (s3.trans s4) (s4 _ _ bz) (cF.imp λ_ _ r=>r.same s4) gk AY (by lia) ?_⟩;show T3 ps ms (ps.length-(i+1)) _;rw[show ps.length-(i+1)=j by lia];have nA:T3 ps ms (ps.length-i) (cZ ts):=nA;rw[show ps.length-i=j+1 by lia] at nA;exact nA.step aj ht (by lia)
  rintro σ H4 ⟨zs,ts,d1,d2,d3,rfl,s4,i8,nB,gk,LK⟩;rw[ahK] at LK;walk_at "gzn";exact q l zs ts H4 s4 da i8 nB gk LK.tops
variable{P:ado}{w:adM}{K:acS}{mg:Str->Option acY}{base:aeA}
inductive ZO(K:acS)(vs:List V)(H:Hp)(Q:VK)(a9:XK):Prop
 | mk(a b:ac6)(zs ys:List V)(ts:List (Option P2))(ms:List Mk)(_:vs=[.ref a,.ref b])(_:ah K H a zs)(_:ao (de H) zs ts)(_:ah K H b ys)(_:ao (cU H) ys ms)(_:(∀ m∈ms,m.1<ts.length))(_:(qy ms (cZ ts)->∀ H',ak H H'->Q .non H'))(_:(∀ (j:Nat) m l v k,ms[j]?=some m->m.2.1=some l->cZ ts m.1=some (v,k)->v<l->∀ p H',ak H H'->H p=none->H' p=some (.tup [.int k,.int j])->Q (.ref p) H'))
inductive ZP(H:Hp)(a b:ac6)(ts:List (Option P2))(ms:List Mk)(i:Nat)(σ:St)(H1:Hp):Prop
 | mk(e1 e2 e3:Option V)(_:σ=[some (.ref a),some (.ref b),e1,e2,e3])(_:ak H H1)(_:qy (ms.take i) (cZ ts))
theorem ZQ(T:Tx K mg):aJ P w K mg base (aK P w) 1 T.uL.a T.uL.fd ["tops","marks"] (ZO K):=by
 refine okN T.uL.F uB (λvs H Q E h=>?_) (λaG A outer s H vs Q E hr h=>?_)
 .obtain⟨a,b,zs,ys,ts,ms,rfl,_⟩:=h;rfl
 .obtain⟨a,b,zs,ys,ts,ms,rfl,hA,hZ,hT,hM,ht,q0,q⟩:=h;refine⟨_,(aq (cL adK rfl (xE rfl T.vf (ae (aa 1) ai)) (gv rfl (bW (bf (i:=2) uB.nd rfl (adv rfl)) (bW (bf (i:=3) uB.nd rfl (adv rfl)) gu))) (aq (aE (i:=4) uB.nd rfl (adv rfl) (ay (aa 0) (ay (aa 3) ag)))
   (au (aT (PW.pt (jb (gH (aa 4)) (jb (gH (ay (ay (aa 3) ag) ag)) (jL (lS (ay (ay (aa 3) ag) ag) (ay (aa 4) ag)))))) (au (aH (bE (ae (ay (aa 4) ag) (ae (aa 2) ai))))) aV))))
  (au (aH cj))),?_⟩
  have l1:=hZ.len;have l2:=hM.len;walk_at "gzn";refine⟨⟨_,hT⟩,xI (xs:=ys) (ZP H a b ts ms) ⟨_,_,_,rfl,ak.refl _,λm h=>by simp at h⟩ ?_ ?_ ?_⟩
  .rintro i σ H2 _ ⟨_,_,_,_,s2,_⟩;exact s2.seq hT
  .rintro i x σ H2 p hx ⟨d1,d2,d3,rfl,s2,dH⟩ hp;obtain⟨m,nD,tp,sp,rfl,h1,h2⟩:=hM.get hx;have i7:=ht m (adl nD);have up:=aw (o:=.tup [.int i,.ref tp]) hp;refine jZ (ax.of ar) ?_;generalize upd H2 p (.tup [.int i,.ref tp])=H3 at up ⊢;have s3:=s2.trans up;have g1:=s3 _ _ h1;have g2:=s3 _ _ h2;have next:(∀ l v k,m.2.1=some l->cZ ts m.1=some (v,k)->l<=v)->qy (ms.take (i+1)) (cZ ts):=λhh n hn=>by
    rw[aeM,nD] at hn;rcases adm.mp hn with z|z
    .exact dH n z
    .obtain rfl:n=m:=by simpa using z
     exact hh
   obtain⟨v,hv,rv⟩:=pF hZ i7;obtain⟨mt,lo,hi⟩:=m;walk_at "gzn";refine aO (ax.of g1) rfl (aN (s3.seq hA) hv ?_);cases et:cZ ts mt with
   | none =>
    rw[show cZ ts (mt,lo,hi).1=none from et] at rv;obtain rfl:v = .non:=rv;walk_at "gzn";exact⟨_,_,_,rfl,s3,next λl v k _ e=>by rw[show cZ ts (mt,lo,hi).1=none from et] at e;cases e⟩
   | some q2 =>
    obtain⟨w,k⟩:=q2;rw[show cZ ts (mt,lo,hi).1=some (w,k) from et] at rv;obtain⟨rt,rfl,hrt⟩:=rv;walk_at "gzn";refine aO (ax.of g1) rfl (aO (ax.of g2) rfl ?_);cases lo with
    | none =>
     walk_at "gzn";exact⟨_,_,_,rfl,s3,next λl v k e _=>by cases e⟩
    | some l =>
     walk_at "gzn";refine aO (ax.of g1) rfl (aO (ax.of g2) rfl (aO (ax.of (s3 _ _ hrt)) rfl ?_));walk_at "gzn";refine bA (λhc=>?_) λhc=>?_
     .exact aO (ax.of (s3 _ _ hrt)) rfl ⟨bJ,λr bT=>q i _ l w k nD rfl et hc r _ (s3.trans (aw bT)) (s3.free bT) ar⟩
     .exact⟨_,_,_,rfl,s3,next λl' v' k' e1 e2=>by
       cases e1;rw[show cZ ts (mt,some l,hi).1=some (w,k) from et] at e2;cases e2;lia⟩
  .rintro σ H2 ⟨d1,d2,d3,rfl,s2,dH⟩;walk_at "gzn";rw[l2,aeX] at dH;exact q0 dH _ s2
variable{P:ado}{w:adM}{K:acS}{mg:Str->Option acY}{base:aeA}
inductive fm(H:Hp)(v:V)(c:Cl):Prop
 | mk(t a b:ac6)(_:v = .ref t)(_:H t=some (.tup [.ref a,.ref b]))(_:H a=some (.tup [ev c.1.1,.int c.1.2]))(_:H b=some (.tup [ev c.2.1,.int c.2.2]))
theorem fm.same{H H':Hp}{v:V}{r:Cl}(h:fm H v r)(s:ak H H'):fm H' v r:=let ⟨t,a,b,e,h1,h2,h3⟩:=h;⟨t,a,b,e,s _ _ h1,s _ _ h2,s _ _ h3⟩
theorem fm.put{H:Hp}{v:V}{r:Cl}{l:ac6}{ys:List V}{o:HO}(h:fm H v r)(hl:H l=some (.lst ys)):fm (upd H l o) v r:=by
 obtain⟨t,a,b,e,h1,h2,h3⟩:=h;have nl:∀ (z:ac6) (vs:List V),H z=some (.tup vs)->z≠l:=λz vs e1 e2=>by rw[e2,hl] at e1;cases e1
 exact⟨t,a,b,e,by rw[aB (nl _ _ h1)];exact h1,by rw[aB (nl _ _ h2)];exact h2,by rw[aB (nl _ _ h3)];exact h3⟩
theorem ZR{H H':Hp}{v:V}{o:Option P2}{l:ac6}{ys:List V}(h:de H v o)(hl:H l=some (.lst ys))(k:∀ b o,b≠l->H b=some o->H' b=some o):de H' v o:=by
 cases o with
 | none=>exact h
 | some p =>
  obtain⟨t,e,a⟩:=h;exact⟨t,e,k _ _ (λz=>by rw[z,hl] at a;cases a) a⟩
inductive pH(ps:List P2)(gs:List Gp)(i j:Nat)(H:Hp)(l:ac6):Prop
 | mk(zs:List V)(cs:List Cl)(_:H l=some (.lst zs))(_:ao (fm H) zs cs)(_:cs.length<=8 * i+j)(_:yS ps gs cs)(_:∀ i' j' g h,gs[i']?=some g->gs[j']?=some h->(i'<i∨(i'=i/\j'<j))->jA ps g h cs)
theorem pH.same{ps:List P2}{gs:List Gp}{i j:Nat}{H H':Hp}{l:ac6}(h:pH ps gs i j H l)(s:ak H H'):pH ps gs i j H' l:=let ⟨zs,cs,a,b,c1,c2,c3⟩:=h;⟨zs,cs,s _ _ a,b.imp λ_ _ x=>x.same s,c1,c2,c3⟩
inductive ZS(K:acS)(vs:List V)(H:Hp)(Q:VK)(a9:XK):Prop
 | mk(a b:ac6)(xs ys:List V)(ps:List P2)(gs:List Gp)(_:vs=[.ref a,.ref b])(_:ah K H a xs)(_:dm H xs ps)(_:cI ps)(_:ps.length<=900)(_:ah K H b ys)(_:ao (pE H) ys gs)(_:gs.length<=8)(_:(∀ g∈gs,g.2.length<=1000/\∀ m∈g.2,m.1<=ps.length))(_:∀ l zs cs H',ak H H'->H l=none->H' l=some (.lst zs)->ao (fm H') zs cs->cs.length<=64->yS ps gs cs->(∀ g∈gs,∀ h∈gs,jA ps g h cs)->Q (.ref l) H')
inductive LL(H:Hp)(a b l:ac6)(ps:List P2)(gs:List Gp)(i:Nat)(σ:St)(H1:Hp):Prop
 | mk(e1 e2 e3 e4 e5 e6:Option V)(_:σ=[some (.ref a),some (.ref b),some (.ref l),e1,e2,e3,e4,e5,e6])(_:ak H H1)(_:pH ps gs i 0 H1 l)
inductive ZT(H H0:Hp)(a b l:ac6)(nm mk tp:V)(ps:List P2)(gs:List Gp)(i j:Nat)(σ:St)(H1:Hp):Prop
 | mk(e4 e5 e6:Option V)(_:σ=[some (.ref a),some (.ref b),some (.ref l),some nm,some mk,some tp,e4,e5,e6])(_:ak H H1)(_:(∀ b o,b≠l->H0 b=some o->H1 b=some o))(_:pH ps gs i j H1 l)
theorem ZU(T:Tx K mg):aJ P w K mg base (aK P w) 3 T.uS.a T.uS.fd ["steps","groups"] (ZS K):=by
 refine okN T.uS.F lT (λvs H Q E h=>?_) (λaG A outer s H vs Q E hr h=>?_)
 .obtain⟨a,b,xs,ys,ps,gs,rfl,_⟩:=h;rfl
 .obtain⟨a,b,xs,ys,ps,gs,rfl,hS,hP,aj,hn,hG,hA,h7,hm,q⟩:=h;refine⟨_,(aq (aE (i:=2) lT.nd rfl (adv rfl) (cM ai))
  (aq (cL adK rfl (ck (aa 1)) (gv rfl (bW (bf (i:=3) lT.nd rfl (adv rfl)) (bW (bf (i:=4) lT.nd rfl (adv rfl)) gu))) (aq (aE (i:=5) lT.nd rfl (adv rfl) (aC T.uK (ZM T) hr az (ae (aa 0) (ae (aa 4) ai))))
    (au (cL adK rfl (ck (aa 1)) (gv rfl (bW (bf (i:=6) lT.nd rfl (adv rfl)) (bW (bf (i:=7) lT.nd rfl (adv rfl)) gu))) (aq (aE (i:=8) lT.nd rfl (adv rfl) (aC T.uL (ZQ T) hr az (ae (aa 5) (ae (aa 7) ai))))
      (au (aT (gH (aa 8)) (au (gp (mD aeq aey aez mE (aa 2) (ae (bE (ae (bE (ae (aa 3) (ae (ay (ay (aa 4) (ay (aa 8) ag)) ag) ai))) (ae (bE (ae (aa 6) (ae (ay (ay (aa 7) (ay (aa 8) ag)) ag) ai))) ai))) ai)))) aV)))))))
  (au (aH (aa 2))))),?_⟩
  have yl:=hA.len;refine aM (λσ H1=>∃ l,σ=[some (.ref a),some (.ref b),some (.ref l),none,none,none,none,none,none]/\ak H H1/\H l=none/\H1 l=some (.lst [])) (λN hN=>?_) ?_
  .walk_at "gzn";exact⟨by decide,λl hl=>hN _ _ ⟨l,rfl,aw hl,hl,ar⟩⟩
  rintro σ H1 ⟨l,rfl,s1,fl,hl⟩;refine aM (λσ H2=>LL H a b l ps gs ys.length σ H2) (λN hN=>?_) ?_
  .walk_at "gzn";refine⟨⟨_,s1.seq hG⟩,jm (xs:=ys) (LL H a b l ps gs) ⟨_,_,_,_,_,_,rfl,s1,[],[],hl,trivial,adw _,λ_ h=>(nomatch h),λ_ _ _ _ _ _ h=>by lia⟩ ?_ ?_ (λσ H' h=>hN _ _ h)⟩
   .rintro i σ H2 _ ⟨_,_,_,_,_,_,_,s2,_⟩;exact s2.seq hG
   .rintro i x σ H2 hx ⟨_,_,_,_,_,_,rfl,s2,h2⟩;obtain⟨r,hr,gg,k,zs,rfl,h3,h4,h5⟩:=hA.get hx;have AZ:=hm r (adl hr);refine jZ (ax.of (s2 _ _ h3)) ?_;walk_at "gzn";refine⟨a,k,xs,zs,ps,r.2,rfl,s2.seq hS,hP.same s2,ah.of (s2 _ _ h4),h5.imp λ_ _ x=>x.same s2,aj,hn,AZ.1,AZ.2,λtp us ts H3 s3 LM AG ZV gk TT=>?_⟩;have S3:=s2.trans s3;walk_at "gzn";refine⟨⟨_,S3.seq hG⟩,jm (xs:=ys) (ZT H H3 a b l (ev r.1) (.ref k) (.ref tp) ps gs i) ⟨_,_,_,rfl,S3,λ_ _ _ e=>e,h2.same s3⟩ ?_ ?_ ?_⟩
    .rintro j σ H4 _ ⟨_,_,_,_,s4,_,_⟩;exact s4.seq hG
    .rintro j y σ H4 hy ⟨_,_,_,rfl,s4,b4,ws,cs,h6,nE,h8,h9,pI⟩;obtain⟨r',vD,gg',k',ZW,rfl,g3,g4,g5⟩:=hA.get hy;have A0:=hm r' (adl vD);obtain⟨ls,_,hls,_⟩:=h2;have ZX:tp≠l:=λz=>by rw[z,hls] at LM;cases LM
     have vA:=b4 _ _ ZX AG;have nB:=ZV.imp λ_ _ x=>ZR x (s3 _ _ hls) b4;have LN:∀ vE:List Cl,(∀ i' j' g h,gs[i']?=some g->gs[j']?=some h->(i'<i∨(i'=i/\j'<j))->jA ps g h vE)->jA ps r r' vE->∀ i' j' g h,gs[i']?=some g->gs[j']?=some h->(i'<i∨(i'=i/\j'<j+1))->jA ps g h vE:=λvE ZY ZZ i' j' g h a1 a2 a3=>by
      by_cases hz:i'=i/\j'=j
      .obtain⟨rfl,rfl⟩:=hz;rw[hr] at a1;rw[vD] at a2;cases a1;cases a2;exact ZZ
      .exact ZY i' j' g h a1 a2 (by lia)
     refine jZ (ax.of (s4 _ _ g3)) ?_;walk_at "gzn";refine⟨tp,k',us,ZW,ts,r'.2,rfl,ah.of vA,nB,ah.of (s4 _ _ g4),g5.imp λ_ _ x=>x.same s4,λm cg=>by have:=A0.2 m cg;lia,λdH H5 s5=>?_,λjj m lo v kk e1 e2 e3 e4 p H5 s5 fp hp=>?_⟩
     .walk_at "gzn";exact⟨_,_,_,rfl,s4.trans s5,λb o hb e=>s5 _ _ (b4 b o hb e),pH.same ⟨ws,cs,h6,nE,by lia,h9,LN cs pI λm m1 n n1 hc=>absurd hc (VF TT AZ.2 A0.2 dH m1 n1)⟩ s5⟩
     .obtain⟨i',a',rfl,bP,hc⟩:=TT.ke (A0.2 m (adl e1)) e3 e2 e4;have rN:=s5 _ _ h6;have S5:=s4.trans s5;obtain⟨v1,yM,t1,w1,rfl,m1,_⟩:=(h5.imp λ_ _ x=>cU.same x S5).at bP;obtain⟨v2,yN,t2,w2,rfl,m2,_⟩:=(g5.imp λ_ _ x=>cU.same x S5).at e1;walk_at "gzn";refine⟨.inl ⟨rfl,_,ah.of rN⟩,aO (ax.of hp) (v:=.int i') rfl (aN (ah.of (S5 _ _ h4)) (eB yM) (aO (ax.of m1) (v:=.int a'.1) rfl ⟨bJ,λp1 vF=>?_⟩))⟩;have u1:=aw (o:=.tup [ev r.1,.int a'.1]) vF;refine aO (ax.of (u1 _ _ hp)) (v:=.int jj) rfl (aN (ah.of (u1 _ _ (S5 _ _ g4))) (eB yN) (aO (ax.of (u1 _ _ m2)) (v:=.int m.1) rfl ⟨bJ,λp2 xT=>⟨bJ,λp3 md=>?_⟩⟩));have u2:=aw (o:=.tup [ev r'.1,.int m.1]) xT;have u3:=aw (o:=.tup [.ref p1,.ref p2]) md;have U:=u1.trans (u2.trans u3);have rO:=U _ _ rN;have cq:fm (upd (upd (upd H5 p1 (.tup [ev r.1,.int a'.1])) p2 (.tup [ev r'.1,.int m.1])) p3 (.tup [.ref p1,.ref p2])) (.ref p3) ((r.1,a'.1),(r'.1,m.1)):=⟨p3,p1,p2,rfl,ar,u3 _ _ (u2 _ _ ar),u3 _ _ ar⟩
      have wl:ws.length<=100:=by have e8:=nE.len;have b1:=(ade.mp hr).1;have b2:=(ade.mp vD).1;lia
      refine⟨ws,rO,aeg wl (by decide),_,_,_,rfl,iL fl (S5.trans U),λb o hb e=>by rw[aB hb];exact U _ _ (s5 _ _ (b4 b o hb e)),_,cs++[((r.1,a'.1),(r'.1,m.1))],ar,ao.app (nE.imp λ_ _ x=>(x.same (s5.trans U)).put rO) ⟨cq.put rO,trivial⟩,by rw[adj,adh];lia,λc nM=>?_,LN _ (λi' j' g h a1 a2 a3=>(pI i' j' g h a1 a2 a3).more) λ_ _ _ _ _=>⟨_,ac1 _ (.head _),rfl,rfl⟩⟩;rcases adm.mp nM with z|z
      .exact h9 c z
      .rw[ady.mp z];exact⟨r,adl hr,r',adl vD,a',adl bP,m,adl e1,rfl,hc⟩
    .rintro σ H4 ⟨_,_,_,rfl,s4,_,ws,cs,h6,nE,h8,h9,pI⟩;exact⟨_,_,_,_,_,_,rfl,s4,ws,cs,h6,nE,by lia,h9,λi' j' g h a1 a2 a3=>pI i' j' g h a1 a2 (by have:=(ade.mp a2).1;lia)⟩
  rintro σ H2 ⟨_,_,_,_,_,_,rfl,s2,ws,cs,h6,nE,h8,h9,pI⟩;walk_at "gzn";exact q l ws cs H2 s2 fl h6 nE (by lia) h9 λg hg h hh=>by obtain⟨i',bP⟩:=aeG.mp hg;obtain⟨j',wV⟩:=aeG.mp hh;exact pI i' j' g h bP wV (.inl (by have:=(ade.mp bP).1;lia))
variable{P:ado}{w:adM}{K:acS}{mg:Str->Option acY}{base:aeA}
theorem LO{e:Int}{o:En}{Q:Bool->Prop}(h:Q (!decide (o=some e))):neT (.int e) (ev o) Q:=by
 cases o with
 | none=>exact h
 | some x =>
  show if ¬ e=x then Q true else Q false
  by_cases z:e=x
  .subst z;rw[if_neg (λh=>h rfl)];simpa using h
  .rw[if_pos z];have:(some x:En)≠some e:=λh=>z (Option.some.inj h).symm;simpa [this] using h
inductive Z0(H:Hp)(v:V)(s:En × Nat):Prop
 | mk(r:ac6)(_:v = .ref r)(_:H r=some (.tup [ev s.1,.int s.2]))
theorem ao.ints{zs:List V}{ns:List Int}(h:ao (λv (n:Int)=>v=V.int n) zs ns):zs=ns.map V.int:=by
 induction zs generalizing ns with
 | nil=>cases ns with|nil=>rfl|cons _ _=>exact h.elim
 | cons z zs ih=>cases ns with
  | nil=>exact h.elim
  | cons n ns=>rw[adq,<- ih h.2,h.1]
theorem vG:∀ {xs ys:List Int},xs.Nodup->(∀ x∈xs,x∈ys)->xs.length<=ys.length
 | [],_,_,_=>adw _
 | x::xs,ys,h,k=>by obtain⟨h1,h2⟩:=aer.mp h;have hx:=k x (.head _);have ih:=vG (ys:=ys.erase x) h2 λy hy=>(agi (λz=>h1 (by rw[<- z];exact hy))).mpr (k y (.tail _ hy));rw[afL hx] at ih;have:=afY hx;rw[ad9];lia
inductive Z1(K:acS)(vs:List V)(H:Hp)(Q:VK)(a9:XK):Prop
 | mk(l:ac6)(e:Int)(zs:List V)(cs:List Cl)(_:vs=[.ref l,.int e])(_:H l=some (.lst zs))(_:ao (fm H) zs cs)(_:cs.length<=64)(_:∀ r ys H',ak H H'->H r=none->H' r=some (.lst ys)->ao (fm H') ys (wo e cs)->Q (.ref r) H')
theorem Z2(T:Tx K mg):aJ P w K mg base (aK P w) 1 T.o9.a T.o9.fd ["pairs","eye"] (Z1 K):=by
 refine okN T.o9.F Xj (λvs H Q E h=>?_) (λaG A outer s H vs Q E hr h=>?_)
 .obtain⟨l,e,zs,cs,rfl,_⟩:=h;rfl
 .obtain⟨l,e,zs,cs,rfl,hl,hC,hn,q⟩:=h;refine⟨_,(au (aH (dE (b7.mk (fr:=[1]) (ys:=["eye"]) rfl (by decide +kernel) rfl (by decide +kernel) rfl rfl (.cons rfl .nil) (.cons rfl rfl rfl rfl .nil) (by decide) rfl) rfl (ck (aa 0)) (λC s2 H2 ex pn=>⟨(iO (PW.pt (jb (oT (aa 1) (cK (K:=K) (cK (K:=K) (aa 0) ag) ag)) (jL (oT (aa 1) (cK (K:=K) (cK (K:=K) (aa 0) ag) ag)))))),(aa 0)⟩)))),?_⟩;have zl:=hC.len;walk_at "gzn";refine⟨⟨_,ah.of hl⟩,cH fU (adb (by lia:zs.length<=64) (by decide)) (mU (R:=fm H) (R':=fm H) (p:=λc=>!jz e c) (f:=λc=>c) (ah.of hl) hC (λx c r Q h=>?_) (λx c hp r Q h=>?_) λys hy=>?_)⟩
  .obtain⟨t,a,b,rfl,h1,h2,h3⟩:=r;walk_at "gzn";refine aO (ax.of h1) (v:=.ref a) rfl (aO (ax.of h2) (v:=ev c.1.1) rfl (LO ?_));unfold jz at h;by_cases z:c.1.1=some e
   .rw[decide_eq_true z] at h ⊢;exact h
   .rw[decide_eq_false z] at h ⊢;refine aO (ax.of h1) (v:=.ref b) rfl (aO (ax.of h3) (v:=ev c.2.1) rfl (LO ?_));exact h
  .walk_at "gzn";exact h _ r
  .rw[adB];intro r hr;rw[ajg] at hy;exact q r ys _ (aw hr) hr ar (hy.imp λ_ _ x=>x.same (aw hr))
inductive Z5(K:acS)(vs:List V)(H:Hp)(Q:VK)(a9:XK):Prop
 | mk(v:V)(c:Cl)(_:vs=[v])(_:fm H v c)(_:∀ l (es:List Int) H',ak H H'->H l=none->H' l=some (.lst (es.map V.int))->(∀ e,e∈es↔jz e c=true)->es.length<=2->Q (.ref l) H')
theorem Z6(T:Tx K mg):aJ P w K mg base (aK P w) 1 T.pd.a T.pd.fd ["pair"] (Z5 K):=by
 refine okN T.pd.F Xk (λvs H Q E h=>?_) (λaG A outer s H vs Q E hr h=>?_)
 .obtain⟨v,c,rfl,_⟩:=h;rfl
 .obtain⟨v,c,rfl,⟨t,a,b,rfl,h1,h2,h3⟩,q⟩:=h;refine⟨_,(au (aH (Vw rfl (dE (b7.mk (fr:=[]) (ys:=[]) rfl (by decide +kernel) rfl (by decide +kernel) rfl rfl .nil .nil (by decide) rfl) rfl (vZ (aa 0)) (λC s2 H2 ex pn=>⟨(iO (gH (cK (K:=K) (aa 0) ag))),(cK (K:=K) (aa 0) ag)⟩)) (by rfl) T.vg sO (by rfl) T.Xr UR))),?_⟩;walk_at "gzn";refine⟨⟨_,ax.of h1⟩,cH (xs:=[.ref a,.ref b]) Ha bJ (mU (R:=Z0 H) (R':=λv (n:Int)=>v=V.int n) (p:=λs=>s.1.isSome) (f:=λs=>s.1.getD 0) (as:=[c.1,c.2]) (ax.of h1) ⟨⟨a,rfl,h2⟩,⟨b,rfl,h3⟩,trivial⟩ (λx s r Q h=>?_) (λx s hp r Q h=>?_) λzs hz=>?_)⟩
  .obtain⟨r,rfl,h4⟩:=r;walk_at "gzn";refine aO (ax.of h4) (v:=ev s.1) rfl ?_;cases hs:s.1 with
   | none=>rw[hs] at h;exact h
   | some x=>rw[hs] at h;exact h
  .obtain⟨r,rfl,h4⟩:=r;walk_at "gzn";refine aO (ax.of h4) (v:=ev s.1) rfl (h _ ?_);cases hs:s.1 with
   | none=>rw[hs] at hp;cases hp
   | some x=>rfl
  .rw[adB];intro l hl;rw[ao.ints hz];have u1:=aw (o:=.lst ((([c.1,c.2].filter λs=>s.1.isSome).map λs=>s.1.getD 0).map V.int)) hl;have hn:(([c.1,c.2].filter λs=>s.1.isSome).map λs=>s.1.getD 0).length<=2:=by rw[acV];exact ad7 _ _
   have hi:∀ e,e∈(([c.1,c.2].filter λs=>s.1.isSome).map λs=>s.1.getD 0)↔jz e c=true:=λe=>by
    rw[uk];constructor
    .intro h;obtain⟨s,hs,rfl⟩:=adf.mp h;obtain⟨m1,m2⟩:=adS.mp hs;obtain⟨x,hx⟩:=ae3.mp m2;rw[hx];rcases ac9.mp m1 with rfl|m1
     .exact .inl hx
     .rw[ady.mp m1] at hx;exact .inr hx
    .rintro (h|h)
     .exact adf.mpr ⟨c.1,adS.mpr ⟨.head _,by rw[h];rfl⟩,by rw[h];rfl⟩
     .exact adf.mpr ⟨c.2,adS.mpr ⟨.tail _ (.head _),by rw[h];rfl⟩,by rw[h];rfl⟩
   refine⟨l,rfl,_,ah.of ar,by lia,λws nd mem _ r hr=>?_⟩;exact q r ws _ (u1.trans (aw hr)) (u1.free hr) ar (λe=>(mem e).trans (hi e)) (adb (vG nd λx hx=>(mem x).mp hx) hn)
variable{P:ado}{w:adM}{K:acS}{mg:Str->Option acY}{base:aeA}
theorem Z7{cs:List Int}{ps:List Pa}{u d t:Int}{pp:List P2}{gs:List S2}(ht:1<=t)(bc:cs.length=t.toNat)(hk:f7 t ps)(es:cW u d ps (t-1).toNat=pp.map jy)(eg:eM ps t.toNat=gs.map some)(fL:dX pp (aR cs))(ky:∀ (k:Nat) s,gs[k]?=some s->bD s (aR cs k)) :
 eF cs ps=true/\(∀ k,k+1<cs.length->-d<=aR cs (k+1)-aR cs k/\aR cs (k+1)-aR cs k<=u)/\∀ p∈ps,AO cs p.1 p.2.1:=by
 have LP:∀ k,k<(t-1).toNat->∀ s∈(some (-d),some u)::sel ps "step" (k:Int),bD s (aR cs (k+1)-aR cs k):=by
  intro k dB;have e:(cW u d ps (t-1).toNat)[k]?=some (cJ (none,none) ((some (-d),some u)::sel ps "step" (k:Int))):=by unfold cW;rw[adi,adX dB];rfl
  rw[es,adi] at e;obtain⟨p,hp,e2⟩:=adO.mp e;have nF:=(ade.mp hp).1;have ek:aF pp k=p:=by unfold aF;rw[acU,hp];rfl
  have h:=fL k nF;rw[ek] at h;refine qx.mp ?_;rw[<- e2];exact⟨_,rfl,λa z=>by cases z;exact h.1,λb z=>by cases z;exact h.2⟩
 have Z8:∀ k,k<t.toNat->∀ s∈sel ps "at" (k:Int),bD s (aR cs k):=by
  intro k dB;have e:(eM ps t.toNat)[k]?=some (cJ (none,none) (sel ps "at" (k:Int))):=by unfold eM;rw[adi,adX dB];rfl
  rw[eg,adi] at e;obtain⟨s,hs,e2⟩:=adO.mp e;refine qx.mp ?_;rw[<- e2];exact⟨_,rfl,ky k s hs⟩
 have mem:∀ p∈ps,∀ (k:Str) (i:Int),p.1=k->p.2.1=i->p.2.2∈sel ps k i:=λp hp k i e1 e2=>by unfold sel;exact adf.mpr ⟨p,adS.mpr ⟨hp,by unfold qw;rw[decide_eq_true e1,decide_eq_true e2];rfl⟩,rfl⟩
 refine⟨ad1.mpr λp hp=>?_,λk dB=>?_,λp hp=>?_⟩
 .have h:=hk p hp;refine lF.mp ?_;by_cases hs:p.1 = "step"
  .rw[hs,x9] at h;have en:fH cs p.1 p.2.1=aR cs (p.2.1.toNat+1)-aR cs p.2.1.toNat:=by unfold fH aR;rw[if_pos hs,show (p.2.1+1).toNat=p.2.1.toNat+1 by lia]
   rw[en];exact LP p.2.1.toNat (by lia) _ (.tail _ (mem p hp _ _ hs (by lia)))
  .rw[ya hs] at h;have en:fH cs p.1 p.2.1=aR cs p.2.1.toNat:=by unfold fH aR;rw[if_neg hs]
   rw[en];exact Z8 p.2.1.toNat (by lia) _ (mem p hp _ _ h.1 (by lia))
 .have h:=LP k (by lia) _ (.head _);exact⟨h.1 _ rfl,h.2 _ rfl⟩
 .have h:=hk p hp;by_cases hs:p.1 = "step"
  .rw[hs,x9] at h;exact⟨by lia,by lia,λ_=>by lia⟩
  .rw[ya hs] at h;exact⟨by lia,by lia,λz=>absurd z hs⟩
theorem LQ{tb:Tb}{es cs:List Int}(h:meets (cu tb es) (aR cs)){i:Int}(hb:mi tb cs i):i∈es:=by obtain⟨r,hr,rfl,h2⟩:=hb;refine Decidable.byContradiction λz=>?_;have h3:=lF.mp (h _ (ib.mpr ⟨r,hr,z,rfl⟩));rw[show hold r.2.1 r.2.2 (aR cs r.1.2.toNat)=false from h2] at h3;cases h3
inductive Z9(K:acS)(vs:List V)(H:Hp)(Q:VK)(a9:XK):Prop
 | mk(c b w cl:ac6)(cs es:List Int)(e t u d m f:Int)(xs:List V)(ps:List Pa)(tb:Tb)(_:vs=[.ref c,.ref b,.ref w,.ref cl])(_:H c=some (.lst (cs.map V.int)))(_:ah K H b (mf e t u d m f))(_:me e t u d m f)(_:TabAt H w tb)(_:cB e t tb)(_:tb.length<=60)(_:ah K H cl xs)(_:dG H xs ps)(_:cs.length=t.toNat)(_:eF cs ps=true)(_:(∀ k,k+1<cs.length->-d<=aR cs (k+1)-aR cs k/\aR cs (k+1)-aR cs k<=u))(_:(∀ p∈ps,AO cs p.1 p.2.1))(_:(es.length:Int)<=m)(_:meets (cu tb es) (aR cs))(_:∀ H',ak H H'->Q (.bl true) H')
inductive rX(H:Hp)(c b w cl:ac6)(_:Nat)(σ:St)(H1:Hp):Prop
 | mk(e1 e2:Option V)(_:σ=[some (.ref c),some (.ref b),some (.ref w),some (.ref cl),e1,e2])(_:H1=H)
theorem aaa(T:Tx K mg):aJ P w K mg base (aK P w) 3 T.u6.a T.u6.fd ["_law_found","_law_shape_here","_law_told","_law_claim"] (Z9 K):=by
 refine okN T.u6.F Ar (λvs H Q E h=>?_) (λaG A outer s H vs Q E hr h=>?_)
 .obtain⟨c,b,w,cl,cs,es,e,t,u,d,m,f,xs,ps,tb,rfl,_⟩:=h;rfl
 .obtain⟨c,b,w,cl,cs,es,e,t,u,d,m,f,xs,ps,tb,rfl,hc,hb,sh,hT,hot,rW,hX,hP,bc,gM,bC,hat,vH,ky,q⟩:=h;refine⟨_,(aq (aT (PW.pt (eS (d8 (dq (bM nZ (by rfl) T.ph nY (ae (aa 0) (ae (nN (v:=.ty "list") rfl T.lW kU rfl) ai))))) (gO (oT (bM ed (by rfl) T.dZ dN (ae (aa 0) ai)) (ay (aa 1) ag))))) (au (aH dJ)) aV)
  (aq (cL adK rfl (ck (aa 0)) (bf (i:=4) Ar.nd rfl (adv rfl)) (au (aT (d8 (dq (aC T.uZ (XB T) hr az (ae (aa 4) ai)))) (au (aH dJ)) aV)))
  (aq (cL adK rfl (fv rfl T.fj (ae (aD eL (ay (aa 1) ag) ag) ai)) (bf (i:=5) Ar.nd rfl (adv rfl)) (au (aT (PW.pt (eS (lS (aD eL (ay (aa 0) (aD bb (aa 5) ag)) (ay (aa 0) (aa 5))) (ay (aa 1) ag)) (gO (lS (aD eL (ay (aa 0) (aa 5)) (ay (aa 0) (aD bb (aa 5) ag))) (ay (aa 1) ag))))) (au (aH dJ)) aV)))
  (au (aH (i6 (aC T.u5 (Zo T) hr az (ae (aa 0) (ae (aa 3) ai))) (jc (jg (lR iF) (bM ed (by rfl) T.dZ dN (ae (aC T.u0 (Zv T) hr az (ae (aa 2) (ae (aa 0) ai))) ai)) (ay (aa 1) ag) (fQ _))))))))),?_⟩
  have t1:=sh.ht;refine aM (rX H c b w cl 0) (λN hN=>?_) ?_
  .walk_at "gzn";refine wL hc ?_;walk_at "gzn";refine⟨_,dz (ah.of hc),aN hb (v:=.int t) rfl ?_⟩;rw[acV,bc];walk_at "gzn";rw[if_neg (λz=>z (by lia))];exact hN _ _ ⟨_,_,rfl,rfl⟩
  rintro σ H1 ⟨e1,e2,rfl,rfl⟩;refine aM (rX H1 c b w cl 0) (λN hN=>?_) ?_
  .walk_at "gzn";refine⟨⟨_,ah.of hc⟩,jm (xs:=cs.map V.int) (rX H1 c b w cl) ⟨_,_,rfl,rfl⟩ ?_ ?_ (λσ H2 ⟨e1,e2,h1,h2⟩=>hN _ _ ⟨e1,e2,h1,h2⟩)⟩
   .rintro i σ H2 _ ⟨_,_,_,rfl⟩;exact ah.of hc
   .rintro i x σ H2 hx ⟨e1,e2,rfl,rfl⟩;rw[adi] at hx;obtain⟨n,_,rfl⟩:=adO.mp hx;walk_at "gzn";refine⟨_,rfl,.inr ⟨_,rfl⟩,?_⟩;simp only[isWhole];walk_at "gzn";exact⟨_,_,rfl,rfl⟩
  rintro σ H2 ⟨e1,e2,rfl,rfl⟩;refine aM (rX H2 c b w cl 0) (λN hN=>?_) ?_
  .walk_at "gzn";refine aN hb (v:=.int t) rfl ?_;walk_at "gzn";refine⟨by lia,by lia,mF (rX H2 c b w cl) ⟨_,_,rfl,rfl⟩ ?_ (λσ H3 ⟨e1,e2,h1,h2⟩=>hN _ _ ⟨e1,e2,h1,h2⟩)⟩;rintro i σ H3 hi ⟨e1,e2,rfl,rfl⟩;walk_at "gzn";rw[show (0:Int)+(i:Int)=((i:Nat):Int) by lia];have hs:=bC i (by lia);unfold aR at hs;refine aN (ah.of hc) (int_at (by lia) (by lia)) (aN (ah.of hc) (int_at (by lia) (by lia)) ?_);walk_at "gzn";refine aN hb (v:=.int u) rfl ?_;walk_at "gzn";rw[show ((i:Int)+1).toNat=i+1 by lia,adU,if_neg (by lia)];refine aN (ah.of hc) (int_at (by lia) (by lia)) (aN (ah.of hc) (int_at (by lia) (by lia)) ?_);walk_at "gzn";refine aN hb (v:=.int d) rfl ?_;walk_at "gzn";rw[show ((i:Int)+1).toNat=i+1 by lia,adU,if_neg (by lia)];exact⟨_,_,rfl,rfl⟩
  rintro σ H3 ⟨e1,e2,rfl,rfl⟩;walk_at "gzn";refine⟨c,cl,cs,xs,ps,rfl,ah.of hc,hX,hP,hat,?_⟩;rw[gM];walk_at "gzn";refine⟨w,c,e,t,tb,cs,rfl,hT,hot,rW,ah.of hc,bc,λl bs H4 s4 _ hl nd hbs _=>⟨_,dz (ah.of hl),aN (s4.seq hb) (v:=.int m) rfl ?_⟩⟩;walk_at "gzn";have:=vG nd λi hi=>LQ ky ((hbs i).mp hi);rw[acV,decide_eq_true (by lia)];exact q _ s4
variable{P:ado}{w:adM}{K:acS}{mg:Str->Option acY}{base:aeA}
theorem A1(a:Bool):∀ (bs:List Bool),kP (.bl a) (bs.map V.bl)=bs.contains a
 | []=>rfl
 | b::bs=>by have ih:=A1 a bs;unfold kP at *;rw[adq,aeo,ih,ajS];cases a<;>cases b<;>rfl
theorem LR(bs:List Bool):(bs.map V.bl).all iJ=true:=by rw[aja];exact ad1.mpr λ_ _=>rfl
theorem ao.LS{zs:List V}{bs:List Bool}(h:ao (λv (b:Bool)=>v=V.bl b) zs bs):zs=bs.map V.bl:=by
 induction zs generalizing bs with
 | nil=>cases bs with|nil=>rfl|cons _ _=>exact h.elim
 | cons z zs ih=>cases bs with
  | nil=>exact h.elim
  | cons n bs=>rw[adq,<- ih h.2,h.1]
inductive aab(K:acS)(vs:List V)(H:Hp)(Q:VK)(a9:XK):Prop
 | mk(l:ac6)(n:Int)(ys:List V)(ss:List S2)(_:vs=[.ref l,.int n])(_:H l=some (.lst ys))(_:aU H ys ss)(_:ss.length<=1000)(_:(∃ s∈ss,hold s.1 s.2 n=true))(_:∀ H',ak H H'->Q (.bl true) H')
theorem aac(T:Tx K mg):aJ P w K mg base (aK P w) 2 T.ve.a T.ve.fd ["_law_some","_law_number"] (aab K):=by
 refine okN T.ve.F Xn (λvs H Q E h=>?_) (λaG A outer s H vs Q E hr h=>?_)
 .obtain⟨l,n,ys,ss,rfl,_⟩:=h;rfl
 .obtain⟨l,n,ys,ss,rfl,hl,hS,hn,⟨s0,pC,A2⟩,q⟩:=h;refine⟨_,(aq (aT (d8 (dq (bM nZ (by rfl) T.ph nY (ae (aa 0) (ae (nN (v:=.ty "list") rfl T.lW kU rfl) ai))))) (au (aH dJ)) aV)
  (au (aH (jg sH dJ (dE (b7.mk (fr:=[1]) (ys:=["_law_number"]) rfl (by decide +kernel) rfl (by decide +kernel) rfl rfl (.cons rfl .nil) (.cons rfl rfl rfl rfl .nil) (by decide) rfl) rfl (ck (aa 0)) (λC s2 H2 ex pn=>⟨dC,(aC T.nu (vz T) hr az (ae (aa 0) (ae (aa 1) ai)))⟩)) (by with_unfolding_all rfl))))),?_⟩
  have oG:=j9.mp hS;have yl:=oG.len;refine aM (λσ H1=>σ=[some (.ref l),some (.int n)]/\H1=H) (λN hN=>?_) ?_
  .walk_at "gzn";refine wL hl ?_;walk_at "gzn";exact hN _ _ ⟨rfl,rfl⟩
  rintro σ H1 ⟨rfl,rfl⟩;walk_at "gzn";refine⟨⟨_,ah.of hl⟩,cH fU (adb (by lia:ys.length<=1000) (by decide)) (mU (R:=λv (s:S2)=>aI H1 v s.1 s.2) (R':=λv (b:Bool)=>v=V.bl b) (p:=λ_=>true) (f:=λs=>hold s.1 s.2 n) (ah.of hl) oG (λx s r Q h=>?_) (λx s hp r Q h=>?_) λzs hz=>?_)⟩
  .walk_at "gzn";exact h
  .obtain⟨p,rfl,hp⟩:=r;walk_at "gzn";exact⟨p,_,_,n,rfl,ax.of hp,h _ rfl⟩
  .rw[adB];intro l2 ba;have ht:∀ xs:List S2,xs.filter (λ_=>true)=xs:=λxs=>ahw.mpr λ_ _=>rfl;rw[ht] at hz;rw[ao.LS hz];refine⟨l2,_,rfl,.inl (ah.of ar),rfl,LR _,?_⟩;rw[A1];have:(ss.map λs=>hold s.1 s.2 n).contains true=true:=ajh.mpr (adf.mpr ⟨s0,pC,A2⟩);rw[this];exact q _ (aw ba)
variable{P:ado}{w:adM}{K:acS}{mg:Str->Option acY}{base:aeA}
inductive LU(K:acS)(N:Nat)(vs:List V)(H:Hp)(Q:VK)(a9:XK):Prop
 | mk(l:ac6)(zs:List V)(cs:List Cl)(n:Nat)(_:vs=[.ref l,.int n])(_:n<N)(_:n<=7)(_:H l=some (.lst zs))(_:ao (fm H) zs cs)(_:cs.length<=64)(_:(∀ H',ak H H'->iI (n+1) cs->Q .non H'))(_:∀ r (es:List Int) H',ak H H'->H r=none->H' r=some (.lst (es.map V.int))->oM es cs->es.length<=n->Q (.ref r) H')
inductive b0(H:Hp)(l:ac6)(n:Nat)(cs:List Cl)(es:List Int)(i:Nat)(σ:St)(H1:Hp):Prop
 | mk(e1 e2:Option V)(_:σ=[some (.ref l),some (.int ((n+1:Nat):Int)),e1,e2])(_:ak H H1)(_:∀ e∈es.take i,iI (n+1) (wo e cs))
theorem aad(T:Tx K mg):∀ N,aJ P w K mg base (aK P w) (N+2) T.jF.a T.jF.fd ["pairs","most"] (LU K N):=by
 intro N
 induction N with
 | zero =>
  refine okN T.jF.F uE (λvs H Q E h=>?_) (λaG A outer s H vs Q E hr h=>?_)
  .obtain⟨l,zs,cs,n,rfl,hN,_⟩:=h;exact absurd hN (af2 _)
  .obtain⟨l,zs,cs,n,rfl,hN,_⟩:=h;exact absurd hN (af2 _)
 | succ N ih =>
  refine okN T.jF.F uE (λvs H Q E h=>?_) (λaG A outer s H vs Q E hr h=>?_)
  .obtain⟨l,zs,cs,n,rfl,_⟩:=h;rfl
  .obtain⟨l,zs,cs,n,rfl,hN,n7,hl,hC,hn,q0,q⟩:=h;refine⟨_,(aq (aT (cQ (bM ed (by rfl) T.dZ dN (ae (aa 0) ai)) ag) (au (aH (cM ai))) aV)
    (aq (aT (cQ (aa 1) ag) (au (aH cj)) aV)
    (aq (cL adK rfl (ck (kL (Z6 T) (hr.mono (by lia)) rfl T.pd.m T.pd.F.kp T.pd.b .nil az (ae (wC wD (aa 0) ag (λ_ _=>rfl)) ai))) (bf (i:=2) uE.nd rfl (adv rfl)) (aq (aE (i:=3) uE.nd rfl (adv rfl) (kL ih (hr.mono (by lia)) rfl T.jF.m T.jF.F.kp T.jF.b .nil az (ae (kL (Z2 T) (hr.mono (by lia)) rfl T.o9.m T.o9.F.kp T.o9.b .nil az (ae (aa 0) (ae (aa 2) ai))) (ae (aD eL (aa 1) ag) ai))))
      (au (aT (gH (aa 3)) (au (aH (aD nV (cM (ae (aa 2) ai)) (aa 3)))) aV))))
    (au (aH cj))))),?_⟩
   have zl:=hC.len;cases cs with
   | nil =>
    obtain rfl:zs=[]:=aeI.mp zl;walk_at "gzn";refine⟨_,dz (ah.of hl),?_⟩;walk_at "gzn";exact⟨by decide,λr hr=>q r [] _ (aw hr) hr ar (λc hc=>(nomatch hc)) (adw _)⟩
   | cons c cs =>
    obtain⟨z,zs,rfl⟩:∃ z z',zs=z::z':=by cases zs with|nil=>cases zl|cons z zs=>exact⟨z,zs,rfl⟩
    cases n with
    | zero =>
     walk_at "gzn";refine⟨_,dz (ah.of hl),?_⟩;refine bA (λh0=>absurd h0 (by rw[ad9];lia)) λ_=>?_;walk_at "gzn";exact q0 _ (ak.refl _) λ_ _=>trivial
    | succ n =>
     walk_at "gzn";refine⟨_,dz (ah.of hl),?_⟩;refine bA (λh0=>absurd h0 (by rw[ad9];lia)) λ_=>bA (λh0=>absurd h0 (by lia)) λ_=>?_;refine aN (ah.of hl) (v:=z) (show cO (z::zs) ((0:Nat):Int)=some z from eB rfl) ⟨z,c,rfl,hC.1,λk es H1 s1 _ hk vH qr=>?_⟩;walk_at "gzn";refine⟨⟨_,ah.of hk⟩,jm (xs:=es.map V.int) (b0 H1 l n (c::cs) es) ⟨_,_,rfl,ak.refl _,λ_ h=>(nomatch h)⟩ ?_ ?_ ?_⟩
     .rintro i σ H2 _ ⟨_,_,rfl,s2,_⟩;exact ah.of (s2 _ _ hk)
     .rintro i x σ H2 hx ⟨e1,e2,rfl,s2,dH⟩;rw[adi] at hx;obtain⟨e,he,rfl⟩:=adO.mp hx;have S2:=s1.trans s2;walk_at "gzn";refine⟨l,e,_,c::cs,rfl,S2 _ _ hl,hC.imp λ_ _ x=>x.same S2,hn,λr ys H3 s3 _ hr hy=>?_⟩;refine⟨r,ys,wo e (c::cs),n,by rw[show (((n+1:Nat):Int)-1)=(n:Int) by lia],by lia,by lia,hr,hy,adb (ad7 _ _) hn,λH4 s4 h4=>?_,λr2 es2 H4 s4 f4 AU hcv hle=>?_⟩
      .walk_at "gzn";refine⟨_,_,rfl,s2.trans (s3.trans s4),λe' oz=>?_⟩;rw[aeM,he] at oz;rcases adm.mp oz with z|z
       .exact dH e' z
       .obtain rfl:e'=e:=by simpa using z
        exact h4
      .walk_at "gzn";refine⟨by decide,λp hp=>⟨_,ar,_,(aw hp) _ _ AU,adb (by rw[acV,adh];lia:_<=20) (by decide),λp1 vF=>?_⟩⟩;have W:=s1.trans (s2.trans (s3.trans (s4.trans (aw (o:=.lst [.int e]) hp))));exact q p1 (e::es2) _ (W.trans (aw vF)) (W.free vF) ar (VL hcv) (by rw[ad9];lia)
     .rintro σ H2 ⟨e1,e2,rfl,s2,dH⟩;walk_at "gzn";refine q0 _ (s1.trans s2) λe he=>dH e ?_;rw[acV,aeX];exact (vH e).mpr he
variable{P:ado}{w:adM}{K:acS}{mg:Str->Option acY}{base:aeA}
theorem aae(T:Tx K mg):aJ P w K mg base (aK P w) 10 T.jF.a T.jF.fd ["pairs","most"] (LU K 8):=aad T 8
inductive Ans(H:Hp)(v:V)(sw gw:List W2)(tb:Tb)(mo:Int):Prop
 | may (r k:ac6) (cs:List Int) (pp:List P2) (gs:List S2) (es:List Int) (_:v = .ref r) (_:H r=some (.tup [.str "may",.ref k])) (_:H k=some (.lst (cs.map V.int))) (_:cs.length=gw.length) (_:sw=pp.map jy) (_:gw=gs.map some) (_:dX pp (aR cs)) (_:∀ t s,gs[t]?=some s->bD s (aR cs t)) (_:(es.length:Int)<=mo) (_:meets (cu tb es) (aR cs))
noncomputable def dt(gs:List S2):List Mk:=(adx gs.length).map λi=>(i,gs.getD i (none,none))
theorem LV{gs:List S2}{i:Nat}{m:Mk}(h:(dt gs)[i]?=some m):m.1=i/\gs[i]?=some m.2:=by
 unfold dt at h;rw[adi] at h;obtain⟨k,hk,rfl⟩:=adO.mp h;have hi:i<gs.length:=by
  have:=(ade.mp hk).1
  rwa [ads] at this
 rw[adX hi] at hk;cases hk;exact⟨rfl,by show gs[i]?=some (gs.getD i _);rw[acU,acW hi];rfl⟩
theorem LW{gs:List S2}{m:Mk}(h:m∈dt gs):m.1<gs.length/\gs[m.1]?=some m.2:=by obtain⟨i,hi⟩:=aeG.mp h;obtain⟨e1,e2⟩:=LV hi;rw[<- e1] at e2;exact⟨(ade.mp e2).1,e2⟩
theorem vI(gs:List S2):(dt gs).length=gs.length:=by unfold dt;rw[acV,ads]
theorem ao.LX{α:Type}{R:V->α->Prop}:∀ {xs:List V} {as:List α},xs.length=as.length->(∀ (i:Nat) x a,xs[i]?=some x->as[i]?=some a->R x a)->ao R xs as
 | [],[],_,_=>trivial
 | _::_,_::_,h,k=>⟨k 0 _ _ rfl rfl,ao.LX (by simpa using h) λi x a h1 h2=>k (i+1) x a h1 h2⟩
 | [],_::_,h,_=>by cases h
 | _::_,[],h,_=>by cases h
theorem LY:∀ (n:Nat) (cs:List Cl) (L:List Int),L.length<n->oM L cs->¬ iI n cs
 | 0,_,L,h,_,_=>af2 _ h
 | n+1,[],_,_,_,h=>h
 | n+1,c::cs,L,hl,hc,h=>by
  obtain⟨e,he,h1⟩:=hc c (.head _);refine LY n _ (L.erase e) ?_ (λc' jK=>?_) (h e h1)
  .rw[afL he];have:=afY he;lia
  .obtain⟨m1,m2⟩:=adS.mp jK;obtain⟨x,hx,h2⟩:=hc c' m1;refine⟨x,(agi λz=>?_).mpr hx,h2⟩;rw[z] at h2;rw[h2] at m2;cases m2
inductive aaf(K:acS)(B:ac6)(vs:List V)(H:Hp)(Q:VK)(a9:XK):Prop
 | mk(x p b:ac6)(e t u d m:Int)(xs:List V)(ps:List Pa)(tb:Tb)(L:List Int)(c0:Nat->Int)(_:vs=[.ref x,.ref b])(_:dr B H x e t u d m p tb)(_:cB e t tb)(_:tb.length<=60)(_:1<=t)(_:t<=12)(_:0<=e)(_:e<=7)(_:0<=m)(_:m<=7)(_:ah K H b xs)(_:dG H xs ps)(_:ps.length<=900)(_:f7 t ps)(_:(cW u d ps (t-1).toNat).any afS=false)(_:(eM ps t.toNat).any afS=false)(_:(L.length:Int)<=m)(_:meets (cu tb L) c0)(_:(∀ pp:List P2,cW u d ps (t-1).toNat=pp.map jy->dX pp c0))(_:(∀ gs:List S2,eM ps t.toNat=gs.map some->∀ (k:Nat) s,gs[k]?=some s->bD s (c0 k)))(_:∀ v H',ak H H'->Ans H' v (cW u d ps (t-1).toNat) (eM ps t.toNat) tb m->Q v H')
theorem aag(T:Tx K mg):aJ P w K mg base (aK P w) 11 T.x_ask.a T.x_ask.fd ["board","claim"] (aaf K T.aQ):=by
 refine jS T.x_ask.F oX (λvs H Q E h=>?_) (λaG A outer s H vs Q E hr h=>?_)
 .obtain⟨x,p,b,e,t,u,d,m,xs,ps,tb,L,c0,rfl,_⟩:=h;rfl
 .obtain⟨x,p,b,e,t,u,d,m,xs,ps,tb,L,c0,rfl,hb,hot,rW,t1,t2,e0,e7,m0,m7,hX,hP,hn,hk,hA,hB,hL,rY,mL,mM,Q1⟩:=h;refine⟨_,(aq (aE (i:=2) oX.nd rfl (adv rfl) (kL (AD T) (hr.mono (by decide)) rfl T.lV.m T.lV.F.kp T.lV.b .nil pZ (ae (aa 0) (ae (aa 1) ai))))
  (aq (aE (i:=3) oX.nd rfl (adv rfl) (kL (Yd T) (hr.mono (by decide)) rfl T.o7.m T.o7.F.kp T.o7.b .nil pZ (ae (aa 0) (ae (aa 1) ai))))
  (aq (aT (gQ (yP (fS hr)) cj (aa 2) (by with_unfolding_all rfl)) (au (aH (bE (ae cX (ae (bE (ae cX (ae x4 ai))) ai))))) aV)
  (aq (aT (gQ (yP (fS hr)) cj (aa 3) (by with_unfolding_all rfl)) (au (aH (bE (ae cX (ae (bE (ae cX (ae x4 ai))) ai))))) aV)
  (aq (aE (i:=4) oX.nd rfl (adv rfl) (V6 rfl (by rfl) T.lW (by rfl) T.vf (ae (aa 3) ai)))
  (aq (aE (i:=5) oX.nd rfl (adv rfl) (aC T.uS (ZU T) hr az (ae (aa 2) (ae (aD nV (cM (ae (bE (ae cj (ae (aa 4) ai))) ai)) (aC T.uR (Zz T) hr az (ae (aa 0) ai))) ai))))
  (aq (aE (i:=6) oX.nd rfl (adv rfl) (aC T.jF (aae T) hr az (ae (aa 5) (ae (fh rfl (aa 0) rfl) ai))))
  (aq (aT (ig (aa 6)) (au (aH (bE (ae cX (ae x4 ai))))) aV)
  (au (aH (bE (ae cX (ae (aC T.uJ (ZE T) hr az (ae (aa 2) (ae (aD nV (aa 4) (aC T.rC (K1 T) hr az (ae (aa 0) (ae (aa 6) ai)))) ai))) ai))))))))))))),?_⟩
  obtain⟨⟨dx,hx⟩,kvs,jU,hTA⟩:=id hb;have LZ:iq T.aQ H x e t u d m p kvs:=⟨⟨dx,hx⟩,jU⟩
  refine aM (λσ H1=>∃ s ys,σ=[some (.ref x),some (.ref b),some (.ref s),none,none,none,none]/\ak H H1/\H1 s=some (.lst ys)/\ao (fb H1) ys (cW u d ps (t-1).toNat)) (λN hN=>?_) ?_
  .walk_at "gzn";exact⟨x,p,b,e,t,u,d,m,kvs,xs,ps,rfl,LZ,t1,t2,hX,hP,hn,λz=>absurd hk z,λ_ l ys H1 s1 _ hl hW=>hN _ _ ⟨l,ys,rfl,s1,hl,hW⟩⟩
  rintro σ H1 ⟨s,ys,rfl,s1,hs,hW⟩;refine aM (λσ H2=>∃ gl zs,σ=[some (.ref x),some (.ref b),some (.ref s),some (.ref gl),none,none,none]/\ak H1 H2/\H2 gl=some (.lst zs)/\ao (fb H2) zs (eM ps t.toNat)) (λN hN=>?_) ?_
  .walk_at "gzn";exact⟨x,p,b,e,t,u,d,m,kvs,xs,ps,rfl,LZ.same s1,t1,t2,s1.seq hX,hP.same s1,hn,λz=>absurd hk z,λ_ l ys H2 s2 _ hl hW=>hN _ _ ⟨l,ys,rfl,s2,hl,hW⟩⟩
  rintro σ H2 ⟨gl,zs,rfl,s2,hgl,hG⟩;have Ax:=s1.trans s2;have dw:=s2 _ _ hs;have A3:=hW.imp λ_ _ r=>r.same s2;have wl:(cW u d ps (t-1).toNat).length=(t-1).toNat:=by unfold cW;rw[acV,ads]
  have gw:(eM ps t.toNat).length=t.toNat:=by unfold eM;rw[acV,ads]
  have yl:=hW.len;have zl:=hG.len;obtain⟨n1,n2,n3⟩:=yQ A3;obtain⟨k1,k2,k3⟩:=yQ hG;refine aM (λσ H3=>σ=[some (.ref x),some (.ref b),some (.ref s),some (.ref gl),none,none,none]/\H3=H2/\(cW u d ps (t-1).toNat).any afS=false) (λN hN=>?_) ?_
  .walk_at "gzn";refine⟨s,ys,rfl,rfl,ah.of dw,n1,?_⟩;rw[n2];rw[hA];walk_at "gzn";exact hN _ _ ⟨rfl,rfl,hA⟩
  rintro σ H3 ⟨rfl,rfl,hA⟩;refine aM (λσ H4=>σ=[some (.ref x),some (.ref b),some (.ref s),some (.ref gl),none,none,none]/\H4=H3/\(eM ps t.toNat).any afS=false) (λN hN=>?_) ?_
  .walk_at "gzn";refine⟨gl,zs,rfl,rfl,ah.of hgl,k1,?_⟩;rw[k2];rw[hB];walk_at "gzn";exact hN _ _ ⟨rfl,rfl,hB⟩
  rintro σ H4 ⟨rfl,rfl,hB⟩;obtain⟨pp,ep,aj⟩:=JL (f:=λ(k:Nat)=>cJ (none,none) ((some (-d),some u)::sel ps "step" (k:Int))) (λk s h=>VE h) (adx (t-1).toNat) λk hk e=>JM hA _ (adf.mpr ⟨k,hk,rfl⟩) e;replace ep:cW u d ps (t-1).toNat=pp.map jy:=ep;obtain⟨gs,eg⟩:=all_some _ (JM hB);have ppl:pp.length=(t-1).toNat:=by rw[<- wl,ep,acV]
  have gsl:gs.length=t.toNat:=by rw[<- gw,eg,acV]
  rw[ep] at A3;have L0:=JN A3;have A4:=hG;rw[eg] at A4;have M1:∀ mm∈dt gs,mm.1<=pp.length:=λmm hm=>by have:=(LW hm).1;lia
  have M2:∀ r∈tb,r.1.2.toNat<=pp.length:=λr hr=>by have ho:=hot.2 r hr;unfold j7 at ho;lia
  refine aM (λσ H5=>∃ k vs,σ=[some (.ref x),some (.ref b),some (.ref s),some (.ref gl),some (.ref k),none,none]/\ak H4 H5/\H5 k=some (.lst vs)/\ao (cU H5) vs (dt gs)) (λN hN=>?_) ?_
  .walk_at "gzn";refine⟨zs,ah.of hgl,λl vs H5 s5 _ hl hvl hv=>hN _ _ ⟨l,vs,rfl,s5,hl,ao.LX (by rw[hvl,vI,A4.len,acV]) λi y mk e1 e2=>?_⟩⟩;obtain⟨f1,f2⟩:=LV e2;obtain⟨z,hz,rz⟩:=A4.at (i:=i) (by rw[adi,f2];rfl);obtain⟨p0,rfl,_,h5⟩:=hv i y z e1 hz;obtain⟨pz,rfl,hpz⟩:=rz;exact⟨p0,pz,rfl,by rw[h5,f1],s5 _ _ hpz⟩
  rintro σ H5 ⟨k,vs,rfl,s5,hkl,hM⟩;have vl:=hM.len;rw[vI] at vl;have S5:=Ax.trans s5;have vn:vs.length<=12:=by lia
  refine aM (λσ H6=>∃ c ws cs,σ=[some (.ref x),some (.ref b),some (.ref s),some (.ref gl),some (.ref k),some (.ref c),none]/\ak H5 H6/\H6 c=some (.lst ws)/\ao (fm H6) ws cs/\cs.length<=64/\yS pp (kr (dt gs) e.toNat tb) cs/\∀ g∈kr (dt gs) e.toNat tb,∀ h∈kr (dt gs) e.toNat tb,jA pp g h cs) (λN hN=>?_) ?_
  .walk_at "gzn";refine⟨bJ,λt0 A6=>⟨by decide,λl0 da=>?_⟩⟩;have u1:=aw (o:=.tup [.non,.ref k]) A6;have u2:=aw (o:=.lst [.ref t0]) da;have U:=u1.trans u2;refine⟨x,p,e,t,u,d,m,tb,rfl,hb.same (S5.trans U),hot.1,by lia,λr hr=>(hot.2 r hr).2.1,e0,e7,λl ws H6 s6 _ hl L6=>?_⟩;have L8:=L6.len;unfold qN at L8;rw[acV,acV,ads] at L8;refine⟨l,rfl,[.ref t0],s6 _ _ ar,ws,hl,adb (by show 1+ws.length<=30;lia) (by decide),λc hc=>?_⟩;have u3:=aw (o:=.lst ([.ref t0]++ws)) hc;have S6:=s5.trans (U.trans (s6.trans u3));refine⟨s,c,ys,.ref t0::ws,pp,kr (dt gs) e.toNat tb,rfl,ah.of (S6 _ _ dw),L0.same S6,aj,by lia,ah.of ar,⟨⟨t0,k,vs,rfl,(u2.trans (s6.trans u3)) _ _ ar,(U.trans (s6.trans u3)) _ _ hkl,hM.imp λ_ _ r=>r.same (U.trans (s6.trans u3))⟩,L6.imp λ_ _ r=>r.same u3⟩,?_,λg hg=>?_,λl7 ws7 cs7 H7 s7 _ a1 a2 a3 a4 a5=>hN _ _ ⟨l7,ws7,cs7,rfl,U.trans (s6.trans (u3.trans s7)),a1,a2,a3,a4,a5⟩⟩
   .unfold kr qN;rw[ad9,acV,acV,ads];lia
   .rcases ac9.mp hg with rfl|z
    .exact⟨by show (dt gs).length<=1000;rw[vI];lia,M1⟩
    .obtain⟨g1,qK,rfl⟩:=adf.mp z;obtain⟨i,_,rfl⟩:=adf.mp qK;refine⟨adb (by unfold fI;rw[acV];exact adb (ad7 _ _) (by rw[j8];exact ac8 _)) (by lia:tb.length<=1000),λmm cg=>?_⟩;obtain⟨r,hr,_,rfl⟩:=yR.mp cg;exact M2 r hr
  rintro σ H6 ⟨c,ws,cs,rfl,s6,hc,hC,bc,hsnd,jT⟩;have S6:=S5.trans s6;refine aM (λσ H7=>∃ av,σ=[some (.ref x),some (.ref b),some (.ref s),some (.ref gl),some (.ref k),some (.ref c),some av]/\ak H6 H7/\((av = .non/\iI (m.toNat+1) cs) ∨ ∃ f es,av = .ref f/\H7 f=some (.lst (es.map V.int))/\oM es cs/\es.length<=m.toNat)) (λN hN=>?_) ?_
  .walk_at "gzn";refine⟨_,_,_,S6 _ _ hx,T.bN,T.lX,_,rfl,?_⟩;exact⟨c,ws,cs,m.toNat,by rw[afl m0],by lia,by lia,hc,hC,bc,λH7 s7 h7=>hN _ _ ⟨_,rfl,s7,.inl ⟨rfl,h7⟩⟩,λr es H7 s7 _ hr h1 h2=>hN _ _ ⟨_,rfl,s7,.inr ⟨r,es,rfl,hr,h1,h2⟩⟩⟩
  rintro σ H7 ⟨av,rfl,s7,⟨rfl,dH⟩|⟨f,es,rfl,hf,hcov,hle⟩⟩
  .refine absurd dH (LY _ _ L (by lia) λc hc=>?_);obtain⟨g1,qK,g2,qL,mm,cg,nn,hnn,rfl,nM⟩:=hsnd c hc;have L9:∀ g∈kr (dt gs) e.toNat tb,∀ q∈g.2,(∀ x,g.1=some x->x∉L)->q∈dt gs++cu tb L:=λg hg q hq hx=>by
    rcases ac9.mp hg with rfl|z
    .exact adD _ hq
    .obtain⟨g3,hg3,rfl⟩:=adf.mp z;obtain⟨i,_,rfl⟩:=adf.mp hg3;obtain⟨r,hr,e1,rfl⟩:=yR.mp hq;exact ac1 _ (ib.mpr ⟨r,hr,λz=>hx _ rfl (by rw[<- e1];exact z),rfl⟩)
   have allM:meets (dt gs++cu tb L) c0:=λq hq=>by
    rcases adm.mp hq with z|z
    .exact mM gs eg _ _ (LW z).2
    .exact rY q z
   have aah:∀ q∈dt gs++cu tb L,q.1<=pp.length:=λq hq=>by
    rcases adm.mp hq with z|z
    .exact M1 q z
    .obtain⟨r,hr,_,rfl⟩:=ib.mp z;exact M2 r hr
   refine Decidable.byContradiction λno=>Tc (mL pp ep) allM aah (L9 g1 qK mm cg λx hx hL=>no ⟨x,hL,uk.mpr (.inl hx)⟩) (L9 g2 qL nn hnn λx hx hL=>no ⟨x,hL,uk.mpr (.inr hx)⟩) nM
  .have S7:=S6.trans s7;have M3:∀ mm∈dt gs++cu tb es,mm.1<=pp.length:=λmm hm=>by
    rcases adm.mp hm with z|z
    .exact M1 mm z
    .obtain⟨r,hr,_,rfl⟩:=ib.mp z;exact M2 r hr
   have aai:=VM hot aj M3 hcov jT;walk_at "gzn";refine⟨x,p,f,e,t,u,d,m,tb,es,rfl,hb.same S7,hot.1,by lia,λr hr=>(hot.2 r hr).2.1,ah.of hf,by lia,λr rs H8 s8 hr pJ=>⟨r,rfl,vs,(s6.trans (s7.trans s8)) _ _ hkl,rs,hr,?_,λk2 dF=>?_⟩⟩
   .replace pJ:ao (cU H8) rs (cu tb es):=pJ;have e1:=pJ.len;have e2:(cu tb es).length<=tb.length:=by unfold cu;rw[acV];exact adb (ad7 _ _) (by rw[j8];exact ac8 _)
    exact adb (by lia:_<=100) (by decide)
   replace pJ:ao (cU H8) rs (cu tb es):=pJ;have u1:=aw (o:=.lst (vs++rs)) dF;have W:=s5.trans (s6.trans (s7.trans (s8.trans u1)));have X8:=S7.trans (s8.trans u1);have ml:(dt gs++cu tb es).length<=1000:=by
    rw[adj,vI];have e2:(cu tb es).length<=tb.length:=by unfold cu;rw[acV];exact adb (ad7 _ _) (by rw[j8];exact ac8 _)
    lia
   refine⟨s,k2,ys,vs++rs,pp,dt gs++cu tb es,rfl,ah.of (W _ _ dw),L0.same W,ah.of ar,ao.app (hM.imp λ_ _ r=>r.same (s6.trans (s7.trans (s8.trans u1)))) (pJ.imp λ_ _ r=>r.same u1),aj,by lia,ml,M3,λdH=>absurd aai dH,λl9 co H9 s9 f9 hl9 abM fL ky=>⟨bJ,λz hz=>?_⟩⟩;have u9:=aw (o:=.tup [.str "may",.ref l9]) hz;refine Q1 _ _ (X8.trans (s9.trans u9)) (.may z l9 co pp gs es rfl ar (u9 _ _ hl9) (by lia) ep eg fL (λtt ss hh=>?_) (by lia) λmm hm=>ky mm (ac1 _ hm));refine ky (tt,ss) (adD _ (aeG.mpr ⟨tt,?_⟩));have htt:=(ade.mp hh).1;unfold dt;rw[adi,adX htt];show some (tt,gs.getD tt _)=_;rw[acU,hh];rfl
variable{P:ado}{w:adM}{K:acS}{mg:Str->Option acY}{base:aeA}
theorem aaj{cs:List Int}{ps:List Pa}{u d t:Int}(ht:1<=t)(bc:cs.length=t.toNat)(bC:kF u d cs)(hm:eF cs ps=true) :
 (∀ k,k<(t-1).toNat->bZ (cJ (none,none) ((some (-d),some u)::sel ps "step" (k:Int))) (aR cs (k+1)-aR cs k))/\∀ k,k<t.toNat->bZ (cJ (none,none) (sel ps "at" (k:Int))) (aR cs k):=by
 have one:∀ (kd:Str) (k:Nat) s,s∈sel ps kd (k:Int)->bD s (fH cs kd (k:Int)):=λkd k s hs=>by obtain⟨p,hp,rfl⟩:=adf.mp hs;obtain⟨h1,h2⟩:=adS.mp hp;unfold qw at h2;rw[aeH,decide_eq_true_eq,decide_eq_true_eq] at h2;have:=ad1.mp hm p h1;rw[h2.1,h2.2] at this;exact lF.mpr this
 refine⟨λk hk=>qx.mpr λs hs=>?_,λk hk=>qx.mpr λs hs=>?_⟩
 .rcases ac9.mp hs with rfl|z
  .have:=bC k (by lia);exact⟨λa z=>by cases z;exact this.1,λb z=>by cases z;exact this.2⟩
  .exact one "step" k s z
 .have:=one "at" k s hs
  rwa [show fH cs "at" (k:Int)=aR cs k from if_neg (by decide)] at this
theorem aak{cs:List Int}{ps:List Pa}{u d t:Int}(ht:1<=t)(bc:cs.length=t.toNat)(bC:kF u d cs)(hm:eF cs ps=true) :
 (cW u d ps (t-1).toNat).any afS=false/\(eM ps t.toNat).any afS=false/\(∀ pp:List P2,cW u d ps (t-1).toNat=pp.map jy->dX pp (aR cs))/\∀ gs:List S2,eM ps t.toNat=gs.map some->∀ (k:Nat) s,gs[k]?=some s->bD s (aR cs k):=by
 obtain⟨h1,h2⟩:=aaj ht bc bC hm;refine⟨af8.mpr λw hw=>?_,af8.mpr λw hw=>?_,λpp Ma k hk=>?_,λgs Mb k s hs=>?_⟩
 .obtain⟨k,hk,rfl⟩:=adf.mp hw;obtain⟨s,e,_⟩:=h1 k (adY.mp hk);rw[e];exact adu
 .obtain⟨k,hk,rfl⟩:=adf.mp hw;obtain⟨s,e,_⟩:=h2 k (adY.mp hk);rw[e];exact adu
 .have hl:=congrArg List.length Ma;unfold cW at hl;rw[acV,acV,ads] at hl;have hg:=congrArg (λz=>z[k]?) Ma;unfold cW at hg;rw[adi,adX (by lia),adi,acW hk] at hg;have e:cJ (none,none) ((some (-d),some u)::sel ps "step" (k:Int))=jy pp[k]:=Option.some.inj hg;have:=h1 k (by lia);rw[e] at this;obtain⟨s,es,h3⟩:=this;have ep:aF pp k=pp[k]:=by unfold aF;rw[acU,acW hk];rfl
  rw[ep];cases es;exact⟨h3.1 _ rfl,h3.2 _ rfl⟩
 .have hg:=congrArg (λz=>z[k]?) Mb;have hk:=(ade.mp hs).1;have hl:=congrArg List.length Mb;unfold eM at hl;rw[acV,acV,ads] at hl;unfold eM at hg;rw[adi,adX (by lia),adi,hs] at hg;have e:cJ (none,none) (sel ps "at" (k:Int))=some s:=Option.some.inj hg;have:=h2 k (by lia);rw[e] at this;obtain⟨s',es,h3⟩:=this;cases es;exact h3
variable{P:ado}{w:adM}{K:acS}{mg:Str->Option acY}{base:aeA}
inductive aal(K:acS)(vs:List V)(H:Hp)(Q:VK)(a9:XK):Prop
 | mk(a b c:ac6)(ns cs:List Int)(e t u d m f:Int)(_:vs=[.ref a,.ref b,.ref c])(_:ah K H a (ns.map V.int))(_:gB ns)(_:ah K H b (mf e t u d m f))(_:me e t u d m f)(_:ah K H c (cs.map V.int))(_:cs.length=t.toNat)(_:∀ (l:ac6) (xs:List V) (ps:List Pa) (H':Hp),ak H H'->H l=none->H' l=some (.lst xs)->dG H' xs ps->f7 t ps->ps.length<=64->eF cs ps=true->Q (.ref l) H')
inductive Mc(H:Hp)(a b c l:ac6)(t:Int)(cs:List Int)(i:Nat)(σ:St)(H1:Hp):Prop
 | mk(xs:List V)(ps:List Pa)(e1 e2 e3 e4 e5:Option V)(_:σ=[some (.ref a),some (.ref b),some (.ref c),some (.ref l),e1,e2,e3,e4,e5])(_:ak H H1)(_:H1 l=some (.lst xs))(_:dG H1 xs ps)(_:f7 t ps)(_:ps.length=i)(_:eF cs ps=true)
theorem aam(T:Tx K mg):aJ P w K mg base (aK P w) 3 T.vd.a T.vd.fd ["_law_script","_law_shape_here","_law_course_here"] (aal K):=by
 refine okN T.vd.F kz (λvs H Q E h=>?_) (λaG A outer s H vs Q E hr h=>?_)
 .obtain⟨a,b,c,ns,cs,e,t,u,d,m,f,rfl,_⟩:=h;rfl
 .obtain⟨a,b,c,ns,cs,e,t,u,d,m,f,rfl,hS,hn,hb,sh,hc,bc,q⟩:=h;refine⟨_,(aq (aE (i:=3) kz.nd rfl (adv rfl) (cM ai))
  (aq (cL adK rfl (fv rfl T.fj (ae (aC T.bS (cc T) hr az (ae (aa 0) (ae ag (ae ag ai)))) ai)) (bf (i:=4) kz.nd rfl (adv rfl)) (aq (aE (i:=5) kz.nd rfl (adv rfl) (aD bb ag (aD ic ag (aa 4))))
    (aq (aE (i:=6) kz.nd rfl (adv rfl) (aC T.bS (cc T) hr az (ae (aa 0) (ae (aa 5) (ae (ay (aa 1) ag) ai)))))
    (aq (aE (i:=7) kz.nd rfl (adv rfl) cX)
    (aq (aE (i:=8) kz.nd rfl (adv rfl) (ay (aa 2) (aa 6)))
    (aq (aT (PW.pt (jb (qW (aD bb (aa 6) ag) (ay (aa 1) ag)) (jL (cQ (aC T.bS (cc T) hr az (ae (aa 0) (ae (aD bb (aa 5) ag) (ae ag ai)))) ag)))) (aq (aE (i:=7) kz.nd rfl (adv rfl) cX)
      (au (aE (i:=8) kz.nd rfl (adv rfl) (aD eL (ay (aa 2) (aD bb (aa 6) ag)) (aa 8))))) aV)
    (au (gp (mD aeq aey aez mE (aa 3) (ae (bE (ae (aa 7) (ae (aa 6) (ae (aC T.pe (AI T) hr az (ae (aa 0) (ae (aD bb (aa 5) ag) (ae (ay (aa 1) ag) (ae (aa 8) (ae dJ ai)))))) ai)))) ai))))))))))
  (au (aH (aa 3))))),?_⟩
  obtain⟨⟨e1,e2⟩,⟨t1,t2⟩,-,-,-,hf⟩:=id sh;refine aM (λσ H'=>∃ l,σ=[some (.ref a),some (.ref b),some (.ref c),some (.ref l),none,none,none,none,none]/\ak H H'/\H l=none/\H' l=some (.lst [])) (λN hN=>?_) ?_
  .walk_at "gzn";exact⟨by decide,λl hl=>hN _ _ ⟨l,rfl,aw hl,hl,ar⟩⟩
  rintro σ H1 ⟨l,rfl,s1,da,fg⟩;refine aM (λσ H'=>∃ n:Nat,Mc H a b c l t cs n σ H'/\n<=64) (λN hN=>?_) ?_
  .walk_at "gzn";refine⟨a,ns,_,_,rfl,s1.seq hS,hn,by lia,by lia,λpn pn1 pn2=>?_⟩;obtain⟨n,rfl⟩:∃ n:Nat,pn=(n:Int):=⟨pn.toNat,by lia⟩
   have Md:n<=64:=by lia
   walk_at "gzn";refine⟨by lia,by lia,mF (Mc H a b c l t cs) ⟨[],[],_,_,_,_,_,rfl,s1,fg,trivial,λ_ h=>(nomatch h),rfl,rfl⟩ ?_ (λσ H3 h=>hN _ _ ⟨n,h,Md⟩)⟩;rintro i σ H3 hi ⟨xs,ps,d1,d2,d3,d4,d5,rfl,s3,bz,hP,hk,hlen,gM⟩;have xl:=hP.len;refine aM (λσ H'=>∃ k:Int,σ=[some (.ref a),some (.ref b),some (.ref c),some (.ref l),some (.int (0+(i:Int))),some (.int k),d3,d4,d5]/\H'=H3/\190<=k/\k<=1000) (λN hN=>?_) ?_
   .walk_at "gzn";exact⟨ju (by decide) (by lia),hN _ _ ⟨_,rfl,rfl,by lia,by lia⟩⟩
   rintro σ H4 ⟨k,rfl,rfl,k1,k2⟩;refine aM (λσ H'=>∃ tr:Int,σ=[some (.ref a),some (.ref b),some (.ref c),some (.ref l),some (.int (0+(i:Int))),some (.int k),some (.int tr),d4,d5]/\H'=H4/\0<=tr/\tr<t) (λN hN=>?_) ?_
   .walk_at "gzn";refine aN (s3.seq hb) (v:=.int t) rfl ?_;refine⟨a,ns,_,_,rfl,s3.seq hS,hn,by lia,by lia,λp p1 p2=>?_⟩;exact hN _ _ ⟨p,rfl,rfl,by lia,by lia⟩
   rintro σ H5 ⟨tr,rfl,rfl,A7,tr2⟩;refine aM (λσ H'=>σ=[some (.ref a),some (.ref b),some (.ref c),some (.ref l),some (.int (0+(i:Int))),some (.int k),some (.int tr),some (.str "at"),d5]/\H'=H5) (λN hN=>?_) ?_
   .walk_at "gzn";exact hN _ _ ⟨rfl,rfl⟩
   rintro σ H6 ⟨rfl,rfl⟩;refine aM (λσ H'=>σ=[some (.ref a),some (.ref b),some (.ref c),some (.ref l),some (.int (0+(i:Int))),some (.int k),some (.int tr),some (.str "at"),some (.int (cs.getD tr.toNat 0))]/\H'=H6) (λN hN=>?_) ?_
   .walk_at "gzn";exact aN (s3.seq hc) (int_at A7 (by lia)) (hN _ _ ⟨rfl,rfl⟩)
   rintro σ H7 ⟨rfl,rfl⟩;refine aM (λσ H'=>∃ kd:Str,σ=[some (.ref a),some (.ref b),some (.ref c),some (.ref l),some (.int (0+(i:Int))),some (.int k),some (.int tr),some (.str kd),some (.int (fH cs kd tr))]/\H'=H7/\hasB t kd tr=true) (λN hN=>?_) ?_
   .have at0:hasB t "at" tr=true:=(ya (show ("at" : Str) ≠ "step" by decide)).mpr ⟨rfl,A7,tr2⟩;have no:N [some (.ref a),some (.ref b),some (.ref c),some (.ref l),some (.int (0+(i:Int))),some (.int k),some (.int tr),some (.str "at"),some (.int (cs.getD tr.toNat 0))] H7:=hN _ _ ⟨"at",by rw[show fH cs "at" tr=cs.getD tr.toNat 0 from if_neg (by decide)],rfl,at0⟩;walk_at "gzn";refine aN (s3.seq hb) (v:=.int t) rfl ?_;walk_at "gzn";refine bA (λh1=>?_) λ_=>no;refine⟨a,ns,_,_,rfl,s3.seq hS,hn,by lia,by lia,λr r1 r2=>?_⟩;walk_at "gzn";refine bA (λ_=>?_) λ_=>no;refine aN (s3.seq hc) (int_at (by lia) (by lia)) ?_;walk_at "gzn";exact hN _ _ ⟨"step",by rw[show fH cs "step" tr=cs.getD (tr+1).toNat 0-cs.getD tr.toNat 0 from if_pos rfl],rfl,x9.mpr ⟨A7,h1⟩⟩
   rintro σ H8 ⟨kd,rfl,rfl,hkd⟩;walk_at "gzn";refine⟨.inl ⟨rfl,_,ah.of bz⟩,aN (s3.seq hb) (v:=.int f) rfl ?_⟩;refine⟨a,ns,_,_,_,_,rfl,s3.seq hS,hn,by lia,hf,λw lo hi H9 s9 _ hw _ A6=>?_⟩;walk_at "gzn";refine⟨by decide,λt5 ht5=>?_⟩;have s6:=aw (o:=.tup [.str kd,.int tr,.ref w]) ht5;refine⟨_,s6 _ _ (s9 _ _ bz),aeg (by lia:xs.length<=64) (by decide),xs++[.ref t5],ps++[((kd,tr,lo,hi):Pa)],_,_,_,_,_,rfl,iL da (s3.trans (s9.trans s6)),ar,dG.put (ao.snoc (hP.same (s9.trans s6)) ⟨t5,w,rfl,ar,s6 _ _ hw⟩) (s6 _ _ (s9 _ _ bz)),λy hy=>?_,by rw[adj,adh,hlen],?_⟩
   .rcases adm.mp hy with h|h
    .exact hk y h
    .obtain rfl:y=((kd,tr,lo,hi):Pa):=by simpa using h
     exact hkd
   .unfold eF at gM ⊢;rw[ak4,gM,aio,aij,List.all_nil,alo];exact A6 rfl
  rintro σ H4 ⟨n,⟨xs,ps,_,_,_,_,_,rfl,s4,i8,hP,hk,hlen,gM⟩,Md⟩;walk_at "gzn";exact q l xs ps H4 s4 da i8 hP hk (by lia) gM
variable{P:ado}{w:adM}{K:acS}{mg:Str->Option acY}{base:aeA}
inductive Wd(K:acS)(B:ac6)(H:Hp)(b c w l x p:ac6)(cs:List Int)(e t u d m f:Int)(tb rs:Tb)(xs:List V)(ps:List Pa):Prop
 | mk(_:H b=some (.lst (mf e t u d m f)))(_:H c=some (.lst (cs.map V.int)))(_:TabAt H w tb)(_:H l=some (.lst xs))(_:dG H xs ps)(_:dr B H x e t u d m p rs)
theorem Wd.same{K:acS}{B:ac6}{H H':Hp}{b c w l x p:ac6}{cs:List Int}{e t u d m f:Int}{tb rs:Tb}{xs:List V}{ps:List Pa}(h:Wd K B H b c w l x p cs e t u d m f tb rs xs ps)(s:ak H H'):Wd K B H' b c w l x p cs e t u d m f tb rs xs ps:=let ⟨h2,h3,h4,h5,h6,h7⟩:=h;⟨s _ _ h2,s _ _ h3,h4.same s,s _ _ h5,h6.same s,h7.same s⟩
inductive aan(K:acS)(B:ac6)(vs:List V)(H:Hp)(Q:VK)(a9:XK):Prop
 | mk(b c w l x p:ac6)(cs:List Int)(e t u d m f fi tn:Int)(tb rs:Tb)(xs:List V)(ps:List Pa)(_:vs=[.ref x,.ref b,.ref w,.ref c,.ref l,.int tn])(_:Wd K B H b c w l x p cs e t u d m f tb rs xs ps)(_:me e t u d m f)(_:rs.Perm tb)(_:cB e t tb)(_:tb.length<=60)(_:cs.length=t.toNat)(_:kF u d cs)(_:f7 t ps)(_:ps.length<=64)(_:eF cs ps=true)(_:0<=tn)(_:tn<t)(_:vy e m fi cs tb)(_:∀ H',ak H H'->Q (.bl true) H')
inductive Me(H:Hp)(x b w c l h:ac6)(tn:Int)(rw:V)(_:Nat)(σ:St)(H1:Hp):Prop
 | mk(e1 e2:Option V)(_:σ=[some (.ref x),some (.ref b),some (.ref w),some (.ref c),some (.ref l),some (.int tn),some rw,some (.ref h),e1,e2])(_:ak H H1)
theorem Mf(T:Tx K mg):aJ P w K mg base (aK P w) 12 T.rH.a T.rH.fd ["_law_board_here","_law_shape_here","_law_told","_law_course_here","_law_claim","_law_turn"] (aan K T.aQ):=by
 refine okN T.rH.F q8 (λvs H Q E h=>?_) (λaG A outer s H vs Q E hr h=>?_)
 .obtain⟨b,c,w,l,x,p,cs,e,t,u,d,m,f,fi,tn,tb,rs,xs,ps,rfl,_⟩:=h;rfl
 .obtain⟨b,c,w,l,x,p,cs,e,t,u,d,m,f,fi,tn,tb,rs,xs,ps,rfl,W,sh,cT,aj,rW,bc,bC,hk,hlen,gM,vJ,tnt,jG,q⟩:=h;refine⟨_,(aq (aE (i:=6) q8.nd rfl (aiV rfl) (aC T.uV (YE T) hr az (ae (aa 0) ai)))
  (aq (aT (PW.pt (eS (d8 (dq (bM nZ (by rfl) T.ph nY (ae (aa 6) (ae (nN (v:=.ty "list") rfl T.lW kU rfl) ai))))) (eS (oT (bM ed (by rfl) T.dZ dN (ae (aa 6) ai)) (ay (aa 1) ag)) (gO (gQ (yP (fS hr)) cj (aa 6) (by with_unfolding_all rfl)))))) (au (aH dJ)) aV)
  (aq (aT (gQ sH dJ (dE (b7.mk (fr:=[6,3]) (ys:=["_law_rows","_law_course_here"]) rfl (by decide +kernel) rfl (by decide +kernel) rfl rfl (.cons rfl (.cons rfl .nil)) (.cons rfl rfl rfl rfl (.cons rfl rfl rfl rfl .nil)) (by decide) rfl) rfl (fv rfl T.fj (ae (ay (aa 1) ag) ai)) (λC s2 H2 ex pn=>⟨dC,(aC T.nu (vz T) hr az (ae (cK (K:=K) (aa 1) (aa 0)) (ae (cK (K:=K) (aa 2) (aa 0)) ai)))⟩)) (by with_unfolding_all rfl)) (au (aH dJ)) aV)
  (aq (aE (i:=7) q8.nd rfl (adv rfl) (sE FZ (by rfl) T.lW kU (ae (aa 3) ai)))
  (aq (aT (PW.pt (eS (d8 (dq (aC T.ve (aac T) hr az (ae (aC T.uU (YB T) hr az (ae (aa 0) (ae (aa 5) ai))) (ae (ay (aa 3) (aa 5)) ai))))) (gO (gQ QL (aC T.uQ (YQ T) hr az (ae (aa 0) (ae (aa 7) ai))) dJ (fQ _))))) (au (aH dJ)) aV)
  (aq (cL adK rfl (ck (cM (ae (aa 4) (ae (cM ai) ai)))) (bf (i:=8) q8.nd rfl (adv rfl)) (aq (aE (i:=9) q8.nd rfl (adv rfl) (aC T.x_ask (aag T) hr az (ae (aa 0) (ae (sE FZ (by rfl) T.lW kU (ae (aa 8) ai)) ai))))
    (aq (aT (PW.pt (eS (d8 (dq (bM nZ (by rfl) T.ph nY (ae (aa 9) (ae (nN (v:=.ty "tuple") rfl T.Xs Qo rfl) ai))))) (eS (oT (bM ed (by rfl) T.dZ dN (ae (aa 9) ai)) ag) (gO (oT (ay (aa 9) ag) cX))))) (au (aH dJ)) aV)
    (au (aT (d8 (dq (aC T.u6 (aaa T) hr az (ae (ay (aa 9) ag) (ae (aa 1) (ae (aa 2) (ae (aa 8) ai))))))) (au (aH dJ)) aV)))))
  (au (aH (i6 (jg (Hc hr.units) (aa 7) (aa 3) (fQ _)) (jc (aC T.u7 (Zs T) hr az (ae (aa 0) (ae (aa 2) ai))))))))))))),?_⟩
  obtain⟨he,ht,⟨u1,-⟩,⟨d1,-⟩,hm,-⟩:=id sh;obtain⟨hb,hc,hT,hl,hP,hB⟩:=id W;have iu:cB e t rs:=⟨(cT.map _).nodup_iff.mpr aj.1,λr hr=>aj.2 r (cT.mem_iff.mp hr)⟩
  have rl:=cT.length_eq;have hL:=Kq (fi:=fi) he.1 hm.1;have rY:meets (cu rs (ij e m fi)) (aR cs):=λq hq=>by obtain⟨r,hr,hn,rfl⟩:=ib.mp hq;have ho:=aj.2 r (cT.mem_iff.mp hr);exact lF.mpr (jG r (cT.mem_iff.mp hr) λz=>hn ((uz he.1).mpr ⟨ho.1,z⟩))
  have fL:dX (ad4 (t-1).toNat (-d,u)) (aR cs):=λk hk=>by rw[aek] at hk;have:=bC k (by lia);rw[show aF (ad4 (t-1).toNat (-d,u)) k=(-d,u) by unfold aF;rw[acU,ae8,if_pos hk];rfl];exact this
  obtain⟨ss,hss,cG⟩:=WL he.1 ht.1 hm.1 hm.2 u1 d1 iu fL rY;refine aM (λσ H1=>∃ rw ys,σ=[some (.ref x),some (.ref b),some (.ref w),some (.ref c),some (.ref l),some (.int tn),some (.ref rw),none,none,none]/\ak H H1/\H1 rw=some (.lst ys)/\ao (λv (k:Nat)=>lA H1 v ((gf e t u d m rs).map λss=>a8 ss k)) ys (adx t.toNat)) (λN hN=>?_) ?_
  .walk_at "gzn";exact⟨x,p,e,t,u,d,m,rs,rfl,hB,he,ht,u1,d1,iu,by lia,λl2 ys H1 s1 ba hz=>hN _ _ ⟨l2,ys,rfl,s1,ba,hz⟩⟩
  rintro σ H1 ⟨rw,ys,rfl,s1,hrw,hz⟩;have yl:=hz.len;rw[ads] at yl;have Mg:∀ (k:Nat) v,ys[k]?=some v->∃ (lo hi:En),aI H1 v lo hi/\hold lo hi (aR cs k)=true:=λk v hv=>by
   obtain⟨k2,dF,hh⟩:=hz.get hv;have vq:=(ade.mp hv).1;rw[adX (by lia)] at dF;cases dF;have ne:((gf e t u d m rs).map λss=>a8 ss k)≠[]:=λz=>by
    have:ss∈([]:List (List S2)):=by rw[<- List.map_eq_nil_iff.mp z];exact hss
    cases this
   obtain⟨lo,hi,h1,h2,h3⟩:=hh.2 ne;have mem:a8 ss k∈(gf e t u d m rs).map λss=>a8 ss k:=adf.mpr ⟨ss,hss,rfl⟩;have i1:=cG k (by lia);have a1:=h2.2 _ (adf.mpr ⟨_,mem,rfl⟩);have a2:=h3.2 _ (adf.mpr ⟨_,mem,rfl⟩);refine⟨lo,hi,h1,(lF (s:=(lo,hi))).mp ⟨λz hz=>?_,λz hz=>?_⟩⟩
   .rcases a1 with e1|⟨x1,y1,e1,e2,h4⟩
    .cases e1.symm.trans hz
    .cases e1.symm.trans hz;have:=i1.1 y1 e2;lia
   .rcases a2 with e1|⟨x1,y1,e1,e2,h4⟩
    .cases e1.symm.trans hz
    .cases e2.symm.trans hz;have:=i1.2 x1 e1;lia
  refine aM (λσ H2=>σ=[some (.ref x),some (.ref b),some (.ref w),some (.ref c),some (.ref l),some (.int tn),some (.ref rw),none,none,none]/\H2=H1) (λN hN=>?_) ?_
  .walk_at "gzn";refine wL hrw ?_;walk_at "gzn";refine⟨_,dz (ah.of hrw),aN (ah.of (s1 _ _ hb)) (v:=.int t) rfl ?_⟩;walk_at "gzn";refine bA (λz=>absurd (by lia) z) λ_=>?_;have tup:∀ v∈ys,∃ (a:ac6) (us:List V),v = .ref a/\H1 a=some (.tup us):=λv hv=>by obtain⟨k,hk⟩:=aeG.mp hv;obtain⟨lo,hi,⟨a,e1,h1⟩,_⟩:=Mg k v hk;exact⟨a,_,e1,h1⟩
   refine⟨rw,ys,rfl,rfl,ah.of hrw,λv hv=>.inr (tup v hv),_,rfl,?_⟩;have nn:ys.any ng=false:=af8.mpr λv hv=>by obtain⟨a,us,rfl,_⟩:=tup v hv;exact adu
   rw[nn];walk_at "gzn";exact hN _ _ ⟨rfl,rfl⟩
  rintro σ H2 ⟨rfl,rfl⟩;refine aM (λσ H3=>σ=[some (.ref x),some (.ref b),some (.ref w),some (.ref c),some (.ref l),some (.int tn),some (.ref rw),none,none,none]/\ak H2 H3) (λN hN=>?_) ?_
  .walk_at "gzn";refine aN (ah.of (s1 _ _ hb)) (v:=.int t) rfl ⟨t,rfl,by lia,by lia,cH ly (by rw[acV,ads];exact adb (by lia:_<=12) (by decide)) (fF (R:=λ_ x (k:Nat)=>x=V.int ((0:Int)+k)) (R':=λ_ v (b:Bool)=>v=V.bl b) (f:=λ(_:Nat)=>true) (λ_ _ _ _ _ h=>h) (λ_ _ _ _ _ h=>h) (ao.ix _) (bs:=[]) trivial (λ_ _=>trivial) (λx k _ H3 s3 r Q h=>?_) (λx k AF H3 s3 r Q h=>?_) λH3 zs s3 cF=>?_)⟩
   .walk_at "gz";exact h
   .subst r;have vq:=adY.mp AF;have hv:ys[k]?=some ys[k]:=acW (by lia);obtain⟨lo,hi,⟨a,e1,h1⟩,hh⟩:=Mg k _ hv;rw[e1] at hv;walk_at "gz";rw[ahf];refine aN (ah.of (s3 _ _ hrw)) (eB hv) (aN (ah.of ((s1.trans s3) _ _ hc)) (int_at (by lia) (by lia)) ?_);refine⟨a,lo,hi,_,rfl,ax.of (s3 _ _ h1),?_⟩;rw[adU,show hold lo hi (cs.getD k 0)=true from hh];exact h _ _ (ak.refl _) rfl
   .intro l2 ba;rw[adB] at cF;rw[ao.LS cF];refine⟨l2,_,rfl,.inl (ah.of ar),rfl,LR _,_,rfl,?_⟩;have cf:((adx t.toNat).map λ(_:Nat)=>true).contains false=false:=by rw[agX];intro z;obtain⟨i,_,hi⟩:=adf.mp (ajh.mp z);cases hi
    rw[A1,cf];walk_at "gzn";exact hN _ _ ⟨rfl,s3.trans (aw ba)⟩
  rintro σ H3 ⟨rfl,s3⟩;have S3:=s1.trans s3;refine aM (λσ H4=>∃ h,σ=[some (.ref x),some (.ref b),some (.ref w),some (.ref c),some (.ref l),some (.int tn),some (.ref rw),some (.ref h),none,none]/\ak H3 H4/\H4 h=some (.lst (cs.map V.int))) (λN hN=>?_) ?_
  .walk_at "gzn";exact⟨_,.inl (ah.of (S3 _ _ hc)),λh hh=>hN _ _ ⟨h,rfl,aw hh,ar⟩⟩
  rintro σ H4 ⟨h,rfl,s4,hh⟩;have S4:=S3.trans s4;refine aM (λσ H5=>σ=[some (.ref x),some (.ref b),some (.ref w),some (.ref c),some (.ref l),some (.int tn),some (.ref rw),some (.ref h),none,none]/\ak H4 H5) (λN hN=>?_) ?_
  .walk_at "gzn";refine⟨x,p,e,t,u,d,m,rs,tn.toNat,by rw[afl vJ],hB.same S4,he,ht,u1,d1,iu,by lia,by lia,λl3 ys3 H5 s5 _ bz hS3=>?_⟩;refine aN (ah.of ((S4.trans s5) _ _ hc)) (int_at vJ (by lia)) ?_;have hpc:cI (ad4 (t-1).toNat (-d,u)):=λp hp=>by rw[aic hp];show -d<=u;lia
   have AR:∀ s∈(gf e t u d m rs).map λss=>a8 ss tn.toNat,e9 s:=λs hs=>by obtain⟨s2,h2,rfl⟩:=adf.mp hs;obtain⟨ch,_,h3⟩:=aft.mp h2;refine (IX hpc (λq hq=>?_) h3 (by rw[aek];lia)).1;obtain⟨r,hr,_,rfl⟩:=ib.mp hq;have ho:=iu.2 r hr;unfold j7 at ho;rw[aek];show r.1.2.toNat<=_;lia
   have G:=RB AR;have gl:=RF ((gf e t u d m rs).map λss=>a8 ss tn.toNat);have tl:=yt (t:=t) (u:=u) (d:=d) (m:=m) (tb:=rs) he.1 he.2;rw[acV] at gl;have gh:=G.held (cs.getD tn.toNat 0);have an:(((gf e t u d m rs).map λss=>a8 ss tn.toNat).any λs=>hs s (cs.getD tn.toNat 0))=true:=aes.mpr ⟨_,adf.mpr ⟨ss,hss,rfl⟩,lF.mp (cG tn.toNat (by lia))⟩;rw[an] at gh;obtain⟨s0,pC,A2⟩:=aes.mp gh;refine⟨l3,_,ys3,_,rfl,bz,hS3,by lia,⟨s0,pC,A2⟩,λH6 s6=>?_⟩;have S6:=s5.trans s6;walk_at "gzn";refine⟨x,p,h,e,t,u,d,m,rs,cs,rfl,hB.same (S4.trans S6),he,ht,u1,d1,iu,by lia,ah.of (S6 _ _ hh),bc,λH7 s7=>?_⟩;have f1:vt u d cs (t-1).toNat=true:=ad1.mpr λk hk=>by have:=bC k (by have:=adY.mp hk;lia);exact (lF (s:=(some (-d),some u))).mp ⟨λa z=>by cases z;exact this.1,λb z=>by cases z;exact this.2⟩
   have f2:((t8 e rs cs).length:Int)<=m:=by
    have nd:(t8 e rs cs).Nodup:=List.Nodup.sublist ajE (aib _ (λa b h=>λz=>h (Int.ofNat.inj z)) aky);have:=vG nd (ys:=ij e m fi) λi hi=>by obtain⟨_,h2⟩:=adS.mp hi;exact LQ rY (Us.mp h2)
    lia
   refine⟨_,rfl,?_⟩;rw[f1,decide_eq_true f2];walk_at "gzn";exact hN _ _ ⟨rfl,S6.trans s7⟩
  rintro σ H5 ⟨rfl,s5⟩;have S5:=S4.trans s5;refine aM (Me H5 x b w c l h tn (.ref rw) 0) (λN hN=>?_) ?_
  .walk_at "gzn";refine⟨adw _,λo ho=>⟨bJ,λo2 ho2=>⟨⟨_,ah.of ar⟩,?_⟩⟩⟩;have uo:=aw (o:=.lst []) ho;have Mh:=aw (o:=.lst [.ref l,.ref o]) ho2;have U:=uo.trans Mh;have h2:upd (upd H5 o (.lst [])) o2 (.lst [.ref l,.ref o]) o2=some (.lst [.ref l,.ref o]):=ar;have h0:=Mh _ _ (ar (H:=H5) (a:=o) (o:=.lst []));generalize upd (upd H5 o (.lst [])) o2 (.lst [.ref l,.ref o])=G at U h2 h0;refine jm (xs:=[.ref l,.ref o]) (Me G x b w c l h tn (.ref rw)) ⟨_,_,rfl,ak.refl _⟩ ?_ ?_ (λσ H6 ⟨e1,e2,h1,h2⟩=>hN _ _ ⟨e1,e2,h1,U.trans h2⟩)
   .rintro i σ H6 _ ⟨_,_,rfl,s6⟩;exact ah.of (s6 _ _ h2)
   .rintro i v σ H6 hv ⟨e1,e2,rfl,s6⟩;have S6:=S5.trans (U.trans s6);have zq:∃ (z:ac6) (zs:List V) (qs:List Pa),v = .ref z/\H6 z=some (.lst zs)/\dG H6 zs qs/\f7 t qs/\qs.length<=64/\eF cs qs=true:=by
     match i,hv with
     | 0,hv=>cases hv;exact⟨l,xs,ps,rfl,S6 _ _ hl,hP.same S6,hk,hlen,gM⟩
     | 1,hv=>cases hv;exact⟨o,[],[],rfl,s6 _ _ h0,trivial,λ_ h=>(nomatch h),adw _,rfl⟩
     | i+2,hv=>simp at hv
    obtain⟨z,zs,qs,rfl,Mi,hQ,okq,lenq,metq⟩:=zq;obtain⟨y1,y2,y3,y4⟩:=aak ht.1 bc bC metq;have wl:(eM qs t.toNat).length=t.toNat:=by unfold eM;rw[acV,ads]
    walk_at "gzn";refine⟨zs,.inl (ah.of Mi),λo3 ho3=>?_⟩;have A8:=aw (o:=.lst zs) ho3;have S7:=S6.trans A8;refine⟨x,p,o3,e,t,u,d,m,zs,qs,rs,ij e m fi,aR cs,rfl,hB.same S7,iu,by lia,ht.1,ht.2,by lia,he.2,by lia,by lia,ah.of ar,hQ.same A8,by lia,okq,y1,y2,hL,rY,y3,y4,λv H8 s8 hA=>?_⟩;obtain⟨r,k,co,pp,gs,es,rfl,h1,h3,h4,es1,eg,aao,ky,vH,i7⟩:=hA;have S8:=S7.trans s8;have U8:=A8.trans s8;refine Qw h1 ?_;walk_at "gzn";refine⟨_,QG (ax.of h1),?_⟩;refine bA (λz=>absurd rfl z) λ_=>?_;refine aO (ax.of h1) (v:=.str "may") rfl ?_;walk_at "gzn";obtain⟨a1,a2,a3⟩:=Z7 ht.1 (h4.trans wl) okq es1 eg aao ky;refine aO (ax.of h1) (v:=.ref k) rfl ⟨k,b,w,z,co,es,e,t,u,d,m,f,zs,qs,tb,rfl,h3,ah.of (S8 _ _ hb),sh,hT.same S8,aj,rW,ah.of (U8 _ _ Mi),hQ.same U8,h4.trans wl,a1,a2,a3,vH,λmm hm=>i7 mm (by obtain⟨r1,fJ,z1,rfl⟩:=ib.mp hm;exact ib.mpr ⟨r1,cT.mem_iff.mpr fJ,z1,rfl⟩),λH9 s9=>?_⟩;walk_at "gzn";exact⟨_,_,rfl,s6.trans (U8.trans s9)⟩
  rintro σ H6 ⟨_,_,rfl,s6⟩;have S6:=S5.trans s6;walk_at "gzn";refine Ir (.lst (ah.of ((s5.trans s6) _ _ hh)) (xJ cs)) (.lst (ah.of (S6 _ _ hc)) (xJ cs)) (Gd.lst (n:=0) λdd hd=>by obtain⟨i,_,rfl⟩:=adf.mp hd;exact Gd.int _) (by decide) ?_;walk_at "gzn";exact⟨x,p,w,e,t,u,d,m,tb,rs,rfl,hB.same S6,hT.same S6,aj,cT,by lia,λH7 s7=>q _ (S6.trans s7)⟩
variable{P:ado}{w:adM}{K:acS}{mg:Str->Option acY}{base:aeA}
inductive vK(K:acS)(vs:List V)(H:Hp)(Q:VK)(a9:XK):Prop
 | mk(a:ac6)(ns:List Int)(_:vs=[.ref a])(_:ah K H a (ns.map V.int))(_:gB ns)(_:∀ H',Q (.bl true) H')
theorem aap(T:Tx K mg):aJ P w K mg base (aK P w) 13 T.rJ.a T.rJ.fd ["_law_script"] (vK K):=by
 refine okN T.rJ.F lU (λvs H Q E h=>?_) (λaG A outer s H vs Q E hr h=>?_)
 .obtain⟨a,ns,rfl,_⟩:=h;rfl
 .obtain⟨a,ns,rfl,hS,hn,q⟩:=h;refine⟨_,(aq (aE (i:=1) lU.nd rfl (adv rfl) (aC T.uW (YW T) hr az (ae (aa 0) ai)))
  (aq (aE (i:=2) lU.nd rfl (adv rfl) (aC T.uX (YZ T) hr az (ae (aa 0) (ae (aa 1) ai))))
  (aq (aE (i:=3) lU.nd rfl (adv rfl) (aC T.vc (Y5 T) hr az (ae (aa 0) (ae (aa 1) (ae (aa 2) ai)))))
  (aq (aE (i:=4) lU.nd rfl (adv rfl) (aC T.vd (aam T) hr az (ae (aa 0) (ae (aa 1) (ae (aa 2) ai)))))
  (aq (aE (i:=5) lU.nd rfl (adv rfl) (aC T.uY (Zd T) hr az (ae (aa 0) (ae (aa 1) (ae (aa 3) ai)))))
  (aq (aE (i:=6) lU.nd rfl (adv rfl) (aC T.bS (cc T) hr az (ae (aa 0) (ae ag (ae (ay (aa 1) ag) ai)))))
  (aq (aT (d8 (dq (aC T.rH (Mf T) hr az (ae (aa 5) (ae (aa 1) (ae (aa 3) (ae (aa 2) (ae (aa 4) (ae (aa 6) ai))))))))) (au (aH dJ)) aV)
  (aq (aE (i:=7) lU.nd rfl (adv rfl) (bE (ae (aC T.bS (cc T) hr az (ae (aa 0) (ae ag (ae (ay (aa 1) ag) ai)))) (ae (aC T.bS (cc T) hr az (ae (aa 0) (ae ag (ae (ay (aa 1) ag) ai)))) ai))))
  (aq (xW (fS hr) (aa 3) (aa 7) (aC T.pe (AI T) hr az (ae (aa 0) (ae ag (ae (ay (aa 1) ag) (ae (ay (aa 2) (ay (aa 7) ag)) (ae dJ ai)))))) rfl)
  (aq (gp (jN (aa 5) T.bN T.KG (KU T) (hr.mono (by decide)) T.o8.b .nil az (ae (ay (aa 7) ag) (ae (ay (aa 7) ag) (ae (ay (oy (fS hr) (aa 3) (aa 7) (λ_ _=>rfl)) ag) (ae (ay (oy (fS hr) (aa 3) (aa 7) (λ_ _=>rfl)) ag) ai))))))
  (au (aH (aC T.rH (Mf T) hr az (ae (aa 5) (ae (aa 1) (ae (aa 3) (ae (aa 2) (ae (aa 4) (ae (ay (aa 7) ag) ai))))))))))))))))))),?_⟩
  refine aM (λσ H1=>∃ (b:ac6) (e t u d m f:Int),σ=[some (.ref a),some (.ref b),none,none,none,none,none,none]/\ak H H1/\H1 b=some (.lst (mf e t u d m f))/\me e t u d m f) (λN hN=>?_) ?_
  .walk_at "gzn";exact⟨a,ns,rfl,hS,hn,λb e t u d m f H1 s1 _ hb sh=>hN _ _ ⟨b,e,t,u,d,m,f,rfl,s1,hb,sh⟩⟩
  rintro σ H1 ⟨b,e,t,u,d,m,f,rfl,s1,hb,sh⟩;refine aM (λσ H2=>∃ (c:ac6) (cs:List Int),σ=[some (.ref a),some (.ref b),some (.ref c),none,none,none,none,none]/\ak H1 H2/\H2 c=some (.lst (cs.map V.int))/\cs.length=t.toNat/\kF u d cs) (λN hN=>?_) ?_
  .walk_at "gzn";exact⟨a,b,ns,e,t,u,d,m,f,rfl,s1.seq hS,hn,ah.of hb,sh,λc cs H2 s2 _ hc bc bC=>hN _ _ ⟨c,cs,rfl,s2,hc,bc,bC⟩⟩
  rintro σ H2 ⟨c,cs,rfl,s2,hc,bc,bC⟩;refine aM (λσ H3=>∃ (w:ac6) (tb:Tb) (fi:Int),σ=[some (.ref a),some (.ref b),some (.ref c),some (.ref w),none,none,none,none]/\ak H2 H3/\TabAt H3 w tb/\cB e t tb/\tb.length<=24/\(∀ r∈tb,aS r.2.1 r.2.2=false)/\vy e m fi cs tb) (λN hN=>?_) ?_
  .walk_at "gzn";exact⟨a,b,c,ns,cs,e,t,u,d,m,f,rfl,(s1.trans s2).seq hS,hn,ah.of (s2 _ _ hb),sh,ah.of hc,bc,λw tb fi H3 s3 fw hT aj rR fL _ _ jG=>hN _ _ ⟨w,tb,fi,rfl,s3,hT,aj,rR,fL,jG⟩⟩
  rintro σ H3 ⟨w,tb,fi,rfl,s3,hT,aj,rR,fL,jG⟩;have S3:=s1.trans (s2.trans s3);have b3:=(s2.trans s3) _ _ hb;have c3:=s3 _ _ hc;refine aM (λσ H4=>∃ (l:ac6) (xs:List V) (ps:List Pa),σ=[some (.ref a),some (.ref b),some (.ref c),some (.ref w),some (.ref l),none,none,none]/\ak H3 H4/\H4 l=some (.lst xs)/\dG H4 xs ps/\f7 t ps/\ps.length<=64/\eF cs ps=true) (λN hN=>?_) ?_
  .walk_at "gzn";exact⟨a,b,c,ns,cs,e,t,u,d,m,f,rfl,S3.seq hS,hn,ah.of b3,sh,ah.of c3,bc,λl xs ps H4 s4 _ hl hP hk hlen gM=>hN _ _ ⟨l,xs,ps,rfl,s4,hl,hP,hk,hlen,gM⟩⟩
  rintro σ H4 ⟨l,xs,ps,rfl,s4,hl,hP,hk,hlen,gM⟩;refine aM (λσ H5=>∃ (x p:ac6) (rs:Tb),σ=[some (.ref a),some (.ref b),some (.ref c),some (.ref w),some (.ref l),some (.ref x),none,none]/\w≠p/\rs.Perm tb/\ah K H5 a (ns.map V.int)/\Wd K T.aQ H5 b c w l x p cs e t u d m f tb rs xs ps) (λN hN=>?_) ?_
  .walk_at "gzn";refine⟨a,b,w,ns,e,t,u,d,m,f,tb,rfl,(S3.trans s4).seq hS,hn,ah.of (s4 _ _ b3),sh,hT.same s4,aj,by lia,fL,λx p rs H5 s5 fx fp hB pA=>hN _ _ ⟨x,p,rs,rfl,(hT.same s4).ne fp,?_,(S3.trans (s4.trans s5)).seq hS,(s4.trans s5) _ _ b3,(s4.trans s5) _ _ c3,hT.same (s4.trans s5),s5 _ _ hl,hP.same s5,hB⟩⟩;rcases pA with rfl|rfl
   .exact .refl _
   .exact ake _
  rintro σ H5 ⟨x,p,rs,rfl,wp,cT,A5,W5⟩;clear hT hb hc b3 c3 hl hP S3 s1 s2 s3 s4 hS;obtain⟨he,ht,⟨u1,-⟩,⟨d1,-⟩,hm,hf⟩:=id sh;obtain⟨hb,hc,hT,hl,hP,hB⟩:=id W5;refine aM (λσ H6=>∃ tn:Int,σ=[some (.ref a),some (.ref b),some (.ref c),some (.ref w),some (.ref l),some (.ref x),some (.int tn),none]/\H6=H5/\0<=tn/\tn<t) (λN hN=>?_) ?_
  .walk_at "gzn";refine aN (ah.of hb) (v:=.int t) rfl ?_;refine⟨a,ns,_,_,rfl,A5,hn,by lia,by lia,λr r1 r2=>?_⟩;exact hN _ _ ⟨r,rfl,rfl,by lia,by lia⟩
  rintro σ H6 ⟨tn,rfl,rfl,vJ,tnt⟩;refine aM (λσ H7=>σ=[some (.ref a),some (.ref b),some (.ref c),some (.ref w),some (.ref l),some (.ref x),some (.int tn),none]/\ak H6 H7) (λN hN=>?_) ?_
  .walk_at "gzn";refine⟨b,c,w,l,x,p,cs,e,t,u,d,m,f,fi,tn,tb,rs,xs,ps,rfl,W5,sh,cT,aj,by lia,bc,bC,hk,hlen,gM,vJ,tnt,jG,λH7 s7=>?_⟩;walk_at "gzn";exact hN _ _ ⟨rfl,s7⟩
  rintro σ H7 ⟨rfl,s7⟩;have W7:=W5.same s7;refine aM (λσ H8=>∃ (z:ac6) (i j:Nat),σ=[some (.ref a),some (.ref b),some (.ref c),some (.ref w),some (.ref l),some (.ref x),some (.int tn),some (.ref z)]/\ak H7 H8/\H8 z=some (.tup [.int i,.int j])/\(i:Int)<e/\(j:Int)<t) (λN hN=>?_) ?_
  .walk_at "gzn";refine aN (ah.of (s7 _ _ hb)) (v:=.int e) rfl ?_;refine⟨a,ns,_,_,rfl,s7.seq A5,hn,by lia,by lia,λp1 p11 p12=>?_⟩;refine aN (ah.of (s7 _ _ hb)) (v:=.int t) rfl ?_;refine⟨a,ns,_,_,rfl,s7.seq A5,hn,by lia,by lia,λp2 p21 p22=>?_⟩;refine⟨bJ,λz hz=>hN _ _ ⟨z,p1.toNat,p2.toNat,rfl,aw hz,?_,by lia,by lia⟩⟩;rw[ar,show ((p1.toNat:Nat):Int)=p1 by lia,show ((p2.toNat:Nat):Int)=p2 by lia]
  rintro σ H8 ⟨z,i,j,rfl,s8,hz,hi,hj⟩;have W8:=W7.same s8;have rP:j7 e t ((i:Int),(j:Int)):=⟨⟨by show (0:Int)<=(i:Int);lia,hi⟩,by show (0:Int)<=(j:Int);lia,hj⟩
  refine aM (λσ H9=>∃ (lo hi:En),σ=[some (.ref a),some (.ref b),some (.ref c),some (.ref w),some (.ref l),some (.ref x),some (.int tn),some (.ref z)]/\H9 z=some (.tup [.int i,.int j])/\aS lo hi=false/\hold lo hi (cs.getD j 0)=true/\Wd K T.aQ H9 b c w l x p cs e t u d m f (cY tb ((i:Int),(j:Int)) (lo,hi)) rs xs ps) (λN hN=>?_) ?_
  .obtain⟨b8,c8,T8,l8,P8,B8⟩:=id W8;obtain⟨kw,hkw,rZ⟩:=id T8;obtain⟨⟨dx,hx⟩,kp,nF,vL⟩:=id B8;have wl:=rZ.len;walk_at "gzn";refine aN (ah.of b8) (v:=.int f) rfl (aO (ax.of hz) (v:=.int j) rfl (aN (ah.of c8) (eB (qF (by lia))) ?_));refine⟨a,ns,_,_,_,_,rfl,(s7.trans s8).seq A5,hn,by lia,hf,λwq lo hi H9 s9 _ vM rS AM=>?_⟩;have Mj:=s9 _ _ hkw;have F9:Fr H9 (upd H9 w (.dT (putK kw (cA (i:Int) (j:Int)) (.ref wq)))):=Ik Mj;have ft:∀ (y:ac6) (us:List V),H9 y=some (.tup us)->upd H9 w (.dT (putK kw (cA (i:Int) (j:Int)) (.ref wq))) y=some (.tup us):=λy us e1=>F9 y (.tup us) (λ_ z=>nomatch z) e1;have fl:∀ (y:ac6) (us:List V),H9 y=some (.lst us)->upd H9 w (.dT (putK kw (cA (i:Int) (j:Int)) (.ref wq))) y=some (.lst us):=λy us e1=>F9 y (.lst us) (λ_ z=>nomatch z) e1;have TW:bo (upd H9 w (.dT (putK kw (cA (i:Int) (j:Int)) (.ref wq)))) (putK kw (cA (i:Int) (j:Int)) (.ref wq)) (cY tb ((i:Int),(j:Int)) (lo,hi)):=bo.put (s:=((i:Int),(j:Int))) (w:=(lo,hi)) (rZ.imp λ_ _ _ zz=>(aI.same zz s9).fr F9) ⟨wq,rfl,ft _ _ vM⟩;exact⟨_,mT.t (k:=cA (i:Int) (j:Int)) Mj (s9 _ _ hz) (aeg (by lia:kw.length<=60) (by decide)),hN _ _ ⟨lo,hi,rfl,ft _ _ (s9 _ _ hz),rS,AM rfl,fl _ _ (s9 _ _ b8),fl _ _ (s9 _ _ c8),⟨_,ar,TW⟩,fl _ _ (s9 _ _ l8),(P8.same s9).imp λ_ _ ⟨t,q,e1,h1,h2⟩=>⟨t,q,e1,ft _ _ h1,ft _ _ h2⟩,⟨⟨dx,by rw[aB (λy=>by rw[y,hkw] at hx;cases hx)];exact s9 _ _ hx⟩,kp,by rw[aB (adP wp)];exact s9 _ _ nF,vL.imp λ_ _ _ zz=>(aI.same zz s9).fr F9⟩⟩⟩
  rintro σ H9 ⟨lo,hi,rfl,vN,rS,hho,W9⟩;obtain⟨b9,c9,T9,l9,P9,B9⟩:=id W9;refine aM (λσ nG=>σ=[some (.ref a),some (.ref b),some (.ref c),some (.ref w),some (.ref l),some (.ref x),some (.int tn),some (.ref z)]/\nG z=some (.tup [.int i,.int j])/\Wd K T.aQ nG b c w l x p cs e t u d m f (cY tb ((i:Int),(j:Int)) (lo,hi)) (cY rs ((i:Int),(j:Int)) (lo,hi)) xs ps) (λN hN=>?_) ?_
  .obtain⟨kw,hkw,rZ⟩:=id T9;obtain⟨⟨dx,hx⟩,kp,nF,vL⟩:=id B9;have pl:=vL.len;have rl:=cT.length_eq;obtain⟨vv,hvv,wq,rfl,vM⟩:=(rZ.val ((i:Int),(j:Int))).2 (lo,hi) (by rw[SF,if_pos rfl]);have dg:fc H9 w (.ref z) (some (.ref wq)):=by rw[<- hvv];exact fc.t (k:=cA (i:Int) (j:Int)) hkw vN
   walk_at "gzn";refine⟨_,_,hx,rfl,aO (ax.of vN) rfl (aO (ax.of vN) rfl ⟨.ref wq,dg,aO (ax.of vM) rfl ⟨.ref wq,dg,aO (ax.of vM) rfl ?_⟩⟩)⟩;refine⟨x,p,e,t,u,d,m,(i:Int),(j:Int),lo,hi,kp,rfl,⟨⟨dx,hx⟩,nF⟩,by lia,λzz=>absurd ⟨rP,rS⟩ zz,λ_ v10 nG sb aaq aar=>?_⟩;have vO:Fr H9 nG:=SameBut.fr sb nF;have ft:∀ (y:ac6) (us:List V),H9 y=some (.tup us)->nG y=some (.tup us):=λy us e1=>vO y (.tup us) (λ_ z=>nomatch z) e1;have fl:∀ (y:ac6) (us:List V),H9 y=some (.lst us)->nG y=some (.lst us):=λy us e1=>vO y (.lst us) (λ_ z=>nomatch z) e1;exact hN _ _ ⟨rfl,ft _ _ vN,fl _ _ b9,fl _ _ c9,⟨_,sb w _ wp hkw,rZ.imp λ_ _ _ zz=>zz.fr vO⟩,fl _ _ l9,P9.imp λ_ _ ⟨t,q,e1,h1,h2⟩=>⟨t,q,e1,ft _ _ h1,ft _ _ h2⟩,⟨⟨dx,sb x _ (λy=>by rw[y,nF] at hx;cases hx) hx⟩,_,aaq,bo.put (s:=((i:Int),(j:Int))) (w:=(lo,hi)) (vL.imp λ_ _ _ zz=>zz.fr vO) aar⟩⟩
  rintro σ nG ⟨rfl,aas,W10⟩;walk_at "gzn";refine aO (ax.of aas) (v:=.int j) rfl ?_;refine⟨b,c,w,l,x,p,cs,e,t,u,d,m,f,fi,j,_,_,xs,ps,rfl,W10,sh,Ut cT,aj.put rP,?_,bc,bC,hk,hlen,gM,by lia,hj,λr hr dH=>?_,λH11 _=>q H11⟩
  .have:=Il tb ((i:Int),(j:Int)) (lo,hi);lia
  .rcases AK hr with y|rfl
   .exact jG r y dH
   .exact hho
end
theorem aat{l:ai5}{w:adM}{K:acS}{h:aeA}{mg:Str->Option acY}{fa:ac6}(X:K.In h)(G:h.Ns ac4 mg)(hfa:mg "law" = some (.ref fa))
 {Ml:ac6}
 {Mm:ac6}
 {Mn:ac6}
 {Mo:ac6}
 {Mp:ac6}
 {Mq:ac6}
 {Mr:ac6}
 {Ms:ac6}
 {Mt:ac6}
 {Mu:ac6}
 {Mv:ac6}
 {Mw:ac6}
 {Mx:ac6}
 {My:ac6}
 {Mz:ac6}
 {MA:ac6}
 {MB:ac6}
 {MC:ac6}
 {MD:ac6}
 {ME:ac6}
 {MF:ac6}
 {MG:ac6}
 {MH:ac6}
 {MI:ac6}
 {MJ:ac6}
 {MK:ac6}
 {ML:ac6}
 {MM:ac6}
 {MN:ac6}
 {MO:ac6}
 {MP:ac6}
 {MQ:ac6}
 {MR:ac6}
 {MS:ac6}
 {MT:ac6}
 {A9:ac6}
 {Ba:ac6}
 {Bb:ac6}
 {Bc:ac6}
 {Be:ac6}
 {Bf:ac6}
 {MU:ac6}
 {MV:ac6}
 {MW:ac6}
 {MX:ac6}
 {MY:ac6}
 {MZ:ac6}
 {M0:ac6}
 {M4:ac6}
 {M5:ac6}
 {M6:ac6}
 {M7:ac6}
 {M8:ac6}
 {M9:ac6}
 {Na:ac6}
 {Nb:ac6}
 {Nc:ac6}
 {Nd:ac6}
 {Nf:ac6}
 {Ng:ac6}
 {Nh:ac6}
 {Ni:ac6}
 {Nj:ac6}
 {Bg:ac6} {aau Bh:Option ac6} {aav:Array (Option acY)} {aaw Bi Bj Bk vP Bl:acY}
 {vh:ac6}
 {gJ:ac6}
 {gK:ac6}
 {gj:ac6}
 {aQ:ac6}
 {aax:Tok}
 {aay:Tok}
 (Bm:ac5 K ac4 "is_crossed" = some (some (.ref Ml))) (Bn:FA K "is_crossed" "is_crossed" zb Ml)
 (Bo:ac5 K ac4 "holds" = some (some (.ref Mm))) (Bp:FA K "holds" "holds" zc Mm)
 (Bq:ac5 K ac4 "meet" = some (some (.ref Mn))) (Br:FA K "meet" "meet" zd Mn)
 (Bs:ac5 K ac4 "common" = some (some (.ref Mo))) (Bu:FA K "common" "common" ze Mo)
 (Bv:ac5 K ac4 "hull" = some (some (.ref Mp))) (Bw:FA K "hull" "hull" zf Mp)
 (Bx:ac5 K ac4 "by_lo" = some (some (.ref Mq))) (By:FA K "by_lo" "by_lo" zg Mq)
 (Bz:ac5 K ac4 "leaves_gap" = some (some (.ref Mr))) (BA:FA K "leaves_gap" "leaves_gap" zh Mr)
 (BB:ac5 K ac4 "gathered" = some (some (.ref Ms))) (BC:FA K "gathered" "gathered" zi Ms)
 (BD:ac5 K ac4 "number_in" = some (some (.ref Mt))) (BE:FA K "number_in" "number_in" zj Mt)
 (BF:ac5 K ac4 "moved" = some (some (.ref Mu))) (BG:FA K "moved" "moved" zk Mu)
 (BH:ac5 K ac4 "narrowed" = some (some (.ref Mv))) (BI:FA K "narrowed" "narrowed" zm Mv)
 (BJ:ac5 K ac4 "stretches_at" = some (some (.ref Mw))) (BK:FA K "stretches_at" "stretches_at" zo Mw)
 (BL:ac5 K ac4 "tube" = some (some (.ref Mx))) (BM:FA K "tube" "tube" zp Mx)
 (BN:ac5 K ac4 "course_in" = some (some (.ref My))) (BO:FA K "course_in" "course_in" zr My)
 (BP:ac5 K ac4 "lesser" = some (some (.ref Mz))) (BQ:FA K "lesser" "lesser" zt Mz)
 (BR:ac5 K ac4 "lifted" = some (some (.ref MA))) (BS:FA K "lifted" "lifted" zu MA)
 (BU:ac5 K ac4 "ceilings" = some (some (.ref MB))) (BV:FA K "ceilings" "ceilings" zv MB)
 (BW:ac5 K ac4 "crossing" = some (some (.ref MC))) (BX:FA K "crossing" "crossing" zw MC)
 (BY:ac5 K ac4 "has_part" = some (some (.ref MD))) (BZ:FA K "has_part" "has_part" zx MD)
 (B0:ac5 K ac4 "check_claim" = some (some (.ref ME))) (B1:FA K "check_claim" "check_claim" zy ME)
 (B2:ac5 K ac4 "stretches_of" = some (some (.ref MF))) (B3:FA K "stretches_of" "stretches_of" zA MF)
 (B4:ac5 K ac4 "paces" = some (some (.ref MG))) (B5:FA K "paces" "paces" zB MG)
 (B6:ac5 K ac4 "wanted" = some (some (.ref MH))) (B7:FA K "wanted" "wanted" zC MH)
 (Ca:ac5 K ac4 "marks_of" = some (some (.ref MI))) (Cb:FA K "marks_of" "marks_of" zD MI)
 (Cc:ac5 K ac4 "marks_without" = some (some (.ref MJ))) (Cd:FA K "marks_without" "marks_without" zE MJ)
 (Ce:ac5 K ac4 "is_lying" = some (some (.ref MK))) (Cf:FA K "is_lying" "is_lying" zF MK)
 (Cg:ac5 K ac4 "liars" = some (some (.ref ML))) (Ci:FA K "liars" "liars" zG ML)
 (Cj:ac5 K ac4 "keeps" = some (some (.ref MM))) (Ck:FA K "keeps" "keeps" zH MM)
 (Cm:ac5 K ac4 "fits" = some (some (.ref MN))) (Cn:FA K "fits" "fits" zI MN)
 (Co:ac5 K ac4 "groups_of" = some (some (.ref MO))) (Cp:FA K "groups_of" "groups_of" zJ MO)
 (Cq:ac5 K ac4 "clashes" = some (some (.ref MP))) (Cr:FA K "clashes" "clashes" zK MP)
 (Cs:ac5 K ac4 "choices" = some (some (.ref MQ))) (Ct:FA K "choices" "choices" zL MQ)
 (Cu:ac5 K ac4 "tubes" = some (some (.ref MR))) (Cv:FA K "tubes" "tubes" zM MR)
 (Cw:ac5 K ac4 "places" = some (some (.ref MS))) (Cy:FA K "places" "places" zN MS)
 (Cz:ac5 K ac4 "strips" = some (some (.ref MT))) (CA:FA K "strips" "strips" zO MT)
 (CB:adA K (.ref aQ) "__init__" = some (some (.ref A9))) (CC:FA K "__init__" "Board.__init__" zP A9)
 (CD:adA K (.ref aQ) "has_eye" = some (some (.ref Ba))) (CF:FA K "has_eye" "Board.has_eye" zQ Ba)
 (CG:adA K (.ref aQ) "has_turn" = some (some (.ref Bb))) (CH:FA K "has_turn" "Board.has_turn" zR Bb)
 (CI:adA K (.ref aQ) "tell" = some (some (.ref Bc))) (CJ:FA K "tell" "Board.tell" zS Bc)
 (CK:adA K (.ref aQ) "tellings" = some (some (.ref Be))) (CL:FA K "tellings" "Board.tellings" zT Be)
 (CM:adA K (.ref aQ) "check_spot" = some (some (.ref Bf))) (CN:FA K "check_spot" "Board.check_spot" zU Bf)
 (CO:ac5 K ac4 "without" = some (some (.ref MU))) (CP:FA K "without" "without" zV MU)
 (CQ:ac5 K ac4 "eyes_of" = some (some (.ref MV))) (CS:FA K "eyes_of" "eyes_of" zW MV)
 (CT:ac5 K ac4 "put_aside" = some (some (.ref MW))) (CU:FA K "put_aside" "put_aside" zX MW)
 (CV:ac5 K ac4 "branch" = some (some (.ref MX))) (CW:FA K "branch" "branch" Ks MX)
 (CY:ac5 K ac4 "paper" = some (some (.ref MY))) (CZ:FA K "paper" "paper" Kt MY)
 (C0:ac5 K ac4 "ask" = some (some (.ref MZ))) (C1:FA K "ask" "ask" zY MZ)
 (C2:ac5 K ac4 "_law_pick" = some (some (.ref M0))) (C3:FA K "_law_pick" "_law_pick" zZ M0)
 (C4:ac5 K ac4 "_law_wide" = some (some (.ref M4))) (C5:FA K "_law_wide" "_law_wide" z0 M4)
 (C6:ac5 K ac4 "_law_shape" = some (some (.ref M5))) (C7:FA K "_law_shape" "_law_shape" z4 M5)
 (C8:ac5 K ac4 "_law_course" = some (some (.ref M6))) (C9:FA K "_law_course" "_law_course" z5 M6)
 (Dc:ac5 K ac4 "_law_word" = some (some (.ref M7))) (Dd:FA K "_law_word" "_law_word" z6 M7)
 (De:ac5 K ac4 "_law_board" = some (some (.ref M8))) (Df:FA K "_law_board" "_law_board" Aa M8)
 (Dg:ac5 K ac4 "_law_in" = some (some (.ref M9))) (Dh:FA K "_law_in" "_law_in" Ab M9)
 (Di:ac5 K ac4 "_law_whole" = some (some (.ref Na))) (Dj:FA K "_law_whole" "_law_whole" Ac Na)
 (Dk:ac5 K ac4 "_law_liars" = some (some (.ref Nb))) (Dl:FA K "_law_liars" "_law_liars" Ad Nb)
 (Dm:ac5 K ac4 "_law_met" = some (some (.ref Nc))) (Dp:FA K "_law_met" "_law_met" Ae Nc)
 (Dq:ac5 K ac4 "_law_walked" = some (some (.ref Nd))) (Dr:FA K "_law_walked" "_law_walked" Af Nd)
 (Ds:ac5 K ac4 "_law_same" = some (some (.ref Nf))) (Dt:FA K "_law_same" "_law_same" Ag Nf)
 (Du:ac5 K ac4 "_law_mostly" = some (some (.ref Ng))) (Dv:FA K "_law_mostly" "_law_mostly" Ah Ng)
 (Dw:ac5 K ac4 "_law_true_parts" = some (some (.ref Nh))) (Dx:FA K "_law_true_parts" "_law_true_parts" Ai Nh)
 (Dy:ac5 K ac4 "_law_has" = some (some (.ref Ni))) (Dz:FA K "_law_has" "_law_has" Aj Ni)
 (DA:ac5 K ac4 "_law_stays" = some (some (.ref Nj))) (DB:FA K "_law_stays" "_law_stays" Ak Nj)
 (vQ:ac5 K ac4 "law" = some (some (.ref Bg))) (DC:K.lookup Bg=some ⟨aaw,aau,.func (afv "law" "law" (kR ik) (jl ik) (aL ik) .none Bi Bj Bk Bh vP Bl),aav⟩) (DD:ag2 K vP "law" = true) (DE:afz K (.ref Bg)=true)
 (DF:ac5 K ac4 "all" = some none)
 (DG:ac5 K ac4 "bool" = some none)
 (DH:ac5 K ac4 "enumerate" = some none)
 (DI:ac5 K ac4 "int" = some none)
 (DJ:ac5 K ac4 "isinstance" = some none)
 (DK:ac5 K ac4 "len" = some none)
 (DL:ac5 K ac4 "list" = some none)
 (DM:ac5 K ac4 "max" = some none)
 (DN:ac5 K ac4 "min" = some none)
 (DO:ac5 K ac4 "range" = some none)
 (DP:ac5 K ac4 "reversed" = some none)
 (DQ:ac5 K ac4 "set" = some none)
 (DR:ac5 K ac4 "sorted" = some none)
 (DS:ac5 K ac4 "tuple" = some none)
 (DT:ac5 K ac4 "zip" = some none)
 (DU:ac5 K ac4 "GazeError" = some (some (.ref vh)))
 (DV:ac5 K ac4 "NoBoard" = some (some (.ref gJ)))
 (DW:ac5 K ac4 "NoTelling" = some (some (.ref gK)))
 (DX:ac5 K ac4 "NoClaim" = some (some (.ref gj)))
 (DY:ac5 K ac4 "Board" = some (some (.ref aQ)))
 (DZ:agt K aQ Str.empty=true) (D0:agQ K aQ=true) (D1:ah2 K aQ=true) (D2:adA K (.ref aQ) "__setattr__" = some (some (.builtin "object.__setattr__")))
 (kC:adA K (.ref aQ) "eyes" = some none)
 (kD:adA K (.ref aQ) "turns" = some none)
 (pq:adA K (.ref aQ) "up" = some none)
 (pw:adA K (.ref aQ) "down" = some none)
 (lX:adA K (.ref aQ) "most" = some none)
 (lY:adA K (.ref aQ) "told" = some none)
 (D3:afN K (.ref A9)=true)
 (rK:aiR K aQ=true) (D4:afz K (.ref aQ)=true)
 (D5:afN K (.ref Ba)=true)
 (D6:afN K (.ref Bb)=true)
 (D7:afN K (.ref Bc)=true)
 (D8:afN K (.ref Be)=true)
 (D9:afN K (.ref Bf)=true)
 (Ea:ajX K gJ [.type "ValueError",.type "Exception",.type "BaseException",.type "object"] "ValueError.__new__" = true)
 (Eb:aga K gJ (.type "object")=some true)
 (Ec:aga K gJ (.type "BaseException")=some true)
 (Ed:adA K (.ref gJ) "__getattribute__" = some (some (.builtin "BaseException.__getattribute__")))
 (Ee:adA K (.ref gJ) "__getattr__" = some none)
 (Ef:adA K (.ref gJ) "__class__" = some (some (.builtin "object.__class__")))
 (Eg:ajX K gK [.type "ValueError",.type "Exception",.type "BaseException",.type "object"] "ValueError.__new__" = true)
 (Eh:aga K gK (.type "object")=some true)
 (Ei:aga K gK (.type "BaseException")=some true)
 (Ej:adA K (.ref gK) "__getattribute__" = some (some (.builtin "BaseException.__getattribute__")))
 (Ek:adA K (.ref gK) "__getattr__" = some none)
 (El:adA K (.ref gK) "__class__" = some (some (.builtin "object.__class__")))
 (Em:ajX K gj [.type "ValueError",.type "Exception",.type "BaseException",.type "object"] "ValueError.__new__" = true)
 (Eo:aga K gj (.type "object")=some true)
 (Ep:aga K gj (.type "BaseException")=some true)
 (Er:adA K (.ref gj) "__getattribute__" = some (some (.builtin "BaseException.__getattribute__")))
 (Es:adA K (.ref gj) "__getattr__" = some none)
 (Et:adA K (.ref gj) "__class__" = some (some (.builtin "object.__class__")))
 (Eu:ac5 K ac4 "EYES_AT_MOST" = some (some (.int 7 aax)))
 (Ew:ac5 K ac4 "TURNS_AT_MOST" = some (some (.int 12 aay)))
 : ∃ fd:afu,(∀ (s:acZ) (v:acY),akH s fd ⟨[v],[]⟩ [("_law_script",v)])/\∀ base:aeA,K.In base->base.Ns ac4 mg->aJ l.prog w K mg base (aK l.prog w) 13 fa fd ["_law_script"] (vK K):=by
 have e:=hfa.symm.trans (ac7 X G vQ);cases e;obtain⟨abN,Nk⟩:=Bn.fn;have aaz:=Nk.binds (ps:=["lo","hi"]) λ_ _ _ _ _ _ us hl=>match us,hl with|[_,_],_=>rfl
 obtain⟨abO,Nl⟩:=Bp.fn;have aaA:=Nl.binds (ps:=["one","number"]) λ_ _ _ _ _ _ us hl=>match us,hl with|[_,_],_=>rfl
 obtain⟨abP,Nm⟩:=Br.fn;have aaB:=Nm.binds (ps:=["one","other"]) λ_ _ _ _ _ _ us hl=>match us,hl with|[_,_],_=>rfl
 obtain⟨abQ,Nn⟩:=Bu.fn;have aaC:=Nn.binds (ps:=["some"]) λ_ _ _ _ _ _ us hl=>match us,hl with|[_],_=>rfl
 obtain⟨abR,Np⟩:=Bw.fn;have aaD:=Np.binds (ps:=["some"]) λ_ _ _ _ _ _ us hl=>match us,hl with|[_],_=>rfl
 obtain⟨abS,Nq⟩:=By.fn;have aaE:=Nq.binds (ps:=["one"]) λ_ _ _ _ _ _ us hl=>match us,hl with|[_],_=>rfl
 obtain⟨abT,Nr⟩:=BA.fn;have aaF:=Nr.binds (ps:=["one","later"]) λ_ _ _ _ _ _ us hl=>match us,hl with|[_,_],_=>rfl
 obtain⟨abU,Nt⟩:=BC.fn;have aaG:=Nt.binds (ps:=["some"]) λ_ _ _ _ _ _ us hl=>match us,hl with|[_],_=>rfl
 obtain⟨abV,Nu⟩:=BE.fn;have aaH:=Nu.binds (ps:=["cell"]) λ_ _ _ _ _ _ us hl=>match us,hl with|[_],_=>rfl
 obtain⟨abW,Nv⟩:=BG.fn;have aaI:=Nv.binds (ps:=["one","step"]) λ_ _ _ _ _ _ us hl=>match us,hl with|[_,_],_=>rfl
 obtain⟨abX,Nw⟩:=BI.fn;have aaJ:=Nw.binds (ps:=["boxes","steps"]) λ_ _ _ _ _ _ us hl=>match us,hl with|[_,_],_=>rfl
 obtain⟨abY,Nx⟩:=BK.fn;have aaK:=Nx.binds (ps:=["marks","turn"]) λ_ _ _ _ _ _ us hl=>match us,hl with|[_,_],_=>rfl
 obtain⟨abZ,Ny⟩:=BM.fn;have aaL:=Ny.binds (ps:=["steps","marks"]) λ_ _ _ _ _ _ us hl=>match us,hl with|[_,_],_=>rfl
 obtain⟨ab0,Nz⟩:=BO.fn;have aaM:=Nz.binds (ps:=["steps","marks"]) λ_ _ _ _ _ _ us hl=>match us,hl with|[_,_],_=>rfl
 obtain⟨ab1,NA⟩:=BQ.fn;have aaN:=NA.binds (ps:=["one","other"]) λ_ _ _ _ _ _ us hl=>match us,hl with|[_,_],_=>rfl
 obtain⟨ab2,NB⟩:=BS.fn;have aaO:=NB.binds (ps:=["one","by"]) λ_ _ _ _ _ _ us hl=>match us,hl with|[_,_],_=>rfl
 obtain⟨ab3,NC⟩:=BV.fn;have aaP:=NC.binds (ps:=["steps","marks"]) λ_ _ _ _ _ _ us hl=>match us,hl with|[_,_],_=>rfl
 obtain⟨ab4,ND⟩:=BX.fn;have aaQ:=ND.binds (ps:=["tops","marks"]) λ_ _ _ _ _ _ us hl=>match us,hl with|[_,_],_=>rfl
 obtain⟨ab5,NF⟩:=BZ.fn;have aaR:=NF.binds (ps:=["board","kind","turn"]) λ_ _ _ _ _ _ us hl=>match us,hl with|[_,_,_],_=>rfl
 obtain⟨ab6,NG⟩:=B1.fn;have aaS:=NG.binds (ps:=["board","claim"]) λ_ _ _ _ _ _ us hl=>match us,hl with|[_,_],_=>rfl
 obtain⟨ab7,NH⟩:=B3.fn;have aaT:=NH.binds (ps:=["claim","kind","turn"]) λ_ _ _ _ _ _ us hl=>match us,hl with|[_,_,_],_=>rfl
 obtain⟨ab8,NI⟩:=B5.fn;have aaU:=NI.binds (ps:=["board","claim"]) λ_ _ _ _ _ _ us hl=>match us,hl with|[_,_],_=>rfl
 obtain⟨ab9,NJ⟩:=B7.fn;have aaV:=NJ.binds (ps:=["board","claim"]) λ_ _ _ _ _ _ us hl=>match us,hl with|[_,_],_=>rfl
 obtain⟨aca,NK⟩:=Cb.fn;have aaW:=NK.binds (ps:=["board","eye"]) λ_ _ _ _ _ _ us hl=>match us,hl with|[_,_],_=>rfl
 obtain⟨acb,NL⟩:=Cd.fn;have aaX:=NL.binds (ps:=["board","some"]) λ_ _ _ _ _ _ us hl=>match us,hl with|[_,_],_=>rfl
 obtain⟨acd,NM⟩:=Cf.fn;have aaY:=NM.binds (ps:=["board","eye","course"]) λ_ _ _ _ _ _ us hl=>match us,hl with|[_,_,_],_=>rfl
 obtain⟨ace,NN⟩:=Ci.fn;have aaZ:=NN.binds (ps:=["board","course"]) λ_ _ _ _ _ _ us hl=>match us,hl with|[_,_],_=>rfl
 obtain⟨acf,NO⟩:=Ck.fn;have aa0:=NO.binds (ps:=["steps","course"]) λ_ _ _ _ _ _ us hl=>match us,hl with|[_,_],_=>rfl
 obtain⟨acg,NP⟩:=Cn.fn;have aa1:=NP.binds (ps:=["board","course"]) λ_ _ _ _ _ _ us hl=>match us,hl with|[_,_],_=>rfl
 obtain⟨ach,NQ⟩:=Cp.fn;have aa2:=NQ.binds (ps:=["board"]) λ_ _ _ _ _ _ us hl=>match us,hl with|[_],_=>rfl
 obtain⟨aci,NR⟩:=Cr.fn;have aa3:=NR.binds (ps:=["steps","groups"]) λ_ _ _ _ _ _ us hl=>match us,hl with|[_,_],_=>rfl
 obtain⟨acj,NS⟩:=Ct.fn;have aa4:=NS.binds (ps:=["eyes"]) λ_ _ _ _ _ _ us hl=>match us,hl with|[_],_=>rfl
 obtain⟨ack,NT⟩:=Cv.fn;have aa5:=NT.binds (ps:=["board"]) λ_ _ _ _ _ _ us hl=>match us,hl with|[_],_=>rfl
 obtain⟨acm,NU⟩:=Cy.fn;have aa6:=NU.binds (ps:=["board","turn"]) λ_ _ _ _ _ _ us hl=>match us,hl with|[_,_],_=>rfl
 obtain⟨acn,NV⟩:=CA.fn;have aa7:=NV.binds (ps:=["board"]) λ_ _ _ _ _ _ us hl=>match us,hl with|[_],_=>rfl
 obtain⟨aco,NW⟩:=CC.fn;have aa8:=NW.binds (ps:=["self","eyes","turns","up","down","most"]) λ_ _ _ _ _ _ us hl=>match us,hl with|[_,_,_,_,_,_],_=>rfl
 obtain⟨acp,Ex⟩:=CF.fn;have aa9:=Ex.binds (ps:=["self","eye"]) λ_ _ _ _ _ _ us hl=>match us,hl with|[_,_],_=>rfl
 obtain⟨acq,Ey⟩:=CH.fn;have aba:=Ey.binds (ps:=["self","turn"]) λ_ _ _ _ _ _ us hl=>match us,hl with|[_,_],_=>rfl
 obtain⟨acr,Ez⟩:=CJ.fn;have abb:=Ez.binds (ps:=["self","eye","turn","lo","hi"]) λ_ _ _ _ _ _ us hl=>match us,hl with|[_,_,_,_,_],_=>rfl
 obtain⟨acs,EA⟩:=CL.fn;have abc:=EA.binds (ps:=["self"]) λ_ _ _ _ _ _ us hl=>match us,hl with|[_],_=>rfl
 obtain⟨acu,EB⟩:=CN.fn;have abd:=EB.binds (ps:=["self","eye","turn"]) λ_ _ _ _ _ _ us hl=>match us,hl with|[_,_,_],_=>rfl
 obtain⟨acv,NX⟩:=CP.fn;have abe:=NX.binds (ps:=["pairs","eye"]) λ_ _ _ _ _ _ us hl=>match us,hl with|[_,_],_=>rfl
 obtain⟨acw,NY⟩:=CS.fn;have abf:=NY.binds (ps:=["pair"]) λ_ _ _ _ _ _ us hl=>match us,hl with|[_],_=>rfl
 obtain⟨acx,NZ⟩:=CU.fn;have abg:=NZ.binds (ps:=["pairs","most"]) λ_ _ _ _ _ _ us hl=>match us,hl with|[_,_],_=>rfl
 obtain⟨acy,N0⟩:=CW.fn;have abh:=N0.binds (ps:=["pairs","eye","most"]) λ_ _ _ _ _ _ us hl=>match us,hl with|[_,_,_],_=>rfl
 obtain⟨acz,N1⟩:=CZ.fn;have abi:=N1.binds (ps:=["pairs","most"]) λ_ _ _ _ _ _ us hl=>match us,hl with|[_,_],_=>rfl
 obtain⟨acA,N2⟩:=C1.fn;have abj:=N2.binds (ps:=["board","claim"]) λ_ _ _ _ _ _ us hl=>match us,hl with|[_,_],_=>rfl
 obtain⟨acB,N3⟩:=C3.fn;have abk:=N3.binds (ps:=["_law_script","_law_k","_law_many"]) λ_ _ _ _ _ _ us hl=>match us,hl with|[_,_,_],_=>rfl
 obtain⟨acC,N4⟩:=C5.fn;have abl:=N4.binds (ps:=["_law_script","_law_k","_law_many"]) λ_ _ _ _ _ _ us hl=>match us,hl with|[_,_,_],_=>rfl
 obtain⟨acD,N5⟩:=C7.fn;have abm:=N5.binds (ps:=["_law_script"]) λ_ _ _ _ _ _ us hl=>match us,hl with|[_],_=>rfl
 obtain⟨acE,N6⟩:=C9.fn;have abn:=N6.binds (ps:=["_law_script","_law_shape_here"]) λ_ _ _ _ _ _ us hl=>match us,hl with|[_,_],_=>rfl
 obtain⟨acF,N7⟩:=Dd.fn;have abo:=N7.binds (ps:=["_law_script","_law_k","_law_far","_law_number","_law_false"]) λ_ _ _ _ _ _ us hl=>match us,hl with|[_,_,_,_,_],_=>rfl
 obtain⟨acG,N8⟩:=Df.fn;have abp:=N8.binds (ps:=["_law_script","_law_shape_here","_law_told"]) λ_ _ _ _ _ _ us hl=>match us,hl with|[_,_,_],_=>rfl
 obtain⟨acH,N9⟩:=Dh.fn;have abq:=N9.binds (ps:=["_law_span","_law_number"]) λ_ _ _ _ _ _ us hl=>match us,hl with|[_,_],_=>rfl
 obtain⟨acI,Oa⟩:=Dj.fn;have abr:=Oa.binds (ps:=["_law_found"]) λ_ _ _ _ _ _ us hl=>match us,hl with|[_],_=>rfl
 obtain⟨acJ,Ob⟩:=Dl.fn;have abt:=Ob.binds (ps:=["_law_told","_law_course_here"]) λ_ _ _ _ _ _ us hl=>match us,hl with|[_,_],_=>rfl
 obtain⟨acK,Oc⟩:=Dp.fn;have abu:=Oc.binds (ps:=["_law_course_here","_law_claim"]) λ_ _ _ _ _ _ us hl=>match us,hl with|[_,_],_=>rfl
 obtain⟨acL,Od⟩:=Dr.fn;have abv:=Od.binds (ps:=["_law_found","_law_shape_here","_law_told","_law_claim"]) λ_ _ _ _ _ _ us hl=>match us,hl with|[_,_,_,_],_=>rfl
 obtain⟨acM,Oe⟩:=Dt.fn;have abw:=Oe.binds (ps:=["_law_board_here","_law_told"]) λ_ _ _ _ _ _ us hl=>match us,hl with|[_,_],_=>rfl
 obtain⟨acN,Of⟩:=Dv.fn;have abx:=Of.binds (ps:=["_law_script","_law_shape_here","_law_course_here"]) λ_ _ _ _ _ _ us hl=>match us,hl with|[_,_,_],_=>rfl
 obtain⟨acO,Og⟩:=Dx.fn;have aby:=Og.binds (ps:=["_law_script","_law_shape_here","_law_course_here"]) λ_ _ _ _ _ _ us hl=>match us,hl with|[_,_,_],_=>rfl
 obtain⟨acP,Oh⟩:=Dz.fn;have abz:=Oh.binds (ps:=["_law_some","_law_number"]) λ_ _ _ _ _ _ us hl=>match us,hl with|[_,_],_=>rfl
 obtain⟨acQ,Oi⟩:=DB.fn;have abA:=Oi.binds (ps:=["_law_board_here","_law_shape_here","_law_told","_law_course_here","_law_claim","_law_turn"]) λ_ _ _ _ _ _ us hl=>match us,hl with|[_,_,_,_,_,_],_=>rfl
 have Oj:=Gh (st:=ik) DC DD DE;have abB:=Oj.binds (ps:=["_law_script"]) λ_ _ _ _ _ _ us hl=>match us,hl with|[_],_=>rfl
 have T:∃ T:Tx K mg,T.rJ.a=fa/\T.rJ.fd=afv "law" "law" (kR ik) (jl ik) (aL ik) .none Bi Bj Bk Bh vP Bl:=⟨⟨⟨_,_,Nk,ac7 X G Bm,aaz⟩,⟨_,_,Nl,ac7 X G Bo,aaA⟩,⟨_,_,Nm,ac7 X G Bq,aaB⟩,⟨_,_,Nn,ac7 X G Bs,aaC⟩,⟨_,_,Np,ac7 X G Bv,aaD⟩,⟨_,_,Nq,ac7 X G Bx,aaE⟩,⟨_,_,Nr,ac7 X G Bz,aaF⟩,⟨_,_,Nt,ac7 X G BB,aaG⟩,⟨_,_,Nu,ac7 X G BD,aaH⟩,⟨_,_,Nv,ac7 X G BF,aaI⟩,⟨_,_,Nw,ac7 X G BH,aaJ⟩,⟨_,_,Nx,ac7 X G BJ,aaK⟩,⟨_,_,Ny,ac7 X G BL,aaL⟩,⟨_,_,Nz,ac7 X G BN,aaM⟩,⟨_,_,NA,ac7 X G BP,aaN⟩,⟨_,_,NB,ac7 X G BR,aaO⟩,⟨_,_,NC,ac7 X G BU,aaP⟩,⟨_,_,ND,ac7 X G BW,aaQ⟩,⟨_,_,NF,ac7 X G BY,aaR⟩,⟨_,_,NG,ac7 X G B0,aaS⟩,⟨_,_,NH,ac7 X G B2,aaT⟩,⟨_,_,NI,ac7 X G B4,aaU⟩,⟨_,_,NJ,ac7 X G B6,aaV⟩,⟨_,_,NK,ac7 X G Ca,aaW⟩,⟨_,_,NL,ac7 X G Cc,aaX⟩,⟨_,_,NM,ac7 X G Ce,aaY⟩,⟨_,_,NN,ac7 X G Cg,aaZ⟩,⟨_,_,NO,ac7 X G Cj,aa0⟩,⟨_,_,NP,ac7 X G Cm,aa1⟩,⟨_,_,NQ,ac7 X G Co,aa2⟩,⟨_,_,NR,ac7 X G Cq,aa3⟩,⟨_,_,NS,ac7 X G Cs,aa4⟩,⟨_,_,NT,ac7 X G Cu,aa5⟩,⟨_,_,NU,ac7 X G Cw,aa6⟩,⟨_,_,NV,ac7 X G Cz,aa7⟩,⟨_,_,NW,aa8⟩,⟨_,_,Ex,aa9⟩,⟨_,_,Ey,aba⟩,⟨_,_,Ez,abb⟩,⟨_,_,EA,abc⟩,⟨_,_,EB,abd⟩,⟨_,_,NX,ac7 X G CO,abe⟩,⟨_,_,NY,ac7 X G CQ,abf⟩,⟨_,_,NZ,ac7 X G CT,abg⟩,⟨_,_,N0,ac7 X G CV,abh⟩,⟨_,_,N1,ac7 X G CY,abi⟩,⟨_,_,N2,ac7 X G C0,abj⟩,⟨_,_,N3,ac7 X G C2,abk⟩,⟨_,_,N4,ac7 X G C4,abl⟩,⟨_,_,N5,ac7 X G C6,abm⟩,⟨_,_,N6,ac7 X G C8,abn⟩,⟨_,_,N7,ac7 X G Dc,abo⟩,⟨_,_,N8,ac7 X G De,abp⟩,⟨_,_,N9,ac7 X G Dg,abq⟩,⟨_,_,Oa,ac7 X G Di,abr⟩,⟨_,_,Ob,ac7 X G Dk,abt⟩,⟨_,_,Oc,ac7 X G Dm,abu⟩,⟨_,_,Od,ac7 X G Dq,abv⟩,⟨_,_,Oe,ac7 X G Ds,abw⟩,⟨_,_,Of,ac7 X G Du,abx⟩,⟨_,_,Og,ac7 X G Dw,aby⟩,⟨_,_,Oh,ac7 X G Dy,abz⟩,⟨_,_,Oi,ac7 X G DA,abA⟩,⟨_,_,Oj,ac7 X G vQ,abB⟩,adW X G DF,adW X G DG,adW X G DH,adW X G DI,adW X G DJ,adW X G DK,adW X G DL,adW X G DM,adW X G DN,adW X G DO,adW X G DP,adW X G DQ,adW X G DR,adW X G DS,adW X G DT,vh,ac7 X G DU,gJ,ac7 X G DV,gK,ac7 X G DW,gj,ac7 X G DX,aQ,ac7 X G DY,⟨DZ,D0,D1,D2⟩,kC,kD,pq,pw,lX,lY,⟨rK,CB,D3,D4⟩,⟨CD,D5,Ex.kp⟩,⟨CG,D6,Ey.kp⟩,⟨CI,D7,Ez.kp⟩,⟨CK,D8,EA.kp⟩,⟨CM,D9,EB.kp⟩,⟨Ea,Eb,Ec,Ed,Ee,Ef⟩,⟨Eg,Eh,Ei,Ej,Ek,El⟩,⟨Em,Eo,Ep,Er,Es,Et⟩,⟨_,ac7 X G Eu⟩,⟨_,ac7 X G Ew⟩⟩,rfl,rfl⟩
 obtain⟨T,e1,e2⟩:=T;refine⟨afv "law" "law" (kR ik) (jl ik) (aL ik) .none Bi Bj Bk Bh vP Bl,λs v=>.of_eq rfl,λbase _ _=>?_⟩;rw[<- e1,<- e2];exact aap T
theorem walk{l:ai5}{q:ado}{loose:List Str}{XP:(Str->Option acY)->aeA->Prop}{YP:adM->aeA->Prop}{d:DefRec}{K:Params->acS}(hn:l.most=some 63)(xa:d.params.defaults=[])
 (hY:∀ (w:adM) (h:aeA),YP w h->(K w.params).In h)
 (F:∀ (w:adM) (mg:Str->Option acY) (fa:ac6) (h:aeA),(K w.params).In h->h.Ns ac4 mg->mg d.name=some (.ref fa) ->
   ∃ fd:afu,(∀ (s:acZ) (u:acY),akH s fd ⟨[u],[]⟩ [("_law_script",u)])/\∀ base:aeA,(K w.params).In base->base.Ns ac4 mg->aJ l.prog w (K w.params) mg base (aK l.prog w) 13 fa fd ["_law_script"] (vK (K w.params))) :
 alp q loose XP YP l.row.toRowW d [] (λf vs=>PySem.call f vs) :=
 Gz.Sd (k:=13) (x := "_law_script") (CX:=λw=>aK l.prog w) (sp:=λw=>vK (K w.params)) hn xa ⟨rfl,by decide,by decide⟩ hY F (λ_ _ a ns hl hS=>⟨a,ns,rfl,hS,hl,λ_=>rfl⟩) λ_ _ _ _ _ z=>Gn z
end y9
namespace PySem.W.Fast
def tw8281600782915472070:=0
def tw1653123349219100550:=0
def tw12358320230882016990:=0
def tw5021815858291820581:=0
def tw6562522368267971397:=0
def tw4894179019329787092:=0
def tw11993086360347533791:=0
def tw3925946764801531699:=0
def tw2770190012100311765:=0
def tw10525471818766048681:=0
def tw14406355015829120659:=0
def tw1996862015712150295:=0
def tw2150804549938896457:=0
def tw16708363993125247044:=0
def tw1026322196797428218:=0
def tw14797178121587888459:=0
def tw5673580892183702685:=0
def tw14800403293629299294:=0
def tw14361640719160345849:=0
def tw2512960059947768644:=0
def tw6497740053688097849:=0
def tw5836668788367128840:=0
def tw11690110709339250387:=0
def tw10571944140023588574:=0
def tw5903888414337510634:=0
def tw17119957261634499521:=0
def tw16444141226659604305:=0
def tw5985841781421570078:=0
def tw4106886734412926114:=0
def tw5405554384265112130:=0
def tw6439376431599053486:=0
def tw3416375383235678178:=0
def tw7679339845730173554:=0
def tw1172874408867262944:=0
def tw7911126206067398549:=0
def tw8592246741404080537:=0
def tw11775714539913366033:=0
def tw14593113187404680625:=0
def tw7025996211544163229:=0
def tw7056239661224097830:=0
def tw17501819511342436062:=0
def tw7915940157222355539:=0
def tw14777421967914894809:=0
def tw6394291889394344942:=0
def tw4599159846286100416:=0
def tw10873019829200688197:=0
def tw4428298436993487555:=0
def tw16850493809090814591:=0
def tw9671442940161495492:=0
def tw10419077439317468094:=0
def tw3357184985565070870:=0
def tw14536881341087601249:=0
def tw1240762289672932716:=0
def tw16218834609331368242:=0
def tw6475955102175051283:=0
def tw5098374415613755713:=0
def tw11363060234603334889:=0
def tw18110685544638099817:=0
def tw5365069516673157551:=0
def tw10606960315939335511:=0
def tw12194985884568296573:=0
def tw12821082859612498601:=0
def tw16883491061751291762:=0
def tw703310937374125344:=0
def tw7075828192281926398:=0
def tw17992827679500116209:=0
def tw17976023311616264167:=0
def tw16352507849685131823:=0
def tw18751648637072172:=0
def tw10580143677424719931:=0
def tw9194659637157830296:=0
def tw11093343912106421563:=0
def tw17957068741801611192:=0
def tw4813068168980375130:=0
def tw15098533402677475261:=0
def tw3115902047932973668:=0
def tw52441380919806503:=0
def tw2111115064056858111:=0
def tw15560231602051808348:=0
def tw14760861053933038405:=0
def tw9762025798431805010:=0
def tw13111432565355422595:=0
def tw9319392594959367314:=0
def tw447651468335756032:=0
def tw15159251782644307489:=0
def tw16153658366272066927:=0
def tw3990194924579413162:=0
def tw13585854585793257989:=0
def tw1923224523875641246:=0
def tw18077664743455934686:=0
def tw16261752307713689761:=0
def tw5962009085380208307:=0
def tw4821853282505707245:=0
def tw7642099489135067001:=0
def tw10915067996590221872:=0
def tw13021191605561676899:=0
def tw14997022008653558375:=0
def tw13570779794730698379:=0
def tw15906602300815391138:=0
def tw16255203131330534726:=0
def tw10315146935486071000:=0
def tw16617247325850050027:=0
def tw16447376361776769638:=0
def tw7997459255246348610:=0
def tw1444670402092947395:=0
def tw11929557888500374697:=0
def tw12924843636786442198:=0
def tw9551546487292207141:=0
def tw2651960893679127000:=0
def tw8460720959715129587:=0
def tw9940118173112256748:=0
def tw17000423930287591:=0
def tw45759600692226380:=0
def tw14703219999602273143:=0
def tw6653772090795643125:=0
def tw9410569877020220856:=0
def tw14465115480487232526:=0
def tw9227984197649366480:=0
def tw6150993273209692490:=0
def tw14151214417771324510:=0
def tw8728671182734589200:=0
def tw6012537417470903501:=0
def tw13343152182993249025:=0
def tw7172382633707232944:=0
def tw16184319154913148685:=0
def tw10198171940436367556:=0
def tw7110747384767004906:=0
def tw5728712813544913742:=0
def tw13161734667901630048:=0
def tw11772409663956394214:=0
def tw13790486205442838531:=0
def tw3935545659179734647:=0
def tw2972974991047044707:=0
def tw11123304636388749609:=0
def tw6468435475651312029:=0
def tw1749485873591219792:=0
def tw3788446704555515879:=0
def tw4420368347424329606:=0
def tw9769010200201028011:=0
def tw12263989628519392241:=0
def tw9760142108721406320:=0
def tw17403645211137290053:=0
def tw2638897904642701257:=0
def tw11895890087165469049:=0
def tw3228694887334956052:=0
def tw980340010274724700:=0
def tw13780176262723789697:=0
def tw8967943287227909076:=0
def tw16724313163867946954:=0
def tw15981379275202727421:=0
def tw5753177874501812659:=0
def tw5071141980721835838:=0
def tw2775883168686325221:=0
def tw9598713043130211122:=0
def tw10517053148712658454:=0
def tw2573469533211881356:=0
def tw18121590526954226819:=0
def tw10855163552215759184:=0
def tw1831859125975716910:=0
def tw17374430092994410338:=0
def tw10900013777930811519:=0
def tw5139011157530132767:=0
def tw8631644524996378471:=0
def tw12144716645481561787:=0
def tw61551462987449144:=0
def tw15309044375556053682:=0
def tw17508536539850568303:=0
def tw17024457822792248331:=0
def tw4219720102417932586:=0
def tw17398999572773926900:=0
def tw3841339440922561720:=0
def tw16074528867666943364:=0
def tw17482581640935897125:=0
def tw15826924553502405802:=0
def tw357470516744392849:=0
def tw13432995438523883956:=0
def tw5719592348561273414:=0
def tw2357720848370852250:=0
def tw14162522897494754228:=0
def tw15624767019751993755:=0
def tw10972601022609275630:=0
def tw16793855148172622255:=0
def tw6949242507017755683:=0
def tw10021646766935171995:=0
def tw10651912210759359024:=0
def tw2029366659432114652:=0
def tw12430995686226091988:=0
def tw8907301011764190594:=0
def tw15702834829525098338:=0
def tw7194640849307817118:=0
def tw5231493861340565923:=0
def tw10497246995919441402:=0
def tw18341368430766839735:=0
def tw5008832062095616297:=0
def tw11107849966117677932:=0
def tw15378893207599033482:=0
def tw13211214009684188627:=0
def tw14709187116135255453:=0
def tw14576867776507797762:=0
def tw12496111553388240435:=0
end PySem.W.Fast
open PySem PySem.W PyProof.Rows
set_option maxRecDepth 100000 in
set_option maxHeartbeats 0 in
theorem PySem.Challenge.cw_gaze_k47_whole_the_truth_stays_in_holds : PySem.Challenge.rw_gaze_k47_whole_the_truth_stays_in.Holds := by
 w_on;o_law;k_head;(case hw=>w_witness2)
 k_fill
 refine y9.walk (l:=PySem.Challenge.rw_gaze_k47_whole_the_truth_stays_in) rfl rfl (λw h Y=>PySem.W.kIn_of Y) ?F
 case F =>
  intro w mg fa h KX G hmg;refine' y9.aat KX G hmg ?Bm ?Bn ?Bo ?Bp ?Bq ?Br ?Bs ?Bu ?Bv ?Bw ?Bx ?By ?Bz ?BA ?BB ?BC ?BD ?BE ?BF ?BG ?BH ?BI ?BJ ?BK ?BL ?BM ?BN ?BO ?BP ?BQ ?BR ?BS ?BU ?BV ?BW ?BX ?BY ?BZ ?B0 ?B1 ?B2 ?B3 ?B4 ?B5 ?B6 ?B7 ?Ca ?Cb ?Cc ?Cd ?Ce ?Cf ?Cg ?Ci ?Cj ?Ck ?Cm ?Cn ?Co ?Cp ?Cq ?Cr ?Cs ?Ct ?Cu ?Cv ?Cw ?Cy ?Cz ?CA ?CB ?CC ?CD ?CF ?CG ?CH ?CI ?CJ ?CK ?CL ?CM ?CN ?CO ?CP ?CQ ?CS ?CT ?CU ?CV ?CW ?CY ?CZ ?C0 ?C1 ?C2 ?C3 ?C4 ?C5 ?C6 ?C7 ?C8 ?C9 ?Dc ?Dd ?De ?Df ?Dg ?Dh ?Di ?Dj ?Dk ?Dl ?Dm ?Dp ?Dq ?Dr ?Ds ?Dt ?Du ?Dv ?Dw ?Dx ?Dy ?Dz ?DA ?DB ?vQ ?DC ?DD ?DE ?DF ?DG ?DH ?DI ?DJ ?DK ?DL ?DM ?DN ?DO ?DP ?DQ ?DR ?DS ?DT ?DU ?DV ?DW ?DX ?DY ?DZ ?D0 ?D1 ?D2 ?kC ?kD ?pq ?pw ?lX ?lY ?D3 ?rK ?D4 ?D5 ?D6 ?D7 ?D8 ?D9 ?Ea ?Eb ?Ec ?Ed ?Ee ?Ef ?Eg ?Eh ?Ei ?Ej ?Ek ?El ?Em ?Eo ?Ep ?Er ?Es ?Et ?Eu ?Ew
  (case DU|DV|DW|DX|DY|Bm=>k_is)
  (case Bn=>refine' Gz.FA.mk ?l ?c ?k;(case l=>k_is);(case c=>k_is);(case k=>k_is))
  (case Bo=>k_is)
  (case Bp=>refine' Gz.FA.mk ?l ?c ?k;(case l=>k_is);(case c=>k_is);(case k=>k_is))
  (case Bq=>k_is)
  (case Br=>refine' Gz.FA.mk ?l ?c ?k;(case l=>k_is);(case c=>k_is);(case k=>k_is))
  (case Bs=>k_is)
  (case Bu=>refine' Gz.FA.mk ?l ?c ?k;(case l=>k_is);(case c=>k_is);(case k=>k_is))
  (case Bv=>k_is)
  (case Bw=>refine' Gz.FA.mk ?l ?c ?k;(case l=>k_is);(case c=>k_is);(case k=>k_is))
  (case Bx=>k_is)
  (case By=>refine' Gz.FA.mk ?l ?c ?k;(case l=>k_is);(case c=>k_is);(case k=>k_is))
  (case Bz=>k_is)
  (case BA=>refine' Gz.FA.mk ?l ?c ?k;(case l=>k_is);(case c=>k_is);(case k=>k_is))
  (case BB=>k_is)
  (case BC=>refine' Gz.FA.mk ?l ?c ?k;(case l=>k_is);(case c=>k_is);(case k=>k_is))
  (case BD=>k_is)
  (case BE=>refine' Gz.FA.mk ?l ?c ?k;(case l=>k_is);(case c=>k_is);(case k=>k_is))
  (case BF=>k_is)
  (case BG=>refine' Gz.FA.mk ?l ?c ?k;(case l=>k_is);(case c=>k_is);(case k=>k_is))
  (case BH=>k_is)
  (case BI=>refine' Gz.FA.mk ?l ?c ?k;(case l=>k_is);(case c=>k_is);(case k=>k_is))
  (case BJ=>k_is)
  (case BK=>refine' Gz.FA.mk ?l ?c ?k;(case l=>k_is);(case c=>k_is);(case k=>k_is))
  (case BL=>k_is)
  (case BM=>refine' Gz.FA.mk ?l ?c ?k;(case l=>k_is);(case c=>k_is);(case k=>k_is))
  (case BN=>k_is)
  (case BO=>refine' Gz.FA.mk ?l ?c ?k;(case l=>k_is);(case c=>k_is);(case k=>k_is))
  (case BP=>k_is)
  (case BQ=>refine' Gz.FA.mk ?l ?c ?k;(case l=>k_is);(case c=>k_is);(case k=>k_is))
  (case BR=>k_is)
  (case BS=>refine' Gz.FA.mk ?l ?c ?k;(case l=>k_is);(case c=>k_is);(case k=>k_is))
  (case BU=>k_is)
  (case BV=>refine' Gz.FA.mk ?l ?c ?k;(case l=>k_is);(case c=>k_is);(case k=>k_is))
  (case BW=>k_is)
  (case BX=>refine' Gz.FA.mk ?l ?c ?k;(case l=>k_is);(case c=>k_is);(case k=>k_is))
  (case BY=>k_is)
  (case BZ=>refine' Gz.FA.mk ?l ?c ?k;(case l=>k_is);(case c=>k_is);(case k=>k_is))
  (case B0=>k_is)
  (case B1=>refine' Gz.FA.mk ?l ?c ?k;(case l=>k_is);(case c=>k_is);(case k=>k_is))
  (case B2=>k_is)
  (case B3=>refine' Gz.FA.mk ?l ?c ?k;(case l=>k_is);(case c=>k_is);(case k=>k_is))
  (case B4=>k_is)
  (case B5=>refine' Gz.FA.mk ?l ?c ?k;(case l=>k_is);(case c=>k_is);(case k=>k_is))
  (case B6=>k_is)
  (case B7=>refine' Gz.FA.mk ?l ?c ?k;(case l=>k_is);(case c=>k_is);(case k=>k_is))
  (case Ca=>k_is)
  (case Cb=>refine' Gz.FA.mk ?l ?c ?k;(case l=>k_is);(case c=>k_is);(case k=>k_is))
  (case Cc=>k_is)
  (case Cd=>refine' Gz.FA.mk ?l ?c ?k;(case l=>k_is);(case c=>k_is);(case k=>k_is))
  (case Ce=>k_is)
  (case Cf=>refine' Gz.FA.mk ?l ?c ?k;(case l=>k_is);(case c=>k_is);(case k=>k_is))
  (case Cg=>k_is)
  (case Ci=>refine' Gz.FA.mk ?l ?c ?k;(case l=>k_is);(case c=>k_is);(case k=>k_is))
  (case Cj=>k_is)
  (case Ck=>refine' Gz.FA.mk ?l ?c ?k;(case l=>k_is);(case c=>k_is);(case k=>k_is))
  (case Cm=>k_is)
  (case Cn=>refine' Gz.FA.mk ?l ?c ?k;(case l=>k_is);(case c=>k_is);(case k=>k_is))
  (case Co=>k_is)
  (case Cp=>refine' Gz.FA.mk ?l ?c ?k;(case l=>k_is);(case c=>k_is);(case k=>k_is))
  (case Cq=>k_is)
  (case Cr=>refine' Gz.FA.mk ?l ?c ?k;(case l=>k_is);(case c=>k_is);(case k=>k_is))
  (case Cs=>k_is)
  (case Ct=>refine' Gz.FA.mk ?l ?c ?k;(case l=>k_is);(case c=>k_is);(case k=>k_is))
  (case Cu=>k_is)
  (case Cv=>refine' Gz.FA.mk ?l ?c ?k;(case l=>k_is);(case c=>k_is);(case k=>k_is))
  (case Cw=>k_is)
  (case Cy=>refine' Gz.FA.mk ?l ?c ?k;(case l=>k_is);(case c=>k_is);(case k=>k_is))
  (case Cz=>k_is)
  (case CA=>refine' Gz.FA.mk ?l ?c ?k;(case l=>k_is);(case c=>k_is);(case k=>k_is))
  (case CB=>k_is)
  (case CC=>refine' Gz.FA.mk ?l ?c ?k;(case l=>k_is);(case c=>k_is);(case k=>k_is))
  (case CD=>k_is)
  (case CF=>refine' Gz.FA.mk ?l ?c ?k;(case l=>k_is);(case c=>k_is);(case k=>k_is))
  (case CG=>k_is)
  (case CH=>refine' Gz.FA.mk ?l ?c ?k;(case l=>k_is);(case c=>k_is);(case k=>k_is))
  (case CI=>k_is)
  (case CJ=>refine' Gz.FA.mk ?l ?c ?k;(case l=>k_is);(case c=>k_is);(case k=>k_is))
  (case CK=>k_is)
  (case CL=>refine' Gz.FA.mk ?l ?c ?k;(case l=>k_is);(case c=>k_is);(case k=>k_is))
  (case CM=>k_is)
  (case CN=>refine' Gz.FA.mk ?l ?c ?k;(case l=>k_is);(case c=>k_is);(case k=>k_is))
  (case CO=>k_is)
  (case CP=>refine' Gz.FA.mk ?l ?c ?k;(case l=>k_is);(case c=>k_is);(case k=>k_is))
  (case CQ=>k_is)
  (case CS=>refine' Gz.FA.mk ?l ?c ?k;(case l=>k_is);(case c=>k_is);(case k=>k_is))
  (case CT=>k_is)
  (case CU=>refine' Gz.FA.mk ?l ?c ?k;(case l=>k_is);(case c=>k_is);(case k=>k_is))
  (case CV=>k_is)
  (case CW=>refine' Gz.FA.mk ?l ?c ?k;(case l=>k_is);(case c=>k_is);(case k=>k_is))
  (case CY=>k_is)
  (case CZ=>refine' Gz.FA.mk ?l ?c ?k;(case l=>k_is);(case c=>k_is);(case k=>k_is))
  (case C0=>k_is)
  (case C1=>refine' Gz.FA.mk ?l ?c ?k;(case l=>k_is);(case c=>k_is);(case k=>k_is))
  (case C2=>k_is)
  (case C3=>refine' Gz.FA.mk ?l ?c ?k;(case l=>k_is);(case c=>k_is);(case k=>k_is))
  (case C4=>k_is)
  (case C5=>refine' Gz.FA.mk ?l ?c ?k;(case l=>k_is);(case c=>k_is);(case k=>k_is))
  (case C6=>k_is)
  (case C7=>refine' Gz.FA.mk ?l ?c ?k;(case l=>k_is);(case c=>k_is);(case k=>k_is))
  (case C8=>k_is)
  (case C9=>refine' Gz.FA.mk ?l ?c ?k;(case l=>k_is);(case c=>k_is);(case k=>k_is))
  (case Dc=>k_is)
  (case Dd=>refine' Gz.FA.mk ?l ?c ?k;(case l=>k_is);(case c=>k_is);(case k=>k_is))
  (case De=>k_is)
  (case Df=>refine' Gz.FA.mk ?l ?c ?k;(case l=>k_is);(case c=>k_is);(case k=>k_is))
  (case Dg=>k_is)
  (case Dh=>refine' Gz.FA.mk ?l ?c ?k;(case l=>k_is);(case c=>k_is);(case k=>k_is))
  (case Di=>k_is)
  (case Dj=>refine' Gz.FA.mk ?l ?c ?k;(case l=>k_is);(case c=>k_is);(case k=>k_is))
  (case Dk=>k_is)
  (case Dl=>refine' Gz.FA.mk ?l ?c ?k;(case l=>k_is);(case c=>k_is);(case k=>k_is))
  (case Dm=>k_is)
  (case Dp=>refine' Gz.FA.mk ?l ?c ?k;(case l=>k_is);(case c=>k_is);(case k=>k_is))
  (case Dq=>k_is)
  (case Dr=>refine' Gz.FA.mk ?l ?c ?k;(case l=>k_is);(case c=>k_is);(case k=>k_is))
  (case Ds=>k_is)
  (case Dt=>refine' Gz.FA.mk ?l ?c ?k;(case l=>k_is);(case c=>k_is);(case k=>k_is))
  (case Du=>k_is)
  (case Dv=>refine' Gz.FA.mk ?l ?c ?k;(case l=>k_is);(case c=>k_is);(case k=>k_is))
  (case Dw=>k_is)
  (case Dx=>refine' Gz.FA.mk ?l ?c ?k;(case l=>k_is);(case c=>k_is);(case k=>k_is))
  (case Dy=>k_is)
  (case Dz=>refine' Gz.FA.mk ?l ?c ?k;(case l=>k_is);(case c=>k_is);(case k=>k_is))
  (case DA=>k_is)
  (case DB=>refine' Gz.FA.mk ?l ?c ?k;(case l=>k_is);(case c=>k_is);(case k=>k_is))
  (case vQ|DC|DD|DE|DF|DG|DH|DI|DJ|DK|DL|DM|DN|DO|DP|DQ|DR|DS|DT|DZ|D0|D1|D2|kC|kD|pq|pw|lX|lY|D3|rK|D4|D5|D6|D7|D8|D9=>k_is)
  (case Ea=>k_exc)
  (case Eb|Ec|Ed|Ee|Ef=>k_is)
  (case Eg=>k_exc)
  (case Eh|Ei|Ej|Ek|El=>k_is)
  (case Em=>k_exc)
  (case Eo|Ep|Er|Es|Et|Eu|Ew=>k_is)
#print axioms PySem.Challenge.cw_gaze_k47_whole_the_truth_stays_in_holds
