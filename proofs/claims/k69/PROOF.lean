import PyProof.Rows.All
import Wide.All
import OpenK.AllK
import Wide.FinOn
import Lean
import PyProof.EqAt
import PyProof.EqKinds
import PyProof.TupleCall
import KE.KSortAsk
import KE.KSortTup
import KE.KRevIter
import KE.LcSums
import KE.KDictSum
import KE.KDictList
import PyProof.AttrMissHeap
import PySem.Challenge.RW_gaze_k69_reasons_of_many_words
set_option Elab.async false
set_option linter.all false
set_option maxRecDepth 100000
set_option maxHeartbeats 4000000
set_option exponentiation.threshold 2000
set_option compiler.extract_closed false
open PySem renaming wpAny_bind → acq, wpAny_pure → acw, Value → acB, Addr → acF, Shared → acI, wpAny → acQ, lookup_relabel_local → acR, mainGlobals → acU, sizeLine → acV, starEach → acW, bootBuiltins → adj, wpAny_truthy_bool → adm, Program → adn, compareOp → adx, codeAny_builtin → adM, wpAny_mono → adN, wpAny_newObj_type → adP, wpAny_dictEntries → adR, wpAny_Call_Name_kw → adT, wpAny_call_entry → adX, wpAny_holding → adY, wpAny_callSpecial?_slot → ad1, World → ad2, sysModules → ad6, Around → aeb, Stmt → aee, backTo → ael, intItems → aeo, wpAny_typeNameOfWhole_keyiter → aer, plainId_quiet → aet, foldedSetIterable → aew, mem_of_lookup → aeA, Builtin → aeB, DictEntry → aeC, wpAny_updateSeq → aeD, behindInMarks → aeM, tupleKind_room_in1 → aeP, builtinLookup_eq_fast → aeQ, wpAny_missedRemoval_other → aeS, Heap → aeV, size_of_entries → aeY, wpAny_typeNameOf_keyiter → aeZ, wpAny_isInstance → afa, pyNext → afj, wpAny_specialOf → afo, tupleKeyHash → afp, binaryOp → afr, FuncData → afs, wpAny_seqItems → afA, wpAny_tryCatch → afB, wpAny_fieldsOf → afD, wpAny_askSetting → afF, sizeLine_eq → afG, codeAny → afH, sliceBounds → afI, wpAny_letGo → afJ, codeAny_mono → afM, wpAny_rule → afP, wpAny_execs_nil → afR, wpAny_passesOwn → afS, attributeBase → afT, wpAny_attempt → afZ, typeLookup_type → af0, wpAny_ite_split → af1, rawInt → af4, wpAny_pyIter_list → af9, keywordEach → agb, wpAny_setState_of → agg, wpAny_setField → agi, swapsWith → agm, wpAny_notOrdered_dict → agq, wpAny_isOneOf_keyiter → ags, Expr → agu, intKind → agv, cLine → agB, assignEach → agG, tupleKind → agI, letOwnedTupleGo → agJ, richCompare → agM, argBest → agO, wpAny_dictEpoch → agT, wpAny_setEntries_of → agV, Tok → agW, wpAny_field → agY, entryFor → ag3, PyData → ag4, wpAny_setField_rec → ag7, firstArgMember → ahe, wpAny_getItem_list_slice → aho, wpAny_comprehension_free → ahp, updateSeq → ahq, wpAny_pyIter_enum → ahr, wpAny_pyIter_slot → ahs, hashInt → ahy, wpAny_of_eq → ahB, intItems_at → ahC, wpAny_eqBool_int → ahK, wpAny_execs_cons → ahL, wpAny_forIn_list → ahM, argsOk → ahN, wpAny_pyNext_range_end → ahS, wpAny_pyIter_rangeiter → ahT, wpAny_pyNext_enum_item → ahY, wpAny_isTrue_Compare1 → ah5, getMethod → ah7, wpAny_pyNext_enum_end → aic, entryOfKey → aim, wpAny_call → ain, backToKw → aio, NameKind → aip, typeLookup → aiq, Scope → air, codeAny_call_builtin → aiu, wpAny_pyIter_revIter → aiv, wpAny_pyIter_keyiter → aiy, isSubtype_stop → aiD, isSubtype_type → aiF, wpAny_Assign_stores → aiH, IsRangeIter → aiI, numAt → aiL, call_enumerate_list → aiN, atKey → aiP, wpAny_standAt → aiY, wpAny_pyIter_tuple → aiZ, wpAny_pyIter_range → ai0, evalPart_none → ai1, seqItems? → ai5, wpAny_tupleItemsOf → ajd, standAt → ajg, BindsTo → ajl, call_meets → ajn, list_append → ajo, valueAt → aju, Within → ajz, Result → ajB, seqIndex_neg → ajD, wpAny_typeOf → ajH, checkBuiltinCall → ajM, wpAny_pyIter_zip → ajO, setField → ajS, lastMarks → ajU, wpAny_loadPart' → ajW, getItem → ajX, seqIndex_of → ajY, slicePick → aj0, Keyword → aj1, callerA → aj2, notedBy → aj4, builtinKind → aj5, plainId → aj6, codeAny_of_tree → aki, builtinsNs → akv, wpAny_Name → akw, typeIs_int → aky, closureFor → akz, setsByText → akE, callWith → akG, compEnvC → akH, newTuple → akJ, SetTable → akL, Paired → akS, isTrue → akT, pyIter → akU, pickOrder → ak1, bindL → ak6, bindC → ak7, newList → ala, setNext → alb
open PySem.W renaming Frag → acr, findIn → ac0, nsIn → ac6, mg_none_of → ade, mg_of → adE, keepIn → adH, kia_one → ad3, emptyDict → ad7, kitOne → aea, makesIn → aei, instObj → aey, callWith_K → afh, methodCall_KW → afk, fnOf → afl, subIn → afV, plainGet → agw, plainGet_of → agK, lookIn → ag9, typeIn → aha, codeIn → ahb, exmOne → ahc, methodObj → ahj, hasDictIn → ahk, specialIn → ahl, cellsFrom_some → ahU, hideAll → ah3, isFn → ah6, takerIn → ah8, OpenLaw → aid, KdlSrc → aiE, hideAll_get → aiG, callWith_K0 → aiJ, of_hideAll → aiV, clsIn → ai4, plainOver → aji, kitx_list → ajj, kitx_dict → ajk, handedIn → ajK, kitMeta → aj3, readsIn → aka, findCls → akb, WalkO → akI
open List renaming length_map → acs, getD_eq_getElem?_getD → acu, getElem?_eq_getElem → acv, getElem?_eq_some_iff → acz, range → acD, mem_map → acE, length_range → acH, getElem?_map → acJ, size_toArray → acK, mem_cons → acL, mem_of_getElem? → acM, map_cons → acN, nil_append → acT, mem_range → acY, mem_filter → acZ, length_append → ac1, mem_append → ac4, mem_append_right → ac7, length_singleton → ac8, mem_singleton → ac9, length_cons → ada, length_filter_le → adb, filter_cons → adk, map_map → ado, mem_cons_of_mem → adp, take_succ → ads, take_length → adu, any_eq_true → adv, getElem?_range → adw, all_eq_true → adA, nodup_cons → adC, mem_iff_getElem? → adD, getElem?_eq_none → adK, getElem?_append_right → adL, getElem?_append_left → adO, drop_eq_getElem_cons → adQ, filterMap_cons → adU, any_cons → ad0, map_append → aec, find?_cons → aed, length_take → aef, length_reverse → aeh, length_nil → aej, mem_append_left → aes, length_eq_zero_iff → aeu, filter_eq_self → aeF, map_congr_left → aeH, not_mem_nil → aeK, mem_flatMap → aeL, getElem?_reverse → aeN, toArray → aeO, take_append_drop → aeR, map_nil → ae3, all_cons → ae4, length_drop → ae9, eq_nil_of_length_eq_zero → afb, drop_eq_nil_of_le → afe, mem_cons_self → afg, ext_getElem? → afu, replicate → afz, all_map → afQ, getElem?_replicate → afU, getElem?_cons_succ → afX, getElem?_drop → af2, take_of_length_le → af6, drop_of_length_le → af7, lookup → aga, reverse_cons → agc, foldl_append → age, nodup_nil → agj, foldl_cons → agP, filter_sublist → agS, toList_toArray → agX, mem_filterMap → ag1, zip_cons_cons → ag2, all_nil → ag6, pairwise_iff_getElem → ahd, findIdx?_eq_none_iff → ahg, getElem?_take_of_lt → ahn, length_erase_of_mem → ahu, nodup_append → ahv, sum_cons → ahE, eraseIdx_cons_succ → ahF, getElem_mem → ahP, ext_getElem → ahQ, getElem?_set_self → ahR, length_pos_of_mem → ah2, of_mem_zip → ah9, length_replicate → aia, map_id' → ail, getElem?_set_ne → ais, mem_erase_of_ne → aiA, length_pos_iff → aiM, getElem_of_mem → aiR, flatMap_append → aiS, length_flatMap → aiT, pairwise_cons → ajc, map_take → aje, any_eq_false → ajh, append_assoc → ajs, pairwise_map → ajt, any_map → ajI, drop_length → ajL, append_nil → ajV, length_set → ajZ, sum_append → akd, getD → akk, range_succ → akl, findIdx? → akN, map_drop → akO, sum_nil → akZ
open PySem.Heap renaming get?_push_of_some → acx, lt_size → acy, get?_push_size → acG, get?_update_other → acS, get?_update_self → adh, size_push → afc, FlyingW → ajF, ExtBut → ake
open Nat renaming le_trans → acA, le_refl → acC, ne_of_lt → acO, lt_of_lt_of_le → acX, zero_le → ac5, lt_of_le_of_lt → adI, ne_of_gt → adJ, lt_irrefl → ad4, not_lt_zero → aek, lt_succ_self → ae8, lt_succ_of_lt → afv, min_eq_left → afW, le_of_lt → agl, le_succ → agL, min_eq_right → ahO, lt_of_succ_lt_succ → ah0, sub_self → aik, eq_zero_or_pos → ajb, le_succ_of_le → ajw, lt_trans → ajG, succ_ne_self → ajQ, le_add_right → ajR, le_of_eq → akW, zero_add → ak2, log2_lt → ak9
open Bool renaming false_ne_true → acP, false_eq_true → ac2, and_eq_true → adz, eq_iff_iff → adV, and_true → afY, false_and → agh, not_true → agE, or_eq_true → agQ, and_self → ahD, true_and → ahI, and_eq_false_iff → aih, and_false → aiB, or_false → ai2, false_or → ai8, eq_false_iff → ajp, not_not → ajJ, not_false → akt
open PySem.Value renaming ref → ac3, bool → ad5, int → aeU, isInt → af8, type → ahi, str → aiU, float → ajT, isStrOf → akF, builtin → akK, bytes → ak4
open Option renaming map_eq_some_iff → adf, isNone → afw, ne_none_iff_exists' → afx, isSome_iff_exists → afN, getD_some → agx, toList_some → ai7, isSome_map → ajv
open PyProof.Rows renaming callWith_type1 → adg, envOfC → aen, callWith_builtin1 → ae2, seqObj → afi, IntsAre → afm, kindOf → ahm, subscriptTail → ahA, subscriptTail_builtinR → ahW, AllBare → ah4, mirror_perm → aiO, Constant_none → aiX, listUpdate_at → aja, Subscript_ → ajm, get?_update_seq → akf, seqEpoch_at → akg, mulOk_of_bits → akm, boot_range → akx, test_link → akV, bits_add → akX, bits_mul → akY, Call_ → ak5, lt_int → ak8
open Array renaming getElem?_eq_getElem → adi, length_toList → aez, getElem?_eq_none → aff, getElem?_toList → agt, mem_toList_iff → agz, getD_eq_getD_getElem? → agR, toArray_toList → aiz, append_assoc → aiW, toList_push → ajy, toList → ajA, getD → akA
open PySem.PassesOwn renaming never → adl, leaving → ae1
open PySem.Around renaming under_plainId → adq, under → ajC
open Int renaming toNat_natCast → adt, le_refl → adW, toNat_of_nonneg → ae7, mul_nonneg → agk, zero_add → ag8, le_trans → aib, toNat → aij, emod_lt_of_pos → ai6, ediv_le_self → ajP, le_antisymm → aj7, ediv_nonneg → aj8, emod_nonneg → akc, mul_le_mul → aku, ediv_one → ak0
open Ne renaming symm → ady
open PySem.Builtin.Range renaming rangeSize → adB, rangeFitsLong → aj9
open PySem.F renaming plainAttrs_list → adF, slot_dict_keyiterator_next → ad9, slot_list_append → aep, type_list_append → aeq, slot_enumerate_next → aeI, plain_min_loop → aeJ, plain_extend_loop → aeT, args_dict_keyiterator_next_1 → afC, entry_dict_keyiterator_next → afK, slot_list_index → af3, entry_min_loop → af5, slot_tuple_lt → agn, args_enumerate_next_1 → agy, entry_enumerate_next → agF, excBase_ValueError → ag0, entry_extend_loop → ahh, slot_list_extend → ahw, type_list_extend → ahx, args_tuple_lt_2 → ahz, type_list_index → ahJ, entry_tuple_lt → ahV, slot_dict_iter → ahZ, slot_dict_pop → aie, slot_dict_len → aif, plain_set_new → aii, args_list_append_2 → ait, entry_list_append → aiK, slot_list_append → ai3, plain_min → ajq, entry_min → ajr, kind_min → ajN, slot_set_iter → akj
open PySem.Heap.SameBut renaming update → adG
open PySem.Str renaming ofString → adS
open PySem.Obj renaming mapSeq → adZ, mapFields → aft, data_mapDictKeys → afy, isFreed_of_dict → aiQ, data_mapFields → ai9, putSet → akD
open PySem.SetTable.below renaming go → ad8
open False renaming elim → aeg
open PySem.Calls renaming spliced_cons → aem, spliced_nil → aex, evalArgs_plain → agA, Name_function_global → agZ, call_function_entry → ahf, callWith_builtin → ahX
open PyProof.Rows.F renaming plain_set_update_loop → aev, entry_set_update_loop → afE
open PySem.Builtin.Builtins renaming bindParams → aeE
open PySem.Builtin.List renaming listExtendWith → aeG, listLengthHint → afq, listTooLong → afO, listSameRef → aht, listItems → ah1, listUpdate → akP, listTouch → akR
open True renaming intro → aeW
open PySem.W.WData renaming int → aeX, weightAll → ae6, layable → agp, weight → aiw, layableAll → akB
open PySem.SetTable.probe renaming go → ae0
open PySem.Builtin.Int renaming intBits → ae5
open PySem.PyData renaming eqv → afd, depthAll → afn, canLayAll0 → agd, eqvAll → agC, canLay0 → aiC
open PySem.Builtin.SmallTypes renaming ownedTupleIsFree → afL
open PySem.SetTable renaming insertAt → agf, probeStart → agU, has → ag5, fill → ahH, freeSlot → ajx, runEnd → akh, probe → akr, turns → aks, slot → akM
open Or renaming inl → ago, inr → ajE
open PySem.Builtin.Dict renaming showsAll → agr, entriesForEmpty → agD, updateFrom → ahG, takeOut → aix, keyAndDefault → akn, dictSlotNone → ako, pendingCount → akp, readDirectly → akq, selfAndRest → akC, mergeDict → akQ, quietEq → ak3, merge → alc
open Sum renaming inl → agH, inr → ajf
open ForInStep renaming yield → agN
namespace L2
open PySem PySem.Spec PyProof.Rows
abbrev Key:=Sum Int Str
noncomputable def pd:Key->acB->Bool
 | .inl k,v=>af8 k v
 | .inr x,v=>akF x v
noncomputable def NL(w:ad2):Key->Int
 | .inl k=>ahy k
 | .inr x=>hashStr w x
theorem kL:∀ {k:Key} {v:acB},pd k v=true->(∃ i t,k=agH i/\v=aeU i t)∨(∃ x t,k=ajf x/\v=aiU x t)
 | .inl i,v,h=>by obtain⟨t,e⟩:=Value.isInt_shape (k:=i) (v:=v) h;exact .inl ⟨i,t,rfl,e⟩
 | .inr x,v,h=>by obtain⟨t,e⟩:=Value.isStrOf_shape (x:=x) (v:=v) h;exact .inr ⟨x,t,rfl,e⟩
theorem NM(i:Int)(t:Tok):pd (.inl i) (.int i t)=true:=by simp[pd,af8]
theorem NN(x:Str)(t:Tok):pd (.inr x) (.str x t)=true:=by simp[pd,akF]
theorem NO(a b:Int):decide ((agH a:Key)=agH b)=(a == b):=by
 by_cases e:a=b
 .subst e;simp
 .have h:¬ (agH a:Key)=agH b:=λq=>e (Sum.inl.inj q);rw[decide_eq_false h];exact (beq_eq_false_iff_ne.mpr e).symm
theorem NP(a b:Str):decide ((ajf a:Key)=ajf b)=decide (a=b):=by
 by_cases e:a=b
 .subst e;simp
 .have h:¬ (ajf a:Key)=ajf b:=λq=>e (Sum.inr.inj q);rw[decide_eq_false h,decide_eq_false e]
theorem NQ(a:Int)(b:Str):decide ((agH a:Key)=ajf b)=false:=decide_eq_false (λq=>nomatch q)
theorem NR(a:Str)(b:Int):decide ((ajf a:Key)=agH b)=false:=decide_eq_false (λq=>nomatch q)
noncomputable def cS(prog:adn)(w:ad2):PySem.KeyKind prog w Key where
 is:=pd
 hash:=NL w
 inj:=λv a b ha hb=>by
  rcases kL ha with ⟨i,t,rfl,rfl⟩|⟨x,t,rfl,rfl⟩
  .rcases kL hb with ⟨j,u,rfl,e⟩|⟨y,u,rfl,e⟩
   .injection e with e1 _;rw[e1]
   .exact nomatch e
  .rcases kL hb with ⟨j,u,rfl,e⟩|⟨y,u,rfl,e⟩
   .exact nomatch e
   .injection e with e1 _;rw[e1]
 byValue:=λk v h=>by
  rcases kL h with ⟨i,t,rfl,rfl⟩|⟨x,t,rfl,rfl⟩<;>rfl
 pyHash:=λhv h=>by
  rcases kL hv with ⟨i,t,rfl,rfl⟩|⟨x,t,rfl,rfl⟩
  .exact wpAny_pyHash_int h
  .exact wpAny_pyHash_str h
 eqBool:=λhu hv h=>by
  rcases kL hu with ⟨i,t,rfl,rfl⟩|⟨x,t,rfl,rfl⟩
  .rcases kL hv with ⟨j,u,rfl,rfl⟩|⟨y,u,rfl,rfl⟩
   .rw[NO] at h;exact ahK h
   .rw[NQ] at h;exact SeqAt.EqAt.int_str i t y u _ _ _ _ h
  .rcases kL hv with ⟨j,u,rfl,rfl⟩|⟨y,u,rfl,rfl⟩
   .rw[NR] at h;exact SeqAt.EqAt.str_int x t j u _ _ _ _ h
   .rw[NP] at h;exact wpAny_eqBool_str h
 «strs»:=λk x t v h=>by
  rcases kL h with ⟨i,u,rfl,e⟩|⟨y,u,rfl,e⟩
  .exact nomatch e
  .injection e with e1 _;subst e1;cases v<;>rfl
theorem NS(prog:adn)(w:ad2)(i:Int)(t:Tok):(cS prog w).is (.inl i) (.int i t)=true:=NM i t
theorem NT(prog:adn)(w:ad2)(x:Str)(t:Tok):(cS prog w).is (.inr x) (.str x t)=true:=NN x t
inductive V where
 | non|bl (b:Bool)|int (i:Int)|str (x:Str)|byt (b:Array UInt8)|flt (b:UInt64)|ref (a:acF)|ty (n:String)
 deriving DecidableEq
def RelV:V->acB->Prop
 | .non,u=>u=Value.none
 | .bl b,u=>u=ad5 b
 | .int i,u=>∃ t,u=aeU i t
 | .str x,u=>∃ t,u=aiU x t
 | .byt b,u=>∃ t,u=ak4 b t
 | .flt b,u=>∃ t,u=ajT b t
 | .ref a,u=>u=ac3 a
 | .ty n,u=>u=ahi n
abbrev Vals:List V->List acB->Prop:=akS RelV
theorem Vals.length(r:Vals xs us):xs.length=us.length:=Paired.length r
theorem Vals.get:∀ {xs:List V} {us:List acB} {i:Nat} {x:V},Vals xs us->xs[i]?=some x->∃ u,us[i]?=some u/\RelV x u
 | _,_,_,_,.nil,e=>by simp at e
 | _,_,0,_,.cons r _,e=>by simp at e;subst e;exact⟨_,rfl,r⟩
 | _,_,i+1,x,.cons _ t,e=>by obtain⟨u,h1,h2⟩:=Vals.get (i:=i) (x:=x) t (by simpa using e);exact⟨u,by simpa using h1,h2⟩
theorem Vals.set(r:RelV x u):∀ {xs:List V} {us:List acB} (i:Nat),Vals xs us->Vals (xs.set i x) (us.set i u)
 | _,_,_,.nil=>.nil
 | _,_,0,.cons _ t=>.cons r t
 | _,_,i+1,.cons q t=>.cons q (Vals.set r i t)
theorem Vals.append:∀ {xs ys:List V} {us ws:List acB},Vals xs us->Vals ys ws->Vals (xs++ys) (us++ws):=by
 intro xs ys us ws h s
 induction h with
 | nil=>exact s
 | cons r t ih=>exact .cons r ih
theorem Vals.take:∀ {xs:List V} {us:List acB} (n:Nat),Vals xs us->Vals (xs.take n) (us.take n)
 | _,_,0,_=>.nil
 | _,_,_+1,.nil=>.nil
 | _,_,n+1,.cons r t=>.cons r (Vals.take n t)
theorem Vals.drop:∀ {xs:List V} {us:List acB} (n:Nat),Vals xs us->Vals (xs.drop n) (us.drop n)
 | _,_,0,r=>r
 | _,_,_+1,.nil=>.nil
 | _,_,n+1,.cons _ t=>Vals.drop n t
def fM:Option V->Option acB->Prop
 | some v,some u=>RelV v u
 | none,none=>True
 | _,_=>False
def KV{κ:Type}:List (κ × V)->List (κ × acB)->Prop:=akS λ(p:κ × V) (q:κ × acB)=>p.1=q.1/\RelV p.2 q.2
noncomputable def kV:Key->V
 | .inl i=>.int i
 | .inr x=>.str x
inductive HO where
 | lst (xs:List V)
 | tup (xs:List V)
 | dK (kvs:List (Key × V))|dT (kvs:List (List Key × V))
 | set (S:Int->Bool) (n:Nat)
 | ins (C dx:acF) (fs:List (Str × V))
 | own (x:acF)
 | xd (fs:List (Str × V))
 | met (f x:acF)
 | fZ (lo hi:Int)
 | aQ (o:Obj) (u:HO)
 | tbl (ps:Array acB)
 | ext (φ:aeV->Prop)
abbrev Hp:=acF->Option HO
noncomputable def upd(H:Hp)(a:acF)(o:HO):Hp:=λb=>if b=a then some o else H b
theorem aq:upd H a o a=some o:=by unfold upd;rw[if_pos rfl]
theorem aD(h:b≠a):upd H a o b=H b:=by unfold upd;rw[if_neg h]
theorem jf:upd (upd H a o) a u=upd H a u:=by funext b;unfold upd;split<;>rfl
theorem pf{H:Hp}{a b:acF}{o u:HO}(h:H a=some o)(h':H b=some u)(d:o≠u):a≠b:=by intro e;subst e;rw[h] at h';exact d (Option.some.inj h')
theorem jg{H:Hp}{a b:acF}{o:HO}(h:H a=some o)(h':H b=none):a≠b:=by intro e;subst e;rw[h] at h';cases h'
section
variable(P:adn)(w:ad2)
def bN(H:Hp)(h:aeV)(a:acF):HO->Prop
 | .lst xs=>xs.length<=acV/\∃ (ao:List acB) (n:Nat),Vals xs ao/\h.get? a=some { cls:=.type "list",data:=.seq ao.toArray n }
 | .tup xs=>xs.length<=acV/\∃ ao:List acB,Vals xs ao/\IsTup h a ao.toArray
 | .dK kvs=>kvs.length<=acV/\(a == ad6)=false/\∃ vs,KV kvs vs/\h.DictOf (cS P w) a vs
 | .dT kvs=>kvs.length<=acV/\(a == ad6)=false/\∃ xs:List (List Key × acF × acB),
  akS (λ(p:List Key × V) (q:List Key × acF × acB)=>p.1=q.1/\H q.2.1=some (.tup (p.1.map kV))/\RelV p.2 q.2.2) kvs xs /\
  ∃ o es ep,h.get? a=some o/\o.ExactDict/\o.data = .dict es ep/\es.toList=xs.map (aim (agI (cS P w)))/\(xs.map (·.1)).Nodup
 | .set S n=>h.SetOf (agv P w) a S n
 | .ins C dx fs=>H dx=some (.own a)/\fs.length<=1000/\dx≠a/\h.get? a=some (aey C dx) /\
  ∃ mA,h.Ns1 dx mA/\(∀ f,fM (fs.lookup f) (mA f))/\ajz mA (fs.map (·.1))
 | .own _=>∃ o,h.get? a=some o
 | .xd fs=>∃ mA,h.Ns1 a mA/\∀ f,fM (fs.lookup f) (mA f)
 | .fZ lo hi=>∃ t u v,h.get? a=some { cls:=.type "range",data:=.fields #[.int lo t,.int hi u,.int 1 v] }
 | .aQ o u=>h.get? a=some o/\bN H h a u
 | .tbl ps=>h.get? a=some { cls:=.none,data:=.fields ps }
 | .met f x=>h.get? a=some (ahj (.ref f) (.ref x))
 | .ext φ=>φ h/\(∃ o,h.get? a=some o)/\∀ h1 h2:aeV,φ h1->(∀ o,h1.get? a=some o->h2.get? a=some o)->φ h2
def cj(H:Hp)(h:aeV):Prop:=∀ a o,H a=some o->bN P w H h a o
end
section
theorem bN.lt(x:bN P w H h a o):a<h.objs.size:=by
 cases o with
 | lst xs=>obtain⟨_,_,_,_,e⟩:=x;exact acy e
 | tup xs=>obtain⟨_,_,_,p⟩:=x;exact p.lt
 | dK kvs=>obtain⟨_,_,_,_,o,_,_,e,_⟩:=x;exact acy e
 | dT kvs=>obtain⟨_,_,_,_,o,_,_,e,_⟩:=x;exact acy e
 | set S n=>obtain⟨o,_,_,_,e,_⟩:=x;exact acy e
 | ins C dx fs=>obtain⟨_,_,_,e,_⟩:=x;exact acy e
 | own y=>obtain⟨_,e⟩:=x;exact acy e
 | xd fs=>obtain⟨_,⟨_,_,_,e,_⟩,_⟩:=x;exact acy e
 | fZ lo hi=>obtain⟨_,_,_,e⟩:=x;exact acy e
 | aQ ob u=>obtain⟨e,_⟩:=x;exact acy e
 | tbl ps=>exact acy (show h.get? a=some _ from x)
 | met f y=>exact acy (show h.get? a=some _ from x)
 | ext φ=>obtain⟨_,⟨_,e⟩,_⟩:=x;exact acy e
theorem Paired.Fi:∀ {l₁:List α} {l₂:List β},akS F l₁ l₂->(∀ a b,F a b->G a b)->akS G l₁ l₂:=by
 intro _ _ h f
 induction h with
 | nil=>exact .nil
 | cons r t ih=>exact .cons (f _ _ r) ih
theorem bN.stay(x:bN P w H h a o)(k:∀ b u,(b=a∨H b=some (.own a))->h.get? b=some u->h'.get? b=some u)(ho:∀ b,H b=some (.own a)->H' b=some (.own a))(ht:∀ b xs,H b=some (.tup xs)->H' b=some (.tup xs)):bN P w H' h' a o:=by
 induction o with
 | lst xs=>obtain⟨z,ao,n,r,e⟩:=x;exact⟨z,ao,n,r,k _ _ (.inl rfl) e⟩
 | tup xs=>obtain⟨z,ao,r,ob,e,c⟩:=x;exact⟨z,ao,r,ob,k _ _ (.inl rfl) e,c⟩
 | dK kvs=>obtain⟨z,y,vs,r,ob,es,ep,e,c⟩:=x;exact⟨z,y,vs,r,ob,es,ep,k _ _ (.inl rfl) e,c⟩
 | dT kvs =>
  obtain⟨z,y,xs,r,ob,es,ep,e,c⟩:=x;exact⟨z,y,xs,Paired.Fi r λp q z=>⟨z.1,ht _ _ z.2.1,z.2.2⟩,ob,es,ep,k _ _ (.inl rfl) e,c⟩
 | set S n=>obtain⟨ob,es,ep,t,e,c⟩:=x;exact⟨ob,es,ep,t,k _ _ (.inl rfl) e,c⟩
 | ins C dx fs =>
  obtain⟨d,z,ne,e,mA,⟨od,es,ep,e2,c⟩,r⟩:=x;exact⟨ho _ d,z,ne,k _ _ (.inl rfl) e,mA,⟨od,es,ep,k _ _ (.inr d) e2,c⟩,r⟩
 | own y=>obtain⟨ob,e⟩:=x;exact⟨ob,k _ _ (.inl rfl) e⟩
 | xd fs=>obtain⟨mA,⟨od,es,ep,e,c⟩,r⟩:=x;exact⟨mA,⟨od,es,ep,k _ _ (.inl rfl) e,c⟩,r⟩
 | fZ lo hi=>obtain⟨t,u,v,e⟩:=x;exact⟨t,u,v,k _ _ (.inl rfl) e⟩
 | aQ ob u ih=>obtain⟨e,q⟩:=x;exact⟨k _ _ (.inl rfl) e,ih q⟩
 | tbl ps =>
  have e:h.get? a=some { cls:=.none,data:=.fields ps }:=x;show h'.get? a=some { cls:=.none,data:=.fields ps };exact k a _ (.inl rfl) e
 | met f y =>
  have e:h.get? a=some (ahj (.ref f) (.ref y)):=x;show h'.get? a=some (ahj (.ref f) (.ref y));exact k a _ (.inl rfl) e
 | ext φ=>obtain⟨p,⟨o,e⟩,st⟩:=x;exact⟨st _ _ p λo q=>k _ _ (.inl rfl) q,⟨o,k _ _ (.inl rfl) e⟩,st⟩
theorem cj.lt(x:cj P w H h)(e:H a=some o):a<h.objs.size:=(x a o e).lt
theorem cj.fresh(x:cj P w H h)(e:h.objs.size<=a):H a=none:=by
 cases q:H a with
 | none=>rfl
 | some u=>exact absurd (acX (x.lt q) e) (ad4 _)
theorem cj.kept(x:cj P w H h)(k:∀ b u,h.get? b=some u->h'.get? b=some u):cj P w H h':=λa o e =>
 (x a o e).stay (λb u _ q=>k b u q) (λ_ q=>q) λ_ _ q=>q
theorem cj.laid(x:cj P w H h)(k:∀ b u,h.get? b=some u->h'.get? b=some u)(hp:h.objs.size<=a)(new:bN P w (upd H a o) h' a o):cj P w (upd H a o) h':=λb u e=>by
 have hn:=x.fresh hp;by_cases hb:b=a
 .subst hb;rw[aq] at e;cases e;exact new
 .rw[aD hb] at e;exact (x b u e).stay (λc v _ q=>k c v q) (λc q=>by rw[aD (jg q hn)];exact q) λc xs q=>by rw[aD (jg q hn)];exact q
end
def Rd(H:Hp)(a:acF)(u:HO):Prop:=H a=some u ∨ ∃ o,H a=some (.aQ o u)
theorem Rd.ok(r:Rd H a u)(x:cj P w H h):bN P w H h a u:=by
 rcases r with r|⟨o,r⟩
 .exact x a u r
 .obtain⟨_,q⟩:=x a _ r;exact q
def rG:Option HO->Prop
 | some (.lst _)=>True
 | some (.dK _)=>True
 | some (.dT _)=>True
 | some (.set _ _)=>True
 | some (.ins _ _ _)=>True
 | some (.ext _)=>True
 | _=>False
section
theorem cj.write(ok:cj P w H h)(mu:rG (H x))(he:e=x∨H e=some (.own x))(k:∀ b u,b≠e->h.get? b=some u->h'.get? b=some u)(ph:∃ u,h'.get? e=some u)(new:bN P w (upd H x o') h' x o'):cj P w (upd H x o') h':=λb u q=>by
 have Fj:∀ c y,H c=some (.own y)->c≠x:=λc y r z=>by subst z;rw[r] at mu;exact mu
 have NU:∀ c xs,H c=some (.tup xs)->c≠x:=λc xs r z=>by subst z;rw[r] at mu;exact mu
 by_cases hb:b=x
 .subst hb;rw[aq] at q;cases q;exact new
 .rw[aD hb] at q;by_cases jV:b=e
  .have q':H b=some (.own x):=by
    rcases he with z|z
    .exact absurd (jV.trans z) hb
    .rw[jV];exact z
   rw[q] at q';cases q';obtain⟨v,hv⟩:=ph;exact⟨v,by rw[jV];exact hv⟩
  .refine (ok b u q).stay (λc v hc r=>k c v ?_ r) (λc r=>by rw[aD (Fj c b r)];exact r) λc xs r=>by rw[aD (NU c xs r)];exact r
   rcases hc with rfl|hc
   .exact jV
   .rintro rfl;rcases he with z|z
    .exact Fj c b hc z
    .rw[hc] at z;cases z;exact hb rfl
end
structure Un(fs ex:List acF)(H H':Hp)(h h':aeV):Prop where
 keep:∀ b o,h.get? b=some o->H b=none->b∉fs->b∉ex->h'.get? b=some o
 slot:∀ b o,h.get? b=some o->H b=none->b∈fs->b∉ex->∃ sl,h'.get? b=some { o with slots:=sl }
 free:∀ b o,h.get? b=some o->H b=none->b∉ex->H' b=none
 there:∀ b o,h.get? b=some o->b∉ex->∃ o',h'.get? b=some o'
 gq:∀ b xs,H b=some (.tup xs)->H' b=some (.tup xs)
 fN:∀ b o u,H b=some (.aQ o u)->H' b=some (.aQ o u)
 gu:∀ b ps,H b=some (.tbl ps)->∃ more,H' b=some (.tbl (ps++more))
section
variable{fs fs' ex ex':List acF}{H H1 H2:Hp}{h h1 h2 h':aeV}{a x e:acF}{o:HO}
theorem Un.any(u:Un fs ex H H1 h h1)(q:h.get? b=some ob)(n:H b=none)(hx:b∉ex):∃ sl,h1.get? b=some { ob with slots:=sl }:=by
 by_cases hb:b∈fs
 .exact u.slot b ob q n hb hx
 .exact⟨ob.slots,u.keep b ob q n hb hx⟩
theorem Un.kept(k:∀ b u,h.get? b=some u->h'.get? b=some u):Un fs ex H H h h' :=
 ⟨λb ob q _ _ _=>k b ob q,λb ob q _ _ _=>⟨ob.slots,k b ob q⟩,λ_ _ _ n _=>n,λb ob q _=>⟨ob,k b ob q⟩,λ_ _ q=>q,λ_ _ _ q=>q,λ_ ps q=>⟨#[],by rw[q];simp⟩⟩
theorem Un.refl:Un fs ex H H h h:=Un.kept λ_ _ q=>q
theorem Un.laid(k:∀ b u,h.get? b=some u->h'.get? b=some u)(hp:h.objs.size<=a)(hn:H a=none):Un fs ex H (upd H a o) h h' where
 keep:=λb u q _ _ _=>k b u q
 slot:=λb u q _ _ _=>⟨u.slots,k b u q⟩
 free:=λb u q n _=>by rw[aD (acO (acX (acy q) hp))];exact n
 there:=λb u q _=>⟨u,k b u q⟩
 gq:=λb xs q=>by rw[aD (jg q hn)];exact q
 fN:=λb u xs q=>by rw[aD (jg q hn)];exact q
 gu:=λb ps q=>⟨#[],by rw[aD (jg q hn),q];simp⟩
theorem Un.write(mu:rG (H x))(he:e=x∨H e=some (.own x))(k:∀ b u,b≠e->h.get? b=some u->h'.get? b=some u)(ph:∃ u,h'.get? e=some u):Un fs ex H (upd H x o) h h':=by
 have hx:∀ b,H b=none->b≠x:=λb n z=>by subst z;rw[n] at mu;exact mu
 have hb:∀ b,H b=none->b≠e:=λb n z=>by
  subst z;rcases he with r|r
  .exact hx b n r
  .rw[n] at r;cases r
 have hm:∀ b u,H b=some u->¬ rG (some u)->b≠x:=λb u q nm z=>by subst z;rw[q] at mu;exact nm mu
 refine⟨λb u q n _ _=>k b u (hb b n) q,λb u q n _ _=>⟨u.slots,k b u (hb b n) q⟩,λb u q n _=>by rw[aD (hx b n)];exact n,λb u q _=>?_,
  λb xs q=>by rw[aD (hm b _ q λz=>z)];exact q,λb u xs q=>by rw[aD (hm b _ q λz=>z)];exact q,λb ps q=>⟨#[],by rw[aD (hm b _ q λz=>z),q];simp⟩⟩
 by_cases jV:b=e
 .subst jV;exact ph
 .exact⟨u,k b u jV q⟩
end
noncomputable def vG(h:aeV)(H:Hp):List acF:=(acD h.objs.size).filter λa=>(H a).isSome
noncomputable def kM(h:aeV)(H:Hp):aeV:=ah3 h (vG h H)
theorem NV(h:aeV)(H:Hp):(kM h H).objs.size=h.objs.size:=PySem.W.hideAll_size _ _
theorem NW(e:h.get? b=some o)(n:H b=none):(kM h H).get? b=some o :=
 aiG _ e λhm=>by have q:(H b).isSome=true:=(acZ.mp hm).2;rw[n] at q;simp at q
theorem NX(e:(kM h H).get? b=some o):h.get? b=some o/\H b=none:=by
 have e':h.get? b=some o:=aiV (vG h H) e;refine⟨e',?_⟩;cases q:H b with
 | none=>rfl
 | some x =>
  have hm:b∈vG h H:=acZ.mpr ⟨acY.mpr (acy e'),by simp[q]⟩;have z:(kM h H).get? b=none:=PySem.W.hideAll_none (vG h H) hm;rw[z] at e;cases e
noncomputable def NY(g h:aeV)(L:acF):List (acF × Obj):=(acD h.objs.size).filterMap λa=>if a=L∨(g.get? a).isSome=true then none else (h.get? a).map λo=>(a,o)
noncomputable def rest(g h:aeV)(L d:acF):List (acF × Obj):=(NY g h L).filter λp=>decide (p.1≠d)
structure Mod(K:acr)(mg:Str->Option acB)(base:aeV):Prop where
 gZ:K.In base
 glob:base.Ns acU mg
 blt:∃ mb,base.Ns akv mb/\∀ x:Str,x ≠ "__name__" -> mb x=adj x
 nolimit:base.NoLimit
structure Cx where
 prog:adn
 w:ad2
 K:acr
 mg:Str->Option acB
 base:aeV
 A:aeb
 N:List Str
 s₀:acI
 H₀:Hp
 env:Env
 outer:List Env
 stack:List Env
 ex:List acF
 fn:Str->Bool
 calm:Bool
 pn:List (acF × Obj)
 xe:acB->acI->Prop
noncomputable def ba(l:List Env):List acF:=l.filterMap (·.frame)
noncomputable abbrev Cx.fs(X:Cx):List acF:=ba X.outer
def vH(sc:air)(x:Str):Prop:=sc.names.lookup x=some .local∨sc.names.lookup x=some .cell∨sc.names.lookup x=some .free
def Loc(sc:air)(x:Str):Prop:=sc.names.lookup x=some .local∨sc.names.lookup x=some .cell
def Look(env:Env)(h:aeV)(m:Str->Option acB)(x:Str)(u:acB):Prop :=
 (env.kindOf x=some .local/\m x=some u)∨((env.kindOf x=some .cell∨env.kindOf x=some .free)/\∃ c,env.cells.lookup x=some c/\h.IsCell c (some u))
structure Cx.Ok(X:Cx):Prop where
 mod:Mod X.K X.mg X.base
 kind:X.env.scope.kind = .function
 glob:X.env.globals=acU
 blt:X.env.builtins=akv
 above:X.s₀.heap.objs.size<=X.env.locals
 inj:∀ x y c,X.env.cells.lookup x=some c->X.env.cells.lookup y=some c->x=y
 has:∀ x,(X.env.kindOf x=some .cell∨X.env.kindOf x=some .free)->∃ c,X.env.cells.lookup x=some c
 cab:∀ x c,X.fn x=true->X.env.cells.lookup x=some c->X.s₀.heap.objs.size<=c
 hd:X.calm=true->X.A.handled=none
 frames:X.A.frames=some X.stack
 stk:X.stack=X.outer∨(X.stack=X.env::X.outer/\X.env.frame=some X.env.locals)
 exf:∀ b∈X.ex,b≠X.env.locals/\∀ x c,X.env.cells.lookup x=some c->c≠b
 bs:∀ b o,X.base.get? b=some o->X.s₀.heap.get? b=some o/\X.H₀ b=none
 bsz:X.base.objs.size<=X.s₀.heap.objs.size
 noex:∀ b o,X.base.get? b=some o->b∉X.ex
 exfs:∀ b∈X.ex,b∉X.fs
 f6:X.s₀.heap.FunFrames X.base X.outer
 frf:∀ b∈X.fs,X.H₀ b=none
structure Inv(X:Cx)(pins:List (acF × Obj))(σ:List (Option V))(H:Hp)(s:acI):Prop where
 ok:X.Ok
 os:s.os=X.s₀.os
 bare:ah4 s.gens
 base:Un X.fs X.ex X.H₀ H X.s₀.heap s.heap
 loc:∃ m,s.heap.Ns X.env.locals m/\∀ (i:Nat) (x:Str) (v:V),X.N[i]?=some x->σ[i]?=some (some v)->vH X.env.scope x->∃ u,RelV v u/\Look X.env s.heap m x u
 cell:∀ x c,X.env.cells.lookup x=some c->∃ v,s.heap.IsCell c v
 free:H X.env.locals=none
 f7:∀ x c,X.env.cells.lookup x=some c->H c=none
 pin:∀ p∈X.pn++pins,s.heap.get? p.1=some p.2/\H p.1=none/\p.1≠X.env.locals/\p.1∉X.fs/\∀ v,p.2.data ≠ .cell v
 ay:cj X.prog X.w H s.heap
 len:σ.length=X.N.length
section
variable{X:Cx}{pins:List (acF × Obj)}{σ:List (Option V)}{H H':Hp}{s:acI}{h':aeV}
theorem Cx.Ok.kN(ok:X.Ok){b:acF}{o:Obj}(e:X.base.get? b=some o):b∉X.fs:=λhb=>by have:=(ok.f6.mem hb).1;rw[e] at this;cases this
theorem Inv.bs(I:Inv X pins σ H s):∀ b o,X.base.get? b=some o->s.heap.get? b=some o/\H b=none:=λb o e =>
 ⟨I.base.keep b o (I.ok.bs b o e).1 (I.ok.bs b o e).2 (I.ok.kN e) (I.ok.noex b o e),I.base.free b o (I.ok.bs b o e).1 (I.ok.bs b o e).2 (I.ok.noex b o e)⟩
theorem Inv.bk(I:Inv X pins σ H s):∀ b o,X.base.get? b=some o->s.heap.get? b=some o:=λb o e=>(I.bs b o e).1
theorem Inv.mod(I:Inv X pins σ H s):Mod X.K X.mg X.base:=I.ok.mod
theorem Inv.ck(I:Inv X pins σ H s):X.K.In s.heap:=I.ok.mod.gZ.keeps I.bk
theorem Inv.lt(I:Inv X pins σ H s):X.env.locals<s.heap.objs.size:=let ⟨_,hn,_⟩:=I.loc;hn.lt
theorem Inv.sz(I:Inv X pins σ H s):X.s₀.heap.objs.size<=s.heap.objs.size:=acA I.ok.above (agl I.lt)
theorem Inv.Fl(I:Inv X pins σ H s)(h:s.heap.objs.size<=a):a∉X.fs:=λhb=>by obtain⟨_,o,ho,_⟩:=I.ok.f6.mem hb;exact absurd (acX (acy ho) (acA I.sz h)) (ad4 _)
theorem Inv.nI(I:Inv X pins σ H s):∀ x c,X.env.cells.lookup x=some c->c≠X.env.locals:=λx c e z=>by obtain⟨v,o,ho,hd⟩:=I.cell x c e;obtain⟨m,⟨o',es,ep,cT,jh,_⟩,_⟩:=I.loc;rw[z,cT] at ho;cases ho;rw[jh] at hd;cases hd
theorem Inv.f6(I:Inv X pins σ H s):s.heap.FunFrames X.base X.outer:=by
 have all:∀ (l:List Env),(∀ b∈ba l,b∈X.fs)->X.s₀.heap.FunFrames X.base l->s.heap.FunFrames X.base l:=by
  intro l
  induction l with
  | nil=>intro _ _;trivial
  | cons env r ih =>
   intro hs hl;obtain⟨hk,⟨L,o,hf,hn,ho,hd⟩,hr⟩:=hl;have hL:L∈X.fs:=hs L (by unfold ba;rw[adU,hf];exact afg);obtain⟨sl,e⟩:=I.base.slot L o ho (I.ok.frf L hL) hL λz=>I.ok.exfs L z hL;exact⟨hk,⟨L,_,hf,hn,e,hd⟩,ih (λb hb=>hs b (by unfold ba;rw[adU,hf];exact adp _ hb)) hr⟩
 exact all X.outer (λ_ hb=>hb) I.ok.f6
theorem Inv.stack(I:Inv X pins σ H s):s.heap.FunFrames X.base X.stack:=by
 rcases I.ok.stk with e|⟨e,hf⟩
 .rw[e];exact I.f6
 .rw[e];obtain⟨m,hn,_⟩:=I.loc;refine .cons (by rw[I.ok.kind];decide) hf hn ?_ I.f6;exact Heap.get?_none_of_le (acA I.ok.bsz I.ok.above)
theorem Inv.pq(I:Inv X pins σ H s):∀ b∈ba X.stack,b∈X.env.locals::X.fs:=λb hb=>by
 rcases I.ok.stk with e|⟨e,hf⟩
 .rw[e] at hb;exact adp _ hb
 .rw[e] at hb;unfold ba at hb;rw[adU,hf] at hb;exact hb
theorem Inv.rH(I:Inv X pins σ H s):∀ b∈ba X.stack,H b=none:=λb hb=>by
 rcases acL.mp (I.pq b hb) with e|hb
 .rw[e];exact I.free
 .obtain⟨_,o,ho,_⟩:=I.ok.f6.mem hb;exact I.base.free b o ho (I.ok.frf b hb) λz=>I.ok.exfs b z hb
theorem Inv.step{g':Array GenState}{t':Nat}{d':Drawn}{ch:List acF}(I:Inv X pins σ H s)
 (jW:∀ b∈ch,(b∈X.ex∨X.s₀.heap.objs.size<=b)/\b≠X.env.locals/\(∀ x c,X.env.cells.lookup x=some c->c≠b)/\∀ p∈X.pn++pins,p.1≠b)
 (keep:∀ b o,b≠X.env.locals->b∉X.fs->b∉ch->s.heap.get? b=some o->H b=none->h'.get? b=some o)
 (slot:∀ b o,b≠X.env.locals->b∈X.fs->b∉ch->s.heap.get? b=some o->H b=none->∃ sl,h'.get? b=some { o with slots:=sl }) (free:∀ b o,b∉ch->s.heap.get? b=some o->H b=none->H' b=none)
 (there:∀ b o,b∉ch->s.heap.get? b=some o->∃ o',h'.get? b=some o')
 (gq:∀ b xs,H b=some (.tup xs)->H' b=some (.tup xs)) (fN:∀ b o u,H b=some (.aQ o u)->H' b=some (.aQ o u)) (gu:∀ b ps,H b=some (.tbl ps)->∃ more,H' b=some (.tbl (ps++more)))
 (ns:∀ m,s.heap.Ns X.env.locals m->h'.Ns X.env.locals m) (ay:cj X.prog X.w H' h') (hg:ah4 g') :
 Inv X pins σ H' { s with heap:=h',gens:=g',drawn:=d',toks:=t' }:=by
 have pw:∀ b o,X.s₀.heap.get? b=some o->b≠X.env.locals:=λb o e=>acO (acX (acy e) I.ok.above);have vI:∀ b o,X.s₀.heap.get? b=some o->b∉X.ex->b∉ch:=λb o e hx hb=>by
  rcases (jW b hb).1 with z|z
  .exact hx z
  .exact absurd (acX (acy e) z) (ad4 _)
 have cellK:∀ x c,X.env.cells.lookup x=some c->∀ v,s.heap.IsCell c v->h'.IsCell c v:=λx c e v ⟨o,ho,hd⟩=>by
  have lS:c∉ch:=λz=>(jW c z).2.2.1 x c e rfl;by_cases hc:c∈X.fs
  .obtain⟨sl,q⟩:=slot c o (I.nI x c e) hc lS ho (I.f7 x c e);exact⟨_,q,hd⟩
  .exact⟨o,keep c o (I.nI x c e) hc lS ho (I.f7 x c e),hd⟩
 refine⟨I.ok,I.os,hg,⟨λb o e n hb hx=>?_,λb o e n hb hx=>?_,λb o e n hx=>?_,λb o e hx=>?_,λb xs e=>gq b xs (I.base.gq b xs e),λb o xs e=>fN b o xs (I.base.fN b o xs e),λb ps e=>?_⟩,?_,λx c e=>?_,?_,λx c e=>?_,λp hp=>?_,ay,I.len⟩
 .exact keep b o (pw b o e) hb (vI b o e hx) (I.base.keep b o e n hb hx) (I.base.free b o e n hx)
 .obtain⟨sl,e1⟩:=I.base.slot b o e n hb hx;obtain⟨ft,e2⟩:=slot b _ (pw b o e) hb (vI b o e hx) e1 (I.base.free b o e n hx);exact⟨ft,e2⟩
 .obtain⟨o',e1⟩:=I.base.there b o e hx;exact free b o' (vI b o e hx) e1 (I.base.free b o e n hx)
 .obtain⟨o',e1⟩:=I.base.there b o e hx;exact there b o' (vI b o e hx) e1
 .obtain⟨m1,e1⟩:=I.base.gu b ps e;obtain⟨m2,e2⟩:=gu b _ e1;exact⟨m1++m2,by rw[e2,aiW]⟩
 .obtain⟨m,hn,hl⟩:=I.loc;refine⟨m,ns m hn,λi x v e1 e2 e3=>?_⟩;obtain⟨u,r,l⟩:=hl i x v e1 e2 e3;refine⟨u,r,?_⟩;rcases l with l|⟨k,c,e,z⟩
  .exact .inl l
  .exact .inr ⟨k,c,e,cellK x c e _ z⟩
 .obtain⟨v,z⟩:=I.cell x c e;exact⟨v,cellK x c e v z⟩
 .obtain⟨m,⟨o,_,_,ho,_⟩,_⟩:=I.loc;exact free _ o (λz=>(jW _ z).2.1 rfl) ho I.free
 .obtain⟨v,o,ho,hd⟩:=I.cell x c e;exact free c o (λz=>(jW c z).2.2.1 x c e rfl) ho (I.f7 x c e)
 .obtain⟨e,n,ne,nf,d⟩:=I.pin p hp;have lS:p.1∉ch:=λz=>(jW p.1 z).2.2.2 p hp rfl;exact⟨keep p.1 p.2 ne nf lS e n,free p.1 p.2 lS e n,ne,nf,d⟩
theorem Inv.un(I:Inv X pins σ H s)(u:Un X.fs [] H H' s.heap h')(ay:cj X.prog X.w H' h'):Inv X pins σ H' { s with heap:=h',toks:=t' }:=by
 obtain⟨m,⟨o,es,ep,ho,r⟩,_⟩:=id I.loc;obtain⟨sl,hL⟩:=u.any ho I.free (by simp);exact I.step (g':=s.gens) (d':=s.drawn) (ch:=[]) (λ_ z=>nomatch z) (λb o _ hb _ e n=>u.keep b o e n hb (by simp)) (λb o _ hb _ e n=>u.slot b o e n hb (by simp)) (λb o _ e n=>u.free b o e n (by simp)) (λb o _ e=>u.there b o e (by simp)) u.gq u.fN u.gu (λm' hm=>by
  obtain⟨o',es',kO,cT,r'⟩:=hm;rw[ho] at cT;cases cT;exact⟨_,es',kO,hL,r'⟩) ay I.bare
theorem Inv.call(I:Inv X pins σ H s)(u:Un (ba X.stack) ch H H' s.heap h')(ay:cj X.prog X.w H' h')(hg:ah4 g')(jW:∀ b∈ch,(b∈X.ex∨X.s₀.heap.objs.size<=b)/\b≠X.env.locals/\(∀ x c,X.env.cells.lookup x=some c->c≠b)/\∀ p∈X.pn++pins,p.1≠b) :
 Inv X pins σ H' { s with heap:=h',gens:=g',drawn:=d',toks:=t' }:=by
 obtain⟨m,⟨o,es,ep,ho,r⟩,_⟩:=id I.loc;obtain⟨sl,hL⟩:=u.any ho I.free λz=>(jW _ z).2.1 rfl;exact I.step (ch:=ch) jW (λb o hL hb hc e n=>u.keep b o e n (λz=>(acL.mp (I.pq b z)).elim hL hb) hc) (λb o _ _ hc e n=>u.any e n hc) (λb o hc e n=>u.free b o e n hc) (λb o hc e=>u.there b o e hc) u.gq u.fN u.gu (λm' hm=>by
  obtain⟨o',es',kO,cT,r'⟩:=hm;rw[ho] at cT;cases cT;exact⟨_,es',kO,hL,r'⟩) ay hg
theorem Inv.turned(I:Inv X pins σ H s)(k:∀ b o,b≠it->s.heap.get? b=some o->h'.get? b=some o)(hn:H it=none)(hL:it≠X.env.locals)(h1:it∈X.ex∨X.s₀.heap.objs.size<=it)(h2:∀ x c,X.env.cells.lookup x=some c->c≠it)(h3:∀ p∈X.pn++pins,p.1≠it):Inv X pins σ H { s with heap:=h',toks:=t' }:=by
 have Fo:∀ b u,H b=some u->b≠it:=λb u e z=>by rw[z,hn] at e;cases e
 refine I.step (g':=s.gens) (d':=s.drawn) (ch:=[it]) (λb hb=>?_) (λb o _ _ hc e _=>k b o (λz=>hc (by simp[z])) e) (λb o _ _ hc e _=>⟨o.slots,k b o (λz=>hc (by simp[z])) e⟩) (λ_ _ _ _ n=>n)
  (λb o hc e=>⟨o,k b o (λz=>hc (by simp[z])) e⟩) (λ_ _ e=>e) (λ_ _ _ e=>e) (λb ps e=>⟨#[],by rw[e];simp⟩) (λm hm=>?_) (λb u e=>?_) I.bare
 .have e:b=it:=by simpa using hb
  subst e;exact⟨h1,hL,h2,h3⟩
 .obtain⟨o,es,ep,ho,r⟩:=hm;exact⟨o,es,ep,k _ o (ady hL) ho,r⟩
 .refine (I.ay b u e).stay (λc v hc q=>k c v ?_ q) (λ_ q=>q) λ_ _ q=>q;rcases hc with z|z
  .rw[z];exact Fo b u e
  .exact Fo c _ z
theorem Inv.tok(I:Inv X pins σ H s)(t:Nat):Inv X pins σ H { s with toks:=t }:=I.un (h':=s.heap) (t':=t) Un.refl I.ay
theorem Inv.kept(I:Inv X pins σ H s)(k:∀ b u,s.heap.get? b=some u->h'.get? b=some u):Inv X pins σ H { s with heap:=h',toks:=t' }:=I.un (Un.kept k) (I.ay.kept k)
theorem Inv.laid(I:Inv X pins σ H s)(k:∀ b u,s.heap.get? b=some u->h'.get? b=some u)(hp:s.heap.objs.size<=a)(new:bN X.prog X.w (upd H a o) h' a o) :
 Inv X pins σ (upd H a o) { s with heap:=h',toks:=t' }:=I.un (Un.laid k hp (I.ay.fresh hp)) (I.ay.laid k hp new)
theorem Inv.write(I:Inv X pins σ H s)(mu:rG (H x))(he:e=x∨H e=some (.own x))(k:∀ b u,b≠e->s.heap.get? b=some u->h'.get? b=some u)(ph:∃ u,h'.get? e=some u)(new:bN X.prog X.w (upd H x o) h' x o):Inv X pins σ (upd H x o) { s with heap:=h',toks:=t' }:=I.un (Un.write mu he k ph) (I.ay.write mu he k ph new)
theorem Inv.rJ(I:Inv X pins σ H s)(h:∀ p∈rK,s.heap.get? p.1=some p.2/\H p.1=none/\p.1≠X.env.locals/\p.1∉X.fs/\∀ v,p.2.data ≠ .cell v):Inv X rK σ H s :=
 ⟨I.ok,I.os,I.bare,I.base,I.loc,I.cell,I.free,I.f7,λp hp=>(ac4.mp hp).elim (λz=>I.pin p (aes _ z)) (h p),I.ay,I.len⟩
theorem Fp{N:List Str}(hN:N.Nodup){i j:Nat}{x:Str}(a:N[i]?=some x)(b:N[j]?=some x):i=j:=by obtain⟨h1,e1⟩:=acz.mp a;obtain⟨h2,e2⟩:=acz.mp b;exact (List.getElem_inj hN).mp (e1.trans e2.symm)
theorem NZ(I:Inv X pins σ H s)(hN:X.N.Nodup)(hi:X.N[i]?=some x)(hx:Loc X.env.scope x)(r:RelV v u)(h:∀ s',Inv X pins (σ.set i (some v)) H s'->(∃ a,Heap.SameBut a s.heap s'.heap/\(a=X.env.locals∨X.env.cells.lookup x=some a))->Q () s')(hf:X.fn x=true∨X.env.scope.names.lookup x=some .local:=by first|exact .inl rfl|exact .inr rfl|assumption):acQ M A (storeName X.env x u) Q E s:=by
 obtain⟨m,hn,hl⟩:=id I.loc;have N0:(X.env.scope.kind == .class || (X.env.scope.kind == .module && X.env.locals != X.env.globals))=false:=by rw[I.ok.kind];rfl
 have Fq:i<σ.length:=by rw[I.len];exact (acz.mp hi).1
 have nI:=I.nI;have tracked:∀ {a:acF} {h':aeV},(∃ o,s.heap.get? a=some o/\H a=none)->Heap.SameBut a s.heap h'->cj X.prog X.w H h':=λ{a h'} ha hs b ob e=>by
  obtain⟨_,_,hfree⟩:=ha;refine (I.ay b ob e).stay (λc w' hc q=>(hs.2 c ?_).trans q) (λ_ q=>q) λ_ _ q=>q;rintro rfl;rcases hc with rfl|hc
  .rw[hfree] at e;cases e
  .rw[hfree] at hc;cases hc
 rcases hx with hk|hk
 .refine wpAny_storeName_local hk hn (λh' lT hs=>?_) N0;obtain⟨oL,_,_,N1,_⟩:=id hn;refine h _ ⟨I.ok,I.os,I.bare,⟨λb o e n hb hx=>?_,λb o e n hb hx=>?_,I.base.free,λb o e hx=>?_,I.base.gq,I.base.fN,I.base.gu⟩,⟨_,lT,λj y v' e1 e2 e3=>?_⟩,λy c e=>?_,I.free,I.f7,λp hp=>?_,tracked ⟨oL,N1,I.free⟩ hs,by simpa using I.len⟩ ⟨_,hs,.inl rfl⟩
  .exact (hs.2 b (acO (acX (acy e) I.ok.above))).trans (I.base.keep b o e n hb hx)
  .obtain⟨sl,e1⟩:=I.base.slot b o e n hb hx;exact⟨sl,(hs.2 b (acO (acX (acy e) I.ok.above))).trans e1⟩
  .obtain⟨o',e1⟩:=I.base.there b o e hx;exact⟨o',(hs.2 b (acO (acX (acy e) I.ok.above))).trans e1⟩
  .by_cases hj:j=i
   .subst hj;rw[hi] at e1;cases e1;rw[ahR Fq] at e2;cases e2;exact⟨u,r,.inl ⟨hk,by simp⟩⟩
   .rw[ais (ady hj)] at e2;obtain⟨u',r',q⟩:=hl j y v' e1 e2 e3;refine⟨u',r',?_⟩;rcases q with ⟨k,e⟩|⟨k,c,e,z⟩
    .refine .inl ⟨k,?_⟩;have:y≠x:=λe=>hj (Fp hN e1 (e ▸ hi));simp[this,e]
    .exact .inr ⟨k,c,e,z.sameBut hs (nI y c e)⟩
  .obtain⟨w',z⟩:=I.cell y c e;exact⟨w',z.sameBut hs (nI y c e)⟩
  .obtain⟨e,n,ne,nf,d⟩:=I.pin p hp;exact⟨(hs.2 p.1 ne).trans e,n,ne,nf,d⟩
 .have yO:X.fn x=true:=by
   rcases hf with z|z
   .exact z
   .rw[z] at hk;cases hk
  obtain⟨c,hc⟩:=I.ok.has x (.inl hk);obtain⟨w',z⟩:=I.cell x c hc;refine wpAny_storeName_cell I.ok.kind hk hc z (λh' kP hs=>?_);obtain⟨oc,hoc,hocd⟩:=id z;refine h { s with heap:=h' } ⟨I.ok,I.os,I.bare,⟨λb o e n hb hx=>?_,λb o e n hb hx=>?_,I.base.free,λb o e hx=>?_,I.base.gq,I.base.fN,I.base.gu⟩,⟨m,hn.sameBut hs (ady (nI x c hc)),λj y v' e1 e2 e3=>?_⟩,λy c' e=>?_,I.free,I.f7,λp hp=>?_,tracked ⟨oc,hoc,I.f7 x c hc⟩ hs,by simpa using I.len⟩ ⟨c,hs,.inr hc⟩
  .exact (hs.2 b (acO (acX (acy e) (I.ok.cab x c yO hc)))).trans (I.base.keep b o e n hb hx)
  .obtain⟨sl,e1⟩:=I.base.slot b o e n hb hx;exact⟨sl,(hs.2 b (acO (acX (acy e) (I.ok.cab x c yO hc)))).trans e1⟩
  .obtain⟨o',e1⟩:=I.base.there b o e hx;exact⟨o',(hs.2 b (acO (acX (acy e) (I.ok.cab x c yO hc)))).trans e1⟩
  .by_cases hj:j=i
   .subst hj;rw[hi] at e1;cases e1;rw[ahR Fq] at e2;cases e2;exact⟨u,r,.inr ⟨.inl hk,c,hc,kP⟩⟩
   .rw[ais (ady hj)] at e2;obtain⟨u',r',q⟩:=hl j y v' e1 e2 e3;refine⟨u',r',?_⟩;rcases q with q|⟨k,c',e,z'⟩
    .exact .inl q
    .refine .inr ⟨k,c',e,z'.sameBut hs ?_⟩;rintro rfl;exact hj (Fp hN e1 (I.ok.inj _ _ _ e hc ▸ hi))
  .by_cases vJ:c'=c
   .subst vJ;exact⟨_,kP⟩
   .obtain⟨w2,z2⟩:=I.cell y c' e;exact⟨w2,z2.sameBut hs vJ⟩
  .obtain⟨e,n,ne,nf,d⟩:=I.pin p hp;refine⟨(hs.2 p.1 ?_).trans e,n,ne,nf,d⟩;intro q;rw[q,hoc] at e;have q':oc=p.2:=Option.some.inj e;exact d w' (by rw[<- q'];exact hocd)
theorem Fs(I:Inv X pins σ H s)(hN:X.N.Nodup)(hi:X.N[i]?=some x)(hx:Loc X.env.scope x)(r:RelV v u)(h:∀ s',Inv X pins (σ.set i (some v)) H s'->Q () s')(hf:X.fn x=true∨X.env.scope.names.lookup x=some .local:=by first|exact .inl rfl|exact .inr rfl|assumption):acQ M A (storeName X.env x u) Q E s :=
 NZ I hN hi hx r (λs' I' _=>h s' I') hf
theorem Inv.yP(I:Inv X pins σ H s)(ho:s'.os=s.os)(u:Un (ba X.stack) ch H H' s.heap s'.heap)(ay:cj X.prog X.w H' s'.heap)(hg:ah4 s'.gens)(jW:∀ b∈ch,(b∈X.ex∨X.s₀.heap.objs.size<=b)/\b≠X.env.locals/\(∀ x c,X.env.cells.lookup x=some c->c≠b)/\∀ p∈X.pn++pins,p.1≠b):Inv X pins σ H' s':=by obtain⟨h',g',d',t',o'⟩:=s';have e:o'=s.os:=ho;subst e;exact I.call (g':=g') (t':=t') (d':=d') u ay hg jW
end
abbrev XK:=acB->Option acF->Hp->Prop
abbrev St:=List (Option V)
abbrev VK:=V->Hp->Prop
abbrev TE:=St->Hp->VK->Prop
abbrev TT:=St->Hp->(Bool->Hp->Prop)->Prop
abbrev TA:=St->Hp->(List V->Hp->Prop)->Prop
structure Ends where
 nx:St->Hp->Prop
 rt:VK
 bk:St->Hp->Prop:=λ_ _=>False
 ct:St->Hp->Prop:=λ_ _=>False
abbrev TS:=Ends->St->Hp->Prop
def EP(X:Cx)(pins:List (acF × Obj))(σ:St)(Q:VK)(u:acB)(s':acI):Prop:=∃ v H',Inv X pins σ H' s'/\RelV v u/\Q v H'
def TP(X:Cx)(pins:List (acF × Obj))(σ:St)(Q:Bool->Hp->Prop)(b:Bool)(s':acI):Prop:=∃ H',Inv X pins σ H' s'/\Q b H'
def AP(X:Cx)(pins:List (acF × Obj))(σ:St)(Q:List V->Hp->Prop)(us:List acB)(s':acI):Prop:=∃ vs H',Inv X pins σ H' s'/\Vals vs us/\Q vs H'
def SP(X:Cx)(pins:List (acF × Obj))(D:Ends)(f:Flow)(s':acI):Prop :=
 match f with
 | .next=>∃ σ' H',Inv X pins σ' H' s'/\D.nx σ' H'
 | .brk=>∃ σ' H',Inv X pins σ' H' s'/\D.bk σ' H'
 | .cont=>∃ σ' H',Inv X pins σ' H' s'/\D.ct σ' H'
 | .ret u=>∃ v σ' H',Inv X pins σ' H' s'/\RelV v u/\D.rt v H'
def PE(X:Cx)(e:agu)(t:TE):Prop :=
 ∀ (pins:List (acF × Obj)) (s:acI) (σ:St) (H:Hp) (Q:VK),Inv X pins σ H s->t σ H Q->acQ (model X.prog X.w) X.A (eval e X.env) (EP X pins σ Q) X.xe s
def PT(X:Cx)(e:agu)(t:TT):Prop :=
 ∀ (pins:List (acF × Obj)) (s:acI) (σ:St) (H:Hp) (Q:Bool->Hp->Prop),Inv X pins σ H s->t σ H Q->acQ (model X.prog X.w) X.A (akT e X.env (eval e X.env)) (TP X pins σ Q) X.xe s
def PW(X:Cx)(e:agu)(t:TT):Prop :=
 ∀ (whole:Sem acB) (pins:List (acF × Obj)) (s:acI) (σ:St) (H:Hp) (Q:Bool->Hp->Prop),Inv X pins σ H s->t σ H Q->acQ (model X.prog X.w) X.A (akT e X.env whole) (TP X pins σ Q) X.xe s
theorem PW.pt(h:PW X e t):PT X e t:=h _
def PA(X:Cx)(es:List agu)(t:TA):Prop :=
 ∀ (pos:Pos) (pins:List (acF × Obj)) (s:acI) (σ:St) (H:Hp) (Q:List V->Hp->Prop),Inv X pins σ H s->t σ H Q->acQ (model X.prog X.w) X.A (spliced (ael pos (acW es X.env))) (AP X pins σ Q) X.xe s
def PS(X:Cx)(st:aee)(t:TS):Prop :=
 ∀ (pins:List (acF × Obj)) (s:acI) (σ:St) (H:Hp) (D:Ends),Inv X pins σ H s->t D σ H->acQ (model X.prog X.w) X.A (exec st X.env) (SP X pins D) X.xe s
def aT(X:Cx)(st:List aee)(t:TS):Prop :=
 ∀ (pins:List (acF × Obj)) (s:acI) (σ:St) (H:Hp) (D:Ends),Inv X pins σ H s->t D σ H->acQ (model X.prog X.w) X.A (execs st X.env) (SP X pins D) X.xe s
theorem aB(h:acQ M A t Q E s)(hQ:∀ a s,Q a s->Q' a s):acQ M A t Q' E s:=adN h hQ λ_ _ x=>x
section
variable{X:Cx}
def yQ(i:Nat):TE:=λσ H Q=>∃ v,σ[i]?=some (some v)/\Q v H
def tC(v:V):TE:=λ_ H Q=>Q v H
theorem N3(hN:X.N[i]?=some x)(hv:vH X.env.scope x)(hd:(x == ("__debug__" : Str))=false:=by decide)(gb:(x == ("__classdict__" : Str))=false:=by decide):PE X (.Name x pos) (yQ i):=by
 intro pins s σ H Q I h;obtain⟨v,e,h⟩:=h;obtain⟨m,hn,hl⟩:=I.loc;obtain⟨u,r,l⟩:=hl i x v hN e hv;have fin:EP X pins σ Q u s:=⟨v,H,I,r,h⟩
 rcases l with ⟨hk,hm⟩|⟨hk,c,hc,hcell⟩
 .exact akw (wpAny_loadName_local I.ok.kind hk hn hm fin) hd
 .rcases hk with hk|hk
  .exact akw (wpAny_loadName_cell I.ok.kind hk hc hcell fin) hd
  .exact akw (wpAny_loadName_free I.ok.kind hk hc hcell fin gb) hd
theorem af:PE X (.Constant (.int i) j pos) (tC (.int i)):=λ_ _ _ H _ I h=>wpAny_Constant_int ⟨.int i,H,I.tok _,⟨_,rfl⟩,h⟩
theorem dU:PE X (.Constant (.bool b) j pos) (tC (.bl b)):=λ_ _ _ H _ I h=>Constant_bool ⟨.bl b,H,I,rfl,h⟩
theorem bF:PE X (.Constant .none j pos) (tC .non):=λ_ _ _ H _ I h=>aiX ⟨.non,H,I,rfl,h⟩
theorem aR:PE X (.Constant (.str x) j pos) (tC (.str x)):=λ_ _ _ H _ I h=>Calls.Constant_str ⟨.str x,H,I.tok _,⟨_,rfl⟩,h⟩
def Gl(X:Cx)(x:Str):Prop:=X.env.kindOf x=some .globalImplicit
theorem pA(I:Inv X pins σ H s)(hg:Gl X x)(hm:X.mg x=some u)(h:Q u s)(hd:(x == ("__debug__" : Str))=false:=by decide):acQ (model X.prog X.w) X.A (eval (.Name x pos) X.env) Q E s :=
 agZ I.ok.kind hg (Calls.loadGlobal_global (by rw[I.ok.glob];exact I.mod.glob.keeps I.bk) hm h) hd
theorem fO(I:Inv X pins σ H s)(hg:Gl X x)(hm:X.mg x=none)(hv:adj x=some u)(h:Q u s)(hn:x ≠ "__name__" := by decide)(hd:(x == ("__debug__" : Str))=false:=by decide):acQ (model X.prog X.w) X.A (eval (.Name x pos) X.env) Q E s:=by obtain⟨mb,h1,h2⟩:=I.mod.blt;exact agZ I.ok.kind hg (Calls.loadGlobal_builtin (by rw[I.ok.glob];exact I.mod.glob.keeps I.bk) hm (by rw[I.ok.blt];exact h1.keeps I.bk) ((h2 x hn).trans hv) h) hd
theorem Ft(hg:Gl X x)(hm:X.mg x=some u)(r:RelV v u)(hd:(x == ("__debug__" : Str))=false:=by decide):PE X (.Name x pos) (tC v) :=
 λ_ _ _ H _ I h=>pA I hg hm ⟨v,H,I,r,h⟩ hd
theorem nJ(hg:Gl X x)(hm:X.mg x=none)(hv:adj x=some u)(r:RelV v u)(hn:x ≠ "__name__" := by decide)(hd:(x == ("__debug__" : Str))=false:=by decide):PE X (.Name x pos) (tC v) :=
 λ_ _ _ H _ I h=>fO I hg hm hv ⟨v,H,I,r,h⟩ hn hd
variable{a b:agu}{ta tb:TE}{pos:Pos}
def PC(X:Cx)(op:CmpOp)(a b:agu)(t:TE):Prop :=
 ∀ (pins:List (acF × Obj)) (s:acI) (σ:St) (H:Hp) (Q:VK),Inv X pins σ H s->t σ H Q ->
  acQ (model X.prog X.w) X.A (eval a X.env) (λv s₁=>acQ (model X.prog X.w) X.A (eval b X.env) (λu s₂=>acQ (model X.prog X.w) X.A (adx op v u) (EP X pins σ Q) X.xe s₂) X.xe s₁) X.xe s
theorem Fu(b:agu)(h:op ≠ .In)(h2:op ≠ .NotIn):aeM op b=false:=by
 have e1:(op == CmpOp.In)=false:=by cases op<;>first|rfl|exact absurd rfl h
 have e2:(op == CmpOp.NotIn)=false:=by cases op<;>first|rfl|exact absurd rfl h2
 cases b<;>simp[aeM,e1,e2]
def Fv(ta:TE):TE:=λσ H Q=>ta σ H λx H1=>Q (.bl (decide (x = .non))) H1
def Fw(ta:TE):TE:=λσ H Q=>ta σ H λx H1=>Q (.bl (!decide (x = .non))) H1
theorem RelV.Fx(r:RelV x v):(v == Value.none)=decide (x = .non):=by
 cases x with
 | non=>cases r;rfl
 | bl _=>cases r;rfl
 | int _=>obtain⟨t,rfl⟩:=r;rfl
 | str _=>obtain⟨t,rfl⟩:=r;rfl
 | byt _=>obtain⟨t,rfl⟩:=r;rfl
 | flt _=>obtain⟨t,rfl⟩:=r;rfl
 | ref _=>cases r;rfl
 | ty _=>cases r;rfl
theorem rL(ha:PE X a ta):PC X .Is a (.Constant .none j pos') (Fv ta):=by intro pins s σ H Q I h;refine aB (ha pins s σ H _ I h) λv s1 zq=>?_;obtain⟨x,H1,I1,r1,q1⟩:=zq;exact aiX (is_none_gen ⟨.bl _,H1,I1,by rw[r1.Fx];rfl,q1⟩)
theorem rM(ha:PE X a ta):PC X .IsNot a (.Constant .none j pos') (Fw ta):=by intro pins s σ H Q I h;refine aB (ha pins s σ H _ I h) λv s1 zq=>?_;obtain⟨x,H1,I1,r1,q1⟩:=zq;exact aiX (isnot_none_gen ⟨.bl _,H1,I1,by rw[r1.Fx];rfl,q1⟩)
def tB(t:TE):TT:=λσ H Q=>t σ H λx H1=>∃ c,x = .bl c/\Q c H1
theorem lU(h:PC X op a b t)(h1:aeM op b=false:=by first|exact Fu _ (by decide) (by decide)|rfl):PE X (.Compare a [op] [b] pos) t:=λpins s σ H Q I hw=>wpAny_Compare1 (h pins s σ H Q I hw) h1
theorem rN(h:PC X op a b t)(h1:aeM op b=false:=by first|exact Fu _ (by decide) (by decide)|rfl):PT X (.Compare a [op] [b] pos) (tB t):=by intro pins s σ H Q I hw;refine ah5 (aB (h pins s σ H _ I hw) λv s1 h1=>aB h1 λu s2 h2=>aB h2 λc s3 zq=>?_) h1;obtain⟨x,H1,I1,r1,q1⟩:=zq;obtain⟨d,rfl,q⟩:=q1;cases r1;exact adm ⟨H1,I1,q⟩
theorem N4(h:PE X e t)(he:∀ whole,akT e X.env whole=(do let v <- whole;ajg e.pos;holding [v] (truthy v)):=by intro _;rfl):PT X e (tB t):=by intro pins s σ H Q I hw;refine isTrue_plain (aB (h pins s σ H _ I hw) λv s1 zq=>?_) (he _);obtain⟨x,H1,I1,r1,q1⟩:=zq;obtain⟨d,rfl,q⟩:=q1;cases r1;exact adm ⟨H1,I1,q⟩
variable{tA vK:TT}{rest:List agu}
def Fy(t u:TT):TT:=λσ H Q=>t σ H λc H1=>if c=true then u σ H1 Q else Q false H1
def Fz(t u:TT):TT:=λσ H Q=>t σ H λc H1=>if c=true then Q true H1 else u σ H1 Q
def FA(t:TT):TT:=λσ H Q=>t σ H λc H1=>Q (!c) H1
theorem jX(ha:PT X a tA):PW X (.BoolOp .And [a] pos) tA:=by
 intro wh pins s σ H Q I h;refine isTrue_and (aB (ha pins s σ H Q I h) λc s1 e=>?_);cases c with
 | true=>exact isTrue_and_nil e
 | false=>exact e
theorem e9(ha:PT X a tA):PW X (.BoolOp .Or [a] pos) tA:=by
 intro wh pins s σ H Q I h;refine isTrue_or (aB (ha pins s σ H Q I h) λc s1 e=>?_);cases c with
 | false=>exact isTrue_or_nil e
 | true=>exact e
theorem iu(ha:PT X a tA)(hb:PW X (.BoolOp .And (b::rest) pos) vK):PW X (.BoolOp .And (a::b::rest) pos) (Fy tA vK):=by
 intro wh pins s σ H Q I h;refine isTrue_and (aB (ha pins s σ H _ I h) λc s1 zq=>?_);obtain⟨H1,I1,q1⟩:=zq;cases c with
 | true=>exact hb wh pins s1 σ H1 Q I1 q1
 | false=>exact⟨H1,I1,q1⟩
theorem cU(ha:PT X a tA)(hb:PW X (.BoolOp .Or (b::rest) pos) vK):PW X (.BoolOp .Or (a::b::rest) pos) (Fz tA vK):=by
 intro wh pins s σ H Q I h;refine isTrue_or (aB (ha pins s σ H _ I h) λc s1 zq=>?_);obtain⟨H1,I1,q1⟩:=zq;cases c with
 | true=>exact⟨H1,I1,q1⟩
 | false=>exact hb wh pins s1 σ H1 Q I1 q1
theorem cF(ha:PT X a tA):PT X (.UnaryOp .Not a pos) (FA tA):=by intro pins s σ H Q I h;exact isTrue_not (ha pins s σ H (λc H1=>Q (!c) H1) I h)
def FC(ta tb:TE):TE:=λσ H Q=>ta σ H λx H1=>∃ c,x = .bl c/\if c=true then tb σ H1 Q else Q (.bl false) H1
def FD(ta tb:TE):TE:=λσ H Q=>ta σ H λx H1=>∃ c,x = .bl c/\if c=true then Q (.bl true) H1 else tb σ H1 Q
def FE(ta:TE):TE:=λσ H Q=>ta σ H λx H1=>∃ c,x = .bl c/\Q (.bl (!c)) H1
theorem ji(h:PE X a t):PE X (.BoolOp op [a] pos) t:=λpins s σ H Q I hw=>BoolOp_one (h pins s σ H Q I hw)
theorem N5(ha:PE X a ta)(hb:PE X (.BoolOp .And (b::rest) pos) tb):PE X (.BoolOp .And (a::b::rest) pos) (FC ta tb):=by
 intro pins s σ H Q I h;refine BoolOp_and (aB (ha pins s σ H _ I h) λv s1 zq=>?_);obtain⟨x,H1,I1,r1,q1⟩:=zq;obtain⟨c,rfl,q1⟩:=q1;cases r1;refine adm ?_;cases c with
 | true=>exact hb pins s1 σ H1 Q I1 q1
 | false=>exact⟨.bl false,H1,I1,rfl,q1⟩
theorem N6(ha:PE X a ta)(hb:PE X (.BoolOp .Or (b::rest) pos) tb):PE X (.BoolOp .Or (a::b::rest) pos) (FD ta tb):=by
 intro pins s σ H Q I h;refine BoolOp_or (aB (ha pins s σ H _ I h) λv s1 zq=>?_);obtain⟨x,H1,I1,r1,q1⟩:=zq;obtain⟨c,rfl,q1⟩:=q1;cases r1;refine adm ?_;cases c with
 | false=>exact hb pins s1 σ H1 Q I1 q1
 | true=>exact⟨.bl true,H1,I1,rfl,q1⟩
theorem N7(ha:PE X a ta):PE X (.UnaryOp .Not a pos) (FE ta):=by intro pins s σ H Q I h;refine UnaryOp_ (aB (ha pins s σ H _ I h) λv s1 zq=>?_);obtain⟨x,H1,I1,r1,q1⟩:=zq;obtain⟨c,rfl,q1⟩:=q1;cases r1;exact not_of (adm ⟨.bl (!c),H1,I1,rfl,q1⟩)
def FG(t:TT)(ta tb:TE):TE:=λσ H Q=>t σ H λc H1=>if c=true then ta σ H1 Q else tb σ H1 Q
theorem lV(hc:PT X c tA)(ha:PE X a ta)(hb:PE X b tb):PE X (.IfExp c a b pos) (FG tA ta tb):=by
 intro pins s σ H Q I h;refine wpAny_IfExp (aB (hc pins s σ H _ I h) λd s1 zq=>?_);obtain⟨H1,I1,q1⟩:=zq;cases d with
 | true=>exact ha pins s1 σ H1 Q I1 q1
 | false=>exact hb pins s1 σ H1 Q I1 q1
end
def ai(K:acr)(H:Hp)(a:acF)(xs:List V):Prop :=
 Rd H a (.lst xs) ∨
  ∃ (o:Obj) (ao:Array acB) (n:Nat),K.lookup a=some o/\o.cls = .type "list" /\ o.dict=none/\o.data = .seq ao n/\ao.size<=acV/\Vals xs ao.toList
def ak(K:acr)(H:Hp)(a:acF)(xs:List V):Prop :=
 Rd H a (.tup xs) ∨
  ∃ (o:Obj) (ao:Array acB) (n:Nat),K.lookup a=some o/\o.cls = .type "tuple" /\ o.data = .seq ao n/\ao.size<=acV/\Vals xs ao.toList
noncomputable def N8:acB->Option V
 | .none=>some .non
 | .bool b=>some (.bl b)
 | .int i _=>some (.int i)
 | .str x _=>some (.str x)
 | .bytes b _=>some (.byt b)
 | .float b _=>some (.flt b)
 | .ref a=>some (.ref a)
 | .type n=>some (.ty n)
 | _=>none
theorem RelV.abs(r:RelV x u):N8 u=some x:=by
 cases x with
 | non=>cases r;rfl
 | bl _=>cases r;rfl
 | int _=>obtain⟨t,rfl⟩:=r;rfl
 | str _=>obtain⟨t,rfl⟩:=r;rfl
 | byt _=>obtain⟨t,rfl⟩:=r;rfl
 | flt _=>obtain⟨t,rfl⟩:=r;rfl
 | ref _=>cases r;rfl
 | ty _=>cases r;rfl
theorem RelV.inj(r:RelV x u)(q:RelV y u):x=y:=Option.some.inj (r.abs.symm.trans q.abs)
theorem Vals.inj:∀ {xs ys:List V} {us:List acB},Vals xs us->Vals ys us->xs=ys:=by
 intro xs ys us h h'
 induction h generalizing ys with
 | nil=>cases h';rfl
 | cons r t ih =>
  cases h' with
  | cons r' t'=>rw[r.inj r',ih t']
section
theorem ai.of{K:acr}(h:H a=some (.lst xs)):ai K H a xs:=.inl (.inl h)
theorem ak.of{K:acr}(h:H a=some (.tup xs)):ak K H a xs:=.inl (.inl h)
theorem Inv.list(I:Inv X pins σ H s)(h:ai X.K H a xs):∃ ao:List acB,Vals xs ao/\PlainL s.heap a ao.toArray/\xs.length<=acV:=by
 rcases h with h|⟨o,ao,n,hk,hc,hd,hs,hz,r⟩
 .obtain⟨z,ao,n,r,e⟩:=h.ok I.ay;exact⟨ao,r,⟨_,n,e,rfl,rfl,rfl⟩,z⟩
 .refine⟨ao.toList,r,⟨o,n,I.ck a o hk,hc,hd,by simpa using hs⟩,?_⟩;have e:=r.length;simp only[aez] at e;omega
theorem Inv.tuple(I:Inv X pins σ H s)(h:ak X.K H a xs):∃ ao:List acB,Vals xs ao/\IsTup s.heap a ao.toArray/\xs.length<=acV:=by
 rcases h with h|⟨o,ao,n,hk,hc,hs,hz,r⟩
 .obtain⟨z,ao,r,p⟩:=h.ok I.ay;exact⟨ao,r,p,z⟩
 .refine⟨ao.toList,r,⟨o,I.ck a o hk,hc,n,by simpa using hs⟩,?_⟩;have e:=r.length;simp only[aez] at e;omega
theorem Inv.rO(I:Inv X pins σ H s)(h:ai X.K H a xs)(h':ai X.K H a ys):xs=ys:=by
 obtain⟨ao,r,⟨o,n,e,_,_,d⟩,_⟩:=I.list h;obtain⟨its',r',⟨o',n',e',_,_,d'⟩,_⟩:=I.list h';rw[e] at e';cases e';rw[d] at d';injection d' with d1 _;have:ao=its':=by simpa using congrArg ajA d1
 subst this;exact r.inj r'
theorem Inv.Oa(I:Inv X pins σ H s)(h:ak X.K H a xs)(h':ak X.K H a ys):xs=ys:=by
 obtain⟨ao,r,⟨o,e,_,n,d⟩,_⟩:=I.tuple h;obtain⟨its',r',⟨o',e',_,n',d'⟩,_⟩:=I.tuple h';rw[e] at e';cases e';rw[d] at d';injection d' with d1 _;have:ao=its':=by simpa using congrArg ajA d1
 subst this;exact r.inj r'
end
noncomputable abbrev Cx.jY(X:Cx)(E:acB->acI->Prop):Cx:={ X with xe:=E }
noncomputable abbrev Cx.pB(X:Cx):Cx:=X.jY λ_ _=>False
theorem Cx.Ok.jY{X:Cx}(ok:X.Ok)(E:acB->acI->Prop):(X.jY E).Ok :=
 ⟨ok.mod,ok.kind,ok.glob,ok.blt,ok.above,ok.inj,ok.has,ok.cab,ok.hd,ok.frames,ok.stk,ok.exf,ok.bs,ok.bsz,ok.noex,ok.exfs,ok.f6,ok.frf⟩
theorem Cx.Ok.lW{X:Cx}{E:acB->acI->Prop}(ok:(X.jY E).Ok):X.Ok :=
 ⟨ok.mod,ok.kind,ok.glob,ok.blt,ok.above,ok.inj,ok.has,ok.cab,ok.hd,ok.frames,ok.stk,ok.exf,ok.bs,ok.bsz,ok.noex,ok.exfs,ok.f6,ok.frf⟩
section
theorem Inv.jY(I:Inv X pins σ H s)(E:acB->acI->Prop):Inv (X.jY E) pins σ H s:=⟨I.ok.jY E,I.os,I.bare,I.base,I.loc,I.cell,I.free,I.f7,I.pin,I.ay,I.len⟩
theorem Inv.lW(I:Inv (X.jY E) pins σ H s):Inv X pins σ H s:=⟨I.ok.lW,I.os,I.bare,I.base,I.loc,I.cell,I.free,I.f7,I.pin,I.ay,I.len⟩
theorem SP.lW(h:SP (X.jY E) pins D f s'):SP X pins D f s':=by
 cases f with
 | next=>obtain⟨σ',H',I,q⟩:=h;exact⟨σ',H',I.lW,q⟩
 | brk=>obtain⟨σ',H',I,q⟩:=h;exact⟨σ',H',I.lW,q⟩
 | cont=>obtain⟨σ',H',I,q⟩:=h;exact⟨σ',H',I.lW,q⟩
 | ret u=>obtain⟨v,σ',H',I,r,q⟩:=h;exact⟨v,σ',H',I.lW,r,q⟩
theorem aT.pB{st:List aee}{t:TS}(h:aT X.pB st t):aT X st t:=λpins s σ H D I hw =>
 adN (h pins s σ H D (I.jY _) hw) (λ_ _ q=>q.lW) λ_ _ z=>aeg z
end
section
variable{X:Cx}{st:aee}{rest:List aee}{t u:TS}{e:agu}{te:TE}{pos:Pos}
def FH:TS:=λD σ H=>D.nx σ H
def nK(t u:TS):TS:=λD σ H=>t { D with nx:=u D } σ H
theorem aG:aT X [] FH:=λ_ _ σ H _ I h=>afR ⟨σ,H,I,h⟩
theorem ar(h1:PS X st t)(h2:aT X rest u):aT X (st::rest) (nK t u):=by
 intro pins s σ H D I h;refine ahL (aB (h1 pins s σ H { D with nx:=u D } I h) λf s1 q=>?_);cases f with
 | next =>
  obtain⟨σ',H',I',q⟩:=q;exact h2 pins s1 σ' H' D I' q
 | ret v=>exact q
 | brk=>exact q
 | cont=>exact q
theorem au(h1:PS X st t):aT X [st] t:=by
 intro pins s σ H D I h;refine ahL (aB (h1 pins s σ H D I h) λf s1 q=>?_);cases f with
 | next=>exact afR q
 | ret v=>exact q
 | brk=>exact q
 | cont=>exact q
theorem Inv.quiet(I:Inv X pins σ H s):interactive X.env=false:=by simp[interactive,I.ok.kind]
def FI(te:TE):TS:=λD σ H=>te σ H λ_ H1=>D.nx σ H1
theorem eI(he:PE X e te)(hs:agm e none pos.line X.env=pure false:=by rfl):PS X (.Expr e pos) (FI te):=by intro pins s σ H D I h;exact wpAny_Expr_any (aB (he pins s σ H _ I h) λv s1 ⟨x,H1,I1,r1,q1⟩=>⟨σ,H1,I1,q1⟩) I.quiet hs
def FK(te:TE):TS:=λD σ H=>te σ H D.rt
theorem aA(he:PE X e te):PS X (.Return (some e) pos) (FK te):=by intro pins s σ H D I h;exact wpAny_Return_some (aB (he pins s σ H _ I h) λv s1 ⟨x,H1,I1,r1,q1⟩=>⟨x,σ,H1,I1,r1,q1⟩)
def rP(c:TT)(t u:TS):TS:=λD σ H=>c σ H λb H1=>if b=true then t D σ H1 else u D σ H1
theorem aH(hc:PT X c tc)(ha:aT X a t)(hb:aT X b u):PS X (.If c a b pos) (rP tc t u):=by
 intro pins s σ H D I h;refine wpAny_If (aB (hc pins s σ H _ I h) λd s1 zq=>?_);obtain⟨H1,I1,q1⟩:=zq;cases d with
 | true=>exact ha pins s1 σ H1 D I1 q1
 | false=>exact hb pins s1 σ H1 D I1 q1
end
abbrev TG:=V->St->Hp->(St->Hp->Prop)->Prop
abbrev rQ:=List V->St->Hp->(St->Hp->Prop)->Prop
def PG(X:Cx)(target:agu)(t:TG):Prop :=
 ∀ (pins:List (acF × Obj)) (s:acI) (σ:St) (H:Hp) (v:V) (u:acB) (Q:St->Hp->Prop),Inv X pins σ H s->RelV v u->t v σ H Q ->
  acQ (model X.prog X.w) X.A (assign target X.env u) (λ_ s'=>∃ σ' H',Inv X pins σ' H' s'/\Q σ' H') X.xe s
def vL(X:Cx)(ts:List agu)(t:rQ):Prop :=
 ∀ (pins:List (acF × Obj)) (s:acI) (σ:St) (H:Hp) (vs:List V) (us:List acB) (Q:St->Hp->Prop),Inv X pins σ H s->Vals vs us->t vs σ H Q ->
  acQ (model X.prog X.w) X.A (assignInOrder ((agG ts X.env).map (·.2)) us) (λ_ s'=>∃ σ' H',Inv X pins σ' H' s'/\Q σ' H') X.xe s
abbrev FL:=V->V->V->Hp->(Hp->Prop)->Prop
def FN(X:Cx)(t:FL):Prop :=
 ∀ (pins:List (acF × Obj)) (s:acI) (σ:St) (H:Hp) (o i v:V) (ov iv u:acB) (Q:Hp->Prop),Inv X pins σ H s->RelV o ov->RelV i iv->RelV v u->t o i v H Q ->
  acQ (model X.prog X.w) X.A (setItem ov iv u) (λ_ s'=>∃ H',Inv X pins σ H' s'/\Q H') X.xe s
section
def b5(i:Nat):TG:=λv σ H Q=>Q (σ.set i (some v)) H
theorem gd(hN:X.N.Nodup)(hi:X.N[i]?=some x)(hx:Loc X.env.scope x)(hf:X.fn x=true∨X.env.scope.names.lookup x=some .local:=by first|exact .inl rfl|exact .inr rfl|assumption):PG X (.Name x pos) (b5 i):=by intro pins s σ H v u Q I r h;exact wpAny_assign_Name (Fs I hN hi hx r (λs' I'=>⟨_,H,I',h⟩) hf)
def ix:rQ:=λvs σ H Q=>vs=[]/\Q σ H
def cL(t:TG)(u:rQ):rQ:=λvs σ H Q=>∃ v r,vs=v::r/\t v σ H λσ' H'=>u r σ' H' Q
theorem jZ:vL X [] ix:=by intro pins s σ H vs us Q I r h;obtain⟨e,h⟩:=h;subst e;cases r;exact assignInOrder_nil ⟨σ,H,I,h⟩
theorem dv(h1:PG X e t)(h2:vL X es u)(hs:(agG (e::es) X.env).map (·.2)=assign e X.env::(agG es X.env).map (·.2):=by rfl):vL X (e::es) (cL t u):=by
 intro pins s σ H vs us Q I r h;obtain⟨v,vr,e1,h⟩:=h;subst e1;cases r with
 | cons r rr =>
  rw[hs];refine assignInOrder_cons (aB (h1 pins s σ H _ _ _ I r h) λ_ s1 zq=>?_);obtain⟨σ1,H1,I1,q1⟩:=zq;exact h2 pins s1 σ1 H1 _ _ Q I1 rr q1
def jk(K:acr)(n:Nat)(t:rQ):TG:=λv σ H Q=>∃ a xs,v = .ref a/\ak K H a xs/\xs.length=n/\t xs σ H Q
theorem j4(hc:X.calm=true)(h:vL X es t)(hn:(agG es X.env).length=n:=by rfl)(cG:(agG es X.env).findIdx? (·.1)=none:=by rfl):PG X (.Tuple es k pos) (jk X.K n t):=by intro pins s σ H v u Q I r hw;obtain⟨a,xs,e1,hq,hl,hw⟩:=hw;subst e1;cases r;obtain⟨ao,rv,ht,hz⟩:=I.tuple hq;refine assign_Tuple_tuple (I.ok.hd hc) ht (by simp[hn,<- hl,rv.length]) cG λh' hx=>?_;have I1:Inv X pins σ H { s with heap:=h' }:=I.kept (t':=s.toks) λb o e=>hx b o (acO (acy e)) e;exact h pins _ σ H xs _ Q I1 (by simpa using rv) hw
def FO(to ti:TE)(t:FL):TG:=λv σ H Q=>to σ H λo H1=>ti σ H1 λi H2=>t o i v H2 λH3=>Q σ H3
theorem yS(ho:PE X o to)(hi:PE X i ti)(hs:FN X t)(ha:∀ v,assign (.Subscript o i pos) X.env v=(do
 let ov <- holding [v] (eval o X.env);let iv <- holding [v,ov] (eval i X.env)
 ajg pos
 holding [v,ov,iv] (setItem ov iv v)
 release [v,ov,iv] []):=by intro _;rfl):PG X (.Subscript o i pos) (FO to ti t):=by
 intro pins s σ H v u Q I r h;rw[ha];refine acq (adY (aB (ho pins s σ H _ I h) λov s1 zq=>?_));obtain⟨x,H1,I1,r1,q1⟩:=zq;refine acq (adY (aB (hi pins s1 σ H1 _ I1 q1) λiv s2 zq=>?_));obtain⟨y,H2,I2,r2,q2⟩:=zq;refine acq (aiY (acq (adY (aB (hs pins s2 σ H2 x y v ov iv u _ I2 r1 r2 r q2) λ_ s3 zq=>?_))));obtain⟨H3,I3,q3⟩:=zq;exact wpAny_release ⟨σ,H3,I3,q3⟩
def rR(te:TE)(g:TG):TS:=λD σ H=>te σ H λx H1=>g x σ H1 D.nx
theorem yT(he:PE X e te)(hg:PG X tg g)(hs:swapsWithSole [tg] e pos.line X.env=pure false:=by rfl)(hw:swappedStores [tg] e X.env=pure none:=by rfl)(h1:(agG [tg] X.env).map (·.2)=[assign tg X.env]:=by rfl):PS X (.Assign [tg] e pos) (rR te g):=by intro pins s σ H D I h;refine aiH (aB (he pins s σ H _ I h) λv s1 zq=>?_) hs hw;obtain⟨x,H1,I1,r1,q1⟩:=zq;rw[h1];exact aB (hg pins s1 σ H1 x v _ I1 r1 q1) λ_ s2 q=>q
theorem jm(hN:X.N.Nodup)(hi:X.N[i]?=some x)(hx:Loc X.env.scope x)(he:PE X e te)(hs:agm e (some (.Name x pos')) pos.line X.env=pure false:=by rfl)(hf:X.fn x=true∨X.env.scope.names.lookup x=some .local:=by first|exact .inl rfl|exact .inr rfl|assumption) :
 PS X (.Assign [.Name x pos'] e pos) (rR te (b5 i)):=by
 intro pins s σ H D I h;refine wpAny_Assign_Name (aB (he pins s σ H _ I h) λv s1 zq=>?_) hs;obtain⟨y,H1,I1,r1,q1⟩:=zq;exact Fs I1 hN hi hx r1 (λs2 I2=>⟨_,H1,I2,q1⟩) hf
end
structure It where
 go:Nat->Hp->Prop
 yld:Nat->Hp->V->Hp->Prop
 stop:Nat->Hp->Prop
def eJ(X:Cx)(pins:List (acF × Obj))(H:Hp)(b:acF):Prop :=
 H b=none/\b≠X.env.locals/\b∉X.fs/\(b∈X.ex∨X.s₀.heap.objs.size<=b)/\(∀ x c,X.env.cells.lookup x=some c->c≠b)/\∀ p∈X.pn++pins,p.1≠b
theorem Inv.iy(I:Inv X pins σ H s)(hb:s.heap.objs.size<=b)(hn:H' b=none):eJ X pins H' b:=by
 refine⟨hn,adJ (acX I.lt hb),I.Fl hb,.inr (acA I.sz hb),λx c e z=>?_,λp hp z=>?_⟩
 .obtain⟨v,q⟩:=I.cell x c e;exact absurd (acX q.lt (by rw[z];exact hb)) (ad4 _)
 .exact absurd (acX (acy (I.pin p hp).1) (by rw[z];exact hb)) (ad4 _)
structure Turn(P:adn)(w:ad2)(K:acr)(tg:agu)(J:It)(fp:List acF)(it:acF)(tn:Nat->aeV->Prop):Prop where
 mem:it∈fp
 obj:∀ i h,tn i h->∀ b∈fp,∃ o,h.get? b=some o/\∀ v,o.data ≠ .cell v
 keep:∀ i h h',tn i h->(∀ b∈fp,∀ o,h.get? b=some o->h'.get? b=some o)->tn i h'
 item:∀ (X:Cx),X.prog=P->X.w=w->X.K=K->X.calm=true->∀ (i:Nat) (pins:List (acF × Obj)) (s:acI) (σ:St) (H:Hp) (E:acB->acI->Prop),Inv X pins σ H s->(∀ b∈fp,eJ X pins H b)->tn i s.heap->J.go i H ->
  acQ (model P w) X.A (afj (.ref it)) (λr s1=>∃ u,r=some u /\
   acQ (model P w) X.A (agJ tg (.ref it) u) (λ_ s2=>∃ x H',Inv X pins σ H' s2/\RelV x u/\J.yld i H x H'/\tn (i+1) s2.heap/\∀ b∈fp,H' b=none) E s1) E s
 done:∀ (X:Cx),X.prog=P->X.w=w->X.K=K->X.calm=true->∀ (i:Nat) (pins:List (acF × Obj)) (s:acI) (σ:St) (H:Hp) (E:acB->acI->Prop),Inv X pins σ H s->(∀ b∈fp,eJ X pins H b)->tn i s.heap->J.stop i H ->
  acQ (model P w) X.A (afj (.ref it)) (λr s1=>r=none/\Inv X pins σ H s1) E s
 self:∀ (A:aeb) (i:Nat) (s:acI) (Q:acB->acI->Prop) (E:acB->acI->Prop),tn i s.heap->Q (.ref it) s->acQ (model P w) A (akU (.ref it)) Q E s
abbrev TI:=St->Hp->(It->Hp->Prop)->Prop
def FP(X:Cx)(pins:List (acF × Obj))(σ:St)(tg:agu)(R:It->Hp->Prop)(vM:acB)(s2:acI):Prop :=
 ∃ (it:acF) (fp:List acF) (tn:Nat->aeV->Prop) (J:It) (H':Hp),vM = .ref it/\Inv X pins σ H' s2/\Turn X.prog X.w X.K tg J fp it tn/\tn 0 s2.heap/\(∀ b∈fp,eJ X pins H' b)/\R J H'
def PI(X:Cx)(tg iter:agu)(wi:TI):Prop :=
 ∀ (pins:List (acF × Obj)) (s:acI) (σ:St) (H:Hp) (R:It->Hp->Prop),Inv X pins σ H s->wi σ H R ->
  acQ (model X.prog X.w) X.A (eval iter X.env) (λv s1=>acQ (model X.prog X.w) X.A (akU v) (FP X pins σ tg R) X.xe s1) X.xe s
theorem pC(ho:s.heap.get? it=some o)(hc:o.cls = .type n)(hd:o.data = .fields vs)(hn:["enumerate","zip","dict_itemiterator","dict_reverseitemiterator","odict_iterator","itertools.zip_longest","itertools.pairwise"].contains n=false)(hQ:Q () s):acQ M A (agJ tg (.ref it) u) Q E s:=by
 unfold agJ;cases tg<;>first
  | exact acw hQ
  | (cases u<;>first
      | exact acw hQ
      | (refine acq (wpAny_load ho ?_)
         rw[hc,hd];show acQ M A (if (["enumerate","zip","dict_itemiterator","dict_reverseitemiterator","odict_iterator","itertools.zip_longest","itertools.pairwise"].contains n && vs[0]? == some (af4 _))=true then _ else _) Q E s;rw[if_neg (by intro h;rw[hn,agh] at h;cases h)];exact acw hQ))
noncomputable def jn(K:acr)(a:acF):It :=
 ⟨λi H=>∃ xs x,ai K H a xs/\xs[i]?=some x,λi H x H'=>H'=H/\∀ xs,ai K H a xs->xs[i]?=some x,λi H=>∃ xs,ai K H a xs/\xs.length<=i⟩
noncomputable def rS(K:acr)(a:acF):It :=
 ⟨λi H=>∃ xs x,ak K H a xs/\xs[i]?=some x,λi H x H'=>H'=H/\∀ xs,ak K H a xs->xs[i]?=some x,λi H=>∃ xs,ak K H a xs/\xs.length<=i⟩
noncomputable def iz(lo:Int)(n:Nat):It:=⟨λi _=>i<n,λi H x H'=>H'=H/\x = .int (lo+i),λi _=>n<=i⟩
theorem Ob{P:adn}{w:ad2}{K:acr}{tg:agu}(a it:acF):Turn P w K tg (jn K a) [it] it (λi h=>h.IsListIter it a i) where
 mem:=by simp
 obj:=λi h st b hb=>by
  have e:b=it:=by simpa using hb
  subst e;obtain⟨o,e,c,d⟩:=st;exact⟨o,e,λv z=>by rw[d] at z;cases z⟩
 keep:=λi h h' st k=>st.at λo e=>k it (by simp) o e
 item:=by intro X hP hw hK hc i pins s σ H E I hf st hg;subst hP hw hK;obtain⟨xs,x,hq,hx⟩:=hg;obtain⟨ao,rv,p,hz⟩:=I.list hq;obtain⟨u,hu,ru⟩:=rv.get hx;obtain⟨f0,f1,f2,f3,f4,f5⟩:=hf it (by simp);refine wpAny_pyNext_list_item st p.isList (x:=u) (by simpa using hu) λh' cY sb=>?_;have I1:Inv X pins σ H { s with heap:=h' }:=I.turned (t':=s.toks) (λb o hb e=>(sb.2 b hb).trans e) f0 f1 f3 f4 f5;obtain⟨o,e,c,d⟩:=id cY;exact⟨u,rfl,pC (s:={ s with heap:=h' }) e c d (by decide) ⟨x,H,I1,ru,⟨rfl,λys hy=>by rw[I.rO hy hq];exact hx⟩,cY,λb hb=>(hf b hb).1⟩⟩
 done:=by
  intro X hP hw hK hc i pins s σ H E I hf st hg;subst hP hw hK;obtain⟨xs,hq,hx⟩:=hg;obtain⟨ao,rv,p,hz⟩:=I.list hq;obtain⟨f0,f1,f2,f3,f4,f5⟩:=hf it (by simp);have hl:=rv.length;exact wpAny_pyNext_list_end (I.ok.hd hc) st p.isList (by simp;omega) λh' eb=>⟨rfl,I.turned (t':=s.toks) (λb o hb e=>eb b o hb e) f0 f1 f3 f4 f5⟩
 self:=λ_ _ _ _ _ st h=>wpAny_pyIter_listiter st h
theorem Oc{P:adn}{w:ad2}{K:acr}{tg:agu}(a it:acF):Turn P w K tg (rS K a) [it] it (λi h=>h.IsTupleIter it a i) where
 mem:=by simp
 obj:=λi h st b hb=>by
  have e:b=it:=by simpa using hb
  subst e;obtain⟨o,e,c,d⟩:=st;exact⟨o,e,λv z=>by rw[d] at z;cases z⟩
 keep:=λi h h' st k=>st.at λo e=>k it (by simp) o e
 item:=by intro X hP hw hK hc i pins s σ H E I hf st hg;subst hP hw hK;obtain⟨xs,x,hq,hx⟩:=hg;obtain⟨ao,rv,p,hz⟩:=I.tuple hq;obtain⟨u,hu,ru⟩:=rv.get hx;obtain⟨f0,f1,f2,f3,f4,f5⟩:=hf it (by simp);refine wpAny_pyNext_tuple_item st (show s.heap.IsTuple a ao.toArray from p) (x:=u) (by simpa using hu) λh' cY sb=>?_;have I1:Inv X pins σ H { s with heap:=h' }:=I.turned (t':=s.toks) (λb o hb e=>(sb.2 b hb).trans e) f0 f1 f3 f4 f5;obtain⟨o,e,c,d⟩:=id cY;exact⟨u,rfl,pC (s:={ s with heap:=h' }) e c d (by decide) ⟨x,H,I1,ru,⟨rfl,λys hy=>by rw[I.Oa hy hq];exact hx⟩,cY,λb hb=>(hf b hb).1⟩⟩
 done:=by
  intro X hP hw hK hc i pins s σ H E I hf st hg;subst hP hw hK;obtain⟨xs,hq,hx⟩:=hg;obtain⟨ao,rv,p,hz⟩:=I.tuple hq;obtain⟨f0,f1,f2,f3,f4,f5⟩:=hf it (by simp);have hl:=rv.length;exact wpAny_pyNext_tuple_end (I.ok.hd hc) st (show s.heap.IsTuple a ao.toArray from p) (by simp;omega) λh' eb=>⟨rfl,I.turned (t':=s.toks) (λb o hb e=>eb b o hb e) f0 f1 f3 f4 f5⟩
 self:=λ_ _ _ _ _ st h=>wpAny_pyIter_tupleiter st h
theorem Od{P:adn}{w:ad2}{K:acr}{tg:agu}(it:acF)(lo:Int)(n:Nat):Turn P w K tg (iz lo n) [it] it (λi h=>aiI h it (lo+(i:Nat) * 1) ((n:Int)-(i:Nat)) 1) where
 mem:=by simp
 obj:=λi h st b hb=>by
  have e:b=it:=by simpa using hb
  subst e;exact⟨_,st,λv z=>by
   have z':Data.fields _=Data.cell v:=z;cases z'⟩
 keep:=λi h h' st k=>k it (by simp) _ st
 item:=by intro X hP hw hK hc i pins s σ H E I hf st hg;subst hP hw hK;obtain⟨f0,f1,f2,f3,f4,f5⟩:=hf it (by simp);have W:=Walks.range (prog:=X.prog) (w:=X.w) (I.ok.hd hc) it lo 1 n;refine W.item i s _ _ hg st λv h' tk hv cY kk=>?_;obtain⟨t,rfl⟩:=hv;have I1:Inv X pins σ H { s with heap:=h',toks:=tk }:=I.turned (λb o hb e=>kk b o (by simpa using hb) e) f0 f1 f3 f4 f5;refine⟨_,rfl,pC (s:={ s with heap:=h',toks:=tk }) (n := "range_iterator") cY rfl rfl (by decide) ⟨.int (lo+i),H,I1,⟨t,?_⟩,⟨rfl,rfl⟩,cY,λb hb=>(hf b hb).1⟩⟩;rw[Int.mul_one]
 done:=by
  intro X hP hw hK hc i pins s σ H E I hf st hg;subst hP hw hK;obtain⟨f0,f1,f2,f3,f4,f5⟩:=hf it (by simp);exact ahS (I.ok.hd hc) st (by have:n<=i:=hg;omega) λh' eb=>⟨rfl,I.turned (t':=s.toks) (λb o hb e=>eb b o hb e) f0 f1 f3 f4 f5⟩
 self:=λ_ _ _ _ _ st h=>ahT st h
section
def yU(K:acr)(tl:TE):TI:=λσ H R=>tl σ H λx H1=>∃ a,x = .ref a/\(∃ xs,ai K H1 a xs)/\R (jn K a) H1
def yV(K:acr)(tl:TE):TI:=λσ H R=>tl σ H λx H1=>∃ a,x = .ref a/\(∃ xs,ak K H1 a xs)/\R (rS K a) H1
theorem cB(hl:PE X l tl):PI X tg l (yU X.K tl):=by
 intro pins s σ H R I h;refine aB (hl pins s σ H _ I h) λv s1 zq=>?_;obtain⟨x,H1,I1,r1,q1⟩:=zq;obtain⟨a,e,⟨xs,hq⟩,q⟩:=q1;subst e;cases r1;obtain⟨ao,rv,p,hz⟩:=I1.list hq;refine af9 p.isList ?_;refine⟨s1.heap.objs.size,[s1.heap.objs.size],_,_,H1,rfl,I1.kept (t':=s1.toks) λb o e=>acx _ e,Ob a _,⟨_,acG _ rfl,rfl,rfl⟩,λb hb=>?_,q⟩;have e:b=s1.heap.objs.size:=by simpa using hb
 subst e;exact I1.iy (acC _) (I1.ay.fresh (acC _))
theorem yW(hl:PE X l tl):PI X tg l (yV X.K tl):=by
 intro pins s σ H R I h;refine aB (hl pins s σ H _ I h) λv s1 zq=>?_;obtain⟨x,H1,I1,r1,q1⟩:=zq;obtain⟨a,e,⟨xs,hq⟩,q⟩:=q1;subst e;cases r1;obtain⟨ao,rv,p,hz⟩:=I1.tuple hq;refine aiZ (show s1.heap.IsTuple a ao.toArray from p) ?_;refine⟨s1.heap.objs.size,[s1.heap.objs.size],_,_,H1,rfl,I1.kept (t':=s1.toks) λb o e=>acx _ e,Oc a _,⟨_,acG _ rfl,rfl,rfl⟩,λb hb=>?_,q⟩;have e:b=s1.heap.objs.size:=by simpa using hb
 subst e;exact I1.iy (acC _) (I1.ay.fresh (acC _))
theorem FQ{pins:List (acF × Obj)}{σ:St}{H:Hp}{s:acI}{R:It->Hp->Prop}{E:acB->acI->Prop}{lo hi:Int}{t u v:Tok}{tk:Nat}(I:Inv X pins σ H s)(h1 : -(2 ^ 62)<=lo)(h2:lo<2 ^ 62)(h3 : -(2 ^ 62)<=hi)(h4:hi<2 ^ 62)
 (q:R (iz lo (hi-lo).toNat) H):acQ (model X.prog X.w) X.A (akU (.ref s.heap.objs.size)) (FP X pins σ tg R) E { s with heap:=s.heap.push { cls:=.type "range",data:=.fields #[.int lo t,.int hi u,.int 1 v] },toks:=tk }:=by
 refine ai0 (IsRange.new ..) (small_one h1 h2 h3 h4) ?_;have I1:Inv X pins σ H { s with heap:=s.heap.push { cls:=.type "range",data:=.fields #[.int lo t,.int hi u,.int 1 v] },toks:=tk }:=I.kept λb o e=>acx _ e;refine⟨(s.heap.push { cls:=.type "range",data:=.fields #[.int lo t,.int hi u,.int 1 v] }).objs.size,[(s.heap.push { cls:=.type "range",data:=.fields #[.int lo t,.int hi u,.int 1 v] }).objs.size],_,_,H,rfl,
  I1.kept (t':=tk) λb o e=>acx _ e,Od _ lo (hi-lo).toNat,?_,λb hb=>?_,q⟩
 .have e1:lo+((0:Nat):Int) * 1=lo:=by simp
  have e2:(((hi-lo).toNat:Nat):Int)-((0:Nat):Int)=adB lo hi 1:=by rw[rangeSize_one];split<;>omega
  show aiI _ _ (lo+((0:Nat):Int) * 1) ((((hi-lo).toNat:Nat):Int)-((0:Nat):Int)) 1;rw[e1,e2];exact acG _ rfl
 .have e:b=(s.heap.push { cls:=.type "range",data:=.fields #[.int lo t,.int hi u,.int 1 v] }).objs.size:=by simpa using hb
  subst e;exact I1.iy (acC _) (I1.ay.fresh (acC _))
def yX(ta:TA):TI:=λσ H R=>ta σ H λvs H1=>∃ j:Int,vs=[.int j]/\-(2 ^ 62)<=j/\j<2 ^ 62/\R (iz 0 j.toNat) H1
def yY(ta:TA):TI:=λσ H R=>ta σ H λvs H1=>∃ i j:Int,vs=[.int i,.int j]/\(-(2 ^ 62)<=i/\i<2 ^ 62/\-(2 ^ 62)<=j/\j<2 ^ 62)/\R (iz i (j-i).toNat) H1
theorem g9(hg:Gl X "range")(hm:X.mg "range" = none)(ha:PA X [a] ta)(hs:acW [a] X.env=[(false,eval a X.env)]:=by rfl):PI X tg (.Call (.Name "range" p) [a] [] pos) (yX ta):=by
 intro pins s σ H R I h;refine ak5 (fO I hg hm akx (adg (aB (ha pos pins s σ H _ I h) λus s1 zq=>?_) hs rfl));obtain⟨vs,H1,I1,r1,q1⟩:=zq;obtain⟨j,e,q1,q2,q⟩:=q1;subst e;cases r1 with
 | cons r rr =>
  cases rr;obtain⟨t,rfl⟩:=r;exact call_range_1 (FQ I1 (by omega) (by omega) q1 q2 (by simpa using q))
theorem rT(hg:Gl X "range")(hm:X.mg "range" = none)(ha:PA X [a,b] ta)(hs:acW [a,b] X.env=[(false,eval a X.env),(false,eval b X.env)]:=by rfl)(cZ:acW [b] X.env=[(false,eval b X.env)]:=by rfl) :
 PI X tg (.Call (.Name "range" p) [a,b] [] pos) (yY ta):=by
 intro pins s σ H R I h;refine ak5 (fO I hg hm akx (adg (aB (ha pos pins s σ H _ I h) λus s1 ⟨vs,H1,I1,r1,q1⟩=>?_) (by rw[hs,cZ]) (by rw[cZ];rfl)));obtain⟨i,j,e,⟨q1,q2,q3,q4⟩,q⟩:=q1;subst e;cases r1 with
 | cons r rr =>
  cases rr with
  | cons r' rr =>
   cases rr;obtain⟨t,rfl⟩:=r;obtain⟨t',rfl⟩:=r';exact call_range_2 (FQ I1 q1 q2 q3 q4 q)
def j5(wi:TI)(g:TG)(tb:TS):TS:=λD σ H=>wi σ H λJ H1=>∃ W:Nat->Nat->St->Hp->Prop,(∃ m,W 0 m σ H1)/\∀ i m σ H,W i m σ H ->
 (J.stop i H/\D.nx σ H)∨(J.go i H/\∃ N:St->Hp->Prop,(∀ σ' H',N σ' H'->∃ m',m'<m/\W (i+1) m' σ' H')/\∀ x H',J.yld i H x H'->g x σ H' λσ2 H2=>tb { D with nx:=N,ct:=N,bk:=D.nx } σ2 H2)
noncomputable def rV(fp:List acF)(h:aeV):List (acF × Obj):=fp.filterMap λb=>(h.get? b).map λo=>(b,o)
theorem vN(hb:b∈fp)(e:h.get? b=some o):(b,o)∈rV fp h:=ag1.mpr ⟨b,hb,by rw[e];rfl⟩
theorem Oe(hp:p∈rV fp h):p.1∈fp/\h.get? p.1=some p.2:=by
 obtain⟨b,hb,e⟩:=ag1.mp hp;cases q:h.get? b with
 | none=>rw[q] at e;cases e
 | some o =>
  rw[q] at e;have e':(b,o)=p:=Option.some.inj e;subst e';exact⟨hb,q⟩
theorem Inv.pinned(I:Inv X pins σ H s)(hf:∀ b∈fp,eJ X pins H b)(ho:∀ b∈fp,∃ o,s.heap.get? b=some o/\∀ v,o.data ≠ .cell v):Inv X (pins++rV fp s.heap) σ H s :=
 I.rJ λp hp=>(ac4.mp hp).elim (λz=>I.pin p (ac7 _ z)) λz=>by obtain⟨hb,e⟩:=Oe z;obtain⟨f0,f1,f2,_⟩:=hf p.1 hb;obtain⟨o,e',d⟩:=ho p.1 hb;rw[e] at e';cases e';exact⟨e,f0,f1,f2,d⟩
theorem Inv.vO(I:Inv X (pins++pl) σ H s):Inv X pins σ H s:=I.rJ λp hp=>I.pin p (ac7 _ (aes _ hp))
theorem c6(hp:PassesOwn (model X.prog X.w) X.A X.env X.xe)(hc:X.calm=true)(hi:PI X tg iter wi)(hg:PG X tg g)(hb:aT X body tb)(hs:∀ x,aew iter X.env x=pure x:=by intro _;rfl):PS X (.For tg iter body [] pos) (j5 wi g tb):=by
 intro pins s σ H D I h;refine wpAny_For (aB (hi pins s σ H _ I h) λv s1 h1=>aB h1 λvM s2 h2=>?_) hs;obtain⟨it,fp,tn,J,H2,e,I2,T,hJ,f2,W,⟨m0,w0⟩,turn⟩:=h2;subst e;have yZ:∀ {H':Hp},(∀ b∈fp,H' b=none)->∀ b∈fp,eJ X pins H' b:=λhn b hb=>⟨hn b hb,(f2 b hb).2⟩
 refine codeAny_forLoop_any (λn s'=>∃ i σ' H',Inv X pins σ' H' s'/\tn i s'.heap/\(∀ b∈fp,H' b=none)/\W i n σ' H') ?_ m0 ⟨0,σ,H2,I2,hJ,λb hb=>(f2 b hb).1,w0⟩;rintro n s3 ⟨i,σ3,H3,I3,rW,rX,w3⟩;rcases turn i n σ3 H3 w3 with ⟨stop,qn⟩|⟨go,N,hN,step⟩
 .refine afS hp (aB (T.done X rfl rfl rfl hc i pins s3 σ3 H3 X.xe I3 (yZ rX) rW stop) λr s4 zq=>?_);obtain⟨hr,I4⟩:=zq;subst hr;exact afR ⟨σ3,H3,I4,qn⟩
 .refine afS hp (aB (T.item X rfl rfl rfl hc i pins s3 σ3 H3 X.xe I3 (yZ rX) rW go) λr s4 zq=>?_);obtain⟨u,hr,h4⟩:=zq;subst hr;refine afS hp (aB h4 λ_ s5 zq=>?_);obtain⟨x,H5,I5,r5,y5,nM,y0⟩:=zq;have y9:=I5.pinned (yZ y0) (T.obj _ _ nM);refine afS hp (aB (hg _ s5 σ3 H5 x u _ y9 r5 (step x H5 y5)) λ_ s6 zq=>?_);obtain⟨σ6,H6,I6,q6⟩:=zq;refine afS hp (aB (hb _ s6 σ6 H6 _ I6 q6) λf s7 q7=>?_);have again:∀ {σ7:St} {H7:Hp},Inv X (pins++rV fp s5.heap) σ7 H7 s7->N σ7 H7->∃ m,m<n/\∃ i σ' H',Inv X pins σ' H' s7/\tn i s7.heap/\(∀ b∈fp,H' b=none)/\W i m σ' H':=λ{σ7 H7} I7 n7=>by obtain⟨m',hm,w7⟩:=hN σ7 H7 n7;refine⟨m',hm,i+1,σ7,H7,I7.vO,T.keep _ _ _ nM λb hb o e=>(I7.pin (b,o) (ac7 _ (ac7 _ (vN hb e)))).1,λb hb=>?_,w7⟩;obtain⟨o,e,d⟩:=T.obj _ _ nM b hb;exact (I7.pin (b,o) (ac7 _ (ac7 _ (vN hb e)))).2.1
  cases f with
  | next=>obtain⟨σ7,H7,I7,n7⟩:=q7;exact again I7 n7
  | cont=>obtain⟨σ7,H7,I7,n7⟩:=q7;exact again I7 n7
  | brk=>obtain⟨σ7,H7,I7,q7⟩:=q7;exact⟨σ7,H7,I7.vO,q7⟩
  | ret v=>obtain⟨x7,σ7,H7,I7,r7,q7⟩:=q7;exact⟨x7,σ7,H7,I7.vO,r7,q7⟩
end
theorem Of{K:acr}{a:acF}{xs:List V}{g:TG}{tb:TS}{D:Ends}{σ:St}{H:Hp}(Pv:Nat->St->Hp->Prop)(h0:Pv 0 σ H)(hl:∀ i σ H,i<=xs.length->Pv i σ H->ai K H a xs)
 (hs:∀ i x σ H,xs[i]?=some x->Pv i σ H->g x σ H λσ2 H2=>tb { D with nx:=Pv (i+1),ct:=Pv (i+1),bk:=D.nx } σ2 H2) (hd:∀ σ H,Pv xs.length σ H->D.nx σ H) :
 ∃ W:Nat->Nat->St->Hp->Prop,(∃ m,W 0 m σ H)/\∀ i m σ H,W i m σ H ->
  ((jn K a).stop i H/\D.nx σ H)∨((jn K a).go i H/\∃ N:St->Hp->Prop,(∀ σ' H',N σ' H'->∃ m',m'<m/\W (i+1) m' σ' H')/\∀ x H',(jn K a).yld i H x H'->g x σ H' λσ2 H2=>tb { D with nx:=N,ct:=N,bk:=D.nx } σ2 H2):=by
 refine⟨λi m σ H=>m=xs.length-i/\i<=xs.length/\Pv i σ H,⟨xs.length,by simp,ac5 _,h0⟩,?_⟩;rintro i m σ H ⟨rfl,hi,p⟩;have q:=hl i σ H hi p;by_cases bb:i<xs.length
 .refine .inr ⟨⟨xs,xs[i],q,by simp[bb]⟩,Pv (i+1),λσ' H' p'=>⟨xs.length-(i+1),by omega,rfl,bb,p'⟩,λx H' y=>?_⟩;obtain⟨e,y⟩:=y;subst e;exact hs i x σ _ (y xs q) p
 .have e:i=xs.length:=by omega
  subst e;exact .inl ⟨⟨xs,q,acC _⟩,hd σ H p⟩
theorem Og{lo:Int}{n:Nat}{g:TG}{tb:TS}{D:Ends}{σ:St}{H:Hp}(Pv:Nat->St->Hp->Prop)(h0:Pv 0 σ H)
 (hs:∀ i σ H,i<n->Pv i σ H->g (.int (lo+i)) σ H λσ2 H2=>tb { D with nx:=Pv (i+1),ct:=Pv (i+1),bk:=D.nx } σ2 H2) (hd:∀ σ H,Pv n σ H->D.nx σ H) :
 ∃ W:Nat->Nat->St->Hp->Prop,(∃ m,W 0 m σ H)/\∀ i m σ H,W i m σ H ->
  ((iz lo n).stop i H/\D.nx σ H)∨((iz lo n).go i H/\∃ N:St->Hp->Prop,(∀ σ' H',N σ' H'->∃ m',m'<m/\W (i+1) m' σ' H')/\∀ x H',(iz lo n).yld i H x H'->g x σ H' λσ2 H2=>tb { D with nx:=N,ct:=N,bk:=D.nx } σ2 H2):=by
 refine⟨λi m σ H=>m=n-i/\i<=n/\Pv i σ H,⟨n,by simp,ac5 _,h0⟩,?_⟩;rintro i m σ H ⟨rfl,hi,p⟩;by_cases bb:i<n
 .refine .inr ⟨bb,Pv (i+1),λσ' H' p'=>⟨n-(i+1),by omega,rfl,bb,p'⟩,λx H' y=>?_⟩;obtain⟨e,y⟩:=y;subst e y;exact hs i σ _ bb p
 .have e:i=n:=by omega
  subst e;exact .inl ⟨acC _,hd σ H p⟩
abbrev R2:=V->V->Hp->VK->Prop
def aZ(X:Cx)(f:acB->acB->Sem acB)(r:R2):Prop :=
 ∀ (pins:List (acF × Obj)) (s:acI) (σ:St) (H:Hp) (x y:V) (v u:acB) (Q:VK),Inv X pins σ H s->RelV x v->RelV y u->r x y H Q ->
  acQ (model X.prog X.w) X.A (f v u) (EP X pins σ Q) X.xe s
def pE(X:Cx)(f:acB->Sem acB)(r:V->Hp->VK->Prop):Prop :=
 ∀ (pins:List (acF × Obj)) (s:acI) (σ:St) (H:Hp) (x:V) (v:acB) (Q:VK),Inv X pins σ H s->RelV x v->r x H Q ->
  acQ (model X.prog X.w) X.A (f v) (EP X pins σ Q) X.xe s
def eR(X:Cx)(f:acB)(r:List V->Hp->VK->Prop):Prop :=
 ∀ (pins:List (acF × Obj)) (s:acI) (σ:St) (H:Hp) (xs:List V) (us:List acB) (Q:VK),Inv X pins σ H s->Vals xs us->r xs H Q ->
  acQ (model X.prog X.w) X.A (call f us) (EP X pins σ Q) X.xe s
def nN(r:R2)(ta tb:TE):TE:=λσ H Q=>ta σ H λx H1=>tb σ H1 λy H2=>r x y H2 Q
def FR(r:V->Hp->VK->Prop)(ta:TE):TE:=λσ H Q=>ta σ H λx H1=>r x H1 Q
def rI(C:Int->Int->Prop)(g:Int->Int->V):R2:=λx y H Q=>∃ i j,x = .int i/\y = .int j/\C i j/\Q (g i j) H
def gv(g:Int->Int->V):R2:=λx y H Q=>∃ i j,x = .int i/\y = .int j/\Q (g i j) H
def rU(g:Int->V):V->Hp->VK->Prop:=λx H Q=>∃ i,x = .int i/\Q (g i) H
section
theorem za(ha:PE X a ta)(hb:PE X b tb){pins:List (acF × Obj)}{s:acI}{σ:St}{H:Hp}{R:V->V->Hp->Prop}(I:Inv X pins σ H s)
 (h:ta σ H λx H1=>tb σ H1 λy H2=>R x y H2) {Q:acB->acI->Prop} {f:acB->acB->Sem acB}
 (hf:∀ v u s2 x y H2,Inv X pins σ H2 s2->RelV x v->RelV y u->R x y H2->acQ (model X.prog X.w) X.A (f v u) Q X.xe s2) :
 acQ (model X.prog X.w) X.A (eval a X.env) (λv s₁=>acQ (model X.prog X.w) X.A (eval b X.env) (λu s₂=>acQ (model X.prog X.w) X.A (f v u) Q X.xe s₂) X.xe s₁) X.xe s:=by
 refine aB (ha pins s σ H _ I h) λv s1 zq=>?_;obtain⟨x,H1,I1,r1,q1⟩:=zq;refine aB (hb pins s1 σ H1 _ I1 q1) λu s2 zq=>?_;obtain⟨y,H2,I2,r2,q2⟩:=zq;exact hf v u s2 x y H2 I2 r1 r2 q2
theorem aE(ho:aZ X (afr op) r)(ha:PE X a ta)(hb:PE X b tb):PE X (.BinOp a op b pos) (nN r ta tb):=by intro pins s σ H Q I h;exact wpAny_BinOp (za ha hb I h λv u s2 x y H2 I2 rx ry q=>ho pins s2 σ H2 x y v u Q I2 rx ry q)
theorem iA(ho:pE X (unaryOp op) r)(ha:PE X a ta):PE X (.UnaryOp op a pos) (FR r ta):=by intro pins s σ H Q I h;exact UnaryOp_ (aB (ha pins s σ H _ I h) λv s1 ⟨x,H1,I1,r1,q1⟩=>ho pins s1 σ H1 x v Q I1 r1 q1)
theorem rY{f:acB->acB->Sem acB}{C:Int->Int->Prop}{g:Int->Int->Int}
 (rule:∀ (i j:Int) (t u:Tok) (s:acI) (Q:acB->acI->Prop) (E:acB->acI->Prop),C i j->Q (.int (g i j) s.toks) { s with toks:=s.toks+1 }->acQ (model X.prog X.w) X.A (f (.int i t) (.int j u)) Q E s) :
 aZ X f (rI C λi j=>.int (g i j)):=by
 intro pins s σ H x y v u Q I rx ry h;obtain⟨i,j,rfl,rfl,hc,q⟩:=h;obtain⟨t,rfl⟩:=rx;obtain⟨t',rfl⟩:=ry;exact rule i j t t' s _ _ hc ⟨.int (g i j),H,I.tok _,⟨_,rfl⟩,q⟩
theorem FT{f:acB->acB->Sem acB}{g:Int->Int->Int}
 (rule:∀ (i j:Int) (t u:Tok) (s:acI) (Q:acB->acI->Prop) (E:acB->acI->Prop),Q (.int (g i j) s.toks) { s with toks:=s.toks+1 }->acQ (model X.prog X.w) X.A (f (.int i t) (.int j u)) Q E s) :
 aZ X f (gv λi j=>.int (g i j)):=by
 intro pins s σ H x y v u Q I rx ry h;obtain⟨i,j,rfl,rfl,q⟩:=h;obtain⟨t,rfl⟩:=rx;obtain⟨t',rfl⟩:=ry;exact rule i j t t' s _ _ ⟨.int (g i j),H,I.tok _,⟨_,rfl⟩,q⟩
theorem vP{f:acB->acB->Sem acB}{g:Int->Int->Bool}
 (rule:∀ (i j:Int) (t u:Tok) (s:acI) (Q:acB->acI->Prop) (E:acB->acI->Prop),Q (.bool (g i j)) s->acQ (model X.prog X.w) X.A (f (.int i t) (.int j u)) Q E s) :
 aZ X f (gv λi j=>.bl (g i j)):=by
 intro pins s σ H x y v u Q I rx ry h;obtain⟨i,j,rfl,rfl,q⟩:=h;obtain⟨t,rfl⟩:=rx;obtain⟨t',rfl⟩:=ry;exact rule i j t t' s _ _ ⟨.bl (g i j),H,I,rfl,q⟩
def Oh(i j:Int):Prop:=0<=j/\j<=1000000/\i.natAbs<2 ^ 64
theorem Oi:aZ X (afr .Add) (gv λi j=>.int (i+j)):=FT λ_ _ _ _ _ _ _ q=>add_int q
theorem Oj:aZ X (afr .Sub) (gv λi j=>.int (i-j)):=FT λ_ _ _ _ _ _ _ q=>sub_int q
theorem Ol:aZ X (afr .Mod) (rI (λ_ j=>0<j) λi j=>.int (i % j)):=rY λi j _ _ _ _ _ hc q=>by have h1:(0:Int)<j:=hc;exact mod_int' (by omega) (by rw[Int.fmod_eq_emod_of_nonneg i (by omega)];exact q)
theorem zb:aZ X (afr .Pow) (rI Oh λi j=>.int (i ^ j.toNat)):=rY λ_ _ _ _ _ _ _ hc q=>pow_int_small hc.1 hc.2.1 hc.2.2 q
theorem Oo{f:acB->Sem acB}{g:Int->Int}
 (rule:∀ (i:Int) (t:Tok) (s:acI) (Q:acB->acI->Prop) (E:acB->acI->Prop),Q (.int (g i) s.toks) { s with toks:=s.toks+1 }->acQ (model X.prog X.w) X.A (f (.int i t)) Q E s) :
 pE X f (rU λi=>.int (g i)):=by
 intro pins s σ H x v Q I rx h;obtain⟨i,rfl,q⟩:=h;obtain⟨t,rfl⟩:=rx;exact rule i t s _ _ ⟨.int (g i),H,I.tok _,⟨_,rfl⟩,q⟩
theorem Oq:pE X (unaryOp .USub) (rU λi=>.int (-i)):=Oo λ_ _ _ _ _ q=>neg_int q
end
noncomputable def kQ:V->V->Bool
 | .non,.non=>true|.non,.int _=>true|.int _,.non=>true|.non,.bl _=>true|.bl _,.non=>true|.non,.str _=>true|.str _,.non=>true
 | .int _,.int _=>true|.bl _,.bl _=>true|.str _,.str _=>true|.byt _,.byt _=>true
 | .int _,.str _=>true|.str _,.int _=>true|.bl _,.str _=>true|.str _,.bl _=>true
 | _,_=>false
def FU:R2:=λx y H Q=>kQ x y=true/\Q (.bl (decide (x=y))) H
def FV:R2:=λx y H Q=>kQ x y=true/\Q (.bl (!decide (x=y))) H
theorem FW:decide (V.int i=V.int j)=(i == j):=by rw[adV];simp
theorem FX:decide (V.bl i=V.bl j)=(i == j):=by rw[adV];simp
theorem FY:decide (V.str i=V.str j)=(i == j):=by rw[adV];simp
theorem FZ:decide (V.byt i=V.byt j)=(i.toList == j.toList):=by rw[adV];cases i;cases j;simp
section
theorem cC(I:Inv X pins σ H s)(q:Q (.bl k) H)(e:k=k'):EP X pins σ Q (.bool k') s:=by subst e;exact⟨.bl k,H,I,rfl,q⟩
theorem pF:aZ X (adx .Eq) FU:=by
 intro pins s σ H x y v u Q I rx ry h;obtain⟨hs,q⟩:=h;cases x with
 | non =>
  cases rx;cases y with
  | non=>cases ry;exact PySem.EqNone.eq_none_none (cC I q (by simp))
  | bl j=>cases ry;exact PySem.EqNone.eq_none_bool (cC I q (by simp))
  | int j=>obtain⟨t',rfl⟩:=ry;exact PySem.EqNone.eq_none_int (cC I q (by simp))
  | str j=>obtain⟨t',rfl⟩:=ry;exact PySem.EqNone.eq_none_str (cC I q (by simp))
  | _=>exact absurd (show false=true from hs) acP
 | bl i =>
  cases rx;cases y with
  | non=>cases ry;exact PySem.EqNone.eq_bool_none (cC I q (by simp))
  | bl j=>cases ry;exact eq_bool (cC I q FX)
  | str j=>obtain⟨t',rfl⟩:=ry;exact PySem.EqMixed.eq_bool_str (cC I q (by simp))
  | _=>exact absurd (show false=true from hs) acP
 | int i =>
  obtain⟨t,rfl⟩:=rx;cases y with
  | non=>cases ry;exact PySem.EqNone.eq_int_none (cC I q (by simp))
  | int j=>obtain⟨t',rfl⟩:=ry;exact eq_int (cC I q FW)
  | str j=>obtain⟨t',rfl⟩:=ry;exact PySem.EqMixed.eq_int_str (cC I q (by simp))
  | _=>exact absurd (show false=true from hs) acP
 | str i =>
  obtain⟨t,rfl⟩:=rx;cases y with
  | non=>cases ry;exact PySem.EqNone.eq_str_none (cC I q (by simp))
  | bl j=>cases ry;exact PySem.EqMixed.eq_str_bool (cC I q (by simp))
  | int j=>obtain⟨t',rfl⟩:=ry;exact PySem.EqMixed.eq_str_int (cC I q (by simp))
  | str j=>obtain⟨t',rfl⟩:=ry;exact eq_str (cC I q FY)
  | _=>exact absurd (show false=true from hs) acP
 | byt i =>
  obtain⟨t,rfl⟩:=rx;cases y with
  | byt j=>obtain⟨t',rfl⟩:=ry;exact PySem.W.eq_bytes (cC I q FZ)
  | _=>exact absurd (show false=true from hs) acP
 | _=>cases y<;>exact absurd (show false=true from hs) acP
theorem Ot:aZ X (adx .NotEq) FV:=by
 intro pins s σ H x y v u Q I rx ry h;obtain⟨hs,q⟩:=h;cases x with
 | non =>
  cases rx;cases y with
  | non=>cases ry;exact PySem.EqNone.ne_none_none (cC I q (by simp))
  | bl j=>cases ry;exact PySem.EqNone.ne_none_bool (cC I q (by simp))
  | int j=>obtain⟨t',rfl⟩:=ry;exact PySem.EqNone.ne_none_int (cC I q (by simp))
  | str j=>obtain⟨t',rfl⟩:=ry;exact PySem.EqNone.ne_none_str (cC I q (by simp))
  | _=>exact absurd (show false=true from hs) acP
 | bl i =>
  cases rx;cases y with
  | non=>cases ry;exact PySem.EqNone.ne_bool_none (cC I q (by simp))
  | bl j=>cases ry;exact ne_bool (cC I q (congrArg not FX))
  | str j=>obtain⟨t',rfl⟩:=ry;exact PySem.EqMixed.ne_bool_str (cC I q (by simp))
  | _=>exact absurd (show false=true from hs) acP
 | int i =>
  obtain⟨t,rfl⟩:=rx;cases y with
  | non=>cases ry;exact PySem.EqNone.ne_int_none (cC I q (by simp))
  | int j=>obtain⟨t',rfl⟩:=ry;exact ne_int (cC I q (congrArg not FW))
  | str j=>obtain⟨t',rfl⟩:=ry;exact PySem.EqMixed.ne_int_str (cC I q (by simp))
  | _=>exact absurd (show false=true from hs) acP
 | str i =>
  obtain⟨t,rfl⟩:=rx;cases y with
  | non=>cases ry;exact PySem.EqNone.ne_str_none (cC I q (by simp))
  | bl j=>cases ry;exact PySem.EqMixed.ne_str_bool (cC I q (by simp))
  | int j=>obtain⟨t',rfl⟩:=ry;exact PySem.EqMixed.ne_str_int (cC I q (by simp))
  | str j=>obtain⟨t',rfl⟩:=ry;exact ne_str (cC I q (congrArg not FY))
  | _=>exact absurd (show false=true from hs) acP
 | byt i =>
  obtain⟨t,rfl⟩:=rx;cases y with
  | byt j=>obtain⟨t',rfl⟩:=ry;exact PySem.W.ne_bytes (cC I q (congrArg not FZ))
  | _=>exact absurd (show false=true from hs) acP
 | _=>cases y<;>exact absurd (show false=true from hs) acP
theorem zc:aZ X (adx .Lt) (gv λi j=>.bl (decide (i<j))):=vP λ_ _ _ _ _ _ _ q=>lt_int q
theorem fu:aZ X (adx .LtE) (gv λi j=>.bl (decide (i<=j))):=vP λ_ _ _ _ _ _ _ q=>le_int q
theorem vQ:aZ X (adx .Gt) (gv λi j=>.bl (decide (j<i))):=vP λ_ _ _ _ _ _ _ q=>gt_int q
theorem zd:aZ X (adx .GtE) (gv λi j=>.bl (decide (j<=i))):=vP λ_ _ _ _ _ _ _ q=>ge_int q
theorem c7(b:agu)(h:op ≠ .In:=by decide)(h2:op ≠ .NotIn:=by decide):aeM op b=false:=by
 have e1:(op == CmpOp.In)=false:=by cases op<;>first|rfl|exact absurd rfl h
 have e2:(op == CmpOp.NotIn)=false:=by cases op<;>first|rfl|exact absurd rfl h2
 cases b<;>simp[aeM,e1,e2]
theorem fv(ho:aZ X (adx op) r)(ha:PE X a ta)(hb:PE X b tb)(hm:aeM op b=false):PE X (.Compare a [op] [b] pos) (nN r ta tb):=by intro pins s σ H Q I h;exact wpAny_Compare1 (za ha hb I h λv u s2 x y H2 I2 rx ry q=>ho pins s2 σ H2 x y v u Q I2 rx ry q) hm
def vR(t:TE):TT:=λσ H Q=>t σ H λx H'=>∃ k,x = .bl k/\Q k H'
theorem kR(ho:aZ X (adx op) r)(ha:PE X a ta)(hb:PE X b tb)(hm:aeM op b=false):PT X (.Compare a [op] [b] pos) (vR (nN r ta tb)):=by
 intro pins s σ H Q I h;refine ah5 (aB (ha pins s σ H _ I h) λv s1 ⟨x,H1,I1,r1,q1⟩=>aB (hb pins s1 σ H1 _ I1 q1) λu s2 ⟨y,H2,I2,r2,q2⟩ =>
  aB (ho pins s2 σ H2 x y v u _ I2 r1 r2 q2) λc s3 ⟨z,H3,I3,r3,k,e,q3⟩=>?_) hm
 subst e;cases r3;exact adm ⟨H3,I3,q3⟩
def ze(r r':R2)(ta tb tc:TE):TE:=λσ H Q=>ta σ H λx H1=>tb σ H1 λy H2=>r x y H2 λz H3=>∃ k,z = .bl k /\
 (if k=true then tc σ H3 λw' H4=>r' y w' H4 Q else Q (.bl false) H3)
theorem F1(ho:aZ X (adx op) r)(cT:aZ X (adx iB) r')(ha:PE X a ta)(hb:PE X b tb)(hc:PE X c tc)(hm:ajU [op,iB] [b,c]=false:=by with_unfolding_all rfl):PE X (.Compare a [op,iB] [b,c] pos) (ze r r' ta tb tc):=by
 intro pins s σ H Q I h;refine Compare_chain (aB (ha pins s σ H _ I h) λv s1 ⟨x,H1,I1,r1,q1⟩=>chain_link (aB (hb pins s1 σ H1 _ I1 q1) λu s2 ⟨y,H2,I2,r2,q2⟩ =>
  aB (ho pins s2 σ H2 x y v u _ I2 r1 r2 q2) λd s3 ⟨z,H3,I3,r3,k,e,q3⟩=>?_)) hm
 subst e;cases r3;refine adm ?_;cases k with
 | false=>exact ite_ff ⟨.bl false,H3,I3,rfl,q3⟩
 | true=>exact ite_tt (chain_last (aB (hc pins s3 σ H3 _ I3 q3) λw' s4 ⟨z',H4,I4,r4,q4⟩=>cT pins s4 σ H4 y z' u w' Q I4 r2 r4 q4))
theorem Ou(ho:aZ X (adx op) r)(cT:aZ X (adx iB) r')(ha:PE X a ta)(hb:PE X b tb)(hc:PE X c tc)(hm:ajU [op,iB] [b,c]=false:=by with_unfolding_all rfl):PT X (.Compare a [op,iB] [b,c] pos) (vR (ze r r' ta tb tc)):=by
 intro pins s σ H Q I h;refine isTrue_chain (aB (ha pins s σ H _ I h) λv s1 ⟨x,H1,I1,r1,q1⟩=>akV (aB (hb pins s1 σ H1 _ I1 q1) λu s2 ⟨y,H2,I2,r2,q2⟩ =>
  aB (ho pins s2 σ H2 x y v u _ I2 r1 r2 q2) λd s3 ⟨z,H3,I3,r3,k,e,q3⟩=>?_)) hm
 subst e;cases r3;refine adm ?_;cases k with
 | false =>
  obtain⟨k',e',q'⟩:=q3;cases e';exact ite_ff ⟨H3,I3,q'⟩
 | true =>
  refine ite_tt (test_last (aB (hc pins s3 σ H3 _ I3 q3) λw' s4 ⟨z',H4,I4,r4,q4⟩=>aB (cT pins s4 σ H4 y z' u w' _ I4 r2 r4 q4) λd' s5 zq=>?_));obtain⟨z2,H5,I5,r5,k2,e2,q5⟩:=zq;subst e2;cases r5;exact adm ⟨H5,I5,q5⟩
theorem rZ:(acV:Nat)<2 ^ 63:=by rw[afG];decide
theorem vals1(r:Vals [x] us):∃ u,us=[u]/\RelV x u:=by
 cases r with
 | cons r1 r2=>cases r2;exact⟨_,rfl,r1⟩
theorem vals2(r:Vals [x,y] us):∃ u w',us=[u,w']/\RelV x u/\RelV y w':=by
 cases r with
 | cons r1 r2 =>
  cases r2 with
  | cons r3 r4=>cases r4;exact⟨_,_,rfl,r1,r3⟩
theorem Ov(hc:X.calm=true):eR X (.builtin "max") (λxs H Q=>∃ i j,xs=[.int i,.int j]/\Q (.int (if j > i then j else i)) H):=by
 intro pins s σ H xs us Q I r h;obtain⟨i,j,rfl,q⟩:=h;obtain⟨u,w',rfl,⟨t,rfl⟩,⟨t',rfl⟩⟩:=vals2 r;refine max_two_ints (I.ok.hd hc) λh' tk k=>⟨_,H,I.kept k,?_,q⟩
 by_cases hj:j > i
 .rw[if_pos hj,if_pos hj];exact⟨_,rfl⟩
 .rw[if_neg hj,if_neg hj];exact⟨_,rfl⟩
def zf(K:acr)(x:V)(H:Hp)(n:Nat):Prop :=
 match x with
 | .str y=>y.length<=acV/\n=y.length
 | .byt y=>y.size<=acV/\n=y.size
 | .ref p=>(∃ xs,ai K H p xs/\n=xs.length) ∨ ∃ xs,ak K H p xs/\n=xs.length
 | _=>False
theorem eK:eR X (.builtin "len") (λxs H Q=>∃ x n,xs=[x]/\zf X.K x H n/\Q (.int n) H):=by
 intro pins s σ H xs us Q I r h;obtain⟨x,n,rfl,e,q⟩:=h;obtain⟨u,rfl,rx⟩:=vals1 r;have hl:=rZ;have hs:acV=16777216:=afG;cases x with
 | str y =>
  obtain⟨t,rfl⟩:=rx;obtain⟨hy,e'⟩:y.length<=acV/\n=y.length:=e;subst e';exact len_str (by omega) ⟨.int _,H,I.tok _,⟨_,rfl⟩,q⟩
 | byt y =>
  obtain⟨t,rfl⟩:=rx;obtain⟨hy,e'⟩:y.size<=acV/\n=y.size:=e;subst e';exact PySem.W.len_bytes (by omega) ⟨.int _,H,I.tok _,⟨_,rfl⟩,q⟩
 | ref p =>
  cases rx;have e':(∃ xs,ai X.K H p xs/\n=xs.length) ∨ ∃ xs,ak X.K H p xs/\n=xs.length:=e;rcases e' with ⟨xs,hx,e'⟩|⟨xs,hx,e'⟩
  .subst e';obtain⟨ao,r',pl,hz⟩:=I.list hx;have hlen:=r'.length;exact Calls.call_len_list pl.isList (by simp only[acK];omega) ⟨.int xs.length,H,I.tok _,⟨_,by simp only[acK];rw[hlen]⟩,q⟩
  .subst e';obtain⟨ao,r',pl,hz⟩:=I.tuple hx;have hlen:=r'.length;exact len_tuple pl (by simp only[acK];omega) ⟨.int xs.length,H,I.tok _,⟨_,by simp only[acK];rw[hlen]⟩,q⟩
 | _=>exact (show False from e).elim
end
structure nO(h:aeV)(x dx C:acF)(mA:Str->Option acB):Prop where
 obj:h.get? x=some (aey C dx)
 ns:h.Ns1 dx mA
 ne:dx≠x
theorem Ow{h:aeV}{dx:acF}{mA:Str->Option acB}(n:h.Ns1 dx mA):∃ od,h.get? dx=some od/\∀ name,ag9 name od=some (mA name):=by
 obtain⟨o,es,ep,ho,hd,hk,_,hm⟩:=n;refine⟨o,ho,λname=>?_⟩;have e:=hm name;unfold nsFind findBy at e;rw[<- Array.find?_toList] at e;unfold ag9;rw[hd];dsimp only;split
 .rename_i y q;rw[q] at e;exact congrArg some e
 .rename_i q;rw[q] at e;have a:es.toList.any (·.refKey)=false:=by rw[ajh];intro y hy;obtain⟨z,t,hU⟩:=hk y (agz.mp hy);simp[DictEntry.refKey,hU]
  have a':¬ es.toList.any (·.refKey)=true:=by rw[a];exact acP
  rw[if_neg a'];exact congrArg some e
theorem nO.look(I:nO h x dx C mA):∃ od,PySem.W.InstAt h x (aey C dx) C (some od)/\∀ name,ag9 name od=some (mA name) :=
 let ⟨od,ho,hl⟩:=Ow I.ns
 ⟨od,⟨I.obj,rfl,rfl,ho⟩,hl⟩
section
variable{prog:adn}{w:ad2}{A:aeb}{E:acB->acI->Prop}{s:acI}{K:acr}{x dx C f:acF}{mA:Str->Option acB}{name:Str}{v:acB}
theorem get_map{expr:Bool}{Q:acB->acI->Prop}(X:K.In s.heap)(I:nO s.heap x dx C mA)(hg:agw K C name=true)(hh:ahk K C=true)
 (ha:ac0 K (.ref C) name=some none) (hv:mA name=some v) (Ox:ajK v=true) (h:Q v { s with toks:=s.toks+1 }) :
 acQ (model prog w) A (getAttr (.ref x) name expr) Q E s:=by
 obtain⟨od,J,hl⟩:=I.look;exact PySem.W.get_value X J (agK hg).1 (PySem.W.findObj_own hh ha rfl (by rw[hl,hv])) Ox h
theorem Oy{pl:Sem Bool}{Q:acB × List acB->acI->Prop}(X:K.In s.heap)(I:nO s.heap x dx C mA)(hg:agw K C name=true)
 (hf:ac0 K (.ref C) name=some (some (.ref f))) (ht:ah6 K (.ref f)=true) (hv:mA name=none) (h:Q (.ref f,[.ref x]) s) :
 acQ (model prog w) A (ah7 (.ref x) name pl) Q E s:=by
 obtain⟨od,J,hl⟩:=I.look;exact PySem.W.method_fn X J (agK hg).1 (agK hg).2 hf (beq_iff_eq.mp ht) (by show (ag9 name od).map (·.isSome)=some false;rw[hl,hv];rfl) h
theorem Oz{ns:List Str}{Q:Unit->acI->Prop}(X:K.In s.heap)(I:nO s.heap x dx C mA)
 (hs:ac0 K (.ref C) "__setattr__" = some (some (.builtin "object.__setattr__"))) (hp:aji K C=true) (ht:ah8 K C name=some none) (hh:ahk K C=true)
 (hw:ajz mA ns) (hsz:ns.length<=acV)
 (h:∀ h',nO h' x dx C (λy=>if y=name then some v else mA y)->Heap.SameBut dx s.heap h'->Q () { s with heap:=h',toks:=s.toks+2 }) :
 acQ (model prog w) A (setAttr (.ref x) name v) Q E s:=by
 obtain⟨od,J,hl⟩:=I.look;refine PySem.W.set_plain X J hs (PySem.W.osa_open (s:={ s with toks:=s.toks+1 }) (r:=none) X J hp ht λb=>?_);obtain⟨cd,hc,jh⟩:=PySem.W.any_some hh;have hx:s.heap.get? x=some ⟨.ref C,some dx,.plain,#[]⟩:=I.obj;refine acq (acw (acq (acq (wpAny_loadPart hx (acq (PySem.W.Looks.here (s:={ s with toks:=s.toks+1 }) (PySem.W.looks_clsIn X hc) ?_))))));rw[jh];refine acw (a:=some dx) (acq (acw (acq ?_)));refine wpAny_nsSet1 (s:={ s with toks:=s.toks+1 }) I.ns λh' zg cZ=>?_;obtain⟨oD,esD,epD,OA,OB,OC⟩:=zg.count (PySem.Within.cons name v hw);refine acq (wpAny_lookBehind OA (by rw[OB];exact pastItsLine_dict (acA OC (by rw[ada];omega))) ?_);exact acw (h _ ⟨(cZ.2 _ (ady I.ne)).trans I.obj,zg,I.ne⟩ cZ)
theorem OD{R:ajB->acI->Prop}{vs:List acB}{kw:List (Str × acB)}(X:K.In s.heap)(hm:aei K C=true)
 (hi:ac0 K (.ref C) "__init__" = some (some (.ref f))) (hf:aha K (.ref f)=some (.type "function"))
 (h:afH (model prog w) (A.under (.builtin "type.__call__" ⟨.ref C::vs,kw⟩)) (.call (.ref f) ⟨.ref (s.heap.objs.size+1)::vs,kw⟩) (PySem.W.InitBack (s.heap.objs.size+1) R)
   { s with heap:=(s.heap.push ad7).push (aey C s.heap.objs.size) }) :
 afH (model prog w) A (.call (.ref C) ⟨vs,kw⟩) R s:=by
 obtain⟨hh,g,d,t,os⟩:=s;exact PySem.W.make_core (PySem.W.makes_of X hm) (PySem.W.looks_findIn X hi) (λself=>PySem.W.bind_fn X self hf) (.inl rfl) h
end
noncomputable def fz(f:Str)(v:V):List (Str × V)->List (Str × V)
 | []=>[(f,v)]
 | (g,x)::r=>if g=f then (g,v)::r else (g,x)::fz f v r
theorem F2(f g:Str)(v:V):∀ fs:List (Str × V),(fz f v fs).lookup g=if g=f then some v else fs.lookup g
 | []=>by
  show aga g [(f,v)]=_;by_cases h:g=f
  .have hb:(g == f)=true:=beq_iff_eq.mpr h;simp only[aga,hb,if_pos h]
  .have hb:(g == f)=false:=beq_eq_false_iff_ne.mpr h;simp only[aga,hb,if_neg h]
 | (k,x)::r=>by
  have ih:=F2 f g v r;rw[show fz f v ((k,x)::r)=(if k=f then (k,v)::r else (k,x)::fz f v r) from rfl];by_cases hk:k=f
  .rw[if_pos hk];by_cases h:g=k
   .have hb:(g == k)=true:=beq_iff_eq.mpr h;simp only[aga,hb,if_pos (h.trans hk)]
   .have hb:(g == k)=false:=beq_eq_false_iff_ne.mpr h;simp only[aga,hb,if_neg (λe:g=f=>h (e.trans hk.symm))]
  .rw[if_neg hk];by_cases h:g=k
   .have hb:(g == k)=true:=beq_iff_eq.mpr h;simp only[aga,hb,if_neg (λe:g=f=>hk (h.symm.trans e))]
   .have hb:(g == k)=false:=beq_eq_false_iff_ne.mpr h;simp only[aga,hb];exact ih
theorem zh(f:Str)(v:V):∀ fs:List (Str × V),f∈(fz f v fs).map (·.1)/\∀ g,g∈fs.map (·.1)->g∈(fz f v fs).map (·.1)
 | []=>⟨by simp[fz],λg h=>by simp at h⟩
 | (k,x)::r=>by
  obtain⟨i1,i2⟩:=zh f v r;rw[show fz f v ((k,x)::r)=(if k=f then (k,v)::r else (k,x)::fz f v r) from rfl];by_cases hk:k=f
  .rw[if_pos hk];subst hk;exact⟨by simp,λg h=>by simpa using h⟩
  .rw[if_neg hk];refine⟨?_,λg h=>?_⟩
   .rw[acN];exact adp _ i1
   .rw[acN] at h ⊢;rcases acL.mp h with e|e
    .exact acL.mpr (.inl e)
    .exact adp _ (i2 g e)
theorem F3(f:Str)(v:V):∀ fs:List (Str × V),(fz f v fs).length<=fs.length+1
 | []=>by simp[fz]
 | (k,x)::r=>by
  have ih:=F3 f v r;rw[show fz f v ((k,x)::r)=(if k=f then (k,v)::r else (k,x)::fz f v r) from rfl];by_cases hk:k=f
  .rw[if_pos hk,ada,ada];omega
  .rw[if_neg hk,ada,ada];omega
theorem fM.some_of(r:fM (some v) o):∃ u,o=some u/\RelV v u:=by
 cases o with
 | none=>exact (show False from r).elim
 | some u=>exact⟨u,rfl,r⟩
theorem fM.none_of(r:fM none o):o=none:=by
 cases o with
 | none=>rfl
 | some u=>exact (show False from r).elim
theorem OE(r:RelV v u):ajK u=true:=by
 cases v with
 | non=>cases (show u=Value.none from r);rfl
 | bl b=>cases (show u=ad5 b from r);rfl
 | int i=>obtain⟨t,e⟩:=(show ∃ t,u=aeU i t from r);cases e;rfl
 | str x=>obtain⟨t,e⟩:=(show ∃ t,u=aiU x t from r);cases e;rfl
 | byt b=>obtain⟨t,e⟩:=(show ∃ t,u=ak4 b t from r);cases e;rfl
 | flt b=>obtain⟨t,e⟩:=(show ∃ t,u=ajT b t from r);cases e;rfl
 | ref a=>cases (show u=ac3 a from r);rfl
 | ty n=>cases (show u=ahi n from r);rfl
section
theorem vS(ay:cj P w H h)(e:H a=some (.ins C dx fs)):∃ mA,nO h a dx C mA/\(∀ f,fM (fs.lookup f) (mA f))/\ajz mA (fs.map (·.1))/\fs.length<=1000/\H dx=some (.own a):=by
 obtain⟨d,z,ne,ob,mA,n,r,q⟩:=(show bN P w H h a (.ins C dx fs) from ay a _ e)
 exact⟨mA,⟨ob,n,ne⟩,r,q,z,d⟩
end
structure b6(K:acr)(C:acF):Prop where
 pg:agw K C Str.empty=true
 hd:ahk K C=true
 po:aji K C=true
 sa:ac0 K (.ref C) "__setattr__" = some (some (.builtin "object.__setattr__"))
theorem b6.get{K:acr}{C:acF}(c:b6 K C)(f:Str):agw K C f=true:=c.pg
def bW(K:acr)(C:acF)(f:Str):Prop:=ac0 K (.ref C) f=some none
theorem bW.OF{K:acr}{C:acF}{f:Str}(n:bW K C f):ah8 K C f=some none:=by unfold ah8;rw[show ac0 K (.ref C) f=some none from n];rfl
structure Meth(K:acr)(C:acF)(m:Str)(f:acF):Prop where
 at_:ac0 K (.ref C) m=some (some (.ref f))
 fn:ah6 K (.ref f)=true
 kp:adH K (.ref f)=true
section
theorem OG(I:Inv X pins σ H s)(e:H a=some (.ins C dx fs))(c:b6 X.K C)(n:bW X.K C f)(l:fs.lookup f=some v)(h:∀ u s',Inv X pins σ H s'->RelV v u->Q u s'):acQ (model X.prog X.w) A (getAttr (.ref a) f b) Q E s:=by obtain⟨mA,O,r,_,_,_⟩:=vS I.ay e;obtain⟨u,hu,ru⟩:=fM.some_of (v:=v) (o:=mA f) (by rw[<- l];exact r f);exact get_map I.ck O (c.get f) c.hd n hu (OE ru) (h u _ (I.tok _) ru)
theorem zi(I:Inv X pins σ H s)(e:H a=some (.ins C dx fs))(c:b6 X.K C)(k:Meth X.K C m g)(l:fs.lookup m=none)(h:Q (.ref g,[.ref a]) s):acQ (model X.prog X.w) A (ah7 (.ref a) m pl) Q E s:=by obtain⟨mA,O,r,_,_,_⟩:=vS I.ay e;have hn:mA m=none:=fM.none_of (by rw[<- l];exact r m);exact Oy I.ck O (c.get m) k.at_ k.fn hn h
theorem OH(I:Inv X pins σ H s)(e:H a=some (.ins C dx fs))(c:b6 X.K C)(n:bW X.K C f)(hl:fs.length<1000)(ry:RelV y u)(h:∀ s',Inv X pins σ (upd H a (.ins C dx (fz f y fs))) s'->Q () s'):acQ (model X.prog X.w) A (setAttr (.ref a) f u) Q E s:=by
 obtain⟨mA,O,r,wi,_,ho⟩:=vS I.ay e;have hz:(fs.map (·.1)).length<=acV:=by rw[acs,afG];omega
 refine Oz I.ck O c.sa c.po n.OF c.hd wi hz λh' O' sb=>h _ ?_;have hd:∃ o,h'.get? dx=some o:=let ⟨o,_,_,e',_⟩:=O'.ns;⟨o,e'⟩;refine I.write (x:=a) (e:=dx) (by rw[e];exact aeW) (.inr ho) (λb q hb z=>(sb.2 b hb).trans z) hd ?_;refine⟨by rw[aD O.ne];exact ho,?_,O.ne,O'.obj,_,O'.ns,λg=>?_,λg hg=>?_⟩
 .have:=F3 f y fs;omega
 .show fM ((fz f y fs).lookup g) (if g=f then some u else mA g);rw[F2];by_cases q:g=f
  .rw[if_pos q,if_pos q];exact ry
  .rw[if_neg q,if_neg q];exact r g
 .by_cases q:g=f
  .rw[q];exact (zh f y fs).1
  .refine (zh f y fs).2 g (wi g λz=>hg ?_);show (if g=f then some u else mA g)=none;rw[if_neg q];exact z
theorem Inv.made(I:Inv X pins σ H s):Inv X pins σ (upd (upd H s.heap.objs.size (.own (s.heap.objs.size+1))) (s.heap.objs.size+1) (.ins C s.heap.objs.size []))
 { s with heap:=(s.heap.push ad7).push (aey C s.heap.objs.size) }:=by
 have e1:(s.heap.push ad7).get? s.heap.objs.size=some ad7:=acG s.heap rfl;have e2:((s.heap.push ad7).push (aey C s.heap.objs.size)).get? (s.heap.objs.size+1)=some (aey C s.heap.objs.size):=by
  have:=acG (s.heap.push ad7) (o:=aey C s.heap.objs.size) rfl
  rwa [afc] at this
 have e3:(s.heap.push ad7).Ns s.heap.objs.size (λ_=>none):=⟨ad7,#[],_,e1,rfl,(λe he=>absurd he (by simp)),λ_=>rfl⟩
 have I1:=I.laid (a:=s.heap.objs.size) (o:=.own (s.heap.objs.size+1)) (h':=s.heap.push ad7) (t':=s.toks) (λb u q=>acx _ q) (acC _) ⟨_,e1⟩;refine I1.laid (a:=s.heap.objs.size+1) (o:=.ins C s.heap.objs.size []) (t':=s.toks) (λb u q=>acx _ q) (akW (afc _ _)) ?_;have ne:s.heap.objs.size≠s.heap.objs.size+1:=acO (ae8 _);refine⟨by rw[aD ne,aq],ac5 _,ne,e2,λ_=>none,(Heap.Ns1.of_empty e3).at λo q=>acx _ q,λ_=>aeW,λy hy=>absurd rfl hy⟩
theorem OI(hb:afT e f env (eval e env)=eval e env)(h:acQ (model prog w) A (eval e env) (λo s₁=>acQ (model prog w) A (getAttr o f true) Q E s₁) E s):acQ (model prog w) A (eval (.Attribute e f pos) env) Q E s :=
 Attribute_any_ h (by rw[arm_eval_Attribute,hb])
end
def F4(K:acr)(ta:TE)(f:Str):TE:=λσ H Q=>ta σ H λx H1=>∃ a C dx fs v,x = .ref a/\H1 a=some (.ins C dx fs)/\b6 K C/\bW K C f/\fs.lookup f=some v/\Q v H1
def F5(K:acr)(ta tv:TE)(f:Str):TS:=λD σ H=>tv σ H λy H1=>ta σ H1 λx H2=>∃ a C dx fs,x = .ref a/\H2 a=some (.ins C dx fs)/\b6 K C/\bW K C f/\fs.length<1000 /\
 D.nx σ (upd H2 a (.ins C dx (fz f y fs)))
section
theorem OJ(he:PE X e ta)(hb:afT e f X.env (eval e X.env)=eval e X.env):PE X (.Attribute e f pos) (F4 X.K ta f):=by
 intro pins s σ H Q I h;refine OI hb (aB (he pins s σ H _ I h) λu s1 zq=>?_);obtain⟨x,H1,I1,rx,a,C,dx,fs,v,ex,ea,c,n,l,q⟩:=zq;subst ex;obtain rfl:u=ac3 a:=rx;exact OG I1 ea c n l λu' s2 I2 ru=>⟨v,H1,I2,ru,q⟩
theorem OL(ha:PE X o ta)(hv:PE X value tv)(hs:agm value (some (.Attribute o f pos')) pos.line X.env=pure false):PS X (.Assign [.Attribute o f pos'] value pos) (F5 X.K ta tv f):=by
 intro pins s σ H D I h;refine plainObj_wpAny_Assign_Attribute (aB (hv pins s σ H _ I h) λu s1 ⟨y,H1,I1,ry,q⟩=>aB (ha pins s1 σ H1 _ I1 q) λov s2 zq=>?_) hs;obtain⟨x,H2,I2,rx,a,C,dx,fs,ex,ea,c,n,l,q2⟩:=zq;subst ex;obtain rfl:ov=ac3 a:=rx;exact OH I2 ea c n l ry λs3 I3=>⟨σ,_,I3,q2⟩
inductive dG(K:acr)(H:Hp):V->acB->Prop where
 | non:dG K H .non (.type "NoneType")
 | bl (x:Bool):dG K H (.bl x) (.type "bool")
 | int (i:Int):dG K H (.int i) (.type "int")
 | str (x:Str):dG K H (.str x) (.type "str")
 | flt (x:UInt64):dG K H (.flt x) (.type "float")
 | lst {a:acF} {xs:List V} (e:H a=some (.lst xs)):dG K H (.ref a) (.type "list")
 | aQ {a:acF} {o:Obj} {xs:List V} (e:H a=some (.aQ o (.lst xs))):dG K H (.ref a) (.type "list")
 | tup {a:acF} {xs:List V} (e:H a=some (.tup xs)):dG K H (.ref a) (.type "tuple")
 | dK {a:acF} {kvs:List (Key × V)} (e:H a=some (.dK kvs)):dG K H (.ref a) (.type "dict")
 | dT {a:acF} {kvs:List (List Key × V)} (e:H a=some (.dT kvs)):dG K H (.ref a) (.type "dict")
 | ins {a C dx:acF} {fs:List (Str × V)} (e:H a=some (.ins C dx fs)) (cl:b6 K C) (ha:ac0 K (.ref C) "__class__" = some (some (.builtin "object.__class__")))
  (hn:ahl K (.builtin "object.__class__") "__get__" = some (some (.builtin "getset_descriptor.__get__"))) (F6:PySem.W.takesIn K (.builtin "object.__class__")=some true)
  (hm:PySem.W.mroIn K C (.type "object")=some true):dG K H (.ref a) (.ref C)
theorem OM(I:Inv X pins σ H s)(rx:RelV x u)(ty:dG X.K H x t)(e:aea X.K t c=some b)(h:∀ tk,Q (.bool b) { s with toks:=tk }) :
 acQ (model X.prog X.w) A (call (.builtin "isinstance") [u,c]) Q E s:=by
 cases ty with
 | non=>cases (show u=Value.none from rx);exact ad3 PySem.W.kitx_none I.ck aeW e (λz=>nomatch z) h
 | bl y=>cases (show u=ad5 y from rx);exact ad3 PySem.W.kitx_bool I.ck aeW e (λz=>nomatch z) h
 | int i=>obtain⟨t,q⟩:=(show ∃ t,u=aeU i t from rx);cases q;exact ad3 PySem.W.kitx_int I.ck aeW e (λz=>nomatch z) h
 | str y=>obtain⟨t,q⟩:=(show ∃ t,u=aiU y t from rx);cases q;exact ad3 PySem.W.kitx_str I.ck aeW e (λz=>nomatch z) h
 | flt y=>obtain⟨t,q⟩:=(show ∃ t,u=ajT y t from rx);cases q;exact ad3 PySem.W.kitx_float I.ck aeW e (λz=>nomatch z) h
 | @lst a xs ea =>
  cases (show u=ac3 a from rx);obtain⟨_,_,n,_,h1⟩:=(show bN X.prog X.w H s.heap a (.lst xs) from I.ay a _ ea)
  exact ad3 ajj I.ck ⟨_,h1,rfl⟩ e (λz=>nomatch z) h
 | @aQ a ob xs ea =>
  cases (show u=ac3 a from rx);obtain⟨_,_,_,n,_,h1⟩:=(show bN X.prog X.w H s.heap a (.aQ ob (.lst xs)) from I.ay a _ ea)
  exact ad3 ajj I.ck ⟨_,h1,rfl⟩ e (λz=>nomatch z) h
 | @tup a xs ea =>
  cases (show u=ac3 a from rx);obtain⟨_,_,_,p⟩:=(show bN X.prog X.w H s.heap a (.tup xs) from I.ay a _ ea)
  obtain⟨o,h1,h2,_⟩:=p;exact ad3 PySem.W.kitx_tuple I.ck ⟨o,h1,h2⟩ e (λz=>nomatch z) h
 | @dK a kvs ea =>
  cases (show u=ac3 a from rx);obtain⟨_,_,vs,_,p⟩:=(show bN X.prog X.w H s.heap a (.dK kvs) from I.ay a _ ea)
  obtain⟨o,es,ep,h1,h2,_⟩:=p;exact ad3 ajk I.ck ⟨o,h1,h2.1⟩ e (λz=>nomatch z) h
 | @dT a kvs ea =>
  cases (show u=ac3 a from rx);obtain⟨_,_,xs,_,o,es,ep,h1,h2,_⟩:=(show bN X.prog X.w H s.heap a (.dT kvs) from I.ay a _ ea)
  exact ad3 ajk I.ck ⟨o,h1,h2.1⟩ e (λz=>nomatch z) h
 | @ins a C dx fs ea cl ha hn F6 hm =>
  cases (show u=ac3 a from rx);obtain⟨mA,O,_⟩:=vS I.ay ea;obtain⟨od,J,_⟩:=O.look;exact ad3 (PySem.W.kitx_own (cl.get _) cl.hd ha hn F6 hm) I.ck J e (λz=>nomatch z) h
end
structure bG(k:Nat)(A:aeb):Prop where
 hd:A.handled=none
 dp:A.depth+3 * k+5<recursionLimit
 un:A.units+16 * k+200<agB
theorem bG.mono(r:bG k A)(h:j<=k):bG j A:=⟨r.hd,by have:=r.dp;omega,by have:=r.un;omega⟩
theorem bG.deeper(r:bG (k+1) A)(env:Env):bG k (A.deeper env) :=
 ⟨r.hd,by have:=r.dp;show A.depth+1+3 * k+5<_;omega,by have:=r.un;show A.units+3+16 * k+200<_;omega⟩
theorem ON{A:aeb}{C:acF}{us:List acB}{kw:List (Str × acB)}:(A.under (.builtin "type.__call__" ⟨.ref C::us,kw⟩)).depth=A.depth+1:=by
 first|rfl|simp[ajC,Code.weight,Code.isCreation,Code.isGuard,Code.isCaller,Code.frames,Code.isFrame,guardIds]
theorem OO{A:aeb}{C:acF}{us:List acB}{kw:List (Str × acB)}:(A.under (.builtin "type.__call__" ⟨.ref C::us,kw⟩)).units=A.units+1:=by
 first|rfl|simp[ajC,Code.cUnits,Code.frames,Code.isFrame]
theorem bG.make(r:bG (k+1) A)(C:acF)(us:List acB)(kw:List (Str × acB)):bG k (A.under (.builtin "type.__call__" ⟨.ref C::us,kw⟩)) :=
 ⟨r.hd,by have:=r.dp;rw[ON];omega,by have:=r.un;rw[OO];omega⟩
theorem bG.depth(r:bG k A):A.depth<recursionLimit:=by have:=r.dp;omega
theorem bG.units(r:bG k A):A.units+64<agB:=by have:=r.un;omega
def se:TA:=λ_ H Q=>Q [] H
def vT(ta:TE)(tr:TA):TA:=λσ H Q=>ta σ H λx H1=>tr σ H1 λxs H2=>Q (x::xs) H2
section
theorem ag:PA X [] se:=λ_ _ _ _ H Q I h=>aex ⟨[],H,I,.nil,h⟩
theorem ae(ha:PE X e te)(hr:PA X es t)(hs:acW (e::es) X.env=(false,eval e X.env)::acW es X.env:=by rfl):PA X (e::es) (vT te t):=by
 intro pos pins s σ H Q I h;rw[hs];show acQ _ _ (spliced ((false,eval e X.env)::ael pos (acW es X.env))) _ _ s;refine aem (aB (ha pins s σ H _ I h) λu s1 zq=>?_);obtain⟨x,H1,I1,r1,q1⟩:=zq;exact aB (hr pos pins s1 σ H1 _ I1 q1) λus s2 ⟨xs,H2,I2,r2,q2⟩=>⟨x::xs,H2,I2,.cons r1 r2,q2⟩
def F7(t:TA):TE:=λσ H Q=>t σ H λxs H1=>xs.length<=acV/\∀ p,H1 p=none->Q (.ref p) (upd H1 p (.tup xs))
def F8(t:TA):TE:=λσ H Q=>t σ H λxs H1=>xs.length<=acV/\∀ p,H1 p=none->Q (.ref p) (upd H1 p (.lst xs))
theorem aN(h:PA X es t):PE X (.Tuple es x1 pos) (F7 t):=by intro pins s σ H Q I hq;refine wpAny_Tuple_spliced (aB (h pos pins s σ H _ I hq) λus s1 ⟨xs,H1,I1,r,z,q⟩=>⟨by rw[<- r.length];exact z,?_⟩);have hf:H1 s1.heap.objs.size=none:=I1.ay.fresh (acC _);refine⟨.ref s1.heap.objs.size,upd H1 s1.heap.objs.size (.tup xs),I1.laid (t':=s1.toks) (λb u e=>acx _ e) (acC _) ?_,rfl,q _ hf⟩;exact⟨z,us,r,⟨_,acG _ rfl,rfl,_,rfl⟩⟩
theorem cu(h:PA X es t):PE X (.List es pos) (F8 t):=by intro pins s σ H Q I hq;refine wpAny_List_spliced (aB (h pos pins s σ H _ I hq) λus s1 ⟨xs,H1,I1,r,z,q⟩=>⟨by rw[<- r.length];exact z,?_⟩);have hf:H1 s1.heap.objs.size=none:=I1.ay.fresh (acC _);refine⟨.ref s1.heap.objs.size,upd H1 s1.heap.objs.size (.lst xs),I1.laid (t':=s1.toks) (λb u e=>acx _ e) (acC _) ?_,rfl,q _ hf⟩;exact⟨z,us,0,r,acG _ rfl⟩
end
abbrev Sp:=List V->Hp->VK->XK->Prop
abbrev hV:=List Env->Hp->acI->XK->acB->acI->Prop
structure nP(P:adn)(w:ad2)(K:acr)(mg:Str->Option acB)(base:aeV)(A:aeb)(outer:List Env)(s:acI)(H:Hp):Prop where
 frames:A.frames=some outer
 mod:Mod K mg base
 bs:∀ b o,base.get? b=some o->s.heap.get? b=some o/\H b=none
 bsz:base.objs.size<=s.heap.objs.size
 f6:s.heap.FunFrames base outer
 frf:∀ b∈ba outer,H b=none
 ay:cj P w H s.heap
 bare:ah4 s.gens
def CE(outer:List Env)(P:adn)(w:ad2)(H:Hp)(s:acI)(Q:VK)(u:acB)(s':acI):Prop :=
 ∃ v H',s'.os=s.os/\ah4 s'.gens/\Un (ba outer) [] H H' s.heap s'.heap/\cj P w H' s'.heap/\RelV v u/\Q v H'
def CR(CX:hV)(outer:List Env)(P:adn)(w:ad2)(H:Hp)(s:acI)(Q:VK)(E:XK)(r:ajB)(s':acI):Prop :=
 match r with
 | .ok (.ret u)=>CE outer P w H s Q u s'
 | .ok _=>False
 | .error e=>CX outer H s E e s'
structure dW(P:adn)(w:ad2)(K:acr)(mg:Str->Option acB)(base:aeV)(CX:hV)(k:Nat)(f:acF)(fd:afs)(ps:List Str)(sp:Sp):Prop where
 len:∀ vs H Q E,sp vs H Q E->vs.length=ps.length
 run:∀ (A:aeb) (outer:List Env) (s:acI) (H:Hp) (args:Args) (us:List acB) (vs:List V) (Q:VK) (E:XK),bG k A->nP P w K mg base A outer s H->ajl s fd args (ps.zip us)->Vals vs us->sp vs H Q E ->
  afH (model P w) A (.call (.ref f) args) (CR CX outer P w H s Q E) s
theorem nP.make{P:adn}{w:ad2}{K:acr}{mg:Str->Option acB}{base:aeV}{A:aeb}{outer:List Env}{s:acI}{H:Hp}(e:nP P w K mg base A outer s H)(C:acF)(us:List acB)(kw:List (Str × acB)) :
 nP P w K mg base (A.under (.builtin "type.__call__" ⟨.ref C::us,kw⟩)) outer s H:=⟨by first|exact e.frames|(simpa [ajC,Code.envs,Code.isFrame,pushEnvs] using e.frames),e.mod,e.bs,e.bsz,e.f6,e.frf,e.ay,e.bare⟩
section
theorem Inv.zj(I:Inv X pins σ H s):nP X.prog X.w X.K X.mg X.base X.A X.stack s H :=
 ⟨I.ok.frames,I.ok.mod,I.bs,acA I.ok.bsz I.sz,I.stack,I.rH,I.ay,I.bare⟩
theorem Inv.after(I:Inv X pins σ H s)(h:CE X.stack X.prog X.w H s Q u s'):EP X pins σ Q u s':=by obtain⟨v,H',os,bare,un,ay,r,q⟩:=h;obtain⟨hh,g,d,t,pG⟩:=s';obtain rfl:pG=s.os:=os;exact⟨v,H',I.call (h':=hh) (g':=g) (d':=d) (t':=t) (ch:=[]) un ay bare (λb z=>absurd z (by simp)),r,q⟩
end
def pH(sp:Sp)(cM:List V)(E:XK)(t:TA):TE:=λσ H Q=>t σ H λvs H1=>sp (vs++cM) H1 Q E
def zk(C:acF)(m:Str)(sp:Sp)(cM:List V)(E:XK)(ta:TE)(t:TA):TE:=λσ H Q=>ta σ H λx H1=>∃ a dx fs,x = .ref a/\H1 a=some (.ins C dx fs)/\fs.lookup m=none /\
 t σ H1 λvs H2=>sp (x::(vs++cM)) H2 Q E
def F9(C:acF)(sp:Sp)(cM:List V)(E:XK)(t:TA):TE:=λσ H Q=>t σ H λvs H1=>∀ x dx,H1 x=none->H1 dx=none->dx≠x ->
 sp (.ref x::(vs++cM)) (upd (upd H1 dx (.own x)) x (.ins C dx [])) (λv H2=>v = .non/\Q (.ref x) H2) E
def Binds(K:acr)(fd:afs)(ps:List Str)(ds:List acB):Prop :=
 ∀ (s:acI) (us:List acB),K.In s.heap->(us++ds).length=ps.length->ajl s fd ⟨us,[]⟩ (ps.zip (us++ds))
theorem Binds.all{K:acr}{fd:afs}{ps:List Str}(h:∀ us:List acB,us.length=ps.length->bindArgs fd ⟨us,[]⟩=pure (ps.zip us)):Binds K fd ps []:=λs us _ hl=>by rw[ajV] at hl ⊢;exact .of_eq (h us hl)
def Passes(CX:hV)(X:Cx)(E:XK):Prop:=∀ (pins:List (acF × Obj)) (σ:St) (H:Hp) (s:acI) (e:acB) (s':acI),Inv X pins σ H s->CX X.stack H s E e s'->X.xe e s'
section
theorem sf(F:dW X.prog X.w X.K X.mg X.base CX k f fd ps sp)(hr:bG k X.A)(hb:Binds X.K fd ps ds)(hd:Vals cM ds)(hx:Passes CX X E)(I:Inv X pins σ H s)(r:Vals vs us)(h:sp (vs++cM) H Q E):acQ (model X.prog X.w) X.A (call (.ref f) us) (EP X pins σ Q) X.xe s:=by
 have r2:Vals (vs++cM) (us++ds):=r.append hd;have hl:(us++ds).length=ps.length:=by rw[<- r2.length];exact F.len _ _ _ _ h
 refine ain (afM (F.run X.A X.stack s H ⟨us,[]⟩ (us++ds) (vs++cM) Q E hr I.zj (hb s us I.ck hl) r2 h) λr s' hq=>?_);cases r with
 | error e=>exact hx pins σ H s e s' I hq
 | ok fl =>
  cases fl with
  | ret u=>exact I.after hq
  | next=>exact aeg hq
  | brk=>exact aeg hq
  | cont=>exact aeg hq
theorem bO(F:dW X.prog X.w X.K X.mg X.base CX k f fd ps sp)(hr:bG k X.A)(hg:Gl X x)(hm:X.mg x=some (.ref f))(hk:adH X.K (.ref f)=true)(hb:Binds X.K fd ps ds)(hd:Vals cM ds)(hx:Passes CX X E)(ha:PA X (e::es) t)(fA:(x == ("__debug__" : Str))=false:=by decide)(he:acW (e::es) X.env=(false,eval e X.env)::acW es X.env:=by rfl)(dX:(ael pos (acW es X.env)).any (·.1)=false:=by rfl) :
 PE X (.Call (.Name x p) (e::es) [] pos) (pH sp cM E t):=by
 intro pins s σ H Q I h;refine adT (pA I hg hm ?_ fA);refine afh (h₀:=X.base) I.ok.mod.gZ hk (aB (ha pos pins s σ H _ I h) λus s1 ⟨vs,H1,I1,r,q⟩=>⟨I1.ck,?_⟩) he dX;exact sf F hr hb hd hx I1 r q
theorem eS(he:PE X o ta)(c:b6 X.K C)(hm:Meth X.K C m f)(F:dW X.prog X.w X.K X.mg X.base CX k f fd ps sp)(hr:bG k X.A)(hb:Binds X.K fd ps ds)(hd:Vals cM ds)(hx:Passes CX X E)(ha:PA X (e::es) t)(cG:acW (e::es) X.env=(false,eval e X.env)::acW es X.env:=by rfl)(dX:(ael pos (acW es X.env)).any (·.1)=false:=by rfl)(ht:eval (.Call (.Attribute o m apos) (e::es) [] pos) X.env=(do
 let ov <- eval o X.env
 ajg apos.atName
 let (f,first) <- holding [ov] (ah7 ov m pl)
 akG pos f first (ael pos (acW (e::es) X.env)) (aio pos (agb [] X.env))):=by rfl) :
 PE X (.Call (.Attribute o m apos) (e::es) [] pos) (zk C m sp cM E ta t):=by
 intro pins s σ H Q I h;refine afk (pl:=pl) (aB (he pins s σ H _ I h) λu s1 zq=>?_) ht;obtain⟨x,H1,I1,rx,a,dx,fs,ex,ea,l,q⟩:=zq;subst ex;obtain rfl:u=ac3 a:=rx;refine zi I1 ea c hm l ?_;refine afh (first:=[.ref a]) (h₀:=X.base) I.ok.mod.gZ hm.kp (aB (ha pos pins s1 σ H1 _ I1 q) λus s2 ⟨vs,H2,I2,r,q2⟩=>⟨I2.ck,?_⟩) cG dX;exact sf (us:=.ref a::us) (vs:=.ref a::vs) F hr hb hd hx I2 (.cons rfl r) q2
theorem si(he:PE X o ta)(c:b6 X.K C)(hm:Meth X.K C m f)(F:dW X.prog X.w X.K X.mg X.base CX k f fd ps sp)(hr:bG k X.A)(hb:Binds X.K fd ps ds)(hd:Vals cM ds)(hx:Passes CX X E)(ht:eval (.Call (.Attribute o m apos) [] [] pos) X.env=(do
 let ov <- eval o X.env
 ajg apos.atName
 let (f,first) <- holding [ov] (ah7 ov m pl)
 akG pos f first (ael pos (acW [] X.env)) (aio pos (agb [] X.env))):=by rfl) :
 PE X (.Call (.Attribute o m apos) [] [] pos) (zk C m sp cM E ta se):=by
 intro pins s σ H Q I h;refine afk (pl:=pl) (aB (he pins s σ H _ I h) λu s1 zq=>?_) ht;obtain⟨x,H1,I1,rx,a,dx,fs,ex,ea,l,q⟩:=zq;subst ex;obtain rfl:u=ac3 a:=rx;refine zi I1 ea c hm l ?_;exact aiJ (first:=[.ref a]) I1.ck hm.kp (sf (us:=[.ref a]) (vs:=[.ref a]) F hr hb hd hx I1 (.cons rfl .nil) q)
structure Mk(K:acr)(C f:acF):Prop where
 makes:aei K C=true
 init:ac0 K (.ref C) "__init__" = some (some (.ref f))
 fn:ah6 K (.ref f)=true
 kp:adH K (.ref C)=true
theorem OP(M:Mk X.K C f)(F:dW X.prog X.w X.K X.mg X.base CX k f fd ps sp)(hr:bG (k+1) X.A)(hb:Binds X.K fd ps ds)(hd:Vals cM ds)(hx:Passes CX X E)(I:Inv X pins σ H s)(r:Vals vs us)(h:∀ x dx,H x=none->H dx=none->dx≠x->sp (.ref x::(vs++cM)) (upd (upd H dx (.own x)) x (.ins C dx [])) (λv H2=>v = .non/\Q (.ref x) H2) E) :
 acQ (model X.prog X.w) X.A (call (.ref C) us) (EP X pins σ Q) X.xe s:=by
 have hq:=h (s.heap.objs.size+1) s.heap.objs.size (I.ay.fresh (agL _)) (I.ay.fresh (acC _)) (acO (ae8 _));have I2:=Inv.made (C:=C) I;have r2:Vals (V.ref (s.heap.objs.size+1)::(vs++cM)) (ac3 (s.heap.objs.size+1)::(us++ds)):=.cons rfl (r.append hd);have hl:(ac3 (s.heap.objs.size+1)::us++ds).length=ps.length:=by have e:=r2.length;rw[F.len _ _ _ _ hq] at e;exact e.symm
 refine ain (OD (f:=f) I.ck M.makes M.init (beq_iff_eq.mp M.fn) (afM (F.run _ X.stack _ _ ⟨ac3 (s.heap.objs.size+1)::us,[]⟩ (ac3 (s.heap.objs.size+1)::(us++ds)) _ _ E (hr.make C us [])
  (I2.zj.make C us []) (hb _ (ac3 (s.heap.objs.size+1)::us) I2.ck hl) r2 hq) λr s' sk=>?_))
 cases r with
 | error e=>exact hx pins σ _ _ e s' I2 sk
 | ok fl =>
  cases fl with
  | ret u =>
   obtain⟨v,H',I3,rv,ev,q3⟩:=I2.after sk;subst ev;exact⟨rv,⟨V.ref (s.heap.objs.size+1),H',I3,rfl,q3⟩⟩
  | next=>exact aeg sk
  | brk=>exact aeg sk
  | cont=>exact aeg sk
theorem nQ(M:Mk X.K C f)(F:dW X.prog X.w X.K X.mg X.base CX k f fd ps sp)(hr:bG (k+1) X.A)(hg:Gl X x)(hm:X.mg x=some (.ref C))(hb:Binds X.K fd ps ds)(hd:Vals cM ds)(hx:Passes CX X E)(ha:PA X (e::es) t)(fA:(x == ("__debug__" : Str))=false:=by decide)(he:acW (e::es) X.env=(false,eval e X.env)::acW es X.env:=by rfl)(dX:(ael pos (acW es X.env)).any (·.1)=false:=by rfl) :
 PE X (.Call (.Name x p) (e::es) [] pos) (F9 C sp cM E t):=by
 intro pins s σ H Q I h;refine adT (pA I hg hm ?_ fA);refine afh (h₀:=X.base) I.ok.mod.gZ M.kp (aB (ha pos pins s σ H _ I h) λus s1 ⟨vs,H1,I1,r,q⟩=>⟨I1.ck,?_⟩) he dX;exact OP M F hr hb hd hx I1 r q
end
structure sr(N P:List Str)(sc:air):Prop where
 kind:sc.kind = .function
 co:sc.isCoroutine=false
 gen:sc.isGenerator=false
 nd:N.Nodup
 pre:N.take P.length=P
 par:∀ x∈P,sc.names.lookup x=some .local∨sc.names.lookup x=some .cell
 nofree:∀ y∈sc.names,y.2 ≠ .free
theorem Ga{ahm:Str->Option aip}{x:Str}:∀ {binds:List (Str × acB)} {m:Str->Option acB},(∀ v,(x,v)∉binds)->ak6 ahm binds m x=m x
 | [],_,_=>rfl
 | (n,v)::r,m,h=>by
  unfold ak6;rw[Ga λw hw=>h w (adp _ hw)];split
  .have:x≠n:=by rintro rfl;exact h v afg
   simp[this]
  .rfl
theorem Gb{ahm:Str->Option aip}{x:Str}:∀ {binds:List (Str × acB)} {m:Str->Option acB},(∀ v,(x,v)∉binds)->ak7 ahm binds m x=m x
 | [],_,_=>rfl
 | (n,v)::r,m,h=>by
  unfold ak7;rw[Gb λw hw=>h w (adp _ hw)];split
  .rfl
  .have:x≠n:=by rintro rfl;exact h v afg
   simp[this]
theorem Ge{ahm:Str->Option aip}{x:Str}{v:acB}:∀ {P:List Str} {vs:List acB} {i:Nat} {m:Str->Option acB},P.Nodup->P[i]?=some x->vs[i]?=some v->ahm x=some .local ->
 ak6 ahm (P.zip vs) m x=some v
 | [],_,_,_,_,h,_,_=>by simp at h
 | _::_,[],_,_,_,_,h,_=>by simp at h
 | p::P,w::vs,0,m,nd,h1,h2,hk=>by simp at h1 h2;subst h1;subst h2;show ak6 ahm ((p,w)::P.zip vs) m p=_;unfold ak6;rw[Ga λv hv=>(adC.mp nd).1 (ah9 hv).1,if_pos hk];simp
 | p::P,w::vs,i+1,m,nd,h1,h2,hk=>by show ak6 ahm ((p,w)::P.zip vs) m x=_;unfold ak6;exact Ge (i:=i) (adC.mp nd).2 (by simpa using h1) (by simpa using h2) hk
theorem Gf{ahm:Str->Option aip}{x:Str}{v:acB}:∀ {P:List Str} {vs:List acB} {i:Nat} {m:Str->Option acB},P.Nodup->P[i]?=some x->vs[i]?=some v->ahm x≠some .local ->
 ak7 ahm (P.zip vs) m x=some v
 | [],_,_,_,_,h,_,_=>by simp at h
 | _::_,[],_,_,_,_,h,_=>by simp at h
 | p::P,w::vs,0,m,nd,h1,h2,hk=>by simp at h1 h2;subst h1;subst h2;show ak7 ahm ((p,w)::P.zip vs) m p=_;unfold ak7;rw[Gb λv hv=>(adC.mp nd).1 (ah9 hv).1,if_neg hk];simp
 | p::P,w::vs,i+1,m,nd,h1,h2,hk=>by show ak7 ahm ((p,w)::P.zip vs) m x=_;unfold ak7;exact Gf (i:=i) (adC.mp nd).2 (by simpa using h1) (by simpa using h2) hk
noncomputable def start(N:List Str)(vs:List V):St:=vs.map some++afz (N.length-vs.length) none
noncomputable def fB(CX:hV)(P:adn)(w:ad2)(K:acr)(mg:Str->Option acB)(base:aeV)(N:List Str)(qual:Str)(scope:air)(f:acF)(cd:acB)(A:aeb)(outer:List Env)(s:acI)(H:Hp)(E:XK):Cx where
 prog:=P
 w:=w
 K:=K
 mg:=mg
 base:=base
 A:=A.deeper (aen qual scope s.heap.objs.size f cd)
 N:=N
 s₀:=s
 H₀:=H
 env:=aen qual scope s.heap.objs.size f cd
 outer:=outer
 stack:=aen qual scope s.heap.objs.size f cd::outer
 ex:=[]
 calm:=true
 fn:=λ_=>true
 pn:=[]
 xe:=λe s'=>acQ (model P w) (A.deeper (aen qual scope s.heap.objs.size f cd)) (leaving (aen qual scope s.heap.objs.size f cd) e) (λ_ su=>CX outer H s E e su) (λe' su=>CX outer H s E e' su) s'
theorem Gg{sc:air}{n:Nat}{x:Str}(h:sc.names.lookup x=some .cell):∃ c,(cellsFrom n sc.names []).lookup x=some c:=by have q:=ahU sc.names n [] (.inl h);exact afN.mp q
theorem OQ{CX:hV}{P:adn}{w:ad2}{K:acr}{mg:Str->Option acB}{base:aeV}{N ps:List Str}{qual:Str}{scope:air}{f:acF}{cd:acB}{A:aeb}{outer:List Env}{s s1:acI}{H:Hp}{E:XK}{us:List acB}{vs:List V}
 (S:sr N ps scope) (hd:A.handled=none) (e0:nP P w K mg base A outer s H) (hl:vs.length=ps.length) (r:Vals vs us)
 (x:InCallC s s.heap.objs.size (ak6 (aen qual scope s.heap.objs.size f cd).kindOf (ps.zip us) λ_=>none) (cellsFrom (s.heap.objs.size+1) scope.names []) (ak7 (aen qual scope s.heap.objs.size f cd).kindOf (ps.zip us) λ_=>none) s1) :
 Inv (fB CX P w K mg base N qual scope f cd A outer s H E) [] (start N vs) H s1:=by
 have dX:ps.length<=N.length:=by have:=congrArg List.length S.pre;rw[aef] at this;omega
 obtain⟨h1,tk,rfl,hk⟩:=x.done;have ia:∀ b:acF,b∉(fB CX P w K mg base N qual scope f cd A outer s H E).ex:=λb z=>absurd (show b∈([]:List acF) from z) (by simp);refine⟨⟨e0.mod,S.kind,rfl,rfl,acC _,λy z c h1 h2=>?_,λy hy=>?_,λy c _ h=>?_,λ_=>hd,Around.frames_deeper e0.frames,.inr ⟨rfl,rfl⟩,λb z=>absurd z (ia b),e0.bs,e0.bsz,λb _ _=>ia b,λb z=>absurd z (ia b),e0.f6,e0.frf⟩,
  rfl,e0.bare,Un.kept hk,⟨_,x.toInCall.ns,λi y v h1 h2 h3=>?_⟩,λy c h=>⟨_,x.cell y c h⟩,e0.ay.fresh (acC _),λy c h=>?_,λp hp=>absurd (show p∈([]:List (acF × Obj)) from hp) (by simp),e0.ay.kept hk,?_⟩
 .exact name_of_addr x.apart (aeA h1) (aeA h2)
 .have hy:scope.names.lookup y=some .cell∨scope.names.lookup y=some .free:=hy;rcases hy with hy|hy
  .exact Gg hy
  .exact absurd rfl (S.nofree _ (aeA hy))
 .exact agl (x.above y c (aeA h))
 .have hi:i<vs.length:=by
   unfold start at h2;by_cases hi:i<vs.length
   .exact hi
   .rw[adL (by simpa using hi)] at h2;rw[afU] at h2;split at h2<;>cases h2
  have ha:vs[i]?=some v:=by
   unfold start at h2;rw[adO (by simpa using hi),acJ] at h2;cases e:vs[i]? with
   | none=>rw[e] at h2;cases h2
   | some a=>rw[e] at h2;cases h2;rfl
  obtain⟨u,hu,rv⟩:=r.get ha;have hp:ps[i]?=some y:=by rw[<- S.pre,ahn (by omega)];exact h1
  have Gh:ps.Nodup:=by rw[<- S.pre];exact S.nd.sublist (List.take_sublist _ _)
  refine⟨u,rv,?_⟩;rcases S.par y (acM hp) with k|k
  .exact .inl ⟨k,Ge Gh hp hu k⟩
  .obtain⟨c,e⟩:=Gg (n:=s.heap.objs.size+1) k;refine .inr ⟨.inl k,c,e,?_⟩;have q:=x.cell y c e;rw[Gf Gh hp hu (by show scope.names.lookup y≠_;rw[k];decide)] at q;exact q
 .exact e0.ay.fresh (agl (x.above y c (aeA h)))
 .unfold start;show _=N.length;rw[ac1,acs,aia];omega
theorem Gi{CX:hV}{P:adn}{w:ad2}{K:acr}{mg:Str->Option acB}{base:aeV}{k:Nat}{f:acF}{name qual:Str}{params:Arguments}{body:List aee}{scope:air}{dV kV doc pm aY ct oc:acB}{an od:Option acF}
 {j6:Array (Option acB)} {N ps:List Str} {sp:Sp} (lk:K.lookup f=some ⟨oc,od,.func (afl name qual params body scope dV kV doc pm an aY ct),j6⟩) (gb:ahb K aY qual=true) (S:sr N ps scope)
 (len:∀ vs H Q E,sp vs H Q E->vs.length=ps.length)
 (ib:∀ (A:aeb) (outer:List Env) (s:acI) (H:Hp) (vs:List V) (Q:VK) (E:XK),bG k (A.deeper (aen qual scope s.heap.objs.size f aY))->sp vs H Q E ->
   ∃ t,aT (fB CX P w K mg base N qual scope f aY A outer s H E) body t/\t { nx:=λ_ H'=>Q .non H',rt:=Q } (start N vs) H) :
 dW P w K mg base CX (k+1) f (afl name qual params body scope dV kV doc pm an aY ct) ps sp:=by
 refine⟨len,λA outer s H args us vs Q E hr e0 hb r lX=>?_⟩;have hl:=len _ _ _ _ lX;have KX:K.In s.heap:=e0.mod.gZ.keeps λb o e=>(e0.bs b o e).1;have lim:s.heap.NoLimit:=e0.mod.nolimit.keeps λb o e=>(e0.bs b o e).1;have OR:∀ y∈ps.zip us,scope.names.lookup y.1=some .local∨(scope.names.lookup y.1=some .cell/\((cellsFrom (s.heap.objs.size+1) scope.names []).lookup y.1).isSome=true):=λ⟨n,v⟩ hy=>by
  rcases S.par n (ah9 hy).1 with q|q
  .exact .inl q
  .exact .inr ⟨q,ahU _ _ _ (.inl q)⟩
 refine codeAny_call_function hr.depth (KX _ _ lk) rfl S.co S.gen rfl (PySem.W.codeRec_of KX gb) (hb _ _ _ _ ?_);refine wpAny_newFunctionEnv_cells S.kind OR λenv he s1 x=>?_;subst he;refine⟨lim.keeps x.toInCall.keep,codeAny_func ?_⟩;obtain⟨t,ht,hq⟩:=ib A outer s H vs Q E (hr.deeper _) lX;have I:Inv (fB CX P w K mg base N qual scope f aY A outer s H E) [] (start N vs) H s1:=OQ S hr.hd e0 hl r x;refine adN (ht [] s1 (start N vs) H _ I hq) (λfl s' hs=>?_) λe s' hs=>hs;have fin:∀ {σ':St} {H':Hp} {v:V} {u:acB},Inv (fB CX P w K mg base N qual scope f aY A outer s H E) [] σ' H' s'->RelV v u->Q v H'->CE outer P w H s Q u s' :=
  λ{σ' H' v u} J rv q=>⟨v,H',J.os,J.bare,J.base,J.ay,rv,q⟩
 cases fl with
 | ret u =>
  obtain⟨v,σ',H',J,rv,q⟩:=hs;exact fin J rv q
 | next =>
  obtain⟨σ',H',J,q⟩:=hs;exact fin (v:=V.non) (u:=Value.none) J rfl q
 | brk =>
  obtain⟨_,_,_,q⟩:=hs;exact aeg q
 | cont =>
  obtain⟨_,_,_,q⟩:=hs;exact aeg q
section
variable{X:Cx}{x:Str}{p pos:Pos}{e:agu}{es:List agu}{t:TA}{id T:String}{r:List V->Hp->VK->Prop}
def zm(r:List V->Hp->VK->Prop)(t:TA):TE:=λσ H Q=>t σ H λvs H1=>r vs H1 Q
theorem bf(hc:eR X (.builtin id) r)(hg:Gl X x)(hm:X.mg x=none)(hv:adj x=some (.builtin id))(ha:PA X (e::es) t)(hn:x ≠ "__name__" := by decide)(fA:(x == ("__debug__" : Str))=false:=by decide)(he:acW (e::es) X.env=(false,eval e X.env)::acW es X.env:=by rfl)(dX:(ael pos (acW es X.env)).any (·.1)=false:=by rfl):PE X (.Call (.Name x p) (e::es) [] pos) (zm r t):=by intro pins s σ H Q I h;refine adT (fO I hg hm hv ?_ hn fA);exact ae2 (aB (ha pos pins s σ H _ I h) λus s1 ⟨vs,H1,I1,r1,q1⟩=>hc pins s1 σ H1 vs us Q I1 r1 q1) he dX
theorem vU(hc:eR X (.type T) r)(hg:Gl X x)(hm:X.mg x=none)(hv:adj x=some (.type T))(ha:PA X (e::es) t)(hn:x ≠ "__name__" := by decide)(fA:(x == ("__debug__" : Str))=false:=by decide)(he:acW (e::es) X.env=(false,eval e X.env)::acW es X.env:=by rfl)(dX:(ael pos (acW es X.env)).any (·.1)=false:=by rfl):PE X (.Call (.Name x p) (e::es) [] pos) (zm r t):=by intro pins s σ H Q I h;refine adT (fO I hg hm hv ?_ hn fA);exact adg (aB (ha pos pins s σ H _ I h) λus s1 ⟨vs,H1,I1,r1,q1⟩=>hc pins s1 σ H1 vs us Q I1 r1 q1) he dX
end
end L2
namespace HT
open PySem PyProof.Rows
noncomputable def lexLt:List Int->List Int->Bool
 | [],[]=>false
 | [],_::_=>true
 | _::_,[]=>false
 | x::xs,y::ys=>if x=y then lexLt xs ys else decide (x<y)
theorem nR(x y:Int)(xs ys:List Int):lexLt (x::xs) (y::ys)=if x=y then lexLt xs ys else decide (x<y):=rfl
theorem OS:lexLt [] []=false:=rfl
theorem OT(y:Int)(ys:List Int):lexLt [] (y::ys)=true:=rfl
theorem OU(x:Int)(xs:List Int):lexLt (x::xs) []=false:=rfl
theorem OV(A:aeb)(s:acI)(a:Int)(t:Tok)(c:Int)(u:Tok):∃ e,SeqAt.EqAt A s (.int a t) (.int c u) e/\(e=true↔a=c) :=
 ⟨(a == c),SeqAt.EqAt.int_int a t c u,by simp⟩
theorem OW(A:aeb)(s:acI)(a:Int)(t:Tok)(c:Int)(u:Tok)(prog:adn)(w:ad2)(E:acB->acI->Prop)(Q:acB->acI->Prop)(h:Q (.bool (decide (a<c))) s) :
 acQ (model prog w) A (agM .Lt (.int a t) (.int c u)) Q E s :=
 (ak8 h:acQ (model prog w) A (adx .Lt (.int a t) (.int c u)) Q E s)
section
open PySem.SeqAt
open PySem.AutoSeq1 (wpAny_loadPart')
open PySem.MeetsSeq PySem.MeetsSeq2 PySem.MeetsSeq3
theorem OX(l b:acF)(items kS:Array acB)(n n2:Nat)(dd zo:Option acF)(sl zp:Array (Option acB))(ns ms:List Int)(hi:afm items.toList ns)(hj:afm kS.toList ms) :
 Meets (aeB.«tuple.__lt__» ⟨[.ref l,.ref b],[]⟩)
  (λ_ R s=>s.heap.get? l=some { cls:=.type "tuple",dict:=dd,data:=.seq items n,slots:=sl }/\s.heap.get? b=some { cls:=.type "tuple",dict:=zo,data:=.seq kS n2,slots:=zp } /\
    R (.ok (.ret (.bool (lexLt ns ms)))) s) :=
 .of_wp λprog w A R s h=>by
  obtain⟨hp,g,d,tk,os⟩:=s;obtain⟨hl,hb,h⟩:=h;have f2:=AutoSeq1.sub_tuple_tuple;have z1:items.size=ns.length:=by rw[<- hi.length];simp
  have z2:kS.size=ms.length:=by rw[<- hj.length];simp
  wp_walk using ajW hl,ajW hb,ahM _ (λrest b s'=>b.1=none/\s'=⟨hp,g,d,tk,os⟩/\∃ (vs ws:List acB) (pI pJ:List Int),rest=vs.zip ws /\
   afm vs pI/\afm ws pJ/\pI.length+kS.size=pJ.length+items.size/\R (.ok (.ret (.bool (lexLt pI pJ)))) ⟨hp,g,d,tk,os⟩) _
  case turn =>
   rintro ⟨y,x⟩ rest b s' ⟨b7,rfl,vs,ws,pI,pJ,hz,hvi,hwi,hlen,hR⟩;cases hvi with
   | nil=>rw[List.zip_nil_left] at hz;cases hz
   | cons a t OY =>
    cases hwi with
    | nil=>rw[List.zip_nil_right] at hz;cases hz
    | cons c u OZ =>
     rw[ag2] at hz;injection hz with hyx hrest;injection hyx with hy hx;subst hy hx;rw[nR] at hR;simp only[ada] at hlen;obtain⟨e,he,hiff⟩:=OV A.in1 ⟨hp,g,d,tk,os⟩ a t c u;refine acq (he prog w _ _ ?_);cases e with
     | true =>
      rw[if_pos (hiff.mp rfl)] at hR
      wp_walk
      exact⟨rfl,rfl,_,_,_,_,hrest,OY,OZ,by omega,hR⟩
     | false =>
      rw[if_neg (λq=>absurd (hiff.mpr q) acP)] at hR;have vV:=OW A.in1 ⟨hp,g,d,tk,os⟩ a t c u prog w
      wp_walk using vV
      exact⟨_,rfl,by simpa using hR⟩
  case fin =>
   rintro ⟨b1,b2⟩ s' ⟨b7,rfl,vs,ws,pI,pJ,hz,hvi,hwi,hlen,hR⟩;simp only at b7;subst b7;have hv:lexLt pI pJ=decide (items.size<kS.size):=by
    cases hvi with
    | nil =>
     cases hwi with
     | nil =>
      simp only[aej] at hlen;rw[OS];exact (decide_eq_false (by omega)).symm
     | cons c u hw =>
      simp only[aej,ada] at hlen;rw[OT];exact (decide_eq_true (by omega)).symm
    | cons a t hv =>
     cases hwi with
     | nil =>
      simp only[aej,ada] at hlen;rw[OU];exact (decide_eq_false (by omega)).symm
     | cons c u hw =>
      rw[ag2] at hz;cases hz
   rw[hv] at hR
   wp_walk
   exact⟨_,rfl,by simpa [Builtin.Tuple.tupleCompareSizes] using hR⟩
  case h =>
   exact⟨rfl,rfl,items.toList,kS.toList,ns,ms,rfl,hi,hj,by omega,h⟩
end
section
theorem O0(hl:IsTup s.heap l items)(hb:IsTup s.heap b kS)(hi:afm items.toList ns)(hj:afm kS.toList ms)(hu:A.units<agB)(h:Q (.bool (lexLt ns ms)) s):acQ (model prog w) A (adx .Lt (.ref l) (.ref b)) Q E s:=by
 obtain⟨⟨cls,dd,data,sl⟩,ho,hc,n,hd⟩:=id hl;obtain⟨⟨ace,zo,data2,zp⟩,Gj,lY,n2,hd2⟩:=id hb;simp only at hc hd lY hd2;subst hc hd lY hd2;exact richCompare_meets_room (op:=.Lt) ⟨_,ho,rfl⟩ ⟨_,Gj,rfl⟩ agn ahV (ahz _ _) (OX l b items kS n n2 dd zo sl zp ns ms hi hj)
  ⟨ho,Gj,show ad5 (lexLt ns ms)≠Value.notImplemented/\Q (.bool (lexLt ns ms)) s from ⟨(λx=>nomatch x),h⟩⟩ hu
noncomputable def fD(n d:Nat):Option Int->Nat
 | none=>d
 | some v=>if v<0 then (v+(n:Int)).toNat else min v.toNat n
theorem Gk(n d:Nat):fD n d none=d:=rfl
theorem vW(n d k:Nat):fD n d (some (k:Int))=min k n:=by show (if (k:Int)<0 then ((k:Int)+(n:Int)).toNat else min (k:Int).toNat n)=min k n;rw[if_neg (by omega),adt]
end
end HT
namespace L2
open PySem PySem.Spec PyProof.Rows
abbrev TO:=St->Hp->(Option Int->Hp->Prop)->Prop
def PO(X:Cx)(e:Option agu)(t:TO):Prop :=
 ∀ (pins:List (acF × Obj)) (s:acI) (σ:St) (H:Hp) (Q:Option Int->Hp->Prop),Inv X pins σ H s->t σ H Q ->
  acQ (model X.prog X.w) X.A (evalPart e X.env) (λu s'=>∃ o H',Inv X pins σ H' s'/\IsPart u o/\Q o H') X.xe s
noncomputable def Gm:TO:=λ_ H Q=>Q none H
noncomputable def Gn(t:TE):TO:=λσ H Q=>t σ H λx H1=>∃ i,x = .int i/\Q (some i) H1
theorem intsAre_of:∀ {us:List acB},Vals (ns.map V.int) us->afm us ns:=by
 induction ns with
 | nil=>intro us r;rw[ae3] at r;cases r;exact .nil
 | cons n ns ih =>
  intro us r;rw[acN] at r;cases r with
  | cons r1 r2 =>
   obtain⟨t,e⟩:=r1;subst e;exact .cons n t (ih r2)
section
variable{X:Cx}{e:agu}{te:TE}{lo hi:Option agu}{tl th:TO}{pos p2:Pos}
theorem zr:PO X none Gm:=by intro pins s σ H Q I h;rw[ai1];exact acw ⟨none,H,I,.none,h⟩
theorem nT(h:PE X e te):PO X (some e) (Gn te):=by intro pins s σ H Q I hw;rw[evalPart_some];refine aB (h pins s σ H _ I hw) λu s1 zq=>?_;obtain⟨x,H1,I1,r1,q1⟩:=zq;obtain⟨i,rfl,q⟩:=q1;obtain⟨t,rfl⟩:=r1;exact⟨some i,H1,I1,.int i t,q⟩
def zt(X:Cx)(r:V->Option Int->Option Int->Hp->VK->Prop):Prop :=
 ∀ (pins:List (acF × Obj)) (s:acI) (σ:St) (H:Hp) (x:V) (v vl vu:acB) (lo hi:Option Int) (sl:acF) (Q:VK),Inv X pins σ H s->RelV x v->s.heap.IsSliceOf sl vl vu .none->IsPart vl lo->IsPart vu hi->r x lo hi H Q ->
  ∃ T id,aiq (.type T) "__getitem__" = pure (some (.builtin id))/\s.TypeIs v T/\acQ (model X.prog X.w) X.A (ajX v (.ref sl)) (EP X pins σ Q) X.xe s
def Gq(r:V->Option Int->Option Int->Hp->VK->Prop)(te:TE)(tl th:TO):TE:=λσ H Q=>te σ H λx H1=>tl σ H1 λl H2=>th σ H2 λu H3=>r x l u H3 Q
theorem sx{r:V->Option Int->Option Int->Hp->VK->Prop}(hr:zt X r)(he:PE X e te)(hl:PO X lo tl)(hu:PO X hi th):PE X (.Subscript e (.Slice lo hi none p2) pos) (Gq r te tl th):=by intro pins s σ H Q I h;refine ajm (aB (he pins s σ H _ I h) λv s1 zq=>?_);obtain⟨x,H1,I1,r1,q1⟩:=zq;refine wpAny_Slice (aB (hl pins s1 σ H1 _ I1 q1) λvl s2 ⟨l,H2,I2,pl,q2⟩=>aB (hu pins s2 σ H2 _ I2 q2) λvu s3 zq=>?_);obtain⟨u,H3,I3,pu,q3⟩:=zq;rw[ai1];refine acw ?_;have I4:Inv X pins σ H3 { s3 with heap:=s3.heap.push { cls:=.type "slice",data:=.fields #[vl,vu,.none] } }:=I3.kept (t':=s3.toks) λb ob q=>acx _ q;obtain⟨T,id,hT,ht,hg⟩:=hr pins { s3 with heap:=s3.heap.push { cls:=.type "slice",data:=.fields #[vl,vu,.none] } } σ H3 x v vl vu l u s3.heap.objs.size Q I4 r1 (Heap.IsSliceOf.new ..) pl pu q3;show acQ (model X.prog X.w) X.A (ahA e (.Slice lo hi none p2) v (.ref s3.heap.objs.size)) (EP X pins σ Q) X.xe { s3 with heap:=s3.heap.push { cls:=.type "slice",data:=.fields #[vl,vu,.none] } };exact tail_any (ops:=[.ref s3.heap.objs.size,v]) ht hT hg (by with_unfolding_all rfl)
noncomputable def iC(xs:List V)(lo hi:Option Int):List V:=(xs.drop (HT.fD xs.length 0 lo)).take (HT.fD xs.length xs.length hi-HT.fD xs.length 0 lo)
theorem O2(xs:List V)(lo hi:Option Int):(iC xs lo hi).length<=xs.length:=by unfold iC;rw[aef,ae9];omega
def Gr(K:acr):R2:=λx y H Q=>∃ a b ns ms,x = .ref a/\y = .ref b/\ak K H a (ns.map V.int)/\ak K H b (ms.map V.int)/\Q (.bl (HT.lexLt ns ms)) H
theorem O3(hu:X.A.units<agB):aZ X (adx .Lt) (Gr X.K):=by intro pins s σ H x y v u Q I rx ry h;obtain⟨a,b,ns,ms,rfl,rfl,ha,hb,q⟩:=h;cases rx;cases ry;obtain⟨ao,r1,p1,_⟩:=I.tuple ha;obtain⟨kT,r2,p2,_⟩:=I.tuple hb;have i1:afm ao.toArray.toList ns:=intsAre_of r1;have i2:afm kT.toArray.toList ms:=intsAre_of r2;exact HT.O0 p1 p2 i1 i2 hu ⟨.bl (HT.lexLt ns ms),H,I,rfl,q⟩
end
noncomputable def jo(n:Nat)(i:Int):Option Nat:=if 0<=i then (if i<n then some i.toNat else none) else if -(n:Int)<=i then some (i+n).toNat else none
noncomputable def c8{α:Type}(xs:List α)(i:Int):Option α:=(jo xs.length i).bind λj=>xs[j]?
theorem Gs(h:jo n i=some j):seqIndex? i n=some j/\j<n/\-(n:Int)<=i/\i<n:=by
 unfold jo at h;by_cases h0:0<=i
 .rw[if_pos h0] at h;by_cases h1:i<n
  .rw[if_pos h1] at h;have e:i.toNat=j:=Option.some.inj h;exact⟨by rw[ajY h0 h1,e],by omega,by omega,h1⟩
  .rw[if_neg h1] at h;cases h
 .rw[if_neg h0] at h;by_cases h1 : -(n:Int)<=i
  .rw[if_pos h1] at h;have e:(i+n).toNat=j:=Option.some.inj h;exact⟨by rw[ajD (by omega) h1,e],by omega,h1,by omega⟩
  .rw[if_neg h1] at h;cases h
theorem zu(h:c8 xs i=some v):∃ j,seqIndex? i xs.length=some j/\xs[j]?=some v/\j<xs.length/\-(xs.length:Int)<=i/\i<xs.length:=by
 unfold c8 at h;cases e:jo xs.length i with
 | none=>rw[e] at h;cases h
 | some j =>
  rw[e] at h;obtain⟨h1,h2,h3,h4⟩:=Gs e;exact⟨j,h1,h,h2,h3,h4⟩
theorem dH{α:Type}{xs:List α}{j:Nat}{v:α}(h:xs[j]?=some v):c8 xs (j:Int)=some v:=by
 have hj:j<xs.length:=(acz.mp h).1;have e:jo xs.length (j:Int)=some j:=by unfold jo;rw[if_pos (by omega),if_pos (by omega)];simp
 unfold c8;rw[e];exact h
theorem zv(xs:List α)(v:α):c8 (xs++[v]) (-1)=some v:=by
 have hl:(xs++[v]).length=xs.length+1:=by simp
 have e:jo (xs++[v]).length (-1)=some xs.length:=by
  unfold jo;rw[hl,if_neg (by decide),if_pos (by omega)]
  congr 1
  omega
 unfold c8;rw[e];show (xs++[v])[xs.length]?=some v;simp
def zw(b:agu):Prop:=∀ o i,subscripted b false o i=operate [o,i] (ajX o i)
def j7(X:Cx)(r:R2):Prop :=
 ∀ (value slice:agu) (pins:List (acF × Obj)) (s:acI) (σ:St) (H:Hp) (x y:V) (v u:acB) (Q:VK),Inv X pins σ H s->RelV x v->RelV y u->r x y H Q ->
  subscripted slice false v u=operate [v,u] (ajX v u)->acQ (model X.prog X.w) X.A (ahA value slice v u) (EP X pins σ Q) X.xe s
def Gu(X:Cx)(id:String)(r:V->List V->Hp->VK->Prop):Prop :=
 ∀ (pins:List (acF × Obj)) (s:acI) (σ:St) (H:Hp) (x:V) (xs:List V) (v:acB) (us:List acB) (Q:VK),Inv X pins σ H s->RelV x v->Vals xs us->r x xs H Q ->
  acQ (model X.prog X.w) X.A (call (.builtin id) (v::us)) (EP X pins σ Q) X.xe s
section
variable{X:Cx}{a b:agu}{ta tb:TE}{pos:Pos}
theorem j7.or(h:j7 X r)(h':j7 X r'):j7 X (λx y H Q=>r x y H Q∨r' x y H Q):=by
 intro value slice pins s σ H x y v u Q I rx ry q hs;rcases q with q|q
 .exact h value slice pins s σ H x y v u Q I rx ry q hs
 .exact h' value slice pins s σ H x y v u Q I rx ry q hs
theorem bz(hr:j7 X r)(ha:PE X a ta)(hb:PE X b tb)(hs:zw b):PE X (.Subscript a b pos) (nN r ta tb):=by intro pins s σ H Q I h;exact ajm (za ha hb I h λv u s2 x y H2 I2 rx ry q=>hr a b pins s2 σ H2 x y v u Q I2 rx ry q (hs _ _))
def Gv(K:acr):R2:=λx y H Q=>∃ p xs i v,x = .ref p/\y = .int i/\ai K H p xs/\c8 xs i=some v/\Q v H
def Gw(K:acr):R2:=λx y H Q=>∃ p xs i v,x = .ref p/\y = .int i/\ak K H p xs/\c8 xs i=some v/\Q v H
def Gx:R2:=λx y H Q=>∃ z i c,x = .str z/\y = .int i/\z.length<=acV/\c8 z.cps.toList i=some c/\Q (.str ⟨#[c]⟩) H
theorem O4:j7 X (Gv X.K):=by
 intro value slice pins s σ H x y v u Q I rx ry h hs;obtain⟨p,xs,i,z,rfl,rfl,hq,he,q⟩:=h;cases rx;obtain⟨t,rfl⟩:=ry;obtain⟨ao,r,pl,hz⟩:=I.list hq;obtain⟨j,h1,h2,h3,h4,h5⟩:=zu he;obtain⟨w,ew,jq⟩:=r.get h2;have hl:=r.length;have hn:=rZ;have fin:EP X pins σ Q w s:=⟨z,H,I,jq,q⟩
 by_cases h0:0<=i
 .have hj:i.toNat=j:=by rw[ajY h0 h5] at h1;exact Option.some.inj h1
  exact item_listR pl.isList h0 (by omega) (by rw[hj];simpa using ew) fin hs
 .have hj:(i+(ao.toArray.size:Int)).toNat=j:=by rw[ajD (by omega) h4] at h1;rw[acK,<- hl];exact Option.some.inj h1
  exact ahW (x:=w) pl.isList.typeIs slot_list_getitem.lookup
   (wpAny_getItem_list_neg (Q:=λr s'=>r=w/\EP X pins σ Q r s') pl.isList (by omega) (by rw[acK]<;>omega) (by omega) (by rw[hj];simpa using ew) ⟨rfl,fin⟩) hs
theorem O5:j7 X (Gw X.K):=by
 intro value slice pins s σ H x y v u Q I rx ry h hs;obtain⟨p,xs,i,z,rfl,rfl,hq,he,q⟩:=h;cases rx;obtain⟨t,rfl⟩:=ry;obtain⟨ao,r,pl,hz⟩:=I.tuple hq;obtain⟨j,h1,h2,h3,h4,h5⟩:=zu he;obtain⟨w,ew,jq⟩:=r.get h2;have hl:=r.length;have hn:=rZ;have fin:EP X pins σ Q w s:=⟨z,H,I,jq,q⟩
 exact ahW (x:=w) pl.typeIs slot_tuple_getitem.lookup
  (getItem_tuple (j:=j) (Q:=λr s'=>r=w/\EP X pins σ Q r s') pl (by omega) (by omega) (by rw[acK,<- hl];exact h1) (by simpa using ew) ⟨rfl,fin⟩) hs
theorem O6:j7 X Gx:=by
 intro value slice pins s σ H x y v u Q I rx ry h hs;obtain⟨z,i,c,rfl,rfl,hz,he,q⟩:=h;obtain⟨t,rfl⟩:=rx;obtain⟨t',rfl⟩:=ry;obtain⟨j,h1,h2,h3,h4,h5⟩:=zu he;have hl:z.cps.toList.length=z.length:=by simp[Str.length]
 rw[hl] at h1 h4 h5;have hn:=rZ;exact tail_any (typeIs_str s z t) slot_str_getitem.lookup (getItem_str (c:=c) (by
  have e1:decide (i < -(2 ^ 63:Int))=false:=decide_eq_false (by omega);have e2:decide (i ≥ 2 ^ 63)=false:=decide_eq_false (by omega);rw[e1,e2,ai2]) (by rw[h1];simpa using h2) ⟨.str ⟨#[c]⟩,H,I.tok _,⟨_,rfl⟩,q⟩) hs
def j8(K:acr):R2:=λx y H Q=>Gv K x y H Q∨Gw K x y H Q∨Gx x y H Q
theorem bA:j7 X (j8 X.K):=O4.or (O5.or O6)
theorem O7(ao:List acB)(n j:Nat)(u:acB):adZ (·.setIfInBounds j u) { cls:=.type "list",data:=.seq ao.toArray n } = { cls:=.type "list",data:=.seq (ao.set j u).toArray n }:=by simp[adZ]
theorem Inv.lst(I:Inv X pins σ H s)(h:H p=some (.lst xs)) :
 ∃ (ao:List acB) (n:Nat),Vals xs ao/\s.heap.get? p=some { cls:=.type "list",data:=.seq ao.toArray n }/\xs.length<=acV:=by
 obtain⟨z,ao,n,r,e⟩:=I.ay p _ h;exact⟨ao,n,r,e,z⟩
theorem Inv.O8{pins:List (acF × Obj)}{σ:St}{H:Hp}{s:acI}{p:acF}{xs ys:List V}{ao its':List acB}{n n':Nat}{f:Obj->Obj}(I:Inv X pins σ H s)(h:H p=some (.lst xs))
 (ho:s.heap.get? p=some { cls:=.type "list",data:=.seq ao.toArray n }) (hf:f { cls:=.type "list",data:=.seq ao.toArray n } = { cls:=.type "list",data:=.seq its'.toArray n' }) (r:Vals ys its') (hz:ys.length<=acV) (t:Nat) :
 Inv X pins σ (upd H p (.lst ys)) { s with heap:=s.heap.update p f,toks:=t }:=by
 have e:(s.heap.update p f).get? p=some { cls:=.type "list",data:=.seq its'.toArray n' }:=by rw[adh f ho (by rw[hf]<;>rfl),hf]
 refine I.write (x:=p) (e:=p) (by rw[h];trivial) (.inl rfl) (λb u hb q=>(acS _ _ (ady hb)).trans q) ⟨_,e⟩ ?_;exact⟨hz,its',n',r,e⟩
def Gy:V->V->V->Hp->(Hp->Prop)->Prop:=λo i v H Q=>∃ p xs k j,o = .ref p/\i = .int k/\H p=some (.lst xs)/\jo xs.length k=some j/\Q (upd H p (.lst (xs.set j v)))
theorem set_list:FN X Gy:=by
 intro pins s σ H o i v ov iv u Q I ro ri rv h;obtain⟨p,xs,k,j,rfl,rfl,hp,hj,q⟩:=h;cases ro;obtain⟨t,rfl⟩:=ri;obtain⟨ao,n,r,ho,hz⟩:=I.lst hp;obtain⟨h1,h2,h3,h4⟩:=Gs hj;have hl:=r.length;have hn:=rZ;have I':Inv X pins σ (upd H p (.lst (xs.set j v))) { s with heap:=s.heap.update p (adZ (·.setIfInBounds j u)) } :=
  I.O8 hp ho (O7 ao n j u) (r.set rv j) (by rw[ajZ];exact hz) s.toks
 by_cases h0:0<=k
 .have hk:k.toNat=j:=by rw[ajY h0 h4] at h1;exact Option.some.inj h1
  exact PySem.W.ki_setAt ho h0 (by omega) (by rw[acK,<- hl];exact h4) (by rw[hk];exact⟨_,I',q⟩)
 .have hk:(k+(ao.toArray.size:Int)).toNat=j:=by rw[ajD (by omega) h3] at h1;rw[acK,<- hl];exact Option.some.inj h1
  exact PySem.W.ki_setBack ho (by omega) (by rw[acK,<- hl];exact h3) (by omega) (by rw[hk];exact⟨_,I',q⟩)
theorem O9(lo hi:Option Int)(n:Nat):(afI lo hi none n).1=((HT.fD n 0 lo:Nat):Int)/\(afI lo hi none n).2.1=((HT.fD n n hi:Nat):Int)/\(afI lo hi none n).2.2=1:=by
 refine⟨?_,?_,rfl⟩
 .cases lo with
  | none=>simp[afI,HT.fD]
  | some i =>
   simp only[afI,HT.fD,Option.getD_none,show (1:Int) > 0 by decide,if_true];by_cases h:i<0
   .simp only[h,if_true]<;>omega
   .simp only[h,if_false]<;>omega
 .cases hi with
  | none=>simp[afI,HT.fD]
  | some i =>
   simp only[afI,HT.fD,Option.getD_none,show (1:Int) > 0 by decide,if_true];by_cases h:i<0
   .simp only[h,if_true]<;>omega
   .simp only[h,if_false]<;>omega
theorem Pb(ao:List acB)(lo hi:Option Int):aj0 ao.toArray lo hi none=((ao.drop (HT.fD ao.length 0 lo)).take (HT.fD ao.length ao.length hi-HT.fD ao.length 0 lo)).toArray:=by obtain⟨h1,h2,h3⟩:=O9 lo hi ao.toArray.size;unfold aj0;rw[h1,h2,h3];simp only[sliceRange_one,pick_run,acK]<;>rfl
def zx(K:acr):V->Option Int->Option Int->Hp->VK->Prop:=λx lo hi H Q=>∃ a xs,x = .ref a/\ai K H a xs/\∀ p,H p=none->Q (.ref p) (upd H p (.lst (iC xs lo hi)))
theorem vX:zt X (zx X.K):=by intro pins s σ H x v vl vu lo hi sl Q I rx hs pl pu h;obtain⟨a,xs,rfl,hx,q⟩:=h;cases rx;obtain⟨ao,r,ht,hz⟩:=I.list hx;have hlen:=r.length;refine⟨"list",_,slot_list_getitem.lookup,ht.isList.typeIs,?_⟩;refine aho ht.isList hs pl pu .none (by simp) ?_ (by rw[acK]<;>omega);rw[Pb,<- hlen];refine⟨.ref s.heap.objs.size,_,I.laid (t':=s.toks) (o:=.lst (iC xs lo hi)) (λb ob q=>acx _ q) (acC _) ?_,rfl,q _ (I.ay.fresh (acC _))⟩;exact⟨acA (O2 xs lo hi) hz,_,0,(r.drop (HT.fD xs.length 0 lo)).take (HT.fD xs.length xs.length hi-HT.fD xs.length 0 lo),acG _ rfl⟩
noncomputable def kU:V->Bool
 | .non=>true
 | .bl _=>true
 | .int _=>true
 | .str _=>true
 | _=>false
noncomputable def lZ:V->V->Bool
 | .non,.non=>true
 | .bl a,.bl b=>a == b
 | .bl a,.int b=>(if a then 1 else 0) == b
 | .int a,.bl b=>a == (if b then 1 else 0)
 | .int a,.int b=>a == b
 | .str a,.str b=>a == b
 | _,_=>false
theorem Pc(ry:RelV y u)(rx:RelV x v)(fy:kU y=true)(fx:kU x=true):SeqAt.EqAt A s u v (lZ y x):=by
 cases y with
 | non =>
  cases ry;cases x with
  | non=>cases rx;exact SeqAt.EqAt.same _
  | bl b=>cases rx;exact SeqAt.EqAt.none_bool b
  | int b=>obtain⟨t,rfl⟩:=rx;exact SeqAt.EqAt.none_int b t
  | str b=>obtain⟨t,rfl⟩:=rx;exact SeqAt.EqAt.none_str b t
  | _=>exact absurd (show false=true from fx) acP
 | bl a =>
  cases ry;cases x with
  | non=>cases rx;exact SeqAt.EqAt.bool_none a
  | bl b=>cases rx;exact SeqAt.EqAt.bool_bool a b
  | int b=>obtain⟨t,rfl⟩:=rx;exact SeqAt.EqAt.bool_int a b t
  | str b=>obtain⟨t,rfl⟩:=rx;exact SeqAt.EqAt.bool_str a b t
  | _=>exact absurd (show false=true from fx) acP
 | int a =>
  obtain⟨t',rfl⟩:=ry;cases x with
  | non=>cases rx;exact SeqAt.EqAt.int_none a t'
  | bl b=>cases rx;exact SeqAt.EqAt.int_bool a t' b
  | int b=>obtain⟨t,rfl⟩:=rx;exact SeqAt.EqAt.int_int a t' b t
  | str b=>obtain⟨t,rfl⟩:=rx;exact SeqAt.EqAt.int_str a t' b t
  | _=>exact absurd (show false=true from fx) acP
 | str a =>
  obtain⟨t',rfl⟩:=ry;cases x with
  | non=>cases rx;exact SeqAt.EqAt.str_none a t'
  | bl b=>cases rx;exact SeqAt.EqAt.str_bool a t' b
  | int b=>obtain⟨t,rfl⟩:=rx;exact SeqAt.EqAt.str_int a t' b t
  | str b=>obtain⟨t,rfl⟩:=rx;exact SeqAt.EqAt.str_str a t' b t
  | _=>exact absurd (show false=true from fx) acP
 | _=>exact absurd (show false=true from fy) acP
noncomputable def gf(x:V)(u:acB):Bool:=match u with
 | .none=>lZ .non x
 | .bool b=>lZ (.bl b) x
 | .int i _=>lZ (.int i) x
 | .str z _=>lZ (.str z) x
 | _=>false
theorem GA(r:RelV y u)(f:kU y=true):gf x u=lZ y x:=by
 cases y with
 | non=>cases r;rfl
 | bl b=>cases r;rfl
 | int i=>obtain⟨t,rfl⟩:=r;rfl
 | str z=>obtain⟨t,rfl⟩:=r;rfl
 | _=>exact absurd (show false=true from f) acP
theorem vY:∀ {xs:List V} {us:List acB},Vals xs us->xs.all kU=true->us.any (gf x)=xs.any λy=>lZ y x:=by
 intro _ _ h f
 induction h with
 | nil=>rfl
 | cons r t ih =>
  rw[ae4,adz] at f;rw[ad0,ad0,GA r f.1,ih f.2]
theorem sA(rx:RelV x v)(fx:kU x=true):∀ {xs:List V} {us:List acB},Vals xs us->xs.all kU=true->∀ u∈us,SeqAt.EqAt A s u v (gf x u)
 | _,_,.nil,_=>λu hu=>by cases hu
 | y::xs,u::us,.cons r t,f=>λu' hu=>by
  rw[ae4,adz] at f;rcases acL.mp hu with rfl|hu
  .rw[GA r f.1];exact Pc r rx f.1 fx
  .exact sA rx fx t f.2 u' hu
noncomputable def vZ(x:V)(xs:List V):Bool:=xs.any λy=>lZ y x
def zy(K:acr)(neg:Bool):R2:=λx y H Q=>∃ p xs,y = .ref p/\(ai K H p xs∨ak K H p xs)/\kU x=true/\xs.all kU=true/\Q (.bl (if neg then !vZ x xs else vZ x xs)) H
theorem Pd:aZ X (adx .In) (zy X.K false):=by
 intro pins s σ H x y v u Q I rx ry h;obtain⟨p,xs,rfl,hq,fx,fs,q⟩:=h;cases ry;rcases hq with hq|hq
 .obtain⟨ao,r,pl,hz⟩:=I.list hq;refine SeqAt.in_listAt (gf x) pl.isList (λw hw=>sA rx fx r fs w (by simpa using hw)) ⟨.bl _,H,I,rfl,?_⟩;rw[show ao.toArray.any (gf x)=ao.any (gf x) by simp,vY r fs];exact q
 .obtain⟨ao,r,pl,hz⟩:=I.tuple hq;refine SeqAt.in_tupleAt (gf x) pl (λw hw=>sA rx fx r fs w (by simpa using hw)) ⟨.bl _,H,I,rfl,?_⟩;rw[show ao.toArray.any (gf x)=ao.any (gf x) by simp,vY r fs];exact q
theorem Pe:aZ X (adx .NotIn) (zy X.K true):=by
 intro pins s σ H x y v u Q I rx ry h;obtain⟨p,xs,rfl,hq,fx,fs,q⟩:=h;cases ry;rcases hq with hq|hq
 .obtain⟨ao,r,pl,hz⟩:=I.list hq;refine SeqAt.notIn_listAt (gf x) pl.isList (λw hw=>sA rx fx r fs w (by simpa using hw)) ⟨.bl _,H,I,rfl,?_⟩;rw[show ao.toArray.any (gf x)=ao.any (gf x) by simp,vY r fs];exact q
 .obtain⟨ao,r,pl,hz⟩:=I.tuple hq;refine SeqAt.notIn_tupleAt (gf x) pl (λw hw=>sA rx fx r fs w (by simpa using hw)) ⟨.bl _,H,I,rfl,?_⟩;rw[show ao.toArray.any (gf x)=ao.any (gf x) by simp,vY r fs];exact q
theorem GB:eR X (.type "list") (λxs H Q=>∃ p ys,xs=[.ref p]/\(ai X.K H p ys∨ak X.K H p ys)/\∀ l,H l=none->Q (.ref l) (upd H l (.lst ys))):=by
 intro pins s σ H xs us Q I r h;obtain⟨p,ys,rfl,hq,q⟩:=h;obtain⟨u,rfl,rx⟩:=vals1 r;cases rx;have fin:∀ (ao:List acB),Vals ys ao->ys.length<=acV->∀ (h':aeV) (c':Nat),(∀ b o',s.heap.get? b=some o'->h'.get? b=some o') ->
  h'.get? s.heap.objs.size=some { cls:=.type "list",dict:=none,data:=.seq ao.toArray c',slots:=#[] }->EP X pins σ Q (.ref s.heap.objs.size) { s with heap:=h' }:=λao r' hz h' c' kp e =>
  ⟨.ref s.heap.objs.size,_,I.laid (t':=s.toks) kp (acC _) (show bN X.prog X.w _ h' _ (.lst ys) from ⟨hz,ao,c',r',e⟩),rfl,q _ (I.ay.fresh (acC _))⟩
 rcases hq with hq|hq
 .obtain⟨ao,r',pl,hz⟩:=I.list hq;have hlen:=r'.length;obtain⟨o,ho,hc,n,hd⟩:=pl.isList;exact call_list_seq p (.inl rfl) ho hc hd (λh' c' kp e=>fin ao r' hz h' c' kp e) (by simp only[acK]<;>omega)
 .obtain⟨ao,r',pl,hz⟩:=I.tuple hq;have hlen:=r'.length;obtain⟨o,ho,hc,n,hd⟩:=pl;exact call_list_seq p (.inr rfl) ho hc hd (λh' c' kp e=>fin ao r' hz h' c' kp e) (by simp only[acK]<;>omega)
def zz(K:acr)(T:String)(x:V)(H:Hp):Prop:=match x with
 | .str _=>T = "str"
 | .int _=>T = "int"
 | .ref p=>(T = "list" /\ ∃ xs,ai K H p xs)∨(T = "tuple" /\ ∃ o,K.lookup p=some o/\o.cls = .type "tuple" /\ o.dict=none) ∨
  (T = "dict" /\ ((∃ kvs,H p=some (.dK kvs)) ∨ ∃ kvs,H p=some (.dT kvs)))∨(T = "set" /\ ∃ S n,H p=some (.set S n))
 | _=>False
theorem Pf(I:Inv X pins σ H s)(r:RelV x v)(ty:zz X.K T x H) :
 s.TypeIs v T/\∀ a,v = .ref a->∃ ob,s.heap.get? a=some ob/\ob.dict=none:=by
 cases x with
 | str z =>
  obtain⟨t,rfl⟩:=r;cases (show T = "str" from ty);exact⟨typeIs_str s z t,λ_ e=>nomatch e⟩
 | int i =>
  obtain⟨t,rfl⟩:=r;cases (show T = "int" from ty);exact⟨aky s i t,λ_ e=>nomatch e⟩
 | ref p =>
  cases r;rcases ty with ⟨rfl,xs,hq⟩|⟨rfl,o,hk,hc,hd⟩|⟨rfl,hk⟩|⟨rfl,S,n,hk⟩
  .obtain⟨ao,_,pl,_⟩:=I.list hq;refine⟨pl.isList.typeIs,λa e=>?_⟩;cases e;obtain⟨o,n,e,c,hd,_⟩:=pl;exact⟨o,e,hd⟩
  .refine⟨⟨o,I.ck p o hk,hc⟩,λa e=>?_⟩;cases e;exact⟨o,I.ck _ o hk,hd⟩
  .have z:∃ o,s.heap.get? p=some o/\o.ExactDict:=by
    rcases hk with ⟨kvs,hk⟩|⟨kvs,hk⟩
    .obtain⟨_,_,_,_,o,_,_,e,ex,_⟩:=I.ay p _ hk;exact⟨o,e,ex⟩
    .obtain⟨_,_,_,_,o,_,_,e,ex,_⟩:=I.ay p _ hk;exact⟨o,e,ex⟩
   obtain⟨o,e,ex⟩:=z;refine⟨⟨o,e,ex.1⟩,λa e2=>?_⟩;cases e2;exact⟨o,e,ex.2.1⟩
  .obtain⟨o,_,_,_,e,ex,_⟩:=I.ay p _ hk;refine⟨⟨o,e,ex.1⟩,λa e2=>?_⟩;cases e2;exact⟨o,e,ex.2.1⟩
 | _=>exact aeg ty
def Pg(K:acr)(T:String)(r:V->List V->Hp->VK->Prop)(to:TE):TE:=λσ H Q=>to σ H λx H1=>zz K T x H1/\r x [] H1 Q
def GC(K:acr)(T:String)(r:V->List V->Hp->VK->Prop)(to:TE)(t:TA):TE:=λσ H Q=>to σ H λx H1=>zz K T x H1/\t σ H1 λxs H2=>r x xs H2 Q
variable{o e:agu}{es:List agu}{to:TE}{t:TA}{name:Str}{apos dh:Pos}{T id:String}{r:V->List V->Hp->VK->Prop}
theorem kW(pa:PlainAttrs T)(slot:Slot T name id)(Ph:typeOf (.builtin id)=pure (.type "method_descriptor"))(hm:Gu X id r)(ho:PE X o to)(ha:PA X (e::es) t)(Pj:afT o name X.env (eval o X.env)=eval o X.env:=by rfl)(Pk:((ael dh (acW (e::es) X.env)).all (λx=>!x.1) && (aio dh (agb [] X.env)).all (λx=>x.1.isSome)
 && decide ((e::es).length+([]:List aj1).length+(if ([]:List aj1).isEmpty then 0 else 1)<30))=true:=by rfl) (Pl:(apos.endLine == dh.line)=true:=by rfl) (hs:acW (e::es) X.env=(false,eval e X.env)::acW es X.env:=by rfl) (Pm:(ael dh (acW es X.env)).any (·.1)=false:=by rfl) :
 PE X (.Call (.Attribute o name apos) (e::es) [] dh) (GC X.K T r to t):=by
 intro pins s σ H Q I h;refine wpAny_Call_method_late Pj Pk Pl rfl (aB (ho pins s σ H _ I h) λv s1 zq=>?_);obtain⟨x,H1,I1,r1,ty,q1⟩:=zq;obtain⟨h1,h2⟩:=Pf I1 r1 ty;refine⟨T,id,pa,slot,Ph,h1,h2,?_⟩;have hA:=ha dh pins s1 σ H1 _ I1 q1;rw[hs] at hA ⊢;refine ahX (by show (false || (ael dh (acW es X.env)).any (·.1))=false;rw[Pm]<;>rfl) (agA ?_);exact aB hA λus s2 ⟨vs,H2,I2,r2,q2⟩=>hm pins s2 σ H2 x vs v us Q I2 r1 r2 q2
end
def GD(X:Cx)(id:String)(r:V->List V->Hp->VK->Prop):Prop :=
 ∀ (pins:List (acF × Obj)) (s:acI) (σ:St) (H:Hp) (x:V) (xs:List V) (v:acB) (us:List acB) (Q:VK),Inv X pins σ H s->RelV x v->Vals xs us->r x xs H Q ->
  acQ (model X.prog X.w) X.A (call (.builtin id) (v::us)) (EP X pins σ Q) X.xe s
theorem Vals.one:∀ {x:V} {us:List acB},Vals [x] us->∃ u,us=[u]/\RelV x u:=by
 intro x us h;cases h with
 | cons r t=>cases t;exact⟨_,rfl,r⟩
theorem Vals.reverse(h:Vals xs us):Vals xs.reverse us.reverse:=by
 induction h with
 | nil=>exact .nil
 | cons r t ih=>rw[agc,agc];exact Vals.append ih (.cons r .nil)
section
theorem Inv.GF{ao its':List acB}{n:Nat}{f:Array acB->Array acB}{t':Nat}(I:Inv X pins σ H s)(hH:H l=some (.lst xs))
 (e:s.heap.get? l=some { cls:=.type "list",data:=.seq ao.toArray n }) (hf:f ao.toArray=its'.toArray) (hv:Vals ys its') (hz:ys.length<=acV) :
 Inv X pins σ (upd H l (.lst ys)) { s with heap:=s.heap.update l (adZ f),toks:=t' }:=by
 have q:=PySem.IsL.update e f;rw[hf] at q;refine I.write (x:=l) (e:=l) (by rw[hH];exact trivial) (.inl rfl) (λb' u hb hu=>(acS s.heap (adZ f) (ady hb)).trans hu) ⟨_,q⟩ ?_;exact⟨hz,its',_,hv,q⟩
theorem Inv.Pn(I:Inv X pins σ H s)(hv:Vals ys ao)(hz:ys.length<=acV) :
 Inv X pins σ (upd H s.heap.objs.size (.lst ys)) { s with heap:=s.heap.push { cls:=.type "list",data:=.seq ao.toArray },toks:=t' } :=
 I.laid (λ_ _ q=>acx _ q) (acC _) ⟨hz,ao,0,hv,acG _ rfl⟩
theorem Inv.fresh(I:Inv X pins σ H s):H s.heap.objs.size=none:=I.ay.fresh (acC _)
theorem Inv.sC(I:Inv X pins σ H s)(hH:H l=some (.lst xs)):xs.length<=acV/\∃ (ao:List acB) (n:Nat),Vals xs ao/\xs.length=ao.length/\s.heap.get? l=some { cls:=.type "list",data:=.seq ao.toArray n }:=by obtain⟨z,ao,n,r,e⟩:=I.ay l _ hH;exact⟨z,ao,n,r,r.length,e⟩
theorem Po(h:n<=acV):afO n=false:=by unfold afO;exact decide_eq_false (by omega)
def GG:V->List V->Hp->VK->Prop:=λx vs H Q=>∃ l xs y,x = .ref l/\vs=[y]/\H l=some (.lst xs)/\xs.length<acV/\Q .non (upd H l (.lst (xs++[y])))
theorem sD:GD X "list.append" GG:=by intro pins s σ H x vs v us Q I rx rv h;obtain⟨l,xs,y,rfl,rfl,hH,hz,q⟩:=h;cases rx;obtain⟨u,rfl,ru⟩:=rv.one;obtain⟨z,ao,n,r,hl,e⟩:=I.sC hH;refine ajn ai3 ⟨_,e,rfl⟩ aiK (ait _ _) (ajo l ao.toArray n u (by rw[acK];omega)) ⟨e,?_⟩;refine⟨.non,_,I.GF (its':=ao++[u]) hH e (by simp) (r.append (.cons ru .nil)) ?_,rfl,q⟩;rw[ac1,ac8];omega
def Pq:V->List V->Hp->VK->Prop:=λx vs H Q=>∃ l b xs zs,x = .ref l/\vs=[.ref b]/\H l=some (.lst xs)/\H b=some (.lst zs)/\xs.length+zs.length<=acV/\Q .non (upd H l (.lst (xs++zs)))
theorem GH:GD X "list.extend" Pq:=by
 intro pins s σ H x vs v us Q I rx rv h;obtain⟨l,b,xs,zs,rfl,rfl,hH,hB,hz,q⟩:=h;cases rx;obtain⟨u,rfl,ru⟩:=rv.one;cases ru;obtain⟨z,ao,n,r,hl,e⟩:=I.sC hH;obtain⟨z2,kT,n2,r2,bh,e2⟩:=I.sC hB;have hsz:ao.toArray.size+kT.toArray.size<=acV:=by rw[acK,acK];omega
 have Pr:¬ (!ao.toArray.isEmpty && afO (ao.toArray.size+kT.toArray.size))=true:=by rw[Po hsz,aiB];exact acP
 refine ajn F.slot_list_extend ⟨_,e,rfl⟩ F.entry_list_extend (F.args_list_extend_2 _ _)
  (AutoSeq1.list_extend_list_list_0 l ao.toArray n b kT.toArray n2 Pr (by rw[acK];omega) (by omega)) ⟨e,e2,?_⟩
 refine⟨.non,_,I.GF (its':=ao++kT) hH e (by simp) (r.append r2) ?_,rfl,q⟩;rw[ac1];omega
def Pt:V->List V->Hp->VK->Prop:=λx vs H Q=>∃ l xs,x = .ref l/\vs=[]/\H l=some (.lst xs)/\Q .non (upd H l (.lst xs.reverse))
def GI:R2:=λx y H Q=>∃ l b xs zs,x = .ref l/\y = .ref b/\H l=some (.lst xs)/\H b=some (.lst zs)/\xs.length+zs.length<=acV/\∀ p,H p=none->Q (.ref p) (upd H p (.lst (xs++zs)))
theorem l4:aZ X (afr .Add) GI:=by
 intro pins s σ H x y v u Q I rx ry h;obtain⟨l,b,xs,zs,rfl,rfl,hH,hB,hz,q⟩:=h;cases rx;cases ry;obtain⟨z,ao,n,r,hl,e⟩:=I.sC hH;obtain⟨z2,kT,n2,r2,bh,e2⟩:=I.sC hB;refine PySem.P.add_list e e2 ?_ (by rw[acK,acK];omega);have ea:ao.toArray++kT.toArray=(ao++kT).toArray:=by simp
 rw[ea];exact⟨.ref _,_,I.Pn (t':=s.toks) (r.append r2) (by rw[ac1];omega),rfl,q _ I.fresh⟩
end
section
set_option maxRecDepth 100000 in
end
section
end
end L2
namespace zA
open PySem PySem.W PySem.Calls PyProof.Rows
theorem Pu:∀ (ns:List Int) (vs:List acB),WellAll P h vs (ns.map WData.int)->afm vs ns:=by
 intro ns
 induction ns with
 | nil =>
  intro vs w;rw[ae3] at w;cases w;exact .nil
 | cons n ns ih =>
  intro vs w;rw[acN] at w;cases w with
  | cons a b =>
   cases a;exact .cons _ _ (ih _ b)
theorem Pw{l:OpenLaw}{n:Nat}(hn:l.most=some n){P:Params}{h:aeV}{args:List WData}{vals:List acB}
 (GJ:l.row.toRowW.claim.pre args=true) (Px:WellAll P h vals args) :
 ∃ a vs ns,vals=[ac3 a]/\args=[WData.list (ns.map WData.int)]/\h.get? a=some { cls:=.type "list",data:=.seq vs.toArray }/\afm vs ns/\ns.length<=n:=by
 have Py:WShape.hasAll [] args [.list .int]=true:=(pre_splitW GJ).1;have hc:l.pre.holds [] { args:=args }=true:=(pre_splitW GJ).2;obtain⟨d,r,rfl,h1,h2⟩:=hasAllW_cons Py;obtain rfl:=hasAllW_nil h2;obtain⟨xs,rfl,h3⟩:=hasW_list h1;obtain⟨ns,rfl⟩:=items_int h3;have hlen:ns.length<=n:=by
  unfold OpenLaw.pre at hc;have h4:(WTm.not (.lt (.lit (.int (n:Int))) (.len (.arg 0)))).holds [] { args:=[.list (ns.map .int)] }=true:=by have h4:=(holds_andW hc).1;rw[hn] at h4;exact h4
  have h5:=condW_of h4 (w_not (w_lt w_lit (w_len_list (w_arg rfl))));rw[acs] at h5;refine Nat.le_of_not_lt λq=>?_;have q':(n:Int)<((ns.length:Nat):Int):=by omega
  first
   | (rw[decide_eq_true q'] at h5;exact absurd h5 (by decide))
   | (simp at h5;omega)
 cases Px with
 | cons w1 w2 =>
  cases w2;cases w1 with
  | list ho hall=>exact⟨_,_,ns,rfl,rfl,ho,Pu ns _ hall,hlen⟩
theorem Pz(l:OpenLaw)(args:List WData):l.row.toRowW.claim.post args (.bool true) args=true :=
 postW_of (r:=l.row.toRowW) (X:=(true == true))
  (show WShape.has [] (.bool true) .bool=true by first|rfl|decide|simp[WShape.has,WShape.arms,WShape.armsAll])
  (show (WTm.eq .res (.lit (.bool true))).value [] { args:=args,res:=some (.bool true),after:=args }=some (.bool (true == true)) from w_eq_bool (w_res rfl) w_lit) rfl
section
end
end zA
namespace L2
open PySem PySem.Spec PyProof.Rows
theorem GK:∀ {vs:List acB} {ns:List Int},afm vs ns->Vals (ns.map V.int) vs:=by
 intro _ _ h
 induction h with
 | nil=>exact .nil
 | cons n t h ih=>exact .cons ⟨t,rfl⟩ ih
def GL(H:Hp):Prop:=∀ b,H b=none ∨ ∃ o xs,H b=some (.aQ o (.lst xs))
theorem PB{P:adn}{w:ad2}{K:acr}{mg mb:Str->Option acB}{CX:hV}{k:Nat}{fa a:acF}{fd:afs}{x:Str}{sp:Sp}{s₁:acI}{vs:List acB}{ns:List Int}
 (KX:K.In s₁.heap) (nU:s₁.heap.Ns acU mg) (hb:s₁.heap.Ns akv mb) (PD:∀ x:Str,x ≠ "__name__" -> mb x=adj x) (PF:s₁.heap.NoLimit) (hg:s₁.gens = #[])
 (ha:s₁.heap.get? a=some { cls:=.type "list",data:=.seq vs.toArray }) (hi:afm vs ns) (hl:ns.length<=acV) (hr:bG k aj2)
 (F:∀ base:aeV,K.In base->base.Ns acU mg->dW P w K mg base CX k fa fd [x] sp) (PH:∀ (s:acI) (u:acB),ajl s fd ⟨[u],[]⟩ [(x,u)])
 (lX:∀ H:Hp,GL H->ai K H a (ns.map V.int)->sp [.ref a] H (λv _=>v = .bl true) λ_ _ _=>False)
 (PJ:∀ H e s',CX [] H s₁ (λ_ _ _=>False) e s'->False) :
 afH (model P w) aj2 (.call (.ref fa) ⟨[.ref a],[]⟩) (λr s'=>r = .ok (.ret (.bool true))/\OldK s₁.heap s'.heap/\s'.os=s₁.os/\ah4 s'.gens) s₁:=by
 have rv:=GK hi;have PK:=hi.length;have core:∀ H:Hp,GL H->ai K H a (ns.map V.int)->cj P w H s₁.heap->(∀ b,H b≠none->b=a)->(H a≠none->K.lookup a=none) ->
  afH (model P w) aj2 (.call (.ref fa) ⟨[.ref a],[]⟩) (λr s'=>r = .ok (.ret (.bool true))/\OldK s₁.heap s'.heap/\s'.os=s₁.os/\ah4 s'.gens) s₁:=by
  intro H hO hS ay hA hK;have GN:∀ {b:acF} {o:Obj},s₁.heap.get? b=some o->H b=none->(kM s₁.heap H).get? b=some o:=λe n=>NW e n;have ia:∀ {b:acF} {o:Obj} {es:Array aeC} {ep:Nat},s₁.heap.get? b=some o->o.data = .dict es ep->H b=none:=λ{b o es ep} e d=>by
   cases q:H b with
   | none=>rfl
   | some u =>
    have e':b=a:=hA b (by rw[q];simp);subst e';rw[ha] at e;cases e;have d':Data.seq vs.toArray _=Data.dict es ep:=d;cases d'
  have v3:∀ {b:acF} {m:Str->Option acB},s₁.heap.Ns b m->(kM s₁.heap H).Ns b m:=λ{b m} ⟨o,es,ep,e,d,r⟩=>⟨o,es,ep,GN e (ia e d),d,r⟩
  have GO:K.In (kM s₁.heap H):=λb o e=>GN (KX b o e) (by
   cases q:H b with
   | none=>rfl
   | some u =>
    have e':b=a:=hA b (by rw[q];simp);subst e';rw[hK (by rw[q];simp)] at e;cases e)
  have hM:Mod K mg (kM s₁.heap H):=⟨GO,v3 nU,⟨mb,v3 hb,PD⟩,let ⟨mc,h1,h2⟩:=PF;⟨mc,v3 h1,h2⟩⟩
  have e0:nP P w K mg (kM s₁.heap H) aj2 [] s₁ H:=⟨rfl,hM,λb o e=>NX e,akW (NV _ _),trivial,λb hb=>absurd (show b∈([]:List acF) from hb) (by simp),ay,.of_eq hg⟩
  refine afM ((F _ GO (v3 nU)).run aj2 [] s₁ H ⟨[.ref a],[]⟩ [.ref a] [.ref a] _ _ hr e0 (PH s₁ (.ref a)) (.cons rfl .nil) (lX H hO hS)) λr s' h=>?_;cases r with
  | error e=>exact (PJ H e s' h).elim
  | ok fl =>
   cases fl with
   | next=>exact aeg h
   | brk=>exact aeg h
   | cont=>exact aeg h
   | ret u =>
    obtain⟨v,H',os,bare,un,PL,r',q⟩:=h;have q':v = .bl true:=q;subst q';obtain rfl:u=ad5 true:=r';refine⟨rfl,OldK.of_keep λb o e=>?_,os,bare⟩;cases q:H b with
    | none=>exact un.keep b o e q (by intro z;exact absurd (show b∈([]:List acF) from z) (by simp)) (by simp)
    | some u =>
     rcases hO b with z|⟨ob,xs,z⟩
     .rw[q] at z;cases z
     .have z2:=un.fN b ob _ z;obtain⟨e1,_⟩:=ay b _ z;obtain⟨e2,_⟩:=PL b _ z2;rw[e] at e1;cases e1;exact e2
 cases hk:K.lookup a with
 | some o =>
  have e:=KX a o hk;rw[ha] at e;cases e;refine core (λ_=>none) (λ_=>.inl rfl) (.inr ⟨_,vs.toArray,_,hk,rfl,rfl,rfl,by rw[acK,PK];exact hl,by simpa using rv⟩) (λb u z=>by have z':(none:Option HO)=some u:=z;cases z') (λb z=>absurd rfl z) λz=>absurd rfl z
 | none =>
  refine core (λb=>if b=a then some (.aQ { cls:=.type "list",data:=.seq vs.toArray } (.lst (ns.map V.int))) else none) (λb=>?_) (.inl (.inr ⟨{ cls:=.type "list",data:=.seq vs.toArray },if_pos rfl⟩)) (λb u z=>?_) (λb z=>?_) λ_=>hk
  .by_cases hb:b=a
   .exact .inr ⟨_,_,if_pos hb⟩
   .exact .inl (if_neg hb)
  .by_cases hb:b=a
   .have z':=(if_pos hb).symm.trans z;cases z';subst hb;exact⟨ha,by rw[acs];exact hl,vs,_,rv,ha⟩
   .have z':=(if_neg hb).symm.trans z;cases z'
  .by_cases hb:b=a
   .exact hb
   .exact absurd (if_neg hb) z
def inClass(s:aee)(j:Nat):aee:=match s with
 | .ClassDef _ _ _ body _ _ _ _ _ _ _=>body.getD j (.Pass ⟨0,0,0,0⟩)
 | _=>.Pass ⟨0,0,0,0⟩
noncomputable def pK(s:aee):Arguments:=match s with
 | .FunctionDef _ a _ _ _ _ _ _ _ _=>a
 | _=>{ posonlyargs:=[],args:=[],vararg:=none,kwonlyargs:=[],kw_defaults:=[],kwarg:=none,defaults:=[] }
noncomputable def iD(s:aee):List aee:=match s with
 | .FunctionDef _ _ b _ _ _ _ _ _ _=>b
 | _=>[]
noncomputable def dY(s:aee):air:=match s with
 | .FunctionDef _ _ _ _ _ _ sc _ _ _=>sc
 | _=>{ kind:=.function,names:=[],isGenerator:=false,isCoroutine:=false }
abbrev E0:XK:=λ_ _ _=>False
structure nV(K:acr)(x qual:Str)(st:aee)(f:acF)(fd:afs):Prop where
 ex:∃ (oc:acB) (od:Option acF) (kV doc pm:acB) (an:Option acF) (aY ct:acB) (j6:Array (Option acB)),
  fd=afl x qual (pK st) (iD st) (dY st) .none kV doc pm an aY ct/\K.lookup f=some ⟨oc,od,.func fd,j6⟩/\ahb K aY qual=true
 kp:adH K (.ref f)=true
section
variable{P:adn}{w:ad2}{K:acr}{mg:Str->Option acB}{base:aeV}
theorem nV.binds{x qual:Str}{st:aee}{f:acF}{fd:afs}{ps:List Str}(F:nV K x qual st f fd)
 (h:∀ (kV doc pm:acB) (an:Option acF) (aY ct:acB) (us:List acB),us.length=ps.length->bindArgs (afl x qual (pK st) (iD st) (dY st) .none kV doc pm an aY ct) ⟨us,[]⟩=pure (ps.zip us)):Binds K fd ps []:=by
 obtain⟨oc,od,kV,doc,pm,an,aY,ct,j6,rfl,lk,gb⟩:=F.ex;exact .all (h kV doc pm an aY ct)
theorem pL{x qual:Str}{st:aee}{f:acF}{oc:acB}{od an:Option acF}{j6:Array (Option acB)}{kV doc pm aY ct:acB}(l:K.lookup f=some ⟨oc,od,.func (afl x qual (pK st) (iD st) (dY st) .none kV doc pm an aY ct),j6⟩)
 (c:ahb K aY qual=true) (k:adH K (.ref f)=true):nV K x qual st f (afl x qual (pK st) (iD st) (dY st) .none kV doc pm an aY ct):=⟨⟨oc,od,kV,doc,pm,an,aY,ct,j6,rfl,l,c⟩,k⟩
end
theorem dI(hr:bG k A):A.units+1<agB:=adI (Nat.add_le_add_left (by decide:1<=64) _) hr.units
section
theorem pv(i:Nat)(hN:X.N[i]?=some x:=by rfl)(hv:vH X.env.scope x:=by first|exact ago rfl|exact ajE (ago rfl)|exact ajE (ajE rfl))(hd:(x == ("__debug__" : Str))=false:=by decide)(gb:(x == ("__classdict__" : Str))=false:=by decide):PE X (.Name x pos) (yQ i):=N3 hN hv hd gb
end
def ah(H H':Hp):Prop:=∀ b o,H b=some o->H' b=some o
theorem ah.refl(H:Hp):ah H H:=λ_ _ h=>h
theorem ah.trans(a:ah H H1)(b:ah H1 H2):ah H H2:=λc o h=>b c o (a c o h)
theorem ah.free(e:ah H H')(h:H' l=Option.none):H l=Option.none:=by
 cases q:H l with
 | none=>rfl
 | some o =>
  rw[e l o q] at h;cases h
theorem ah.seq{K:acr}{H H':Hp}{a:acF}{xs:List V}(e:ah H H')(h:ai K H a xs):ai K H' a xs:=by
 rcases h with (h|⟨o,h⟩)|h
 .exact .inl (.inl (e _ _ h))
 .exact .inl (.inr ⟨o,e _ _ h⟩)
 .exact .inr h
end L2
namespace Gz
open PySem PySem.Spec PyProof.Rows L2
def Bd(n:Nat)(x:Int):Prop:=x.natAbs<2 ^ n
theorem Bd.up(h:Bd n x)(hm:n<=m):Bd m x:=acX h (Nat.pow_le_pow_right (by decide) hm)
theorem Bd.bits(h:Bd n x):ae5 x<=n:=by
 unfold ae5;by_cases e:x=0
 .subst e;simp
 .have e0:¬ ((x == 0)=true):=by simpa using e
  rw[if_neg e0];have hn:x.natAbs≠0:=by lia
  have:=(ak9 hn).mpr h;lia
theorem Bd.log(h:Bd n x)(hn:n<=9000)(h0:0<n):x.natAbs.log2<9000:=by
 by_cases e:x.natAbs=0
 .rw[e];decide
 .have:=(ak9 e).mpr h;lia
def sE(i j:Int):Prop:=Bd 4000 i/\Bd 4000 j
theorem sE.ok(h:sE i j):IntMulOk i j :=
 IntMulOk.of_bits (acA h.1.bits (by decide)) (acA h.2.bits (by decide))
section
theorem PM:aZ X (afr .Mult) (rI sE λi j=>.int (i * j)):=rY λ_ _ _ _ _ _ _ hc q=>mul_int q hc.ok
theorem PN:aZ X (afr .FloorDiv) (rI (λ_ j=>0<j/\Bd 4000 j) λi j=>.int (i / j)):=rY λi j _ _ _ _ _ hc q=>by have h1:(0:Int)<j:=hc.1;exact floordiv_int (by lia) (by rw[Int.fdiv_eq_ediv_of_nonneg i (by lia)];exact q) (.inl (PyProof.noPylong_of_log2 (hc.2.log (by decide) (by decide))))
noncomputable def sF:V->acB
 | .ref a=>.ref a
 | .ty n=>.type n
 | _=>.none
theorem PQ:eR X (.builtin "isinstance") (λxs H Q=>∃ x c t b,xs=[x,c]/\dG X.K H x t/\sF c ≠ .none/\aea X.K t (sF c)=some b/\Q (.bl b) H):=by
 intro pins s σ H xs us Q I r h;obtain⟨x,c,t,b,rfl,ty,hc,e,q⟩:=h;obtain⟨u,v,rfl,rx,rc⟩:=vals2 r;have ev:v=sF c:=by
  cases c with
  | ref a=>exact rc
  | ty n=>exact rc
  | non=>exact absurd rfl hc
  | bl _=>exact absurd rfl hc
  | int _=>exact absurd rfl hc
  | str _=>exact absurd rfl hc
  | byt _=>exact absurd rfl hc
  | flt _=>exact absurd rfl hc
 subst ev;exact OM I rx ty e λtk=>⟨.bl b,H,I.tok tk,rfl,q⟩
end
theorem v5{K:acr}{t:acB}:aea K t t=some true:=by unfold aea;rw[if_pos (by simp)]
theorem v7{K:acr}{a c:String}{b:Bool}(h:aj3 c=true)(h2:(PySem.fastBuiltinMro a).map (·.contains (.type c))=some b)(h3:(a == c)=false):aea K (.type a) (.type c)=some b:=by
 unfold aea;have e:¬ ((ahi a == ahi c)=true):=by simp only[beq_iff_eq,Value.type.injEq];simpa using h3
 rw[if_neg e];show (if aj3 c=true then afV K (.type a) (.type c) else none)=some b;rw[if_pos h];exact h2
theorem PR{K:acr}:aea K (.type "int") (.type "bool")=some false:=v7 (by decide +kernel) (by decide +kernel) (by decide)
theorem PU{K:acr}:aea K (.type "bool") (.type "int")=some true:=v7 (by decide +kernel) (by decide +kernel) (by decide)
theorem PV{K:acr}:aea K (.type "NoneType") (.type "int")=some false:=v7 (by decide +kernel) (by decide +kernel) (by decide)
theorem PX{K:acr}:aea K (.type "NoneType") (.type "tuple")=some false:=v7 (by decide +kernel) (by decide +kernel) (by decide)
theorem di:adj "len" = some (.builtin "len"):=by decide +kernel
theorem pM:adj "min" = some (.builtin "min"):=by decide +kernel
theorem pN:adj "max" = some (.builtin "max"):=by decide +kernel
theorem nW:adj "isinstance" = some (.builtin "isinstance"):=by decide +kernel
theorem GP:adj "sorted" = some (.builtin "sorted"):=by decide +kernel
theorem GQ:adj "any" = some (.builtin "any"):=by decide +kernel
theorem v8:adj "all" = some (.builtin "all"):=by decide +kernel
theorem GR:adj "sum" = some (.builtin "sum"):=by decide +kernel
theorem PY:adj "int" = some (.type "int"):=by decide +kernel
theorem PZ:adj "bool" = some (.type "bool"):=by decide +kernel
theorem pO:adj "list" = some (.type "list"):=by decide +kernel
theorem zB:adj "tuple" = some (.type "tuple"):=by decide +kernel
theorem P4:adj "dict" = some (.type "dict"):=by decide +kernel
theorem GS:adj "enumerate" = some (.type "enumerate"):=by decide +kernel
theorem P5:adj "zip" = some (.type "zip"):=by decide +kernel
theorem P6:adj "reversed" = some (.type "reversed"):=by decide +kernel
noncomputable def zC:V->V->Option Bool
 | .int _,.ty n=>if n = "int" then some true else if n = "bool" then some false else none
 | .bl _,.ty n=>if n = "int" then some true else if n = "bool" then some true else none
 | .non,.ty n=>if n = "int" then some false else if n = "tuple" then some false else none
 | _,_=>none
def jr(K:acr)(x c:V)(H:Hp)(Q:VK):Prop:=match zC x c with
 | some b=>Q (.bl b) H
 | none=>∃ t b,dG K H x t/\sF c ≠ .none/\aea K t (sF c)=some b/\Q (.bl b) H
section
theorem nX:eR X (.builtin "isinstance") (λxs H Q=>∃ x c,xs=[x,c]/\jr X.K x c H Q):=by
 intro pins s σ H xs us Q I r h;obtain⟨x,c,rfl,h⟩:=h;refine PQ pins s σ H _ us Q I r ?_;cases e:zC x c with
 | none =>
  unfold jr at h;rw[e] at h;obtain⟨t,b,h1,h2,h3,h4⟩:=h;exact⟨x,c,t,b,rfl,h1,h2,h3,h4⟩
 | some b =>
  unfold jr at h;rw[e] at h;unfold zC at e;split at e
  .rename_i i n;split at e
   .rename_i z;subst z;cases e;exact⟨_,_,_,_,rfl,dG.int i,(λz=>nomatch z),v5,h⟩
   .split at e
    .rename_i z;subst z;cases e;exact⟨_,_,_,_,rfl,dG.int i,(λz=>nomatch z),PR,h⟩
    .cases e
  .rename_i i n;split at e
   .rename_i z;subst z;cases e;exact⟨_,_,_,_,rfl,dG.bl i,(λz=>nomatch z),PU,h⟩
   .split at e
    .rename_i z;subst z;cases e;exact⟨_,_,_,_,rfl,dG.bl i,(λz=>nomatch z),v5,h⟩
    .cases e
  .rename_i n;split at e
   .rename_i z;subst z;cases e;exact⟨_,_,_,_,rfl,dG.non,(λz=>nomatch z),PV,h⟩
   .split at e
    .rename_i z;subst z;cases e;exact⟨_,_,_,_,rfl,dG.non,(λz=>nomatch z),PX,h⟩
    .cases e
  .cases e
end
section
variable{K:acr}{H:Hp}{Q:VK}{i:Int}{b:Bool}{p:acF}{xs:List V}
theorem P7:jr K (.int i) (.ty "int") H Q=Q (.bl true) H:=rfl
theorem P8:jr K (.int i) (.ty "bool") H Q=Q (.bl false) H:=rfl
theorem P9:jr K (.bl b) (.ty "int") H Q=Q (.bl true) H:=rfl
theorem Qa:jr K (.bl b) (.ty "bool") H Q=Q (.bl true) H:=rfl
theorem Qb:jr K .non (.ty "int") H Q=Q (.bl false) H:=rfl
theorem Qc:jr K .non (.ty "tuple") H Q=Q (.bl false) H:=rfl
theorem zD(h:H p=some (.tup xs))(q:Q (.bl true) H):jr K (.ref p) (.ty "tuple") H Q:=⟨_,_,dG.tup h,(λz=>nomatch z),v5,q⟩
theorem GU(h:H p=some (.lst xs))(q:Q (.bl true) H):jr K (.ref p) (.ty "list") H Q:=⟨_,_,dG.lst h,(λz=>nomatch z),v5,q⟩
end
def dj(P:adn)(w:ad2):hV:=λouter H s E e s' =>
 ∃ (x:acF) (cls a0:acB) (H':Hp) (B:aeV),e = .ref x/\s'.os=s.os/\ah4 s'.gens/\Un (ba outer) [] H H' s.heap s'.heap /\
  (∀ b o,s.heap.get? b=some o->H b=none->b∉ba outer->B.get? b=some o)/\(∀ b o,s.heap.get? b=some o->b∉ba outer->∃ o',B.get? b=some o')/\cj P w H' B/\H' x=none/\s.heap.get? x=none /\
  ajF B outer x cls a0 s'.heap/\E cls none H'
theorem bI:Passes (dj P w) X E0:=by rintro _ _ _ _ _ _ _ ⟨_,_,_,_,_,_,_,_,_,_,_,_,_,_,_,h⟩;exact h.elim
theorem Qd(h:dj P w outer H s (λ_ _ _=>False) e s'):False:=by obtain⟨_,_,_,_,_,_,_,_,_,_,_,_,_,_,_,h⟩:=h;exact h
section
variable{P:adn}{w:ad2}{K:acr}{mg:Str->Option acB}{base:aeV}
theorem okN{x qual:Str}{st:aee}{f:acF}{fd:afs}{N ps:List Str}{k:Nat}{sp:Sp}(F:nV K x qual st f fd)(S:sr N ps (dY st))(len:∀ vs H Q E,sp vs H Q E->vs.length=ps.length)
 (ib:∀ (aY:acB) (A:aeb) (outer:List Env) (s:acI) (H:Hp) (vs:List V) (Q:VK) (E:XK),bG k (A.deeper (aen qual (dY st) s.heap.objs.size f aY))->sp vs H Q E ->
   ∃ t,aT (fB (dj P w) P w K mg base N qual (dY st) f aY A outer s H E).pB (iD st) t/\t { nx:=λ_ H'=>Q .non H',rt:=Q } (start N vs) H):dW P w K mg base (dj P w) (k+1) f fd ps sp:=by
 obtain⟨oc,od,kV,doc,pm,an,aY,ct,j6,rfl,lk,gb⟩:=F.ex;refine Gi lk gb S len λA outer s H vs Q E hr lX=>?_;obtain⟨t,h,q⟩:=ib aY A outer s H vs Q E hr lX;exact⟨t,h.pB,q⟩
end
theorem Qe(a b:Int):kQ (.int a) (.int b)=true:=rfl
theorem Qf(a b:Bool):kQ (.bl a) (.bl b)=true:=rfl
theorem Qg(a:Int):kQ (.int a) .non=true:=rfl
theorem Qh(a:Int):kQ .non (.int a)=true:=rfl
theorem Qi:kQ .non .non=true:=rfl
theorem ite_tt:(if true=true then A else B)=A:=if_pos rfl
theorem ite_ff:(if false=true then A else B)=B:=if_neg acP
theorem Qj{CX:hV}{P:adn}{w:ad2}{K:acr}{mg:Str->Option acB}{base:aeV}{N:List Str}{qual:Str}{scope:air}{f:acF}{cd:acB}{A:aeb}{outer:List Env}{s:acI}{H:Hp}{E:XK} :
 (fB CX P w K mg base N qual scope f cd A outer s H E).K=K:=rfl
theorem Qk{CX:hV}{P:adn}{w:ad2}{K:acr}{mg:Str->Option acB}{base:aeV}{N:List Str}{qual:Str}{scope:air}{f:acF}{cd:acB}{A:aeb}{outer:List Env}{s:acI}{H:Hp}{E:XK} :
 (fB CX P w K mg base N qual scope f cd A outer s H E).N=N:=rfl
section
variable{K:acr}{H H':Hp}{a p:acF}{xs ys:List V}{i:Int}{v:V}{Q:VK}
theorem aj(h:H p=none):ah H (upd H p o):=λb u e=>by rw[aD (jg e h)];exact e
theorem az(h:ak K H p xs)(e:c8 xs i=some v)(q:Q v H):j8 K (.ref p) (.int i) H Q:=.inr (.inl ⟨p,xs,i,v,rfl,rfl,h,e,q⟩)
theorem bQ(h:ai K H p xs)(e:c8 xs i=some v)(q:Q v H):j8 K (.ref p) (.int i) H Q:=.inl ⟨p,xs,i,v,rfl,rfl,h,e,q⟩
theorem fE(h:ai K H p xs):zf K (.ref p) H xs.length:=.inl ⟨xs,h,rfl⟩
theorem nY(h:ak K H p xs):zf K (.ref p) H xs.length:=.inr ⟨xs,h,rfl⟩
end
noncomputable def isWhole:V->Bool
 | .int _=>true
 | _=>false
def FJ(J:It)(g:TG)(tb:TS)(D:Ends)(σ:L2.St)(H:Hp):Prop:=∃ W:Nat->Nat->L2.St->Hp->Prop,(∃ m,W 0 m σ H)/\∀ i m σ H,W i m σ H ->
 (J.stop i H/\D.nx σ H)∨(J.go i H/\∃ N:L2.St->Hp->Prop,(∀ σ' H',N σ' H'->∃ m',m'<m/\W (i+1) m' σ' H')/\∀ x H',J.yld i H x H'->g x σ H' λσ2 H2=>tb { D with nx:=N,ct:=N,bk:=D.nx } σ2 H2)
section
variable{K:acr}{g:TG}{tb:TS}{D:Ends}{σ:L2.St}{H:Hp}{a:acF}{xs:List V}{lo:Int}{n:Nat}
theorem Ql:j5 (yX ta) g tb D σ H=ta σ H (λvs H1=>∃ j:Int,vs=[.int j]/\-(2 ^ 62)<=j/\j<2 ^ 62/\FJ (iz 0 j.toNat) g tb D σ H1):=rfl
theorem Qm{tl:TE}:j5 (yU K tl) g tb D σ H=tl σ H (λx H1=>∃ a,x = .ref a/\(∃ xs,ai K H1 a xs)/\FJ (jn K a) g tb D σ H1):=rfl
theorem Qn{tl:TE}:j5 (yV K tl) g tb D σ H=tl σ H (λx H1=>∃ a,x = .ref a/\(∃ xs,ak K H1 a xs)/\FJ (rS K a) g tb D σ H1):=rfl
theorem sG(Pv:Nat->L2.St->Hp->Prop)(h0:Pv 0 σ H)(hs:∀ i σ H,i<n->Pv i σ H->g (.int (lo+i)) σ H λσ2 H2=>tb { D with nx:=Pv (i+1),ct:=Pv (i+1),bk:=D.nx } σ2 H2)(hd:∀ σ H,Pv n σ H->D.nx σ H):FJ (iz lo n) g tb D σ H:=Og Pv h0 hs hd
theorem gx(Pv:Nat->L2.St->Hp->Prop)(h0:Pv 0 σ H)(hl:∀ i σ H,i<=xs.length->Pv i σ H->ai K H a xs)(hs:∀ i x σ H,xs[i]?=some x->Pv i σ H->g x σ H λσ2 H2=>tb { D with nx:=Pv (i+1),ct:=Pv (i+1),bk:=D.nx } σ2 H2)(hd:∀ σ H,Pv xs.length σ H->D.nx σ H):FJ (jn K a) g tb D σ H:=Of Pv h0 hl hs hd
end
theorem aW:(2:Nat)<=acV:=by decide
theorem Qo(h:x.natAbs<2 ^ 200):Bd 4000 x:=Bd.up (n:=200) h (by decide)
section
end
section
variable{K:acr}{H H1:Hp}{l p:acF}{xs ys:List V}{o:HO}
theorem jt(hl:H l=none)(s:ah H H1):ah H (upd H1 l o):=λb u e=>by rw[aD (jg e hl)];exact s b u e
theorem zE(h:ak K H1 p xs)(hl:H1 l=some (.lst ys)):ak K (upd H1 l o) p xs:=by
 rcases h with (h|⟨z,h⟩)|h
 .exact .inl (.inl (by rw[aD (pf h hl (λe=>nomatch e))];exact h))
 .exact .inl (.inr ⟨z,by rw[aD (pf h hl (λe=>nomatch e))];exact h⟩)
 .exact .inr h
end
end Gz
namespace Gz
open PySem PySem.W PySem.Spec PySem.Calls PyProof.Rows Builtin Builtin.ObjectAttr Builtin.Getset_descriptor
section
variable{prog:adn}{w:ad2}{A:aeb}{E:acB->acI->Prop}{s:acI}{K:Frag}{x C:acF}{oe:Obj}{R:ajB->acI->Prop}
end
structure XC(K:Frag)(C:acF):Prop where
 ex:excIn K C [.type "ValueError",.type "Exception",.type "BaseException",.type "object"] "ValueError.__new__" = true
 mo:mroIn K C (.type "object")=some true
 mb:mroIn K C (.type "BaseException")=some true
 ga:findIn K (.ref C) "__getattribute__" = some (some (.builtin "BaseException.__getattribute__"))
 gr:findIn K (.ref C) "__getattr__" = some none
 gc:findIn K (.ref C) "__class__" = some (some (.builtin "object.__class__"))
theorem Qp{K:Frag}{h:aeV}{C:acF}(X:K.In h)(c:XC K C) :
 ∃ bm N nm q bs hdct sn sub ab col dd k0 k1 k2 k3 k5 mN,h.get? C=some (excClassObj nm q C N bs bm hdct sn sub ab col dd k0 k1 k2 k3 k5 "ValueError.__new__")/\h.Ns N mN/\mN "__init__" = none /\
  OwnTail h [.type "ValueError",.type "Exception",.type "BaseException",.type "object"] bm:=by
 have q:=c.ex;unfold excIn at q;split at q
 .rename_i dd cd sl ho;split at q
  .rename_i C' bm k0 k1 k2 k3 n k5 hm hs;simp only[adz,beq_iff_eq,Bool.not_eq_true'] at q;obtain⟨⟨⟨⟨⟨rfl,rfl⟩,hdel⟩,ht⟩,ay⟩,hni⟩:=q;obtain⟨nm,bs,mro,ns,qn,hd,sn,sub,ab,col,del⟩:=cd;dsimp only at hm hdel ay hni;subst hm hdel;have dw:sl = #[k0,k1,k2,k3,some (.builtin "ValueError.__new__"),k5]:=by obtain⟨l⟩:=sl;simp only at hs;rw[hs]
   subst dw;exact⟨bm,ns,nm,qn,bs,hd,sn,sub,ab,col,dd,k0,k1,k2,k3,k5,_,X _ _ ho,.of_isNs (isNs_of_in X ay),nsMap_none_of_in X ay hni,tail_of_in X ht⟩
  .cases q
 .cases q
open L2
section
end
end Gz
namespace Gz
open PySem PySem.Spec PyProof.Rows L2
theorem bN.some(x:bN P w H h a o):∃ ob,h.get? a=some ob:=by
 cases o with
 | lst xs=>obtain⟨_,_,_,_,e⟩:=x;exact⟨_,e⟩
 | tup xs=>obtain⟨_,_,_,o,e,_⟩:=x;exact⟨_,e⟩
 | dK kvs=>obtain⟨_,_,_,_,o,_,_,e,_⟩:=x;exact⟨_,e⟩
 | dT kvs=>obtain⟨_,_,_,_,o,_,_,e,_⟩:=x;exact⟨_,e⟩
 | set S n=>obtain⟨o,_,_,_,e,_⟩:=x;exact⟨_,e⟩
 | ins C dx fs=>obtain⟨_,_,_,e,_⟩:=x;exact⟨_,e⟩
 | own y=>exact x
 | xd fs=>obtain⟨_,⟨_,_,_,e,_⟩,_⟩:=x;exact⟨_,e⟩
 | fZ lo hi=>obtain⟨_,_,_,e⟩:=x;exact⟨_,e⟩
 | aQ ob u=>obtain⟨e,_⟩:=x;exact⟨_,e⟩
 | tbl ps=>exact⟨_,x⟩
 | met f y=>exact⟨_,x⟩
 | ext φ=>exact x.2.1
def GV(X:Cx)(E:XK):Prop:=∀ (pins:List (acF × Obj)) (σ:L2.St) (H:Hp) (s:acI) (e C:acF) (vs:List acB) (h':aeV),Inv X pins σ H s->Heap.MadeExcOf s.heap h' e (.ref C) vs->E (.ref C) none H->X.xe (.ref e) { s with heap:=h' }
def zF(C:acF)(E:XK)(ta:TA):TS:=λD σ H=>ta σ H λvs H1=>vs.length<=acV/\E (.ref C) none H1
section
theorem iE{x:Str}{np dh pos:Pos}{e₀:agu}{rest:List agu}{ta:TA}{C:acF}{E:XK}(hx:GV X E)(hg:Gl X x)(hm:X.mg x=some (.ref C))(xc:XC X.K C)(hc:X.calm=true)(ha:PA X (e₀::rest) ta)
 (hd:(x == ("__debug__" : Str))=false:=by decide) (he:acW (e₀::rest) X.env=(false,eval e₀ X.env)::acW rest X.env:=by rfl)
 (dX:(ael dh (acW rest X.env)).any (·.1)=false:=by rfl) :
 PS X (.Raise (some (.Call (.Name x np) (e₀::rest) [] dh)) none pos) (zF C E ta):=by
 intro pins s σ H D I h;obtain⟨tl,N,nm,q,bs,hdct,sn,sub,ab,col,dd,k0,k1,k2,k3,k5,mN,hC,hN,hni,T⟩:=Qp I.ok.mod.gZ xc;refine wpAny_Raise_call_subU (C:=C) (nm:=nm) (q:=q) (N:=N) (bs:=bs) (bm:=tl) (hdct:=hdct) (sn:=sn) (sub:=sub) (ab:=ab) (col:=col) (dd:=dd) (k0:=k0) (k1:=k1) (k2:=k2) (k3:=k3) (k5:=k5)
  ag0 (by decide +kernel) ag0 (mN:=mN) (T.hasType PySem.F.excBase_ValueError.hasBase) (I.ok.hd hc) (by rw[he];show (false || (ael dh (acW rest X.env)).any (·.1))=false;rw[dX];rfl) hni (pA I hg hm ⟨rfl,?_⟩ hd)
 have sH:=ha dh pins s σ H _ I h;rw[he] at sH ⊢;refine agA (adN sH (λus s₂ h₂=>?_) λ_ _ y=>y);obtain⟨vs,H1,I1,r,hl,hE⟩:=h₂;exact⟨rfl,by rw[<- r.length];exact hl,I1.bk _ _ hC,hN.keeps I1.bk,T.keeps I1.bk,λh' e hm=>hx pins σ H1 s₂ e C us h' I1 hm hE⟩
end
section
variable{P:adn}{w:ad2}{K:acr}{mg:Str->Option acB}{base:aeV}{N:List Str}{qual:Str}{scope:air}{f:acF}{cd:acB}{A:aeb}{outer:List Env}{s:acI}{H:Hp}{E:XK}
theorem GW(hf:env.frame=some L)(h:b∈ba (env::outer)):b=L∨b∈ba outer:=by unfold ba at h;rw[adU,hf] at h;exact acL.mp h
theorem iF:GV (fB (dj P w) P w K mg base N qual scope f cd A outer s H E) E:=by
 intro pins σ H1 s1 e C vs h1 I hx hE;have sI:(fB (dj P w) P w K mg base N qual scope f cd A outer s H E).A.frames=some (aen qual scope s.heap.objs.size f cd::outer):=I.ok.frames;have hF:s1.heap.FunFrames base (aen qual scope s.heap.objs.size f cd::outer):=I.stack;have bU:∀ env∈(aen qual scope s.heap.objs.size f cd::outer),∀ b,env.frame=some b->b∈ba (aen qual scope s.heap.objs.size f cd::outer):=λenv he b hb=>ag1.mpr ⟨env,he,hb⟩;have Qq:∀ b∈ba (aen qual scope s.heap.objs.size f cd::outer),H1 b=none:=I.rH;have pw:∀ b o,s.heap.get? b=some o->b≠s.heap.objs.size:=λb o e=>acO (acy e);have kN:∀ b o,s.heap.get? b=some o->b∉ba outer->b∉ba (aen qual scope s.heap.objs.size f cd::outer):=λb o e hb z=>by
  rcases GW rfl z with z|z
  .exact pw b o e z
  .exact hb z
 have ub:Un (ba outer) [] H H1 s.heap s1.heap:=I.base;refine wpAny_leaves_madeW (base:=ah3 s1.heap (ba (aen qual scope s.heap.objs.size f cd::outer))) sI rfl (λb o q=>aiV _ q) (PySem.W.funFrames_hide hF bU) hx λh' t fl tup bt up=>?_;have stays:=fl.1;have pP:∀ b o,s1.heap.get? b=some o->b∉ba (aen qual scope s.heap.objs.size f cd::outer)->(ah3 s1.heap (ba (aen qual scope s.heap.objs.size f cd::outer))).get? b=some o:=λb o q hb=>aiG _ q hb;have l5:∀ b∈ba (aen qual scope s.heap.objs.size f cd::outer),∀ o,s1.heap.get? b=some o->∃ sl,h'.get? b=some { o with slots:=sl }:=λb hb o q=>by obtain⟨_,o',cT,hnf⟩:=hF.mem hb;rw[q] at cT;cases cT;exact up b o (hx.keeps b o q) hnf
 refine⟨e,.ref C,.ref t,H1,_,rfl,I.os,I.bare,⟨λb o q n hb cV=>?_,λb o q n hb cV=>?_,ub.free,λb o q cV=>?_,ub.gq,ub.fN,ub.gu⟩,λb o q n hb=>?_,λb o q hb=>?_,λa o q=>?_,?_,?_,fl,hE⟩
 .exact stays b o (pP b o (ub.keep b o q n hb cV) (kN b o q hb))
 .obtain⟨sl,e1⟩:=ub.slot b o q n hb cV;obtain⟨ft,e2⟩:=l5 b (by unfold ba;rw[adU];exact adp _ hb) _ e1;exact⟨ft,e2⟩
 .obtain⟨o',e1⟩:=ub.there b o q cV;by_cases hb:b∈ba (aen qual scope s.heap.objs.size f cd::outer)
  .obtain⟨sl,e2⟩:=l5 b hb o' e1;exact⟨_,e2⟩
  .exact⟨o',stays b o' (pP b o' e1 hb)⟩
 .exact pP b o (ub.keep b o q n hb (by simp)) (kN b o q hb)
 .obtain⟨o',e1⟩:=ub.there b o q (by simp);exact⟨o',pP b o' e1 (kN b o q hb)⟩
 .refine (I.ay a o q).stay (λb u hb z=>pP b u z λhm=>?_) (λ_ z=>z) λ_ _ z=>z;have:=Qq b hm;rcases hb with hb|hb
  .rw[hb,q] at this;cases this
  .rw[hb] at this;cases this
 .cases q:H1 e with
  | none=>rfl
  | some u =>
   obtain⟨ob,z⟩:=bN.some (I.ay e u q);rw[hx.new] at z;cases z
 .cases q:s.heap.get? e with
  | none=>rfl
  | some u =>
   obtain⟨o',z⟩:=ub.there e u q (by simp);rw[hx.new] at z;cases z
theorem bZ:Passes (dj P w) (fB (dj P w) P w K mg base N qual scope f cd A outer s H E) E:=by
 intro pins σ H1 s1 ev s2 I cx;obtain⟨x,cls,a0,H',B,rfl,os,bare,un,kb,tb,ay,hx,hn,fl,hE⟩:=cx;have sI:(fB (dj P w) P w K mg base N qual scope f cd A outer s H E).A.frames=some (aen qual scope s.heap.objs.size f cd::outer):=I.ok.frames;have hF:s1.heap.FunFrames base (aen qual scope s.heap.objs.size f cd::outer):=I.stack;have pw:∀ b o,s.heap.get? b=some o->b≠s.heap.objs.size:=λb o e=>acO (acy e);have kN:∀ b o,s.heap.get? b=some o->b∉ba outer->b∉ba (aen qual scope s.heap.objs.size f cd::outer):=λb o e hb z=>by
  rcases GW rfl z with z|z
  .exact pw b o e z
  .exact hb z
 have Qr:∀ b,b∈ba outer->b∈ba (aen qual scope s.heap.objs.size f cd::outer):=λb hb=>by unfold ba;rw[adU];exact adp _ hb
 have ub:Un (ba outer) [] H H1 s.heap s1.heap:=I.base;have GX:Un (ba (aen qual scope s.heap.objs.size f cd::outer)) [] H1 H' s1.heap s2.heap:=un;have GY:∀ b o,s1.heap.get? b=some o->H1 b=none->b∉ba (aen qual scope s.heap.objs.size f cd::outer)->B.get? b=some o:=kb;have bX:∀ b o,s1.heap.get? b=some o->b∉ba (aen qual scope s.heap.objs.size f cd::outer)->∃ o',B.get? b=some o':=tb;have zG:∀ b∈ba (aen qual scope s.heap.objs.size f cd::outer),H1 b=none:=I.rH;refine wpAny_leaves_onW sI rfl fl λh' wa up=>?_;have stays:=wa.1;have l5:∀ b∈ba (aen qual scope s.heap.objs.size f cd::outer),∀ o,s1.heap.get? b=some o->∃ sl,h'.get? b=some { o with slots:=sl }:=λb hb o q=>by obtain⟨_,o',cT,hnf⟩:=hF.mem hb;rw[q] at cT;cases cT;obtain⟨sl,e1⟩:=GX.slot b o q (zG b hb) hb (by simp);obtain⟨ft,e2⟩:=up b _ e1 hnf;exact⟨ft,e2⟩
 refine⟨x,cls,a0,H',B,rfl,os.trans I.os,bare,⟨λb o q n hb cV=>?_,λb o q n hb cV=>?_,λb o q n cV=>?_,λb o q cV=>?_,λb xs q=>un.gq _ _ (ub.gq _ _ q),λb o u q=>un.fN _ _ _ (ub.fN _ _ _ q),λb ps q=>?_⟩,λb o q n hb=>?_,λb o q hb=>?_,ay,hx,?_,wa,hE⟩
 .exact stays b o (GY b o (ub.keep b o q n hb cV) (ub.free b o q n cV) (kN b o q hb))
 .obtain⟨sl,e1⟩:=ub.slot b o q n hb cV;obtain⟨ft,e2⟩:=l5 b (Qr b hb) _ e1;exact⟨ft,e2⟩
 .obtain⟨o',e1⟩:=ub.there b o q cV;exact GX.free b o' e1 (ub.free b o q n cV) (by simp)
 .obtain⟨o',e1⟩:=ub.there b o q cV;by_cases hb:b∈ba (aen qual scope s.heap.objs.size f cd::outer)
  .obtain⟨sl,e2⟩:=l5 b hb o' e1;exact⟨_,e2⟩
  .obtain⟨o2,e2⟩:=bX b o' e1 hb;exact⟨o2,stays b o2 e2⟩
 .obtain⟨m1,e1⟩:=ub.gu b ps q;obtain⟨m2,e2⟩:=un.gu b _ e1;exact⟨m1++m2,by rw[e2,aiW]⟩
 .exact GY b o (ub.keep b o q n hb (by simp)) (ub.free b o q n (by simp)) (kN b o q hb)
 .obtain⟨o',e1⟩:=ub.there b o q (by simp);exact bX b o' e1 (kN b o q hb)
 .cases q:s.heap.get? x with
  | none=>rfl
  | some u =>
   obtain⟨o',z⟩:=ub.there x u q (by simp);rw[hn] at z;cases z
theorem l6{x qual:Str}{st:aee}{f:acF}{fd:afs}{N ps:List Str}{k:Nat}{sp:Sp}(F:nV K x qual st f fd)(S:sr N ps (dY st))(len:∀ vs H Q E,sp vs H Q E->vs.length=ps.length)
 (ib:∀ (aY:acB) (A:aeb) (outer:List Env) (s:acI) (H:Hp) (vs:List V) (Q:VK) (E:XK),bG k (A.deeper (aen qual (dY st) s.heap.objs.size f aY))->sp vs H Q E ->
   ∃ t,aT (fB (dj P w) P w K mg base N qual (dY st) f aY A outer s H E) (iD st) t/\t { nx:=λ_ H'=>Q .non H',rt:=Q } (start N vs) H):dW P w K mg base (dj P w) (k+1) f fd ps sp:=by
 obtain⟨oc,od,kV,doc,pm,an,aY,ct,j6,rfl,lk,gb⟩:=F.ex;refine Gi lk gb S len λA outer s H vs Q E hr lX=>?_;exact ib aY A outer s H vs Q E hr lX
end
noncomputable abbrev Xp(X:Cx)(F:acB->acI->Prop)(pn:List (acF × Obj)):Cx:={ X with xe:=F,pn:=pn }
noncomputable abbrev Xh(X:Cx)(A':aeb)(pn:List (acF × Obj)):Cx:={ X with A:=A',calm:=false,xe:=λ_ _=>False,pn:=pn }
section
theorem Qs(ok:X.Ok):(Xp X F pn).Ok:=⟨ok.mod,ok.kind,ok.glob,ok.blt,ok.above,ok.inj,ok.has,ok.cab,ok.hd,ok.frames,ok.stk,ok.exf,ok.bs,ok.bsz,ok.noex,ok.exfs,ok.f6,ok.frf⟩
theorem GZ(ok:(Xp X F pn).Ok):X.Ok:=⟨ok.mod,ok.kind,ok.glob,ok.blt,ok.above,ok.inj,ok.has,ok.cab,ok.hd,ok.frames,ok.stk,ok.exf,ok.bs,ok.bsz,ok.noex,ok.exfs,ok.f6,ok.frf⟩
theorem Qt(ok:X.Ok)(hA:A'.frames=X.A.frames):(Xh X A' pn).Ok:=⟨ok.mod,ok.kind,ok.glob,ok.blt,ok.above,ok.inj,ok.has,ok.cab,(λz=>nomatch z),hA.trans ok.frames,ok.stk,ok.exf,ok.bs,ok.bsz,ok.noex,ok.exfs,ok.f6,ok.frf⟩
theorem Qu(I:Inv X pins σ H s):Inv (Xp X F (X.pn++pins)) [] σ H s:=⟨Qs I.ok,I.os,I.bare,I.base,I.loc,I.cell,I.free,I.f7,λp hp=>I.pin p (by simpa using hp),I.ay,I.len⟩
theorem wb(I:Inv (Xp X F (X.pn++pins)) [] σ H s):Inv X pins σ H s:=⟨GZ I.ok,I.os,I.bare,I.base,I.loc,I.cell,I.free,I.f7,λp hp=>I.pin p (by simpa using hp),I.ay,I.len⟩
theorem G0(I:Inv (Xp X F pn) rK σ H s)(hA:A'.frames=X.A.frames):Inv (Xh X A' pn) [] σ H s :=
 ⟨Qt (GZ I.ok) hA,I.os,I.bare,I.base,I.loc,I.cell,I.free,I.f7,λp hp=>I.pin p (by simp at hp;exact aes _ hp),I.ay,I.len⟩
theorem SP.Qv(h:SP (Xp X F (X.pn++pins)) [] D f s'):SP X pins D f s':=by
 cases f with
 | next=>obtain⟨σ',H',I,q⟩:=h;exact⟨σ',H',wb I,q⟩
 | brk=>obtain⟨σ',H',I,q⟩:=h;exact⟨σ',H',wb I,q⟩
 | cont=>obtain⟨σ',H',I,q⟩:=h;exact⟨σ',H',wb I,q⟩
 | ret u=>obtain⟨v,σ',H',I,r,q⟩:=h;exact⟨v,σ',H',wb I,r,q⟩
end
theorem Qw{K:acr}{C G:acF}{cd:ClassData}{b:Bool}(h1:ai4 K G=some cd)(h2:aha K (.ref G)=some (.type "type"))(h3:afV K (.ref C) (.ref G)=some b)(h4:afV K (.ref G) (.type "BaseException")=some true) :
 ahc K (.ref C) (.ref G)=some b:=by
 unfold ahc;rw[if_pos (by rw[h4];rfl)];show (if ((ai4 K G).isSome && aha K (.ref G) == some (.type "type"))=true then afV K (.ref C) (.ref G) else none)=some b;rw[if_pos (by rw[h1,h2];rfl)];exact h3
local macro_rules | `(tactic| walk_at "o") => `(tactic| ((try simp only [PySem.Addr] at *); lia))
inductive iG(X:Cx)(scope:air)(cl:List (Str × acF)):List Nat->List Str->Prop where
 | nil:iG X scope cl [] []
 | cons {j:Nat} {y:Str} {c:acF} {js:List Nat} {ys:List Str} (hN:X.N[j]?=some y) (hk:X.env.kindOf y=some .cell) (h1:cl.lookup y=some c) (h2:X.env.cells.lookup y=some c) (h:iG X scope cl js ys):iG X scope cl (j::js) (y::ys)
inductive j9(X:Cx):List (Str × acF)->Prop where
 | nil:j9 X []
 | cons {n:Str} {a:acF} {r:List (Str × acF)} (h:X.env.cells.lookup n=some a) (t:j9 X r):j9 X ((n,a)::r)
theorem j9.get:∀ {cl:List (Str × acF)},j9 X cl->∀ y c,cl.lookup y=some c->X.env.cells.lookup y=some c:=by
 intro _ h y c
 induction h with
 | nil=>intro e;cases e
 | @cons n _ _ h t ih =>
  intro e;rw[List.lookup_cons] at e;by_cases hy:(y == n)=true
  .rw[hy] at e;have e1:y=n:=by simpa using hy
   cases e;rw[e1];exact h
  .rw[ajp.mpr hy] at e;exact ih e
theorem iG.get{X:Cx}{scope:air}{cl:List (Str × acF)}{σ:L2.St}:∀ {js:List Nat} {ys:List Str},iG X scope cl js ys->∀ (i:Nat) (y:Str) (v:V),ys[i]?=some y->(js.map λj=>(σ[j]?).join)[i]?=some (some v) ->
 ∃ (j:Nat) (c:acF),X.N[j]?=some y/\σ[j]?=some (some v)/\X.env.kindOf y=some .cell/\cl.lookup y=some c/\X.env.cells.lookup y=some c:=by
 intro js ys h
 induction h with
 | nil=>intro i y v e;cases e
 | cons hN hk h1 h2 h ih =>
  rename_i j _ _ _ _;intro i y v e q;cases i with
  | zero =>
   cases e;refine⟨j,_,hN,?_,hk,h1,h2⟩;cases z:σ[j]? with
   | none=>rw[acN,z] at q;cases q
   | some o=>rw[acN,z] at q;cases q;rfl
  | succ i=>exact ih i y v e q
theorem iG.len:∀ {js:List Nat} {ys:List Str},iG X scope cl js ys->js.length=ys.length:=by
 intro _ _ h
 induction h with
 | nil=>rfl
 | cons _ _ _ _ _ ih=>exact congrArg (· + 1) ih
noncomputable def dk(X:Cx)(N':List Str)(scope:air)(cl:List (Str × acF))(C:acF)(s2:acI)(H2:Hp)(ex:List acF)(pn:List (acF × Obj)):Cx :=
 { X with N:=N',s₀:=s2,H₀:=H2,env:=akH scope cl C X.env,outer:=X.stack,ex:=ex,fn:=λ_=>false,pn:=pn,xe:=λ_ _=>False }
structure nZ(X:Cx)(x:Str)(scope:air)(cl:List (Str × acF))(fr:List Nat)(ys:List Str):Prop where
 clos:akz scope X.env=pure cl
 nocell:(scope.names.all λp=>p.2 != .cell)=true
 kind:scope.kind = .function
 names:(scope.names.all λp=>p.2 != .local || scope.names.lookup p.1 == some .local)=true
 own:scope.names.lookup x=some .local
 kinds:((relabel scope X.env).names.all λp=>(p.2 != .cell && p.2 != .free) || (cl.lookup p.1).isSome)=true
 cls:j9 X cl
 ba:iG X scope cl fr ys
 nd:(x::ys).Nodup
 kfr:(ys.all λy=>(relabel scope X.env).names.lookup y == some .cell)=true
def ke(X:Cx)(ifs:List agu)(t:TT):Prop :=
 ∀ (pins:List (acF × Obj)) (s:acI) (σ:L2.St) (H:Hp) (Q:Bool->Hp->Prop),Inv X pins σ H s->t σ H Q ->
  acQ (model X.prog X.w) X.A (forIn ifs true λc r=>if r=true then do let ok <- akT c X.env (eval c X.env);pure (agN ok) else pure (agN r)) (TP X pins σ Q) X.xe s
def zH:TT:=λ_ H Q=>Q true H
theorem dz:ke X [] zH:=λ_ _ _ H _ I h=>wpAny_tests_nil ⟨H,I,h⟩
theorem iH(hc:PT X c t):ke X [c] t:=λpins s σ H Q I h=>wpAny_tests_one (hc pins s σ H Q I h)
def l8(J:It)(ρ:L2.St)(tt:TT)(te:TE)(H:Hp)(Q:VK):Prop:=∃ W:Nat->Nat->List V->Hp->Prop,(∃ m,W 0 m [] H)/\∀ i m ys H,W i m ys H ->
 (J.stop i H/\ys.length<=acV/\∀ l,H l=none->Q (.ref l) (upd H l (.lst ys)))∨(J.go i H/\ys.length<acV/\∃ N:List V->Hp->Prop,(∀ zs H',N zs H'->∃ m',m'<m/\W (i+1) m' zs H') /\
  ∀ x H',J.yld i H x H'->tt (some x::ρ) H' λb H1=>if b=true then te (some x::ρ) H1 λy H2=>N (ys++[y]) H2 else N ys H1)
def zI(wi:TI)(fr:List Nat)(tt:TT)(te:TE):TE:=λσ H Q=>wi σ H λJ H1=>l8 J (fr.map λj=>(σ[j]?).join) tt te H1 Q
structure ju(X:Cx)(own:List Str)(scope:air)(cl:List (Str × acF))(fr:List Nat)(ys:List Str):Prop where
 clos:akz scope X.env=pure cl
 nocell:(scope.names.all λp=>p.2 != .cell)=true
 kind:scope.kind = .function
 names:(scope.names.all λp=>p.2 != .local || scope.names.lookup p.1 == some .local)=true
 kinds:((relabel scope X.env).names.all λp=>(p.2 != .cell && p.2 != .free) || (cl.lookup p.1).isSome)=true
 cls:j9 X cl
 ba:iG X scope cl fr ys
 kfr:(ys.all λy=>(relabel scope X.env).names.lookup y == some .cell)=true
def jv(k:Nat)(J:It)(g:TG)(ρ:L2.St)(tt:TT)(te:TE)(H:Hp)(Q:VK):Prop:=∃ W:Nat->Nat->List V->Hp->Prop,(∃ m,W 0 m [] H)/\∀ i m ys H,W i m ys H ->
 (J.stop i H/\ys.length<=acV/\∀ l,H l=none->Q (.ref l) (upd H l (.lst ys)))∨(J.go i H/\ys.length<acV/\∃ N:List V->Hp->Prop,(∀ zs H',N zs H'->∃ m',m'<m/\W (i+1) m' zs H') /\
  ∀ os:List (Option V),os.length=k->∀ x H',J.yld i H x H'->g x (os++ρ) H' λσ2 H2=>∃ pG,pG.length=k/\σ2=pG++ρ/\tt σ2 H2 λb H1=>if b=true then te σ2 H1 λy H2=>N (ys++[y]) H2 else N ys H1)
def zJ(k:Nat)(wi:TI)(g:TG)(fr:List Nat)(tt:TT)(te:TE):TE:=λσ H Q=>wi σ H λJ H1=>jv k J g (fr.map λj=>(σ[j]?).join) tt te H1 Q
theorem Qx(I:Nat->acI->Prop)(turn:∀ n s,I n s->acQ (model prog w) A (afj it) (λr s₁=>match r with
 | none=>R (.ok .next) s₁
 | some v=>acQ (model prog w) A (agJ target it v) (λ_ G2=>acQ (model prog w) A (assign target env v) (λ_ s₂ =>
  acQ (model prog w) A (forIn ifs true λc r=>if r=true then do let ok <- akT c env (eval c env);pure (agN ok) else pure (agN r)) (λok s₃ =>
   if ok=true then acQ (model prog w) A (eval elt env) (λx s₄ =>
    acQ (model prog w) A (call (.builtin "list.append") [acc,x]) (λ_ s₅=>∃ m,m<n/\I m s₅) (aj4 (model prog w) A env λe s'=>R (.error e) s') s₄) (aj4 (model prog w) A env λe s'=>R (.error e) s') s₃
   else ∃ m,m<n/\I m s₃) (aj4 (model prog w) A env λe s'=>R (.error e) s') s₂) (aj4 (model prog w) A env λe s'=>R (.error e) s') G2) (aj4 (model prog w) A env λe s'=>R (.error e) s') s₁) (aj4 (model prog w) A env λe s'=>R (.error e) s') s) (n:Nat) (h:I n s) :
 afH (model prog w) A (.compLoop (.ListComp elt [⟨target,iter,ifs,0⟩] scope pos) 0 it acc env) R s:=by
 refine codeAny_loop rfl I (λn s hI=>?_) n h;show acQ _ A ((compTurn (.ListComp elt [⟨target,iter,ifs,0⟩] scope pos) 0 it acc env).onRaise (λx=>do noteFrame x env;theTreesLotGoes x)) _ _ s;refine wpAny_noted ?_;rw[compTurn_list];refine acq (aiY (acq (adN (turn n s hI) (λr s₁ h₁=>?_) λ_ _ h'=>h')));cases r with
 | none=>exact acw h₁
 | some v =>
  refine acq (adN h₁ (λ_ G2 Qy=>?_) λ_ _ h'=>h');refine acq (adN Qy (λ_ s₂ h₂=>acq (adN h₂ (λok s₃ h₃=>?_) λ_ _ h'=>h')) λ_ _ h'=>h');cases ok with
  | false=>exact acw ⟨rfl,h₃⟩
  | true =>
   exact acq (acq (adN h₃ (λx s₄ h₄=>acq (adN h₄ (λ_ s₅ h₅=>acw (acw ⟨rfl,h₅⟩)) λ_ _ h'=>h')) λ_ _ h'=>h'))
theorem G3{l:List (Str × aip)}{p:Str × aip->Bool}(h:l.all p=true){y:Str}{k:aip}(e:l.lookup y=some k):p (y,k)=true:=by exact adA.mp h _ (aeA e)
def wc(i:Nat)(te:TE):TS:=λD σ H=>te σ H λv H1=>D.nx (σ.set i (some v)) H1
section
theorem Qz(S:ju X own scope cl fr ys)(I2:Inv X pins σ H2 s2)(f2:∀ b∈ex,eJ X pins H2 b)(hC:s2.heap.objs.size<=C)(hex:∀ b∈ex,b<s2.heap.objs.size):(dk X (own++ys) scope cl C s2 H2 ex pn).Ok:=by
 refine⟨I2.ok.mod,S.kind,I2.ok.glob,I2.ok.blt,hC,λa b c h1 h2=>?_,λy hy=>?_,λ_ _ z=>(nomatch z),I2.ok.hd,I2.ok.frames,.inl rfl,λb hb=>⟨?_,λy c e z=>?_⟩,I2.bs,acA I2.ok.bsz I2.sz,λb o e hb=>?_,λb hb z=>?_,I2.stack,I2.rH⟩
 .exact I2.ok.inj a b c (S.cls.get a c h1) (S.cls.get b c h2)
 .have QA:(relabel scope X.env).names.lookup y=some .cell∨(relabel scope X.env).names.lookup y=some .free:=hy;have q:(cl.lookup y).isSome=true:=by
   rcases QA with e|e
   .simpa using G3 S.kinds e
   .simpa using G3 S.kinds e
  exact afN.mp q
 .exact acO (acX (hex b hb) hC)
 .exact (f2 b hb).2.2.2.2.1 y c (S.cls.get y c e) z
 .obtain⟨_,_,_,d,_,_⟩:=f2 b hb;rcases d with d|d
  .exact I2.ok.noex b o e d
  .exact absurd (acX (acy e) (acA I2.ok.bsz d)) (ad4 _)
 .obtain⟨_,d1,d2,_⟩:=f2 b hb;rcases acL.mp (I2.pq b z) with q|q
  .exact d1 q
  .exact d2 q
noncomputable def jw(X:Cx)(N':List Str)(fn:Str->Bool)(scope:air)(cl:List (Str × acF))(C:acF)(s2:acI)(H2:Hp)(ex:List acF)(pn:List (acF × Obj)):Cx :=
 { X with N:=N',s₀:=s2,H₀:=H2,env:=akH scope cl C X.env,outer:=X.stack,ex:=ex,fn:=fn,pn:=pn,xe:=λ_ _=>False }
theorem G4{C D:acF}{fp:List acF}(I2:Inv X pins σ H2 s2)(f2:∀ b∈fp,eJ X pins H2 b)(hC:s2.heap.objs.size<=C)(hD:s2.heap.objs.size<=D):∀ p∈X.pn++pins,p.1≠C/\p.1≠D/\p.1∉ba X.stack/\∀ b∈fp,p.1≠b:=λp hp=>by
 obtain⟨e,n,nL,nf,_⟩:=I2.pin p hp;have lt:=acy e;refine⟨by walk_at "o",by walk_at "o",λz=>?_,λb hb=>(f2 b hb).2.2.2.2.2 p hp⟩;rcases acL.mp (I2.pq _ z) with q|q
 .exact nL q
 .exact nf q
theorem QC{J:It}{fp:List acF}{it C D:acF}{tn:Nat->aeV->Prop}{Q:VK}{RR:acB->acF->ajB->acI->Prop}{nm:List Str}{fn:Str->Bool}{k:Nat}{zK ρ:List (Option V)}{h1:aeV}{tk:Nat}
 (hc:X.calm=true) (hg:PG (jw X nm fn scope cl C s2 H2 fp (X.pn++pins)) tg g) (hb:ke (jw X nm fn scope cl C s2 H2 fp (X.pn++pins)) ifs tt/\PE (jw X nm fn scope cl C s2 H2 fp (X.pn++pins)) elt te)
 (I2:Inv X pins σ H2 s2) (T:Turn X.prog X.w X.K tg J fp it tn) (hJ:tn 0 s2.heap) (f2:∀ b∈fp,eJ X pins H2 b)
 (h:jv k J g ρ tt te H2 Q)
 (zL:∀ D C s' H',Inv X pins σ H' s'->(∃ m,s'.heap.Ns C m)->eJ X pins H' C->Q (.ref D) H'->RR (.ref D) C (.ok .next) s')
 (sJ:zK.length=k) (I4:Inv (jw X nm fn scope cl C s2 H2 fp (X.pn++pins)) [] (zK++ρ) H2 { s2 with heap:=h1,toks:=tk }) (keep:∀ b o,s2.heap.get? b=some o->h1.get? b=some o)
 (hD:h1.get? D=some { cls:=.type "list",data:=.seq ([]:List acB).toArray 0 }) (eD:s2.heap.objs.size=D) (eC:s2.heap.objs.size+1=C)
 (bq:∀ y c,cl.lookup y=some c->c≠D/\∀ b∈fp,c≠b) :
 afH (model X.prog X.w) X.A (.compStart (.ListComp elt [⟨tg,iter,ifs,0⟩] scope pos) 0 (.ref it) (.ref D) (akH scope cl C X.env)) (RR (.ref D) C) { s2 with heap:=h1,toks:=tk }:=by
 obtain⟨W,⟨m0,w0⟩,turn⟩:=h;have n0:D≠C:=by walk_at "o"
 have pQ:s2.heap.objs.size<=C:=by walk_at "o"
 have sL:s2.heap.objs.size<=D:=by walk_at "o"
 have n4:∀ b∈fp,b<D:=λb hb=>by obtain⟨o,e,_⟩:=T.obj 0 _ hJ b hb;exact eD ▸ acy e
 have QD:∀ b,D<=b->b∉ba X.stack:=λb hle z=>by
  rcases acL.mp (I2.pq b z) with q|q
  .have:=I2.lt;walk_at "o"
  .exact I2.Fl (eD ▸ hle) q
 have zM:=G4 I2 f2 pQ sL;have G5:tn 0 h1:=T.keep 0 _ _ hJ λb _ o e=>keep b o e;have zN:∀ (H':Hp) (o:Obj),(∀ b∈fp,H' b=none)->∀ b∈fp,eJ (jw X nm fn scope cl C s2 H2 fp (X.pn++pins)) [(D,o)] H' b:=λH' o hn b hb=>by
  obtain⟨_,d1,d2,d3,d4,d5⟩:=f2 b hb;have lt:=n4 b hb;refine⟨hn b hb,?_,λz=>?_,.inl hb,λy c e z=>(bq y c e).2 b hb z,λp hp=>?_⟩
  .show b≠C;walk_at "o"
  .rcases acL.mp (I2.pq b z) with q|q
   .exact d1 q
   .exact d2 q
  .have dZ:p∈(X.pn++pins)++[(D,o)]:=hp;rcases ac4.mp dZ with z|z
   .exact d5 p z
   .have:p=(D,o):=by simpa using z
    subst this;show D≠b;walk_at "o"
 have loop:∀ s':acI,s' = { s2 with heap:=h1,toks:=tk } ->
  afH (model X.prog X.w) X.A (.compLoop (.ListComp elt [⟨tg,iter,ifs,0⟩] scope pos) 0 (.ref it) (.ref D) (akH scope cl C X.env)) (RR (.ref D) C) s':=by
  rintro s' rfl;refine Qx (λn s'=>∃ i zs H' os ao nn,os.length=k/\Inv (jw X nm fn scope cl C s2 H2 fp (X.pn++pins)) [] (os++ρ) H' s'/\tn i s'.heap/\(∀ b∈fp,H' b=none)/\H' D=none /\
   s'.heap.get? D=some { cls:=.type "list",data:=.seq (ao:List acB).toArray nn }/\Vals zs ao/\W i n zs H') ?_ m0 ⟨0,[],H2,zK,[],0,sJ,I4,G5,λb hb=>(f2 b hb).1,I2.ay.fresh sL,hD,.nil,w0⟩
  rintro n s3 ⟨i,zs,H3,G6,ao,nn,QE,I3,rW,rX,zO,QF,r3,w3⟩;have G7:Inv (jw X nm fn scope cl C s2 H2 fp (X.pn++pins)) [(D,{ cls:=.type "list",data:=.seq ao.toArray nn })] (G6++ρ) H3 s3:=I3.rJ λp hp=>by
   have:p=(D,{ cls:=.type "list",data:=.seq ao.toArray nn }):=by simpa using hp
   subst this;exact⟨QF,zO,n0,QD D (acC _),λv z=>nomatch z⟩
  rcases turn i n zs H3 w3 with ⟨stop,hlen,q⟩|⟨go,hlen,N,G8,step⟩
  .refine adN (T.done (jw X nm fn scope cl C s2 H2 fp (X.pn++pins)) rfl rfl rfl hc i _ s3 _ H3 (λ_ _=>False) G7 (zN H3 _ rX) rW stop) (λr s4 zq=>?_) λ_ _ z=>z.elim;obtain⟨hr,J4⟩:=zq;subst hr;have un:=J4.base;have QG:∀ b o,s2.heap.get? b=some o->b≠D:=λb o e=>by have:=acy e;walk_at "o"
   have kX:∀ b u,H3 b=some u->b≠D:=λb u e z=>by rw[z,zO] at e;cases e
   refine zL D C s4 (upd H3 D (.lst zs)) ?_ ?_ ?_ (q D zO)
   .refine I2.yP (ch:=fp) J4.os ⟨un.keep,un.slot,λb o e nn hx=>?_,un.there,λb xs e=>?_,λb o u e=>?_,λb ps e=>?_⟩ (λa o e=>?_) J4.bare λb hb=>?_
    .rw[aD (QG b o e)];exact un.free b o e nn hx
    .have:=un.gq b xs e;rw[aD (kX b _ this)];exact this
    .have:=un.fN b o u e;rw[aD (kX b _ this)];exact this
    .obtain⟨more,this⟩:=un.gu b ps e;exact⟨more,by rw[aD (kX b _ this)];exact this⟩
    .by_cases ha:a=D
     .subst ha;rw[aq] at e;cases e;exact⟨hlen,ao,nn,r3,(J4.pin (a,_) (ac7 _ (ac9.mpr rfl))).1⟩
     .rw[aD ha] at e;exact (J4.ay a o e).stay (λ_ _ _ z=>z) (λb z=>by rw[aD (kX b _ z)];exact z) λb xs z=>by rw[aD (kX b _ z)];exact z
    .obtain⟨_,d1,d2,d3,d4,d5⟩:=f2 b hb;exact⟨d3,d1,d4,d5⟩
   .obtain⟨m,hm,_⟩:=J4.loc;exact⟨m,hm⟩
   .exact I2.iy pQ (by rw[aD (ady n0)];exact J4.free)
  .refine adN (T.item (jw X nm fn scope cl C s2 H2 fp (X.pn++pins)) rfl rfl rfl hc i _ s3 _ H3 (λ_ _=>False) G7 (zN H3 _ rX) rW go) (λr s4 zq=>?_) λ_ _ z=>z.elim;obtain⟨u,hr,h4⟩:=zq;subst hr;refine adN h4 (λ_ s5 zq=>?_) λ_ _ z=>z.elim;obtain⟨y5,H5,I5,r5,yl,nM,y0⟩:=zq;have y9:=I5.pinned (zN H5 _ y0) (T.obj _ _ nM);refine adN (hg _ s5 _ H5 y5 u _ y9 r5 (step G6 QE y5 H5 yl)) (λ_ s6 zq=>?_) λ_ _ z=>z.elim;obtain⟨σ6,H6,I6,wg,G9,e6,q6⟩:=zq;subst e6;have after:∀ (s7:acI) (H7:Hp),Inv (jw X nm fn scope cl C s2 H2 fp (X.pn++pins)) ([(D,{ cls:=.type "list",data:=.seq ao.toArray nn })]++rV fp s5.heap) (wg++ρ) H7 s7 ->
    Inv (jw X nm fn scope cl C s2 H2 fp (X.pn++pins)) [] (wg++ρ) H7 s7/\tn (i+1) s7.heap/\(∀ b∈fp,H7 b=none)/\H7 D=none/\s7.heap.get? D=some { cls:=.type "list",data:=.seq ao.toArray nn }:=λs7 H7 I7=>by
    have pD:=I7.pin (D,{ cls:=.type "list",data:=.seq ao.toArray nn }) (ac7 _ (aes _ (ac9.mpr rfl)));refine⟨I7.rJ λp hp=>absurd hp (by simp),T.keep _ _ _ nM λb hb o e=>(I7.pin (b,o) (ac7 _ (ac7 _ (vN hb e)))).1,λb hb=>?_,pD.2.1,pD.1⟩;obtain⟨o,e,_⟩:=T.obj _ _ nM b hb;exact (I7.pin (b,o) (ac7 _ (ac7 _ (vN hb e)))).2.1
   refine adN (hb.1 _ s6 _ H6 _ I6 q6) (λok s7 zq=>?_) λ_ _ z=>z.elim;obtain⟨H7,I7,q7⟩:=zq
   try dsimp only at q7
   by_cases ay:ok=true
   .rw[if_pos ay] at q7 ⊢;refine adN (hb.2 _ s7 _ H7 _ I7 q7) (λyv s8 zq=>?_) λ_ _ z=>z.elim;obtain⟨y8,H8,I8,r8,n8⟩:=zq;obtain⟨m',zP,w8⟩:=G8 _ _ n8;obtain⟨J8,QH,QJ,Ha,zQ⟩:=after s8 H8 I8;have hl:=r3.length;refine ajn ai3 ⟨_,zQ,rfl⟩ aiK (ait _ _) (ajo D ao.toArray nn yv (by rw[acK];walk_at "o")) ⟨zQ,?_⟩;have Hb:=PySem.IsL.update zQ (λa=>a.push yv);rw[List.push_toArray] at Hb;refine⟨m',zP,i+1,zs++[y8],H8,wg,ao++[yv],_,G9,J8.turned (it:=D) (λb o b7 e=>(acS _ _ (ady b7)).trans e) Ha n0 (.inr sL) (λy c e z=>?_) (λp hp=>?_),T.keep _ _ _ QH λb b7 o e=>?_,QJ,Ha,Hb,r3.append (.cons r8 .nil),w8⟩
    .exact (bq y c e).1 z
    .have dZ:p∈X.pn++pins:=by have:p∈(X.pn++pins)++[]:=hp;simpa using this
     exact (zM p dZ).2.1
    .have:=n4 b b7;exact (acS _ _ (by walk_at "o")).trans e
   .rw[if_neg ay] at q7 ⊢;obtain⟨m',zP,w7⟩:=G8 _ _ q7;obtain⟨J7,QK,QL,QM,QN⟩:=after s7 H7 I7;exact⟨m',zP,i+1,zs,H7,wg,ao,nn,G9,J7,QK,QL,QM,QN,r3,w7⟩
 exact codeAny_compStart_list (loop _ rfl) (T.self X.A 0 _ _ _ G5 (loop _ rfl))
theorem Hc{J:It}{fp:List acF}{it:acF}{tn:Nat->aeV->Prop}{E:acB->acI->Prop}{Q:VK}{RR:acB->acF->ajB->acI->Prop}
 (S:ju X own scope cl fr ys) (hc:X.calm=true) (hg:∀ (C:acF) (s:acI) (H:Hp) (ex:List acF) (pn:List (acF × Obj)),PG (dk X (own++ys) scope cl C s H ex pn) tg g)
 (hb:∀ (C:acF) (s:acI) (H:Hp) (ex:List acF) (pn:List (acF × Obj)),ke (dk X (own++ys) scope cl C s H ex pn) ifs tt/\PE (dk X (own++ys) scope cl C s H ex pn) elt te)
 (I2:Inv X pins σ H2 s2) (T:Turn X.prog X.w X.K tg J fp it tn) (hJ:tn 0 s2.heap) (f2:∀ b∈fp,eJ X pins H2 b)
 (h:jv own.length J g (fr.map λj=>(σ[j]?).join) tt te H2 Q)
 (zL:∀ D C s' H',Inv X pins σ H' s'->(∃ m,s'.heap.Ns C m)->eJ X pins H' C->Q (.ref D) H'->RR (.ref D) C (.ok .next) s') :
 acQ (model X.prog X.w) X.A (ala []) (λacc s3=>acQ (model X.prog X.w) X.A (newFunctionEnv scope X.env.globals cl [] X.env.qual none .none (some X.env)) (λHd s4 =>
  afH (model X.prog X.w) X.A (.compStart (.ListComp elt [⟨tg,iter,ifs,0⟩] scope pos) 0 (.ref it) acc { Hd with scope:=relabel scope X.env }) (RR acc Hd.locals) s4) E s3) E s2:=by
 refine adP (wpAny_newFunctionEnv (λy hy=>by simpa using adA.mp S.nocell y hy) (λy hy=>absurd hy (by simp)) (λh1 nU kf=>?_) S.kind);dsimp only at nU kf ⊢;generalize eP:s2.heap.push { cls:=.type "list",dict:=none,data:=.seq ([]:List acB).toArray }=P2 at nU kf ⊢;have sz:P2.objs.size=s2.heap.objs.size+1:=by rw[<- eP,afc]
 have n0:s2.heap.objs.size≠P2.objs.size:=by walk_at "o"
 have keep:∀ b o,s2.heap.get? b=some o->h1.get? b=some o:=λb o e=>by have lt:=acy e;exact kf.extBut b o (by walk_at "o") (acx _ (eP ▸ acx _ e))
 have hD:h1.get? s2.heap.objs.size=some { cls:=.type "list",data:=.seq ([]:List acB).toArray 0 } :=
  kf.extBut _ _ n0 (acx _ (eP ▸ acG _ rfl))
 generalize eC:P2.objs.size=C at nU kf n0 ⊢;generalize eD:s2.heap.objs.size=D at n0 hD;have pQ:s2.heap.objs.size<=C:=by walk_at "o"
 have sL:s2.heap.objs.size<=D:=by walk_at "o"
 have n4:∀ b∈fp,b<s2.heap.objs.size:=λb hb=>by obtain⟨o,e,_⟩:=T.obj 0 _ hJ b hb;exact acy e
 have QO:(dk X (own++ys) scope cl C s2 H2 fp (X.pn++pins)).Ok:=Qz S I2 f2 pQ (λb hb=>by have:=n4 b hb;walk_at "o");have zM:=G4 I2 f2 pQ sL;have I4:Inv (dk X (own++ys) scope cl C s2 H2 fp (X.pn++pins)) [] ((own.map λ_=>none)++fr.map λj=>(σ[j]?).join) H2 { s2 with heap:=h1,toks:=s2.toks+([]:List (Str × acB)).length }:=by
  refine⟨QO,rfl,I2.bare,Un.kept keep,⟨_,nU,λi y v e1 e2 e3=>?_⟩,λy c e=>?_,I2.ay.fresh pQ,λy c e=>I2.f7 y c (S.cls.get y c e),λp hp=>?_,I2.ay.kept keep,?_⟩
  .by_cases hio:i<own.length
   .rw[adO (by simpa using hio)] at e2;simp[hio] at e2
   .rw[adL (by simp;lia)] at e2;have wj:ys[i-own.length]?=some y:=by
     have:(own++ys)[i]?=some y:=e1
     rwa [adL (by lia)] at this
    rw[acs] at e2;obtain⟨j,c,hN,hσ,hk,wk,lY⟩:=S.ba.get (i-own.length) y v wj e2;obtain⟨m,hm,hl⟩:=I2.loc;obtain⟨u,ru,lu⟩:=hl j y v hN hσ (.inr (.inl hk));refine⟨u,ru,.inr ⟨.inl ?_,c,wk,?_⟩⟩
    .have z:=adA.mp S.kfr y (acM wj);exact (by simpa using z:(relabel scope X.env).names.lookup y=some .cell)
    .rcases lu with ⟨z,_⟩|⟨_,c',e',q'⟩
     .rw[hk] at z;cases z
     .rw[lY] at e';cases e';obtain⟨o,ho,hd⟩:=q';exact⟨o,keep _ _ ho,hd⟩
  .obtain⟨v,o,ho,hd⟩:=I2.cell y c (S.cls.get y c e);exact⟨v,o,keep _ _ ho,hd⟩
  .have dZ:p∈X.pn++pins:=by have:p∈(X.pn++pins)++[]:=hp;simpa using this
   obtain⟨e,n,_,_,d⟩:=I2.pin p dZ;obtain⟨p1,_,p3,_⟩:=zM p dZ;exact⟨keep _ _ e,n,p1,p3,d⟩
  .show ((own.map λ_=>(none:Option V))++fr.map λj=>(σ[j]?).join).length=(own++ys).length;simp[S.ba.len]
 refine QC hc (hg C s2 H2 fp (X.pn++pins)) (hb C s2 H2 fp (X.pn++pins)) I2 T hJ f2 h zL (by simp) I4 keep hD eD (sz.symm.trans eC) λy c e=>?_;obtain⟨v,o,ho,_⟩:=I2.cell y c (S.cls.get y c e);have:=acy ho;exact⟨by walk_at "o",λb hb z=>(f2 b hb).2.2.2.2.1 y c (S.cls.get y c e) z⟩
theorem He{wi:TI}{B:L2.St->It->Hp->VK->Prop}(S:ju X own scope cl fr ys)(hc:X.calm=true)(hi:PI X tg iter wi)(hg:∀ (C:acF) (s:acI) (H:Hp) (ex:List acF) (pn:List (acF × Obj)),PG (dk X (own++ys) scope cl C s H ex pn) tg g)
 (hb:∀ (C:acF) (s:acI) (H:Hp) (ex:List acF) (pn:List (acF × Obj)),ke (dk X (own++ys) scope cl C s H ex pn) ifs tt/\PE (dk X (own++ys) scope cl C s H ex pn) elt te)
 (hB:∀ ρ J H Q,B ρ J H Q->jv own.length J g ρ tt te H Q) (hs:∀ z,aew iter X.env z=pure z:=by intro _;rfl):PE X (.ListComp elt [⟨tg,iter,ifs,0⟩] scope pos) (λσ H Q=>wi σ H λJ H1=>B (fr.map λj=>(σ[j]?).join) J H1 Q):=by
 intro pins s σ H Q I h;rw[eval_ListComp];refine ahp (use:=none) rfl hs S.clos S.kind (λy hy hl=>?_) (aB (hi pins s σ H _ I h) λxv s1 h1=>aB h1 λvM s2 h2=>?_)
 .have z:=adA.mp S.names y hy;rw[hl] at z;simpa using z
 .obtain⟨it,fp,tn,J,H2,rfl,I2,T,hJ,f2,gy⟩:=h2;refine Hc (RR:=λacc C=>compPost (model X.prog X.w) X.A X.xe none (EP X pins σ Q) acc C) S hc hg hb I2 T hJ f2 (hB _ _ _ _ gy) λD C s' H' J' hn fC q=>?_;obtain⟨m,hm⟩:=hn;obtain⟨c0,c1,c2,c3,c4,c5⟩:=fC;exact⟨m,hm,λh' sb=>⟨.ref D,H',J'.turned (it:=C) (λb o hb e=>sb.extBut b o hb e) c0 c1 c3 c4 c5,rfl,q⟩⟩
theorem Hf{wi:TI}{B:L2.St->It->Hp->VK->Prop}{y:Str}{py pR:Pos}{i:Nat}(S:ju X own scope cl fr ys)(hc:X.calm=true)(hN:X.N.Nodup)(hy:X.N[i]?=some y)(hl:X.env.scope.names.lookup y=some .local)(hi:PI X tg iter wi)(hg:∀ (C:acF) (s:acI) (H:Hp) (ex:List acF) (pn:List (acF × Obj)),PG (dk X (own++ys) scope cl C s H ex pn) tg g)
 (hb:∀ (C:acF) (s:acI) (H:Hp) (ex:List acF) (pn:List (acF × Obj)),ke (dk X (own++ys) scope cl C s H ex pn) ifs tt/\PE (dk X (own++ys) scope cl C s H ex pn) elt te)
 (hB:∀ ρ J H Q,B ρ J H Q->jv own.length J g ρ tt te H Q) (sM:agm (.ListComp elt [⟨tg,iter,ifs,0⟩] scope pos) (some (.Name y py)) pR.line X.env=pure true:=by rfl)
 (hs:∀ z,aew iter X.env z=pure z:=by intro _;rfl):PS X (.Assign [.Name y py] (.ListComp elt [⟨tg,iter,ifs,0⟩] scope pos) pR) (wc i λσ H Q=>wi σ H λJ H1=>B (fr.map λj=>(σ[j]?).join) J H1 Q):=by
 intro pins s σ H Dn I h;rw[exec_Assign_Name_used _ _ _ _ sM];refine acq (aiY (acq ?_));show acQ _ X.A (do let _ <- comprehension (.ListComp elt [⟨tg,iter,ifs,0⟩] scope pos) scope X.env _ (ala []) false (eval iter X.env) (some (assign (.Name y py) X.env))) _ _ s;refine acq (aB (ahp (use:=some (assign (.Name y py) X.env)) (Q:=λ_ s'=>SP X pins Dn .next s') rfl hs S.clos S.kind (λz hz hl=>?_) (aB (hi pins s σ H _ I h) λxv s1 h1=>aB h1 λvM s2 h2=>?_)) λ_ s' hq=>acw (acw hq))
 .have z':=adA.mp S.names z hz;rw[hl] at z';simpa using z'
 .obtain⟨it,fp,tn,J,H2,rfl,I2,T,hJ,f2,gy⟩:=h2;refine Hc (RR:=λacc C=>compPost (model X.prog X.w) X.A X.xe (some (assign (.Name y py) X.env)) (λ_ s'=>SP X pins Dn .next s') acc C) S hc hg hb I2 T hJ f2 (hB _ _ _ _ gy) λD C s' H' J' hn fC q=>?_;obtain⟨m,oC,es,ep,ho,hd,hr⟩:=hn;obtain⟨c0,c1,c2,c3,c4,c5⟩:=fC;have J2:Inv X (pins++[(C,oC)]) σ H' s':=J'.rJ λp hp=>by
   rcases ac4.mp hp with z|z
   .exact J'.pin p (ac7 _ z)
   .have:p=(C,oC):=by simpa using z
    subst this;exact⟨ho,c0,c1,c2,λv z=>by rw[hd] at z;cases z⟩
  show acQ _ X.A (assign (.Name y py) X.env (.ref D)) _ _ _;refine aB (gd (X:=X) hN hy (.inl hl) (.inr hl) _ s' σ H' (.ref D) (.ref D) (λσ' jx=>σ'=σ.set i (some (.ref D))/\jx=H') J2 rfl ⟨rfl,rfl⟩) λ_ s3 zq=>?_;obtain⟨σ3,H3,J3,e1,e2⟩:=zq;subst e1 e2;obtain⟨pc,pn0,_⟩:=J3.pin (C,oC) (ac7 _ (ac7 _ (ac9.mpr rfl)));refine⟨m,⟨oC,es,ep,pc,hd,hr⟩,λh' sb=>⟨_,H3,J3.vO.turned (it:=C) (λb o hb e=>sb.extBut b o hb e) c0 c1 c3 c4 c5,q⟩⟩
theorem zR(S:ju X own scope cl fr ys)(hc:X.calm=true)(hi:PI X tg iter wi)(hg:∀ (C:acF) (s:acI) (H:Hp) (ex:List acF) (pn:List (acF × Obj)),PG (dk X (own++ys) scope cl C s H ex pn) tg g)(hb:∀ (C:acF) (s:acI) (H:Hp) (ex:List acF) (pn:List (acF × Obj)),ke (dk X (own++ys) scope cl C s H ex pn) ifs tt/\PE (dk X (own++ys) scope cl C s H ex pn) elt te)(hs:∀ z,aew iter X.env z=pure z:=by intro _;rfl):PE X (.ListComp elt [⟨tg,iter,ifs,0⟩] scope pos) (zJ own.length wi g fr tt te):=He (B:=λρ J H Q=>jv own.length J g ρ tt te H Q) S hc hi hg hb (λ_ _ _ _ h=>h) hs
theorem QP(S:ju X own scope cl fr ys)(hc:X.calm=true)(hN:X.N.Nodup)(hy:X.N[i]?=some y)(hl:X.env.scope.names.lookup y=some .local)(hi:PI X tg iter wi)(hg:∀ (C:acF) (s:acI) (H:Hp) (ex:List acF) (pn:List (acF × Obj)),PG (dk X (own++ys) scope cl C s H ex pn) tg g)(hb:∀ (C:acF) (s:acI) (H:Hp) (ex:List acF) (pn:List (acF × Obj)),ke (dk X (own++ys) scope cl C s H ex pn) ifs tt/\PE (dk X (own++ys) scope cl C s H ex pn) elt te)(sM:agm (.ListComp elt [⟨tg,iter,ifs,0⟩] scope pos) (some (.Name y py)) pR.line X.env=pure true:=by rfl)(hs:∀ z,aew iter X.env z=pure z:=by intro _;rfl):PS X (.Assign [.Name y py] (.ListComp elt [⟨tg,iter,ifs,0⟩] scope pos) pR) (wc i (zJ own.length wi g fr tt te)):=Hf (B:=λρ J H Q=>jv own.length J g ρ tt te H Q) S hc hN hy hl hi hg hb (λ_ _ _ _ h=>h) sM hs
end
theorem Hg(h:l8 J ρ tt te H Q):jv 1 J (b5 0) ρ tt te H Q:=by
 obtain⟨W,w0,turn⟩:=h;refine⟨W,w0,λi m ys H hw=>(turn i m ys H hw).imp id λ⟨a,b,N,hN,st⟩=>⟨a,b,N,hN,λos ho x H' y=>?_⟩⟩
 match os,ho with
 | [_],_=>exact⟨[some x],rfl,rfl,st x H' y⟩
section
theorem nZ.g(S:nZ X x scope cl fr ys):ju X [x] scope cl fr ys:=⟨S.clos,S.nocell,S.kind,S.names,S.kinds,S.cls,S.ba,S.kfr⟩
theorem nZ.pg(S:nZ X x scope cl fr ys)(C:acF)(s:acI)(H:Hp)(ex:List acF)(pn:List (acF × Obj)):PG (dk X ([x]++ys) scope cl C s H ex pn) (.Name x px) (b5 0) :=
 gd (X:=dk X (x::ys) scope cl C s H ex pn) (i:=0) S.nd rfl (.inl (acR S.own)) (.inr (acR S.own))
theorem dm(S:nZ X x scope cl fr ys)(hc:X.calm=true)(hi:PI X (.Name x px) iter wi)(hb:∀ (C:acF) (s:acI) (H:Hp) (ex:List acF) (pn:List (acF × Obj)),ke (dk X (x::ys) scope cl C s H ex pn) ifs tt/\PE (dk X (x::ys) scope cl C s H ex pn) elt te)(hs:∀ z,aew iter X.env z=pure z:=by intro _;rfl):PE X (.ListComp elt [⟨.Name x px,iter,ifs,0⟩] scope pos) (zI wi fr tt te):=He (B:=λρ J H Q=>l8 J ρ tt te H Q) S.g hc hi S.pg hb (λ_ _ _ _ h=>Hg h) hs
theorem n5(S:nZ X x scope cl fr ys)(hc:X.calm=true)(hN:X.N.Nodup)(hy:X.N[i]?=some y)(hl:X.env.scope.names.lookup y=some .local)(hi:PI X (.Name x px) iter wi)(hb:∀ (C:acF) (s:acI) (H:Hp) (ex:List acF) (pn:List (acF × Obj)),ke (dk X (x::ys) scope cl C s H ex pn) ifs tt/\PE (dk X (x::ys) scope cl C s H ex pn) elt te)(sM:agm (.ListComp elt [⟨.Name x px,iter,ifs,0⟩] scope pos) (some (.Name y py)) pR.line X.env=pure true:=by rfl)(hs:∀ z,aew iter X.env z=pure z:=by intro _;rfl):PS X (.Assign [.Name y py] (.ListComp elt [⟨.Name x px,iter,ifs,0⟩] scope pos) pR) (wc i (zI wi fr tt te)):=Hf (B:=λρ J H Q=>l8 J ρ tt te H Q) S.g hc hN hy hl hi S.pg hb (λ_ _ _ _ h=>Hg h) sM hs
end
def eT(Ok:Hp->Prop)(ρ:L2.St)(tt:TT)(te:TE):List V->List V->Hp->(List V->Hp->Prop)->Prop
 | [],ys,H,Q=>Ok H/\Q ys H
 | x::r,ys,H,Q=>Ok H/\tt (some x::ρ) H λb H1=>if b=true then te (some x::ρ) H1 λy H2=>eT Ok ρ tt te r (ys++[y]) H2 Q else eT Ok ρ tt te r ys H1 Q
structure sN(J:It)(Ok:Hp->Prop)(xs:List V):Prop where
 go:∀ i H x,Ok H->xs[i]?=some x->J.go i H
 yld:∀ i H x H',Ok H->J.yld i H x H'->H'=H/\(i<xs.length->xs[i]?=some x)
 stop:∀ i H,Ok H->xs.length<=i->J.stop i H
section
variable{J:It}{Ok:Hp->Prop}{xs:List V}{ρ:L2.St}{tt:TT}{te:TE}{H:Hp}{Q:VK}{K:acr}{a:acF}
theorem cN(O:sN J Ok xs)(hn:xs.length<=acV)(h:eT Ok ρ tt te xs [] H λys H'=>∀ l,H' l=none->Q (.ref l) (upd H' l (.lst ys))):l8 J ρ tt te H Q:=by
 refine⟨λi m ys H=>m=xs.length-i/\i<=xs.length/\ys.length<=i/\eT Ok ρ tt te (xs.drop i) ys H λys H'=>∀ l,H' l=none->Q (.ref l) (upd H' l (.lst ys)),⟨_,rfl,ac5 _,acC _,h⟩,?_⟩;rintro i m ys H ⟨rfl,hi,hy,g⟩;by_cases bb:i<xs.length
 .have e:=adQ bb;rw[e] at g;obtain⟨g0,g1⟩:=g;refine .inr ⟨O.go i H _ g0 (acv bb),by walk_at "o",λzs H'=>zs.length<=i+1/\eT Ok ρ tt te (xs.drop (i+1)) zs H' λys H'=>∀ l,H' l=none->Q (.ref l) (upd H' l (.lst ys)),λzs H' q=>⟨_,by walk_at "o",rfl,bb,q.1,q.2⟩,λx H' y=>?_⟩;obtain⟨rfl,ex⟩:=O.yld i H x H' g0 y;have ex:=ex bb;rw[acv bb] at ex;cases ex;have l1:∀ y:V,(ys++[y]).length<=i+1:=λy=>by rw[ac1,ac8];walk_at "o"
  have l2:ys.length<=i+1:=by walk_at "o"
  simp only[l1,l2,true_and];exact g1
 .have e:i=xs.length:=by walk_at "o"
  subst e;rw[ajL] at g;exact .inl ⟨O.stop _ H g.1 (acC _),by walk_at "o",g.2⟩
theorem iI:sN (jn K a) (λH=>ai K H a xs) xs :=
 ⟨λ_ _ _ h e=>⟨xs,_,h,e⟩,λ_ _ _ _ h y=>⟨y.1,λ_=>y.2 xs h⟩,λ_ _ h hi=>⟨xs,h,hi⟩⟩
theorem Hh:sN (rS K a) (λH=>ak K H a xs) xs :=
 ⟨λ_ _ _ h e=>⟨xs,_,h,e⟩,λ_ _ _ _ h y=>⟨y.1,λ_=>y.2 xs h⟩,λ_ _ h hi=>⟨xs,h,hi⟩⟩
theorem iJ{lo:Int}{n:Nat}:sN (iz lo n) (λ_=>True) ((acD n).map λk=>V.int (lo+(k:Nat))) :=
 ⟨λi _ _ _ e=>by
  have:=(acz.mp e).1;show i<n;simpa using this,λi _ _ _ _ y=>⟨y.1,λhi=>by
   have cW:i<n:=by simpa using hi
   rw[y.2,acJ,adw cW];rfl⟩,λi _ _ hi=>by
   show n<=i;simpa using hi⟩
theorem wm(cv:Ok H):∀ {xs ys:List V},(∀ x∈xs,∀ Q,Q (p x) H->tt (some x::ρ) H Q)->(∀ x∈xs,p x=true->∀ Q,Q (f x) H->te (some x::ρ) H Q)->Q' (ys++(xs.filter p).map f) H->eT Ok ρ tt te xs ys H Q'
 | [],ys,_,_,q=>⟨cv,by simpa using q⟩
 | x::r,ys,ht,he,q=>by
  refine⟨cv,ht x (.head _) _ ?_⟩;by_cases hb:p x=true
  .rw[if_pos hb];refine he x (.head _) hb _ (wm cv (λy hy=>ht y (.tail _ hy)) (λy hy=>he y (.tail _ hy)) ?_);rw[adk,if_pos hb] at q;simpa using q
  .rw[if_neg hb];refine wm cv (λy hy=>ht y (.tail _ hy)) (λy hy=>he y (.tail _ hy)) ?_;rw[adk,if_neg hb] at q;exact q
end
section
variable{X:Cx}{K:acr}
theorem QQ(h:X.K=K):j7 X (j8 K):=h ▸ bA
theorem QS(h:X.K=K):aZ X (adx .NotIn) (zy K true):=h ▸ Pe
end
theorem QT{prog:adn}{w:ad2}{A:aeb}{E:acB->acI->Prop}{s:acI}{id:String}{b:aeB}{args:List acB}{kw:List (Str × acB)}{Q:acB->acI->Prop}(hk:aj5 id=none)(hp:aj6 id=true)
 (hb:ag3 table id=some b) (ha:ahN id ⟨args,kw⟩)
 (hc:acQ (model prog w) A.in1 (b ⟨args,kw⟩) (λfin s'=>match fin with
   | .done f=>(match (Except.ok f:ajB) with|.ok (.ret v)=>Q v s'|.ok _=>False|.error e=>E e s')
   | .again c'=>c'.quiet=true/\afH (model prog w) A c' (λr s'=>match r with|.ok (.ret v)=>Q v s'|.ok _=>False|.error e=>E e s') s') E s) :
 acQ (model prog w) A (call (.builtin id) args kw) Q E s:=by
 refine ain (aiu hp hb ?_);simp only[ajM,hk];cases hsig:Manifest.signature? id with
 | none=>exact acw hc
 | some sig =>
  have sH:Bind.checkArgs id sig ⟨args,kw⟩=pure ():=by simpa only [ahN,hsig] using ha
  simp only[sH];exact acw hc
noncomputable def zS:{ F:String->CmpOp->aeB // F "max" .Gt=aeB.«max.loop»/\F "min" .Lt=aeB.«min.loop» }:=⟨_,rfl,rfl⟩
noncomputable def Hi:{ F:String->aeB // F "max" = aeB.«max»/\F "min" = aeB.«min» }:=⟨_,rfl,rfl⟩
theorem Hj{nx id:String}{op:CmpOp}(nm:(toString nx++toString ".loop" : String)=id)(e1:ag3 table id=some (zS.1 nx op))(e2:aj6 id=true){prog:adn}{w:ad2}{A:aeb}{R:ajB->acI->Prop}{I S:acF}{fp wr:List acF}{n:Nat}{P:Nat->acB->Prop}{St:Nat->aeV->Prop}{G:aeV->Prop}{bt:Nat->Nat->Bool}{kw:List (Str × acB)}
 (W:Walks prog w A.in1 I fp wr n P St) (hG:∀ h h',G h->(∀ b o,b∉wr->b≠S->h.get? b=some o->h'.get? b=some o)->G h')
 (sO:∀ i j vi vj (s:acI) (Q:acB->acI->Prop) (E:acB->acI->Prop),P i vi->P j vj->G s.heap->Q (.bool (bt i j)) s->acQ (model prog w) A.in1 (agM op vi vj) Q E s) (hS:S∉fp):∀ (k j:Nat) (s:acI) (vb:acB) (c:Nat),k+(j+1)=n->St (j+1) s.heap->G s.heap->P (agO bt j) vb ->
  s.heap.get? S=some { cls:=.type "list",dict:=none,data:=.seq #[vb,vb] c,slots:=#[] } ->
  (∀ v h' tk,P (agO bt (n-1)) v->(∀ b o,b∉wr->b≠S->s.heap.get? b=some o->h'.get? b=some o)->R (.ok (.ret v)) { s with heap:=h',toks:=tk }) ->
  afH (model prog w) A (.builtin id ⟨[.ref I,.none,.ref S],kw⟩) R s:=by
 have nS:S∉wr:=λz=>hS (W.sub _ z);intro k
 induction k with
 | zero =>
  intro j s vb c e st g pb oS fin;have e':j+1=n:=by walk_at "o"
  refine adM e1 ?_;rw[adq e2 _];show acQ _ A.in1 (ai5 (.ref S) >>= _) _ _ s;refine acq (afA oS rfl ?_);show acQ _ A.in1 (tryCatch (afj (.ref I)) _ >>= _) _ _ s;refine acq (afB (W.done s _ _ (e' ▸ st) λh1 tk kp=>?_));have jy:=kp S _ nS oS;show acQ _ A.in1 (ahq S (λ_=>#[]) >>= _) _ _ _;refine acq ?_;refine aeD jy rfl (acq (afJ (acw ?_)));exact fin vb _ tk (by rw[<- e'];exact pb) λb o hw hb q=>(acS _ _ (ady hb)).trans (kp b o hw q)
 | succ k ih =>
  intro j s vb c e st g pb oS fin;have lt:j+1<n:=by walk_at "o"
  refine adM e1 ?_;rw[adq e2 _];show acQ _ A.in1 (ai5 (.ref S) >>= _) _ _ s;refine acq (afA oS rfl ?_);show acQ _ A.in1 (tryCatch (afj (.ref I)) _ >>= _) _ _ s;refine acq (afB (W.item (j+1) s _ _ lt st λv h1 tk pv pS kp=>?_));have jy:=kp S _ nS oS;have g1:G h1:=hG _ _ g λb o hw _ q=>kp b o hw q;show acQ _ A.in1 (tryCatch (holding [v,v] (agM op v vb >>= _)) _ >>= _) _ _ _;refine acq (afB (adY (acq (sO (j+1) (agO bt j) v vb _ _ _ pv pb g1 ?_))));refine acq (adY (adm ?_));refine acq (afJ (acw ?_));cases hb:bt (j+1) (agO bt j) with
  | true =>
   simp only[if_true];refine acq ?_;refine aeD jy rfl (acq (afJ ?_));rw[nm];refine acw ⟨aet e2 _,ih (j+1) _ v _ (by walk_at "o") (W.frame _ _ _ pS λb hf o q=>?_) (hG _ _ g1 λb o _ md q=>(acS _ _ (ady md)).trans q) (by simp only[agO,hb,if_true];exact pv) (adh _ jy rfl) λv2 h2 wq p2 k2=>?_⟩
   .exact (acS _ _ (λz:S=b=>hS (by rw[z];exact hf))).trans q
   .exact fin v2 h2 wq p2 λb o hw md q=>k2 b o hw md ((acS _ _ (ady md)).trans (kp b o hw q))
  | false =>
   simp only[ac2,if_false];refine acq (afJ ?_);rw[nm];refine acw ⟨aet e2 _,ih (j+1) _ vb c (by walk_at "o") pS g1 (by simp only[agO,hb,ac2,if_false];exact pb) jy λv2 h2 wq p2 k2=>?_⟩;exact fin v2 h2 wq p2 λb o hw md q=>k2 b o hw md (kp b o hw q)
theorem QU{nx id:String}{op:CmpOp}(nm:(toString nx++toString ".loop" : String)=id)(e1:ag3 table id=some (zS.1 nx op))(e2:aj6 id=true)(k0:aj5 nx=none)(k1:aj6 nx=true)(k2:ag3 table nx=some (Hi.1 nx))(k3:∀ a d:acB,ahN nx ⟨[a],[("default",d)]⟩){prog:adn}{w:ad2}{A:aeb}{E:acB->acI->Prop}{s:acI}{l:acF}{xs:Array (Int × Tok)}{d:acB}{Q:acB->acI->Prop}{bt:Nat->Nat->Bool}(e4:CmpOf prog w A.in1 op (λi v=>(aeo xs)[i]?=some v) bt)(hh:A.handled=none)(hl:s.heap.IsList l (aeo xs))
 (h0:xs.size=0->∀ h' tk,(∀ b o,s.heap.get? b=some o->h'.get? b=some o)->Q d { s with heap:=h',toks:=tk })
 (h1:0<xs.size->∀ v h' tk,(aeo xs)[agO bt (xs.size-1)]?=some v->(∀ b o,s.heap.get? b=some o->h'.get? b=some o)->Q v { s with heap:=h',toks:=tk }) :
 acQ (model prog w) A (call (.builtin nx) [.ref l] [("default",d)]) Q E s:=by
 refine QT k0 k1 k2 (k3 _ _) ?_;show acQ _ A.in1 (aeE _ ["key","default"] 0 ⟨[],[("default",d)]⟩ >>= _) _ _ s;refine acq (ahB (show aeE _ ["key","default"] 0 ⟨[],[("default",d)]⟩=pure [none,some d] from rfl) ?_);refine acq (acw ?_);refine acq (iter_intList hl λs2 e2 st n4 QV=>?_);subst e2;refine acq (adP ?_);have W:=Walks.list (prog:=prog) (w:=w) (A:=A.in1) hh s.heap.objs.size l QV (aeo xs);generalize eP:(s.heap.push { cls:=.type "list_iterator",data:=.fields #[.ref l,.int 0 0] })=P2 at st n4 ⊢;have pU:P2.objs.size∉[s.heap.objs.size,l]:=λz=>ad4 _ (n4 _ z);have up:∀ b o,s.heap.get? b=some o->b≠P2.objs.size/\b∉[s.heap.objs.size]/\(P2.push { cls:=.type "list",dict:=none,data:=.seq ([]:List acB).toArray }).get? b=some o:=λb o q=>by
  have lt:=acy q;have q2:P2.get? b=some o:=by rw[<- eP];exact acx _ q
  refine⟨acO (acy q2),λz=>?_,acx _ q2⟩;have:b=s.heap.objs.size:=by simpa using z
  walk_at "o"
 rw[nm];refine acw ⟨aet e2 _,?_⟩;have oS:(P2.push { cls:=.type "list",dict:=none,data:=.seq ([]:List acB).toArray }).get? P2.objs.size=some { cls:=.type "list",dict:=none,data:=.seq #[] 0,slots:=#[] }:=acG _ rfl;have cY:=W.frame 0 P2 (P2.push { cls:=.type "list",dict:=none,data:=.seq ([]:List acB).toArray }) st λb _ o q=>acx _ q;have nS:P2.objs.size∉[s.heap.objs.size]:=λz=>pU (by simp at z;simp[z]);by_cases hz:xs.size=0
 .have zT:(P2.push { cls:=.type "list",dict:=none,data:=.seq ([]:List acB).toArray }).IsListIter s.heap.objs.size l (aeo xs).size/\(P2.push { cls:=.type "list",dict:=none,data:=.seq ([]:List acB).toArray }).IsList l (aeo xs):=by
   have:(aeo xs).size=0:=by simpa [aeo] using hz
   rw[this];exact cY
  refine adM e1 ?_;rw[adq e2 _];show acQ _ A.in1 (ai5 (.ref P2.objs.size) >>= _) _ _ _;refine acq (afA oS rfl ?_);show acQ _ A.in1 (tryCatch (afj (.ref s.heap.objs.size)) _ >>= _) _ _ _;refine acq (afB (W.done _ _ _ zT λh2 tk kp=>?_));refine acq (afP (acw ?_));exact h0 hz h2 tk λb o q=>kp b o (up b o q).2.1 (up b o q).2.2
 .have hp:0<xs.size:=by walk_at "o"
  have hn:0<(aeo xs).size:=by simpa [aeo] using hp
  refine adM e1 ?_;rw[adq e2 _];show acQ _ A.in1 (ai5 (.ref P2.objs.size) >>= _) _ _ _;refine acq (afA oS rfl ?_);show acQ _ A.in1 (tryCatch (afj (.ref s.heap.objs.size)) _ >>= _) _ _ _;refine acq (afB (W.item 0 _ _ _ hn cY λv h2 tk pv pS kp=>?_));have jy:=kp _ _ nS oS;show acQ _ A.in1 (ahq P2.objs.size (λ_=>#[v,v]) >>= _) _ _ _;refine acq ?_;refine aeD jy rfl ?_;rw[nm];refine acw ⟨aet e2 _,Hj nm e1 e2 (G:=λ_=>True) W (λ_ _ _ _=>trivial) (λi j vi vj s Q E h1 h2 _ q=>e4 i j vi vj s Q E h1 h2 q) pU ((aeo xs).size-1) 0 _ v _ (by walk_at "o") (W.frame _ _ _ pS λb hf o q=>?_) trivial pv (adh _ jy rfl) λv2 h3 zU p3 k3=>?_⟩
  .exact (acS _ _ (λz:P2.objs.size=b=>pU (by rw[z];exact hf))).trans q
  .refine h1 hp v2 h3 zU (by simpa [aeo] using p3) λb o q=>?_;exact k3 b o (up b o q).2.1 (up b o q).1 ((acS _ _ (ady (up b o q).1)).trans (kp b o (up b o q).2.1 (up b o q).2.2))
noncomputable def eU:List Int->Int
 | []=>0
 | x::r=>r.foldl (λb y=>if y > b then y else b) x
noncomputable def gh:List Int->Int
 | []=>0
 | x::r=>r.foldl (λb y=>if y<b then y else b) x
theorem Hk:∀ (r:List Int) (b:Int),b<=r.foldl (λb y=>if y > b then y else b) b/\(∀ y∈r,y<=r.foldl (λb y=>if y > b then y else b) b)/\(r.foldl (λb y=>if y > b then y else b) b=b∨r.foldl (λb y=>if y > b then y else b) b∈r)
 | [],b=>⟨adW _,λ_ z=>(nomatch z),.inl rfl⟩
 | x::r,b=>by
  simp only[agP];obtain⟨h1,h2,h3⟩:=Hk r (if x > b then x else b);refine⟨?_,λy hy=>?_,?_⟩
  .refine aib ?_ h1;split<;>lia
  .rcases acL.mp hy with rfl|hy
   .refine aib ?_ h1;split<;>lia
   .exact h2 y hy
  .rcases h3 with h3|h3
   .rw[h3];split
    .right;simp
    .left;rfl
   .right;exact adp _ h3
theorem Hl:∀ (r:List Int) (b:Int),r.foldl (λb y=>if y<b then y else b) b<=b/\(∀ y∈r,r.foldl (λb y=>if y<b then y else b) b<=y)/\(r.foldl (λb y=>if y<b then y else b) b=b∨r.foldl (λb y=>if y<b then y else b) b∈r)
 | [],b=>⟨adW _,λ_ z=>(nomatch z),.inl rfl⟩
 | x::r,b=>by
  simp only[agP];obtain⟨h1,h2,h3⟩:=Hl r (if x<b then x else b);refine⟨?_,λy hy=>?_,?_⟩
  .refine aib h1 ?_;split<;>lia
  .rcases acL.mp hy with rfl|hy
   .refine aib h1 ?_;split<;>lia
   .exact h2 y hy
  .rcases h3 with h3|h3
   .rw[h3];split
    .right;simp
    .left;rfl
   .right;exact adp _ h3
theorem pV(h:ns≠[]):eU ns∈ns/\∀ y∈ns,y<=eU ns:=by
 cases ns with
 | nil=>exact absurd rfl h
 | cons x r =>
  obtain⟨h1,h2,h3⟩:=Hk r x;refine⟨?_,λy hy=>?_⟩
  .rcases h3 with h3|h3
   .show r.foldl _ x∈_;rw[h3];exact .head _
   .exact .tail _ h3
  .rcases acL.mp hy with rfl|hy
   .exact h1
   .exact h2 y hy
theorem Hm(h:ns≠[]):gh ns∈ns/\∀ y∈ns,gh ns<=y:=by
 cases ns with
 | nil=>exact absurd rfl h
 | cons x r =>
  obtain⟨h1,h2,h3⟩:=Hl r x;refine⟨?_,λy hy=>?_⟩
  .rcases h3 with h3|h3
   .show r.foldl _ x∈_;rw[h3];exact .head _
   .exact .tail _ h3
  .rcases acL.mp hy with rfl|hy
   .exact h1
   .exact h2 y hy
theorem sP:∀ {ns:List Int} {ao:List acB},Vals (ns.map V.int) ao->∃ xs:Array (Int × Tok),ao.toArray=aeo xs/\xs.toList.map (·.1)=ns
 | [],_,.nil=>⟨#[],by simp[aeo],rfl⟩
 | n::ns,_,.cons (l₂:=ao) r t=>by
  obtain⟨xs,e1,e2⟩:=sP (ns:=ns) t;obtain⟨tk,rfl⟩:=r;refine⟨((n,tk)::xs.toList).toArray,?_,?_⟩
  .have:ao=xs.toList.map (λp=>aeU p.1 p.2):=by have:=congrArg ajA e1;simpa [aeo] using this
   simp[aeo,this]
  .simp[e2]
theorem Hn(e:xs.toList.map (·.1)=ns)(hi:i<xs.size):aiL xs i∈ns/\aiL xs i=ns.getD i 0:=by subst e;unfold aiL;rw[adi hi];refine⟨acE.mpr ⟨xs[i],by simp,rfl⟩,?_⟩;simp[hi]
theorem Ho(e:xs.toList.map (·.1)=ns)(hy:y∈ns):∃ i,i<xs.size/\aiL xs i=y:=by
 subst e;obtain⟨p,hp,rfl⟩:=acE.mp hy;obtain⟨i,hi,e⟩:=List.mem_iff_getElem.mp hp;refine⟨i,by simpa using hi,?_⟩;unfold aiL;have cW:i<xs.size:=by simpa using hi
 rw[adi cW];have:xs[i]=p:=by simpa using e
 rw[this];rfl
theorem Hq(e:xs.toList.map (·.1)=ns)(h:0<xs.size):aiL xs (agO (λi j=>decide (aiL xs i > aiL xs j)) (xs.size-1))=eU ns:=by
 obtain⟨h1,h2⟩:=argBest_gt (aiL xs) (xs.size-1);have bV:ns≠[]:=by intro z;subst z;have q:=congrArg List.length e;rw[acs,aez,aej] at q;lia
 obtain⟨m1,m2⟩:=pV bV;refine aj7 (m2 _ (Hn e (by lia)).1) ?_;obtain⟨i,hi,ei⟩:=Ho e m1;rw[<- ei];exact h2 i (by lia)
theorem Hr(e:xs.toList.map (·.1)=ns)(h:0<xs.size):aiL xs (agO (λi j=>decide (aiL xs i<aiL xs j)) (xs.size-1))=gh ns:=by
 obtain⟨h1,h2⟩:=argBest_lt (aiL xs) (xs.size-1);have bV:ns≠[]:=by intro z;subst z;have q:=congrArg List.length e;rw[acs,aez,aej] at q;lia
 obtain⟨m1,m2⟩:=Hm bV;refine aj7 ?_ (m2 _ (Hn e (by lia)).1);obtain⟨i,hi,ei⟩:=Ho e m1;rw[<- ei];exact h2 i (by lia)
def Hs(R:V->Hp->Prop):List V->Hp->Prop
 | [x],H=>R x H
 | _,_=>False
theorem QW:∀ {vs:List V} {H:Hp},Hs R vs H->∃ x,vs=[x]/\R x H
 | [x],_,h=>⟨x,rfl,h⟩
section
noncomputable def mf(f:List Int->Int):List Int->V->V
 | [],y=>y
 | n::ns,_=>.int (f (n::ns))
theorem QX(h:ns≠[]):mf f ns y = .int (f ns):=by
 cases ns with
 | nil=>exact absurd rfl h
 | cons _ _=>rfl
def wu(K:acr)(f:List Int->Int)(te td:TE):TE:=λσ H Q=>te σ H λx H1=>td σ H1 λy H2=>∃ a ns,x = .ref a/\ai K H2 a (ns.map V.int)/\Q (mf f ns y) H2
theorem Ht{X:Cx}{e d:agu}{te td:TE}{p pos kp:Pos}{nx:String}{f:List Int->Int}{op:CmpOp}{id:String}(nm:(toString nx++toString ".loop" : String)=id)(e1:ag3 table id=some (zS.1 nx op))(e2:aj6 id=true)(k0:aj5 nx=none)(k1:aj6 nx=true)(k2:ag3 table nx=some (Hi.1 nx))(k3:∀ a d:acB,ahN nx ⟨[a],[("default",d)]⟩)(kb:adj nx=some (.builtin nx))(kn:adS nx≠adS "__name__")(kd:(adS nx == adS "__debug__")=false)
 (kc:∀ (A:aeb) (xs:Array (Int × Tok)),∃ bt,CmpOf X.prog X.w A op (λi v=>(aeo xs)[i]?=some v) bt/\∀ ns:List Int,xs.toList.map (·.1)=ns->0<xs.size->aiL xs (agO bt (xs.size-1))=f ns) (hc:X.calm=true) (hg:Gl X nx) (hm:X.mg nx=none) (he:PE X e te) (hd:PE X d td)
 (hs:acW [e] X.env=(false,eval e X.env)::acW [] X.env:=by rfl) (hq:ael pos (acW [e] X.env)=(false,eval e X.env)::ael pos (acW [] X.env):=by rfl) :
 PE X (.Call (.Name nx p) [e] [⟨some "default",d,kp⟩] pos) (wu X.K f te td):=by
 intro pins s σ H Q I h;refine adT (fO I hg hm kb ?_ kn (hd:=kd));refine callWith_kw (aB ((ae he ag hs) pos pins s σ H (Hs λx H1=>td σ H1 λy H2=>∃ (a:acF) (ns:List Int),x = .ref a/\ai X.K H2 a (ns.map V.int)/\Q (mf f ns y) H2) I h) λus s1 ⟨vs,H1,I1,r,q⟩=>?_) hq (by rw[hs];rfl)
 .obtain⟨x,rfl,q⟩:=QW q;obtain⟨u,rfl,ru⟩:=vals1 r;refine kws_cons (aB (hd pins s1 σ H1 _ I1 q) λw s2 ⟨y,H2,I2,ry,a,ns,ex,hS,q1⟩=>kws_nil ?_);subst ex;cases ru;obtain⟨ao,rv,hp,_⟩:=I2.list hS;obtain⟨xs,wj,Hu⟩:=sP rv;obtain⟨o,n,ho,bq,_,hdt⟩:=hp;have hl:s2.heap.IsList a (aeo xs):=⟨o,ho,bq,n,by rw[hdt,wj]⟩
  have len:xs.size=ns.length:=by rw[<- Hu,acs];simp
  show acQ _ X.A (call (.builtin nx) [.ref a] [("default",w)]) _ _ s2;obtain⟨bt,QY,QZ⟩:=kc X.A.in1 xs;refine QU nm e1 e2 k0 k1 k2 k3 QY (I2.ok.hd hc) hl (λhz h' tk hk=>⟨y,H2,I2.kept hk,ry,?_⟩) λhp v h' tk hv hk=>⟨.int (f ns),H2,I2.kept hk,?_,?_⟩
  .have z:ns=[]:=aeu.mp (by walk_at "o");rw[z] at q1;exact q1
  .obtain⟨t,rfl⟩:=ahC hv;exact⟨t,by rw[QZ _ Hu hp]⟩
  .rw[QX (λz=>by subst z;rw[aej] at len;lia)] at q1;exact q1
theorem Q3(a d:acB):ahN "max" ⟨[a],[("default",d)]⟩:=by unfold ahN;kernel_rfl
theorem Hv{X:Cx}{e d:agu}{te td:TE}{p pos kp:Pos}(hc:X.calm=true)(hg:Gl X "max")(hm:X.mg "max" = none)(he:PE X e te)(hd:PE X d td)
 (hs:acW [e] X.env=(false,eval e X.env)::acW [] X.env:=by rfl) (hq:ael pos (acW [e] X.env)=(false,eval e X.env)::ael pos (acW [] X.env):=by rfl) :
 PE X (.Call (.Name "max" p) [e] [⟨some "default",d,kp⟩] pos) (wu X.K eU te td) :=
 Ht (by decide) PySem.F.entry_max_loop PySem.F.plain_max_loop PySem.F.kind_max PySem.F.plain_max PySem.F.entry_max Q3 pN (by decide) (by decide) (λ_ xs=>⟨_,CmpOf.ints_gt (aiL xs) (λ_ _=>ahC),λ_ e h=>Hq e h⟩) hc hg hm he hd hs hq
theorem wx(hc:X.calm=true):eR X (.builtin "max") (λxs H Q=>∃ a ns,xs=[.ref a]/\ai X.K H a (ns.map V.int)/\ns≠[]/\Q (.int (eU ns)) H):=by
 intro pins s σ H xs us Q I r h;obtain⟨a,ns,rfl,hS,bV,q⟩:=h;obtain⟨u,rfl,ru⟩:=vals1 r;cases ru;obtain⟨ao,rv,hp,_⟩:=I.list hS;obtain⟨xs,e1,e2⟩:=sP rv;obtain⟨o,n,ho,bq,_,hdt⟩:=hp;have hl:s.heap.IsList a (aeo xs):=⟨o,ho,bq,n,by rw[hdt,e1]⟩
 have len:xs.size=ns.length:=by rw[<- e2,acs];simp
 have n6:0<xs.size:=by rw[len];exact aiM.mpr bV
 refine max_intList (I.ok.hd hc) hl n6 λv h' tk hv hk=>⟨.int (eU ns),H,I.kept hk,?_,q⟩
 obtain⟨t,rfl⟩:=ahC hv;exact⟨t,by rw[Hq e2 n6]⟩
theorem Q4(a d:acB):ahN "min" ⟨[a],[("default",d)]⟩:=by unfold ahN;kernel_rfl
theorem Q5{X:Cx}{e d:agu}{te td:TE}{p pos kp:Pos}(hc:X.calm=true)(hg:Gl X "min")(hm:X.mg "min" = none)(he:PE X e te)(hd:PE X d td)
 (hs:acW [e] X.env=(false,eval e X.env)::acW [] X.env:=by rfl) (hq:ael pos (acW [e] X.env)=(false,eval e X.env)::ael pos (acW [] X.env):=by rfl) :
 PE X (.Call (.Name "min" p) [e] [⟨some "default",d,kp⟩] pos) (wu X.K gh te td) :=
 Ht (by decide) af5 aeJ ajN ajq ajr Q4 pM (by decide) (by decide) (λ_ xs=>⟨_,CmpOf.ints_lt (aiL xs) (λ_ _=>ahC),λ_ e h=>Hr e h⟩) hc hg hm he hd hs hq
theorem wy(hc:X.calm=true):eR X (.builtin "min") (λxs H Q=>∃ a ns,xs=[.ref a]/\ai X.K H a (ns.map V.int)/\ns≠[]/\Q (.int (gh ns)) H):=by
 intro pins s σ H xs us Q I r h;obtain⟨a,ns,rfl,hS,bV,q⟩:=h;obtain⟨u,rfl,ru⟩:=vals1 r;cases ru;obtain⟨ao,rv,hp,_⟩:=I.list hS;obtain⟨xs,e1,e2⟩:=sP rv;obtain⟨o,n,ho,bq,_,hdt⟩:=hp;have hl:s.heap.IsList a (aeo xs):=⟨o,ho,bq,n,by rw[hdt,e1]⟩
 have len:xs.size=ns.length:=by rw[<- e2,acs];simp
 have n6:0<xs.size:=by rw[len];exact aiM.mpr bV
 refine min_intList (I.ok.hd hc) hl n6 λv h' tk hv hk=>⟨.int (gh ns),H,I.kept hk,?_,q⟩
 obtain⟨t,rfl⟩:=ahC hv;exact⟨t,by rw[Hr e2 n6]⟩
end
section
theorem Hw{ch:List acF}(I:Inv X pins σ H s)(k:∀ b o,b∉ch->s.heap.get? b=some o->h'.get? b=some o)(hf:∀ b∈ch,eJ X pins H b){H':Hp}(up:∀ b u,H b=some u->H' b=some u):∀ b u,H b=some u->bN X.prog X.w H' h' b u:=by
 have lS:∀ b u,H b=some u->b∉ch:=λb u e z=>by rw[(hf b z).1] at e;cases e
 intro b u e;refine (I.ay b u e).stay (λc v hc q=>k c v ?_ q) (λc q=>up c _ q) λc xs q=>up c _ q;rcases hc with z|z
 .rw[z];exact lS b u e
 .exact lS c _ z
theorem Hx{t':Nat}{ch:List acF}(I:Inv X pins σ H s)(k:∀ b o,b∉ch->s.heap.get? b=some o->h'.get? b=some o)(hf:∀ b∈ch,eJ X pins H b):Inv X pins σ H { s with heap:=h',toks:=t' }:=by
 refine I.step (g':=s.gens) (d':=s.drawn) (ch:=ch) (λb hb=>?_) (λb o _ _ hc e _=>k b o hc e) (λb o _ _ hc e _=>⟨o.slots,k b o hc e⟩) (λ_ _ _ _ n=>n)
  (λb o hc e=>⟨o,k b o hc e⟩) (λ_ _ e=>e) (λ_ _ _ e=>e) (λb ps e=>⟨#[],by rw[e];simp⟩) (λm hm=>?_) (λb u e=>Hw I k hf (λ_ _ q=>q) b u e) I.bare
 .obtain⟨_,d1,d2,d3,d4,d5⟩:=hf b hb;exact⟨d3,d1,d4,d5⟩
 .obtain⟨o,es,ep,ho,r⟩:=hm;exact⟨o,es,ep,k _ o (λz=>(hf _ z).2.1 rfl) ho,r⟩
theorem Hy{t':Nat}{ch:List acF}{T:acF}{o:HO}(I:Inv X pins σ H s)(k:∀ b o,b∉ch->s.heap.get? b=some o->h'.get? b=some o)(hf:∀ b∈ch,eJ X pins H b)(hT:s.heap.objs.size<=T)
 (new:bN X.prog X.w (upd H T o) h' T o):Inv X pins σ (upd H T o) { s with heap:=h',toks:=t' }:=by
 have hn:=I.ay.fresh hT;have neT:∀ b u,s.heap.get? b=some u->b≠T:=λb u e=>acO (acX (acy e) hT);have kX:∀ b u,H b=some u->b≠T:=λb u e=>jg e hn;have up:∀ b u,H b=some u->upd H T o b=some u:=λb u e=>by rw[aD (kX b u e)];exact e
 refine I.step (g':=s.gens) (d':=s.drawn) (ch:=ch) (λb hb=>?_) (λb o _ _ hc e _=>k b o hc e) (λb o _ _ hc e _=>⟨o.slots,k b o hc e⟩) (λb u _ e n=>by rw[aD (neT b u e)];exact n)
  (λb o hc e=>⟨o,k b o hc e⟩) (λb xs e=>up b _ e) (λb _ _ e=>up b _ e) (λb ps e=>⟨#[],by rw[up b _ e];simp⟩) (λm hm=>?_) (λb u e=>?_) I.bare
 .obtain⟨_,d1,d2,d3,d4,d5⟩:=hf b hb;exact⟨d3,d1,d4,d5⟩
 .obtain⟨o,es,ep,ho,r⟩:=hm;exact⟨o,es,ep,k _ o (λz=>(hf _ z).2.1 rfl) ho,r⟩
 .by_cases hb:b=T
  .subst hb;rw[aq] at e;cases e;exact new
  .rw[aD hb] at e;exact Hw I k hf up b u e
end
noncomputable def wz(K:acr)(a:acF)(n:Nat):It :=
 ⟨λi H=>∃ xs x,ai K H a xs/\xs.length=n/\xs.reverse[i]?=some x,λi H x H'=>H'=H/\∀ xs,ai K H a xs->xs.length=n->xs.reverse[i]?=some x,λi _=>i=n⟩
theorem Q6{P:adn}{w:ad2}{K:acr}{tg:agu}(a it:acF)(n:Nat):Turn P w K tg (wz K a n) [it] it (λi h=>i<=n/\h.IsRevIter it a ((n:Int)-1-(i:Nat))) where
 mem:=by simp
 obj:=λi h st b hb=>by
  have e:b=it:=by simpa using hb
  subst e;obtain⟨_,o,e,c,d⟩:=st;exact⟨o,e,λv z=>by rw[d] at z;cases z⟩
 keep:=λi h h' st k=>⟨st.1,st.2.at λo e=>k it (by simp) o e⟩
 item:=by
  intro X hP hw hK hc i pins s σ H E I hf st hg;subst hP hw hK;obtain⟨xs,x,hq,hn,hx⟩:=hg;obtain⟨ao,rv,p,hz⟩:=I.list hq;have hl:=rv.length;have hi:i<n:=by have:=(acz.mp hx).1;rw[aeh] at this;lia
  have cV:xs[n-1-i]?=some x:=by rw[aeN (by lia),hn] at hx;exact hx
  obtain⟨u,hu,ru⟩:=rv.get cV;obtain⟨f0,f1,f2,f3,f4,f5⟩:=hf it (by simp);have cY:=st.2;rw[show (n:Int)-1-(i:Nat)=((n-1-i:Nat):Int) by lia] at cY;refine wpAny_pyNext_rev_item cY p.isList (x:=u) (by simpa using hu) λh' cY sb=>?_;have I1:Inv X pins σ H { s with heap:=h' }:=I.turned (t':=s.toks) (λb o hb e=>(sb.2 b hb).trans e) f0 f1 f3 f4 f5;obtain⟨o,e,c,d⟩:=id cY;rw[show ((n-1-i:Nat):Int)-1=(n:Int)-1-((i+1:Nat):Int) by lia] at cY;exact⟨u,rfl,pC (s:={ s with heap:=h' }) e c d (by decide) ⟨x,H,I1,ru,⟨rfl,λys hy _=>by rw[I.rO hy hq];exact hx⟩,⟨by lia,cY⟩,λb hb=>(hf b hb).1⟩⟩
 done:=by
  intro X hP hw hK hc i pins s σ H E I hf st hg;subst hP hw hK;have Q7:i=n:=hg;subst Q7;obtain⟨f0,f1,f2,f3,f4,f5⟩:=hf it (by simp);have cY:=st.2;rw[show (i:Int)-1-(i:Nat) = -1 by lia] at cY;exact wpAny_pyNext_rev_end (I.ok.hd hc) cY λh' eb=>⟨rfl,I.turned (t':=s.toks) (λb o hb e=>eb b o hb e) f0 f1 f3 f4 f5⟩
 self:=λ_ _ _ _ _ st h=>aiv st.2 h
def zV(K:acr)(ta:TA):TI:=λσ H R=>ta σ H λvs H1=>∃ a xs,vs=[.ref a]/\ai K H1 a xs/\R (wz K a xs.length) H1
theorem Q8(hg:Gl X "reversed")(hm:X.mg "reversed" = none)(ha:PA X [e] ta)(hs:acW [e] X.env=[(false,eval e X.env)]:=by rfl):PI X tg (.Call (.Name "reversed" p) [e] [] pos) (zV X.K ta):=by
 intro pins s σ H R I h;refine ak5 (fO I hg hm P6 (adg (aB (ha pos pins s σ H _ I h) λus s1 zq=>?_) hs rfl));obtain⟨vs,H1,I1,r1,q1⟩:=zq;obtain⟨a,xs,rfl,hq,q⟩:=q1;obtain⟨u,rfl,ru⟩:=vals1 r1;cases ru;obtain⟨ao,rv,p,hz⟩:=I1.list hq;refine call_reversed_list p.isList ?_;have hl:=rv.length;refine aiv (i:=(ao.toArray.size:Int)-1) (l:=a) ⟨_,acG _ rfl,rfl,rfl⟩ ?_;refine⟨s1.heap.objs.size,[s1.heap.objs.size],_,_,H1,rfl,I1.kept (t':=s1.toks) λb o e=>acx _ e,Q6 a _ xs.length,⟨ac5 _,_,acG _ rfl,rfl,?_⟩,λb hb=>?_,q⟩
 .rw[acK,<- hl];simp;rfl
 .have e:b=s1.heap.objs.size:=by simpa using hb
  subst e;exact I1.iy (acC _) (I1.ay.fresh (acC _))
noncomputable def wA(K:acr)(a:acF):It :=
 ⟨λi H=>∃ xs x,ai K H a xs/\xs[i]?=some x,λi H v H'=>∃ (p:acF) (x:V),v = .ref p/\H p=none/\H'=upd H p (.tup [.int i,x])/\∀ xs,ai K H a xs->xs[i]?=some x,λi H=>∃ xs,ai K H a xs/\xs.length<=i⟩
theorem zW:2<=acV:=by decide
theorem Ra{P:adn}{w:ad2}{K:acr}{es:List agu}{k:Nat}{tp:Pos}(a e it:acF)(Hz:e≠it):Turn P w K (.Tuple es k tp) (wA K a) [e,it] e (λi h=>(∃ old,IsEnum h e it (i:Nat) old)/\h.IsListIter it a i) where
 mem:=by simp
 obj:=λi h st b hb=>by
  obtain⟨⟨old,he⟩,o,ho,c,d⟩:=st;have b7:b=e∨b=it:=by simpa using hb
  rcases b7 with rfl|rfl
  .exact⟨_,he,λv z=>by
    have z':Data.fields _=Data.cell v:=z;cases z'⟩
  .exact⟨o,ho,λv z=>by rw[d] at z;cases z⟩
 keep:=λi h h' st kk=>by obtain⟨⟨old,he⟩,hi⟩:=st;exact⟨⟨old,kk e (by simp) _ he⟩,hi.at λo e=>kk it (by simp) o e⟩
 item:=by
  intro X hP hw hK hc i pins s σ H E I hf st hg;subst hP hw hK;obtain⟨xs,x,hq,hx⟩:=hg;obtain⟨⟨old,he⟩,hit⟩:=st;obtain⟨ao,rv,p,hz⟩:=I.list hq;obtain⟨u,hu,ru⟩:=rv.get hx;refine ahY he hit p.isList (x:=u) (by simpa using hu) Hz λh1 ho Rb hT hsz hk=>?_;refine⟨_,rfl,wpAny_letOwnedTupleGo_enum ho λh2 HC cZ=>?_⟩;have zX:Heap.SameBut e h1 h2:=cZ;have neT:s.heap.objs.size≠e:=adJ (acy he);have up:∀ b o,b∉[e,it]->s.heap.get? b=some o->h2.get? b=some o:=λb o hb q=>by
   have b7:b≠e/\b≠it:=by simpa using hb
   exact zX.extBut b o b7.1 (hk b o b7.1 b7.2 q)
  have hn:H s.heap.objs.size=none:=I.ay.fresh (acC _);refine⟨.ref s.heap.objs.size,upd H s.heap.objs.size (.tup [.int i,x]),Hy (s:=s) (h':=h2) (t':=s.toks+1) I up hf (acC _) ⟨zW,[.int i s.toks,u],.cons ⟨_,rfl⟩ (.cons ru .nil),?_⟩,rfl,⟨_,x,rfl,hn,rfl,λys hy=>by rw[I.rO hy hq];exact hx⟩,⟨⟨u,?_⟩,?_⟩,λb hb=>?_⟩
  .have:=zX.extBut _ _ neT hT;exact⟨_,this,rfl,_,rfl⟩
  .have:((i:Int)+1)=((i+1:Nat):Int):=by lia
   rw[<- this];exact HC
  .exact Rb.at λo q=>zX.extBut _ _ (ady Hz) q
  .rw[aD]
   .exact (hf b hb).1
   .have b7:b=e∨b=it:=by simpa using hb
    rcases b7 with rfl|rfl
    .exact ady neT
    .obtain⟨o,q,_⟩:=hit;exact acO (acy q)
 done:=by
  intro X hP hw hK hc i pins s σ H E I hf st hg;subst hP hw hK;obtain⟨xs,hq,hx⟩:=hg;obtain⟨⟨old,he⟩,hit⟩:=st;obtain⟨ao,rv,p,hz⟩:=I.list hq;have hl:=rv.length;refine aic (I.ok.hd hc) he hit p.isList (by simp;lia) λh' eb=>⟨rfl,Hx (t':=s.toks) I (λb o hb q=>?_) hf⟩
  have b7:b≠e/\b≠it:=by simpa using hb
  exact eb b o b7.2 q
 self:=λ_ i s Q E st h=>by obtain⟨⟨old,he⟩,_⟩:=st;exact ahr he h
def zY(K:acr)(ta:TA):TI:=λσ H R=>ta σ H λvs H1=>∃ a,vs=[.ref a]/\(∃ xs,ai K H1 a xs)/\R (wA K a) H1
theorem zZ(hg:Gl X "enumerate")(hm:X.mg "enumerate" = none)(ha:PA X [e] ta)(hs:acW [e] X.env=[(false,eval e X.env)]:=by rfl):PI X (.Tuple es k tp) (.Call (.Name "enumerate" p) [e] [] pos) (zY X.K ta):=by
 intro pins s σ H R I h;refine ak5 (fO I hg hm GS (adg (aB (ha pos pins s σ H _ I h) λus s1 zq=>?_) hs rfl));obtain⟨vs,H1,I1,r1,q1⟩:=zq;obtain⟨a,rfl,⟨xs,hq⟩,q⟩:=q1;obtain⟨u,rfl,ru⟩:=vals1 r1;cases ru;obtain⟨ao,rv,p,hz⟩:=I1.list hq;refine aiN p.isList λh' he hit hsz hk=>?_;refine ahr he ?_;have I2:Inv X pins σ H1 { s1 with heap:=h' }:=I1.kept (t':=s1.toks) hk;refine⟨s1.heap.objs.size+1,[s1.heap.objs.size+1,s1.heap.objs.size],_,_,H1,rfl,I2,Ra a _ _ (by walk_at "o"),⟨⟨.none,he⟩,hit⟩,λb hb=>?_,q⟩;have b7:b=s1.heap.objs.size+1∨b=s1.heap.objs.size:=by simpa using hb
 rcases b7 with rfl|rfl
 .exact I1.iy (agL _) (I1.ay.fresh (agL _))
 .exact I1.iy (acC _) (I1.ay.fresh (acC _))
noncomputable def wB(K:acr)(a b:acF):It :=
 ⟨λi H=>∃ xs ys x y,ai K H a xs/\ai K H b ys/\xs[i]?=some x/\ys[i]?=some y,λi H v H'=>∃ (p:acF) (x y:V),v = .ref p/\H p=none/\H'=upd H p (.tup [x,y])/\(∀ xs,ai K H a xs->xs[i]?=some x)/\∀ ys,ai K H b ys->ys[i]?=some y,
  λi H=>∃ xs ys,ai K H a xs/\ai K H b ys/\(xs.length<=i∨ys.length<=i)⟩
theorem Rc{P:adn}{w:ad2}{K:acr}{es:List agu}{k:Nat}{tp:Pos}(a b z TI TO i1 i2:acF)(D:ZipApart z TI TO i1 i2 a b):Turn P w K (.Tuple es k tp) (wB K a b) [z,TI,TO,i1,i2] z
 (λi h=>IsZip h z TI TO .none/\IsPair h TI (.ref i1) (.ref i2)/\(∃ a b,IsPair h TO a b)/\h.IsListIter i1 a i/\h.IsListIter i2 b i) where
 mem:=by simp
 obj:=λi h st c hc=>by
  obtain⟨hz,jz,⟨ta,tb,kg⟩,⟨o1,h1,c1,d1⟩,⟨o2,h2,c2,d2⟩⟩:=st;have kP:c=z∨c=TI∨c=TO∨c=i1∨c=i2:=by simpa using hc
  rcases kP with rfl|rfl|rfl|rfl|rfl
  .exact⟨_,hz,λv q=>by
    have q':Data.fields _=Data.cell v:=q;cases q'⟩
  .exact⟨_,jz,λv q=>by
    have q':Data.seq _ _=Data.cell v:=q;cases q'⟩
  .exact⟨_,kg,λv q=>by
    have q':Data.seq _ _=Data.cell v:=q;cases q'⟩
  .exact⟨o1,h1,λv q=>by rw[d1] at q;cases q⟩
  .exact⟨o2,h2,λv q=>by rw[d2] at q;cases q⟩
 keep:=λi h h' st kk=>by obtain⟨hz,jz,⟨ta,tb,kg⟩,h1,h2⟩:=st;exact⟨kk z (by simp) _ hz,kk TI (by simp) _ jz,⟨ta,tb,kk TO (by simp) _ kg⟩,h1.at λo e=>kk i1 (by simp) o e,h2.at λo e=>kk i2 (by simp) o e⟩
 item:=by
  intro X hP hw hK hc i pins s σ H E I hf st hg;subst hP hw hK;obtain⟨xs,ys,x,y,hqx,hqy,hx,hy⟩:=hg;obtain⟨hz,jz,⟨ta,tb,kg⟩,h1,h2⟩:=st;obtain⟨ao,rv,p1,_⟩:=I.list hqx;obtain⟨jts,wC,p2,_⟩:=I.list hqy;obtain⟨u,hu,ru⟩:=rv.get hx;obtain⟨v,hv,Rf⟩:=wC.get hy;refine wpAny_pyNext_zip_item D hz jz kg h1 h2 p1.isList p2.isList (x:=u) (y:=v) (by simpa using hu) (by simpa using hv) λh' z1 t1 l1 l2 pT hsz hk=>?_;refine⟨_,rfl,wpAny_letOwnedTupleGo_zip z1 λh3 z3 Rg=>?_⟩;have pW:Heap.SameBut z h' h3:=Rg;have neT:s.heap.objs.size≠z:=adJ (acy hz);have up:∀ b o,b∉[z,TI,TO,i1,i2]->s.heap.get? b=some o->h3.get? b=some o:=λb o hb q=>by
   have b7:b≠z/\b≠TI/\b≠TO/\b≠i1/\b≠i2:=by simpa using hb
   exact pW.extBut b o b7.1 (hk b o b7.1 b7.2.2.1 b7.2.2.2.1 b7.2.2.2.2 q)
  have hn:H s.heap.objs.size=none:=I.ay.fresh (acC _);refine⟨.ref s.heap.objs.size,upd H s.heap.objs.size (.tup [x,y]),Hy (s:=s) (h':=h3) (t':=s.toks) I up hf (acC _) ⟨zW,[u,v],.cons ru (.cons Rf .nil),?_⟩,rfl,⟨_,x,y,rfl,hn,rfl,λzs z5=>by rw[I.rO z5 hqx];exact hx,λzs z5=>by rw[I.rO z5 hqy];exact hy⟩,
   ⟨z3,pW.extBut _ _ D.TIz (hk _ _ D.TIz D.TITO D.TIi1 D.TIi2 jz),⟨_,_,pW.extBut _ _ D.TOz t1⟩,l1.at λo q=>pW.extBut _ _ D.i1z q,l2.at λo q=>pW.extBut _ _ D.i2z q⟩,λb hb=>?_⟩
  .have:=pW.extBut _ _ neT pT;exact⟨_,this,rfl,_,rfl⟩
  .rw[aD]
   .exact (hf b hb).1
   .have b7:b=z∨b=TI∨b=TO∨b=i1∨b=i2:=by simpa using hb
    rcases b7 with rfl|rfl|rfl|rfl|rfl
    .exact ady neT
    .exact acO (acy jz)
    .exact acO (acy kg)
    .obtain⟨o,q,_⟩:=h1;exact acO (acy q)
    .obtain⟨o,q,_⟩:=h2;exact acO (acy q)
 done:=by
  intro X hP hw hK hc i pins s σ H E I hf st hg;subst hP hw hK;obtain⟨xs,ys,hqx,hqy,hx⟩:=hg;obtain⟨hz,jz,⟨ta,tb,kg⟩,h1,h2⟩:=st;obtain⟨ao,rv,p1,_⟩:=I.list hqx;obtain⟨jts,wC,p2,_⟩:=I.list hqy;have l1:=rv.length;have l2:=wC.length;refine wpAny_pyNext_zip_end (I.ok.hd hc) D hz jz kg h1 h2 p1.isList p2.isList (hx.imp (λq=>by simp;lia) λq=>by simp;lia) λh' hk=>⟨rfl,Hx (t':=s.toks) I (λb o hb q=>?_) hf⟩
  have b7:b≠z/\b≠TI/\b≠TO/\b≠i1/\b≠i2:=by simpa using hb
  exact hk b o b7.1 b7.2.2.1 b7.2.2.2.1 b7.2.2.2.2 q
 self:=λ_ i s Q E st h=>ajO st.1 h
def z6(K:acr)(ta:TA):TI:=λσ H R=>ta σ H λvs H1=>∃ a b,vs=[.ref a,.ref b]/\(∃ xs,ai K H1 a xs)/\(∃ ys,ai K H1 b ys)/\R (wB K a b) H1
theorem Rh(hg:Gl X "zip")(hm:X.mg "zip" = none)(ha:PA X [e,f] ta)(hs:acW [e,f] X.env=(false,eval e X.env)::acW [f] X.env:=by rfl)(cZ:acW [f] X.env=[(false,eval f X.env)]:=by rfl):PI X (.Tuple es k tp) (.Call (.Name "zip" p) [e,f] [] pos) (z6 X.K ta):=by
 intro pins s σ H R I h;refine ak5 (fO I hg hm P5 (adg (aB (ha pos pins s σ H _ I h) λus s1 ⟨vs,H1,I1,r1,q1⟩=>?_) hs (by rw[cZ];rfl)));obtain⟨a,b,rfl,⟨xs,hqx⟩,⟨ys,hqy⟩,q⟩:=q1;obtain⟨u,v,rfl,ru,Ri⟩:=vals2 r1;cases ru;cases Ri;obtain⟨ao,rv,p1,_⟩:=I1.list hqx;obtain⟨jts,wC,p2,_⟩:=I1.list hqy;have a1:a<s1.heap.objs.size:=by obtain⟨_,e,_⟩:=p1.isList;exact acy e
 have a2:b<s1.heap.objs.size:=by obtain⟨_,e,_⟩:=p2.isList;exact acy e
 refine call_zip_2 p1.isList p2.isList λh' hz jz kg h1 h2 hsz hk=>?_;refine ajO hz ?_;have I2:Inv X pins σ H1 { s1 with heap:=h' }:=I1.kept (t':=s1.toks) hk;refine⟨s1.heap.objs.size+4,[s1.heap.objs.size+4,s1.heap.objs.size+2,s1.heap.objs.size+3,s1.heap.objs.size,s1.heap.objs.size+1],_,_,H1,rfl,I2,Rc a b _ _ _ _ _ (zipApart_new a1 a2),⟨hz,jz,⟨_,_,kg⟩,h1,h2⟩,λc hc=>?_,q⟩;have kP:s1.heap.objs.size<=c:=by simp only[acL,aeK,or_false] at hc;walk_at "o"
 exact I1.iy kP (I1.ay.fresh kP)
section
theorem HD(hc:X.calm=true):eR X (.builtin "sum") (λxs H Q=>∃ (a:acF) (ns:List Int),xs=[.ref a]/\ai X.K H a (ns.map V.int)/\Q (.int ns.sum) H):=by
 intro pins s σ H xs us Q I r h;obtain⟨a,ns,rfl,hS,q⟩:=h;obtain⟨u,rfl,ru⟩:=vals1 r;cases ru;obtain⟨ao,rv,hp,_⟩:=I.list hS;obtain⟨xs,e1,e2⟩:=sP rv;obtain⟨o,n,ho,bq,_,hdt⟩:=hp;have hl:s.heap.IsList a (aeo xs):=⟨o,ho,bq,n,by rw[hdt,e1]⟩
 refine sum_intListG (I.ok.hd hc) hl λh' tk t' hk=>⟨.int ns.sum,H,I.kept hk,⟨t',?_⟩,q⟩
 rw[preSum_eq,af6 (by simp),e2]
theorem z7:∀ {bs:List Bool} {ao:List acB},Vals (bs.map V.bl) ao->ao=bs.map ad5
 | [],ao,r=>by cases r;rfl
 | b::bs,ao,r=>by
  cases r with
  | cons r1 r2 =>
   cases r1;rw[z7 r2];rfl
theorem wD(hc:X.calm=true):eR X (.builtin "all") (λxs H Q=>∃ (a:acF) (bs:List Bool),xs=[.ref a]/\ai X.K H a (bs.map V.bl)/\Q (.bl (bs.all id)) H):=by
 intro pins s σ H xs us Q I r h;obtain⟨a,bs,rfl,hS,q⟩:=h;obtain⟨u,rfl,ru⟩:=vals1 r;cases ru;obtain⟨ao,rv,hp,_⟩:=I.list hS;have e:=z7 rv;subst e;have hl:=hp.isList;have bb:a<s.heap.objs.size:=by obtain⟨_,e,_⟩:=hl;exact acy e
 refine call_all_walk (af9 hl ?_);refine⟨s.heap.objs.size,[s.heap.objs.size,a],[s.heap.objs.size],(bs.map ad5).toArray.size,_,_,λi=>(bs[i]?).getD true,rfl,Walks.list (A:=X.A.in1) (I.ok.hd hc) _ a (acO bb) (bs.map ad5).toArray,⟨⟨_,acG _ rfl,rfl,rfl⟩,hl.push _⟩,λi v s' Q' E' hP hQ=>?_,λh' tk hk=>?_⟩
 .have kY:(bs[i]?).map ad5=some v:=by simpa using hP
  cases e:bs[i]? with
  | none=>rw[e] at kY;cases kY
  | some b =>
   rw[e] at kY;cases kY;simp only[e,agx] at hQ;exact adm hQ
 .have e:((acD (bs.map ad5).toArray.size).all λi=>(bs[i]?).getD true)=bs.all id:=by rw[acK,acs];exact PyProof.Rows.LSm.range_all bs
  rw[e];exact⟨.bl (bs.all id),H,I.kept (λb o q=>hk b o (λz=>by
   have:b=s.heap.objs.size:=by simpa using z
   rw[this] at q;exact ad4 _ (acy q)) (acx _ q)),rfl,q⟩
theorem HE(hc:X.calm=true):eR X (.builtin "any") (λxs H Q=>∃ (a:acF) (bs:List Bool),xs=[.ref a]/\ai X.K H a (bs.map V.bl)/\Q (.bl (bs.any id)) H):=by
 intro pins s σ H xs us Q I r h;obtain⟨a,bs,rfl,hS,q⟩:=h;obtain⟨u,rfl,ru⟩:=vals1 r;cases ru;obtain⟨ao,rv,hp,_⟩:=I.list hS;have e:=z7 rv;subst e;have hl:=hp.isList;have bb:a<s.heap.objs.size:=by obtain⟨_,e,_⟩:=hl;exact acy e
 refine call_any_walk (af9 hl ?_);refine⟨s.heap.objs.size,[s.heap.objs.size,a],[s.heap.objs.size],(bs.map ad5).toArray.size,_,_,λi=>(bs[i]?).getD false,rfl,Walks.list (A:=X.A.in1) (I.ok.hd hc) _ a (acO bb) (bs.map ad5).toArray,⟨⟨_,acG _ rfl,rfl,rfl⟩,hl.push _⟩,λi v s' Q' E' hP hQ=>?_,λh' tk hk=>?_⟩
 .have kY:(bs[i]?).map ad5=some v:=by simpa using hP
  cases e:bs[i]? with
  | none=>rw[e] at kY;cases kY
  | some b =>
   rw[e] at kY;cases kY;simp only[e,agx] at hQ;exact adm hQ
 .have e:((acD (bs.map ad5).toArray.size).any λi=>(bs[i]?).getD false)=bs.any id:=by rw[acK,acs];exact PyProof.Rows.LSm.range_any bs
  rw[e];exact⟨.bl (bs.any id),H,I.kept (λb o q=>hk b o (λz=>by
   have:b=s.heap.objs.size:=by simpa using z
   rw[this] at q;exact ad4 _ (acy q)) (acx _ q)),rfl,q⟩
end
section
variable{K:acr}{g:TG}{tb:TS}{D:Ends}{σ:L2.St}{H:Hp}{a b:acF}{xs ys:List V}
theorem Rj{ta:TA}:j5 (zV K ta) g tb D σ H=ta σ H (λvs H1=>∃ a xs,vs=[.ref a]/\ai K H1 a xs/\FJ (wz K a xs.length) g tb D σ H1):=rfl
theorem Rk{ta:TA}:j5 (zY K ta) g tb D σ H=ta σ H (λvs H1=>∃ a,vs=[.ref a]/\(∃ xs,ai K H1 a xs)/\FJ (wA K a) g tb D σ H1):=rfl
theorem Rl{ta:TA}:j5 (z6 K ta) g tb D σ H=ta σ H (λvs H1=>∃ a b,vs=[.ref a,.ref b]/\(∃ xs,ai K H1 a xs)/\(∃ ys,ai K H1 b ys)/\FJ (wB K a b) g tb D σ H1):=rfl
theorem z8(Pv:Nat->L2.St->Hp->Prop)(h0:Pv 0 σ H)(hl:∀ i σ H,i<=xs.length->Pv i σ H->ai K H a xs)(hs:∀ i x σ H p,xs[i]?=some x->Pv i σ H->H p=none->g (.ref p) σ (upd H p (.tup [.int i,x])) λσ2 H2=>tb { D with nx:=Pv (i+1),ct:=Pv (i+1),bk:=D.nx } σ2 H2)(hd:∀ σ H,Pv xs.length σ H->D.nx σ H):FJ (wA K a) g tb D σ H:=by
 refine⟨λi m σ H=>m=xs.length-i/\i<=xs.length/\Pv i σ H,⟨_,rfl,ac5 _,h0⟩,?_⟩;rintro i m σ H ⟨rfl,hi,p⟩;have q:=hl i σ H hi p;by_cases bb:i<xs.length
 .refine .inr ⟨⟨xs,xs[i],q,by simp[bb]⟩,Pv (i+1),λσ' H' p'=>⟨xs.length-(i+1),by lia,rfl,bb,p'⟩,λv H' y=>?_⟩;obtain⟨w,x,rfl,hw,rfl,y⟩:=y;exact hs i x σ _ w (y xs q) p hw
 .have e:i=xs.length:=by lia
  subst e;exact .inl ⟨⟨xs,q,acC _⟩,hd σ H p⟩
theorem Rm(Pv:Nat->L2.St->Hp->Prop)(h0:Pv 0 σ H)(hl:∀ i σ H,Pv i σ H->ai K H a xs/\ai K H b ys)(hs:∀ i x y σ H p,xs[i]?=some x->ys[i]?=some y->Pv i σ H->H p=none->g (.ref p) σ (upd H p (.tup [x,y])) λσ2 H2=>tb { D with nx:=Pv (i+1),ct:=Pv (i+1),bk:=D.nx } σ2 H2)(hd:∀ σ H,Pv (min xs.length ys.length) σ H->D.nx σ H):FJ (wB K a b) g tb D σ H:=by
 refine⟨λi m σ H=>m=min xs.length ys.length-i/\i<=min xs.length ys.length/\Pv i σ H,⟨_,rfl,ac5 _,h0⟩,?_⟩;rintro i m σ H ⟨rfl,hi,p⟩;have q:=hl i σ H p;by_cases bb:i<min xs.length ys.length
 .have h1:i<xs.length:=by lia
  have h2:i<ys.length:=by lia
  refine .inr ⟨⟨xs,ys,xs[i],ys[i],q.1,q.2,by simp[h1],by simp[h2]⟩,Pv (i+1),λσ' H' p'=>⟨min xs.length ys.length-(i+1),by lia,rfl,bb,p'⟩,λv H' y=>?_⟩;obtain⟨w,x,y',rfl,hw,rfl,e1,e2⟩:=y;exact hs i x y' σ _ w (e1 xs q.1) (e2 ys q.2) p hw
 .have e:i=min xs.length ys.length:=by lia
  refine .inl ⟨⟨xs,ys,q.1,q.2,by lia⟩,hd σ H (e ▸ p)⟩
end
theorem n9{K:acr}{i j:Nat}{p:acF}{x y:V}{σ:L2.St}{H:Hp}{Q:L2.St->Hp->Prop}(h:ak K H p [x,y])(q:Q ((σ.set i (some x)).set j (some y)) H):jk K 2 (cL (b5 i) (cL (b5 j) ix)) (.ref p) σ H Q :=
 ⟨p,[x,y],rfl,h,rfl,x,[y],rfl,y,[],rfl,rfl,q⟩
section
variable{X:Cx}{K:acr}
theorem HF(h:X.K=K):zt X (zx K):=h ▸ vX
end
mutual
inductive Dat(K:acr)(H:Hp):V->ag4->Prop where
 | non:Dat K H .non .none
 | bl (b:Bool):Dat K H (.bl b) (.bool b)
 | int (i:Int):Dat K H (.int i) (.int i)
 | str (x:Str):Dat K H (.str x) (.str x)
 | tup {a:acF} {xs:List V} {ds:List ag4} (h:ak K H a xs) (r:kZ K H xs ds):Dat K H (.ref a) (.tuple ds)
 | lst {a:acF} {xs:List V} {ds:List ag4} (h:ai K H a xs) (r:kZ K H xs ds):Dat K H (.ref a) (.list ds)
inductive kZ(K:acr)(H:Hp):List V->List ag4->Prop where
 | nil:kZ K H [] []
 | cons {x:V} {d:ag4} {xs:List V} {ds:List ag4} (h:Dat K H x d) (r:kZ K H xs ds):kZ K H (x::xs) (d::ds)
end
section
variable{X:Cx}{pins:List (acF × Obj)}{σ:L2.St}{H:Hp}{s:acI}
theorem Dat.reads(I:Inv X pins σ H s)(d:ag4)(h:Dat X.K H v d):RelV v u->∃ as,Reads s.heap u d as:=by
 refine Dat.rec (motive_1:=λv d _=>∀ u,RelV v u->∃ as,Reads s.heap u d as) (motive_2:=λvs ds _=>∀ us,Vals vs us->∃ as,ReadsAll s.heap us ds as) ?_ ?_ ?_ ?_ ?_ ?_ ?_ ?_ h u
 .intro u r;cases r;exact⟨_,.none⟩
 .intro b u r;cases r;exact⟨_,.bool b⟩
 .rintro i u ⟨t,rfl⟩;exact⟨_,.int i t⟩
 .rintro x u ⟨t,rfl⟩;exact⟨_,.str x t⟩
 .intro a xs ds h q ih u r;cases r;obtain⟨ao,rv,⟨o,ho,hc,n,hd⟩,_⟩:=I.tuple h;obtain⟨as,ra⟩:=ih ao rv;exact⟨_,.tuple ho hc hd (by simpa using ra)⟩
 .intro a xs ds h q ih u r;cases r;obtain⟨ao,rv,⟨o,n,ho,hc,_,hd⟩,_⟩:=I.list h;obtain⟨as,ra⟩:=ih ao rv;exact⟨_,.list ho hc hd (by simpa using ra)⟩
 .intro us r;cases r;exact⟨_,.nil⟩
 .intro x d xs ds h q z9 Aa us r;cases r with
  | cons r1 r2 =>
   obtain⟨as,ra⟩:=z9 _ r1;obtain⟨bs,rb⟩:=Aa _ r2;exact⟨_,.cons ra rb⟩
def wF(K:acr)(neg:Bool):R2:=λx y H Q=>∃ d e,Dat K H x d/\Dat K H y e/\d.canLay0=true/\e.canLay0=true/\d.depth<=60/\Q (.bl (if neg=true then !afd d e else afd d e)) H
theorem Rn(hu:X.A.units+64<agB):aZ X (adx .Eq) (wF X.K false):=by intro pins s σ H x y v u Q I rx ry h;obtain⟨d,e,dx,dy,c1,c2,dd,q⟩:=h;obtain⟨as,ra⟩:=Dat.reads I d dx rx;obtain⟨bs,rb⟩:=Dat.reads I e dy ry;exact SeqAt.compareEq_reads ra rb c1 c2 (by lia) ⟨.bl _,H,I,rfl,q⟩
theorem Ro(hu:X.A.units+64<agB):aZ X (adx .NotEq) (wF X.K true):=by intro pins s σ H x y v u Q I rx ry h;obtain⟨d,e,dx,dy,c1,c2,dd,q⟩:=h;obtain⟨as,ra⟩:=Dat.reads I d dx rx;obtain⟨bs,rb⟩:=Dat.reads I e dy ry;exact SeqAt.compareNe_reads ra rb c1 c2 (by lia) ⟨.bl _,H,I,rfl,q⟩
end
noncomputable def wG(lo st:Int)(n:Nat):It:=⟨λi _=>i<n,λi H x H'=>H'=H/\x = .int (lo+(i:Int) * st),λi _=>n<=i⟩
theorem Rp{P:adn}{w:ad2}{K:acr}{tg:agu}(it:acF)(lo st:Int)(n:Nat):Turn P w K tg (wG lo st n) [it] it (λi h=>aiI h it (lo+(i:Nat) * st) ((n:Int)-(i:Nat)) st) where
 mem:=by simp
 obj:=λi h q b hb=>by
  have e:b=it:=by simpa using hb
  subst e;exact⟨_,q,λv z=>by
   have z':Data.fields _=Data.cell v:=z;cases z'⟩
 keep:=λi h h' q k=>k it (by simp) _ q
 item:=by intro X hP hw hK hc i pins s σ H E I hf q hg;subst hP hw hK;obtain⟨f0,f1,f2,f3,f4,f5⟩:=hf it (by simp);have W:=Walks.range (prog:=X.prog) (w:=X.w) (I.ok.hd hc) it lo st n;refine W.item i s _ _ hg q λv h' tk hv q' kk=>?_;obtain⟨t,rfl⟩:=hv;have I1:Inv X pins σ H { s with heap:=h',toks:=tk }:=I.turned (λb o hb e=>kk b o (by simpa using hb) e) f0 f1 f3 f4 f5;exact⟨_,rfl,pC (s:={ s with heap:=h',toks:=tk }) (n := "range_iterator") q' rfl rfl (by decide) ⟨.int (lo+(i:Int) * st),H,I1,⟨t,rfl⟩,⟨rfl,rfl⟩,q',λb hb=>(hf b hb).1⟩⟩
 done:=by
  intro X hP hw hK hc i pins s σ H E I hf q hg;subst hP hw hK;obtain⟨f0,f1,f2,f3,f4,f5⟩:=hf it (by simp);exact ahS (I.ok.hd hc) q (by have:n<=i:=hg;lia) λh' eb=>⟨rfl,I.turned (t':=s.toks) (λb o hb e=>eb b o hb e) f0 f1 f3 f4 f5⟩
 self:=λ_ _ _ _ _ q h=>ahT q h
noncomputable def mh(lo hi st:Int):Nat:=(adB lo hi st).toNat
def Ab(ta:TA):TI:=λσ H R=>ta σ H λvs H1=>∃ i j c:Int,vs=[.int i,.int j,.int c]/\(-1000000<=i/\i<=1000000/\-1000000<=j/\j<=1000000/\-1000000<=c/\c<=1000000/\c≠0)/\R (wG i c (mh i j c)) H1
theorem HG(i j c:Int)(h:c≠0):0<=adB i j c:=by
 unfold adB;split
 .rename_i hc;split
  .have:=aj8 (show 0<=j-i-1 by lia) (show 0<=c by lia);lia
  .lia
 .split
  .have:=aj8 (show 0<=i-j-1 by lia) (show 0 <= -c by lia);lia
  .lia
theorem size_le(i j c:Int)(h : -1000000<=i/\i<=1000000/\-1000000<=j/\j<=1000000/\c≠0):adB i j c<=2000000:=by
 unfold adB;split
 .split
  .have:=ajP (c) (show 0<=j-i-1 by lia);lia
  .lia
 .split
  .have:=ajP (-c) (show 0<=i-j-1 by lia);lia
  .lia
theorem Rq(h : -1000000<=i/\i<=1000000/\-1000000<=j/\j<=1000000/\-1000000<=c/\c<=1000000/\c≠0):Builtin.Range.small i j c=true:=by have h1:=HG i j c h.2.2.2.2.2.2;have h2:=size_le i j c ⟨h.1,h.2.1,h.2.2.1,h.2.2.2.1,h.2.2.2.2.2.2⟩;unfold Builtin.Range.small;generalize adB i j c=n at h1 h2 ⊢;simp only[aj9,adz,agQ,decide_eq_true_eq,beq_iff_eq];refine⟨by lia,.inr ?_⟩;split<;>simp only[adz,decide_eq_true_eq]<;>lia
theorem Rr(hg:Gl X "range")(hm:X.mg "range" = none)(ha:PA X [a,b,c] ta)(hs:acW [a,b,c] X.env=(false,eval a X.env)::acW [b,c] X.env:=by rfl)(cZ:acW [b,c] X.env=[(false,eval b X.env),(false,eval c X.env)]:=by rfl) :
 PI X tg (.Call (.Name "range" p) [a,b,c] [] pos) (Ab ta):=by
 intro pins s σ H R I h;refine ak5 (fO I hg hm akx (adg (aB (ha pos pins s σ H _ I h) λus s1 ⟨vs,H1,I1,r1,q1⟩=>?_) (by rw[hs]) (by rw[cZ];rfl)));obtain⟨i,j,k,e,hb,q⟩:=q1;subst e;cases r1 with
 | cons r rr =>
  cases rr with
  | cons r' rr =>
   cases rr with
   | cons sQ rr =>
    cases rr;obtain⟨t,rfl⟩:=r;obtain⟨t',rfl⟩:=r';obtain⟨HH,rfl⟩:=sQ;have hk:k≠0:=hb.2.2.2.2.2.2;refine call_range_3 hk ?_ (.inl (PyProof.noPylong_small (by lia)));refine ai0 (IsRange.new ..) (Rq hb) ?_;have I2:Inv X pins σ H1 { s1 with heap:=s1.heap.push { cls:=.type "range",data:=.fields #[.int i t,.int j t',.int k HH] },toks:=s1.toks }:=I1.kept λb o e=>acx _ e;refine⟨_,[_],_,_,H1,rfl,I2.kept (t':=s1.toks) λb o e=>acx _ e,Rp _ i k (mh i j k),?_,λb hb=>?_,q⟩
    .have e1:i+((0:Nat):Int) * k=i:=by simp
     have e2:((mh i j k:Nat):Int)-((0:Nat):Int)=adB i j k:=by have:=HG i j k hk;unfold mh;lia
     show aiI _ _ (i+((0:Nat):Int) * k) (((mh i j k:Nat):Int)-((0:Nat):Int)) k;rw[e1,e2];exact acG _ rfl
    .have e:b=(s1.heap.push { cls:=.type "range",data:=.fields #[.int i t,.int j t',.int k HH] }).objs.size:=by simpa using hb
     subst e;exact I2.iy (acC _) (I2.ay.fresh (acC _))
section
variable{g:TG}{tb:TS}{D:Ends}{σ:L2.St}{H:Hp}{lo st:Int}{n:Nat}
theorem Rt:j5 (yY ta) g tb D σ H=ta σ H (λvs H1=>∃ i j:Int,vs=[.int i,.int j]/\(-(2 ^ 62)<=i/\i<2 ^ 62/\-(2 ^ 62)<=j/\j<2 ^ 62)/\FJ (iz i (j-i).toNat) g tb D σ H1):=rfl
theorem Ru:j5 (Ab ta) g tb D σ H=ta σ H (λvs H1=>∃ i j c:Int,vs=[.int i,.int j,.int c]/\(-1000000<=i/\i<=1000000/\-1000000<=j/\j<=1000000/\-1000000<=c/\c<=1000000/\c≠0)/\FJ (wG i c (mh i j c)) g tb D σ H1):=rfl
theorem Rv(Pv:Nat->L2.St->Hp->Prop)(h0:Pv 0 σ H)(hs:∀ i σ H,i<n->Pv i σ H->g (.int (lo+(i:Int) * st)) σ H λσ2 H2=>tb { D with nx:=Pv (i+1),ct:=Pv (i+1),bk:=D.nx } σ2 H2)(hd:∀ σ H,Pv n σ H->D.nx σ H):FJ (wG lo st n) g tb D σ H:=by
 refine⟨λi m σ H=>m=n-i/\i<=n/\Pv i σ H,⟨n,by simp,ac5 _,h0⟩,?_⟩;rintro i m σ H ⟨rfl,hi,p⟩;by_cases bb:i<n
 .refine .inr ⟨bb,Pv (i+1),λσ' H' p'=>⟨n-(i+1),by lia,rfl,bb,p'⟩,λx H' y=>?_⟩;obtain⟨e,y⟩:=y;subst e y;exact hs i σ _ bb p
 .have e:i=n:=by lia
  subst e;exact .inl ⟨acC _,hd σ H p⟩
end
theorem Rw(xs:List V){a b:Nat}(h2:b<=xs.length):iC xs (some (a:Int)) (some (b:Int))=(xs.drop a).take (b-a):=by
 unfold iC;rw[HT.vW,HT.vW,afW h2];by_cases h:a<=xs.length
 .rw[afW h]
 .rw[ahO (by lia),afe (acC _),afe (by lia)];simp
theorem Rx(xs:List V)(b:Nat):iC xs none (some (b:Int))=xs.take b:=by
 unfold iC;rw[HT.vW,HT.Gk,List.drop_zero,Nat.sub_zero];by_cases h:b<=xs.length
 .rw[afW h]
 .rw[ahO (by lia),adu,af6 (by lia)]
theorem HI(xs:List V)(a:Nat):iC xs (some (a:Int)) none=xs.drop a:=by
 unfold iC;rw[HT.vW,HT.Gk];by_cases h:a<=xs.length
 .rw[afW h,af6 (by rw[ae9];lia)]
 .rw[ahO (by lia),afe (acC _),afe (by lia)];simp
mutual
noncomputable def iK:Nat->ag4->Bool
 | _,.none=>true
 | _,.bool _=>true
 | _,.int _=>true
 | n+1,.tuple ds=>pX n ds
 | n+1,.list ds=>pX n ds
 | _,_=>false
noncomputable def pX:Nat->List ag4->Bool
 | _,[]=>true
 | n,d::ds=>iK n d && pX n ds
end
mutual
theorem HJ:∀ (d:ag4) {n:Nat},iK n d=true->afd d d=true/\d.canLay0=true/\d.depth<=n
 | .none,n,_=>⟨rfl,rfl,ac5 _⟩
 | .bool b,n,_=>⟨by simp[afd],rfl,ac5 _⟩
 | .int i,n,_=>⟨by simp[afd],rfl,ac5 _⟩
 | .str x,0,h=>by simp[iK] at h
 | .str x,n+1,h=>by simp[iK] at h
 | .dict x,0,h=>by simp[iK] at h
 | .dict x,n+1,h=>by simp[iK] at h
 | .tuple ds,0,h=>by simp[iK] at h
 | .list ds,0,h=>by simp[iK] at h
 | .tuple ds,n+1,h=>by obtain⟨a,b,c⟩:=Ac ds (n:=n) (by simpa [iK] using h);exact⟨by simpa only [afd] using a,by simpa only [aiC] using b,by simp only[PyData.depth];lia⟩
 | .list ds,n+1,h=>by obtain⟨a,b,c⟩:=Ac ds (n:=n) (by simpa [iK] using h);exact⟨by simpa only [afd] using a,by simpa only [aiC] using b,by simp only[PyData.depth];lia⟩
theorem Ac:∀ (ds:List ag4) {n:Nat},pX n ds=true->agC ds ds=true/\agd ds=true/\afn ds<=n
 | [],n,_=>⟨rfl,rfl,ac5 _⟩
 | d::ds,n,h=>by
  have h':iK n d=true/\pX n ds=true:=by simpa [pX] using h
  obtain⟨a,b,c⟩:=HJ d h'.1;obtain⟨a',b',c'⟩:=Ac ds h'.2;exact⟨by simp only[agC,a,a',ahD],by simp only[agd,b,b',ahD],by simp only[afn];lia⟩
end
end Gz
namespace Gz
noncomputable def HK(a b:Int):Int:=((Nat.gcd a.natAbs b.natAbs:Nat):Int)
noncomputable def sg(t b:Int):Int:=if b<0 then -HK t b else HK t b
noncomputable def rt(t b:Int):Int:=t.fdiv (sg t b)
noncomputable def rb(t b:Int):Int:=b.fdiv (sg t b)
end Gz
namespace Gz
open PySem PySem.Spec PyProof.Rows L2
def ax{α:Type}(R:V->α->Prop):List V->List α->Prop
 | [],[]=>True
 | x::xs,a::as=>R x a/\ax R xs as
 | _,_=>False
section
variable{α:Type}{R R':V->α->Prop}
theorem ax.len:∀ {xs:List V} {as:List α},ax R xs as->xs.length=as.length
 | [],[],_=>rfl
 | _::_,_::_,h=>by simp[ax.len h.2]
 | [],_::_,h=>h.elim
 | _::_,[],h=>h.elim
theorem ax.imp(f:∀ x a,R x a->R' x a):∀ {xs:List V} {as:List α},ax R xs as->ax R' xs as
 | [],[],_=>trivial
 | _::_,_::_,h=>⟨f _ _ h.1,ax.imp f h.2⟩
 | [],_::_,h=>h.elim
 | _::_,[],h=>h.elim
theorem ax.get:∀ {xs:List V} {as:List α},ax R xs as->∀ {i:Nat} {x:V},xs[i]?=some x->∃ a,as[i]?=some a/\R x a
 | [],[],_,i,x,e=>by simp at e
 | _::_,a::_,h,0,x,e=>by simp at e;subst e;exact⟨a,by simp,h.1⟩
 | _::_,_::_,h,i+1,x,e=>by simp only[afX] at e ⊢;exact ax.get h.2 e
 | [],_::_,h,_,_,_=>h.elim
 | _::_,[],h,_,_,_=>h.elim
theorem ax.at:∀ {xs:List V} {as:List α},ax R xs as->∀ {i:Nat} {a:α},as[i]?=some a->∃ x,xs[i]?=some x/\R x a
 | [],[],_,i,x,e=>by simp at e
 | x::_,_::_,h,0,a,e=>by simp at e;subst e;exact⟨x,by simp,h.1⟩
 | _::_,_::_,h,i+1,a,e=>by simp only[afX] at e ⊢;exact ax.at h.2 e
 | [],_::_,h,_,_,_=>h.elim
 | _::_,[],h,_,_,_=>h.elim
theorem ax.app:∀ {xs ys:List V} {as bs:List α},ax R xs as->ax R ys bs->ax R (xs++ys) (as++bs)
 | [],_,[],_,_,h=>h
 | _::_,_,_::_,_,h,h'=>⟨h.1,ax.app h.2 h'⟩
 | [],_,_::_,_,h,_=>h.elim
 | _::_,_,[],_,h,_=>h.elim
theorem ax.snoc(h:ax R xs as)(h':R x a):ax R (xs++[x]) (as++[a]):=h.app ⟨h',trivial⟩
theorem ax.ints:∀ (ns:List Int),ax (λx n=>x=V.int n) (ns.map V.int) ns
 | []=>trivial
 | n::ns=>⟨rfl,ax.ints ns⟩
theorem ax.fZ{lo:Int}(n:Nat):ax (λx (k:Nat)=>x=V.int (lo+k)) ((acD n).map λk=>V.int (lo+(k:Nat))) (acD n):=by
 suffices ∀ l:List Nat,ax (λx (k:Nat)=>x=V.int (lo+k)) (l.map λk=>V.int (lo+(k:Nat))) l from this _
 intro l
 induction l with
 | nil=>trivial
 | cons a l ih=>exact⟨rfl,ih⟩
end
theorem wH{α:Type}{R:Hp->V->α->Prop}{Ok:Hp->Prop}{ρ:L2.St}{tt:TT}{te:TE}{p:α->Bool}{f:α->V}{Q':List V->Hp->Prop}(mono:∀ H H' x a,ah H H'->R H x a->R H' x a):∀ {xs:List V} {as:List α} {ys:List V} {H:Hp},ax (R H) xs as->(∀ H',ah H H'->Ok H') ->
 (∀ x a,a∈as->∀ H',ah H H'->R H' x a->∀ Q,(∀ jx,ah H' jx->Q (p a) jx)->tt (some x::ρ) H' Q)->(∀ x a,a∈as->p a=true->∀ H',ah H H'->R H' x a->∀ Q:VK,(∀ jx,ah H' jx->Q (f a) jx)->te (some x::ρ) H' Q) ->
 (∀ H',ah H H'->Q' (ys++(as.filter p).map f) H')->eT Ok ρ tt te xs ys H Q'
 | [],[],ys,H,_,cv,_,_,q=>⟨cv H (ah.refl H),by simpa using q H (ah.refl H)⟩
 | x::xs,a::as,ys,H,h,cv,ht,he,q=>by
  refine⟨cv H (ah.refl H),ht x a (.head _) H (ah.refl H) h.1 _ λH1 s1=>?_⟩;by_cases hb:p a=true
  .rw[if_pos hb];refine he x a (.head _) hb H1 s1 (mono _ _ _ _ s1 h.1) _ λH2 s2=>?_;have S:=s1.trans s2;refine wH mono (h.2.imp λx a r=>mono _ _ _ _ S r) (λH' s'=>cv H' (S.trans s')) (λx a ha H' s'=>ht x a (.tail _ ha) H' (S.trans s')) (λx a ha hb H' s'=>he x a (.tail _ ha) hb H' (S.trans s')) λH' s'=>?_;have:=q H' (S.trans s');rw[adk,if_pos hb] at this;simpa using this
  .rw[if_neg hb];refine wH mono (h.2.imp λx a r=>mono _ _ _ _ s1 r) (λH' s'=>cv H' (s1.trans s')) (λx a ha H' s'=>ht x a (.tail _ ha) H' (s1.trans s')) (λx a ha hb H' s'=>he x a (.tail _ ha) hb H' (s1.trans s')) λH' s'=>?_;have:=q H' (s1.trans s');rw[adk,if_neg hb] at this;exact this
 | [],_::_,_,_,h,_,_,_,_=>h.elim
 | _::_,[],_,_,h,_,_,_,_=>h.elim
theorem k6(cv:Ok H):∀ {xs:List V} {as:List α} {ys:List V},ax R xs as ->
 (∀ x a,a∈as->R x a->∀ Q,Q (p a) H->tt (some x::ρ) H Q)->(∀ x a,a∈as->p a=true->R x a->∀ Q:VK,Q (f a) H->te (some x::ρ) H Q) ->
 Q' (ys++(as.filter p).map f) H->eT Ok ρ tt te xs ys H Q'
 | [],[],ys,_,_,_,q=>⟨cv,by simpa using q⟩
 | x::xs,a::as,ys,h,ht,he,q=>by
  refine⟨cv,ht x a (.head _) h.1 _ ?_⟩;by_cases hb:p a=true
  .rw[if_pos hb];refine he x a (.head _) hb h.1 _ (k6 cv h.2 (λx a ha=>ht x a (.tail _ ha)) (λx a ha=>he x a (.tail _ ha)) ?_);rw[adk,if_pos hb] at q;simpa using q
  .rw[if_neg hb];refine k6 cv h.2 (λx a ha=>ht x a (.tail _ ha)) (λx a ha=>he x a (.tail _ ha)) ?_;rw[adk,if_neg hb] at q;exact q
 | [],_::_,_,h,_,_,_=>h.elim
 | _::_,[],_,h,_,_,_=>h.elim
theorem filter_tt(l:List α):l.filter (λ_=>true)=l:=aeF.mpr λ_ _=>rfl
abbrev P2:=Int × Int
def cH(H:Hp)(v:V)(p:P2):Prop:=∃ a,v = .ref a/\H a=some (.tup [.int p.1,.int p.2])
theorem cH.same(h:cH H v p)(s:ah H H'):cH H' v p:=let ⟨a,e,q⟩:=h;⟨a,e,s _ _ q⟩
theorem cH.put(h:cH H v p)(hr:H r=some (.lst ys)):cH (upd H r (.lst zs)) v p:=by obtain⟨a,e,q⟩:=h;refine⟨a,e,?_⟩;rw[aD (pf q hr (λz=>nomatch z))];exact q
abbrev bR(H:Hp):List V->List P2->Prop:=ax (cH H)
theorem bR.same(h:bR H xs ps)(s:ah H H'):bR H' xs ps:=ax.imp (λ_ _ r=>r.same s) h
noncomputable def aside(s e p:P2):Int:=(p.2-s.2) * (e.1-s.1)-(p.1-s.1) * (e.2-s.2)
noncomputable def aF(ps:List P2)(i:Nat):P2:=ps.getD i (0,0)
def Ry(ks:List P2)(p q:Int)(i:Nat):Prop:=i+1<ks.length/\(aF ks i).1 * q<=p/\p<=(aF ks (i+1)).1 * q
def hit(ks:List P2)(p q:Int):Prop:=∃ i,Ry ks p q i
def SameBut(x:acF)(H H':Hp):Prop:=∀ b o,b≠x->H b=some o->H' b=some o
theorem pY(hi:i<ps.length):aF ps i∈ps:=by unfold aF;rw[acu,acv hi];exact ahP hi
theorem gi{α β:Type}{R:Hp->V->α->Prop}{R':Hp->V->β->Prop}{Ok:Hp->Prop}{ρ:L2.St}{tt:TT}{te:TE}{f:α->β}{Q':List V->Hp->Prop}(mono:∀ H H' x a,ah H H'->R H x a->R H' x a)(pZ:∀ H H' x a,ah H H'->R' H x a->R' H' x a) :
 ∀ {xs:List V} {as:List α} {ys:List V} {bs:List β} {H:Hp},ax (R H) xs as->ax (R' H) ys bs->(∀ H',ah H H'->Ok H')->(∀ x a,a∈as->∀ H',ah H H'->R H' x a->∀ Q,Q true H'->tt (some x::ρ) H' Q) ->
 (∀ x a,a∈as->∀ H',ah H H'->R H' x a->∀ Q:VK,(∀ jx y,ah H' jx->R' jx y (f a)->Q y jx)->te (some x::ρ) H' Q) ->
 (∀ H' zs,ah H H'->ax (R' H') zs (bs++as.map f)->Q' zs H')->eT Ok ρ tt te xs ys H Q'
 | [],[],ys,bs,H,_,hy,cv,_,_,q=>⟨cv H (ah.refl H),q H ys (ah.refl H) (by simpa using hy)⟩
 | x::xs,a::as,ys,bs,H,h,hy,cv,ht,he,q=>by
  refine⟨cv H (ah.refl H),ht x a (.head _) H (ah.refl H) h.1 _ ?_⟩;rw[if_pos rfl];refine he x a (.head _) H (ah.refl H) h.1 _ λH2 y s2 r2=>?_;refine gi mono pZ (bs:=bs++[f a]) (h.2.imp λx a r=>mono _ _ _ _ s2 r) ((hy.imp λx a r=>pZ _ _ _ _ s2 r).snoc r2) (λH' s'=>cv H' (s2.trans s')) (λx a ha H' s'=>ht x a (.tail _ ha) H' (s2.trans s')) (λx a ha H' s'=>he x a (.tail _ ha) H' (s2.trans s')) λH' zs s' hz=>?_;refine q H' zs (s2.trans s') ?_;rw[acN]
  rwa [ajs] at hz
 | [],_::_,_,_,_,h,_,_,_,_,_=>h.elim
 | _::_,[],_,_,_,h,_,_,_,_,_=>h.elim
noncomputable def sw(ks:List P2):List P2:=ks.map λp=>(p.2,p.1)
end Gz
namespace Gz
open PySem PySem.W PyProof.Rows
def eL{α:Type}(lt:Nat->Nat->Bool)(n:Nat):KasT α->(α->Prop)->Prop
 | .ret a,P=>P a
 | .ask i j k,P=>i<n/\j<n/\eL lt n (k (lt i j)) P
section
theorem p8:∀ (t:KasT α),eL lt n t (λa=>eL lt n (f a) P)->eL lt n (t.bind f) P
 | .ret _,h=>h
 | .ask _ _ k,h=>⟨h.1,h.2.1,p8 (k _) h.2.2⟩
theorem HL{α:Type}{P P':α->Prop}(h:∀ a,P a->P' a):∀ (t:KasT α),eL lt n t P->eL lt n t P'
 | .ret _,q=>h _ q
 | .ask _ _ k,q=>⟨q.1,q.2.1,HL h (k _) q.2.2⟩
theorem HM{α:Type}{cmp:Nat->Nat->(Bool->acI->Prop)->acI->Prop}{Ok:acI->Prop}(hc:∀ i j C s,i<n->j<n->Ok s->(∀ s',Ok s'->C (lt i j) s')->cmp i j C s){P:α->Prop}{Q:α->acI->Prop}(hQ:∀ a s,Ok s->P a->Q a s) :
 ∀ (t:KasT α) (s:acI),Ok s->eL lt n t P->t.kasWp cmp Q s
 | .ret a,s,o,h=>hQ a s o h
 | .ask i j k,s,o,h=>hc i j _ s h.1 h.2.1 o λs' o'=>HM hc hQ (k (lt i j)) s' o' h.2.2
structure Ord(lt:Nat->Nat->Bool):Prop where
 asym:∀ {a b},lt a b=true->lt b a=false
 tr:∀ {a b c},lt b a=false->lt c b=false->lt c a=false
theorem Ord.rfl'(O:Ord lt)(a:Nat):lt a a=false:=by
 cases h:lt a a with
 | false=>rfl
 | true=>rw[O.asym h] at h;cases h
def eM(lt:Nat->Nat->Bool)(p:Array Nat)(k:Nat):Prop:=∀ i j,i<=j->j<k->lt (p.getD j 0) (p.getD i 0)=false
def fP(lt:Nat->Nat->Bool)(p:Array Nat)(k:Nat):Prop:=∀ i j,i<=j->j<k->lt (p.getD i 0) (p.getD j 0)=false
def cI(n:Nat)(p:Array Nat):Prop:=p.toList.Perm (acD n)
theorem cI.size(h:cI n p):p.size=n:=by have:=h.length_eq;simpa using this
theorem cI.below(h:cI n p)(hi:i<n):p.getD i 0<n:=by
 have hs:=h.size;have cW:i<p.size:=by lia
 have e:p.getD i 0=p[i]:=by simp[akA,cW]
 rw[e];have m:p[i]∈p.toList:=by simp
 simpa using h.mem_iff.mp m
theorem cI.of(h:cI n p)(hq:q.Perm p):cI n q:=(Array.perm_iff_toList_perm.mp hq).trans h
theorem eM.one(O:Ord lt):eM lt p 1:=λi j gA hj=>by
 have:i=j:=by lia
 subst this;exact O.rfl' _
theorem fP.one(O:Ord lt):fP lt p 1:=λi j gA hj=>by
 have:i=j:=by lia
 subst this;exact O.rfl' _
theorem eM.succ(O:Ord lt)(h:eM lt p k)(hk:1<=k)(hn:lt (p.getD k 0) (p.getD (k-1) 0)=false):eM lt p (k+1):=λi j gA hj=>by
 by_cases e:j=k
 .subst e;by_cases ei:i=j
  .subst ei;exact O.rfl' _
  .exact O.tr (h i (j-1) (by lia) (by lia)) hn
 .exact h i j gA (by lia)
theorem fP.succ(O:Ord lt)(h:fP lt p k)(hk:1<=k)(hn:lt (p.getD (k-1) 0) (p.getD k 0)=false):fP lt p (k+1):=λi j gA hj=>by
 by_cases e:j=k
 .subst e;by_cases ei:i=j
  .subst ei;exact O.rfl' _
  .exact O.tr hn (h i (j-1) (by lia) (by lia))
 .exact h i j gA (by lia)
theorem mi(hj:j<=p.size)(k:Nat):(kas_rev p i j).getD k 0=if i<=k/\k<j then p.getD (i+j-1-k) 0 else p.getD k 0:=by simp only[agR];unfold kas_rev;rw[getElem?_mirror_all hj];split<;>rfl
theorem HN(hk:k<p.size)(hl:l<=k)(i:Nat):(bubble p k (k-l)).getD i 0=if i=l then p.getD k 0 else if l<i/\i<=k then p.getD (i-1) 0 else p.getD i 0:=by
 simp only[agR];rw[getElem?_bubble hk _ (by lia)];have e:k-(k-l)=l:=by lia
 rw[e];split
 .rfl
 .split<;>rfl
theorem HP(O:Ord lt)(hp:cI n p):∀ (f a:Nat),1<=a->a+f<=n->eM lt p a->(∀ m,a<=m->m<=a+f->eM lt p m->P m)->eL lt n (kas_asc p f a) P
 | 0,a,h1,h2,hs,q=>q a (acC _) (by lia) hs
 | f+1,a,h1,h2,hs,q=>by
  refine⟨hp.below (by lia),hp.below (by lia),?_⟩;cases c:lt (p.getD a 0) (p.getD (a-1) 0) with
  | true =>
   simp only[↓reduceIte];exact q a (acC _) (by lia) hs
  | false =>
   simp only[ac2,↓reduceIte];exact HP O hp f (a+1) (by lia) (by lia) (hs.succ O h1 c) λm m1 m2=>q m (by lia) (by lia)
theorem fP.rev(h:fP lt p k)(hk:k<=p.size)(hi:i<=k)(he:∀ j,i<=j->j<k->lt (p.getD (k-1) 0) (p.getD j 0)=false)(O:Ord lt):fP lt (kas_rev p i k) k:=λa b gj hb=>by
 rw[mi hk,mi hk];have eqv:∀ x y,i<=x->x<k->i<=y->y<k->lt (p.getD x 0) (p.getD y 0)=false:=λx y x1 x2 y1 y2=>O.tr (he y y1 y2) (h x (k-1) (by lia) (by lia));split
 .split
  .exact eqv _ _ (by lia) (by lia) (by lia) (by lia)
  .exfalso;lia
 .split
  .exact h _ _ (by lia) (by lia)
  .exact h _ _ gj hb
theorem wI(O:Ord lt):∀ (f:Nat) (p:Array Nat) (k q:Nat),cI n p->1<=k->k+f<=n->q+1<=k->fP lt p k->(∀ j,k-(q+1)<=j->j<k->lt (p.getD (k-1) 0) (p.getD j 0)=false) ->
 (∀ p' k' q',cI n p'->k<=k'->k'<=k+f->q' + 1<=k'->fP lt p' k'->(∀ j,k' - (q' + 1)<=j->j<k'->lt (p'.getD (k' - 1) 0) (p'.getD j 0)=false)->P (p',k',q'))->eL lt n (kas_desc f p k q) P
 | 0,p,k,q,hp,h1,h2,h3,hd,he,fin=>fin p k q hp (acC _) (by lia) h3 hd he
 | f+1,p,k,q,hp,h1,h2,h3,hd,he,fin=>by
  have hs:=hp.size;have one:∀ (p':Array Nat),∀ j,(k+1)-(0+1)<=j->j<k+1->lt (p'.getD (k+1-1) 0) (p'.getD j 0)=false:=λp' j j1 j2=>by
   have:j=k:=by lia
   subst this;exact O.rfl' _
  refine⟨hp.below (by lia),hp.below (by lia),?_⟩;cases c:lt (p.getD k 0) (p.getD (k-1) 0) with
  | true =>
   simp only[↓reduceIte];have c':=O.asym c;by_cases hq:q > 0
   .rw[if_pos hq];have dZ:cI n (kas_rev p (k-(q+1)) k):=hp.of (aiO _ _ _ _);have jh:fP lt (kas_rev p (k-(q+1)) k) k:=hd.rev (by lia) (by lia) he O;refine wI O f _ (k+1) 0 dZ (by lia) (by lia) (by lia) (jh.succ O h1 ?_) (one _) λp2 k2 q2 a1 a2 a3 a4 a5 a6=>fin p2 k2 q2 a1 (by lia) (by lia) a4 a5 a6;rw[mi (by lia),mi (by lia),if_pos (by lia),if_neg (by lia)];have e1:k-(q+1)+k-1-(k-1)=k-(q+1):=by lia
    rw[e1];exact O.tr c' (hd _ (k-1) (by lia) (by lia))
   .rw[if_neg hq];exact wI O f p (k+1) 0 hp (by lia) (by lia) (by lia) (hd.succ O h1 c') (one _) λp2 k2 q2 a1 a2 a3 a4 a5 a6=>fin p2 k2 q2 a1 (by lia) (by lia) a4 a5 a6
  | false =>
   simp only[ac2,↓reduceIte];refine⟨hp.below (by lia),hp.below (by lia),?_⟩;cases d:lt (p.getD (k-1) 0) (p.getD k 0) with
   | true =>
    simp only[↓reduceIte];exact fin p k q hp (acC _) (by lia) h3 hd he
   | false =>
    simp only[ac2,↓reduceIte];refine wI O f p (k+1) (q+1) hp (by lia) (by lia) (by lia) (hd.succ O h1 d) (λj j1 j2=>?_) λp2 k2 q2 a1 a2 a3 a4 a5 a6=>fin p2 k2 q2 a1 (by lia) (by lia) a4 a5 a6;have ek:k+1-1=k:=by lia
    rw[ek];by_cases ej:j=k
    .subst ej;exact O.rfl' _
    .exact O.tr (he j (by lia) (by lia)) c
theorem fP.whole(h:fP lt p k)(hk:k<=p.size):eM lt (kas_rev p 0 k) k:=λa b gj hb=>by rw[mi hk,mi hk,if_pos (by lia),if_pos (by lia)];exact h _ _ (by lia) (by lia)
theorem HQ(O:Ord lt)(hp:cI n p)(h1:1<=k)(h2:k<=n)(hd:fP lt p k)(fin:∀ m p',cI n p'->1<=m->m<=n->eM lt p' m->P (m,p')):eL lt n (kas_tail3 k n p) P:=by have dZ:cI n (kas_rev p 0 k):=hp.of (aiO _ _ _ _);have hs:=hp.size;unfold kas_tail3;refine p8 _ (HP O dZ (n-k) k h1 (by lia) (hd.whole (by lia)) λm m1 m2 ms=>?_);exact fin m _ dZ (by lia) (by lia) ms
theorem HR(O:Ord lt)(hp:cI n p)(h1:1<=k)(h2:k+1<=n)(hd:fP lt p (k+1))(fin:∀ m p',cI n p'->1<=m->m<=n->eM lt p' m->P (m,p')):eL lt n (kas_descPart k n p) P:=by
 unfold kas_descPart;refine p8 _ (wI O (n-(k+1)) p (k+1) 0 hp (by lia) (by lia) (by lia) hd (λj j1 j2=>?_) λp2 k2 q2 a1 a2 a3 a4 a5 a6=>?_)
 .have:j=k:=by lia
  subst this;exact O.rfl' _
 .have hs:=a1.size;dsimp only;by_cases hq:q2 > 0
  .rw[if_pos hq];exact HQ O (a1.of (aiO _ _ _ _)) (by lia) (by lia) (a5.rev (by lia) (by lia) a6 O) fin
  .rw[if_neg hq];exact HQ O a1 (by lia) (by lia) a5 fin
theorem Rz(O:Ord lt)(hp:cI n p)(hn:1<=n)(fin:∀ m p',cI n p'->1<=m->m<=n->eM lt p' m->P (m,p')):eL lt n (kas_count n p) P:=by
 have hs:=hp.size;unfold kas_count;have key:eL lt n (kas_asc p (n-1) 1) (λm=>1<=m/\m<=n/\eM lt p m/\(m<n->lt (p.getD m 0) (p.getD (m-1) 0)=true)):=by
  have gen:∀ (f a:Nat),1<=a->a+f=n->eM lt p a->eL lt n (kas_asc p f a) (λm=>1<=m/\m<=n/\eM lt p m/\(m<n->lt (p.getD m 0) (p.getD (m-1) 0)=true)):=by
   intro f
   induction f with
   | zero=>intro a h1 h2 hs;exact⟨h1,by lia,hs,λz=>absurd z (by lia)⟩
   | succ f ih =>
    intro a h1 h2 hs;refine⟨hp.below (by lia),hp.below (by lia),?_⟩;cases c:lt (p.getD a 0) (p.getD (a-1) 0) with
    | true =>
     simp only[↓reduceIte];exact⟨h1,by lia,hs,λ_=>c⟩
    | false =>
     simp only[ac2,↓reduceIte];exact ih (a+1) (by lia) (by lia) (hs.succ O h1 c)
  exact gen (n-1) 1 (acC _) (by lia) (eM.one O)
 refine p8 _ (HL (λm hm=>?_) _ key);obtain⟨m1,m2,ms,mc⟩:=hm;by_cases e:(m == n)=true
 .rw[if_pos e];exact fin m p hp m1 m2 ms
 .rw[if_neg e];have RA:m<n:=by
   have:m≠n:=by simpa using e
   lia
  have mc:=mc RA;by_cases h2:m > 1
  .rw[if_pos h2];refine⟨hp.below (by lia),hp.below (by lia),?_⟩;cases c:lt (p.getD 0 0) (p.getD (m-1) 0) with
   | true =>
    simp only[↓reduceIte];exact fin m p hp m1 m2 ms
   | false =>
    simp only[ac2,↓reduceIte];have eqv:∀ x y,x<m->y<m->lt (p.getD x 0) (p.getD y 0)=false:=λx y hx hy =>
     O.tr (ms y (m-1) (by lia) (by lia)) (O.tr c (ms 0 x (by lia) hx))
    have dZ:cI n (kas_rev p 0 m):=hp.of (aiO _ _ _ _);refine HR O dZ m1 (by lia) (λi j gA hj=>?_) fin;rw[mi (by lia),mi (by lia)];by_cases ej:j=m
    .subst ej;rw[if_neg (show ¬ (0<=j/\j<j) by lia)];split
     .exact O.tr (O.asym mc) (eqv _ _ (by lia) (by lia))
     .have:i=j:=by lia
      subst this;exact O.rfl' _
    .rw[if_pos (by lia),if_pos (by lia)];exact eqv _ _ (by lia) (by lia)
  .rw[if_neg h2];have e1:m=1:=by lia
   subst e1;exact HR O hp (acC _) (by lia) ((fP.one O).succ O (acC _) (O.asym mc)) fin
theorem Ad(O:Ord lt)(hp:cI n p)(hk:k<n)(hs:eM lt p k)(fin:∀ m,m<=k->(∀ i,i<m->lt (p.getD k 0) (p.getD i 0)=false)->(∀ i,m<=i->i<k->lt (p.getD i 0) (p.getD k 0)=false)->P m) :
 ∀ (f l r:Nat),r-l<=f->l<=r->r<=k->(∀ i,i<l->lt (p.getD k 0) (p.getD i 0)=false)->(∀ i,r<=i->i<k->lt (p.getD i 0) (p.getD k 0)=false)->eL lt n (kas_place p k f l r) P
 | 0,l,r,h1,h2,h3,a,b=>by
  have:l=r:=by lia
  subst this;exact fin l h3 a b
 | f+1,l,r,h1,h2,h3,a,b=>by
  unfold kas_place;by_cases hlr:l ≥ r
  .rw[if_pos hlr];have:l=r:=by lia
   subst this;exact fin l h3 a b
  .rw[if_neg hlr];refine⟨hp.below hk,hp.below (by lia),?_⟩;cases c:lt (p.getD k 0) (p.getD ((l+r) / 2) 0) with
   | true =>
    simp only[↓reduceIte];refine Ad O hp hk hs fin f l ((l+r) / 2) (by lia) (by lia) (by lia) a λi i1 i2=>?_;exact O.tr (O.asym c) (hs _ _ i1 i2)
   | false =>
    simp only[ac2,↓reduceIte];refine Ad O hp hk hs fin f ((l+r) / 2+1) r (by lia) (by lia) h3 (λi i1=>?_) b;exact O.tr (hs i ((l+r) / 2) (by lia) (by lia)) c
theorem HS(O:Ord lt)(fin:∀ p,cI n p->eM lt p n->P p):∀ (f:Nat) (p:Array Nat) (k:Nat),k+f=n->cI n p->eM lt p k->eL lt n (kas_bin f p k) P
 | 0,p,k,h,hp,hs=>fin p hp (by rw[<- h];exact hs)
 | f+1,p,k,h,hp,hs=>by
  have sz:=hp.size;unfold kas_bin;refine p8 _ (Ad O hp (by lia) hs (λm m1 ma mb=>?_) k 0 k (by lia) (by lia) (acC _) (λ_ z=>absurd z (by lia)) λ_ z1 z2=>absurd z2 (by lia));refine HS O fin f _ (k+1) (by lia) (hp.of (bubble_perm _ _ _)) λi j gA hj=>?_;rw[HN (by lia) m1,HN (by lia) m1];by_cases ei:i=m
  .rw[if_pos ei];by_cases ej:j=m
   .rw[if_pos ej];exact O.rfl' _
   .rw[if_neg ej,if_pos (by lia)];exact mb _ (by lia) (by lia)
  .rw[if_neg ei];by_cases ej:j=m
   .rw[if_pos ej,if_neg (by lia)];exact ma _ (by lia)
   .rw[if_neg ej];split
    .split
     .exact hs _ _ (by lia) (by lia)
     .exact hs _ _ (by lia) (by lia)
    .split
     .exfalso;lia
     .exact hs _ _ (by lia) (by lia)
theorem HU(O:Ord lt)(hn:1<=n):eL lt n (kas_sort n) (λp=>cI n p/\eM lt p n):=by
 unfold kas_sort;have h0:cI n (aeO (acD n)):=by unfold cI;simp
 refine p8 _ (Rz O h0 hn λm p hp m1 m2 ms=>?_);dsimp only;by_cases h:m<n
 .rw[if_pos h];have e:max m 1=m:=by lia
  rw[e];exact HS O (λp hp hs=>⟨hp,hs⟩) (n-m) p m (by lia) hp ms
 .rw[if_neg h];have e:m=n:=by lia
  subst e;exact⟨hp,ms⟩
noncomputable def wJ{α:Type}(lt:Nat->Nat->Bool):KasT α->α
 | .ret a=>a
 | .ask i j k=>wJ lt (k (lt i j))
theorem HV:∀ (t:KasT α),eL lt n t P->P (wJ lt t)
 | .ret _,h=>h
 | .ask i j k,h=>HV (k (lt i j)) h.2.2
theorem HW:∀ (t:KasT α),eL lt n t P->eL lt n t (λa=>a=wJ lt t)
 | .ret _,_=>rfl
 | .ask i j k,h=>⟨h.1,h.2.1,HW (k (lt i j)) h.2.2⟩
noncomputable def cX(lt:Nat->Nat->Bool)(n:Nat):Array Nat:=if n<2 then aeO (acD n) else wJ lt (kas_sort n)
theorem qb(O:Ord lt):cI n (cX lt n)/\eM lt (cX lt n) n:=by
 unfold cX;split
 .rename_i h;refine⟨by unfold cI;simp,λi j gA hj=>?_⟩;have:i=j:=by lia
  subst this;exact O.rfl' _
 .rename_i h;exact HV _ (HU O (by lia))
end
end Gz
namespace Gz
open PySem PySem.Spec PyProof.Rows L2
local macro_rules | `(tactic| walk_at "o") => `(tactic| ((try simp only [PySem.Addr] at *); lia))
theorem HX:∀ {a b:List Int},HT.lexLt a b=true->HT.lexLt b a=false
 | [],[],h=>by cases h
 | [],_::_,_=>rfl
 | _::_,[],h=>by cases h
 | x::a,y::b,h=>by
  rw[HT.nR] at h ⊢;by_cases e:x=y
  .subst e;rw[if_pos rfl] at h ⊢;exact HX h
  .rw[if_neg e] at h;rw[if_neg (ady e)];have:x<y:=by simpa using h
   simpa using (by walk_at "o" : ¬ y<x)
theorem HY:∀ {a b c:List Int},HT.lexLt b a=false->HT.lexLt c b=false->HT.lexLt c a=false
 | [],[],[],_,_=>rfl
 | [],[],_::_,_,_=>rfl
 | [],_::_,[],_,h=>by cases h
 | [],_::_,_::_,_,_=>rfl
 | _::_,[],_,h,_=>by cases h
 | _::_,_::_,[],_,h=>by cases h
 | x::a,y::b,z::c,h1,h2=>by
  rw[HT.nR] at h1 h2 ⊢;by_cases e1:y=x
  .subst e1;rw[if_pos rfl] at h1;by_cases e2:z=y
   .subst e2;rw[if_pos rfl] at h2 ⊢;exact HY h1 h2
   .rw[if_neg e2] at h2 ⊢;exact h2
  .rw[if_neg e1] at h1;have qc:¬ y<x:=by simpa using h1
   by_cases e2:z=y
   .subst e2;rw[if_neg e1];exact h1
   .rw[if_neg e2] at h2;have sR:¬ z<y:=by simpa using h2
    rw[if_neg (by walk_at "o")];simpa using (by walk_at "o" : ¬ z<x)
section
theorem RB(h:Q (a == b) s):acQ (model prog w) A (eqBool (.int a t) (.int b u)) Q E s:=SeqAt.EqAt.int_int a t b u prog w E Q h
theorem RC:∀ {ns ms:List Int} {us ws:List acB} {i:Nat},afm us ns->afm ws ms->fin=decide (ns.length<ms.length)->Q (HT.lexLt ns ms) s->PySem.W.KatLex prog w A b fin Q (us.zip ws) i s:=by
 intro ns
 induction ns with
 | nil =>
  intro ms us ws i r q e h;cases r;cases q with
  | nil=>subst e;exact h
  | cons=>subst e;exact h
 | cons n ns ih =>
  intro ms us ws i r q e h;cases r with
  | cons _ t r =>
   cases q with
   | nil=>subst e;exact h
   | cons m t' q =>
    rw[ag2];refine PySem.W.kat_cons (RB (PySem.W.kat_go (λhh=>PySem.W.kat_yes ?_) λhh=>PySem.W.kat_no ?_))
    .have e1:n=m:=by simpa using hh
     subst e1;rw[HT.nR,if_pos rfl] at h;exact ih r q (by subst e;simp) h
    .have e1:n≠m:=by simpa using hh
     rw[HT.nR,if_neg e1] at h;cases (b && i == 0) with
     | true=>exact oneLt_int h
     | false=>exact PySem.W.kat_one _ _ (lt_int h)
end
def HZ(sp:Sp):List V->List V->Hp->(List V->Hp->Prop)->Prop
 | [],ks,H,Q=>Q ks H
 | x::r,ks,H,Q=>sp [x] H (λk H1=>HZ sp r (ks++[k]) H1 Q) E0
def iL(K:acr)(H:Hp):List V->List (List Int)->Prop
 | [],[]=>True
 | k::ks,n::ns=>(∃ p,k = .ref p/\ak K H p (n.map V.int)/\n≠[])/\iL K H ks ns
 | _,_=>False
theorem iL.len{K:acr}{H:Hp}:∀ {ks:List V} {ns:List (List Int)},iL K H ks ns->ks.length=ns.length
 | [],[],_=>rfl
 | _::_,_::_,h=>by simp[iL.len h.2]
 | [],_::_,h=>h.elim
 | _::_,[],h=>h.elim
theorem iL.get{K:acr}{H:Hp}:∀ {ks:List V} {ns:List (List Int)} {i:Nat} {k:V},iL K H ks ns->ks[i]?=some k->∃ p,k = .ref p/\ak K H p ((ns.getD i []).map V.int)
 | [],[],_,_,_,e=>by simp at e
 | k::_,n::_,0,_,h,e=>by simp at e;subst e;obtain⟨⟨p,a,b,_⟩,_⟩:=h;exact⟨p,a,b⟩
 | _::_,_::_,i+1,_,h,e=>by have:=iL.get (i:=i) h.2 (by simpa using e);simpa using this
 | [],_::_,_,_,h,_=>h.elim
 | _::_,[],_,_,h,_=>h.elim
section
noncomputable def c9(kis:List (List Int))(i j:Nat):Bool:=HT.lexLt (kis.getD i []) (kis.getD j [])
theorem og(kis:List (List Int)):Ord (c9 kis):=⟨λh=>HX h,λh1 h2=>HY h1 h2⟩
noncomputable def d8{α:Type}(kis:List (List Int))(d:α)(as:List α):List α:=(cX (c9 kis) as.length).toList.map λi=>as.getD i d
theorem qd:(d8 kis d as).Perm as:=by
 have h:=(qb (n:=as.length) (og kis)).1;have q:=h.map (λi=>as.getD i d);have self:(acD as.length).map (λi=>as.getD i d)=as:=by
  apply ahQ
  .simp
  .intro i h1 h2;simp[acu,h2]
 rw[self] at q;exact q
theorem Ia:(d8 kis d as).length=as.length:=qd.length_eq
theorem Ib(hk:kis=as.map f):(d8 kis d as).Pairwise (λa b=>HT.lexLt (f b) (f a)=false):=by
 obtain⟨hp,hs⟩:=qb (n:=as.length) (og kis);have sz:=hp.size;unfold d8;rw[ajt];refine ahd.mpr λi j hi hj gA=>?_;have cW:i<(cX (c9 kis) as.length).size:=by simpa using hi
 have Ae:j<(cX (c9 kis) as.length).size:=by simpa using hj
 have q:=hs i j (by lia) (by lia);have e1:(cX (c9 kis) as.length).getD i 0=(cX (c9 kis) as.length)[i]:=by simp[akA,cW]
 have e2:(cX (c9 kis) as.length).getD j 0=(cX (c9 kis) as.length)[j]:=by simp[akA,Ae]
 have l1:=cI.below hp (i:=i) (by lia);have l2:=cI.below hp (i:=j) (by lia);rw[e1,e2] at q;rw[e1] at l1;rw[e2] at l2;have q2:HT.lexLt (kis.getD (cX (c9 kis) as.length)[j] []) (kis.getD (cX (c9 kis) as.length)[i] [])=false:=q;have g:∀ k,k<as.length->kis.getD k []=f (as.getD k d):=λk gB=>by subst hk;simp[acu,gB]
 simp only[Array.getElem_toList];rw[g _ l1,g _ l2] at q2;exact q2
theorem RD(r:Vals xs vs):Vals (d8 kis .non xs) ((cX (c9 kis) xs.length).toList.map λi=>vs.getD i Value.none):=by
 have hp:=(qb (n:=xs.length) (og kis)).1;have gen:∀ l:List Nat,(∀ i∈l,i<xs.length)->Vals (l.map λi=>xs.getD i .non) (l.map λi=>vs.getD i Value.none):=by
  intro l
  induction l with
  | nil=>intro _;exact .nil
  | cons i l ih =>
   intro h;have hi:=h i (.head _);refine .cons ?_ (ih λj hj=>h j (.tail _ hj));have e:xs[i]?=some xs[i]:=acv hi;obtain⟨u,eu,ru⟩:=r.get e;show RelV (xs.getD i .non) (vs.getD i Value.none);rw[acu,acu,eu,e];exact ru
 exact gen _ λi hi=>by simpa using hp.mem_iff.mp hi
def RE(K:acr)(sp:Sp)(x:V)(H1:Hp)(Q:VK):Prop:=∃ (a:acF) (xs:List V),x = .ref a/\ai K H1 a xs/\xs.length<64/\HZ sp xs [] H1 λks H2=>∃ kis,iL K H2 ks kis/\∀ l,H2 l=none->Q (.ref l) (upd H2 l (.lst (d8 kis .non xs)))
def RF(K:acr)(sp:Sp)(te:TE):TE:=λσ H Q=>te σ H λx H1=>RE K sp x H1 Q
end
abbrev En:=Option Int
noncomputable def ev:En->V
 | none=>.non
 | some i=>.int i
theorem wK:ev none = .non:=rfl
theorem wL(i:Int):ev (some i) = .int i:=rfl
noncomputable def aX:En->En->Bool
 | some x,some y=>decide (y<x)
 | _,_=>false
def aM(H:Hp)(v:V)(a b:En):Prop:=∃ p,v = .ref p/\H p=some (.tup [ev a,ev b])
theorem aM.same(h:aM H v a b)(s:ah H H1):aM H1 v a b:=by obtain⟨p,e,h⟩:=h;exact⟨p,e,s _ _ h⟩
theorem aM.new:aM (upd H p (.tup [ev a,ev b])) (.ref p) a b:=⟨p,rfl,aq⟩
noncomputable def hold(a b:En)(n:Int):Bool:=!aX a (some n) && !aX (some n) b
theorem gC:hold a b n=true↔(∀ x,a=some x->x<=n)/\(∀ y,b=some y->n<=y):=by unfold hold;rcases a with _|x<;>rcases b with _|y<;>simp[aX]
noncomputable def dA:En->En->En
 | some x,some y=>some (if y > x then y else x)
 | some x,none=>some x
 | none,b=>b
noncomputable def ee:En->En->En
 | some x,some y=>some (if y<x then y else x)
 | some x,none=>some x
 | none,b=>b
noncomputable def nums(a b:En):List Int:=[a,b].filterMap id
noncomputable def sS(v:V):Bool:=!decide (v = .non)
theorem RG(a b:En):([ev a,ev b].filter sS).map (λv=>v)=(nums a b).map V.int:=by rcases a with _|x<;>rcases b with _|y<;>simp[ev,nums,sS]
theorem RH(a b:En):mf eU (nums a b) .non=ev (dA a b):=by rcases a with _|x<;>rcases b with _|y<;>simp[nums,dA,eU,mf,ev]
theorem RI(a b:En):mf gh (nums a b) .non=ev (ee a b):=by rcases a with _|x<;>rcases b with _|y<;>simp[nums,ee,gh,mf,ev]
def Ic(H:Hp)(v:V)(lo hi:En):Prop:=(aX lo hi=true->v = .non)/\(aX lo hi=false->aM H v lo hi)
theorem Ie{K:acr}{H:Hp}{p:acF}{a b:En}{Q:VK}{tt:TT}{te:TE}(hp:H p=some (.tup [ev a,ev b]))(ht:∀ x H Q,Q (sS x) H->tt [some x] H Q)(he:∀ x H Q,Q x H->te [some x] H Q)
 (q:∀ l,H l=none->Q (.ref l) (upd H l (.lst ((nums a b).map V.int)))):l8 (rS K p) [] tt te H Q:=by
 refine cN (xs:=[ev a,ev b]) Hh aW (wm (p:=sS) (f:=λv=>v) (ak.of hp) (λx _ Q h=>ht x H Q h) (λx _ _ Q h=>he x H Q h) ?_);rw[acT,RG];exact q
end Gz
namespace Gz
open L2
abbrev S2:=En × En
noncomputable def hs(s:S2)(n:Int):Bool:=hold s.1 s.2 n
def Ig(s:S2):Prop:=aX s.1 s.2=false
theorem RJ:hs s n=true↔(∀ x,s.1=some x->x<=n)/\(∀ y,s.2=some y->n<=y):=gC
open PySem in
def k7(H:Hp):List V->List S2->Prop
 | [],[]=>True
 | v::vs,s::ss=>aM H v s.1 s.2/\k7 H vs ss
 | _,_=>False
section
theorem aM.put(h:aM H v a b)(hl:H l=some (.lst ys)):aM (upd H l o) v a b:=by obtain⟨p,e,h⟩:=h;exact⟨p,e,by rw[aD (pf h hl λz=>nomatch z)];exact h⟩
theorem k7.len:∀ {vs:List V} {ss:List S2},k7 H vs ss->vs.length=ss.length
 | [],[],_=>rfl
 | _::_,_::_,h=>by simp[k7.len h.2]
 | [],_::_,h=>h.elim
 | _::_,[],h=>h.elim
open PySem
end
end Gz
namespace Gz
open PySem PySem.Spec PyProof.Rows L2
structure Ih(K:acr)(C:acF)(m:Str)(f:acF):Prop where
 ga:ahl K (.ref C) "__getattribute__" = some (some (.builtin "type.__getattribute__"))
 rd:aka K C (.type "type")=true
 fd:akb K (.ref C) (.type "type") m=some (.val (.ref f))
 kp:adH K (.ref f)=true
section
theorem wM(hg:Gl X x)(hm:X.mg x=some (.ref C))(c:Ih X.K C m f)(F:dW X.prog X.w X.K X.mg X.base CX k f fd ps sp)(hr:bG k X.A)(hb:Binds X.K fd ps ds)(hd:Vals cM ds)(hx:Passes CX X E)(ha:PA X (e::es) t)(fA:(x == ("__debug__" : Str))=false:=by decide)(cG:acW (e::es) X.env=(false,eval e X.env)::acW es X.env:=by rfl)(dX:(ael pos (acW es X.env)).any (·.1)=false:=by rfl)(ht:eval (.Call (.Attribute (.Name x p) m apos) (e::es) [] pos) X.env=(do
 let ov <- eval (.Name x p) X.env
 ajg apos.atName
 let (f,first) <- holding [ov] (ah7 ov m pl)
 akG pos f first (ael pos (acW (e::es) X.env)) (aio pos (agb [] X.env))):=by rfl) :
 PE X (.Call (.Attribute (.Name x p) m apos) (e::es) [] pos) (pH sp cM E t):=by
 intro pins s σ H Q I h;refine afk (pl:=pl) (aB (Ft (X:=X) (v:=.ref C) hg hm rfl fA pins s σ H (λv H1=>v = .ref C/\H1=H) I ⟨rfl,rfl⟩) λu s1 zq=>?_) ht;obtain⟨y,H1,I1,rx,e1,e2⟩:=zq;subst e1 e2;obtain rfl:u=ac3 C:=rx;refine PySem.W.method_cls I1.ck c.ga (PySem.W.cls_value I1.ck c.rd c.fd rfl ?_);have I2:Inv X pins σ H1 { s1 with toks:=s1.toks+1 }:=I1.tok _;refine afh (first:=[]) (h₀:=X.base) I.ok.mod.gZ c.kp (aB (ha pos pins _ σ H1 _ I2 h) λus s2 ⟨vs,H2,I3,r,q2⟩=>⟨I3.ck,?_⟩) cG dX;exact sf (us:=us) (vs:=vs) F hr hb hd hx I3 r q2
def RK(K:acr)(m:Str)(f:acF)(sp:Sp)(cM:List V)(E:XK)(ta:TE)(t:TA):TE:=λσ H Q=>ta σ H λx H1=>∃ a C dx fs,x = .ref a/\H1 a=some (.ins C dx fs)/\b6 K C/\Meth K C m f/\fs.lookup m=none /\
 t σ H1 λvs H2=>sp (.ref a::(vs++cM)) H2 Q E
end
abbrev W2:=Option S2
def gD(H:Hp)(v:V):W2->Prop
 | none=>v = .non
 | some s=>aM H v s.1 s.2
theorem gD.same(h:gD H v w)(s:ah H H'):gD H' v w:=by
 cases w with
 | none=>exact h
 | some a=>exact aM.same h s
end Gz
namespace Gz
open PySem L2 PySem.W PySem.Spec PyProof.Rows
def Bt(n:Nat)(x:Int):Prop:=ae5 x<=n
theorem Bt.add(h:Bt n x)(h':Bt n y):Bt (n+1) (x+y):=by
 have:=akX h h'
 rwa [Nat.max_self] at this
theorem Bt.mul(h:Bt n x)(h':Bt m y):Bt (n+m) (x * y):=akY h h'
theorem Bt.up(h:Bt n x)(hm:n<=m):Bt m x:=acA h hm
theorem Bt.small(h1 : -(2 ^ 64)<x)(h2:x<2 ^ 64):Bt 64 x:=PySem.intBits_le_64 h1 h2
def qe(i j:Int):Prop:=Bt 40000000 i/\Bt 40000000 j
theorem qe.ok(h:qe i j):IntMulOk i j:=akm h.1 h.2 (by decide)
theorem RL:aZ X (afr .Mult) (rI qe λi j=>.int (i * j)):=rY λ_ _ _ _ _ _ _ hc q=>mul_int q hc.ok
def k8(ns:List Int):Prop:=ns.length<=63/\∀ x∈ns,Bt 1048576 x
theorem weigh:∀ (ns:List Int) (x:Int),x∈ns->ae5 x<=ae6 (ns.map aeX)
 | [],x,h=>by simp at h
 | y::ns,x,h=>by
  have e:ae6 ((y::ns).map aeX)=(if y == 0 then 0 else y.natAbs.log2+1)+1+ae6 (ns.map aeX):=by rw[acN];simp only[ae6,aiw]
  rw[e];rcases acL.mp h with rfl|h
  .unfold ae5;lia
  .have:=weigh ns x h;lia
theorem RM{ns:List Int}(h:akB [PySem.W.WData.list (ns.map aeX)]=true):∀ x∈ns,Bt 1048576 x:=by
 intro x hx;have h1:agp (PySem.W.WData.list (ns.map aeX))=true:=by
  have:(agp (PySem.W.WData.list (ns.map aeX)) && true)=true:=h
  rwa [afY] at this
 unfold agp at h1;rw[adz] at h1;have h2:=of_decide_eq_true h1.2;have h3:=weigh ns x hx;simp only[aiw] at h2;unfold Bt;lia
theorem RN{l:aid}{k:Nat}{q:adn}{loose:List Str}{XP:(Str->Option acB)->aeV->Prop}{YP:ad2->aeV->Prop}{d:DefRec}{K:Params->acr}{CX:ad2->hV}{sp:ad2->Sp}{x:Str}
 (most:l.most=some 63) (plain:d.params.defaults=[]) (room:bG k aj2)
 (RO:∀ (w:ad2) (h:aeV),YP w h->(K w.params).In h)
 (F:∀ (w:ad2) (mg:Str->Option acB) (fa:acF) (h:aeV),(K w.params).In h->h.Ns acU mg->mg d.name=some (.ref fa) ->
   ∃ fd:afs,(∀ (s:acI) (u:acB),ajl s fd ⟨[u],[]⟩ [(x,u)]) /\
    ∀ base:aeV,(K w.params).In base->base.Ns acU mg->dW l.prog w (K w.params) mg base (CX w) k fa fd [x] (sp w))
 (law:∀ (w:ad2) (H:Hp) (a:acF) (ns:List Int),k8 ns->ai (K w.params) H a (ns.map V.int)->sp w [.ref a] H (λv _=>v = .bl true) λ_ _ _=>False)
 (calm:∀ (w:ad2) (H:Hp) (s:acI) (e:acB) (s':acI),CX w [] H s (λ_ _ _=>False) e s'->False) :
 akI q loose XP YP l.row.toRowW d [] (λf vs=>PySem.call f vs):=by
 intro w t₀ t mg mb G Y f ob pm cd doc dV kV look data code defs at_ gens args vals as pre lay _ well _;have e1:dV = .none:=Dflts.none defs plain;have e2:kV = .none:=Dflts.noKw defs;cases e1;cases e2;obtain⟨a,vs,ns,e3,e4,obj,are,len⟩:=zA.Pw most pre well;cases e3;cases e4;have KX:=RO w _ Y;obtain⟨fd,bind,ok⟩:=F w mg f _ KX G.T.g at_;have run:=PB KX G.T.g G.T.b G.T.builtins G.T.nolimit gens obj are (acA len (by decide)) room ok bind
  (λH _ S=>law w H a ns ⟨len,RM lay⟩ S) λH e s'=>calm w H t e s'
 refine enter_call (afM run ?_);rintro r s' ⟨rfl,old,os,bare⟩;exact⟨.inl ⟨.bool true,.bool true,[],rfl,λ_=>rfl,.bool true,zA.Pz l _,λ_=>⟨List.Pairwise.nil,λ_ z=>(nomatch z)⟩⟩,old,os,bare⟩
noncomputable def sT(ns:List Int)(k:Int):Int:=if 0<(ns.length:Int) then ns.getD (k % (ns.length:Int)).toNat 0 else 0
theorem RP(h:k8 ns)(k:Int):Bt 1048576 (sT ns k):=by
 unfold sT;split
 .rw[acu];cases e:ns[(k % (ns.length:Int)).toNat]? with
  | none=>exact (Bt.small (by decide) (by decide)).up (by decide)
  | some n=>exact h.2 _ (acM e)
 .exact (Bt.small (by decide) (by decide)).up (by decide)
theorem RQ{ns:List Int}{k:Int}(h:0<(ns.length:Int)):c8 (ns.map V.int) (k % (ns.length:Int))=some (.int (sT ns k)):=by
 have h1:=akc k (show (ns.length:Int)≠0 by lia);have h2:=ai6 k h;unfold sT;rw[if_pos h];have ek:k % (ns.length:Int)=(((k % (ns.length:Int)).toNat:Nat):Int):=by lia
 refine (congrArg (c8 _) ek).trans (dH ?_);rw[acJ,acu,acv (by lia)];rfl
theorem Ii(h:x.natAbs<2 ^ 600):Bd 4000 x:=Bd.up (n:=600) h (by decide)
theorem lg(h:x.natAbs<2 ^ 600)(h':y.natAbs<2 ^ 600):sE x y:=⟨Ii h,Ii h'⟩
theorem aC(I:L2.St->Hp->Prop)(h1:∀ N:L2.St->Hp->Prop,(∀ σ H,I σ H->N σ H)->a { D with nx:=N } σ H)(h2:∀ R:TS,R=b->∀ σ H,I σ H->R D σ H):nK a b D σ H:=h1 _ (h2 _ rfl)
noncomputable def pre(f:P2->Int)(ps:List P2)(i:Nat):Int:=((ps.take i).map f).sum
theorem gE(f:P2->Int)(ps:List P2)(h:i<ps.length):pre f ps (i+1)=pre f ps i+f (aF ps i):=by unfold pre aF;rw[ads,aec,akd,acu,acv h];simp only[ai7,acN,ae3,ahE,akZ,Int.add_zero,agx]
noncomputable def bJ(ps:List P2)(i j:Nat):Int:=if i<=j then pre (·.2) ps j-pre (·.2) ps i else pre (·.1) ps j-pre (·.1) ps i
def fb(ps:List P2):Prop:=∀ p∈ps,p.1<=p.2
theorem Ij(h:fb ps)(i:Nat):∀ n,i+n<=ps.length->pre (·.1) ps (i+n)-pre (·.1) ps i<=pre (·.2) ps (i+n)-pre (·.2) ps i
 | 0,_=>by simp
 | n+1,hn=>by have ih:=Ij h i n (by lia);rw[show i+(n+1)=(i+n)+1 by lia,gE _ ps (by lia),gE _ ps (by lia)];have:=h _ (pY (ps:=ps) (i:=i+n) (by lia));lia
theorem qf(h:fb ps)(gA:i<=j)(hj:j<=ps.length):pre (·.1) ps j-pre (·.1) ps i<=pre (·.2) ps j-pre (·.2) ps i:=by
 have:=Ij h i (j-i) (by lia)
 rwa [show i+(j-i)=j by lia] at this
theorem RS(h:fb ps)(hi:i<=ps.length)(hj:j<=ps.length)(hk:k<=ps.length):bJ ps i j<=bJ ps i k+bJ ps k j:=by have a:=λh'=>qf h (i:=i) (j:=j) h' hj;have b:=λh'=>qf h (i:=j) (j:=i) h' hi;have c:=λh'=>qf h (i:=i) (j:=k) h' hk;have d:=λh'=>qf h (i:=k) (j:=i) h' hi;have e:=λh'=>qf h (i:=j) (j:=k) h' hk;have f:=λh'=>qf h (i:=k) (j:=j) h' hj;unfold bJ;split<;>split<;>split<;>lia
noncomputable def part(ps:List P2)(i j k:Nat):Int:=if i<j then pre (·.2) ps (min i j+k)-pre (·.2) ps i else pre (·.1) ps j-pre (·.1) ps (min i j+k)
end Gz
namespace L2
open PySem PySem.Spec PyProof.Rows
section
variable{κ:Type}[DecidableEq κ]
noncomputable def da(kvs:List (κ × V))(k:κ):Option V:=(kvs.find? λkv=>decide (kv.1=k)).map (·.2)
noncomputable def putK(kvs:List (κ × V))(k:κ)(v:V):List (κ × V) :=
 if (kvs.any λkv=>decide (kv.1=k))=true then kvs.map (λkv=>if kv.1=k then (kv.1,v) else kv) else kvs++[(k,v)]
noncomputable def iM(kvs:List (κ × V))(k:κ):List (κ × V):=kvs.filter λkv=>decide (kv.1≠k)
theorem wN{p:κ × V}{r:List (κ × V)}{k:κ}(e:p.1=k):da (p::r) k=some p.2:=by simp[da,aed,e]
theorem wO{p:κ × V}{r:List (κ × V)}{k:κ}(e:¬ p.1=k):da (p::r) k=da r k:=by simp[da,aed,e]
theorem Ik(k:κ):∀ kvs:List (κ × V),(kvs.any λkv=>decide (kv.1=k))=(da kvs k).isSome
 | []=>rfl
 | p::r=>by
  rw[ad0];by_cases e:p.1=k
  .simp only[wN e,decide_eq_true e,Bool.true_or,Option.isSome_some]
  .rw[wO e,decide_eq_false e,ai8];exact Ik k r
theorem Il(kvs:List (κ × V))(k:κ)(v:V):(putK kvs k v).length<=kvs.length+1:=by
 unfold putK;split
 .rw[acs];omega
 .rw[ac1,ada,aej];omega
theorem fM.Af(r:fM o u):o.isSome=u.isSome:=by
 cases o with
 | none=>cases u with
  | none=>rfl
  | some _=>exact (show False from r).elim
 | some _=>cases u with
  | none=>exact (show False from r).elim
  | some _=>rfl
theorem KV.val(r:KV kvs vs)(k:κ):fM (da kvs k) (aju vs k):=by
 unfold KV at r
 induction r with
 | nil=>exact aeW
 | @cons p q ps qs h t ih =>
  obtain⟨h1,h2⟩:=h;by_cases e:p.1=k
  .have e':q.1=k:=h1.symm.trans e;have b:aju (q::qs) k=some q.2:=by simp[aju,aed,e']
   rw[wN e,b];exact h2
  .have e':¬ q.1=k:=λz=>e (h1.trans z);have b:aju (q::qs) k=aju qs k:=by simp[aju,aed,e']
   rw[wO e,b];exact ih
theorem KV.any(r:KV kvs vs)(k:κ):(kvs.any λkv=>decide (kv.1=k))=vs.any λkv=>decide (kv.1=k):=by
 unfold KV at r
 induction r with
 | nil=>rfl
 | cons h t ih=>rw[ad0,ad0,ih,h.1]
theorem KV.qg(r:KV kvs vs)(k:κ)(ry:RelV y u) :
 KV (kvs.map λkv=>if kv.1=k then (kv.1,y) else kv) (vs.map λkv=>if kv.1=k then (kv.1,u) else kv):=by
 unfold KV at r ⊢
 induction r with
 | nil=>exact .nil
 | @cons p q ps qs h t ih =>
  rw[acN,acN];refine .cons ?_ ih;obtain⟨h1,h2⟩:=h;by_cases e:p.1=k
  .rw[if_pos e,if_pos (h1.symm.trans e)];exact⟨h1,ry⟩
  .rw[if_neg e,if_neg (λz=>e (h1.trans z))];exact⟨h1,h2⟩
theorem KV.put(r:KV kvs vs)(k:κ)(ry:RelV y u):KV (putK kvs k y) (stored vs k u):=by
 unfold putK stored;rw[r.any k];by_cases e:(vs.any λkv=>decide (kv.1=k))=true
 .rw[if_pos e,if_pos e];exact r.qg k ry
 .rw[if_neg e,if_neg e];exact Paired.snoc r ⟨rfl,ry⟩
theorem KV.length(r:KV kvs vs):kvs.length=vs.length:=Paired.length r
theorem RT(kvs:List (κ × V))(k:κ):(iM kvs k).length<=kvs.length:=adb _ _
end
theorem wQ(r:RelV (kV k) u):(cS P w).is k u=true:=by
 cases k with
 | inl i=>obtain⟨t,e⟩:=(show ∃ t,u=aeU i t from r);subst e;exact NS P w i t
 | inr x=>obtain⟨t,e⟩:=(show ∃ t,u=aiU x t from r);subst e;exact NT P w x t
theorem Im:∀ {ks:List Key} {us:List acB},Vals (ks.map kV) us->ItemsAre (cS P w) ks us
 | [],_,r=>by rw[ae3] at r;cases r;exact .nil
 | k::ks,_,r=>by
  rw[acN] at r;cases r with
  | cons h t=>exact .cons (wQ h) (Im t)
abbrev KT(H:Hp):List (List Key × V)->List (List Key × acF × acB)->Prop:=akS λp q=>p.1=q.1/\H q.2.1=some (.tup (p.1.map kV))/\RelV p.2 q.2.2
theorem KT.val(r:KT H kvs xs)(k:List Key):fM (da kvs k) ((aiP xs k).map (·.2)):=by
 induction r with
 | nil=>exact aeW
 | @cons p q ps qs h t ih =>
  obtain⟨h1,_,h2⟩:=h;by_cases e:p.1=k
  .have e':q.1=k:=h1.symm.trans e;have b:aiP (q::qs) k=some q.2:=by simp[aiP,aed,e']
   rw[wN e,b];exact h2
  .have e':¬ q.1=k:=λz=>e (h1.trans z);have b:aiP (q::qs) k=aiP qs k:=by simp[aiP,aed,e']
   rw[wO e,b];exact ih
theorem KT.qg(r:KT H kvs xs)(k:List Key)(ry:RelV y u) :
 KT H (kvs.map λkv=>if kv.1=k then (kv.1,y) else kv) (xs.map (putAt k u)):=by
 induction r with
 | nil=>exact .nil
 | @cons p q ps qs h t ih =>
  rw[acN,acN];refine .cons ?_ ih;obtain⟨h1,h2,h3⟩:=h;unfold putAt;by_cases e:p.1=k
  .rw[if_pos e,if_pos (h1.symm.trans e)];exact⟨h1,h2,ry⟩
  .rw[if_neg e,if_neg (λz=>e (h1.trans z))];exact⟨h1,h2,h3⟩
theorem KT.put(r:KT H kvs xs)(k:List Key)(hb:H b=some (.tup (k.map kV)))(ry:RelV y u) :
 KT H (putK kvs k y) (storedH xs k b u):=by
 have e:(kvs.any λkv=>decide (kv.1=k))=(aiP xs k).isSome:=by rw[Ik,(r.val k).Af,ajv]
 unfold putK storedH;rw[e];by_cases q:(aiP xs k).isSome=true
 .rw[if_pos q,if_pos q];exact r.qg k ry
 .rw[if_neg q,if_neg q];exact Paired.snoc r ⟨rfl,hb,ry⟩
theorem KT.keeps(r:KT H kvs xs)(ht:∀ b ys,H b=some (.tup ys)->H' b=some (.tup ys)):KT H' kvs xs :=
 Paired.Fi r λ_ _ z=>⟨z.1,ht _ _ z.2.1,z.2.2⟩
section
theorem Io(ok:cj P w H h)(e:Rd H a u):bN P w H h a u:=e.ok ok
theorem sU(ok:cj P w H h)(e:Rd H a (.dK kvs)):kvs.length<=acV/\(a == ad6)=false/\∃ vs,KV kvs vs/\h.DictOf (cS P w) a vs :=
 show bN P w H h a (.dK kvs) from Io ok e
theorem RU(ok:cj P w H h)(e:H a=some (.dK kvs)):kvs.length<=acV/\(a == ad6)=false/\∃ vs,KV kvs vs/\h.DictOf (cS P w) a vs:=sU ok (.inl e)
theorem sV(ok:cj P w H h)(e:H a=some (.tup (ks.map kV))):(agI (cS P w)).is h ks a:=by
 obtain⟨_,ao,r,o,h1,h2,n,h3⟩:=(show bN P w H h a (.tup (ks.map kV)) from ok a _ e)
 exact⟨o,ao.toArray,n,h1,h2,h3,by simpa using Im r⟩
theorem sW(ok:cj P w H h)(e:Rd H a (.dT kvs)):kvs.length<=acV/\(a == ad6)=false /\
 ∃ xs,KT H kvs xs/\h.DictOfH (agI (cS P w)) a xs:=by
 obtain⟨z,y,xs,r,o,es,ep,h1,h2,h3,h4,h5⟩:=(show bN P w H h a (.dT kvs) from Io ok e)
 refine⟨z,y,xs,r,o,es,ep,h1,h2,h3,h4,λx hx=>?_,h5⟩;have all:∀ {l:List (List Key × V)} {m:List (List Key × acF × acB)},KT H l m->∀ x∈m,(agI (cS P w)).is h x.1 x.2.1:=by
  intro l m q
  induction q with
  | nil=>intro x hx;exact nomatch hx
  | @cons p q ps qs hq t ih =>
   intro x hx;rcases acL.mp hx with e|hx
   .subst e;exact sV ok (by rw[<- hq.1];exact hq.2.1)
   .exact ih x hx
 exact all r x hx
theorem sX(ok:cj P w H h)(e:H a=some (.dT kvs)):kvs.length<=acV/\(a == ad6)=false /\
 ∃ xs,KT H kvs xs/\h.DictOfH (agI (cS P w)) a xs:=sW ok (.inl e)
end
def eh(H:Hp)(a:acF)(y:V)(r:Option V):Prop :=
 (∃ kvs k,Rd H a (.dK kvs)/\y=kV k/\r=da kvs k) ∨ ∃ kvs k b,Rd H a (.dT kvs)/\y = .ref b/\H b=some (.tup (k.map kV))/\r=da kvs k
def mj(H:Hp)(a:acF)(y v:V)(H':Hp):Prop :=
 (∃ kvs k,H a=some (.dK kvs)/\y=kV k/\kvs.length<acV/\H'=upd H a (.dK (putK kvs k v))) ∨
 ∃ kvs k b,H a=some (.dT kvs)/\y = .ref b/\H b=some (.tup (k.map kV))/\kvs.length<acV/\H'=upd H a (.dT (putK kvs k v))
theorem eh.t(e:H a=some (.dT kvs))(eb:H b=some (.tup (k.map kV))):eh H a (.ref b) (da kvs k):=.inr ⟨kvs,k,b,.inl e,rfl,eb,rfl⟩
theorem mj.t{H:Hp}{a b:acF}{kvs:List (List Key × V)}{k:List Key}{v:V}(e:H a=some (.dT kvs))(eb:H b=some (.tup (k.map kV)))(hl:kvs.length<acV) :
 mj H a (.ref b) v (upd H a (.dT (putK kvs k v))):=.inr ⟨kvs,k,b,e,rfl,eb,hl,rfl⟩
section
theorem Inv.big(I:Inv X pins σ H s):ad6<s.heap.objs.size:=by have h:acU<s.heap.objs.size:=(I.mod.glob.keeps I.bk).lt;exact ajG (by decide) h
theorem RV(hu:A.units+1<agB)(I:Inv X pins σ H s)(g:eh H a y (some v))(ry:RelV y u)(h:∀ w' s',Inv X pins σ H s'->RelV v w'->Q w' s') :
 acQ (model X.prog X.w) A (ajX (.ref a) u) Q E s:=by
 rcases g with ⟨kvs,k,e,ey,l⟩|⟨kvs,k,b,e,ey,eb,l⟩
 .subst ey;obtain⟨z,hd,vs,rel,dd⟩:=sU I.ay e;obtain⟨w',hw,jq⟩:=fM.some_of (v:=v) (o:=aju vs k) (by rw[l];exact rel.val k);exact wpAny_getItem_of (wQ ry) dd.mapOf hw (h w' _ (I.tok _) jq)
 .subst ey;cases (show u=ac3 b from ry);obtain⟨z,hd,xs,rel,dd⟩:=sW I.ay e;obtain⟨w',hw,jq⟩:=fM.some_of (v:=v) (o:=(aiP xs k).map (·.2)) (by rw[l];exact rel.val k);obtain⟨p,hp,fe⟩:=adf.mp hw;refine wpAny_getItem_heap (aeP hu) (sV I.ay eb) dd hp ?_;rw[fe];exact h w' _ (I.tok _) jq
theorem RW(hu:A.units+1<agB)(I:Inv X pins σ H s)(g:eh H a y o)(ry:RelV y u)(h:∀ s',Inv X pins σ H s'->Q (.bool (!o.isSome)) s') :
 acQ (model X.prog X.w) A (adx .NotIn u (.ref a)) Q E s:=by
 rcases g with ⟨kvs,k,e,ey,l⟩|⟨kvs,k,b,e,ey,eb,l⟩
 .subst ey;obtain⟨z,hd,vs,rel,dd⟩:=sU I.ay e;refine wpAny_notIn_of (wQ ry) hd dd.mapOf ?_;rw[<- (rel.val k).Af,<- l];exact h _ (I.tok _)
 .subst ey;cases (show u=ac3 b from ry);obtain⟨z,hd,xs,rel,dd⟩:=sW I.ay e;refine wpAny_notIn_heap (aeP hu) (sV I.ay eb) hd dd ?_;have q:=(rel.val k).Af;rw[ajv] at q;rw[<- q,<- l];exact h _ (I.tok _)
theorem Ag(I:Inv X pins σ H s)(mu:rG (H a))(hs:Heap.SameBut a s.heap h')(he:∃ q,h'.get? a=some q)(new:bN X.prog X.w (upd H a ob) h' a ob) :
 Inv X pins σ (upd H a ob) { s with heap:=h',toks:=t' } :=
 I.write (x:=a) (e:=a) mu (.inl rfl) (λb q hb z=>(hs.2 b hb).trans z) he new
theorem Ip(z:kvs.length<=acV)(hd:(a == ad6)=false)(rel:KV kvs vs)(dd:h'.DictOf (cS P w) a vs) :
 bN P w H' h' a (.dK kvs):=⟨z,hd,vs,rel,dd⟩
theorem RX(hu:A.units+1<agB)(I:Inv X pins σ H s)(g:mj H a y v H')(ry:RelV y u)(rv:RelV v r)(h:∀ s',Inv X pins σ H' s'->Q () s') :
 acQ (model X.prog X.w) A (setItem (.ref a) u r) Q E s:=by
 rcases g with ⟨kvs,k,e,ey,l,eH⟩|⟨kvs,k,b,e,ey,eb,l,eH⟩
 .subst ey eH;obtain⟨z,hd,vs,rel,dd⟩:=RU I.ay e;have hz:vs.length<=acV:=by rw[<- rel.length];exact z
  have hl:(putK kvs k v).length<=acV:=by have:=Il kvs k v;omega
  refine wpAny_setItem_pairs (hsz:=hz) (wQ ry) dd λh' oh hs=>h _ ?_;have he:∃ q,h'.get? a=some q:=let ⟨q,_,_,hq,_⟩:=oh;⟨q,hq⟩;exact Ag I (by rw[e];exact aeW) hs he (Ip hl hd (rel.put k rv) oh)
 .subst ey eH;cases (show u=ac3 b from ry);obtain⟨z,hd,xs,rel,dd⟩:=sX I.ay e;have hz:xs.length<=acV:=by rw[<- Paired.length rel];exact z
  have hl:(putK kvs k v).length<=acV:=by have:=Il kvs k v;omega
  refine wpAny_setItem_heap (hsz:=hz) (aeP hu) (sV I.ay eb) dd λh' oh hs=>h _ ?_;obtain⟨q,es,ep,hq,h2,h3,h4,_,h5⟩:=oh;refine Ag I (by rw[e];exact aeW) hs ⟨q,hq⟩ ⟨hl,hd,_,(rel.put k eb rv).keeps λc ys ec=>?_,q,es,ep,hq,h2,h3,h4,h5⟩;rw[aD (pf ec e (λz=>nomatch z))];exact ec
end
def Ah(i:agu):Prop:=∀ ov iv,subscripted i false ov iv=operate [ov,iv] (ajX ov iv)
theorem RY{prog:adn}{w:ad2}{A:aeb}{E:acB->acI->Prop}{s:acI}{env:Env}{value slice:agu}{pos:Pos}{T id:String}{Q:acB->acI->Prop}
 (hl:aiq (.type T) "__getitem__" = pure (some (.builtin id))) (hs:Ah slice)
 (h:acQ (model prog w) A (eval value env) (λo s₁=>acQ (model prog w) A (eval slice env) (λi s₂=>s₂.TypeIs o T/\acQ (model prog w) A (ajX o i) Q E s₂) E s₁) E s) :
 acQ (model prog w) A (eval (.Subscript value slice pos) env) Q E s:=by
 refine ajm (adN h (λo s₁ h₁=>adN h₁ (λi s₂ h₂=>?_) λ_ _ x=>x) λ_ _ x=>x);obtain⟨hT,h₂⟩:=h₂;unfold ahA;refine acq ?_;rw[getitemInPython_of_ne hT.not_modules];refine acq (afo hT hl ?_);have fin:acQ (model prog w) A (subscripted slice false o i) (λr s₃=>acQ (model prog w) A (letTemporaryGo value o r >>= λ_=>pure r) Q E s₃) E s₂:=by rw[hs o i];exact wpAny_operating (adN h₂ (λr s₃ h₃=>acq (wpAny_letTemporaryGo (acw h₃))) λ_ _ x=>x)
 first
  | exact acw (acq fin)
  | exact acq (acw (acq fin))
  | exact acq fin
theorem RZ(I:Inv X pins σ H s)(g:eh H a y o):s.TypeIs (.ref a) "dict" := by
 rcases g with ⟨kvs,k,e,_,_⟩|⟨kvs,k,b,e,_,_,_⟩
 .obtain⟨_,_,vs,_,dd⟩:=sU I.ay e;exact dd.typeIs
 .obtain⟨_,_,xs,_,dd⟩:=sW I.ay e;exact dd.typeIs
def Ai(td ty:TE):TE:=λσ H Q=>td σ H λx H1=>ty σ H1 λy H2=>∃ a v,x = .ref a/\eh H2 a y (some v)/\Q v H2
def R0(ty td:TE):TE:=λσ H Q=>ty σ H λy H1=>td σ H1 λx H2=>∃ a o,x = .ref a/\eh H2 a y o/\Q (.bl o.isSome) H2
def Iq(ty td:TE):TE:=λσ H Q=>ty σ H λy H1=>td σ H1 λx H2=>∃ a o,x = .ref a/\eh H2 a y o/\Q (.bl (!o.isSome)) H2
def Ir(td ty tv:TE):TS:=λD σ H=>tv σ H λv H1=>td σ H1 λx H2=>ty σ H2 λy H3=>∃ a H4,x = .ref a/\mj H3 a y v H4/\D.nx σ H4
section
theorem qh(hu:X.A.units+1<agB)(ho:PE X o td)(hi:PE X i ty)(hs:Ah i):PE X (.Subscript o i pos) (Ai td ty):=by intro pins s σ H Q I h;refine RY PySem.F.slot_dict_getitem.lookup hs (aB (ho pins s σ H _ I h) λu s1 ⟨x,H1,I1,rx,q1⟩=>aB (hi pins s1 σ H1 _ I1 q1) λiv s2 zq=>?_);obtain⟨y,H2,I2,ry,a,v,ex,g,q2⟩:=zq;subst ex;obtain rfl:u=ac3 a:=rx;exact⟨RZ I2 g,RV hu I2 g ry λw' s3 I3 jq=>⟨v,H2,I3,jq,q2⟩⟩
theorem Aj(hu:X.A.units+1<agB)(hi:PE X i ty)(ho:PE X o td):PC X .NotIn i o (Iq ty td):=by
 intro pins s σ H Q I h;refine aB (hi pins s σ H _ I h) λiv s1 ⟨y,H1,I1,ry,q1⟩=>aB (ho pins s1 σ H1 _ I1 q1) λu s2 zq=>?_;obtain⟨x,H2,I2,rx,a,ov,ex,g,q2⟩:=zq;subst ex;obtain rfl:u=ac3 a:=rx;exact RW hu I2 g ry λs3 I3=>⟨.bl (!ov.isSome),H2,I3,rfl,q2⟩
theorem wR(hu:X.A.units+1<agB)(ho:PE X o td)(hi:PE X i ty)(hv:PE X value tv)(hs:agm value (some (.Subscript o i pos')) pos.line X.env=pure false) :
 PS X (.Assign [.Subscript o i pos'] value pos) (Ir td ty tv):=by
 intro pins s σ H D I h;refine wpAny_Assign_Subscript (aB (hv pins s σ H _ I h) λr s1 ⟨v,H1,I1,rv,q1⟩=>aB (ho pins s1 σ H1 _ I1 q1) λu s2 ⟨x,H2,I2,rx,q2⟩=>aB (hi pins s2 σ H2 _ I2 q2) λiv s3 zq=>?_) hs;obtain⟨y,H3,I3,ry,a,H4,ex,g,q3⟩:=zq;subst ex;obtain rfl:u=ac3 a:=rx;exact RX hu I3 g ry rv λs4 I4=>⟨σ,H4,I4,q3⟩
end
structure M1(X:Cx)(o:agu)(m:Str)(apos:Pos)(e:agu)(dh:Pos):Prop where
 base:afT o m X.env (eval o X.env)=eval o X.env
 few:((ael dh (acW [e] X.env)).all (λx=>!x.1) && (aio dh (agb [] X.env)).all (λx=>x.1.isSome)
  && decide (([e]:List agu).length+([]:List aj1).length+(if ([]:List aj1).isEmpty then 0 else 1)<30))=true
 line:(apos.endLine == dh.line)=true
 trees:ael dh (acW [e] X.env)=[(false,eval e X.env)]
structure M2(X:Cx)(o:agu)(m:Str)(apos:Pos)(e f:agu)(dh:Pos):Prop where
 base:afT o m X.env (eval o X.env)=eval o X.env
 few:((ael dh (acW [e,f] X.env)).all (λx=>!x.1) && (aio dh (agb [] X.env)).all (λx=>x.1.isSome)
  && decide (([e,f]:List agu).length+([]:List aj1).length+(if ([]:List aj1).isEmpty then 0 else 1)<30))=true
 line:(apos.endLine == dh.line)=true
 trees:ael dh (acW [e,f] X.env)=[(false,eval e X.env),(false,eval f X.env)]
def Iu(H:Hp)(a:acF):Prop:=(∃ kvs,Rd H a (.dK kvs)) ∨ ∃ kvs,Rd H a (.dT kvs)
theorem R1(I:Inv X pins σ H s)(d:Iu H a) :
 s.TypeIs (.ref a) "dict" /\ (∀ b,ac3 a = .ref b->∃ ob,s.heap.get? b=some ob/\ob.dict=none)/\(a == ad6)=false:=by
 rcases d with ⟨kvs,e⟩|⟨kvs,e⟩
 .obtain⟨_,hd,vs,_,dd⟩:=sU I.ay e;refine⟨dd.typeIs,λb q=>?_,hd⟩;cases q;obtain⟨ob,_,_,h1,h2,_⟩:=dd;exact⟨ob,h1,h2.2.1⟩
 .obtain⟨_,hd,xs,_,dd⟩:=sW I.ay e;refine⟨dd.typeIs,λb q=>?_,hd⟩;cases q;obtain⟨ob,_,_,h1,h2,_⟩:=dd;exact⟨ob,h1,h2.2.1⟩
section
end
section
variable{κ:Type}[DecidableEq κ]
theorem Iv:∀ {l:List κ} {k:κ},l.Nodup->¬ k∈l->(l++[k]).Nodup
 | [],k,_,_=>by simp
 | a::r,k,h,hk=>by
  obtain⟨h1,h2⟩:=adC.mp h;show (a::(r++[k])).Nodup;refine adC.mpr ⟨λm=>?_,Iv h2 λm=>hk (acL.mpr (ajE m))⟩;rcases ac4.mp m with q|q
  .exact h1 q
  .exact hk (acL.mpr (ago (ac9.mp q).symm))
end
end L2
namespace Gz
open PySem PySem.Spec PyProof.Rows L2
def bits(bs:List Int):Prop:=∀ x∈bs,x=0∨x=1
theorem Iw(hx:H x=none)(hd:H dx=none)(hn:dx≠x):ah H (upd (upd H dx (.own x)) x (.ins C dx fs)) :=
 (aj hd).trans (aj (by rw[aD (ady hn)];exact hx))
abbrev Lk:=Option (List Int)
def R4(xs:List acF)(H:Hp)(v:V):Lk->Prop
 | none=>v = .non
 | some bs=>∃ l,v = .ref l/\l∉xs/\H l=some (.lst (bs.map V.int))
abbrev IsL:=R4 []
local macro_rules | `(tactic| walk_at "o") => `(tactic| ((try simp only [PySem.Addr] at *); lia))
section
variable{κ:Type}[DecidableEq κ]
noncomputable def gk(xs:List (κ × acF × acB))(k:κ):List (κ × acF × acB):=xs.filter λx=>decide (x.1≠k)
theorem R5{xs:List (κ × acF × acB)}{k:κ}(h:k∉xs.map (·.1)):gk xs k=xs:=by unfold gk;rw[aeF];intro x hx;rw[decide_eq_true_eq];exact λz=>h (acE.mpr ⟨x,hx,z⟩)
theorem Iy:∀ {xs:List (κ × acF × acB)} {k:κ} {j:Nat} {p:acF × acB},(xs.map (·.1)).Nodup->xs[j]?=some (k,p)->xs.eraseIdx j=gk xs k
 | [],_,_,_,_,h=>by simp at h
 | x::r,k,0,p,hn,h=>by
  rw[acN,adC] at hn;simp at h;subst h;have e:gk ((k,p)::r) k=gk r k:=by unfold gk;rw[adk,if_neg (by simp)]
  rw[e,R5 hn.1];rfl
 | x::r,k,j+1,p,hn,h=>by
  rw[acN,adC] at hn;rw[afX] at h;have ne:¬ x.1=k:=λz=>hn.1 (z ▸ acE.mpr ⟨_,acM h,rfl⟩);have e:gk (x::r) k=x::gk r k:=by unfold gk;rw[adk,if_pos (by simpa using ne)]
  rw[e,ahF,Iy hn.2 h]
theorem Iz(f:α->β):∀ (l:List α) (j:Nat),(l.map f).eraseIdx j=(l.eraseIdx j).map f
 | [],_=>rfl
 | _::_,0=>rfl
 | x::l,j+1=>by rw[acN,ahF,Iz f l j];rfl
theorem R6{xs:List (κ × acF × acB)}{k:κ}(hn:(xs.map (·.1)).Nodup):((gk xs k).map (·.1)).Nodup:=hn.sublist ((agS).map _)
end
theorem IA{prog:adn}{w:ad2}{K:Type}[DecidableEq K]{knd:HeapKind prog w K}{es:Array aeC}{xs:List (K × acF × acB)}{k:K}(he:es.toList=xs.map (aim knd))(h:es.isEmpty=true):aiP xs k=none:=by
 have e:es.size=0:=by simpa using h
 have l:=aeY he;have:xs=[]:=aeu.mp (by lia);rw[this];rfl
theorem KT.out(r:KT H kvs xs)(k:List Key):KT H (iM kvs k) (gk xs k):=by
 unfold iM gk
 induction r with
 | nil=>exact .nil
 | @cons p q ps qs h t ih =>
  rw[adk,adk];by_cases e:p.1=k
  .rw[if_neg (by simp[e]),if_neg (by simp[h.1.symm.trans e])];exact ih
  .rw[if_pos (by simp[e]),if_pos (by rw[decide_eq_true_eq];exact λz=>e (h.1.trans z))];exact .cons h ih
section
variable{prog:adn}{w:ad2}{K:Type}[DecidableEq K]{knd:HeapKind prog w K}{A:aeb}{E:acB->acI->Prop}{s:acI}
theorem IB(hu:knd.room A)(hU:knd.is s.heap k a)(hm:s.heap.DictOfH knd d xs)(hsz:xs.length<=acV)(h0:aiP xs k=none->Q none { s with toks:=s.toks+knd.draws k })(h1:∀ p e,aiP xs k=some p->e.val=p.2->∀ h',h'.DictOfH knd d (gk xs k)->Heap.SameBut d s.heap h'->Q (some e) { s with heap:=h',toks:=s.toks+knd.draws k }):acQ (model prog w) A (aix d (.ref a)) Q E s:=by
 obtain⟨o,es,ep,ho,hc,hd,he,his,hn⟩:=hm;have Ak:es.size<=acV:=by have e:=aeY he;lia
 unfold aix
 try with_reducible refine adY ?_
 refine acq (knd.pyHash hu hU ?_);refine acq (wpAny_dictFind_heap (s:={ s with toks:=s.toks+knd.draws k }) hu hU ho hd he his hn (λbB=>?_) λj p hj=>?_)
 .exact acw (h0 (atKey_none_of_get bB))
 .refine acq (adR (s:={ s with toks:=s.toks+knd.draws k }) ho hd ?_);have ej:=entry_at he j;rw[hj] at ej;rw[ej];refine acq (wpAny_updateDictKeys (hz:=Ak) (s:={ s with toks:=s.toks+knd.draws k }) ho hd (acw (h1 p (aim knd (k,p)) (atKey_of_get hn hj) rfl _ ⟨_,_,ep+1,adh _ ho (aiQ (afy hd _)),hc.mapDictKeys _,afy hd _,?_,?_,R6 hn⟩ (adG ..))))
  .rw[<- Iy hn hj];have lt:j<es.size:=by rw[aeY he];exact (acz.mp hj).1
   rw[Array.eraseIdxIfInBounds,dif_pos lt,Array.toList_eraseIdx,he,Iz]
  .exact λx hx=>knd.keeps (his x (acZ.mp hx).1) ho hd (adG ..)
theorem R7(hu:knd.room A.in1)(hU:knd.is s.heap k a)(hd:(d == ad6)=false)(hm:s.heap.DictOfH knd d xs)(hsz:xs.length<=acV)(IC:more=[] ∨ ∃ x,more=[x])(h1:∀ p,aiP xs k=some p->∀ h' tk,h'.DictOfH knd d (gk xs k)->Heap.SameBut d s.heap h'->Q p.2 { s with heap:=h',toks:=tk })(h0:aiP xs k=none->∃ x,more=[x]/\∀ tk,Q x { s with toks:=tk }):acQ (model prog w) A (call (.builtin "dict.pop") (.ref d :: .ref a::more)) Q E s:=by
 have ha:ahN "dict.pop" ⟨.ref d :: .ref a::more,[]⟩:=by
  rcases IC with q|⟨x,q⟩
  .subst q;exact PySem.F.args_dict_pop_2 _ _
  .subst q;exact PySem.F.args_dict_pop_3 _ _ _
 have g:MeetsIn prog w (aeB.«dict.pop» ⟨.ref d :: .ref a::more,[]⟩) (λA R s=>knd.room A.in1/\knd.is s.heap k a/\s.heap.DictOfH knd d xs/\(∀ p,aiP xs k=some p->∀ h' tk,h'.DictOfH knd d (gk xs k)->Heap.SameBut d s.heap h'->R (.ok (.ret p.2)) { s with heap:=h',toks:=tk }) /\
  (aiP xs k=none->∃ x,more=[x]/\∀ tk,R (.ok (.ret x)) { s with toks:=tk })):=.of_wp λA R s ⟨hu,hU,hm,h1,h0⟩=>by
  obtain⟨o,es,ep,ho,hc,hda,he,his,hn⟩:=id hm;unfold aeB.«dict.pop»;refine acq ?_;unfold akn;refine acq (agq hm.typeIs ?_);rcases IC with rfl|⟨dflt,rfl⟩
  .show acQ _ _ (pure (d,ac3 a,none)) _ _ s;refine acw ?_;dsimp only;rw[if_neg (show ¬ (keyPart (ac3 a)).isSome=true from λz=>nomatch z)];refine acq (adR ho hda (acq (acw ?_)));by_cases hemp:es.isEmpty=true
   .rw[if_pos hemp];refine acq (afP (acq (acw ?_)));rw[if_pos (show (none:Option aeC).isNone=true from rfl)];refine acq (aeS hd ?_);obtain⟨x,ex,hq⟩:=h0 (IA he hemp);cases ex
   .rw[if_neg hemp];refine acq (IB hu hU hm hsz (λAl=>?_) λp e hp Am h' dd hs=>?_)
    .rw[if_pos (show (none:Option aeC).isNone=true from rfl)];refine acq (aeS hd ?_);obtain⟨x,ex,hq⟩:=h0 Al;cases ex
    .rw[if_neg (show ¬ (some e).isNone=true from by simp)];exact acq (afJ (acw ⟨e.val,rfl,by rw[Am];exact h1 p hp h' _ dd hs⟩))
  .show acQ _ _ (pure (d,ac3 a,some dflt)) _ _ s;refine acw ?_;dsimp only;rw[if_neg (show ¬ (keyPart (ac3 a)).isSome=true from λz=>nomatch z)];refine acq (adR ho hda (acq (acw ?_)));by_cases hemp:es.isEmpty=true
   .rw[if_pos hemp];refine acq (afP (acq (acw ?_)));rw[if_pos (show (none:Option aeC).isNone=true from rfl)];refine acq (aeS hd ?_);obtain⟨x,ex,hq⟩:=h0 (IA he hemp);cases ex;exact acq (afP (acw ⟨dflt,rfl,hq _⟩))
   .rw[if_neg hemp];refine acq (IB hu hU hm hsz (λAl=>?_) λp e hp Am h' dd hs=>?_)
    .rw[if_pos (show (none:Option aeC).isNone=true from rfl)];refine acq (aeS hd ?_);obtain⟨x,ex,hq⟩:=h0 Al;cases ex;exact acq (afP (acw ⟨dflt,rfl,hq _⟩))
    .rw[if_neg (show ¬ (some e).isNone=true from by simp)];exact acq (afJ (acw ⟨e.val,rfl,by rw[Am];exact h1 p hp h' _ dd hs⟩))
 exact call_meetsIn aie hm.typeIs PySem.F.entry_dict_pop ha g ⟨hu,hU,hm,h1,h0⟩
end
def el(h:aeV)(d:acF)(es:Array aeC)(ep:Nat):Prop:=∃ o,h.get? d=some o/\o.ExactDict/\o.data = .dict es ep
theorem el.at(x:el h d es ep)(e:∀ o,h.get? d=some o->h'.get? d=some o):el h' d es ep:=let ⟨o,ho,r⟩:=x;⟨o,e o ho,r⟩
theorem el.lt(x:el h d es ep):d<h.objs.size:=let ⟨_,ho,_⟩:=x;acy ho
theorem el.ty{s:acI}{d:acF}{es:Array aeC}{ep:Nat}(x:el s.heap d es ep):s.TypeIs (.ref d) "dict" := let ⟨o,ho,hc,_⟩:=x;⟨o,ho,hc.1⟩
section
variable{prog:adn}{w:ad2}{A:aeb}{E:acB->acI->Prop}{s:acI}{d it:acF}{es:Array aeC}{i ep:Nat}
theorem ID(lo:(d == ad6)=false)(x:el s.heap d es ep)(q:Q (.ref s.heap.objs.size) { s with heap:=s.heap.push { cls:=.type "dict_keyiterator",data:=.fields #[.ref d,.int 0 0,.int es.size 0,.int ep 0] } }):acQ (model prog w) A (akU (.ref d)) Q E s:=by have T:=x.ty;obtain⟨o,ho,hc,hq⟩:=x;refine ahs T ahZ (adX ahZ T PySem.F.entry_dict_iter ?_ (PySem.F.args_dict_iter_1 _));unfold aeB.«dict.__iter__»;refine acq ?_;unfold ako;refine acq (agq T ?_);refine acw (a:=ac3 d) ?_;show acQ _ A.in1 (agr d >>= _) _ _ s;unfold agr;rw[if_neg (by rw[lo];exact acP)];refine acq (acw (acq (adR ho hq (acq (agT ho hq ?_)))));refine acq (adP (acw ⟨_,rfl,"dict_keyiterator",_,⟨_,acG _ rfl,rfl⟩,PySem.F.slot_dict_keyiterator_next.lookup,?_⟩));simpa [af4] using q
theorem IE(hit:s.heap.IsKeyIter it d i es.size ep)(x:el s.heap d es ep)(hi:i<es.size)(q:∀ h',h'.IsKeyIter it d (i+1) es.size ep->Heap.SameBut it s.heap h'->Q (some es[i].key) { s with heap:=h' }):acQ (model prog w) A (afj (.ref it)) Q E s:=by
 obtain⟨o,ho,hc,hd⟩:=id hit;obtain⟨od,hod,gb,hdd⟩:=x;have T:=hit.typeIs;unfold afj;refine acq (afZ (ad1 (name:=adS "__next__") T ad9 (adX ad9 T afK ?_ (afC _))));refine acq (acw (acq (acq ?_)))
 first|refine acq (aer T (acw (acq (afD ho hd ?_))))|refine acq (aeZ T (acw (acq (afD ho hd ?_))))
 have ow:Builtin.Dict_items.ownsTuple "dict_keyiterator" = false:=by decide
 simp only[ow,ac2,if_false];show acQ _ A.in1 (if (ac3 d == Value.none)=true then _ else _) _ _ s;rw[if_neg (show ¬ (ac3 d == Value.none)=true from acP)];refine acq (acw (acq (adR hod hdd ?_)));rw[if_neg (by simp)];refine acq (acw (acq (agT hod hdd ?_)));rw[if_neg (by simp)];refine acw ?_;simp only[show ¬ (i:Int)<0 by lia,if_false,adt,adi hi];refine acq ?_
 first|refine acq (aer T (acw (acq (ags T ?_))))|refine acq (aeZ T (acw (acq (ags T ?_))))
 show acQ _ A.in1 (ajS (.ref it) 1 (af4 ((i:Int)+1)) >>= _) _ _ s;refine acq (agi ho hd (by simp) ?_);have lh:(s.heap.update it (aft (·.setIfInBounds 1 (af4 ((i:Int)+1))))).IsKeyIter it d (i+1) es.size ep:=⟨_,adh _ ho (Obj.isFreed_of_fields (ai9 hd _)),(Obj.cls_mapFields ..).trans hc,by rw[ai9 hd];simp[af4]⟩
 refine acq (adY (acq (ags (s:={ s with heap:=s.heap.update it (aft (·.setIfInBounds 1 (af4 ((i:Int)+1)))) }) lh.typeIs ?_)));show acQ _ A.in1 (pure es[i].key) _ _ _;exact acw (acw ⟨_,rfl,acw (q _ lh (adG ..))⟩)
theorem IF(hh:A.handled=none)(hit:s.heap.IsKeyIter it d es.size es.size ep)(x:el s.heap d es ep)(q:∀ h',ake it s.heap h'->Q none { s with heap:=h' }):acQ (model prog w) A (afj (.ref it)) Q E s:=by
 obtain⟨o,ho,hc,hd⟩:=id hit;obtain⟨od,hod,gb,hdd⟩:=x;have T:=hit.typeIs;unfold afj;refine acq (afZ (ad1 (name:=adS "__next__") T ad9 (adX ad9 T afK ?_ (afC _))));refine acq (acw (acq (acq ?_)))
 first|refine acq (aer T (acw (acq (afD ho hd ?_))))|refine acq (aeZ T (acw (acq (afD ho hd ?_))))
 have ow:Builtin.Dict_items.ownsTuple "dict_keyiterator" = false:=by decide
 simp only[ow,ac2,if_false];show acQ _ A.in1 (if (ac3 d == Value.none)=true then _ else _) _ _ s;rw[if_neg (show ¬ (ac3 d == Value.none)=true from acP)];refine acq (acw (acq (adR hod hdd ?_)));rw[if_neg (by simp)];refine acq (acw (acq (agT hod hdd ?_)));rw[if_neg (by simp)];refine acw ?_;simp only[show ¬ (es.size:Int)<0 by lia,if_false,adt,aff (acC es.size)];refine acq ?_
 first|refine acq (aer T (acw ?_))|refine acq (aeZ T (acw ?_))
 show acQ _ A.in1 (ajS (.ref it) 0 .none >>= _) _ _ s;refine acq (agi ho hd (by simp) ?_);show acQ _ A.in1 (newExc (.type "StopIteration") [] >>= _) _ _ _;refine acq ?_;simp only[newExc,akJ];refine acq (adP ?_ (by size_fits));refine acq (m:=ahe _ _) (ahB (a:=Value.none) (by first|rfl|(simp only[ahe];rfl)) ?_);refine adP ?_ (by size_fits);simp only[raiseNew];refine acq (wpAny_handled ?_);rw[show A.in1.handled=none from hh];refine acq (acw (wpAny_throw ?_));refine acq (afa (T := "StopIteration") (b:=true) ⟨_,acG _ rfl,rfl⟩ aiD ?_);exact acw (q _ (((adG ..).extBut.push _).push _))
theorem R8(hh:A.handled=none)(I d:acF)(bV:d≠I)(es:Array aeC)(ep:Nat) :
 Walks prog w A I [I,d] [I] es.size (λi v=>∃ e,es[i]?=some e/\v=e.key) (λi h=>h.IsKeyIter I d i es.size ep/\el h d es ep) where
 sub:=λb hb=>by simp at hb;simp[hb]
 frame:=λ_ _ _ st hk=>⟨st.1.at λo e=>hk I (by simp) o e,st.2.at λo e=>hk d (by simp) o e⟩
 item:=λi s Q E hi st hQ=>by refine IE st.1 st.2 hi λh' lh wU=>?_;exact hQ _ h' s.toks ⟨es[i],adi hi,rfl⟩ ⟨lh,st.2.at λo e=>wU.extBut d o bV e⟩ λb o hb e=>wU.extBut b o (λh=>hb (by simp[h])) e
 done:=λs Q E st hQ=>IF hh st.1 st.2 λh' qi=>hQ h' s.toks λb o hb e=>qi b o (λh=>hb (by simp[h])) e
 self:=λ_ _ _ _ st hQ=>aiy st.1 hQ
theorem IG(lo:(d == ad6)=false):aiE prog w "dict" d d es.size (λi v=>∃ e,es[i]?=some e/\v=e.key) (λh=>el h d es ep) where
 type:=λ_ x=>x.ty
 there:=λ_ x=>⟨x.lt,x.lt⟩
 keep:=λ_ _ x hk=>x.at λo e=>hk d (.inl rfl) o e
 notList:=by decide
 notTuple:=by decide
 hint:=λ_ _ _ _ x hq=>PySem.W.kdl_hint_dict x.ty hq
 iter:=λ_ _ hh x=>⟨_,_,(λ_ _ hq=>ID lo x hq),R8 hh _ d (acO x.lt) es ep,⟨⟨_,acG _ rfl,rfl,rfl⟩,x.at λo e=>acx _ e⟩⟩
end
section
def oi(h:aeV)(vs:List acB)(kis:List (List Int))(i:Nat):Prop:=∃ (p:acF) (o:Obj) (ao:List acB) (m:Nat),vs[i]?=some (.ref p)/\h.get? p=some o/\o.cls = .type "tuple" /\ o.data = .seq ao.toArray m/\afm ao (kis.getD i [])/\ao≠[]
theorem oi.keep(x:oi h vs kis i)(k:∀ b o,h.get? b=some o->(∀ n xs,o≠afi "list" xs n)->h'.get? b=some o):oi h' vs kis i:=by obtain⟨p,o,ao,m,h1,h2,h3,r⟩:=x;exact⟨p,o,ao,m,h1,k p o h2 (λn xs z=>by rw[z] at h3;exact absurd (Value.type.inj h3) (by decide)),h3,r⟩
theorem R9(h:afm ao ns)(hn:ao≠[]):∃ i t,ao[0]?=some (.int i t):=by
 cases h with
 | nil=>exact absurd rfl hn
 | cons=>exact⟨_,_,rfl⟩
theorem IH:∀ (vs:List acB) (kis:List (List Int)),kis.length=vs.length->(∀ i,i<vs.length->oi h vs kis i)->∃ fs,PySem.W.KatTups h vs fs/\fs.length=vs.length/\∀ v∈fs,∃ i t,v = .int i t
 | [],_,_,_=>⟨[],PySem.W.KatTups.nil,rfl,λv z=>by simp at z⟩
 | v::vs,[],e,_=>by simp at e
 | v::vs,k::kis,e,hh=>by
  obtain⟨p,o,ao,m,h1,h2,h3,h4,h5,h6⟩:=hh 0 (by simp);have qc:v = .ref p:=by simpa using h1
  subst qc;obtain⟨i,t,hf⟩:=R9 h5 h6;obtain⟨fs,a1,a2,a3⟩:=IH vs kis (by simpa using e) λi hi=>by obtain⟨p,o,ao,m,h1,r⟩:=hh (i+1) (by simpa using hi);exact⟨p,o,ao,m,by simpa using h1,by simpa using r⟩
  refine⟨.int i t::fs,PySem.W.KatTups.cons h2 h3 h4 (by simpa using hf) a1,by simp[a2],λv hv=>?_⟩;rcases acL.mp hv with z|z
  .exact⟨i,t,z⟩
  .exact a3 v z
def wV(prog:adn)(w:ad2)(h:aeV)(vs:List acB)(kis:List (List Int)):Prop :=
 2<=vs.length->∃ κ,∀ (A:aeb) (E:acB->acI->Prop) (s:acI),s.heap=h->(∀ Q:SortKind->acI->Prop,Q κ s->acQ (model prog w) A (keyKind' vs.toArray) Q E s) /\
  ∀ i j,i<vs.length->j<vs.length->∀ C:Bool->acI->Prop,C (c9 kis i j) s->acQ (model prog w) A (keyLt' κ (vs.getD i Value.none) (vs.getD j Value.none)) C E s
theorem Sa(ho:s.heap.get? a=some (afi "list" vs.toArray n))(hl:kis.length=vs.length)(fF:vs.length<64)(hk:∀ g:aeV,(∀ b o,(∀ n xs,o≠afi "list" xs n)->s.heap.get? b=some o->g.get? b=some o)->wV prog w g vs kis)(fin:∀ h',(∀ b o,b≠a->s.heap.get? b=some o->h'.get? b=some o)->(∃ c,h'.get? a=some (afi "list" (aeO ((cX (c9 kis) vs.length).toList.map λi=>vs.getD i Value.none)) c))->P (.done (.ret .none)) { s with heap:=h' }) :
 acQ (model prog w) A (aeB.«list.sort» ⟨[.ref a],[]⟩) P E s:=by
 rw[list_sort_plain];have la:a<s.heap.objs.size:=acy ho;refine acq (listItems_at ho rfl (acq (aja ho rfl ?_ (by rw[acK,afG];walk_at "o") (ac5 _))));obtain⟨e1,oa⟩:∃ e1,(s.heap.update a (adZ λ_=>(#[]:Array acB))).get? a=some (afi "list" #[] e1):=⟨_,akf ho λ_=>#[]⟩
 have keep:∀ b o,b≠a->s.heap.get? b=some o->(s.heap.update a (adZ λ_=>(#[]:Array acB))).get? b=some o:=λb o z e=>(acS _ _ (ady z)).trans e;refine acq (akg oa rfl ?_);generalize s.heap.update a (adZ λ_=>(#[]:Array acB))=g at oa keep ⊢;refine acq (wpAny_newTuple ?_ (by show vs.length<=_;rw[afG];walk_at "o"));refine acq (wpAny_newList ?_ (ac5 _));refine adY ?_;show acQ (model prog w) A _ P E { s with heap:=(g.push (afi "tuple" vs.toArray 0)).push (afi "list" #[] 0) };have qj:((g.push (afi "tuple" vs.toArray 0)).push (afi "list" #[] 0)).get? a=some (afi "list" #[] e1):=acx _ (acx _ oa);have An:∀ b o,b≠a->s.heap.get? b=some o->((g.push (afi "tuple" vs.toArray 0)).push (afi "list" #[] 0)).get? b=some o:=λb o z e=>acx _ (acx _ (keep b o z e));generalize (g.push (afi "tuple" vs.toArray 0)).push (afi "list" #[] 0)=g2 at qj An ⊢;dsimp only;have neT:∀ b o,s.heap.get? b=some o->(∀ n xs,o≠afi "list" xs n)->b≠a:=λb o e z y=>by rw[y,ho] at e;cases e;exact z _ _ rfl
 have sY:((cX (c9 kis) vs.length).toList.map λi=>vs.getD i Value.none).length=vs.length:=by rw[acs,(qb (n:=vs.length) (og kis)).1.length_eq,acH]
 have sz:(aeO ((cX (c9 kis) vs.length).toList.map λi=>vs.getD i Value.none)).size<=acV+1:=by rw[acK,sY,afG];walk_at "o"
 have done:P (.done (.ret .none)) { s with heap:=g2.update a (adZ λ_=>aeO ((cX (c9 kis) vs.length).toList.map λi=>vs.getD i Value.none)) } :=
  fin _ (λb o z e=>(acS _ _ (ady z)).trans (An b o z e)) ⟨_,akf qj λ_=>_⟩
 by_cases h2:vs.toArray.size<2
 .rw[if_pos h2,if_pos h2];refine acq (acw ?_);rw[StateT.run_pure];refine acq (acw ?_);dsimp only;have self:(acD vs.length).map (λi=>vs.getD i Value.none)=vs:=by
   apply ahQ
   .simp
   .intro i h1 h2;simp[acu,h2]
  have e0:(arrOf (SortSt.mk' general' (vs.toArray.zip vs.toArray) #[] 7 none)).map (·.2)=aeO ((cX (c9 kis) vs.length).toList.map λi=>vs.getD i Value.none):=by unfold cX;rw[if_pos (by simpa using h2)];apply Array.toList_inj.mp;rw[show (acD vs.length).toArray.toList=acD vs.length from rfl,self];show ((vs.toArray.zip vs.toArray).map (·.2)).toList=_;simp[List.map_snd_zip]
  rw[e0];refine acq (akg qj rfl (acq (aja qj rfl ?_ (ac5 _) sz)));simp only[bne_self_eq_false,ac2,if_false];exact acw done
 .rw[if_neg h2,if_neg h2];have sR:2<=vs.length:=by rw[acK] at h2;walk_at "o"
  obtain⟨κ,hκ⟩:=hk g2 (λb o z e=>An b o (neT b o e z) e) sR;refine acq ((hκ A E { s with heap:=g2 } rfl).1 _ ?_);have ask:(PySem.W.kas_sort vs.length).kasWp (PySem.W.kas_ask prog w A κ vs) (λp s'=>s' = { s with heap:=g2 }/\p=cX (c9 kis) vs.length) { s with heap:=g2 }:=by
   have pv:=HW _ (HU (n:=vs.length) (og kis) (by walk_at "o"));refine HM (lt:=c9 kis) (n:=vs.length) (Ok:=λs'=>s' = { s with heap:=g2 }) (λi j C s' hi hj e q=>?_) (λp s' e q=>⟨e,?_⟩) _ _ rfl pv
   .subst e;exact (hκ _ _ _ rfl).2 i j hi hj C (q _ rfl)
   .rw[q];unfold cX;rw[if_neg (by walk_at "o")]
  refine acq (adN (PySem.W.kat_run (κ:=κ) (ks:=vs) (vs:=vs) (Q:=λst s'=>s' = { s with heap:=g2 }/\arrOf st=(cX (c9 kis) vs.length).map (PySem.W.kas_item (vs.toArray.zip vs.toArray))/\failedOf st=none)
   rfl sR fF (λp st s' b1 b2 b3 b4=>⟨b4.1,by rw[b2,b4.2],b3⟩) ask) ?_ λ_ _ z=>z)
  rintro ⟨⟨⟩,st⟩ s' ⟨rfl,har,hf⟩;dsimp only;rw[PySem.W.kat_snds rfl har];refine acq (akg qj rfl (acq (aja qj rfl ?_ (ac5 _) sz)));rw[hf];simp only[bne_self_eq_false,ac2,if_false];exact acw done
theorem II(hl:kis.length=vs.length)(fF:vs.length<64)(hk:∀ g:aeV,(∀ b o,(∀ n xs,o≠afi "list" xs n)->s.heap.get? b=some o->g.get? b=some o)->wV prog w g vs kis)(sZ:∀ (A':aeb) (Q':List acB->acI->Prop) (E':acB->acI->Prop),A'.handled=A.handled->(∀ h' tk,(∀ b o,s.heap.get? b=some o->h'.get? b=some o)->s.heap.objs.size<=h'.objs.size->Q' vs { s with heap:=h',toks:=tk })->acQ (model prog w) A' (collect (.ref r)) Q' E' s)(q:∀ l h' tk,s.heap.objs.size<=l->(∀ b o,s.heap.get? b=some o->h'.get? b=some o)->(∃ c,h'.get? l=some (afi "list" (aeO ((cX (c9 kis) vs.length).toList.map λi=>vs.getD i Value.none)) c))->Q (.ref l) { s with heap:=h',toks:=tk }) :
 acQ (model prog w) A (call (.builtin "sorted") [.ref r]) Q E s:=by
 refine ahf kind_sorted plain_sorted entry_sorted (args_sorted1 _) ?_;unfold aeB.«sorted»;refine acq (m:=checkCount "sorted" 1 1 _) (acw (acq (sZ _ _ _ rfl λh1 tk keep hsz=>?_)));refine acq (wpAny_newList ?_ (by rw[afG];walk_at "o"));have oL:(h1.push (afi "list" vs.toArray 0)).get? h1.objs.size=some (afi "list" vs.toArray 0):=acG _ rfl;have tf:∀ b o,s.heap.get? b=some o->b≠h1.objs.size/\(h1.push (afi "list" vs.toArray 0)).get? b=some o:=λb o e=>by have:=acy e;exact⟨by walk_at "o",acx _ (keep b o e)⟩
 show acQ _ A.in1 (holding [.ref h1.objs.size] (call (.builtin "list.sort") [.ref h1.objs.size]) >>= _) _ _ { s with heap:=h1.push (afi "list" vs.toArray 0),toks:=tk };generalize h1.push (afi "list" vs.toArray 0)=h2 at oL tf ⊢;generalize h1.objs.size=l at oL tf hsz ⊢;refine acq (adY (adX slot_list_sort ⟨_,oL,rfl⟩ entry_list_sort ?body (args_list_sort _)))
 case body =>
  refine Sa (s:={ s with heap:=h2,toks:=tk }) oL hl fF (λg z=>hk g λb o n e=>z b o n (tf b o e).2) λh' k c=>⟨_,rfl,acw ⟨_,rfl,q l h' tk hsz (λb o e=>k b o (tf b o e).1 (tf b o e).2) c⟩⟩
theorem Sb(hl:kis.length=vs.length)(hk:∀ i,i<vs.length->oi h vs kis i):wV prog w h vs kis:=λh2=>by
 obtain⟨fs,ht,lf,hi⟩:=IH vs kis hl hk;refine⟨tuples' true,λA E s e=>?_⟩;subst e;refine⟨λQ q=>PySem.W.kat_kind (T:=.type "int") ht (by walk_at "o") (λv hv=>?_) (by decide) q,λi j hi hj C q=>?_⟩
 .obtain⟨i,t,rfl⟩:=hi v hv;exact PySem.W.Looks.now
 .obtain⟨p1,o1,i1,m1,a1,b1,_,c1,d1,_⟩:=hk i hi;obtain⟨p2,o2,i2,m2,a2,b2,_,c2,d2,_⟩:=hk j hj;rw[acu,acu,a1,a2];have z1:=d1.length;have z2:=d2.length;exact PySem.W.kat_lt b1 c1 b2 c2 (by simpa using RC (b:=true) (i:=0) d1 d2 (by simp[z1,z2]) q)
theorem Sd(hl:kis.length=vs.length)(fF:vs.length<64)(hk:∀ i,i<vs.length->oi s.heap vs kis i)(sZ:∀ (A':aeb) (Q':List acB->acI->Prop) (E':acB->acI->Prop),A'.handled=A.handled->(∀ h' tk,(∀ b o,s.heap.get? b=some o->h'.get? b=some o)->s.heap.objs.size<=h'.objs.size->Q' vs { s with heap:=h',toks:=tk })->acQ (model prog w) A' (collect (.ref r)) Q' E' s)(q:∀ l h' tk,s.heap.objs.size<=l->(∀ b o,s.heap.get? b=some o->h'.get? b=some o)->(∃ c,h'.get? l=some (afi "list" (aeO ((cX (c9 kis) vs.length).toList.map λi=>vs.getD i Value.none)) c))->Q (.ref l) { s with heap:=h',toks:=tk }) :
 acQ (model prog w) A (call (.builtin "sorted") [.ref r]) Q E s :=
 II hl fF (λg z=>Sb hl λi hi=>(hk i hi).keep λb o e n=>z b o n e) sZ q
theorem IJ(K:aiE prog w T r d n P OK)(hh:A.handled=none)(ay:OK s.heap)(hn:n<=acV)(q:∀ h' tk acc,(∀ b o,s.heap.get? b=some o->h'.get? b=some o)->s.heap.objs.size<=h'.objs.size->ItemsOf P acc n->Q acc.toList { s with heap:=h',toks:=tk }):acQ (model prog w) A (collect (.ref r)) Q E s:=by
 have lt:=K.there _ ay;unfold collect;refine acq (wpAny_runValue (adM entry_proto_collect' ?_));rw[adq PySem.F.plain_proto_collect _];show acQ _ A.in1 (ala [] >>= λl=>again (.builtin "list.__iadd__" ⟨[l,.ref r],[]⟩)) _ _ s;refine acq (adP (acw ⟨Code.quiet_builtin _ (by decide +kernel),adM entry_list_iadd' ?_⟩));rw[adq PySem.F.plain_list_iadd _];have oS:(s.heap.push { cls:=.type "list",data:=.seq ([]:List acB).toArray }).get? s.heap.objs.size=some { cls:=.type "list",data:=.seq #[] 0 }:=acG _ rfl;show acQ _ A.in1 (aeG (.ref s.heap.objs.size) (.ref r) (.ref s.heap.objs.size)) _ _ { s with heap:=s.heap.push { cls:=.type "list",data:=.seq ([]:List acB).toArray } };refine PySem.W.kdl_extend (R:=λr s'=>match r with
  | .ok (.ret v)=>acQ (model prog w) A (match v with|.ref a=>(do match (<- load a).data with|.seq xs _=>pure xs.toList|_=>unsupported "internal:collect")|_=>unsupported "internal:collect") Q E s'
  | .ok _=>False
  | .error e=>E e s') (s:={ s with heap:=s.heap.push { cls:=.type "list",data:=.seq ([]:List acB).toArray } }) K hh (K.keep _ _ ay λb _ o e=>acx _ e) s.heap.objs.size (adJ lt.1) (adJ lt.2) (.ref s.heap.objs.size) 0 oS (λh' tk acc c hk hS gF=>?_) hn
 show acQ _ A (load s.heap.objs.size >>= _) _ _ _;refine acq (wpAny_load hS (acw ?_));exact q h' tk acc (λb o e=>hk b o (acO (acy e)) (acx _ e)) (agl (acy hS)) gF
end
def iN(H:Hp)(xs:List V)(kvs:List (List Key × V)):Prop:=ax (λx (kv:List Key × V)=>∃ a,x = .ref a/\H a=some (.tup (kv.1.map kV))) xs kvs
theorem KT.keys(r:KT H kvs xs):xs.map (·.1)=kvs.map (·.1):=by
 induction r with
 | nil=>rfl
 | cons h t ih=>rw[acN,acN,ih,h.1]
theorem KT.IK(r:KT H kvs xs):iN H ((xs.map (·.2.1)).map V.ref) kvs:=by
 induction r with
 | nil=>exact trivial
 | cons h t ih=>exact⟨⟨_,rfl,h.2.1⟩,ih⟩
theorem iN.IL{K:acr}{H:Hp}:∀ {ys:List V} {kvs:List (List Key × V)} {kis:List (List Int)},iN H ys kvs->kvs.map (·.1)=kis.map (λk=>k.map agH)->(∀ k∈kis,k≠[])->iL K H ys kis
 | [],[],[],_,_,_=>trivial
 | [],[],_::_,_,e,_=>by simp at e
 | _::_,kv::kvs,[],_,e,_=>by simp at e
 | y::ys,kv::kvs,k::kis,h,e,hn=>by rw[acN,acN] at e;injection e with e1 e2;obtain⟨⟨a,rfl,ha⟩,t⟩:=h;refine⟨⟨a,rfl,?_,hn k (.head _)⟩,iN.IL t e2 λk hk=>hn k (.tail _ hk)⟩;rw[e1,ado] at ha;exact .inl (.inl ha)
 | [],_::_,_,h,_,_=>h.elim
 | _::_,[],_,h,_,_=>h.elim
theorem Ao:∀ (as:List acF),Vals (as.map V.ref) (as.map ac3)
 | []=>.nil
 | _::as=>.cons rfl (Ao as)
section
theorem IM(I:Inv X pins σ H s)(e:H p=some (.dT kvs)):∃ (as:List acF) (es:Array aeC) (ep:Nat),iN H (as.map V.ref) kvs/\(p == ad6)=false/\el s.heap p es ep/\es.size=as.length/\(∀ acc:Array acB,ItemsOf (λi v=>∃ e,es[i]?=some e/\v=e.key) acc es.size->acc.toList=as.map ac3)/\as.length<=acV:=by
 obtain⟨z,hd,xs,rel,o,es,ep,ho,hc,hdt,he,his,hn⟩:=sX I.ay e;have hl:xs.length=kvs.length:=(Paired.length rel).symm;have hs:es.size=xs.length:=aeY he;refine⟨xs.map (·.2.1),es,ep,KT.IK rel,hd,⟨o,ho,hc,hdt⟩,by rw[acs];exact hs,λacc ha=>?_,by rw[acs,hl];exact z⟩;refine afu λi=>?_;rw[acJ,acJ];have la:acc.toList.length=es.size:=by rw[aez];exact ha.1
 by_cases hi:i<es.size
 .obtain⟨v,hv⟩:∃ v,acc.toList[i]?=some v:=⟨_,acv (by lia)⟩
  obtain⟨en,h1,h2⟩:=ha.2 i v (by rw[<- agt];exact hv);rw[entry_at he i] at h1;cases hx:xs[i]? with
  | none=>rw[hx] at h1;cases h1
  | some y=>rw[hx] at h1;cases h1;rw[hv,h2];rfl
 .rw[adK (by lia),adK (by lia)];rfl
theorem Se(hc:X.calm=true):eR X (.type "list") (λxs H Q=>∃ p kvs,xs=[.ref p]/\H p=some (.dT kvs)/\∀ l ys,H l=none->iN H ys kvs->Q (.ref l) (upd H l (.lst ys))):=by intro pins s σ H xs us Q I r h;obtain⟨p,kvs,rfl,e,q⟩:=h;obtain⟨u,rfl,rx⟩:=vals1 r;cases rx;obtain⟨as,es,ep,hk,lo,ra,hs,gF,hz⟩:=IM I e;refine PySem.W.kdl_call (IG lo) (I.ok.hd hc) ra (by rw[hs];exact hz) λh' tk acc c keep hD ha=>?_;have ea:=gF acc ha;exact⟨.ref s.heap.objs.size,_,I.laid (t':=tk) keep (acC _) (show bN X.prog X.w _ h' _ (.lst (as.map V.ref)) from ⟨by rw[acs];exact hz,as.map ac3,c,Ao as,by rw[<- ea,aiz];exact hD⟩),rfl,q _ _ (I.ay.fresh (acC _)) hk⟩
theorem Sf(I:Inv X pins σ H s)(h:iL X.K H ks kis)(r:Vals ks us):∀ i,i<us.length->oi s.heap us kis i:=λi hi=>by
 have hk:i<ks.length:=by rw[r.length];exact hi
 have Sg:i<kis.length:=by rw[<- h.len];exact hk
 obtain⟨p,ep,hp⟩:=h.get (acv hk);obtain⟨u,eu,ru⟩:=r.get (acv hk);rw[ep] at ru;cases ru;obtain⟨ao,rv,⟨o,ho,hc,m,hd⟩,_⟩:=I.tuple hp;refine⟨p,o,ao,m,eu,ho,hc,hd,intsAre_of rv,λz=>?_⟩;have nn:kis.getD i []≠[]:=by
  have all:∀ {ks:List V} {ns:List (List Int)},iL X.K H ks ns->∀ n∈ns,n≠[]:=by
   intro ks
   induction ks with
   | nil=>intro ns h n hn;cases ns with
    | nil=>simp at hn
    | cons _ _=>exact h.elim
   | cons k ks ih=>intro ns h n hn;cases ns with
    | nil=>exact h.elim
    | cons m ns =>
     obtain⟨⟨_,_,_,bV⟩,t⟩:=h;rcases acL.mp hn with z|z
     .rw[z];exact bV
     .exact ih t n z
  rw[acu,acv Sg];exact all h _ (ahP _)
 have:=rv.length;rw[acs,z] at this;exact nn (aeu.mp this)
theorem IP(I:Inv X pins σ H s)(r:Vals ks us)(hz:ks.length<=acV)(hl:s.heap.objs.size<=l)(keep:∀ b o,s.heap.get? b=some o->h'.get? b=some o)(hD:∃ c,h'.get? l=some (afi "list" (aeO ((cX (c9 kis) us.length).toList.map λi=>us.getD i Value.none)) c))(q:∀ l,H l=none->Q (.ref l) (upd H l (.lst (d8 kis .non ks)))):EP X pins σ Q (.ref l) { s with heap:=h',toks:=tk }:=by obtain⟨c,hD⟩:=hD;have sv:=RD (kis:=kis) r;rw[r.length] at sv;exact⟨.ref l,_,I.laid (t':=tk) keep hl (show bN X.prog X.w _ h' _ (.lst (d8 kis .non ks)) from ⟨by rw[Ia];exact hz,_,c,sv,hD⟩),rfl,q l (I.ay.fresh hl)⟩
theorem Sh(hc:X.calm=true):eR X (.builtin "sorted") (λxs H Q=>∃ (p:acF) (kvs:List (List Key × V)) (kis:List (List Int)),xs=[.ref p]/\H p=some (.dT kvs)/\kvs.map (·.1)=kis.map (λk=>k.map agH)/\(∀ k∈kis,k≠[])/\kvs.length<64 /\
 ∀ l ys,H l=none->iN H ys kvs->Q (.ref l) (upd H l (.lst (d8 kis .non ys)))):=by
 intro pins s σ H xs us Q I r h;obtain⟨p,kvs,kis,rfl,e,ek,bV,fF,q⟩:=h;obtain⟨u,rfl,rx⟩:=vals1 r;cases rx;obtain⟨as,es,ep,hk,lo,ra,hs,gF,hz⟩:=IM I e;have la:as.length=kvs.length:=by have:=hk.len;rwa [acs] at this
 have lk:kis.length=kvs.length:=by have:=congrArg List.length ek;simpa using this.symm
 have hK:iL X.K H (as.map V.ref) kis:=hk.IL ek bV;have rv:=Ao as;refine Sd (kis:=kis) (vs:=as.map ac3) (by rw[acs];lia) (by rw[acs];lia) (Sf I hK rv) (λA' Q' E' hA hq=>IJ (IG lo) (hA.trans (I.ok.hd hc)) ra (by rw[hs];exact hz) λh' tk acc k1 k2 ha=>?_) λl h' tk h1 h2 h3=>IP I rv (by rw[acs];exact hz) h1 h2 h3 λl hl=>q l _ hl hk;rw[gF acc ha];exact hq h' tk k1 k2
end
theorem Si(z:kvs.length<=acV)(lo:(a == ad6)=false)(rel:KT H' kvs xs)(dd:h'.DictOfH (agI (cS P w)) a xs):bN P w H' h' a (.dT kvs):=by obtain⟨o,es,ep,h1,h2,h3,h4,_,h5⟩:=dd;exact⟨z,lo,xs,rel,o,es,ep,h1,h2,h3,h4,h5⟩
section
theorem Sj(e:H p=some (.dT kvs))(r:KT H tj xs):KT (upd H p ob) tj xs :=
 KT.keeps r λb ys z=>by rw[aD (λy=>by rw[y,e] at z;cases z)];exact z
theorem Sk(hu:A.units+1<agB)(I:Inv X pins σ H s)(e:H p=some (.dT kvs))(eb:H b=some (.tup (k.map kV)))(hm:more=[] ∨ ∃ x,more=[x])(h1:∀ v,da kvs k=some v->∀ w' s',Inv X pins σ (upd H p (.dT (iM kvs k))) s'->RelV v w'->Q w' s')(h0:da kvs k=none->∃ x,more=[x]/\∀ s',Inv X pins σ H s'->Q x s') :
 acQ (model X.prog X.w) A (call (.builtin "dict.pop") (.ref p :: .ref b::more)) Q E s:=by
 obtain⟨z,lo,xs,rel,dd⟩:=sX I.ay e;have hl:xs.length=kvs.length:=(Paired.length rel).symm;refine R7 (aeP hu) (sV I.ay eb) lo dd (by rw[hl];exact z) hm (λy hy h' tk oh hs=>?_) λhn=>?_
 .have rv:=rel.val k;rw[hy] at rv;cases hv:da kvs k with
  | none=>rw[hv] at rv;exact (show False from rv).elim
  | some v =>
   rw[hv] at rv;have he:∃ q,h'.get? p=some q:=let ⟨q,_,_,hq,_⟩:=oh;⟨q,hq⟩;exact h1 v hv _ _ (Ag (t':=tk) I (by rw[e];exact aeW) hs he (Si (acA (RT kvs k) z) lo (Sj e (KT.out rel k)) oh)) rv
 .have rv:=rel.val k;rw[hn] at rv;cases hv:da kvs k with
  | some v=>rw[hv] at rv;exact (show False from rv).elim
  | none =>
   obtain⟨x,ex,q⟩:=h0 hv;exact⟨x,ex,λtk=>q _ (I.tok tk)⟩
end
def IQ(td ty:TE):TE:=λσ H Q=>td σ H λx H1=>∃ a,x = .ref a/\Iu H1 a/\ty σ H1 λy H2=>∃ b kvs k v,y = .ref b/\H2 a=some (.dT kvs)/\H2 b=some (.tup (k.map kV))/\da kvs k=some v/\Q v (upd H2 a (.dT (iM kvs k)))
section
theorem IS(hu:X.A.units+1<agB)(ho:PE X o td)(he:PE X e ty)(m:M1 X o "pop" apos e dh):PE X (.Call (.Attribute o "pop" apos) [e] [] dh) (IQ td ty):=by
 intro pins s σ H Q I h;refine wpAny_Call_method m.base m.few m.line PySem.F.plainAttrs_dict aie PySem.F.type_dict_pop (aB (ho pins s σ H _ I h) λu s1 zq=>?_);obtain⟨x,H1,I1,rx,a,ex,d,q1⟩:=zq;subst ex;obtain rfl:u=ac3 a:=rx;obtain⟨t1,t2,_⟩:=R1 I1 d;refine⟨t1,t2,?_⟩;rw[m.trees];refine ahX rfl (agA (aem (aB (he pins s1 σ H1 _ I1 q1) λiv s2 ⟨y,H2,I2,ry,b,kvs,k,v,ey,ea,eb,l,q2⟩=>aex ?_)));subst ey;obtain rfl:iv=ac3 b:=ry;exact Sk hu I2 ea eb (.inl rfl) (λv' l' w' s3 I3 jq=>⟨v',_,I3,jq,by rw[l] at l';cases l';exact q2⟩) λl'=>by rw[l] at l';cases l'
theorem Ap:eR X (.builtin "len") (λxs H Q=>∃ p kvs,xs=[.ref p]/\H p=some (.dT kvs)/\Q (.int kvs.length) H):=by
 intro pins s σ H xs us Q I r h;obtain⟨p,kvs,rfl,e,q⟩:=h;obtain⟨u,rfl,rx⟩:=vals1 r;cases rx;obtain⟨z,lo,xs,rel,o,es,ep,ho,hc,hdt,he,his,hn⟩:=sX I.ay e;have hs:es.size=kvs.length:=(aeY he).trans (Paired.length rel).symm;have T:s.TypeIs (.ref p) "dict" := ⟨o,ho,hc.1⟩;have g:MeetsIn X.prog X.w (aeB.«dict.__len__» ⟨[.ref p],[]⟩) (λ_ R s=>s.heap.get? p=some o/\R (.ok (.ret (.int kvs.length s.toks))) { s with toks:=s.toks+1 }):=.of_wp λA R s ⟨ho,h⟩=>by show acQ _ _ (dictSize p >>= _) _ _ s;unfold dictSize;refine acq (acq (adR ho hdt (acw ?_)));show acQ _ _ (akp p >>= _) _ _ s;refine acq (wpAny_pendingCount_other lo (wpAny_ret_mkInt ?_));rw[Nat.add_zero,hs];exact h
 refine ahf kind_len plain_len entry_len (args_len1 _) ?_;unfold aeB.«len»;refine acq (m:=oneArg "len" _) (acw (acq (m:=callSpecial? (.ref p) (adS "__len__")) (ad1 (name:=adS "__len__") T aif (call_meetsIn aif T PySem.F.entry_dict_len (PySem.F.args_dict_len_1 _) g ⟨ho,?_⟩))));show acQ _ _ _ _ _ { s with toks:=s.toks+1 };refine acq (adY (acw (acq (afJ ?_))));show acQ _ _ (if ((kvs.length:Nat):Int)<0 then _ else _) _ _ _;rw[if_neg (by lia)];rw[afG] at z;show acQ _ _ (if ((kvs.length:Nat):Int) ≥ 2 ^ 63 then _ else _) _ _ _;rw[if_neg (by lia)];exact acq (wpAny_mkInt (acw ⟨_,rfl,.int kvs.length,H,I.tok _,⟨_,rfl⟩,q⟩))
end
section
variable{prog:adn}{w:ad2}{K:Type}[DecidableEq K]{knd:KeyKind prog w K}{A:aeb}{E:acB->acI->Prop}{s:acI}{o d:acF}{es:Array aeC}{ep:Nat}
def wW(h:aeV)(es:Array aeC):Prop:=∀ e∈es,(es.filter (·.hash == e.hash)).size<=1/\∃ a ob,e.key = .ref a/\h.get? a=some ob/\ob.cls = .type "tuple"
theorem Sl(x:el s.heap o es ep)(hk:wW s.heap es)(q:Q es s):acQ (model prog w) A (agD nm o) Q E s:=by
 obtain⟨ob,ho,_,hd⟩:=x;unfold agD;refine acq (adR ho hd ?_);refine acq ?_;rw[<- Array.forIn_toList];refine ahM _ (λrest _ s'=>s'=s/\∀ e∈rest,e∈es) _ ?_ ?_ _ _ ⟨rfl,λe he=>agz.mp he⟩
 .rintro e rest b s' ⟨rfl,bU⟩;obtain⟨h1,a,oa,ea,ha,hc⟩:=hk e (bU e (.head _));have T:s'.TypeIs e.key "tuple" := by rw[ea];exact⟨oa,ha,hc⟩
  have nx:¬ 1<(es.filter (·.hash == e.hash)).size:=by lia
  refine acq ?_;rw[ea] at T ⊢;unfold ak3;refine acq (afo (name:=adS "__eq__") T (show aiq (.type "tuple") (adS "__eq__")=pure (some (.builtin "tuple.__eq__")) from by rw[af0,aeQ];kernel_rfl) (acw ?_));have ne:(some (akK "tuple.__eq__") == some (akK "object.__eq__"))=false:=by decide +kernel
  rw[ne,if_pos (show (!false)=true from rfl),if_neg nx];exact acw ⟨rfl,λe he=>bU e (.tail _ he)⟩
 .rintro b s' ⟨rfl,_⟩;exact acw q
theorem Sm(lo:(o == ad6)=false)(x:el s.heap o es ep)(hk:wW s.heap es)(hz:es.size<=acV)(q:∀ h' kO,el h' s.heap.objs.size es kO->Heap.SameBut s.heap.objs.size (s.heap.push { cls:=.type "dict",data:=.dict #[] }) h'->Q (.ref s.heap.objs.size) { s with heap:=h' }):acQ (model prog w) A (call (.type "dict") [.ref o]) Q E s:=by
 have lt:=x.lt;refine callType_codes (Q₁:=λy s₁=>y = .ref s.heap.objs.size/\s₁ = { s with heap:=s.heap.push { cls:=.type "dict",data:=.dict #[] } }) PySem.F.kt_called_dict (PySem.F.kt_typeCall_dict_1 _) PySem.F.entry_dict_init (kt_code_dict_new _ ⟨rfl,rfl⟩) ?_;rintro y s₁ ⟨rfl,rfl⟩;have xn:el (s.heap.push { cls:=.type "dict",data:=.dict #[] }) s.heap.objs.size #[] 0:=⟨_,acG _ rfl,⟨rfl,rfl,rfl⟩,rfl⟩
 have xo:el (s.heap.push { cls:=.type "dict",data:=.dict #[] }) o es ep:=x.at λ_ e=>acx _ e;have gB:wW (s.heap.push { cls:=.type "dict",data:=.dict #[] }) es:=λe he=>by obtain⟨h1,a,oa,ea,ha,hc⟩:=hk e he;exact⟨h1,a,oa,ea,acx _ ha,hc⟩
 have Tn:Shared.TypeIs { s with heap:=s.heap.push { cls:=.type "dict",data:=.dict #[] } } (.ref s.heap.objs.size) "dict" := el.ty (s:={ s with heap:=s.heap.push { cls:=.type "dict",data:=.dict #[] } }) xn;have To:Shared.TypeIs { s with heap:=s.heap.push { cls:=.type "dict",data:=.dict #[] } } (.ref o) "dict" := el.ty (s:={ s with heap:=s.heap.push { cls:=.type "dict",data:=.dict #[] } }) xo;have Sn:¬ s.heap.objs.size=o:=by walk_at "o"
 refine⟨Tn,PySem.F.args_dict_init_2 _ _,?_⟩;unfold aeB.«dict.__init__»;refine acq ?_;unfold akC;refine acq (agq Tn ?_);refine acw (a:=(s.heap.objs.size,[ac3 o])) ?_;show acQ _ _ (ahG "dict.__init__" s.heap.objs.size (.ref o) [] .none) _ _ _;unfold ahG;refine acq (ajH To ?_);rw[if_neg (by decide)];refine acq ?_;unfold alc;refine acq ?_;unfold akq;refine acq (afa To isSubtype_dict_dict ?_);simp only[agE,ac2,if_false];refine acq (afo To PySem.F.slot_dict_iter.lookup (acw ?_));simp only[beq_self_eq_true,if_true];refine acq (acw ?_);obtain⟨on,hon,hcn,hdn⟩:=id xn;obtain⟨oo,hoo,hco,Aq⟩:=id xo;unfold akQ;rw[if_neg (by simpa using Sn)];unfold agr;rw[if_neg (by rw[lo];exact acP)];refine acq (acw (acq (adR hoo Aq ?_)));dsimp only;by_cases hemp:es.isEmpty=true
 .have e0:es = #[]:=Array.isEmpty_iff.mp hemp;subst e0;rw[if_neg (by simp)];refine acq (agT hoo Aq (acq (adR hoo Aq (acq ?_))));rw[Std.Legacy.Range.forIn_eq_forIn_range'];refine acw (acw ?_);exact acq (acw (acw ⟨rfl,q _ _ xn (Heap.SameBut.refl _ _)⟩))
 .have nf:(decide (es.size<=8) && es.all λe=>(keyPart e.key).isSome)=false:=by
   rw[aih];refine .inr (ajp.mpr λz=>?_);have hs:0<es.size:=by
    rcases ajb es.size with h|h
    .exact absurd (by simpa using h) hemp
    .exact h
   have z0:=(Array.all_eq_true.mp z) 0 hs;obtain⟨_,a,_,ea,_⟩:=hk es[0] (Array.getElem_mem hs);rw[ea] at z0;cases z0
  rw[nf,if_pos (show (!false)=true from rfl)];refine acq (adR hon hdn ?_);rw[if_pos (show (#[]:Array aeC).isEmpty=true from rfl)];refine acq (Sl xo gB ?_);rw[if_pos (by simpa using hemp)];refine acq (wpAny_updateDictKeysTo hon hdn (acw ?_) (ajw hz));exact acq (acw (acw ⟨rfl,q _ _ ⟨_,adh _ hon (aiQ (afy hdn _)),hcn.mapDictKeys _,afy hdn _⟩ (adG ..)⟩))
end
theorem IT{α:Type}{f:α->Int}:∀ {l:List α},(l.map f).Nodup->∀ c,(l.filter λx=>f x == c).length<=1
 | [],_,_=>by simp
 | x::l,h,c=>by
  rw[acN,adC] at h;have ih:=IT h.2 c;rw[adk];split
  .rename_i hx;have e:(l.filter λx=>f x == c)=[]:=by
    rw[List.filter_eq_nil_iff];intro y hy So;have e1:f x=c:=by simpa using hx
    have e2:f y=c:=by simpa using So
    exact h.1 (by rw[e1,<- e2];exact acE.mpr ⟨y,hy,rfl⟩)
   rw[e];exact acC _
  .exact ih
theorem Sq:eR X (.type "dict") (λxs H Q=>∃ p kvs,xs=[.ref p]/\H p=some (.dT kvs)/\(kvs.map λkv=>afp (cS X.prog X.w) kv.1).Nodup/\∀ l,H l=none->Q (.ref l) (upd H l (.dT kvs))):=by
 intro pins s σ H xs us Q I r h;obtain⟨p,kvs,rfl,e,hh,q⟩:=h;obtain⟨u,rfl,rx⟩:=vals1 r;cases rx;obtain⟨z,lo,xs,rel,o,es,ep,ho,hc,hdt,he,his,hn⟩:=sX I.ay e;have hl:xs.length=kvs.length:=(Paired.length rel).symm;have hs:es.size=xs.length:=aeY he;have ks:xs.map (·.1)=kvs.map (·.1):=KT.keys rel;have Sr:(es.toList.map (·.hash)).Nodup:=by
  have e1:es.toList.map (·.hash)=kvs.map λkv=>afp (cS X.prog X.w) kv.1:=by rw[he,ado,show (kvs.map λkv=>afp (cS X.prog X.w) kv.1)=(kvs.map (·.1)).map (afp (cS X.prog X.w)) by rw[ado];rfl,<- ks,ado];rfl
  rw[e1];exact hh
 have hk:wW s.heap es:=λen Ss=>by
  refine⟨?_,?_⟩
  .have:=IT (f:=λx:aeC=>x.hash) Sr en.hash
   rwa [<- Array.toList_filter,aez] at this
  .have:en∈xs.map (aim (agI (cS X.prog X.w))):=he ▸ agz.mpr Ss;obtain⟨x,hx,rfl⟩:=acE.mp this;obtain⟨ob,_,_,h1,h2,_⟩:=his x hx;exact⟨x.2.1,ob,rfl,h1,h2⟩
 refine Sm lo ⟨o,ho,hc,hdt⟩ hk (by rw[hs,hl];exact z) λh' kO ra sb=>?_;obtain⟨on,hon,hcn,hdn⟩:=ra;have keep:∀ b q,s.heap.get? b=some q->h'.get? b=some q:=λb q hq=>(sb.2 b (acO (acy hq))).trans (acx _ hq);have fr:=I.ay.fresh (acC s.heap.objs.size);refine⟨.ref s.heap.objs.size,_,I.laid (a:=s.heap.objs.size) (o:=.dT kvs) (t':=s.toks) keep (acC _) ⟨z,beq_eq_false_iff_ne.mpr (ady (acO I.big)),xs,KT.keeps rel λb ys y=>?_,on,es,kO,hon,hcn,hdn,he,hn⟩,rfl,q _ fr⟩;rw[aD (λz=>by rw[z,fr] at y;cases y)];exact y
section
end
theorem aV{c:Prop}[Decidable c]{a b:Prop}(h:c->a)(h':¬ c->b):if c then a else b:=by
 by_cases z:c
 .rw[if_pos z];exact h z
 .rw[if_neg z];exact h' z
theorem Ip(h:aeV)(hb:ad6<h.objs.size):bN P w H (h.push { cls:=.type "dict",data:=.dict #[] }) h.objs.size (.dK []) :=
 ⟨ac5 _,beq_eq_false_iff_ne.mpr (ady (acO hb)),[],.nil,Heap.DictOf.new h⟩
section
theorem Inv.Su(I:Inv X pins σ H s):ad6<s.heap.objs.size:=by have h:acU<s.heap.objs.size:=(I.mod.glob.keeps I.bk).lt;exact ajG (by decide) h
def IU:TE:=λ_ H Q=>∀ p,H p=none->Q (.ref p) (upd H p (.dT []))
theorem Ar:PE X (.Dict [] [] pos) IU:=λpins s σ H Q I h=>wpAny_Dict_empty
 ⟨.ref s.heap.objs.size,_,I.laid (a:=s.heap.objs.size) (o:=.dT []) (t':=s.toks) (λ_ _ z=>acx _ z) (acC _)
  ⟨ac5 _,beq_eq_false_iff_ne.mpr (ady (acO (Inv.Su I))),[],.nil,_,#[],0,acG _ rfl,⟨rfl,rfl,rfl⟩,rfl,rfl,agj⟩,rfl,h _ (I.ay.fresh (acC _))⟩
theorem As(h:∃ t,X.mg x=some (.int n t))(hg:Gl X x)(hd:(x == ("__debug__" : Str))=false:=by decide):PE X (.Name x pos) (tC (.int n)):=by obtain⟨t,ht⟩:=h;exact Ft (v:=.int n) hg ht ⟨t,rfl⟩ hd
end
section
theorem wX(ok:X.Ok)(I:Inv (Xh X A' (X.pn++pins)) [] σ H s):Inv X pins σ H s:=⟨ok,I.os,I.bare,I.base,I.loc,I.cell,I.free,I.f7,λp hp=>I.pin p (by simpa using hp),I.ay,I.len⟩
end
noncomputable def pP(ks:List P2)(r:Int)(i:Nat):Bool:=decide ((aF ks i).1<=r) && decide (r<=(aF ks (i+1)).1)
theorem Au(hu:A.units+1<agB)(ho:PE X o td)(hi:PE X i ty)(hs:Ah i)(eA:X.A=A:=by rfl):PE X (.Subscript o i pos) (Ai td ty):=by subst eA;exact qh hu ho hi hs
abbrev Tb:=List (P2 × S2)
noncomputable def spot(i j:Int):List Key:=[.inl i,.inl j]
theorem wY{a b:P2}(h:spot a.1 a.2=spot b.1 b.2):a=b:=by unfold spot at h;injection h with h1 h2;injection h2 with h2 _;exact Prod.ext (Sum.inl.inj h1) (Sum.inl.inj h2)
noncomputable def cP(tb:Tb)(s:P2):Option S2:=(tb.find? λr=>decide (r.1=s)).map (·.2)
noncomputable def eo(tb:Tb)(s:P2)(w:S2):Tb:=if (tb.any λr=>decide (r.1=s))=true then tb.map (λr=>if r.1=s then (r.1,w) else r) else tb++[(s,w)]
noncomputable def lj(tb:Tb)(s:P2):Tb:=tb.filter λr=>decide (r.1≠s)
def a7(H:Hp):List (List Key × V)->Tb->Prop
 | [],[]=>True
 | kv::kvs,r::tb=>(kv.1=spot r.1.1 r.1.2/\aM H kv.2 r.2.1 r.2.2)/\a7 H kvs tb
 | _,_=>False
section
theorem a7.len:∀ {kvs:List (List Key × V)} {tb:Tb},a7 H kvs tb->kvs.length=tb.length
 | [],[],_=>rfl
 | _::kvs,_::tb,h=>congrArg (· + 1) (a7.len (kvs:=kvs) (tb:=tb) h.2)
 | [],_::_,h=>h.elim
 | _::_,[],h=>h.elim
theorem a7.imp(f:∀ v a b,aM H v a b->aM H' v a b):∀ {kvs:List (List Key × V)} {tb:Tb},a7 H kvs tb->a7 H' kvs tb
 | [],[],_=>trivial
 | _::kvs,_::tb,h=>⟨⟨h.1.1,f _ _ _ h.1.2⟩,a7.imp f (kvs:=kvs) (tb:=tb) h.2⟩
 | [],_::_,h=>h.elim
 | _::_,[],h=>h.elim
theorem a7.app:∀ {kvs tj:List (List Key × V)} {tb bX:Tb},a7 H kvs tb->a7 H tj bX->a7 H (kvs++tj) (tb++bX)
 | [],_,[],_,_,h=>h
 | _::kvs,tj,_::tb,bX,h,h'=>⟨h.1,a7.app (kvs:=kvs) (tb:=tb) h.2 h'⟩
 | [],_,_::_,_,h,_=>h.elim
 | _::_,_,[],_,h,_=>h.elim
theorem a7.keys:∀ {kvs:List (List Key × V)} {tb:Tb},a7 H kvs tb->kvs.map (·.1)=tb.map λr=>spot r.1.1 r.1.2
 | [],[],_=>rfl
 | kv::kvs,r::tb,h=>by rw[acN,acN,h.1.1,a7.keys (kvs:=kvs) (tb:=tb) h.2]
 | [],_::_,h=>h.elim
 | _::_,[],h=>h.elim
theorem a7.any(s:P2):∀ {kvs:List (List Key × V)} {tb:Tb},a7 H kvs tb->(kvs.any λkv=>decide (kv.1=spot s.1 s.2))=tb.any λr=>decide (r.1=s)
 | [],[],_=>rfl
 | kv::kvs,r::tb,h=>by
  rw[ad0,ad0,a7.any s (kvs:=kvs) (tb:=tb) h.2,h.1.1]
  congr 1
  by_cases e:r.1=s
  .rw[e,decide_eq_true rfl,decide_eq_true rfl]
  .rw[decide_eq_false e,decide_eq_false λz=>e (wY z)]
 | [],_::_,h=>h.elim
 | _::_,[],h=>h.elim
theorem a7.val(s:P2):∀ {kvs:List (List Key × V)} {tb:Tb},a7 H kvs tb->(cP tb s=none->da kvs (spot s.1 s.2)=none)/\∀ w,cP tb s=some w->∃ v,da kvs (spot s.1 s.2)=some v/\aM H v w.1 w.2
 | [],[],_=>⟨λ_=>rfl,λw h=>by cases h⟩
 | kv::kvs,r::tb,h=>by
  have ih:=a7.val s (kvs:=kvs) (tb:=tb) h.2;by_cases e:r.1=s
  .have e1:cP (r::tb) s=some r.2:=by simp[cP,aed,e]
   rw[e1,wN (h.1.1.trans (by rw[e]))];exact⟨λz=>(by cases z),λw z=>(by cases z;exact⟨_,rfl,h.1.2⟩)⟩
  .have e1:cP (r::tb) s=cP tb s:=by simp[cP,aed,e]
   rw[e1,wO (λz=>e (wY (h.1.1.symm.trans z)))];exact ih
 | [],_::_,h=>h.elim
 | _::_,[],h=>h.elim
theorem a7.qg(hv:aM H v w.1 w.2):∀ {kvs:List (List Key × V)} {tb:Tb},a7 H kvs tb->a7 H (kvs.map λkv=>if kv.1=spot s.1 s.2 then (kv.1,v) else kv) (tb.map λr=>if r.1=s then (r.1,w) else r)
 | [],[],_=>trivial
 | kv::kvs,r::tb,h=>by
  rw[acN,acN];refine⟨?_,a7.qg hv (kvs:=kvs) (tb:=tb) h.2⟩;by_cases e:r.1=s
  .rw[if_pos e,if_pos (h.1.1.trans (by rw[e]))];exact⟨h.1.1,hv⟩
  .rw[if_neg e,if_neg (λz=>e (wY (h.1.1.symm.trans z)))];exact h.1
 | [],_::_,h=>h.elim
 | _::_,[],h=>h.elim
theorem a7.put(h:a7 H kvs tb)(hv:aM H v w.1 w.2):a7 H (putK kvs (spot s.1 s.2) v) (eo tb s w):=by
 unfold putK eo;rw[h.any s];split
 .exact h.qg hv
 .exact h.app ⟨⟨rfl,hv⟩,trivial⟩
theorem a7.drop:∀ {kvs:List (List Key × V)} {tb:Tb},a7 H kvs tb->a7 H (iM kvs (spot s.1 s.2)) (lj tb s)
 | [],[],_=>trivial
 | kv::kvs,r::tb,h=>by
  have ih:=a7.drop (s:=s) (kvs:=kvs) (tb:=tb) h.2;unfold iM lj at *;rw[adk,adk];by_cases e:r.1=s
  .have e2:kv.1=spot s.1 s.2:=h.1.1.trans (by rw[e]);rw[if_neg (by simp[e2]),if_neg (by simp[e])];exact ih
  .have e2:¬ kv.1=spot s.1 s.2:=λz=>e (wY (h.1.1.symm.trans z));rw[if_pos (by simp[e2]),if_pos (by simp[e])];exact⟨h.1,ih⟩
 | [],_::_,h=>h.elim
 | _::_,[],h=>h.elim
theorem a7.qk:∀ {ys:List V} {kvs:List (List Key × V)} {tb:Tb},a7 H kvs tb->iN H ys kvs->bR H ys (tb.map (·.1))
 | [],[],[],_,_=>trivial
 | y::ys,kv::kvs,r::tb,h,⟨⟨a,e,ha⟩,t⟩=>⟨⟨a,e,by rw[h.1.1] at ha;exact ha⟩,a7.qk (ys:=ys) (kvs:=kvs) (tb:=tb) h.2 t⟩
 | [],_::_,_,_,h=>h.elim
 | _::_,[],_,_,h=>h.elim
 | _,[],_::_,h,_=>h.elim
 | _,_::_,[],h,_=>h.elim
end
def TabAt(H:Hp)(p:acF)(tb:Tb):Prop:=∃ kvs,H p=some (.dT kvs)/\a7 H kvs tb
def Fr(H H':Hp):Prop:=∀ b o,(∀ kvs,o≠HO.dT kvs)->H b=some o->H' b=some o
def ql(ps:List acF)(H H':Hp):Prop:=∀ b o,b∉ps->H b=some o->H' b=some o
def IV(H:Hp)(ps:List acF):Prop:=∀ p∈ps,∃ kvs,H p=some (.dT kvs)
section
theorem Fr.trans(a:Fr H H')(b:Fr H' H2):Fr H H2:=λc o h e=>b c o h (a c o h e)
theorem _root_.L2.ah.fr(s:ah H H'):Fr H H':=λb o _ e=>s b o e
theorem SameBut.but(a:SameBut p H H')(h:p∈ps):ql ps H H':=λc o z e=>a c o (λy=>z (y ▸ h)) e
theorem ql.fr(a:ql ps H H')(d:IV H ps):Fr H H':=λb o ho e=>by
 by_cases hb:b∈ps
 .obtain⟨kvs,hk⟩:=d b hb;rw[hk] at e;exact absurd (Option.some.inj e).symm (ho kvs)
 .exact a b o hb e
theorem tm(h:H p=some (.dT kvs)):Fr H (upd H p o):=λb u hu e=>by rw[aD (λz=>by rw[z,h] at e;exact hu _ (Option.some.inj e).symm)];exact e
theorem Sv(h:H p=some (.dT kvs)):IV H [p]:=λb hb=>⟨kvs,(ac9.mp hb) ▸ h⟩
theorem SameBut.fr(a:SameBut p H H')(h:H p=some (.dT kvs)):Fr H H':=ql.fr (SameBut.but a (.head _)) (Sv h)
theorem aM.fr(h:aM H v a b)(f:Fr H H'):aM H' v a b:=let ⟨p,e,hp⟩:=h;⟨p,e,f _ _ (λ_ z=>nomatch z) hp⟩
theorem TabAt.fr(h:TabAt H p tb)(f:Fr H H')(e:∀ kvs,H p=some (.dT kvs)->H' p=some (.dT kvs)):TabAt H' p tb:=let ⟨kvs,a,b⟩:=h;⟨kvs,e _ a,b.imp λ_ _ _ z=>z.fr f⟩
theorem TabAt.same(h:TabAt H p tb)(s:ah H H'):TabAt H' p tb:=h.fr s.fr λ_ e=>s _ _ e
end
theorem iO(hn:(tb.map (·.1)).Nodup)(h:r∈tb):cP tb r.1=some r.2:=by
 induction tb with
 | nil=>cases h
 | cons x l ih =>
  rw[acN,adC] at hn;rcases acL.mp h with z|z
  .rw[<- z];simp[cP,aed]
  .have e:¬ x.1=r.1:=λy=>hn.1 (y ▸ acE.mpr ⟨r,z,rfl⟩);have:cP (x::l) r.1=cP l r.1:=by simp[cP,aed,e]
   rw[this,ih hn.2 z]
def kh(e t:Int)(s:P2):Prop:=(0<=s.1/\s.1<e)/\0<=s.2/\s.2<t
instance (e t:Int) (s:P2):Decidable (kh e t s):=by unfold kh;infer_instance
def bK(e t:Int)(tb:Tb):Prop:=(tb.map (·.1)).Nodup/\∀ r∈tb,kh e t r.1
theorem IW(tb:Tb)(s:P2)(w:S2):(eo tb s w).length<=tb.length+1:=by unfold eo;split<;>simp
theorem bK.put(h:bK e t tb)(hs:kh e t s):bK e t (eo tb s w):=by
 unfold eo;split
 .refine⟨?_,λr hr=>?_⟩
  .have:(tb.map λr=>if r.1=s then (r.1,w) else r).map (·.1)=tb.map (·.1):=by rw[ado];refine aeH λr _=>?_;show (if r.1=s then (r.1,w) else r).1=r.1;split<;>rfl
   rw[this];exact h.1
  .obtain⟨x,hx,rfl⟩:=acE.mp hr;have:=h.2 x hx;split<;>exact this
 .rename_i z;refine⟨?_,λr hr=>?_⟩
  .rw[aec];refine Iv h.1 λy=>z ?_;obtain⟨x,hx,e⟩:=acE.mp y;rw[adv];exact⟨x,hx,by simpa using e⟩
  .rcases ac4.mp hr with y|y
   .exact h.2 r y
   .rw[ac9.mp y];exact hs
theorem bK.drop(h:bK e t tb):bK e t (lj tb s) :=
 ⟨h.1.sublist ((agS).map _),λr hr=>h.2 r (acZ.mp hr).1⟩
theorem bK.nil:bK e t []:=⟨agj,λr h=>by cases h⟩
noncomputable def ki(tb:Tb):List (List Int):=tb.map λr=>[r.1.1,r.1.2]
noncomputable def kj(tb:Tb):Tb:=d8 (ki tb) ((0,0),(none,none)) tb
theorem qm(h:r∈kj tb):r∈tb:=qd.mem_iff.mp h
theorem lp:(kj tb).length=tb.length:=Ia
theorem ax.sort(h:ax R xs as):ax R (d8 kis .non xs) (d8 kis d as):=by
 have hl:=h.len;have hp:=(qb (n:=xs.length) (og kis)).1;unfold d8;rw[<- hl];have gen:∀ l:List Nat,(∀ i∈l,i<xs.length)->ax R (l.map λi=>xs.getD i .non) (l.map λi=>as.getD i d):=by
  intro l
  induction l with
  | nil=>intro _;exact trivial
  | cons i l ih =>
   intro q;have hi:=q i (.head _);obtain⟨s,es,hs⟩:=h.get (acv hi);refine⟨?_,ih λj hj=>q j (.tail _ hj)⟩;show R (xs.getD i .non) (as.getD i d);rw[acu,acu,es,acv hi];exact hs
 exact gen _ λi hi=>by simpa using hp.mem_iff.mp hi
theorem ax.bind:∀ {xs:List V} {bs:List β},ax R xs (bs.map f)->ax (λx b=>R x (f b)) xs bs
 | [],[],_=>trivial
 | _::_,_::_,h=>⟨h.1,ax.bind h.2⟩
 | [],_::_,h=>h.elim
 | _::_,[],h=>h.elim
theorem ax.IX:∀ {xs:List V} {bs:List β},ax (λx b=>R x (f b)) xs bs->ax R xs (bs.map f)
 | [],[],_=>trivial
 | _::_,_::_,h=>⟨h.1,ax.IX h.2⟩
 | [],_::_,h=>h.elim
 | _::_,[],h=>h.elim
theorem Sw(h:a7 H kvs tb):kvs.map (·.1)=(ki tb).map λk=>k.map agH:=by rw[h.keys];unfold ki;rw[ado];rfl
theorem Sx:∀ k∈ki tb,k≠[]:=λk hk=>by
 obtain⟨r,_,rfl⟩:=acE.mp hk;exact λz=>nomatch z
theorem Sy(h:a7 H kvs tb)(hk:iN H ys kvs):ax (λx (r:P2 × S2)=>cH H x r.1) (d8 (ki tb) .non ys) (kj tb):=ax.sort (ax.bind (h.qk hk))
def jA(H:Hp)(v:V)(r:P2 × S2):Prop:=∃ a w,v = .ref a/\H a=some (.tup [.int r.1.1,.int r.1.2,w])/\aM H w r.2.1 r.2.2
theorem jA.same(h:jA H v r)(s:ah H H'):jA H' v r:=let ⟨a,w,e,ha,hw⟩:=h;⟨a,w,e,s _ _ ha,hw.same s⟩
noncomputable def mn(i j:Int):Int:=reduceHash (Builtin.Tuple.tupleHashOf [ahy i,ahy j])
theorem Sz(P:adn)(w:ad2)(i j:Int):afp (cS P w) (spot i j)=mn i j:=by unfold afp mn spot;rw[acN,acN,ae3];rw[show (cS P w).hash (agH i)=ahy i from rfl,show (cS P w).hash (agH j)=ahy j from rfl]
theorem SA:((acD 84).all λa=>(acD 84).all λb=>!(mn ((a / 12:Nat):Int) ((a % 12:Nat):Int) == mn ((b / 12:Nat):Int) ((b % 12:Nat):Int)) || a == b)=true:=by decide +kernel
theorem SD(ha:kh 7 12 a)(hb:kh 7 12 b)(h:mn a.1 a.2=mn b.1 b.2):a=b:=by
 obtain⟨⟨a1,a2⟩,a3,a4⟩:=ha;obtain⟨⟨b1,b2⟩,b3,b4⟩:=hb;have h1:=adA.mp SA (a.1.toNat * 12+a.2.toNat) (acY.mpr (by lia));have h2:=adA.mp h1 (b.1.toNat * 12+b.2.toNat) (acY.mpr (by lia));have ea:(((a.1.toNat * 12+a.2.toNat) / 12:Nat):Int)=a.1:=by lia
 have SE:(((a.1.toNat * 12+a.2.toNat) % 12:Nat):Int)=a.2:=by lia
 have eb:(((b.1.toNat * 12+b.2.toNat) / 12:Nat):Int)=b.1:=by lia
 have SF:(((b.1.toNat * 12+b.2.toNat) % 12:Nat):Int)=b.2:=by lia
 rw[ea,SE,eb,SF,h] at h2;simp only[beq_self_eq_true,agE,ai8,beq_iff_eq] at h2;exact Prod.ext (by lia) (by lia)
theorem IY:∀ {kvs:List (List Key × V)} {tb:Tb},a7 H kvs tb->(kvs.map λkv=>afp (cS P w) kv.1)=tb.map λr=>mn r.1.1 r.1.2
 | [],[],_=>ae3.trans ae3.symm
 | kv::kvs,r::tb,h=>by have ih:=IY (P:=P) (w:=w) (kvs:=kvs) (tb:=tb) h.2;have h1:=Sz P w r.1.1 r.1.2;rw[<- h.1.1] at h1;rw[acN,acN,ih,h1]
 | [],_::_,h=>h.elim
 | _::_,[],h=>h.elim
theorem IZ(he:e<=7)(ht:t<=12):∀ {tb:Tb},bK e t tb->(tb.map λr=>mn r.1.1 r.1.2).Nodup
 | [],_=>by rw[ae3];exact agj
 | x::l,ok=>by
  have h7:∀ r∈x::l,kh 7 12 r.1:=λr hr=>by obtain⟨⟨a,b⟩,c,d⟩:=ok.2 r hr;exact⟨⟨a,by lia⟩,c,by lia⟩
  have nd:=ok.1;rw[acN,adC] at nd;rw[acN,adC];refine⟨λz=>?_,IZ he ht (tb:=l) ⟨nd.2,λr hr=>ok.2 r (.tail _ hr)⟩⟩;obtain⟨y,hy,ey⟩:=acE.mp z;have:=SD (h7 y (.tail _ hy)) (h7 x (.head _)) ey;exact nd.1 (acE.mpr ⟨y,hy,this⟩)
theorem SG(h:a7 H kvs tb)(ok:bK e t tb)(he:e<=7)(ht:t<=12):(kvs.map λkv=>afp (cS P w) kv.1).Nodup:=by rw[IY h];exact IZ he ht ok
theorem SH(h:aX a b=true):aX (dA a c) (ee b d)=true:=by rcases a with _|x<;>rcases b with _|y<;>rcases c with _|z<;>rcases d with _|w<;>simp[aX,dA,ee] at h ⊢<;>lia
noncomputable def bj(e:S2)(ss:List S2):S2:=ss.foldl (λe s=>(dA e.1 s.1,ee e.2 s.2)) e
theorem wZ(e s:S2)(ss:List S2):bj e (s::ss)=bj (dA e.1 s.1,ee e.2 s.2) ss:=rfl
theorem I0:∀ (ss:List S2) {e:S2},aX e.1 e.2=true->aX (bj e ss).1 (bj e ss).2=true
 | [],_,h=>h
 | s::ss,e,h=>by rw[wZ];exact I0 ss (SH h)
theorem SJ(h:aX (bj e (ss.take i)).1 (bj e (ss.take i)).2=true):aX (bj e ss).1 (bj e ss).2=true:=by
 have:bj e ss=bj (bj e (ss.take i)) (ss.drop i):=by unfold bj;rw[<- age,aeR]
 rw[this];exact I0 _ h
theorem SK{ss:List S2}{e s:S2}{i:Nat}(h:ss[i]?=some s):bj e (ss.take (i+1))=(dA (bj e (ss.take i)).1 s.1,ee (bj e (ss.take i)).2 s.2):=by unfold bj;rw[ads,h,age];rfl
noncomputable def fG(e:S2)(ss:List S2):W2:=if aX (bj e ss).1 (bj e ss).2=true then none else some (bj e ss)
theorem km:∀ {xs:List V} {ss:List S2},k7 H xs ss↔ax (λx s=>aM H x s.1 s.2) xs ss
 | [],[]=>Iff.rfl
 | _::_,_::_=>and_congr Iff.rfl km
 | [],_::_=>Iff.rfl
 | _::_,[]=>Iff.rfl
abbrev Pa:=Str × Int × S2
def iP(H:Hp)(v:V)(p:Pa):Prop:=∃ (t q:acF),v = .ref t/\H t=some (.tup [.str p.1,.int p.2.1,.ref q])/\H q=some (.tup [ev p.2.2.1,ev p.2.2.2])
theorem iP.same(h:iP H v p)(s:ah H H'):iP H' v p:=let ⟨t,q,e,a,b⟩:=h;⟨t,q,e,s _ _ a,s _ _ b⟩
abbrev dB(H:Hp):List V->List Pa->Prop:=ax (iP H)
theorem dB.same(h:dB H xs ps)(s:ah H H'):dB H' xs ps:=ax.imp (λ_ _ r=>r.same s) h
theorem iP.fr(h:iP H v p)(hr:H r=some (.lst ys)):iP (upd H r o) v p:=by
 obtain⟨t,q,e,a,b⟩:=h;have h1:t≠r:=λz=>by rw[z,hr] at a;cases a
 have h2:q≠r:=λz=>by rw[z,hr] at b;cases b
 exact⟨t,q,e,by rw[aD h1];exact a,by rw[aD h2];exact b⟩
theorem dB.put(h:dB H xs ps)(hr:H r=some (.lst ys)):dB (upd H r o) xs ps:=ax.imp (λ_ _ x=>x.fr hr) h
noncomputable def ko(k:Str)(t:Int)(p:Pa):Bool:=decide (p.1=k) && decide (p.2.1=t)
noncomputable def sel(ps:List Pa)(k:Str)(t:Int):List S2:=(ps.filter (ko k t)).map (·.2.2)
noncomputable def hasB(n:Int)(k:Str)(t:Int):Bool:=if k = "step" then decide (0<=t/\t<n) && decide (0<=t+1/\t+1<n) else decide (k = "at") && decide (0<=t/\t<n)
def dn(n:Int)(ps:List Pa):Prop:=∀ p∈ps,hasB n p.1 p.2.1=true
theorem SM:hasB n "step" t=true↔0<=t/\t+1<n:=by unfold hasB;rw[if_pos rfl];simp only[adz,decide_eq_true_eq];lia
theorem Ja{n t:Int}{k:Str}(h:k ≠ "step"):hasB n k t=true↔k = "at" /\ 0<=t/\t<n:=by unfold hasB;rw[if_neg h];simp only[adz,decide_eq_true_eq]
noncomputable def mq(cs:List Int)(k:Str)(t:Int):Int:=if k = "step" then cs.getD (t+1).toNat 0-cs.getD t.toNat 0 else cs.getD t.toNat 0
noncomputable def bc(cs:List Int)(ps:List Pa):Bool:=ps.all λp=>hold p.2.2.1 p.2.2.2 (mq cs p.1 p.2.1)
theorem int_at{cs:List Int}{t:Int}(h0:0<=t)(h1:t<(cs.length:Int)):c8 (cs.map V.int) t=some (.int (cs.getD t.toNat 0)):=by
 have e:t=((t.toNat:Nat):Int):=by lia
 refine (congrArg (c8 _) e).trans (dH ?_);rw[acJ,acu,acv (by lia)];rfl
structure Gd(n:Nat)(d:ag4):Prop where
 eqv:afd d d=true
 lay:d.canLay0=true
 dep:d.depth<=n
theorem Gd.of(h:iK n d=true):Gd n d:=let ⟨a,b,c⟩:=HJ d h;⟨a,b,c⟩
theorem Gd.all:∀ {ds:List ag4} {n:Nat},(∀ d∈ds,Gd n d)->agC ds ds=true/\agd ds=true/\afn ds<=n
 | [],n,_=>⟨rfl,rfl,ac5 _⟩
 | d::ds,n,h=>by obtain⟨a,b,c⟩:=h d (.head _);obtain⟨a',b',c'⟩:=Gd.all (ds:=ds) λx hx=>h x (.tail _ hx);exact⟨by simp only[agC,a,a',ahD],by simp only[agd,b,b',ahD],by simp only[afn];lia⟩
theorem Gd.lst(h:∀ d∈ds,Gd n d):Gd (n+1) (.list ds):=by obtain⟨a,b,c⟩:=Gd.all h;exact⟨by simpa only [afd] using a,by simpa only [aiC] using b,by simp only[PyData.depth];lia⟩
theorem SN{K:acr}{H:Hp}{x y:V}{d:ag4}{n:Nat}{neg:Bool}{Q:VK}(hx:Dat K H x d)(hy:Dat K H y d)(g:Gd n d)(hn:n<=60)(q:Q (.bl (!neg)) H):wF K neg x y H Q:=by refine⟨d,d,hx,hy,g.lay,g.lay,acA g.dep hn,?_⟩;rw[g.eqv];cases neg<;>exact q
theorem kZ.Jb{α:Type}{K:acr}{H:Hp}{R:V->α->Prop}{f:α->ag4}(h:∀ v a,R v a->Dat K H v (f a)):∀ {xs:List V} {as:List α},ax R xs as->kZ K H xs (as.map f)
 | [],[],_=>.nil
 | _::_,_::_,r=>.cons (h _ _ r.1) (kZ.Jb h r.2)
 | [],_::_,r=>r.elim
 | _::_,[],r=>r.elim
theorem qq(cv:Ok H):∀ {xs:List V} {as:List α} {ys:List V},ax R xs as ->
 (∀ x a,R x a->∀ Q,Q (p a) H->tt (some x::ρ) H Q)->(∀ x a,p a=true->R x a->∀ Q:VK,(∀ y,R' y (f a)->Q y H)->te (some x::ρ) H Q)->(∀ zs,ax R' zs ((as.filter p).map f)->Q' (ys++zs) H)->eT Ok ρ tt te xs ys H Q'
 | [],[],ys,_,_,_,q=>⟨cv,by simpa using q [] trivial⟩
 | x::xs,a::as,ys,h,ht,he,q=>by
  refine⟨cv,ht x a h.1 _ ?_⟩;by_cases hb:p a=true
  .rw[if_pos hb];refine he x a hb h.1 _ λy ry=>qq cv h.2 ht he λzs hz=>?_;have:=q (y::zs) (by rw[adk,if_pos hb];exact⟨ry,hz⟩);simpa using this
  .rw[if_neg hb];refine qq cv h.2 ht he λzs hz=>q zs ?_;rw[adk,if_neg hb];exact hz
 | [],_::_,_,h,_,_,_=>h.elim
 | _::_,[],_,h,_,_,_=>h.elim
theorem SO{K:acr}{i j k:Nat}{p:acF}{x y z:V}{σ:L2.St}{H:Hp}{Q:L2.St->Hp->Prop}(h:ak K H p [x,y,z])(q:Q (((σ.set i (some x)).set j (some y)).set k (some z)) H):jk K 3 (cL (b5 i) (cL (b5 j) (cL (b5 k) ix))) (.ref p) σ H Q :=
 ⟨p,_,rfl,h,rfl,_,_,rfl,_,_,rfl,_,_,rfl,rfl,q⟩
theorem w5(hx:H x=none)(hd:H dx=none)(hn:dx≠x):ah H (upd (upd H dx (.own x)) x (.ins C dx fs)) :=
 (aj hd).trans (aj (by rw[aD (ady hn)];exact hx))
end Gz
namespace Gz
open PySem L2
def bS(s:S2)(x:Int):Prop:=(∀ a,s.1=some a->a<=x)/\∀ b,s.2=some b->x<=b
def dJ(w:W2)(x:Int):Prop:=∃ s,w=some s/\bS s x
theorem Av:bS s x↔hold s.1 s.2 x=true:=gC.symm
theorem Aw:bS (dA a.1 b.1,ee a.2 b.2) x↔bS a x/\bS b x:=by obtain⟨a1,a2⟩:=a;obtain⟨b1,b2⟩:=b;unfold bS;rcases a1 with _|p<;>rcases a2 with _|q<;>rcases b1 with _|r<;>rcases b2 with _|s<;>simp[dA,ee]<;>(try split)<;>(try split)<;>lia
theorem Jc:∀ {e:S2},bS (bj e ss) x↔bS e x/\∀ s∈ss,bS s x:=by
 induction ss with
 | nil=>intro e;exact⟨λh=>⟨h,λ_ z=>nomatch z⟩,λh=>h.1⟩
 | cons s ss ih =>
  intro e;rw[wZ,ih,Aw];simp only[acL,forall_eq_or_imp,and_assoc]
theorem SQ(h:aX s.1 s.2=false):∃ x,bS s x:=by
 obtain⟨a,b⟩:=s;rcases a with _|a<;>rcases b with _|b
 .exact⟨0,λ_ z=>(nomatch z),λ_ z=>(nomatch z)⟩
 .exact⟨b,λ_ z=>(nomatch z),λ_ z=>by cases z;exact adW _⟩
 .exact⟨a,λ_ z=>by cases z;exact adW _,λ_ z=>(nomatch z)⟩
 .refine⟨a,λ_ z=>by cases z;exact adW _,λ_ z=>?_⟩;cases z;simp[aX] at h;exact h
theorem Jd(h:bS s x):aX s.1 s.2=false:=by
 obtain⟨a,b⟩:=s;rcases a with _|a<;>rcases b with _|b
 .rfl
 .rfl
 .rfl
 .have h1:=h.1 a rfl;have h2:=h.2 b rfl;simp[aX];lia
noncomputable def iQ(a b:S2):W2:=if aX (dA a.1 b.1) (ee a.2 b.2)=true then none else some (dA a.1 b.1,ee a.2 b.2)
theorem qr:dJ (iQ a b) x↔bS a x/\bS b x:=by
 unfold iQ;constructor
 .rintro ⟨s,e,h⟩;split at e
  .cases e
  .cases e;exact Aw.mp h
 .intro h;have h:=Aw.mpr h;rw[if_neg (by rw[Jd h];simp)];exact⟨_,rfl,h⟩
theorem Je(h:iQ a b=some s):aX s.1 s.2=false:=by
 unfold iQ at h;split at h
 .cases h
 .rename_i hc;cases h;simpa using hc
theorem w6:dJ (fG (none,none) ss) x ↔ ∀ s∈ss,bS s x:=by
 have e0:bS (none,none) x:=⟨λ_ z=>(nomatch z),λ_ z=>(nomatch z)⟩
 unfold fG;constructor
 .rintro ⟨s,e,h⟩;split at e
  .cases e
  .cases e;exact (Jc.mp h).2
 .intro h;have h:=Jc.mpr ⟨e0,h⟩;rw[if_neg (by rw[Jd h];simp)];exact⟨_,rfl,h⟩
noncomputable def fH(s:S2)(p:P2):S2:=(s.1.map (· + p.1),s.2.map (· + p.2))
theorem Ax(h:bS s x)(h1:p.1<=y-x)(h2:y-x<=p.2):bS (fH s p) y:=by
 obtain⟨a,b⟩:=s;refine⟨λz e=>?_,λz e=>?_⟩
 .obtain⟨a,ea,rfl⟩:=adf.mp (show a.map (· + p.1)=some z from e);have:=h.1 a ea;lia
 .obtain⟨b,eb,rfl⟩:=adf.mp (show b.map (· + p.2)=some z from e);have:=h.2 b eb;lia
theorem SR(hs:aX s.1 s.2=false)(hp:p.1<=p.2)(h:bS (fH s p) y):∃ x,bS s x/\p.1<=y-x/\y-x<=p.2:=by
 obtain⟨a,b⟩:=s;rcases a with _|a<;>rcases b with _|b
 .exact⟨y-p.1,⟨λ_ z=>(nomatch z),λ_ z=>(nomatch z)⟩,by lia,by lia⟩
 .have h2:=h.2 (b+p.2) rfl;exact⟨y-p.2,⟨λ_ z=>(nomatch z),λ_ z=>by cases z;lia⟩,by lia,by lia⟩
 .have h1:=h.1 (a+p.1) rfl;exact⟨y-p.1,⟨λ_ z=>by cases z;lia,λ_ z=>(nomatch z)⟩,by lia,by lia⟩
 .have h1:=h.1 (a+p.1) rfl;have h2:=h.2 (b+p.2) rfl;simp[aX] at hs;by_cases hc:a<=y-p.2
  .exact⟨y-p.2,⟨λ_ z=>by cases z;lia,λ_ z=>by cases z;lia⟩,by lia,by lia⟩
  .exact⟨a,⟨λ_ z=>by cases z;lia,λ_ z=>by cases z;lia⟩,by lia,by lia⟩
noncomputable def br(bx:Nat->W2)(st:Nat->P2):Nat->W2
 | 0=>bx 0
 | t+1=>match bx (t+1),br bx st t with
  | some b,some k=>iQ b (fH k (st t))
  | _,_=>none
def tq(w:W2):Prop:=∀ s,w=some s->aX s.1 s.2=false
theorem xa(h0:tq (bx 0)):∀ t,tq (br bx st t)
 | 0=>h0
 | t+1=>λs e=>by
  unfold br at e;split at e
  .exact Je e
  .cases e
theorem Jf(h:br bx st (t+1)=some s):∃ b k,bx (t+1)=some b/\br bx st t=some k/\iQ b (fH k (st t))=some s:=by
 unfold br at h;split at h
 .rename_i b k e1 e2;exact⟨b,k,e1,e2,h⟩
 .cases h
theorem Jg{bx:Nat->W2}{st:Nat->P2}{c:Nat->Int}{n:Nat}(hb:∀ t,t<=n->dJ (bx t) (c t))(hs:∀ t,t<n->(st t).1<=c (t+1)-c t/\c (t+1)-c t<=(st t).2):∀ t,t<=n->dJ (br bx st t) (c t)
 | 0,h=>hb 0 h
 | t+1,h=>by obtain⟨k,ek,hk⟩:=Jg hb hs t (by lia);obtain⟨b,eb,Ay⟩:=hb (t+1) h;obtain⟨h1,h2⟩:=hs t (by lia);unfold br;rw[eb,ek];exact qr.mpr ⟨Ay,Ax hk h1 h2⟩
theorem Az:∀ {t:Nat},dJ (br bx st t) x->dJ (bx t) x
 | 0,h=>h
 | t+1,⟨s,e,h⟩=>by obtain⟨b,k,e1,_,e3⟩:=Jf e;exact⟨b,e1,(qr.mp ⟨s,e3,h⟩).1⟩
theorem Jh(h0:tq (bx 0))(hp:(st t).1<=(st t).2)(h:dJ (br bx st (t+1)) y):∃ x,dJ (br bx st t) x/\(st t).1<=y-x/\y-x<=(st t).2:=by obtain⟨s,e,h⟩:=h;obtain⟨b,k,_,e2,e3⟩:=Jf e;obtain⟨x,hx,h1,h2⟩:=SR (xa h0 t k e2) hp (qr.mp ⟨s,e3,h⟩).2;exact⟨x,⟨k,e2,hx⟩,h1,h2⟩
noncomputable def iR(n:Nat)(st:Nat->P2)(t:Nat):P2:=(-(st (n-1-t)).2,-(st (n-1-t)).1)
noncomputable def gG(n:Nat)(bx:Nat->W2)(st:Nat->P2)(t:Nat):W2:=br (λk=>br bx st (n-k)) (iR n st) (n-t)
structure xb(n:Nat)(bx:Nat->W2)(st:Nat->P2):Prop where
 ok:∀ t,t<=n->∃ s,gG n bx st t=some s/\aX s.1 s.2=false
 sub:∀ t x,t<=n->dJ (gG n bx st t) x->dJ (bx t) x
 next:∀ t x,t<n->dJ (gG n bx st t) x->∃ y,dJ (gG n bx st (t+1)) y/\(st t).1<=y-x/\y-x<=(st t).2
theorem SS(h0:tq (bx 0))(hp:∀ t,t<n->(st t).1<=(st t).2)(hf:∀ t,t<=n->br bx st t≠none):xb n bx st:=by
 have AA:=xa (st:=st) h0;have SU:∀ k,k<=n->∃ s,br (λk=>br bx st (n-k)) (iR n st) k=some s:=by
  intro k
  induction k with
  | zero =>
   intro _;obtain⟨s,e⟩:=afx.mp (hf n (acC _));exact⟨s,e⟩
  | succ k ih =>
   intro hk;obtain⟨s,e⟩:=ih (by lia);obtain⟨y,hy⟩:=SQ (xa (bx:=λk=>br bx st (n-k)) (AA n) k s e);have tu:dJ (br bx st (n-k)) y:=Az (bx:=λk=>br bx st (n-k)) ⟨s,e,hy⟩;rw[show n-k=n-(k+1)+1 by lia] at tu;obtain⟨x,⟨f,ef,hx⟩,h1,h2⟩:=Jh h0 (hp _ (by lia)) tu;have em:n-1-k=n-(k+1):=by lia
   have hm:bS (fH s (iR n st k)) x:=Ax hy (by unfold iR;rw[em];dsimp only;lia) (by unfold iR;rw[em];dsimp only;lia);obtain⟨z,ez,_⟩:=qr.mpr ⟨hx,hm⟩;refine⟨z,?_⟩;unfold br;rw[e];show (match br bx st (n-(k+1)),some s with
    | some b,some SV=>iQ b (fH SV (iR n st k))
    | _,_=>none)=some z
   rw[ef];exact ez
 refine⟨λt ht=>?_,λt x ht h=>?_,λt x ht h=>?_⟩
 .obtain⟨s,e⟩:=SU (n-t) (by lia);exact⟨s,e,xa (bx:=λk=>br bx st (n-k)) (AA n) _ s e⟩
 .have:=Az (bx:=λk=>br bx st (n-k)) h;rw[show n-(n-t)=t by lia] at this;exact Az this
 .unfold gG at h;rw[show n-t=n-(t+1)+1 by lia] at h;have hb:(iR n st (n-(t+1))).1<=(iR n st (n-(t+1))).2:=by unfold iR;have:=hp (n-1-(n-(t+1))) (by lia);dsimp only;lia
  obtain⟨y,hy,h1,h2⟩:=Jh (bx:=λk=>br bx st (n-k)) (AA n) hb h;have em:n-1-(n-(t+1))=t:=by lia
  unfold iR at h1 h2;rw[em] at h1 h2;dsimp only at h1 h2;exact⟨y,hy,by lia,by lia⟩
def iS(ps:List P2)(c:Nat->Int):Prop:=∀ k,k<ps.length->(aF ps k).1<=c (k+1)-c k/\c (k+1)-c k<=(aF ps k).2
theorem AB(h:iS ps c):∀ n,i+n<=ps.length->pre (·.1) ps (i+n)-pre (·.1) ps i<=c (i+n)-c i/\c (i+n)-c i<=pre (·.2) ps (i+n)-pre (·.2) ps i
 | 0,_=>by simp
 | n+1,hn=>by have ih:=AB h (i:=i) n (by lia);have hk:=h (i+n) (by lia);rw[show i+(n+1)=(i+n)+1 by lia,gE _ ps (by lia),gE _ ps (by lia)];lia
theorem SW(h:iS ps c)(hi:i<=ps.length)(hj:j<=ps.length):c j-c i<=bJ ps i j:=by
 unfold bJ;split
 .have:=(AB h (i:=i) (j-i) (by lia)).2
  rwa [show i+(j-i)=j by lia] at this
 .have:=(AB h (i:=j) (i-j) (by lia)).1;rw[show j+(i-j)=i by lia] at this;lia
abbrev Mk:=Nat × S2
def meets(ms:List Mk)(c:Nat->Int):Prop:=∀ m∈ms,bS m.2 (c m.1)
structure lq(ps:List P2)(ms:List Mk)(tp:Nat->Option P2):Prop where
 val:∀ t v k,t<=ps.length->tp t=some (v,k)->∃ (i:Nat) (m:Mk) (h:Int),k=(i:Int)/\ms[i]?=some m/\m.2.2=some h/\h+bJ ps m.1 t<=v
 top:∀ m∈ms,∀ h,m.2.2=some h->∃ v k,tp m.1=some (v,k)/\v<=h
 fwd:∀ t v k,t<ps.length->tp t=some (v,k)->∃ v' k',tp (t+1)=some (v',k')/\v'<=v+(aF ps t).2
 bwd:∀ t v k,t<ps.length->tp (t+1)=some (v,k)->∃ v' k',tp t=some (v',k')/\v'<=v-(aF ps t).1
def tx(ms:List Mk)(tp:Nat->Option P2):Prop:=∀ m∈ms,∀ l v k,m.2.1=some l->tp m.1=some (v,k)->l<=v
theorem SX(hp:fb ps)(hm:∀ m∈ms,m.1<=ps.length)(T:lq ps ms tp)(hn:tx ms tp):∃ c,iS ps c/\meets ms c:=by
 by_cases h0:tp 0=none
 .have SY:∀ t,t<=ps.length->tp t=none:=by
   intro t
   induction t with
   | zero=>intro _;exact h0
   | succ t ih =>
    intro ht;cases e:tp (t+1) with
    | none=>rfl
    | some q =>
     obtain⟨v,k⟩:=q;obtain⟨v',k',e',_⟩:=T.bwd t v k (by lia) e;rw[ih (by lia)] at e';cases e'
  have S0:∀ m∈ms,m.2.2=none:=λm dq=>by
   cases e:m.2.2 with
   | none=>rfl
   | some h =>
    obtain⟨v,k,e',_⟩:=T.top m dq h e;rw[SY m.1 (hm m dq)] at e';cases e'
  have big:∀ (l:List Mk),∃ M:Int,∀ m∈l,∀ a,m.2.1=some a->a<=M+pre (·.1) ps m.1:=by
   intro l
   induction l with
   | nil=>exact⟨0,λ_ z=>nomatch z⟩
   | cons m l ih =>
    obtain⟨M,hM⟩:=ih;cases e:m.2.1 with
    | none =>
     refine⟨M,λq hq a ha=>?_⟩;rcases acL.mp hq with rfl|hq
     .rw[e] at ha;cases ha
     .exact hM q hq a ha
    | some b =>
     refine⟨if M<=b-pre (·.1) ps m.1 then b-pre (·.1) ps m.1 else M,λq hq a ha=>?_⟩;rcases acL.mp hq with rfl|hq
     .rw[e] at ha;cases ha;split<;>lia
     .have:=hM q hq a ha;split<;>lia
  obtain⟨M,hM⟩:=big ms;refine⟨λt=>M+pre (·.1) ps t,λk hk=>?_,λm dq=>⟨λa ha=>hM m dq a ha,λb hb=>?_⟩⟩
  .have:=hp _ (pY hk);dsimp only;rw[gE _ ps hk];lia
  .rw[S0 m dq] at hb;cases hb
 .have Ji:∀ t,t<=ps.length->∃ v k,tp t=some (v,k):=by
   intro t
   induction t with
   | zero =>
    intro _;obtain⟨⟨v,k⟩,e⟩:=afx.mp h0;exact⟨v,k,e⟩
   | succ t ih =>
    intro ht;obtain⟨v,k,e⟩:=ih (by lia);obtain⟨v',k',e',_⟩:=T.fwd t v k (by lia) e;exact⟨v',k',e'⟩
  refine⟨λt=>((tp t).map (·.1)).getD 0,λk hk=>?_,λm dq=>⟨λa ha=>?_,λb hb=>?_⟩⟩
  .obtain⟨v,q,e⟩:=Ji k (by lia);obtain⟨v',q',e',h1⟩:=T.fwd k v q hk e;obtain⟨v2,q2,e2,h2⟩:=T.bwd k v' q' hk e';rw[e] at e2;cases e2;dsimp only;rw[e,e'];simp only[Option.map_some,agx];lia
  .obtain⟨v,q,e⟩:=Ji m.1 (hm m dq);have:=hn m dq a v q ha e;dsimp only;rw[e];exact this
  .obtain⟨v,q,e,h1⟩:=T.top m dq b hb;dsimp only;rw[e];exact h1
def clash(ps:List P2)(a b:Mk):Prop:=∃ h l,a.2.2=some h/\b.2.1=some l/\h+bJ ps a.1 b.1<l
theorem Tc(hc:iS ps c)(hm:meets ms c)(ht:∀ m∈ms,m.1<=ps.length)(ha:a∈ms)(hb:b∈ms):¬ clash ps a b:=by rintro ⟨h,l,e1,e2,bb⟩;have h1:=(hm a ha).2 h e1;have h2:=(hm b hb).1 l e2;have h3:=SW hc (ht a ha) (ht b hb);lia
noncomputable def fQ(a b:P2):Bool:=decide (a.1<b.1) || (decide (a.1=b.1) && decide (a.2<b.2))
noncomputable def fR(a b:P2):P2:=if fQ b a=true then b else a
noncomputable def kr:Option P2->Option P2->Option P2
 | none,b=>b
 | some a,none=>some a
 | some a,some b=>some (fR a b)
theorem AD(a b:P2):(fR a b=a∨fR a b=b)/\(fR a b).1<=a.1/\(fR a b).1<=b.1:=by
 unfold fR fQ;split
 .rename_i h;simp only[agQ,adz,decide_eq_true_eq] at h;exact⟨.inr rfl,by lia,by lia⟩
 .rename_i h;simp only[agQ,adz,decide_eq_true_eq,not_or,not_and] at h;exact⟨.inl rfl,by lia,by lia⟩
theorem Jj(a b:Option P2):kr a b=a∨kr a b=b:=by
 rcases a with _|a<;>rcases b with _|b
 .exact .inl rfl
 .exact .inr rfl
 .exact .inl rfl
 .show some (fR a b)=some a∨some (fR a b)=some b;rcases (AD a b).1 with h|h<;>rw[h]
  .exact .inl rfl
  .exact .inr rfl
def fI(a:Option P2)(v:Int):Prop:=∃ w k,a=some (w,k)/\w<=v
theorem Td(h:fI a v):fI (kr a b) v:=by
 obtain⟨w,k,rfl,hw⟩:=h;rcases b with _|b
 .exact⟨w,k,rfl,hw⟩
 .have:=(AD (w,k) b).2.1;exact⟨(fR (w,k) b).1,(fR (w,k) b).2,rfl,by dsimp only at this;lia⟩
theorem AE(h:fI b v):fI (kr a b) v:=by
 obtain⟨w,k,rfl,hw⟩:=h;rcases a with _|a
 .exact⟨w,k,rfl,hw⟩
 .have:=(AD a (w,k)).2.2;exact⟨(fR a (w,k)).1,(fR a (w,k)).2,rfl,by dsimp only at this;lia⟩
noncomputable def qt(a:Option P2)(Te:Int):Option P2:=a.map λq=>(q.1+Te,q.2)
theorem Jk(h:fI a v):fI (qt a b) (v+b):=by obtain⟨w,k,rfl,hw⟩:=h;exact⟨w+b,k,rfl,by lia⟩
def gH(ps:List P2)(ms:List Mk)(t:Nat)(a:Option P2):Prop:=∀ v k,a=some (v,k)->∃ (i:Nat) (m:Mk) (h:Int),k=(i:Int)/\ms[i]?=some m/\m.2.2=some h/\h+bJ ps m.1 t<=v
theorem gH.AF(ha:gH ps ms t a)(hb:gH ps ms t b):gH ps ms t (kr a b):=by
 rcases Jj a b with h|h<;>rw[h]
 .exact ha
 .exact hb
theorem Tf(ps:List P2)(t:Nat):bJ ps t t=0:=by unfold bJ;rw[if_pos (acC _)];lia
theorem Tg(h:t<ps.length):bJ ps t (t+1)=(aF ps t).2:=by unfold bJ;rw[if_pos (agL _),gE _ ps h];lia
theorem Th(h:t<ps.length):bJ ps (t+1) t = -(aF ps t).1:=by unfold bJ;rw[if_neg (by lia),gE _ ps h];lia
theorem gH.lift(hp:fb ps)(hm:∀ m∈ms,m.1<=ps.length)(ht:t<=ps.length)(hu:u<=ps.length)(hb:bJ ps t u=b)(h:gH ps ms t a):gH ps ms u (qt a b):=by intro v k e;obtain⟨⟨w,q⟩,ea,e⟩:=adf.mp e;cases e;obtain⟨i,m,x,e1,e2,e3,hx⟩:=h w q ea;refine⟨i,m,x,e1,e2,e3,?_⟩;have:=RS hp (hm m (acM e2)) hu ht;dsimp only;lia
noncomputable def ku(tp:Nat->Option P2)(i:Nat)(x:Option P2):Nat->Option P2:=λt=>if t=i then x else tp t
theorem oj:ku tp i x i=x:=if_pos rfl
theorem lr(h:t≠i):ku tp i x t=tp t:=if_neg h
theorem Jl(h:∀ t,t<=ps.length->gH ps ms t (tp t))(hx:gH ps ms i x):∀ t,t<=ps.length->gH ps ms t (ku tp i x t):=λt ht=>by
 by_cases e:t=i
 .subst e;rw[oj];exact hx
 .rw[lr e];exact h t ht
theorem xf(h:fI (tp t) v):fI (ku tp i (kr (tp i) b) t) v:=by
 by_cases e:t=i
 .subst e;rw[oj];exact Td h
 .rw[lr e];exact h
structure T1(ps:List P2)(ms:List Mk)(j:Nat)(tp:Nat->Option P2):Prop where
 val:∀ t,t<=ps.length->gH ps ms t (tp t)
 top:∀ m∈ms.take j,∀ h,m.2.2=some h->fI (tp m.1) h
theorem T1.nil:T1 ps ms 0 λ_=>none:=⟨λ_ _ _ _ e=>(nomatch e),λ_ h=>by simp at h⟩
theorem T1.skip(T:T1 ps ms j tp)(hm:ms[j]?=some m)(hn:m.2.2=none):T1 ps ms (j+1) tp:=⟨T.val,λq hq h e=>by
 rw[ads,hm] at hq;rcases ac4.mp hq with z|z
 .exact T.top q z h e
 .obtain rfl:q=m:=by simpa using z
  rw[hn] at e;cases e⟩
theorem T1.put(T:T1 ps ms j tp)(hm:ms[j]?=some m)(hh:m.2.2=some h):T1 ps ms (j+1) (ku tp m.1 (kr (tp m.1) (some (h,(j:Int))))):=by
 have hv:gH ps ms m.1 (some (h,(j:Int))):=λv k e=>by cases e;exact⟨j,m,h,rfl,hm,hh,by rw[Tf];lia⟩
 refine⟨λt ht=>?_,λq hq x e=>?_⟩
 .by_cases e:t=m.1
  .subst e;rw[oj];exact (T.val _ ht).AF hv
  .rw[lr e];exact T.val t ht
 .rw[ads,hm] at hq;rcases ac4.mp hq with z|z
  .exact xf (T.top q z x e)
  .obtain rfl:q=m:=by simpa using z
   rw[hh] at e;cases e;rw[oj];exact AE ⟨h,j,rfl,adW _⟩
structure T2(ps:List P2)(ms:List Mk)(j:Nat)(tp:Nat->Option P2):Prop where
 val:∀ t,t<=ps.length->gH ps ms t (tp t)
 top:∀ m∈ms,∀ h,m.2.2=some h->fI (tp m.1) h
 fwd:∀ t,t<j->∀ v,fI (tp t) v->fI (tp (t+1)) (v+(aF ps t).2)
theorem T1.two(T:T1 ps ms ms.length tp):T2 ps ms 0 tp:=⟨T.val,λm h=>T.top m (by rw[adu];exact h),λ_ h=>absurd h (aek _)⟩
theorem T2.step(hp:fb ps)(hm:∀ m∈ms,m.1<=ps.length)(hj:j<ps.length)(T:T2 ps ms j tp):T2 ps ms (j+1) (ku tp (j+1) (kr (tp (j+1)) (qt (tp j) (aF ps j).2))):=by
 refine⟨Jl T.val ((T.val _ (by lia)).AF ((T.val j (by lia)).lift hp hm (by lia) (by lia) (Tg hj))),λm h x e=>xf (T.top m h x e),λt ht v hv=>?_⟩;rw[lr (by lia)] at hv;by_cases e:t=j
 .subst e;rw[oj];exact AE (Jk hv)
 .rw[lr (by lia)];exact T.fwd t (by lia) v hv
structure T3(ps:List P2)(ms:List Mk)(j:Nat)(tp:Nat->Option P2):Prop where
 val:∀ t,t<=ps.length->gH ps ms t (tp t)
 top:∀ m∈ms,∀ h,m.2.2=some h->fI (tp m.1) h
 fwd:∀ t,t<ps.length->∀ v,fI (tp t) v->fI (tp (t+1)) (v+(aF ps t).2)
 bwd:∀ t,j<=t->t<ps.length->∀ v,fI (tp (t+1)) v->fI (tp t) (v-(aF ps t).1)
theorem T2.three(T:T2 ps ms ps.length tp):T3 ps ms ps.length tp:=⟨T.val,T.top,T.fwd,λt h1 h2=>absurd h2 (by lia)⟩
theorem T3.step(hp:fb ps)(hm:∀ m∈ms,m.1<=ps.length)(hj:j<ps.length)(T:T3 ps ms (j+1) tp):T3 ps ms j (ku tp j (kr (tp j) (qt (tp (j+1)) (-(aF ps j).1)))):=by
 have h1:=hp _ (pY hj);refine⟨Jl T.val ((T.val _ (by lia)).AF ((T.val (j+1) (by lia)).lift hp hm (by lia) (by lia) (Th hj))),λm h x e=>xf (T.top m h x e),λt ht v hv=>?_,λt h2 h3 v hv=>?_⟩
 .by_cases e:t=j
  .subst e;rw[oj] at hv;rw[lr (by lia)];rcases Jj (tp t) (qt (tp (t+1)) (-(aF ps t).1)) with z|z
   .rw[z] at hv;exact T.fwd t ht v hv
   .rw[z] at hv;obtain⟨w,k,e,hw⟩:=hv;obtain⟨⟨w',k'⟩,e1,e2⟩:=adf.mp e;cases e2;exact⟨w',k',e1,by dsimp only at hw;lia⟩
  .rw[lr e] at hv;exact xf (T.fwd t ht v hv)
 .rw[lr (by lia)] at hv;by_cases e:t=j
  .subst e;rw[oj];refine AE ?_;have:=Jk (b:=-(aF ps t).1) hv
   rwa [show v + -(aF ps t).1=v-(aF ps t).1 by lia] at this
  .rw[lr e];exact T.bwd t (by lia) h3 v hv
theorem T3.tops(T:T3 ps ms 0 tp):lq ps ms tp :=
 ⟨λt v k ht e=>T.val t ht v k e,T.top,λt v k ht e=>T.fwd t ht v ⟨v,k,e,adW _⟩,λt v k ht e=>T.bwd t (ac5 _) ht v ⟨v,k,e,adW _⟩⟩
theorem lq.clash(T:lq ps ms tp)(hb:b.1<=ps.length)(e:tp b.1=some (v,k))(hl:b.2.1=some l)(hv:v<l):∃ (i:Nat) (a:Mk),k=(i:Int)/\ms[i]?=some a/\clash ps a b:=by obtain⟨i,m,h,e1,e2,e3,h4⟩:=T.val _ v k hb e;exact⟨i,m,e1,e2,h,l,e3,hl,by lia⟩
theorem AG:∀ t,(∀ k,k<=t->bx k=Ti k)->(∀ k,k<t->st k=cY k)->br bx st t=br Ti cY t
 | 0,h,_=>h 0 (acC _)
 | t+1,h,hs=>by unfold br;rw[h (t+1) (acC _),AG t (λk hk=>h k (by lia)) (λk hk=>hs k (by lia)),hs t (by lia)]
noncomputable def fJ(ws:List W2)(t:Nat):W2:=ws.getD t none
noncomputable def cn(ss:List S2)(t:Nat):S2:=ss.getD t (none,none)
noncomputable def atT(ms:List Mk)(t:Nat):List S2:=(ms.filter λm=>decide (m.1=t)).map (·.2)
noncomputable def cJ(ms:List Mk)(t:Nat):W2:=fG (none,none) (atT ms t)
theorem Jm:dJ (cJ ms t) x ↔ ∀ m∈ms,m.1=t->bS m.2 x:=by
 unfold cJ;rw[w6];unfold atT;constructor
 .intro h m hm e;exact h _ (acE.mpr ⟨m,acZ.mpr ⟨hm,by simpa using e⟩,rfl⟩)
 .intro h s hs;obtain⟨m,hm,rfl⟩:=acE.mp hs;obtain⟨h1,h2⟩:=acZ.mp hm;exact h m h1 (by simpa using h2)
theorem Tj(ms:List Mk)(t:Nat):tq (cJ ms t):=λs e=>by
 unfold cJ fG at e;split at e
 .cases e
 .rename_i h;cases e;simpa using h
theorem Tp(hc:iS ps c)(hm:meets ms c):∀ t,t<=ps.length->br (cJ ms) (aF ps) t≠none:=λt ht e=>by obtain⟨s,es,_⟩:=Jg (bx:=cJ ms) (st:=aF ps) (c:=c) (n:=ps.length) (λt _=>Jm.mpr λm dq e=>by rw[<- e];exact hm m dq) (λt ht=>hc t ht) t ht;rw[e] at es;cases es
theorem Jn(hp:fb ps)(hf:∀ t,t<=ps.length->br (cJ ms) (aF ps) t≠none):xb ps.length (cJ ms) (aF ps):=SS (Tj ms 0) (λt ht=>hp _ (pY ht)) hf
noncomputable def lx(ps:List P2):List P2:=ps.reverse.map λp=>(-p.2,-p.1)
theorem Tq(h:t<ps.length):aF (lx ps) t=iR ps.length (aF ps) t:=by unfold lx iR aF;rw[acu,acJ,aeN h,acu,acv (by lia)];rfl
theorem back_eq(hl:ss.length=ps.length+1)(h:∀ t,t<ps.length+1->br (cJ ms) (aF ps) t=some (cn ss t))(ht:t<=ps.length):br (fJ (ss.reverse.map some)) (aF (lx ps)) t=gG ps.length (cJ ms) (aF ps) (ps.length-t):=by unfold gG;rw[show ps.length-(ps.length-t)=t by lia];refine AG t (λk hk=>?_) λk hk=>Tq (by lia);rw[h (ps.length-k) (by lia)];unfold fJ cn;rw[acu,acJ,aeN (by lia),hl,show ps.length+1-1-k=ps.length-k by lia,acu,acv (by lia)];rfl
theorem Ts(hl:ss.length=n+1)(ht:t<=n):cn ss.reverse t=cn ss (n-t):=by unfold cn;rw[acu,aeN (by lia),acu,hl,show n+1-1-t=n-t by lia]
theorem Tt(T:xb ps.length (cJ ms) (aF ps))(ht:t<ps.length)(hx:dJ (gG ps.length (cJ ms) (aF ps) t) x)(hs:gG ps.length (cJ ms) (aF ps) (t+1)=some s):∃ r,iQ s (fH (some x,some x) (aF ps t))=some r/\∀ y,bS r y->dJ (gG ps.length (cJ ms) (aF ps) (t+1)) y/\(aF ps t).1<=y-x/\y-x<=(aF ps t).2:=by
 obtain⟨y,⟨s',e',hy⟩,h1,h2⟩:=T.next t x ht hx
 rw[hs] at e';cases e';have xx:bS (some x,some x) x:=⟨λ_ z=>by cases z;exact adW _,λ_ z=>by cases z;exact adW _⟩
 obtain⟨r,er,_⟩:=qr.mpr ⟨hy,Ax xx h1 h2⟩;refine⟨r,er,λz hz=>?_⟩;obtain⟨z1,z2⟩:=qr.mp ⟨r,er,hz⟩;refine⟨⟨s,hs,z1⟩,?_⟩;have a:=z2.1 (x+(aF ps t).1) rfl;have b:=z2.2 (x+(aF ps t).2) rfl;lia
noncomputable def bL(cs:List Int)(t:Nat):Int:=cs.getD t 0
theorem meets_of(T:xb ps.length (cJ ms) (aF ps))(hm:∀ m∈ms,m.1<=ps.length)(h:∀ t,t<=ps.length->dJ (gG ps.length (cJ ms) (aF ps) t) (c t)):meets ms c:=λm dq=>Jm.mp (T.sub _ _ (hm m dq) (h _ (hm m dq))) m dq rfl
noncomputable def eB(ts:List (Option P2))(t:Nat):Option P2:=ts.getD t none
theorem Tu(h:i<ts.length):eB (ts.set i x)=ku (eB ts) i x:=by
 funext t;unfold eB ku;rw[acu,List.getElem?_set];by_cases e:t=i
 .subst e;rw[if_pos rfl,if_pos rfl,if_pos h];rfl
 .rw[if_neg (λz=>e z.symm),if_neg e];exact (acu ..).symm
theorem Tv(n:Nat):eB (afz n none)=λ_=>none:=by funext t;unfold eB;rw[acu,afU];split<;>rfl
end Gz
namespace Gz
open PySem PySem.Spec PyProof.Rows L2
noncomputable def rowOf(H:Hp):V->List V
 | .ref p=>match H p with
  | some (.tup xs)=>xs
  | _=>[]
 | _=>[]
theorem mv(h:H p=some (.tup xs)):rowOf H (.ref p)=xs:=by
 show (match H p with
  | some (.tup xs)=>xs
  | _=>[])=xs
 rw[h]
def mw(row:V->List V)(tt:TT):TT:=λσ H Q=>match σ with
 | some v::ρ=>tt ((row v).map some++ρ) H Q
 | _=>False
def kx(row:V->List V)(te:TE):TE:=λσ H Q=>match σ with
 | some v::ρ=>te ((row v).map some++ρ) H Q
 | _=>False
section
variable{K:acr}{ρ:L2.St}{tt:TT}{te:TE}{H:Hp}{Q:VK}{a:acF}{xs:List V}{row:V->List V}
def oq(K:acr)(a:acF)(xs:List V)(row:V->List V)(k:Nat)(H:Hp):Prop:=ai K H a xs/\∀ x∈xs,∃ p,x = .ref p/\ak K H p (row x)/\(row x).length=k
theorem Jo{k:Nat}{g:TG}(hg:∀ (p:acF) (ys:List V) (os:List (Option V)) (H:Hp) (Q:L2.St->Hp->Prop),os.length=k->ys.length=k->ak K H p ys->Q (ys.map some++ρ) H->g (.ref p) (os++ρ) H Q)
 (hn:xs.length<=acV) (h:eT (oq K a xs row k) ρ (mw row tt) (kx row te) xs [] H λzs H'=>∀ l,H' l=none->Q (.ref l) (upd H' l (.lst zs))) :
 jv k (jn K a) g ρ tt te H Q:=by
 refine⟨λi m ys H=>m=xs.length-i/\i<=xs.length/\ys.length<=i/\eT (oq K a xs row k) ρ (mw row tt) (kx row te) (xs.drop i) ys H λys H'=>∀ l,H' l=none->Q (.ref l) (upd H' l (.lst ys)),⟨_,rfl,ac5 _,acC _,h⟩,?_⟩;rintro i m ys H ⟨rfl,hi,hy,c⟩;by_cases bb:i<xs.length
 .have e:=adQ bb;rw[e] at c;obtain⟨⟨c0,c1⟩,c2⟩:=c;have l1:∀ y:V,(ys++[y]).length<=i+1:=λy=>by rw[ac1,ac8];lia
  have l2:ys.length<=i+1:=by lia
  refine .inr ⟨⟨xs,_,c0,acv bb⟩,by lia,λzs H'=>zs.length<=i+1/\eT (oq K a xs row k) ρ (mw row tt) (kx row te) (xs.drop (i+1)) zs H' λys H'=>∀ l,H' l=none->Q (.ref l) (upd H' l (.lst ys)),λzs H' q=>⟨_,by lia,rfl,bb,q.1,q.2⟩,λos sJ v H' y=>?_⟩;obtain⟨rfl,ex⟩:=y;have ex:=ex xs c0;rw[acv bb] at ex;obtain⟨p,ep,hp,hl⟩:=c1 xs[i] (ahP _);cases ex;rw[ep] at hp hl c2 ⊢;refine hg p _ os _ _ sJ hl hp ⟨(row (.ref p)).map some,by rw[acs];exact hl,rfl,?_⟩;simp only[l1,l2,true_and];exact c2
 .have e:i=xs.length:=by lia
  subst e;rw[ajL] at c;exact .inl ⟨⟨xs,c.1.1,acC _⟩,by lia,c.2⟩
theorem AH{α:Type}{l:List α}{n:Nat}(h:l.length=n+1):∃ a r,l=a::r/\r.length=n:=by
 cases l with
 | nil=>cases h
 | cons a r=>exact⟨a,r,rfl,Nat.succ.inj h⟩
theorem AI{α:Type}{l:List α}(h:l.length=2):∃ a b,l=[a,b]:=by obtain⟨a,r,rfl,j⟩:=AH (n:=1) h;obtain⟨b,r,rfl,k⟩:=AH (n:=0) j;obtain rfl:=afb k;exact⟨a,b,rfl⟩
theorem Jp{α:Type}{l:List α}(h:l.length=3):∃ a b c,l=[a,b,c]:=by obtain⟨a,r,rfl,k⟩:=AH (n:=2) h;obtain⟨b,c,rfl⟩:=AI k;exact⟨a,b,c,rfl⟩
theorem Tw{p:acF}{ys:List V}{os:List (Option V)}{H:Hp}{Q:L2.St->Hp->Prop}(ho:os.length=2)(hy:ys.length=2)(h:ak K H p ys)(q:Q (ys.map some++ρ) H):jk K 2 (cL (b5 0) (cL (b5 1) ix)) (.ref p) (os++ρ) H Q:=by obtain⟨o1,o2,rfl⟩:=AI ho;obtain⟨x,y,rfl⟩:=AI hy;exact n9 h q
theorem Tz{p:acF}{ys:List V}{os:List (Option V)}{H:Hp}{Q:L2.St->Hp->Prop}(ho:os.length=3)(hy:ys.length=3)(h:ak K H p ys)(q:Q (ys.map some++ρ) H):jk K 3 (cL (b5 0) (cL (b5 1) (cL (b5 2) ix))) (.ref p) (os++ρ) H Q:=by obtain⟨o1,o2,o3,rfl⟩:=Jp ho;obtain⟨x,y,z,rfl⟩:=Jp hy;exact SO h q
theorem TC(hn:xs.length<=acV)(h:eT (oq K a xs row 2) ρ (mw row tt) (kx row te) xs [] H λzs H'=>∀ l,H' l=none->Q (.ref l) (upd H' l (.lst zs))) :
 jv 2 (jn K a) (jk K 2 (cL (b5 0) (cL (b5 1) ix))) ρ tt te H Q:=Jo (λ_ _ _ _ _ ho hy h q=>Tw ho hy h q) hn h
theorem AJ(hn:xs.length<=acV)(h:eT (oq K a xs row 3) ρ (mw row tt) (kx row te) xs [] H λzs H'=>∀ l,H' l=none->Q (.ref l) (upd H' l (.lst zs))) :
 jv 3 (jn K a) (jk K 3 (cL (b5 0) (cL (b5 1) (cL (b5 2) ix)))) ρ tt te H Q:=Jo (λ_ _ _ _ _ ho hy h q=>Tz ho hy h q) hn h
end
theorem qv{α β:Type}{R:Hp->V->α->Prop}{R':Hp->V->β->Prop}{Ok:Hp->Prop}{ρ:L2.St}{tt:TT}{te:TE}{p:α->Bool}{f:α->β}{Q':List V->Hp->Prop}(mono:∀ H H' x a,ah H H'->R H x a->R H' x a)(pZ:∀ H H' x a,ah H H'->R' H x a->R' H' x a):∀ {xs:List V} {as:List α} {zs:List V} {bs:List β} {H:Hp},ax (R H) xs as->ax (R' H) zs bs->(∀ H',ah H H'->Ok H') ->
 (∀ x a,a∈as->∀ H',ah H H'->R H' x a->∀ Q:Bool->Hp->Prop,Q (p a) H'->tt (some x::ρ) H' Q)->(∀ x a,a∈as->p a=true->∀ H',ah H H'->R H' x a->∀ Q:VK,(∀ H2 y,ah H' H2->R' H2 y (f a)->Q y H2)->te (some x::ρ) H' Q)->(∀ H' ws,ah H H'->ax (R' H') ws (bs++(as.filter p).map f)->Q' ws H')->eT Ok ρ tt te xs zs H Q'
 | [],[],zs,bs,H,_,hz,cv,_,_,q=>⟨cv H (ah.refl H),q H zs (ah.refl H) (by simpa using hz)⟩
 | x::xs,a::as,zs,bs,H,h,hz,cv,ht,he,q=>by
  refine⟨cv H (ah.refl H),ht x a (.head _) H (ah.refl H) h.1 _ ?_⟩;by_cases hp:p a=true
  .rw[if_pos hp];refine he x a (.head _) hp H (ah.refl H) h.1 _ λH2 y s2 ry=>?_;refine qv mono pZ (bs:=bs++[f a]) (h.2.imp λ_ _ r=>mono _ _ _ _ s2 r) ((hz.imp λ_ _ r=>pZ _ _ _ _ s2 r).snoc ry) (λH' s'=>cv H' (s2.trans s')) (λx b hb H' s'=>ht x b (.tail _ hb) H' (s2.trans s')) (λx b hb hp H' s'=>he x b (.tail _ hb) hp H' (s2.trans s')) λH' ws s' hw=>q H' ws (s2.trans s') ?_;rw[adk,if_pos hp];simpa using hw
  .rw[if_neg hp];refine qv mono pZ h.2 hz cv (λx b hb=>ht x b (.tail _ hb)) (λx b hb hp=>he x b (.tail _ hb) hp) λH' ws s' hw=>q H' ws s' ?_;rw[adk,if_neg hp];exact hw
 | [],_::_,_,_,_,h,_,_,_,_,_=>h.elim
 | _::_,[],_,_,_,h,_,_,_,_,_=>h.elim
theorem TF(ao:List acB):aj0 ao.toArray none none (some (-1))=ao.reverse.toArray:=by
 have e1:afI none none (some (-1)) ao.toArray.size=(((ao.length:Nat):Int)-1,-1,-1):=by rw[acK];rfl
 unfold aj0;rw[e1];dsimp only;have e2:sliceRange (((ao.length:Nat):Int)-1) (-1) (-1)=(acD ao.length).map λk=>ao.length-1-k:=by
  unfold sliceRange;have h1:¬ ((-1:Int) > 0):=by lia
  simp only[h1,if_false];by_cases h:ao.length=0
  .rw[h];rfl
  .rw[if_pos (by lia),show (((ao.length:Nat):Int)-1 - -1 - -1-1) / (- -1)=((ao.length:Nat):Int) by
    rw[show (- (-1:Int))=1 by lia,ak0];lia,adt]
   refine aeH λk hk=>?_;have:=acY.mp hk;lia
 rw[e2]
 congr 1
 refine afu λk=>?_;have key:((acD ao.length).map λk=>ao.length-1-k).filterMap (ao.toArray[·]?)=(acD ao.length).map λk=>ao.getD (ao.length-1-k) .none:=by
  rw[List.filterMap_map];have:∀ (l:List Nat),(∀ k∈l,k<ao.length)->l.filterMap ((λx=>ao.toArray[x]?) ∘ λk=>ao.length-1-k)=l.map λk=>ao.getD (ao.length-1-k) .none:=by
   intro l
   induction l with
   | nil=>intro _;rfl
   | cons k l ih =>
    intro h;have hk:=h k (.head _);rw[adU,acN];have e:((λx=>ao.toArray[x]?) ∘ λk=>ao.length-1-k) k=some (ao.getD (ao.length-1-k) .none):=by show ao.toArray[ao.length-1-k]?=_;rw[List.getElem?_toArray,acu,acv (by lia)];rfl
    rw[e,ih λj hj=>h j (.tail _ hj)]
  exact this _ λk hk=>acY.mp hk
 rw[key];by_cases hk:k<ao.length
 .rw[acJ,adw hk,aeN hk];simp only[Option.map_some];rw[acu,acv (by lia)];rfl
 .rw[adK (by rw[acs,acH];lia),adK (by rw[aeh];lia)]
section
variable{X:Cx}{e st:agu}{te ts:TE}{p2 pos:Pos}
def Jq(K:acr)(te ts:TE):TE:=λσ H Q=>te σ H λx H1=>ts σ H1 λy H2=>y = .int (-1)/\∃ a xs,x = .ref a/\ai K H2 a xs/\∀ p,H2 p=none->Q (.ref p) (upd H2 p (.lst xs.reverse))
theorem Jr(he:PE X e te)(hs:PE X st ts):PE X (.Subscript e (.Slice none none (some st) p2) pos) (Jq X.K te ts):=by intro pins s σ H Q I h;refine ajm (aB (he pins s σ H _ I h) λv s1 zq=>?_);obtain⟨x,H1,I1,r1,q1⟩:=zq;refine wpAny_Slice ?_;rw[ai1];refine acw (acw ?_);rw[evalPart_some];refine aB (hs pins s1 σ H1 _ I1 q1) λu s2 zq=>?_;obtain⟨y,H2,I2,r2,q2⟩:=zq;obtain⟨rfl,a,xs,rfl,hx,q⟩:=q2;obtain⟨t,rfl⟩:=r2;cases r1;have I4:Inv X pins σ H2 { s2 with heap:=s2.heap.push { cls:=.type "slice",data:=.fields #[.none,.none,.int (-1) t] } }:=I2.kept (t':=s2.toks) λb ob q=>acx _ q;obtain⟨ao,r,ht,hz⟩:=I4.list hx;have hlen:=r.length;show acQ (model X.prog X.w) X.A (ahA e (.Slice none none (some st) p2) (.ref a) (.ref s2.heap.objs.size)) (EP X pins σ Q) X.xe { s2 with heap:=s2.heap.push { cls:=.type "slice",data:=.fields #[.none,.none,.int (-1) t] } };refine tail_any (ops:=[.ref a,.ref s2.heap.objs.size]) ht.isList.typeIs slot_list_getitem.lookup ?_ (by with_unfolding_all rfl);refine aho ht.isList (Heap.IsSliceOf.new ..) .none .none (.int (-1) t) (by simp) ?_ (by rw[acK];lia);rw[TF];refine⟨.ref _,_,I4.laid (t':=s2.toks) (o:=.lst xs.reverse) (λb ob q=>acx _ q) (acC _) ?_,rfl,q _ (I4.ay.fresh (acC _))⟩;exact⟨by rw[aeh];exact hz,_,0,r.reverse,acG _ rfl⟩
end
theorem TH{K:acr}{a:acF}{xs:List V}{ρ:L2.St}{tt:TT}{te:TE}{H:Hp}{Q:VK}(hn:xs.length<=acV)(h:eT (λH=>ai K H a xs) ρ tt te xs.reverse [] H λys H'=>∀ l,H' l=none->Q (.ref l) (upd H' l (.lst ys))):l8 (wz K a xs.length) ρ tt te H Q:=by
 have hr:xs.reverse.length=xs.length:=aeh;refine⟨λi m ys H=>m=xs.length-i/\i<=xs.length/\ys.length<=i/\eT (λH=>ai K H a xs) ρ tt te (xs.reverse.drop i) ys H λys H'=>∀ l,H' l=none->Q (.ref l) (upd H' l (.lst ys)),⟨_,rfl,ac5 _,acC _,h⟩,?_⟩;rintro i m ys H ⟨rfl,hi,hy,g⟩;by_cases bb:i<xs.length
 .have e:=adQ (show i<xs.reverse.length by lia);rw[e] at g;obtain⟨g0,g1⟩:=g;refine .inr ⟨⟨xs,_,g0,rfl,acv (by lia)⟩,by lia,λzs H'=>zs.length<=i+1/\eT (λH=>ai K H a xs) ρ tt te (xs.reverse.drop (i+1)) zs H' λys H'=>∀ l,H' l=none->Q (.ref l) (upd H' l (.lst ys)),λzs H' q=>⟨_,by lia,rfl,bb,q.1,q.2⟩,λx H' y=>?_⟩;obtain⟨rfl,ex⟩:=y;have ex:=ex xs g0 rfl;rw[acv (by lia)] at ex;cases ex;have l1:∀ y:V,(ys++[y]).length<=i+1:=λy=>by rw[ac1,ac8];lia
  have l2:ys.length<=i+1:=by lia
  simp only[l1,l2,true_and];exact g1
 .have e:i=xs.length:=by lia
  subst e;rw[af7 (by lia)] at g;exact .inl ⟨rfl,by lia,g.2⟩
theorem GK(h:afm us ns):Vals (ns.map V.int) us:=by
 induction h with
 | nil=>exact .nil
 | cons n t r ih=>exact .cons ⟨t,rfl⟩ ih
abbrev tD(H:Hp)(v:V)(s:S2):Prop:=aM H v s.1 s.2
noncomputable def cellsFrom:En->List Int->List S2
 | lo,[]=>[(lo,none)]
 | lo,z::zs=>(lo,some (z-1))::cellsFrom (some z) zs
noncomputable def ly(c:S2):Int:=match c.1,c.2 with
 | some x,_=>x
 | none,some y=>y
 | none,none=>0
theorem TJ(h:Ig c):hs c (ly c)=true:=by
 rw[RJ];unfold Ig at h;rcases c with ⟨_|x,_|y⟩
 .exact⟨λ_ e=>(nomatch e),λ_ e=>(nomatch e)⟩
 .exact⟨λ_ e=>(nomatch e),λ_ e=>by cases e;exact adW _⟩
 .exact⟨λ_ e=>by cases e;exact adW _,λ_ e=>(nomatch e)⟩
 .refine⟨λ_ e=>by cases e;exact adW _,λ_ e=>?_⟩;cases e;show x<=y;simp[aX] at h;lia
theorem Js(es:List Int):(es.map V.int).all kU=true:=by rw[afQ];exact adA.mpr λ_ _=>rfl
theorem AK(a:Int):∀ (es:List Int),vZ (.int a) (es.map V.int)=es.contains a
 | []=>rfl
 | e::es=>by
  have ih:=AK a es;unfold vZ at *;rw[acN,ad0,ih,List.contains_cons]
  congr 1
  show (e == a)=(a == e);rw[adV];simp only[beq_iff_eq];exact eq_comm
theorem AL{K:acr}{H1 H':Hp}{l:acF}{ys:List V}{tb:Tb}(hl:H1 l=some (.lst ys))(hM:ax (jA H1) ys tb)(s:ah H1 H'):oq K l ys (rowOf H1) 3 H':=by refine⟨ai.of (s _ _ hl),λx hx=>?_⟩;obtain⟨i,hi⟩:=adD.mp hx;obtain⟨m,_,t,p,rfl,h1,h2⟩:=hM.get hi;rw[mv h1];exact⟨t,rfl,ak.of (s _ _ h1),rfl⟩
noncomputable def eV(tb:Tb)(es:List Int):List Mk:=((kj tb).filter λr=>!es.contains r.1.1).map λr=>(r.1.2.toNat,r.2)
theorem map_some:∀ (l:List α),(l.map f).filterMap id=l.filterMap f
 | []=>rfl
 | a::l=>by rw[acN,adU,adU,map_some l];rfl
theorem cU:∀ {l:List α},l.Pairwise R->∀ {p q:α},p∈l->q∈l->p=q∨R p q∨R q p
 | [],_,_,_,h,_=>by cases h
 | x::l,h,p,q,hp,hq=>by
  have h1:=ajc.mp h;rcases acL.mp hp with e1|i1<;>rcases acL.mp hq with e2|i2
  .exact .inl (e1.trans e2.symm)
  .rw[e1];exact .inr (.inl (h1.1 q i2))
  .rw[e2];exact .inr (.inr (h1.1 p i1))
  .exact cU h1.2 i1 i2
theorem ot:(kj tb).Perm tb:=qd
theorem TK:(kj tb).Pairwise λa b=>HT.lexLt [b.1.1,b.1.2] [a.1.1,a.1.2]=false:=Ib (f:=λr:P2 × S2=>[r.1.1,r.1.2]) rfl
local macro_rules | `(tactic| walk_at "o") => `(tactic| ((try simp only [PySem.Addr] at *); lia))
section
end
noncomputable def TL(K:acr)(a b c:acF):It :=
 ⟨λi H=>∃ xs ys zs x y z,ai K H a xs/\ai K H b ys/\ai K H c zs/\xs[i]?=some x/\ys[i]?=some y/\zs[i]?=some z,λi H v H'=>∃ (p:acF) (x y z:V),v = .ref p/\H p=none/\H'=upd H p (.tup [x,y,z])/\(∀ xs,ai K H a xs->xs[i]?=some x)/\(∀ ys,ai K H b ys->ys[i]?=some y)/\∀ zs,ai K H c zs->zs[i]?=some z,
  λi H=>∃ xs,ai K H a xs/\xs.length<=i⟩
def TM(K:acr)(ta:TA):TI:=λσ H R=>ta σ H λvs H1=>∃ a b c,vs=[.ref a,.ref b,.ref c]/\(∃ xs,ai K H1 a xs)/\(∃ ys,ai K H1 b ys)/\(∃ zs,ai K H1 c zs)/\R (TL K a b c) H1
section
def Loose:HO->Prop
 | .dT _=>True
 | .aQ _ (.dT _)=>True
 | _=>False
theorem Jt(I:Inv X pins σ H s)(e:H a=some u)(lu:Loose u)(h0:∀ o v,X.H₀ a≠some (.aQ o v))(new:bN X.prog X.w (upd H a u') s.heap a u'):Inv X pins σ (upd H a u') s:=by
 have nn:∀ b,H b=none->b≠a:=λb h z=>by rw[z,e] at h;cases h
 have nt:∀ b xs,H b=some (.tup xs)->b≠a:=λb xs h z=>by rw[z,e] at h;cases h;exact lu
 have no:∀ b x,H b=some (.own x)->b≠a:=λb x h z=>by rw[z,e] at h;cases h;exact lu
 have nb:∀ b ps,H b=some (.tbl ps)->b≠a:=λb ps h z=>by rw[z,e] at h;cases h;exact lu
 refine⟨I.ok,I.os,I.bare,⟨I.base.keep,I.base.slot,λb o e1 n hx=>?_,I.base.there,λb xs e1=>?_,λb o v e1=>?_,λb ps e1=>?_⟩,I.loc,I.cell,?_,λx c e1=>?_,λp hp=>?_,λb ob e1=>?_,I.len⟩
 .have:=I.base.free b o e1 n hx;rw[aD (nn b this)];exact this
 .have:=I.base.gq b xs e1;rw[aD (nt b xs this)];exact this
 .have:=I.base.fN b o v e1;rw[aD (show b≠a from λz=>h0 o v (by rw[<- z];exact e1))];exact this
 .obtain⟨more,this⟩:=I.base.gu b ps e1;exact⟨more,by rw[aD (nb b _ this)];exact this⟩
 .rw[aD (nn _ I.free)];exact I.free
 .have:=I.f7 x c e1;rw[aD (nn c this)];exact this
 .obtain⟨p1,p2,p3⟩:=I.pin p hp;exact⟨p1,by rw[aD (nn _ p2)];exact p2,p3⟩
 .by_cases hb:b=a
  .subst hb;rw[aq] at e1;cases e1;exact new
  .rw[aD hb] at e1;exact (I.ay b ob e1).stay (λ_ _ _ q=>q) (λc h=>by rw[aD (no c _ h)];exact h) λc xs h=>by rw[aD (nt c xs h)];exact h
theorem TN(I:Inv X pins σ H s)(e:H a=some (.dT kvs)):∃ o,Inv X pins σ (upd H a (.aQ o (.dT kvs))) s/\∀ o v,X.H₀ a≠some (.aQ o v):=by
 have h0:∀ o v,X.H₀ a≠some (.aQ o v):=λo v z=>by have:=I.base.fN a o v z;rw[e] at this;cases this
 have ok:=I.ay a _ e;obtain⟨_,_,_,_,o,_,_,ho,_⟩:=id ok;refine⟨o,Jt I e trivial h0 ⟨ho,ok.stay (λ_ _ _ q=>q) (λc h=>?_) λc xs h=>?_⟩,h0⟩
 .rw[aD λz=>by rw[z,e] at h;cases h];exact h
 .rw[aD λz=>by rw[z,e] at h;cases h];exact h
theorem xg(I:Inv X pins σ H s)(e:H a=some (.aQ o (.dT kvs)))(h0:∀ o v,X.H₀ a≠some (.aQ o v)):Inv X pins σ (upd H a (.dT kvs)) s:=by
 obtain⟨_,ok⟩:=I.ay a _ e;refine Jt I e trivial h0 (ok.stay (λ_ _ _ q=>q) (λc h=>?_) λc xs h=>?_)
 .rw[aD λz=>by rw[z,e] at h;cases h];exact h
 .rw[aD λz=>by rw[z,e] at h;cases h];exact h
noncomputable def Ju(a:acF)(o:Obj)(kvs:List (List Key × V))(D:Ends):Ends where
 nx:=λσ H=>H a=some (.aQ o (.dT kvs))/\D.nx σ (upd H a (.dT kvs))
 rt:=λv H=>H a=some (.aQ o (.dT kvs))/\D.rt v (upd H a (.dT kvs))
 bk:=λσ H=>H a=some (.aQ o (.dT kvs))/\D.bk σ (upd H a (.dT kvs))
 ct:=λσ H=>H a=some (.aQ o (.dT kvs))/\D.ct σ (upd H a (.dT kvs))
def Jv(t:TS):TS:=λD σ H=>∃ a kvs,H a=some (.dT kvs)/\∀ o,t (Ju a o kvs D) σ (upd H a (.aQ o (.dT kvs)))
theorem AM{st:aee}{t:TS}(h:PS X st t):PS X st (Jv t):=by
 rintro pins s σ H D I ⟨a,kvs,e,q⟩;obtain⟨o,I1,h0⟩:=TN I e;refine aB (h pins s σ _ _ I1 (q o)) λf s' hf=>?_;cases f with
 | next=>obtain⟨σ',H',I',e',q'⟩:=hf;exact⟨σ',_,xg I' e' h0,q'⟩
 | brk=>obtain⟨σ',H',I',e',q'⟩:=hf;exact⟨σ',_,xg I' e' h0,q'⟩
 | cont=>obtain⟨σ',H',I',e',q'⟩:=hf;exact⟨σ',_,xg I' e' h0,q'⟩
 | ret v=>obtain⟨v',σ',H',I',r',e',q'⟩:=hf;exact⟨v',σ',_,xg I' e' h0,r',q'⟩
def TQ(t:TE):TE:=λσ H Q=>∃ a kvs,H a=some (.dT kvs)/\∀ o,t σ (upd H a (.aQ o (.dT kvs))) λv H'=>H' a=some (.aQ o (.dT kvs))/\Q v (upd H' a (.dT kvs))
noncomputable def fS(o:Obj):List V:=match o.data with
 | .dict es _=>es.toList.map λe=>match e.key with
  | .ref a=>V.ref a
  | _=>V.non
 | _=>[]
noncomputable def tE(a:acF)(o:Obj)(kvs:List (List Key × V)):It where
 go i H:=H a=some (.aQ o (.dT kvs))/\i<kvs.length
 yld i H x H':=H'=H/\(fS o)[i]?=some x
 stop i H:=H a=some (.aQ o (.dT kvs))/\kvs.length<=i
def AN(tl:TE):TI:=λσ H R=>tl σ H λx H1=>∃ a o kvs,x = .ref a/\H1 a=some (.aQ o (.dT kvs))/\(iN H1 (fS o) kvs->R (tE a o kvs) H1)
theorem AO(ok:cj P w H h)(e:H a=some (.aQ o (.dT kvs))):∃ (as:List acF) (es:Array aeC) (ep:Nat),iN H (fS o) kvs/\(a == ad6)=false/\el h a es ep/\o.data = .dict es ep/\es.size=kvs.length/\kvs.length<=acV/\∀ i (hi:i<es.size),∃ b,es[i].key = .ref b/\(fS o)[i]?=some (.ref b):=by
 obtain⟨ho,z,lo,xs,rel,o',es,ep,cT,hc,hd,he,hn⟩:=ok a _ e;rw[ho] at cT;cases cT;have hl:xs.length=kvs.length:=(Paired.length rel).symm;have hs:es.size=xs.length:=aeY he;have ek:fS o=(xs.map (·.2.1)).map V.ref:=by unfold fS;rw[hd];show es.toList.map _=_;rw[he,ado,ado];exact aeH λx _=>rfl
 refine⟨xs.map (·.2.1),es,ep,?_,lo,⟨o,ho,hc,hd⟩,hd,hs.trans hl,z,λi hi=>?_⟩
 .rw[ek];exact KT.IK rel
 .have hx:i<xs.length:=by lia
  have e1:=entry_at he i;rw[adi hi,acv hx] at e1;have e2:es[i]=aim (agI (cS P w)) xs[i]:=by simpa using e1
  refine⟨xs[i].2.1,by rw[e2];rfl,?_⟩;rw[ek,acJ,acJ,acv hx];rfl
theorem TR{P:adn}{w:ad2}{K:acr}{tg:agu}(a it:acF)(o:Obj)(kvs:List (List Key × V))(bV:a≠it):Turn P w K tg (tE a o kvs) [it] it (λi h=>∃ es ep,o.data = .dict es ep/\i<=es.size/\h.IsKeyIter it a i es.size ep) where
 mem:=by simp
 obj:=λi h st b hb=>by
  have e:b=it:=by simpa using hb
  subst e;obtain⟨es,ep,_,_,ob,e,c,d⟩:=st;exact⟨ob,e,λv z=>by rw[d] at z;cases z⟩
 keep:=λi h h' st k=>by obtain⟨es,ep,h1,h2,ob,e,c,d⟩:=st;exact⟨es,ep,h1,h2,ob,k it (by simp) ob e,c,d⟩
 item:=by
  intro X hP hw hK hc i pins s σ H E I hf st hg;subst hP hw hK;obtain⟨e,hi⟩:=hg;obtain⟨es,ep,hd,hle,hit⟩:=st;obtain⟨as,es',kO,hk,lo,raw,jh,hs,hz,hU⟩:=AO I.ay e;rw[hd] at jh;cases jh;obtain⟨f0,f1,f2,f3,f4,f5⟩:=hf it (by simp);have cW:i<es.size:=by lia
  obtain⟨b,eb,kb⟩:=hU i cW;refine IE hit raw cW λh' lh sb=>?_;have I1:Inv X pins σ H { s with heap:=h' }:=I.turned (t':=s.toks) (λb o hb e=>(sb.2 b hb).trans e) f0 f1 f3 f4 f5;obtain⟨ob,e1,c1,d1⟩:=id lh;exact⟨es[i].key,rfl,pC (s:={ s with heap:=h' }) e1 c1 d1 (by decide) ⟨.ref b,H,I1,eb,⟨rfl,kb⟩,⟨es,ep,hd,cW,lh⟩,λb hb=>(hf b hb).1⟩⟩
 done:=by
  intro X hP hw hK hc i pins s σ H E I hf st hg;subst hP hw hK;obtain⟨e,hi⟩:=hg;obtain⟨es,ep,hd,hle,hit⟩:=st;obtain⟨as,es',kO,hk,lo,raw,jh,hs,hz,hU⟩:=AO I.ay e;rw[hd] at jh;cases jh;obtain⟨f0,f1,f2,f3,f4,f5⟩:=hf it (by simp);have ei:i=es.size:=by lia
  subst ei;exact IF (I.ok.hd hc) hit raw λh' eb=>⟨rfl,I.turned (t':=s.toks) (λb o hb e=>eb b o hb e) f0 f1 f3 f4 f5⟩
 self:=λ_ _ _ _ _ st h=>by obtain⟨es,ep,_,_,hit⟩:=st;exact aiy hit h
theorem AQ(hl:PE X l tl):PI X tg l (AN tl):=by
 intro pins s σ H R I h;refine aB (hl pins s σ H _ I h) λv s1 zq=>?_;obtain⟨x,H1,I1,r1,q1⟩:=zq;obtain⟨a,o,kvs,e,hf,q⟩:=q1;subst e;cases r1;obtain⟨as,es,ep,hk,lo,raw,hd,hs,hz,hU⟩:=AO I1.ay hf;refine ID lo raw ?_;refine⟨s1.heap.objs.size,[s1.heap.objs.size],_,_,H1,rfl,I1.kept (t':=s1.toks) λb o e=>acx _ e,TR a _ o kvs (acO raw.lt),⟨es,ep,hd,ac5 _,_,acG _ rfl,rfl,rfl⟩,λb hb=>?_,q hk⟩;have e:b=s1.heap.objs.size:=by simpa using hb
 subst e;exact I1.iy (acC _) (I1.ay.fresh (acC _))
theorem TU:j5 (AN tl) g tb D σ H=tl σ H (λx H1=>∃ a o kvs,x = .ref a/\H1 a=some (.aQ o (.dT kvs))/\(iN H1 (fS o) kvs->FJ (tE a o kvs) g tb D σ H1)):=rfl
theorem TV(Pv:Nat->L2.St->Hp->Prop)(hk:fS o=xs)(TX:xs.length=kvs.length)(h0:Pv 0 σ H)(hl:∀ i σ H,i<=xs.length->Pv i σ H->H a=some (.aQ o (.dT kvs)))(hs:∀ i x σ H,xs[i]?=some x->Pv i σ H->g x σ H λσ2 H2=>tb { D with nx:=Pv (i+1),ct:=Pv (i+1),bk:=D.nx } σ2 H2)(hd:∀ σ H,Pv xs.length σ H->D.nx σ H):FJ (tE a o kvs) g tb D σ H:=by
 refine⟨λi m σ H=>m=xs.length-i/\i<=xs.length/\Pv i σ H,⟨xs.length,by simp,ac5 _,h0⟩,?_⟩;rintro i m σ H ⟨rfl,hi,p⟩;have q:=hl i σ H hi p;by_cases bb:i<xs.length
 .refine .inr ⟨⟨q,by lia⟩,Pv (i+1),λσ' H' p'=>⟨xs.length-(i+1),by lia,rfl,bb,p'⟩,λx H' y=>?_⟩;obtain⟨e,y⟩:=y;subst e;rw[hk] at y;exact hs i x σ _ y p
 .have e:i=xs.length:=by lia
  subst e;exact .inl ⟨⟨q,by lia⟩,hd σ H p⟩
theorem Jw(hk:fS o=xs)(TX:xs.length=kvs.length):sN (tE a o kvs) (λH=>H a=some (.aQ o (.dT kvs))) xs :=
 ⟨λi _ _ h e=>⟨h,by have:=(acz.mp e).1;lia⟩,λi _ _ _ _ y=>⟨y.1,λ_=>hk ▸ y.2⟩,λi _ h hi=>⟨h,by lia⟩⟩
end
theorem xh(e:H a=some u)(h:H p=some v)(ne:v≠u):upd H a w p=some v:=by rw[aD (pf h e ne)];exact h
section
theorem Jx(e:H0 a=some (.dT kvs))(s:ah (upd H0 a (.aQ o (.dT kvs))) H1):ah H0 (upd H1 a (.dT kvs)):=λb u h=>by
 by_cases hb:b=a
 .subst hb;rw[e] at h;cases h;exact aq
 .rw[aD hb];exact s b u (by rw[aD hb];exact h)
theorem xi(e:H a=some (.dT kvs))(h:H p=some (.tup xs)):upd H a u p=some (.tup xs):=xh e h λz=>nomatch z
theorem TY(e:H a=some (.dT kvs))(h:H p=some (.lst xs)):upd H a u p=some (.lst xs):=xh e h λz=>nomatch z
theorem TZ(e:H a=some (.aQ o (.dT kvs)))(h:H p=some (.lst xs)):upd H a u p=some (.lst xs):=xh e h λz=>nomatch z
theorem aM.aQ(h:aM H v x y)(e:H a=some (.dT kvs)):aM (upd H a u) v x y:=let ⟨t,e1,h1⟩:=h;⟨t,e1,xi e h1⟩
theorem a7.aQ(h:a7 H kvs tb)(e:H a=some (.dT kvs)):a7 (upd H a u) kvs tb:=h.imp λ_ _ _ z=>z.aQ e
theorem Jy{K:acr}{xs:List V}(e:H a=some (.dT kvs))(h:ai K H p xs):ai K (upd H a (.aQ o (.dT kvs))) p xs:=by
 rcases h with (h|⟨z,h⟩)|h
 .exact .inl (.inl (TY e h))
 .exact .inl (.inr ⟨z,xh e h λz=>nomatch z⟩)
 .exact .inr h
end
theorem eh.z(e:H a=some (.aQ o (.dT kvs)))(eb:H b=some (.tup (k.map kV))):eh H a (.ref b) (da kvs k):=.inr ⟨kvs,k,b,.inr ⟨o,e⟩,rfl,eb,rfl⟩
noncomputable def dM(tb:Tb)(i:Int):List Mk:=((kj tb).filter λr=>decide (r.1.1=i)).map λr=>(r.1.2.toNat,r.2)
theorem xj:k∈dM tb i ↔ ∃ r∈tb,r.1.1=i/\k=(r.1.2.toNat,r.2):=by
 unfold dM;rw[acE];constructor
 .rintro ⟨r,hr,rfl⟩;obtain⟨h1,h2⟩:=acZ.mp hr;exact⟨r,qm h1,by simpa using h2,rfl⟩
 .rintro ⟨r,hr,hn,rfl⟩;exact⟨r,acZ.mpr ⟨ot.mem_iff.mpr hr,by simpa using hn⟩,rfl⟩
noncomputable def dr(cs:List Int)(t:Nat):Int:=cs.getD t 0
theorem Jz(h:t<cs.length):(cs.map V.int)[t]?=some (V.int (dr cs t)):=by rw[acJ,acv h];unfold dr;rw[acu,acv h];rfl
section
end
end Gz
namespace Gz
open PySem
theorem slot1{t:akL}{q:Nat}(hp:t.place = #[q])(hd:t.dummies = #[])(j:Nat):t.slot j=if q=j then .live 0 else .empty:=by
 unfold akM ag5;rw[hp,hd];simp only[SetTable.below,ad8,acK,ada,aej];by_cases h:q<j
 .have:q≠j:=by lia
  simp[h,this]
 .by_cases e:q=j<;>simp[h,e]
theorem JA(hp:t.place = #[q])(hd:t.dummies = #[])(hm:t.mask=7)(hf:∀ i,(f i == h)=false) :
 ∀ (n m:Nat) (p:SetTable.Probe),p.more=0->p.j=p.i->p.dummy=none->p.perturb<32 ^ n->p.i<=7->∃ j,j≠q/\ae0 t f h (n+(m+2)) p=some (.empty j none)
 | n,m,⟨j,mo,i,pe,du⟩,h1,h2,h3,h4,h5=>by
  dsimp only at h1 h2 h3 h4 h5;subst h1 h3;obtain rfl:i=j:=h2.symm;have ad:t.advance ⟨i,0,i,pe,none⟩=⟨(i * 5+1+pe / 32) % 8,0,(i * 5+1+pe / 32) % 8,pe / 32,none⟩:=by simp[SetTable.advance,SetTable.leap,hm,akh]
  have le:(i * 5+1+pe / 32) % 8<=7:=by lia
  by_cases e:q=i
  .cases n with
   | zero =>
    have z:(i * 5+1+pe / 32) % 8≠q:=by lia
    refine⟨_,z,?_⟩;rw[show 0+(m+2)=(m+1)+1 by lia,ae0,slot1 hp hd,if_pos e];simp only[hf,ac2,if_false];rw[ad,ae0,slot1 hp hd,if_neg (ady z)]
   | succ n =>
    obtain⟨j,j1,j2⟩:=JA hp hd hm hf n m ⟨_,0,_,pe / 32,none⟩ rfl rfl rfl (by dsimp only;rw[Nat.pow_succ] at h4;exact Nat.div_lt_of_lt_mul (by lia)) le;refine⟨j,j1,?_⟩;rw[show n+1+(m+2)=(n+(m+2))+1 by lia,ae0,slot1 hp hd,if_pos e];simp only[hf,ac2,if_false];rw[ad];exact j2
  .refine⟨i,ady e,?_⟩;rw[show n+(m+2)=(n+m+1)+1 by lia,ae0,slot1 hp hd,if_neg e]
structure ic(t:akL)(L:List (Nat × Int × acB)):Prop where
 pl:t.place=(L.map (·.1)).toArray
 du:t.dummies = #[]
 ma:t.mask=7
 sh:L=[]∨(∃ a,L=[a]) ∨ ∃ a b,L=[a,b]/\a.1<b.1
section
theorem ic.fits(k:ic t L):t.fits (L.map (·.2)).toArray.size=true:=by obtain⟨h1,h2,h3,h4⟩:=k;rcases h4 with rfl|⟨a,rfl⟩|⟨a,b,rfl,_⟩<;>simp[SetTable.fits,ahH,h1,h2,h3]
theorem ic.zero(k:ic t L):SetTable.below t.place 0=0:=by obtain⟨h1,h2,h3,h4⟩:=k;rcases h4 with rfl|⟨a,rfl⟩|⟨a,b,rfl,_⟩<;>simp[h1,SetTable.below,ad8]
theorem ic.next(k:ic t L)(hi:i<L.length):SetTable.below t.place (L[i].1+1)=i+1:=by
 obtain⟨h1,h2,h3,h4⟩:=k;rw[h1];rcases h4 with rfl|⟨a,rfl⟩|⟨a,b,rfl,z⟩
 .cases hi
 .obtain rfl:i=0:=by simpa using hi
  simp[SetTable.below,ad8]
 .match i,hi with
  | 0,_ =>
   have:¬ b.1<a.1+1:=by lia
   simp[SetTable.below,ad8,this]
  | 1,_=>simp[SetTable.below,ad8]
theorem ic.free(k:ic t L)(hl:L.length<=1)(h:Int):∃ j,t.freeSlot h=some (j,false)/\j∉L.map (·.1):=by
 obtain⟨h1,h2,h3,h4⟩:=k;rcases h4 with rfl|⟨a,rfl⟩|⟨a,b,rfl,_⟩
 .refine⟨SetTable.bits h % 8,?_,λhx=>nomatch hx⟩;simp[ajx,akr,aks,agU,h3,ae0,akM,ag5,h1,h2,SetTable.below,ad8]
 .have bt:SetTable.bits h<2 ^ 64:=by unfold SetTable.bits;lia
  obtain⟨j,j1,j2⟩:=JA (q:=a.1) h1 h2 h3 (f:=λ_=>h+1) (h:=h) (λ_=>by simp;lia) 13 205 (t.probeStart h) (by simp[agU,h3,akh]) rfl rfl (acX bt (by decide)) (by simp only[agU,h3];lia);refine⟨j,?_,by simpa using j1⟩;unfold ajx akr aks;rw[h3,j2];rfl
 .simp at hl
theorem ic.put(k:ic t L)(hl:L.length<=1)(hj:j∉L.map (·.1))(h:Int)(x:acB) :
 ∃ t' p L',t.put j=(t',p)/\ic t' L'/\agf (L.map (·.2)).toArray p (h,x)=(L'.map (·.2)).toArray/\t'.led=t.led/\t'.plain=t.plain/\t'.fill=L.length+1/\L'.Perm ((j,h,x)::L):=by
 obtain⟨h1,h2,h3,h4⟩:=k;rcases h4 with rfl|⟨a,rfl⟩|⟨a,b,rfl,_⟩
 .refine⟨_,_,[(j,h,x)],rfl,⟨?_,?_,h3,.inr (.inl ⟨_,rfl⟩)⟩,?_,rfl,rfl,?_,.refl _⟩<;>simp[ahH,ag5,agf,h1,h2,SetTable.below,ad8]
 .have hj:j≠a.1:=by simpa using hj
  by_cases z:a.1<j
  .refine⟨_,_,[a,(j,h,x)],rfl,⟨?_,?_,h3,.inr (.inr ⟨_,_,rfl,z⟩)⟩,?_,rfl,rfl,?_,.swap _ _ _⟩<;>simp[ahH,ag5,agf,h1,h2,SetTable.below,ad8,z]
  .refine⟨_,_,[(j,h,x),a],rfl,⟨?_,?_,h3,.inr (.inr ⟨_,_,rfl,show j<a.1 by lia⟩)⟩,?_,rfl,rfl,?_,.refl _⟩<;>simp[ahH,ag5,agf,h1,h2,SetTable.below,ad8,z]
 .simp at hl
end
end Gz
namespace Gz
open PySem PySem.Spec PyProof.Rows L2
theorem JB:Manifest.owners.lookup (String.ofList ['r','o','t','a','r','e','t','i','_','t','e','s'].reverse)=some Manifest.sig_set_iterator:=by kernel_rfl
theorem qw:Slot "set_iterator" "__next__" "set_iterator.__next__" :=
 .of (owner := "set_iterator") (n := "__next__") (by rw[af0,aeQ];kernel_rfl) (by decide +kernel) (by decide +kernel) (by decide +kernel)
  (by first|exact .inl (by decide +kernel)|exact .inr (by decide +kernel)) (by rw[aiF];kernel_rfl)
theorem JC:ag3 table "set_iterator.__next__" = some aeB.«set_iterator.__next__»:=entryFor_of_tree (by kernel_rfl)
theorem JD(a:acB):ahN "set_iterator.__next__" ⟨[a],[]⟩:=by unfold ahN;rw[signature?_of (id := "set_iterator.__next__") (n:=['_','_','t','x','e','n','_','_']) (o:=['r','o','t','a','r','e','t','i','_','t','e','s']) (by kernel_rfl) JB];kernel_rfl
theorem T4:ag3 table "set.__iter__" = some aeB.«frozenset.__iter__» :=
 entryFor_alias (id' := "frozenset.__iter__") (by kernel_rfl) (by first|rfl|decide +kernel) (by decide +kernel) (by kernel_rfl)
section
theorem T5(hT:s.TypeIs (.ref d) "set")(q:Q false s):acQ (model prog w) A (afq (.ref d)) Q E s:=by
 unfold afq;refine acq (afo hT PySem.F.slot_set_len.lookup ?_);generalize hid:("set.__len__" : String)=T6
 wp_delta
 rw[show splitId T6=some ("set","__len__") from by subst hid;decide +kernel];subst hid;refine acq (afa (T := "set") (b:=true) hT (by rw[aiF];kernel_rfl) ?_);refine af1 (λgj=>absurd gj (by decide)) (λ_=>?_);refine af1 (λ_=>?_) (λgj=>absurd (by decide +kernel) gj);refine acq (ajH hT ?_);exact acw q
theorem JE:adj "set" = some (.type "set"):=by decide +kernel
end
def jB(h:aeV)(a:acF)(p:P2):Prop:=∃ o t u n,h.get? a=some o/\o.cls = .type "tuple" /\ o.data = .seq #[.int p.1 t,.int p.2 u] n
theorem jB.keep(x:jB h a p)(k:∀ o,h.get? a=some o->h'.get? a=some o):jB h' a p:=let ⟨o,t,u,n,e,r⟩:=x;⟨o,t,u,n,k o e,r⟩
section
theorem JF(h:Q (.bool (decide (x<y))) s):acQ (model prog w) A (agM .Lt (.int x t) (.int y u)) Q E s :=
 richCompare_gives (op:=.Lt) (aky s _ t) (aky s _ u) PySem.F.slot_int_lt PySem.F.entry_int_lt (PySem.F.args_int_lt_2 _ _) (gives_int_lt _ _ t u) (λx=>nomatch x) h
theorem xk(ha:jB s.heap a p)(hb:jB s.heap b q)(hu:A.units<agB)(h:Q (.bool (fQ p q)) s):acQ (model prog w) A (agM .Lt (.ref a) (.ref b)) Q E s:=by
 obtain⟨oa,t1,u1,n1,tF,hca,hda⟩:=ha;obtain⟨ob,t2,u2,n2,hob,hcb,fA⟩:=hb;have Ta:s.TypeIs (.ref a) "tuple" := ⟨oa,tF,hca⟩;have Tb:s.TypeIs (.ref b) "tuple" := ⟨ob,hob,hcb⟩;refine wpAny_richCompare_same_room Ta Tb agn (adX agn Ta ahV ?_ (ahz _ _)) hu;show acQ _ _ (isInstance (.ref b) (.type "tuple") >>= _) _ _ s;refine acq (afa Tb isSubtype_tuple_tuple ?_);simp only[agE,ac2,if_false];refine acq (ajd tF hda ?_);refine acq (ajd hob fA ?_);refine acq ?_;refine ahM _ (λrest r s'=>r.1=none/\s'=s/\(rest=[(.int p.1 t1,.int q.1 t2),(.int p.2 u1,.int q.2 u2)]∨(rest=[(.int p.2 u1,.int q.2 u2)]/\p.1=q.1)∨(rest=[]/\p.1=q.1/\p.2=q.2))) _ ?_ ?_ _ _ ⟨rfl,rfl,.inl rfl⟩
 .rintro ⟨u,v⟩ rest r s' ⟨hr,rfl,hz⟩;rcases hz with hz|⟨hz,e1⟩|⟨hz,_⟩
  .cases hz;refine acq (ahK ?_);by_cases e:p.1=q.1
   .rw[show (p.1 == q.1)=true by simpa using e];simp only[agE,ac2,if_false];exact acw ⟨rfl,rfl,.inr (.inl ⟨trivial,e⟩)⟩
   .rw[show (p.1 == q.1)=false by simpa using e];simp only[akt,if_true];refine acq (afP (acq (JF (acq (acw (acw (acw ⟨_,rfl,λz=>(nomatch z),?_⟩)))))));have e2:fQ p q=decide (p.1<q.1):=by unfold fQ;rw[decide_eq_false e];simp
    rw[<- e2];exact h
  .cases hz;refine acq (ahK ?_);by_cases e:p.2=q.2
   .rw[show (p.2 == q.2)=true by simpa using e];simp only[agE,ac2,if_false];exact acw ⟨rfl,rfl,.inr (.inr ⟨trivial,e1,e⟩)⟩
   .rw[show (p.2 == q.2)=false by simpa using e];simp only[akt,if_true];refine acq (afP (acq (JF (acq (acw (acw (acw ⟨_,rfl,λz=>(nomatch z),?_⟩)))))));have e2:fQ p q=decide (p.2<q.2):=by unfold fQ;rw[e1];simp
    rw[<- e2];exact h
  .cases hz
 .rintro ⟨r1,r2⟩ s' ⟨hr,rfl,hz⟩;simp only at hr;subst hr;rcases hz with hz|⟨hz,_⟩|⟨_,e1,e2⟩
  .cases hz
  .cases hz
  .refine acw ⟨_,rfl,λz=>(nomatch z),?_⟩;have e3:fQ p q=false:=by unfold fQ;rw[e1,e2];simp
   rw[e3] at h;exact h
theorem T7(hh:A.handled=none)(ha:jB s.heap a p)(hb:jB s.heap b q)(hu:A.in1.units<agB)(h:∀ h' tk,(∀ c o,s.heap.get? c=some o->h'.get? c=some o)->Q (.ref (if fQ q p=true then b else a)) { s with heap:=h',toks:=tk }):acQ (model prog w) A (call (.builtin "min") [.ref a,.ref b]) Q E s:=by
 have nm:(toString "min" ++ toString ".loop" : String) = "min.loop" := by decide
 refine call_function_tree ajN ajq ajr (PySem.F.args_min2 _ _) ?_;show acQ _ A.in1 (aeE "min" ["key","default"] 0 ⟨[],[]⟩ >>= _) _ _ s;refine acq (ahB (show aeE "min" ["key","default"] 0 ⟨[],[]⟩=pure [none,none] from rfl) ?_);show acQ _ A.in1 (akJ [.ref a,.ref b] >>= _) _ _ s;refine acq (adP ?_);have hT:(s.heap.push { cls:=.type "tuple",data:=.seq #[.ref a,.ref b] }).IsTuple s.heap.objs.size #[.ref a,.ref b]:=⟨_,acG _ rfl,rfl,0,rfl⟩
 refine acq (aiZ hT ?_);show acQ _ A.in1 (ala [] >>= _) _ _ _;refine acq (adP ?_);generalize e1:s.heap.push { cls:=.type "tuple",data:=.seq #[.ref a,.ref b] }=h1 at hT;have z1:h1.objs.size=s.heap.objs.size+1:=by rw[<- e1];exact afc ..
 have k1:∀ c o,s.heap.get? c=some o->h1.get? c=some o:=λc o e=>by rw[<- e1];exact acx _ e
 dsimp only;generalize e2:h1.push { cls:=.type "tuple_iterator",data:=.fields #[.ref s.heap.objs.size,.int 0 0] }=h2;have z2:h2.objs.size=h1.objs.size+1:=by rw[<- e2];exact afc ..
 have k2:∀ c o,h1.get? c=some o->h2.get? c=some o:=λc o e=>by rw[<- e2];exact acx _ e
 have W:=Walks.tuple (prog:=prog) (w:=w) (A:=A.in1) hh h1.objs.size s.heap.objs.size (by rw[z1];exact acO (ae8 _)) #[.ref a,.ref b];have zT:h2.IsTupleIter h1.objs.size s.heap.objs.size 0/\h2.IsTuple s.heap.objs.size #[.ref a,.ref b]:=⟨⟨_,by rw[<- e2];exact acG _ rfl,rfl,rfl⟩,by rw[<- e2];exact hT.push _⟩
 have zs:h2.objs.size∉[h1.objs.size,s.heap.objs.size]:=λz=>by
  simp only[acL,aeK,or_false] at z;rcases z with z|z
  .rw[z2] at z;exact ajQ _ z
  .rw[z2,z1] at z;exact absurd z (by intro z;have:s.heap.objs.size<s.heap.objs.size+1+1:=afv (ae8 _);rw[z] at this;exact ad4 _ this)
 have nS:h2.objs.size∉[h1.objs.size]:=λz=>zs (by simp at z;simp[z]);have up:∀ c o,s.heap.get? c=some o->c∉[h1.objs.size]/\c≠h2.objs.size/\(h2.push { cls:=.type "list",data:=.seq #[] }).get? c=some o:=λc o e=>by have l1:=acy (k1 c o e);have l2:=acy (k2 c o (k1 c o e));exact⟨λz=>by simp at z;rw[z] at l1;exact ad4 _ l1,acO l2,acx _ (k2 c o (k1 c o e))⟩
 let G:aeV->Prop:=λh=>jB h a p/\jB h b q;have bS:∀ (x:acF) (r:P2),jB s.heap x r->x∉[h1.objs.size]/\x≠h2.objs.size:=λx r hx=>by obtain⟨o,_,_,_,e,_⟩:=hx;exact⟨(up x o e).1,(up x o e).2.1⟩
 have hG:∀ h h',G h->(∀ b o,b∉[h1.objs.size]->b≠h2.objs.size->h.get? b=some o->h'.get? b=some o)->G h':=λh h' g k=>⟨g.1.keep λo e=>k a o (bS a p ha).1 (bS a p ha).2 e,g.2.keep λo e=>k b o (bS b q hb).1 (bS b q hb).2 e⟩
 let bt:Nat->Nat->Bool:=λi j=>fQ (if i=0 then p else q) (if j=0 then p else q);have JG:∀ i v,(#[ac3 a,ac3 b]:Array acB)[i]?=some v->(i=0/\v = .ref a)∨(i=1/\v = .ref b):=λi v e=>by
  match i,e with
  | 0,e=>cases e;exact .inl ⟨rfl,rfl⟩
  | 1,e=>cases e;exact .inr ⟨rfl,rfl⟩
  | i+2,e=>simp at e
 have sO:∀ i j vi vj (s:acI) (Q:acB->acI->Prop) (E:acB->acI->Prop),(#[ac3 a,ac3 b]:Array acB)[i]?=some vi->(#[ac3 a,ac3 b]:Array acB)[j]?=some vj->G s.heap->Q (.bool (bt i j)) s->acQ (model prog w) A.in1 (agM .Lt vi vj) Q E s:=by
  intro i j vi vj s Q E ei ej g hq;rcases JG i vi ei with ⟨rfl,rfl⟩|⟨rfl,rfl⟩<;>rcases JG j vj ej with ⟨rfl,rfl⟩|⟨rfl,rfl⟩
  .exact xk g.1 g.1 hu hq
  .exact xk g.1 g.2 hu hq
  .exact xk g.2 g.1 hu hq
  .exact xk g.2 g.2 hu hq
 have g0:G (h2.push { cls:=.type "list",data:=.seq #[] }):=⟨ha.keep λo e=>(up a o e).2.2,hb.keep λo e=>(up b o e).2.2⟩
 have oS:(h2.push { cls:=.type "list",data:=.seq #[] }).get? h2.objs.size=some { cls:=.type "list",dict:=none,data:=.seq #[] 0,slots:=#[] }:=acG _ rfl;have pS:=W.frame 0 h2 (h2.push { cls:=.type "list",data:=.seq #[] }) zT λb _ o q=>acx _ q;rw[nm];refine acw ⟨aet aeJ _,?_⟩;refine adM af5 ?_;rw[adq aeJ _];show acQ _ A.in1 (ai5 (.ref h2.objs.size) >>= _) _ _ _;refine acq (afA oS rfl ?_);show acQ _ A.in1 (tryCatch (afj (.ref h1.objs.size)) _ >>= _) _ _ _;refine acq (afB (W.item 0 _ _ _ (by simp) pS λv h3 tk pv hJ kp=>?_));have jy:=kp _ _ nS oS;show acQ _ A.in1 (ahq h2.objs.size (λ_=>#[v,v]) >>= _) _ _ _;refine acq ?_;refine aeD jy rfl ?_;rw[nm];have g3:G h3:=hG _ _ g0 λb o hw _ e=>kp b o hw e;refine acw ⟨aet aeJ _,(Hj (by decide) af5 aeJ) W hG sO zs 1 0 _ v _ (by simp) (W.frame _ _ _ hJ λb hf o e=>?_) (hG _ _ g3 λb o _ md e=>(acS _ _ (ady md)).trans e) pv (adh _ jy rfl) λv2 h4 T8 p4 k4=>?_⟩
 .exact (acS _ _ (λz:h2.objs.size=b=>zs (by rw[z];exact hf))).trans e
 .have ev:v2 = .ref (if fQ q p=true then b else a):=by
   have e4:(#[ac3 a,ac3 b]:Array acB)[agO bt 1]?=some v2:=by simpa using p4
   have Ay:agO bt 1=if fQ q p=true then 1 else 0:=by show (if bt 1 0 then 1 else 0)=_;rfl
   rw[Ay] at e4;by_cases hl:fQ q p=true
   .rw[if_pos hl] at e4 ⊢;cases e4;rfl
   .rw[if_neg hl] at e4 ⊢;cases e4;rfl
  subst ev;refine h h4 T8 λc o e=>?_;obtain⟨u1,u2,u3⟩:=up c o e;exact k4 c o u1 u2 ((acS _ _ (ady u2)).trans (kp c o u1 u3))
def JH(H:Hp)(Q:VK)(xs:List V):Prop:=∃ (a b:acF) (p q:P2),xs=[.ref a,.ref b]/\H a=some (.tup [.int p.1,.int p.2])/\H b=some (.tup [.int q.1,.int q.2])/\Q (.ref (if fQ q p=true then b else a)) H
theorem T9(hc:X.calm=true)(hu:X.A.units+1<agB):eR X (.builtin "min") (λxs H Q=>JH H Q xs):=by
 intro pins s σ H xs us Q I r h;obtain⟨a,b,p,q,rfl,ha,hb,hq⟩:=h;obtain⟨u,v,rfl,ru,rv⟩:=vals2 r;cases ru;cases rv;have pr:∀ (x:acF) (r:P2),H x=some (.tup [.int r.1,.int r.2])->jB s.heap x r:=λx r hx=>by
  obtain⟨_,ao,hv,hi⟩:=(show bN X.prog X.w H s.heap x (.tup [.int r.1,.int r.2]) from I.ay x _ hx)
  obtain⟨u1,u2,rfl,⟨t1,rfl⟩,⟨t2,rfl⟩⟩:=vals2 hv;obtain⟨o,ho,bq,n,hd⟩:=hi;exact⟨o,t1,t2,n,ho,bq,hd⟩
 exact T7 (I.ok.hd hc) (pr a p ha) (pr b q hb) (show X.A.units+1<agB from hu) λh' tk k=>⟨.ref _,H,I.kept k,rfl,hq⟩
end
local macro_rules | `(tactic| walk_at "o") => `(tactic| ((try simp only [PySem.Addr] at *); lia))
section
end
section
def JI(vs:List acB)(kis:List (List Int))(i:Nat):Prop:=∃ x t,vs[i]?=some (.int x t)/\kis.getD i []=[x]
theorem Ua(hk:∀ i,i<vs.length->JI vs kis i):wV prog w h vs kis:=λh2=>by
 refine⟨oneType',λA E s e=>⟨λQ q=>PySem.W.kas_kind (T:=.type "int") h2 (λv hv=>?_) (by decide) (by decide) q,λi j hi hj C q=>?_⟩⟩
 .obtain⟨i,hi,rfl⟩:=aiR hv;obtain⟨x,tt,e,_⟩:=hk i hi;rw[acv hi] at e;rw[Option.some.inj e];exact PySem.W.Looks.now
 .obtain⟨x1,t1,a1,l1⟩:=hk i hi;obtain⟨x2,t2,a2,l2⟩:=hk j hj;rw[acu,acu,a1,a2];refine PySem.W.kat_lt_int (cast (congrArg (λb=>C b s) ?_) q);unfold c9;rw[l1,l2,HT.nR];by_cases e:x1=x2
  .rw[if_pos e,e];simp[HT.lexLt]
  .rw[if_neg e]
theorem Ub(hl:kis.length=vs.length)(fF:vs.length<64)(hk:∀ i,i<vs.length->JI vs kis i)(sZ:∀ (A':aeb) (Q':List acB->acI->Prop) (E':acB->acI->Prop),A'.handled=A.handled->(∀ h' tk,(∀ b o,s.heap.get? b=some o->h'.get? b=some o)->s.heap.objs.size<=h'.objs.size->Q' vs { s with heap:=h',toks:=tk })->acQ (model prog w) A' (collect (.ref r)) Q' E' s)(q:∀ l h' tk,s.heap.objs.size<=l->(∀ b o,s.heap.get? b=some o->h'.get? b=some o)->(∃ c,h'.get? l=some (afi "list" (aeO ((cX (c9 kis) vs.length).toList.map λi=>vs.getD i Value.none)) c))->Q (.ref l) { s with heap:=h',toks:=tk }) :
 acQ (model prog w) A (call (.builtin "sorted") [.ref r]) Q E s:=II hl fF (λg _=>Ua hk) sZ q
end
noncomputable def ox(w:ad2):Bool:=!(w.params.followText "set-order")
section
noncomputable abbrev jC(w:ad2):Obj:={ cls:=.type "set",dict:=none,data:=.set #[] 0 (.fresh 0 0 (ox w)) }
theorem Uc(a:acB)(h:Q₁ (.ref s.heap.objs.size) { s with heap:=s.heap.push (jC w) }) :
 afH (model prog w) A (.call (.builtin "set.__new__") ⟨[.type "set",a],[]⟩) (wants Q₁ E) s:=by
 refine aki (show acQ _ A.in1 (do ajM "set.__new__" ⟨[.type "set",a],[]⟩;again (.builtin "set.__new__" ⟨[.type "set",a],[]⟩)) _ _ s from ?_);refine acq (ahB (PySem.F.newCall_set_1 a) (acw ⟨aet aii _,adM PySem.F.entry_set_new ?_⟩));rw[adq aii _];unfold aeB.«set.__new__» Builtin.Frozenset.newClass;have mx:=PySem.sub_set_self;obtain⟨hp,g,d,tk,os⟩:=s;dsimp only;wp_walk;refine afF (acw ?_);dsimp only;simp only[newObj];exact acq (wpAny_alloc (acw (acw h)))
theorem Ud{h:aeV}{S:acF}{o:Obj}{es es':Array (Int × acB)}{ep:Nat}{t t':akL}(g1:h.get? S=some o)(g3:o.data = .set es ep t) :
 (h.update S (akD es' t')).get? S=some { o with data:=.set es' (ep+1) t' }:=by
 have:=adh (akD es' t') g1 (by rw[putSet_of es' t' g3];rfl);rw[putSet_of es' t' g3] at this;exact this
theorem JJ:∀ {xs:List α} {l:List β},l.Perm (xs.map f)->∃ ys:List α,l=ys.map f/\ys.Perm xs:=by
 intro xs l h;generalize hz:xs.map f=z at h
 induction h generalizing xs with
 | nil=>exact⟨[],rfl,by cases xs with|nil=>exact .nil|cons=>cases hz⟩
 | @cons a l1 l2 p ih =>
  cases xs with
  | nil=>cases hz
  | cons x xs =>
   obtain⟨e1,e2⟩:=List.cons.inj hz;obtain⟨ys,rfl,q⟩:=ih e2;exact⟨x::ys,by rw[<- e1];rfl,q.cons x⟩
 | swap a b l =>
  cases xs with
  | nil=>cases hz
  | cons x xs =>
   cases xs with
   | nil=>simp at hz
   | cons y xs =>
    simp only[acN,List.cons.injEq] at hz;obtain⟨e1,e2,e3⟩:=hz;exact⟨y::x::xs,by simp[e1,e2,e3],.swap x y xs⟩
 | trans p q z9 Aa =>
  obtain⟨ys,e,r⟩:=Aa hz;obtain⟨zs,e',r'⟩:=z9 e.symm;exact⟨zs,e',r'.trans r⟩
end
theorem JK:Slot "set_iterator" "__iter__" "set_iterator.__iter__" :=
 .of (owner := "set_iterator") (n := "__iter__") (by rw[af0,aeQ];kernel_rfl) (by decide +kernel) (by decide +kernel) (by decide +kernel)
  (by first|exact .inl (by decide +kernel)|exact .inr (by decide +kernel)) (by rw[aiF];kernel_rfl)
theorem Ue:ag3 table "set_iterator.__iter__" = some aeB.«dict_keyiterator.__iter__» :=
 entryFor_alias (id' := "dict_keyiterator.__iter__") (by kernel_rfl) (by first|rfl|decide +kernel) (by decide +kernel) (by kernel_rfl)
theorem Ug(a:acB):ahN "set_iterator.__iter__" ⟨[a],[]⟩:=by unfold ahN;rw[signature?_of (id := "set_iterator.__iter__") (n:=['_','_','r','e','t','i','_','_']) (o:=['r','o','t','a','r','e','t','i','_','t','e','s']) (by kernel_rfl) JB];kernel_rfl
theorem JL(f:Nat->Nat):∀ (n k:Nat) (left:List α) (out:Array α),left.length=n->(pickOrder.go f n k left out).toList.Perm (out.toList++left)
 | 0,k,left,out,h=>by obtain rfl:left=[]:=aeu.mp h;unfold pickOrder.go;simp
 | n+1,k,left,out,h=>by have hl:f k % left.length<left.length:=Nat.mod_lt _ (by lia);unfold pickOrder.go;rw[acv hl];refine (JL f n (k+1) _ _ (by rw[List.length_eraseIdx_of_lt hl];lia)).trans ?_;rw[ajy,ajs];refine List.Perm.append_left _ ?_;have:=List.perm_middle (a:=left[f k % left.length]) (l₁:=left.take (f k % left.length)) (l₂:=left.drop (f k % left.length+1));rw[List.eraseIdx_eq_take_drop_succ];refine .trans ?_ (.of_eq (aeR (f k % left.length) left));rw[adQ hl];exact this.symm
theorem Uh(f:Nat->Nat)(xs:Array α):(ak1 f xs).toList.Perm xs.toList:=by unfold ak1;simpa using JL f xs.size 0 xs.toList #[] (by simp)
section
noncomputable def jD(w:ad2)(S:acF)(ep:Nat)(es:Array (Int × acB)):Array (Int × acB):=if w.params.followText "set-order" then ak1 (w.params.setOrder S ep) es else es
theorem AR(w:ad2)(S:acF)(ep:Nat)(es:Array (Int × acB)):(jD w S ep es).toList.Perm es.toList:=by
 unfold jD;split
 .exact Uh _ _
 .exact .refl _
structure qx(w:ad2)(S:acF)(o:Obj)(ep:Nat)(t:akL)(L:List (Nat × Int × acB)):Prop where
 cls:o.cls = .type "set"
 dat:o.data = .set (L.map (·.2)).toArray ep t
 tok:ic t L
 led:t.led=ox w
 pln:t.plain=true
theorem Ui(x:qx w S o ep t L)(h:s.heap.get? S=some o)(q:Q false s):acQ (model prog w) A (setDrawn S) Q E s:=by unfold setDrawn akE;refine acq (agg h x.dat x.tok.fits ?_);dsimp only;refine acq (acq (afF (acw (acw ?_))));refine cast (congrArg (λb=>Q b s) ?_) q;symm;rw[aih];right;show (!t.plain && _)=false;rw[x.pln];rfl
noncomputable abbrev AS(S:acF)(n ep:Nat)(sl i:Int):Obj:={ cls:=.type "set_iterator",data:=.fields #[af4 sl,af4 i,.ref S,af4 n,af4 ep] }
theorem Uj(x:qx w S o ep t L)(h:s.heap.get? S=some o)(hQ:Q (.ref s.heap.objs.size) { s with heap:=s.heap.push (AS S L.length ep 0 0) }):acQ (model prog w) A (akU (.ref S)) Q E s:=by have hT:s.TypeIs (.ref S) "set" := ⟨o,h,x.cls⟩;refine ahs hT akj (adX akj hT T4 ?_ (F.args_set_iter_1 _));unfold aeB.«frozenset.__iter__»;refine acq (m:=Builtin.Frozenset.slot0 _ _) (acw ?_);refine acq (m:=Builtin.Frozenset.sizeOf _) (acq (agV h x.dat x.tok.fits (acw ?_)));refine acq (Ui x h ?_);simp only[ac2,if_false];refine acq (acw ?_);refine acq (wpAny_setEpoch_of h x.dat x.tok.fits ?_);refine acq (adP (acw ⟨_,rfl,"set_iterator",_,⟨_,acG _ rfl,rfl⟩,qw.lookup,?_⟩));refine cast (congrArg (λb=>Q _ { s with heap:=s.heap.push b }) ?_) hQ;simp[AS]
theorem JM(x:qx w S o ep t L)(h:s.heap.get? S=some o)(hb:w.params.followText "set-order" = false->SetTable.below t.place sl=i)(q:∀ ft,(w.params.followText "set-order" = false->i<L.length->SetTable.below t.place ft=i+1)->Q (((jD w S ep (L.map (·.2)).toArray)[i]?).map λe=>(e.2,ft)) s):acQ (model prog w) A (alb S sl i ep) Q E s:=by
 unfold alb akE;refine acq (agg h x.dat x.tok.fits ?_);dsimp only;refine acq (acq (afF (acw ?_)));unfold jD at q;cases hf:w.params.followText "set-order" with
 | true =>
  simp only[hf,if_true] at q;rw[if_pos (show (model prog w).w.params.followText "set-order" = true from hf),if_neg (by simp)];unfold setWalk akE;refine acq (acq (agg h x.dat x.tok.fits ?_));refine acq (acq (afF (acw ?_)));rw[if_pos (show (model prog w).w.params.followText "set-order" = true from hf)];exact acq (afF (acw (acw (q sl (λhz=>nomatch hz)))))
 | false =>
  simp only[hf,ac2,if_false] at q;rw[if_neg (show ¬ (model prog w).w.params.followText "set-order" = true from by rw[show (model prog w).w.params.followText "set-order" = false from hf];decide)];refine af1 (λz=>absurd (show (!t.plain && _)=true from z) (by rw[x.pln];simp)) (λ_=>?_);have hl:t.led=true:=by rw[x.led];unfold ox;rw[hf];rfl
  refine acq ?_;show acQ _ _ (if (!t.led && !(L.map (·.2)).toArray.isEmpty)=true then _ else pure _) _ _ _;rw[if_neg (by rw[hl];simp)];refine acw (acw ?_);rw[hb hf];by_cases hi:i<L.length
  .have e1:(L.map (·.2)).toArray[i]?=some L[i].2:=by simp[hi]
   have e2:t.place[i]?=some L[i].1:=by rw[x.tok.pl];simp[hi]
   have:=q (L[i].1+1) λ_ _=>x.tok.next hi
   rw[e1] at this ⊢;rw[e2];exact this
  .have e1:(L.map (·.2)).toArray[i]?=none:=by simp;lia
   have:=q 0 λ_ hz=>absurd hz hi;rw[e1] at this ⊢;exact this
theorem Uk(hh:A.handled=none)(x:qx w S o ep t L)(bV:S≠I):Walks prog w A I [I,S] [I] L.length (λi v=>((jD w S ep (L.map (·.2)).toArray)[i]?).map (·.2)=some v)
 (λi h=>h.get? S=some o/\∃ sl:Nat,h.get? I=some (AS S L.length ep sl i)/\(w.params.followText "set-order" = false->SetTable.below t.place sl=i)) where
 sub:=λb hb=>by simp at hb;simp[hb]
 frame:=λ_ _ _ st hk=>⟨hk S (by simp) _ st.1,let ⟨sl,a,b⟩:=st.2;⟨sl,hk I (by simp) _ a,b⟩⟩
 item:=λi s Q E hi st hQ=>by
  obtain⟨h1,sl,hI,hb⟩:=st;have hT:s.TypeIs (.ref I) "set_iterator" := ⟨_,hI,rfl⟩;have hlen:(jD w S ep (L.map (·.2)).toArray).size=L.length:=by have:=(AR w S ep (L.map (·.2)).toArray).length_eq;simpa using this
  have cW:i<(jD w S ep (L.map (·.2)).toArray).size:=by lia
  unfold afj;refine acq (afZ (ad1 (name:=adS "__next__") hT qw
   (adX qw hT JC ?_ (JD _))))
  unfold aeB.«set_iterator.__next__»;refine acq (acw (acq (afD hI rfl ?_)));show acQ _ _ (setEntries S >>= _) _ _ _;refine acq (agV h1 x.dat x.tok.fits ?_);refine af1 (λz=>absurd z (by simp)) (λ_=>?_);show acQ _ _ (alb S (aij (sl:Int)) (aij (i:Int)) (aij (ep:Int)) >>= _) _ _ _;rw[adt,adt,adt];refine acq (JM x h1 hb λft dw=>?_);rw[adi cW];dsimp only [Option.map_some];refine acq (agi hI rfl (by simp) ?_);have JN:=adh (aft (·.setIfInBounds 0 (af4 (ft:Int)))) hI rfl;refine acq (agi JN rfl (by simp[aft]) ?_);have Ul:=adh (aft (·.setIfInBounds 1 (af4 ((i:Int)+1)))) JN rfl;have JO:∀ (b:acF) (u:Obj),b≠I->s.heap.get? b=some u->((s.heap.update I (aft (·.setIfInBounds 0 (af4 (ft:Int))))).update I (aft (·.setIfInBounds 1 (af4 ((i:Int)+1))))).get? b=some u:=λb u hb e =>
   (acS _ _ (ady hb)).trans ((acS _ _ (ady hb)).trans e)
  refine acw ⟨_,rfl,acw (hQ _ _ s.toks (by rw[adi cW];rfl) ⟨JO S o bV h1,ft,Ul,λhf=>dw hf hi⟩ λb u hb e=>JO b u (by simpa using hb) e)⟩
 done:=λs Q E st hQ=>by
  obtain⟨h1,sl,hI,hb⟩:=st;have hT:s.TypeIs (.ref I) "set_iterator" := ⟨_,hI,rfl⟩;have hlen:(jD w S ep (L.map (·.2)).toArray).size=L.length:=by have:=(AR w S ep (L.map (·.2)).toArray).length_eq;simpa using this
  unfold afj;refine acq (afZ (ad1 (name:=adS "__next__") hT qw
   (adX qw hT JC ?_ (JD _))))
  unfold aeB.«set_iterator.__next__»;refine acq (acw (acq (afD hI rfl ?_)));show acQ _ _ (setEntries S >>= _) _ _ _;refine acq (agV h1 x.dat x.tok.fits ?_);refine af1 (λz=>absurd z (by simp)) (λ_=>?_);show acQ _ _ (alb S (aij (sl:Int)) (aij (L.length:Int)) (aij (ep:Int)) >>= _) _ _ _;rw[adt,adt,adt];refine acq (JM x h1 hb λft dw=>?_);rw[aff (by lia)];show acQ _ _ (ajS (.ref I) 2 .none >>= _) _ _ s;refine acq (agi hI rfl (by simp) ?_);show acQ _ _ (newExc (.type "StopIteration") [] >>= _) _ _ _;refine acq ?_;simp only[newExc,akJ];refine acq (adP ?_ (by size_fits));refine acq (m:=ahe _ _) (ahB (a:=Value.none) (by first|rfl|(simp only[ahe];rfl)) ?_);refine adP ?_ (by size_fits);simp only[raiseNew];refine acq (wpAny_handled ?_);rw[show A.in1.handled=none from hh];refine acq (acw (wpAny_throw ?_));refine acq (afa (T := "StopIteration") (b:=true) ⟨_,acG _ rfl,rfl⟩ aiD ?_);refine acw (hQ _ s.toks λb u hb e=>(((adG ..).extBut.push _).push _) b u (by simpa using hb) e)
 self:=λ_ s _ _ st hQ=>by obtain⟨h1,sl,hI,hb⟩:=st;have hT:s.TypeIs (.ref I) "set_iterator" := ⟨_,hI,rfl⟩;refine ahs hT JK (adX JK hT Ue ?_ (Ug _));show acQ _ _ (ret (.ref I)) _ _ s;exact acw ⟨_,rfl,"set_iterator",_,hT,qw.lookup,hQ⟩
theorem Um(x:qx w S o ep t L):aiE prog w "set" S S L.length (λi v=>((jD w S ep (L.map (·.2)).toArray)[i]?).map (·.2)=some v) (λh=>h.get? S=some o) where
 type:=λ_ h=>⟨o,h,x.cls⟩
 there:=λ_ h=>⟨acy h,acy h⟩
 keep:=λ_ _ h hk=>hk S (.inl rfl) o h
 notList:=by decide
 notTuple:=by decide
 hint:=λ_ _ _ _ h hq=>T5 ⟨o,h,x.cls⟩ hq
 iter:=λ_ _ hh h=>⟨_,_,(λ_ _ hq=>Uj x h hq),Uk hh x (acO (acy h)),
  ⟨acx _ h,0,acG _ rfl,λ_=>x.tok.zero⟩⟩
noncomputable abbrev lz(m:Int × agW):Int × acB:=(ahy m.1,.int m.1 m.2)
def lA(h:aeV)(S:acF)(M:List (Int × agW))(led:Bool):Prop :=
 ∃ o ep t L,h.get? S=some o/\o.cls = .type "set" /\ o.data = .set (L.map (·.2)).toArray ep t/\ic t L/\t.led=led/\t.plain=true/\L.map (·.2)=M.map lz
theorem Uo(prog:adn)(w:ad2){M:List (Int × agW)}:ElemsOf (agv prog w) (M.map lz):=λe he=>by obtain⟨m,_,rfl⟩:=acE.mp he;exact⟨⟨m.1,by simp[agv,af8],rfl⟩,rfl⟩
theorem add_int(hS:lA s.heap S M led)(hlen:M.length<2)(h0:k∈M.map (·.1)->Q false s)(h1:k∉M.map (·.1)->∀ h' M',Heap.SameBut S s.heap h'->lA h' S M' led->M'.Perm ((k,tt)::M)->Q true { s with heap:=h' }) :
 acQ (model prog w) A (setAddHashed S (.int k tt) (ahy k)) Q E s:=by
 obtain⟨o,ep,t,L,g1,g2,g3,tk,g4,g5,g7⟩:=hS;have hlM:L.length=M.length:=by have:=congrArg List.length g7;simpa using this
 have tG:ElemsOf (agv prog w) (L.map (·.2)).toArray.toList:=by rw[agX,g7];exact Uo prog w
 unfold setAddHashed setAddHashedIn;refine adY (acq (agg g1 g3 tk.fits ?_));dsimp only;rw[byScan_of (knd:=agv prog w) rfl (by rw[acK,acs];unfold scanBound;lia) tG];simp only[if_true];unfold setAddByScan;refine acq (acq (afP ?_));refine acq (wpAny_setScan_of (knd:=agv prog w) (k:=k) (by simp[agv,af8]) g1 g3 tk.fits tG ?_);rw[agX,g7];by_cases bU:k∈M.map (·.1)
 .obtain⟨m,hm,hmk⟩:=acE.mp bU;cases hf:akN (λe=>(agv prog w).is k e.2) (M.map lz) with
  | none =>
   have:=ahg.mp hf (lz m) (acE.mpr ⟨m,hm,rfl⟩);rw[<- hmk] at this;simp[agv,af8] at this
  | some j =>
   dsimp only;exact acw (acw (h0 bU))
 .have hf:akN (λe=>(agv prog w).is k e.2) (M.map lz)=none:=by refine ahg.mpr λe he=>?_;obtain⟨m,hm,rfl⟩:=acE.mp he;simp only[agv,af8];exact beq_eq_false_iff_ne.mpr λz=>bU (acE.mpr ⟨m,hm,z⟩)
  rw[hf];dsimp only;obtain⟨j,j0,j1⟩:=tk.free (by lia) (ahy k);obtain⟨t',p,L',p1,p2,p3,p5,p6,p7,hperm⟩:=tk.put (by lia) j1 (ahy k) (aeU k tt);have Up:layNew t (M.map lz).toArray (ahy k) (.int k tt)=((L'.map (·.2)).toArray,t',false,false):=by rw[<- g7];unfold layNew;rw[j0];dsimp only;rw[p1,p3];have:=p2.fits;unfold SetTable.orStandIn;rw[this];rfl
  rw[Up];dsimp only;refine acq ?_;show acQ _ _ (pure ()) _ _ _;refine acw ?_;rw[p6,g5];simp only[if_true];refine acq ?_;rw[hashByValue_scannable 8 (show (aeU k tt).scannable=true from rfl)];refine acw ?_;rw[show plainKind (aeU k tt)=true from rfl];simp only[if_true];have hsz:(L'.map (·.2)).toArray.size<=acV:=by have:=hperm.length_eq;simp at this ⊢;rw[this];exact acA (show _<=64 by lia) (by decide)
  refine acq (wpAny_storeSet_of g1 g3 ?_ hsz);have gS:=Ud (es':=(L'.map (·.2)).toArray) (t':=t') g1 g3;have Uq:=adG s.heap S (akD (L'.map (·.2)).toArray t');have qz:(L'.map (·.2)).Perm (((k,tt)::M).map lz):=by refine (hperm.map (·.2)).trans ?_;simp only[acN,g7];exact .refl _
  have Ur:t'.tooFull=false:=by unfold SetTable.tooFull;rw[p7,p2.ma];simp;lia
  rw[Ur];simp only[aiB,ac2,if_false];obtain⟨M',e1,e2⟩:=JJ qz;exact acw (acw (h1 bU _ M' Uq ⟨_,_,t',_,gS,g2,rfl,p2,p5.trans g4,p6.trans g5,e1⟩ e2))
def tH(key:Nat->Int)(i:Nat)(M:List (Int × agW)):Prop :=
 (M.map (·.1)).Nodup/\(∀ m∈M,∃ j,j<i/\m.1=key j)/\(∀ j,j<i->key j∈M.map (·.1))/\M.length<=i
theorem Us(e:h.get? S=some (jC w)):lA h S [] (ox w) :=
 ⟨_,0,_,([]:List (Nat × Int × acB)),e,rfl,rfl,⟨rfl,rfl,rfl,.inl rfl⟩,rfl,rfl,rfl⟩
theorem Ut{R:ajB->acI->Prop}{I:acF}{fp wr:List acF}{G:Array GenState->Array GenState->Prop}{n:Nat}{P:Nat->acB->Prop}{St:Nat->acI->Prop}(W:WalksS prog w A.in1 I fp wr G n P St)(S:acF)(pU:S∉fp){key:Nat->Int}{led:Bool}(Uu:∀ i v,P i v->∃ tt,v = .int (key i) tt)(hn:n<=2) :
 ∀ (k i:Nat) (s:acI) (M:List (Int × agW)),n-i=k->i<=n->St i s->lA s.heap S M led->tH key i M ->
  (∀ s' M',Moved (S::wr) G s s'->lA s'.heap S M' led->tH key n M'->R (.ok (.ret .none)) s') ->
  afH (model prog w) A (.builtin "set.update.loop" ⟨[.ref S,.ref I],[]⟩) R s:=by
 have JP:S∉wr:=λh=>pU (W.sub _ h);have mx:∀ b∈wr,b∈S::wr:=λb hb=>adp _ hb;intro k
 induction k with
 | zero =>
  intro i s M hk hi cG hS hM hR;obtain rfl:i=n:=by lia
  refine adM afE ?_;rw[adq aev _];refine show acQ _ A.in1 (afj (.ref I) >>= _) _ _ s from acq (W.done s _ _ cG λs' hm=>?_);exact show acQ _ A.in1 (ret Value.none) _ _ s' from acw (hR s' M (hm.mono mx) (let ⟨o,ep,t,L,ho,rest⟩:=hS;⟨o,ep,t,L,hm.heap S _ JP ho,rest⟩) hM)
 | succ k ih =>
  intro i s M hk hi cG hS hM hR;have bb:i<n:=by lia
  refine adM afE ?_;rw[adq aev _];refine show acQ _ A.in1 (afj (.ref I) >>= _) _ _ s from acq (W.item i s _ _ bb cG λv s' hP Uv hm=>?_);obtain⟨tt,rfl⟩:=Uu i v hP;have lB:lA s'.heap S M led:=let ⟨o,ep,t,L,ho,rest⟩:=hS;⟨o,ep,t,L,hm.heap S _ JP ho,rest⟩;refine show acQ _ A.in1 (holding [aeU (key i) tt] (setAdd S (.int (key i) tt)) >>= _) _ _ s' from acq (adY ?_);unfold setAdd;refine adY (acq ((agv prog w).pyHash (k:=key i) (by simp[agv,af8]) ?_));have go:∀ (h':aeV) (M':List (Int × agW)),Heap.SameBut S s'.heap h'->lA h' S M' led->tH key (i+1) M' ->
   acQ (model prog w) A.in1 (again (.builtin "set.update.loop" ⟨[.ref S,.ref I],[]⟩)) (λfin s'=>match fin with|.done f=>R (.ok f) s'|.again c'=>c'.quiet=true/\afH (model prog w) A c' R s') (λe s'=>R (.error e) s') { s' with heap:=h',toks:=s'.toks+1 }:=by
   intro h' M' kf AU Uw;refine acw ⟨aet aev _,ih (i+1) _ M' (by lia) bb (W.frame _ s' _ _ Uv (agL _) λb hb o e=>?_) AU Uw λsu Ux Uy Uz UA=>?_⟩
   .rw[kf.2 b (λh:b=S=>pU (by rw[<- h];exact hb))];exact e
   .refine hR su Ux (Moved.trans W.gtrans ((hm.mono mx).then_heap (agL _) λb o hb e=>?_) Uy) Uz UA;rw[kf.2 b (λh:b=S=>hb (by rw[h];exact afg))];exact e
  refine add_int (s:={ s' with toks:=s'.toks+1 }) (M:=M) lB (by have:=hM.2.2.2;lia) (λbU=>?_) (λbU h' M' kf AU qz=>?_)
  .refine go s'.heap M (Heap.SameBut.refl S s'.heap) lB ⟨hM.1,λm hm=>?_,λj hj=>?_,by have:=hM.2.2.2;lia⟩
   .obtain⟨j,hj,e⟩:=hM.2.1 m hm;exact⟨j,by lia,e⟩
   .by_cases e:j=i
    .rw[e];exact bU
    .exact hM.2.2.1 j (by lia)
  .refine go h' M' kf AU ⟨((qz.map (·.1)).nodup_iff).mpr (adC.mpr ⟨bU,hM.1⟩),λm hm=>?_,λj hj=>?_,by have:=qz.length_eq;have:=hM.2.2.2;simp at *;lia⟩
   .rcases acL.mp (qz.mem_iff.mp hm) with rfl|hm
    .exact⟨i,by lia,rfl⟩
    .obtain⟨j,hj,e⟩:=hM.2.1 m hm;exact⟨j,by lia,e⟩
   .refine ((qz.map (·.1)).mem_iff).mpr ?_;by_cases e:j=i
    .rw[e];exact afg
    .exact adp _ (hM.2.2.1 j (by lia))
theorem UB(hh:A.handled=none)(hl:s.heap.IsList l items)(hn:items.size<=2)(hit:∀ (i:Nat) (v:acB),items[i]?=some v->∃ tt,v = .int (key i) tt)(h:∀ (h':aeV) (tk:Nat) (M:List (Int × agW)),lA h' s.heap.objs.size M (ox w)->tH key items.size M->(∀ b o,b<s.heap.objs.size->s.heap.get? b=some o->h'.get? b=some o)->Q (.ref s.heap.objs.size) { s with heap:=h',toks:=tk }) :
 acQ (model prog w) A (call (.type "set") [.ref l]) Q E s:=by
 obtain⟨c,tl,hmro⟩:=PySem.F.called_set.mro;have acf:=PySem.F.called_set.made;have mx:=PySem.F.called_set.sub;refine ain (aki (show acQ _ _ (callAny (.type "set") _) _ _ _ from acw ⟨Code.quiet_builtin _ (by decide +kernel),adM PySem.F.entry_type_call ?_⟩));rw[Around.under_plain (weight_type_call_type "set" [.ref l] []) rfl];have h1:=PySem.F.called_set.notType;have h2:=PySem.F.called_set.canCreate;have hct:=PySem.F.typeCall_set_1 (.ref l);repeat (any_goals (first|assumption|wp_step))
 refine afM (Uc (.ref l) (E:=E) (Q₁:=λobj s₁=>obj = .ref s.heap.objs.size/\s₁ = { s with heap:=s.heap.push (jC w) }) ⟨rfl,rfl⟩) λr s₁ hr=>?_;cases r with
 | error e=>exact hr
 | ok fl =>
  cases fl with
  | ret obj =>
   obtain⟨rfl,rfl⟩:=hr;have gS:(s.heap.push (jC w)).get? s.heap.objs.size=some (jC w):=acG _ rfl;have hT:Shared.TypeIs { s with heap:=s.heap.push (jC w) } (.ref s.heap.objs.size) "set" := ⟨_,gS,rfl⟩;have my:=PySem.F.called_set.init.lookup;have JQ:=PySem.F.called_set.init.bind (.ref s.heap.objs.size)
   repeat (any_goals (first|assumption|wp_step))
   refine afM (aiu (R:=wants (λr s₂=>r = .none/\∃ h' tk M,s₂ = { s with heap:=h',toks:=tk }/\lA h' s.heap.objs.size M (ox w)/\tH key items.size M /\
    (∀ b o,b<s.heap.objs.size->s.heap.get? b=some o->h'.get? b=some o)) E) PySem.F.called_set.init.plain PySem.F.entry_set_init (check_set_init_1 hT ?_)) λr₂ s₂ AV=>?_
   .have lt:l<s.heap.objs.size:=let ⟨_,e,_⟩:=hl;acy e;obtain⟨ol,JR,bq,nl,hdl⟩:=id hl;obtain⟨ocls,odict,odata,oslots⟩:=ol;obtain rfl:ocls = .type "list" := bq;obtain rfl:odata = .seq items nl:=hdl;have UC:(s.heap.push (jC w)).get? l=some { cls:=.type "list",dict:=odict,data:=.seq items nl,slots:=oslots }:=acx _ JR;have acg:=PySem.F.sub_list_set;have ach:=PySem.F.sub_list_frozenset;have bV:(ahi "list" == ahi "dict")=false:=by decide
    have qA:(s.heap.push (jC w)).IsList l items:=⟨_,UC,rfl,nl,rfl⟩
    unfold aeB.«set.__init__» noKeywords Builtin.Frozenset.updateFrom;generalize UD:akU=PI;wp_walk;subst UD;refine af9 qA (acq (wpAny_runValue ?_));have UE:A.in1.in1.in1.handled=none:=by simp[hh]
    have AW:(s.heap.push (jC w)).objs.size=s.heap.objs.size+1:=afc _ _;have lI:l≠(s.heap.push (jC w)).objs.size:=by rw[AW];exact acO (afv lt)
    have SI:s.heap.objs.size∉[(s.heap.push (jC w)).objs.size,l]:=by rw[AW];simp only[acL,aeK,or_false,not_or];exact⟨acO (ae8 _),adJ lt⟩
    refine Ut ((Walks.list UE _ l lI items).toS) s.heap.objs.size SI (key:=key) (led:=ox w) hit hn (items.size-0) 0 _ [] (by lia) (ac5 _)
     ⟨⟨_,acG _ rfl,rfl,rfl⟩,(qA.push _)⟩ (Us (acx _ gS))
     ⟨agj,λ_ hx=>(by cases hx),λj hj=>(by lia),ac5 _⟩ λs' M hm lB hM=>?_
    obtain⟨h',g',d',AX,pG⟩:=s';obtain rfl:g'=s.gens:=hm.gens;obtain rfl:d'=s.drawn:=hm.drawn;obtain rfl:pG=s.os:=hm.os;show acQ _ _ _ _ _ _;refine acw (show acQ _ _ (ret Value.none) _ _ _ from acw ⟨rfl,h',AX,M,rfl,lB,hM,λb o hb e=>?_⟩);refine hm.heap b o ?_ (acx _ (acx _ e));simp only[acL,aeK,or_false,not_or,AW];exact⟨acO hb,acO (afv hb)⟩
   .cases r₂ with
    | error e=>exact AV
    | ok UG =>
     cases UG with
     | ret r =>
      obtain⟨rfl,h',tk,M,rfl,lB,hM,gB⟩:=AV
      repeat (any_goals (first|assumption|wp_step))
      exact h _ _ M lB hM gB
     | _=>exact AV.elim
  | _=>exact hr.elim
end
theorem UH(kis:List (List Int))(ns:List Int):d8 kis V.non (ns.map V.int)=(d8 kis 0 ns).map V.int:=by unfold d8;rw[ado,acs];refine aeH λi hi=>?_;have hp:=(qb (n:=ns.length) (og kis)).1;have:i<ns.length:=acY.mp (hp.mem_iff.mp hi);simp[akk,this]
theorem JS:∀ M:List (Int × agW),Vals ((M.map (·.1)).map V.int) (M.map λm=>aeU m.1 m.2)
 | []=>.nil
 | m::M=>.cons ⟨m.2,rfl⟩ (JS M)
def JT(K:acr)(t:TE):TE:=λσ H Q=>t σ H λv H1=>∃ (a:acF) (ns:List Int),v=V.ref a/\ai K H1 a (ns.map V.int)/\ns.length<=2 /\
 ∀ zs:List Int,zs.Nodup->(∀ x,x∈zs↔x∈ns)->zs.Pairwise (· <= ·)->∀ l,H1 l=none->Q (.ref l) (upd H1 l (.lst (zs.map V.int)))
section
theorem UI(hc:X.calm=true)(he:PE X e t)(oy:Gl X "sorted")(AY:X.mg "sorted" = none)(tI:adj "sorted" = some (.builtin "sorted"))(tJ:Gl X "set")(lC:X.mg "set" = none)(AZ:adj "set" = some (.type "set"))(cZ:acW [e] X.env=[(false,eval e X.env)]:=by rfl)(tK:acW [.Call (.Name "set" p2) [e] [] gI] X.env=[(false,eval (.Call (.Name "set" p2) [e] [] gI) X.env)]:=by rfl) :
 PE X (.Call (.Name "sorted" p1) [.Call (.Name "set" p2) [e] [] gI] [] pos) (JT X.K t):=by
 intro pins s σ H Q I h;refine adT (fO I oy AY tI ?_ (by decide) (by decide));refine ae2 ?_ (by rw[tK];rfl) rfl;rw[tK];show acQ _ _ (spliced ((false,eval (.Call (.Name "set" p2) [e] [] gI) X.env)::ael pos [])) _ _ s;refine aem ?_;refine adT (fO I tJ lC AZ ?_ (by decide) (by decide));refine adg ?_ (by rw[cZ];rfl) rfl;rw[cZ];show acQ _ _ (spliced ((false,eval e X.env)::ael gI [])) _ _ s;refine aem (aB (he pins s σ H _ I h) λu s1 zq=>?_);obtain⟨x,H1,I1,r1,q1⟩:=zq;obtain⟨a,ns,rfl,hS,hn,q⟩:=q1;cases r1;refine aex ?_;obtain⟨us,rv,pl,hz⟩:=I1.list hS;have hl:us.length=ns.length:=by have:=rv.length;rw[acs] at this;lia
 have hint:=intsAre_of rv;refine UB (items:=us.toArray) (key:=λi=>ns.getD i 0) (I1.ok.hd hc) pl.isList (by simp;lia) (λi v hv=>?_) λh2 tk M UJ hM hk=>?_
 .exact IntsAre.int_at hint i v (by simpa using hv)
 refine aex ?_;obtain⟨o,ep,tb,L,g1,g2,g3,AX,g4,g5,g7⟩:=UJ;have hx:qx X.w s1.heap.objs.size o ep tb L:=⟨g2,g3,AX,g4,g5⟩
 have hsz:us.toArray.size=us.length:=by simp
 rw[hsz] at hM;obtain⟨m1,m2,m3,m4⟩:=hM;have UK:L.length=M.length:=by have:=congrArg List.length g7;simpa using this
 have hp:((jD X.w s1.heap.objs.size ep (L.map (·.2)).toArray).toList).Perm (M.map lz):=by have:=AR X.w s1.heap.objs.size ep (L.map (·.2)).toArray;rw[agX,g7] at this;rw[g7];exact this
 obtain⟨M',e1,e2⟩:=JJ hp;have aci:M'.length=L.length:=e2.length_eq.trans UK.symm;have de:(M'.map (·.1)).Nodup:=((e2.map (·.1)).nodup_iff).mpr m1;have UL:=JS M';refine Ub (s:={ s1 with heap:=h2,toks:=tk }) (kis:=M'.map λm=>[m.1]) (vs:=M'.map λm=>aeU m.1 m.2) (by simp) (by simp;lia) (λi hi=>?_) (λA' Q' E' hA hq=>?_) λl h' wq k1 k2 k3=>?_
 .have cW:i<M'.length:=by simpa using hi
  exact⟨M'[i].1,M'[i].2,by simp[cW],by simp[akk,cW]⟩
 .refine IJ (s:={ s1 with heap:=h2,toks:=tk }) (Um hx) (hA.trans (I1.ok.hd hc)) g1 (acA (show L.length<=64 by lia) (by decide)) λh3 zU acc b1 b2 b3=>?_;have UM:acc.toList=M'.map λm=>aeU m.1 m.2:=by
   refine afu λi=>?_;rw[agt];by_cases hi:i<L.length
   .have cW:i<acc.size:=by rw[b3.1];exact hi
    have JU:i<M'.length:=by lia
    have:=b3.2 i acc[i] (adi cW);dsimp only at this;have e3:(jD X.w s1.heap.objs.size ep (L.map (·.2)).toArray)[i]?=some (lz M'[i]):=by rw[<- agt,e1];simp[JU]
    rw[e3] at this;rw[adi cW,<- this];simp[JU]
   .rw[aff (by rw[b3.1];lia)];rw[eq_comm,List.getElem?_eq_none_iff];simp only[acs];lia
  rw[UM];exact hq h3 zU b1 b2
 .refine IP (s:=s1) (ks:=(M'.map (·.1)).map V.int) (kis:=M'.map λm=>[m.1]) (us:=M'.map λm=>aeU m.1 m.2) I1 UL ?_ ?_ (λb u e=>k2 b u (hk b u (acy e) e)) k3 λl' A0=>?_
  .simp only[acs];exact acA (show _<=64 by lia) (by decide)
  .exact acA (agl (acy g1)) k1
  .rw[UH];refine q _ ((qd.nodup_iff).mpr de) (λx=>?_) ?_ l' A0
   .rw[qd.mem_iff,(e2.map (·.1)).mem_iff];constructor
    .intro gB;obtain⟨m,hm,rfl⟩:=acE.mp gB;obtain⟨j,hj,ej⟩:=m2 m hm;have:j<ns.length:=by lia
     rw[ej];simp[akk,this]
    .intro gB;obtain⟨j,hj,rfl⟩:=aiR gB;have:=m3 j (by lia);simpa [akk,hj] using this
   .have:=Ib (kis:=M'.map λm=>[m.1]) (d:=(0:Int)) (as:=M'.map (·.1)) (f:=λx=>[x]) (by rw[ado];rfl);refine this.imp λ{a b} gj=>?_;rw[HT.nR] at gj;by_cases e:b=a
    .lia
    .rw[if_neg e] at gj;have:=of_decide_eq_false gj;lia
def JV(r r' sQ:R2)(ta tb tc td:TE):TE:=λσ H Q=>ta σ H λx H1=>tb σ H1 λy H2=>r x y H2 λz H3=>∃ k,z = .bl k /\
 (if k=true then tc σ H3 λw' H4=>r' y w' H4 λz2 H5=>∃ k2,z2 = .bl k2/\(if k2=true then td σ H5 λw2 H6=>sQ w' w2 H6 Q else Q (.bl false) H5) else Q (.bl false) H3)
theorem UN(ho:aZ X (adx op) r)(cT:aZ X (adx iB) r')(UO:aZ X (adx JW) sQ)(ha:PE X a ta)(hb:PE X b tb)(hc:PE X c tc)(hd:PE X d td)(hm:ajU [op,iB,JW] [b,c,d]=false:=by with_unfolding_all rfl):PT X (.Compare a [op,iB,JW] [b,c,d] pos) (vR (JV r r' sQ ta tb tc td)):=by
 intro pins s σ H Q I h;refine isTrue_chain (aB (ha pins s σ H _ I h) λv s1 ⟨x,H1,I1,r1,q1⟩=>akV (aB (hb pins s1 σ H1 _ I1 q1) λu s2 ⟨y,H2,I2,r2,q2⟩ =>
  aB (ho pins s2 σ H2 x y v u _ I2 r1 r2 q2) λd s3 ⟨z,H3,I3,r3,k,e,q3⟩=>?_)) hm
 subst e;cases r3;refine adm ?_;cases k with
 | false =>
  obtain⟨k',e',q'⟩:=q3;cases e';exact (if_neg (by decide)).mpr ⟨H3,I3,q'⟩
 | true =>
  refine (if_pos rfl).mpr (akV (aB (hc pins s3 σ H3 _ I3 q3) λw' s4 ⟨z',H4,I4,r4,q4⟩=>aB (cT pins s4 σ H4 y z' u w' _ I4 r2 r4 q4) λd2 s5 zq=>?_));obtain⟨z2,H5,I5,r5,k2,e2,q5⟩:=zq;subst e2;cases r5;refine adm ?_;cases k2 with
  | false =>
   obtain⟨k',e',q'⟩:=q5;cases e';exact (if_neg (by decide)).mpr ⟨H5,I5,q'⟩
  | true =>
   refine (if_pos rfl).mpr (test_last (aB (hd pins s5 σ H5 _ I5 q5) λw2 s6 ⟨z3,H6,I6,r6,q6⟩=>aB (UO pins s6 σ H6 z' z3 w' w2 _ I6 r4 r6 q6) λd' s7 zq=>?_));obtain⟨z4,H7,I7,r7,k3,e3,q7⟩:=zq;subst e3;cases r7;exact adm ⟨H7,I7,q7⟩
end
def UP(t1 t2:TE):TE:=λσ H Q=>t1 σ H Q∨t2 σ H Q
noncomputable def fT:S2->List S2
 | (none,none)=>[]
 | (some l,none)=>[(none,some (l-1))]
 | (none,some h)=>[(some (h+1),none)]
 | (some l,some h)=>[(none,some (l-1)),(some (h+1),none)]
noncomputable def cp(ps:List Pa):List (List Pa):=ps.flatMap λp=>(fT p.2.2).map λo=>[((p.1,p.2.1,o):Pa)]
noncomputable def bp(i j:Int)(s:S2):List Pa:=(acD (j+1-i).toNat).map λk=>("at",i+(k:Nat),s)
def dN(H:Hp)(v:V)(ps:List Pa):Prop:=∃ l xs,v = .ref l/\H l=some (.lst xs)/\dB H xs ps
theorem dN.same(h:dN H v ps)(s:ah H H'):dN H' v ps:=let ⟨l,xs,e,a,b⟩:=h;⟨l,xs,e,s _ _ a,b.same s⟩
def cK(H0 H:Hp)(v:V)(ps:List Pa):Prop:=∃ c xs,v = .ref c/\H0 c=none/\H c=some (.lst xs)/\dB H xs ps
theorem cK.same(h:cK H0 H v ps)(s:ah H H'):cK H0 H' v ps:=let ⟨c,xs,e,n,a,b⟩:=h;⟨c,xs,e,n,s _ _ a,b.same s⟩
theorem cK.back(h:cK H1 H v ps)(s:ah H0 H1):cK H0 H v ps:=let ⟨c,xs,e,n,a,b⟩:=h;⟨c,xs,e,s.free n,a,b⟩
def iT(H0:Hp)(l:acF)(H:Hp)(v:V)(ps:List Pa):Prop:=∃ c xs,v = .ref c/\c≠l/\H0 c=none/\H c=some (.lst xs)/\dB H xs ps
theorem iT.same(h:iT H0 l H v ps)(s:ah H H'):iT H0 l H' v ps:=let ⟨c,xs,e,m,n,a,b⟩:=h;⟨c,xs,e,m,n,s _ _ a,b.same s⟩
theorem iT.put(h:iT H0 l H v ps)(hl:H l=some (.lst ys)):iT H0 l (upd H l o) v ps:=let ⟨c,xs,e,m,n,a,b⟩:=h;⟨c,xs,e,m,n,by rw[aD m];exact a,b.put hl⟩
theorem iT.JX(h:iT H0 l H v ps):cK H0 H v ps:=let ⟨c,xs,e,_,n,a,b⟩:=h;⟨c,xs,e,n,a,b⟩
theorem UQ{ps:List Pa}{i:Nat}{p:Pa}(h:ps[i]?=some p):cp (ps.take (i+1))=cp (ps.take i)++(fT p.2.2).map λo=>[((p.1,p.2.1,o):Pa)]:=by unfold cp;rw[ads,h,aiS];simp
theorem sY(s:S2):(fT s).length<=2:=by obtain⟨a,b⟩:=s;cases a<;>cases b<;>simp[fT]
theorem iU(i j:Int)(s:S2):(bp i j s).length=(j+1-i).toNat:=by unfold bp;rw[acs,acH]
noncomputable def iV(i j l h:Int):List (List Pa):=(acD (j-i).toNat).flatMap λk=>(bp (i+(k:Nat)+1) j (some h,none)).map λp=>[(("at",i+(k:Nat),none,some l):Pa),p]
theorem A1(h:p∈bp i j s):∃ k:Nat,k<(j+1-i).toNat/\p=(("at",i+(k:Int),s):Pa):=by unfold bp at h;obtain⟨k,hk,rfl⟩:=acE.mp h;exact⟨k,acY.mp hk,rfl⟩
theorem JY(h:qs∈cp ps):∃ p∈ps,∃ o∈fT p.2.2,qs=[((p.1,p.2.1,o):Pa)]:=by unfold cp at h;obtain⟨p,hp,h⟩:=aeL.mp h;obtain⟨o,ho,rfl⟩:=acE.mp h;exact⟨p,hp,o,ho,rfl⟩
theorem UR(hq:qs∈iV i j l h):∃ k:Nat,k<(j-i).toNat/\∃ p∈bp (i+(k:Int)+1) j (some h,none),qs=[(("at",i+(k:Int),none,some l):Pa),p]:=by unfold iV at hq;obtain⟨k,hk,hq⟩:=aeL.mp hq;obtain⟨p,hp,rfl⟩:=acE.mp hq;exact⟨k,acY.mp hk,p,hp,rfl⟩
theorem JZ{α β:Type}{f:α->List β}{c:Nat}:∀ (l:List α),(∀ a∈l,(f a).length<=c)->(l.flatMap f).length<=c * l.length
 | [],_=>by simp
 | a::l,h=>by have h1:=h a (.head _);have h2:=JZ l λb hb=>h b (.tail _ hb);rw[List.flatMap_cons,ac1,ada,Nat.mul_add,Nat.mul_one];omega
theorem J0(ps:List Pa):(cp ps).length<=2 * ps.length:=JZ ps λp _=>by rw[acs];exact sY _
theorem US{X:Cx}{K:acr}(h:X.K=K)(hc:X.calm=true):eR X (.builtin "max") (λxs H Q=>∃ a ns,xs=[.ref a]/\ai K H a (ns.map V.int)/\ns≠[]/\Q (.int (eU ns)) H):=h ▸ wx hc
theorem UT{X:Cx}{K:acr}(h:X.K=K)(hc:X.calm=true):eR X (.builtin "min") (λxs H Q=>∃ a ns,xs=[.ref a]/\ai K H a (ns.map V.int)/\ns≠[]/\Q (.int (gh ns)) H):=h ▸ wy hc
noncomputable def a8(cs:List Int)(i:Int)(k:Nat):Int:=cs.getD (i+(k:Int)).toNat 0
theorem A2(cs:List Int)(i j:Int)(s:S2):bc cs (bp i j s)=(acD (j+1-i).toNat).all λk=>hold s.1 s.2 (a8 cs i k):=by
 unfold bc bp;rw[afQ]
 congr 1
theorem tL(h0:0<=i)(h1:i<=j)(h2:j<(cs.length:Int)):iC (cs.map V.int) (some i) (some (j+1))=((acD (j+1-i).toNat).map (a8 cs i)).map V.int:=by
 obtain⟨a,rfl⟩:∃ a:Nat,i=(a:Int):=⟨i.toNat,by omega⟩
 obtain⟨b,eb⟩:∃ b:Nat,j+1=(b:Int):=⟨(j+1).toNat,by omega⟩
 rw[eb,Rw _ (by rw[acs];omega),<- akO,<- aje]
 congr 1
 refine afu λk=>?_;rw[show ((b:Int)-(a:Int)).toNat=b-a by omega];by_cases hk:k<b-a
 .rw[ahn hk,af2,acJ,adw hk,acv (by omega)];unfold a8;simp only[Option.map_some];rw[show ((a:Int)+(k:Int)).toNat=a+k by omega];simp[acv (show a+k<cs.length by omega)]
 .rw[adK (by rw[aef,ae9];omega),adK (by rw[acs,acH];omega)]
theorem UU:((cp (bp i j (none,some (s-1)))).any (bc cs))=true ↔ ∃ k,k<(j+1-i).toNat/\s<=a8 cs i k:=by
 rw[adv];constructor
 .rintro ⟨ps,hps,hm⟩;obtain⟨p,hp,o,ho,rfl⟩:=JY hps;obtain⟨k,hk,rfl⟩:=A1 hp;simp only[fT,acL,aeK,or_false] at ho;subst ho;refine⟨k,hk,?_⟩;unfold bc at hm;simp only[ae4,ag6,afY] at hm;have:=(gC.mp hm).1 _ rfl;unfold mq at this;rw[if_neg (by decide)] at this;unfold a8;omega
 .rintro ⟨k,hk,hc⟩;refine⟨[(("at",i+(k:Int),some (s-1+1),none):Pa)],?_,?_⟩
  .unfold cp;refine aeL.mpr ⟨(("at",i+(k:Int),none,some (s-1)):Pa),?_,?_⟩
   .unfold bp;exact acE.mpr ⟨k,acY.mpr hk,rfl⟩
   .simp[fT]
  .unfold bc;simp only[ae4,ag6,afY];refine gC.mpr ⟨λx hx=>?_,λx hx=>(nomatch hx)⟩;cases hx;unfold mq;rw[if_neg (by decide)];unfold a8 at hc;omega
theorem UW:((cp (bp i j (some (s+1),none))).any (bc cs))=true ↔ ∃ k,k<(j+1-i).toNat/\a8 cs i k<=s:=by
 rw[adv];constructor
 .rintro ⟨ps,hps,hm⟩;obtain⟨p,hp,o,ho,rfl⟩:=JY hps;obtain⟨k,hk,rfl⟩:=A1 hp;simp only[fT,acL,aeK,or_false] at ho;subst ho;refine⟨k,hk,?_⟩;unfold bc at hm;simp only[ae4,ag6,afY] at hm;have:=(gC.mp hm).2 _ rfl;unfold mq at this;rw[if_neg (by decide)] at this;unfold a8;omega
 .rintro ⟨k,hk,hc⟩;refine⟨[(("at",i+(k:Int),none,some (s+1-1)):Pa)],?_,?_⟩
  .unfold cp;refine aeL.mpr ⟨(("at",i+(k:Int),some (s+1),none):Pa),?_,?_⟩
   .unfold bp;exact acE.mpr ⟨k,acY.mpr hk,rfl⟩
   .simp[fT]
  .unfold bc;simp only[ae4,ag6,afY];refine gC.mpr ⟨λx hx=>(nomatch hx),λx hx=>?_⟩;cases hx;unfold mq;rw[if_neg (by decide)];unfold a8 at hc;omega
theorem UX(h:0<n):s<=eU ((acD n).map f) ↔ ∃ k,k<n/\s<=f k:=by
 have ne:(acD n).map f≠[]:=by simp;omega
 obtain⟨hm,hu⟩:=pV ne;constructor
 .intro hs;obtain⟨k,hk,e⟩:=acE.mp hm;exact⟨k,acY.mp hk,by rw[e];exact hs⟩
 .rintro ⟨k,hk,hs⟩;have:=hu (f k) (acE.mpr ⟨k,acY.mpr hk,rfl⟩);omega
theorem A3(h:0<n):gh ((acD n).map f)<=s ↔ ∃ k,k<n/\f k<=s:=by
 have ne:(acD n).map f≠[]:=by simp;omega
 obtain⟨hm,hu⟩:=Hm ne;constructor
 .intro hs;obtain⟨k,hk,e⟩:=acE.mp hm;exact⟨k,acY.mp hk,by rw[e];exact hs⟩
 .rintro ⟨k,hk,hs⟩;have:=hu (f k) (acE.mpr ⟨k,acY.mpr hk,rfl⟩);omega
theorem J1:((iV i j l h).any (bc cs))=true ↔ ∃ a b,a<b/\b<(j+1-i).toNat/\a8 cs i a<=l/\h<=a8 cs i b:=by
 have J5:∀ (a b:Int),bc cs [(("at",a,none,some l):Pa),(("at",b,some h,none):Pa)]=true↔cs.getD a.toNat 0<=l/\h<=cs.getD b.toNat 0:=λa b=>by
  unfold bc;simp only[ae4,ag6,afY,adz,gC];unfold mq;rw[if_neg (by decide),if_neg (by decide)];constructor
  .rintro ⟨⟨_,h1⟩,h2,_⟩;exact⟨h1 _ rfl,h2 _ rfl⟩
  .rintro ⟨h1,h2⟩;refine⟨⟨λx hx=>(nomatch hx),λx hx=>?_⟩,λx hx=>?_,λx hx=>(nomatch hx)⟩
   .cases hx;exact h1
   .cases hx;exact h2
 rw[adv];constructor
 .rintro ⟨ps,hps,hm⟩;obtain⟨k,hk,p,hp,rfl⟩:=UR hps;obtain⟨m,lC,rfl⟩:=A1 hp;have:=(J5 _ _).mp hm;refine⟨k,k+1+m,by omega,by omega,this.1,?_⟩;unfold a8;rw[show i+((k+1+m:Nat):Int)=i+(k:Int)+1+(m:Int) by omega];exact this.2
 .rintro ⟨a,b,gj,hb,h1,h2⟩;refine⟨[(("at",i+(a:Int),none,some l):Pa),(("at",i+(a:Int)+1+((b-a-1:Nat):Int),some h,none):Pa)],?_,(J5 _ _).mpr ⟨h1,?_⟩⟩
  .unfold iV;refine aeL.mpr ⟨a,acY.mpr (by omega),acE.mpr ⟨_,?_,rfl⟩⟩;unfold bp;exact acE.mpr ⟨b-a-1,acY.mpr (by omega),rfl⟩
  .unfold a8 at h2;rw[show i+(a:Int)+1+((b-a-1:Nat):Int)=i+(b:Int) by omega];exact h2
theorem UY:((acD (n-1)).any λk=>decide (gh (((acD n).map f).take (k+1))<=l) && decide (h<=eU (((acD n).map f).drop (k+1))))=true ↔ ∃ a b,a<b/\b<n/\f a<=l/\h<=f b:=by
 have tk:∀ k,k<n-1->((acD n).map f).take (k+1)=(acD (k+1)).map f:=λk hk=>by rw[<- aje,List.take_range,afW (by omega)]
 have at_:∀ m x,((acD n).map f)[m]?=some x->m<n/\x=f m:=λm x e=>by
  rw[acJ] at e;by_cases hm:m<n
  .rw[adw hm] at e;cases e;exact⟨hm,rfl⟩
  .rw[adK (by rw[acH];omega)] at e;cases e
 have len:((acD n).map f).length=n:=by rw[acs,acH]
 have J6:∀ k,k<n-1->((acD n).map f).drop (k+1)≠[]:=λk hk z=>by have:=congrArg List.length z;rw[ae9,len] at this;simp at this;omega
 rw[adv];constructor
 .rintro ⟨k,hk,hb⟩;have hk:=acY.mp hk;rw[adz,decide_eq_true_eq,decide_eq_true_eq,tk k hk] at hb;obtain⟨a,ha,h1⟩:=(A3 (by omega)).mp hb.1;obtain⟨hm,_⟩:=pV (J6 k hk);obtain⟨m,hm⟩:=adD.mp hm;rw[af2] at hm;obtain⟨m1,m2⟩:=at_ _ _ hm;exact⟨a,k+1+m,by omega,m1,h1,by rw[<- m2];exact hb.2⟩
 .rintro ⟨a,b,gj,hb,h1,h2⟩;have ha:a<n-1:=by omega
  refine⟨a,acY.mpr ha,?_⟩;rw[adz,decide_eq_true_eq,decide_eq_true_eq,tk a ha];refine⟨(A3 (by omega)).mpr ⟨a,by omega,h1⟩,?_⟩;have hm:f b∈((acD n).map f).drop (a+1):=adD.mpr ⟨b-(a+1),by
   rw[af2,show a+1+(b-(a+1))=b by omega,acJ,adw hb];rfl⟩
  have:=(pV (J6 a ha)).2 _ hm;omega
noncomputable def ky(u:acB):Bool:=match u with|.none=>true|_=>false
noncomputable def lD(v:V):Bool:=decide (v = .non)
def qB(H:Hp)(xs:List V):Prop:=∀ v∈xs,v = .non ∨ ∃ a ys,v = .ref a/\H a=some (.tup ys)
section
theorem J9{x:V}{u:acB}{H:Hp}(r:RelV x u)(h:x = .non ∨ ∃ a ys,x = .ref a/\H a=some (.tup ys)):ky u=lD x:=by
 rcases h with rfl|⟨a,ys,rfl,_⟩
 .cases r;rfl
 .cases r;rfl
theorem UZ:∀ {xs:List V} {us:List acB},Vals xs us->qB H xs->us.any ky=xs.any lD:=by
 intro _ _ h f
 induction h with
 | nil=>rfl
 | cons r t ih=>rw[ad0,ad0,J9 r (f _ (.head _)),ih λv hv=>f v (.tail _ hv)]
theorem Ka:∀ {xs:List V} {us:List acB},Vals xs us->qB H xs->∀ (m:Nat) (h:m<us.length),ky us[m]=lD (xs.getD m .non):=by
 intro _ _ h f
 induction h with
 | nil=>exact λm h=>absurd h (aek _)
 | cons r t ih =>
  intro m h;cases m with
  | zero=>exact J9 r (f _ (.head _))
  | succ m=>exact ih (λv hv=>f v (.tail _ hv)) m (ah0 h)
theorem A4(I:Inv X pins σ H s)(hu:A.units<agB):∀ {xs:List V} {us:List acB},Vals xs us->qB H xs->∀ u∈us,SeqAt.EqAt A s u .none (ky u)
 | _,_,.nil,_=>λu hu=>by cases hu
 | x::xs,u::us,.cons r t,f=>λu' A5=>by
  rcases acL.mp A5 with rfl|A5
  .rcases f x (.head _) with rfl|⟨a,ys,rfl,ha⟩
   .cases r;exact SeqAt.EqAt.same _
   .cases r;obtain⟨_,ao,r',o',k1,k2,n,k3⟩:=(show bN X.prog X.w H s.heap a (.tup ys) from I.ay a _ ha)
    exact SeqAt.EqAt.tuple_none ⟨o',k1,k2,n,k3⟩ hu
  .exact A4 I hu t (λv hv=>f v (.tail _ hv)) u' A5
def U0(K:acr):R2:=λx y H Q=>∃ a xs,x = .non/\y = .ref a/\ai K H a xs/\qB H xs/\Q (.bl (xs.any lD)) H
theorem Kb(hu:X.A.units+1<agB):aZ X (adx .In) (U0 X.K):=by intro pins s σ H x y v u Q I rx ry h;obtain⟨a,xs,rfl,rfl,hq,hn,q⟩:=h;cases rx;cases ry;obtain⟨ao,r,pl,hz⟩:=I.list hq;refine SeqAt.in_listAt ky pl.isList (λw hw=>A4 I (A:=X.A.in1) (aeP (knd:=cS X.prog X.w) hu) r hn w (by simpa using hw)) ⟨.bl _,H,I,rfl,?_⟩;rw[show ao.toArray.any ky=ao.any ky by simp,UZ r hn];exact q
def U1(K:acr)(x:V)(ys:List V)(H:Hp)(Q:VK):Prop:=∃ a xs j,x = .ref a/\ys=[.non]/\ai K H a xs/\qB H xs/\j<xs.length/\xs.length<=1000/\lD (xs.getD j .non)=true/\(∀ m,m<j->lD (xs.getD m .non)=false)/\Q (.int (j:Nat)) H
theorem Kc(hu:X.A.units+1<agB):Gu X "list.index" (U1 X.K):=by
 intro pins s σ H x xs v us Q I rx r h;obtain⟨a,xs,j,rfl,rfl,hq,hn,hj,hl,h1,h2,q⟩:=h;cases rx;obtain⟨u,rfl,ru⟩:=vals1 r;cases ru;obtain⟨ao,r,pl,hz⟩:=I.list hq;obtain⟨⟨cls,dd,data,sl⟩,ho,hc,n,hd⟩:=id pl.isList;simp only at hc hd;subst hc hd;have hlen:ao.length=xs.length:=(Vals.length r).symm;refine ajn af3 ⟨_,ho,rfl⟩ PySem.F.entry_list_index (PySem.F.args_list_index_2 _ _)
  (SeqAt.list_indexAt a ao.toArray n dd sl .none ky j (by simpa [hlen] using hj) (by lia) ?_ ?_) ⟨ho,λy hy=>A4 I (A:=X.A.in1) (aeP (knd:=cS X.prog X.w) hu) r hn y (by simpa using hy),?_⟩
 .show ky ao[j]=true;rw[Ka r hn];exact h1
 .intro m hm bb;show ky ao[m]=false;rw[Ka r hn];exact h2 m bb
 .exact⟨.int j,H,I.tok _,⟨_,rfl⟩,q⟩
end
noncomputable def gJ(p:P2):W2:=some (some p.1,some p.2)
theorem Kd:∀ (ss:List S2) (a b:Int),∃ a' b',bj (some a,some b) ss=(some a',some b')
 | [],a,b=>⟨a,b,rfl⟩
 | s::ss,a,b=>by
  rw[wZ];have h1:∃ x,dA (some a) s.1=some x:=by rcases s.1 with _|c<;>exact⟨_,rfl⟩
  have h2:∃ x,ee (some b) s.2=some x:=by rcases s.2 with _|c<;>exact⟨_,rfl⟩
  obtain⟨x,hx⟩:=h1;obtain⟨y,hy⟩:=h2;rw[hx,hy];exact Kd ss x y
theorem U2(h:fG (none,none) ((some a,some b)::ss)=some s):∃ p:P2,some s=gJ p/\p.1<=p.2:=by
 unfold fG at h;rw[wZ] at h;obtain⟨x,y,e⟩:=Kd ss a b;rw[show (dA (none,none).1 (some a,some b).1,ee (none,none).2 (some a,some b).2)=((some a,some b):S2) from rfl,e] at h;split at h
 .cases h
 .rename_i hc;cases h;exact⟨(x,y),rfl,by simpa [aX] using hc⟩
theorem Ke(hf:∀ k s,f k=some s->∃ p:P2,some s=gJ p/\p.1<=p.2):∀ (ks:List Nat),(∀ k∈ks,f k≠none)->∃ pp:List P2,ks.map f=pp.map gJ/\fb pp
 | [],_=>⟨[],rfl,λ_ h=>nomatch h⟩
 | k::ks,h=>by
  obtain⟨pp,e,ho⟩:=Ke hf ks λj hj=>h j (.tail _ hj);cases hk:f k with
  | none=>exact absurd hk (h k (.head _))
  | some s =>
   obtain⟨p,e1,e2⟩:=hf k s hk;refine⟨p::pp,by rw[acN,acN,e,hk,e1],λq hq=>?_⟩;rcases acL.mp hq with rfl|hq
   .exact e2
   .exact ho q hq
theorem all_some:∀ (ws:List W2),(∀ w∈ws,w≠none)->∃ gs:List S2,ws=gs.map some
 | [],_=>⟨[],rfl⟩
 | w::ws,h=>by
  obtain⟨gs,e⟩:=all_some ws λj hj=>h j (.tail _ hj);cases w with
  | none=>exact absurd rfl (h none (.head _))
  | some s=>exact⟨s::gs,by rw[e];rfl⟩
theorem A6:∀ {ys:List V} {ws:List W2},ax (gD H) ys ws->qB H ys/\(ys.any lD=ws.any afw)/\∀ m,lD (ys.getD m .non)=(ws.getD m none).isNone
 | [],[],_=>⟨(λ_ h=>nomatch h),rfl,λ_=>rfl⟩
 | y::ys,w::ws,h=>by
  obtain⟨h1,h2⟩:=h;obtain⟨a,b,c⟩:=A6 h2;have key:(y = .non ∨ ∃ a ys,y = .ref a/\H a=some (.tup ys))/\lD y=w.isNone:=by
   cases w with
   | none =>
    obtain rfl:y = .non:=h1;exact⟨.inl rfl,rfl⟩
   | some s =>
    obtain⟨p,rfl,hp⟩:=h1;exact⟨.inr ⟨p,_,rfl,hp⟩,rfl⟩
  refine⟨λv hv=>?_,by rw[ad0,ad0,b,key.2],λm=>?_⟩
  .rcases acL.mp hv with rfl|hv
   .exact key.1
   .exact a v hv
  .cases m with
   | zero=>exact key.2
   | succ m=>exact c m
 | [],_::_,h=>h.elim
 | _::_,[],h=>h.elim
theorem A7:∀ {xs:List α},xs.any p=true->∃ j,j<xs.length/\p (xs.getD j d)=true/\∀ m,m<j->p (xs.getD m d)=false
 | [],h=>by cases h
 | x::xs,h=>by
  cases hx:p x with
  | true=>exact⟨0,Nat.zero_lt_succ _,hx,λm hm=>absurd hm (aek _)⟩
  | false =>
   rw[ad0,hx,ai8] at h;obtain⟨j,h1,h2,h3⟩:=A7 (d:=d) h;refine⟨j+1,Nat.succ_lt_succ h1,h2,λm hm=>?_⟩;cases m with
   | zero=>exact hx
   | succ m=>exact h3 m (ah0 hm)
theorem Kf{ws:List W2}(h:ws.any afw=false):∀ w∈ws,w≠none:=λw hw e=>by have:=ajh.mp h w hw;rw[e] at this;exact this rfl
theorem Kg:∀ {ys:List V} {pp:List P2},ax (gD H) ys (pp.map gJ)->bR H ys pp
 | [],[],_=>trivial
 | _::_,_::_,h=>⟨h.1,Kg h.2⟩
 | [],_::_,h=>h.elim
 | _::_,[],h=>h.elim
theorem lq.reach(T:lq ps ms tp):∀ (n t:Nat) {v k:Int},t+n<=ps.length ->
 (tp t=some (v,k)->∃ v' k',tp (t+n)=some (v',k')/\v'<=v+(pre (·.2) ps (t+n)-pre (·.2) ps t)) /\
 (tp (t+n)=some (v,k)->∃ v' k',tp t=some (v',k')/\v'<=v+(pre (·.1) ps t-pre (·.1) ps (t+n)))
 | 0,t,v,k,_=>⟨λh=>⟨v,k,h,by simp⟩,λh=>⟨v,k,h,by simp⟩⟩
 | n+1,t,v,k,hn=>by
  refine⟨λh=>?_,λh=>?_⟩
  .obtain⟨v1,k1,e1,h1⟩:=(T.reach n t (by lia)).1 h;obtain⟨v2,k2,e2,h2⟩:=T.fwd (t+n) v1 k1 (by lia) e1;refine⟨v2,k2,e2,?_⟩;rw[show t+(n+1)=(t+n)+1 by lia,gE _ ps (by lia)];lia
  .obtain⟨v1,k1,e1,h1⟩:=T.bwd (t+n) v k (by lia) h;obtain⟨v2,k2,e2,h2⟩:=(T.reach n t (by lia)).2 e1;refine⟨v2,k2,e2,?_⟩;rw[show t+(n+1)=(t+n)+1 by lia,gE _ ps (by lia)];lia
theorem U3(T:lq ps ms tp)(hm:∀ m∈ms,m.1<=ps.length)(hn:∀ m∈ns,m.1<=ps.length)(h0:tx ns tp)(ha:a∈ms)(hb:b∈ns):¬ clash ps a b:=by
 rintro ⟨h,l,e1,e2,bb⟩;obtain⟨v,k,e3,h3⟩:=T.top a ha h e1;have sH:=hm a ha;have b7:=hn b hb;have key:∃ v' k',tp b.1=some (v',k')/\v'<=v+bJ ps a.1 b.1:=by
  unfold bJ;by_cases hle:a.1<=b.1
  .rw[if_pos hle];obtain⟨n,lT⟩:∃ n,b.1=a.1+n:=⟨b.1-a.1,by lia⟩
   rw[lT];exact (T.reach n a.1 (by lia)).1 e3
  .rw[if_neg hle];obtain⟨n,lT⟩:∃ n,a.1=b.1+n:=⟨a.1-b.1,by lia⟩
   rw[lT] at e3 ⊢;exact (T.reach n b.1 (by lia)).2 e3
 obtain⟨v',k',e4,h4⟩:=key;have:=h0 b hb l v' k' e2 e4;lia
theorem A8:m∈dM tb i ↔ ∃ r∈tb,r.1.1=i/\m=(r.1.2.toNat,r.2):=by
 unfold dM;simp only[acE,acZ,decide_eq_true_eq];constructor
 .rintro ⟨r,⟨h1,h2⟩,rfl⟩;exact⟨r,ot.mem_iff.mp h1,h2,rfl⟩
 .rintro ⟨r,h1,h2,rfl⟩;exact⟨r,⟨ot.mem_iff.mpr h1,h2⟩,rfl⟩
noncomputable def tM(e:Nat)(tb:Tb):List (Int × List Mk):=(acD e).map λ(i:Nat)=>((i:Int),dM tb (i:Int))
theorem U4(hp:fb ps)(ht:t<ps.length):bJ ps i (t+1)<=bJ ps i t+(aF ps t).2:=by
 have h:=hp _ (pY ht);have e1:=gE (·.1) ps ht;have e2:=gE (·.2) ps ht;unfold bJ;split<;>split<;>first|lia|(have z:i=t+1:=(by lia);subst z;lia)
theorem U5(hp:fb ps)(ht:t<ps.length):bJ ps i t<=bJ ps i (t+1)-(aF ps t).1:=by
 have h:=hp _ (pY ht);have e1:=gE (·.1) ps ht;have e2:=gE (·.2) ps ht;unfold bJ;split<;>split<;>first|lia|(have z:i=t+1:=(by lia);subst z;lia)
theorem U6(ps:List P2)(i:Nat):bJ ps i i<=0:=by unfold bJ;split<;>lia
theorem Kh(hp:fb ps)(ms:List Mk):∀ n,n<=ms.length->∃ tp,lq ps (ms.take n) tp
 | 0,_=>⟨λ_=>none,⟨λ_ _ _ _ e=>(nomatch e),λ_ h=>(nomatch h),λ_ _ _ _ e=>(nomatch e),λ_ _ _ _ e=>(nomatch e)⟩⟩
 | n+1,hn=>by
  obtain⟨tp,T⟩:=Kh hp ms n (by lia);have hm:ms[n]?=some ms[n]:=acv (by lia);generalize ms[n]=m at hm;have et:ms.take (n+1)=ms.take n++[m]:=by rw[ads,hm];rfl
  have tl:(ms.take n).length=n:=by rw[aef];lia
  cases hi:m.2.2 with
  | none =>
   refine⟨tp,⟨λt v k ht e=>?_,λa ha h e=>?_,T.fwd,T.bwd⟩⟩
   .obtain⟨i,a,h,h1,h2,h3⟩:=T.val t v k ht e;have:=(acz.mp h2).1;exact⟨i,a,h,h1,by rw[et,adO this];exact h2,h3⟩
   .rw[et] at ha;rcases ac4.mp ha with z|z
    .exact T.top a z h e
    .rw[ac9.mp z,hi] at e;cases e
  | some h0 =>
   have one:∀ t v k,(match tp t with|some (v,k)=>if h0+bJ ps m.1 t<v then some (h0+bJ ps m.1 t,(n:Int)) else some (v,k)|none=>some (h0+bJ ps m.1 t,(n:Int)))=some (v,k) ->
    v<=h0+bJ ps m.1 t/\(∀ v' k',tp t=some (v',k')->v<=v')/\((v=h0+bJ ps m.1 t/\k=(n:Int))∨tp t=some (v,k)):=by
    intro t v k e;cases h1:tp t with
    | none =>
     rw[h1] at e;cases e;exact⟨adW _,λ_ _ z=>(nomatch z),.inl ⟨rfl,rfl⟩⟩
    | some q =>
     obtain⟨v1,k1⟩:=q;rw[h1] at e;dsimp only at e;split at e
     .cases e;refine⟨adW _,λv' k' z=>?_,.inl ⟨rfl,rfl⟩⟩;cases z;lia
     .cases e;refine⟨by lia,λv' k' z=>?_,.inr rfl⟩;cases z;exact adW _
   have ex:∀ t,∃ v k,(match tp t with|some (v,k)=>if h0+bJ ps m.1 t<v then some (h0+bJ ps m.1 t,(n:Int)) else some (v,k)|none=>some (h0+bJ ps m.1 t,(n:Int)))=some (v,k):=λt=>by
    cases h1:tp t with
    | none=>exact⟨_,_,rfl⟩
    | some q =>
     obtain⟨v1,k1⟩:=q;dsimp only;split<;>exact⟨_,_,rfl⟩
   refine⟨λt=>match tp t with|some (v,k)=>if h0+bJ ps m.1 t<v then some (h0+bJ ps m.1 t,(n:Int)) else some (v,k)|none=>some (h0+bJ ps m.1 t,(n:Int)),⟨λt v k ht e=>?_,λa ha h e=>?_,λt v k ht e=>?_,λt v k ht e=>?_⟩⟩
   .obtain⟨_,_,⟨rfl,rfl⟩|e1⟩:=one t v k e
    .exact⟨n,m,h0,rfl,by rw[et,adL (by lia),tl,aik];rfl,hi,adW _⟩
    .obtain⟨i,a,h,h1,h2,h3⟩:=T.val t v k ht e1;have:=(acz.mp h2).1;exact⟨i,a,h,h1,by rw[et,adO this];exact h2,h3⟩
   .obtain⟨v,k,e1⟩:=ex a.1;obtain⟨o1,o2,_⟩:=one _ _ _ e1;refine⟨v,k,e1,?_⟩;rw[et] at ha;rcases ac4.mp ha with z|z
    .obtain⟨v',k',e2,h2⟩:=T.top a z h e;have:=o2 v' k' e2;lia
    .rw[ac9.mp z] at e o1;rw[hi] at e;cases e;have:=U6 ps m.1;lia
   .obtain⟨v',k',e1⟩:=ex (t+1);obtain⟨o1,o2,_⟩:=one _ _ _ e1;refine⟨v',k',e1,?_⟩;obtain⟨_,_,⟨rfl,rfl⟩|e3⟩:=one t v k e
    .have:=U4 hp (i:=m.1) ht;lia
    .obtain⟨v2,k2,e4,h4⟩:=T.fwd t v k ht e3;have:=o2 _ _ e4;lia
   .obtain⟨v',k',e1⟩:=ex t;obtain⟨o1,o2,_⟩:=one _ _ _ e1;refine⟨v',k',e1,?_⟩;obtain⟨_,_,⟨rfl,rfl⟩|e3⟩:=one (t+1) v k e
    .have:=U5 hp (i:=m.1) ht;lia
    .obtain⟨v2,k2,e4,h4⟩:=T.bwd t v k ht e3;have:=o2 _ _ e4;lia
theorem U7(hp:fb ps)(hm:∀ m∈ms,m.1<=ps.length)(hc:∀ a∈ms,∀ b∈ms,¬ clash ps a b):∃ c,iS ps c/\meets ms c:=by
 obtain⟨tp,T⟩:=Kh hp ms ms.length (acC _);rw[adu] at T;refine SX hp hm T λm dq l v k e1 e2=>?_;rcases Int.lt_or_le v l with h|h
 .obtain⟨i,a,_,h2,h3⟩:=T.clash (hm m dq) e2 e1 h;exact absurd h3 (hc a (acM h2) m dq)
 .exact h
abbrev Cl:=(En × Nat) × (En × Nat)
noncomputable def ie(e:Int)(c:Cl):Bool:=decide (c.1.1=some e) || decide (c.2.1=some e)
noncomputable def wo(e:Int)(cs:List Cl):List Cl:=cs.filter λc=>!ie e c
def ia:Nat->List Cl->Prop
 | 0,_=>True
 | _+1,[]=>False
 | n+1,c::cs=>∀ e,ie e c=true->ia n (wo e (c::cs))
def tN(es:List Int)(cs:List Cl):Prop:=∀ c∈cs,∃ e∈es,ie e c=true
theorem U8(h:tN es (wo e cs)):tN (e::es) cs:=λc hc=>by
 cases hb:ie e c with
 | true=>exact⟨e,.head _,hb⟩
 | false =>
  obtain⟨x,hx,h1⟩:=h c (acZ.mpr ⟨hc,by rw[hb];rfl⟩);exact⟨x,.tail _ hx,h1⟩
inductive Pp where
 | nil:Pp
 | full:Pp
 | cls:Cl->Pp->Pp->Pp
noncomputable def mz:Nat->List Cl->Pp
 | 0,_=>.full
 | _+1,[]=>.full
 | n+1,c::cs=>.cls c (match c.1.1 with|none=>.nil|some e=>mz n (wo e (c::cs))) (if c.1.1=c.2.1 then .nil else match c.2.1 with|none=>.nil|some e=>mz n (wo e (c::cs)))
def jE(gs:List S2)(tb:Tb)(as:List Int)(s:En × Nat)(m:Mk):Prop:=m.1=s.2/\match s.1 with|none=>gs[s.2]?=some m.2|some e=>e∉as/\((e,(s.2:Int)),m.2)∈tb
def Val(ps:List P2)(gs:List S2)(tb:Tb)(mo:Int):Pp->List Int->Prop
 | .nil,_=>False
 | .full,as=>mo<as.length
 | .cls c a b,as=>(∃ m n,jE gs tb as c.1 m/\jE gs tb as c.2 n/\clash ps m n)/\(match c.1.1 with|none=>a = .nil|some e=>Val ps gs tb mo a (as++[e]))/\(match c.2.1 with|none=>b = .nil|some e=>if c.1.1=some e then b = .nil else Val ps gs tb mo b (as++[e]))
theorem oz:ie e c=true↔c.1.1=some e∨c.2.1=some e:=by unfold ie;rw[agQ,decide_eq_true_eq,decide_eq_true_eq]
theorem Ki:∀ (n:Nat) (cs:List Cl) (as:List Int),ia n cs->(as.length:Int)+n=mo+1->(∀ c∈cs,∃ m n,jE gs tb as c.1 m/\jE gs tb as c.2 n/\clash ps m n)->Val ps gs tb mo (mz n cs) as
 | 0,_,as,_,h,_=>by show mo<as.length;lia
 | n+1,[],_,h,_,_=>h.elim
 | n+1,c::cs,as,h,hl,hs=>by
  have sub:∀ e,ie e c=true->Val ps gs tb mo (mz n (wo e (c::cs))) (as++[e]):=λe he=>by
   refine Ki n _ _ (h e he) (by rw[ac1,ac8];lia) λc' kP=>?_;obtain⟨h1,h2⟩:=acZ.mp kP;obtain⟨m,k,a1,a2,a3⟩:=hs c' h1;have h3:ie e c'=false:=by cases hh:ie e c' with|false=>rfl|true=>rw[hh] at h2;cases h2
   have h4:∀ x,c'.1.1=some x∨c'.2.1=some x->x≠e:=λx hx z=>by subst z;rw[oz.mpr hx] at h3;cases h3
   refine⟨m,k,⟨a1.1,?_⟩,⟨a2.1,?_⟩,a3⟩
   .have:=a1.2;cases hx:c'.1.1 with
    | none=>rw[hx] at this;exact this
    | some x =>
     rw[hx] at this;refine⟨λz=>?_,this.2⟩;rcases ac4.mp z with z|z
     .exact this.1 z
     .exact h4 x (.inl hx) (ac9.mp z)
   .have:=a2.2;cases hx:c'.2.1 with
    | none=>rw[hx] at this;exact this
    | some x =>
     rw[hx] at this;refine⟨λz=>?_,this.2⟩;rcases ac4.mp z with z|z
     .exact this.1 z
     .exact h4 x (.inr hx) (ac9.mp z)
  refine⟨hs c (.head _),?_,?_⟩
  .cases hx:c.1.1 with
   | none=>rfl
   | some e=>exact sub e (oz.mpr (.inl hx))
  .cases hx:c.2.1 with
   | none=>dsimp only;split<;>rfl
   | some e =>
    dsimp only;by_cases he:c.1.1=some e
    .rw[if_pos he,if_pos he]
    .rw[if_neg he,if_neg he];exact sub e (oz.mpr (.inr hx))
abbrev Gp:=En × List Mk
def xm(ps:List P2)(gs:List Gp)(cs:List Cl):Prop:=∀ c∈cs,∃ g∈gs,∃ h∈gs,∃ m∈g.2,∃ n∈h.2,c=((g.1,m.1),(h.1,n.1))/\clash ps m n
def kz(ps:List P2)(g h:Gp)(cs:List Cl):Prop:=∀ m∈g.2,∀ n∈h.2,clash ps m n->∃ c∈cs,c.1.1=g.1/\c.2.1=h.1
theorem kz.more(x:kz ps g h cs):kz ps g h (cs++ds):=λm hm n hn hc=>let ⟨c,h1,h2⟩:=x m hm n hn hc;⟨c,aes _ h1,h2⟩
noncomputable def kA(gs:List Mk)(e:Nat)(tb:Tb):List Gp:=(none,gs)::(tM e tb).map λr=>(some r.1,r.2)
theorem A9:m∈eV tb es ↔ ∃ r∈tb,r.1.1∉es/\m=(r.1.2.toNat,r.2):=by
 unfold eV;constructor
 .intro h;obtain⟨r,hr,rfl⟩:=acE.mp h;obtain⟨h1,h2⟩:=acZ.mp hr;exact⟨r,qm h1,by simpa using h2,rfl⟩
 .rintro ⟨r,hr,h1,rfl⟩;exact acE.mpr ⟨r,acZ.mpr ⟨qd.mem_iff.mpr hr,by simpa using h1⟩,rfl⟩
theorem Kj(ay:bK e t tb)(h:m∈gm++eV tb es):∃ g∈kA gm e.toNat tb,m∈g.2/\∀ x,g.1=some x->x∉es:=by
 rcases ac4.mp h with z|z
 .exact⟨_,.head _,z,λx hx=>nomatch hx⟩
 .obtain⟨r,hr,h1,rfl⟩:=A9.mp z;have ho:=ay.2 r hr;unfold kh at ho;refine⟨(some r.1.1,dM tb r.1.1),.tail _ (acE.mpr ⟨(r.1.1,dM tb r.1.1),acE.mpr ⟨r.1.1.toNat,acY.mpr (by lia),by rw[ae7 ho.1.1]⟩,rfl⟩),A8.mpr ⟨r,hr,rfl,rfl⟩,λx hx=>?_⟩;cases hx;exact h1
theorem U9(ay:bK e t tb)(hp:fb ps)(hm:∀ m∈gm++eV tb es,m.1<=ps.length)(hc:tN es cs)(hx:∀ g∈kA gm e.toNat tb,∀ h∈kA gm e.toNat tb,kz ps g h cs):∃ c,iS ps c/\meets (gm++eV tb es) c :=
 U7 hp hm λa ha b hb gj=>by
  obtain⟨g,h1,h2,h3⟩:=Kj ay ha;obtain⟨h,k1,k2,k3⟩:=Kj ay hb;obtain⟨c,c1,c2,c3⟩:=hx g h1 h k1 a h2 b k2 gj;obtain⟨x,x1,x2⟩:=hc c c1;rcases oz.mp x2 with z|z
  .exact h3 x (c2.symm.trans z) x1
  .exact k3 x (c3.symm.trans z) x1
theorem snd_mk(ay:bK e t tb)(hg:∀ m∈gm,gs[m.1]?=some m.2)(h:xm ps (kA gm e.toNat tb) cs):∀ c∈cs,∃ m n,jE gs tb [] c.1 m/\jE gs tb [] c.2 n/\clash ps m n:=λc hc=>by
 obtain⟨g,h1,k,h2,m,h3,n,h4,rfl,h5⟩:=h c hc;have one:∀ g∈kA gm e.toNat tb,∀ m∈g.2,jE gs tb [] (g.1,m.1) m:=λg oy m hm=>by
  rcases acL.mp oy with rfl|z
  .exact⟨rfl,hg m hm⟩
  .obtain⟨q,hq,rfl⟩:=acE.mp z;obtain⟨i,_,rfl⟩:=acE.mp hq;obtain⟨r,hr,e1,rfl⟩:=A8.mp hm;have ho:=ay.2 r hr;unfold kh at ho;refine⟨rfl,aeK,?_⟩;show (((i:Int),((r.1.2.toNat:Nat):Int)),r.2)∈tb;rw[ae7 ho.2.1,<- e1];exact hr
 exact⟨m,n,one g h1 m h3,one k h2 n h4,h5⟩
section
end
abbrev kB(h:aeV)(e it:acF)(i:Int)(old:acB)(a:acF)(f:Bool):Prop :=
 h.get? e=some { cls:=.type "enumerate",dict:=none,data:=.fields #[af4 a,.bool f,.ref it,af4 i,.none,old],slots:=#[] }
section
theorem Va{e it l a:acF}{f:Bool}{oa:Obj}{i:Nat}{items:Array acB}{x old:acB}{Q:Option acB->acI->Prop}
 (he:kB s.heap e it i old a f) (ha:s.heap.get? a=some oa) (Vb:a≠e) (Vc:a≠it) (hit:s.heap.IsListIter it l i) (hl:s.heap.IsList l items) (hx:items[i]?=some x) (bV:e≠it)
 (hQ:∀ h',kB h' e it ((i:Int)+1) old a true->h'.IsListIter it l (i+1) ->
   h'.get? s.heap.objs.size=some { cls:=.type "tuple",data:=.seq #[.int i s.toks,x] }->h'.objs.size=s.heap.objs.size+1 ->
   (∀ b o,b≠e->b≠it->s.heap.get? b=some o->h'.get? b=some o)->Q (some (.ref s.heap.objs.size)) { s with heap:=h',toks:=s.toks+1 }) :
 acQ (model prog w) A (afj (.ref e)) Q E s:=by
 have hT:s.TypeIs (.ref e) "enumerate" := ⟨_,he,rfl⟩;obtain⟨hp,g,d,tk,os⟩:=s;unfold afj;refine acq (afZ (ad1 (name:=adS "__next__") hT aeI
  (adX aeI hT agF ?_ (agy _))))
 show acQ _ _ (field (.ref e) 2 >>= _) _ _ _;refine acq (agY he rfl (x:=.ref it) rfl ?_);refine acq (wpAny_nextOf_list_item hit hl hx λh₁ Kk qC=>?_);replace qC:Heap.SameBut it hp h₁:=qC;have xq:kB h₁ e it i old a f:=(qC.2 e bV).trans he;show acQ _ _ (field (.ref e) 3 >>= _) _ _ ⟨h₁,g,d,tk,os⟩;refine acq (agY xq rfl (x:=af4 i) rfl ?_);show acQ _ _ (field (.ref e) 4 >>= _) _ _ ⟨h₁,g,d,tk,os⟩;refine acq (agY xq rfl (x:=.none) rfl ?_);show acQ _ _ (mkInt i >>= _) _ _ ⟨h₁,g,d,tk,os⟩;refine acq (wpAny_mkInt ?_);show acQ _ _ (ajS (.ref e) 3 (af4 ((i:Int)+1)) >>= _) _ _ ⟨h₁,g,d,tk+1,os⟩;refine acq (ag7 xq (by simp) λh₂ xr qD=>?_);replace qD:Heap.SameBut e h₁ h₂:=qD;replace xr:kB h₂ e it ((i:Int)+1) old a f:=xr;show acQ _ _ (ajS (.ref e) 4 .none >>= _) _ _ ⟨h₂,g,d,tk+1,os⟩;refine acq (ag7 xr (by simp) λh₃ xt qE=>?_);replace qE:Heap.SameBut e h₂ h₃:=qE;replace xt:kB h₃ e it ((i:Int)+1) old a f:=xt;show acQ _ _ (akJ [.int i tk,x] >>= _) _ _ ⟨h₃,g,d,tk+1,os⟩;refine acq (wpAny_newTuple ?_);have tO:kB (h₃.push { cls:=.type "tuple",data:=.seq #[.int i tk,x] }) e it ((i:Int)+1) old a f:=acx _ xt;generalize tP:h₃.push { cls:=.type "tuple",data:=.seq #[.int i tk,x] }=h₄ at tO;have hsz:h₃.objs.size=hp.objs.size:=by rw[qE.1,qD.1,qC.1]
 have tG:e<hp.objs.size:=acy he;have Vd:h₄.get? hp.objs.size=some { cls:=.type "tuple",data:=.seq #[.int i tk,x] }:=by rw[<- tP,<- hsz];exact acG _ rfl
 have Ve:h₄.objs.size=hp.objs.size+1:=by rw[<- tP,afc,hsz]
 have Kl:∀ b o,b≠e->b≠it->hp.get? b=some o->h₄.get? b=some o:=λb o jV JQ hb=>by rw[<- tP];exact acx _ (qE.extBut b o jV (qD.extBut b o jV (qC.extBut b o JQ hb)))
 have Vf:h₄.IsListIter it l (i+1):=by rw[<- tP];obtain⟨o,ho,r⟩:=(Kk.extBut qD.extBut (ady bV)).extBut qE.extBut (ady bV);exact⟨o,acx _ ho,r⟩
 show acQ _ _ (afL (.ref e) >>= _) _ _ ⟨h₄,g,d,tk+1,os⟩;rw[hsz];clear tP xt qE xr qD xq qC Kk hsz h₃ h₂ h₁;have Vg:h₄.get? a=some oa:=Kl a oa Vb Vc ha;refine acq ?_;unfold afL;refine acq (agY tO rfl (x:=af4 a) rfl ?_);show acQ _ _ (loadIfAlive ((a:Int).toNat) >>= _) _ _ _;rw[adt];refine acq (PySem.W.kdx_alive Vg ?_);simp only[Option.isNone_some,ac2,if_false];refine acq (agY tO rfl (x:=.bool f) rfl ?_);have fin:∀ h₅:aeV,kB h₅ e it ((i:Int)+1) old a true->Heap.SameBut e h₄ h₅->Q (some (.ref hp.objs.size)) ⟨h₅,g,d,tk+1,os⟩:=λh₅ tQ mC =>
  hQ h₅ tQ (Vf.extBut mC.extBut (ady bV)) (mC.extBut _ _ (adJ tG) Vd) (by show h₅.objs.size=hp.objs.size+1;rw[mC.1,Ve]) λb o Km gy q=>mC.extBut b o Km (Kl b o Km gy q)
 cases f with
 | true =>
  rw[if_neg (show ¬ ((ad5 true != ad5 true)=true) from acP)];refine acw ?_;simp only[ac2,if_false];exact acw ⟨_,rfl,acw (fin h₄ tO (Heap.SameBut.refl _ _))⟩
 | false =>
  rw[if_pos (show (ad5 false != ad5 true)=true from rfl)];refine acq (ag7 tO (by simp) λh₅ tQ mC=>?_);replace mC:Heap.SameBut e h₄ h₅:=mC;replace tQ:kB h₅ e it ((i:Int)+1) old a true:=tQ;refine acw ?_;simp only[ac2,if_false];exact acw ⟨_,rfl,acw (fin h₅ tQ mC)⟩
theorem Vh{e it l a:acF}{f:Bool}{i:Nat}{items:Array acB}{old:acB}{Q:Option acB->acI->Prop}(hh:A.handled=none)
 (he:kB s.heap e it i old a f) (hit:s.heap.IsListIter it l i) (hl:s.heap.IsList l items) (hx:items[i]?=none)
 (hQ:∀ h',ake it s.heap h'->Q none { s with heap:=h' }):acQ (model prog w) A (afj (.ref e)) Q E s:=by
 have hT:s.TypeIs (.ref e) "enumerate" := ⟨_,he,rfl⟩;unfold afj;refine acq (afZ (ad1 (name:=adS "__next__") hT aeI
  (adX aeI hT agF ?_ (agy _))))
 show acQ _ _ (field (.ref e) 2 >>= _) _ _ _;refine acq (agY he rfl (x:=.ref it) rfl ?_);refine acq (wpAny_nextOf_list_end hh hit hl hx λh' x qi cV=>?_);obtain⟨o,ho,hc⟩:=cV;refine acq (afa (T := "StopIteration") (b:=true) ⟨o,ho,hc⟩ aiD ?_);exact acw (hQ _ qi)
def oA(h:aeV)(e it S:acF)(i:Nat):Prop :=
 (∃ old,IsEnum h e it i old) ∨ ∃ old a f oa,kB h e it i old a f/\h.get? a=some oa/\a≠e/\a≠it/\a≠S
theorem oA.keep(x:oA h e it S i)(hk:∀ b o,b≠S->h.get? b=some o->h'.get? b=some o)(hI:e≠S):oA h' e it S i:=by
 rcases x with ⟨old,q⟩|⟨old,a,f,oa,q,ha,h1,h2,h3⟩
 .exact .inl ⟨old,hk _ _ hI q⟩
 .exact .inr ⟨old,a,f,oa,hk _ _ hI q,hk _ _ h3 ha,h1,h2,h3⟩
theorem Vi(st:oA s.heap e it S i)(hS:S<s.heap.objs.size)(hit:s.heap.IsListIter it l i)(hl:s.heap.IsList l items)(hx:items[i]?=some x)(bV:e≠it)(hQ:∀ h',oA h' e it S (i+1)->h'.IsListIter it l (i+1) ->
 h'.get? s.heap.objs.size=some { cls:=.type "tuple",data:=.seq #[.int i s.toks,x] }->h'.objs.size=s.heap.objs.size+1 ->
 (∀ b o,b≠e->b≠it->s.heap.get? b=some o->h'.get? b=some o)->Q (some (.ref s.heap.objs.size)) { s with heap:=h',toks:=s.toks+1 }) :
 acQ (model prog w) A (afj (.ref e)) Q E s:=by
 have ce:((i:Int)+1)=((i+1:Nat):Int):=by lia
 have hi:it<s.heap.objs.size:=let ⟨_,q,_⟩:=hit;acy q;rcases st with ⟨old,he⟩|⟨old,a,f,oa,he,ha,h1,h2,h3⟩
 .exact ahY he hit hl hx bV λh' q1 q2 q3 q4 q5=>hQ h' (.inr ⟨x,_,false,_,by rw[<- ce];exact q1,q3,adJ (acy he),adJ hi,adJ hS⟩) q2 q3 q4 q5
 .exact Va he ha h1 h2 hit hl hx bV λh' q1 q2 q3 q4 q5=>hQ h' (.inr ⟨old,a,true,oa,by rw[<- ce];exact q1,q5 a oa h1 h2 ha,h1,h2,h3⟩) q2 q3 q4 q5
theorem Vj(hh:A.handled=none)(st:oA s.heap e it S i)(hit:s.heap.IsListIter it l i)(hl:s.heap.IsList l items)(hx:items[i]?=none)(hQ:∀ h',ake it s.heap h'->Q none { s with heap:=h' }):acQ (model prog w) A (afj (.ref e)) Q E s:=by
 rcases st with ⟨old,he⟩|⟨old,a,f,oa,he,_⟩
 .exact aic hh he hit hl hx hQ
 .exact Vh hh he hit hl hx hQ
end
structure lE(items:Array acB)(lo:acF)(h:aeV)(as:List acF):Prop where
 rise:as.Pairwise (· < ·)
 above:∀ a∈as,lo<=a
 pairs:∀ (j:Nat) (a:acF),as[j]?=some a->∃ t x,items[j]?=some x/\h.get? a=some { cls:=.type "tuple",data:=.seq #[.int j t,x] }
theorem lE.there{items:Array acB}{lo:acF}{h:aeV}{as:List acF}(g:lE items lo h as){a:acF}(ha:a∈as):a<h.objs.size:=by obtain⟨j,hj⟩:=adD.mp ha;obtain⟨_,_,_,e⟩:=g.pairs j a hj;exact acy e
theorem lE.keep{items:Array acB}{lo:acF}{h h':aeV}{as:List acF}(g:lE items lo h as)(k:∀ b o,lo<=b->h.get? b=some o->h'.get? b=some o):lE items lo h' as :=
 ⟨g.rise,g.above,λj a hj=>let ⟨t,x,e1,e2⟩:=g.pairs j a hj;⟨t,x,e1,k a _ (g.above a (acM hj)) e2⟩⟩
section
variable{prog:adn}{w:ad2}{A:aeb}{s:acI}{R:ajB->acI->Prop}{items:Array acB}
theorem Vk{S e it l lo:acF}(hh:A.handled=none)(bV:e≠it)(qF:S≠e)(qG:S≠it)(xu:l≠S)(hle:l≠e)(my:l≠it)(Kn:S<lo)(Vl:e<lo)(Ko:it<lo)(hn:items.size<=acV)(res:acB){h₁:aeV}
 (hR:∀ h' tk acc c as,(∀ b o,b≠S->b≠e->b≠it->h₁.get? b=some o->h'.get? b=some o)->h'.get? S=some { cls:=.type "list",dict:=none,data:=.seq acc c,slots:=#[] }->as.length=items.size->lE items lo h' as ->
   acc.toList=as.map ac3->R (.ok (.ret res)) { s with heap:=h',toks:=tk }) :
 ∀ (k i:Nat) (h:aeV) (tk c:Nat) (acc:Array acB) (as:List acF),items.size-i=k->i<=items.size->oA h e it S i->h.IsListIter it l i->h.IsList l items->(∀ b o,b≠S->b≠e->b≠it->h₁.get? b=some o->h.get? b=some o) ->
  h.get? S=some { cls:=.type "list",dict:=none,data:=.seq acc c,slots:=#[] }->acc.toList=as.map ac3->as.length=i->lE items lo h as->lo<=h.objs.size ->
  afH (model prog w) A (.builtin "list.extend.loop" ⟨[.ref S,.ref e,res],[]⟩) R { s with heap:=h,toks:=tk }:=by
 intro k
 induction k with
 | zero =>
  intro i h tk c acc as hk hi cG hit hl Ba hS gF mD hG hz;have bU:i=items.size:=by lia
  refine adM ahh ?_;rw[adq aeT _];show acQ _ A.in1 (afj (.ref e) >>= _) _ _ _;refine acq (Vj (s:={ s with heap:=h,toks:=tk }) (A:=A.in1) hh cG hit hl (aff (by lia)) λh' he=>?_);exact acw (hR h' tk acc c as (λb o h1 h2 h3 q=>he b o h3 (Ba b o h1 h2 h3 q)) (he S _ qG hS) (by lia) (hG.keep λb o hb q=>he b o (adJ (acX Ko hb)) q) gF)
 | succ k ih =>
  intro i h tk c acc as hk hi cG hit hl Ba hS gF mD hG hz;have bb:i<items.size:=by lia
  refine adM ahh ?_;rw[adq aeT _];show acQ _ A.in1 (afj (.ref e) >>= _) _ _ _;refine acq (Vi (s:={ s with heap:=h,toks:=tk }) (A:=A.in1) cG (acy hS) hit hl (adi bb) bV λh' cY lh hT hsz gB=>?_);have lB:=gB S _ qF qG hS;have Kp:acc.size=i:=by
   have:acc.toList.length=i:=by rw[gF,acs,mD]
   simpa using this
  show acQ _ A.in1 (ahq S (·.push (.ref h.objs.size)) >>= _) _ _ _;refine acq ?_;have Kq:lo<=h.objs.size:=hz;have sb:∀ b o,b≠S->h'.get? b=some o->(h'.update S (adZ (·.push (.ref h.objs.size)))).get? b=some o:=λb o hb q=>(acS _ _ (ady hb)).trans q;refine aeD lB rfl (acw ⟨aet aeT _,ih (i+1) _ (tk+1) _ (acc.push (.ref h.objs.size)) (as++[h.objs.size]) (by lia) bb
   (cY.keep sb (ady qF)) (lh.at λo q=>sb it o (ady qG) q) ((hl.at λo q=>gB l o hle my q).at λo q=>sb l o xu q)
   (λb o h1 h2 h3 q=>sb b o h1 (gB b o h2 h3 (Ba b o h1 h2 h3 q))) (adh _ lB rfl) (by rw[ajy,gF];simp) (by rw[ac1,mD];rfl) ?_ ?_⟩)
   (by rw[Kp];lia) (by show (acc.push _).size<=acV+1;rw[Array.size_push,Kp];lia)
  .have up:∀ b o,lo<=b->h.get? b=some o->(h'.update S (adZ (·.push (.ref h.objs.size)))).get? b=some o:=λb o hb q =>
    sb b o (adJ (acX Kn hb)) (gB b o (adJ (acX Vl hb)) (adJ (acX Ko hb)) q)
   have G':=hG.keep up;refine⟨?_,?_,?_⟩
   .refine List.pairwise_append.mpr ⟨hG.rise,List.pairwise_singleton _ _,λa ha b hb=>?_⟩;rw[ac9.mp hb];exact hG.there ha
   .intro a ha;rcases ac4.mp ha with ha|ha
    .exact hG.above a ha
    .rw[ac9.mp ha];exact Kq
   .intro j a hj;by_cases hjl:j<as.length
    .rw[adO hjl] at hj;exact G'.pairs j a hj
    .rw[adL (by lia)] at hj;have Vm:j-as.length=0:=by
      rcases ajb (j-as.length) with z|z
      .exact z
      .rw[adK (by rw[ac8];exact z)] at hj;cases hj
     rw[Vm] at hj;cases hj;obtain rfl:j=i:=by lia
     exact⟨_,_,adi bb,sb _ _ (adJ (acX Kn Kq)) hT⟩
  .rw[(adG ..).1];show lo<=h'.objs.size;rw[hsz];exact ajw hz
end
theorem Vn:aiq (.type "enumerate") "__len__" = pure none:=by rw[af0,aeQ];kernel_rfl
theorem Vo:aiq (.type "enumerate") "__length_hint__" = pure none:=by rw[af0,aeQ];kernel_rfl
section
theorem Vp(hh:A.handled=none)(old:acB)(he:IsEnum s.heap e it 0 old)(hit:s.heap.IsListIter it l 0)(hl:s.heap.IsList l items)(bV:e≠it)(hle:l≠e)(my:l≠it)(S:acF)(qF:S≠e)(qG:S≠it)(xu:l≠S)(res:acB)(c:Nat)(hS:s.heap.get? S=some { cls:=.type "list",data:=.seq #[] c })(hn:items.size<=acV)(hR:∀ g tk acc c' as,(∀ b o,b≠S->b≠e->b≠it->s.heap.get? b=some o->g.get? b=some o)->g.get? S=some { cls:=.type "list",dict:=none,data:=.seq acc c',slots:=#[] }->as.length=items.size->lE items s.heap.objs.size g as ->
 acc.toList=as.map ac3->R (.ok (.ret res)) { s with heap:=g,toks:=tk }) :
 acQ (model prog w) A.in1 (aeG (.ref S) (.ref e) res)
  (λf u=>match f with|.done f=>R (.ok f) u|.again k=>k.quiet=true/\afH (model prog w) A k R u) (λe u=>R (.error e) u) s:=by
 have h1:aht (.ref S) (.ref e)=false:=by simp[aht,qF]
 have hT:s.TypeIs (.ref e) "enumerate" := ⟨_,he,rfl⟩;unfold aeG;refine acq (ajH hT ?_);rw[if_neg (by rw[h1];decide)];refine acq (ahr he ?_);refine acq (adY ?_);unfold afq;refine acq (afo hT Vn ?_);show acQ _ A.in1 (specialOf (ac3 e) (adS "__length_hint__") >>= _) _ _ _;refine acq (afo hT Vo ?_);refine acw ?_;show acQ _ A.in1 (rule "list.extend.makes-room" >>= λ_=>akR (.ref S) >>= λ_=>again (.builtin "list.extend.loop" ⟨[.ref S,.ref e,res],[]⟩)) _ _ _;refine acq (afP ?_);refine acq ?_;show acQ _ A.in1 (ahq S (·.push .none) >>= λ_=>ahq S (·.pop)) _ _ _;refine acq (aeD hS rfl ?_);have Kr:=adh (adZ (·.push Value.none)) hS rfl;refine aeD Kr rfl ?_;have Vq:=adh (adZ (·.pop)) Kr rfl;have lF:∀ b o,b≠S->s.heap.get? b=some o->((s.heap.update S (adZ (·.push Value.none))).update S (adZ (·.pop))).get? b=some o :=
  λb o hb e=>(acS _ _ (ady hb)).trans ((acS _ _ (ady hb)).trans e)
 have sz:((s.heap.update S (adZ (·.push Value.none))).update S (adZ (·.pop))).objs.size=s.heap.objs.size:=by rw[(adG ..).1,(adG ..).1]
 refine acw ⟨aet aeT _,Vk (s:=s) (l:=l) (it:=it) (lo:=s.heap.objs.size) (items:=items) (h₁:=s.heap) hh bV qF qG xu hle my (acy hS) (acy he) (let ⟨_,q,_⟩:=hit;acy q) hn res hR
  items.size 0 _ s.toks _ #[] [] rfl (ac5 _) (.inl ⟨old,lF _ _ (ady qF) he⟩) (hit.at λo q=>lF it o (ady qG) q) (hl.at λo q=>lF l o xu q) (λb o h1 _ _ q=>lF b o h1 q) Vq rfl rfl ⟨.nil,(λ_ h=>nomatch h),λj a h=>by cases h⟩ (by rw[sz];exact acC _)⟩
theorem Vr(hh:A.handled=none)(old:acB)(he:IsEnum s.heap e it 0 old)(hit:s.heap.IsListIter it l 0)(hl:s.heap.IsList l items)(bV:e≠it)(hle:l≠e)(my:l≠it)(hn:items.size<=acV)(hQ:∀ g tk acc c as,(∀ b o,b≠e->b≠it->s.heap.get? b=some o->g.get? b=some o)->g.get? s.heap.objs.size=some { cls:=.type "list",dict:=none,data:=.seq acc c,slots:=#[] }->as.length=items.size->lE items (s.heap.objs.size+1) g as ->
 acc.toList=as.map ac3->Q (.ref s.heap.objs.size) { s with heap:=g,toks:=tk }) :
 acQ (model prog w) A (call (.type "list") [.ref e]) Q E s:=by
 have le:e<s.heap.objs.size:=acy he;have li:it<s.heap.objs.size:=let ⟨_,q,_⟩:=hit;acy q;have ll:l<s.heap.objs.size:=let ⟨_,q,_⟩:=hl;acy q;refine callType_codes (Q₁:=λy s₁=>y = .ref s.heap.objs.size/\s₁ = { s with heap:=s.heap.push { cls:=.type "list",data:=.seq #[] } }) PySem.F.called_list (PySem.F.typeCall_list_1 _) PySem.F.entry_list_init (code_list_new _ ⟨rfl,rfl⟩) λy s₁ h₁=>?_;obtain⟨rfl,rfl⟩:=h₁;have e0:(s.heap.push { cls:=.type "list",data:=.seq #[] }).get? s.heap.objs.size=some { cls:=.type "list",data:=.seq #[] }:=acG _ rfl;refine⟨⟨_,e0,rfl⟩,PySem.F.args_list_init_2 _ _,?_⟩;show acQ _ A.in1.in1 (do let z <- ah1 (.ref s.heap.objs.size);akP (.ref s.heap.objs.size) (λ_=>#[]);letGo z.toList.reverse;aeG (.ref s.heap.objs.size) (.ref e) .none) _ _ _;refine acq ?_;unfold ah1;refine acq (afA e0 rfl (acw ?_));refine acq (m:=ahq s.heap.objs.size (λ_=>#[])) (aeD e0 rfl ?_);have e1:=adh (adZ (λ_=>(#[]:Array acB))) e0 rfl;have lF:∀ b o,b≠s.heap.objs.size->s.heap.get? b=some o->((s.heap.push { cls:=.type "list",data:=.seq #[] }).update s.heap.objs.size (adZ (λ_=>(#[]:Array acB)))).get? b=some o :=
  λb o hb e=>(acS _ _ (ady hb)).trans (acx _ e)
 have sz:((s.heap.push { cls:=.type "list",data:=.seq #[] }).update s.heap.objs.size (adZ (λ_=>(#[]:Array acB)))).objs.size=s.heap.objs.size+1:=by rw[(adG ..).1,size_push']
 refine acq (afJ ?_);exact Vp (A:=A.in1) hh old (lF e _ (acO le) he) (hit.at λo q=>lF it o (acO li) q) (hl.at λo q=>lF l o (acO ll) q) bV hle my s.heap.objs.size (adJ le) (adJ li) (acO ll) .none _ e1 hn
  λg tk acc c as hk hS mD hG gF=>⟨rfl,hQ g tk acc c as (λb o h1 h2 q=>hk b o (acO (acy q)) h1 h2 (lF b o (acO (acy q)) q)) hS mD (by rw[<- sz];exact hG) gF⟩
theorem Inv.Ks(I:Inv X pins σ H s)(hf:eJ X pins H T)(new:bN X.prog X.w (upd H T o) s.heap T o):Inv X pins σ (upd H T o) s:=by
 have kX:∀ b u,H b=some u->b≠T:=λb u e=>jg e hf.1;have up:∀ b u,H b=some u->upd H T o b=some u:=λb u e=>by rw[aD (kX b u e)];exact e
 refine I.step (g':=s.gens) (t':=s.toks) (d':=s.drawn) (h':=s.heap) (ch:=[T]) (λb hb=>?_) (λb o _ _ hc e _=>e) (λb o _ _ hc e _=>⟨o.slots,e⟩) (λb u hc e n=>by rw[aD (by simpa using hc)];exact n)
  (λb o hc e=>⟨o,e⟩) (λb xs e=>up b _ e) (λb _ _ e=>up b _ e) (λb ps e=>⟨#[],by rw[up b _ e];simp⟩) (λm hm=>hm) (λb u e=>?_) I.bare
 .obtain rfl:b=T:=by simpa using hb
  obtain⟨_,d1,d2,d3,d4,d5⟩:=hf;exact⟨d3,d1,d4,d5⟩
 .by_cases hb:b=T
  .subst hb;rw[aq] at e;cases e;exact new
  .rw[aD hb] at e;exact (I.ay b u e).stay (λc v hc q=>q) (λc q=>up c _ q) λc xs q=>up c _ q
theorem Vs(h:eJ X pins H b)(hb:b≠T):eJ X pins (upd H T o) b:=⟨by rw[aD hb];exact h.1,h.2⟩
theorem Kt:∀ (as:List acF) (xs:List V) (us:List acB) (i:Nat) (H:Hp),Inv X pins σ H s->Vals xs us->as.length=xs.length->as.Pairwise (· < ·)->(∀ a∈as,eJ X pins H a) ->
 (∀ j a u,as[j]?=some a->us[j]?=some u->∃ t,s.heap.get? a=some { cls:=.type "tuple",data:=.seq #[.int ((i+j:Nat):Int) t,u] }) ->
 ∃ H',ah H H'/\Inv X pins σ H' s/\(∀ b,b∉as->H' b=H b)/\∀ j a x,as[j]?=some a->xs[j]?=some x->H' a=some (.tup [.int ((i+j:Nat):Int),x])
 | [],[],us,i,H,I,r,hl,hp,hf,ht=>⟨H,λ_ _ e=>e,I,λ_ _=>rfl,λj a x h=>by cases h⟩
 | [],_::_,us,i,H,I,r,hl,hp,hf,ht=>by cases hl
 | _::_,[],us,i,H,I,r,hl,hp,hf,ht=>by cases hl
 | a::as,x::xs,us,i,H,I,r,hl,hp,hf,ht=>by
  cases us with
  | nil=>cases r
  | cons u us =>
  cases r with
  | cons r rs =>
  obtain⟨bb,dZ⟩:=ajc.mp hp;have na:∀ b∈as,b≠a:=λb hb=>adJ (bb b hb);obtain⟨t,h0⟩:=ht 0 a u rfl rfl;have I1:=Inv.Ks (o:=.tup [.int ((i+0:Nat):Int),x]) I (hf a (.head _)) ⟨zW,[.int ((i+0:Nat):Int) t,u],.cons ⟨_,rfl⟩ (.cons r .nil),⟨_,h0,rfl,_,rfl⟩⟩;obtain⟨H',s1,I2,k1,k2⟩:=Kt as xs us (i+1) _ I1 rs (by simpa using hl) dZ (λb hb=>Vs (hf b (.tail _ hb)) (na b hb)) λj b v e1 e2=>by obtain⟨t',q⟩:=ht (j+1) b v e1 e2;exact⟨t',by rw[show i+1+j=i+(j+1) by lia];exact q⟩
  refine⟨H',λb v e=>s1 b v (by rw[aD (jg e (hf a (.head _)).1)];exact e),I2,λb hb=>?_,λj b y e1 e2=>?_⟩
  .rw[k1 b (λz=>hb (.tail _ z)),aD (λz=>hb (by rw[z];exact .head _))]
  .cases j with
   | zero =>
    cases e1;cases e2;rw[k1 a (λz=>na a z rfl),aq]
   | succ j =>
    have:=k2 j b y e1 e2;rw[show i+1+j=i+(j+1) by lia] at this;exact this
end
theorem Ku:∀ as:List acF,Vals (as.map V.ref) (as.map ac3)
 | []=>.nil
 | _::as=>.cons rfl (Ku as)
def Kv(K:acr)(ta:TA):TE:=λσ H Q=>ta σ H λvs H1=>∃ a xs,vs=[.ref a]/\ai K H1 a xs/\∀ l ys H',ah H1 H'->H1 l=none->H' l=some (.lst ys)->ys.length=xs.length ->
 (∀ j y x,ys[j]?=some y->xs[j]?=some x->∃ p,y = .ref p/\H1 p=none/\H' p=some (.tup [.int (j:Nat),x]))->Q (.ref l) H'
theorem Vt(hc:X.calm=true)(hg:Gl X "list")(hm:X.mg "list" = none)(tJ:Gl X "enumerate")(lC:X.mg "enumerate" = none)(ha:PA X [e] ta)(hs:acW [.Call (.Name "enumerate" p2) [e] [] gI] X.env=[(false,eval (.Call (.Name "enumerate" p2) [e] [] gI) X.env)]:=by rfl)(cZ:acW [e] X.env=[(false,eval e X.env)]:=by rfl) :
 PE X (.Call (.Name "list" p) [.Call (.Name "enumerate" p2) [e] [] gI] [] pos) (Kv X.K ta):=by
 intro pins s σ H Q I h;refine ak5 (fO I hg hm pO (adg ?_ hs rfl));rw[hs];show acQ _ _ (spliced ((false,eval (.Call (.Name "enumerate" p2) [e] [] gI) X.env)::ael pos [])) _ _ s;refine aem (ak5 (fO I tJ lC GS (adg (aB (ha gI pins s σ H _ I h) λus s1 zq=>?_) cZ rfl)));obtain⟨vs,H1,I1,r1,q1⟩:=zq;obtain⟨a,xs,rfl,hq,q⟩:=q1;obtain⟨u,rfl,ru⟩:=vals1 r1;cases ru;obtain⟨ao,rv,pl,hz⟩:=I1.list hq;refine aiN pl.isList λh' he hit hsz hk=>?_;refine aex ?_;have la:a<s1.heap.objs.size:=let ⟨_,e,_⟩:=pl.isList;acy e;refine Vr (s:={ s1 with heap:=h' }) (l:=a) (items:=ao.toArray) (I1.ok.hd hc) .none he hit (pl.isList.at λo e=>hk a o e) (ajQ _) (acO (afv la)) (acO la) (by rw[acK,<- rv.length];exact hz) λg tk acc c as kC hD mD hG gF=>?_;have up:∀ b o,s1.heap.get? b=some o->g.get? b=some o:=λb o e=>kC b o (acO (afv (acy e))) (acO (acy e)) (hk b o e);have I2:Inv X pins σ H1 { s1 with heap:=g,toks:=tk }:=I1.kept (t':=tk) up;have Bb:∀ b∈as,s1.heap.objs.size<=b:=λb hb=>by have:=hG.above b hb;have e:({ s1 with heap:=h' }:acI).heap.objs.size=s1.heap.objs.size+2:=hsz;walk_at "o"
 obtain⟨H',s2,I3,k1,k2⟩:=Kt as xs ao 0 H1 I2 rv (by rw[mD,acK];exact rv.length.symm) hG.rise (λb hb=>I1.iy (Bb b hb) (I1.ay.fresh (Bb b hb))) λj b v e1 e2=>by
  obtain⟨t,x,e3,e4⟩:=hG.pairs j b e1;have:x=v:=by simpa [e2] using e3.symm
  subst this;exact⟨t,by rw[ak2];exact e4⟩
 have hl:s1.heap.objs.size<=h'.objs.size:=by rw[hsz];exact ajR _ _
 have nl:h'.objs.size∉as:=λz=>absurd (hG.above _ z) (Nat.not_succ_le_self _);have f0:=I1.ay.fresh hl;have Kw:as.length=xs.length:=by rw[mD,acK];exact rv.length.symm
 refine⟨.ref h'.objs.size,upd H' h'.objs.size (.lst (as.map V.ref)),Inv.Ks I3 (I1.iy hl (by rw[k1 _ nl];exact f0)) ⟨by rw[acs,Kw];exact hz,acc.toList,c,?_,by rw[aiz];exact hD⟩,rfl,q _ (as.map V.ref) _ (λb v e=>?_) f0 (aq ..) (by rw[acs,Kw]) λj y x e1 e2=>?_⟩
 .rw[gF];exact Ku as
 .rw[aD (jg e f0)];exact s2 b v e
 .rw[acJ] at e1;obtain⟨b,hb,rfl⟩:=adf.mp e1;have hm:=acM hb;refine⟨b,rfl,I1.ay.fresh (Bb b hm),?_⟩;rw[aD (λz=>nl (by rw[<- z];exact hm))];have:=k2 j b x hb e2;rw[ak2] at this;exact this
def mE:L2.St->Nat->(V->Prop)->Prop
 | [],_,_=>False
 | x::_,0,Q=>match x with|some v=>Q v|none=>False
 | _::σ,n+1,Q=>mE σ n Q
def cD(x:V)(Q:Int->Prop):Prop:=match x with|.int i=>Q i|_=>False
def oB(x:V)(Q:Bool->Prop):Prop:=match x with|.bl i=>Q i|_=>False
def tR(x:V)(Q:acF->Prop):Prop:=match x with|.ref i=>Q i|_=>False
def Vu(xs:List V)(Q:V->Prop):Prop:=match xs with|[x]=>Q x|_=>False
def Vv(xs:List V)(Q:V->V->Prop):Prop:=match xs with|[x,y]=>Q x y|_=>False
def mF(x:V)(Q:Bool->Prop):Prop:=match x with|.non=>Q true|_=>Q false
def kD(x:V)(Q:Bool->Prop):Prop:=match x with|.non=>Q false|_=>Q true
section
theorem Vw:mE (some v::σ) 0 Q=Q v:=rfl
theorem Vx:mE (o::σ) (n+1) Q=mE σ n Q:=rfl
theorem Vy:cD (.int i) QI=QI i:=rfl
theorem Vz:oB (.bl b) QB=QB b:=rfl
theorem VA:tR (.ref a) QR=QR a:=rfl
theorem VB:Vu [x] Q=Q x:=rfl
theorem VC:Vv [x,y] Q2=Q2 x y:=rfl
theorem VD:mF .non QB=QB true:=rfl
theorem VE:mF (.int i) QB=QB false:=rfl
theorem VF:mF (.bl b) QB=QB false:=rfl
theorem VG:mF (.ref a) QB=QB false:=rfl
theorem VH:kD .non QB=QB false:=rfl
theorem VI:kD (.int i) QB=QB true:=rfl
theorem VJ:kD (.bl b) QB=QB true:=rfl
theorem VL:kD (.ref a) QB=QB true:=rfl
theorem VM:kD (.str s) QB=QB true:=rfl
theorem VN:mF (.str s) QB=QB false:=rfl
theorem mE.ex:∀ {σ:L2.St} {n:Nat},mE σ n Q->∃ v,σ[n]?=some (some v)/\Q v
 | [],_,h=>h.elim
 | some v::_,0,h=>⟨v,rfl,h⟩
 | none::_,0,h=>h.elim
 | _::σ,n+1,h=>mE.ex (σ:=σ) (n:=n) h
theorem cD.ex(h:cD x QI):∃ i,x = .int i/\QI i:=by cases x<;>first|exact⟨_,rfl,h⟩|exact h.elim
theorem oB.ex(h:oB x QB):∃ i,x = .bl i/\QB i:=by cases x<;>first|exact⟨_,rfl,h⟩|exact h.elim
theorem tR.ex(h:tR x QR):∃ i,x = .ref i/\QR i:=by cases x<;>first|exact⟨_,rfl,h⟩|exact h.elim
theorem kD.ex(h:kD x QB):QB (!decide (x = .non)):=by cases x<;>exact h
theorem mF.ex(h:mF x QB):QB (decide (x = .non)):=by cases x<;>exact h
end
section
variable{X:Cx}{e a b c:agu}{pos:Pos}{ta tb tc:TE}{op iB:CmpOp}
theorem Kx(h:Q (sS x)):kD x Q:=by cases x<;>exact h
theorem Bc{c:Prop}[Decidable c]{Q:Bool->Prop}(h:Q (decide c)):if c then Q true else Q false:=by
 by_cases z:c
 .rw[decide_eq_true z] at h;exact (show _=_ from if_pos z).mpr h
 .rw[decide_eq_false z] at h;exact (show _=_ from if_neg z).mpr h
def VO(t:TE):TE:=λσ H Q=>∃ Q':VK,(∀ v H1,Q' v H1->Q v H1)/\t σ H Q'
theorem ff(h:PE X e ta):PE X e (VO ta):=λpins s σ H Q I ⟨Q',k,q⟩=>aB (h pins s σ H Q' I q) λ_ _ ⟨x,H1,I1,r1,q1⟩=>⟨x,H1,I1,r1,k _ _ q1⟩
theorem tS(h:PE X e ta)(k:∀ σ H Q,t' σ H Q->ta σ H Q):PE X e t':=λpins s σ H Q I q=>h pins s σ H Q I (k σ H Q q)
theorem oE(h:PT X e t)(k:∀ σ H Q,t' σ H Q->t σ H Q):PT X e t':=λpins s σ H Q I q=>h pins s σ H Q I (k σ H Q q)
theorem Be(h:aZ X f r)(k:∀ x y H Q,r' x y H Q->r x y H Q):aZ X f r':=λpins s σ H x y v u Q I rx ry q=>h pins s σ H x y v u Q I rx ry (k _ _ _ _ q)
def Ky(i:Nat):TE:=λσ H Q=>mE σ i λv=>Q v H
theorem aa(i:Nat)(hN:X.N[i]?=some x:=by rfl)(hv:vH X.env.scope x:=by first|exact ago rfl|exact ajE (ago rfl)|exact ajE (ajE rfl))(hd:(x == ("__debug__" : Str))=false:=by decide)(gb:(x == ("__classdict__" : Str))=false:=by decide):PE X (.Name x pos) (Ky i):=tS (pv i hN hv hd gb) λ_ _ _ h=>h.ex
def tT(C:Int->Int->Prop)(g:Int->Int->V):R2:=λx y H Q=>cD x λi=>cD y λj=>C i j/\Q (g i j) H
def xy(g:Int->Int->V):R2:=λx y H Q=>cD x λi=>cD y λj=>Q (g i j) H
def Bf(g:Int->V):V->Hp->VK->Prop:=λx H Q=>cD x λi=>Q (g i) H
def Bg(p:Int->Int->Prop)[∀ i j,Decidable (p i j)]:R2:=λx y H Q=>cD x λi=>cD y λj=>if p i j then Q (.bl true) H else Q (.bl false) H
theorem Bh(h:aZ X f (rI C g)):aZ X f (tT C g):=Be h λx y H Q q=>by obtain⟨i,rfl,q1⟩:=cD.ex q;obtain⟨j,rfl,q5⟩:=cD.ex q1;exact⟨i,j,rfl,rfl,q5⟩
theorem iW(h:aZ X f (gv g)):aZ X f (xy g):=Be h λx y H Q q=>by obtain⟨i,rfl,q1⟩:=cD.ex q;obtain⟨j,rfl,q5⟩:=cD.ex q1;exact⟨i,j,rfl,rfl,q5⟩
theorem Bi[∀ i j,Decidable (p i j)](h:aZ X f (gv λi j=>.bl (decide (p i j)))):aZ X f (Bg p):=Be h λx y H Q q=>by
 obtain⟨i,rfl,q1⟩:=cD.ex q;obtain⟨j,rfl,q5⟩:=cD.ex q1;clear q q1;refine⟨i,j,rfl,rfl,?_⟩;by_cases z:p i j
 .rw[if_pos z] at q5;show Q (.bl (decide (p i j))) H;rw[decide_eq_true z];exact q5
 .rw[if_neg z] at q5;show Q (.bl (decide (p i j))) H;rw[decide_eq_false z];exact q5
theorem VP(h:pE X f (rU g)):pE X f (Bf g):=λpins s σ H x v Q I rx q=>h pins s σ H x v Q I rx q.ex
theorem bC:aZ X (afr .Add) (xy λi j=>.int (i+j)):=iW Oi
theorem cQ:aZ X (afr .Sub) (xy λi j=>.int (i-j)):=iW Oj
theorem xA:aZ X (afr .Mod) (tT (λ_ j=>0<j) λi j=>.int (i % j)):=Bh Ol
theorem lG:aZ X (afr .Mult) (tT sE λi j=>.int (i * j)):=Bh PM
theorem Kz:aZ X (afr .Mult) (tT qe λi j=>.int (i * j)):=Bh RL
theorem iX:pE X (unaryOp .USub) (Bf λi=>.int (-i)):=VP Oq
def KA(t:TE):TT:=λσ H Q=>t σ H λx H'=>oB x λk=>Q k H'
theorem cy(h:PE X e ta)(he:∀ whole,akT e X.env whole=(do let v <- whole;ajg e.pos;holding [v] (truthy v)):=by intro _;rfl):PT X e (KA ta):=oE (N4 (ff h) he) λσ H Q q=>⟨_,λ_ _ h=>h.ex,q⟩
def qH(p:Int->Int->Prop)[∀ i j,Decidable (p i j)](ta tb:TE):TT:=λσ H Q=>ta σ H λx H1=>tb σ H1 λy H2=>cD x λi=>cD y λj=>if p i j then Q true H2 else Q false H2
theorem KC{p:Int->Int->Prop}[∀ i j,Decidable (p i j)]{x y:V}{H:Hp}{Q:Bool->Hp->Prop}(q:cD x λi=>cD y λj=>if p i j then Q true H else Q false H):Bg p x y H (λz H'=>∃ k,z = .bl k/\Q k H'):=by
 obtain⟨i,rfl,q1⟩:=cD.ex q;obtain⟨j,rfl,q5⟩:=cD.ex q1;clear q q1;by_cases z:p i j
 .rw[if_pos z] at q5;exact (show _=_ from if_pos z).mpr ⟨_,rfl,q5⟩
 .rw[if_neg z] at q5;exact (show _=_ from if_neg z).mpr ⟨_,rfl,q5⟩
theorem xB[∀ i j,Decidable (p i j)](ho:aZ X (adx op) (gv λi j=>.bl (decide (p i j))))(ha:PE X a ta)(hb:PE X b tb)(hm:aeM op b=false):PT X (.Compare a [op] [b] pos) (qH p ta tb) :=
 oE (kR (Bi ho) (ff ha) (ff hb) hm) λσ H Q q=>⟨_,λx H1 q1=>⟨_,λy H2 q2=>KC q2,q1⟩,q⟩
theorem mG(ha:PE X a ta)(hb:PE X b tb):PT X (.Compare a [.Lt] [b] pos) (qH (λi j=>i<j) ta tb):=xB zc ha hb (c7 _)
theorem VQ(ha:PE X a ta)(hb:PE X b tb):PT X (.Compare a [.LtE] [b] pos) (qH (λi j=>i<=j) ta tb):=xB fu ha hb (c7 _)
theorem qI(ha:PE X a ta)(hb:PE X b tb):PT X (.Compare a [.Gt] [b] pos) (qH (λi j=>j<i) ta tb):=xB vQ ha hb (c7 _)
theorem Bj(ha:PE X a ta)(hb:PE X b tb):PT X (.Compare a [.GtE] [b] pos) (qH (λi j=>j<=i) ta tb):=xB zd ha hb (c7 _)
def eqT(x y:V)(Q:Bool->Prop):Prop:=match x with
 | .int i=>(match y with|.int j=>if i=j then Q true else Q false|.non=>Q false|.str _=>Q false|_=>False)
 | .str i=>(match y with|.str j=>if i=j then Q true else Q false|.non=>Q false|.int _=>Q false|_=>False)
 | .bl i=>(match y with|.bl j=>if i=j then Q true else Q false|.non=>Q false|_=>False)
 | .non=>(match y with|.non=>Q true|.int _=>Q false|.bl _=>Q false|.str _=>Q false|_=>False)
 | _=>False
def neT(x y:V)(Q:Bool->Prop):Prop:=match x with
 | .int i=>(match y with|.int j=>if ¬ i=j then Q true else Q false|.non=>Q true|.str _=>Q true|_=>False)
 | .str i=>(match y with|.str j=>if ¬ i=j then Q true else Q false|.non=>Q true|.int _=>Q true|_=>False)
 | .bl i=>(match y with|.bl j=>if ¬ i=j then Q true else Q false|.non=>Q true|_=>False)
 | .non=>(match y with|.non=>Q false|.int _=>Q true|.bl _=>Q true|.str _=>Q true|_=>False)
 | _=>False
section
theorem VR:eqT (.int i) (.int j) Q=if i=j then Q true else Q false:=rfl
theorem VS:eqT (.str s) (.str t) Q=if s=t then Q true else Q false:=rfl
theorem VT:eqT (.bl b') (.bl b1) Q=if b'=b1 then Q true else Q false:=rfl
theorem VU:eqT .non .non Q=Q true:=rfl
theorem VV:eqT .non (.int j) Q=Q false:=rfl
theorem VW:eqT (.int i) .non Q=Q false:=rfl
theorem VX:eqT (.int i) (.str s) Q=Q false:=rfl
theorem VY:eqT .non (.str s) Q=Q false:=rfl
theorem VZ:neT (.int i) (.int j) Q=if ¬ i=j then Q true else Q false:=rfl
theorem V0:neT (.str s) (.str t) Q=if ¬ s=t then Q true else Q false:=rfl
theorem V1:neT .non .non Q=Q false:=rfl
theorem V2:neT .non (.int j) Q=Q true:=rfl
theorem V3:neT (.int i) .non Q=Q true:=rfl
theorem KD{c:Prop}[Decidable c]{Q:Bool->Prop}(q:if c then Q true else Q false):Q (decide c):=by
 by_cases z:c
 .rw[if_pos z] at q;rw[decide_eq_true z];exact q
 .rw[if_neg z] at q;rw[decide_eq_false z];exact q
theorem eqT.ex(h:eqT x y Q):kQ x y=true/\Q (decide (x=y)):=by
 cases x<;>cases y<;>first
  | exact h.elim
  | exact⟨rfl,h⟩
  | (refine⟨rfl,?_⟩;have:=KD h;simpa using this)
theorem neT.ex(h:neT x y Q):kQ x y=true/\Q (!decide (x=y)):=by
 cases x<;>cases y<;>first
  | exact h.elim
  | exact⟨rfl,h⟩
  | (refine⟨rfl,?_⟩;have:=KD h;simpa using this)
end
def KG(ta tb:TE):TT:=λσ H Q=>ta σ H λx H1=>tb σ H1 λy H2=>eqT x y λk=>Q k H2
def KH(ta tb:TE):TT:=λσ H Q=>ta σ H λx H1=>tb σ H1 λy H2=>neT x y λk=>Q k H2
theorem bD(ha:PE X a ta)(hb:PE X b tb):PT X (.Compare a [.Eq] [b] pos) (KG ta tb) :=
 oE (kR pF (ff ha) (ff hb) (c7 _)) λσ H Q q=>⟨_,λx H1 q1=>⟨_,λy H2 q2=>⟨(eqT.ex q2).1,_,rfl,(eqT.ex q2).2⟩,q1⟩,q⟩
theorem kE(ha:PE X a ta)(hb:PE X b tb):PT X (.Compare a [.NotEq] [b] pos) (KH ta tb) :=
 oE (kR Ot (ff ha) (ff hb) (c7 _)) λσ H Q q=>⟨_,λx H1 q1=>⟨_,λy H2 q2=>⟨(neT.ex q2).1,_,rfl,(neT.ex q2).2⟩,q1⟩,q⟩
def KI(ta:TE):TT:=λσ H Q=>ta σ H λx H1=>mF x λk=>Q k H1
def KJ(ta:TE):TT:=λσ H Q=>ta σ H λx H1=>kD x λk=>Q k H1
theorem dO(ha:PE X a ta):PT X (.Compare a [.Is] [.Constant .none j pos'] pos) (KI ta):=oE (rN (rL (ff ha))) λσ H Q q=>⟨_,λx H1 q1=>⟨_,rfl,q1.ex⟩,q⟩
theorem gK(ha:PE X a ta):PT X (.Compare a [.IsNot] [.Constant .none j pos'] pos) (KJ ta):=oE (rN (rM (ff ha))) λσ H Q q=>⟨_,λx H1 q1=>⟨_,rfl,kD.ex q1⟩,q⟩
def KL(p q:Int->Int->Prop)[∀ i j,Decidable (p i j)][∀ i j,Decidable (q i j)](ta tb tc:TE):TT:=λσ H Q=>ta σ H λx H1=>tb σ H1 λy H2=>cD x λi=>cD y λj=>if p i j then (tc σ H2 λz H3=>cD z λk=>if q j k then Q true H3 else Q false H3) else Q false H2
theorem Bk[∀ i j,Decidable (p i j)][∀ i j,Decidable (q i j)](ho:aZ X (adx op) (gv λi j=>.bl (decide (p i j))))(cT:aZ X (adx iB) (gv λi j=>.bl (decide (q i j))))(ha:PE X a ta)(hb:PE X b tb)(hc:PE X c tc)(hm:ajU [op,iB] [b,c]=false:=by with_unfolding_all rfl):PT X (.Compare a [op,iB] [b,c] pos) (KL p q ta tb tc) :=
 oE (Ou (Bi ho) (Bi cT) (ff ha) (ff hb) (ff hc) hm) λσ H Q q=>⟨_,λx H1 q1=>⟨_,λy H2 q2=>by
  obtain⟨i,rfl,q3⟩:=cD.ex q2;obtain⟨j,rfl,q5⟩:=cD.ex q3;clear q2 q3;by_cases z:p i j
  .rw[if_pos z] at q5;exact (show _=_ from if_pos z).mpr ⟨_,rfl,_,λw' H4 q4=>by
    obtain⟨k,rfl,_⟩:=cD.ex q4;exact KC (x:=.int j) q4,q5⟩
  .rw[if_neg z] at q5;exact (show _=_ from if_neg z).mpr ⟨_,rfl,⟨_,rfl,q5⟩⟩,q1⟩,q⟩
variable{rest:List agu}
def KN(ta tb:TE):TE:=λσ H Q=>ta σ H λx H1=>oB x λc=>if c=true then tb σ H1 Q else Q (.bl false) H1
def KO(ta tb:TE):TE:=λσ H Q=>ta σ H λx H1=>oB x λc=>if c=true then Q (.bl true) H1 else tb σ H1 Q
def KP(ta:TE):TE:=λσ H Q=>ta σ H λx H1=>oB x λc=>Q (.bl (!c)) H1
theorem jF(ha:PE X a ta)(hb:PE X (.BoolOp .And (b::rest) pos) tb):PE X (.BoolOp .And (a::b::rest) pos) (KN ta tb):=tS (N5 (ff ha) hb) λσ H Q q=>⟨_,λx H1 q1=>q1.ex,q⟩
theorem KQ(ha:PE X a ta)(hb:PE X (.BoolOp .Or (b::rest) pos) tb):PE X (.BoolOp .Or (a::b::rest) pos) (KO ta tb):=tS (N6 (ff ha) hb) λσ H Q q=>⟨_,λx H1 q1=>q1.ex,q⟩
theorem KR(ha:PE X a ta):PE X (.UnaryOp .Not a pos) (KP ta):=tS (N7 (ff ha)) λσ H Q q=>⟨_,λx H1 q1=>q1.ex,q⟩
def KS(K:acr)(ta:TE)(f:Str):TE:=λσ H Q=>ta σ H λx H1=>tR x λa=>∃ C dx fs,H1 a=some (.ins C dx fs)/\b6 K C/\bW K C f/\∃ v,fs.lookup f=some v/\Q v H1
theorem bE{f:Str}{K:acr}(hK:X.K=K)(he:PE X e ta)(hb:afT e f X.env (eval e X.env)=eval e X.env):PE X (.Attribute e f pos) (KS K ta f):=by
 subst hK;exact tS (OJ (ff he) hb) λσ H Q q=>⟨_,λx H1 q1=>by
  obtain⟨a,rfl,C,dx,fs,h1,h2,h3,v,h4,q2⟩:=q1.ex;exact⟨a,C,dx,fs,v,rfl,h1,h2,h3,h4,q2⟩,q⟩
def KU(K:acr)(ta tv:TE)(f:Str):TS:=λD σ H=>tv σ H λy H1=>ta σ H1 λx H2=>tR x λa=>∃ C dx fs,H2 a=some (.ins C dx fs)/\b6 K C/\bW K C f/\fs.length<1000 /\
 D.nx σ (upd H2 a (.ins C dx (fz f y fs)))
theorem gL(ha:PE X o ta)(hv:PE X value tv)(hs:agm value (some (.Attribute o f pos')) pos.line X.env=pure false):PS X (.Assign [.Attribute o f pos'] value pos) (KU X.K ta tv f):=λpins s σ H D I h =>
 OL (ff ha) (ff hv) hs pins s σ H D I ⟨_,λy H1 q1=>⟨_,λx H2 q2=>by
  obtain⟨a,rfl,C,dx,fs,h⟩:=q2.ex;exact⟨a,C,dx,fs,rfl,h⟩,q1⟩,h⟩
end
section
variable{X:Cx}{K:acr}{a b e:agu}{es:List agu}{ta tb:TE}{t:TA}{pos p:Pos}
theorem aw(ha:PE X a ta)(hb:PE X b tb)(hs:zw b:=by exact λ_ _=>rfl):PE X (.Subscript a b pos) (nN (j8 X.K) ta tb):=bz bA ha hb hs
theorem bT(ha:PE X a ta)(hb:PE X b tb)(h:X.K=K:=by rfl)(hs:zw b:=by exact λ_ _=>rfl):PE X (.Subscript a b pos) (nN (j8 K) ta tb):=bz (QQ h) ha hb hs
end
structure Fn(K:acr)(mg:Str->Option acB)(x:Str)(st:aee)(ps:List Str) where
 a:acF
 fd:afs
 F:nV K x x st a fd
 m:mg x=some (.ref a)
 b:Binds K fd ps []
structure Fm(K:acr)(x q:Str)(st:aee)(ps:List Str) where
 a:acF
 fd:afs
 F:nV K x q st a fd
 b:Binds K fd ps []
section
theorem V4{CX:hV}{k n:Nat}{ps:List Str}{sp:Sp}{x:Str}{st:aee}(N:Fn X.K X.mg x st ps)(F:dW X.prog X.w X.K X.mg X.base CX k N.a N.fd ps sp)(hr:bG n X.A)(hx:Passes CX X E0)(ha:PA X (e::es) t)
 (hk:k<=n:=by decide) (hg:Gl X x:=by rfl) (fA:(x == ("__debug__" : Str))=false:=by decide) (he:acW (e::es) X.env=(false,eval e X.env)::acW es X.env:=by rfl) (dX:(ael pos (acW es X.env)).any (·.1)=false:=by rfl) :
 PE X (.Call (.Name x p) (e::es) [] pos) (pH sp [] E0 t):=bO F (hr.mono hk) hg N.m N.F.kp N.b .nil hx ha fA he dX
end
theorem V5{α:Type}{n:Nat}{p:List α->Prop}(h:∀ u vs,vs.length=n->p (u::vs)):∀ us:List α,us.length=n+1->p us
 | u::vs,e=>h u vs (Nat.succ.inj e)
theorem V6{α:Type}{p:List α->Prop}(h:p []):∀ us:List α,us.length=0->p us
 | [],_=>h
structure Sc(N ps:List Str)(st:aee):Prop extends sr N ps (dY st) where
 b:∀ (x q:Str) (kV doc pm:acB) (an:Option acF) (aY ct:acB) (us:List acB),us.length=ps.length->bindArgs (afl x q (pK st) (iD st) (dY st) .none kV doc pm an aY ct) ⟨us,[]⟩=pure (ps.zip us)
section
variable{P:adn}{w:ad2}{K:acr}{mg:Str->Option acB}{base h:aeV}{x q:Str}{st:aee}{N ps:List Str}{k:Nat}{sp:Sp}{C:acF}
inductive Fb(K:acr)(x q:Str)(st:aee)(p:acF->Prop):Prop
 | mk {f:acF} {od an:Option acF} {sl:Array (Option acB)} {oc kV dc pm cd ct:acB} (_:p f) (_:K.lookup f=some ⟨oc,od,.func (afl x q (pK st) (iD st) (dY st) .none kV dc pm an cd ct),sl⟩) (_:ahb K cd q=true) (_:adH K (.ref f)=true)
def aU(K:acr)(x:Str)(f:acF):Prop:=ac6 K acU x=some (some (.ref f))
def bM(K:acr)(C:acF)(x:Str)(f:acF):Prop:=ac0 K (.ref C) x=some (some (.ref f))/\ah6 K (.ref f)=true
theorem Fb.fn(b:Fb K x x st (aU K x))(X:K.In h)(G:h.Ns acU mg)(S:Sc N ps st):Nonempty (Fn K mg x st ps) :=
 let ⟨a,l,c,k⟩:=b;⟨⟨_,_,pL l c k,adE X G a,(pL l c k).binds (S.b x x)⟩⟩
theorem Fb.fm(b:Fb K x q st (bM K C x))(S:Sc N ps st):∃ F:Fm K x q st ps,bM K C x F.a :=
 let ⟨a,l,c,k⟩:=b;⟨⟨_,_,pL l c k,(pL l c k).binds (S.b x q)⟩,a⟩
theorem Fn.bt{y:Str}(F:Fn K mg x st [y])(S:Sc N [y] st)(s:acI)(v:acB):ajl s F.fd ⟨[v],[]⟩ [(y,v)]:=by obtain⟨oc,od,kV,doc,pm,an,aY,ct,j6,e,lk,gb⟩:=F.F.ex;rw[e];exact .of_eq (S.b _ _ _ _ _ _ _ _ [v] rfl)
abbrev Ok(P:adn)(w:ad2){K:acr}{mg:Str->Option acB}(base:aeV)(k:Nat){x:Str}{st:aee}{ps:List Str}(F:Fn K mg x st ps)(sp:Sp):Prop:=dW P w K mg base (dj P w) k F.a F.fd ps sp
abbrev Om(P:adn)(w:ad2){K:acr}(mg:Str->Option acB)(base:aeV)(k:Nat){x q:Str}{st:aee}{ps:List Str}(F:Fm K x q st ps)(sp:Sp):Prop:=dW P w K mg base (dj P w) k F.a F.fd ps sp
theorem bH{F:Fn K mg x st ps}(S:Sc N ps st)
 (ib:∀ (aY:acB) (A:aeb) (outer:List Env) (s:acI) (H:Hp) (vs:List V) (Q:VK) (E:XK),bG k (A.deeper (aen x (dY st) s.heap.objs.size F.a aY))->sp vs H Q E ->
   ∃ t,aT (fB (dj P w) P w K mg base N x (dY st) F.a aY A outer s H E).pB (iD st) t/\t { nx:=λ_ H'=>Q .non H',rt:=Q } (start N vs) H)
 (len:∀ vs H Q E,sp vs H Q E->vs.length=ps.length:=by intro _ _ _ _ h;cases h;subst_vars;rfl):Ok P w base (k+1) F sp:=okN F.F S.1 len ib
theorem iY{F:Fn K mg x st ps}(S:Sc N ps st)
 (ib:∀ (aY:acB) (A:aeb) (outer:List Env) (s:acI) (H:Hp) (vs:List V) (Q:VK) (E:XK),bG k (A.deeper (aen x (dY st) s.heap.objs.size F.a aY))->sp vs H Q E ->
   ∃ t,aT (fB (dj P w) P w K mg base N x (dY st) F.a aY A outer s H E) (iD st) t/\t { nx:=λ_ H'=>Q .non H',rt:=Q } (start N vs) H)
 (len:∀ vs H Q E,sp vs H Q E->vs.length=ps.length:=by intro _ _ _ _ h;cases h;subst_vars;rfl):Ok P w base (k+1) F sp:=l6 F.F S.1 len ib
theorem fg{F:Fm K x q st ps}(S:Sc N ps st)
 (ib:∀ (aY:acB) (A:aeb) (outer:List Env) (s:acI) (H:Hp) (vs:List V) (Q:VK) (E:XK),bG k (A.deeper (aen q (dY st) s.heap.objs.size F.a aY))->sp vs H Q E ->
   ∃ t,aT (fB (dj P w) P w K mg base N q (dY st) F.a aY A outer s H E).pB (iD st) t/\t { nx:=λ_ H'=>Q .non H',rt:=Q } (start N vs) H)
 (len:∀ vs H Q E,sp vs H Q E->vs.length=ps.length:=by intro _ _ _ _ h;cases h;subst_vars;rfl):Om P w mg base (k+1) F sp:=okN F.F S.1 len ib
theorem jG{F:Fm K x q st ps}(S:Sc N ps st)
 (ib:∀ (aY:acB) (A:aeb) (outer:List Env) (s:acI) (H:Hp) (vs:List V) (Q:VK) (E:XK),bG k (A.deeper (aen q (dY st) s.heap.objs.size F.a aY))->sp vs H Q E ->
   ∃ t,aT (fB (dj P w) P w K mg base N q (dY st) F.a aY A outer s H E) (iD st) t/\t { nx:=λ_ H'=>Q .non H',rt:=Q } (start N vs) H)
 (len:∀ vs H Q E,sp vs H Q E->vs.length=ps.length:=by intro _ _ _ _ h;cases h;subst_vars;rfl):Om P w mg base (k+1) F sp:=l6 F.F S.1 len ib
end
section
theorem aL(i:Nat)(hN:X.N.Nodup)(he:PE X e te)(hi:X.N[i]?=some x:=by rfl)(hx:Loc X.env.scope x:=by first|exact ago rfl|exact ajE rfl)(hs:agm e (some (.Name x pos')) pos.line X.env=pure false:=by rfl)(hf:X.fn x=true∨X.env.scope.names.lookup x=some .local:=by first|exact .inl rfl|exact .inr rfl) :
 PS X (.Assign [.Name x pos'] e pos) (rR te (b5 i)):=jm hN hi hx he hs hf
theorem cz(i:Nat)(hN:X.N.Nodup)(hi:X.N[i]?=some x:=by rfl)(hx:Loc X.env.scope x:=by first|exact ago rfl|exact ajE rfl)(hf:X.fn x=true∨X.env.scope.names.lookup x=some .local:=by first|exact .inl rfl|exact .inr rfl):PG X (.Name x pos) (b5 i):=gd hN hi hx hf
theorem aJ{k n:Nat}{ps:List Str}{sp:Sp}{st:aee}{CX:hV}{N:Fn X.K X.mg x st ps}(F:dW X.prog X.w X.K X.mg X.base CX k N.a N.fd ps sp)(hr:bG n X.A)(ha:PA X (e::es) t)(hx:Passes CX X E0:=by exact bI)
 (hk:k<=n:=by decide) (hg:Gl X x:=by rfl) (fA:(x == ("__debug__" : Str))=false:=by decide) (he:acW (e::es) X.env=(false,eval e X.env)::acW es X.env:=by rfl) (dX:(ael pos (acW es X.env)).any (·.1)=false:=by rfl) :
 PE X (.Call (.Name x p) (e::es) [] pos) (pH sp [] E0 t):=V4 N F hr hx ha hk hg fA he dX
end
def KW(X:Cx)(body:List aee)(tb:TS)(E':XK):Prop:=∀ (pins:List (acF × Obj)) (s:acI) (σ:L2.St) (H:Hp) (D:Ends),Inv X pins σ H s->tb D σ H ->
 (∀ (rK:List (acF × Obj)) (H1:Hp) (s1:acI) (ev:acB) (s2:acI),Inv X rK σ H1 s1->dj X.prog X.w X.stack H1 s1 E' ev s2->X.xe ev s2)->acQ (model X.prog X.w) X.A (execs body X.env) (SP X pins D) X.xe s
section
theorem V7(F:dW X.prog X.w X.K X.mg X.base (dj X.prog X.w) k f fd ps sp)(hr:bG k X.A)(hg:Gl X x)(hm:X.mg x=some (.ref f))(hk:adH X.K (.ref f)=true)(hb:Binds X.K fd ps ds)(hd:Vals cM ds)(ha:PA X (e::es) t)(hy:PG X tg g)(fA:(x == ("__debug__" : Str))=false:=by decide)(he:acW (e::es) X.env=(false,eval e X.env)::acW es X.env:=by rfl)(dX:(ael pos (acW es X.env)).any (·.1)=false:=by rfl)(hs:swapsWithSole [tg] (.Call (.Name x p) (e::es) [] pos) apos.line X.env=pure false:=by rfl)(hw:swappedStores [tg] (.Call (.Name x p) (e::es) [] pos) X.env=pure none:=by rfl)(h1:(agG [tg] X.env).map (·.2)=[assign tg X.env]:=by rfl):KW X [.Assign [tg] (.Call (.Name x p) (e::es) [] pos) apos] (rR (pH sp cM E t) g) E:=by
 intro pins s σ H D I h hx;refine ahL (aB (Q:=SP X pins D) (aiH (aB (Q:=EP X pins σ λx H1=>g x σ H1 D.nx) (adT (pA I hg hm ?_ fA)) λv s1 ⟨y,H1,I1,r1,q1⟩=>?_) hs hw) λf s1 q=>?_)
 .refine afh (h₀:=X.base) I.ok.mod.gZ hk (aB (ha pos pins s σ H _ I h) λus s1 ⟨vs,H1,I1,r,q⟩=>⟨I1.ck,?_⟩) he dX;have r2:Vals (vs++cM) (us++ds):=r.append hd;have hl:(us++ds).length=ps.length:=by rw[<- r2.length];exact F.len _ _ _ _ q
  refine ain (afM (F.run X.A X.stack s1 H1 ⟨us,[]⟩ (us++ds) (vs++cM) _ E hr I1.zj (hb s1 us I1.ck hl) r2 q) λr s' hq=>?_);cases r with
  | error e=>exact hx pins H1 s1 e s' I1 hq
  | ok fl =>
   cases fl with
   | ret u=>exact I1.after hq
   | next=>exact aeg hq
   | brk=>exact aeg hq
   | cont=>exact aeg hq
 .rw[h1];exact aB (hy pins s1 σ H1 y v _ I1 r1 q1) λ_ s2 q=>q
 .cases f with
  | next=>exact afR q
  | ret v=>exact q
  | brk=>exact q
  | cont=>exact q
end
def KY(K:acr)(G:acF)(tb th:TS)(E':XK):TS:=λD σ H=>tb D σ H/\∀ cls H',E' cls none H'->∃ C,cls = .ref C/\ahc K (.ref C) (.ref G)=some true/\th D σ H'
section
theorem V8(E':XK)(cG:X.stack=X.env::X.outer)(V9:X.env.frame=some X.env.locals)(hg:Gl X x)(hm:X.mg x=some (.ref G))(hb:∀ F pn,KW (Xp X F pn) body tb E')(hh:∀ A' pn,aT (Xh X A' pn) (b₀::suite) th)(hd:(x == ("__debug__" : Str))=false:=by decide) :
 PS X (.Try body [.ExceptHandler (some (.Name x np)) none (b₀::suite) n6] [] [] pos) (KY X.K G tb th E'):=by
 intro pins s σ H D I h;obtain⟨h1,h2⟩:=h;refine wpAny_Try_except ?_;refine adN (hb (λe s₁=>acQ (model X.prog X.w) X.A (noteFrame e X.env) (λ_ s₂=>acQ (model X.prog X.w) X.A (setFlight e none) (λ_ s₃=>acQ (model X.prog X.w) X.A (handleBy e X.env [.ExceptHandler (some (.Name x np)) none (b₀::suite) n6]) (SP X pins D) X.xe s₃) X.xe s₂) X.xe s₁) (X.pn++pins) [] s σ H D (Qu I) h1 ?_) (λf s1 q=>?_) λe s1 q=>q
 .intro rK H1 s1 ev s2 I1 cx;obtain⟨xx,cls,a0,H',B,rfl,os,bare,un,kb,bX,ay,hx,hn,fl,hE⟩:=cx;obtain⟨C,rfl,lH,hth⟩:=h2 cls H' hE;have l6:=I.ok;have sI:X.A.frames=some (X.env::X.outer):=by rw[<- cG];exact l6.frames
  have wa:ajF B (X.env::X.outer) xx (.ref C) a0 s2.heap:=by have z:ajF B X.stack xx (.ref C) a0 s2.heap:=fl;rw[cG] at z;exact z
  have hF:s1.heap.FunFrames X.base X.stack:=I1.stack;have zG:∀ b∈ba X.stack,H1 b=none:=I1.rH;have KZ:∀ h:aeV,B.StaysIn h->s2.heap.UpToSlots h->Un (ba X.stack) [] H1 H' s1.heap h:=λh stays up=>by
   have l5:∀ b∈ba X.stack,∀ o,s1.heap.get? b=some o->∃ sl,h.get? b=some { o with slots:=sl }:=λb hb o q=>by obtain⟨_,o',cT,hnf⟩:=hF.mem hb;rw[q] at cT;cases cT;obtain⟨sl,e1⟩:=un.slot b o q (zG b hb) hb (by simp);obtain⟨ft,e2⟩:=up b _ e1 hnf;exact⟨ft,e2⟩
   refine⟨λb o q nn hb cV=>stays b o (kb b o q nn hb),λb o q nn hb cV=>l5 b hb o q,un.free,λb o q cV=>?_,un.gq,un.fN,un.gu⟩;by_cases hb:b∈ba X.stack
   .obtain⟨sl,e2⟩:=l5 b hb o q;exact⟨_,e2⟩
   .obtain⟨o2,e2⟩:=bX b o q hb;exact⟨o2,stays b o2 e2⟩
  refine wpAny_looks_onW sI V9 wa λh₄ Wa Wb=>?_;refine wpAny_landsW Wa λh₅ xC Wc=>?_;have K0:s2.heap.UpToSlots h₅:=Wb.trans Wc;have I5:Inv (Xh X (X.A.mark (some (.ref xx))) (X.pn++pins)) [] σ H' { s2 with heap:=h₅ }:=by
   refine G0 (I1.yP (s':={ s2 with heap:=h₅ }) (ch:=[]) os (KZ h₅ xC.1 K0) (ay.kept λb u q=>xC.1 b u q) bare (λb z=>absurd z (by simp))) ?_
   first|rfl|simp
  refine wpAny_handleBy_cons (codeAny_handlers_test ?_) (by intro q;cases q);refine pA (X:=Xh X (X.A.mark (some (.ref xx))) (X.pn++pins)) I5 hg hm ?_ hd;obtain⟨ob,hob,hobc⟩:=xC.there;have LT:PySem.W.Looks (model X.prog X.w) h₅ (typeOf (.ref xx)) (.ref C):=hobc ▸ (PySem.W.Looks.ld hob).andThen .now;refine (PySem.W.exm_one (M:=model X.prog X.w) (h:=h₅) I5.ck LT lH).here ?_;refine codeAny_handlers_suite ?_;refine lands_againW xC λh₆ K1 Wd=>?_;have We:s2.heap.UpToSlots h₆:=K0.trans Wd;have I6:Inv (Xh X (X.A.mark (some (.ref xx))) (X.pn++pins)) [] σ H' { s2 with heap:=h₆ }:=by
   refine G0 (I1.yP (s':={ s2 with heap:=h₆ }) (ch:=[]) os (KZ h₆ K1.1 We) (ay.kept λb u q=>K1.1 b u q) bare (λb z=>absurd z (by simp))) ?_
   first|rfl|simp
  refine adN (hh (X.A.mark (some (.ref xx))) (X.pn++pins) [] _ _ _ _ I6 hth) (λfl s9 q=>?_) λ_ _ z=>z.elim;cases fl with
  | next =>
   obtain⟨σ9,H9,I9,q⟩:=q;exact⟨_,_,wX l6 I9,q⟩
  | brk =>
   obtain⟨σ9,H9,I9,q⟩:=q;exact⟨_,_,wX l6 I9,q⟩
  | cont =>
   obtain⟨σ9,H9,I9,q⟩:=q;exact⟨_,_,wX l6 I9,q⟩
  | ret u =>
   obtain⟨v,σ9,H9,I9,r,q⟩:=q;exact⟨v,_,_,wX l6 I9,r,q⟩
 .have q':=SP.Qv q;cases f with
  | next =>
   obtain⟨σ',H',I',q'⟩:=q';exact afR ⟨σ',H',I',q'⟩
  | brk=>exact q'
  | cont=>exact q'
  | ret u=>exact q'
end
end Gz
namespace Gz
open PySem L2
theorem Bl:∀ {xs ys:List Int},xs.Nodup->(∀ x∈xs,x∈ys)->xs.length<=ys.length
 | [],_,_,_=>ac5 _
 | x::xs,ys,h,k=>by obtain⟨h1,h2⟩:=adC.mp h;have hx:=k x (.head _);have ih:=Bl (ys:=ys.erase x) h2 λy hy=>(aiA (λz=>h1 (by rw[<- z];exact hy))).mpr (k y (.tail _ hy));rw[ahu hx] at ih;have:=ah2 hx;rw[ada];omega
end Gz
namespace Gz
open PySem PySem.Spec PyProof.Rows L2
theorem K2(hL:(L.length:Int)<=mo)(hc:iS ps c)(hg:∀ k s,gs[k]?=some s->bS s (c k))(ig:gs.length<=ps.length+1)(hw:meets (eV tb L) c)(ht:∀ r∈tb,r.1.2.toNat<=ps.length) :
 ∀ (t:Pp) (as:List Int),as.Nodup->(∀ x∈as,x∈L)->¬ Val ps gs tb mo t as
 | .nil,_,_,_,h=>h
 | .full,as,hn,hs,h=>by have:=Bl hn hs;have h:mo<as.length:=h;lia
 | .cls x a b,as,hn,hs,h=>by
  obtain⟨⟨m,n,hm,lT,bq⟩,ha,hb⟩:=h;have met:∀ (s:En × Nat) (k:Mk),jE gs tb as s k->(∀ e,s.1=some e->e∉L)->bS k.2 (c k.1)/\k.1<=ps.length:=λs k hk hl=>by
   obtain⟨h1,h2⟩:=hk;obtain⟨o,j⟩:=s;cases o with
   | none =>
    have h2:gs[j]?=some k.2:=h2;have:=(acz.mp h2).1;have h1:k.1=j:=h1;rw[h1];exact⟨hg _ _ h2,by lia⟩
   | some e =>
    have h2:e∉as/\((e,(j:Int)),k.2)∈tb:=h2;have h1:k.1=j:=h1;have kC:(j,k.2)∈eV tb L:=A9.mpr ⟨_,h2.2,hl e rfl,by simp⟩;have:=ht _ h2.2;rw[h1];exact⟨hw _ kC,by simpa using this⟩
  have step:∀ (e:Int) (t:Pp) (s:En × Nat) (k:Mk),jE gs tb as s k->s.1=some e->e∈L->Val ps gs tb mo t (as++[e])->sizeOf t<1+sizeOf x+sizeOf a+sizeOf b->False:=λe t s k hk es hl hv bb=>by
   have Bm:e∉as:=by obtain⟨_,h2⟩:=hk;rw[es] at h2;exact h2.1
   refine K2 hL hc hg ig hw ht t (as++[e]) (ahv.mpr ⟨hn,by simp,λy hy z hz=>?_⟩) (λy hy=>?_) hv
   .obtain rfl:z=e:=by simpa using hz
    exact λq=>Bm (q ▸ hy)
   .rcases ac4.mp hy with z|z
    .exact hs y z
    .obtain rfl:y=e:=by simpa using z
     exact hl
  by_cases h1:∃ e,x.1.1=some e/\e∈L
  .obtain⟨e,e1,e2⟩:=h1;rw[e1] at ha;exact step e a x.1 m hm e1 e2 ha (by lia)
  by_cases h2:∃ e,x.2.1=some e/\e∈L
  .obtain⟨e,e1,e2⟩:=h2;have hb:if x.1.1=some e then b = .nil else Val ps gs tb mo b (as++[e]):=by rw[e1] at hb;exact hb
   rw[if_neg (λz=>h1 ⟨e,z,e2⟩)] at hb;exact step e b x.2 n lT e1 e2 hb (by lia)
  have m1:=met x.1 m hm λe he z=>h1 ⟨e,he,z⟩;have m2:=met x.2 n lT λe he z=>h2 ⟨e,he,z⟩;refine Tc (ms:=[m,n]) hc (λq hq=>?_) (λq hq=>?_) (.head _) (.tail _ (.head _)) bq
  .rcases acL.mp hq with rfl|hq
   .exact m1.1
   .obtain rfl:q=n:=by simpa using hq
    exact m2.1
  .rcases acL.mp hq with rfl|hq
   .exact m1.2
   .obtain rfl:q=n:=by simpa using hq
    exact m2.2
termination_by t=>sizeOf t
decreasing_by simp_wf;lia
theorem Bn(f:Nat->Int):∀ i,(firstMet f i).Nodup
 | 0=>agj
 | i+1=>by
  rw[firstMet_succ];unfold step_dedup;split
  .exact Bn f i
  .rename_i h;refine ahv.mpr ⟨Bn f i,by simp,λa ha b hb z=>h ?_⟩;obtain rfl:b=f i:=by simpa using hb
   exact adv.mpr ⟨a,ha,by simpa using z⟩
theorem Wf(ns:List Int)(x:Int):x∈firstMet (λi=>ns.getD i 0) ns.length↔x∈ns:=by
 have h:=firstMet_any (λi=>ns.getD i 0) ns.length x;have e:(acD ns.length).map (λi=>ns.getD i 0)=ns:=by refine ahQ (by simp) λi h1 h2=>?_;simp[h2]
 rw[e] at h;constructor
 .intro z;have:ns.any (· == x)=true:=by rw[<- h];exact adv.mpr ⟨x,z,by simp⟩
  obtain⟨y,hy,e⟩:=adv.mp this;exact (by simpa using e:y=x) ▸ hy
 .intro z;have:(firstMet (λi=>ns.getD i 0) ns.length).any (· == x)=true:=by rw[h];exact adv.mpr ⟨x,z,by simp⟩
  obtain⟨y,hy,e⟩:=adv.mp this;exact (by simpa using e:y=x) ▸ hy
def K3(K:acr)(t:TE):TE:=λσ H Q=>t σ H λv H1=>∃ (a:acF) (ns:List Int),v=V.ref a/\ai K H1 a (ns.map V.int)/\ns.length<=1000/\∀ zs:List Int,zs.Nodup->(∀ x,x∈zs↔x∈ns)->Q (.int zs.length) H1
theorem Wg(hc:X.calm=true)(he:PE X e t)(AY:X.mg "len" = none)(lC:X.mg "set" = none)(oy:Gl X "len" := by rfl)(tJ:Gl X "set" := by rfl)(cZ:acW [e] X.env=[(false,eval e X.env)]:=by rfl)(tK:acW [.Call (.Name "set" p2) [e] [] gI] X.env=[(false,eval (.Call (.Name "set" p2) [e] [] gI) X.env)]:=by rfl) :
 PE X (.Call (.Name "len" p1) [.Call (.Name "set" p2) [e] [] gI] [] pos) (K3 X.K t):=by
 intro pins s σ H Q I h;refine adT (fO I oy AY di ?_ (by decide) (by decide));refine ae2 ?_ (by rw[tK];rfl) rfl;rw[tK];show acQ _ _ (spliced ((false,eval (.Call (.Name "set" p2) [e] [] gI) X.env)::ael pos [])) _ _ s;refine aem ?_;refine adT (fO I tJ lC JE ?_ (by decide) (by decide));refine adg ?_ (by rw[cZ];rfl) rfl;rw[cZ];show acQ _ _ (spliced ((false,eval e X.env)::ael gI [])) _ _ s;refine aem (aB (he pins s σ H _ I h) λu s1 zq=>?_);obtain⟨x,H1,I1,r1,q1⟩:=zq;obtain⟨a,ns,rfl,hS,hn,q⟩:=q1;cases r1;refine aex ?_;obtain⟨us,rv,pl,hz⟩:=I1.list hS;have hl:us.length=ns.length:=by have:=rv.length;rw[acs] at this;lia
 refine call_set_list (items:=us.toArray) (ns:=ns) (I1.ok.hd hc) pl.isList (intsAre_of rv) (by simp;rw[hl];exact adI (Nat.succ_le_succ hn) (by decide)) λh2 tk Wh hk=>?_;refine aex ?_;obtain⟨o,es,ep,tb,g1,g2,g3,g4,g5,g6,g7,g8⟩:=Wh;have Wi:us.toArray.size=ns.length:=by simp[hl]
 rw[Wi] at g8;refine call_len_set g1 g2 g3 g7 (by rw[g8];have:=firstMet_length_le (λi=>ns.getD i 0) ns.length;lia) ?_;refine⟨.int es.size,H1,I1.kept λb o hb=>hk b o (acy hb) hb,⟨_,rfl⟩,?_⟩;rw[g8];exact q _ (Bn _ _) (Wf ns)
theorem _root_.L2.bG.m(r:bG k A)(h:j<=k:=by decide):bG j A:=r.mono h
theorem aI{K:acr}{H:Hp}{p:acF}{xs:List V}{i:Int}{v:V}{Q:VK}(h:H p=some (.tup xs))(q:Q v H)(e:c8 xs i=some v:=by rfl):j8 K (.ref p) (.int i) H Q:=az (ak.of h) e q
theorem cO(fr:List Nat)(ys:List Str)(a:akz scope X.env=pure cl:=by rfl)(b:(scope.names.all λp=>p.2 != .cell)=true:=by decide +kernel)(c:scope.kind = .function:=by rfl)(d:(scope.names.all λp=>p.2 != .local || scope.names.lookup p.1 == some .local)=true:=by decide +kernel)(e:scope.names.lookup x=some .local:=by rfl)(f:((relabel scope X.env).names.all λp=>(p.2 != .cell && p.2 != .free) || (cl.lookup p.1).isSome)=true:=by rfl)(g:j9 X cl:=by repeat' first|exact j9.nil|refine j9.cons rfl ?_)(h:iG X scope cl fr ys:=by repeat' first|exact iG.nil|refine iG.cons rfl rfl rfl rfl ?_)(i:(x::ys).Nodup:=by decide)(j:(ys.all λy=>(relabel scope X.env).names.lookup y == some .cell)=true:=by rfl):nZ X x scope cl fr ys:=⟨a,b,c,d,e,f,g,h,i,j⟩
theorem K4(h:∀ B:TS,B=t->rP tc B u D σ H):rP tc t u D σ H:=h t rfl
noncomputable abbrev aK{N ps:List Str}{st:aee}(_:Sc N ps st):List Str:=ps
structure qJ(P:adn)(w:ad2)(K:acr)(mg:Str->Option acB)(base:aeV)(A:aeb)(m:Str)(x:V)(H:Hp)(Q:VK):Prop where
 mk ::
 ex:∃ a C dx fs f k fd ps sp,x = .ref a/\H a=some (.ins C dx fs)/\b6 K C/\Meth K C m f/\fs.lookup m=none/\dW P w K mg base (dj P w) k f fd ps sp/\bG k A/\Binds K fd ps []/\sp [.ref a] H Q E0
theorem qJ.of{P:adn}{w:ad2}{K:acr}{mg:Str->Option acB}{base:aeV}{A:aeb}{m:Str}{H:Hp}{Q:VK}{a C dx f:acF}{fs:List (Str × V)}{k n:Nat}{fd:afs}{ps:List Str}{sp:Sp}(ha:H a=some (.ins C dx fs))(hc:b6 K C)(hm:Meth K C m f)(F:dW P w K mg base (dj P w) k f fd ps sp)(hr:bG n A)(hb:Binds K fd ps [])(q:sp [.ref a] H Q E0)(hl:fs.lookup m=none:=by rfl)(hk:k<=n:=by decide):qJ P w K mg base A m (.ref a) H Q :=
 ⟨a,C,dx,fs,f,k,fd,ps,sp,rfl,ha,hc,hm,hl,F,hr.mono hk,hb,q⟩
theorem tU{X:Cx}{R:V->Hp->VK->Prop}{m:Str}{o:agu}{apos pos:Pos}{ta:TE}{pl:Sem Bool}(hR:∀ x H Q,R x H Q->qJ X.prog X.w X.K X.mg X.base X.A m x H Q)(he:PE X o ta)
 (ht:eval (.Call (.Attribute o m apos) [] [] pos) X.env=(do
   let ov <- eval o X.env
   ajg apos.atName
   let (f,first) <- holding [ov] (ah7 ov m pl)
   akG pos f first (ael pos (acW [] X.env)) (aio pos (agb [] X.env))):=by rfl) :
 PE X (.Call (.Attribute o m apos) [] [] pos) (λσ H Q=>ta σ H λx H1=>R x H1 Q):=by
 intro pins s σ H Q I h;refine afk (pl:=pl) (aB (he pins s σ H _ I h) λu s1 zq=>?_) ht;obtain⟨x,H1,I1,rx,q⟩:=zq;obtain⟨a,C,dx,fs,f,k,fd,ps,sp,rfl,ea,c,hm,l,F,hr,hb,q⟩:=hR _ _ _ q;obtain rfl:u=ac3 a:=rx;refine zi I1 ea c hm l ?_;exact aiJ (first:=[.ref a]) I1.ck hm.kp (sf (us:=[.ref a]) (vs:=[.ref a]) F hr hb .nil bI I1 (.cons rfl .nil) q)
def gM(sw gw:List W2)(tb:Tb)(m:Int)(L:List Int)(c:Nat->Int):Prop:=(L.length:Int)<=m/\(∀ (j:Nat) w,sw[j]?=some w->dJ w (c (j+1)-c j))/\(∀ (j:Nat) w,gw[j]?=some w->dJ w (c j))/\∀ r∈tb,r.1.1∉L->bS r.2 (c r.1.2.toNat)
theorem gM.of{sw gw:List W2}{tb bX:Tb}{m:Int}{L:List Int}{c:Nat->Int}(h:gM sw gw tb m L c)(s:∀ r∈bX,r∈tb):gM sw gw bX m L c:=⟨h.1,h.2.1,h.2.2.1,λr hr=>h.2.2.2 r (s r hr)⟩
theorem Bo:meets (eV tb L) c ↔ ∀ r∈tb,r.1.1∉L->bS r.2 (c r.1.2.toNat):=by
 unfold meets eV;constructor
 .intro h r hr hn;exact h (r.1.2.toNat,r.2) (acE.mpr ⟨r,acZ.mpr ⟨ot.mem_iff.mpr hr,by simpa using hn⟩,rfl⟩)
 .intro h m hm;obtain⟨r,hr,rfl⟩:=acE.mp hm;obtain⟨h1,h2⟩:=acZ.mp hr;exact h r (ot.mem_iff.mp h1) (by simpa using h2)
theorem Bp:(∀ (j:Nat) w,(pp.map gJ)[j]?=some w->dJ w (c (j+1)-c j))↔iS pp c:=by
 constructor
 .intro h k hk;obtain⟨s,e,h1,h2⟩:=h k (gJ (aF pp k)) (by rw[acJ,acv hk];unfold aF;rw[acu,acv hk];rfl);unfold gJ at e;cases e;exact⟨h1 _ rfl,h2 _ rfl⟩
 .intro h j w hw;rw[acJ] at hw;obtain⟨p,hp,rfl⟩:=adf.mp hw;have hj:=(acz.mp hp).1;have:=h j hj;unfold aF at this;rw[acu,hp] at this;exact⟨_,rfl,λa z=>by cases z;exact this.1,λa z=>by cases z;exact this.2⟩
theorem Bq{gs:List S2}{c:Nat->Int}:(∀ (j:Nat) w,(gs.map some)[j]?=some w->dJ w (c j)) ↔ ∀ (j:Nat) s,gs[j]?=some s->bS s (c j):=by
 constructor
 .intro h j s hs;obtain⟨s',e,z⟩:=h j (some s) (by rw[acJ,hs];rfl);cases e;exact z
 .intro h j w hw;rw[acJ] at hw;obtain⟨s,hs,rfl⟩:=adf.mp hw;exact⟨s,rfl,h j s hs⟩
theorem Wj:r∈eo tb s w↔r=(s,w)∨(r∈tb/\r.1≠s):=by
 unfold eo;split
 .rename_i h;rw[adv] at h;constructor
  .intro hr;obtain⟨x,hx,rfl⟩:=acE.mp hr;by_cases e:x.1=s
   .rw[if_pos e,e];exact .inl rfl
   .rw[if_neg e];exact .inr ⟨hx,e⟩
  .rintro (rfl|⟨h1,h2⟩)
   .obtain⟨x,hx,e⟩:=h;have e:=of_decide_eq_true e;exact acE.mpr ⟨x,hx,by rw[if_pos e,e]⟩
   .exact acE.mpr ⟨r,h1,by rw[if_neg h2]⟩
 .rename_i h;rw[ac4,ac9];constructor
  .rintro (h1|rfl)
   .refine .inr ⟨h1,λe=>h (adv.mpr ⟨r,h1,decide_eq_true e⟩)⟩
   .exact .inl rfl
  .rintro (rfl|⟨h1,_⟩)
   .exact .inr rfl
   .exact .inl h1
end Gz
namespace Br
open PySem L2 Gz
local macro_rules | `(tactic| walk_at "d") => `(tactic| dsimp only [seval, Nat.reduceAdd, Nat.reduceSub, ↓reduceIte, nK, rP, vR, nN, FR, yQ, tC, FK, FH, rR, b5, zm, vT, se, pH, Fv, Fw, tB, Fy, Fz, FA, FC, FD, FE, FG, FI, rI, gv, rU, FU, FV, Qe, Qf, Qg, Qh, Qi, P7, P8, P9, Qa, Qb, Qc, ite_tt, ite_ff, L2.start, Qj, Qk, List.map_cons, List.map_nil, List.length_cons, List.length_nil, List.replicate, List.nil_append, List.cons_append, List.getElem?_cons_zero, List.getElem?_cons_succ, List.set_cons_zero, List.set_cons_succ, Bool.not_true, Bool.not_false, F7, F8, GC, Pg, GG, Ql, Qm, Qn, zI, wu, RF, wc, yV, yU, zH, FO, Gy, Ab, yY, yX, Rt, Ru, F4, F5, zk, F9, Gq, Gm, Gn, zx, GI, Rj, Rk, Rl, ze, zJ, zV, zY, z6, Ky, Vw, Vx, Vy, Vz, VA, VB, VC, VD, VE, VF, VG, VN, VH, VI, VJ, VL, VM, tT, xy, Bf, Bg, KA, qH, KG, KH, VR, VS, VT, VU, VV, VW, VX, VY, VZ, V0, V1, V2, V3, KI, KJ, KL, KN, KO, KP, KS, KU, wK, wL, RK, IU, Ai, R0, Iq, Ir, IQ, Jq, Pt, mw, kx, cL, ix, Kv, Jv, TQ, Ju, AN, TU, JH, JT, TM, K3, JV, UP, KY])
local macro_rules | `(tactic| walk_at "s") => `(tactic| simp only [seval, Nat.reduceAdd, Nat.reduceSub, reduceCtorEq, ↓reduceIte, ite_tt, ite_ff, List.map_cons, List.map_nil, List.length_cons, List.length_nil, List.nil_append, List.cons_append, Option.some.injEq, V.int.injEq, V.bl.injEq, V.ref.injEq, List.cons.injEq, exists_eq_left, exists_eq_left', exists_and_left, true_and, and_true, decide_eq_true_eq, Nat.zero_add, Nat.sub_self, Nat.add_one_sub_one, decide_true, decide_false, Bool.not_eq_true', decide_eq_false_iff_not, false_and, exists_false, and_assoc, not_false_eq_true, not_true_eq_false, List.append_nil, Option.join_some])
local macro_rules | `(tactic| walk_at "p") => `(tactic| first | (walk_at "d"; repeat (first | walk_at "s" | walk_at "d")) | (walk_at "s"; repeat (first | walk_at "d" | walk_at "s")))
local macro_rules | `(tactic| walk_at "g") => `(tactic| try walk_at "p")
local macro_rules|`(tactic|rfl')=>`(tactic|walk_at "g")
local macro_rules | `(tactic| walk_at "c") => `(tactic| (refine ⟨⟨rfl, rfl, rfl, by decide +kernel, rfl, by decide +kernel, by decide +kernel⟩, fun _ _ _ _ _ _ _ _ => ?_⟩; (repeat (refine V5 fun _ => ?_)); exact V6 rfl))
theorem Fb.fp(b:Fb K x q st p)(S:Sc N ps st):∃ F:Fm K x q st ps,p F.a :=
 let ⟨a,l,c,k⟩:=b;⟨⟨_,_,pL l c k,(pL l c k).binds (S.b x q)⟩,a⟩
inductive dC(H:Hp)(v:V)(m:Mk):Prop
 | mk(t p:acF)(_:v = .ref t)(_:H t=some (.tup [.int m.1,.ref p]))(_:H p=some (.tup [ev m.2.1,ev m.2.2]))
theorem dC.same(h:dC H v m)(s:ah H H'):dC H' v m:=let ⟨t,p,e,a,b⟩:=h;⟨t,p,e,s _ _ a,s _ _ b⟩
def top(i:Nat):aee:=PySem.Challenge.pw_gaze_k69_reasons_of_many_words.main.body.getD i (.Pass ⟨0,0,0,0⟩)
abbrev Bs:aee:=top 9
abbrev Bu:aee:=top 10
abbrev Bv:aee:=top 11
abbrev Bw:aee:=top 13
abbrev Bx:aee:=top 14
abbrev By:aee:=top 15
abbrev Bz:aee:=top 16
abbrev BA:aee:=top 17
abbrev BB:aee:=top 20
abbrev BC:aee:=top 21
abbrev BD:aee:=top 22
abbrev BE:aee:=inClass (top 24) 0
abbrev BF:aee:=inClass (top 24) 1
abbrev BG:aee:=inClass (top 24) 2
abbrev BH:aee:=inClass (top 25) 0
abbrev BI:aee:=inClass (top 25) 1
abbrev BJ:aee:=inClass (top 25) 2
abbrev BK:aee:=inClass (top 26) 0
abbrev BL:aee:=inClass (top 26) 1
abbrev BM:aee:=inClass (top 26) 2
abbrev BN:aee:=inClass (top 27) 0
abbrev BO:aee:=inClass (top 27) 1
abbrev BP:aee:=inClass (top 27) 2
abbrev BQ:aee:=inClass (top 28) 0
abbrev BR:aee:=inClass (top 28) 1
abbrev BS:aee:=inClass (top 28) 2
abbrev BU:aee:=inClass (top 29) 0
abbrev BV:aee:=inClass (top 29) 1
abbrev BW:aee:=inClass (top 29) 2
abbrev BX:aee:=inClass (top 29) 3
abbrev BY:aee:=inClass (top 29) 4
abbrev BZ:aee:=top 31
abbrev B0:aee:=top 33
abbrev B1:aee:=top 34
abbrev B2:aee:=top 35
abbrev B3:aee:=top 36
abbrev B4:aee:=top 37
abbrev B5:aee:=top 38
abbrev B6:aee:=top 39
abbrev B7:aee:=top 40
abbrev B8:aee:=top 41
abbrev B9:aee:=top 43
abbrev Ca:aee:=top 44
abbrev Cb:aee:=top 45
abbrev Cc:aee:=top 46
abbrev Cd:aee:=top 48
abbrev Ce:aee:=top 49
abbrev Cf:aee:=top 50
abbrev Cg:aee:=top 51
abbrev Ci:aee:=top 52
abbrev Cj:aee:=top 53
abbrev Ck:aee:=top 55
abbrev Cm:aee:=top 56
abbrev Cn:aee:=top 57
abbrev Co:aee:=top 58
abbrev Cp:aee:=inClass (top 62) 0
abbrev Cq:aee:=inClass (top 62) 1
abbrev Cr:aee:=inClass (top 62) 2
abbrev Cs:aee:=inClass (top 62) 3
abbrev Ct:aee:=inClass (top 62) 4
abbrev Cu:aee:=inClass (top 62) 6
abbrev Cv:aee:=inClass (top 62) 8
abbrev Cw:aee:=inClass (top 62) 10
abbrev Cy:aee:=inClass (top 62) 11
abbrev Cz:aee:=top 64
abbrev CA:aee:=top 65
abbrev CB:aee:=top 66
abbrev CC:aee:=top 67
abbrev CD:aee:=top 68
abbrev CF:aee:=top 69
abbrev CG:aee:=top 70
abbrev CH:aee:=top 71
abbrev CI:aee:=top 72
abbrev CJ:aee:=top 73
abbrev CK:aee:=top 74
abbrev CL:aee:=top 75
abbrev CM:aee:=top 76
abbrev CN:aee:=top 77
abbrev CO:aee:=top 78
abbrev CP:aee:=top 79
abbrev CQ:aee:=top 80
abbrev CS:aee:=top 81
abbrev CT:aee:=top 82
abbrev CU:aee:=top 83
abbrev CV:aee:=top 84
abbrev CW:aee:=top 85
abbrev CY:aee:=top 86
abbrev CZ:aee:=top 87
abbrev C0:aee:=top 88
theorem C1:Sc ["lo","hi"] ["lo","hi"] Bs:=by walk_at "c"
theorem tV:Sc ["one","other","lo","hi"] ["one","other"] Bu:=by walk_at "c"
theorem qK:Sc ["some","whole","one"] ["some"] Bv:=by walk_at "c"
theorem C2:Sc ["board","kind","turn"] ["board","kind","turn"] Bw:=by walk_at "c"
theorem xD:Sc ["board","claim","part"] ["board","claim"] Bx:=by walk_at "c"
theorem C3:Sc ["claim","kind","turn"] ["claim","kind","turn"] By:=by walk_at "c"
theorem xE:Sc ["board","claim","own"] ["board","claim"] Bz:=by walk_at "c"
theorem C4:Sc ["board","claim"] ["board","claim"] BA:=by walk_at "c"
theorem tW:Sc ["one","below","above"] ["one"] BB:=by walk_at "c"
theorem tX:Sc ["claim","found","part"] ["claim"] BC:=by walk_at "c"
theorem C5:Sc ["first","last","one"] ["first","last","one"] BD:=by walk_at "c"
theorem C6:Sc ["self","first","last"] ["self","first","last"] BE:=by walk_at "c"
theorem C7:Sc ["self"] ["self"] BF:=by walk_at "c"
theorem C8:Sc ["self","one"] ["self","one"] BG:=by walk_at "c"
theorem C9:Sc ["self","first","last","stretch"] ["self","first","last","stretch"] BH:=by walk_at "c"
theorem Dc:Sc ["self"] ["self"] BI:=by walk_at "c"
theorem Dd:Sc ["self"] ["self"] BJ:=by walk_at "c"
theorem De:Sc ["self","first","last","sill"] ["self","first","last","sill"] BK:=by walk_at "c"
theorem Df:Sc ["self"] ["self"] BL:=by walk_at "c"
theorem Dg:Sc ["self"] ["self"] BM:=by walk_at "c"
theorem Dh:Sc ["self","first","last","sill"] ["self","first","last","sill"] BN:=by walk_at "c"
theorem Di:Sc ["self"] ["self"] BO:=by walk_at "c"
theorem Dj:Sc ["self"] ["self"] BP:=by walk_at "c"
theorem Dk:Sc ["self","first","last","low","high"] ["self","first","last","low","high"] BQ:=by walk_at "c"
theorem qL:Sc ["self","found","turn","lows"] ["self"] BR:=by walk_at "c"
theorem Dl:Sc ["self"] ["self"] BS:=by walk_at "c"
theorem Dm:Sc ["self","marks"] ["self","marks"] BU:=by walk_at "c"
theorem Dp:Sc ["self"] ["self"] BV:=by walk_at "c"
theorem Dq:Sc ["self"] ["self"] BW:=by walk_at "c"
theorem Dr:Sc ["self"] ["self"] BX:=by walk_at "c"
theorem Ds:Sc ["self"] ["self"] BY:=by walk_at "c"
theorem Dt:Sc ["cell"] ["cell"] BZ:=by walk_at "c"
theorem tY:Sc ["one","step","lo","hi"] ["one","step"] B0:=by walk_at "c"
theorem mH:Sc ["boxes","steps","kept","turn","box","left"] ["boxes","steps"] B1:=by walk_at "c"
theorem Du:Sc ["marks","turn"] ["marks","turn"] B2:=by walk_at "c"
theorem tZ:Sc ["steps","marks","forth","backward"] ["steps","marks"] B3:=by walk_at "c"
theorem oF:Sc ["steps","marks","boxes","course","step","box"] ["steps","marks"] B4:=by walk_at "c"
theorem Dv:Sc ["one","other"] ["one","other"] B5:=by walk_at "c"
theorem Dw:Sc ["one","by"] ["one","by"] B6:=by walk_at "c"
theorem mI:Sc ["steps","marks","tops","number","mark","turn"] ["steps","marks"] B7:=by walk_at "c"
theorem qM:Sc ["tops","marks","number","mark","top"] ["tops","marks"] B8:=by walk_at "c"
theorem Dx:Sc ["board","eye"] ["board","eye"] B9:=by walk_at "c"
theorem Dy:Sc ["board","some"] ["board","some"] Ca:=by walk_at "c"
theorem Dz:Sc ["board"] ["board"] Cb:=by walk_at "c"
theorem kF:Sc ["steps","groups","found","name","marks","tops","beside","others","pair"] ["steps","groups"] Cc:=by walk_at "c"
theorem DA:Sc ["pairs","eye"] ["pairs","eye"] Cd:=by walk_at "c"
theorem DB:Sc ["pair"] ["pair"] Ce:=by walk_at "c"
theorem qN:Sc ["pairs","most","eye","others"] ["pairs","most"] Cf:=by walk_at "c"
theorem DC:Sc ["pairs","eye","most"] ["pairs","eye","most"] Cg:=by walk_at "c"
theorem mJ:Sc ["pairs","most","one","other","first","second"] ["pairs","most"] Ci:=by walk_at "c"
theorem mK:Sc ["board","claim","steps","goals","marks","pairs","aside"] ["board","claim"] Cj:=by walk_at "c"
theorem qO:Sc ["board","claims","papers","claim","answer"] ["board","claims"] Ck:=by walk_at "c"
theorem qP:Sc ["board","event","fitting","without","having"] ["board","event"] Cm:=by walk_at "c"
theorem DD:Sc ["board","eye"] ["board","eye"] Cn:=by walk_at "c"
theorem mL:Sc ["board","event","spots","kept","spot","fewer"] ["board","event"] Co:=by walk_at "c"
theorem DE:Sc ["self","eyes","turns","up","down","most"] ["self","eyes","turns","up","down","most"] Cp:=by walk_at "c"
theorem DF:Sc ["self","eye"] ["self","eye"] Cq:=by walk_at "c"
theorem DG:Sc ["self","turn"] ["self","turn"] Cr:=by walk_at "c"
theorem DH:Sc ["self","eye","turn","lo","hi"] ["self","eye","turn","lo","hi"] Cs:=by walk_at "c"
theorem DI:Sc ["self","eye","turn"] ["self","eye","turn"] Ct:=by walk_at "c"
theorem DJ:Sc ["self"] ["self"] Cu:=by walk_at "c"
theorem t5:Sc ["self","spots","board","spot"] ["self","spots"] Cv:=by walk_at "c"
theorem DK:Sc ["self","eye","turn"] ["self","eye","turn"] Cw:=by walk_at "c"
theorem DL:Sc ["self","eye","turn"] ["self","eye","turn"] Cy:=by walk_at "c"
theorem DM:Sc ["_law_script","_law_k","_law_prime","_law_many"] ["_law_script","_law_k","_law_prime","_law_many"] Cz:=by walk_at "c"
theorem xF:Sc ["_law_script","_law_great"] ["_law_script"] CA:=by walk_at "c"
theorem DN:Sc ["_law_found"] ["_law_found"] CB:=by walk_at "c"
theorem DO:Sc ["_law_span","_law_number"] ["_law_span","_law_number"] CC:=by walk_at "c"
theorem mM:Sc ["_law_script","_law_k","_law_number","_law_unit","_law_lo","_law_hi","_law_open_end"] ["_law_script","_law_k","_law_number","_law_unit"] CD:=by walk_at "c"
theorem fh:Sc ["_law_script","_law_base_here","_law_unit","_law_eyes","_law_turns","_law_ups","_law_downs","_law_wrong","_law_course","_law_words","_law_turn","_law_eye","_law_k","_law_number","_law_most"] ["_law_script","_law_base_here"] CF:=by walk_at "c"
theorem t7:Sc ["_law_world_here","_law_board_here","_law_spot"] ["_law_world_here"] CG:=by walk_at "c"
theorem DP:Sc ["_law_world_here","_law_course"] ["_law_world_here","_law_course"] CH:=by walk_at "c"
theorem xG:Sc ["_law_world_here","_law_course","_law_turn"] ["_law_world_here","_law_course"] CI:=by walk_at "c"
theorem mO:Sc ["_law_begin","_law_claim","_law_sort","_law_turn","_law_lo","_law_hi","_law_part"] ["_law_begin","_law_claim","_law_sort","_law_turn"] CJ:=by walk_at "c"
theorem DQ:Sc ["_law_span"] ["_law_span"] CK:=by walk_at "c"
theorem xH:Sc ["_law_steps","_law_one","_law_other","_law_up"] ["_law_steps","_law_one","_law_other"] CL:=by walk_at "c"
theorem DR:Sc ["_law_world_here","_law_goals","_law_spot","_law_aside"] ["_law_world_here","_law_goals","_law_spot","_law_aside"] CM:=by walk_at "c"
theorem DS:Sc ["_law_world_here","_law_steps","_law_goals","_law_paper","_law_eye","_law_aside"] ["_law_world_here","_law_steps","_law_goals","_law_paper","_law_eye","_law_aside"] CN:=by walk_at "c"
theorem t8:Sc ["_law_world_here","_law_steps","_law_goals","_law_paper","_law_aside","_law_one","_law_other"] ["_law_world_here","_law_steps","_law_goals","_law_paper","_law_aside"] CO:=by walk_at "c"
theorem oG:Sc ["_law_world_here","_law_steps","_law_goals","_law_paper","_law_aside","_law_spans"] ["_law_world_here","_law_steps","_law_goals","_law_paper","_law_aside"] CP:=by walk_at "c"
theorem qQ:Sc ["_law_world_here","_law_claim","_law_paper","_law_own","_law_steps","_law_goals"] ["_law_world_here","_law_claim","_law_paper"] CQ:=by walk_at "c"
theorem mP:Sc ["_law_script","_law_world_here","_law_course","_law_unit","_law_first","_law_off","_law_seen","_law_sort","_law_low"] ["_law_script","_law_world_here","_law_course","_law_unit"] CS:=by walk_at "c"
theorem DT:Sc ["_law_tree_here","_law_board_here"] ["_law_tree_here","_law_board_here"] CT:=by walk_at "c"
theorem t9:Sc ["_law_tree_here","_law_course","_law_held","_law_seen"] ["_law_tree_here","_law_course"] CU:=by walk_at "c"
theorem ua:Sc ["_law_world_here","_law_spots_here","_law_words","_law_spot"] ["_law_world_here","_law_spots_here"] CV:=by walk_at "c"
theorem oH:Sc ["_law_world_here","_law_tree_here","_law_claims","_law_board_here","_law_found","_law_claim"] ["_law_world_here","_law_tree_here","_law_claims"] CW:=by walk_at "c"
theorem xI:Sc ["_law_world_here","_law_spots_here","_law_spot"] ["_law_world_here","_law_spots_here"] CY:=by walk_at "c"
theorem jH:Sc ["_law_world_here","_law_board_here","_law_tree_here","_law_event_here","_law_sure","_law_told","_law_refused","_law_claims","_law_spot","_law_fewer"] ["_law_world_here","_law_board_here","_law_tree_here","_law_event_here"] CZ:=by walk_at "c"
theorem iZ:Sc ["_law_script","_law_made","_law_world_here","_law_board_here","_law_tree_here","_law_event_here","_law_found","_law_kept","_law_spot"] ["_law_script"] C0:=by walk_at "c"
set_option genInjectivity false
set_option genSizeOf false
structure Tx(K:acr)(mg:Str->Option acB) where
 uc:Fn K mg "is_crossed" Bs (aK C1)
 ud:Fn K mg "meet" Bu (aK tV)
 ue:Fn K mg "common" Bv (aK qK)
 uf:Fn K mg "has_part" Bw (aK C2)
 jI:Fn K mg "check_claim" Bx (aK xD)
 ug:Fn K mg "stretches_of" By (aK C3)
 mQ:Fn K mg "paces" Bz (aK xE)
 mR:Fn K mg "wanted" BA (aK C4)
 uh:Fn K mg "outside" BB (aK tW)
 ui:Fn K mg "failures" BC (aK tX)
 uj:Fn K mg "parts_at" BD (aK C5)
 i3:Fm K "__init__" "Spanned.__init__" BE (aK C6)
 eW:Fm K "far" "Spanned.far" BF (aK C7)
 eE:Fm K "all_at" "Spanned.all_at" BG (aK C8)
 oI:Fm K "__init__" "Stayed.__init__" BH (aK C9)
 mS:Fm K "ways" "Stayed.ways" BI (aK Dc)
 mT:Fm K "breaks" "Stayed.breaks" BJ (aK Dd)
 oJ:Fm K "__init__" "Over.__init__" BK (aK De)
 mU:Fm K "ways" "Over.ways" BL (aK Df)
 mV:Fm K "breaks" "Over.breaks" BM (aK Dg)
 oK:Fm K "__init__" "Under.__init__" BN (aK Dh)
 mW:Fm K "ways" "Under.ways" BO (aK Di)
 mX:Fm K "breaks" "Under.breaks" BP (aK Dj)
 oM:Fm K "__init__" "Rose.__init__" BQ (aK Dk)
 mY:Fm K "ways" "Rose.ways" BR (aK qL)
 mZ:Fm K "breaks" "Rose.breaks" BS (aK Dl)
 oN:Fm K "__init__" "Lying.__init__" BU (aK Dm)
 m5:Fm K "far" "Lying.far" BV (aK Dp)
 lJ:Fm K "all_right" "Lying.all_right" BW (aK Dq)
 m6:Fm K "ways" "Lying.ways" BX (aK Dr)
 m8:Fm K "breaks" "Lying.breaks" BY (aK Ds)
 uk:Fn K mg "number_in" BZ (aK Dt)
 um:Fn K mg "moved" B0 (aK tY)
 uo:Fn K mg "narrowed" B1 (aK mH)
 uq:Fn K mg "stretches_at" B2 (aK Du)
 uu:Fn K mg "tube" B3 (aK tZ)
 uv:Fn K mg "course_in" B4 (aK oF)
 uw:Fn K mg "lesser" B5 (aK Dv)
 ux:Fn K mg "lifted" B6 (aK Dw)
 uy:Fn K mg "ceilings" B7 (aK mI)
 uz:Fn K mg "crossing" B8 (aK qM)
 uA:Fn K mg "marks_of" B9 (aK Dx)
 uB:Fn K mg "marks_without" Ca (aK Dy)
 uC:Fn K mg "groups_of" Cb (aK Dz)
 uD:Fn K mg "clashes" Cc (aK kF)
 jJ:Fn K mg "without" Cd (aK DA)
 m9:Fn K mg "eyes_of" Ce (aK DB)
 jK:Fn K mg "put_aside" Cf (aK qN)
 i4:Fn K mg "branch" Cg (aK DC)
 i5:Fn K mg "paper" Ci (aK mJ)
 x_ask:Fn K mg "ask" Cj (aK mK)
 gN:Fn K mg "seek" Ck (aK qO)
 jL:Fn K mg "verdict" Cm (aK qP)
 nc:Fn K mg "lying" Cn (aK DD)
 ng:Fn K mg "reason" Co (aK mL)
 nh:Fm K "__init__" "Board.__init__" Cp (aK DE)
 lK:Fm K "has_eye" "Board.has_eye" Cq (aK DF)
 i6:Fm K "has_turn" "Board.has_turn" Cr (aK DG)
 ni:Fm K "tell" "Board.tell" Cs (aK DH)
 nj:Fm K "hush" "Board.hush" Ct (aK DI)
 kG:Fm K "tellings" "Board.tellings" Cu (aK DJ)
 nk:Fm K "keeping" "Board.keeping" Cv (aK t5)
 nq:Fm K "check_spot" "Board.check_spot" Cw (aK DK)
 lL:Fm K "check_word" "Board.check_word" Cy (aK DL)
 uE:Fn K mg "_law_draw" Cz (aK DM)
 uF:Fn K mg "_law_base" CA (aK xF)
 nr:Fn K mg "_law_whole" CB (aK DN)
 uG:Fn K mg "_law_within" CC (aK DO)
 uH:Fn K mg "_law_word" CD (aK mM)
 uI:Fn K mg "_law_world" CF (aK fh)
 uJ:Fn K mg "_law_board" CG (aK t7)
 uK:Fn K mg "_law_liars" CH (aK DP)
 uL:Fn K mg "_law_fits" CI (aK xG)
 uM:Fn K mg "_law_common" CJ (aK mO)
 jM:Fn K mg "_law_empty" CK (aK DQ)
 nu:Fn K mg "_law_climb" CL (aK xH)
 jN:Fn K mg "_law_mark" CM (aK DR)
 i7:Fn K mg "_law_branch" CN (aK DS)
 lM:Fn K mg "_law_clash" CO (aK t8)
 ij:Fn K mg "_law_refuted" CP (aK oG)
 uN:Fn K mg "_law_refutes" CQ (aK qQ)
 uO:Fn K mg "_law_tree" CS (aK mP)
 nv:Fn K mg "_law_event" CT (aK DT)
 uP:Fn K mg "_law_truth" CU (aK t9)
 uQ:Fn K mg "_law_left" CV (aK ua)
 gO:Fn K mg "_law_state" CW (aK oH)
 uR:Fn K mg "_law_spots" CY (aK xI)
 jO:Fn K mg "_law_asked_of" CZ (aK jH)
 oO:Fn K mg "law" C0 (aK iZ)
 xJ:mg "all" = none
 K5:mg "any" = none
 Wk:mg "bool" = none
 Wl:mg "dict" = none
 xK:mg "enumerate" = none
 Wm:mg "int" = none
 oP:mg "isinstance" = none
 dt:mg "len" = none
 qR:mg "list" = none
 oQ:mg "max" = none
 qS:mg "min" = none
 eX:mg "range" = none
 Wn:mg "reversed" = none
 K6:mg "set" = none
 K7:mg "sorted" = none
 K8:mg "sum" = none
 DU:mg "tuple" = none
 Wo:mg "zip" = none
 xM:acF
 acj:mg "GazeError" = some (.ref xM)
 ny:acF
 DV:mg "NoBoard" = some (.ref ny)
 i8:acF
 xN:mg "NoTelling" = some (.ref i8)
 i9:acF
 K9:mg "NoClaim" = some (.ref i9)
 ja:acF
 La:mg "NoEvent" = some (.ref ja)
 gn:acF
 Lb:mg "NoAlarm" = some (.ref gn)
 xO:acF
 ack:mg "Event" = some (.ref xO)
 dP:acF
 xP:mg "Spanned" = some (.ref dP)
 b8:acF
 Wq:mg "Stayed" = some (.ref b8)
 b9:acF
 Wr:mg "Over" = some (.ref b9)
 cc:acF
 Ws:mg "Under" = some (.ref cc)
 cf:acF
 Wt:mg "Rose" = some (.ref cf)
 cR:acF
 Wu:mg "Lying" = some (.ref cR)
 aO:acF
 Lc:mg "Board" = some (.ref aO)
 Ld:b6 K dP
 Le:bW K dP "first"
 Lf:bW K dP "last"
 Lg:Mk K dP i3.a
 acm:Meth K dP "far" eW.a
 acn:Meth K dP "all_at" eE.a
 gP:b6 K b8
 uS:bW K b8 "first"
 qT:bW K b8 "last"
 uT:bW K b8 "stretch"
 DW:Mk K b8 oI.a
 Wv:Meth K b8 "far" eW.a
 Lh:Meth K b8 "all_at" eE.a
 Ww:Meth K b8 "ways" mS.a
 Wx:Meth K b8 "breaks" mT.a
 gQ:b6 K b9
 uU:bW K b9 "first"
 qU:bW K b9 "last"
 uV:bW K b9 "sill"
 DX:Mk K b9 oJ.a
 Wy:Meth K b9 "far" eW.a
 Li:Meth K b9 "all_at" eE.a
 Wz:Meth K b9 "ways" mU.a
 WA:Meth K b9 "breaks" mV.a
 gR:b6 K cc
 uW:bW K cc "first"
 qV:bW K cc "last"
 uX:bW K cc "sill"
 DY:Mk K cc oK.a
 WB:Meth K cc "far" eW.a
 Lj:Meth K cc "all_at" eE.a
 WC:Meth K cc "ways" mW.a
 WD:Meth K cc "breaks" mX.a
 eN:b6 K cf
 qW:bW K cf "first"
 nz:bW K cf "last"
 uY:bW K cf "low"
 uZ:bW K cf "high"
 DZ:Mk K cf oM.a
 WE:Meth K cf "far" eW.a
 aco:Meth K cf "all_at" eE.a
 WG:Meth K cf "ways" mY.a
 WH:Meth K cf "breaks" mZ.a
 kH:b6 K cR
 u5:bW K cR "marks"
 D0:Mk K cR oN.a
 WI:Meth K cR "far" m5.a
 WJ:Meth K cR "ways" m6.a
 WK:Meth K cR "breaks" m8.a
 Ll:Meth K cR "all_right" lJ.a
 bw:b6 K aO
 qX:bW K aO "eyes"
 oR:bW K aO "turns"
 u6:bW K aO "up"
 vc:bW K aO "down"
 qY:bW K aO "most"
 kI:bW K aO "told"
 xQ:Mk K aO nh.a
 Lm:Meth K aO "has_eye" lK.a
 vd:Meth K aO "has_turn" i6.a
 WL:Meth K aO "tell" ni.a
 WM:Meth K aO "hush" nj.a
 D1:Meth K aO "tellings" kG.a
 WN:Meth K aO "keeping" nk.a
 WO:Meth K aO "check_spot" nq.a
 Ln:Meth K aO "check_word" lL.a
 xR:Ih K dP "__init__" i3.a
 ve:XC K ny
 qZ:XC K i8
 xS:XC K i9
 xT:XC K ja
 D2:XC K gn
 WQ:ahc K (.ref gn) (.ref gn)=some true
 WR:∃ t,mg "LAST_TURN" = some (.int 11 t)
 WS:∃ t,mg "EYES_AT_MOST" = some (.int 7 t)
 WT:∃ t,mg "TURNS_AT_MOST" = some (.int 12 t)
set_option genInjectivity true
set_option genSizeOf true
section
seal L2.PE L2.PS L2.aT L2.PA
inductive WU(vs:List V)(H:Hp)(Q:VK)(aS:XK):Prop
 | mk(v:V)(_:vs=[v])(_:(v = .non ∨ ∃ i,v = .int i))(_:Q (.bl (isWhole v)) H)
theorem q8(T:Tx K mg):Ok P w base 1 T.nr WU:=by
 refine bH DN ?_;rintro _ _ _ _ _ _ _ _ _ ⟨v,rfl,hv,q⟩;refine⟨_,(au (aA (jF (bf nX (by rfl) T.oP nW (ae (aa 0) (ae (nJ (v:=.ty "int") rfl T.Wm PY rfl) ag))) (ji (KR (bf nX (by rfl) T.oP nW (ae (aa 0) (ae (nJ (v:=.ty "bool") rfl T.Wk PZ rfl) ag)))))))),?_⟩;rcases hv with rfl|⟨i,rfl⟩
 .rfl';exact q
 .rfl';exact q
inductive WV(vs:List V)(H:Hp)(Q:VK)(aS:XK):Prop
 | mk(a b:En)(_:vs=[ev a,ev b])(_:Q (.bl (aX a b)) H)
theorem Lo(T:Tx K mg):Ok P w base 1 T.uc WV:=by
 refine bH C1 ?_;rintro _ _ _ _ _ _ _ _ _ ⟨a,b,rfl,q⟩;refine⟨_,(au (aA (jF (lU (rM (aa 0))) (jF (lU (rM (aa 1))) (ji (fv (iW vQ) (aa 0) (aa 1) (c7 _))))))),?_⟩;rcases a with _|x
 .rfl';exact q
 rcases b with _|y
 .rfl';exact q
 rfl';exact q
inductive WW(vs:List V)(H:Hp)(Q:VK)(aS:XK):Prop
 | mk(v u:V)(a b c d:En)(_:vs=[v,u])(_:aM H v a b)(_:aM H u c d)(_:∀ x H',ah H H'->Ic H' x (dA a c) (ee b d)->Q x H')
theorem D3(T:Tx K mg):Ok P w base 2 T.ud WW:=by
 refine bH tV ?_;rintro _ _ _ _ H _ Q _ hr ⟨v,u,a,b,c,d,rfl,⟨p,rfl,hp⟩,⟨r,rfl,dD⟩,q⟩;refine⟨_,(ar (aL 2 tV.nd (Hv rfl rfl T.oQ (dm (cO [] []) rfl (yW (aN (ae (aw (aa 0) af) (ae (aw (aa 1) af) ag)))) (λC s2 H2 ex pn=>⟨(iH (gK (aa 0))),(aa 0)⟩)) bF)) (ar (aL 3 tV.nd (Q5 rfl rfl T.qS (dm (cO [] []) rfl (yW (aN (ae (aw (aa 0) af) (ae (aw (aa 1) af) ag)))) (λC s2 H2 ex pn=>⟨(iH (gK (aa 0))),(aa 0)⟩)) bF)) (ar (aH (cy (aJ (Lo T) hr (ae (aa 2) (ae (aa 3) ag)))) (au (aA bF)) aG) (au (aA (aN (ae (aa 2) (ae (aa 3) ag)))))))),?_⟩;rfl';refine aI hp (aI dD ?_);rfl';refine⟨aW,λt ht=>⟨⟨_,ak.of aq⟩,Ie aq (λx H Q h=>?_) (λx H Q h=>?_) λl hl=>?_⟩⟩
 .rfl';exact Kx (Q:=λk=>Q k H) h
 .rfl';exact h
 refine⟨l,rfl,nums a c,ai.of aq,?_⟩;rw[RH];have s2:=(aj (o:=.tup [ev a,ev c]) ht).trans (aj (o:=.lst ((nums a c).map V.int)) hl);generalize upd (upd H t (.tup [ev a,ev c])) l (.lst ((nums a c).map V.int))=H2 at s2 ⊢;refine aI (s2 _ _ hp) (aI (s2 _ _ dD) ?_);rfl';refine⟨aW,λt' WX=>⟨⟨_,ak.of aq⟩,Ie aq (λx H Q h=>?_) (λx H Q h=>?_) λl' A0=>?_⟩⟩
 .rfl';exact Kx (Q:=λk=>Q k H) h
 .rfl';exact h
 refine⟨l',rfl,nums b d,ai.of aq,?_⟩;rw[RI];have s3:=s2.trans ((aj (o:=.tup [ev b,ev d]) WX).trans (aj (o:=.lst ((nums b d).map V.int)) A0));generalize upd (upd H2 t' (.tup [ev b,ev d])) l' (.lst ((nums b d).map V.int))=H3 at s3 ⊢;refine⟨_,_,rfl,?_⟩;cases hc:aX (dA a c) (ee b d) with
 | true =>
  rfl';exact q _ _ s3 ⟨λ_=>rfl,λz=>nomatch hc.symm.trans z⟩
 | false =>
  rfl';exact⟨aW,λp' dZ=>q _ _ (s3.trans (aj dZ)) ⟨λz=>(nomatch hc.symm.trans z),λ_=>aM.new⟩⟩
def eF(e t u d m:Int):Prop:=(1<=e/\e<=7)/\(1<=t/\t<=12)/\0<=u/\0<=d/\0<=m/\m<=e
noncomputable def xU(e t u d m:Int)(p:acF):List (Str × V):=[("eyes",.int e),("turns",.int t),("up",.int u),("down",.int d),("most",.int m),("told",.ref p)]
inductive WY(B C:acF)(vs:List V)(H:Hp)(Q:VK)(E:XK):Prop
 | mk(x dx:acF)(e t u d m:Int)(_:vs=[.ref x,.int e,.int t,.int u,.int d,.int m])(_:H x=some (.ins B dx []))(_:(¬ eF e t u d m->E (.ref C) none H))(_:(eF e t u d m->∀ p H',H p=none->SameBut x H H'->H' x=some (.ins B dx (xU e t u d m p))->H' p=some (.dT [])->Q .non H'))
theorem Lp(T:Tx K mg):Om P w mg base 1 T.nh (WY T.aO T.ny):=by
 refine jG DE ?_;rintro _ _ _ _ H _ _ E _ ⟨x,dx,e,t,u,d,m,rfl,hx,q0,q⟩;refine⟨_,(ar (aH (PW.pt (cU (cF (Bk fu fu af (aa 1) (As T.WS rfl))) (e9 (cF (Bk fu fu af (aa 2) (As T.WT rfl)))))) (au (iE iF rfl T.DV T.ve rfl (ae aR ag))) aG) (ar (aH (PW.pt (cU (mG (aa 3) af) (e9 (mG (aa 4) af)))) (au (iE iF rfl T.DV T.ve rfl (ae aR ag))) aG) (ar (aH (cF (Bk fu fu af (aa 5) (aa 1))) (au (iE iF rfl T.DV T.ve rfl (ae aR ag))) aG) (ar (gL (aa 0) (aa 1) rfl) (ar (gL (aa 0) (aa 2) rfl) (ar (gL (aa 0) (aa 3) rfl) (ar (gL (aa 0) (aa 4) rfl) (ar (gL (aa 0) (aa 5) rfl) (au (gL (aa 0) Ar rfl)))))))))),?_⟩;rfl';have no:∀ D σ,¬ eF e t u d m->∀ x,zF T.ny E (vT (tC (.str x)) se) D σ H:=λD σ z x=>⟨by show 1<=acV;decide,q0 z⟩
 refine aV (λh1=>aV (λh2=>?_) λh2=>no _ _ (λz=>by unfold eF at z;lia) _) λh1=>no _ _ (λz=>by unfold eF at z;lia) _;refine aV (λh3=>aV (λh4=>?_) λh4=>no _ _ (λz=>by unfold eF at z;lia) _) λh3=>no _ _ (λz=>by unfold eF at z;lia) _;refine aV (λh5=>no _ _ (λz=>by unfold eF at z;lia) _) λh5=>aV (λh6=>no _ _ (λz=>by unfold eF at z;lia) _) λh6=>?_;refine aV (λh7=>aV (λh8=>?_) λh8=>no _ _ (λz=>by unfold eF at z;lia) _) λh7=>no _ _ (λz=>by unfold eF at z;lia) _;replace q:=q (by unfold eF;lia);refine⟨_,_,_,hx,T.bw,T.qX,(by show 0<1000;decide),_,_,_,aq,T.bw,T.oR,(by show 1<1000;decide),_,_,_,aq,T.bw,T.u6,(by show 2<1000;decide),_,_,_,aq,T.bw,T.vc,(by show 3<1000;decide),_,_,_,aq,T.bw,T.qY,(by show 4<1000;decide),?_⟩;rw[jf,jf,jf,jf];intro p hp;have Lq:p≠x:=λz=>by rw[z,aq] at hp;cases hp
 refine⟨_,_,_,(aj hp) _ _ aq,T.bw,T.kI,(by show 5<1000;decide),q p _ (by rw[aD Lq] at hp;exact hp) (λb o hb e=>?_) aq ?_⟩
 .rw[aD hb];exact (aj hp) _ _ (by rw[aD hb];exact e)
 .rw[aD Lq,aq]
structure gT(B:acF)(H:Hp)(x:acF)(e t u d m:Int)(p:acF)(kvs:List (List Key × V)):Prop where
 ob:∃ dx,H x=some (.ins B dx (xU e t u d m p))
 tb:H p=some (.dT kvs)
theorem gT.same(h:gT B H x e t u d m p kvs)(s:ah H H'):gT B H' x e t u d m p kvs:=let ⟨⟨dx,a⟩,b⟩:=h;⟨⟨dx,s _ _ a⟩,s _ _ b⟩
inductive WZ(B:acF)(vs:List V)(H:Hp)(Q:VK)(aS:XK):Prop
 | mk(x p:acF)(e t u d m i:Int)(kvs:List (List Key × V))(_:vs=[.ref x,.int i])(_:gT B H x e t u d m p kvs)(_:Q (.bl (decide (0<=i/\i<e))) H)
inductive W0(B:acF)(vs:List V)(H:Hp)(Q:VK)(aS:XK):Prop
 | mk(x p:acF)(e t u d m i:Int)(kvs:List (List Key × V))(_:vs=[.ref x,.int i])(_:gT B H x e t u d m p kvs)(_:Q (.bl (decide (0<=i/\i<t))) H)
theorem Lr(T:Tx K mg):Om P w mg base 1 T.lK (WZ T.aO):=by
 refine fg DF ?_;rintro _ _ _ _ _ _ _ _ _ ⟨x,p,e,t,u,d,m,i,kvs,rfl,⟨⟨dx,hx⟩,hp⟩,q⟩;refine⟨_,(au (aA (F1 fu zc af (aa 1) (bE rfl (aa 0) rfl)))),?_⟩;rfl';refine aV (λh1=>?_) λh1=>?_
 .refine⟨_,_,_,hx,T.bw,T.qX,_,rfl,?_⟩;rfl';rw[show decide (0<=i/\i<e)=decide (i<e) by simp[h1]] at q;exact q
 .rw[show decide (0<=i/\i<e)=false by simp[h1]] at q;exact q
theorem vf(T:Tx K mg):Om P w mg base 1 T.i6 (W0 T.aO):=by
 refine fg DG ?_;rintro _ _ _ _ _ _ _ _ _ ⟨x,p,e,t,u,d,m,i,kvs,rfl,⟨⟨dx,hx⟩,hp⟩,q⟩;refine⟨_,(au (aA (F1 fu zc af (aa 1) (bE rfl (aa 0) rfl)))),?_⟩;rfl';refine aV (λh1=>?_) λh1=>?_
 .refine⟨_,_,_,hx,T.bw,T.oR,_,rfl,?_⟩;rfl';rw[show decide (0<=i/\i<t)=decide (i<t) by simp[h1]] at q;exact q
 .rw[show decide (0<=i/\i<t)=false by simp[h1]] at q;exact q
inductive W3(B C:acF)(vs:List V)(H:Hp)(Q:VK)(E:XK):Prop
 | mk(x p:acF)(e t u d m i j:Int)(kvs:List (List Key × V))(_:vs=[.ref x,.int i,.int j])(_:gT B H x e t u d m p kvs)(_:(¬ ((0<=i/\i<e)/\0<=j/\j<t)->E (.ref C) none H))(_:((0<=i/\i<e)/\0<=j/\j<t->Q .non H))
theorem W4(T:Tx K mg):Om P w mg base 2 T.nq (W3 T.aO T.i8):=by
 refine jG DK ?_;rintro _ _ _ _ _ _ _ _ hr ⟨x,p,e,t,u,d,m,i,j,kvs,rfl,hb,q0,q⟩;refine⟨_,(au (aH (PW.pt (cU (cF (cy (eS (aa 0) T.bw T.Lm (Lr T) hr.m T.lK.b .nil bI (ae (aa 1) ag)))) (e9 (cF (cy (eS (aa 0) T.bw T.vd (vf T) hr.m T.i6.b .nil bI (ae (aa 2) ag))))))) (au (iE iF rfl T.xN T.qZ rfl (ae aR ag))) aG)),?_⟩;obtain⟨⟨dx,hx⟩,hp⟩:=id hb;rfl';refine⟨_,_,hx,rfl,x,p,e,t,u,d,m,i,kvs,rfl,hb,?_⟩;by_cases h1:0<=i/\i<e
 .rw[decide_eq_true h1];rfl';refine⟨_,_,hx,rfl,x,p,e,t,u,d,m,j,kvs,rfl,hb,?_⟩;by_cases h2:0<=j/\j<t
  .rw[decide_eq_true h2];rfl';exact q ⟨h1,h2⟩
  .rw[decide_eq_false h2];rfl';exact⟨by decide,q0 λz=>h2 z.2⟩
 .rw[decide_eq_false h1];rfl';exact⟨by decide,q0 λz=>h1 z.1⟩
inductive W5(B C:acF)(vs:List V)(H:Hp)(Q:VK)(E:XK):Prop
 | mk(x p:acF)(e t u d m i j:Int)(kvs:List (List Key × V))(_:vs=[.ref x,.int i,.int j])(_:gT B H x e t u d m p kvs)(_:(da kvs (spot i j)=none->∀ H',ah H H'->E (.ref C) none H'))(_:(∀ v,da kvs (spot i j)=some v->∀ H',ah H H'->Q .non H'))
theorem Ls(T:Tx K mg):Om P w mg base 1 T.lL (W5 T.aO T.i8):=by
 refine jG DL ?_;rintro _ _ _ _ _ _ _ _ hr ⟨x,p,e,t,u,d,m,i,j,kvs,rfl,hb,q0,q⟩;refine⟨_,(au (aH (rN (Aj (dI hr) (aN (ae (aa 1) (ae (aa 2) ag))) (bE rfl (aa 0) rfl))) (au (iE iF rfl T.xN T.qZ rfl (ae aR ag))) aG)),?_⟩;obtain⟨⟨dx,hx⟩,hp⟩:=id hb;rfl';refine⟨aW,λk hk=>⟨_,_,_,(aj hk) _ _ hx,T.bw,T.kI,_,rfl,p,rfl,da kvs (spot i j),eh.t (k:=spot i j) ((aj hk) _ _ hp) aq,?_⟩⟩;cases hv:da kvs (spot i j) with
 | none=>exact⟨by decide,q0 hv _ (aj hk)⟩
 | some v=>exact q v hv _ (aj hk)
inductive W6(B C:acF)(vs:List V)(H:Hp)(Q:VK)(E:XK):Prop
 | mk(x p:acF)(e t u d m i j:Int)(lo hi:En)(kvs:List (List Key × V))(_:vs=[.ref x,.int i,.int j,ev lo,ev hi])(_:gT B H x e t u d m p kvs)(_:kvs.length<1000)(_:(¬ (((0<=i/\i<e)/\0<=j/\j<t)/\aX lo hi=false)->E (.ref C) none H))(_:(((0<=i/\i<e)/\0<=j/\j<t)/\aX lo hi=false->∀ v H',SameBut p H H'->H' p=some (.dT (putK kvs (spot i j) v))->aM H' v lo hi->Q .non H'))
theorem W7(T:Tx K mg):Om P w mg base 3 T.ni (W6 T.aO T.i8):=by
 refine jG DH ?_;rintro _ _ _ _ _ _ _ _ hr ⟨x,p,e,t,u,d,m,i,j,lo,hi,kvs,rfl,hb,hl,q0,q⟩;refine⟨_,(ar (eI (eS (aa 0) T.bw T.WO (W4 T) hr.m T.nq.b .nil bZ (ae (aa 1) (ae (aa 2) ag)))) (ar (aH (cy (aJ (Lo T) hr (ae (aa 3) (ae (aa 4) ag)))) (au (iE iF rfl T.xN T.qZ rfl (ae aR ag))) aG) (au (wR (dI hr) (bE rfl (aa 0) rfl) (aN (ae (aa 1) (ae (aa 2) ag))) (aN (ae (aa 3) (ae (aa 4) ag))) rfl)))),?_⟩;obtain⟨⟨dx,hx⟩,hp⟩:=id hb;rfl';refine⟨_,_,hx,rfl,x,p,e,t,u,d,m,i,j,kvs,rfl,hb,λz=>q0 λy=>z y.1,λbU=>?_⟩;refine⟨lo,hi,rfl,?_⟩;cases hc:aX lo hi with
 | true =>
  rfl';exact⟨by decide,q0 λz=>by rw[hc] at z;cases z.2⟩
 | false =>
  rfl';refine⟨aW,λv hv=>⟨_,_,_,(aj hv) _ _ hx,T.bw,T.kI,_,rfl,aW,λk hk=>?_⟩⟩;have s2:=(aj (o:=.tup [ev lo,ev hi]) hv).trans (aj (o:=.tup [.int i,.int j]) hk);refine⟨p,rfl,_,mj.t (k:=spot i j) (s2 _ _ hp) aq (ajG hl (by decide)),q ⟨bU,hc⟩ (.ref v) _ (λb o gy e=>?_) aq ⟨v,rfl,?_⟩⟩
  .rw[aD gy];exact s2 _ _ e
  .have vp:v≠p:=λz=>by rw[z] at hv;rw[hp] at hv;cases hv
   rw[aD vp];exact (aj hk) _ _ aq
inductive W8(K:acr)(vs:List V)(H:Hp)(Q:VK)(aS:XK):Prop
 | mk(a:acF)(ns:List Int)(k pr m:Int)(_:vs=[.ref a,.int k,.int pr,.int m])(_:ai K H a (ns.map V.int))(_:k8 ns)(_:(-1000000<=k/\k<=1000000))(_:0<pr)(_:0<m)(_:∀ p:Int,0<=p->p<m->Q (.int p) H)
theorem W9(h:k8 ns)(hk : -1000000<=k/\k<=1000000):qe k k/\qe (sT ns k+k * k) 48271:=by have c:=RP h k;have k1:Bt 64 k:=Bt.small (by lia) (by lia);have k2:Bt 128 (k * k):=k1.mul k1;have n2:Bt 64 48271:=Bt.small (by decide) (by decide);exact⟨⟨k1.up (by decide),k1.up (by decide)⟩,(c.add (k2.up (by decide))).up (by decide),n2.up (by decide)⟩
theorem eO(T:Tx K mg):Ok P w base 1 T.uE (W8 K):=by
 refine bH DM ?_;rintro _ _ _ _ _ _ _ _ _ ⟨a,ns,k,pr,m,rfl,hS,hn,hk,hpr,hm,q⟩;refine⟨_,(ar (aH (bD (bf eK (by rfl) T.dt di (ae (aa 0) ag)) af) (au (aA af)) aG) (au (aA (aE xA (aE xA (aE Kz (aE bC (aw (aa 0) (aE xA (aa 1) (bf eK (by rfl) T.dt di (ae (aa 0) ag)))) (aE Kz (aa 1) (aa 1))) af) (aa 2)) (aa 3))))),?_⟩;rfl';refine⟨_,fE hS,?_⟩;rw[acs];have pm:=W9 hn hk;refine aV (λh=>?_) λh=>?_
 .exact q 0 (by decide) hm
 .have h:0<(ns.length:Int):=by have:ns.length≠0:=λz=>h (by rw[z];rfl);lia
  refine⟨_,fE hS,?_⟩;rw[acs];refine⟨h,bQ hS (RQ h) ?_⟩;rfl';exact⟨pm.1,pm.2,hpr,hm,q _ (akc _ (by lia)) (ai6 _ hm)⟩
inductive Xa(K:acr)(vs:List V)(H:Hp)(Q:VK)(aS:XK):Prop
 | mk(a:acF)(ns:List Int)(_:vs=[.ref a])(_:ai K H a (ns.map V.int))(_:k8 ns)(_:∀ (p:Int) (H':Hp),ah H H'->Q (.int p) H')
theorem Xb(T:Tx K mg):Ok P w base 2 T.uF (Xa K):=by
 refine bH xF ?_;rintro _ _ _ _ _ _ _ _ hr ⟨a,ns,rfl,hS,hn,q⟩;refine⟨_,(ar (aH (bD (bf eK (by rfl) T.dt di (ae (aa 0) ag)) af) (au (aA af)) aG) (ar (aL 1 xF.nd (aE xA (aw (aa 0) af) (aE zb af af))) (au (aA (aw (aN (ae af (ae (aa 1) (ae (aE cQ af (aa 1)) (ae (aE cQ (aE zb af af) (aa 1)) ag))))) (aJ (eO T) hr (ae (aa 0) (ae af (ae af (ae af ag)))))))))),?_⟩;rfl';refine⟨_,fE hS,?_⟩;rw[acs];refine aV (λh=>q _ _ (ah.refl _)) λh=>?_;have h:0<(ns.length:Int):=by have:ns.length≠0:=λz=>h (by rw[z];rfl);lia
 have h0:c8 (ns.map V.int) 0=some (.int (ns.getD 0 0)):=dH (j:=0) (by rw[acJ,acu,acv (by lia)];rfl);refine bQ hS h0 ?_;rfl';refine⟨⟨by decide,by decide,by decide⟩,⟨by decide,by decide,by decide⟩,by decide,λt ht=>?_⟩;refine⟨a,ns,_,_,_,rfl,(aj ht).seq hS,hn,by lia,by lia,by lia,λp p1 p2=>?_⟩;rcases (by lia:p=0∨p=1∨p=2∨p=3) with rfl|rfl|rfl|rfl
 all_goals exact az (ak.of aq) rfl (q _ _ (aj ht))
inductive Xc(K:acr)(vs:List V)(H:Hp)(Q:VK)(aS:XK):Prop
 | mk(p:acF)(lo hi:En)(n:Int)(_:vs=[.ref p,.int n])(_:ak K H p [ev lo,ev hi])(_:Q (.bl (hold lo hi n)) H)
theorem xV(T:Tx K mg):Ok P w base 1 T.uG (Xc K):=by
 refine bH DO ?_;rintro _ _ _ _ H _ Q _ _ ⟨p,lo,hi,n,rfl,hp,q⟩;refine⟨_,(au (aA (jF (KQ (lU (rL (aw (aa 0) af))) (ji (fv (iW fu) (aw (aa 0) af) (aa 1) (c7 _)))) (ji (KQ (lU (rL (aw (aa 0) af))) (ji (fv (iW fu) (aa 1) (aw (aa 0) af) (c7 _)))))))),?_⟩;rcases lo with _|lo<;>rcases hi with _|hi
 all_goals simp only[wK,wL] at hp
 all_goals
  rfl'
  repeat' first
  | refine az hp rfl ?_
  | (walk_at "p")
  | (refine aV (λhc=>?_) λhc=>?_)
 all_goals first
  | exact q
  | exact (congrArg (λb=>Q (V.bl b) H) (show hold _ _ n=_ by rw[adV,gC];simp<;>lia)).mp q
inductive Xd(K:acr)(vs:List V)(H:Hp)(Q:VK)(aS:XK):Prop
 | mk(p:acF)(lo hi:En)(_:vs=[.ref p])(_:ak K H p [ev lo,ev hi])(_:Q (.bl (aX lo hi)) H)
theorem D4(T:Tx K mg):Ok P w base 1 T.jM (Xd K):=by
 refine bH DQ ?_;rintro _ _ _ _ _ _ _ _ _ ⟨p,lo,hi,rfl,hp,q⟩;refine⟨_,(au (aA (jF (lU (rM (aw (aa 0) af))) (jF (lU (rM (aw (aa 0) af))) (ji (fv (iW vQ) (aw (aa 0) af) (aw (aa 0) af) (c7 _))))))),?_⟩;rcases lo with _|lo<;>rcases hi with _|hi
 all_goals simp only[wK,wL] at hp
 all_goals
  rfl'
  repeat' first
  | exact q
  | refine az hp rfl ?_
  | (walk_at "p")
inductive Xe(K:acr)(vs:List V)(H:Hp)(Q:VK)(aS:XK):Prop
 | mk(a:acF)(ns:List Int)(k n f:Int)(_:vs=[.ref a,.int k,.int n,.int f])(_:ai K H a (ns.map V.int))(_:k8 ns)(_:(-900000<=k/\k<=900000))(_:(1<=f/\f<=1000000000000000000000000000000))(_:∀ (p:acF) (lo hi:En) (H':Hp),ah H H'->H' p=some (.tup [ev lo,ev hi])->aX lo hi=false->hold lo hi n=true->Q (.ref p) H')
inductive D5(H:Hp)(a:acF)(k n f:Int)(σ:St)(H1:Hp):Prop
 | mk(lo hi:En)(o:Int)(_:σ=[some (.ref a),some (.int k),some (.int n),some (.int f),some (ev lo),some (ev hi),some (.int o)])(_:H1=H)(_:bS (lo,hi) n)
theorem Xf(T:Tx K mg):Ok P w base 2 T.uH (Xe K):=by
 refine bH mM ?_;rintro _ _ _ _ H _ _ _ hr ⟨a,ns,k,n,f,rfl,hS,hn,hk,⟨f1,f2⟩,q⟩;refine⟨_,(ar (aL 4 mM.nd (aE cQ (aE cQ (aa 2) (aE lG (aa 3) (aJ (eO T) hr (ae (aa 0) (ae (aa 1) (ae af (ae af ag))))))) (aJ (eO T) hr (ae (aa 0) (ae (aa 1) (ae af (ae af ag))))))) (ar (aL 5 mM.nd (aE bC (aa 2) (aE lG (aa 3) (aJ (eO T) hr (ae (aa 0) (ae (aa 1) (ae af (ae af ag)))))))) (ar (aL 6 mM.nd (aJ (eO T) hr (ae (aa 0) (ae (aa 1) (ae af (ae af ag)))))) (ar (aH (bD (aa 6) af) (au (aL 4 mM.nd bF)) aG) (ar (aH (bD (aa 6) af) (au (aL 5 mM.nd bF)) aG) (au (aA (aN (ae (aa 4) (ae (aa 5) ag)))))))))),?_⟩;refine aC (λσ H1=>∃ lo:Int,σ=[some (.ref a),some (.int k),some (.int n),some (.int f),some (.int lo),none,none]/\H1=H/\lo<=n) (λN hN=>?_) ?_
 .rfl';refine⟨a,ns,_,_,_,rfl,hS,hn,by lia,by lia,by lia,λp p1 p2=>?_⟩;rfl';have:=agk (show 0<=f by lia) p1;refine⟨lg (by lia) (by lia),?_⟩;refine⟨a,ns,_,_,_,rfl,hS,hn,by lia,by lia,by lia,λr r1 r2=>?_⟩;rfl';exact hN _ _ ⟨_,rfl,rfl,by lia⟩
 rintro _ yR σ H1 ⟨lo,rfl,rfl,h1⟩;subst yR;refine aC (λσ H2=>∃ hi:Int,σ=[some (.ref a),some (.int k),some (.int n),some (.int f),some (.int lo),some (.int hi),none]/\H2=H1/\n<=hi) (λN hN=>?_) ?_
 .rfl';refine⟨a,ns,_,_,_,rfl,hS,hn,by lia,by lia,by lia,λp p1 p2=>?_⟩;rfl';have:=agk (show 0<=f by lia) p1;exact⟨lg (by lia) (by lia),hN _ _ ⟨_,rfl,rfl,by lia⟩⟩
 rintro _ yR σ H ⟨hi,rfl,rfl,h2⟩;subst yR;refine aC (D5 H a k n f) (λN hN=>?_) ?_
 .rfl';refine⟨a,ns,_,_,_,rfl,hS,hn,by lia,by lia,by lia,λp p1 p2=>?_⟩;rfl';exact hN _ _ ⟨some lo,some hi,p,rfl,rfl,λx z=>by cases z;exact h1,λy z=>by cases z;exact h2⟩
 rintro _ yR σ H1 ⟨lo,hi,o,rfl,rfl,bU⟩;subst yR;refine aC (D5 H1 a k n f) (λN hN=>?_) ?_
 .rfl';exact aV (λ_=>hN _ _ ⟨none,hi,o,rfl,rfl,λx z=>(nomatch z),bU.2⟩) λ_=>hN _ _ ⟨lo,hi,o,rfl,rfl,bU⟩
 rintro _ yR σ H ⟨lo,hi,o,rfl,rfl,bU⟩;subst yR;refine aC (D5 H a k n f) (λN hN=>?_) ?_
 .rfl';exact aV (λ_=>hN _ _ ⟨lo,none,o,rfl,rfl,bU.1,λx z=>(nomatch z)⟩) λ_=>hN _ _ ⟨lo,hi,o,rfl,rfl,bU⟩
 rintro _ yR σ H1 ⟨lo,hi,o,rfl,rfl,bU⟩;subst yR;rfl';refine⟨aW,λp hp=>q p lo hi _ (aj hp) aq ?_ (Av.mp bU)⟩;rcases lo with _|x<;>rcases hi with _|y
 .rfl
 .rfl
 .rfl
 .have h1:=bU.1 x rfl;have h2:=bU.2 y rfl;simp only[aX];exact decide_eq_false (by lia)
theorem Xg(h:r∈eo tb s w):r∈tb∨r.2=w:=by
 unfold eo at h;split at h
 .obtain⟨x,hx,rfl⟩:=acE.mp h;by_cases e:x.1=s
  .rw[if_pos e];exact .inr rfl
  .rw[if_neg e];exact .inl hx
 .rcases ac4.mp h with z|z
  .exact .inl z
  .rw[ac9.mp z];exact .inr rfl
inductive fU(H:Hp)(v:V)(w:acF)(e t u d m:Int)(tb:Tb):Prop
 | mk(r:acF)(_:v = .ref r)(_:H r=some (.tup [.int e,.int t,.int u,.int d,.int m,.ref w]))(_:TabAt H w tb)
theorem fU.same(h:fU H v w e t u d m tb)(s:ah H H'):fU H' v w e t u d m tb:=let ⟨r,e,a,b⟩:=h;⟨r,e,s _ _ a,b.same s⟩
theorem Xi(h:TabAt H w tb)(hl:H l=some (.lst ys)):TabAt (upd H l o) w tb:=by obtain⟨kvs,hk,hA⟩:=h;exact⟨kvs,by rw[aD λz=>by rw[z,hl] at hk;cases hk];exact hk,hA.imp λ_ _ _ z=>z.put hl⟩
inductive D6(H:Hp)(e t:Int)(c w:acF)(cs:List Int)(n:Int)(H1:Hp):Prop
 | mk(tb:Tb)(_:ah H H1)(_:H1 c=some (.lst (cs.map V.int)))(_:TabAt H1 w tb)(_:bK e t tb)(_:(tb.length:Int)<=n)(_:∀ r∈tb,aX r.2.1 r.2.2=false)
def Lu(σ0:Option V->Option V->Option V->Option V->St)(H:Hp)(e t:Int)(c w:acF)(i:Nat)(σ:St)(H1:Hp):Prop:=∃ z1 z2 z3 z4 cs,σ=σ0 z1 z2 z3 z4/\cs≠[]/\cs.length-1=i-1/\D6 H e t c w cs ((i:Int) * e) H1
def Xj(σ0:Option V->Option V->Option V->Option V->St)(H:Hp)(e t:Int)(c w:acF)(cs:List Int)(n:Int)(j:Nat)(σ:St)(H1:Hp):Prop:=∃ z1 z2 z3 z4,σ=σ0 z1 z2 z3 z4/\D6 H e t c w cs (n+j) H1
inductive Xk(K:acr)(vs:List V)(H:Hp)(Q:VK)(aS:XK):Prop
 | mk(a:acF)(ns:List Int)(n:Int)(_:vs=[.ref a,.int n])(_:ai K H a (ns.map V.int))(_:k8 ns)(_:∀ (r wv w c:acF) (cs:List Int) (e t u d m f:Int) (tb:Tb) (H':Hp),ah H H'->H' r=some (.tup [.ref wv,.ref c,.int f])->H' wv=some (.tup [.int e,.int t,.int u,.int d,.int m,.ref w])->TabAt H' w tb->H' c=some (.lst (cs.map V.int))->cs.length=t.toNat->eF e t u d m->bK e t tb->tb.length<=18->(∀ r∈tb,aX r.2.1 r.2.2=false)->(1<=e/\e<=2/\4<=t/\t<=6)->(1<=f/\f<=1000000000000000000000000000000)->Q (.ref r) H')
theorem Xl(T:Tx K mg):Ok P w base 3 T.uI (Xk K):=by
 refine bH fh ?_;rintro _ _ _ s H _ _ _ hr ⟨a,ns,n,rfl,hS,hn,q⟩;refine⟨_,(ar (aL 2 fh.nd (aw (aN (ae af (ae af (ae (aE zb af af) ag)))) (aJ (eO T) hr (ae (aa 0) (ae af (ae af (ae af ag))))))) (ar (aL 3 fh.nd (aE bC af (aJ (eO T) hr (ae (aa 0) (ae af (ae af (ae af ag))))))) (ar (aL 4 fh.nd (aE bC af (aJ (eO T) hr (ae (aa 0) (ae af (ae af (ae af ag))))))) (ar (aL 5 fh.nd (aJ (eO T) hr (ae (aa 0) (ae af (ae af (ae af ag)))))) (ar (aL 6 fh.nd (aJ (eO T) hr (ae (aa 0) (ae af (ae af (ae af ag)))))) (ar (aL 7 fh.nd (aJ (eO T) hr (ae (aa 0) (ae af (ae af (ae (aE lG af (aa 3)) ag)))))) (ar (aL 8 fh.nd (cu (ae (aa 1) ag))) (ar (aL 9 fh.nd Ar) (ar (c6 adl rfl (g9 rfl T.eX (ae (aa 4) ag)) (cz 10 fh.nd) (ar (aH (qI (aa 10) af) (au (eI (kW adF aep aeq sD (aa 8) (ae (aE bC (aw (aa 8) (iA iX af)) (aE lG (aa 2) (aE cQ (aJ (eO T) hr (ae (aa 0) (ae (aE bC af (aa 10)) (ae af (ae (aE bC (aE bC (aa 5) (aa 6)) af) ag))))) (aa 6)))) ag)))) aG) (au (c6 adl rfl (g9 rfl T.eX (ae (aa 3) ag)) (cz 11 fh.nd) (ar (aL 12 fh.nd (aE bC (aE bC af (aE lG af (aa 11))) (aa 10))) (ar (aL 13 fh.nd (aw (aa 8) (aa 10))) (ar (aH (bD (aa 11) (aa 7)) (au (aL 13 fh.nd (aE bC (aa 13) (aE lG (aa 2) (aE cQ (aJ (eO T) hr (ae (aa 0) (ae (aa 12) (ae af (ae af ag))))) af))))) aG) (au (aH (qI (aJ (eO T) hr (ae (aa 0) (ae (aa 12) (ae af (ae af ag))))) af) (au (wR (dI hr) (aa 9) (aN (ae (aa 11) (ae (aa 10) ag))) (aJ (Xf T) hr (ae (aa 0) (ae (aa 12) (ae (aa 13) (ae (aa 2) ag))))) rfl)) aG))))))))) (ar (aL 14 fh.nd af) (ar (aH (PW.pt (iu (bD (aa 3) af) (jX (mG (bf Ap (by rfl) T.dt di (ae (aa 9) ag)) af)))) (au (aL 14 fh.nd (aJ (eO T) hr (ae (aa 0) (ae af (ae af (ae af ag))))))) aG) (au (aA (aN (ae (aN (ae (aa 3) (ae (aa 4) (ae (aE lG (aa 2) (aa 5)) (ae (aE lG (aa 2) (aa 6)) (ae (aa 14) (ae (aa 9) ag))))))) (ae (aa 8) (ae (aa 2) ag))))))))))))))))),?_⟩;refine aC (λσ H1=>∃ f:Int,σ=[some (.ref a),some (.int n),some (.int f),none,none,none,none,none,none,none,none,none,none,none,none]/\ah H H1/\1<=f/\f<=1000000000000000000000000000000) (λN hN=>?_) ?_
 .rfl';refine⟨⟨by decide,by decide,by decide⟩,by decide,λl hl=>?_⟩;refine⟨a,ns,_,_,_,rfl,(aj hl).seq hS,hn,by lia,by lia,by lia,λp p1 p2=>?_⟩;rcases (by lia:p=0∨p=1∨p=2) with rfl|rfl|rfl
  all_goals exact az (ak.of aq) rfl (hN _ _ ⟨_,rfl,aj hl,by decide,by decide⟩)
 rintro _ yR σ H1 ⟨f,rfl,s1,f1,f2⟩;subst yR;refine aC (λσ H2=>∃ e:Int,σ=[some (.ref a),some (.int n),some (.int f),some (.int e),none,none,none,none,none,none,none,none,none,none,none]/\ah H H2/\1<=e/\e<=2) (λN hN=>?_) ?_
 .rfl';refine⟨a,ns,_,_,_,rfl,s1.seq hS,hn,by lia,by lia,by lia,λp p1 p2=>?_⟩;rfl';exact hN _ _ ⟨_,rfl,s1,by lia,by lia⟩
 clear s1;rintro _ yR σ H1 ⟨e,rfl,s1,e1,e2⟩;subst yR;refine aC (λσ H2=>∃ t:Int,σ=[some (.ref a),some (.int n),some (.int f),some (.int e),some (.int t),none,none,none,none,none,none,none,none,none,none]/\ah H H2/\4<=t/\t<=6) (λN hN=>?_) ?_
 .rfl';refine⟨a,ns,_,_,_,rfl,s1.seq hS,hn,by lia,by lia,by lia,λp p1 p2=>?_⟩;rfl';exact hN _ _ ⟨_,rfl,s1,by lia,by lia⟩
 clear s1;rintro _ yR σ H1 ⟨t,rfl,s1,t1,t2⟩;subst yR;refine aC (λσ H2=>∃ u:Int,σ=[some (.ref a),some (.int n),some (.int f),some (.int e),some (.int t),some (.int u),none,none,none,none,none,none,none,none,none]/\ah H H2/\0<=u/\u<=5) (λN hN=>?_) ?_
 .rfl';refine⟨a,ns,_,_,_,rfl,s1.seq hS,hn,by lia,by lia,by lia,λp p1 p2=>?_⟩;rfl';exact hN _ _ ⟨_,rfl,s1,by lia,by lia⟩
 clear s1;rintro _ yR σ H1 ⟨u,rfl,s1,u1,u2⟩;subst yR;refine aC (λσ H2=>∃ d:Int,σ=[some (.ref a),some (.int n),some (.int f),some (.int e),some (.int t),some (.int u),some (.int d),none,none,none,none,none,none,none,none]/\ah H H2/\0<=d/\d<=5) (λN hN=>?_) ?_
 .rfl';refine⟨a,ns,_,_,_,rfl,s1.seq hS,hn,by lia,by lia,by lia,λp p1 p2=>?_⟩;rfl';exact hN _ _ ⟨_,rfl,s1,by lia,by lia⟩
 clear s1;rintro _ yR σ H1 ⟨d,rfl,s1,d1,d2⟩;subst yR;refine aC (λσ H2=>∃ wr:Int,σ=[some (.ref a),some (.int n),some (.int f),some (.int e),some (.int t),some (.int u),some (.int d),some (.int wr),none,none,none,none,none,none,none]/\ah H H2) (λN hN=>?_) ?_
 .rfl';refine⟨lg (by lia) (by lia),a,ns,_,_,_,rfl,s1.seq hS,hn,by lia,by lia,by lia,λp p1 p2=>?_⟩;rfl';exact hN _ _ ⟨_,rfl,s1⟩
 clear s1;rintro _ yR σ H1 ⟨wr,rfl,s1⟩;subst yR;refine aC (λσ H2=>∃ c,σ=[some (.ref a),some (.int n),some (.int f),some (.int e),some (.int t),some (.int u),some (.int d),some (.int wr),some (.ref c),none,none,none,none,none,none]/\ah H H2/\H c=none/\H2 c=some (.lst [.int n])) (λN hN=>?_) ?_
 .rfl';exact⟨by decide,λc hc=>hN _ _ ⟨c,rfl,s1.trans (aj hc),s1.free hc,aq⟩⟩
 rintro _ yR σ H2 ⟨c,rfl,s2,fc,lY⟩;subst yR;refine aC (λσ H3=>∃ w,σ=[some (.ref a),some (.int n),some (.int f),some (.int e),some (.int t),some (.int u),some (.int d),some (.int wr),some (.ref c),some (.ref w),none,none,none,none,none]/\ah H H3/\H w=none/\H3 c=some (.lst [.int n])/\H3 w=some (.dT [])) (λN hN=>?_) ?_
 .rfl';exact λw hw=>hN _ _ ⟨w,rfl,s2.trans (aj hw),s2.free hw,(aj hw) _ _ lY,aq⟩
 rintro _ yR σ H3 ⟨w,rfl,s3,fw,oT,Xm⟩;subst yR;have et:1<=e/\e<=3/\1<=t/\t<=6:=by lia
 refine aC (Lu (λz1 z2 z3 z4=>[some (.ref a),some (.int n),some (.int f),some (.int e),some (.int t),some (.int u),some (.int d),some (.int wr),some (.ref c),some (.ref w),z1,z2,z3,z4,none]) H e t c w t.toNat) (λN hN=>?_) ?_
 .rfl';refine⟨by lia,by lia,sG (Lu (λz1 z2 z3 z4=>[some (.ref a),some (.int n),some (.int f),some (.int e),some (.int t),some (.int u),some (.int d),some (.int wr),some (.ref c),some (.ref w),z1,z2,z3,z4,none]) H e t c w) ⟨_,_,_,_,[n],rfl,by simp,rfl,[],s3,oT,⟨[],Xm,trivial⟩,bK.nil,by simp,λ_ h=>(nomatch h)⟩ ?_ (λσ H' h=>hN _ _ h)⟩;rintro i σ H4 hi ⟨z1,z2,z3,z4,cs,rfl,ne,bq,cG⟩;have hit:(i:Int)<t:=by lia
  show nK _ _ _ _ _;refine aC (λσ H5=>∃ cs:List Int,σ=[some (.ref a),some (.int n),some (.int f),some (.int e),some (.int t),some (.int u),some (.int d),some (.int wr),some (.ref c),some (.ref w),some (.int (0+(i:Int))),z2,z3,z4,none]/\cs.length=i+1/\D6 H e t c w cs ((i:Int) * e) H5) (λN hN=>?_) ?_
  .rfl';refine aV (λh0=>?_) λh0=>hN _ _ ⟨cs,rfl,?_,cG⟩
   .obtain⟨tb,s4,q9,oU,D7,Lv,D8⟩:=cG;obtain⟨xs,y,rfl⟩:∃ xs y,cs=xs++[y]:=⟨cs.dropLast,cs.getLast ne,(List.dropLast_concat_getLast ne).symm⟩
    refine⟨.inl ⟨rfl,_,ai.of q9⟩,bQ (ai.of q9) (v:=.int y) (by rw[aec];exact zv _ _) ?_⟩;rfl';refine⟨a,ns,_,_,_,rfl,s4.seq hS,hn,by lia,by lia,by lia,λp p1 p2=>?_⟩;rfl';have xl:xs.length=i-1:=by rw[ac1,ac8] at bq;lia
    refine⟨lg (by lia) (by lia),_,q9,adI (by rw[acs,ac1,xl,ac8];lia:_<=20) (by decide),hN _ _ ⟨xs++[y]++[y+f * (p-d)],rfl,?_,tb,jt fc s4,?_,Xi oU q9,D7,Lv,D8⟩⟩
    .rw[ac1,ac1,xl,ac8,ac8];lia
    .rw[aq,aec (l₁:=xs++[y])];rfl
   .have:cs.length≠0:=λz=>ne (afb z);lia
  clear cG ne bq;rintro _ yR σ H5 ⟨cs,rfl,bq,cG⟩;subst yR;rfl';refine⟨by lia,by lia,sG (Xj (λz2 z3 z4 _=>[some (.ref a),some (.int n),some (.int f),some (.int e),some (.int t),some (.int u),some (.int d),some (.int wr),some (.ref c),some (.ref w),some (.int (0+(i:Int))),z2,z3,z4,none]) H e t c w cs ((i:Int) * e)) ⟨_,_,_,none,rfl,by simpa using cG⟩ ?_ ?_⟩
  .rintro j σ H6 hj ⟨z2,z3,z4,_,rfl,tb,s6,oV,⟨kvs,hk,hT⟩,xW,D9,xX⟩;have hje:(j:Int)<e:=by lia
   have tl:=hT.len;have bm:0<=(i:Int) * e/\(i:Int) * e<=5 * 3:=⟨agk (by lia) (by lia),aku (by lia) (by lia) (by lia) (by decide)⟩
   show nK _ _ _ _ _;refine aC (λσ H7=>∃ kk:Int,σ=[some (.ref a),some (.int n),some (.int f),some (.int e),some (.int t),some (.int u),some (.int d),some (.int wr),some (.ref c),some (.ref w),some (.int (0+(i:Int))),some (.int (0+(j:Int))),some (.int kk),z4,none]/\H7=H6/\0<=kk/\kk<=1000) (λN hN=>?_) ?_
   .rfl';exact⟨lg (by lia) (by lia),hN _ _ ⟨_,rfl,rfl,by lia,by lia⟩⟩
   rintro _ yR σ H7 ⟨kk,rfl,rfl,k1,k2⟩;subst yR;refine aC (λσ H8=>∃ nn:Int,σ=[some (.ref a),some (.int n),some (.int f),some (.int e),some (.int t),some (.int u),some (.int d),some (.int wr),some (.ref c),some (.ref w),some (.int (0+(i:Int))),some (.int (0+(j:Int))),some (.int kk),some (.int nn),none]/\H8=H7) (λN hN=>?_) ?_
   .rfl';exact bQ (ai.of oV) (int_at (by lia) (by lia)) (hN _ _ ⟨_,rfl,rfl⟩)
   rintro _ yR σ H6 ⟨nn,rfl,rfl⟩;subst yR;refine aC (λσ H8=>∃ nn:Int,σ=[some (.ref a),some (.int n),some (.int f),some (.int e),some (.int t),some (.int u),some (.int d),some (.int wr),some (.ref c),some (.ref w),some (.int (0+(i:Int))),some (.int (0+(j:Int))),some (.int kk),some (.int nn),none]/\H8=H6) (λN hN=>?_) ?_
   .rfl';refine aV (λ_=>?_) λ_=>hN _ _ ⟨nn,rfl,rfl⟩;refine⟨a,ns,_,_,_,rfl,s6.seq hS,hn,by lia,by lia,by lia,λp p1 p2=>?_⟩;rfl';exact⟨lg (by lia) (by lia),hN _ _ ⟨_,rfl,rfl⟩⟩
   rintro _ yR σ H7 ⟨nn,rfl,rfl⟩;subst yR;rfl';refine⟨a,ns,_,_,_,rfl,s6.seq hS,hn,by lia,by lia,by lia,λp p1 p2=>?_⟩;rfl';refine aV (λ_=>?_) λ_=>⟨_,_,_,none,rfl,tb,s6,oV,⟨kvs,hk,hT⟩,xW,by lia,xX⟩
   refine⟨a,ns,_,_,_,rfl,s6.seq hS,hn,by lia,⟨f1,f2⟩,λwp lo hi H8 s7 Xn Xo _=>⟨aW,λk Xq=>?_⟩⟩;have u:=aj (o:=.tup [.int (0+(j:Int)),.int (0+(i:Int))]) Xq;have rf:=(s7.trans u) _ _ hk;have cw:c≠w:=λz=>by rw[z,hk] at oV;cases oV
   refine⟨_,mj.t (k:=spot (0+(j:Int)) (0+(i:Int))) rf aq (adI (by lia:kvs.length<=100) (by decide)),_,_,_,none,rfl,eo tb (0+(j:Int),0+(i:Int)) (lo,hi),jt fw (s6.trans (s7.trans u)),by rw[aD cw];exact (s7.trans u) _ _ oV,⟨_,aq,?_⟩,xW.put ⟨⟨by show 0<=0+(j:Int);lia,by show 0+(j:Int)<e;lia⟩,by show 0<=0+(i:Int);lia,by show 0+(i:Int)<t;lia⟩,?_,λr hr=>?_⟩
   .have F:Fr _ (upd _ w (.dT (putK kvs (spot (0+(j:Int)) (0+(i:Int))) (.ref wp)))):=tm rf;exact a7.put (s:=(0+(j:Int),0+(i:Int))) (w:=(lo,hi)) (hT.imp λv a b z=>(aM.same z (s7.trans u)).fr F) (aM.fr ⟨wp,rfl,u _ _ Xn⟩ F)
   .have:=IW tb (0+(j:Int),0+(i:Int)) (lo,hi);show ((eo tb (0+(j:Int),0+(i:Int)) (lo,hi)).length:Int)<=(i:Int) * e+((j+1:Nat):Int);lia
   .rcases Xg hr with z|z
    .exact xX r z
    .rw[z];exact Xo
  .rintro σ H6 ⟨z2,z3,z4,_,rfl,tb,s6,oV,hT,xW,D9,xX⟩;refine⟨_,_,_,_,cs,rfl,(λz=>by rw[z] at bq;cases bq),by lia,tb,s6,oV,hT,xW,?_,xX⟩;have D9:(tb.length:Int)<=(i:Int) * e+((e.toNat:Nat):Int):=D9;show (tb.length:Int)<=((i+1:Nat):Int) * e;rw[Int.natCast_add,Int.add_mul];lia
 rintro _ yR σ H4 ⟨z1,z2,z3,z4,cs,rfl,ne,bq,tb,s4,q9,oU,D7,Lv,D8⟩;subst yR;have cl:cs.length=t.toNat:=by have:cs.length≠0:=λz=>ne (afb z);lia
 have Xr:tb.length<=18:=by have:((t.toNat:Nat):Int) * e<=6 * 3:=aku (by lia) (by lia) (by lia) (by decide);lia
 refine aC (λσ H2=>σ=[some (.ref a),some (.int n),some (.int f),some (.int e),some (.int t),some (.int u),some (.int d),some (.int wr),some (.ref c),some (.ref w),z1,z2,z3,z4,some (.int 0)]/\H2=H4) (λN hN=>?_) ?_
 .rfl';exact hN _ _ ⟨rfl,rfl⟩
 rintro _ yR σ H5 ⟨rfl,rfl⟩;subst yR;refine aC (λσ H2=>∃ m:Int,σ=[some (.ref a),some (.int n),some (.int f),some (.int e),some (.int t),some (.int u),some (.int d),some (.int wr),some (.ref c),some (.ref w),z1,z2,z3,z4,some (.int m)]/\H2=H5/\0<=m/\m<=1) (λN hN=>?_) ?_
 .obtain⟨kvs,hkv,_⟩:=id oU;rfl';refine aV (λ_=>?_) λ_=>hN _ _ ⟨0,rfl,rfl,by decide,by decide⟩;refine⟨kvs,hkv,aV (λ_=>?_) λ_=>hN _ _ ⟨0,rfl,rfl,by decide,by decide⟩⟩;refine⟨a,ns,_,_,_,rfl,s4.seq hS,hn,by lia,by lia,by lia,λp p1 p2=>?_⟩;rfl';exact hN _ _ ⟨p,rfl,rfl,by lia,by lia⟩
 rintro _ yR σ H6 ⟨m,rfl,rfl,m0,m1⟩;subst yR;rfl';refine⟨lg (by lia) (by lia),lg (by lia) (by lia),by decide,λwr fj=>⟨by decide,λr hr=>?_⟩⟩;have u1:=aj (o:=.tup [.int e,.int t,.int (f * u),.int (f * d),.int m,.ref w]) fj;have u2:=aj (o:=.tup [.ref wr,.ref c,.int f]) hr;exact q r wr w c cs e t (f * u) (f * d) m f tb _ (s4.trans (u1.trans u2)) aq (u2 _ _ aq) (oU.same (u1.trans u2)) ((u1.trans u2) _ _ q9) cl ⟨by lia,by lia,agk (by lia) (by lia),agk (by lia) (by lia),by lia,by lia⟩ D7 Xr D8 (by lia) ⟨f1,f2⟩
structure cE(B:acF)(H:Hp)(x:acF)(e t u d m:Int)(p:acF)(tb:Tb):Prop where
 ob:∃ dx,H x=some (.ins B dx (xU e t u d m p))
 tb:TabAt H p tb
theorem cE.same{B:acF}{H H':Hp}{x p:acF}{e t u d m:Int}{tb:Tb}(h:cE B H x e t u d m p tb)(s:ah H H'):cE B H' x e t u d m p tb:=let ⟨⟨dx,a⟩,b⟩:=h;⟨⟨dx,s _ _ a⟩,b.same s⟩
theorem cE.now{B:acF}{H H':Hp}{x p:acF}{e t u d m:Int}{tb bX:Tb}(h:cE B H x e t u d m p tb)(s:Fr H H')(hp:TabAt H' p bX):cE B H' x e t u d m p bX:=let ⟨⟨dx,a⟩,_⟩:=h;⟨⟨dx,s _ _ (λ_ z=>nomatch z) a⟩,hp⟩
inductive Xs(B C:acF)(vs:List V)(H:Hp)(Q:VK)(E:XK):Prop
 | mk(x p:acF)(e t u d m i j:Int)(kvs:List (List Key × V))(_:vs=[.ref x,.int i,.int j])(_:gT B H x e t u d m p kvs)(_:(da kvs (spot i j)=none->∀ H',ah H H'->E (.ref C) none H'))(_:(∀ v,da kvs (spot i j)=some v->∀ H',SameBut p H H'->H' p=some (.dT (iM kvs (spot i j)))->Q .non H'))
theorem Xt(T:Tx K mg):Om P w mg base 2 T.nj (Xs T.aO T.i8):=by refine jG DI ?_;rintro _ _ _ _ _ _ _ _ hr ⟨x,p,e,t,u,d,m,i,j,kvs,rfl,hb,q0,q⟩;refine⟨_,(ar (eI (eS (aa 0) T.bw T.Ln (Ls T) hr.m T.lL.b .nil bZ (ae (aa 1) (ae (aa 2) ag)))) (au (eI (IS (dI hr) (bE rfl (aa 0) rfl) (aN (ae (aa 1) (ae (aa 2) ag))) ⟨rfl,rfl,rfl,rfl⟩)))),?_⟩;obtain⟨⟨dx,hx⟩,hp⟩:=id hb;rfl';refine⟨_,_,hx,rfl,x,p,e,t,u,d,m,i,j,kvs,rfl,hb,q0,λv hv H1 s1=>?_⟩;have lN:=s1 _ _ hx;have gU:=s1 _ _ hp;rfl';refine⟨_,_,_,lN,T.bw,T.kI,_,rfl,p,rfl,.inr ⟨kvs,.inl gU⟩,aW,λk hk=>?_⟩;refine⟨kvs,(aj hk) _ _ gU,spot i j,aq,v,hv,q v hv _ (λb o gy e=>?_) aq⟩;rw[aD gy];exact (aj hk) _ _ (s1 _ _ e)
inductive Xu(B:acF)(vs:List V)(H:Hp)(Q:VK)(aS:XK):Prop
 | mk(x p:acF)(e t u d m:Int)(tb:Tb)(_:vs=[.ref x])(_:cE B H x e t u d m p tb)(_:(tb.map (·.1)).Nodup)(_:tb.length<64)(_:∀ l xs H',ah H H'->H l=none->H' l=some (.lst xs)->ax (jA H') xs (kj tb)->Q (.ref l) H')
theorem Ea(T:Tx K mg):Om P w mg base 1 T.kG (Xu T.aO):=by
 refine fg DJ ?_;rintro _ _ _ s H _ Q _ hr ⟨x,p,e,t,u,d,m,tb,rfl,⟨⟨dx,hx⟩,kvs,hp,hT⟩,hn,fF,q⟩;refine⟨_,(au (aA (dm (cO [0] ["self"]) rfl (cB (bf (Sh rfl) (by rfl) T.K7 GP (ae (bE rfl (aa 0) rfl) ag))) (λC s2 H2 ex pn=>⟨dz,(aN (ae (bT (K:=K) (aa 0) af) (ae (bT (K:=K) (aa 0) af) (ae (Au (dI hr) (bE (K:=K) rfl (aa 1) rfl) (aa 0) (λ_ _=>rfl)) ag))))⟩)))),?_⟩;rfl';refine⟨_,_,_,hx,T.bw,T.kI,_,rfl,p,rfl,kvs,hp,ki tb,Sw hT,Sx,by rw[hT.len];exact fF,λl ys hl hk=>?_⟩;have PS:=Sy hT hk;have s1:=aj (o:=.lst (d8 (ki tb) .non ys)) hl;have L1:upd H l (.lst (d8 (ki tb) .non ys)) l=some (.lst (d8 (ki tb) .non ys)):=aq;generalize upd H l (.lst (d8 (ki tb) .non ys))=H1 at s1 L1 ⊢;refine⟨⟨_,ai.of L1⟩,cN iI (acA (by rw[PS.len,lp];exact agl fF:_<=64) (by decide)) (gi (R:=λH x (r:P2 × S2)=>cH H x r.1) (R':=λH y (r:P2 × S2)=>jA H y r) (f:=λr=>r) (bs:=[]) (λ_ _ _ _ s r=>cH.same r s) (λ_ _ _ _ s r=>jA.same r s) (PS.imp λx r z=>cH.same z s1) trivial (λH' s'=>ai.of (s' _ _ L1)) (λx r _ H' s' dD Q h=>?_) (λx r dD H' s' h0 Q h=>?_) λH2 zs s2 hz=>?_)⟩
 .rfl';exact h
 .obtain⟨a,rfl,ha⟩:=id h0;have S:=s1.trans s';have Xv:=hT.imp λv a b z=>aM.same z S;obtain⟨w,hw,iw⟩:=(Xv.val r.1).2 _ (iO hn (qm dD));rfl';refine az (ak.of ha) rfl (az (ak.of ha) rfl ⟨_,_,_,S _ _ hx,T.bw,T.kI,_,rfl,p,rfl,w,?_,?_⟩)
  .rw[<- hw];exact eh.t (k:=spot r.1.1 r.1.2) (S _ _ hp) ha
  .exact⟨by decide,λz hz=>h _ _ (aj hz) ⟨z,w,rfl,aq,aM.same iw (aj hz)⟩⟩
 rw[acT,ail] at hz;exact λl2 bh=>q l2 zs _ (s1.trans (s2.trans (aj bh))) ((s1.trans s2).free bh) aq (hz.imp λx r z=>jA.same z (aj bh))
noncomputable def df(tb:Tb)(ss:List P2):Tb:=ss.foldl (λacc s=>eo acc s ((cP tb s).getD (none,none))) []
theorem Lw(tb:Tb)(ss:List P2)(s:P2):df tb (ss++[s])=eo (df tb ss) s ((cP tb s).getD (none,none)):=by unfold df;rw[age];rfl
theorem vg(tb:Tb):∀ (ss:List P2),(df tb ss).length<=ss.length:=by
 intro ss;have gen:∀ (ss:List P2) (acc:Tb),(ss.foldl (λacc s=>eo acc s ((cP tb s).getD (none,none))) acc).length<=acc.length+ss.length:=by
  intro ss
  induction ss with
  | nil=>intro acc;exact acC _
  | cons s ss ih=>intro acc;have h1:=ih (eo acc s ((cP tb s).getD (none,none)));have h2:=IW acc s ((cP tb s).getD (none,none));rw[agP,ada];lia
 have:=gen ss [];unfold df;simpa using this
inductive Xw(K:acr)(B C:acF)(vs:List V)(H:Hp)(Q:VK)(E:XK):Prop
 | mk(x p a:acF)(e t u d m:Int)(tb:Tb)(ys:List V)(ss:List P2)(_:vs=[.ref x,.ref a])(_:cE B H x e t u d m p tb)(_:eF e t u d m)(_:ai K H a ys)(_:bR H ys ss)(_:ss.length<=100)(_:((∃ s∈ss,cP tb s=none)->∀ H',ah H H'->E (.ref C) none H'))(_:((∀ s∈ss,cP tb s≠none)->∀ x' p' H',ah H H'->H x'=none->H p'=none->cE B H' x' e t u d m p' (df tb ss)->Q (.ref x') H'))
def Xx(B:acF)(H:Hp)(x a x' p':acF)(e t u d m:Int)(tb:Tb)(ss:List P2)(i:Nat)(σ:St)(H1:Hp):Prop:=∃ z,σ=[some (.ref x),some (.ref a),some (.ref x'),z]/\ah H H1/\cE B H1 x' e t u d m p' (df tb (ss.take i))/\∀ s∈ss.take i,cP tb s≠none
theorem Xy(T:Tx K mg):Om P w mg base 3 T.nk (Xw K T.aO T.i8):=by
 refine jG t5 ?_;rintro _ _ _ s H _ _ _ hr ⟨x,p,a,e,t,u,d,m,tb,ys,ss,rfl,hb,ay,hS,hP,hl,q0,q⟩;refine⟨_,(ar (aL 2 t5.nd (nQ T.xQ (Lp T) hr.m rfl T.Lc T.nh.b .nil bZ (ae (bE rfl (aa 0) rfl) (ae (bE rfl (aa 0) rfl) (ae (bE rfl (aa 0) rfl) (ae (bE rfl (aa 0) rfl) (ae (bE rfl (aa 0) rfl) ag))))))) (ar (c6 ae1 rfl (cB (aa 1)) (cz 3 t5.nd) (ar (eI (eS (aa 0) T.bw T.Ln (Ls T) hr.m T.lL.b .nil bZ (ae (aw (aa 3) af) (ae (aw (aa 3) af) ag)))) (au (wR (dI hr) (bE rfl (aa 2) rfl) (aa 3) (qh (dI hr) (bE rfl (aa 0) rfl) (aa 3) (λ_ _=>rfl)) rfl)))) (au (aA (aa 2))))),?_⟩;obtain⟨⟨dx,hx⟩,kvs,hp,hT⟩:=id hb;have hlen:=hP.len;rfl';refine⟨_,_,_,hx,T.bw,T.qX,_,rfl,_,_,_,hx,T.bw,T.oR,_,rfl,_,_,_,hx,T.bw,T.u6,_,rfl,_,_,_,hx,T.bw,T.vc,_,rfl,_,_,_,hx,T.bw,T.qY,_,rfl,λx' Xz cV XA de=>?_⟩;refine⟨x',Xz,e,t,u,d,m,rfl,aq,λz=>absurd ay z,λ_ p' H1 dZ s1 X1 P1=>⟨rfl,?_⟩⟩;have M:=Iw (C:=T.aO) (fs:=[]) cV XA de;have S1:ah H H1:=λb o e=>s1 b o (λz=>by rw[z,cV] at e;cases e) (M _ _ e);have Lx:H p'=none:=M.free dZ;refine⟨⟨_,S1.seq hS⟩,gx (xs:=ys) (Xx T.aO H x a x' p' e t u d m tb ss) ⟨_,rfl,S1,⟨⟨_,X1⟩,_,P1,trivial⟩,λs hs=>by simp at hs⟩ ?_ ?_ ?_⟩
 .rintro i σ H2 _ ⟨_,_,s,_⟩;exact s.seq hS
 .rintro i y σ H2 hy ⟨z,rfl,s2,gy,hall⟩;obtain⟨s,es,hpt⟩:=hP.get hy;obtain⟨ad,rfl,had⟩:=id hpt;have et:ss.take (i+1)=ss.take i++[s]:=by rw[ads,es];rfl
  have hi:i<ss.length:=(acz.mp es).1;rfl';have rg:=s2 _ _ hx;have fe:=s2 _ _ hp;have jP:=s2 _ _ had;have oW:=hT.imp λv a b z=>aM.same z s2;refine⟨_,_,rg,rfl,az (ak.of jP) rfl (az (ak.of jP) rfl ⟨x,p,e,t,u,d,m,s.1,s.2,kvs,rfl,⟨⟨_,rg⟩,fe⟩,λhv H3 s3=>?_,λv hv H3 s3=>?_⟩)⟩
  .refine q0 ⟨s,acM es,?_⟩ _ (s2.trans s3);cases hw:cP tb s with
   | none=>rfl
   | some w =>
    obtain⟨v,h1,_⟩:=(oW.val s).2 w hw;rw[hv] at h1;cases h1
  .have S3:=s2.trans s3;obtain⟨⟨dx2,X2⟩,XB,P2,T2⟩:=gy.same s3;have hn:cP tb s≠none:=λz=>by rw[(oW.val s).1 z] at hv;cases hv
   obtain⟨w,hw⟩:=afx.mp hn;obtain⟨v',h1,iv⟩:=((hT.imp λv a b z=>aM.same z S3).val s).2 w hw;rw[hv] at h1;cases h1;have kl:=T2.len;have kk:=vg tb (ss.take i);rw[aef] at kk;rfl';refine⟨_,_,_,S3 _ _ hx,T.bw,T.kI,_,rfl,p,rfl,v,?_,?_⟩
   .rw[<- hv];exact eh.t (k:=spot s.1 s.2) (S3 _ _ hp) (S3 _ _ had)
   refine⟨_,_,_,X2,T.bw,T.kI,_,rfl,p',rfl,_,mj.t (k:=spot s.1 s.2) P2 (S3 _ _ had) (acX (by lia:_<1000) (by decide)),?_⟩;have F:Fr H3 (upd H3 p' (.dT (putK XB (spot s.1 s.2) v))):=tm P2;refine⟨_,rfl,jt Lx S3,⟨⟨_,F _ _ (λ_ z=>nomatch z) X2⟩,_,aq,?_⟩,?_⟩
   .rw[et,Lw,hw];exact a7.put (T2.imp λ_ _ _ z=>z.fr F) (iv.fr F)
   .rw[et];intro s' wU;rcases ac4.mp wU with z|z
    .exact hall s' z
    .rw[ac9.mp z];exact hn
 .rintro σ H2 ⟨z,rfl,s2,gy,hall⟩;rfl';rw[hlen,adu] at gy hall;exact q hall x' p' H2 s2 cV Lx gy
inductive XD(K:acr)(vs:List V)(H:Hp)(Q:VK)(aS:XK):Prop
 | mk(a:acF)(xs:List V)(ss:List S2)(_:vs=[.ref a])(_:ai K H a xs)(_:k7 H xs ss)(_:xs.length<=1000)(_:∀ v H',ah H H'->gD H' v (fG (none,none) ss)->Q v H')
inductive XE(K:acr)(H:Hp)(a:acF)(xs:List V)(ss:List S2)(i:Nat)(σ:St)(H1:Hp):Prop
 | mk(v:V)(e:Option V)(_:σ=[some (.ref a),some v,e])(_:ah H H1)(_:aM H1 v (bj (none,none) (ss.take i)).1 (bj (none,none) (ss.take i)).2)(_:aX (bj (none,none) (ss.take i)).1 (bj (none,none) (ss.take i)).2=false)
theorem Eb(T:Tx K mg):Ok P w base 3 T.ue (XD K):=by
 refine bH qK ?_;rintro _ _ _ _ H _ _ _ hr ⟨a,xs,ss,rfl,hS,hP,hn,q⟩;refine⟨_,(ar (aL 1 qK.nd (aN (ae bF (ae bF ag)))) (ar (c6 adl rfl (cB (aa 0)) (cz 2 qK.nd) (ar (aL 1 qK.nd (aJ (D3 T) hr (ae (aa 1) (ae (aa 2) ag)))) (au (aH (dO (aa 1)) (au (aA bF)) aG)))) (au (aA (aa 1))))),?_⟩;have hA:=km.mp hP;have hl:=hA.len;rfl';refine⟨aW,λp hp=>?_⟩;have s0:=aj (o:=.tup [.non,.non]) hp;refine⟨⟨_,s0.seq hS⟩,gx (xs:=xs) (XE K H a xs ss) ⟨_,_,rfl,s0,⟨p,rfl,aq⟩,rfl⟩ ?_ ?_ ?_⟩
 .rintro i σ H1 _ ⟨_,_,_,s1,_⟩;exact s1.seq hS
 .rintro i x σ H1 hx ⟨v,e,rfl,s1,hv,hc⟩;obtain⟨w,hw,r⟩:=hA.get hx;have e1:=SK (e:=(none,none)) hw;rfl';refine⟨v,x,_,_,w.1,w.2,rfl,hv,r.same s1,λy H2 s2 hm=>?_⟩;have lC:Ic H2 y (bj (none,none) (ss.take (i+1))).1 (bj (none,none) (ss.take (i+1))).2:=by rw[e1];exact hm
  cases hk:aX (bj (none,none) (ss.take (i+1))).1 (bj (none,none) (ss.take (i+1))).2 with
  | true =>
   have ey:=lC.1 hk;subst ey;rfl';refine q _ _ (s1.trans s2) ?_;unfold fG;rw[if_pos (SJ hk)];rfl
  | false =>
   have hy:=lC.2 hk;obtain⟨t,rfl,ht⟩:=id hy;rfl';exact⟨_,_,rfl,s1.trans s2,hy,hk⟩
 .rintro σ H1 ⟨v,e,rfl,s1,hv,hc⟩;rfl';rw[hl,adu] at hv hc;refine q _ _ s1 ?_;unfold fG;rw[if_neg (by rw[hc];simp)];exact hv
inductive XF(B:acF)(vs:List V)(H:Hp)(Q:VK)(aS:XK):Prop
 | mk(x p:acF)(e t u d m i:Int)(k:Str)(kvs:List (List Key × V))(_:vs=[.ref x,.str k,.int i])(_:gT B H x e t u d m p kvs)(_:Q (.bl (hasB t k i)) H)
theorem XG(T:Tx K mg):Ok P w base 2 T.uf (XF T.aO):=by
 refine bH C2 ?_;rintro _ _ _ _ _ _ _ _ hr ⟨x,p,e,t,u,d,m,i,k,kvs,rfl,hb,q⟩;refine⟨_,(ar (aH (bD (aa 1) aR) (au (aA (jF (eS (aa 0) T.bw T.vd (vf T) hr.m T.i6.b .nil bI (ae (aa 2) ag)) (ji (eS (aa 0) T.bw T.vd (vf T) hr.m T.i6.b .nil bI (ae (aE bC (aa 2) af) ag)))))) aG) (au (aA (jF (fv pF (aa 1) aR (c7 _)) (ji (eS (aa 0) T.bw T.vd (vf T) hr.m T.i6.b .nil bI (ae (aa 2) ag))))))),?_⟩;obtain⟨⟨dx,hx⟩,hp⟩:=id hb;unfold hasB at q;rfl'
 try refine⟨rfl,?_⟩
 by_cases hk:k = "step"
 .subst hk;rw[if_pos rfl] at q ⊢;refine⟨_,_,hx,rfl,x,p,e,t,u,d,m,i,kvs,rfl,hb,?_⟩;by_cases h1:0<=i/\i<t
  .rw[decide_eq_true h1] at q ⊢;rfl';refine⟨_,_,hx,rfl,x,p,e,t,u,d,m,_,kvs,rfl,hb,?_⟩;rw[ahI] at q;exact q
  .rw[decide_eq_false h1] at q ⊢;rfl';exact q
 .rw[if_neg hk] at q;rw[if_neg hk]
  try refine⟨rfl,?_⟩
  by_cases kC:k = "at"
  .subst kC;rw[decide_eq_true rfl,ahI] at q;rw[if_pos rfl];refine⟨_,_,hx,rfl,x,p,e,t,u,d,m,i,kvs,rfl,hb,?_⟩;exact q
  .rw[decide_eq_false kC,agh] at q;rw[if_neg λz=>kC (V.str.inj z)];exact q
inductive XH(K:acr)(B C:acF)(vs:List V)(H:Hp)(Q:VK)(E:XK):Prop
 | mk(x p b:acF)(e t u d m:Int)(kvs:List (List Key × V))(xs:List V)(ps:List Pa)(_:vs=[.ref x,.ref b])(_:gT B H x e t u d m p kvs)(_:ai K H b xs)(_:dB H xs ps)(_:(¬ dn t ps->E (.ref C) none H))(_:(dn t ps->Q .non H))
inductive XI(H:Hp)(x b:acF)(t:Int)(ps:List Pa)(i:Nat)(σ:St)(H1:Hp):Prop
 | mk(e:Option V)(_:σ=[some (.ref x),some (.ref b),e])(_:H1=H)(_:dn t (ps.take i))
theorem Ly(T:Tx K mg):Ok P w base 3 T.jI (XH K T.aO T.i9):=by
 refine iY xD ?_;rintro _ _ _ _ H _ _ _ hr ⟨x,p,b,e,t,u,d,m,kvs,xs,ps,rfl,hb,hX,hP,q0,q⟩;refine⟨_,(au (c6 ae1 rfl (cB (aa 1)) (cz 2 xD.nd) (au (aH (cF (cy (aJ (XG T) hr (ae (aa 0) (ae (aw (aa 2) af) (ae (aw (aa 2) af) ag)))))) (au (iE iF rfl T.K9 T.xS rfl (ae aR ag))) aG)))),?_⟩;have hl:=hP.len;rfl';refine⟨⟨_,hX⟩,gx (xs:=xs) (XI H x b t ps) ⟨_,rfl,rfl,λ_ h=>by simp at h⟩ ?_ ?_ ?_⟩
 .rintro i σ H1 _ ⟨_,_,rfl,_⟩;exact hX
 .rintro i y σ H1 hy ⟨e1,rfl,rfl,hk⟩;obtain⟨pa,lO,ta,qa,rfl,h1,h2⟩:=hP.get hy;rfl';refine aI h1 (aI h1 ?_);refine⟨x,p,e,t,u,d,m,pa.2.1,pa.1,kvs,rfl,hb,?_⟩;cases hc:hasB t pa.1 pa.2.1 with
  | true =>
   rfl';refine⟨_,rfl,rfl,λz hz=>?_⟩;rw[ads,lO] at hz;rcases ac4.mp hz with h|h
   .exact hk z h
   .have:z=pa:=by simpa using h
    rw[this];exact hc
  | false =>
   rfl';refine⟨by decide,q0 λz=>?_⟩;rw[z pa (acM lO)] at hc;cases hc
 .rintro σ H1 ⟨e1,rfl,rfl,hk⟩;rw[hl,adu] at hk;rfl';exact q hk
inductive XJ(K:acr)(vs:List V)(H:Hp)(Q:VK)(aS:XK):Prop
 | mk(b:acF)(xs:List V)(ps:List Pa)(k:Str)(t:Int)(_:vs=[.ref b,.str k,.int t])(_:ai K H b xs)(_:dB H xs ps)(_:ps.length<=1000)(_:∀ l ys H',ah H H'->H l=none->H' l=some (.lst ys)->k7 H' ys (sel ps k t)->Q (.ref l) H')
theorem Lz(T:Tx K mg):Ok P w base 1 T.ug (XJ K):=by
 refine bH C3 ?_;rintro _ _ _ s H _ Q _ _ ⟨b,xs,ps,k,t,rfl,hX,hP,hn,q⟩;refine⟨_,(au (aA (dm (cO [1,2] ["kind","turn"]) rfl (cB (aa 0)) (λC s2 H2 ex pn=>⟨(iH (PW.pt (iu (bD (bT (K:=K) (aa 0) af) (aa 1)) (jX (bD (bT (K:=K) (aa 0) af) (aa 2)))))),(bT (K:=K) (aa 0) af)⟩)))),?_⟩;have hl:=hP.len;rfl';refine⟨⟨_,hX⟩,cN iI (acA (by lia:xs.length<=1000) (by decide)) (qq (R:=λx p=>iP H x p) (R':=λy (s:S2)=>aM H y s.1 s.2) (p:=ko k t) (f:=λp=>p.2.2) hX hP (λx p r Q h=>?_) (λx p _ r Q h=>?_) λzs hz=>?_)⟩
 .obtain⟨tt,u,rfl,ht,hu⟩:=r;unfold ko at h;rfl';refine aI ht ?_;rfl'
  try refine⟨rfl,?_⟩
  by_cases hk:p.1=k
  .rw[decide_eq_true hk,ahI] at h;rw[if_pos (by rw[hk])];refine aI ht ?_;rfl';exact Bc (Q:=λk=>Q k H) h
  .rw[decide_eq_false hk,agh] at h;rw[if_neg hk];exact h
 .obtain⟨tt,u,rfl,ht,hu⟩:=r;rfl';exact az (ak.of ht) rfl (h _ ⟨u,rfl,hu⟩)
 .rw[acT];intro l bh;exact q l zs _ (aj bh) bh aq (km.mpr (hz.imp λ_ _ r=>r.same (aj bh)))
noncomputable def dE(u d:Int)(ps:List Pa)(n:Nat):List W2:=(acD n).map λ(k:Nat)=>fG (none,none) ((some (-d),some u)::sel ps "step" (k:Int))
inductive XM(K:acr)(B C:acF)(vs:List V)(H:Hp)(Q:VK)(E:XK):Prop
 | mk(x p b:acF)(e t u d m:Int)(kvs:List (List Key × V))(xs:List V)(ps:List Pa)(_:vs=[.ref x,.ref b])(_:gT B H x e t u d m p kvs)(_:1<=t)(_:t<=12)(_:ai K H b xs)(_:dB H xs ps)(_:ps.length<=900)(_:(¬ dn t ps->E (.ref C) none H))(_:(dn t ps->∀ l ys H',ah H H'->H l=none->H' l=some (.lst ys)->ax (gD H') ys (dE u d ps (t-1).toNat)->Q (.ref l) H'))
theorem XN(T:Tx K mg):Ok P w base 4 T.mQ (XM K T.aO T.i9):=by
 refine iY xE ?_;rintro _ _ _ s H _ Q _ hr ⟨x,p,b,e,t,u,d,m,kvs,xs,ps,rfl,hb,t1,t2,hX,hP,hn,q0,q⟩;refine⟨_,(ar (eI (bO (Ly T) hr.m rfl T.jI.m T.jI.F.kp T.jI.b .nil bZ (ae (aa 0) (ae (aa 1) ag)))) (ar (aL 2 xE.nd (cu (ae (aN (ae (iA iX (bE rfl (aa 0) rfl)) (ae (bE rfl (aa 0) rfl) ag))) ag))) (au (aA (dm (cO [2,1] ["own","claim"]) rfl (g9 rfl T.eX (ae (aE cQ (bE rfl (aa 0) rfl) af) ag)) (λC s2 H2 ex pn=>⟨dz,(aJ (Eb T) hr (ae (aE l4 (aa 1) (aJ (Lz T) hr (ae (aa 2) (ae aR (ae (aa 0) ag))))) ag))⟩)))))),?_⟩;obtain⟨⟨dx,hx⟩,hp⟩:=id hb;rfl';refine⟨x,p,b,e,t,u,d,m,kvs,xs,ps,rfl,hb,hX,hP,q0,λhk=>?_⟩;rfl';refine⟨_,_,_,hx,T.bw,T.vc,_,rfl,_,_,_,hx,T.bw,T.u6,_,rfl,aW,λo ho=>⟨by decide,λl hl=>?_⟩⟩;have s1:=(aj (o:=.tup [.int (-d),.int u]) ho).trans (aj (o:=.lst [.ref o]) hl);have O1:aM (upd (upd H o (.tup [.int (-d),.int u])) l (.lst [.ref o])) (.ref o) (some (-d)) (some u):=⟨o,rfl,(aj hl) _ _ aq⟩
 have L1:(upd (upd H o (.tup [.int (-d),.int u])) l (.lst [.ref o])) l=some (.lst [.ref o]):=aq;generalize upd (upd H o (.tup [.int (-d),.int u])) l (.lst [.ref o])=H1 at s1 O1 L1 ⊢;refine⟨_,_,_,s1 _ _ hx,T.bw,T.oR,_,rfl,by lia,by lia,?_⟩;refine cN iJ (by rw[acs,acH];exact acA (by lia:_<=12) (by decide)) (gi (R:=λ_ x (k:Nat)=>x=V.int ((0:Int)+k)) (R':=gD) (f:=λ(k:Nat)=>fG (none,none) ((some (-d),some u)::sel ps "step" (k:Int))) (λ_ _ _ _ _ h=>h) (λ_ _ _ _ s' h=>h.same s') (ax.fZ _) (bs:=[]) trivial (λ_ _=>trivial) (λx k _ H2 s2 r Q h=>?_) (λx k _ H2 s2 r Q h=>?_) λH2 zs s2 hz=>?_)
 .rfl';exact h
 .subst r;have S2:=s1.trans s2;rfl';refine⟨b,xs,ps,"step",_,rfl,S2.seq hX,hP.same S2,by lia,λr ys H3 s3 _ R3 hR=>?_⟩;rw[ag8] at hR;rfl';have hlen:ys.length<=900:=by
   have:=(km.mp hR).len;have h2:(sel ps "step" (k:Int)).length<=ps.length:=by unfold sel;rw[acs];exact adb _ _
   lia
  refine⟨[.ref o],s3 _ _ (s2 _ _ L1),ys,R3,acA (by show 1+ys.length<=1000;lia) (by decide),λc hc=>?_⟩;have s4:=aj (o:=.lst ([.ref o]++ys)) hc;refine⟨c,_,(some (-d),some u)::sel ps "step" (k:Int),rfl,ai.of aq,⟨(O1.same (s2.trans s3)).same s4,?_⟩,by rw[ac1,ac8];lia,λv H5 s5 hv=>h _ _ ((s3.trans s4).trans s5) hv⟩;exact km.mpr ((km.mp hR).imp λ_ _ r=>r.same s4)
 .intro c hc;refine q hk c zs _ ((s1.trans s2).trans (aj hc)) ((s1.trans s2).free hc) aq ?_;rw[acT] at hz;exact hz.imp λ_ _ r=>r.same (aj hc)
noncomputable def eQ(ps:List Pa)(n:Nat):List W2:=(acD n).map λ(k:Nat)=>fG (none,none) (sel ps "at" (k:Int))
inductive XO(K:acr)(B C:acF)(vs:List V)(H:Hp)(Q:VK)(E:XK):Prop
 | mk(x p b:acF)(e t u d m:Int)(kvs:List (List Key × V))(xs:List V)(ps:List Pa)(_:vs=[.ref x,.ref b])(_:gT B H x e t u d m p kvs)(_:1<=t)(_:t<=12)(_:ai K H b xs)(_:dB H xs ps)(_:ps.length<=900)(_:(¬ dn t ps->E (.ref C) none H))(_:(dn t ps->∀ l ys H',ah H H'->H l=none->H' l=some (.lst ys)->ax (gD H') ys (eQ ps t.toNat)->Q (.ref l) H'))
theorem XQ(T:Tx K mg):Ok P w base 4 T.mR (XO K T.aO T.i9):=by
 refine iY C4 ?_;rintro _ _ _ s _ _ Q _ hr ⟨x,p,b,e,t,u,d,m,kvs,xs,ps,rfl,hb,t1,t2,hX,hP,hn,q0,q⟩;refine⟨_,(ar (eI (bO (Ly T) hr.m rfl T.jI.m T.jI.F.kp T.jI.b .nil bZ (ae (aa 0) (ae (aa 1) ag)))) (au (aA (dm (cO [1] ["claim"]) rfl (g9 rfl T.eX (ae (bE rfl (aa 0) rfl) ag)) (λC s2 H2 ex pn=>⟨dz,(aJ (Eb T) hr (ae (aJ (Lz T) hr (ae (aa 1) (ae aR (ae (aa 0) ag)))) ag))⟩))))),?_⟩;obtain⟨⟨dx,hx⟩,hp⟩:=id hb;rfl';refine⟨x,p,b,e,t,u,d,m,kvs,xs,ps,rfl,hb,hX,hP,q0,λhk=>?_⟩;rfl';refine⟨_,_,_,hx,T.bw,T.oR,_,rfl,_,rfl,by lia,by lia,?_⟩;refine cN iJ (by rw[acs,acH];exact acA (by lia:_<=12) (by decide)) (gi (R:=λ_ x (k:Nat)=>x=V.int ((0:Int)+k)) (R':=gD) (f:=λ(k:Nat)=>fG (none,none) (sel ps "at" (k:Int))) (λ_ _ _ _ _ h=>h) (λ_ _ _ _ s' h=>h.same s') (ax.fZ _) (bs:=[]) trivial (λ_ _=>trivial) (λx k _ H2 s2 r Q h=>?_) (λx k _ H2 s2 r Q h=>?_) λH2 zs s2 hz=>?_)
 .rfl';exact h
 .subst r;rfl';refine⟨b,xs,ps,"at",_,rfl,s2.seq hX,hP.same s2,by lia,λr ys H3 s3 _ R3 hR=>?_⟩;rw[ag8] at hR;rfl';have hlen:ys.length<=900:=by
   have:=(km.mp hR).len;have h2:(sel ps "at" (k:Int)).length<=ps.length:=by unfold sel;rw[acs];exact adb _ _
   lia
  exact⟨r,ys,_,rfl,ai.of R3,hR,by lia,λv H5 s5 hv=>h _ _ (s3.trans s5) hv⟩
 .intro c hc;refine q hk c zs _ (s2.trans (aj hc)) (s2.free hc) aq ?_;rw[acT] at hz;exact hz.imp λ_ _ r=>r.same (aj hc)
inductive XR(vs:List V)(H:Hp)(Q:VK)(aS:XK):Prop
 | mk(v:V)(c:S2)(_:vs=[v])(_:tD H v c)(_:Q (.int (ly c)) H)
theorem LA(T:Tx K mg):Ok P w base 1 T.uk XR:=by
 refine bH Dt ?_;rintro _ _ _ _ _ _ _ _ _ ⟨v,⟨e1,e2⟩,rfl,⟨p,rfl,hp⟩,q⟩;refine⟨_,(ar (aH (gK (aw (aa 0) af)) (au (aA (aw (aa 0) af))) aG) (ar (aH (gK (aw (aa 0) af)) (au (aA (aw (aa 0) af))) aG) (au (aA af)))),?_⟩;rfl';refine aI hp ?_;rcases e1 with _|x
 .rfl';refine aI hp ?_;rcases e2 with _|y
  .rfl';exact q
  .rfl';exact az (ak.of hp) rfl q
 .rfl';exact az (ak.of hp) rfl q
theorem XS(h:s∉tb.map (·.1)):eo tb s w=tb++[(s,w)]:=by unfold eo;rw[if_neg];intro z;obtain⟨r,hr,e⟩:=adv.mp z;exact h (acE.mpr ⟨r,hr,by simpa using e⟩)
theorem XT{α β:Type}{f:α->β}{l:List α}{i:Nat}{a:α}(h:(l.map f).Nodup)(ha:l[i]?=some a):f a∉(l.take i).map f:=by
 have hi:=(acz.mp ha).1;have e:l=l.take i++a::l.drop (i+1):=by have:=aeR i l;rw[adQ hi] at this;rw[acv hi] at ha;cases ha;exact this.symm
 intro hm;have h2:((l.take i).map f++f a::(l.drop (i+1)).map f).Nodup:=by rw[<- acN,<- aec,<- e];exact h
 exact (ahv.mp h2).2.2 _ hm _ (.head _) rfl
def XU(B:acF)(H3:Hp)(v:V)(x p:acF)(e t u d m:Int)(tb:Tb)(i:Nat)(σ:St)(H4:Hp):Prop:=(∃ e1,σ=[some v,some (.ref x),e1])/\ql [p] H3 H4/\cE B H4 x e t u d m p (tb.take i)
inductive XW(K:acr)(B:acF)(vs:List V)(H:Hp)(Q:VK)(aS:XK):Prop
 | mk(v:V)(w:acF)(e t u d m:Int)(tb:Tb)(_:vs=[v])(_:fU H v w e t u d m tb)(_:eF e t u d m)(_:bK e t tb)(_:tb.length<=60)(_:(∀ r∈tb,aX r.2.1 r.2.2=false))(_:∀ (x p:acF) (H':Hp),ah H H'->H x=none->H p=none->cE B H' x e t u d m p tb->Q (.ref x) H')
theorem LB(T:Tx K mg):Ok P w base 4 T.uJ (XW K T.aO):=by
 refine bH t7 ?_;rintro _ _ _ _ H _ _ _ hr ⟨_,w,e,t,u,d,m,tb,rfl,⟨wr,rfl,fj,hT⟩,okb,ay,bP,fk,q⟩;refine⟨_,(ar (aL 1 t7.nd (nQ T.xQ (Lp T) hr.m rfl T.Lc T.nh.b .nil bI (ae (aw (aa 0) af) (ae (aw (aa 0) af) (ae (aw (aa 0) af) (ae (aw (aa 0) af) (ae (aw (aa 0) af) ag))))))) (ar (AM (c6 adl rfl (AQ (aw (aa 0) af)) (cz 2 t7.nd) (au (eI (eS (aa 1) T.bw T.WL (W7 T) hr.m T.ni.b .nil bI (ae (aw (aa 2) af) (ae (aw (aa 2) af) (ae (aw (qh (dI hr) (aw (aa 0) af) (aa 2) (λ_ _=>rfl)) af) (ae (aw (qh (dI hr) (aw (aa 0) af) (aa 2) (λ_ _=>rfl)) af) ag))))))))) (au (aA (aa 1))))),?_⟩;obtain⟨kvs,hk,hA⟩:=id hT;refine aC (λσ H1=>∃ x p,σ=[some (.ref wr),some (.ref x),none]/\ah H H1/\H x=none/\H p=none/\cE T.aO H1 x e t u d m p []) (λN hN=>?_) ?_
 .rfl';refine az (ak.of fj) (v:=.int e) rfl (az (ak.of fj) (v:=.int t) rfl (az (ak.of fj) (v:=.int u) rfl (az (ak.of fj) (v:=.int d) rfl (az (ak.of fj) (v:=.int m) rfl λx dx hx lP de=>?_))));refine⟨x,dx,e,t,u,d,m,rfl,aq,λz=>absurd okb z,λ_ p H1 hp s1 X1 P1=>⟨rfl,?_⟩⟩;have M:=Iw (C:=T.aO) (fs:=[]) hx lP de;have S1:ah H H1:=λb o e=>s1 b o (λz=>by rw[z,hx] at e;cases e) (M _ _ e);exact hN _ _ ⟨x,p,rfl,S1,hx,M.free hp,⟨⟨_,X1⟩,[],P1,trivial⟩⟩
 rintro _ yR σ H1 ⟨x,p,rfl,s1,fx,fp,hB⟩;subst yR;have jb:=s1 _ _ hk;have wp:w≠p:=λz=>by rw[z,fp] at hk;cases hk
 refine aC (λσ H2=>(∃ e1,σ=[some (.ref wr),some (.ref x),e1])/\ah H H2/\cE T.aO H2 x e t u d m p tb) (λN hN=>?_) ?_
 .rfl';refine⟨w,kvs,jb,λo=>?_⟩;obtain⟨⟨dx,lN⟩,kp,gU,XX⟩:=id hB;have xw:x≠w:=λz=>by rw[z,jb] at lN;cases lN
  have ik:=xi jb (s1 _ _ fj) (u:=.aQ o (.dT kvs));have w3:upd H1 w (.aQ o (.dT kvs)) w=some (.aQ o (.dT kvs)):=aq;have p3:upd H1 w (.aQ o (.dT kvs)) p=some (.dT kp):=by rw[aD (ady wp)];exact gU
  have oX:cE T.aO (upd H1 w (.aQ o (.dT kvs))) x e t u d m p []:=⟨⟨dx,by rw[aD xw];exact lN⟩,kp,p3,XX.imp λ_ _ _ z=>z.aQ jb⟩
  have jQ:=a7.aQ (hA.imp λ_ _ _ z=>aM.same z s1) jb (u:=.aQ o (.dT kvs));have nA:∀ H4,ql [p] (upd H1 w (.aQ o (.dT kvs))) H4->ah H (upd H4 w (.dT kvs)):=λH4 bu b u hb=>by
   by_cases hbw:b=w
   .subst hbw;rw[aq];rw[hk] at hb;exact hb
   .rw[aD hbw];exact bu b u (by simpa using λz=>by rw[z,fp] at hb;cases hb) (by rw[aD hbw];exact s1 _ _ hb)
  refine az (ak.of ik) (v:=.ref w) rfl ⟨w,rfl,o,kvs,w3,λgV=>?_⟩;have PT:=jQ.qk gV;have kl:=PT.len;rw[acs] at kl;generalize upd H1 w (.aQ o (.dT kvs))=H3 at ik w3 p3 oX jQ nA PT;have np:∀ (z:acF) (us:List V),H3 z=some (.tup us)->z∉[p]:=λz us hz=>by simpa using λy=>by rw[y,p3] at hz;cases hz
  refine TV (xs:=fS o) (XU T.aO H3 (.ref wr) x p e t u d m tb) rfl (by rw[kl,hA.len]) ⟨⟨_,rfl⟩,λ_ _ _ z=>z,oX⟩ ?_ ?_ ?_
  .rintro i σ H4 _ ⟨_,bu,_⟩;exact bu w _ (by simpa using wp) w3
  .rintro i v σ H4 hv ⟨⟨e1,rfl⟩,bu,xY⟩;obtain⟨r1,dF,ka,rfl,hka⟩:=PT.get hv;rw[acJ] at dF;obtain⟨r,hr,rfl⟩:=adf.mp dF;have rh:=acM hr;obtain⟨⟨xZ,oY⟩,kq,vh,ya⟩:=id xY;obtain⟨vv,hvv,va,rfl,hva⟩:=(jQ.val r.1).2 _ (iO ay.1 rh);have Ec:=bu ka _ (np _ _ hka) hka;have LC:=bu wr _ (np _ _ ik) ik;have w4:=bu w _ (by simpa using wp) w3;have LD:=bu va _ (np _ _ hva) hva;have gt:eh H4 w (.ref ka) (some (.ref va)):=by rw[<- hvv];exact eh.z (k:=spot r.1.1 r.1.2) w4 Ec
   rfl';refine⟨_,_,oY,rfl,az (ak.of Ec) (v:=.int r.1.1) rfl (az (ak.of Ec) (v:=.int r.1.2) rfl (az (ak.of LC) (v:=.ref w) rfl ⟨w,rfl,.ref va,gt,az (ak.of LD) rfl (az (ak.of LC) (v:=.ref w) rfl ⟨w,rfl,.ref va,gt,aI LD ?_⟩)⟩))⟩;have XY:=ay.2 r rh;have XZ:=ya.len;rw[aef] at XZ;have xp:x≠p:=λz=>by rw[z,vh] at oY;cases oY
   refine⟨x,p,e,t,u,d,m,r.1.1,r.1.2,r.2.1,r.2.2,kq,rfl,⟨⟨xZ,oY⟩,vh⟩,by lia,λz=>absurd ⟨XY,fk r rh⟩ z,λ_ v9 H9 sb Ed yb=>⟨⟨_,rfl⟩,λc o hc ec=>sb c o (by simpa using hc) (bu c o hc ec),?_⟩⟩;have ek:tb.take (i+1)=eo (tb.take i) r.1 r.2:=by rw[XS (XT ay.1 hr),ads,hr];rfl
   rw[ek];exact⟨⟨xZ,sb x _ xp oY⟩,_,Ed,a7.put (ya.imp λv a b z=>z.fr (SameBut.fr sb vh)) yb⟩
  .rintro σ H4 ⟨⟨e1,rfl⟩,bu,xY⟩;rw[kl,adu] at xY;have w4:=bu w _ (by simpa using wp) w3;obtain⟨⟨xZ,oY⟩,kq,vh,ya⟩:=xY;refine⟨w4,hN _ _ ⟨⟨_,rfl⟩,nA _ bu,⟨xZ,by rw[aD xw];exact oY⟩,kq,by rw[aD (ady wp)];exact vh,ya.imp λv a b ⟨pt,e,h⟩=>⟨pt,e,?_⟩⟩⟩;rw[aD (λz=>by rw[z,w4] at h;cases h)];exact h
 rintro _ yR σ H2 ⟨⟨e1,rfl⟩,s2,X0⟩;subst yR;rfl';exact q x p H2 s2 fx fp X0
def Ee(tb:Tb)(cs:List Int)(i:Int):Prop:=∃ r∈tb,r.1.1=i/\hs r.2 (dr cs r.1.2.toNat)=false
inductive X3(K:acr)(vs:List V)(H:Hp)(Q:VK)(aS:XK):Prop
 | mk(v:V)(w c:acF)(e t u d m:Int)(tb:Tb)(cs:List Int)(_:vs=[v,.ref c])(_:fU H v w e t u d m tb)(_:bK e t tb)(_:tb.length<=60)(_:ai K H c (cs.map V.int))(_:cs.length=t.toNat)(_:∀ (zs:List Int) (H':Hp),ah H H'->zs.Nodup->(∀ i,i∈zs↔Ee tb cs i)->Q (.int zs.length) H')
theorem X4(T:Tx K mg):Ok P w base 2 T.uK (X3 K):=by
 refine bH DP ?_;rintro _ _ _ _ H _ Q _ hr ⟨_,w,c,e,t,u,d,m,tb,cs,rfl,⟨wr,rfl,fj,hT⟩,ay,bP,hc,bq,q⟩;refine⟨_,(au (AM (aA (Wg rfl (dm (cO [1,0] ["_law_course","_law_world_here"]) rfl (AQ (aw (aa 0) af)) (λC s2 H2 ex pn=>⟨(iH (cF (cy (aJ (xV T) hr (ae (Au (dI hr) (bT (K:=K) (aa 2) af) (aa 0) (λ_ _=>rfl)) (ae (bT (K:=K) (aa 1) (bT (K:=K) (aa 0) af)) ag)))))),(bT (K:=K) (aa 0) af)⟩)) T.dt T.K6)))),?_⟩;obtain⟨kvs,hk,hA⟩:=id hT;rfl';refine⟨w,kvs,hk,λo=>?_⟩;have ik:=xi hk fj (u:=.aQ o (.dT kvs));have w3:upd H w (.aQ o (.dT kvs)) w=some (.aQ o (.dT kvs)):=aq;have jQ:=hA.aQ hk (u:=.aQ o (.dT kvs));have oT:ai K (upd H w (.aQ o (.dT kvs))) c (cs.map V.int):=Jy hk hc;have nA:∀ H4,ah (upd H w (.aQ o (.dT kvs))) H4->ah H (upd H4 w (.dT kvs)):=λH4 s4=>Jx hk s4;refine az (ak.of ik) (v:=.ref w) rfl ⟨w,rfl,o,kvs,w3,λgV=>?_⟩;have PT:=jQ.qk gV;have kl:=PT.len;rw[acs] at kl;generalize upd H w (.aQ o (.dT kvs))=H3 at ik w3 jQ oT nA PT;have P0:ax (λv (r:P2 × S2)=>cH H3 v r.1) (fS o) tb:=ax.bind PT;refine cN (Jw (xs:=fS o) rfl (by rw[kl,hA.len])) (acA (by lia:(fS o).length<=64) (by decide)) (k6 (R:=λv (r:P2 × S2)=>cH H3 v r.1) (p:=λr=>!hs r.2 (dr cs r.1.2.toNat)) (f:=λr=>.int r.1.1) w3 P0 (λv r hr rv Q h=>?_) (λv r hr hp rv Q h=>?_) ?_)
 .obtain⟨ka,rfl,hka⟩:=rv;obtain⟨⟨b1,b2⟩,b3,b4⟩:=ay.2 r hr;obtain⟨vv,hvv,va,rfl,hva⟩:=(jQ.val r.1).2 _ (iO ay.1 hr);rfl';refine az (ak.of ik) (v:=.ref w) rfl ⟨w,rfl,.ref va,by rw[<- hvv];exact eh.z (k:=spot r.1.1 r.1.2) w3 hka,az (ak.of hka) (v:=.int r.1.2) rfl (bQ oT ((congrArg (c8 _) (show r.1.2=((r.1.2.toNat:Nat):Int) by lia)).trans (dH (Jz (by lia)))) ⟨va,r.2.1,r.2.2,dr cs r.1.2.toNat,rfl,ak.of hva,?_⟩)⟩;rfl';exact h
 .obtain⟨ka,rfl,hka⟩:=rv;rfl';exact az (ak.of hka) (v:=.int r.1.1) rfl h
 .rw[acT,show ((tb.filter λr=>!hs r.2 (dr cs r.1.2.toNat)).map λr=>V.int r.1.1)=((tb.filter λr=>!hs r.2 (dr cs r.1.2.toNat)).map λr=>r.1.1).map V.int by rw[ado];rfl];intro l hl;have u:=aj (o:=.lst (((tb.filter λr=>!hs r.2 (dr cs r.1.2.toNat)).map λr=>r.1.1).map V.int)) hl;have fl:=adb (λr:P2 × S2=>!hs r.2 (dr cs r.1.2.toNat)) tb;refine⟨l,rfl,_,ai.of aq,by rw[acs];lia,λzs hz hm=>⟨u _ _ w3,q zs _ (nA _ u) hz λi=>?_⟩⟩;rw[hm,acE];constructor
  .rintro ⟨r,hr,e⟩;obtain⟨h1,h2⟩:=acZ.mp hr;exact⟨r,h1,e,by simpa using h2⟩
  .rintro ⟨r,hr,e,h⟩;exact⟨r,acZ.mpr ⟨hr,by simpa using h⟩,e⟩
theorem X5{ps:List Pa}{i:Nat}{p:Pa}{k:Str}{t:Int}(h:ps[i]?=some p):sel (ps.take (i+1)) k t=sel (ps.take i) k t++(if ko k t p=true then [p.2.2] else []):=by
 unfold sel;rw[ads,h,List.filter_append,aec]
 congr 1
 simp only[ai7,adk,List.filter_nil];split<;>rfl
theorem X6(e:S2)(ss:List S2)(s:S2):bj e (ss++[s])=(dA (bj e ss).1 s.1,ee (bj e ss).2 s.2):=by unfold bj;rw[age];rfl
inductive X7(K:acr)(vs:List V)(H:Hp)(Q:VK)(aS:XK):Prop
 | mk(bg b:acF)(lo hi:En)(xs:List V)(ps:List Pa)(k:Str)(t:Int)(_:vs=[.ref bg,.ref b,.str k,.int t])(_:ak K H bg [ev lo,ev hi])(_:ai K H b xs)(_:dB H xs ps)(_:ps.length<=1000)(_:∀ v H',ah H H'->aM H' v (bj (lo,hi) (sel ps k t)).1 (bj (lo,hi) (sel ps k t)).2->Q v H')
inductive vk(H:Hp)(bg b:acF)(lo hi:En)(ps:List Pa)(k:Str)(t:Int)(i:Nat)(σ:St)(H1:Hp):Prop
 | mk(e1:Option V)(_:σ=[some (.ref bg),some (.ref b),some (.str k),some (.int t),some (ev (bj (lo,hi) (sel (ps.take i) k t)).1),some (ev (bj (lo,hi) (sel (ps.take i) k t)).2),e1])(_:H1=H)
theorem LF(T:Tx K mg):Ok P w base 1 T.uM (X7 K):=by
 refine bH mO ?_;rintro _ _ _ _ H _ _ _ _ ⟨bg,b,lo,hi,xs,ps,k,t,rfl,hg,hX,hP,hn,q⟩;refine⟨_,(ar (aL 4 mO.nd (aw (aa 0) af)) (ar (aL 5 mO.nd (aw (aa 0) af)) (ar (c6 adl rfl (cB (aa 1)) (cz 6 mO.nd) (au (aH (PW.pt (iu (bD (aw (aa 6) af) (aa 2)) (jX (bD (aw (aa 6) af) (aa 3))))) (ar (aH (PW.pt (cU (dO (aa 4)) (e9 (PW.pt (iu (gK (aw (aw (aa 6) af) af)) (jX (qI (aw (aw (aa 6) af) af) (aa 4)))))))) (au (aL 4 mO.nd (aw (aw (aa 6) af) af))) aG) (au (aH (PW.pt (cU (dO (aa 5)) (e9 (PW.pt (iu (gK (aw (aw (aa 6) af) af)) (jX (mG (aw (aw (aa 6) af) af) (aa 5)))))))) (au (aL 5 mO.nd (aw (aw (aa 6) af) af))) aG))) aG))) (au (aA (aN (ae (aa 4) (ae (aa 5) ag)))))))),?_⟩;have hl:=hP.len;refine aC (λσ H1=>σ=[some (.ref bg),some (.ref b),some (.str k),some (.int t),some (ev lo),none,none]/\H1=H) (λN hN=>?_) ?_
 .rfl';exact az hg rfl (hN _ _ ⟨rfl,rfl⟩)
 rintro _ yR σ H1 ⟨rfl,rfl⟩;subst yR;refine aC (vk H1 bg b lo hi ps k t 0) (λN hN=>?_) ?_
 .rfl';exact az hg rfl (hN _ _ ⟨_,rfl,rfl⟩)
 rintro _ yR σ H ⟨e1,rfl,rfl⟩;subst yR;refine aC (vk H bg b lo hi ps k t xs.length) (λN hN=>?_) ?_
 .rfl';refine⟨⟨_,hX⟩,gx (xs:=xs) (vk H bg b lo hi ps k t) ⟨_,rfl,rfl⟩ ?_ ?_ ?_⟩
  .rintro i σ H1 _ ⟨_,_,rfl⟩;exact hX
  .rintro i x σ H1 hx ⟨e1,rfl,rfl⟩;obtain⟨p,hp,tp,sp,rfl,h1,h2⟩:=hP.get hx;have es:=X5 (k:=k) (t:=t) hp;have skip:ko k t p=false->vk H1 bg b lo hi ps k t (i+1) [some (.ref bg),some (.ref b),some (.str k),some (.int t),some (ev (bj (lo,hi) (sel (ps.take i) k t)).1),some (ev (bj (lo,hi) (sel (ps.take i) k t)).2),some (.ref tp)] H1:=λhz=>⟨_,by rw[es,hz,if_neg acP,ajV],rfl⟩
   show rP _ (nK _ _) _ _ _ _;refine K4 λB hB=>?_;rfl';refine az (ak.of h1) (v:=.str p.1) rfl ?_;rfl';by_cases hk:p.1=k
   .rw[if_pos (by rw[hk])];refine az (ak.of h1) (v:=.int p.2.1) rfl ?_;rfl';refine aV (λht=>?_) λht=>?_
    .have hz:ko k t p=true:=by unfold ko;rw[decide_eq_true hk,decide_eq_true ht];rfl
     rw[hz,if_pos rfl] at es;have fin:vk H1 bg b lo hi ps k t (i+1) [some (.ref bg),some (.ref b),some (.str k),some (.int t),some (ev (dA (bj (lo,hi) (sel (ps.take i) k t)).1 p.2.2.1)),some (ev (ee (bj (lo,hi) (sel (ps.take i) k t)).2 p.2.2.2)),some (.ref tp)] H1:=⟨_,by rw[es,X6],rfl⟩
     generalize (bj (lo,hi) (sel (ps.take i) k t)).1=x at fin ⊢;generalize (bj (lo,hi) (sel (ps.take i) k t)).2=y at fin ⊢;obtain⟨pk,pt,pa,pc⟩:=p;dsimp only at fin h1 h2;clear skip es hz hk ht hX hP hx hp hn hl q hN;subst hB;refine aC (λσ H2=>σ=[some (.ref bg),some (.ref b),some (.str k),some (.int t),some (ev (dA x pa)),some (ev y),some (.ref tp)]/\H2=H1) (λN hN=>?_) ?_
     .clear fin;rcases pa with _|pa<;>rcases x with _|x
      all_goals repeat' first
       | exact hN _ _ ⟨rfl,rfl⟩
       | refine aI h2 ?_
       | refine az (ak.of h1) (v:=.ref sp) rfl ?_
       | (walk_at "p")
       | (refine aV (λhc=>?_) λhc=>?_)
      all_goals (refine hN _ _ ⟨?_,rfl⟩;simp only[dA];first|(rw[if_pos (by lia)];rfl)|(rw[if_neg (by lia)];rfl))
     rintro _ yR σ H2 ⟨rfl,rfl⟩;subst yR;generalize ev (dA x pa)=z at fin ⊢;rcases pc with _|pc<;>rcases y with _|y
     all_goals repeat' first
      | exact fin
      | refine aI h2 ?_
      | refine az (ak.of h1) (v:=.ref sp) rfl ?_
      | (walk_at "p")
      | (refine aV (λhc=>?_) λhc=>?_)
     all_goals (simp only[ee] at fin;repeat' split at fin)
     all_goals first|exact fin|(exfalso;lia)
    .refine skip ?_;unfold ko;rw[decide_eq_false ht,aiB]
   .rw[if_neg hk];refine skip ?_;unfold ko;rw[decide_eq_false hk,agh]
  .rintro σ H1 h;exact hN _ _ h
 rintro _ yR σ H1 ⟨e1,rfl,rfl⟩;subst yR;rw[hl,adu];rfl';exact⟨aW,λp hp=>q _ _ (aj hp) ⟨p,rfl,aq⟩⟩
inductive X9(K:acr)(B:acF)(vs:List V)(H:Hp)(Q:VK)(aS:XK):Prop
 | mk(x p:acF)(e t u d m i:Int)(tb:Tb)(_:vs=[.ref x,.int i])(_:cE B H x e t u d m p tb)(_:(tb.map (·.1)).Nodup)(_:tb.length<64)(_:(∀ r∈tb,0<=r.1.2))(_:∀ l ys H',ah H H'->H l=none->H' l=some (.lst ys)->ax (dC H') ys (dM tb i)->Q (.ref l) H')
theorem LG(T:Tx K mg):Ok P w base 2 T.uA (X9 K T.aO):=by
 refine bH Dx ?_;rintro _ _ _ s H _ Q _ hr ⟨x,p,e,t,u,d,m,i,tb,rfl,hb,de,fF,h0,q⟩;refine⟨_,(au (aA (zR (g:=jk K 3 (cL (b5 0) (cL (b5 1) (cL (b5 2) ix)))) (ju.mk (own:=["teller","turn","word"]) (fr:=[1]) (ys:=["eye"]) rfl (by decide +kernel) rfl (by decide +kernel) rfl (.cons rfl .nil) (.cons rfl rfl rfl rfl .nil) rfl) rfl (cB (si (aa 0) T.bw T.D1 (Ea T) hr.m T.kG.b .nil bI)) (λC s2 H2 ex pn=>j4 (n:=3) rfl (dv (gd (i:=0) (show (["teller","turn","word","eye"]:List Str).Nodup by decide) rfl (.inl (acR rfl)) (.inr (acR rfl))) (dv (gd (i:=1) (show (["teller","turn","word","eye"]:List Str).Nodup by decide) rfl (.inl (acR rfl)) (.inr (acR rfl))) (dv (gd (i:=2) (show (["teller","turn","word","eye"]:List Str).Nodup by decide) rfl (.inl (acR rfl)) (.inr (acR rfl))) jZ)))) (λC s2 H2 ex pn=>⟨(iH (bD (aa 0) (aa 3))),(aN (ae (aa 1) (ae (aa 2) ag)))⟩)))),?_⟩;obtain⟨⟨dx,hx⟩,htb⟩:=id hb;rfl';refine⟨_,_,hx,rfl,x,p,e,t,u,d,m,tb,rfl,hb,de,fF,λl xs H1 s1 _ hl hT=>?_⟩;have tl:=hT.len;rw[lp] at tl;refine⟨l,rfl,⟨_,ai.of hl⟩,AJ (row:=rowOf H1) (acA (by lia:xs.length<=64) (by decide)) (qv (R:=λ_ x (r:P2 × S2)=>jA H1 x r) (R':=dC) (p:=λr=>decide (r.1.1=i)) (f:=λr=>(r.1.2.toNat,r.2)) (λ_ _ _ _ _ h=>h) (λ_ _ _ _ s' h=>h.same s') hT (bs:=[]) trivial (λH' s'=>AL hl hT s') (λx r _ H2 s2 h1 Q h=>?_) (λx r dD hp H2 s2 h1 Q h=>?_) λH2 zs s2 hz=>?_)⟩
 .obtain⟨ta,w,rfl,ha,hw⟩:=h1;unfold mw;dsimp only;rw[mv ha];rfl';exact Bc (Q:=λk=>Q k H2) h
 .obtain⟨ta,w,rfl,ha,wp,rfl,hw⟩:=h1;unfold kx;dsimp only;rw[mv ha];rfl';have dF:=h0 r (qm dD);refine⟨aW,λt1 jR=>h _ _ (aj jR) ⟨t1,wp,rfl,?_,(aj jR) _ _ (s2 _ _ hw)⟩⟩;rw[aq];show some (HO.tup [.int r.1.2,.ref wp])=some (.tup [.int ((r.1.2.toNat:Nat):Int),.ref wp]);rw[ae7 dF]
 .rw[acT] at hz;intro l2 bh;exact q l2 zs _ (s1.trans (s2.trans (aj bh))) ((s1.trans s2).free bh) aq (hz.imp λ_ _ r=>r.same (aj bh))
inductive Ya(K:acr)(B:acF)(vs:List V)(H:Hp)(Q:VK)(aS:XK):Prop
 | mk(x p o:acF)(e t u d m:Int)(tb:Tb)(es:List Int)(_:vs=[.ref x,.ref o])(_:cE B H x e t u d m p tb)(_:(tb.map (·.1)).Nodup)(_:tb.length<64)(_:(∀ r∈tb,0<=r.1.2))(_:ai K H o (es.map V.int))(_:es.length<=100)(_:∀ l ys H',ah H H'->H' l=some (.lst ys)->ax (dC H') ys (((kj tb).filter λr=>!es.contains r.1.1).map λr=>(r.1.2.toNat,r.2))->Q (.ref l) H')
theorem Yb(T:Tx K mg):Ok P w base 2 T.uB (Ya K T.aO):=by
 refine bH Dy ?_;rintro _ _ _ s H _ Q _ hr ⟨x,p,o,e,t,u,d,m,tb,es,rfl,hb,de,fF,h0,ho,tG,q⟩;refine⟨_,(au (aA (zR (g:=jk K 3 (cL (b5 0) (cL (b5 1) (cL (b5 2) ix)))) (ju.mk (own:=["teller","turn","word"]) (fr:=[1]) (ys:=["some"]) rfl (by decide +kernel) rfl (by decide +kernel) rfl (.cons rfl .nil) (.cons rfl rfl rfl rfl .nil) rfl) rfl (cB (si (aa 0) T.bw T.D1 (Ea T) hr.m T.kG.b .nil bI)) (λC s2 H2 ex pn=>j4 (n:=3) rfl (dv (gd (i:=0) (show (["teller","turn","word","some"]:List Str).Nodup by decide) rfl (.inl (acR rfl)) (.inr (acR rfl))) (dv (gd (i:=1) (show (["teller","turn","word","some"]:List Str).Nodup by decide) rfl (.inl (acR rfl)) (.inr (acR rfl))) (dv (gd (i:=2) (show (["teller","turn","word","some"]:List Str).Nodup by decide) rfl (.inl (acR rfl)) (.inr (acR rfl))) jZ)))) (λC s2 H2 ex pn=>⟨(iH (kR (QS (K:=K) rfl) (aa 0) (aa 3) (by with_unfolding_all rfl))),(aN (ae (aa 1) (ae (aa 2) ag)))⟩)))),?_⟩;obtain⟨⟨dx,hx⟩,htb⟩:=id hb;rfl';refine⟨_,_,hx,rfl,x,p,e,t,u,d,m,tb,rfl,hb,de,fF,λl xs H1 s1 _ hl hT=>?_⟩;have tl:=hT.len;rw[lp] at tl;refine⟨l,rfl,⟨_,ai.of hl⟩,AJ (row:=rowOf H1) (acA (by lia:xs.length<=64) (by decide)) (qv (R:=λ_ x (r:P2 × S2)=>jA H1 x r) (R':=dC) (p:=λr=>!es.contains r.1.1) (f:=λr=>(r.1.2.toNat,r.2)) (λ_ _ _ _ _ h=>h) (λ_ _ _ _ s' h=>h.same s') hT (bs:=[]) trivial (λH' s'=>AL hl hT s') (λx r _ H2 s2 h1 Q h=>?_) (λx r dD hp H2 s2 h1 Q h=>?_) λH2 zs s2 hz=>?_)⟩
 .obtain⟨ta,w,rfl,ha,hw⟩:=h1;unfold mw;dsimp only;rw[mv ha];rfl';refine⟨o,_,rfl,.inl ((s1.trans s2).seq ho),rfl,Js es,_,rfl,?_⟩;rw[AK,if_pos rfl];exact h
 .obtain⟨ta,w,rfl,ha,wp,rfl,hw⟩:=h1;unfold kx;dsimp only;rw[mv ha];rfl';have dF:=h0 r (qm dD);refine⟨aW,λt1 jR=>h _ _ (aj jR) ⟨t1,wp,rfl,?_,(aj jR) _ _ (s2 _ _ hw)⟩⟩;rw[aq];show some (HO.tup [.int r.1.2,.ref wp])=some (.tup [.int ((r.1.2.toNat:Nat):Int),.ref wp]);rw[ae7 dF]
 .rw[acT] at hz;intro l2 bh;exact q l2 zs _ (s1.trans (s2.trans (aj bh))) aq (hz.imp λ_ _ r=>r.same (aj bh))
inductive rj(H:Hp)(v:V)(r:Gp):Prop
 | mk(g k:acF)(zs:List V)(_:v = .ref g)(_:H g=some (.tup [ev r.1,.ref k]))(_:H k=some (.lst zs))(_:ax (dC H) zs r.2)
theorem rj.same(h:rj H v r)(s:ah H H'):rj H' v r:=let ⟨g,k,zs,e,a,b,c⟩:=h;⟨g,k,zs,e,s _ _ a,s _ _ b,c.imp λ_ _ x=>x.same s⟩
inductive Yc(K:acr)(B:acF)(vs:List V)(H:Hp)(Q:VK)(aS:XK):Prop
 | mk(x p:acF)(e t u d m:Int)(tb:Tb)(_:vs=[.ref x])(_:cE B H x e t u d m p tb)(_:(tb.map (·.1)).Nodup)(_:tb.length<64)(_:(∀ r∈tb,0<=r.1.2))(_:0<=e)(_:e<=7)(_:∀ l ys H',ah H H'->H l=none->H' l=some (.lst ys)->ax (rj H') ys ((tM e.toNat tb).map λr=>(some r.1,r.2))->Q (.ref l) H')
theorem Yd(T:Tx K mg):Ok P w base 3 T.uC (Yc K T.aO):=by
 refine bH Dz ?_;rintro _ _ _ s _ _ Q _ hr ⟨x,p,e,t,u,d,m,tb,rfl,hb,de,fF,dD,h0,h7,q⟩;refine⟨_,(au (aA (dm (cO [0] ["board"]) rfl (g9 rfl T.eX (ae (bE rfl (aa 0) rfl) ag)) (λC s2 H2 ex pn=>⟨dz,(aN (ae (aa 0) (ae (aJ (LG T) hr (ae (aa 1) (ae (aa 0) ag))) ag)))⟩)))),?_⟩;obtain⟨⟨dx,hx⟩,hp⟩:=id hb;rfl';refine⟨_,_,_,hx,T.bw,T.qX,_,rfl,?_⟩;refine⟨e,rfl,by lia,by lia,cN iJ (by rw[acs,acH];exact acA (by lia:_<=12) (by decide)) (gi (R:=λ_ x (k:Nat)=>x=V.int ((0:Int)+k)) (R':=rj) (f:=λ(k:Nat)=>((some (k:Int),dM tb (k:Int)):Gp)) (λ_ _ _ _ _ h=>h) (λ_ _ _ _ s' h=>h.same s') (ax.fZ _) (bs:=[]) trivial (λ_ _=>trivial) (λx k _ H2 s2 r Q h=>?_) (λx k _ H2 s2 r Q h=>?_) λH2 zs s2 hz=>?_)⟩
 .rfl';exact h
 .subst r;rfl';rw[ag8];refine⟨x,p,e,t,u,d,m,(k:Int),tb,rfl,hb.same s2,de,fF,dD,λl ys H3 s3 _ hl hM=>⟨aW,λg hg=>?_⟩⟩;have u1:=aj (o:=.tup [.int (k:Int),.ref l]) hg;exact h _ _ (s3.trans u1) ⟨g,l,ys,rfl,aq,u1 _ _ hl,hM.imp λ_ _ x=>x.same u1⟩
 .intro l hl;rw[acT] at hz;refine q l zs _ (s2.trans (aj hl)) (s2.free hl) aq ?_;unfold tM;rw[ado];exact hz.imp λ_ _ r=>r.same (aj hl)
inductive Ye(K:acr)(vs:List V)(H:Hp)(Q:VK)(aS:XK):Prop
 | mk(v u:V)(s:S2)(p:P2)(_:vs=[v,u])(_:aM H v s.1 s.2)(_:cH H u p)(_:∀ r H',ah H H'->H r=none->H' r=some (.tup [ev (fH s p).1,ev (fH s p).2])->Q (.ref r) H')
theorem LH(T:Tx K mg):Ok P w base 1 T.um (Ye K):=by
 refine bH tY ?_;rintro _ _ _ _ _ _ _ _ hr ⟨v,u,⟨lo,hi⟩,⟨p1,p2⟩,rfl,⟨a,rfl,ha⟩,⟨b,rfl,hb⟩,q⟩;refine⟨_,(ar (aL 2 tY.nd (lV (dO (aw (aa 0) af)) bF (aE bC (aw (aa 0) af) (aw (aa 1) af)))) (ar (aL 3 tY.nd (lV (dO (aw (aa 0) af)) bF (aE bC (aw (aa 0) af) (aw (aa 1) af)))) (au (aA (aN (ae (aa 2) (ae (aa 3) ag))))))),?_⟩;rcases lo with _|lo<;>rcases hi with _|hi
 all_goals simp only[wK,wL] at ha
 all_goals
  rfl'
  repeat' first
  | refine aI ha ?_
  | refine aI hb ?_
  | (walk_at "p")
 all_goals exact⟨aW,λr hr=>q r _ (aj hr) hr aq⟩
theorem Yf(h:ax (λv (s:S2)=>aM H v s.1 s.2) zs ss)(h0:0<ss.length):∃ v,c8 zs (-1)=some v/\aM H v (cn ss (ss.length-1)).1 (cn ss (ss.length-1)).2:=by
 have hl:=h.len;obtain⟨v,hv,r⟩:=h.at (acv (l:=ss) (i:=ss.length-1) (by lia));have e:zs=zs.take (ss.length-1)++[v]:=by have:=aeR (ss.length-1) zs;rw[adQ (by lia),af7 (by lia)] at this;rw[acv (by lia)] at hv;cases hv;exact this.symm
 refine⟨v,by rw[e];exact zv _ _,?_⟩;unfold cn;rw[acu,acv (by lia)];exact r
inductive Yg(K:acr)(vs:List V)(H:Hp)(Q:VK)(aS:XK):Prop
 | mk(a b:acF)(xs ys:List V)(ws:List W2)(ps:List P2)(_:vs=[.ref a,.ref b])(_:ai K H a xs)(_:ax (gD H) xs ws)(_:ai K H b ys)(_:bR H ys ps)(_:ws.length<=ps.length+1)(_:ws.length<=1000)(_:(∀ t,t<ws.length->br (fJ ws) (aF ps) t=none->∀ H',ah H H'->Q .non H'))(_:((∀ t,t<ws.length->br (fJ ws) (aF ps) t≠none)->∀ l zs ss H',ah H H'->H l=none->H' l=some (.lst zs)->ax (tD H') zs ss->ss.length=ws.length->(∀ t,t<ws.length->br (fJ ws) (aF ps) t=some (cn ss t))->Q (.ref l) H'))
inductive LI(H:Hp)(a b l:acF)(ws:List W2)(ps:List P2)(i:Nat)(σ:St)(H1:Hp):Prop
 | mk(zs:List V)(ss:List S2)(e1 e2 e3:Option V)(_:σ=[some (.ref a),some (.ref b),some (.ref l),e1,e2,e3])(_:ah H H1)(_:H1 l=some (.lst zs))(_:ax (tD H1) zs ss)(_:ss.length=i)(_:∀ t,t<i->br (fJ ws) (aF ps) t=some (cn ss t))
theorem LJ(T:Tx K mg):Ok P w base 3 T.uo (Yg K):=by
 refine bH mH ?_;rintro _ _ _ _ H _ _ _ hr ⟨a,b,xs,ys,ws,ps,rfl,hS,hW,hT,hP,hl,hn,q0,q⟩;refine⟨_,(ar (aL 2 mH.nd (cu ag)) (ar (c6 adl rfl (zZ rfl T.xK (ae (aa 0) ag)) (j4 rfl (dv (cz 3 mH.nd) (dv (cz 4 mH.nd) jZ))) (ar (aL 5 mH.nd (aa 4)) (ar (aH (PW.pt (iu (qI (aa 3) af) (jX (gK (aa 4))))) (au (aL 5 mH.nd (aJ (D3 T) hr (ae (aa 4) (ae (aJ (LH T) hr (ae (aw (aa 2) (iA iX af)) (ae (aw (aa 1) (aE cQ (aa 3) af)) ag))) ag))))) aG) (ar (aH (dO (aa 5)) (au (aA bF)) aG) (au (eI (kW adF aep aeq sD (aa 2) (ae (aa 5) ag)))))))) (au (aA (aa 2))))),?_⟩;have l1:=hW.len;have l2:=hP.len;rfl';refine⟨by decide,λl eY=>?_⟩;have s1:=aj (o:=.lst []) eY;have e1:upd H l (.lst []) l=some (.lst []):=aq;generalize upd H l (.lst [])=H1 at s1 e1 ⊢;rfl';refine⟨⟨_,s1.seq hS⟩,z8 (xs:=xs) (LI H a b l ws ps) ⟨[],[],_,_,_,rfl,s1,e1,trivial,rfl,λt h=>absurd h (aek _)⟩ ?_ ?_ ?_⟩
 .rintro i σ H2 _ ⟨_,_,_,_,_,_,s2,_⟩;exact s2.seq hS
 .rintro i x σ H2 p hx ⟨zs,ss,d1,d2,d3,rfl,s2,bh,hz,hlen,ip⟩ hp;obtain⟨w,hw,r⟩:=hW.get hx;have sp:=aj (o:=.tup [.int i,x]) hp;refine n9 (ak.of aq) ?_;generalize upd H2 p (.tup [.int i,x])=H3 at sp ⊢;have s3:=s2.trans sp;have r3:=r.same s3;have dQ:=sp _ _ bh;have eZ:=hz.imp λ_ _ r=>aM.same r sp;have zl:=hz.len;have ew:fJ ws i=w:=by unfold fJ;rw[acu,hw];rfl
  have hi:=(acz.mp hx).1;have add:∀ (v:V) (k:S2) (H4:Hp) (d1 d2 d3:Option V),ah H3 H4->aM H4 v k.1 k.2->br (fJ ws) (aF ps) i=some k->LI H a b l ws ps (i+1) [some (.ref a),some (.ref b),some (.ref l),d1,d2,d3] (upd H4 l (.lst (zs++[v]))):=λv k H4 d1 d2 d3 s4 hv ek=>by
   have oZ:=s4 _ _ dQ;refine⟨zs++[v],ss++[k],d1,d2,d3,rfl,jt eY (s3.trans s4),aq,?_,by rw[ac1,ac8,hlen],λt ht=>?_⟩
   .exact ((eZ.imp λ_ _ r=>aM.same r s4).snoc hv).imp λ_ _ r=>aM.put r oZ
   .unfold cn;rw[acu];by_cases e:t=i
    .subst e;rw[ek,adL (by lia),hlen,aik];rfl
    .rw[ip t (by lia),adO (by lia)];unfold cn;rw[acu]
  cases w with
  | none =>
   obtain rfl:x = .non:=r3;have e0:br (fJ ws) (aF ps) i=none:=by
    cases i with
    | zero=>exact ew
    | succ i=>unfold br;rw[ew]
   rfl';have fin:=q0 i (by lia) e0 _ s3;exact aV (λ_=>fin) λ_=>fin
  | some k =>
   obtain⟨rp,rfl,hrp⟩:=id (show aM H3 x k.1 k.2 from r3);cases i with
   | zero =>
    rfl';exact⟨.inl ⟨rfl,_,ai.of dQ⟩,_,dQ,adI (by lia:zs.length<=1000) (by decide),add _ k _ _ _ _ (ah.refl _) r3 ew⟩
   | succ i =>
    rfl';rw[if_pos (by lia)];obtain⟨v,hv,rv⟩:=Yf (ss:=ss) eZ (by lia);obtain⟨u,hu,ru⟩:=hP.at (acv (l:=ps) (i:=i) (by lia));have ep:ps[i]'(by lia)=aF ps i:=by unfold aF;rw[acu,acv (by lia)];rfl
    rw[ep] at ru;rw[show (((i+1:Nat):Int)-1)=((i:Nat):Int) by lia];refine bQ (ai.of dQ) hv (bQ (s3.seq hT) (dH hu) ?_);rw[hlen,Nat.add_sub_cancel] at rv;refine⟨v,u,cn ss i,aF ps i,rfl,rv,ru.same s3,λr H4 s4 _ Yh=>?_⟩;refine⟨_,_,k.1,k.2,_,_,rfl,⟨rp,rfl,s4 _ _ hrp⟩,⟨r,rfl,Yh⟩,λy H5 s5 hy=>?_⟩;have ek:=ip i (by lia);have en:br (fJ ws) (aF ps) (i+1)=iQ k (fH (cn ss i) (aF ps i)):=by
     show (match fJ ws (i+1),br (fJ ws) (aF ps) i with
      | some b,some k=>iQ b (fH k (aF ps i))
      | _,_=>none)=_
     rw[ew,ek]
    have vm:=(s4.trans s5) _ _ dQ;unfold iQ at en;cases hc:aX (dA k.1 (fH (cn ss i) (aF ps i)).1) (ee k.2 (fH (cn ss i) (aF ps i)).2) with
    | true =>
     rw[if_pos hc] at en;obtain rfl:=hy.1 hc;rfl';exact q0 (i+1) (by lia) en _ (s3.trans (s4.trans s5))
    | false =>
     rw[if_neg (by rw[hc];simp)] at en;have o4:=hy.2 hc;obtain⟨yp,rfl,hyp⟩:=id o4;rfl';exact⟨.inl ⟨rfl,_,ai.of vm⟩,_,vm,adI (by lia:zs.length<=1000) (by decide),add _ _ _ _ _ _ (s4.trans s5) o4 en⟩
 .rintro σ H2 ⟨zs,ss,d1,d2,d3,rfl,s2,bh,hz,hlen,ip⟩;rfl';rw[l1] at hlen ip;exact q (λt ht=>by rw[ip t ht];simp) l zs ss H2 s2 eY bh hz hlen ip
inductive Yi(K:acr)(vs:List V)(H:Hp)(Q:VK)(aS:XK):Prop
 | mk(a:acF)(xs:List V)(ms:List Mk)(t:Nat)(_:vs=[.ref a,.int t])(_:ai K H a xs)(_:ax (dC H) xs ms)(_:ms.length<=1000)(_:∀ l ys H',ah H H'->H' l=some (.lst ys)->k7 H' ys (atT ms t)->Q (.ref l) H')
theorem Yj(T:Tx K mg):Ok P w base 1 T.uq (Yi K):=by
 refine bH Du ?_;rintro _ _ _ s H _ Q _ _ ⟨a,xs,ms,t,rfl,hS,hM,hn,q⟩;refine⟨_,(au (aA (dm (cO [1] ["turn"]) rfl (cB (aa 0)) (λC s2 H2 ex pn=>⟨(iH (bD (bT (K:=K) (aa 0) af) (aa 1))),(bT (K:=K) (aa 0) af)⟩)))),?_⟩;have hl:=hM.len;rfl';refine⟨⟨_,hS⟩,cN iI (acA (by lia:xs.length<=1000) (by decide)) (qq (R:=dC H) (R':=λv (s:S2)=>aM H v s.1 s.2) (p:=λm=>decide (m.1=t)) (f:=λm=>m.2) hS hM (λx m r Q h=>?_) (λx m hp r Q h=>?_) λzs hz=>?_)⟩
 .obtain⟨tp,sp,rfl,h1,h2⟩:=r;rfl';refine aI h1 ?_;rfl';refine Bc (Q:=λk=>Q k H) ?_;rw[show decide ((m.1:Int)=(t:Int))=decide (m.1=t) from decide_eq_decide.mpr (by lia)];exact h
 .obtain⟨tp,sp,rfl,h1,h2⟩:=r;rfl';exact az (ak.of h1) rfl (h _ ⟨sp,rfl,h2⟩)
 .rw[acT];intro l hl;exact q l zs _ (aj hl) aq (km.mpr (hz.imp λ_ _ r=>r.same (aj hl)))
theorem ax.rev:∀ {xs:List V} {as:List α},ax R xs as->ax R xs.reverse as.reverse
 | [],[],_=>trivial
 | x::xs,a::as,h=>by rw[agc,agc];exact (ax.rev h.2).app ⟨h.1,trivial⟩
 | [],_::_,h=>h.elim
 | _::_,[],h=>h.elim
inductive Yk(K:acr)(vs:List V)(H:Hp)(Q:VK)(aS:XK):Prop
 | mk(a b:acF)(xs ys:List V)(ps:List P2)(ms:List Mk)(_:vs=[.ref a,.ref b])(_:ai K H a xs)(_:bR H xs ps)(_:ai K H b ys)(_:ax (dC H) ys ms)(_:fb ps)(_:ps.length<=900)(_:ms.length<=1000)(_:(∀ t,t<=ps.length->br (cJ ms) (aF ps) t=none->∀ H',ah H H'->Q .non H'))(_:((∀ t,t<=ps.length->br (cJ ms) (aF ps) t≠none)->∀ l zs ss H',ah H H'->H l=none->H' l=some (.lst zs)->ax (tD H') zs ss->ss.length=ps.length+1->(∀ t,t<=ps.length->gG ps.length (cJ ms) (aF ps) t=some (cn ss t))->Q (.ref l) H'))
theorem Yl(T:Tx K mg):Ok P w base 4 T.uu (Yk K):=by
 refine bH tZ ?_;rintro _ _ _ s H _ Q _ hr ⟨a,b,xs,ys,ps,ms,rfl,hS,hP,hT,hM,ay,hn,hm,q0,q⟩;refine⟨_,(ar (aL 2 tZ.nd (aJ (LJ T) hr (ae (dm (cO [1] ["marks"]) rfl (g9 rfl T.eX (ae (aE bC (bf eK (by rfl) T.dt di (ae (aa 0) ag)) af) ag)) (λC s2 H2 ex pn=>⟨dz,(aJ (Eb T) hr (ae (aJ (Yj T) hr (ae (aa 1) (ae (aa 0) ag))) ag))⟩)) (ae (aa 0) ag)))) (ar (aH (dO (aa 2)) (au (aA bF)) aG) (ar (n5 (i:=3) (cO [] []) rfl tZ.nd rfl rfl (Q8 rfl T.Wn (ae (aa 0) ag)) (λC s2 H2 ex pn=>⟨dz,(aN (ae (iA iX (bT (K:=K) (aa 0) af)) (ae (iA iX (bT (K:=K) (aa 0) af)) ag)))⟩)) (au (aA (Jr (aJ (LJ T) hr (ae (Jr (aa 2) (iA iX af)) (ae (aa 3) ag))) (iA iX af))))))),?_⟩;have l1:=hP.len;rfl';refine⟨_,fE hS,by lia,by lia,?_⟩;rw[l1,show ((ps.length:Int)+1).toNat=ps.length+1 by lia];refine cN iJ (by rw[acs,acH];exact acA (by lia:_<=901) (by decide)) (gi (R:=λ_ x (k:Nat)=>x=V.int ((0:Int)+k)) (R':=gD) (f:=λ(k:Nat)=>cJ ms k) (λ_ _ _ _ _ h=>h) (λ_ _ _ _ s' h=>h.same s') (ax.fZ _) (bs:=[]) trivial (λ_ _=>trivial) (λx k _ H2 s2 r Q h=>?_) (λx k _ H2 s2 r Q h=>?_) λH2 zs s2 hz=>?_)
 .rfl';exact h
 .subst r;rfl';rw[show (0:Int)+(k:Nat)=((k:Nat):Int) by lia];refine⟨b,ys,ms,k,rfl,s2.seq hT,hM.imp λ_ _ r=>r.same s2,hm,λl zs H3 s3 hl hs=>?_⟩;refine⟨l,zs,_,rfl,ai.of hl,hs,?_,λv H4 s4 hv=>h H4 v (s3.trans s4) hv⟩;rw[hs.len];unfold atT;rw[acs];exact acA (adb _ _) hm
 rw[acT] at hz;intro c hc;have s3:=s2.trans (aj (o:=.lst zs) hc);have c3:upd H2 c (.lst zs) c=some (.lst zs):=aq;have eZ:=hz.imp λ_ _ r=>r.same (aj (o:=.lst zs) hc);generalize upd H2 c (.lst zs)=H3 at s3 c3 eZ ⊢;clear hz hc s2;have wl:((acD (ps.length+1)).map λ(k:Nat)=>cJ ms k).length=ps.length+1:=by rw[acs,acH]
 have we:∀ t,t<=ps.length->fJ ((acD (ps.length+1)).map λ(k:Nat)=>cJ ms k) t=cJ ms t:=λt ht=>by unfold fJ;rw[acu,acJ,adw (by lia)];rfl
 have ne:∀ t,t<=ps.length->br (fJ ((acD (ps.length+1)).map λ(k:Nat)=>cJ ms k)) (aF ps) t=br (cJ ms) (aF ps) t:=λt ht=>AG t (λk hk=>we k (by lia)) λk _=>rfl;refine⟨c,a,zs,xs,_,ps,rfl,ai.of c3,eZ,s3.seq hS,hP.same s3,by rw[wl];exact acC _,by rw[wl];lia,λt ht en H4 s4=>?_,λbV l nB ss H4 s4 _ hl Ym dw ip=>?_⟩
 .rw[wl] at ht;rw[ne t (by lia)] at en;rfl';exact q0 t (by lia) en _ (s3.trans s4)
 rw[wl] at bV ip dw;have LK:∀ t,t<=ps.length->br (cJ ms) (aF ps) t≠none:=λt ht z=>bV t (by lia) (by rw[ne t ht];exact z);have Yn:∀ t,t<ps.length+1->br (cJ ms) (aF ps) t=some (cn ss t):=λt ht=>by rw[<- ne t (by lia)];exact ip t ht
 have TB:=Jn ay LK;have S4:=s3.trans s4;rfl';refine⟨xs,S4.seq hS,TH (acA (by lia:_<=900) (by decide)) (gi (R:=cH) (R':=cH) (f:=λp=>(-p.2,-p.1)) (λ_ _ _ _ s' h=>h.same s') (λ_ _ _ _ s' h=>h.same s') (ax.rev (hP.same S4)) (bs:=[]) trivial (λH' s'=>(S4.trans s').seq hS) (λx k _ H2 s2 r Q h=>?_) (λx k _ H2 s2 r Q h=>?_) λH5 bs s5 hb=>?_)⟩
 .rfl';exact h
 .obtain⟨t,rfl,ht⟩:=r;rfl';refine aI ht ?_;rfl';refine aI ht ?_;rfl';exact⟨aW,λp hp=>h _ _ (aj hp) ⟨p,rfl,aq⟩⟩
 rw[acT] at hb;intro d hd;have s6:=s5.trans (aj (o:=.lst bs) hd);have d6:upd H5 d (.lst bs) d=some (.lst bs):=aq;have LL:bR (upd H5 d (.lst bs)) bs (lx ps):=hb.imp λ_ _ r=>r.same (aj (o:=.lst bs) hd);generalize upd H5 d (.lst bs)=H6 at s6 d6 LL ⊢;clear hb hd s5;refine⟨nB,ai.of (s6 _ _ hl),λp hp=>?_⟩;have s7:=s6.trans (aj (o:=.lst nB.reverse) hp);have p7:upd H6 p (.lst nB.reverse) p=some (.lst nB.reverse):=aq;have d7:=(aj (o:=.lst nB.reverse) hp) _ _ d6;have LM:bR (upd H6 p (.lst nB.reverse)) bs (lx ps):=LL.same (aj (o:=.lst nB.reverse) hp);generalize upd H6 p (.lst nB.reverse)=H7 at s7 p7 d7 LM ⊢;have rl:(ss.reverse.map some).length=ps.length+1:=by rw[acs,aeh,dw]
 have bl:(lx ps).length=ps.length:=by unfold lx;rw[acs,aeh]
 have be:∀ t,t<=ps.length->br (fJ (ss.reverse.map some)) (aF (lx ps)) t=gG ps.length (cJ ms) (aF ps) (ps.length-t):=λt ht=>back_eq dw Yn ht;refine⟨p,d,_,bs,ss.reverse.map some,lx ps,rfl,ai.of p7,ax.IX (ax.rev (Ym.imp λ_ _ r=>aM.same r s7)),ai.of d7,LM,by rw[rl,bl];exact acC _,by rw[rl];lia,λt ht en H8 s8=>?_,λ_ l3 Yo Yp H8 s8 fl3 dQ Yq Ef LN=>?_⟩
 .rw[rl] at ht;rw[be t (by lia)] at en;obtain⟨z,ez,_⟩:=TB.ok (ps.length-t) (by lia);rw[en] at ez;cases ez
 rw[rl] at Ef LN;have S8:=S4.trans (s7.trans s8);refine⟨l3,rfl,Yo,ai.of dQ,λp3 vo=>q LK p3 _ Yp.reverse _ (S8.trans (aj vo)) (S8.free vo) aq (ax.rev (Yq.imp λ_ _ r=>aM.same r (aj vo))) (by rw[aeh,Ef]) λt ht=>?_⟩;rw[Ts Ef ht,<- LN (ps.length-t) (by lia),be _ (by lia),show ps.length-(ps.length-t)=t by lia]
inductive Yr(K:acr)(vs:List V)(H:Hp)(Q:VK)(aS:XK):Prop
 | mk(a b:acF)(xs ys:List V)(ps:List P2)(ms:List Mk)(_:vs=[.ref a,.ref b])(_:ai K H a xs)(_:bR H xs ps)(_:ai K H b ys)(_:ax (dC H) ys ms)(_:fb ps)(_:ps.length<=900)(_:ms.length<=1000)(_:(∀ m∈ms,m.1<=ps.length))(_:((¬ ∃ c,iS ps c/\meets ms c)->∀ H',ah H H'->Q .non H'))(_:(∀ l cs H',ah H H'->H l=none->H' l=some (.lst (cs.map V.int))->cs.length=ps.length+1->iS ps (bL cs)->meets ms (bL cs)->Q (.ref l) H'))
inductive Ys(H:Hp)(a b x l c:acF)(zs:List V)(ss:List S2)(ps:List P2)(ms:List Mk)(i:Nat)(σ:St)(H1:Hp):Prop
 | mk(cs:List Int)(e1 e2:Option V)(_:σ=[some (.ref a),some (.ref b),some (.ref x),some (.ref l),e1,e2])(_:ah H H1)(_:H1 l=some (.lst (cs.map V.int)))(_:H1 c=some (.lst (zs.drop 1)))(_:ax (tD H1) zs ss)(_:cs.length=i+1)(_:(∀ t,t<=i->dJ (gG ps.length (cJ ms) (aF ps) t) (bL cs t)))(_:∀ k,k<i->(aF ps k).1<=bL cs (k+1)-bL cs k/\bL cs (k+1)-bL cs k<=(aF ps k).2)
theorem yc(h:t<cs.length):bL (cs++[n]) t=bL cs t:=by unfold bL;rw[acu,acu,adO h]
theorem LO(h:cs.length=t):bL (cs++[n]) t=n:=by unfold bL;rw[acu,adL (by lia),h,aik];rfl
theorem Yt{cs:List Int}{i:Nat}(h:cs.length=i+1):c8 (cs.map V.int) (-1)=some (.int (bL cs i)):=by
 have e:cs=cs.take i++[bL cs i]:=by have:=aeR i cs;rw[adQ (by lia),af7 (by lia)] at this;unfold bL;rw[acu,acv (by lia)];exact this.symm
 have e2:cs.map V.int=(cs.take i).map V.int++[V.int (bL cs i)]:=(congrArg (List.map V.int) e).trans (by rw[aec];rfl);rw[e2];exact zv _ _
theorem LP(h:aX s.1 s.2=false):bS s (ly s):=Av.mpr (TJ h)
theorem LQ(h:i<ss.length):ss[i]?=some (cn ss i):=by unfold cn;rw[acu,acv h];rfl
theorem Eg(h:i<ps.length):ps[i]?=some (aF ps i):=by unfold aF;rw[acu,acv h];rfl
theorem Yu(T:Tx K mg):Ok P w base 5 T.uv (Yr K):=by
 refine bH oF ?_;rintro _ _ _ s H _ _ _ hr ⟨a,b,xs,ys,ps,ms,rfl,hS,hP,hT,hM,ay,hn,hm,ht,q0,q⟩;refine⟨_,(ar (aL 2 oF.nd (aJ (Yl T) hr (ae (aa 0) (ae (aa 1) ag)))) (ar (aH (dO (aa 2)) (au (aA bF)) aG) (ar (aL 3 oF.nd (cu (ae (aJ (LA T) hr (ae (aw (aa 2) af) ag)) ag))) (ar (c6 adl rfl (Rh rfl T.Wo (ae (aa 0) (ae (sx vX (aa 2) (nT af) zr) ag))) (j4 rfl (dv (cz 4 oF.nd) (dv (cz 5 oF.nd) jZ))) (au (eI (kW adF aep aeq sD (aa 3) (ae (aJ (LA T) hr (ae (aJ (D3 T) hr (ae (aa 5) (ae (aJ (LH T) hr (ae (aN (ae (aw (aa 3) (iA iX af)) (ae (aw (aa 3) (iA iX af)) ag))) (ae (aa 4) ag))) ag))) ag)) ag))))) (au (aA (aa 3))))))),?_⟩;have l1:=hP.len;rfl';refine⟨a,b,xs,ys,ps,ms,rfl,hS,hP,hT,hM,ay,hn,hm,λt ht en H1 s1=>?_,λbV x zs ss H1 s1 fx hx hz dw ip=>?_⟩
 .rfl';refine q0 ?_ _ s1;rintro ⟨c,hc,lH⟩;exact Tp hc lH t ht en
 have TB:=Jn ay bV;have zl:=hz.len;have Yv:∀ t,t<=ps.length->aX (cn ss t).1 (cn ss t).2=false:=λt ht=>by obtain⟨s,es,hs⟩:=TB.ok t ht;rw[ip t ht] at es;cases es;exact hs
 rfl';obtain⟨v0,Eh,r0⟩:=hz.at (LQ (ss:=ss) (i:=0) (by lia));refine bQ (ai.of hx) (dH (j:=0) Eh) ?_;refine⟨v0,cn ss 0,rfl,r0,by decide,λl eY=>?_⟩;have u1:=aj (o:=.lst [.int (ly (cn ss 0))]) eY;have L1:upd H1 l (.lst [.int (ly (cn ss 0))]) l=some (.lst ([ly (cn ss 0)].map V.int)):=aq;have fl:=s1.free eY;generalize upd H1 l (.lst [.int (ly (cn ss 0))])=H2 at u1 L1 ⊢;refine⟨zs,ai.of (u1 _ _ hx),λc hc=>?_⟩;rw[show iC zs (some 1) none=zs.drop 1 from HI zs 1];have u2:=aj (o:=.lst (zs.drop 1)) hc;have c3:upd H2 c (.lst (zs.drop 1)) c=some (.lst (zs.drop 1)):=aq;have lc:l≠c:=λz=>by rw[<- z,L1] at hc;cases hc
 generalize upd H2 c (.lst (zs.drop 1))=H3 at u2 c3 ⊢;have S3:=s1.trans (u1.trans u2);refine⟨⟨_,S3.seq hS⟩,⟨_,ai.of c3⟩,Rm (xs:=xs) (ys:=zs.drop 1) (Ys H a b x l c zs ss ps ms) ⟨[ly (cn ss 0)],_,_,rfl,S3,u2 _ _ L1,c3,hz.imp λ_ _ r=>aM.same r (u1.trans u2),rfl,λt ht=>?_,λk hk=>absurd hk (aek _)⟩ ?_ ?_ ?_⟩
 .obtain rfl:t=0:=by lia
  exact⟨_,ip 0 (by lia),LP (Yv 0 (by lia))⟩
 .rintro i σ H4 ⟨_,_,_,_,s4,_,c4,_⟩;exact⟨s4.seq hS,ai.of c4⟩
 .rintro i u v σ H4 p hu hv ⟨cs,d1,d2,rfl,s4,L4,c4,jS,bq,bU,cG⟩ hp;have hi:i<ps.length:=by have:=(acz.mp hu).1;lia
  obtain⟨pt,ept,ru⟩:=hP.get hu;rw[Eg hi] at ept;cases ept;rw[af2,Nat.add_comm 1 i] at hv;obtain⟨sv,esv,rv⟩:=jS.get hv;rw[LQ (by lia)] at esv;cases esv;refine n9 (ak.of aq) ?_;have up:=aj (o:=.tup [u,v]) hp;generalize upd H4 p (.tup [u,v])=H5 at up ⊢;have L5:=up _ _ L4;rfl';have lst:=Yt bq;refine⟨.inl ⟨rfl,_,ai.of L5⟩,bQ (ai.of L5) lst (bQ (ai.of L5) lst ⟨aW,λt1 jR=>?_⟩)⟩;have ut:=aj (o:=.tup [.int (bL cs i),.int (bL cs i)]) jR;refine⟨.ref t1,u,(some (bL cs i),some (bL cs i)),aF ps i,rfl,⟨t1,rfl,aq⟩,ru.same (s4.trans (up.trans ut)),λr H6 s6 _ Yw=>?_⟩;obtain⟨m,em,dq⟩:=Tt TB hi (bU i (acC _)) (ip (i+1) (by lia));have Yx:=aM.same rv (up.trans (ut.trans s6));refine⟨v,.ref r,_,_,_,_,rfl,Yx,⟨r,rfl,Yw⟩,λy H7 s7 hy=>?_⟩;have cm:=Je em;have LR:aX (dA (cn ss (i+1)).1 (fH (some (bL cs i),some (bL cs i)) (aF ps i)).1) (ee (cn ss (i+1)).2 (fH (some (bL cs i),some (bL cs i)) (aF ps i)).2)=false/\m=(dA (cn ss (i+1)).1 (fH (some (bL cs i),some (bL cs i)) (aF ps i)).1,ee (cn ss (i+1)).2 (fH (some (bL cs i),some (bL cs i)) (aF ps i)).2):=by
   unfold iQ at em;split at em
   .cases em
   .rename_i hc;cases em;exact⟨by simpa using hc,rfl⟩
  have o4:=hy.2 LR.1;refine⟨y,m,rfl,by rw[LR.2];exact o4,?_⟩;have S7:=up.trans (ut.trans (s6.trans s7));have L7:=S7 _ _ L4;obtain⟨n1,n2,n3⟩:=dq _ (LP cm);refine⟨_,L7,by rw[acs];exact adI (by lia:_<=1000) (by decide),cs++[ly m],_,_,rfl,jt fl (s4.trans S7),by rw[aq,aec];rfl,by rw[aD (ady lc)];exact S7 _ _ c4,jS.imp λ_ _ r=>aM.put (aM.same r S7) L7,by rw[ac1,ac8];lia,λt ht=>?_,λk hk=>?_⟩
  .by_cases e:t=i+1
   .subst e;rw[LO bq];exact n1
   .rw[yc (by lia)];exact bU t (by lia)
  .by_cases e:k=i
   .subst e;rw[LO bq,yc (by lia)];exact⟨n2,n3⟩
   .rw[yc (by lia),yc (by lia)];exact cG k (by lia)
 .rintro σ H4 ⟨cs,d1,d2,rfl,s4,L4,c4,jS,bq,bU,cG⟩;rfl';rw[ae9,show min xs.length (zs.length-1)=ps.length by lia] at bq bU cG;exact q l cs H4 s4 fl L4 bq cG (meets_of TB ht bU)
def eG(H:Hp)(v:V):Option P2->Prop
 | none=>v = .non
 | some p=>cH H v p
theorem eG.same(h:eG H v o)(s:ah H H'):eG H' v o:=by
 cases o with
 | none=>exact h
 | some p=>exact cH.same h s
inductive Yy(K:acr)(vs:List V)(H:Hp)(Q:VK)(aS:XK):Prop
 | mk(v u:V)(a b:Option P2)(_:vs=[v,u])(_:eG H v a)(_:eG H u b)(_:∀ x,eG H x (kr a b)->(x=v∨x=u)->Q x H)
theorem Ei(T:Tx K mg):Ok P w base 1 T.uw (Yy K):=by
 refine bH Dv ?_;rintro _ _ _ _ H _ _ _ hr ⟨v,u,a,b,rfl,ha,hb,q⟩;refine⟨_,(ar (aH (PW.pt (cU (dO (aa 0)) (e9 (dO (aa 1))))) (au (aA (lV (dO (aa 0)) (aa 1) (aa 0)))) aG) (au (aA (bf (T9 rfl (dI hr)) (by rfl) T.qS pM (ae (aa 0) (ae (aa 1) ag)))))),?_⟩;rcases a with _|a<;>rcases b with _|b
 .obtain rfl:v = .non:=ha;obtain rfl:u = .non:=hb;rfl';exact q _ rfl (.inl rfl)
 .obtain rfl:v = .non:=ha;obtain⟨r,rfl,dF⟩:=id hb;rfl';exact q _ hb (.inr rfl)
 .obtain rfl:u = .non:=hb;obtain⟨r,rfl,dF⟩:=id ha;rfl';exact q _ ha (.inl rfl)
 .obtain⟨r,rfl,dF⟩:=id ha;obtain⟨r2,rfl,o5⟩:=id hb;rfl';refine⟨a,dF,b,o5,?_⟩;by_cases hl:fQ b a=true
  .rw[if_pos hl];exact q _ (by show cH H _ (fR a b);unfold fR;rw[if_pos hl];exact hb) (.inr rfl)
  .rw[if_neg hl];exact q _ (by show cH H _ (fR a b);unfold fR;rw[if_neg hl];exact ha) (.inl rfl)
inductive Yz(K:acr)(vs:List V)(H:Hp)(Q:VK)(aS:XK):Prop
 | mk(v:V)(a:Option P2)(b:Int)(_:vs=[v,.int b])(_:eG H v a)(_:∀ x H',ah H H'->eG H' x (qt a b)->Q x H')
theorem LS(T:Tx K mg):Ok P w base 1 T.ux (Yz K):=by
 refine bH Dw ?_;rintro _ _ _ _ _ _ _ _ _ ⟨v,a,b,rfl,ha,q⟩;refine⟨_,(au (aA (lV (dO (aa 0)) bF (aN (ae (aE bC (aw (aa 0) af) (aa 1)) (ae (aw (aa 0) af) ag)))))),?_⟩;rcases a with _|a
 .obtain rfl:v = .non:=ha;rfl';exact q _ _ (ah.refl _) rfl
 .obtain⟨r,rfl,dF⟩:=id ha;rfl';refine aI dF ?_;rfl';refine az (ak.of dF) rfl ⟨aW,λp hp=>q _ _ (aj hp) ⟨p,rfl,aq⟩⟩
inductive YA(K:acr)(vs:List V)(H:Hp)(Q:VK)(aS:XK):Prop
 | mk(a b:acF)(xs ys:List V)(ps:List P2)(ms:List Mk)(_:vs=[.ref a,.ref b])(_:ai K H a xs)(_:bR H xs ps)(_:ai K H b ys)(_:ax (dC H) ys ms)(_:fb ps)(_:ps.length<=900)(_:ms.length<=1000)(_:(∀ m∈ms,m.1<=ps.length))(_:∀ l zs ts H',ah H H'->H l=none->H' l=some (.lst zs)->ax (eG H') zs ts->ts.length=ps.length+1->lq ps ms (eB ts)->Q (.ref l) H')
inductive o6(P:Nat->(Nat->Option P2)->Prop)(H:Hp)(a b l:acF)(n:Nat)(i:Nat)(σ:St)(H1:Hp):Prop
 | mk(zs:List V)(ts:List (Option P2))(e1 e2 e3:Option V)(_:σ=[some (.ref a),some (.ref b),some (.ref l),e1,e2,e3])(_:ah H H1)(_:H1 l=some (.lst zs))(_:ax (eG H1) zs ts)(_:ts.length=n+1)(_:P i (eB ts))
theorem eG.put(h:eG H v o)(hl:H l=some (.lst ys)):eG (upd H l (.lst zs)) v o:=by
 cases o with
 | none=>exact h
 | some p=>exact cH.put h hl
theorem ax.LU{α:Type}{R:V->α->Prop}{x:V}{a:α}(r:R x a):∀ {xs:List V} {as:List α} (j:Nat),ax R xs as->ax R (xs.set j x) (as.set j a)
 | [],[],_,_=>trivial
 | _::_,_::_,0,h=>⟨r,h.2⟩
 | _::_,_::_,j+1,h=>⟨h.1,ax.LU r j h.2⟩
 | [],_::_,_,h=>h.elim
 | _::_,[],_,h=>h.elim
theorem rk(h:ax (eG H) zs ts)(ht:t<ts.length):∃ v,c8 zs (t:Int)=some v/\eG H v (eB ts t):=by obtain⟨v,hv,r⟩:=h.at (acv ht);refine⟨v,dH hv,?_⟩;unfold eB;rw[acu,acv ht];exact r
theorem Ej(h:t<n):jo n (t:Int)=some t:=by unfold jo;rw[if_pos (by lia),if_pos (by lia),adt]
theorem Ek(eY:H l=none)(s:ah H H1)(hl:H1 l=some (.lst zs))(hz:ax (eG H1) zs ts)(hlen:ts.length=n+1)(hv:eG H1 v x)(ht:t<n+1)(hP:P i (ku (eB ts) t x)):o6 P H a b l n i [some (.ref a),some (.ref b),some (.ref l),d1,d2,d3] (upd H1 l (.lst (zs.set t v))) :=
 ⟨zs.set t v,ts.set t x,d1,d2,d3,rfl,jt eY s,aq,(ax.LU hv t hz).imp λ_ _ r=>r.put hl,by rw[ajZ];exact hlen,by rw[Tu (by lia)];exact hP⟩
theorem YB(n:Nat):mh ((n:Int)-1) (-1) (-1)=n:=by unfold mh adB;simp only[show ¬ ((-1:Int) > 0) by lia,if_false,show (- (-1:Int))=1 by lia,ak0];split<;>lia
theorem YC(T:Tx K mg):Ok P w base 2 T.uy (YA K):=by
 refine bH mI ?_;rintro _ _ _ _ H _ Q _ hr ⟨a,b,xs,ys,ps,ms,rfl,hS,hP,hT,hM,ay,hn,hm,ht,q⟩;refine⟨_,(ar (n5 (i:=2) (cO [] []) rfl mI.nd rfl rfl (g9 rfl T.eX (ae (aE bC (bf eK (by rfl) T.dt di (ae (aa 0) ag)) af) ag)) (λC s2 H2 ex pn=>⟨dz,bF⟩)) (ar (c6 adl rfl (zZ rfl T.xK (ae (aa 1) ag)) (j4 rfl (dv (cz 3 mI.nd) (dv (cz 4 mI.nd) jZ))) (au (aH (gK (aw (aw (aa 4) af) af)) (au (yT (aJ (Ei T) hr (ae (aw (aa 2) (aw (aa 4) af)) (ae (aN (ae (aw (aw (aa 4) af) af) (ae (aa 3) ag))) ag))) (yS (aa 2) (aw (aa 4) af) set_list))) aG))) (ar (c6 adl rfl (g9 rfl T.eX (ae (bf eK (by rfl) T.dt di (ae (aa 0) ag)) ag)) (cz 5 mI.nd) (au (yT (aJ (Ei T) hr (ae (aw (aa 2) (aE bC (aa 5) af)) (ae (aJ (LS T) hr (ae (aw (aa 2) (aa 5)) (ae (aw (aw (aa 0) (aa 5)) af) ag))) ag))) (yS (aa 2) (aE bC (aa 5) af) set_list)))) (ar (c6 adl rfl (Rr rfl T.eX (ae (aE cQ (bf eK (by rfl) T.dt di (ae (aa 0) ag)) af) (ae (iA iX af) (ae (iA iX af) ag)))) (cz 5 mI.nd) (au (yT (aJ (Ei T) hr (ae (aw (aa 2) (aa 5)) (ae (aJ (LS T) hr (ae (aw (aa 2) (aE bC (aa 5) af)) (ae (iA iX (aw (aw (aa 0) (aa 5)) af)) ag))) ag))) (yS (aa 2) (aa 5) set_list)))) (au (aA (aa 2))))))),?_⟩;have l1:=hP.len;have l2:=hM.len;refine aC (λσ H1=>∃ l,σ=[some (.ref a),some (.ref b),some (.ref l),none,none,none]/\ah H H1/\H l=none/\H1 l=some (.lst (afz (ps.length+1) .non))) (λN hN=>?_) ?_
 .rfl';refine⟨_,fE hS,by lia,by lia,?_⟩;rw[l1,show ((ps.length:Int)+1).toNat=ps.length+1 by lia];refine cN iJ (by rw[acs,acH];exact acA (by lia:_<=901) (by decide)) (wm (p:=λ_=>true) (f:=λ_=>.non) trivial (λx _ Q h=>?_) (λx _ _ Q h=>?_) ?_)
  .rfl';exact h
  .rfl';exact h
  rw[acT,filter_tt];intro l hl;refine hN _ _ ⟨l,rfl,aj hl,hl,?_⟩;rw[aq]
  congr 2
  refine afu λk=>?_;rw[acJ,acJ,afU];by_cases hk:k<ps.length+1
  .rw[adw hk,if_pos hk];rfl
  .rw[adK (by rw[acH];lia),if_neg hk];rfl
 rintro _ yR σ H1 ⟨l,rfl,s1,eY,qA⟩;subst yR;refine aC (o6 (T1 ps ms) H a b l ps.length ms.length) (λN hN=>?_) ?_
 .rfl';refine⟨⟨_,s1.seq hT⟩,z8 (xs:=ys) (o6 (T1 ps ms) H a b l ps.length) ⟨_,afz (ps.length+1) none,_,_,_,rfl,s1,qA,?_,by rw[aia],by rw[Tv];exact T1.nil⟩ ?_ ?_ ?_⟩
  .have:∀ k,ax (eG H1) (afz k .non) (afz k none):=λk=>by
    induction k with
    | zero=>exact trivial
    | succ k ih=>exact⟨rfl,ih⟩
   exact this _
  .rintro i σ H2 _ ⟨_,_,_,_,_,_,s2,_⟩;exact s2.seq hT
  .rintro i x σ H2 p hx ⟨zs,ts,d1,d2,d3,rfl,s2,bh,hz,gW,iq⟩ hp;obtain⟨m,o7,tp,sp,rfl,h1,h2⟩:=hM.get hx;have lH:=ht m (acM o7);have up:=aj (o:=.tup [.int i,.ref tp]) hp;refine n9 (ak.of aq) ?_;generalize upd H2 p (.tup [.int i,.ref tp])=H3 at up ⊢;have s3:=s2.trans up;have g1:=s3 _ _ h1;have g2:=s3 _ _ h2;have dQ:=up _ _ bh;have eZ:=hz.imp λ_ _ r=>r.same up;obtain⟨mt,lo,hi⟩:=m;rfl';refine aI g1 (aI g2 ?_);cases hi with
   | none =>
    rfl';exact⟨zs,ts,_,_,_,rfl,s3,dQ,eZ,gW,iq.skip o7 rfl⟩
   | some h =>
    rfl';obtain⟨v,hv,rv⟩:=rk eZ (t:=mt) (by dsimp only at lH;lia);refine az (ak.of g1) rfl (bQ (ai.of dQ) hv (aI g1 (aI g2 ?_)));rfl';refine⟨aW,λt1 jR=>?_⟩;have ut:=aj (o:=.tup [.int h,.int i]) jR;have S4:=s3.trans ut;refine⟨v,.ref t1,_,some (h,(i:Int)),rfl,rv.same ut,⟨t1,rfl,aq⟩,λy hy _=>?_⟩;refine aI (ut _ _ g1) ?_;exact⟨zs,_,rfl,ut _ _ dQ,mt,Ej (by rw[hz.len,gW];dsimp only at lH;lia),Ek eY S4 (ut _ _ dQ) (eZ.imp λ_ _ r=>r.same ut) gW hy (by dsimp only at lH;lia) (iq.put o7 rfl)⟩
  .rintro σ H2 h;rw[l2] at h;exact hN _ _ h
 rintro _ yR σ H2 h2;subst yR;refine aC (o6 (T2 ps ms) H a b l ps.length ps.length) (λN hN=>?_) ?_
 .obtain⟨zs,ts,d1,d2,d3,rfl,s2,bh,hz,gW,iq⟩:=h2;rfl';refine⟨_,fE (s2.seq hS),?_⟩;rw[l1];refine⟨by lia,by lia,?_⟩;rw[adt];refine sG (o6 (T2 ps ms) H a b l ps.length) ⟨zs,ts,d1,d2,d3,rfl,s2,bh,hz,gW,iq.two⟩ ?_ (λσ H3 h=>hN _ _ h);rintro i σ H3 hi ⟨zs,ts,d1,d2,d3,rfl,s3,dQ,eZ,gW,oW⟩;have zl:=eZ.len;obtain⟨v,hv,rv⟩:=rk eZ (t:=i+1) (by lia);obtain⟨u,hu,ru⟩:=rk eZ (t:=i) (by lia);obtain⟨w,hw,tw,rfl,El⟩:=hP.at (Eg hi);rfl';rw[show (0:Int)+(i:Int)=((i:Nat):Int) by lia,show ((i:Nat):Int)+1=((i+1:Nat):Int) by lia];refine bQ (ai.of dQ) hv (bQ (ai.of dQ) hu (bQ (s3.seq hS) (dH hw) (aI (s3 _ _ El) ?_)));refine⟨u,_,_,rfl,ru,λy H4 s4 hy=>?_⟩;refine⟨v,y,_,_,rfl,rv.same s4,hy,λz Em _=>?_⟩;exact⟨zs,s4 _ _ dQ,i+1,Ej (by lia),Ek eY (s3.trans s4) (s4 _ _ dQ) (eZ.imp λ_ _ r=>r.same s4) gW Em (by lia) (oW.step ay ht hi)⟩
 rintro _ yR σ H3 h3;subst yR;refine aC (o6 (λi=>T3 ps ms (ps.length-i)) H a b l ps.length ps.length) (λN hN=>?_) ?_
 .obtain⟨zs,ts,d1,d2,d3,rfl,s2,bh,hz,gW,iq⟩:=h3;rfl';refine⟨_,fE (s2.seq hS),?_⟩;rw[l1,YB];refine⟨by lia,by lia,Rv (o6 (λi=>T3 ps ms (ps.length-i)) H a b l ps.length) ⟨zs,ts,d1,d2,d3,rfl,s2,bh,hz,gW,iq.three⟩ ?_ (λσ H3 h=>hN _ _ h)⟩;rintro i σ H3 hi ⟨zs,ts,d1,d2,d3,rfl,s3,dQ,eZ,gW,yd⟩;have zl:=eZ.len;obtain⟨j,hj⟩:∃ j,ps.length=j+1+i:=⟨ps.length-1-i,by lia⟩
  obtain⟨v,hv,rv⟩:=rk eZ (t:=j+1) (by lia);obtain⟨u,hu,ru⟩:=rk eZ (t:=j) (by lia);obtain⟨w,hw,tw,rfl,El⟩:=hP.at (Eg (ps:=ps) (i:=j) (by lia));rfl';rw[show (ps.length:Int)-1+(i:Int) * -1=((j:Nat):Int) by lia,show ((j:Nat):Int)+1=((j+1:Nat):Int) by lia];refine bQ (ai.of dQ) hu (bQ (ai.of dQ) hv (bQ (s3.seq hS) (dH hw) (aI (s3 _ _ El) ?_)));rfl';refine⟨v,_,_,rfl,rv,λy H4 s4 hy=>?_⟩;refine⟨u,y,_,_,rfl,ru.same s4,hy,λz Em _=>?_⟩;refine⟨zs,s4 _ _ dQ,j,Ej (by lia),Ek eY (s3.trans s4) (s4 _ _ dQ) (eZ.imp λ_ _ r=>r.same s4) gW Em (by lia) ?_⟩;show T3 ps ms (ps.length-(i+1)) _;rw[show ps.length-(i+1)=j by lia];have yd:T3 ps ms (ps.length-i) (eB ts):=yd;rw[show ps.length-i=j+1 by lia] at yd;exact yd.step ay ht (by lia)
 rintro _ yR σ H4 ⟨zs,ts,d1,d2,d3,rfl,s4,oZ,jS,gW,oU⟩;subst yR;rw[aik] at oU;rfl';exact q l zs ts H4 s4 eY oZ jS gW oU.tops
inductive YD(K:acr)(vs:List V)(H:Hp)(Q:VK)(aS:XK):Prop
 | mk(a b:acF)(zs ys:List V)(ts:List (Option P2))(ms:List Mk)(_:vs=[.ref a,.ref b])(_:ai K H a zs)(_:ax (eG H) zs ts)(_:ai K H b ys)(_:ax (dC H) ys ms)(_:(∀ m∈ms,m.1<ts.length))(_:(tx ms (eB ts)->∀ H',ah H H'->Q .non H'))(_:(∀ (j:Nat) m l v k,ms[j]?=some m->m.2.1=some l->eB ts m.1=some (v,k)->v<l->∀ p H',ah H H'->H p=none->H' p=some (.tup [.int k,.int j])->Q (.ref p) H'))
inductive YE(H:Hp)(a b:acF)(ts:List (Option P2))(ms:List Mk)(i:Nat)(σ:St)(H1:Hp):Prop
 | mk(e1 e2 e3:Option V)(_:σ=[some (.ref a),some (.ref b),e1,e2,e3])(_:ah H H1)(_:tx (ms.take i) (eB ts))
theorem YF(T:Tx K mg):Ok P w base 1 T.uz (YD K):=by
 refine bH qM ?_;rintro _ _ _ _ H _ _ _ _ ⟨a,b,zs,ys,ts,ms,rfl,hA,hZ,hT,hM,ht,q0,q⟩;refine⟨_,(ar (c6 adl rfl (zZ rfl T.xK (ae (aa 1) ag)) (j4 rfl (dv (cz 2 qM.nd) (dv (cz 3 qM.nd) jZ))) (ar (aL 4 qM.nd (aw (aa 0) (aw (aa 3) af))) (au (aH (PW.pt (iu (gK (aa 4)) (iu (gK (aw (aw (aa 3) af) af)) (jX (qI (aw (aw (aa 3) af) af) (aw (aa 4) af)))))) (au (aA (aN (ae (aw (aa 4) af) (ae (aa 2) ag))))) aG)))) (au (aA bF))),?_⟩;have l1:=hZ.len;have l2:=hM.len;rfl';refine⟨⟨_,hT⟩,z8 (xs:=ys) (YE H a b ts ms) ⟨_,_,_,rfl,ah.refl _,λm h=>by simp at h⟩ ?_ ?_ ?_⟩
 .rintro i σ H2 _ ⟨_,_,_,_,s2,_⟩;exact s2.seq hT
 .rintro i x σ H2 p hx ⟨d1,d2,d3,rfl,s2,bB⟩ hp;obtain⟨m,o7,tp,sp,rfl,h1,h2⟩:=hM.get hx;have lH:=ht m (acM o7);have up:=aj (o:=.tup [.int i,.ref tp]) hp;refine n9 (ak.of aq) ?_;generalize upd H2 p (.tup [.int i,.ref tp])=H3 at up ⊢;have s3:=s2.trans up;have g1:=s3 _ _ h1;have g2:=s3 _ _ h2;have next:(∀ l v k,m.2.1=some l->eB ts m.1=some (v,k)->l<=v)->tx (ms.take (i+1)) (eB ts):=λhh n hn=>by
   rw[ads,o7] at hn;rcases ac4.mp hn with z|z
   .exact bB n z
   .obtain rfl:n=m:=by simpa using z
    exact hh
  obtain⟨v,hv,rv⟩:=rk hZ lH;obtain⟨mt,lo,hi⟩:=m;rfl';refine az (ak.of g1) rfl (bQ (s3.seq hA) hv ?_);cases et:eB ts mt with
  | none =>
   rw[show eB ts (mt,lo,hi).1=none from et] at rv;obtain rfl:v = .non:=rv;rfl';exact⟨_,_,_,rfl,s3,next λl v k _ e=>by rw[show eB ts (mt,lo,hi).1=none from et] at e;cases e⟩
  | some q2 =>
   obtain⟨w,k⟩:=q2;rw[show eB ts (mt,lo,hi).1=some (w,k) from et] at rv;obtain⟨rt,rfl,hrt⟩:=rv;rfl';refine aI g1 (aI g2 ?_);cases lo with
   | none =>
    rfl';exact⟨_,_,_,rfl,s3,next λl v k e _=>by cases e⟩
   | some l =>
    rfl';refine aI g1 (aI g2 (aI (s3 _ _ hrt) ?_));rfl';refine aV (λhc=>?_) λhc=>?_
    .exact az (ak.of (s3 _ _ hrt)) rfl ⟨aW,λr dD=>q i _ l w k o7 rfl et hc r _ (s3.trans (aj dD)) (s3.free dD) aq⟩
    .exact⟨_,_,_,rfl,s3,next λl' v' k' e1 e2=>by
      cases e1;rw[show eB ts (mt,some l,hi).1=some (w,k) from et] at e2;cases e2;lia⟩
 .rintro σ H2 ⟨d1,d2,d3,rfl,s2,bB⟩;rfl';rw[l2,adu] at bB;exact q0 bB _ s2
inductive dN(H:Hp)(v:V)(c:Cl):Prop
 | mk(t a b:acF)(_:v = .ref t)(_:H t=some (.tup [.ref a,.ref b]))(_:H a=some (.tup [ev c.1.1,.int c.1.2]))(_:H b=some (.tup [ev c.2.1,.int c.2.2]))
theorem dN.same(h:dN H v r)(s:ah H H'):dN H' v r:=let ⟨t,a,b,e,h1,h2,h3⟩:=h;⟨t,a,b,e,s _ _ h1,s _ _ h2,s _ _ h3⟩
theorem dN.put(h:dN H v r)(hl:H l=some (.lst ys)):dN (upd H l o) v r:=by
 obtain⟨t,a,b,e,h1,h2,h3⟩:=h;have nl:∀ (z:acF) (vs:List V),H z=some (.tup vs)->z≠l:=λz vs e1 e2=>by rw[e2,hl] at e1;cases e1
 exact⟨t,a,b,e,by rw[aD (nl _ _ h1)];exact h1,by rw[aD (nl _ _ h2)];exact h2,by rw[aD (nl _ _ h3)];exact h3⟩
theorem YG(h:eG H v o)(hl:H l=some (.lst ys))(k:∀ b o,b≠l->H b=some o->H' b=some o):eG H' v o:=by
 cases o with
 | none=>exact h
 | some p =>
  obtain⟨t,e,a⟩:=h;exact⟨t,e,k _ _ (λz=>by rw[z,hl] at a;cases a) a⟩
inductive rm(ps:List P2)(gs:List Gp)(i j:Nat)(H:Hp)(l:acF):Prop
 | mk(zs:List V)(cs:List Cl)(_:H l=some (.lst zs))(_:ax (dN H) zs cs)(_:cs.length<=8 * i+j)(_:xm ps gs cs)(_:∀ i' j' g h,gs[i']?=some g->gs[j']?=some h->(i'<i∨(i'=i/\j'<j))->kz ps g h cs)
theorem rm.same(h:rm ps gs i j H l)(s:ah H H'):rm ps gs i j H' l:=let ⟨zs,cs,a,b,c1,c2,c3⟩:=h;⟨zs,cs,s _ _ a,b.imp λ_ _ x=>x.same s,c1,c2,c3⟩
inductive YH(K:acr)(vs:List V)(H:Hp)(Q:VK)(aS:XK):Prop
 | mk(a b:acF)(xs ys:List V)(ps:List P2)(gs:List Gp)(_:vs=[.ref a,.ref b])(_:ai K H a xs)(_:bR H xs ps)(_:fb ps)(_:ps.length<=900)(_:ai K H b ys)(_:ax (rj H) ys gs)(_:gs.length<=8)(_:(∀ g∈gs,g.2.length<=1000/\∀ m∈g.2,m.1<=ps.length))(_:∀ l zs cs H',ah H H'->H l=none->H' l=some (.lst zs)->ax (dN H') zs cs->cs.length<=64->xm ps gs cs->(∀ g∈gs,∀ h∈gs,kz ps g h cs)->Q (.ref l) H')
inductive LV(H:Hp)(a b l:acF)(ps:List P2)(gs:List Gp)(i:Nat)(σ:St)(H1:Hp):Prop
 | mk(e1 e2 e3 e4 e5 e6:Option V)(_:σ=[some (.ref a),some (.ref b),some (.ref l),e1,e2,e3,e4,e5,e6])(_:ah H H1)(_:rm ps gs i 0 H1 l)
inductive YI(H H0:Hp)(a b l:acF)(nm mk tp:V)(ps:List P2)(gs:List Gp)(i j:Nat)(σ:St)(H1:Hp):Prop
 | mk(e4 e5 e6:Option V)(_:σ=[some (.ref a),some (.ref b),some (.ref l),some nm,some mk,some tp,e4,e5,e6])(_:ah H H1)(_:(∀ b o,b≠l->H0 b=some o->H1 b=some o))(_:rm ps gs i j H1 l)
theorem YJ(T:Tx K mg):Ok P w base 3 T.uD (YH K):=by
 refine bH kF ?_;rintro _ _ _ _ H _ _ _ hr ⟨a,b,xs,ys,ps,gs,rfl,hS,hP,ay,hn,hG,hA,h7,hm,q⟩;refine⟨_,(ar (aL 2 kF.nd (cu ag)) (ar (c6 adl rfl (cB (aa 1)) (j4 rfl (dv (cz 3 kF.nd) (dv (cz 4 kF.nd) jZ))) (ar (aL 5 kF.nd (aJ (YC T) hr (ae (aa 0) (ae (aa 4) ag)))) (au (c6 adl rfl (cB (aa 1)) (j4 rfl (dv (cz 6 kF.nd) (dv (cz 7 kF.nd) jZ))) (ar (aL 8 kF.nd (aJ (YF T) hr (ae (aa 5) (ae (aa 7) ag)))) (au (aH (gK (aa 8)) (au (eI (kW adF aep aeq sD (aa 2) (ae (aN (ae (aN (ae (aa 3) (ae (aw (aw (aa 4) (aw (aa 8) af)) af) ag))) (ae (aN (ae (aa 6) (ae (aw (aw (aa 7) (aw (aa 8) af)) af) ag))) ag))) ag)))) aG))))))) (au (aA (aa 2))))),?_⟩;have yl:=hA.len;refine aC (λσ H1=>∃ l,σ=[some (.ref a),some (.ref b),some (.ref l),none,none,none,none,none,none]/\ah H H1/\H l=none/\H1 l=some (.lst [])) (λN hN=>?_) ?_
 .rfl';exact⟨by decide,λl hl=>hN _ _ ⟨l,rfl,aj hl,hl,aq⟩⟩
 rintro _ yR σ H1 ⟨l,rfl,s1,fl,hl⟩;subst yR;refine aC (λσ H2=>LV H a b l ps gs ys.length σ H2) (λN hN=>?_) ?_
 .rfl';refine⟨⟨_,s1.seq hG⟩,gx (xs:=ys) (LV H a b l ps gs) ⟨_,_,_,_,_,_,rfl,s1,[],[],hl,trivial,ac5 _,λ_ h=>(nomatch h),λ_ _ _ _ _ _ h=>by lia⟩ ?_ ?_ (λσ H' h=>hN _ _ h)⟩
  .rintro i σ H2 _ ⟨_,_,_,_,_,_,_,s2,_⟩;exact s2.seq hG
  .rintro i x σ H2 hx ⟨_,_,_,_,_,_,rfl,s2,h2⟩;obtain⟨r,hr,gg,k,zs,rfl,h3,h4,h5⟩:=hA.get hx;have Eo:=hm r (acM hr);refine n9 (ak.of (s2 _ _ h3)) ?_;rfl';refine⟨a,k,xs,zs,ps,r.2,rfl,s2.seq hS,hP.same s2,ai.of (s2 _ _ h4),h5.imp λ_ _ x=>x.same s2,ay,hn,Eo.1,Eo.2,λtp us ts H3 s3 LW nC YK gW TT=>?_⟩;have S3:=s2.trans s3;rfl';refine⟨⟨_,S3.seq hG⟩,gx (xs:=ys) (YI H H3 a b l (ev r.1) (.ref k) (.ref tp) ps gs i) ⟨_,_,_,rfl,S3,λ_ _ _ e=>e,h2.same s3⟩ ?_ ?_ ?_⟩
   .rintro j σ H4 _ ⟨_,_,_,_,s4,_,_⟩;exact s4.seq hG
   .rintro j y σ H4 hy ⟨_,_,_,rfl,s4,b4,ws,cs,h6,o8,h8,h9,rn⟩;obtain⟨r',ye,gg',k',YL,rfl,g3,g4,g5⟩:=hA.get hy;have Ep:=hm r' (acM ye);obtain⟨ls,_,hls,_⟩:=h2;have YM:tp≠l:=λz=>by rw[z,hls] at LW;cases LW
    have YN:=b4 _ _ YM nC;have jS:=YK.imp λ_ _ x=>YG x (s3 _ _ hls) b4;have nD:∀ yf:List Cl,(∀ i' j' g h,gs[i']?=some g->gs[j']?=some h->(i'<i∨(i'=i/\j'<j))->kz ps g h yf)->kz ps r r' yf->∀ i' j' g h,gs[i']?=some g->gs[j']?=some h->(i'<i∨(i'=i/\j'<j+1))->kz ps g h yf:=λyf YO YQ i' j' g h a1 a2 a3=>by
     by_cases hz:i'=i/\j'=j
     .obtain⟨rfl,rfl⟩:=hz;rw[hr] at a1;rw[ye] at a2;cases a1;cases a2;exact YQ
     .exact YO i' j' g h a1 a2 (by lia)
    refine n9 (ak.of (s4 _ _ g3)) ?_;rfl';refine⟨tp,k',us,YL,ts,r'.2,rfl,ai.of YN,jS,ai.of (s4 _ _ g4),g5.imp λ_ _ x=>x.same s4,λm dq=>by have:=Ep.2 m dq;lia,λbB H5 s5=>?_,λjj m lo v kk e1 e2 e3 e4 p H5 s5 fp hp=>?_⟩
    .rfl';exact⟨_,_,_,rfl,s4.trans s5,λb o hb e=>s5 _ _ (b4 b o hb e),rm.same ⟨ws,cs,h6,o8,by lia,h9,nD cs rn λm m1 n n1 hc=>absurd hc (U3 TT Eo.2 Ep.2 bB m1 n1)⟩ s5⟩
    .obtain⟨i',a',rfl,cW,hc⟩:=TT.clash (Ep.2 m (acM e1)) e3 e2 e4;have vm:=s5 _ _ h6;have S5:=s4.trans s5;obtain⟨v1,tI,t1,w1,rfl,m1,_⟩:=(h5.imp λ_ _ x=>dC.same x S5).at cW;obtain⟨v2,AZ,t2,w2,rfl,m2,_⟩:=(g5.imp λ_ _ x=>dC.same x S5).at e1;rfl';refine⟨.inl ⟨rfl,_,ai.of vm⟩,az (ak.of hp) (v:=.int i') rfl (bQ (ai.of (S5 _ _ h4)) (dH tI) (az (ak.of m1) (v:=.int a'.1) rfl ⟨aW,λp1 gU=>?_⟩))⟩;have u1:=aj (o:=.tup [ev r.1,.int a'.1]) gU;refine az (ak.of (u1 _ _ hp)) (v:=.int jj) rfl (bQ (ai.of (u1 _ _ (S5 _ _ g4))) (dH AZ) (az (ak.of (u1 _ _ m2)) (v:=.int m.1) rfl ⟨aW,λp2 fe=>⟨aW,λp3 vo=>?_⟩⟩));have u2:=aj (o:=.tup [ev r'.1,.int m.1]) fe;have u3:=aj (o:=.tup [.ref p1,.ref p2]) vo;have U:=u1.trans (u2.trans u3);have Er:=U _ _ vm;have cq:dN (upd (upd (upd H5 p1 (.tup [ev r.1,.int a'.1])) p2 (.tup [ev r'.1,.int m.1])) p3 (.tup [.ref p1,.ref p2])) (.ref p3) ((r.1,a'.1),(r'.1,m.1)):=⟨p3,p1,p2,rfl,aq,u3 _ _ (u2 _ _ aq),u3 _ _ aq⟩
     have wl:ws.length<=100:=by have e8:=o8.len;have b1:=(acz.mp hr).1;have b2:=(acz.mp ye).1;lia
     refine⟨ws,Er,adI wl (by decide),_,_,_,rfl,jt fl (S5.trans U),λb o hb e=>by rw[aD hb];exact U _ _ (s5 _ _ (b4 b o hb e)),_,cs++[((r.1,a'.1),(r'.1,m.1))],aq,ax.app (o8.imp λ_ _ x=>(x.same (s5.trans U)).put Er) ⟨cq.put Er,trivial⟩,by rw[ac1,ac8];lia,λc vJ=>?_,nD _ (λi' j' g h a1 a2 a3=>(rn i' j' g h a1 a2 a3).more) λ_ _ _ _ _=>⟨_,ac7 _ (.head _),rfl,rfl⟩⟩;rcases ac4.mp vJ with z|z
     .exact h9 c z
     .rw[ac9.mp z];exact⟨r,acM hr,r',acM ye,a',acM cW,m,acM e1,rfl,hc⟩
   .rintro σ H4 ⟨_,_,_,rfl,s4,_,ws,cs,h6,o8,h8,h9,rn⟩;exact⟨_,_,_,_,_,_,rfl,s4,ws,cs,h6,o8,by lia,h9,λi' j' g h a1 a2 a3=>rn i' j' g h a1 a2 (by have:=(acz.mp a2).1;lia)⟩
 rintro _ yR σ H2 ⟨_,_,_,_,_,_,rfl,s2,ws,cs,h6,o8,h8,h9,rn⟩;subst yR;rfl';exact q l ws cs H2 s2 fl h6 o8 (by lia) h9 λg hg h hh=>by obtain⟨i',cW⟩:=adD.mp hg;obtain⟨j',Ae⟩:=adD.mp hh;exact rn i' j' g h cW Ae (.inl (by have:=(acz.mp cW).1;lia))
theorem LX(h:Q (!decide (o=some e))):neT (.int e) (ev o) Q:=by
 cases o with
 | none=>exact h
 | some x =>
  show if ¬ e=x then Q true else Q false
  by_cases z:e=x
  .subst z;rw[if_neg (λh=>h rfl)];simpa using h
  .rw[if_pos z];have:(some x:En)≠some e:=λh=>z (Option.some.inj h).symm;simpa [this] using h
theorem LY(h:Q (decide (o=o'))):eqT (ev o) (ev o') Q:=by
 cases o with
 | none=>cases o'<;>exact h
 | some x =>
  cases o' with
  | none=>exact h
  | some y =>
   show if x=y then Q true else Q false
   by_cases z:x=y
   .subst z;rw[if_pos rfl];simpa using h
   .rw[if_neg z];have:(some x:En)≠some y:=λh=>z (Option.some.inj h);simpa [this] using h
inductive YR(H:Hp)(v:V)(s:En × Nat):Prop
 | mk(r:acF)(_:v = .ref r)(_:H r=some (.tup [ev s.1,.int s.2]))
theorem ax.ints(h:ax (λv (n:Int)=>v=V.int n) zs ns):zs=ns.map V.int:=by
 induction zs generalizing ns with
 | nil=>cases ns with|nil=>rfl|cons _ _=>exact h.elim
 | cons z zs ih=>cases ns with
  | nil=>exact h.elim
  | cons n ns=>rw[acN,<- ih h.2,h.1]
theorem LZ:∀ {xs ys:List Int},xs.Nodup->(∀ x∈xs,x∈ys)->xs.length<=ys.length
 | [],_,_,_=>ac5 _
 | x::xs,ys,h,k=>by obtain⟨h1,h2⟩:=adC.mp h;have hx:=k x (.head _);have ih:=LZ (ys:=ys.erase x) h2 λy hy=>(aiA (λz=>h1 (by rw[<- z];exact hy))).mpr (k y (.tail _ hy));rw[ahu hx] at ih;have:=ah2 hx;rw[ada];lia
inductive YS(K:acr)(vs:List V)(H:Hp)(Q:VK)(aS:XK):Prop
 | mk(l:acF)(e:Int)(zs:List V)(cs:List Cl)(_:vs=[.ref l,.int e])(_:H l=some (.lst zs))(_:ax (dN H) zs cs)(_:cs.length<=64)(_:∀ r ys H',ah H H'->H r=none->H' r=some (.lst ys)->ax (dN H') ys (wo e cs)->Q (.ref r) H')
theorem L3(T:Tx K mg):Ok P w base 1 T.jJ (YS K):=by
 refine bH DA ?_;rintro _ _ _ _ H _ Q _ hr ⟨l,e,zs,cs,rfl,hl,hC,hn,q⟩;refine⟨_,(au (aA (dm (cO [1] ["eye"]) rfl (cB (aa 0)) (λC s2 H2 ex pn=>⟨(iH (PW.pt (iu (kE (aa 1) (bT (K:=K) (bT (K:=K) (aa 0) af) af)) (jX (kE (aa 1) (bT (K:=K) (bT (K:=K) (aa 0) af) af)))))),(aa 0)⟩)))),?_⟩;have zl:=hC.len;rfl';refine⟨⟨_,ai.of hl⟩,cN iI (acA (by lia:zs.length<=64) (by decide)) (qq (R:=dN H) (R':=dN H) (p:=λc=>!ie e c) (f:=λc=>c) (ai.of hl) hC (λx c r Q h=>?_) (λx c hp r Q h=>?_) λys hy=>?_)⟩
 .obtain⟨t,a,b,rfl,h1,h2,h3⟩:=r;rfl';refine az (ak.of h1) (v:=.ref a) rfl (az (ak.of h2) (v:=ev c.1.1) rfl (LX ?_));unfold ie at h;by_cases z:c.1.1=some e
  .rw[decide_eq_true z] at h ⊢;exact h
  .rw[decide_eq_false z] at h ⊢;refine az (ak.of h1) (v:=.ref b) rfl (az (ak.of h3) (v:=ev c.2.1) rfl (LX ?_));exact h
 .rfl';exact h _ r
 .rw[acT];intro r hr;rw[ail] at hy;exact q r ys _ (aj hr) hr aq (hy.imp λ_ _ x=>x.same (aj hr))
inductive YT(K:acr)(vs:List V)(H:Hp)(Q:VK)(aS:XK):Prop
 | mk(v:V)(c:Cl)(_:vs=[v])(_:dN H v c)(_:∀ l (es:List Int) H',ah H H'->H l=none->H' l=some (.lst (es.map V.int))->(∀ e,e∈es↔ie e c=true)->es.length<=2->Q (.ref l) H')
theorem YU(T:Tx K mg):Ok P w base 1 T.m9 (YT K):=by
 refine bH DB ?_;rintro _ _ _ s H _ Q _ hr ⟨v,c,rfl,⟨t,a,b,rfl,h1,h2,h3⟩,q⟩;refine⟨_,(au (aA (UI rfl (dm (cO [] []) rfl (yW (aa 0)) (λC s2 H2 ex pn=>⟨(iH (gK (bT (K:=K) (aa 0) af))),(bT (K:=K) (aa 0) af)⟩)) (by rfl) T.K7 GP (by rfl) T.K6 JE))),?_⟩;rfl';refine⟨⟨_,ak.of h1⟩,cN (xs:=[.ref a,.ref b]) Hh aW (qq (R:=YR H) (R':=λv (n:Int)=>v=V.int n) (p:=λs=>s.1.isSome) (f:=λs=>s.1.getD 0) (as:=[c.1,c.2]) (ak.of h1) ⟨⟨a,rfl,h2⟩,⟨b,rfl,h3⟩,trivial⟩ (λx s r Q h=>?_) (λx s hp r Q h=>?_) λzs hz=>?_)⟩
 .obtain⟨r,rfl,h4⟩:=r;rfl';refine az (ak.of h4) (v:=ev s.1) rfl ?_;cases hs:s.1 with
  | none=>rw[hs] at h;exact h
  | some x=>rw[hs] at h;exact h
 .obtain⟨r,rfl,h4⟩:=r;rfl';refine az (ak.of h4) (v:=ev s.1) rfl (h _ ?_);cases hs:s.1 with
  | none=>rw[hs] at hp;cases hp
  | some x=>rfl
 .rw[acT];intro l hl;rw[ax.ints hz];have u1:=aj (o:=.lst ((([c.1,c.2].filter λs=>s.1.isSome).map λs=>s.1.getD 0).map V.int)) hl;have hn:(([c.1,c.2].filter λs=>s.1.isSome).map λs=>s.1.getD 0).length<=2:=by rw[acs];exact adb _ _
  have hi:∀ e,e∈(([c.1,c.2].filter λs=>s.1.isSome).map λs=>s.1.getD 0)↔ie e c=true:=λe=>by
   rw[oz];constructor
   .intro h;obtain⟨s,hs,rfl⟩:=acE.mp h;obtain⟨m1,m2⟩:=acZ.mp hs;obtain⟨x,hx⟩:=afN.mp m2;rw[hx];rcases acL.mp m1 with rfl|m1
    .exact .inl hx
    .rw[ac9.mp m1] at hx;exact .inr hx
   .rintro (h|h)
    .exact acE.mpr ⟨c.1,acZ.mpr ⟨.head _,by rw[h];rfl⟩,by rw[h];rfl⟩
    .exact acE.mpr ⟨c.2,acZ.mpr ⟨.tail _ (.head _),by rw[h];rfl⟩,by rw[h];rfl⟩
  refine⟨l,rfl,_,ai.of aq,by lia,λws nd mem _ r hr=>?_⟩;exact q r ws _ (u1.trans (aj hr)) (u1.free hr) aq (λe=>(mem e).trans (hi e)) (acA (LZ nd λx hx=>(mem x).mp hx) hn)
inductive L6(K:acr)(N:Nat)(vs:List V)(H:Hp)(Q:VK)(aS:XK):Prop
 | mk(l:acF)(zs:List V)(cs:List Cl)(n:Nat)(_:vs=[.ref l,.int n])(_:n<N)(_:n<=7)(_:H l=some (.lst zs))(_:ax (dN H) zs cs)(_:cs.length<=64)(_:(∀ H',ah H H'->ia (n+1) cs->Q .non H'))(_:∀ r (es:List Int) H',ah H H'->H r=none->H' r=some (.lst (es.map V.int))->tN es cs->es.length<=n->Q (.ref r) H')
inductive cD(H:Hp)(l:acF)(n:Nat)(cs:List Cl)(es:List Int)(i:Nat)(σ:St)(H1:Hp):Prop
 | mk(e1 e2:Option V)(_:σ=[some (.ref l),some (.int ((n+1:Nat):Int)),e1,e2])(_:ah H H1)(_:∀ e∈es.take i,ia (n+1) (wo e cs))
theorem YV(T:Tx K mg):∀ N,Ok P w base (N+2) T.jK (L6 K N):=by
 intro N
 induction N with
 | zero =>
  refine okN T.jK.F qN.1 (λvs H Q E h=>?_) (λaY A outer s H vs Q E hr h=>?_)
  .obtain⟨l,zs,cs,n,rfl,hN,_⟩:=h;exact absurd hN (aek _)
  .obtain⟨l,zs,cs,n,rfl,hN,_⟩:=h;exact absurd hN (aek _)
 | succ N ih =>
  refine okN T.jK.F qN.1 (λvs H Q E h=>?_) (λaY A outer s H vs Q E hr h=>?_)
  .obtain⟨l,zs,cs,n,rfl,_⟩:=h;rfl
  .obtain⟨l,zs,cs,n,rfl,hN,n7,hl,hC,hn,q0,q⟩:=h;refine⟨_,(ar (aH (bD (bf eK (by rfl) T.dt di (ae (aa 0) ag)) af) (au (aA (cu ag))) aG) (ar (aH (bD (aa 1) af) (au (aA bF)) aG) (ar (c6 adl rfl (cB (bO (YU T) (hr.mono (by lia)) rfl T.m9.m T.m9.F.kp T.m9.b .nil bI (ae (bz bA (aa 0) af (λ_ _=>rfl)) ag))) (gd (i:=2) qN.nd rfl (ago rfl)) (ar (jm (i:=3) qN.nd rfl (ago rfl) (bO ih (hr.mono (by lia)) rfl T.jK.m T.jK.F.kp T.jK.b .nil bI (ae (bO (L3 T) (hr.mono (by lia)) rfl T.jJ.m T.jJ.F.kp T.jJ.b .nil bI (ae (aa 0) (ae (aa 2) ag))) (ae (aE cQ (aa 1) af) ag)))) (au (aH (gK (aa 3)) (au (aA (aE l4 (cu (ae (aa 2) ag)) (aa 3)))) aG)))) (au (aA bF))))),?_⟩;have zl:=hC.len;cases cs with
   | nil =>
    obtain rfl:zs=[]:=aeu.mp zl;rfl';refine⟨_,fE (ai.of hl),?_⟩;rfl';exact⟨by decide,λr hr=>q r [] _ (aj hr) hr aq (λc hc=>(nomatch hc)) (ac5 _)⟩
   | cons c cs =>
    obtain⟨z,zs,rfl⟩:∃ z z',zs=z::z':=by cases zs with|nil=>cases zl|cons z zs=>exact⟨z,zs,rfl⟩
    cases n with
    | zero =>
     rfl';refine⟨_,fE (ai.of hl),?_⟩;refine aV (λh0=>absurd h0 (by rw[ada];lia)) λ_=>?_;rfl';exact q0 _ (ah.refl _) λ_ _=>trivial
    | succ n =>
     rfl';refine⟨_,fE (ai.of hl),?_⟩;refine aV (λh0=>absurd h0 (by rw[ada];lia)) λ_=>aV (λh0=>absurd h0 (by lia)) λ_=>?_;refine bQ (ai.of hl) (v:=z) (show c8 (z::zs) ((0:Nat):Int)=some z from dH rfl) ⟨z,c,rfl,hC.1,λk es H1 s1 _ hk Ak HC=>?_⟩;rfl';refine⟨⟨_,ai.of hk⟩,gx (xs:=es.map V.int) (cD H1 l n (c::cs) es) ⟨_,_,rfl,ah.refl _,λ_ h=>(nomatch h)⟩ ?_ ?_ ?_⟩
     .rintro i σ H2 _ ⟨_,_,rfl,s2,_⟩;exact ai.of (s2 _ _ hk)
     .rintro i x σ H2 hx ⟨e1,e2,rfl,s2,bB⟩;rw[acJ] at hx;obtain⟨e,he,rfl⟩:=adf.mp hx;have S2:=s1.trans s2;rfl';refine⟨l,e,_,c::cs,rfl,S2 _ _ hl,hC.imp λ_ _ x=>x.same S2,hn,λr ys H3 s3 _ hr hy=>?_⟩;refine⟨r,ys,wo e (c::cs),n,by rw[show (((n+1:Nat):Int)-1)=(n:Int) by lia],by lia,by lia,hr,hy,acA (adb _ _) hn,λH4 s4 h4=>?_,λr2 YW H4 s4 f4 o5 YX hle=>?_⟩
      .rfl';refine⟨_,_,rfl,s2.trans (s3.trans s4),λe' qi=>?_⟩;rw[ads,he] at qi;rcases ac4.mp qi with z|z
       .exact bB e' z
       .obtain rfl:e'=e:=by simpa using z
        exact h4
      .rfl';refine⟨by decide,λp hp=>⟨_,aq,_,(aj hp) _ _ o5,acA (by rw[acs,ac8];lia:_<=20) (by decide),λp1 gU=>?_⟩⟩;have W:=s1.trans (s2.trans (s3.trans (s4.trans (aj (o:=.lst [.int e]) hp))));exact q p1 (e::YW) _ (W.trans (aj gU)) (W.free gU) aq (U8 YX) (by rw[ada];lia)
     .rintro σ H2 ⟨e1,e2,rfl,s2,bB⟩;rfl';refine q0 _ (s1.trans s2) λe he=>bB e ?_;rw[acs,adu];exact (Ak e).mpr he
def fV(H:Hp):V->Pp->Prop
 | v,.nil=>v = .non
 | v,.full=>∃ r,v = .ref r/\H r=some (.tup [.str "full"])
 | v,.cls c a b=>∃ r p q x y,v = .ref r/\H r=some (.tup [.str "clash",.ref p,.ref q,x,y])/\H p=some (.tup [ev c.1.1,.int c.1.2])/\H q=some (.tup [ev c.2.1,.int c.2.2])/\fV H x a/\fV H y b
theorem fV.same(s:ah H H'):∀ {t:Pp} {v:V},fV H v t->fV H' v t:=by
 intro t
 induction t with
 | nil=>exact λh=>h
 | full=>rintro _ ⟨r,e,h⟩;exact⟨r,e,s _ _ h⟩
 | cls _ _ _ i1 i2=>rintro _ ⟨r,p,q,x,y,e,h1,h2,h3,h4,h5⟩;exact⟨r,p,q,x,y,e,s _ _ h1,s _ _ h2,s _ _ h3,i1 h4,i2 h5⟩
noncomputable def vq(n:Nat)(cs:List Cl)(o:En):Pp:=match o with|none=>.nil|some e=>mz n (wo e cs)
theorem L8(n:Nat)(c:Cl)(cs:List Cl):mz (n+1) (c::cs) = .cls c (vq n (c::cs) c.1.1) (if c.1.1=c.2.1 then .nil else vq n (c::cs) c.2.1):=rfl
inductive Es(K:acr)(N:Nat)(vs:List V)(H:Hp)(Q:VK)(aS:XK):Prop
 | mk(l:acF)(m:Int)(zs:List V)(cs:List Cl)(n:Nat)(_:vs=[.ref l,.int m])(_:m+1=(n:Int))(_:n<N)(_:H l=some (.lst zs))(_:ax (dN H) zs cs)(_:cs.length<=64)(_:ia n cs)(_:∀ v H',ah H H'->fV H' v (mz n cs)->Q v H')
inductive YY(K:acr)(N:Nat)(vs:List V)(H:Hp)(Q:VK)(aS:XK):Prop
 | mk(l:acF)(m:Int)(o:En)(zs:List V)(cs:List Cl)(n:Nat)(_:vs=[.ref l,ev o,.int m])(_:m=(n:Int))(_:n<N)(_:H l=some (.lst zs))(_:ax (dN H) zs cs)(_:cs.length<=64)(_:(∀ e,o=some e->ia n (wo e cs)))(_:∀ v H',ah H H'->fV H' v (vq n cs o)->Q v H')
theorem L9(T:Tx K mg)(N:Nat)(ih:Ok P w base (2 * N+1) T.i5 (Es K N)):Ok P w base (2 * N+2) T.i4 (YY K N):=by
 refine okN T.i4.F DC.1 (λvs H Q E h=>?_) (λaY A outer s H vs Q E hr h=>?_)
 .obtain⟨l,m,o,zs,cs,n,rfl,_⟩:=h;rfl
 .obtain⟨l,m,o,zs,cs,n,rfl,hm,hN,hl,hC,hn,bB,q⟩:=h;refine⟨_,(au (aA (lV (dO (aa 1)) bF (bO ih (hr.mono (by lia)) rfl T.i5.m T.i5.F.kp T.i5.b .nil bI (ae (bO (L3 T) (hr.mono (by lia)) rfl T.jJ.m T.jJ.F.kp T.jJ.b .nil bI (ae (aa 0) (ae (aa 1) ag))) (ae (aE cQ (aa 2) af) ag)))))),?_⟩;cases o with
  | none =>
   rfl';exact q _ _ (ah.refl _) rfl
  | some e =>
   rfl';refine⟨l,e,zs,cs,rfl,hl,hC,hn,λr ys H1 s1 _ dF hy=>?_⟩;exact⟨r,_,ys,wo e cs,n,rfl,by lia,hN,dF,hy,acA (adb _ _) hn,bB e rfl,λv H2 s2 h2=>q v H2 (s1.trans s2) h2⟩
theorem YZ(T:Tx K mg):∀ N,Ok P w base (2 * N+1) T.i5 (Es K N):=by
 intro N
 induction N with
 | zero =>
  refine okN T.i5.F mJ.1 (λvs H Q E h=>?_) (λaY A outer s H vs Q E hr h=>?_)
  .obtain⟨l,m,zs,cs,n,rfl,hm,hN,_⟩:=h;exact absurd hN (aek _)
  .obtain⟨l,m,zs,cs,n,rfl,hm,hN,_⟩:=h;exact absurd hN (aek _)
 | succ N ih =>
  refine okN T.i5.F mJ.1 (λvs H Q E h=>?_) (λaY A outer s H vs Q E hr h=>?_)
  .obtain⟨l,m,zs,cs,n,rfl,_⟩:=h;rfl
  .obtain⟨l,m,zs,cs,n,rfl,hm,hN,hl,hC,hn,bB,q⟩:=h;refine⟨_,(ar (aH (mG (aa 1) af) (au (aA (aN (ae aR ag)))) aG) (ar (jm (i:=2) mJ.nd rfl (ago rfl) (bz bA (bz bA (aa 0) af (λ_ _=>rfl)) af (λ_ _=>rfl))) (ar (jm (i:=3) mJ.nd rfl (ago rfl) (bz bA (bz bA (aa 0) af (λ_ _=>rfl)) af (λ_ _=>rfl))) (ar (jm (i:=4) mJ.nd rfl (ago rfl) (bO (L9 T N ih) (hr.mono (by lia)) rfl T.i4.m T.i4.F.kp T.i4.b .nil bI (ae (aa 0) (ae (bz bA (aa 2) af (λ_ _=>rfl)) (ae (aa 1) ag))))) (ar (jm (i:=5) mJ.nd rfl (ago rfl) (lV (bD (bz bA (aa 2) af (λ_ _=>rfl)) (bz bA (aa 3) af (λ_ _=>rfl))) bF (bO (L9 T N ih) (hr.mono (by lia)) rfl T.i4.m T.i4.F.kp T.i4.b .nil bI (ae (aa 0) (ae (bz bA (aa 3) af (λ_ _=>rfl)) (ae (aa 1) ag)))))) (au (aA (aN (ae aR (ae (aa 2) (ae (aa 3) (ae (aa 4) (ae (aa 5) ag))))))))))))),?_⟩;have zl:=hC.len;cases n with
   | zero =>
    rfl';refine aV (λ_=>?_) λh0=>absurd (show m<0 by lia) h0;exact⟨by decide,λr hr=>q _ _ (aj hr) ⟨r,rfl,aq⟩⟩
   | succ n =>
    cases cs with
    | nil=>exact bB.elim
    | cons c cs =>
     obtain⟨z,zs,rfl⟩:∃ z z',zs=z::z':=by cases zs with|nil=>cases zl|cons z zs=>exact⟨z,zs,rfl⟩
     obtain⟨t,a,b,rfl,ht,ha,hb⟩:=id hC.1;have z0:c8 (V.ref t::zs) ((0:Nat):Int)=some (.ref t):=dH rfl;rfl';refine aV (λh0=>absurd h0 (by lia)) λ_=>?_;refine bQ (ai.of hl) z0 (az (ak.of ht) (v:=.ref a) rfl ?_);refine bQ (ai.of hl) z0 (az (ak.of ht) (v:=.ref b) rfl (az (ak.of ha) (v:=ev c.1.1) rfl ?_));refine⟨l,m,c.1.1,_,c::cs,n,rfl,by lia,by lia,hl,hC,hn,λe he=>bB e (oz.mpr (.inl he)),λv1 H1 s1 h1=>?_⟩;refine az (ak.of (s1 _ _ ha)) (v:=ev c.1.1) rfl (az (ak.of (s1 _ _ hb)) (v:=ev c.2.1) rfl (LY ?_));rw[L8] at q;by_cases he:c.1.1=c.2.1
     .rw[decide_eq_true he];rw[if_pos he] at q;refine⟨by decide,λp hp=>?_⟩;have u1:=aj (o:=.tup [.str "clash",.ref a,.ref b,v1,.non]) hp;have U:=s1.trans u1;exact q _ _ U ⟨p,a,b,v1,_,rfl,aq,U _ _ ha,U _ _ hb,h1.same u1,rfl⟩
     .rw[decide_eq_false he];rw[if_neg he] at q;refine az (ak.of (s1 _ _ hb)) (v:=ev c.2.1) rfl ⟨l,m,c.2.1,_,c::cs,n,rfl,by lia,by lia,s1 _ _ hl,hC.imp λ_ _ x=>x.same s1,hn,λe he=>bB e (oz.mpr (.inr he)),λv2 H2 s2 h2=>⟨by decide,λp hp=>?_⟩⟩;have u1:=aj (o:=.tup [.str "clash",.ref a,.ref b,v1,v2]) hp;have U:=s1.trans (s2.trans u1);exact q _ _ U ⟨p,a,b,v1,v2,rfl,aq,U _ _ ha,U _ _ hb,h1.same (s2.trans u1),h2.same u1⟩
theorem Y0(T:Tx K mg):Ok P w base 10 T.jK (L6 K 8):=YV T 8
theorem Y1(T:Tx K mg):Ok P w base 19 T.i5 (Es K 9):=YZ T 9
noncomputable def dR:Pp->Nat
 | .nil=>0
 | .full=>1
 | .cls _ a b=>(if dR a<=dR b then dR b else dR a)+1
theorem Ma:∀ (n:Nat) (cs:List Cl),dR (mz n cs)<=n+1
 | 0,_=>acC _
 | n+1,[]=>Nat.le_add_left _ _
 | n+1,c::cs=>by
  have one:∀ o,dR (vq n (c::cs) o)<=n+1:=λo=>by
   cases o with
   | none=>exact ac5 _
   | some e=>exact Ma n _
  have two:dR (if c.1.1=c.2.1 then .nil else vq n (c::cs) c.2.1)<=n+1:=by
   split
   .exact ac5 _
   .exact one _
  rw[L8];show (if _<=_ then _ else _)+1<=n+1+1;have:=one c.1.1;split<;>lia
inductive Et(G H:Hp)(v:V)(sw gw:List W2)(tb:Tb)(mo:Int):Prop
 | nD (r k:acF) (j:Nat) (_:v = .ref r) (_:H r=some (.tup [.str "never",.ref k])) (_:H k=some (.tup [.str "step",.int (j:Int)])) (_:sw[j]?=some none)
 | gol (r k:acF) (j:Nat) (_:v = .ref r) (_:H r=some (.tup [.str "never",.ref k])) (_:H k=some (.tup [.str "at",.int (j:Int)])) (_:gw[j]?=some none)
 | pap (r:acF) (k:V) (t:Pp) (pp:List P2) (gs:List S2) (_:v = .ref r) (_:H r=some (.tup [.str "never",k])) (_:fV H k t) (_:dR t<=9) (_:sw=pp.map gJ) (_:gw=gs.map some) (_:Val pp gs tb mo t [])
 | may (r k:acF) (cs:List Int) (pp:List P2) (gs:List S2) (es:List Int) (_:v = .ref r) (_:H r=some (.tup [.str "may",.ref k])) (_:H k=some (.lst (cs.map V.int))) (_:G k=none) (_:cs.length=gw.length) (_:sw=pp.map gJ) (_:gw=gs.map some) (_:iS pp (bL cs)) (_:∀ t s,gs[t]?=some s->bS s (bL cs t)) (_:(es.length:Int)<=mo) (_:meets (eV tb es) (bL cs))
noncomputable def fW(gs:List S2):List Mk:=(acD gs.length).map λi=>(i,gs.getD i (none,none))
theorem Mb{gs:List S2}{i:Nat}{m:Mk}(h:(fW gs)[i]?=some m):m.1=i/\gs[i]?=some m.2:=by
 unfold fW at h;rw[acJ] at h;obtain⟨k,hk,rfl⟩:=adf.mp h;have hi:i<gs.length:=by
  have:=(acz.mp hk).1
  rwa [acH] at this
 rw[adw hi] at hk;cases hk;exact⟨rfl,by show gs[i]?=some (gs.getD i _);rw[acu,acv hi];rfl⟩
theorem Mc(h:m∈fW gs):m.1<gs.length/\gs[m.1]?=some m.2:=by obtain⟨i,hi⟩:=adD.mp h;obtain⟨e1,e2⟩:=Mb hi;rw[<- e1] at e2;exact⟨(acz.mp e2).1,e2⟩
theorem yg(gs:List S2):(fW gs).length=gs.length:=by unfold fW;rw[acs,acH]
theorem ax.yh:∀ {xs:List V} {as:List α},xs.length=as.length->(∀ (i:Nat) x a,xs[i]?=some x->as[i]?=some a->R x a)->ax R xs as
 | [],[],_,_=>trivial
 | _::_,_::_,h,k=>⟨k 0 _ _ rfl rfl,ax.yh (by simpa using h) λi x a h1 h2=>k (i+1) x a h1 h2⟩
 | [],_::_,h,_=>by cases h
 | _::_,[],h,_=>by cases h
theorem getD_none{ws:List W2}{j:Nat}(h:j<ws.length)(e:afw (ws.getD j none)=true):ws[j]?=some none:=by
 rw[acu,acv h] at e;rw[acv h];cases hw:ws[j] with
 | none=>rfl
 | some s=>rw[hw] at e;cases e
inductive Y2(K:acr)(B C:acF)(vs:List V)(H:Hp)(Q:VK)(E:XK):Prop
 | mk(x p b:acF)(e t u d m:Int)(xs:List V)(ps:List Pa)(tb:Tb)(_:vs=[.ref x,.ref b])(_:cE B H x e t u d m p tb)(_:bK e t tb)(_:tb.length<=60)(_:1<=t)(_:t<=12)(_:0<=e)(_:e<=7)(_:0<=m)(_:m<=7)(_:ai K H b xs)(_:dB H xs ps)(_:ps.length<=900)(_:(¬ dn t ps->E (.ref C) none H))(_:(dn t ps->∀ v H',ah H H'->Et H H' v (dE u d ps (t-1).toNat) (eQ ps t.toNat) tb m->Q v H'))
theorem yi(T:Tx K mg):Ok P w base 20 T.x_ask (Y2 K T.aO T.i9):=by
 refine iY mK ?_;rintro _ _ _ s H vs _ _ hr ⟨x,p,b,e,t,u,d,m,xs,ps,tb,rfl,hb,aP,bP,t1,t2,e0,e7,m0,m7,hX,hP,hn,Q0,Q9⟩;refine⟨_,(ar (aL 2 mK.nd (bO (XN T) hr.m rfl T.mQ.m T.mQ.F.kp T.mQ.b .nil bZ (ae (aa 0) (ae (aa 1) ag)))) (ar (aL 3 mK.nd (bO (XQ T) hr.m rfl T.mR.m T.mR.F.kp T.mR.b .nil bZ (ae (aa 0) (ae (aa 1) ag)))) (ar (aH (kR (Kb (dI hr)) bF (aa 2) (by with_unfolding_all rfl)) (au (aA (aN (ae aR (ae (aN (ae aR (ae (kW adF af3 ahJ (Kc (dI hr)) (aa 2) (ae bF ag)) ag))) ag))))) aG) (ar (aH (kR (Kb (dI hr)) bF (aa 3) (by with_unfolding_all rfl)) (au (aA (aN (ae aR (ae (aN (ae aR (ae (kW adF af3 ahJ (Kc (dI hr)) (aa 3) (ae bF ag)) ag))) ag))))) aG) (ar (aL 4 mK.nd (Vt rfl (by rfl) T.qR (by rfl) T.xK (ae (aa 3) ag))) (ar (aL 5 mK.nd (aJ (YJ T) hr (ae (aa 2) (ae (aE l4 (cu (ae (aN (ae bF (ae (aa 4) ag))) ag)) (aJ (Yd T) hr (ae (aa 0) ag))) ag)))) (ar (aL 6 mK.nd (aJ (Y0 T) hr (ae (aa 5) (ae (bE rfl (aa 0) rfl) ag)))) (ar (aH (dO (aa 6)) (au (aA (aN (ae aR (ae (aJ (Y1 T) hr (ae (aa 5) (ae (bE rfl (aa 0) rfl) ag))) ag))))) aG) (au (aA (aN (ae aR (ae (aJ (Yu T) hr (ae (aa 2) (ae (aE l4 (aa 4) (aJ (Yb T) hr (ae (aa 0) (ae (aa 6) ag)))) ag))) ag))))))))))))),?_⟩;obtain⟨⟨dx,hx⟩,kvs,hkv,hTA⟩:=id hb;have Eu:gT T.aO H x e t u d m p kvs:=⟨⟨dx,hx⟩,hkv⟩
 by_cases hk:dn t ps
 case neg =>
  refine aC (λ_ _=>False) (λN hN=>?_) (λ_ _ _ _ h=>h.elim);rfl';exact⟨x,p,b,e,t,u,d,m,kvs,xs,ps,rfl,Eu,t1,t2,hX,hP,hn,λ_=>Q0 hk,λz=>absurd z hk⟩
 have Q1:=Q9 hk;refine aC (λσ H1=>∃ s ys,σ=[some (.ref x),some (.ref b),some (.ref s),none,none,none,none]/\ah H H1/\H1 s=some (.lst ys)/\ax (gD H1) ys (dE u d ps (t-1).toNat)) (λN hN=>?_) ?_
 .rfl';exact⟨x,p,b,e,t,u,d,m,kvs,xs,ps,rfl,Eu,t1,t2,hX,hP,hn,λz=>absurd hk z,λ_ l ys H1 s1 _ hl hW=>hN _ _ ⟨l,ys,rfl,s1,hl,hW⟩⟩
 rintro _ yR σ H1 ⟨s,ys,rfl,s1,hs,hW⟩;subst yR;refine aC (λσ H2=>∃ gl zs,σ=[some (.ref x),some (.ref b),some (.ref s),some (.ref gl),none,none,none]/\ah H1 H2/\H2 gl=some (.lst zs)/\ax (gD H2) zs (eQ ps t.toNat)) (λN hN=>?_) ?_
 .rfl';exact⟨x,p,b,e,t,u,d,m,kvs,xs,ps,rfl,Eu.same s1,t1,t2,s1.seq hX,hP.same s1,hn,λz=>absurd hk z,λ_ l ys H2 s2 _ hl hW=>hN _ _ ⟨l,ys,rfl,s2,hl,hW⟩⟩
 rintro _ yR σ H2 ⟨gl,zs,rfl,s2,ig,hG⟩;subst yR;have Ew:=s1.trans s2;have cZ:=s2 _ _ hs;have Ex:=hW.imp λ_ _ r=>r.same s2;have wl:(dE u d ps (t-1).toNat).length=(t-1).toNat:=by unfold dE;rw[acs,acH]
 have gw:(eQ ps t.toNat).length=t.toNat:=by unfold eQ;rw[acs,acH]
 have yl:=hW.len;have zl:=hG.len;obtain⟨n1,n2,n3⟩:=A6 Ex;obtain⟨k1,k2,k3⟩:=A6 hG;refine aC (λσ H3=>σ=[some (.ref x),some (.ref b),some (.ref s),some (.ref gl),none,none,none]/\H3=H2/\(dE u d ps (t-1).toNat).any afw=false) (λN hN=>?_) ?_
 .rfl';refine⟨s,ys,rfl,rfl,ai.of cZ,n1,?_⟩;rw[n2];cases hA:(dE u d ps (t-1).toNat).any afw with
  | false =>
   rfl';exact hN _ _ ⟨rfl,rfl,hA⟩
  | true =>
   rfl';obtain⟨j,j1,j2,j3⟩:=A7 (d:=V.non) (n2.trans hA);refine⟨.inl ⟨rfl,_,ai.of cZ⟩,s,ys,j,rfl,rfl,ai.of cZ,n1,j1,by lia,j2,j3,aW,λk jb=>⟨aW,λr hr=>?_⟩⟩;have u1:=aj (o:=.tup [.str "step",.int (j:Int)]) jb;have u2:=aj (o:=.tup [.str "never",.ref k]) hr;rw[n3] at j2;exact Q1 _ _ (Ew.trans (u1.trans u2)) (.nD r k j rfl aq (u2 _ _ aq) (getD_none (by lia) j2))
 rintro _ yR σ H3 ⟨rfl,rfl,hA⟩;subst yR;refine aC (λσ H4=>σ=[some (.ref x),some (.ref b),some (.ref s),some (.ref gl),none,none,none]/\H4=H3/\(eQ ps t.toNat).any afw=false) (λN hN=>?_) ?_
 .rfl';refine⟨gl,zs,rfl,rfl,ai.of ig,k1,?_⟩;rw[k2];cases hB:(eQ ps t.toNat).any afw with
  | false =>
   rfl';exact hN _ _ ⟨rfl,rfl,hB⟩
  | true =>
   rfl';obtain⟨j,j1,j2,j3⟩:=A7 (d:=V.non) (k2.trans hB);refine⟨.inl ⟨rfl,_,ai.of ig⟩,gl,zs,j,rfl,rfl,ai.of ig,k1,j1,by lia,j2,j3,aW,λk jb=>⟨aW,λr hr=>?_⟩⟩;have u1:=aj (o:=.tup [.str "at",.int (j:Int)]) jb;have u2:=aj (o:=.tup [.str "never",.ref k]) hr;rw[k3] at j2;exact Q1 _ _ (Ew.trans (u1.trans u2)) (.gol r k j rfl aq (u2 _ _ aq) (getD_none (by lia) j2))
 rintro _ yR σ H4 ⟨rfl,rfl,hB⟩;subst yR;obtain⟨pp,ep,ay⟩:=Ke (f:=λ(k:Nat)=>fG (none,none) ((some (-d),some u)::sel ps "step" (k:Int))) (λk s h=>U2 h) (acD (t-1).toNat) λk hk e=>Kf hA _ (acE.mpr ⟨k,hk,rfl⟩) e;replace ep:dE u d ps (t-1).toNat=pp.map gJ:=ep;obtain⟨gs,eg⟩:=all_some _ (Kf hB);have ppl:pp.length=(t-1).toNat:=by rw[<- wl,ep,acs]
 have gsl:gs.length=t.toNat:=by rw[<- gw,eg,acs]
 rw[ep] at Ex;have Md:=Kg Ex;have Ey:=hG;rw[eg] at Ey;have M1:∀ mm∈fW gs,mm.1<=pp.length:=λmm hm=>by have:=(Mc hm).1;lia
 have M2:∀ r∈tb,r.1.2.toNat<=pp.length:=λr hr=>by have ho:=aP.2 r hr;unfold kh at ho;lia
 refine aC (λσ H5=>∃ k vs,σ=[some (.ref x),some (.ref b),some (.ref s),some (.ref gl),some (.ref k),none,none]/\ah H4 H5/\H5 k=some (.lst vs)/\ax (dC H5) vs (fW gs)) (λN hN=>?_) ?_
 .rfl';refine⟨zs,ai.of ig,λl vs H5 s5 _ hl Y3 hv=>hN _ _ ⟨l,vs,rfl,s5,hl,ax.yh (by rw[Y3,yg,Ey.len,acs]) λi y mk e1 e2=>?_⟩⟩;obtain⟨f1,f2⟩:=Mb e2;obtain⟨z,hz,rz⟩:=Ey.at (i:=i) (by rw[acJ,f2];rfl);obtain⟨p0,rfl,_,h5⟩:=hv i y z e1 hz;obtain⟨pz,rfl,hpz⟩:=rz;exact⟨p0,pz,rfl,by rw[h5,f1],s5 _ _ hpz⟩
 rintro _ yR σ H5 ⟨k,vs,rfl,s5,hkl,hM⟩;subst yR;have vl:=hM.len;rw[yg] at vl;have S5:=Ew.trans s5;have vn:vs.length<=12:=by lia
 refine aC (λσ H6=>∃ c ws cs,σ=[some (.ref x),some (.ref b),some (.ref s),some (.ref gl),some (.ref k),some (.ref c),none]/\ah H5 H6/\H6 c=some (.lst ws)/\ax (dN H6) ws cs/\cs.length<=64/\xm pp (kA (fW gs) e.toNat tb) cs/\∀ g∈kA (fW gs) e.toNat tb,∀ h∈kA (fW gs) e.toNat tb,kz pp g h cs) (λN hN=>?_) ?_
 .rfl';refine⟨aW,λt0 Y4=>⟨by decide,λl0 eY=>?_⟩⟩;have u1:=aj (o:=.tup [.non,.ref k]) Y4;have u2:=aj (o:=.lst [.ref t0]) eY;have U:=u1.trans u2;refine⟨x,p,e,t,u,d,m,tb,rfl,hb.same (S5.trans U),aP.1,by lia,λr hr=>(aP.2 r hr).2.1,e0,e7,λl ws H6 s6 _ hl Me=>?_⟩;have Mf:=Me.len;unfold tM at Mf;rw[acs,acs,acH] at Mf;refine⟨l,rfl,[.ref t0],s6 _ _ aq,ws,hl,acA (by show 1+ws.length<=30;lia) (by decide),λc hc=>?_⟩;have u3:=aj (o:=.lst ([.ref t0]++ws)) hc;have S6:=s5.trans (U.trans (s6.trans u3));refine⟨s,c,ys,.ref t0::ws,pp,kA (fW gs) e.toNat tb,rfl,ai.of (S6 _ _ cZ),Md.same S6,ay,by lia,ai.of aq,⟨⟨t0,k,vs,rfl,(u2.trans (s6.trans u3)) _ _ aq,(U.trans (s6.trans u3)) _ _ hkl,hM.imp λ_ _ r=>r.same (U.trans (s6.trans u3))⟩,Me.imp λ_ _ r=>r.same u3⟩,?_,λg hg=>?_,λl7 Y5 Y6 H7 s7 _ a1 a2 a3 a4 a5=>hN _ _ ⟨l7,Y5,Y6,rfl,U.trans (s6.trans (u3.trans s7)),a1,a2,a3,a4,a5⟩⟩
  .unfold kA tM;rw[ada,acs,acs,acH];lia
  .rcases acL.mp hg with rfl|z
   .exact⟨by show (fW gs).length<=1000;rw[yg];lia,M1⟩
   .obtain⟨g1,oy,rfl⟩:=acE.mp z;obtain⟨i,_,rfl⟩:=acE.mp oy;refine⟨acA (by unfold dM;rw[acs];exact acA (adb _ _) (by rw[lp];exact acC _)) (by lia:tb.length<=1000),λmm dq=>?_⟩;obtain⟨r,hr,_,rfl⟩:=A8.mp dq;exact M2 r hr
 rintro _ yR σ H6 ⟨c,ws,cs,rfl,s6,hc,hC,bq,hsnd,sO⟩;subst yR;have S6:=S5.trans s6;refine aC (λσ H7=>∃ av,σ=[some (.ref x),some (.ref b),some (.ref s),some (.ref gl),some (.ref k),some (.ref c),some av]/\ah H6 H7/\((av = .non/\ia (m.toNat+1) cs) ∨ ∃ f es,av = .ref f/\H7 f=some (.lst (es.map V.int))/\tN es cs/\es.length<=m.toNat)) (λN hN=>?_) ?_
 .rfl';refine⟨_,_,_,S6 _ _ hx,T.bw,T.qY,_,rfl,?_⟩;exact⟨c,ws,cs,m.toNat,by rw[ae7 m0],by lia,by lia,hc,hC,bq,λH7 s7 h7=>hN _ _ ⟨_,rfl,s7,.inl ⟨rfl,h7⟩⟩,λr es H7 s7 _ hr h1 h2=>hN _ _ ⟨_,rfl,s7,.inr ⟨r,es,rfl,hr,h1,h2⟩⟩⟩
 rintro _ yR σ H7 ⟨av,rfl,s7,⟨rfl,bB⟩|⟨f,es,rfl,hf,hcov,hle⟩⟩<;>subst yR
 .have S7:=S6.trans s7;rfl';refine⟨_,_,_,S7 _ _ hx,T.bw,T.qY,_,rfl,?_⟩;refine⟨c,m,ws,cs,m.toNat+1,rfl,by lia,by lia,s7 _ _ hc,hC.imp λ_ _ r=>r.same s7,bq,bB,λv H8 s8 h8=>⟨aW,λz hz=>?_⟩⟩;have u1:=aj (o:=.tup [.str "never",v]) hz;exact Q1 _ _ (S7.trans (s8.trans u1)) (.pap z v _ pp gs rfl aq (h8.same u1) (acA (Ma _ _) (by lia)) ep eg (Ki _ _ _ bB (by rw[aej];lia) (snd_mk aP (λmm hm=>(Mc hm).2) hsnd)))
 .have S7:=S6.trans s7;have M3:∀ mm∈fW gs++eV tb es,mm.1<=pp.length:=λmm hm=>by
   rcases ac4.mp hm with z|z
   .exact M1 mm z
   .obtain⟨r,hr,_,rfl⟩:=A9.mp z;exact M2 r hr
  have Y7:=U9 aP ay M3 hcov sO;rfl';refine⟨x,p,f,e,t,u,d,m,tb,es,rfl,hb.same S7,aP.1,by lia,λr hr=>(aP.2 r hr).2.1,ai.of hf,by lia,λr rs H8 s8 hr rq=>⟨r,rfl,vs,(s6.trans (s7.trans s8)) _ _ hkl,rs,hr,?_,λk2 kC=>?_⟩⟩
  .replace rq:ax (dC H8) rs (eV tb es):=rq;have e1:=rq.len;have e2:(eV tb es).length<=tb.length:=by unfold eV;rw[acs];exact acA (adb _ _) (by rw[lp];exact acC _)
   exact acA (by lia:_<=100) (by decide)
  replace rq:ax (dC H8) rs (eV tb es):=rq;have u1:=aj (o:=.lst (vs++rs)) kC;have W:=s5.trans (s6.trans (s7.trans (s8.trans u1)));have X8:=S7.trans (s8.trans u1);have ml:(fW gs++eV tb es).length<=1000:=by
   rw[ac1,yg];have e2:(eV tb es).length<=tb.length:=by unfold eV;rw[acs];exact acA (adb _ _) (by rw[lp];exact acC _)
   lia
  refine⟨s,k2,ys,vs++rs,pp,fW gs++eV tb es,rfl,ai.of (W _ _ cZ),Md.same W,ai.of aq,ax.app (hM.imp λ_ _ r=>r.same (s6.trans (s7.trans (s8.trans u1)))) (rq.imp λ_ _ r=>r.same u1),ay,by lia,ml,M3,λbB=>absurd Y7 bB,λl9 co H9 s9 f9 Y8 acp fk Mg=>⟨aW,λz hz=>?_⟩⟩;have u9:=aj (o:=.tup [.str "may",.ref l9]) hz;refine Q1 _ _ (X8.trans (s9.trans u9)) (.may z l9 co pp gs es rfl aq (u9 _ _ Y8) (X8.free f9) (by lia) ep eg fk (λtt ss hh=>?_) (by lia) λmm hm=>Mg mm (ac7 _ hm));refine Mg (tt,ss) (aes _ (adD.mpr ⟨tt,?_⟩));have Y9:=(acz.mp hh).1;unfold fW;rw[acJ,adw Y9];show some (tt,gs.getD tt _)=_;rw[acu,hh];rfl
theorem Ez(f:P2->Int):∀ {n:Nat},i+n<=ps.length->((acD n).map λk=>f (aF ps (i+k))).sum=pre f ps (i+n)-pre f ps i
 | 0,_=>by simp
 | n+1,h=>by rw[akl,aec,akd,Ez f (by lia),show i+(n+1)=i+n+1 by lia,gE _ _ (by lia)];simp only[acN,ae3,ahE,akZ];lia
theorem Mh{H:Hp}{ps:List P2}{i n:Nat}{f:P2->Int}{te:TE}{ρ:St}{Q:VK}(h9:n<=900)(he:∀ k:Nat,k<n->∀ Q:VK,Q (.int (f (aF ps (i+k)))) H->te (some (.int ((i:Int)+(k:Nat)))::ρ) H Q)
 (q:∀ l,H l=none->Q (.ref l) (upd H l (.lst (((acD n).map λk=>f (aF ps (i+k))).map V.int)))):l8 (iz (i:Int) n) ρ zH te H Q:=by
 refine cN iJ (by rw[acs,acH];exact acA h9 (by decide)) (k6 (R:=λx (k:Nat)=>x=V.int ((i:Int)+(k:Nat))) (as:=acD n) (p:=λ_=>true) (f:=λk=>.int (f (aF ps (i+k)))) trivial ?_ (λ_ _ _ _ Q h=>h) (λx k hk _ r Q h=>?_) ?_)
 .exact ax.yh (by rw[acs]) λj x a h1 h2=>by rw[acJ,h2] at h1;cases h1;rfl
 .subst r;exact he k (acY.mp hk) Q h
 .rw[acT,aeF.mpr λ_ _=>rfl];rw[ado] at q;exact q
inductive Za(K:acr)(vs:List V)(H:Hp)(Q:VK)(aS:XK):Prop
 | mk(s:acF)(zs:List V)(ps:List P2)(i j:Nat)(_:vs=[.ref s,.int i,.int j])(_:ai K H s zs)(_:bR H zs ps)(_:ps.length<=900)(_:i<=ps.length)(_:j<=ps.length)(_:∀ H',ah H H'->Q (.int (bJ ps i j)) H')
theorem Zb(T:Tx K mg):Ok P w base 1 T.nu (Za K):=by
 refine bH xH ?_;rintro _ _ _ s H _ Q _ _ ⟨s,zs,ps,i,j,rfl,hs,hP,h9,hi,hj,q⟩;refine⟨_,(ar (aL 3 xH.nd (bf (HD rfl) (by rfl) T.K8 GR (ae (dm (cO [0] ["_law_steps"]) rfl (rT rfl T.eX (ae (aa 1) (ae (aa 2) ag))) (λC s2 H2 ex pn=>⟨dz,(bT (K:=K) (bT (K:=K) (aa 1) (aa 0)) af)⟩)) ag))) (au (aA (aE cQ (aa 3) (bf (HD rfl) (by rfl) T.K8 GR (ae (dm (cO [0] ["_law_steps"]) rfl (rT rfl T.eX (ae (aa 2) (ae (aa 1) ag))) (λC s2 H2 ex pn=>⟨dz,(bT (K:=K) (bT (K:=K) (aa 1) (aa 0)) af)⟩)) ag)))))),?_⟩;have hl:=hP.len;have row:∀ (H':Hp) (k:Nat),ah H H'->k<ps.length->∃ p,c8 zs (k:Int)=some (.ref p)/\H' p=some (.tup [.int (aF ps k).1,.int (aF ps k).2]):=λH' k s' hk=>by obtain⟨v,hv,p,rfl,hp⟩:=hP.at (acv (l:=ps) (i:=k) hk);refine⟨p,dH hv,?_⟩;rw[show ps[k]=aF ps k by unfold aF;rw[acu,acv hk];rfl] at hp;exact s' _ _ hp
 rfl';refine⟨by lia,by lia,by lia,by lia,Mh (ps:=ps) (f:=λp=>p.2) (by lia) (λk hk Q h=>?_) λl qA=>?_⟩
 .obtain⟨p,e,hp⟩:=row H (i+k) (ah.refl _) (by lia);rfl';exact bQ hs (by rw[<- e];congr 1) (az (ak.of hp) rfl h)
 have u1:=aj (o:=.lst (((acD (((j:Int)-(i:Int)).toNat)).map λk=>(aF ps (i+k)).2).map V.int)) qA;refine⟨l,rfl,_,ai.of aq,by lia,by lia,by lia,by lia,Mh (ps:=ps) (f:=λp=>p.1) (by lia) (λk hk Q h=>?_) λl2 bh=>?_⟩
 .obtain⟨p,e,hp⟩:=row _ (j+k) u1 (by lia);rfl';exact bQ (u1.seq hs) (by rw[<- e];congr 1) (az (ak.of hp) rfl h)
 refine⟨l2,rfl,_,ai.of aq,?_⟩;have fin:=q _ (u1.trans (aj (o:=.lst (((acD (((i:Int)-(j:Int)).toNat)).map λk=>(aF ps (j+k)).1).map V.int)) bh));have e:bJ ps i j=((acD (((j:Int)-(i:Int)).toNat)).map λk=>(aF ps (i+k)).2).sum-((acD (((i:Int)-(j:Int)).toNat)).map λk=>(aF ps (j+k)).1).sum:=by
  unfold bJ;by_cases gA:i<=j
  .rw[if_pos gA,show ((i:Int)-(j:Int)).toNat=0 by lia,Ez (λp=>p.2) (by lia),show i+((j:Int)-(i:Int)).toNat=j by lia];simp
  .rw[if_neg gA,show ((j:Int)-(i:Int)).toNat=0 by lia,Ez (λp=>p.1) (by lia),show j+((i:Int)-(j:Int)).toNat=i by lia];simp;lia
 rw[e] at fin;exact fin
inductive Zc(K:acr)(vs:List V)(H:Hp)(Q:VK)(aS:XK):Prop
 | mk(v:V)(w a b z:acF)(e t u d mo:Int)(zs:List V)(gs:List S2)(tb:Tb)(as:List Int)(s:En × Nat)(m:Mk)(_:vs=[v,.ref b,.ref a,.ref z])(_:fU H v w e t u d mo tb)(_:(tb.map (·.1)).Nodup)(_:H a=some (.tup [ev s.1,.int (s.2:Int)]))(_:ai K H b zs)(_:ax (λv x=>aM H v x.1 x.2) zs gs)(_:(∀ x∈gs,aX x.1 x.2=false))(_:H z=some (.lst (as.map V.int)))(_:jE gs tb as s m)(_:(∀ r∈tb,r.1.2.toNat<gs.length))(_:∀ v,aM H v m.2.1 m.2.2->Q v H)
theorem Mi(T:Tx K mg):Ok P w base 2 T.jN (Zc K):=by
 refine bH DR ?_;rintro _ _ _ _ _ _ _ _ hr ⟨v,w,a,b,z,e,t,u,d,mo,zs,gs,tb,as,⟨o,k⟩,⟨k2,wd⟩,rfl,⟨r,rfl,hR,hT⟩,de,ha,hb,hG,fk,hz,⟨hk,hm⟩,bb,q⟩;refine⟨_,(ar (aH (PW.pt (cU (cF (cy (bf nX (by rfl) T.oP nW (ae (aa 2) (ae (nJ (v:=.ty "tuple") rfl T.DU zB rfl) ag))))) (e9 (kE (bf eK (by rfl) T.dt di (ae (aa 2) ag)) af)))) (au (aA bF)) aG) (ar (aH (PW.pt (cU (cF (cy (aJ (q8 T) hr (ae (aw (aa 2) af) ag)))) (cU (mG (aw (aa 2) af) af) (e9 (Bj (aw (aa 2) af) (bf eK (by rfl) T.dt di (ae (aa 1) ag))))))) (au (aA bF)) aG) (ar (aH (dO (aw (aa 2) af)) (ar (aH (cy (aJ (D4 T) hr (ae (aw (aa 1) (aw (aa 2) af)) ag))) (au (aA bF)) aG) (au (aA (aw (aa 1) (aw (aa 2) af))))) aG) (ar (aH (PW.pt (cU (cF (cy (aJ (q8 T) hr (ae (aw (aa 2) af) ag)))) (cU (kR Pd (aw (aa 2) af) (aa 3) (by with_unfolding_all rfl)) (e9 (rN (Aj (dI hr) (aa 2) (aw (aa 0) af))))))) (au (aA bF)) aG) (au (aA (qh (dI hr) (aw (aa 0) af) (aa 2) (λ_ _=>rfl)))))))),?_⟩;obtain rfl:k2=k:=hk;have ig:=hG.len;have fq:k2<zs.length:=by
  cases o with
  | none =>
   have:=(acz.mp (show gs[k2]?=some wd from hm)).1;lia
  | some x =>
   have:=bb _ hm.2;rw[adt] at this;lia
 rfl';refine zD ha ?_;rfl';refine⟨_,nY (ak.of ha),?_⟩;rfl';refine az (ak.of ha) (v:=.int k2) rfl ⟨_,rfl,.inr ⟨_,rfl⟩,?_⟩;simp only[isWhole];rfl';refine az (ak.of ha) (v:=.int k2) rfl ?_;rfl';refine aV (λh0=>absurd h0 (by lia)) λ_=>az (ak.of ha) (v:=.int k2) rfl ⟨_,fE hb,?_⟩;rfl';refine aV (λh0=>absurd h0 (by lia)) λ_=>az (ak.of ha) (v:=ev o) rfl ?_;cases o with
 | none =>
  obtain⟨v,hv,pz,rfl,hp⟩:=hG.at (i:=k2) (a:=wd) hm;rfl';refine az (ak.of ha) (v:=.int k2) rfl (bQ hb (dH hv) ⟨pz,wd.1,wd.2,rfl,ak.of hp,?_⟩);rw[fk wd (adD.mpr ⟨_,hm⟩)];rfl';exact az (ak.of ha) (v:=.int k2) rfl (bQ hb (dH hv) (q _ ⟨pz,rfl,hp⟩))
 | some e =>
  rfl';refine az (ak.of ha) (v:=.int e) rfl ⟨_,rfl,.inr ⟨_,rfl⟩,?_⟩;simp only[isWhole];rfl';refine az (ak.of ha) (v:=.int e) rfl ?_;rfl';obtain⟨Bm,bU⟩:e∉as/\((e,((k2:Nat):Int)),wd)∈tb:=hm;obtain⟨kvs,hkv,hA⟩:=id hT;obtain⟨vv,hvv,va,rfl,hva⟩:=(hA.val (e,((k2:Nat):Int))).2 _ (iO de bU);refine⟨z,_,rfl,.inl (ai.of hz),rfl,Js as,⟨_,rfl,?_⟩⟩;rw[AK];refine aV (λh0=>absurd h0 (by simpa using Bm)) λ_=>?_;refine az (ak.of hR) (v:=.ref w) rfl ?_;rfl';refine⟨_,eh.t (k:=spot e (k2:Int)) hkv ha,?_⟩;rw[hvv];refine aV (λh0=>nomatch h0) λ_=>?_;refine az (ak.of hR) (v:=.ref w) rfl ?_;exact⟨w,rfl,.ref va,by rw[<- hvv];exact eh.t (k:=spot e (k2:Int)) hkv ha,q _ ⟨va,rfl,hva⟩⟩
inductive Zd(K:acr)(vs:List V)(H:Hp)(Q:VK)(aS:XK):Prop
 | mk(v:V)(w c:acF)(e t u d m:Int)(tb:Tb)(cs:List Int)(_:vs=[v,.ref c])(_:fU H v w e t u d m tb)(_:1<=t)(_:t<=12)(_:bK e t tb)(_:tb.length<=60)(_:H c=some (.lst (cs.map V.int)))(_:cs.length=t.toNat)(_:(∀ k,k+1<cs.length->-d<=dr cs (k+1)-dr cs k/\dr cs (k+1)-dr cs k<=u))(_:(∀ zs:List Int,zs.Nodup->(∀ i,i∈zs↔Ee tb cs i)->(zs.length:Int)<=m))(_:∀ H',ah H H'->Q (.bl true) H')
inductive yj(H:Hp)(v:V)(c:acF)(_:Nat)(σ:St)(H1:Hp):Prop
 | mk(e1:Option V)(_:σ=[some v,some (.ref c),e1])(_:ah H H1)
theorem Mj(T:Tx K mg):Ok P w base 3 T.uL (Zd K):=by
 refine bH xG ?_;rintro _ _ _ _ H _ Q _ hr ⟨v,w,c,e,t,u,d,m,tb,cs,rfl,hW,t1,t2,ay,bP,hc,bq,cG,my,q⟩;refine⟨_,(ar (aH (PW.pt (cU (cF (cy (bf nX (by rfl) T.oP nW (ae (aa 1) (ae (nJ (v:=.ty "list") rfl T.qR pO rfl) ag))))) (e9 (kE (bf eK (by rfl) T.dt di (ae (aa 1) ag)) (aw (aa 0) af))))) (au (aA dU)) aG) (ar (aH (cF (cy (bf (wD rfl) (by rfl) T.xJ v8 (ae (dm (cO [] []) rfl (cB (aa 1)) (λC s2 H2 ex pn=>⟨dz,(aJ (q8 T) hr (ae (aa 0) ag))⟩)) ag)))) (au (aA dU)) aG) (ar (c6 adl rfl (g9 rfl T.eX (ae (aE cQ (aw (aa 0) af) af) ag)) (cz 2 xG.nd) (au (aH (cF (cy (aJ (xV T) hr (ae (aN (ae (aE cQ af (aw (aa 0) af)) (ae (aw (aa 0) af) ag))) (ae (aE cQ (aw (aa 1) (aE bC (aa 2) af)) (aw (aa 1) (aa 2))) ag))))) (au (aA dU)) aG))) (au (aA (fv (iW fu) (aJ (X4 T) hr (ae (aa 0) (ae (aa 1) ag))) (aw (aa 0) af) (c7 _))))))),?_⟩;obtain⟨r,rfl,hR,hT⟩:=id hW;refine aC (yj H (.ref r) c 0) (λN hN=>?_) ?_
 .rfl';refine GU hc ?_;rfl';refine⟨_,fE (ai.of hc),az (ak.of hR) (v:=.int t) rfl ?_⟩;rw[acs,bq];rfl';rw[if_neg (λz=>z (by lia))];exact hN _ _ ⟨_,rfl,ah.refl _⟩
 rintro _ yR σ H1 ⟨e1,rfl,s1⟩;subst yR;refine aC (yj H (.ref r) c 0) (λN hN=>?_) ?_
 .rfl';refine⟨⟨_,ai.of (s1 _ _ hc)⟩,cN iI (acA (by rw[acs];lia:(cs.map V.int).length<=100) (by decide)) (k6 (R:=λx (n:Int)=>x=V.int n) (as:=cs) (p:=λ_=>true) (f:=λ_=>.bl true) (ai.of (s1 _ _ hc)) ?_ (λ_ _ _ _ Q h=>h) (λx n _ _ r Q h=>?_) λl hl=>?_)⟩
  .exact ax.yh (by rw[acs]) λj x a h1 h2=>by rw[acJ,h2] at h1;cases h1;rfl
  .subst r;rfl';refine⟨_,rfl,.inr ⟨_,rfl⟩,?_⟩;simp only[isWhole];exact h
  .rw[acT,aeF.mpr λ_ _=>rfl];refine⟨l,rfl,cs.map λ_=>true,ai.of (by rw[aq,ado];rfl),?_⟩;rw[if_neg (by simp)];exact hN _ _ ⟨_,rfl,s1.trans (aj hl)⟩
 rintro _ yR σ H2 ⟨e1,rfl,s2⟩;subst yR;refine aC (yj H (.ref r) c 0) (λN hN=>?_) ?_
 .rfl';refine az (ak.of (s2 _ _ hR)) (v:=.int t) rfl ?_;rfl';refine⟨by lia,by lia,sG (yj H (.ref r) c) ⟨_,rfl,s2⟩ ?_ (λσ H3 ⟨e1,h1,h2⟩=>hN _ _ ⟨e1,h1,h2⟩)⟩;rintro i σ H3 hi ⟨e1,rfl,s3⟩;rfl';refine az (ak.of (s3 _ _ hR)) (v:=.int d) rfl (az (ak.of (s3 _ _ hR)) (v:=.int u) rfl ⟨aW,λp hp=>?_⟩);have u4:=aj (o:=.tup [.int (0-d),.int u]) hp;have S4:=s3.trans u4;have bi:i+1<cs.length:=by lia
  refine bQ (ai.of (S4 _ _ hc)) (int_at (by lia) (by lia)) (bQ (ai.of (S4 _ _ hc)) (int_at (by lia) (by lia)) ⟨p,some (0-d),some u,_,rfl,ak.of aq,?_⟩);have hs:=cG i bi;unfold dr at hs;rw[show ((0:Int)+(i:Int)+1).toNat=i+1 by lia,show ((0:Int)+(i:Int)).toNat=i by lia,gC.mpr ⟨λx hx=>by cases hx;lia,λx hx=>by cases hx;lia⟩];rfl';exact⟨_,rfl,S4⟩
 rintro _ yR σ H3 ⟨e1,rfl,s3⟩;subst yR;rfl';refine⟨.ref r,w,c,e,t,u,d,m,tb,cs,rfl,hW.same s3,ay,bP,ai.of (s3 _ _ hc),bq,λzs H4 s4 hz hm=>?_⟩;rfl';refine az (ak.of ((s3.trans s4) _ _ hR)) (v:=.int m) rfl ?_;rfl';rw[decide_eq_true (my zs hz hm)];exact q _ (s3.trans s4)
noncomputable def gX(s:S2):W2:=if aX s.1 s.2=true then none else some s
theorem Ze(h:gX s=some x):s=x/\aX s.1 s.2=false:=by
 unfold gX at h;split at h
 .cases h
 .rename_i hc;exact⟨Option.some.inj h,by simpa using hc⟩
theorem Ml(h:gX s=none):aX s.1 s.2=true:=by
 unfold gX at h;split at h
 .rename_i hc;exact hc
 .cases h
theorem EA:∀ {gs:List S2} {fs:List S2},gs.map gX=fs.map some->gs=fs/\∀ x∈gs,aX x.1 x.2=false
 | [],[],_=>⟨rfl,λ_ h=>nomatch h⟩
 | [],_::_,h=>nomatch h
 | _::_,[],h=>nomatch h
 | g::gs,f::fs,h=>by
  obtain⟨h1,h2⟩:=List.cons.inj h;obtain⟨rfl,h3⟩:=Ze h1;obtain⟨rfl,h4⟩:=EA h2;refine⟨rfl,λx hx=>?_⟩;rcases acL.mp hx with rfl|hx
  .exact h3
  .exact h4 x hx
theorem Zf(h:ax (λv x=>aM H v x.1 x.2) ys sl)(e:sl.map gX=pp.map gJ):bR H ys pp/\(∀ x∈sl,aX x.1 x.2=false)/\sl.length=pp.length:=by obtain⟨rfl,h2⟩:=EA (fs:=pp.map λp=>(some p.1,some p.2)) (by rw[e,ado];rfl);refine⟨?_,h2,by rw[acs]⟩;exact (ax.bind h:ax (λv (p:P2)=>aM H v (some p.1) (some p.2)) ys pp)
inductive rA(H:Hp)(wv:V)(w s gl:acF)(sl gs:List S2)(e t u d m:Int)(tb:Tb):Prop
 | mk(ys zs:List V)(_:fU H wv w e t u d m tb)(_:H s=some (.lst ys))(_:ax (λv x=>aM H v x.1 x.2) ys sl)(_:H gl=some (.lst zs))(_:ax (λv x=>aM H v x.1 x.2) zs gs)(_:gs.length=sl.length+1)(_:sl.length<=900)(_:(tb.map (·.1)).Nodup)(_:∀ r∈tb,r.1.2.toNat<=sl.length)
theorem rA.same(h:rA H wv w s gl sl gs e t u d m tb)(x:ah H H'):rA H' wv w s gl sl gs e t u d m tb:=let ⟨ys,zs,a,b,c,d,e,f,g,i,j⟩:=h;⟨ys,zs,a.same x,x _ _ b,c.imp λ_ _ r=>r.same x,x _ _ d,e.imp λ_ _ r=>r.same x,f,g,i,j⟩
inductive jc(H:Hp)(v:V)(sw gw:List W2)(tb:Tb)(m:Int)(as:List Int)(N:Nat):Prop
 | nD (k:acF) (j:Nat) (_:v = .ref k) (_:H k=some (.tup [.str "step",.int (j:Int)])) (_:sw[j]?=some none)
 | gol (k:acF) (j:Nat) (_:v = .ref k) (_:H k=some (.tup [.str "at",.int (j:Int)])) (_:gw[j]?=some none)
 | pap (t:Pp) (pp:List P2) (gs:List S2) (_:fV H v t) (_:dR t<N) (_:sw=pp.map gJ) (_:gw=gs.map some) (_:Val pp gs tb m t as)
theorem jc.same{H H':Hp}{v:V}{sw gw:List W2}{tb:Tb}{m:Int}{as:List Int}{N:Nat}(h:jc H v sw gw tb m as N)(s:ah H H'):jc H' v sw gw tb m as N:=by
 rcases h with ⟨k,j,e,h1,h2⟩|⟨k,j,e,h1,h2⟩|⟨t,pp,gs,h1,h2,h3,h4,h5⟩
 .exact .nD k j e (s _ _ h1) h2
 .exact .gol k j e (s _ _ h1) h2
 .exact .pap t pp gs (h1.same s) h2 h3 h4 h5
inductive yk(K:acr)(N:Nat)(vs:List V)(H:Hp)(Q:VK)(aS:XK):Prop
 | mk(wv v:V)(w s gl z:acF)(e t u d m:Int)(sl gs:List S2)(tb:Tb)(as:List Int)(_:vs=[wv,.ref s,.ref gl,v,.ref z])(_:0<N)(_:N<=10)(_:rA H wv w s gl sl gs e t u d m tb)(_:H z=some (.lst (as.map V.int)))(_:as.length+N<=30)(_:jc H v (sl.map gX) (gs.map gX) tb m as N)(_:∀ H',ah H H'->Q (.bl true) H')
def Mm(pp:List P2)(fs:List S2)(tb:Tb)(m:Int)(a:Pp)(as:List Int)(o:En):Prop:=match o with|none=>a = .nil|some e=>Val pp fs tb m a (as++[e])
inductive Mn(K:acr)(N:Nat)(vs:List V)(H:Hp)(Q:VK)(aS:XK):Prop
 | mk(wv v:V)(w s gl z:acF)(e t u d m:Int)(sl gs fs:List S2)(pp:List P2)(tb:Tb)(as:List Int)(o:En)(a:Pp)(_:vs=[wv,.ref s,.ref gl,v,ev o,.ref z])(_:N<=10)(_:rA H wv w s gl sl gs e t u d m tb)(_:H z=some (.lst (as.map V.int)))(_:as.length+1+N<=30)(_:fV H v a)(_:dR a<N)(_:sl.map gX=pp.map gJ)(_:gs.map gX=fs.map some)(_:Mm pp fs tb m a as o)(_:∀ H',ah H H'->Q (.bl true) H')
inductive Zg(K:acr)(N:Nat)(vs:List V)(H:Hp)(Q:VK)(aS:XK):Prop
 | mk(wv v:V)(w s gl z:acF)(e t u d m:Int)(sl gs fs:List S2)(pp:List P2)(tb:Tb)(as:List Int)(c:Cl)(a b:Pp)(_:vs=[wv,.ref s,.ref gl,v,.ref z])(_:N<=10)(_:rA H wv w s gl sl gs e t u d m tb)(_:H z=some (.lst (as.map V.int)))(_:as.length+1+N<=30)(_:fV H v (.cls c a b))(_:dR a<N)(_:dR b<N)(_:sl.map gX=pp.map gJ)(_:gs.map gX=fs.map some)(_:Val pp fs tb m (.cls c a b) as)(_:∀ H',ah H H'->Q (.bl true) H')
theorem Mo(T:Tx K mg)(N:Nat)(ih:Ok P w base (3 * N+3) T.ij (yk K N)):Ok P w base (3 * N+4) T.i7 (Mn K N):=by
 refine okN T.i7.F DS.1 (λvs H Q E h=>?_) (λaY A outer s H vs Q E hr h=>?_)
 .obtain⟨wv,v,w,s,gl,z,e,t,u,d,m,sl,gs,fs,pp,tb,as,o,a,rfl,_⟩:=h;rfl
 .obtain⟨wv,v,w,s,gl,z,e,t,u,d,m,sl,gs,fs,pp,tb,as,o,a,rfl,hN,hK,hz,hl,ha,la,e1,e2,hv,q⟩:=h;refine⟨_,(ar (aH (dO (aa 4)) (au (aA (lU (rL (aa 3))))) aG) (au (aA (bO ih (hr.mono (by lia)) rfl T.ij.m T.ij.F.kp T.ij.b .nil bI (ae (aa 0) (ae (aa 1) (ae (aa 2) (ae (aa 3) (ae (aE l4 (aa 5) (cu (ae (aa 4) ag))) ag))))))))),?_⟩;rfl';cases o with
  | none =>
   obtain rfl:a = .nil:=hv;obtain rfl:v = .non:=ha;rfl';exact q _ (ah.refl _)
  | some x =>
   rfl';refine⟨by decide,λp1 gU=>?_⟩;have u1:=aj (o:=.lst [.int x]) gU;refine⟨_,u1 _ _ hz,_,aq,acA (by rw[acs,ac8];lia:_<=100) (by decide),λp2 fe=>?_⟩;have u2:=aj (o:=.lst (as.map V.int++[.int x])) fe;have U:=u1.trans u2;exact⟨wv,v,w,s,gl,p2,e,t,u,d,m,sl,gs,tb,as++[x],rfl,by lia,hN,hK.same U,by rw[aec];exact aq,by rw[ac1,ac8];lia,.pap a pp fs (ha.same U) la e1 e2 hv,λH' s'=>q _ (U.trans s')⟩
theorem Mp(h:jE gs tb as s m)(hg:gs.length=n+1)(ht:∀ r∈tb,r.1.2.toNat<=n):m.1<=n:=by
 obtain⟨e,h⟩:=h;rw[e];obtain⟨o,k⟩:=s;cases o with
 | none =>
  have:=(acz.mp (show gs[k]?=some m.2 from h)).1;show k<=n;lia
 | some x=>exact ht _ h.2
theorem Zh(T:Tx K mg)(N:Nat)(ih:Ok P w base (3 * N+3) T.ij (yk K N)):Ok P w base (3 * N+5) T.lM (Zg K N):=by
 refine okN T.lM.F t8.1 (λvs H Q E h=>?_) (λaY A outer s H vs Q E hr h=>?_)
 .obtain⟨wv,v,w,s,gl,z,e,t,u,d,m,sl,gs,fs,pp,tb,as,c,a,b,rfl,_⟩:=h;rfl
 .obtain⟨wv,v,w,s,gl,z,e,t,u,d,m,sl,gs,fs,pp,tb,as,⟨⟨o,i⟩,⟨o2,i2⟩⟩,a,b,rfl,hM,hK,hz,hl,⟨k,p,p2,x,y,rfl,hk,hp,fe,hx,hy⟩,la,lb,e1,e2,⟨⟨mm,nn,mA,mB,bq⟩,va,vb⟩,q⟩:=h;refine⟨_,(ar (jm (i:=5) t8.nd rfl (ago rfl) (bO (Mi T) (hr.mono (by lia)) rfl T.jN.m T.jN.F.kp T.jN.b .nil bI (ae (aa 0) (ae (aa 2) (ae (bz bA (aa 3) af (λ_ _=>rfl)) (ae (aa 4) ag)))))) (ar (jm (i:=6) t8.nd rfl (ago rfl) (bO (Mi T) (hr.mono (by lia)) rfl T.jN.m T.jN.F.kp T.jN.b .nil bI (ae (aa 0) (ae (aa 2) (ae (bz bA (aa 3) af (λ_ _=>rfl)) (ae (aa 4) ag)))))) (ar (aH (PW.pt (cU (dO (aa 5)) (cU (dO (aa 6)) (e9 (cy (bf (HE rfl) (by rfl) T.K5 GQ (ae (dm (cO [] []) rfl (cB (aa 1)) (λC s2 H2 ex pn=>⟨dz,(bO (D4 T) (hr.mono (by lia)) rfl T.jM.m T.jM.F.kp T.jM.b .nil bI (ae (aa 0) ag))⟩)) ag))))))) (au (aA dU)) aG) (ar (aH (PW.pt (cU (dO (bz bA (aa 5) af (λ_ _=>rfl))) (e9 (dO (bz bA (aa 6) af (λ_ _=>rfl)))))) (au (aA dU)) aG) (ar (aH (VQ (bz bA (aa 6) af (λ_ _=>rfl)) (aE bC (bz bA (aa 5) af (λ_ _=>rfl)) (bO (Zb T) (hr.mono (by lia)) rfl T.nu.m T.nu.F.kp T.nu.b .nil bI (ae (aa 1) (ae (bz bA (bz bA (aa 3) af (λ_ _=>rfl)) af (λ_ _=>rfl)) (ae (bz bA (bz bA (aa 3) af (λ_ _=>rfl)) af (λ_ _=>rfl)) ag)))))) (au (aA dU)) aG) (ar (aH (cF (cy (bO (Mo T N ih) (hr.mono (by lia)) rfl T.i7.m T.i7.F.kp T.i7.b .nil bI (ae (aa 0) (ae (aa 1) (ae (aa 2) (ae (bz bA (aa 3) af (λ_ _=>rfl)) (ae (bz bA (bz bA (aa 3) af (λ_ _=>rfl)) af (λ_ _=>rfl)) (ae (aa 4) ag))))))))) (au (aA dU)) aG) (ar (aH (PW.pt (iu (gK (bz bA (bz bA (aa 3) af (λ_ _=>rfl)) af (λ_ _=>rfl))) (jX (bD (bz bA (bz bA (aa 3) af (λ_ _=>rfl)) af (λ_ _=>rfl)) (bz bA (bz bA (aa 3) af (λ_ _=>rfl)) af (λ_ _=>rfl)))))) (au (aA (lU (rL (bz bA (aa 3) af (λ_ _=>rfl)))))) aG) (au (aA (bO (Mo T N ih) (hr.mono (by lia)) rfl T.i7.m T.i7.F.kp T.i7.b .nil bI (ae (aa 0) (ae (aa 1) (ae (aa 2) (ae (bz bA (aa 3) af (λ_ _=>rfl)) (ae (bz bA (bz bA (aa 3) af (λ_ _=>rfl)) af (λ_ _=>rfl)) (ae (aa 4) ag)))))))))))))))),?_⟩;obtain⟨ys,zs,hW,hs,hS,hg,hG,ig,hn,de,hle⟩:=id hK;obtain⟨rfl,fk⟩:=EA e2;obtain⟨hP,hcs,dX⟩:=Zf hS e1;dsimp only at va vb hp fe;have lt:∀ r∈tb,r.1.2.toNat<gs.length:=λr hr=>by have:=hle r hr;lia
  refine aC (λσ H1=>∃ v1,σ=[some wv,some (.ref s),some (.ref gl),some (.ref k),some (.ref z),some v1,none]/\H1=H/\aM H v1 mm.2.1 mm.2.2) (λN hN=>?_) ?_
  .rfl';exact az (ak.of hk) (v:=.ref p) rfl ⟨wv,w,p,gl,z,e,t,u,d,m,zs,gs,tb,as,(o,i),mm,rfl,hW,de,hp,ai.of hg,hG,fk,hz,mA,lt,λv1 h1=>hN _ _ ⟨v1,rfl,rfl,h1⟩⟩
  rintro _ yR σ H1 ⟨v1,rfl,rfl,q1,rfl,EB⟩;subst yR;refine aC (λσ H2=>∃ v2,σ=[some wv,some (.ref s),some (.ref gl),some (.ref k),some (.ref z),some (.ref q1),some v2]/\H2=H1/\aM H1 v2 nn.2.1 nn.2.2) (λN hN=>?_) ?_
  .rfl';exact az (ak.of hk) (v:=.ref p2) rfl ⟨wv,w,p2,gl,z,e,t,u,d,m,zs,gs,tb,as,(o2,i2),nn,rfl,hW,de,fe,ai.of hg,hG,fk,hz,mB,lt,λv1 h1=>hN _ _ ⟨v1,rfl,rfl,h1⟩⟩
  rintro _ yR σ H2 ⟨v2,rfl,rfl,q2,rfl,EC⟩;subst yR;refine aC (λσ H3=>σ=[some wv,some (.ref s),some (.ref gl),some (.ref k),some (.ref z),some (.ref q1),some (.ref q2)]/\ah H2 H3) (λN hN=>?_) ?_
  .rfl';refine⟨⟨_,ai.of hs⟩,cN iI (acA (by rw[hS.len];lia:ys.length<=1000) (by decide)) (k6 (R:=λx (n:S2)=>aM H2 x n.1 n.2) (as:=sl) (p:=λ_=>true) (f:=λ_=>.bl false) (ai.of hs) hS (λ_ _ _ _ Q h=>h) (λx n hn _ r Q h=>?_) λl hl=>?_)⟩
   .obtain⟨pa,rfl,lO⟩:=r;rfl';refine⟨pa,n.1,n.2,rfl,ak.of lO,?_⟩;rw[hcs n hn];exact h
   .rw[acT,aeF.mpr λ_ _=>rfl];refine⟨l,rfl,sl.map λ_=>false,ai.of (by rw[aq,ado];rfl),?_⟩;rw[if_neg (by simp)];exact hN _ _ ⟨rfl,aj hl⟩
  rintro _ yR σ H3 ⟨rfl,s3⟩;subst yR;obtain⟨hh,ll,h1,h2,h3⟩:=bq;rw[h1] at EB;rw[h2] at EC;refine aC (λσ H4=>σ=[some wv,some (.ref s),some (.ref gl),some (.ref k),some (.ref z),some (.ref q1),some (.ref q2)]/\H4=H3) (λN hN=>?_) ?_
  .rfl';refine az (ak.of (s3 _ _ EB)) (v:=.int hh) rfl ?_;rfl';refine az (ak.of (s3 _ _ EC)) (v:=.int ll) rfl ?_;rfl';exact hN _ _ ⟨rfl,rfl⟩
  rintro _ yR σ H4 ⟨rfl,rfl⟩;subst yR;refine aC (λσ H5=>σ=[some wv,some (.ref s),some (.ref gl),some (.ref k),some (.ref z),some (.ref q1),some (.ref q2)]/\ah H2 H5) (λN hN=>?_) ?_
  .rfl';refine az (ak.of (s3 _ _ EC)) (v:=.int ll) rfl (az (ak.of (s3 _ _ EB)) (v:=.int hh) rfl (az (ak.of (s3 _ _ hk)) (v:=.ref p) rfl (az (ak.of (s3 _ _ hp)) (v:=.int i) rfl (az (ak.of (s3 _ _ hk)) (v:=.ref p2) rfl (az (ak.of (s3 _ _ fe)) (v:=.int i2) rfl ?_)))));have ma:=Mp mA ig hle;have mb:=Mp mB ig hle;have ea:mm.1=i:=mA.1;have eb:nn.1=i2:=mB.1;rw[ea] at ma h3;rw[eb] at mb h3;refine⟨s,ys,pp,i,i2,rfl,ai.of (s3 _ _ hs),hP.imp λ_ _ r=>r.same s3,by lia,by lia,by lia,λH5 s5=>?_⟩;rfl';rw[if_neg (by lia)];exact hN _ _ ⟨rfl,s3.trans s5⟩
  rintro _ yR σ H5 ⟨rfl,s5⟩;subst yR;refine aC (λσ H6=>σ=[some wv,some (.ref s),some (.ref gl),some (.ref k),some (.ref z),some (.ref q1),some (.ref q2)]/\ah H2 H6) (λN hN=>?_) ?_
  .rfl';refine az (ak.of (s5 _ _ hk)) (v:=x) rfl (az (ak.of (s5 _ _ hk)) (v:=.ref p) rfl (az (ak.of (s5 _ _ hp)) (v:=ev o) rfl ?_));refine⟨wv,x,w,s,gl,z,e,t,u,d,m,sl,gs,gs,pp,tb,as,o,a,rfl,hM,hK.same s5,s5 _ _ hz,hl,hx.same s5,la,e1,e2,va,λH6 s6=>?_⟩;rfl';exact hN _ _ ⟨rfl,s5.trans s6⟩
  rintro _ yR σ H6 ⟨rfl,s6⟩;subst yR;rfl';have last:∀ R:V->Hp->Prop,(∀ H',ah H2 H'->R (.bl true) H')->Mm pp gs tb m b as o2->j8 K (.ref k) (.int 4) H6 λx H1=>j8 K (.ref k) (.int 2) H1 λZi H1=>j8 K Zi (.int 0) H1 λZj H1=>Mn K N [wv,.ref s,.ref gl,x,Zj,.ref z] H1 R E0:=λR hR hv =>
   az (ak.of (s6 _ _ hk)) (v:=y) rfl (az (ak.of (s6 _ _ hk)) (v:=.ref p2) rfl (az (ak.of (s6 _ _ fe)) (v:=ev o2) rfl ⟨wv,y,w,s,gl,z,e,t,u,d,m,sl,gs,gs,pp,tb,as,o2,b,rfl,hM,hK.same s6,s6 _ _ hz,hl,hy.same s6,lb,e1,e2,hv,λH7 s7=>hR _ (s6.trans s7)⟩))
  refine az (ak.of (s6 _ _ hk)) (v:=.ref p) rfl (az (ak.of (s6 _ _ hp)) (v:=ev o) rfl ?_);cases o with
  | none =>
   rfl';refine last _ q ?_;cases o2 with
   | none=>exact vb
   | some x=>exact vb
  | some x0 =>
   rfl';refine az (ak.of (s6 _ _ hk)) (v:=.ref p) rfl (az (ak.of (s6 _ _ hp)) (v:=.int x0) rfl (az (ak.of (s6 _ _ hk)) (v:=.ref p2) rfl (az (ak.of (s6 _ _ fe)) (v:=ev o2) rfl ?_)));refine LY (o:=some x0) (o':=o2) ?_;cases o2 with
   | none=>exact last _ q vb
   | some x2 =>
    replace vb:if (some x0:En)=some x2 then b = .nil else Val pp gs tb m b (as++[x2]):=vb
    by_cases he:(some x0:En)=some x2
    .rw[decide_eq_true he];rw[if_pos he] at vb;subst vb;obtain rfl:y = .non:=hy;exact az (ak.of (s6 _ _ hk)) (v:=.non) rfl (q _ s6)
    .rw[decide_eq_false he];rw[if_neg he] at vb;exact last _ q vb
theorem Zk(T:Tx K mg):∀ N,Ok P w base (3 * N+3) T.ij (yk K N):=by
 intro N
 induction N with
 | zero =>
  refine okN T.ij.F oG.1 (λvs H Q E h=>?_) (λaY A outer s H vs Q E hr h=>?_)
  .obtain⟨wv,v,w,s,gl,z,e,t,u,d,m,sl,gs,tb,as,rfl,hN,_⟩:=h;exact absurd hN (ad4 _)
  .obtain⟨wv,v,w,s,gl,z,e,t,u,d,m,sl,gs,tb,as,rfl,hN,_⟩:=h;exact absurd hN (ad4 _)
 | succ N ih =>
  refine okN T.ij.F oG.1 (λvs H Q E h=>?_) (λaY A outer s H vs Q E hr h=>?_)
  .obtain⟨wv,v,w,s,gl,z,e,t,u,d,m,sl,gs,tb,as,rfl,_⟩:=h;rfl
  .obtain⟨wv,v,w,s,gl,z,e,t,u,d,m,sl,gs,tb,as,rfl,_,hM,hK,hz,hl,hR,q⟩:=h;refine⟨_,(ar (aH (PW.pt (cU (cF (cy (bf nX (by rfl) T.oP nW (ae (aa 3) (ae (nJ (v:=.ty "tuple") rfl T.DU zB rfl) ag))))) (e9 (bD (bf eK (by rfl) T.dt di (ae (aa 3) ag)) af)))) (au (aA dU)) aG) (ar (aH (bD (bz bA (aa 3) af (λ_ _=>rfl)) aR) (au (aA (jF (fv pF (bf eK (by rfl) T.dt di (ae (aa 3) ag)) af (c7 _)) (ji (fv (iW vQ) (bf eK (by rfl) T.dt di (ae (aa 4) ag)) (bz bA (aa 0) af (λ_ _=>rfl)) (c7 _)))))) aG) (ar (aH (bD (bz bA (aa 3) af (λ_ _=>rfl)) aR) (au (aA (jF (fv pF (bf eK (by rfl) T.dt di (ae (aa 3) ag)) af (c7 _)) (ji (bO (Zh T N ih) (hr.mono (by lia)) rfl T.lM.m T.lM.F.kp T.lM.b .nil bI (ae (aa 0) (ae (aa 1) (ae (aa 2) (ae (aa 3) (ae (aa 4) ag)))))))))) aG) (ar (jm (i:=5) oG.nd rfl (ago rfl) (cu ag)) (ar (aH (bD (bz bA (aa 3) af (λ_ _=>rfl)) aR) (au (jm (i:=5) oG.nd rfl (ago rfl) (aa 1))) aG) (ar (aH (bD (bz bA (aa 3) af (λ_ _=>rfl)) aR) (au (jm (i:=5) oG.nd rfl (ago rfl) (aa 2))) aG) (ar (aH (PW.pt (cU (kE (bf eK (by rfl) T.dt di (ae (aa 3) ag)) af) (cU (cF (cy (bO (q8 T) (hr.mono (by lia)) rfl T.nr.m T.nr.F.kp T.nr.b .nil bI (ae (bz bA (aa 3) af (λ_ _=>rfl)) ag)))) (cU (mG (bz bA (aa 3) af (λ_ _=>rfl)) af) (e9 (Bj (bz bA (aa 3) af (λ_ _=>rfl)) (bf eK (by rfl) T.dt di (ae (aa 5) ag)))))))) (au (aA dU)) aG) (au (aA (bO (D4 T) (hr.mono (by lia)) rfl T.jM.m T.jM.F.kp T.jM.b .nil bI (ae (bz bA (aa 5) (bz bA (aa 3) af (λ_ _=>rfl)) (λ_ _=>rfl)) ag))))))))))),?_⟩;obtain⟨ys,zs,hW,hs,hS,hg,hG,ig,hn,de,hle⟩:=id hK;have Eh:∃ (k:acF) (u:V) (us:List V),v = .ref k/\H k=some (.tup (u::us)):=by
    rcases hR with ⟨k,j,rfl,hk,hj⟩|⟨k,j,rfl,hk,hj⟩|⟨t,pp,fs,hp,hh,e1,e2,hv⟩
    .exact⟨k,_,_,rfl,hk⟩
    .exact⟨k,_,_,rfl,hk⟩
    .cases t with
     | nil=>exact hv.elim
     | full=>obtain⟨r,rfl,h⟩:=hp;exact⟨r,_,_,rfl,h⟩
     | cls c a b=>obtain⟨r,_,_,_,_,rfl,h,_⟩:=hp;exact⟨r,_,_,rfl,h⟩
   obtain⟨k,u0,us,rfl,hku⟩:=Eh;refine aC (λσ H2=>σ=[some wv,some (.ref s),some (.ref gl),some (.ref k),some (.ref z),none]/\H2=H) (λN hN=>?_) ?_
   .rfl';refine zD hku ?_;rfl';refine⟨_,nY (ak.of hku),?_⟩;refine aV (λh0=>absurd h0 (by rw[ada];lia)) λ_=>hN _ _ ⟨rfl,rfl⟩
   rintro _ yR σ H2 ⟨rfl,rfl⟩;subst yR;rcases hR with ⟨k2,j,e1,hk,hj⟩|⟨k2,j,e1,hk,hj⟩|⟨tt,pp,fs,hp,hh,e1,e2,hv⟩
   .cases e1;refine aC (λσ H3=>σ=[some wv,some (.ref s),some (.ref gl),some (.ref k),some (.ref z),none]/\H3=H2) (λN hN=>?_) ?_
    .rfl';refine az (ak.of hk) (v:=.str "step") rfl ?_;rfl'
     first|exact hN _ _ ⟨rfl,rfl⟩|exact aV (λh=>absurd h (by decide)) λ_=>hN _ _ ⟨rfl,rfl⟩
    rintro _ yR σ H3 ⟨rfl,rfl⟩;subst yR;refine aC (λσ H4=>σ=[some wv,some (.ref s),some (.ref gl),some (.ref k),some (.ref z),none]/\H4=H3) (λN hN=>?_) ?_
    .rfl';refine az (ak.of hk) (v:=.str "step") rfl ?_;rfl'
     first|exact hN _ _ ⟨rfl,rfl⟩|exact aV (λh=>absurd h (by decide)) λ_=>hN _ _ ⟨rfl,rfl⟩
    rintro _ yR σ H4 ⟨rfl,rfl⟩;subst yR;refine aC (λσ H5=>∃ l0,σ=[some wv,some (.ref s),some (.ref gl),some (.ref k),some (.ref z),some (.ref l0)]/\ah H4 H5) (λN hN=>?_) ?_
    .rfl';exact⟨by decide,λp hp=>hN _ _ ⟨p,rfl,aj hp⟩⟩
    rintro _ yR σ H5 ⟨l0,rfl,s5⟩;subst yR;refine aC (λσ H6=>σ=[some wv,some (.ref s),some (.ref gl),some (.ref k),some (.ref z),some (.ref s)]/\H6=H5) (λN hN=>?_) ?_
    .rfl';refine az (ak.of (s5 _ _ hk)) (v:=.str "step") rfl ?_;rfl'
     first|exact hN _ _ ⟨rfl,rfl⟩|exact aV (λh=>absurd h (by decide)) λ_=>hN _ _ ⟨rfl,rfl⟩
    rintro _ yR σ H6 ⟨rfl,rfl⟩;subst yR;refine aC (λσ H7=>σ=[some wv,some (.ref s),some (.ref gl),some (.ref k),some (.ref z),some (.ref s)]/\H7=H6) (λN hN=>?_) ?_
    .rfl';refine az (ak.of (s5 _ _ hk)) (v:=.str "step") rfl ?_;rfl'
     first|exact hN _ _ ⟨rfl,rfl⟩|exact aV (λh=>absurd h (by decide)) λ_=>hN _ _ ⟨rfl,rfl⟩
    rintro _ yR σ H7 ⟨rfl,rfl⟩;subst yR;rw[acJ] at hj;obtain⟨sj,hsj,hcj⟩:=adf.mp hj;obtain⟨vj,hvj,pj,rfl,hpj⟩:=hS.at hsj;have jl:=(acz.mp hvj).1;refine aC (λσ H8=>σ=[some wv,some (.ref s),some (.ref gl),some (.ref k),some (.ref z),some (.ref s)]/\H8=H7) (λN hN=>?_) ?_
    .rfl';refine⟨_,nY (ak.of (s5 _ _ hk)),?_⟩;rfl';refine az (ak.of (s5 _ _ hk)) (v:=.int j) rfl ⟨_,rfl,.inr ⟨_,rfl⟩,?_⟩;simp only[isWhole];rfl';refine az (ak.of (s5 _ _ hk)) (v:=.int j) rfl ?_;rfl';refine aV (λh0=>absurd h0 (by lia)) λ_=>az (ak.of (s5 _ _ hk)) (v:=.int j) rfl ⟨_,fE (ai.of (s5 _ _ hs)),?_⟩;rfl';exact aV (λh0=>absurd h0 (by lia)) λ_=>hN _ _ ⟨rfl,rfl⟩
    rintro _ yR σ H8 ⟨rfl,rfl⟩;subst yR;rfl';refine az (ak.of (s5 _ _ hk)) (v:=.int j) rfl (bQ (ai.of (s5 _ _ hs)) (dH hvj) ⟨pj,sj.1,sj.2,rfl,ak.of (s5 _ _ hpj),?_⟩);rw[Ml hcj];exact q _ s5
   .cases e1;refine aC (λσ H3=>σ=[some wv,some (.ref s),some (.ref gl),some (.ref k),some (.ref z),none]/\H3=H2) (λN hN=>?_) ?_
    .rfl';refine az (ak.of hk) (v:=.str "at") rfl ?_;rfl'
     first|exact hN _ _ ⟨rfl,rfl⟩|exact aV (λh=>absurd h (by decide)) λ_=>hN _ _ ⟨rfl,rfl⟩
    rintro _ yR σ H3 ⟨rfl,rfl⟩;subst yR;refine aC (λσ H4=>σ=[some wv,some (.ref s),some (.ref gl),some (.ref k),some (.ref z),none]/\H4=H3) (λN hN=>?_) ?_
    .rfl';refine az (ak.of hk) (v:=.str "at") rfl ?_;rfl'
     first|exact hN _ _ ⟨rfl,rfl⟩|exact aV (λh=>absurd h (by decide)) λ_=>hN _ _ ⟨rfl,rfl⟩
    rintro _ yR σ H4 ⟨rfl,rfl⟩;subst yR;refine aC (λσ H5=>∃ l0,σ=[some wv,some (.ref s),some (.ref gl),some (.ref k),some (.ref z),some (.ref l0)]/\ah H4 H5) (λN hN=>?_) ?_
    .rfl';exact⟨by decide,λp hp=>hN _ _ ⟨p,rfl,aj hp⟩⟩
    rintro _ yR σ H5 ⟨l0,rfl,s5⟩;subst yR;refine aC (λσ H6=>σ=[some wv,some (.ref s),some (.ref gl),some (.ref k),some (.ref z),some (.ref l0)]/\H6=H5) (λN hN=>?_) ?_
    .rfl';refine az (ak.of (s5 _ _ hk)) (v:=.str "at") rfl ?_;rfl'
     first|exact hN _ _ ⟨rfl,rfl⟩|exact aV (λh=>absurd h (by decide)) λ_=>hN _ _ ⟨rfl,rfl⟩
    rintro _ yR σ H6 ⟨rfl,rfl⟩;subst yR;refine aC (λσ H7=>σ=[some wv,some (.ref s),some (.ref gl),some (.ref k),some (.ref z),some (.ref gl)]/\H7=H6) (λN hN=>?_) ?_
    .rfl';refine az (ak.of (s5 _ _ hk)) (v:=.str "at") rfl ?_;rfl'
     first|exact hN _ _ ⟨rfl,rfl⟩|exact aV (λh=>absurd h (by decide)) λ_=>hN _ _ ⟨rfl,rfl⟩
    rintro _ yR σ H7 ⟨rfl,rfl⟩;subst yR;rw[acJ] at hj;obtain⟨sj,hsj,hcj⟩:=adf.mp hj;obtain⟨vj,hvj,pj,rfl,hpj⟩:=hG.at hsj;have jl:=(acz.mp hvj).1;refine aC (λσ H8=>σ=[some wv,some (.ref s),some (.ref gl),some (.ref k),some (.ref z),some (.ref gl)]/\H8=H7) (λN hN=>?_) ?_
    .rfl';refine⟨_,nY (ak.of (s5 _ _ hk)),?_⟩;rfl';refine az (ak.of (s5 _ _ hk)) (v:=.int j) rfl ⟨_,rfl,.inr ⟨_,rfl⟩,?_⟩;simp only[isWhole];rfl';refine az (ak.of (s5 _ _ hk)) (v:=.int j) rfl ?_;rfl';refine aV (λh0=>absurd h0 (by lia)) λ_=>az (ak.of (s5 _ _ hk)) (v:=.int j) rfl ⟨_,fE (ai.of (s5 _ _ hg)),?_⟩;rfl';exact aV (λh0=>absurd h0 (by lia)) λ_=>hN _ _ ⟨rfl,rfl⟩
    rintro _ yR σ H8 ⟨rfl,rfl⟩;subst yR;rfl';refine az (ak.of (s5 _ _ hk)) (v:=.int j) rfl (bQ (ai.of (s5 _ _ hg)) (dH hvj) ⟨pj,sj.1,sj.2,rfl,ak.of (s5 _ _ hpj),?_⟩);rw[Ml hcj];exact q _ s5
   .cases tt with
    | nil=>exact hv.elim
    | full =>
     obtain⟨r,er,dF⟩:=hp;cases er;refine aC (λ_ _=>False) (λN hN=>?_) (λ_ _ _ _ h=>h.elim);rfl';refine az (ak.of dF) (v:=.str "full") rfl ?_;rfl';refine⟨_,nY (ak.of dF),aV (λ_=>?_) λh0=>absurd rfl h0⟩;obtain⟨r9,rfl,Zl,_⟩:=hW;refine⟨_,fE (ai.of hz),az (ak.of Zl) (v:=.int m) rfl ?_⟩;rfl';rw[acs,decide_eq_true (show m<((as.length:Nat):Int) from hv)];exact q _ (ah.refl _)
    | cls c a b =>
     obtain⟨r,p,p2,x,y,er,hk,gU,fe,hx,hy⟩:=id hp;cases er;refine aC (λσ H3=>σ=[some wv,some (.ref s),some (.ref gl),some (.ref k),some (.ref z),none]/\H3=H2) (λN hN=>?_) ?_
     .rfl';refine az (ak.of hk) (v:=.str "clash") rfl ?_;rfl'
      first|exact hN _ _ ⟨rfl,rfl⟩|exact aV (λh=>absurd h (by decide)) λ_=>hN _ _ ⟨rfl,rfl⟩
     rintro _ yR σ H3 ⟨rfl,rfl⟩;subst yR;have HA:dR a<N:=by have h2:(if dR a<=dR b then dR b else dR a)+1<N+1:=hh;split at h2<;>lia
     have HB:dR b<N:=by have h2:(if dR a<=dR b then dR b else dR a)+1<N+1:=hh;split at h2<;>lia
     refine aC (λ_ _=>False) (λN9 hN=>?_) (λ_ _ _ _ h=>h.elim);rfl';refine az (ak.of hk) (v:=.str "clash") rfl ?_;rfl';exact⟨_,nY (ak.of hk),aV (λ_=>⟨wv,_,w,s,gl,z,e,t,u,d,m,sl,gs,fs,pp,tb,as,c,a,b,rfl,by lia,hK,hz,by lia,hp,HA,HB,e1,e2,hv,q⟩) λh0=>absurd rfl h0⟩
theorem Zm(T:Tx K mg):Ok P w base 33 T.ij (yk K 10):=Zk T 10
theorem Zn(u d:Int)(ps:List Pa)(n:Nat):((acD n).map (λ(k:Nat)=>bj (some (-d),some u) (sel ps "step" (k:Int)))).map gX=dE u d ps n:=by unfold dE;rw[ado];exact aeH λk _=>rfl
theorem Zo(ps:List Pa)(n:Nat):((acD n).map (λ(k:Nat)=>bj (none,none) (sel ps "at" (k:Int)))).map gX=eQ ps n:=by unfold eQ;rw[ado];exact aeH λk _=>rfl
inductive Zp(K:acr)(vs:List V)(H:Hp)(Q:VK)(aS:XK):Prop
 | mk(wv v:V)(w cl:acF)(e t u d m:Int)(tb:Tb)(xs:List V)(ps:List Pa)(_:vs=[wv,.ref cl,v])(_:fU H wv w e t u d m tb)(_:1<=t)(_:t<=12)(_:bK e t tb)(_:ai K H cl xs)(_:dB H xs ps)(_:ps.length<=900)(_:jc H v (dE u d ps (t-1).toNat) (eQ ps t.toNat) tb m [] 10)(_:∀ H',ah H H'->Q (.bl true) H')
theorem Zq(T:Tx K mg):Ok P w base 34 T.uN (Zp K):=by
 refine bH qQ ?_;rintro _ _ _ s H _ Q _ hr ⟨wv,v,w,cl,e,t,u,d,m,tb,xs,ps,rfl,hW,t1,t2,ay,hX,hP,hn,hR,q⟩;refine⟨_,(ar (aL 3 qQ.nd (aN (ae (aE cQ af (aw (aa 0) af)) (ae (aw (aa 0) af) ag)))) (ar (n5 (i:=4) (cO [3,1] ["_law_own","_law_claim"]) rfl qQ.nd rfl rfl (g9 rfl T.eX (ae (aE cQ (aw (aa 0) af) af) ag)) (λC s2 H2 ex pn=>⟨dz,(aJ (LF T) hr (ae (aa 1) (ae (aa 2) (ae aR (ae (aa 0) ag)))))⟩)) (ar (n5 (i:=5) (cO [1] ["_law_claim"]) rfl qQ.nd rfl rfl (g9 rfl T.eX (ae (aw (aa 0) af) ag)) (λC s2 H2 ex pn=>⟨dz,(aJ (LF T) hr (ae (aN (ae bF (ae bF ag))) (ae (aa 1) (ae aR (ae (aa 0) ag)))))⟩)) (au (aA (aJ (Zm T) hr (ae (aa 0) (ae (aa 4) (ae (aa 5) (ae (aa 2) (ae (cu ag) ag))))))))))),?_⟩;obtain⟨r,rfl,dD,hT⟩:=id hW;refine aC (λσ H1=>∃ p,σ=[some (.ref r),some (.ref cl),some v,some (.ref p),none,none]/\ah H H1/\H1 p=some (.tup [.int (-d),.int u])) (λN hN=>?_) ?_
 .rfl';refine az (ak.of dD) (v:=.int d) rfl ?_;rfl';refine az (ak.of dD) (v:=.int u) rfl ⟨aW,λp hp=>hN _ _ ⟨p,rfl,aj hp,?_⟩⟩;rw[aq,Int.zero_sub]
 rintro _ yR σ H1 ⟨p,rfl,s1,hp⟩;subst yR;refine aC (λσ H2=>∃ s ys,σ=[some (.ref r),some (.ref cl),some v,some (.ref p),some (.ref s),none]/\ah H H2/\H2 s=some (.lst ys)/\ax (λv x=>aM H2 v x.1 x.2) ys ((acD (t-1).toNat).map (λ(k:Nat)=>bj (some (-d),some u) (sel ps "step" (k:Int))))) (λN hN=>?_) ?_
 .rfl';refine az (ak.of (s1 _ _ dD)) (v:=.int t) rfl ?_;rfl';refine⟨by lia,by lia,cN iJ (by rw[acs,acH];exact acA (by lia:_<=12) (by decide)) (gi (R:=λ_ x (k:Nat)=>x=V.int ((0:Int)+k)) (R':=λH v (x:S2)=>aM H v x.1 x.2) (f:=λ(k:Nat)=>bj (some (-d),some u) (sel ps "step" (k:Int))) (λ_ _ _ _ _ h=>h) (λ_ _ _ _ s' h=>h.same s') (ax.fZ _) (bs:=[]) trivial (λ_ _=>trivial) (λx k _ H2 s2 r Q h=>?_) (λx k _ H2 s2 r Q h=>?_) λH2 zs s2 hz=>?_)⟩
  .rfl';exact h
  .subst r;rfl';refine⟨p,cl,some (-d),some u,xs,ps,"step",_,rfl,ak.of (s2 _ _ hp),(s1.trans s2).seq hX,hP.same (s1.trans s2),by lia,λv H3 s3 hv=>h _ _ s3 ?_⟩;rw[ag8] at hv;exact hv
  .intro l hl;rw[acT] at hz;exact hN _ _ ⟨l,zs,rfl,s1.trans (s2.trans (aj hl)),aq,hz.imp λ_ _ r=>r.same (aj hl)⟩
 rintro _ yR σ H2 ⟨s,ys,rfl,s2,hs,hS⟩;subst yR;refine aC (λσ H3=>∃ gl zs,σ=[some (.ref r),some (.ref cl),some v,some (.ref p),some (.ref s),some (.ref gl)]/\ah H2 H3/\H3 gl=some (.lst zs)/\ax (λv x=>aM H3 v x.1 x.2) zs ((acD t.toNat).map (λ(k:Nat)=>bj (none,none) (sel ps "at" (k:Int))))) (λN hN=>?_) ?_
 .rfl';refine az (ak.of (s2 _ _ dD)) (v:=.int t) rfl ?_;rfl';refine⟨by lia,by lia,cN iJ (by rw[acs,acH];exact acA (by lia:_<=12) (by decide)) (gi (R:=λ_ x (k:Nat)=>x=V.int ((0:Int)+k)) (R':=λH v (x:S2)=>aM H v x.1 x.2) (f:=λ(k:Nat)=>bj (none,none) (sel ps "at" (k:Int))) (λ_ _ _ _ _ h=>h) (λ_ _ _ _ s' h=>h.same s') (ax.fZ _) (bs:=[]) trivial (λ_ _=>trivial) (λx k _ H4 s4 r Q h=>?_) (λx k _ H4 s4 r Q h=>?_) λH4 zs s4 hz=>?_)⟩
  .rfl';exact h
  .subst r;rfl';refine⟨aW,λp2 fe=>?_⟩;have u2:=aj (o:=.tup [.non,.non]) fe;have U:=s2.trans (s4.trans u2);refine⟨p2,cl,none,none,xs,ps,"at",_,rfl,ak.of aq,U.seq hX,hP.same U,by lia,λv H3 s3 hv=>h _ _ (u2.trans s3) ?_⟩;rw[ag8] at hv;exact hv
  .intro l hl;rw[acT] at hz;exact hN _ _ ⟨l,zs,rfl,s4.trans (aj hl),aq,hz.imp λ_ _ r=>r.same (aj hl)⟩
 rintro _ yR σ H3 ⟨gl,zs,rfl,s3,hg,hG⟩;subst yR;rfl';refine⟨by decide,λp9 Ed=>?_⟩;have u9:=aj (o:=.lst []) Ed;have U:=s2.trans (s3.trans u9);refine⟨.ref r,v,w,s,gl,p9,e,t,u,d,m,_,_,tb,[],rfl,by decide,by decide,⟨ys,zs,hW.same U,(s3.trans u9) _ _ hs,hS.imp λ_ _ x=>x.same (s3.trans u9),u9 _ _ hg,hG.imp λ_ _ x=>x.same u9,?_,?_,ay.1,λx hx=>?_⟩,aq,by decide,?_,λH' s'=>q _ (U.trans s')⟩
 .rw[acs,acs,acH,acH];lia
 .rw[acs,acH];lia
 .rw[acs,acH];obtain⟨⟨b1,b2⟩,b3,b4⟩:=ay.2 x hx;lia
 .rw[Zn,Zo];exact hR.same U
def cg(i j:Int):Prop:=0<=i/\i<=j/\j<=11
inductive Zr(K:acr)(N:acF)(vs:List V)(H:Hp)(Q:VK)(E:XK):Prop
 | mk(x C dx:acF)(i j:Int)(_:vs=[.ref x,.int i,.int j])(_:H x=some (.ins C dx []))(_:b6 K C)(_:bW K C "first")(_:bW K C "last")(_:(¬ cg i j->E (.ref N) none H))(_:(cg i j->Q .non (upd H x (.ins C dx [("first",.int i),("last",.int j)]))))
theorem ym(T:Tx K mg):Om P w mg base 1 T.i3 (Zr K T.ja):=by
 refine jG C6 ?_;rintro _ _ _ _ H _ _ E _ ⟨x,C,dx,i,j,rfl,hx,hc,n1,n2,q0,q⟩;refine⟨_,(ar (aH (cF (UN fu fu fu af (aa 1) (aa 2) (As T.WR rfl))) (au (iE iF rfl T.La T.xT rfl (ae aR ag))) aG) (ar (gL (aa 0) (aa 1) rfl) (au (gL (aa 0) (aa 2) rfl)))),?_⟩;rfl';have no:∀ D σ,¬ cg i j->∀ y,zF T.ja E (vT (tC (.str y)) se) D σ H:=λD σ z y=>⟨by show 1<=acV;decide,q0 z⟩
 refine aV (λh1=>aV (λh2=>aV (λh3=>no _ _ (λz=>h3 z.2.2) _) λh3=>?_) λh2=>no _ _ (λz=>h2 z.2.1) _) λh1=>no _ _ (λz=>h1 z.1) _;refine⟨_,_,_,hx,hc,n1,(by show 0<1000;decide),_,_,_,aq,hc,n2,(by show 1<1000;decide),?_⟩;rw[jf];exact q ⟨h1,h2,by lia⟩
inductive Zs(C N:acF)(vs:List V)(H:Hp)(Q:VK)(E:XK):Prop
 | mk(x dx:acF)(i j:Int)(v:V)(_:vs=[.ref x,.int i,.int j,v])(_:H x=some (.ins C dx []))(_:(¬ cg i j->E (.ref N) none H))(_:(cg i j->Q .non (upd H x (.ins C dx [("first",.int i),("last",.int j),("stretch",v)]))))
theorem Zt(T:Tx K mg):Om P w mg base 2 T.oI (Zs T.b8 T.ja):=by refine jG C9 ?_;rintro _ _ _ _ _ _ _ _ hr ⟨x,dx,i,j,v,rfl,hx,q0,q⟩;refine⟨_,(ar (eI (wM rfl T.xP T.xR (ym T) hr.m T.i3.b .nil bZ (ae (aa 0) (ae (aa 1) (ae (aa 2) ag))))) (au (gL (aa 0) (aa 3) rfl))),?_⟩;rfl';refine⟨x,T.b8,dx,i,j,rfl,hx,T.gP,T.uS,T.qT,q0,λhk=>?_⟩;rfl';refine⟨_,_,_,aq,T.gP,T.uT,(by show 2<1000;decide),?_⟩;rw[jf];exact q hk
inductive Zu(C N:acF)(vs:List V)(H:Hp)(Q:VK)(E:XK):Prop
 | mk(x dx:acF)(i j:Int)(v:V)(_:vs=[.ref x,.int i,.int j,v])(_:H x=some (.ins C dx []))(_:(¬ cg i j->E (.ref N) none H))(_:(cg i j->Q .non (upd H x (.ins C dx [("first",.int i),("last",.int j),("sill",v)]))))
theorem Zv(T:Tx K mg):Om P w mg base 2 T.oJ (Zu T.b9 T.ja):=by refine jG De ?_;rintro _ _ _ _ _ _ _ _ hr ⟨x,dx,i,j,v,rfl,hx,q0,q⟩;refine⟨_,(ar (eI (wM rfl T.xP T.xR (ym T) hr.m T.i3.b .nil bZ (ae (aa 0) (ae (aa 1) (ae (aa 2) ag))))) (au (gL (aa 0) (aa 3) rfl))),?_⟩;rfl';refine⟨x,T.b9,dx,i,j,rfl,hx,T.gQ,T.uU,T.qU,q0,λhk=>?_⟩;rfl';refine⟨_,_,_,aq,T.gQ,T.uV,(by show 2<1000;decide),?_⟩;rw[jf];exact q hk
inductive Zw(C N:acF)(vs:List V)(H:Hp)(Q:VK)(E:XK):Prop
 | mk(x dx:acF)(i j:Int)(v:V)(_:vs=[.ref x,.int i,.int j,v])(_:H x=some (.ins C dx []))(_:(¬ cg i j->E (.ref N) none H))(_:(cg i j->Q .non (upd H x (.ins C dx [("first",.int i),("last",.int j),("sill",v)]))))
theorem Zx(T:Tx K mg):Om P w mg base 2 T.oK (Zw T.cc T.ja):=by refine jG Dh ?_;rintro _ _ _ _ _ _ _ _ hr ⟨x,dx,i,j,v,rfl,hx,q0,q⟩;refine⟨_,(ar (eI (wM rfl T.xP T.xR (ym T) hr.m T.i3.b .nil bZ (ae (aa 0) (ae (aa 1) (ae (aa 2) ag))))) (au (gL (aa 0) (aa 3) rfl))),?_⟩;rfl';refine⟨x,T.cc,dx,i,j,rfl,hx,T.gR,T.uW,T.qV,q0,λhk=>?_⟩;rfl';refine⟨_,_,_,aq,T.gR,T.uX,(by show 2<1000;decide),?_⟩;rw[jf];exact q hk
inductive Zy(C N:acF)(vs:List V)(H:Hp)(Q:VK)(E:XK):Prop
 | mk(x dx:acF)(i j l h:Int)(_:vs=[.ref x,.int i,.int j,.int l,.int h])(_:H x=some (.ins C dx []))(_:(¬ (cg i j/\l<h)->∀ H',SameBut x H H'->E (.ref N) none H'))(_:(cg i j/\l<h->Q .non (upd H x (.ins C dx [("first",.int i),("last",.int j),("low",.int l),("high",.int h)]))))
theorem Zz(T:Tx K mg):Om P w mg base 2 T.oM (Zy T.cf T.ja):=by refine jG Dk ?_;rintro _ _ _ _ _ _ _ _ hr ⟨x,dx,i,j,l,h,rfl,hx,q0,q⟩;refine⟨_,(ar (eI (wM rfl T.xP T.xR (ym T) hr.m T.i3.b .nil bZ (ae (aa 0) (ae (aa 1) (ae (aa 2) ag))))) (ar (aH (Bj (aa 3) (aa 4)) (au (iE iF rfl T.La T.xT rfl (ae aR ag))) aG) (ar (gL (aa 0) (aa 3) rfl) (au (gL (aa 0) (aa 4) rfl))))),?_⟩;rfl';refine⟨x,T.cf,dx,i,j,rfl,hx,T.eN,T.qW,T.nz,λz=>q0 (λy=>z y.1) _ λ_ _ _ e=>e,λhk=>?_⟩;rfl';refine aV (λh1=>⟨by decide,q0 (λy=>by lia) _ λb o hb e=>by rw[aD hb];exact e⟩) λh1=>?_;refine⟨_,_,_,aq,T.eN,T.uY,(by show 2<1000;decide),_,_,_,aq,T.eN,T.uZ,(by show 3<1000;decide),?_⟩;rw[jf,jf];exact q ⟨hk,by lia⟩
inductive ZA(K:acr)(vs:List V)(H:Hp)(Q:VK)(aS:XK):Prop
 | mk(x C dx:acF)(fs:List (Str × V))(j:Int)(_:vs=[.ref x])(_:H x=some (.ins C dx fs))(_:b6 K C)(_:bW K C "last")(_:fs.lookup ("last" : Str)=some (.int j))(_:Q (.int j) H)
theorem yn(T:Tx K mg):Om P w mg base 1 T.eW (ZA K):=by refine fg C7 ?_;rintro _ _ _ _ _ _ _ _ _ ⟨x,C,dx,fs,j,rfl,hx,hc,n1,hl,q⟩;refine⟨_,(au (aA (bE rfl (aa 0) rfl))),?_⟩;rfl';exact⟨_,_,_,hx,hc,n1,_,hl,q⟩
noncomputable def Mq(lo:En):List S2:=match lo with|none=>[]|some l=>[(none,some (l-1))]
noncomputable def Mr(hi:En):List S2:=match hi with|none=>[]|some h=>[(some (h+1),none)]
theorem ZC(lo hi:En):fT (lo,hi)=Mq lo++Mr hi:=by cases lo<;>cases hi<;>rfl
inductive ZD(K:acr)(vs:List V)(H:Hp)(Q:VK)(aS:XK):Prop
 | mk(p:acF)(s:S2)(_:vs=[.ref p])(_:H p=some (.tup [ev s.1,ev s.2]))(_:∀ l xs H',ah H H'->H l=none->H' l=some (.lst xs)->k7 H' xs (fT s)->Q (.ref l) H')
theorem ZE(T:Tx K mg):Ok P w base 1 T.uh (ZD K):=by
 refine bH tW ?_;rintro _ _ _ s H _ _ _ _ ⟨p,⟨lo,hi⟩,rfl,hp,q⟩;refine⟨_,(ar (aL 1 tW.nd (lV (dO (aw (aa 0) af)) (cu ag) (cu (ae (aN (ae bF (ae (aE cQ (aw (aa 0) af) af) ag))) ag)))) (ar (aL 2 tW.nd (lV (dO (aw (aa 0) af)) (cu ag) (cu (ae (aN (ae (aE bC (aw (aa 0) af) af) (ae bF ag))) ag)))) (au (aA (aE l4 (aa 1) (aa 2)))))),?_⟩;replace hp:H p=some (.tup [ev lo,ev hi]):=hp;rw[ZC] at q;refine aC (λσ H1=>∃ a xs,σ=[some (.ref p),some (.ref a),none]/\ah H H1/\H1 a=some (.lst xs)/\xs.length<=1/\ax (λv (s:S2)=>aM H1 v s.1 s.2) xs (Mq lo)) (λN hN=>?_) ?_
 .clear q;rcases lo with _|lo
  .rfl';refine aI hp ?_;rfl';exact⟨by decide,λa ha=>hN _ _ ⟨a,[],rfl,aj ha,aq,by decide,trivial⟩⟩
  .rfl';refine aI hp ?_;rfl';refine aI hp ?_;rfl';exact⟨aW,λta ED=>⟨by decide,λa ha=>hN _ _ ⟨a,[.ref ta],rfl,(aj ED).trans (aj ha),aq,acC _,⟨ta,rfl,(aj ha) _ _ aq⟩,trivial⟩⟩⟩
 rintro _ yR σ H1 ⟨a,xs,rfl,s1,ha,xl,hx⟩;subst yR;refine aC (λσ H2=>∃ b ys,σ=[some (.ref p),some (.ref a),some (.ref b)]/\ah H1 H2/\H2 b=some (.lst ys)/\ys.length<=1/\ax (λv (s:S2)=>aM H2 v s.1 s.2) ys (Mr hi)) (λN hN=>?_) ?_
 .clear q;replace hp:=s1 _ _ hp;rcases hi with _|hi
  .rfl';refine aI hp ?_;rfl';exact⟨by decide,λa ha=>hN _ _ ⟨a,[],rfl,aj ha,aq,by decide,trivial⟩⟩
  .rfl';refine aI hp ?_;rfl';refine aI hp ?_;rfl';exact⟨aW,λta ED=>⟨by decide,λa ha=>hN _ _ ⟨a,[.ref ta],rfl,(aj ED).trans (aj ha),aq,acC _,⟨ta,rfl,(aj ha) _ _ aq⟩,trivial⟩⟩⟩
 rintro _ yR σ H2 ⟨b,ys,rfl,s2,hb,yl,hy⟩;subst yR;rfl';exact⟨_,s2 _ _ ha,_,hb,acA (by lia:xs.length+ys.length<=2) (by decide),λc hc=>q c _ _ (s1.trans (s2.trans (aj hc))) ((s1.trans s2).free hc) aq (km.mpr (ax.app (hx.imp λ_ _ z=>aM.same z (s2.trans (aj hc))) (hy.imp λ_ _ z=>aM.same z (aj hc))))⟩
inductive ZF(K:acr)(vs:List V)(H:Hp)(Q:VK)(aS:XK):Prop
 | mk(a:acF)(xs:List V)(ps:List Pa)(_:vs=[.ref a])(_:ai K H a xs)(_:dB H xs ps)(_:ps.length<=100)(_:∀ l ys H',ah H H'->H l=none->H' l=some (.lst ys)->ax (cK H H') ys (cp ps)->Q (.ref l) H')
inductive ZG(H:Hp)(a l:acF)(ps:List Pa)(i:Nat)(σ:St)(H1:Hp):Prop
 | mk(ys:List V)(e:Option V)(_:σ=[some (.ref a),some (.ref l),e])(_:ah H H1)(_:H1 l=some (.lst ys))(_:ax (iT H l H1) ys (cp (ps.take i)))(_:ys.length<=2 * i)
theorem yo(T:Tx K mg):Ok P w base 2 T.ui (ZF K):=by
 refine bH tX ?_;rintro _ _ _ s H _ Q _ hr ⟨a,xs,ps,rfl,hS,hP,hn,q⟩;refine⟨_,(ar (aL 1 tX.nd (cu ag)) (ar (c6 adl rfl (cB (aa 0)) (cz 2 tX.nd) (au (eI (kW adF ahw ahx GH (aa 1) (ae (dm (cO [2] ["part"]) rfl (cB (aJ (ZE T) hr (ae (aw (aa 2) af) ag))) (λC s2 H2 ex pn=>⟨dz,(cu (ae (aN (ae (bT (K:=K) (aa 1) af) (ae (bT (K:=K) (aa 1) af) (ae (aa 0) ag)))) ag))⟩)) ag))))) (au (aA (aa 1))))),?_⟩;have hl:=hP.len;rfl';refine⟨by decide,λl eY=>?_⟩;have s1:=aj (o:=.lst []) eY;have e1:upd H l (.lst []) l=some (.lst []):=aq;generalize upd H l (.lst [])=H1 at s1 e1 ⊢;refine⟨⟨_,s1.seq hS⟩,gx (xs:=xs) (ZG H a l ps) ⟨[],_,rfl,s1,e1,trivial,ac5 _⟩ ?_ ?_ ?_⟩
 .rintro i σ H2 _ ⟨_,_,_,s2,_⟩;exact s2.seq hS
 .rintro i x σ H2 hx ⟨ys,e,rfl,s2,bh,hy,hlen⟩;obtain⟨p,hp,tp,sp,rfl,h1,h2⟩:=hP.get hx;have qc:=s2 _ _ h1;have sR:=s2 _ _ h2;rfl';refine⟨.inl ⟨rfl,_,ai.of bh⟩,aI qc ?_⟩;refine⟨sp,p.2.2,rfl,sR,λo os H3 s3 _ ho sJ=>?_⟩;rfl';have tF:=km.mp sJ;have JR:=tF.len;have h2o:=sY p.2.2;refine⟨⟨_,ai.of ho⟩,cN iI (acA (by lia:os.length<=2) (by decide)) (gi (R:=λH x (s:S2)=>aM H x s.1 s.2) (R':=iT H l) (f:=λs=>[((p.1,p.2.1,s):Pa)]) (λ_ _ _ _ s' h=>h.same s') (λ_ _ _ _ s' h=>h.same s') tF (bs:=[]) trivial (λH' s'=>ai.of (s' _ _ ho)) (λx k _ H4 s4 r Q h=>?_) (λx k _ H4 s4 r Q h=>?_) λH4 zs s4 hz=>?_)⟩
  .rfl';exact h
  .obtain⟨xo,rfl,hxo⟩:=r;have S4:=s3.trans s4;rfl';refine az (ak.of (S4 _ _ qc)) rfl (az (ak.of (S4 _ _ qc)) rfl ⟨by decide,λt ht=>⟨by decide,λc hc=>?_⟩⟩);have u1:=aj (o:=.tup [.str p.1,.int p.2.1,.ref xo]) ht;have u2:=aj (o:=.lst [.ref t]) hc;have cl:c≠l:=λz=>by rw[z,u1 _ _ (S4 _ _ bh)] at hc;cases hc
   exact h _ _ (u1.trans u2) ⟨c,[.ref t],rfl,cl,(s2.trans (S4.trans u1)).free hc,aq,⟨t,xo,rfl,u2 _ _ aq,(u1.trans u2) _ _ hxo⟩,trivial⟩
  .intro b hb;rw[acT] at hz;have S4:=s3.trans s4;have u:=aj (o:=.lst zs) hb;have EE:=hz.len;rw[acs] at EE;have hi:i<xs.length:=(acz.mp hx).1;refine⟨l,b,_,_,rfl,rfl,u _ _ (S4 _ _ bh),aq,acA (by lia:ys.length+zs.length<=300) (by decide),ys++zs,_,rfl,jt eY (s2.trans (S4.trans u)),aq,?_,by rw[ac1];lia⟩;rw[UQ hp];have a1:=(hy.imp λ_ _ r=>(r.same (S4.trans u)).put (o:=.lst (ys++zs)) (u _ _ (S4 _ _ bh)))
   have a2:=(hz.imp λ_ _ r=>(r.same u).put (o:=.lst (ys++zs)) (u _ _ (S4 _ _ bh)))
   exact a1.app a2
 .rintro σ H2 ⟨ys,e,rfl,s2,bh,hy,hlen⟩;rfl';rw[hl,adu] at hy;exact q l ys H2 s2 eY bh (hy.imp λ_ _ r=>r.JX)
inductive ZH(K:acr)(vs:List V)(H:Hp)(Q:VK)(aS:XK):Prop
 | mk(i j:Int)(p:acF)(s:S2)(_:vs=[.int i,.int j,.ref p])(_:H p=some (.tup [ev s.1,ev s.2]))(_:(0<=i/\i<=12))(_:(-1<=j/\j<=11))(_:∀ l xs H',ah H H'->H l=none->H' l=some (.lst xs)->dB H' xs (bp i j s)->Q (.ref l) H')
theorem yq(T:Tx K mg):Ok P w base 1 T.uj (ZH K):=by
 refine bH C5 ?_;rintro _ _ _ s _ _ Q _ _ ⟨i,j,p,s,rfl,hp,hi,hj,q⟩;refine⟨_,(au (aA (dm (cO [2] ["one"]) rfl (rT rfl T.eX (ae (aa 0) (ae (aE bC (aa 1) af) ag))) (λC s2 H2 ex pn=>⟨dz,(aN (ae aR (ae (aa 0) (ae (aa 1) ag))))⟩)))),?_⟩;rfl';refine⟨by lia,by lia,by lia,by lia,cN iJ (by rw[acs,acH];exact acA (by lia:_<=20) (by decide)) (gi (R:=λ_ x (k:Nat)=>x=V.int (i+k)) (R':=iP) (f:=λ(k:Nat)=>(("at",i+(k:Int),s):Pa)) (λ_ _ _ _ _ h=>h) (λ_ _ _ _ s' h=>h.same s') (ax.fZ _) (bs:=[]) trivial (λ_ _=>trivial) (λx k _ H2 s2 r Q h=>?_) (λx k _ H2 s2 r Q h=>?_) λH2 zs s2 hz=>?_)⟩
 .rfl';exact h
 .subst r;rfl';exact⟨by decide,λt ht=>h _ _ (aj ht) ⟨t,p,rfl,aq,(aj ht) _ _ (s2 _ _ hp)⟩⟩
 .intro l hl;refine q l zs _ (s2.trans (aj hl)) (s2.free hl) aq ?_;rw[acT] at hz;exact hz.imp λ_ _ r=>r.same (aj hl)
inductive ZI(K:acr)(vs:List V)(H:Hp)(Q:VK)(aS:XK):Prop
 | mk(x C dx p:acF)(fs:List (Str × V))(i j:Int)(s:S2)(_:vs=[.ref x,.ref p])(_:H x=some (.ins C dx fs))(_:b6 K C)(_:bW K C "first")(_:bW K C "last")(_:fs.lookup ("first" : Str)=some (.int i))(_:fs.lookup ("last" : Str)=some (.int j))(_:cg i j)(_:H p=some (.tup [ev s.1,ev s.2]))(_:∀ l xs H',ah H H'->H l=none->H' l=some (.lst xs)->dB H' xs (bp i j s)->Q (.ref l) H')
theorem rB(T:Tx K mg):Om P w mg base 2 T.eE (ZI K):=by refine fg C8 ?_;rintro _ _ _ s _ _ _ _ hr ⟨x,C,dx,p,fs,i,j,s,rfl,hx,hc,n1,n2,l1,l2,hk,hp,q⟩;refine⟨_,(au (aA (aJ (yq T) hr (ae (bE rfl (aa 0) rfl) (ae (bE rfl (aa 0) rfl) (ae (aa 1) ag)))))),?_⟩;obtain⟨k1,k2,k3⟩:=hk;rfl';refine⟨_,_,_,hx,hc,n1,_,l1,_,_,_,hx,hc,n2,_,l2,?_⟩;exact⟨i,j,p,s,rfl,hp,by lia,by lia,q⟩
inductive ZJ(C:acF)(vs:List V)(H:Hp)(Q:VK)(aS:XK):Prop
 | mk(x dx p:acF)(i j:Int)(s:S2)(_:vs=[.ref x])(_:H x=some (.ins C dx [("first",.int i),("last",.int j),("stretch",.ref p)]))(_:cg i j)(_:H p=some (.tup [ev s.1,ev s.2]))(_:∀ l ys H',ah H H'->H l=none->H' l=some (.lst ys)->ax (cK H H') ys [bp i j s]->Q (.ref l) H')
theorem ZK(T:Tx K mg):Om P w mg base 3 T.mS (ZJ T.b8):=by refine fg Dc ?_;rintro _ _ _ s _ _ _ _ hr ⟨x,dx,p,i,j,s,rfl,hx,hk,hp,q⟩;refine⟨_,(au (aA (cu (ae (eS (aa 0) T.gP T.Lh (rB T) hr.m T.eE.b .nil bI (ae (bE rfl (aa 0) rfl) ag)) ag)))),?_⟩;rfl';refine⟨_,_,hx,rfl,_,_,_,hx,T.gP,T.uT,_,rfl,?_⟩;exact⟨x,T.b8,dx,p,_,i,j,s,rfl,hx,T.gP,T.uS,T.qT,rfl,rfl,hk,hp,λl xs H1 s1 fl hl hP=>⟨by decide,λc hc=>q c _ _ (s1.trans (aj hc)) (s1.free hc) aq ⟨⟨l,xs,rfl,fl,(aj hc) _ _ hl,hP.same (aj hc)⟩,trivial⟩⟩⟩
inductive ZL(C:acF)(vs:List V)(H:Hp)(Q:VK)(aS:XK):Prop
 | mk(x dx:acF)(i j z:Int)(_:vs=[.ref x])(_:H x=some (.ins C dx [("first",.int i),("last",.int j),("sill",.int z)]))(_:cg i j)(_:∀ l ys H',ah H H'->H l=none->H' l=some (.lst ys)->ax (cK H H') ys (cp (bp i j (none,some (z-1))))->Q (.ref l) H')
theorem ZM(T:Tx K mg):Om P w mg base 3 T.mU (ZL T.b9):=by refine fg Df ?_;rintro _ _ _ _ _ _ _ _ hr ⟨x,dx,i,j,z,rfl,hx,hk,q⟩;refine⟨_,(au (aA (aJ (yo T) hr (ae (eS (aa 0) T.gQ T.Li (rB T) hr.m T.eE.b .nil bI (ae (aN (ae bF (ae (aE cQ (bE rfl (aa 0) rfl) af) ag))) ag)) ag)))),?_⟩;rfl';refine⟨_,_,hx,rfl,_,_,_,hx,T.gQ,T.uV,_,rfl,aW,λt ht=>?_⟩;have s0:=aj (o:=.tup [.non,.int (z-1)]) ht;refine⟨x,T.b9,dx,t,_,i,j,(none,some (z-1)),rfl,s0 _ _ hx,T.gQ,T.uU,T.qU,rfl,rfl,hk,aq,λl xs H1 s1 _ hl hP=>?_⟩;have hlen:=iU i j (none,some (z-1));obtain⟨k1,k2,k3⟩:=id hk;exact⟨l,xs,_,rfl,ai.of hl,hP,by lia,λc ys H2 s2 fc hc hy=>q c ys H2 (s0.trans (s1.trans s2)) ((s0.trans s1).free fc) hc (hy.imp λ_ _ r=>r.back (s0.trans s1))⟩
inductive ZN(C:acF)(vs:List V)(H:Hp)(Q:VK)(aS:XK):Prop
 | mk(x dx:acF)(i j z:Int)(_:vs=[.ref x])(_:H x=some (.ins C dx [("first",.int i),("last",.int j),("sill",.int z)]))(_:cg i j)(_:∀ l ys H',ah H H'->H l=none->H' l=some (.lst ys)->ax (cK H H') ys (cp (bp i j (some (z+1),none)))->Q (.ref l) H')
theorem ZO(T:Tx K mg):Om P w mg base 3 T.mW (ZN T.cc):=by refine fg Di ?_;rintro _ _ _ _ _ _ _ _ hr ⟨x,dx,i,j,z,rfl,hx,hk,q⟩;refine⟨_,(au (aA (aJ (yo T) hr (ae (eS (aa 0) T.gR T.Lj (rB T) hr.m T.eE.b .nil bI (ae (aN (ae (aE bC (bE rfl (aa 0) rfl) af) (ae bF ag))) ag)) ag)))),?_⟩;rfl';refine⟨_,_,hx,rfl,_,_,_,hx,T.gR,T.uX,_,rfl,aW,λt ht=>?_⟩;have s0:=aj (o:=.tup [.int (z+1),.non]) ht;refine⟨x,T.cc,dx,t,_,i,j,(some (z+1),none),rfl,s0 _ _ hx,T.gR,T.uW,T.qV,rfl,rfl,hk,aq,λl xs H1 s1 _ hl hP=>?_⟩;have hlen:=iU i j (some (z+1),none);obtain⟨k1,k2,k3⟩:=id hk;exact⟨l,xs,_,rfl,ai.of hl,hP,by lia,λc ys H2 s2 fc hc hy=>q c ys H2 (s0.trans (s1.trans s2)) ((s0.trans s1).free fc) hc (hy.imp λ_ _ r=>r.back (s0.trans s1))⟩
noncomputable def yr(i j l h:Int)(n:Nat):List (List Pa):=(acD n).flatMap λk=>(bp (i+(k:Nat)+1) j (some h,none)).map λp=>[(("at",i+(k:Nat),none,some l):Pa),p]
theorem ZP(i j l h:Int)(n:Nat):yr i j l h (n+1)=yr i j l h n++(bp (i+(n:Nat)+1) j (some h,none)).map λp=>[(("at",i+(n:Nat),none,some l):Pa),p]:=by unfold yr;rw[akl,aiS];simp
inductive ZQ(H:Hp)(x r:acF)(i j l h:Int)(n:Nat)(σ:St)(H1:Hp):Prop
 | mk(ys:List V)(e1 e2:Option V)(_:σ=[some (.ref x),some (.ref r),e1,e2])(_:ah H H1)(_:H1 r=some (.lst ys))(_:ax (iT H r H1) ys (yr i j l h n))(_:ys.length<=12 * n)
inductive ZR(C:acF)(vs:List V)(H:Hp)(Q:VK)(aS:XK):Prop
 | mk(x dx:acF)(i j l h:Int)(_:vs=[.ref x])(_:H x=some (.ins C dx [("first",.int i),("last",.int j),("low",.int l),("high",.int h)]))(_:cg i j)(_:∀ r ys H',ah H H'->H r=none->H' r=some (.lst ys)->ax (cK H H') ys (iV i j l h)->Q (.ref r) H')
theorem ZS(T:Tx K mg):Om P w mg base 2 T.mY (ZR T.cf):=by
 refine fg qL ?_;rintro _ _ _ s H _ Q _ hr ⟨x,dx,i,j,l,h,rfl,hx,hk,q⟩;refine⟨_,(ar (aL 1 qL.nd (cu ag)) (ar (c6 adl rfl (rT rfl T.eX (ae (bE rfl (aa 0) rfl) (ae (bE rfl (aa 0) rfl) ag))) (cz 2 qL.nd) (ar (aL 3 qL.nd (cu (ae (aN (ae aR (ae (aa 2) (ae (aN (ae bF (ae (bE rfl (aa 0) rfl) ag))) ag)))) ag))) (au (eI (kW adF ahw ahx GH (aa 1) (ae (dm (cO [3] ["lows"]) rfl (cB (aJ (yq T) hr (ae (aE bC (aa 2) af) (ae (bE rfl (aa 0) rfl) (ae (aN (ae (bE rfl (aa 0) rfl) (ae bF ag))) ag))))) (λC s2 H2 ex pn=>⟨dz,(aE l4 (aa 1) (cu (ae (aa 0) ag)))⟩)) ag)))))) (au (aA (aa 1))))),?_⟩;obtain⟨k1,k2,k3⟩:=id hk;rfl';refine⟨by decide,λr dD=>?_⟩;have s1:=aj (o:=.lst []) dD;have e1:upd H r (.lst []) r=some (.lst []):=aq;generalize upd H r (.lst [])=H1 at s1 e1 ⊢;refine⟨_,_,_,s1 _ _ hx,T.eN,T.qW,_,rfl,_,_,_,s1 _ _ hx,T.eN,T.nz,_,rfl,_,rfl,_,rfl,by lia,by lia,by lia,by lia,?_⟩;refine sG (ZQ H x r i j l h) ⟨[],_,_,rfl,s1,e1,trivial,ac5 _⟩ ?_ ?_
 .rintro k σ H2 kC ⟨ys,_,_,rfl,s2,o5,hy,hlen⟩;rfl';refine⟨_,_,_,s2 _ _ hx,T.eN,T.uY,_,rfl,aW,λa ha=>⟨by decide,λb hb=>⟨by decide,λlo ZT=>?_⟩⟩⟩;have sa:=aj (o:=.tup [.non,.int l]) ha;have sb:=aj (o:=.tup [.str "at",.int (i+(k:Int)),.ref a]) hb;have sl:=aj (o:=.lst [.ref b]) ZT;have S3:=sa.trans (sb.trans sl);have eb:iP (upd (upd (upd H2 a (.tup [.non,.int l])) b (.tup [.str "at",.int (i+(k:Int)),.ref a])) lo (.lst [.ref b])) (.ref b) (("at",i+(k:Int),none,some l):Pa):=⟨b,a,rfl,sl _ _ aq,(sb.trans sl) _ _ aq⟩
  have Ms:(upd (upd (upd H2 a (.tup [.non,.int l])) b (.tup [.str "at",.int (i+(k:Int)),.ref a])) lo (.lst [.ref b])) lo=some (.lst [.ref b]):=aq;generalize upd (upd (upd H2 a (.tup [.non,.int l])) b (.tup [.str "at",.int (i+(k:Int)),.ref a])) lo (.lst [.ref b])=H3 at S3 eb Ms ⊢;rfl';have vx:=S3 _ _ o5;have vy:=S3 _ _ (s2 _ _ hx);refine⟨.inl ⟨rfl,_,ai.of vx⟩,_,_,_,vy,T.eN,T.nz,_,rfl,_,_,_,vy,T.eN,T.uZ,_,rfl,aW,λc hc=>?_⟩;have sc:=aj (o:=.tup [.int h,.non]) hc;refine⟨_,_,c,(some h,none),rfl,aq,by lia,by lia,λg gs H4 s4 _ hg hG=>?_⟩;have S4:=sc.trans s4;have ig:=hG.len;rw[iU] at ig;rfl';refine⟨⟨_,ai.of hg⟩,cN iI (acA (by lia:gs.length<=12) (by decide)) (gi (R:=iP) (R':=iT H r) (f:=λp=>[(("at",i+(k:Int),none,some l):Pa),p]) (λ_ _ _ _ s' h=>h.same s') (λ_ _ _ _ s' h=>h.same s') hG (bs:=[]) trivial (λH' s'=>ai.of (s' _ _ hg)) (λx k _ H5 s5 r Q h=>?_) (λy p _ H5 s5 ry Q h=>?_) λH5 zs s5 hz=>?_)⟩
  .rfl';exact h
  .have S5:=S4.trans s5;rfl';refine⟨by decide,λd hd=>?_⟩;have sd:=aj (o:=.lst [y]) hd;refine⟨_,sd _ _ (S5 _ _ Ms),_,aq,(show 2<=acV by decide),λm hm=>?_⟩;have sm:=aj (o:=.lst ([.ref b]++[y])) hm;have mr:m≠r:=λz=>by rw[z,sd _ _ (S5 _ _ vx)] at hm;cases hm
   exact h _ _ (sd.trans sm) ⟨m,[.ref b,y],rfl,mr,(s2.trans (S3.trans (S5.trans sd))).free hm,aq,(eb.same (S5.trans (sd.trans sm))),ry.same (sd.trans sm),trivial⟩
  .intro d hd;rw[acT] at hz;have u:=(S4.trans s5).trans (aj (o:=.lst zs) hd);have EE:=hz.len;rw[acs,iU] at EE;refine⟨r,d,_,_,rfl,rfl,u _ _ vx,aq,acA (by lia:ys.length+zs.length<=300) (by decide),ys++zs,_,_,rfl,jt dD (s2.trans (S3.trans u)),aq,?_,by rw[ac1];lia⟩;rw[ZP];have a1:=(hy.imp λ_ _ z=>(z.same (S3.trans u)).put (o:=.lst (ys++zs)) (u _ _ vx))
   have a2:=(hz.imp λ_ _ z=>(z.same (aj (o:=.lst zs) hd)).put (o:=.lst (ys++zs)) (u _ _ vx))
   exact a1.app a2
 .rintro σ H2 ⟨ys,_,_,rfl,s2,o5,hy,hlen⟩;rfl';exact q r ys H2 s2 dD o5 (hy.imp λ_ _ z=>z.JX)
inductive ZU(C:acF)(vs:List V)(H:Hp)(Q:VK)(aS:XK):Prop
 | mk(x dx p:acF)(i j:Int)(s:S2)(_:vs=[.ref x])(_:H x=some (.ins C dx [("first",.int i),("last",.int j),("stretch",.ref p)]))(_:cg i j)(_:H p=some (.tup [ev s.1,ev s.2]))(_:∀ l ys H',ah H H'->H l=none->H' l=some (.lst ys)->ax (cK H H') ys (cp (bp i j s))->Q (.ref l) H')
theorem ZV(T:Tx K mg):Om P w mg base 3 T.mT (ZU T.b8):=by refine fg Dd ?_;rintro _ _ _ s _ _ _ _ hr ⟨x,dx,p,i,j,s,rfl,hx,hk,hp,q⟩;refine⟨_,(au (aA (aJ (yo T) hr (ae (eS (aa 0) T.gP T.Lh (rB T) hr.m T.eE.b .nil bI (ae (bE rfl (aa 0) rfl) ag)) ag)))),?_⟩;rfl';refine⟨_,_,hx,rfl,_,_,_,hx,T.gP,T.uT,_,rfl,?_⟩;have hlen:=iU i j s;obtain⟨k1,k2,k3⟩:=id hk;exact⟨x,T.b8,dx,p,_,i,j,s,rfl,hx,T.gP,T.uS,T.qT,rfl,rfl,hk,hp,λl xs H1 s1 _ hl hP=>⟨l,xs,_,rfl,ai.of hl,hP,by lia,λc ys H2 s2 fc hc hy=>q c ys H2 (s1.trans s2) (s1.free fc) hc (hy.imp λ_ _ r=>r.back s1)⟩⟩
inductive ZW(C:acF)(vs:List V)(H:Hp)(Q:VK)(aS:XK):Prop
 | mk(x dx:acF)(i j z:Int)(_:vs=[.ref x])(_:H x=some (.ins C dx [("first",.int i),("last",.int j),("sill",.int z)]))(_:cg i j)(_:∀ l ys H',ah H H'->H l=none->H' l=some (.lst ys)->ax (cK H H') ys [bp i j (none,some (z-1))]->Q (.ref l) H')
theorem ZX(T:Tx K mg):Om P w mg base 3 T.mV (ZW T.b9):=by refine fg Dg ?_;rintro _ _ _ _ _ _ _ _ hr ⟨x,dx,i,j,z,rfl,hx,hk,q⟩;refine⟨_,(au (aA (cu (ae (eS (aa 0) T.gQ T.Li (rB T) hr.m T.eE.b .nil bI (ae (aN (ae bF (ae (aE cQ (bE rfl (aa 0) rfl) af) ag))) ag)) ag)))),?_⟩;rfl';refine⟨_,_,hx,rfl,_,_,_,hx,T.gQ,T.uV,_,rfl,aW,λt ht=>?_⟩;have s0:=aj (o:=.tup [.non,.int (z-1)]) ht;exact⟨x,T.b9,dx,t,_,i,j,(none,some (z-1)),rfl,s0 _ _ hx,T.gQ,T.uU,T.qU,rfl,rfl,hk,aq,λl xs H1 s1 fl hl hP=>⟨by decide,λc hc=>q c _ _ (s0.trans (s1.trans (aj hc))) ((s0.trans s1).free hc) aq ⟨⟨l,xs,rfl,s0.free fl,(aj hc) _ _ hl,hP.same (aj hc)⟩,trivial⟩⟩⟩
inductive ZY(C:acF)(vs:List V)(H:Hp)(Q:VK)(aS:XK):Prop
 | mk(x dx:acF)(i j z:Int)(_:vs=[.ref x])(_:H x=some (.ins C dx [("first",.int i),("last",.int j),("sill",.int z)]))(_:cg i j)(_:∀ l ys H',ah H H'->H l=none->H' l=some (.lst ys)->ax (cK H H') ys [bp i j (some (z+1),none)]->Q (.ref l) H')
theorem ZZ(T:Tx K mg):Om P w mg base 3 T.mX (ZY T.cc):=by refine fg Dj ?_;rintro _ _ _ _ _ _ _ _ hr ⟨x,dx,i,j,z,rfl,hx,hk,q⟩;refine⟨_,(au (aA (cu (ae (eS (aa 0) T.gR T.Lj (rB T) hr.m T.eE.b .nil bI (ae (aN (ae (aE bC (bE rfl (aa 0) rfl) af) (ae bF ag))) ag)) ag)))),?_⟩;rfl';refine⟨_,_,hx,rfl,_,_,_,hx,T.gR,T.uX,_,rfl,aW,λt ht=>?_⟩;have s0:=aj (o:=.tup [.int (z+1),.non]) ht;exact⟨x,T.cc,dx,t,_,i,j,(some (z+1),none),rfl,s0 _ _ hx,T.gR,T.uW,T.qV,rfl,rfl,hk,aq,λl xs H1 s1 fl hl hP=>⟨by decide,λc hc=>q c _ _ (s0.trans (s1.trans (aj hc))) ((s0.trans s1).free hc) aq ⟨⟨l,xs,rfl,s0.free fl,(aj hc) _ _ hl,hP.same (aj hc)⟩,trivial⟩⟩⟩
noncomputable def lQ(i j l h:Int):List (List Pa):=(acD (j+1-i).toNat).map λk=>bp i (i+(k:Nat)-1) (some (l+1),none)++bp (i+(k:Nat)+1) j (none,some (h-1))
inductive Z0(C:acF)(vs:List V)(H:Hp)(Q:VK)(aS:XK):Prop
 | mk(x dx:acF)(i j l h:Int)(_:vs=[.ref x])(_:H x=some (.ins C dx [("first",.int i),("last",.int j),("low",.int l),("high",.int h)]))(_:cg i j)(_:∀ r ys H',ah H H'->H r=none->H' r=some (.lst ys)->ax (cK H H') ys (lQ i j l h)->Q (.ref r) H')
theorem Z1(T:Tx K mg):Om P w mg base 2 T.mZ (Z0 T.cf):=by
 refine fg Dl ?_;rintro _ _ _ s H _ Q _ hr ⟨x,dx,i,j,l,h,rfl,hx,hk,q⟩;refine⟨_,(au (aA (dm (cO [0] ["self"]) rfl (rT rfl T.eX (ae (bE rfl (aa 0) rfl) (ae (aE bC (bE rfl (aa 0) rfl) af) ag))) (λC s2 H2 ex pn=>⟨dz,(aE l4 (aJ (yq T) hr (ae (bE (K:=K) rfl (aa 1) rfl) (ae (aE cQ (aa 0) af) (ae (aN (ae (aE bC (bE (K:=K) rfl (aa 1) rfl) af) (ae bF ag))) ag)))) (aJ (yq T) hr (ae (aE bC (aa 0) af) (ae (bE (K:=K) rfl (aa 1) rfl) (ae (aN (ae bF (ae (aE cQ (bE (K:=K) rfl (aa 1) rfl) af) ag))) ag)))))⟩)))),?_⟩;obtain⟨k1,k2,k3⟩:=id hk;rfl';refine⟨_,_,_,hx,T.eN,T.qW,_,rfl,_,_,_,hx,T.eN,T.nz,_,rfl,_,rfl,by lia,by lia,by lia,by lia,?_⟩;refine cN iJ (by rw[acs,acH];exact acA (by lia:_<=20) (by decide)) (gi (R:=λ_ x (k:Nat)=>x=V.int (i+k)) (R':=cK H) (f:=λ(k:Nat)=>bp i (i+(k:Int)-1) (some (l+1),none)++bp (i+(k:Int)+1) j (none,some (h-1))) (λ_ _ _ _ _ h=>h) (λ_ _ _ _ s' h=>h.same s') (ax.fZ _) (bs:=[]) trivial (λ_ _=>trivial) (λx k _ H2 s2 r Q h=>?_) (λy k Mt H2 s2 r Q hq=>?_) λH2 zs s2 hz=>?_)
 .rfl';exact h
 .subst r;have Mt:=acY.mp Mt;rfl';have rg:=s2 _ _ hx;refine⟨_,_,_,rg,T.eN,T.qW,_,rfl,_,_,_,rg,T.eN,T.uY,_,rfl,aW,λa ha=>?_⟩;have sa:=aj (o:=.tup [.int (l+1),.non]) ha;refine⟨_,_,a,(some (l+1),none),rfl,aq,by lia,by lia,λg gs H3 s3 _ hg hG=>?_⟩;have vy:=(sa.trans s3) _ _ rg;rfl';refine⟨_,_,_,vy,T.eN,T.nz,_,rfl,_,_,_,vy,T.eN,T.uZ,_,rfl,aW,λb hb=>?_⟩;have sb:=aj (o:=.tup [.non,.int (h-1)]) hb;refine⟨_,_,b,(none,some (h-1)),rfl,aq,by lia,by lia,λd ds H4 s4 _ hd hD=>?_⟩;have S4:=sb.trans s4;have l1:=hG.len;have l2:=hD.len;rw[iU] at l1 l2;rfl';refine⟨gs,S4 _ _ hg,ds,hd,acA (by lia:gs.length+ds.length<=40) (by decide),λc hc=>?_⟩;have sc:=aj (o:=.lst (gs++ds)) hc;exact hq _ _ ((sa.trans s3).trans (S4.trans sc)) ⟨c,gs++ds,rfl,(s2.trans ((sa.trans s3).trans S4)).free hc,aq,ax.app (dB.same hG (S4.trans sc)) (dB.same hD sc)⟩
 .intro c hc;refine q c zs _ (s2.trans (aj hc)) (s2.free hc) aq ?_;rw[acT] at hz;exact hz.imp λ_ _ r=>r.same (aj hc)
theorem Z2(hl:H1 l=some (.lst ys))(hM:ax (dC H1) ys ms)(s:ah H1 H'):oq K l ys (rowOf H1) 2 H':=by refine⟨ai.of (s _ _ hl),λx hx=>?_⟩;obtain⟨i,hi⟩:=adD.mp hx;obtain⟨m,_,t,p,rfl,h1,h2⟩:=hM.get hi;rw[mv h1];exact⟨t,rfl,ak.of (s _ _ h1),rfl⟩
noncomputable def jT(ms:List Mk):List Pa:=ms.map λm=>("at",(m.1:Int),m.2)
noncomputable def kJ:List Mk->Int
 | []=>0
 | ms=>eU (ms.map λm=>(m.1:Int))
inductive kK(C:acF)(H:Hp)(v:acF)(ms:List Mk):Prop
 | mk(dx l:acF)(ys:List V)(_:H v=some (.ins C dx [("marks",.ref l)]))(_:H l=some (.lst ys))(_:ax (dC H) ys ms)
theorem kK.same(h:kK C H v ms)(s:ah H H'):kK C H' v ms:=let ⟨dx,l,ys,a,b,c⟩:=h;⟨dx,l,ys,s _ _ a,s _ _ b,c.imp λ_ _ r=>r.same s⟩
inductive Z3(C:acF)(vs:List V)(H:Hp)(Q:VK)(aS:XK):Prop
 | mk(x dx:acF)(v:V)(_:vs=[.ref x,v])(_:H x=some (.ins C dx []))(_:Q .non (upd H x (.ins C dx [("marks",v)])))
theorem Z4(T:Tx K mg):Om P w mg base 1 T.oN (Z3 T.cR):=by refine fg Dm ?_;rintro _ _ _ _ _ _ _ _ _ ⟨x,dx,v,rfl,hx,q⟩;refine⟨_,(au (gL (aa 0) (aa 1) rfl)),?_⟩;rfl';exact⟨_,_,_,hx,T.kH,T.u5,(by show 0<1000;decide),q⟩
theorem Z5(ms:List Mk):mf eU (ms.map λm=>(m.1:Int)) (.int 0) = .int (kJ ms):=by
 cases ms with
 | nil=>rfl
 | cons m ms=>rfl
inductive Z6(C:acF)(vs:List V)(H:Hp)(Q:VK)(aS:XK):Prop
 | mk(v:acF)(ms:List Mk)(_:vs=[.ref v])(_:kK C H v ms)(_:ms.length<=60)(_:∀ H',ah H H'->Q (.int (kJ ms)) H')
theorem Z7(T:Tx K mg):Om P w mg base 1 T.m5 (Z6 T.cR):=by
 refine fg Dp ?_;rintro _ _ _ _ H _ Q _ _ ⟨v,ms,rfl,⟨dx,l,ys,hv,hl,hY⟩,bP,q⟩;refine⟨_,(au (aA (Hv rfl rfl T.oQ (dm (cO [] []) rfl (cB (bE rfl (aa 0) rfl)) (λC s2 H2 ex pn=>⟨dz,(bT (K:=K) (aa 0) af)⟩)) af))),?_⟩;have yl:=hY.len;rfl';refine⟨_,_,_,hv,T.kH,T.u5,_,rfl,l,rfl,⟨_,ai.of hl⟩,cN iI (acA (by lia:_<=60) (by decide)) (k6 (R:=dC H) (p:=λ_=>true) (f:=λm=>V.int (m.1:Int)) (ys:=[]) (ai.of hl) hY (λv m _ r Q h=>?_) (λv m _ _ r Q h=>?_) (λl2 bh=>?_))⟩
 .rfl';exact h
 .obtain⟨t,p,rfl,ht,hp⟩:=r;rfl';exact az (ak.of ht) rfl h
 .have ef:([]:List V)++(ms.filter λ_=>true).map (λm=>V.int (m.1:Int))=(ms.map λm=>(m.1:Int)).map V.int:=by rw[acT,aeF.mpr λ_ _=>rfl,ado];rfl
  rw[ef];refine⟨l2,rfl,_,ai.of aq,?_⟩;rw[Z5];exact q _ (aj bh)
inductive Z8(K:acr)(C:acF)(vs:List V)(H:Hp)(Q:VK)(aS:XK):Prop
 | mk(v:acF)(ms:List Mk)(_:vs=[.ref v])(_:kK C H v ms)(_:ms.length<=60)(_:∀ l xs H',ah H H'->H l=none->H' l=some (.lst xs)->dB H' xs (jT ms)->Q (.ref l) H')
theorem Mu(T:Tx K mg):Om P w mg base 1 T.lJ (Z8 K T.cR):=by
 refine fg Dq ?_;rintro _ _ _ s H _ Q _ _ ⟨v,ms,rfl,⟨dx,l,ys,hv,hl,hY⟩,bP,q⟩;refine⟨_,(au (aA (zR (g:=jk K 2 (cL (b5 0) (cL (b5 1) ix))) (ju.mk (own:=["turn","word"]) (fr:=[]) (ys:=[]) rfl (by decide +kernel) rfl (by decide +kernel) rfl .nil .nil rfl) rfl (cB (bE rfl (aa 0) rfl)) (λC s2 H2 ex pn=>j4 (n:=2) rfl (dv (gd (i:=0) (show (["turn","word"]:List Str).Nodup by decide) rfl (.inl (acR rfl)) (.inr (acR rfl))) (dv (gd (i:=1) (show (["turn","word"]:List Str).Nodup by decide) rfl (.inl (acR rfl)) (.inr (acR rfl))) jZ))) (λC s2 H2 ex pn=>⟨dz,(aN (ae aR (ae (aa 0) (ae (aa 1) ag))))⟩)))),?_⟩;have yl:=hY.len;rfl';refine⟨_,_,_,hv,T.kH,T.u5,_,rfl,l,rfl,⟨_,ai.of hl⟩,TC (row:=rowOf H) (acA (by lia:_<=60) (by decide)) (gi (R:=λ_ x (m:Mk)=>dC H x m) (R':=iP) (f:=λm=>(("at",(m.1:Int),m.2):Pa)) (λ_ _ _ _ _ h=>h) (λ_ _ _ _ s' h=>h.same s') hY (bs:=[]) trivial (λH' s'=>Z2 hl hY s') (λx m _ H2 s2 r Q h=>?_) (λx m _ H2 s2 r Q h=>?_) λH2 zs s2 hz=>?_)⟩
 .exact h
 .obtain⟨t,p,rfl,h1,h2⟩:=r;show _;unfold kx;dsimp only;rw[mv h1];rfl';exact⟨by decide,λb hb=>h _ _ (aj hb) ⟨b,p,rfl,aq,(aj hb) _ _ (s2 _ _ h2)⟩⟩
 .rw[acT] at hz;intro b hb;exact q b zs _ (s2.trans (aj hb)) (s2.free hb) aq (hz.imp λ_ _ r=>r.same (aj hb))
theorem Mv(ms:List Mk):(jT ms).length=ms.length:=acs _
inductive Z9(C:acF)(vs:List V)(H:Hp)(Q:VK)(aS:XK):Prop
 | mk(v:acF)(ms:List Mk)(_:vs=[.ref v])(_:kK C H v ms)(_:ms.length<=60)(_:∀ l ys H',ah H H'->H l=none->H' l=some (.lst ys)->ax (cK H H') ys (cp (jT ms))->Q (.ref l) H')
theorem aaa(T:Tx K mg):Om P w mg base 3 T.m6 (Z9 T.cR):=by refine fg Dr ?_;rintro _ _ _ _ _ _ _ _ hr ⟨v,ms,rfl,hL,bP,q⟩;refine⟨_,(au (aA (aJ (yo T) hr (ae (si (aa 0) T.kH T.Ll (Mu T) hr.m T.lJ.b .nil bI) ag)))),?_⟩;obtain⟨dx,l0,ys0,hv,_,_⟩:=id hL;rfl';exact⟨_,_,hv,rfl,v,ms,rfl,hL,bP,λl xs H1 s1 _ hl hP=>⟨l,xs,_,rfl,ai.of hl,hP,by rw[Mv];lia,λc ys H2 s2 fc hc hy=>q c ys H2 (s1.trans s2) (s1.free fc) hc (hy.imp λ_ _ r=>r.back s1)⟩⟩
inductive aab(C:acF)(vs:List V)(H:Hp)(Q:VK)(aS:XK):Prop
 | mk(v:acF)(ms:List Mk)(_:vs=[.ref v])(_:kK C H v ms)(_:ms.length<=60)(_:∀ l ys H',ah H H'->H l=none->H' l=some (.lst ys)->ax (cK H H') ys [jT ms]->Q (.ref l) H')
theorem aac(T:Tx K mg):Om P w mg base 2 T.m8 (aab T.cR):=by refine fg Ds ?_;rintro _ _ _ _ _ _ _ _ hr ⟨v,ms,rfl,hL,bP,q⟩;refine⟨_,(au (aA (cu (ae (si (aa 0) T.kH T.Ll (Mu T) hr.m T.lJ.b .nil bI) ag)))),?_⟩;obtain⟨dx,l0,ys0,hv,_,_⟩:=id hL;rfl';exact⟨_,_,hv,rfl,v,ms,rfl,hL,bP,λl xs H1 s1 fl hl hP=>⟨by decide,λc hc=>q c _ _ (s1.trans (aj hc)) (s1.free hc) aq ⟨⟨l,xs,rfl,fl,(aj hc) _ _ hl,hP.same (aj hc)⟩,trivial⟩⟩⟩
theorem yt:(dE u d ps n).length=n:=by unfold dE;rw[acs,acH]
theorem jU:(eQ ps n).length=n:=by unfold eQ;rw[acs,acH]
theorem yu{G H:Hp}{v:V}{sw gw:List W2}{tb:Tb}{m:Int}(hl:gw.length=sw.length+1)(ht:∀ r∈tb,r.1.2.toNat<gw.length)(A:Et G H v sw gw tb m):∃ r,v = .ref r/\((∃ z,H r=some (.tup [.str "never",z])/\∀ L c,¬ gM sw gw tb m L c) ∨ ∃ k cs L,H r=some (.tup [.str "may",.ref k])/\H k=some (.lst (cs.map V.int))/\G k=none/\cs.length=gw.length/\gM sw gw tb m L (bL cs)):=by
 rcases A with ⟨r,k,j,rfl,h1,h2,h3⟩|⟨r,k,j,rfl,h1,h2,h3⟩|⟨r,k,p,pp,gs,rfl,h1,h2,h3,e1,e2,h4⟩|⟨r,k,cs,pp,gs,es,rfl,h1,h2,h3,h4,e1,e2,h5,h6,h7,h8⟩
 .exact⟨r,rfl,.inl ⟨_,h1,λL c z=>by obtain⟨s,e,_⟩:=z.2.1 j none h3;cases e⟩⟩
 .exact⟨r,rfl,.inl ⟨_,h1,λL c z=>by obtain⟨s,e,_⟩:=z.2.2.1 j none h3;cases e⟩⟩
 .refine⟨r,rfl,.inl ⟨_,h1,λL c z=>?_⟩⟩;subst e1 e2;rw[acs] at hl ht;rw[acs] at hl;exact absurd h4 (K2 z.1 (Bp.mp z.2.1) (Bq.mp z.2.2.1) (by lia) (Bo.mpr z.2.2.2) (λr hr=>by have:=ht r hr;lia) p [] .nil (λx hx=>by cases hx))
 .subst e1 e2;exact⟨r,rfl,.inr ⟨k,cs,es,h1,h2,h3,h4,h7,Bp.mpr h5,Bq.mpr h6,Bo.mp h8⟩⟩
theorem Mw{u d t m:Int}{ps:List Pa}{tb:Tb}{gw:List W2}{L cs:List Int}(hl:cs.length=t.toNat)(F:gM (dE u d ps (t-1).toNat) gw tb m L (bL cs))(k:Nat)(hk:k+1<cs.length) : -d<=dr cs (k+1)-dr cs k/\dr cs (k+1)-dr cs k<=u:=by have h:=F.2.1 k (fG (none,none) ((some (-d),some u)::sel ps "step" (k:Int))) (by unfold dE;rw[acJ,adw (by lia)];rfl);have:=w6.mp h _ (.head _);exact⟨this.1 _ rfl,this.2 _ rfl⟩
theorem Mx{m:Int}{tb:Tb}{sw gw:List W2}{L cs:List Int}(F:gM sw gw tb m L (bL cs))(zs:List Int)(hn:zs.Nodup)(hz:∀ i,i∈zs↔Ee tb cs i):(zs.length:Int)<=m:=by
 have:=Bl (ys:=L) hn λi hi=>by obtain⟨r,hr,rfl,hb⟩:=(hz i).mp hi;refine Decidable.byContradiction λhc=>?_;have:=Av.mp (F.2.2.2 r hr hc);unfold Gz.hs at hb;exact absurd (this.symm.trans hb) (by decide)
 have:=F.1;lia
theorem My(h:p∈ps):p.2.2∈sel ps p.1 p.2.1:=acE.mpr ⟨p,acZ.mpr ⟨h,by simp[ko]⟩,rfl⟩
theorem EF{G H:Hp}{v:V}{sw gw:List W2}{tb:Tb}{m:Int}(A:Et G H v sw gw tb m)(bB:∀ L c,¬ gM sw gw tb m L c):∃ r k,v = .ref r/\H r=some (.tup [.str "never",k])/\jc H k sw gw tb m [] 10:=by
 rcases A with ⟨r,k,j,rfl,h1,h2,h3⟩|⟨r,k,j,rfl,h1,h2,h3⟩|⟨r,k,p,pp,gs,rfl,h1,h2,h3,e1,e2,h4⟩|⟨r,k,cs,pp,gs,es,rfl,h1,h2,h3,h4,e1,e2,h5,h6,h7,h8⟩
 .exact⟨r,_,rfl,h1,.nD k j rfl h2 h3⟩
 .exact⟨r,_,rfl,h1,.gol k j rfl h2 h3⟩
 .exact⟨r,_,rfl,h1,.pap p pp gs h2 (by lia) e1 e2 h4⟩
 .subst e1 e2;exact absurd ⟨h7,Bp.mpr h5,Bq.mpr h6,Bo.mp h8⟩ (bB es (bL cs))
def cA(u d t m:Int)(tb:Tb)(ps:List Pa):Prop:=∃ L c,gM (dE u d ps (t-1).toNat) (eQ ps t.toNat) tb m L c
def nE(H:Hp)(v:V)(ps:List Pa):Prop:=∃ c xs,v = .ref c/\H c=some (.lst xs)/\dB H xs ps
theorem nE.same(h:nE H v ps)(s:ah H H'):nE H' v ps:=let ⟨c,xs,e,a,b⟩:=h;⟨c,xs,e,s _ _ a,b.same s⟩
def gY(u d t m:Int)(tb:Tb)(H:Hp)(v:V)(ps:List Pa):Prop:=jc H v (dE u d ps (t-1).toNat) (eQ ps t.toNat) tb m [] 10
def yw(H H':Hp):Prop:=∀ a xs,H a=some (.tup xs)->H' a=some (.tup xs)
theorem fV.tp(s:yw H H'):∀ {t:Pp} {v:V},fV H v t->fV H' v t
 | .nil,_,h=>h
 | .full,_,⟨r,e,h1⟩=>⟨r,e,s _ _ h1⟩
 | .cls _ _ _,_,⟨r,p,q,x,y,e,h1,h2,h3,h4,h5⟩=>⟨r,p,q,x,y,e,s _ _ h1,s _ _ h2,s _ _ h3,fV.tp s h4,fV.tp s h5⟩
theorem gY.tp(h:gY u d t m tb H v ps)(s:yw H H'):gY u d t m tb H' v ps:=by
 rcases h with ⟨k,j,e,h1,h2⟩|⟨k,j,e,h1,h2⟩|⟨t,pp,gs,h1,h2,h3,h4,h5⟩
 .exact .nD k j e (s _ _ h1) h2
 .exact .gol k j e (s _ _ h1) h2
 .exact .pap t pp gs (h1.tp s) h2 h3 h4 h5
theorem zE(h:H l=some (.lst xs)):yw H (upd H l o):=λa us e=>by rw[aD λz=>by rw[z,h] at e;cases e];exact e
inductive aad(K:acr)(B:acF)(vs:List V)(H:Hp)(Q:VK)(aS:XK):Prop
 | mk(x p l:acF)(e t u d m:Int)(tb:Tb)(ys:List V)(cl:List (List Pa))(_:vs=[.ref x,.ref l])(_:cE B H x e t u d m p tb)(_:eF e t u d m)(_:bK e t tb)(_:tb.length<=60)(_:H l=some (.lst ys))(_:ax (nE H) ys cl)(_:cl.length<=200)(_:(∀ ps∈cl,ps.length<=900/\dn t ps))(_:(∀ r k cs L ps H',ah H H'->ps∈cl->H' r=some (.tup [.str "may",.ref k])->H' k=some (.lst (cs.map V.int))->cs.length=t.toNat->gM (dE u d ps (t-1).toNat) (eQ ps t.toNat) tb m L (bL cs)->Q (.ref r) H'))(_:(∀ r k zs H',ah H H'->H' r=some (.tup [.str "never",.ref k])->H' k=some (.lst zs)->ax (gY u d t m tb H') zs cl->(∀ ps∈cl,¬ cA u d t m tb ps)->Q (.ref r) H'))
inductive aae(H:Hp)(x l pa:acF)(u d t m:Int)(tb:Tb)(cl:List (List Pa))(i:Nat)(σ:St)(H1:Hp):Prop
 | mk(zs:List V)(e1 e2:Option V)(_:σ=[some (.ref x),some (.ref l),some (.ref pa),e1,e2])(_:ah H H1)(_:H1 pa=some (.lst zs))(_:ax (gY u d t m tb H1) zs (cl.take i))(_:(∀ ps∈cl.take i,¬ cA u d t m tb ps))
theorem EG(T:Tx K mg):Ok P w base 21 T.gN (aad K T.aO):=by
 refine iY qO ?_;rintro _ A _ _ H _ _ _ hr ⟨x,p,l,e,t,u,d,m,tb,ys,cl,rfl,hB,okb,aP,bP,hl,hC,bq,ay,q1,q2⟩;refine⟨_,(ar (aL 2 qO.nd (cu ag)) (ar (c6 ae1 rfl (cB (aa 1)) (cz 3 qO.nd) (ar (aL 4 qO.nd (bO (yi T) hr.m rfl T.x_ask.m T.x_ask.F.kp T.x_ask.b .nil bZ (ae (aa 0) (ae (aa 3) ag)))) (ar (aH (bD (aw (aa 4) af) aR) (au (aA (aa 4))) aG) (au (eI (kW adF aep aeq sD (aa 2) (ae (aw (aa 4) af) ag))))))) (au (aA (aN (ae aR (ae (aa 2) ag))))))),?_⟩;obtain⟨⟨e1,e7⟩,⟨t1,t2⟩,u0,d0,m0,me⟩:=id okb;have yl:=hC.len;refine aC (λσ H1=>∃ pa,σ=[some (.ref x),some (.ref l),some (.ref pa),none,none]/\ah H H1/\H pa=none/\H1 pa=some (.lst [])) (λN hN=>?_) ?_
 .rfl';exact⟨ac5 _,λpa lO=>hN _ _ ⟨pa,rfl,aj lO,lO,aq⟩⟩
 rintro _ yR σ H1 ⟨pa,rfl,s1,fpa,lO⟩;subst yR;rfl';refine⟨⟨_,ai.of (s1 _ _ hl)⟩,gx (aae H x l pa u d t m tb cl) ⟨[],_,_,rfl,s1,lO,trivial,λ_ z=>by simp at z⟩ (λi σ H2 _ ⟨_,_,_,_,s2,_,_,_⟩=>ai.of (s2 _ _ hl)) ?_ ?_⟩
 .rintro i v σ H2 hv ⟨zs,z1,z2,rfl,s2,EH,hZ,bB⟩;obtain⟨ps,hps,c,xs,rfl,hc,hP⟩:=hC.get hv;have pin:=acM hps;obtain⟨pl,o9⟩:=ay ps pin;rfl';refine⟨x,p,c,e,t,u,d,m,xs,ps,tb,rfl,hB.same s2,aP,bP,t1,t2,by lia,e7,m0,by lia,ai.of (s2 _ _ hc),hP.same s2,pl,λz=>absurd o9 z,λ_ v H3 s3 A=>?_⟩;have S3:=s2.trans s3;by_cases hh:cA u d t m tb ps
  .obtain⟨L0,c0,F0⟩:=hh;obtain⟨rr,rfl,⟨z,hrr,hn⟩|⟨k9,cs,L,hrr,fq,_,hcs,F⟩⟩:=yu (by rw[yt,jU];lia) (λr hr=>by rw[jU];have:=(aP.2 r hr).2;lia) A
   .exact absurd F0 (hn _ _)
   rw[jU] at hcs;refine aI hrr ?_;rfl';exact q1 rr k9 cs L ps H3 S3 pin hrr fq hcs F
  .obtain⟨rr,z,rfl,hrr,hR⟩:=EF A λL c F=>hh ⟨L,c,F⟩;refine aI hrr ?_;rfl';have yx:=s3 _ _ EH;have zl:=hZ.len;have il:=(acz.mp hps).1;rw[aef] at zl;rw[if_neg (by decide)];refine⟨.inl ⟨rfl,_,ai.of yx⟩,az (ak.of hrr) rfl ⟨zs,yx,adI (by lia:_<=200) (by decide),_,_,_,rfl,jt fpa S3,aq,?_,λqs hq=>?_⟩⟩
   .rw[ads,hps];exact ax.snoc (hZ.imp λ_ _ h=>gY.tp (jc.same h s3) (zE yx)) (gY.tp hR (zE yx))
   .rw[ads,hps] at hq;rcases ac4.mp hq with z|z
    .exact bB qs z
    .obtain rfl:qs=ps:=by simpa using z
     exact hh
 .rintro σ H2 ⟨zs,z1,z2,rfl,s2,EH,hZ,bB⟩;rw[yl,adu] at hZ bB;rfl';exact⟨aW,λr hr=>q2 r pa zs _ (s2.trans (aj hr)) aq ((aj hr) _ _ EH) (hZ.imp λ_ _ h=>jc.same h (aj hr)) bB⟩
theorem yy:(dM tb i).length<=tb.length:=by unfold dM;rw[acs];exact acA (adb _ _) (by rw[lp];exact acC _)
inductive Tr where
 | stay (i j:Int) (l h:En)|over (i j s:Int)|under (i j s:Int)|rose (i j l h:Int)|lies (i:Int) (tb:Tb)
def jd(G H:Hp)(p:acF):Tr->Prop
 | .stay i j l h=>H p=some (.tup [.str "stay",.int i,.int j,ev l,ev h])
 | .over i j s=>H p=some (.tup [.str "over",.int i,.int j,.int s])
 | .under i j s=>H p=some (.tup [.str "under",.int i,.int j,.int s])
 | .rose i j l h=>H p=some (.tup [.str "rose",.int i,.int j,.int l,.int h])
 | .lies i tb=>∃ w,G w=none/\H p=some (.tup [.str "lies",.int i,.ref w])/\TabAt H w tb
def fK:Tr->Prop
 | .stay i j l h=>cg i j
 | .over i j s=>cg i j
 | .under i j s=>cg i j
 | .rose i j l h=>cg i j/\l<h
 | .lies i tb=>bK 7 12 tb/\tb.length<=60
noncomputable def dS:Tr->Int
 | .stay i j l h=>j
 | .over i j s=>j
 | .under i j s=>j
 | .rose i j l h=>j
 | .lies i tb=>kJ (dM tb i)
noncomputable def fL:Tr->List (List Pa)
 | .stay i j l h=>[bp i j (l,h)]
 | .over i j s=>cp (bp i j (none,some (s-1)))
 | .under i j s=>cp (bp i j (some (s+1),none))
 | .rose i j l h=>iV i j l h
 | .lies i tb=>cp (jT (dM tb i))
noncomputable def bY:Tr->List (List Pa)
 | .stay i j l h=>cp (bp i j (l,h))
 | .over i j s=>[bp i j (none,some (s-1))]
 | .under i j s=>[bp i j (some (s+1),none)]
 | .rose i j l h=>lQ i j l h
 | .lies i tb=>[jT (dM tb i)]
def fX(T:Tx K mg)(H:Hp)(x:acF):Tr->Prop
 | .stay i j l h=>∃ dx p,H x=some (.ins T.b8 dx [("first",.int i),("last",.int j),("stretch",.ref p)])/\H p=some (.tup [ev l,ev h])
 | .over i j s=>∃ dx,H x=some (.ins T.b9 dx [("first",.int i),("last",.int j),("sill",.int s)])
 | .under i j s=>∃ dx,H x=some (.ins T.cc dx [("first",.int i),("last",.int j),("sill",.int s)])
 | .rose i j l h=>∃ dx,H x=some (.ins T.cf dx [("first",.int i),("last",.int j),("low",.int l),("high",.int h)])
 | .lies i tb=>kK T.cR H x (dM tb i)
theorem fX.same{T:Tx K mg}{H H':Hp}{x:acF}{tr:Tr}(h:fX T H x tr)(s:ah H H'):fX T H' x tr:=by
 cases tr
 case stay=>obtain⟨dx,p,a,b⟩:=h;exact⟨dx,p,s _ _ a,s _ _ b⟩
 case lies=>exact kK.same h s
 all_goals (obtain⟨dx,a⟩:=h;exact⟨dx,s _ _ a⟩)
inductive yz(T:Tx K mg)(f:Tr->List (List Pa))(x:V)(H:Hp)(Q:VK):Prop
 | mk(a:acF)(tr:Tr)(_:x = .ref a)(_:fX T H a tr)(_:fK tr)(_:∀ l ys H',ah H H'->H l=none->H' l=some (.lst ys)->ax (cK H H') ys (f tr)->Q (.ref l) H')
inductive Mz(T:Tx K mg)(x:V)(H:Hp)(Q:VK):Prop
 | mk(a:acF)(tr:Tr)(_:x = .ref a)(_:fX T H a tr)(_:fK tr)(_:∀ H',ah H H'->Q (.int (dS tr)) H')
theorem aaf(T:Tx K mg)(hr:bG n A)(hn:3<=n:=by decide)(x:V)(H:Hp)(Q:VK)(h:yz T fL x H Q):qJ P w K mg base A "ways" x H Q:=by
 obtain⟨x,tr,rfl,he,hg,cont⟩:=h;replace hr:=hr.mono hn;cases tr with
 | stay i j l h =>
  obtain⟨dx,p,hx,hp⟩:=id he;exact .of hx T.gP T.Ww (ZK T) hr T.mS.b ⟨x,dx,p,i,j,(l,h),rfl,hx,hg,hp,cont⟩
 | over i j s =>
  obtain⟨dx,hx⟩:=id he;exact .of hx T.gQ T.Wz (ZM T) hr T.mU.b ⟨x,dx,i,j,s,rfl,hx,hg,cont⟩
 | under i j s =>
  obtain⟨dx,hx⟩:=id he;exact .of hx T.gR T.WC (ZO T) hr T.mW.b ⟨x,dx,i,j,s,rfl,hx,hg,cont⟩
 | rose i j l h =>
  obtain⟨dx,hx⟩:=id he;exact .of hx T.eN T.WG (ZS T) hr T.mY.b ⟨x,dx,i,j,l,h,rfl,hx,hg.1,cont⟩
 | lies i tb =>
  obtain⟨dx,l,ys,hx,_,_⟩:=id he;exact .of hx T.kH T.WJ (aaa T) hr T.m6.b ⟨x,_,rfl,he,acA yy hg.2,cont⟩
theorem aag(T:Tx K mg){H:Hp}{x:acF}{tr:Tr}(he:fX T H x tr)(hg:fK tr)(Q:VK)(cont:∀ l ys H',ah H H'->H l=none->H' l=some (.lst ys)->ax (cK H H') ys (fL tr)->Q (.ref l) H'):yz T fL (.ref x) H Q:=⟨x,tr,rfl,he,hg,cont⟩
theorem EI(T:Tx K mg)(hr:bG n A)(hn:3<=n:=by decide)(x:V)(H:Hp)(Q:VK)(h:yz T bY x H Q):qJ P w K mg base A "breaks" x H Q:=by
 obtain⟨x,tr,rfl,he,hg,cont⟩:=h;replace hr:=hr.mono hn;cases tr with
 | stay i j l h =>
  obtain⟨dx,p,hx,hp⟩:=id he;exact .of hx T.gP T.Wx (ZV T) hr T.mT.b ⟨x,dx,p,i,j,(l,h),rfl,hx,hg,hp,cont⟩
 | over i j s =>
  obtain⟨dx,hx⟩:=id he;exact .of hx T.gQ T.WA (ZX T) hr T.mV.b ⟨x,dx,i,j,s,rfl,hx,hg,cont⟩
 | under i j s =>
  obtain⟨dx,hx⟩:=id he;exact .of hx T.gR T.WD (ZZ T) hr T.mX.b ⟨x,dx,i,j,s,rfl,hx,hg,cont⟩
 | rose i j l h =>
  obtain⟨dx,hx⟩:=id he;exact .of hx T.eN T.WH (Z1 T) hr T.mZ.b ⟨x,dx,i,j,l,h,rfl,hx,hg.1,cont⟩
 | lies i tb =>
  obtain⟨dx,l,ys,hx,_,_⟩:=id he;exact .of hx T.kH T.WK (aac T) hr T.m8.b ⟨x,_,rfl,he,acA yy hg.2,cont⟩
theorem yA(T:Tx K mg){H:Hp}{x:acF}{tr:Tr}(he:fX T H x tr)(hg:fK tr)(Q:VK)(cont:∀ l ys H',ah H H'->H l=none->H' l=some (.lst ys)->ax (cK H H') ys (bY tr)->Q (.ref l) H'):yz T bY (.ref x) H Q:=⟨x,tr,rfl,he,hg,cont⟩
theorem aah(T:Tx K mg)(hr:bG n A)(hn:1<=n:=by decide)(x:V)(H:Hp)(Q:VK)(h:Mz T x H Q):qJ P w K mg base A "far" x H Q:=by
 obtain⟨x,tr,rfl,he,hg,cont⟩:=h;replace hr:=hr.mono hn;cases tr with
 | stay i j l h =>
  obtain⟨dx,p,hx,hp⟩:=id he;exact .of hx T.gP T.Wv (yn T) hr T.eW.b ⟨x,T.b8,dx,_,j,rfl,hx,T.gP,T.qT,rfl,cont _ (ah.refl _)⟩
 | over i j s =>
  obtain⟨dx,hx⟩:=id he;exact .of hx T.gQ T.Wy (yn T) hr T.eW.b ⟨x,T.b9,dx,_,j,rfl,hx,T.gQ,T.qU,rfl,cont _ (ah.refl _)⟩
 | under i j s =>
  obtain⟨dx,hx⟩:=id he;exact .of hx T.gR T.WB (yn T) hr T.eW.b ⟨x,T.cc,dx,_,j,rfl,hx,T.gR,T.qV,rfl,cont _ (ah.refl _)⟩
 | rose i j l h =>
  obtain⟨dx,hx⟩:=id he;exact .of hx T.eN T.WE (yn T) hr T.eW.b ⟨x,T.cf,dx,_,j,rfl,hx,T.eN,T.nz,rfl,cont _ (ah.refl _)⟩
 | lies i tb =>
  obtain⟨dx,l,ys,hx,_,_⟩:=id he;exact .of hx T.kH T.WI (Z7 T) hr T.m5.b ⟨x,_,rfl,he,acA yy hg.2,cont⟩
theorem aai(T:Tx K mg){H:Hp}{x:acF}{tr:Tr}(he:fX T H x tr)(hg:fK tr)(Q:VK)(cont:∀ H',ah H H'->Q (.int (dS tr)) H'):Mz T (.ref x) H Q:=⟨x,tr,rfl,he,hg,cont⟩
theorem jd.fr(h:jd G H p tr)(F:Fr H H')(k:∀ b o,G b=none->H b=some o->H' b=some o):jd G H' p tr:=by
 cases tr
 case lies=>obtain⟨w,a,b,c⟩:=h;exact⟨w,a,F _ (.tup _) (λ_ z=>nomatch z) b,c.fr F λ_ e=>k _ _ a e⟩
 all_goals exact F _ (.tup _) (λ_ z=>nomatch z) h
theorem jd.same(h:jd G H p tr)(s:ah H H'):jd G H' p tr:=h.fr s.fr λb o _ e=>s b o e
theorem J0(ps:List Pa):(cp ps).length<=2 * ps.length:=by
 unfold cp;rw[aiT];have:∀ l:List Pa,(l.map λp=>((fT p.2.2).map λo=>[((p.1,p.2.1,o):Pa)]).length).sum<=2 * l.length:=by
  intro l
  induction l with
  | nil=>exact acC _
  | cons p l ih =>
   rw[acN,ahE,acs,ada];have:=sY p.2.2;lia
 exact this ps
theorem yB(h:p∈bp i j s):p.1 = "at" /\ i<=p.2.1/\p.2.1<=j:=by unfold bp at h;obtain⟨k,hk,rfl⟩:=acE.mp h;have:=acY.mp hk;exact⟨rfl,by show i<=i+(k:Int);lia,by show i+(k:Int)<=j;lia⟩
theorem yC{t:Int}{ps:List Pa}(h:∀ p∈ps,p.1 = "at" /\ 0<=p.2.1/\p.2.1<t):dn t ps:=λp hp=>by obtain⟨e,h1,h2⟩:=h p hp;rw[e];exact (Ja (show (adS "at")≠adS "step" by decide)).mpr ⟨rfl,h1,h2⟩
theorem aaj(hk:cg i j)(hj:j<t):∀ ps∈lQ i j l h,ps.length<=900/\dn t ps:=λps hp=>by
 obtain⟨k0,k1,k2⟩:=hk;unfold lQ at hp;obtain⟨k,hk,rfl⟩:=acE.mp hp;have:=acY.mp hk;refine⟨by rw[ac1,iU,iU];lia,yC λp hp=>?_⟩;rcases ac4.mp hp with z|z
 .obtain⟨a,b,c⟩:=yB z;exact⟨a,by lia,by lia⟩
 .obtain⟨a,b,c⟩:=yB z;exact⟨a,by lia,by lia⟩
theorem aak(hk:cg i j)(hj:j<t):∀ ps∈iV i j l h,ps.length<=900/\dn t ps:=λps hp=>by
 obtain⟨k0,k1,k2⟩:=hk;unfold iV at hp;obtain⟨k,hk,hq⟩:=aeL.mp hp;obtain⟨p0,EJ,rfl⟩:=acE.mp hq;have:=acY.mp hk;obtain⟨a,b,c⟩:=yB EJ;refine⟨(show 2<=900 by decide),yC λp hp=>?_⟩;rcases acL.mp hp with rfl|z
 .exact⟨rfl,by show 0<=i+(k:Int);lia,by show i+(k:Int)<t;lia⟩
 .rw[ac9.mp z];exact⟨a,by lia,by lia⟩
theorem MA:∀ {l:List Nat},(∀ x∈l,x<=n)->l.sum<=n * l.length
 | [],_=>acC _
 | x::l,h=>by have a:=h x (.head _);have b:=MA λy hy=>h y (.tail _ hy);rw[ahE,ada,Nat.mul_succ];lia
theorem aal(hk:cg i j):(iV i j l h).length<=200:=by
 obtain⟨k0,k1,k2⟩:=hk;unfold iV;rw[aiT];refine acA (MA (n:=11) λx hx=>?_) ?_
 .obtain⟨k,hk,rfl⟩:=acE.mp hx;rw[acs,iU];have:=acY.mp hk;lia
 .rw[acs,acH];lia
theorem EK(h:0<=i)(hj:j<t):dn t (bp i j s):=yC λp hp=>by obtain⟨a,b,c⟩:=yB hp;exact⟨a,by lia,by lia⟩
theorem yD(h:dn t ps)(hl:ps.length<=60):(∀ qs∈cp ps,qs.length<=900/\dn t qs)/\(∀ qs∈[ps],qs.length<=900/\dn t qs)/\(cp ps).length<=200/\[ps].length<=200:=by
 refine⟨λqs hq=>?_,λqs hq=>?_,?_,(show 1<=200 by decide)⟩
 .unfold cp at hq;obtain⟨p,hp,hq⟩:=aeL.mp hq;obtain⟨o,_,rfl⟩:=acE.mp hq;refine⟨(show 1<=900 by decide),λz hz=>?_⟩;rw[ac9.mp hz];exact h p hp
 .rw[ac9.mp hq];exact⟨by lia,h⟩
 .have:=J0 ps;lia
theorem aam(aP:bK e t tb):∀ k∈dM tb i,(k.1:Int)<t:=λk hk=>by obtain⟨r,hr,_,rfl⟩:=xj.mp hk;have:=(aP.2 r hr).2;show ((r.1.2.toNat:Nat):Int)<t;lia
theorem EL:0<=kJ ms/\∀ k∈ms,(k.1:Int)<=kJ ms:=by
 cases ms with
 | nil=>exact⟨adW _,λ_ z=>nomatch z⟩
 | cons m ms =>
  obtain⟨a,b⟩:=pV (ns:=(m::ms).map λk=>(k.1:Int)) (by simp);have ef:kJ (m::ms)=eU ((m::ms).map λk=>(k.1:Int)):=rfl;rw[ef];refine⟨?_,λk hk=>b _ (acE.mpr ⟨k,hk,rfl⟩)⟩;have:=b (m.1:Int) (.head _);lia
theorem aan(ht:0<t)(h:∀ k∈ms,(k.1:Int)<t):kJ ms<t:=by
 cases ms with
 | nil=>exact ht
 | cons m ms =>
  obtain⟨a,_⟩:=pV (ns:=(m::ms).map λk=>(k.1:Int)) (by simp);obtain⟨k,hk,e⟩:=acE.mp a;have ef:kJ (m::ms)=eU ((m::ms).map λk=>(k.1:Int)):=rfl;rw[ef,<- e];exact h k hk
theorem aao(h:kJ ms<t):dn t (jT ms):=yC λp hp=>by obtain⟨m,hm,rfl⟩:=acE.mp hp;have:=EL.2 m hm;exact⟨rfl,by show (0:Int)<=(m.1:Int);lia,by show (m.1:Int)<t;lia⟩
theorem yE(hg:fK tr)(hj:dS tr<t):(∀ ps∈bY tr,ps.length<=900/\dn t ps)/\(∀ ps∈fL tr,ps.length<=900/\dn t ps)/\(bY tr).length<=200/\(fL tr).length<=200:=by
 cases tr with
 | stay i j l h =>
  obtain⟨k0,k1,k2⟩:=id hg;replace hj:j<t:=hj;exact yD (EK (s:=(l,h)) k0 hj) (by rw[iU];lia)
 | over i j s =>
  obtain⟨k0,k1,k2⟩:=id hg;replace hj:j<t:=hj;obtain⟨a,b,c,d⟩:=yD (EK (s:=(none,some (s-1))) k0 hj) (by rw[iU];lia);exact⟨b,a,d,c⟩
 | under i j s =>
  obtain⟨k0,k1,k2⟩:=id hg;replace hj:j<t:=hj;obtain⟨a,b,c,d⟩:=yD (EK (s:=(some (s+1),none)) k0 hj) (by rw[iU];lia);exact⟨b,a,d,c⟩
 | rose i j l h =>
  refine⟨aaj hg.1 hj,aak hg.1 hj,?_,aal hg.1⟩;show (lQ i j l h).length<=200;obtain⟨⟨_,_,_⟩,_⟩:=hg;unfold lQ;rw[acs,acH];lia
 | lies i tb =>
  obtain⟨a,b,c,d⟩:=yD (aao hj) (by rw[Mv];exact acA yy hg.2);exact⟨b,a,d,c⟩
theorem aap(hg:fK tr):0<=dS tr:=by
 cases tr with
 | over i j s=>obtain⟨_,_,_⟩:=hg;show 0<=j;lia
 | under i j s=>obtain⟨_,_,_⟩:=hg;show 0<=j;lia
 | rose i j l h=>obtain⟨⟨_,_,_⟩,_⟩:=hg;show 0<=j;lia
 | stay i j l h=>obtain⟨_,_,_⟩:=hg;show 0<=j;lia
 | lies i tb=>exact EL.1
theorem cK.cm(h:cK G H v ps):nE H v ps:=let ⟨c,xs,e,_,a,b⟩:=h;⟨c,xs,e,a,b⟩
def fY(u d t m:Int)(tb:Tb)(cl:List (List Pa)):Prop:=cA u d t m tb []/\∀ ps∈cl,¬ cA u d t m tb ps
def ir(u d t m:Int)(tb:Tb)(cl:List (List Pa))(H:Hp)(k:acF):Prop:=∃ cs L ps,ps∈cl/\H k=some (.lst (cs.map V.int))/\cs.length=t.toNat/\gM (dE u d ps (t-1).toNat) (eQ ps t.toNat) tb m L (bL cs)
theorem ir.same(h:ir u d t m tb cl H k)(s:ah H H'):ir u d t m tb cl H' k:=let ⟨cs,L,ps,a,b,c⟩:=h;⟨cs,L,ps,a,s _ _ b,c⟩
theorem ir.un(h:ir u d t m tb cl H k):¬ fY u d t m tb cl:=λz=>let ⟨cs,L,ps,a,_,_,c⟩:=h;z.2 ps a ⟨L,_,c⟩
inductive aaq(T:Tx K mg)(vs:List V)(H:Hp)(Q:VK)(E:XK):Prop
 | mk(x p v:acF)(e t u d m:Int)(tr:Tr)(tb:Tb)(_:vs=[.ref x,.ref v])(_:cE T.aO H x e t u d m p tb)(_:eF e t u d m)(_:bK e t tb)(_:tb.length<=60)(_:fX T H v tr)(_:fK tr)(_:(¬ dS tr<t->∀ H',ah H H'->E (.ref T.i9) none H'))(_:(dS tr<t->(¬ fY u d t m tb (bY tr)->∀ r z H',ah H H'->H' r=some (.tup [.str "none",z])->gY u d t m tb H' z []->Q (.ref r) H')/\(fY u d t m tb (bY tr)->∀ r k zs H',ah H H'->H' r=some (.tup [.str "yes",.ref k])->H' k=some (.lst zs)->ax (gY u d t m tb H') zs (bY tr)->Q (.ref r) H')/\(¬ fY u d t m tb (bY tr)->cA u d t m tb []->∀ r k zs H',ah H H'->H' r=some (.tup [.str "no",.ref k])->H' k=some (.lst zs)->ax (gY u d t m tb H') zs (fL tr)->Q (.ref r) H')/\(¬ fY u d t m tb (bY tr)->∀ r k1 k2 H',ah H H'->H' r=some (.tup [.str "open",.ref k1,.ref k2])->ir u d t m tb (fL tr) H' k1->ir u d t m tb (bY tr) H' k2->Q (.ref r) H')))
theorem MB(T:Tx K mg):Ok P w base 22 T.jL (aaq T):=by
 refine iY qP ?_;rintro _ A _ _ H _ _ _ hr ⟨x,p,v,e,t,u,d,m,tr,tb,rfl,hB,okb,aP,bP,hv,hg,q0,q⟩;refine⟨_,(ar (aH (cF (cy (eS (aa 0) T.bw T.vd (vf T) hr.m T.i6.b .nil bI (ae (tU (aah T hr) (aa 1)) ag)))) (au (iE iF rfl T.K9 T.xS rfl (ae aR ag))) aG) (ar (aL 2 qP.nd (bO (yi T) hr.m rfl T.x_ask.m T.x_ask.F.kp T.x_ask.b .nil bZ (ae (aa 0) (ae (cu ag) ag)))) (ar (aH (bD (aw (aa 2) af) aR) (au (aA (aN (ae aR (ae (aw (aa 2) af) ag))))) aG) (ar (aL 3 qP.nd (bO (EG T) hr.m rfl T.gN.m T.gN.F.kp T.gN.b .nil bZ (ae (aa 0) (ae (tU (EI T hr) (aa 1)) ag)))) (ar (aH (bD (aw (aa 3) af) aR) (au (aA (aN (ae aR (ae (aw (aa 3) af) ag))))) aG) (ar (aL 4 qP.nd (bO (EG T) hr.m rfl T.gN.m T.gN.F.kp T.gN.b .nil bZ (ae (aa 0) (ae (tU (aaf T hr) (aa 1)) ag)))) (ar (aH (bD (aw (aa 4) af) aR) (au (aA (aN (ae aR (ae (aw (aa 4) af) ag))))) aG) (au (aA (aN (ae aR (ae (aw (aa 4) af) (ae (aw (aa 3) af) ag))))))))))))),?_⟩;obtain⟨⟨e1,e7⟩,⟨t1,t2⟩,u0,d0,m0,me⟩:=id okb;refine aC (λσ H1=>σ=[some (.ref x),some (.ref v),none,none,none]/\ah H H1/\dS tr<t) (λN hN=>?_) ?_
 .obtain⟨⟨bx,hx⟩,hT⟩:=id hB;obtain⟨kvs,hkv,_⟩:=hT;rfl';refine⟨_,_,hx,rfl,aai T hv hg _ λH1 s1=>?_⟩;refine⟨x,p,e,t,u,d,m,_,kvs,rfl,⟨⟨bx,s1 _ _ hx⟩,s1 _ _ hkv⟩,?_⟩;by_cases hf:dS tr<t
  .rw[decide_eq_true ⟨aap hg,hf⟩];exact hN _ _ ⟨rfl,s1,hf⟩
  .rw[decide_eq_false λz=>hf z.2];exact⟨by show 1<=acV;decide,q0 hf _ s1⟩
 rintro _ yR σ H1 ⟨rfl,rC,hf⟩;subst yR;replace hB:=hB.same rC;replace hv:=hv.same rC;obtain⟨qn,qy,qo,qp⟩:=q hf;replace qn:=λa r z H' s b c=>qn a r z H' (rC.trans s) b c;replace qy:=λa r k zs H' s b c d=>qy a r k zs H' (rC.trans s) b c d;replace qo:=λa a2 r k zs H' s b c d=>qo a a2 r k zs H' (rC.trans s) b c d;replace qp:=λa r k1 k2 H' s b c d=>qp a r k1 k2 H' (rC.trans s) b c d;obtain⟨bo,wo,bl,wl⟩:=yE hg hf;refine aC (λσ H2=>∃ a z y,σ=[some (.ref x),some (.ref v),some (.ref a),none,none]/\ah H1 H2/\H2 a=some (.tup [.str y,z])/\((cA u d t m tb []/\y = "may")∨(¬ cA u d t m tb []/\y = "never" /\ gY u d t m tb H2 z []))) (λN hN=>?_) ?_
 .rfl';refine⟨ac5 _,λb hb=>?_⟩;have sb:=aj (o:=.lst []) hb;have o9:dn t []:=λp hp=>by cases hp
  refine⟨x,p,b,e,t,u,d,m,[],[],tb,rfl,hB.same sb,aP,bP,t1,t2,by lia,e7,m0,by lia,ai.of aq,trivial,ac5 _,λz=>absurd o9 z,λ_ a H2 s2 A=>?_⟩;by_cases hh:cA u d t m tb []
  .obtain⟨L0,c0,F0⟩:=id hh;obtain⟨rr,rfl,⟨z,hrr,hn⟩|⟨k9,cs,L,hrr,fq,_,hcs,F⟩⟩:=yu (by rw[yt,jU];lia) (λr hr=>by rw[jU];have:=(aP.2 r hr).2;lia) A
   .exact absurd F0 (hn _ _)
   .exact hN _ _ ⟨rr,_,_,rfl,sb.trans s2,hrr,.inl ⟨hh,rfl⟩⟩
  .obtain⟨rr,z,rfl,hrr,hR⟩:=EF A λL c F=>hh ⟨L,c,F⟩;exact hN _ _ ⟨rr,_,_,rfl,sb.trans s2,hrr,.inr ⟨hh,rfl,hR⟩⟩
 rintro _ yR σ H2 ⟨a,z,y,rfl,s2,ha,ca⟩;subst yR;refine aC (λσ H3=>σ=[some (.ref x),some (.ref v),some (.ref a),none,none]/\H3=H2/\cA u d t m tb []) (λN hN=>?_) ?_
 .rfl';refine aI ha ?_;rcases ca with ⟨hh,rfl⟩|⟨hh,rfl,hR⟩
  .rfl';rw[if_neg (by decide)];exact hN _ _ ⟨rfl,rfl,hh⟩
  .rfl';refine az (ak.of ha) rfl ⟨aW,λr hr=>qn (λz=>hh z.1) r _ _ (s2.trans (aj hr)) aq (jc.same hR (aj hr))⟩
 rintro _ yR σ H3 ⟨rfl,rfl,hh⟩;subst yR;refine aC (λσ H4=>∃ w,σ=[some (.ref x),some (.ref v),some (.ref a),some (.ref w),none]/\ah H1 H4/\((∃ k,H4 w=some (.tup [.str "may",.ref k])/\ir u d t m tb (bY tr) H4 k)∨(∃ k zs,H4 w=some (.tup [.str "never",.ref k])/\H4 k=some (.lst zs)/\ax (gY u d t m tb H4) zs (bY tr)/\∀ ps∈bY tr,¬ cA u d t m tb ps))) (λN hN=>?_) ?_
 .rfl';refine yA T (hv.same s2) hg _ λb ys H4 s4 _ hb hC=>?_;refine⟨x,p,b,e,t,u,d,m,tb,ys,_,rfl,(hB.same s2).same s4,okb,aP,bP,hb,hC.imp λ_ _ r=>cK.cm r,bl,bo,λr k9 cs L ps H5 s5 pin hr hk bq F=>hN _ _ ⟨r,rfl,s2.trans (s4.trans s5),.inl ⟨k9,hr,cs,L,ps,pin,hk,bq,F⟩⟩,λr k9 zs H5 s5 hr fq hR bB=>hN _ _ ⟨r,rfl,s2.trans (s4.trans s5),.inr ⟨k9,zs,hr,fq,hR,bB⟩⟩⟩
 rintro _ yR σ H4 ⟨w,rfl,s4,cw⟩;subst yR;refine aC (λσ H5=>σ=[some (.ref x),some (.ref v),some (.ref a),some (.ref w),none]/\H5=H4/\∃ k,H4 w=some (.tup [.str "may",.ref k])/\ir u d t m tb (bY tr) H4 k) (λN hN=>?_) ?_
 .rfl';rcases cw with ⟨k,hw,hf⟩|⟨k9,zs,hw,fq,hR,bB⟩
  .refine aI hw ?_;rfl';rw[if_neg (by decide)];exact hN _ _ ⟨rfl,rfl,k,hw,hf⟩
  .refine aI hw ?_;rfl';refine az (ak.of hw) rfl ⟨aW,λr hr=>qy ⟨hh,bB⟩ r k9 zs _ (s4.trans (aj hr)) aq ((aj hr) _ _ fq) (hR.imp λ_ _ h=>jc.same h (aj hr))⟩
 rintro _ yR σ H5 ⟨rfl,rfl,k2,hw,MC⟩;subst yR;refine aC (λσ H6=>∃ b,σ=[some (.ref x),some (.ref v),some (.ref a),some (.ref w),some (.ref b)]/\ah H5 H6/\((∃ k,H6 b=some (.tup [.str "may",.ref k])/\ir u d t m tb (fL tr) H6 k)∨(∃ k zs,H6 b=some (.tup [.str "never",.ref k])/\H6 k=some (.lst zs)/\ax (gY u d t m tb H6) zs (fL tr)))) (λN hN=>?_) ?_
 .rfl';refine aag T (hv.same s4) hg _ λb ys H6 s6 _ hb hC=>?_;refine⟨x,p,b,e,t,u,d,m,tb,ys,_,rfl,(hB.same s4).same s6,okb,aP,bP,hb,hC.imp λ_ _ r=>cK.cm r,wl,wo,λr k9 cs L ps H7 s7 pin hr hk bq F=>hN _ _ ⟨r,rfl,s6.trans s7,.inl ⟨k9,hr,cs,L,ps,pin,hk,bq,F⟩⟩,λr k9 zs H7 s7 hr fq hR bB=>hN _ _ ⟨r,rfl,s6.trans s7,.inr ⟨k9,zs,hr,fq,hR⟩⟩⟩
 rintro _ yR σ H6 ⟨b,rfl,s6,cb⟩;subst yR;have S6:=s4.trans s6;have un:=MC.un;rfl';rcases cb with ⟨k1,hb,hf1⟩|⟨k9,zs,hb,fq,hR⟩
 .refine aI hb ?_;rfl';rw[if_neg (by decide)];refine az (ak.of hb) rfl (az (ak.of (s6 _ _ hw)) rfl ⟨by decide,λr hr=>?_⟩);have ur:=aj (o:=.tup [.str "open",.ref k1,.ref k2]) hr;exact qp un r k1 k2 _ (S6.trans ur) aq (hf1.same ur) (MC.same (s6.trans ur))
 .refine aI hb ?_;rfl';refine az (ak.of hb) rfl ⟨aW,λr hr=>qo un hh r k9 zs _ (S6.trans (aj hr)) aq ((aj hr) _ _ fq) (hR.imp λ_ _ h=>jc.same h (aj hr))⟩
theorem MD(h:X.K=K)(hu:X.A.units+64<agB):aZ X (adx .NotEq) (wF K true):=h ▸ Ro hu
theorem ME(a b:P2):afd (.tuple [.int a.1,.int a.2]) (.tuple [.int b.1,.int b.2])=decide (a=b):=by obtain⟨a1,a2⟩:=a;obtain⟨b1,b2⟩:=b;simp only[afd,agC];by_cases h1:a1=b1<;>by_cases h2:a2=b2<;>simp[h1,h2]
noncomputable def dg(tb:Tb):List P2:=(kj tb).map (·.1)
theorem cA.of(h:cA u d t m tb ps)(s:∀ r∈bX,r∈tb):cA u d t m bX ps:=let ⟨L,c,F⟩:=h;⟨L,c,F.of s⟩
theorem vz:r∈df tb ss↔r.1∈ss/\r.2=(cP tb r.1).getD (none,none):=by
 have gen:∀ (ss:List P2) (acc:Tb),r∈ss.foldl (λacc s=>eo acc s ((cP tb s).getD (none,none))) acc↔(r.1∈ss/\r.2=(cP tb r.1).getD (none,none))∨(r∈acc/\r.1∉ss):=by
  intro ss
  induction ss with
  | nil=>intro acc;simp
  | cons s ss ih =>
   intro acc;rw[agP,ih,Wj];obtain⟨r1,r2⟩:=r;by_cases e:r1=s
   .subst e;by_cases h2:r1∈ss
    .simp[h2]
    .simp only[h2,false_and,not_false_eq_true,and_true,false_or,acL,true_or,true_and,Prod.mk.injEq,ne_eq,not_true_eq_false,and_false,or_false]
   .have e':¬ ((r1,r2):P2 × S2)=(s,(cP tb s).getD (none,none)):=λz=>e (congrArg (·.1) z);simp only[e',e,acL,false_or,ne_eq,not_false_eq_true,and_true]
 have:=gen ss [];unfold df;simpa using this
theorem aar(h:∀ s∈ss,s∈ss'):∀ r∈df tb ss,r∈df tb ss':=λr hr=>vz.mpr ⟨h _ (vz.mp hr).1,(vz.mp hr).2⟩
theorem vA(h:s∈dg tb):∃ w,(s,w)∈tb:=by obtain⟨r,hr,rfl⟩:=acE.mp h;exact⟨r.2,qm hr⟩
theorem aas(hn:(tb.map (·.1)).Nodup)(h:s∈dg tb):cP tb s≠none:=λz=>by obtain⟨w,hw⟩:=vA h;have:=iO hn hw;rw[z] at this;cases this
theorem EM(hn:(tb.map (·.1)).Nodup)(hs:∀ s∈ss,s∈dg tb):∀ r∈df tb ss,r∈tb:=λr hr=>by
 obtain⟨h1,h2⟩:=vz.mp hr;obtain⟨w,hw⟩:=vA (hs _ h1);rw[iO hn hw] at h2;have:r=(r.1,w):=by rw[show w=r.2 from h2.symm]
 rw[this];exact hw
theorem aat(hn:(tb.map (·.1)).Nodup):∀ r∈tb,r∈df tb (dg tb):=λr hr=>vz.mpr ⟨acE.mpr ⟨r,ot.mem_iff.mpr hr,rfl⟩,by rw[iO hn hr];rfl⟩
theorem EN(h:bK e t tb)(hs:∀ s∈ss,s∈dg tb):bK e t (df tb ss):=by
 have gen:∀ (ss:List P2) (acc:Tb),bK e t acc->(∀ s∈ss,s∈dg tb)->bK e t (ss.foldl (λacc s=>eo acc s ((cP tb s).getD (none,none))) acc):=by
  intro ss
  induction ss with
  | nil=>intro acc ha _;exact ha
  | cons s ss ih =>
   intro acc ha hs;obtain⟨w,hw⟩:=vA (hs s (.head _));exact ih _ (ha.put (h.2 _ hw)) λz hz=>hs z (.tail _ hz)
 exact gen ss [] bK.nil hs
structure vB(u d t m:Int)(tb:Tb)(cl:List (List Pa))(ss:List P2):Prop where
 sub:ss.Sublist (dg tb)
 no:∀ ps∈cl,¬ cA u d t m (df tb ss) ps
 least:∀ s∈ss,∃ ps∈cl,cA u d t m (df tb (ss.filter λo=>decide (o≠s))) ps
structure je(u d t m:Int)(tb:Tb)(cl:List (List Pa))(i:Nat)(ss:List P2):Prop where
 sub:ss.Sublist (dg tb)
 no:∀ ps∈cl,¬ cA u d t m (df tb ss) ps
 least:∀ s∈ss,s∈(dg tb).take i->∃ ps∈cl,cA u d t m (df tb (ss.filter λo=>decide (o≠s))) ps
theorem je.zero(hn:(tb.map (·.1)).Nodup)(h:∀ ps∈cl,¬ cA u d t m tb ps):je u d t m tb cl 0 (dg tb):=⟨List.Sublist.refl _,λps hp z=>h ps hp (z.of (aat hn)),λs _ z=>by simp at z⟩
theorem je.skip(h:je u d t m tb cl i ss)(hs:(dg tb)[i]?=some s)(hf:∃ ps∈cl,cA u d t m (df tb (ss.filter λo=>decide (o≠s))) ps):je u d t m tb cl (i+1) ss:=⟨h.sub,h.no,λz hz hm=>by
 rw[ads,hs] at hm;rcases ac4.mp hm with y|y
 .exact h.least z hz y
 .obtain rfl:z=s:=by simpa using y
  exact hf⟩
theorem je.drop(h:je u d t m tb cl i ss)(hs:(dg tb)[i]?=some s)(hf:∀ ps∈cl,¬ cA u d t m (df tb (ss.filter λo=>decide (o≠s))) ps):je u d t m tb cl (i+1) (ss.filter λo=>decide (o≠s)):=⟨agS.trans h.sub,hf,λz hz hm=>by
 obtain⟨h1,h2⟩:=acZ.mp hz;rw[ads,hs] at hm;rcases ac4.mp hm with y|y
 .obtain⟨ps,hp,hh⟩:=h.least z h1 y;exact⟨ps,hp,hh.of (aar λa ha=>acZ.mpr ⟨(acZ.mp (acZ.mp ha).1).1,(acZ.mp ha).2⟩)⟩
 .obtain rfl:z=s:=by simpa using y
  simp at h2⟩
theorem je.fin(h:je u d t m tb cl (dg tb).length ss):vB u d t m tb cl ss:=⟨h.sub,h.no,λs hs=>h.least s hs (by rw[adu];exact h.sub.subset hs)⟩
theorem vC:(dg tb).length=tb.length:=by unfold dg;rw[acs,lp]
inductive aau(T:Tx K mg)(vs:List V)(H:Hp)(Q:VK)(E:XK):Prop
 | mk(x p v:acF)(e t u d m:Int)(tr:Tr)(tb:Tb)(_:vs=[.ref x,.ref v])(_:cE T.aO H x e t u d m p tb)(_:eF e t u d m)(_:bK e t tb)(_:tb.length<=60)(_:fX T H v tr)(_:fK tr)(_:(¬ dS tr<t->∀ H',ah H H'->E (.ref T.i9) none H'))(_:(dS tr<t->(¬ fY u d t m tb (bY tr)->∀ H',ah H H'->E (.ref T.gn) none H')/\(fY u d t m tb (bY tr)->∀ k ys ss H',ah H H'->H k=none->H' k=some (.lst ys)->bR H' ys ss->vB u d t m tb (bY tr) ss->Q (.ref k) H')))
def aav(H G:Hp)(x v sl:acF)(u d t m:Int)(tb:Tb)(cl:List (List Pa))(i:Nat)(σ:St)(H1:Hp):Prop:=(∃ (kp:acF) (ys:List V) (ss:List P2) (e1 e2:Option V),σ=[some (.ref x),some (.ref v),some (.ref sl),some (.ref kp),e1,e2]/\H kp=none/\H1 kp=some (.lst ys)/\bR H1 ys ss/\je u d t m tb cl i ss)/\ah G H1
theorem aaw(T:Tx K mg):Ok P w base 23 T.ng (aau T):=by
 refine iY mL ?_;rintro _ _ _ s H _ Q _ hr ⟨x,p,v,e,t,u,d,m,tr,tb,rfl,hB,okb,aP,bP,hv,hg,q0,q⟩;refine⟨_,(ar (aH (kE (aw (bO (MB T) hr.m rfl T.jL.m T.jL.F.kp T.jL.b .nil bZ (ae (aa 0) (ae (aa 1) ag))) af) aR) (au (iE iF rfl T.Lb T.D2 rfl (ae aR ag))) aG) (ar (QP (g:=jk K 3 (cL (b5 0) (cL (b5 1) (cL (b5 2) ix)))) (i:=2) (ju.mk (own:=["eye","turn","word"]) (fr:=[]) (ys:=[]) rfl (by decide +kernel) rfl (by decide +kernel) rfl .nil .nil rfl) rfl mL.nd rfl rfl (cB (si (aa 0) T.bw T.D1 (Ea T) hr.m T.kG.b .nil bI)) (λC s2 H2 ex pn=>j4 (n:=3) rfl (dv (gd (i:=0) (show (["eye","turn","word"]:List Str).Nodup by decide) rfl (.inl (acR rfl)) (.inr (acR rfl))) (dv (gd (i:=1) (show (["eye","turn","word"]:List Str).Nodup by decide) rfl (.inl (acR rfl)) (.inr (acR rfl))) (dv (gd (i:=2) (show (["eye","turn","word"]:List Str).Nodup by decide) rfl (.inl (acR rfl)) (.inr (acR rfl))) jZ)))) (λC s2 H2 ex pn=>⟨dz,(aN (ae (aa 0) (ae (aa 1) ag)))⟩)) (ar (aL 3 mL.nd (aa 2)) (ar (c6 ae1 rfl (cB (aa 2)) (cz 4 mL.nd) (ar (n5 (i:=5) (cO [4] ["spot"]) rfl mL.nd rfl rfl (cB (aa 3)) (λC s2 H2 ex pn=>⟨(iH (kR ((MD (K:=K) rfl) hr.units) (aa 0) (aa 1) (c7 _))),(aa 0)⟩)) (au (aH (bD (aw (bO (EG T) hr.m rfl T.gN.m T.gN.F.kp T.gN.b .nil bZ (ae (eS (aa 0) T.bw T.WN (Xy T) hr.m T.nk.b .nil bZ (ae (aa 5) ag)) (ae (tU (EI T hr) (aa 1)) ag))) af) aR) (au (aL 3 mL.nd (aa 5))) aG)))) (au (aA (aa 3))))))),?_⟩;refine aC (λσ H1=>σ=[some (.ref x),some (.ref v),none,none,none,none]/\ah H H1/\dS tr<t/\fY u d t m tb (bY tr)) (λN hN=>?_) ?_
 .rfl';refine⟨x,p,v,e,t,u,d,m,tr,tb,rfl,hB,okb,aP,bP,hv,hg,q0,λhf=>⟨λhs r z H1 s1 hr _=>?_,λhs r k zs H1 s1 hr _ _=>?_,λhs _ r k zs H1 s1 hr _ _=>?_,λhs r k1 k2 H1 s1 hr _ _=>?_⟩⟩
  .refine aI hr ?_;rfl';exact⟨by show 1<=acV;decide,(q hf).1 hs _ s1⟩
  .refine aI hr ?_;rfl';exact hN _ _ ⟨rfl,s1,hf,hs⟩
  .refine aI hr ?_;rfl';exact⟨by show 1<=acV;decide,(q hf).1 hs _ s1⟩
  .refine aI hr ?_;rfl';exact⟨by show 1<=acV;decide,(q hf).1 hs _ s1⟩
 rintro _ yR σ H1 ⟨rfl,s1,hf,hs⟩;subst yR;replace q:=(q hf).2 hs;obtain⟨bo,wo,bl,wl⟩:=yE hg hf;refine aC (λσ H2=>∃ sl ys,σ=[some (.ref x),some (.ref v),some (.ref sl),none,none,none]/\ah H H2/\H sl=none/\H2 sl=some (.lst ys)/\bR H2 ys (dg tb)) (λN hN=>?_) ?_
 .obtain⟨⟨dx,hx⟩,htb⟩:=id hB;rfl';refine⟨_,_,s1 _ _ hx,rfl,x,p,e,t,u,d,m,tb,rfl,hB.same s1,aP.1,by lia,λl xs H2 s2 _ hl hT=>?_⟩;have tl:=hT.len;rw[lp] at tl;refine⟨l,rfl,⟨_,ai.of hl⟩,AJ (row:=rowOf H2) (acA (by lia:xs.length<=64) (by decide)) (gi (R:=λ_ x (r:P2 × S2)=>jA H2 x r) (R':=cH) (f:=λr=>r.1) (λ_ _ _ _ _ h=>h) (λ_ _ _ _ s' h=>h.same s') hT (bs:=[]) trivial (λH' s'=>AL hl hT s') (λx r _ H3 s3 h1 Q h=>?_) (λx r _ H3 s3 h1 Q h=>?_) λH3 zs s3 hz=>?_)⟩
  .exact h
  .obtain⟨ta,w,rfl,ha,hw⟩:=h1;unfold kx;dsimp only;rw[mv ha];rfl';exact⟨aW,λt1 jR=>h _ _ (aj jR) ⟨t1,rfl,aq⟩⟩
  .rw[acT] at hz;intro l2 bh;exact hN _ _ ⟨l2,zs,rfl,(s1.trans (s2.trans s3)).trans (aj bh),(s1.trans (s2.trans s3)).free bh,aq,bR.same hz (aj bh)⟩
 rintro _ yR σ H2 ⟨sl,ys,rfl,s2,fsl,dw,hP⟩;subst yR;have yl:=ax.len hP;rw[vC] at yl;rfl';refine⟨⟨_,ai.of dw⟩,gx (xs:=ys) (aav H H2 x v sl u d t m tb (bY tr)) ⟨⟨sl,ys,_,_,_,rfl,fsl,dw,hP,je.zero aP.1 hs.2⟩,ah.refl _⟩ (λi σ H3 _ ⟨_,s3⟩=>ai.of (s3 _ _ dw)) ?_ ?_⟩
 .rintro i y σ H3 hy ⟨⟨kp,ws,ss,e1,e2,rfl,fkp,hkp,hW,hI⟩,s3⟩;obtain⟨s,es,hpt⟩:=ax.get hP hy;have S3:=s2.trans s3;have aax:=hpt.same s3;have wl2:=ax.len hW;have EO:=hI.sub.length_le;rw[vC] at EO;rfl';refine⟨⟨_,ai.of hkp⟩,cN iI (acA (by lia:ws.length<=64) (by decide)) (qv (R:=λH x (o:P2)=>cH H x o) (R':=cH) (p:=λo=>decide (o≠s)) (f:=λo=>o) (λ_ _ _ _ s' h=>h.same s') (λ_ _ _ _ s' h=>h.same s') hW (bs:=[]) trivial (λH' s'=>ai.of (s' _ _ hkp)) (λz o _ H4 s4 r Q h=>?_) (λz o _ _ H4 s4 r Q h=>?_) λH4 zs s4 hz=>?_)⟩
  .obtain⟨pa,rfl,ha⟩:=r;obtain⟨pb,rfl,hb⟩:=aax.same s4;rfl';refine⟨.tuple [.int o.1,.int o.2],.tuple [.int s.1,.int s.2],.tup (ak.of ha) (.cons (.int _) (.cons (.int _) .nil)),.tup (ak.of hb) (.cons (.int _) (.cons (.int _) .nil)),rfl,rfl,by simp[PyData.depth,afn],?_⟩;rw[ME];by_cases h0:o=s
   .rw[decide_eq_false λz=>z h0] at h;rw[decide_eq_true h0];rfl';exact h
   .rw[decide_eq_true h0] at h;rw[decide_eq_false h0];rfl';exact h
  .rfl';exact h _ _ (ah.refl _) r
  .rw[acT,ail] at hz;intro l2 bh;have u4:=s4.trans (aj (o:=.lst zs) bh);have fl2:=(S3.trans s4).free bh;have jS:bR (upd H4 l2 (.lst zs)) zs (ss.filter λo=>decide (o≠s)):=bR.same hz (aj bh);have oZ:upd H4 l2 (.lst zs) l2=some (.lst zs):=aq;generalize upd H4 l2 (.lst zs)=H5 at u4 jS oZ;have S5:=S3.trans u4;obtain⟨⟨dx,hx⟩,htb⟩:=id hB;have fin:∀ o∈ss.filter (λo=>decide (o≠s)),o∈dg tb:=λo ho=>hI.sub.subset (acZ.mp ho).1;have fl:=adb (λo=>decide (o≠s)) ss;rfl';refine⟨_,_,S5 _ _ hx,rfl,x,p,l2,e,t,u,d,m,tb,zs,_,rfl,hB.same S5,okb,ai.of oZ,jS,by lia,λ⟨o,ho,hn⟩=>absurd hn (aas aP.1 (fin o ho)),λ_ x2 p2 H6 s6 _ _ hB6=>?_⟩;refine yA T (hv.same (S5.trans s6)) hg _ λb bs H7 s7 _ hb hC=>?_;have kl:=vg tb (ss.filter λo=>decide (o≠s));have S7:=u4.trans (s6.trans s7);refine⟨x2,p2,b,e,t,u,d,m,_,bs,_,rfl,hB6.same s7,okb,EN aP fin,by lia,hb,hC.imp λ_ _ r=>cK.cm r,bl,bo,λr k9 cs L ps H8 s8 pin hr hk bq F=>?_,λr k9 rs H8 s8 hr fq hR bB=>?_⟩
   .refine aI hr ?_;rfl';rw[if_neg (by decide)];exact⟨⟨kp,ws,ss,_,_,rfl,fkp,(S7.trans s8) _ _ hkp,bR.same hW (S7.trans s8),hI.skip es ⟨ps,pin,L,_,F⟩⟩,s3.trans (S7.trans s8)⟩
   .refine aI hr ?_;rfl';exact⟨⟨l2,zs,_,_,_,rfl,fl2,(s6.trans (s7.trans s8)) _ _ oZ,bR.same jS (s6.trans (s7.trans s8)),hI.drop es bB⟩,s3.trans (S7.trans s8)⟩
 .rintro σ H3 ⟨⟨kp,ws,ss,e1,e2,rfl,fkp,hkp,hW,hI⟩,s3⟩;rw[yl,<- vC] at hI;rfl';exact q kp ws ss H3 (s2.trans s3) fkp hkp hW hI.fin
def aay(H:Hp)(wr sl wd:acF)(tb:Tb)(ss:List P2)(i:Nat)(σ:St)(H1:Hp):Prop:=(∃ e1,σ=[some (.ref wr),some (.ref sl),some (.ref wd),e1])/\ah H H1/\TabAt H1 wd (df tb (ss.take i))
inductive aaz(K:acr)(vs:List V)(H:Hp)(Q:VK)(aS:XK):Prop
 | mk(w sl:acF)(wv:V)(e t u d m:Int)(tb:Tb)(ys:List V)(ss:List P2)(_:vs=[wv,.ref sl])(_:fU H wv w e t u d m tb)(_:bK e t tb)(_:tb.length<=60)(_:H sl=some (.lst ys))(_:bR H ys ss)(_:(∀ s∈ss,s∈dg tb))(_:ss.length<=60)(_:∀ r w' H',ah H H'->H w'=none->fU H' (.ref r) w' e t u d m (df tb ss)->Q (.ref r) H')
theorem MF(T:Tx K mg):Ok P w base 1 T.uQ (aaz K):=by
 refine bH ua ?_;rintro _ _ _ s H _ _ _ hr ⟨w,sl,_,e,t,u,d,m,tb,ys,ss,rfl,⟨wr,rfl,fj,hT⟩,aP,bP,dw,hP,bU,hl,q⟩;refine⟨_,(ar (aL 2 ua.nd Ar) (ar (c6 adl rfl (cB (aa 1)) (cz 3 ua.nd) (au (wR (dI hr) (aa 2) (aa 3) (qh (dI hr) (aw (aa 0) af) (aa 3) (λ_ _=>rfl)) rfl))) (au (aA (aN (ae (aw (aa 0) af) (ae (aw (aa 0) af) (ae (aw (aa 0) af) (ae (aw (aa 0) af) (ae (aw (aa 0) af) (ae (aa 2) ag))))))))))),?_⟩;have yl:=ax.len hP;obtain⟨kvs,hw,hA⟩:=id hT;refine aC (λσ H1=>∃ wd,σ=[some (.ref wr),some (.ref sl),some (.ref wd),none]/\ah H H1/\H wd=none/\H1 wd=some (.dT [])) (λN hN=>?_) ?_
 .rfl';exact λwd yF=>hN _ _ ⟨wd,rfl,aj yF,yF,aq⟩
 rintro _ yR σ H1 ⟨wd,rfl,s1,fwd,yF⟩;subst yR;rfl';refine⟨⟨_,ai.of (s1 _ _ dw)⟩,gx (xs:=ys) (aay H wr sl wd tb ss) ⟨⟨_,rfl⟩,s1,⟨_,yF,trivial⟩⟩ (λi σ H2 _ ⟨_,s2,_⟩=>ai.of (s2 _ _ dw)) ?_ ?_⟩
 .rintro i y σ H2 hy ⟨⟨z,rfl⟩,s2,kv2,ER,MG⟩;obtain⟨s,es,hpt⟩:=hP.get hy;obtain⟨ad,rfl,had⟩:=id hpt;have et:ss.take (i+1)=ss.take i++[s]:=by rw[ads,es];rfl
  have hi:i<ss.length:=(acz.mp es).1;obtain⟨wt,hwt⟩:=vA (bU s (acM es));have vt:=iO aP.1 hwt;obtain⟨v9,ES,yb⟩:=((hA.imp λ_ _ _ z=>aM.same z s2).val s).2 wt vt;have kl:=MG.len;have kk:=vg tb (ss.take i);rw[aef] at kk;have jP:=s2 _ _ had;rfl';refine az (ak.of (s2 _ _ fj)) (v:=.ref w) rfl ⟨w,rfl,v9,by rw[<- ES];exact eh.t (k:=spot s.1 s.2) (s2 _ _ hw) jP,_,mj.t (k:=spot s.1 s.2) ER jP (adI (by lia:kv2.length<=60) (by decide)),⟨_,rfl⟩,jt fwd s2,?_⟩;rw[et,Lw,vt];exact⟨_,aq,a7.put (s:=s) (w:=wt) (MG.imp λ_ _ _ z=>z.fr (tm ER)) (yb.fr (tm ER))⟩
 .rintro σ H2 ⟨⟨z,rfl⟩,s2,oW⟩;rw[yl,adu] at oW;have nF:=s2 _ _ fj;rfl';refine az (ak.of nF) rfl (az (ak.of nF) rfl (az (ak.of nF) rfl (az (ak.of nF) rfl (az (ak.of nF) rfl ⟨by decide,λr hr=>?_⟩))));have ur:=aj (o:=.tup [.int e,.int t,.int u,.int d,.int m,.ref wd]) hr;exact q r wd _ (s2.trans ur) fwd ⟨r,rfl,aq,oW.same ur⟩
end
section
seal L2.PE L2.PS L2.aT L2.PA
variable{P:adn}{w:ad2}{K:acr}{mg:Str->Option acB}{base:aeV}
theorem aaA(h:X.K=K)(hu:X.A.units<agB):aZ X (adx .Lt) (Gr K):=h ▸ O3 hu
theorem lex_lt{a b:P2}(h:HT.lexLt [b.1,b.2] [a.1,a.2]=false)(ne:a≠b):HT.lexLt [a.1,a.2] [b.1,b.2]=true:=by
 obtain⟨a1,a2⟩:=a;obtain⟨b1,b2⟩:=b;simp only[HT.lexLt] at h ⊢;by_cases h1:a1=b1
 .subst h1;have:a2≠b2:=λz=>ne (by rw[z]);simp at h ⊢;lia
 .have:¬ b1=a1:=λz=>h1 z.symm;simp[h1,this] at h ⊢;lia
theorem aaB(hn:(tb.map (·.1)).Nodup):(dg tb).Pairwise λa b=>HT.lexLt [a.1,a.2] [b.1,b.2]=true:=by have nd:(dg tb).Nodup:=(ot.map _).nodup_iff.mpr hn;have so:(dg tb).Pairwise λa b=>HT.lexLt [b.1,b.2] [a.1,a.2]=false:=ajt.mpr TK;exact (so.and nd).imp λh=>lex_lt h.1 h.2
def aaC(H:Hp)(wr sl:acF)(_:Nat)(σ:St)(H1:Hp):Prop:=(∃ e1,σ=[some (.ref wr),some (.ref sl),e1])/\ah H H1
inductive aaD(K:acr)(vs:List V)(H:Hp)(Q:VK)(aS:XK):Prop
 | mk(w sl:acF)(wv:V)(e t u d m:Int)(tb:Tb)(ys:List V)(ss:List P2)(_:vs=[wv,.ref sl])(_:fU H wv w e t u d m tb)(_:bK e t tb)(_:tb.length<=60)(_:H sl=some (.lst ys))(_:bR H ys ss)(_:ss.Sublist (dg tb))(_:∀ H',ah H H'->Q (.bl true) H')
theorem aaE(T:Tx K mg):Ok P w base 2 T.uR (aaD K):=by
 refine bH xI ?_;rintro _ _ _ s H _ Q _ hr ⟨w,sl,_,e,t,u,d,m,tb,ys,ss,rfl,⟨wr,rfl,fj,hT⟩,aP,bP,dw,hP,mx,q⟩;refine⟨_,(ar (aH (cF (cy (bf nX (by rfl) T.oP nW (ae (aa 1) (ae (nJ (v:=.ty "list") rfl T.qR pO rfl) ag))))) (au (aA dU)) aG) (ar (c6 adl rfl (cB (aa 1)) (cz 2 xI.nd) (ar (aH (PW.pt (cU (cF (cy (bf nX (by rfl) T.oP nW (ae (aa 2) (ae (nJ (v:=.ty "tuple") rfl T.DU zB rfl) ag))))) (cU (kE (bf eK (by rfl) T.dt di (ae (aa 2) ag)) af) (cU (cF (cy (aJ (q8 T) hr (ae (aw (aa 2) af) ag)))) (e9 (cF (cy (aJ (q8 T) hr (ae (aw (aa 2) af) ag))))))))) (au (aA dU)) aG) (au (aH (rN (Aj (dI hr) (aa 2) (aw (aa 0) af))) (au (aA dU)) aG)))) (au (aA (bf (wD rfl) (by rfl) T.xJ v8 (ae (dm (cO [1] ["_law_spots_here"]) rfl (g9 rfl T.eX (ae (aE cQ (bf eK (by rfl) T.dt di (ae (aa 1) ag)) af) ag)) (λC s2 H2 ex pn=>⟨dz,(fv (aaA (K:=K) rfl (adI (ajR _ 64) hr.units)) (bT (K:=K) (aa 1) (aa 0)) (bT (K:=K) (aa 1) (aE bC (aa 0) af)) (c7 _))⟩)) ag)))))),?_⟩;have yl:=ax.len hP;have sl6:=mx.length_le;rw[vC] at sl6;have up:=(aaB aP.1).sublist mx;obtain⟨kvs,hw,hA⟩:=id hT;rfl';refine GU dw ?_;rfl';refine⟨⟨_,ai.of dw⟩,gx (xs:=ys) (aaC H wr sl) ⟨⟨_,rfl⟩,ah.refl _⟩ (λi σ H2 _ ⟨_,s2⟩=>ai.of (s2 _ _ dw)) ?_ ?_⟩
 .rintro i y σ H2 hy ⟨⟨z,rfl⟩,s2⟩;obtain⟨s,es,hpt⟩:=hP.get hy;obtain⟨ad,rfl,had⟩:=id hpt;obtain⟨wt,hwt⟩:=vA (mx.subset (acM es));have vt:=iO aP.1 hwt;obtain⟨v9,ES,yb⟩:=(hA.val s).2 wt vt;have jP:=s2 _ _ had;rfl';refine zD jP ?_;rfl';refine⟨_,nY (ak.of jP),?_⟩;rfl';refine az (ak.of jP) (v:=.int s.1) rfl ⟨_,rfl,.inr ⟨_,rfl⟩,?_⟩;simp only[isWhole];rfl';refine az (ak.of jP) (v:=.int s.2) rfl ⟨_,rfl,.inr ⟨_,rfl⟩,?_⟩;simp only[isWhole];rfl';refine az (ak.of (s2 _ _ fj)) (v:=.ref w) rfl ⟨w,rfl,_,eh.t (k:=spot s.1 s.2) (s2 _ _ hw) jP,?_⟩;rw[ES];exact aV (λh0=>nomatch h0) λ_=>⟨⟨_,rfl⟩,s2⟩
 .rintro σ H2 ⟨⟨z,rfl⟩,s2⟩;rfl';have ET:=s2 _ _ dw;refine⟨_,fE (ai.of ET),by lia,by lia,cN iJ (by rw[acs,acH];exact acA (by lia:_<=60) (by decide)) (k6 (R:=λx (k:Nat)=>x=V.int ((0:Int)+k)) (p:=λ_=>true) (f:=λ_=>V.bl true) trivial (ax.fZ _) (λx k _ r Q h=>?_) (λx k hk _ r Q h=>?_) ?_)⟩
  .rfl';exact h
  .subst r;have hk:=acY.mp hk;have jb:k+1<ss.length:=by lia
   obtain⟨y1,tu⟩:∃ y,ys[k]?=some y:=⟨_,acv (by lia)⟩
   obtain⟨y2,o4⟩:∃ y,ys[k+1]?=some y:=⟨_,acv (by lia)⟩
   obtain⟨p1,ep1,a1,rfl,ha1⟩:=hP.get tu;obtain⟨p2,ep2,a2,rfl,ha2⟩:=hP.get o4;have lt:HT.lexLt [p1.1,p1.2] [p2.1,p2.2]=true:=by obtain⟨l1,e1⟩:=acz.mp ep1;obtain⟨l2,e2⟩:=acz.mp ep2;have:=ahd.mp up k (k+1) l1 l2 (ae8 _);rw[e1,e2] at this;exact this
   rw[show (0:Int)+(k:Int)=(k:Int) by lia];rfl';refine bQ (ai.of ET) (dH tu) ?_;rw[show (k:Int)+1=((k+1:Nat):Int) by lia];refine bQ (ai.of ET) (dH o4) ⟨a1,a2,[p1.1,p1.2],[p2.1,p2.2],rfl,rfl,ak.of (s2 _ _ ha1),ak.of (s2 _ _ ha2),?_⟩;rw[lt];exact h
  .rw[acT,filter_tt];intro d9 hd9;refine⟨d9,rfl,(acD ((ys.length:Int)-1).toNat).map λ_=>true,ai.of ?_,?_⟩
   .rw[aq,ado];rfl
   .rw[show ((acD ((ys.length:Int)-1).toNat).map λ_=>true).all id=true by rw[afQ];exact adA.mpr λ_ _=>rfl];exact q _ (s2.trans (aj hd9))
end
section
seal L2.PE L2.PS L2.aT L2.PA
theorem aaF(s:S2)(n:Int):(fT s).any (λo=>hold o.1 o.2 n) = !hold s.1 s.2 n:=by
 obtain⟨a,b⟩:=s;rcases a with _|a<;>rcases b with _|b
 .simp[fT,hold,aX]
 all_goals (rw[adV];simp[fT,hold,aX];lia)
theorem vD(cs:List Int)(ps:List Pa):(cp ps).any (bc cs) = !bc cs ps:=by
 unfold cp;rw[List.any_flatMap]
 induction ps with
 | nil=>rfl
 | cons p ps ih =>
  rw[ad0,ih,ajI];have e:((fT p.2.2).any (bc cs ∘ λo=>[((p.1,p.2.1,o):Pa)])) = !hold p.2.2.1 p.2.2.2 (mq cs p.1 p.2.1):=by
   rw[<- aaF]
   congr 1
   funext o;simp[bc]
  rw[e];simp only[bc,ae4,Bool.not_and]
theorem aaG(gA:i<=j):((lQ i j l h).any (bc cs))=true↔¬ ∃ a b,a<b/\b<(j+1-i).toNat/\a8 cs i a<=l/\h<=a8 cs i b:=by
 have one:∀ k:Nat,k<(j+1-i).toNat->(bc cs (bp i (i+(k:Nat)-1) (some (l+1),none)++bp (i+(k:Nat)+1) j (none,some (h-1)))=true↔(∀ a,a<k->l<a8 cs i a)/\∀ b,k<b->b<(j+1-i).toNat->a8 cs i b<h):=λk hk=>by
  have e:bc cs (bp i (i+(k:Nat)-1) (some (l+1),none)++bp (i+(k:Nat)+1) j (none,some (h-1)))=(bc cs (bp i (i+(k:Nat)-1) (some (l+1),none)) && bc cs (bp (i+(k:Nat)+1) j (none,some (h-1)))):=by unfold bc;rw[List.all_append]
  rw[e,adz,A2,A2,adA,adA];refine and_congr ⟨λz a ha=>?_,λz a ha=>?_⟩ ⟨λz b hb hn=>?_,λz b hb=>?_⟩
  .have:=(gC.mp (z a (acY.mpr (by lia)))).1 _ rfl;lia
  .have ha:=acY.mp ha;refine gC.mpr ⟨λx hx=>?_,λx hx=>(nomatch hx)⟩;cases hx;have:=z a (by lia);lia
  .have:=(gC.mp (z (b-k-1) (acY.mpr (by lia)))).2 _ rfl;unfold a8 at *;rw[show i+(k:Int)+1+((b-k-1:Nat):Int)=i+(b:Int) by lia] at this;lia
  .have hb:=acY.mp hb;refine gC.mpr ⟨λx hx=>(nomatch hx),λx hx=>?_⟩;cases hx;have:=z (k+1+b) (by lia) (by lia);unfold a8 at *;rw[show i+((k+1+b:Nat):Int)=i+(k:Int)+1+(b:Int) by lia] at this;lia
 unfold lQ;rw[ajI,adv];constructor
 .rintro ⟨k,hk,hm⟩ ⟨a,b,gj,hb,h1,h2⟩;have hk:=acY.mp hk;obtain⟨m1,m2⟩:=(one k hk).mp hm;by_cases ha:a<k
  .have:=m1 a ha;lia
  .have:=m2 b (by lia) hb;lia
 .intro bB;by_cases hex:∃ a,a<(j+1-i).toNat/\a8 cs i a<=l
  .obtain⟨a,⟨ha,hl⟩,hmin⟩:∃ a,(a<(j+1-i).toNat/\a8 cs i a<=l)/\∀ b,b<a->¬ (b<(j+1-i).toNat/\a8 cs i b<=l):=by
    obtain⟨a,ha⟩:=hex
    induction a using Nat.strongRecOn with
    | _ a ih =>
     by_cases h9:∃ b,b<a/\(b<(j+1-i).toNat/\a8 cs i b<=l)
     .obtain⟨b,hb,z⟩:=h9;exact ih b hb z
     .exact⟨a,ha,λb hb z=>h9 ⟨b,hb,z⟩⟩
   refine⟨a,acY.mpr ha,(one a ha).mpr ⟨λb hb=>?_,λb hb hn=>?_⟩⟩
   .have:=hmin b hb;by_cases hz:a8 cs i b<=l
    .exact absurd ⟨by lia,hz⟩ this
    .lia
   .by_cases hz:h<=a8 cs i b
    .exact absurd ⟨a,b,hb,hn,hl,hz⟩ bB
    .lia
  .have hn:(j+1-i).toNat-1<(j+1-i).toNat:=by lia
   refine⟨(j+1-i).toNat-1,acY.mpr hn,(one _ hn).mpr ⟨λb hb=>?_,λb hb hn=>by lia⟩⟩;by_cases hz:a8 cs i b<=l
   .exact absurd ⟨b,by lia,hz⟩ hex
   .lia
theorem aaH(hg:fK tr)(cs:List Int):(bY tr).any (bc cs) = !(fL tr).any (bc cs):=by
 have one:∀ ps:List Pa,([ps].any (bc cs))=bc cs ps:=λps=>ai2 _;cases tr with
 | stay i j l h =>
  show ((cp (bp i j (l,h))).any (bc cs)) = !([bp i j (l,h)].any (bc cs));rw[one,vD]
 | over i j s =>
  show ([bp i j (none,some (s-1))].any (bc cs)) = !((cp (bp i j (none,some (s-1)))).any (bc cs));rw[one,vD,ajJ]
 | under i j s =>
  show ([bp i j (some (s+1),none)].any (bc cs)) = !((cp (bp i j (some (s+1),none))).any (bc cs));rw[one,vD,ajJ]
 | rose i j l h =>
  have e:=aaG (cs:=cs) (l:=l) (h:=h) (hg.1:cg i j).2.1;have f:=J1 (cs:=cs) (i:=i) (j:=j) (l:=l) (h:=h);show ((lQ i j l h).any (bc cs)) = !((iV i j l h).any (bc cs));rw[adV,e,<- f];cases (iV i j l h).any (bc cs)<;>simp
 | lies i tb =>
  show ([jT (dM tb i)].any (bc cs)) = !((cp (jT (dM tb i))).any (bc cs));rw[one,vD,ajJ]
theorem aaI{u d t m:Int}{tb:Tb}{ps:List Pa}{L:List Int}{c:Nat->Int}(F:gM (dE u d ps (t-1).toNat) (eQ ps t.toNat) tb m L c){k:Nat}{s:S2}(hk:(k:Int)<t)(hm:(("at",(k:Int),s):Pa)∈ps):(∀ a,s.1=some a->a<=c k)/\∀ a,s.2=some a->c k<=a:=w6.mp (F.2.2.1 k (fG (none,none) (sel _ "at" (k:Int))) (by unfold eQ;rw[acJ,adw (by lia)];rfl)) s (My (p:=("at",(k:Int),s)) hm)
theorem aaJ(o9:dn t ps)(F:gM (dE u d ps (t-1).toNat) (eQ ps t.toNat) tb m L (bL cs)):bc cs ps=true:=by
 unfold bc;refine adA.mpr λp hp=>?_;obtain⟨kd,j,s⟩:=p;have ok:=o9 _ hp;refine gC.mpr ?_;unfold mq;by_cases e:kd = "step"
 .subst e;obtain⟨j0,j1⟩:=SM.mp ok;rw[if_pos rfl];obtain⟨n,rfl⟩:∃ n:Nat,j=n:=⟨j.toNat,by lia⟩
  have:=w6.mp (F.2.1 n (fG (none,none) ((some (-d),some u)::sel ps "step" (n:Int))) (by unfold dE;rw[acJ,adw (by lia)];rfl)) s (.tail _ (My (p:=("step",(n:Int),s)) hp));exact this
 .obtain⟨rfl,j0,j1⟩:=(Ja e).mp ok;rw[if_neg e];obtain⟨n,rfl⟩:∃ n:Nat,j=n:=⟨j.toNat,by lia⟩
  exact aaI F (k:=n) (s:=s) (by lia) hp
theorem aaK(hg:fK tr)(hf:dS tr<t)(hp:ps∈bY tr)(F:gM (dE u d ps (t-1).toNat) (eQ ps t.toNat) tb m L (bL cs)):(fL tr).any (bc cs)=false:=by have h:(bY tr).any (bc cs)=true:=adv.mpr ⟨ps,hp,aaJ ((yE hg hf).1 ps hp).2 F⟩;rw[aaH hg] at h;simpa using h
theorem aaL:(cp (jT (dM tb i))).any (bc cs) = !(((tb.filter λr=>decide (r.1.1=i)).map λr=>hs r.2 (dr cs r.1.2.toNat)).all id):=by
 rw[vD]
 congr 1
 rw[adV];unfold bc jT;rw[afQ,afQ,adA,adA];constructor
 .intro h r hr;obtain⟨h1,h2⟩:=acZ.mp hr;have:=h (r.1.2.toNat,r.2) (xj.mpr ⟨r,h1,of_decide_eq_true h2,rfl⟩);exact this
 .intro h k hk;obtain⟨r,hr,e,rfl⟩:=xj.mp hk;exact h r (acZ.mpr ⟨hr,decide_eq_true e⟩)
inductive aaM(K:acr)(vs:List V)(H:Hp)(Q:VK)(aS:XK):Prop
 | mk(G:Hp)(p a:acF)(tr:Tr)(cs:List Int)(_:vs=[.ref p,.ref a])(_:jd G H p tr)(_:fK tr)(_:ai K H a (cs.map V.int))(_:cs.length<=100)(_:dS tr<(cs.length:Int))(_:∀ H',ah H H'->Q (.bl ((fL tr).any (bc cs))) H')
theorem aaN(T:Tx K mg):Ok P w base 2 T.uP (aaM K):=by
 refine bH t9 ?_;rintro _ _ _ s H _ Q _ hr ⟨G,p,a,tr,cs,rfl,hp,hg,hS,hn,hf,q⟩;refine⟨_,(ar (aH (bD (aw (aa 0) af) aR) (ar (AM (n5 (i:=2) (cO [1,0] ["_law_course","_law_tree_here"]) rfl t9.nd rfl rfl (AQ (aw (aa 0) af)) (λC s2 H2 ex pn=>⟨(iH (bD (bT (K:=K) (aa 0) af) (bT (K:=K) (aa 2) af))),(aJ (xV T) hr (ae (Au (dI hr) (bT (K:=K) (aa 2) af) (aa 0) (λ_ _=>rfl)) (ae (bT (K:=K) (aa 1) (bT (K:=K) (aa 0) af)) ag)))⟩))) (au (aA (KR (bf (wD rfl) (by rfl) T.xJ v8 (ae (aa 2) ag)))))) aG) (ar (aL 3 t9.nd (sx vX (aa 1) (nT (aw (aa 0) af)) (nT (aE bC (aw (aa 0) af) af)))) (ar (aH (bD (aw (aa 0) af) aR) (au (aA (bf (wD rfl) (by rfl) T.xJ v8 (ae (dm (cO [0] ["_law_tree_here"]) rfl (cB (aa 3)) (λC s2 H2 ex pn=>⟨dz,(aJ (xV T) hr (ae (aN (ae (bT (K:=K) (aa 1) af) (ae (bT (K:=K) (aa 1) af) ag))) (ae (aa 0) ag)))⟩)) ag)))) aG) (ar (aH (bD (aw (aa 0) af) aR) (au (aA (fv (iW zd) (bf (wx rfl) (by rfl) T.oQ pN (ae (aa 3) ag)) (aw (aa 0) af) (c7 _)))) aG) (ar (aH (bD (aw (aa 0) af) aR) (au (aA (fv (iW fu) (bf (wy rfl) (by rfl) T.qS pM (ae (aa 3) ag)) (aw (aa 0) af) (c7 _)))) aG) (au (aA (bf (HE rfl) (by rfl) T.K5 GQ (ae (dm (cO [0,3] ["_law_tree_here","_law_seen"]) rfl (g9 rfl T.eX (ae (aE cQ (bf eK (by rfl) T.dt di (ae (aa 3) ag)) af) ag)) (λC s2 H2 ex pn=>⟨dz,(jF (fv (iW fu) (bf (UT (K:=K) rfl rfl) (by rfl) T.qS pM (ae (sx (HF (K:=K) rfl) (aa 2) zr (nT (aE bC (aa 0) af))) ag)) (bT (K:=K) (aa 1) af) (c7 _)) (ji (fv (iW zd) (bf (US (K:=K) rfl rfl) (by rfl) T.oQ pN (ae (sx (HF (K:=K) rfl) (aa 2) (nT (aE bC (aa 0) af)) zr) ag)) (bT (K:=K) (aa 1) af) (c7 _))))⟩)) ag))))))))),?_⟩;cases tr with
 | stay i j l h =>
  obtain⟨g1,g2,g3⟩:=(hg:cg i j)
  simp only[dS] at hf;replace hp:H p=some (.tup [.str "stay",.int i,.int j,ev l,ev h]):=hp;rfl';refine aI hp ?_;rfl';refine aI hp ?_;rfl';refine aI hp ?_;rfl';refine⟨_,hS,?_⟩;rw[tL g1 g2 hf];intro d hd;have sd:=aj (o:=.lst (((acD (j+1-i).toNat).map (a8 cs i)).map V.int)) hd;have ed:upd H d (.lst (((acD (j+1-i).toNat).map (a8 cs i)).map V.int)) d=some (.lst (((acD (j+1-i).toNat).map (a8 cs i)).map V.int)):=aq;generalize upd H d (.lst (((acD (j+1-i).toNat).map (a8 cs i)).map V.int))=H1 at sd ed ⊢;refine aI (sd _ _ hp) ?_;rfl';refine⟨⟨_,ai.of ed⟩,cN iI (by rw[acs,acs,acH];exact acA (by lia:_<=12) (by decide)) (wH (R:=λ_ x (n:Int)=>x=V.int n) (p:=λ_=>true) (f:=λn=>.bl (hold l h n)) (λ_ _ _ _ _ h=>h) (Gz.ax.ints _) (λH' s'=>ai.of (s' _ _ ed)) (λx n _ H2 s2 r Q h=>?_) (λx n _ _ H2 s2 r Q h=>?_) λH2 s2=>?_)⟩
  .rfl';exact h _ (ah.refl _)
  .subst r;rfl';refine az (ak.of ((sd.trans s2) _ _ hp)) rfl (az (ak.of ((sd.trans s2) _ _ hp)) rfl ⟨aW,λt ht=>?_⟩);exact⟨t,l,_,n,rfl,ak.of aq,h _ (aj ht)⟩
  .rw[acT,filter_tt];intro m hm;refine⟨m,rfl,((acD (j+1-i).toNat).map (a8 cs i)).map (hold l h),ai.of ?_,?_⟩
   .rw[aq];simp only[ado,Function.comp_def]
   .rw[afQ,afQ];have e:(fL (.stay i j l h)).any (bc cs)=(acD (j+1-i).toNat).all ((id ∘ hold l h) ∘ a8 cs i):=by rw[show (fL (.stay i j l h)).any (bc cs)=bc cs (bp i j (l,h)) from ai2 _,A2];rfl
    rw[<- e];exact q _ (sd.trans (s2.trans (aj hm)))
 | over i j s =>
  obtain⟨g1,g2,g3⟩:=(hg:cg i j)
  simp only[dS] at hf;replace hp:H p=some (.tup [.str "over",.int i,.int j,.int s]):=hp;rfl';refine aI hp ?_;rfl';refine aI hp ?_;rfl';refine aI hp ?_;rfl';refine⟨_,hS,?_⟩;rw[tL g1 g2 hf];intro d hd;have sd:=aj (o:=.lst (((acD (j+1-i).toNat).map (a8 cs i)).map V.int)) hd;refine aI (sd _ _ hp) ?_;rfl';refine aI (sd _ _ hp) ?_;rfl';refine⟨_,ai.of aq,by simp;lia,aI (sd _ _ hp) ?_⟩;rfl';have:=q _ sd;rw[show decide (s<=eU ((acD (j+1-i).toNat).map (a8 cs i)))=(fL (.over i j s)).any (bc cs) from by
   rw[adV,decide_eq_true_eq,UX (by lia)];exact UU.symm]
  exact this
 | under i j s =>
  obtain⟨g1,g2,g3⟩:=(hg:cg i j)
  simp only[dS] at hf;replace hp:H p=some (.tup [.str "under",.int i,.int j,.int s]):=hp;rfl';refine aI hp ?_;rfl';refine aI hp ?_;rfl';refine aI hp ?_;rfl';refine⟨_,hS,?_⟩;rw[tL g1 g2 hf];intro d hd;have sd:=aj (o:=.lst (((acD (j+1-i).toNat).map (a8 cs i)).map V.int)) hd;refine aI (sd _ _ hp) ?_;rfl';refine aI (sd _ _ hp) ?_;rfl';refine aI (sd _ _ hp) ?_;rfl';refine⟨_,ai.of aq,by simp;lia,aI (sd _ _ hp) ?_⟩;rfl';have:=q _ sd;rw[show decide (gh ((acD (j+1-i).toNat).map (a8 cs i))<=s)=(fL (.under i j s)).any (bc cs) from by
   rw[adV,decide_eq_true_eq,A3 (by lia)];exact UW.symm]
  exact this
 | rose i j l h =>
  obtain⟨g1,g2,g3⟩:=(hg.1:cg i j)
  simp only[dS] at hf;replace hp:H p=some (.tup [.str "rose",.int i,.int j,.int l,.int h]):=hp;rfl';refine aI hp ?_;rfl';refine aI hp ?_;rfl';refine aI hp ?_;rfl';refine⟨_,hS,?_⟩;rw[tL g1 g2 hf];intro d hd;obtain⟨n,hn1,zg⟩:∃ n,(j+1-i).toNat=n/\n<=12:=⟨_,rfl,by lia⟩
  have vV:=J1 (cs:=cs) (i:=i) (j:=j) (l:=l) (h:=h);rw[hn1] at vV ⊢;have n1:1<=n:=by lia
  have sd:=aj (o:=.lst (((acD n).map (a8 cs i)).map V.int)) hd;have ed:upd H d (.lst (((acD n).map (a8 cs i)).map V.int)) d=some (.lst (((acD n).map (a8 cs i)).map V.int)):=aq;generalize upd H d (.lst (((acD n).map (a8 cs i)).map V.int))=H1 at sd ed ⊢;refine aI (sd _ _ hp) ?_;rfl';refine aI (sd _ _ hp) ?_;rfl';refine aI (sd _ _ hp) ?_;rfl';refine⟨_,fE (ai.of ed),?_⟩;rw[acs,acs,acH];refine⟨by lia,by lia,?_⟩;rw[show ((n:Int)-1).toNat=n-1 by lia];refine cN iJ (by rw[acs,acH];exact acA (by lia:_<=12) (by decide)) (wH (R:=λ_ x (k:Nat)=>x=V.int ((0:Int)+k)) (p:=λ_=>true) (f:=λk=>.bl (decide (gh (((acD n).map (a8 cs i)).take (k+1))<=l) && decide (h<=eU (((acD n).map (a8 cs i)).drop (k+1))))) (λ_ _ _ _ _ h=>h) (ax.fZ _) (λ_ _=>trivial) (λx k _ H2 s2 r Q h=>?_) (λx k hk _ H2 s2 r Q h=>?_) λH2 s2=>?_)
  .rfl';exact h _ (ah.refl _)
  .subst r;have hk:=acY.mp hk;have len:((acD n).map (a8 cs i)).length=n:=by rw[acs,acH]
   have ne1:((acD n).map (a8 cs i)).take (k+1)≠[]:=λz=>by have:=congrArg List.length z;rw[aef,len] at this;simp at this;lia
   have ne2:((acD n).map (a8 cs i)).drop (k+1)≠[]:=λz=>by have:=congrArg List.length z;rw[ae9,len] at this;simp at this;lia
   rfl';rw[show (0:Int)+(k:Int)+1=((k+1:Nat):Int) by lia];refine⟨_,ai.of (s2 _ _ ed),?_⟩;rw[Rx,<- aje];intro p1 gU;have u1:=aj (o:=.lst ((((acD n).map (a8 cs i)).take (k+1)).map V.int)) gU;refine⟨_,ai.of aq,ne1,az (ak.of ((sd.trans (s2.trans u1)) _ _ hp)) rfl ?_⟩;rfl';refine aV (λhc=>?_) λhc=>?_
   .refine⟨_,ai.of ((s2.trans u1) _ _ ed),?_⟩;rw[HI,<- akO];intro p2 fe;have u2:=aj (o:=.lst ((((acD n).map (a8 cs i)).drop (k+1)).map V.int)) fe;refine⟨_,ai.of aq,ne2,az (ak.of ((sd.trans (s2.trans (u1.trans u2))) _ _ hp)) rfl ?_⟩;rfl';have:=h _ (u1.trans u2);rw[decide_eq_true hc,ahI] at this;exact this
   .have:=h _ u1;rw[decide_eq_false hc,agh] at this;exact this
  .rw[acT,filter_tt];intro m hm;refine⟨m,rfl,(acD (n-1)).map λk=>decide (gh (((acD n).map (a8 cs i)).take (k+1))<=l) && decide (h<=eU (((acD n).map (a8 cs i)).drop (k+1))),ai.of ?_,?_⟩
   .rw[aq];simp only[ado,Function.comp_def]
   .rw[ajI];have e:(fL (.rose i j l h)).any (bc cs)=((acD (n-1)).any λk=>decide (gh (((acD n).map (a8 cs i)).take (k+1))<=l) && decide (h<=eU (((acD n).map (a8 cs i)).drop (k+1)))):=by rw[adV,UY];exact vV
    exact (congrArg (λb=>Q (V.bl b) _) e).mp (q _ (sd.trans (s2.trans (aj hm))))
 | lies i tb =>
  obtain⟨w,_,hp,hT⟩:=hp;obtain⟨aP,bP⟩:=hg;obtain⟨kvs,hk,hA⟩:=id hT;rfl';refine aI hp ?_;rfl';refine⟨w,kvs,hk,λo=>?_⟩;have ik:=xi hk hp (u:=.aQ o (.dT kvs));have w3:upd H w (.aQ o (.dT kvs)) w=some (.aQ o (.dT kvs)):=aq;have jQ:=hA.aQ hk (u:=.aQ o (.dT kvs));have oT:ai K (upd H w (.aQ o (.dT kvs))) a (cs.map V.int):=Jy hk hS;have nA:∀ H4,ah (upd H w (.aQ o (.dT kvs))) H4->ah H (upd H4 w (.dT kvs)):=λH4 s4=>Jx hk s4;refine az (ak.of ik) (v:=.ref w) rfl ⟨w,rfl,o,kvs,w3,λgV=>?_⟩;have PT:=jQ.qk gV;have kl:=PT.len;rw[acs] at kl;generalize upd H w (.aQ o (.dT kvs))=H3 at ik w3 jQ oT nA PT;have P0:ax (λv (r:P2 × S2)=>cH H3 v r.1) (fS o) tb:=ax.bind PT;refine cN (Jw (xs:=fS o) rfl (by rw[kl,hA.len])) (acA (by lia:(fS o).length<=64) (by decide)) (k6 (R:=λv (r:P2 × S2)=>cH H3 v r.1) (p:=λr=>decide (r.1.1=i)) (f:=λr=>.bl (hs r.2 (dr cs r.1.2.toNat))) w3 P0 (λv r hr rv Q h=>?_) (λv r hr EJ rv Q h=>?_) ?_)
  .obtain⟨ka,rfl,hka⟩:=rv;rfl';refine aI hka (aI ik ?_);by_cases z:r.1.1=i
   .rw[decide_eq_true z] at h;rfl';rw[if_pos z];exact h
   .rw[decide_eq_false z] at h;rfl';rw[if_neg z];exact h
  .obtain⟨ka,rfl,hka⟩:=rv;obtain⟨⟨b1,b2⟩,b3,b4⟩:=aP.2 r hr;have z:r.1.1=i:=of_decide_eq_true EJ;have hft:((r.1.2.toNat:Nat):Int)<=kJ (dM tb i):=EL.2 _ (xj.mpr ⟨r,hr,z,rfl⟩);simp only[dS] at hf;obtain⟨vv,hvv,va,rfl,hva⟩:=(jQ.val r.1).2 _ (iO aP.1 hr);rfl';refine az (ak.of ik) (v:=.ref w) rfl ⟨w,rfl,.ref va,by rw[<- hvv];exact eh.z (k:=spot r.1.1 r.1.2) w3 hka,az (ak.of hka) (v:=.int r.1.2) rfl (bQ oT ((congrArg (c8 _) (show r.1.2=((r.1.2.toNat:Nat):Int) by lia)).trans (dH (Jz (by lia)))) ⟨va,r.2.1,r.2.2,dr cs r.1.2.toNat,rfl,ak.of hva,?_⟩)⟩;rfl';exact h
  .rw[acT,show ((tb.filter λr=>decide (r.1.1=i)).map λr=>V.bl (hs r.2 (dr cs r.1.2.toNat)))=((tb.filter λr=>decide (r.1.1=i)).map λr=>hs r.2 (dr cs r.1.2.toNat)).map V.bl by rw[ado];rfl];intro l hl;have u:=aj (o:=.lst (((tb.filter λr=>decide (r.1.1=i)).map λr=>hs r.2 (dr cs r.1.2.toNat)).map V.bl)) hl;have w4:=u _ _ w3;refine⟨w4,?_⟩;rfl';refine⟨_,ai.of (TZ w4 aq),?_⟩;rw[<- aaL];exact q _ (nA _ u)
def aaO(G:Hp)(wv:V)(tp b x:acF)(u d t m:Int)(tb:Tb)(cl:List (List Pa))(i:Nat)(σ:St)(H1:Hp):Prop:=(∃ e1 e2,σ=[some wv,some (.ref tp),some (.ref b),some (.ref x),e2,e1])/\ah G H1/\∀ ps∈cl.take i,¬ cA u d t m tb ps
inductive aaP(T:Tx K mg)(vs:List V)(H:Hp)(Q:VK)(aS:XK):Prop
 | mk(G:Hp)(w tp b:acF)(wv:V)(e t u d m:Int)(tr:Tr)(tb:Tb)(ys:List V)(_:vs=[wv,.ref tp,.ref b])(_:fU H wv w e t u d m tb)(_:eF e t u d m)(_:bK e t tb)(_:tb.length<=60)(_:(∀ r∈tb,aX r.2.1 r.2.2=false))(_:jd G H tp tr)(_:fK tr)(_:dS tr<t)(_:H b=some (.lst ys))(_:ax (nE H) ys (bY tr))(_:(¬ cA u d t m tb []->∀ H',ah H H'->Q (.str "none") H'))(_:(cA u d t m tb []->(∃ ps∈bY tr,cA u d t m tb ps)->∀ H',ah H H'->Q (.str "unsure") H'))(_:(fY u d t m tb (bY tr)->∀ H',ah H H'->Q (.str "sure") H'))
theorem EU(T:Tx K mg):Ok P w base 35 T.gO (aaP T):=by
 refine iY oH ?_;rintro _ A _ _ H _ _ _ hr ⟨G,w,tp,b,wv,e,t,u,d,m,tr,tb,ys,rfl,hW,okb,aP,bP,fk,nC,hg,hf,hb,hC,qn,qu,qs⟩;refine⟨_,(ar (aL 3 oH.nd (aJ (LB T) hr (ae (aa 0) ag))) (ar (aL 4 oH.nd (bO (yi T) hr.m rfl T.x_ask.m T.x_ask.F.kp T.x_ask.b .nil bZ (ae (aa 3) (ae (cu ag) ag)))) (ar (aH (bD (aw (aa 4) af) aR) (au (aA aR)) aG) (ar (aH (cF (cy (aJ (Mj T) hr (ae (aa 0) (ae (aw (aa 4) af) ag))))) (au (aA aR)) aG) (ar (c6 ae1 rfl (cB (aa 2)) (cz 5 oH.nd) (ar (aL 4 oH.nd (bO (yi T) hr.m rfl T.x_ask.m T.x_ask.F.kp T.x_ask.b .nil bZ (ae (aa 3) (ae (vU GB (by rfl) T.qR pO (ae (aa 5) ag)) ag)))) (ar (aH (PW.pt (iu (bD (aw (aa 4) af) aR) (iu (cy (aJ (Mj T) hr (ae (aa 0) (ae (aw (aa 4) af) ag)))) (jX (cF (cy (aJ (aaN T) hr (ae (aa 1) (ae (aw (aa 4) af) ag))))))))) (au (aA aR)) aG) (au (aH (PW.pt (cU (bD (aw (aa 4) af) aR) (e9 (cF (cy (aJ (Zq T) hr (ae (aa 0) (ae (aa 5) (ae (aw (aa 4) af) ag))))))))) (au (aA aR)) aG))))) (au (aA aR))))))),?_⟩;obtain⟨⟨e1,e7⟩,⟨t1,t2⟩,u0,d0,m0,me⟩:=id okb;obtain⟨bo,wo,bl,wl⟩:=yE hg hf;have yl:=hC.len;have aaQ:dn t []:=λp hp=>by cases hp
 refine aC (λσ H1=>∃ x p,σ=[some wv,some (.ref tp),some (.ref b),some (.ref x),none,none]/\ah H H1/\cE T.aO H1 x e t u d m p tb) (λN hN=>?_) ?_
 .rfl';exact⟨wv,w,e,t,u,d,m,tb,rfl,hW,okb,aP,bP,fk,λx p H1 s1 _ _ hB=>hN _ _ ⟨x,p,rfl,s1,hB⟩⟩
 rintro _ yR σ H1 ⟨x,p,rfl,s1,hB⟩;subst yR;refine aC (λσ H2=>∃ a z y,σ=[some wv,some (.ref tp),some (.ref b),some (.ref x),some (.ref a),none]/\ah H H2/\ah H1 H2/\H2 a=some (.tup [.str y,z])/\((¬ cA u d t m tb []/\y = "never")∨(cA u d t m tb []/\y = "may" /\ ∃ k,z = .ref k/\ir u d t m tb [[]] H2 k))) (λN hN=>?_) ?_
 .rfl';refine⟨ac5 _,λb0 hb0=>?_⟩;have sb:=aj (o:=.lst []) hb0;refine⟨x,p,b0,e,t,u,d,m,[],[],tb,rfl,hB.same sb,aP,bP,t1,t2,by lia,e7,m0,by lia,ai.of aq,trivial,ac5 _,λz=>absurd aaQ z,λ_ a H3 s3 A=>?_⟩;have S3:=sb.trans s3;obtain⟨rr,rfl,⟨z,hrr,hn⟩|⟨k9,cs,L,hrr,fq,_,hcs,F⟩⟩:=yu (by rw[yt,jU];lia) (λr hr=>by rw[jU];have:=(aP.2 r hr).2;lia) A
  .exact hN _ _ ⟨rr,_,_,rfl,s1.trans S3,S3,hrr,.inl ⟨λ⟨L,c,F⟩=>hn L c F,rfl⟩⟩
  .rw[jU] at hcs;exact hN _ _ ⟨rr,_,_,rfl,s1.trans S3,S3,hrr,.inr ⟨⟨L,_,F⟩,rfl,k9,rfl,cs,L,[],.head _,fq,hcs,F⟩⟩
 rintro _ yR σ H2 ⟨a,z,y,rfl,s2,EV,ha,ca⟩;subst yR;refine aC (λσ H3=>σ=[some wv,some (.ref tp),some (.ref b),some (.ref x),some (.ref a),none]/\H3=H2/\cA u d t m tb []/\∃ k,H2 a=some (.tup [.str "may",.ref k])/\ir u d t m tb [[]] H2 k) (λN hN=>?_) ?_
 .rfl';refine aI ha ?_;rcases ca with ⟨hh,rfl⟩|⟨hh,rfl,k,rfl,hF⟩
  .rfl';exact qn hh _ s2
  .rfl';rw[if_neg (by decide)];exact hN _ _ ⟨rfl,rfl,hh,k,ha,hF⟩
 clear ca;rintro _ yR σ H3 ⟨rfl,rfl,hh,k,ha,cs,L,ps0,_,hk,hcs,F0⟩;subst yR;refine aC (λσ H4=>σ=[some wv,some (.ref tp),some (.ref b),some (.ref x),some (.ref a),none]/\ah H H4/\ah H1 H4) (λN hN=>?_) ?_
 .rfl';refine az (ak.of ha) rfl ⟨wv,w,k,e,t,u,d,m,tb,cs,rfl,hW.same s2,t1,t2,aP,bP,hk,hcs,Mw hcs F0,Mx F0,λH4 s4=>?_⟩;rfl';exact hN _ _ ⟨rfl,s2.trans s4,EV.trans s4⟩
 rintro _ yR σ H4 ⟨rfl,s4,rD⟩;subst yR;replace hB:=hB.same rD;rfl';refine⟨⟨_,ai.of (s4 _ _ hb)⟩,gx (xs:=ys) (aaO H4 wv tp b x u d t m tb (bY tr)) ⟨⟨_,_,rfl⟩,ah.refl _,λ_ z=>by simp at z⟩ (λi σ H2 _ ⟨_,s2,_⟩=>ai.of ((s4.trans s2) _ _ hb)) ?_ ?_⟩
 .rintro i y σ H5 hy ⟨⟨z1,z2,rfl⟩,s5,bB⟩;obtain⟨ps,hps,c,xs,rfl,hc,hP⟩:=hC.get hy;have pin:=acM hps;obtain⟨pl,o9⟩:=bo ps pin;have S5:=s4.trans s5;show nK _ _ _ _ _;refine aC (λσ H6=>∃ rr z y,σ=[some wv,some (.ref tp),some (.ref b),some (.ref x),some (.ref rr),some (.ref c)]/\ah H5 H6/\H6 rr=some (.tup [.str y,z])/\((y = "may" /\ ∃ k,z = .ref k/\ir u d t m tb [ps] H6 k)∨(¬ cA u d t m tb ps/\y = "never" /\ gY u d t m tb H6 z ps))) (λN hN=>?_) ?_
  .rfl';refine⟨_,.inl (ai.of (S5 _ _ hc)),λc2 lY=>?_⟩;have sc:=aj (o:=.lst xs) lY;refine⟨x,p,c2,e,t,u,d,m,xs,ps,tb,rfl,hB.same (s5.trans sc),aP,bP,t1,t2,by lia,e7,m0,by lia,ai.of aq,(hP.same (S5.trans sc)),pl,λz=>absurd o9 z,λ_ a H3 s3 A=>?_⟩;have S3:=sc.trans s3;by_cases hh:cA u d t m tb ps
   .obtain⟨L0,c0,F0⟩:=id hh;obtain⟨rr,rfl,⟨z,hrr,hn⟩|⟨k9,cs,L,hrr,fq,_,hcs,F⟩⟩:=yu (by rw[yt,jU];lia) (λr hr=>by rw[jU];have:=(aP.2 r hr).2;lia) A
    .exact absurd F0 (hn _ _)
    rw[jU] at hcs;exact hN _ _ ⟨rr,_,_,rfl,S3,hrr,.inl ⟨rfl,k9,rfl,cs,L,ps,.head _,fq,hcs,F⟩⟩
   .obtain⟨rr,z,rfl,hrr,hR⟩:=EF A λL c F=>hh ⟨L,c,F⟩;exact hN _ _ ⟨rr,_,_,rfl,S3,hrr,.inr ⟨hh,rfl,hR⟩⟩
  rintro _ yR σ H6 ⟨rr,z,y,rfl,s6,hrr,cas⟩;subst yR;have S6:=S5.trans s6;rcases cas with ⟨rfl,k,rfl,cs,L,MH,aaR,hk,hcs,F⟩|⟨hh,rfl,hR⟩
  .obtain rfl:MH=ps:=by simpa using aaR
   rfl';refine aI hrr ?_;rfl';refine az (ak.of hrr) rfl ⟨wv,w,k,e,t,u,d,m,tb,cs,rfl,hW.same S6,t1,t2,aP,bP,hk,hcs,Mw hcs F,Mx F,λH7 s7=>?_⟩;rfl';refine az (ak.of (s7 _ _ hrr)) rfl ⟨G,tp,k,tr,cs,rfl,nC.same (S6.trans s7),hg,ai.of (s7 _ _ hk),by lia,by lia,λH8 s8=>?_⟩;rw[aaK hg hf pin F];rfl';exact qu hh ⟨MH,pin,L,_,F⟩ _ (S6.trans (s7.trans s8))
  .rfl';refine aI hrr ?_;rfl';rw[if_neg (by decide)];refine aI hrr ?_;rfl';rw[if_neg (by decide)];refine az (ak.of hrr) rfl ⟨wv,z,w,c,e,t,u,d,m,tb,xs,ps,rfl,hW.same S6,t1,t2,aP,ai.of (S6 _ _ hc),hP.same S6,pl,hR,λH7 s7=>?_⟩;rfl';refine⟨⟨_,_,rfl⟩,s5.trans (s6.trans s7),λqs hq=>?_⟩;rw[ads,hps] at hq;rcases ac4.mp hq with y|y
   .exact bB qs y
   .obtain rfl:qs=ps:=by simpa using y
    exact hh
 .rintro σ H5 ⟨⟨z1,z2,rfl⟩,s5,bB⟩;rw[yl,adu] at bB;rfl';exact qs ⟨hh,bB⟩ _ (s4.trans s5)
theorem vB.sure(h:vB u d t m tb cl ss)(hn:(tb.map (·.1)).Nodup)(hs:fY u d t m tb cl):fY u d t m (df tb ss) cl:=⟨hs.1.of (EM hn λ_ z=>h.sub.subset z),h.no⟩
theorem EW(h:a=b)(q:Q false):neT (.bl a) (.bl b) Q:=by show (if ¬ a=b then Q true else Q false);rw[if_neg (λz=>z h)];exact q
def aaS(G:Hp)(wv:V)(x tp v sl cb:acF)(_:Nat)(σ:St)(H1:Hp):Prop:=(∃ e1 e2,σ=[some wv,some (.ref x),some (.ref tp),some (.ref v),some (.bl true),some (.ref sl),some (.bl false),some (.ref cb),e1,e2])/\ah G H1
inductive aaT(T:Tx K mg)(vs:List V)(H:Hp)(Q:VK)(aS:XK):Prop
 | mk(G:Hp)(x p w v tp:acF)(wv:V)(e t u d m:Int)(tr:Tr)(tb:Tb)(_:vs=[wv,.ref x,.ref tp,.ref v])(_:cE T.aO H x e t u d m p tb)(_:fU H wv w e t u d m tb)(_:eF e t u d m)(_:bK e t tb)(_:tb.length<=60)(_:(∀ r∈tb,aX r.2.1 r.2.2=false))(_:jd G H tp tr)(_:fX T H v tr)(_:fK tr)(_:dS tr<t)(_:∀ r k ys ss H',ah H H'->H' r=some (.tup [.bl true,.ref k])->H' k=some (.lst ys)->bR H' ys ss->Q (.ref r) H')
theorem MI(T:Tx K mg):Ok P w base 36 T.jO (aaT T):=by
 refine iY jH ?_;rintro _ A _ s H _ Q _ hr ⟨G,x,p,w,v,tp,wv,e,t,u,d,m,tr,tb,rfl,hB,hW,okb,aP,bP,fk,nC,hv,hg,hf,q⟩;refine⟨_,(ar (aL 4 jH.nd (fv pF (aw (bO (MB T) hr.m rfl T.jL.m T.jL.F.kp T.jL.b .nil bZ (ae (aa 1) (ae (aa 3) ag))) af) aR (c7 _))) (ar (aL 5 jH.nd bF) (ar (aL 6 jH.nd dU) (ar (V8 (λcls _ H1=>cls = .ref T.gn/\ah H H1/\¬ fY u d t m tb (bY tr)) rfl rfl rfl T.Lb (λF pn=>V7 (aaw T) hr.m rfl T.ng.m T.ng.F.kp T.ng.b .nil (ae (aa 1) (ae (aa 3) ag)) (cz 5 jH.nd)) (λA' pn=>(au (aL 6 jH.nd dU)))) (ar (aL 7 jH.nd (tU (EI T hr) (aa 3))) (ar (aH (PW.pt (cU (kE (fv pF (bO (EU T) hr.m rfl T.gO.m T.gO.F.kp T.gO.b .nil bZ (ae (aa 0) (ae (aa 2) (ae (aa 7) ag)))) aR (c7 _)) (aa 4)) (e9 (bD (aa 6) (aa 4))))) (au (aA (aN (ae dU (ae (cu ag) ag))))) aG) (ar (aH (cy (aa 6)) (au (aA (aN (ae dU (ae (cu ag) ag))))) aG) (ar (aH (PW.pt (cU (cF (cy (aJ (aaE T) hr (ae (aa 0) (ae (aa 5) ag))))) (e9 (kE (bO (EU T) hr.m rfl T.gO.m T.gO.F.kp T.gO.b .nil bZ (ae (aJ (MF T) hr (ae (aa 0) (ae (aa 5) ag))) (ae (aa 2) (ae (aa 7) ag)))) aR)))) (au (aA (aN (ae dU (ae (cu ag) ag))))) aG) (ar (c6 ae1 rfl (cB (aa 5)) (cz 8 jH.nd) (ar (n5 (i:=9) (cO [8] ["_law_spot"]) rfl jH.nd rfl rfl (cB (aa 5)) (λC s2 H2 ex pn=>⟨(iH (kR ((MD (K:=K) rfl) hr.units) (aa 0) (aa 1) (c7 _))),(aa 0)⟩)) (au (aH (kE (bO (EU T) hr.m rfl T.gO.m T.gO.F.kp T.gO.b .nil bZ (ae (aJ (MF T) hr (ae (aa 0) (ae (aa 9) ag))) (ae (aa 2) (ae (aa 7) ag)))) aR) (au (aA (aN (ae dU (ae (cu ag) ag))))) aG)))) (au (aA (aN (ae dU (ae (aa 5) ag)))))))))))))),?_⟩;refine aC (λσ H1=>∃ b,σ=[some wv,some (.ref x),some (.ref tp),some (.ref v),some (.bl b),none,none,none,none,none]/\ah H H1/\((fY u d t m tb (bY tr)/\b=true)∨(¬ fY u d t m tb (bY tr)/\b=false))) (λN hN=>?_) ?_
 .rfl';refine⟨x,p,v,e,t,u,d,m,tr,tb,rfl,hB,okb,aP,bP,hv,hg,λz=>absurd hf z,λ_=>⟨λhs r z H1 s1 hr hR=>?_,λhs r k zs H1 s1 hr hk hR=>?_,λhs hh r k zs H1 s1 hr hk hR=>?_,λhs r k1 k2 H1 s1 hr h1 h2=>?_⟩⟩
  .refine aI hr ?_;rfl';exact⟨rfl,hN _ _ ⟨_,rfl,s1,.inr ⟨hs,by decide⟩⟩⟩
  .refine aI hr ?_;rfl';exact⟨rfl,hN _ _ ⟨_,rfl,s1,.inl ⟨hs,by decide⟩⟩⟩
  .refine aI hr ?_;rfl';exact⟨rfl,hN _ _ ⟨_,rfl,s1,.inr ⟨hs,by decide⟩⟩⟩
  .refine aI hr ?_;rfl';exact⟨rfl,hN _ _ ⟨_,rfl,s1,.inr ⟨hs,by decide⟩⟩⟩
 rintro _ yR σ H1 ⟨b,rfl,s1,cas⟩;subst yR;refine aC (λσ H2=>σ=[some wv,some (.ref x),some (.ref tp),some (.ref v),some (.bl b),some .non,none,none,none,none]/\H2=H1) (λN hN=>?_) ?_
 .rfl';exact hN _ _ ⟨rfl,rfl⟩
 rintro _ yR σ H2 ⟨rfl,rfl⟩;subst yR;refine aC (λσ H3=>σ=[some wv,some (.ref x),some (.ref tp),some (.ref v),some (.bl b),some .non,some (.bl false),none,none,none]/\H3=H2) (λN hN=>?_) ?_
 .rfl';exact hN _ _ ⟨rfl,rfl⟩
 rintro _ yR σ H3 ⟨rfl,rfl⟩;subst yR;refine aC (λσ H4=>ah H H4/\((fY u d t m tb (bY tr)/\∃ k ys ss,σ=[some wv,some (.ref x),some (.ref tp),some (.ref v),some (.bl true),some (.ref k),some (.bl false),none,none,none]/\H4 k=some (.lst ys)/\bR H4 ys ss/\vB u d t m tb (bY tr) ss)∨(¬ fY u d t m tb (bY tr)/\σ=[some wv,some (.ref x),some (.ref tp),some (.ref v),some (.bl false),some .non,some (.bl true),none,none,none]))) (λN hN=>?_) ?_
 .rfl';refine⟨?_,?_⟩
  .rfl';refine⟨x,p,v,e,t,u,d,m,tr,tb,rfl,hB.same s1,okb,aP,bP,hv.same s1,hg,λz=>absurd hf z,λ_=>⟨λhs H' s=>⟨rfl,s1.trans s,hs⟩,λhs k ys ss H4 s4 _ hk hP hR=>?_⟩⟩;rcases cas with ⟨_,rfl⟩|⟨z,_⟩
   .exact hN _ _ ⟨s1.trans s4,.inl ⟨hs,k,ys,ss,rfl,hk,hP,hR⟩⟩
   .exact absurd hs z
  .rintro cls H' ⟨rfl,s',hs⟩;rcases cas with ⟨z,_⟩|⟨_,rfl⟩
   .exact absurd z hs
   refine⟨_,rfl,T.WQ,?_⟩;rfl';exact hN _ _ ⟨s',.inr ⟨hs,rfl⟩⟩
 clear cas s1;rintro _ yR σ H4 ⟨s4,cas⟩;subst yR;rcases cas with ⟨hs,sl,zs,ss,rfl,dw,hP,hR⟩|⟨hs,rfl⟩
 .refine aC (λσ H5=>∃ cb ys,σ=[some wv,some (.ref x),some (.ref tp),some (.ref v),some (.bl true),some (.ref sl),some (.bl false),some (.ref cb),none,none]/\ah H H5/\ah H4 H5/\H5 cb=some (.lst ys)/\ax (nE H5) ys (bY tr)) (λN hN=>?_) ?_
  .rfl';exact yA T (hv.same s4) hg _ λcb ys H5 s5 _ hb hC=>hN _ _ ⟨cb,ys,rfl,s4.trans s5,s5,hb,hC.imp λ_ _ r=>cK.cm r⟩
  rintro _ yR σ H5 ⟨cb,ys,rfl,s5,MJ,hcb,hC⟩;subst yR;have EX:=MJ _ _ dw;have yG:=hP.same MJ;refine aC (λσ H6=>σ=[some wv,some (.ref x),some (.ref tp),some (.ref v),some (.bl true),some (.ref sl),some (.bl false),some (.ref cb),none,none]/\ah H5 H6) (λN hN=>?_) ?_
  .rfl';refine⟨G,w,tp,cb,wv,e,t,u,d,m,tr,tb,ys,rfl,hW.same s5,okb,aP,bP,fk,nC.same s5,hg,hf,hcb,hC,λz=>absurd hs.1 z,λ_ ⟨ps,hp,hh⟩=>absurd hh (hs.2 ps hp),λ_ H6 s6=>?_⟩;rfl';refine⟨rfl,EW (by decide) ?_⟩;rfl';exact hN _ _ ⟨rfl,s6⟩
  rintro _ yR σ H6 ⟨rfl,s6⟩;subst yR;refine aC (λσ H7=>σ=[some wv,some (.ref x),some (.ref tp),some (.ref v),some (.bl true),some (.ref sl),some (.bl false),some (.ref cb),none,none]/\H7=H6) (λN hN=>?_) ?_
  .rfl';exact hN _ _ ⟨rfl,rfl⟩
  rintro _ yR σ H7 ⟨rfl,rfl⟩;subst yR;have S6:=s5.trans s6;have yl:=ax.len yG;have EO:=hR.sub.length_le;rw[vC] at EO;have gZ:∀ s∈ss,s∈dg tb:=λ_ z=>hR.sub.subset z;have MK:=hR.sure aP.1 hs;have kl:=vg tb ss;have ML:∀ ss:List P2,(∀ s∈ss,s∈dg tb)->∀ r∈df tb ss,aX r.2.1 r.2.2=false:=λss h r hr=>fk r (EM aP.1 h r hr);refine aC (λσ H8=>σ=[some wv,some (.ref x),some (.ref tp),some (.ref v),some (.bl true),some (.ref sl),some (.bl false),some (.ref cb),none,none]/\ah H5 H8) (λN hN=>?_) ?_
  .rfl';refine⟨w,sl,wv,e,t,u,d,m,tb,zs,ss,rfl,hW.same S6,aP,bP,s6 _ _ EX,yG.same s6,hR.sub,λH8 s8=>?_⟩;rfl';have S8:=s6.trans s8;refine⟨w,sl,wv,e,t,u,d,m,tb,zs,ss,rfl,hW.same (s5.trans S8),aP,bP,S8 _ _ EX,yG.same S8,gZ,by lia,λal w1 H9 s9 _ hW9=>?_⟩;have S9:=S8.trans s9;refine⟨G,w1,tp,cb,.ref al,e,t,u,d,m,tr,_,ys,rfl,hW9,okb,EN aP gZ,by lia,ML ss gZ,nC.same (s5.trans S9),hg,hf,S9 _ _ hcb,hC.imp λ_ _ r=>r.same S9,λz=>absurd MK.1 z,λ_ ⟨ps,hp,hh⟩=>absurd hh (MK.2 ps hp),λ_ H10 s10=>?_⟩;rfl';exact hN _ _ ⟨rfl,S9.trans s10⟩
  clear s6 S6;rintro _ yR σ H8 ⟨rfl,s6⟩;subst yR;have S6:=s5.trans s6;have yH:=s6 _ _ EX;have EY:=yG.same s6;rfl';refine⟨⟨_,ai.of yH⟩,gx (xs:=zs) (aaS H8 wv x tp v sl cb) ⟨⟨_,_,rfl⟩,ah.refl _⟩ (λi σ H9 _ ⟨_,s9⟩=>ai.of (s9 _ _ yH)) ?_ ?_⟩
  .rintro i y σ H9 hy ⟨⟨z1,z2,rfl⟩,s9⟩;obtain⟨s,es,hpt⟩:=EY.get hy;have sin:=acM es;have aaU:=hpt.same s9;have yI:=EY.same s9;have MM:=s9 _ _ yH;rfl';refine⟨⟨_,ai.of MM⟩,cN iI (acA (by lia:zs.length<=64) (by decide)) (qv (R:=λH x (o:P2)=>cH H x o) (R':=cH) (p:=λo=>decide (o≠s)) (f:=λo=>o) (λ_ _ _ _ s' h=>h.same s') (λ_ _ _ _ s' h=>h.same s') yI (bs:=[]) trivial (λH' s'=>ai.of (s' _ _ MM)) (λz o _ H7 s7 r Q h=>?_) (λz o _ _ H7 s7 r Q h=>?_) λH7 us s7 hz=>?_)⟩
   .obtain⟨pa,rfl,ha⟩:=r;obtain⟨pb,rfl,hb⟩:=aaU.same s7;rfl';refine⟨.tuple [.int o.1,.int o.2],.tuple [.int s.1,.int s.2],.tup (ak.of ha) (.cons (.int _) (.cons (.int _) .nil)),.tup (ak.of hb) (.cons (.int _) (.cons (.int _) .nil)),rfl,rfl,by simp[PyData.depth,afn],?_⟩;rw[ME];by_cases h0:o=s
    .rw[decide_eq_false λz=>z h0] at h;rw[decide_eq_true h0];rfl';exact h
    .rw[decide_eq_true h0] at h;rw[decide_eq_false h0];rfl';exact h
   .rfl';exact h _ _ (ah.refl _) r
   .rw[acT,ail] at hz;intro l2 bh;have u7:=s7.trans (aj (o:=.lst us) bh);have MN:bR (upd H7 l2 (.lst us)) us (ss.filter λo=>decide (o≠s)):=bR.same hz (aj bh);have MO:upd H7 l2 (.lst us) l2=some (.lst us):=aq;generalize upd H7 l2 (.lst us)=H10 at u7 MN MO;have MP:=s6.trans (s9.trans u7);have fin:∀ o∈ss.filter (λo=>decide (o≠s)),o∈dg tb:=λo ho=>gZ o (acZ.mp ho).1;have fl:=adb (λo=>decide (o≠s)) ss;have kl2:=vg tb (ss.filter λo=>decide (o≠s));rfl';refine⟨w,l2,wv,e,t,u,d,m,tb,us,_,rfl,hW.same (s5.trans MP),aP,bP,MO,MN,fin,by lia,λa9 w9 H11 MQ _ aaV=>?_⟩;have EZ:=MP.trans MQ;have hh0:cA u d t m (df tb (ss.filter λo=>decide (o≠s))) []:=hs.1.of (EM aP.1 fin);refine⟨G,w9,tp,cb,.ref a9,e,t,u,d,m,tr,_,ys,rfl,aaV,okb,EN aP fin,by lia,ML _ fin,nC.same (s5.trans EZ),hg,hf,EZ _ _ hcb,hC.imp λ_ _ r=>r.same EZ,λz=>absurd hh0 z,λ_ _ nG EV=>?_,λz=>?_⟩
    .rfl';exact⟨⟨_,_,rfl⟩,s9.trans (u7.trans (MQ.trans EV))⟩
    .obtain⟨ps,hp,hh⟩:=hR.least s sin;exact absurd hh (z.2 ps hp)
  .rintro σ H9 ⟨⟨z1,z2,rfl⟩,s9⟩;rfl';refine⟨aW,λr hr=>?_⟩;have ur:=aj (o:=.tup [.bl true,.ref sl]) hr;exact q r sl zs ss _ (S6.trans (s9.trans ur)) aq ((s9.trans ur) _ _ yH) (EY.same (s9.trans ur))
 .refine aC (λσ H5=>∃ cb ys,σ=[some wv,some (.ref x),some (.ref tp),some (.ref v),some (.bl false),some .non,some (.bl true),some (.ref cb),none,none]/\ah H H5/\H5 cb=some (.lst ys)/\ax (nE H5) ys (bY tr)) (λN hN=>?_) ?_
  .rfl';exact yA T (hv.same s4) hg _ λcb ys H5 s5 _ hb hC=>hN _ _ ⟨cb,ys,rfl,s4.trans s5,hb,hC.imp λ_ _ r=>cK.cm r⟩
  rintro _ yR σ H5 ⟨cb,ys,rfl,s5,hcb,hC⟩;subst yR;refine aC (λσ H6=>σ=[some wv,some (.ref x),some (.ref tp),some (.ref v),some (.bl false),some .non,some (.bl true),some (.ref cb),none,none]/\ah H H6) (λN hN=>?_) ?_
  .rfl';refine⟨G,w,tp,cb,wv,e,t,u,d,m,tr,tb,ys,rfl,hW.same s5,okb,aP,bP,fk,nC.same s5,hg,hf,hcb,hC,λ_ H6 s6=>?_,λ_ _ H6 s6=>?_,λz=>absurd z hs⟩
   .rfl';refine⟨rfl,EW (by decide) ?_⟩;rfl';exact hN _ _ ⟨rfl,s5.trans s6⟩
   .rfl';refine⟨rfl,EW (by decide) ?_⟩;rfl';exact hN _ _ ⟨rfl,s5.trans s6⟩
  rintro _ yR σ H6 ⟨rfl,s6⟩;subst yR;rfl';refine⟨ac5 _,λl hl=>⟨aW,λr hr=>?_⟩⟩;exact q r l [] [] _ (s6.trans ((aj hl).trans (aj hr))) aq ((aj hr) _ _ aq) trivial
inductive aaW(K:acr)(vs:List V)(H:Hp)(Q:VK)(aS:XK):Prop
 | mk(a wr w c:acF)(ns cs:List Int)(e t u d m f:Int)(tb:Tb)(_:vs=[.ref a,.ref wr,.ref c,.int f])(_:ai K H a (ns.map V.int))(_:k8 ns)(_:H wr=some (.tup [.int e,.int t,.int u,.int d,.int m,.ref w]))(_:TabAt H w tb)(_:bK e t tb)(_:tb.length<=18)(_:(1<=e/\e<=2))(_:H c=some (.lst (cs.map V.int)))(_:cs.length=t.toNat)(_:(4<=t/\t<=6))(_:(1<=f/\f<=1000000000000000000000000000000))(_:∀ r tr H',ah H H'->jd H H' r tr->fK tr->dS tr<t->(∀ i bX,tr = .lies i bX->bX=tb/\0<=i/\i<e)->Q (.ref r) H')
theorem aaX(T:Tx K mg):Ok P w base 2 T.uO (aaW K):=by
 refine bH mP ?_;rintro _ _ _ _ H _ _ _ hr ⟨a,wr,w,c,ns,cs,e,t,u,d,m,f,tb,rfl,hS,hn,fj,hT,aP,MR,he,hc,bq,⟨t4,t6⟩,hf,q⟩;refine⟨_,(ar (aL 4 mP.nd (aJ (eO T) hr (ae (aa 0) (ae af (ae af (ae (aE cQ (aw (aa 1) af) af) ag)))))) (ar (aL 5 mP.nd (aE lG (aa 3) (aJ (eO T) hr (ae (aa 0) (ae af (ae af (ae af ag))))))) (ar (aL 6 mP.nd (sx vX (aa 2) (nT (aa 4)) (nT (aE bC (aa 4) af)))) (ar (aL 7 mP.nd (aJ (eO T) hr (ae (aa 0) (ae af (ae af (ae af ag)))))) (ar (aH (mG (aa 7) af) (au (aA (aN (ae aR (ae (aa 4) (ae (aE bC (aa 4) af) (ae (aE cQ (bf (wy rfl) (by rfl) T.qS pM (ae (aa 6) ag)) (aa 5)) (ae (aE bC (bf (wx rfl) (by rfl) T.oQ pN (ae (aa 6) ag)) (aE PN (aa 5) af)) ag)))))))) aG) (ar (aH (bD (aa 7) af) (au (aA (aN (ae aR (ae (aa 4) (ae (aE bC (aa 4) af) (ae (aE cQ (bf (wx rfl) (by rfl) T.oQ pN (ae (aa 6) ag)) (aa 5)) ag))))))) aG) (ar (aH (bD (aa 7) af) (au (aA (aN (ae aR (ae (aa 4) (ae (aE bC (aa 4) af) (ae (aE bC (bf (wy rfl) (by rfl) T.qS pM (ae (aa 6) ag)) (aa 5)) ag))))))) aG) (ar (aH (bD (aa 7) af) (ar (aL 8 mP.nd (aE bC (aw (aa 2) (aa 4)) (aa 5))) (au (aA (aN (ae aR (ae (aa 4) (ae (aE bC (aa 4) af) (ae (aa 8) (ae (bf (Ov rfl) (by rfl) T.oQ pN (ae (aE bC (aa 8) af) (ae (aE cQ (aw (aa 2) (aE bC (aa 4) af)) (aa 5)) ag))) ag))))))))) aG) (au (aA (aN (ae aR (ae (aJ (eO T) hr (ae (aa 0) (ae af (ae af (ae (aw (aa 1) af) ag))))) (ae (vU Sq (by rfl) T.Wl P4 (ae (aw (aa 1) af) ag)) ag)))))))))))))),?_⟩;obtain⟨f1,f2⟩:=hf;refine aC (λσ H1=>∃ fi,σ=[some (.ref a),some (.ref wr),some (.ref c),some (.int f),some (.int fi),none,none,none,none]/\H1=H/\0<=fi/\fi<t-2) (λN hN=>?_) ?_
 .rfl';refine aI fj ?_;rfl';refine⟨a,ns,_,_,_,rfl,hS,hn,by lia,by lia,by lia,λp p1 p2=>?_⟩;exact hN _ _ ⟨_,rfl,rfl,p1,p2⟩
 rintro _ yR σ H1 ⟨fi,rfl,rfl,i0,i1⟩;subst yR;refine aC (λσ H2=>∃ of,σ=[some (.ref a),some (.ref wr),some (.ref c),some (.int f),some (.int fi),some (.int of),none,none,none]/\H2=H1) (λN hN=>?_) ?_
 .rfl';refine⟨a,ns,_,_,_,rfl,hS,hn,by lia,by lia,by lia,λp p1 p2=>?_⟩;rfl';exact⟨lg (by lia) (by lia),hN _ _ ⟨_,rfl,rfl⟩⟩
 rintro _ yR σ H ⟨of,rfl,rfl⟩;subst yR;have sq:=tL (cs:=cs) i0 (show fi<=fi+1 by lia) (by lia);rw[show fi+1+1=fi+2 by lia] at sq;obtain⟨sl,esl⟩:∃ sl,sl=(acD (fi+2-fi).toNat).map (a8 cs fi):=⟨_,rfl⟩
 have yJ:sl≠[]:=λz=>by have:=congrArg List.length (esl.symm.trans z);rw[acs,acH] at this;have:(fi+2-fi).toNat=0:=this;lia
 rw[<- esl] at sq;refine aC (λσ H2=>∃ sn,σ=[some (.ref a),some (.ref wr),some (.ref c),some (.int f),some (.int fi),some (.int of),some (.ref sn),none,none]/\ah H H2/\H2 sn=some (.lst (sl.map V.int))) (λN hN=>?_) ?_
 .rfl';refine⟨_,ai.of hc,λsn rE=>?_⟩;rw[sq];exact hN _ _ ⟨sn,rfl,aj rE,by rw[<- sq];exact aq⟩
 rintro _ yR σ H2 ⟨sn,rfl,s2,rE⟩;subst yR;refine aC (λσ H3=>∃ so:Int,σ=[some (.ref a),some (.ref wr),some (.ref c),some (.int f),some (.int fi),some (.int of),some (.ref sn),some (.int so),none]/\H3=H2) (λN hN=>?_) ?_
 .rfl';refine⟨a,ns,_,_,_,rfl,s2.seq hS,hn,by lia,by lia,by lia,λp p1 p2=>?_⟩;exact hN _ _ ⟨_,rfl,rfl⟩
 rintro _ yR σ H3 ⟨so,rfl,rfl⟩;subst yR;have ou:cg fi (fi+1):=⟨i0,by lia,by lia⟩
 have nl:∀ (tr:Tr),(∀ i bX,tr ≠ .lies i bX)->∀ i bX,tr = .lies i bX->bX=tb/\0<=i/\i<e:=λtr h i bX z=>absurd z (h i bX);rfl'
 repeat' (refine aV (λ_=>?_) λ_=>?_)
 .exact⟨_,ai.of rE,yJ,_,ai.of rE,yJ,Qo (by decide),by decide,λp hp=>q p (.stay fi (fi+1) (some _) (some _)) _ (s2.trans (aj hp)) aq ou (by show fi+1<t;lia) (nl _ λ_ _ z=>nomatch z)⟩
 .exact⟨_,ai.of rE,yJ,by decide,λp hp=>q p (.over fi (fi+1) _) _ (s2.trans (aj hp)) aq ou (by show fi+1<t;lia) (nl _ λ_ _ z=>nomatch z)⟩
 .exact⟨_,ai.of rE,yJ,by decide,λp hp=>q p (.under fi (fi+1) _) _ (s2.trans (aj hp)) aq ou (by show fi+1<t;lia) (nl _ λ_ _ z=>nomatch z)⟩
 .refine bQ (ai.of (s2 _ _ hc)) (int_at (by lia) (by lia)) ?_;rfl';refine bQ (ai.of (s2 _ _ hc)) (int_at (by lia) (by lia)) ?_;rfl';exact⟨by decide,λp hp=>q p (.rose fi (fi+2) _ _) _ (s2.trans (aj hp)) aq ⟨⟨i0,by lia,by lia⟩,by split<;>lia⟩ (by show fi+2<t;lia) (nl _ λ_ _ z=>nomatch z)⟩
 .have nF:=s2 _ _ fj;obtain⟨kw,hkw,nH⟩:=id (hT.same s2);refine aI nF ?_;rfl';refine⟨a,ns,_,_,_,rfl,s2.seq hS,hn,by lia,by lia,by lia,λp p1 p2=>?_⟩;rfl';refine az (ak.of nF) (v:=.ref w) rfl ⟨w,rfl,kw,hkw,SG nH aP (by lia) (by lia),λl hl=>⟨by decide,λr hr=>?_⟩⟩;have u1:=aj (o:=.dT kw) hl;have u2:=aj (o:=.tup [.str "lies",.int p,.ref l]) hr;have hAl:TabAt (upd H3 l (.dT kw)) l tb:=⟨kw,aq,nH.imp λ_ _ _ z=>aM.same z u1⟩
  exact q r (.lies p tb) _ (s2.trans (u1.trans u2)) ⟨l,s2.free hl,aq,hAl.same u2⟩ ⟨⟨aP.1,λr hr=>let ⟨⟨x1,x2⟩,x3,x4⟩:=aP.2 r hr;⟨⟨x1,by lia⟩,x3,by lia⟩⟩,by lia⟩ (aan (by lia) (aam aP)) λi bX z=>by cases z;exact⟨rfl,p1,p2⟩
inductive aaY(K:acr)(B C N:acF)(vs:List V)(H:Hp)(Q:VK)(E:XK):Prop
 | mk(x p:acF)(e t u d m i:Int)(tb:Tb)(_:vs=[.ref x,.int i])(_:cE B H x e t u d m p tb)(_:bK e t tb)(_:tb.length<=60)(_:(¬ (0<=i/\i<e)->E (.ref N) none H))(_:(0<=i/\i<e->∀ v H',ah H H'->H v=none->kK C H' v (dM tb i)->Q (.ref v) H'))
theorem aaZ(T:Tx K mg):Ok P w base 3 T.nc (aaY K T.aO T.cR T.i8):=by
 refine iY DD ?_;rintro _ _ _ _ _ _ _ _ hr ⟨x,p,e,t,u,d,m,i,tb,rfl,hB,aP,bP,q0,q⟩;refine⟨_,(ar (aH (cF (cy (eS (aa 0) T.bw T.Lm (Lr T) hr.m T.lK.b .nil bI (ae (aa 1) ag)))) (au (iE iF rfl T.xN T.qZ rfl (ae aR ag))) aG) (au (aA (nQ T.D0 (Z4 T) hr.m rfl T.Wu T.oN.b .nil bI (ae (aJ (LG T) hr (ae (aa 0) (ae (aa 1) ag))) ag))))),?_⟩;obtain⟨⟨bx,hx⟩,kvs,hkv,hA⟩:=id hB;rfl';refine⟨_,_,hx,rfl,x,p,e,t,u,d,m,i,kvs,rfl,⟨⟨bx,hx⟩,hkv⟩,?_⟩;by_cases hi:0<=i/\i<e
 .rw[decide_eq_true hi];rfl';refine⟨x,p,e,t,u,d,m,i,tb,rfl,hB,aP.1,by lia,λr hr=>(aP.2 r hr).2.1,λl ys H1 s1 _ hl hY y dy hy hdy ne=>?_⟩;refine⟨y,dy,.ref l,rfl,aq,rfl,?_⟩;rw[jf];have s2:ah H1 (upd (upd H1 dy (.own y)) y (.ins T.cR dy [("marks",.ref l)])):=(aj hdy).trans (aj (by rw[aD (ady ne)];exact hy));exact q hi y _ (s1.trans s2) (s1.free hy) ⟨dy,l,ys,aq,s2 _ _ hl,hY.imp λ_ _ r=>r.same s2⟩
 .rw[decide_eq_false hi];rfl';exact⟨by decide,q0 hi⟩
inductive aa0(T:Tx K mg)(vs:List V)(H:Hp)(Q:VK)(E:XK):Prop
 | mk(G:Hp)(p x y:acF)(e t u d m:Int)(tr:Tr)(tb:Tb)(_:vs=[.ref p,.ref x])(_:jd G H p tr)(_:fK tr)(_:cE T.aO H x e t u d m y tb)(_:bK e t tb)(_:tb.length<=60)(_:(∀ i bX,tr = .lies i bX->bX=tb/\0<=i/\i<e))(_:(∀ x H',ah H H'->fX T H' x tr->Q (.ref x) H'))
theorem aa1(T:Tx K mg):Ok P w base 4 T.nv (aa0 T):=by
 refine iY DT ?_;rintro _ _ _ s H _ _ _ hr ⟨G,p,bx,y,e,t,u,d,m,tr,tb,rfl,hp,hg,hB,aP,bP,hl,q⟩;refine⟨_,(ar (aH (bD (aw (aa 0) af) aR) (au (aA (nQ T.DW (Zt T) hr.m rfl T.Wq T.oI.b .nil bZ (ae (aw (aa 0) af) (ae (aw (aa 0) af) (ae (aN (ae (aw (aa 0) af) (ae (aw (aa 0) af) ag))) ag)))))) aG) (ar (aH (bD (aw (aa 0) af) aR) (au (aA (nQ T.DX (Zv T) hr.m rfl T.Wr T.oJ.b .nil bZ (ae (aw (aa 0) af) (ae (aw (aa 0) af) (ae (aw (aa 0) af) ag)))))) aG) (ar (aH (bD (aw (aa 0) af) aR) (au (aA (nQ T.DY (Zx T) hr.m rfl T.Ws T.oK.b .nil bZ (ae (aw (aa 0) af) (ae (aw (aa 0) af) (ae (aw (aa 0) af) ag)))))) aG) (ar (aH (bD (aw (aa 0) af) aR) (au (aA (nQ T.DZ (Zz T) hr.m rfl T.Wt T.oM.b .nil bZ (ae (aw (aa 0) af) (ae (aw (aa 0) af) (ae (aw (aa 0) af) (ae (aw (aa 0) af) ag))))))) aG) (au (aA (bO (aaZ T) hr.m rfl T.nc.m T.nc.F.kp T.nc.b .nil bZ (ae (aa 1) (ae (aw (aa 0) af) ag))))))))),?_⟩;cases tr with
 | lies i bX =>
  obtain⟨rfl,hi⟩:=hl i bX rfl;obtain⟨w,_,hp,_⟩:=hp;rfl'
  repeat (refine aI hp ?_;rfl')
  exact⟨bx,y,e,t,u,d,m,i,_,rfl,hB,aP,bP,λz=>absurd hi z,λ_ v H' s' _ hL=>q v H' s' hL⟩
 | stay i j l h =>
  replace hp:H p=some (.tup [.str "stay",.int i,.int j,ev l,ev h]):=hp;rfl'
  repeat (refine aI hp ?_;rfl')
  refine⟨aW,λy hy=>?_⟩;have sy:=aj (o:=.tup [ev l,ev h]) hy;have ey:upd H y (.tup [ev l,ev h]) y=some (.tup [ev l,ev h]):=aq;intro x dx hx lP de;have mk:=w5 (C:=T.b8) (fs:=[]) hx lP de;refine⟨x,dx,i,j,_,rfl,aq,λz=>absurd hg z,λhk=>⟨rfl,?_⟩⟩;refine q x _ (λb o e=>?_) ⟨dx,y,aq,by rw[aD (λz=>by rw[<- z,ey] at hx;cases hx)];exact mk _ _ ey⟩;have e2:=(sy:ah H _) _ _ e;rw[aD (λz=>by rw[z,hx] at e2;cases e2)];exact mk _ _ e2
 | over i j s =>
  replace hp:H p=some (.tup [.str "over",.int i,.int j,.int s]):=hp;rfl'
  repeat (refine aI hp ?_;rfl')
  intro x dx hx lP de;have mk:=w5 (C:=T.b9) (fs:=[]) hx lP de;refine⟨x,dx,i,j,_,rfl,aq,λz=>absurd hg z,λhk=>⟨rfl,?_⟩⟩;refine q x _ (λb o e=>?_) ⟨dx,aq⟩;have e2:=(ah.refl H:ah H _) _ _ e;rw[aD (λz=>by rw[z,hx] at e2;cases e2)];exact mk _ _ e2
 | under i j s =>
  replace hp:H p=some (.tup [.str "under",.int i,.int j,.int s]):=hp;rfl'
  repeat (refine aI hp ?_;rfl')
  intro x dx hx lP de;have mk:=w5 (C:=T.cc) (fs:=[]) hx lP de;refine⟨x,dx,i,j,_,rfl,aq,λz=>absurd hg z,λhk=>⟨rfl,?_⟩⟩;refine q x _ (λb o e=>?_) ⟨dx,aq⟩;have e2:=(ah.refl H:ah H _) _ _ e;rw[aD (λz=>by rw[z,hx] at e2;cases e2)];exact mk _ _ e2
 | rose i j l h =>
  replace hp:H p=some (.tup [.str "rose",.int i,.int j,.int l,.int h]):=hp;rfl'
  repeat (refine aI hp ?_;rfl')
  intro x dx hx lP de;have mk:=w5 (C:=T.cf) (fs:=[]) hx lP de;refine⟨x,dx,i,j,l,h,rfl,aq,λz=>absurd hg z,λhk=>⟨rfl,?_⟩⟩;refine q x _ (λb o e=>?_) ⟨dx,aq⟩;have e2:=(ah.refl H:ah H _) _ _ e;rw[aD (λz=>by rw[z,hx] at e2;cases e2)];exact mk _ _ e2
theorem cE.aa2{B:acF}{H H':Hp}{y p:acF}{e t u d m:Int}{tb:Tb}{kvs:List (List Key × V)}{s:P2}(ob:∃ dx,H y=some (.ins B dx (xU e t u d m p)))(hp:H p=some (.dT kvs))(hA:a7 H kvs tb)(sb:SameBut p H H')(dZ:H' p=some (.dT (iM kvs (spot s.1 s.2)))):cE B H' y e t u d m p (lj tb s) :=
 let ⟨dx,hx⟩:=ob
 ⟨⟨dx,sb y _ (λz=>by rw[z,hp] at hx;cases hx) hx⟩,_,dZ,a7.drop (hA.imp λv a b z=>z.fr (SameBut.fr sb hp))⟩
theorem aa3(h:cH H v o):Dat K H v (.tuple [.int o.1,.int o.2]):=let ⟨a,e,ha⟩:=h;e ▸ .tup (ak.of ha) (.cons (.int _) (.cons (.int _) .nil))
theorem aa4(qs:List P2):Gd 2 (.list (qs.map λo=>PyData.tuple [.int o.1,.int o.2])):=.lst λd hd=>by obtain⟨o,_,rfl⟩:=acE.mp hd;exact .of rfl
theorem MS(h:H l=some (.lst zs))(p:bR H zs qs):Dat K H (.ref l) (.list (qs.map λo=>PyData.tuple [.int o.1,.int o.2])):=.lst (ai.of h) (kZ.Jb (λ_ _ r=>aa3 r) p)
theorem fX.fr{T:Tx K mg}{H H':Hp}{x:acF}{tr:Tr}(h:fX T H x tr)(F:Fr H H'):fX T H' x tr:=by
 cases tr
 case stay=>obtain⟨dx,p,a,b⟩:=h;exact⟨dx,p,F _ (.ins _ _ _) (λ_ z=>nomatch z) a,F _ (.tup _) (λ_ z=>nomatch z) b⟩
 case lies =>
  obtain⟨dx,l,ys,a,b,c⟩:=h;exact⟨dx,l,ys,F _ (.ins _ _ _) (λ_ z=>nomatch z) a,F _ (.lst _) (λ_ z=>nomatch z) b,c.imp λ_ _ r=>let ⟨t,p,e,x,y⟩:=r;⟨t,p,e,F _ (.tup _) (λ_ z=>nomatch z) x,F _ (.tup _) (λ_ z=>nomatch z) y⟩⟩
 all_goals (obtain⟨dx,a⟩:=h;exact⟨dx,F _ (.ins _ _ _) (λ_ z=>nomatch z) a⟩)
inductive yK(K:acr)(vs:List V)(H:Hp)(Q:VK)(aS:XK):Prop
 | mk(a:acF)(ns:List Int)(_:vs=[.ref a])(_:ai K H a (ns.map V.int))(_:k8 ns)(_:∀ H',Q (.bl true) H')
theorem aa5(T:Tx K mg):Ok P w base 37 T.oO (yK K):=by
 refine iY iZ ?_;rintro _ _ _ s H _ _ _ hr ⟨a,ns,rfl,hS,hn,q⟩;refine⟨_,(ar (aL 1 iZ.nd (aJ (Xl T) hr (ae (aa 0) (ae (aJ (Xb T) hr (ae (aa 0) ag)) ag)))) (ar (aL 2 iZ.nd (aw (aa 1) af)) (ar (aL 3 iZ.nd (aJ (LB T) hr (ae (aa 2) ag))) (ar (aL 4 iZ.nd (aJ (aaX T) hr (ae (aa 0) (ae (aa 2) (ae (aw (aa 1) af) (ae (aw (aa 1) af) ag)))))) (ar (aL 5 iZ.nd (bO (aa1 T) hr.m rfl T.nv.m T.nv.F.kp T.nv.b .nil bZ (ae (aa 4) (ae (aa 3) ag)))) (ar (aL 6 iZ.nd (bO (MI T) hr.m rfl T.jO.m T.jO.F.kp T.jO.b .nil bZ (ae (aa 2) (ae (aa 3) (ae (aa 4) (ae (aa 5) ag)))))) (ar (aL 7 iZ.nd (vU GB (by rfl) T.qR pO (ae (aw (aa 6) af) ag))) (ar (aH (cF (cy (aw (aa 6) af))) (au (aA dU)) aG) (ar (aH (qI (bf Ap (by rfl) T.dt di (ae (aw (aa 2) af) ag)) af) (ar (aL 8 iZ.nd (aw (vU (Se rfl) (by rfl) T.qR pO (ae (aw (aa 2) af) ag)) (aJ (eO T) hr (ae (aa 0) (ae af (ae af (ae (bf Ap (by rfl) T.dt di (ae (aw (aa 2) af) ag)) ag))))))) (ar (eI (eS (aa 3) T.bw T.WM (Xt T) hr.m T.nj.b .nil bZ (ae (aw (aa 8) af) (ae (aw (aa 8) af) ag)))) (ar (eI (IS (dI hr) (aw (aa 2) af) (aa 8) ⟨rfl,rfl,rfl,rfl⟩)) (au (aH (cF (cy (aw (bO (MI T) hr.m rfl T.jO.m T.jO.F.kp T.jO.b .nil bZ (ae (aa 2) (ae (aa 3) (ae (aa 4) (ae (aa 5) ag))))) af))) (au (aA dU)) aG))))) aG) (au (aA (fv (Rn hr.units) (aw (aa 6) af) (aa 7) (c7 _))))))))))))),?_⟩;refine aC (λσ H1=>∃ (r wr w c:acF) (cs:List Int) (e t u d m f:Int) (tb:Tb),σ=[some (.ref a),some (.ref r),none,none,none,none,none,none,none]/\ah H H1/\H1 r=some (.tup [.ref wr,.ref c,.int f])/\H1 wr=some (.tup [.int e,.int t,.int u,.int d,.int m,.ref w])/\TabAt H1 w tb/\H1 c=some (.lst (cs.map V.int))/\cs.length=t.toNat/\eF e t u d m/\bK e t tb/\tb.length<=18/\(∀ r∈tb,aX r.2.1 r.2.2=false)/\((1<=e/\e<=2)/\4<=t/\t<=6)/\(1<=f/\f<=1000000000000000000000000000000)) (λN hN=>?_) ?_
 .rfl';refine⟨a,ns,rfl,hS,hn,λn H1 s1=>⟨a,ns,n,rfl,s1.seq hS,hn,λr wr w c cs e t u d m f tb H2 s2 x1 x2 x3 x4 x5 x6 x7 x8 x9 y1 y2=>hN _ _ ⟨r,wr,w,c,cs,e,t,u,d,m,f,tb,rfl,s1.trans s2,x1,x2,x3,x4,x5,x6,x7,x8,x9,by lia,y2⟩⟩⟩
 rintro _ yR σ H1 ⟨r,wr,w,c,cs,e,t,u,d,m,f,tb,rfl,s1,dF,yL,iq,wk,bq,okb,aP,MR,fk,⟨he,ht⟩,hf⟩;subst yR;have E1:=s1.seq hS;clear hS s1;refine aC (λσ H2=>σ=[some (.ref a),some (.ref r),some (.ref wr),none,none,none,none,none,none]/\H2=H1) (λN hN=>?_) ?_
 .rfl';exact az (ak.of dF) rfl (hN _ _ ⟨rfl,rfl⟩)
 rintro _ yR σ H2 ⟨rfl,rfl⟩;subst yR;refine aC (λσ H3=>∃ x p,σ=[some (.ref a),some (.ref r),some (.ref wr),some (.ref x),none,none,none,none,none]/\ah H2 H3/\H2 p=none/\cE T.aO H3 x e t u d m p tb) (λN hN=>?_) ?_
 .rfl';exact⟨.ref wr,w,e,t,u,d,m,tb,rfl,⟨wr,rfl,yL,iq⟩,okb,aP,by lia,fk,λx p H3 s3 _ fp hB=>hN _ _ ⟨x,p,rfl,s3,fp,hB⟩⟩
 rintro _ yR σ H3 ⟨x,p,rfl,s3,fp,oX⟩;subst yR;have wp:w≠p:=λz=>by obtain⟨ks,gV,_⟩:=iq;rw[z,fp] at gV;cases gV
 have gp:H3 p≠none:=by obtain⟨_,ks,gV,_⟩:=id oX;rw[gV];exact λz=>nomatch z
 have gw:H3 w≠none:=by obtain⟨ks,gV,_⟩:=iq;rw[s3 _ _ gV];exact λz=>nomatch z
 refine aC (λσ H4=>∃ tp tr,σ=[some (.ref a),some (.ref r),some (.ref wr),some (.ref x),some (.ref tp),none,none,none,none]/\ah H3 H4/\jd H3 H4 tp tr/\fK tr/\dS tr<t/\(∀ i bX,tr = .lies i bX->bX=tb/\0<=i/\i<e)) (λN hN=>?_) ?_
 .rfl';refine az (ak.of (s3 _ _ dF)) rfl (az (ak.of (s3 _ _ dF)) rfl ⟨a,wr,w,c,ns,cs,e,t,u,d,m,f,tb,rfl,s3.seq E1,hn,s3 _ _ yL,iq.same s3,aP,MR,he,s3 _ _ wk,bq,ht,hf,λtp tr H4 s4 h1 h2 h3 h4=>hN _ _ ⟨tp,tr,rfl,s4,h1,h2,h3,h4⟩⟩)
 rintro _ yR σ H4 ⟨tp,tr,rfl,s4,E2,hg,hfar,hl⟩;subst yR;refine aC (λσ H5=>∃ v,σ=[some (.ref a),some (.ref r),some (.ref wr),some (.ref x),some (.ref tp),some (.ref v),none,none,none]/\ah H4 H5/\fX T H5 v tr) (λN hN=>?_) ?_
 .rfl';exact⟨H3,tp,x,p,e,t,u,d,m,tr,tb,rfl,E2,hg,oX.same s4,aP,by lia,hl,λv H5 s5 hv=>hN _ _ ⟨v,rfl,s5,hv⟩⟩
 rintro _ yR σ H5 ⟨v,rfl,s5,E3⟩;subst yR;have S5:=s3.trans (s4.trans s5);have E4:=oX.same (s4.trans s5);have E5:fU H5 (.ref wr) w e t u d m tb:=⟨wr,rfl,S5 _ _ yL,iq.same S5⟩
 have E6:=E2.same s5;have MT:=S5.seq E1;clear dF yL iq wk E1 s3 s4 s5 S5 fp oX E2 hl;refine aC (λσ H6=>∃ fo k ys ss,σ=[some (.ref a),some (.ref r),some (.ref wr),some (.ref x),some (.ref tp),some (.ref v),some (.ref fo),none,none]/\ah H5 H6/\H6 fo=some (.tup [.bl true,.ref k])/\H6 k=some (.lst ys)/\bR H6 ys ss) (λN hN=>?_) ?_
 .rfl';exact⟨H3,x,p,w,v,tp,.ref wr,e,t,u,d,m,tr,tb,rfl,E4,E5,okb,aP,by lia,fk,E6,E3,hg,hfar,λfo k ys ss H6 s6 h1 h2 h3=>hN _ _ ⟨fo,k,ys,ss,rfl,s6,h1,h2,h3⟩⟩
 rintro _ yR σ H6 ⟨fo,k,ys,ss,rfl,s6,E7,E8,MU⟩;subst yR;refine aC (λσ H7=>∃ kc,σ=[some (.ref a),some (.ref r),some (.ref wr),some (.ref x),some (.ref tp),some (.ref v),some (.ref fo),some (.ref kc),none]/\ah H6 H7/\H7 kc=some (.lst ys)) (λN hN=>?_) ?_
 .rfl';exact az (ak.of E7) rfl ⟨_,rfl,_,.inl (ai.of E8),λkc hkc=>hN _ _ ⟨kc,rfl,aj hkc,aq⟩⟩
 rintro _ yR σ H7 ⟨kc,rfl,s7,E9⟩;subst yR;have S7:=s6.trans s7;have MV:=E4.same S7;have MW:=E5.same S7;have MX:=E6.same S7;have MY:=E3.same S7;have yM:=s7 _ _ E7;have rf:=s7 _ _ E8;have Fc:=bR.same MU s7;have MZ:=S7.seq MT;clear s6 s7 S7 E4 E5 E6 E3 E7 E8 MU MT;refine aC (λσ H8=>σ=[some (.ref a),some (.ref r),some (.ref wr),some (.ref x),some (.ref tp),some (.ref v),some (.ref fo),some (.ref kc),none]/\H8=H7) (λN hN=>?_) ?_
 .rfl';refine aI yM ?_;rfl';exact hN _ _ ⟨rfl,rfl⟩
 rintro _ yR σ H8 ⟨rfl,rfl⟩;subst yR;refine aC (λσ H9=>∃ z,σ=[some (.ref a),some (.ref r),some (.ref wr),some (.ref x),some (.ref tp),some (.ref v),some (.ref fo),some (.ref kc),z]/\H9 fo=some (.tup [.bl true,.ref k])/\H9 k=some (.lst ys)/\H9 kc=some (.lst ys)/\bR H9 ys ss) (λN hN=>?_) ?_
 .obtain⟨_,er,hR,kw,hkw,nH⟩:=id MW;cases er;obtain⟨⟨dx,hx⟩,kp,hkp,Fd⟩:=id MV;refine K4 λB hB=>?_;rfl';refine az (ak.of hR) (v:=.ref w) rfl ⟨w,rfl,kw,hkw,aV (λh0=>?_) λ_=>hN _ _ ⟨_,rfl,yM,rf,E9,Fc⟩⟩;subst hB;refine aC (λσ G1=>∃ ka rr,σ=[some (.ref a),some (.ref r),some (.ref wr),some (.ref x),some (.ref tp),some (.ref v),some (.ref fo),some (.ref kc),some (.ref ka)]/\ah H8 G1/\G1 ka=some (.tup [.int rr.1.1,.int rr.1.2])/\rr∈tb) (λN2 vE=>?_) ?_
  .rfl';refine az (ak.of hR) (v:=.ref w) rfl ⟨w,rfl,kw,hkw,λl1 zs h1 gV=>?_⟩;have u1:=aj (o:=.lst zs) h1;have P0:bR H8 zs (tb.map (·.1)):=nH.qk gV;have pl:=P0.len;have wl':=nH.len;rw[acs] at pl;refine az (ak.of (u1 _ _ hR)) (v:=.ref w) rfl ⟨w,rfl,kw,u1 _ _ hkw,a,ns,13,10177,_,rfl,u1.seq MZ,hn,⟨by decide,by decide⟩,by decide,by lia,λi i0 i1=>?_⟩;obtain⟨j,rfl⟩:=Int.eq_ofNat_of_zero_le i0;have hj:j<zs.length:=by lia
   have hv:=acv hj;obtain⟨s0,M0,ka,aa6,hka⟩:=P0.get hv;rw[acJ] at M0;obtain⟨rr,hrr,rfl⟩:=adf.mp M0;refine bQ (ai.of aq) (dH hv) ?_;rw[aa6];exact vE _ _ ⟨ka,rr,rfl,u1,u1 _ _ hka,acM hrr⟩
  rintro _ yR σ G1 ⟨ka,rr,rfl,u1,Fe,rh⟩;subst yR;obtain⟨vv,hvv,_⟩:=(Fd.val rr.1).2 _ (iO aP.1 rh);obtain⟨vw,hvw,_⟩:=(nH.val rr.1).2 _ (iO aP.1 rh);have hR1:=u1 _ _ hR;have aa7:=u1 _ _ hkw;have Ff:=u1 _ _ hkp;have lN:=u1 _ _ hx;have aa8:=Fd.imp λv a b z=>aM.same z u1;have aa9:=nH.imp λv a b z=>aM.same z u1;have aba:=MX.same u1;have tI:=MY.same u1;have abb:=u1 _ _ yM;have jb:=u1 _ _ rf;have abc:=u1 _ _ E9;have hP1:=bR.same Fc u1;clear hR hkw hkp hx Fd nH MX MY yM rf E9 Fc MV MW MZ u1;refine aC (λσ nG=>σ=[some (.ref a),some (.ref r),some (.ref wr),some (.ref x),some (.ref tp),some (.ref v),some (.ref fo),some (.ref kc),some (.ref ka)]/\SameBut p G1 nG/\nG p=some (.dT (iM kp (spot rr.1.1 rr.1.2)))) (λN2 vE=>?_) ?_
  .rfl';exact⟨_,_,lN,rfl,az (ak.of Fe) rfl (az (ak.of Fe) rfl ⟨x,p,e,t,u,d,m,rr.1.1,rr.1.2,kp,rfl,⟨⟨dx,lN⟩,Ff⟩,λz=>absurd (hvv.symm.trans z) (λz=>nomatch z),λv9 _ nG sb Fg=>vE _ _ ⟨rfl,sb,Fg⟩⟩)⟩
  rintro _ yR σ nG ⟨rfl,sb,Fg⟩;subst yR;have vF:Fr G1 nG:=SameBut.fr sb Ff;have M4:=cE.aa2 (s:=rr.1) ⟨dx,lN⟩ Ff aa8 sb Fg;have M5:=vF _ (.tup _) (λ_ z=>nomatch z) hR1;have abd:=vF _ (.tup _) (λ_ z=>nomatch z) Fe;have Fh:=sb w _ wp aa7;have abe:=aa9.imp λv a b z=>z.fr vF;have abf:=aba.fr vF λb o hb e=>sb b o (λz=>by rw[z] at hb;exact absurd hb gp) e;refine aC (λσ lR=>σ=[some (.ref a),some (.ref r),some (.ref wr),some (.ref x),some (.ref tp),some (.ref v),some (.ref fo),some (.ref kc),some (.ref ka)]/\upd nG w (.dT (iM kw (spot rr.1.1 rr.1.2)))=lR) (λN2 vE=>?_) ?_
  .rfl';exact az (ak.of M5) (v:=.ref w) rfl ⟨w,rfl,.inr ⟨kw,.inl Fh⟩,kw,Fh,spot rr.1.1 rr.1.2,abd,vw,hvw,vE _ _ ⟨rfl,rfl⟩⟩
  rintro _ yR σ lR ⟨rfl,yN⟩;subst yR;have rF:Fr nG lR:=yN ▸ tm Fh;have abg:=abf.fr rF λb o hb e=>by rw[<- yN,aD λz=>by rw[z] at hb;exact absurd hb gw];exact e
  have w13:lR w=some (.dT (iM kw (spot rr.1.1 rr.1.2))):=by rw[<- yN];exact aq
  have p13:TabAt lR p (lj tb rr.1):=M4.tb.fr rF λ_ z=>by rw[<- yN,aD (ady wp)];exact z
  have FF:Fr G1 lR:=vF.trans rF;have T13:yw G1 lR:=λa xs z=>FF _ (.tup _) (λ_ z=>nomatch z) z;have B13:=M4.now rF p13;have W13:fU lR (.ref wr) w e t u d m (lj tb rr.1):=⟨wr,rfl,rF _ (.tup _) (λ_ z=>nomatch z) M5,_,w13,a7.drop (s:=rr.1) (abe.imp λv a b z=>z.fr rF)⟩
  have ok2:bK e t (lj tb rr.1):=aP.drop;have n2:(lj tb rr.1).length<=tb.length:=adb _ _;have abh:bR lR ys ss:=hP1.imp λ_ _ z=>let ⟨a,e,h⟩:=z;⟨a,e,T13 _ _ h⟩;rfl';refine⟨H3,x,p,w,v,tp,.ref wr,e,t,u,d,m,tr,_,rfl,B13,W13,okb,ok2,by lia,λr hr=>fk r (acZ.mp (by unfold lj at hr;exact hr)).1,abg,tI.fr FF,hg,hfar,λfo2 k2 ys2 ss2 H14 rD abi _ _=>?_⟩;refine aI abi ?_;rfl';exact hN _ _ ⟨_,rfl,rD _ _ (FF _ (.tup _) (λ_ z=>nomatch z) abb),rD _ _ (FF _ (.lst _) (λ_ z=>nomatch z) jb),rD _ _ (FF _ (.lst _) (λ_ z=>nomatch z) abc),bR.same abh rD⟩
 rintro _ yR σ H9 ⟨z,rfl,abj,fq,abk,yI⟩;subst yR;rfl';refine az (ak.of abj) rfl (SN (MS fq yI) (MS abk yI) (aa4 _) (by decide) ?_);rfl';exact q _
end
theorem abl{l:aid}{w:ad2}{K:acr}{h:aeV}{mg:Str->Option acB}{fa:acF}(X:K.In h)(G:h.Ns acU mg)(hfa:mg "law" = some (.ref fa))
 {xM:acF}
 {ny:acF}
 {i8:acF}
 {i9:acF}
 {ja:acF}
 {gn:acF}
 {xO:acF}
 {dP:acF}
 {b8:acF}
 {b9:acF}
 {cc:acF}
 {cf:acF}
 {cR:acF}
 {aO:acF}
 {abm:ClassData}
 {abn:Tok}
 {abo:Tok}
 {abp:Tok}
 (abq:ac6 K acU "GazeError" = some (some (.ref xM)))
 (abr:ac6 K acU "NoBoard" = some (some (.ref ny)))
 (abt:ac6 K acU "NoTelling" = some (some (.ref i8)))
 (abu:ac6 K acU "NoClaim" = some (some (.ref i9)))
 (abv:ac6 K acU "NoEvent" = some (some (.ref ja)))
 (abw:ac6 K acU "NoAlarm" = some (some (.ref gn)))
 (abx:ac6 K acU "Event" = some (some (.ref xO)))
 (aby:ac6 K acU "Spanned" = some (some (.ref dP)))
 (abz:ac6 K acU "Stayed" = some (some (.ref b8)))
 (abA:ac6 K acU "Over" = some (some (.ref b9)))
 (abB:ac6 K acU "Under" = some (some (.ref cc)))
 (abC:ac6 K acU "Rose" = some (some (.ref cf)))
 (abD:ac6 K acU "Lying" = some (some (.ref cR)))
 (abE:ac6 K acU "Board" = some (some (.ref aO)))
 (uc:Fb K "is_crossed" "is_crossed" Bs (aU K "is_crossed"))
 (ud:Fb K "meet" "meet" Bu (aU K "meet"))
 (ue:Fb K "common" "common" Bv (aU K "common"))
 (uf:Fb K "has_part" "has_part" Bw (aU K "has_part"))
 (jI:Fb K "check_claim" "check_claim" Bx (aU K "check_claim"))
 (ug:Fb K "stretches_of" "stretches_of" By (aU K "stretches_of"))
 (mQ:Fb K "paces" "paces" Bz (aU K "paces"))
 (mR:Fb K "wanted" "wanted" BA (aU K "wanted"))
 (uh:Fb K "outside" "outside" BB (aU K "outside"))
 (ui:Fb K "failures" "failures" BC (aU K "failures"))
 (uj:Fb K "parts_at" "parts_at" BD (aU K "parts_at"))
 (i3:Fb K "__init__" "Spanned.__init__" BE λf=>bM K dP "__init__" f/\akb K (.ref dP) (.type "type") "__init__" = some (.val (.ref f)))
 (eW:Fb K "far" "Spanned.far" BF λf=>bM K dP "far" f/\bM K b8 "far" f/\bM K b9 "far" f/\bM K cc "far" f/\bM K cf "far" f)
 (eE:Fb K "all_at" "Spanned.all_at" BG λf=>bM K dP "all_at" f/\bM K b8 "all_at" f/\bM K b9 "all_at" f/\bM K cc "all_at" f/\bM K cf "all_at" f)
 (oI:Fb K "__init__" "Stayed.__init__" BH (bM K b8 "__init__"))
 (mS:Fb K "ways" "Stayed.ways" BI (bM K b8 "ways"))
 (mT:Fb K "breaks" "Stayed.breaks" BJ (bM K b8 "breaks"))
 (oJ:Fb K "__init__" "Over.__init__" BK (bM K b9 "__init__"))
 (mU:Fb K "ways" "Over.ways" BL (bM K b9 "ways"))
 (mV:Fb K "breaks" "Over.breaks" BM (bM K b9 "breaks"))
 (oK:Fb K "__init__" "Under.__init__" BN (bM K cc "__init__"))
 (mW:Fb K "ways" "Under.ways" BO (bM K cc "ways"))
 (mX:Fb K "breaks" "Under.breaks" BP (bM K cc "breaks"))
 (oM:Fb K "__init__" "Rose.__init__" BQ (bM K cf "__init__"))
 (mY:Fb K "ways" "Rose.ways" BR (bM K cf "ways"))
 (mZ:Fb K "breaks" "Rose.breaks" BS (bM K cf "breaks"))
 (oN:Fb K "__init__" "Lying.__init__" BU (bM K cR "__init__"))
 (m5:Fb K "far" "Lying.far" BV (bM K cR "far"))
 (lJ:Fb K "all_right" "Lying.all_right" BW (bM K cR "all_right"))
 (m6:Fb K "ways" "Lying.ways" BX (bM K cR "ways"))
 (m8:Fb K "breaks" "Lying.breaks" BY (bM K cR "breaks"))
 (uk:Fb K "number_in" "number_in" BZ (aU K "number_in"))
 (um:Fb K "moved" "moved" B0 (aU K "moved"))
 (uo:Fb K "narrowed" "narrowed" B1 (aU K "narrowed"))
 (uq:Fb K "stretches_at" "stretches_at" B2 (aU K "stretches_at"))
 (uu:Fb K "tube" "tube" B3 (aU K "tube"))
 (uv:Fb K "course_in" "course_in" B4 (aU K "course_in"))
 (uw:Fb K "lesser" "lesser" B5 (aU K "lesser"))
 (ux:Fb K "lifted" "lifted" B6 (aU K "lifted"))
 (uy:Fb K "ceilings" "ceilings" B7 (aU K "ceilings"))
 (uz:Fb K "crossing" "crossing" B8 (aU K "crossing"))
 (uA:Fb K "marks_of" "marks_of" B9 (aU K "marks_of"))
 (uB:Fb K "marks_without" "marks_without" Ca (aU K "marks_without"))
 (uC:Fb K "groups_of" "groups_of" Cb (aU K "groups_of"))
 (uD:Fb K "clashes" "clashes" Cc (aU K "clashes"))
 (jJ:Fb K "without" "without" Cd (aU K "without"))
 (m9:Fb K "eyes_of" "eyes_of" Ce (aU K "eyes_of"))
 (jK:Fb K "put_aside" "put_aside" Cf (aU K "put_aside"))
 (i4:Fb K "branch" "branch" Cg (aU K "branch"))
 (i5:Fb K "paper" "paper" Ci (aU K "paper"))
 (x_ask:Fb K "ask" "ask" Cj (aU K "ask"))
 (gN:Fb K "seek" "seek" Ck (aU K "seek"))
 (jL:Fb K "verdict" "verdict" Cm (aU K "verdict"))
 (nc:Fb K "lying" "lying" Cn (aU K "lying"))
 (ng:Fb K "reason" "reason" Co (aU K "reason"))
 (nh:Fb K "__init__" "Board.__init__" Cp (bM K aO "__init__"))
 (lK:Fb K "has_eye" "Board.has_eye" Cq (bM K aO "has_eye"))
 (i6:Fb K "has_turn" "Board.has_turn" Cr (bM K aO "has_turn"))
 (ni:Fb K "tell" "Board.tell" Cs (bM K aO "tell"))
 (nj:Fb K "hush" "Board.hush" Ct (bM K aO "hush"))
 (kG:Fb K "tellings" "Board.tellings" Cu (bM K aO "tellings"))
 (nk:Fb K "keeping" "Board.keeping" Cv (bM K aO "keeping"))
 (nq:Fb K "check_spot" "Board.check_spot" Cw (bM K aO "check_spot"))
 (lL:Fb K "check_word" "Board.check_word" Cy (bM K aO "check_word"))
 (uE:Fb K "_law_draw" "_law_draw" Cz (aU K "_law_draw"))
 (uF:Fb K "_law_base" "_law_base" CA (aU K "_law_base"))
 (nr:Fb K "_law_whole" "_law_whole" CB (aU K "_law_whole"))
 (uG:Fb K "_law_within" "_law_within" CC (aU K "_law_within"))
 (uH:Fb K "_law_word" "_law_word" CD (aU K "_law_word"))
 (uI:Fb K "_law_world" "_law_world" CF (aU K "_law_world"))
 (uJ:Fb K "_law_board" "_law_board" CG (aU K "_law_board"))
 (uK:Fb K "_law_liars" "_law_liars" CH (aU K "_law_liars"))
 (uL:Fb K "_law_fits" "_law_fits" CI (aU K "_law_fits"))
 (uM:Fb K "_law_common" "_law_common" CJ (aU K "_law_common"))
 (jM:Fb K "_law_empty" "_law_empty" CK (aU K "_law_empty"))
 (nu:Fb K "_law_climb" "_law_climb" CL (aU K "_law_climb"))
 (jN:Fb K "_law_mark" "_law_mark" CM (aU K "_law_mark"))
 (i7:Fb K "_law_branch" "_law_branch" CN (aU K "_law_branch"))
 (lM:Fb K "_law_clash" "_law_clash" CO (aU K "_law_clash"))
 (ij:Fb K "_law_refuted" "_law_refuted" CP (aU K "_law_refuted"))
 (uN:Fb K "_law_refutes" "_law_refutes" CQ (aU K "_law_refutes"))
 (uO:Fb K "_law_tree" "_law_tree" CS (aU K "_law_tree"))
 (nv:Fb K "_law_event" "_law_event" CT (aU K "_law_event"))
 (uP:Fb K "_law_truth" "_law_truth" CU (aU K "_law_truth"))
 (uQ:Fb K "_law_left" "_law_left" CV (aU K "_law_left"))
 (gO:Fb K "_law_state" "_law_state" CW (aU K "_law_state"))
 (uR:Fb K "_law_spots" "_law_spots" CY (aU K "_law_spots"))
 (jO:Fb K "_law_asked_of" "_law_asked_of" CZ (aU K "_law_asked_of"))
 (oO:Fb K "law" "law" C0 (aU K "law"))
 (abF:ac6 K acU "all" = some none)
 (abG:ac6 K acU "any" = some none)
 (abH:ac6 K acU "bool" = some none)
 (abI:ac6 K acU "dict" = some none)
 (abJ:ac6 K acU "enumerate" = some none)
 (abK:ac6 K acU "int" = some none)
 (abL:ac6 K acU "isinstance" = some none)
 (abM:ac6 K acU "len" = some none)
 (abN:ac6 K acU "list" = some none)
 (abO:ac6 K acU "max" = some none)
 (abP:ac6 K acU "min" = some none)
 (abQ:ac6 K acU "range" = some none)
 (abR:ac6 K acU "reversed" = some none)
 (abS:ac6 K acU "set" = some none)
 (abT:ac6 K acU "sorted" = some none)
 (abU:ac6 K acU "sum" = some none)
 (abV:ac6 K acU "tuple" = some none)
 (abW:ac6 K acU "zip" = some none)
 (Ld:b6 K dP)
 (Le:ac0 K (.ref dP) "first" = some none)
 (Lf:ac0 K (.ref dP) "last" = some none)
 (Lg:aei K dP=true) (abX:adH K (.ref dP)=true)
 (gP:b6 K b8)
 (uS:ac0 K (.ref b8) "first" = some none)
 (qT:ac0 K (.ref b8) "last" = some none)
 (uT:ac0 K (.ref b8) "stretch" = some none)
 (DW:aei K b8=true) (abY:adH K (.ref b8)=true)
 (gQ:b6 K b9)
 (uU:ac0 K (.ref b9) "first" = some none)
 (qU:ac0 K (.ref b9) "last" = some none)
 (uV:ac0 K (.ref b9) "sill" = some none)
 (DX:aei K b9=true) (abZ:adH K (.ref b9)=true)
 (gR:b6 K cc)
 (uW:ac0 K (.ref cc) "first" = some none)
 (qV:ac0 K (.ref cc) "last" = some none)
 (uX:ac0 K (.ref cc) "sill" = some none)
 (DY:aei K cc=true) (ab0:adH K (.ref cc)=true)
 (eN:b6 K cf)
 (qW:ac0 K (.ref cf) "first" = some none)
 (nz:ac0 K (.ref cf) "last" = some none)
 (uY:ac0 K (.ref cf) "low" = some none)
 (uZ:ac0 K (.ref cf) "high" = some none)
 (DZ:aei K cf=true) (ab1:adH K (.ref cf)=true)
 (kH:b6 K cR)
 (u5:ac0 K (.ref cR) "marks" = some none)
 (D0:aei K cR=true) (ab2:adH K (.ref cR)=true)
 (bw:b6 K aO)
 (qX:ac0 K (.ref aO) "eyes" = some none)
 (oR:ac0 K (.ref aO) "turns" = some none)
 (u6:ac0 K (.ref aO) "up" = some none)
 (vc:ac0 K (.ref aO) "down" = some none)
 (qY:ac0 K (.ref aO) "most" = some none)
 (kI:ac0 K (.ref aO) "told" = some none)
 (xQ:aei K aO=true) (ab3:adH K (.ref aO)=true)
 (ab4:ahl K (.ref dP) "__getattribute__" = some (some (.builtin "type.__getattribute__"))) (ab5:aka K dP (.type "type")=true)
 (ve:XC K ny)
 (qZ:XC K i8)
 (xS:XC K i9)
 (xT:XC K ja)
 (D2:XC K gn)
 (ab6:ai4 K gn=some abm)
 (ab7:aha K (.ref gn)=some (.type "type"))
 (ab8:afV K (.ref gn) (.type "BaseException")=some true)
 (ab9:afV K (.ref gn) (.ref gn)=some true)
 (zLT:ac6 K acU "LAST_TURN" = some (some (.int 11 abn)))
 (aca:ac6 K acU "EYES_AT_MOST" = some (some (.int 7 abo)))
 (acb:ac6 K acU "TURNS_AT_MOST" = some (some (.int 12 abp)))
 : ∃ fd:afs,(∀ (s:acI) (v:acB),ajl s fd ⟨[v],[]⟩ [("_law_script",v)])/\∀ base:aeV,K.In base->base.Ns acU mg->dW l.prog w K mg base (dj l.prog w) 37 fa fd ["_law_script"] (yK K):=by
 obtain⟨uc⟩:=uc.fn X G C1;obtain⟨ud⟩:=ud.fn X G tV;obtain⟨ue⟩:=ue.fn X G qK;obtain⟨uf⟩:=uf.fn X G C2;obtain⟨jI⟩:=jI.fn X G xD;obtain⟨ug⟩:=ug.fn X G C3;obtain⟨mQ⟩:=mQ.fn X G xE;obtain⟨mR⟩:=mR.fn X G C4;obtain⟨uh⟩:=uh.fn X G tW;obtain⟨ui⟩:=ui.fn X G tX;obtain⟨uj⟩:=uj.fn X G C5;obtain⟨i3,M6,acd⟩:=Fb.fp i3 C6;obtain⟨eW,M7,M8,M9,Na,Nb⟩:=Fb.fp eW C7;obtain⟨eE,Nc,Nd,Nf,Ng,Nh⟩:=Fb.fp eE C8;obtain⟨oI,Ni⟩:=oI.fm C9;obtain⟨mS,Nj⟩:=mS.fm Dc;obtain⟨mT,Nk⟩:=mT.fm Dd;obtain⟨oJ,Nl⟩:=oJ.fm De;obtain⟨mU,Nm⟩:=mU.fm Df;obtain⟨mV,Nn⟩:=mV.fm Dg;obtain⟨oK,Np⟩:=oK.fm Dh;obtain⟨mW,Nq⟩:=mW.fm Di;obtain⟨mX,Nr⟩:=mX.fm Dj;obtain⟨oM,Nt⟩:=oM.fm Dk;obtain⟨mY,Nu⟩:=mY.fm qL;obtain⟨mZ,Nv⟩:=mZ.fm Dl;obtain⟨oN,Nw⟩:=oN.fm Dm;obtain⟨m5,Nx⟩:=m5.fm Dp;obtain⟨lJ,Ny⟩:=lJ.fm Dq;obtain⟨m6,Nz⟩:=m6.fm Dr;obtain⟨m8,NA⟩:=m8.fm Ds;obtain⟨uk⟩:=uk.fn X G Dt;obtain⟨um⟩:=um.fn X G tY;obtain⟨uo⟩:=uo.fn X G mH;obtain⟨uq⟩:=uq.fn X G Du;obtain⟨uu⟩:=uu.fn X G tZ;obtain⟨uv⟩:=uv.fn X G oF;obtain⟨uw⟩:=uw.fn X G Dv;obtain⟨ux⟩:=ux.fn X G Dw;obtain⟨uy⟩:=uy.fn X G mI;obtain⟨uz⟩:=uz.fn X G qM;obtain⟨uA⟩:=uA.fn X G Dx;obtain⟨uB⟩:=uB.fn X G Dy;obtain⟨uC⟩:=uC.fn X G Dz;obtain⟨uD⟩:=uD.fn X G kF;obtain⟨jJ⟩:=jJ.fn X G DA;obtain⟨m9⟩:=m9.fn X G DB;obtain⟨jK⟩:=jK.fn X G qN;obtain⟨i4⟩:=i4.fn X G DC;obtain⟨i5⟩:=i5.fn X G mJ;obtain⟨x_ask⟩:=x_ask.fn X G mK;obtain⟨gN⟩:=gN.fn X G qO;obtain⟨jL⟩:=jL.fn X G qP;obtain⟨nc⟩:=nc.fn X G DD;obtain⟨ng⟩:=ng.fn X G mL;obtain⟨nh,NB⟩:=nh.fm DE;obtain⟨lK,NC⟩:=lK.fm DF;obtain⟨i6,ND⟩:=i6.fm DG;obtain⟨ni,NF⟩:=ni.fm DH;obtain⟨nj,NG⟩:=nj.fm DI;obtain⟨kG,NH⟩:=kG.fm DJ;obtain⟨nk,NI⟩:=nk.fm t5;obtain⟨nq,NJ⟩:=nq.fm DK;obtain⟨lL,NK⟩:=lL.fm DL;obtain⟨uE⟩:=uE.fn X G DM;obtain⟨uF⟩:=uF.fn X G xF;obtain⟨nr⟩:=nr.fn X G DN;obtain⟨uG⟩:=uG.fn X G DO;obtain⟨uH⟩:=uH.fn X G mM;obtain⟨uI⟩:=uI.fn X G fh;obtain⟨uJ⟩:=uJ.fn X G t7;obtain⟨uK⟩:=uK.fn X G DP;obtain⟨uL⟩:=uL.fn X G xG;obtain⟨uM⟩:=uM.fn X G mO;obtain⟨jM⟩:=jM.fn X G DQ;obtain⟨nu⟩:=nu.fn X G xH;obtain⟨jN⟩:=jN.fn X G DR;obtain⟨i7⟩:=i7.fn X G DS;obtain⟨lM⟩:=lM.fn X G t8;obtain⟨ij⟩:=ij.fn X G oG;obtain⟨uN⟩:=uN.fn X G qQ;obtain⟨uO⟩:=uO.fn X G mP;obtain⟨nv⟩:=nv.fn X G DT;obtain⟨uP⟩:=uP.fn X G t9;obtain⟨uQ⟩:=uQ.fn X G ua;obtain⟨gO⟩:=gO.fn X G oH;obtain⟨uR⟩:=uR.fn X G xI;obtain⟨jO⟩:=jO.fn X G jH;obtain⟨oO⟩:=oO.fn X G iZ;cases hfa.symm.trans oO.m;exact⟨_,oO.bt iZ,λ_ _ _=>aa5 (⟨uc,ud,ue,uf,jI,ug,mQ,mR,uh,ui,uj,i3,eW,eE,oI,mS,mT,oJ,mU,mV,oK,mW,mX,oM,mY,mZ,oN,m5,lJ,m6,m8,uk,um,uo,uq,uu,uv,uw,ux,uy,uz,uA,uB,uC,uD,jJ,m9,jK,i4,i5,x_ask,gN,jL,nc,ng,nh,lK,i6,ni,nj,kG,nk,nq,lL,uE,uF,nr,uG,uH,uI,uJ,uK,uL,uM,jM,nu,jN,i7,lM,ij,uN,uO,nv,uP,uQ,gO,uR,jO,oO,ade X G abF,ade X G abG,ade X G abH,ade X G abI,ade X G abJ,ade X G abK,ade X G abL,ade X G abM,ade X G abN,ade X G abO,ade X G abP,ade X G abQ,ade X G abR,ade X G abS,ade X G abT,ade X G abU,ade X G abV,ade X G abW,xM,adE X G abq,ny,adE X G abr,i8,adE X G abt,i9,adE X G abu,ja,adE X G abv,gn,adE X G abw,xO,adE X G abx,dP,adE X G aby,b8,adE X G abz,b9,adE X G abA,cc,adE X G abB,cf,adE X G abC,cR,adE X G abD,aO,adE X G abE,Ld,Le,Lf,⟨Lg,M6.1,M6.2,abX⟩,⟨M7.1,M7.2,eW.F.kp⟩,⟨Nc.1,Nc.2,eE.F.kp⟩,gP,uS,qT,uT,⟨DW,Ni.1,Ni.2,abY⟩,⟨M8.1,M8.2,eW.F.kp⟩,⟨Nd.1,Nd.2,eE.F.kp⟩,⟨Nj.1,Nj.2,mS.F.kp⟩,⟨Nk.1,Nk.2,mT.F.kp⟩,gQ,uU,qU,uV,⟨DX,Nl.1,Nl.2,abZ⟩,⟨M9.1,M9.2,eW.F.kp⟩,⟨Nf.1,Nf.2,eE.F.kp⟩,⟨Nm.1,Nm.2,mU.F.kp⟩,⟨Nn.1,Nn.2,mV.F.kp⟩,gR,uW,qV,uX,⟨DY,Np.1,Np.2,ab0⟩,⟨Na.1,Na.2,eW.F.kp⟩,⟨Ng.1,Ng.2,eE.F.kp⟩,⟨Nq.1,Nq.2,mW.F.kp⟩,⟨Nr.1,Nr.2,mX.F.kp⟩,eN,qW,nz,uY,uZ,⟨DZ,Nt.1,Nt.2,ab1⟩,⟨Nb.1,Nb.2,eW.F.kp⟩,⟨Nh.1,Nh.2,eE.F.kp⟩,⟨Nu.1,Nu.2,mY.F.kp⟩,⟨Nv.1,Nv.2,mZ.F.kp⟩,kH,u5,⟨D0,Nw.1,Nw.2,ab2⟩,⟨Nx.1,Nx.2,m5.F.kp⟩,⟨Nz.1,Nz.2,m6.F.kp⟩,⟨NA.1,NA.2,m8.F.kp⟩,⟨Ny.1,Ny.2,lJ.F.kp⟩,bw,qX,oR,u6,vc,qY,kI,⟨xQ,NB.1,NB.2,ab3⟩,⟨NC.1,NC.2,lK.F.kp⟩,⟨ND.1,ND.2,i6.F.kp⟩,⟨NF.1,NF.2,ni.F.kp⟩,⟨NG.1,NG.2,nj.F.kp⟩,⟨NH.1,NH.2,kG.F.kp⟩,⟨NI.1,NI.2,nk.F.kp⟩,⟨NJ.1,NJ.2,nq.F.kp⟩,⟨NK.1,NK.2,lL.F.kp⟩,⟨ab4,ab5,acd,i3.F.kp⟩,ve,qZ,xS,xT,D2,Qw ab6 ab7 ab9 ab8,⟨_,adE X G zLT⟩,⟨_,adE X G aca⟩,⟨_,adE X G acb⟩⟩:Tx K mg)⟩
theorem walk{l:aid}{q:adn}{loose:List Str}{XP:(Str->Option acB)->aeV->Prop}{YP:ad2->aeV->Prop}{d:DefRec}{K:Params->acr}(hn:l.most=some 63)(hdf:d.params.defaults=[])
 (hY:∀ (w:ad2) (h:aeV),YP w h->(K w.params).In h)
 (F:∀ (w:ad2) (mg:Str->Option acB) (fa:acF) (h:aeV),(K w.params).In h->h.Ns acU mg->mg d.name=some (.ref fa) ->
   ∃ fd:afs,(∀ (s:acI) (u:acB),ajl s fd ⟨[u],[]⟩ [("_law_script",u)])/\∀ base:aeV,(K w.params).In base->base.Ns acU mg->dW l.prog w (K w.params) mg base (dj l.prog w) 37 fa fd ["_law_script"] (yK (K w.params))) :
 akI q loose XP YP l.row.toRowW d [] (λf vs=>PySem.call f vs) :=
 Gz.RN (k:=37) (x := "_law_script") (CX:=λw=>dj l.prog w) (sp:=λw=>yK (K w.params)) hn hdf ⟨rfl,by decide,by decide⟩ hY F (λ_ _ a ns hl hS=>⟨a,ns,rfl,hS,hl,λ_=>rfl⟩) λ_ _ _ _ _ z=>Qd z
end Br
local macro_rules | `(tactic| walk_at "gzin") => `(tactic| first | (show _ = _; k_is) | (refine' And.intro ?y7 ?y8; (case y7 => walk_at "gzin"); (case y8 => walk_at "gzin")))
local macro_rules | `(tactic| walk_at "f") => `(tactic| (refine' Gz.Fb.mk ?y1 ?y2 ?y3 ?y4; (case y1 => first | (show _ = _; k_is) | (refine' ⟨?y5, ?y6⟩; (case y5 => k_is); (case y6 => k_is))); (case y2 => k_is); (case y3 => k_is); (case y4 => k_is)))
local macro_rules | `(tactic| walk_at "gzfi") => `(tactic| (refine' Gz.Fb.mk ?y1 ?y2 ?y3 ?y4; (case y1 => walk_at "gzin"); (case y2 => k_is); (case y3 => k_is); (case y4 => k_is)))
local macro_rules | `(tactic| walk_at "l") => `(tactic| (refine' L2.b6.mk ?_ ?_ ?_ ?_ <;> k_is))
local macro_rules | `(tactic| walk_at "x") => `(tactic| (refine' Gz.XC.mk ?y1 ?y2 ?y3 ?y4 ?y5 ?y6; (case y1 => k_exc); (case y2 => k_is); (case y3 => k_is); (case y4 => k_is); (case y5 => k_is); (case y6 => k_is)))
namespace PySem.W.Fast
def tw7402236278606394009:=0
def tw13972035691933347621:=0
def tw13256704950033759579:=0
def tw3979983361383021791:=0
def tw18162597817021482179:=0
def tw9621483697391664130:=0
def tw14674875600574805835:=0
def tw3736454863331807292:=0
def tw823948823069026687:=0
def tw1861186927502955699:=0
def tw12137536563335549235:=0
def tw17933815723106219839:=0
def tw8084793652653907056:=0
def tw15414020430563840597:=0
def tw13320035559192658473:=0
def tw11452838566012422763:=0
def tw14156715553950584639:=0
def tw13827113938168012928:=0
def tw3730615450179796382:=0
def tw15983616676473570335:=0
def tw112329556415682616:=0
def tw11945852089955505643:=0
def tw671008792489152394:=0
def tw17451808384556513492:=0
def tw6848855098454044494:=0
def tw6958380956394261687:=0
def tw12885329573916918447:=0
def tw9011413464430380607:=0
def tw1462949169103873578:=0
def tw3140483787210422894:=0
def tw4298689502247696165:=0
def tw17475794972533631253:=0
def tw644291057112745620:=0
def tw9754287362332746833:=0
def tw212433750742807645:=0
def tw13000745318190538473:=0
def tw2152675153885543311:=0
def tw10819414928995104930:=0
def tw6662186389902193430:=0
def tw8804120800830268752:=0
def tw13468348508957463427:=0
def tw3222566237843069108:=0
def tw14766964184305362145:=0
def tw2183242880971152316:=0
def tw12731726612931486209:=0
def tw14663698838849343217:=0
def tw6340401909365566427:=0
def tw10899262647167378259:=0
def tw16047674976281626334:=0
def tw18139715681196718033:=0
def tw5262314390615884008:=0
def tw12992598785224040330:=0
def tw131336917069016021:=0
def tw2072727942823460850:=0
def tw12321787730237310526:=0
def tw3611583144236680376:=0
def tw13970416399767967934:=0
def tw10909139624366619831:=0
def tw13120605839463988063:=0
def tw11941395235444626989:=0
def tw10382548938445132889:=0
def tw10855421260323965276:=0
def tw15529103615808110620:=0
def tw9437726404798404921:=0
def tw15602548841352487863:=0
def tw4549373172304115564:=0
def tw6567877914277437852:=0
def tw5843777933774904008:=0
def tw4362687604793644924:=0
def tw10499680429156707475:=0
def tw10484789252217990570:=0
def tw15958218733505575552:=0
def tw13084181559839685824:=0
def tw8637439754299352329:=0
def tw4736236052660163375:=0
def tw504064119552105562:=0
def tw15718902252021545997:=0
def tw9308808734483886423:=0
def tw12130144634994442304:=0
def tw8065658836829663319:=0
def tw10149786888853401436:=0
def tw10989799888244330873:=0
def tw11898802737025344300:=0
def tw14374677261678780808:=0
def tw8459927714425175454:=0
def tw12001046464359071077:=0
def tw859930251749613658:=0
def tw13827039265058734668:=0
def tw15217559660252281521:=0
def tw16218043903915506161:=0
def tw15914703377851938868:=0
def tw7918791432301077878:=0
def tw13958290390912199793:=0
def tw5131804292550040692:=0
def tw17629533161857898989:=0
def tw14719893356519600316:=0
def tw7089159345942192370:=0
def tw3029243613051727969:=0
def tw1299456898761528039:=0
def tw8898577655537430440:=0
def tw11817597503930770547:=0
def tw16174823853582286901:=0
def tw3115249081410530323:=0
def tw16127866860489149876:=0
def tw14068143350230984908:=0
def tw703904390119516642:=0
def tw16605206038406194206:=0
def tw12544309378799774654:=0
def tw6711291558145523777:=0
def tw14745467074904974622:=0
def tw18147357022209289074:=0
def tw2509560378768060766:=0
def tw8627017177048537502:=0
def tw17572704670013342036:=0
def tw13410191434258075440:=0
def tw2643726452363951012:=0
def tw9969355831772561165:=0
def tw13878246158453880690:=0
def tw6119281042847514091:=0
def tw2445395605088527291:=0
def tw6280927295318427029:=0
def tw8203560957668714341:=0
def tw16113123037279402157:=0
def tw2634365097536607752:=0
def tw7908064574222722873:=0
def tw5087346425263693453:=0
def tw13648042931610999692:=0
def tw16460105770004602503:=0
def tw7063722794079201372:=0
def tw13551241357137443669:=0
def tw14892918474712307717:=0
def tw5842091359893422113:=0
def tw9820181902989068260:=0
def tw12730031493044978589:=0
def tw1040381945273566900:=0
def tw13217510466580445649:=0
def tw14857238852165952065:=0
def tw11002722851837290177:=0
def tw15092422811974775454:=0
def tw2709882449466086129:=0
def tw16768407359614968002:=0
def tw10078322505904026029:=0
def tw4065883447101344909:=0
def tw15715609959607822240:=0
def tw17259190328957314296:=0
def tw16341012643321263007:=0
def tw9694890231341088823:=0
def tw2179299133076333280:=0
def tw14184442324068100840:=0
def tw12610793150441186403:=0
def tw2840087662215713706:=0
def tw13270815774533566934:=0
def tw3413125815082827422:=0
def tw13917070767997140308:=0
def tw15528373351976898085:=0
def tw8677689831206619878:=0
def tw14308321763698893586:=0
def tw898609792071368948:=0
def tw1139102168762054138:=0
def tw11162544259334032602:=0
def tw16274676547923158508:=0
def tw6658595488527931191:=0
def tw17755807564422926278:=0
def tw16574117749742994328:=0
def tw8427367012678036201:=0
def tw2152281233890707436:=0
def tw7547253521815294619:=0
def tw15380331329892812060:=0
def tw4115954247458753637:=0
def tw13076527622628151375:=0
def tw2068971968243581703:=0
def tw14969079042388009135:=0
def tw7923964469881224892:=0
def tw17651387661481090254:=0
def tw671619753317239022:=0
def tw12495740475585089203:=0
def tw10879719851446073763:=0
def tw4266655419234326566:=0
def tw17642308596895154464:=0
def tw6004748544247508842:=0
def tw16700521038035430535:=0
def tw15791771791471765523:=0
def tw5700084516598597835:=0
def tw3353395098874976952:=0
def tw5300053088820390577:=0
def tw7884486786809553803:=0
def tw6847331723831868903:=0
def tw8347922571349182886:=0
def tw4064843769887409313:=0
def tw12776033897876450822:=0
def tw6739506752954670373:=0
def tw14540765035707774642:=0
def tw854773852649265420:=0
def tw4293523044325472020:=0
def tw7634531618755171793:=0
def tw3447561957262399097:=0
def tw6599928031959030890:=0
def tw16957592812143919941:=0
def tw15775663166271585978:=0
def tw16877236712358064394:=0
def tw14809319669744957245:=0
def tw1271779876994383783:=0
def tw8057545167656544685:=0
def tw4640553183719315856:=0
def tw17411190711953145346:=0
def tw1382471532752172428:=0
def tw14744465573440553627:=0
def tw3690160430149616565:=0
def tw3936549192245872286:=0
def tw264402899969326184:=0
def tw13775294609775154065:=0
def tw16982137256473675757:=0
def tw15243202246479434880:=0
def tw10104061955528802883:=0
def tw7485112390057049634:=0
def tw10405570480256380423:=0
def tw13015211837722091674:=0
def tw8126876971892510894:=0
def tw1475205876374179924:=0
def tw7880457569768334037:=0
def tw4921645280597504309:=0
def tw4703207094927570186:=0
def tw18054671176817065519:=0
def tw4990939784665041939:=0
def tw10066138062785537913:=0
def tw3419499648021692335:=0
def tw13223193698064986559:=0
def tw18374028607886539949:=0
def tw4699072833790609697:=0
def tw15638348897115186211:=0
def tw16022879315258632350:=0
def tw8032851473362545160:=0
def tw6337067945875952709:=0
def tw3595149442182927083:=0
def tw3145907246934960500:=0
def tw12207588035308988076:=0
def tw15882237358367251518:=0
def tw11796507308056898760:=0
def tw13841954703217766067:=0
def tw11410016855428935795:=0
def tw4943562855815773127:=0
def tw16494955800813631834:=0
def tw6198726073877238292:=0
def tw5889195925533128835:=0
def tw10073949633827628803:=0
def tw6067990071351635979:=0
def tw8360150412848070999:=0
def tw3165791213993720682:=0
def tw3448766834081380862:=0
def tw2340952743537788343:=0
def tw6556146289299851412:=0
def tw9691772762315655518:=0
def tw8775440802439735763:=0
def tw7200038334114543375:=0
def tw14293270115468531793:=0
def tw17486058792456481312:=0
def tw16165517045312735972:=0
def tw13338496954019771679:=0
def tw13720310737039983020:=0
def tw7440791483644563694:=0
def tw13487379400146427786:=0
def tw15473002061895475073:=0
def tw11754183714027410528:=0
def tw16008832148665832519:=0
def tw16329987217041050781:=0
def tw13527034443637759742:=0
def tw6075310558798138266:=0
def tw16372969803145942787:=0
def tw10533886035587422014:=0
def tw15725699250358132798:=0
def tw1683316979565864619:=0
def tw7206893884727602867:=0
def tw15698752354963712641:=0
def tw18271110812513612879:=0
def tw13216941845196808500:=0
def tw6805097255949251291:=0
def tw2662995228000163968:=0
def tw1368364322996636886:=0
def tw2711821015551746696:=0
def tw14034899944330213510:=0
def tw14138944303493613637:=0
def tw13656864053848096902:=0
def tw13731974178407309843:=0
def tw2237127495437017539:=0
def tw6217783047280794571:=0
def tw7092465430110315977:=0
def tw110964678085691268:=0
def tw10609574918930579411:=0
def tw12747187303767656543:=0
def tw1486588255524358395:=0
def tw1968206300769537373:=0
def tw15080921097311925839:=0
def tw12831699013628348443:=0
def tw8501847787704890009:=0
def tw4304453929124695576:=0
def tw18242447584359051742:=0
def tw396982198658641535:=0
def tw8258616799502078705:=0
def tw6952109081281410129:=0
def tw18156317618569268708:=0
def tw8842723043296989270:=0
def tw11968716610908838111:=0
def tw8923499828398325285:=0
def tw376776553984749055:=0
def tw2064913946015293470:=0
def tw8426667414660953059:=0
def tw9059414188296933705:=0
def tw12930105246754411856:=0
def tw8387301244482087118:=0
def tw1870040492270225857:=0
def tw3483197535818511158:=0
def tw16529257723589974483:=0
def tw1067694250044115778:=0
def tw3198737562431408154:=0
def tw2122907901708365602:=0
def tw4014283752605673598:=0
def tw2883018838541552563:=0
def tw1103913911904733808:=0
def tw16422278042255000676:=0
def tw6067079768646754150:=0
def tw14878959708232046153:=0
def tw17369459869720236799:=0
def tw2894871226962109726:=0
def tw14774906736809308500:=0
def tw17020440014286747645:=0
def tw3049376325936686294:=0
def tw3217462491537595139:=0
def tw6576186502338487684:=0
def tw2367992115717366588:=0
def tw2888721511070682687:=0
def tw12101365922693917086:=0
def tw17214821604227577478:=0
def tw13527030718551201840:=0
def tw18098745754607196324:=0
def tw11075526703269499664:=0
def tw594984002346379366:=0
def tw4120160605994137794:=0
def tw16419966420797672:=0
def tw4043861108492238575:=0
def tw6891213491274742501:=0
def tw2989900198190180045:=0
def tw1494933907143509551:=0
def tw7688520541755996628:=0
def tw9767984499942989488:=0
def tw6037392057813487359:=0
def tw15323678668337721746:=0
def tw13031475892975252547:=0
def tw3309271486875112304:=0
def tw3002361507427089486:=0
def tw4573281049864304064:=0
def tw15491127529308559744:=0
def tw16187922984321396015:=0
def tw994229535520878996:=0
def tw8172715683465533849:=0
def tw425919082543078809:=0
def tw1299618177295046399:=0
def tw13534257144542630734:=0
def tw3060308991917764894:=0
def tw9302863467152996471:=0
def tw9870876547682715741:=0
def tw17569855369109676386:=0
def tw14012568647321943295:=0
def tw1513043701115358039:=0
def tw15224096246882388488:=0
def tw2679227776093581155:=0
def tw16032651129897471931:=0
def tw4078915837446185488:=0
def tw11490484880072081376:=0
def tw3986548151505306685:=0
def tw2945567531557762463:=0
def tw11425614493311328158:=0
def tw17401547980893896776:=0
def tw6554007761292187949:=0
def tw17705227132140423906:=0
def tw9090006596064611198:=0
def tw10796791180480487830:=0
def tw3829528008210261664:=0
def tw10994675881490153958:=0
def tw6781142345800353994:=0
def tw7005202633365323888:=0
def tw4330939106876476012:=0
def tw9720672334326977065:=0
def tw7749219082246443845:=0
def tw10086033409400303213:=0
def tw12446970318284361050:=0
def tw6810958050103437179:=0
def tw2449126789994364354:=0
def tw1276387178066317702:=0
def tw7366014314276323013:=0
def tw5237125999983009854:=0
def tw2546327019818252196:=0
def tw8679421147303453144:=0
def tw6878019769034218189:=0
def tw9830105894143664089:=0
def tw7846252285414624645:=0
def tw16228547117567074756:=0
def tw3527375666474693950:=0
def tw13607722138684505953:=0
def tw270908157616269445:=0
def tw4290629100426977309:=0
def tw16344989476660632157:=0
def tw16951220932103010501:=0
def tw6804675024824888901:=0
def tw17295367976367748264:=0
def tw16923622538549300115:=0
def tw15092841275124288815:=0
def tw13189493734472546014:=0
def tw16882810100744986902:=0
def tw8742097738212326732:=0
def tw10274228518702658248:=0
def tw15168084844527361721:=0
def tw6200960238143806814:=0
def tw14545918208104061587:=0
def tw15431513545735726336:=0
def tw14626699371521134808:=0
def tw16632966279585822559:=0
def tw2849845025700190233:=0
def tw12612206783715760326:=0
def tw3478768127028875096:=0
def tw8199740693135332086:=0
def tw5946091749255689878:=0
def tw1262421599836488012:=0
def tw4440198246281096880:=0
def tw15633094805130756118:=0
def tw11063588620210497463:=0
def tw15947794402691841361:=0
def tw13961462628461827362:=0
def tw16910739967034160812:=0
def tw10797908969808858980:=0
def tw16906394468814379884:=0
def tw10049356189194618942:=0
def tw17118717059672757670:=0
def tw1605629895404092511:=0
def tw8946283770173894562:=0
def tw16309108508076307115:=0
def tw2916338261837952906:=0
def tw17094680531677292059:=0
def tw16510655659218134751:=0
def tw18142013285655158735:=0
def tw11010256537726692644:=0
def tw15584715271606373488:=0
def tw10768090042869343156:=0
def tw16896305122584482129:=0
def tw16745155292869402294:=0
def tw3159548510406312265:=0
def tw9030254788187372700:=0
def tw9423467437637151973:=0
def tw11184259057240506515:=0
def tw1073080621085669912:=0
def tw17116043721874666263:=0
def tw11023122801417217793:=0
def tw15204649243463966:=0
def tw10285256167445011915:=0
def tw12630923757291331383:=0
def tw14812835902873092566:=0
def tw5528648928866252676:=0
def tw12502246161672271112:=0
def tw1179875174963891200:=0
def tw4783104464134728380:=0
def tw11457851099876489052:=0
def tw9162760395904629475:=0
def tw4429479537943116497:=0
def tw6709910012932231147:=0
def tw6080176697976293400:=0
def tw5641648778223861502:=0
def tw3044914378195142331:=0
def tw13902522019038576568:=0
def tw18193161182337847631:=0
def tw17995313441989478777:=0
def tw14428342684966937150:=0
def tw203363810073550086:=0
def tw6940022768359220479:=0
def tw18298240680272599741:=0
def tw16651566046977663363:=0
def tw2493683323201406049:=0
def tw18278687191092653509:=0
def tw9026771411948645853:=0
def tw16131443837528052804:=0
def tw8109182397198309435:=0
def tw9588451737202432657:=0
def tw6675206588919688195:=0
def tw3219888833720604198:=0
def tw13496042536033999673:=0
def tw11083374524769453485:=0
def tw5605963473272356276:=0
def tw16098863741551403891:=0
def tw4916206288822405038:=0
def tw6933727651239405280:=0
def tw10796993491799963566:=0
def tw7361213517198359796:=0
def tw8381846490479400599:=0
def tw16484406969050097479:=0
def tw6648002866375164837:=0
def tw2514328516315948823:=0
def tw1281453935394092336:=0
def tw11543999079160846192:=0
def tw7860896101157512459:=0
def tw8514429811419881062:=0
def tw1437824171347583209:=0
def tw3090982925488249559:=0
def tw1392033662534573875:=0
def tw14556998288051248328:=0
def tw12188489827460521364:=0
def tw18222260061254190832:=0
def tw796513916775983399:=0
def tw8069552365820352326:=0
def tw10145074119033904439:=0
def tw2984494165925287253:=0
def tw15650874248194765656:=0
def tw18273265187028786443:=0
def tw7727985696334097138:=0
def tw17633774192355914336:=0
def tw5166679163387103117:=0
def tw16861431168944832856:=0
def tw14703217145425497797:=0
def tw14994635480299504044:=0
def tw9501949940620128544:=0
def tw6015124518500207075:=0
def tw2133748166085155149:=0
def tw6369723183765759175:=0
def tw16311163288847068828:=0
def tw8565606672605785049:=0
def tw11985688247792277829:=0
def tw3954768764108936622:=0
def tw1613838661830207839:=0
def tw12036233618086060807:=0
def tw1922025292241221479:=0
def tw2031532434377766826:=0
def tw6407281676605412272:=0
def tw1683041019703139911:=0
def tw14495194953187185379:=0
def tw630788687584457761:=0
def tw15729633347705391110:=0
def tw10595579842017701093:=0
def tw9936727610228479490:=0
def tw13739641030978142454:=0
def tw4583468171943847426:=0
def tw9413073158910121205:=0
def tw3477449528251729066:=0
def tw11974716067005206507:=0
def tw17117326458408650369:=0
def tw16300329339770446595:=0
def tw7065604895838950143:=0
def tw16872931778048176737:=0
def tw17709235506726203166:=0
def tw870530590438370895:=0
def tw6532302622973915827:=0
def tw10501741456282594769:=0
def tw12170118193302149970:=0
def tw16653426004703156010:=0
def tw14837404959947079574:=0
def tw8898791879935765657:=0
def tw1919597464255382613:=0
def tw2328255192769662291:=0
def tw17066218971956590552:=0
def tw17454206173594155626:=0
def tw14260860454340497445:=0
def tw11089456085982889147:=0
def tw13344250717601926293:=0
def tw12979516086714518329:=0
def tw15095426281766347153:=0
def tw7792866044338969171:=0
def tw11146425806101711038:=0
def tw12180029251102940460:=0
def tw3852716695169201365:=0
def tw15271211248000179357:=0
def tw5851827039976170294:=0
def tw1947477833751781762:=0
def tw11873265977691558231:=0
def tw11318608538966295385:=0
def tw8586631231089036622:=0
def tw5764417095052375134:=0
def tw2548363134660549621:=0
def tw8276135483284049599:=0
def tw2741679521541707649:=0
def tw2492986210767047011:=0
def tw11770401858237222123:=0
def tw8668610996770753627:=0
def tw11929734896453559180:=0
def tw18004274682310330522:=0
def tw1300224132007524328:=0
def tw2748684928175460305:=0
def tw17535894265392016993:=0
def tw6221029642260642960:=0
def tw10287394457909388486:=0
def tw6192991217814600117:=0
def tw9058978479662938229:=0
def tw2049964148842585774:=0
def tw10085236700495309739:=0
def tw435635172160242071:=0
def tw8625770632338914966:=0
def tw8951483049983543033:=0
def tw6160074518386191970:=0
def tw116762701751127160:=0
def tw12393355220584832722:=0
def tw8859012427633077408:=0
def tw16498104075157061654:=0
def tw4802369086817331050:=0
def tw7469007950279745984:=0
def tw5489529533582900530:=0
end PySem.W.Fast
open PySem PySem.W PyProof.Rows
set_option maxRecDepth 100000 in
set_option maxHeartbeats 0 in
theorem PySem.Challenge.cw_gaze_k69_reasons_of_many_words_holds : PySem.Challenge.rw_gaze_k69_reasons_of_many_words.Holds := by
 w_on;o_law;k_head;(case hw=>w_witness2)
 k_fill
 refine Br.walk (l:=PySem.Challenge.rw_gaze_k69_reasons_of_many_words) rfl rfl (λw h Y=>PySem.W.kIn_of Y) ?F
 case F =>
  intro w mg fa h KX G hmg;refine' Br.abl KX G hmg ?_ ?_ ?_ ?_ ?_ ?_ ?_ ?_ ?_ ?_ ?_ ?_ ?_ ?_ ?_ ?_ ?_ ?_ ?_ ?_ ?_ ?_ ?_ ?_ ?_ ?_ ?_ ?_ ?_ ?_ ?_ ?_ ?_ ?_ ?_ ?_ ?_ ?_ ?_ ?_ ?_ ?_ ?_ ?_ ?_ ?_ ?_ ?_ ?_ ?_ ?_ ?_ ?_ ?_ ?_ ?_ ?_ ?_ ?_ ?_ ?_ ?_ ?_ ?_ ?_ ?_ ?_ ?_ ?_ ?_ ?_ ?_ ?_ ?_ ?_ ?_ ?_ ?_ ?_ ?_ ?_ ?_ ?_ ?_ ?_ ?_ ?_ ?_ ?_ ?_ ?_ ?_ ?_ ?_ ?_ ?_ ?_ ?_ ?_ ?_ ?_ ?_ ?_ ?_ ?_ ?_ ?_ ?_ ?_ ?_ ?_ ?_ ?_ ?_ ?_ ?_ ?_ ?_ ?_ ?_ ?_ ?_ ?_ ?_ ?_ ?_ ?_ ?_ ?_ ?_ ?_ ?_ ?_ ?_ ?_ ?_ ?_ ?_ ?_ ?_ ?_ ?_ ?_ ?_ ?_ ?_ ?_ ?_ ?_ ?_ ?_ ?_ ?_ ?_ ?_ ?_ ?_ ?_ ?_ ?_ ?_ ?_ ?_ ?_ ?_ ?_ ?_ ?_ ?_ ?_ ?_ ?_ ?_ ?_ ?_ ?_ ?_ ?_
  rotate_left 18
  iterate 14 k_is
  iterate 11 walk_at "f"
  iterate 3 walk_at "gzfi"
  iterate 75 walk_at "f"
  iterate 18 k_is
  walk_at "l"
  iterate 4 k_is
  walk_at "l"
  iterate 5 k_is
  walk_at "l"
  iterate 5 k_is
  walk_at "l"
  iterate 5 k_is
  walk_at "l"
  iterate 6 k_is
  walk_at "l"
  iterate 3 k_is
  walk_at "l"
  iterate 10 k_is
  iterate 5 walk_at "x"
  iterate 7 k_is
#print axioms PySem.Challenge.cw_gaze_k69_reasons_of_many_words_holds
