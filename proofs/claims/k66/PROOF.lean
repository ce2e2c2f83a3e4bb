import PyProof.Rows.All
import Wide.All
import OpenK.AllK
import Wide.FinOn
import Lean
import PyProof.EqAt
import PyProof.EqKinds
import PyProof.TupleCall
import KE.KSortAsk
import KE.KSortTup
import KE.KRevIter
import KE.LcSums
import KE.KDictSum
import KE.KDictList
import PyProof.AttrMissHeap
import PySem.Challenge.RW_gaze_k66_whole_reasons
set_option Elab.async false
set_option linter.all false
set_option maxRecDepth 100000
set_option maxHeartbeats 4000000
set_option exponentiation.threshold 2000
set_option compiler.extract_closed false
open PySem renaming wpAny_bind → abS, wpAny_pure → abX, Value → ab1, Addr → ab6, Shared → ab9, lookup_relabel_local → ach, wpAny → ack, starEach → acm, sizeLine → aco, bootBuiltins → acJ, Program → acK, wpAny_truthy_bool → acL, compareOp → acX, codeAny_builtin → ac4, wpAny_mono → ada, wpAny_newObj_type → adb, wpAny_call_entry → adj, wpAny_holding → adk, wpAny_callSpecial?_slot → adn, World → ado, wpAny_Call_Name_kw → adp, mainGlobals → ady, Around → adz, sysModules → adD, backTo → adF, intItems → adK, wpAny_typeNameOfWhole_keyiter → adN, plainId_quiet → adP, foldedSetIterable → adS, wpAny_dictEntries → adU, mem_of_lookup → adX, Builtin → adY, wpAny_updateSeq → adZ, behindInMarks → ad9, tupleKind_room_in1 → aed, wpAny_missedRemoval_other → aei, Heap → aek, wpAny_typeNameOf_keyiter → aeo, size_of_entries → aeK, builtinLookup_eq_fast → aeL, binaryOp → aeN, FuncData → aeO, codeAny → aeV, codeAny_call_builtin → aeW, pyNext → aeX, wpAny_seqItems → aeY, wpAny_tryCatch → aeZ, wpAny_fieldsOf → ae1, wpAny_isInstance → ae4, wpAny_askSetting → ae5, sizeLine_eq → ae6, sliceBounds → ae7, wpAny_letGo → ae8, wpAny_rule → afd, wpAny_passesOwn → aff, attributeBase → afg, wpAny_attempt → afl, wpAny_ite_split → afm, rawInt → afq, wpAny_pyIter_list → afv, keywordEach → afx, wpAny_setState_of → afC, wpAny_setField → afF, swapsWith → afH, codeAny_mono → afI, DictEntry → afL, wpAny_isOneOf_keyiter → afO, Expr → afS, intKind → afT, checkBuiltinCall → afV, cLine → af0, wpAny_execs_nil → af4, letOwnedTupleGo → af5, richCompare → af8, argBest → aga, wpAny_specialOf → age, typeLookup_type → agh, wpAny_setEntries_of → agi, Tok → agj, wpAny_field → agl, entryFor → agr, PyData → ags, wpAny_setField_rec → agv, firstArgMember → agA, tupleKind → agH, assignEach → agJ, wpAny_getItem_list_slice → agO, wpAny_comprehension_free → agQ, updateSeq → agR, wpAny_pyIter_enum → agS, wpAny_pyIter_slot → agV, Stmt → ag3, wpAny_of_eq → ag8, intItems_at → ag9, wpAny_eqBool_int → ahg, argsOk → ahi, wpAny_pyNext_range_end → ahm, wpAny_pyIter_rangeiter → ahn, wpAny_pyNext_enum_item → ahs, wpAny_isTrue_Compare1 → ahz, getMethod → ahB, wpAny_pyNext_enum_end → ahG, wpAny_notOrdered_dict → ahJ, wpAny_dictEpoch → ahL, backToKw → ahR, NameKind → ahS, Scope → ahT, wpAny_pyIter_revIter → ahV, wpAny_pyIter_keyiter → ahY, isSubtype_stop → ah4, isSubtype_type → ah6, IsRangeIter → ah8, builtinKind → aib, numAt → aic, call_enumerate_list → aie, atKey → aih, wpAny_standAt → aip, wpAny_pyIter_tuple → aiq, wpAny_pyIter_range → air, evalPart_none → ais, seqItems? → aiu, wpAny_tupleItemsOf → aiA, entryOfKey → aiD, standAt → aiE, BindsTo → aiJ, wpAny_call → aiK, typeLookup → aiL, call_meets → aiN, list_append → aiO, valueAt → aiR, Within → aiW, Result → aiY, seqIndex_neg → ai0, wpAny_execs_cons → ai4, wpAny_forIn_list → ai6, wpAny_pyIter_zip → ai8, setField → ajd, hashInt → aje, lastMarks → ajg, wpAny_loadPart' → aji, getItem → ajj, seqIndex_of → ajk, slicePick → ajl, Keyword → ajm, callerA → ajn, notedBy → ajp, plainId → ajq, codeAny_of_tree → ajB, builtinsNs → ajJ, wpAny_Name → ajK, typeIs_int → ajM, isInstance → ajN, closureFor → ajO, setsByText → ajS, callWith → ajU, compEnvC → ajW, newTuple → ajZ, SetTable → aj0, Paired → aj7, isTrue → aj8, pyIter → aj9, typeOf → akc, pickOrder → aki, bindL → ako, bindC → akp, newList → aks, setNext → akt
open List renaming length_map → abT, getD_eq_getElem?_getD → abV, getElem?_eq_getElem → abW, getElem?_eq_some_iff → ab0, range → ab2, length_range → ab5, mem_map → ab7, getElem?_map → aca, size_toArray → acb, mem_cons → acd, mem_of_getElem? → ace, nil_append → aci, length_append → acj, mem_range → acp, map_cons → acs, mem_filter → acv, mem_append → acw, mem_singleton → acx, mem_append_right → acz, length_singleton → acA, length_cons → acB, length_filter_le → acE, filter_cons → acF, any_eq_true → acM, mem_cons_of_mem → acN, getElem?_append_left → acP, drop_eq_getElem_cons → acQ, take_succ → acR, take_length → acU, getElem?_range → acV, getElem?_eq_none → ac0, map_map → ac1, mem_iff_getElem? → ac2, getElem?_append_right → ac7, nodup_cons → ac9, filterMap_cons → adf, all_eq_true → adi, any_cons → adm, map_append → adA, find?_cons → adB, length_take → adC, length_reverse → adE, length_nil → adG, mem_append_left → adO, length_eq_zero_iff → adQ, map_congr_left → ad2, not_mem_nil → ad7, mem_flatMap → ad8, all_cons → aea, getElem?_reverse → aeb, toArray → aec, take_append_drop → aee, getElem?_drop → aef, replicate → aeh, all_map → aer, getElem?_replicate → aet, filter_eq_self → aev, length_drop → aey, drop_eq_nil_of_le → aeC, mem_cons_self → aeE, ext_getElem? → aeR, getElem?_cons_succ → afj, getElem?_set_self → afp, take_of_length_le → afs, drop_of_length_le → aft, lookup → afw, reverse_cons → afy, foldl_append → afA, length_replicate → afJ, all_nil → afQ, getElem?_set_ne → afY, foldl_cons → agb, filter_sublist → agf, toList_toArray → agk, mem_filterMap → ago, zip_cons_cons → agp, map_nil → agq, pairwise_iff_getElem → agz, nodup_nil → agC, findIdx?_eq_none_iff → agD, getElem?_take_of_lt → agN, append_assoc → agT, pairwise_map → agU, length_erase_of_mem → agX, nodup_append → agY, sum_cons → ahb, eraseIdx_cons_succ → ahc, drop_length → ahh, getElem_mem → ahk, ext_getElem → ahl, length_pos_of_mem → ahw, of_mem_zip → ahE, length_set → ahF, map_id' → ahQ, mem_erase_of_ne → ah0, length_pos_iff → aid, getElem_of_mem → aii, flatMap_append → aij, length_flatMap → aik, pairwise_cons → aiy, map_take → aiB, any_eq_false → aiF, drop_sublist → aiV, any_map → ai3, append_nil → ajh, length_zip → ajs, sum_append → ajw, getD → ajD, range_succ → ajE, findIdx? → aj2, map_drop → aj3, sum_nil → akf
open PySem.W renaming Frag → abU, kitOne → acW, kia_one → adh, emptyDict → adu, findIn → adx, instObj → adW, keepIn → aeg, methodCall_KW → aeG, fnOf → aeH, callWith_K → afh, findCls → afk, exmOne → afE, plainGet → afU, plainGet_of → af6, lookIn → agx, codeIn → agy, methodObj → agI, hasDictIn → agK, specialIn → agL, subIn → ag6, cellsFrom_some → aho, hideAll → ahx, isFn → ahA, takerIn → ahC, makesIn → ahD, OpenLaw → ahH, typeIn → ah1, KdlSrc → ah5, hideAll_get → ah7, callWith_K0 → ah9, of_hideAll → aim, plainOver → aiG, kitx_list → aiH, kitx_dict → aiI, handedIn → ai5, kitMeta → ajo, readsIn → ajv, clsIn → ajV, WalkO → ajX, mg_of → aj5, nsIn → akk
open PySem.Heap renaming get?_push_of_some → abY, lt_size → abZ, get?_push_size → ab8, get?_update_other → acn, get?_update_self → acI, size_push → aez, FlyingW → ai2, ExtBut → ajx
open Nat renaming le_trans → ab3, le_refl → ab4, ne_of_lt → acf, lt_of_lt_of_le → acg, zero_le → acr, lt_of_le_of_lt → ac5, ne_of_gt → ac6, lt_irrefl → ads, not_lt_zero → adH, lt_succ_self → aex, lt_succ_of_lt → aeS, min_eq_left → afi, le_add_left → afo, le_of_lt → afG, le_succ → af7, min_eq_right → ahj, lt_of_succ_lt_succ → ahu, sub_self → ahP, succ_ne_self → aja, le_add_right → ajb, le_of_eq → akb, lt_trans → akg, zero_add → akj, log2_lt → akr
open Bool renaming false_ne_true → acq, false_eq_true → acu, and_eq_true → acT, eq_iff_iff → adg, and_true → aeP, false_and → afD, or_false → af1, or_eq_true → agc, eq_false_iff → agP, and_self → aha, true_and → ahe, and_false → ah2, not_true → aiz, not_false → ajI, false_or → ajY, not_not → akl
open PySem.Value renaming ref → acy, bool → adt, int → ael, isInt → afu, type → agG, builtin → ag7, str → ail, float → ajf, isStrOf → ajT, bytes → akm
open Option renaming map_eq_some_iff → acC, isNone → aeT, ne_none_iff_exists' → aeU, getD_some → ae3, isSome_iff_exists → afb, toList_some → aiv, isSome_map → aiS
open PyProof.Rows renaming callWith_type1 → acD, envOfC → adJ, callWith_builtin1 → aeq, seqObj → aeF, IntsAre → aeI, kindOf → agM, subscriptTail → ag5, subscriptTail_builtinR → ahq, AllBare → ahy, mirror_perm → aif, Constant_none → aio, listUpdate_at → aix, Subscript_ → aiM, get?_update_seq → ajy, seqEpoch_at → ajz, mulOk_of_bits → ajF, boot_range → ajL, test_link → aka, bits_add → akd, bits_mul → ake, Call_ → akn, lt_int → akq
open Array renaming getElem?_eq_getElem → acG, length_toList → aes, getElem?_eq_none → aeD, getElem?_toList → afP, getD_eq_getD_getElem? → agd, toArray_toList → ahZ, append_assoc → ain, toList_push → aiU, toList → aiX, getD → ajP
open PySem.PassesOwn renaming never → acH, leaving → adV
open PySem.Around renaming under_plainId → acO, under → aiZ
open Int renaming toNat_natCast → acS, le_refl → ade, toNat_of_nonneg → ad3, mul_nonneg → aeB, le_trans → afe, mul_le_mul_of_nonneg_left → afX, emod_lt_of_pos → agt, zero_add → agw, mul_le_mul → agF, emod_nonneg → ahI, toNat → ahO, ediv_le_self → ai9, le_antisymm → ajr, ediv_nonneg → ajt, ediv_one → akh
open Ne renaming symm → acY
open PySem.Builtin.Range renaming rangeSize → acZ, rangeFitsLong → aju
open PySem.F renaming plainAttrs_list → ac3, slot_dict_keyiterator_next → adw, slot_list_append → adL, type_list_append → adM, slot_enumerate_next → ad4, plain_min_loop → ad5, plain_extend_loop → aej, args_dict_keyiterator_next_1 → ae0, entry_dict_keyiterator_next → ae9, slot_list_index → afn, entry_min_loop → afr, slot_tuple_lt → afK, args_enumerate_next_1 → afW, entry_enumerate_next → af3, excBase_ValueError → agn, entry_extend_loop → agE, slot_list_extend → agZ, type_list_extend → ag0, args_tuple_lt_2 → ag4, type_list_index → ahf, entry_tuple_lt → ahp, slot_dict_iter → aht, slot_dict_pop → ahK, slot_dict_len → ahM, plain_set_new → ahN, args_list_append_2 → ahU, entry_list_append → aia, slot_list_append → ait, plain_min → aiP, entry_min → aiQ, kind_min → ai7, slot_set_iter → ajC
open PySem.Heap.SameBut renaming update → ac8
open PySem.Obj renaming mapSeq → adl, mapFields → aeQ, data_mapDictKeys → ahX, data_mapFields → aiw, putSet → ajR
open PySem.Str renaming ofString → adq
open PySem.SetTable.below renaming go → adv
open PySem.Calls renaming spliced_cons → adI, spliced_nil → adT, evalArgs_plain → afZ, Name_function_global → agm, call_function_entry → agB, callWith_builtin → ahr
open PyProof.Rows.F renaming plain_set_update_loop → adR, entry_set_update_loop → ae2
open PySem.Builtin.Builtins renaming bindParams → ad0
open PySem.Builtin.List renaming listExtendWith → ad1, listLengthHint → aeM, listTooLong → afc, listSameRef → agW, listItems → ahv, listUpdate → aj4, listTouch → aj6
open False renaming elim → ad6
open True renaming intro → aem
open PySem.W.WData renaming int → aen, weightAll → aew, layable → afN, weight → ahW, layableAll → ajQ
open PySem.SetTable.probe renaming go → aep
open PySem.Builtin.Int renaming intBits → aeu
open PySem.PyData renaming eqv → aeA, depthAll → aeJ, canLayAll0 → afz, eqvAll → af2, canLay0 → ah3
open PySem.Builtin.SmallTypes renaming ownedTupleIsFree → afa
open PySem.SetTable renaming insertAt → afB, probeStart → agg, has → agu, fill → ahd, freeSlot → aiT, runEnd → ajA, probe → ajG, turns → ajH, slot → aj1
open Or renaming inl → afM, inr → ai1
open Classical renaming choose_spec → afR, choose → ajc
open ForInStep renaming yield → af9
open Function renaming comp_def → ag1
open Sum renaming inl → ag2, inr → aiC
namespace L2
open PySem PySem.Spec PyProof.Rows
abbrev Key:=Sum Int Str
noncomputable def ph:Key->ab1->Bool
 | .inl k,v=>afu k v
 | .inr x,v=>ajT x v
noncomputable def MG(w:ado):Key->Int
 | .inl k=>aje k
 | .inr x=>hashStr w x
theorem k7:∀ {k:Key} {v:ab1},ph k v=true->(∃ i t,k=ag2 i/\v=ael i t)∨(∃ x t,k=aiC x/\v=ail x t)
 | .inl i,v,h=>by obtain⟨t,e⟩:=Value.isInt_shape (k:=i) (v:=v) h;exact .inl ⟨i,t,rfl,e⟩
 | .inr x,v,h=>by obtain⟨t,e⟩:=Value.isStrOf_shape (x:=x) (v:=v) h;exact .inr ⟨x,t,rfl,e⟩
theorem MH(i:Int)(t:Tok):ph (.inl i) (.int i t)=true:=by simp[ph,afu]
theorem MI(x:Str)(t:Tok):ph (.inr x) (.str x t)=true:=by simp[ph,ajT]
theorem MJ(a b:Int):decide ((ag2 a:Key)=ag2 b)=(a == b):=by
 by_cases e:a=b
 .subst e;simp
 .have h:¬ (ag2 a:Key)=ag2 b:=λq=>e (Sum.inl.inj q);rw[decide_eq_false h];exact (beq_eq_false_iff_ne.mpr e).symm
theorem MK(a b:Str):decide ((aiC a:Key)=aiC b)=decide (a=b):=by
 by_cases e:a=b
 .subst e;simp
 .have h:¬ (aiC a:Key)=aiC b:=λq=>e (Sum.inr.inj q);rw[decide_eq_false h,decide_eq_false e]
theorem ML(a:Int)(b:Str):decide ((ag2 a:Key)=aiC b)=false:=decide_eq_false (λq=>nomatch q)
theorem MM(a:Str)(b:Int):decide ((aiC a:Key)=ag2 b)=false:=decide_eq_false (λq=>nomatch q)
noncomputable def fH(prog:acK)(w:ado):PySem.KeyKind prog w Key where
 is:=ph
 hash:=MG w
 inj:=λv a b ha hb=>by
  rcases k7 ha with ⟨i,t,rfl,rfl⟩|⟨x,t,rfl,rfl⟩
  .rcases k7 hb with ⟨j,u,rfl,e⟩|⟨y,u,rfl,e⟩
   .injection e with e1 _;rw[e1]
   .exact nomatch e
  .rcases k7 hb with ⟨j,u,rfl,e⟩|⟨y,u,rfl,e⟩
   .exact nomatch e
   .injection e with e1 _;rw[e1]
 byValue:=λk v h=>by
  rcases k7 h with ⟨i,t,rfl,rfl⟩|⟨x,t,rfl,rfl⟩<;>rfl
 pyHash:=λhv h=>by
  rcases k7 hv with ⟨i,t,rfl,rfl⟩|⟨x,t,rfl,rfl⟩
  .exact wpAny_pyHash_int h
  .exact wpAny_pyHash_str h
 eqBool:=λhu hv h=>by
  rcases k7 hu with ⟨i,t,rfl,rfl⟩|⟨x,t,rfl,rfl⟩
  .rcases k7 hv with ⟨j,u,rfl,rfl⟩|⟨y,u,rfl,rfl⟩
   .rw[MJ] at h;exact ahg h
   .rw[ML] at h;exact SeqAt.EqAt.int_str i t y u _ _ _ _ h
  .rcases k7 hv with ⟨j,u,rfl,rfl⟩|⟨y,u,rfl,rfl⟩
   .rw[MM] at h;exact SeqAt.EqAt.str_int x t j u _ _ _ _ h
   .rw[MK] at h;exact wpAny_eqBool_str h
 «strs»:=λk x t v h=>by
  rcases k7 h with ⟨i,u,rfl,e⟩|⟨y,u,rfl,e⟩
  .exact nomatch e
  .injection e with e1 _;subst e1;cases v<;>rfl
theorem MN(prog:acK)(w:ado)(i:Int)(t:Tok):(fH prog w).is (.inl i) (.int i t)=true:=MH i t
theorem MO(prog:acK)(w:ado)(x:Str)(t:Tok):(fH prog w).is (.inr x) (.str x t)=true:=MI x t
inductive V where
 | non|bl (b:Bool)|int (i:Int)|str (x:Str)|byt (b:Array UInt8)|flt (b:UInt64)|ref (a:ab6)|ty (n:String)
 deriving DecidableEq
def RelV:V->ab1->Prop
 | .non,u=>u=Value.none
 | .bl b,u=>u=adt b
 | .int i,u=>∃ t,u=ael i t
 | .str x,u=>∃ t,u=ail x t
 | .byt b,u=>∃ t,u=akm b t
 | .flt b,u=>∃ t,u=ajf b t
 | .ref a,u=>u=acy a
 | .ty n,u=>u=agG n
abbrev Vals:List V->List ab1->Prop:=aj7 RelV
theorem Vals.length(r:Vals xs us):xs.length=us.length:=Paired.length r
theorem Vals.get:∀ {xs:List V} {us:List ab1} {i:Nat} {x:V},Vals xs us->xs[i]?=some x->∃ u,us[i]?=some u/\RelV x u
 | _,_,_,_,.nil,e=>by simp at e
 | _,_,0,_,.cons r _,e=>by simp at e;subst e;exact⟨_,rfl,r⟩
 | _,_,i+1,x,.cons _ t,e=>by obtain⟨u,h1,h2⟩:=Vals.get (i:=i) (x:=x) t (by simpa using e);exact⟨u,by simpa using h1,h2⟩
theorem Vals.set(r:RelV x u):∀ {xs:List V} {us:List ab1} (i:Nat),Vals xs us->Vals (xs.set i x) (us.set i u)
 | _,_,_,.nil=>.nil
 | _,_,0,.cons _ t=>.cons r t
 | _,_,i+1,.cons q t=>.cons q (Vals.set r i t)
theorem Vals.append:∀ {xs ys:List V} {us ws:List ab1},Vals xs us->Vals ys ws->Vals (xs++ys) (us++ws):=by
 intro xs ys us ws h s
 induction h with
 | nil=>exact s
 | cons r t ih=>exact .cons r ih
theorem Vals.take:∀ {xs:List V} {us:List ab1} (n:Nat),Vals xs us->Vals (xs.take n) (us.take n)
 | _,_,0,_=>.nil
 | _,_,_+1,.nil=>.nil
 | _,_,n+1,.cons r t=>.cons r (Vals.take n t)
theorem Vals.drop:∀ {xs:List V} {us:List ab1} (n:Nat),Vals xs us->Vals (xs.drop n) (us.drop n)
 | _,_,0,r=>r
 | _,_,_+1,.nil=>.nil
 | _,_,n+1,.cons _ t=>Vals.drop n t
def fX:Option V->Option ab1->Prop
 | some v,some u=>RelV v u
 | none,none=>True
 | _,_=>False
def KV{κ:Type}:List (κ × V)->List (κ × ab1)->Prop:=aj7 λ(p:κ × V) (q:κ × ab1)=>p.1=q.1/\RelV p.2 q.2
noncomputable def kV:Key->V
 | .inl i=>.int i
 | .inr x=>.str x
inductive HO where
 | lst (xs:List V)
 | tup (xs:List V)
 | dK (kvs:List (Key × V))|dT (kvs:List (List Key × V))
 | set (S:Int->Bool) (n:Nat)
 | ins (C dx:ab6) (fs:List (Str × V))
 | own (x:ab6)
 | xd (fs:List (Str × V))
 | met (f x:ab6)
 | fI (lo hi:Int)
 | aW (o:Obj) (u:HO)
 | tbl (ps:Array ab1)
 | ext (φ:aek->Prop)
abbrev Hp:=ab6->Option HO
noncomputable def upd(H:Hp)(a:ab6)(o:HO):Hp:=λb=>if b=a then some o else H b
theorem aq:upd H a o a=some o:=by unfold upd;rw[if_pos rfl]
theorem aF(h:b≠a):upd H a o b=H b:=by unfold upd;rw[if_neg h]
theorem jA:upd (upd H a o) a u=upd H a u:=by funext b;unfold upd;split<;>rfl
theorem pq{H:Hp}{a b:ab6}{o u:HO}(h:H a=some o)(h':H b=some u)(d:o≠u):a≠b:=by intro e;subst e;rw[h] at h';exact d (Option.some.inj h')
theorem jB{H:Hp}{a b:ab6}{o:HO}(h:H a=some o)(h':H b=none):a≠b:=by intro e;subst e;rw[h] at h';cases h'
section
variable(P:acK)(w:ado)
def bM(H:Hp)(h:aek)(a:ab6):HO->Prop
 | .lst xs=>xs.length<=aco/\∃ (aw:List ab1) (n:Nat),Vals xs aw/\h.get? a=some { cls:=.type "list",data:=.seq aw.toArray n }
 | .tup xs=>xs.length<=aco/\∃ aw:List ab1,Vals xs aw/\IsTup h a aw.toArray
 | .dK kvs=>kvs.length<=aco/\(a == adD)=false/\∃ vs,KV kvs vs/\h.DictOf (fH P w) a vs
 | .dT kvs=>kvs.length<=aco/\(a == adD)=false/\∃ xs:List (List Key × ab6 × ab1),
  aj7 (λ(p:List Key × V) (q:List Key × ab6 × ab1)=>p.1=q.1/\H q.2.1=some (.tup (p.1.map kV))/\RelV p.2 q.2.2) kvs xs /\
  ∃ o es ep,h.get? a=some o/\o.ExactDict/\o.data = .dict es ep/\es.toList=xs.map (aiD (agH (fH P w)))/\(xs.map (·.1)).Nodup
 | .set S n=>h.SetOf (afT P w) a S n
 | .ins C dx fs=>H dx=some (.own a)/\fs.length<=1000/\dx≠a/\h.get? a=some (adW C dx) /\
  ∃ mA,h.Ns1 dx mA/\(∀ f,fX (fs.lookup f) (mA f))/\aiW mA (fs.map (·.1))
 | .own _=>∃ o,h.get? a=some o
 | .xd fs=>∃ mA,h.Ns1 a mA/\∀ f,fX (fs.lookup f) (mA f)
 | .fI lo hi=>∃ t u v,h.get? a=some { cls:=.type "range",data:=.fields #[.int lo t,.int hi u,.int 1 v] }
 | .aW o u=>h.get? a=some o/\bM H h a u
 | .tbl ps=>h.get? a=some { cls:=.none,data:=.fields ps }
 | .met f x=>h.get? a=some (agI (.ref f) (.ref x))
 | .ext φ=>φ h/\(∃ o,h.get? a=some o)/\∀ h1 h2:aek,φ h1->(∀ o,h1.get? a=some o->h2.get? a=some o)->φ h2
def b7(H:Hp)(h:aek):Prop:=∀ a o,H a=some o->bM P w H h a o
end
section
theorem bM.lt(x:bM P w H h a o):a<h.objs.size:=by
 cases o with
 | lst xs=>obtain⟨z,z,z,z,e⟩:=x;exact abZ e
 | tup xs=>obtain⟨z,z,z,p⟩:=x;exact p.lt
 | dK kvs=>obtain⟨z,z,z,z,o,z,z,e,z⟩:=x;exact abZ e
 | dT kvs=>obtain⟨z,z,z,z,o,z,z,e,z⟩:=x;exact abZ e
 | set S n=>obtain⟨o,z,z,z,e,z⟩:=x;exact abZ e
 | ins C dx fs=>obtain⟨z,z,z,e,z⟩:=x;exact abZ e
 | own y=>obtain⟨z,e⟩:=x;exact abZ e
 | xd fs=>obtain⟨z,⟨z,z,z,e,z⟩,z⟩:=x;exact abZ e
 | fI lo hi=>obtain⟨z,z,z,e⟩:=x;exact abZ e
 | aW ob u=>obtain⟨e,z⟩:=x;exact abZ e
 | tbl ps=>exact abZ (show h.get? a=some _ from x)
 | met f y=>exact abZ (show h.get? a=some _ from x)
 | ext φ=>obtain⟨z,⟨z,e⟩,z⟩:=x;exact abZ e
theorem Paired.DH:∀ {l₁:List α} {l₂:List β},aj7 F l₁ l₂->(∀ a b,F a b->G a b)->aj7 G l₁ l₂:=by
 intro y y h f
 induction h with
 | nil=>exact .nil
 | cons r t ih=>exact .cons (f _ _ r) ih
theorem bM.stay(x:bM P w H h a o)(k:∀ b u,(b=a∨H b=some (.own a))->h.get? b=some u->h'.get? b=some u)(ho:∀ b,H b=some (.own a)->H' b=some (.own a))(ht:∀ b xs,H b=some (.tup xs)->H' b=some (.tup xs)):bM P w H' h' a o:=by
 induction o with
 | lst xs=>obtain⟨z,aw,n,r,e⟩:=x;exact⟨z,aw,n,r,k _ _ (.inl rfl) e⟩
 | tup xs=>obtain⟨z,aw,r,ob,e,c⟩:=x;exact⟨z,aw,r,ob,k _ _ (.inl rfl) e,c⟩
 | dK kvs=>obtain⟨z,y,vs,r,ob,es,ep,e,c⟩:=x;exact⟨z,y,vs,r,ob,es,ep,k _ _ (.inl rfl) e,c⟩
 | dT kvs =>
  obtain⟨z,y,xs,r,ob,es,ep,e,c⟩:=x;exact⟨z,y,xs,Paired.DH r λp q z=>⟨z.1,ht _ _ z.2.1,z.2.2⟩,ob,es,ep,k _ _ (.inl rfl) e,c⟩
 | set S n=>obtain⟨ob,es,ep,t,e,c⟩:=x;exact⟨ob,es,ep,t,k _ _ (.inl rfl) e,c⟩
 | ins C dx fs =>
  obtain⟨d,z,ne,e,mA,⟨od,es,ep,e2,c⟩,r⟩:=x;exact⟨ho _ d,z,ne,k _ _ (.inl rfl) e,mA,⟨od,es,ep,k _ _ (.inr d) e2,c⟩,r⟩
 | own y=>obtain⟨ob,e⟩:=x;exact⟨ob,k _ _ (.inl rfl) e⟩
 | xd fs=>obtain⟨mA,⟨od,es,ep,e,c⟩,r⟩:=x;exact⟨mA,⟨od,es,ep,k _ _ (.inl rfl) e,c⟩,r⟩
 | fI lo hi=>obtain⟨t,u,v,e⟩:=x;exact⟨t,u,v,k _ _ (.inl rfl) e⟩
 | aW ob u ih=>obtain⟨e,q⟩:=x;exact⟨k _ _ (.inl rfl) e,ih q⟩
 | tbl ps =>
  have e:h.get? a=some { cls:=.none,data:=.fields ps }:=x;show h'.get? a=some { cls:=.none,data:=.fields ps };exact k a _ (.inl rfl) e
 | met f y =>
  have e:h.get? a=some (agI (.ref f) (.ref y)):=x;show h'.get? a=some (agI (.ref f) (.ref y));exact k a _ (.inl rfl) e
 | ext φ=>obtain⟨p,⟨o,e⟩,st⟩:=x;exact⟨st _ _ p λo q=>k _ _ (.inl rfl) q,⟨o,k _ _ (.inl rfl) e⟩,st⟩
theorem b7.lt(x:b7 P w H h)(e:H a=some o):a<h.objs.size:=(x a o e).lt
theorem b7.fresh(x:b7 P w H h)(e:h.objs.size<=a):H a=none:=by
 cases q:H a with
 | none=>rfl
 | some u=>exact absurd (acg (x.lt q) e) (ads _)
theorem b7.kept(x:b7 P w H h)(k:∀ b u,h.get? b=some u->h'.get? b=some u):b7 P w H h':=λa o e =>
 (x a o e).stay (λb u y q=>k b u q) (λy q=>q) λy y q=>q
theorem b7.laid(x:b7 P w H h)(k:∀ b u,h.get? b=some u->h'.get? b=some u)(hp:h.objs.size<=a)(new:bM P w (upd H a o) h' a o):b7 P w (upd H a o) h':=λb u e=>by
 have hn:=x.fresh hp;by_cases hb:b=a
 .subst hb;rw[aq] at e;cases e;exact new
 .rw[aF hb] at e;exact (x b u e).stay (λc v y q=>k c v q) (λc q=>by rw[aF (jB q hn)];exact q) λc xs q=>by rw[aF (jB q hn)];exact q
end
def Rd(H:Hp)(a:ab6)(u:HO):Prop:=H a=some u ∨ ∃ o,H a=some (.aW o u)
theorem Rd.ok(r:Rd H a u)(x:b7 P w H h):bM P w H h a u:=by
 rcases r with r|⟨o,r⟩
 .exact x a u r
 .obtain⟨y,q⟩:=x a _ r;exact q
def rB:Option HO->Prop
 | some (.lst _)=>True
 | some (.dK _)=>True
 | some (.dT _)=>True
 | some (.set _ _)=>True
 | some (.ins _ _ _)=>True
 | some (.ext _)=>True
 | _=>False
section
theorem b7.write(ok:b7 P w H h)(mu:rB (H x))(he:e=x∨H e=some (.own x))(k:∀ b u,b≠e->h.get? b=some u->h'.get? b=some u)(pA:∃ u,h'.get? e=some u)(new:bM P w (upd H x o') h' x o'):b7 P w (upd H x o') h':=λb u q=>by
 have DI:∀ c y,H c=some (.own y)->c≠x:=λc y r z=>by subst z;rw[r] at mu;exact mu
 have MP:∀ c xs,H c=some (.tup xs)->c≠x:=λc xs r z=>by subst z;rw[r] at mu;exact mu
 by_cases hb:b=x
 .subst hb;rw[aq] at q;cases q;exact new
 .rw[aF hb] at q;by_cases km:b=e
  .have q':H b=some (.own x):=by
    rcases he with z|z
    .exact absurd (km.trans z) hb
    .rw[km];exact z
   rw[q] at q';cases q';obtain⟨v,hv⟩:=pA;exact⟨v,by rw[km];exact hv⟩
  .refine (ok b u q).stay (λc v hc r=>k c v ?_ r) (λc r=>by rw[aF (DI c b r)];exact r) λc xs r=>by rw[aF (MP c xs r)];exact r
   rcases hc with rfl|hc
   .exact km
   .rintro rfl;rcases he with z|z
    .exact DI c b hc z
    .rw[hc] at z;cases z;exact hb rfl
end
structure Un(fs ex:List ab6)(H H':Hp)(h h':aek):Prop where
 keep:∀ b o,h.get? b=some o->H b=none->b∉fs->b∉ex->h'.get? b=some o
 slot:∀ b o,h.get? b=some o->H b=none->b∈fs->b∉ex->∃ sl,h'.get? b=some { o with slots:=sl }
 free:∀ b o,h.get? b=some o->H b=none->b∉ex->H' b=none
 there:∀ b o,h.get? b=some o->b∉ex->∃ o',h'.get? b=some o'
 fY:∀ b xs,H b=some (.tup xs)->H' b=some (.tup xs)
 fu:∀ b o u,H b=some (.aW o u)->H' b=some (.aW o u)
 fZ:∀ b ps,H b=some (.tbl ps)->∃ more,H' b=some (.tbl (ps++more))
section
variable{fs fs' ex ex':List ab6}{H H1 H2:Hp}{h h1 h2 h':aek}{a x e:ab6}{o:HO}
theorem Un.any(u:Un fs ex H H1 h h1)(q:h.get? b=some ob)(n:H b=none)(hx:b∉ex):∃ sl,h1.get? b=some { ob with slots:=sl }:=by
 by_cases hb:b∈fs
 .exact u.slot b ob q n hb hx
 .exact⟨ob.slots,u.keep b ob q n hb hx⟩
theorem Un.kept(k:∀ b u,h.get? b=some u->h'.get? b=some u):Un fs ex H H h h' :=
 ⟨λb ob q y y y=>k b ob q,λb ob q y y y=>⟨ob.slots,k b ob q⟩,λy y y n y=>n,λb ob q y=>⟨ob,k b ob q⟩,λy y q=>q,λy y y q=>q,λy ps q=>⟨#[],by rw[q];simp⟩⟩
theorem Un.refl:Un fs ex H H h h:=Un.kept λy y q=>q
theorem Un.laid(k:∀ b u,h.get? b=some u->h'.get? b=some u)(hp:h.objs.size<=a)(hn:H a=none):Un fs ex H (upd H a o) h h' where
 keep:=λb u q y y y=>k b u q
 slot:=λb u q y y y=>⟨u.slots,k b u q⟩
 free:=λb u q n y=>by rw[aF (acf (acg (abZ q) hp))];exact n
 there:=λb u q y=>⟨u,k b u q⟩
 fY:=λb xs q=>by rw[aF (jB q hn)];exact q
 fu:=λb u xs q=>by rw[aF (jB q hn)];exact q
 fZ:=λb ps q=>⟨#[],by rw[aF (jB q hn),q];simp⟩
theorem Un.write(mu:rB (H x))(he:e=x∨H e=some (.own x))(k:∀ b u,b≠e->h.get? b=some u->h'.get? b=some u)(pA:∃ u,h'.get? e=some u):Un fs ex H (upd H x o) h h':=by
 have hx:∀ b,H b=none->b≠x:=λb n z=>by subst z;rw[n] at mu;exact mu
 have hb:∀ b,H b=none->b≠e:=λb n z=>by
  subst z;rcases he with r|r
  .exact hx b n r
  .rw[n] at r;cases r
 have hm:∀ b u,H b=some u->¬ rB (some u)->b≠x:=λb u q nm z=>by subst z;rw[q] at mu;exact nm mu
 refine⟨λb u q n y y=>k b u (hb b n) q,λb u q n y y=>⟨u.slots,k b u (hb b n) q⟩,λb u q n y=>by rw[aF (hx b n)];exact n,λb u q y=>?_,
  λb xs q=>by rw[aF (hm b _ q λz=>z)];exact q,λb u xs q=>by rw[aF (hm b _ q λz=>z)];exact q,λb ps q=>⟨#[],by rw[aF (hm b _ q λz=>z),q];simp⟩⟩
 by_cases km:b=e
 .subst km;exact pA
 .exact⟨u,k b u km q⟩
end
noncomputable def uY(h:aek)(H:Hp):List ab6:=(ab2 h.objs.size).filter λa=>(H a).isSome
noncomputable def k8(h:aek)(H:Hp):aek:=ahx h (uY h H)
theorem MQ(h:aek)(H:Hp):(k8 h H).objs.size=h.objs.size:=PySem.W.hideAll_size _ _
theorem MR(e:h.get? b=some o)(n:H b=none):(k8 h H).get? b=some o :=
 ah7 _ e λhm=>by have q:(H b).isSome=true:=(acv.mp hm).2;rw[n] at q;simp at q
theorem MS(e:(k8 h H).get? b=some o):h.get? b=some o/\H b=none:=by
 have e':h.get? b=some o:=aim (uY h H) e;refine⟨e',?_⟩;cases q:H b with
 | none=>rfl
 | some x =>
  have hm:b∈uY h H:=acv.mpr ⟨acp.mpr (abZ e'),by simp[q]⟩;have z:(k8 h H).get? b=none:=PySem.W.hideAll_none (uY h H) hm;rw[z] at e;cases e
noncomputable def MT(g h:aek)(L:ab6):List (ab6 × Obj):=(ab2 h.objs.size).filterMap λa=>if a=L∨(g.get? a).isSome=true then none else (h.get? a).map λo=>(a,o)
noncomputable def rest(g h:aek)(L d:ab6):List (ab6 × Obj):=(MT g h L).filter λp=>decide (p.1≠d)
structure Mod(K:abU)(mg:Str->Option ab1)(base:aek):Prop where
 iV:K.In base
 glob:base.Ns ady mg
 blt:∃ mb,base.Ns ajJ mb/\∀ x:Str,x ≠ "__name__" -> mb x=acJ x
 nolimit:base.NoLimit
structure Cx where
 prog:acK
 w:ado
 K:abU
 mg:Str->Option ab1
 base:aek
 A:adz
 N:List Str
 s₀:ab9
 H₀:Hp
 env:Env
 outer:List Env
 stack:List Env
 ex:List ab6
 fn:Str->Bool
 calm:Bool
 pn:List (ab6 × Obj)
 xe:ab1->ab9->Prop
noncomputable def bc(l:List Env):List ab6:=l.filterMap (·.frame)
noncomputable abbrev Cx.fs(X:Cx):List ab6:=bc X.outer
def uZ(sc:ahT)(x:Str):Prop:=sc.names.lookup x=some .local∨sc.names.lookup x=some .cell∨sc.names.lookup x=some .free
def Loc(sc:ahT)(x:Str):Prop:=sc.names.lookup x=some .local∨sc.names.lookup x=some .cell
def Look(env:Env)(h:aek)(m:Str->Option ab1)(x:Str)(u:ab1):Prop :=
 (env.kindOf x=some .local/\m x=some u)∨((env.kindOf x=some .cell∨env.kindOf x=some .free)/\∃ c,env.cells.lookup x=some c/\h.IsCell c (some u))
structure Cx.Ok(X:Cx):Prop where
 mod:Mod X.K X.mg X.base
 kind:X.env.scope.kind = .function
 glob:X.env.globals=ady
 blt:X.env.builtins=ajJ
 above:X.s₀.heap.objs.size<=X.env.locals
 inj:∀ x y c,X.env.cells.lookup x=some c->X.env.cells.lookup y=some c->x=y
 has:∀ x,(X.env.kindOf x=some .cell∨X.env.kindOf x=some .free)->∃ c,X.env.cells.lookup x=some c
 cab:∀ x c,X.fn x=true->X.env.cells.lookup x=some c->X.s₀.heap.objs.size<=c
 hd:X.calm=true->X.A.handled=none
 frames:X.A.frames=some X.stack
 stk:X.stack=X.outer∨(X.stack=X.env::X.outer/\X.env.frame=some X.env.locals)
 exf:∀ b∈X.ex,b≠X.env.locals/\∀ x c,X.env.cells.lookup x=some c->c≠b
 bs:∀ b o,X.base.get? b=some o->X.s₀.heap.get? b=some o/\X.H₀ b=none
 bsz:X.base.objs.size<=X.s₀.heap.objs.size
 noex:∀ b o,X.base.get? b=some o->b∉X.ex
 exfs:∀ b∈X.ex,b∉X.fs
 gy:X.s₀.heap.FunFrames X.base X.outer
 frf:∀ b∈X.fs,X.H₀ b=none
structure Inv(X:Cx)(pins:List (ab6 × Obj))(σ:List (Option V))(H:Hp)(s:ab9):Prop where
 ok:X.Ok
 os:s.os=X.s₀.os
 bare:ahy s.gens
 base:Un X.fs X.ex X.H₀ H X.s₀.heap s.heap
 loc:∃ m,s.heap.Ns X.env.locals m/\∀ (i:Nat) (x:Str) (v:V),X.N[i]?=some x->σ[i]?=some (some v)->uZ X.env.scope x->∃ u,RelV v u/\Look X.env s.heap m x u
 cell:∀ x c,X.env.cells.lookup x=some c->∃ v,s.heap.IsCell c v
 free:H X.env.locals=none
 gb:∀ x c,X.env.cells.lookup x=some c->H c=none
 pin:∀ p∈X.pn++pins,s.heap.get? p.1=some p.2/\H p.1=none/\p.1≠X.env.locals/\p.1∉X.fs/\∀ v,p.2.data ≠ .cell v
 az:b7 X.prog X.w H s.heap
 len:σ.length=X.N.length
section
variable{X:Cx}{pins:List (ab6 × Obj)}{σ:List (Option V)}{H H':Hp}{s:ab9}{h':aek}
theorem Cx.Ok.lg(ok:X.Ok){b:ab6}{o:Obj}(e:X.base.get? b=some o):b∉X.fs:=λhb=>by have:=(ok.gy.mem hb).1;rw[e] at this;cases this
theorem Inv.bs(I:Inv X pins σ H s):∀ b o,X.base.get? b=some o->s.heap.get? b=some o/\H b=none:=λb o e =>
 ⟨I.base.keep b o (I.ok.bs b o e).1 (I.ok.bs b o e).2 (I.ok.lg e) (I.ok.noex b o e),I.base.free b o (I.ok.bs b o e).1 (I.ok.bs b o e).2 (I.ok.noex b o e)⟩
theorem Inv.bk(I:Inv X pins σ H s):∀ b o,X.base.get? b=some o->s.heap.get? b=some o:=λb o e=>(I.bs b o e).1
theorem Inv.mod(I:Inv X pins σ H s):Mod X.K X.mg X.base:=I.ok.mod
theorem Inv.cz(I:Inv X pins σ H s):X.K.In s.heap:=I.ok.mod.iV.keeps I.bk
theorem Inv.lt(I:Inv X pins σ H s):X.env.locals<s.heap.objs.size:=let ⟨_,hn,_⟩:=I.loc;hn.lt
theorem Inv.sz(I:Inv X pins σ H s):X.s₀.heap.objs.size<=s.heap.objs.size:=ab3 I.ok.above (afG I.lt)
theorem Inv.DJ(I:Inv X pins σ H s)(h:s.heap.objs.size<=a):a∉X.fs:=λhb=>by obtain⟨y,o,ho,y⟩:=I.ok.gy.mem hb;exact absurd (acg (abZ ho) (ab3 I.sz h)) (ads _)
theorem Inv.jC(I:Inv X pins σ H s):∀ x c,X.env.cells.lookup x=some c->c≠X.env.locals:=λx c e z=>by obtain⟨v,o,ho,hd⟩:=I.cell x c e;obtain⟨m,⟨o',es,ep,cS,jD,y⟩,y⟩:=I.loc;rw[z,cS] at ho;cases ho;rw[jD] at hd;cases hd
theorem Inv.gy(I:Inv X pins σ H s):s.heap.FunFrames X.base X.outer:=by
 have all:∀ (l:List Env),(∀ b∈bc l,b∈X.fs)->X.s₀.heap.FunFrames X.base l->s.heap.FunFrames X.base l:=by
  intro l
  induction l with
  | nil=>intro y y;trivial
  | cons env r ih =>
   intro hs hl;obtain⟨hk,⟨L,o,hf,hn,ho,hd⟩,hr⟩:=hl;have hL:L∈X.fs:=hs L (by unfold bc;rw[adf,hf];exact aeE);obtain⟨sl,e⟩:=I.base.slot L o ho (I.ok.frf L hL) hL λz=>I.ok.exfs L z hL;exact⟨hk,⟨L,_,hf,hn,e,hd⟩,ih (λb hb=>hs b (by unfold bc;rw[adf,hf];exact acN _ hb)) hr⟩
 exact all X.outer (λy hb=>hb) I.ok.gy
theorem Inv.stack(I:Inv X pins σ H s):s.heap.FunFrames X.base X.stack:=by
 rcases I.ok.stk with e|⟨e,hf⟩
 .rw[e];exact I.gy
 .rw[e];obtain⟨m,hn,y⟩:=I.loc;refine .cons (by rw[I.ok.kind];decide) hf hn ?_ I.gy;exact Heap.get?_none_of_le (ab3 I.ok.bsz I.ok.above)
theorem Inv.pB(I:Inv X pins σ H s):∀ b∈bc X.stack,b∈X.env.locals::X.fs:=λb hb=>by
 rcases I.ok.stk with e|⟨e,hf⟩
 .rw[e] at hb;exact acN _ hb
 .rw[e] at hb;unfold bc at hb;rw[adf,hf] at hb;exact hb
theorem Inv.rC(I:Inv X pins σ H s):∀ b∈bc X.stack,H b=none:=λb hb=>by
 rcases acd.mp (I.pB b hb) with e|hb
 .rw[e];exact I.free
 .obtain⟨y,o,ho,y⟩:=I.ok.gy.mem hb;exact I.base.free b o ho (I.ok.frf b hb) λz=>I.ok.exfs b z hb
theorem Inv.step{g':Array GenState}{t':Nat}{d':Drawn}{ch:List ab6}(I:Inv X pins σ H s)
 (ko:∀ b∈ch,(b∈X.ex∨X.s₀.heap.objs.size<=b)/\b≠X.env.locals/\(∀ x c,X.env.cells.lookup x=some c->c≠b)/\∀ p∈X.pn++pins,p.1≠b)
 (keep:∀ b o,b≠X.env.locals->b∉X.fs->b∉ch->s.heap.get? b=some o->H b=none->h'.get? b=some o)
 (slot:∀ b o,b≠X.env.locals->b∈X.fs->b∉ch->s.heap.get? b=some o->H b=none->∃ sl,h'.get? b=some { o with slots:=sl }) (free:∀ b o,b∉ch->s.heap.get? b=some o->H b=none->H' b=none)
 (there:∀ b o,b∉ch->s.heap.get? b=some o->∃ o',h'.get? b=some o')
 (fY:∀ b xs,H b=some (.tup xs)->H' b=some (.tup xs)) (fu:∀ b o u,H b=some (.aW o u)->H' b=some (.aW o u)) (fZ:∀ b ps,H b=some (.tbl ps)->∃ more,H' b=some (.tbl (ps++more)))
 (ns:∀ m,s.heap.Ns X.env.locals m->h'.Ns X.env.locals m) (az:b7 X.prog X.w H' h') (hg:ahy g') :
 Inv X pins σ H' { s with heap:=h',gens:=g',drawn:=d',toks:=t' }:=by
 have pC:∀ b o,X.s₀.heap.get? b=some o->b≠X.env.locals:=λb o e=>acf (acg (abZ e) I.ok.above);have u5:∀ b o,X.s₀.heap.get? b=some o->b∉X.ex->b∉ch:=λb o e hx hb=>by
  rcases (ko b hb).1 with z|z
  .exact hx z
  .exact absurd (acg (abZ e) z) (ads _)
 have cellK:∀ x c,X.env.cells.lookup x=some c->∀ v,s.heap.IsCell c v->h'.IsCell c v:=λx c e v ⟨o,ho,hd⟩=>by
  have mq:c∉ch:=λz=>(ko c z).2.2.1 x c e rfl;by_cases hc:c∈X.fs
  .obtain⟨sl,q⟩:=slot c o (I.jC x c e) hc mq ho (I.gb x c e);exact⟨_,q,hd⟩
  .exact⟨o,keep c o (I.jC x c e) hc mq ho (I.gb x c e),hd⟩
 refine⟨I.ok,I.os,hg,⟨λb o e n hb hx=>?_,λb o e n hb hx=>?_,λb o e n hx=>?_,λb o e hx=>?_,λb xs e=>fY b xs (I.base.fY b xs e),λb o xs e=>fu b o xs (I.base.fu b o xs e),λb ps e=>?_⟩,?_,λx c e=>?_,?_,λx c e=>?_,λp hp=>?_,az,I.len⟩
 .exact keep b o (pC b o e) hb (u5 b o e hx) (I.base.keep b o e n hb hx) (I.base.free b o e n hx)
 .obtain⟨sl,e1⟩:=I.base.slot b o e n hb hx;obtain⟨fJ,e2⟩:=slot b _ (pC b o e) hb (u5 b o e hx) e1 (I.base.free b o e n hx);exact⟨fJ,e2⟩
 .obtain⟨o',e1⟩:=I.base.there b o e hx;exact free b o' (u5 b o e hx) e1 (I.base.free b o e n hx)
 .obtain⟨o',e1⟩:=I.base.there b o e hx;exact there b o' (u5 b o e hx) e1
 .obtain⟨m1,e1⟩:=I.base.fZ b ps e;obtain⟨m2,e2⟩:=fZ b _ e1;exact⟨m1++m2,by rw[e2,ain]⟩
 .obtain⟨m,hn,hl⟩:=I.loc;refine⟨m,ns m hn,λi x v e1 e2 e3=>?_⟩;obtain⟨u,r,l⟩:=hl i x v e1 e2 e3;refine⟨u,r,?_⟩;rcases l with l|⟨k,c,e,z⟩
  .exact .inl l
  .exact .inr ⟨k,c,e,cellK x c e _ z⟩
 .obtain⟨v,z⟩:=I.cell x c e;exact⟨v,cellK x c e v z⟩
 .obtain⟨m,⟨o,y,y,ho,y⟩,y⟩:=I.loc;exact free _ o (λz=>(ko _ z).2.1 rfl) ho I.free
 .obtain⟨v,o,ho,hd⟩:=I.cell x c e;exact free c o (λz=>(ko c z).2.2.1 x c e rfl) ho (I.gb x c e)
 .obtain⟨e,n,ne,nf,d⟩:=I.pin p hp;have mq:p.1∉ch:=λz=>(ko p.1 z).2.2.2 p hp rfl;exact⟨keep p.1 p.2 ne nf mq e n,free p.1 p.2 mq e n,ne,nf,d⟩
theorem Inv.un(I:Inv X pins σ H s)(u:Un X.fs [] H H' s.heap h')(az:b7 X.prog X.w H' h'):Inv X pins σ H' { s with heap:=h',toks:=t' }:=by
 obtain⟨m,⟨o,es,ep,ho,r⟩,y⟩:=id I.loc;obtain⟨sl,hL⟩:=u.any ho I.free (by simp);exact I.step (g':=s.gens) (d':=s.drawn) (ch:=[]) (λy z=>nomatch z) (λb o y hb y e n=>u.keep b o e n hb (by simp)) (λb o y hb y e n=>u.slot b o e n hb (by simp)) (λb o y e n=>u.free b o e n (by simp)) (λb o y e=>u.there b o e (by simp)) u.fY u.fu u.fZ (λm' hm=>by
  obtain⟨o',es',rD,cS,r'⟩:=hm;rw[ho] at cS;cases cS;exact⟨_,es',rD,hL,r'⟩) az I.bare
theorem Inv.call(I:Inv X pins σ H s)(u:Un (bc X.stack) ch H H' s.heap h')(az:b7 X.prog X.w H' h')(hg:ahy g')(ko:∀ b∈ch,(b∈X.ex∨X.s₀.heap.objs.size<=b)/\b≠X.env.locals/\(∀ x c,X.env.cells.lookup x=some c->c≠b)/\∀ p∈X.pn++pins,p.1≠b) :
 Inv X pins σ H' { s with heap:=h',gens:=g',drawn:=d',toks:=t' }:=by
 obtain⟨m,⟨o,es,ep,ho,r⟩,y⟩:=id I.loc;obtain⟨sl,hL⟩:=u.any ho I.free λz=>(ko _ z).2.1 rfl;exact I.step (ch:=ch) ko (λb o hL hb hc e n=>u.keep b o e n (λz=>(acd.mp (I.pB b z)).elim hL hb) hc) (λb o y y hc e n=>u.any e n hc) (λb o hc e n=>u.free b o e n hc) (λb o hc e=>u.there b o e hc) u.fY u.fu u.fZ (λm' hm=>by
  obtain⟨o',es',rD,cS,r'⟩:=hm;rw[ho] at cS;cases cS;exact⟨_,es',rD,hL,r'⟩) az hg
theorem Inv.turned(I:Inv X pins σ H s)(k:∀ b o,b≠it->s.heap.get? b=some o->h'.get? b=some o)(hn:H it=none)(hL:it≠X.env.locals)(h1:it∈X.ex∨X.s₀.heap.objs.size<=it)(h2:∀ x c,X.env.cells.lookup x=some c->c≠it)(h3:∀ p∈X.pn++pins,p.1≠it):Inv X pins σ H { s with heap:=h',toks:=t' }:=by
 have DK:∀ b u,H b=some u->b≠it:=λb u e z=>by rw[z,hn] at e;cases e
 refine I.step (g':=s.gens) (d':=s.drawn) (ch:=[it]) (λb hb=>?_) (λb o y y hc e y=>k b o (λz=>hc (by simp[z])) e) (λb o y y hc e y=>⟨o.slots,k b o (λz=>hc (by simp[z])) e⟩) (λy y y y n=>n)
  (λb o hc e=>⟨o,k b o (λz=>hc (by simp[z])) e⟩) (λy y e=>e) (λy y y e=>e) (λb ps e=>⟨#[],by rw[e];simp⟩) (λm hm=>?_) (λb u e=>?_) I.bare
 .have e:b=it:=by simpa using hb
  subst e;exact⟨h1,hL,h2,h3⟩
 .obtain⟨o,es,ep,ho,r⟩:=hm;exact⟨o,es,ep,k _ o (acY hL) ho,r⟩
 .refine (I.az b u e).stay (λc v hc q=>k c v ?_ q) (λy q=>q) λy y q=>q;rcases hc with z|z
  .rw[z];exact DK b u e
  .exact DK c _ z
theorem Inv.tok(I:Inv X pins σ H s)(t:Nat):Inv X pins σ H { s with toks:=t }:=I.un (h':=s.heap) (t':=t) Un.refl I.az
theorem Inv.kept(I:Inv X pins σ H s)(k:∀ b u,s.heap.get? b=some u->h'.get? b=some u):Inv X pins σ H { s with heap:=h',toks:=t' }:=I.un (Un.kept k) (I.az.kept k)
theorem Inv.laid(I:Inv X pins σ H s)(k:∀ b u,s.heap.get? b=some u->h'.get? b=some u)(hp:s.heap.objs.size<=a)(new:bM X.prog X.w (upd H a o) h' a o) :
 Inv X pins σ (upd H a o) { s with heap:=h',toks:=t' }:=I.un (Un.laid k hp (I.az.fresh hp)) (I.az.laid k hp new)
theorem Inv.write(I:Inv X pins σ H s)(mu:rB (H x))(he:e=x∨H e=some (.own x))(k:∀ b u,b≠e->s.heap.get? b=some u->h'.get? b=some u)(pA:∃ u,h'.get? e=some u)(new:bM X.prog X.w (upd H x o) h' x o):Inv X pins σ (upd H x o) { s with heap:=h',toks:=t' }:=I.un (Un.write mu he k pA) (I.az.write mu he k pA new)
theorem Inv.weak(I:Inv X pins σ H s)(hl:σ'.length=σ.length)(w:∀ (i:Nat) v,σ'[i]?=some (some v)->σ[i]?=some (some v)):Inv X pins σ' H s :=
 ⟨I.ok,I.os,I.bare,I.base,let ⟨m,hn,rE⟩:=I.loc;⟨m,hn,λi x v e1 e2 e3=>rE i x v e1 (w i v e2) e3⟩,I.cell,I.free,I.gb,I.pin,I.az,hl.trans I.len⟩
theorem Inv.rF(I:Inv X pins σ H s)(h:∀ p∈yr,s.heap.get? p.1=some p.2/\H p.1=none/\p.1≠X.env.locals/\p.1∉X.fs/\∀ v,p.2.data ≠ .cell v):Inv X yr σ H s :=
 ⟨I.ok,I.os,I.bare,I.base,I.loc,I.cell,I.free,I.gb,λp hp=>(acw.mp hp).elim (λz=>I.pin p (adO _ z)) (h p),I.az,I.len⟩
theorem yt{N:List Str}(hN:N.Nodup){i j:Nat}{x:Str}(a:N[i]?=some x)(b:N[j]?=some x):i=j:=by obtain⟨h1,e1⟩:=ab0.mp a;obtain⟨h2,e2⟩:=ab0.mp b;exact (List.getElem_inj hN).mp (e1.trans e2.symm)
theorem MU(I:Inv X pins σ H s)(hN:X.N.Nodup)(hi:X.N[i]?=some x)(hx:Loc X.env.scope x)(r:RelV v u)(h:∀ s',Inv X pins (σ.set i (some v)) H s'->(∃ a,Heap.SameBut a s.heap s'.heap/\(a=X.env.locals∨X.env.cells.lookup x=some a))->Q () s')(hf:X.fn x=true∨X.env.scope.names.lookup x=some .local:=by first|exact .inl rfl|exact .inr rfl|assumption):ack M A (storeName X.env x u) Q E s:=by
 obtain⟨m,hn,hl⟩:=id I.loc;have yu:(X.env.scope.kind == .class || (X.env.scope.kind == .module && X.env.locals != X.env.globals))=false:=by rw[I.ok.kind];rfl
 have DL:i<σ.length:=by rw[I.len];exact (ab0.mp hi).1
 have jC:=I.jC;have tracked:∀ {a:ab6} {h':aek},(∃ o,s.heap.get? a=some o/\H a=none)->Heap.SameBut a s.heap h'->b7 X.prog X.w H h':=λ{a h'} ha hs b ob e=>by
  obtain⟨g,g,hfree⟩:=ha;refine (I.az b ob e).stay (λc w' hc q=>(hs.2 c ?_).trans q) (λg q=>q) λg g q=>q;rintro rfl;rcases hc with rfl|hc
  .rw[hfree] at e;cases e
  .rw[hfree] at hc;cases hc
 rcases hx with hk|hk
 .refine wpAny_storeName_local hk hn (λh' kr hs=>?_) yu;obtain⟨oL,g,g,DM,g⟩:=id hn;refine h _ ⟨I.ok,I.os,I.bare,⟨λb o e n hb hx=>?_,λb o e n hb hx=>?_,I.base.free,λb o e hx=>?_,I.base.fY,I.base.fu,I.base.fZ⟩,⟨_,kr,λj y v' e1 e2 e3=>?_⟩,λy c e=>?_,I.free,I.gb,λp hp=>?_,tracked ⟨oL,DM,I.free⟩ hs,by simpa using I.len⟩ ⟨_,hs,.inl rfl⟩
  .exact (hs.2 b (acf (acg (abZ e) I.ok.above))).trans (I.base.keep b o e n hb hx)
  .obtain⟨sl,e1⟩:=I.base.slot b o e n hb hx;exact⟨sl,(hs.2 b (acf (acg (abZ e) I.ok.above))).trans e1⟩
  .obtain⟨o',e1⟩:=I.base.there b o e hx;exact⟨o',(hs.2 b (acf (acg (abZ e) I.ok.above))).trans e1⟩
  .by_cases hj:j=i
   .subst hj;rw[hi] at e1;cases e1;rw[afp DL] at e2;cases e2;exact⟨u,r,.inl ⟨hk,by simp⟩⟩
   .rw[afY (acY hj)] at e2;obtain⟨u',r',q⟩:=hl j y v' e1 e2 e3;refine⟨u',r',?_⟩;rcases q with ⟨k,e⟩|⟨k,c,e,z⟩
    .refine .inl ⟨k,?_⟩;have:y≠x:=λe=>hj (yt hN e1 (e ▸ hi));simp[this,e]
    .exact .inr ⟨k,c,e,z.sameBut hs (jC y c e)⟩
  .obtain⟨w',z⟩:=I.cell y c e;exact⟨w',z.sameBut hs (jC y c e)⟩
  .obtain⟨e,n,ne,nf,d⟩:=I.pin p hp;exact⟨(hs.2 p.1 ne).trans e,n,ne,nf,d⟩
 .have yw:X.fn x=true:=by
   rcases hf with z|z
   .exact z
   .rw[z] at hk;cases hk
  obtain⟨c,hc⟩:=I.ok.has x (.inl hk);obtain⟨w',z⟩:=I.cell x c hc;refine wpAny_storeName_cell I.ok.kind hk hc z (λh' lh hs=>?_);obtain⟨oc,hoc,hocd⟩:=id z;refine h { s with heap:=h' } ⟨I.ok,I.os,I.bare,⟨λb o e n hb hx=>?_,λb o e n hb hx=>?_,I.base.free,λb o e hx=>?_,I.base.fY,I.base.fu,I.base.fZ⟩,⟨m,hn.sameBut hs (acY (jC x c hc)),λj y v' e1 e2 e3=>?_⟩,λy c' e=>?_,I.free,I.gb,λp hp=>?_,tracked ⟨oc,hoc,I.gb x c hc⟩ hs,by simpa using I.len⟩ ⟨c,hs,.inr hc⟩
  .exact (hs.2 b (acf (acg (abZ e) (I.ok.cab x c yw hc)))).trans (I.base.keep b o e n hb hx)
  .obtain⟨sl,e1⟩:=I.base.slot b o e n hb hx;exact⟨sl,(hs.2 b (acf (acg (abZ e) (I.ok.cab x c yw hc)))).trans e1⟩
  .obtain⟨o',e1⟩:=I.base.there b o e hx;exact⟨o',(hs.2 b (acf (acg (abZ e) (I.ok.cab x c yw hc)))).trans e1⟩
  .by_cases hj:j=i
   .subst hj;rw[hi] at e1;cases e1;rw[afp DL] at e2;cases e2;exact⟨u,r,.inr ⟨.inl hk,c,hc,lh⟩⟩
   .rw[afY (acY hj)] at e2;obtain⟨u',r',q⟩:=hl j y v' e1 e2 e3;refine⟨u',r',?_⟩;rcases q with q|⟨k,c',e,z'⟩
    .exact .inl q
    .refine .inr ⟨k,c',e,z'.sameBut hs ?_⟩;rintro rfl;exact hj (yt hN e1 (I.ok.inj _ _ _ e hc ▸ hi))
  .by_cases vc:c'=c
   .subst vc;exact⟨_,lh⟩
   .obtain⟨w2,z2⟩:=I.cell y c' e;exact⟨w2,z2.sameBut hs vc⟩
  .obtain⟨e,n,ne,nf,d⟩:=I.pin p hp;refine⟨(hs.2 p.1 ?_).trans e,n,ne,nf,d⟩;intro q;rw[q,hoc] at e;have q':oc=p.2:=Option.some.inj e;exact d w' (by rw[<- q'];exact hocd)
theorem yx(I:Inv X pins σ H s)(hN:X.N.Nodup)(hi:X.N[i]?=some x)(hx:Loc X.env.scope x)(r:RelV v u)(h:∀ s',Inv X pins (σ.set i (some v)) H s'->Q () s')(hf:X.fn x=true∨X.env.scope.names.lookup x=some .local:=by first|exact .inl rfl|exact .inr rfl|assumption):ack M A (storeName X.env x u) Q E s :=
 MU I hN hi hx r (λs' I' y=>h s' I') hf
theorem Inv.yy(I:Inv X pins σ H s)(ho:s'.os=s.os)(u:Un (bc X.stack) ch H H' s.heap s'.heap)(az:b7 X.prog X.w H' s'.heap)(hg:ahy s'.gens)(ko:∀ b∈ch,(b∈X.ex∨X.s₀.heap.objs.size<=b)/\b≠X.env.locals/\(∀ x c,X.env.cells.lookup x=some c->c≠b)/\∀ p∈X.pn++pins,p.1≠b):Inv X pins σ H' s':=by obtain⟨h',g',d',t',o'⟩:=s';have e:o'=s.os:=ho;subst e;exact I.call (g':=g') (t':=t') (d':=d') u az hg ko
end
abbrev XK:=ab1->Option ab6->Hp->Prop
abbrev St:=List (Option V)
abbrev VK:=V->Hp->Prop
abbrev TE:=St->Hp->VK->Prop
abbrev TT:=St->Hp->(Bool->Hp->Prop)->Prop
abbrev TA:=St->Hp->(List V->Hp->Prop)->Prop
structure Ends where
 nx:St->Hp->Prop
 rt:VK
 bk:St->Hp->Prop:=λ_ _=>False
 ct:St->Hp->Prop:=λ_ _=>False
abbrev TS:=Ends->St->Hp->Prop
def EP(X:Cx)(pins:List (ab6 × Obj))(σ:St)(Q:VK)(u:ab1)(s':ab9):Prop:=∃ v H',Inv X pins σ H' s'/\RelV v u/\Q v H'
def TP(X:Cx)(pins:List (ab6 × Obj))(σ:St)(Q:Bool->Hp->Prop)(b:Bool)(s':ab9):Prop:=∃ H',Inv X pins σ H' s'/\Q b H'
def AP(X:Cx)(pins:List (ab6 × Obj))(σ:St)(Q:List V->Hp->Prop)(us:List ab1)(s':ab9):Prop:=∃ vs H',Inv X pins σ H' s'/\Vals vs us/\Q vs H'
def SP(X:Cx)(pins:List (ab6 × Obj))(D:Ends)(f:Flow)(s':ab9):Prop :=
 match f with
 | .next=>∃ σ' H',Inv X pins σ' H' s'/\D.nx σ' H'
 | .brk=>∃ σ' H',Inv X pins σ' H' s'/\D.bk σ' H'
 | .cont=>∃ σ' H',Inv X pins σ' H' s'/\D.ct σ' H'
 | .ret u=>∃ v σ' H',Inv X pins σ' H' s'/\RelV v u/\D.rt v H'
def PE(X:Cx)(e:afS)(t:TE):Prop :=
 ∀ (pins:List (ab6 × Obj)) (s:ab9) (σ:St) (H:Hp) (Q:VK),Inv X pins σ H s->t σ H Q->ack (model X.prog X.w) X.A (eval e X.env) (EP X pins σ Q) X.xe s
def PT(X:Cx)(e:afS)(t:TT):Prop :=
 ∀ (pins:List (ab6 × Obj)) (s:ab9) (σ:St) (H:Hp) (Q:Bool->Hp->Prop),Inv X pins σ H s->t σ H Q->ack (model X.prog X.w) X.A (aj8 e X.env (eval e X.env)) (TP X pins σ Q) X.xe s
def PW(X:Cx)(e:afS)(t:TT):Prop :=
 ∀ (whole:Sem ab1) (pins:List (ab6 × Obj)) (s:ab9) (σ:St) (H:Hp) (Q:Bool->Hp->Prop),Inv X pins σ H s->t σ H Q->ack (model X.prog X.w) X.A (aj8 e X.env whole) (TP X pins σ Q) X.xe s
theorem PW.pt(h:PW X e t):PT X e t:=h _
def PA(X:Cx)(es:List afS)(t:TA):Prop :=
 ∀ (pos:Pos) (pins:List (ab6 × Obj)) (s:ab9) (σ:St) (H:Hp) (Q:List V->Hp->Prop),Inv X pins σ H s->t σ H Q->ack (model X.prog X.w) X.A (spliced (adF pos (acm es X.env))) (AP X pins σ Q) X.xe s
def PS(X:Cx)(st:ag3)(t:TS):Prop :=
 ∀ (pins:List (ab6 × Obj)) (s:ab9) (σ:St) (H:Hp) (D:Ends),Inv X pins σ H s->t D σ H->ack (model X.prog X.w) X.A (exec st X.env) (SP X pins D) X.xe s
def aR(X:Cx)(st:List ag3)(t:TS):Prop :=
 ∀ (pins:List (ab6 × Obj)) (s:ab9) (σ:St) (H:Hp) (D:Ends),Inv X pins σ H s->t D σ H->ack (model X.prog X.w) X.A (execs st X.env) (SP X pins D) X.xe s
theorem aE(h:ack M A t Q E s)(hQ:∀ a s,Q a s->Q' a s):ack M A t Q' E s:=ada h hQ λy y x=>x
section
variable{X:Cx}
def yz(i:Nat):TE:=λσ H Q=>∃ v,σ[i]?=some (some v)/\Q v H
def tC(v:V):TE:=λy H Q=>Q v H
theorem MV(hN:X.N[i]?=some x)(hv:uZ X.env.scope x)(hd:(x == ("__debug__" : Str))=false:=by decide)(gA:(x == ("__classdict__" : Str))=false:=by decide):PE X (.Name x pos) (yz i):=by
 intro pins s σ H Q I h;obtain⟨v,e,h⟩:=h;obtain⟨m,hn,hl⟩:=I.loc;obtain⟨u,r,l⟩:=hl i x v hN e hv;have fin:EP X pins σ Q u s:=⟨v,H,I,r,h⟩
 rcases l with ⟨hk,hm⟩|⟨hk,c,hc,hcell⟩
 .exact ajK (wpAny_loadName_local I.ok.kind hk hn hm fin) hd
 .rcases hk with hk|hk
  .exact ajK (wpAny_loadName_cell I.ok.kind hk hc hcell fin) hd
  .exact ajK (wpAny_loadName_free I.ok.kind hk hc hcell fin gA) hd
theorem af:PE X (.Constant (.int i) j pos) (tC (.int i)):=λy y y H y I h=>wpAny_Constant_int ⟨.int i,H,I.tok _,⟨_,rfl⟩,h⟩
theorem cM:PE X (.Constant (.bool b) j pos) (tC (.bl b)):=λy y y H y I h=>Constant_bool ⟨.bl b,H,I,rfl,h⟩
theorem bG:PE X (.Constant .none j pos) (tC .non):=λy y y H y I h=>aio ⟨.non,H,I,rfl,h⟩
theorem aQ:PE X (.Constant (.str x) j pos) (tC (.str x)):=λy y y H y I h=>Calls.Constant_str ⟨.str x,H,I.tok _,⟨_,rfl⟩,h⟩
def Gl(X:Cx)(x:Str):Prop:=X.env.kindOf x=some .globalImplicit
theorem rG(I:Inv X pins σ H s)(hg:Gl X x)(hm:X.mg x=some u)(h:Q u s)(hd:(x == ("__debug__" : Str))=false:=by decide):ack (model X.prog X.w) X.A (eval (.Name x pos) X.env) Q E s :=
 agm I.ok.kind hg (Calls.loadGlobal_global (by rw[I.ok.glob];exact I.mod.glob.keeps I.bk) hm h) hd
theorem gd(I:Inv X pins σ H s)(hg:Gl X x)(hm:X.mg x=none)(hv:acJ x=some u)(h:Q u s)(hn:x ≠ "__name__" := by decide)(hd:(x == ("__debug__" : Str))=false:=by decide):ack (model X.prog X.w) X.A (eval (.Name x pos) X.env) Q E s:=by obtain⟨mb,h1,h2⟩:=I.mod.blt;exact agm I.ok.kind hg (Calls.loadGlobal_builtin (by rw[I.ok.glob];exact I.mod.glob.keeps I.bk) hm (by rw[I.ok.blt];exact h1.keeps I.bk) ((h2 x hn).trans hv) h) hd
theorem pE(hg:Gl X x)(hm:X.mg x=some u)(r:RelV v u)(hd:(x == ("__debug__" : Str))=false:=by decide):PE X (.Name x pos) (tC v) :=
 λy y y H y I h=>rG I hg hm ⟨v,H,I,r,h⟩ hd
theorem lj(hg:Gl X x)(hm:X.mg x=none)(hv:acJ x=some u)(r:RelV v u)(hn:x ≠ "__name__" := by decide)(hd:(x == ("__debug__" : Str))=false:=by decide):PE X (.Name x pos) (tC v) :=
 λy y y H y I h=>gd I hg hm hv ⟨v,H,I,r,h⟩ hn hd
variable{a b:afS}{ta tb:TE}{pos:Pos}
def PC(X:Cx)(op:CmpOp)(a b:afS)(t:TE):Prop :=
 ∀ (pins:List (ab6 × Obj)) (s:ab9) (σ:St) (H:Hp) (Q:VK),Inv X pins σ H s->t σ H Q ->
  ack (model X.prog X.w) X.A (eval a X.env) (λv s₁=>ack (model X.prog X.w) X.A (eval b X.env) (λu s₂=>ack (model X.prog X.w) X.A (acX op v u) (EP X pins σ Q) X.xe s₂) X.xe s₁) X.xe s
theorem DN(b:afS)(h:op ≠ .In)(h2:op ≠ .NotIn):ad9 op b=false:=by
 have e1:(op == CmpOp.In)=false:=by cases op<;>first|rfl|exact absurd rfl h
 have e2:(op == CmpOp.NotIn)=false:=by cases op<;>first|rfl|exact absurd rfl h2
 cases b<;>simp[ad9,e1,e2]
def DO(ta:TE):TE:=λσ H Q=>ta σ H λx H1=>Q (.bl (decide (x = .non))) H1
def DP(ta:TE):TE:=λσ H Q=>ta σ H λx H1=>Q (.bl (!decide (x = .non))) H1
theorem RelV.DQ(r:RelV x v):(v == Value.none)=decide (x = .non):=by
 cases x with
 | non=>cases r;rfl
 | bl _=>cases r;rfl
 | int _=>obtain⟨t,rfl⟩:=r;rfl
 | str _=>obtain⟨t,rfl⟩:=r;rfl
 | byt _=>obtain⟨t,rfl⟩:=r;rfl
 | flt _=>obtain⟨t,rfl⟩:=r;rfl
 | ref _=>cases r;rfl
 | ty _=>cases r;rfl
theorem rH(ha:PE X a ta):PC X .Is a (.Constant .none j pos') (DO ta):=by intro pins s σ H Q I h;refine aE (ha pins s σ H _ I h) λv s1 zq=>?_;obtain⟨x,H1,I1,r1,q1⟩:=zq;exact aio (is_none_gen ⟨.bl _,H1,I1,by rw[r1.DQ];rfl,q1⟩)
theorem rJ(ha:PE X a ta):PC X .IsNot a (.Constant .none j pos') (DP ta):=by intro pins s σ H Q I h;refine aE (ha pins s σ H _ I h) λv s1 zq=>?_;obtain⟨x,H1,I1,r1,q1⟩:=zq;exact aio (isnot_none_gen ⟨.bl _,H1,I1,by rw[r1.DQ];rfl,q1⟩)
def tB(t:TE):TT:=λσ H Q=>t σ H λx H1=>∃ c,x = .bl c/\Q c H1
theorem mv(h:PC X op a b t)(h1:ad9 op b=false:=by first|exact DN _ (by decide) (by decide)|rfl):PE X (.Compare a [op] [b] pos) t:=λpins s σ H Q I hw=>wpAny_Compare1 (h pins s σ H Q I hw) h1
theorem rK(h:PC X op a b t)(h1:ad9 op b=false:=by first|exact DN _ (by decide) (by decide)|rfl):PT X (.Compare a [op] [b] pos) (tB t):=by intro pins s σ H Q I hw;refine ahz (aE (h pins s σ H _ I hw) λv s1 h1=>aE h1 λu s2 h2=>aE h2 λc s3 zq=>?_) h1;obtain⟨x,H1,I1,r1,q1⟩:=zq;obtain⟨d,rfl,q⟩:=q1;cases r1;exact acL ⟨H1,I1,q⟩
theorem MW(h:PE X e t)(he:∀ whole,aj8 e X.env whole=(do let v <- whole;aiE e.pos;holding [v] (truthy v)):=by intro y;rfl):PT X e (tB t):=by intro pins s σ H Q I hw;refine isTrue_plain (aE (h pins s σ H _ I hw) λv s1 zq=>?_) (he _);obtain⟨x,H1,I1,r1,q1⟩:=zq;obtain⟨d,rfl,q⟩:=q1;cases r1;exact acL ⟨H1,I1,q⟩
variable{tA vd:TT}{rest:List afS}
def DR(t u:TT):TT:=λσ H Q=>t σ H λc H1=>if c=true then u σ H1 Q else Q false H1
def DS(t u:TT):TT:=λσ H Q=>t σ H λc H1=>if c=true then Q true H1 else u σ H1 Q
def DT(t:TT):TT:=λσ H Q=>t σ H λc H1=>Q (!c) H1
theorem jE(ha:PT X a tA):PW X (.BoolOp .And [a] pos) tA:=by
 intro wh pins s σ H Q I h;refine isTrue_and (aE (ha pins s σ H Q I h) λc s1 e=>?_);cases c with
 | true=>exact isTrue_and_nil e
 | false=>exact e
theorem eS(ha:PT X a tA):PW X (.BoolOp .Or [a] pos) tA:=by
 intro wh pins s σ H Q I h;refine isTrue_or (aE (ha pins s σ H Q I h) λc s1 e=>?_);cases c with
 | false=>exact isTrue_or_nil e
 | true=>exact e
theorem iW(ha:PT X a tA)(hb:PW X (.BoolOp .And (b::rest) pos) vd):PW X (.BoolOp .And (a::b::rest) pos) (DR tA vd):=by
 intro wh pins s σ H Q I h;refine isTrue_and (aE (ha pins s σ H _ I h) λc s1 zq=>?_);obtain⟨H1,I1,q1⟩:=zq;cases c with
 | true=>exact hb wh pins s1 σ H1 Q I1 q1
 | false=>exact⟨H1,I1,q1⟩
theorem cD(ha:PT X a tA)(hb:PW X (.BoolOp .Or (b::rest) pos) vd):PW X (.BoolOp .Or (a::b::rest) pos) (DS tA vd):=by
 intro wh pins s σ H Q I h;refine isTrue_or (aE (ha pins s σ H _ I h) λc s1 zq=>?_);obtain⟨H1,I1,q1⟩:=zq;cases c with
 | true=>exact⟨H1,I1,q1⟩
 | false=>exact hb wh pins s1 σ H1 Q I1 q1
theorem bZ(ha:PT X a tA):PT X (.UnaryOp .Not a pos) (DT tA):=by intro pins s σ H Q I h;exact isTrue_not (ha pins s σ H (λc H1=>Q (!c) H1) I h)
def DU(ta tb:TE):TE:=λσ H Q=>ta σ H λx H1=>∃ c,x = .bl c/\if c=true then tb σ H1 Q else Q (.bl false) H1
def DV(ta tb:TE):TE:=λσ H Q=>ta σ H λx H1=>∃ c,x = .bl c/\if c=true then Q (.bl true) H1 else tb σ H1 Q
def DW(ta:TE):TE:=λσ H Q=>ta σ H λx H1=>∃ c,x = .bl c/\Q (.bl (!c)) H1
theorem ff(h:PE X a t):PE X (.BoolOp op [a] pos) t:=λpins s σ H Q I hw=>BoolOp_one (h pins s σ H Q I hw)
theorem MX(ha:PE X a ta)(hb:PE X (.BoolOp .And (b::rest) pos) tb):PE X (.BoolOp .And (a::b::rest) pos) (DU ta tb):=by
 intro pins s σ H Q I h;refine BoolOp_and (aE (ha pins s σ H _ I h) λv s1 zq=>?_);obtain⟨x,H1,I1,r1,q1⟩:=zq;obtain⟨c,rfl,q1⟩:=q1;cases r1;refine acL ?_;cases c with
 | true=>exact hb pins s1 σ H1 Q I1 q1
 | false=>exact⟨.bl false,H1,I1,rfl,q1⟩
theorem MY(ha:PE X a ta)(hb:PE X (.BoolOp .Or (b::rest) pos) tb):PE X (.BoolOp .Or (a::b::rest) pos) (DV ta tb):=by
 intro pins s σ H Q I h;refine BoolOp_or (aE (ha pins s σ H _ I h) λv s1 zq=>?_);obtain⟨x,H1,I1,r1,q1⟩:=zq;obtain⟨c,rfl,q1⟩:=q1;cases r1;refine acL ?_;cases c with
 | false=>exact hb pins s1 σ H1 Q I1 q1
 | true=>exact⟨.bl true,H1,I1,rfl,q1⟩
theorem MZ(ha:PE X a ta):PE X (.UnaryOp .Not a pos) (DW ta):=by intro pins s σ H Q I h;refine UnaryOp_ (aE (ha pins s σ H _ I h) λv s1 zq=>?_);obtain⟨x,H1,I1,r1,q1⟩:=zq;obtain⟨c,rfl,q1⟩:=q1;cases r1;exact not_of (acL ⟨.bl (!c),H1,I1,rfl,q1⟩)
def DX(t:TT)(ta tb:TE):TE:=λσ H Q=>t σ H λc H1=>if c=true then ta σ H1 Q else tb σ H1 Q
theorem mw(hc:PT X c tA)(ha:PE X a ta)(hb:PE X b tb):PE X (.IfExp c a b pos) (DX tA ta tb):=by
 intro pins s σ H Q I h;refine wpAny_IfExp (aE (hc pins s σ H _ I h) λd s1 zq=>?_);obtain⟨H1,I1,q1⟩:=zq;cases d with
 | true=>exact ha pins s1 σ H1 Q I1 q1
 | false=>exact hb pins s1 σ H1 Q I1 q1
end
def ai(K:abU)(H:Hp)(a:ab6)(xs:List V):Prop :=
 Rd H a (.lst xs) ∨
  ∃ (o:Obj) (aw:Array ab1) (n:Nat),K.lookup a=some o/\o.cls = .type "list" /\ o.dict=none/\o.data = .seq aw n/\aw.size<=aco/\Vals xs aw.toList
def aj(K:abU)(H:Hp)(a:ab6)(xs:List V):Prop :=
 Rd H a (.tup xs) ∨
  ∃ (o:Obj) (aw:Array ab1) (n:Nat),K.lookup a=some o/\o.cls = .type "tuple" /\ o.data = .seq aw n/\aw.size<=aco/\Vals xs aw.toList
noncomputable def M0:ab1->Option V
 | .none=>some .non
 | .bool b=>some (.bl b)
 | .int i _=>some (.int i)
 | .str x _=>some (.str x)
 | .bytes b _=>some (.byt b)
 | .float b _=>some (.flt b)
 | .ref a=>some (.ref a)
 | .type n=>some (.ty n)
 | _=>none
theorem RelV.abs(r:RelV x u):M0 u=some x:=by
 cases x with
 | non=>cases r;rfl
 | bl _=>cases r;rfl
 | int _=>obtain⟨t,rfl⟩:=r;rfl
 | str _=>obtain⟨t,rfl⟩:=r;rfl
 | byt _=>obtain⟨t,rfl⟩:=r;rfl
 | flt _=>obtain⟨t,rfl⟩:=r;rfl
 | ref _=>cases r;rfl
 | ty _=>cases r;rfl
theorem RelV.inj(r:RelV x u)(q:RelV y u):x=y:=Option.some.inj (r.abs.symm.trans q.abs)
theorem Vals.inj:∀ {xs ys:List V} {us:List ab1},Vals xs us->Vals ys us->xs=ys:=by
 intro xs ys us h h'
 induction h generalizing ys with
 | nil=>cases h';rfl
 | cons r t ih =>
  cases h' with
  | cons r' t'=>rw[r.inj r',ih t']
section
theorem ai.of{K:abU}(h:H a=some (.lst xs)):ai K H a xs:=.inl (.inl h)
theorem aj.of{K:abU}(h:H a=some (.tup xs)):aj K H a xs:=.inl (.inl h)
theorem Inv.list(I:Inv X pins σ H s)(h:ai X.K H a xs):∃ aw:List ab1,Vals xs aw/\PlainL s.heap a aw.toArray/\xs.length<=aco:=by
 rcases h with h|⟨o,aw,n,hk,hc,hd,hs,hz,r⟩
 .obtain⟨z,aw,n,r,e⟩:=h.ok I.az;exact⟨aw,r,⟨_,n,e,rfl,rfl,rfl⟩,z⟩
 .refine⟨aw.toList,r,⟨o,n,I.cz a o hk,hc,hd,by simpa using hs⟩,?_⟩;have e:=r.length;simp only[aes] at e;omega
theorem Inv.tuple(I:Inv X pins σ H s)(h:aj X.K H a xs):∃ aw:List ab1,Vals xs aw/\IsTup s.heap a aw.toArray/\xs.length<=aco:=by
 rcases h with h|⟨o,aw,n,hk,hc,hs,hz,r⟩
 .obtain⟨z,aw,r,p⟩:=h.ok I.az;exact⟨aw,r,p,z⟩
 .refine⟨aw.toList,r,⟨o,I.cz a o hk,hc,n,by simpa using hs⟩,?_⟩;have e:=r.length;simp only[aes] at e;omega
theorem Inv.rL(I:Inv X pins σ H s)(h:ai X.K H a xs)(h':ai X.K H a ys):xs=ys:=by
 obtain⟨aw,r,⟨o,n,e,y,y,d⟩,y⟩:=I.list h;obtain⟨its',r',⟨o',n',e',y,y,d'⟩,y⟩:=I.list h';rw[e] at e';cases e';rw[d] at d';injection d' with d1 _;have:aw=its':=by simpa using congrArg aiX d1
 subst this;exact r.inj r'
theorem Inv.M4(I:Inv X pins σ H s)(h:aj X.K H a xs)(h':aj X.K H a ys):xs=ys:=by
 obtain⟨aw,r,⟨o,e,y,n,d⟩,y⟩:=I.tuple h;obtain⟨its',r',⟨o',e',y,n',d'⟩,y⟩:=I.tuple h';rw[e] at e';cases e';rw[d] at d';injection d' with d1 _;have:aw=its':=by simpa using congrArg aiX d1
 subst this;exact r.inj r'
end
noncomputable abbrev Cx.ku(X:Cx)(E:ab1->ab9->Prop):Cx:={ X with xe:=E }
noncomputable abbrev Cx.pF(X:Cx):Cx:=X.ku λy y=>False
theorem Cx.Ok.ku{X:Cx}(ok:X.Ok)(E:ab1->ab9->Prop):(X.ku E).Ok :=
 ⟨ok.mod,ok.kind,ok.glob,ok.blt,ok.above,ok.inj,ok.has,ok.cab,ok.hd,ok.frames,ok.stk,ok.exf,ok.bs,ok.bsz,ok.noex,ok.exfs,ok.gy,ok.frf⟩
theorem Cx.Ok.mx{X:Cx}{E:ab1->ab9->Prop}(ok:(X.ku E).Ok):X.Ok :=
 ⟨ok.mod,ok.kind,ok.glob,ok.blt,ok.above,ok.inj,ok.has,ok.cab,ok.hd,ok.frames,ok.stk,ok.exf,ok.bs,ok.bsz,ok.noex,ok.exfs,ok.gy,ok.frf⟩
section
theorem Inv.ku(I:Inv X pins σ H s)(E:ab1->ab9->Prop):Inv (X.ku E) pins σ H s:=⟨I.ok.ku E,I.os,I.bare,I.base,I.loc,I.cell,I.free,I.gb,I.pin,I.az,I.len⟩
theorem Inv.mx(I:Inv (X.ku E) pins σ H s):Inv X pins σ H s:=⟨I.ok.mx,I.os,I.bare,I.base,I.loc,I.cell,I.free,I.gb,I.pin,I.az,I.len⟩
theorem SP.mx(h:SP (X.ku E) pins D f s'):SP X pins D f s':=by
 cases f with
 | next=>obtain⟨σ',H',I,q⟩:=h;exact⟨σ',H',I.mx,q⟩
 | brk=>obtain⟨σ',H',I,q⟩:=h;exact⟨σ',H',I.mx,q⟩
 | cont=>obtain⟨σ',H',I,q⟩:=h;exact⟨σ',H',I.mx,q⟩
 | ret u=>obtain⟨v,σ',H',I,r,q⟩:=h;exact⟨v,σ',H',I.mx,r,q⟩
theorem aR.pF{st:List ag3}{t:TS}(h:aR X.pF st t):aR X st t:=λpins s σ H D I hw =>
 ada (h pins s σ H D (I.ku _) hw) (λy y q=>q.mx) λy y z=>ad6 z
end
section
variable{X:Cx}{st:ag3}{rest:List ag3}{t u:TS}{e:afS}{te:TE}{pos:Pos}
def DY:TS:=λD σ H=>D.nx σ H
def ve(t u:TS):TS:=λD σ H=>t { D with nx:=u D } σ H
theorem aG:aR X [] DY:=λy y σ H y I h=>af4 ⟨σ,H,I,h⟩
theorem ar(h1:PS X st t)(h2:aR X rest u):aR X (st::rest) (ve t u):=by
 intro pins s σ H D I h;refine ai4 (aE (h1 pins s σ H { D with nx:=u D } I h) λf s1 q=>?_);cases f with
 | next =>
  obtain⟨σ',H',I',q⟩:=q;exact h2 pins s1 σ' H' D I' q
 | ret v=>exact q
 | brk=>exact q
 | cont=>exact q
theorem au(h1:PS X st t):aR X [st] t:=by
 intro pins s σ H D I h;refine ai4 (aE (h1 pins s σ H D I h) λf s1 q=>?_);cases f with
 | next=>exact af4 q
 | ret v=>exact q
 | brk=>exact q
 | cont=>exact q
theorem Inv.quiet(I:Inv X pins σ H s):interactive X.env=false:=by simp[interactive,I.ok.kind]
def DZ(te:TE):TS:=λD σ H=>te σ H λy H1=>D.nx σ H1
theorem dm(he:PE X e te)(hs:afH e none pos.line X.env=pure false:=by rfl):PS X (.Expr e pos) (DZ te):=by intro pins s σ H D I h;exact wpAny_Expr_any (aE (he pins s σ H _ I h) λv s1 ⟨x,H1,I1,r1,q1⟩=>⟨σ,H1,I1,q1⟩) I.quiet hs
def D0(te:TE):TS:=λD σ H=>te σ H D.rt
theorem aA(he:PE X e te):PS X (.Return (some e) pos) (D0 te):=by intro pins s σ H D I h;exact wpAny_Return_some (aE (he pins s σ H _ I h) λv s1 ⟨x,H1,I1,r1,q1⟩=>⟨x,σ,H1,I1,r1,q1⟩)
def rM(c:TT)(t u:TS):TS:=λD σ H=>c σ H λb H1=>if b=true then t D σ H1 else u D σ H1
theorem aH(hc:PT X c tc)(ha:aR X a t)(hb:aR X b u):PS X (.If c a b pos) (rM tc t u):=by
 intro pins s σ H D I h;refine wpAny_If (aE (hc pins s σ H _ I h) λd s1 zq=>?_);obtain⟨H1,I1,q1⟩:=zq;cases d with
 | true=>exact ha pins s1 σ H1 D I1 q1
 | false=>exact hb pins s1 σ H1 D I1 q1
end
abbrev TG:=V->St->Hp->(St->Hp->Prop)->Prop
abbrev rN:=List V->St->Hp->(St->Hp->Prop)->Prop
def PG(X:Cx)(target:afS)(t:TG):Prop :=
 ∀ (pins:List (ab6 × Obj)) (s:ab9) (σ:St) (H:Hp) (v:V) (u:ab1) (Q:St->Hp->Prop),Inv X pins σ H s->RelV v u->t v σ H Q ->
  ack (model X.prog X.w) X.A (assign target X.env u) (λy s'=>∃ σ' H',Inv X pins σ' H' s'/\Q σ' H') X.xe s
def vf(X:Cx)(ts:List afS)(t:rN):Prop :=
 ∀ (pins:List (ab6 × Obj)) (s:ab9) (σ:St) (H:Hp) (vs:List V) (us:List ab1) (Q:St->Hp->Prop),Inv X pins σ H s->Vals vs us->t vs σ H Q ->
  ack (model X.prog X.w) X.A (assignInOrder ((agJ ts X.env).map (·.2)) us) (λy s'=>∃ σ' H',Inv X pins σ' H' s'/\Q σ' H') X.xe s
abbrev D1:=V->V->V->Hp->(Hp->Prop)->Prop
def D2(X:Cx)(t:D1):Prop :=
 ∀ (pins:List (ab6 × Obj)) (s:ab9) (σ:St) (H:Hp) (o i v:V) (ov iv u:ab1) (Q:Hp->Prop),Inv X pins σ H s->RelV o ov->RelV i iv->RelV v u->t o i v H Q ->
  ack (model X.prog X.w) X.A (setItem ov iv u) (λy s'=>∃ H',Inv X pins σ H' s'/\Q H') X.xe s
section
def cA(i:Nat):TG:=λv σ H Q=>Q (σ.set i (some v)) H
theorem gB(hN:X.N.Nodup)(hi:X.N[i]?=some x)(hx:Loc X.env.scope x)(hf:X.fn x=true∨X.env.scope.names.lookup x=some .local:=by first|exact .inl rfl|exact .inr rfl|assumption):PG X (.Name x pos) (cA i):=by intro pins s σ H v u Q I r h;exact wpAny_assign_Name (yx I hN hi hx r (λs' I'=>⟨_,H,I',h⟩) hf)
def jF:rN:=λvs σ H Q=>vs=[]/\Q σ H
def cX(t:TG)(u:rN):rN:=λvs σ H Q=>∃ v r,vs=v::r/\t v σ H λσ' H'=>u r σ' H' Q
theorem kx:vf X [] jF:=by intro pins s σ H vs us Q I r h;obtain⟨e,h⟩:=h;subst e;cases r;exact assignInOrder_nil ⟨σ,H,I,h⟩
theorem dI(h1:PG X e t)(h2:vf X es u)(hs:(agJ (e::es) X.env).map (·.2)=assign e X.env::(agJ es X.env).map (·.2):=by rfl):vf X (e::es) (cX t u):=by
 intro pins s σ H vs us Q I r h;obtain⟨v,vr,e1,h⟩:=h;subst e1;cases r with
 | cons r rr =>
  rw[hs];refine assignInOrder_cons (aE (h1 pins s σ H _ _ _ I r h) λy s1 zq=>?_);obtain⟨σ1,H1,I1,q1⟩:=zq;exact h2 pins s1 σ1 H1 _ _ Q I1 rr q1
def ky(K:abU)(n:Nat)(t:rN):TG:=λv σ H Q=>∃ a xs,v = .ref a/\aj K H a xs/\xs.length=n/\t xs σ H Q
theorem kz(hc:X.calm=true)(h:vf X es t)(hn:(agJ es X.env).length=n:=by rfl)(cT:(agJ es X.env).findIdx? (·.1)=none:=by rfl):PG X (.Tuple es k pos) (ky X.K n t):=by intro pins s σ H v u Q I r hw;obtain⟨a,xs,e1,hq,hl,hw⟩:=hw;subst e1;cases r;obtain⟨aw,rv,ht,hz⟩:=I.tuple hq;refine assign_Tuple_tuple (I.ok.hd hc) ht (by simp[hn,<- hl,rv.length]) cT λh' hx=>?_;have I1:Inv X pins σ H { s with heap:=h' }:=I.kept (t':=s.toks) λb o e=>hx b o (acf (abZ e)) e;exact h pins _ σ H xs _ Q I1 (by simpa using rv) hw
def D4(to ti:TE)(t:D1):TG:=λv σ H Q=>to σ H λo H1=>ti σ H1 λi H2=>t o i v H2 λH3=>Q σ H3
theorem yA(ho:PE X o to)(hi:PE X i ti)(hs:D2 X t)(ha:∀ v,assign (.Subscript o i pos) X.env v=(do
 let ov <- holding [v] (eval o X.env);let iv <- holding [v,ov] (eval i X.env)
 aiE pos
 holding [v,ov,iv] (setItem ov iv v)
 release [v,ov,iv] []):=by intro z;rfl):PG X (.Subscript o i pos) (D4 to ti t):=by
 intro pins s σ H v u Q I r h;rw[ha];refine abS (adk (aE (ho pins s σ H _ I h) λov s1 zq=>?_));obtain⟨x,H1,I1,r1,q1⟩:=zq;refine abS (adk (aE (hi pins s1 σ H1 _ I1 q1) λiv s2 zq=>?_));obtain⟨y,H2,I2,r2,q2⟩:=zq;refine abS (aip (abS (adk (aE (hs pins s2 σ H2 x y v ov iv u _ I2 r1 r2 r q2) λz s3 zq=>?_))));obtain⟨H3,I3,q3⟩:=zq;exact wpAny_release ⟨σ,H3,I3,q3⟩
def vg(te:TE)(g:TG):TS:=λD σ H=>te σ H λx H1=>g x σ H1 D.nx
theorem yB(he:PE X e te)(hg:PG X tg g)(hs:swapsWithSole [tg] e pos.line X.env=pure false:=by rfl)(hw:swappedStores [tg] e X.env=pure none:=by rfl)(h1:(agJ [tg] X.env).map (·.2)=[assign tg X.env]:=by rfl):PS X (.Assign [tg] e pos) (vg te g):=by intro pins s σ H D I h;refine wpAny_Assign_stores (aE (he pins s σ H _ I h) λv s1 zq=>?_) hs hw;obtain⟨x,H1,I1,r1,q1⟩:=zq;rw[h1];exact aE (hg pins s1 σ H1 x v _ I1 r1 q1) λy s2 q=>q
theorem jG(hN:X.N.Nodup)(hi:X.N[i]?=some x)(hx:Loc X.env.scope x)(he:PE X e te)(hs:afH e (some (.Name x pos')) pos.line X.env=pure false:=by rfl)(hf:X.fn x=true∨X.env.scope.names.lookup x=some .local:=by first|exact .inl rfl|exact .inr rfl|assumption) :
 PS X (.Assign [.Name x pos'] e pos) (vg te (cA i)):=by
 intro pins s σ H D I h;refine wpAny_Assign_Name (aE (he pins s σ H _ I h) λv s1 zq=>?_) hs;obtain⟨y,H1,I1,r1,q1⟩:=zq;exact yx I1 hN hi hx r1 (λs2 I2=>⟨_,H1,I2,q1⟩) hf
end
structure It where
 go:Nat->Hp->Prop
 yld:Nat->Hp->V->Hp->Prop
 stop:Nat->Hp->Prop
def eT(X:Cx)(pins:List (ab6 × Obj))(H:Hp)(b:ab6):Prop :=
 H b=none/\b≠X.env.locals/\b∉X.fs/\(b∈X.ex∨X.s₀.heap.objs.size<=b)/\(∀ x c,X.env.cells.lookup x=some c->c≠b)/\∀ p∈X.pn++pins,p.1≠b
theorem Inv.iX(I:Inv X pins σ H s)(hb:s.heap.objs.size<=b)(hn:H' b=none):eT X pins H' b:=by
 refine⟨hn,ac6 (acg I.lt hb),I.DJ hb,.inr (ab3 I.sz hb),λx c e z=>?_,λp hp z=>?_⟩
 .obtain⟨v,q⟩:=I.cell x c e;exact absurd (acg q.lt (by rw[z];exact hb)) (ads _)
 .exact absurd (acg (abZ (I.pin p hp).1) (by rw[z];exact hb)) (ads _)
structure Turn(P:acK)(w:ado)(K:abU)(tg:afS)(J:It)(fp:List ab6)(it:ab6)(tn:Nat->aek->Prop):Prop where
 mem:it∈fp
 obj:∀ i h,tn i h->∀ b∈fp,∃ o,h.get? b=some o/\∀ v,o.data ≠ .cell v
 keep:∀ i h h',tn i h->(∀ b∈fp,∀ o,h.get? b=some o->h'.get? b=some o)->tn i h'
 item:∀ (X:Cx),X.prog=P->X.w=w->X.K=K->X.calm=true->∀ (i:Nat) (pins:List (ab6 × Obj)) (s:ab9) (σ:St) (H:Hp) (E:ab1->ab9->Prop),Inv X pins σ H s->(∀ b∈fp,eT X pins H b)->tn i s.heap->J.go i H ->
  ack (model P w) X.A (aeX (.ref it)) (λr s1=>∃ u,r=some u /\
   ack (model P w) X.A (af5 tg (.ref it) u) (λ_ s2=>∃ x H',Inv X pins σ H' s2/\RelV x u/\J.yld i H x H'/\tn (i+1) s2.heap/\∀ b∈fp,H' b=none) E s1) E s
 done:∀ (X:Cx),X.prog=P->X.w=w->X.K=K->X.calm=true->∀ (i:Nat) (pins:List (ab6 × Obj)) (s:ab9) (σ:St) (H:Hp) (E:ab1->ab9->Prop),Inv X pins σ H s->(∀ b∈fp,eT X pins H b)->tn i s.heap->J.stop i H ->
  ack (model P w) X.A (aeX (.ref it)) (λr s1=>r=none/\Inv X pins σ H s1) E s
 self:∀ (A:adz) (i:Nat) (s:ab9) (Q:ab1->ab9->Prop) (E:ab1->ab9->Prop),tn i s.heap->Q (.ref it) s->ack (model P w) A (aj9 (.ref it)) Q E s
abbrev TI:=St->Hp->(It->Hp->Prop)->Prop
def D5(X:Cx)(pins:List (ab6 × Obj))(σ:St)(tg:afS)(R:It->Hp->Prop)(vh:ab1)(s2:ab9):Prop :=
 ∃ (it:ab6) (fp:List ab6) (tn:Nat->aek->Prop) (J:It) (H':Hp),vh = .ref it/\Inv X pins σ H' s2/\Turn X.prog X.w X.K tg J fp it tn/\tn 0 s2.heap/\(∀ b∈fp,eT X pins H' b)/\R J H'
def PI(X:Cx)(tg iter:afS)(wi:TI):Prop :=
 ∀ (pins:List (ab6 × Obj)) (s:ab9) (σ:St) (H:Hp) (R:It->Hp->Prop),Inv X pins σ H s->wi σ H R ->
  ack (model X.prog X.w) X.A (eval iter X.env) (λv s1=>ack (model X.prog X.w) X.A (aj9 v) (D5 X pins σ tg R) X.xe s1) X.xe s
theorem pH(ho:s.heap.get? it=some o)(hc:o.cls = .type n)(hd:o.data = .fields vs)(hn:["enumerate","zip","dict_itemiterator","dict_reverseitemiterator","odict_iterator","itertools.zip_longest","itertools.pairwise"].contains n=false)(hQ:Q () s):ack M A (af5 tg (.ref it) u) Q E s:=by
 unfold af5;cases tg<;>first
  | exact abX hQ
  | (cases u<;>first
      | exact abX hQ
      | (refine abS (wpAny_load ho ?_)
         rw[hc,hd];show ack M A (if (["enumerate","zip","dict_itemiterator","dict_reverseitemiterator","odict_iterator","itertools.zip_longest","itertools.pairwise"].contains n && vs[0]? == some (afq _))=true then _ else _) Q E s;rw[if_neg (by intro h;rw[hn,afD] at h;cases h)];exact abX hQ))
noncomputable def kA(K:abU)(a:ab6):It :=
 ⟨λi H=>∃ xs x,ai K H a xs/\xs[i]?=some x,λi H x H'=>H'=H/\∀ xs,ai K H a xs->xs[i]?=some x,λi H=>∃ xs,ai K H a xs/\xs.length<=i⟩
noncomputable def rO(K:abU)(a:ab6):It :=
 ⟨λi H=>∃ xs x,aj K H a xs/\xs[i]?=some x,λi H x H'=>H'=H/\∀ xs,aj K H a xs->xs[i]?=some x,λi H=>∃ xs,aj K H a xs/\xs.length<=i⟩
noncomputable def iY(lo:Int)(n:Nat):It:=⟨λi y=>i<n,λi H x H'=>H'=H/\x = .int (lo+i),λi y=>n<=i⟩
theorem M5{P:acK}{w:ado}{K:abU}{tg:afS}(a it:ab6):Turn P w K tg (kA K a) [it] it (λi h=>h.IsListIter it a i) where
 mem:=by simp
 obj:=λi h st b hb=>by
  have e:b=it:=by simpa using hb
  subst e;obtain⟨o,e,c,d⟩:=st;exact⟨o,e,λv z=>by rw[d] at z;cases z⟩
 keep:=λi h h' st k=>st.at λo e=>k it (by simp) o e
 item:=by intro X hP hw hK hc i pins s σ H E I hf st hg;subst hP hw hK;obtain⟨xs,x,hq,hx⟩:=hg;obtain⟨aw,rv,p,hz⟩:=I.list hq;obtain⟨u,hu,ru⟩:=rv.get hx;obtain⟨f0,f1,f2,f3,f4,f5⟩:=hf it (by simp);refine wpAny_pyNext_list_item st p.isList (x:=u) (by simpa using hu) λh' c9 sb=>?_;have I1:Inv X pins σ H { s with heap:=h' }:=I.turned (t':=s.toks) (λb o hb e=>(sb.2 b hb).trans e) f0 f1 f3 f4 f5;obtain⟨o,e,c,d⟩:=id c9;exact⟨u,rfl,pH (s:={ s with heap:=h' }) e c d (by decide) ⟨x,H,I1,ru,⟨rfl,λys hy=>by rw[I.rL hy hq];exact hx⟩,c9,λb hb=>(hf b hb).1⟩⟩
 done:=by
  intro X hP hw hK hc i pins s σ H E I hf st hg;subst hP hw hK;obtain⟨xs,hq,hx⟩:=hg;obtain⟨aw,rv,p,hz⟩:=I.list hq;obtain⟨f0,f1,f2,f3,f4,f5⟩:=hf it (by simp);have hl:=rv.length;exact wpAny_pyNext_list_end (I.ok.hd hc) st p.isList (by simp;omega) λh' eb=>⟨rfl,I.turned (t':=s.toks) (λb o hb e=>eb b o hb e) f0 f1 f3 f4 f5⟩
 self:=λy y y y y st h=>wpAny_pyIter_listiter st h
theorem M6{P:acK}{w:ado}{K:abU}{tg:afS}(a it:ab6):Turn P w K tg (rO K a) [it] it (λi h=>h.IsTupleIter it a i) where
 mem:=by simp
 obj:=λi h st b hb=>by
  have e:b=it:=by simpa using hb
  subst e;obtain⟨o,e,c,d⟩:=st;exact⟨o,e,λv z=>by rw[d] at z;cases z⟩
 keep:=λi h h' st k=>st.at λo e=>k it (by simp) o e
 item:=by intro X hP hw hK hc i pins s σ H E I hf st hg;subst hP hw hK;obtain⟨xs,x,hq,hx⟩:=hg;obtain⟨aw,rv,p,hz⟩:=I.tuple hq;obtain⟨u,hu,ru⟩:=rv.get hx;obtain⟨f0,f1,f2,f3,f4,f5⟩:=hf it (by simp);refine wpAny_pyNext_tuple_item st (show s.heap.IsTuple a aw.toArray from p) (x:=u) (by simpa using hu) λh' c9 sb=>?_;have I1:Inv X pins σ H { s with heap:=h' }:=I.turned (t':=s.toks) (λb o hb e=>(sb.2 b hb).trans e) f0 f1 f3 f4 f5;obtain⟨o,e,c,d⟩:=id c9;exact⟨u,rfl,pH (s:={ s with heap:=h' }) e c d (by decide) ⟨x,H,I1,ru,⟨rfl,λys hy=>by rw[I.M4 hy hq];exact hx⟩,c9,λb hb=>(hf b hb).1⟩⟩
 done:=by
  intro X hP hw hK hc i pins s σ H E I hf st hg;subst hP hw hK;obtain⟨xs,hq,hx⟩:=hg;obtain⟨aw,rv,p,hz⟩:=I.tuple hq;obtain⟨f0,f1,f2,f3,f4,f5⟩:=hf it (by simp);have hl:=rv.length;exact wpAny_pyNext_tuple_end (I.ok.hd hc) st (show s.heap.IsTuple a aw.toArray from p) (by simp;omega) λh' eb=>⟨rfl,I.turned (t':=s.toks) (λb o hb e=>eb b o hb e) f0 f1 f3 f4 f5⟩
 self:=λy y y y y st h=>wpAny_pyIter_tupleiter st h
theorem M7{P:acK}{w:ado}{K:abU}{tg:afS}(it:ab6)(lo:Int)(n:Nat):Turn P w K tg (iY lo n) [it] it (λi h=>ah8 h it (lo+(i:Nat) * 1) ((n:Int)-(i:Nat)) 1) where
 mem:=by simp
 obj:=λi h st b hb=>by
  have e:b=it:=by simpa using hb
  subst e;exact⟨_,st,λv z=>by
   have z':Data.fields _=Data.cell v:=z;cases z'⟩
 keep:=λi h h' st k=>k it (by simp) _ st
 item:=by intro X hP hw hK hc i pins s σ H E I hf st hg;subst hP hw hK;obtain⟨f0,f1,f2,f3,f4,f5⟩:=hf it (by simp);have W:=Walks.range (prog:=X.prog) (w:=X.w) (I.ok.hd hc) it lo 1 n;refine W.item i s _ _ hg st λv h' tk hv c9 kk=>?_;obtain⟨t,rfl⟩:=hv;have I1:Inv X pins σ H { s with heap:=h',toks:=tk }:=I.turned (λb o hb e=>kk b o (by simpa using hb) e) f0 f1 f3 f4 f5;refine⟨_,rfl,pH (s:={ s with heap:=h',toks:=tk }) (n := "range_iterator") c9 rfl rfl (by decide) ⟨.int (lo+i),H,I1,⟨t,?_⟩,⟨rfl,rfl⟩,c9,λb hb=>(hf b hb).1⟩⟩;rw[Int.mul_one]
 done:=by
  intro X hP hw hK hc i pins s σ H E I hf st hg;subst hP hw hK;obtain⟨f0,f1,f2,f3,f4,f5⟩:=hf it (by simp);exact ahm (I.ok.hd hc) st (by have:n<=i:=hg;omega) λh' eb=>⟨rfl,I.turned (t':=s.toks) (λb o hb e=>eb b o hb e) f0 f1 f3 f4 f5⟩
 self:=λy y y y y st h=>ahn st h
section
def yC(K:abU)(tl:TE):TI:=λσ H R=>tl σ H λx H1=>∃ a,x = .ref a/\(∃ xs,ai K H1 a xs)/\R (kA K a) H1
def yD(K:abU)(tl:TE):TI:=λσ H R=>tl σ H λx H1=>∃ a,x = .ref a/\(∃ xs,aj K H1 a xs)/\R (rO K a) H1
theorem cE(hl:PE X l tl):PI X tg l (yC X.K tl):=by
 intro pins s σ H R I h;refine aE (hl pins s σ H _ I h) λv s1 zq=>?_;obtain⟨x,H1,I1,r1,q1⟩:=zq;obtain⟨a,e,⟨xs,hq⟩,q⟩:=q1;subst e;cases r1;obtain⟨aw,rv,p,hz⟩:=I1.list hq;refine afv p.isList ?_;refine⟨s1.heap.objs.size,[s1.heap.objs.size],_,_,H1,rfl,I1.kept (t':=s1.toks) λb o e=>abY _ e,M5 a _,⟨_,ab8 _ rfl,rfl,rfl⟩,λb hb=>?_,q⟩;have e:b=s1.heap.objs.size:=by simpa using hb
 subst e;exact I1.iX (ab4 _) (I1.az.fresh (ab4 _))
theorem yE(hl:PE X l tl):PI X tg l (yD X.K tl):=by
 intro pins s σ H R I h;refine aE (hl pins s σ H _ I h) λv s1 zq=>?_;obtain⟨x,H1,I1,r1,q1⟩:=zq;obtain⟨a,e,⟨xs,hq⟩,q⟩:=q1;subst e;cases r1;obtain⟨aw,rv,p,hz⟩:=I1.tuple hq;refine aiq (show s1.heap.IsTuple a aw.toArray from p) ?_;refine⟨s1.heap.objs.size,[s1.heap.objs.size],_,_,H1,rfl,I1.kept (t':=s1.toks) λb o e=>abY _ e,M6 a _,⟨_,ab8 _ rfl,rfl,rfl⟩,λb hb=>?_,q⟩;have e:b=s1.heap.objs.size:=by simpa using hb
 subst e;exact I1.iX (ab4 _) (I1.az.fresh (ab4 _))
theorem D6{pins:List (ab6 × Obj)}{σ:St}{H:Hp}{s:ab9}{R:It->Hp->Prop}{E:ab1->ab9->Prop}{lo hi:Int}{t u v:Tok}{tk:Nat}(I:Inv X pins σ H s)(h1 : -(2 ^ 62)<=lo)(h2:lo<2 ^ 62)(h3 : -(2 ^ 62)<=hi)(h4:hi<2 ^ 62)
 (q:R (iY lo (hi-lo).toNat) H):ack (model X.prog X.w) X.A (aj9 (.ref s.heap.objs.size)) (D5 X pins σ tg R) E { s with heap:=s.heap.push { cls:=.type "range",data:=.fields #[.int lo t,.int hi u,.int 1 v] },toks:=tk }:=by
 refine air (IsRange.new ..) (small_one h1 h2 h3 h4) ?_;have I1:Inv X pins σ H { s with heap:=s.heap.push { cls:=.type "range",data:=.fields #[.int lo t,.int hi u,.int 1 v] },toks:=tk }:=I.kept λb o e=>abY _ e;refine⟨(s.heap.push { cls:=.type "range",data:=.fields #[.int lo t,.int hi u,.int 1 v] }).objs.size,[(s.heap.push { cls:=.type "range",data:=.fields #[.int lo t,.int hi u,.int 1 v] }).objs.size],_,_,H,rfl,
  I1.kept (t':=tk) λb o e=>abY _ e,M7 _ lo (hi-lo).toNat,?_,λb hb=>?_,q⟩
 .have e1:lo+((0:Nat):Int) * 1=lo:=by simp
  have e2:(((hi-lo).toNat:Nat):Int)-((0:Nat):Int)=acZ lo hi 1:=by rw[rangeSize_one];split<;>omega
  show ah8 _ _ (lo+((0:Nat):Int) * 1) ((((hi-lo).toNat:Nat):Int)-((0:Nat):Int)) 1;rw[e1,e2];exact ab8 _ rfl
 .have e:b=(s.heap.push { cls:=.type "range",data:=.fields #[.int lo t,.int hi u,.int 1 v] }).objs.size:=by simpa using hb
  subst e;exact I1.iX (ab4 _) (I1.az.fresh (ab4 _))
def yF(ta:TA):TI:=λσ H R=>ta σ H λvs H1=>∃ j:Int,vs=[.int j]/\-(2 ^ 62)<=j/\j<2 ^ 62/\R (iY 0 j.toNat) H1
def yG(ta:TA):TI:=λσ H R=>ta σ H λvs H1=>∃ i j:Int,vs=[.int i,.int j]/\(-(2 ^ 62)<=i/\i<2 ^ 62/\-(2 ^ 62)<=j/\j<2 ^ 62)/\R (iY i (j-i).toNat) H1
theorem iB(hg:Gl X "range")(hm:X.mg "range" = none)(ha:PA X [a] ta)(hs:acm [a] X.env=[(false,eval a X.env)]:=by rfl):PI X tg (.Call (.Name "range" p) [a] [] pos) (yF ta):=by
 intro pins s σ H R I h;refine akn (gd I hg hm ajL (acD (aE (ha pos pins s σ H _ I h) λus s1 zq=>?_) hs rfl));obtain⟨vs,H1,I1,r1,q1⟩:=zq;obtain⟨j,e,q1,q2,q⟩:=q1;subst e;cases r1 with
 | cons r rr =>
  cases rr;obtain⟨t,rfl⟩:=r;exact call_range_1 (D6 I1 (by omega) (by omega) q1 q2 (by simpa using q))
theorem my(hg:Gl X "range")(hm:X.mg "range" = none)(ha:PA X [a,b] ta)(hs:acm [a,b] X.env=[(false,eval a X.env),(false,eval b X.env)]:=by rfl)(da:acm [b] X.env=[(false,eval b X.env)]:=by rfl) :
 PI X tg (.Call (.Name "range" p) [a,b] [] pos) (yG ta):=by
 intro pins s σ H R I h;refine akn (gd I hg hm ajL (acD (aE (ha pos pins s σ H _ I h) λus s1 ⟨vs,H1,I1,r1,q1⟩=>?_) (by rw[hs,da]) (by rw[da];rfl)));obtain⟨i,j,e,⟨q1,q2,q3,q4⟩,q⟩:=q1;subst e;cases r1 with
 | cons r rr =>
  cases rr with
  | cons r' rr =>
   cases rr;obtain⟨t,rfl⟩:=r;obtain⟨t',rfl⟩:=r';exact call_range_2 (D6 I1 q1 q2 q3 q4 q)
def kB(wi:TI)(g:TG)(tb:TS):TS:=λD σ H=>wi σ H λJ H1=>∃ W:Nat->Nat->St->Hp->Prop,(∃ m,W 0 m σ H1)/\∀ i m σ H,W i m σ H ->
 (J.stop i H/\D.nx σ H)∨(J.go i H/\∃ N:St->Hp->Prop,(∀ σ' H',N σ' H'->∃ m',m'<m/\W (i+1) m' σ' H')/\∀ x H',J.yld i H x H'->g x σ H' λσ2 H2=>tb { D with nx:=N,ct:=N,bk:=D.nx } σ2 H2)
noncomputable def rP(fp:List ab6)(h:aek):List (ab6 × Obj):=fp.filterMap λb=>(h.get? b).map λo=>(b,o)
theorem vk(hb:b∈fp)(e:h.get? b=some o):(b,o)∈rP fp h:=ago.mpr ⟨b,hb,by rw[e];rfl⟩
theorem M8(hp:p∈rP fp h):p.1∈fp/\h.get? p.1=some p.2:=by
 obtain⟨b,hb,e⟩:=ago.mp hp;cases q:h.get? b with
 | none=>rw[q] at e;cases e
 | some o =>
  rw[q] at e;have e':(b,o)=p:=Option.some.inj e;subst e';exact⟨hb,q⟩
theorem Inv.pinned(I:Inv X pins σ H s)(hf:∀ b∈fp,eT X pins H b)(ho:∀ b∈fp,∃ o,s.heap.get? b=some o/\∀ v,o.data ≠ .cell v):Inv X (pins++rP fp s.heap) σ H s :=
 I.rF λp hp=>(acw.mp hp).elim (λz=>I.pin p (acz _ z)) λz=>by obtain⟨hb,e⟩:=M8 z;obtain⟨f0,f1,f2,y⟩:=hf p.1 hb;obtain⟨o,e',d⟩:=ho p.1 hb;rw[e] at e';cases e';exact⟨e,f0,f1,f2,d⟩
theorem Inv.vm(I:Inv X (pins++pl) σ H s):Inv X pins σ H s:=I.rF λp hp=>I.pin p (acz _ (adO _ hp))
theorem cU(hp:PassesOwn (model X.prog X.w) X.A X.env X.xe)(hc:X.calm=true)(hi:PI X tg iter wi)(hg:PG X tg g)(hb:aR X body tb)(hs:∀ x,adS iter X.env x=pure x:=by intro _;rfl):PS X (.For tg iter body [] pos) (kB wi g tb):=by
 intro pins s σ H D I h;refine wpAny_For (aE (hi pins s σ H _ I h) λv s1 h1=>aE h1 λvh s2 h2=>?_) hs;obtain⟨it,fp,tn,J,H2,e,I2,T,iC,f2,W,⟨m0,w0⟩,turn⟩:=h2;subst e;have yH:∀ {H':Hp},(∀ b∈fp,H' b=none)->∀ b∈fp,eT X pins H' b:=λhn b hb=>⟨hn b hb,(f2 b hb).2⟩
 refine codeAny_forLoop_any (λn s'=>∃ i σ' H',Inv X pins σ' H' s'/\tn i s'.heap/\(∀ b∈fp,H' b=none)/\W i n σ' H') ?_ m0 ⟨0,σ,H2,I2,iC,λb hb=>(f2 b hb).1,w0⟩;rintro n s3 ⟨i,σ3,H3,I3,rQ,rR,w3⟩;rcases turn i n σ3 H3 w3 with ⟨stop,qn⟩|⟨go,N,hN,step⟩
 .refine aff hp (aE (T.done X rfl rfl rfl hc i pins s3 σ3 H3 X.xe I3 (yH rR) rQ stop) λr s4 zq=>?_);obtain⟨hr,I4⟩:=zq;subst hr;exact af4 ⟨σ3,H3,I4,qn⟩
 .refine aff hp (aE (T.item X rfl rfl rfl hc i pins s3 σ3 H3 X.xe I3 (yH rR) rQ go) λr s4 zq=>?_);obtain⟨u,hr,h4⟩:=zq;subst hr;refine aff hp (aE h4 λ_ s5 zq=>?_);obtain⟨x,H5,I5,r5,y5,nG,yI⟩:=zq;have yJ:=I5.pinned (yH yI) (T.obj _ _ nG);refine aff hp (aE (hg _ s5 σ3 H5 x u _ yJ r5 (step x H5 y5)) λ_ s6 zq=>?_);obtain⟨σ6,H6,I6,q6⟩:=zq;refine aff hp (aE (hb _ s6 σ6 H6 _ I6 q6) λf s7 q7=>?_);have again:∀ {σ7:St} {H7:Hp},Inv X (pins++rP fp s5.heap) σ7 H7 s7->N σ7 H7->∃ m,m<n/\∃ i σ' H',Inv X pins σ' H' s7/\tn i s7.heap/\(∀ b∈fp,H' b=none)/\W i m σ' H':=λ{σ7 H7} I7 n7=>by obtain⟨m',hm,w7⟩:=hN σ7 H7 n7;refine⟨m',hm,i+1,σ7,H7,I7.vm,T.keep _ _ _ nG λb hb o e=>(I7.pin (b,o) (acz _ (acz _ (vk hb e)))).1,λb hb=>?_,w7⟩;obtain⟨o,e,d⟩:=T.obj _ _ nG b hb;exact (I7.pin (b,o) (acz _ (acz _ (vk hb e)))).2.1
  cases f with
  | next=>obtain⟨σ7,H7,I7,n7⟩:=q7;exact again I7 n7
  | cont=>obtain⟨σ7,H7,I7,n7⟩:=q7;exact again I7 n7
  | brk=>obtain⟨σ7,H7,I7,q7⟩:=q7;exact⟨σ7,H7,I7.vm,q7⟩
  | ret v=>obtain⟨x7,σ7,H7,I7,r7,q7⟩:=q7;exact⟨x7,σ7,H7,I7.vm,r7,q7⟩
end
theorem M9{K:abU}{a:ab6}{xs:List V}{g:TG}{tb:TS}{D:Ends}{σ:St}{H:Hp}(Pv:Nat->St->Hp->Prop)(h0:Pv 0 σ H)(hl:∀ i σ H,i<=xs.length->Pv i σ H->ai K H a xs)
 (hs:∀ i x σ H,xs[i]?=some x->Pv i σ H->g x σ H λσ2 H2=>tb { D with nx:=Pv (i+1),ct:=Pv (i+1),bk:=D.nx } σ2 H2) (hd:∀ σ H,Pv xs.length σ H->D.nx σ H) :
 ∃ W:Nat->Nat->St->Hp->Prop,(∃ m,W 0 m σ H)/\∀ i m σ H,W i m σ H ->
  ((kA K a).stop i H/\D.nx σ H)∨((kA K a).go i H/\∃ N:St->Hp->Prop,(∀ σ' H',N σ' H'->∃ m',m'<m/\W (i+1) m' σ' H')/\∀ x H',(kA K a).yld i H x H'->g x σ H' λσ2 H2=>tb { D with nx:=N,ct:=N,bk:=D.nx } σ2 H2):=by
 refine⟨λi m σ H=>m=xs.length-i/\i<=xs.length/\Pv i σ H,⟨xs.length,by simp,acr _,h0⟩,?_⟩;rintro i m σ H ⟨rfl,hi,p⟩;have q:=hl i σ H hi p;by_cases aZ:i<xs.length
 .refine .inr ⟨⟨xs,xs[i],q,by simp[aZ]⟩,Pv (i+1),λσ' H' p'=>⟨xs.length-(i+1),by omega,rfl,aZ,p'⟩,λx H' y=>?_⟩;obtain⟨e,y⟩:=y;subst e;exact hs i x σ _ (y xs q) p
 .have e:i=xs.length:=by omega
  subst e;exact .inl ⟨⟨xs,q,ab4 _⟩,hd σ H p⟩
theorem Na{lo:Int}{n:Nat}{g:TG}{tb:TS}{D:Ends}{σ:St}{H:Hp}(Pv:Nat->St->Hp->Prop)(h0:Pv 0 σ H)
 (hs:∀ i σ H,i<n->Pv i σ H->g (.int (lo+i)) σ H λσ2 H2=>tb { D with nx:=Pv (i+1),ct:=Pv (i+1),bk:=D.nx } σ2 H2) (hd:∀ σ H,Pv n σ H->D.nx σ H) :
 ∃ W:Nat->Nat->St->Hp->Prop,(∃ m,W 0 m σ H)/\∀ i m σ H,W i m σ H ->
  ((iY lo n).stop i H/\D.nx σ H)∨((iY lo n).go i H/\∃ N:St->Hp->Prop,(∀ σ' H',N σ' H'->∃ m',m'<m/\W (i+1) m' σ' H')/\∀ x H',(iY lo n).yld i H x H'->g x σ H' λσ2 H2=>tb { D with nx:=N,ct:=N,bk:=D.nx } σ2 H2):=by
 refine⟨λi m σ H=>m=n-i/\i<=n/\Pv i σ H,⟨n,by simp,acr _,h0⟩,?_⟩;rintro i m σ H ⟨rfl,hi,p⟩;by_cases aZ:i<n
 .refine .inr ⟨aZ,Pv (i+1),λσ' H' p'=>⟨n-(i+1),by omega,rfl,aZ,p'⟩,λx H' y=>?_⟩;obtain⟨e,y⟩:=y;subst e y;exact hs i σ _ aZ p
 .have e:i=n:=by omega
  subst e;exact .inl ⟨ab4 _,hd σ H p⟩
abbrev R2:=V->V->Hp->VK->Prop
def bf(X:Cx)(f:ab1->ab1->Sem ab1)(r:R2):Prop :=
 ∀ (pins:List (ab6 × Obj)) (s:ab9) (σ:St) (H:Hp) (x y:V) (v u:ab1) (Q:VK),Inv X pins σ H s->RelV x v->RelV y u->r x y H Q ->
  ack (model X.prog X.w) X.A (f v u) (EP X pins σ Q) X.xe s
def pI(X:Cx)(f:ab1->Sem ab1)(r:V->Hp->VK->Prop):Prop :=
 ∀ (pins:List (ab6 × Obj)) (s:ab9) (σ:St) (H:Hp) (x:V) (v:ab1) (Q:VK),Inv X pins σ H s->RelV x v->r x H Q ->
  ack (model X.prog X.w) X.A (f v) (EP X pins σ Q) X.xe s
def eU(X:Cx)(f:ab1)(r:List V->Hp->VK->Prop):Prop :=
 ∀ (pins:List (ab6 × Obj)) (s:ab9) (σ:St) (H:Hp) (xs:List V) (us:List ab1) (Q:VK),Inv X pins σ H s->Vals xs us->r xs H Q ->
  ack (model X.prog X.w) X.A (call f us) (EP X pins σ Q) X.xe s
def nH(r:R2)(ta tb:TE):TE:=λσ H Q=>ta σ H λx H1=>tb σ H1 λy H2=>r x y H2 Q
def D7(r:V->Hp->VK->Prop)(ta:TE):TE:=λσ H Q=>ta σ H λx H1=>r x H1 Q
def rI(C:Int->Int->Prop)(g:Int->Int->V):R2:=λx y H Q=>∃ i j,x = .int i/\y = .int j/\C i j/\Q (g i j) H
def gT(g:Int->Int->V):R2:=λx y H Q=>∃ i j,x = .int i/\y = .int j/\Q (g i j) H
def rU(g:Int->V):V->Hp->VK->Prop:=λx H Q=>∃ i,x = .int i/\Q (g i) H
section
theorem yK(ha:PE X a ta)(hb:PE X b tb){pins:List (ab6 × Obj)}{s:ab9}{σ:St}{H:Hp}{R:V->V->Hp->Prop}(I:Inv X pins σ H s)
 (h:ta σ H λx H1=>tb σ H1 λy H2=>R x y H2) {Q:ab1->ab9->Prop} {f:ab1->ab1->Sem ab1}
 (hf:∀ v u s2 x y H2,Inv X pins σ H2 s2->RelV x v->RelV y u->R x y H2->ack (model X.prog X.w) X.A (f v u) Q X.xe s2) :
 ack (model X.prog X.w) X.A (eval a X.env) (λv s₁=>ack (model X.prog X.w) X.A (eval b X.env) (λu s₂=>ack (model X.prog X.w) X.A (f v u) Q X.xe s₂) X.xe s₁) X.xe s:=by
 refine aE (ha pins s σ H _ I h) λv s1 zq=>?_;obtain⟨x,H1,I1,r1,q1⟩:=zq;refine aE (hb pins s1 σ H1 _ I1 q1) λu s2 zq=>?_;obtain⟨y,H2,I2,r2,q2⟩:=zq;exact hf v u s2 x y H2 I2 r1 r2 q2
theorem aD(ho:bf X (aeN op) r)(ha:PE X a ta)(hb:PE X b tb):PE X (.BinOp a op b pos) (nH r ta tb):=by intro pins s σ H Q I h;exact wpAny_BinOp (yK ha hb I h λv u s2 x y H2 I2 rx ry q=>ho pins s2 σ H2 x y v u Q I2 rx ry q)
theorem iD(ho:pI X (unaryOp op) r)(ha:PE X a ta):PE X (.UnaryOp op a pos) (D7 r ta):=by intro pins s σ H Q I h;exact UnaryOp_ (aE (ha pins s σ H _ I h) λv s1 ⟨x,H1,I1,r1,q1⟩=>ho pins s1 σ H1 x v Q I1 r1 q1)
theorem rS{f:ab1->ab1->Sem ab1}{C:Int->Int->Prop}{g:Int->Int->Int}
 (rule:∀ (i j:Int) (t u:Tok) (s:ab9) (Q:ab1->ab9->Prop) (E:ab1->ab9->Prop),C i j->Q (.int (g i j) s.toks) { s with toks:=s.toks+1 }->ack (model X.prog X.w) X.A (f (.int i t) (.int j u)) Q E s) :
 bf X f (rI C λi j=>.int (g i j)):=by
 intro pins s σ H x y v u Q I rx ry h;obtain⟨i,j,rfl,rfl,hc,q⟩:=h;obtain⟨t,rfl⟩:=rx;obtain⟨t',rfl⟩:=ry;exact rule i j t t' s _ _ hc ⟨.int (g i j),H,I.tok _,⟨_,rfl⟩,q⟩
theorem D8{f:ab1->ab1->Sem ab1}{g:Int->Int->Int}
 (rule:∀ (i j:Int) (t u:Tok) (s:ab9) (Q:ab1->ab9->Prop) (E:ab1->ab9->Prop),Q (.int (g i j) s.toks) { s with toks:=s.toks+1 }->ack (model X.prog X.w) X.A (f (.int i t) (.int j u)) Q E s) :
 bf X f (gT λi j=>.int (g i j)):=by
 intro pins s σ H x y v u Q I rx ry h;obtain⟨i,j,rfl,rfl,q⟩:=h;obtain⟨t,rfl⟩:=rx;obtain⟨t',rfl⟩:=ry;exact rule i j t t' s _ _ ⟨.int (g i j),H,I.tok _,⟨_,rfl⟩,q⟩
theorem vo{f:ab1->ab1->Sem ab1}{g:Int->Int->Bool}
 (rule:∀ (i j:Int) (t u:Tok) (s:ab9) (Q:ab1->ab9->Prop) (E:ab1->ab9->Prop),Q (.bool (g i j)) s->ack (model X.prog X.w) X.A (f (.int i t) (.int j u)) Q E s) :
 bf X f (gT λi j=>.bl (g i j)):=by
 intro pins s σ H x y v u Q I rx ry h;obtain⟨i,j,rfl,rfl,q⟩:=h;obtain⟨t,rfl⟩:=rx;obtain⟨t',rfl⟩:=ry;exact rule i j t t' s _ _ ⟨.bl (g i j),H,I,rfl,q⟩
def Nb(i j:Int):Prop:=0<=j/\j<=1000000/\i.natAbs<2 ^ 64
theorem Nc:bf X (aeN .Add) (gT λi j=>.int (i+j)):=D8 λy y y y y y y q=>add_int q
theorem Nd:bf X (aeN .Sub) (gT λi j=>.int (i-j)):=D8 λy y y y y y y q=>sub_int q
theorem Nf:bf X (aeN .Mod) (rI (λy j=>0<j) λi j=>.int (i % j)):=rS λi j y y y y y hc q=>by have h1:(0:Int)<j:=hc;exact mod_int' (by omega) (by rw[Int.fmod_eq_emod_of_nonneg i (by omega)];exact q)
theorem yL:bf X (aeN .Pow) (rI Nb λi j=>.int (i ^ j.toNat)):=rS λy y y y y y y hc q=>pow_int_small hc.1 hc.2.1 hc.2.2 q
theorem Ng{f:ab1->Sem ab1}{g:Int->Int}
 (rule:∀ (i:Int) (t:Tok) (s:ab9) (Q:ab1->ab9->Prop) (E:ab1->ab9->Prop),Q (.int (g i) s.toks) { s with toks:=s.toks+1 }->ack (model X.prog X.w) X.A (f (.int i t)) Q E s) :
 pI X f (rU λi=>.int (g i)):=by
 intro pins s σ H x v Q I rx h;obtain⟨i,rfl,q⟩:=h;obtain⟨t,rfl⟩:=rx;exact rule i t s _ _ ⟨.int (g i),H,I.tok _,⟨_,rfl⟩,q⟩
theorem Nh:pI X (unaryOp .USub) (rU λi=>.int (-i)):=Ng λy y y y y q=>neg_int q
end
noncomputable def lp:V->V->Bool
 | .non,.non=>true|.non,.int _=>true|.int _,.non=>true|.non,.bl _=>true|.bl _,.non=>true|.non,.str _=>true|.str _,.non=>true
 | .int _,.int _=>true|.bl _,.bl _=>true|.str _,.str _=>true|.byt _,.byt _=>true
 | .int _,.str _=>true|.str _,.int _=>true|.bl _,.str _=>true|.str _,.bl _=>true
 | _,_=>false
def D9:R2:=λx y H Q=>lp x y=true/\Q (.bl (decide (x=y))) H
def Ea:R2:=λx y H Q=>lp x y=true/\Q (.bl (!decide (x=y))) H
theorem Eb:decide (V.int i=V.int j)=(i == j):=by rw[adg];simp
theorem Ec:decide (V.bl i=V.bl j)=(i == j):=by rw[adg];simp
theorem Ed:decide (V.str i=V.str j)=(i == j):=by rw[adg];simp
theorem Ee:decide (V.byt i=V.byt j)=(i.toList == j.toList):=by rw[adg];cases i;cases j;simp
section
theorem cF(I:Inv X pins σ H s)(q:Q (.bl k) H)(e:k=k'):EP X pins σ Q (.bool k') s:=by subst e;exact⟨.bl k,H,I,rfl,q⟩
theorem nI:bf X (acX .Eq) D9:=by
 intro pins s σ H x y v u Q I rx ry h;obtain⟨hs,q⟩:=h;cases x with
 | non =>
  cases rx;cases y with
  | non=>cases ry;exact PySem.EqNone.eq_none_none (cF I q (by simp))
  | bl j=>cases ry;exact PySem.EqNone.eq_none_bool (cF I q (by simp))
  | int j=>obtain⟨t',rfl⟩:=ry;exact PySem.EqNone.eq_none_int (cF I q (by simp))
  | str j=>obtain⟨t',rfl⟩:=ry;exact PySem.EqNone.eq_none_str (cF I q (by simp))
  | _=>exact absurd (show false=true from hs) acq
 | bl i =>
  cases rx;cases y with
  | non=>cases ry;exact PySem.EqNone.eq_bool_none (cF I q (by simp))
  | bl j=>cases ry;exact eq_bool (cF I q Ec)
  | str j=>obtain⟨t',rfl⟩:=ry;exact PySem.EqMixed.eq_bool_str (cF I q (by simp))
  | _=>exact absurd (show false=true from hs) acq
 | int i =>
  obtain⟨t,rfl⟩:=rx;cases y with
  | non=>cases ry;exact PySem.EqNone.eq_int_none (cF I q (by simp))
  | int j=>obtain⟨t',rfl⟩:=ry;exact eq_int (cF I q Eb)
  | str j=>obtain⟨t',rfl⟩:=ry;exact PySem.EqMixed.eq_int_str (cF I q (by simp))
  | _=>exact absurd (show false=true from hs) acq
 | str i =>
  obtain⟨t,rfl⟩:=rx;cases y with
  | non=>cases ry;exact PySem.EqNone.eq_str_none (cF I q (by simp))
  | bl j=>cases ry;exact PySem.EqMixed.eq_str_bool (cF I q (by simp))
  | int j=>obtain⟨t',rfl⟩:=ry;exact PySem.EqMixed.eq_str_int (cF I q (by simp))
  | str j=>obtain⟨t',rfl⟩:=ry;exact eq_str (cF I q Ed)
  | _=>exact absurd (show false=true from hs) acq
 | byt i =>
  obtain⟨t,rfl⟩:=rx;cases y with
  | byt j=>obtain⟨t',rfl⟩:=ry;exact PySem.W.eq_bytes (cF I q Ee)
  | _=>exact absurd (show false=true from hs) acq
 | _=>cases y<;>exact absurd (show false=true from hs) acq
theorem Ni:bf X (acX .NotEq) Ea:=by
 intro pins s σ H x y v u Q I rx ry h;obtain⟨hs,q⟩:=h;cases x with
 | non =>
  cases rx;cases y with
  | non=>cases ry;exact PySem.EqNone.ne_none_none (cF I q (by simp))
  | bl j=>cases ry;exact PySem.EqNone.ne_none_bool (cF I q (by simp))
  | int j=>obtain⟨t',rfl⟩:=ry;exact PySem.EqNone.ne_none_int (cF I q (by simp))
  | str j=>obtain⟨t',rfl⟩:=ry;exact PySem.EqNone.ne_none_str (cF I q (by simp))
  | _=>exact absurd (show false=true from hs) acq
 | bl i =>
  cases rx;cases y with
  | non=>cases ry;exact PySem.EqNone.ne_bool_none (cF I q (by simp))
  | bl j=>cases ry;exact ne_bool (cF I q (congrArg not Ec))
  | str j=>obtain⟨t',rfl⟩:=ry;exact PySem.EqMixed.ne_bool_str (cF I q (by simp))
  | _=>exact absurd (show false=true from hs) acq
 | int i =>
  obtain⟨t,rfl⟩:=rx;cases y with
  | non=>cases ry;exact PySem.EqNone.ne_int_none (cF I q (by simp))
  | int j=>obtain⟨t',rfl⟩:=ry;exact ne_int (cF I q (congrArg not Eb))
  | str j=>obtain⟨t',rfl⟩:=ry;exact PySem.EqMixed.ne_int_str (cF I q (by simp))
  | _=>exact absurd (show false=true from hs) acq
 | str i =>
  obtain⟨t,rfl⟩:=rx;cases y with
  | non=>cases ry;exact PySem.EqNone.ne_str_none (cF I q (by simp))
  | bl j=>cases ry;exact PySem.EqMixed.ne_str_bool (cF I q (by simp))
  | int j=>obtain⟨t',rfl⟩:=ry;exact PySem.EqMixed.ne_str_int (cF I q (by simp))
  | str j=>obtain⟨t',rfl⟩:=ry;exact ne_str (cF I q (congrArg not Ed))
  | _=>exact absurd (show false=true from hs) acq
 | byt i =>
  obtain⟨t,rfl⟩:=rx;cases y with
  | byt j=>obtain⟨t',rfl⟩:=ry;exact PySem.W.ne_bytes (cF I q (congrArg not Ee))
  | _=>exact absurd (show false=true from hs) acq
 | _=>cases y<;>exact absurd (show false=true from hs) acq
theorem nJ:bf X (acX .Lt) (gT λi j=>.bl (decide (i<j))):=vo λy y y y y y y q=>lt_int q
theorem fK:bf X (acX .LtE) (gT λi j=>.bl (decide (i<=j))):=vo λy y y y y y y q=>le_int q
theorem rT:bf X (acX .Gt) (gT λi j=>.bl (decide (j<i))):=vo λy y y y y y y q=>gt_int q
theorem yM:bf X (acX .GtE) (gT λi j=>.bl (decide (j<=i))):=vo λy y y y y y y q=>ge_int q
theorem cI(b:afS)(h:op ≠ .In:=by decide)(h2:op ≠ .NotIn:=by decide):ad9 op b=false:=by
 have e1:(op == CmpOp.In)=false:=by cases op<;>first|rfl|exact absurd rfl h
 have e2:(op == CmpOp.NotIn)=false:=by cases op<;>first|rfl|exact absurd rfl h2
 cases b<;>simp[ad9,e1,e2]
theorem eG(ho:bf X (acX op) r)(ha:PE X a ta)(hb:PE X b tb)(hm:ad9 op b=false):PE X (.Compare a [op] [b] pos) (nH r ta tb):=by intro pins s σ H Q I h;exact wpAny_Compare1 (yK ha hb I h λv u s2 x y H2 I2 rx ry q=>ho pins s2 σ H2 x y v u Q I2 rx ry q) hm
def vq(t:TE):TT:=λσ H Q=>t σ H λx H'=>∃ k,x = .bl k/\Q k H'
theorem lq(ho:bf X (acX op) r)(ha:PE X a ta)(hb:PE X b tb)(hm:ad9 op b=false):PT X (.Compare a [op] [b] pos) (vq (nH r ta tb)):=by
 intro pins s σ H Q I h;refine ahz (aE (ha pins s σ H _ I h) λv s1 ⟨x,H1,I1,r1,q1⟩=>aE (hb pins s1 σ H1 _ I1 q1) λu s2 ⟨y,H2,I2,r2,q2⟩ =>
  aE (ho pins s2 σ H2 x y v u _ I2 r1 r2 q2) λc s3 ⟨z,H3,I3,r3,k,e,q3⟩=>?_) hm
 subst e;cases r3;exact acL ⟨H3,I3,q3⟩
def yN(r r':R2)(ta tb tc:TE):TE:=λσ H Q=>ta σ H λx H1=>tb σ H1 λy H2=>r x y H2 λz H3=>∃ k,z = .bl k /\
 (if k=true then tc σ H3 λw' H4=>r' y w' H4 Q else Q (.bl false) H3)
theorem Ef(ho:bf X (acX op) r)(cS:bf X (acX iZ) r')(ha:PE X a ta)(hb:PE X b tb)(hc:PE X c tc)(hm:ajg [op,iZ] [b,c]=false:=by with_unfolding_all rfl):PE X (.Compare a [op,iZ] [b,c] pos) (yN r r' ta tb tc):=by
 intro pins s σ H Q I h;refine Compare_chain (aE (ha pins s σ H _ I h) λv s1 ⟨x,H1,I1,r1,q1⟩=>chain_link (aE (hb pins s1 σ H1 _ I1 q1) λu s2 ⟨y,H2,I2,r2,q2⟩ =>
  aE (ho pins s2 σ H2 x y v u _ I2 r1 r2 q2) λd s3 ⟨z,H3,I3,r3,k,e,q3⟩=>?_)) hm
 subst e;cases r3;refine acL ?_;cases k with
 | false=>exact ite_ff ⟨.bl false,H3,I3,rfl,q3⟩
 | true=>exact ite_tt (chain_last (aE (hc pins s3 σ H3 _ I3 q3) λw' s4 ⟨z',H4,I4,r4,q4⟩=>cS pins s4 σ H4 y z' u w' Q I4 r2 r4 q4))
theorem Nj(ho:bf X (acX op) r)(cS:bf X (acX iZ) r')(ha:PE X a ta)(hb:PE X b tb)(hc:PE X c tc)(hm:ajg [op,iZ] [b,c]=false:=by with_unfolding_all rfl):PT X (.Compare a [op,iZ] [b,c] pos) (vq (yN r r' ta tb tc)):=by
 intro pins s σ H Q I h;refine isTrue_chain (aE (ha pins s σ H _ I h) λv s1 ⟨x,H1,I1,r1,q1⟩=>aka (aE (hb pins s1 σ H1 _ I1 q1) λu s2 ⟨y,H2,I2,r2,q2⟩ =>
  aE (ho pins s2 σ H2 x y v u _ I2 r1 r2 q2) λd s3 ⟨z,H3,I3,r3,k,e,q3⟩=>?_)) hm
 subst e;cases r3;refine acL ?_;cases k with
 | false =>
  obtain⟨k',e',q'⟩:=q3;cases e';exact ite_ff ⟨H3,I3,q'⟩
 | true =>
  refine ite_tt (test_last (aE (hc pins s3 σ H3 _ I3 q3) λw' s4 ⟨z',H4,I4,r4,q4⟩=>aE (cS pins s4 σ H4 y z' u w' _ I4 r2 r4 q4) λd' s5 zq=>?_));obtain⟨z2,H5,I5,r5,k2,e2,q5⟩:=zq;subst e2;cases r5;exact acL ⟨H5,I5,q5⟩
theorem rV:(aco:Nat)<2 ^ 63:=by rw[ae6];decide
theorem vals1(r:Vals [x] us):∃ u,us=[u]/\RelV x u:=by
 cases r with
 | cons r1 r2=>cases r2;exact⟨_,rfl,r1⟩
theorem vals2(r:Vals [x,y] us):∃ u w',us=[u,w']/\RelV x u/\RelV y w':=by
 cases r with
 | cons r1 r2 =>
  cases r2 with
  | cons r3 r4=>cases r4;exact⟨_,_,rfl,r1,r3⟩
theorem Nk(hc:X.calm=true):eU X (.builtin "max") (λxs H Q=>∃ i j,xs=[.int i,.int j]/\Q (.int (if j > i then j else i)) H):=by
 intro pins s σ H xs us Q I r h;obtain⟨i,j,rfl,q⟩:=h;obtain⟨u,w',rfl,⟨t,rfl⟩,⟨t',rfl⟩⟩:=vals2 r;refine max_two_ints (I.ok.hd hc) λh' tk k=>⟨_,H,I.kept k,?_,q⟩
 by_cases hj:j > i
 .rw[if_pos hj,if_pos hj];exact⟨_,rfl⟩
 .rw[if_neg hj,if_neg hj];exact⟨_,rfl⟩
theorem yO(hc:X.calm=true):eU X (.builtin "min") (λxs H Q=>∃ i j,xs=[.int i,.int j]/\Q (.int (if j<i then j else i)) H):=by
 intro pins s σ H xs us Q I r h;obtain⟨i,j,rfl,q⟩:=h;obtain⟨u,w',rfl,⟨t,rfl⟩,⟨t',rfl⟩⟩:=vals2 r;refine min_two_ints (I.ok.hd hc) λh' tk k=>⟨_,H,I.kept k,?_,q⟩
 by_cases hj:j<i
 .rw[if_pos hj,if_pos hj];exact⟨_,rfl⟩
 .rw[if_neg hj,if_neg hj];exact⟨_,rfl⟩
def vx(K:abU)(x:V)(H:Hp)(n:Nat):Prop :=
 match x with
 | .str y=>y.length<=aco/\n=y.length
 | .byt y=>y.size<=aco/\n=y.size
 | .ref p=>(∃ xs,ai K H p xs/\n=xs.length) ∨ ∃ xs,aj K H p xs/\n=xs.length
 | _=>False
theorem Nl:eU X (.builtin "len") (λxs H Q=>∃ x n,xs=[x]/\vx X.K x H n/\Q (.int n) H):=by
 intro pins s σ H xs us Q I r h;obtain⟨x,n,rfl,e,q⟩:=h;obtain⟨u,rfl,rx⟩:=vals1 r;have hl:=rV;have hs:aco=16777216:=ae6;cases x with
 | str y =>
  obtain⟨t,rfl⟩:=rx;obtain⟨hy,e'⟩:y.length<=aco/\n=y.length:=e;subst e';exact len_str (by omega) ⟨.int _,H,I.tok _,⟨_,rfl⟩,q⟩
 | byt y =>
  obtain⟨t,rfl⟩:=rx;obtain⟨hy,e'⟩:y.size<=aco/\n=y.size:=e;subst e';exact PySem.W.len_bytes (by omega) ⟨.int _,H,I.tok _,⟨_,rfl⟩,q⟩
 | ref p =>
  cases rx;have e':(∃ xs,ai X.K H p xs/\n=xs.length) ∨ ∃ xs,aj X.K H p xs/\n=xs.length:=e;rcases e' with ⟨xs,hx,e'⟩|⟨xs,hx,e'⟩
  .subst e';obtain⟨aw,r',pl,hz⟩:=I.list hx;have hlen:=r'.length;exact Calls.call_len_list pl.isList (by simp only[acb];omega) ⟨.int xs.length,H,I.tok _,⟨_,by simp only[acb];rw[hlen]⟩,q⟩
  .subst e';obtain⟨aw,r',pl,hz⟩:=I.tuple hx;have hlen:=r'.length;exact len_tuple pl (by simp only[acb];omega) ⟨.int xs.length,H,I.tok _,⟨_,by simp only[acb];rw[hlen]⟩,q⟩
 | _=>exact (show False from e).elim
end
structure nK(h:aek)(x dx C:ab6)(mA:Str->Option ab1):Prop where
 obj:h.get? x=some (adW C dx)
 ns:h.Ns1 dx mA
 ne:dx≠x
theorem Nm{h:aek}{dx:ab6}{mA:Str->Option ab1}(n:h.Ns1 dx mA):∃ od,h.get? dx=some od/\∀ name,agx name od=some (mA name):=by
 obtain⟨o,es,ep,ho,hd,hk,_,hm⟩:=n;refine⟨o,ho,λname=>?_⟩;have e:=hm name;unfold nsFind findBy at e;rw[<- Array.find?_toList] at e;unfold agx;rw[hd];dsimp only;split
 .rename_i y q;rw[q] at e;exact congrArg some e
 .rename_i q;rw[q] at e;have a:es.toList.any (·.refKey)=false:=by rw[aiF];intro y hy;obtain⟨z,t,iE⟩:=hk y (Array.mem_toList_iff.mp hy);simp[DictEntry.refKey,iE]
  have a':¬ es.toList.any (·.refKey)=true:=by rw[a];exact acq
  rw[if_neg a'];exact congrArg some e
theorem nK.look(I:nK h x dx C mA):∃ od,PySem.W.InstAt h x (adW C dx) C (some od)/\∀ name,agx name od=some (mA name) :=
 let ⟨od,ho,hl⟩:=Nm I.ns
 ⟨od,⟨I.obj,rfl,rfl,ho⟩,hl⟩
section
variable{prog:acK}{w:ado}{A:adz}{E:ab1->ab9->Prop}{s:ab9}{K:abU}{x dx C f:ab6}{mA:Str->Option ab1}{name:Str}{v:ab1}
theorem get_map{expr:Bool}{Q:ab1->ab9->Prop}(X:K.In s.heap)(I:nK s.heap x dx C mA)(hg:afU K C name=true)(hh:agK K C=true)
 (ha:adx K (.ref C) name=some none) (hv:mA name=some v) (Nn:ai5 v=true) (h:Q v { s with toks:=s.toks+1 }) :
 ack (model prog w) A (getAttr (.ref x) name expr) Q E s:=by
 obtain⟨od,J,hl⟩:=I.look;exact PySem.W.get_value X J (af6 hg).1 (PySem.W.findObj_own hh ha rfl (by rw[hl,hv])) Nn h
theorem Np{pl:Sem Bool}{Q:ab1 × List ab1->ab9->Prop}(X:K.In s.heap)(I:nK s.heap x dx C mA)(hg:afU K C name=true)
 (hf:adx K (.ref C) name=some (some (.ref f))) (ht:ahA K (.ref f)=true) (hv:mA name=none) (h:Q (.ref f,[.ref x]) s) :
 ack (model prog w) A (ahB (.ref x) name pl) Q E s:=by
 obtain⟨od,J,hl⟩:=I.look;exact PySem.W.method_fn X J (af6 hg).1 (af6 hg).2 hf (beq_iff_eq.mp ht) (by show (agx name od).map (·.isSome)=some false;rw[hl,hv];rfl) h
theorem Nq{ns:List Str}{Q:Unit->ab9->Prop}(X:K.In s.heap)(I:nK s.heap x dx C mA)
 (hs:adx K (.ref C) "__setattr__" = some (some (.builtin "object.__setattr__"))) (hp:aiG K C=true) (ht:ahC K C name=some none) (hh:agK K C=true)
 (hw:aiW mA ns) (hsz:ns.length<=aco)
 (h:∀ h',nK h' x dx C (λy=>if y=name then some v else mA y)->Heap.SameBut dx s.heap h'->Q () { s with heap:=h',toks:=s.toks+2 }) :
 ack (model prog w) A (setAttr (.ref x) name v) Q E s:=by
 obtain⟨od,J,hl⟩:=I.look;refine PySem.W.set_plain X J hs (PySem.W.osa_open (s:={ s with toks:=s.toks+1 }) (r:=none) X J hp ht λb=>?_);obtain⟨cd,hc,jD⟩:=PySem.W.any_some hh;have hx:s.heap.get? x=some ⟨.ref C,some dx,.plain,#[]⟩:=I.obj;refine abS (abX (abS (abS (wpAny_loadPart hx (abS (PySem.W.Looks.here (s:={ s with toks:=s.toks+1 }) (PySem.W.looks_clsIn X hc) ?_))))));rw[jD];refine abX (a:=some dx) (abS (abX (abS ?_)));refine wpAny_nsSet1 (s:={ s with toks:=s.toks+1 }) I.ns λh' yP da=>?_;obtain⟨oD,esD,epD,Nr,Nt,Nu⟩:=yP.count (PySem.Within.cons name v hw);refine abS (wpAny_lookBehind Nr (by rw[Nt];exact pastItsLine_dict (ab3 Nu (by rw[acB];omega))) ?_);exact abX (h _ ⟨(da.2 _ (acY I.ne)).trans I.obj,yP,I.ne⟩ da)
theorem Nv{R:aiY->ab9->Prop}{vs:List ab1}{kw:List (Str × ab1)}(X:K.In s.heap)(hm:ahD K C=true)
 (hi:adx K (.ref C) "__init__" = some (some (.ref f))) (hf:ah1 K (.ref f)=some (.type "function"))
 (h:aeV (model prog w) (A.under (.builtin "type.__call__" ⟨.ref C::vs,kw⟩)) (.call (.ref f) ⟨.ref (s.heap.objs.size+1)::vs,kw⟩) (PySem.W.InitBack (s.heap.objs.size+1) R)
   { s with heap:=(s.heap.push adu).push (adW C s.heap.objs.size) }) :
 aeV (model prog w) A (.call (.ref C) ⟨vs,kw⟩) R s:=by
 obtain⟨hh,g,d,t,os⟩:=s;exact PySem.W.make_core (PySem.W.makes_of X hm) (PySem.W.looks_findIn X hi) (λself=>PySem.W.bind_fn X self hf) (.inl rfl) h
end
noncomputable def fL(f:Str)(v:V):List (Str × V)->List (Str × V)
 | []=>[(f,v)]
 | (g,x)::r=>if g=f then (g,v)::r else (g,x)::fL f v r
theorem Eg(f g:Str)(v:V):∀ fs:List (Str × V),(fL f v fs).lookup g=if g=f then some v else fs.lookup g
 | []=>by
  show afw g [(f,v)]=_;by_cases h:g=f
  .have hb:(g == f)=true:=beq_iff_eq.mpr h;simp only[afw,hb,if_pos h]
  .have hb:(g == f)=false:=beq_eq_false_iff_ne.mpr h;simp only[afw,hb,if_neg h]
 | (k,x)::r=>by
  have ih:=Eg f g v r;rw[show fL f v ((k,x)::r)=(if k=f then (k,v)::r else (k,x)::fL f v r) from rfl];by_cases hk:k=f
  .rw[if_pos hk];by_cases h:g=k
   .have hb:(g == k)=true:=beq_iff_eq.mpr h;simp only[afw,hb,if_pos (h.trans hk)]
   .have hb:(g == k)=false:=beq_eq_false_iff_ne.mpr h;simp only[afw,hb,if_neg (λe:g=f=>h (e.trans hk.symm))]
  .rw[if_neg hk];by_cases h:g=k
   .have hb:(g == k)=true:=beq_iff_eq.mpr h;simp only[afw,hb,if_neg (λe:g=f=>hk (h.symm.trans e))]
   .have hb:(g == k)=false:=beq_eq_false_iff_ne.mpr h;simp only[afw,hb];exact ih
theorem yQ(f:Str)(v:V):∀ fs:List (Str × V),f∈(fL f v fs).map (·.1)/\∀ g,g∈fs.map (·.1)->g∈(fL f v fs).map (·.1)
 | []=>⟨by simp[fL],λg h=>by simp at h⟩
 | (k,x)::r=>by
  obtain⟨i1,i2⟩:=yQ f v r;rw[show fL f v ((k,x)::r)=(if k=f then (k,v)::r else (k,x)::fL f v r) from rfl];by_cases hk:k=f
  .rw[if_pos hk];subst hk;exact⟨by simp,λg h=>by simpa using h⟩
  .rw[if_neg hk];refine⟨?_,λg h=>?_⟩
   .rw[acs];exact acN _ i1
   .rw[acs] at h ⊢;rcases acd.mp h with e|e
    .exact acd.mpr (.inl e)
    .exact acN _ (i2 g e)
theorem Eh(f:Str)(v:V):∀ fs:List (Str × V),(fL f v fs).length<=fs.length+1
 | []=>by simp[fL]
 | (k,x)::r=>by
  have ih:=Eh f v r;rw[show fL f v ((k,x)::r)=(if k=f then (k,v)::r else (k,x)::fL f v r) from rfl];by_cases hk:k=f
  .rw[if_pos hk,acB,acB];omega
  .rw[if_neg hk,acB,acB];omega
theorem fX.some_of(r:fX (some v) o):∃ u,o=some u/\RelV v u:=by
 cases o with
 | none=>exact (show False from r).elim
 | some u=>exact⟨u,rfl,r⟩
theorem fX.none_of(r:fX none o):o=none:=by
 cases o with
 | none=>rfl
 | some u=>exact (show False from r).elim
theorem Nw(r:RelV v u):ai5 u=true:=by
 cases v with
 | non=>cases (show u=Value.none from r);rfl
 | bl b=>cases (show u=adt b from r);rfl
 | int i=>obtain⟨t,e⟩:=(show ∃ t,u=ael i t from r);cases e;rfl
 | str x=>obtain⟨t,e⟩:=(show ∃ t,u=ail x t from r);cases e;rfl
 | byt b=>obtain⟨t,e⟩:=(show ∃ t,u=akm b t from r);cases e;rfl
 | flt b=>obtain⟨t,e⟩:=(show ∃ t,u=ajf b t from r);cases e;rfl
 | ref a=>cases (show u=acy a from r);rfl
 | ty n=>cases (show u=agG n from r);rfl
section
theorem vy(az:b7 P w H h)(e:H a=some (.ins C dx fs)):∃ mA,nK h a dx C mA/\(∀ f,fX (fs.lookup f) (mA f))/\aiW mA (fs.map (·.1))/\fs.length<=1000/\H dx=some (.own a):=by
 obtain⟨d,z,ne,ob,mA,n,r,q⟩:=(show bM P w H h a (.ins C dx fs) from az a _ e)
 exact⟨mA,⟨ob,n,ne⟩,r,q,z,d⟩
end
structure cN(K:abU)(C:ab6):Prop where
 pg:afU K C Str.empty=true
 hd:agK K C=true
 po:aiG K C=true
 sa:adx K (.ref C) "__setattr__" = some (some (.builtin "object.__setattr__"))
theorem cN.get{K:abU}{C:ab6}(c:cN K C)(f:Str):afU K C f=true:=c.pg
def bQ(K:abU)(C:ab6)(f:Str):Prop:=adx K (.ref C) f=some none
theorem bQ.Nx{K:abU}{C:ab6}{f:Str}(n:bQ K C f):ahC K C f=some none:=by unfold ahC;rw[show adx K (.ref C) f=some none from n];rfl
structure Meth(K:abU)(C:ab6)(m:Str)(f:ab6):Prop where
 at_:adx K (.ref C) m=some (some (.ref f))
 fn:ahA K (.ref f)=true
 kp:aeg K (.ref f)=true
section
theorem Ny(I:Inv X pins σ H s)(e:H a=some (.ins C dx fs))(c:cN X.K C)(n:bQ X.K C f)(l:fs.lookup f=some v)(h:∀ u s',Inv X pins σ H s'->RelV v u->Q u s'):ack (model X.prog X.w) A (getAttr (.ref a) f b) Q E s:=by obtain⟨mA,O,r,y,y,y⟩:=vy I.az e;obtain⟨u,hu,ru⟩:=fX.some_of (v:=v) (o:=mA f) (by rw[<- l];exact r f);exact get_map I.cz O (c.get f) c.hd n hu (Nw ru) (h u _ (I.tok _) ru)
theorem yS(I:Inv X pins σ H s)(e:H a=some (.ins C dx fs))(c:cN X.K C)(k:Meth X.K C m g)(l:fs.lookup m=none)(h:Q (.ref g,[.ref a]) s):ack (model X.prog X.w) A (ahB (.ref a) m pl) Q E s:=by obtain⟨mA,O,r,y,y,y⟩:=vy I.az e;have hn:mA m=none:=fX.none_of (by rw[<- l];exact r m);exact Np I.cz O (c.get m) k.at_ k.fn hn h
theorem Nz(I:Inv X pins σ H s)(e:H a=some (.ins C dx fs))(c:cN X.K C)(n:bQ X.K C f)(hl:fs.length<1000)(ry:RelV y u)(h:∀ s',Inv X pins σ (upd H a (.ins C dx (fL f y fs))) s'->Q () s'):ack (model X.prog X.w) A (setAttr (.ref a) f u) Q E s:=by
 obtain⟨mA,O,r,wi,v,ho⟩:=vy I.az e;have hz:(fs.map (·.1)).length<=aco:=by rw[abT,ae6];omega
 refine Nq I.cz O c.sa c.po n.Nx c.hd wi hz λh' O' sb=>h _ ?_;have hd:∃ o,h'.get? dx=some o:=let ⟨o,_,_,e',_⟩:=O'.ns;⟨o,e'⟩;refine I.write (x:=a) (e:=dx) (by rw[e];exact aem) (.inr ho) (λb q hb z=>(sb.2 b hb).trans z) hd ?_;refine⟨by rw[aF O.ne];exact ho,?_,O.ne,O'.obj,_,O'.ns,λg=>?_,λg hg=>?_⟩
 .have:=Eh f y fs;omega
 .show fX ((fL f y fs).lookup g) (if g=f then some u else mA g);rw[Eg];by_cases q:g=f
  .rw[if_pos q,if_pos q];exact ry
  .rw[if_neg q,if_neg q];exact r g
 .by_cases q:g=f
  .rw[q];exact (yQ f y fs).1
  .refine (yQ f y fs).2 g (wi g λz=>hg ?_);show (if g=f then some u else mA g)=none;rw[if_neg q];exact z
theorem Inv.made(I:Inv X pins σ H s):Inv X pins σ (upd (upd H s.heap.objs.size (.own (s.heap.objs.size+1))) (s.heap.objs.size+1) (.ins C s.heap.objs.size []))
 { s with heap:=(s.heap.push adu).push (adW C s.heap.objs.size) }:=by
 have e1:(s.heap.push adu).get? s.heap.objs.size=some adu:=ab8 s.heap rfl;have e2:((s.heap.push adu).push (adW C s.heap.objs.size)).get? (s.heap.objs.size+1)=some (adW C s.heap.objs.size):=by
  have:=ab8 (s.heap.push adu) (o:=adW C s.heap.objs.size) rfl
  rwa [aez] at this
 have e3:(s.heap.push adu).Ns s.heap.objs.size (λy=>none):=⟨adu,#[],_,e1,rfl,(λe he=>absurd he (by simp)),λy=>rfl⟩
 have I1:=I.laid (a:=s.heap.objs.size) (o:=.own (s.heap.objs.size+1)) (h':=s.heap.push adu) (t':=s.toks) (λb u q=>abY _ q) (ab4 _) ⟨_,e1⟩;refine I1.laid (a:=s.heap.objs.size+1) (o:=.ins C s.heap.objs.size []) (t':=s.toks) (λb u q=>abY _ q) (akb (aez _ _)) ?_;have ne:s.heap.objs.size≠s.heap.objs.size+1:=acf (aex _);refine⟨by rw[aF ne,aq],acr _,ne,e2,λy=>none,(Heap.Ns1.of_empty e3).at λo q=>abY _ q,λy=>aem,λy hy=>absurd rfl hy⟩
theorem NA(hb:afg e f env (eval e env)=eval e env)(h:ack (model prog w) A (eval e env) (λo s₁=>ack (model prog w) A (getAttr o f true) Q E s₁) E s):ack (model prog w) A (eval (.Attribute e f pos) env) Q E s :=
 Attribute_any_ h (by rw[arm_eval_Attribute,hb])
end
def Ei(K:abU)(ta:TE)(f:Str):TE:=λσ H Q=>ta σ H λx H1=>∃ a C dx fs v,x = .ref a/\H1 a=some (.ins C dx fs)/\cN K C/\bQ K C f/\fs.lookup f=some v/\Q v H1
def Ej(K:abU)(ta tv:TE)(f:Str):TS:=λD σ H=>tv σ H λy H1=>ta σ H1 λx H2=>∃ a C dx fs,x = .ref a/\H2 a=some (.ins C dx fs)/\cN K C/\bQ K C f/\fs.length<1000 /\
 D.nx σ (upd H2 a (.ins C dx (fL f y fs)))
section
theorem NB(he:PE X e ta)(hb:afg e f X.env (eval e X.env)=eval e X.env):PE X (.Attribute e f pos) (Ei X.K ta f):=by
 intro pins s σ H Q I h;refine NA hb (aE (he pins s σ H _ I h) λu s1 zq=>?_);obtain⟨x,H1,I1,rx,a,C,dx,fs,v,ex,ea,c,n,l,q⟩:=zq;subst ex;obtain rfl:u=acy a:=rx;exact Ny I1 ea c n l λu' s2 I2 ru=>⟨v,H1,I2,ru,q⟩
theorem NC(ha:PE X o ta)(hv:PE X value tv)(hs:afH value (some (.Attribute o f pos')) pos.line X.env=pure false):PS X (.Assign [.Attribute o f pos'] value pos) (Ej X.K ta tv f):=by
 intro pins s σ H D I h;refine plainObj_wpAny_Assign_Attribute (aE (hv pins s σ H _ I h) λu s1 ⟨y,H1,I1,ry,q⟩=>aE (ha pins s1 σ H1 _ I1 q) λov s2 zq=>?_) hs;obtain⟨x,H2,I2,rx,a,C,dx,fs,ex,ea,c,n,l,q2⟩:=zq;subst ex;obtain rfl:ov=acy a:=rx;exact Nz I2 ea c n l ry λs3 I3=>⟨σ,_,I3,q2⟩
inductive dU(K:abU)(H:Hp):V->ab1->Prop where
 | non:dU K H .non (.type "NoneType")
 | bl (x:Bool):dU K H (.bl x) (.type "bool")
 | int (i:Int):dU K H (.int i) (.type "int")
 | str (x:Str):dU K H (.str x) (.type "str")
 | flt (x:UInt64):dU K H (.flt x) (.type "float")
 | lst {a:ab6} {xs:List V} (e:H a=some (.lst xs)):dU K H (.ref a) (.type "list")
 | aW {a:ab6} {o:Obj} {xs:List V} (e:H a=some (.aW o (.lst xs))):dU K H (.ref a) (.type "list")
 | tup {a:ab6} {xs:List V} (e:H a=some (.tup xs)):dU K H (.ref a) (.type "tuple")
 | dK {a:ab6} {kvs:List (Key × V)} (e:H a=some (.dK kvs)):dU K H (.ref a) (.type "dict")
 | dT {a:ab6} {kvs:List (List Key × V)} (e:H a=some (.dT kvs)):dU K H (.ref a) (.type "dict")
 | ins {a C dx:ab6} {fs:List (Str × V)} (e:H a=some (.ins C dx fs)) (cl:cN K C) (ha:adx K (.ref C) "__class__" = some (some (.builtin "object.__class__")))
  (hn:agL K (.builtin "object.__class__") "__get__" = some (some (.builtin "getset_descriptor.__get__"))) (Ek:PySem.W.takesIn K (.builtin "object.__class__")=some true)
  (hm:PySem.W.mroIn K C (.type "object")=some true):dU K H (.ref a) (.ref C)
theorem ND(I:Inv X pins σ H s)(rx:RelV x u)(ty:dU X.K H x t)(e:acW X.K t c=some b)(h:∀ tk,Q (.bool b) { s with toks:=tk }) :
 ack (model X.prog X.w) A (call (.builtin "isinstance") [u,c]) Q E s:=by
 cases ty with
 | non=>cases (show u=Value.none from rx);exact adh PySem.W.kitx_none I.cz aem e (λz=>nomatch z) h
 | bl y=>cases (show u=adt y from rx);exact adh PySem.W.kitx_bool I.cz aem e (λz=>nomatch z) h
 | int i=>obtain⟨t,q⟩:=(show ∃ t,u=ael i t from rx);cases q;exact adh PySem.W.kitx_int I.cz aem e (λz=>nomatch z) h
 | str y=>obtain⟨t,q⟩:=(show ∃ t,u=ail y t from rx);cases q;exact adh PySem.W.kitx_str I.cz aem e (λz=>nomatch z) h
 | flt y=>obtain⟨t,q⟩:=(show ∃ t,u=ajf y t from rx);cases q;exact adh PySem.W.kitx_float I.cz aem e (λz=>nomatch z) h
 | @lst a xs ea =>
  cases (show u=acy a from rx);obtain⟨v,v,n,v,h1⟩:=(show bM X.prog X.w H s.heap a (.lst xs) from I.az a _ ea)
  exact adh aiH I.cz ⟨_,h1,rfl⟩ e (λz=>nomatch z) h
 | @aW a ob xs ea =>
  cases (show u=acy a from rx);obtain⟨v,v,v,n,v,h1⟩:=(show bM X.prog X.w H s.heap a (.aW ob (.lst xs)) from I.az a _ ea)
  exact adh aiH I.cz ⟨_,h1,rfl⟩ e (λz=>nomatch z) h
 | @tup a xs ea =>
  cases (show u=acy a from rx);obtain⟨v,v,v,p⟩:=(show bM X.prog X.w H s.heap a (.tup xs) from I.az a _ ea)
  obtain⟨o,h1,h2,v⟩:=p;exact adh PySem.W.kitx_tuple I.cz ⟨o,h1,h2⟩ e (λz=>nomatch z) h
 | @dK a kvs ea =>
  cases (show u=acy a from rx);obtain⟨v,v,vs,v,p⟩:=(show bM X.prog X.w H s.heap a (.dK kvs) from I.az a _ ea)
  obtain⟨o,es,ep,h1,h2,v⟩:=p;exact adh aiI I.cz ⟨o,h1,h2.1⟩ e (λz=>nomatch z) h
 | @dT a kvs ea =>
  cases (show u=acy a from rx);obtain⟨v,v,xs,v,o,es,ep,h1,h2,v⟩:=(show bM X.prog X.w H s.heap a (.dT kvs) from I.az a _ ea)
  exact adh aiI I.cz ⟨o,h1,h2.1⟩ e (λz=>nomatch z) h
 | @ins a C dx fs ea cl ha hn Ek hm =>
  cases (show u=acy a from rx);obtain⟨mA,O,v⟩:=vy I.az ea;obtain⟨od,J,v⟩:=O.look;exact adh (PySem.W.kitx_own (cl.get _) cl.hd ha hn Ek hm) I.cz J e (λz=>nomatch z) h
end
structure bI(k:Nat)(A:adz):Prop where
 hd:A.handled=none
 dp:A.depth+3 * k+5<recursionLimit
 un:A.units+16 * k+200<af0
theorem bI.mono(r:bI k A)(h:j<=k):bI j A:=⟨r.hd,by have:=r.dp;omega,by have:=r.un;omega⟩
theorem bI.deeper(r:bI (k+1) A)(env:Env):bI k (A.deeper env) :=
 ⟨r.hd,by have:=r.dp;show A.depth+1+3 * k+5<_;omega,by have:=r.un;show A.units+3+16 * k+200<_;omega⟩
theorem NF{A:adz}{C:ab6}{us:List ab1}{kw:List (Str × ab1)}:(A.under (.builtin "type.__call__" ⟨.ref C::us,kw⟩)).depth=A.depth+1:=by
 first|rfl|simp[aiZ,Code.weight,Code.isCreation,Code.isGuard,Code.isCaller,Code.frames,Code.isFrame,guardIds]
theorem NG{A:adz}{C:ab6}{us:List ab1}{kw:List (Str × ab1)}:(A.under (.builtin "type.__call__" ⟨.ref C::us,kw⟩)).units=A.units+1:=by
 first|rfl|simp[aiZ,Code.cUnits,Code.frames,Code.isFrame]
theorem bI.make(r:bI (k+1) A)(C:ab6)(us:List ab1)(kw:List (Str × ab1)):bI k (A.under (.builtin "type.__call__" ⟨.ref C::us,kw⟩)) :=
 ⟨r.hd,by have:=r.dp;rw[NF];omega,by have:=r.un;rw[NG];omega⟩
theorem bI.depth(r:bI k A):A.depth<recursionLimit:=by have:=r.dp;omega
theorem bI.units(r:bI k A):A.units+64<af0:=by have:=r.un;omega
def pJ:TA:=λy H Q=>Q [] H
def rW(ta:TE)(tr:TA):TA:=λσ H Q=>ta σ H λx H1=>tr σ H1 λxs H2=>Q (x::xs) H2
section
theorem ag:PA X [] pJ:=λy y y y H Q I h=>adT ⟨[],H,I,.nil,h⟩
theorem ae(ha:PE X e te)(hr:PA X es t)(hs:acm (e::es) X.env=(false,eval e X.env)::acm es X.env:=by rfl):PA X (e::es) (rW te t):=by
 intro pos pins s σ H Q I h;rw[hs];show ack _ _ (spliced ((false,eval e X.env)::adF pos (acm es X.env))) _ _ s;refine adI (aE (ha pins s σ H _ I h) λu s1 zq=>?_);obtain⟨x,H1,I1,r1,q1⟩:=zq;exact aE (hr pos pins s1 σ H1 _ I1 q1) λus s2 ⟨xs,H2,I2,r2,q2⟩=>⟨x::xs,H2,I2,.cons r1 r2,q2⟩
def El(t:TA):TE:=λσ H Q=>t σ H λxs H1=>xs.length<=aco/\∀ p,H1 p=none->Q (.ref p) (upd H1 p (.tup xs))
def Em(t:TA):TE:=λσ H Q=>t σ H λxs H1=>xs.length<=aco/\∀ p,H1 p=none->Q (.ref p) (upd H1 p (.lst xs))
theorem aM(h:PA X es t):PE X (.Tuple es x1 pos) (El t):=by intro pins s σ H Q I hq;refine wpAny_Tuple_spliced (aE (h pos pins s σ H _ I hq) λus s1 ⟨xs,H1,I1,r,z,q⟩=>⟨by rw[<- r.length];exact z,?_⟩);have hf:H1 s1.heap.objs.size=none:=I1.az.fresh (ab4 _);refine⟨.ref s1.heap.objs.size,upd H1 s1.heap.objs.size (.tup xs),I1.laid (t':=s1.toks) (λb u e=>abY _ e) (ab4 _) ?_,rfl,q _ hf⟩;exact⟨z,us,r,⟨_,ab8 _ rfl,rfl,_,rfl⟩⟩
theorem cn(h:PA X es t):PE X (.List es pos) (Em t):=by intro pins s σ H Q I hq;refine wpAny_List_spliced (aE (h pos pins s σ H _ I hq) λus s1 ⟨xs,H1,I1,r,z,q⟩=>⟨by rw[<- r.length];exact z,?_⟩);have hf:H1 s1.heap.objs.size=none:=I1.az.fresh (ab4 _);refine⟨.ref s1.heap.objs.size,upd H1 s1.heap.objs.size (.lst xs),I1.laid (t':=s1.toks) (λb u e=>abY _ e) (ab4 _) ?_,rfl,q _ hf⟩;exact⟨z,us,0,r,ab8 _ rfl⟩
end
abbrev Sp:=List V->Hp->VK->XK->Prop
abbrev gU:=List Env->Hp->ab9->XK->ab1->ab9->Prop
structure nM(P:acK)(w:ado)(K:abU)(mg:Str->Option ab1)(base:aek)(A:adz)(outer:List Env)(s:ab9)(H:Hp):Prop where
 frames:A.frames=some outer
 mod:Mod K mg base
 bs:∀ b o,base.get? b=some o->s.heap.get? b=some o/\H b=none
 bsz:base.objs.size<=s.heap.objs.size
 gy:s.heap.FunFrames base outer
 frf:∀ b∈bc outer,H b=none
 az:b7 P w H s.heap
 bare:ahy s.gens
def CE(outer:List Env)(P:acK)(w:ado)(H:Hp)(s:ab9)(Q:VK)(u:ab1)(s':ab9):Prop :=
 ∃ v H',s'.os=s.os/\ahy s'.gens/\Un (bc outer) [] H H' s.heap s'.heap/\b7 P w H' s'.heap/\RelV v u/\Q v H'
def CR(CX:gU)(outer:List Env)(P:acK)(w:ado)(H:Hp)(s:ab9)(Q:VK)(E:XK)(r:aiY)(s':ab9):Prop :=
 match r with
 | .ok (.ret u)=>CE outer P w H s Q u s'
 | .ok _=>False
 | .error e=>CX outer H s E e s'
structure eI(P:acK)(w:ado)(K:abU)(mg:Str->Option ab1)(base:aek)(CX:gU)(k:Nat)(f:ab6)(fd:aeO)(ps:List Str)(sp:Sp):Prop where
 len:∀ vs H Q E,sp vs H Q E->vs.length=ps.length
 run:∀ (A:adz) (outer:List Env) (s:ab9) (H:Hp) (args:Args) (us:List ab1) (vs:List V) (Q:VK) (E:XK),bI k A->nM P w K mg base A outer s H->aiJ s fd args (ps.zip us)->Vals vs us->sp vs H Q E ->
  aeV (model P w) A (.call (.ref f) args) (CR CX outer P w H s Q E) s
theorem nM.make{P:acK}{w:ado}{K:abU}{mg:Str->Option ab1}{base:aek}{A:adz}{outer:List Env}{s:ab9}{H:Hp}(e:nM P w K mg base A outer s H)(C:ab6)(us:List ab1)(kw:List (Str × ab1)) :
 nM P w K mg base (A.under (.builtin "type.__call__" ⟨.ref C::us,kw⟩)) outer s H:=⟨by first|exact e.frames|(simpa [aiZ,Code.envs,Code.isFrame,pushEnvs] using e.frames),e.mod,e.bs,e.bsz,e.gy,e.frf,e.az,e.bare⟩
section
theorem Inv.Eo(I:Inv X pins σ H s):nM X.prog X.w X.K X.mg X.base X.A X.stack s H :=
 ⟨I.ok.frames,I.ok.mod,I.bs,ab3 I.ok.bsz I.sz,I.stack,I.rC,I.az,I.bare⟩
theorem Inv.after(I:Inv X pins σ H s)(h:CE X.stack X.prog X.w H s Q u s'):EP X pins σ Q u s':=by obtain⟨v,H',os,bare,un,az,r,q⟩:=h;obtain⟨hh,g,d,t,pK⟩:=s';obtain rfl:pK=s.os:=os;exact⟨v,H',I.call (h':=hh) (g':=g) (d':=d) (t':=t) (ch:=[]) un az bare (λb z=>absurd z (by simp)),r,q⟩
end
def pL(sp:Sp)(dn:List V)(E:XK)(t:TA):TE:=λσ H Q=>t σ H λvs H1=>sp (vs++dn) H1 Q E
def yT(C:ab6)(m:Str)(sp:Sp)(dn:List V)(E:XK)(ta:TE)(t:TA):TE:=λσ H Q=>ta σ H λx H1=>∃ a dx fs,x = .ref a/\H1 a=some (.ins C dx fs)/\fs.lookup m=none /\
 t σ H1 λvs H2=>sp (x::(vs++dn)) H2 Q E
def Ep(C:ab6)(sp:Sp)(dn:List V)(E:XK)(t:TA):TE:=λσ H Q=>t σ H λvs H1=>∀ x dx,H1 x=none->H1 dx=none->dx≠x ->
 sp (.ref x::(vs++dn)) (upd (upd H1 dx (.own x)) x (.ins C dx [])) (λv H2=>v = .non/\Q (.ref x) H2) E
def Binds(K:abU)(fd:aeO)(ps:List Str)(ds:List ab1):Prop :=
 ∀ (s:ab9) (us:List ab1),K.In s.heap->(us++ds).length=ps.length->aiJ s fd ⟨us,[]⟩ (ps.zip (us++ds))
theorem Binds.all{K:abU}{fd:aeO}{ps:List Str}(h:∀ us:List ab1,us.length=ps.length->bindArgs fd ⟨us,[]⟩=pure (ps.zip us)):Binds K fd ps []:=λs us y hl=>by rw[ajh] at hl ⊢;exact .of_eq (h us hl)
def Passes(CX:gU)(X:Cx)(E:XK):Prop:=∀ (pins:List (ab6 × Obj)) (σ:St) (H:Hp) (s:ab9) (e:ab1) (s':ab9),Inv X pins σ H s->CX X.stack H s E e s'->X.xe e s'
section
theorem rX(F:eI X.prog X.w X.K X.mg X.base CX k f fd ps sp)(hr:bI k X.A)(hb:Binds X.K fd ps ds)(hd:Vals dn ds)(hx:Passes CX X E)(I:Inv X pins σ H s)(r:Vals vs us)(h:sp (vs++dn) H Q E):ack (model X.prog X.w) X.A (call (.ref f) us) (EP X pins σ Q) X.xe s:=by
 have r2:Vals (vs++dn) (us++ds):=r.append hd;have hl:(us++ds).length=ps.length:=by rw[<- r2.length];exact F.len _ _ _ _ h
 refine aiK (afI (F.run X.A X.stack s H ⟨us,[]⟩ (us++ds) (vs++dn) Q E hr I.Eo (hb s us I.cz hl) r2 h) λr s' hq=>?_);cases r with
 | error e=>exact hx pins σ H s e s' I hq
 | ok fl =>
  cases fl with
  | ret u=>exact I.after hq
  | next=>exact ad6 hq
  | brk=>exact ad6 hq
  | cont=>exact ad6 hq
theorem eJ(F:eI X.prog X.w X.K X.mg X.base CX k f fd ps sp)(hr:bI k X.A)(hg:Gl X x)(hm:X.mg x=some (.ref f))(hk:aeg X.K (.ref f)=true)(hb:Binds X.K fd ps ds)(hd:Vals dn ds)(hx:Passes CX X E)(ha:PA X (e::es) t)(fM:(x == ("__debug__" : Str))=false:=by decide)(he:acm (e::es) X.env=(false,eval e X.env)::acm es X.env:=by rfl)(dJ:(adF pos (acm es X.env)).any (·.1)=false:=by rfl) :
 PE X (.Call (.Name x p) (e::es) [] pos) (pL sp dn E t):=by
 intro pins s σ H Q I h;refine adp (rG I hg hm ?_ fM);refine afh (h₀:=X.base) I.ok.mod.iV hk (aE (ha pos pins s σ H _ I h) λus s1 ⟨vs,H1,I1,r,q⟩=>⟨I1.cz,?_⟩) he dJ;exact rX F hr hb hd hx I1 r q
theorem eV(he:PE X o ta)(c:cN X.K C)(hm:Meth X.K C m f)(F:eI X.prog X.w X.K X.mg X.base CX k f fd ps sp)(hr:bI k X.A)(hb:Binds X.K fd ps ds)(hd:Vals dn ds)(hx:Passes CX X E)(ha:PA X (e::es) t)(cT:acm (e::es) X.env=(false,eval e X.env)::acm es X.env:=by rfl)(dJ:(adF pos (acm es X.env)).any (·.1)=false:=by rfl)(ht:eval (.Call (.Attribute o m apos) (e::es) [] pos) X.env=(do
 let ov <- eval o X.env
 aiE apos.atName
 let (f,first) <- holding [ov] (ahB ov m pl)
 ajU pos f first (adF pos (acm (e::es) X.env)) (ahR pos (afx [] X.env))):=by rfl) :
 PE X (.Call (.Attribute o m apos) (e::es) [] pos) (yT C m sp dn E ta t):=by
 intro pins s σ H Q I h;refine aeG (pl:=pl) (aE (he pins s σ H _ I h) λu s1 zq=>?_) ht;obtain⟨x,H1,I1,rx,a,dx,fs,ex,ea,l,q⟩:=zq;subst ex;obtain rfl:u=acy a:=rx;refine yS I1 ea c hm l ?_;refine afh (first:=[.ref a]) (h₀:=X.base) I.ok.mod.iV hm.kp (aE (ha pos pins s1 σ H1 _ I1 q) λus s2 ⟨vs,H2,I2,r,q2⟩=>⟨I2.cz,?_⟩) cT dJ;exact rX (us:=.ref a::us) (vs:=.ref a::vs) F hr hb hd hx I2 (.cons rfl r) q2
theorem nN(he:PE X o ta)(c:cN X.K C)(hm:Meth X.K C m f)(F:eI X.prog X.w X.K X.mg X.base CX k f fd ps sp)(hr:bI k X.A)(hb:Binds X.K fd ps ds)(hd:Vals dn ds)(hx:Passes CX X E)(ht:eval (.Call (.Attribute o m apos) [] [] pos) X.env=(do
 let ov <- eval o X.env
 aiE apos.atName
 let (f,first) <- holding [ov] (ahB ov m pl)
 ajU pos f first (adF pos (acm [] X.env)) (ahR pos (afx [] X.env))):=by rfl) :
 PE X (.Call (.Attribute o m apos) [] [] pos) (yT C m sp dn E ta pJ):=by
 intro pins s σ H Q I h;refine aeG (pl:=pl) (aE (he pins s σ H _ I h) λu s1 zq=>?_) ht;obtain⟨x,H1,I1,rx,a,dx,fs,ex,ea,l,q⟩:=zq;subst ex;obtain rfl:u=acy a:=rx;refine yS I1 ea c hm l ?_;exact ah9 (first:=[.ref a]) I1.cz hm.kp (rX (us:=[.ref a]) (vs:=[.ref a]) F hr hb hd hx I1 (.cons rfl .nil) q)
structure Mk(K:abU)(C f:ab6):Prop where
 makes:ahD K C=true
 init:adx K (.ref C) "__init__" = some (some (.ref f))
 fn:ahA K (.ref f)=true
 kp:aeg K (.ref C)=true
theorem NH(M:Mk X.K C f)(F:eI X.prog X.w X.K X.mg X.base CX k f fd ps sp)(hr:bI (k+1) X.A)(hb:Binds X.K fd ps ds)(hd:Vals dn ds)(hx:Passes CX X E)(I:Inv X pins σ H s)(r:Vals vs us)(h:∀ x dx,H x=none->H dx=none->dx≠x->sp (.ref x::(vs++dn)) (upd (upd H dx (.own x)) x (.ins C dx [])) (λv H2=>v = .non/\Q (.ref x) H2) E) :
 ack (model X.prog X.w) X.A (call (.ref C) us) (EP X pins σ Q) X.xe s:=by
 have hq:=h (s.heap.objs.size+1) s.heap.objs.size (I.az.fresh (af7 _)) (I.az.fresh (ab4 _)) (acf (aex _));have I2:=Inv.made (C:=C) I;have r2:Vals (V.ref (s.heap.objs.size+1)::(vs++dn)) (acy (s.heap.objs.size+1)::(us++ds)):=.cons rfl (r.append hd);have hl:(acy (s.heap.objs.size+1)::us++ds).length=ps.length:=by have e:=r2.length;rw[F.len _ _ _ _ hq] at e;exact e.symm
 refine aiK (Nv (f:=f) I.cz M.makes M.init (beq_iff_eq.mp M.fn) (afI (F.run _ X.stack _ _ ⟨acy (s.heap.objs.size+1)::us,[]⟩ (acy (s.heap.objs.size+1)::(us++ds)) _ _ E (hr.make C us [])
  (I2.Eo.make C us []) (hb _ (acy (s.heap.objs.size+1)::us) I2.cz hl) r2 hq) λr s' rY=>?_))
 cases r with
 | error e=>exact hx pins σ _ _ e s' I2 rY
 | ok fl =>
  cases fl with
  | ret u =>
   obtain⟨v,H',I3,rv,ev,q3⟩:=I2.after rY;subst ev;exact⟨rv,⟨V.ref (s.heap.objs.size+1),H',I3,rfl,q3⟩⟩
  | next=>exact ad6 rY
  | brk=>exact ad6 rY
  | cont=>exact ad6 rY
theorem lr(M:Mk X.K C f)(F:eI X.prog X.w X.K X.mg X.base CX k f fd ps sp)(hr:bI (k+1) X.A)(hg:Gl X x)(hm:X.mg x=some (.ref C))(hb:Binds X.K fd ps ds)(hd:Vals dn ds)(hx:Passes CX X E)(ha:PA X (e::es) t)(fM:(x == ("__debug__" : Str))=false:=by decide)(he:acm (e::es) X.env=(false,eval e X.env)::acm es X.env:=by rfl)(dJ:(adF pos (acm es X.env)).any (·.1)=false:=by rfl) :
 PE X (.Call (.Name x p) (e::es) [] pos) (Ep C sp dn E t):=by
 intro pins s σ H Q I h;refine adp (rG I hg hm ?_ fM);refine afh (h₀:=X.base) I.ok.mod.iV M.kp (aE (ha pos pins s σ H _ I h) λus s1 ⟨vs,H1,I1,r,q⟩=>⟨I1.cz,?_⟩) he dJ;exact NH M F hr hb hd hx I1 r q
end
structure rZ(N P:List Str)(sc:ahT):Prop where
 kind:sc.kind = .function
 co:sc.isCoroutine=false
 gen:sc.isGenerator=false
 nd:N.Nodup
 pre:N.take P.length=P
 par:∀ x∈P,sc.names.lookup x=some .local∨sc.names.lookup x=some .cell
 nofree:∀ y∈sc.names,y.2 ≠ .free
theorem Er{agM:Str->Option ahS}{x:Str}:∀ {binds:List (Str × ab1)} {m:Str->Option ab1},(∀ v,(x,v)∉binds)->ako agM binds m x=m x
 | [],_,_=>rfl
 | (n,v)::r,m,h=>by
  unfold ako;rw[Er λw hw=>h w (acN _ hw)];split
  .have:x≠n:=by rintro rfl;exact h v aeE
   simp[this]
  .rfl
theorem Es{agM:Str->Option ahS}{x:Str}:∀ {binds:List (Str × ab1)} {m:Str->Option ab1},(∀ v,(x,v)∉binds)->akp agM binds m x=m x
 | [],_,_=>rfl
 | (n,v)::r,m,h=>by
  unfold akp;rw[Es λw hw=>h w (acN _ hw)];split
  .rfl
  .have:x≠n:=by rintro rfl;exact h v aeE
   simp[this]
theorem Et{agM:Str->Option ahS}{x:Str}{v:ab1}:∀ {P:List Str} {vs:List ab1} {i:Nat} {m:Str->Option ab1},P.Nodup->P[i]?=some x->vs[i]?=some v->agM x=some .local ->
 ako agM (P.zip vs) m x=some v
 | [],_,_,_,_,h,_,_=>by simp at h
 | _::_,[],_,_,_,_,h,_=>by simp at h
 | p::P,w::vs,0,m,nd,h1,h2,hk=>by simp at h1 h2;subst h1;subst h2;show ako agM ((p,w)::P.zip vs) m p=_;unfold ako;rw[Er λv hv=>(ac9.mp nd).1 (ahE hv).1,if_pos hk];simp
 | p::P,w::vs,i+1,m,nd,h1,h2,hk=>by show ako agM ((p,w)::P.zip vs) m x=_;unfold ako;exact Et (i:=i) (ac9.mp nd).2 (by simpa using h1) (by simpa using h2) hk
theorem Eu{agM:Str->Option ahS}{x:Str}{v:ab1}:∀ {P:List Str} {vs:List ab1} {i:Nat} {m:Str->Option ab1},P.Nodup->P[i]?=some x->vs[i]?=some v->agM x≠some .local ->
 akp agM (P.zip vs) m x=some v
 | [],_,_,_,_,h,_,_=>by simp at h
 | _::_,[],_,_,_,_,h,_=>by simp at h
 | p::P,w::vs,0,m,nd,h1,h2,hk=>by simp at h1 h2;subst h1;subst h2;show akp agM ((p,w)::P.zip vs) m p=_;unfold akp;rw[Es λv hv=>(ac9.mp nd).1 (ahE hv).1,if_neg hk];simp
 | p::P,w::vs,i+1,m,nd,h1,h2,hk=>by show akp agM ((p,w)::P.zip vs) m x=_;unfold akp;exact Eu (i:=i) (ac9.mp nd).2 (by simpa using h1) (by simpa using h2) hk
noncomputable def start(N:List Str)(vs:List V):St:=vs.map some++aeh (N.length-vs.length) none
noncomputable def fN(CX:gU)(P:acK)(w:ado)(K:abU)(mg:Str->Option ab1)(base:aek)(N:List Str)(qual:Str)(scope:ahT)(f:ab6)(cd:ab1)(A:adz)(outer:List Env)(s:ab9)(H:Hp)(E:XK):Cx where
 prog:=P
 w:=w
 K:=K
 mg:=mg
 base:=base
 A:=A.deeper (adJ qual scope s.heap.objs.size f cd)
 N:=N
 s₀:=s
 H₀:=H
 env:=adJ qual scope s.heap.objs.size f cd
 outer:=outer
 stack:=adJ qual scope s.heap.objs.size f cd::outer
 ex:=[]
 calm:=true
 fn:=λy=>true
 pn:=[]
 xe:=λe s'=>ack (model P w) (A.deeper (adJ qual scope s.heap.objs.size f cd)) (leaving (adJ qual scope s.heap.objs.size f cd) e) (λy si=>CX outer H s E e si) (λe' si=>CX outer H s E e' si) s'
theorem Ew{sc:ahT}{n:Nat}{x:Str}(h:sc.names.lookup x=some .cell):∃ c,(cellsFrom n sc.names []).lookup x=some c:=by have q:=aho sc.names n [] (.inl h);exact afb.mp q
theorem NI{CX:gU}{P:acK}{w:ado}{K:abU}{mg:Str->Option ab1}{base:aek}{N ps:List Str}{qual:Str}{scope:ahT}{f:ab6}{cd:ab1}{A:adz}{outer:List Env}{s s1:ab9}{H:Hp}{E:XK}{us:List ab1}{vs:List V}
 (S:rZ N ps scope) (hd:A.handled=none) (e0:nM P w K mg base A outer s H) (hl:vs.length=ps.length) (r:Vals vs us)
 (x:InCallC s s.heap.objs.size (ako (adJ qual scope s.heap.objs.size f cd).kindOf (ps.zip us) λm=>none) (cellsFrom (s.heap.objs.size+1) scope.names []) (akp (adJ qual scope s.heap.objs.size f cd).kindOf (ps.zip us) λm=>none) s1) :
 Inv (fN CX P w K mg base N qual scope f cd A outer s H E) [] (start N vs) H s1:=by
 have dJ:ps.length<=N.length:=by have:=congrArg List.length S.pre;rw[adC] at this;omega
 obtain⟨h1,tk,rfl,hk⟩:=x.done;have iF:∀ b:ab6,b∉(fN CX P w K mg base N qual scope f cd A outer s H E).ex:=λb z=>absurd (show b∈([]:List ab6) from z) (by simp);refine⟨⟨e0.mod,S.kind,rfl,rfl,ab4 _,λy z c h1 h2=>?_,λy hy=>?_,λy c m h=>?_,λm=>hd,Around.frames_deeper e0.frames,.inr ⟨rfl,rfl⟩,λb z=>absurd z (iF b),e0.bs,e0.bsz,λb m m=>iF b,λb z=>absurd z (iF b),e0.gy,e0.frf⟩,
  rfl,e0.bare,Un.kept hk,⟨_,x.toInCall.ns,λi y v h1 h2 h3=>?_⟩,λy c h=>⟨_,x.cell y c h⟩,e0.az.fresh (ab4 _),λy c h=>?_,λp hp=>absurd (show p∈([]:List (ab6 × Obj)) from hp) (by simp),e0.az.kept hk,?_⟩
 .exact name_of_addr x.apart (adX h1) (adX h2)
 .have hy:scope.names.lookup y=some .cell∨scope.names.lookup y=some .free:=hy;rcases hy with hy|hy
  .exact Ew hy
  .exact absurd rfl (S.nofree _ (adX hy))
 .exact afG (x.above y c (adX h))
 .have hi:i<vs.length:=by
   unfold start at h2;by_cases hi:i<vs.length
   .exact hi
   .rw[ac7 (by simpa using hi)] at h2;rw[aet] at h2;split at h2<;>cases h2
  have ha:vs[i]?=some v:=by
   unfold start at h2;rw[acP (by simpa using hi),aca] at h2;cases e:vs[i]? with
   | none=>rw[e] at h2;cases h2
   | some a=>rw[e] at h2;cases h2;rfl
  obtain⟨u,hu,rv⟩:=r.get ha;have hp:ps[i]?=some y:=by rw[<- S.pre,agN (by omega)];exact h1
  have Ex:ps.Nodup:=by rw[<- S.pre];exact S.nd.sublist (List.take_sublist _ _)
  refine⟨u,rv,?_⟩;rcases S.par y (ace hp) with k|k
  .exact .inl ⟨k,Et Ex hp hu k⟩
  .obtain⟨c,e⟩:=Ew (n:=s.heap.objs.size+1) k;refine .inr ⟨.inl k,c,e,?_⟩;have q:=x.cell y c e;rw[Eu Ex hp hu (by show scope.names.lookup y≠_;rw[k];decide)] at q;exact q
 .exact e0.az.fresh (afG (x.above y c (adX h)))
 .unfold start;show _=N.length;rw[acj,abT,afJ];omega
theorem Ey{CX:gU}{P:acK}{w:ado}{K:abU}{mg:Str->Option ab1}{base:aek}{k:Nat}{f:ab6}{name qual:Str}{params:Arguments}{body:List ag3}{scope:ahT}{dV kV doc pm a8 ct oc:ab1}{an od:Option ab6}
 {kC:Array (Option ab1)} {N ps:List Str} {sp:Sp} (lk:K.lookup f=some ⟨oc,od,.func (aeH name qual params body scope dV kV doc pm an a8 ct),kC⟩) (gA:agy K a8 qual=true) (S:rZ N ps scope)
 (len:∀ vs H Q E,sp vs H Q E->vs.length=ps.length)
 (iG:∀ (A:adz) (outer:List Env) (s:ab9) (H:Hp) (vs:List V) (Q:VK) (E:XK),bI k (A.deeper (adJ qual scope s.heap.objs.size f a8))->sp vs H Q E ->
   ∃ t,aR (fN CX P w K mg base N qual scope f a8 A outer s H E) body t/\t { nx:=λ_ H'=>Q .non H',rt:=Q } (start N vs) H) :
 eI P w K mg base CX (k+1) f (aeH name qual params body scope dV kV doc pm an a8 ct) ps sp:=by
 refine⟨len,λA outer s H args us vs Q E hr e0 hb r mz=>?_⟩;have hl:=len _ _ _ _ mz;have KX:K.In s.heap:=e0.mod.iV.keeps λb o e=>(e0.bs b o e).1;have lim:s.heap.NoLimit:=e0.mod.nolimit.keeps λb o e=>(e0.bs b o e).1;have NJ:∀ y∈ps.zip us,scope.names.lookup y.1=some .local∨(scope.names.lookup y.1=some .cell/\((cellsFrom (s.heap.objs.size+1) scope.names []).lookup y.1).isSome=true):=λ⟨n,v⟩ hy=>by
  rcases S.par n (ahE hy).1 with q|q
  .exact .inl q
  .exact .inr ⟨q,aho _ _ _ (.inl q)⟩
 refine codeAny_call_function hr.depth (KX _ _ lk) rfl S.co S.gen rfl (PySem.W.codeRec_of KX gA) (hb _ _ _ _ ?_);refine wpAny_newFunctionEnv_cells S.kind NJ λenv he s1 x=>?_;subst he;refine⟨lim.keeps x.toInCall.keep,codeAny_func ?_⟩;obtain⟨t,ht,hq⟩:=iG A outer s H vs Q E (hr.deeper _) mz;have I:Inv (fN CX P w K mg base N qual scope f a8 A outer s H E) [] (start N vs) H s1:=NI S hr.hd e0 hl r x;refine ada (ht [] s1 (start N vs) H _ I hq) (λfl s' hs=>?_) λe s' hs=>hs;have fin:∀ {σ':St} {H':Hp} {v:V} {u:ab1},Inv (fN CX P w K mg base N qual scope f a8 A outer s H E) [] σ' H' s'->RelV v u->Q v H'->CE outer P w H s Q u s' :=
  λ{σ' H' v u} J rv q=>⟨v,H',J.os,J.bare,J.base,J.az,rv,q⟩
 cases fl with
 | ret u =>
  obtain⟨v,σ',H',J,rv,q⟩:=hs;exact fin J rv q
 | next =>
  obtain⟨σ',H',J,q⟩:=hs;exact fin (v:=V.non) (u:=Value.none) J rfl q
 | brk =>
  obtain⟨_,_,_,q⟩:=hs;exact ad6 q
 | cont =>
  obtain⟨_,_,_,q⟩:=hs;exact ad6 q
section
variable{X:Cx}{x:Str}{p pos:Pos}{e:afS}{es:List afS}{t:TA}{id T:String}{r:List V->Hp->VK->Prop}
def vz(r:List V->Hp->VK->Prop)(t:TA):TE:=λσ H Q=>t σ H λvs H1=>r vs H1 Q
theorem bT(hc:eU X (.builtin id) r)(hg:Gl X x)(hm:X.mg x=none)(hv:acJ x=some (.builtin id))(ha:PA X (e::es) t)(hn:x ≠ "__name__" := by decide)(fM:(x == ("__debug__" : Str))=false:=by decide)(he:acm (e::es) X.env=(false,eval e X.env)::acm es X.env:=by rfl)(dJ:(adF pos (acm es X.env)).any (·.1)=false:=by rfl):PE X (.Call (.Name x p) (e::es) [] pos) (vz r t):=by intro pins s σ H Q I h;refine adp (gd I hg hm hv ?_ hn fM);exact aeq (aE (ha pos pins s σ H _ I h) λus s1 ⟨vs,H1,I1,r1,q1⟩=>hc pins s1 σ H1 vs us Q I1 r1 q1) he dJ
theorem vA(hc:eU X (.type T) r)(hg:Gl X x)(hm:X.mg x=none)(hv:acJ x=some (.type T))(ha:PA X (e::es) t)(hn:x ≠ "__name__" := by decide)(fM:(x == ("__debug__" : Str))=false:=by decide)(he:acm (e::es) X.env=(false,eval e X.env)::acm es X.env:=by rfl)(dJ:(adF pos (acm es X.env)).any (·.1)=false:=by rfl):PE X (.Call (.Name x p) (e::es) [] pos) (vz r t):=by intro pins s σ H Q I h;refine adp (gd I hg hm hv ?_ hn fM);exact acD (aE (ha pos pins s σ H _ I h) λus s1 ⟨vs,H1,I1,r1,q1⟩=>hc pins s1 σ H1 vs us Q I1 r1 q1) he dJ
end
end L2
namespace HT
open PySem PyProof.Rows
noncomputable def lexLt:List Int->List Int->Bool
 | [],[]=>false
 | [],_::_=>true
 | _::_,[]=>false
 | x::xs,y::ys=>if x=y then lexLt xs ys else decide (x<y)
theorem nO(x y:Int)(xs ys:List Int):lexLt (x::xs) (y::ys)=if x=y then lexLt xs ys else decide (x<y):=rfl
theorem NK:lexLt [] []=false:=rfl
theorem NL(y:Int)(ys:List Int):lexLt [] (y::ys)=true:=rfl
theorem NM(x:Int)(xs:List Int):lexLt (x::xs) []=false:=rfl
theorem NN(A:adz)(s:ab9)(a:Int)(t:Tok)(c:Int)(u:Tok):∃ e,SeqAt.EqAt A s (.int a t) (.int c u) e/\(e=true↔a=c) :=
 ⟨(a == c),SeqAt.EqAt.int_int a t c u,by simp⟩
theorem NO(A:adz)(s:ab9)(a:Int)(t:Tok)(c:Int)(u:Tok)(prog:acK)(w:ado)(E:ab1->ab9->Prop)(Q:ab1->ab9->Prop)(h:Q (.bool (decide (a<c))) s) :
 ack (model prog w) A (af8 .Lt (.int a t) (.int c u)) Q E s :=
 (akq h:ack (model prog w) A (acX .Lt (.int a t) (.int c u)) Q E s)
section
open PySem.SeqAt
open PySem.AutoSeq1 (wpAny_loadPart')
open PySem.MeetsSeq PySem.MeetsSeq2 PySem.MeetsSeq3
theorem NP(l b:ab6)(items lx:Array ab1)(n n2:Nat)(dd yU:Option ab6)(sl yV:Array (Option ab1))(ns ms:List Int)(hi:aeI items.toList ns)(hj:aeI lx.toList ms) :
 Meets (adY.«tuple.__lt__» ⟨[.ref l,.ref b],[]⟩)
  (λz R s=>s.heap.get? l=some { cls:=.type "tuple",dict:=dd,data:=.seq items n,slots:=sl }/\s.heap.get? b=some { cls:=.type "tuple",dict:=yU,data:=.seq lx n2,slots:=yV } /\
    R (.ok (.ret (.bool (lexLt ns ms)))) s) :=
 .of_wp λprog w A R s h=>by
  obtain⟨hp,g,d,tk,os⟩:=s;obtain⟨hl,hb,h⟩:=h;have f2:=AutoSeq1.sub_tuple_tuple;have z1:items.size=ns.length:=by rw[<- hi.length];simp
  have z2:lx.size=ms.length:=by rw[<- hj.length];simp
  wp_walk using aji hl,aji hb,ai6 _ (λrest b s'=>b.1=none/\s'=⟨hp,g,d,tk,os⟩/\∃ (vs ws:List ab1) (pM pN:List Int),rest=vs.zip ws /\
   aeI vs pM/\aeI ws pN/\pM.length+lx.size=pN.length+items.size/\R (.ok (.ret (.bool (lexLt pM pN)))) ⟨hp,g,d,tk,os⟩) _
  case turn =>
   rintro ⟨y,x⟩ rest b s' ⟨bX,rfl,vs,ws,pM,pN,hz,hvi,hwi,hlen,hR⟩;cases hvi with
   | nil=>rw[List.zip_nil_left] at hz;cases hz
   | cons a t NQ =>
    cases hwi with
    | nil=>rw[List.zip_nil_right] at hz;cases hz
    | cons c u NR =>
     rw[agp] at hz;injection hz with hyx hrest;injection hyx with hy hx;subst hy hx;rw[nO] at hR;simp only[acB] at hlen;obtain⟨e,he,hiff⟩:=NN A.in1 ⟨hp,g,d,tk,os⟩ a t c u;refine abS (he prog w _ _ ?_);cases e with
     | true =>
      rw[if_pos (hiff.mp rfl)] at hR
      wp_walk
      exact⟨rfl,rfl,_,_,_,_,hrest,NQ,NR,by omega,hR⟩
     | false =>
      rw[if_neg (λq=>absurd (hiff.mpr q) acq)] at hR;have vB:=NO A.in1 ⟨hp,g,d,tk,os⟩ a t c u prog w
      wp_walk using vB
      exact⟨_,rfl,by simpa using hR⟩
  case fin =>
   rintro ⟨b1,b2⟩ s' ⟨bX,rfl,vs,ws,pM,pN,hz,hvi,hwi,hlen,hR⟩;simp only at bX;subst bX;have hv:lexLt pM pN=decide (items.size<lx.size):=by
    cases hvi with
    | nil =>
     cases hwi with
     | nil =>
      simp only[adG] at hlen;rw[NK];exact (decide_eq_false (by omega)).symm
     | cons c u hw =>
      simp only[adG,acB] at hlen;rw[NL];exact (decide_eq_true (by omega)).symm
    | cons a t hv =>
     cases hwi with
     | nil =>
      simp only[adG,acB] at hlen;rw[NM];exact (decide_eq_false (by omega)).symm
     | cons c u hw =>
      rw[agp] at hz;cases hz
   rw[hv] at hR
   wp_walk
   exact⟨_,rfl,by simpa [Builtin.Tuple.tupleCompareSizes] using hR⟩
  case h =>
   exact⟨rfl,rfl,items.toList,lx.toList,ns,ms,rfl,hi,hj,by omega,h⟩
end
section
theorem NS(hl:IsTup s.heap l items)(hb:IsTup s.heap b lx)(hi:aeI items.toList ns)(hj:aeI lx.toList ms)(hu:A.units<af0)(h:Q (.bool (lexLt ns ms)) s):ack (model prog w) A (acX .Lt (.ref l) (.ref b)) Q E s:=by
 obtain⟨⟨cls,dd,data,sl⟩,ho,hc,n,hd⟩:=id hl;obtain⟨⟨abB,yU,data2,yV⟩,Ez,mC,n2,hd2⟩:=id hb;simp only at hc hd mC hd2;subst hc hd mC hd2;exact richCompare_meets_room (op:=.Lt) ⟨_,ho,rfl⟩ ⟨_,Ez,rfl⟩ afK ahp (ag4 _ _) (NP l b items lx n n2 dd yU sl yV ns ms hi hj)
  ⟨ho,Ez,show adt (lexLt ns ms)≠Value.notImplemented/\Q (.bool (lexLt ns ms)) s from ⟨(λx=>nomatch x),h⟩⟩ hu
noncomputable def fO(n d:Nat):Option Int->Nat
 | none=>d
 | some v=>if v<0 then (v+(n:Int)).toNat else min v.toNat n
theorem EA(n d:Nat):fO n d none=d:=rfl
theorem vC(n d k:Nat):fO n d (some (k:Int))=min k n:=by show (if (k:Int)<0 then ((k:Int)+(n:Int)).toNat else min (k:Int).toNat n)=min k n;rw[if_neg (by omega),acS]
end
end HT
namespace L2
open PySem PySem.Spec PyProof.Rows
abbrev TO:=St->Hp->(Option Int->Hp->Prop)->Prop
def PO(X:Cx)(e:Option afS)(t:TO):Prop :=
 ∀ (pins:List (ab6 × Obj)) (s:ab9) (σ:St) (H:Hp) (Q:Option Int->Hp->Prop),Inv X pins σ H s->t σ H Q ->
  ack (model X.prog X.w) X.A (evalPart e X.env) (λu s'=>∃ o H',Inv X pins σ H' s'/\IsPart u o/\Q o H') X.xe s
noncomputable def EB:TO:=λy H Q=>Q none H
noncomputable def EC(t:TE):TO:=λσ H Q=>t σ H λx H1=>∃ i,x = .int i/\Q (some i) H1
theorem intsAre_of:∀ {us:List ab1},Vals (ns.map V.int) us->aeI us ns:=by
 induction ns with
 | nil=>intro us r;rw[agq] at r;cases r;exact .nil
 | cons n ns ih =>
  intro us r;rw[acs] at r;cases r with
  | cons r1 r2 =>
   obtain⟨t,e⟩:=r1;subst e;exact .cons n t (ih r2)
section
variable{X:Cx}{e:afS}{te:TE}{lo hi:Option afS}{tl th:TO}{pos p2:Pos}
theorem vD:PO X none EB:=by intro pins s σ H Q I h;rw[ais];exact abX ⟨none,H,I,.none,h⟩
theorem mD(h:PE X e te):PO X (some e) (EC te):=by intro pins s σ H Q I hw;rw[evalPart_some];refine aE (h pins s σ H _ I hw) λu s1 zq=>?_;obtain⟨x,H1,I1,r1,q1⟩:=zq;obtain⟨i,rfl,q⟩:=q1;obtain⟨t,rfl⟩:=r1;exact⟨some i,H1,I1,.int i t,q⟩
def yW(X:Cx)(r:V->Option Int->Option Int->Hp->VK->Prop):Prop :=
 ∀ (pins:List (ab6 × Obj)) (s:ab9) (σ:St) (H:Hp) (x:V) (v vl vu:ab1) (lo hi:Option Int) (sl:ab6) (Q:VK),Inv X pins σ H s->RelV x v->s.heap.IsSliceOf sl vl vu .none->IsPart vl lo->IsPart vu hi->r x lo hi H Q ->
  ∃ T id,aiL (.type T) "__getitem__" = pure (some (.builtin id))/\s.TypeIs v T/\ack (model X.prog X.w) X.A (ajj v (.ref sl)) (EP X pins σ Q) X.xe s
def ED(r:V->Option Int->Option Int->Hp->VK->Prop)(te:TE)(tl th:TO):TE:=λσ H Q=>te σ H λx H1=>tl σ H1 λl H2=>th σ H2 λu H3=>r x l u H3 Q
theorem pO{r:V->Option Int->Option Int->Hp->VK->Prop}(hr:yW X r)(he:PE X e te)(hl:PO X lo tl)(hu:PO X hi th):PE X (.Subscript e (.Slice lo hi none p2) pos) (ED r te tl th):=by intro pins s σ H Q I h;refine aiM (aE (he pins s σ H _ I h) λv s1 zq=>?_);obtain⟨x,H1,I1,r1,q1⟩:=zq;refine wpAny_Slice (aE (hl pins s1 σ H1 _ I1 q1) λvl s2 ⟨l,H2,I2,pl,q2⟩=>aE (hu pins s2 σ H2 _ I2 q2) λvu s3 zq=>?_);obtain⟨u,H3,I3,pu,q3⟩:=zq;rw[ais];refine abX ?_;have I4:Inv X pins σ H3 { s3 with heap:=s3.heap.push { cls:=.type "slice",data:=.fields #[vl,vu,.none] } }:=I3.kept (t':=s3.toks) λb ob q=>abY _ q;obtain⟨T,id,hT,ht,hg⟩:=hr pins { s3 with heap:=s3.heap.push { cls:=.type "slice",data:=.fields #[vl,vu,.none] } } σ H3 x v vl vu l u s3.heap.objs.size Q I4 r1 (Heap.IsSliceOf.new ..) pl pu q3;show ack (model X.prog X.w) X.A (ag5 e (.Slice lo hi none p2) v (.ref s3.heap.objs.size)) (EP X pins σ Q) X.xe { s3 with heap:=s3.heap.push { cls:=.type "slice",data:=.fields #[vl,vu,.none] } };exact tail_any (ops:=[.ref s3.heap.objs.size,v]) ht hT hg (by with_unfolding_all rfl)
noncomputable def i3(xs:List V)(lo hi:Option Int):List V:=(xs.drop (HT.fO xs.length 0 lo)).take (HT.fO xs.length xs.length hi-HT.fO xs.length 0 lo)
theorem NT(xs:List V)(lo hi:Option Int):(i3 xs lo hi).length<=xs.length:=by unfold i3;rw[adC,aey];omega
def EE(K:abU):R2:=λx y H Q=>∃ a b ns ms,x = .ref a/\y = .ref b/\aj K H a (ns.map V.int)/\aj K H b (ms.map V.int)/\Q (.bl (HT.lexLt ns ms)) H
theorem NU(hu:X.A.units<af0):bf X (acX .Lt) (EE X.K):=by intro pins s σ H x y v u Q I rx ry h;obtain⟨a,b,ns,ms,rfl,rfl,ha,hb,q⟩:=h;cases rx;cases ry;obtain⟨aw,r1,p1,z⟩:=I.tuple ha;obtain⟨ly,r2,p2,z⟩:=I.tuple hb;have i1:aeI aw.toArray.toList ns:=intsAre_of r1;have i2:aeI ly.toArray.toList ms:=intsAre_of r2;exact HT.NS p1 p2 i1 i2 hu ⟨.bl (HT.lexLt ns ms),H,I,rfl,q⟩
end
noncomputable def jH(n:Nat)(i:Int):Option Nat:=if 0<=i then (if i<n then some i.toNat else none) else if -(n:Int)<=i then some (i+n).toNat else none
noncomputable def de{α:Type}(xs:List α)(i:Int):Option α:=(jH xs.length i).bind λj=>xs[j]?
theorem EF(h:jH n i=some j):seqIndex? i n=some j/\j<n/\-(n:Int)<=i/\i<n:=by
 unfold jH at h;by_cases h0:0<=i
 .rw[if_pos h0] at h;by_cases h1:i<n
  .rw[if_pos h1] at h;have e:i.toNat=j:=Option.some.inj h;exact⟨by rw[ajk h0 h1,e],by omega,by omega,h1⟩
  .rw[if_neg h1] at h;cases h
 .rw[if_neg h0] at h;by_cases h1 : -(n:Int)<=i
  .rw[if_pos h1] at h;have e:(i+n).toNat=j:=Option.some.inj h;exact⟨by rw[ai0 (by omega) h1,e],by omega,h1,by omega⟩
  .rw[if_neg h1] at h;cases h
theorem yX(h:de xs i=some v):∃ j,seqIndex? i xs.length=some j/\xs[j]?=some v/\j<xs.length/\-(xs.length:Int)<=i/\i<xs.length:=by
 unfold de at h;cases e:jH xs.length i with
 | none=>rw[e] at h;cases h
 | some j =>
  rw[e] at h;obtain⟨h1,h2,h3,h4⟩:=EF e;exact⟨j,h1,h,h2,h3,h4⟩
theorem dq{α:Type}{xs:List α}{j:Nat}{v:α}(h:xs[j]?=some v):de xs (j:Int)=some v:=by
 have hj:j<xs.length:=(ab0.mp h).1;have e:jH xs.length (j:Int)=some j:=by unfold jH;rw[if_pos (by omega),if_pos (by omega)];simp
 unfold de;rw[e];exact h
theorem yY(xs:List α)(v:α):de (xs++[v]) (-1)=some v:=by
 have hl:(xs++[v]).length=xs.length+1:=by simp
 have e:jH (xs++[v]).length (-1)=some xs.length:=by
  unfold jH;rw[hl,if_neg (by decide),if_pos (by omega)]
  congr 1
  omega
 unfold de;rw[e];show (xs++[v])[xs.length]?=some v;simp
def yZ(b:afS):Prop:=∀ o i,subscripted b false o i=operate [o,i] (ajj o i)
def kD(X:Cx)(r:R2):Prop :=
 ∀ (value slice:afS) (pins:List (ab6 × Obj)) (s:ab9) (σ:St) (H:Hp) (x y:V) (v u:ab1) (Q:VK),Inv X pins σ H s->RelV x v->RelV y u->r x y H Q ->
  subscripted slice false v u=operate [v,u] (ajj v u)->ack (model X.prog X.w) X.A (ag5 value slice v u) (EP X pins σ Q) X.xe s
def EG(X:Cx)(id:String)(r:V->List V->Hp->VK->Prop):Prop :=
 ∀ (pins:List (ab6 × Obj)) (s:ab9) (σ:St) (H:Hp) (x:V) (xs:List V) (v:ab1) (us:List ab1) (Q:VK),Inv X pins σ H s->RelV x v->Vals xs us->r x xs H Q ->
  ack (model X.prog X.w) X.A (call (.builtin id) (v::us)) (EP X pins σ Q) X.xe s
section
variable{X:Cx}{a b:afS}{ta tb:TE}{pos:Pos}
theorem kD.or(h:kD X r)(h':kD X r'):kD X (λx y H Q=>r x y H Q∨r' x y H Q):=by
 intro value slice pins s σ H x y v u Q I rx ry q hs;rcases q with q|q
 .exact h value slice pins s σ H x y v u Q I rx ry q hs
 .exact h' value slice pins s σ H x y v u Q I rx ry q hs
theorem bD(hr:kD X r)(ha:PE X a ta)(hb:PE X b tb)(hs:yZ b):PE X (.Subscript a b pos) (nH r ta tb):=by intro pins s σ H Q I h;exact aiM (yK ha hb I h λv u s2 x y H2 I2 rx ry q=>hr a b pins s2 σ H2 x y v u Q I2 rx ry q (hs _ _))
def EH(K:abU):R2:=λx y H Q=>∃ p xs i v,x = .ref p/\y = .int i/\ai K H p xs/\de xs i=some v/\Q v H
def EI(K:abU):R2:=λx y H Q=>∃ p xs i v,x = .ref p/\y = .int i/\aj K H p xs/\de xs i=some v/\Q v H
def EJ:R2:=λx y H Q=>∃ z i c,x = .str z/\y = .int i/\z.length<=aco/\de z.cps.toList i=some c/\Q (.str ⟨#[c]⟩) H
theorem NV:kD X (EH X.K):=by
 intro value slice pins s σ H x y v u Q I rx ry h hs;obtain⟨p,xs,i,z,rfl,rfl,hq,he,q⟩:=h;cases rx;obtain⟨t,rfl⟩:=ry;obtain⟨aw,r,pl,hz⟩:=I.list hq;obtain⟨j,h1,h2,h3,h4,h5⟩:=yX he;obtain⟨w,ew,jI⟩:=r.get h2;have hl:=r.length;have hn:=rV;have fin:EP X pins σ Q w s:=⟨z,H,I,jI,q⟩
 by_cases h0:0<=i
 .have hj:i.toNat=j:=by rw[ajk h0 h5] at h1;exact Option.some.inj h1
  exact item_listR pl.isList h0 (by omega) (by rw[hj];simpa using ew) fin hs
 .have hj:(i+(aw.toArray.size:Int)).toNat=j:=by rw[ai0 (by omega) h4] at h1;rw[acb,<- hl];exact Option.some.inj h1
  exact ahq (x:=w) pl.isList.typeIs slot_list_getitem.lookup
   (wpAny_getItem_list_neg (Q:=λr s'=>r=w/\EP X pins σ Q r s') pl.isList (by omega) (by rw[acb]<;>omega) (by omega) (by rw[hj];simpa using ew) ⟨rfl,fin⟩) hs
theorem NW:kD X (EI X.K):=by
 intro value slice pins s σ H x y v u Q I rx ry h hs;obtain⟨p,xs,i,z,rfl,rfl,hq,he,q⟩:=h;cases rx;obtain⟨t,rfl⟩:=ry;obtain⟨aw,r,pl,hz⟩:=I.tuple hq;obtain⟨j,h1,h2,h3,h4,h5⟩:=yX he;obtain⟨w,ew,jI⟩:=r.get h2;have hl:=r.length;have hn:=rV;have fin:EP X pins σ Q w s:=⟨z,H,I,jI,q⟩
 exact ahq (x:=w) pl.typeIs slot_tuple_getitem.lookup
  (getItem_tuple (j:=j) (Q:=λr s'=>r=w/\EP X pins σ Q r s') pl (by omega) (by omega) (by rw[acb,<- hl];exact h1) (by simpa using ew) ⟨rfl,fin⟩) hs
theorem NX:kD X EJ:=by
 intro value slice pins s σ H x y v u Q I rx ry h hs;obtain⟨z,i,c,rfl,rfl,hz,he,q⟩:=h;obtain⟨t,rfl⟩:=rx;obtain⟨t',rfl⟩:=ry;obtain⟨j,h1,h2,h3,h4,h5⟩:=yX he;have hl:z.cps.toList.length=z.length:=by simp[Str.length]
 rw[hl] at h1 h4 h5;have hn:=rV;exact tail_any (typeIs_str s z t) slot_str_getitem.lookup (getItem_str (c:=c) (by
  have e1:decide (i < -(2 ^ 63:Int))=false:=decide_eq_false (by omega);have e2:decide (i ≥ 2 ^ 63)=false:=decide_eq_false (by omega);rw[e1,e2,af1]) (by rw[h1];simpa using h2) ⟨.str ⟨#[c]⟩,H,I.tok _,⟨_,rfl⟩,q⟩) hs
def kE(K:abU):R2:=λx y H Q=>EH K x y H Q∨EI K x y H Q∨EJ x y H Q
theorem bE:kD X (kE X.K):=NV.or (NW.or NX)
theorem NY(aw:List ab1)(n j:Nat)(u:ab1):adl (·.setIfInBounds j u) { cls:=.type "list",data:=.seq aw.toArray n } = { cls:=.type "list",data:=.seq (aw.set j u).toArray n }:=by simp[adl]
theorem Inv.lst(I:Inv X pins σ H s)(h:H p=some (.lst xs)) :
 ∃ (aw:List ab1) (n:Nat),Vals xs aw/\s.heap.get? p=some { cls:=.type "list",data:=.seq aw.toArray n }/\xs.length<=aco:=by
 obtain⟨z,aw,n,r,e⟩:=I.az p _ h;exact⟨aw,n,r,e,z⟩
theorem Inv.NZ{pins:List (ab6 × Obj)}{σ:St}{H:Hp}{s:ab9}{p:ab6}{xs ys:List V}{aw its':List ab1}{n n':Nat}{f:Obj->Obj}(I:Inv X pins σ H s)(h:H p=some (.lst xs))
 (ho:s.heap.get? p=some { cls:=.type "list",data:=.seq aw.toArray n }) (hf:f { cls:=.type "list",data:=.seq aw.toArray n } = { cls:=.type "list",data:=.seq its'.toArray n' }) (r:Vals ys its') (hz:ys.length<=aco) (t:Nat) :
 Inv X pins σ (upd H p (.lst ys)) { s with heap:=s.heap.update p f,toks:=t }:=by
 have e:(s.heap.update p f).get? p=some { cls:=.type "list",data:=.seq its'.toArray n' }:=by rw[acI f ho (by rw[hf]<;>rfl),hf]
 refine I.write (x:=p) (e:=p) (by rw[h];trivial) (.inl rfl) (λb u hb q=>(acn _ _ (acY hb)).trans q) ⟨_,e⟩ ?_;exact⟨hz,its',n',r,e⟩
def EK:V->V->V->Hp->(Hp->Prop)->Prop:=λo i v H Q=>∃ p xs k j,o = .ref p/\i = .int k/\H p=some (.lst xs)/\jH xs.length k=some j/\Q (upd H p (.lst (xs.set j v)))
theorem set_list:D2 X EK:=by
 intro pins s σ H o i v ov iv u Q I ro ri rv h;obtain⟨p,xs,k,j,rfl,rfl,hp,hj,q⟩:=h;cases ro;obtain⟨t,rfl⟩:=ri;obtain⟨aw,n,r,ho,hz⟩:=I.lst hp;obtain⟨h1,h2,h3,h4⟩:=EF hj;have hl:=r.length;have hn:=rV;have I':Inv X pins σ (upd H p (.lst (xs.set j v))) { s with heap:=s.heap.update p (adl (·.setIfInBounds j u)) } :=
  I.NZ hp ho (NY aw n j u) (r.set rv j) (by rw[ahF];exact hz) s.toks
 by_cases h0:0<=k
 .have hk:k.toNat=j:=by rw[ajk h0 h4] at h1;exact Option.some.inj h1
  exact PySem.W.ki_setAt ho h0 (by omega) (by rw[acb,<- hl];exact h4) (by rw[hk];exact⟨_,I',q⟩)
 .have hk:(k+(aw.toArray.size:Int)).toNat=j:=by rw[ai0 (by omega) h3] at h1;rw[acb,<- hl];exact Option.some.inj h1
  exact PySem.W.ki_setBack ho (by omega) (by rw[acb,<- hl];exact h3) (by omega) (by rw[hk];exact⟨_,I',q⟩)
theorem N0(lo hi:Option Int)(n:Nat):(ae7 lo hi none n).1=((HT.fO n 0 lo:Nat):Int)/\(ae7 lo hi none n).2.1=((HT.fO n n hi:Nat):Int)/\(ae7 lo hi none n).2.2=1:=by
 refine⟨?_,?_,rfl⟩
 .cases lo with
  | none=>simp[ae7,HT.fO]
  | some i =>
   simp only[ae7,HT.fO,Option.getD_none,show (1:Int) > 0 by decide,if_true];by_cases h:i<0
   .simp only[h,if_true]<;>omega
   .simp only[h,if_false]<;>omega
 .cases hi with
  | none=>simp[ae7,HT.fO]
  | some i =>
   simp only[ae7,HT.fO,Option.getD_none,show (1:Int) > 0 by decide,if_true];by_cases h:i<0
   .simp only[h,if_true]<;>omega
   .simp only[h,if_false]<;>omega
theorem N1(aw:List ab1)(lo hi:Option Int):ajl aw.toArray lo hi none=((aw.drop (HT.fO aw.length 0 lo)).take (HT.fO aw.length aw.length hi-HT.fO aw.length 0 lo)).toArray:=by obtain⟨h1,h2,h3⟩:=N0 lo hi aw.toArray.size;unfold ajl;rw[h1,h2,h3];simp only[sliceRange_one,pick_run,acb]<;>rfl
def za(K:abU):V->Option Int->Option Int->Hp->VK->Prop:=λx lo hi H Q=>∃ a xs,x = .ref a/\ai K H a xs/\∀ p,H p=none->Q (.ref p) (upd H p (.lst (i3 xs lo hi)))
theorem sk:yW X (za X.K):=by intro pins s σ H x v vl vu lo hi sl Q I rx hs pl pu h;obtain⟨a,xs,rfl,hx,q⟩:=h;cases rx;obtain⟨aw,r,ht,hz⟩:=I.list hx;have hlen:=r.length;refine⟨"list",_,slot_list_getitem.lookup,ht.isList.typeIs,?_⟩;refine agO ht.isList hs pl pu .none (by simp) ?_ (by rw[acb]<;>omega);rw[N1,<- hlen];refine⟨.ref s.heap.objs.size,_,I.laid (t':=s.toks) (o:=.lst (i3 xs lo hi)) (λb ob q=>abY _ q) (ab4 _) ?_,rfl,q _ (I.az.fresh (ab4 _))⟩;exact⟨ab3 (NT xs lo hi) hz,_,0,(r.drop (HT.fO xs.length 0 lo)).take (HT.fO xs.length xs.length hi-HT.fO xs.length 0 lo),ab8 _ rfl⟩
noncomputable def lz:V->Bool
 | .non=>true
 | .bl _=>true
 | .int _=>true
 | .str _=>true
 | _=>false
noncomputable def mE:V->V->Bool
 | .non,.non=>true
 | .bl a,.bl b=>a == b
 | .bl a,.int b=>(if a then 1 else 0) == b
 | .int a,.bl b=>a == (if b then 1 else 0)
 | .int a,.int b=>a == b
 | .str a,.str b=>a == b
 | _,_=>false
theorem N3(ry:RelV y u)(rx:RelV x v)(fy:lz y=true)(fx:lz x=true):SeqAt.EqAt A s u v (mE y x):=by
 cases y with
 | non =>
  cases ry;cases x with
  | non=>cases rx;exact SeqAt.EqAt.same _
  | bl b=>cases rx;exact SeqAt.EqAt.none_bool b
  | int b=>obtain⟨t,rfl⟩:=rx;exact SeqAt.EqAt.none_int b t
  | str b=>obtain⟨t,rfl⟩:=rx;exact SeqAt.EqAt.none_str b t
  | _=>exact absurd (show false=true from fx) acq
 | bl a =>
  cases ry;cases x with
  | non=>cases rx;exact SeqAt.EqAt.bool_none a
  | bl b=>cases rx;exact SeqAt.EqAt.bool_bool a b
  | int b=>obtain⟨t,rfl⟩:=rx;exact SeqAt.EqAt.bool_int a b t
  | str b=>obtain⟨t,rfl⟩:=rx;exact SeqAt.EqAt.bool_str a b t
  | _=>exact absurd (show false=true from fx) acq
 | int a =>
  obtain⟨t',rfl⟩:=ry;cases x with
  | non=>cases rx;exact SeqAt.EqAt.int_none a t'
  | bl b=>cases rx;exact SeqAt.EqAt.int_bool a t' b
  | int b=>obtain⟨t,rfl⟩:=rx;exact SeqAt.EqAt.int_int a t' b t
  | str b=>obtain⟨t,rfl⟩:=rx;exact SeqAt.EqAt.int_str a t' b t
  | _=>exact absurd (show false=true from fx) acq
 | str a =>
  obtain⟨t',rfl⟩:=ry;cases x with
  | non=>cases rx;exact SeqAt.EqAt.str_none a t'
  | bl b=>cases rx;exact SeqAt.EqAt.str_bool a t' b
  | int b=>obtain⟨t,rfl⟩:=rx;exact SeqAt.EqAt.str_int a t' b t
  | str b=>obtain⟨t,rfl⟩:=rx;exact SeqAt.EqAt.str_str a t' b t
  | _=>exact absurd (show false=true from fx) acq
 | _=>exact absurd (show false=true from fy) acq
noncomputable def gC(x:V)(u:ab1):Bool:=match u with
 | .none=>mE .non x
 | .bool b=>mE (.bl b) x
 | .int i _=>mE (.int i) x
 | .str z _=>mE (.str z) x
 | _=>false
theorem EL(r:RelV y u)(f:lz y=true):gC x u=mE y x:=by
 cases y with
 | non=>cases r;rfl
 | bl b=>cases r;rfl
 | int i=>obtain⟨t,rfl⟩:=r;rfl
 | str z=>obtain⟨t,rfl⟩:=r;rfl
 | _=>exact absurd (show false=true from f) acq
theorem vE:∀ {xs:List V} {us:List ab1},Vals xs us->xs.all lz=true->us.any (gC x)=xs.any λy=>mE y x:=by
 intro z z h f
 induction h with
 | nil=>rfl
 | cons r t ih =>
  rw[aea,acT] at f;rw[adm,adm,EL r f.1,ih f.2]
theorem sr(rx:RelV x v)(fx:lz x=true):∀ {xs:List V} {us:List ab1},Vals xs us->xs.all lz=true->∀ u∈us,SeqAt.EqAt A s u v (gC x u)
 | _,_,.nil,_=>λu hu=>by cases hu
 | y::xs,u::us,.cons r t,f=>λu' hu=>by
  rw[aea,acT] at f;rcases acd.mp hu with rfl|hu
  .rw[EL r f.1];exact N3 r rx f.1 fx
  .exact sr rx fx t f.2 u' hu
noncomputable def vF(x:V)(xs:List V):Bool:=xs.any λy=>mE y x
def ze(K:abU)(neg:Bool):R2:=λx y H Q=>∃ p xs,y = .ref p/\(ai K H p xs∨aj K H p xs)/\lz x=true/\xs.all lz=true/\Q (.bl (if neg then !vF x xs else vF x xs)) H
theorem N4:bf X (acX .In) (ze X.K false):=by
 intro pins s σ H x y v u Q I rx ry h;obtain⟨p,xs,rfl,hq,fx,fs,q⟩:=h;cases ry;rcases hq with hq|hq
 .obtain⟨aw,r,pl,hz⟩:=I.list hq;refine SeqAt.in_listAt (gC x) pl.isList (λw hw=>sr rx fx r fs w (by simpa using hw)) ⟨.bl _,H,I,rfl,?_⟩;rw[show aw.toArray.any (gC x)=aw.any (gC x) by simp,vE r fs];exact q
 .obtain⟨aw,r,pl,hz⟩:=I.tuple hq;refine SeqAt.in_tupleAt (gC x) pl (λw hw=>sr rx fx r fs w (by simpa using hw)) ⟨.bl _,H,I,rfl,?_⟩;rw[show aw.toArray.any (gC x)=aw.any (gC x) by simp,vE r fs];exact q
theorem N5:bf X (acX .NotIn) (ze X.K true):=by
 intro pins s σ H x y v u Q I rx ry h;obtain⟨p,xs,rfl,hq,fx,fs,q⟩:=h;cases ry;rcases hq with hq|hq
 .obtain⟨aw,r,pl,hz⟩:=I.list hq;refine SeqAt.notIn_listAt (gC x) pl.isList (λw hw=>sr rx fx r fs w (by simpa using hw)) ⟨.bl _,H,I,rfl,?_⟩;rw[show aw.toArray.any (gC x)=aw.any (gC x) by simp,vE r fs];exact q
 .obtain⟨aw,r,pl,hz⟩:=I.tuple hq;refine SeqAt.notIn_tupleAt (gC x) pl (λw hw=>sr rx fx r fs w (by simpa using hw)) ⟨.bl _,H,I,rfl,?_⟩;rw[show aw.toArray.any (gC x)=aw.any (gC x) by simp,vE r fs];exact q
theorem EM:eU X (.type "list") (λxs H Q=>∃ p ys,xs=[.ref p]/\(ai X.K H p ys∨aj X.K H p ys)/\∀ l,H l=none->Q (.ref l) (upd H l (.lst ys))):=by
 intro pins s σ H xs us Q I r h;obtain⟨p,ys,rfl,hq,q⟩:=h;obtain⟨u,rfl,rx⟩:=vals1 r;cases rx;have fin:∀ (aw:List ab1),Vals ys aw->ys.length<=aco->∀ (h':aek) (c':Nat),(∀ b o',s.heap.get? b=some o'->h'.get? b=some o') ->
  h'.get? s.heap.objs.size=some { cls:=.type "list",dict:=none,data:=.seq aw.toArray c',slots:=#[] }->EP X pins σ Q (.ref s.heap.objs.size) { s with heap:=h' }:=λaw r' hz h' c' kp e =>
  ⟨.ref s.heap.objs.size,_,I.laid (t':=s.toks) kp (ab4 _) (show bM X.prog X.w _ h' _ (.lst ys) from ⟨hz,aw,c',r',e⟩),rfl,q _ (I.az.fresh (ab4 _))⟩
 rcases hq with hq|hq
 .obtain⟨aw,r',pl,hz⟩:=I.list hq;have hlen:=r'.length;obtain⟨o,ho,hc,n,hd⟩:=pl.isList;exact call_list_seq p (.inl rfl) ho hc hd (λh' c' kp e=>fin aw r' hz h' c' kp e) (by simp only[acb]<;>omega)
 .obtain⟨aw,r',pl,hz⟩:=I.tuple hq;have hlen:=r'.length;obtain⟨o,ho,hc,n,hd⟩:=pl;exact call_list_seq p (.inr rfl) ho hc hd (λh' c' kp e=>fin aw r' hz h' c' kp e) (by simp only[acb]<;>omega)
def zf(K:abU)(T:String)(x:V)(H:Hp):Prop:=match x with
 | .str _=>T = "str"
 | .int _=>T = "int"
 | .ref p=>(T = "list" /\ ∃ xs,ai K H p xs)∨(T = "tuple" /\ ∃ o,K.lookup p=some o/\o.cls = .type "tuple" /\ o.dict=none) ∨
  (T = "dict" /\ ((∃ kvs,H p=some (.dK kvs)) ∨ ∃ kvs,H p=some (.dT kvs)))∨(T = "set" /\ ∃ S n,H p=some (.set S n))
 | _=>False
theorem N6(I:Inv X pins σ H s)(r:RelV x v)(ty:zf X.K T x H) :
 s.TypeIs v T/\∀ a,v = .ref a->∃ ob,s.heap.get? a=some ob/\ob.dict=none:=by
 cases x with
 | str z =>
  obtain⟨t,rfl⟩:=r;cases (show T = "str" from ty);exact⟨typeIs_str s z t,λy e=>nomatch e⟩
 | int i =>
  obtain⟨t,rfl⟩:=r;cases (show T = "int" from ty);exact⟨ajM s i t,λy e=>nomatch e⟩
 | ref p =>
  cases r;rcases ty with ⟨rfl,xs,hq⟩|⟨rfl,o,hk,hc,hd⟩|⟨rfl,hk⟩|⟨rfl,S,n,hk⟩
  .obtain⟨aw,y,pl,y⟩:=I.list hq;refine⟨pl.isList.typeIs,λa e=>?_⟩;cases e;obtain⟨o,n,e,c,hd,y⟩:=pl;exact⟨o,e,hd⟩
  .refine⟨⟨o,I.cz p o hk,hc⟩,λa e=>?_⟩;cases e;exact⟨o,I.cz _ o hk,hd⟩
  .have z:∃ o,s.heap.get? p=some o/\o.ExactDict:=by
    rcases hk with ⟨kvs,hk⟩|⟨kvs,hk⟩
    .obtain⟨y,y,y,y,o,y,y,e,ex,y⟩:=I.az p _ hk;exact⟨o,e,ex⟩
    .obtain⟨y,y,y,y,o,y,y,e,ex,y⟩:=I.az p _ hk;exact⟨o,e,ex⟩
   obtain⟨o,e,ex⟩:=z;refine⟨⟨o,e,ex.1⟩,λa e2=>?_⟩;cases e2;exact⟨o,e,ex.2.1⟩
  .obtain⟨o,y,y,y,e,ex,y⟩:=I.az p _ hk;refine⟨⟨o,e,ex.1⟩,λa e2=>?_⟩;cases e2;exact⟨o,e,ex.2.1⟩
 | _=>exact ad6 ty
def N7(K:abU)(T:String)(r:V->List V->Hp->VK->Prop)(to:TE):TE:=λσ H Q=>to σ H λx H1=>zf K T x H1/\r x [] H1 Q
def EN(K:abU)(T:String)(r:V->List V->Hp->VK->Prop)(to:TE)(t:TA):TE:=λσ H Q=>to σ H λx H1=>zf K T x H1/\t σ H1 λxs H2=>r x xs H2 Q
variable{o e:afS}{es:List afS}{to:TE}{t:TA}{name:Str}{apos dt:Pos}{T id:String}{r:V->List V->Hp->VK->Prop}
theorem lA(pa:PlainAttrs T)(slot:Slot T name id)(N8:akc (.builtin id)=pure (.type "method_descriptor"))(hm:EG X id r)(ho:PE X o to)(ha:PA X (e::es) t)(Oa:afg o name X.env (eval o X.env)=eval o X.env:=by rfl)(Ob:((adF dt (acm (e::es) X.env)).all (λx=>!x.1) && (ahR dt (afx [] X.env)).all (λx=>x.1.isSome)
 && decide ((e::es).length+([]:List ajm).length+(if ([]:List ajm).isEmpty then 0 else 1)<30))=true:=by rfl) (Oc:(apos.endLine == dt.line)=true:=by rfl) (hs:acm (e::es) X.env=(false,eval e X.env)::acm es X.env:=by rfl) (Od:(adF dt (acm es X.env)).any (·.1)=false:=by rfl) :
 PE X (.Call (.Attribute o name apos) (e::es) [] dt) (EN X.K T r to t):=by
 intro pins s σ H Q I h;refine wpAny_Call_method_late Oa Ob Oc rfl (aE (ho pins s σ H _ I h) λv s1 zq=>?_);obtain⟨x,H1,I1,r1,ty,q1⟩:=zq;obtain⟨h1,h2⟩:=N6 I1 r1 ty;refine⟨T,id,pa,slot,N8,h1,h2,?_⟩;have hA:=ha dt pins s1 σ H1 _ I1 q1;rw[hs] at hA ⊢;refine ahr (by show (false || (adF dt (acm es X.env)).any (·.1))=false;rw[Od]<;>rfl) (afZ ?_);exact aE hA λus s2 ⟨vs,H2,I2,r2,q2⟩=>hm pins s2 σ H2 x vs v us Q I2 r1 r2 q2
end
def EO(X:Cx)(id:String)(r:V->List V->Hp->VK->Prop):Prop :=
 ∀ (pins:List (ab6 × Obj)) (s:ab9) (σ:St) (H:Hp) (x:V) (xs:List V) (v:ab1) (us:List ab1) (Q:VK),Inv X pins σ H s->RelV x v->Vals xs us->r x xs H Q ->
  ack (model X.prog X.w) X.A (call (.builtin id) (v::us)) (EP X pins σ Q) X.xe s
theorem Vals.one:∀ {x:V} {us:List ab1},Vals [x] us->∃ u,us=[u]/\RelV x u:=by
 intro x us h;cases h with
 | cons r t=>cases t;exact⟨_,rfl,r⟩
theorem Vals.reverse(h:Vals xs us):Vals xs.reverse us.reverse:=by
 induction h with
 | nil=>exact .nil
 | cons r t ih=>rw[afy,afy];exact Vals.append ih (.cons r .nil)
section
theorem Inv.ER{aw its':List ab1}{n:Nat}{f:Array ab1->Array ab1}{t':Nat}(I:Inv X pins σ H s)(hH:H l=some (.lst xs))
 (e:s.heap.get? l=some { cls:=.type "list",data:=.seq aw.toArray n }) (hf:f aw.toArray=its'.toArray) (hv:Vals ys its') (hz:ys.length<=aco) :
 Inv X pins σ (upd H l (.lst ys)) { s with heap:=s.heap.update l (adl f),toks:=t' }:=by
 have q:=PySem.IsL.update e f;rw[hf] at q;refine I.write (x:=l) (e:=l) (by rw[hH];exact trivial) (.inl rfl) (λb' u hb hu=>(acn s.heap (adl f) (acY hb)).trans hu) ⟨_,q⟩ ?_;exact⟨hz,its',_,hv,q⟩
theorem Inv.Oe(I:Inv X pins σ H s)(hv:Vals ys aw)(hz:ys.length<=aco) :
 Inv X pins σ (upd H s.heap.objs.size (.lst ys)) { s with heap:=s.heap.push { cls:=.type "list",data:=.seq aw.toArray },toks:=t' } :=
 I.laid (λy y q=>abY _ q) (ab4 _) ⟨hz,aw,0,hv,ab8 _ rfl⟩
theorem Inv.fresh(I:Inv X pins σ H s):H s.heap.objs.size=none:=I.az.fresh (ab4 _)
theorem Inv.su(I:Inv X pins σ H s)(hH:H l=some (.lst xs)):xs.length<=aco/\∃ (aw:List ab1) (n:Nat),Vals xs aw/\xs.length=aw.length/\s.heap.get? l=some { cls:=.type "list",data:=.seq aw.toArray n }:=by obtain⟨z,aw,n,r,e⟩:=I.az l _ hH;exact⟨z,aw,n,r,r.length,e⟩
theorem Of(h:n<=aco):afc n=false:=by unfold afc;exact decide_eq_false (by omega)
def ES:V->List V->Hp->VK->Prop:=λx vs H Q=>∃ l xs y,x = .ref l/\vs=[y]/\H l=some (.lst xs)/\xs.length<aco/\Q .non (upd H l (.lst (xs++[y])))
theorem sx:EO X "list.append" ES:=by intro pins s σ H x vs v us Q I rx rv h;obtain⟨l,xs,y,rfl,rfl,hH,hz,q⟩:=h;cases rx;obtain⟨u,rfl,ru⟩:=rv.one;obtain⟨z,aw,n,r,hl,e⟩:=I.su hH;refine aiN ait ⟨_,e,rfl⟩ aia (ahU _ _) (aiO l aw.toArray n u (by rw[acb];omega)) ⟨e,?_⟩;refine⟨.non,_,I.ER (its':=aw++[u]) hH e (by simp) (r.append (.cons ru .nil)) ?_,rfl,q⟩;rw[acj,acA];omega
def Og:V->List V->Hp->VK->Prop:=λx vs H Q=>∃ l b xs zs,x = .ref l/\vs=[.ref b]/\H l=some (.lst xs)/\H b=some (.lst zs)/\xs.length+zs.length<=aco/\Q .non (upd H l (.lst (xs++zs)))
theorem ET:EO X "list.extend" Og:=by
 intro pins s σ H x vs v us Q I rx rv h;obtain⟨l,b,xs,zs,rfl,rfl,hH,hB,hz,q⟩:=h;cases rx;obtain⟨u,rfl,ru⟩:=rv.one;cases ru;obtain⟨z,aw,n,r,hl,e⟩:=I.su hH;obtain⟨z2,ly,n2,r2,a7,e2⟩:=I.su hB;have hsz:aw.toArray.size+ly.toArray.size<=aco:=by rw[acb,acb];omega
 have Oh:¬ (!aw.toArray.isEmpty && afc (aw.toArray.size+ly.toArray.size))=true:=by rw[Of hsz,ah2];exact acq
 refine aiN F.slot_list_extend ⟨_,e,rfl⟩ F.entry_list_extend (F.args_list_extend_2 _ _)
  (AutoSeq1.list_extend_list_list_0 l aw.toArray n b ly.toArray n2 Oh (by rw[acb];omega) (by omega)) ⟨e,e2,?_⟩
 refine⟨.non,_,I.ER (its':=aw++ly) hH e (by simp) (r.append r2) ?_,rfl,q⟩;rw[acj];omega
def Oi:V->List V->Hp->VK->Prop:=λx vs H Q=>∃ l xs,x = .ref l/\vs=[]/\H l=some (.lst xs)/\Q .non (upd H l (.lst xs.reverse))
def EU:R2:=λx y H Q=>∃ l b xs zs,x = .ref l/\y = .ref b/\H l=some (.lst xs)/\H b=some (.lst zs)/\xs.length+zs.length<=aco/\∀ p,H p=none->Q (.ref p) (upd H p (.lst (xs++zs)))
theorem mF:bf X (aeN .Add) EU:=by
 intro pins s σ H x y v u Q I rx ry h;obtain⟨l,b,xs,zs,rfl,rfl,hH,hB,hz,q⟩:=h;cases rx;cases ry;obtain⟨z,aw,n,r,hl,e⟩:=I.su hH;obtain⟨z2,ly,n2,r2,a7,e2⟩:=I.su hB;refine PySem.P.add_list e e2 ?_ (by rw[acb,acb];omega);have ea:aw.toArray++ly.toArray=(aw++ly).toArray:=by simp
 rw[ea];exact⟨.ref _,_,I.Oe (t':=s.toks) (r.append r2) (by rw[acj];omega),rfl,q _ I.fresh⟩
end
section
set_option maxRecDepth 100000 in
end
section
end
end L2
namespace zg
open PySem PySem.W PySem.Calls PyProof.Rows
theorem Oj:∀ (ns:List Int) (vs:List ab1),WellAll P h vs (ns.map WData.int)->aeI vs ns:=by
 intro ns
 induction ns with
 | nil =>
  intro vs w;rw[agq] at w;cases w;exact .nil
 | cons n ns ih =>
  intro vs w;rw[acs] at w;cases w with
  | cons a b =>
   cases a;exact .cons _ _ (ih _ b)
theorem Ol{l:OpenLaw}{n:Nat}(hn:l.most=some n){P:Params}{h:aek}{args:List WData}{vals:List ab1}
 (EV:l.row.toRowW.claim.pre args=true) (Oo:WellAll P h vals args) :
 ∃ a vs ns,vals=[acy a]/\args=[WData.list (ns.map WData.int)]/\h.get? a=some { cls:=.type "list",data:=.seq vs.toArray }/\aeI vs ns/\ns.length<=n:=by
 have Oq:WShape.hasAll [] args [.list .int]=true:=(pre_splitW EV).1;have hc:l.pre.holds [] { args:=args }=true:=(pre_splitW EV).2;obtain⟨d,r,rfl,h1,h2⟩:=hasAllW_cons Oq;obtain rfl:=hasAllW_nil h2;obtain⟨xs,rfl,h3⟩:=hasW_list h1;obtain⟨ns,rfl⟩:=items_int h3;have hlen:ns.length<=n:=by
  unfold OpenLaw.pre at hc;have h4:(WTm.not (.lt (.lit (.int (n:Int))) (.len (.arg 0)))).holds [] { args:=[.list (ns.map .int)] }=true:=by have h4:=(holds_andW hc).1;rw[hn] at h4;exact h4
  have h5:=condW_of h4 (w_not (w_lt w_lit (w_len_list (w_arg rfl))));rw[abT] at h5;refine Nat.le_of_not_lt λq=>?_;have q':(n:Int)<((ns.length:Nat):Int):=by omega
  first
   | (rw[decide_eq_true q'] at h5;exact absurd h5 (by decide))
   | (simp at h5;omega)
 cases Oo with
 | cons w1 w2 =>
  cases w2;cases w1 with
  | list ho hall=>exact⟨_,_,ns,rfl,rfl,ho,Oj ns _ hall,hlen⟩
theorem Ot(l:OpenLaw)(args:List WData):l.row.toRowW.claim.post args (.bool true) args=true :=
 postW_of (r:=l.row.toRowW) (X:=(true == true))
  (show WShape.has [] (.bool true) .bool=true by first|rfl|decide|simp[WShape.has,WShape.arms,WShape.armsAll])
  (show (WTm.eq .res (.lit (.bool true))).value [] { args:=args,res:=some (.bool true),after:=args }=some (.bool (true == true)) from w_eq_bool (w_res rfl) w_lit) rfl
section
end
end zg
namespace L2
open PySem PySem.Spec PyProof.Rows
theorem EW:∀ {vs:List ab1} {ns:List Int},aeI vs ns->Vals (ns.map V.int) vs:=by
 intro y y h
 induction h with
 | nil=>exact .nil
 | cons n t h ih=>exact .cons ⟨t,rfl⟩ ih
def EX(H:Hp):Prop:=∀ b,H b=none ∨ ∃ o xs,H b=some (.aW o (.lst xs))
theorem Ou{P:acK}{w:ado}{K:abU}{mg mb:Str->Option ab1}{CX:gU}{k:Nat}{fa a:ab6}{fd:aeO}{x:Str}{sp:Sp}{s₁:ab9}{vs:List ab1}{ns:List Int}
 (KX:K.In s₁.heap) (nP:s₁.heap.Ns ady mg) (hb:s₁.heap.Ns ajJ mb) (Ov:∀ x:Str,x ≠ "__name__" -> mb x=acJ x) (Ow:s₁.heap.NoLimit) (hg:s₁.gens = #[])
 (ha:s₁.heap.get? a=some { cls:=.type "list",data:=.seq vs.toArray }) (hi:aeI vs ns) (hl:ns.length<=aco) (hr:bI k ajn)
 (F:∀ base:aek,K.In base->base.Ns ady mg->eI P w K mg base CX k fa fd [x] sp) (Ox:∀ (s:ab9) (u:ab1),aiJ s fd ⟨[u],[]⟩ [(x,u)])
 (mz:∀ H:Hp,EX H->ai K H a (ns.map V.int)->sp [.ref a] H (λv _=>v = .bl true) λ_ _ _=>False)
 (Oy:∀ H e s',CX [] H s₁ (λ_ _ _=>False) e s'->False) :
 aeV (model P w) ajn (.call (.ref fa) ⟨[.ref a],[]⟩) (λr s'=>r = .ok (.ret (.bool true))/\OldK s₁.heap s'.heap/\s'.os=s₁.os/\ahy s'.gens) s₁:=by
 have rv:=EW hi;have Oz:=hi.length;have core:∀ H:Hp,EX H->ai K H a (ns.map V.int)->b7 P w H s₁.heap->(∀ b,H b≠none->b=a)->(H a≠none->K.lookup a=none) ->
  aeV (model P w) ajn (.call (.ref fa) ⟨[.ref a],[]⟩) (λr s'=>r = .ok (.ret (.bool true))/\OldK s₁.heap s'.heap/\s'.os=s₁.os/\ahy s'.gens) s₁:=by
  intro H hO hS az hA hK;have EY:∀ {b:ab6} {o:Obj},s₁.heap.get? b=some o->H b=none->(k8 s₁.heap H).get? b=some o:=λe n=>MR e n;have iF:∀ {b:ab6} {o:Obj} {es:Array afL} {ep:Nat},s₁.heap.get? b=some o->o.data = .dict es ep->H b=none:=λ{b o es ep} e d=>by
   cases q:H b with
   | none=>rfl
   | some u =>
    have e':b=a:=hA b (by rw[q];simp);subst e';rw[ha] at e;cases e;have d':Data.seq vs.toArray _=Data.dict es ep:=d;cases d'
  have vG:∀ {b:ab6} {m:Str->Option ab1},s₁.heap.Ns b m->(k8 s₁.heap H).Ns b m:=λ{b m} ⟨o,es,ep,e,d,r⟩=>⟨o,es,ep,EY e (iF e d),d,r⟩
  have EZ:K.In (k8 s₁.heap H):=λb o e=>EY (KX b o e) (by
   cases q:H b with
   | none=>rfl
   | some u =>
    have e':b=a:=hA b (by rw[q];simp);subst e';rw[hK (by rw[q];simp)] at e;cases e)
  have hM:Mod K mg (k8 s₁.heap H):=⟨EZ,vG nP,⟨mb,vG hb,Ov⟩,let ⟨mc,h1,h2⟩:=Ow;⟨mc,vG h1,h2⟩⟩
  have e0:nM P w K mg (k8 s₁.heap H) ajn [] s₁ H:=⟨rfl,hM,λb o e=>MS e,akb (MQ _ _),trivial,λb hb=>absurd (show b∈([]:List ab6) from hb) (by simp),az,.of_eq hg⟩
  refine afI ((F _ EZ (vG nP)).run ajn [] s₁ H ⟨[.ref a],[]⟩ [.ref a] [.ref a] _ _ hr e0 (Ox s₁ (.ref a)) (.cons rfl .nil) (mz H hO hS)) λr s' h=>?_;cases r with
  | error e=>exact (Oy H e s' h).elim
  | ok fl =>
   cases fl with
   | next=>exact ad6 h
   | brk=>exact ad6 h
   | cont=>exact ad6 h
   | ret u =>
    obtain⟨v,H',os,bare,un,OA,r',q⟩:=h;have q':v = .bl true:=q;subst q';obtain rfl:u=adt true:=r';refine⟨rfl,OldK.of_keep λb o e=>?_,os,bare⟩;cases q:H b with
    | none=>exact un.keep b o e q (by intro z;exact absurd (show b∈([]:List ab6) from z) (by simp)) (by simp)
    | some u =>
     rcases hO b with z|⟨ob,xs,z⟩
     .rw[q] at z;cases z
     .have z2:=un.fu b ob _ z;obtain⟨e1,_⟩:=az b _ z;obtain⟨e2,_⟩:=OA b _ z2;rw[e] at e1;cases e1;exact e2
 cases hk:K.lookup a with
 | some o =>
  have e:=KX a o hk;rw[ha] at e;cases e;refine core (λ_=>none) (λ_=>.inl rfl) (.inr ⟨_,vs.toArray,_,hk,rfl,rfl,rfl,by rw[acb,Oz];exact hl,by simpa using rv⟩) (λb u z=>by have z':(none:Option HO)=some u:=z;cases z') (λb z=>absurd rfl z) λz=>absurd rfl z
 | none =>
  refine core (λb=>if b=a then some (.aW { cls:=.type "list",data:=.seq vs.toArray } (.lst (ns.map V.int))) else none) (λb=>?_) (.inl (.inr ⟨{ cls:=.type "list",data:=.seq vs.toArray },if_pos rfl⟩)) (λb u z=>?_) (λb z=>?_) λ_=>hk
  .by_cases hb:b=a
   .exact .inr ⟨_,_,if_pos hb⟩
   .exact .inl (if_neg hb)
  .by_cases hb:b=a
   .have z':=(if_pos hb).symm.trans z;cases z';subst hb;exact⟨ha,by rw[abT];exact hl,vs,_,rv,ha⟩
   .have z':=(if_neg hb).symm.trans z;cases z'
  .by_cases hb:b=a
   .exact hb
   .exact absurd (if_neg hb) z
def inClass(s:ag3)(j:Nat):ag3:=match s with
 | .ClassDef _ _ _ body _ _ _ _ _ _ _=>body.getD j (.Pass ⟨0,0,0,0⟩)
 | _=>.Pass ⟨0,0,0,0⟩
noncomputable def pP(s:ag3):Arguments:=match s with
 | .FunctionDef _ a _ _ _ _ _ _ _ _=>a
 | _=>{ posonlyargs:=[],args:=[],vararg:=none,kwonlyargs:=[],kw_defaults:=[],kwarg:=none,defaults:=[] }
noncomputable def i4(s:ag3):List ag3:=match s with
 | .FunctionDef _ _ b _ _ _ _ _ _ _=>b
 | _=>[]
noncomputable def eK(s:ag3):ahT:=match s with
 | .FunctionDef _ _ _ _ _ _ sc _ _ _=>sc
 | _=>{ kind:=.function,names:=[],isGenerator:=false,isCoroutine:=false }
abbrev E0:XK:=λy y y=>False
structure nQ(K:abU)(x qual:Str)(st:ag3)(f:ab6)(fd:aeO):Prop where
 ex:∃ (oc:ab1) (od:Option ab6) (kV doc pm:ab1) (an:Option ab6) (a8 ct:ab1) (kC:Array (Option ab1)),
  fd=aeH x qual (pP st) (i4 st) (eK st) .none kV doc pm an a8 ct/\K.lookup f=some ⟨oc,od,.func fd,kC⟩/\agy K a8 qual=true
 kp:aeg K (.ref f)=true
section
variable{P:acK}{w:ado}{K:abU}{mg:Str->Option ab1}{base:aek}
theorem nQ.binds{x qual:Str}{st:ag3}{f:ab6}{fd:aeO}{ps:List Str}(F:nQ K x qual st f fd)
 (h:∀ (kV doc pm:ab1) (an:Option ab6) (a8 ct:ab1) (us:List ab1),us.length=ps.length->bindArgs (aeH x qual (pP st) (i4 st) (eK st) .none kV doc pm an a8 ct) ⟨us,[]⟩=pure (ps.zip us)):Binds K fd ps []:=by
 obtain⟨oc,od,kV,doc,pm,an,a8,ct,kC,rfl,lk,gA⟩:=F.ex;exact .all (h kV doc pm an a8 ct)
theorem vH{x qual:Str}{st:ag3}{f:ab6}{oc:ab1}{od an:Option ab6}{kC:Array (Option ab1)}{kV doc pm a8 ct:ab1}(l:K.lookup f=some ⟨oc,od,.func (aeH x qual (pP st) (i4 st) (eK st) .none kV doc pm an a8 ct),kC⟩)
 (c:agy K a8 qual=true) (k:aeg K (.ref f)=true):nQ K x qual st f (aeH x qual (pP st) (i4 st) (eK st) .none kV doc pm an a8 ct):=⟨⟨oc,od,kV,doc,pm,an,a8,ct,kC,rfl,l,c⟩,k⟩
end
theorem dW(hr:bI k A):A.units+1<af0:=ac5 (Nat.add_le_add_left (by decide:1<=64) _) hr.units
section
theorem pv(i:Nat)(hN:X.N[i]?=some x:=by rfl)(hv:uZ X.env.scope x:=by first|exact afM rfl|exact ai1 (afM rfl)|exact ai1 (ai1 rfl))(hd:(x == ("__debug__" : Str))=false:=by decide)(gA:(x == ("__classdict__" : Str))=false:=by decide):PE X (.Name x pos) (yz i):=MV hN hv hd gA
end
def ah(H H':Hp):Prop:=∀ b o,H b=some o->H' b=some o
theorem ah.refl(H:Hp):ah H H:=λy y h=>h
theorem ah.trans(a:ah H H1)(b:ah H1 H2):ah H H2:=λc o h=>b c o (a c o h)
theorem ah.free(e:ah H H')(h:H' l=Option.none):H l=Option.none:=by
 cases q:H l with
 | none=>rfl
 | some o =>
  rw[e l o q] at h;cases h
theorem ah.seq{K:abU}{H H':Hp}{a:ab6}{xs:List V}(e:ah H H')(h:ai K H a xs):ai K H' a xs:=by
 rcases h with (h|⟨o,h⟩)|h
 .exact .inl (.inl (e _ _ h))
 .exact .inl (.inr ⟨o,e _ _ h⟩)
 .exact .inr h
end L2
namespace Gz
open PySem PySem.Spec PyProof.Rows L2
def Bd(n:Nat)(x:Int):Prop:=x.natAbs<2 ^ n
theorem Bd.up(h:Bd n x)(hm:n<=m):Bd m x:=acg h (Nat.pow_le_pow_right (by decide) hm)
theorem Bd.bits(h:Bd n x):aeu x<=n:=by
 unfold aeu;by_cases e:x=0
 .subst e;simp
 .have e0:¬ ((x == 0)=true):=by simpa using e
  rw[if_neg e0];have hn:x.natAbs≠0:=by lia
  have:=(akr hn).mpr h;lia
theorem Bd.log(h:Bd n x)(hn:n<=9000)(h0:0<n):x.natAbs.log2<9000:=by
 by_cases e:x.natAbs=0
 .rw[e];decide
 .have:=(akr e).mpr h;lia
def pQ(i j:Int):Prop:=Bd 4000 i/\Bd 4000 j
theorem pQ.ok(h:pQ i j):IntMulOk i j :=
 IntMulOk.of_bits (ab3 h.1.bits (by decide)) (ab3 h.2.bits (by decide))
section
theorem OB:bf X (aeN .Mult) (rI pQ λi j=>.int (i * j)):=rS λy y y y y y y hc q=>mul_int q hc.ok
theorem E1:bf X (aeN .FloorDiv) (rI (λy j=>0<j/\Bd 4000 j) λi j=>.int (i / j)):=rS λi j y y y y y hc q=>by have h1:(0:Int)<j:=hc.1;exact floordiv_int (by lia) (by rw[Int.fdiv_eq_ediv_of_nonneg i (by lia)];exact q) (.inl (PyProof.noPylong_of_log2 (hc.2.log (by decide) (by decide))))
noncomputable def kF:V->ab1
 | .ref a=>.ref a
 | .ty n=>.type n
 | _=>.none
theorem OC:eU X (.builtin "isinstance") (λxs H Q=>∃ x c t b,xs=[x,c]/\dU X.K H x t/\kF c ≠ .none/\acW X.K t (kF c)=some b/\Q (.bl b) H):=by
 intro pins s σ H xs us Q I r h;obtain⟨x,c,t,b,rfl,ty,hc,e,q⟩:=h;obtain⟨u,v,rfl,rx,rc⟩:=vals2 r;have ev:v=kF c:=by
  cases c with
  | ref a=>exact rc
  | ty n=>exact rc
  | non=>exact absurd rfl hc
  | bl _=>exact absurd rfl hc
  | int _=>exact absurd rfl hc
  | str _=>exact absurd rfl hc
  | byt _=>exact absurd rfl hc
  | flt _=>exact absurd rfl hc
 subst ev;exact ND I rx ty e λtk=>⟨.bl b,H,I.tok tk,rfl,q⟩
end
theorem vI{K:abU}{t:ab1}:acW K t t=some true:=by unfold acW;rw[if_pos (by simp)]
theorem vJ{K:abU}{a c:String}{b:Bool}(h:ajo c=true)(h2:(PySem.fastBuiltinMro a).map (·.contains (.type c))=some b)(h3:(a == c)=false):acW K (.type a) (.type c)=some b:=by
 unfold acW;have e:¬ ((agG a == agG c)=true):=by simp only[beq_iff_eq,Value.type.injEq];simpa using h3
 rw[if_neg e];show (if ajo c=true then ag6 K (.type a) (.type c) else none)=some b;rw[if_pos h];exact h2
theorem OD{K:abU}:acW K (.type "int") (.type "bool")=some false:=vJ (by decide +kernel) (by decide +kernel) (by decide)
theorem OE{K:abU}:acW K (.type "bool") (.type "int")=some true:=vJ (by decide +kernel) (by decide +kernel) (by decide)
theorem OF{K:abU}:acW K (.type "NoneType") (.type "int")=some false:=vJ (by decide +kernel) (by decide +kernel) (by decide)
theorem OG{K:abU}:acW K (.type "NoneType") (.type "tuple")=some false:=vJ (by decide +kernel) (by decide +kernel) (by decide)
theorem vK:acJ "len" = some (.builtin "len"):=by decide +kernel
theorem mG:acJ "min" = some (.builtin "min"):=by decide +kernel
theorem sA:acJ "max" = some (.builtin "max"):=by decide +kernel
theorem iH:acJ "isinstance" = some (.builtin "isinstance"):=by decide +kernel
theorem E2:acJ "sorted" = some (.builtin "sorted"):=by decide +kernel
theorem E3:acJ "any" = some (.builtin "any"):=by decide +kernel
theorem sC:acJ "all" = some (.builtin "all"):=by decide +kernel
theorem E4:acJ "sum" = some (.builtin "sum"):=by decide +kernel
theorem OH:acJ "int" = some (.type "int"):=by decide +kernel
theorem OI:acJ "bool" = some (.type "bool"):=by decide +kernel
theorem mH:acJ "list" = some (.type "list"):=by decide +kernel
theorem vL:acJ "tuple" = some (.type "tuple"):=by decide +kernel
theorem E5:acJ "enumerate" = some (.type "enumerate"):=by decide +kernel
theorem OJ:acJ "zip" = some (.type "zip"):=by decide +kernel
theorem OL:acJ "reversed" = some (.type "reversed"):=by decide +kernel
noncomputable def zh:V->V->Option Bool
 | .int _,.ty n=>if n = "int" then some true else if n = "bool" then some false else none
 | .bl _,.ty n=>if n = "int" then some true else if n = "bool" then some true else none
 | .non,.ty n=>if n = "int" then some false else if n = "tuple" then some false else none
 | _,_=>none
def jJ(K:abU)(x c:V)(H:Hp)(Q:VK):Prop:=match zh x c with
 | some b=>Q (.bl b) H
 | none=>∃ t b,dU K H x t/\kF c ≠ .none/\acW K t (kF c)=some b/\Q (.bl b) H
section
theorem lB:eU X (.builtin "isinstance") (λxs H Q=>∃ x c,xs=[x,c]/\jJ X.K x c H Q):=by
 intro pins s σ H xs us Q I r h;obtain⟨x,c,rfl,h⟩:=h;refine OC pins s σ H _ us Q I r ?_;cases e:zh x c with
 | none =>
  unfold jJ at h;rw[e] at h;obtain⟨t,b,h1,h2,h3,h4⟩:=h;exact⟨x,c,t,b,rfl,h1,h2,h3,h4⟩
 | some b =>
  unfold jJ at h;rw[e] at h;unfold zh at e;split at e
  .rename_i i n;split at e
   .rename_i z;subst z;cases e;exact⟨_,_,_,_,rfl,dU.int i,(λz=>nomatch z),vI,h⟩
   .split at e
    .rename_i z;subst z;cases e;exact⟨_,_,_,_,rfl,dU.int i,(λz=>nomatch z),OD,h⟩
    .cases e
  .rename_i i n;split at e
   .rename_i z;subst z;cases e;exact⟨_,_,_,_,rfl,dU.bl i,(λz=>nomatch z),OE,h⟩
   .split at e
    .rename_i z;subst z;cases e;exact⟨_,_,_,_,rfl,dU.bl i,(λz=>nomatch z),vI,h⟩
    .cases e
  .rename_i n;split at e
   .rename_i z;subst z;cases e;exact⟨_,_,_,_,rfl,dU.non,(λz=>nomatch z),OF,h⟩
   .split at e
    .rename_i z;subst z;cases e;exact⟨_,_,_,_,rfl,dU.non,(λz=>nomatch z),OG,h⟩
    .cases e
  .cases e
end
section
variable{K:abU}{H:Hp}{Q:VK}{i:Int}{b:Bool}{p:ab6}{xs:List V}
theorem OM:jJ K (.int i) (.ty "int") H Q=Q (.bl true) H:=rfl
theorem ON:jJ K (.int i) (.ty "bool") H Q=Q (.bl false) H:=rfl
theorem OO:jJ K (.bl b) (.ty "int") H Q=Q (.bl true) H:=rfl
theorem OP:jJ K (.bl b) (.ty "bool") H Q=Q (.bl true) H:=rfl
theorem OQ:jJ K .non (.ty "int") H Q=Q (.bl false) H:=rfl
theorem OR:jJ K .non (.ty "tuple") H Q=Q (.bl false) H:=rfl
theorem vM(h:H p=some (.tup xs))(q:Q (.bl true) H):jJ K (.ref p) (.ty "tuple") H Q:=⟨_,_,dU.tup h,(λz=>nomatch z),vI,q⟩
theorem zi(h:H p=some (.lst xs))(q:Q (.bl true) H):jJ K (.ref p) (.ty "list") H Q:=⟨_,_,dU.lst h,(λz=>nomatch z),vI,q⟩
end
def dM(P:acK)(w:ado):gU:=λouter H s E e s' =>
 ∃ (x:ab6) (cls a0:ab1) (H':Hp) (B:aek),e = .ref x/\s'.os=s.os/\ahy s'.gens/\Un (bc outer) [] H H' s.heap s'.heap /\
  (∀ b o,s.heap.get? b=some o->H b=none->b∉bc outer->B.get? b=some o)/\(∀ b o,s.heap.get? b=some o->b∉bc outer->∃ o',B.get? b=some o')/\b7 P w H' B/\H' x=none/\s.heap.get? x=none /\
  ai2 B outer x cls a0 s'.heap/\E cls none H'
theorem bB:Passes (dM P w) X E0:=by rintro y y y y y y y ⟨y,y,y,y,y,y,y,y,y,y,y,y,y,y,y,h⟩;exact h.elim
theorem OS(h:dM P w outer H s (λy y y=>False) e s'):False:=by obtain⟨y,y,y,y,y,y,y,y,y,y,y,y,y,y,y,h⟩:=h;exact h
section
variable{P:acK}{w:ado}{K:abU}{mg:Str->Option ab1}{base:aek}
theorem okN{x qual:Str}{st:ag3}{f:ab6}{fd:aeO}{N ps:List Str}{k:Nat}{sp:Sp}(F:nQ K x qual st f fd)(S:rZ N ps (eK st))(len:∀ vs H Q E,sp vs H Q E->vs.length=ps.length)
 (iG:∀ (a8:ab1) (A:adz) (outer:List Env) (s:ab9) (H:Hp) (vs:List V) (Q:VK) (E:XK),bI k (A.deeper (adJ qual (eK st) s.heap.objs.size f a8))->sp vs H Q E ->
   ∃ t,aR (fN (dM P w) P w K mg base N qual (eK st) f a8 A outer s H E).pF (i4 st) t/\t { nx:=λy H'=>Q .non H',rt:=Q } (start N vs) H):eI P w K mg base (dM P w) (k+1) f fd ps sp:=by
 obtain⟨oc,od,kV,doc,pm,an,a8,ct,kC,rfl,lk,gA⟩:=F.ex;refine Ey lk gA S len λA outer s H vs Q E hr mz=>?_;obtain⟨t,h,q⟩:=iG a8 A outer s H vs Q E hr mz;exact⟨t,h.pF,q⟩
end
theorem OT(a b:Int):lp (.int a) (.int b)=true:=rfl
theorem OU(a b:Bool):lp (.bl a) (.bl b)=true:=rfl
theorem OV(a:Int):lp (.int a) .non=true:=rfl
theorem OW(a:Int):lp .non (.int a)=true:=rfl
theorem OX:lp .non .non=true:=rfl
theorem ite_tt:(if true=true then A else B)=A:=if_pos rfl
theorem ite_ff:(if false=true then A else B)=B:=if_neg acq
theorem OY{CX:gU}{P:acK}{w:ado}{K:abU}{mg:Str->Option ab1}{base:aek}{N:List Str}{qual:Str}{scope:ahT}{f:ab6}{cd:ab1}{A:adz}{outer:List Env}{s:ab9}{H:Hp}{E:XK} :
 (fN CX P w K mg base N qual scope f cd A outer s H E).K=K:=rfl
theorem OZ{CX:gU}{P:acK}{w:ado}{K:abU}{mg:Str->Option ab1}{base:aek}{N:List Str}{qual:Str}{scope:ahT}{f:ab6}{cd:ab1}{A:adz}{outer:List Env}{s:ab9}{H:Hp}{E:XK} :
 (fN CX P w K mg base N qual scope f cd A outer s H E).N=N:=rfl
section
variable{K:abU}{H H':Hp}{a p:ab6}{xs ys:List V}{i:Int}{v:V}{Q:VK}
theorem fg(e:ah H H')(h:aj K H a xs):aj K H' a xs:=by
 rcases h with (h|⟨o,h⟩)|h
 .exact .inl (.inl (e _ _ h))
 .exact .inl (.inr ⟨o,e _ _ h⟩)
 .exact .inr h
theorem ak(h:H p=none):ah H (upd H p o):=λb u e=>by rw[aF (jB e h)];exact e
theorem ay(h:aj K H p xs)(e:de xs i=some v)(q:Q v H):kE K (.ref p) (.int i) H Q:=.inr (.inl ⟨p,xs,i,v,rfl,rfl,h,e,q⟩)
theorem bJ(h:ai K H p xs)(e:de xs i=some v)(q:Q v H):kE K (.ref p) (.int i) H Q:=.inl ⟨p,xs,i,v,rfl,rfl,h,e,q⟩
theorem eW(h:ai K H p xs):vx K (.ref p) H xs.length:=.inl ⟨xs,h,rfl⟩
theorem nR(h:aj K H p xs):vx K (.ref p) H xs.length:=.inr ⟨xs,h,rfl⟩
end
noncomputable def isWhole:V->Bool
 | .int _=>true
 | _=>false
def FJ(J:It)(g:TG)(tb:TS)(D:Ends)(σ:L2.St)(H:Hp):Prop:=∃ W:Nat->Nat->L2.St->Hp->Prop,(∃ m,W 0 m σ H)/\∀ i m σ H,W i m σ H ->
 (J.stop i H/\D.nx σ H)∨(J.go i H/\∃ N:L2.St->Hp->Prop,(∀ σ' H',N σ' H'->∃ m',m'<m/\W (i+1) m' σ' H')/\∀ x H',J.yld i H x H'->g x σ H' λσ2 H2=>tb { D with nx:=N,ct:=N,bk:=D.nx } σ2 H2)
section
variable{K:abU}{g:TG}{tb:TS}{D:Ends}{σ:L2.St}{H:Hp}{a:ab6}{xs:List V}{lo:Int}{n:Nat}
theorem O0:kB (yF ta) g tb D σ H=ta σ H (λvs H1=>∃ j:Int,vs=[.int j]/\-(2 ^ 62)<=j/\j<2 ^ 62/\FJ (iY 0 j.toNat) g tb D σ H1):=rfl
theorem O2{tl:TE}:kB (yC K tl) g tb D σ H=tl σ H (λx H1=>∃ a,x = .ref a/\(∃ xs,ai K H1 a xs)/\FJ (kA K a) g tb D σ H1):=rfl
theorem O3{tl:TE}:kB (yD K tl) g tb D σ H=tl σ H (λx H1=>∃ a,x = .ref a/\(∃ xs,aj K H1 a xs)/\FJ (rO K a) g tb D σ H1):=rfl
theorem pR(Pv:Nat->L2.St->Hp->Prop)(h0:Pv 0 σ H)(hs:∀ i σ H,i<n->Pv i σ H->g (.int (lo+i)) σ H λσ2 H2=>tb { D with nx:=Pv (i+1),ct:=Pv (i+1),bk:=D.nx } σ2 H2)(hd:∀ σ H,Pv n σ H->D.nx σ H):FJ (iY lo n) g tb D σ H:=Na Pv h0 hs hd
theorem gD(Pv:Nat->L2.St->Hp->Prop)(h0:Pv 0 σ H)(hl:∀ i σ H,i<=xs.length->Pv i σ H->ai K H a xs)(hs:∀ i x σ H,xs[i]?=some x->Pv i σ H->g x σ H λσ2 H2=>tb { D with nx:=Pv (i+1),ct:=Pv (i+1),bk:=D.nx } σ2 H2)(hd:∀ σ H,Pv xs.length σ H->D.nx σ H):FJ (kA K a) g tb D σ H:=M9 Pv h0 hl hs hd
end
theorem aX:(2:Nat)<=aco:=by decide
theorem vN(h:x.natAbs<2 ^ 200):Bd 4000 x:=Bd.up (n:=200) h (by decide)
theorem O4(h:x.natAbs<2 ^ 200)(h':y.natAbs<2 ^ 200):pQ x y:=⟨vN h,vN h'⟩
section
end
section
variable{K:abU}{H H1:Hp}{l p:ab6}{xs ys:List V}{o:HO}
theorem jK(hl:H l=none)(s:ah H H1):ah H (upd H1 l o):=λb u e=>by rw[aF (jB e hl)];exact s b u e
theorem zj(h:aj K H1 p xs)(hl:H1 l=some (.lst ys)):aj K (upd H1 l o) p xs:=by
 rcases h with (h|⟨z,h⟩)|h
 .exact .inl (.inl (by rw[aF (pq h hl (λe=>nomatch e))];exact h))
 .exact .inl (.inr ⟨z,by rw[aF (pq h hl (λe=>nomatch e))];exact h⟩)
 .exact .inr h
end
end Gz
namespace Gz
open PySem PySem.W PySem.Spec PySem.Calls PyProof.Rows Builtin Builtin.ObjectAttr Builtin.Getset_descriptor
section
variable{prog:acK}{w:ado}{A:adz}{E:ab1->ab9->Prop}{s:ab9}{K:Frag}{x C:ab6}{oe:Obj}{R:aiY->ab9->Prop}
theorem O5{tp:ab1}(X:K.In s.heap)(he:s.heap.get? x=some oe)(hc:oe.cls = .ref C)(hm:mroIn K C (.type "object")=some true)
 (h:R (.ok (.ret (.ref C))) s):aeV (model prog w) A (.call (.builtin "getset_descriptor.__get__") ⟨[.builtin "object.__class__",.ref x,tp],[]⟩) R s:=by
 obtain⟨hh,g,dr,t,os⟩:=s;have L0:Looks (model prog w) hh (akc (.ref x)) (.ref C):=hc ▸ (Looks.ld he).andThen .now;have L1:=looks_mroIn (M:=model prog w) X hm;refine aeW KF.slot_gs.plain KF.entry_gs (KF.slot_gs.check _ _ _ _ _ _ _ _ KF.type_class (KF.args_gs _ _ _) ?_);unfold adY.«getset_descriptor.__get__» descrGet;rw[dga_obj];refine abS (abX ?_);unfold descrGetter descrCheckInstance descrNameAndClass ajN;simp only[KF.owner_class]
 repeat lk
 refine⟨Code.quiet_builtin _ (by decide +kernel),ac4 KF.entry_class ?_⟩;unfold adY.«object.__class__» shownTypeOf
 repeat lk
 exact h
theorem O6{tk:Tok}{Q:Fin->ab9->Prop}(X:K.In s.heap)(he:s.heap.get? x=some oe)(hc:oe.cls = .ref C)(hm:mroIn K C (.type "object")=some true)
 (g3:findIn K (.ref C) "__class__" = some (some (.builtin "object.__class__"))) (h:Q (.done (.ret (.ref C))) s) :
 ack (model prog w) A (adY.«object.__getattribute__» ⟨[.ref x,.str "__class__" tk],[]⟩) Q E s:=by
 obtain⟨hh,g,dr,t,os⟩:=s;have L0:Looks (model prog w) hh (akc (.ref x)) (.ref C):=hc ▸ (Looks.ld he).andThen .now;have L1:=looks_findIn (M:=model prog w) X g3;have f5:=KF.type_class;have f6:=F.slot_gs_get.lookup;have f7:=F.slot_gs_set.lookup
 repeat (any_goals (first|assumption|(with_reducible refine L0.at ?_)|(with_reducible refine L1.at ?_)|wp_step))
 refine O5 X he hc hm ?_
 repeat (any_goals (first|assumption|wp_step))
theorem O7{E6:ab1}{Q:Unit->ab9->Prop}(X:K.In s.heap)(he:s.heap.get? x=some oe)(hc:oe.cls = .ref C)(hb:mroIn K C (.type "BaseException")=some true)(h:Q () s) :
 ack (model prog w) A (afV "BaseException.__getattribute__" ⟨[.ref x,E6],[]⟩) Q E s:=by
 obtain⟨hh,g,dr,t,os⟩:=s;have hk:aib "BaseException.__getattribute__" = some .slot:=by decide +kernel
 have O8:splitId "BaseException.__getattribute__" = some ("BaseException","__getattribute__"):=by decide +kernel
 have ha:=F.args_bexc_ga (.ref x) E6;have L0:Looks (model prog w) hh (akc (.ref x)) (.ref C):=hc ▸ (Looks.ld he).andThen .now;have L1:=looks_mroIn (M:=model prog w) X hb;simp only[afV,hk,O8];refine abS ?_;unfold ajN
 repeat (first|(with_reducible refine L0.at ?_)|(with_reducible refine L1.at ?_)|wp_step)
 exact h
theorem O9{Q:Option ab1->ab9->Prop}(X:K.In s.heap)(he:s.heap.get? x=some oe)(hc:oe.cls = .ref C)(hm:mroIn K C (.type "object")=some true)(hb:mroIn K C (.type "BaseException")=some true)
 (g1:findIn K (.ref C) "__getattribute__" = some (some (.builtin "BaseException.__getattribute__"))) (g2:findIn K (.ref C) "__getattr__" = some none)
 (g3:findIn K (.ref C) "__class__" = some (some (.builtin "object.__class__"))) (h:Q (some (.ref C)) { s with toks:=s.toks+1 }) :
 ack (model prog w) A (getAttr? (.ref x) "__class__") Q E s:=by
 obtain⟨hh,g,dr,t,os⟩:=s;have L0:Looks (model prog w) hh (akc (.ref x)) (.ref C):=hc ▸ (Looks.ld he).andThen .now;have L1:=looks_findIn (M:=model prog w) X g1;have L2:=looks_findIn (M:=model prog w) X g2;have f3:=F.excAttr_ValueError.ga.bind (.ref x);have mI:(ag7 "BaseException.__getattribute__" == ag7 "object.__getattribute__")=false:=by decide +kernel
 have kG:(onTheHeap (acy C) && ag7 "BaseException.__getattribute__" == ag7 "object.__getattribute__")=false:=by rw[mI];rfl
 unfold getAttr? getAttrBy?
 repeat (any_goals (first|assumption|(with_reducible refine L0.at ?_)|(with_reducible refine L1.at ?_)|(with_reducible refine L2.at ?_)|wp_step))
 refine aeW F.excAttr_ValueError.ga.plain F.entry_bexc_ga (O7 X he hc hb (O6 X he hc hm g3 ?_))
 repeat (any_goals (first|assumption|wp_step))
end
structure XC(K:Frag)(C:ab6):Prop where
 ex:excIn K C [.type "ValueError",.type "Exception",.type "BaseException",.type "object"] "ValueError.__new__" = true
 mo:mroIn K C (.type "object")=some true
 mb:mroIn K C (.type "BaseException")=some true
 ga:findIn K (.ref C) "__getattribute__" = some (some (.builtin "BaseException.__getattribute__"))
 gr:findIn K (.ref C) "__getattr__" = some none
 gc:findIn K (.ref C) "__class__" = some (some (.builtin "object.__class__"))
theorem XC.cls{K:Frag}{C:ab6}(x:XC K C):∃ c d cd sl,K.lookup C=some ⟨c,d,.cls cd,sl⟩:=by
 have q:=x.ex;unfold excIn at q;split at q
 .rename_i dd cd sl ho;exact⟨_,_,_,_,ho⟩
 .cases q
theorem Pb{K:Frag}{x C:ab6}(c:XC K C):KitX K (.ref x) (.ref C) (λh=>∃ oe:Obj,h.get? x=some oe/\oe.cls = .ref C) where
 ty:=λ_ _ _ ⟨oe,he,hc⟩=>hc ▸ (Looks.ld he).andThen .now
 it:=λy y X y=>by obtain⟨a,b,cd,sl,ho⟩:=c.cls;intro A' Q' E' s' k q;unfold isType loadHead;exact abS (wpAny_loadPart (k _ _ (X _ _ ho)) (abX q))
 ne:=λh tp dd aw n sl X gf=>by obtain⟨a,b,cd,sl,ho⟩:=c.cls;refine agP.mpr λq=>?_;have e:C=tp:=Value.ref.inj (beq_iff_eq.mp q);subst e;have z:=(X _ _ ho).symm.trans gf;cases z
 ca:=λX ⟨oe,he,hc⟩ k=>O9 X he hc c.mo c.mb c.ga c.gr c.gc k
theorem Pc{K:Frag}{h:aek}{C:ab6}(X:K.In h)(c:XC K C) :
 ∃ bm N nm q bs hdct sn sub ab col dd k0 k1 k2 k3 k5 mN,h.get? C=some (excClassObj nm q C N bs bm hdct sn sub ab col dd k0 k1 k2 k3 k5 "ValueError.__new__")/\h.Ns N mN/\mN "__init__" = none /\
  OwnTail h [.type "ValueError",.type "Exception",.type "BaseException",.type "object"] bm:=by
 have q:=c.ex;unfold excIn at q;split at q
 .rename_i dd cd sl ho;split at q
  .rename_i C' bm k0 k1 k2 k3 n k5 hm hs;simp only[acT,beq_iff_eq,Bool.not_eq_true'] at q;obtain⟨⟨⟨⟨⟨rfl,rfl⟩,hdel⟩,ht⟩,az⟩,hni⟩:=q;obtain⟨nm,bs,mro,ns,qn,hd,sn,sub,ab,col,del⟩:=cd;dsimp only at hm hdel az hni;subst hm hdel;have cP:sl = #[k0,k1,k2,k3,some (.builtin "ValueError.__new__"),k5]:=by obtain⟨l⟩:=sl;simp only at hs;rw[hs]
   subst cP;exact⟨bm,ns,nm,qn,bs,hd,sn,sub,ab,col,dd,k0,k1,k2,k3,k5,_,X _ _ ho,.of_isNs (isNs_of_in X az),nsMap_none_of_in X az hni,tail_of_in X ht⟩
  .cases q
 .cases q
open L2
noncomputable def gE(a C:ab6):HO:=.ext λh=>∃ oe:Obj,h.get? a=some oe/\oe.cls = .ref C
theorem Pd(he:h.get? a=some oe)(hc:oe.cls = .ref C):bM P w H h a (gE a C) :=
 ⟨⟨oe,he,hc⟩,⟨oe,he⟩,λh1 h2 ⟨o,e,c⟩ k=>⟨o,k o e,c⟩⟩
section
def E7(K:abU)(a:ab6)(c:V)(H:Hp)(Q:VK):Prop:=∃ C b,H a=some (gE a C)/\XC K C/\kF c ≠ .none/\acW K (.ref C) (kF c)=some b/\Q (.bl b) H
theorem vO{K:abU}(hK:X.K=K):eU X (.builtin "isinstance") (λxs H Q=>∃ a c,xs=[.ref a,c]/\E7 K a c H Q):=by
 subst hK;intro pins s σ H xs us Q I r h;obtain⟨a,c,rfl,C,b,ha,xc,hc,e,q⟩:=h;obtain⟨u,v,rfl,rx,rc⟩:=vals2 r;have ev:v=kF c:=by
  cases c with
  | ref a=>exact rc
  | ty n=>exact rc
  | non=>exact absurd rfl hc
  | bl _=>exact absurd rfl hc
  | int _=>exact absurd rfl hc
  | str _=>exact absurd rfl hc
  | byt _=>exact absurd rfl hc
  | flt _=>exact absurd rfl hc
 subst ev;cases (show u=acy a from rx);obtain⟨hp,y,y⟩:=(show bM X.prog X.w H s.heap a (gE a C) from I.az a _ ha)
 exact adh (Pb xc) I.cz hp e (λz=>nomatch z) λtk=>⟨.bl b,H,I.tok tk,rfl,q⟩
end
theorem vP{K:abU}{a C:ab6}{c:V}{H:Hp}{Q:VK}{b:Bool}(h:H a=some (gE a C))(xc:XC K C)(hc:kF c ≠ .none)(e:acW K (.ref C) (kF c)=some b)(q:Q (.bl b) H):E7 K a c H Q:=⟨C,b,h,xc,hc,e,q⟩
end Gz
namespace Gz
open PySem PySem.Spec PyProof.Rows L2
theorem bM.some(x:bM P w H h a o):∃ ob,h.get? a=some ob:=by
 cases o with
 | lst xs=>obtain⟨z,z,z,z,e⟩:=x;exact⟨_,e⟩
 | tup xs=>obtain⟨z,z,z,o,e,z⟩:=x;exact⟨_,e⟩
 | dK kvs=>obtain⟨z,z,z,z,o,z,z,e,z⟩:=x;exact⟨_,e⟩
 | dT kvs=>obtain⟨z,z,z,z,o,z,z,e,z⟩:=x;exact⟨_,e⟩
 | set S n=>obtain⟨o,z,z,z,e,z⟩:=x;exact⟨_,e⟩
 | ins C dx fs=>obtain⟨z,z,z,e,z⟩:=x;exact⟨_,e⟩
 | own y=>exact x
 | xd fs=>obtain⟨z,⟨z,z,z,e,z⟩,z⟩:=x;exact⟨_,e⟩
 | fI lo hi=>obtain⟨z,z,z,e⟩:=x;exact⟨_,e⟩
 | aW ob u=>obtain⟨e,z⟩:=x;exact⟨_,e⟩
 | tbl ps=>exact⟨_,x⟩
 | met f y=>exact⟨_,x⟩
 | ext φ=>exact x.2.1
def E8(X:Cx)(E:XK):Prop:=∀ (pins:List (ab6 × Obj)) (σ:L2.St) (H:Hp) (s:ab9) (e C:ab6) (vs:List ab1) (h':aek),Inv X pins σ H s->Heap.MadeExcOf s.heap h' e (.ref C) vs->E (.ref C) none H->X.xe (.ref e) { s with heap:=h' }
def vQ(C:ab6)(E:XK)(ta:TA):TS:=λD σ H=>ta σ H λvs H1=>vs.length<=aco/\E (.ref C) none H1
section
theorem i5{x:Str}{np dt pos:Pos}{e₀:afS}{rest:List afS}{ta:TA}{C:ab6}{E:XK}(hx:E8 X E)(hg:Gl X x)(hm:X.mg x=some (.ref C))(xc:XC X.K C)(hc:X.calm=true)(ha:PA X (e₀::rest) ta)
 (hd:(x == ("__debug__" : Str))=false:=by decide) (he:acm (e₀::rest) X.env=(false,eval e₀ X.env)::acm rest X.env:=by rfl)
 (dJ:(adF dt (acm rest X.env)).any (·.1)=false:=by rfl) :
 PS X (.Raise (some (.Call (.Name x np) (e₀::rest) [] dt)) none pos) (vQ C E ta):=by
 intro pins s σ H D I h;obtain⟨tl,N,nm,q,bs,hdct,sn,sub,ab,col,dd,k0,k1,k2,k3,k5,mN,hC,hN,hni,T⟩:=Pc I.ok.mod.iV xc;refine wpAny_Raise_call_subU (C:=C) (nm:=nm) (q:=q) (N:=N) (bs:=bs) (bm:=tl) (hdct:=hdct) (sn:=sn) (sub:=sub) (ab:=ab) (col:=col) (dd:=dd) (k0:=k0) (k1:=k1) (k2:=k2) (k3:=k3) (k5:=k5)
  agn (by decide +kernel) agn (mN:=mN) (T.hasType PySem.F.excBase_ValueError.hasBase) (I.ok.hd hc) (by rw[he];show (false || (adF dt (acm rest X.env)).any (·.1))=false;rw[dJ];rfl) hni (rG I hg hm ⟨rfl,?_⟩ hd)
 have sD:=ha dt pins s σ H _ I h;rw[he] at sD ⊢;refine afZ (ada sD (λus s₂ h₂=>?_) λz z y=>y);obtain⟨vs,H1,I1,r,hl,hE⟩:=h₂;exact⟨rfl,by rw[<- r.length];exact hl,I1.bk _ _ hC,hN.keeps I1.bk,T.keeps I1.bk,λh' e hm=>hx pins σ H1 s₂ e C us h' I1 hm hE⟩
end
section
variable{P:acK}{w:ado}{K:abU}{mg:Str->Option ab1}{base:aek}{N:List Str}{qual:Str}{scope:ahT}{f:ab6}{cd:ab1}{A:adz}{outer:List Env}{s:ab9}{H:Hp}{E:XK}
theorem E9(hf:env.frame=some L)(h:b∈bc (env::outer)):b=L∨b∈bc outer:=by unfold bc at h;rw[adf,hf] at h;exact acd.mp h
theorem i6:E8 (fN (dM P w) P w K mg base N qual scope f cd A outer s H E) E:=by
 intro pins σ H1 s1 e C vs h1 I hx hE;have sE:(fN (dM P w) P w K mg base N qual scope f cd A outer s H E).A.frames=some (adJ qual scope s.heap.objs.size f cd::outer):=I.ok.frames;have hF:s1.heap.FunFrames base (adJ qual scope s.heap.objs.size f cd::outer):=I.stack;have cg:∀ env∈(adJ qual scope s.heap.objs.size f cd::outer),∀ b,env.frame=some b->b∈bc (adJ qual scope s.heap.objs.size f cd::outer):=λenv he b hb=>ago.mpr ⟨env,he,hb⟩;have Pe:∀ b∈bc (adJ qual scope s.heap.objs.size f cd::outer),H1 b=none:=I.rC;have pC:∀ b o,s.heap.get? b=some o->b≠s.heap.objs.size:=λb o e=>acf (abZ e);have lg:∀ b o,s.heap.get? b=some o->b∉bc outer->b∉bc (adJ qual scope s.heap.objs.size f cd::outer):=λb o e hb z=>by
  rcases E9 rfl z with z|z
  .exact pC b o e z
  .exact hb z
 have ub:Un (bc outer) [] H H1 s.heap s1.heap:=I.base;refine wpAny_leaves_madeW (base:=ahx s1.heap (bc (adJ qual scope s.heap.objs.size f cd::outer))) sE rfl (λb o q=>aim _ q) (PySem.W.funFrames_hide hF cg) hx λh' t fl tup bt up=>?_;have stays:=fl.1;have pS:∀ b o,s1.heap.get? b=some o->b∉bc (adJ qual scope s.heap.objs.size f cd::outer)->(ahx s1.heap (bc (adJ qual scope s.heap.objs.size f cd::outer))).get? b=some o:=λb o q hb=>ah7 _ q hb;have mJ:∀ b∈bc (adJ qual scope s.heap.objs.size f cd::outer),∀ o,s1.heap.get? b=some o->∃ sl,h'.get? b=some { o with slots:=sl }:=λb hb o q=>by obtain⟨y,o',cS,hnf⟩:=hF.mem hb;rw[q] at cS;cases cS;exact up b o (hx.keeps b o q) hnf
 refine⟨e,.ref C,.ref t,H1,_,rfl,I.os,I.bare,⟨λb o q n hb cB=>?_,λb o q n hb cB=>?_,ub.free,λb o q cB=>?_,ub.fY,ub.fu,ub.fZ⟩,λb o q n hb=>?_,λb o q hb=>?_,λa o q=>?_,?_,?_,fl,hE⟩
 .exact stays b o (pS b o (ub.keep b o q n hb cB) (lg b o q hb))
 .obtain⟨sl,e1⟩:=ub.slot b o q n hb cB;obtain⟨fJ,e2⟩:=mJ b (by unfold bc;rw[adf];exact acN _ hb) _ e1;exact⟨fJ,e2⟩
 .obtain⟨o',e1⟩:=ub.there b o q cB;by_cases hb:b∈bc (adJ qual scope s.heap.objs.size f cd::outer)
  .obtain⟨sl,e2⟩:=mJ b hb o' e1;exact⟨_,e2⟩
  .exact⟨o',stays b o' (pS b o' e1 hb)⟩
 .exact pS b o (ub.keep b o q n hb (by simp)) (lg b o q hb)
 .obtain⟨o',e1⟩:=ub.there b o q (by simp);exact⟨o',pS b o' e1 (lg b o q hb)⟩
 .refine (I.az a o q).stay (λb u hb z=>pS b u z λhm=>?_) (λy z=>z) λy y z=>z;have:=Pe b hm;rcases hb with hb|hb
  .rw[hb,q] at this;cases this
  .rw[hb] at this;cases this
 .cases q:H1 e with
  | none=>rfl
  | some u =>
   obtain⟨ob,z⟩:=bM.some (I.az e u q);rw[hx.new] at z;cases z
 .cases q:s.heap.get? e with
  | none=>rfl
  | some u =>
   obtain⟨o',z⟩:=ub.there e u q (by simp);rw[hx.new] at z;cases z
theorem gF:Passes (dM P w) (fN (dM P w) P w K mg base N qual scope f cd A outer s H E) E:=by
 intro pins σ H1 s1 ev s2 I cx;obtain⟨x,cls,a0,H',B,rfl,os,bare,un,kb,tb,az,hx,hn,fl,hE⟩:=cx;have sE:(fN (dM P w) P w K mg base N qual scope f cd A outer s H E).A.frames=some (adJ qual scope s.heap.objs.size f cd::outer):=I.ok.frames;have hF:s1.heap.FunFrames base (adJ qual scope s.heap.objs.size f cd::outer):=I.stack;have pC:∀ b o,s.heap.get? b=some o->b≠s.heap.objs.size:=λb o e=>acf (abZ e);have lg:∀ b o,s.heap.get? b=some o->b∉bc outer->b∉bc (adJ qual scope s.heap.objs.size f cd::outer):=λb o e hb z=>by
  rcases E9 rfl z with z|z
  .exact pC b o e z
  .exact hb z
 have Pf:∀ b,b∈bc outer->b∈bc (adJ qual scope s.heap.objs.size f cd::outer):=λb hb=>by unfold bc;rw[adf];exact acN _ hb
 have ub:Un (bc outer) [] H H1 s.heap s1.heap:=I.base;have Fc:Un (bc (adJ qual scope s.heap.objs.size f cd::outer)) [] H1 H' s1.heap s2.heap:=un;have Fd:∀ b o,s1.heap.get? b=some o->H1 b=none->b∉bc (adJ qual scope s.heap.objs.size f cd::outer)->B.get? b=some o:=kb;have eL:∀ b o,s1.heap.get? b=some o->b∉bc (adJ qual scope s.heap.objs.size f cd::outer)->∃ o',B.get? b=some o':=tb;have zk:∀ b∈bc (adJ qual scope s.heap.objs.size f cd::outer),H1 b=none:=I.rC;refine wpAny_leaves_onW sE rfl fl λh' vR up=>?_;have stays:=vR.1;have mJ:∀ b∈bc (adJ qual scope s.heap.objs.size f cd::outer),∀ o,s1.heap.get? b=some o->∃ sl,h'.get? b=some { o with slots:=sl }:=λb hb o q=>by obtain⟨y,o',cS,hnf⟩:=hF.mem hb;rw[q] at cS;cases cS;obtain⟨sl,e1⟩:=Fc.slot b o q (zk b hb) hb (by simp);obtain⟨fJ,e2⟩:=up b _ e1 hnf;exact⟨fJ,e2⟩
 refine⟨x,cls,a0,H',B,rfl,os.trans I.os,bare,⟨λb o q n hb cB=>?_,λb o q n hb cB=>?_,λb o q n cB=>?_,λb o q cB=>?_,λb xs q=>un.fY _ _ (ub.fY _ _ q),λb o u q=>un.fu _ _ _ (ub.fu _ _ _ q),λb ps q=>?_⟩,λb o q n hb=>?_,λb o q hb=>?_,az,hx,?_,vR,hE⟩
 .exact stays b o (Fd b o (ub.keep b o q n hb cB) (ub.free b o q n cB) (lg b o q hb))
 .obtain⟨sl,e1⟩:=ub.slot b o q n hb cB;obtain⟨fJ,e2⟩:=mJ b (Pf b hb) _ e1;exact⟨fJ,e2⟩
 .obtain⟨o',e1⟩:=ub.there b o q cB;exact Fc.free b o' e1 (ub.free b o q n cB) (by simp)
 .obtain⟨o',e1⟩:=ub.there b o q cB;by_cases hb:b∈bc (adJ qual scope s.heap.objs.size f cd::outer)
  .obtain⟨sl,e2⟩:=mJ b hb o' e1;exact⟨_,e2⟩
  .obtain⟨o2,e2⟩:=eL b o' e1 hb;exact⟨o2,stays b o2 e2⟩
 .obtain⟨m1,e1⟩:=ub.fZ b ps q;obtain⟨m2,e2⟩:=un.fZ b _ e1;exact⟨m1++m2,by rw[e2,ain]⟩
 .exact Fd b o (ub.keep b o q n hb (by simp)) (ub.free b o q n (by simp)) (lg b o q hb)
 .obtain⟨o',e1⟩:=ub.there b o q (by simp);exact eL b o' e1 (lg b o q hb)
 .cases q:s.heap.get? x with
  | none=>rfl
  | some u =>
   obtain⟨o',z⟩:=ub.there x u q (by simp);rw[hn] at z;cases z
theorem jL{x qual:Str}{st:ag3}{f:ab6}{fd:aeO}{N ps:List Str}{k:Nat}{sp:Sp}(F:nQ K x qual st f fd)(S:rZ N ps (eK st))(len:∀ vs H Q E,sp vs H Q E->vs.length=ps.length)
 (iG:∀ (a8:ab1) (A:adz) (outer:List Env) (s:ab9) (H:Hp) (vs:List V) (Q:VK) (E:XK),bI k (A.deeper (adJ qual (eK st) s.heap.objs.size f a8))->sp vs H Q E ->
   ∃ t,aR (fN (dM P w) P w K mg base N qual (eK st) f a8 A outer s H E) (i4 st) t/\t { nx:=λy H'=>Q .non H',rt:=Q } (start N vs) H):eI P w K mg base (dM P w) (k+1) f fd ps sp:=by
 obtain⟨oc,od,kV,doc,pm,an,a8,ct,kC,rfl,lk,gA⟩:=F.ex;refine Ey lk gA S len λA outer s H vs Q E hr mz=>?_;exact iG a8 A outer s H vs Q E hr mz
end
noncomputable abbrev Xp(X:Cx)(F:ab1->ab9->Prop)(pn:List (ab6 × Obj)):Cx:={ X with xe:=F,pn:=pn }
noncomputable abbrev Xh(X:Cx)(A':adz)(pn:List (ab6 × Obj)):Cx:={ X with A:=A',calm:=false,xe:=λy y=>False,pn:=pn }
def Pg(K:abU)(m i:Nat)(G:ab6)(tb th:TS)(E':XK):TS:=λD σ H=>tb D σ H/\∀ cls H',E' cls none H'->∃ C,cls = .ref C/\afE K (.ref C) (.ref G)=some true /\
 ∀ a,H' a=none->th { nx:=λσ' H2=>D.nx (σ'.set i none) H2,rt:=D.rt,bk:=λσ' H2=>D.bk (σ'.set i none) H2,ct:=λσ' H2=>D.ct (σ'.set i none) H2 } ((aeh m none).set i (some (.ref a))) (upd H' a (gE a C))
section
theorem Ph(ok:X.Ok):(Xp X F pn).Ok:=⟨ok.mod,ok.kind,ok.glob,ok.blt,ok.above,ok.inj,ok.has,ok.cab,ok.hd,ok.frames,ok.stk,ok.exf,ok.bs,ok.bsz,ok.noex,ok.exfs,ok.gy,ok.frf⟩
theorem Fe(ok:(Xp X F pn).Ok):X.Ok:=⟨ok.mod,ok.kind,ok.glob,ok.blt,ok.above,ok.inj,ok.has,ok.cab,ok.hd,ok.frames,ok.stk,ok.exf,ok.bs,ok.bsz,ok.noex,ok.exfs,ok.gy,ok.frf⟩
theorem Pj(ok:X.Ok)(hA:A'.frames=X.A.frames):(Xh X A' pn).Ok:=⟨ok.mod,ok.kind,ok.glob,ok.blt,ok.above,ok.inj,ok.has,ok.cab,(λz=>nomatch z),hA.trans ok.frames,ok.stk,ok.exf,ok.bs,ok.bsz,ok.noex,ok.exfs,ok.gy,ok.frf⟩
theorem Pk(I:Inv X pins σ H s):Inv (Xp X F (X.pn++pins)) [] σ H s:=⟨Ph I.ok,I.os,I.bare,I.base,I.loc,I.cell,I.free,I.gb,λp hp=>I.pin p (by simpa using hp),I.az,I.len⟩
theorem vS(I:Inv (Xp X F (X.pn++pins)) [] σ H s):Inv X pins σ H s:=⟨Fe I.ok,I.os,I.bare,I.base,I.loc,I.cell,I.free,I.gb,λp hp=>I.pin p (by simpa using hp),I.az,I.len⟩
theorem Ff(I:Inv (Xp X F pn) yr σ H s)(hA:A'.frames=X.A.frames):Inv (Xh X A' pn) [] σ H s :=
 ⟨Pj (Fe I.ok) hA,I.os,I.bare,I.base,I.loc,I.cell,I.free,I.gb,λp hp=>I.pin p (by simp at hp;exact adO _ hp),I.az,I.len⟩
theorem SP.Pl(h:SP (Xp X F (X.pn++pins)) [] D f s'):SP X pins D f s':=by
 cases f with
 | next=>obtain⟨σ',H',I,q⟩:=h;exact⟨σ',H',vS I,q⟩
 | brk=>obtain⟨σ',H',I,q⟩:=h;exact⟨σ',H',vS I,q⟩
 | cont=>obtain⟨σ',H',I,q⟩:=h;exact⟨σ',H',vS I,q⟩
 | ret u=>obtain⟨v,σ',H',I,r,q⟩:=h;exact⟨v,σ',H',vS I,r,q⟩
theorem vT(jL:X.Ok)(I:Inv (Xh X A' (X.pn++pins)) [] σ H s)(hN:X.N.Nodup)(hi:X.N[i]?=some n)(hl:X.env.scope.names.lookup n=some .local)(h:∀ s',Inv X pins (σ.set i none) H s'->Q () s'):ack M A (do bindName X.env n .none;unbindBehindTheSuite X.env n mK) Q E s:=by
 obtain⟨m,hn,hlk⟩:=id I.loc;have yu:(X.env.scope.kind == .class || (X.env.scope.kind == .module && X.env.locals != X.env.globals))=false:=by rw[I.ok.kind];rfl
 have jC:∀ x c,X.env.cells.lookup x=some c->c≠X.env.locals:=I.jC;have Fg:H X.env.locals=none:=I.free;obtain⟨oL,u,u,DM,u⟩:=id hn;refine wpAny_nameGoes_keeps hl hn yu λh' v kr hs=>?_;have tracked:b7 X.prog X.w H h':=λb ob e=>by
  refine (I.az b ob e).stay (λc w' hc q=>(hs.2 c ?_).trans q) (λu q=>q) λu u q=>q;rintro rfl;rcases hc with hc|hc
  .rw[<- hc,Fg] at e;cases e
  .rw[Fg] at hc;cases hc
 have fh:X.s₀.heap.objs.size<=X.env.locals:=jL.above;refine h _ ⟨jL,I.os,I.bare,⟨λb o e nn hb hx=>?_,λb o e nn hb hx=>?_,I.base.free,λb o e hx=>?_,I.base.fY,I.base.fu,I.base.fZ⟩,⟨_,kr,λj y v' e1 e2 e3=>?_⟩,λy c e=>?_,I.free,I.gb,λp hp=>?_,tracked,by simpa using I.len⟩
 .exact (hs.2 b (acf (acg (abZ e) fh))).trans (I.base.keep b o e nn hb hx)
 .obtain⟨sl,e1⟩:=I.base.slot b o e nn hb hx;exact⟨sl,(hs.2 b (acf (acg (abZ e) fh))).trans e1⟩
 .obtain⟨o',e1⟩:=I.base.there b o e hx;exact⟨o',(hs.2 b (acf (acg (abZ e) fh))).trans e1⟩
 .have Fh:j≠i:=by
   rintro rfl;by_cases aZ:j<σ.length
   .rw[afp aZ] at e2;cases e2
   .rw[ac0 (by rw[ahF];lia)] at e2;cases e2
  rw[afY (acY Fh)] at e2;obtain⟨u',r',q⟩:=hlk j y v' e1 e2 e3;refine⟨u',r',?_⟩;rcases q with ⟨k,e⟩|⟨k,c,e,z⟩
  .refine .inl ⟨k,?_⟩;have:y≠n:=λe=>Fh (yt hN e1 (e ▸ hi));simp[this,e]
  .exact .inr ⟨k,c,e,z.sameBut hs (jC y c e)⟩
 .obtain⟨w',z⟩:=I.cell y c e;exact⟨w',z.sameBut hs (jC y c e)⟩
 .obtain⟨e,nn,ne,nf,d⟩:=I.pin p (by simpa using hp);exact⟨(hs.2 p.1 ne).trans e,nn,ne,nf,d⟩
theorem Fi(E':XK)(i:Nat)(cT:X.stack=X.env::X.outer)(Pm:X.env.frame=some X.env.locals)(hg:Gl X x)(hm:X.mg x=some (.ref G))(hN:X.N.Nodup)(hi:X.N[i]?=some n)(hl:X.env.scope.names.lookup n=some .local)(hb:∀ F pn,Passes (dM X.prog X.w) (Xp X F pn) E'->aR (Xp X F pn) body tb)(hh:∀ A' pn,aR (Xh X A' pn) (b₀::suite) th)(hd:(x == ("__debug__" : Str))=false:=by decide)(hf:X.fn n=true∨X.env.scope.names.lookup n=some .local:=by first|exact .inl rfl|exact .inr rfl|assumption) :
 PS X (.Try body [.ExceptHandler (some (.Name x np)) (some n) (b₀::suite) mK] [] [] pos) (Pg X.K X.N.length i G tb th E'):=by
 intro pins s σ H D I h;obtain⟨h1,h2⟩:=h;refine wpAny_Try_except ?_;refine ada (hb (λe s₁=>ack (model X.prog X.w) X.A (noteFrame e X.env) (λ_ s₂=>ack (model X.prog X.w) X.A (setFlight e none) (λ_ s₃=>ack (model X.prog X.w) X.A (handleBy e X.env [.ExceptHandler (some (.Name x np)) (some n) (b₀::suite) mK]) (SP X pins D) X.xe s₃) X.xe s₂) X.xe s₁) (X.pn++pins) ?_ [] s σ H D (Pk I) h1) (λf s1 q=>?_) λe s1 q=>q
 .intro yr σ' H1 s1 ev s2 I1 cx;obtain⟨xx,cls,a0,H',B,rfl,os,bare,un,kb,eL,az,hx,hn,fl,hE⟩:=cx;obtain⟨C,rfl,lC,hth⟩:=h2 cls H' hE;have jL:=I.ok;have sE:X.A.frames=some (X.env::X.outer):=by rw[<- cT];exact jL.frames
  have vR:ai2 B (X.env::X.outer) xx (.ref C) a0 s2.heap:=by have z:ai2 B X.stack xx (.ref C) a0 s2.heap:=fl;rw[cT] at z;exact z
  have hF:s1.heap.FunFrames X.base X.stack:=I1.stack;have zk:∀ b∈bc X.stack,H1 b=none:=I1.rC;have Fj:∀ h:aek,B.StaysIn h->s2.heap.UpToSlots h->Un (bc X.stack) [] H1 H' s1.heap h:=λh stays up=>by
   have mJ:∀ b∈bc X.stack,∀ o,s1.heap.get? b=some o->∃ sl,h.get? b=some { o with slots:=sl }:=λb hb o q=>by obtain⟨_,o',cS,hnf⟩:=hF.mem hb;rw[q] at cS;cases cS;obtain⟨sl,e1⟩:=un.slot b o q (zk b hb) hb (by simp);obtain⟨fJ,e2⟩:=up b _ e1 hnf;exact⟨fJ,e2⟩
   refine⟨λb o q nn hb cB=>stays b o (kb b o q nn hb),λb o q nn hb cB=>mJ b hb o q,un.free,λb o q cB=>?_,un.fY,un.fu,un.fZ⟩;by_cases hb:b∈bc X.stack
   .obtain⟨sl,e2⟩:=mJ b hb o q;exact⟨_,e2⟩
   .obtain⟨o2,e2⟩:=eL b o q hb;exact⟨o2,stays b o2 e2⟩
  refine wpAny_looks_onW sE Pm vR λh₄ Pn Po=>?_;refine wpAny_landsW Pn λh₅ vU Pq=>?_;have Fl:s2.heap.UpToSlots h₅:=Po.trans Pq;have I5:Inv (Xh X (X.A.mark (some (.ref xx))) (X.pn++pins)) [] σ' H' { s2 with heap:=h₅ }:=by
   refine Ff (I1.yy (s':={ s2 with heap:=h₅ }) (ch:=[]) os (Fj h₅ vU.1 Fl) (az.kept λb u q=>vU.1 b u q) bare (λb z=>absurd z (by simp))) ?_
   first|rfl|simp
  refine wpAny_handleBy_cons (codeAny_handlers_test ?_) (by intro q;cases q);refine rG (X:=Xh X (X.A.mark (some (.ref xx))) (X.pn++pins)) I5 hg hm ?_ hd;obtain⟨ob,hob,hobc⟩:=vU.there;have LT:PySem.W.Looks (model X.prog X.w) h₅ (akc (.ref xx)) (.ref C):=hobc ▸ (PySem.W.Looks.ld hob).andThen .now;refine (PySem.W.exm_one (M:=model X.prog X.w) (h:=h₅) I5.cz LT lC).here ?_;refine codeAny_handlers_suite_as ?_;refine lands_againW vU λh₆ zm Pr=>?_;have Pt:s2.heap.UpToSlots h₆:=Fl.trans Pr;obtain⟨oe,hoe,hoec⟩:=zm.there;have u6:=Fj h₆ zm.1 Pt;have Pu:∀ b o,s1.heap.get? b=some o->b≠xx:=λb o q z=>by rw[z,hn] at q;cases q
  have sF:∀ b o,H' b=some o->b≠xx:=λb o q z=>by rw[z,hx] at q;cases q
  have Pw:Un (bc X.stack) [] H1 (upd H' xx (gE xx C)) s1.heap h₆:=by
   refine⟨u6.keep,u6.slot,λb o q nn cB=>?_,u6.there,λb xs q=>?_,λb o u q=>?_,λb ps q=>?_⟩
   .rw[aF (Pu b o q)];exact u6.free b o q nn cB
   .have:=u6.fY b xs q;rw[aF (sF b _ this)];exact this
   .have:=u6.fu b o u q;rw[aF (sF b _ this)];exact this
   .obtain⟨more,z⟩:=u6.fZ b ps q;exact⟨more,by rw[aF (sF b _ z)];exact z⟩
  have Px:b7 X.prog X.w (upd H' xx (gE xx C)) h₆:=λb u q=>by
   by_cases bX:b=xx
   .subst bX;rw[aq] at q;cases q;exact Pd hoe hoec
   .rw[aF bX] at q;exact (az b u q).stay (λc v _ z=>zm.1 c v z) (λc z=>by rw[aF (sF c _ z)];exact z) λc xs z=>by rw[aF (sF c _ z)];exact z
  have I6:Inv (Xh X (X.A.mark (some (.ref xx))) (X.pn++pins)) [] σ' (upd H' xx (gE xx C)) { s2 with heap:=h₆ }:=by
   refine Ff (I1.yy (s':={ s2 with heap:=h₆ }) (ch:=[]) os Pw Px bare (λb z=>absurd z (by simp))) ?_
   first|rfl|simp
  have I7:Inv (Xh X (X.A.mark (some (.ref xx))) (X.pn++pins)) [] (aeh X.N.length none) (upd H' xx (gE xx C)) { s2 with heap:=h₆ } :=
   I6.weak (by rw[afJ,I6.len]) λj v z=>by rw[aet] at z;split at z<;>cases z
  refine yx (X:=Xh X (X.A.mark (some (.ref xx))) (X.pn++pins)) (v:=.ref xx) I7 hN hi (.inl hl) rfl (λs8 I8=>?_) hf;refine ada (hh (X.A.mark (some (.ref xx))) (X.pn++pins) [] s8 _ _ _ I8 (hth xx hx)) (λfl s9 q=>?_) λ_ _ z=>z.elim;cases fl with
  | next =>
   obtain⟨σ9,H9,I9,q⟩:=q;exact vT jL I9 hN hi hl λs' J=>⟨_,_,J,q⟩
  | brk =>
   obtain⟨σ9,H9,I9,q⟩:=q;exact vT jL I9 hN hi hl λs' J=>⟨_,_,J,q⟩
  | cont =>
   obtain⟨σ9,H9,I9,q⟩:=q;exact vT jL I9 hN hi hl λs' J=>⟨_,_,J,q⟩
  | ret u =>
   obtain⟨v,σ9,H9,I9,r,q⟩:=q;exact vT jL I9 hN hi hl λs' J=>⟨v,_,_,J,r,q⟩
 .have q':=SP.Pl q;cases f with
  | next =>
   obtain⟨σ',H',I',q'⟩:=q';exact af4 ⟨σ',H',I',q'⟩
  | brk=>exact q'
  | cont=>exact q'
  | ret u=>exact q'
end
theorem Py{K:abU}{C G:ab6}{cd:ClassData}{b:Bool}(h1:ajV K G=some cd)(h2:ah1 K (.ref G)=some (.type "type"))(h3:ag6 K (.ref C) (.ref G)=some b)(h4:ag6 K (.ref G) (.type "BaseException")=some true) :
 afE K (.ref C) (.ref G)=some b:=by
 unfold afE;rw[if_pos (by rw[h4];rfl)];show (if ((ajV K G).isSome && ah1 K (.ref G) == some (.type "type"))=true then ag6 K (.ref C) (.ref G) else none)=some b;rw[if_pos (by rw[h1,h2];rfl)];exact h3
local macro_rules | `(tactic| walk_at "o") => `(tactic| ((try simp only [PySem.Addr] at *); lia))
inductive i7(X:Cx)(scope:ahT)(cl:List (Str × ab6)):List Nat->List Str->Prop where
 | nil:i7 X scope cl [] []
 | cons {j:Nat} {y:Str} {c:ab6} {js:List Nat} {ys:List Str} (hN:X.N[j]?=some y) (hk:X.env.kindOf y=some .cell) (h1:cl.lookup y=some c) (h2:X.env.cells.lookup y=some c) (h:i7 X scope cl js ys):i7 X scope cl (j::js) (y::ys)
inductive kH(X:Cx):List (Str × ab6)->Prop where
 | nil:kH X []
 | cons {n:Str} {a:ab6} {r:List (Str × ab6)} (h:X.env.cells.lookup n=some a) (t:kH X r):kH X ((n,a)::r)
theorem kH.get:∀ {cl:List (Str × ab6)},kH X cl->∀ y c,cl.lookup y=some c->X.env.cells.lookup y=some c:=by
 intro z h y c
 induction h with
 | nil=>intro e;cases e
 | @cons n _ _ h t ih =>
  intro e;rw[List.lookup_cons] at e;by_cases hy:(y == n)=true
  .rw[hy] at e;have e1:y=n:=by simpa using hy
   cases e;rw[e1];exact h
  .rw[agP.mpr hy] at e;exact ih e
theorem i7.get{X:Cx}{scope:ahT}{cl:List (Str × ab6)}{σ:L2.St}:∀ {js:List Nat} {ys:List Str},i7 X scope cl js ys->∀ (i:Nat) (y:Str) (v:V),ys[i]?=some y->(js.map λj=>(σ[j]?).join)[i]?=some (some v) ->
 ∃ (j:Nat) (c:ab6),X.N[j]?=some y/\σ[j]?=some (some v)/\X.env.kindOf y=some .cell/\cl.lookup y=some c/\X.env.cells.lookup y=some c:=by
 intro js ys h
 induction h with
 | nil=>intro i y v e;cases e
 | cons hN hk h1 h2 h ih =>
  rename_i j _ _ _ _;intro i y v e q;cases i with
  | zero =>
   cases e;refine⟨j,_,hN,?_,hk,h1,h2⟩;cases z:σ[j]? with
   | none=>rw[acs,z] at q;cases q
   | some o=>rw[acs,z] at q;cases q;rfl
  | succ i=>exact ih i y v e q
theorem i7.len:∀ {js:List Nat} {ys:List Str},i7 X scope cl js ys->js.length=ys.length:=by
 intro y y h
 induction h with
 | nil=>rfl
 | cons _ _ _ _ _ ih=>exact congrArg (· + 1) ih
noncomputable def dv(X:Cx)(N':List Str)(scope:ahT)(cl:List (Str × ab6))(C:ab6)(s2:ab9)(H2:Hp)(ex:List ab6)(pn:List (ab6 × Obj)):Cx :=
 { X with N:=N',s₀:=s2,H₀:=H2,env:=ajW scope cl C X.env,outer:=X.stack,ex:=ex,fn:=λy=>false,pn:=pn,xe:=λy y=>False }
structure nT(X:Cx)(x:Str)(scope:ahT)(cl:List (Str × ab6))(fr:List Nat)(ys:List Str):Prop where
 clos:ajO scope X.env=pure cl
 nocell:(scope.names.all λp=>p.2 != .cell)=true
 kind:scope.kind = .function
 names:(scope.names.all λp=>p.2 != .local || scope.names.lookup p.1 == some .local)=true
 own:scope.names.lookup x=some .local
 kinds:((relabel scope X.env).names.all λp=>(p.2 != .cell && p.2 != .free) || (cl.lookup p.1).isSome)=true
 cls:kH X cl
 bc:i7 X scope cl fr ys
 nd:(x::ys).Nodup
 kfr:(ys.all λy=>(relabel scope X.env).names.lookup y == some .cell)=true
def kI(X:Cx)(ifs:List afS)(t:TT):Prop :=
 ∀ (pins:List (ab6 × Obj)) (s:ab9) (σ:L2.St) (H:Hp) (Q:Bool->Hp->Prop),Inv X pins σ H s->t σ H Q ->
  ack (model X.prog X.w) X.A (forIn ifs true λc r=>if r=true then do let ok <- aj8 c X.env (eval c X.env);pure (af9 ok) else pure (af9 r)) (TP X pins σ Q) X.xe s
def zo:TT:=λy H Q=>Q true H
theorem df:kI X [] zo:=λy y y H y I h=>wpAny_tests_nil ⟨H,I,h⟩
theorem jM(hc:PT X c t):kI X [c] t:=λpins s σ H Q I h=>wpAny_tests_one (hc pins s σ H Q I h)
def mL(J:It)(ρ:L2.St)(tt:TT)(te:TE)(H:Hp)(Q:VK):Prop:=∃ W:Nat->Nat->List V->Hp->Prop,(∃ m,W 0 m [] H)/\∀ i m ys H,W i m ys H ->
 (J.stop i H/\ys.length<=aco/\∀ l,H l=none->Q (.ref l) (upd H l (.lst ys)))∨(J.go i H/\ys.length<aco/\∃ N:List V->Hp->Prop,(∀ zs H',N zs H'->∃ m',m'<m/\W (i+1) m' zs H') /\
  ∀ x H',J.yld i H x H'->tt (some x::ρ) H' λb H1=>if b=true then te (some x::ρ) H1 λy H2=>N (ys++[y]) H2 else N ys H1)
def zp(wi:TI)(fr:List Nat)(tt:TT)(te:TE):TE:=λσ H Q=>wi σ H λJ H1=>mL J (fr.map λj=>(σ[j]?).join) tt te H1 Q
structure jN(X:Cx)(own:List Str)(scope:ahT)(cl:List (Str × ab6))(fr:List Nat)(ys:List Str):Prop where
 clos:ajO scope X.env=pure cl
 nocell:(scope.names.all λp=>p.2 != .cell)=true
 kind:scope.kind = .function
 names:(scope.names.all λp=>p.2 != .local || scope.names.lookup p.1 == some .local)=true
 kinds:((relabel scope X.env).names.all λp=>(p.2 != .cell && p.2 != .free) || (cl.lookup p.1).isSome)=true
 cls:kH X cl
 bc:i7 X scope cl fr ys
 kfr:(ys.all λy=>(relabel scope X.env).names.lookup y == some .cell)=true
def jO(k:Nat)(J:It)(g:TG)(ρ:L2.St)(tt:TT)(te:TE)(H:Hp)(Q:VK):Prop:=∃ W:Nat->Nat->List V->Hp->Prop,(∃ m,W 0 m [] H)/\∀ i m ys H,W i m ys H ->
 (J.stop i H/\ys.length<=aco/\∀ l,H l=none->Q (.ref l) (upd H l (.lst ys)))∨(J.go i H/\ys.length<aco/\∃ N:List V->Hp->Prop,(∀ zs H',N zs H'->∃ m',m'<m/\W (i+1) m' zs H') /\
  ∀ os:List (Option V),os.length=k->∀ x H',J.yld i H x H'->g x (os++ρ) H' λσ2 H2=>∃ pK,pK.length=k/\σ2=pK++ρ/\tt σ2 H2 λb H1=>if b=true then te σ2 H1 λy H2=>N (ys++[y]) H2 else N ys H1)
def zr(k:Nat)(wi:TI)(g:TG)(fr:List Nat)(tt:TT)(te:TE):TE:=λσ H Q=>wi σ H λJ H1=>jO k J g (fr.map λj=>(σ[j]?).join) tt te H1 Q
theorem Pz(I:Nat->ab9->Prop)(turn:∀ n s,I n s->ack (model prog w) A (aeX it) (λr s₁=>match r with
 | none=>R (.ok .next) s₁
 | some v=>ack (model prog w) A (af5 target it v) (λ_ Fo=>ack (model prog w) A (assign target env v) (λ_ s₂ =>
  ack (model prog w) A (forIn ifs true λc r=>if r=true then do let ok <- aj8 c env (eval c env);pure (af9 ok) else pure (af9 r)) (λok s₃ =>
   if ok=true then ack (model prog w) A (eval elt env) (λx s₄ =>
    ack (model prog w) A (call (.builtin "list.append") [acc,x]) (λ_ s₅=>∃ m,m<n/\I m s₅) (ajp (model prog w) A env λe s'=>R (.error e) s') s₄) (ajp (model prog w) A env λe s'=>R (.error e) s') s₃
   else ∃ m,m<n/\I m s₃) (ajp (model prog w) A env λe s'=>R (.error e) s') s₂) (ajp (model prog w) A env λe s'=>R (.error e) s') Fo) (ajp (model prog w) A env λe s'=>R (.error e) s') s₁) (ajp (model prog w) A env λe s'=>R (.error e) s') s) (n:Nat) (h:I n s) :
 aeV (model prog w) A (.compLoop (.ListComp elt [⟨target,iter,ifs,0⟩] scope pos) 0 it acc env) R s:=by
 refine codeAny_loop rfl I (λn s hI=>?_) n h;show ack _ A ((compTurn (.ListComp elt [⟨target,iter,ifs,0⟩] scope pos) 0 it acc env).onRaise (λx=>do noteFrame x env;theTreesLotGoes x)) _ _ s;refine wpAny_noted ?_;rw[compTurn_list];refine abS (aip (abS (ada (turn n s hI) (λr s₁ h₁=>?_) λ_ _ h'=>h')));cases r with
 | none=>exact abX h₁
 | some v =>
  refine abS (ada h₁ (λ_ Fo PB=>?_) λ_ _ h'=>h');refine abS (ada PB (λ_ s₂ h₂=>abS (ada h₂ (λok s₃ h₃=>?_) λ_ _ h'=>h')) λ_ _ h'=>h');cases ok with
  | false=>exact abX ⟨rfl,h₃⟩
  | true =>
   exact abS (abS (ada h₃ (λx s₄ h₄=>abS (ada h₄ (λ_ s₅ h₅=>abX (abX ⟨rfl,h₅⟩)) λ_ _ h'=>h')) λ_ _ h'=>h'))
theorem Fp{l:List (Str × ahS)}{p:Str × ahS->Bool}(h:l.all p=true){y:Str}{k:ahS}(e:l.lookup y=some k):p (y,k)=true:=by exact adi.mp h _ (adX e)
def vV(i:Nat)(te:TE):TS:=λD σ H=>te σ H λv H1=>D.nx (σ.set i (some v)) H1
section
theorem PD(S:jN X own scope cl fr ys)(I2:Inv X pins σ H2 s2)(f2:∀ b∈ex,eT X pins H2 b)(hC:s2.heap.objs.size<=C)(hex:∀ b∈ex,b<s2.heap.objs.size):(dv X (own++ys) scope cl C s2 H2 ex pn).Ok:=by
 refine⟨I2.ok.mod,S.kind,I2.ok.glob,I2.ok.blt,hC,λa b c h1 h2=>?_,λy hy=>?_,λv v z=>(nomatch z),I2.ok.hd,I2.ok.frames,.inl rfl,λb hb=>⟨?_,λy c e z=>?_⟩,I2.bs,ab3 I2.ok.bsz I2.sz,λb o e hb=>?_,λb hb z=>?_,I2.stack,I2.rC⟩
 .exact I2.ok.inj a b c (S.cls.get a c h1) (S.cls.get b c h2)
 .have PF:(relabel scope X.env).names.lookup y=some .cell∨(relabel scope X.env).names.lookup y=some .free:=hy;have q:(cl.lookup y).isSome=true:=by
   rcases PF with e|e
   .simpa using Fp S.kinds e
   .simpa using Fp S.kinds e
  exact afb.mp q
 .exact acf (acg (hex b hb) hC)
 .exact (f2 b hb).2.2.2.2.1 y c (S.cls.get y c e) z
 .obtain⟨v,v,v,d,v,v⟩:=f2 b hb;rcases d with d|d
  .exact I2.ok.noex b o e d
  .exact absurd (acg (abZ e) (ab3 I2.ok.bsz d)) (ads _)
 .obtain⟨v,d1,d2,v⟩:=f2 b hb;rcases acd.mp (I2.pB b z) with q|q
  .exact d1 q
  .exact d2 q
noncomputable def jP(X:Cx)(N':List Str)(fn:Str->Bool)(scope:ahT)(cl:List (Str × ab6))(C:ab6)(s2:ab9)(H2:Hp)(ex:List ab6)(pn:List (ab6 × Obj)):Cx :=
 { X with N:=N',s₀:=s2,H₀:=H2,env:=ajW scope cl C X.env,outer:=X.stack,ex:=ex,fn:=fn,pn:=pn,xe:=λy y=>False }
theorem Fs{C D:ab6}{fp:List ab6}(I2:Inv X pins σ H2 s2)(f2:∀ b∈fp,eT X pins H2 b)(hC:s2.heap.objs.size<=C)(hD:s2.heap.objs.size<=D):∀ p∈X.pn++pins,p.1≠C/\p.1≠D/\p.1∉bc X.stack/\∀ b∈fp,p.1≠b:=λp hp=>by
 obtain⟨e,n,nL,nf,y⟩:=I2.pin p hp;have lt:=abZ e;refine⟨by walk_at "o",by walk_at "o",λz=>?_,λb hb=>(f2 b hb).2.2.2.2.2 p hp⟩;rcases acd.mp (I2.pB _ z) with q|q
 .exact nL q
 .exact nf q
theorem PH{J:It}{fp:List ab6}{it C D:ab6}{tn:Nat->aek->Prop}{Q:VK}{RR:ab1->ab6->aiY->ab9->Prop}{nm:List Str}{fn:Str->Bool}{k:Nat}{zt ρ:List (Option V)}{h1:aek}{tk:Nat}
 (hc:X.calm=true) (hg:PG (jP X nm fn scope cl C s2 H2 fp (X.pn++pins)) tg g) (hb:kI (jP X nm fn scope cl C s2 H2 fp (X.pn++pins)) ifs tt/\PE (jP X nm fn scope cl C s2 H2 fp (X.pn++pins)) elt te)
 (I2:Inv X pins σ H2 s2) (T:Turn X.prog X.w X.K tg J fp it tn) (iC:tn 0 s2.heap) (f2:∀ b∈fp,eT X pins H2 b)
 (h:jO k J g ρ tt te H2 Q)
 (zu:∀ D C s' H',Inv X pins σ H' s'->(∃ m,s'.heap.Ns C m)->eT X pins H' C->Q (.ref D) H'->RR (.ref D) C (.ok .next) s')
 (nU:zt.length=k) (I4:Inv (jP X nm fn scope cl C s2 H2 fp (X.pn++pins)) [] (zt++ρ) H2 { s2 with heap:=h1,toks:=tk }) (keep:∀ b o,s2.heap.get? b=some o->h1.get? b=some o)
 (hD:h1.get? D=some { cls:=.type "list",data:=.seq ([]:List ab1).toArray 0 }) (eD:s2.heap.objs.size=D) (eC:s2.heap.objs.size+1=C)
 (br:∀ y c,cl.lookup y=some c->c≠D/\∀ b∈fp,c≠b) :
 aeV (model X.prog X.w) X.A (.compStart (.ListComp elt [⟨tg,iter,ifs,0⟩] scope pos) 0 (.ref it) (.ref D) (ajW scope cl C X.env)) (RR (.ref D) C) { s2 with heap:=h1,toks:=tk }:=by
 obtain⟨W,⟨m0,w0⟩,turn⟩:=h;have nV:D≠C:=by walk_at "o"
 have pU:s2.heap.objs.size<=C:=by walk_at "o"
 have sG:s2.heap.objs.size<=D:=by walk_at "o"
 have nW:∀ b∈fp,b<D:=λb hb=>by obtain⟨o,e,_⟩:=T.obj 0 _ iC b hb;exact eD ▸ abZ e
 have PJ:∀ b,D<=b->b∉bc X.stack:=λb hle z=>by
  rcases acd.mp (I2.pB b z) with q|q
  .have:=I2.lt;walk_at "o"
  .exact I2.DJ (eD ▸ hle) q
 have zv:=Fs I2 f2 pU sG;have Ft:tn 0 h1:=T.keep 0 _ _ iC λb _ o e=>keep b o e;have zw:∀ (H':Hp) (o:Obj),(∀ b∈fp,H' b=none)->∀ b∈fp,eT (jP X nm fn scope cl C s2 H2 fp (X.pn++pins)) [(D,o)] H' b:=λH' o hn b hb=>by
  obtain⟨_,d1,d2,d3,d4,d5⟩:=f2 b hb;have lt:=nW b hb;refine⟨hn b hb,?_,λz=>?_,.inl hb,λy c e z=>(br y c e).2 b hb z,λp hp=>?_⟩
  .show b≠C;walk_at "o"
  .rcases acd.mp (I2.pB b z) with q|q
   .exact d1 q
   .exact d2 q
  .have dX:p∈(X.pn++pins)++[(D,o)]:=hp;rcases acw.mp dX with z|z
   .exact d5 p z
   .have:p=(D,o):=by simpa using z
    subst this;show D≠b;walk_at "o"
 have loop:∀ s':ab9,s' = { s2 with heap:=h1,toks:=tk } ->
  aeV (model X.prog X.w) X.A (.compLoop (.ListComp elt [⟨tg,iter,ifs,0⟩] scope pos) 0 (.ref it) (.ref D) (ajW scope cl C X.env)) (RR (.ref D) C) s':=by
  rintro s' rfl;refine Pz (λn s'=>∃ i zs H' os aw nn,os.length=k/\Inv (jP X nm fn scope cl C s2 H2 fp (X.pn++pins)) [] (os++ρ) H' s'/\tn i s'.heap/\(∀ b∈fp,H' b=none)/\H' D=none /\
   s'.heap.get? D=some { cls:=.type "list",data:=.seq (aw:List ab1).toArray nn }/\Vals zs aw/\W i n zs H') ?_ m0 ⟨0,[],H2,zt,[],0,nU,I4,Ft,λb hb=>(f2 b hb).1,I2.az.fresh sG,hD,.nil,w0⟩
  rintro n s3 ⟨i,zs,H3,Fu,aw,nn,PK,I3,rQ,rR,zx,PL,r3,w3⟩;have Fw:Inv (jP X nm fn scope cl C s2 H2 fp (X.pn++pins)) [(D,{ cls:=.type "list",data:=.seq aw.toArray nn })] (Fu++ρ) H3 s3:=I3.rF λp hp=>by
   have:p=(D,{ cls:=.type "list",data:=.seq aw.toArray nn }):=by simpa using hp
   subst this;exact⟨PL,zx,nV,PJ D (ab4 _),λv z=>nomatch z⟩
  rcases turn i n zs H3 w3 with ⟨stop,hlen,q⟩|⟨go,hlen,N,Fx,step⟩
  .refine ada (T.done (jP X nm fn scope cl C s2 H2 fp (X.pn++pins)) rfl rfl rfl hc i _ s3 _ H3 (λ_ _=>False) Fw (zw H3 _ rR) rQ stop) (λr s4 zq=>?_) λ_ _ z=>z.elim;obtain⟨hr,J4⟩:=zq;subst hr;have un:=J4.base;have PM:∀ b o,s2.heap.get? b=some o->b≠D:=λb o e=>by have:=abZ e;walk_at "o"
   have lD:∀ b u,H3 b=some u->b≠D:=λb u e z=>by rw[z,zx] at e;cases e
   refine zu D C s4 (upd H3 D (.lst zs)) ?_ ?_ ?_ (q D zx)
   .refine I2.yy (ch:=fp) J4.os ⟨un.keep,un.slot,λb o e nn hx=>?_,un.there,λb xs e=>?_,λb o u e=>?_,λb ps e=>?_⟩ (λa o e=>?_) J4.bare λb hb=>?_
    .rw[aF (PM b o e)];exact un.free b o e nn hx
    .have:=un.fY b xs e;rw[aF (lD b _ this)];exact this
    .have:=un.fu b o u e;rw[aF (lD b _ this)];exact this
    .obtain⟨more,this⟩:=un.fZ b ps e;exact⟨more,by rw[aF (lD b _ this)];exact this⟩
    .by_cases ha:a=D
     .subst ha;rw[aq] at e;cases e;exact⟨hlen,aw,nn,r3,(J4.pin (a,_) (acz _ (acx.mpr rfl))).1⟩
     .rw[aF ha] at e;exact (J4.az a o e).stay (λ_ _ _ z=>z) (λb z=>by rw[aF (lD b _ z)];exact z) λb xs z=>by rw[aF (lD b _ z)];exact z
    .obtain⟨_,d1,d2,d3,d4,d5⟩:=f2 b hb;exact⟨d3,d1,d4,d5⟩
   .obtain⟨m,hm,_⟩:=J4.loc;exact⟨m,hm⟩
   .exact I2.iX pU (by rw[aF (acY nV)];exact J4.free)
  .refine ada (T.item (jP X nm fn scope cl C s2 H2 fp (X.pn++pins)) rfl rfl rfl hc i _ s3 _ H3 (λ_ _=>False) Fw (zw H3 _ rR) rQ go) (λr s4 zq=>?_) λ_ _ z=>z.elim;obtain⟨u,hr,h4⟩:=zq;subst hr;refine ada h4 (λ_ s5 zq=>?_) λ_ _ z=>z.elim;obtain⟨y5,H5,I5,r5,yl,nG,yI⟩:=zq;have yJ:=I5.pinned (zw H5 _ yI) (T.obj _ _ nG);refine ada (hg _ s5 _ H5 y5 u _ yJ r5 (step Fu PK y5 H5 yl)) (λ_ s6 zq=>?_) λ_ _ z=>z.elim;obtain⟨σ6,H6,I6,vW,Fz,e6,q6⟩:=zq;subst e6;have after:∀ (s7:ab9) (H7:Hp),Inv (jP X nm fn scope cl C s2 H2 fp (X.pn++pins)) ([(D,{ cls:=.type "list",data:=.seq aw.toArray nn })]++rP fp s5.heap) (vW++ρ) H7 s7 ->
    Inv (jP X nm fn scope cl C s2 H2 fp (X.pn++pins)) [] (vW++ρ) H7 s7/\tn (i+1) s7.heap/\(∀ b∈fp,H7 b=none)/\H7 D=none/\s7.heap.get? D=some { cls:=.type "list",data:=.seq aw.toArray nn }:=λs7 H7 I7=>by
    have pD:=I7.pin (D,{ cls:=.type "list",data:=.seq aw.toArray nn }) (acz _ (adO _ (acx.mpr rfl)));refine⟨I7.rF λp hp=>absurd hp (by simp),T.keep _ _ _ nG λb hb o e=>(I7.pin (b,o) (acz _ (acz _ (vk hb e)))).1,λb hb=>?_,pD.2.1,pD.1⟩;obtain⟨o,e,_⟩:=T.obj _ _ nG b hb;exact (I7.pin (b,o) (acz _ (acz _ (vk hb e)))).2.1
   refine ada (hb.1 _ s6 _ H6 _ I6 q6) (λok s7 zq=>?_) λ_ _ z=>z.elim;obtain⟨H7,I7,q7⟩:=zq
   try dsimp only at q7
   by_cases az:ok=true
   .rw[if_pos az] at q7 ⊢;refine ada (hb.2 _ s7 _ H7 _ I7 q7) (λyv s8 zq=>?_) λ_ _ z=>z.elim;obtain⟨y8,H8,I8,r8,n8⟩:=zq;obtain⟨m',zy,w8⟩:=Fx _ _ n8;obtain⟨J8,PN,PQ,FA,zz⟩:=after s8 H8 I8;have hl:=r3.length;refine aiN ait ⟨_,zz,rfl⟩ aia (ahU _ _) (aiO D aw.toArray nn yv (by rw[acb];walk_at "o")) ⟨zz,?_⟩;have FC:=PySem.IsL.update zz (λa=>a.push yv);rw[List.push_toArray] at FC;refine⟨m',zy,i+1,zs++[y8],H8,vW,aw++[yv],_,Fz,J8.turned (it:=D) (λb o bX e=>(acn _ _ (acY bX)).trans e) FA nV (.inr sG) (λy c e z=>?_) (λp hp=>?_),T.keep _ _ _ PN λb bX o e=>?_,PQ,FA,FC,r3.append (.cons r8 .nil),w8⟩
    .exact (br y c e).1 z
    .have dX:p∈X.pn++pins:=by have:p∈(X.pn++pins)++[]:=hp;simpa using this
     exact (zv p dX).2.1
    .have:=nW b bX;exact (acn _ _ (by walk_at "o")).trans e
   .rw[if_neg az] at q7 ⊢;obtain⟨m',zy,w7⟩:=Fx _ _ q7;obtain⟨J7,PR,PU,PV,PX⟩:=after s7 H7 I7;exact⟨m',zy,i+1,zs,H7,vW,aw,nn,Fz,J7,PR,PU,PV,PX,r3,w7⟩
 exact codeAny_compStart_list (loop _ rfl) (T.self X.A 0 _ _ _ Ft (loop _ rfl))
theorem FD{J:It}{fp:List ab6}{it:ab6}{tn:Nat->aek->Prop}{E:ab1->ab9->Prop}{Q:VK}{RR:ab1->ab6->aiY->ab9->Prop}
 (S:jN X own scope cl fr ys) (hc:X.calm=true) (hg:∀ (C:ab6) (s:ab9) (H:Hp) (ex:List ab6) (pn:List (ab6 × Obj)),PG (dv X (own++ys) scope cl C s H ex pn) tg g)
 (hb:∀ (C:ab6) (s:ab9) (H:Hp) (ex:List ab6) (pn:List (ab6 × Obj)),kI (dv X (own++ys) scope cl C s H ex pn) ifs tt/\PE (dv X (own++ys) scope cl C s H ex pn) elt te)
 (I2:Inv X pins σ H2 s2) (T:Turn X.prog X.w X.K tg J fp it tn) (iC:tn 0 s2.heap) (f2:∀ b∈fp,eT X pins H2 b)
 (h:jO own.length J g (fr.map λj=>(σ[j]?).join) tt te H2 Q)
 (zu:∀ D C s' H',Inv X pins σ H' s'->(∃ m,s'.heap.Ns C m)->eT X pins H' C->Q (.ref D) H'->RR (.ref D) C (.ok .next) s') :
 ack (model X.prog X.w) X.A (aks []) (λacc s3=>ack (model X.prog X.w) X.A (newFunctionEnv scope X.env.globals cl [] X.env.qual none .none (some X.env)) (λFE s4 =>
  aeV (model X.prog X.w) X.A (.compStart (.ListComp elt [⟨tg,iter,ifs,0⟩] scope pos) 0 (.ref it) acc { FE with scope:=relabel scope X.env }) (RR acc FE.locals) s4) E s3) E s2:=by
 refine adb (wpAny_newFunctionEnv (λy hy=>by simpa using adi.mp S.nocell y hy) (λy hy=>absurd hy (by simp)) (λh1 nP kJ=>?_) S.kind);dsimp only at nP kJ ⊢;generalize eP:s2.heap.push { cls:=.type "list",dict:=none,data:=.seq ([]:List ab1).toArray }=P2 at nP kJ ⊢;have sz:P2.objs.size=s2.heap.objs.size+1:=by rw[<- eP,aez]
 have nV:s2.heap.objs.size≠P2.objs.size:=by walk_at "o"
 have keep:∀ b o,s2.heap.get? b=some o->h1.get? b=some o:=λb o e=>by have lt:=abZ e;exact kJ.extBut b o (by walk_at "o") (abY _ (eP ▸ abY _ e))
 have hD:h1.get? s2.heap.objs.size=some { cls:=.type "list",data:=.seq ([]:List ab1).toArray 0 } :=
  kJ.extBut _ _ nV (abY _ (eP ▸ ab8 _ rfl))
 generalize eC:P2.objs.size=C at nP kJ nV ⊢;generalize eD:s2.heap.objs.size=D at nV hD;have pU:s2.heap.objs.size<=C:=by walk_at "o"
 have sG:s2.heap.objs.size<=D:=by walk_at "o"
 have nW:∀ b∈fp,b<s2.heap.objs.size:=λb hb=>by obtain⟨o,e,_⟩:=T.obj 0 _ iC b hb;exact abZ e
 have PY:(dv X (own++ys) scope cl C s2 H2 fp (X.pn++pins)).Ok:=PD S I2 f2 pU (λb hb=>by have:=nW b hb;walk_at "o");have zv:=Fs I2 f2 pU sG;have I4:Inv (dv X (own++ys) scope cl C s2 H2 fp (X.pn++pins)) [] ((own.map λ_=>none)++fr.map λj=>(σ[j]?).join) H2 { s2 with heap:=h1,toks:=s2.toks+([]:List (Str × ab1)).length }:=by
  refine⟨PY,rfl,I2.bare,Un.kept keep,⟨_,nP,λi y v e1 e2 e3=>?_⟩,λy c e=>?_,I2.az.fresh pU,λy c e=>I2.gb y c (S.cls.get y c e),λp hp=>?_,I2.az.kept keep,?_⟩
  .by_cases hio:i<own.length
   .rw[acP (by simpa using hio)] at e2;simp[hio] at e2
   .rw[ac7 (by simp;lia)] at e2;have vX:ys[i-own.length]?=some y:=by
     have:(own++ys)[i]?=some y:=e1
     rwa [ac7 (by lia)] at this
    rw[abT] at e2;obtain⟨j,c,hN,hσ,hk,vY,mC⟩:=S.bc.get (i-own.length) y v vX e2;obtain⟨m,hm,hl⟩:=I2.loc;obtain⟨u,ru,lu⟩:=hl j y v hN hσ (.inr (.inl hk));refine⟨u,ru,.inr ⟨.inl ?_,c,vY,?_⟩⟩
    .have z:=adi.mp S.kfr y (ace vX);exact (by simpa using z:(relabel scope X.env).names.lookup y=some .cell)
    .rcases lu with ⟨z,_⟩|⟨_,c',e',q'⟩
     .rw[hk] at z;cases z
     .rw[mC] at e';cases e';obtain⟨o,ho,hd⟩:=q';exact⟨o,keep _ _ ho,hd⟩
  .obtain⟨v,o,ho,hd⟩:=I2.cell y c (S.cls.get y c e);exact⟨v,o,keep _ _ ho,hd⟩
  .have dX:p∈X.pn++pins:=by have:p∈(X.pn++pins)++[]:=hp;simpa using this
   obtain⟨e,n,_,_,d⟩:=I2.pin p dX;obtain⟨p1,_,p3,_⟩:=zv p dX;exact⟨keep _ _ e,n,p1,p3,d⟩
  .show ((own.map λ_=>(none:Option V))++fr.map λj=>(σ[j]?).join).length=(own++ys).length;simp[S.bc.len]
 refine PH hc (hg C s2 H2 fp (X.pn++pins)) (hb C s2 H2 fp (X.pn++pins)) I2 T iC f2 h zu (by simp) I4 keep hD eD (sz.symm.trans eC) λy c e=>?_;obtain⟨v,o,ho,_⟩:=I2.cell y c (S.cls.get y c e);have:=abZ ho;exact⟨by walk_at "o",λb hb z=>(f2 b hb).2.2.2.2.1 y c (S.cls.get y c e) z⟩
theorem FG{wi:TI}{B:L2.St->It->Hp->VK->Prop}(S:jN X own scope cl fr ys)(hc:X.calm=true)(hi:PI X tg iter wi)(hg:∀ (C:ab6) (s:ab9) (H:Hp) (ex:List ab6) (pn:List (ab6 × Obj)),PG (dv X (own++ys) scope cl C s H ex pn) tg g)
 (hb:∀ (C:ab6) (s:ab9) (H:Hp) (ex:List ab6) (pn:List (ab6 × Obj)),kI (dv X (own++ys) scope cl C s H ex pn) ifs tt/\PE (dv X (own++ys) scope cl C s H ex pn) elt te)
 (hB:∀ ρ J H Q,B ρ J H Q->jO own.length J g ρ tt te H Q) (hs:∀ z,adS iter X.env z=pure z:=by intro v;rfl):PE X (.ListComp elt [⟨tg,iter,ifs,0⟩] scope pos) (λσ H Q=>wi σ H λJ H1=>B (fr.map λj=>(σ[j]?).join) J H1 Q):=by
 intro pins s σ H Q I h;rw[eval_ListComp];refine agQ (use:=none) rfl hs S.clos S.kind (λy hy hl=>?_) (aE (hi pins s σ H _ I h) λxv s1 h1=>aE h1 λvh s2 h2=>?_)
 .have z:=adi.mp S.names y hy;rw[hl] at z;simpa using z
 .obtain⟨it,fp,tn,J,H2,rfl,I2,T,iC,f2,gV⟩:=h2;refine FD (RR:=λacc C=>compPost (model X.prog X.w) X.A X.xe none (EP X pins σ Q) acc C) S hc hg hb I2 T iC f2 (hB _ _ _ _ gV) λD C s' H' J' hn fC q=>?_;obtain⟨m,hm⟩:=hn;obtain⟨c0,c1,c2,c3,c4,c5⟩:=fC;exact⟨m,hm,λh' sb=>⟨.ref D,H',J'.turned (it:=C) (λb o hb e=>sb.extBut b o hb e) c0 c1 c3 c4 c5,rfl,q⟩⟩
theorem FH{wi:TI}{B:L2.St->It->Hp->VK->Prop}{y:Str}{py pV:Pos}{i:Nat}(S:jN X own scope cl fr ys)(hc:X.calm=true)(hN:X.N.Nodup)(hy:X.N[i]?=some y)(hl:X.env.scope.names.lookup y=some .local)(hi:PI X tg iter wi)(hg:∀ (C:ab6) (s:ab9) (H:Hp) (ex:List ab6) (pn:List (ab6 × Obj)),PG (dv X (own++ys) scope cl C s H ex pn) tg g)
 (hb:∀ (C:ab6) (s:ab9) (H:Hp) (ex:List ab6) (pn:List (ab6 × Obj)),kI (dv X (own++ys) scope cl C s H ex pn) ifs tt/\PE (dv X (own++ys) scope cl C s H ex pn) elt te)
 (hB:∀ ρ J H Q,B ρ J H Q->jO own.length J g ρ tt te H Q) (sH:afH (.ListComp elt [⟨tg,iter,ifs,0⟩] scope pos) (some (.Name y py)) pV.line X.env=pure true:=by rfl)
 (hs:∀ z,adS iter X.env z=pure z:=by intro _;rfl):PS X (.Assign [.Name y py] (.ListComp elt [⟨tg,iter,ifs,0⟩] scope pos) pV) (vV i λσ H Q=>wi σ H λJ H1=>B (fr.map λj=>(σ[j]?).join) J H1 Q):=by
 intro pins s σ H Dn I h;rw[exec_Assign_Name_used _ _ _ _ sH];refine abS (aip (abS ?_));show ack _ X.A (do let _ <- comprehension (.ListComp elt [⟨tg,iter,ifs,0⟩] scope pos) scope X.env _ (aks []) false (eval iter X.env) (some (assign (.Name y py) X.env))) _ _ s;refine abS (aE (agQ (use:=some (assign (.Name y py) X.env)) (Q:=λ_ s'=>SP X pins Dn .next s') rfl hs S.clos S.kind (λz hz hl=>?_) (aE (hi pins s σ H _ I h) λxv s1 h1=>aE h1 λvh s2 h2=>?_)) λ_ s' hq=>abX (abX hq))
 .have z':=adi.mp S.names z hz;rw[hl] at z';simpa using z'
 .obtain⟨it,fp,tn,J,H2,rfl,I2,T,iC,f2,gV⟩:=h2;refine FD (RR:=λacc C=>compPost (model X.prog X.w) X.A X.xe (some (assign (.Name y py) X.env)) (λ_ s'=>SP X pins Dn .next s') acc C) S hc hg hb I2 T iC f2 (hB _ _ _ _ gV) λD C s' H' J' hn fC q=>?_;obtain⟨m,oC,es,ep,ho,hd,hr⟩:=hn;obtain⟨c0,c1,c2,c3,c4,c5⟩:=fC;have J2:Inv X (pins++[(C,oC)]) σ H' s':=J'.rF λp hp=>by
   rcases acw.mp hp with z|z
   .exact J'.pin p (acz _ z)
   .have:p=(C,oC):=by simpa using z
    subst this;exact⟨ho,c0,c1,c2,λv z=>by rw[hd] at z;cases z⟩
  show ack _ X.A (assign (.Name y py) X.env (.ref D)) _ _ _;refine aE (gB (X:=X) hN hy (.inl hl) (.inr hl) _ s' σ H' (.ref D) (.ref D) (λσ' gG=>σ'=σ.set i (some (.ref D))/\gG=H') J2 rfl ⟨rfl,rfl⟩) λ_ s3 zq=>?_;obtain⟨σ3,H3,J3,e1,e2⟩:=zq;subst e1 e2;obtain⟨pc,pn0,_⟩:=J3.pin (C,oC) (acz _ (acz _ (acx.mpr rfl)));refine⟨m,⟨oC,es,ep,pc,hd,hr⟩,λh' sb=>⟨_,H3,J3.vm.turned (it:=C) (λb o hb e=>sb.extBut b o hb e) c0 c1 c3 c4 c5,q⟩⟩
theorem zA(S:jN X own scope cl fr ys)(hc:X.calm=true)(hi:PI X tg iter wi)(hg:∀ (C:ab6) (s:ab9) (H:Hp) (ex:List ab6) (pn:List (ab6 × Obj)),PG (dv X (own++ys) scope cl C s H ex pn) tg g)(hb:∀ (C:ab6) (s:ab9) (H:Hp) (ex:List ab6) (pn:List (ab6 × Obj)),kI (dv X (own++ys) scope cl C s H ex pn) ifs tt/\PE (dv X (own++ys) scope cl C s H ex pn) elt te)(hs:∀ z,adS iter X.env z=pure z:=by intro y;rfl):PE X (.ListComp elt [⟨tg,iter,ifs,0⟩] scope pos) (zr own.length wi g fr tt te):=FG (B:=λρ J H Q=>jO own.length J g ρ tt te H Q) S hc hi hg hb (λy y y y h=>h) hs
theorem PZ(S:jN X own scope cl fr ys)(hc:X.calm=true)(hN:X.N.Nodup)(hy:X.N[i]?=some y)(hl:X.env.scope.names.lookup y=some .local)(hi:PI X tg iter wi)(hg:∀ (C:ab6) (s:ab9) (H:Hp) (ex:List ab6) (pn:List (ab6 × Obj)),PG (dv X (own++ys) scope cl C s H ex pn) tg g)(hb:∀ (C:ab6) (s:ab9) (H:Hp) (ex:List ab6) (pn:List (ab6 × Obj)),kI (dv X (own++ys) scope cl C s H ex pn) ifs tt/\PE (dv X (own++ys) scope cl C s H ex pn) elt te)(sH:afH (.ListComp elt [⟨tg,iter,ifs,0⟩] scope pos) (some (.Name y py)) pV.line X.env=pure true:=by rfl)(hs:∀ z,adS iter X.env z=pure z:=by intro v;rfl):PS X (.Assign [.Name y py] (.ListComp elt [⟨tg,iter,ifs,0⟩] scope pos) pV) (vV i (zr own.length wi g fr tt te)):=FH (B:=λρ J H Q=>jO own.length J g ρ tt te H Q) S hc hN hy hl hi hg hb (λv v v v h=>h) sH hs
end
theorem FI(h:mL J ρ tt te H Q):jO 1 J (cA 0) ρ tt te H Q:=by
 obtain⟨W,w0,turn⟩:=h;refine⟨W,w0,λi m ys H hw=>(turn i m ys H hw).imp id λ⟨a,b,N,hN,st⟩=>⟨a,b,N,hN,λos ho x H' y=>?_⟩⟩
 match os,ho with
 | [_],_=>exact⟨[some x],rfl,rfl,st x H' y⟩
section
theorem nT.g(S:nT X x scope cl fr ys):jN X [x] scope cl fr ys:=⟨S.clos,S.nocell,S.kind,S.names,S.kinds,S.cls,S.bc,S.kfr⟩
theorem nT.pg(S:nT X x scope cl fr ys)(C:ab6)(s:ab9)(H:Hp)(ex:List ab6)(pn:List (ab6 × Obj)):PG (dv X ([x]++ys) scope cl C s H ex pn) (.Name x px) (cA 0) :=
 gB (X:=dv X (x::ys) scope cl C s H ex pn) (i:=0) S.nd rfl (.inl (ach S.own)) (.inr (ach S.own))
theorem dg(S:nT X x scope cl fr ys)(hc:X.calm=true)(hi:PI X (.Name x px) iter wi)(hb:∀ (C:ab6) (s:ab9) (H:Hp) (ex:List ab6) (pn:List (ab6 × Obj)),kI (dv X (x::ys) scope cl C s H ex pn) ifs tt/\PE (dv X (x::ys) scope cl C s H ex pn) elt te)(hs:∀ z,adS iter X.env z=pure z:=by intro y;rfl):PE X (.ListComp elt [⟨.Name x px,iter,ifs,0⟩] scope pos) (zp wi fr tt te):=FG (B:=λρ J H Q=>mL J ρ tt te H Q) S.g hc hi S.pg hb (λy y y y h=>FI h) hs
theorem nX(S:nT X x scope cl fr ys)(hc:X.calm=true)(hN:X.N.Nodup)(hy:X.N[i]?=some y)(hl:X.env.scope.names.lookup y=some .local)(hi:PI X (.Name x px) iter wi)(hb:∀ (C:ab6) (s:ab9) (H:Hp) (ex:List ab6) (pn:List (ab6 × Obj)),kI (dv X (x::ys) scope cl C s H ex pn) ifs tt/\PE (dv X (x::ys) scope cl C s H ex pn) elt te)(sH:afH (.ListComp elt [⟨.Name x px,iter,ifs,0⟩] scope pos) (some (.Name y py)) pV.line X.env=pure true:=by rfl)(hs:∀ z,adS iter X.env z=pure z:=by intro v;rfl):PS X (.Assign [.Name y py] (.ListComp elt [⟨.Name x px,iter,ifs,0⟩] scope pos) pV) (vV i (zp wi fr tt te)):=FH (B:=λρ J H Q=>mL J ρ tt te H Q) S.g hc hN hy hl hi S.pg hb (λv v v v h=>FI h) sH hs
end
def fv(Ok:Hp->Prop)(ρ:L2.St)(tt:TT)(te:TE):List V->List V->Hp->(List V->Hp->Prop)->Prop
 | [],ys,H,Q=>Ok H/\Q ys H
 | x::r,ys,H,Q=>Ok H/\tt (some x::ρ) H λb H1=>if b=true then te (some x::ρ) H1 λy H2=>fv Ok ρ tt te r (ys++[y]) H2 Q else fv Ok ρ tt te r ys H1 Q
structure sI(J:It)(Ok:Hp->Prop)(xs:List V):Prop where
 go:∀ i H x,Ok H->xs[i]?=some x->J.go i H
 yld:∀ i H x H',Ok H->J.yld i H x H'->H'=H/\(i<xs.length->xs[i]?=some x)
 stop:∀ i H,Ok H->xs.length<=i->J.stop i H
section
variable{J:It}{Ok:Hp->Prop}{xs:List V}{ρ:L2.St}{tt:TT}{te:TE}{H:Hp}{Q:VK}{K:abU}{a:ab6}
theorem cJ(O:sI J Ok xs)(hn:xs.length<=aco)(h:fv Ok ρ tt te xs [] H λys H'=>∀ l,H' l=none->Q (.ref l) (upd H' l (.lst ys))):mL J ρ tt te H Q:=by
 refine⟨λi m ys H=>m=xs.length-i/\i<=xs.length/\ys.length<=i/\fv Ok ρ tt te (xs.drop i) ys H λys H'=>∀ l,H' l=none->Q (.ref l) (upd H' l (.lst ys)),⟨_,rfl,acr _,ab4 _,h⟩,?_⟩;rintro i m ys H ⟨rfl,hi,hy,g⟩;by_cases aZ:i<xs.length
 .have e:=acQ aZ;rw[e] at g;obtain⟨g0,g1⟩:=g;refine .inr ⟨O.go i H _ g0 (abW aZ),by walk_at "o",λzs H'=>zs.length<=i+1/\fv Ok ρ tt te (xs.drop (i+1)) zs H' λys H'=>∀ l,H' l=none->Q (.ref l) (upd H' l (.lst ys)),λzs H' q=>⟨_,by walk_at "o",rfl,aZ,q.1,q.2⟩,λx H' y=>?_⟩;obtain⟨rfl,ex⟩:=O.yld i H x H' g0 y;have ex:=ex aZ;rw[abW aZ] at ex;cases ex;have l1:∀ y:V,(ys++[y]).length<=i+1:=λy=>by rw[acj,acA];walk_at "o"
  have l2:ys.length<=i+1:=by walk_at "o"
  simp only[l1,l2,true_and];exact g1
 .have e:i=xs.length:=by walk_at "o"
  subst e;rw[ahh] at g;exact .inl ⟨O.stop _ H g.1 (ab4 _),by walk_at "o",g.2⟩
theorem i8:sI (kA K a) (λH=>ai K H a xs) xs :=
 ⟨λz z z h e=>⟨xs,_,h,e⟩,λz z z z h y=>⟨y.1,λz=>y.2 xs h⟩,λz z h hi=>⟨xs,h,hi⟩⟩
theorem FK:sI (rO K a) (λH=>aj K H a xs) xs :=
 ⟨λz z z h e=>⟨xs,_,h,e⟩,λz z z z h y=>⟨y.1,λz=>y.2 xs h⟩,λz z h hi=>⟨xs,h,hi⟩⟩
theorem gW{lo:Int}{n:Nat}:sI (iY lo n) (λz=>True) ((ab2 n).map λk=>V.int (lo+(k:Nat))) :=
 ⟨λi z z z e=>by
  have:=(ab0.mp e).1;show i<n;simpa using this,λi z z z z y=>⟨y.1,λhi=>by
   have cY:i<n:=by simpa using hi
   rw[y.2,aca,acV cY];rfl⟩,λi z z hi=>by
   show n<=i;simpa using hi⟩
theorem vZ(bU:Ok H):∀ {xs ys:List V},(∀ x∈xs,∀ Q,Q (p x) H->tt (some x::ρ) H Q)->(∀ x∈xs,p x=true->∀ Q,Q (f x) H->te (some x::ρ) H Q)->Q' (ys++(xs.filter p).map f) H->fv Ok ρ tt te xs ys H Q'
 | [],ys,_,_,q=>⟨bU,by simpa using q⟩
 | x::r,ys,ht,he,q=>by
  refine⟨bU,ht x (.head _) _ ?_⟩;by_cases hb:p x=true
  .rw[if_pos hb];refine he x (.head _) hb _ (vZ bU (λy hy=>ht y (.tail _ hy)) (λy hy=>he y (.tail _ hy)) ?_);rw[acF,if_pos hb] at q;simpa using q
  .rw[if_neg hb];refine vZ bU (λy hy=>ht y (.tail _ hy)) (λy hy=>he y (.tail _ hy)) ?_;rw[acF,if_neg hb] at q;exact q
end
section
variable{X:Cx}{K:abU}
theorem P4(h:X.K=K):kD X (kE K):=h ▸ bE
theorem P5(h:X.K=K):bf X (acX .NotIn) (ze K true):=h ▸ N5
end
theorem P6{prog:acK}{w:ado}{A:adz}{E:ab1->ab9->Prop}{s:ab9}{id:String}{b:adY}{args:List ab1}{kw:List (Str × ab1)}{Q:ab1->ab9->Prop}(hk:aib id=none)(hp:ajq id=true)
 (hb:agr table id=some b) (ha:ahi id ⟨args,kw⟩)
 (hc:ack (model prog w) A.in1 (b ⟨args,kw⟩) (λfin s'=>match fin with
   | .done f=>(match (Except.ok f:aiY) with|.ok (.ret v)=>Q v s'|.ok _=>False|.error e=>E e s')
   | .again c'=>c'.quiet=true/\aeV (model prog w) A c' (λr s'=>match r with|.ok (.ret v)=>Q v s'|.ok _=>False|.error e=>E e s') s') E s) :
 ack (model prog w) A (call (.builtin id) args kw) Q E s:=by
 refine aiK (aeW hp hb ?_);simp only[afV,hk];cases hsig:Manifest.signature? id with
 | none=>exact abX hc
 | some sig =>
  have sD:Bind.checkArgs id sig ⟨args,kw⟩=pure ():=by simpa only [ahi,hsig] using ha
  simp only[sD];exact abX hc
noncomputable def zB:{ F:String->CmpOp->adY // F "max" .Gt=adY.«max.loop»/\F "min" .Lt=adY.«min.loop» }:=⟨_,rfl,rfl⟩
noncomputable def FL:{ F:String->adY // F "max" = adY.«max»/\F "min" = adY.«min» }:=⟨_,rfl,rfl⟩
theorem FN{nx id:String}{op:CmpOp}(nm:(toString nx++toString ".loop" : String)=id)(e1:agr table id=some (zB.1 nx op))(e2:ajq id=true){prog:acK}{w:ado}{A:adz}{R:aiY->ab9->Prop}{I S:ab6}{fp wr:List ab6}{n:Nat}{P:Nat->ab1->Prop}{St:Nat->aek->Prop}{G:aek->Prop}{bt:Nat->Nat->Bool}{kw:List (Str × ab1)}
 (W:Walks prog w A.in1 I fp wr n P St) (hG:∀ h h',G h->(∀ b o,b∉wr->b≠S->h.get? b=some o->h'.get? b=some o)->G h')
 (sJ:∀ i j vi vj (s:ab9) (Q:ab1->ab9->Prop) (E:ab1->ab9->Prop),P i vi->P j vj->G s.heap->Q (.bool (bt i j)) s->ack (model prog w) A.in1 (af8 op vi vj) Q E s) (hS:S∉fp):∀ (k j:Nat) (s:ab9) (vb:ab1) (c:Nat),k+(j+1)=n->St (j+1) s.heap->G s.heap->P (aga bt j) vb ->
  s.heap.get? S=some { cls:=.type "list",dict:=none,data:=.seq #[vb,vb] c,slots:=#[] } ->
  (∀ v h' tk,P (aga bt (n-1)) v->(∀ b o,b∉wr->b≠S->s.heap.get? b=some o->h'.get? b=some o)->R (.ok (.ret v)) { s with heap:=h',toks:=tk }) ->
  aeV (model prog w) A (.builtin id ⟨[.ref I,.none,.ref S],kw⟩) R s:=by
 have nS:S∉wr:=λz=>hS (W.sub _ z);intro k
 induction k with
 | zero =>
  intro j s vb c e st g pb oS fin;have e':j+1=n:=by walk_at "o"
  refine ac4 e1 ?_;rw[acO e2 _];show ack _ A.in1 (aiu (.ref S) >>= _) _ _ s;refine abS (aeY oS rfl ?_);show ack _ A.in1 (tryCatch (aeX (.ref I)) _ >>= _) _ _ s;refine abS (aeZ (W.done s _ _ (e' ▸ st) λh1 tk kp=>?_));have jQ:=kp S _ nS oS;show ack _ A.in1 (agR S (λy=>#[]) >>= _) _ _ _;refine abS ?_;refine adZ jQ rfl (abS (ae8 (abX ?_)));exact fin vb _ tk (by rw[<- e'];exact pb) λb o hw hb q=>(acn _ _ (acY hb)).trans (kp b o hw q)
 | succ k ih =>
  intro j s vb c e st g pb oS fin;have lt:j+1<n:=by walk_at "o"
  refine ac4 e1 ?_;rw[acO e2 _];show ack _ A.in1 (aiu (.ref S) >>= _) _ _ s;refine abS (aeY oS rfl ?_);show ack _ A.in1 (tryCatch (aeX (.ref I)) _ >>= _) _ _ s;refine abS (aeZ (W.item (j+1) s _ _ lt st λv h1 tk pv pW kp=>?_));have jQ:=kp S _ nS oS;have g1:G h1:=hG _ _ g λb o hw y q=>kp b o hw q;show ack _ A.in1 (tryCatch (holding [v,v] (af8 op v vb >>= _)) _ >>= _) _ _ _;refine abS (aeZ (adk (abS (sJ (j+1) (aga bt j) v vb _ _ _ pv pb g1 ?_))));refine abS (adk (acL ?_));refine abS (ae8 (abX ?_));cases hb:bt (j+1) (aga bt j) with
  | true =>
   simp only[if_true];refine abS ?_;refine adZ jQ rfl (abS (ae8 ?_));rw[nm];refine abX ⟨adP e2 _,ih (j+1) _ v _ (by walk_at "o") (W.frame _ _ _ pW λb hf o q=>?_) (hG _ _ g1 λb o y mM q=>(acn _ _ (acY mM)).trans q) (by simp only[aga,hb,if_true];exact pv) (acI _ jQ rfl) λv2 h2 v3 p2 k2=>?_⟩
   .exact (acn _ _ (λz:S=b=>hS (by rw[z];exact hf))).trans q
   .exact fin v2 h2 v3 p2 λb o hw mM q=>k2 b o hw mM ((acn _ _ (acY mM)).trans (kp b o hw q))
  | false =>
   simp only[acu,if_false];refine abS (ae8 ?_);rw[nm];refine abX ⟨adP e2 _,ih (j+1) _ vb c (by walk_at "o") pW g1 (by simp only[aga,hb,acu,if_false];exact pb) jQ λv2 h2 v3 p2 k2=>?_⟩;exact fin v2 h2 v3 p2 λb o hw mM q=>k2 b o hw mM (kp b o hw q)
theorem P7{nx id:String}{op:CmpOp}(nm:(toString nx++toString ".loop" : String)=id)(e1:agr table id=some (zB.1 nx op))(e2:ajq id=true)(k0:aib nx=none)(k1:ajq nx=true)(k2:agr table nx=some (FL.1 nx))(k3:∀ a d:ab1,ahi nx ⟨[a],[("default",d)]⟩){prog:acK}{w:ado}{A:adz}{E:ab1->ab9->Prop}{s:ab9}{l:ab6}{xs:Array (Int × Tok)}{d:ab1}{Q:ab1->ab9->Prop}{bt:Nat->Nat->Bool}(e4:CmpOf prog w A.in1 op (λi v=>(adK xs)[i]?=some v) bt)(hh:A.handled=none)(hl:s.heap.IsList l (adK xs))
 (h0:xs.size=0->∀ h' tk,(∀ b o,s.heap.get? b=some o->h'.get? b=some o)->Q d { s with heap:=h',toks:=tk })
 (h1:0<xs.size->∀ v h' tk,(adK xs)[aga bt (xs.size-1)]?=some v->(∀ b o,s.heap.get? b=some o->h'.get? b=some o)->Q v { s with heap:=h',toks:=tk }) :
 ack (model prog w) A (call (.builtin nx) [.ref l] [("default",d)]) Q E s:=by
 refine P6 k0 k1 k2 (k3 _ _) ?_;show ack _ A.in1 (ad0 _ ["key","default"] 0 ⟨[],[("default",d)]⟩ >>= _) _ _ s;refine abS (ag8 (show ad0 _ ["key","default"] 0 ⟨[],[("default",d)]⟩=pure [none,some d] from rfl) ?_);refine abS (abX ?_);refine abS (iter_intList hl λs2 e2 st nW P8=>?_);subst e2;refine abS (adb ?_);have W:=Walks.list (prog:=prog) (w:=w) (A:=A.in1) hh s.heap.objs.size l P8 (adK xs);generalize eP:(s.heap.push { cls:=.type "list_iterator",data:=.fields #[.ref l,.int 0 0] })=P2 at st nW ⊢;have pX:P2.objs.size∉[s.heap.objs.size,l]:=λz=>ads _ (nW _ z);have up:∀ b o,s.heap.get? b=some o->b≠P2.objs.size/\b∉[s.heap.objs.size]/\(P2.push { cls:=.type "list",dict:=none,data:=.seq ([]:List ab1).toArray }).get? b=some o:=λb o q=>by
  have lt:=abZ q;have q2:P2.get? b=some o:=by rw[<- eP];exact abY _ q
  refine⟨acf (abZ q2),λz=>?_,abY _ q2⟩;have:b=s.heap.objs.size:=by simpa using z
  walk_at "o"
 rw[nm];refine abX ⟨adP e2 _,?_⟩;have oS:(P2.push { cls:=.type "list",dict:=none,data:=.seq ([]:List ab1).toArray }).get? P2.objs.size=some { cls:=.type "list",dict:=none,data:=.seq #[] 0,slots:=#[] }:=ab8 _ rfl;have c9:=W.frame 0 P2 (P2.push { cls:=.type "list",dict:=none,data:=.seq ([]:List ab1).toArray }) st λb y o q=>abY _ q;have nS:P2.objs.size∉[s.heap.objs.size]:=λz=>pX (by simp at z;simp[z]);by_cases hz:xs.size=0
 .have zC:(P2.push { cls:=.type "list",dict:=none,data:=.seq ([]:List ab1).toArray }).IsListIter s.heap.objs.size l (adK xs).size/\(P2.push { cls:=.type "list",dict:=none,data:=.seq ([]:List ab1).toArray }).IsList l (adK xs):=by
   have:(adK xs).size=0:=by simpa [adK] using hz
   rw[this];exact c9
  refine ac4 e1 ?_;rw[acO e2 _];show ack _ A.in1 (aiu (.ref P2.objs.size) >>= _) _ _ _;refine abS (aeY oS rfl ?_);show ack _ A.in1 (tryCatch (aeX (.ref s.heap.objs.size)) _ >>= _) _ _ _;refine abS (aeZ (W.done _ _ _ zC λh2 tk kp=>?_));refine abS (afd (abX ?_));exact h0 hz h2 tk λb o q=>kp b o (up b o q).2.1 (up b o q).2.2
 .have hp:0<xs.size:=by walk_at "o"
  have hn:0<(adK xs).size:=by simpa [adK] using hp
  refine ac4 e1 ?_;rw[acO e2 _];show ack _ A.in1 (aiu (.ref P2.objs.size) >>= _) _ _ _;refine abS (aeY oS rfl ?_);show ack _ A.in1 (tryCatch (aeX (.ref s.heap.objs.size)) _ >>= _) _ _ _;refine abS (aeZ (W.item 0 _ _ _ hn c9 λv h2 tk pv pW kp=>?_));have jQ:=kp _ _ nS oS;show ack _ A.in1 (agR P2.objs.size (λy=>#[v,v]) >>= _) _ _ _;refine abS ?_;refine adZ jQ rfl ?_;rw[nm];refine abX ⟨adP e2 _,FN nm e1 e2 (G:=λy=>True) W (λy y y y=>trivial) (λi j vi vj s Q E h1 h2 y q=>e4 i j vi vj s Q E h1 h2 q) pX ((adK xs).size-1) 0 _ v _ (by walk_at "o") (W.frame _ _ _ pW λb hf o q=>?_) trivial pv (acI _ jQ rfl) λv2 h3 zD p3 k3=>?_⟩
  .exact (acn _ _ (λz:P2.objs.size=b=>pX (by rw[z];exact hf))).trans q
  .refine h1 hp v2 h3 zD (by simpa [adK] using p3) λb o q=>?_;exact k3 b o (up b o q).2.1 (up b o q).1 ((acn _ _ (acY (up b o q).1)).trans (kp b o (up b o q).2.1 (up b o q).2.2))
noncomputable def gH:List Int->Int
 | []=>0
 | x::r=>r.foldl (λb y=>if y > b then y else b) x
noncomputable def gI:List Int->Int
 | []=>0
 | x::r=>r.foldl (λb y=>if y<b then y else b) x
theorem FO:∀ (r:List Int) (b:Int),b<=r.foldl (λb y=>if y > b then y else b) b/\(∀ y∈r,y<=r.foldl (λb y=>if y > b then y else b) b)/\(r.foldl (λb y=>if y > b then y else b) b=b∨r.foldl (λb y=>if y > b then y else b) b∈r)
 | [],b=>⟨ade _,λv z=>(nomatch z),.inl rfl⟩
 | x::r,b=>by
  simp only[agb];obtain⟨h1,h2,h3⟩:=FO r (if x > b then x else b);refine⟨?_,λy hy=>?_,?_⟩
  .refine afe ?_ h1;split<;>lia
  .rcases acd.mp hy with rfl|hy
   .refine afe ?_ h1;split<;>lia
   .exact h2 y hy
  .rcases h3 with h3|h3
   .rw[h3];split
    .right;simp
    .left;rfl
   .right;exact acN _ h3
theorem FP:∀ (r:List Int) (b:Int),r.foldl (λb y=>if y<b then y else b) b<=b/\(∀ y∈r,r.foldl (λb y=>if y<b then y else b) b<=y)/\(r.foldl (λb y=>if y<b then y else b) b=b∨r.foldl (λb y=>if y<b then y else b) b∈r)
 | [],b=>⟨ade _,λv z=>(nomatch z),.inl rfl⟩
 | x::r,b=>by
  simp only[agb];obtain⟨h1,h2,h3⟩:=FP r (if x<b then x else b);refine⟨?_,λy hy=>?_,?_⟩
  .refine afe h1 ?_;split<;>lia
  .rcases acd.mp hy with rfl|hy
   .refine afe h1 ?_;split<;>lia
   .exact h2 y hy
  .rcases h3 with h3|h3
   .rw[h3];split
    .right;simp
    .left;rfl
   .right;exact acN _ h3
theorem v5(h:ns≠[]):gH ns∈ns/\∀ y∈ns,y<=gH ns:=by
 cases ns with
 | nil=>exact absurd rfl h
 | cons x r =>
  obtain⟨h1,h2,h3⟩:=FO r x;refine⟨?_,λy hy=>?_⟩
  .rcases h3 with h3|h3
   .show r.foldl _ x∈_;rw[h3];exact .head _
   .exact .tail _ h3
  .rcases acd.mp hy with rfl|hy
   .exact h1
   .exact h2 y hy
theorem FQ(h:ns≠[]):gI ns∈ns/\∀ y∈ns,gI ns<=y:=by
 cases ns with
 | nil=>exact absurd rfl h
 | cons x r =>
  obtain⟨h1,h2,h3⟩:=FP r x;refine⟨?_,λy hy=>?_⟩
  .rcases h3 with h3|h3
   .show r.foldl _ x∈_;rw[h3];exact .head _
   .exact .tail _ h3
  .rcases acd.mp hy with rfl|hy
   .exact h1
   .exact h2 y hy
theorem sL:∀ {ns:List Int} {aw:List ab1},Vals (ns.map V.int) aw->∃ xs:Array (Int × Tok),aw.toArray=adK xs/\xs.toList.map (·.1)=ns
 | [],_,.nil=>⟨#[],by simp[adK],rfl⟩
 | n::ns,_,.cons (l₂:=aw) r t=>by
  obtain⟨xs,e1,e2⟩:=sL (ns:=ns) t;obtain⟨tk,rfl⟩:=r;refine⟨((n,tk)::xs.toList).toArray,?_,?_⟩
  .have:aw=xs.toList.map (λp=>ael p.1 p.2):=by have:=congrArg aiX e1;simpa [adK] using this
   simp[adK,this]
  .simp[e2]
theorem FR(e:xs.toList.map (·.1)=ns)(hi:i<xs.size):aic xs i∈ns/\aic xs i=ns.getD i 0:=by subst e;unfold aic;rw[acG hi];refine⟨ab7.mpr ⟨xs[i],by simp,rfl⟩,?_⟩;simp[hi]
theorem FU(e:xs.toList.map (·.1)=ns)(hy:y∈ns):∃ i,i<xs.size/\aic xs i=y:=by
 subst e;obtain⟨p,hp,rfl⟩:=ab7.mp hy;obtain⟨i,hi,e⟩:=List.mem_iff_getElem.mp hp;refine⟨i,by simpa using hi,?_⟩;unfold aic;have cY:i<xs.size:=by simpa using hi
 rw[acG cY];have:xs[i]=p:=by simpa using e
 rw[this];rfl
theorem FV(e:xs.toList.map (·.1)=ns)(h:0<xs.size):aic xs (aga (λi j=>decide (aic xs i > aic xs j)) (xs.size-1))=gH ns:=by
 obtain⟨h1,h2⟩:=argBest_gt (aic xs) (xs.size-1);have bS:ns≠[]:=by intro z;subst z;have q:=congrArg List.length e;rw[abT,aes,adG] at q;lia
 obtain⟨m1,m2⟩:=v5 bS;refine ajr (m2 _ (FR e (by lia)).1) ?_;obtain⟨i,hi,ei⟩:=FU e m1;rw[<- ei];exact h2 i (by lia)
theorem FW(e:xs.toList.map (·.1)=ns)(h:0<xs.size):aic xs (aga (λi j=>decide (aic xs i<aic xs j)) (xs.size-1))=gI ns:=by
 obtain⟨h1,h2⟩:=argBest_lt (aic xs) (xs.size-1);have bS:ns≠[]:=by intro z;subst z;have q:=congrArg List.length e;rw[abT,aes,adG] at q;lia
 obtain⟨m1,m2⟩:=FQ bS;refine ajr ?_ (m2 _ (FR e (by lia)).1);obtain⟨i,hi,ei⟩:=FU e m1;rw[<- ei];exact h2 i (by lia)
def FX(R:V->Hp->Prop):List V->Hp->Prop
 | [x],H=>R x H
 | _,_=>False
theorem P9:∀ {vs:List V} {H:Hp},FX R vs H->∃ x,vs=[x]/\R x H
 | [x],_,h=>⟨x,rfl,h⟩
section
noncomputable def nY(f:List Int->Int):List Int->V->V
 | [],y=>y
 | n::ns,_=>.int (f (n::ns))
theorem Qa(h:ns≠[]):nY f ns y = .int (f ns):=by
 cases ns with
 | nil=>exact absurd rfl h
 | cons _ _=>rfl
def v7(K:abU)(f:List Int->Int)(te td:TE):TE:=λσ H Q=>te σ H λx H1=>td σ H1 λy H2=>∃ a ns,x = .ref a/\ai K H2 a (ns.map V.int)/\Q (nY f ns y) H2
theorem FY{X:Cx}{e d:afS}{te td:TE}{p pos kp:Pos}{nx:String}{f:List Int->Int}{op:CmpOp}{id:String}(nm:(toString nx++toString ".loop" : String)=id)(e1:agr table id=some (zB.1 nx op))(e2:ajq id=true)(k0:aib nx=none)(k1:ajq nx=true)(k2:agr table nx=some (FL.1 nx))(k3:∀ a d:ab1,ahi nx ⟨[a],[("default",d)]⟩)(kb:acJ nx=some (.builtin nx))(kn:adq nx≠adq "__name__")(kd:(adq nx == adq "__debug__")=false)
 (kc:∀ (A:adz) (xs:Array (Int × Tok)),∃ bt,CmpOf X.prog X.w A op (λi v=>(adK xs)[i]?=some v) bt/\∀ ns:List Int,xs.toList.map (·.1)=ns->0<xs.size->aic xs (aga bt (xs.size-1))=f ns) (hc:X.calm=true) (hg:Gl X nx) (hm:X.mg nx=none) (he:PE X e te) (hd:PE X d td)
 (hs:acm [e] X.env=(false,eval e X.env)::acm [] X.env:=by rfl) (hq:adF pos (acm [e] X.env)=(false,eval e X.env)::adF pos (acm [] X.env):=by rfl) :
 PE X (.Call (.Name nx p) [e] [⟨some "default",d,kp⟩] pos) (v7 X.K f te td):=by
 intro pins s σ H Q I h;refine adp (gd I hg hm kb ?_ kn (hd:=kd));refine callWith_kw (aE ((ae he ag hs) pos pins s σ H (FX λx H1=>td σ H1 λy H2=>∃ (a:ab6) (ns:List Int),x = .ref a/\ai X.K H2 a (ns.map V.int)/\Q (nY f ns y) H2) I h) λus s1 ⟨vs,H1,I1,r,q⟩=>?_) hq (by rw[hs];rfl)
 .obtain⟨x,rfl,q⟩:=P9 q;obtain⟨u,rfl,ru⟩:=vals1 r;refine kws_cons (aE (hd pins s1 σ H1 _ I1 q) λw s2 ⟨y,H2,I2,ry,a,ns,ex,hS,q1⟩=>kws_nil ?_);subst ex;cases ru;obtain⟨aw,rv,hp,c⟩:=I2.list hS;obtain⟨xs,vX,FZ⟩:=sL rv;obtain⟨o,n,ho,br,c,hdt⟩:=hp;have hl:s2.heap.IsList a (adK xs):=⟨o,ho,br,n,by rw[hdt,vX]⟩
  have len:xs.size=ns.length:=by rw[<- FZ,abT];simp
  show ack _ X.A (call (.builtin nx) [.ref a] [("default",w)]) _ _ s2;obtain⟨bt,Qb,Qc⟩:=kc X.A.in1 xs;refine P7 nm e1 e2 k0 k1 k2 k3 Qb (I2.ok.hd hc) hl (λhz h' tk hk=>⟨y,H2,I2.kept hk,ry,?_⟩) λhp v h' tk hv hk=>⟨.int (f ns),H2,I2.kept hk,?_,?_⟩
  .have z:ns=[]:=adQ.mp (by walk_at "o");rw[z] at q1;exact q1
  .obtain⟨t,rfl⟩:=ag9 hv;exact⟨t,by rw[Qc _ FZ hp]⟩
  .rw[Qa (λz=>by subst z;rw[adG] at len;lia)] at q1;exact q1
theorem Qd(a d:ab1):ahi "max" ⟨[a],[("default",d)]⟩:=by unfold ahi;kernel_rfl
theorem Qe{X:Cx}{e d:afS}{te td:TE}{p pos kp:Pos}(hc:X.calm=true)(hg:Gl X "max")(hm:X.mg "max" = none)(he:PE X e te)(hd:PE X d td)
 (hs:acm [e] X.env=(false,eval e X.env)::acm [] X.env:=by rfl) (hq:adF pos (acm [e] X.env)=(false,eval e X.env)::adF pos (acm [] X.env):=by rfl) :
 PE X (.Call (.Name "max" p) [e] [⟨some "default",d,kp⟩] pos) (v7 X.K gH te td) :=
 FY (by decide) PySem.F.entry_max_loop PySem.F.plain_max_loop PySem.F.kind_max PySem.F.plain_max PySem.F.entry_max Qd sA (by decide) (by decide) (λy xs=>⟨_,CmpOf.ints_gt (aic xs) (λy y=>ag9),λy e h=>FV e h⟩) hc hg hm he hd hs hq
theorem zE(hc:X.calm=true):eU X (.builtin "max") (λxs H Q=>∃ a ns,xs=[.ref a]/\ai X.K H a (ns.map V.int)/\ns≠[]/\Q (.int (gH ns)) H):=by
 intro pins s σ H xs us Q I r h;obtain⟨a,ns,rfl,hS,bS,q⟩:=h;obtain⟨u,rfl,ru⟩:=vals1 r;cases ru;obtain⟨aw,rv,hp,y⟩:=I.list hS;obtain⟨xs,e1,e2⟩:=sL rv;obtain⟨o,n,ho,br,y,hdt⟩:=hp;have hl:s.heap.IsList a (adK xs):=⟨o,ho,br,n,by rw[hdt,e1]⟩
 have len:xs.size=ns.length:=by rw[<- e2,abT];simp
 have mK:0<xs.size:=by rw[len];exact aid.mpr bS
 refine max_intList (I.ok.hd hc) hl mK λv h' tk hv hk=>⟨.int (gH ns),H,I.kept hk,?_,q⟩
 obtain⟨t,rfl⟩:=ag9 hv;exact⟨t,by rw[FV e2 mK]⟩
theorem Qf(a d:ab1):ahi "min" ⟨[a],[("default",d)]⟩:=by unfold ahi;kernel_rfl
theorem Qg{X:Cx}{e d:afS}{te td:TE}{p pos kp:Pos}(hc:X.calm=true)(hg:Gl X "min")(hm:X.mg "min" = none)(he:PE X e te)(hd:PE X d td)
 (hs:acm [e] X.env=(false,eval e X.env)::acm [] X.env:=by rfl) (hq:adF pos (acm [e] X.env)=(false,eval e X.env)::adF pos (acm [] X.env):=by rfl) :
 PE X (.Call (.Name "min" p) [e] [⟨some "default",d,kp⟩] pos) (v7 X.K gI te td) :=
 FY (by decide) afr ad5 ai7 aiP aiQ Qf mG (by decide) (by decide) (λy xs=>⟨_,CmpOf.ints_lt (aic xs) (λy y=>ag9),λy e h=>FW e h⟩) hc hg hm he hd hs hq
theorem zF(hc:X.calm=true):eU X (.builtin "min") (λxs H Q=>∃ a ns,xs=[.ref a]/\ai X.K H a (ns.map V.int)/\ns≠[]/\Q (.int (gI ns)) H):=by
 intro pins s σ H xs us Q I r h;obtain⟨a,ns,rfl,hS,bS,q⟩:=h;obtain⟨u,rfl,ru⟩:=vals1 r;cases ru;obtain⟨aw,rv,hp,y⟩:=I.list hS;obtain⟨xs,e1,e2⟩:=sL rv;obtain⟨o,n,ho,br,y,hdt⟩:=hp;have hl:s.heap.IsList a (adK xs):=⟨o,ho,br,n,by rw[hdt,e1]⟩
 have len:xs.size=ns.length:=by rw[<- e2,abT];simp
 have mK:0<xs.size:=by rw[len];exact aid.mpr bS
 refine min_intList (I.ok.hd hc) hl mK λv h' tk hv hk=>⟨.int (gI ns),H,I.kept hk,?_,q⟩
 obtain⟨t,rfl⟩:=ag9 hv;exact⟨t,by rw[FW e2 mK]⟩
end
section
theorem F3{ch:List ab6}(I:Inv X pins σ H s)(k:∀ b o,b∉ch->s.heap.get? b=some o->h'.get? b=some o)(hf:∀ b∈ch,eT X pins H b){H':Hp}(up:∀ b u,H b=some u->H' b=some u):∀ b u,H b=some u->bM X.prog X.w H' h' b u:=by
 have mq:∀ b u,H b=some u->b∉ch:=λb u e z=>by rw[(hf b z).1] at e;cases e
 intro b u e;refine (I.az b u e).stay (λc v hc q=>k c v ?_ q) (λc q=>up c _ q) λc xs q=>up c _ q;rcases hc with z|z
 .rw[z];exact mq b u e
 .exact mq c _ z
theorem F5{t':Nat}{ch:List ab6}(I:Inv X pins σ H s)(k:∀ b o,b∉ch->s.heap.get? b=some o->h'.get? b=some o)(hf:∀ b∈ch,eT X pins H b):Inv X pins σ H { s with heap:=h',toks:=t' }:=by
 refine I.step (g':=s.gens) (d':=s.drawn) (ch:=ch) (λb hb=>?_) (λb o y y hc e y=>k b o hc e) (λb o y y hc e y=>⟨o.slots,k b o hc e⟩) (λy y y y n=>n)
  (λb o hc e=>⟨o,k b o hc e⟩) (λy y e=>e) (λy y y e=>e) (λb ps e=>⟨#[],by rw[e];simp⟩) (λm hm=>?_) (λb u e=>F3 I k hf (λy y q=>q) b u e) I.bare
 .obtain⟨y,d1,d2,d3,d4,d5⟩:=hf b hb;exact⟨d3,d1,d4,d5⟩
 .obtain⟨o,es,ep,ho,r⟩:=hm;exact⟨o,es,ep,k _ o (λz=>(hf _ z).2.1 rfl) ho,r⟩
theorem F7{t':Nat}{ch:List ab6}{T:ab6}{o:HO}(I:Inv X pins σ H s)(k:∀ b o,b∉ch->s.heap.get? b=some o->h'.get? b=some o)(hf:∀ b∈ch,eT X pins H b)(hT:s.heap.objs.size<=T)
 (new:bM X.prog X.w (upd H T o) h' T o):Inv X pins σ (upd H T o) { s with heap:=h',toks:=t' }:=by
 have hn:=I.az.fresh hT;have neT:∀ b u,s.heap.get? b=some u->b≠T:=λb u e=>acf (acg (abZ e) hT);have lD:∀ b u,H b=some u->b≠T:=λb u e=>jB e hn;have up:∀ b u,H b=some u->upd H T o b=some u:=λb u e=>by rw[aF (lD b u e)];exact e
 refine I.step (g':=s.gens) (d':=s.drawn) (ch:=ch) (λb hb=>?_) (λb o y y hc e y=>k b o hc e) (λb o y y hc e y=>⟨o.slots,k b o hc e⟩) (λb u y e n=>by rw[aF (neT b u e)];exact n)
  (λb o hc e=>⟨o,k b o hc e⟩) (λb xs e=>up b _ e) (λb y y e=>up b _ e) (λb ps e=>⟨#[],by rw[up b _ e];simp⟩) (λm hm=>?_) (λb u e=>?_) I.bare
 .obtain⟨y,d1,d2,d3,d4,d5⟩:=hf b hb;exact⟨d3,d1,d4,d5⟩
 .obtain⟨o,es,ep,ho,r⟩:=hm;exact⟨o,es,ep,k _ o (λz=>(hf _ z).2.1 rfl) ho,r⟩
 .by_cases hb:b=T
  .subst hb;rw[aq] at e;cases e;exact new
  .rw[aF hb] at e;exact F3 I k hf up b u e
end
noncomputable def v8(K:abU)(a:ab6)(n:Nat):It :=
 ⟨λi H=>∃ xs x,ai K H a xs/\xs.length=n/\xs.reverse[i]?=some x,λi H x H'=>H'=H/\∀ xs,ai K H a xs->xs.length=n->xs.reverse[i]?=some x,λi y=>i=n⟩
theorem Qh{P:acK}{w:ado}{K:abU}{tg:afS}(a it:ab6)(n:Nat):Turn P w K tg (v8 K a n) [it] it (λi h=>i<=n/\h.IsRevIter it a ((n:Int)-1-(i:Nat))) where
 mem:=by simp
 obj:=λi h st b hb=>by
  have e:b=it:=by simpa using hb
  subst e;obtain⟨y,o,e,c,d⟩:=st;exact⟨o,e,λv z=>by rw[d] at z;cases z⟩
 keep:=λi h h' st k=>⟨st.1,st.2.at λo e=>k it (by simp) o e⟩
 item:=by
  intro X hP hw hK hc i pins s σ H E I hf st hg;subst hP hw hK;obtain⟨xs,x,hq,hn,hx⟩:=hg;obtain⟨aw,rv,p,hz⟩:=I.list hq;have hl:=rv.length;have hi:i<n:=by have:=(ab0.mp hx).1;rw[adE] at this;lia
  have cB:xs[n-1-i]?=some x:=by rw[aeb (by lia),hn] at hx;exact hx
  obtain⟨u,hu,ru⟩:=rv.get cB;obtain⟨f0,f1,f2,f3,f4,f5⟩:=hf it (by simp);have c9:=st.2;rw[show (n:Int)-1-(i:Nat)=((n-1-i:Nat):Int) by lia] at c9;refine wpAny_pyNext_rev_item c9 p.isList (x:=u) (by simpa using hu) λh' c9 sb=>?_;have I1:Inv X pins σ H { s with heap:=h' }:=I.turned (t':=s.toks) (λb o hb e=>(sb.2 b hb).trans e) f0 f1 f3 f4 f5;obtain⟨o,e,c,d⟩:=id c9;rw[show ((n-1-i:Nat):Int)-1=(n:Int)-1-((i+1:Nat):Int) by lia] at c9;exact⟨u,rfl,pH (s:={ s with heap:=h' }) e c d (by decide) ⟨x,H,I1,ru,⟨rfl,λys hy y=>by rw[I.rL hy hq];exact hx⟩,⟨by lia,c9⟩,λb hb=>(hf b hb).1⟩⟩
 done:=by
  intro X hP hw hK hc i pins s σ H E I hf st hg;subst hP hw hK;have Qi:i=n:=hg;subst Qi;obtain⟨f0,f1,f2,f3,f4,f5⟩:=hf it (by simp);have c9:=st.2;rw[show (i:Int)-1-(i:Nat) = -1 by lia] at c9;exact wpAny_pyNext_rev_end (I.ok.hd hc) c9 λh' eb=>⟨rfl,I.turned (t':=s.toks) (λb o hb e=>eb b o hb e) f0 f1 f3 f4 f5⟩
 self:=λy y y y y st h=>ahV st.2 h
def zG(K:abU)(ta:TA):TI:=λσ H R=>ta σ H λvs H1=>∃ a xs,vs=[.ref a]/\ai K H1 a xs/\R (v8 K a xs.length) H1
theorem Qj(hg:Gl X "reversed")(hm:X.mg "reversed" = none)(ha:PA X [e] ta)(hs:acm [e] X.env=[(false,eval e X.env)]:=by rfl):PI X tg (.Call (.Name "reversed" p) [e] [] pos) (zG X.K ta):=by
 intro pins s σ H R I h;refine akn (gd I hg hm OL (acD (aE (ha pos pins s σ H _ I h) λus s1 zq=>?_) hs rfl));obtain⟨vs,H1,I1,r1,q1⟩:=zq;obtain⟨a,xs,rfl,hq,q⟩:=q1;obtain⟨u,rfl,ru⟩:=vals1 r1;cases ru;obtain⟨aw,rv,p,hz⟩:=I1.list hq;refine call_reversed_list p.isList ?_;have hl:=rv.length;refine ahV (i:=(aw.toArray.size:Int)-1) (l:=a) ⟨_,ab8 _ rfl,rfl,rfl⟩ ?_;refine⟨s1.heap.objs.size,[s1.heap.objs.size],_,_,H1,rfl,I1.kept (t':=s1.toks) λb o e=>abY _ e,Qh a _ xs.length,⟨acr _,_,ab8 _ rfl,rfl,?_⟩,λb hb=>?_,q⟩
 .rw[acb,<- hl];simp;rfl
 .have e:b=s1.heap.objs.size:=by simpa using hb
  subst e;exact I1.iX (ab4 _) (I1.az.fresh (ab4 _))
noncomputable def wa(K:abU)(a:ab6):It :=
 ⟨λi H=>∃ xs x,ai K H a xs/\xs[i]?=some x,λi H v H'=>∃ (p:ab6) (x:V),v = .ref p/\H p=none/\H'=upd H p (.tup [.int i,x])/\∀ xs,ai K H a xs->xs[i]?=some x,λi H=>∃ xs,ai K H a xs/\xs.length<=i⟩
theorem zH:2<=aco:=by decide
theorem Qk{P:acK}{w:ado}{K:abU}{es:List afS}{k:Nat}{tp:Pos}(a e it:ab6)(F8:e≠it):Turn P w K (.Tuple es k tp) (wa K a) [e,it] e (λi h=>(∃ old,IsEnum h e it (i:Nat) old)/\h.IsListIter it a i) where
 mem:=by simp
 obj:=λi h st b hb=>by
  obtain⟨⟨old,he⟩,o,ho,c,d⟩:=st;have bX:b=e∨b=it:=by simpa using hb
  rcases bX with rfl|rfl
  .exact⟨_,he,λv z=>by
    have z':Data.fields _=Data.cell v:=z;cases z'⟩
  .exact⟨o,ho,λv z=>by rw[d] at z;cases z⟩
 keep:=λi h h' st kk=>by obtain⟨⟨old,he⟩,hi⟩:=st;exact⟨⟨old,kk e (by simp) _ he⟩,hi.at λo e=>kk it (by simp) o e⟩
 item:=by
  intro X hP hw hK hc i pins s σ H E I hf st hg;subst hP hw hK;obtain⟨xs,x,hq,hx⟩:=hg;obtain⟨⟨old,he⟩,hit⟩:=st;obtain⟨aw,rv,p,hz⟩:=I.list hq;obtain⟨u,hu,ru⟩:=rv.get hx;refine ahs he hit p.isList (x:=u) (by simpa using hu) F8 λh1 ho Ql hT hsz hk=>?_;refine⟨_,rfl,wpAny_letOwnedTupleGo_enum ho λh2 F9 da=>?_⟩;have zI:Heap.SameBut e h1 h2:=da;have neT:s.heap.objs.size≠e:=ac6 (abZ he);have up:∀ b o,b∉[e,it]->s.heap.get? b=some o->h2.get? b=some o:=λb o hb q=>by
   have bX:b≠e/\b≠it:=by simpa using hb
   exact zI.extBut b o bX.1 (hk b o bX.1 bX.2 q)
  have hn:H s.heap.objs.size=none:=I.az.fresh (ab4 _);refine⟨.ref s.heap.objs.size,upd H s.heap.objs.size (.tup [.int i,x]),F7 (s:=s) (h':=h2) (t':=s.toks+1) I up hf (ab4 _) ⟨zH,[.int i s.toks,u],.cons ⟨_,rfl⟩ (.cons ru .nil),?_⟩,rfl,⟨_,x,rfl,hn,rfl,λys hy=>by rw[I.rL hy hq];exact hx⟩,⟨⟨u,?_⟩,?_⟩,λb hb=>?_⟩
  .have:=zI.extBut _ _ neT hT;exact⟨_,this,rfl,_,rfl⟩
  .have:((i:Int)+1)=((i+1:Nat):Int):=by lia
   rw[<- this];exact F9
  .exact Ql.at λo q=>zI.extBut _ _ (acY F8) q
  .rw[aF]
   .exact (hf b hb).1
   .have bX:b=e∨b=it:=by simpa using hb
    rcases bX with rfl|rfl
    .exact acY neT
    .obtain⟨o,q,y⟩:=hit;exact acf (abZ q)
 done:=by
  intro X hP hw hK hc i pins s σ H E I hf st hg;subst hP hw hK;obtain⟨xs,hq,hx⟩:=hg;obtain⟨⟨old,he⟩,hit⟩:=st;obtain⟨aw,rv,p,hz⟩:=I.list hq;have hl:=rv.length;refine ahG (I.ok.hd hc) he hit p.isList (by simp;lia) λh' eb=>⟨rfl,F5 (t':=s.toks) I (λb o hb q=>?_) hf⟩
  have bX:b≠e/\b≠it:=by simpa using hb
  exact eb b o bX.2 q
 self:=λy i s Q E st h=>by obtain⟨⟨old,he⟩,y⟩:=st;exact agS he h
def zJ(K:abU)(ta:TA):TI:=λσ H R=>ta σ H λvs H1=>∃ a,vs=[.ref a]/\(∃ xs,ai K H1 a xs)/\R (wa K a) H1
theorem zK(hg:Gl X "enumerate")(hm:X.mg "enumerate" = none)(ha:PA X [e] ta)(hs:acm [e] X.env=[(false,eval e X.env)]:=by rfl):PI X (.Tuple es k tp) (.Call (.Name "enumerate" p) [e] [] pos) (zJ X.K ta):=by
 intro pins s σ H R I h;refine akn (gd I hg hm E5 (acD (aE (ha pos pins s σ H _ I h) λus s1 zq=>?_) hs rfl));obtain⟨vs,H1,I1,r1,q1⟩:=zq;obtain⟨a,rfl,⟨xs,hq⟩,q⟩:=q1;obtain⟨u,rfl,ru⟩:=vals1 r1;cases ru;obtain⟨aw,rv,p,hz⟩:=I1.list hq;refine aie p.isList λh' he hit hsz hk=>?_;refine agS he ?_;have I2:Inv X pins σ H1 { s1 with heap:=h' }:=I1.kept (t':=s1.toks) hk;refine⟨s1.heap.objs.size+1,[s1.heap.objs.size+1,s1.heap.objs.size],_,_,H1,rfl,I2,Qk a _ _ (by walk_at "o"),⟨⟨.none,he⟩,hit⟩,λb hb=>?_,q⟩;have bX:b=s1.heap.objs.size+1∨b=s1.heap.objs.size:=by simpa using hb
 rcases bX with rfl|rfl
 .exact I1.iX (af7 _) (I1.az.fresh (af7 _))
 .exact I1.iX (ab4 _) (I1.az.fresh (ab4 _))
noncomputable def sM(K:abU)(a b:ab6):It :=
 ⟨λi H=>∃ xs ys x y,ai K H a xs/\ai K H b ys/\xs[i]?=some x/\ys[i]?=some y,λi H v H'=>∃ (p:ab6) (x y:V),v = .ref p/\H p=none/\H'=upd H p (.tup [x,y])/\(∀ xs,ai K H a xs->xs[i]?=some x)/\∀ ys,ai K H b ys->ys[i]?=some y,
  λi H=>∃ xs ys,ai K H a xs/\ai K H b ys/\(xs.length<=i∨ys.length<=i)⟩
theorem Qm{P:acK}{w:ado}{K:abU}{es:List afS}{k:Nat}{tp:Pos}(a b z TI TO i1 i2:ab6)(D:ZipApart z TI TO i1 i2 a b):Turn P w K (.Tuple es k tp) (sM K a b) [z,TI,TO,i1,i2] z
 (λi h=>IsZip h z TI TO .none/\IsPair h TI (.ref i1) (.ref i2)/\(∃ a b,IsPair h TO a b)/\h.IsListIter i1 a i/\h.IsListIter i2 b i) where
 mem:=by simp
 obj:=λi h st c hc=>by
  obtain⟨hz,jR,⟨ta,tb,kK⟩,⟨o1,h1,c1,d1⟩,⟨o2,h2,c2,d2⟩⟩:=st;have lh:c=z∨c=TI∨c=TO∨c=i1∨c=i2:=by simpa using hc
  rcases lh with rfl|rfl|rfl|rfl|rfl
  .exact⟨_,hz,λv q=>by
    have q':Data.fields _=Data.cell v:=q;cases q'⟩
  .exact⟨_,jR,λv q=>by
    have q':Data.seq _ _=Data.cell v:=q;cases q'⟩
  .exact⟨_,kK,λv q=>by
    have q':Data.seq _ _=Data.cell v:=q;cases q'⟩
  .exact⟨o1,h1,λv q=>by rw[d1] at q;cases q⟩
  .exact⟨o2,h2,λv q=>by rw[d2] at q;cases q⟩
 keep:=λi h h' st kk=>by obtain⟨hz,jR,⟨ta,tb,kK⟩,h1,h2⟩:=st;exact⟨kk z (by simp) _ hz,kk TI (by simp) _ jR,⟨ta,tb,kk TO (by simp) _ kK⟩,h1.at λo e=>kk i1 (by simp) o e,h2.at λo e=>kk i2 (by simp) o e⟩
 item:=by
  intro X hP hw hK hc i pins s σ H E I hf st hg;subst hP hw hK;obtain⟨xs,ys,x,y,hqx,hqy,hx,hy⟩:=hg;obtain⟨hz,jR,⟨ta,tb,kK⟩,h1,h2⟩:=st;obtain⟨aw,rv,p1,m⟩:=I.list hqx;obtain⟨jts,wb,p2,m⟩:=I.list hqy;obtain⟨u,hu,ru⟩:=rv.get hx;obtain⟨v,hv,Qn⟩:=wb.get hy;refine wpAny_pyNext_zip_item D hz jR kK h1 h2 p1.isList p2.isList (x:=u) (y:=v) (by simpa using hu) (by simpa using hv) λh' z1 t1 l1 l2 pT hsz hk=>?_;refine⟨_,rfl,wpAny_letOwnedTupleGo_zip z1 λh3 z3 Qo=>?_⟩;have pY:Heap.SameBut z h' h3:=Qo;have neT:s.heap.objs.size≠z:=ac6 (abZ hz);have up:∀ b o,b∉[z,TI,TO,i1,i2]->s.heap.get? b=some o->h3.get? b=some o:=λb o hb q=>by
   have bX:b≠z/\b≠TI/\b≠TO/\b≠i1/\b≠i2:=by simpa using hb
   exact pY.extBut b o bX.1 (hk b o bX.1 bX.2.2.1 bX.2.2.2.1 bX.2.2.2.2 q)
  have hn:H s.heap.objs.size=none:=I.az.fresh (ab4 _);refine⟨.ref s.heap.objs.size,upd H s.heap.objs.size (.tup [x,y]),F7 (s:=s) (h':=h3) (t':=s.toks) I up hf (ab4 _) ⟨zH,[u,v],.cons ru (.cons Qn .nil),?_⟩,rfl,⟨_,x,y,rfl,hn,rfl,λzs zL=>by rw[I.rL zL hqx];exact hx,λzs zL=>by rw[I.rL zL hqy];exact hy⟩,
   ⟨z3,pY.extBut _ _ D.TIz (hk _ _ D.TIz D.TITO D.TIi1 D.TIi2 jR),⟨_,_,pY.extBut _ _ D.TOz t1⟩,l1.at λo q=>pY.extBut _ _ D.i1z q,l2.at λo q=>pY.extBut _ _ D.i2z q⟩,λb hb=>?_⟩
  .have:=pY.extBut _ _ neT pT;exact⟨_,this,rfl,_,rfl⟩
  .rw[aF]
   .exact (hf b hb).1
   .have bX:b=z∨b=TI∨b=TO∨b=i1∨b=i2:=by simpa using hb
    rcases bX with rfl|rfl|rfl|rfl|rfl
    .exact acY neT
    .exact acf (abZ jR)
    .exact acf (abZ kK)
    .obtain⟨o,q,m⟩:=h1;exact acf (abZ q)
    .obtain⟨o,q,m⟩:=h2;exact acf (abZ q)
 done:=by
  intro X hP hw hK hc i pins s σ H E I hf st hg;subst hP hw hK;obtain⟨xs,ys,hqx,hqy,hx⟩:=hg;obtain⟨hz,jR,⟨ta,tb,kK⟩,h1,h2⟩:=st;obtain⟨aw,rv,p1,m⟩:=I.list hqx;obtain⟨jts,wb,p2,m⟩:=I.list hqy;have l1:=rv.length;have l2:=wb.length;refine wpAny_pyNext_zip_end (I.ok.hd hc) D hz jR kK h1 h2 p1.isList p2.isList (hx.imp (λq=>by simp;lia) λq=>by simp;lia) λh' hk=>⟨rfl,F5 (t':=s.toks) I (λb o hb q=>?_) hf⟩
  have bX:b≠z/\b≠TI/\b≠TO/\b≠i1/\b≠i2:=by simpa using hb
  exact hk b o bX.1 bX.2.2.1 bX.2.2.2.1 bX.2.2.2.2 q
 self:=λm i s Q E st h=>ai8 st.1 h
def zM(K:abU)(ta:TA):TI:=λσ H R=>ta σ H λvs H1=>∃ a b,vs=[.ref a,.ref b]/\(∃ xs,ai K H1 a xs)/\(∃ ys,ai K H1 b ys)/\R (sM K a b) H1
theorem Ga(hg:Gl X "zip")(hm:X.mg "zip" = none)(ha:PA X [e,f] ta)(hs:acm [e,f] X.env=(false,eval e X.env)::acm [f] X.env:=by rfl)(da:acm [f] X.env=[(false,eval f X.env)]:=by rfl):PI X (.Tuple es k tp) (.Call (.Name "zip" p) [e,f] [] pos) (zM X.K ta):=by
 intro pins s σ H R I h;refine akn (gd I hg hm OJ (acD (aE (ha pos pins s σ H _ I h) λus s1 ⟨vs,H1,I1,r1,q1⟩=>?_) hs (by rw[da];rfl)));obtain⟨a,b,rfl,⟨xs,hqx⟩,⟨ys,hqy⟩,q⟩:=q1;obtain⟨u,v,rfl,ru,Qp⟩:=vals2 r1;cases ru;cases Qp;obtain⟨aw,rv,p1,y⟩:=I1.list hqx;obtain⟨jts,wb,p2,y⟩:=I1.list hqy;have a1:a<s1.heap.objs.size:=by obtain⟨y,e,y⟩:=p1.isList;exact abZ e
 have a2:b<s1.heap.objs.size:=by obtain⟨y,e,y⟩:=p2.isList;exact abZ e
 refine call_zip_2 p1.isList p2.isList λh' hz jR kK h1 h2 hsz hk=>?_;refine ai8 hz ?_;have I2:Inv X pins σ H1 { s1 with heap:=h' }:=I1.kept (t':=s1.toks) hk;refine⟨s1.heap.objs.size+4,[s1.heap.objs.size+4,s1.heap.objs.size+2,s1.heap.objs.size+3,s1.heap.objs.size,s1.heap.objs.size+1],_,_,H1,rfl,I2,Qm a b _ _ _ _ _ (zipApart_new a1 a2),⟨hz,jR,⟨_,_,kK⟩,h1,h2⟩,λc hc=>?_,q⟩;have lh:s1.heap.objs.size<=c:=by simp only[acd,ad7,or_false] at hc;walk_at "o"
 exact I1.iX lh (I1.az.fresh lh)
section
theorem Gb(hc:X.calm=true):eU X (.builtin "sum") (λxs H Q=>∃ (a:ab6) (ns:List Int),xs=[.ref a]/\ai X.K H a (ns.map V.int)/\Q (.int ns.sum) H):=by
 intro pins s σ H xs us Q I r h;obtain⟨a,ns,rfl,hS,q⟩:=h;obtain⟨u,rfl,ru⟩:=vals1 r;cases ru;obtain⟨aw,rv,hp,y⟩:=I.list hS;obtain⟨xs,e1,e2⟩:=sL rv;obtain⟨o,n,ho,br,y,hdt⟩:=hp;have hl:s.heap.IsList a (adK xs):=⟨o,ho,br,n,by rw[hdt,e1]⟩
 refine sum_intListG (I.ok.hd hc) hl λh' tk t' hk=>⟨.int ns.sum,H,I.kept hk,⟨t',?_⟩,q⟩
 rw[preSum_eq,afs (by simp),e2]
theorem zN:∀ {bs:List Bool} {aw:List ab1},Vals (bs.map V.bl) aw->aw=bs.map adt
 | [],aw,r=>by cases r;rfl
 | b::bs,aw,r=>by
  cases r with
  | cons r1 r2 =>
   cases r1;rw[zN r2];rfl
theorem sN(hc:X.calm=true):eU X (.builtin "all") (λxs H Q=>∃ (a:ab6) (bs:List Bool),xs=[.ref a]/\ai X.K H a (bs.map V.bl)/\Q (.bl (bs.all id)) H):=by
 intro pins s σ H xs us Q I r h;obtain⟨a,bs,rfl,hS,q⟩:=h;obtain⟨u,rfl,ru⟩:=vals1 r;cases ru;obtain⟨aw,rv,hp,y⟩:=I.list hS;have e:=zN rv;subst e;have hl:=hp.isList;have aZ:a<s.heap.objs.size:=by obtain⟨y,e,y⟩:=hl;exact abZ e
 refine call_all_walk (afv hl ?_);refine⟨s.heap.objs.size,[s.heap.objs.size,a],[s.heap.objs.size],(bs.map adt).toArray.size,_,_,λi=>(bs[i]?).getD true,rfl,Walks.list (A:=X.A.in1) (I.ok.hd hc) _ a (acf aZ) (bs.map adt).toArray,⟨⟨_,ab8 _ rfl,rfl,rfl⟩,hl.push _⟩,λi v s' Q' E' hP hQ=>?_,λh' tk hk=>?_⟩
 .have lE:(bs[i]?).map adt=some v:=by simpa using hP
  cases e:bs[i]? with
  | none=>rw[e] at lE;cases lE
  | some b =>
   rw[e] at lE;cases lE;simp only[e,ae3] at hQ;exact acL hQ
 .have e:((ab2 (bs.map adt).toArray.size).all λi=>(bs[i]?).getD true)=bs.all id:=by rw[acb,abT];exact PyProof.Rows.LSm.range_all bs
  rw[e];exact⟨.bl (bs.all id),H,I.kept (λb o q=>hk b o (λz=>by
   have:b=s.heap.objs.size:=by simpa using z
   rw[this] at q;exact ads _ (abZ q)) (abY _ q)),rfl,q⟩
theorem Ge(hc:X.calm=true):eU X (.builtin "any") (λxs H Q=>∃ (a:ab6) (bs:List Bool),xs=[.ref a]/\ai X.K H a (bs.map V.bl)/\Q (.bl (bs.any id)) H):=by
 intro pins s σ H xs us Q I r h;obtain⟨a,bs,rfl,hS,q⟩:=h;obtain⟨u,rfl,ru⟩:=vals1 r;cases ru;obtain⟨aw,rv,hp,y⟩:=I.list hS;have e:=zN rv;subst e;have hl:=hp.isList;have aZ:a<s.heap.objs.size:=by obtain⟨y,e,y⟩:=hl;exact abZ e
 refine call_any_walk (afv hl ?_);refine⟨s.heap.objs.size,[s.heap.objs.size,a],[s.heap.objs.size],(bs.map adt).toArray.size,_,_,λi=>(bs[i]?).getD false,rfl,Walks.list (A:=X.A.in1) (I.ok.hd hc) _ a (acf aZ) (bs.map adt).toArray,⟨⟨_,ab8 _ rfl,rfl,rfl⟩,hl.push _⟩,λi v s' Q' E' hP hQ=>?_,λh' tk hk=>?_⟩
 .have lE:(bs[i]?).map adt=some v:=by simpa using hP
  cases e:bs[i]? with
  | none=>rw[e] at lE;cases lE
  | some b =>
   rw[e] at lE;cases lE;simp only[e,ae3] at hQ;exact acL hQ
 .have e:((ab2 (bs.map adt).toArray.size).any λi=>(bs[i]?).getD false)=bs.any id:=by rw[acb,abT];exact PyProof.Rows.LSm.range_any bs
  rw[e];exact⟨.bl (bs.any id),H,I.kept (λb o q=>hk b o (λz=>by
   have:b=s.heap.objs.size:=by simpa using z
   rw[this] at q;exact ads _ (abZ q)) (abY _ q)),rfl,q⟩
end
section
variable{K:abU}{g:TG}{tb:TS}{D:Ends}{σ:L2.St}{H:Hp}{a b:ab6}{xs ys:List V}
theorem Qq{ta:TA}:kB (zG K ta) g tb D σ H=ta σ H (λvs H1=>∃ a xs,vs=[.ref a]/\ai K H1 a xs/\FJ (v8 K a xs.length) g tb D σ H1):=rfl
theorem Qr{ta:TA}:kB (zJ K ta) g tb D σ H=ta σ H (λvs H1=>∃ a,vs=[.ref a]/\(∃ xs,ai K H1 a xs)/\FJ (wa K a) g tb D σ H1):=rfl
theorem Qs{ta:TA}:kB (zM K ta) g tb D σ H=ta σ H (λvs H1=>∃ a b,vs=[.ref a,.ref b]/\(∃ xs,ai K H1 a xs)/\(∃ ys,ai K H1 b ys)/\FJ (sM K a b) g tb D σ H1):=rfl
theorem zO(Pv:Nat->L2.St->Hp->Prop)(h0:Pv 0 σ H)(hl:∀ i σ H,i<=xs.length->Pv i σ H->ai K H a xs)(hs:∀ i x σ H p,xs[i]?=some x->Pv i σ H->H p=none->g (.ref p) σ (upd H p (.tup [.int i,x])) λσ2 H2=>tb { D with nx:=Pv (i+1),ct:=Pv (i+1),bk:=D.nx } σ2 H2)(hd:∀ σ H,Pv xs.length σ H->D.nx σ H):FJ (wa K a) g tb D σ H:=by
 refine⟨λi m σ H=>m=xs.length-i/\i<=xs.length/\Pv i σ H,⟨_,rfl,acr _,h0⟩,?_⟩;rintro i m σ H ⟨rfl,hi,p⟩;have q:=hl i σ H hi p;by_cases aZ:i<xs.length
 .refine .inr ⟨⟨xs,xs[i],q,by simp[aZ]⟩,Pv (i+1),λσ' H' p'=>⟨xs.length-(i+1),by lia,rfl,aZ,p'⟩,λv H' y=>?_⟩;obtain⟨w,x,rfl,hw,rfl,y⟩:=y;exact hs i x σ _ w (y xs q) p hw
 .have e:i=xs.length:=by lia
  subst e;exact .inl ⟨⟨xs,q,ab4 _⟩,hd σ H p⟩
theorem Qt(Pv:Nat->L2.St->Hp->Prop)(h0:Pv 0 σ H)(hl:∀ i σ H,Pv i σ H->ai K H a xs/\ai K H b ys)(hs:∀ i x y σ H p,xs[i]?=some x->ys[i]?=some y->Pv i σ H->H p=none->g (.ref p) σ (upd H p (.tup [x,y])) λσ2 H2=>tb { D with nx:=Pv (i+1),ct:=Pv (i+1),bk:=D.nx } σ2 H2)(hd:∀ σ H,Pv (min xs.length ys.length) σ H->D.nx σ H):FJ (sM K a b) g tb D σ H:=by
 refine⟨λi m σ H=>m=min xs.length ys.length-i/\i<=min xs.length ys.length/\Pv i σ H,⟨_,rfl,acr _,h0⟩,?_⟩;rintro i m σ H ⟨rfl,hi,p⟩;have q:=hl i σ H p;by_cases aZ:i<min xs.length ys.length
 .have h1:i<xs.length:=by lia
  have h2:i<ys.length:=by lia
  refine .inr ⟨⟨xs,ys,xs[i],ys[i],q.1,q.2,by simp[h1],by simp[h2]⟩,Pv (i+1),λσ' H' p'=>⟨min xs.length ys.length-(i+1),by lia,rfl,aZ,p'⟩,λv H' y=>?_⟩;obtain⟨w,x,y',rfl,hw,rfl,e1,e2⟩:=y;exact hs i x y' σ _ w (e1 xs q.1) (e2 ys q.2) p hw
 .have e:i=min xs.length ys.length:=by lia
  refine .inl ⟨⟨xs,ys,q.1,q.2,by lia⟩,hd σ H (e ▸ p)⟩
end
theorem nZ{K:abU}{i j:Nat}{p:ab6}{x y:V}{σ:L2.St}{H:Hp}{Q:L2.St->Hp->Prop}(h:aj K H p [x,y])(q:Q ((σ.set i (some x)).set j (some y)) H):ky K 2 (cX (cA i) (cX (cA j) jF)) (.ref p) σ H Q :=
 ⟨p,[x,y],rfl,h,rfl,x,[y],rfl,y,[],rfl,rfl,q⟩
section
variable{X:Cx}{K:abU}
theorem Gf(h:X.K=K):yW X (za K):=h ▸ sk
def pZ(Ok:Hp->Prop)(ρ:L2.St)(tt:TT)(te:TE):List (V × V)->List V->Hp->(List V->Hp->Prop)->Prop
 | [],zs,H,Q=>Ok H/\Q zs H
 | (x,y)::r,zs,H,Q=>Ok H/\∀ p,H p=none->tt (some x::some y::ρ) (upd H p (.tup [x,y])) λb H1=>if b=true then te (some x::some y::ρ) H1 λz H2=>pZ Ok ρ tt te r (zs++[z]) H2 Q else pZ Ok ρ tt te r zs H1 Q
theorem Qu{os:List (Option V)}(h:os.length=2):∃ a b,os=[a,b]:=by
 match os,h with
 | [a,b],_=>exact⟨a,b,rfl⟩
theorem Qv(hn:(xs.zip ys).length<=aco)(h:pZ (λH=>ai K H a xs/\ai K H b ys) ρ tt te (xs.zip ys) [] H λzs H'=>∀ l,H' l=none->Q (.ref l) (upd H' l (.lst zs))) :
 jO 2 (sM K a b) (ky K 2 (cX (cA 0) (cX (cA 1) jF))) ρ tt te H Q:=by
 have hlen:(xs.zip ys).length=min xs.length ys.length:=ajs;refine⟨λi m zs H=>m=(xs.zip ys).length-i/\i<=(xs.zip ys).length/\zs.length<=i/\pZ (λH=>ai K H a xs/\ai K H b ys) ρ tt te ((xs.zip ys).drop i) zs H λzs H'=>∀ l,H' l=none->Q (.ref l) (upd H' l (.lst zs)),⟨_,rfl,acr _,ab4 _,h⟩,?_⟩;rintro i m zs H ⟨rfl,hi,hy,g⟩;by_cases aZ:i<(xs.zip ys).length
 .have e:=acQ aZ;have h1:i<xs.length:=by lia
  have h2:i<ys.length:=by lia
  have e2:(xs.zip ys)[i]=(xs[i],ys[i]):=List.getElem_zip;rw[e,e2] at g;obtain⟨⟨g0,wc⟩,g1⟩:=g;have l1:∀ y:V,(zs++[y]).length<=i+1:=λy=>by rw[acj,acA];lia
  have l2:zs.length<=i+1:=by lia
  refine .inr ⟨⟨xs,ys,xs[i],ys[i],g0,wc,by simp[h1],by simp[h2]⟩,by lia,λws H'=>ws.length<=i+1/\pZ (λH=>ai K H a xs/\ai K H b ys) ρ tt te ((xs.zip ys).drop (i+1)) ws H' λzs H'=>∀ l,H' l=none->Q (.ref l) (upd H' l (.lst zs)),λzs H' q=>⟨_,by lia,rfl,aZ,q.1,q.2⟩,λos nU v H' y=>?_⟩;obtain⟨p,x,y',rfl,hp,rfl,ex,ey⟩:=y;have ex:=ex xs g0;have ey:=ey ys wc;rw[abW h1] at ex;rw[abW h2] at ey;cases ex;cases ey;obtain⟨o1,o2,rfl⟩:=Qu nU;refine nZ (aj.of aq) ⟨[some xs[i],some ys[i]],rfl,rfl,?_⟩;simp only[l1,l2,true_and];exact g1 p hp
 .have e:i=(xs.zip ys).length:=by lia
  subst e;rw[ahh] at g;obtain⟨⟨g0,wc⟩,g1⟩:=g;exact .inl ⟨⟨xs,ys,g0,wc,by lia⟩,by lia,g1⟩
end
mutual
inductive Dat(K:abU)(H:Hp):V->ags->Prop where
 | non:Dat K H .non .none
 | bl (b:Bool):Dat K H (.bl b) (.bool b)
 | int (i:Int):Dat K H (.int i) (.int i)
 | str (x:Str):Dat K H (.str x) (.str x)
 | tup {a:ab6} {xs:List V} {ds:List ags} (h:aj K H a xs) (r:lF K H xs ds):Dat K H (.ref a) (.tuple ds)
 | lst {a:ab6} {xs:List V} {ds:List ags} (h:ai K H a xs) (r:lF K H xs ds):Dat K H (.ref a) (.list ds)
inductive lF(K:abU)(H:Hp):List V->List ags->Prop where
 | nil:lF K H [] []
 | cons {x:V} {d:ags} {xs:List V} {ds:List ags} (h:Dat K H x d) (r:lF K H xs ds):lF K H (x::xs) (d::ds)
end
section
variable{X:Cx}{pins:List (ab6 × Obj)}{σ:L2.St}{H:Hp}{s:ab9}
theorem Dat.reads(I:Inv X pins σ H s)(d:ags)(h:Dat X.K H v d):RelV v u->∃ as,Reads s.heap u d as:=by
 refine Dat.rec (motive_1:=λv d y=>∀ u,RelV v u->∃ as,Reads s.heap u d as) (motive_2:=λvs ds y=>∀ us,Vals vs us->∃ as,ReadsAll s.heap us ds as) ?_ ?_ ?_ ?_ ?_ ?_ ?_ ?_ h u
 .intro u r;cases r;exact⟨_,.none⟩
 .intro b u r;cases r;exact⟨_,.bool b⟩
 .rintro i u ⟨t,rfl⟩;exact⟨_,.int i t⟩
 .rintro x u ⟨t,rfl⟩;exact⟨_,.str x t⟩
 .intro a xs ds h q ih u r;cases r;obtain⟨aw,rv,⟨o,ho,hc,n,hd⟩,y⟩:=I.tuple h;obtain⟨as,ra⟩:=ih aw rv;exact⟨_,.tuple ho hc hd (by simpa using ra)⟩
 .intro a xs ds h q ih u r;cases r;obtain⟨aw,rv,⟨o,n,ho,hc,y,hd⟩,y⟩:=I.list h;obtain⟨as,ra⟩:=ih aw rv;exact⟨_,.list ho hc hd (by simpa using ra)⟩
 .intro us r;cases r;exact⟨_,.nil⟩
 .intro x d xs ds h q zP zQ us r;cases r with
  | cons r1 r2 =>
   obtain⟨as,ra⟩:=zP _ r1;obtain⟨bs,rb⟩:=zQ _ r2;exact⟨_,.cons ra rb⟩
def wg(K:abU)(neg:Bool):R2:=λx y H Q=>∃ d e,Dat K H x d/\Dat K H y e/\d.canLay0=true/\e.canLay0=true/\d.depth<=60/\Q (.bl (if neg=true then !aeA d e else aeA d e)) H
theorem Qw(hu:X.A.units+64<af0):bf X (acX .Eq) (wg X.K false):=by intro pins s σ H x y v u Q I rx ry h;obtain⟨d,e,dx,dy,c1,c2,dd,q⟩:=h;obtain⟨as,ra⟩:=Dat.reads I d dx rx;obtain⟨bs,rb⟩:=Dat.reads I e dy ry;exact SeqAt.compareEq_reads ra rb c1 c2 (by lia) ⟨.bl _,H,I,rfl,q⟩
theorem Qx(hu:X.A.units+64<af0):bf X (acX .NotEq) (wg X.K true):=by intro pins s σ H x y v u Q I rx ry h;obtain⟨d,e,dx,dy,c1,c2,dd,q⟩:=h;obtain⟨as,ra⟩:=Dat.reads I d dx rx;obtain⟨bs,rb⟩:=Dat.reads I e dy ry;exact SeqAt.compareNe_reads ra rb c1 c2 (by lia) ⟨.bl _,H,I,rfl,q⟩
end
noncomputable def wj(lo st:Int)(n:Nat):It:=⟨λi y=>i<n,λi H x H'=>H'=H/\x = .int (lo+(i:Int) * st),λi y=>n<=i⟩
theorem Qy{P:acK}{w:ado}{K:abU}{tg:afS}(it:ab6)(lo st:Int)(n:Nat):Turn P w K tg (wj lo st n) [it] it (λi h=>ah8 h it (lo+(i:Nat) * st) ((n:Int)-(i:Nat)) st) where
 mem:=by simp
 obj:=λi h q b hb=>by
  have e:b=it:=by simpa using hb
  subst e;exact⟨_,q,λv z=>by
   have z':Data.fields _=Data.cell v:=z;cases z'⟩
 keep:=λi h h' q k=>k it (by simp) _ q
 item:=by intro X hP hw hK hc i pins s σ H E I hf q hg;subst hP hw hK;obtain⟨f0,f1,f2,f3,f4,f5⟩:=hf it (by simp);have W:=Walks.range (prog:=X.prog) (w:=X.w) (I.ok.hd hc) it lo st n;refine W.item i s _ _ hg q λv h' tk hv q' kk=>?_;obtain⟨t,rfl⟩:=hv;have I1:Inv X pins σ H { s with heap:=h',toks:=tk }:=I.turned (λb o hb e=>kk b o (by simpa using hb) e) f0 f1 f3 f4 f5;exact⟨_,rfl,pH (s:={ s with heap:=h',toks:=tk }) (n := "range_iterator") q' rfl rfl (by decide) ⟨.int (lo+(i:Int) * st),H,I1,⟨t,rfl⟩,⟨rfl,rfl⟩,q',λb hb=>(hf b hb).1⟩⟩
 done:=by
  intro X hP hw hK hc i pins s σ H E I hf q hg;subst hP hw hK;obtain⟨f0,f1,f2,f3,f4,f5⟩:=hf it (by simp);exact ahm (I.ok.hd hc) q (by have:n<=i:=hg;lia) λh' eb=>⟨rfl,I.turned (t':=s.toks) (λb o hb e=>eb b o hb e) f0 f1 f3 f4 f5⟩
 self:=λy y y y y q h=>ahn q h
noncomputable def mO(lo hi st:Int):Nat:=(acZ lo hi st).toNat
def zR(ta:TA):TI:=λσ H R=>ta σ H λvs H1=>∃ i j c:Int,vs=[.int i,.int j,.int c]/\(-1000000<=i/\i<=1000000/\-1000000<=j/\j<=1000000/\-1000000<=c/\c<=1000000/\c≠0)/\R (wj i c (mO i j c)) H1
theorem Gg(i j c:Int)(h:c≠0):0<=acZ i j c:=by
 unfold acZ;split
 .rename_i hc;split
  .have:=ajt (show 0<=j-i-1 by lia) (show 0<=c by lia);lia
  .lia
 .split
  .have:=ajt (show 0<=i-j-1 by lia) (show 0 <= -c by lia);lia
  .lia
theorem size_le(i j c:Int)(h : -1000000<=i/\i<=1000000/\-1000000<=j/\j<=1000000/\c≠0):acZ i j c<=2000000:=by
 unfold acZ;split
 .split
  .have:=ai9 (c) (show 0<=j-i-1 by lia);lia
  .lia
 .split
  .have:=ai9 (-c) (show 0<=i-j-1 by lia);lia
  .lia
theorem Qz(h : -1000000<=i/\i<=1000000/\-1000000<=j/\j<=1000000/\-1000000<=c/\c<=1000000/\c≠0):Builtin.Range.small i j c=true:=by have h1:=Gg i j c h.2.2.2.2.2.2;have h2:=size_le i j c ⟨h.1,h.2.1,h.2.2.1,h.2.2.2.1,h.2.2.2.2.2.2⟩;unfold Builtin.Range.small;generalize acZ i j c=n at h1 h2 ⊢;simp only[aju,acT,agc,decide_eq_true_eq,beq_iff_eq];refine⟨by lia,.inr ?_⟩;split<;>simp only[acT,decide_eq_true_eq]<;>lia
theorem QA(hg:Gl X "range")(hm:X.mg "range" = none)(ha:PA X [a,b,c] ta)(hs:acm [a,b,c] X.env=(false,eval a X.env)::acm [b,c] X.env:=by rfl)(da:acm [b,c] X.env=[(false,eval b X.env),(false,eval c X.env)]:=by rfl) :
 PI X tg (.Call (.Name "range" p) [a,b,c] [] pos) (zR ta):=by
 intro pins s σ H R I h;refine akn (gd I hg hm ajL (acD (aE (ha pos pins s σ H _ I h) λus s1 ⟨vs,H1,I1,r1,q1⟩=>?_) (by rw[hs]) (by rw[da];rfl)));obtain⟨i,j,k,e,hb,q⟩:=q1;subst e;cases r1 with
 | cons r rr =>
  cases rr with
  | cons r' rr =>
   cases rr with
   | cons sP rr =>
    cases rr;obtain⟨t,rfl⟩:=r;obtain⟨t',rfl⟩:=r';obtain⟨Gh,rfl⟩:=sP;have hk:k≠0:=hb.2.2.2.2.2.2;refine call_range_3 hk ?_ (.inl (PyProof.noPylong_small (by lia)));refine air (IsRange.new ..) (Qz hb) ?_;have I2:Inv X pins σ H1 { s1 with heap:=s1.heap.push { cls:=.type "range",data:=.fields #[.int i t,.int j t',.int k Gh] },toks:=s1.toks }:=I1.kept λb o e=>abY _ e;refine⟨_,[_],_,_,H1,rfl,I2.kept (t':=s1.toks) λb o e=>abY _ e,Qy _ i k (mO i j k),?_,λb hb=>?_,q⟩
    .have e1:i+((0:Nat):Int) * k=i:=by simp
     have e2:((mO i j k:Nat):Int)-((0:Nat):Int)=acZ i j k:=by have:=Gg i j k hk;unfold mO;lia
     show ah8 _ _ (i+((0:Nat):Int) * k) (((mO i j k:Nat):Int)-((0:Nat):Int)) k;rw[e1,e2];exact ab8 _ rfl
    .have e:b=(s1.heap.push { cls:=.type "range",data:=.fields #[.int i t,.int j t',.int k Gh] }).objs.size:=by simpa using hb
     subst e;exact I2.iX (ab4 _) (I2.az.fresh (ab4 _))
section
variable{g:TG}{tb:TS}{D:Ends}{σ:L2.St}{H:Hp}{lo st:Int}{n:Nat}
theorem QC:kB (yG ta) g tb D σ H=ta σ H (λvs H1=>∃ i j:Int,vs=[.int i,.int j]/\(-(2 ^ 62)<=i/\i<2 ^ 62/\-(2 ^ 62)<=j/\j<2 ^ 62)/\FJ (iY i (j-i).toNat) g tb D σ H1):=rfl
theorem QD:kB (zR ta) g tb D σ H=ta σ H (λvs H1=>∃ i j c:Int,vs=[.int i,.int j,.int c]/\(-1000000<=i/\i<=1000000/\-1000000<=j/\j<=1000000/\-1000000<=c/\c<=1000000/\c≠0)/\FJ (wj i c (mO i j c)) g tb D σ H1):=rfl
theorem QE(Pv:Nat->L2.St->Hp->Prop)(h0:Pv 0 σ H)(hs:∀ i σ H,i<n->Pv i σ H->g (.int (lo+(i:Int) * st)) σ H λσ2 H2=>tb { D with nx:=Pv (i+1),ct:=Pv (i+1),bk:=D.nx } σ2 H2)(hd:∀ σ H,Pv n σ H->D.nx σ H):FJ (wj lo st n) g tb D σ H:=by
 refine⟨λi m σ H=>m=n-i/\i<=n/\Pv i σ H,⟨n,by simp,acr _,h0⟩,?_⟩;rintro i m σ H ⟨rfl,hi,p⟩;by_cases aZ:i<n
 .refine .inr ⟨aZ,Pv (i+1),λσ' H' p'=>⟨n-(i+1),by lia,rfl,aZ,p'⟩,λx H' y=>?_⟩;obtain⟨e,y⟩:=y;subst e y;exact hs i σ _ aZ p
 .have e:i=n:=by lia
  subst e;exact .inl ⟨ab4 _,hd σ H p⟩
end
theorem QF(xs:List V){a b:Nat}(h2:b<=xs.length):i3 xs (some (a:Int)) (some (b:Int))=(xs.drop a).take (b-a):=by
 unfold i3;rw[HT.vC,HT.vC,afi h2];by_cases h:a<=xs.length
 .rw[afi h]
 .rw[ahj (by lia),aeC (ab4 _),aeC (by lia)];simp
theorem QG(xs:List V)(b:Nat):i3 xs none (some (b:Int))=xs.take b:=by
 unfold i3;rw[HT.vC,HT.EA,List.drop_zero,Nat.sub_zero];by_cases h:b<=xs.length
 .rw[afi h]
 .rw[ahj (by lia),acU,afs (by lia)]
theorem zS(xs:List V)(a:Nat):i3 xs (some (a:Int)) none=xs.drop a:=by
 unfold i3;rw[HT.vC,HT.EA];by_cases h:a<=xs.length
 .rw[afi h,afs (by rw[aey];lia)]
 .rw[ahj (by lia),aeC (ab4 _),aeC (by lia)];simp
mutual
noncomputable def i9:Nat->ags->Bool
 | _,.none=>true
 | _,.bool _=>true
 | _,.int _=>true
 | n+1,.tuple ds=>p8 n ds
 | n+1,.list ds=>p8 n ds
 | _,_=>false
noncomputable def p8:Nat->List ags->Bool
 | _,[]=>true
 | n,d::ds=>i9 n d && p8 n ds
end
mutual
theorem Gi:∀ (d:ags) {n:Nat},i9 n d=true->aeA d d=true/\d.canLay0=true/\d.depth<=n
 | .none,n,_=>⟨rfl,rfl,acr _⟩
 | .bool b,n,_=>⟨by simp[aeA],rfl,acr _⟩
 | .int i,n,_=>⟨by simp[aeA],rfl,acr _⟩
 | .str x,0,h=>by simp[i9] at h
 | .str x,n+1,h=>by simp[i9] at h
 | .dict x,0,h=>by simp[i9] at h
 | .dict x,n+1,h=>by simp[i9] at h
 | .tuple ds,0,h=>by simp[i9] at h
 | .list ds,0,h=>by simp[i9] at h
 | .tuple ds,n+1,h=>by obtain⟨a,b,c⟩:=zT ds (n:=n) (by simpa [i9] using h);exact⟨by simpa only [aeA] using a,by simpa only [ah3] using b,by simp only[PyData.depth];lia⟩
 | .list ds,n+1,h=>by obtain⟨a,b,c⟩:=zT ds (n:=n) (by simpa [i9] using h);exact⟨by simpa only [aeA] using a,by simpa only [ah3] using b,by simp only[PyData.depth];lia⟩
theorem zT:∀ (ds:List ags) {n:Nat},p8 n ds=true->af2 ds ds=true/\afz ds=true/\aeJ ds<=n
 | [],n,_=>⟨rfl,rfl,acr _⟩
 | d::ds,n,h=>by
  have h':i9 n d=true/\p8 n ds=true:=by simpa [p8] using h
  obtain⟨a,b,c⟩:=Gi d h'.1;obtain⟨a',b',c'⟩:=zT ds h'.2;exact⟨by simp only[af2,a,a',aha],by simp only[afz,b,b',aha],by simp only[aeJ];lia⟩
end
end Gz
namespace Gz
noncomputable def Gj(a b:Int):Int:=((Nat.gcd a.natAbs b.natAbs:Nat):Int)
noncomputable def sg(t b:Int):Int:=if b<0 then -Gj t b else Gj t b
noncomputable def rt(t b:Int):Int:=t.fdiv (sg t b)
noncomputable def rb(t b:Int):Int:=b.fdiv (sg t b)
end Gz
namespace Gz
open PySem PySem.Spec PyProof.Rows L2
def ax{α:Type}(R:V->α->Prop):List V->List α->Prop
 | [],[]=>True
 | x::xs,a::as=>R x a/\ax R xs as
 | _,_=>False
section
variable{α:Type}{R R':V->α->Prop}
theorem ax.len:∀ {xs:List V} {as:List α},ax R xs as->xs.length=as.length
 | [],[],_=>rfl
 | _::_,_::_,h=>by simp[ax.len h.2]
 | [],_::_,h=>h.elim
 | _::_,[],h=>h.elim
theorem ax.imp(f:∀ x a,R x a->R' x a):∀ {xs:List V} {as:List α},ax R xs as->ax R' xs as
 | [],[],_=>trivial
 | _::_,_::_,h=>⟨f _ _ h.1,ax.imp f h.2⟩
 | [],_::_,h=>h.elim
 | _::_,[],h=>h.elim
theorem ax.get:∀ {xs:List V} {as:List α},ax R xs as->∀ {i:Nat} {x:V},xs[i]?=some x->∃ a,as[i]?=some a/\R x a
 | [],[],_,i,x,e=>by simp at e
 | _::_,a::_,h,0,x,e=>by simp at e;subst e;exact⟨a,by simp,h.1⟩
 | _::_,_::_,h,i+1,x,e=>by simp only[afj] at e ⊢;exact ax.get h.2 e
 | [],_::_,h,_,_,_=>h.elim
 | _::_,[],h,_,_,_=>h.elim
theorem ax.at:∀ {xs:List V} {as:List α},ax R xs as->∀ {i:Nat} {a:α},as[i]?=some a->∃ x,xs[i]?=some x/\R x a
 | [],[],_,i,x,e=>by simp at e
 | x::_,_::_,h,0,a,e=>by simp at e;subst e;exact⟨x,by simp,h.1⟩
 | _::_,_::_,h,i+1,a,e=>by simp only[afj] at e ⊢;exact ax.at h.2 e
 | [],_::_,h,_,_,_=>h.elim
 | _::_,[],h,_,_,_=>h.elim
theorem ax.app:∀ {xs ys:List V} {as bs:List α},ax R xs as->ax R ys bs->ax R (xs++ys) (as++bs)
 | [],_,[],_,_,h=>h
 | _::_,_,_::_,_,h,h'=>⟨h.1,ax.app h.2 h'⟩
 | [],_,_::_,_,h,_=>h.elim
 | _::_,_,[],_,h,_=>h.elim
theorem ax.snoc(h:ax R xs as)(h':R x a):ax R (xs++[x]) (as++[a]):=h.app ⟨h',trivial⟩
theorem ax.ints:∀ (ns:List Int),ax (λx n=>x=V.int n) (ns.map V.int) ns
 | []=>trivial
 | n::ns=>⟨rfl,ax.ints ns⟩
theorem ax.fI{lo:Int}(n:Nat):ax (λx (k:Nat)=>x=V.int (lo+k)) ((ab2 n).map λk=>V.int (lo+(k:Nat))) (ab2 n):=by
 suffices ∀ l:List Nat,ax (λx (k:Nat)=>x=V.int (lo+k)) (l.map λk=>V.int (lo+(k:Nat))) l from this _
 intro l
 induction l with
 | nil=>trivial
 | cons a l ih=>exact⟨rfl,ih⟩
end
theorem sQ{α:Type}{R:Hp->V->α->Prop}{Ok:Hp->Prop}{ρ:L2.St}{tt:TT}{te:TE}{p:α->Bool}{f:α->V}{Q':List V->Hp->Prop}(mono:∀ H H' x a,ah H H'->R H x a->R H' x a):∀ {xs:List V} {as:List α} {ys:List V} {H:Hp},ax (R H) xs as->(∀ H',ah H H'->Ok H') ->
 (∀ x a,a∈as->∀ H',ah H H'->R H' x a->∀ Q,(∀ gG,ah H' gG->Q (p a) gG)->tt (some x::ρ) H' Q)->(∀ x a,a∈as->p a=true->∀ H',ah H H'->R H' x a->∀ Q:VK,(∀ gG,ah H' gG->Q (f a) gG)->te (some x::ρ) H' Q) ->
 (∀ H',ah H H'->Q' (ys++(as.filter p).map f) H')->fv Ok ρ tt te xs ys H Q'
 | [],[],ys,H,_,bU,_,_,q=>⟨bU H (ah.refl H),by simpa using q H (ah.refl H)⟩
 | x::xs,a::as,ys,H,h,bU,ht,he,q=>by
  refine⟨bU H (ah.refl H),ht x a (.head _) H (ah.refl H) h.1 _ λH1 s1=>?_⟩;by_cases hb:p a=true
  .rw[if_pos hb];refine he x a (.head _) hb H1 s1 (mono _ _ _ _ s1 h.1) _ λH2 s2=>?_;have S:=s1.trans s2;refine sQ mono (h.2.imp λx a r=>mono _ _ _ _ S r) (λH' s'=>bU H' (S.trans s')) (λx a ha H' s'=>ht x a (.tail _ ha) H' (S.trans s')) (λx a ha hb H' s'=>he x a (.tail _ ha) hb H' (S.trans s')) λH' s'=>?_;have:=q H' (S.trans s');rw[acF,if_pos hb] at this;simpa using this
  .rw[if_neg hb];refine sQ mono (h.2.imp λx a r=>mono _ _ _ _ s1 r) (λH' s'=>bU H' (s1.trans s')) (λx a ha H' s'=>ht x a (.tail _ ha) H' (s1.trans s')) (λx a ha hb H' s'=>he x a (.tail _ ha) hb H' (s1.trans s')) λH' s'=>?_;have:=q H' (s1.trans s');rw[acF,if_neg hb] at this;exact this
 | [],_::_,_,_,h,_,_,_,_=>h.elim
 | _::_,[],_,_,h,_,_,_,_=>h.elim
theorem mP(bU:Ok H):∀ {xs:List V} {as:List α} {ys:List V},ax R xs as ->
 (∀ x a,a∈as->R x a->∀ Q,Q (p a) H->tt (some x::ρ) H Q)->(∀ x a,a∈as->p a=true->R x a->∀ Q:VK,Q (f a) H->te (some x::ρ) H Q) ->
 Q' (ys++(as.filter p).map f) H->fv Ok ρ tt te xs ys H Q'
 | [],[],ys,_,_,_,q=>⟨bU,by simpa using q⟩
 | x::xs,a::as,ys,h,ht,he,q=>by
  refine⟨bU,ht x a (.head _) h.1 _ ?_⟩;by_cases hb:p a=true
  .rw[if_pos hb];refine he x a (.head _) hb h.1 _ (mP bU h.2 (λx a ha=>ht x a (.tail _ ha)) (λx a ha=>he x a (.tail _ ha)) ?_);rw[acF,if_pos hb] at q;simpa using q
  .rw[if_neg hb];refine mP bU h.2 (λx a ha=>ht x a (.tail _ ha)) (λx a ha=>he x a (.tail _ ha)) ?_;rw[acF,if_neg hb] at q;exact q
 | [],_::_,_,h,_,_,_=>h.elim
 | _::_,[],_,h,_,_,_=>h.elim
theorem filter_tt(l:List α):l.filter (λy=>true)=l:=aev.mpr λy y=>rfl
abbrev P2:=Int × Int
def cV(H:Hp)(v:V)(p:P2):Prop:=∃ a,v = .ref a/\H a=some (.tup [.int p.1,.int p.2])
theorem cV.same(h:cV H v p)(s:ah H H'):cV H' v p:=let ⟨a,e,q⟩:=h;⟨a,e,s _ _ q⟩
theorem cV.put(h:cV H v p)(hr:H r=some (.lst ys)):cV (upd H r (.lst zs)) v p:=by obtain⟨a,e,q⟩:=h;refine⟨a,e,?_⟩;rw[aF (pq q hr (λz=>nomatch z))];exact q
abbrev bR(H:Hp):List V->List P2->Prop:=ax (cV H)
theorem bR.same(h:bR H xs ps)(s:ah H H'):bR H' xs ps:=ax.imp (λy y r=>r.same s) h
noncomputable def aside(s e p:P2):Int:=(p.2-s.2) * (e.1-s.1)-(p.1-s.1) * (e.2-s.2)
noncomputable def aL(ps:List P2)(i:Nat):P2:=ps.getD i (0,0)
def QH(ks:List P2)(p q:Int)(i:Nat):Prop:=i+1<ks.length/\(aL ks i).1 * q<=p/\p<=(aL ks (i+1)).1 * q
def hit(ks:List P2)(p q:Int):Prop:=∃ i,QH ks p q i
def SameBut(x:ab6)(H H':Hp):Prop:=∀ b o,b≠x->H b=some o->H' b=some o
theorem qb(hi:i<ps.length):aL ps i∈ps:=by unfold aL;rw[abV,abW hi];exact ahk hi
theorem gJ{α β:Type}{R:Hp->V->α->Prop}{R':Hp->V->β->Prop}{Ok:Hp->Prop}{ρ:L2.St}{tt:TT}{te:TE}{f:α->β}{Q':List V->Hp->Prop}(mono:∀ H H' x a,ah H H'->R H x a->R H' x a)(jS:∀ H H' x a,ah H H'->R' H x a->R' H' x a) :
 ∀ {xs:List V} {as:List α} {ys:List V} {bs:List β} {H:Hp},ax (R H) xs as->ax (R' H) ys bs->(∀ H',ah H H'->Ok H')->(∀ x a,a∈as->∀ H',ah H H'->R H' x a->∀ Q,Q true H'->tt (some x::ρ) H' Q) ->
 (∀ x a,a∈as->∀ H',ah H H'->R H' x a->∀ Q:VK,(∀ gG y,ah H' gG->R' gG y (f a)->Q y gG)->te (some x::ρ) H' Q) ->
 (∀ H' zs,ah H H'->ax (R' H') zs (bs++as.map f)->Q' zs H')->fv Ok ρ tt te xs ys H Q'
 | [],[],ys,bs,H,_,hy,bU,_,_,q=>⟨bU H (ah.refl H),q H ys (ah.refl H) (by simpa using hy)⟩
 | x::xs,a::as,ys,bs,H,h,hy,bU,ht,he,q=>by
  refine⟨bU H (ah.refl H),ht x a (.head _) H (ah.refl H) h.1 _ ?_⟩;rw[if_pos rfl];refine he x a (.head _) H (ah.refl H) h.1 _ λH2 y s2 r2=>?_;refine gJ mono jS (bs:=bs++[f a]) (h.2.imp λx a r=>mono _ _ _ _ s2 r) ((hy.imp λx a r=>jS _ _ _ _ s2 r).snoc r2) (λH' s'=>bU H' (s2.trans s')) (λx a ha H' s'=>ht x a (.tail _ ha) H' (s2.trans s')) (λx a ha H' s'=>he x a (.tail _ ha) H' (s2.trans s')) λH' zs s' hz=>?_;refine q H' zs (s2.trans s') ?_;rw[acs]
  rwa [agT] at hz
 | [],_::_,_,_,_,h,_,_,_,_,_=>h.elim
 | _::_,[],_,_,_,h,_,_,_,_,_=>h.elim
noncomputable def sw(ks:List P2):List P2:=ks.map λp=>(p.2,p.1)
end Gz
namespace Gz
open PySem PySem.W PyProof.Rows
def eX{α:Type}(lt:Nat->Nat->Bool)(n:Nat):KasT α->(α->Prop)->Prop
 | .ret a,P=>P a
 | .ask i j k,P=>i<n/\j<n/\eX lt n (k (lt i j)) P
section
theorem qc:∀ (t:KasT α),eX lt n t (λa=>eX lt n (f a) P)->eX lt n (t.bind f) P
 | .ret _,h=>h
 | .ask _ _ k,h=>⟨h.1,h.2.1,qc (k _) h.2.2⟩
theorem Gk{α:Type}{P P':α->Prop}(h:∀ a,P a->P' a):∀ (t:KasT α),eX lt n t P->eX lt n t P'
 | .ret _,q=>h _ q
 | .ask _ _ k,q=>⟨q.1,q.2.1,Gk h (k _) q.2.2⟩
theorem Gm{α:Type}{cmp:Nat->Nat->(Bool->ab9->Prop)->ab9->Prop}{Ok:ab9->Prop}(hc:∀ i j C s,i<n->j<n->Ok s->(∀ s',Ok s'->C (lt i j) s')->cmp i j C s){P:α->Prop}{Q:α->ab9->Prop}(hQ:∀ a s,Ok s->P a->Q a s) :
 ∀ (t:KasT α) (s:ab9),Ok s->eX lt n t P->t.kasWp cmp Q s
 | .ret a,s,o,h=>hQ a s o h
 | .ask i j k,s,o,h=>hc i j _ s h.1 h.2.1 o λs' o'=>Gm hc hQ (k (lt i j)) s' o' h.2.2
structure Ord(lt:Nat->Nat->Bool):Prop where
 asym:∀ {a b},lt a b=true->lt b a=false
 tr:∀ {a b c},lt b a=false->lt c b=false->lt c a=false
theorem Ord.rfl'(O:Ord lt)(a:Nat):lt a a=false:=by
 cases h:lt a a with
 | false=>rfl
 | true=>rw[O.asym h] at h;cases h
def eY(lt:Nat->Nat->Bool)(p:Array Nat)(k:Nat):Prop:=∀ i j,i<=j->j<k->lt (p.getD j 0) (p.getD i 0)=false
def gh(lt:Nat->Nat->Bool)(p:Array Nat)(k:Nat):Prop:=∀ i j,i<=j->j<k->lt (p.getD i 0) (p.getD j 0)=false
def cK(n:Nat)(p:Array Nat):Prop:=p.toList.Perm (ab2 n)
theorem cK.size(h:cK n p):p.size=n:=by have:=h.length_eq;simpa using this
theorem cK.below(h:cK n p)(hi:i<n):p.getD i 0<n:=by
 have hs:=h.size;have cY:i<p.size:=by lia
 have e:p.getD i 0=p[i]:=by simp[ajP,cY]
 rw[e];have m:p[i]∈p.toList:=by simp
 simpa using h.mem_iff.mp m
theorem cK.of(h:cK n p)(hq:q.Perm p):cK n q:=(Array.perm_iff_toList_perm.mp hq).trans h
theorem eY.one(O:Ord lt):eY lt p 1:=λi j gX hj=>by
 have:i=j:=by lia
 subst this;exact O.rfl' _
theorem gh.one(O:Ord lt):gh lt p 1:=λi j gX hj=>by
 have:i=j:=by lia
 subst this;exact O.rfl' _
theorem eY.succ(O:Ord lt)(h:eY lt p k)(hk:1<=k)(hn:lt (p.getD k 0) (p.getD (k-1) 0)=false):eY lt p (k+1):=λi j gX hj=>by
 by_cases e:j=k
 .subst e;by_cases ei:i=j
  .subst ei;exact O.rfl' _
  .exact O.tr (h i (j-1) (by lia) (by lia)) hn
 .exact h i j gX (by lia)
theorem gh.succ(O:Ord lt)(h:gh lt p k)(hk:1<=k)(hn:lt (p.getD (k-1) 0) (p.getD k 0)=false):gh lt p (k+1):=λi j gX hj=>by
 by_cases e:j=k
 .subst e;by_cases ei:i=j
  .subst ei;exact O.rfl' _
  .exact O.tr hn (h i (j-1) (by lia) (by lia))
 .exact h i j gX (by lia)
theorem mQ(hj:j<=p.size)(k:Nat):(kas_rev p i j).getD k 0=if i<=k/\k<j then p.getD (i+j-1-k) 0 else p.getD k 0:=by simp only[agd];unfold kas_rev;rw[getElem?_mirror_all hj];split<;>rfl
theorem Gn(hk:k<p.size)(hl:l<=k)(i:Nat):(bubble p k (k-l)).getD i 0=if i=l then p.getD k 0 else if l<i/\i<=k then p.getD (i-1) 0 else p.getD i 0:=by
 simp only[agd];rw[getElem?_bubble hk _ (by lia)];have e:k-(k-l)=l:=by lia
 rw[e];split
 .rfl
 .split<;>rfl
theorem Gq(O:Ord lt)(hp:cK n p):∀ (f a:Nat),1<=a->a+f<=n->eY lt p a->(∀ m,a<=m->m<=a+f->eY lt p m->P m)->eX lt n (kas_asc p f a) P
 | 0,a,h1,h2,hs,q=>q a (ab4 _) (by lia) hs
 | f+1,a,h1,h2,hs,q=>by
  refine⟨hp.below (by lia),hp.below (by lia),?_⟩;cases c:lt (p.getD a 0) (p.getD (a-1) 0) with
  | true =>
   simp only[↓reduceIte];exact q a (ab4 _) (by lia) hs
  | false =>
   simp only[acu,↓reduceIte];exact Gq O hp f (a+1) (by lia) (by lia) (hs.succ O h1 c) λm m1 m2=>q m (by lia) (by lia)
theorem gh.rev(h:gh lt p k)(hk:k<=p.size)(hi:i<=k)(he:∀ j,i<=j->j<k->lt (p.getD (k-1) 0) (p.getD j 0)=false)(O:Ord lt):gh lt (kas_rev p i k) k:=λa b fh hb=>by
 rw[mQ hk,mQ hk];have eqv:∀ x y,i<=x->x<k->i<=y->y<k->lt (p.getD x 0) (p.getD y 0)=false:=λx y x1 x2 y1 y2=>O.tr (he y y1 y2) (h x (k-1) (by lia) (by lia));split
 .split
  .exact eqv _ _ (by lia) (by lia) (by lia) (by lia)
  .exfalso;lia
 .split
  .exact h _ _ (by lia) (by lia)
  .exact h _ _ fh hb
theorem wk(O:Ord lt):∀ (f:Nat) (p:Array Nat) (k q:Nat),cK n p->1<=k->k+f<=n->q+1<=k->gh lt p k->(∀ j,k-(q+1)<=j->j<k->lt (p.getD (k-1) 0) (p.getD j 0)=false) ->
 (∀ p' k' q',cK n p'->k<=k'->k'<=k+f->q' + 1<=k'->gh lt p' k'->(∀ j,k' - (q' + 1)<=j->j<k'->lt (p'.getD (k' - 1) 0) (p'.getD j 0)=false)->P (p',k',q'))->eX lt n (kas_desc f p k q) P
 | 0,p,k,q,hp,h1,h2,h3,hd,he,fin=>fin p k q hp (ab4 _) (by lia) h3 hd he
 | f+1,p,k,q,hp,h1,h2,h3,hd,he,fin=>by
  have hs:=hp.size;have one:∀ (p':Array Nat),∀ j,(k+1)-(0+1)<=j->j<k+1->lt (p'.getD (k+1-1) 0) (p'.getD j 0)=false:=λp' j j1 j2=>by
   have:j=k:=by lia
   subst this;exact O.rfl' _
  refine⟨hp.below (by lia),hp.below (by lia),?_⟩;cases c:lt (p.getD k 0) (p.getD (k-1) 0) with
  | true =>
   simp only[↓reduceIte];have c':=O.asym c;by_cases hq:q > 0
   .rw[if_pos hq];have dX:cK n (kas_rev p (k-(q+1)) k):=hp.of (aif _ _ _ _);have jD:gh lt (kas_rev p (k-(q+1)) k) k:=hd.rev (by lia) (by lia) he O;refine wk O f _ (k+1) 0 dX (by lia) (by lia) (by lia) (jD.succ O h1 ?_) (one _) λp2 k2 q2 a1 a2 a3 a4 a5 a6=>fin p2 k2 q2 a1 (by lia) (by lia) a4 a5 a6;rw[mQ (by lia),mQ (by lia),if_pos (by lia),if_neg (by lia)];have e1:k-(q+1)+k-1-(k-1)=k-(q+1):=by lia
    rw[e1];exact O.tr c' (hd _ (k-1) (by lia) (by lia))
   .rw[if_neg hq];exact wk O f p (k+1) 0 hp (by lia) (by lia) (by lia) (hd.succ O h1 c') (one _) λp2 k2 q2 a1 a2 a3 a4 a5 a6=>fin p2 k2 q2 a1 (by lia) (by lia) a4 a5 a6
  | false =>
   simp only[acu,↓reduceIte];refine⟨hp.below (by lia),hp.below (by lia),?_⟩;cases d:lt (p.getD (k-1) 0) (p.getD k 0) with
   | true =>
    simp only[↓reduceIte];exact fin p k q hp (ab4 _) (by lia) h3 hd he
   | false =>
    simp only[acu,↓reduceIte];refine wk O f p (k+1) (q+1) hp (by lia) (by lia) (by lia) (hd.succ O h1 d) (λj j1 j2=>?_) λp2 k2 q2 a1 a2 a3 a4 a5 a6=>fin p2 k2 q2 a1 (by lia) (by lia) a4 a5 a6;have ek:k+1-1=k:=by lia
    rw[ek];by_cases ej:j=k
    .subst ej;exact O.rfl' _
    .exact O.tr (he j (by lia) (by lia)) c
theorem gh.whole(h:gh lt p k)(hk:k<=p.size):eY lt (kas_rev p 0 k) k:=λa b fh hb=>by rw[mQ hk,mQ hk,if_pos (by lia),if_pos (by lia)];exact h _ _ (by lia) (by lia)
theorem Gr(O:Ord lt)(hp:cK n p)(h1:1<=k)(h2:k<=n)(hd:gh lt p k)(fin:∀ m p',cK n p'->1<=m->m<=n->eY lt p' m->P (m,p')):eX lt n (kas_tail3 k n p) P:=by have dX:cK n (kas_rev p 0 k):=hp.of (aif _ _ _ _);have hs:=hp.size;unfold kas_tail3;refine qc _ (Gq O dX (n-k) k h1 (by lia) (hd.whole (by lia)) λm m1 m2 ms=>?_);exact fin m _ dX (by lia) (by lia) ms
theorem Gs(O:Ord lt)(hp:cK n p)(h1:1<=k)(h2:k+1<=n)(hd:gh lt p (k+1))(fin:∀ m p',cK n p'->1<=m->m<=n->eY lt p' m->P (m,p')):eX lt n (kas_descPart k n p) P:=by
 unfold kas_descPart;refine qc _ (wk O (n-(k+1)) p (k+1) 0 hp (by lia) (by lia) (by lia) hd (λj j1 j2=>?_) λp2 k2 q2 a1 a2 a3 a4 a5 a6=>?_)
 .have:j=k:=by lia
  subst this;exact O.rfl' _
 .have hs:=a1.size;dsimp only;by_cases hq:q2 > 0
  .rw[if_pos hq];exact Gr O (a1.of (aif _ _ _ _)) (by lia) (by lia) (a5.rev (by lia) (by lia) a6 O) fin
  .rw[if_neg hq];exact Gr O a1 (by lia) (by lia) a5 fin
theorem QJ(O:Ord lt)(hp:cK n p)(hn:1<=n)(fin:∀ m p',cK n p'->1<=m->m<=n->eY lt p' m->P (m,p')):eX lt n (kas_count n p) P:=by
 have hs:=hp.size;unfold kas_count;have key:eX lt n (kas_asc p (n-1) 1) (λm=>1<=m/\m<=n/\eY lt p m/\(m<n->lt (p.getD m 0) (p.getD (m-1) 0)=true)):=by
  have gen:∀ (f a:Nat),1<=a->a+f=n->eY lt p a->eX lt n (kas_asc p f a) (λm=>1<=m/\m<=n/\eY lt p m/\(m<n->lt (p.getD m 0) (p.getD (m-1) 0)=true)):=by
   intro f
   induction f with
   | zero=>intro a h1 h2 hs;exact⟨h1,by lia,hs,λz=>absurd z (by lia)⟩
   | succ f ih =>
    intro a h1 h2 hs;refine⟨hp.below (by lia),hp.below (by lia),?_⟩;cases c:lt (p.getD a 0) (p.getD (a-1) 0) with
    | true =>
     simp only[↓reduceIte];exact⟨h1,by lia,hs,λv=>c⟩
    | false =>
     simp only[acu,↓reduceIte];exact ih (a+1) (by lia) (by lia) (hs.succ O h1 c)
  exact gen (n-1) 1 (ab4 _) (by lia) (eY.one O)
 refine qc _ (Gk (λm hm=>?_) _ key);obtain⟨m1,m2,ms,mc⟩:=hm;by_cases e:(m == n)=true
 .rw[if_pos e];exact fin m p hp m1 m2 ms
 .rw[if_neg e];have QK:m<n:=by
   have:m≠n:=by simpa using e
   lia
  have mc:=mc QK;by_cases h2:m > 1
  .rw[if_pos h2];refine⟨hp.below (by lia),hp.below (by lia),?_⟩;cases c:lt (p.getD 0 0) (p.getD (m-1) 0) with
   | true =>
    simp only[↓reduceIte];exact fin m p hp m1 m2 ms
   | false =>
    simp only[acu,↓reduceIte];have eqv:∀ x y,x<m->y<m->lt (p.getD x 0) (p.getD y 0)=false:=λx y hx hy =>
     O.tr (ms y (m-1) (by lia) (by lia)) (O.tr c (ms 0 x (by lia) hx))
    have dX:cK n (kas_rev p 0 m):=hp.of (aif _ _ _ _);refine Gs O dX m1 (by lia) (λi j gX hj=>?_) fin;rw[mQ (by lia),mQ (by lia)];by_cases ej:j=m
    .subst ej;rw[if_neg (show ¬ (0<=j/\j<j) by lia)];split
     .exact O.tr (O.asym mc) (eqv _ _ (by lia) (by lia))
     .have:i=j:=by lia
      subst this;exact O.rfl' _
    .rw[if_pos (by lia),if_pos (by lia)];exact eqv _ _ (by lia) (by lia)
  .rw[if_neg h2];have e1:m=1:=by lia
   subst e1;exact Gs O hp (ab4 _) (by lia) ((gh.one O).succ O (ab4 _) (O.asym mc)) fin
theorem zU(O:Ord lt)(hp:cK n p)(hk:k<n)(hs:eY lt p k)(fin:∀ m,m<=k->(∀ i,i<m->lt (p.getD k 0) (p.getD i 0)=false)->(∀ i,m<=i->i<k->lt (p.getD i 0) (p.getD k 0)=false)->P m) :
 ∀ (f l r:Nat),r-l<=f->l<=r->r<=k->(∀ i,i<l->lt (p.getD k 0) (p.getD i 0)=false)->(∀ i,r<=i->i<k->lt (p.getD i 0) (p.getD k 0)=false)->eX lt n (kas_place p k f l r) P
 | 0,l,r,h1,h2,h3,a,b=>by
  have:l=r:=by lia
  subst this;exact fin l h3 a b
 | f+1,l,r,h1,h2,h3,a,b=>by
  unfold kas_place;by_cases hlr:l ≥ r
  .rw[if_pos hlr];have:l=r:=by lia
   subst this;exact fin l h3 a b
  .rw[if_neg hlr];refine⟨hp.below hk,hp.below (by lia),?_⟩;cases c:lt (p.getD k 0) (p.getD ((l+r) / 2) 0) with
   | true =>
    simp only[↓reduceIte];refine zU O hp hk hs fin f l ((l+r) / 2) (by lia) (by lia) (by lia) a λi i1 i2=>?_;exact O.tr (O.asym c) (hs _ _ i1 i2)
   | false =>
    simp only[acu,↓reduceIte];refine zU O hp hk hs fin f ((l+r) / 2+1) r (by lia) (by lia) h3 (λi i1=>?_) b;exact O.tr (hs i ((l+r) / 2) (by lia) (by lia)) c
theorem Gu(O:Ord lt)(fin:∀ p,cK n p->eY lt p n->P p):∀ (f:Nat) (p:Array Nat) (k:Nat),k+f=n->cK n p->eY lt p k->eX lt n (kas_bin f p k) P
 | 0,p,k,h,hp,hs=>fin p hp (by rw[<- h];exact hs)
 | f+1,p,k,h,hp,hs=>by
  have sz:=hp.size;unfold kas_bin;refine qc _ (zU O hp (by lia) hs (λm m1 ma mb=>?_) k 0 k (by lia) (by lia) (ab4 _) (λy z=>absurd z (by lia)) λy z1 z2=>absurd z2 (by lia));refine Gu O fin f _ (k+1) (by lia) (hp.of (bubble_perm _ _ _)) λi j gX hj=>?_;rw[Gn (by lia) m1,Gn (by lia) m1];by_cases ei:i=m
  .rw[if_pos ei];by_cases ej:j=m
   .rw[if_pos ej];exact O.rfl' _
   .rw[if_neg ej,if_pos (by lia)];exact mb _ (by lia) (by lia)
  .rw[if_neg ei];by_cases ej:j=m
   .rw[if_pos ej,if_neg (by lia)];exact ma _ (by lia)
   .rw[if_neg ej];split
    .split
     .exact hs _ _ (by lia) (by lia)
     .exact hs _ _ (by lia) (by lia)
    .split
     .exfalso;lia
     .exact hs _ _ (by lia) (by lia)
theorem Gv(O:Ord lt)(hn:1<=n):eX lt n (kas_sort n) (λp=>cK n p/\eY lt p n):=by
 unfold kas_sort;have h0:cK n (aec (ab2 n)):=by unfold cK;simp
 refine qc _ (QJ O h0 hn λm p hp m1 m2 ms=>?_);dsimp only;by_cases h:m<n
 .rw[if_pos h];have e:max m 1=m:=by lia
  rw[e];exact Gu O (λp hp hs=>⟨hp,hs⟩) (n-m) p m (by lia) hp ms
 .rw[if_neg h];have e:m=n:=by lia
  subst e;exact⟨hp,ms⟩
noncomputable def wm{α:Type}(lt:Nat->Nat->Bool):KasT α->α
 | .ret a=>a
 | .ask i j k=>wm lt (k (lt i j))
theorem Gw:∀ (t:KasT α),eX lt n t P->P (wm lt t)
 | .ret _,h=>h
 | .ask i j k,h=>Gw (k (lt i j)) h.2.2
theorem Gx:∀ (t:KasT α),eX lt n t P->eX lt n t (λa=>a=wm lt t)
 | .ret _,_=>rfl
 | .ask i j k,h=>⟨h.1,h.2.1,Gx (k (lt i j)) h.2.2⟩
noncomputable def cZ(lt:Nat->Nat->Bool)(n:Nat):Array Nat:=if n<2 then aec (ab2 n) else wm lt (kas_sort n)
theorem qd(O:Ord lt):cK n (cZ lt n)/\eY lt (cZ lt n) n:=by
 unfold cZ;split
 .rename_i h;refine⟨by unfold cK;simp,λi j gX hj=>?_⟩;have:i=j:=by lia
  subst this;exact O.rfl' _
 .rename_i h;exact Gw _ (Gv O (by lia))
end
end Gz
namespace Gz
open PySem PySem.Spec PyProof.Rows L2
local macro_rules | `(tactic| walk_at "o") => `(tactic| ((try simp only [PySem.Addr] at *); lia))
theorem Gy:∀ {a b:List Int},HT.lexLt a b=true->HT.lexLt b a=false
 | [],[],h=>by cases h
 | [],_::_,_=>rfl
 | _::_,[],h=>by cases h
 | x::a,y::b,h=>by
  rw[HT.nO] at h ⊢;by_cases e:x=y
  .subst e;rw[if_pos rfl] at h ⊢;exact Gy h
  .rw[if_neg e] at h;rw[if_neg (acY e)];have:x<y:=by simpa using h
   simpa using (by walk_at "o" : ¬ y<x)
theorem GA:∀ {a b c:List Int},HT.lexLt b a=false->HT.lexLt c b=false->HT.lexLt c a=false
 | [],[],[],_,_=>rfl
 | [],[],_::_,_,_=>rfl
 | [],_::_,[],_,h=>by cases h
 | [],_::_,_::_,_,_=>rfl
 | _::_,[],_,h,_=>by cases h
 | _::_,_::_,[],_,h=>by cases h
 | x::a,y::b,z::c,h1,h2=>by
  rw[HT.nO] at h1 h2 ⊢;by_cases e1:y=x
  .subst e1;rw[if_pos rfl] at h1;by_cases e2:z=y
   .subst e2;rw[if_pos rfl] at h2 ⊢;exact GA h1 h2
   .rw[if_neg e2] at h2 ⊢;exact h2
  .rw[if_neg e1] at h1;have qe:¬ y<x:=by simpa using h1
   by_cases e2:z=y
   .subst e2;rw[if_neg e1];exact h1
   .rw[if_neg e2] at h2;have sR:¬ z<y:=by simpa using h2
    rw[if_neg (by walk_at "o")];simpa using (by walk_at "o" : ¬ z<x)
section
theorem QL(h:Q (a == b) s):ack (model prog w) A (eqBool (.int a t) (.int b u)) Q E s:=SeqAt.EqAt.int_int a t b u prog w E Q h
theorem QM:∀ {ns ms:List Int} {us ws:List ab1} {i:Nat},aeI us ns->aeI ws ms->fin=decide (ns.length<ms.length)->Q (HT.lexLt ns ms) s->PySem.W.KatLex prog w A b fin Q (us.zip ws) i s:=by
 intro ns
 induction ns with
 | nil =>
  intro ms us ws i r q e h;cases r;cases q with
  | nil=>subst e;exact h
  | cons=>subst e;exact h
 | cons n ns ih =>
  intro ms us ws i r q e h;cases r with
  | cons _ t r =>
   cases q with
   | nil=>subst e;exact h
   | cons m t' q =>
    rw[agp];refine PySem.W.kat_cons (QL (PySem.W.kat_go (λhh=>PySem.W.kat_yes ?_) λhh=>PySem.W.kat_no ?_))
    .have e1:n=m:=by simpa using hh
     subst e1;rw[HT.nO,if_pos rfl] at h;exact ih r q (by subst e;simp) h
    .have e1:n≠m:=by simpa using hh
     rw[HT.nO,if_neg e1] at h;cases (b && i == 0) with
     | true=>exact oneLt_int h
     | false=>exact PySem.W.kat_one _ _ (lt_int h)
end
def GB(sp:Sp):List V->List V->Hp->(List V->Hp->Prop)->Prop
 | [],ks,H,Q=>Q ks H
 | x::r,ks,H,Q=>sp [x] H (λk H1=>GB sp r (ks++[k]) H1 Q) E0
def ja(K:abU)(H:Hp):List V->List (List Int)->Prop
 | [],[]=>True
 | k::ks,n::ns=>(∃ p,k = .ref p/\aj K H p (n.map V.int)/\n≠[])/\ja K H ks ns
 | _,_=>False
theorem ja.len{K:abU}{H:Hp}:∀ {ks:List V} {ns:List (List Int)},ja K H ks ns->ks.length=ns.length
 | [],[],_=>rfl
 | _::_,_::_,h=>by simp[ja.len h.2]
 | [],_::_,h=>h.elim
 | _::_,[],h=>h.elim
theorem ja.get{K:abU}{H:Hp}:∀ {ks:List V} {ns:List (List Int)} {i:Nat} {k:V},ja K H ks ns->ks[i]?=some k->∃ p,k = .ref p/\aj K H p ((ns.getD i []).map V.int)
 | [],[],_,_,_,e=>by simp at e
 | k::_,n::_,0,_,h,e=>by simp at e;subst e;obtain⟨⟨p,a,b,y⟩,y⟩:=h;exact⟨p,a,b⟩
 | _::_,_::_,i+1,_,h,e=>by have:=ja.get (i:=i) h.2 (by simpa using e);simpa using this
 | [],_::_,_,_,h,_=>h.elim
 | _::_,[],_,_,h,_=>h.elim
section
noncomputable def dh(kis:List (List Int))(i j:Nat):Bool:=HT.lexLt (kis.getD i []) (kis.getD j [])
theorem n0(kis:List (List Int)):Ord (dh kis):=⟨λh=>Gy h,λh1 h2=>GA h1 h2⟩
noncomputable def eM{α:Type}(kis:List (List Int))(d:α)(as:List α):List α:=(cZ (dh kis) as.length).toList.map λi=>as.getD i d
theorem qf:(eM kis d as).Perm as:=by
 have h:=(qd (n:=as.length) (n0 kis)).1;have q:=h.map (λi=>as.getD i d);have self:(ab2 as.length).map (λi=>as.getD i d)=as:=by
  apply ahl
  .simp
  .intro i h1 h2;simp[abV,h2]
 rw[self] at q;exact q
theorem GC:(eM kis d as).length=as.length:=qf.length_eq
theorem GD(hk:kis=as.map f):(eM kis d as).Pairwise (λa b=>HT.lexLt (f b) (f a)=false):=by
 obtain⟨hp,hs⟩:=qd (n:=as.length) (n0 kis);have sz:=hp.size;unfold eM;rw[agU];refine agz.mpr λi j hi hj gX=>?_;have cY:i<(cZ (dh kis) as.length).size:=by simpa using hi
 have zV:j<(cZ (dh kis) as.length).size:=by simpa using hj
 have q:=hs i j (by lia) (by lia);have e1:(cZ (dh kis) as.length).getD i 0=(cZ (dh kis) as.length)[i]:=by simp[ajP,cY]
 have e2:(cZ (dh kis) as.length).getD j 0=(cZ (dh kis) as.length)[j]:=by simp[ajP,zV]
 have l1:=cK.below hp (i:=i) (by lia);have l2:=cK.below hp (i:=j) (by lia);rw[e1,e2] at q;rw[e1] at l1;rw[e2] at l2;have q2:HT.lexLt (kis.getD (cZ (dh kis) as.length)[j] []) (kis.getD (cZ (dh kis) as.length)[i] [])=false:=q;have g:∀ k,k<as.length->kis.getD k []=f (as.getD k d):=λk jb=>by subst hk;simp[abV,jb]
 simp only[Array.getElem_toList];rw[g _ l1,g _ l2] at q2;exact q2
theorem QN(r:Vals xs vs):Vals (eM kis .non xs) ((cZ (dh kis) xs.length).toList.map λi=>vs.getD i Value.none):=by
 have hp:=(qd (n:=xs.length) (n0 kis)).1;have gen:∀ l:List Nat,(∀ i∈l,i<xs.length)->Vals (l.map λi=>xs.getD i .non) (l.map λi=>vs.getD i Value.none):=by
  intro l
  induction l with
  | nil=>intro y;exact .nil
  | cons i l ih =>
   intro h;have hi:=h i (.head _);refine .cons ?_ (ih λj hj=>h j (.tail _ hj));have e:xs[i]?=some xs[i]:=abW hi;obtain⟨u,eu,ru⟩:=r.get e;show RelV (xs.getD i .non) (vs.getD i Value.none);rw[abV,abV,eu,e];exact ru
 exact gen _ λi hi=>by simpa using hp.mem_iff.mp hi
def QO(K:abU)(sp:Sp)(x:V)(H1:Hp)(Q:VK):Prop:=∃ (a:ab6) (xs:List V),x = .ref a/\ai K H1 a xs/\xs.length<64/\GB sp xs [] H1 λks H2=>∃ kis,ja K H2 ks kis/\∀ l,H2 l=none->Q (.ref l) (upd H2 l (.lst (eM kis .non xs)))
def QP(K:abU)(sp:Sp)(te:TE):TE:=λσ H Q=>te σ H λx H1=>QO K sp x H1 Q
end
abbrev En:=Option Int
noncomputable def ev:En->V
 | none=>.non
 | some i=>.int i
theorem wq:ev none = .non:=rfl
theorem wu(i:Int):ev (some i) = .int i:=rfl
noncomputable def ba:En->En->Bool
 | some x,some y=>decide (y<x)
 | _,_=>false
def aO(H:Hp)(v:V)(a b:En):Prop:=∃ p,v = .ref p/\H p=some (.tup [ev a,ev b])
theorem aO.same(h:aO H v a b)(s:ah H H1):aO H1 v a b:=by obtain⟨p,e,h⟩:=h;exact⟨p,e,s _ _ h⟩
theorem aO.new:aO (upd H p (.tup [ev a,ev b])) (.ref p) a b:=⟨p,rfl,aq⟩
noncomputable def hold(a b:En)(n:Int):Bool:=!ba a (some n) && !ba (some n) b
theorem gK:hold a b n=true↔(∀ x,a=some x->x<=n)/\(∀ y,b=some y->n<=y):=by unfold hold;rcases a with z|x<;>rcases b with z|y<;>simp[ba]
noncomputable def dN:En->En->En
 | some x,some y=>some (if y > x then y else x)
 | some x,none=>some x
 | none,b=>b
noncomputable def eN:En->En->En
 | some x,some y=>some (if y<x then y else x)
 | some x,none=>some x
 | none,b=>b
noncomputable def nums(a b:En):List Int:=[a,b].filterMap id
noncomputable def sS(v:V):Bool:=!decide (v = .non)
theorem QQ(a b:En):([ev a,ev b].filter sS).map (λv=>v)=(nums a b).map V.int:=by rcases a with z|x<;>rcases b with z|y<;>simp[ev,nums,sS]
theorem QS(a b:En):nY gH (nums a b) .non=ev (dN a b):=by rcases a with z|x<;>rcases b with z|y<;>simp[nums,dN,gH,nY,ev]
theorem QT(a b:En):nY gI (nums a b) .non=ev (eN a b):=by rcases a with z|x<;>rcases b with z|y<;>simp[nums,eN,gI,nY,ev]
def GF(H:Hp)(v:V)(lo hi:En):Prop:=(ba lo hi=true->v = .non)/\(ba lo hi=false->aO H v lo hi)
theorem GG{K:abU}{H:Hp}{p:ab6}{a b:En}{Q:VK}{tt:TT}{te:TE}(hp:H p=some (.tup [ev a,ev b]))(ht:∀ x H Q,Q (sS x) H->tt [some x] H Q)(he:∀ x H Q,Q x H->te [some x] H Q)
 (q:∀ l,H l=none->Q (.ref l) (upd H l (.lst ((nums a b).map V.int)))):mL (rO K p) [] tt te H Q:=by
 refine cJ (xs:=[ev a,ev b]) FK aX (vZ (p:=sS) (f:=λv=>v) (aj.of hp) (λx y Q h=>ht x H Q h) (λx y y Q h=>he x H Q h) ?_);rw[aci,QQ];exact q
end Gz
namespace Gz
open L2
abbrev S2:=En × En
noncomputable def hs(s:S2)(n:Int):Bool:=hold s.1 s.2 n
def GH(s:S2):Prop:=ba s.1 s.2=false
theorem QU:hs s n=true↔(∀ x,s.1=some x->x<=n)/\(∀ y,s.2=some y->n<=y):=gK
open PySem in
def lG(H:Hp):List V->List S2->Prop
 | [],[]=>True
 | v::vs,s::ss=>aO H v s.1 s.2/\lG H vs ss
 | _,_=>False
section
theorem aO.put(h:aO H v a b)(hl:H l=some (.lst ys)):aO (upd H l o) v a b:=by obtain⟨p,e,h⟩:=h;exact⟨p,e,by rw[aF (pq h hl λz=>nomatch z)];exact h⟩
theorem lG.len:∀ {vs:List V} {ss:List S2},lG H vs ss->vs.length=ss.length
 | [],[],_=>rfl
 | _::_,_::_,h=>by simp[lG.len h.2]
 | [],_::_,h=>h.elim
 | _::_,[],h=>h.elim
open PySem
end
end Gz
namespace Gz
open PySem PySem.Spec PyProof.Rows L2
structure zW(K:abU)(C:ab6)(m:Str)(f:ab6):Prop where
 ga:agL K (.ref C) "__getattribute__" = some (some (.builtin "type.__getattribute__"))
 rd:ajv K C (.type "type")=true
 fd:afk K (.ref C) (.type "type") m=some (.val (.ref f))
 kp:aeg K (.ref f)=true
section
theorem sT(hg:Gl X x)(hm:X.mg x=some (.ref C))(c:zW X.K C m f)(F:eI X.prog X.w X.K X.mg X.base CX k f fd ps sp)(hr:bI k X.A)(hb:Binds X.K fd ps ds)(hd:Vals dn ds)(hx:Passes CX X E)(ha:PA X (e::es) t)(fM:(x == ("__debug__" : Str))=false:=by decide)(cT:acm (e::es) X.env=(false,eval e X.env)::acm es X.env:=by rfl)(dJ:(adF pos (acm es X.env)).any (·.1)=false:=by rfl)(ht:eval (.Call (.Attribute (.Name x p) m apos) (e::es) [] pos) X.env=(do
 let ov <- eval (.Name x p) X.env
 aiE apos.atName
 let (f,first) <- holding [ov] (ahB ov m pl)
 ajU pos f first (adF pos (acm (e::es) X.env)) (ahR pos (afx [] X.env))):=by rfl) :
 PE X (.Call (.Attribute (.Name x p) m apos) (e::es) [] pos) (pL sp dn E t):=by
 intro pins s σ H Q I h;refine aeG (pl:=pl) (aE (pE (X:=X) (v:=.ref C) hg hm rfl fM pins s σ H (λv H1=>v = .ref C/\H1=H) I ⟨rfl,rfl⟩) λu s1 zq=>?_) ht;obtain⟨y,H1,I1,rx,e1,e2⟩:=zq;subst e1 e2;obtain rfl:u=acy C:=rx;refine PySem.W.method_cls I1.cz c.ga (PySem.W.cls_value I1.cz c.rd c.fd rfl ?_);have I2:Inv X pins σ H1 { s1 with toks:=s1.toks+1 }:=I1.tok _;refine afh (first:=[]) (h₀:=X.base) I.ok.mod.iV c.kp (aE (ha pos pins _ σ H1 _ I2 h) λus s2 ⟨vs,H2,I3,r,q2⟩=>⟨I3.cz,?_⟩) cT dJ;exact rX (us:=us) (vs:=vs) F hr hb hd hx I3 r q2
def QV(K:abU)(m:Str)(f:ab6)(sp:Sp)(dn:List V)(E:XK)(ta:TE)(t:TA):TE:=λσ H Q=>ta σ H λx H1=>∃ a C dx fs,x = .ref a/\H1 a=some (.ins C dx fs)/\cN K C/\Meth K C m f/\fs.lookup m=none /\
 t σ H1 λvs H2=>sp (.ref a::(vs++dn)) H2 Q E
end
abbrev W2:=Option S2
def gY(H:Hp)(v:V):W2->Prop
 | none=>v = .non
 | some s=>aO H v s.1 s.2
theorem gY.same(h:gY H v w)(s:ah H H'):gY H' v w:=by
 cases w with
 | none=>exact h
 | some a=>exact aO.same h s
end Gz
namespace Gz
open PySem L2 PySem.W PySem.Spec PyProof.Rows
def Bt(n:Nat)(x:Int):Prop:=aeu x<=n
theorem Bt.add(h:Bt n x)(h':Bt n y):Bt (n+1) (x+y):=by
 have:=akd h h'
 rwa [Nat.max_self] at this
theorem Bt.mul(h:Bt n x)(h':Bt m y):Bt (n+m) (x * y):=ake h h'
theorem Bt.up(h:Bt n x)(hm:n<=m):Bt m x:=ab3 h hm
theorem Bt.small(h1 : -(2 ^ 64)<x)(h2:x<2 ^ 64):Bt 64 x:=PySem.intBits_le_64 h1 h2
def qg(i j:Int):Prop:=Bt 40000000 i/\Bt 40000000 j
theorem qg.ok(h:qg i j):IntMulOk i j:=ajF h.1 h.2 (by decide)
theorem QW:bf X (aeN .Mult) (rI qg λi j=>.int (i * j)):=rS λy y y y y y y hc q=>mul_int q hc.ok
def jT(ns:List Int):Prop:=ns.length<=63/\∀ x∈ns,Bt 1048576 x
theorem weigh:∀ (ns:List Int) (x:Int),x∈ns->aeu x<=aew (ns.map aen)
 | [],x,h=>by simp at h
 | y::ns,x,h=>by
  have e:aew ((y::ns).map aen)=(if y == 0 then 0 else y.natAbs.log2+1)+1+aew (ns.map aen):=by rw[acs];simp only[aew,ahW]
  rw[e];rcases acd.mp h with rfl|h
  .unfold aeu;lia
  .have:=weigh ns x h;lia
theorem QX{ns:List Int}(h:ajQ [PySem.W.WData.list (ns.map aen)]=true):∀ x∈ns,Bt 1048576 x:=by
 intro x hx;have h1:afN (PySem.W.WData.list (ns.map aen))=true:=by
  have:(afN (PySem.W.WData.list (ns.map aen)) && true)=true:=h
  rwa [aeP] at this
 unfold afN at h1;rw[acT] at h1;have h2:=of_decide_eq_true h1.2;have h3:=weigh ns x hx;simp only[ahW] at h2;unfold Bt;lia
theorem QY{l:ahH}{k:Nat}{q:acK}{loose:List Str}{XP:(Str->Option ab1)->aek->Prop}{YP:ado->aek->Prop}{d:DefRec}{K:Params->abU}{CX:ado->gU}{sp:ado->Sp}{x:Str}
 (most:l.most=some 63) (plain:d.params.defaults=[]) (room:bI k ajn)
 (QZ:∀ (w:ado) (h:aek),YP w h->(K w.params).In h)
 (F:∀ (w:ado) (mg:Str->Option ab1) (fa:ab6) (h:aek),(K w.params).In h->h.Ns ady mg->mg d.name=some (.ref fa) ->
   ∃ fd:aeO,(∀ (s:ab9) (u:ab1),aiJ s fd ⟨[u],[]⟩ [(x,u)]) /\
    ∀ base:aek,(K w.params).In base->base.Ns ady mg->eI l.prog w (K w.params) mg base (CX w) k fa fd [x] (sp w))
 (law:∀ (w:ado) (H:Hp) (a:ab6) (ns:List Int),jT ns->ai (K w.params) H a (ns.map V.int)->sp w [.ref a] H (λv y=>v = .bl true) λy y y=>False)
 (calm:∀ (w:ado) (H:Hp) (s:ab9) (e:ab1) (s':ab9),CX w [] H s (λy y y=>False) e s'->False) :
 ajX q loose XP YP l.row.toRowW d [] (λf vs=>PySem.call f vs):=by
 intro w t₀ t mg mb G Y f ob pm cd doc dV kV look data code defs at_ gens args vals as pre lay y well y;have e1:dV = .none:=Dflts.none defs plain;have e2:kV = .none:=Dflts.noKw defs;cases e1;cases e2;obtain⟨a,vs,ns,e3,e4,obj,are,len⟩:=zg.Ol most pre well;cases e3;cases e4;have KX:=QZ w _ Y;obtain⟨fd,bind,ok⟩:=F w mg f _ KX G.T.g at_;have run:=Ou KX G.T.g G.T.b G.T.builtins G.T.nolimit gens obj are (ab3 len (by decide)) room ok bind
  (λH y S=>law w H a ns ⟨len,QX lay⟩ S) λH e s'=>calm w H t e s'
 refine enter_call (afI run ?_);rintro r s' ⟨rfl,old,os,bare⟩;exact⟨.inl ⟨.bool true,.bool true,[],rfl,λy=>rfl,.bool true,zg.Ot l _,λy=>⟨List.Pairwise.nil,λy z=>(nomatch z)⟩⟩,old,os,bare⟩
noncomputable def sU(ns:List Int)(k:Int):Int:=if 0<(ns.length:Int) then ns.getD (k % (ns.length:Int)).toNat 0 else 0
theorem Q3(h:jT ns)(k:Int):Bt 1048576 (sU ns k):=by
 unfold sU;split
 .rw[abV];cases e:ns[(k % (ns.length:Int)).toNat]? with
  | none=>exact (Bt.small (by decide) (by decide)).up (by decide)
  | some n=>exact h.2 _ (ace e)
 .exact (Bt.small (by decide) (by decide)).up (by decide)
theorem Q4{ns:List Int}{k:Int}(h:0<(ns.length:Int)):de (ns.map V.int) (k % (ns.length:Int))=some (.int (sU ns k)):=by
 have h1:=ahI k (show (ns.length:Int)≠0 by lia);have h2:=agt k h;unfold sU;rw[if_pos h];have ek:k % (ns.length:Int)=(((k % (ns.length:Int)).toNat:Nat):Int):=by lia
 refine (congrArg (de _) ek).trans (dq ?_);rw[aca,abV,abW (by lia)];rfl
theorem GI(h:x.natAbs<2 ^ 600):Bd 4000 x:=Bd.up (n:=600) h (by decide)
theorem n4(h:x.natAbs<2 ^ 600)(h':y.natAbs<2 ^ 600):pQ x y:=⟨GI h,GI h'⟩
theorem aC(I:L2.St->Hp->Prop)(h1:∀ N:L2.St->Hp->Prop,(∀ σ H,I σ H->N σ H)->a { D with nx:=N } σ H)(h2:∀ R:TS,R=b->∀ σ H,I σ H->R D σ H):ve a b D σ H:=h1 _ (h2 _ rfl)
noncomputable def pre(f:P2->Int)(ps:List P2)(i:Nat):Int:=((ps.take i).map f).sum
theorem gZ(f:P2->Int)(ps:List P2)(h:i<ps.length):pre f ps (i+1)=pre f ps i+f (aL ps i):=by unfold pre aL;rw[acR,adA,ajw,abV,abW h];simp only[aiv,acs,agq,ahb,akf,Int.add_zero,ae3]
noncomputable def bN(ps:List P2)(i j:Nat):Int:=if i<=j then pre (·.2) ps j-pre (·.2) ps i else pre (·.1) ps j-pre (·.1) ps i
def fw(ps:List P2):Prop:=∀ p∈ps,p.1<=p.2
theorem GJ(h:fw ps)(i:Nat):∀ n,i+n<=ps.length->pre (·.1) ps (i+n)-pre (·.1) ps i<=pre (·.2) ps (i+n)-pre (·.2) ps i
 | 0,_=>by simp
 | n+1,hn=>by have ih:=GJ h i n (by lia);rw[show i+(n+1)=(i+n)+1 by lia,gZ _ ps (by lia),gZ _ ps (by lia)];have:=h _ (qb (ps:=ps) (i:=i+n) (by lia));lia
theorem qh(h:fw ps)(gX:i<=j)(hj:j<=ps.length):pre (·.1) ps j-pre (·.1) ps i<=pre (·.2) ps j-pre (·.2) ps i:=by
 have:=GJ h i (j-i) (by lia)
 rwa [show i+(j-i)=j by lia] at this
theorem Q5(h:fw ps)(hi:i<=ps.length)(hj:j<=ps.length)(hk:k<=ps.length):bN ps i j<=bN ps i k+bN ps k j:=by have a:=λh'=>qh h (i:=i) (j:=j) h' hj;have b:=λh'=>qh h (i:=j) (j:=i) h' hi;have c:=λh'=>qh h (i:=i) (j:=k) h' hk;have d:=λh'=>qh h (i:=k) (j:=i) h' hi;have e:=λh'=>qh h (i:=j) (j:=k) h' hk;have f:=λh'=>qh h (i:=k) (j:=j) h' hj;unfold bN;split<;>split<;>split<;>lia
noncomputable def part(ps:List P2)(i j k:Nat):Int:=if i<j then pre (·.2) ps (min i j+k)-pre (·.2) ps i else pre (·.1) ps j-pre (·.1) ps (min i j+k)
end Gz
namespace L2
open PySem PySem.Spec PyProof.Rows
section
variable{κ:Type}[DecidableEq κ]
noncomputable def di(kvs:List (κ × V))(k:κ):Option V:=(kvs.find? λkv=>decide (kv.1=k)).map (·.2)
noncomputable def putK(kvs:List (κ × V))(k:κ)(v:V):List (κ × V) :=
 if (kvs.any λkv=>decide (kv.1=k))=true then kvs.map (λkv=>if kv.1=k then (kv.1,v) else kv) else kvs++[(k,v)]
noncomputable def iI(kvs:List (κ × V))(k:κ):List (κ × V):=kvs.filter λkv=>decide (kv.1≠k)
theorem wx{p:κ × V}{r:List (κ × V)}{k:κ}(e:p.1=k):di (p::r) k=some p.2:=by simp[di,adB,e]
theorem wy{p:κ × V}{r:List (κ × V)}{k:κ}(e:¬ p.1=k):di (p::r) k=di r k:=by simp[di,adB,e]
theorem GK(k:κ):∀ kvs:List (κ × V),(kvs.any λkv=>decide (kv.1=k))=(di kvs k).isSome
 | []=>rfl
 | p::r=>by
  rw[adm];by_cases e:p.1=k
  .simp only[wx e,decide_eq_true e,Bool.true_or,Option.isSome_some]
  .rw[wy e,decide_eq_false e,ajY];exact GK k r
theorem GL(kvs:List (κ × V))(k:κ)(v:V):(putK kvs k v).length<=kvs.length+1:=by
 unfold putK;split
 .rw[abT];omega
 .rw[acj,acB,adG];omega
theorem fX.zX(r:fX o u):o.isSome=u.isSome:=by
 cases o with
 | none=>cases u with
  | none=>rfl
  | some _=>exact (show False from r).elim
 | some _=>cases u with
  | none=>exact (show False from r).elim
  | some _=>rfl
theorem KV.val(r:KV kvs vs)(k:κ):fX (di kvs k) (aiR vs k):=by
 unfold KV at r
 induction r with
 | nil=>exact aem
 | @cons p q ps qs h t ih =>
  obtain⟨h1,h2⟩:=h;by_cases e:p.1=k
  .have e':q.1=k:=h1.symm.trans e;have b:aiR (q::qs) k=some q.2:=by simp[aiR,adB,e']
   rw[wx e,b];exact h2
  .have e':¬ q.1=k:=λz=>e (h1.trans z);have b:aiR (q::qs) k=aiR qs k:=by simp[aiR,adB,e']
   rw[wy e,b];exact ih
theorem KV.any(r:KV kvs vs)(k:κ):(kvs.any λkv=>decide (kv.1=k))=vs.any λkv=>decide (kv.1=k):=by
 unfold KV at r
 induction r with
 | nil=>rfl
 | cons h t ih=>rw[adm,adm,ih,h.1]
theorem KV.qi(r:KV kvs vs)(k:κ)(ry:RelV y u) :
 KV (kvs.map λkv=>if kv.1=k then (kv.1,y) else kv) (vs.map λkv=>if kv.1=k then (kv.1,u) else kv):=by
 unfold KV at r ⊢
 induction r with
 | nil=>exact .nil
 | @cons p q ps qs h t ih =>
  rw[acs,acs];refine .cons ?_ ih;obtain⟨h1,h2⟩:=h;by_cases e:p.1=k
  .rw[if_pos e,if_pos (h1.symm.trans e)];exact⟨h1,ry⟩
  .rw[if_neg e,if_neg (λz=>e (h1.trans z))];exact⟨h1,h2⟩
theorem KV.put(r:KV kvs vs)(k:κ)(ry:RelV y u):KV (putK kvs k y) (stored vs k u):=by
 unfold putK stored;rw[r.any k];by_cases e:(vs.any λkv=>decide (kv.1=k))=true
 .rw[if_pos e,if_pos e];exact r.qi k ry
 .rw[if_neg e,if_neg e];exact Paired.snoc r ⟨rfl,ry⟩
theorem KV.length(r:KV kvs vs):kvs.length=vs.length:=Paired.length r
theorem Q6(kvs:List (κ × V))(k:κ):(iI kvs k).length<=kvs.length:=acE _ _
end
theorem wz(r:RelV (kV k) u):(fH P w).is k u=true:=by
 cases k with
 | inl i=>obtain⟨t,e⟩:=(show ∃ t,u=ael i t from r);subst e;exact MN P w i t
 | inr x=>obtain⟨t,e⟩:=(show ∃ t,u=ail x t from r);subst e;exact MO P w x t
theorem GN:∀ {ks:List Key} {us:List ab1},Vals (ks.map kV) us->ItemsAre (fH P w) ks us
 | [],_,r=>by rw[agq] at r;cases r;exact .nil
 | k::ks,_,r=>by
  rw[acs] at r;cases r with
  | cons h t=>exact .cons (wz h) (GN t)
abbrev KT(H:Hp):List (List Key × V)->List (List Key × ab6 × ab1)->Prop:=aj7 λp q=>p.1=q.1/\H q.2.1=some (.tup (p.1.map kV))/\RelV p.2 q.2.2
theorem KT.val(r:KT H kvs xs)(k:List Key):fX (di kvs k) ((aih xs k).map (·.2)):=by
 induction r with
 | nil=>exact aem
 | @cons p q ps qs h t ih =>
  obtain⟨h1,y,h2⟩:=h;by_cases e:p.1=k
  .have e':q.1=k:=h1.symm.trans e;have b:aih (q::qs) k=some q.2:=by simp[aih,adB,e']
   rw[wx e,b];exact h2
  .have e':¬ q.1=k:=λz=>e (h1.trans z);have b:aih (q::qs) k=aih qs k:=by simp[aih,adB,e']
   rw[wy e,b];exact ih
theorem KT.qi(r:KT H kvs xs)(k:List Key)(ry:RelV y u) :
 KT H (kvs.map λkv=>if kv.1=k then (kv.1,y) else kv) (xs.map (putAt k u)):=by
 induction r with
 | nil=>exact .nil
 | @cons p q ps qs h t ih =>
  rw[acs,acs];refine .cons ?_ ih;obtain⟨h1,h2,h3⟩:=h;unfold putAt;by_cases e:p.1=k
  .rw[if_pos e,if_pos (h1.symm.trans e)];exact⟨h1,h2,ry⟩
  .rw[if_neg e,if_neg (λz=>e (h1.trans z))];exact⟨h1,h2,h3⟩
theorem KT.put(r:KT H kvs xs)(k:List Key)(hb:H b=some (.tup (k.map kV)))(ry:RelV y u) :
 KT H (putK kvs k y) (storedH xs k b u):=by
 have e:(kvs.any λkv=>decide (kv.1=k))=(aih xs k).isSome:=by rw[GK,(r.val k).zX,aiS]
 unfold putK storedH;rw[e];by_cases q:(aih xs k).isSome=true
 .rw[if_pos q,if_pos q];exact r.qi k ry
 .rw[if_neg q,if_neg q];exact Paired.snoc r ⟨rfl,hb,ry⟩
theorem KT.keeps(r:KT H kvs xs)(ht:∀ b ys,H b=some (.tup ys)->H' b=some (.tup ys)):KT H' kvs xs :=
 Paired.DH r λy y z=>⟨z.1,ht _ _ z.2.1,z.2.2⟩
section
theorem GO(ok:b7 P w H h)(e:Rd H a u):bM P w H h a u:=e.ok ok
theorem sV(ok:b7 P w H h)(e:Rd H a (.dK kvs)):kvs.length<=aco/\(a == adD)=false/\∃ vs,KV kvs vs/\h.DictOf (fH P w) a vs :=
 show bM P w H h a (.dK kvs) from GO ok e
theorem Q7(ok:b7 P w H h)(e:H a=some (.dK kvs)):kvs.length<=aco/\(a == adD)=false/\∃ vs,KV kvs vs/\h.DictOf (fH P w) a vs:=sV ok (.inl e)
theorem sW(ok:b7 P w H h)(e:H a=some (.tup (ks.map kV))):(agH (fH P w)).is h ks a:=by
 obtain⟨y,aw,r,o,h1,h2,n,h3⟩:=(show bM P w H h a (.tup (ks.map kV)) from ok a _ e)
 exact⟨o,aw.toArray,n,h1,h2,h3,by simpa using GN r⟩
theorem sX(ok:b7 P w H h)(e:Rd H a (.dT kvs)):kvs.length<=aco/\(a == adD)=false /\
 ∃ xs,KT H kvs xs/\h.DictOfH (agH (fH P w)) a xs:=by
 obtain⟨z,y,xs,r,o,es,ep,h1,h2,h3,h4,h5⟩:=(show bM P w H h a (.dT kvs) from GO ok e)
 refine⟨z,y,xs,r,o,es,ep,h1,h2,h3,h4,λx hx=>?_,h5⟩;have all:∀ {l:List (List Key × V)} {m:List (List Key × ab6 × ab1)},KT H l m->∀ x∈m,(agH (fH P w)).is h x.1 x.2.1:=by
  intro l m q
  induction q with
  | nil=>intro x hx;exact nomatch hx
  | @cons p q ps qs hq t ih =>
   intro x hx;rcases acd.mp hx with e|hx
   .subst e;exact sW ok (by rw[<- hq.1];exact hq.2.1)
   .exact ih x hx
 exact all r x hx
theorem wA(ok:b7 P w H h)(e:H a=some (.dT kvs)):kvs.length<=aco/\(a == adD)=false /\
 ∃ xs,KT H kvs xs/\h.DictOfH (agH (fH P w)) a xs:=sX ok (.inl e)
end
def eZ(H:Hp)(a:ab6)(y:V)(r:Option V):Prop :=
 (∃ kvs k,Rd H a (.dK kvs)/\y=kV k/\r=di kvs k) ∨ ∃ kvs k b,Rd H a (.dT kvs)/\y = .ref b/\H b=some (.tup (k.map kV))/\r=di kvs k
def mR(H:Hp)(a:ab6)(y v:V)(H':Hp):Prop :=
 (∃ kvs k,H a=some (.dK kvs)/\y=kV k/\kvs.length<aco/\H'=upd H a (.dK (putK kvs k v))) ∨
 ∃ kvs k b,H a=some (.dT kvs)/\y = .ref b/\H b=some (.tup (k.map kV))/\kvs.length<aco/\H'=upd H a (.dT (putK kvs k v))
theorem eZ.t(e:H a=some (.dT kvs))(eb:H b=some (.tup (k.map kV))):eZ H a (.ref b) (di kvs k):=.inr ⟨kvs,k,b,.inl e,rfl,eb,rfl⟩
theorem mR.t{H:Hp}{a b:ab6}{kvs:List (List Key × V)}{k:List Key}{v:V}(e:H a=some (.dT kvs))(eb:H b=some (.tup (k.map kV)))(hl:kvs.length<aco) :
 mR H a (.ref b) v (upd H a (.dT (putK kvs k v))):=.inr ⟨kvs,k,b,e,rfl,eb,hl,rfl⟩
section
theorem Q8(hu:A.units+1<af0)(I:Inv X pins σ H s)(g:eZ H a y (some v))(ry:RelV y u)(h:∀ w' s',Inv X pins σ H s'->RelV v w'->Q w' s') :
 ack (model X.prog X.w) A (ajj (.ref a) u) Q E s:=by
 rcases g with ⟨kvs,k,e,ey,l⟩|⟨kvs,k,b,e,ey,eb,l⟩
 .subst ey;obtain⟨z,hd,vs,rel,dd⟩:=sV I.az e;obtain⟨w',hw,jI⟩:=fX.some_of (v:=v) (o:=aiR vs k) (by rw[l];exact rel.val k);exact wpAny_getItem_of (wz ry) dd.mapOf hw (h w' _ (I.tok _) jI)
 .subst ey;cases (show u=acy b from ry);obtain⟨z,hd,xs,rel,dd⟩:=sX I.az e;obtain⟨w',hw,jI⟩:=fX.some_of (v:=v) (o:=(aih xs k).map (·.2)) (by rw[l];exact rel.val k);obtain⟨p,hp,dY⟩:=acC.mp hw;refine wpAny_getItem_heap (aed hu) (sW I.az eb) dd hp ?_;rw[dY];exact h w' _ (I.tok _) jI
theorem Ra(hu:A.units+1<af0)(I:Inv X pins σ H s)(g:eZ H a y o)(ry:RelV y u)(h:∀ s',Inv X pins σ H s'->Q (.bool (!o.isSome)) s') :
 ack (model X.prog X.w) A (acX .NotIn u (.ref a)) Q E s:=by
 rcases g with ⟨kvs,k,e,ey,l⟩|⟨kvs,k,b,e,ey,eb,l⟩
 .subst ey;obtain⟨z,hd,vs,rel,dd⟩:=sV I.az e;refine wpAny_notIn_of (wz ry) hd dd.mapOf ?_;rw[<- (rel.val k).zX,<- l];exact h _ (I.tok _)
 .subst ey;cases (show u=acy b from ry);obtain⟨z,hd,xs,rel,dd⟩:=sX I.az e;refine wpAny_notIn_heap (aed hu) (sW I.az eb) hd dd ?_;have q:=(rel.val k).zX;rw[aiS] at q;rw[<- q,<- l];exact h _ (I.tok _)
theorem zY(I:Inv X pins σ H s)(mu:rB (H a))(hs:Heap.SameBut a s.heap h')(he:∃ q,h'.get? a=some q)(new:bM X.prog X.w (upd H a ob) h' a ob) :
 Inv X pins σ (upd H a ob) { s with heap:=h',toks:=t' } :=
 I.write (x:=a) (e:=a) mu (.inl rfl) (λb q hb z=>(hs.2 b hb).trans z) he new
theorem GP(z:kvs.length<=aco)(hd:(a == adD)=false)(rel:KV kvs vs)(dd:h'.DictOf (fH P w) a vs) :
 bM P w H' h' a (.dK kvs):=⟨z,hd,vs,rel,dd⟩
theorem Rb(hu:A.units+1<af0)(I:Inv X pins σ H s)(g:mR H a y v H')(ry:RelV y u)(rv:RelV v r)(h:∀ s',Inv X pins σ H' s'->Q () s') :
 ack (model X.prog X.w) A (setItem (.ref a) u r) Q E s:=by
 rcases g with ⟨kvs,k,e,ey,l,eH⟩|⟨kvs,k,b,e,ey,eb,l,eH⟩
 .subst ey eH;obtain⟨z,hd,vs,rel,dd⟩:=Q7 I.az e;have hz:vs.length<=aco:=by rw[<- rel.length];exact z
  have hl:(putK kvs k v).length<=aco:=by have:=GL kvs k v;omega
  refine wpAny_setItem_pairs (hsz:=hz) (wz ry) dd λh' n5 hs=>h _ ?_;have he:∃ q,h'.get? a=some q:=let ⟨q,_,_,hq,_⟩:=n5;⟨q,hq⟩;exact zY I (by rw[e];exact aem) hs he (GP hl hd (rel.put k rv) n5)
 .subst ey eH;cases (show u=acy b from ry);obtain⟨z,hd,xs,rel,dd⟩:=wA I.az e;have hz:xs.length<=aco:=by rw[<- Paired.length rel];exact z
  have hl:(putK kvs k v).length<=aco:=by have:=GL kvs k v;omega
  refine wpAny_setItem_heap (hsz:=hz) (aed hu) (sW I.az eb) dd λh' n5 hs=>h _ ?_;obtain⟨q,es,ep,hq,h2,h3,h4,c,h5⟩:=n5;refine zY I (by rw[e];exact aem) hs ⟨q,hq⟩ ⟨hl,hd,_,(rel.put k eb rv).keeps λc ys ec=>?_,q,es,ep,hq,h2,h3,h4,h5⟩;rw[aF (pq ec e (λz=>nomatch z))];exact ec
end
def zZ(i:afS):Prop:=∀ ov iv,subscripted i false ov iv=operate [ov,iv] (ajj ov iv)
theorem Rc{prog:acK}{w:ado}{A:adz}{E:ab1->ab9->Prop}{s:ab9}{env:Env}{value slice:afS}{pos:Pos}{T id:String}{Q:ab1->ab9->Prop}
 (hl:aiL (.type T) "__getitem__" = pure (some (.builtin id))) (hs:zZ slice)
 (h:ack (model prog w) A (eval value env) (λo s₁=>ack (model prog w) A (eval slice env) (λi s₂=>s₂.TypeIs o T/\ack (model prog w) A (ajj o i) Q E s₂) E s₁) E s) :
 ack (model prog w) A (eval (.Subscript value slice pos) env) Q E s:=by
 refine aiM (ada h (λo s₁ h₁=>ada h₁ (λi s₂ h₂=>?_) λy y x=>x) λy y x=>x);obtain⟨hT,h₂⟩:=h₂;unfold ag5;refine abS ?_;rw[getitemInPython_of_ne hT.not_modules];refine abS (age hT hl ?_);have fin:ack (model prog w) A (subscripted slice false o i) (λr s₃=>ack (model prog w) A (letTemporaryGo value o r >>= λy=>pure r) Q E s₃) E s₂:=by rw[hs o i];exact wpAny_operating (ada h₂ (λr s₃ h₃=>abS (wpAny_letTemporaryGo (abX h₃))) λy y x=>x)
 first
  | exact abX (abS fin)
  | exact abS (abX (abS fin))
  | exact abS fin
theorem Rf(I:Inv X pins σ H s)(g:eZ H a y o):s.TypeIs (.ref a) "dict" := by
 rcases g with ⟨kvs,k,e,z,z⟩|⟨kvs,k,b,e,z,z,z⟩
 .obtain⟨z,z,vs,z,dd⟩:=sV I.az e;exact dd.typeIs
 .obtain⟨z,z,xs,z,dd⟩:=sX I.az e;exact dd.typeIs
def z6(td ty:TE):TE:=λσ H Q=>td σ H λx H1=>ty σ H1 λy H2=>∃ a v,x = .ref a/\eZ H2 a y (some v)/\Q v H2
def Rg(ty td:TE):TE:=λσ H Q=>ty σ H λy H1=>td σ H1 λx H2=>∃ a o,x = .ref a/\eZ H2 a y o/\Q (.bl o.isSome) H2
def GQ(ty td:TE):TE:=λσ H Q=>ty σ H λy H1=>td σ H1 λx H2=>∃ a o,x = .ref a/\eZ H2 a y o/\Q (.bl (!o.isSome)) H2
def GR(td ty tv:TE):TS:=λD σ H=>tv σ H λv H1=>td σ H1 λx H2=>ty σ H2 λy H3=>∃ a H4,x = .ref a/\mR H3 a y v H4/\D.nx σ H4
section
theorem qj(hu:X.A.units+1<af0)(ho:PE X o td)(hi:PE X i ty)(hs:zZ i):PE X (.Subscript o i pos) (z6 td ty):=by intro pins s σ H Q I h;refine Rc PySem.F.slot_dict_getitem.lookup hs (aE (ho pins s σ H _ I h) λu s1 ⟨x,H1,I1,rx,q1⟩=>aE (hi pins s1 σ H1 _ I1 q1) λiv s2 zq=>?_);obtain⟨y,H2,I2,ry,a,v,ex,g,q2⟩:=zq;subst ex;obtain rfl:u=acy a:=rx;exact⟨Rf I2 g,Q8 hu I2 g ry λw' s3 I3 jI=>⟨v,H2,I3,jI,q2⟩⟩
theorem z7(hu:X.A.units+1<af0)(hi:PE X i ty)(ho:PE X o td):PC X .NotIn i o (GQ ty td):=by
 intro pins s σ H Q I h;refine aE (hi pins s σ H _ I h) λiv s1 ⟨y,H1,I1,ry,q1⟩=>aE (ho pins s1 σ H1 _ I1 q1) λu s2 zq=>?_;obtain⟨x,H2,I2,rx,a,ov,ex,g,q2⟩:=zq;subst ex;obtain rfl:u=acy a:=rx;exact Ra hu I2 g ry λs3 I3=>⟨.bl (!ov.isSome),H2,I3,rfl,q2⟩
theorem wB(hu:X.A.units+1<af0)(ho:PE X o td)(hi:PE X i ty)(hv:PE X value tv)(hs:afH value (some (.Subscript o i pos')) pos.line X.env=pure false) :
 PS X (.Assign [.Subscript o i pos'] value pos) (GR td ty tv):=by
 intro pins s σ H D I h;refine wpAny_Assign_Subscript (aE (hv pins s σ H _ I h) λr s1 ⟨v,H1,I1,rv,q1⟩=>aE (ho pins s1 σ H1 _ I1 q1) λu s2 ⟨x,H2,I2,rx,q2⟩=>aE (hi pins s2 σ H2 _ I2 q2) λiv s3 zq=>?_) hs;obtain⟨y,H3,I3,ry,a,H4,ex,g,q3⟩:=zq;subst ex;obtain rfl:u=acy a:=rx;exact Rb hu I3 g ry rv λs4 I4=>⟨σ,H4,I4,q3⟩
end
structure M1(X:Cx)(o:afS)(m:Str)(apos:Pos)(e:afS)(dt:Pos):Prop where
 base:afg o m X.env (eval o X.env)=eval o X.env
 few:((adF dt (acm [e] X.env)).all (λx=>!x.1) && (ahR dt (afx [] X.env)).all (λx=>x.1.isSome)
  && decide (([e]:List afS).length+([]:List ajm).length+(if ([]:List ajm).isEmpty then 0 else 1)<30))=true
 line:(apos.endLine == dt.line)=true
 trees:adF dt (acm [e] X.env)=[(false,eval e X.env)]
structure M2(X:Cx)(o:afS)(m:Str)(apos:Pos)(e f:afS)(dt:Pos):Prop where
 base:afg o m X.env (eval o X.env)=eval o X.env
 few:((adF dt (acm [e,f] X.env)).all (λx=>!x.1) && (ahR dt (afx [] X.env)).all (λx=>x.1.isSome)
  && decide (([e,f]:List afS).length+([]:List ajm).length+(if ([]:List ajm).isEmpty then 0 else 1)<30))=true
 line:(apos.endLine == dt.line)=true
 trees:adF dt (acm [e,f] X.env)=[(false,eval e X.env),(false,eval f X.env)]
def GS(H:Hp)(a:ab6):Prop:=(∃ kvs,Rd H a (.dK kvs)) ∨ ∃ kvs,Rd H a (.dT kvs)
theorem Rh(I:Inv X pins σ H s)(d:GS H a) :
 s.TypeIs (.ref a) "dict" /\ (∀ b,acy a = .ref b->∃ ob,s.heap.get? b=some ob/\ob.dict=none)/\(a == adD)=false:=by
 rcases d with ⟨kvs,e⟩|⟨kvs,e⟩
 .obtain⟨y,hd,vs,y,dd⟩:=sV I.az e;refine⟨dd.typeIs,λb q=>?_,hd⟩;cases q;obtain⟨ob,y,y,h1,h2,y⟩:=dd;exact⟨ob,h1,h2.2.1⟩
 .obtain⟨y,hd,xs,y,dd⟩:=sX I.az e;refine⟨dd.typeIs,λb q=>?_,hd⟩;cases q;obtain⟨ob,y,y,h1,h2,y⟩:=dd;exact⟨ob,h1,h2.2.1⟩
section
end
section
variable{κ:Type}[DecidableEq κ]
theorem GU:∀ {l:List κ} {k:κ},l.Nodup->¬ k∈l->(l++[k]).Nodup
 | [],k,_,_=>by simp
 | a::r,k,h,hk=>by
  obtain⟨h1,h2⟩:=ac9.mp h;show (a::(r++[k])).Nodup;refine ac9.mpr ⟨λm=>?_,GU h2 λm=>hk (acd.mpr (ai1 m))⟩;rcases acw.mp m with q|q
  .exact h1 q
  .exact hk (acd.mpr (afM (acx.mp q).symm))
end
end L2
namespace Gz
open PySem PySem.Spec PyProof.Rows L2
def bits(bs:List Int):Prop:=∀ x∈bs,x=0∨x=1
theorem z8(hx:H x=none)(hd:H dx=none)(hn:dx≠x):ah H (upd (upd H dx (.own x)) x (.ins C dx fs)) :=
 (ak hd).trans (ak (by rw[aF (acY hn)];exact hx))
abbrev Lk:=Option (List Int)
def Ri(xs:List ab6)(H:Hp)(v:V):Lk->Prop
 | none=>v = .non
 | some bs=>∃ l,v = .ref l/\l∉xs/\H l=some (.lst (bs.map V.int))
abbrev IsL:=Ri []
local macro_rules | `(tactic| walk_at "o") => `(tactic| ((try simp only [PySem.Addr] at *); lia))
section
variable{κ:Type}[DecidableEq κ]
noncomputable def gL(xs:List (κ × ab6 × ab1))(k:κ):List (κ × ab6 × ab1):=xs.filter λx=>decide (x.1≠k)
theorem Rj{xs:List (κ × ab6 × ab1)}{k:κ}(h:k∉xs.map (·.1)):gL xs k=xs:=by unfold gL;rw[aev];intro x hx;rw[decide_eq_true_eq];exact λz=>h (ab7.mpr ⟨x,hx,z⟩)
theorem GV:∀ {xs:List (κ × ab6 × ab1)} {k:κ} {j:Nat} {p:ab6 × ab1},(xs.map (·.1)).Nodup->xs[j]?=some (k,p)->xs.eraseIdx j=gL xs k
 | [],_,_,_,_,h=>by simp at h
 | x::r,k,0,p,hn,h=>by
  rw[acs,ac9] at hn;simp at h;subst h;have e:gL ((k,p)::r) k=gL r k:=by unfold gL;rw[acF,if_neg (by simp)]
  rw[e,Rj hn.1];rfl
 | x::r,k,j+1,p,hn,h=>by
  rw[acs,ac9] at hn;rw[afj] at h;have ne:¬ x.1=k:=λz=>hn.1 (z ▸ ab7.mpr ⟨_,ace h,rfl⟩);have e:gL (x::r) k=x::gL r k:=by unfold gL;rw[acF,if_pos (by simpa using ne)]
  rw[e,ahc,GV hn.2 h]
theorem GW(f:α->β):∀ (l:List α) (j:Nat),(l.map f).eraseIdx j=(l.eraseIdx j).map f
 | [],_=>rfl
 | _::_,0=>rfl
 | x::l,j+1=>by rw[acs,ahc,GW f l j];rfl
theorem Rk{xs:List (κ × ab6 × ab1)}{k:κ}(hn:(xs.map (·.1)).Nodup):((gL xs k).map (·.1)).Nodup:=hn.sublist ((agf).map _)
end
theorem GX{prog:acK}{w:ado}{K:Type}[DecidableEq K]{knd:HeapKind prog w K}{es:Array afL}{xs:List (K × ab6 × ab1)}{k:K}(he:es.toList=xs.map (aiD knd))(h:es.isEmpty=true):aih xs k=none:=by
 have e:es.size=0:=by simpa using h
 have l:=aeK he;have:xs=[]:=adQ.mp (by lia);rw[this];rfl
theorem KT.out(r:KT H kvs xs)(k:List Key):KT H (iI kvs k) (gL xs k):=by
 unfold iI gL
 induction r with
 | nil=>exact .nil
 | @cons p q ps qs h t ih =>
  rw[acF,acF];by_cases e:p.1=k
  .rw[if_neg (by simp[e]),if_neg (by simp[h.1.symm.trans e])];exact ih
  .rw[if_pos (by simp[e]),if_pos (by rw[decide_eq_true_eq];exact λz=>e (h.1.trans z))];exact .cons h ih
section
variable{prog:acK}{w:ado}{K:Type}[DecidableEq K]{knd:HeapKind prog w K}{A:adz}{E:ab1->ab9->Prop}{s:ab9}
theorem GY(hu:knd.room A)(iE:knd.is s.heap k a)(hm:s.heap.DictOfH knd d xs)(hsz:xs.length<=aco)(h0:aih xs k=none->Q none { s with toks:=s.toks+knd.draws k })(h1:∀ p e,aih xs k=some p->e.val=p.2->∀ h',h'.DictOfH knd d (gL xs k)->Heap.SameBut d s.heap h'->Q (some e) { s with heap:=h',toks:=s.toks+knd.draws k }):ack (model prog w) A (Builtin.Dict.takeOut d (.ref a)) Q E s:=by
 obtain⟨o,es,ep,ho,hc,hd,he,his,hn⟩:=hm;have z9:es.size<=aco:=by have e:=aeK he;lia
 unfold Builtin.Dict.takeOut
 try with_reducible refine adk ?_
 refine abS (knd.pyHash hu iE ?_);refine abS (wpAny_dictFind_heap (s:={ s with toks:=s.toks+knd.draws k }) hu iE ho hd he his hn (λbC=>?_) λj p hj=>?_)
 .exact abX (h0 (atKey_none_of_get bC))
 .refine abS (adU (s:={ s with toks:=s.toks+knd.draws k }) ho hd ?_);have ej:=entry_at he j;rw[hj] at ej;rw[ej];refine abS (wpAny_updateDictKeys (hz:=z9) (s:={ s with toks:=s.toks+knd.draws k }) ho hd (abX (h1 p (aiD knd (k,p)) (atKey_of_get hn hj) rfl _ ⟨_,_,ep+1,acI _ ho (Obj.isFreed_of_dict (ahX hd _)),hc.mapDictKeys _,ahX hd _,?_,?_,Rk hn⟩ (ac8 ..))))
  .rw[<- GV hn hj];have lt:j<es.size:=by rw[aeK he];exact (ab0.mp hj).1
   rw[Array.eraseIdxIfInBounds,dif_pos lt,Array.toList_eraseIdx,he,GW]
  .exact λx hx=>knd.keeps (his x (acv.mp hx).1) ho hd (ac8 ..)
theorem Rl(hu:knd.room A.in1)(iE:knd.is s.heap k a)(hd:(d == adD)=false)(hm:s.heap.DictOfH knd d xs)(hsz:xs.length<=aco)(GZ:more=[] ∨ ∃ x,more=[x])(h1:∀ p,aih xs k=some p->∀ h' tk,h'.DictOfH knd d (gL xs k)->Heap.SameBut d s.heap h'->Q p.2 { s with heap:=h',toks:=tk })(h0:aih xs k=none->∃ x,more=[x]/\∀ tk,Q x { s with toks:=tk }):ack (model prog w) A (call (.builtin "dict.pop") (.ref d :: .ref a::more)) Q E s:=by
 have ha:ahi "dict.pop" ⟨.ref d :: .ref a::more,[]⟩:=by
  rcases GZ with q|⟨x,q⟩
  .subst q;exact PySem.F.args_dict_pop_2 _ _
  .subst q;exact PySem.F.args_dict_pop_3 _ _ _
 have g:MeetsIn prog w (adY.«dict.pop» ⟨.ref d :: .ref a::more,[]⟩) (λA R s=>knd.room A.in1/\knd.is s.heap k a/\s.heap.DictOfH knd d xs/\(∀ p,aih xs k=some p->∀ h' tk,h'.DictOfH knd d (gL xs k)->Heap.SameBut d s.heap h'->R (.ok (.ret p.2)) { s with heap:=h',toks:=tk }) /\
  (aih xs k=none->∃ x,more=[x]/\∀ tk,R (.ok (.ret x)) { s with toks:=tk })):=.of_wp λA R s ⟨hu,iE,hm,h1,h0⟩=>by
  obtain⟨o,es,ep,ho,hc,hda,he,his,hn⟩:=id hm;refine abS ?_;refine abS (ahJ hm.typeIs ?_);rcases GZ with rfl|⟨dflt,rfl⟩
  .refine abX ?_;dsimp only;refine abS (adU ho hda (abS (abX ?_)));by_cases hemp:es.isEmpty=true
   .rw[if_pos hemp];refine abS (afd (abS (abX ?_)));refine abS (aei hd ?_);obtain⟨x,ex,hq⟩:=h0 (GX he hemp);cases ex
   .rw[if_neg hemp];refine abS (GY hu iE hm hsz (λAa=>?_) λp e hp Ab h' dd hs=>?_)
    .refine abS (aei hd ?_);obtain⟨x,ex,hq⟩:=h0 Aa;cases ex
    .exact abS (ae8 (abX ⟨e.val,rfl,by rw[Ab];exact h1 p hp h' _ dd hs⟩))
  .refine abX ?_;dsimp only;refine abS (adU ho hda (abS (abX ?_)));by_cases hemp:es.isEmpty=true
   .rw[if_pos hemp];refine abS (afd (abS (abX ?_)));refine abS (aei hd ?_);obtain⟨x,ex,hq⟩:=h0 (GX he hemp);cases ex;exact abS (afd (abX ⟨dflt,rfl,hq _⟩))
   .rw[if_neg hemp];refine abS (GY hu iE hm hsz (λAa=>?_) λp e hp Ab h' dd hs=>?_)
    .refine abS (aei hd ?_);obtain⟨x,ex,hq⟩:=h0 Aa;cases ex;exact abS (afd (abX ⟨dflt,rfl,hq _⟩))
    .exact abS (ae8 (abX ⟨e.val,rfl,by rw[Ab];exact h1 p hp h' _ dd hs⟩))
 exact call_meetsIn ahK hm.typeIs PySem.F.entry_dict_pop ha g ⟨hu,iE,hm,h1,h0⟩
end
def g9(h:aek)(d:ab6)(es:Array afL)(ep:Nat):Prop:=∃ o,h.get? d=some o/\o.ExactDict/\o.data = .dict es ep
theorem g9.at(x:g9 h d es ep)(e:∀ o,h.get? d=some o->h'.get? d=some o):g9 h' d es ep:=let ⟨o,ho,r⟩:=x;⟨o,e o ho,r⟩
theorem g9.lt(x:g9 h d es ep):d<h.objs.size:=let ⟨_,ho,_⟩:=x;abZ ho
theorem g9.ty{s:ab9}{d:ab6}{es:Array afL}{ep:Nat}(x:g9 s.heap d es ep):s.TypeIs (.ref d) "dict" := let ⟨o,ho,hc,_⟩:=x;⟨o,ho,hc.1⟩
section
variable{prog:acK}{w:ado}{A:adz}{E:ab1->ab9->Prop}{s:ab9}{d it:ab6}{es:Array afL}{i ep:Nat}
theorem G0(lo:(d == adD)=false)(x:g9 s.heap d es ep)(q:Q (.ref s.heap.objs.size) { s with heap:=s.heap.push { cls:=.type "dict_keyiterator",data:=.fields #[.ref d,.int 0 0,.int es.size 0,.int ep 0] } }):ack (model prog w) A (aj9 (.ref d)) Q E s:=by have T:=x.ty;obtain⟨o,ho,hc,hq⟩:=x;refine agV T aht (adj aht T PySem.F.entry_dict_iter ?_ (PySem.F.args_dict_iter_1 _));unfold adY.«dict.__iter__»;refine abS ?_;unfold Builtin.Dict.dictSlotNone;refine abS (ahJ T ?_);refine abX (a:=acy d) ?_;show ack _ A.in1 (Builtin.Dict.showsAll d >>= _) _ _ s;unfold Builtin.Dict.showsAll;rw[if_neg (by rw[lo];exact acq)];refine abS (abX (abS (adU ho hq (abS (ahL ho hq ?_)))));refine abS (adb (abX ⟨_,rfl,"dict_keyiterator",_,⟨_,ab8 _ rfl,rfl⟩,PySem.F.slot_dict_keyiterator_next.lookup,?_⟩));simpa [afq] using q
theorem G2(hit:s.heap.IsKeyIter it d i es.size ep)(x:g9 s.heap d es ep)(hi:i<es.size)(q:∀ h',h'.IsKeyIter it d (i+1) es.size ep->Heap.SameBut it s.heap h'->Q (some es[i].key) { s with heap:=h' }):ack (model prog w) A (aeX (.ref it)) Q E s:=by
 obtain⟨o,ho,hc,hd⟩:=id hit;obtain⟨od,hod,gA,hdd⟩:=x;have T:=hit.typeIs;refine abS (afl (adn (name:=adq "__next__") T adw (adj adw T ae9 ?_ (ae0 _))));refine abS (abX (abS (abS ?_)))
 first|refine abS (adN T (abX (abS (ae1 ho hd ?_))))|refine abS (aeo T (abX (abS (ae1 ho hd ?_))))
 have ow:Builtin.Dict_items.ownsTuple "dict_keyiterator" = false:=by decide
 simp only[ow,acu,if_false];show ack _ A.in1 (if (acy d == Value.none)=true then _ else _) _ _ s;refine abS (abX (abS (adU hod hdd ?_)));rw[if_neg (by simp)];refine abS (abX (abS (ahL hod hdd ?_)));rw[if_neg (by simp)];refine abX ?_;simp only[show ¬ (i:Int)<0 by lia,if_false,acS,acG hi];refine abS ?_
 first|refine abS (adN T (abX (abS (afO T ?_))))|refine abS (aeo T (abX (abS (afO T ?_))))
 show ack _ A.in1 (ajd (.ref it) 1 (afq ((i:Int)+1)) >>= _) _ _ s;refine abS (afF ho hd (by simp) ?_);have lH:(s.heap.update it (aeQ (·.setIfInBounds 1 (afq ((i:Int)+1))))).IsKeyIter it d (i+1) es.size ep:=⟨_,acI _ ho (Obj.isFreed_of_fields (aiw hd _)),(Obj.cls_mapFields ..).trans hc,by rw[aiw hd];simp[afq]⟩
 refine abS (adk (abS (afO (s:={ s with heap:=s.heap.update it (aeQ (·.setIfInBounds 1 (afq ((i:Int)+1)))) }) lH.typeIs ?_)));exact abX (abX ⟨_,rfl,abX (q _ lH (ac8 ..))⟩)
theorem G3(hh:A.handled=none)(hit:s.heap.IsKeyIter it d es.size es.size ep)(x:g9 s.heap d es ep)(q:∀ h',ajx it s.heap h'->Q none { s with heap:=h' }):ack (model prog w) A (aeX (.ref it)) Q E s:=by
 obtain⟨o,ho,hc,hd⟩:=id hit;obtain⟨od,hod,gA,hdd⟩:=x;have T:=hit.typeIs;refine abS (afl (adn (name:=adq "__next__") T adw (adj adw T ae9 ?_ (ae0 _))));refine abS (abX (abS (abS ?_)))
 first|refine abS (adN T (abX (abS (ae1 ho hd ?_))))|refine abS (aeo T (abX (abS (ae1 ho hd ?_))))
 have ow:Builtin.Dict_items.ownsTuple "dict_keyiterator" = false:=by decide
 simp only[ow,acu,if_false];show ack _ A.in1 (if (acy d == Value.none)=true then _ else _) _ _ s;refine abS (abX (abS (adU hod hdd ?_)));rw[if_neg (by simp)];refine abS (abX (abS (ahL hod hdd ?_)));rw[if_neg (by simp)];refine abX ?_;simp only[show ¬ (es.size:Int)<0 by lia,if_false,acS,aeD (ab4 es.size)];refine abS ?_
 first|refine abS (adN T (abX ?_))|refine abS (aeo T (abX ?_))
 show ack _ A.in1 (ajd (.ref it) 0 .none >>= _) _ _ s;refine abS (afF ho hd (by simp) ?_);show ack _ A.in1 (newExc (.type "StopIteration") [] >>= _) _ _ _;refine abS ?_;simp only[newExc,ajZ];refine abS (adb ?_ (by size_fits));refine abS (m:=agA _ _) (ag8 (a:=Value.none) (by first|rfl|(simp only[agA];rfl)) ?_);refine adb ?_ (by size_fits);simp only[raiseNew];refine abS (wpAny_handled ?_);rw[show A.in1.handled=none from hh];refine abS (abX (wpAny_throw ?_));refine abS (ae4 (T := "StopIteration") (b:=true) ⟨_,ab8 _ rfl,rfl⟩ ah4 ?_);exact abX (q _ (((ac8 ..).extBut.push _).push _))
theorem Rm(hh:A.handled=none)(I d:ab6)(bS:d≠I)(es:Array afL)(ep:Nat) :
 Walks prog w A I [I,d] [I] es.size (λi v=>∃ e,es[i]?=some e/\v=e.key) (λi h=>h.IsKeyIter I d i es.size ep/\g9 h d es ep) where
 sub:=λb hb=>by simp at hb;simp[hb]
 frame:=λy y y st hk=>⟨st.1.at λo e=>hk I (by simp) o e,st.2.at λo e=>hk d (by simp) o e⟩
 item:=λi s Q E hi st hQ=>by refine G2 st.1 st.2 hi λh' lH qk=>?_;exact hQ _ h' s.toks ⟨es[i],acG hi,rfl⟩ ⟨lH,st.2.at λo e=>qk.extBut d o bS e⟩ λb o hb e=>qk.extBut b o (λh=>hb (by simp[h])) e
 done:=λs Q E st hQ=>G3 hh st.1 st.2 λh' ql=>hQ h' s.toks λb o hb e=>ql b o (λh=>hb (by simp[h])) e
 self:=λy y y y st hQ=>ahY st.1 hQ
theorem G4(lo:(d == adD)=false):ah5 prog w "dict" d d es.size (λi v=>∃ e,es[i]?=some e/\v=e.key) (λh=>g9 h d es ep) where
 type:=λy x=>x.ty
 there:=λy x=>⟨x.lt,x.lt⟩
 keep:=λy y x hk=>x.at λo e=>hk d (.inl rfl) o e
 notList:=by decide
 notTuple:=by decide
 hint:=λy y y y x hq=>PySem.W.kdl_hint_dict x.ty hq
 iter:=λy y hh x=>⟨_,_,(λy y hq=>G0 lo x hq),Rm hh _ d (acf x.lt) es ep,⟨⟨_,ab8 _ rfl,rfl,rfl⟩,x.at λo e=>abY _ e⟩⟩
end
section
def n6(h:aek)(vs:List ab1)(kis:List (List Int))(i:Nat):Prop:=∃ (p:ab6) (o:Obj) (aw:List ab1) (m:Nat),vs[i]?=some (.ref p)/\h.get? p=some o/\o.cls = .type "tuple" /\ o.data = .seq aw.toArray m/\aeI aw (kis.getD i [])/\aw≠[]
theorem n6.keep(x:n6 h vs kis i)(k:∀ b o,h.get? b=some o->(∀ n xs,o≠aeF "list" xs n)->h'.get? b=some o):n6 h' vs kis i:=by obtain⟨p,o,aw,m,h1,h2,h3,r⟩:=x;exact⟨p,o,aw,m,h1,k p o h2 (λn xs z=>by rw[z] at h3;exact absurd (Value.type.inj h3) (by decide)),h3,r⟩
theorem Rn(h:aeI aw ns)(hn:aw≠[]):∃ i t,aw[0]?=some (.int i t):=by
 cases h with
 | nil=>exact absurd rfl hn
 | cons=>exact⟨_,_,rfl⟩
theorem G5:∀ (vs:List ab1) (kis:List (List Int)),kis.length=vs.length->(∀ i,i<vs.length->n6 h vs kis i)->∃ fs,PySem.W.KatTups h vs fs/\fs.length=vs.length/\∀ v∈fs,∃ i t,v = .int i t
 | [],_,_,_=>⟨[],PySem.W.KatTups.nil,rfl,λv z=>by simp at z⟩
 | v::vs,[],e,_=>by simp at e
 | v::vs,k::kis,e,hh=>by
  obtain⟨p,o,aw,m,h1,h2,h3,h4,h5,h6⟩:=hh 0 (by simp);have qe:v = .ref p:=by simpa using h1
  subst qe;obtain⟨i,t,hf⟩:=Rn h5 h6;obtain⟨fs,a1,a2,a3⟩:=G5 vs kis (by simpa using e) λi hi=>by obtain⟨p,o,aw,m,h1,r⟩:=hh (i+1) (by simpa using hi);exact⟨p,o,aw,m,by simpa using h1,by simpa using r⟩
  refine⟨.int i t::fs,PySem.W.KatTups.cons h2 h3 h4 (by simpa using hf) a1,by simp[a2],λv hv=>?_⟩;rcases acd.mp hv with z|z
  .exact⟨i,t,z⟩
  .exact a3 v z
def wC(prog:acK)(w:ado)(h:aek)(vs:List ab1)(kis:List (List Int)):Prop :=
 2<=vs.length->∃ κ,∀ (A:adz) (E:ab1->ab9->Prop) (s:ab9),s.heap=h->(∀ Q:SortKind->ab9->Prop,Q κ s->ack (model prog w) A (keyKind' vs.toArray) Q E s) /\
  ∀ i j,i<vs.length->j<vs.length->∀ C:Bool->ab9->Prop,C (dh kis i j) s->ack (model prog w) A (keyLt' κ (vs.getD i Value.none) (vs.getD j Value.none)) C E s
theorem Ro(ho:s.heap.get? a=some (aeF "list" vs.toArray n))(hl:kis.length=vs.length)(fP:vs.length<64)(hk:∀ g:aek,(∀ b o,(∀ n xs,o≠aeF "list" xs n)->s.heap.get? b=some o->g.get? b=some o)->wC prog w g vs kis)(fin:∀ h',(∀ b o,b≠a->s.heap.get? b=some o->h'.get? b=some o)->(∃ c,h'.get? a=some (aeF "list" (aec ((cZ (dh kis) vs.length).toList.map λi=>vs.getD i Value.none)) c))->P (.done (.ret .none)) { s with heap:=h' }) :
 ack (model prog w) A (adY.«list.sort» ⟨[.ref a],[]⟩) P E s:=by
 rw[list_sort_plain];refine abS (listItems_at ho rfl (abS (aix ho rfl ?_ (by rw[acb,ae6];walk_at "o") (acr _))));obtain⟨e1,oa⟩:∃ e1,(s.heap.update a (adl λv=>(#[]:Array ab1))).get? a=some (aeF "list" #[] e1):=⟨_,ajy ho λv=>#[]⟩
 have keep:∀ b o,b≠a->s.heap.get? b=some o->(s.heap.update a (adl λv=>(#[]:Array ab1))).get? b=some o:=λb o z e=>(acn _ _ (acY z)).trans e;refine abS (ajz oa rfl ?_);generalize s.heap.update a (adl λv=>(#[]:Array ab1))=g at oa keep ⊢;refine abS (wpAny_newTuple ?_ (by show vs.length<=_;rw[ae6];walk_at "o"));refine abS (wpAny_newList ?_ (acr _));refine adk ?_;show ack (model prog w) A _ P E { s with heap:=(g.push (aeF "tuple" vs.toArray 0)).push (aeF "list" #[] 0) };have qm:((g.push (aeF "tuple" vs.toArray 0)).push (aeF "list" #[] 0)).get? a=some (aeF "list" #[] e1):=abY _ (abY _ oa);have Ac:∀ b o,b≠a->s.heap.get? b=some o->((g.push (aeF "tuple" vs.toArray 0)).push (aeF "list" #[] 0)).get? b=some o:=λb o z e=>abY _ (abY _ (keep b o z e));generalize (g.push (aeF "tuple" vs.toArray 0)).push (aeF "list" #[] 0)=g2 at qm Ac ⊢;dsimp only;have neT:∀ b o,s.heap.get? b=some o->(∀ n xs,o≠aeF "list" xs n)->b≠a:=λb o e z y=>by rw[y,ho] at e;cases e;exact z _ _ rfl
 have sY:((cZ (dh kis) vs.length).toList.map λi=>vs.getD i Value.none).length=vs.length:=by rw[abT,(qd (n:=vs.length) (n0 kis)).1.length_eq,ab5]
 have sz:(aec ((cZ (dh kis) vs.length).toList.map λi=>vs.getD i Value.none)).size<=aco+1:=by rw[acb,sY,ae6];walk_at "o"
 have done:P (.done (.ret .none)) { s with heap:=g2.update a (adl λv=>aec ((cZ (dh kis) vs.length).toList.map λi=>vs.getD i Value.none)) } :=
  fin _ (λb o z e=>(acn _ _ (acY z)).trans (Ac b o z e)) ⟨_,ajy qm λv=>_⟩
 by_cases h2:vs.toArray.size<2
 .rw[if_pos h2,if_pos h2];refine abS (abX ?_);refine abS (abX ?_);dsimp only;have self:(ab2 vs.length).map (λi=>vs.getD i Value.none)=vs:=by
   apply ahl
   .simp
   .intro i h1 h2;simp[abV,h2]
  have e0:(arrOf (SortSt.mk' general' (vs.toArray.zip vs.toArray) #[] 7 none)).map (·.2)=aec ((cZ (dh kis) vs.length).toList.map λi=>vs.getD i Value.none):=by unfold cZ;rw[if_pos (by simpa using h2)];apply Array.toList_inj.mp;rw[show (ab2 vs.length).toArray.toList=ab2 vs.length from rfl,self];show ((vs.toArray.zip vs.toArray).map (·.2)).toList=_;simp[List.map_snd_zip]
  rw[e0];refine abS (ajz qm rfl (abS (aix qm rfl ?_ (acr _) sz)));simp only[bne_self_eq_false,acu,if_false];exact abX done
 .rw[if_neg h2,if_neg h2];have sR:2<=vs.length:=by rw[acb] at h2;walk_at "o"
  obtain⟨κ,hκ⟩:=hk g2 (λb o z e=>Ac b o (neT b o e z) e) sR;refine abS ((hκ A E { s with heap:=g2 } rfl).1 _ ?_);have ask:(PySem.W.kas_sort vs.length).kasWp (PySem.W.kas_ask prog w A κ vs) (λp s'=>s' = { s with heap:=g2 }/\p=cZ (dh kis) vs.length) { s with heap:=g2 }:=by
   have pv:=Gx _ (Gv (n:=vs.length) (n0 kis) (by walk_at "o"));refine Gm (lt:=dh kis) (n:=vs.length) (Ok:=λs'=>s' = { s with heap:=g2 }) (λi j C s' hi hj e q=>?_) (λp s' e q=>⟨e,?_⟩) _ _ rfl pv
   .subst e;exact (hκ _ _ _ rfl).2 i j hi hj C (q _ rfl)
   .rw[q];unfold cZ;rw[if_neg (by walk_at "o")]
  refine abS (ada (PySem.W.kat_run (κ:=κ) (ks:=vs) (vs:=vs) (Q:=λst s'=>s' = { s with heap:=g2 }/\arrOf st=(cZ (dh kis) vs.length).map (PySem.W.kas_item (vs.toArray.zip vs.toArray))/\failedOf st=none)
   rfl sR fP (λp st s' b1 b2 b3 b4=>⟨b4.1,by rw[b2,b4.2],b3⟩) ask) ?_ λv v z=>z)
  rintro ⟨⟨⟩,st⟩ s' ⟨rfl,har,hf⟩;rw[PySem.W.kat_snds rfl har];refine abS (ajz qm rfl (abS (aix qm rfl ?_ (acr _) sz)));rw[hf];simp only[bne_self_eq_false,acu,if_false];exact abX done
theorem G6(hl:kis.length=vs.length)(fP:vs.length<64)(hk:∀ g:aek,(∀ b o,(∀ n xs,o≠aeF "list" xs n)->s.heap.get? b=some o->g.get? b=some o)->wC prog w g vs kis)(sZ:∀ (A':adz) (Q':List ab1->ab9->Prop) (E':ab1->ab9->Prop),A'.handled=A.handled->(∀ h' tk,(∀ b o,s.heap.get? b=some o->h'.get? b=some o)->s.heap.objs.size<=h'.objs.size->Q' vs { s with heap:=h',toks:=tk })->ack (model prog w) A' (collect (.ref r)) Q' E' s)(q:∀ l h' tk,s.heap.objs.size<=l->(∀ b o,s.heap.get? b=some o->h'.get? b=some o)->(∃ c,h'.get? l=some (aeF "list" (aec ((cZ (dh kis) vs.length).toList.map λi=>vs.getD i Value.none)) c))->Q (.ref l) { s with heap:=h',toks:=tk }) :
 ack (model prog w) A (call (.builtin "sorted") [.ref r]) Q E s:=by
 refine agB kind_sorted plain_sorted entry_sorted (args_sorted1 _) ?_;unfold adY.«sorted»;refine abS (m:=checkCount "sorted" 1 1 _) (abX (abS (sZ _ _ _ rfl λh1 tk keep hsz=>?_)));refine abS (wpAny_newList ?_ (by rw[ae6];walk_at "o"));have oL:(h1.push (aeF "list" vs.toArray 0)).get? h1.objs.size=some (aeF "list" vs.toArray 0):=ab8 _ rfl;have tf:∀ b o,s.heap.get? b=some o->b≠h1.objs.size/\(h1.push (aeF "list" vs.toArray 0)).get? b=some o:=λb o e=>by have:=abZ e;exact⟨by walk_at "o",abY _ (keep b o e)⟩
 show ack _ A.in1 (holding [.ref h1.objs.size] (call (.builtin "list.sort") [.ref h1.objs.size]) >>= _) _ _ { s with heap:=h1.push (aeF "list" vs.toArray 0),toks:=tk };generalize h1.push (aeF "list" vs.toArray 0)=h2 at oL tf ⊢;generalize h1.objs.size=l at oL tf hsz ⊢;refine abS (adk (adj slot_list_sort ⟨_,oL,rfl⟩ entry_list_sort ?body (args_list_sort _)))
 case body =>
  refine Ro (s:={ s with heap:=h2,toks:=tk }) oL hl fP (λg z=>hk g λb o n e=>z b o n (tf b o e).2) λh' k c=>⟨_,rfl,abX ⟨_,rfl,q l h' tk hsz (λb o e=>k b o (tf b o e).1 (tf b o e).2) c⟩⟩
theorem Rp(hl:kis.length=vs.length)(hk:∀ i,i<vs.length->n6 h vs kis i):wC prog w h vs kis:=λh2=>by
 obtain⟨fs,ht,lf,hi⟩:=G5 vs kis hl hk;refine⟨tuples' true,λA E s e=>?_⟩;subst e;refine⟨λQ q=>PySem.W.kat_kind (T:=.type "int") ht (by walk_at "o") (λv hv=>?_) (by decide) q,λi j hi hj C q=>?_⟩
 .obtain⟨i,t,rfl⟩:=hi v hv;exact PySem.W.Looks.now
 .obtain⟨p1,o1,i1,m1,a1,b1,y,c1,d1,y⟩:=hk i hi;obtain⟨p2,o2,i2,m2,a2,b2,y,c2,d2,y⟩:=hk j hj;rw[abV,abV,a1,a2];have z1:=d1.length;have z2:=d2.length;exact PySem.W.kat_lt b1 c1 b2 c2 (by simpa using QM (b:=true) (i:=0) d1 d2 (by simp[z1,z2]) q)
theorem Rq(hl:kis.length=vs.length)(fP:vs.length<64)(hk:∀ i,i<vs.length->n6 s.heap vs kis i)(sZ:∀ (A':adz) (Q':List ab1->ab9->Prop) (E':ab1->ab9->Prop),A'.handled=A.handled->(∀ h' tk,(∀ b o,s.heap.get? b=some o->h'.get? b=some o)->s.heap.objs.size<=h'.objs.size->Q' vs { s with heap:=h',toks:=tk })->ack (model prog w) A' (collect (.ref r)) Q' E' s)(q:∀ l h' tk,s.heap.objs.size<=l->(∀ b o,s.heap.get? b=some o->h'.get? b=some o)->(∃ c,h'.get? l=some (aeF "list" (aec ((cZ (dh kis) vs.length).toList.map λi=>vs.getD i Value.none)) c))->Q (.ref l) { s with heap:=h',toks:=tk }) :
 ack (model prog w) A (call (.builtin "sorted") [.ref r]) Q E s :=
 G6 hl fP (λg z=>Rp hl λi hi=>(hk i hi).keep λb o e n=>z b o n e) sZ q
theorem G7(K:ah5 prog w T r d n P OK)(hh:A.handled=none)(az:OK s.heap)(hn:n<=aco)(q:∀ h' tk acc,(∀ b o,s.heap.get? b=some o->h'.get? b=some o)->s.heap.objs.size<=h'.objs.size->ItemsOf P acc n->Q acc.toList { s with heap:=h',toks:=tk }):ack (model prog w) A (collect (.ref r)) Q E s:=by
 have lt:=K.there _ az;unfold collect;refine abS (wpAny_runValue (ac4 entry_proto_collect' ?_));rw[acO PySem.F.plain_proto_collect _];show ack _ A.in1 (aks [] >>= λl=>again (.builtin "list.__iadd__" ⟨[l,.ref r],[]⟩)) _ _ s;refine abS (adb (abX ⟨Code.quiet_builtin _ (by decide +kernel),ac4 entry_list_iadd' ?_⟩));rw[acO PySem.F.plain_list_iadd _];have oS:(s.heap.push { cls:=.type "list",data:=.seq ([]:List ab1).toArray }).get? s.heap.objs.size=some { cls:=.type "list",data:=.seq #[] 0 }:=ab8 _ rfl;show ack _ A.in1 (ad1 (.ref s.heap.objs.size) (.ref r) (.ref s.heap.objs.size)) _ _ { s with heap:=s.heap.push { cls:=.type "list",data:=.seq ([]:List ab1).toArray } };refine PySem.W.kdl_extend (R:=λr s'=>match r with
  | .ok (.ret v)=>ack (model prog w) A (match v with|.ref a=>(do match (<- load a).data with|.seq xs _=>pure xs.toList|_=>unsupported "internal:collect")|_=>unsupported "internal:collect") Q E s'
  | .ok _=>False
  | .error e=>E e s') (s:={ s with heap:=s.heap.push { cls:=.type "list",data:=.seq ([]:List ab1).toArray } }) K hh (K.keep _ _ az λb y o e=>abY _ e) s.heap.objs.size (ac6 lt.1) (ac6 lt.2) (.ref s.heap.objs.size) 0 oS (λh' tk acc c hk hS hJ=>?_) hn
 show ack _ A (load s.heap.objs.size >>= _) _ _ _;refine abS (wpAny_load hS (abX ?_));exact q h' tk acc (λb o e=>hk b o (acf (abZ e)) (abY _ e)) (afG (abZ hS)) hJ
end
def jc(H:Hp)(xs:List V)(kvs:List (List Key × V)):Prop:=ax (λx (kv:List Key × V)=>∃ a,x = .ref a/\H a=some (.tup (kv.1.map kV))) xs kvs
theorem KT.G8(r:KT H kvs xs):jc H ((xs.map (·.2.1)).map V.ref) kvs:=by
 induction r with
 | nil=>exact trivial
 | cons h t ih=>exact⟨⟨_,rfl,h.2.1⟩,ih⟩
theorem jc.G9{K:abU}{H:Hp}:∀ {ys:List V} {kvs:List (List Key × V)} {kis:List (List Int)},jc H ys kvs->kvs.map (·.1)=kis.map (λk=>k.map ag2)->(∀ k∈kis,k≠[])->ja K H ys kis
 | [],[],[],_,_,_=>trivial
 | [],[],_::_,_,e,_=>by simp at e
 | _::_,kv::kvs,[],_,e,_=>by simp at e
 | y::ys,kv::kvs,k::kis,h,e,hn=>by rw[acs,acs] at e;injection e with e1 e2;obtain⟨⟨a,rfl,ha⟩,t⟩:=h;refine⟨⟨a,rfl,?_,hn k (.head _)⟩,jc.G9 t e2 λk hk=>hn k (.tail _ hk)⟩;rw[e1,ac1] at ha;exact .inl (.inl ha)
 | [],_::_,_,h,_,_=>h.elim
 | _::_,[],_,h,_,_=>h.elim
theorem Ad:∀ (as:List ab6),Vals (as.map V.ref) (as.map acy)
 | []=>.nil
 | _::as=>.cons rfl (Ad as)
section
theorem Ha(I:Inv X pins σ H s)(e:H p=some (.dT kvs)):∃ (as:List ab6) (es:Array afL) (ep:Nat),jc H (as.map V.ref) kvs/\(p == adD)=false/\g9 s.heap p es ep/\es.size=as.length/\(∀ acc:Array ab1,ItemsOf (λi v=>∃ e,es[i]?=some e/\v=e.key) acc es.size->acc.toList=as.map acy)/\as.length<=aco:=by
 obtain⟨z,hd,xs,rel,o,es,ep,ho,hc,hdt,he,his,hn⟩:=wA I.az e;have hl:xs.length=kvs.length:=(Paired.length rel).symm;have hs:es.size=xs.length:=aeK he;refine⟨xs.map (·.2.1),es,ep,KT.G8 rel,hd,⟨o,ho,hc,hdt⟩,by rw[abT];exact hs,λacc ha=>?_,by rw[abT,hl];exact z⟩;refine aeR λi=>?_;rw[aca,aca];have la:acc.toList.length=es.size:=by rw[aes];exact ha.1
 by_cases hi:i<es.size
 .obtain⟨v,hv⟩:∃ v,acc.toList[i]?=some v:=⟨_,abW (by lia)⟩
  obtain⟨en,h1,h2⟩:=ha.2 i v (by rw[<- afP];exact hv);rw[entry_at he i] at h1;cases hx:xs[i]? with
  | none=>rw[hx] at h1;cases h1
  | some y=>rw[hx] at h1;cases h1;rw[hv,h2];rfl
 .rw[ac0 (by lia),ac0 (by lia)];rfl
theorem Hb(hc:X.calm=true):eU X (.type "list") (λxs H Q=>∃ p kvs,xs=[.ref p]/\H p=some (.dT kvs)/\∀ l ys,H l=none->jc H ys kvs->Q (.ref l) (upd H l (.lst ys))):=by intro pins s σ H xs us Q I r h;obtain⟨p,kvs,rfl,e,q⟩:=h;obtain⟨u,rfl,rx⟩:=vals1 r;cases rx;obtain⟨as,es,ep,hk,lo,ra,hs,hJ,hz⟩:=Ha I e;refine PySem.W.kdl_call (G4 lo) (I.ok.hd hc) ra (by rw[hs];exact hz) λh' tk acc c keep hD ha=>?_;have ea:=hJ acc ha;exact⟨.ref s.heap.objs.size,_,I.laid (t':=tk) keep (ab4 _) (show bM X.prog X.w _ h' _ (.lst (as.map V.ref)) from ⟨by rw[abT];exact hz,as.map acy,c,Ad as,by rw[<- ea,ahZ];exact hD⟩),rfl,q _ _ (I.az.fresh (ab4 _)) hk⟩
theorem Rr(I:Inv X pins σ H s)(h:ja X.K H ks kis)(r:Vals ks us):∀ i,i<us.length->n6 s.heap us kis i:=λi hi=>by
 have hk:i<ks.length:=by rw[r.length];exact hi
 have Rt:i<kis.length:=by rw[<- h.len];exact hk
 obtain⟨p,ep,hp⟩:=h.get (abW hk);obtain⟨u,eu,ru⟩:=r.get (abW hk);rw[ep] at ru;cases ru;obtain⟨aw,rv,⟨o,ho,hc,m,hd⟩,y⟩:=I.tuple hp;refine⟨p,o,aw,m,eu,ho,hc,hd,intsAre_of rv,λz=>?_⟩;have nn:kis.getD i []≠[]:=by
  have all:∀ {ks:List V} {ns:List (List Int)},ja X.K H ks ns->∀ n∈ns,n≠[]:=by
   intro ks
   induction ks with
   | nil=>intro ns h n hn;cases ns with
    | nil=>simp at hn
    | cons _ _=>exact h.elim
   | cons k ks ih=>intro ns h n hn;cases ns with
    | nil=>exact h.elim
    | cons m ns =>
     obtain⟨⟨y,y,y,bS⟩,t⟩:=h;rcases acd.mp hn with z|z
     .rw[z];exact bS
     .exact ih t n z
  rw[abV,abW Rt];exact all h _ (ahk _)
 have:=rv.length;rw[abT,z] at this;exact nn (adQ.mp this)
theorem Hc(I:Inv X pins σ H s)(r:Vals ks us)(hz:ks.length<=aco)(hl:s.heap.objs.size<=l)(keep:∀ b o,s.heap.get? b=some o->h'.get? b=some o)(hD:∃ c,h'.get? l=some (aeF "list" (aec ((cZ (dh kis) us.length).toList.map λi=>us.getD i Value.none)) c))(q:∀ l,H l=none->Q (.ref l) (upd H l (.lst (eM kis .non ks)))):EP X pins σ Q (.ref l) { s with heap:=h',toks:=tk }:=by obtain⟨c,hD⟩:=hD;have sv:=QN (kis:=kis) r;rw[r.length] at sv;exact⟨.ref l,_,I.laid (t':=tk) keep hl (show bM X.prog X.w _ h' _ (.lst (eM kis .non ks)) from ⟨by rw[GC];exact hz,_,c,sv,hD⟩),rfl,q l (I.az.fresh hl)⟩
theorem Ru(hc:X.calm=true):eU X (.builtin "sorted") (λxs H Q=>∃ (p:ab6) (kvs:List (List Key × V)) (kis:List (List Int)),xs=[.ref p]/\H p=some (.dT kvs)/\kvs.map (·.1)=kis.map (λk=>k.map ag2)/\(∀ k∈kis,k≠[])/\kvs.length<64 /\
 ∀ l ys,H l=none->jc H ys kvs->Q (.ref l) (upd H l (.lst (eM kis .non ys)))):=by
 intro pins s σ H xs us Q I r h;obtain⟨p,kvs,kis,rfl,e,ek,bS,fP,q⟩:=h;obtain⟨u,rfl,rx⟩:=vals1 r;cases rx;obtain⟨as,es,ep,hk,lo,ra,hs,hJ,hz⟩:=Ha I e;have la:as.length=kvs.length:=by have:=hk.len;rwa [abT] at this
 have lk:kis.length=kvs.length:=by have:=congrArg List.length ek;simpa using this.symm
 have hK:ja X.K H (as.map V.ref) kis:=hk.G9 ek bS;have rv:=Ad as;refine Rq (kis:=kis) (vs:=as.map acy) (by rw[abT];lia) (by rw[abT];lia) (Rr I hK rv) (λA' Q' E' hA hq=>G7 (G4 lo) (hA.trans (I.ok.hd hc)) ra (by rw[hs];exact hz) λh' tk acc k1 k2 ha=>?_) λl h' tk h1 h2 h3=>Hc I rv (by rw[abT];exact hz) h1 h2 h3 λl hl=>q l _ hl hk;rw[hJ acc ha];exact hq h' tk k1 k2
end
theorem Rv(z:kvs.length<=aco)(lo:(a == adD)=false)(rel:KT H' kvs xs)(dd:h'.DictOfH (agH (fH P w)) a xs):bM P w H' h' a (.dT kvs):=by obtain⟨o,es,ep,h1,h2,h3,h4,y,h5⟩:=dd;exact⟨z,lo,xs,rel,o,es,ep,h1,h2,h3,h4,h5⟩
section
theorem Rw(e:H p=some (.dT kvs))(r:KT H tj xs):KT (upd H p ob) tj xs :=
 KT.keeps r λb ys z=>by rw[aF (λy=>by rw[y,e] at z;cases z)];exact z
theorem Rx(hu:A.units+1<af0)(I:Inv X pins σ H s)(e:H p=some (.dT kvs))(eb:H b=some (.tup (k.map kV)))(hm:more=[] ∨ ∃ x,more=[x])(h1:∀ v,di kvs k=some v->∀ w' s',Inv X pins σ (upd H p (.dT (iI kvs k))) s'->RelV v w'->Q w' s')(h0:di kvs k=none->∃ x,more=[x]/\∀ s',Inv X pins σ H s'->Q x s') :
 ack (model X.prog X.w) A (call (.builtin "dict.pop") (.ref p :: .ref b::more)) Q E s:=by
 obtain⟨z,lo,xs,rel,dd⟩:=wA I.az e;have hl:xs.length=kvs.length:=(Paired.length rel).symm;refine Rl (aed hu) (sW I.az eb) lo dd (by rw[hl];exact z) hm (λy hy h' tk n5 hs=>?_) λhn=>?_
 .have rv:=rel.val k;rw[hy] at rv;cases hv:di kvs k with
  | none=>rw[hv] at rv;exact (show False from rv).elim
  | some v =>
   rw[hv] at rv;have he:∃ q,h'.get? p=some q:=let ⟨q,_,_,hq,_⟩:=n5;⟨q,hq⟩;exact h1 v hv _ _ (zY (t':=tk) I (by rw[e];exact aem) hs he (Rv (ab3 (Q6 kvs k) z) lo (Rw e (KT.out rel k)) n5)) rv
 .have rv:=rel.val k;rw[hn] at rv;cases hv:di kvs k with
  | some v=>rw[hv] at rv;exact (show False from rv).elim
  | none =>
   obtain⟨x,ex,q⟩:=h0 hv;exact⟨x,ex,λtk=>q _ (I.tok tk)⟩
end
def Hd(td ty:TE):TE:=λσ H Q=>td σ H λx H1=>∃ a,x = .ref a/\GS H1 a/\ty σ H1 λy H2=>∃ b kvs k v,y = .ref b/\H2 a=some (.dT kvs)/\H2 b=some (.tup (k.map kV))/\di kvs k=some v/\Q v (upd H2 a (.dT (iI kvs k)))
section
theorem Ae(hu:X.A.units+1<af0)(ho:PE X o td)(he:PE X e ty)(m:M1 X o "pop" apos e dt):PE X (.Call (.Attribute o "pop" apos) [e] [] dt) (Hd td ty):=by
 intro pins s σ H Q I h;refine wpAny_Call_method m.base m.few m.line PySem.F.plainAttrs_dict ahK PySem.F.type_dict_pop (aE (ho pins s σ H _ I h) λu s1 zq=>?_);obtain⟨x,H1,I1,rx,a,ex,d,q1⟩:=zq;subst ex;obtain rfl:u=acy a:=rx;obtain⟨t1,t2,z⟩:=Rh I1 d;refine⟨t1,t2,?_⟩;rw[m.trees];refine ahr rfl (afZ (adI (aE (he pins s1 σ H1 _ I1 q1) λiv s2 ⟨y,H2,I2,ry,b,kvs,k,v,ey,ea,eb,l,q2⟩=>adT ?_)));subst ey;obtain rfl:iv=acy b:=ry;exact Rx hu I2 ea eb (.inl rfl) (λv' l' w' s3 I3 jI=>⟨v',_,I3,jI,by rw[l] at l';cases l';exact q2⟩) λl'=>by rw[l] at l';cases l'
theorem He:eU X (.builtin "len") (λxs H Q=>∃ p kvs,xs=[.ref p]/\H p=some (.dT kvs)/\Q (.int kvs.length) H):=by
 intro pins s σ H xs us Q I r h;obtain⟨p,kvs,rfl,e,q⟩:=h;obtain⟨u,rfl,rx⟩:=vals1 r;cases rx;obtain⟨z,lo,xs,rel,o,es,ep,ho,hc,hdt,he,his,hn⟩:=wA I.az e;have hs:es.size=kvs.length:=(aeK he).trans (Paired.length rel).symm;have T:s.TypeIs (.ref p) "dict" := ⟨o,ho,hc.1⟩;have g:MeetsIn X.prog X.w (adY.«dict.__len__» ⟨[.ref p],[]⟩) (λy R s=>s.heap.get? p=some o/\R (.ok (.ret (.int kvs.length s.toks))) { s with toks:=s.toks+1 }):=.of_wp λA R s ⟨ho,h⟩=>by show ack _ _ (dictSize p >>= _) _ _ s;refine abS (abS (adU ho hdt (abX ?_)));show ack _ _ (Builtin.Dict.pendingCount p >>= _) _ _ s;refine abS (wpAny_pendingCount_other lo (wpAny_ret_mkInt ?_));rw[Nat.add_zero,hs];exact h
 refine agB kind_len plain_len entry_len (args_len1 _) ?_;refine abS (m:=oneArg "len" _) (abX (abS (m:=callSpecial? (.ref p) (adq "__len__")) (adn (name:=adq "__len__") T ahM (call_meetsIn ahM T PySem.F.entry_dict_len (PySem.F.args_dict_len_1 _) g ⟨ho,?_⟩))));refine abS (adk (abX (abS (ae8 ?_))));rw[ae6] at z;show ack _ _ (if ((kvs.length:Nat):Int) ≥ 2 ^ 63 then _ else _) _ _ _;rw[if_neg (by lia)];exact abS (wpAny_mkInt (abX ⟨_,rfl,.int kvs.length,H,I.tok _,⟨_,rfl⟩,q⟩))
end
section
variable{prog:acK}{w:ado}{K:Type}[DecidableEq K]{knd:KeyKind prog w K}{A:adz}{E:ab1->ab9->Prop}{s:ab9}{o d:ab6}{es:Array afL}{ep:Nat}
end
section
end
theorem aU{c:Prop}[Decidable c]{a b:Prop}(h:c->a)(h':¬ c->b):if c then a else b:=by
 by_cases z:c
 .rw[if_pos z];exact h z
 .rw[if_neg z];exact h' z
theorem GP(h:aek)(hb:adD<h.objs.size):bM P w H (h.push { cls:=.type "dict",data:=.dict #[] }) h.objs.size (.dK []) :=
 ⟨acr _,beq_eq_false_iff_ne.mpr (acY (acf hb)),[],.nil,Heap.DictOf.new h⟩
section
theorem Inv.Ry(I:Inv X pins σ H s):adD<s.heap.objs.size:=by have h:ady<s.heap.objs.size:=(I.mod.glob.keeps I.bk).lt;exact akg (by decide) h
def Hg:TE:=λy H Q=>∀ p,H p=none->Q (.ref p) (upd H p (.dT []))
theorem Af:PE X (.Dict [] [] pos) Hg:=λpins s σ H Q I h=>wpAny_Dict_empty
 ⟨.ref s.heap.objs.size,_,I.laid (a:=s.heap.objs.size) (o:=.dT []) (t':=s.toks) (λy y z=>abY _ z) (ab4 _)
  ⟨acr _,beq_eq_false_iff_ne.mpr (acY (acf (Inv.Ry I))),[],.nil,_,#[],0,ab8 _ rfl,⟨rfl,rfl,rfl⟩,rfl,rfl,agC⟩,rfl,h _ (I.az.fresh (ab4 _))⟩
theorem wD(h:∃ t,X.mg x=some (.int n t))(hg:Gl X x)(hd:(x == ("__debug__" : Str))=false:=by decide):PE X (.Name x pos) (tC (.int n)):=by obtain⟨t,ht⟩:=h;exact pE (v:=.int n) hg ht ⟨t,rfl⟩ hd
end
section
end
noncomputable def pS(ks:List P2)(r:Int)(i:Nat):Bool:=decide ((aL ks i).1<=r) && decide (r<=(aL ks (i+1)).1)
theorem Hh(hu:A.units+1<af0)(ho:PE X o td)(hi:PE X i ty)(hs:zZ i)(eA:X.A=A:=by rfl):PE X (.Subscript o i pos) (z6 td ty):=by subst eA;exact qj hu ho hi hs
abbrev Tb:=List (P2 × S2)
noncomputable def spot(i j:Int):List Key:=[.inl i,.inl j]
theorem wF{a b:P2}(h:spot a.1 a.2=spot b.1 b.2):a=b:=by unfold spot at h;injection h with h1 h2;injection h2 with h2 _;exact Prod.ext (Sum.inl.inj h1) (Sum.inl.inj h2)
noncomputable def cQ(tb:Tb)(s:P2):Option S2:=(tb.find? λr=>decide (r.1=s)).map (·.2)
noncomputable def e9(tb:Tb)(s:P2)(w:S2):Tb:=if (tb.any λr=>decide (r.1=s))=true then tb.map (λr=>if r.1=s then (r.1,w) else r) else tb++[(s,w)]
noncomputable def jU(tb:Tb)(s:P2):Tb:=tb.filter λr=>decide (r.1≠s)
def bh(H:Hp):List (List Key × V)->Tb->Prop
 | [],[]=>True
 | kv::kvs,r::tb=>(kv.1=spot r.1.1 r.1.2/\aO H kv.2 r.2.1 r.2.2)/\bh H kvs tb
 | _,_=>False
section
theorem bh.len:∀ {kvs:List (List Key × V)} {tb:Tb},bh H kvs tb->kvs.length=tb.length
 | [],[],_=>rfl
 | _::kvs,_::tb,h=>congrArg (· + 1) (bh.len (kvs:=kvs) (tb:=tb) h.2)
 | [],_::_,h=>h.elim
 | _::_,[],h=>h.elim
theorem bh.imp(f:∀ v a b,aO H v a b->aO H' v a b):∀ {kvs:List (List Key × V)} {tb:Tb},bh H kvs tb->bh H' kvs tb
 | [],[],_=>trivial
 | _::kvs,_::tb,h=>⟨⟨h.1.1,f _ _ _ h.1.2⟩,bh.imp f (kvs:=kvs) (tb:=tb) h.2⟩
 | [],_::_,h=>h.elim
 | _::_,[],h=>h.elim
theorem bh.app:∀ {kvs tj:List (List Key × V)} {tb eL:Tb},bh H kvs tb->bh H tj eL->bh H (kvs++tj) (tb++eL)
 | [],_,[],_,_,h=>h
 | _::kvs,tj,_::tb,eL,h,h'=>⟨h.1,bh.app (kvs:=kvs) (tb:=tb) h.2 h'⟩
 | [],_,_::_,_,h,_=>h.elim
 | _::_,_,[],_,h,_=>h.elim
theorem bh.keys:∀ {kvs:List (List Key × V)} {tb:Tb},bh H kvs tb->kvs.map (·.1)=tb.map λr=>spot r.1.1 r.1.2
 | [],[],_=>rfl
 | kv::kvs,r::tb,h=>by rw[acs,acs,h.1.1,bh.keys (kvs:=kvs) (tb:=tb) h.2]
 | [],_::_,h=>h.elim
 | _::_,[],h=>h.elim
theorem bh.any(s:P2):∀ {kvs:List (List Key × V)} {tb:Tb},bh H kvs tb->(kvs.any λkv=>decide (kv.1=spot s.1 s.2))=tb.any λr=>decide (r.1=s)
 | [],[],_=>rfl
 | kv::kvs,r::tb,h=>by
  rw[adm,adm,bh.any s (kvs:=kvs) (tb:=tb) h.2,h.1.1]
  congr 1
  by_cases e:r.1=s
  .rw[e,decide_eq_true rfl,decide_eq_true rfl]
  .rw[decide_eq_false e,decide_eq_false λz=>e (wF z)]
 | [],_::_,h=>h.elim
 | _::_,[],h=>h.elim
theorem bh.val(s:P2):∀ {kvs:List (List Key × V)} {tb:Tb},bh H kvs tb->(cQ tb s=none->di kvs (spot s.1 s.2)=none)/\∀ w,cQ tb s=some w->∃ v,di kvs (spot s.1 s.2)=some v/\aO H v w.1 w.2
 | [],[],_=>⟨λy=>rfl,λw h=>by cases h⟩
 | kv::kvs,r::tb,h=>by
  have ih:=bh.val s (kvs:=kvs) (tb:=tb) h.2;by_cases e:r.1=s
  .have e1:cQ (r::tb) s=some r.2:=by simp[cQ,adB,e]
   rw[e1,wx (h.1.1.trans (by rw[e]))];exact⟨λz=>(by cases z),λw z=>(by cases z;exact⟨_,rfl,h.1.2⟩)⟩
  .have e1:cQ (r::tb) s=cQ tb s:=by simp[cQ,adB,e]
   rw[e1,wy (λz=>e (wF (h.1.1.symm.trans z)))];exact ih
 | [],_::_,h=>h.elim
 | _::_,[],h=>h.elim
theorem bh.qi(hv:aO H v w.1 w.2):∀ {kvs:List (List Key × V)} {tb:Tb},bh H kvs tb->bh H (kvs.map λkv=>if kv.1=spot s.1 s.2 then (kv.1,v) else kv) (tb.map λr=>if r.1=s then (r.1,w) else r)
 | [],[],_=>trivial
 | kv::kvs,r::tb,h=>by
  rw[acs,acs];refine⟨?_,bh.qi hv (kvs:=kvs) (tb:=tb) h.2⟩;by_cases e:r.1=s
  .rw[if_pos e,if_pos (h.1.1.trans (by rw[e]))];exact⟨h.1.1,hv⟩
  .rw[if_neg e,if_neg (λz=>e (wF (h.1.1.symm.trans z)))];exact h.1
 | [],_::_,h=>h.elim
 | _::_,[],h=>h.elim
theorem bh.put(h:bh H kvs tb)(hv:aO H v w.1 w.2):bh H (putK kvs (spot s.1 s.2) v) (e9 tb s w):=by
 unfold putK e9;rw[h.any s];split
 .exact h.qi hv
 .exact h.app ⟨⟨rfl,hv⟩,trivial⟩
theorem bh.drop:∀ {kvs:List (List Key × V)} {tb:Tb},bh H kvs tb->bh H (iI kvs (spot s.1 s.2)) (jU tb s)
 | [],[],_=>trivial
 | kv::kvs,r::tb,h=>by
  have ih:=bh.drop (s:=s) (kvs:=kvs) (tb:=tb) h.2;unfold iI jU at *;rw[acF,acF];by_cases e:r.1=s
  .have e2:kv.1=spot s.1 s.2:=h.1.1.trans (by rw[e]);rw[if_neg (by simp[e2]),if_neg (by simp[e])];exact ih
  .have e2:¬ kv.1=spot s.1 s.2:=λz=>e (wF (h.1.1.symm.trans z));rw[if_pos (by simp[e2]),if_pos (by simp[e])];exact⟨h.1,ih⟩
 | [],_::_,h=>h.elim
 | _::_,[],h=>h.elim
theorem bh.qq:∀ {ys:List V} {kvs:List (List Key × V)} {tb:Tb},bh H kvs tb->jc H ys kvs->bR H ys (tb.map (·.1))
 | [],[],[],_,_=>trivial
 | y::ys,kv::kvs,r::tb,h,⟨⟨a,e,ha⟩,t⟩=>⟨⟨a,e,by rw[h.1.1] at ha;exact ha⟩,bh.qq (ys:=ys) (kvs:=kvs) (tb:=tb) h.2 t⟩
 | [],_::_,_,_,h=>h.elim
 | _::_,[],_,_,h=>h.elim
 | _,[],_::_,h,_=>h.elim
 | _,_::_,[],h,_=>h.elim
end
def TabAt(H:Hp)(p:ab6)(tb:Tb):Prop:=∃ kvs,H p=some (.dT kvs)/\bh H kvs tb
def Fr(H H':Hp):Prop:=∀ b o,(∀ kvs,o≠HO.dT kvs)->H b=some o->H' b=some o
def lJ(ps:List ab6)(H H':Hp):Prop:=∀ b o,b∉ps->H b=some o->H' b=some o
def Ag(H:Hp)(ps:List ab6):Prop:=∀ p∈ps,∃ kvs,H p=some (.dT kvs)
section
theorem Fr.trans(a:Fr H H')(b:Fr H' H2):Fr H H2:=λc o h e=>b c o h (a c o h e)
theorem _root_.L2.ah.fr(s:ah H H'):Fr H H':=λb o y e=>s b o e
theorem SameBut.but(a:SameBut p H H')(h:p∈ps):lJ ps H H':=λc o z e=>a c o (λy=>z (y ▸ h)) e
theorem lJ.fr(a:lJ ps H H')(d:Ag H ps):Fr H H':=λb o ho e=>by
 by_cases hb:b∈ps
 .obtain⟨kvs,hk⟩:=d b hb;rw[hk] at e;exact absurd (Option.some.inj e).symm (ho kvs)
 .exact a b o hb e
theorem qr(h:H p=some (.dT kvs)):Fr H (upd H p o):=λb u hu e=>by rw[aF (λz=>by rw[z,h] at e;exact hu _ (Option.some.inj e).symm)];exact e
theorem Hi(h:H p=some (.dT kvs)):Ag H [p]:=λb hb=>⟨kvs,(acx.mp hb) ▸ h⟩
theorem SameBut.fr(a:SameBut p H H')(h:H p=some (.dT kvs)):Fr H H':=lJ.fr (SameBut.but a (.head _)) (Hi h)
theorem aO.fr(h:aO H v a b)(f:Fr H H'):aO H' v a b:=let ⟨p,e,hp⟩:=h;⟨p,e,f _ _ (λy z=>nomatch z) hp⟩
theorem TabAt.fr(h:TabAt H p tb)(f:Fr H H')(e:∀ kvs,H p=some (.dT kvs)->H' p=some (.dT kvs)):TabAt H' p tb:=let ⟨kvs,a,b⟩:=h;⟨kvs,e _ a,b.imp λy y y z=>z.fr f⟩
theorem TabAt.same(h:TabAt H p tb)(s:ah H H'):TabAt H' p tb:=h.fr s.fr λy e=>s _ _ e
theorem Rz{K:abU}{a:ab6}{xs:List V}(h:ai K H a xs)(f:Fr H H'):ai K H' a xs:=by
 rcases h with (h|⟨o,h⟩)|h
 .exact .inl (.inl (f _ _ (λy z=>nomatch z) h))
 .exact .inl (.inr ⟨o,f _ _ (λy z=>nomatch z) h⟩)
 .exact .inr h
end
theorem jd(hn:(tb.map (·.1)).Nodup)(h:r∈tb):cQ tb r.1=some r.2:=by
 induction tb with
 | nil=>cases h
 | cons x l ih =>
  rw[acs,ac9] at hn;rcases acd.mp h with z|z
  .rw[<- z];simp[cQ,adB]
  .have e:¬ x.1=r.1:=λy=>hn.1 (y ▸ ab7.mpr ⟨r,z,rfl⟩);have:cQ (x::l) r.1=cQ l r.1:=by simp[cQ,adB,e]
   rw[this,ih hn.2 z]
def n9(e t:Int)(s:P2):Prop:=(0<=s.1/\s.1<e)/\0<=s.2/\s.2<t
instance (e t:Int) (s:P2):Decidable (n9 e t s):=by unfold n9;infer_instance
def bK(e t:Int)(tb:Tb):Prop:=(tb.map (·.1)).Nodup/\∀ r∈tb,n9 e t r.1
theorem Hj(tb:Tb)(s:P2)(w:S2):(e9 tb s w).length<=tb.length+1:=by unfold e9;split<;>simp
theorem bK.put(h:bK e t tb)(hs:n9 e t s):bK e t (e9 tb s w):=by
 unfold e9;split
 .refine⟨?_,λr hr=>?_⟩
  .have:(tb.map λr=>if r.1=s then (r.1,w) else r).map (·.1)=tb.map (·.1):=by rw[ac1];refine ad2 λr _=>?_;show (if r.1=s then (r.1,w) else r).1=r.1;split<;>rfl
   rw[this];exact h.1
  .obtain⟨x,hx,rfl⟩:=ab7.mp hr;have:=h.2 x hx;split<;>exact this
 .rename_i z;refine⟨?_,λr hr=>?_⟩
  .rw[adA];refine GU h.1 λy=>z ?_;obtain⟨x,hx,e⟩:=ab7.mp y;rw[acM];exact⟨x,hx,by simpa using e⟩
  .rcases acw.mp hr with y|y
   .exact h.2 r y
   .rw[acx.mp y];exact hs
theorem bK.drop(h:bK e t tb):bK e t (jU tb s) :=
 ⟨h.1.sublist ((agf).map _),λr hr=>h.2 r (acv.mp hr).1⟩
theorem bK.nil:bK e t []:=⟨agC,λr h=>by cases h⟩
noncomputable def kL(tb:Tb):List (List Int):=tb.map λr=>[r.1.1,r.1.2]
noncomputable def kM(tb:Tb):Tb:=eM (kL tb) ((0,0),(none,none)) tb
theorem tq(h:r∈kM tb):r∈tb:=qf.mem_iff.mp h
theorem mS:(kM tb).length=tb.length:=GC
theorem ax.sort(h:ax R xs as):ax R (eM kis .non xs) (eM kis d as):=by
 have hl:=h.len;have hp:=(qd (n:=xs.length) (n0 kis)).1;unfold eM;rw[<- hl];have gen:∀ l:List Nat,(∀ i∈l,i<xs.length)->ax R (l.map λi=>xs.getD i .non) (l.map λi=>as.getD i d):=by
  intro l
  induction l with
  | nil=>intro y;exact trivial
  | cons i l ih =>
   intro q;have hi:=q i (.head _);obtain⟨s,es,hs⟩:=h.get (abW hi);refine⟨?_,ih λj hj=>q j (.tail _ hj)⟩;show R (xs.getD i .non) (as.getD i d);rw[abV,abV,es,abW hi];exact hs
 exact gen _ λi hi=>by simpa using hp.mem_iff.mp hi
theorem ax.bind:∀ {xs:List V} {bs:List β},ax R xs (bs.map f)->ax (λx b=>R x (f b)) xs bs
 | [],[],_=>trivial
 | _::_,_::_,h=>⟨h.1,ax.bind h.2⟩
 | [],_::_,h=>h.elim
 | _::_,[],h=>h.elim
theorem ax.Hk:∀ {xs:List V} {bs:List β},ax (λx b=>R x (f b)) xs bs->ax R xs (bs.map f)
 | [],[],_=>trivial
 | _::_,_::_,h=>⟨h.1,ax.Hk h.2⟩
 | [],_::_,h=>h.elim
 | _::_,[],h=>h.elim
theorem RA(h:bh H kvs tb):kvs.map (·.1)=(kL tb).map λk=>k.map ag2:=by rw[h.keys];unfold kL;rw[ac1];rfl
theorem RB:∀ k∈kL tb,k≠[]:=λk hk=>by
 obtain⟨r,y,rfl⟩:=ab7.mp hk;exact λz=>nomatch z
theorem RC(h:bh H kvs tb)(hk:jc H ys kvs):ax (λx (r:P2 × S2)=>cV H x r.1) (eM (kL tb) .non ys) (kM tb):=ax.sort (ax.bind (h.qq hk))
def jV(H:Hp)(v:V)(r:P2 × S2):Prop:=∃ a w,v = .ref a/\H a=some (.tup [.int r.1.1,.int r.1.2,w])/\aO H w r.2.1 r.2.2
theorem jV.same(h:jV H v r)(s:ah H H'):jV H' v r:=let ⟨a,w,e,ha,hw⟩:=h;⟨a,w,e,s _ _ ha,hw.same s⟩
theorem RD(h:ba a b=true):ba (dN a c) (eN b d)=true:=by rcases a with v|x<;>rcases b with v|y<;>rcases c with v|z<;>rcases d with v|w<;>simp[ba,dN,eN] at h ⊢<;>lia
noncomputable def bj(e:S2)(ss:List S2):S2:=ss.foldl (λe s=>(dN e.1 s.1,eN e.2 s.2)) e
theorem wG(e s:S2)(ss:List S2):bj e (s::ss)=bj (dN e.1 s.1,eN e.2 s.2) ss:=rfl
theorem Hl:∀ (ss:List S2) {e:S2},ba e.1 e.2=true->ba (bj e ss).1 (bj e ss).2=true
 | [],_,h=>h
 | s::ss,e,h=>by rw[wG];exact Hl ss (RD h)
theorem RE(h:ba (bj e (ss.take i)).1 (bj e (ss.take i)).2=true):ba (bj e ss).1 (bj e ss).2=true:=by
 have:bj e ss=bj (bj e (ss.take i)) (ss.drop i):=by unfold bj;rw[<- afA,aee]
 rw[this];exact Hl _ h
theorem RF{ss:List S2}{e s:S2}{i:Nat}(h:ss[i]?=some s):bj e (ss.take (i+1))=(dN (bj e (ss.take i)).1 s.1,eN (bj e (ss.take i)).2 s.2):=by unfold bj;rw[acR,h,afA];rfl
noncomputable def fQ(e:S2)(ss:List S2):W2:=if ba (bj e ss).1 (bj e ss).2=true then none else some (bj e ss)
theorem kN:∀ {xs:List V} {ss:List S2},lG H xs ss↔ax (λx s=>aO H x s.1 s.2) xs ss
 | [],[]=>Iff.rfl
 | _::_,_::_=>and_congr Iff.rfl kN
 | [],_::_=>Iff.rfl
 | _::_,[]=>Iff.rfl
abbrev Pa:=Str × Int × S2
def je(H:Hp)(v:V)(p:Pa):Prop:=∃ (t q:ab6),v = .ref t/\H t=some (.tup [.str p.1,.int p.2.1,.ref q])/\H q=some (.tup [ev p.2.2.1,ev p.2.2.2])
theorem je.same(h:je H v p)(s:ah H H'):je H' v p:=let ⟨t,q,e,a,b⟩:=h;⟨t,q,e,s _ _ a,s _ _ b⟩
abbrev dw(H:Hp):List V->List Pa->Prop:=ax (je H)
theorem dw.same(h:dw H xs ps)(s:ah H H'):dw H' xs ps:=ax.imp (λy y r=>r.same s) h
theorem je.fr(h:je H v p)(hr:H r=some (.lst ys)):je (upd H r o) v p:=by
 obtain⟨t,q,e,a,b⟩:=h;have h1:t≠r:=λz=>by rw[z,hr] at a;cases a
 have h2:q≠r:=λz=>by rw[z,hr] at b;cases b
 exact⟨t,q,e,by rw[aF h1];exact a,by rw[aF h2];exact b⟩
theorem dw.put(h:dw H xs ps)(hr:H r=some (.lst ys)):dw (upd H r o) xs ps:=ax.imp (λy y x=>x.fr hr) h
noncomputable def kO(k:Str)(t:Int)(p:Pa):Bool:=decide (p.1=k) && decide (p.2.1=t)
noncomputable def sel(ps:List Pa)(k:Str)(t:Int):List S2:=(ps.filter (kO k t)).map (·.2.2)
noncomputable def hasB(n:Int)(k:Str)(t:Int):Bool:=if k = "step" then decide (0<=t/\t<n) && decide (0<=t+1/\t+1<n) else decide (k = "at") && decide (0<=t/\t<n)
def c6(n:Int)(ps:List Pa):Prop:=∀ p∈ps,hasB n p.1 p.2.1=true
theorem wH:hasB n "step" t=true↔0<=t/\t+1<n:=by unfold hasB;rw[if_pos rfl];simp only[acT,decide_eq_true_eq];lia
theorem Hm{n t:Int}{k:Str}(h:k ≠ "step"):hasB n k t=true↔k = "at" /\ 0<=t/\t<n:=by unfold hasB;rw[if_neg h];simp only[acT,decide_eq_true_eq]
noncomputable def lK(cs:List Int)(k:Str)(t:Int):Int:=if k = "step" then cs.getD (t+1).toNat 0-cs.getD t.toNat 0 else cs.getD t.toNat 0
noncomputable def aV(cs:List Int)(ps:List Pa):Bool:=ps.all λp=>hold p.2.2.1 p.2.2.2 (lK cs p.1 p.2.1)
theorem int_at{cs:List Int}{t:Int}(h0:0<=t)(h1:t<(cs.length:Int)):de (cs.map V.int) t=some (.int (cs.getD t.toNat 0)):=by
 have e:t=((t.toNat:Nat):Int):=by lia
 refine (congrArg (de _) e).trans (dq ?_);rw[aca,abV,abW (by lia)];rfl
structure Gd(n:Nat)(d:ags):Prop where
 eqv:aeA d d=true
 lay:d.canLay0=true
 dep:d.depth<=n
theorem Gd.of(h:i9 n d=true):Gd n d:=let ⟨a,b,c⟩:=Gi d h;⟨a,b,c⟩
theorem Gd.all:∀ {ds:List ags} {n:Nat},(∀ d∈ds,Gd n d)->af2 ds ds=true/\afz ds=true/\aeJ ds<=n
 | [],n,_=>⟨rfl,rfl,acr _⟩
 | d::ds,n,h=>by obtain⟨a,b,c⟩:=h d (.head _);obtain⟨a',b',c'⟩:=Gd.all (ds:=ds) λx hx=>h x (.tail _ hx);exact⟨by simp only[af2,a,a',aha],by simp only[afz,b,b',aha],by simp only[aeJ];lia⟩
theorem Gd.lst(h:∀ d∈ds,Gd n d):Gd (n+1) (.list ds):=by obtain⟨a,b,c⟩:=Gd.all h;exact⟨by simpa only [aeA] using a,by simpa only [ah3] using b,by simp only[PyData.depth];lia⟩
theorem RG{K:abU}{H:Hp}{x y:V}{d:ags}{n:Nat}{neg:Bool}{Q:VK}(hx:Dat K H x d)(hy:Dat K H y d)(g:Gd n d)(hn:n<=60)(q:Q (.bl (!neg)) H):wg K neg x y H Q:=by refine⟨d,d,hx,hy,g.lay,g.lay,ab3 g.dep hn,?_⟩;rw[g.eqv];cases neg<;>exact q
theorem lF.Hn{α:Type}{K:abU}{H:Hp}{R:V->α->Prop}{f:α->ags}(h:∀ v a,R v a->Dat K H v (f a)):∀ {xs:List V} {as:List α},ax R xs as->lF K H xs (as.map f)
 | [],[],_=>.nil
 | _::_,_::_,r=>.cons (h _ _ r.1) (lF.Hn h r.2)
 | [],_::_,r=>r.elim
 | _::_,[],r=>r.elim
theorem qt(bU:Ok H):∀ {xs:List V} {as:List α} {ys:List V},ax R xs as ->
 (∀ x a,R x a->∀ Q,Q (p a) H->tt (some x::ρ) H Q)->(∀ x a,p a=true->R x a->∀ Q:VK,(∀ y,R' y (f a)->Q y H)->te (some x::ρ) H Q)->(∀ zs,ax R' zs ((as.filter p).map f)->Q' (ys++zs) H)->fv Ok ρ tt te xs ys H Q'
 | [],[],ys,_,_,_,q=>⟨bU,by simpa using q [] trivial⟩
 | x::xs,a::as,ys,h,ht,he,q=>by
  refine⟨bU,ht x a h.1 _ ?_⟩;by_cases hb:p a=true
  .rw[if_pos hb];refine he x a hb h.1 _ λy ry=>qt bU h.2 ht he λzs hz=>?_;have:=q (y::zs) (by rw[acF,if_pos hb];exact⟨ry,hz⟩);simpa using this
  .rw[if_neg hb];refine qt bU h.2 ht he λzs hz=>q zs ?_;rw[acF,if_neg hb];exact hz
 | [],_::_,_,h,_,_,_=>h.elim
 | _::_,[],_,h,_,_,_=>h.elim
theorem RH{K:abU}{i j k:Nat}{p:ab6}{x y z:V}{σ:L2.St}{H:Hp}{Q:L2.St->Hp->Prop}(h:aj K H p [x,y,z])(q:Q (((σ.set i (some x)).set j (some y)).set k (some z)) H):ky K 3 (cX (cA i) (cX (cA j) (cX (cA k) jF))) (.ref p) σ H Q :=
 ⟨p,_,rfl,h,rfl,_,_,rfl,_,_,rfl,_,_,rfl,rfl,q⟩
theorem qu(hx:H x=none)(hd:H dx=none)(hn:dx≠x):ah H (upd (upd H dx (.own x)) x (.ins C dx fs)) :=
 (ak hd).trans (ak (by rw[aF (acY hn)];exact hx))
end Gz
namespace Gz
open PySem L2
def bV(s:S2)(x:Int):Prop:=(∀ a,s.1=some a->a<=x)/\∀ b,s.2=some b->x<=b
def dZ(w:W2)(x:Int):Prop:=∃ s,w=some s/\bV s x
theorem Ah:bV s x↔hold s.1 s.2 x=true:=gK.symm
theorem Ai:bV (dN a.1 b.1,eN a.2 b.2) x↔bV a x/\bV b x:=by obtain⟨a1,a2⟩:=a;obtain⟨b1,b2⟩:=b;unfold bV;rcases a1 with y|p<;>rcases a2 with y|q<;>rcases b1 with y|r<;>rcases b2 with y|s<;>simp[dN,eN]<;>(try split)<;>(try split)<;>lia
theorem Ho:∀ {e:S2},bV (bj e ss) x↔bV e x/\∀ s∈ss,bV s x:=by
 induction ss with
 | nil=>intro e;exact⟨λh=>⟨h,λy z=>nomatch z⟩,λh=>h.1⟩
 | cons s ss ih =>
  intro e;rw[wG,ih,Ai];simp only[acd,forall_eq_or_imp,and_assoc]
theorem RI(h:ba s.1 s.2=false):∃ x,bV s x:=by
 obtain⟨a,b⟩:=s;rcases a with y|a<;>rcases b with y|b
 .exact⟨0,λy z=>(nomatch z),λy z=>(nomatch z)⟩
 .exact⟨b,λy z=>(nomatch z),λy z=>by cases z;exact ade _⟩
 .exact⟨a,λy z=>by cases z;exact ade _,λy z=>(nomatch z)⟩
 .refine⟨a,λy z=>by cases z;exact ade _,λy z=>?_⟩;cases z;simp[ba] at h;exact h
theorem Hq(h:bV s x):ba s.1 s.2=false:=by
 obtain⟨a,b⟩:=s;rcases a with y|a<;>rcases b with y|b
 .rfl
 .rfl
 .rfl
 .have h1:=h.1 a rfl;have h2:=h.2 b rfl;simp[ba];lia
noncomputable def jf(a b:S2):W2:=if ba (dN a.1 b.1) (eN a.2 b.2)=true then none else some (dN a.1 b.1,eN a.2 b.2)
theorem qv:dZ (jf a b) x↔bV a x/\bV b x:=by
 unfold jf;constructor
 .rintro ⟨s,e,h⟩;split at e
  .cases e
  .cases e;exact Ai.mp h
 .intro h;have h:=Ai.mpr h;rw[if_neg (by rw[Hq h];simp)];exact⟨_,rfl,h⟩
theorem Hr(h:jf a b=some s):ba s.1 s.2=false:=by
 unfold jf at h;split at h
 .cases h
 .rename_i hc;cases h;simpa using hc
theorem wI:dZ (fQ (none,none) ss) x ↔ ∀ s∈ss,bV s x:=by
 have e0:bV (none,none) x:=⟨λy z=>(nomatch z),λy z=>(nomatch z)⟩
 unfold fQ;constructor
 .rintro ⟨s,e,h⟩;split at e
  .cases e
  .cases e;exact (Ho.mp h).2
 .intro h;have h:=Ho.mpr ⟨e0,h⟩;rw[if_neg (by rw[Hq h];simp)];exact⟨_,rfl,h⟩
noncomputable def fR(s:S2)(p:P2):S2:=(s.1.map (· + p.1),s.2.map (· + p.2))
theorem Aj(h:bV s x)(h1:p.1<=y-x)(h2:y-x<=p.2):bV (fR s p) y:=by
 obtain⟨a,b⟩:=s;refine⟨λz e=>?_,λz e=>?_⟩
 .obtain⟨a,ea,rfl⟩:=acC.mp (show a.map (· + p.1)=some z from e);have:=h.1 a ea;lia
 .obtain⟨b,eb,rfl⟩:=acC.mp (show b.map (· + p.2)=some z from e);have:=h.2 b eb;lia
theorem RJ(hs:ba s.1 s.2=false)(hp:p.1<=p.2)(h:bV (fR s p) y):∃ x,bV s x/\p.1<=y-x/\y-x<=p.2:=by
 obtain⟨a,b⟩:=s;rcases a with v|a<;>rcases b with v|b
 .exact⟨y-p.1,⟨λv z=>(nomatch z),λv z=>(nomatch z)⟩,by lia,by lia⟩
 .have h2:=h.2 (b+p.2) rfl;exact⟨y-p.2,⟨λv z=>(nomatch z),λv z=>by cases z;lia⟩,by lia,by lia⟩
 .have h1:=h.1 (a+p.1) rfl;exact⟨y-p.1,⟨λv z=>by cases z;lia,λv z=>(nomatch z)⟩,by lia,by lia⟩
 .have h1:=h.1 (a+p.1) rfl;have h2:=h.2 (b+p.2) rfl;simp[ba] at hs;by_cases hc:a<=y-p.2
  .exact⟨y-p.2,⟨λv z=>by cases z;lia,λv z=>by cases z;lia⟩,by lia,by lia⟩
  .exact⟨a,⟨λv z=>by cases z;lia,λv z=>by cases z;lia⟩,by lia,by lia⟩
noncomputable def bw(bx:Nat->W2)(st:Nat->P2):Nat->W2
 | 0=>bx 0
 | t+1=>match bx (t+1),bw bx st t with
  | some b,some k=>jf b (fR k (st t))
  | _,_=>none
def tx(w:W2):Prop:=∀ s,w=some s->ba s.1 s.2=false
theorem wJ(h0:tx (bx 0)):∀ t,tx (bw bx st t)
 | 0=>h0
 | t+1=>λs e=>by
  unfold bw at e;split at e
  .exact Hr e
  .cases e
theorem Hs(h:bw bx st (t+1)=some s):∃ b k,bx (t+1)=some b/\bw bx st t=some k/\jf b (fR k (st t))=some s:=by
 unfold bw at h;split at h
 .rename_i b k e1 e2;exact⟨b,k,e1,e2,h⟩
 .cases h
theorem Ht{bx:Nat->W2}{st:Nat->P2}{c:Nat->Int}{n:Nat}(hb:∀ t,t<=n->dZ (bx t) (c t))(hs:∀ t,t<n->(st t).1<=c (t+1)-c t/\c (t+1)-c t<=(st t).2):∀ t,t<=n->dZ (bw bx st t) (c t)
 | 0,h=>hb 0 h
 | t+1,h=>by obtain⟨k,ek,hk⟩:=Ht hb hs t (by lia);obtain⟨b,eb,Ak⟩:=hb (t+1) h;obtain⟨h1,h2⟩:=hs t (by lia);unfold bw;rw[eb,ek];exact qv.mpr ⟨Ak,Aj hk h1 h2⟩
theorem Al:∀ {t:Nat},dZ (bw bx st t) x->dZ (bx t) x
 | 0,h=>h
 | t+1,⟨s,e,h⟩=>by obtain⟨b,k,e1,y,e3⟩:=Hs e;exact⟨b,e1,(qv.mp ⟨s,e3,h⟩).1⟩
theorem Hu(h0:tx (bx 0))(hp:(st t).1<=(st t).2)(h:dZ (bw bx st (t+1)) y):∃ x,dZ (bw bx st t) x/\(st t).1<=y-x/\y-x<=(st t).2:=by obtain⟨s,e,h⟩:=h;obtain⟨b,k,z,e2,e3⟩:=Hs e;obtain⟨x,hx,h1,h2⟩:=RJ (wJ h0 t k e2) hp (qv.mp ⟨s,e3,h⟩).2;exact⟨x,⟨k,e2,hx⟩,h1,h2⟩
noncomputable def jg(n:Nat)(st:Nat->P2)(t:Nat):P2:=(-(st (n-1-t)).2,-(st (n-1-t)).1)
noncomputable def hU(n:Nat)(bx:Nat->W2)(st:Nat->P2)(t:Nat):W2:=bw (λk=>bw bx st (n-k)) (jg n st) (n-t)
structure wK(n:Nat)(bx:Nat->W2)(st:Nat->P2):Prop where
 ok:∀ t,t<=n->∃ s,hU n bx st t=some s/\ba s.1 s.2=false
 sub:∀ t x,t<=n->dZ (hU n bx st t) x->dZ (bx t) x
 next:∀ t x,t<n->dZ (hU n bx st t) x->∃ y,dZ (hU n bx st (t+1)) y/\(st t).1<=y-x/\y-x<=(st t).2
theorem RK(h0:tx (bx 0))(hp:∀ t,t<n->(st t).1<=(st t).2)(hf:∀ t,t<=n->bw bx st t≠none):wK n bx st:=by
 have Am:=wJ (st:=st) h0;have RL:∀ k,k<=n->∃ s,bw (λk=>bw bx st (n-k)) (jg n st) k=some s:=by
  intro k
  induction k with
  | zero =>
   intro v;obtain⟨s,e⟩:=aeU.mp (hf n (ab4 _));exact⟨s,e⟩
  | succ k ih =>
   intro hk;obtain⟨s,e⟩:=ih (by lia);obtain⟨y,hy⟩:=RI (wJ (bx:=λk=>bw bx st (n-k)) (Am n) k s e);have tD:dZ (bw bx st (n-k)) y:=Al (bx:=λk=>bw bx st (n-k)) ⟨s,e,hy⟩;rw[show n-k=n-(k+1)+1 by lia] at tD;obtain⟨x,⟨f,ef,hx⟩,h1,h2⟩:=Hu h0 (hp _ (by lia)) tD;have em:n-1-k=n-(k+1):=by lia
   have hm:bV (fR s (jg n st k)) x:=Aj hy (by unfold jg;rw[em];dsimp only;lia) (by unfold jg;rw[em];dsimp only;lia);obtain⟨z,ez,v⟩:=qv.mpr ⟨hx,hm⟩;refine⟨z,?_⟩;unfold bw;rw[e];show (match bw bx st (n-(k+1)),some s with
    | some b,some RM=>jf b (fR RM (jg n st k))
    | _,_=>none)=some z
   rw[ef];exact ez
 refine⟨λt ht=>?_,λt x ht h=>?_,λt x ht h=>?_⟩
 .obtain⟨s,e⟩:=RL (n-t) (by lia);exact⟨s,e,wJ (bx:=λk=>bw bx st (n-k)) (Am n) _ s e⟩
 .have:=Al (bx:=λk=>bw bx st (n-k)) h;rw[show n-(n-t)=t by lia] at this;exact Al this
 .unfold hU at h;rw[show n-t=n-(t+1)+1 by lia] at h;have hb:(jg n st (n-(t+1))).1<=(jg n st (n-(t+1))).2:=by unfold jg;have:=hp (n-1-(n-(t+1))) (by lia);lia
  obtain⟨y,hy,h1,h2⟩:=Hu (bx:=λk=>bw bx st (n-k)) (Am n) hb h;have em:n-1-(n-(t+1))=t:=by lia
  unfold jg at h1 h2;exact⟨y,hy,by lia,by lia⟩
def jh(ps:List P2)(c:Nat->Int):Prop:=∀ k,k<ps.length->(aL ps k).1<=c (k+1)-c k/\c (k+1)-c k<=(aL ps k).2
theorem An(h:jh ps c):∀ n,i+n<=ps.length->pre (·.1) ps (i+n)-pre (·.1) ps i<=c (i+n)-c i/\c (i+n)-c i<=pre (·.2) ps (i+n)-pre (·.2) ps i
 | 0,_=>by simp
 | n+1,hn=>by have ih:=An h (i:=i) n (by lia);have hk:=h (i+n) (by lia);rw[show i+(n+1)=(i+n)+1 by lia,gZ _ ps (by lia),gZ _ ps (by lia)];lia
theorem RN(h:jh ps c)(hi:i<=ps.length)(hj:j<=ps.length):c j-c i<=bN ps i j:=by
 unfold bN;split
 .have:=(An h (i:=i) (j-i) (by lia)).2
  rwa [show i+(j-i)=j by lia] at this
 .have:=(An h (i:=j) (i-j) (by lia)).1;rw[show j+(i-j)=i by lia] at this;lia
abbrev Mk:=Nat × S2
def meets(ms:List Mk)(c:Nat->Int):Prop:=∀ m∈ms,bV m.2 (c m.1)
structure lL(ps:List P2)(ms:List Mk)(tp:Nat->Option P2):Prop where
 val:∀ t v k,t<=ps.length->tp t=some (v,k)->∃ (i:Nat) (m:Mk) (h:Int),k=(i:Int)/\ms[i]?=some m/\m.2.2=some h/\h+bN ps m.1 t<=v
 top:∀ m∈ms,∀ h,m.2.2=some h->∃ v k,tp m.1=some (v,k)/\v<=h
 fwd:∀ t v k,t<ps.length->tp t=some (v,k)->∃ v' k',tp (t+1)=some (v',k')/\v'<=v+(aL ps t).2
 bwd:∀ t v k,t<ps.length->tp (t+1)=some (v,k)->∃ v' k',tp t=some (v',k')/\v'<=v-(aL ps t).1
def tE(ms:List Mk)(tp:Nat->Option P2):Prop:=∀ m∈ms,∀ l v k,m.2.1=some l->tp m.1=some (v,k)->l<=v
theorem RO(hp:fw ps)(hm:∀ m∈ms,m.1<=ps.length)(T:lL ps ms tp)(hn:tE ms tp):∃ c,jh ps c/\meets ms c:=by
 by_cases h0:tp 0=none
 .have RP:∀ t,t<=ps.length->tp t=none:=by
   intro t
   induction t with
   | zero=>intro y;exact h0
   | succ t ih =>
    intro ht;cases e:tp (t+1) with
    | none=>rfl
    | some q =>
     obtain⟨v,k⟩:=q;obtain⟨v',k',e',y⟩:=T.bwd t v k (by lia) e;rw[ih (by lia)] at e';cases e'
  have RQ:∀ m∈ms,m.2.2=none:=λm dz=>by
   cases e:m.2.2 with
   | none=>rfl
   | some h =>
    obtain⟨v,k,e',y⟩:=T.top m dz h e;rw[RP m.1 (hm m dz)] at e';cases e'
  have big:∀ (l:List Mk),∃ M:Int,∀ m∈l,∀ a,m.2.1=some a->a<=M+pre (·.1) ps m.1:=by
   intro l
   induction l with
   | nil=>exact⟨0,λy z=>nomatch z⟩
   | cons m l ih =>
    obtain⟨M,hM⟩:=ih;cases e:m.2.1 with
    | none =>
     refine⟨M,λq hq a ha=>?_⟩;rcases acd.mp hq with rfl|hq
     .rw[e] at ha;cases ha
     .exact hM q hq a ha
    | some b =>
     refine⟨if M<=b-pre (·.1) ps m.1 then b-pre (·.1) ps m.1 else M,λq hq a ha=>?_⟩;rcases acd.mp hq with rfl|hq
     .rw[e] at ha;cases ha;split<;>lia
     .have:=hM q hq a ha;split<;>lia
  obtain⟨M,hM⟩:=big ms;refine⟨λt=>M+pre (·.1) ps t,λk hk=>?_,λm dz=>⟨λa ha=>hM m dz a ha,λb hb=>?_⟩⟩
  .have:=hp _ (qb hk);dsimp only;rw[gZ _ ps hk];lia
  .rw[RQ m dz] at hb;cases hb
 .have Hv:∀ t,t<=ps.length->∃ v k,tp t=some (v,k):=by
   intro t
   induction t with
   | zero =>
    intro y;obtain⟨⟨v,k⟩,e⟩:=aeU.mp h0;exact⟨v,k,e⟩
   | succ t ih =>
    intro ht;obtain⟨v,k,e⟩:=ih (by lia);obtain⟨v',k',e',y⟩:=T.fwd t v k (by lia) e;exact⟨v',k',e'⟩
  refine⟨λt=>((tp t).map (·.1)).getD 0,λk hk=>?_,λm dz=>⟨λa ha=>?_,λb hb=>?_⟩⟩
  .obtain⟨v,q,e⟩:=Hv k (by lia);obtain⟨v',q',e',h1⟩:=T.fwd k v q hk e;obtain⟨v2,q2,e2,h2⟩:=T.bwd k v' q' hk e';rw[e] at e2;cases e2;dsimp only;rw[e,e'];simp only[Option.map_some,ae3];lia
  .obtain⟨v,q,e⟩:=Hv m.1 (hm m dz);have:=hn m dz a v q ha e;dsimp only;rw[e];exact this
  .obtain⟨v,q,e,h1⟩:=T.top m dz b hb;dsimp only;rw[e];exact h1
def clash(ps:List P2)(a b:Mk):Prop:=∃ h l,a.2.2=some h/\b.2.1=some l/\h+bN ps a.1 b.1<l
theorem RS(hc:jh ps c)(hm:meets ms c)(ht:∀ m∈ms,m.1<=ps.length)(ha:a∈ms)(hb:b∈ms):¬ clash ps a b:=by rintro ⟨h,l,e1,e2,aZ⟩;have h1:=(hm a ha).2 h e1;have h2:=(hm b hb).1 l e2;have h3:=RN hc (ht a ha) (ht b hb);lia
noncomputable def gi(a b:P2):Bool:=decide (a.1<b.1) || (decide (a.1=b.1) && decide (a.2<b.2))
noncomputable def gj(a b:P2):P2:=if gi b a=true then b else a
noncomputable def kP:Option P2->Option P2->Option P2
 | none,b=>b
 | some a,none=>some a
 | some a,some b=>some (gj a b)
theorem Ao(a b:P2):(gj a b=a∨gj a b=b)/\(gj a b).1<=a.1/\(gj a b).1<=b.1:=by
 unfold gj gi;split
 .rename_i h;simp only[agc,acT,decide_eq_true_eq] at h;exact⟨.inr rfl,by lia,by lia⟩
 .rename_i h;simp only[agc,acT,decide_eq_true_eq,not_or,not_and] at h;exact⟨.inl rfl,by lia,by lia⟩
theorem Hw(a b:Option P2):kP a b=a∨kP a b=b:=by
 rcases a with y|a<;>rcases b with y|b
 .exact .inl rfl
 .exact .inr rfl
 .exact .inl rfl
 .show some (gj a b)=some a∨some (gj a b)=some b;rcases (Ao a b).1 with h|h<;>rw[h]
  .exact .inl rfl
  .exact .inr rfl
def fS(a:Option P2)(v:Int):Prop:=∃ w k,a=some (w,k)/\w<=v
theorem RT(h:fS a v):fS (kP a b) v:=by
 obtain⟨w,k,rfl,hw⟩:=h;rcases b with y|b
 .exact⟨w,k,rfl,hw⟩
 .have:=(Ao (w,k) b).2.1;exact⟨(gj (w,k) b).1,(gj (w,k) b).2,rfl,by dsimp only at this;lia⟩
theorem Ap(h:fS b v):fS (kP a b) v:=by
 obtain⟨w,k,rfl,hw⟩:=h;rcases a with y|a
 .exact⟨w,k,rfl,hw⟩
 .have:=(Ao a (w,k)).2.2;exact⟨(gj a (w,k)).1,(gj a (w,k)).2,rfl,by dsimp only at this;lia⟩
noncomputable def qw(a:Option P2)(RU:Int):Option P2:=a.map λq=>(q.1+RU,q.2)
theorem Hy(h:fS a v):fS (qw a b) (v+b):=by obtain⟨w,k,rfl,hw⟩:=h;exact⟨w+b,k,rfl,by lia⟩
def hV(ps:List P2)(ms:List Mk)(t:Nat)(a:Option P2):Prop:=∀ v k,a=some (v,k)->∃ (i:Nat) (m:Mk) (h:Int),k=(i:Int)/\ms[i]?=some m/\m.2.2=some h/\h+bN ps m.1 t<=v
theorem hV.Aq(ha:hV ps ms t a)(hb:hV ps ms t b):hV ps ms t (kP a b):=by
 rcases Hw a b with h|h<;>rw[h]
 .exact ha
 .exact hb
theorem RV(ps:List P2)(t:Nat):bN ps t t=0:=by unfold bN;rw[if_pos (ab4 _)];lia
theorem RW(h:t<ps.length):bN ps t (t+1)=(aL ps t).2:=by unfold bN;rw[if_pos (af7 _),gZ _ ps h];lia
theorem RX(h:t<ps.length):bN ps (t+1) t = -(aL ps t).1:=by unfold bN;rw[if_neg (by lia),gZ _ ps h];lia
theorem hV.lift(hp:fw ps)(hm:∀ m∈ms,m.1<=ps.length)(ht:t<=ps.length)(hu:u<=ps.length)(hb:bN ps t u=b)(h:hV ps ms t a):hV ps ms u (qw a b):=by intro v k e;obtain⟨⟨w,q⟩,ea,e⟩:=acC.mp e;cases e;obtain⟨i,m,x,e1,e2,e3,hx⟩:=h w q ea;refine⟨i,m,x,e1,e2,e3,?_⟩;have:=Q5 hp (hm m (ace e2)) hu ht;lia
noncomputable def kQ(tp:Nat->Option P2)(i:Nat)(x:Option P2):Nat->Option P2:=λt=>if t=i then x else tp t
theorem og:kQ tp i x i=x:=if_pos rfl
theorem lM(h:t≠i):kQ tp i x t=tp t:=if_neg h
theorem Hz(h:∀ t,t<=ps.length->hV ps ms t (tp t))(hx:hV ps ms i x):∀ t,t<=ps.length->hV ps ms t (kQ tp i x t):=λt ht=>by
 by_cases e:t=i
 .subst e;rw[og];exact hx
 .rw[lM e];exact h t ht
theorem wL(h:fS (tp t) v):fS (kQ tp i (kP (tp i) b) t) v:=by
 by_cases e:t=i
 .subst e;rw[og];exact RT h
 .rw[lM e];exact h
structure T1(ps:List P2)(ms:List Mk)(j:Nat)(tp:Nat->Option P2):Prop where
 val:∀ t,t<=ps.length->hV ps ms t (tp t)
 top:∀ m∈ms.take j,∀ h,m.2.2=some h->fS (tp m.1) h
theorem T1.nil:T1 ps ms 0 λy=>none:=⟨λy y y y e=>(nomatch e),λy h=>by simp at h⟩
theorem T1.skip(T:T1 ps ms j tp)(hm:ms[j]?=some m)(hn:m.2.2=none):T1 ps ms (j+1) tp:=⟨T.val,λq hq h e=>by
 rw[acR,hm] at hq;rcases acw.mp hq with z|z
 .exact T.top q z h e
 .obtain rfl:q=m:=by simpa using z
  rw[hn] at e;cases e⟩
theorem T1.put(T:T1 ps ms j tp)(hm:ms[j]?=some m)(hh:m.2.2=some h):T1 ps ms (j+1) (kQ tp m.1 (kP (tp m.1) (some (h,(j:Int))))):=by
 have hv:hV ps ms m.1 (some (h,(j:Int))):=λv k e=>by cases e;exact⟨j,m,h,rfl,hm,hh,by rw[RV];lia⟩
 refine⟨λt ht=>?_,λq hq x e=>?_⟩
 .by_cases e:t=m.1
  .subst e;rw[og];exact (T.val _ ht).Aq hv
  .rw[lM e];exact T.val t ht
 .rw[acR,hm] at hq;rcases acw.mp hq with z|z
  .exact wL (T.top q z x e)
  .obtain rfl:q=m:=by simpa using z
   rw[hh] at e;cases e;rw[og];exact Ap ⟨h,j,rfl,ade _⟩
structure T2(ps:List P2)(ms:List Mk)(j:Nat)(tp:Nat->Option P2):Prop where
 val:∀ t,t<=ps.length->hV ps ms t (tp t)
 top:∀ m∈ms,∀ h,m.2.2=some h->fS (tp m.1) h
 fwd:∀ t,t<j->∀ v,fS (tp t) v->fS (tp (t+1)) (v+(aL ps t).2)
theorem T1.two(T:T1 ps ms ms.length tp):T2 ps ms 0 tp:=⟨T.val,λm h=>T.top m (by rw[acU];exact h),λy h=>absurd h (adH _)⟩
theorem T2.step(hp:fw ps)(hm:∀ m∈ms,m.1<=ps.length)(hj:j<ps.length)(T:T2 ps ms j tp):T2 ps ms (j+1) (kQ tp (j+1) (kP (tp (j+1)) (qw (tp j) (aL ps j).2))):=by
 refine⟨Hz T.val ((T.val _ (by lia)).Aq ((T.val j (by lia)).lift hp hm (by lia) (by lia) (RW hj))),λm h x e=>wL (T.top m h x e),λt ht v hv=>?_⟩;rw[lM (by lia)] at hv;by_cases e:t=j
 .subst e;rw[og];exact Ap (Hy hv)
 .rw[lM (by lia)];exact T.fwd t (by lia) v hv
structure T3(ps:List P2)(ms:List Mk)(j:Nat)(tp:Nat->Option P2):Prop where
 val:∀ t,t<=ps.length->hV ps ms t (tp t)
 top:∀ m∈ms,∀ h,m.2.2=some h->fS (tp m.1) h
 fwd:∀ t,t<ps.length->∀ v,fS (tp t) v->fS (tp (t+1)) (v+(aL ps t).2)
 bwd:∀ t,j<=t->t<ps.length->∀ v,fS (tp (t+1)) v->fS (tp t) (v-(aL ps t).1)
theorem T2.three(T:T2 ps ms ps.length tp):T3 ps ms ps.length tp:=⟨T.val,T.top,T.fwd,λt h1 h2=>absurd h2 (by lia)⟩
theorem T3.step(hp:fw ps)(hm:∀ m∈ms,m.1<=ps.length)(hj:j<ps.length)(T:T3 ps ms (j+1) tp):T3 ps ms j (kQ tp j (kP (tp j) (qw (tp (j+1)) (-(aL ps j).1)))):=by
 have h1:=hp _ (qb hj);refine⟨Hz T.val ((T.val _ (by lia)).Aq ((T.val (j+1) (by lia)).lift hp hm (by lia) (by lia) (RX hj))),λm h x e=>wL (T.top m h x e),λt ht v hv=>?_,λt h2 h3 v hv=>?_⟩
 .by_cases e:t=j
  .subst e;rw[og] at hv;rw[lM (by lia)];rcases Hw (tp t) (qw (tp (t+1)) (-(aL ps t).1)) with z|z
   .rw[z] at hv;exact T.fwd t ht v hv
   .rw[z] at hv;obtain⟨w,k,e,hw⟩:=hv;obtain⟨⟨w',k'⟩,e1,e2⟩:=acC.mp e;cases e2;exact⟨w',k',e1,by dsimp only at hw;lia⟩
  .rw[lM e] at hv;exact wL (T.fwd t ht v hv)
 .rw[lM (by lia)] at hv;by_cases e:t=j
  .subst e;rw[og];refine Ap ?_;have:=Hy (b:=-(aL ps t).1) hv
   rwa [show v + -(aL ps t).1=v-(aL ps t).1 by lia] at this
  .rw[lM e];exact T.bwd t (by lia) h3 v hv
theorem T3.tops(T:T3 ps ms 0 tp):lL ps ms tp :=
 ⟨λt v k ht e=>T.val t ht v k e,T.top,λt v k ht e=>T.fwd t ht v ⟨v,k,e,ade _⟩,λt v k ht e=>T.bwd t (acr _) ht v ⟨v,k,e,ade _⟩⟩
theorem lL.clash(T:lL ps ms tp)(hb:b.1<=ps.length)(e:tp b.1=some (v,k))(hl:b.2.1=some l)(hv:v<l):∃ (i:Nat) (a:Mk),k=(i:Int)/\ms[i]?=some a/\clash ps a b:=by obtain⟨i,m,h,e1,e2,e3,h4⟩:=T.val _ v k hb e;exact⟨i,m,e1,e2,h,l,e3,hl,by lia⟩
theorem Ar:∀ t,(∀ k,k<=t->bx k=RY k)->(∀ k,k<t->st k=c9 k)->bw bx st t=bw RY c9 t
 | 0,h,_=>h 0 (ab4 _)
 | t+1,h,hs=>by unfold bw;rw[h (t+1) (ab4 _),Ar t (λk hk=>h k (by lia)) (λk hk=>hs k (by lia)),hs t (by lia)]
noncomputable def fT(ws:List W2)(t:Nat):W2:=ws.getD t none
noncomputable def cp(ss:List S2)(t:Nat):S2:=ss.getD t (none,none)
noncomputable def atT(ms:List Mk)(t:Nat):List S2:=(ms.filter λm=>decide (m.1=t)).map (·.2)
noncomputable def cL(ms:List Mk)(t:Nat):W2:=fQ (none,none) (atT ms t)
theorem HC:dZ (cL ms t) x ↔ ∀ m∈ms,m.1=t->bV m.2 x:=by
 unfold cL;rw[wI];unfold atT;constructor
 .intro h m hm e;exact h _ (ab7.mpr ⟨m,acv.mpr ⟨hm,by simpa using e⟩,rfl⟩)
 .intro h s hs;obtain⟨m,hm,rfl⟩:=ab7.mp hs;obtain⟨h1,h2⟩:=acv.mp hm;exact h m h1 (by simpa using h2)
theorem RZ(ms:List Mk)(t:Nat):tx (cL ms t):=λs e=>by
 unfold cL fQ at e;split at e
 .cases e
 .rename_i h;cases e;simpa using h
theorem R0(hc:jh ps c)(hm:meets ms c):∀ t,t<=ps.length->bw (cL ms) (aL ps) t≠none:=λt ht e=>by obtain⟨s,es,y⟩:=Ht (bx:=cL ms) (st:=aL ps) (c:=c) (n:=ps.length) (λt y=>HC.mpr λm dz e=>by rw[<- e];exact hm m dz) (λt ht=>hc t ht) t ht;rw[e] at es;cases es
theorem HD(hp:fw ps)(hf:∀ t,t<=ps.length->bw (cL ms) (aL ps) t≠none):wK ps.length (cL ms) (aL ps):=RK (RZ ms 0) (λt ht=>hp _ (qb ht)) hf
noncomputable def lN(ps:List P2):List P2:=ps.reverse.map λp=>(-p.2,-p.1)
theorem R1(h:t<ps.length):aL (lN ps) t=jg ps.length (aL ps) t:=by unfold lN jg aL;rw[abV,aca,aeb h,abV,abW (by lia)];rfl
theorem back_eq(hl:ss.length=ps.length+1)(h:∀ t,t<ps.length+1->bw (cL ms) (aL ps) t=some (cp ss t))(ht:t<=ps.length):bw (fT (ss.reverse.map some)) (aL (lN ps)) t=hU ps.length (cL ms) (aL ps) (ps.length-t):=by unfold hU;rw[show ps.length-(ps.length-t)=t by lia];refine Ar t (λk hk=>?_) λk hk=>R1 (by lia);rw[h (ps.length-k) (by lia)];unfold fT cp;rw[abV,aca,aeb (by lia),hl,show ps.length+1-1-k=ps.length-k by lia,abV,abW (by lia)];rfl
theorem R4(hl:ss.length=n+1)(ht:t<=n):cp ss.reverse t=cp ss (n-t):=by unfold cp;rw[abV,aeb (by lia),abV,hl,show n+1-1-t=n-t by lia]
theorem R5(T:wK ps.length (cL ms) (aL ps))(ht:t<ps.length)(hx:dZ (hU ps.length (cL ms) (aL ps) t) x)(hs:hU ps.length (cL ms) (aL ps) (t+1)=some s):∃ r,jf s (fR (some x,some x) (aL ps t))=some r/\∀ y,bV r y->dZ (hU ps.length (cL ms) (aL ps) (t+1)) y/\(aL ps t).1<=y-x/\y-x<=(aL ps t).2:=by
 obtain⟨y,⟨s',e',hy⟩,h1,h2⟩:=T.next t x ht hx
 rw[hs] at e';cases e';have xx:bV (some x,some x) x:=⟨λ_ z=>by cases z;exact ade _,λ_ z=>by cases z;exact ade _⟩
 obtain⟨r,er,_⟩:=qv.mpr ⟨hy,Aj xx h1 h2⟩;refine⟨r,er,λz hz=>?_⟩;obtain⟨z1,z2⟩:=qv.mp ⟨r,er,hz⟩;refine⟨⟨s,hs,z1⟩,?_⟩;have a:=z2.1 (x+(aL ps t).1) rfl;have b:=z2.2 (x+(aL ps t).2) rfl;lia
noncomputable def bO(cs:List Int)(t:Nat):Int:=cs.getD t 0
theorem meets_of(T:wK ps.length (cL ms) (aL ps))(hm:∀ m∈ms,m.1<=ps.length)(h:∀ t,t<=ps.length->dZ (hU ps.length (cL ms) (aL ps) t) (c t)):meets ms c:=λm dz=>HC.mp (T.sub _ _ (hm m dz) (h _ (hm m dz))) m dz rfl
noncomputable def eO(ts:List (Option P2))(t:Nat):Option P2:=ts.getD t none
theorem R6(h:i<ts.length):eO (ts.set i x)=kQ (eO ts) i x:=by
 funext t;unfold eO kQ;rw[abV,List.getElem?_set];by_cases e:t=i
 .subst e;rw[if_pos rfl,if_pos rfl,if_pos h];rfl
 .rw[if_neg (λz=>e z.symm),if_neg e];exact (abV ..).symm
theorem R7(n:Nat):eO (aeh n none)=λy=>none:=by funext t;unfold eO;rw[abV,aet];split<;>rfl
end Gz
namespace Gz
open PySem PySem.Spec PyProof.Rows L2
noncomputable def rowOf(H:Hp):V->List V
 | .ref p=>match H p with
  | some (.tup xs)=>xs
  | _=>[]
 | _=>[]
theorem qx(h:H p=some (.tup xs)):rowOf H (.ref p)=xs:=by
 show (match H p with
  | some (.tup xs)=>xs
  | _=>[])=xs
 rw[h]
def oh(row:V->List V)(tt:TT):TT:=λσ H Q=>match σ with
 | some v::ρ=>tt ((row v).map some++ρ) H Q
 | _=>False
def mT(row:V->List V)(te:TE):TE:=λσ H Q=>match σ with
 | some v::ρ=>te ((row v).map some++ρ) H Q
 | _=>False
section
variable{K:abU}{ρ:L2.St}{tt:TT}{te:TE}{H:Hp}{Q:VK}{a:ab6}{xs:List V}{row:V->List V}
def tF(K:abU)(a:ab6)(xs:List V)(row:V->List V)(k:Nat)(H:Hp):Prop:=ai K H a xs/\∀ x∈xs,∃ p,x = .ref p/\aj K H p (row x)/\(row x).length=k
theorem R8{k:Nat}{g:TG}(hg:∀ (p:ab6) (ys:List V) (os:List (Option V)) (H:Hp) (Q:L2.St->Hp->Prop),os.length=k->ys.length=k->aj K H p ys->Q (ys.map some++ρ) H->g (.ref p) (os++ρ) H Q)
 (hn:xs.length<=aco) (h:fv (tF K a xs row k) ρ (oh row tt) (mT row te) xs [] H λzs H'=>∀ l,H' l=none->Q (.ref l) (upd H' l (.lst zs))) :
 jO k (kA K a) g ρ tt te H Q:=by
 refine⟨λi m ys H=>m=xs.length-i/\i<=xs.length/\ys.length<=i/\fv (tF K a xs row k) ρ (oh row tt) (mT row te) (xs.drop i) ys H λys H'=>∀ l,H' l=none->Q (.ref l) (upd H' l (.lst ys)),⟨_,rfl,acr _,ab4 _,h⟩,?_⟩;rintro i m ys H ⟨rfl,hi,hy,c⟩;by_cases aZ:i<xs.length
 .have e:=acQ aZ;rw[e] at c;obtain⟨⟨c0,c1⟩,c2⟩:=c;have l1:∀ y:V,(ys++[y]).length<=i+1:=λy=>by rw[acj,acA];lia
  have l2:ys.length<=i+1:=by lia
  refine .inr ⟨⟨xs,_,c0,abW aZ⟩,by lia,λzs H'=>zs.length<=i+1/\fv (tF K a xs row k) ρ (oh row tt) (mT row te) (xs.drop (i+1)) zs H' λys H'=>∀ l,H' l=none->Q (.ref l) (upd H' l (.lst ys)),λzs H' q=>⟨_,by lia,rfl,aZ,q.1,q.2⟩,λos nU v H' y=>?_⟩;obtain⟨rfl,ex⟩:=y;have ex:=ex xs c0;rw[abW aZ] at ex;obtain⟨p,ep,hp,hl⟩:=c1 xs[i] (ahk _);cases ex;rw[ep] at hp hl c2 ⊢;refine hg p _ os _ _ nU hl hp ⟨(row (.ref p)).map some,by rw[abT];exact hl,rfl,?_⟩;simp only[l1,l2,true_and];exact c2
 .have e:i=xs.length:=by lia
  subst e;rw[ahh] at c;exact .inl ⟨⟨xs,c.1.1,ab4 _⟩,by lia,c.2⟩
theorem As{α:Type}{l:List α}{n:Nat}(h:l.length=n+1):∃ a r,l=a::r/\r.length=n:=by
 cases l with
 | nil=>cases h
 | cons a r=>exact⟨a,r,rfl,Nat.succ.inj h⟩
theorem R9{α:Type}{l:List α}(h:l.length=2):∃ a b,l=[a,b]:=by obtain⟨a,r,rfl,j⟩:=As (n:=1) h;obtain⟨b,r,rfl,k⟩:=As (n:=0) j;obtain rfl:=List.eq_nil_of_length_eq_zero k;exact⟨a,b,rfl⟩
theorem HE{α:Type}{l:List α}(h:l.length=3):∃ a b c,l=[a,b,c]:=by obtain⟨a,r,rfl,k⟩:=As (n:=2) h;obtain⟨b,c,rfl⟩:=R9 k;exact⟨a,b,c,rfl⟩
theorem Sa{p:ab6}{ys:List V}{os:List (Option V)}{H:Hp}{Q:L2.St->Hp->Prop}(ho:os.length=3)(hy:ys.length=3)(h:aj K H p ys)(q:Q (ys.map some++ρ) H):ky K 3 (cX (cA 0) (cX (cA 1) (cX (cA 2) jF))) (.ref p) (os++ρ) H Q:=by obtain⟨o1,o2,o3,rfl⟩:=HE ho;obtain⟨x,y,z,rfl⟩:=HE hy;exact RH h q
theorem Au(hn:xs.length<=aco)(h:fv (tF K a xs row 3) ρ (oh row tt) (mT row te) xs [] H λzs H'=>∀ l,H' l=none->Q (.ref l) (upd H' l (.lst zs))) :
 jO 3 (kA K a) (ky K 3 (cX (cA 0) (cX (cA 1) (cX (cA 2) jF)))) ρ tt te H Q:=R8 (λy y y y y ho hy h q=>Sa ho hy h q) hn h
end
theorem qz{α β:Type}{R:Hp->V->α->Prop}{R':Hp->V->β->Prop}{Ok:Hp->Prop}{ρ:L2.St}{tt:TT}{te:TE}{p:α->Bool}{f:α->β}{Q':List V->Hp->Prop}(mono:∀ H H' x a,ah H H'->R H x a->R H' x a)(jS:∀ H H' x a,ah H H'->R' H x a->R' H' x a):∀ {xs:List V} {as:List α} {zs:List V} {bs:List β} {H:Hp},ax (R H) xs as->ax (R' H) zs bs->(∀ H',ah H H'->Ok H') ->
 (∀ x a,a∈as->∀ H',ah H H'->R H' x a->∀ Q:Bool->Hp->Prop,Q (p a) H'->tt (some x::ρ) H' Q)->(∀ x a,a∈as->p a=true->∀ H',ah H H'->R H' x a->∀ Q:VK,(∀ H2 y,ah H' H2->R' H2 y (f a)->Q y H2)->te (some x::ρ) H' Q)->(∀ H' ws,ah H H'->ax (R' H') ws (bs++(as.filter p).map f)->Q' ws H')->fv Ok ρ tt te xs zs H Q'
 | [],[],zs,bs,H,_,hz,bU,_,_,q=>⟨bU H (ah.refl H),q H zs (ah.refl H) (by simpa using hz)⟩
 | x::xs,a::as,zs,bs,H,h,hz,bU,ht,he,q=>by
  refine⟨bU H (ah.refl H),ht x a (.head _) H (ah.refl H) h.1 _ ?_⟩;by_cases hp:p a=true
  .rw[if_pos hp];refine he x a (.head _) hp H (ah.refl H) h.1 _ λH2 y s2 ry=>?_;refine qz mono jS (bs:=bs++[f a]) (h.2.imp λz z r=>mono _ _ _ _ s2 r) ((hz.imp λz z r=>jS _ _ _ _ s2 r).snoc ry) (λH' s'=>bU H' (s2.trans s')) (λx b hb H' s'=>ht x b (.tail _ hb) H' (s2.trans s')) (λx b hb hp H' s'=>he x b (.tail _ hb) hp H' (s2.trans s')) λH' ws s' hw=>q H' ws (s2.trans s') ?_;rw[acF,if_pos hp];simpa using hw
  .rw[if_neg hp];refine qz mono jS h.2 hz bU (λx b hb=>ht x b (.tail _ hb)) (λx b hb hp=>he x b (.tail _ hb) hp) λH' ws s' hw=>q H' ws s' ?_;rw[acF,if_neg hp];exact hw
 | [],_::_,_,_,_,h,_,_,_,_,_=>h.elim
 | _::_,[],_,_,_,h,_,_,_,_,_=>h.elim
theorem Sb(aw:List ab1):ajl aw.toArray none none (some (-1))=aw.reverse.toArray:=by
 have e1:ae7 none none (some (-1)) aw.toArray.size=(((aw.length:Nat):Int)-1,-1,-1):=by rw[acb];rfl
 unfold ajl;rw[e1];dsimp only;have e2:sliceRange (((aw.length:Nat):Int)-1) (-1) (-1)=(ab2 aw.length).map λk=>aw.length-1-k:=by
  unfold sliceRange;have h1:¬ ((-1:Int) > 0):=by lia
  simp only[h1,if_false];by_cases h:aw.length=0
  .rw[h];rfl
  .rw[if_pos (by lia),show (((aw.length:Nat):Int)-1 - -1 - -1-1) / (- -1)=((aw.length:Nat):Int) by
    rw[show (- (-1:Int))=1 by lia,akh];lia,acS]
   refine ad2 λk hk=>?_;have:=acp.mp hk;lia
 rw[e2]
 congr 1
 refine aeR λk=>?_;have key:((ab2 aw.length).map λk=>aw.length-1-k).filterMap (aw.toArray[·]?)=(ab2 aw.length).map λk=>aw.getD (aw.length-1-k) .none:=by
  rw[List.filterMap_map];have:∀ (l:List Nat),(∀ k∈l,k<aw.length)->l.filterMap ((λx=>aw.toArray[x]?) ∘ λk=>aw.length-1-k)=l.map λk=>aw.getD (aw.length-1-k) .none:=by
   intro l
   induction l with
   | nil=>intro y;rfl
   | cons k l ih =>
    intro h;have hk:=h k (.head _);rw[adf,acs];have e:((λx=>aw.toArray[x]?) ∘ λk=>aw.length-1-k) k=some (aw.getD (aw.length-1-k) .none):=by show aw.toArray[aw.length-1-k]?=_;rw[List.getElem?_toArray,abV,abW (by lia)];rfl
    rw[e,ih λj hj=>h j (.tail _ hj)]
  exact this _ λk hk=>acp.mp hk
 rw[key];by_cases hk:k<aw.length
 .rw[aca,acV hk,aeb hk];simp only[Option.map_some];rw[abV,abW (by lia)];rfl
 .rw[ac0 (by rw[abT,ab5];lia),ac0 (by rw[adE];lia)]
section
variable{X:Cx}{e st:afS}{te ts:TE}{p2 pos:Pos}
def HF(K:abU)(te ts:TE):TE:=λσ H Q=>te σ H λx H1=>ts σ H1 λy H2=>y = .int (-1)/\∃ a xs,x = .ref a/\ai K H2 a xs/\∀ p,H2 p=none->Q (.ref p) (upd H2 p (.lst xs.reverse))
theorem HG(he:PE X e te)(hs:PE X st ts):PE X (.Subscript e (.Slice none none (some st) p2) pos) (HF X.K te ts):=by intro pins s σ H Q I h;refine aiM (aE (he pins s σ H _ I h) λv s1 zq=>?_);obtain⟨x,H1,I1,r1,q1⟩:=zq;refine wpAny_Slice ?_;rw[ais];refine abX (abX ?_);rw[evalPart_some];refine aE (hs pins s1 σ H1 _ I1 q1) λu s2 zq=>?_;obtain⟨y,H2,I2,r2,q2⟩:=zq;obtain⟨rfl,a,xs,rfl,hx,q⟩:=q2;obtain⟨t,rfl⟩:=r2;cases r1;have I4:Inv X pins σ H2 { s2 with heap:=s2.heap.push { cls:=.type "slice",data:=.fields #[.none,.none,.int (-1) t] } }:=I2.kept (t':=s2.toks) λb ob q=>abY _ q;obtain⟨aw,r,ht,hz⟩:=I4.list hx;have hlen:=r.length;show ack (model X.prog X.w) X.A (ag5 e (.Slice none none (some st) p2) (.ref a) (.ref s2.heap.objs.size)) (EP X pins σ Q) X.xe { s2 with heap:=s2.heap.push { cls:=.type "slice",data:=.fields #[.none,.none,.int (-1) t] } };refine tail_any (ops:=[.ref a,.ref s2.heap.objs.size]) ht.isList.typeIs slot_list_getitem.lookup ?_ (by with_unfolding_all rfl);refine agO ht.isList (Heap.IsSliceOf.new ..) .none .none (.int (-1) t) (by simp) ?_ (by rw[acb];lia);rw[Sb];refine⟨.ref _,_,I4.laid (t':=s2.toks) (o:=.lst xs.reverse) (λb ob q=>abY _ q) (ab4 _) ?_,rfl,q _ (I4.az.fresh (ab4 _))⟩;exact⟨by rw[adE];exact hz,_,0,r.reverse,ab8 _ rfl⟩
end
theorem Sd{K:abU}{a:ab6}{xs:List V}{ρ:L2.St}{tt:TT}{te:TE}{H:Hp}{Q:VK}(hn:xs.length<=aco)(h:fv (λH=>ai K H a xs) ρ tt te xs.reverse [] H λys H'=>∀ l,H' l=none->Q (.ref l) (upd H' l (.lst ys))):mL (v8 K a xs.length) ρ tt te H Q:=by
 have hr:xs.reverse.length=xs.length:=adE;refine⟨λi m ys H=>m=xs.length-i/\i<=xs.length/\ys.length<=i/\fv (λH=>ai K H a xs) ρ tt te (xs.reverse.drop i) ys H λys H'=>∀ l,H' l=none->Q (.ref l) (upd H' l (.lst ys)),⟨_,rfl,acr _,ab4 _,h⟩,?_⟩;rintro i m ys H ⟨rfl,hi,hy,g⟩;by_cases aZ:i<xs.length
 .have e:=acQ (show i<xs.reverse.length by lia);rw[e] at g;obtain⟨g0,g1⟩:=g;refine .inr ⟨⟨xs,_,g0,rfl,abW (by lia)⟩,by lia,λzs H'=>zs.length<=i+1/\fv (λH=>ai K H a xs) ρ tt te (xs.reverse.drop (i+1)) zs H' λys H'=>∀ l,H' l=none->Q (.ref l) (upd H' l (.lst ys)),λzs H' q=>⟨_,by lia,rfl,aZ,q.1,q.2⟩,λx H' y=>?_⟩;obtain⟨rfl,ex⟩:=y;have ex:=ex xs g0 rfl;rw[abW (by lia)] at ex;cases ex;have l1:∀ y:V,(ys++[y]).length<=i+1:=λy=>by rw[acj,acA];lia
  have l2:ys.length<=i+1:=by lia
  simp only[l1,l2,true_and];exact g1
 .have e:i=xs.length:=by lia
  subst e;rw[aft (by lia)] at g;exact .inl ⟨rfl,by lia,g.2⟩
theorem EW(h:aeI us ns):Vals (ns.map V.int) us:=by
 induction h with
 | nil=>exact .nil
 | cons n t r ih=>exact .cons ⟨t,rfl⟩ ih
theorem Av{β:Type}{R':Hp->V->β->Prop}{Ok:Hp->Prop}{ρ:L2.St}{tt:TT}{te:TE}{p:V × V->Bool}{f:V × V->β}{Q':List V->Hp->Prop}(jS:∀ H H' x a,ah H H'->R' H x a->R' H' x a):∀ {rows:List (V × V)} {H:Hp} {zs:List V} {bs:List β},ax (R' H) zs bs->(∀ H',ah H H'->Ok H') ->
 (∀ r∈rows,∀ H',ah H H'->∀ Q,Q (p r) H'->tt (some r.1::some r.2::ρ) H' Q)->(∀ r∈rows,p r=true->∀ H',ah H H'->∀ Q:VK,(∀ gG y,ah H' gG->R' gG y (f r)->Q y gG)->te (some r.1::some r.2::ρ) H' Q) ->
 (∀ H' ws,ah H H'->ax (R' H') ws (bs++(rows.filter p).map f)->Q' ws H')->pZ Ok ρ tt te rows zs H Q'
 | [],H,zs,bs,hz,bU,_,_,q=>⟨bU H (ah.refl H),q H zs (ah.refl H) (by simpa using hz)⟩
 | (x,y)::r,H,zs,bs,hz,bU,ht,he,q=>by
  refine⟨bU H (ah.refl H),λw hw=>?_⟩;have s:=Gz.ak (o:=.tup [x,y]) hw;refine ht _ (.head _) _ s _ ?_;by_cases hb:p (x,y)=true
  .rw[if_pos hb];refine he _ (.head _) hb _ s _ λH2 v s2 r2=>?_;have S:=s.trans s2;refine Av jS (bs:=bs++[f (x,y)]) ((hz.imp λx a r=>jS _ _ _ _ S r).snoc r2) (λH' s'=>bU H' (S.trans s')) (λz hz H' s'=>ht z (.tail _ hz) H' (S.trans s')) (λz hz hb H' s'=>he z (.tail _ hz) hb H' (S.trans s')) λH' ws s' hw=>q H' ws (S.trans s') ?_;rw[acF,if_pos hb,acs]
   rwa [agT] at hw
  .rw[if_neg hb];refine Av jS (hz.imp λx a r=>jS _ _ _ _ s r) (λH' s'=>bU H' (s.trans s')) (λz hz H' s'=>ht z (.tail _ hz) H' (s.trans s')) (λz hz hb H' s'=>he z (.tail _ hz) hb H' (s.trans s')) λH' ws s' hw=>q H' ws (s.trans s') ?_;rw[acF,if_neg hb];exact hw
abbrev tG(H:Hp)(v:V)(s:S2):Prop:=aO H v s.1 s.2
noncomputable def cellsFrom:En->List Int->List S2
 | lo,[]=>[(lo,none)]
 | lo,z::zs=>(lo,some (z-1))::cellsFrom (some z) zs
noncomputable def lO(c:S2):Int:=match c.1,c.2 with
 | some x,_=>x
 | none,some y=>y
 | none,none=>0
theorem Se(h:GH c):hs c (lO c)=true:=by
 rw[QU];unfold GH at h;rcases c with ⟨z|x,z|y⟩
 .exact⟨λz e=>(nomatch e),λz e=>(nomatch e)⟩
 .exact⟨λz e=>(nomatch e),λz e=>by cases e;exact ade _⟩
 .exact⟨λz e=>by cases e;exact ade _,λz e=>(nomatch e)⟩
 .refine⟨λz e=>by cases e;exact ade _,λz e=>?_⟩;cases e;show x<=y;simp[ba] at h;lia
theorem HH(es:List Int):(es.map V.int).all lz=true:=by rw[aer];exact adi.mpr λy y=>rfl
theorem Aw(a:Int):∀ (es:List Int),vF (.int a) (es.map V.int)=es.contains a
 | []=>rfl
 | e::es=>by
  have ih:=Aw a es;unfold vF at *;rw[acs,adm,ih,List.contains_cons]
  congr 1
  show (e == a)=(a == e);rw[adg];simp only[beq_iff_eq];exact eq_comm
theorem Ax{K:abU}{H1 H':Hp}{l:ab6}{ys:List V}{tb:Tb}(hl:H1 l=some (.lst ys))(hM:ax (jV H1) ys tb)(s:ah H1 H'):tF K l ys (rowOf H1) 3 H':=by refine⟨ai.of (s _ _ hl),λx hx=>?_⟩;obtain⟨i,hi⟩:=ac2.mp hx;obtain⟨m,y,t,p,rfl,h1,h2⟩:=hM.get hi;rw[qx h1];exact⟨t,rfl,aj.of (s _ _ h1),rfl⟩
noncomputable def fj(tb:Tb)(es:List Int):List Mk:=((kM tb).filter λr=>!es.contains r.1.1).map λr=>(r.1.2.toNat,r.2)
theorem map_some:∀ (l:List α),(l.map f).filterMap id=l.filterMap f
 | []=>rfl
 | a::l=>by rw[acs,adf,adf,map_some l];rfl
theorem cD:∀ {l:List α},l.Pairwise R->∀ {p q:α},p∈l->q∈l->p=q∨R p q∨R q p
 | [],_,_,_,h,_=>by cases h
 | x::l,h,p,q,hp,hq=>by
  have h1:=aiy.mp h;rcases acd.mp hp with e1|i1<;>rcases acd.mp hq with e2|i2
  .exact .inl (e1.trans e2.symm)
  .rw[e1];exact .inr (.inl (h1.1 q i2))
  .rw[e2];exact .inr (.inr (h1.1 p i1))
  .exact cD h1.2 i1 i2
theorem qA:(kM tb).Perm tb:=qf
theorem Sf:(kM tb).Pairwise λa b=>HT.lexLt [b.1.1,b.1.2] [a.1.1,a.1.2]=false:=GD (f:=λr:P2 × S2=>[r.1.1,r.1.2]) rfl
local macro_rules | `(tactic| walk_at "o") => `(tactic| ((try simp only [PySem.Addr] at *); lia))
section
end
noncomputable def Sg(K:abU)(a b c:ab6):It :=
 ⟨λi H=>∃ xs ys zs x y z,ai K H a xs/\ai K H b ys/\ai K H c zs/\xs[i]?=some x/\ys[i]?=some y/\zs[i]?=some z,λi H v H'=>∃ (p:ab6) (x y z:V),v = .ref p/\H p=none/\H'=upd H p (.tup [x,y,z])/\(∀ xs,ai K H a xs->xs[i]?=some x)/\(∀ ys,ai K H b ys->ys[i]?=some y)/\∀ zs,ai K H c zs->zs[i]?=some z,
  λi H=>∃ xs,ai K H a xs/\xs.length<=i⟩
def Sh(K:abU)(ta:TA):TI:=λσ H R=>ta σ H λvs H1=>∃ a b c,vs=[.ref a,.ref b,.ref c]/\(∃ xs,ai K H1 a xs)/\(∃ ys,ai K H1 b ys)/\(∃ zs,ai K H1 c zs)/\R (Sg K a b c) H1
section
def Loose:HO->Prop
 | .dT _=>True
 | .aW _ (.dT _)=>True
 | _=>False
theorem HI(I:Inv X pins σ H s)(e:H a=some u)(lu:Loose u)(h0:∀ o v,X.H₀ a≠some (.aW o v))(new:bM X.prog X.w (upd H a u') s.heap a u'):Inv X pins σ (upd H a u') s:=by
 have nn:∀ b,H b=none->b≠a:=λb h z=>by rw[z,e] at h;cases h
 have nt:∀ b xs,H b=some (.tup xs)->b≠a:=λb xs h z=>by rw[z,e] at h;cases h;exact lu
 have no:∀ b x,H b=some (.own x)->b≠a:=λb x h z=>by rw[z,e] at h;cases h;exact lu
 have nb:∀ b ps,H b=some (.tbl ps)->b≠a:=λb ps h z=>by rw[z,e] at h;cases h;exact lu
 refine⟨I.ok,I.os,I.bare,⟨I.base.keep,I.base.slot,λb o e1 n hx=>?_,I.base.there,λb xs e1=>?_,λb o v e1=>?_,λb ps e1=>?_⟩,I.loc,I.cell,?_,λx c e1=>?_,λp hp=>?_,λb ob e1=>?_,I.len⟩
 .have:=I.base.free b o e1 n hx;rw[aF (nn b this)];exact this
 .have:=I.base.fY b xs e1;rw[aF (nt b xs this)];exact this
 .have:=I.base.fu b o v e1;rw[aF (show b≠a from λz=>h0 o v (by rw[<- z];exact e1))];exact this
 .obtain⟨more,this⟩:=I.base.fZ b ps e1;exact⟨more,by rw[aF (nb b _ this)];exact this⟩
 .rw[aF (nn _ I.free)];exact I.free
 .have:=I.gb x c e1;rw[aF (nn c this)];exact this
 .obtain⟨p1,p2,p3⟩:=I.pin p hp;exact⟨p1,by rw[aF (nn _ p2)];exact p2,p3⟩
 .by_cases hb:b=a
  .subst hb;rw[aq] at e1;cases e1;exact new
  .rw[aF hb] at e1;exact (I.az b ob e1).stay (λy y y q=>q) (λc h=>by rw[aF (no c _ h)];exact h) λc xs h=>by rw[aF (nt c xs h)];exact h
theorem Si(I:Inv X pins σ H s)(e:H a=some (.dT kvs)):∃ o,Inv X pins σ (upd H a (.aW o (.dT kvs))) s/\∀ o v,X.H₀ a≠some (.aW o v):=by
 have h0:∀ o v,X.H₀ a≠some (.aW o v):=λo v z=>by have:=I.base.fu a o v z;rw[e] at this;cases this
 have ok:=I.az a _ e;obtain⟨y,y,y,y,o,y,y,ho,y⟩:=id ok;refine⟨o,HI I e trivial h0 ⟨ho,ok.stay (λy y y q=>q) (λc h=>?_) λc xs h=>?_⟩,h0⟩
 .rw[aF λz=>by rw[z,e] at h;cases h];exact h
 .rw[aF λz=>by rw[z,e] at h;cases h];exact h
theorem wM(I:Inv X pins σ H s)(e:H a=some (.aW o (.dT kvs)))(h0:∀ o v,X.H₀ a≠some (.aW o v)):Inv X pins σ (upd H a (.dT kvs)) s:=by
 obtain⟨y,ok⟩:=I.az a _ e;refine HI I e trivial h0 (ok.stay (λy y y q=>q) (λc h=>?_) λc xs h=>?_)
 .rw[aF λz=>by rw[z,e] at h;cases h];exact h
 .rw[aF λz=>by rw[z,e] at h;cases h];exact h
noncomputable def HJ(a:ab6)(o:Obj)(kvs:List (List Key × V))(D:Ends):Ends where
 nx:=λσ H=>H a=some (.aW o (.dT kvs))/\D.nx σ (upd H a (.dT kvs))
 rt:=λv H=>H a=some (.aW o (.dT kvs))/\D.rt v (upd H a (.dT kvs))
 bk:=λσ H=>H a=some (.aW o (.dT kvs))/\D.bk σ (upd H a (.dT kvs))
 ct:=λσ H=>H a=some (.aW o (.dT kvs))/\D.ct σ (upd H a (.dT kvs))
def HK(t:TS):TS:=λD σ H=>∃ a kvs,H a=some (.dT kvs)/\∀ o,t (HJ a o kvs D) σ (upd H a (.aW o (.dT kvs)))
theorem HL{st:ag3}{t:TS}(h:PS X st t):PS X st (HK t):=by
 rintro pins s σ H D I ⟨a,kvs,e,q⟩;obtain⟨o,I1,h0⟩:=Si I e;refine aE (h pins s σ _ _ I1 (q o)) λf s' hf=>?_;cases f with
 | next=>obtain⟨σ',H',I',e',q'⟩:=hf;exact⟨σ',_,wM I' e' h0,q'⟩
 | brk=>obtain⟨σ',H',I',e',q'⟩:=hf;exact⟨σ',_,wM I' e' h0,q'⟩
 | cont=>obtain⟨σ',H',I',e',q'⟩:=hf;exact⟨σ',_,wM I' e' h0,q'⟩
 | ret v=>obtain⟨v',σ',H',I',r',e',q'⟩:=hf;exact⟨v',σ',_,wM I' e' h0,r',q'⟩
def Sj(t:TE):TE:=λσ H Q=>∃ a kvs,H a=some (.dT kvs)/\∀ o,t σ (upd H a (.aW o (.dT kvs))) λv H'=>H' a=some (.aW o (.dT kvs))/\Q v (upd H' a (.dT kvs))
noncomputable def iJ(o:Obj):List V:=match o.data with
 | .dict es _=>es.toList.map λe=>match e.key with
  | .ref a=>V.ref a
  | _=>V.non
 | _=>[]
noncomputable def tH(a:ab6)(o:Obj)(kvs:List (List Key × V)):It where
 go i H:=H a=some (.aW o (.dT kvs))/\i<kvs.length
 yld i H x H':=H'=H/\(iJ o)[i]?=some x
 stop i H:=H a=some (.aW o (.dT kvs))/\kvs.length<=i
def Ay(tl:TE):TI:=λσ H R=>tl σ H λx H1=>∃ a o kvs,x = .ref a/\H1 a=some (.aW o (.dT kvs))/\(jc H1 (iJ o) kvs->R (tH a o kvs) H1)
theorem Az(ok:b7 P w H h)(e:H a=some (.aW o (.dT kvs))):∃ (as:List ab6) (es:Array afL) (ep:Nat),jc H (iJ o) kvs/\(a == adD)=false/\g9 h a es ep/\o.data = .dict es ep/\es.size=kvs.length/\kvs.length<=aco/\∀ i (hi:i<es.size),∃ b,es[i].key = .ref b/\(iJ o)[i]?=some (.ref b):=by
 obtain⟨ho,z,lo,xs,rel,o',es,ep,cS,hc,hd,he,hn⟩:=ok a _ e;rw[ho] at cS;cases cS;have hl:xs.length=kvs.length:=(Paired.length rel).symm;have hs:es.size=xs.length:=aeK he;have ek:iJ o=(xs.map (·.2.1)).map V.ref:=by unfold iJ;rw[hd];show es.toList.map _=_;rw[he,ac1,ac1];exact ad2 λx y=>rfl
 refine⟨xs.map (·.2.1),es,ep,?_,lo,⟨o,ho,hc,hd⟩,hd,hs.trans hl,z,λi hi=>?_⟩
 .rw[ek];exact KT.G8 rel
 .have hx:i<xs.length:=by lia
  have e1:=entry_at he i;rw[acG hi,abW hx] at e1;have e2:es[i]=aiD (agH (fH P w)) xs[i]:=by simpa using e1
  refine⟨xs[i].2.1,by rw[e2];rfl,?_⟩;rw[ek,aca,aca,abW hx];rfl
theorem Sk{P:acK}{w:ado}{K:abU}{tg:afS}(a it:ab6)(o:Obj)(kvs:List (List Key × V))(bS:a≠it):Turn P w K tg (tH a o kvs) [it] it (λi h=>∃ es ep,o.data = .dict es ep/\i<=es.size/\h.IsKeyIter it a i es.size ep) where
 mem:=by simp
 obj:=λi h st b hb=>by
  have e:b=it:=by simpa using hb
  subst e;obtain⟨es,ep,y,y,ob,e,c,d⟩:=st;exact⟨ob,e,λv z=>by rw[d] at z;cases z⟩
 keep:=λi h h' st k=>by obtain⟨es,ep,h1,h2,ob,e,c,d⟩:=st;exact⟨es,ep,h1,h2,ob,k it (by simp) ob e,c,d⟩
 item:=by
  intro X hP hw hK hc i pins s σ H E I hf st hg;subst hP hw hK;obtain⟨e,hi⟩:=hg;obtain⟨es,ep,hd,hle,hit⟩:=st;obtain⟨as,es',rD,hk,lo,raw,jD,hs,hz,iE⟩:=Az I.az e;rw[hd] at jD;cases jD;obtain⟨f0,f1,f2,f3,f4,f5⟩:=hf it (by simp);have cY:i<es.size:=by lia
  obtain⟨b,eb,kb⟩:=iE i cY;refine G2 hit raw cY λh' lH sb=>?_;have I1:Inv X pins σ H { s with heap:=h' }:=I.turned (t':=s.toks) (λb o hb e=>(sb.2 b hb).trans e) f0 f1 f3 f4 f5;obtain⟨ob,e1,c1,d1⟩:=id lH;exact⟨es[i].key,rfl,pH (s:={ s with heap:=h' }) e1 c1 d1 (by decide) ⟨.ref b,H,I1,eb,⟨rfl,kb⟩,⟨es,ep,hd,cY,lH⟩,λb hb=>(hf b hb).1⟩⟩
 done:=by
  intro X hP hw hK hc i pins s σ H E I hf st hg;subst hP hw hK;obtain⟨e,hi⟩:=hg;obtain⟨es,ep,hd,hle,hit⟩:=st;obtain⟨as,es',rD,hk,lo,raw,jD,hs,hz,iE⟩:=Az I.az e;rw[hd] at jD;cases jD;obtain⟨f0,f1,f2,f3,f4,f5⟩:=hf it (by simp);have ei:i=es.size:=by lia
  subst ei;exact G3 (I.ok.hd hc) hit raw λh' eb=>⟨rfl,I.turned (t':=s.toks) (λb o hb e=>eb b o hb e) f0 f1 f3 f4 f5⟩
 self:=λy y y y y st h=>by obtain⟨es,ep,y,y,hit⟩:=st;exact ahY hit h
theorem HM(hl:PE X l tl):PI X tg l (Ay tl):=by
 intro pins s σ H R I h;refine aE (hl pins s σ H _ I h) λv s1 zq=>?_;obtain⟨x,H1,I1,r1,q1⟩:=zq;obtain⟨a,o,kvs,e,hf,q⟩:=q1;subst e;cases r1;obtain⟨as,es,ep,hk,lo,raw,hd,hs,hz,iE⟩:=Az I1.az hf;refine G0 lo raw ?_;refine⟨s1.heap.objs.size,[s1.heap.objs.size],_,_,H1,rfl,I1.kept (t':=s1.toks) λb o e=>abY _ e,Sk a _ o kvs (acf raw.lt),⟨es,ep,hd,acr _,_,ab8 _ rfl,rfl,rfl⟩,λb hb=>?_,q hk⟩;have e:b=s1.heap.objs.size:=by simpa using hb
 subst e;exact I1.iX (ab4 _) (I1.az.fresh (ab4 _))
theorem Sl:kB (Ay tl) g tb D σ H=tl σ H (λx H1=>∃ a o kvs,x = .ref a/\H1 a=some (.aW o (.dT kvs))/\(jc H1 (iJ o) kvs->FJ (tH a o kvs) g tb D σ H1)):=rfl
theorem Sm(Pv:Nat->L2.St->Hp->Prop)(hk:iJ o=xs)(Sn:xs.length=kvs.length)(h0:Pv 0 σ H)(hl:∀ i σ H,i<=xs.length->Pv i σ H->H a=some (.aW o (.dT kvs)))(hs:∀ i x σ H,xs[i]?=some x->Pv i σ H->g x σ H λσ2 H2=>tb { D with nx:=Pv (i+1),ct:=Pv (i+1),bk:=D.nx } σ2 H2)(hd:∀ σ H,Pv xs.length σ H->D.nx σ H):FJ (tH a o kvs) g tb D σ H:=by
 refine⟨λi m σ H=>m=xs.length-i/\i<=xs.length/\Pv i σ H,⟨xs.length,by simp,acr _,h0⟩,?_⟩;rintro i m σ H ⟨rfl,hi,p⟩;have q:=hl i σ H hi p;by_cases aZ:i<xs.length
 .refine .inr ⟨⟨q,by lia⟩,Pv (i+1),λσ' H' p'=>⟨xs.length-(i+1),by lia,rfl,aZ,p'⟩,λx H' y=>?_⟩;obtain⟨e,y⟩:=y;subst e;rw[hk] at y;exact hs i x σ _ y p
 .have e:i=xs.length:=by lia
  subst e;exact .inl ⟨⟨q,by lia⟩,hd σ H p⟩
theorem So(hk:iJ o=xs)(Sn:xs.length=kvs.length):sI (tH a o kvs) (λH=>H a=some (.aW o (.dT kvs))) xs :=
 ⟨λi z z h e=>⟨h,by have:=(ab0.mp e).1;lia⟩,λi z z z z y=>⟨y.1,λz=>hk ▸ y.2⟩,λi z h hi=>⟨h,by lia⟩⟩
end
theorem AA(e:H a=some u)(h:H p=some v)(ne:v≠u):upd H a w p=some v:=by rw[aF (pq h e ne)];exact h
section
theorem Sq(e:H0 a=some (.dT kvs))(s:ah (upd H0 a (.aW o (.dT kvs))) H1):ah H0 (upd H1 a (.dT kvs)):=λb u h=>by
 by_cases hb:b=a
 .subst hb;rw[e] at h;cases h;exact aq
 .rw[aF hb];exact s b u (by rw[aF hb];exact h)
theorem AB(e:H a=some (.dT kvs))(h:H p=some (.tup xs)):upd H a u p=some (.tup xs):=AA e h λz=>nomatch z
theorem Sr(e:H a=some (.dT kvs))(h:H p=some (.lst xs)):upd H a u p=some (.lst xs):=AA e h λz=>nomatch z
theorem aO.aW(h:aO H v x y)(e:H a=some (.dT kvs)):aO (upd H a u) v x y:=let ⟨t,e1,h1⟩:=h;⟨t,e1,AB e h1⟩
theorem bh.aW(h:bh H kvs tb)(e:H a=some (.dT kvs)):bh (upd H a u) kvs tb:=h.imp λy y y z=>z.aW e
theorem Ss{K:abU}{xs:List V}(e:H a=some (.dT kvs))(h:ai K H p xs):ai K (upd H a (.aW o (.dT kvs))) p xs:=by
 rcases h with (h|⟨z,h⟩)|h
 .exact .inl (.inl (Sr e h))
 .exact .inl (.inr ⟨z,AA e h λz=>nomatch z⟩)
 .exact .inr h
end
theorem eZ.z(e:H a=some (.aW o (.dT kvs)))(eb:H b=some (.tup (k.map kV))):eZ H a (.ref b) (di kvs k):=.inr ⟨kvs,k,b,.inr ⟨o,e⟩,rfl,eb,rfl⟩
noncomputable def mU(tb:Tb)(i:Int):List Mk:=((kM tb).filter λr=>decide (r.1.1=i)).map λr=>(r.1.2.toNat,r.2)
noncomputable def fz(cs:List Int)(t:Nat):Int:=cs.getD t 0
theorem Su(h:t<cs.length):(cs.map V.int)[t]?=some (V.int (fz cs t)):=by rw[aca,abW h];unfold fz;rw[abV,abW h];rfl
section
end
end Gz
namespace Gz
open PySem
theorem slot1{t:aj0}{q:Nat}(hp:t.place = #[q])(hd:t.dummies = #[])(j:Nat):t.slot j=if q=j then .live 0 else .empty:=by
 unfold aj1 agu;rw[hp,hd];simp only[SetTable.below,adv,acb,acB,adG];by_cases h:q<j
 .have:q≠j:=by lia
  simp[h,this]
 .by_cases e:q=j<;>simp[h,e]
theorem HN(hp:t.place = #[q])(hd:t.dummies = #[])(hm:t.mask=7)(hf:∀ i,(f i == h)=false) :
 ∀ (n m:Nat) (p:SetTable.Probe),p.more=0->p.j=p.i->p.dummy=none->p.perturb<32 ^ n->p.i<=7->∃ j,j≠q/\aep t f h (n+(m+2)) p=some (.empty j none)
 | n,m,⟨j,mo,i,pe,du⟩,h1,h2,h3,h4,h5=>by
  dsimp only at h1 h2 h3 h4 h5;subst h1 h3;obtain rfl:i=j:=h2.symm;have ad:t.advance ⟨i,0,i,pe,none⟩=⟨(i * 5+1+pe / 32) % 8,0,(i * 5+1+pe / 32) % 8,pe / 32,none⟩:=by simp[SetTable.advance,SetTable.leap,hm,ajA]
  have le:(i * 5+1+pe / 32) % 8<=7:=by lia
  by_cases e:q=i
  .cases n with
   | zero =>
    have z:(i * 5+1+pe / 32) % 8≠q:=by lia
    refine⟨_,z,?_⟩;rw[show 0+(m+2)=(m+1)+1 by lia,aep,slot1 hp hd,if_pos e];simp only[hf,acu,if_false];rw[ad,aep,slot1 hp hd,if_neg (acY z)]
   | succ n =>
    obtain⟨j,j1,j2⟩:=HN hp hd hm hf n m ⟨_,0,_,pe / 32,none⟩ rfl rfl rfl (by dsimp only;rw[Nat.pow_succ] at h4;exact Nat.div_lt_of_lt_mul (by lia)) le;refine⟨j,j1,?_⟩;rw[show n+1+(m+2)=(n+(m+2))+1 by lia,aep,slot1 hp hd,if_pos e];simp only[hf,acu,if_false];rw[ad];exact j2
  .refine⟨i,acY e,?_⟩;rw[show n+(m+2)=(n+m+1)+1 by lia,aep,slot1 hp hd,if_neg e]
structure iK(t:aj0)(L:List (Nat × Int × ab1)):Prop where
 pl:t.place=(L.map (·.1)).toArray
 du:t.dummies = #[]
 ma:t.mask=7
 sh:L=[]∨(∃ a,L=[a]) ∨ ∃ a b,L=[a,b]/\a.1<b.1
section
theorem iK.fits(k:iK t L):t.fits (L.map (·.2)).toArray.size=true:=by obtain⟨h1,h2,h3,h4⟩:=k;rcases h4 with rfl|⟨a,rfl⟩|⟨a,b,rfl,y⟩<;>simp[SetTable.fits,ahd,h1,h2,h3]
theorem iK.zero(k:iK t L):SetTable.below t.place 0=0:=by obtain⟨h1,h2,h3,h4⟩:=k;rcases h4 with rfl|⟨a,rfl⟩|⟨a,b,rfl,y⟩<;>simp[h1,SetTable.below,adv]
theorem iK.next(k:iK t L)(hi:i<L.length):SetTable.below t.place (L[i].1+1)=i+1:=by
 obtain⟨h1,h2,h3,h4⟩:=k;rw[h1];rcases h4 with rfl|⟨a,rfl⟩|⟨a,b,rfl,z⟩
 .cases hi
 .obtain rfl:i=0:=by simpa using hi
  simp[SetTable.below,adv]
 .match i,hi with
  | 0,_ =>
   have:¬ b.1<a.1+1:=by lia
   simp[SetTable.below,adv,this]
  | 1,_=>simp[SetTable.below,adv]
theorem iK.free(k:iK t L)(hl:L.length<=1)(h:Int):∃ j,t.freeSlot h=some (j,false)/\j∉L.map (·.1):=by
 obtain⟨h1,h2,h3,h4⟩:=k;rcases h4 with rfl|⟨a,rfl⟩|⟨a,b,rfl,y⟩
 .refine⟨SetTable.bits h % 8,?_,λhx=>nomatch hx⟩;simp[aiT,ajG,ajH,agg,h3,aep,aj1,agu,h1,h2,SetTable.below,adv]
 .have bt:SetTable.bits h<2 ^ 64:=by unfold SetTable.bits;lia
  obtain⟨j,j1,j2⟩:=HN (q:=a.1) h1 h2 h3 (f:=λy=>h+1) (h:=h) (λy=>by simp;lia) 13 205 (t.probeStart h) (by simp[agg,h3,ajA]) rfl rfl (acg bt (by decide)) (by simp only[agg,h3];lia);refine⟨j,?_,by simpa using j1⟩;unfold aiT ajG ajH;rw[h3,j2];rfl
 .simp at hl
theorem iK.put(k:iK t L)(hl:L.length<=1)(hj:j∉L.map (·.1))(h:Int)(x:ab1) :
 ∃ t' p L',t.put j=(t',p)/\iK t' L'/\afB (L.map (·.2)).toArray p (h,x)=(L'.map (·.2)).toArray/\t'.led=t.led/\t'.plain=t.plain/\t'.fill=L.length+1/\L'.Perm ((j,h,x)::L):=by
 obtain⟨h1,h2,h3,h4⟩:=k;rcases h4 with rfl|⟨a,rfl⟩|⟨a,b,rfl,y⟩
 .refine⟨_,_,[(j,h,x)],rfl,⟨?_,?_,h3,.inr (.inl ⟨_,rfl⟩)⟩,?_,rfl,rfl,?_,.refl _⟩<;>simp[ahd,agu,afB,h1,h2,SetTable.below,adv]
 .have hj:j≠a.1:=by simpa using hj
  by_cases z:a.1<j
  .refine⟨_,_,[a,(j,h,x)],rfl,⟨?_,?_,h3,.inr (.inr ⟨_,_,rfl,z⟩)⟩,?_,rfl,rfl,?_,.swap _ _ _⟩<;>simp[ahd,agu,afB,h1,h2,SetTable.below,adv,z]
  .refine⟨_,_,[(j,h,x),a],rfl,⟨?_,?_,h3,.inr (.inr ⟨_,_,rfl,show j<a.1 by lia⟩)⟩,?_,rfl,rfl,?_,.refl _⟩<;>simp[ahd,agu,afB,h1,h2,SetTable.below,adv,z]
 .simp at hl
end
end Gz
namespace Gz
open PySem PySem.Spec PyProof.Rows L2
theorem HP:Manifest.owners.lookup (String.ofList ['r','o','t','a','r','e','t','i','_','t','e','s'].reverse)=some Manifest.sig_set_iterator:=by kernel_rfl
theorem qB:Slot "set_iterator" "__next__" "set_iterator.__next__" :=
 .of (owner := "set_iterator") (n := "__next__") (by rw[agh,aeL];kernel_rfl) (by decide +kernel) (by decide +kernel) (by decide +kernel)
  (by first|exact .inl (by decide +kernel)|exact .inr (by decide +kernel)) (by rw[ah6];kernel_rfl)
theorem HQ:agr table "set_iterator.__next__" = some adY.«set_iterator.__next__»:=entryFor_of_tree (by kernel_rfl)
theorem HR(a:ab1):ahi "set_iterator.__next__" ⟨[a],[]⟩:=by unfold ahi;rw[signature?_of (id := "set_iterator.__next__") (n:=['_','_','t','x','e','n','_','_']) (o:=['r','o','t','a','r','e','t','i','_','t','e','s']) (by kernel_rfl) HP];kernel_rfl
theorem Sv:agr table "set.__iter__" = some adY.«frozenset.__iter__» :=
 entryFor_alias (id' := "frozenset.__iter__") (by kernel_rfl) (by first|rfl|decide +kernel) (by decide +kernel) (by kernel_rfl)
section
theorem Sw(hT:s.TypeIs (.ref d) "set")(q:Q false s):ack (model prog w) A (aeM (.ref d)) Q E s:=by
 unfold aeM;refine abS (age hT PySem.F.slot_set_len.lookup ?_);generalize hid:("set.__len__" : String)=Sx
 wp_delta
 rw[show splitId Sx=some ("set","__len__") from by subst hid;decide +kernel];subst hid;refine abS (ae4 (T := "set") (b:=true) hT (by rw[ah6];kernel_rfl) ?_);refine afm (λfh=>absurd fh (by decide)) (λy=>?_);refine afm (λy=>?_) (λfh=>absurd (by decide +kernel) fh);refine abS (wpAny_typeOf hT ?_);exact abX q
theorem HS:acJ "set" = some (.type "set"):=by decide +kernel
end
def jW(h:aek)(a:ab6)(p:P2):Prop:=∃ o t u n,h.get? a=some o/\o.cls = .type "tuple" /\ o.data = .seq #[.int p.1 t,.int p.2 u] n
theorem jW.keep(x:jW h a p)(k:∀ o,h.get? a=some o->h'.get? a=some o):jW h' a p:=let ⟨o,t,u,n,e,r⟩:=x;⟨o,t,u,n,k o e,r⟩
section
theorem HU(h:Q (.bool (decide (x<y))) s):ack (model prog w) A (af8 .Lt (.int x t) (.int y u)) Q E s :=
 richCompare_gives (op:=.Lt) (ajM s _ t) (ajM s _ u) PySem.F.slot_int_lt PySem.F.entry_int_lt (PySem.F.args_int_lt_2 _ _) (gives_int_lt _ _ t u) (λx=>nomatch x) h
theorem wN(ha:jW s.heap a p)(hb:jW s.heap b q)(hu:A.units<af0)(h:Q (.bool (gi p q)) s):ack (model prog w) A (af8 .Lt (.ref a) (.ref b)) Q E s:=by
 obtain⟨oa,t1,u1,n1,tI,hca,hda⟩:=ha;obtain⟨ob,t2,u2,n2,hob,hcb,fM⟩:=hb;have Ta:s.TypeIs (.ref a) "tuple" := ⟨oa,tI,hca⟩;have Tb:s.TypeIs (.ref b) "tuple" := ⟨ob,hob,hcb⟩;refine wpAny_richCompare_same_room Ta Tb afK (adj afK Ta ahp ?_ (ag4 _ _)) hu;show ack _ _ (ajN (.ref b) (.type "tuple") >>= _) _ _ s;refine abS (ae4 Tb isSubtype_tuple_tuple ?_);simp only[aiz,acu,if_false];refine abS (aiA tI hda ?_);refine abS (aiA hob fM ?_);refine abS ?_;refine ai6 _ (λrest r s'=>r.1=none/\s'=s/\(rest=[(.int p.1 t1,.int q.1 t2),(.int p.2 u1,.int q.2 u2)]∨(rest=[(.int p.2 u1,.int q.2 u2)]/\p.1=q.1)∨(rest=[]/\p.1=q.1/\p.2=q.2))) _ ?_ ?_ _ _ ⟨rfl,rfl,.inl rfl⟩
 .rintro ⟨u,v⟩ rest r s' ⟨hr,rfl,hz⟩;rcases hz with hz|⟨hz,e1⟩|⟨hz,y⟩
  .cases hz;refine abS (ahg ?_);by_cases e:p.1=q.1
   .rw[show (p.1 == q.1)=true by simpa using e];simp only[aiz,acu,if_false];exact abX ⟨rfl,rfl,.inr (.inl ⟨trivial,e⟩)⟩
   .rw[show (p.1 == q.1)=false by simpa using e];simp only[ajI,if_true];refine abS (afd (abS (HU (abS (abX (abX (abX ⟨_,rfl,λz=>(nomatch z),?_⟩)))))));have e2:gi p q=decide (p.1<q.1):=by unfold gi;rw[decide_eq_false e];simp
    rw[<- e2];exact h
  .cases hz;refine abS (ahg ?_);by_cases e:p.2=q.2
   .rw[show (p.2 == q.2)=true by simpa using e];simp only[aiz,acu,if_false];exact abX ⟨rfl,rfl,.inr (.inr ⟨trivial,e1,e⟩)⟩
   .rw[show (p.2 == q.2)=false by simpa using e];simp only[ajI,if_true];refine abS (afd (abS (HU (abS (abX (abX (abX ⟨_,rfl,λz=>(nomatch z),?_⟩)))))));have e2:gi p q=decide (p.2<q.2):=by unfold gi;rw[e1];simp
    rw[<- e2];exact h
  .cases hz
 .rintro ⟨r1,r2⟩ s' ⟨hr,rfl,hz⟩;simp only at hr;subst hr;rcases hz with hz|⟨hz,y⟩|⟨y,e1,e2⟩
  .cases hz
  .cases hz
  .refine abX ⟨_,rfl,λz=>(nomatch z),?_⟩;have e3:gi p q=false:=by unfold gi;rw[e1,e2];simp
   rw[e3] at h;exact h
theorem Sy(hh:A.handled=none)(ha:jW s.heap a p)(hb:jW s.heap b q)(hu:A.in1.units<af0)(h:∀ h' tk,(∀ c o,s.heap.get? c=some o->h'.get? c=some o)->Q (.ref (if gi q p=true then b else a)) { s with heap:=h',toks:=tk }):ack (model prog w) A (call (.builtin "min") [.ref a,.ref b]) Q E s:=by
 have nm:(toString "min" ++ toString ".loop" : String) = "min.loop" := by decide
 refine call_function_tree ai7 aiP aiQ (PySem.F.args_min2 _ _) ?_;show ack _ A.in1 (ad0 "min" ["key","default"] 0 ⟨[],[]⟩ >>= _) _ _ s;refine abS (ag8 (show ad0 "min" ["key","default"] 0 ⟨[],[]⟩=pure [none,none] from rfl) ?_);show ack _ A.in1 (ajZ [.ref a,.ref b] >>= _) _ _ s;refine abS (adb ?_);have hT:(s.heap.push { cls:=.type "tuple",data:=.seq #[.ref a,.ref b] }).IsTuple s.heap.objs.size #[.ref a,.ref b]:=⟨_,ab8 _ rfl,rfl,0,rfl⟩
 refine abS (aiq hT ?_);show ack _ A.in1 (aks [] >>= _) _ _ _;refine abS (adb ?_);generalize e1:s.heap.push { cls:=.type "tuple",data:=.seq #[.ref a,.ref b] }=h1 at hT;have z1:h1.objs.size=s.heap.objs.size+1:=by rw[<- e1];exact aez ..
 have k1:∀ c o,s.heap.get? c=some o->h1.get? c=some o:=λc o e=>by rw[<- e1];exact abY _ e
 dsimp only;generalize e2:h1.push { cls:=.type "tuple_iterator",data:=.fields #[.ref s.heap.objs.size,.int 0 0] }=h2;have z2:h2.objs.size=h1.objs.size+1:=by rw[<- e2];exact aez ..
 have k2:∀ c o,h1.get? c=some o->h2.get? c=some o:=λc o e=>by rw[<- e2];exact abY _ e
 have W:=Walks.tuple (prog:=prog) (w:=w) (A:=A.in1) hh h1.objs.size s.heap.objs.size (by rw[z1];exact acf (aex _)) #[.ref a,.ref b];have zC:h2.IsTupleIter h1.objs.size s.heap.objs.size 0/\h2.IsTuple s.heap.objs.size #[.ref a,.ref b]:=⟨⟨_,by rw[<- e2];exact ab8 _ rfl,rfl,rfl⟩,by rw[<- e2];exact hT.push _⟩
 have zs:h2.objs.size∉[h1.objs.size,s.heap.objs.size]:=λz=>by
  simp only[acd,ad7,or_false] at z;rcases z with z|z
  .rw[z2] at z;exact aja _ z
  .rw[z2,z1] at z;exact absurd z (by intro z;have:s.heap.objs.size<s.heap.objs.size+1+1:=aeS (aex _);rw[z] at this;exact ads _ this)
 have nS:h2.objs.size∉[h1.objs.size]:=λz=>zs (by simp at z;simp[z]);have up:∀ c o,s.heap.get? c=some o->c∉[h1.objs.size]/\c≠h2.objs.size/\(h2.push { cls:=.type "list",data:=.seq #[] }).get? c=some o:=λc o e=>by have l1:=abZ (k1 c o e);have l2:=abZ (k2 c o (k1 c o e));exact⟨λz=>by simp at z;rw[z] at l1;exact ads _ l1,acf l2,abY _ (k2 c o (k1 c o e))⟩
 let G:aek->Prop:=λh=>jW h a p/\jW h b q;have bV:∀ (x:ab6) (r:P2),jW s.heap x r->x∉[h1.objs.size]/\x≠h2.objs.size:=λx r hx=>by obtain⟨o,y,y,y,e,y⟩:=hx;exact⟨(up x o e).1,(up x o e).2.1⟩
 have hG:∀ h h',G h->(∀ b o,b∉[h1.objs.size]->b≠h2.objs.size->h.get? b=some o->h'.get? b=some o)->G h':=λh h' g k=>⟨g.1.keep λo e=>k a o (bV a p ha).1 (bV a p ha).2 e,g.2.keep λo e=>k b o (bV b q hb).1 (bV b q hb).2 e⟩
 let bt:Nat->Nat->Bool:=λi j=>gi (if i=0 then p else q) (if j=0 then p else q);have HV:∀ i v,(#[acy a,acy b]:Array ab1)[i]?=some v->(i=0/\v = .ref a)∨(i=1/\v = .ref b):=λi v e=>by
  match i,e with
  | 0,e=>cases e;exact .inl ⟨rfl,rfl⟩
  | 1,e=>cases e;exact .inr ⟨rfl,rfl⟩
  | i+2,e=>simp at e
 have sJ:∀ i j vi vj (s:ab9) (Q:ab1->ab9->Prop) (E:ab1->ab9->Prop),(#[acy a,acy b]:Array ab1)[i]?=some vi->(#[acy a,acy b]:Array ab1)[j]?=some vj->G s.heap->Q (.bool (bt i j)) s->ack (model prog w) A.in1 (af8 .Lt vi vj) Q E s:=by
  intro i j vi vj s Q E ei ej g hq;rcases HV i vi ei with ⟨rfl,rfl⟩|⟨rfl,rfl⟩<;>rcases HV j vj ej with ⟨rfl,rfl⟩|⟨rfl,rfl⟩
  .exact wN g.1 g.1 hu hq
  .exact wN g.1 g.2 hu hq
  .exact wN g.2 g.1 hu hq
  .exact wN g.2 g.2 hu hq
 have g0:G (h2.push { cls:=.type "list",data:=.seq #[] }):=⟨ha.keep λo e=>(up a o e).2.2,hb.keep λo e=>(up b o e).2.2⟩
 have oS:(h2.push { cls:=.type "list",data:=.seq #[] }).get? h2.objs.size=some { cls:=.type "list",dict:=none,data:=.seq #[] 0,slots:=#[] }:=ab8 _ rfl;have pW:=W.frame 0 h2 (h2.push { cls:=.type "list",data:=.seq #[] }) zC λb y o q=>abY _ q;rw[nm];refine abX ⟨adP ad5 _,?_⟩;refine ac4 afr ?_;rw[acO ad5 _];show ack _ A.in1 (aiu (.ref h2.objs.size) >>= _) _ _ _;refine abS (aeY oS rfl ?_);show ack _ A.in1 (tryCatch (aeX (.ref h1.objs.size)) _ >>= _) _ _ _;refine abS (aeZ (W.item 0 _ _ _ (by simp) pW λv h3 tk pv iC kp=>?_));have jQ:=kp _ _ nS oS;show ack _ A.in1 (agR h2.objs.size (λy=>#[v,v]) >>= _) _ _ _;refine abS ?_;refine adZ jQ rfl ?_;rw[nm];have g3:G h3:=hG _ _ g0 λb o hw y e=>kp b o hw e;refine abX ⟨adP ad5 _,(FN (by decide) afr ad5) W hG sJ zs 1 0 _ v _ (by simp) (W.frame _ _ _ iC λb hf o e=>?_) (hG _ _ g3 λb o y mM e=>(acn _ _ (acY mM)).trans e) pv (acI _ jQ rfl) λv2 h4 Sz p4 k4=>?_⟩
 .exact (acn _ _ (λz:h2.objs.size=b=>zs (by rw[z];exact hf))).trans e
 .have ev:v2 = .ref (if gi q p=true then b else a):=by
   have e4:(#[acy a,acy b]:Array ab1)[aga bt 1]?=some v2:=by simpa using p4
   have Ak:aga bt 1=if gi q p=true then 1 else 0:=by show (if bt 1 0 then 1 else 0)=_;rfl
   rw[Ak] at e4;by_cases hl:gi q p=true
   .rw[if_pos hl] at e4 ⊢;cases e4;rfl
   .rw[if_neg hl] at e4 ⊢;cases e4;rfl
  subst ev;refine h h4 Sz λc o e=>?_;obtain⟨u1,u2,u3⟩:=up c o e;exact k4 c o u1 u2 ((acn _ _ (acY u2)).trans (kp c o u1 u3))
def HW(H:Hp)(Q:VK)(xs:List V):Prop:=∃ (a b:ab6) (p q:P2),xs=[.ref a,.ref b]/\H a=some (.tup [.int p.1,.int p.2])/\H b=some (.tup [.int q.1,.int q.2])/\Q (.ref (if gi q p=true then b else a)) H
theorem SA(hc:X.calm=true)(hu:X.A.units+1<af0):eU X (.builtin "min") (λxs H Q=>HW H Q xs):=by
 intro pins s σ H xs us Q I r h;obtain⟨a,b,p,q,rfl,ha,hb,hq⟩:=h;obtain⟨u,v,rfl,ru,rv⟩:=vals2 r;cases ru;cases rv;have pr:∀ (x:ab6) (r:P2),H x=some (.tup [.int r.1,.int r.2])->jW s.heap x r:=λx r hx=>by
  obtain⟨y,aw,hv,hi⟩:=(show bM X.prog X.w H s.heap x (.tup [.int r.1,.int r.2]) from I.az x _ hx)
  obtain⟨u1,u2,rfl,⟨t1,rfl⟩,⟨t2,rfl⟩⟩:=vals2 hv;obtain⟨o,ho,br,n,hd⟩:=hi;exact⟨o,t1,t2,n,ho,br,hd⟩
 exact Sy (I.ok.hd hc) (pr a p ha) (pr b q hb) (show X.A.units+1<af0 from hu) λh' tk k=>⟨.ref _,H,I.kept k,rfl,hq⟩
end
local macro_rules | `(tactic| walk_at "o") => `(tactic| ((try simp only [PySem.Addr] at *); lia))
section
end
section
def HX(vs:List ab1)(kis:List (List Int))(i:Nat):Prop:=∃ x t,vs[i]?=some (.int x t)/\kis.getD i []=[x]
theorem SD(hk:∀ i,i<vs.length->HX vs kis i):wC prog w h vs kis:=λh2=>by
 refine⟨oneType',λA E s e=>⟨λQ q=>PySem.W.kas_kind (T:=.type "int") h2 (λv hv=>?_) (by decide) (by decide) q,λi j hi hj C q=>?_⟩⟩
 .obtain⟨i,hi,rfl⟩:=aii hv;obtain⟨x,tt,e,y⟩:=hk i hi;rw[abW hi] at e;rw[Option.some.inj e];exact PySem.W.Looks.now
 .obtain⟨x1,t1,a1,l1⟩:=hk i hi;obtain⟨x2,t2,a2,l2⟩:=hk j hj;rw[abV,abV,a1,a2];refine PySem.W.kat_lt_int (cast (congrArg (λb=>C b s) ?_) q);unfold dh;rw[l1,l2,HT.nO];by_cases e:x1=x2
  .rw[if_pos e,e];simp[HT.lexLt]
  .rw[if_neg e]
theorem SE(hl:kis.length=vs.length)(fP:vs.length<64)(hk:∀ i,i<vs.length->HX vs kis i)(sZ:∀ (A':adz) (Q':List ab1->ab9->Prop) (E':ab1->ab9->Prop),A'.handled=A.handled->(∀ h' tk,(∀ b o,s.heap.get? b=some o->h'.get? b=some o)->s.heap.objs.size<=h'.objs.size->Q' vs { s with heap:=h',toks:=tk })->ack (model prog w) A' (collect (.ref r)) Q' E' s)(q:∀ l h' tk,s.heap.objs.size<=l->(∀ b o,s.heap.get? b=some o->h'.get? b=some o)->(∃ c,h'.get? l=some (aeF "list" (aec ((cZ (dh kis) vs.length).toList.map λi=>vs.getD i Value.none)) c))->Q (.ref l) { s with heap:=h',toks:=tk }) :
 ack (model prog w) A (call (.builtin "sorted") [.ref r]) Q E s:=G6 hl fP (λg y=>SD hk) sZ q
end
noncomputable def oi(w:ado):Bool:=!(w.params.followText "set-order")
section
noncomputable abbrev jX(w:ado):Obj:={ cls:=.type "set",dict:=none,data:=.set #[] 0 (.fresh 0 0 (oi w)) }
theorem SF(a:ab1)(h:Q₁ (.ref s.heap.objs.size) { s with heap:=s.heap.push (jX w) }) :
 aeV (model prog w) A (.call (.builtin "set.__new__") ⟨[.type "set",a],[]⟩) (wants Q₁ E) s:=by
 refine ajB (show ack _ A.in1 (do afV "set.__new__" ⟨[.type "set",a],[]⟩;again (.builtin "set.__new__" ⟨[.type "set",a],[]⟩)) _ _ s from ?_);refine abS (ag8 (PySem.F.newCall_set_1 a) (abX ⟨adP ahN _,ac4 PySem.F.entry_set_new ?_⟩));rw[acO ahN _];unfold adY.«set.__new__» Builtin.Frozenset.newClass;have mV:=PySem.sub_set_self;obtain⟨hp,g,d,tk,os⟩:=s;dsimp only;wp_walk;refine ae5 (abX ?_);dsimp only;simp only[newObj];exact abS (wpAny_alloc (abX (abX h)))
theorem SG{h:aek}{S:ab6}{o:Obj}{es es':Array (Int × ab1)}{ep:Nat}{t t':aj0}(g1:h.get? S=some o)(g3:o.data = .set es ep t) :
 (h.update S (ajR es' t')).get? S=some { o with data:=.set es' (ep+1) t' }:=by
 have:=acI (ajR es' t') g1 (by rw[putSet_of es' t' g3];rfl);rw[putSet_of es' t' g3] at this;exact this
theorem HY:∀ {xs:List α} {l:List β},l.Perm (xs.map f)->∃ ys:List α,l=ys.map f/\ys.Perm xs:=by
 intro xs l h;generalize hz:xs.map f=z at h
 induction h generalizing xs with
 | nil=>exact⟨[],rfl,by cases xs with|nil=>exact .nil|cons=>cases hz⟩
 | @cons a l1 l2 p ih =>
  cases xs with
  | nil=>cases hz
  | cons x xs =>
   obtain⟨e1,e2⟩:=List.cons.inj hz;obtain⟨ys,rfl,q⟩:=ih e2;exact⟨x::ys,by rw[<- e1];rfl,q.cons x⟩
 | swap a b l =>
  cases xs with
  | nil=>cases hz
  | cons x xs =>
   cases xs with
   | nil=>simp at hz
   | cons y xs =>
    simp only[acs,List.cons.injEq] at hz;obtain⟨e1,e2,e3⟩:=hz;exact⟨y::x::xs,by simp[e1,e2,e3],.swap x y xs⟩
 | trans p q zP zQ =>
  obtain⟨ys,e,r⟩:=zQ hz;obtain⟨zs,e',r'⟩:=zP e.symm;exact⟨zs,e',r'.trans r⟩
end
theorem HZ:Slot "set_iterator" "__iter__" "set_iterator.__iter__" :=
 .of (owner := "set_iterator") (n := "__iter__") (by rw[agh,aeL];kernel_rfl) (by decide +kernel) (by decide +kernel) (by decide +kernel)
  (by first|exact .inl (by decide +kernel)|exact .inr (by decide +kernel)) (by rw[ah6];kernel_rfl)
theorem SH:agr table "set_iterator.__iter__" = some adY.«dict_keyiterator.__iter__» :=
 entryFor_alias (id' := "dict_keyiterator.__iter__") (by kernel_rfl) (by first|rfl|decide +kernel) (by decide +kernel) (by kernel_rfl)
theorem SJ(a:ab1):ahi "set_iterator.__iter__" ⟨[a],[]⟩:=by unfold ahi;rw[signature?_of (id := "set_iterator.__iter__") (n:=['_','_','r','e','t','i','_','_']) (o:=['r','o','t','a','r','e','t','i','_','t','e','s']) (by kernel_rfl) HP];kernel_rfl
theorem Ia(f:Nat->Nat):∀ (n k:Nat) (left:List α) (out:Array α),left.length=n->(pickOrder.go f n k left out).toList.Perm (out.toList++left)
 | 0,k,left,out,h=>by obtain rfl:left=[]:=adQ.mp h;unfold pickOrder.go;simp
 | n+1,k,left,out,h=>by have hl:f k % left.length<left.length:=Nat.mod_lt _ (by lia);unfold pickOrder.go;rw[abW hl];refine (Ia f n (k+1) _ _ (by rw[List.length_eraseIdx_of_lt hl];lia)).trans ?_;rw[aiU,agT];refine List.Perm.append_left _ ?_;have:=List.perm_middle (a:=left[f k % left.length]) (l₁:=left.take (f k % left.length)) (l₂:=left.drop (f k % left.length+1));rw[List.eraseIdx_eq_take_drop_succ];refine .trans ?_ (.of_eq (aee (f k % left.length) left));rw[acQ hl];exact this.symm
theorem SK(f:Nat->Nat)(xs:Array α):(aki f xs).toList.Perm xs.toList:=by unfold aki;simpa using Ia f xs.size 0 xs.toList #[] (by simp)
section
noncomputable def jY(w:ado)(S:ab6)(ep:Nat)(es:Array (Int × ab1)):Array (Int × ab1):=if w.params.followText "set-order" then aki (w.params.setOrder S ep) es else es
theorem AD(w:ado)(S:ab6)(ep:Nat)(es:Array (Int × ab1)):(jY w S ep es).toList.Perm es.toList:=by
 unfold jY;split
 .exact SK _ _
 .exact .refl _
structure qC(w:ado)(S:ab6)(o:Obj)(ep:Nat)(t:aj0)(L:List (Nat × Int × ab1)):Prop where
 cls:o.cls = .type "set"
 dat:o.data = .set (L.map (·.2)).toArray ep t
 tok:iK t L
 led:t.led=oi w
 pln:t.plain=true
theorem SM(x:qC w S o ep t L)(h:s.heap.get? S=some o)(q:Q false s):ack (model prog w) A (setDrawn S) Q E s:=by unfold setDrawn ajS;refine abS (afC h x.dat x.tok.fits ?_);dsimp only;refine abS (abS (ae5 (abX (abX ?_))));refine cast (congrArg (λb=>Q b s) ?_) q;symm;rw[Bool.and_eq_false_iff];right;show (!t.plain && _)=false;rw[x.pln];rfl
noncomputable abbrev AE(S:ab6)(n ep:Nat)(sl i:Int):Obj:={ cls:=.type "set_iterator",data:=.fields #[afq sl,afq i,.ref S,afq n,afq ep] }
theorem SN(x:qC w S o ep t L)(h:s.heap.get? S=some o)(hQ:Q (.ref s.heap.objs.size) { s with heap:=s.heap.push (AE S L.length ep 0 0) }):ack (model prog w) A (aj9 (.ref S)) Q E s:=by have hT:s.TypeIs (.ref S) "set" := ⟨o,h,x.cls⟩;refine agV hT ajC (adj ajC hT Sv ?_ (F.args_set_iter_1 _));unfold adY.«frozenset.__iter__»;refine abS (m:=Builtin.Frozenset.slot0 _ _) (abX ?_);refine abS (m:=Builtin.Frozenset.sizeOf _) (abS (agi h x.dat x.tok.fits (abX ?_)));refine abS (SM x h ?_);simp only[acu,if_false];refine abS (abX ?_);refine abS (wpAny_setEpoch_of h x.dat x.tok.fits ?_);refine abS (adb (abX ⟨_,rfl,"set_iterator",_,⟨_,ab8 _ rfl,rfl⟩,qB.lookup,?_⟩));refine cast (congrArg (λb=>Q _ { s with heap:=s.heap.push b }) ?_) hQ;simp[AE]
theorem Ib(x:qC w S o ep t L)(h:s.heap.get? S=some o)(hb:w.params.followText "set-order" = false->SetTable.below t.place sl=i)(q:∀ fJ,(w.params.followText "set-order" = false->i<L.length->SetTable.below t.place fJ=i+1)->Q (((jY w S ep (L.map (·.2)).toArray)[i]?).map λe=>(e.2,fJ)) s):ack (model prog w) A (akt S sl i ep) Q E s:=by
 unfold akt ajS;refine abS (afC h x.dat x.tok.fits ?_);dsimp only;refine abS (abS (ae5 (abX ?_)));unfold jY at q;cases hf:w.params.followText "set-order" with
 | true =>
  simp only[hf,if_true] at q;rw[if_pos (show (model prog w).w.params.followText "set-order" = true from hf),if_neg (by simp)];unfold setWalk ajS;refine abS (abS (afC h x.dat x.tok.fits ?_));refine abS (abS (ae5 (abX ?_)));rw[if_pos (show (model prog w).w.params.followText "set-order" = true from hf)];exact abS (ae5 (abX (abX (q sl (λhz=>nomatch hz)))))
 | false =>
  simp only[hf,acu,if_false] at q;rw[if_neg (show ¬ (model prog w).w.params.followText "set-order" = true from by rw[show (model prog w).w.params.followText "set-order" = false from hf];decide)];refine afm (λz=>absurd (show (!t.plain && _)=true from z) (by rw[x.pln];simp)) (λ_=>?_);have hl:t.led=true:=by rw[x.led];unfold oi;rw[hf];rfl
  refine abS ?_;show ack _ _ (if (!t.led && !(L.map (·.2)).toArray.isEmpty)=true then _ else pure _) _ _ _;rw[if_neg (by rw[hl];simp)];refine abX (abX ?_);rw[hb hf];by_cases hi:i<L.length
  .have e1:(L.map (·.2)).toArray[i]?=some L[i].2:=by simp[hi]
   have e2:t.place[i]?=some L[i].1:=by rw[x.tok.pl];simp[hi]
   have:=q (L[i].1+1) λ_ _=>x.tok.next hi
   rw[e1] at this ⊢;rw[e2];exact this
  .have e1:(L.map (·.2)).toArray[i]?=none:=by simp;lia
   have:=q 0 λ_ hz=>absurd hz hi;rw[e1] at this ⊢;exact this
theorem SO(hh:A.handled=none)(x:qC w S o ep t L)(bS:S≠I):Walks prog w A I [I,S] [I] L.length (λi v=>((jY w S ep (L.map (·.2)).toArray)[i]?).map (·.2)=some v)
 (λi h=>h.get? S=some o/\∃ sl:Nat,h.get? I=some (AE S L.length ep sl i)/\(w.params.followText "set-order" = false->SetTable.below t.place sl=i)) where
 sub:=λb hb=>by simp at hb;simp[hb]
 frame:=λy y y st hk=>⟨hk S (by simp) _ st.1,let ⟨sl,a,b⟩:=st.2;⟨sl,hk I (by simp) _ a,b⟩⟩
 item:=λi s Q E hi st hQ=>by
  obtain⟨h1,sl,hI,hb⟩:=st;have hT:s.TypeIs (.ref I) "set_iterator" := ⟨_,hI,rfl⟩;have hlen:(jY w S ep (L.map (·.2)).toArray).size=L.length:=by have:=(AD w S ep (L.map (·.2)).toArray).length_eq;simpa using this
  have cY:i<(jY w S ep (L.map (·.2)).toArray).size:=by lia
  unfold aeX;refine abS (afl (adn (name:=adq "__next__") hT qB
   (adj qB hT HQ ?_ (HR _))))
  unfold adY.«set_iterator.__next__»;refine abS (abX (abS (ae1 hI rfl ?_)));show ack _ _ (setEntries S >>= _) _ _ _;refine abS (agi h1 x.dat x.tok.fits ?_);refine afm (λz=>absurd z (by simp)) (λy=>?_);show ack _ _ (akt S (ahO (sl:Int)) (ahO (i:Int)) (ahO (ep:Int)) >>= _) _ _ _;rw[acS,acS,acS];refine abS (Ib x h1 hb λfJ cP=>?_);rw[acG cY];dsimp only [Option.map_some];refine abS (afF hI rfl (by simp) ?_);have Ic:=acI (aeQ (·.setIfInBounds 0 (afq (fJ:Int)))) hI rfl;refine abS (afF Ic rfl (by simp[aeQ]) ?_);have SQ:=acI (aeQ (·.setIfInBounds 1 (afq ((i:Int)+1)))) Ic rfl;have Ie:∀ (b:ab6) (u:Obj),b≠I->s.heap.get? b=some u->((s.heap.update I (aeQ (·.setIfInBounds 0 (afq (fJ:Int))))).update I (aeQ (·.setIfInBounds 1 (afq ((i:Int)+1))))).get? b=some u:=λb u hb e =>
   (acn _ _ (acY hb)).trans ((acn _ _ (acY hb)).trans e)
  refine abX ⟨_,rfl,abX (hQ _ _ s.toks (by rw[acG cY];rfl) ⟨Ie S o bS h1,fJ,SQ,λhf=>cP hf hi⟩ λb u hb e=>Ie b u (by simpa using hb) e)⟩
 done:=λs Q E st hQ=>by
  obtain⟨h1,sl,hI,hb⟩:=st;have hT:s.TypeIs (.ref I) "set_iterator" := ⟨_,hI,rfl⟩;have hlen:(jY w S ep (L.map (·.2)).toArray).size=L.length:=by have:=(AD w S ep (L.map (·.2)).toArray).length_eq;simpa using this
  unfold aeX;refine abS (afl (adn (name:=adq "__next__") hT qB
   (adj qB hT HQ ?_ (HR _))))
  unfold adY.«set_iterator.__next__»;refine abS (abX (abS (ae1 hI rfl ?_)));show ack _ _ (setEntries S >>= _) _ _ _;refine abS (agi h1 x.dat x.tok.fits ?_);refine afm (λz=>absurd z (by simp)) (λy=>?_);show ack _ _ (akt S (ahO (sl:Int)) (ahO (L.length:Int)) (ahO (ep:Int)) >>= _) _ _ _;rw[acS,acS,acS];refine abS (Ib x h1 hb λfJ cP=>?_);rw[aeD (by lia)];show ack _ _ (ajd (.ref I) 2 .none >>= _) _ _ s;refine abS (afF hI rfl (by simp) ?_);show ack _ _ (newExc (.type "StopIteration") [] >>= _) _ _ _;refine abS ?_;simp only[newExc,ajZ];refine abS (adb ?_ (by size_fits));refine abS (m:=agA _ _) (ag8 (a:=Value.none) (by first|rfl|(simp only[agA];rfl)) ?_);refine adb ?_ (by size_fits);simp only[raiseNew];refine abS (wpAny_handled ?_);rw[show A.in1.handled=none from hh];refine abS (abX (wpAny_throw ?_));refine abS (ae4 (T := "StopIteration") (b:=true) ⟨_,ab8 _ rfl,rfl⟩ ah4 ?_);refine abX (hQ _ s.toks λb u hb e=>(((ac8 ..).extBut.push _).push _) b u (by simpa using hb) e)
 self:=λy s y y st hQ=>by obtain⟨h1,sl,hI,hb⟩:=st;have hT:s.TypeIs (.ref I) "set_iterator" := ⟨_,hI,rfl⟩;refine agV hT HZ (adj HZ hT SH ?_ (SJ _));show ack _ _ (ret (.ref I)) _ _ s;exact abX ⟨_,rfl,"set_iterator",_,hT,qB.lookup,hQ⟩
theorem SR(x:qC w S o ep t L):ah5 prog w "set" S S L.length (λi v=>((jY w S ep (L.map (·.2)).toArray)[i]?).map (·.2)=some v) (λh=>h.get? S=some o) where
 type:=λy h=>⟨o,h,x.cls⟩
 there:=λy h=>⟨abZ h,abZ h⟩
 keep:=λy y h hk=>hk S (.inl rfl) o h
 notList:=by decide
 notTuple:=by decide
 hint:=λy y y y h hq=>Sw ⟨o,h,x.cls⟩ hq
 iter:=λy y hh h=>⟨_,_,(λy y hq=>SN x h hq),SO hh x (acf (abZ h)),
  ⟨abY _ h,0,ab8 _ rfl,λy=>x.tok.zero⟩⟩
noncomputable abbrev lP(m:Int × agj):Int × ab1:=(aje m.1,.int m.1 m.2)
def lQ(h:aek)(S:ab6)(M:List (Int × agj))(led:Bool):Prop :=
 ∃ o ep t L,h.get? S=some o/\o.cls = .type "set" /\ o.data = .set (L.map (·.2)).toArray ep t/\iK t L/\t.led=led/\t.plain=true/\L.map (·.2)=M.map lP
theorem SS(prog:acK)(w:ado){M:List (Int × agj)}:ElemsOf (afT prog w) (M.map lP):=λe he=>by obtain⟨m,y,rfl⟩:=ab7.mp he;exact⟨⟨m.1,by simp[afT,afu],rfl⟩,rfl⟩
theorem add_int(hS:lQ s.heap S M led)(hlen:M.length<2)(h0:k∈M.map (·.1)->Q false s)(h1:k∉M.map (·.1)->∀ h' M',Heap.SameBut S s.heap h'->lQ h' S M' led->M'.Perm ((k,tt)::M)->Q true { s with heap:=h' }) :
 ack (model prog w) A (setAddHashed S (.int k tt) (aje k)) Q E s:=by
 obtain⟨o,ep,t,L,g1,g2,g3,tk,g4,g5,g7⟩:=hS;have hlM:L.length=M.length:=by have:=congrArg List.length g7;simpa using this
 have tJ:ElemsOf (afT prog w) (L.map (·.2)).toArray.toList:=by rw[agk,g7];exact SS prog w
 unfold setAddHashed setAddHashedIn;refine adk (abS (afC g1 g3 tk.fits ?_));dsimp only;rw[byScan_of (knd:=afT prog w) rfl (by rw[acb,abT];unfold scanBound;lia) tJ];simp only[if_true];unfold setAddByScan;refine abS (abS (afd ?_));refine abS (wpAny_setScan_of (knd:=afT prog w) (k:=k) (by simp[afT,afu]) g1 g3 tk.fits tJ ?_);rw[agk,g7];by_cases cg:k∈M.map (·.1)
 .obtain⟨m,hm,hmk⟩:=ab7.mp cg;cases hf:aj2 (λe=>(afT prog w).is k e.2) (M.map lP) with
  | none =>
   have:=agD.mp hf (lP m) (ab7.mpr ⟨m,hm,rfl⟩);rw[<- hmk] at this;simp[afT,afu] at this
  | some j =>
   dsimp only;exact abX (abX (h0 cg))
 .have hf:aj2 (λe=>(afT prog w).is k e.2) (M.map lP)=none:=by refine agD.mpr λe he=>?_;obtain⟨m,hm,rfl⟩:=ab7.mp he;simp only[afT,afu];exact beq_eq_false_iff_ne.mpr λz=>cg (ab7.mpr ⟨m,hm,z⟩)
  rw[hf];dsimp only;obtain⟨j,j0,j1⟩:=tk.free (by lia) (aje k);obtain⟨t',p,L',p1,p2,p3,p5,p6,p7,hperm⟩:=tk.put (by lia) j1 (aje k) (ael k tt);have SU:layNew t (M.map lP).toArray (aje k) (.int k tt)=((L'.map (·.2)).toArray,t',false,false):=by rw[<- g7];unfold layNew;rw[j0];dsimp only;rw[p1,p3];have:=p2.fits;unfold SetTable.orStandIn;rw[this];rfl
  rw[SU];dsimp only;refine abS ?_;show ack _ _ (pure ()) _ _ _;refine abX ?_;rw[p6,g5];simp only[if_true];refine abS ?_;rw[hashByValue_scannable 8 (show (ael k tt).scannable=true from rfl)];refine abX ?_;rw[show plainKind (ael k tt)=true from rfl];simp only[if_true];have hsz:(L'.map (·.2)).toArray.size<=aco:=by have:=hperm.length_eq;simp at this ⊢;rw[this];exact ab3 (show _<=64 by lia) (by decide)
  refine abS (wpAny_storeSet_of g1 g3 ?_ hsz);have gS:=SG (es':=(L'.map (·.2)).toArray) (t':=t') g1 g3;have SV:=ac8 s.heap S (ajR (L'.map (·.2)).toArray t');have qD:(L'.map (·.2)).Perm (((k,tt)::M).map lP):=by refine (hperm.map (·.2)).trans ?_;simp only[acs,g7];exact .refl _
  have SW:t'.tooFull=false:=by unfold SetTable.tooFull;rw[p7,p2.ma];simp;lia
  rw[SW];simp only[ah2,acu,if_false];obtain⟨M',e1,e2⟩:=HY qD;exact abX (abX (h1 cg _ M' SV ⟨_,_,t',_,gS,g2,rfl,p2,p5.trans g4,p6.trans g5,e1⟩ e2))
def tK(key:Nat->Int)(i:Nat)(M:List (Int × agj)):Prop :=
 (M.map (·.1)).Nodup/\(∀ m∈M,∃ j,j<i/\m.1=key j)/\(∀ j,j<i->key j∈M.map (·.1))/\M.length<=i
theorem SX(e:h.get? S=some (jX w)):lQ h S [] (oi w) :=
 ⟨_,0,_,([]:List (Nat × Int × ab1)),e,rfl,rfl,⟨rfl,rfl,rfl,.inl rfl⟩,rfl,rfl,rfl⟩
theorem SY{R:aiY->ab9->Prop}{I:ab6}{fp wr:List ab6}{G:Array GenState->Array GenState->Prop}{n:Nat}{P:Nat->ab1->Prop}{St:Nat->ab9->Prop}(W:WalksS prog w A.in1 I fp wr G n P St)(S:ab6)(pX:S∉fp){key:Nat->Int}{led:Bool}(Tc:∀ i v,P i v->∃ tt,v = .int (key i) tt)(hn:n<=2) :
 ∀ (k i:Nat) (s:ab9) (M:List (Int × agj)),n-i=k->i<=n->St i s->lQ s.heap S M led->tK key i M ->
  (∀ s' M',Moved (S::wr) G s s'->lQ s'.heap S M' led->tK key n M'->R (.ok (.ret .none)) s') ->
  aeV (model prog w) A (.builtin "set.update.loop" ⟨[.ref S,.ref I],[]⟩) R s:=by
 have Ig:S∉wr:=λh=>pX (W.sub _ h);have mV:∀ b∈wr,b∈S::wr:=λb hb=>acN _ hb;intro k
 induction k with
 | zero =>
  intro i s M hk hi cT hS hM hR;obtain rfl:i=n:=by lia
  refine ac4 ae2 ?_;rw[acO adR _];refine show ack _ A.in1 (aeX (.ref I) >>= _) _ _ s from abS (W.done s _ _ cT λs' hm=>?_);exact show ack _ A.in1 (ret Value.none) _ _ s' from abX (hR s' M (hm.mono mV) (let ⟨o,ep,t,L,ho,rest⟩:=hS;⟨o,ep,t,L,hm.heap S _ Ig ho,rest⟩) hM)
 | succ k ih =>
  intro i s M hk hi cT hS hM hR;have aZ:i<n:=by lia
  refine ac4 ae2 ?_;rw[acO adR _];refine show ack _ A.in1 (aeX (.ref I) >>= _) _ _ s from abS (W.item i s _ _ aZ cT λv s' hP Td hm=>?_);obtain⟨tt,rfl⟩:=Tc i v hP;have lR:lQ s'.heap S M led:=let ⟨o,ep,t,L,ho,rest⟩:=hS;⟨o,ep,t,L,hm.heap S _ Ig ho,rest⟩;refine show ack _ A.in1 (holding [ael (key i) tt] (setAdd S (.int (key i) tt)) >>= _) _ _ s' from abS (adk ?_);unfold setAdd;refine adk (abS ((afT prog w).pyHash (k:=key i) (by simp[afT,afu]) ?_));have go:∀ (h':aek) (M':List (Int × agj)),Heap.SameBut S s'.heap h'->lQ h' S M' led->tK key (i+1) M' ->
   ack (model prog w) A.in1 (again (.builtin "set.update.loop" ⟨[.ref S,.ref I],[]⟩)) (λfin s'=>match fin with|.done f=>R (.ok f) s'|.again c'=>c'.quiet=true/\aeV (model prog w) A c' R s') (λe s'=>R (.error e) s') { s' with heap:=h',toks:=s'.toks+1 }:=by
   intro h' M' kJ AF Te;refine abX ⟨adP adR _,ih (i+1) _ M' (by lia) aZ (W.frame _ s' _ _ Td (af7 _) λb hb o e=>?_) AF Te λsi Tf Tg Th Ti=>?_⟩
   .rw[kJ.2 b (λh:b=S=>pX (by rw[<- h];exact hb))];exact e
   .refine hR si Tf (Moved.trans W.gtrans ((hm.mono mV).then_heap (af7 _) λb o hb e=>?_) Tg) Th Ti;rw[kJ.2 b (λh:b=S=>hb (by rw[h];exact aeE))];exact e
  refine add_int (s:={ s' with toks:=s'.toks+1 }) (M:=M) lR (by have:=hM.2.2.2;lia) (λcg=>?_) (λcg h' M' kJ AF qD=>?_)
  .refine go s'.heap M (Heap.SameBut.refl S s'.heap) lR ⟨hM.1,λm hm=>?_,λj hj=>?_,by have:=hM.2.2.2;lia⟩
   .obtain⟨j,hj,e⟩:=hM.2.1 m hm;exact⟨j,by lia,e⟩
   .by_cases e:j=i
    .rw[e];exact cg
    .exact hM.2.2.1 j (by lia)
  .refine go h' M' kJ AF ⟨((qD.map (·.1)).nodup_iff).mpr (ac9.mpr ⟨cg,hM.1⟩),λm hm=>?_,λj hj=>?_,by have:=qD.length_eq;have:=hM.2.2.2;simp at *;lia⟩
   .rcases acd.mp (qD.mem_iff.mp hm) with rfl|hm
    .exact⟨i,by lia,rfl⟩
    .obtain⟨j,hj,e⟩:=hM.2.1 m hm;exact⟨j,by lia,e⟩
   .refine ((qD.map (·.1)).mem_iff).mpr ?_;by_cases e:j=i
    .rw[e];exact aeE
    .exact acN _ (hM.2.2.1 j (by lia))
theorem Tj(hh:A.handled=none)(hl:s.heap.IsList l items)(hn:items.size<=2)(hit:∀ (i:Nat) (v:ab1),items[i]?=some v->∃ tt,v = .int (key i) tt)(h:∀ (h':aek) (tk:Nat) (M:List (Int × agj)),lQ h' s.heap.objs.size M (oi w)->tK key items.size M->(∀ b o,b<s.heap.objs.size->s.heap.get? b=some o->h'.get? b=some o)->Q (.ref s.heap.objs.size) { s with heap:=h',toks:=tk }) :
 ack (model prog w) A (call (.type "set") [.ref l]) Q E s:=by
 obtain⟨c,tl,hmro⟩:=PySem.F.called_set.mro;have abC:=PySem.F.called_set.made;have mV:=PySem.F.called_set.sub;refine aiK (ajB (show ack _ _ (callAny (.type "set") _) _ _ _ from abX ⟨Code.quiet_builtin _ (by decide +kernel),ac4 PySem.F.entry_type_call ?_⟩));rw[Around.under_plain (weight_type_call_type "set" [.ref l] []) rfl];have h1:=PySem.F.called_set.notType;have h2:=PySem.F.called_set.canCreate;have hct:=PySem.F.typeCall_set_1 (.ref l);repeat (any_goals (first|assumption|wp_step))
 refine afI (SF (.ref l) (E:=E) (Q₁:=λobj s₁=>obj = .ref s.heap.objs.size/\s₁ = { s with heap:=s.heap.push (jX w) }) ⟨rfl,rfl⟩) λr s₁ hr=>?_;cases r with
 | error e=>exact hr
 | ok fl =>
  cases fl with
  | ret obj =>
   obtain⟨rfl,rfl⟩:=hr;have gS:(s.heap.push (jX w)).get? s.heap.objs.size=some (jX w):=ab8 _ rfl;have hT:Shared.TypeIs { s with heap:=s.heap.push (jX w) } (.ref s.heap.objs.size) "set" := ⟨_,gS,rfl⟩;have mW:=PySem.F.called_set.init.lookup;have Ih:=PySem.F.called_set.init.bind (.ref s.heap.objs.size)
   repeat (any_goals (first|assumption|wp_step))
   refine afI (aeW (R:=wants (λr s₂=>r = .none/\∃ h' tk M,s₂ = { s with heap:=h',toks:=tk }/\lQ h' s.heap.objs.size M (oi w)/\tK key items.size M /\
    (∀ b o,b<s.heap.objs.size->s.heap.get? b=some o->h'.get? b=some o)) E) PySem.F.called_set.init.plain PySem.F.entry_set_init (check_set_init_1 hT ?_)) λr₂ s₂ AG=>?_
   .have lt:l<s.heap.objs.size:=let ⟨_,e,_⟩:=hl;abZ e;obtain⟨ol,Ii,br,nl,hdl⟩:=id hl;obtain⟨ocls,odict,odata,oslots⟩:=ol;obtain rfl:ocls = .type "list" := br;obtain rfl:odata = .seq items nl:=hdl;have Tn:(s.heap.push (jX w)).get? l=some { cls:=.type "list",dict:=odict,data:=.seq items nl,slots:=oslots }:=abY _ Ii;have abD:=PySem.F.sub_list_set;have abE:=PySem.F.sub_list_frozenset;have bS:(agG "list" == agG "dict")=false:=by decide
    have qE:(s.heap.push (jX w)).IsList l items:=⟨_,Tn,rfl,nl,rfl⟩
    unfold adY.«set.__init__» noKeywords Builtin.Frozenset.updateFrom;generalize To:aj9=PI;wp_walk;subst To;refine afv qE (abS (wpAny_runValue ?_));have Tp:A.in1.in1.in1.handled=none:=by simp[hh]
    have AH:(s.heap.push (jX w)).objs.size=s.heap.objs.size+1:=aez _ _;have lI:l≠(s.heap.push (jX w)).objs.size:=by rw[AH];exact acf (aeS lt)
    have SI:s.heap.objs.size∉[(s.heap.push (jX w)).objs.size,l]:=by rw[AH];simp only[acd,ad7,or_false,not_or];exact⟨acf (aex _),ac6 lt⟩
    refine SY ((Walks.list Tp _ l lI items).toS) s.heap.objs.size SI (key:=key) (led:=oi w) hit hn (items.size-0) 0 _ [] (by lia) (acr _)
     ⟨⟨_,ab8 _ rfl,rfl,rfl⟩,(qE.push _)⟩ (SX (abY _ gS))
     ⟨agC,λy hx=>(by cases hx),λj hj=>(by lia),acr _⟩ λs' M hm lR hM=>?_
    obtain⟨h',g',d',AI,pK⟩:=s';obtain rfl:g'=s.gens:=hm.gens;obtain rfl:d'=s.drawn:=hm.drawn;obtain rfl:pK=s.os:=hm.os;show ack _ _ _ _ _ _;refine abX (show ack _ _ (ret Value.none) _ _ _ from abX ⟨rfl,h',AI,M,rfl,lR,hM,λb o hb e=>?_⟩);refine hm.heap b o ?_ (abY _ (abY _ e));simp only[acd,ad7,or_false,not_or,AH];exact⟨acf hb,acf (aeS hb)⟩
   .cases r₂ with
    | error e=>exact AG
    | ok Tq =>
     cases Tq with
     | ret r =>
      obtain⟨rfl,h',tk,M,rfl,lR,hM,jb⟩:=AG
      repeat (any_goals (first|assumption|wp_step))
      exact h _ _ M lR hM jb
     | _=>exact AG.elim
  | _=>exact hr.elim
end
theorem Ts(kis:List (List Int))(ns:List Int):eM kis V.non (ns.map V.int)=(eM kis 0 ns).map V.int:=by unfold eM;rw[ac1,abT];refine ad2 λi hi=>?_;have hp:=(qd (n:=ns.length) (n0 kis)).1;have:i<ns.length:=acp.mp (hp.mem_iff.mp hi);simp[ajD,this]
theorem Ij:∀ M:List (Int × agj),Vals ((M.map (·.1)).map V.int) (M.map λm=>ael m.1 m.2)
 | []=>.nil
 | m::M=>.cons ⟨m.2,rfl⟩ (Ij M)
def Ik(K:abU)(t:TE):TE:=λσ H Q=>t σ H λv H1=>∃ (a:ab6) (ns:List Int),v=V.ref a/\ai K H1 a (ns.map V.int)/\ns.length<=2 /\
 ∀ zs:List Int,zs.Nodup->(∀ x,x∈zs↔x∈ns)->zs.Pairwise (· <= ·)->∀ l,H1 l=none->Q (.ref l) (upd H1 l (.lst (zs.map V.int)))
section
theorem Tt(hc:X.calm=true)(he:PE X e t)(oj:Gl X "sorted")(AJ:X.mg "sorted" = none)(qF:acJ "sorted" = some (.builtin "sorted"))(tL:Gl X "set")(lS:X.mg "set" = none)(AK:acJ "set" = some (.type "set"))(da:acm [e] X.env=[(false,eval e X.env)]:=by rfl)(tM:acm [.Call (.Name "set" p2) [e] [] ia] X.env=[(false,eval (.Call (.Name "set" p2) [e] [] ia) X.env)]:=by rfl) :
 PE X (.Call (.Name "sorted" p1) [.Call (.Name "set" p2) [e] [] ia] [] pos) (Ik X.K t):=by
 intro pins s σ H Q I h;refine adp (gd I oj AJ qF ?_ (by decide) (by decide));refine aeq ?_ (by rw[tM];rfl) rfl;rw[tM];show ack _ _ (spliced ((false,eval (.Call (.Name "set" p2) [e] [] ia) X.env)::adF pos [])) _ _ s;refine adI ?_;refine adp (gd I tL lS AK ?_ (by decide) (by decide));refine acD ?_ (by rw[da];rfl) rfl;rw[da];show ack _ _ (spliced ((false,eval e X.env)::adF ia [])) _ _ s;refine adI (aE (he pins s σ H _ I h) λu s1 zq=>?_);obtain⟨x,H1,I1,r1,q1⟩:=zq;obtain⟨a,ns,rfl,hS,hn,q⟩:=q1;cases r1;refine adT ?_;obtain⟨us,rv,pl,hz⟩:=I1.list hS;have hl:us.length=ns.length:=by have:=rv.length;rw[abT] at this;lia
 have hint:=intsAre_of rv;refine Tj (items:=us.toArray) (key:=λi=>ns.getD i 0) (I1.ok.hd hc) pl.isList (by simp;lia) (λi v hv=>?_) λh2 tk M Tu hM hk=>?_
 .exact IntsAre.int_at hint i v (by simpa using hv)
 refine adT ?_;obtain⟨o,ep,tb,L,g1,g2,g3,AI,g4,g5,g7⟩:=Tu;have hx:qC X.w s1.heap.objs.size o ep tb L:=⟨g2,g3,AI,g4,g5⟩
 have hsz:us.toArray.size=us.length:=by simp
 rw[hsz] at hM;obtain⟨m1,m2,m3,m4⟩:=hM;have Tv:L.length=M.length:=by have:=congrArg List.length g7;simpa using this
 have hp:((jY X.w s1.heap.objs.size ep (L.map (·.2)).toArray).toList).Perm (M.map lP):=by have:=AD X.w s1.heap.objs.size ep (L.map (·.2)).toArray;rw[agk,g7] at this;rw[g7];exact this
 obtain⟨M',e1,e2⟩:=HY hp;have abF:M'.length=L.length:=e2.length_eq.trans Tv.symm;have cC:(M'.map (·.1)).Nodup:=((e2.map (·.1)).nodup_iff).mpr m1;have Tw:=Ij M';refine SE (s:={ s1 with heap:=h2,toks:=tk }) (kis:=M'.map λm=>[m.1]) (vs:=M'.map λm=>ael m.1 m.2) (by simp) (by simp;lia) (λi hi=>?_) (λA' Q' E' hA hq=>?_) λl h' v3 k1 k2 k3=>?_
 .have cY:i<M'.length:=by simpa using hi
  exact⟨M'[i].1,M'[i].2,by simp[cY],by simp[ajD,cY]⟩
 .refine G7 (s:={ s1 with heap:=h2,toks:=tk }) (SR hx) (hA.trans (I1.ok.hd hc)) g1 (ab3 (show L.length<=64 by lia) (by decide)) λh3 zD acc b1 b2 b3=>?_;have Tz:acc.toList=M'.map λm=>ael m.1 m.2:=by
   refine aeR λi=>?_;rw[afP];by_cases hi:i<L.length
   .have cY:i<acc.size:=by rw[b3.1];exact hi
    have Il:i<M'.length:=by lia
    have:=b3.2 i acc[i] (acG cY);dsimp only at this;have e3:(jY X.w s1.heap.objs.size ep (L.map (·.2)).toArray)[i]?=some (lP M'[i]):=by rw[<- afP,e1];simp[Il]
    rw[e3] at this;rw[acG cY,<- this];simp[Il]
   .rw[aeD (by rw[b3.1];lia)];rw[eq_comm,List.getElem?_eq_none_iff];simp only[abT];lia
  rw[Tz];exact hq h3 zD b1 b2
 .refine Hc (s:=s1) (ks:=(M'.map (·.1)).map V.int) (kis:=M'.map λm=>[m.1]) (us:=M'.map λm=>ael m.1 m.2) I1 Tw ?_ ?_ (λb u e=>k2 b u (hk b u (abZ e) e)) k3 λl' rE=>?_
  .simp only[abT];exact ab3 (show _<=64 by lia) (by decide)
  .exact ab3 (afG (abZ g1)) k1
  .rw[Ts];refine q _ ((qf.nodup_iff).mpr cC) (λx=>?_) ?_ l' rE
   .rw[qf.mem_iff,(e2.map (·.1)).mem_iff];constructor
    .intro jb;obtain⟨m,hm,rfl⟩:=ab7.mp jb;obtain⟨j,hj,ej⟩:=m2 m hm;have:j<ns.length:=by lia
     rw[ej];simp[ajD,this]
    .intro jb;obtain⟨j,hj,rfl⟩:=aii jb;have:=m3 j (by lia);simpa [ajD,hj] using this
   .have:=GD (kis:=M'.map λm=>[m.1]) (d:=(0:Int)) (as:=M'.map (·.1)) (f:=λx=>[x]) (by rw[ac1];rfl);refine this.imp λ{a b} fh=>?_;rw[HT.nO] at fh;by_cases e:b=a
    .lia
    .rw[if_neg e] at fh;have:=of_decide_eq_false fh;lia
def Im(r r' sP:R2)(ta tb tc td:TE):TE:=λσ H Q=>ta σ H λx H1=>tb σ H1 λy H2=>r x y H2 λz H3=>∃ k,z = .bl k /\
 (if k=true then tc σ H3 λw' H4=>r' y w' H4 λz2 H5=>∃ k2,z2 = .bl k2/\(if k2=true then td σ H5 λw2 H6=>sP w' w2 H6 Q else Q (.bl false) H5) else Q (.bl false) H3)
theorem TC(ho:bf X (acX op) r)(cS:bf X (acX iZ) r')(TF:bf X (acX Io) sP)(ha:PE X a ta)(hb:PE X b tb)(hc:PE X c tc)(hd:PE X d td)(hm:ajg [op,iZ,Io] [b,c,d]=false:=by with_unfolding_all rfl):PT X (.Compare a [op,iZ,Io] [b,c,d] pos) (vq (Im r r' sP ta tb tc td)):=by
 intro pins s σ H Q I h;refine isTrue_chain (aE (ha pins s σ H _ I h) λv s1 ⟨x,H1,I1,r1,q1⟩=>aka (aE (hb pins s1 σ H1 _ I1 q1) λu s2 ⟨y,H2,I2,r2,q2⟩ =>
  aE (ho pins s2 σ H2 x y v u _ I2 r1 r2 q2) λd s3 ⟨z,H3,I3,r3,k,e,q3⟩=>?_)) hm
 subst e;cases r3;refine acL ?_;cases k with
 | false =>
  obtain⟨k',e',q'⟩:=q3;cases e';exact (if_neg (by decide)).mpr ⟨H3,I3,q'⟩
 | true =>
  refine (if_pos rfl).mpr (aka (aE (hc pins s3 σ H3 _ I3 q3) λw' s4 ⟨z',H4,I4,r4,q4⟩=>aE (cS pins s4 σ H4 y z' u w' _ I4 r2 r4 q4) λd2 s5 zq=>?_));obtain⟨z2,H5,I5,r5,k2,e2,q5⟩:=zq;subst e2;cases r5;refine acL ?_;cases k2 with
  | false =>
   obtain⟨k',e',q'⟩:=q5;cases e';exact (if_neg (by decide)).mpr ⟨H5,I5,q'⟩
  | true =>
   refine (if_pos rfl).mpr (test_last (aE (hd pins s5 σ H5 _ I5 q5) λw2 s6 ⟨z3,H6,I6,r6,q6⟩=>aE (TF pins s6 σ H6 z' z3 w' w2 _ I6 r4 r6 q6) λd' s7 zq=>?_));obtain⟨z4,H7,I7,r7,k3,e3,q7⟩:=zq;subst e3;cases r7;exact acL ⟨H7,I7,q7⟩
end
def TH(t1 t2:TE):TE:=λσ H Q=>t1 σ H Q∨t2 σ H Q
noncomputable def gk:S2->List S2
 | (none,none)=>[]
 | (some l,none)=>[(none,some (l-1))]
 | (none,some h)=>[(some (h+1),none)]
 | (some l,some h)=>[(none,some (l-1)),(some (h+1),none)]
noncomputable def b8(ps:List Pa):List (List Pa):=ps.flatMap λp=>(gk p.2.2).map λo=>[((p.1,p.2.1,o):Pa)]
noncomputable def bp(i j:Int)(s:S2):List Pa:=(ab2 (j+1-i).toNat).map λk=>("at",i+(k:Nat),s)
def d8(H:Hp)(v:V)(ps:List Pa):Prop:=∃ l xs,v = .ref l/\H l=some (.lst xs)/\dw H xs ps
theorem d8.same(h:d8 H v ps)(s:ah H H'):d8 H' v ps:=let ⟨l,xs,e,a,b⟩:=h;⟨l,xs,e,s _ _ a,b.same s⟩
def cu(H0 H:Hp)(v:V)(ps:List Pa):Prop:=∃ c xs,v = .ref c/\H0 c=none/\H c=some (.lst xs)/\dw H xs ps
theorem cu.same(h:cu H0 H v ps)(s:ah H H'):cu H0 H' v ps:=let ⟨c,xs,e,n,a,b⟩:=h;⟨c,xs,e,n,s _ _ a,b.same s⟩
theorem cu.back(h:cu H1 H v ps)(s:ah H0 H1):cu H0 H v ps:=let ⟨c,xs,e,n,a,b⟩:=h;⟨c,xs,e,s.free n,a,b⟩
def ji(H0:Hp)(l:ab6)(H:Hp)(v:V)(ps:List Pa):Prop:=∃ c xs,v = .ref c/\c≠l/\H0 c=none/\H c=some (.lst xs)/\dw H xs ps
theorem ji.same(h:ji H0 l H v ps)(s:ah H H'):ji H0 l H' v ps:=let ⟨c,xs,e,m,n,a,b⟩:=h;⟨c,xs,e,m,n,s _ _ a,b.same s⟩
theorem ji.put(h:ji H0 l H v ps)(hl:H l=some (.lst ys)):ji H0 l (upd H l o) v ps:=let ⟨c,xs,e,m,n,a,b⟩:=h;⟨c,xs,e,m,n,by rw[aF m];exact a,b.put hl⟩
theorem ji.Ip(h:ji H0 l H v ps):cu H0 H v ps:=let ⟨c,xs,e,_,n,a,b⟩:=h;⟨c,xs,e,n,a,b⟩
theorem TJ{ps:List Pa}{i:Nat}{p:Pa}(h:ps[i]?=some p):b8 (ps.take (i+1))=b8 (ps.take i)++(gk p.2.2).map λo=>[((p.1,p.2.1,o):Pa)]:=by unfold b8;rw[acR,h,aij];simp
theorem sY(s:S2):(gk s).length<=2:=by obtain⟨a,b⟩:=s;cases a<;>cases b<;>simp[gk]
theorem jk(i j:Int)(s:S2):(bp i j s).length=(j+1-i).toNat:=by unfold bp;rw[abT,ab5]
noncomputable def ib(i j:Int)(s:S2):List Pa:=(ab2 (j-i).toNat).map λk=>("step",i+(k:Nat),s)
noncomputable def jm(i j l h:Int):List (List Pa):=(ab2 (j-i).toNat).flatMap λk=>(bp (i+(k:Nat)+1) j (some h,none)).map λp=>[(("at",i+(k:Nat),none,some l):Pa),p]
theorem AL(h:p∈bp i j s):∃ k:Nat,k<(j+1-i).toNat/\p=(("at",i+(k:Int),s):Pa):=by unfold bp at h;obtain⟨k,hk,rfl⟩:=ab7.mp h;exact⟨k,acp.mp hk,rfl⟩
theorem Iq(h:qs∈b8 ps):∃ p∈ps,∃ o∈gk p.2.2,qs=[((p.1,p.2.1,o):Pa)]:=by unfold b8 at h;obtain⟨p,hp,h⟩:=ad8.mp h;obtain⟨o,ho,rfl⟩:=ab7.mp h;exact⟨p,hp,o,ho,rfl⟩
theorem TK(hq:qs∈jm i j l h):∃ k:Nat,k<(j-i).toNat/\∃ p∈bp (i+(k:Int)+1) j (some h,none),qs=[(("at",i+(k:Int),none,some l):Pa),p]:=by unfold jm at hq;obtain⟨k,hk,hq⟩:=ad8.mp hq;obtain⟨p,hp,rfl⟩:=ab7.mp hq;exact⟨k,acp.mp hk,p,hp,rfl⟩
theorem Ir{α β:Type}{f:α->List β}{c:Nat}:∀ (l:List α),(∀ a∈l,(f a).length<=c)->(l.flatMap f).length<=c * l.length
 | [],_=>by simp
 | a::l,h=>by have h1:=h a (.head _);have h2:=Ir l λb hb=>h b (.tail _ hb);rw[List.flatMap_cons,acj,acB,Nat.mul_add,Nat.mul_one];omega
theorem Iu(ps:List Pa):(b8 ps).length<=2 * ps.length:=Ir ps λp y=>by rw[abT];exact sY _
theorem TL{X:Cx}{K:abU}(h:X.K=K)(hc:X.calm=true):eU X (.builtin "max") (λxs H Q=>∃ a ns,xs=[.ref a]/\ai K H a (ns.map V.int)/\ns≠[]/\Q (.int (gH ns)) H):=h ▸ zE hc
theorem TM{X:Cx}{K:abU}(h:X.K=K)(hc:X.calm=true):eU X (.builtin "min") (λxs H Q=>∃ a ns,xs=[.ref a]/\ai K H a (ns.map V.int)/\ns≠[]/\Q (.int (gI ns)) H):=h ▸ zF hc
noncomputable def aY(cs:List Int)(i:Int)(k:Nat):Int:=cs.getD (i+(k:Int)).toNat 0
theorem AM(cs:List Int)(i j:Int)(s:S2):aV cs (bp i j s)=(ab2 (j+1-i).toNat).all λk=>hold s.1 s.2 (aY cs i k):=by
 unfold aV bp;rw[aer]
 congr 1
theorem TN(cs:List Int)(i j:Int)(s:S2):aV cs (ib i j s)=(ab2 (j-i).toNat).all λk=>hold s.1 s.2 (cs.getD (i+(k:Int)+1).toNat 0-aY cs i k):=by
 unfold aV ib;rw[aer]
 congr 1
theorem tN(h0:0<=i)(h1:i<=j)(h2:j<(cs.length:Int)):i3 (cs.map V.int) (some i) (some (j+1))=((ab2 (j+1-i).toNat).map (aY cs i)).map V.int:=by
 obtain⟨a,rfl⟩:∃ a:Nat,i=(a:Int):=⟨i.toNat,by omega⟩
 obtain⟨b,eb⟩:∃ b:Nat,j+1=(b:Int):=⟨(j+1).toNat,by omega⟩
 rw[eb,QF _ (by rw[abT];omega),<- aj3,<- aiB]
 congr 1
 refine aeR λk=>?_;rw[show ((b:Int)-(a:Int)).toNat=b-a by omega];by_cases hk:k<b-a
 .rw[agN hk,aef,aca,acV hk,abW (by omega)];unfold aY;simp only[Option.map_some];rw[show ((a:Int)+(k:Int)).toNat=a+k by omega];simp[abW (show a+k<cs.length by omega)]
 .rw[ac0 (by rw[adC,aey];omega),ac0 (by rw[abT,ab5];omega)]
theorem TQ:((b8 (bp i j (none,some (s-1)))).any (aV cs))=true ↔ ∃ k,k<(j+1-i).toNat/\s<=aY cs i k:=by
 rw[acM];constructor
 .rintro ⟨ps,hps,hm⟩;obtain⟨p,hp,o,ho,rfl⟩:=Iq hps;obtain⟨k,hk,rfl⟩:=AL hp;simp only[gk,acd,ad7,or_false] at ho;subst ho;refine⟨k,hk,?_⟩;unfold aV at hm;simp only[aea,afQ,aeP] at hm;have:=(gK.mp hm).1 _ rfl;unfold lK at this;rw[if_neg (by decide)] at this;unfold aY;omega
 .rintro ⟨k,hk,hc⟩;refine⟨[(("at",i+(k:Int),some (s-1+1),none):Pa)],?_,?_⟩
  .unfold b8;refine ad8.mpr ⟨(("at",i+(k:Int),none,some (s-1)):Pa),?_,?_⟩
   .unfold bp;exact ab7.mpr ⟨k,acp.mpr hk,rfl⟩
   .simp[gk]
  .unfold aV;simp only[aea,afQ,aeP];refine gK.mpr ⟨λx hx=>?_,λx hx=>(nomatch hx)⟩;cases hx;unfold lK;rw[if_neg (by decide)];unfold aY at hc;omega
theorem TR:((b8 (bp i j (some (s+1),none))).any (aV cs))=true ↔ ∃ k,k<(j+1-i).toNat/\aY cs i k<=s:=by
 rw[acM];constructor
 .rintro ⟨ps,hps,hm⟩;obtain⟨p,hp,o,ho,rfl⟩:=Iq hps;obtain⟨k,hk,rfl⟩:=AL hp;simp only[gk,acd,ad7,or_false] at ho;subst ho;refine⟨k,hk,?_⟩;unfold aV at hm;simp only[aea,afQ,aeP] at hm;have:=(gK.mp hm).2 _ rfl;unfold lK at this;rw[if_neg (by decide)] at this;unfold aY;omega
 .rintro ⟨k,hk,hc⟩;refine⟨[(("at",i+(k:Int),none,some (s+1-1)):Pa)],?_,?_⟩
  .unfold b8;refine ad8.mpr ⟨(("at",i+(k:Int),some (s+1),none):Pa),?_,?_⟩
   .unfold bp;exact ab7.mpr ⟨k,acp.mpr hk,rfl⟩
   .simp[gk]
  .unfold aV;simp only[aea,afQ,aeP];refine gK.mpr ⟨λx hx=>(nomatch hx),λx hx=>?_⟩;cases hx;unfold lK;rw[if_neg (by decide)];unfold aY at hc;omega
theorem TU(h:0<n):s<=gH ((ab2 n).map f) ↔ ∃ k,k<n/\s<=f k:=by
 have ne:(ab2 n).map f≠[]:=by simp;omega
 obtain⟨hm,hu⟩:=v5 ne;constructor
 .intro hs;obtain⟨k,hk,e⟩:=ab7.mp hm;exact⟨k,acp.mp hk,by rw[e];exact hs⟩
 .rintro ⟨k,hk,hs⟩;have:=hu (f k) (ab7.mpr ⟨k,acp.mpr hk,rfl⟩);omega
theorem AN(h:0<n):gI ((ab2 n).map f)<=s ↔ ∃ k,k<n/\f k<=s:=by
 have ne:(ab2 n).map f≠[]:=by simp;omega
 obtain⟨hm,hu⟩:=FQ ne;constructor
 .intro hs;obtain⟨k,hk,e⟩:=ab7.mp hm;exact⟨k,acp.mp hk,by rw[e];exact hs⟩
 .rintro ⟨k,hk,hs⟩;have:=hu (f k) (ab7.mpr ⟨k,acp.mpr hk,rfl⟩);omega
theorem Iv:((jm i j l h).any (aV cs))=true ↔ ∃ a b,a<b/\b<(j+1-i).toNat/\aY cs i a<=l/\h<=aY cs i b:=by
 have Iw:∀ (a b:Int),aV cs [(("at",a,none,some l):Pa),(("at",b,some h,none):Pa)]=true↔cs.getD a.toNat 0<=l/\h<=cs.getD b.toNat 0:=λa b=>by
  unfold aV;simp only[aea,afQ,aeP,acT,gK];unfold lK;rw[if_neg (by decide),if_neg (by decide)];constructor
  .rintro ⟨⟨y,h1⟩,h2,y⟩;exact⟨h1 _ rfl,h2 _ rfl⟩
  .rintro ⟨h1,h2⟩;refine⟨⟨λx hx=>(nomatch hx),λx hx=>?_⟩,λx hx=>?_,λx hx=>(nomatch hx)⟩
   .cases hx;exact h1
   .cases hx;exact h2
 rw[acM];constructor
 .rintro ⟨ps,hps,hm⟩;obtain⟨k,hk,p,hp,rfl⟩:=TK hps;obtain⟨m,lS,rfl⟩:=AL hp;have:=(Iw _ _).mp hm;refine⟨k,k+1+m,by omega,by omega,this.1,?_⟩;unfold aY;rw[show i+((k+1+m:Nat):Int)=i+(k:Int)+1+(m:Int) by omega];exact this.2
 .rintro ⟨a,b,fh,hb,h1,h2⟩;refine⟨[(("at",i+(a:Int),none,some l):Pa),(("at",i+(a:Int)+1+((b-a-1:Nat):Int),some h,none):Pa)],?_,(Iw _ _).mpr ⟨h1,?_⟩⟩
  .unfold jm;refine ad8.mpr ⟨a,acp.mpr (by omega),ab7.mpr ⟨_,?_,rfl⟩⟩;unfold bp;exact ab7.mpr ⟨b-a-1,acp.mpr (by omega),rfl⟩
  .unfold aY at h2;rw[show i+(a:Int)+1+((b-a-1:Nat):Int)=i+(b:Int) by omega];exact h2
theorem TV:((ab2 (n-1)).any λk=>decide (gI (((ab2 n).map f).take (k+1))<=l) && decide (h<=gH (((ab2 n).map f).drop (k+1))))=true ↔ ∃ a b,a<b/\b<n/\f a<=l/\h<=f b:=by
 have tk:∀ k,k<n-1->((ab2 n).map f).take (k+1)=(ab2 (k+1)).map f:=λk hk=>by rw[<- aiB,List.take_range,afi (by omega)]
 have at_:∀ m x,((ab2 n).map f)[m]?=some x->m<n/\x=f m:=λm x e=>by
  rw[aca] at e;by_cases hm:m<n
  .rw[acV hm] at e;cases e;exact⟨hm,rfl⟩
  .rw[ac0 (by rw[ab5];omega)] at e;cases e
 have len:((ab2 n).map f).length=n:=by rw[abT,ab5]
 have Iy:∀ k,k<n-1->((ab2 n).map f).drop (k+1)≠[]:=λk hk z=>by have:=congrArg List.length z;rw[aey,len] at this;simp at this;omega
 rw[acM];constructor
 .rintro ⟨k,hk,hb⟩;have hk:=acp.mp hk;rw[acT,decide_eq_true_eq,decide_eq_true_eq,tk k hk] at hb;obtain⟨a,ha,h1⟩:=(AN (by omega)).mp hb.1;obtain⟨hm,y⟩:=v5 (Iy k hk);obtain⟨m,hm⟩:=ac2.mp hm;rw[aef] at hm;obtain⟨m1,m2⟩:=at_ _ _ hm;exact⟨a,k+1+m,by omega,m1,h1,by rw[<- m2];exact hb.2⟩
 .rintro ⟨a,b,fh,hb,h1,h2⟩;have ha:a<n-1:=by omega
  refine⟨a,acp.mpr ha,?_⟩;rw[acT,decide_eq_true_eq,decide_eq_true_eq,tk a ha];refine⟨(AN (by omega)).mpr ⟨a,by omega,h1⟩,?_⟩;have hm:f b∈((ab2 n).map f).drop (a+1):=ac2.mpr ⟨b-(a+1),by
   rw[aef,show a+1+(b-(a+1))=b by omega,aca,acV hb];rfl⟩
  have:=(v5 (Iy a ha)).2 _ hm;omega
noncomputable def kR(u:ab1):Bool:=match u with|.none=>true|_=>false
noncomputable def lT(v:V):Bool:=decide (v = .non)
def qG(H:Hp)(xs:List V):Prop:=∀ v∈xs,v = .non ∨ ∃ a ys,v = .ref a/\H a=some (.tup ys)
section
theorem Iz{x:V}{u:ab1}{H:Hp}(r:RelV x u)(h:x = .non ∨ ∃ a ys,x = .ref a/\H a=some (.tup ys)):kR u=lT x:=by
 rcases h with rfl|⟨a,ys,rfl,y⟩
 .cases r;rfl
 .cases r;rfl
theorem TX:∀ {xs:List V} {us:List ab1},Vals xs us->qG H xs->us.any kR=xs.any lT:=by
 intro y y h f
 induction h with
 | nil=>rfl
 | cons r t ih=>rw[adm,adm,Iz r (f _ (.head _)),ih λv hv=>f v (.tail _ hv)]
theorem IA:∀ {xs:List V} {us:List ab1},Vals xs us->qG H xs->∀ (m:Nat) (h:m<us.length),kR us[m]=lT (xs.getD m .non):=by
 intro y y h f
 induction h with
 | nil=>exact λm h=>absurd h (adH _)
 | cons r t ih =>
  intro m h;cases m with
  | zero=>exact Iz r (f _ (.head _))
  | succ m=>exact ih (λv hv=>f v (.tail _ hv)) m (ahu h)
theorem AO(I:Inv X pins σ H s)(hu:A.units<af0):∀ {xs:List V} {us:List ab1},Vals xs us->qG H xs->∀ u∈us,SeqAt.EqAt A s u .none (kR u)
 | _,_,.nil,_=>λu hu=>by cases hu
 | x::xs,u::us,.cons r t,f=>λu' AQ=>by
  rcases acd.mp AQ with rfl|AQ
  .rcases f x (.head _) with rfl|⟨a,ys,rfl,ha⟩
   .cases r;exact SeqAt.EqAt.same _
   .cases r;obtain⟨y,aw,r',o',k1,k2,n,k3⟩:=(show bM X.prog X.w H s.heap a (.tup ys) from I.az a _ ha)
    exact SeqAt.EqAt.tuple_none ⟨o',k1,k2,n,k3⟩ hu
  .exact AO I hu t (λv hv=>f v (.tail _ hv)) u' AQ
def TY(K:abU):R2:=λx y H Q=>∃ a xs,x = .non/\y = .ref a/\ai K H a xs/\qG H xs/\Q (.bl (xs.any lT)) H
theorem IB(hu:X.A.units+1<af0):bf X (acX .In) (TY X.K):=by intro pins s σ H x y v u Q I rx ry h;obtain⟨a,xs,rfl,rfl,hq,hn,q⟩:=h;cases rx;cases ry;obtain⟨aw,r,pl,hz⟩:=I.list hq;refine SeqAt.in_listAt kR pl.isList (λw hw=>AO I (A:=X.A.in1) (aed (knd:=fH X.prog X.w) hu) r hn w (by simpa using hw)) ⟨.bl _,H,I,rfl,?_⟩;rw[show aw.toArray.any kR=aw.any kR by simp,TX r hn];exact q
def TZ(K:abU)(x:V)(ys:List V)(H:Hp)(Q:VK):Prop:=∃ a xs j,x = .ref a/\ys=[.non]/\ai K H a xs/\qG H xs/\j<xs.length/\xs.length<=1000/\lT (xs.getD j .non)=true/\(∀ m,m<j->lT (xs.getD m .non)=false)/\Q (.int (j:Nat)) H
theorem IC(hu:X.A.units+1<af0):EG X "list.index" (TZ X.K):=by
 intro pins s σ H x xs v us Q I rx r h;obtain⟨a,xs,j,rfl,rfl,hq,hn,hj,hl,h1,h2,q⟩:=h;cases rx;obtain⟨u,rfl,ru⟩:=vals1 r;cases ru;obtain⟨aw,r,pl,hz⟩:=I.list hq;obtain⟨⟨cls,dd,data,sl⟩,ho,hc,n,hd⟩:=id pl.isList;simp only at hc hd;subst hc hd;have hlen:aw.length=xs.length:=(Vals.length r).symm;refine aiN afn ⟨_,ho,rfl⟩ PySem.F.entry_list_index (PySem.F.args_list_index_2 _ _)
  (SeqAt.list_indexAt a aw.toArray n dd sl .none kR j (by simpa [hlen] using hj) (by lia) ?_ ?_) ⟨ho,λy hy=>AO I (A:=X.A.in1) (aed (knd:=fH X.prog X.w) hu) r hn y (by simpa using hy),?_⟩
 .show kR aw[j]=true;rw[IA r hn];exact h1
 .intro m hm aZ;show kR aw[m]=false;rw[IA r hn];exact h2 m aZ
 .exact⟨.int j,H,I.tok _,⟨_,rfl⟩,q⟩
end
noncomputable def ic(p:P2):W2:=some (some p.1,some p.2)
theorem ID:∀ (ss:List S2) (a b:Int),∃ a' b',bj (some a,some b) ss=(some a',some b')
 | [],a,b=>⟨a,b,rfl⟩
 | s::ss,a,b=>by
  rw[wG];have h1:∃ x,dN (some a) s.1=some x:=by rcases s.1 with z|c<;>exact⟨_,rfl⟩
  have h2:∃ x,eN (some b) s.2=some x:=by rcases s.2 with z|c<;>exact⟨_,rfl⟩
  obtain⟨x,hx⟩:=h1;obtain⟨y,hy⟩:=h2;rw[hx,hy];exact ID ss x y
theorem T4(h:fQ (none,none) ((some a,some b)::ss)=some s):∃ p:P2,some s=ic p/\p.1<=p.2:=by
 unfold fQ at h;rw[wG] at h;obtain⟨x,y,e⟩:=ID ss a b;rw[show (dN (none,none).1 (some a,some b).1,eN (none,none).2 (some a,some b).2)=((some a,some b):S2) from rfl,e] at h;split at h
 .cases h
 .rename_i hc;cases h;exact⟨(x,y),rfl,by simpa [ba] using hc⟩
theorem IE(hf:∀ k s,f k=some s->∃ p:P2,some s=ic p/\p.1<=p.2):∀ (ks:List Nat),(∀ k∈ks,f k≠none)->∃ pp:List P2,ks.map f=pp.map ic/\fw pp
 | [],_=>⟨[],rfl,λy h=>nomatch h⟩
 | k::ks,h=>by
  obtain⟨pp,e,ho⟩:=IE hf ks λj hj=>h j (.tail _ hj);cases hk:f k with
  | none=>exact absurd hk (h k (.head _))
  | some s =>
   obtain⟨p,e1,e2⟩:=hf k s hk;refine⟨p::pp,by rw[acs,acs,e,hk,e1],λq hq=>?_⟩;rcases acd.mp hq with rfl|hq
   .exact e2
   .exact ho q hq
theorem all_some:∀ (ws:List W2),(∀ w∈ws,w≠none)->∃ gs:List S2,ws=gs.map some
 | [],_=>⟨[],rfl⟩
 | w::ws,h=>by
  obtain⟨gs,e⟩:=all_some ws λj hj=>h j (.tail _ hj);cases w with
  | none=>exact absurd rfl (h none (.head _))
  | some s=>exact⟨s::gs,by rw[e];rfl⟩
theorem AR:∀ {ys:List V} {ws:List W2},ax (gY H) ys ws->qG H ys/\(ys.any lT=ws.any aeT)/\∀ m,lT (ys.getD m .non)=(ws.getD m none).isNone
 | [],[],_=>⟨(λz h=>nomatch h),rfl,λz=>rfl⟩
 | y::ys,w::ws,h=>by
  obtain⟨h1,h2⟩:=h;obtain⟨a,b,c⟩:=AR h2;have key:(y = .non ∨ ∃ a ys,y = .ref a/\H a=some (.tup ys))/\lT y=w.isNone:=by
   cases w with
   | none =>
    obtain rfl:y = .non:=h1;exact⟨.inl rfl,rfl⟩
   | some s =>
    obtain⟨p,rfl,hp⟩:=h1;exact⟨.inr ⟨p,_,rfl,hp⟩,rfl⟩
  refine⟨λv hv=>?_,by rw[adm,adm,b,key.2],λm=>?_⟩
  .rcases acd.mp hv with rfl|hv
   .exact key.1
   .exact a v hv
  .cases m with
   | zero=>exact key.2
   | succ m=>exact c m
 | [],_::_,h=>h.elim
 | _::_,[],h=>h.elim
theorem AS:∀ {xs:List α},xs.any p=true->∃ j,j<xs.length/\p (xs.getD j d)=true/\∀ m,m<j->p (xs.getD m d)=false
 | [],h=>by cases h
 | x::xs,h=>by
  cases hx:p x with
  | true=>exact⟨0,Nat.zero_lt_succ _,hx,λm hm=>absurd hm (adH _)⟩
  | false =>
   rw[adm,hx,ajY] at h;obtain⟨j,h1,h2,h3⟩:=AS (d:=d) h;refine⟨j+1,Nat.succ_lt_succ h1,h2,λm hm=>?_⟩;cases m with
   | zero=>exact hx
   | succ m=>exact h3 m (ahu hm)
theorem IF{ws:List W2}(h:ws.any aeT=false):∀ w∈ws,w≠none:=λw hw e=>by have:=aiF.mp h w hw;rw[e] at this;exact this rfl
theorem IG:∀ {ys:List V} {pp:List P2},ax (gY H) ys (pp.map ic)->bR H ys pp
 | [],[],_=>trivial
 | _::_,_::_,h=>⟨h.1,IG h.2⟩
 | [],_::_,h=>h.elim
 | _::_,[],h=>h.elim
theorem lL.reach(T:lL ps ms tp):∀ (n t:Nat) {v k:Int},t+n<=ps.length ->
 (tp t=some (v,k)->∃ v' k',tp (t+n)=some (v',k')/\v'<=v+(pre (·.2) ps (t+n)-pre (·.2) ps t)) /\
 (tp (t+n)=some (v,k)->∃ v' k',tp t=some (v',k')/\v'<=v+(pre (·.1) ps t-pre (·.1) ps (t+n)))
 | 0,t,v,k,_=>⟨λh=>⟨v,k,h,by simp⟩,λh=>⟨v,k,h,by simp⟩⟩
 | n+1,t,v,k,hn=>by
  refine⟨λh=>?_,λh=>?_⟩
  .obtain⟨v1,k1,e1,h1⟩:=(T.reach n t (by lia)).1 h;obtain⟨v2,k2,e2,h2⟩:=T.fwd (t+n) v1 k1 (by lia) e1;refine⟨v2,k2,e2,?_⟩;rw[show t+(n+1)=(t+n)+1 by lia,gZ _ ps (by lia)];lia
  .obtain⟨v1,k1,e1,h1⟩:=T.bwd (t+n) v k (by lia) h;obtain⟨v2,k2,e2,h2⟩:=(T.reach n t (by lia)).2 e1;refine⟨v2,k2,e2,?_⟩;rw[show t+(n+1)=(t+n)+1 by lia,gZ _ ps (by lia)];lia
theorem T5(T:lL ps ms tp)(hm:∀ m∈ms,m.1<=ps.length)(hn:∀ m∈ns,m.1<=ps.length)(h0:tE ns tp)(ha:a∈ms)(hb:b∈ns):¬ clash ps a b:=by
 rintro ⟨h,l,e1,e2,aZ⟩;obtain⟨v,k,e3,h3⟩:=T.top a ha h e1;have sD:=hm a ha;have bX:=hn b hb;have key:∃ v' k',tp b.1=some (v',k')/\v'<=v+bN ps a.1 b.1:=by
  unfold bN;by_cases hle:a.1<=b.1
  .rw[if_pos hle];obtain⟨n,kr⟩:∃ n,b.1=a.1+n:=⟨b.1-a.1,by lia⟩
   rw[kr];exact (T.reach n a.1 (by lia)).1 e3
  .rw[if_neg hle];obtain⟨n,kr⟩:∃ n,a.1=b.1+n:=⟨a.1-b.1,by lia⟩
   rw[kr] at e3 ⊢;exact (T.reach n b.1 (by lia)).2 e3
 obtain⟨v',k',e4,h4⟩:=key;have:=h0 b hb l v' k' e2 e4;lia
theorem AU:m∈mU tb i ↔ ∃ r∈tb,r.1.1=i/\m=(r.1.2.toNat,r.2):=by
 unfold mU;simp only[ab7,acv,decide_eq_true_eq];constructor
 .rintro ⟨r,⟨h1,h2⟩,rfl⟩;exact⟨r,qA.mem_iff.mp h1,h2,rfl⟩
 .rintro ⟨r,h1,h2,rfl⟩;exact⟨r,⟨qA.mem_iff.mpr h1,h2⟩,rfl⟩
noncomputable def tO(e:Nat)(tb:Tb):List (Int × List Mk):=(ab2 e).map λ(i:Nat)=>((i:Int),mU tb (i:Int))
theorem T6(hp:fw ps)(ht:t<ps.length):bN ps i (t+1)<=bN ps i t+(aL ps t).2:=by
 have h:=hp _ (qb ht);have e1:=gZ (·.1) ps ht;have e2:=gZ (·.2) ps ht;unfold bN;split<;>split<;>first|lia|(have z:i=t+1:=(by lia);subst z;lia)
theorem T7(hp:fw ps)(ht:t<ps.length):bN ps i t<=bN ps i (t+1)-(aL ps t).1:=by
 have h:=hp _ (qb ht);have e1:=gZ (·.1) ps ht;have e2:=gZ (·.2) ps ht;unfold bN;split<;>split<;>first|lia|(have z:i=t+1:=(by lia);subst z;lia)
theorem T8(ps:List P2)(i:Nat):bN ps i i<=0:=by unfold bN;split<;>lia
theorem IH(hp:fw ps)(ms:List Mk):∀ n,n<=ms.length->∃ tp,lL ps (ms.take n) tp
 | 0,_=>⟨λy=>none,⟨λy y y y e=>(nomatch e),λy h=>(nomatch h),λy y y y e=>(nomatch e),λy y y y e=>(nomatch e)⟩⟩
 | n+1,hn=>by
  obtain⟨tp,T⟩:=IH hp ms n (by lia);have hm:ms[n]?=some ms[n]:=abW (by lia);generalize ms[n]=m at hm;have et:ms.take (n+1)=ms.take n++[m]:=by rw[acR,hm];rfl
  have tl:(ms.take n).length=n:=by rw[adC];lia
  cases hi:m.2.2 with
  | none =>
   refine⟨tp,⟨λt v k ht e=>?_,λa ha h e=>?_,T.fwd,T.bwd⟩⟩
   .obtain⟨i,a,h,h1,h2,h3⟩:=T.val t v k ht e;have:=(ab0.mp h2).1;exact⟨i,a,h,h1,by rw[et,acP this];exact h2,h3⟩
   .rw[et] at ha;rcases acw.mp ha with z|z
    .exact T.top a z h e
    .rw[acx.mp z,hi] at e;cases e
  | some h0 =>
   have one:∀ t v k,(match tp t with|some (v,k)=>if h0+bN ps m.1 t<v then some (h0+bN ps m.1 t,(n:Int)) else some (v,k)|none=>some (h0+bN ps m.1 t,(n:Int)))=some (v,k) ->
    v<=h0+bN ps m.1 t/\(∀ v' k',tp t=some (v',k')->v<=v')/\((v=h0+bN ps m.1 t/\k=(n:Int))∨tp t=some (v,k)):=by
    intro t v k e;cases h1:tp t with
    | none =>
     rw[h1] at e;cases e;exact⟨ade _,λy y z=>(nomatch z),.inl ⟨rfl,rfl⟩⟩
    | some q =>
     obtain⟨v1,k1⟩:=q;rw[h1] at e;dsimp only at e;split at e
     .cases e;refine⟨ade _,λv' k' z=>?_,.inl ⟨rfl,rfl⟩⟩;cases z;lia
     .cases e;refine⟨by lia,λv' k' z=>?_,.inr rfl⟩;cases z;exact ade _
   have ex:∀ t,∃ v k,(match tp t with|some (v,k)=>if h0+bN ps m.1 t<v then some (h0+bN ps m.1 t,(n:Int)) else some (v,k)|none=>some (h0+bN ps m.1 t,(n:Int)))=some (v,k):=λt=>by
    cases h1:tp t with
    | none=>exact⟨_,_,rfl⟩
    | some q =>
     obtain⟨v1,k1⟩:=q;dsimp only;split<;>exact⟨_,_,rfl⟩
   refine⟨λt=>match tp t with|some (v,k)=>if h0+bN ps m.1 t<v then some (h0+bN ps m.1 t,(n:Int)) else some (v,k)|none=>some (h0+bN ps m.1 t,(n:Int)),⟨λt v k ht e=>?_,λa ha h e=>?_,λt v k ht e=>?_,λt v k ht e=>?_⟩⟩
   .obtain⟨y,y,⟨rfl,rfl⟩|e1⟩:=one t v k e
    .exact⟨n,m,h0,rfl,by rw[et,ac7 (by lia),tl,ahP];rfl,hi,ade _⟩
    .obtain⟨i,a,h,h1,h2,h3⟩:=T.val t v k ht e1;have:=(ab0.mp h2).1;exact⟨i,a,h,h1,by rw[et,acP this];exact h2,h3⟩
   .obtain⟨v,k,e1⟩:=ex a.1;obtain⟨o1,o2,y⟩:=one _ _ _ e1;refine⟨v,k,e1,?_⟩;rw[et] at ha;rcases acw.mp ha with z|z
    .obtain⟨v',k',e2,h2⟩:=T.top a z h e;have:=o2 v' k' e2;lia
    .rw[acx.mp z] at e o1;rw[hi] at e;cases e;have:=T8 ps m.1;lia
   .obtain⟨v',k',e1⟩:=ex (t+1);obtain⟨o1,o2,y⟩:=one _ _ _ e1;refine⟨v',k',e1,?_⟩;obtain⟨y,y,⟨rfl,rfl⟩|e3⟩:=one t v k e
    .have:=T6 hp (i:=m.1) ht;lia
    .obtain⟨v2,k2,e4,h4⟩:=T.fwd t v k ht e3;have:=o2 _ _ e4;lia
   .obtain⟨v',k',e1⟩:=ex t;obtain⟨o1,o2,y⟩:=one _ _ _ e1;refine⟨v',k',e1,?_⟩;obtain⟨y,y,⟨rfl,rfl⟩|e3⟩:=one (t+1) v k e
    .have:=T7 hp (i:=m.1) ht;lia
    .obtain⟨v2,k2,e4,h4⟩:=T.bwd t v k ht e3;have:=o2 _ _ e4;lia
theorem T9(hp:fw ps)(hm:∀ m∈ms,m.1<=ps.length)(hc:∀ a∈ms,∀ b∈ms,¬ clash ps a b):∃ c,jh ps c/\meets ms c:=by
 obtain⟨tp,T⟩:=IH hp ms ms.length (ab4 _);rw[acU] at T;refine RO hp hm T λm dz l v k e1 e2=>?_;rcases Int.lt_or_le v l with h|h
 .obtain⟨i,a,y,h2,h3⟩:=T.clash (hm m dz) e2 e1 h;exact absurd h3 (hc a (ace h2) m dz)
 .exact h
abbrev Cl:=(En × Nat) × (En × Nat)
noncomputable def iL(e:Int)(c:Cl):Bool:=decide (c.1.1=some e) || decide (c.2.1=some e)
noncomputable def wo(e:Int)(cs:List Cl):List Cl:=cs.filter λc=>!iL e c
def iF:Nat->List Cl->Prop
 | 0,_=>True
 | _+1,[]=>False
 | n+1,c::cs=>∀ e,iL e c=true->iF n (wo e (c::cs))
def tP(es:List Int)(cs:List Cl):Prop:=∀ c∈cs,∃ e∈es,iL e c=true
theorem Ua(h:tP es (wo e cs)):tP (e::es) cs:=λc hc=>by
 cases hb:iL e c with
 | true=>exact⟨e,.head _,hb⟩
 | false =>
  obtain⟨x,hx,h1⟩:=h c (acv.mpr ⟨hc,by rw[hb];rfl⟩);exact⟨x,.tail _ hx,h1⟩
inductive Pp where
 | nil:Pp
 | full:Pp
 | cls:Cl->Pp->Pp->Pp
noncomputable def mX:Nat->List Cl->Pp
 | 0,_=>.full
 | _+1,[]=>.full
 | n+1,c::cs=>.cls c (match c.1.1 with|none=>.nil|some e=>mX n (wo e (c::cs))) (if c.1.1=c.2.1 then .nil else match c.2.1 with|none=>.nil|some e=>mX n (wo e (c::cs)))
def jZ(gs:List S2)(tb:Tb)(as:List Int)(s:En × Nat)(m:Mk):Prop:=m.1=s.2/\match s.1 with|none=>gs[s.2]?=some m.2|some e=>e∉as/\((e,(s.2:Int)),m.2)∈tb
def Val(ps:List P2)(gs:List S2)(tb:Tb)(mo:Int):Pp->List Int->Prop
 | .nil,_=>False
 | .full,as=>mo<as.length
 | .cls c a b,as=>(∃ m n,jZ gs tb as c.1 m/\jZ gs tb as c.2 n/\clash ps m n)/\(match c.1.1 with|none=>a = .nil|some e=>Val ps gs tb mo a (as++[e]))/\(match c.2.1 with|none=>b = .nil|some e=>if c.1.1=some e then b = .nil else Val ps gs tb mo b (as++[e]))
theorem oo:iL e c=true↔c.1.1=some e∨c.2.1=some e:=by unfold iL;rw[agc,decide_eq_true_eq,decide_eq_true_eq]
theorem II:∀ (n:Nat) (cs:List Cl) (as:List Int),iF n cs->(as.length:Int)+n=mo+1->(∀ c∈cs,∃ m n,jZ gs tb as c.1 m/\jZ gs tb as c.2 n/\clash ps m n)->Val ps gs tb mo (mX n cs) as
 | 0,_,as,_,h,_=>by show mo<as.length;lia
 | n+1,[],_,h,_,_=>h.elim
 | n+1,c::cs,as,h,hl,hs=>by
  have sub:∀ e,iL e c=true->Val ps gs tb mo (mX n (wo e (c::cs))) (as++[e]):=λe he=>by
   refine II n _ _ (h e he) (by rw[acj,acA];lia) λc' lh=>?_;obtain⟨h1,h2⟩:=acv.mp lh;obtain⟨m,k,a1,a2,a3⟩:=hs c' h1;have h3:iL e c'=false:=by cases hh:iL e c' with|false=>rfl|true=>rw[hh] at h2;cases h2
   have h4:∀ x,c'.1.1=some x∨c'.2.1=some x->x≠e:=λx hx z=>by subst z;rw[oo.mpr hx] at h3;cases h3
   refine⟨m,k,⟨a1.1,?_⟩,⟨a2.1,?_⟩,a3⟩
   .have:=a1.2;cases hx:c'.1.1 with
    | none=>rw[hx] at this;exact this
    | some x =>
     rw[hx] at this;refine⟨λz=>?_,this.2⟩;rcases acw.mp z with z|z
     .exact this.1 z
     .exact h4 x (.inl hx) (acx.mp z)
   .have:=a2.2;cases hx:c'.2.1 with
    | none=>rw[hx] at this;exact this
    | some x =>
     rw[hx] at this;refine⟨λz=>?_,this.2⟩;rcases acw.mp z with z|z
     .exact this.1 z
     .exact h4 x (.inr hx) (acx.mp z)
  refine⟨hs c (.head _),?_,?_⟩
  .cases hx:c.1.1 with
   | none=>rfl
   | some e=>exact sub e (oo.mpr (.inl hx))
  .cases hx:c.2.1 with
   | none=>dsimp only;split<;>rfl
   | some e =>
    dsimp only;by_cases he:c.1.1=some e
    .rw[if_pos he,if_pos he]
    .rw[if_neg he,if_neg he];exact sub e (oo.mpr (.inr hx))
abbrev Gp:=En × List Mk
def wO(ps:List P2)(gs:List Gp)(cs:List Cl):Prop:=∀ c∈cs,∃ g∈gs,∃ h∈gs,∃ m∈g.2,∃ n∈h.2,c=((g.1,m.1),(h.1,n.1))/\clash ps m n
def kS(ps:List P2)(g h:Gp)(cs:List Cl):Prop:=∀ m∈g.2,∀ n∈h.2,clash ps m n->∃ c∈cs,c.1.1=g.1/\c.2.1=h.1
theorem kS.more(x:kS ps g h cs):kS ps g h (cs++ds):=λm hm n hn hc=>let ⟨c,h1,h2⟩:=x m hm n hn hc;⟨c,adO _ h1,h2⟩
noncomputable def kT(gs:List Mk)(e:Nat)(tb:Tb):List Gp:=(none,gs)::(tO e tb).map λr=>(some r.1,r.2)
theorem AV:m∈fj tb es ↔ ∃ r∈tb,r.1.1∉es/\m=(r.1.2.toNat,r.2):=by
 unfold fj;constructor
 .intro h;obtain⟨r,hr,rfl⟩:=ab7.mp h;obtain⟨h1,h2⟩:=acv.mp hr;exact⟨r,tq h1,by simpa using h2,rfl⟩
 .rintro ⟨r,hr,h1,rfl⟩;exact ab7.mpr ⟨r,acv.mpr ⟨qf.mem_iff.mpr hr,by simpa using h1⟩,rfl⟩
theorem IJ(az:bK e t tb)(h:m∈gm++fj tb es):∃ g∈kT gm e.toNat tb,m∈g.2/\∀ x,g.1=some x->x∉es:=by
 rcases acw.mp h with z|z
 .exact⟨_,.head _,z,λx hx=>nomatch hx⟩
 .obtain⟨r,hr,h1,rfl⟩:=AV.mp z;have ho:=az.2 r hr;unfold n9 at ho;refine⟨(some r.1.1,mU tb r.1.1),.tail _ (ab7.mpr ⟨(r.1.1,mU tb r.1.1),ab7.mpr ⟨r.1.1.toNat,acp.mpr (by lia),by rw[ad3 ho.1.1]⟩,rfl⟩),AU.mpr ⟨r,hr,rfl,rfl⟩,λx hx=>?_⟩;cases hx;exact h1
theorem Ub(az:bK e t tb)(hp:fw ps)(hm:∀ m∈gm++fj tb es,m.1<=ps.length)(hc:tP es cs)(hx:∀ g∈kT gm e.toNat tb,∀ h∈kT gm e.toNat tb,kS ps g h cs):∃ c,jh ps c/\meets (gm++fj tb es) c :=
 T9 hp hm λa ha b hb fh=>by
  obtain⟨g,h1,h2,h3⟩:=IJ az ha;obtain⟨h,k1,k2,k3⟩:=IJ az hb;obtain⟨c,c1,c2,c3⟩:=hx g h1 h k1 a h2 b k2 fh;obtain⟨x,x1,x2⟩:=hc c c1;rcases oo.mp x2 with z|z
  .exact h3 x (c2.symm.trans z) x1
  .exact k3 x (c3.symm.trans z) x1
theorem snd_mk(az:bK e t tb)(hg:∀ m∈gm,gs[m.1]?=some m.2)(h:wO ps (kT gm e.toNat tb) cs):∀ c∈cs,∃ m n,jZ gs tb [] c.1 m/\jZ gs tb [] c.2 n/\clash ps m n:=λc hc=>by
 obtain⟨g,h1,k,h2,m,h3,n,h4,rfl,h5⟩:=h c hc;have one:∀ g∈kT gm e.toNat tb,∀ m∈g.2,jZ gs tb [] (g.1,m.1) m:=λg oj m hm=>by
  rcases acd.mp oj with rfl|z
  .exact⟨rfl,hg m hm⟩
  .obtain⟨q,hq,rfl⟩:=ab7.mp z;obtain⟨i,y,rfl⟩:=ab7.mp hq;obtain⟨r,hr,e1,rfl⟩:=AU.mp hm;have ho:=az.2 r hr;unfold n9 at ho;refine⟨rfl,ad7,?_⟩;show (((i:Int),((r.1.2.toNat:Nat):Int)),r.2)∈tb;rw[ad3 ho.2.1,<- e1];exact hr
 exact⟨m,n,one g h1 m h3,one k h2 n h4,h5⟩
section
end
abbrev kU(h:aek)(e it:ab6)(i:Int)(old:ab1)(a:ab6)(f:Bool):Prop :=
 h.get? e=some { cls:=.type "enumerate",dict:=none,data:=.fields #[afq a,.bool f,.ref it,afq i,.none,old],slots:=#[] }
section
theorem Uc{e it l a:ab6}{f:Bool}{oa:Obj}{i:Nat}{items:Array ab1}{x old:ab1}{Q:Option ab1->ab9->Prop}
 (he:kU s.heap e it i old a f) (ha:s.heap.get? a=some oa) (Ud:a≠e) (Ue:a≠it) (hit:s.heap.IsListIter it l i) (hl:s.heap.IsList l items) (hx:items[i]?=some x) (bS:e≠it)
 (hQ:∀ h',kU h' e it ((i:Int)+1) old a true->h'.IsListIter it l (i+1) ->
   h'.get? s.heap.objs.size=some { cls:=.type "tuple",data:=.seq #[.int i s.toks,x] }->h'.objs.size=s.heap.objs.size+1 ->
   (∀ b o,b≠e->b≠it->s.heap.get? b=some o->h'.get? b=some o)->Q (some (.ref s.heap.objs.size)) { s with heap:=h',toks:=s.toks+1 }) :
 ack (model prog w) A (aeX (.ref e)) Q E s:=by
 have hT:s.TypeIs (.ref e) "enumerate" := ⟨_,he,rfl⟩;obtain⟨hp,g,d,tk,os⟩:=s;unfold aeX;refine abS (afl (adn (name:=adq "__next__") hT ad4
  (adj ad4 hT af3 ?_ (afW _))))
 show ack _ _ (field (.ref e) 2 >>= _) _ _ _;refine abS (agl he rfl (x:=.ref it) rfl ?_);refine abS (wpAny_nextOf_list_item hit hl hx λh₁ IK qH=>?_);replace qH:Heap.SameBut it hp h₁:=qH;have wQ:kU h₁ e it i old a f:=(qH.2 e bS).trans he;show ack _ _ (field (.ref e) 3 >>= _) _ _ ⟨h₁,g,d,tk,os⟩;refine abS (agl wQ rfl (x:=afq i) rfl ?_);show ack _ _ (field (.ref e) 4 >>= _) _ _ ⟨h₁,g,d,tk,os⟩;refine abS (agl wQ rfl (x:=.none) rfl ?_);show ack _ _ (mkInt i >>= _) _ _ ⟨h₁,g,d,tk,os⟩;refine abS (wpAny_mkInt ?_);show ack _ _ (ajd (.ref e) 3 (afq ((i:Int)+1)) >>= _) _ _ ⟨h₁,g,d,tk+1,os⟩;refine abS (agv wQ (by simp) λh₂ wR qI=>?_);replace qI:Heap.SameBut e h₁ h₂:=qI;replace wR:kU h₂ e it ((i:Int)+1) old a f:=wR;show ack _ _ (ajd (.ref e) 4 .none >>= _) _ _ ⟨h₂,g,d,tk+1,os⟩;refine abS (agv wR (by simp) λh₃ wU qJ=>?_);replace qJ:Heap.SameBut e h₂ h₃:=qJ;replace wU:kU h₃ e it ((i:Int)+1) old a f:=wU;show ack _ _ (ajZ [.int i tk,x] >>= _) _ _ ⟨h₃,g,d,tk+1,os⟩;refine abS (wpAny_newTuple ?_);have tQ:kU (h₃.push { cls:=.type "tuple",data:=.seq #[.int i tk,x] }) e it ((i:Int)+1) old a f:=abY _ wU;generalize tR:h₃.push { cls:=.type "tuple",data:=.seq #[.int i tk,x] }=h₄ at tQ;have hsz:h₃.objs.size=hp.objs.size:=by rw[qJ.1,qI.1,qH.1]
 have tJ:e<hp.objs.size:=abZ he;have Ug:h₄.get? hp.objs.size=some { cls:=.type "tuple",data:=.seq #[.int i tk,x] }:=by rw[<- tR,<- hsz];exact ab8 _ rfl
 have Uh:h₄.objs.size=hp.objs.size+1:=by rw[<- tR,aez,hsz]
 have IL:∀ b o,b≠e->b≠it->hp.get? b=some o->h₄.get? b=some o:=λb o km Ih hb=>by rw[<- tR];exact abY _ (qJ.extBut b o km (qI.extBut b o km (qH.extBut b o Ih hb)))
 have Ui:h₄.IsListIter it l (i+1):=by rw[<- tR];obtain⟨o,ho,r⟩:=(IK.extBut qI.extBut (acY bS)).extBut qJ.extBut (acY bS);exact⟨o,abY _ ho,r⟩
 show ack _ _ (afa (.ref e) >>= _) _ _ ⟨h₄,g,d,tk+1,os⟩;rw[hsz];clear tR wU qJ wR qI wQ qH IK hsz h₃ h₂ h₁;have Uj:h₄.get? a=some oa:=IL a oa Ud Ue ha;refine abS ?_;unfold afa;refine abS (agl tQ rfl (x:=afq a) rfl ?_);show ack _ _ (loadIfAlive ((a:Int).toNat) >>= _) _ _ _;rw[acS];refine abS (PySem.W.kdx_alive Uj ?_);simp only[Option.isNone_some,acu,if_false];refine abS (agl tQ rfl (x:=.bool f) rfl ?_);have fin:∀ h₅:aek,kU h₅ e it ((i:Int)+1) old a true->Heap.SameBut e h₄ h₅->Q (some (.ref hp.objs.size)) ⟨h₅,g,d,tk+1,os⟩:=λh₅ tS mY =>
  hQ h₅ tS (Ui.extBut mY.extBut (acY bS)) (mY.extBut _ _ (ac6 tJ) Ug) (by show h₅.objs.size=hp.objs.size+1;rw[mY.1,Uh]) λb o IM gV q=>mY.extBut b o IM (IL b o IM gV q)
 cases f with
 | true =>
  rw[if_neg (show ¬ ((adt true != adt true)=true) from acq)];refine abX ?_;simp only[acu,if_false];exact abX ⟨_,rfl,abX (fin h₄ tQ (Heap.SameBut.refl _ _))⟩
 | false =>
  rw[if_pos (show (adt false != adt true)=true from rfl)];refine abS (agv tQ (by simp) λh₅ tS mY=>?_);replace mY:Heap.SameBut e h₄ h₅:=mY;replace tS:kU h₅ e it ((i:Int)+1) old a true:=tS;refine abX ?_;simp only[acu,if_false];exact abX ⟨_,rfl,abX (fin h₅ tS mY)⟩
theorem Uk{e it l a:ab6}{f:Bool}{i:Nat}{items:Array ab1}{old:ab1}{Q:Option ab1->ab9->Prop}(hh:A.handled=none)
 (he:kU s.heap e it i old a f) (hit:s.heap.IsListIter it l i) (hl:s.heap.IsList l items) (hx:items[i]?=none)
 (hQ:∀ h',ajx it s.heap h'->Q none { s with heap:=h' }):ack (model prog w) A (aeX (.ref e)) Q E s:=by
 have hT:s.TypeIs (.ref e) "enumerate" := ⟨_,he,rfl⟩;unfold aeX;refine abS (afl (adn (name:=adq "__next__") hT ad4
  (adj ad4 hT af3 ?_ (afW _))))
 show ack _ _ (field (.ref e) 2 >>= _) _ _ _;refine abS (agl he rfl (x:=.ref it) rfl ?_);refine abS (wpAny_nextOf_list_end hh hit hl hx λh' x ql cB=>?_);obtain⟨o,ho,hc⟩:=cB;refine abS (ae4 (T := "StopIteration") (b:=true) ⟨o,ho,hc⟩ ah4 ?_);exact abX (hQ _ ql)
def oq(h:aek)(e it S:ab6)(i:Nat):Prop :=
 (∃ old,IsEnum h e it i old) ∨ ∃ old a f oa,kU h e it i old a f/\h.get? a=some oa/\a≠e/\a≠it/\a≠S
theorem oq.keep(x:oq h e it S i)(hk:∀ b o,b≠S->h.get? b=some o->h'.get? b=some o)(hI:e≠S):oq h' e it S i:=by
 rcases x with ⟨old,q⟩|⟨old,a,f,oa,q,ha,h1,h2,h3⟩
 .exact .inl ⟨old,hk _ _ hI q⟩
 .exact .inr ⟨old,a,f,oa,hk _ _ hI q,hk _ _ h3 ha,h1,h2,h3⟩
theorem Ul(st:oq s.heap e it S i)(hS:S<s.heap.objs.size)(hit:s.heap.IsListIter it l i)(hl:s.heap.IsList l items)(hx:items[i]?=some x)(bS:e≠it)(hQ:∀ h',oq h' e it S (i+1)->h'.IsListIter it l (i+1) ->
 h'.get? s.heap.objs.size=some { cls:=.type "tuple",data:=.seq #[.int i s.toks,x] }->h'.objs.size=s.heap.objs.size+1 ->
 (∀ b o,b≠e->b≠it->s.heap.get? b=some o->h'.get? b=some o)->Q (some (.ref s.heap.objs.size)) { s with heap:=h',toks:=s.toks+1 }) :
 ack (model prog w) A (aeX (.ref e)) Q E s:=by
 have ce:((i:Int)+1)=((i+1:Nat):Int):=by lia
 have hi:it<s.heap.objs.size:=let ⟨_,q,_⟩:=hit;abZ q;rcases st with ⟨old,he⟩|⟨old,a,f,oa,he,ha,h1,h2,h3⟩
 .exact ahs he hit hl hx bS λh' q1 q2 q3 q4 q5=>hQ h' (.inr ⟨x,_,false,_,by rw[<- ce];exact q1,q3,ac6 (abZ he),ac6 hi,ac6 hS⟩) q2 q3 q4 q5
 .exact Uc he ha h1 h2 hit hl hx bS λh' q1 q2 q3 q4 q5=>hQ h' (.inr ⟨old,a,true,oa,by rw[<- ce];exact q1,q5 a oa h1 h2 ha,h1,h2,h3⟩) q2 q3 q4 q5
theorem Um(hh:A.handled=none)(st:oq s.heap e it S i)(hit:s.heap.IsListIter it l i)(hl:s.heap.IsList l items)(hx:items[i]?=none)(hQ:∀ h',ajx it s.heap h'->Q none { s with heap:=h' }):ack (model prog w) A (aeX (.ref e)) Q E s:=by
 rcases st with ⟨old,he⟩|⟨old,a,f,oa,he,y⟩
 .exact ahG hh he hit hl hx hQ
 .exact Uk hh he hit hl hx hQ
end
structure lU(items:Array ab1)(lo:ab6)(h:aek)(as:List ab6):Prop where
 rise:as.Pairwise (· < ·)
 above:∀ a∈as,lo<=a
 pairs:∀ (j:Nat) (a:ab6),as[j]?=some a->∃ t x,items[j]?=some x/\h.get? a=some { cls:=.type "tuple",data:=.seq #[.int j t,x] }
theorem lU.there{items:Array ab1}{lo:ab6}{h:aek}{as:List ab6}(g:lU items lo h as){a:ab6}(ha:a∈as):a<h.objs.size:=by obtain⟨j,hj⟩:=ac2.mp ha;obtain⟨y,y,y,e⟩:=g.pairs j a hj;exact abZ e
theorem lU.keep{items:Array ab1}{lo:ab6}{h h':aek}{as:List ab6}(g:lU items lo h as)(k:∀ b o,lo<=b->h.get? b=some o->h'.get? b=some o):lU items lo h' as :=
 ⟨g.rise,g.above,λj a hj=>let ⟨t,x,e1,e2⟩:=g.pairs j a hj;⟨t,x,e1,k a _ (g.above a (ace hj)) e2⟩⟩
section
variable{prog:acK}{w:ado}{A:adz}{s:ab9}{R:aiY->ab9->Prop}{items:Array ab1}
theorem Uo{S e it l lo:ab6}(hh:A.handled=none)(bS:e≠it)(qK:S≠e)(qL:S≠it)(wV:l≠S)(hle:l≠e)(mW:l≠it)(IP:S<lo)(Up:e<lo)(IQ:it<lo)(hn:items.size<=aco)(res:ab1){h₁:aek}
 (hR:∀ h' tk acc c as,(∀ b o,b≠S->b≠e->b≠it->h₁.get? b=some o->h'.get? b=some o)->h'.get? S=some { cls:=.type "list",dict:=none,data:=.seq acc c,slots:=#[] }->as.length=items.size->lU items lo h' as ->
   acc.toList=as.map acy->R (.ok (.ret res)) { s with heap:=h',toks:=tk }) :
 ∀ (k i:Nat) (h:aek) (tk c:Nat) (acc:Array ab1) (as:List ab6),items.size-i=k->i<=items.size->oq h e it S i->h.IsListIter it l i->h.IsList l items->(∀ b o,b≠S->b≠e->b≠it->h₁.get? b=some o->h.get? b=some o) ->
  h.get? S=some { cls:=.type "list",dict:=none,data:=.seq acc c,slots:=#[] }->acc.toList=as.map acy->as.length=i->lU items lo h as->lo<=h.objs.size ->
  aeV (model prog w) A (.builtin "list.extend.loop" ⟨[.ref S,.ref e,res],[]⟩) R { s with heap:=h,toks:=tk }:=by
 intro k
 induction k with
 | zero =>
  intro i h tk c acc as hk hi cT hit hl AW hS hJ mZ hG hz;have cg:i=items.size:=by lia
  refine ac4 agE ?_;rw[acO aej _];show ack _ A.in1 (aeX (.ref e) >>= _) _ _ _;refine abS (Um (s:={ s with heap:=h,toks:=tk }) (A:=A.in1) hh cT hit hl (aeD (by lia)) λh' he=>?_);exact abX (hR h' tk acc c as (λb o h1 h2 h3 q=>he b o h3 (AW b o h1 h2 h3 q)) (he S _ qL hS) (by lia) (hG.keep λb o hb q=>he b o (ac6 (acg IQ hb)) q) hJ)
 | succ k ih =>
  intro i h tk c acc as hk hi cT hit hl AW hS hJ mZ hG hz;have aZ:i<items.size:=by lia
  refine ac4 agE ?_;rw[acO aej _];show ack _ A.in1 (aeX (.ref e) >>= _) _ _ _;refine abS (Ul (s:={ s with heap:=h,toks:=tk }) (A:=A.in1) cT (abZ hS) hit hl (acG aZ) bS λh' c9 lH hT hsz jb=>?_);have lR:=jb S _ qK qL hS;have IS:acc.size=i:=by
   have:acc.toList.length=i:=by rw[hJ,abT,mZ]
   simpa using this
  show ack _ A.in1 (agR S (·.push (.ref h.objs.size)) >>= _) _ _ _;refine abS ?_;have IT:lo<=h.objs.size:=hz;have sb:∀ b o,b≠S->h'.get? b=some o->(h'.update S (adl (·.push (.ref h.objs.size)))).get? b=some o:=λb o hb q=>(acn _ _ (acY hb)).trans q;refine adZ lR rfl (abX ⟨adP aej _,ih (i+1) _ (tk+1) _ (acc.push (.ref h.objs.size)) (as++[h.objs.size]) (by lia) aZ
   (c9.keep sb (acY qK)) (lH.at λo q=>sb it o (acY qL) q) ((hl.at λo q=>jb l o hle mW q).at λo q=>sb l o wV q)
   (λb o h1 h2 h3 q=>sb b o h1 (jb b o h2 h3 (AW b o h1 h2 h3 q))) (acI _ lR rfl) (by rw[aiU,hJ];simp) (by rw[acj,mZ];rfl) ?_ ?_⟩)
   (by rw[IS];lia) (by show (acc.push _).size<=aco+1;rw[Array.size_push,IS];lia)
  .have up:∀ b o,lo<=b->h.get? b=some o->(h'.update S (adl (·.push (.ref h.objs.size)))).get? b=some o:=λb o hb q =>
    sb b o (ac6 (acg IP hb)) (jb b o (ac6 (acg Up hb)) (ac6 (acg IQ hb)) q)
   have G':=hG.keep up;refine⟨?_,?_,?_⟩
   .refine List.pairwise_append.mpr ⟨hG.rise,List.pairwise_singleton _ _,λa ha b hb=>?_⟩;rw[acx.mp hb];exact hG.there ha
   .intro a ha;rcases acw.mp ha with ha|ha
    .exact hG.above a ha
    .rw[acx.mp ha];exact IT
   .intro j a hj;by_cases hjl:j<as.length
    .rw[acP hjl] at hj;exact G'.pairs j a hj
    .rw[ac7 (by lia)] at hj;have Uq:j-as.length=0:=by
      rcases Nat.eq_zero_or_pos (j-as.length) with z|z
      .exact z
      .rw[ac0 (by rw[acA];exact z)] at hj;cases hj
     rw[Uq] at hj;cases hj;obtain rfl:j=i:=by lia
     exact⟨_,_,acG aZ,sb _ _ (ac6 (acg IP IT)) hT⟩
  .rw[(ac8 ..).1];show lo<=h'.objs.size;rw[hsz];exact Nat.le_succ_of_le hz
end
theorem Ur:aiL (.type "enumerate") "__len__" = pure none:=by rw[agh,aeL];kernel_rfl
theorem Us:aiL (.type "enumerate") "__length_hint__" = pure none:=by rw[agh,aeL];kernel_rfl
section
theorem Ut(hh:A.handled=none)(old:ab1)(he:IsEnum s.heap e it 0 old)(hit:s.heap.IsListIter it l 0)(hl:s.heap.IsList l items)(bS:e≠it)(hle:l≠e)(mW:l≠it)(S:ab6)(qK:S≠e)(qL:S≠it)(wV:l≠S)(res:ab1)(c:Nat)(hS:s.heap.get? S=some { cls:=.type "list",data:=.seq #[] c })(hn:items.size<=aco)(hR:∀ g tk acc c' as,(∀ b o,b≠S->b≠e->b≠it->s.heap.get? b=some o->g.get? b=some o)->g.get? S=some { cls:=.type "list",dict:=none,data:=.seq acc c',slots:=#[] }->as.length=items.size->lU items s.heap.objs.size g as ->
 acc.toList=as.map acy->R (.ok (.ret res)) { s with heap:=g,toks:=tk }) :
 ack (model prog w) A.in1 (ad1 (.ref S) (.ref e) res)
  (λf u=>match f with|.done f=>R (.ok f) u|.again k=>k.quiet=true/\aeV (model prog w) A k R u) (λe u=>R (.error e) u) s:=by
 have h1:agW (.ref S) (.ref e)=false:=by simp[agW,qK]
 have hT:s.TypeIs (.ref e) "enumerate" := ⟨_,he,rfl⟩;unfold ad1;refine abS (wpAny_typeOf hT ?_);rw[if_neg (by rw[h1];decide)];refine abS (agS he ?_);refine abS (adk ?_);unfold aeM;refine abS (age hT Ur ?_);show ack _ A.in1 (specialOf (acy e) (adq "__length_hint__") >>= _) _ _ _;refine abS (age hT Us ?_);refine abX ?_;show ack _ A.in1 (rule "list.extend.makes-room" >>= λy=>aj6 (.ref S) >>= λy=>again (.builtin "list.extend.loop" ⟨[.ref S,.ref e,res],[]⟩)) _ _ _;refine abS (afd ?_);refine abS ?_;show ack _ A.in1 (agR S (·.push .none) >>= λy=>agR S (·.pop)) _ _ _;refine abS (adZ hS rfl ?_);have IU:=acI (adl (·.push Value.none)) hS rfl;refine adZ IU rfl ?_;have Uu:=acI (adl (·.pop)) IU rfl;have lV:∀ b o,b≠S->s.heap.get? b=some o->((s.heap.update S (adl (·.push Value.none))).update S (adl (·.pop))).get? b=some o :=
  λb o hb e=>(acn _ _ (acY hb)).trans ((acn _ _ (acY hb)).trans e)
 have sz:((s.heap.update S (adl (·.push Value.none))).update S (adl (·.pop))).objs.size=s.heap.objs.size:=by rw[(ac8 ..).1,(ac8 ..).1]
 refine abX ⟨adP aej _,Uo (s:=s) (l:=l) (it:=it) (lo:=s.heap.objs.size) (items:=items) (h₁:=s.heap) hh bS qK qL wV hle mW (abZ hS) (abZ he) (let ⟨_,q,_⟩:=hit;abZ q) hn res hR
  items.size 0 _ s.toks _ #[] [] rfl (acr _) (.inl ⟨old,lV _ _ (acY qK) he⟩) (hit.at λo q=>lV it o (acY qL) q) (hl.at λo q=>lV l o wV q) (λb o h1 y y q=>lV b o h1 q) Uu rfl rfl ⟨.nil,(λy h=>nomatch h),λj a h=>by cases h⟩ (by rw[sz];exact ab4 _)⟩
theorem Uv(hh:A.handled=none)(old:ab1)(he:IsEnum s.heap e it 0 old)(hit:s.heap.IsListIter it l 0)(hl:s.heap.IsList l items)(bS:e≠it)(hle:l≠e)(mW:l≠it)(hn:items.size<=aco)(hQ:∀ g tk acc c as,(∀ b o,b≠e->b≠it->s.heap.get? b=some o->g.get? b=some o)->g.get? s.heap.objs.size=some { cls:=.type "list",dict:=none,data:=.seq acc c,slots:=#[] }->as.length=items.size->lU items (s.heap.objs.size+1) g as ->
 acc.toList=as.map acy->Q (.ref s.heap.objs.size) { s with heap:=g,toks:=tk }) :
 ack (model prog w) A (call (.type "list") [.ref e]) Q E s:=by
 have le:e<s.heap.objs.size:=abZ he;have li:it<s.heap.objs.size:=let ⟨_,q,_⟩:=hit;abZ q;have ll:l<s.heap.objs.size:=let ⟨_,q,_⟩:=hl;abZ q;refine callType_codes (Q₁:=λy s₁=>y = .ref s.heap.objs.size/\s₁ = { s with heap:=s.heap.push { cls:=.type "list",data:=.seq #[] } }) PySem.F.called_list (PySem.F.typeCall_list_1 _) PySem.F.entry_list_init (code_list_new _ ⟨rfl,rfl⟩) λy s₁ h₁=>?_;obtain⟨rfl,rfl⟩:=h₁;have e0:(s.heap.push { cls:=.type "list",data:=.seq #[] }).get? s.heap.objs.size=some { cls:=.type "list",data:=.seq #[] }:=ab8 _ rfl;refine⟨⟨_,e0,rfl⟩,PySem.F.args_list_init_2 _ _,?_⟩;show ack _ A.in1.in1 (do let z <- ahv (.ref s.heap.objs.size);aj4 (.ref s.heap.objs.size) (λv=>#[]);letGo z.toList.reverse;ad1 (.ref s.heap.objs.size) (.ref e) .none) _ _ _;refine abS ?_;unfold ahv;refine abS (aeY e0 rfl (abX ?_));refine abS (m:=agR s.heap.objs.size (λv=>#[])) (adZ e0 rfl ?_);have e1:=acI (adl (λv=>(#[]:Array ab1))) e0 rfl;have lV:∀ b o,b≠s.heap.objs.size->s.heap.get? b=some o->((s.heap.push { cls:=.type "list",data:=.seq #[] }).update s.heap.objs.size (adl (λv=>(#[]:Array ab1)))).get? b=some o :=
  λb o hb e=>(acn _ _ (acY hb)).trans (abY _ e)
 have sz:((s.heap.push { cls:=.type "list",data:=.seq #[] }).update s.heap.objs.size (adl (λv=>(#[]:Array ab1)))).objs.size=s.heap.objs.size+1:=by rw[(ac8 ..).1,size_push']
 refine abS (ae8 ?_);exact Ut (A:=A.in1) hh old (lV e _ (acf le) he) (hit.at λo q=>lV it o (acf li) q) (hl.at λo q=>lV l o (acf ll) q) bS hle mW s.heap.objs.size (ac6 le) (ac6 li) (acf ll) .none _ e1 hn
  λg tk acc c as hk hS mZ hG hJ=>⟨rfl,hQ g tk acc c as (λb o h1 h2 q=>hk b o (acf (abZ q)) h1 h2 (lV b o (acf (abZ q)) q)) hS mZ (by rw[<- sz];exact hG) hJ⟩
theorem Inv.IV(I:Inv X pins σ H s)(hf:eT X pins H T)(new:bM X.prog X.w (upd H T o) s.heap T o):Inv X pins σ (upd H T o) s:=by
 have lD:∀ b u,H b=some u->b≠T:=λb u e=>jB e hf.1;have up:∀ b u,H b=some u->upd H T o b=some u:=λb u e=>by rw[aF (lD b u e)];exact e
 refine I.step (g':=s.gens) (t':=s.toks) (d':=s.drawn) (h':=s.heap) (ch:=[T]) (λb hb=>?_) (λb o y y hc e y=>e) (λb o y y hc e y=>⟨o.slots,e⟩) (λb u hc e n=>by rw[aF (by simpa using hc)];exact n)
  (λb o hc e=>⟨o,e⟩) (λb xs e=>up b _ e) (λb y y e=>up b _ e) (λb ps e=>⟨#[],by rw[up b _ e];simp⟩) (λm hm=>hm) (λb u e=>?_) I.bare
 .obtain rfl:b=T:=by simpa using hb
  obtain⟨y,d1,d2,d3,d4,d5⟩:=hf;exact⟨d3,d1,d4,d5⟩
 .by_cases hb:b=T
  .subst hb;rw[aq] at e;cases e;exact new
  .rw[aF hb] at e;exact (I.az b u e).stay (λc v hc q=>q) (λc q=>up c _ q) λc xs q=>up c _ q
theorem Uw(h:eT X pins H b)(hb:b≠T):eT X pins (upd H T o) b:=⟨by rw[aF hb];exact h.1,h.2⟩
theorem IW:∀ (as:List ab6) (xs:List V) (us:List ab1) (i:Nat) (H:Hp),Inv X pins σ H s->Vals xs us->as.length=xs.length->as.Pairwise (· < ·)->(∀ a∈as,eT X pins H a) ->
 (∀ j a u,as[j]?=some a->us[j]?=some u->∃ t,s.heap.get? a=some { cls:=.type "tuple",data:=.seq #[.int ((i+j:Nat):Int) t,u] }) ->
 ∃ H',ah H H'/\Inv X pins σ H' s/\(∀ b,b∉as->H' b=H b)/\∀ j a x,as[j]?=some a->xs[j]?=some x->H' a=some (.tup [.int ((i+j:Nat):Int),x])
 | [],[],us,i,H,I,r,hl,hp,hf,ht=>⟨H,λc c e=>e,I,λc c=>rfl,λj a x h=>by cases h⟩
 | [],_::_,us,i,H,I,r,hl,hp,hf,ht=>by cases hl
 | _::_,[],us,i,H,I,r,hl,hp,hf,ht=>by cases hl
 | a::as,x::xs,us,i,H,I,r,hl,hp,hf,ht=>by
  cases us with
  | nil=>cases r
  | cons u us =>
  cases r with
  | cons r rs =>
  obtain⟨aZ,dX⟩:=aiy.mp hp;have na:∀ b∈as,b≠a:=λb hb=>ac6 (aZ b hb);obtain⟨t,h0⟩:=ht 0 a u rfl rfl;have I1:=Inv.IV (o:=.tup [.int ((i+0:Nat):Int),x]) I (hf a (.head _)) ⟨zH,[.int ((i+0:Nat):Int) t,u],.cons ⟨_,rfl⟩ (.cons r .nil),⟨_,h0,rfl,_,rfl⟩⟩;obtain⟨H',s1,I2,k1,k2⟩:=IW as xs us (i+1) _ I1 rs (by simpa using hl) dX (λb hb=>Uw (hf b (.tail _ hb)) (na b hb)) λj b v e1 e2=>by obtain⟨t',q⟩:=ht (j+1) b v e1 e2;exact⟨t',by rw[show i+1+j=i+(j+1) by lia];exact q⟩
  refine⟨H',λb v e=>s1 b v (by rw[aF (jB e (hf a (.head _)).1)];exact e),I2,λb hb=>?_,λj b y e1 e2=>?_⟩
  .rw[k1 b (λz=>hb (.tail _ z)),aF (λz=>hb (by rw[z];exact .head _))]
  .cases j with
   | zero =>
    cases e1;cases e2;rw[k1 a (λz=>na a z rfl),aq]
   | succ j =>
    have:=k2 j b y e1 e2;rw[show i+1+j=i+(j+1) by lia] at this;exact this
end
theorem IX:∀ as:List ab6,Vals (as.map V.ref) (as.map acy)
 | []=>.nil
 | _::as=>.cons rfl (IX as)
def IY(K:abU)(ta:TA):TE:=λσ H Q=>ta σ H λvs H1=>∃ a xs,vs=[.ref a]/\ai K H1 a xs/\∀ l ys H',ah H1 H'->H1 l=none->H' l=some (.lst ys)->ys.length=xs.length ->
 (∀ j y x,ys[j]?=some y->xs[j]?=some x->∃ p,y = .ref p/\H1 p=none/\H' p=some (.tup [.int (j:Nat),x]))->Q (.ref l) H'
theorem Ux(hc:X.calm=true)(hg:Gl X "list")(hm:X.mg "list" = none)(tL:Gl X "enumerate")(lS:X.mg "enumerate" = none)(ha:PA X [e] ta)(hs:acm [.Call (.Name "enumerate" p2) [e] [] ia] X.env=[(false,eval (.Call (.Name "enumerate" p2) [e] [] ia) X.env)]:=by rfl)(da:acm [e] X.env=[(false,eval e X.env)]:=by rfl) :
 PE X (.Call (.Name "list" p) [.Call (.Name "enumerate" p2) [e] [] ia] [] pos) (IY X.K ta):=by
 intro pins s σ H Q I h;refine akn (gd I hg hm mH (acD ?_ hs rfl));rw[hs];show ack _ _ (spliced ((false,eval (.Call (.Name "enumerate" p2) [e] [] ia) X.env)::adF pos [])) _ _ s;refine adI (akn (gd I tL lS E5 (acD (aE (ha ia pins s σ H _ I h) λus s1 zq=>?_) da rfl)));obtain⟨vs,H1,I1,r1,q1⟩:=zq;obtain⟨a,xs,rfl,hq,q⟩:=q1;obtain⟨u,rfl,ru⟩:=vals1 r1;cases ru;obtain⟨aw,rv,pl,hz⟩:=I1.list hq;refine aie pl.isList λh' he hit hsz hk=>?_;refine adT ?_;have la:a<s1.heap.objs.size:=let ⟨_,e,_⟩:=pl.isList;abZ e;refine Uv (s:={ s1 with heap:=h' }) (l:=a) (items:=aw.toArray) (I1.ok.hd hc) .none he hit (pl.isList.at λo e=>hk a o e) (aja _) (acf (aeS la)) (acf la) (by rw[acb,<- rv.length];exact hz) λg tk acc c as jn hD mZ hG hJ=>?_;have up:∀ b o,s1.heap.get? b=some o->g.get? b=some o:=λb o e=>jn b o (acf (aeS (abZ e))) (acf (abZ e)) (hk b o e);have I2:Inv X pins σ H1 { s1 with heap:=g,toks:=tk }:=I1.kept (t':=tk) up;have AX:∀ b∈as,s1.heap.objs.size<=b:=λb hb=>by have:=hG.above b hb;have e:({ s1 with heap:=h' }:ab9).heap.objs.size=s1.heap.objs.size+2:=hsz;walk_at "o"
 obtain⟨H',s2,I3,k1,k2⟩:=IW as xs aw 0 H1 I2 rv (by rw[mZ,acb];exact rv.length.symm) hG.rise (λb hb=>I1.iX (AX b hb) (I1.az.fresh (AX b hb))) λj b v e1 e2=>by
  obtain⟨t,x,e3,e4⟩:=hG.pairs j b e1;have:x=v:=by simpa [e2] using e3.symm
  subst this;exact⟨t,by rw[akj];exact e4⟩
 have hl:s1.heap.objs.size<=h'.objs.size:=by rw[hsz];exact ajb _ _
 have nl:h'.objs.size∉as:=λz=>absurd (hG.above _ z) (Nat.not_succ_le_self _);have f0:=I1.az.fresh hl;have IZ:as.length=xs.length:=by rw[mZ,acb];exact rv.length.symm
 refine⟨.ref h'.objs.size,upd H' h'.objs.size (.lst (as.map V.ref)),Inv.IV I3 (I1.iX hl (by rw[k1 _ nl];exact f0)) ⟨by rw[abT,IZ];exact hz,acc.toList,c,?_,by rw[ahZ];exact hD⟩,rfl,q _ (as.map V.ref) _ (λb v e=>?_) f0 (aq ..) (by rw[abT,IZ]) λj y x e1 e2=>?_⟩
 .rw[hJ];exact IX as
 .rw[aF (jB e f0)];exact s2 b v e
 .rw[aca] at e1;obtain⟨b,hb,rfl⟩:=acC.mp e1;have hm:=ace hb;refine⟨b,rfl,I1.az.fresh (AX b hm),?_⟩;rw[aF (λz=>nl (by rw[<- z];exact hm))];have:=k2 j b x hb e2;rw[akj] at this;exact this
def m5:L2.St->Nat->(V->Prop)->Prop
 | [],_,_=>False
 | x::_,0,Q=>match x with|some v=>Q v|none=>False
 | _::σ,n+1,Q=>m5 σ n Q
def cG(x:V)(Q:Int->Prop):Prop:=match x with|.int i=>Q i|_=>False
def ot(x:V)(Q:Bool->Prop):Prop:=match x with|.bl i=>Q i|_=>False
def tT(x:V)(Q:ab6->Prop):Prop:=match x with|.ref i=>Q i|_=>False
def Uy(xs:List V)(Q:V->Prop):Prop:=match xs with|[x]=>Q x|_=>False
def Uz(xs:List V)(Q:V->V->Prop):Prop:=match xs with|[x,y]=>Q x y|_=>False
def m6(x:V)(Q:Bool->Prop):Prop:=match x with|.non=>Q true|_=>Q false
def kW(x:V)(Q:Bool->Prop):Prop:=match x with|.non=>Q false|_=>Q true
section
theorem UA:m5 (some v::σ) 0 Q=Q v:=rfl
theorem UB:m5 (o::σ) (n+1) Q=m5 σ n Q:=rfl
theorem UC:cG (.int i) QI=QI i:=rfl
theorem UD:ot (.bl b) QB=QB b:=rfl
theorem UE:tT (.ref a) QR=QR a:=rfl
theorem UG:Uy [x] Q=Q x:=rfl
theorem UH:Uz [x,y] Q2=Q2 x y:=rfl
theorem UI:m6 .non QB=QB true:=rfl
theorem UJ:m6 (.int i) QB=QB false:=rfl
theorem UK:m6 (.bl b) QB=QB false:=rfl
theorem UL:m6 (.ref a) QB=QB false:=rfl
theorem UM:kW .non QB=QB false:=rfl
theorem UN:kW (.int i) QB=QB true:=rfl
theorem UO:kW (.bl b) QB=QB true:=rfl
theorem UP:kW (.ref a) QB=QB true:=rfl
theorem UQ:kW (.str s) QB=QB true:=rfl
theorem UR:m6 (.str s) QB=QB false:=rfl
theorem m5.ex:∀ {σ:L2.St} {n:Nat},m5 σ n Q->∃ v,σ[n]?=some (some v)/\Q v
 | [],_,h=>h.elim
 | some v::_,0,h=>⟨v,rfl,h⟩
 | none::_,0,h=>h.elim
 | _::σ,n+1,h=>m5.ex (σ:=σ) (n:=n) h
theorem cG.ex(h:cG x QI):∃ i,x = .int i/\QI i:=by cases x<;>first|exact⟨_,rfl,h⟩|exact h.elim
theorem ot.ex(h:ot x QB):∃ i,x = .bl i/\QB i:=by cases x<;>first|exact⟨_,rfl,h⟩|exact h.elim
theorem tT.ex(h:tT x QR):∃ i,x = .ref i/\QR i:=by cases x<;>first|exact⟨_,rfl,h⟩|exact h.elim
theorem kW.ex(h:kW x QB):QB (!decide (x = .non)):=by cases x<;>exact h
theorem m6.ex(h:m6 x QB):QB (decide (x = .non)):=by cases x<;>exact h
end
section
variable{X:Cx}{e a b c:afS}{pos:Pos}{ta tb tc:TE}{op iZ:CmpOp}
theorem I0(h:Q (sS x)):kW x Q:=by cases x<;>exact h
theorem AY{c:Prop}[Decidable c]{Q:Bool->Prop}(h:Q (decide c)):if c then Q true else Q false:=by
 by_cases z:c
 .rw[decide_eq_true z] at h;exact (show _=_ from if_pos z).mpr h
 .rw[decide_eq_false z] at h;exact (show _=_ from if_neg z).mpr h
def US(t:TE):TE:=λσ H Q=>∃ Q':VK,(∀ v H1,Q' v H1->Q v H1)/\t σ H Q'
theorem fA(h:PE X e ta):PE X e (US ta):=λpins s σ H Q I ⟨Q',k,q⟩=>aE (h pins s σ H Q' I q) λ_ _ ⟨x,H1,I1,r1,q1⟩=>⟨x,H1,I1,r1,k _ _ q1⟩
theorem tU(h:PE X e ta)(k:∀ σ H Q,t' σ H Q->ta σ H Q):PE X e t':=λpins s σ H Q I q=>h pins s σ H Q I (k σ H Q q)
theorem ox(h:PT X e t)(k:∀ σ H Q,t' σ H Q->t σ H Q):PT X e t':=λpins s σ H Q I q=>h pins s σ H Q I (k σ H Q q)
theorem AZ(h:bf X f r)(k:∀ x y H Q,r' x y H Q->r x y H Q):bf X f r':=λpins s σ H x y v u Q I rx ry q=>h pins s σ H x y v u Q I rx ry (k _ _ _ _ q)
def Ja(i:Nat):TE:=λσ H Q=>m5 σ i λv=>Q v H
theorem aa(i:Nat)(hN:X.N[i]?=some x:=by rfl)(hv:uZ X.env.scope x:=by first|exact afM rfl|exact ai1 (afM rfl)|exact ai1 (ai1 rfl))(hd:(x == ("__debug__" : Str))=false:=by decide)(gA:(x == ("__classdict__" : Str))=false:=by decide):PE X (.Name x pos) (Ja i):=tU (pv i hN hv hd gA) λy y y h=>h.ex
def tV(C:Int->Int->Prop)(g:Int->Int->V):R2:=λx y H Q=>cG x λi=>cG y λj=>C i j/\Q (g i j) H
def wW(g:Int->Int->V):R2:=λx y H Q=>cG x λi=>cG y λj=>Q (g i j) H
def A0(g:Int->V):V->Hp->VK->Prop:=λx H Q=>cG x λi=>Q (g i) H
def A1(p:Int->Int->Prop)[∀ i j,Decidable (p i j)]:R2:=λx y H Q=>cG x λi=>cG y λj=>if p i j then Q (.bl true) H else Q (.bl false) H
theorem A2(h:bf X f (rI C g)):bf X f (tV C g):=AZ h λx y H Q q=>by obtain⟨i,rfl,q1⟩:=cG.ex q;obtain⟨j,rfl,q5⟩:=cG.ex q1;exact⟨i,j,rfl,rfl,q5⟩
theorem gM(h:bf X f (gT g)):bf X f (wW g):=AZ h λx y H Q q=>by obtain⟨i,rfl,q1⟩:=cG.ex q;obtain⟨j,rfl,q5⟩:=cG.ex q1;exact⟨i,j,rfl,rfl,q5⟩
theorem A3[∀ i j,Decidable (p i j)](h:bf X f (gT λi j=>.bl (decide (p i j)))):bf X f (A1 p):=AZ h λx y H Q q=>by
 obtain⟨i,rfl,q1⟩:=cG.ex q;obtain⟨j,rfl,q5⟩:=cG.ex q1;clear q q1;refine⟨i,j,rfl,rfl,?_⟩;by_cases z:p i j
 .rw[if_pos z] at q5;show Q (.bl (decide (p i j))) H;rw[decide_eq_true z];exact q5
 .rw[if_neg z] at q5;show Q (.bl (decide (p i j))) H;rw[decide_eq_false z];exact q5
theorem UT(h:pI X f (rU g)):pI X f (A0 g):=λpins s σ H x v Q I rx q=>h pins s σ H x v Q I rx q.ex
theorem bb:bf X (aeN .Add) (wW λi j=>.int (i+j)):=gM Nc
theorem bW:bf X (aeN .Sub) (wW λi j=>.int (i-j)):=gM Nd
theorem oy:bf X (aeN .Mod) (tV (λy j=>0<j) λi j=>.int (i % j)):=A2 Nf
theorem m8:bf X (aeN .Mult) (tV pQ λi j=>.int (i * j)):=A2 OB
theorem Jb:bf X (aeN .Mult) (tV qg λi j=>.int (i * j)):=A2 QW
theorem iM:pI X (unaryOp .USub) (A0 λi=>.int (-i)):=UT Nh
def Jc(t:TE):TT:=λσ H Q=>t σ H λx H'=>ot x λk=>Q k H'
theorem b9(h:PE X e ta)(he:∀ whole,aj8 e X.env whole=(do let v <- whole;aiE e.pos;holding [v] (truthy v)):=by intro y;rfl):PT X e (Jc ta):=ox (MW (fA h) he) λσ H Q q=>⟨_,λy y h=>h.ex,q⟩
def qM(p:Int->Int->Prop)[∀ i j,Decidable (p i j)](ta tb:TE):TT:=λσ H Q=>ta σ H λx H1=>tb σ H1 λy H2=>cG x λi=>cG y λj=>if p i j then Q true H2 else Q false H2
theorem Jd{p:Int->Int->Prop}[∀ i j,Decidable (p i j)]{x y:V}{H:Hp}{Q:Bool->Hp->Prop}(q:cG x λi=>cG y λj=>if p i j then Q true H else Q false H):A1 p x y H (λz H'=>∃ k,z = .bl k/\Q k H'):=by
 obtain⟨i,rfl,q1⟩:=cG.ex q;obtain⟨j,rfl,q5⟩:=cG.ex q1;clear q q1;by_cases z:p i j
 .rw[if_pos z] at q5;exact (show _=_ from if_pos z).mpr ⟨_,rfl,q5⟩
 .rw[if_neg z] at q5;exact (show _=_ from if_neg z).mpr ⟨_,rfl,q5⟩
theorem wX[∀ i j,Decidable (p i j)](ho:bf X (acX op) (gT λi j=>.bl (decide (p i j))))(ha:PE X a ta)(hb:PE X b tb)(hm:ad9 op b=false):PT X (.Compare a [op] [b] pos) (qM p ta tb) :=
 ox (lq (A3 ho) (fA ha) (fA hb) hm) λσ H Q q=>⟨_,λx H1 q1=>⟨_,λy H2 q2=>Jd q2,q1⟩,q⟩
theorem j4(ha:PE X a ta)(hb:PE X b tb):PT X (.Compare a [.Lt] [b] pos) (qM (λi j=>i<j) ta tb):=wX nJ ha hb (cI _)
theorem UU(ha:PE X a ta)(hb:PE X b tb):PT X (.Compare a [.LtE] [b] pos) (qM (λi j=>i<=j) ta tb):=wX fK ha hb (cI _)
theorem tW(ha:PE X a ta)(hb:PE X b tb):PT X (.Compare a [.Gt] [b] pos) (qM (λi j=>j<i) ta tb):=wX rT ha hb (cI _)
theorem A4(ha:PE X a ta)(hb:PE X b tb):PT X (.Compare a [.GtE] [b] pos) (qM (λi j=>j<=i) ta tb):=wX yM ha hb (cI _)
def eqT(x y:V)(Q:Bool->Prop):Prop:=match x with
 | .int i=>(match y with|.int j=>if i=j then Q true else Q false|.non=>Q false|.str _=>Q false|_=>False)
 | .str i=>(match y with|.str j=>if i=j then Q true else Q false|.non=>Q false|.int _=>Q false|_=>False)
 | .bl i=>(match y with|.bl j=>if i=j then Q true else Q false|.non=>Q false|_=>False)
 | .non=>(match y with|.non=>Q true|.int _=>Q false|.bl _=>Q false|.str _=>Q false|_=>False)
 | _=>False
def neT(x y:V)(Q:Bool->Prop):Prop:=match x with
 | .int i=>(match y with|.int j=>if ¬ i=j then Q true else Q false|.non=>Q true|.str _=>Q true|_=>False)
 | .str i=>(match y with|.str j=>if ¬ i=j then Q true else Q false|.non=>Q true|.int _=>Q true|_=>False)
 | .bl i=>(match y with|.bl j=>if ¬ i=j then Q true else Q false|.non=>Q true|_=>False)
 | .non=>(match y with|.non=>Q false|.int _=>Q true|.bl _=>Q true|.str _=>Q true|_=>False)
 | _=>False
section
theorem UW:eqT (.int i) (.int j) Q=if i=j then Q true else Q false:=rfl
theorem UX:eqT (.str s) (.str t) Q=if s=t then Q true else Q false:=rfl
theorem UY:eqT (.bl b') (.bl b1) Q=if b'=b1 then Q true else Q false:=rfl
theorem UZ:eqT .non .non Q=Q true:=rfl
theorem U0:eqT .non (.int j) Q=Q false:=rfl
theorem U1:eqT (.int i) .non Q=Q false:=rfl
theorem U2:eqT (.int i) (.str s) Q=Q false:=rfl
theorem U3:eqT .non (.str s) Q=Q false:=rfl
theorem U4:neT (.int i) (.int j) Q=if ¬ i=j then Q true else Q false:=rfl
theorem U5:neT (.str s) (.str t) Q=if ¬ s=t then Q true else Q false:=rfl
theorem U6:neT .non .non Q=Q false:=rfl
theorem U7:neT .non (.int j) Q=Q true:=rfl
theorem U8:neT (.int i) .non Q=Q true:=rfl
theorem Je{c:Prop}[Decidable c]{Q:Bool->Prop}(q:if c then Q true else Q false):Q (decide c):=by
 by_cases z:c
 .rw[if_pos z] at q;rw[decide_eq_true z];exact q
 .rw[if_neg z] at q;rw[decide_eq_false z];exact q
theorem eqT.ex(h:eqT x y Q):lp x y=true/\Q (decide (x=y)):=by
 cases x<;>cases y<;>first
  | exact h.elim
  | exact⟨rfl,h⟩
  | (refine⟨rfl,?_⟩;have:=Je h;simpa using this)
theorem neT.ex(h:neT x y Q):lp x y=true/\Q (!decide (x=y)):=by
 cases x<;>cases y<;>first
  | exact h.elim
  | exact⟨rfl,h⟩
  | (refine⟨rfl,?_⟩;have:=Je h;simpa using this)
end
def Jf(ta tb:TE):TT:=λσ H Q=>ta σ H λx H1=>tb σ H1 λy H2=>eqT x y λk=>Q k H2
def Jg(ta tb:TE):TT:=λσ H Q=>ta σ H λx H1=>tb σ H1 λy H2=>neT x y λk=>Q k H2
theorem bq(ha:PE X a ta)(hb:PE X b tb):PT X (.Compare a [.Eq] [b] pos) (Jf ta tb) :=
 ox (lq nI (fA ha) (fA hb) (cI _)) λσ H Q q=>⟨_,λx H1 q1=>⟨_,λy H2 q2=>⟨(eqT.ex q2).1,_,rfl,(eqT.ex q2).2⟩,q1⟩,q⟩
theorem jo(ha:PE X a ta)(hb:PE X b tb):PT X (.Compare a [.NotEq] [b] pos) (Jg ta tb) :=
 ox (lq Ni (fA ha) (fA hb) (cI _)) λσ H Q q=>⟨_,λx H1 q1=>⟨_,λy H2 q2=>⟨(neT.ex q2).1,_,rfl,(neT.ex q2).2⟩,q1⟩,q⟩
def Jh(ta:TE):TT:=λσ H Q=>ta σ H λx H1=>m6 x λk=>Q k H1
def Ji(ta:TE):TT:=λσ H Q=>ta σ H λx H1=>kW x λk=>Q k H1
theorem ee(ha:PE X a ta):PT X (.Compare a [.Is] [.Constant .none j pos'] pos) (Jh ta):=ox (rK (rH (fA ha))) λσ H Q q=>⟨_,λx H1 q1=>⟨_,rfl,q1.ex⟩,q⟩
theorem ie(ha:PE X a ta):PT X (.Compare a [.IsNot] [.Constant .none j pos'] pos) (Ji ta):=ox (rK (rJ (fA ha))) λσ H Q q=>⟨_,λx H1 q1=>⟨_,rfl,kW.ex q1⟩,q⟩
def Jj(p q:Int->Int->Prop)[∀ i j,Decidable (p i j)][∀ i j,Decidable (q i j)](ta tb tc:TE):TT:=λσ H Q=>ta σ H λx H1=>tb σ H1 λy H2=>cG x λi=>cG y λj=>if p i j then (tc σ H2 λz H3=>cG z λk=>if q j k then Q true H3 else Q false H3) else Q false H2
theorem wY[∀ i j,Decidable (p i j)][∀ i j,Decidable (q i j)](ho:bf X (acX op) (gT λi j=>.bl (decide (p i j))))(cS:bf X (acX iZ) (gT λi j=>.bl (decide (q i j))))(ha:PE X a ta)(hb:PE X b tb)(hc:PE X c tc)(hm:ajg [op,iZ] [b,c]=false:=by with_unfolding_all rfl):PT X (.Compare a [op,iZ] [b,c] pos) (Jj p q ta tb tc) :=
 ox (Nj (A3 ho) (A3 cS) (fA ha) (fA hb) (fA hc) hm) λσ H Q q=>⟨_,λx H1 q1=>⟨_,λy H2 q2=>by
  obtain⟨i,rfl,q3⟩:=cG.ex q2;obtain⟨j,rfl,q5⟩:=cG.ex q3;clear q2 q3;by_cases z:p i j
  .rw[if_pos z] at q5;exact (show _=_ from if_pos z).mpr ⟨_,rfl,_,λw' H4 q4=>by
    obtain⟨k,rfl,y⟩:=cG.ex q4;exact Jd (x:=.int j) q4,q5⟩
  .rw[if_neg z] at q5;exact (show _=_ from if_neg z).mpr ⟨_,rfl,⟨_,rfl,q5⟩⟩,q1⟩,q⟩
variable{rest:List afS}
def Jk(ta tb:TE):TE:=λσ H Q=>ta σ H λx H1=>ot x λc=>if c=true then tb σ H1 Q else Q (.bl false) H1
def Jl(ta tb:TE):TE:=λσ H Q=>ta σ H λx H1=>ot x λc=>if c=true then Q (.bl true) H1 else tb σ H1 Q
def Jm(ta:TE):TE:=λσ H Q=>ta σ H λx H1=>ot x λc=>Q (.bl (!c)) H1
theorem fk(ha:PE X a ta)(hb:PE X (.BoolOp .And (b::rest) pos) tb):PE X (.BoolOp .And (a::b::rest) pos) (Jk ta tb):=tU (MX (fA ha) hb) λσ H Q q=>⟨_,λx H1 q1=>q1.ex,q⟩
theorem Jn(ha:PE X a ta)(hb:PE X (.BoolOp .Or (b::rest) pos) tb):PE X (.BoolOp .Or (a::b::rest) pos) (Jl ta tb):=tU (MY (fA ha) hb) λσ H Q q=>⟨_,λx H1 q1=>q1.ex,q⟩
theorem tX(ha:PE X a ta):PE X (.UnaryOp .Not a pos) (Jm ta):=tU (MZ (fA ha)) λσ H Q q=>⟨_,λx H1 q1=>q1.ex,q⟩
def Jo(K:abU)(ta:TE)(f:Str):TE:=λσ H Q=>ta σ H λx H1=>tT x λa=>∃ C dx fs,H1 a=some (.ins C dx fs)/\cN K C/\bQ K C f/\∃ v,fs.lookup f=some v/\Q v H1
theorem bz{f:Str}{K:abU}(hK:X.K=K)(he:PE X e ta)(hb:afg e f X.env (eval e X.env)=eval e X.env):PE X (.Attribute e f pos) (Jo K ta f):=by
 subst hK;exact tU (NB (fA he) hb) λσ H Q q=>⟨_,λx H1 q1=>by
  obtain⟨a,rfl,C,dx,fs,h1,h2,h3,v,h4,q2⟩:=q1.ex;exact⟨a,C,dx,fs,v,rfl,h1,h2,h3,h4,q2⟩,q⟩
def Jp(K:abU)(ta tv:TE)(f:Str):TS:=λD σ H=>tv σ H λy H1=>ta σ H1 λx H2=>tT x λa=>∃ C dx fs,H2 a=some (.ins C dx fs)/\cN K C/\bQ K C f/\fs.length<1000 /\
 D.nx σ (upd H2 a (.ins C dx (fL f y fs)))
theorem gN(ha:PE X o ta)(hv:PE X value tv)(hs:afH value (some (.Attribute o f pos')) pos.line X.env=pure false):PS X (.Assign [.Attribute o f pos'] value pos) (Jp X.K ta tv f):=λpins s σ H D I h =>
 NC (fA ha) (fA hv) hs pins s σ H D I ⟨_,λy H1 q1=>⟨_,λx H2 q2=>by
  obtain⟨a,rfl,C,dx,fs,h⟩:=q2.ex;exact⟨a,C,dx,fs,rfl,h⟩,q1⟩,h⟩
end
section
variable{X:Cx}{K:abU}{a b e:afS}{es:List afS}{ta tb:TE}{t:TA}{pos p:Pos}
theorem ao(ha:PE X a ta)(hb:PE X b tb)(hs:yZ b:=by exact λy y=>rfl):PE X (.Subscript a b pos) (nH (kE X.K) ta tb):=bD bE ha hb hs
theorem b0(ha:PE X a ta)(hb:PE X b tb)(h:X.K=K:=by rfl)(hs:yZ b:=by exact λy y=>rfl):PE X (.Subscript a b pos) (nH (kE K) ta tb):=bD (P4 h) ha hb hs
end
structure Fn(K:abU)(mg:Str->Option ab1)(x:Str)(st:ag3)(ps:List Str) where
 a:ab6
 fd:aeO
 F:nQ K x x st a fd
 m:mg x=some (.ref a)
 b:Binds K fd ps []
structure Fm(K:abU)(x q:Str)(st:ag3)(ps:List Str) where
 a:ab6
 fd:aeO
 F:nQ K x q st a fd
 b:Binds K fd ps []
section
theorem U9{CX:gU}{k n:Nat}{ps:List Str}{sp:Sp}{x:Str}{st:ag3}(N:Fn X.K X.mg x st ps)(F:eI X.prog X.w X.K X.mg X.base CX k N.a N.fd ps sp)(hr:bI n X.A)(hx:Passes CX X E0)(ha:PA X (e::es) t)
 (hk:k<=n:=by decide) (hg:Gl X x:=by rfl) (fM:(x == ("__debug__" : Str))=false:=by decide) (he:acm (e::es) X.env=(false,eval e X.env)::acm es X.env:=by rfl) (dJ:(adF pos (acm es X.env)).any (·.1)=false:=by rfl) :
 PE X (.Call (.Name x p) (e::es) [] pos) (pL sp [] E0 t):=eJ F (hr.mono hk) hg N.m N.F.kp N.b .nil hx ha fM he dJ
end
theorem Va{α:Type}{n:Nat}{p:List α->Prop}(h:∀ u vs,vs.length=n->p (u::vs)):∀ us:List α,us.length=n+1->p us
 | u::vs,e=>h u vs (Nat.succ.inj e)
theorem Vb{α:Type}{p:List α->Prop}(h:p []):∀ us:List α,us.length=0->p us
 | [],_=>h
structure Sc(N ps:List Str)(st:ag3):Prop extends rZ N ps (eK st) where
 b:∀ (x q:Str) (kV doc pm:ab1) (an:Option ab6) (a8 ct:ab1) (us:List ab1),us.length=ps.length->bindArgs (aeH x q (pP st) (i4 st) (eK st) .none kV doc pm an a8 ct) ⟨us,[]⟩=pure (ps.zip us)
section
variable{P:acK}{w:ado}{K:abU}{mg:Str->Option ab1}{base h:aek}{x q:Str}{st:ag3}{N ps:List Str}{k:Nat}{sp:Sp}{C:ab6}
inductive Fb(K:abU)(x q:Str)(st:ag3)(p:ab6->Prop):Prop
 | mk {f:ab6} {od an:Option ab6} {sl:Array (Option ab1)} {oc kV dc pm cd ct:ab1} (_:p f) (_:K.lookup f=some ⟨oc,od,.func (aeH x q (pP st) (i4 st) (eK st) .none kV dc pm an cd ct),sl⟩) (_:agy K cd q=true) (_:aeg K (.ref f)=true)
def Jq(K:abU)(x:Str)(f:ab6):Prop:=akk K ady x=some (some (.ref f))
def fm(K:abU)(C:ab6)(x:Str)(f:ab6):Prop:=adx K (.ref C) x=some (some (.ref f))/\ahA K (.ref f)=true
theorem Fb.fn(b:Fb K x x st (Jq K x))(X:K.In h)(G:h.Ns ady mg)(S:Sc N ps st):Nonempty (Fn K mg x st ps) :=
 let ⟨a,l,c,k⟩:=b;⟨⟨_,_,vH l c k,aj5 X G a,(vH l c k).binds (S.b x x)⟩⟩
theorem Fn.bt{y:Str}(F:Fn K mg x st [y])(S:Sc N [y] st)(s:ab9)(v:ab1):aiJ s F.fd ⟨[v],[]⟩ [(y,v)]:=by obtain⟨oc,od,kV,doc,pm,an,a8,ct,kC,e,lk,gA⟩:=F.F.ex;rw[e];exact .of_eq (S.b _ _ _ _ _ _ _ _ [v] rfl)
abbrev Ok(P:acK)(w:ado){K:abU}{mg:Str->Option ab1}(base:aek)(k:Nat){x:Str}{st:ag3}{ps:List Str}(F:Fn K mg x st ps)(sp:Sp):Prop:=eI P w K mg base (dM P w) k F.a F.fd ps sp
abbrev Om(P:acK)(w:ado){K:abU}(mg:Str->Option ab1)(base:aek)(k:Nat){x q:Str}{st:ag3}{ps:List Str}(F:Fm K x q st ps)(sp:Sp):Prop:=eI P w K mg base (dM P w) k F.a F.fd ps sp
theorem bA{F:Fn K mg x st ps}(S:Sc N ps st)
 (iG:∀ (a8:ab1) (A:adz) (outer:List Env) (s:ab9) (H:Hp) (vs:List V) (Q:VK) (E:XK),bI k (A.deeper (adJ x (eK st) s.heap.objs.size F.a a8))->sp vs H Q E ->
   ∃ t,aR (fN (dM P w) P w K mg base N x (eK st) F.a a8 A outer s H E).pF (i4 st) t/\t { nx:=λy H'=>Q .non H',rt:=Q } (start N vs) H)
 (len:∀ vs H Q E,sp vs H Q E->vs.length=ps.length:=by intro y y y y h;cases h;subst_vars;rfl):Ok P w base (k+1) F sp:=okN F.F S.1 len iG
theorem ig{F:Fn K mg x st ps}(S:Sc N ps st)
 (iG:∀ (a8:ab1) (A:adz) (outer:List Env) (s:ab9) (H:Hp) (vs:List V) (Q:VK) (E:XK),bI k (A.deeper (adJ x (eK st) s.heap.objs.size F.a a8))->sp vs H Q E ->
   ∃ t,aR (fN (dM P w) P w K mg base N x (eK st) F.a a8 A outer s H E) (i4 st) t/\t { nx:=λy H'=>Q .non H',rt:=Q } (start N vs) H)
 (len:∀ vs H Q E,sp vs H Q E->vs.length=ps.length:=by intro y y y y h;cases h;subst_vars;rfl):Ok P w base (k+1) F sp:=jL F.F S.1 len iG
theorem fb{F:Fm K x q st ps}(S:Sc N ps st)
 (iG:∀ (a8:ab1) (A:adz) (outer:List Env) (s:ab9) (H:Hp) (vs:List V) (Q:VK) (E:XK),bI k (A.deeper (adJ q (eK st) s.heap.objs.size F.a a8))->sp vs H Q E ->
   ∃ t,aR (fN (dM P w) P w K mg base N q (eK st) F.a a8 A outer s H E).pF (i4 st) t/\t { nx:=λy H'=>Q .non H',rt:=Q } (start N vs) H)
 (len:∀ vs H Q E,sp vs H Q E->vs.length=ps.length:=by intro y y y y h;cases h;subst_vars;rfl):Om P w mg base (k+1) F sp:=okN F.F S.1 len iG
theorem iN{F:Fm K x q st ps}(S:Sc N ps st)
 (iG:∀ (a8:ab1) (A:adz) (outer:List Env) (s:ab9) (H:Hp) (vs:List V) (Q:VK) (E:XK),bI k (A.deeper (adJ q (eK st) s.heap.objs.size F.a a8))->sp vs H Q E ->
   ∃ t,aR (fN (dM P w) P w K mg base N q (eK st) F.a a8 A outer s H E) (i4 st) t/\t { nx:=λy H'=>Q .non H',rt:=Q } (start N vs) H)
 (len:∀ vs H Q E,sp vs H Q E->vs.length=ps.length:=by intro y y y y h;cases h;subst_vars;rfl):Om P w mg base (k+1) F sp:=jL F.F S.1 len iG
end
section
theorem aJ(i:Nat)(hN:X.N.Nodup)(he:PE X e te)(hi:X.N[i]?=some x:=by rfl)(hx:Loc X.env.scope x:=by first|exact afM rfl|exact ai1 rfl)(hs:afH e (some (.Name x pos')) pos.line X.env=pure false:=by rfl)(hf:X.fn x=true∨X.env.scope.names.lookup x=some .local:=by first|exact .inl rfl|exact .inr rfl) :
 PS X (.Assign [.Name x pos'] e pos) (vg te (cA i)):=jG hN hi hx he hs hf
theorem cv(i:Nat)(hN:X.N.Nodup)(hi:X.N[i]?=some x:=by rfl)(hx:Loc X.env.scope x:=by first|exact afM rfl|exact ai1 rfl)(hf:X.fn x=true∨X.env.scope.names.lookup x=some .local:=by first|exact .inl rfl|exact .inr rfl):PG X (.Name x pos) (cA i):=gB hN hi hx hf
theorem aK{k n:Nat}{ps:List Str}{sp:Sp}{st:ag3}{CX:gU}{N:Fn X.K X.mg x st ps}(F:eI X.prog X.w X.K X.mg X.base CX k N.a N.fd ps sp)(hr:bI n X.A)(ha:PA X (e::es) t)(hx:Passes CX X E0:=by exact bB)
 (hk:k<=n:=by decide) (hg:Gl X x:=by rfl) (fM:(x == ("__debug__" : Str))=false:=by decide) (he:acm (e::es) X.env=(false,eval e X.env)::acm es X.env:=by rfl) (dJ:(adF pos (acm es X.env)).any (·.1)=false:=by rfl) :
 PE X (.Call (.Name x p) (e::es) [] pos) (pL sp [] E0 t):=U9 N F hr hx ha hk hg fM he dJ
end
end Gz
namespace Gz
open PySem L2
theorem wZ:∀ {xs ys:List Int},xs.Nodup->(∀ x∈xs,x∈ys)->xs.length<=ys.length
 | [],_,_,_=>acr _
 | x::xs,ys,h,k=>by obtain⟨h1,h2⟩:=ac9.mp h;have hx:=k x (.head _);have ih:=wZ (ys:=ys.erase x) h2 λy hy=>(ah0 (λz=>h1 (by rw[<- z];exact hy))).mpr (k y (.tail _ hy));rw[agX hx] at ih;have:=ahw hx;rw[acB];omega
end Gz
namespace Gz
open PySem PySem.Spec PyProof.Rows L2
theorem Jr(hL:(L.length:Int)<=mo)(hc:jh ps c)(hg:∀ k s,gs[k]?=some s->bV s (c k))(gO:gs.length<=ps.length+1)(hw:meets (fj tb L) c)(ht:∀ r∈tb,r.1.2.toNat<=ps.length) :
 ∀ (t:Pp) (as:List Int),as.Nodup->(∀ x∈as,x∈L)->¬ Val ps gs tb mo t as
 | .nil,_,_,_,h=>h
 | .full,as,hn,hs,h=>by have:=wZ hn hs;have h:mo<as.length:=h;lia
 | .cls x a b,as,hn,hs,h=>by
  obtain⟨⟨m,n,hm,kr,br⟩,ha,hb⟩:=h;have met:∀ (s:En × Nat) (k:Mk),jZ gs tb as s k->(∀ e,s.1=some e->e∉L)->bV k.2 (c k.1)/\k.1<=ps.length:=λs k hk hl=>by
   obtain⟨h1,h2⟩:=hk;obtain⟨o,j⟩:=s;cases o with
   | none =>
    have h2:gs[j]?=some k.2:=h2;have:=(ab0.mp h2).1;have h1:k.1=j:=h1;rw[h1];exact⟨hg _ _ h2,by lia⟩
   | some e =>
    have h2:e∉as/\((e,(j:Int)),k.2)∈tb:=h2;have h1:k.1=j:=h1;have jn:(j,k.2)∈fj tb L:=AV.mpr ⟨_,h2.2,hl e rfl,by simp⟩;have:=ht _ h2.2;rw[h1];exact⟨hw _ jn,by simpa using this⟩
  have step:∀ (e:Int) (t:Pp) (s:En × Nat) (k:Mk),jZ gs tb as s k->s.1=some e->e∈L->Val ps gs tb mo t (as++[e])->sizeOf t<1+sizeOf x+sizeOf a+sizeOf b->False:=λe t s k hk es hl hv aZ=>by
   have A5:e∉as:=by obtain⟨v,h2⟩:=hk;rw[es] at h2;exact h2.1
   refine Jr hL hc hg gO hw ht t (as++[e]) (agY.mpr ⟨hn,by simp,λy hy z hz=>?_⟩) (λy hy=>?_) hv
   .obtain rfl:z=e:=by simpa using hz
    exact λq=>A5 (q ▸ hy)
   .rcases acw.mp hy with z|z
    .exact hs y z
    .obtain rfl:y=e:=by simpa using z
     exact hl
  by_cases h1:∃ e,x.1.1=some e/\e∈L
  .obtain⟨e,e1,e2⟩:=h1;rw[e1] at ha;exact step e a x.1 m hm e1 e2 ha (by lia)
  by_cases h2:∃ e,x.2.1=some e/\e∈L
  .obtain⟨e,e1,e2⟩:=h2;have hb:if x.1.1=some e then b = .nil else Val ps gs tb mo b (as++[e]):=by rw[e1] at hb;exact hb
   rw[if_neg (λz=>h1 ⟨e,z,e2⟩)] at hb;exact step e b x.2 n kr e1 e2 hb (by lia)
  have m1:=met x.1 m hm λe he z=>h1 ⟨e,he,z⟩;have m2:=met x.2 n kr λe he z=>h2 ⟨e,he,z⟩;refine RS (ms:=[m,n]) hc (λq hq=>?_) (λq hq=>?_) (.head _) (.tail _ (.head _)) br
  .rcases acd.mp hq with rfl|hq
   .exact m1.1
   .obtain rfl:q=n:=by simpa using hq
    exact m2.1
  .rcases acd.mp hq with rfl|hq
   .exact m1.2
   .obtain rfl:q=n:=by simpa using hq
    exact m2.2
termination_by t=>sizeOf t
decreasing_by simp_wf;lia
theorem A6(f:Nat->Int):∀ i,(firstMet f i).Nodup
 | 0=>agC
 | i+1=>by
  rw[firstMet_succ];unfold step_dedup;split
  .exact A6 f i
  .rename_i h;refine agY.mpr ⟨A6 f i,by simp,λa ha b hb z=>h ?_⟩;obtain rfl:b=f i:=by simpa using hb
   exact acM.mpr ⟨a,ha,by simpa using z⟩
theorem Vc(ns:List Int)(x:Int):x∈firstMet (λi=>ns.getD i 0) ns.length↔x∈ns:=by
 have h:=firstMet_any (λi=>ns.getD i 0) ns.length x;have e:(ab2 ns.length).map (λi=>ns.getD i 0)=ns:=by refine ahl (by simp) λi h1 h2=>?_;simp[h2]
 rw[e] at h;constructor
 .intro z;have:ns.any (· == x)=true:=by rw[<- h];exact acM.mpr ⟨x,z,by simp⟩
  obtain⟨y,hy,e⟩:=acM.mp this;exact (by simpa using e:y=x) ▸ hy
 .intro z;have:(firstMet (λi=>ns.getD i 0) ns.length).any (· == x)=true:=by rw[h];exact acM.mpr ⟨x,z,by simp⟩
  obtain⟨y,hy,e⟩:=acM.mp this;exact (by simpa using e:y=x) ▸ hy
def Js(K:abU)(t:TE):TE:=λσ H Q=>t σ H λv H1=>∃ (a:ab6) (ns:List Int),v=V.ref a/\ai K H1 a (ns.map V.int)/\ns.length<=1000/\∀ zs:List Int,zs.Nodup->(∀ x,x∈zs↔x∈ns)->Q (.int zs.length) H1
theorem Vd(hc:X.calm=true)(he:PE X e t)(AJ:X.mg "len" = none)(lS:X.mg "set" = none)(oj:Gl X "len" := by rfl)(tL:Gl X "set" := by rfl)(da:acm [e] X.env=[(false,eval e X.env)]:=by rfl)(tM:acm [.Call (.Name "set" p2) [e] [] ia] X.env=[(false,eval (.Call (.Name "set" p2) [e] [] ia) X.env)]:=by rfl) :
 PE X (.Call (.Name "len" p1) [.Call (.Name "set" p2) [e] [] ia] [] pos) (Js X.K t):=by
 intro pins s σ H Q I h;refine adp (gd I oj AJ vK ?_ (by decide) (by decide));refine aeq ?_ (by rw[tM];rfl) rfl;rw[tM];show ack _ _ (spliced ((false,eval (.Call (.Name "set" p2) [e] [] ia) X.env)::adF pos [])) _ _ s;refine adI ?_;refine adp (gd I tL lS HS ?_ (by decide) (by decide));refine acD ?_ (by rw[da];rfl) rfl;rw[da];show ack _ _ (spliced ((false,eval e X.env)::adF ia [])) _ _ s;refine adI (aE (he pins s σ H _ I h) λu s1 zq=>?_);obtain⟨x,H1,I1,r1,q1⟩:=zq;obtain⟨a,ns,rfl,hS,hn,q⟩:=q1;cases r1;refine adT ?_;obtain⟨us,rv,pl,hz⟩:=I1.list hS;have hl:us.length=ns.length:=by have:=rv.length;rw[abT] at this;lia
 refine call_set_list (items:=us.toArray) (ns:=ns) (I1.ok.hd hc) pl.isList (intsAre_of rv) (by simp;rw[hl];exact ac5 (Nat.succ_le_succ hn) (by decide)) λh2 tk Ve hk=>?_;refine adT ?_;obtain⟨o,es,ep,tb,g1,g2,g3,g4,g5,g6,g7,g8⟩:=Ve;have Vf:us.toArray.size=ns.length:=by simp[hl]
 rw[Vf] at g8;refine call_len_set g1 g2 g3 g7 (by rw[g8];have:=firstMet_length_le (λi=>ns.getD i 0) ns.length;lia) ?_;refine⟨.int es.size,H1,I1.kept λb o hb=>hk b o (abZ hb) hb,⟨_,rfl⟩,?_⟩;rw[g8];exact q _ (A6 _ _) (Vc ns)
theorem _root_.L2.bI.m(r:bI k A)(h:j<=k:=by decide):bI j A:=r.mono h
theorem aI{K:abU}{H:Hp}{p:ab6}{xs:List V}{i:Int}{v:V}{Q:VK}(h:H p=some (.tup xs))(q:Q v H)(e:de xs i=some v:=by rfl):kE K (.ref p) (.int i) H Q:=ay (aj.of h) e q
theorem cO(fr:List Nat)(ys:List Str)(a:ajO scope X.env=pure cl:=by rfl)(b:(scope.names.all λp=>p.2 != .cell)=true:=by decide +kernel)(c:scope.kind = .function:=by rfl)(d:(scope.names.all λp=>p.2 != .local || scope.names.lookup p.1 == some .local)=true:=by decide +kernel)(e:scope.names.lookup x=some .local:=by rfl)(f:((relabel scope X.env).names.all λp=>(p.2 != .cell && p.2 != .free) || (cl.lookup p.1).isSome)=true:=by rfl)(g:kH X cl:=by repeat' first|exact kH.nil|refine kH.cons rfl ?_)(h:i7 X scope cl fr ys:=by repeat' first|exact i7.nil|refine i7.cons rfl rfl rfl rfl ?_)(i:(x::ys).Nodup:=by decide)(j:(ys.all λy=>(relabel scope X.env).names.lookup y == some .cell)=true:=by rfl):nT X x scope cl fr ys:=⟨a,b,c,d,e,f,g,h,i,j⟩
theorem Jt(h:∀ B:TS,B=t->rM tc B u D σ H):rM tc t u D σ H:=h t rfl
noncomputable abbrev Fq(K:abU)(mg:Str->Option ab1)(x:Str){N ps:List Str}{st:ag3}(_:Sc N ps st):=Fn K mg x st ps
abbrev A7(K:abU)(x:Str){N ps:List Str}{st:ag3}(_:Sc N ps st):Prop:=Fb K x x st (Jq K x)
abbrev oz(K:abU)(C:ab6)(x q:Str){N ps:List Str}{st:ag3}(_:Sc N ps st):Prop:=Fb K x q st (fm K C x)
abbrev j5(K:abU)(x q:Str){N ps:List Str}{st:ag3}(_:Sc N ps st)(p:ab6->Prop):Prop:=Fb K x q st p
noncomputable def A7.c{K:abU}{mg:Str->Option ab1}{h:aek}{x:Str}{st:ag3}{N ps:List Str}{S:Sc N ps st}(b:A7 K x S)(X:K.In h)(G:h.Ns ady mg):Fq K mg x S:=Classical.choice (Fb.fn b X G S)
theorem Vg{K:abU}{C:ab6}{x y q:Str}{st:ag3}{ps:List Str}{F:Fm K y q st ps}(a:fm K C x F.a):Meth K C x F.a:=⟨a.1,a.2,F.F.kp⟩
section
theorem dO{k n:Nat}{ps:List Str}{sp:Sp}{st:ag3}{CX:gU}{E:XK}{N:Fn X.K X.mg x st ps}(F:eI X.prog X.w X.K X.mg X.base CX k N.a N.fd ps sp)(hr:bI n X.A)(ha:PA X (e::es) t)(hx:Passes CX X E:=by exact gF)
 (hk:k<=n:=by decide) (hg:Gl X x:=by rfl) (fM:(x == ("__debug__" : Str))=false:=by decide) (he:acm (e::es) X.env=(false,eval e X.env)::acm es X.env:=by rfl) (dJ:(adF pos (acm es X.env)).any (·.1)=false:=by rfl) :
 PE X (.Call (.Name x p) (e::es) [] pos) (pL sp [] E t):=eJ F (hr.mono hk) hg N.m N.F.kp N.b .nil hx ha fM he dJ
theorem cW(hm:X.mg "len" = none)(ha:PA X (e::es) t)(hg:Gl X "len" := by rfl)(he:acm (e::es) X.env=(false,eval e X.env)::acm es X.env:=by rfl)(dJ:(adF pos (acm es X.env)).any (·.1)=false:=by rfl) :
 PE X (.Call (.Name "len" p) (e::es) [] pos) (vz (λxs H Q=>∃ x n,xs=[x]/\vx X.K x H n/\Q (.int n) H) t):=bT Nl hg hm vK ha (by decide) (by decide) he dJ
end
noncomputable abbrev Fy(K:abU)(_:ab6)(x q:Str){N ps:List Str}{st:ag3}(_:Sc N ps st):=Fm K x q st ps
noncomputable abbrev Fv(K:abU)(x q:Str){N ps:List Str}{st:ag3}(_:Sc N ps st)(_:ab6->Prop):=Fm K x q st ps
section
variable{K:abU}{C:ab6}{x q y:Str}{N ps:List Str}{st:ag3}{S:Sc N ps st}{p:ab6->Prop}
theorem Fb.fx(b:Fb K x q st p)(S:Sc N ps st):∃ F:Fm K x q st ps,p F.a :=
 let ⟨a,l,c,k⟩:=b;⟨⟨_,_,vH l c k,(vH l c k).binds (S.b x q)⟩,a⟩
noncomputable def j5.c(b:j5 K x q S p):Fv K x q S p:=ajc (Fb.fx b S)
noncomputable def oz.c(b:oz K C x q S):Fy K C x q S:=ajc (Fb.fx b S)
theorem j5.i{b:j5 K x q S p}(h:∀ f,p f->fm K C y f):fm K C y (j5.c b).a:=h _ (afR (Fb.fx b S))
theorem oz.i{b:oz K C x q S}:fm K C x (oz.c b).a:=afR (Fb.fx b S)
theorem j5.j{b:j5 K x q S p}{v u:ab1}(h:∀ f,p f->afk K v u y=some (.val (.ref f))):afk K v u y=some (.val (.ref (j5.c b).a)):=h _ (afR (Fb.fx b S))
theorem Vh{f:ab6}(a:ahD K C=true)(c:fm K C "__init__" f)(b:aeg K (.ref C)=true):L2.Mk K C f:=⟨a,c.1,c.2,b⟩
theorem Vi{F:Fm K x q st ps}(a:agL K (.ref C) "__getattribute__" = some (some (.builtin "type.__getattribute__")))(b:ajv K C (.type "type")=true)(c:afk K (.ref C) (.type "type") y=some (.val (.ref F.a))):zW K C y F.a:=⟨a,b,c,F.F.kp⟩
end
structure qN(P:acK)(w:ado)(K:abU)(mg:Str->Option ab1)(base:aek)(A:adz)(m:Str)(x:V)(H:Hp)(Q:VK):Prop where
 mk ::
 ex:∃ a C dx fs f k fd ps sp,x = .ref a/\H a=some (.ins C dx fs)/\cN K C/\Meth K C m f/\fs.lookup m=none/\eI P w K mg base (dM P w) k f fd ps sp/\bI k A/\Binds K fd ps []/\sp [.ref a] H Q E0
theorem qN.of{P:acK}{w:ado}{K:abU}{mg:Str->Option ab1}{base:aek}{A:adz}{m:Str}{H:Hp}{Q:VK}{a C dx f:ab6}{fs:List (Str × V)}{k n:Nat}{fd:aeO}{ps:List Str}{sp:Sp}(ha:H a=some (.ins C dx fs))(hc:cN K C)(hm:Meth K C m f)(F:eI P w K mg base (dM P w) k f fd ps sp)(hr:bI n A)(hb:Binds K fd ps [])(q:sp [.ref a] H Q E0)(hl:fs.lookup m=none:=by rfl)(hk:k<=n:=by decide):qN P w K mg base A m (.ref a) H Q :=
 ⟨a,C,dx,fs,f,k,fd,ps,sp,rfl,ha,hc,hm,hl,F,hr.mono hk,hb,q⟩
theorem lW{X:Cx}{R:V->Hp->VK->Prop}{m:Str}{o:afS}{apos pos:Pos}{ta:TE}{pl:Sem Bool}(hR:∀ x H Q,R x H Q->qN X.prog X.w X.K X.mg X.base X.A m x H Q)(he:PE X o ta)
 (ht:eval (.Call (.Attribute o m apos) [] [] pos) X.env=(do
   let ov <- eval o X.env
   aiE apos.atName
   let (f,first) <- holding [ov] (ahB ov m pl)
   ajU pos f first (adF pos (acm [] X.env)) (ahR pos (afx [] X.env))):=by rfl) :
 PE X (.Call (.Attribute o m apos) [] [] pos) (λσ H Q=>ta σ H λx H1=>R x H1 Q):=by
 intro pins s σ H Q I h;refine aeG (pl:=pl) (aE (he pins s σ H _ I h) λu s1 zq=>?_) ht;obtain⟨x,H1,I1,rx,q⟩:=zq;obtain⟨a,C,dx,fs,f,k,fd,ps,sp,rfl,ea,c,hm,l,F,hr,hb,q⟩:=hR _ _ _ q;obtain rfl:u=acy a:=rx;refine yS I1 ea c hm l ?_;exact ah9 (first:=[.ref a]) I1.cz hm.kp (rX (us:=[.ref a]) (vs:=[.ref a]) F hr hb .nil bB I1 (.cons rfl .nil) q)
def gP(sw gw:List W2)(tb:Tb)(m:Int)(L:List Int)(c:Nat->Int):Prop:=(L.length:Int)<=m/\(∀ (j:Nat) w,sw[j]?=some w->dZ w (c (j+1)-c j))/\(∀ (j:Nat) w,gw[j]?=some w->dZ w (c j))/\∀ r∈tb,r.1.1∉L->bV r.2 (c r.1.2.toNat)
theorem gP.of{sw gw:List W2}{tb eL:Tb}{m:Int}{L:List Int}{c:Nat->Int}(h:gP sw gw tb m L c)(s:∀ r∈eL,r∈tb):gP sw gw eL m L c:=⟨h.1,h.2.1,h.2.2.1,λr hr=>h.2.2.2 r (s r hr)⟩
theorem A8:meets (fj tb L) c ↔ ∀ r∈tb,r.1.1∉L->bV r.2 (c r.1.2.toNat):=by
 unfold meets fj;constructor
 .intro h r hr hn;exact h (r.1.2.toNat,r.2) (ab7.mpr ⟨r,acv.mpr ⟨qA.mem_iff.mpr hr,by simpa using hn⟩,rfl⟩)
 .intro h m hm;obtain⟨r,hr,rfl⟩:=ab7.mp hm;obtain⟨h1,h2⟩:=acv.mp hr;exact h r (qA.mem_iff.mp h1) (by simpa using h2)
theorem A9:(∀ (j:Nat) w,(pp.map ic)[j]?=some w->dZ w (c (j+1)-c j))↔jh pp c:=by
 constructor
 .intro h k hk;obtain⟨s,e,h1,h2⟩:=h k (ic (aL pp k)) (by rw[aca,abW hk];unfold aL;rw[abV,abW hk];rfl);unfold ic at e;cases e;exact⟨h1 _ rfl,h2 _ rfl⟩
 .intro h j w hw;rw[aca] at hw;obtain⟨p,hp,rfl⟩:=acC.mp hw;have hj:=(ab0.mp hp).1;have:=h j hj;unfold aL at this;rw[abV,hp] at this;exact⟨_,rfl,λa z=>by cases z;exact this.1,λa z=>by cases z;exact this.2⟩
theorem Ba{gs:List S2}{c:Nat->Int}:(∀ (j:Nat) w,(gs.map some)[j]?=some w->dZ w (c j)) ↔ ∀ (j:Nat) s,gs[j]?=some s->bV s (c j):=by
 constructor
 .intro h j s hs;obtain⟨s',e,z⟩:=h j (some s) (by rw[aca,hs];rfl);cases e;exact z
 .intro h j w hw;rw[aca] at hw;obtain⟨s,hs,rfl⟩:=acC.mp hw;exact⟨s,rfl,h j s hs⟩
theorem Vj:r∈e9 tb s w↔r=(s,w)∨(r∈tb/\r.1≠s):=by
 unfold e9;split
 .rename_i h;rw[acM] at h;constructor
  .intro hr;obtain⟨x,hx,rfl⟩:=ab7.mp hr;by_cases e:x.1=s
   .rw[if_pos e,e];exact .inl rfl
   .rw[if_neg e];exact .inr ⟨hx,e⟩
  .rintro (rfl|⟨h1,h2⟩)
   .obtain⟨x,hx,e⟩:=h;have e:=of_decide_eq_true e;exact ab7.mpr ⟨x,hx,by rw[if_pos e,e]⟩
   .exact ab7.mpr ⟨r,h1,by rw[if_neg h2]⟩
 .rename_i h;rw[acw,acx];constructor
  .rintro (h1|rfl)
   .refine .inr ⟨h1,λe=>h (acM.mpr ⟨r,h1,decide_eq_true e⟩)⟩
   .exact .inl rfl
  .rintro (rfl|⟨h1,_⟩)
   .exact .inr rfl
   .exact .inl h1
theorem Ju(h:bK e t tb)(he:0<=e)(ht:0<=t):(tb.length:Int)<=e * t:=by
 have z:∀ {i i' j j':Int},i<i'->j<t->0<=j'->i * t+j<i' * t+j':=λ{i i' j j'} a b c=>by have:=Int.mul_le_mul_of_nonneg_right (show i+1<=i' by lia) ht;rw[Int.add_mul,Int.one_mul] at this;lia
 have:=wZ (xs:=tb.map λr=>r.1.1 * t+r.1.2) (ys:=(ab2 (e * t).toNat).map λn:Nat=>(n:Int)) ?_ ?_
 .rw[abT,abT,ab5] at this;have:=aeB he ht;lia
 .have hn:=h.1;unfold List.Nodup at hn ⊢;rw[agU] at hn ⊢;refine hn.imp_of_mem λ{a b} ha hb bS q=>bS ?_;obtain⟨⟨a1,a2⟩,a3,a4⟩:=h.2 a ha;obtain⟨⟨b1,b2⟩,b3,b4⟩:=h.2 b hb;rcases Int.lt_trichotomy a.1.1 b.1.1 with c|c|c
  .have:=z c a4 b3;lia
  .rw[c] at q;exact Prod.ext c (by lia)
  .have:=z c b4 a3;lia
 .intro x hx;obtain⟨r,hr,rfl⟩:=ab7.mp hx;obtain⟨⟨a1,a2⟩,a3,a4⟩:=h.2 r hr;have q:=z a2 a4 (ade 0);have q0:=aeB a1 ht;exact ab7.mpr ⟨(r.1.1 * t+r.1.2).toNat,acp.mpr (by lia),by lia⟩
end Gz
namespace kX
open PySem L2 Gz
local macro_rules | `(tactic| walk_at "d") => `(tactic| dsimp only [seval, Nat.reduceAdd, Nat.reduceSub, ↓reduceIte, ve, rM, vq, nH, D7, yz, tC, D0, DY, vg, cA, vz, rW, pJ, pL, DO, DP, tB, DR, DS, DT, DU, DV, DW, DX, DZ, rI, gT, rU, D9, Ea, OT, OU, OV, OW, OX, OM, ON, OO, OP, OQ, OR, ite_tt, ite_ff, L2.start, OY, OZ, List.map_cons, List.map_nil, List.length_cons, List.length_nil, List.replicate, List.nil_append, List.cons_append, List.getElem?_cons_zero, List.getElem?_cons_succ, List.set_cons_zero, List.set_cons_succ, Bool.not_true, Bool.not_false, El, Em, EN, N7, ES, O0, O2, O3, zp, v7, QP, vV, yD, yC, zo, D4, EK, zR, yG, yF, QC, QD, Ei, Ej, yT, Ep, ED, EB, EC, za, EU, Qq, Qr, Qs, yN, zr, zG, zJ, zM, Ja, UA, UB, UC, UD, UE, UG, UH, UI, UJ, UK, UL, UR, UM, UN, UO, UP, UQ, tV, wW, A0, A1, Jc, qM, Jf, Jg, UW, UX, UY, UZ, U0, U1, U2, U3, U4, U5, U6, U7, U8, Jh, Ji, Jj, Jk, Jl, Jm, Jo, Jp, wq, wu, QV, Hg, z6, Rg, GQ, GR, Hd, HF, Oi, oh, mT, cX, jF, IY, HK, Sj, HJ, Ay, Sl, HW, Ik, Sh, Js, Im, TH])
local macro_rules | `(tactic| walk_at "s") => `(tactic| simp only [seval, Nat.reduceAdd, Nat.reduceSub, reduceCtorEq, ↓reduceIte, ite_tt, ite_ff, List.map_cons, List.map_nil, List.length_cons, List.length_nil, List.nil_append, List.cons_append, Option.some.injEq, V.int.injEq, V.bl.injEq, V.ref.injEq, List.cons.injEq, exists_eq_left, exists_eq_left', exists_and_left, true_and, and_true, decide_eq_true_eq, Nat.zero_add, Nat.sub_self, Nat.add_one_sub_one, decide_true, decide_false, Bool.not_eq_true', decide_eq_false_iff_not, false_and, exists_false, and_assoc, not_false_eq_true, not_true_eq_false, List.append_nil, Option.join_some])
local macro_rules | `(tactic| walk_at "p") => `(tactic| first | (walk_at "d"; repeat (first | walk_at "s" | walk_at "d")) | (walk_at "s"; repeat (first | walk_at "d" | walk_at "s")))
local macro_rules | `(tactic| walk_at "g") => `(tactic| try walk_at "p")
local macro_rules|`(tactic|rfl')=>`(tactic|walk_at "g")
local macro_rules | `(tactic| walk_at "c") => `(tactic| (refine ⟨⟨rfl, rfl, rfl, by decide +kernel, rfl, by decide +kernel, by decide +kernel⟩, fun _ _ _ _ _ _ _ _ => ?_⟩; (repeat (refine Va fun _ => ?_)); exact Vb rfl))
inductive fq(H:Hp)(v:V)(m:Mk):Prop
 | mk(t p:ab6)(_:v = .ref t)(_:H t=some (.tup [.int m.1,.ref p]))(_:H p=some (.tup [ev m.2.1,ev m.2.2]))
theorem fq.same(h:fq H v m)(s:ah H H'):fq H' v m:=let ⟨t,p,e,a,b⟩:=h;⟨t,p,e,s _ _ a,s _ _ b⟩
def top(i:Nat):ag3:=PySem.Challenge.pw_gaze_k66_whole_reasons.main.body.getD i (.Pass ⟨0,0,0,0⟩)
noncomputable abbrev aS:Str := "self"
noncomputable abbrev bY:Str := "_law_world_here"
noncomputable abbrev dA:Str := "board"
noncomputable abbrev dP:Str := "turn"
noncomputable abbrev fB:Str := "eye"
noncomputable abbrev fU:Str := "one"
noncomputable abbrev gn:Str := "_law_script"
noncomputable abbrev gp:Str := "_law_tree_here"
noncomputable abbrev gQ:Str := "claim"
noncomputable abbrev gR:Str := "first"
noncomputable abbrev ij:Str := "last"
noncomputable abbrev ik:Str := "_law_course"
noncomputable abbrev ip:Str := "_law_board_here"
noncomputable abbrev iO:Str := "marks"
noncomputable abbrev iP:Str := "_law_event_here"
noncomputable abbrev j6:Str := "steps"
noncomputable abbrev j7:Str := "_law_steps"
noncomputable abbrev lX:Str := "pairs"
noncomputable abbrev lY:Str := "_law_found"
noncomputable abbrev lZ:Str := "_law_goals"
noncomputable abbrev m9:Str := "most"
noncomputable abbrev nc:Str := "_law_spot"
noncomputable abbrev ng:Str := "_law_aside"
noncomputable abbrev nh:Str := "_law_paper"
noncomputable abbrev ni:Str := "_law_spots_here"
noncomputable abbrev oA:Str := "_law_claim"
noncomputable abbrev tY:Str := "_law_number"
noncomputable abbrev tZ:Str := "_law_unit"
noncomputable abbrev t4:Str := "_law_shape_here"
noncomputable abbrev t5:Str := "_law_turn"
noncomputable abbrev w5:Str := "_law_span"
noncomputable abbrev w6:Str := "_law_sort"
theorem sO(h:Sc N ps st:=by walk_at "c"):Sc N ps st:=h
theorem Jv:Sc ["lo","hi"] ["lo","hi"] (top 9):=sO
theorem xa:Sc [fU,"other","lo","hi"] [fU,"other"] (top 10):=sO
theorem t6:Sc ["some","whole",fU] ["some"] (top 11):=sO
theorem Jw:Sc [dA,"kind",dP] [dA,"kind",dP] (top 13):=sO
theorem Bb:Sc [dA,gQ,"part"] [dA,gQ] (top 14):=sO
theorem Jx:Sc [gQ,"kind",dP] [gQ,"kind",dP] (top 15):=sO
theorem Bc:Sc [dA,gQ,"own"] [dA,gQ] (top 16):=sO
theorem Jy:Sc [dA,gQ] [dA,gQ] (top 17):=sO
theorem xb:Sc [fU,"below","above"] [fU] (top 20):=sO
theorem xf:Sc [gQ,"found","part"] [gQ] (top 21):=sO
theorem Jz:Sc [gR,ij,fU] [gR,ij,fU] (top 22):=sO
theorem JA:Sc [aS,gR,ij] [aS,gR,ij] (inClass (top 24) 0):=sO
theorem JB:Sc [aS] [aS] (inClass (top 24) 1):=sO
theorem JC:Sc [aS,fU] [aS,fU] (inClass (top 24) 2):=sO
theorem JD:Sc [aS,gR,ij,"stretch"] [aS,gR,ij,"stretch"] (inClass (top 25) 0):=sO
theorem JE:Sc [aS] [aS] (inClass (top 25) 1):=sO
theorem JF:Sc [aS] [aS] (inClass (top 25) 2):=sO
theorem JG:Sc [aS,gR,ij,"sill"] [aS,gR,ij,"sill"] (inClass (top 26) 0):=sO
theorem JH:Sc [aS] [aS] (inClass (top 26) 1):=sO
theorem JI:Sc [aS] [aS] (inClass (top 26) 2):=sO
theorem JJ:Sc [aS,gR,ij,"sill"] [aS,gR,ij,"sill"] (inClass (top 27) 0):=sO
theorem JK:Sc [aS] [aS] (inClass (top 27) 1):=sO
theorem JL:Sc [aS] [aS] (inClass (top 27) 2):=sO
theorem JM:Sc [aS,gR,ij,"low","high"] [aS,gR,ij,"low","high"] (inClass (top 28) 0):=sO
theorem t7:Sc [aS,"found",dP,"lows"] [aS] (inClass (top 28) 1):=sO
theorem JN:Sc [aS] [aS] (inClass (top 28) 2):=sO
theorem JO:Sc [aS,gR,ij,"stretch"] [aS,gR,ij,"stretch"] (inClass (top 29) 0):=sO
theorem JP:Sc [aS] [aS] (inClass (top 29) 1):=sO
theorem JQ:Sc [aS] [aS] (inClass (top 29) 2):=sO
theorem JR:Sc [aS] [aS] (inClass (top 29) 3):=sO
theorem JS:Sc [aS,dP] [aS,dP] (inClass (top 30) 0):=sO
theorem JT:Sc [aS] [aS] (inClass (top 30) 1):=sO
theorem JU:Sc [aS] [aS] (inClass (top 30) 2):=sO
theorem JV:Sc [aS] [aS] (inClass (top 30) 3):=sO
theorem JW:Sc [aS] [aS] (inClass (top 30) 4):=sO
theorem JX:Sc ["cell"] ["cell"] (top 32):=sO
theorem xg:Sc [fU,"step","lo","hi"] [fU,"step"] (top 34):=sO
theorem oB:Sc ["boxes",j6,"kept",dP,"box","left"] ["boxes",j6] (top 35):=sO
theorem JY:Sc [iO,dP] [iO,dP] (top 36):=sO
theorem xh:Sc [j6,iO,"forth","backward"] [j6,iO] (top 37):=sO
theorem qO:Sc [j6,iO,"boxes","course","step","box"] [j6,iO] (top 38):=sO
theorem JZ:Sc [fU,"other"] [fU,"other"] (top 39):=sO
theorem J0:Sc [fU,"by"] [fU,"by"] (top 40):=sO
theorem oE:Sc [j6,iO,"tops","number","mark",dP] [j6,iO] (top 41):=sO
theorem t8:Sc ["tops",iO,"number","mark","top"] ["tops",iO] (top 42):=sO
theorem J1:Sc [dA,fB] [dA,fB] (top 44):=sO
theorem J5:Sc [dA,"some"] [dA,"some"] (top 45):=sO
theorem J6:Sc [dA] [dA] (top 46):=sO
theorem l4:Sc [j6,"groups","found","name",iO,"tops","beside","others","pair"] [j6,"groups"] (top 47):=sO
theorem J9:Sc [lX,fB] [lX,fB] (top 49):=sO
theorem Ka:Sc ["pair"] ["pair"] (top 50):=sO
theorem t9:Sc [lX,m9,fB,"others"] [lX,m9] (top 51):=sO
theorem Kb:Sc [lX,fB,m9] [lX,fB,m9] (top 52):=sO
theorem oF:Sc [lX,m9,fU,"other",gR,"second"] [lX,m9] (top 53):=sO
theorem oG:Sc [dA,gQ,j6,"goals",iO,lX,"aside"] [dA,gQ] (top 54):=sO
theorem ua:Sc [dA,"claims","papers",gQ,"answer"] [dA,"claims"] (top 56):=sO
theorem uc:Sc [dA,"event","fitting","without","having"] [dA,"event"] (top 57):=sO
theorem oH:Sc [dA,"event","spots","kept","spot","fewer"] [dA,"event"] (top 58):=sO
theorem Kc:Sc [aS,"eyes","turns","up","down",m9] [aS,"eyes","turns","up","down",m9] (inClass (top 62) 0):=sO
theorem Kd:Sc [aS,fB] [aS,fB] (inClass (top 62) 1):=sO
theorem Ke:Sc [aS,dP] [aS,dP] (inClass (top 62) 2):=sO
theorem Kf:Sc [aS,fB,dP,"lo","hi"] [aS,fB,dP,"lo","hi"] (inClass (top 62) 3):=sO
theorem Kg:Sc [aS,fB,dP] [aS,fB,dP] (inClass (top 62) 4):=sO
theorem Kh:Sc [aS] [aS] (inClass (top 62) 6):=sO
theorem xi:Sc [aS,"spots",dA,"spot"] [aS,"spots"] (inClass (top 62) 8):=sO
theorem Ki:Sc [aS,fB,dP] [aS,fB,dP] (inClass (top 62) 10):=sO
theorem Kj:Sc [aS,fB,dP] [aS,fB,dP] (inClass (top 62) 11):=sO
theorem Kk:Sc [gn,"_law_k","_law_prime","_law_many"] [gn,"_law_k","_law_prime","_law_many"] (top 64):=sO
theorem Be:Sc [gn,"_law_great"] [gn] (top 65):=sO
theorem Kl:Sc [lY] [lY] (top 66):=sO
theorem Km:Sc [w5,tY] [w5,tY] (top 67):=sO
theorem iq:Sc [gn,w6,"_law_eyes","_law_turns",tZ,"_law_ups","_law_downs"] [gn] (top 68):=sO
theorem ud:Sc [gn,t4,"_law_base_here",ik,t5,"_law_step"] [gn,t4,"_law_base_here"] (top 69):=sO
theorem oI:Sc [gn,"_law_k",tY,tZ,"_law_lo","_law_hi","_law_open_end"] [gn,"_law_k",tY,tZ] (top 70):=sO
theorem j8:Sc [gn,t4,ik,"_law_words","_law_wrong","_law_eye",t5,"_law_k",tY,"_law_silent"] [gn,t4,ik] (top 71):=sO
theorem xj:Sc [bY,ip,nc] [bY] (top 72):=sO
theorem ue:Sc [gp,ik,"_law_head","_law_gaps","_law_seen"] [gp,ik] (top 73):=sO
theorem Bf:Sc [gp,"_law_head"] [gp] (top 74):=sO
theorem Kn:Sc [bY,ik] [bY,ik] (top 75):=sO
theorem Bg:Sc [bY,ik,t5] [bY,ik] (top 76):=sO
theorem oJ:Sc ["_law_begin",oA,w6,t5,"_law_lo","_law_hi","_law_part"] ["_law_begin",oA,w6,t5] (top 77):=sO
theorem Ko:Sc [w5] [w5] (top 78):=sO
theorem Bh:Sc [j7,"_law_one","_law_other","_law_up"] [j7,"_law_one","_law_other"] (top 79):=sO
theorem Kp:Sc [bY,lZ,nc,ng] [bY,lZ,nc,ng] (top 80):=sO
theorem Kq:Sc [bY,j7,lZ,nh,"_law_eye",ng] [bY,j7,lZ,nh,"_law_eye",ng] (top 81):=sO
theorem xk:Sc [bY,j7,lZ,nh,ng,"_law_one","_law_other"] [bY,j7,lZ,nh,ng] (top 82):=sO
theorem qP:Sc [bY,j7,lZ,nh,ng,"_law_spans"] [bY,j7,lZ,nh,ng] (top 83):=sO
theorem uf:Sc [bY,oA,nh,"_law_own",j7,lZ] [bY,oA,nh] (top 84):=sO
theorem Kr:Sc [bY,"_law_claims","_law_papers"] [bY,"_law_claims","_law_papers"] (top 85):=sO
theorem Bi:Sc [bY,ip,lY] [bY,ip] (top 86):=sO
theorem Ks:Sc [bY,ip,gp,iP,lY] [bY,ip,gp,iP,lY] (top 87):=sO
theorem xm:Sc [bY,ip,gp,iP,oA,lY] [bY,ip,gp,iP] (top 88):=sO
theorem kY:Sc [gn,ik,tZ,"_law_turns",w6,"_law_first","_law_last","_law_off","_law_seen","_law_low","_law_step"] [gn,ik,tZ] (top 89):=sO
theorem ug:Sc [ip,iP,"_law_caught","e"] [ip,iP] (top 90):=sO
theorem xn:Sc [bY,ni,"_law_words",nc] [bY,ni] (top 91):=sO
theorem Bj:Sc [bY,ni,nc] [bY,ni] (top 92):=sO
theorem oK:Sc [bY,ip,gp,iP,ni,"_law_alone","_law_kept",lY,nc,"_law_fewer"] [bY,ip,gp,iP,ni] (top 93):=sO
theorem xq:Sc [bY,ip,gp,iP,lY,ni] [bY,ip,gp,iP] (top 94):=sO
theorem qQ:Sc [iP,bY,"_law_small","_law_caught","e"] [iP,bY] (top 95):=sO
theorem ir:Sc [gn,t4,ik,bY,nc,ip,gp,iP,lY,"_law_kept"] [gn] (top 96):=sO
set_option genInjectivity false
set_option genSizeOf false
structure Tx(K:abU)(mg:Str->Option ab1) where
 uh:ab6
 xr:ab6
 oM:ab6
 fD:ab6
 j9:ab6
 iQ:ab6
 Vk:ab6
 jq:ab6
 dB:ab6
 dC:ab6
 dD:ab6
 dQ:ab6
 dj:ab6
 fe:ab6
 aT:ab6
 Kt:mg "GazeError" = some (.ref uh)
 Bk:mg "NoBoard" = some (.ref xr)
 Bl:mg "NoTelling" = some (.ref oM)
 xt:mg "NoClaim" = some (.ref fD)
 Bm:mg "NoEvent" = some (.ref j9)
 Bn:mg "NoAlarm" = some (.ref iQ)
 abG:mg "Event" = some (.ref Vk)
 ui:mg "Spanned" = some (.ref jq)
 Vl:mg "Stayed" = some (.ref dB)
 Vm:mg "Over" = some (.ref dC)
 Vn:mg "Under" = some (.ref dD)
 Vo:mg "Rose" = some (.ref dQ)
 Vp:mg "Paced" = some (.ref dj)
 Vq:mg "Turned" = some (.ref fe)
 Bo:mg "Board" = some (.ref aT)
 Vr:Fq K mg "is_crossed" Jv
 Vs:Fq K mg "meet" xa
 Vt:Fq K mg "common" t6
 Vu:Fq K mg "has_part" Jw
 Vv:Fq K mg "check_claim" Bb
 Vw:Fq K mg "stretches_of" Jx
 Vx:Fq K mg "paces" Bc
 Vy:Fq K mg "wanted" Jy
 Vz:Fq K mg "outside" xb
 VA:Fq K mg "failures" xf
 VB:Fq K mg "parts_at" Jz
 VC:Fq K mg "number_in" JX
 VD:Fq K mg "moved" xg
 VE:Fq K mg "narrowed" oB
 VF:Fq K mg "stretches_at" JY
 VG:Fq K mg "tube" xh
 VH:Fq K mg "course_in" qO
 VI:Fq K mg "lesser" JZ
 VJ:Fq K mg "lifted" J0
 VL:Fq K mg "ceilings" oE
 VM:Fq K mg "crossing" t8
 VN:Fq K mg "marks_of" J1
 VO:Fq K mg "marks_without" J5
 VP:Fq K mg "groups_of" J6
 VQ:Fq K mg "clashes" l4
 oN:Fq K mg "without" J9
 xu:Fq K mg "eyes_of" Ka
 oO:Fq K mg "put_aside" t9
 nj:Fq K mg "branch" Kb
 nk:Fq K mg "paper" oF
 x_ask:Fq K mg "ask" oG
 VR:Fq K mg "seek" ua
 VS:Fq K mg "verdict" uc
 oP:Fq K mg "reason" oH
 VT:Fq K mg "_law_draw" Kk
 VU:Fq K mg "_law_base" Be
 xy:Fq K mg "_law_whole" Kl
 VV:Fq K mg "_law_within" Km
 VW:Fq K mg "_law_shape" iq
 VX:Fq K mg "_law_true_course" ud
 VY:Fq K mg "_law_word" oI
 VZ:Fq K mg "_law_world" j8
 V0:Fq K mg "_law_board" xj
 V1:Fq K mg "_law_truth" ue
 V2:Fq K mg "_law_event" Bf
 V3:Fq K mg "_law_liars" Kn
 V4:Fq K mg "_law_fits" Bg
 V5:Fq K mg "_law_common" oJ
 oQ:Fq K mg "_law_empty" Ko
 xA:Fq K mg "_law_climb" Bh
 oR:Fq K mg "_law_mark" Kp
 nq:Fq K mg "_law_branch" Kq
 uj:Fq K mg "_law_clash" xk
 l5:Fq K mg "_law_refuted" qP
 V6:Fq K mg "_law_refutes" uf
 V7:Fq K mg "_law_all_refuted" Kr
 V8:Fq K mg "_law_some_fits" Bi
 V9:Fq K mg "_law_right" Ks
 Wa:Fq K mg "_law_unsure" xm
 Wb:Fq K mg "_law_tree" kY
 Wc:Fq K mg "_law_refused" ug
 Wd:Fq K mg "_law_left" xn
 We:Fq K mg "_law_spots" Bj
 Wf:Fq K mg "_law_reasoned" oK
 Wg:Fq K mg "_law_asked_of" xq
 Wh:Fq K mg "_law_off_board" qQ
 qR:Fq K mg "law" ir
 Bp:Fy K dB "__init__" "Stayed.__init__" JD
 Bq:Fy K dB "ways" "Stayed.ways" JE
 Br:Fy K dB "breaks" "Stayed.breaks" JF
 Bs:Fy K dC "__init__" "Over.__init__" JG
 Bu:Fy K dC "ways" "Over.ways" JH
 Bv:Fy K dC "breaks" "Over.breaks" JI
 Bw:Fy K dD "__init__" "Under.__init__" JJ
 Bx:Fy K dD "ways" "Under.ways" JK
 By:Fy K dD "breaks" "Under.breaks" JL
 Bz:Fy K dQ "__init__" "Rose.__init__" JM
 BA:Fy K dQ "ways" "Rose.ways" t7
 BB:Fy K dQ "breaks" "Rose.breaks" JN
 BC:Fy K dj "__init__" "Paced.__init__" JO
 xB:Fy K dj "all_steps" "Paced.all_steps" JP
 BD:Fy K dj "ways" "Paced.ways" JQ
 BE:Fy K dj "breaks" "Paced.breaks" JR
 BF:Fy K fe "__init__" "Turned.__init__" JS
 BG:Fy K fe "far" "Turned.far" JT
 xC:Fy K fe "both_steps" "Turned.both_steps" JU
 BH:Fy K fe "ways" "Turned.ways" JV
 BI:Fy K fe "breaks" "Turned.breaks" JW
 uk:Fy K aT "__init__" "Board.__init__" Kc
 BJ:Fy K aT "has_eye" "Board.has_eye" Kd
 oT:Fy K aT "has_turn" "Board.has_turn" Ke
 BK:Fy K aT "tell" "Board.tell" Kf
 BL:Fy K aT "hush" "Board.hush" Kg
 um:Fy K aT "tellings" "Board.tellings" Kh
 uo:Fy K aT "keeping" "Board.keeping" xi
 BM:Fy K aT "check_spot" "Board.check_spot" Ki
 xD:Fy K aT "check_word" "Board.check_word" Kj
 nr:Fv K "__init__" "Spanned.__init__" JA (λf=>fm K jq "__init__" f/\afk K (.ref jq) (.type "type") "__init__" = some (.val (.ref f)))
 jr:Fv K "far" "Spanned.far" JB (λf=>fm K jq "far" f/\fm K dB "far" f/\fm K dC "far" f/\fm K dD "far" f/\fm K dQ "far" f/\fm K dj "far" f)
 iR:Fv K "all_at" "Spanned.all_at" JC (λf=>fm K jq "all_at" f/\fm K dB "all_at" f/\fm K dC "all_at" f/\fm K dD "all_at" f/\fm K dQ "all_at" f/\fm K dj "all_at" f)
 uq:mg "all" = none
 Ku:mg "any" = none
 Wi:mg "bool" = none
 xE:mg "enumerate" = none
 Wj:mg "int" = none
 iS:mg "isinstance" = none
 cH:mg "len" = none
 nu:mg "list" = none
 uu:mg "max" = none
 nv:mg "min" = none
 eh:mg "range" = none
 Wk:mg "reversed" = none
 Kv:mg "set" = none
 Kw:mg "sorted" = none
 Kx:mg "sum" = none
 xF:mg "tuple" = none
 Ky:mg "zip" = none
 abH:cN K jq
 jt:cN K dB
 ju:cN K dC
 jv:cN K dD
 fE:cN K dQ
 ke:cN K dj
 l6:cN K fe
 bF:cN K aT
 abI:bQ K jq "first"
 abJ:bQ K jq "last"
 BN:bQ K dB "first"
 xG:bQ K dB "last"
 BO:bQ K dB "stretch"
 BP:bQ K dC "first"
 xH:bQ K dC "last"
 BQ:bQ K dC "sill"
 BR:bQ K dD "first"
 xI:bQ K dD "last"
 BS:bQ K dD "sill"
 xJ:bQ K dQ "first"
 qS:bQ K dQ "last"
 BU:bQ K dQ "low"
 BV:bQ K dQ "high"
 Kz:bQ K dj "first"
 BW:bQ K dj "last"
 KA:bQ K dj "stretch"
 xK:bQ K fe "turn"
 xM:bQ K aT "eyes"
 uv:bQ K aT "turns"
 BX:bQ K aT "up"
 BY:bQ K aT "down"
 xN:bQ K aT "most"
 ny:bQ K aT "told"
 abK:Mk K jq nr.a
 Wl:Mk K dB Bp.a
 Wm:Mk K dC Bs.a
 Wn:Mk K dD Bw.a
 Wo:Mk K dQ Bz.a
 Wq:Mk K dj BC.a
 Wr:Mk K fe BF.a
 BZ:Mk K aT uk.a
 abL:Meth K jq "far" jr.a
 abM:Meth K jq "all_at" iR.a
 Ws:Meth K dB "far" jr.a
 KC:Meth K dB "all_at" iR.a
 Wt:Meth K dB "ways" Bq.a
 Wu:Meth K dB "breaks" Br.a
 Wv:Meth K dC "far" jr.a
 KD:Meth K dC "all_at" iR.a
 Ww:Meth K dC "ways" Bu.a
 Wx:Meth K dC "breaks" Bv.a
 Wy:Meth K dD "far" jr.a
 KG:Meth K dD "all_at" iR.a
 Wz:Meth K dD "ways" Bx.a
 WA:Meth K dD "breaks" By.a
 WB:Meth K dQ "far" jr.a
 abN:Meth K dQ "all_at" iR.a
 WC:Meth K dQ "ways" BA.a
 WD:Meth K dQ "breaks" BB.a
 WE:Meth K dj "far" jr.a
 abO:Meth K dj "all_at" iR.a
 WG:Meth K dj "ways" BD.a
 WH:Meth K dj "breaks" BE.a
 KH:Meth K dj "all_steps" xB.a
 WI:Meth K fe "far" BG.a
 WJ:Meth K fe "ways" BH.a
 WK:Meth K fe "breaks" BI.a
 KI:Meth K fe "both_steps" xC.a
 WL:Meth K aT "has_eye" BJ.a
 uw:Meth K aT "has_turn" oT.a
 WM:Meth K aT "tell" BK.a
 WN:Meth K aT "hush" BL.a
 B0:Meth K aT "tellings" um.a
 B1:Meth K aT "keeping" uo.a
 WO:Meth K aT "check_spot" BM.a
 KJ:Meth K aT "check_word" xD.a
 ux:zW K jq "__init__" nr.a
 B2:XC K xr
 B3:XC K oM
 xO:XC K fD
 B4:XC K j9
 B5:XC K iQ
 WQ:afE K (.ref iQ) (.ref iQ)=some true
 WR:afE K (.ref fD) (.ref fD)=some true
 WS:acW K (.ref iQ) (.ref uh)=some true
 WT:acW K (.ref iQ) (.ref fD)=some false
 WU:acW K (.ref fD) (.ref uh)=some true
 WV:acW K (.ref fD) (.ref iQ)=some false
 KL:∃ t,mg "LAST_TURN" = some (.int 11 t)
 WW:∃ t,mg "EYES_AT_MOST" = some (.int 7 t)
 WX:∃ t,mg "TURNS_AT_MOST" = some (.int 12 t)
set_option genInjectivity true
set_option genSizeOf true
inductive oU(K:abU)(vs:List V)(H:Hp)(Q:VK)(aN:XK):Prop
 | mk(a:ab6)(ns:List Int)(_:vs=[.ref a])(_:ai K H a (ns.map V.int))(_:jT ns)(_:∀ H',Q (.bl true) H')
def KN(c:acK × ado × abU × (Str->Option ab1) × aek):Prop:=∃ T:Tx c.2.2.1 c.2.2.2.1,¬ Ok c.1 c.2.1 c.2.2.2.2 39 T.qR (oU c.2.2.1)
noncomputable def uy:acK × ado × abU × (Str->Option ab1) × aek:=@Classical.epsilon _ ⟨(default,⟨λy y=>0,{strHash:=λy=>0,shareClass:=λy=>0,mergeTok:=id,idOf:=λy=>0,idOfShared:=λy y=>0,followText:=λy=>false,idOfImm:=λy=>0}⟩,[],λy=>none,default)⟩ KN
@[irreducible] noncomputable def P:acK:=uy.1
@[irreducible] noncomputable def w:ado:=uy.2.1
@[irreducible] noncomputable def K:abU:=uy.2.2.1
@[irreducible] noncomputable def mg:Str->Option ab1:=uy.2.2.2.1
@[irreducible] noncomputable def base:aek:=uy.2.2.2.2
theorem WY(h:∀ T:Tx K mg,Ok P w base 39 T.qR (oU K)){P:acK}{w:ado}{K:abU}{mg:Str->Option ab1}{base:aek}(T:Tx K mg):Ok P w base 39 T.qR (oU K):=Classical.byContradiction λz=>by obtain⟨T,n⟩:=Classical.epsilon_spec (p:=KN) ⟨(P,w,K,mg,base),T,z⟩;unfold kX.P kX.w kX.K kX.mg kX.base at h;exact n (h T)
abbrev aB:=Tx K mg
abbrev aP(k:Nat){x:Str}{st:ag3}{ps:List Str}(F:Fn K mg x st ps)(sp:Sp):Prop:=Ok P w base k F sp
abbrev cj(k:Nat){x q:Str}{st:ag3}{ps:List Str}(F:Fm K x q st ps)(sp:Sp):Prop:=Om P w mg base k F sp
section
seal L2.PE L2.PS L2.aR L2.PA
inductive WZ(vs:List V)(H:Hp)(Q:VK)(aN:XK):Prop
 | mk(v:V)(_:vs=[v])(_:(v = .non ∨ ∃ i,v = .int i))(_:Q (.bl (isWhole v)) H)
theorem qT(T:aB):aP 1 T.xy WZ:=by
 refine bA Kl ?_;rintro y y y y y y y y y ⟨v,rfl,hv,q⟩;refine⟨_,(au (aA (fk (bT lB (by rfl) T.iS iH (ae (aa 0) (ae (lj (v:=.ty "int") rfl T.Wj OH rfl) ag))) (ff (tX (bT lB (by rfl) T.iS iH (ae (aa 0) (ae (lj (v:=.ty "bool") rfl T.Wi OI rfl) ag)))))))),?_⟩;rcases hv with rfl|⟨i,rfl⟩
 .rfl';exact q
 .rfl';exact q
inductive W0(vs:List V)(H:Hp)(Q:VK)(aN:XK):Prop
 | mk(a b:En)(_:vs=[ev a,ev b])(_:Q (.bl (ba a b)) H)
theorem KO(T:aB):aP 1 T.Vr W0:=by
 refine bA Jv ?_;rintro z z z z z z z z z ⟨a,b,rfl,q⟩;refine⟨_,(au (aA (fk (mv (rJ (aa 0))) (fk (mv (rJ (aa 1))) (ff (eG (gM rT) (aa 0) (aa 1) (cI _))))))),?_⟩;rcases a with z|x
 .exact q
 rcases b with z|y
 .exact q
 exact q
inductive W3(vs:List V)(H:Hp)(Q:VK)(aN:XK):Prop
 | mk(v u:V)(a b c d:En)(_:vs=[v,u])(_:aO H v a b)(_:aO H u c d)(_:∀ x H',ah H H'->GF H' x (dN a c) (eN b d)->Q x H')
theorem B6(T:aB):aP 2 T.Vs W3:=by
 refine bA xa ?_;rintro y y y y H y Q y hr ⟨v,u,a,b,c,d,rfl,⟨p,rfl,hp⟩,⟨r,rfl,cc⟩,q⟩;refine⟨_,(ar (aJ 2 xa.nd (Qe rfl rfl T.uu (dg (cO [] []) rfl (yE (aM (ae (ao (aa 0) af) (ae (ao (aa 1) af) ag)))) (λC s2 H2 ex pn=>⟨(jM (ie (aa 0))),(aa 0)⟩)) bG)) (ar (aJ 3 xa.nd (Qg rfl rfl T.nv (dg (cO [] []) rfl (yE (aM (ae (ao (aa 0) af) (ae (ao (aa 1) af) ag)))) (λC s2 H2 ex pn=>⟨(jM (ie (aa 0))),(aa 0)⟩)) bG)) (ar (aH (b9 (aK (KO T) hr (ae (aa 2) (ae (aa 3) ag)))) (au (aA bG)) aG) (au (aA (aM (ae (aa 2) (ae (aa 3) ag)))))))),?_⟩;rfl';refine aI hp (aI cc ?_);refine⟨aX,λt ht=>⟨⟨_,aj.of aq⟩,GG aq (λx H Q h=>?_) (λx H Q h=>?_) λl hl=>?_⟩⟩
 .rfl';exact I0 (Q:=λk=>Q k H) h
 .rfl';exact h
 refine⟨l,rfl,nums a c,ai.of aq,?_⟩;rw[QS];have s2:=(ak (o:=.tup [ev a,ev c]) ht).trans (ak (o:=.lst ((nums a c).map V.int)) hl);generalize upd (upd H t (.tup [ev a,ev c])) l (.lst ((nums a c).map V.int))=H2 at s2 ⊢;refine aI (s2 _ _ hp) (aI (s2 _ _ cc) ?_);refine⟨aX,λt' W4=>⟨⟨_,aj.of aq⟩,GG aq (λx H Q h=>?_) (λx H Q h=>?_) λl' rE=>?_⟩⟩
 .rfl';exact I0 (Q:=λk=>Q k H) h
 .rfl';exact h
 refine⟨l',rfl,nums b d,ai.of aq,?_⟩;rw[QT];have s3:=s2.trans ((ak (o:=.tup [ev b,ev d]) W4).trans (ak (o:=.lst ((nums b d).map V.int)) rE));generalize upd (upd H2 t' (.tup [ev b,ev d])) l' (.lst ((nums b d).map V.int))=H3 at s3 ⊢;refine⟨_,_,rfl,?_⟩;cases hc:ba (dN a c) (eN b d) with
 | true =>
  exact q _ _ s3 ⟨λy=>rfl,λz=>nomatch hc.symm.trans z⟩
 | false =>
  exact⟨aX,λp' dX=>q _ _ (s3.trans (ak dX)) ⟨λz=>(nomatch hc.symm.trans z),λy=>aO.new⟩⟩
def c7(e t u d m:Int):Prop:=(1<=e/\e<=7)/\(1<=t/\t<=12)/\0<=u/\0<=d/\0<=m/\m<=e
noncomputable def xP(e t u d m:Int)(p:ab6):List (Str × V):=[("eyes",.int e),("turns",.int t),("up",.int u),("down",.int d),("most",.int m),("told",.ref p)]
inductive W5(B C:ab6)(vs:List V)(H:Hp)(Q:VK)(E:XK):Prop
 | mk(x dx:ab6)(e t u d m:Int)(_:vs=[.ref x,.int e,.int t,.int u,.int d,.int m])(_:H x=some (.ins B dx []))(_:(¬ c7 e t u d m->E (.ref C) none H))(_:(c7 e t u d m->∀ p H',H p=none->SameBut x H H'->H' x=some (.ins B dx (xP e t u d m p))->H' p=some (.dT [])->Q .non H'))
theorem B7(T:aB):cj 1 T.uk (W5 T.aT T.xr):=by
 refine iN Kc ?_;rintro y y y y H y y E y ⟨x,dx,e,t,u,d,m,rfl,hx,q0,q⟩;refine⟨_,(ar (aH (PW.pt (cD (bZ (wY fK fK af (aa 1) (wD T.WW rfl))) (eS (bZ (wY fK fK af (aa 2) (wD T.WX rfl)))))) (au (i5 i6 rfl T.Bk T.B2 rfl (ae aQ ag))) aG) (ar (aH (PW.pt (cD (j4 (aa 3) af) (eS (j4 (aa 4) af)))) (au (i5 i6 rfl T.Bk T.B2 rfl (ae aQ ag))) aG) (ar (aH (bZ (wY fK fK af (aa 5) (aa 1))) (au (i5 i6 rfl T.Bk T.B2 rfl (ae aQ ag))) aG) (ar (gN (aa 0) (aa 1) rfl) (ar (gN (aa 0) (aa 2) rfl) (ar (gN (aa 0) (aa 3) rfl) (ar (gN (aa 0) (aa 4) rfl) (ar (gN (aa 0) (aa 5) rfl) (au (gN (aa 0) Af rfl)))))))))),?_⟩;rfl';have no:∀ D σ,¬ c7 e t u d m->∀ x,vQ T.xr E (rW (tC (.str x)) pJ) D σ H:=λD σ z x=>⟨by show 1<=aco;decide,q0 z⟩
 refine aU (λh1=>aU (λh2=>?_) λh2=>no _ _ (λz=>by unfold c7 at z;lia) _) λh1=>no _ _ (λz=>by unfold c7 at z;lia) _;refine aU (λh3=>aU (λh4=>?_) λh4=>no _ _ (λz=>by unfold c7 at z;lia) _) λh3=>no _ _ (λz=>by unfold c7 at z;lia) _;refine aU (λh5=>no _ _ (λz=>by unfold c7 at z;lia) _) λh5=>aU (λh6=>no _ _ (λz=>by unfold c7 at z;lia) _) λh6=>?_;refine aU (λh7=>aU (λh8=>?_) λh8=>no _ _ (λz=>by unfold c7 at z;lia) _) λh7=>no _ _ (λz=>by unfold c7 at z;lia) _;replace q:=q (by unfold c7;lia);refine⟨_,_,_,hx,T.bF,T.xM,(by show 0<1000;decide),_,_,_,aq,T.bF,T.uv,(by show 1<1000;decide),_,_,_,aq,T.bF,T.BX,(by show 2<1000;decide),_,_,_,aq,T.bF,T.BY,(by show 3<1000;decide),_,_,_,aq,T.bF,T.xN,(by show 4<1000;decide),?_⟩;rw[jA,jA,jA,jA];intro p hp;have KP:p≠x:=λz=>by rw[z,aq] at hp;cases hp
 refine⟨_,_,_,(ak hp) _ _ aq,T.bF,T.ny,(by show 5<1000;decide),q p _ (by rw[aF KP] at hp;exact hp) (λb o hb e=>?_) aq ?_⟩
 .rw[aF hb];exact (ak hp) _ _ (by rw[aF hb];exact e)
 .rw[aF KP,aq]
structure iu(B:ab6)(H:Hp)(x:ab6)(e t u d m:Int)(p:ab6)(kvs:List (List Key × V)):Prop where
 ob:∃ dx,H x=some (.ins B dx (xP e t u d m p))
 tb:H p=some (.dT kvs)
theorem iu.same(h:iu B H x e t u d m p kvs)(s:ah H H'):iu B H' x e t u d m p kvs:=let ⟨⟨dx,a⟩,b⟩:=h;⟨⟨dx,s _ _ a⟩,s _ _ b⟩
inductive W6(B:ab6)(vs:List V)(H:Hp)(Q:VK)(aN:XK):Prop
 | mk(x p:ab6)(e t u d m i:Int)(kvs:List (List Key × V))(_:vs=[.ref x,.int i])(_:iu B H x e t u d m p kvs)(_:Q (.bl (decide (0<=i/\i<e))) H)
inductive W7(B:ab6)(vs:List V)(H:Hp)(Q:VK)(aN:XK):Prop
 | mk(x p:ab6)(e t u d m i:Int)(kvs:List (List Key × V))(_:vs=[.ref x,.int i])(_:iu B H x e t u d m p kvs)(_:Q (.bl (decide (0<=i/\i<t))) H)
theorem W8(T:aB):cj 1 T.BJ (W6 T.aT):=by
 refine fb Kd ?_;rintro y y y y y y y y y ⟨x,p,e,t,u,d,m,i,kvs,rfl,⟨⟨dx,hx⟩,hp⟩,q⟩;refine⟨_,(au (aA (Ef fK nJ af (aa 1) (bz rfl (aa 0) rfl)))),?_⟩;rfl';refine aU (λh1=>?_) λh1=>?_
 .refine⟨_,_,_,hx,T.bF,T.xM,_,rfl,?_⟩;rfl';rw[show decide (0<=i/\i<e)=decide (i<e) by simp[h1]] at q;exact q
 .rw[show decide (0<=i/\i<e)=false by simp[h1]] at q;exact q
theorem uz(T:aB):cj 1 T.oT (W7 T.aT):=by
 refine fb Ke ?_;rintro y y y y y y y y y ⟨x,p,e,t,u,d,m,i,kvs,rfl,⟨⟨dx,hx⟩,hp⟩,q⟩;refine⟨_,(au (aA (Ef fK nJ af (aa 1) (bz rfl (aa 0) rfl)))),?_⟩;rfl';refine aU (λh1=>?_) λh1=>?_
 .refine⟨_,_,_,hx,T.bF,T.uv,_,rfl,?_⟩;rfl';rw[show decide (0<=i/\i<t)=decide (i<t) by simp[h1]] at q;exact q
 .rw[show decide (0<=i/\i<t)=false by simp[h1]] at q;exact q
inductive W9(B C:ab6)(vs:List V)(H:Hp)(Q:VK)(E:XK):Prop
 | mk(x p:ab6)(e t u d m i j:Int)(kvs:List (List Key × V))(_:vs=[.ref x,.int i,.int j])(_:iu B H x e t u d m p kvs)(_:(¬ ((0<=i/\i<e)/\0<=j/\j<t)->E (.ref C) none H))(_:((0<=i/\i<e)/\0<=j/\j<t->Q .non H))
theorem Xa(T:aB):cj 2 T.BM (W9 T.aT T.oM):=by
 refine iN Ki ?_;rintro y y y y y y y y hr ⟨x,p,e,t,u,d,m,i,j,kvs,rfl,hb,q0,q⟩;refine⟨_,(au (aH (PW.pt (cD (bZ (b9 (eV (aa 0) T.bF T.WL (W8 T) hr.m T.BJ.b .nil bB (ae (aa 1) ag)))) (eS (bZ (b9 (eV (aa 0) T.bF T.uw (uz T) hr.m T.oT.b .nil bB (ae (aa 2) ag))))))) (au (i5 i6 rfl T.Bl T.B3 rfl (ae aQ ag))) aG)),?_⟩;obtain⟨⟨dx,hx⟩,hp⟩:=id hb;rfl';refine⟨_,_,hx,rfl,x,p,e,t,u,d,m,i,kvs,rfl,hb,?_⟩;by_cases h1:0<=i/\i<e
 .rw[decide_eq_true h1];refine⟨_,_,hx,rfl,x,p,e,t,u,d,m,j,kvs,rfl,hb,?_⟩;by_cases h2:0<=j/\j<t
  .rw[decide_eq_true h2];exact q ⟨h1,h2⟩
  .rw[decide_eq_false h2];exact⟨by decide,q0 λz=>h2 z.2⟩
 .rw[decide_eq_false h1];exact⟨by decide,q0 λz=>h1 z.1⟩
inductive Xb(B C:ab6)(vs:List V)(H:Hp)(Q:VK)(E:XK):Prop
 | mk(x p:ab6)(e t u d m i j:Int)(kvs:List (List Key × V))(_:vs=[.ref x,.int i,.int j])(_:iu B H x e t u d m p kvs)(_:(di kvs (spot i j)=none->∀ H',ah H H'->E (.ref C) none H'))(_:(∀ v,di kvs (spot i j)=some v->∀ H',ah H H'->Q .non H'))
theorem KQ(T:aB):cj 1 T.xD (Xb T.aT T.oM):=by
 refine iN Kj ?_;rintro y y y y y y y y hr ⟨x,p,e,t,u,d,m,i,j,kvs,rfl,hb,q0,q⟩;refine⟨_,(au (aH (rK (z7 (dW hr) (aM (ae (aa 1) (ae (aa 2) ag))) (bz rfl (aa 0) rfl))) (au (i5 i6 rfl T.Bl T.B3 rfl (ae aQ ag))) aG)),?_⟩;obtain⟨⟨dx,hx⟩,hp⟩:=id hb;rfl';refine⟨aX,λk hk=>⟨_,_,_,(ak hk) _ _ hx,T.bF,T.ny,_,rfl,p,rfl,di kvs (spot i j),eZ.t (k:=spot i j) ((ak hk) _ _ hp) aq,?_⟩⟩;cases hv:di kvs (spot i j) with
 | none=>exact⟨by decide,q0 hv _ (ak hk)⟩
 | some v=>exact q v hv _ (ak hk)
inductive Xc(B C:ab6)(vs:List V)(H:Hp)(Q:VK)(E:XK):Prop
 | mk(x p:ab6)(e t u d m i j:Int)(lo hi:En)(kvs:List (List Key × V))(_:vs=[.ref x,.int i,.int j,ev lo,ev hi])(_:iu B H x e t u d m p kvs)(_:kvs.length<1000)(_:(¬ (((0<=i/\i<e)/\0<=j/\j<t)/\ba lo hi=false)->E (.ref C) none H))(_:(((0<=i/\i<e)/\0<=j/\j<t)/\ba lo hi=false->∀ v H',SameBut p H H'->H' p=some (.dT (putK kvs (spot i j) v))->aO H' v lo hi->Q .non H'))
theorem Xd(T:aB):cj 3 T.BK (Xc T.aT T.oM):=by
 refine iN Kf ?_;rintro c c c c c c c c hr ⟨x,p,e,t,u,d,m,i,j,lo,hi,kvs,rfl,hb,hl,q0,q⟩;refine⟨_,(ar (dm (eV (aa 0) T.bF T.WO (Xa T) hr.m T.BM.b .nil gF (ae (aa 1) (ae (aa 2) ag)))) (ar (aH (b9 (aK (KO T) hr (ae (aa 3) (ae (aa 4) ag)))) (au (i5 i6 rfl T.Bl T.B3 rfl (ae aQ ag))) aG) (au (wB (dW hr) (bz rfl (aa 0) rfl) (aM (ae (aa 1) (ae (aa 2) ag))) (aM (ae (aa 3) (ae (aa 4) ag))) rfl)))),?_⟩;obtain⟨⟨dx,hx⟩,hp⟩:=id hb;rfl';refine⟨_,_,hx,rfl,x,p,e,t,u,d,m,i,j,kvs,rfl,hb,λz=>q0 λy=>z y.1,λcg=>?_⟩;refine⟨lo,hi,rfl,?_⟩;cases hc:ba lo hi with
 | true =>
  exact⟨by decide,q0 λz=>by rw[hc] at z;cases z.2⟩
 | false =>
  refine⟨aX,λv hv=>⟨_,_,_,(ak hv) _ _ hx,T.bF,T.ny,_,rfl,aX,λk hk=>?_⟩⟩;have s2:=(ak (o:=.tup [ev lo,ev hi]) hv).trans (ak (o:=.tup [.int i,.int j]) hk);refine⟨p,rfl,_,mR.t (k:=spot i j) (s2 _ _ hp) aq (akg hl (by decide)),q ⟨cg,hc⟩ (.ref v) _ (λb o gV e=>?_) aq ⟨v,rfl,?_⟩⟩
  .rw[aF gV];exact s2 _ _ e
  .have vp:v≠p:=λz=>by rw[z] at hv;rw[hp] at hv;cases hv
   rw[aF vp];exact (ak hk) _ _ aq
inductive Xe(vs:List V)(H:Hp)(Q:VK)(aN:XK):Prop
 | mk(a:ab6)(ns:List Int)(k pr m:Int)(_:vs=[.ref a,.int k,.int pr,.int m])(_:ai K H a (ns.map V.int))(_:jT ns)(_:(-1000000<=k/\k<=1000000))(_:0<pr)(_:0<m)(_:∀ p:Int,0<=p->p<m->Q (.int p) H)
theorem Xf(h:jT ns)(hk : -1000000<=k/\k<=1000000):qg k k/\qg (sU ns k+k * k) 48271:=by have c:=Q3 h k;have k1:Bt 64 k:=Bt.small (by lia) (by lia);have k2:Bt 128 (k * k):=k1.mul k1;have n2:Bt 64 48271:=Bt.small (by decide) (by decide);exact⟨⟨k1.up (by decide),k1.up (by decide)⟩,(c.add (k2.up (by decide))).up (by decide),n2.up (by decide)⟩
theorem dR(T:aB):aP 1 T.VT Xe:=by
 refine bA Kk ?_;rintro y y y y y y y y y ⟨a,ns,k,pr,m,rfl,hS,hn,hk,hpr,hm,q⟩;refine⟨_,(ar (aH (bq (cW T.cH (ae (aa 0) ag)) af) (au (aA af)) aG) (au (aA (aD oy (aD oy (aD Jb (aD bb (ao (aa 0) (aD oy (aa 1) (cW T.cH (ae (aa 0) ag)))) (aD Jb (aa 1) (aa 1))) af) (aa 2)) (aa 3))))),?_⟩;rfl';refine⟨_,eW hS,?_⟩;rw[abT];have pm:=Xf hn hk;refine aU (λh=>?_) λh=>?_
 .exact q 0 (by decide) hm
 .have h:0<(ns.length:Int):=by have:ns.length≠0:=λz=>h (by rw[z];rfl);lia
  refine⟨_,eW hS,?_⟩;rw[abT];refine⟨h,bJ hS (Q4 h) ?_⟩;exact⟨pm.1,pm.2,hpr,hm,q _ (ahI _ (by lia)) (agt _ hm)⟩
inductive Xg(vs:List V)(H:Hp)(Q:VK)(aN:XK):Prop
 | mk(a:ab6)(ns:List Int)(_:vs=[.ref a])(_:ai K H a (ns.map V.int))(_:jT ns)(_:∀ (p:Int) (H':Hp),ah H H'->Q (.int p) H')
theorem Xi(T:aB):aP 2 T.VU Xg:=by
 refine bA Be ?_;rintro y y y y y y y y hr ⟨a,ns,rfl,hS,hn,q⟩;refine⟨_,(ar (aH (bq (cW T.cH (ae (aa 0) ag)) af) (au (aA af)) aG) (ar (aJ 1 Be.nd (aD oy (ao (aa 0) af) (aD yL af af))) (au (aA (ao (aM (ae af (ae (aa 1) (ae (aD bW af (aa 1)) (ae (aD bW (aD yL af af) (aa 1)) ag))))) (aK (dR T) hr (ae (aa 0) (ae af (ae af (ae af ag)))))))))),?_⟩;rfl';refine⟨_,eW hS,?_⟩;rw[abT];refine aU (λh=>q _ _ (ah.refl _)) λh=>?_;have h:0<(ns.length:Int):=by have:ns.length≠0:=λz=>h (by rw[z];rfl);lia
 have h0:de (ns.map V.int) 0=some (.int (ns.getD 0 0)):=dq (j:=0) (by rw[aca,abV,abW (by lia)];rfl);refine bJ hS h0 ?_;refine⟨⟨by decide,by decide,by decide⟩,⟨by decide,by decide,by decide⟩,by decide,λt ht=>?_⟩;refine⟨a,ns,_,_,_,rfl,(ak ht).seq hS,hn,by lia,by lia,by lia,λp p1 p2=>?_⟩;rcases (by lia:p=0∨p=1∨p=2∨p=3) with rfl|rfl|rfl|rfl
 all_goals exact ay (aj.of aq) rfl (q _ _ (ak ht))
inductive Xj(vs:List V)(H:Hp)(Q:VK)(aN:XK):Prop
 | mk(p:ab6)(lo hi:En)(n:Int)(_:vs=[.ref p,.int n])(_:aj K H p [ev lo,ev hi])(_:Q (.bl (hold lo hi n)) H)
theorem xQ(T:aB):aP 1 T.VV Xj:=by
 refine bA Km ?_;rintro y y y y H y Q y y ⟨p,lo,hi,n,rfl,hp,q⟩;refine⟨_,(au (aA (fk (Jn (mv (rH (ao (aa 0) af))) (ff (eG (gM fK) (ao (aa 0) af) (aa 1) (cI _)))) (ff (Jn (mv (rH (ao (aa 0) af))) (ff (eG (gM fK) (aa 1) (ao (aa 0) af) (cI _)))))))),?_⟩;rcases lo with y|lo<;>rcases hi with y|hi
 all_goals simp only[wq,wu] at hp
 all_goals
  repeat' first
  | refine ay hp rfl ?_
  | (walk_at "p")
  | (refine aU (λhc=>?_) λhc=>?_)
 all_goals first
  | exact q
  | exact (congrArg (λb=>Q (V.bl b) H) (show hold _ _ n=_ by rw[adg,gK];simp<;>lia)).mp q
inductive Xk(vs:List V)(H:Hp)(Q:VK)(aN:XK):Prop
 | mk(p:ab6)(lo hi:En)(_:vs=[.ref p])(_:aj K H p [ev lo,ev hi])(_:Q (.bl (ba lo hi)) H)
theorem B8(T:aB):aP 1 T.oQ Xk:=by
 refine bA Ko ?_;rintro y y y y y y y y y ⟨p,lo,hi,rfl,hp,q⟩;refine⟨_,(au (aA (fk (mv (rJ (ao (aa 0) af))) (fk (mv (rJ (ao (aa 0) af))) (ff (eG (gM rT) (ao (aa 0) af) (ao (aa 0) af) (cI _))))))),?_⟩;rcases lo with y|lo<;>rcases hi with y|hi
 all_goals simp only[wq,wu] at hp
 all_goals
  repeat' first
  | exact q
  | refine ay hp rfl ?_
  | (walk_at "p")
structure qU(e t u d m f:Int):Prop where
 he:1<=e/\e<=7
 ht:1<=t/\t<=12
 het:(e<=3/\t<=4)∨(e<=7/\t<=2)∨(e<=2/\t<=12)
 hu:0<=u/\u<=13
 hd:0<=d/\d<=13
 hm:0<=m/\m<=e
 hf:1<=f/\f<=1000000000000000000000000000000
noncomputable def uA(e t u d m f:Int):List V:=[.int e,.int t,.int u,.int d,.int m,.int f]
inductive Xl(vs:List V)(H:Hp)(Q:VK)(aN:XK):Prop
 | mk(a:ab6)(ns:List Int)(_:vs=[.ref a])(_:ai K H a (ns.map V.int))(_:jT ns)(_:∀ (r:ab6) (e t u d m f:Int) (H':Hp),ah H H'->H' r=some (.tup (uA e t u d m f))->qU e t u d m f->Q (.ref r) H')
def KR(e t:Int):Prop:=(1<=e/\1<=t)/\((e<=3/\t<=4)∨(e<=7/\t<=2)∨(e<=2/\t<=12))
theorem Xm(T:aB):aP 2 T.VW Xl:=by
 refine bA iq ?_;rintro y y y y H y y y hr ⟨a,ns,rfl,hS,hn,q⟩;refine⟨_,(ar (aJ 1 iq.nd (aK (dR T) hr (ae (aa 0) (ae af (ae af (ae af ag)))))) (ar (aJ 2 iq.nd (aD bb af (aK (dR T) hr (ae (aa 0) (ae af (ae af (ae af ag))))))) (ar (aJ 3 iq.nd (aD bb af (aK (dR T) hr (ae (aa 0) (ae af (ae af (ae af ag))))))) (ar (aH (bq (aa 1) af) (ar (aJ 2 iq.nd af) (au (aJ 3 iq.nd af))) aG) (ar (aH (bq (aa 1) af) (ar (aJ 2 iq.nd af) (au (aJ 3 iq.nd af))) aG) (ar (aJ 4 iq.nd (ao (aM (ae af (ae af (ae af (ae (aD yL af af) ag))))) (aK (dR T) hr (ae (aa 0) (ae af (ae af (ae af ag))))))) (ar (aJ 5 iq.nd (aK (dR T) hr (ae (aa 0) (ae af (ae af (ae af ag)))))) (ar (aJ 6 iq.nd (aK (dR T) hr (ae (aa 0) (ae af (ae af (ae af ag)))))) (ar (aH (bq (aa 1) af) (ar (aJ 5 iq.nd af) (au (aJ 6 iq.nd af))) aG) (au (aA (aM (ae (aa 2) (ae (aa 3) (ae (aa 5) (ae (aa 6) (ae (bT (yO rfl) (by rfl) T.nv mG (ae (aa 2) (ae (aK (dR T) hr (ae (aa 0) (ae af (ae af (ae af ag))))) ag))) (ae (aa 4) ag)))))))))))))))))),?_⟩;refine aC (λσ H1=>∃ w:Int,σ=[some (.ref a),some (.int w),none,none,none,none,none]/\H1=H) (λN hN=>?_) ?_
 .refine⟨a,ns,_,_,_,rfl,hS,hn,by lia,by lia,by lia,λp p1 p2=>?_⟩;exact hN _ _ ⟨_,rfl,rfl⟩
 rintro y yR σ H1 ⟨w,rfl,rfl⟩;subst yR;refine aC (λσ H2=>∃ e:Int,σ=[some (.ref a),some (.int w),some (.int e),none,none,none,none]/\H2=H1/\1<=e/\e<=3) (λN hN=>?_) ?_
 .rfl';refine⟨a,ns,_,_,_,rfl,hS,hn,by lia,by lia,by lia,λp p1 p2=>?_⟩;exact hN _ _ ⟨_,rfl,rfl,by lia,by lia⟩
 rintro y yR σ H ⟨e,rfl,rfl,e1,e2⟩;subst yR;refine aC (λσ H2=>∃ t:Int,σ=[some (.ref a),some (.int w),some (.int e),some (.int t),none,none,none]/\H2=H/\1<=t/\t<=4) (λN hN=>?_) ?_
 .rfl';refine⟨a,ns,_,_,_,rfl,hS,hn,by lia,by lia,by lia,λp p1 p2=>?_⟩;exact hN _ _ ⟨_,rfl,rfl,by lia,by lia⟩
 rintro y yR σ H1 ⟨t,rfl,rfl,t1,t2⟩;subst yR;refine aC (λσ H2=>∃ e t:Int,σ=[some (.ref a),some (.int w),some (.int e),some (.int t),none,none,none]/\H2=H1/\KR e t) (λN hN=>?_) ?_
 .rfl';exact aU (λy=>hN _ _ ⟨7,2,rfl,rfl,by decide,.inr (.inl (by decide))⟩) λy=>hN _ _ ⟨e,t,rfl,rfl,⟨e1,t1⟩,.inl ⟨e2,t2⟩⟩
 rintro y yR σ H ⟨e,t,rfl,rfl,hE⟩;subst yR;refine aC (λσ H2=>∃ e t:Int,σ=[some (.ref a),some (.int w),some (.int e),some (.int t),none,none,none]/\H2=H/\KR e t) (λN hN=>?_) ?_
 .rfl';exact aU (λy=>hN _ _ ⟨2,12,rfl,rfl,by decide,.inr (.inr (by decide))⟩) λy=>hN _ _ ⟨e,t,rfl,rfl,hE⟩
 rintro y yR σ H1 ⟨e,t,rfl,rfl,⟨e1,t1⟩,hE⟩;subst yR;refine aC (λσ H2=>∃ f:Int,σ=[some (.ref a),some (.int w),some (.int e),some (.int t),some (.int f),none,none]/\ah H1 H2/\1<=f/\f<=1000000000000000000000000000000) (λN hN=>?_) ?_
 .rfl';refine⟨⟨by decide,by decide,by decide⟩,by decide,λl hl=>?_⟩;refine⟨a,ns,_,_,_,rfl,(ak hl).seq hS,hn,by lia,by lia,by lia,λp p1 p2=>?_⟩;rcases (by lia:p=0∨p=1∨p=2∨p=3) with rfl|rfl|rfl|rfl
  all_goals exact ay (aj.of aq) rfl (hN _ _ ⟨_,rfl,ak hl,by decide,by decide⟩)
 rintro y yR σ H2 ⟨f,rfl,s2,f1,f2⟩;subst yR;refine aC (λσ H3=>∃ u:Int,σ=[some (.ref a),some (.int w),some (.int e),some (.int t),some (.int f),some (.int u),none]/\H3=H2/\0<=u/\u<=13) (λN hN=>?_) ?_
 .rfl';refine⟨a,ns,_,_,_,rfl,s2.seq hS,hn,by lia,by lia,by lia,λp p1 p2=>?_⟩;exact hN _ _ ⟨_,rfl,rfl,by lia,by lia⟩
 rintro y yR σ H3 ⟨u,rfl,rfl,hu⟩;subst yR;refine aC (λσ H4=>∃ d:Int,σ=[some (.ref a),some (.int w),some (.int e),some (.int t),some (.int f),some (.int u),some (.int d)]/\H4=H3/\0<=d/\d<=13) (λN hN=>?_) ?_
 .rfl';refine⟨a,ns,_,_,_,rfl,s2.seq hS,hn,by lia,by lia,by lia,λp p1 p2=>?_⟩;exact hN _ _ ⟨_,rfl,rfl,by lia,by lia⟩
 rintro y yR σ H4 ⟨d,rfl,rfl,hd⟩;subst yR;refine aC (λσ H5=>∃ u d:Int,σ=[some (.ref a),some (.int w),some (.int e),some (.int t),some (.int f),some (.int u),some (.int d)]/\H5=H4/\(0<=u/\u<=13)/\0<=d/\d<=13) (λN hN=>?_) ?_
 .rfl';exact aU (λy=>hN _ _ ⟨0,0,rfl,rfl,by decide,by decide⟩) λy=>hN _ _ ⟨u,d,rfl,rfl,hu,hd⟩
 rintro y yR σ H5 ⟨u,d,rfl,rfl,hu,hd⟩;subst yR;rfl';refine⟨a,ns,_,_,_,rfl,s2.seq hS,hn,by lia,by lia,by lia,λp p1 p2=>?_⟩;rfl';refine⟨by decide,λr hr=>q r e t u d _ f _ (s2.trans (ak hr)) aq ⟨by lia,by lia,hE,hu,hd,?_,f1,f2⟩⟩;split<;>lia
def uB(u d:Int)(cs:List Int):Prop:=∀ i,i+1<cs.length->-d<=cs.getD (i+1) 0-cs.getD i 0/\cs.getD (i+1) 0-cs.getD i 0<=u
theorem uB.snoc(h:uB u d (cs++[n]))(h1 : -d<=k-n)(h2:k-n<=u):uB u d (cs++[n]++[k]):=by
 intro i hi;rw[acj,acj,acA,acA] at hi;by_cases e:i+1<(cs++[n]).length
 .have:=h i e;simp only[abV] at this ⊢;rw[acP (l₁:=cs++[n]) e,acP (l₁:=cs++[n]) (by lia)];exact this
 .rw[acj,acA] at e;have ei:i=cs.length:=by lia
  subst ei;have a1:(cs++[n]++[k])[cs.length+1]?=some k:=by simp
  have a2:(cs++[n]++[k])[cs.length]?=some n:=by simp
  simp only[abV,a1,a2,ae3];exact⟨h1,h2⟩
inductive Xn(vs:List V)(H:Hp)(Q:VK)(aN:XK):Prop
 | mk(a b:ab6)(ns:List Int)(e t u d m f n:Int)(_:vs=[.ref a,.ref b,.int n])(_:ai K H a (ns.map V.int))(_:jT ns)(_:aj K H b (uA e t u d m f))(_:qU e t u d m f)(_:∀ (l:ab6) (cs:List Int) (H':Hp),ah H H'->H l=none->H' l=some (.lst (cs.map V.int))->cs.length=t.toNat->uB (f * u) (f * d) cs->Q (.ref l) H')
inductive KS(H:Hp)(a b l:ab6)(u d f n:Int)(i:Nat)(σ:St)(H1:Hp):Prop
 | mk(cs:List Int)(y:Int)(d4 d5:Option V)(_:σ=[some (.ref a),some (.ref b),some (.int n),some (.ref l),d4,d5])(_:ah H H1)(_:H1 l=some (.lst ((cs++[y]).map V.int)))(_:cs.length=i)(_:uB (f * u) (f * d) (cs++[y]))
theorem Xo(T:aB):aP 2 T.VX Xn:=by
 refine bA ud ?_;rintro z z z z H z z z hr ⟨a,b,ns,e,t,u,d,m,f,n,rfl,hS,hn,hb,sh,q⟩;refine⟨_,(ar (aJ 3 ud.nd (cn (ae (aa 2) ag))) (ar (cU acH rfl (my rfl T.eh (ae af (ae (ao (aa 1) af) ag))) (cv 4 ud.nd) (ar (aJ 5 ud.nd (aD bW (aK (dR T) hr (ae (aa 0) (ae (aD bb af (aa 4)) (ae af (ae (aD bb (aD bb (ao (aa 1) af) (ao (aa 1) af)) af) ag))))) (ao (aa 1) af))) (au (dm (lA ac3 adL adM sx (aa 3) (ae (aD bb (ao (aa 3) (iD iM af)) (aD m8 (ao (aa 1) af) (aa 5))) ag)))))) (au (aA (aa 3))))),?_⟩;obtain⟨-,⟨t1,t2⟩,-,⟨u1,u2⟩,⟨d1,d2⟩,-,f1,f2⟩:=id sh;refine aC (λσ H1=>∃ l,σ=[some (.ref a),some (.ref b),some (.int n),some (.ref l),none,none]/\ah H H1/\H l=none/\H1 l=some (.lst ([n].map V.int))) (λN hN=>?_) ?_
 .rfl';exact⟨by decide,λl hl=>hN _ _ ⟨l,rfl,ak hl,hl,aq⟩⟩
 rintro z yR σ H1 ⟨l,rfl,s1,f0,hl⟩;subst yR;refine aC (KS H a b l u d f n (t-1).toNat) (λN hN=>?_) ?_
 .rfl';refine ay (fg s1 hb) (v:=.int t) rfl ?_;rfl';refine⟨by lia,by lia,pR (KS H a b l u d f n) ⟨[],n,_,_,rfl,s1,hl,rfl,λk h=>absurd h (by show ¬ k+1<1;lia)⟩ ?_ (λσ H' h=>hN _ _ h)⟩;rintro i σ H2 hi ⟨cs,y,d4,d5,rfl,s2,a7,br,cT⟩;rfl';refine ay (fg s2 hb) (v:=.int u) rfl (ay (fg s2 hb) (v:=.int d) rfl ?_);refine⟨a,ns,_,_,_,rfl,s2.seq hS,hn,by lia,by lia,by lia,λp p1 p2=>?_⟩;refine ay (fg s2 hb) (v:=.int d) rfl ?_;refine⟨.inl ⟨rfl,_,ai.of a7⟩,bJ (ai.of a7) (v:=.int y) (by rw[adA];exact yY _ _) (ay (fg s2 hb) (v:=.int f) rfl ?_)⟩;rfl';have m1:=afX (show p-d<=u by lia) (show 0<=f by lia);have m2:=afX (show -d<=p-d by lia) (show 0<=f by lia);rw[Int.mul_neg] at m2;refine⟨n4 (by lia) (by lia),_,a7,ac5 (by rw[abT,acj,br];show i+1<=20;lia:_<=20) (by decide),cs++[y],y+f * (p-d),_,_,rfl,jK f0 s2,?_,by rw[acj,br];rfl,cT.snoc (by lia) (by lia)⟩;rw[aq,adA (l₁:=cs++[y])];rfl
 rintro z yR σ H2 ⟨cs,y,d4,d5,rfl,s2,a7,br,cT⟩;subst yR;exact q l _ H2 s2 f0 a7 (by rw[acj,br];show (t-1).toNat+1=_;lia) cT
inductive Xq(vs:List V)(H:Hp)(Q:VK)(aN:XK):Prop
 | mk(a:ab6)(ns:List Int)(k n f:Int)(_:vs=[.ref a,.int k,.int n,.int f])(_:ai K H a (ns.map V.int))(_:jT ns)(_:(-900000<=k/\k<=900000))(_:(1<=f/\f<=1000000000000000000000000000000))(_:∀ (p:ab6) (lo hi:En) (H':Hp),ah H H'->H' p=some (.tup [ev lo,ev hi])->ba lo hi=false->hold lo hi n=true->Q (.ref p) H')
inductive B9(H:Hp)(a:ab6)(k n f:Int)(σ:St)(H1:Hp):Prop
 | mk(lo hi:En)(o:Int)(_:σ=[some (.ref a),some (.int k),some (.int n),some (.int f),some (ev lo),some (ev hi),some (.int o)])(_:H1=H)(_:bV (lo,hi) n)
theorem Xr(T:aB):aP 2 T.VY Xq:=by
 refine bA oI ?_;rintro v v v v H v v v hr ⟨a,ns,k,n,f,rfl,hS,hn,hk,⟨f1,f2⟩,q⟩;refine⟨_,(ar (aJ 4 oI.nd (aD bW (aD bW (aa 2) (aD m8 (aa 3) (aK (dR T) hr (ae (aa 0) (ae (aa 1) (ae af (ae af ag))))))) (aK (dR T) hr (ae (aa 0) (ae (aa 1) (ae af (ae af ag))))))) (ar (aJ 5 oI.nd (aD bb (aa 2) (aD m8 (aa 3) (aK (dR T) hr (ae (aa 0) (ae (aa 1) (ae af (ae af ag)))))))) (ar (aJ 6 oI.nd (aK (dR T) hr (ae (aa 0) (ae (aa 1) (ae af (ae af ag)))))) (ar (aH (bq (aa 6) af) (au (aJ 4 oI.nd bG)) aG) (ar (aH (bq (aa 6) af) (au (aJ 5 oI.nd bG)) aG) (au (aA (aM (ae (aa 4) (ae (aa 5) ag)))))))))),?_⟩;refine aC (λσ H1=>∃ lo:Int,σ=[some (.ref a),some (.int k),some (.int n),some (.int f),some (.int lo),none,none]/\H1=H/\lo<=n) (λN hN=>?_) ?_
 .refine⟨a,ns,_,_,_,rfl,hS,hn,by lia,by lia,by lia,λp p1 p2=>?_⟩;have:=aeB (show 0<=f by lia) p1;refine⟨n4 (by lia) (by lia),?_⟩;refine⟨a,ns,_,_,_,rfl,hS,hn,by lia,by lia,by lia,λr r1 r2=>?_⟩;exact hN _ _ ⟨_,rfl,rfl,by lia⟩
 rintro v yR σ H1 ⟨lo,rfl,rfl,h1⟩;subst yR;refine aC (λσ H2=>∃ hi:Int,σ=[some (.ref a),some (.int k),some (.int n),some (.int f),some (.int lo),some (.int hi),none]/\H2=H1/\n<=hi) (λN hN=>?_) ?_
 .refine⟨a,ns,_,_,_,rfl,hS,hn,by lia,by lia,by lia,λp p1 p2=>?_⟩;rfl';have:=aeB (show 0<=f by lia) p1;exact⟨n4 (by lia) (by lia),hN _ _ ⟨_,rfl,rfl,by lia⟩⟩
 rintro v yR σ H ⟨hi,rfl,rfl,h2⟩;subst yR;refine aC (B9 H a k n f) (λN hN=>?_) ?_
 .rfl';refine⟨a,ns,_,_,_,rfl,hS,hn,by lia,by lia,by lia,λp p1 p2=>?_⟩;exact hN _ _ ⟨some lo,some hi,p,rfl,rfl,λx z=>by cases z;exact h1,λy z=>by cases z;exact h2⟩
 rintro v yR σ H1 ⟨lo,hi,o,rfl,rfl,cg⟩;subst yR;refine aC (B9 H1 a k n f) (λN hN=>?_) ?_
 .rfl';exact aU (λv=>hN _ _ ⟨none,hi,o,rfl,rfl,λx z=>(nomatch z),cg.2⟩) λv=>hN _ _ ⟨lo,hi,o,rfl,rfl,cg⟩
 rintro v yR σ H ⟨lo,hi,o,rfl,rfl,cg⟩;subst yR;refine aC (B9 H a k n f) (λN hN=>?_) ?_
 .rfl';exact aU (λv=>hN _ _ ⟨lo,none,o,rfl,rfl,cg.1,λx z=>(nomatch z)⟩) λv=>hN _ _ ⟨lo,hi,o,rfl,rfl,cg⟩
 rintro v yR σ H1 ⟨lo,hi,o,rfl,rfl,cg⟩;subst yR;refine⟨aX,λp hp=>q p lo hi _ (ak hp) aq ?_ (Ah.mp cg)⟩;rcases lo with v|x<;>rcases hi with v|y
 .rfl
 .rfl
 .rfl
 .have h1:=cg.1 x rfl;have h2:=cg.2 y rfl;simp only[ba];exact decide_eq_false (by lia)
theorem Xs{tb:Tb}{s:P2}{w:S2}{r:P2 × S2}(h:r∈e9 tb s w):r∈tb∨r.2=w:=by
 unfold e9 at h;split at h
 .obtain⟨x,hx,rfl⟩:=ab7.mp h;by_cases e:x.1=s
  .rw[if_pos e];exact .inr rfl
  .rw[if_neg e];exact .inl hx
 .rcases acw.mp h with z|z
  .exact .inl z
  .rw[acx.mp z];exact .inr rfl
inductive dE(H:Hp)(v:V)(w:ab6)(e t u d m:Int)(tb:Tb):Prop
 | mk(r:ab6)(_:v = .ref r)(_:H r=some (.tup [.int e,.int t,.int u,.int d,.int m,.ref w]))(_:TabAt H w tb)
theorem dE.same{H H':Hp}{v:V}{w:ab6}{e t u d m:Int}{tb:Tb}(h:dE H v w e t u d m tb)(s:ah H H'):dE H' v w e t u d m tb:=let ⟨r,e,a,b⟩:=h;⟨r,e,s _ _ a,b.same s⟩
inductive KU(H:Hp)(e t:Int)(q:ab6)(n:Int)(H1:Hp):Prop
 | mk(tb:Tb)(_:ah H H1)(_:H q=none)(_:TabAt H1 q tb)(_:bK e t tb)(_:(tb.length:Int)<=n)(_:∀ r∈tb,ba r.2.1 r.2.2=false)
inductive Xt(vs:List V)(H:Hp)(Q:VK)(aN:XK):Prop
 | mk(a b c:ab6)(ns cs:List Int)(e t u d m f:Int)(_:vs=[.ref a,.ref b,.ref c])(_:ai K H a (ns.map V.int))(_:jT ns)(_:aj K H b (uA e t u d m f))(_:qU e t u d m f)(_:ai K H c (cs.map V.int))(_:cs.length=t.toNat)(_:∀ (v:V) (w:ab6) (tb:Tb) (H':Hp),ah H H'->H w=none->dE H' v w e t (f * u) (f * d) m tb->bK e t tb->tb.length<=24->(∀ r∈tb,ba r.2.1 r.2.2=false)->Q v H')
def Ca(σ0:Option V->Option V->Option V->Option V->Option V->St)(H:Hp)(e t:Int)(q:ab6)(n:Nat->Int)(i:Nat)(σ:St)(H1:Hp):Prop:=∃ e1 e2 e3 e4 e5,σ=σ0 e1 e2 e3 e4 e5/\KU H e t q (n i) H1
theorem KW(h:qU e t u d m f):e * t<=24:=by
 obtain⟨he,ht,h,-⟩:=h;rcases h with ⟨h1,h2⟩|⟨h1,h2⟩|⟨h1,h2⟩
 .exact afe (agF h1 h2 (by lia) (by decide)) (by decide)
 .exact afe (agF h1 h2 (by lia) (by decide)) (by decide)
 .exact agF h1 h2 (by lia) (by decide)
theorem Xu(T:aB):aP 3 T.VZ Xt:=by
 refine bA j8 ?_;rintro y y y s H y y y hr ⟨a,b,c,ns,cs,e,t,u,d,m,f,rfl,hS,hn,hb,sh,hc,br,q⟩;refine⟨_,(ar (aJ 3 j8.nd Af) (ar (aJ 4 j8.nd (aK (dR T) hr (ae (aa 0) (ae af (ae af (ae (aD bb (ao (aa 1) af) af) ag)))))) (ar (cU acH rfl (iB rfl T.eh (ae (ao (aa 1) af) ag)) (cv 5 j8.nd) (au (cU acH rfl (iB rfl T.eh (ae (ao (aa 1) af) ag)) (cv 6 j8.nd) (ar (aJ 7 j8.nd (aD bb (aD bb af (aD m8 af (aa 5))) (aa 6))) (ar (aJ 8 j8.nd (ao (aa 2) (aa 6))) (ar (aH (j4 (aD oy (aD bb (aa 5) (aK (dR T) hr (ae (aa 0) (ae af (ae af (ae af ag)))))) (ao (aa 1) af)) (aa 4)) (au (aJ 8 j8.nd (aD bb (aa 8) (aD m8 (ao (aa 1) af) (aD bW (aK (dR T) hr (ae (aa 0) (ae (aa 7) (ae af (ae af ag))))) af))))) aG) (ar (aJ 9 j8.nd (eG nI (aK (dR T) hr (ae (aa 0) (ae (aa 7) (ae af (ae af ag))))) af (cI _))) (ar (aH (bq (ao (aa 1) af) af) (au (aJ 9 j8.nd (eG (gM rT) (aD oy (aD bb (aD bb (aa 5) (aa 6)) (aK (dR T) hr (ae (aa 0) (ae af (ae af (ae af ag)))))) af) af (cI _)))) aG) (au (aH (bZ (b9 (aa 9))) (au (wB (dW hr) (aa 3) (aM (ae (aa 5) (ae (aa 6) ag))) (aK (Xr T) hr (ae (aa 0) (ae (aa 7) (ae (aa 8) (ae (ao (aa 1) af) ag))))) rfl)) aG)))))))))) (au (aA (aM (ae (ao (aa 1) af) (ae (ao (aa 1) af) (ae (aD m8 (ao (aa 1) af) (ao (aa 1) af)) (ae (aD m8 (ao (aa 1) af) (ao (aa 1) af)) (ae (ao (aa 1) af) (ae (aa 3) ag)))))))))))),?_⟩;obtain⟨⟨e1,e2⟩,⟨t1,t2⟩,-,⟨u1,u2⟩,⟨d1,d2⟩,⟨m1,m2⟩,hf⟩:=id sh;have et:=KW sh;refine aC (λσ H1=>∃ w,σ=[some (.ref a),some (.ref b),some (.ref c),some (.ref w),none,none,none,none,none,none]/\KU H e t w 0 H1) (λN hN=>?_) ?_
 .exact λw jw=>hN _ _ ⟨w,rfl,[],ak jw,jw,⟨[],aq,trivial⟩,bK.nil,ade _,λy h=>(nomatch h)⟩
 rintro y yR σ H1 ⟨w,rfl,hw⟩;subst yR;obtain⟨y,s1,y⟩:=id hw;refine aC (λσ H2=>∃ wr:Int,σ=[some (.ref a),some (.ref b),some (.ref c),some (.ref w),some (.int wr),none,none,none,none,none]/\H2=H1) (λN hN=>?_) ?_
 .rfl';refine ay (fg s1 hb) (v:=.int m) rfl ?_;refine⟨a,ns,_,_,_,rfl,s1.seq hS,hn,by lia,by lia,by lia,λp p1 p2=>?_⟩;exact hN _ _ ⟨_,rfl,rfl⟩
 rintro y yR σ H2 ⟨wr,rfl,rfl⟩;subst yR;refine aC (Ca (λe1 e2 e3 e4 e5=>[some (.ref a),some (.ref b),some (.ref c),some (.ref w),some (.int wr),e1,e2,e3,e4,e5]) H e t w (λy=>e * t) 0) (λN hN=>?_) ?_
 .rfl';refine ay (fg s1 hb) (v:=.int e) rfl ?_;rfl';refine⟨by lia,by lia,pR (Ca (λe1 e2 e3 e4 e5=>[some (.ref a),some (.ref b),some (.ref c),some (.ref w),some (.int wr),e1,e2,e3,e4,e5]) H e t w λi=>(i:Int) * t) ⟨_,_,_,_,_,rfl,by simpa using hw⟩ ?_ (λσ H' h=>hN _ _ ?_)⟩
  .rintro i σ H5 hi ⟨e1,e2,e3,e4,e5,rfl,KY⟩;obtain⟨y,s5,y⟩:=id KY;rfl';refine ay (fg s5 hb) (v:=.int t) rfl ?_;rfl';refine⟨by lia,by lia,pR (Ca (λe2 e3 e4 e5 y=>[some (.ref a),some (.ref b),some (.ref c),some (.ref w),some (.int wr),some (.int (0+(i:Int))),e2,e3,e4,e5]) H e t w λj=>(i:Int) * t+j) ⟨_,_,_,_,none,rfl,by simpa using KY⟩ ?_ ?_⟩
   .rintro j σ H6 hj ⟨e2,e3,e4,e5,y,rfl,Xv⟩;obtain⟨tb,s6,jw,⟨kvs,hk,hT⟩,az,kZ,el⟩:=id Xv;have tl:=hT.len;refine aC (λσ H7=>∃ kk:Int,σ=[some (.ref a),some (.ref b),some (.ref c),some (.ref w),some (.int wr),some (.int (0+(i:Int))),some (.int (0+(j:Int))),some (.int kk),e4,e5]/\H7=H6/\0<=kk/\kk<=1000) (λN hN=>?_) ?_
    .rfl';exact⟨n4 (by lia) (by lia),hN _ _ ⟨_,rfl,rfl,by lia,by lia⟩⟩
    rintro y yR σ H7 ⟨kk,rfl,rfl,k1,k2⟩;subst yR;refine aC (λσ H8=>∃ nn:Int,σ=[some (.ref a),some (.ref b),some (.ref c),some (.ref w),some (.int wr),some (.int (0+(i:Int))),some (.int (0+(j:Int))),some (.int kk),some (.int nn),e5]/\H8=H7) (λN hN=>?_) ?_
    .exact bJ (s6.seq hc) (int_at (by lia) (by lia)) (hN _ _ ⟨_,rfl,rfl⟩)
    rintro y yR σ H6 ⟨nn,rfl,rfl⟩;subst yR;refine aC (λσ H8=>∃ nn:Int,σ=[some (.ref a),some (.ref b),some (.ref c),some (.ref w),some (.int wr),some (.int (0+(i:Int))),some (.int (0+(j:Int))),some (.int kk),some (.int nn),e5]/\H8=H6) (λN hN=>?_) ?_
    .rfl';refine⟨a,ns,_,_,_,rfl,s6.seq hS,hn,by lia,by lia,by lia,λp p1 p2=>?_⟩;refine ay (fg s6 hb) (v:=.int e) rfl ?_;refine⟨by lia,aU (λy=>?_) λy=>hN _ _ ⟨nn,rfl,rfl⟩⟩;refine ay (fg s6 hb) (v:=.int f) rfl ?_;refine⟨a,ns,_,_,_,rfl,s6.seq hS,hn,by lia,by lia,by lia,λr r1 r2=>?_⟩;exact⟨n4 (by lia) (by lia),hN _ _ ⟨_,rfl,rfl⟩⟩
    rintro y yR σ H7 ⟨nn,rfl,rfl⟩;subst yR;refine aC (λσ H8=>∃ o:Bool,σ=[some (.ref a),some (.ref b),some (.ref c),some (.ref w),some (.int wr),some (.int (0+(i:Int))),some (.int (0+(j:Int))),some (.int kk),some (.int nn),some (.bl o)]/\H8=H7) (λN hN=>?_) ?_
    .rfl';refine⟨a,ns,_,_,_,rfl,s6.seq hS,hn,by lia,by lia,by lia,λp p1 p2=>?_⟩;rfl';exact hN _ _ ⟨_,rfl,rfl⟩
    rintro y yR σ H6 ⟨o,rfl,rfl⟩;subst yR;refine aC (λσ H8=>∃ o:Bool,σ=[some (.ref a),some (.ref b),some (.ref c),some (.ref w),some (.int wr),some (.int (0+(i:Int))),some (.int (0+(j:Int))),some (.int kk),some (.int nn),some (.bl o)]/\H8=H6) (λN hN=>?_) ?_
    .refine ay (fg s6 hb) (v:=.int t) rfl ?_;rfl';refine aU (λy=>?_) λy=>hN _ _ ⟨o,rfl,rfl⟩;refine⟨a,ns,_,_,_,rfl,s6.seq hS,hn,by lia,by lia,by lia,λp p1 p2=>?_⟩;exact hN _ _ ⟨_,rfl,rfl⟩
    rintro y yR σ H7 ⟨o,rfl,rfl⟩;subst yR;have le:(i:Int) * t+(j:Int)<=(i:Int) * t+((j+1:Nat):Int):=by lia
    have bm:0<=(i:Int) * t/\(i:Int) * t<=6 * 12:=⟨aeB (by lia) (by lia),agF (by lia) t2 (by lia) (by decide)⟩
    cases o with
    | true =>
     exact⟨_,_,_,_,none,rfl,tb,s6,jw,⟨kvs,hk,hT⟩,az,afe kZ le,el⟩
    | false =>
     rfl';refine ay (fg s6 hb) (v:=.int f) rfl ?_;refine⟨a,ns,_,_,_,rfl,s6.seq hS,hn,by lia,hf,λwp lo hi H8 s7 Xw Xx y=>⟨aX,λk Xy=>?_⟩⟩;have u:=ak (o:=.tup [.int (0+(i:Int)),.int (0+(j:Int))]) Xy;have KZ:=(s7.trans u) _ _ hk;refine⟨_,mR.t (k:=spot (0+(i:Int)) (0+(j:Int))) KZ aq (ac5 (by lia:kvs.length<=100) (by decide)),_,_,_,_,none,rfl,e9 tb (0+(i:Int),0+(j:Int)) (lo,hi),jK jw (s6.trans (s7.trans u)),jw,⟨_,aq,?_⟩,az.put ⟨⟨by show 0<=0+(i:Int);lia,by show 0+(i:Int)<e;lia⟩,by show 0<=0+(j:Int);lia,by show 0+(j:Int)<t;lia⟩,?_,λr hr=>?_⟩
     .have F:Fr _ (upd _ w (.dT (putK kvs (spot (0+(i:Int)) (0+(j:Int))) (.ref wp)))):=qr KZ;exact bh.put (s:=(0+(i:Int),0+(j:Int))) (w:=(lo,hi)) (hT.imp λv a b z=>(aO.same z (s7.trans u)).fr F) (aO.fr ⟨wp,rfl,u _ _ Xw⟩ F)
     .have:=Hj tb (0+(i:Int),0+(j:Int)) (lo,hi);lia
     .rcases Xs hr with z|z
      .exact el r z
      .rw[z];exact Xx
   .rintro σ H6 ⟨e2,e3,e4,e5,y,rfl,tb,s6,jw,hT,az,kZ,el⟩;refine⟨_,_,_,_,_,rfl,tb,s6,jw,hT,az,?_,el⟩;show (tb.length:Int)<=((i+1:Nat):Int) * t;lia
  .obtain⟨e1,e2,e3,e4,e5,rfl,tb,s6,jw,hT,az,kZ,el⟩:=h;refine⟨_,_,_,_,_,rfl,tb,s6,jw,hT,az,?_,el⟩;have kZ:(tb.length:Int)<=((e.toNat:Nat):Int) * t:=kZ;rw[ad3 (by lia)] at kZ;exact kZ
 rintro y yR σ H5 ⟨e1,e2,e3,e4,e5,rfl,tb,s5,jw,hT,az,kZ,el⟩;subst yR;rfl';refine ay (fg s5 hb) (v:=.int e) rfl (ay (fg s5 hb) (v:=.int t) rfl (ay (fg s5 hb) (v:=.int f) rfl (ay (fg s5 hb) (v:=.int u) rfl ?_)));refine⟨n4 (by lia) (by lia),ay (fg s5 hb) (v:=.int f) rfl (ay (fg s5 hb) (v:=.int d) rfl ?_)⟩;refine⟨n4 (by lia) (by lia),ay (fg s5 hb) (v:=.int m) rfl ⟨by decide,λr hr=>?_⟩⟩;exact q (.ref r) w tb _ (s5.trans (ak hr)) jw ⟨r,rfl,aq,hT.same (ak hr)⟩ az (by lia) el
structure cf(B:ab6)(H:Hp)(x:ab6)(e t u d m:Int)(p:ab6)(tb:Tb):Prop where
 ob:∃ dx,H x=some (.ins B dx (xP e t u d m p))
 tb:TabAt H p tb
theorem cf.same{B:ab6}{H H':Hp}{x p:ab6}{e t u d m:Int}{tb:Tb}(h:cf B H x e t u d m p tb)(s:ah H H'):cf B H' x e t u d m p tb:=let ⟨⟨dx,a⟩,b⟩:=h;⟨⟨dx,s _ _ a⟩,b.same s⟩
theorem cf.now{B:ab6}{H H':Hp}{x p:ab6}{e t u d m:Int}{tb eL:Tb}(h:cf B H x e t u d m p tb)(s:Fr H H')(hp:TabAt H' p eL):cf B H' x e t u d m p eL:=let ⟨⟨dx,a⟩,_⟩:=h;⟨⟨dx,s _ _ (λy z=>nomatch z) a⟩,hp⟩
inductive Xz(B C:ab6)(vs:List V)(H:Hp)(Q:VK)(E:XK):Prop
 | mk(x p:ab6)(e t u d m i j:Int)(kvs:List (List Key × V))(_:vs=[.ref x,.int i,.int j])(_:iu B H x e t u d m p kvs)(_:(di kvs (spot i j)=none->∀ H',ah H H'->E (.ref C) none H'))(_:(∀ v,di kvs (spot i j)=some v->∀ H',SameBut p H H'->H' p=some (.dT (iI kvs (spot i j)))->Q .non H'))
theorem XA(T:aB):cj 2 T.BL (Xz T.aT T.oM):=by refine iN Kg ?_;rintro y y y y y y y y hr ⟨x,p,e,t,u,d,m,i,j,kvs,rfl,hb,q0,q⟩;refine⟨_,(ar (dm (eV (aa 0) T.bF T.KJ (KQ T) hr.m T.xD.b .nil gF (ae (aa 1) (ae (aa 2) ag)))) (au (dm (Ae (dW hr) (bz rfl (aa 0) rfl) (aM (ae (aa 1) (ae (aa 2) ag))) ⟨rfl,rfl,rfl,rfl⟩)))),?_⟩;obtain⟨⟨dx,hx⟩,hp⟩:=id hb;rfl';refine⟨_,_,hx,rfl,x,p,e,t,u,d,m,i,j,kvs,rfl,hb,q0,λv hv H1 s1=>?_⟩;have kG:=s1 _ _ hx;have fF:=s1 _ _ hp;refine⟨_,_,_,kG,T.bF,T.ny,_,rfl,p,rfl,.inr ⟨kvs,.inl fF⟩,aX,λk hk=>?_⟩;refine⟨kvs,(ak hk) _ _ fF,spot i j,aq,v,hv,q v hv _ (λb o gV e=>?_) aq⟩;rw[aF gV];exact (ak hk) _ _ (s1 _ _ e)
inductive XB(B:ab6)(vs:List V)(H:Hp)(Q:VK)(aN:XK):Prop
 | mk(x p:ab6)(e t u d m:Int)(tb:Tb)(_:vs=[.ref x])(_:cf B H x e t u d m p tb)(_:(tb.map (·.1)).Nodup)(_:tb.length<64)(_:∀ l xs H',ah H H'->H l=none->H' l=some (.lst xs)->ax (jV H') xs (kM tb)->Q (.ref l) H')
theorem Cb(T:aB):cj 1 T.um (XB T.aT):=by
 refine fb Kh ?_;rintro v v v s H v Q v hr ⟨x,p,e,t,u,d,m,tb,rfl,⟨⟨dx,hx⟩,kvs,hp,hT⟩,hn,fP,q⟩;refine⟨_,(au (aA (dg (cO [0] [aS]) rfl (cE (bT (Ru rfl) (by rfl) T.Kw E2 (ae (bz rfl (aa 0) rfl) ag))) (λC s2 H2 ex pn=>⟨df,(aM (ae (b0 (K:=K) (aa 0) af) (ae (b0 (K:=K) (aa 0) af) (ae (Hh (dW hr) (bz (K:=K) rfl (aa 1) rfl) (aa 0) (λv v=>rfl)) ag))))⟩)))),?_⟩;rfl';refine⟨_,_,_,hx,T.bF,T.ny,_,rfl,p,rfl,kvs,hp,kL tb,RA hT,RB,by rw[hT.len];exact fP,λl ys hl hk=>?_⟩;have PS:=RC hT hk;have s1:=ak (o:=.lst (eM (kL tb) .non ys)) hl;have L1:upd H l (.lst (eM (kL tb) .non ys)) l=some (.lst (eM (kL tb) .non ys)):=aq;generalize upd H l (.lst (eM (kL tb) .non ys))=H1 at s1 L1 ⊢;refine⟨⟨_,ai.of L1⟩,cJ i8 (ab3 (by rw[PS.len,mS];exact afG fP:_<=64) (by decide)) (gJ (R:=λH x (r:P2 × S2)=>cV H x r.1) (R':=λH y (r:P2 × S2)=>jV H y r) (f:=λr=>r) (bs:=[]) (λv v v v s r=>cV.same r s) (λv v v v s r=>jV.same r s) (PS.imp λx r z=>cV.same z s1) trivial (λH' s'=>ai.of (s' _ _ L1)) (λx r v H' s' cc Q h=>?_) (λx r cc H' s' h0 Q h=>?_) λH2 zs s2 hz=>?_)⟩
 .exact h
 .obtain⟨a,rfl,ha⟩:=id h0;have S:=s1.trans s';have XD:=hT.imp λv a b z=>aO.same z S;obtain⟨w,hw,iw⟩:=(XD.val r.1).2 _ (jd hn (tq cc));rfl';refine ay (aj.of ha) rfl (ay (aj.of ha) rfl ⟨_,_,_,S _ _ hx,T.bF,T.ny,_,rfl,p,rfl,w,?_,?_⟩)
  .rw[<- hw];exact eZ.t (k:=spot r.1.1 r.1.2) (S _ _ hp) ha
  .exact⟨by decide,λz hz=>h _ _ (ak hz) ⟨z,w,rfl,aq,aO.same iw (ak hz)⟩⟩
 rw[aci,ahQ] at hz;exact λl2 a7=>q l2 zs _ (s1.trans (s2.trans (ak a7))) ((s1.trans s2).free a7) aq (hz.imp λx r z=>jV.same z (ak a7))
noncomputable def c8(tb:Tb)(ss:List P2):Tb:=ss.foldl (λacc s=>e9 acc s ((cQ tb s).getD (none,none))) []
theorem K0(tb:Tb)(ss:List P2)(s:P2):c8 tb (ss++[s])=e9 (c8 tb ss) s ((cQ tb s).getD (none,none)):=by unfold c8;rw[afA];rfl
theorem uC(tb:Tb):∀ (ss:List P2),(c8 tb ss).length<=ss.length:=by
 intro ss;have gen:∀ (ss:List P2) (acc:Tb),(ss.foldl (λacc s=>e9 acc s ((cQ tb s).getD (none,none))) acc).length<=acc.length+ss.length:=by
  intro ss
  induction ss with
  | nil=>intro acc;exact ab4 _
  | cons s ss ih=>intro acc;have h1:=ih (e9 acc s ((cQ tb s).getD (none,none)));have h2:=Hj acc s ((cQ tb s).getD (none,none));rw[agb,acB];lia
 have:=gen ss [];unfold c8;simpa using this
inductive XE(B C:ab6)(vs:List V)(H:Hp)(Q:VK)(E:XK):Prop
 | mk(x p a:ab6)(e t u d m:Int)(tb:Tb)(ys:List V)(ss:List P2)(_:vs=[.ref x,.ref a])(_:cf B H x e t u d m p tb)(_:c7 e t u d m)(_:ai K H a ys)(_:bR H ys ss)(_:ss.length<=100)(_:((∃ s∈ss,cQ tb s=none)->∀ H',ah H H'->E (.ref C) none H'))(_:((∀ s∈ss,cQ tb s≠none)->∀ x' p' H',ah H H'->H x'=none->H p'=none->cf B H' x' e t u d m p' (c8 tb ss)->Q (.ref x') H'))
def XF(B:ab6)(H:Hp)(x a x' p':ab6)(e t u d m:Int)(tb:Tb)(ss:List P2)(i:Nat)(σ:St)(H1:Hp):Prop:=∃ z,σ=[some (.ref x),some (.ref a),some (.ref x'),z]/\ah H H1/\cf B H1 x' e t u d m p' (c8 tb (ss.take i))/\∀ s∈ss.take i,cQ tb s≠none
theorem Cc(T:aB):cj 3 T.uo (XE T.aT T.oM):=by
 refine iN xi ?_;rintro c c c s H c c c hr ⟨x,p,a,e,t,u,d,m,tb,ys,ss,rfl,hb,az,hS,hP,hl,q0,q⟩;refine⟨_,(ar (aJ 2 xi.nd (lr T.BZ (B7 T) hr.m rfl T.Bo T.uk.b .nil gF (ae (bz rfl (aa 0) rfl) (ae (bz rfl (aa 0) rfl) (ae (bz rfl (aa 0) rfl) (ae (bz rfl (aa 0) rfl) (ae (bz rfl (aa 0) rfl) ag))))))) (ar (cU adV rfl (cE (aa 1)) (cv 3 xi.nd) (ar (dm (eV (aa 0) T.bF T.KJ (KQ T) hr.m T.xD.b .nil gF (ae (ao (aa 3) af) (ae (ao (aa 3) af) ag)))) (au (wB (dW hr) (bz rfl (aa 2) rfl) (aa 3) (qj (dW hr) (bz rfl (aa 0) rfl) (aa 3) (λc c=>rfl)) rfl)))) (au (aA (aa 2))))),?_⟩;obtain⟨⟨dx,hx⟩,kvs,hp,hT⟩:=id hb;have hlen:=hP.len;rfl';refine⟨_,_,_,hx,T.bF,T.xM,_,rfl,_,_,_,hx,T.bF,T.uv,_,rfl,_,_,_,hx,T.bF,T.BX,_,rfl,_,_,_,hx,T.bF,T.BY,_,rfl,_,_,_,hx,T.bF,T.xN,_,rfl,λx' Cd cB Ce cC=>?_⟩;refine⟨x',Cd,e,t,u,d,m,rfl,aq,λz=>absurd az z,λc p' H1 dX s1 X1 P1=>⟨rfl,?_⟩⟩;have M:=z8 (C:=T.aT) (fs:=[]) cB Ce cC;have S1:ah H H1:=λb o e=>s1 b o (λz=>by rw[z,cB] at e;cases e) (M _ _ e);have K1:H p'=none:=M.free dX;refine⟨⟨_,S1.seq hS⟩,gD (xs:=ys) (XF T.aT H x a x' p' e t u d m tb ss) ⟨_,rfl,S1,⟨⟨_,X1⟩,_,P1,trivial⟩,λs hs=>by simp at hs⟩ ?_ ?_ ?_⟩
 .rintro i σ H2 c ⟨c,c,s,c⟩;exact s.seq hS
 .rintro i y σ H2 hy ⟨z,rfl,s2,gV,hall⟩;obtain⟨s,es,hpt⟩:=hP.get hy;obtain⟨ad,rfl,had⟩:=id hpt;have et:ss.take (i+1)=ss.take i++[s]:=by rw[acR,es];rfl
  have hi:i<ss.length:=(ab0.mp es).1;rfl';have mI:=s2 _ _ hx;have dY:=s2 _ _ hp;have kf:=s2 _ _ had;have oV:=hT.imp λv a b z=>aO.same z s2;refine⟨_,_,mI,rfl,ay (aj.of kf) rfl (ay (aj.of kf) rfl ⟨x,p,e,t,u,d,m,s.1,s.2,kvs,rfl,⟨⟨_,mI⟩,dY⟩,λhv H3 s3=>?_,λv hv H3 s3=>?_⟩)⟩
  .refine q0 ⟨s,ace es,?_⟩ _ (s2.trans s3);cases hw:cQ tb s with
   | none=>rfl
   | some w =>
    obtain⟨v,h1,c⟩:=(oV.val s).2 w hw;rw[hv] at h1;cases h1
  .have S3:=s2.trans s3;obtain⟨⟨dx2,X2⟩,XG,P2,T2⟩:=gV.same s3;have hn:cQ tb s≠none:=λz=>by rw[(oV.val s).1 z] at hv;cases hv
   obtain⟨w,hw⟩:=aeU.mp hn;obtain⟨v',h1,iv⟩:=((hT.imp λv a b z=>aO.same z S3).val s).2 w hw;rw[hv] at h1;cases h1;have kl:=T2.len;have kk:=uC tb (ss.take i);rw[adC] at kk;refine⟨_,_,_,S3 _ _ hx,T.bF,T.ny,_,rfl,p,rfl,v,?_,?_⟩
   .rw[<- hv];exact eZ.t (k:=spot s.1 s.2) (S3 _ _ hp) (S3 _ _ had)
   refine⟨_,_,_,X2,T.bF,T.ny,_,rfl,p',rfl,_,mR.t (k:=spot s.1 s.2) P2 (S3 _ _ had) (acg (by lia:_<1000) (by decide)),?_⟩;have F:Fr H3 (upd H3 p' (.dT (putK XG (spot s.1 s.2) v))):=qr P2;refine⟨_,rfl,jK K1 S3,⟨⟨_,F _ _ (λc z=>nomatch z) X2⟩,_,aq,?_⟩,?_⟩
   .rw[et,K0,hw];exact bh.put (T2.imp λc c c z=>z.fr F) (iv.fr F)
   .rw[et];intro s' qk;rcases acw.mp qk with z|z
    .exact hall s' z
    .rw[acx.mp z];exact hn
 .rintro σ H2 ⟨z,rfl,s2,gV,hall⟩;rw[hlen,acU] at gV hall;exact q hall x' p' H2 s2 cB K1 gV
inductive XH(vs:List V)(H:Hp)(Q:VK)(aN:XK):Prop
 | mk(a:ab6)(xs:List V)(ss:List S2)(_:vs=[.ref a])(_:ai K H a xs)(_:lG H xs ss)(_:xs.length<=1000)(_:∀ v H',ah H H'->gY H' v (fQ (none,none) ss)->Q v H')
inductive XI(H:Hp)(a:ab6)(xs:List V)(ss:List S2)(i:Nat)(σ:St)(H1:Hp):Prop
 | mk(v:V)(e:Option V)(_:σ=[some (.ref a),some v,e])(_:ah H H1)(_:aO H1 v (bj (none,none) (ss.take i)).1 (bj (none,none) (ss.take i)).2)(_:ba (bj (none,none) (ss.take i)).1 (bj (none,none) (ss.take i)).2=false)
theorem Cf(T:aB):aP 3 T.Vt XH:=by
 refine bA t6 ?_;rintro z z z z H z z z hr ⟨a,xs,ss,rfl,hS,hP,hn,q⟩;refine⟨_,(ar (aJ 1 t6.nd (aM (ae bG (ae bG ag)))) (ar (cU acH rfl (cE (aa 0)) (cv 2 t6.nd) (ar (aJ 1 t6.nd (aK (B6 T) hr (ae (aa 1) (ae (aa 2) ag)))) (au (aH (ee (aa 1)) (au (aA bG)) aG)))) (au (aA (aa 1))))),?_⟩;have hA:=kN.mp hP;have hl:=hA.len;rfl';refine⟨aX,λp hp=>?_⟩;have s0:=ak (o:=.tup [.non,.non]) hp;refine⟨⟨_,s0.seq hS⟩,gD (xs:=xs) (XI H a xs ss) ⟨_,_,rfl,s0,⟨p,rfl,aq⟩,rfl⟩ ?_ ?_ ?_⟩
 .rintro i σ H1 z ⟨z,z,z,s1,z⟩;exact s1.seq hS
 .rintro i x σ H1 hx ⟨v,e,rfl,s1,hv,hc⟩;obtain⟨w,hw,r⟩:=hA.get hx;have e1:=RF (e:=(none,none)) hw;rfl';refine⟨v,x,_,_,w.1,w.2,rfl,hv,r.same s1,λy H2 s2 hm=>?_⟩;have lS:GF H2 y (bj (none,none) (ss.take (i+1))).1 (bj (none,none) (ss.take (i+1))).2:=by rw[e1];exact hm
  cases hk:ba (bj (none,none) (ss.take (i+1))).1 (bj (none,none) (ss.take (i+1))).2 with
  | true =>
   have ey:=lS.1 hk;subst ey;refine q _ _ (s1.trans s2) ?_;unfold fQ;rw[if_pos (RE hk)];rfl
  | false =>
   have hy:=lS.2 hk;obtain⟨t,rfl,ht⟩:=id hy;exact⟨_,_,rfl,s1.trans s2,hy,hk⟩
 .rintro σ H1 ⟨v,e,rfl,s1,hv,hc⟩;rw[hl,acU] at hv hc;refine q _ _ s1 ?_;unfold fQ;rw[if_neg (by rw[hc];simp)];exact hv
inductive XJ(B:ab6)(vs:List V)(H:Hp)(Q:VK)(aN:XK):Prop
 | mk(x p:ab6)(e t u d m i:Int)(k:Str)(kvs:List (List Key × V))(_:vs=[.ref x,.str k,.int i])(_:iu B H x e t u d m p kvs)(_:Q (.bl (hasB t k i)) H)
theorem XM(T:aB):aP 2 T.Vu (XJ T.aT):=by
 refine bA Jw ?_;rintro y y y y y y y y hr ⟨x,p,e,t,u,d,m,i,k,kvs,rfl,hb,q⟩;refine⟨_,(ar (aH (bq (aa 1) aQ) (au (aA (fk (eV (aa 0) T.bF T.uw (uz T) hr.m T.oT.b .nil bB (ae (aa 2) ag)) (ff (eV (aa 0) T.bF T.uw (uz T) hr.m T.oT.b .nil bB (ae (aD bb (aa 2) af) ag)))))) aG) (au (aA (fk (eG nI (aa 1) aQ (cI _)) (ff (eV (aa 0) T.bF T.uw (uz T) hr.m T.oT.b .nil bB (ae (aa 2) ag))))))),?_⟩;obtain⟨⟨dx,hx⟩,hp⟩:=id hb;unfold hasB at q;rfl'
 try refine⟨rfl,?_⟩
 by_cases hk:k = "step"
 .subst hk;rw[if_pos rfl] at q ⊢;refine⟨_,_,hx,rfl,x,p,e,t,u,d,m,i,kvs,rfl,hb,?_⟩;by_cases h1:0<=i/\i<t
  .rw[decide_eq_true h1] at q ⊢;refine⟨_,_,hx,rfl,x,p,e,t,u,d,m,_,kvs,rfl,hb,?_⟩;rw[ahe] at q;exact q
  .rw[decide_eq_false h1] at q ⊢;exact q
 .rw[if_neg hk] at q;rw[if_neg hk]
  try refine⟨rfl,?_⟩
  by_cases jn:k = "at"
  .subst jn;rw[decide_eq_true rfl,ahe] at q;rw[if_pos rfl];refine⟨_,_,hx,rfl,x,p,e,t,u,d,m,i,kvs,rfl,hb,?_⟩;exact q
  .rw[decide_eq_false jn,afD] at q;rw[if_neg λz=>jn (V.str.inj z)];exact q
inductive XN(B C:ab6)(vs:List V)(H:Hp)(Q:VK)(E:XK):Prop
 | mk(x p b:ab6)(e t u d m:Int)(kvs:List (List Key × V))(xs:List V)(ps:List Pa)(_:vs=[.ref x,.ref b])(_:iu B H x e t u d m p kvs)(_:ai K H b xs)(_:dw H xs ps)(_:(¬ c6 t ps->E (.ref C) none H))(_:(c6 t ps->Q .non H))
inductive XO(H:Hp)(x b:ab6)(t:Int)(ps:List Pa)(i:Nat)(σ:St)(H1:Hp):Prop
 | mk(e:Option V)(_:σ=[some (.ref x),some (.ref b),e])(_:H1=H)(_:c6 t (ps.take i))
theorem K2(T:aB):aP 3 T.Vv (XN T.aT T.fD):=by
 refine ig Bb ?_;rintro v v v v H v v v hr ⟨x,p,b,e,t,u,d,m,kvs,xs,ps,rfl,hb,hX,hP,q0,q⟩;refine⟨_,(au (cU adV rfl (cE (aa 1)) (cv 2 Bb.nd) (au (aH (bZ (b9 (aK (XM T) hr (ae (aa 0) (ae (ao (aa 2) af) (ae (ao (aa 2) af) ag)))))) (au (i5 i6 rfl T.xt T.xO rfl (ae aQ ag))) aG)))),?_⟩;have hl:=hP.len;rfl';refine⟨⟨_,hX⟩,gD (xs:=xs) (XO H x b t ps) ⟨_,rfl,rfl,λv h=>by simp at h⟩ ?_ ?_ ?_⟩
 .rintro i σ H1 v ⟨v,v,rfl,v⟩;exact hX
 .rintro i y σ H1 hy ⟨e1,rfl,rfl,hk⟩;obtain⟨pa,l8,ta,qa,rfl,h1,h2⟩:=hP.get hy;refine aI h1 (aI h1 ?_);refine⟨x,p,e,t,u,d,m,pa.2.1,pa.1,kvs,rfl,hb,?_⟩;cases hc:hasB t pa.1 pa.2.1 with
  | true =>
   refine⟨_,rfl,rfl,λz hz=>?_⟩;rw[acR,l8] at hz;rcases acw.mp hz with h|h
   .exact hk z h
   .have:z=pa:=by simpa using h
    rw[this];exact hc
  | false =>
   refine⟨by decide,q0 λz=>?_⟩;rw[z pa (ace l8)] at hc;cases hc
 .rintro σ H1 ⟨e1,rfl,rfl,hk⟩;rw[hl,acU] at hk;exact q hk
inductive XQ(vs:List V)(H:Hp)(Q:VK)(aN:XK):Prop
 | mk(b:ab6)(xs:List V)(ps:List Pa)(k:Str)(t:Int)(_:vs=[.ref b,.str k,.int t])(_:ai K H b xs)(_:dw H xs ps)(_:ps.length<=1000)(_:∀ l ys H',ah H H'->H l=none->H' l=some (.lst ys)->lG H' ys (sel ps k t)->Q (.ref l) H')
theorem K3(T:aB):aP 1 T.Vw XQ:=by
 refine bA Jx ?_;rintro z z z s H z Q z z ⟨b,xs,ps,k,t,rfl,hX,hP,hn,q⟩;refine⟨_,(au (aA (dg (cO [1,2] ["kind",dP]) rfl (cE (aa 0)) (λC s2 H2 ex pn=>⟨(jM (PW.pt (iW (bq (b0 (K:=K) (aa 0) af) (aa 1)) (jE (bq (b0 (K:=K) (aa 0) af) (aa 2)))))),(b0 (K:=K) (aa 0) af)⟩)))),?_⟩;have hl:=hP.len;rfl';refine⟨⟨_,hX⟩,cJ i8 (ab3 (by lia:xs.length<=1000) (by decide)) (qt (R:=λx p=>je H x p) (R':=λy (s:S2)=>aO H y s.1 s.2) (p:=kO k t) (f:=λp=>p.2.2) hX hP (λx p r Q h=>?_) (λx p z r Q h=>?_) λzs hz=>?_)⟩
 .obtain⟨tt,u,rfl,ht,hu⟩:=r;unfold kO at h;rfl';refine aI ht ?_;rfl'
  try refine⟨rfl,?_⟩
  by_cases hk:p.1=k
  .rw[decide_eq_true hk,ahe] at h;rw[if_pos (by rw[hk])];refine aI ht ?_;exact AY (Q:=λk=>Q k H) h
  .rw[decide_eq_false hk,afD] at h;rw[if_neg hk];exact h
 .obtain⟨tt,u,rfl,ht,hu⟩:=r;exact ay (aj.of ht) rfl (h _ ⟨u,rfl,hu⟩)
 .rw[aci];intro l a7;exact q l zs _ (ak a7) a7 aq (kN.mpr (hz.imp λz z r=>r.same (ak a7)))
noncomputable def dF(u d:Int)(ps:List Pa)(n:Nat):List W2:=(ab2 n).map λ(k:Nat)=>fQ (none,none) ((some (-d),some u)::sel ps "step" (k:Int))
inductive XR(B C:ab6)(vs:List V)(H:Hp)(Q:VK)(E:XK):Prop
 | mk(x p b:ab6)(e t u d m:Int)(kvs:List (List Key × V))(xs:List V)(ps:List Pa)(_:vs=[.ref x,.ref b])(_:iu B H x e t u d m p kvs)(_:1<=t)(_:t<=12)(_:ai K H b xs)(_:dw H xs ps)(_:ps.length<=900)(_:(¬ c6 t ps->E (.ref C) none H))(_:(c6 t ps->∀ l ys H',ah H H'->H l=none->H' l=some (.lst ys)->ax (gY H') ys (dF u d ps (t-1).toNat)->Q (.ref l) H'))
theorem XS(T:aB):aP 4 T.Vx (XR T.aT T.fD):=by
 refine ig Bc ?_;rintro y y y s H y Q y hr ⟨x,p,b,e,t,u,d,m,kvs,xs,ps,rfl,hb,t1,t2,hX,hP,hn,q0,q⟩;refine⟨_,(ar (dm (dO (K2 T) hr (ae (aa 0) (ae (aa 1) ag)))) (ar (aJ 2 Bc.nd (cn (ae (aM (ae (iD iM (bz rfl (aa 0) rfl)) (ae (bz rfl (aa 0) rfl) ag))) ag))) (au (aA (dg (cO [2,1] ["own",gQ]) rfl (iB rfl T.eh (ae (aD bW (bz rfl (aa 0) rfl) af) ag)) (λC s2 H2 ex pn=>⟨df,(aK (Cf T) hr (ae (aD mF (aa 1) (aK (K3 T) hr (ae (aa 2) (ae aQ (ae (aa 0) ag))))) ag))⟩)))))),?_⟩;obtain⟨⟨dx,hx⟩,hp⟩:=id hb;refine⟨x,p,b,e,t,u,d,m,kvs,xs,ps,rfl,hb,hX,hP,q0,λhk=>?_⟩;rfl';refine⟨_,_,_,hx,T.bF,T.BY,_,rfl,_,_,_,hx,T.bF,T.BX,_,rfl,aX,λo ho=>⟨by decide,λl hl=>?_⟩⟩;have s1:=(ak (o:=.tup [.int (-d),.int u]) ho).trans (ak (o:=.lst [.ref o]) hl);have O1:aO (upd (upd H o (.tup [.int (-d),.int u])) l (.lst [.ref o])) (.ref o) (some (-d)) (some u):=⟨o,rfl,(ak hl) _ _ aq⟩
 have L1:(upd (upd H o (.tup [.int (-d),.int u])) l (.lst [.ref o])) l=some (.lst [.ref o]):=aq;generalize upd (upd H o (.tup [.int (-d),.int u])) l (.lst [.ref o])=H1 at s1 O1 L1 ⊢;refine⟨_,_,_,s1 _ _ hx,T.bF,T.uv,_,rfl,by lia,by lia,?_⟩;refine cJ gW (by rw[abT,ab5];exact ab3 (by lia:_<=12) (by decide)) (gJ (R:=λ_ x (k:Nat)=>x=V.int ((0:Int)+k)) (R':=gY) (f:=λ(k:Nat)=>fQ (none,none) ((some (-d),some u)::sel ps "step" (k:Int))) (λy y y y y h=>h) (λy y y y s' h=>h.same s') (ax.fI _) (bs:=[]) trivial (λy y=>trivial) (λx k y H2 s2 r Q h=>?_) (λx k y H2 s2 r Q h=>?_) λH2 zs s2 hz=>?_)
 .exact h
 .subst r;have S2:=s1.trans s2;refine⟨b,xs,ps,"step",_,rfl,S2.seq hX,hP.same S2,by lia,λr ys H3 s3 y R3 hR=>?_⟩;rw[agw] at hR;rfl';have hlen:ys.length<=900:=by
   have:=(kN.mp hR).len;have h2:(sel ps "step" (k:Int)).length<=ps.length:=by unfold sel;rw[abT];exact acE _ _
   lia
  refine⟨[.ref o],s3 _ _ (s2 _ _ L1),ys,R3,ab3 (by show 1+ys.length<=1000;lia) (by decide),λc hc=>?_⟩;have s4:=ak (o:=.lst ([.ref o]++ys)) hc;refine⟨c,_,(some (-d),some u)::sel ps "step" (k:Int),rfl,ai.of aq,⟨(O1.same (s2.trans s3)).same s4,?_⟩,by rw[acj,acA];lia,λv H5 s5 hv=>h _ _ ((s3.trans s4).trans s5) hv⟩;exact kN.mpr ((kN.mp hR).imp λy y r=>r.same s4)
 .intro c hc;refine q hk c zs _ ((s1.trans s2).trans (ak hc)) ((s1.trans s2).free hc) aq ?_;rw[aci] at hz;exact hz.imp λy y r=>r.same (ak hc)
noncomputable def eQ(ps:List Pa)(n:Nat):List W2:=(ab2 n).map λ(k:Nat)=>fQ (none,none) (sel ps "at" (k:Int))
inductive XT(B C:ab6)(vs:List V)(H:Hp)(Q:VK)(E:XK):Prop
 | mk(x p b:ab6)(e t u d m:Int)(kvs:List (List Key × V))(xs:List V)(ps:List Pa)(_:vs=[.ref x,.ref b])(_:iu B H x e t u d m p kvs)(_:1<=t)(_:t<=12)(_:ai K H b xs)(_:dw H xs ps)(_:ps.length<=900)(_:(¬ c6 t ps->E (.ref C) none H))(_:(c6 t ps->∀ l ys H',ah H H'->H l=none->H' l=some (.lst ys)->ax (gY H') ys (eQ ps t.toNat)->Q (.ref l) H'))
theorem XU(T:aB):aP 4 T.Vy (XT T.aT T.fD):=by
 refine ig Jy ?_;rintro y y y s y y Q y hr ⟨x,p,b,e,t,u,d,m,kvs,xs,ps,rfl,hb,t1,t2,hX,hP,hn,q0,q⟩;refine⟨_,(ar (dm (dO (K2 T) hr (ae (aa 0) (ae (aa 1) ag)))) (au (aA (dg (cO [1] [gQ]) rfl (iB rfl T.eh (ae (bz rfl (aa 0) rfl) ag)) (λC s2 H2 ex pn=>⟨df,(aK (Cf T) hr (ae (aK (K3 T) hr (ae (aa 1) (ae aQ (ae (aa 0) ag)))) ag))⟩))))),?_⟩;obtain⟨⟨dx,hx⟩,hp⟩:=id hb;refine⟨x,p,b,e,t,u,d,m,kvs,xs,ps,rfl,hb,hX,hP,q0,λhk=>?_⟩;rfl';refine⟨_,_,_,hx,T.bF,T.uv,_,rfl,_,rfl,by lia,by lia,?_⟩;refine cJ gW (by rw[abT,ab5];exact ab3 (by lia:_<=12) (by decide)) (gJ (R:=λ_ x (k:Nat)=>x=V.int ((0:Int)+k)) (R':=gY) (f:=λ(k:Nat)=>fQ (none,none) (sel ps "at" (k:Int))) (λy y y y y h=>h) (λy y y y s' h=>h.same s') (ax.fI _) (bs:=[]) trivial (λy y=>trivial) (λx k y H2 s2 r Q h=>?_) (λx k y H2 s2 r Q h=>?_) λH2 zs s2 hz=>?_)
 .exact h
 .subst r;rfl';refine⟨b,xs,ps,"at",_,rfl,s2.seq hX,hP.same s2,by lia,λr ys H3 s3 y R3 hR=>?_⟩;rw[agw] at hR;have hlen:ys.length<=900:=by
   have:=(kN.mp hR).len;have h2:(sel ps "at" (k:Int)).length<=ps.length:=by unfold sel;rw[abT];exact acE _ _
   lia
  exact⟨r,ys,_,rfl,ai.of R3,hR,by lia,λv H5 s5 hv=>h _ _ (s3.trans s5) hv⟩
 .intro c hc;refine q hk c zs _ (s2.trans (ak hc)) (s2.free hc) aq ?_;rw[aci] at hz;exact hz.imp λy y r=>r.same (ak hc)
inductive XW(vs:List V)(H:Hp)(Q:VK)(aN:XK):Prop
 | mk(v:V)(c:S2)(_:vs=[v])(_:tG H v c)(_:Q (.int (lO c)) H)
theorem K4(T:aB):aP 1 T.VC XW:=by
 refine bA JX ?_;rintro z z z z z z z z z ⟨v,⟨e1,e2⟩,rfl,⟨p,rfl,hp⟩,q⟩;refine⟨_,(ar (aH (ie (ao (aa 0) af)) (au (aA (ao (aa 0) af))) aG) (ar (aH (ie (ao (aa 0) af)) (au (aA (ao (aa 0) af))) aG) (au (aA af)))),?_⟩;refine aI hp ?_;rcases e1 with z|x
 .refine aI hp ?_;rcases e2 with z|y
  .exact q
  .exact ay (aj.of hp) rfl q
 .exact ay (aj.of hp) rfl q
theorem XX{tb:Tb}{s:P2}{w:S2}(h:s∉tb.map (·.1)):e9 tb s w=tb++[(s,w)]:=by unfold e9;rw[if_neg];intro z;obtain⟨r,hr,e⟩:=acM.mp z;exact h (ab7.mpr ⟨r,hr,by simpa using e⟩)
theorem XY{α β:Type}{f:α->β}{l:List α}{i:Nat}{a:α}(h:(l.map f).Nodup)(ha:l[i]?=some a):f a∉(l.take i).map f:=by
 have hi:=(ab0.mp ha).1;have e:l=l.take i++a::l.drop (i+1):=by have:=aee i l;rw[acQ hi] at this;rw[abW hi] at ha;cases ha;exact this.symm
 intro hm;have h2:((l.take i).map f++f a::(l.drop (i+1)).map f).Nodup:=by rw[<- acs,<- adA,<- e];exact h
 exact (agY.mp h2).2.2 _ hm _ (.head _) rfl
def XZ(B:ab6)(H3:Hp)(v:V)(x p:ab6)(e t u d m:Int)(tb:Tb)(i:Nat)(σ:St)(H4:Hp):Prop:=(∃ e1,σ=[some v,some (.ref x),e1])/\lJ [p] H3 H4/\cf B H4 x e t u d m p (tb.take i)
inductive X4(B:ab6)(vs:List V)(H:Hp)(Q:VK)(aN:XK):Prop
 | mk(v:V)(w:ab6)(e t u d m:Int)(tb:Tb)(_:vs=[v])(_:dE H v w e t u d m tb)(_:c7 e t u d m)(_:bK e t tb)(_:tb.length<=60)(_:(∀ r∈tb,ba r.2.1 r.2.2=false))(_:∀ (x p:ab6) (H':Hp),ah H H'->H x=none->H p=none->cf B H' x e t u d m p tb->Q (.ref x) H')
theorem X5(T:aB):aP 4 T.V0 (X4 T.aT):=by
 refine bA xj ?_;rintro n n n n H n n n hr ⟨n,w,e,t,u,d,m,tb,rfl,⟨wr,rfl,hwr,hT⟩,bH,az,b6,el,q⟩;refine⟨_,(ar (aJ 1 xj.nd (lr T.BZ (B7 T) hr.m rfl T.Bo T.uk.b .nil bB (ae (ao (aa 0) af) (ae (ao (aa 0) af) (ae (ao (aa 0) af) (ae (ao (aa 0) af) (ae (ao (aa 0) af) ag))))))) (ar (HL (cU acH rfl (HM (ao (aa 0) af)) (cv 2 xj.nd) (au (dm (eV (aa 1) T.bF T.WM (Xd T) hr.m T.BK.b .nil bB (ae (ao (aa 2) af) (ae (ao (aa 2) af) (ae (ao (qj (dW hr) (ao (aa 0) af) (aa 2) (λn n=>rfl)) af) (ae (ao (qj (dW hr) (ao (aa 0) af) (aa 2) (λn n=>rfl)) af) ag))))))))) (au (aA (aa 1))))),?_⟩;obtain⟨kvs,hk,hA⟩:=id hT;refine aC (λσ H1=>∃ x p,σ=[some (.ref wr),some (.ref x),none]/\ah H H1/\H x=none/\H p=none/\cf T.aT H1 x e t u d m p []) (λN hN=>?_) ?_
 .refine ay (aj.of hwr) (v:=.int e) rfl (ay (aj.of hwr) (v:=.int t) rfl (ay (aj.of hwr) (v:=.int u) rfl (ay (aj.of hwr) (v:=.int d) rfl (ay (aj.of hwr) (v:=.int m) rfl λx dx hx iT cC=>?_))));refine⟨x,dx,e,t,u,d,m,rfl,aq,λz=>absurd bH z,λn p H1 hp s1 X1 P1=>⟨rfl,?_⟩⟩;have M:=z8 (C:=T.aT) (fs:=[]) hx iT cC;have S1:ah H H1:=λb o e=>s1 b o (λz=>by rw[z,hx] at e;cases e) (M _ _ e);exact hN _ _ ⟨x,p,rfl,S1,hx,M.free hp,⟨⟨_,X1⟩,[],P1,trivial⟩⟩
 rintro n yR σ H1 ⟨x,p,rfl,s1,fx,fp,hB⟩;subst yR;have ix:=s1 _ _ hk;have wp:w≠p:=λz=>by rw[z,fp] at hk;cases hk
 refine aC (λσ H2=>(∃ e1,σ=[some (.ref wr),some (.ref x),e1])/\ah H H2/\cf T.aT H2 x e t u d m p tb) (λN hN=>?_) ?_
 .rfl';refine⟨w,kvs,ix,λo=>?_⟩;obtain⟨⟨dx,kG⟩,kp,fF,X6⟩:=id hB;have xw:x≠w:=λz=>by rw[z,ix] at kG;cases kG
  have nz:=AB ix (s1 _ _ hwr) (u:=.aW o (.dT kvs));have w3:upd H1 w (.aW o (.dT kvs)) w=some (.aW o (.dT kvs)):=aq;have p3:upd H1 w (.aW o (.dT kvs)) p=some (.dT kp):=by rw[aF (acY wp)];exact fF
  have oW:cf T.aT (upd H1 w (.aW o (.dT kvs))) x e t u d m p []:=⟨⟨dx,by rw[aF xw];exact kG⟩,kp,p3,X6.imp λn n n z=>z.aW ix⟩
  have oX:=bh.aW (hA.imp λn n n z=>aO.same z s1) ix (u:=.aW o (.dT kvs));have uD:∀ H4,lJ [p] (upd H1 w (.aW o (.dT kvs))) H4->ah H (upd H4 w (.dT kvs)):=λH4 bu b u hb=>by
   by_cases hbw:b=w
   .subst hbw;rw[aq];rw[hk] at hb;exact hb
   .rw[aF hbw];exact bu b u (by simpa using λz=>by rw[z,fp] at hb;cases hb) (by rw[aF hbw];exact s1 _ _ hb)
  refine ay (aj.of nz) (v:=.ref w) rfl ⟨w,rfl,o,kvs,w3,λjx=>?_⟩;have PT:=oX.qq jx;have kl:=PT.len;rw[abT] at kl;generalize upd H1 w (.aW o (.dT kvs))=H3 at nz w3 p3 oW oX uD PT;have np:∀ (z:ab6) (us:List V),H3 z=some (.tup us)->z∉[p]:=λz us hz=>by simpa using λy=>by rw[y,p3] at hz;cases hz
  refine Sm (xs:=iJ o) (XZ T.aT H3 (.ref wr) x p e t u d m tb) rfl (by rw[kl,hA.len]) ⟨⟨_,rfl⟩,λn n n z=>z,oW⟩ ?_ ?_ ?_
  .rintro i σ H4 n ⟨n,bu,n⟩;exact bu w _ (by simpa using wp) w3
  .rintro i v σ H4 hv ⟨⟨e1,rfl⟩,bu,xR⟩;obtain⟨r1,dk,ka,rfl,hka⟩:=PT.get hv;rw[aca] at dk;obtain⟨r,hr,rfl⟩:=acC.mp dk;have nA:=ace hr;obtain⟨⟨xS,oY⟩,kq,uE,xT⟩:=id xR;obtain⟨vv,hvv,va,rfl,hva⟩:=(oX.val r.1).2 _ (jd az.1 nA);have Cg:=bu ka _ (np _ _ hka) hka;have K5:=bu wr _ (np _ _ nz) nz;have w4:=bu w _ (by simpa using wp) w3;have K6:=bu va _ (np _ _ hva) hva;have gt:eZ H4 w (.ref ka) (some (.ref va)):=by rw[<- hvv];exact eZ.z (k:=spot r.1.1 r.1.2) w4 Cg
   rfl';refine⟨_,_,oY,rfl,ay (aj.of Cg) (v:=.int r.1.1) rfl (ay (aj.of Cg) (v:=.int r.1.2) rfl (ay (aj.of K5) (v:=.ref w) rfl ⟨w,rfl,.ref va,gt,ay (aj.of K6) rfl (ay (aj.of K5) (v:=.ref w) rfl ⟨w,rfl,.ref va,gt,aI K6 ?_⟩)⟩))⟩;have X7:=az.2 r nA;have X9:=xT.len;rw[adC] at X9;have xp:x≠p:=λz=>by rw[z,uE] at oY;cases oY
   refine⟨x,p,e,t,u,d,m,r.1.1,r.1.2,r.2.1,r.2.2,kq,rfl,⟨⟨xS,oY⟩,uE⟩,by lia,λz=>absurd ⟨X7,el r nA⟩ z,λn v9 H9 sb Ci xU=>⟨⟨_,rfl⟩,λc o hc ec=>sb c o (by simpa using hc) (bu c o hc ec),?_⟩⟩;have ek:tb.take (i+1)=e9 (tb.take i) r.1 r.2:=by rw[XX (XY az.1 hr),acR,hr];rfl
   rw[ek];exact⟨⟨xS,sb x _ xp oY⟩,_,Ci,bh.put (xT.imp λv a b z=>z.fr (SameBut.fr sb uE)) xU⟩
  .rintro σ H4 ⟨⟨e1,rfl⟩,bu,xR⟩;rw[kl,acU] at xR;have w4:=bu w _ (by simpa using wp) w3;obtain⟨⟨xS,oY⟩,kq,uE,xT⟩:=xR;refine⟨w4,hN _ _ ⟨⟨_,rfl⟩,uD _ bu,⟨xS,by rw[aF xw];exact oY⟩,kq,by rw[aF (acY wp)];exact uE,xT.imp λv a b ⟨pt,e,h⟩=>⟨pt,e,?_⟩⟩⟩;rw[aF (λz=>by rw[z,w4] at h;cases h)];exact h
 rintro n yR σ H2 ⟨⟨e1,rfl⟩,s2,Cj⟩;subst yR;exact q x p H2 s2 fx fp Cj
def Ck(tb:Tb)(cs:List Int)(i:Int):Prop:=∃ r∈tb,r.1.1=i/\hs r.2 (fz cs r.1.2.toNat)=false
inductive Ya(vs:List V)(H:Hp)(Q:VK)(aN:XK):Prop
 | mk(v:V)(w c:ab6)(e t u d m:Int)(tb:Tb)(cs:List Int)(_:vs=[v,.ref c])(_:dE H v w e t u d m tb)(_:bK e t tb)(_:tb.length<=60)(_:ai K H c (cs.map V.int))(_:cs.length=t.toNat)(_:∀ (zs:List Int) (H':Hp),ah H H'->zs.Nodup->(∀ i,i∈zs↔Ck tb cs i)->Q (.int zs.length) H')
theorem Yb(T:aB):aP 2 T.V3 Ya:=by
 refine bA Kn ?_;rintro y y y y H y Q y hr ⟨y,w,c,e,t,u,d,m,tb,cs,rfl,⟨wr,rfl,hwr,hT⟩,az,b6,hc,br,q⟩;refine⟨_,(au (HL (aA (Vd rfl (dg (cO [1,0] [ik,bY]) rfl (HM (ao (aa 0) af)) (λC s2 H2 ex pn=>⟨(jM (bZ (b9 (aK (xQ T) hr (ae (Hh (dW hr) (b0 (K:=K) (aa 2) af) (aa 0) (λy y=>rfl)) (ae (b0 (K:=K) (aa 1) (b0 (K:=K) (aa 0) af)) ag)))))),(b0 (K:=K) (aa 0) af)⟩)) T.cH T.Kv)))),?_⟩;obtain⟨kvs,hk,hA⟩:=id hT;rfl';refine⟨w,kvs,hk,λo=>?_⟩;have nz:=AB hk hwr (u:=.aW o (.dT kvs));have w3:upd H w (.aW o (.dT kvs)) w=some (.aW o (.dT kvs)):=aq;have oX:=hA.aW hk (u:=.aW o (.dT kvs));have uF:ai K (upd H w (.aW o (.dT kvs))) c (cs.map V.int):=Ss hk hc;have uD:∀ H4,ah (upd H w (.aW o (.dT kvs))) H4->ah H (upd H4 w (.dT kvs)):=λH4 s4=>Sq hk s4;refine ay (aj.of nz) (v:=.ref w) rfl ⟨w,rfl,o,kvs,w3,λjx=>?_⟩;have PT:=oX.qq jx;have kl:=PT.len;rw[abT] at kl;generalize upd H w (.aW o (.dT kvs))=H3 at nz w3 oX uF uD PT;have P0:ax (λv (r:P2 × S2)=>cV H3 v r.1) (iJ o) tb:=ax.bind PT;refine cJ (So (xs:=iJ o) rfl (by rw[kl,hA.len])) (ab3 (by lia:(iJ o).length<=64) (by decide)) (mP (R:=λv (r:P2 × S2)=>cV H3 v r.1) (p:=λr=>!hs r.2 (fz cs r.1.2.toNat)) (f:=λr=>.int r.1.1) w3 P0 (λv r hr rv Q h=>?_) (λv r hr hp rv Q h=>?_) ?_)
 .obtain⟨ka,rfl,hka⟩:=rv;obtain⟨⟨b1,b2⟩,b3,b4⟩:=az.2 r hr;obtain⟨vv,hvv,va,rfl,hva⟩:=(oX.val r.1).2 _ (jd az.1 hr);rfl';refine ay (aj.of nz) (v:=.ref w) rfl ⟨w,rfl,.ref va,by rw[<- hvv];exact eZ.z (k:=spot r.1.1 r.1.2) w3 hka,ay (aj.of hka) (v:=.int r.1.2) rfl (bJ uF ((congrArg (de _) (show r.1.2=((r.1.2.toNat:Nat):Int) by lia)).trans (dq (Su (by lia)))) ⟨va,r.2.1,r.2.2,fz cs r.1.2.toNat,rfl,aj.of hva,?_⟩)⟩;exact h
 .obtain⟨ka,rfl,hka⟩:=rv;exact ay (aj.of hka) (v:=.int r.1.1) rfl h
 .rw[aci,show ((tb.filter λr=>!hs r.2 (fz cs r.1.2.toNat)).map λr=>V.int r.1.1)=((tb.filter λr=>!hs r.2 (fz cs r.1.2.toNat)).map λr=>r.1.1).map V.int by rw[ac1];rfl];intro l hl;have u:=ak (o:=.lst (((tb.filter λr=>!hs r.2 (fz cs r.1.2.toNat)).map λr=>r.1.1).map V.int)) hl;have fl:=acE (λr:P2 × S2=>!hs r.2 (fz cs r.1.2.toNat)) tb;refine⟨l,rfl,_,ai.of aq,by rw[abT];lia,λzs hz hm=>⟨u _ _ w3,q zs _ (uD _ u) hz λi=>?_⟩⟩;rw[hm,ab7];constructor
  .rintro ⟨r,hr,e⟩;obtain⟨h1,h2⟩:=acv.mp hr;exact⟨r,h1,e,by simpa using h2⟩
  .rintro ⟨r,hr,e,h⟩;exact⟨r,acv.mpr ⟨hr,by simpa using h⟩,e⟩
theorem Yc{ps:List Pa}{i:Nat}{p:Pa}{k:Str}{t:Int}(h:ps[i]?=some p):sel (ps.take (i+1)) k t=sel (ps.take i) k t++(if kO k t p=true then [p.2.2] else []):=by
 unfold sel;rw[acR,h,List.filter_append,adA]
 congr 1
 simp only[aiv,acF,List.filter_nil];split<;>rfl
theorem Yd(e:S2)(ss:List S2)(s:S2):bj e (ss++[s])=(dN (bj e ss).1 s.1,eN (bj e ss).2 s.2):=by unfold bj;rw[afA];rfl
inductive Ye(vs:List V)(H:Hp)(Q:VK)(aN:XK):Prop
 | mk(bg b:ab6)(lo hi:En)(xs:List V)(ps:List Pa)(k:Str)(t:Int)(_:vs=[.ref bg,.ref b,.str k,.int t])(_:aj K H bg [ev lo,ev hi])(_:ai K H b xs)(_:dw H xs ps)(_:ps.length<=1000)(_:∀ v H',ah H H'->aO H' v (bj (lo,hi) (sel ps k t)).1 (bj (lo,hi) (sel ps k t)).2->Q v H')
inductive uG(H:Hp)(bg b:ab6)(lo hi:En)(ps:List Pa)(k:Str)(t:Int)(i:Nat)(σ:St)(H1:Hp):Prop
 | mk(e1:Option V)(_:σ=[some (.ref bg),some (.ref b),some (.str k),some (.int t),some (ev (bj (lo,hi) (sel (ps.take i) k t)).1),some (ev (bj (lo,hi) (sel (ps.take i) k t)).2),e1])(_:H1=H)
theorem K7(T:aB):aP 1 T.V5 Ye:=by
 refine bA oJ ?_;rintro u u u u H u u u u ⟨bg,b,lo,hi,xs,ps,k,t,rfl,hg,hX,hP,hn,q⟩;refine⟨_,(ar (aJ 4 oJ.nd (ao (aa 0) af)) (ar (aJ 5 oJ.nd (ao (aa 0) af)) (ar (cU acH rfl (cE (aa 1)) (cv 6 oJ.nd) (au (aH (PW.pt (iW (bq (ao (aa 6) af) (aa 2)) (jE (bq (ao (aa 6) af) (aa 3))))) (ar (aH (PW.pt (cD (ee (aa 4)) (eS (PW.pt (iW (ie (ao (ao (aa 6) af) af)) (jE (tW (ao (ao (aa 6) af) af) (aa 4)))))))) (au (aJ 4 oJ.nd (ao (ao (aa 6) af) af))) aG) (au (aH (PW.pt (cD (ee (aa 5)) (eS (PW.pt (iW (ie (ao (ao (aa 6) af) af)) (jE (j4 (ao (ao (aa 6) af) af) (aa 5)))))))) (au (aJ 5 oJ.nd (ao (ao (aa 6) af) af))) aG))) aG))) (au (aA (aM (ae (aa 4) (ae (aa 5) ag)))))))),?_⟩;have hl:=hP.len;refine aC (λσ H1=>σ=[some (.ref bg),some (.ref b),some (.str k),some (.int t),some (ev lo),none,none]/\H1=H) (λN hN=>?_) ?_
 .exact ay hg rfl (hN _ _ ⟨rfl,rfl⟩)
 rintro u yR σ H1 ⟨rfl,rfl⟩;subst yR;refine aC (uG H1 bg b lo hi ps k t 0) (λN hN=>?_) ?_
 .exact ay hg rfl (hN _ _ ⟨_,rfl,rfl⟩)
 rintro u yR σ H ⟨e1,rfl,rfl⟩;subst yR;refine aC (uG H bg b lo hi ps k t xs.length) (λN hN=>?_) ?_
 .rfl';refine⟨⟨_,hX⟩,gD (xs:=xs) (uG H bg b lo hi ps k t) ⟨_,rfl,rfl⟩ ?_ ?_ ?_⟩
  .rintro i σ H1 u ⟨u,u,rfl⟩;exact hX
  .rintro i x σ H1 hx ⟨e1,rfl,rfl⟩;obtain⟨p,hp,tp,sp,rfl,h1,h2⟩:=hP.get hx;have es:=Yc (k:=k) (t:=t) hp;have skip:kO k t p=false->uG H1 bg b lo hi ps k t (i+1) [some (.ref bg),some (.ref b),some (.str k),some (.int t),some (ev (bj (lo,hi) (sel (ps.take i) k t)).1),some (ev (bj (lo,hi) (sel (ps.take i) k t)).2),some (.ref tp)] H1:=λhz=>⟨_,by rw[es,hz,if_neg acq,ajh],rfl⟩
   show rM _ (ve _ _) _ _ _ _;refine Jt λB hB=>?_;rfl';refine ay (aj.of h1) (v:=.str p.1) rfl ?_;rfl';by_cases hk:p.1=k
   .rw[if_pos (by rw[hk])];refine ay (aj.of h1) (v:=.int p.2.1) rfl ?_;rfl';refine aU (λht=>?_) λht=>?_
    .have hz:kO k t p=true:=by unfold kO;rw[decide_eq_true hk,decide_eq_true ht];rfl
     rw[hz,if_pos rfl] at es;have fin:uG H1 bg b lo hi ps k t (i+1) [some (.ref bg),some (.ref b),some (.str k),some (.int t),some (ev (dN (bj (lo,hi) (sel (ps.take i) k t)).1 p.2.2.1)),some (ev (eN (bj (lo,hi) (sel (ps.take i) k t)).2 p.2.2.2)),some (.ref tp)] H1:=⟨_,by rw[es,Yd],rfl⟩
     generalize (bj (lo,hi) (sel (ps.take i) k t)).1=x at fin ⊢;generalize (bj (lo,hi) (sel (ps.take i) k t)).2=y at fin ⊢;obtain⟨pk,pt,pa,pc⟩:=p;dsimp only at fin h1 h2;clear skip es hz hk ht hX hP hx hp hn hl q hN;subst hB;refine aC (λσ H2=>σ=[some (.ref bg),some (.ref b),some (.str k),some (.int t),some (ev (dN x pa)),some (ev y),some (.ref tp)]/\H2=H1) (λN hN=>?_) ?_
     .clear fin;rcases pa with u|pa<;>rcases x with u|x
      all_goals repeat' first
       | exact hN _ _ ⟨rfl,rfl⟩
       | refine aI h2 ?_
       | refine ay (aj.of h1) (v:=.ref sp) rfl ?_
       | (walk_at "p")
       | (refine aU (λhc=>?_) λhc=>?_)
      all_goals (refine hN _ _ ⟨?_,rfl⟩;simp only[dN];first|(rw[if_pos (by lia)];rfl)|(rw[if_neg (by lia)];rfl))
     rintro u yR σ H2 ⟨rfl,rfl⟩;subst yR;generalize ev (dN x pa)=z at fin ⊢;rcases pc with u|pc<;>rcases y with u|y
     all_goals repeat' first
      | exact fin
      | refine aI h2 ?_
      | refine ay (aj.of h1) (v:=.ref sp) rfl ?_
      | (walk_at "p")
      | (refine aU (λhc=>?_) λhc=>?_)
     all_goals (simp only[eN] at fin;repeat' split at fin)
     all_goals first|exact fin|(exfalso;lia)
    .refine skip ?_;unfold kO;rw[decide_eq_false ht,ah2]
   .rw[if_neg hk];refine skip ?_;unfold kO;rw[decide_eq_false hk,afD]
  .rintro σ H1 h;exact hN _ _ h
 rintro u yR σ H1 ⟨e1,rfl,rfl⟩;subst yR;rw[hl,acU];rfl';exact⟨aX,λp hp=>q _ _ (ak hp) ⟨p,rfl,aq⟩⟩
inductive Yf(B:ab6)(vs:List V)(H:Hp)(Q:VK)(aN:XK):Prop
 | mk(x p:ab6)(e t u d m i:Int)(tb:Tb)(_:vs=[.ref x,.int i])(_:cf B H x e t u d m p tb)(_:(tb.map (·.1)).Nodup)(_:tb.length<64)(_:(∀ r∈tb,0<=r.1.2))(_:∀ l ys H',ah H H'->H l=none->H' l=some (.lst ys)->ax (fq H') ys (mU tb i)->Q (.ref l) H')
theorem Yg(T:aB):aP 2 T.VN (Yf T.aT):=by
 refine bA J1 ?_;rintro y y y s H y Q y hr ⟨x,p,e,t,u,d,m,i,tb,rfl,hb,cC,fP,h0,q⟩;refine⟨_,(au (aA (zA (g:=ky K 3 (cX (cA 0) (cX (cA 1) (cX (cA 2) jF)))) (jN.mk (own:=["teller","turn","word"]) (fr:=[1]) (ys:=["eye"]) rfl (by decide +kernel) rfl (by decide +kernel) rfl (.cons rfl .nil) (.cons rfl rfl rfl rfl .nil) rfl) rfl (cE (nN (aa 0) T.bF T.B0 (Cb T) hr.m T.um.b .nil bB)) (λC s2 H2 ex pn=>kz (n:=3) rfl (dI (gB (i:=0) (show (["teller","turn","word","eye"]:List Str).Nodup by decide) rfl (.inl (ach rfl)) (.inr (ach rfl))) (dI (gB (i:=1) (show (["teller","turn","word","eye"]:List Str).Nodup by decide) rfl (.inl (ach rfl)) (.inr (ach rfl))) (dI (gB (i:=2) (show (["teller","turn","word","eye"]:List Str).Nodup by decide) rfl (.inl (ach rfl)) (.inr (ach rfl))) kx)))) (λC s2 H2 ex pn=>⟨(jM (bq (aa 0) (aa 3))),(aM (ae (aa 1) (ae (aa 2) ag)))⟩)))),?_⟩;obtain⟨⟨dx,hx⟩,htb⟩:=id hb;rfl';refine⟨_,_,hx,rfl,x,p,e,t,u,d,m,tb,rfl,hb,cC,fP,λl xs H1 s1 y hl hT=>?_⟩;have tl:=hT.len;rw[mS] at tl;refine⟨l,rfl,⟨_,ai.of hl⟩,Au (row:=rowOf H1) (ab3 (by lia:xs.length<=64) (by decide)) (qz (R:=λ_ x (r:P2 × S2)=>jV H1 x r) (R':=fq) (p:=λr=>decide (r.1.1=i)) (f:=λr=>(r.1.2.toNat,r.2)) (λy y y y y h=>h) (λy y y y s' h=>h.same s') hT (bs:=[]) trivial (λH' s'=>Ax hl hT s') (λx r y H2 s2 h1 Q h=>?_) (λx r cc hp H2 s2 h1 Q h=>?_) λH2 zs s2 hz=>?_)⟩
 .obtain⟨ta,w,rfl,ha,hw⟩:=h1;unfold oh;dsimp only;rw[qx ha];exact AY (Q:=λk=>Q k H2) h
 .obtain⟨ta,w,rfl,ha,wp,rfl,hw⟩:=h1;unfold mT;dsimp only;rw[qx ha];have dk:=h0 r (tq cc);refine⟨aX,λt1 kg=>h _ _ (ak kg) ⟨t1,wp,rfl,?_,(ak kg) _ _ (s2 _ _ hw)⟩⟩;rw[aq];show some (HO.tup [.int r.1.2,.ref wp])=some (.tup [.int ((r.1.2.toNat:Nat):Int),.ref wp]);rw[ad3 dk]
 .rw[aci] at hz;intro l2 a7;exact q l2 zs _ (s1.trans (s2.trans (ak a7))) ((s1.trans s2).free a7) aq (hz.imp λy y r=>r.same (ak a7))
inductive Yh(B:ab6)(vs:List V)(H:Hp)(Q:VK)(aN:XK):Prop
 | mk(x p o:ab6)(e t u d m:Int)(tb:Tb)(es:List Int)(_:vs=[.ref x,.ref o])(_:cf B H x e t u d m p tb)(_:(tb.map (·.1)).Nodup)(_:tb.length<64)(_:(∀ r∈tb,0<=r.1.2))(_:ai K H o (es.map V.int))(_:es.length<=100)(_:∀ l ys H',ah H H'->H' l=some (.lst ys)->ax (fq H') ys (((kM tb).filter λr=>!es.contains r.1.1).map λr=>(r.1.2.toNat,r.2))->Q (.ref l) H')
theorem Yi(T:aB):aP 2 T.VO (Yh T.aT):=by
 refine bA J5 ?_;rintro y y y s H y Q y hr ⟨x,p,o,e,t,u,d,m,tb,es,rfl,hb,cC,fP,h0,ho,tJ,q⟩;refine⟨_,(au (aA (zA (g:=ky K 3 (cX (cA 0) (cX (cA 1) (cX (cA 2) jF)))) (jN.mk (own:=["teller","turn","word"]) (fr:=[1]) (ys:=["some"]) rfl (by decide +kernel) rfl (by decide +kernel) rfl (.cons rfl .nil) (.cons rfl rfl rfl rfl .nil) rfl) rfl (cE (nN (aa 0) T.bF T.B0 (Cb T) hr.m T.um.b .nil bB)) (λC s2 H2 ex pn=>kz (n:=3) rfl (dI (gB (i:=0) (show (["teller","turn","word","some"]:List Str).Nodup by decide) rfl (.inl (ach rfl)) (.inr (ach rfl))) (dI (gB (i:=1) (show (["teller","turn","word","some"]:List Str).Nodup by decide) rfl (.inl (ach rfl)) (.inr (ach rfl))) (dI (gB (i:=2) (show (["teller","turn","word","some"]:List Str).Nodup by decide) rfl (.inl (ach rfl)) (.inr (ach rfl))) kx)))) (λC s2 H2 ex pn=>⟨(jM (lq (P5 (K:=K) rfl) (aa 0) (aa 3) (by with_unfolding_all rfl))),(aM (ae (aa 1) (ae (aa 2) ag)))⟩)))),?_⟩;obtain⟨⟨dx,hx⟩,htb⟩:=id hb;rfl';refine⟨_,_,hx,rfl,x,p,e,t,u,d,m,tb,rfl,hb,cC,fP,λl xs H1 s1 y hl hT=>?_⟩;have tl:=hT.len;rw[mS] at tl;refine⟨l,rfl,⟨_,ai.of hl⟩,Au (row:=rowOf H1) (ab3 (by lia:xs.length<=64) (by decide)) (qz (R:=λ_ x (r:P2 × S2)=>jV H1 x r) (R':=fq) (p:=λr=>!es.contains r.1.1) (f:=λr=>(r.1.2.toNat,r.2)) (λy y y y y h=>h) (λy y y y s' h=>h.same s') hT (bs:=[]) trivial (λH' s'=>Ax hl hT s') (λx r y H2 s2 h1 Q h=>?_) (λx r cc hp H2 s2 h1 Q h=>?_) λH2 zs s2 hz=>?_)⟩
 .obtain⟨ta,w,rfl,ha,hw⟩:=h1;unfold oh;dsimp only;rw[qx ha];refine⟨o,_,rfl,.inl ((s1.trans s2).seq ho),rfl,HH es,_,rfl,?_⟩;rw[Aw,if_pos rfl];exact h
 .obtain⟨ta,w,rfl,ha,wp,rfl,hw⟩:=h1;unfold mT;dsimp only;rw[qx ha];have dk:=h0 r (tq cc);refine⟨aX,λt1 kg=>h _ _ (ak kg) ⟨t1,wp,rfl,?_,(ak kg) _ _ (s2 _ _ hw)⟩⟩;rw[aq];show some (HO.tup [.int r.1.2,.ref wp])=some (.tup [.int ((r.1.2.toNat:Nat):Int),.ref wp]);rw[ad3 dk]
 .rw[aci] at hz;intro l2 a7;exact q l2 zs _ (s1.trans (s2.trans (ak a7))) aq (hz.imp λy y r=>r.same (ak a7))
inductive qV(H:Hp)(v:V)(r:Gp):Prop
 | mk(g k:ab6)(zs:List V)(_:v = .ref g)(_:H g=some (.tup [ev r.1,.ref k]))(_:H k=some (.lst zs))(_:ax (fq H) zs r.2)
theorem qV.same(h:qV H v r)(s:ah H H'):qV H' v r:=let ⟨g,k,zs,e,a,b,c⟩:=h;⟨g,k,zs,e,s _ _ a,s _ _ b,c.imp λy y x=>x.same s⟩
inductive Yj(B:ab6)(vs:List V)(H:Hp)(Q:VK)(aN:XK):Prop
 | mk(x p:ab6)(e t u d m:Int)(tb:Tb)(_:vs=[.ref x])(_:cf B H x e t u d m p tb)(_:(tb.map (·.1)).Nodup)(_:tb.length<64)(_:(∀ r∈tb,0<=r.1.2))(_:0<=e)(_:e<=7)(_:∀ l ys H',ah H H'->H l=none->H' l=some (.lst ys)->ax (qV H') ys ((tO e.toNat tb).map λr=>(some r.1,r.2))->Q (.ref l) H')
theorem Yk(T:aB):aP 3 T.VP (Yj T.aT):=by
 refine bA J6 ?_;rintro y y y s y y Q y hr ⟨x,p,e,t,u,d,m,tb,rfl,hb,cC,fP,cc,h0,h7,q⟩;refine⟨_,(au (aA (dg (cO [0] [dA]) rfl (iB rfl T.eh (ae (bz rfl (aa 0) rfl) ag)) (λC s2 H2 ex pn=>⟨df,(aM (ae (aa 0) (ae (aK (Yg T) hr (ae (aa 1) (ae (aa 0) ag))) ag)))⟩)))),?_⟩;obtain⟨⟨dx,hx⟩,hp⟩:=id hb;rfl';refine⟨_,_,_,hx,T.bF,T.xM,_,rfl,?_⟩;refine⟨e,rfl,by lia,by lia,cJ gW (by rw[abT,ab5];exact ab3 (by lia:_<=12) (by decide)) (gJ (R:=λ_ x (k:Nat)=>x=V.int ((0:Int)+k)) (R':=qV) (f:=λ(k:Nat)=>((some (k:Int),mU tb (k:Int)):Gp)) (λy y y y y h=>h) (λy y y y s' h=>h.same s') (ax.fI _) (bs:=[]) trivial (λy y=>trivial) (λx k y H2 s2 r Q h=>?_) (λx k y H2 s2 r Q h=>?_) λH2 zs s2 hz=>?_)⟩
 .exact h
 .subst r;rfl';rw[agw];refine⟨x,p,e,t,u,d,m,(k:Int),tb,rfl,hb.same s2,cC,fP,cc,λl ys H3 s3 y hl hM=>⟨aX,λg hg=>?_⟩⟩;have u1:=ak (o:=.tup [.int (k:Int),.ref l]) hg;exact h _ _ (s3.trans u1) ⟨g,l,ys,rfl,aq,u1 _ _ hl,hM.imp λy y x=>x.same u1⟩
 .intro l hl;rw[aci] at hz;refine q l zs _ (s2.trans (ak hl)) (s2.free hl) aq ?_;unfold tO;rw[ac1];exact hz.imp λy y r=>r.same (ak hl)
inductive Yl(vs:List V)(H:Hp)(Q:VK)(aN:XK):Prop
 | mk(v u:V)(s:S2)(p:P2)(_:vs=[v,u])(_:aO H v s.1 s.2)(_:cV H u p)(_:∀ r H',ah H H'->H r=none->H' r=some (.tup [ev (fR s p).1,ev (fR s p).2])->Q (.ref r) H')
theorem K8(T:aB):aP 1 T.VD Yl:=by
 refine bA xg ?_;rintro y y y y y y y y hr ⟨v,u,⟨lo,hi⟩,⟨p1,p2⟩,rfl,⟨a,rfl,ha⟩,⟨b,rfl,hb⟩,q⟩;refine⟨_,(ar (aJ 2 xg.nd (mw (ee (ao (aa 0) af)) bG (aD bb (ao (aa 0) af) (ao (aa 1) af)))) (ar (aJ 3 xg.nd (mw (ee (ao (aa 0) af)) bG (aD bb (ao (aa 0) af) (ao (aa 1) af)))) (au (aA (aM (ae (aa 2) (ae (aa 3) ag))))))),?_⟩;rcases lo with y|lo<;>rcases hi with y|hi
 all_goals simp only[wq,wu] at ha
 all_goals
  repeat' first
  | refine aI ha ?_
  | refine aI hb ?_
  | (walk_at "p")
 all_goals exact⟨aX,λr hr=>q r _ (ak hr) hr aq⟩
theorem Ym(h:ax (λv (s:S2)=>aO H v s.1 s.2) zs ss)(h0:0<ss.length):∃ v,de zs (-1)=some v/\aO H v (cp ss (ss.length-1)).1 (cp ss (ss.length-1)).2:=by
 have hl:=h.len;obtain⟨v,hv,r⟩:=h.at (abW (l:=ss) (i:=ss.length-1) (by lia));have e:zs=zs.take (ss.length-1)++[v]:=by have:=aee (ss.length-1) zs;rw[acQ (by lia),aft (by lia)] at this;rw[abW (by lia)] at hv;cases hv;exact this.symm
 refine⟨v,by rw[e];exact yY _ _,?_⟩;unfold cp;rw[abV,abW (by lia)];exact r
inductive Yn(vs:List V)(H:Hp)(Q:VK)(aN:XK):Prop
 | mk(a b:ab6)(xs ys:List V)(ws:List W2)(ps:List P2)(_:vs=[.ref a,.ref b])(_:ai K H a xs)(_:ax (gY H) xs ws)(_:ai K H b ys)(_:bR H ys ps)(_:ws.length<=ps.length+1)(_:ws.length<=1000)(_:(∀ t,t<ws.length->bw (fT ws) (aL ps) t=none->∀ H',ah H H'->Q .non H'))(_:((∀ t,t<ws.length->bw (fT ws) (aL ps) t≠none)->∀ l zs ss H',ah H H'->H l=none->H' l=some (.lst zs)->ax (tG H') zs ss->ss.length=ws.length->(∀ t,t<ws.length->bw (fT ws) (aL ps) t=some (cp ss t))->Q (.ref l) H'))
inductive K9(H:Hp)(a b l:ab6)(ws:List W2)(ps:List P2)(i:Nat)(σ:St)(H1:Hp):Prop
 | mk(zs:List V)(ss:List S2)(e1 e2 e3:Option V)(_:σ=[some (.ref a),some (.ref b),some (.ref l),e1,e2,e3])(_:ah H H1)(_:H1 l=some (.lst zs))(_:ax (tG H1) zs ss)(_:ss.length=i)(_:∀ t,t<i->bw (fT ws) (aL ps) t=some (cp ss t))
theorem La(T:aB):aP 3 T.VE Yn:=by
 refine bA oB ?_;rintro y y y y H y y y hr ⟨a,b,xs,ys,ws,ps,rfl,hS,hW,hT,hP,hl,hn,q0,q⟩;refine⟨_,(ar (aJ 2 oB.nd (cn ag)) (ar (cU acH rfl (zK rfl T.xE (ae (aa 0) ag)) (kz rfl (dI (cv 3 oB.nd) (dI (cv 4 oB.nd) kx))) (ar (aJ 5 oB.nd (aa 4)) (ar (aH (PW.pt (iW (tW (aa 3) af) (jE (ie (aa 4))))) (au (aJ 5 oB.nd (aK (B6 T) hr (ae (aa 4) (ae (aK (K8 T) hr (ae (ao (aa 2) (iD iM af)) (ae (ao (aa 1) (aD bW (aa 3) af)) ag))) ag))))) aG) (ar (aH (ee (aa 5)) (au (aA bG)) aG) (au (dm (lA ac3 adL adM sx (aa 2) (ae (aa 5) ag)))))))) (au (aA (aa 2))))),?_⟩;have l1:=hW.len;have l2:=hP.len;refine⟨by decide,λl ft=>?_⟩;have s1:=ak (o:=.lst []) ft;have e1:upd H l (.lst []) l=some (.lst []):=aq;generalize upd H l (.lst [])=H1 at s1 e1 ⊢;rfl';refine⟨⟨_,s1.seq hS⟩,zO (xs:=xs) (K9 H a b l ws ps) ⟨[],[],_,_,_,rfl,s1,e1,trivial,rfl,λt h=>absurd h (adH _)⟩ ?_ ?_ ?_⟩
 .rintro i σ H2 y ⟨y,y,y,y,y,y,s2,y⟩;exact s2.seq hS
 .rintro i x σ H2 p hx ⟨zs,ss,d1,d2,d3,rfl,s2,a7,hz,hlen,iU⟩ hp;obtain⟨w,hw,r⟩:=hW.get hx;have sp:=ak (o:=.tup [.int i,x]) hp;refine nZ (aj.of aq) ?_;generalize upd H2 p (.tup [.int i,x])=H3 at sp ⊢;have s3:=s2.trans sp;have r3:=r.same s3;have eo:=sp _ _ a7;have eB:=hz.imp λy y r=>aO.same r sp;have zl:=hz.len;have ew:fT ws i=w:=by unfold fT;rw[abV,hw];rfl
  have hi:=(ab0.mp hx).1;have add:∀ (v:V) (k:S2) (H4:Hp) (d1 d2 d3:Option V),ah H3 H4->aO H4 v k.1 k.2->bw (fT ws) (aL ps) i=some k->K9 H a b l ws ps (i+1) [some (.ref a),some (.ref b),some (.ref l),d1,d2,d3] (upd H4 l (.lst (zs++[v]))):=λv k H4 d1 d2 d3 s4 hv ek=>by
   have oZ:=s4 _ _ eo;refine⟨zs++[v],ss++[k],d1,d2,d3,rfl,jK ft (s3.trans s4),aq,?_,by rw[acj,acA,hlen],λt ht=>?_⟩
   .exact ((eB.imp λy y r=>aO.same r s4).snoc hv).imp λy y r=>aO.put r oZ
   .unfold cp;rw[abV];by_cases e:t=i
    .subst e;rw[ek,ac7 (by lia),hlen,ahP];rfl
    .rw[iU t (by lia),acP (by lia)];unfold cp;rw[abV]
  cases w with
  | none =>
   obtain rfl:x = .non:=r3;have e0:bw (fT ws) (aL ps) i=none:=by
    cases i with
    | zero=>exact ew
    | succ i=>unfold bw;rw[ew]
   rfl';have fin:=q0 i (by lia) e0 _ s3;exact aU (λy=>fin) λy=>fin
  | some k =>
   obtain⟨rp,rfl,hrp⟩:=id (show aO H3 x k.1 k.2 from r3);cases i with
   | zero =>
    rfl';exact⟨.inl ⟨rfl,_,ai.of eo⟩,_,eo,ac5 (by lia:zs.length<=1000) (by decide),add _ k _ _ _ _ (ah.refl _) r3 ew⟩
   | succ i =>
    rfl';rw[if_pos (by lia)];obtain⟨v,hv,rv⟩:=Ym (ss:=ss) eB (by lia);obtain⟨u,hu,ru⟩:=hP.at (abW (l:=ps) (i:=i) (by lia));have ep:ps[i]'(by lia)=aL ps i:=by unfold aL;rw[abV,abW (by lia)];rfl
    rw[ep] at ru;rw[show (((i+1:Nat):Int)-1)=((i:Nat):Int) by lia];refine bJ (ai.of eo) hv (bJ (s3.seq hT) (dq hu) ?_);rw[hlen,Nat.add_sub_cancel] at rv;refine⟨v,u,cp ss i,aL ps i,rfl,rv,ru.same s3,λr H4 s4 y uH=>?_⟩;refine⟨_,_,k.1,k.2,_,_,rfl,⟨rp,rfl,s4 _ _ hrp⟩,⟨r,rfl,uH⟩,λy H5 s5 hy=>?_⟩;have ek:=iU i (by lia);have en:bw (fT ws) (aL ps) (i+1)=jf k (fR (cp ss i) (aL ps i)):=by
     show (match fT ws (i+1),bw (fT ws) (aL ps) i with
      | some b,some k=>jf b (fR k (aL ps i))
      | _,_=>none)=_
     rw[ew,ek]
    have uI:=(s4.trans s5) _ _ eo;unfold jf at en;cases hc:ba (dN k.1 (fR (cp ss i) (aL ps i)).1) (eN k.2 (fR (cp ss i) (aL ps i)).2) with
    | true =>
     rw[if_pos hc] at en;obtain rfl:=hy.1 hc;exact q0 (i+1) (by lia) en _ (s3.trans (s4.trans s5))
    | false =>
     rw[if_neg (by rw[hc];simp)] at en;have o4:=hy.2 hc;obtain⟨yp,rfl,hyp⟩:=id o4;exact⟨.inl ⟨rfl,_,ai.of uI⟩,_,uI,ac5 (by lia:zs.length<=1000) (by decide),add _ _ _ _ _ _ (s4.trans s5) o4 en⟩
 .rintro σ H2 ⟨zs,ss,d1,d2,d3,rfl,s2,a7,hz,hlen,iU⟩;rw[l1] at hlen iU;exact q (λt ht=>by rw[iU t ht];simp) l zs ss H2 s2 ft a7 hz hlen iU
inductive Yo(vs:List V)(H:Hp)(Q:VK)(aN:XK):Prop
 | mk(a:ab6)(xs:List V)(ms:List Mk)(t:Nat)(_:vs=[.ref a,.int t])(_:ai K H a xs)(_:ax (fq H) xs ms)(_:ms.length<=1000)(_:∀ l ys H',ah H H'->H' l=some (.lst ys)->lG H' ys (atT ms t)->Q (.ref l) H')
theorem Yp(T:aB):aP 1 T.VF Yo:=by
 refine bA JY ?_;rintro y y y s H y Q y y ⟨a,xs,ms,t,rfl,hS,hM,hn,q⟩;refine⟨_,(au (aA (dg (cO [1] [dP]) rfl (cE (aa 0)) (λC s2 H2 ex pn=>⟨(jM (bq (b0 (K:=K) (aa 0) af) (aa 1))),(b0 (K:=K) (aa 0) af)⟩)))),?_⟩;have hl:=hM.len;rfl';refine⟨⟨_,hS⟩,cJ i8 (ab3 (by lia:xs.length<=1000) (by decide)) (qt (R:=fq H) (R':=λv (s:S2)=>aO H v s.1 s.2) (p:=λm=>decide (m.1=t)) (f:=λm=>m.2) hS hM (λx m r Q h=>?_) (λx m hp r Q h=>?_) λzs hz=>?_)⟩
 .obtain⟨tp,sp,rfl,h1,h2⟩:=r;rfl';refine aI h1 ?_;refine AY (Q:=λk=>Q k H) ?_;rw[show decide ((m.1:Int)=(t:Int))=decide (m.1=t) from decide_eq_decide.mpr (by lia)];exact h
 .obtain⟨tp,sp,rfl,h1,h2⟩:=r;exact ay (aj.of h1) rfl (h _ ⟨sp,rfl,h2⟩)
 .rw[aci];intro l hl;exact q l zs _ (ak hl) aq (kN.mpr (hz.imp λy y r=>r.same (ak hl)))
theorem ax.rev:∀ {xs:List V} {as:List α},ax R xs as->ax R xs.reverse as.reverse
 | [],[],_=>trivial
 | x::xs,a::as,h=>by rw[afy,afy];exact (ax.rev h.2).app ⟨h.1,trivial⟩
 | [],_::_,h=>h.elim
 | _::_,[],h=>h.elim
inductive Yq(vs:List V)(H:Hp)(Q:VK)(aN:XK):Prop
 | mk(a b:ab6)(xs ys:List V)(ps:List P2)(ms:List Mk)(_:vs=[.ref a,.ref b])(_:ai K H a xs)(_:bR H xs ps)(_:ai K H b ys)(_:ax (fq H) ys ms)(_:fw ps)(_:ps.length<=900)(_:ms.length<=1000)(_:(∀ t,t<=ps.length->bw (cL ms) (aL ps) t=none->∀ H',ah H H'->Q .non H'))(_:((∀ t,t<=ps.length->bw (cL ms) (aL ps) t≠none)->∀ l zs ss H',ah H H'->H l=none->H' l=some (.lst zs)->ax (tG H') zs ss->ss.length=ps.length+1->(∀ t,t<=ps.length->hU ps.length (cL ms) (aL ps) t=some (cp ss t))->Q (.ref l) H'))
theorem Yr(T:aB):aP 4 T.VG Yq:=by
 refine bA xh ?_;rintro y y y s H y Q y hr ⟨a,b,xs,ys,ps,ms,rfl,hS,hP,hT,hM,az,hn,hm,q0,q⟩;refine⟨_,(ar (aJ 2 xh.nd (aK (La T) hr (ae (dg (cO [1] [iO]) rfl (iB rfl T.eh (ae (aD bb (cW T.cH (ae (aa 0) ag)) af) ag)) (λC s2 H2 ex pn=>⟨df,(aK (Cf T) hr (ae (aK (Yp T) hr (ae (aa 1) (ae (aa 0) ag))) ag))⟩)) (ae (aa 0) ag)))) (ar (aH (ee (aa 2)) (au (aA bG)) aG) (ar (nX (i:=3) (cO [] []) rfl xh.nd rfl rfl (Qj rfl T.Wk (ae (aa 0) ag)) (λC s2 H2 ex pn=>⟨df,(aM (ae (iD iM (b0 (K:=K) (aa 0) af)) (ae (iD iM (b0 (K:=K) (aa 0) af)) ag)))⟩)) (au (aA (HG (aK (La T) hr (ae (HG (aa 2) (iD iM af)) (ae (aa 3) ag))) (iD iM af))))))),?_⟩;have l1:=hP.len;rfl';refine⟨_,eW hS,by lia,by lia,?_⟩;rw[l1,show ((ps.length:Int)+1).toNat=ps.length+1 by lia];refine cJ gW (by rw[abT,ab5];exact ab3 (by lia:_<=901) (by decide)) (gJ (R:=λ_ x (k:Nat)=>x=V.int ((0:Int)+k)) (R':=gY) (f:=λ(k:Nat)=>cL ms k) (λy y y y y h=>h) (λy y y y s' h=>h.same s') (ax.fI _) (bs:=[]) trivial (λy y=>trivial) (λx k y H2 s2 r Q h=>?_) (λx k y H2 s2 r Q h=>?_) λH2 zs s2 hz=>?_)
 .exact h
 .subst r;rfl';rw[show (0:Int)+(k:Nat)=((k:Nat):Int) by lia];refine⟨b,ys,ms,k,rfl,s2.seq hT,hM.imp λy y r=>r.same s2,hm,λl zs H3 s3 hl hs=>?_⟩;refine⟨l,zs,_,rfl,ai.of hl,hs,?_,λv H4 s4 hv=>h H4 v (s3.trans s4) hv⟩;rw[hs.len];unfold atT;rw[abT];exact ab3 (acE _ _) hm
 rw[aci] at hz;intro c hc;have s3:=s2.trans (ak (o:=.lst zs) hc);have c3:upd H2 c (.lst zs) c=some (.lst zs):=aq;have eB:=hz.imp λy y r=>r.same (ak (o:=.lst zs) hc);generalize upd H2 c (.lst zs)=H3 at s3 c3 eB ⊢;clear hz hc s2;have wl:((ab2 (ps.length+1)).map λ(k:Nat)=>cL ms k).length=ps.length+1:=by rw[abT,ab5]
 have we:∀ t,t<=ps.length->fT ((ab2 (ps.length+1)).map λ(k:Nat)=>cL ms k) t=cL ms t:=λt ht=>by unfold fT;rw[abV,aca,acV (by lia)];rfl
 have ne:∀ t,t<=ps.length->bw (fT ((ab2 (ps.length+1)).map λ(k:Nat)=>cL ms k)) (aL ps) t=bw (cL ms) (aL ps) t:=λt ht=>Ar t (λk hk=>we k (by lia)) λk y=>rfl;refine⟨c,a,zs,xs,_,ps,rfl,ai.of c3,eB,s3.seq hS,hP.same s3,by rw[wl];exact ab4 _,by rw[wl];lia,λt ht en H4 s4=>?_,λbS l nB ss H4 s4 y hl Ys cP iU=>?_⟩
 .rw[wl] at ht;rw[ne t (by lia)] at en;exact q0 t (by lia) en _ (s3.trans s4)
 rw[wl] at bS iU cP;have Lb:∀ t,t<=ps.length->bw (cL ms) (aL ps) t≠none:=λt ht z=>bS t (by lia) (by rw[ne t ht];exact z);have Yt:∀ t,t<ps.length+1->bw (cL ms) (aL ps) t=some (cp ss t):=λt ht=>by rw[<- ne t (by lia)];exact iU t ht
 have TB:=HD az Lb;have S4:=s3.trans s4;rfl';refine⟨xs,S4.seq hS,Sd (ab3 (by lia:_<=900) (by decide)) (gJ (R:=cV) (R':=cV) (f:=λp=>(-p.2,-p.1)) (λy y y y s' h=>h.same s') (λy y y y s' h=>h.same s') (ax.rev (hP.same S4)) (bs:=[]) trivial (λH' s'=>(S4.trans s').seq hS) (λx k y H2 s2 r Q h=>?_) (λx k y H2 s2 r Q h=>?_) λH5 bs s5 hb=>?_)⟩
 .exact h
 .obtain⟨t,rfl,ht⟩:=r;rfl';refine aI ht ?_;refine aI ht ?_;exact⟨aX,λp hp=>h _ _ (ak hp) ⟨p,rfl,aq⟩⟩
 rw[aci] at hb;intro d hd;have s6:=s5.trans (ak (o:=.lst bs) hd);have d6:upd H5 d (.lst bs) d=some (.lst bs):=aq;have Lc:bR (upd H5 d (.lst bs)) bs (lN ps):=hb.imp λy y r=>r.same (ak (o:=.lst bs) hd);generalize upd H5 d (.lst bs)=H6 at s6 d6 Lc ⊢;clear hb hd s5;refine⟨nB,ai.of (s6 _ _ hl),λp hp=>?_⟩;have s7:=s6.trans (ak (o:=.lst nB.reverse) hp);have p7:upd H6 p (.lst nB.reverse) p=some (.lst nB.reverse):=aq;have d7:=(ak (o:=.lst nB.reverse) hp) _ _ d6;have Ld:bR (upd H6 p (.lst nB.reverse)) bs (lN ps):=Lc.same (ak (o:=.lst nB.reverse) hp);generalize upd H6 p (.lst nB.reverse)=H7 at s7 p7 d7 Ld ⊢;have rl:(ss.reverse.map some).length=ps.length+1:=by rw[abT,adE,cP]
 have bl:(lN ps).length=ps.length:=by unfold lN;rw[abT,adE]
 have be:∀ t,t<=ps.length->bw (fT (ss.reverse.map some)) (aL (lN ps)) t=hU ps.length (cL ms) (aL ps) (ps.length-t):=λt ht=>back_eq cP Yt ht;refine⟨p,d,_,bs,ss.reverse.map some,lN ps,rfl,ai.of p7,ax.Hk (ax.rev (Ys.imp λy y r=>aO.same r s7)),ai.of d7,Ld,by rw[rl,bl];exact ab4 _,by rw[rl];lia,λt ht en H8 s8=>?_,λy l3 Yu Yv H8 s8 fl3 eo Yw Cm Le=>?_⟩
 .rw[rl] at ht;rw[be t (by lia)] at en;obtain⟨z,ez,y⟩:=TB.ok (ps.length-t) (by lia);rw[en] at ez;cases ez
 rw[rl] at Cm Le;have S8:=S4.trans (s7.trans s8);refine⟨l3,rfl,Yu,ai.of eo,λp3 uJ=>q Lb p3 _ Yv.reverse _ (S8.trans (ak uJ)) (S8.free uJ) aq (ax.rev (Yw.imp λy y r=>aO.same r (ak uJ))) (by rw[adE,Cm]) λt ht=>?_⟩;rw[R4 Cm ht,<- Le (ps.length-t) (by lia),be _ (by lia),show ps.length-(ps.length-t)=t by lia]
inductive Yx(vs:List V)(H:Hp)(Q:VK)(aN:XK):Prop
 | mk(a b:ab6)(xs ys:List V)(ps:List P2)(ms:List Mk)(_:vs=[.ref a,.ref b])(_:ai K H a xs)(_:bR H xs ps)(_:ai K H b ys)(_:ax (fq H) ys ms)(_:fw ps)(_:ps.length<=900)(_:ms.length<=1000)(_:(∀ m∈ms,m.1<=ps.length))(_:((¬ ∃ c,jh ps c/\meets ms c)->∀ H',ah H H'->Q .non H'))(_:(∀ l cs H',ah H H'->H l=none->H' l=some (.lst (cs.map V.int))->cs.length=ps.length+1->jh ps (bO cs)->meets ms (bO cs)->Q (.ref l) H'))
inductive Yy(H:Hp)(a b x l c:ab6)(zs:List V)(ss:List S2)(ps:List P2)(ms:List Mk)(i:Nat)(σ:St)(H1:Hp):Prop
 | mk(cs:List Int)(e1 e2:Option V)(_:σ=[some (.ref a),some (.ref b),some (.ref x),some (.ref l),e1,e2])(_:ah H H1)(_:H1 l=some (.lst (cs.map V.int)))(_:H1 c=some (.lst (zs.drop 1)))(_:ax (tG H1) zs ss)(_:cs.length=i+1)(_:(∀ t,t<=i->dZ (hU ps.length (cL ms) (aL ps) t) (bO cs t)))(_:∀ k,k<i->(aL ps k).1<=bO cs (k+1)-bO cs k/\bO cs (k+1)-bO cs k<=(aL ps k).2)
theorem xV(h:t<cs.length):bO (cs++[n]) t=bO cs t:=by unfold bO;rw[abV,abV,acP h]
theorem Lf(h:cs.length=t):bO (cs++[n]) t=n:=by unfold bO;rw[abV,ac7 (by lia),h,ahP];rfl
theorem Yz{cs:List Int}{i:Nat}(h:cs.length=i+1):de (cs.map V.int) (-1)=some (.int (bO cs i)):=by
 have e:cs=cs.take i++[bO cs i]:=by have:=aee i cs;rw[acQ (by lia),aft (by lia)] at this;unfold bO;rw[abV,abW (by lia)];exact this.symm
 have e2:cs.map V.int=(cs.take i).map V.int++[V.int (bO cs i)]:=(congrArg (List.map V.int) e).trans (by rw[adA];rfl);rw[e2];exact yY _ _
theorem Lg(h:ba s.1 s.2=false):bV s (lO s):=Ah.mpr (Se h)
theorem Lh(h:i<ss.length):ss[i]?=some (cp ss i):=by unfold cp;rw[abV,abW h];rfl
theorem Cn(h:i<ps.length):ps[i]?=some (aL ps i):=by unfold aL;rw[abV,abW h];rfl
theorem YA(T:aB):aP 5 T.VH Yx:=by
 refine bA qO ?_;rintro _ _ _ s H _ _ _ hr ⟨a,b,xs,ys,ps,ms,rfl,hS,hP,hT,hM,az,hn,hm,ht,q0,q⟩;refine⟨_,(ar (aJ 2 qO.nd (aK (Yr T) hr (ae (aa 0) (ae (aa 1) ag)))) (ar (aH (ee (aa 2)) (au (aA bG)) aG) (ar (aJ 3 qO.nd (cn (ae (aK (K4 T) hr (ae (ao (aa 2) af) ag)) ag))) (ar (cU acH rfl (Ga rfl T.Ky (ae (aa 0) (ae (pO sk (aa 2) (mD af) vD) ag))) (kz rfl (dI (cv 4 qO.nd) (dI (cv 5 qO.nd) kx))) (au (dm (lA ac3 adL adM sx (aa 3) (ae (aK (K4 T) hr (ae (aK (B6 T) hr (ae (aa 5) (ae (aK (K8 T) hr (ae (aM (ae (ao (aa 3) (iD iM af)) (ae (ao (aa 3) (iD iM af)) ag))) (ae (aa 4) ag))) ag))) ag)) ag))))) (au (aA (aa 3))))))),?_⟩;have l1:=hP.len;rfl';refine⟨a,b,xs,ys,ps,ms,rfl,hS,hP,hT,hM,az,hn,hm,λt ht en H1 s1=>?_,λbS x zs ss H1 s1 fx hx hz cP iU=>?_⟩
 .refine q0 ?_ _ s1;rintro ⟨c,hc,lC⟩;exact R0 hc lC t ht en
 have TB:=HD az bS;have zl:=hz.len;have YB:∀ t,t<=ps.length->ba (cp ss t).1 (cp ss t).2=false:=λt ht=>by obtain⟨s,es,hs⟩:=TB.ok t ht;rw[iU t ht] at es;cases es;exact hs
 rfl';obtain⟨v0,Co,r0⟩:=hz.at (Lh (ss:=ss) (i:=0) (by lia));refine bJ (ai.of hx) (dq (j:=0) Co) ?_;refine⟨v0,cp ss 0,rfl,r0,by decide,λl ft=>?_⟩;have u1:=ak (o:=.lst [.int (lO (cp ss 0))]) ft;have L1:upd H1 l (.lst [.int (lO (cp ss 0))]) l=some (.lst ([lO (cp ss 0)].map V.int)):=aq;have fl:=s1.free ft;generalize upd H1 l (.lst [.int (lO (cp ss 0))])=H2 at u1 L1 ⊢;refine⟨zs,ai.of (u1 _ _ hx),λc hc=>?_⟩;rw[show i3 zs (some 1) none=zs.drop 1 from zS zs 1];have u2:=ak (o:=.lst (zs.drop 1)) hc;have c3:upd H2 c (.lst (zs.drop 1)) c=some (.lst (zs.drop 1)):=aq;have lc:l≠c:=λz=>by rw[<- z,L1] at hc;cases hc
 generalize upd H2 c (.lst (zs.drop 1))=H3 at u2 c3 ⊢;have S3:=s1.trans (u1.trans u2);refine⟨⟨_,S3.seq hS⟩,⟨_,ai.of c3⟩,Qt (xs:=xs) (ys:=zs.drop 1) (Yy H a b x l c zs ss ps ms) ⟨[lO (cp ss 0)],_,_,rfl,S3,u2 _ _ L1,c3,hz.imp λ_ _ r=>aO.same r (u1.trans u2),rfl,λt ht=>?_,λk hk=>absurd hk (adH _)⟩ ?_ ?_ ?_⟩
 .obtain rfl:t=0:=by lia
  exact⟨_,iU 0 (by lia),Lg (YB 0 (by lia))⟩
 .rintro i σ H4 ⟨_,_,_,_,s4,_,c4,_⟩;exact⟨s4.seq hS,ai.of c4⟩
 .rintro i u v σ H4 p hu hv ⟨cs,d1,d2,rfl,s4,L4,c4,kh,br,cg,cT⟩ hp;have hi:i<ps.length:=by have:=(ab0.mp hu).1;lia
  obtain⟨pt,ept,ru⟩:=hP.get hu;rw[Cn hi] at ept;cases ept;rw[aef,Nat.add_comm 1 i] at hv;obtain⟨sv,esv,rv⟩:=kh.get hv;rw[Lh (by lia)] at esv;cases esv;refine nZ (aj.of aq) ?_;have up:=ak (o:=.tup [u,v]) hp;generalize upd H4 p (.tup [u,v])=H5 at up ⊢;have L5:=up _ _ L4;rfl';have lst:=Yz br;refine⟨.inl ⟨rfl,_,ai.of L5⟩,bJ (ai.of L5) lst (bJ (ai.of L5) lst ⟨aX,λt1 kg=>?_⟩)⟩;have ut:=ak (o:=.tup [.int (bO cs i),.int (bO cs i)]) kg;refine⟨.ref t1,u,(some (bO cs i),some (bO cs i)),aL ps i,rfl,⟨t1,rfl,aq⟩,ru.same (s4.trans (up.trans ut)),λr H6 s6 _ YC=>?_⟩;obtain⟨m,em,dz⟩:=R5 TB hi (cg i (ab4 _)) (iU (i+1) (by lia));have YD:=aO.same rv (up.trans (ut.trans s6));refine⟨v,.ref r,_,_,_,_,rfl,YD,⟨r,rfl,YC⟩,λy H7 s7 hy=>?_⟩;have cm:=Hr em;have Li:ba (dN (cp ss (i+1)).1 (fR (some (bO cs i),some (bO cs i)) (aL ps i)).1) (eN (cp ss (i+1)).2 (fR (some (bO cs i),some (bO cs i)) (aL ps i)).2)=false/\m=(dN (cp ss (i+1)).1 (fR (some (bO cs i),some (bO cs i)) (aL ps i)).1,eN (cp ss (i+1)).2 (fR (some (bO cs i),some (bO cs i)) (aL ps i)).2):=by
   unfold jf at em;split at em
   .cases em
   .rename_i hc;cases em;exact⟨by simpa using hc,rfl⟩
  have o4:=hy.2 Li.1;refine⟨y,m,rfl,by rw[Li.2];exact o4,?_⟩;have S7:=up.trans (ut.trans (s6.trans s7));have L7:=S7 _ _ L4;obtain⟨n1,n2,n3⟩:=dz _ (Lg cm);refine⟨_,L7,by rw[abT];exact ac5 (by lia:_<=1000) (by decide),cs++[lO m],_,_,rfl,jK fl (s4.trans S7),by rw[aq,adA];rfl,by rw[aF (acY lc)];exact S7 _ _ c4,kh.imp λ_ _ r=>aO.put (aO.same r S7) L7,by rw[acj,acA];lia,λt ht=>?_,λk hk=>?_⟩
  .by_cases e:t=i+1
   .subst e;rw[Lf br];exact n1
   .rw[xV (by lia)];exact cg t (by lia)
  .by_cases e:k=i
   .subst e;rw[Lf br,xV (by lia)];exact⟨n2,n3⟩
   .rw[xV (by lia),xV (by lia)];exact cT k (by lia)
 .rintro σ H4 ⟨cs,d1,d2,rfl,s4,L4,c4,kh,br,cg,cT⟩;rw[aey,show min xs.length (zs.length-1)=ps.length by lia] at br cg cT;exact q l cs H4 s4 fl L4 br cT (meets_of TB ht cg)
def eR(H:Hp)(v:V):Option P2->Prop
 | none=>v = .non
 | some p=>cV H v p
theorem eR.same(h:eR H v o)(s:ah H H'):eR H' v o:=by
 cases o with
 | none=>exact h
 | some p=>exact cV.same h s
inductive YE(vs:List V)(H:Hp)(Q:VK)(aN:XK):Prop
 | mk(v u:V)(a b:Option P2)(_:vs=[v,u])(_:eR H v a)(_:eR H u b)(_:∀ x,eR H x (kP a b)->(x=v∨x=u)->Q x H)
theorem Cp(T:aB):aP 1 T.VI YE:=by
 refine bA JZ ?_;rintro y y y y H y y y hr ⟨v,u,a,b,rfl,ha,hb,q⟩;refine⟨_,(ar (aH (PW.pt (cD (ee (aa 0)) (eS (ee (aa 1))))) (au (aA (mw (ee (aa 0)) (aa 1) (aa 0)))) aG) (au (aA (bT (SA rfl (dW hr)) (by rfl) T.nv mG (ae (aa 0) (ae (aa 1) ag)))))),?_⟩;rcases a with y|a<;>rcases b with y|b
 .obtain rfl:v = .non:=ha;obtain rfl:u = .non:=hb;exact q _ rfl (.inl rfl)
 .obtain rfl:v = .non:=ha;obtain⟨r,rfl,dk⟩:=id hb;exact q _ hb (.inr rfl)
 .obtain rfl:u = .non:=hb;obtain⟨r,rfl,dk⟩:=id ha;exact q _ ha (.inl rfl)
 .obtain⟨r,rfl,dk⟩:=id ha;obtain⟨r2,rfl,jy⟩:=id hb;rfl';refine⟨a,dk,b,jy,?_⟩;by_cases hl:gi b a=true
  .rw[if_pos hl];exact q _ (by show cV H _ (gj a b);unfold gj;rw[if_pos hl];exact hb) (.inr rfl)
  .rw[if_neg hl];exact q _ (by show cV H _ (gj a b);unfold gj;rw[if_neg hl];exact ha) (.inl rfl)
inductive YF(vs:List V)(H:Hp)(Q:VK)(aN:XK):Prop
 | mk(v:V)(a:Option P2)(b:Int)(_:vs=[v,.int b])(_:eR H v a)(_:∀ x H',ah H H'->eR H' x (qw a b)->Q x H')
theorem Lj(T:aB):aP 1 T.VJ YF:=by
 refine bA J0 ?_;rintro y y y y y y y y y ⟨v,a,b,rfl,ha,q⟩;refine⟨_,(au (aA (mw (ee (aa 0)) bG (aM (ae (aD bb (ao (aa 0) af) (aa 1)) (ae (ao (aa 0) af) ag)))))),?_⟩;rcases a with y|a
 .obtain rfl:v = .non:=ha;exact q _ _ (ah.refl _) rfl
 .obtain⟨r,rfl,dk⟩:=id ha;refine aI dk ?_;refine ay (aj.of dk) rfl ⟨aX,λp hp=>q _ _ (ak hp) ⟨p,rfl,aq⟩⟩
inductive YG(vs:List V)(H:Hp)(Q:VK)(aN:XK):Prop
 | mk(a b:ab6)(xs ys:List V)(ps:List P2)(ms:List Mk)(_:vs=[.ref a,.ref b])(_:ai K H a xs)(_:bR H xs ps)(_:ai K H b ys)(_:ax (fq H) ys ms)(_:fw ps)(_:ps.length<=900)(_:ms.length<=1000)(_:(∀ m∈ms,m.1<=ps.length))(_:∀ l zs ts H',ah H H'->H l=none->H' l=some (.lst zs)->ax (eR H') zs ts->ts.length=ps.length+1->lL ps ms (eO ts)->Q (.ref l) H')
inductive o5(P:Nat->(Nat->Option P2)->Prop)(H:Hp)(a b l:ab6)(n:Nat)(i:Nat)(σ:St)(H1:Hp):Prop
 | mk(zs:List V)(ts:List (Option P2))(e1 e2 e3:Option V)(_:σ=[some (.ref a),some (.ref b),some (.ref l),e1,e2,e3])(_:ah H H1)(_:H1 l=some (.lst zs))(_:ax (eR H1) zs ts)(_:ts.length=n+1)(_:P i (eO ts))
theorem eR.put(h:eR H v o)(hl:H l=some (.lst ys)):eR (upd H l (.lst zs)) v o:=by
 cases o with
 | none=>exact h
 | some p=>exact cV.put h hl
theorem ax.Ll{α:Type}{R:V->α->Prop}{x:V}{a:α}(r:R x a):∀ {xs:List V} {as:List α} (j:Nat),ax R xs as->ax R (xs.set j x) (as.set j a)
 | [],[],_,_=>trivial
 | _::_,_::_,0,h=>⟨r,h.2⟩
 | _::_,_::_,j+1,h=>⟨h.1,ax.Ll r j h.2⟩
 | [],_::_,_,h=>h.elim
 | _::_,[],_,h=>h.elim
theorem qW(h:ax (eR H) zs ts)(ht:t<ts.length):∃ v,de zs (t:Int)=some v/\eR H v (eO ts t):=by obtain⟨v,hv,r⟩:=h.at (abW ht);refine⟨v,dq hv,?_⟩;unfold eO;rw[abV,abW ht];exact r
theorem Cq(h:t<n):jH n (t:Int)=some t:=by unfold jH;rw[if_pos (by lia),if_pos (by lia),acS]
theorem Cr{P:Nat->(Nat->Option P2)->Prop}{H:Hp}{a b l:ab6}{n i:Nat}{zs:List V}{ts:List (Option P2)}{H1:Hp}{v:V}{x:Option P2}{t:Nat}{d1 d2 d3:Option V}(ft:H l=none)(s:ah H H1)(hl:H1 l=some (.lst zs))(hz:ax (eR H1) zs ts)(hlen:ts.length=n+1)(hv:eR H1 v x)(ht:t<n+1)(hP:P i (kQ (eO ts) t x)):o5 P H a b l n i [some (.ref a),some (.ref b),some (.ref l),d1,d2,d3] (upd H1 l (.lst (zs.set t v))) :=
 ⟨zs.set t v,ts.set t x,d1,d2,d3,rfl,jK ft s,aq,(ax.Ll hv t hz).imp λy y r=>r.put hl,by rw[ahF];exact hlen,by rw[R6 (by lia)];exact hP⟩
theorem YH(n:Nat):mO ((n:Int)-1) (-1) (-1)=n:=by unfold mO acZ;simp only[show ¬ ((-1:Int) > 0) by lia,if_false,show (- (-1:Int))=1 by lia,akh];split<;>lia
theorem YI(T:aB):aP 2 T.VL YG:=by
 refine bA oE ?_;rintro z z z z H z Q z hr ⟨a,b,xs,ys,ps,ms,rfl,hS,hP,hT,hM,az,hn,hm,ht,q⟩;refine⟨_,(ar (nX (i:=2) (cO [] []) rfl oE.nd rfl rfl (iB rfl T.eh (ae (aD bb (cW T.cH (ae (aa 0) ag)) af) ag)) (λC s2 H2 ex pn=>⟨df,bG⟩)) (ar (cU acH rfl (zK rfl T.xE (ae (aa 1) ag)) (kz rfl (dI (cv 3 oE.nd) (dI (cv 4 oE.nd) kx))) (au (aH (ie (ao (ao (aa 4) af) af)) (au (yB (aK (Cp T) hr (ae (ao (aa 2) (ao (aa 4) af)) (ae (aM (ae (ao (ao (aa 4) af) af) (ae (aa 3) ag))) ag))) (yA (aa 2) (ao (aa 4) af) set_list))) aG))) (ar (cU acH rfl (iB rfl T.eh (ae (cW T.cH (ae (aa 0) ag)) ag)) (cv 5 oE.nd) (au (yB (aK (Cp T) hr (ae (ao (aa 2) (aD bb (aa 5) af)) (ae (aK (Lj T) hr (ae (ao (aa 2) (aa 5)) (ae (ao (ao (aa 0) (aa 5)) af) ag))) ag))) (yA (aa 2) (aD bb (aa 5) af) set_list)))) (ar (cU acH rfl (QA rfl T.eh (ae (aD bW (cW T.cH (ae (aa 0) ag)) af) (ae (iD iM af) (ae (iD iM af) ag)))) (cv 5 oE.nd) (au (yB (aK (Cp T) hr (ae (ao (aa 2) (aa 5)) (ae (aK (Lj T) hr (ae (ao (aa 2) (aD bb (aa 5) af)) (ae (iD iM (ao (ao (aa 0) (aa 5)) af)) ag))) ag))) (yA (aa 2) (aa 5) set_list)))) (au (aA (aa 2))))))),?_⟩;have l1:=hP.len;have l2:=hM.len;refine aC (λσ H1=>∃ l,σ=[some (.ref a),some (.ref b),some (.ref l),none,none,none]/\ah H H1/\H l=none/\H1 l=some (.lst (aeh (ps.length+1) .non))) (λN hN=>?_) ?_
 .rfl';refine⟨_,eW hS,by lia,by lia,?_⟩;rw[l1,show ((ps.length:Int)+1).toNat=ps.length+1 by lia];refine cJ gW (by rw[abT,ab5];exact ab3 (by lia:_<=901) (by decide)) (vZ (p:=λz=>true) (f:=λz=>.non) trivial (λx z Q h=>?_) (λx z z Q h=>?_) ?_)
  .exact h
  .exact h
  rw[aci,filter_tt];intro l hl;refine hN _ _ ⟨l,rfl,ak hl,hl,?_⟩;rw[aq]
  congr 2
  refine aeR λk=>?_;rw[aca,aca,aet];by_cases hk:k<ps.length+1
  .rw[acV hk,if_pos hk];rfl
  .rw[ac0 (by rw[ab5];lia),if_neg hk];rfl
 rintro z yR σ H1 ⟨l,rfl,s1,ft,qE⟩;subst yR;refine aC (o5 (T1 ps ms) H a b l ps.length ms.length) (λN hN=>?_) ?_
 .rfl';refine⟨⟨_,s1.seq hT⟩,zO (xs:=ys) (o5 (T1 ps ms) H a b l ps.length) ⟨_,aeh (ps.length+1) none,_,_,_,rfl,s1,qE,?_,by rw[afJ],by rw[R7];exact T1.nil⟩ ?_ ?_ ?_⟩
  .have:∀ k,ax (eR H1) (aeh k .non) (aeh k none):=λk=>by
    induction k with
    | zero=>exact trivial
    | succ k ih=>exact⟨rfl,ih⟩
   exact this _
  .rintro i σ H2 z ⟨z,z,z,z,z,z,s2,z⟩;exact s2.seq hT
  .rintro i x σ H2 p hx ⟨zs,ts,d1,d2,d3,rfl,s2,a7,hz,iy,qX⟩ hp;obtain⟨m,o6,tp,sp,rfl,h1,h2⟩:=hM.get hx;have lC:=ht m (ace o6);have up:=ak (o:=.tup [.int i,.ref tp]) hp;refine nZ (aj.of aq) ?_;generalize upd H2 p (.tup [.int i,.ref tp])=H3 at up ⊢;have s3:=s2.trans up;have g1:=s3 _ _ h1;have g2:=s3 _ _ h2;have eo:=up _ _ a7;have eB:=hz.imp λz z r=>r.same up;obtain⟨mt,lo,hi⟩:=m;refine aI g1 (aI g2 ?_);cases hi with
   | none =>
    exact⟨zs,ts,_,_,_,rfl,s3,eo,eB,iy,qX.skip o6 rfl⟩
   | some h =>
    rfl';obtain⟨v,hv,rv⟩:=qW eB (t:=mt) (by dsimp only at lC;lia);refine ay (aj.of g1) rfl (bJ (ai.of eo) hv (aI g1 (aI g2 ?_)));rfl';refine⟨aX,λt1 kg=>?_⟩;have ut:=ak (o:=.tup [.int h,.int i]) kg;have S4:=s3.trans ut;refine⟨v,.ref t1,_,some (h,(i:Int)),rfl,rv.same ut,⟨t1,rfl,aq⟩,λy hy z=>?_⟩;refine aI (ut _ _ g1) ?_;exact⟨zs,_,rfl,ut _ _ eo,mt,Cq (by rw[hz.len,iy];dsimp only at lC;lia),Cr ft S4 (ut _ _ eo) (eB.imp λz z r=>r.same ut) iy hy (by dsimp only at lC;lia) (qX.put o6 rfl)⟩
  .rintro σ H2 h;rw[l2] at h;exact hN _ _ h
 rintro z yR σ H2 h2;subst yR;refine aC (o5 (T2 ps ms) H a b l ps.length ps.length) (λN hN=>?_) ?_
 .obtain⟨zs,ts,d1,d2,d3,rfl,s2,a7,hz,iy,qX⟩:=h2;rfl';refine⟨_,eW (s2.seq hS),?_⟩;rw[l1];refine⟨by lia,by lia,?_⟩;rw[acS];refine pR (o5 (T2 ps ms) H a b l ps.length) ⟨zs,ts,d1,d2,d3,rfl,s2,a7,hz,iy,qX.two⟩ ?_ (λσ H3 h=>hN _ _ h);rintro i σ H3 hi ⟨zs,ts,d1,d2,d3,rfl,s3,eo,eB,iy,oV⟩;have zl:=eB.len;obtain⟨v,hv,rv⟩:=qW eB (t:=i+1) (by lia);obtain⟨u,hu,ru⟩:=qW eB (t:=i) (by lia);obtain⟨w,hw,tw,rfl,Cs⟩:=hP.at (Cn hi);rfl';rw[show (0:Int)+(i:Int)=((i:Nat):Int) by lia,show ((i:Nat):Int)+1=((i+1:Nat):Int) by lia];refine bJ (ai.of eo) hv (bJ (ai.of eo) hu (bJ (s3.seq hS) (dq hw) (aI (s3 _ _ Cs) ?_)));refine⟨u,_,_,rfl,ru,λy H4 s4 hy=>?_⟩;refine⟨v,y,_,_,rfl,rv.same s4,hy,λz Ct z=>?_⟩;exact⟨zs,s4 _ _ eo,i+1,Cq (by lia),Cr ft (s3.trans s4) (s4 _ _ eo) (eB.imp λz z r=>r.same s4) iy Ct (by lia) (oV.step az ht hi)⟩
 rintro z yR σ H3 h3;subst yR;refine aC (o5 (λi=>T3 ps ms (ps.length-i)) H a b l ps.length ps.length) (λN hN=>?_) ?_
 .obtain⟨zs,ts,d1,d2,d3,rfl,s2,a7,hz,iy,qX⟩:=h3;rfl';refine⟨_,eW (s2.seq hS),?_⟩;rw[l1,YH];refine⟨by lia,by lia,QE (o5 (λi=>T3 ps ms (ps.length-i)) H a b l ps.length) ⟨zs,ts,d1,d2,d3,rfl,s2,a7,hz,iy,qX.three⟩ ?_ (λσ H3 h=>hN _ _ h)⟩;rintro i σ H3 hi ⟨zs,ts,d1,d2,d3,rfl,s3,eo,eB,iy,xW⟩;have zl:=eB.len;obtain⟨j,hj⟩:∃ j,ps.length=j+1+i:=⟨ps.length-1-i,by lia⟩
  obtain⟨v,hv,rv⟩:=qW eB (t:=j+1) (by lia);obtain⟨u,hu,ru⟩:=qW eB (t:=j) (by lia);obtain⟨w,hw,tw,rfl,Cs⟩:=hP.at (Cn (ps:=ps) (i:=j) (by lia));rfl';rw[show (ps.length:Int)-1+(i:Int) * -1=((j:Nat):Int) by lia,show ((j:Nat):Int)+1=((j+1:Nat):Int) by lia];refine bJ (ai.of eo) hu (bJ (ai.of eo) hv (bJ (s3.seq hS) (dq hw) (aI (s3 _ _ Cs) ?_)));refine⟨v,_,_,rfl,rv,λy H4 s4 hy=>?_⟩;refine⟨u,y,_,_,rfl,ru.same s4,hy,λz Ct z=>?_⟩;refine⟨zs,s4 _ _ eo,j,Cq (by lia),Cr ft (s3.trans s4) (s4 _ _ eo) (eB.imp λz z r=>r.same s4) iy Ct (by lia) ?_⟩;show T3 ps ms (ps.length-(i+1)) _;rw[show ps.length-(i+1)=j by lia];have xW:T3 ps ms (ps.length-i) (eO ts):=xW;rw[show ps.length-i=j+1 by lia] at xW;exact xW.step az ht (by lia)
 rintro z yR σ H4 ⟨zs,ts,d1,d2,d3,rfl,s4,oZ,kh,iy,o7⟩;subst yR;rw[ahP] at o7;exact q l zs ts H4 s4 ft oZ kh iy o7.tops
inductive YJ(vs:List V)(H:Hp)(Q:VK)(aN:XK):Prop
 | mk(a b:ab6)(zs ys:List V)(ts:List (Option P2))(ms:List Mk)(_:vs=[.ref a,.ref b])(_:ai K H a zs)(_:ax (eR H) zs ts)(_:ai K H b ys)(_:ax (fq H) ys ms)(_:(∀ m∈ms,m.1<ts.length))(_:(tE ms (eO ts)->∀ H',ah H H'->Q .non H'))(_:(∀ (j:Nat) m l v k,ms[j]?=some m->m.2.1=some l->eO ts m.1=some (v,k)->v<l->∀ p H',ah H H'->H p=none->H' p=some (.tup [.int k,.int j])->Q (.ref p) H'))
inductive YK(H:Hp)(a b:ab6)(ts:List (Option P2))(ms:List Mk)(i:Nat)(σ:St)(H1:Hp):Prop
 | mk(e1 e2 e3:Option V)(_:σ=[some (.ref a),some (.ref b),e1,e2,e3])(_:ah H H1)(_:tE (ms.take i) (eO ts))
theorem YL(T:aB):aP 1 T.VM YJ:=by
 refine bA t8 ?_;rintro _ _ _ _ H _ _ _ _ ⟨a,b,zs,ys,ts,ms,rfl,hA,hZ,hT,hM,ht,q0,q⟩;refine⟨_,(ar (cU acH rfl (zK rfl T.xE (ae (aa 1) ag)) (kz rfl (dI (cv 2 t8.nd) (dI (cv 3 t8.nd) kx))) (ar (aJ 4 t8.nd (ao (aa 0) (ao (aa 3) af))) (au (aH (PW.pt (iW (ie (aa 4)) (iW (ie (ao (ao (aa 3) af) af)) (jE (tW (ao (ao (aa 3) af) af) (ao (aa 4) af)))))) (au (aA (aM (ae (ao (aa 4) af) (ae (aa 2) ag))))) aG)))) (au (aA bG))),?_⟩;have l1:=hZ.len;have l2:=hM.len;rfl';refine⟨⟨_,hT⟩,zO (xs:=ys) (YK H a b ts ms) ⟨_,_,_,rfl,ah.refl _,λm h=>by simp at h⟩ ?_ ?_ ?_⟩
 .rintro i σ H2 _ ⟨_,_,_,_,s2,_⟩;exact s2.seq hT
 .rintro i x σ H2 p hx ⟨d1,d2,d3,rfl,s2,bC⟩ hp;obtain⟨m,o6,tp,sp,rfl,h1,h2⟩:=hM.get hx;have lC:=ht m (ace o6);have up:=ak (o:=.tup [.int i,.ref tp]) hp;refine nZ (aj.of aq) ?_;generalize upd H2 p (.tup [.int i,.ref tp])=H3 at up ⊢;have s3:=s2.trans up;have g1:=s3 _ _ h1;have g2:=s3 _ _ h2;have next:(∀ l v k,m.2.1=some l->eO ts m.1=some (v,k)->l<=v)->tE (ms.take (i+1)) (eO ts):=λhh n hn=>by
   rw[acR,o6] at hn;rcases acw.mp hn with z|z
   .exact bC n z
   .obtain rfl:n=m:=by simpa using z
    exact hh
  obtain⟨v,hv,rv⟩:=qW hZ lC;obtain⟨mt,lo,hi⟩:=m;refine ay (aj.of g1) rfl (bJ (s3.seq hA) hv ?_);cases et:eO ts mt with
  | none =>
   rw[show eO ts (mt,lo,hi).1=none from et] at rv;obtain rfl:v = .non:=rv;exact⟨_,_,_,rfl,s3,next λl v k _ e=>by rw[show eO ts (mt,lo,hi).1=none from et] at e;cases e⟩
  | some q2 =>
   obtain⟨w,k⟩:=q2;rw[show eO ts (mt,lo,hi).1=some (w,k) from et] at rv;obtain⟨rt,rfl,hrt⟩:=rv;rfl';refine aI g1 (aI g2 ?_);cases lo with
   | none =>
    exact⟨_,_,_,rfl,s3,next λl v k e _=>by cases e⟩
   | some l =>
    refine aI g1 (aI g2 (aI (s3 _ _ hrt) ?_));refine aU (λhc=>?_) λhc=>?_
    .exact ay (aj.of (s3 _ _ hrt)) rfl ⟨aX,λr cc=>q i _ l w k o6 rfl et hc r _ (s3.trans (ak cc)) (s3.free cc) aq⟩
    .exact⟨_,_,_,rfl,s3,next λl' v' k' e1 e2=>by
      cases e1;rw[show eO ts (mt,some l,hi).1=some (w,k) from et] at e2;cases e2;lia⟩
 .rintro σ H2 ⟨d1,d2,d3,rfl,s2,bC⟩;rw[l2,acU] at bC;exact q0 bC _ s2
inductive d8(H:Hp)(v:V)(c:Cl):Prop
 | mk(t a b:ab6)(_:v = .ref t)(_:H t=some (.tup [.ref a,.ref b]))(_:H a=some (.tup [ev c.1.1,.int c.1.2]))(_:H b=some (.tup [ev c.2.1,.int c.2.2]))
theorem d8.same(h:d8 H v r)(s:ah H H'):d8 H' v r:=let ⟨t,a,b,e,h1,h2,h3⟩:=h;⟨t,a,b,e,s _ _ h1,s _ _ h2,s _ _ h3⟩
theorem d8.put(h:d8 H v r)(hl:H l=some (.lst ys)):d8 (upd H l o) v r:=by
 obtain⟨t,a,b,e,h1,h2,h3⟩:=h;have nl:∀ (z:ab6) (vs:List V),H z=some (.tup vs)->z≠l:=λz vs e1 e2=>by rw[e2,hl] at e1;cases e1
 exact⟨t,a,b,e,by rw[aF (nl _ _ h1)];exact h1,by rw[aF (nl _ _ h2)];exact h2,by rw[aF (nl _ _ h3)];exact h3⟩
theorem YM(h:eR H v o)(hl:H l=some (.lst ys))(k:∀ b o,b≠l->H b=some o->H' b=some o):eR H' v o:=by
 cases o with
 | none=>exact h
 | some p =>
  obtain⟨t,e,a⟩:=h;exact⟨t,e,k _ _ (λz=>by rw[z,hl] at a;cases a) a⟩
inductive qY(ps:List P2)(gs:List Gp)(i j:Nat)(H:Hp)(l:ab6):Prop
 | mk(zs:List V)(cs:List Cl)(_:H l=some (.lst zs))(_:ax (d8 H) zs cs)(_:cs.length<=8 * i+j)(_:wO ps gs cs)(_:∀ i' j' g h,gs[i']?=some g->gs[j']?=some h->(i'<i∨(i'=i/\j'<j))->kS ps g h cs)
theorem qY.same(h:qY ps gs i j H l)(s:ah H H'):qY ps gs i j H' l:=let ⟨zs,cs,a,b,c1,c2,c3⟩:=h;⟨zs,cs,s _ _ a,b.imp λy y x=>x.same s,c1,c2,c3⟩
inductive YN(vs:List V)(H:Hp)(Q:VK)(aN:XK):Prop
 | mk(a b:ab6)(xs ys:List V)(ps:List P2)(gs:List Gp)(_:vs=[.ref a,.ref b])(_:ai K H a xs)(_:bR H xs ps)(_:fw ps)(_:ps.length<=900)(_:ai K H b ys)(_:ax (qV H) ys gs)(_:gs.length<=8)(_:(∀ g∈gs,g.2.length<=1000/\∀ m∈g.2,m.1<=ps.length))(_:∀ l zs cs H',ah H H'->H l=none->H' l=some (.lst zs)->ax (d8 H') zs cs->cs.length<=64->wO ps gs cs->(∀ g∈gs,∀ h∈gs,kS ps g h cs)->Q (.ref l) H')
inductive Lm(H:Hp)(a b l:ab6)(ps:List P2)(gs:List Gp)(i:Nat)(σ:St)(H1:Hp):Prop
 | mk(e1 e2 e3 e4 e5 e6:Option V)(_:σ=[some (.ref a),some (.ref b),some (.ref l),e1,e2,e3,e4,e5,e6])(_:ah H H1)(_:qY ps gs i 0 H1 l)
inductive YO(H H0:Hp)(a b l:ab6)(nm mk tp:V)(ps:List P2)(gs:List Gp)(i j:Nat)(σ:St)(H1:Hp):Prop
 | mk(e4 e5 e6:Option V)(_:σ=[some (.ref a),some (.ref b),some (.ref l),some nm,some mk,some tp,e4,e5,e6])(_:ah H H1)(_:(∀ b o,b≠l->H0 b=some o->H1 b=some o))(_:qY ps gs i j H1 l)
theorem YQ(T:aB):aP 3 T.VQ YN:=by
 refine bA l4 ?_;rintro u u u u H u u u hr ⟨a,b,xs,ys,ps,gs,rfl,hS,hP,az,hn,hG,hA,h7,hm,q⟩;refine⟨_,(ar (aJ 2 l4.nd (cn ag)) (ar (cU acH rfl (cE (aa 1)) (kz rfl (dI (cv 3 l4.nd) (dI (cv 4 l4.nd) kx))) (ar (aJ 5 l4.nd (aK (YI T) hr (ae (aa 0) (ae (aa 4) ag)))) (au (cU acH rfl (cE (aa 1)) (kz rfl (dI (cv 6 l4.nd) (dI (cv 7 l4.nd) kx))) (ar (aJ 8 l4.nd (aK (YL T) hr (ae (aa 5) (ae (aa 7) ag)))) (au (aH (ie (aa 8)) (au (dm (lA ac3 adL adM sx (aa 2) (ae (aM (ae (aM (ae (aa 3) (ae (ao (ao (aa 4) (ao (aa 8) af)) af) ag))) (ae (aM (ae (aa 6) (ae (ao (ao (aa 7) (ao (aa 8) af)) af) ag))) ag))) ag)))) aG))))))) (au (aA (aa 2))))),?_⟩;have yl:=hA.len;refine aC (λσ H1=>∃ l,σ=[some (.ref a),some (.ref b),some (.ref l),none,none,none,none,none,none]/\ah H H1/\H l=none/\H1 l=some (.lst [])) (λN hN=>?_) ?_
 .exact⟨by decide,λl hl=>hN _ _ ⟨l,rfl,ak hl,hl,aq⟩⟩
 rintro u yR σ H1 ⟨l,rfl,s1,fl,hl⟩;subst yR;refine aC (λσ H2=>Lm H a b l ps gs ys.length σ H2) (λN hN=>?_) ?_
 .rfl';refine⟨⟨_,s1.seq hG⟩,gD (xs:=ys) (Lm H a b l ps gs) ⟨_,_,_,_,_,_,rfl,s1,[],[],hl,trivial,acr _,λu h=>(nomatch h),λu u u u u u h=>by lia⟩ ?_ ?_ (λσ H' h=>hN _ _ h)⟩
  .rintro i σ H2 u ⟨u,u,u,u,u,u,u,s2,u⟩;exact s2.seq hG
  .rintro i x σ H2 hx ⟨u,u,u,u,u,u,rfl,s2,h2⟩;obtain⟨r,hr,gg,k,zs,rfl,h3,h4,h5⟩:=hA.get hx;have Cu:=hm r (ace hr);refine nZ (aj.of (s2 _ _ h3)) ?_;refine⟨a,k,xs,zs,ps,r.2,rfl,s2.seq hS,hP.same s2,ai.of (s2 _ _ h4),h5.imp λu u x=>x.same s2,az,hn,Cu.1,Cu.2,λtp us ts H3 s3 Ln gf YR iy TT=>?_⟩;have S3:=s2.trans s3;rfl';refine⟨⟨_,S3.seq hG⟩,gD (xs:=ys) (YO H H3 a b l (ev r.1) (.ref k) (.ref tp) ps gs i) ⟨_,_,_,rfl,S3,λu u u e=>e,h2.same s3⟩ ?_ ?_ ?_⟩
   .rintro j σ H4 u ⟨u,u,u,u,s4,u,u⟩;exact s4.seq hG
   .rintro j y σ H4 hy ⟨u,u,u,rfl,s4,b4,ws,cs,h6,o8,h8,h9,qZ⟩;obtain⟨r',xX,gg',k',YS,rfl,g3,g4,g5⟩:=hA.get hy;have Cv:=hm r' (ace xX);obtain⟨ls,u,hls,u⟩:=h2;have YT:tp≠l:=λz=>by rw[z,hls] at Ln;cases Ln
    have YU:=b4 _ _ YT gf;have kh:=YR.imp λu u x=>YM x (s3 _ _ hls) b4;have nC:∀ xY:List Cl,(∀ i' j' g h,gs[i']?=some g->gs[j']?=some h->(i'<i∨(i'=i/\j'<j))->kS ps g h xY)->kS ps r r' xY->∀ i' j' g h,gs[i']?=some g->gs[j']?=some h->(i'<i∨(i'=i/\j'<j+1))->kS ps g h xY:=λxY YV YW i' j' g h a1 a2 a3=>by
     by_cases hz:i'=i/\j'=j
     .obtain⟨rfl,rfl⟩:=hz;rw[hr] at a1;rw[xX] at a2;cases a1;cases a2;exact YW
     .exact YV i' j' g h a1 a2 (by lia)
    refine nZ (aj.of (s4 _ _ g3)) ?_;refine⟨tp,k',us,YS,ts,r'.2,rfl,ai.of YU,kh,ai.of (s4 _ _ g4),g5.imp λu u x=>x.same s4,λm dz=>by have:=Cv.2 m dz;lia,λbC H5 s5=>?_,λjj m lo v kk e1 e2 e3 e4 p H5 s5 fp hp=>?_⟩
    .exact⟨_,_,_,rfl,s4.trans s5,λb o hb e=>s5 _ _ (b4 b o hb e),qY.same ⟨ws,cs,h6,o8,by lia,h9,nC cs qZ λm m1 n n1 hc=>absurd hc (T5 TT Cu.2 Cv.2 bC m1 n1)⟩ s5⟩
    .obtain⟨i',a',rfl,cY,hc⟩:=TT.clash (Cv.2 m (ace e1)) e3 e2 e4;have uI:=s5 _ _ h6;have S5:=s4.trans s5;obtain⟨v1,qF,t1,w1,rfl,m1,u⟩:=(h5.imp λu u x=>fq.same x S5).at cY;obtain⟨v2,AK,t2,w2,rfl,m2,u⟩:=(g5.imp λu u x=>fq.same x S5).at e1;rfl';refine⟨.inl ⟨rfl,_,ai.of uI⟩,ay (aj.of hp) (v:=.int i') rfl (bJ (ai.of (S5 _ _ h4)) (dq qF) (ay (aj.of m1) (v:=.int a'.1) rfl ⟨aX,λp1 fF=>?_⟩))⟩;have u1:=ak (o:=.tup [ev r.1,.int a'.1]) fF;refine ay (aj.of (u1 _ _ hp)) (v:=.int jj) rfl (bJ (ai.of (u1 _ _ (S5 _ _ g4))) (dq AK) (ay (aj.of (u1 _ _ m2)) (v:=.int m.1) rfl ⟨aX,λp2 dY=>⟨aX,λp3 uJ=>?_⟩⟩));have u2:=ak (o:=.tup [ev r'.1,.int m.1]) dY;have u3:=ak (o:=.tup [.ref p1,.ref p2]) uJ;have U:=u1.trans (u2.trans u3);have Cw:=U _ _ uI;have cq:d8 (upd (upd (upd H5 p1 (.tup [ev r.1,.int a'.1])) p2 (.tup [ev r'.1,.int m.1])) p3 (.tup [.ref p1,.ref p2])) (.ref p3) ((r.1,a'.1),(r'.1,m.1)):=⟨p3,p1,p2,rfl,aq,u3 _ _ (u2 _ _ aq),u3 _ _ aq⟩
     have wl:ws.length<=100:=by have e8:=o8.len;have b1:=(ab0.mp hr).1;have b2:=(ab0.mp xX).1;lia
     refine⟨ws,Cw,ac5 wl (by decide),_,_,_,rfl,jK fl (S5.trans U),λb o hb e=>by rw[aF hb];exact U _ _ (s5 _ _ (b4 b o hb e)),_,cs++[((r.1,a'.1),(r'.1,m.1))],aq,ax.app (o8.imp λu u x=>(x.same (s5.trans U)).put Cw) ⟨cq.put Cw,trivial⟩,by rw[acj,acA];lia,λc vc=>?_,nC _ (λi' j' g h a1 a2 a3=>(qZ i' j' g h a1 a2 a3).more) λu u u u u=>⟨_,acz _ (.head _),rfl,rfl⟩⟩;rcases acw.mp vc with z|z
     .exact h9 c z
     .rw[acx.mp z];exact⟨r,ace hr,r',ace xX,a',ace cY,m,ace e1,rfl,hc⟩
   .rintro σ H4 ⟨u,u,u,rfl,s4,u,ws,cs,h6,o8,h8,h9,qZ⟩;exact⟨_,_,_,_,_,_,rfl,s4,ws,cs,h6,o8,by lia,h9,λi' j' g h a1 a2 a3=>qZ i' j' g h a1 a2 (by have:=(ab0.mp a2).1;lia)⟩
 rintro u yR σ H2 ⟨u,u,u,u,u,u,rfl,s2,ws,cs,h6,o8,h8,h9,qZ⟩;subst yR;exact q l ws cs H2 s2 fl h6 o8 (by lia) h9 λg hg h hh=>by obtain⟨i',cY⟩:=ac2.mp hg;obtain⟨j',zV⟩:=ac2.mp hh;exact qZ i' j' g h cY zV (.inl (by have:=(ab0.mp cY).1;lia))
theorem Lo(h:Q (!decide (o=some e))):neT (.int e) (ev o) Q:=by
 cases o with
 | none=>exact h
 | some x =>
  show if ¬ e=x then Q true else Q false
  by_cases z:e=x
  .subst z;rw[if_neg (λh=>h rfl)];simpa using h
  .rw[if_pos z];have:(some x:En)≠some e:=λh=>z (Option.some.inj h).symm;simpa [this] using h
theorem Lp(h:Q (decide (o=o'))):eqT (ev o) (ev o') Q:=by
 cases o with
 | none=>cases o'<;>exact h
 | some x =>
  cases o' with
  | none=>exact h
  | some y =>
   show if x=y then Q true else Q false
   by_cases z:x=y
   .subst z;rw[if_pos rfl];simpa using h
   .rw[if_neg z];have:(some x:En)≠some y:=λh=>z (Option.some.inj h);simpa [this] using h
inductive YX(H:Hp)(v:V)(s:En × Nat):Prop
 | mk(r:ab6)(_:v = .ref r)(_:H r=some (.tup [ev s.1,.int s.2]))
theorem ax.ints(h:ax (λv (n:Int)=>v=V.int n) zs ns):zs=ns.map V.int:=by
 induction zs generalizing ns with
 | nil=>cases ns with|nil=>rfl|cons _ _=>exact h.elim
 | cons z zs ih=>cases ns with
  | nil=>exact h.elim
  | cons n ns=>rw[acs,<- ih h.2,h.1]
theorem Lq:∀ {xs ys:List Int},xs.Nodup->(∀ x∈xs,x∈ys)->xs.length<=ys.length
 | [],_,_,_=>acr _
 | x::xs,ys,h,k=>by obtain⟨h1,h2⟩:=ac9.mp h;have hx:=k x (.head _);have ih:=Lq (ys:=ys.erase x) h2 λy hy=>(ah0 (λz=>h1 (by rw[<- z];exact hy))).mpr (k y (.tail _ hy));rw[agX hx] at ih;have:=ahw hx;rw[acB];lia
inductive YY(vs:List V)(H:Hp)(Q:VK)(aN:XK):Prop
 | mk(l:ab6)(e:Int)(zs:List V)(cs:List Cl)(_:vs=[.ref l,.int e])(_:H l=some (.lst zs))(_:ax (d8 H) zs cs)(_:cs.length<=64)(_:∀ r ys H',ah H H'->H r=none->H' r=some (.lst ys)->ax (d8 H') ys (wo e cs)->Q (.ref r) H')
theorem Lr(T:aB):aP 1 T.oN YY:=by
 refine bA J9 ?_;rintro y y y y H y Q y hr ⟨l,e,zs,cs,rfl,hl,hC,hn,q⟩;refine⟨_,(au (aA (dg (cO [1] [fB]) rfl (cE (aa 0)) (λC s2 H2 ex pn=>⟨(jM (PW.pt (iW (jo (aa 1) (b0 (K:=K) (b0 (K:=K) (aa 0) af) af)) (jE (jo (aa 1) (b0 (K:=K) (b0 (K:=K) (aa 0) af) af)))))),(aa 0)⟩)))),?_⟩;have zl:=hC.len;rfl';refine⟨⟨_,ai.of hl⟩,cJ i8 (ab3 (by lia:zs.length<=64) (by decide)) (qt (R:=d8 H) (R':=d8 H) (p:=λc=>!iL e c) (f:=λc=>c) (ai.of hl) hC (λx c r Q h=>?_) (λx c hp r Q h=>?_) λys hy=>?_)⟩
 .obtain⟨t,a,b,rfl,h1,h2,h3⟩:=r;refine ay (aj.of h1) (v:=.ref a) rfl (ay (aj.of h2) (v:=ev c.1.1) rfl (Lo ?_));unfold iL at h;by_cases z:c.1.1=some e
  .rw[decide_eq_true z] at h ⊢;exact h
  .rw[decide_eq_false z] at h ⊢;refine ay (aj.of h1) (v:=.ref b) rfl (ay (aj.of h3) (v:=ev c.2.1) rfl (Lo ?_));exact h
 .exact h _ r
 .rw[aci];intro r hr;rw[ahQ] at hy;exact q r ys _ (ak hr) hr aq (hy.imp λy y x=>x.same (ak hr))
inductive YZ(vs:List V)(H:Hp)(Q:VK)(aN:XK):Prop
 | mk(v:V)(c:Cl)(_:vs=[v])(_:d8 H v c)(_:∀ l (es:List Int) H',ah H H'->H l=none->H' l=some (.lst (es.map V.int))->(∀ e,e∈es↔iL e c=true)->es.length<=2->Q (.ref l) H')
theorem Y0(T:aB):aP 1 T.xu YZ:=by
 refine bA Ka ?_;rintro y y y s H y Q y hr ⟨v,c,rfl,⟨t,a,b,rfl,h1,h2,h3⟩,q⟩;refine⟨_,(au (aA (Tt rfl (dg (cO [] []) rfl (yE (aa 0)) (λC s2 H2 ex pn=>⟨(jM (ie (b0 (K:=K) (aa 0) af))),(b0 (K:=K) (aa 0) af)⟩)) (by rfl) T.Kw E2 (by rfl) T.Kv HS))),?_⟩;rfl';refine⟨⟨_,aj.of h1⟩,cJ (xs:=[.ref a,.ref b]) FK aX (qt (R:=YX H) (R':=λv (n:Int)=>v=V.int n) (p:=λs=>s.1.isSome) (f:=λs=>s.1.getD 0) (as:=[c.1,c.2]) (aj.of h1) ⟨⟨a,rfl,h2⟩,⟨b,rfl,h3⟩,trivial⟩ (λx s r Q h=>?_) (λx s hp r Q h=>?_) λzs hz=>?_)⟩
 .obtain⟨r,rfl,h4⟩:=r;refine ay (aj.of h4) (v:=ev s.1) rfl ?_;cases hs:s.1 with
  | none=>rw[hs] at h;exact h
  | some x=>rw[hs] at h;exact h
 .obtain⟨r,rfl,h4⟩:=r;refine ay (aj.of h4) (v:=ev s.1) rfl (h _ ?_);cases hs:s.1 with
  | none=>rw[hs] at hp;cases hp
  | some x=>rfl
 .rw[aci];intro l hl;rw[ax.ints hz];have u1:=ak (o:=.lst ((([c.1,c.2].filter λs=>s.1.isSome).map λs=>s.1.getD 0).map V.int)) hl;have hn:(([c.1,c.2].filter λs=>s.1.isSome).map λs=>s.1.getD 0).length<=2:=by rw[abT];exact acE _ _
  have hi:∀ e,e∈(([c.1,c.2].filter λs=>s.1.isSome).map λs=>s.1.getD 0)↔iL e c=true:=λe=>by
   rw[oo];constructor
   .intro h;obtain⟨s,hs,rfl⟩:=ab7.mp h;obtain⟨m1,m2⟩:=acv.mp hs;obtain⟨x,hx⟩:=afb.mp m2;rw[hx];rcases acd.mp m1 with rfl|m1
    .exact .inl hx
    .rw[acx.mp m1] at hx;exact .inr hx
   .rintro (h|h)
    .exact ab7.mpr ⟨c.1,acv.mpr ⟨.head _,by rw[h];rfl⟩,by rw[h];rfl⟩
    .exact ab7.mpr ⟨c.2,acv.mpr ⟨.tail _ (.head _),by rw[h];rfl⟩,by rw[h];rfl⟩
  refine⟨l,rfl,_,ai.of aq,by lia,λws nd mem y r hr=>?_⟩;exact q r ws _ (u1.trans (ak hr)) (u1.free hr) aq (λe=>(mem e).trans (hi e)) (ab3 (Lq nd λx hx=>(mem x).mp hx) hn)
inductive Ls(N:Nat)(vs:List V)(H:Hp)(Q:VK)(aN:XK):Prop
 | mk(l:ab6)(zs:List V)(cs:List Cl)(n:Nat)(_:vs=[.ref l,.int n])(_:n<N)(_:n<=7)(_:H l=some (.lst zs))(_:ax (d8 H) zs cs)(_:cs.length<=64)(_:(∀ H',ah H H'->iF (n+1) cs->Q .non H'))(_:∀ r (es:List Int) H',ah H H'->H r=none->H' r=some (.lst (es.map V.int))->tP es cs->es.length<=n->Q (.ref r) H')
inductive cG(H:Hp)(l:ab6)(n:Nat)(cs:List Cl)(es:List Int)(i:Nat)(σ:St)(H1:Hp):Prop
 | mk(e1 e2:Option V)(_:σ=[some (.ref l),some (.int ((n+1:Nat):Int)),e1,e2])(_:ah H H1)(_:∀ e∈es.take i,iF (n+1) (wo e cs))
theorem Y1(T:aB):∀ N,aP (N+2) T.oO (Ls N):=by
 intro N
 induction N with
 | zero =>
  refine okN T.oO.F t9.1 (λvs H Q E h=>?_) (λa8 A outer s H vs Q E hr h=>?_)
  .obtain⟨l,zs,cs,n,rfl,hN,y⟩:=h;exact absurd hN (adH _)
  .obtain⟨l,zs,cs,n,rfl,hN,y⟩:=h;exact absurd hN (adH _)
 | succ N ih =>
  refine okN T.oO.F t9.1 (λvs H Q E h=>?_) (λa8 A outer s H vs Q E hr h=>?_)
  .obtain⟨l,zs,cs,n,rfl,y⟩:=h;rfl
  .obtain⟨l,zs,cs,n,rfl,hN,n7,hl,hC,hn,q0,q⟩:=h;refine⟨_,(ar (aH (bq (cW T.cH (ae (aa 0) ag)) af) (au (aA (cn ag))) aG) (ar (aH (bq (aa 1) af) (au (aA bG)) aG) (ar (cU acH rfl (cE (eJ (Y0 T) (hr.mono (by lia)) rfl T.xu.m T.xu.F.kp T.xu.b .nil bB (ae (bD bE (aa 0) af (λy y=>rfl)) ag))) (gB (i:=2) t9.nd rfl (afM rfl)) (ar (jG (i:=3) t9.nd rfl (afM rfl) (eJ ih (hr.mono (by lia)) rfl T.oO.m T.oO.F.kp T.oO.b .nil bB (ae (eJ (Lr T) (hr.mono (by lia)) rfl T.oN.m T.oN.F.kp T.oN.b .nil bB (ae (aa 0) (ae (aa 2) ag))) (ae (aD bW (aa 1) af) ag)))) (au (aH (ie (aa 3)) (au (aA (aD mF (cn (ae (aa 2) ag)) (aa 3)))) aG)))) (au (aA bG))))),?_⟩;have zl:=hC.len;cases cs with
   | nil =>
    obtain rfl:zs=[]:=adQ.mp zl;rfl';refine⟨_,eW (ai.of hl),?_⟩;exact⟨by decide,λr hr=>q r [] _ (ak hr) hr aq (λc hc=>(nomatch hc)) (acr _)⟩
   | cons c cs =>
    obtain⟨z,zs,rfl⟩:∃ z z',zs=z::z':=by cases zs with|nil=>cases zl|cons z zs=>exact⟨z,zs,rfl⟩
    cases n with
    | zero =>
     rfl';refine⟨_,eW (ai.of hl),?_⟩;refine aU (λh0=>absurd h0 (by rw[acB];lia)) λy=>?_;exact q0 _ (ah.refl _) λy y=>trivial
    | succ n =>
     rfl';refine⟨_,eW (ai.of hl),?_⟩;refine aU (λh0=>absurd h0 (by rw[acB];lia)) λy=>aU (λh0=>absurd h0 (by lia)) λy=>?_;refine bJ (ai.of hl) (v:=z) (show de (z::zs) ((0:Nat):Int)=some z from dq rfl) ⟨z,c,rfl,hC.1,λk es H1 s1 y hk z9 F9=>?_⟩;rfl';refine⟨⟨_,ai.of hk⟩,gD (xs:=es.map V.int) (cG H1 l n (c::cs) es) ⟨_,_,rfl,ah.refl _,λy h=>(nomatch h)⟩ ?_ ?_ ?_⟩
     .rintro i σ H2 y ⟨y,y,rfl,s2,y⟩;exact ai.of (s2 _ _ hk)
     .rintro i x σ H2 hx ⟨e1,e2,rfl,s2,bC⟩;rw[aca] at hx;obtain⟨e,he,rfl⟩:=acC.mp hx;have S2:=s1.trans s2;rfl';refine⟨l,e,_,c::cs,rfl,S2 _ _ hl,hC.imp λy y x=>x.same S2,hn,λr ys H3 s3 y hr hy=>?_⟩;refine⟨r,ys,wo e (c::cs),n,by rw[show (((n+1:Nat):Int)-1)=(n:Int) by lia],by lia,by lia,hr,hy,ab3 (acE _ _) hn,λH4 s4 h4=>?_,λr2 Y2 H4 s4 f4 jy Y3 hle=>?_⟩
      .refine⟨_,_,rfl,s2.trans (s3.trans s4),λe' ql=>?_⟩;rw[acR,he] at ql;rcases acw.mp ql with z|z
       .exact bC e' z
       .obtain rfl:e'=e:=by simpa using z
        exact h4
      .rfl';refine⟨by decide,λp hp=>⟨_,aq,_,(ak hp) _ _ jy,ab3 (by rw[abT,acA];lia:_<=20) (by decide),λp1 fF=>?_⟩⟩;have W:=s1.trans (s2.trans (s3.trans (s4.trans (ak (o:=.lst [.int e]) hp))));exact q p1 (e::Y2) _ (W.trans (ak fF)) (W.free fF) aq (Ua Y3) (by rw[acB];lia)
     .rintro σ H2 ⟨e1,e2,rfl,s2,bC⟩;refine q0 _ (s1.trans s2) λe he=>bC e ?_;rw[abT,acU];exact (z9 e).mpr he
def gq(H:Hp):V->Pp->Prop
 | v,.nil=>v = .non
 | v,.full=>∃ r,v = .ref r/\H r=some (.tup [.str "full"])
 | v,.cls c a b=>∃ r p q x y,v = .ref r/\H r=some (.tup [.str "clash",.ref p,.ref q,x,y])/\H p=some (.tup [ev c.1.1,.int c.1.2])/\H q=some (.tup [ev c.2.1,.int c.2.2])/\gq H x a/\gq H y b
theorem gq.same(s:ah H H'):∀ {t:Pp} {v:V},gq H v t->gq H' v t:=by
 intro t
 induction t with
 | nil=>exact λh=>h
 | full=>rintro z ⟨r,e,h⟩;exact⟨r,e,s _ _ h⟩
 | cls _ _ _ i1 i2=>rintro z ⟨r,p,q,x,y,e,h1,h2,h3,h4,h5⟩;exact⟨r,p,q,x,y,e,s _ _ h1,s _ _ h2,s _ _ h3,i1 h4,i2 h5⟩
noncomputable def uK(n:Nat)(cs:List Cl)(o:En):Pp:=match o with|none=>.nil|some e=>mX n (wo e cs)
theorem Lu(n:Nat)(c:Cl)(cs:List Cl):mX (n+1) (c::cs) = .cls c (uK n (c::cs) c.1.1) (if c.1.1=c.2.1 then .nil else uK n (c::cs) c.2.1):=rfl
inductive Cy(N:Nat)(vs:List V)(H:Hp)(Q:VK)(aN:XK):Prop
 | mk(l:ab6)(m:Int)(zs:List V)(cs:List Cl)(n:Nat)(_:vs=[.ref l,.int m])(_:m+1=(n:Int))(_:n<N)(_:H l=some (.lst zs))(_:ax (d8 H) zs cs)(_:cs.length<=64)(_:iF n cs)(_:∀ v H',ah H H'->gq H' v (mX n cs)->Q v H')
inductive Y4(N:Nat)(vs:List V)(H:Hp)(Q:VK)(aN:XK):Prop
 | mk(l:ab6)(m:Int)(o:En)(zs:List V)(cs:List Cl)(n:Nat)(_:vs=[.ref l,ev o,.int m])(_:m=(n:Int))(_:n<N)(_:H l=some (.lst zs))(_:ax (d8 H) zs cs)(_:cs.length<=64)(_:(∀ e,o=some e->iF n (wo e cs)))(_:∀ v H',ah H H'->gq H' v (uK n cs o)->Q v H')
theorem Lv(T:aB)(N:Nat)(ih:aP (2 * N+1) T.nk (Cy N)):aP (2 * N+2) T.nj (Y4 N):=by
 refine okN T.nj.F Kb.1 (λvs H Q E h=>?_) (λa8 A outer s H vs Q E hr h=>?_)
 .obtain⟨l,m,o,zs,cs,n,rfl,y⟩:=h;rfl
 .obtain⟨l,m,o,zs,cs,n,rfl,hm,hN,hl,hC,hn,bC,q⟩:=h;refine⟨_,(au (aA (mw (ee (aa 1)) bG (eJ ih (hr.mono (by lia)) rfl T.nk.m T.nk.F.kp T.nk.b .nil bB (ae (eJ (Lr T) (hr.mono (by lia)) rfl T.oN.m T.oN.F.kp T.oN.b .nil bB (ae (aa 0) (ae (aa 1) ag))) (ae (aD bW (aa 2) af) ag)))))),?_⟩;cases o with
  | none =>
   exact q _ _ (ah.refl _) rfl
  | some e =>
   refine⟨l,e,zs,cs,rfl,hl,hC,hn,λr ys H1 s1 y dk hy=>?_⟩;exact⟨r,_,ys,wo e cs,n,rfl,by lia,hN,dk,hy,ab3 (acE _ _) hn,bC e rfl,λv H2 s2 h2=>q v H2 (s1.trans s2) h2⟩
theorem Y5(T:aB):∀ N,aP (2 * N+1) T.nk (Cy N):=by
 intro N
 induction N with
 | zero =>
  refine okN T.nk.F oF.1 (λvs H Q E h=>?_) (λa8 A outer s H vs Q E hr h=>?_)
  .obtain⟨l,m,zs,cs,n,rfl,hm,hN,y⟩:=h;exact absurd hN (adH _)
  .obtain⟨l,m,zs,cs,n,rfl,hm,hN,y⟩:=h;exact absurd hN (adH _)
 | succ N ih =>
  refine okN T.nk.F oF.1 (λvs H Q E h=>?_) (λa8 A outer s H vs Q E hr h=>?_)
  .obtain⟨l,m,zs,cs,n,rfl,y⟩:=h;rfl
  .obtain⟨l,m,zs,cs,n,rfl,hm,hN,hl,hC,hn,bC,q⟩:=h;refine⟨_,(ar (aH (j4 (aa 1) af) (au (aA (aM (ae aQ ag)))) aG) (ar (jG (i:=2) oF.nd rfl (afM rfl) (bD bE (bD bE (aa 0) af (λy y=>rfl)) af (λy y=>rfl))) (ar (jG (i:=3) oF.nd rfl (afM rfl) (bD bE (bD bE (aa 0) af (λy y=>rfl)) af (λy y=>rfl))) (ar (jG (i:=4) oF.nd rfl (afM rfl) (eJ (Lv T N ih) (hr.mono (by lia)) rfl T.nj.m T.nj.F.kp T.nj.b .nil bB (ae (aa 0) (ae (bD bE (aa 2) af (λy y=>rfl)) (ae (aa 1) ag))))) (ar (jG (i:=5) oF.nd rfl (afM rfl) (mw (bq (bD bE (aa 2) af (λy y=>rfl)) (bD bE (aa 3) af (λy y=>rfl))) bG (eJ (Lv T N ih) (hr.mono (by lia)) rfl T.nj.m T.nj.F.kp T.nj.b .nil bB (ae (aa 0) (ae (bD bE (aa 3) af (λy y=>rfl)) (ae (aa 1) ag)))))) (au (aA (aM (ae aQ (ae (aa 2) (ae (aa 3) (ae (aa 4) (ae (aa 5) ag))))))))))))),?_⟩;have zl:=hC.len;cases n with
   | zero =>
    refine aU (λy=>?_) λh0=>absurd (show m<0 by lia) h0;exact⟨by decide,λr hr=>q _ _ (ak hr) ⟨r,rfl,aq⟩⟩
   | succ n =>
    cases cs with
    | nil=>exact bC.elim
    | cons c cs =>
     obtain⟨z,zs,rfl⟩:∃ z z',zs=z::z':=by cases zs with|nil=>cases zl|cons z zs=>exact⟨z,zs,rfl⟩
     obtain⟨t,a,b,rfl,ht,ha,hb⟩:=id hC.1;have z0:de (V.ref t::zs) ((0:Nat):Int)=some (.ref t):=dq rfl;rfl';refine aU (λh0=>absurd h0 (by lia)) λy=>?_;refine bJ (ai.of hl) z0 (ay (aj.of ht) (v:=.ref a) rfl ?_);refine bJ (ai.of hl) z0 (ay (aj.of ht) (v:=.ref b) rfl (ay (aj.of ha) (v:=ev c.1.1) rfl ?_));refine⟨l,m,c.1.1,_,c::cs,n,rfl,by lia,by lia,hl,hC,hn,λe he=>bC e (oo.mpr (.inl he)),λv1 H1 s1 h1=>?_⟩;refine ay (aj.of (s1 _ _ ha)) (v:=ev c.1.1) rfl (ay (aj.of (s1 _ _ hb)) (v:=ev c.2.1) rfl (Lp ?_));rw[Lu] at q;by_cases he:c.1.1=c.2.1
     .rw[decide_eq_true he];rw[if_pos he] at q;refine⟨by decide,λp hp=>?_⟩;have u1:=ak (o:=.tup [.str "clash",.ref a,.ref b,v1,.non]) hp;have U:=s1.trans u1;exact q _ _ U ⟨p,a,b,v1,_,rfl,aq,U _ _ ha,U _ _ hb,h1.same u1,rfl⟩
     .rw[decide_eq_false he];rw[if_neg he] at q;refine ay (aj.of (s1 _ _ hb)) (v:=ev c.2.1) rfl ⟨l,m,c.2.1,_,c::cs,n,rfl,by lia,by lia,s1 _ _ hl,hC.imp λy y x=>x.same s1,hn,λe he=>bC e (oo.mpr (.inr he)),λv2 H2 s2 h2=>⟨by decide,λp hp=>?_⟩⟩;have u1:=ak (o:=.tup [.str "clash",.ref a,.ref b,v1,v2]) hp;have U:=s1.trans (s2.trans u1);exact q _ _ U ⟨p,a,b,v1,v2,rfl,aq,U _ _ ha,U _ _ hb,h1.same (s2.trans u1),h2.same u1⟩
theorem Y6(T:aB):aP 10 T.oO (Ls 8):=Y1 T 8
theorem Y7(T:aB):aP 19 T.nk (Cy 9):=Y5 T 9
noncomputable def eE:Pp->Nat
 | .nil=>0
 | .full=>1
 | .cls _ a b=>(if eE a<=eE b then eE b else eE a)+1
theorem Lw:∀ (n:Nat) (cs:List Cl),eE (mX n cs)<=n+1
 | 0,_=>ab4 _
 | n+1,[]=>afo _ _
 | n+1,c::cs=>by
  have one:∀ o,eE (uK n (c::cs) o)<=n+1:=λo=>by
   cases o with
   | none=>exact acr _
   | some e=>exact Lw n _
  have two:eE (if c.1.1=c.2.1 then .nil else uK n (c::cs) c.2.1)<=n+1:=by
   split
   .exact acr _
   .exact one _
  rw[Lu];show (if _<=_ then _ else _)+1<=n+1+1;have:=one c.1.1;split<;>lia
inductive Cz(G H:Hp)(v:V)(sw gw:List W2)(tb:Tb)(mo:Int):Prop
 | nC (r k:ab6) (j:Nat) (_:v = .ref r) (_:H r=some (.tup [.str "never",.ref k])) (_:H k=some (.tup [.str "step",.int (j:Int)])) (_:sw[j]?=some none)
 | gol (r k:ab6) (j:Nat) (_:v = .ref r) (_:H r=some (.tup [.str "never",.ref k])) (_:H k=some (.tup [.str "at",.int (j:Int)])) (_:gw[j]?=some none)
 | pap (r:ab6) (k:V) (t:Pp) (pp:List P2) (gs:List S2) (_:v = .ref r) (_:H r=some (.tup [.str "never",k])) (_:gq H k t) (_:eE t<=9) (_:sw=pp.map ic) (_:gw=gs.map some) (_:Val pp gs tb mo t [])
 | may (r k:ab6) (cs:List Int) (pp:List P2) (gs:List S2) (es:List Int) (_:v = .ref r) (_:H r=some (.tup [.str "may",.ref k])) (_:H k=some (.lst (cs.map V.int))) (_:G k=none) (_:cs.length=gw.length) (_:sw=pp.map ic) (_:gw=gs.map some) (_:jh pp (bO cs)) (_:∀ t s,gs[t]?=some s->bV s (bO cs t)) (_:(es.length:Int)<=mo) (_:meets (fj tb es) (bO cs))
noncomputable def gu(gs:List S2):List Mk:=(ab2 gs.length).map λi=>(i,gs.getD i (none,none))
theorem Lx{gs:List S2}{i:Nat}{m:Mk}(h:(gu gs)[i]?=some m):m.1=i/\gs[i]?=some m.2:=by
 unfold gu at h;rw[aca] at h;obtain⟨k,hk,rfl⟩:=acC.mp h;have hi:i<gs.length:=by
  have:=(ab0.mp hk).1
  rwa [ab5] at this
 rw[acV hi] at hk;cases hk;exact⟨rfl,by show gs[i]?=some (gs.getD i _);rw[abV,abW hi];rfl⟩
theorem Ly(h:m∈gu gs):m.1<gs.length/\gs[m.1]?=some m.2:=by obtain⟨i,hi⟩:=ac2.mp h;obtain⟨e1,e2⟩:=Lx hi;rw[<- e1] at e2;exact⟨(ab0.mp e2).1,e2⟩
theorem xZ(gs:List S2):(gu gs).length=gs.length:=by unfold gu;rw[abT,ab5]
theorem ax.x4:∀ {xs:List V} {as:List α},xs.length=as.length->(∀ (i:Nat) x a,xs[i]?=some x->as[i]?=some a->R x a)->ax R xs as
 | [],[],_,_=>trivial
 | _::_,_::_,h,k=>⟨k 0 _ _ rfl rfl,ax.x4 (by simpa using h) λi x a h1 h2=>k (i+1) x a h1 h2⟩
 | [],_::_,h,_=>by cases h
 | _::_,[],h,_=>by cases h
theorem getD_none{ws:List W2}{j:Nat}(h:j<ws.length)(e:aeT (ws.getD j none)=true):ws[j]?=some none:=by
 rw[abV,abW h] at e;rw[abW h];cases hw:ws[j] with
 | none=>rfl
 | some s=>rw[hw] at e;cases e
inductive Y8(B C:ab6)(vs:List V)(H:Hp)(Q:VK)(E:XK):Prop
 | mk(x p b:ab6)(e t u d m:Int)(xs:List V)(ps:List Pa)(tb:Tb)(_:vs=[.ref x,.ref b])(_:cf B H x e t u d m p tb)(_:bK e t tb)(_:tb.length<=60)(_:1<=t)(_:t<=12)(_:0<=e)(_:e<=7)(_:0<=m)(_:m<=7)(_:ai K H b xs)(_:dw H xs ps)(_:ps.length<=900)(_:(¬ c6 t ps->E (.ref C) none H))(_:(c6 t ps->∀ v H',ah H H'->Cz H H' v (dF u d ps (t-1).toNat) (eQ ps t.toNat) tb m->Q v H'))
theorem x5(T:aB):aP 20 T.x_ask (Y8 T.aT T.fD):=by
 refine ig oG ?_;rintro n n n s H vs n n hr ⟨x,p,b,e,t,u,d,m,xs,ps,tb,rfl,hb,hot,b6,t1,t2,e0,e7,m0,m7,hX,hP,hn,Q0,Q9⟩;refine⟨_,(ar (aJ 2 oG.nd (dO (XS T) hr (ae (aa 0) (ae (aa 1) ag)))) (ar (aJ 3 oG.nd (dO (XU T) hr (ae (aa 0) (ae (aa 1) ag)))) (ar (aH (lq (IB (dW hr)) bG (aa 2) (by with_unfolding_all rfl)) (au (aA (aM (ae aQ (ae (aM (ae aQ (ae (lA ac3 afn ahf (IC (dW hr)) (aa 2) (ae bG ag)) ag))) ag))))) aG) (ar (aH (lq (IB (dW hr)) bG (aa 3) (by with_unfolding_all rfl)) (au (aA (aM (ae aQ (ae (aM (ae aQ (ae (lA ac3 afn ahf (IC (dW hr)) (aa 3) (ae bG ag)) ag))) ag))))) aG) (ar (aJ 4 oG.nd (Ux rfl (by rfl) T.nu (by rfl) T.xE (ae (aa 3) ag))) (ar (aJ 5 oG.nd (aK (YQ T) hr (ae (aa 2) (ae (aD mF (cn (ae (aM (ae bG (ae (aa 4) ag))) ag)) (aK (Yk T) hr (ae (aa 0) ag))) ag)))) (ar (aJ 6 oG.nd (aK (Y6 T) hr (ae (aa 5) (ae (bz rfl (aa 0) rfl) ag)))) (ar (aH (ee (aa 6)) (au (aA (aM (ae aQ (ae (aK (Y7 T) hr (ae (aa 5) (ae (bz rfl (aa 0) rfl) ag))) ag))))) aG) (au (aA (aM (ae aQ (ae (aK (YA T) hr (ae (aa 2) (ae (aD mF (aa 4) (aK (Yi T) hr (ae (aa 0) (ae (aa 6) ag)))) ag))) ag))))))))))))),?_⟩;obtain⟨⟨dx,hx⟩,kvs,hkv,hTA⟩:=id hb;have CA:iu T.aT H x e t u d m p kvs:=⟨⟨dx,hx⟩,hkv⟩
 by_cases hk:c6 t ps
 case neg =>
  refine aC (λn n=>False) (λN hN=>?_) (λn n n n h=>h.elim);exact⟨x,p,b,e,t,u,d,m,kvs,xs,ps,rfl,CA,t1,t2,hX,hP,hn,λn=>Q0 hk,λz=>absurd z hk⟩
 have Q1:=Q9 hk;refine aC (λσ H1=>∃ s ys,σ=[some (.ref x),some (.ref b),some (.ref s),none,none,none,none]/\ah H H1/\H1 s=some (.lst ys)/\ax (gY H1) ys (dF u d ps (t-1).toNat)) (λN hN=>?_) ?_
 .exact⟨x,p,b,e,t,u,d,m,kvs,xs,ps,rfl,CA,t1,t2,hX,hP,hn,λz=>absurd hk z,λn l ys H1 s1 n hl hW=>hN _ _ ⟨l,ys,rfl,s1,hl,hW⟩⟩
 rintro n yR σ H1 ⟨s,ys,rfl,s1,hs,hW⟩;subst yR;refine aC (λσ H2=>∃ gl zs,σ=[some (.ref x),some (.ref b),some (.ref s),some (.ref gl),none,none,none]/\ah H1 H2/\H2 gl=some (.lst zs)/\ax (gY H2) zs (eQ ps t.toNat)) (λN hN=>?_) ?_
 .exact⟨x,p,b,e,t,u,d,m,kvs,xs,ps,rfl,CA.same s1,t1,t2,s1.seq hX,hP.same s1,hn,λz=>absurd hk z,λn l ys H2 s2 n hl hW=>hN _ _ ⟨l,ys,rfl,s2,hl,hW⟩⟩
 rintro n yR σ H2 ⟨gl,zs,rfl,s2,gO,hG⟩;subst yR;have CB:=s1.trans s2;have da:=s2 _ _ hs;have o9:=hW.imp λn n r=>r.same s2;have wl:(dF u d ps (t-1).toNat).length=(t-1).toNat:=by unfold dF;rw[abT,ab5]
 have gw:(eQ ps t.toNat).length=t.toNat:=by unfold eQ;rw[abT,ab5]
 have yl:=hW.len;have zl:=hG.len;obtain⟨n1,n2,n3⟩:=AR o9;obtain⟨k1,k2,k3⟩:=AR hG;refine aC (λσ H3=>σ=[some (.ref x),some (.ref b),some (.ref s),some (.ref gl),none,none,none]/\H3=H2/\(dF u d ps (t-1).toNat).any aeT=false) (λN hN=>?_) ?_
 .rfl';refine⟨s,ys,rfl,rfl,ai.of da,n1,?_⟩;rw[n2];cases hA:(dF u d ps (t-1).toNat).any aeT with
  | false =>
   rfl';exact hN _ _ ⟨rfl,rfl,hA⟩
  | true =>
   rfl';obtain⟨j,j1,j2,j3⟩:=AS (d:=V.non) (n2.trans hA);refine⟨.inl ⟨rfl,_,ai.of da⟩,s,ys,j,rfl,rfl,ai.of da,n1,j1,by lia,j2,j3,aX,λk ix=>⟨aX,λr hr=>?_⟩⟩;have u1:=ak (o:=.tup [.str "step",.int (j:Int)]) ix;have u2:=ak (o:=.tup [.str "never",.ref k]) hr;rw[n3] at j2;exact Q1 _ _ (CB.trans (u1.trans u2)) (.nC r k j rfl aq (u2 _ _ aq) (getD_none (by lia) j2))
 rintro n yR σ H3 ⟨rfl,rfl,hA⟩;subst yR;refine aC (λσ H4=>σ=[some (.ref x),some (.ref b),some (.ref s),some (.ref gl),none,none,none]/\H4=H3/\(eQ ps t.toNat).any aeT=false) (λN hN=>?_) ?_
 .rfl';refine⟨gl,zs,rfl,rfl,ai.of gO,k1,?_⟩;rw[k2];cases hB:(eQ ps t.toNat).any aeT with
  | false =>
   rfl';exact hN _ _ ⟨rfl,rfl,hB⟩
  | true =>
   rfl';obtain⟨j,j1,j2,j3⟩:=AS (d:=V.non) (k2.trans hB);refine⟨.inl ⟨rfl,_,ai.of gO⟩,gl,zs,j,rfl,rfl,ai.of gO,k1,j1,by lia,j2,j3,aX,λk ix=>⟨aX,λr hr=>?_⟩⟩;have u1:=ak (o:=.tup [.str "at",.int (j:Int)]) ix;have u2:=ak (o:=.tup [.str "never",.ref k]) hr;rw[k3] at j2;exact Q1 _ _ (CB.trans (u1.trans u2)) (.gol r k j rfl aq (u2 _ _ aq) (getD_none (by lia) j2))
 rintro n yR σ H4 ⟨rfl,rfl,hB⟩;subst yR;obtain⟨pp,ep,az⟩:=IE (f:=λ(k:Nat)=>fQ (none,none) ((some (-d),some u)::sel ps "step" (k:Int))) (λk s h=>T4 h) (ab2 (t-1).toNat) λk hk e=>IF hA _ (ab7.mpr ⟨k,hk,rfl⟩) e;replace ep:dF u d ps (t-1).toNat=pp.map ic:=ep;obtain⟨gs,eg⟩:=all_some _ (IF hB);have ppl:pp.length=(t-1).toNat:=by rw[<- wl,ep,abT]
 have gsl:gs.length=t.toNat:=by rw[<- gw,eg,abT]
 rw[ep] at o9;have Lz:=IG o9;have CC:=hG;rw[eg] at CC;have M1:∀ mm∈gu gs,mm.1<=pp.length:=λmm hm=>by have:=(Ly hm).1;lia
 have M2:∀ r∈tb,r.1.2.toNat<=pp.length:=λr hr=>by have ho:=hot.2 r hr;unfold n9 at ho;lia
 refine aC (λσ H5=>∃ k vs,σ=[some (.ref x),some (.ref b),some (.ref s),some (.ref gl),some (.ref k),none,none]/\ah H4 H5/\H5 k=some (.lst vs)/\ax (fq H5) vs (gu gs)) (λN hN=>?_) ?_
 .rfl';refine⟨zs,ai.of gO,λl vs H5 s5 n hl Y9 hv=>hN _ _ ⟨l,vs,rfl,s5,hl,ax.x4 (by rw[Y9,xZ,CC.len,abT]) λi y mk e1 e2=>?_⟩⟩;obtain⟨f1,f2⟩:=Lx e2;obtain⟨z,hz,rz⟩:=CC.at (i:=i) (by rw[aca,f2];rfl);obtain⟨p0,rfl,n,h5⟩:=hv i y z e1 hz;obtain⟨pz,rfl,hpz⟩:=rz;exact⟨p0,pz,rfl,by rw[h5,f1],s5 _ _ hpz⟩
 rintro n yR σ H5 ⟨k,vs,rfl,s5,hkl,hM⟩;subst yR;have vl:=hM.len;rw[xZ] at vl;have S5:=CB.trans s5;have vn:vs.length<=12:=by lia
 refine aC (λσ H6=>∃ c ws cs,σ=[some (.ref x),some (.ref b),some (.ref s),some (.ref gl),some (.ref k),some (.ref c),none]/\ah H5 H6/\H6 c=some (.lst ws)/\ax (d8 H6) ws cs/\cs.length<=64/\wO pp (kT (gu gs) e.toNat tb) cs/\∀ g∈kT (gu gs) e.toNat tb,∀ h∈kT (gu gs) e.toNat tb,kS pp g h cs) (λN hN=>?_) ?_
 .rfl';refine⟨aX,λt0 Za=>⟨by decide,λl0 ft=>?_⟩⟩;have u1:=ak (o:=.tup [.non,.ref k]) Za;have u2:=ak (o:=.lst [.ref t0]) ft;have U:=u1.trans u2;refine⟨x,p,e,t,u,d,m,tb,rfl,hb.same (S5.trans U),hot.1,by lia,λr hr=>(hot.2 r hr).2.1,e0,e7,λl ws H6 s6 n hl LA=>?_⟩;have LB:=LA.len;unfold tO at LB;rw[abT,abT,ab5] at LB;refine⟨l,rfl,[.ref t0],s6 _ _ aq,ws,hl,ab3 (by show 1+ws.length<=30;lia) (by decide),λc hc=>?_⟩;have u3:=ak (o:=.lst ([.ref t0]++ws)) hc;have S6:=s5.trans (U.trans (s6.trans u3));refine⟨s,c,ys,.ref t0::ws,pp,kT (gu gs) e.toNat tb,rfl,ai.of (S6 _ _ da),Lz.same S6,az,by lia,ai.of aq,⟨⟨t0,k,vs,rfl,(u2.trans (s6.trans u3)) _ _ aq,(U.trans (s6.trans u3)) _ _ hkl,hM.imp λn n r=>r.same (U.trans (s6.trans u3))⟩,LA.imp λn n r=>r.same u3⟩,?_,λg hg=>?_,λl7 Zb Zc H7 s7 n a1 a2 a3 a4 a5=>hN _ _ ⟨l7,Zb,Zc,rfl,U.trans (s6.trans (u3.trans s7)),a1,a2,a3,a4,a5⟩⟩
  .unfold kT tO;rw[acB,abT,abT,ab5];lia
  .rcases acd.mp hg with rfl|z
   .exact⟨by show (gu gs).length<=1000;rw[xZ];lia,M1⟩
   .obtain⟨g1,oj,rfl⟩:=ab7.mp z;obtain⟨i,n,rfl⟩:=ab7.mp oj;refine⟨ab3 (by unfold mU;rw[abT];exact ab3 (acE _ _) (by rw[mS];exact ab4 _)) (by lia:tb.length<=1000),λmm dz=>?_⟩;obtain⟨r,hr,n,rfl⟩:=AU.mp dz;exact M2 r hr
 rintro n yR σ H6 ⟨c,ws,cs,rfl,s6,hc,hC,br,hsnd,sJ⟩;subst yR;have S6:=S5.trans s6;refine aC (λσ H7=>∃ av,σ=[some (.ref x),some (.ref b),some (.ref s),some (.ref gl),some (.ref k),some (.ref c),some av]/\ah H6 H7/\((av = .non/\iF (m.toNat+1) cs) ∨ ∃ f es,av = .ref f/\H7 f=some (.lst (es.map V.int))/\tP es cs/\es.length<=m.toNat)) (λN hN=>?_) ?_
 .rfl';refine⟨_,_,_,S6 _ _ hx,T.bF,T.xN,_,rfl,?_⟩;exact⟨c,ws,cs,m.toNat,by rw[ad3 m0],by lia,by lia,hc,hC,br,λH7 s7 h7=>hN _ _ ⟨_,rfl,s7,.inl ⟨rfl,h7⟩⟩,λr es H7 s7 n hr h1 h2=>hN _ _ ⟨_,rfl,s7,.inr ⟨r,es,rfl,hr,h1,h2⟩⟩⟩
 rintro n yR σ H7 ⟨av,rfl,s7,⟨rfl,bC⟩|⟨f,es,rfl,hf,hcov,hle⟩⟩<;>subst yR
 .have S7:=S6.trans s7;rfl';refine⟨_,_,_,S7 _ _ hx,T.bF,T.xN,_,rfl,?_⟩;refine⟨c,m,ws,cs,m.toNat+1,rfl,by lia,by lia,s7 _ _ hc,hC.imp λn n r=>r.same s7,br,bC,λv H8 s8 h8=>⟨aX,λz hz=>?_⟩⟩;have u1:=ak (o:=.tup [.str "never",v]) hz;exact Q1 _ _ (S7.trans (s8.trans u1)) (.pap z v _ pp gs rfl aq (h8.same u1) (ab3 (Lw _ _) (by lia)) ep eg (II _ _ _ bC (by rw[adG];lia) (snd_mk hot (λmm hm=>(Ly hm).2) hsnd)))
 .have S7:=S6.trans s7;have M3:∀ mm∈gu gs++fj tb es,mm.1<=pp.length:=λmm hm=>by
   rcases acw.mp hm with z|z
   .exact M1 mm z
   .obtain⟨r,hr,n,rfl⟩:=AV.mp z;exact M2 r hr
  have Zd:=Ub hot az M3 hcov sJ;rfl';refine⟨x,p,f,e,t,u,d,m,tb,es,rfl,hb.same S7,hot.1,by lia,λr hr=>(hot.2 r hr).2.1,ai.of hf,by lia,λr rs H8 s8 hr q8=>⟨r,rfl,vs,(s6.trans (s7.trans s8)) _ _ hkl,rs,hr,?_,λk2 jn=>?_⟩⟩
  .replace q8:ax (fq H8) rs (fj tb es):=q8;have e1:=q8.len;have e2:(fj tb es).length<=tb.length:=by unfold fj;rw[abT];exact ab3 (acE _ _) (by rw[mS];exact ab4 _)
   exact ab3 (by lia:_<=100) (by decide)
  replace q8:ax (fq H8) rs (fj tb es):=q8;have u1:=ak (o:=.lst (vs++rs)) jn;have W:=s5.trans (s6.trans (s7.trans (s8.trans u1)));have X8:=S7.trans (s8.trans u1);have ml:(gu gs++fj tb es).length<=1000:=by
   rw[acj,xZ];have e2:(fj tb es).length<=tb.length:=by unfold fj;rw[abT];exact ab3 (acE _ _) (by rw[mS];exact ab4 _)
   lia
  refine⟨s,k2,ys,vs++rs,pp,gu gs++fj tb es,rfl,ai.of (W _ _ da),Lz.same W,ai.of aq,ax.app (hM.imp λn n r=>r.same (s6.trans (s7.trans (s8.trans u1)))) (q8.imp λn n r=>r.same u1),az,by lia,ml,M3,λbC=>absurd Zd bC,λl9 co H9 s9 f9 Ze abP el LC=>⟨aX,λz hz=>?_⟩⟩;have u9:=ak (o:=.tup [.str "may",.ref l9]) hz;refine Q1 _ _ (X8.trans (s9.trans u9)) (.may z l9 co pp gs es rfl aq (u9 _ _ Ze) (X8.free f9) (by lia) ep eg el (λtt ss hh=>?_) (by lia) λmm hm=>LC mm (acz _ hm));refine LC (tt,ss) (adO _ (ac2.mpr ⟨tt,?_⟩));have Zf:=(ab0.mp hh).1;unfold gu;rw[aca,acV Zf];show some (tt,gs.getD tt _)=_;rw[abV,hh];rfl
theorem CD(f:P2->Int):∀ {n:Nat},i+n<=ps.length->((ab2 n).map λk=>f (aL ps (i+k))).sum=pre f ps (i+n)-pre f ps i
 | 0,_=>by simp
 | n+1,h=>by rw[ajE,adA,ajw,CD f (by lia),show i+(n+1)=i+n+1 by lia,gZ _ _ (by lia)];simp only[acs,agq,ahb,akf];lia
theorem LD{H:Hp}{ps:List P2}{i n:Nat}{f:P2->Int}{te:TE}{ρ:St}{Q:VK}(h9:n<=900)(he:∀ k:Nat,k<n->∀ Q:VK,Q (.int (f (aL ps (i+k)))) H->te (some (.int ((i:Int)+(k:Nat)))::ρ) H Q)
 (q:∀ l,H l=none->Q (.ref l) (upd H l (.lst (((ab2 n).map λk=>f (aL ps (i+k))).map V.int)))):mL (iY (i:Int) n) ρ zo te H Q:=by
 refine cJ gW (by rw[abT,ab5];exact ab3 h9 (by decide)) (mP (R:=λx (k:Nat)=>x=V.int ((i:Int)+(k:Nat))) (as:=ab2 n) (p:=λy=>true) (f:=λk=>.int (f (aL ps (i+k)))) trivial ?_ (λy y y y Q h=>h) (λx k hk y r Q h=>?_) ?_)
 .exact ax.x4 (by rw[abT]) λj x a h1 h2=>by rw[aca,h2] at h1;cases h1;rfl
 .subst r;exact he k (acp.mp hk) Q h
 .rw[aci,aev.mpr λy y=>rfl];rw[ac1] at q;exact q
inductive Zg(vs:List V)(H:Hp)(Q:VK)(aN:XK):Prop
 | mk(s:ab6)(zs:List V)(ps:List P2)(i j:Nat)(_:vs=[.ref s,.int i,.int j])(_:ai K H s zs)(_:bR H zs ps)(_:ps.length<=900)(_:i<=ps.length)(_:j<=ps.length)(_:∀ H',ah H H'->Q (.int (bN ps i j)) H')
theorem Zh(T:aB):aP 1 T.xA Zg:=by
 refine bA Bh ?_;rintro y y y s H y Q y y ⟨s,zs,ps,i,j,rfl,hs,hP,h9,hi,hj,q⟩;refine⟨_,(ar (aJ 3 Bh.nd (bT (Gb rfl) (by rfl) T.Kx E4 (ae (dg (cO [0] [j7]) rfl (my rfl T.eh (ae (aa 1) (ae (aa 2) ag))) (λC s2 H2 ex pn=>⟨df,(b0 (K:=K) (b0 (K:=K) (aa 1) (aa 0)) af)⟩)) ag))) (au (aA (aD bW (aa 3) (bT (Gb rfl) (by rfl) T.Kx E4 (ae (dg (cO [0] [j7]) rfl (my rfl T.eh (ae (aa 2) (ae (aa 1) ag))) (λC s2 H2 ex pn=>⟨df,(b0 (K:=K) (b0 (K:=K) (aa 1) (aa 0)) af)⟩)) ag)))))),?_⟩;have hl:=hP.len;have row:∀ (H':Hp) (k:Nat),ah H H'->k<ps.length->∃ p,de zs (k:Int)=some (.ref p)/\H' p=some (.tup [.int (aL ps k).1,.int (aL ps k).2]):=λH' k s' hk=>by obtain⟨v,hv,p,rfl,hp⟩:=hP.at (abW (l:=ps) (i:=k) hk);refine⟨p,dq hv,?_⟩;rw[show ps[k]=aL ps k by unfold aL;rw[abV,abW hk];rfl] at hp;exact s' _ _ hp
 rfl';refine⟨by lia,by lia,by lia,by lia,LD (ps:=ps) (f:=λp=>p.2) (by lia) (λk hk Q h=>?_) λl qE=>?_⟩
 .obtain⟨p,e,hp⟩:=row H (i+k) (ah.refl _) (by lia);rfl';exact bJ hs (by rw[<- e];congr 1) (ay (aj.of hp) rfl h)
 have u1:=ak (o:=.lst (((ab2 (((j:Int)-(i:Int)).toNat)).map λk=>(aL ps (i+k)).2).map V.int)) qE;refine⟨l,rfl,_,ai.of aq,by lia,by lia,by lia,by lia,LD (ps:=ps) (f:=λp=>p.1) (by lia) (λk hk Q h=>?_) λl2 a7=>?_⟩
 .obtain⟨p,e,hp⟩:=row _ (j+k) u1 (by lia);exact bJ (u1.seq hs) (by rw[<- e];congr 1) (ay (aj.of hp) rfl h)
 refine⟨l2,rfl,_,ai.of aq,?_⟩;have fin:=q _ (u1.trans (ak (o:=.lst (((ab2 (((i:Int)-(j:Int)).toNat)).map λk=>(aL ps (j+k)).1).map V.int)) a7));have e:bN ps i j=((ab2 (((j:Int)-(i:Int)).toNat)).map λk=>(aL ps (i+k)).2).sum-((ab2 (((i:Int)-(j:Int)).toNat)).map λk=>(aL ps (j+k)).1).sum:=by
  unfold bN;by_cases gX:i<=j
  .rw[if_pos gX,show ((i:Int)-(j:Int)).toNat=0 by lia,CD (λp=>p.2) (by lia),show i+((j:Int)-(i:Int)).toNat=j by lia];simp
  .rw[if_neg gX,show ((j:Int)-(i:Int)).toNat=0 by lia,CD (λp=>p.1) (by lia),show j+((i:Int)-(j:Int)).toNat=i by lia];simp;lia
 rw[e] at fin;exact fin
inductive Zi(vs:List V)(H:Hp)(Q:VK)(aN:XK):Prop
 | mk(v:V)(w a b z:ab6)(e t u d mo:Int)(zs:List V)(gs:List S2)(tb:Tb)(as:List Int)(s:En × Nat)(m:Mk)(_:vs=[v,.ref b,.ref a,.ref z])(_:dE H v w e t u d mo tb)(_:(tb.map (·.1)).Nodup)(_:H a=some (.tup [ev s.1,.int (s.2:Int)]))(_:ai K H b zs)(_:ax (λv x=>aO H v x.1 x.2) zs gs)(_:(∀ x∈gs,ba x.1 x.2=false))(_:H z=some (.lst (as.map V.int)))(_:jZ gs tb as s m)(_:(∀ r∈tb,r.1.2.toNat<gs.length))(_:∀ v,aO H v m.2.1 m.2.2->Q v H)
theorem LF(T:aB):aP 2 T.oR Zi:=by
 refine bA Kp ?_;rintro y y y y y y y y hr ⟨v,w,a,b,z,e,t,u,d,mo,zs,gs,tb,as,⟨o,k⟩,⟨k2,wd⟩,rfl,⟨r,rfl,hR,hT⟩,cC,ha,hb,hG,el,hz,⟨hk,hm⟩,aZ,q⟩;refine⟨_,(ar (aH (PW.pt (cD (bZ (b9 (bT lB (by rfl) T.iS iH (ae (aa 2) (ae (lj (v:=.ty "tuple") rfl T.xF vL rfl) ag))))) (eS (jo (cW T.cH (ae (aa 2) ag)) af)))) (au (aA bG)) aG) (ar (aH (PW.pt (cD (bZ (b9 (aK (qT T) hr (ae (ao (aa 2) af) ag)))) (cD (j4 (ao (aa 2) af) af) (eS (A4 (ao (aa 2) af) (cW T.cH (ae (aa 1) ag))))))) (au (aA bG)) aG) (ar (aH (ee (ao (aa 2) af)) (ar (aH (b9 (aK (B8 T) hr (ae (ao (aa 1) (ao (aa 2) af)) ag))) (au (aA bG)) aG) (au (aA (ao (aa 1) (ao (aa 2) af))))) aG) (ar (aH (PW.pt (cD (bZ (b9 (aK (qT T) hr (ae (ao (aa 2) af) ag)))) (cD (lq N4 (ao (aa 2) af) (aa 3) (by with_unfolding_all rfl)) (eS (rK (z7 (dW hr) (aa 2) (ao (aa 0) af))))))) (au (aA bG)) aG) (au (aA (qj (dW hr) (ao (aa 0) af) (aa 2) (λy y=>rfl)))))))),?_⟩;obtain rfl:k2=k:=hk;have gO:=hG.len;have fV:k2<zs.length:=by
  cases o with
  | none =>
   have:=(ab0.mp (show gs[k2]?=some wd from hm)).1;lia
  | some x =>
   have:=aZ _ hm.2;rw[acS] at this;lia
 rfl';refine vM ha ?_;refine⟨_,nR (aj.of ha),?_⟩;refine ay (aj.of ha) (v:=.int k2) rfl ⟨_,rfl,.inr ⟨_,rfl⟩,?_⟩;simp only[isWhole];refine ay (aj.of ha) (v:=.int k2) rfl ?_;rfl';refine aU (λh0=>absurd h0 (by lia)) λy=>ay (aj.of ha) (v:=.int k2) rfl ⟨_,eW hb,?_⟩;refine aU (λh0=>absurd h0 (by lia)) λy=>ay (aj.of ha) (v:=ev o) rfl ?_;cases o with
 | none =>
  obtain⟨v,hv,pz,rfl,hp⟩:=hG.at (i:=k2) (a:=wd) hm;refine ay (aj.of ha) (v:=.int k2) rfl (bJ hb (dq hv) ⟨pz,wd.1,wd.2,rfl,aj.of hp,?_⟩);rw[el wd (ac2.mpr ⟨_,hm⟩)];exact ay (aj.of ha) (v:=.int k2) rfl (bJ hb (dq hv) (q _ ⟨pz,rfl,hp⟩))
 | some e =>
  refine ay (aj.of ha) (v:=.int e) rfl ⟨_,rfl,.inr ⟨_,rfl⟩,?_⟩;simp only[isWhole];refine ay (aj.of ha) (v:=.int e) rfl ?_;obtain⟨A5,cg⟩:e∉as/\((e,((k2:Nat):Int)),wd)∈tb:=hm;obtain⟨kvs,hkv,hA⟩:=id hT;obtain⟨vv,hvv,va,rfl,hva⟩:=(hA.val (e,((k2:Nat):Int))).2 _ (jd cC cg);refine⟨z,_,rfl,.inl (ai.of hz),rfl,HH as,⟨_,rfl,?_⟩⟩;rw[Aw];refine aU (λh0=>absurd h0 (by simpa using A5)) λy=>?_;refine ay (aj.of hR) (v:=.ref w) rfl ?_;rfl';refine⟨_,eZ.t (k:=spot e (k2:Int)) hkv ha,?_⟩;rw[hvv];refine aU (λh0=>nomatch h0) λy=>?_;refine ay (aj.of hR) (v:=.ref w) rfl ?_;exact⟨w,rfl,.ref va,by rw[<- hvv];exact eZ.t (k:=spot e (k2:Int)) hkv ha,q _ ⟨va,rfl,hva⟩⟩
inductive LG(vs:List V)(H:Hp)(Q:VK)(aN:XK):Prop
 | mk(v:V)(w c:ab6)(e t u d m:Int)(tb:Tb)(cs:List Int)(_:vs=[v,.ref c])(_:dE H v w e t u d m tb)(_:1<=t)(_:t<=12)(_:bK e t tb)(_:tb.length<=60)(_:H c=some (.lst (cs.map V.int)))(_:cs.length=t.toNat)(_:(∀ k,k+1<cs.length->-d<=fz cs (k+1)-fz cs k/\fz cs (k+1)-fz cs k<=u))(_:(∀ zs:List Int,zs.Nodup->(∀ i,i∈zs↔Ck tb cs i)->(zs.length:Int)<=m))(_:∀ H',ah H H'->Q (.bl true) H')
inductive x6(H:Hp)(v:V)(c:ab6)(_:Nat)(σ:St)(H1:Hp):Prop
 | mk(e1:Option V)(_:σ=[some v,some (.ref c),e1])(_:ah H H1)
theorem x8(T:aB):aP 3 T.V4 LG:=by
 refine bA Bg ?_;rintro y y y y H y Q y hr ⟨v,w,c,e,t,u,d,m,tb,cs,rfl,hW,t1,t2,az,b6,hc,br,cT,mW,q⟩;refine⟨_,(ar (aH (PW.pt (cD (bZ (b9 (bT lB (by rfl) T.iS iH (ae (aa 1) (ae (lj (v:=.ty "list") rfl T.nu mH rfl) ag))))) (eS (jo (cW T.cH (ae (aa 1) ag)) (ao (aa 0) af))))) (au (aA cM)) aG) (ar (aH (bZ (b9 (bT (sN rfl) (by rfl) T.uq sC (ae (dg (cO [] []) rfl (cE (aa 1)) (λC s2 H2 ex pn=>⟨df,(aK (qT T) hr (ae (aa 0) ag))⟩)) ag)))) (au (aA cM)) aG) (ar (cU acH rfl (iB rfl T.eh (ae (aD bW (ao (aa 0) af) af) ag)) (cv 2 Bg.nd) (au (aH (bZ (b9 (aK (xQ T) hr (ae (aM (ae (aD bW af (ao (aa 0) af)) (ae (ao (aa 0) af) ag))) (ae (aD bW (ao (aa 1) (aD bb (aa 2) af)) (ao (aa 1) (aa 2))) ag))))) (au (aA cM)) aG))) (au (aA (eG (gM fK) (aK (Yb T) hr (ae (aa 0) (ae (aa 1) ag))) (ao (aa 0) af) (cI _))))))),?_⟩;obtain⟨r,rfl,hR,hT⟩:=id hW;refine aC (x6 H (.ref r) c 0) (λN hN=>?_) ?_
 .rfl';refine zi hc ?_;refine⟨_,eW (ai.of hc),ay (aj.of hR) (v:=.int t) rfl ?_⟩;rw[abT,br];rfl';rw[if_neg (λz=>z (by lia))];exact hN _ _ ⟨_,rfl,ah.refl _⟩
 rintro y yR σ H1 ⟨e1,rfl,s1⟩;subst yR;refine aC (x6 H (.ref r) c 0) (λN hN=>?_) ?_
 .rfl';refine⟨⟨_,ai.of (s1 _ _ hc)⟩,cJ i8 (ab3 (by rw[abT];lia:(cs.map V.int).length<=100) (by decide)) (mP (R:=λx (n:Int)=>x=V.int n) (as:=cs) (p:=λy=>true) (f:=λy=>.bl true) (ai.of (s1 _ _ hc)) ?_ (λy y y y Q h=>h) (λx n y y r Q h=>?_) λl hl=>?_)⟩
  .exact ax.x4 (by rw[abT]) λj x a h1 h2=>by rw[aca,h2] at h1;cases h1;rfl
  .subst r;refine⟨_,rfl,.inr ⟨_,rfl⟩,?_⟩;simp only[isWhole];exact h
  .rw[aci,aev.mpr λy y=>rfl];refine⟨l,rfl,cs.map λy=>true,ai.of (by rw[aq,ac1];rfl),?_⟩;rw[if_neg (by simp)];exact hN _ _ ⟨_,rfl,s1.trans (ak hl)⟩
 rintro y yR σ H2 ⟨e1,rfl,s2⟩;subst yR;refine aC (x6 H (.ref r) c 0) (λN hN=>?_) ?_
 .rfl';refine ay (aj.of (s2 _ _ hR)) (v:=.int t) rfl ?_;refine⟨by lia,by lia,pR (x6 H (.ref r) c) ⟨_,rfl,s2⟩ ?_ (λσ H3 ⟨e1,h1,h2⟩=>hN _ _ ⟨e1,h1,h2⟩)⟩;rintro i σ H3 hi ⟨e1,rfl,s3⟩;refine ay (aj.of (s3 _ _ hR)) (v:=.int d) rfl (ay (aj.of (s3 _ _ hR)) (v:=.int u) rfl ⟨aX,λp hp=>?_⟩);have u4:=ak (o:=.tup [.int (0-d),.int u]) hp;have S4:=s3.trans u4;have bi:i+1<cs.length:=by lia
  refine bJ (ai.of (S4 _ _ hc)) (int_at (by lia) (by lia)) (bJ (ai.of (S4 _ _ hc)) (int_at (by lia) (by lia)) ⟨p,some (0-d),some u,_,rfl,aj.of aq,?_⟩);have hs:=cT i bi;unfold fz at hs;rw[show ((0:Int)+(i:Int)+1).toNat=i+1 by lia,show ((0:Int)+(i:Int)).toNat=i by lia,gK.mpr ⟨λx hx=>by cases hx;lia,λx hx=>by cases hx;lia⟩];exact⟨_,rfl,S4⟩
 rintro y yR σ H3 ⟨e1,rfl,s3⟩;subst yR;rfl';refine⟨.ref r,w,c,e,t,u,d,m,tb,cs,rfl,hW.same s3,az,b6,ai.of (s3 _ _ hc),br,λzs H4 s4 hz hm=>?_⟩;refine ay (aj.of ((s3.trans s4) _ _ hR)) (v:=.int m) rfl ?_;rfl';rw[decide_eq_true (mW zs hz hm)];exact q _ (s3.trans s4)
noncomputable def iz(s:S2):W2:=if ba s.1 s.2=true then none else some s
theorem Zj(h:iz s=some x):s=x/\ba s.1 s.2=false:=by
 unfold iz at h;split at h
 .cases h
 .rename_i hc;exact⟨Option.some.inj h,by simpa using hc⟩
theorem LH(h:iz s=none):ba s.1 s.2=true:=by
 unfold iz at h;split at h
 .rename_i hc;exact hc
 .cases h
theorem CF:∀ {gs:List S2} {fs:List S2},gs.map iz=fs.map some->gs=fs/\∀ x∈gs,ba x.1 x.2=false
 | [],[],_=>⟨rfl,λy h=>nomatch h⟩
 | [],_::_,h=>nomatch h
 | _::_,[],h=>nomatch h
 | g::gs,f::fs,h=>by
  obtain⟨h1,h2⟩:=List.cons.inj h;obtain⟨rfl,h3⟩:=Zj h1;obtain⟨rfl,h4⟩:=CF h2;refine⟨rfl,λx hx=>?_⟩;rcases acd.mp hx with rfl|hx
  .exact h3
  .exact h4 x hx
theorem Zk(h:ax (λv x=>aO H v x.1 x.2) ys sl)(e:sl.map iz=pp.map ic):bR H ys pp/\(∀ x∈sl,ba x.1 x.2=false)/\sl.length=pp.length:=by obtain⟨rfl,h2⟩:=CF (fs:=pp.map λp=>(some p.1,some p.2)) (by rw[e,ac1];rfl);refine⟨?_,h2,by rw[abT]⟩;exact (ax.bind h:ax (λv (p:P2)=>aO H v (some p.1) (some p.2)) ys pp)
inductive q9(H:Hp)(wv:V)(w s gl:ab6)(sl gs:List S2)(e t u d m:Int)(tb:Tb):Prop
 | mk(ys zs:List V)(_:dE H wv w e t u d m tb)(_:H s=some (.lst ys))(_:ax (λv x=>aO H v x.1 x.2) ys sl)(_:H gl=some (.lst zs))(_:ax (λv x=>aO H v x.1 x.2) zs gs)(_:gs.length=sl.length+1)(_:sl.length<=900)(_:(tb.map (·.1)).Nodup)(_:∀ r∈tb,r.1.2.toNat<=sl.length)
theorem q9.same{H H':Hp}{wv:V}{w s gl:ab6}{sl gs:List S2}{e t u d m:Int}{tb:Tb}(h:q9 H wv w s gl sl gs e t u d m tb)(x:ah H H'):q9 H' wv w s gl sl gs e t u d m tb:=let ⟨ys,zs,a,b,c,d,e,f,g,i,j⟩:=h;⟨ys,zs,a.same x,x _ _ b,c.imp λy y r=>r.same x,x _ _ d,e.imp λy y r=>r.same x,f,g,i,j⟩
inductive gv(H:Hp)(v:V)(sw gw:List W2)(tb:Tb)(m:Int)(as:List Int)(N:Nat):Prop
 | nC (k:ab6) (j:Nat) (_:v = .ref k) (_:H k=some (.tup [.str "step",.int (j:Int)])) (_:sw[j]?=some none)
 | gol (k:ab6) (j:Nat) (_:v = .ref k) (_:H k=some (.tup [.str "at",.int (j:Int)])) (_:gw[j]?=some none)
 | pap (t:Pp) (pp:List P2) (gs:List S2) (_:gq H v t) (_:eE t<N) (_:sw=pp.map ic) (_:gw=gs.map some) (_:Val pp gs tb m t as)
theorem gv.same{H H':Hp}{v:V}{sw gw:List W2}{tb:Tb}{m:Int}{as:List Int}{N:Nat}(h:gv H v sw gw tb m as N)(s:ah H H'):gv H' v sw gw tb m as N:=by
 rcases h with ⟨k,j,e,h1,h2⟩|⟨k,j,e,h1,h2⟩|⟨t,pp,gs,h1,h2,h3,h4,h5⟩
 .exact .nC k j e (s _ _ h1) h2
 .exact .gol k j e (s _ _ h1) h2
 .exact .pap t pp gs (h1.same s) h2 h3 h4 h5
inductive x9(N:Nat)(vs:List V)(H:Hp)(Q:VK)(aN:XK):Prop
 | mk(wv v:V)(w s gl z:ab6)(e t u d m:Int)(sl gs:List S2)(tb:Tb)(as:List Int)(_:vs=[wv,.ref s,.ref gl,v,.ref z])(_:0<N)(_:N<=10)(_:q9 H wv w s gl sl gs e t u d m tb)(_:H z=some (.lst (as.map V.int)))(_:as.length+N<=30)(_:gv H v (sl.map iz) (gs.map iz) tb m as N)(_:∀ H',ah H H'->Q (.bl true) H')
def LI(pp:List P2)(fs:List S2)(tb:Tb)(m:Int)(a:Pp)(as:List Int)(o:En):Prop:=match o with|none=>a = .nil|some e=>Val pp fs tb m a (as++[e])
inductive LJ(N:Nat)(vs:List V)(H:Hp)(Q:VK)(aN:XK):Prop
 | mk(wv v:V)(w s gl z:ab6)(e t u d m:Int)(sl gs fs:List S2)(pp:List P2)(tb:Tb)(as:List Int)(o:En)(a:Pp)(_:vs=[wv,.ref s,.ref gl,v,ev o,.ref z])(_:N<=10)(_:q9 H wv w s gl sl gs e t u d m tb)(_:H z=some (.lst (as.map V.int)))(_:as.length+1+N<=30)(_:gq H v a)(_:eE a<N)(_:sl.map iz=pp.map ic)(_:gs.map iz=fs.map some)(_:LI pp fs tb m a as o)(_:∀ H',ah H H'->Q (.bl true) H')
inductive Zl(N:Nat)(vs:List V)(H:Hp)(Q:VK)(aN:XK):Prop
 | mk(wv v:V)(w s gl z:ab6)(e t u d m:Int)(sl gs fs:List S2)(pp:List P2)(tb:Tb)(as:List Int)(c:Cl)(a b:Pp)(_:vs=[wv,.ref s,.ref gl,v,.ref z])(_:N<=10)(_:q9 H wv w s gl sl gs e t u d m tb)(_:H z=some (.lst (as.map V.int)))(_:as.length+1+N<=30)(_:gq H v (.cls c a b))(_:eE a<N)(_:eE b<N)(_:sl.map iz=pp.map ic)(_:gs.map iz=fs.map some)(_:Val pp fs tb m (.cls c a b) as)(_:∀ H',ah H H'->Q (.bl true) H')
theorem LK(T:aB)(N:Nat)(ih:aP (3 * N+3) T.l5 (x9 N)):aP (3 * N+4) T.nq (LJ N):=by
 refine okN T.nq.F Kq.1 (λvs H Q E h=>?_) (λa8 A outer s H vs Q E hr h=>?_)
 .obtain⟨wv,v,w,s,gl,z,e,t,u,d,m,sl,gs,fs,pp,tb,as,o,a,rfl,y⟩:=h;rfl
 .obtain⟨wv,v,w,s,gl,z,e,t,u,d,m,sl,gs,fs,pp,tb,as,o,a,rfl,hN,hK,hz,hl,ha,la,e1,e2,hv,q⟩:=h;refine⟨_,(ar (aH (ee (aa 4)) (au (aA (mv (rH (aa 3))))) aG) (au (aA (eJ ih (hr.mono (by lia)) rfl T.l5.m T.l5.F.kp T.l5.b .nil bB (ae (aa 0) (ae (aa 1) (ae (aa 2) (ae (aa 3) (ae (aD mF (aa 5) (cn (ae (aa 4) ag))) ag))))))))),?_⟩;rfl';cases o with
  | none =>
   obtain rfl:a = .nil:=hv;obtain rfl:v = .non:=ha;exact q _ (ah.refl _)
  | some x =>
   refine⟨by decide,λp1 fF=>?_⟩;have u1:=ak (o:=.lst [.int x]) fF;refine⟨_,u1 _ _ hz,_,aq,ab3 (by rw[abT,acA];lia:_<=100) (by decide),λp2 dY=>?_⟩;have u2:=ak (o:=.lst (as.map V.int++[.int x])) dY;have U:=u1.trans u2;exact⟨wv,v,w,s,gl,p2,e,t,u,d,m,sl,gs,tb,as++[x],rfl,by lia,hN,hK.same U,by rw[adA];exact aq,by rw[acj,acA];lia,.pap a pp fs (ha.same U) la e1 e2 hv,λH' s'=>q _ (U.trans s')⟩
theorem LL(h:jZ gs tb as s m)(hg:gs.length=n+1)(ht:∀ r∈tb,r.1.2.toNat<=n):m.1<=n:=by
 obtain⟨e,h⟩:=h;rw[e];obtain⟨o,k⟩:=s;cases o with
 | none =>
  have:=(ab0.mp (show gs[k]?=some m.2 from h)).1;show k<=n;lia
 | some x=>exact ht _ h.2
theorem Zm(T:aB)(N:Nat)(ih:aP (3 * N+3) T.l5 (x9 N)):aP (3 * N+5) T.uj (Zl N):=by
 refine okN T.uj.F xk.1 (λvs H Q E h=>?_) (λa8 A outer s H vs Q E hr h=>?_)
 .obtain⟨wv,v,w,s,gl,z,e,t,u,d,m,sl,gs,fs,pp,tb,as,c,a,b,rfl,j⟩:=h;rfl
 .obtain⟨wv,v,w,s,gl,z,e,t,u,d,m,sl,gs,fs,pp,tb,as,⟨⟨o,i⟩,⟨o2,i2⟩⟩,a,b,rfl,hM,hK,hz,hl,⟨k,p,p2,x,y,rfl,hk,hp,dY,hx,hy⟩,la,lb,e1,e2,⟨⟨mm,nn,mA,mB,br⟩,va,vb⟩,q⟩:=h;refine⟨_,(ar (jG (i:=5) xk.nd rfl (afM rfl) (eJ (LF T) (hr.mono (by lia)) rfl T.oR.m T.oR.F.kp T.oR.b .nil bB (ae (aa 0) (ae (aa 2) (ae (bD bE (aa 3) af (λj j=>rfl)) (ae (aa 4) ag)))))) (ar (jG (i:=6) xk.nd rfl (afM rfl) (eJ (LF T) (hr.mono (by lia)) rfl T.oR.m T.oR.F.kp T.oR.b .nil bB (ae (aa 0) (ae (aa 2) (ae (bD bE (aa 3) af (λj j=>rfl)) (ae (aa 4) ag)))))) (ar (aH (PW.pt (cD (ee (aa 5)) (cD (ee (aa 6)) (eS (b9 (bT (Ge rfl) (by rfl) T.Ku E3 (ae (dg (cO [] []) rfl (cE (aa 1)) (λC s2 H2 ex pn=>⟨df,(eJ (B8 T) (hr.mono (by lia)) rfl T.oQ.m T.oQ.F.kp T.oQ.b .nil bB (ae (aa 0) ag))⟩)) ag))))))) (au (aA cM)) aG) (ar (aH (PW.pt (cD (ee (bD bE (aa 5) af (λj j=>rfl))) (eS (ee (bD bE (aa 6) af (λj j=>rfl)))))) (au (aA cM)) aG) (ar (aH (UU (bD bE (aa 6) af (λj j=>rfl)) (aD bb (bD bE (aa 5) af (λj j=>rfl)) (eJ (Zh T) (hr.mono (by lia)) rfl T.xA.m T.xA.F.kp T.xA.b .nil bB (ae (aa 1) (ae (bD bE (bD bE (aa 3) af (λj j=>rfl)) af (λj j=>rfl)) (ae (bD bE (bD bE (aa 3) af (λj j=>rfl)) af (λj j=>rfl)) ag)))))) (au (aA cM)) aG) (ar (aH (bZ (b9 (eJ (LK T N ih) (hr.mono (by lia)) rfl T.nq.m T.nq.F.kp T.nq.b .nil bB (ae (aa 0) (ae (aa 1) (ae (aa 2) (ae (bD bE (aa 3) af (λj j=>rfl)) (ae (bD bE (bD bE (aa 3) af (λj j=>rfl)) af (λj j=>rfl)) (ae (aa 4) ag))))))))) (au (aA cM)) aG) (ar (aH (PW.pt (iW (ie (bD bE (bD bE (aa 3) af (λj j=>rfl)) af (λj j=>rfl))) (jE (bq (bD bE (bD bE (aa 3) af (λj j=>rfl)) af (λj j=>rfl)) (bD bE (bD bE (aa 3) af (λj j=>rfl)) af (λj j=>rfl)))))) (au (aA (mv (rH (bD bE (aa 3) af (λj j=>rfl)))))) aG) (au (aA (eJ (LK T N ih) (hr.mono (by lia)) rfl T.nq.m T.nq.F.kp T.nq.b .nil bB (ae (aa 0) (ae (aa 1) (ae (aa 2) (ae (bD bE (aa 3) af (λj j=>rfl)) (ae (bD bE (bD bE (aa 3) af (λj j=>rfl)) af (λj j=>rfl)) (ae (aa 4) ag)))))))))))))))),?_⟩;obtain⟨ys,zs,hW,hs,hS,hg,hG,gO,hn,cC,hle⟩:=id hK;obtain⟨rfl,el⟩:=CF e2;obtain⟨hP,hcs,dJ⟩:=Zk hS e1;dsimp only at va vb hp dY;have lt:∀ r∈tb,r.1.2.toNat<gs.length:=λr hr=>by have:=hle r hr;lia
  refine aC (λσ H1=>∃ v1,σ=[some wv,some (.ref s),some (.ref gl),some (.ref k),some (.ref z),some v1,none]/\H1=H/\aO H v1 mm.2.1 mm.2.2) (λN hN=>?_) ?_
  .exact ay (aj.of hk) (v:=.ref p) rfl ⟨wv,w,p,gl,z,e,t,u,d,m,zs,gs,tb,as,(o,i),mm,rfl,hW,cC,hp,ai.of hg,hG,el,hz,mA,lt,λv1 h1=>hN _ _ ⟨v1,rfl,rfl,h1⟩⟩
  rintro j yR σ H1 ⟨v1,rfl,rfl,q1,rfl,CG⟩;subst yR;refine aC (λσ H2=>∃ v2,σ=[some wv,some (.ref s),some (.ref gl),some (.ref k),some (.ref z),some (.ref q1),some v2]/\H2=H1/\aO H1 v2 nn.2.1 nn.2.2) (λN hN=>?_) ?_
  .rfl';exact ay (aj.of hk) (v:=.ref p2) rfl ⟨wv,w,p2,gl,z,e,t,u,d,m,zs,gs,tb,as,(o2,i2),nn,rfl,hW,cC,dY,ai.of hg,hG,el,hz,mB,lt,λv1 h1=>hN _ _ ⟨v1,rfl,rfl,h1⟩⟩
  rintro j yR σ H2 ⟨v2,rfl,rfl,q2,rfl,CH⟩;subst yR;refine aC (λσ H3=>σ=[some wv,some (.ref s),some (.ref gl),some (.ref k),some (.ref z),some (.ref q1),some (.ref q2)]/\ah H2 H3) (λN hN=>?_) ?_
  .rfl';refine⟨⟨_,ai.of hs⟩,cJ i8 (ab3 (by rw[hS.len];lia:ys.length<=1000) (by decide)) (mP (R:=λx (n:S2)=>aO H2 x n.1 n.2) (as:=sl) (p:=λj=>true) (f:=λj=>.bl false) (ai.of hs) hS (λj j j j Q h=>h) (λx n hn j r Q h=>?_) λl hl=>?_)⟩
   .obtain⟨pa,rfl,l8⟩:=r;refine⟨pa,n.1,n.2,rfl,aj.of l8,?_⟩;rw[hcs n hn];exact h
   .rw[aci,aev.mpr λj j=>rfl];refine⟨l,rfl,sl.map λj=>false,ai.of (by rw[aq,ac1];rfl),?_⟩;rw[if_neg (by simp)];exact hN _ _ ⟨rfl,ak hl⟩
  rintro j yR σ H3 ⟨rfl,s3⟩;subst yR;obtain⟨hh,ll,h1,h2,h3⟩:=br;rw[h1] at CG;rw[h2] at CH;refine aC (λσ H4=>σ=[some wv,some (.ref s),some (.ref gl),some (.ref k),some (.ref z),some (.ref q1),some (.ref q2)]/\H4=H3) (λN hN=>?_) ?_
  .rfl';refine ay (aj.of (s3 _ _ CG)) (v:=.int hh) rfl ?_;refine ay (aj.of (s3 _ _ CH)) (v:=.int ll) rfl ?_;exact hN _ _ ⟨rfl,rfl⟩
  rintro j yR σ H4 ⟨rfl,rfl⟩;subst yR;refine aC (λσ H5=>σ=[some wv,some (.ref s),some (.ref gl),some (.ref k),some (.ref z),some (.ref q1),some (.ref q2)]/\ah H2 H5) (λN hN=>?_) ?_
  .rfl';refine ay (aj.of (s3 _ _ CH)) (v:=.int ll) rfl (ay (aj.of (s3 _ _ CG)) (v:=.int hh) rfl (ay (aj.of (s3 _ _ hk)) (v:=.ref p) rfl (ay (aj.of (s3 _ _ hp)) (v:=.int i) rfl (ay (aj.of (s3 _ _ hk)) (v:=.ref p2) rfl (ay (aj.of (s3 _ _ dY)) (v:=.int i2) rfl ?_)))));have ma:=LL mA gO hle;have mb:=LL mB gO hle;have ea:mm.1=i:=mA.1;have eb:nn.1=i2:=mB.1;rw[ea] at ma h3;rw[eb] at mb h3;refine⟨s,ys,pp,i,i2,rfl,ai.of (s3 _ _ hs),hP.imp λj j r=>r.same s3,by lia,by lia,by lia,λH5 s5=>?_⟩;rfl';rw[if_neg (by lia)];exact hN _ _ ⟨rfl,s3.trans s5⟩
  rintro j yR σ H5 ⟨rfl,s5⟩;subst yR;refine aC (λσ H6=>σ=[some wv,some (.ref s),some (.ref gl),some (.ref k),some (.ref z),some (.ref q1),some (.ref q2)]/\ah H2 H6) (λN hN=>?_) ?_
  .refine ay (aj.of (s5 _ _ hk)) (v:=x) rfl (ay (aj.of (s5 _ _ hk)) (v:=.ref p) rfl (ay (aj.of (s5 _ _ hp)) (v:=ev o) rfl ?_));refine⟨wv,x,w,s,gl,z,e,t,u,d,m,sl,gs,gs,pp,tb,as,o,a,rfl,hM,hK.same s5,s5 _ _ hz,hl,hx.same s5,la,e1,e2,va,λH6 s6=>?_⟩;exact hN _ _ ⟨rfl,s5.trans s6⟩
  rintro j yR σ H6 ⟨rfl,s6⟩;subst yR;rfl';have last:∀ R:V->Hp->Prop,(∀ H',ah H2 H'->R (.bl true) H')->LI pp gs tb m b as o2->kE K (.ref k) (.int 4) H6 λx H1=>kE K (.ref k) (.int 2) H1 λZn H1=>kE K Zn (.int 0) H1 λZo H1=>LJ N [wv,.ref s,.ref gl,x,Zo,.ref z] H1 R E0:=λR hR hv =>
   ay (aj.of (s6 _ _ hk)) (v:=y) rfl (ay (aj.of (s6 _ _ hk)) (v:=.ref p2) rfl (ay (aj.of (s6 _ _ dY)) (v:=ev o2) rfl ⟨wv,y,w,s,gl,z,e,t,u,d,m,sl,gs,gs,pp,tb,as,o2,b,rfl,hM,hK.same s6,s6 _ _ hz,hl,hy.same s6,lb,e1,e2,hv,λH7 s7=>hR _ (s6.trans s7)⟩))
  refine ay (aj.of (s6 _ _ hk)) (v:=.ref p) rfl (ay (aj.of (s6 _ _ hp)) (v:=ev o) rfl ?_);cases o with
  | none =>
   refine last _ q ?_;cases o2 with
   | none=>exact vb
   | some x=>exact vb
  | some x0 =>
   refine ay (aj.of (s6 _ _ hk)) (v:=.ref p) rfl (ay (aj.of (s6 _ _ hp)) (v:=.int x0) rfl (ay (aj.of (s6 _ _ hk)) (v:=.ref p2) rfl (ay (aj.of (s6 _ _ dY)) (v:=ev o2) rfl ?_)));refine Lp (o:=some x0) (o':=o2) ?_;cases o2 with
   | none=>exact last _ q vb
   | some x2 =>
    replace vb:if (some x0:En)=some x2 then b = .nil else Val pp gs tb m b (as++[x2]):=vb
    by_cases he:(some x0:En)=some x2
    .rw[decide_eq_true he];rw[if_pos he] at vb;subst vb;obtain rfl:y = .non:=hy;exact ay (aj.of (s6 _ _ hk)) (v:=.non) rfl (q _ s6)
    .rw[decide_eq_false he];rw[if_neg he] at vb;exact last _ q vb
theorem Zp(T:aB):∀ N,aP (3 * N+3) T.l5 (x9 N):=by
 intro N
 induction N with
 | zero =>
  refine okN T.l5.F qP.1 (λvs H Q E h=>?_) (λa8 A outer s H vs Q E hr h=>?_)
  .obtain⟨wv,v,w,s,gl,z,e,t,u,d,m,sl,gs,tb,as,rfl,hN,n⟩:=h;exact absurd hN (ads _)
  .obtain⟨wv,v,w,s,gl,z,e,t,u,d,m,sl,gs,tb,as,rfl,hN,n⟩:=h;exact absurd hN (ads _)
 | succ N ih =>
  refine okN T.l5.F qP.1 (λvs H Q E h=>?_) (λa8 A outer s H vs Q E hr h=>?_)
  .obtain⟨wv,v,w,s,gl,z,e,t,u,d,m,sl,gs,tb,as,rfl,n⟩:=h;rfl
  .obtain⟨wv,v,w,s,gl,z,e,t,u,d,m,sl,gs,tb,as,rfl,n,hM,hK,hz,hl,hR,q⟩:=h;refine⟨_,(ar (aH (PW.pt (cD (bZ (b9 (bT lB (by rfl) T.iS iH (ae (aa 3) (ae (lj (v:=.ty "tuple") rfl T.xF vL rfl) ag))))) (eS (bq (cW T.cH (ae (aa 3) ag)) af)))) (au (aA cM)) aG) (ar (aH (bq (bD bE (aa 3) af (λn n=>rfl)) aQ) (au (aA (fk (eG nI (cW T.cH (ae (aa 3) ag)) af (cI _)) (ff (eG (gM rT) (cW T.cH (ae (aa 4) ag)) (bD bE (aa 0) af (λn n=>rfl)) (cI _)))))) aG) (ar (aH (bq (bD bE (aa 3) af (λn n=>rfl)) aQ) (au (aA (fk (eG nI (cW T.cH (ae (aa 3) ag)) af (cI _)) (ff (eJ (Zm T N ih) (hr.mono (by lia)) rfl T.uj.m T.uj.F.kp T.uj.b .nil bB (ae (aa 0) (ae (aa 1) (ae (aa 2) (ae (aa 3) (ae (aa 4) ag)))))))))) aG) (ar (jG (i:=5) qP.nd rfl (afM rfl) (cn ag)) (ar (aH (bq (bD bE (aa 3) af (λn n=>rfl)) aQ) (au (jG (i:=5) qP.nd rfl (afM rfl) (aa 1))) aG) (ar (aH (bq (bD bE (aa 3) af (λn n=>rfl)) aQ) (au (jG (i:=5) qP.nd rfl (afM rfl) (aa 2))) aG) (ar (aH (PW.pt (cD (jo (cW T.cH (ae (aa 3) ag)) af) (cD (bZ (b9 (eJ (qT T) (hr.mono (by lia)) rfl T.xy.m T.xy.F.kp T.xy.b .nil bB (ae (bD bE (aa 3) af (λn n=>rfl)) ag)))) (cD (j4 (bD bE (aa 3) af (λn n=>rfl)) af) (eS (A4 (bD bE (aa 3) af (λn n=>rfl)) (cW T.cH (ae (aa 5) ag)))))))) (au (aA cM)) aG) (au (aA (eJ (B8 T) (hr.mono (by lia)) rfl T.oQ.m T.oQ.F.kp T.oQ.b .nil bB (ae (bD bE (aa 5) (bD bE (aa 3) af (λn n=>rfl)) (λn n=>rfl)) ag))))))))))),?_⟩;obtain⟨ys,zs,hW,hs,hS,hg,hG,gO,hn,cC,hle⟩:=id hK;have Co:∃ (k:ab6) (u:V) (us:List V),v = .ref k/\H k=some (.tup (u::us)):=by
    rcases hR with ⟨k,j,rfl,hk,hj⟩|⟨k,j,rfl,hk,hj⟩|⟨t,pp,fs,hp,hh,e1,e2,hv⟩
    .exact⟨k,_,_,rfl,hk⟩
    .exact⟨k,_,_,rfl,hk⟩
    .cases t with
     | nil=>exact hv.elim
     | full=>obtain⟨r,rfl,h⟩:=hp;exact⟨r,_,_,rfl,h⟩
     | cls c a b=>obtain⟨r,n,n,n,n,rfl,h,n⟩:=hp;exact⟨r,_,_,rfl,h⟩
   obtain⟨k,u0,us,rfl,hku⟩:=Co;refine aC (λσ H2=>σ=[some wv,some (.ref s),some (.ref gl),some (.ref k),some (.ref z),none]/\H2=H) (λN hN=>?_) ?_
   .rfl';refine vM hku ?_;refine⟨_,nR (aj.of hku),?_⟩;refine aU (λh0=>absurd h0 (by rw[acB];lia)) λn=>hN _ _ ⟨rfl,rfl⟩
   rintro n yR σ H2 ⟨rfl,rfl⟩;subst yR;rcases hR with ⟨k2,j,e1,hk,hj⟩|⟨k2,j,e1,hk,hj⟩|⟨tt,pp,fs,hp,hh,e1,e2,hv⟩
   .cases e1;refine aC (λσ H3=>σ=[some wv,some (.ref s),some (.ref gl),some (.ref k),some (.ref z),none]/\H3=H2) (λN hN=>?_) ?_
    .rfl';refine ay (aj.of hk) (v:=.str "step") rfl ?_
     first|exact hN _ _ ⟨rfl,rfl⟩|exact aU (λh=>absurd h (by decide)) λn=>hN _ _ ⟨rfl,rfl⟩
    rintro n yR σ H3 ⟨rfl,rfl⟩;subst yR;refine aC (λσ H4=>σ=[some wv,some (.ref s),some (.ref gl),some (.ref k),some (.ref z),none]/\H4=H3) (λN hN=>?_) ?_
    .rfl';refine ay (aj.of hk) (v:=.str "step") rfl ?_
     first|exact hN _ _ ⟨rfl,rfl⟩|exact aU (λh=>absurd h (by decide)) λn=>hN _ _ ⟨rfl,rfl⟩
    rintro n yR σ H4 ⟨rfl,rfl⟩;subst yR;refine aC (λσ H5=>∃ l0,σ=[some wv,some (.ref s),some (.ref gl),some (.ref k),some (.ref z),some (.ref l0)]/\ah H4 H5) (λN hN=>?_) ?_
    .rfl';exact⟨by decide,λp hp=>hN _ _ ⟨p,rfl,ak hp⟩⟩
    rintro n yR σ H5 ⟨l0,rfl,s5⟩;subst yR;refine aC (λσ H6=>σ=[some wv,some (.ref s),some (.ref gl),some (.ref k),some (.ref z),some (.ref s)]/\H6=H5) (λN hN=>?_) ?_
    .rfl';refine ay (aj.of (s5 _ _ hk)) (v:=.str "step") rfl ?_
     first|exact hN _ _ ⟨rfl,rfl⟩|exact aU (λh=>absurd h (by decide)) λn=>hN _ _ ⟨rfl,rfl⟩
    rintro n yR σ H6 ⟨rfl,rfl⟩;subst yR;refine aC (λσ H7=>σ=[some wv,some (.ref s),some (.ref gl),some (.ref k),some (.ref z),some (.ref s)]/\H7=H6) (λN hN=>?_) ?_
    .rfl';refine ay (aj.of (s5 _ _ hk)) (v:=.str "step") rfl ?_
     first|exact hN _ _ ⟨rfl,rfl⟩|exact aU (λh=>absurd h (by decide)) λn=>hN _ _ ⟨rfl,rfl⟩
    rintro n yR σ H7 ⟨rfl,rfl⟩;subst yR;rw[aca] at hj;obtain⟨sj,hsj,hcj⟩:=acC.mp hj;obtain⟨vj,hvj,pj,rfl,hpj⟩:=hS.at hsj;have jl:=(ab0.mp hvj).1;refine aC (λσ H8=>σ=[some wv,some (.ref s),some (.ref gl),some (.ref k),some (.ref z),some (.ref s)]/\H8=H7) (λN hN=>?_) ?_
    .rfl';refine⟨_,nR (aj.of (s5 _ _ hk)),?_⟩;refine ay (aj.of (s5 _ _ hk)) (v:=.int j) rfl ⟨_,rfl,.inr ⟨_,rfl⟩,?_⟩;refine ay (aj.of (s5 _ _ hk)) (v:=.int j) rfl ?_;rfl';refine aU (λh0=>absurd h0 (by lia)) λn=>ay (aj.of (s5 _ _ hk)) (v:=.int j) rfl ⟨_,eW (ai.of (s5 _ _ hs)),?_⟩;exact aU (λh0=>absurd h0 (by lia)) λn=>hN _ _ ⟨rfl,rfl⟩
    rintro n yR σ H8 ⟨rfl,rfl⟩;subst yR;rfl';refine ay (aj.of (s5 _ _ hk)) (v:=.int j) rfl (bJ (ai.of (s5 _ _ hs)) (dq hvj) ⟨pj,sj.1,sj.2,rfl,aj.of (s5 _ _ hpj),?_⟩);rw[LH hcj];exact q _ s5
   .cases e1;refine aC (λσ H3=>σ=[some wv,some (.ref s),some (.ref gl),some (.ref k),some (.ref z),none]/\H3=H2) (λN hN=>?_) ?_
    .rfl';refine ay (aj.of hk) (v:=.str "at") rfl ?_
     first|exact hN _ _ ⟨rfl,rfl⟩|exact aU (λh=>absurd h (by decide)) λn=>hN _ _ ⟨rfl,rfl⟩
    rintro n yR σ H3 ⟨rfl,rfl⟩;subst yR;refine aC (λσ H4=>σ=[some wv,some (.ref s),some (.ref gl),some (.ref k),some (.ref z),none]/\H4=H3) (λN hN=>?_) ?_
    .rfl';refine ay (aj.of hk) (v:=.str "at") rfl ?_
     first|exact hN _ _ ⟨rfl,rfl⟩|exact aU (λh=>absurd h (by decide)) λn=>hN _ _ ⟨rfl,rfl⟩
    rintro n yR σ H4 ⟨rfl,rfl⟩;subst yR;refine aC (λσ H5=>∃ l0,σ=[some wv,some (.ref s),some (.ref gl),some (.ref k),some (.ref z),some (.ref l0)]/\ah H4 H5) (λN hN=>?_) ?_
    .rfl';exact⟨by decide,λp hp=>hN _ _ ⟨p,rfl,ak hp⟩⟩
    rintro n yR σ H5 ⟨l0,rfl,s5⟩;subst yR;refine aC (λσ H6=>σ=[some wv,some (.ref s),some (.ref gl),some (.ref k),some (.ref z),some (.ref l0)]/\H6=H5) (λN hN=>?_) ?_
    .rfl';refine ay (aj.of (s5 _ _ hk)) (v:=.str "at") rfl ?_
     first|exact hN _ _ ⟨rfl,rfl⟩|exact aU (λh=>absurd h (by decide)) λn=>hN _ _ ⟨rfl,rfl⟩
    rintro n yR σ H6 ⟨rfl,rfl⟩;subst yR;refine aC (λσ H7=>σ=[some wv,some (.ref s),some (.ref gl),some (.ref k),some (.ref z),some (.ref gl)]/\H7=H6) (λN hN=>?_) ?_
    .rfl';refine ay (aj.of (s5 _ _ hk)) (v:=.str "at") rfl ?_
     first|exact hN _ _ ⟨rfl,rfl⟩|exact aU (λh=>absurd h (by decide)) λn=>hN _ _ ⟨rfl,rfl⟩
    rintro n yR σ H7 ⟨rfl,rfl⟩;subst yR;rw[aca] at hj;obtain⟨sj,hsj,hcj⟩:=acC.mp hj;obtain⟨vj,hvj,pj,rfl,hpj⟩:=hG.at hsj;have jl:=(ab0.mp hvj).1;refine aC (λσ H8=>σ=[some wv,some (.ref s),some (.ref gl),some (.ref k),some (.ref z),some (.ref gl)]/\H8=H7) (λN hN=>?_) ?_
    .rfl';refine⟨_,nR (aj.of (s5 _ _ hk)),?_⟩;refine ay (aj.of (s5 _ _ hk)) (v:=.int j) rfl ⟨_,rfl,.inr ⟨_,rfl⟩,?_⟩;refine ay (aj.of (s5 _ _ hk)) (v:=.int j) rfl ?_;rfl';refine aU (λh0=>absurd h0 (by lia)) λn=>ay (aj.of (s5 _ _ hk)) (v:=.int j) rfl ⟨_,eW (ai.of (s5 _ _ hg)),?_⟩;exact aU (λh0=>absurd h0 (by lia)) λn=>hN _ _ ⟨rfl,rfl⟩
    rintro n yR σ H8 ⟨rfl,rfl⟩;subst yR;rfl';refine ay (aj.of (s5 _ _ hk)) (v:=.int j) rfl (bJ (ai.of (s5 _ _ hg)) (dq hvj) ⟨pj,sj.1,sj.2,rfl,aj.of (s5 _ _ hpj),?_⟩);rw[LH hcj];exact q _ s5
   .cases tt with
    | nil=>exact hv.elim
    | full =>
     obtain⟨r,er,dk⟩:=hp;cases er;refine aC (λn n=>False) (λN hN=>?_) (λn n n n h=>h.elim);refine ay (aj.of dk) (v:=.str "full") rfl ?_;rfl';refine⟨_,nR (aj.of dk),aU (λn=>?_) λh0=>absurd rfl h0⟩;obtain⟨r9,rfl,Zq,n⟩:=hW;refine⟨_,eW (ai.of hz),ay (aj.of Zq) (v:=.int m) rfl ?_⟩;rfl';rw[abT,decide_eq_true (show m<((as.length:Nat):Int) from hv)];exact q _ (ah.refl _)
    | cls c a b =>
     obtain⟨r,p,p2,x,y,er,hk,fF,dY,hx,hy⟩:=id hp;cases er;refine aC (λσ H3=>σ=[some wv,some (.ref s),some (.ref gl),some (.ref k),some (.ref z),none]/\H3=H2) (λN hN=>?_) ?_
     .refine ay (aj.of hk) (v:=.str "clash") rfl ?_
      first|exact hN _ _ ⟨rfl,rfl⟩|exact aU (λh=>absurd h (by decide)) λn=>hN _ _ ⟨rfl,rfl⟩
     rintro n yR σ H3 ⟨rfl,rfl⟩;subst yR;have HA:eE a<N:=by have h2:(if eE a<=eE b then eE b else eE a)+1<N+1:=hh;split at h2<;>lia
     have HB:eE b<N:=by have h2:(if eE a<=eE b then eE b else eE a)+1<N+1:=hh;split at h2<;>lia
     refine aC (λn n=>False) (λN9 hN=>?_) (λn n n n h=>h.elim);refine ay (aj.of hk) (v:=.str "clash") rfl ?_;rfl';exact⟨_,nR (aj.of hk),aU (λn=>⟨wv,_,w,s,gl,z,e,t,u,d,m,sl,gs,fs,pp,tb,as,c,a,b,rfl,by lia,hK,hz,by lia,hp,HA,HB,e1,e2,hv,q⟩) λh0=>absurd rfl h0⟩
theorem Zr(T:aB):aP 33 T.l5 (x9 10):=Zp T 10
theorem Zs(u d:Int)(ps:List Pa)(n:Nat):((ab2 n).map (λ(k:Nat)=>bj (some (-d),some u) (sel ps "step" (k:Int)))).map iz=dF u d ps n:=by unfold dF;rw[ac1];exact ad2 λk y=>rfl
theorem Zt(ps:List Pa)(n:Nat):((ab2 n).map (λ(k:Nat)=>bj (none,none) (sel ps "at" (k:Int)))).map iz=eQ ps n:=by unfold eQ;rw[ac1];exact ad2 λk y=>rfl
inductive Zu(vs:List V)(H:Hp)(Q:VK)(aN:XK):Prop
 | mk(wv v:V)(w cl:ab6)(e t u d m:Int)(tb:Tb)(xs:List V)(ps:List Pa)(_:vs=[wv,.ref cl,v])(_:dE H wv w e t u d m tb)(_:1<=t)(_:t<=12)(_:bK e t tb)(_:ai K H cl xs)(_:dw H xs ps)(_:ps.length<=900)(_:gv H v (dF u d ps (t-1).toNat) (eQ ps t.toNat) tb m [] 10)(_:∀ H',ah H H'->Q (.bl true) H')
theorem LM(T:aB):aP 34 T.V6 Zu:=by
 refine bA uf ?_;rintro y y y s H y Q y hr ⟨wv,v,w,cl,e,t,u,d,m,tb,xs,ps,rfl,hW,t1,t2,az,hX,hP,hn,hR,q⟩;refine⟨_,(ar (aJ 3 uf.nd (aM (ae (aD bW af (ao (aa 0) af)) (ae (ao (aa 0) af) ag)))) (ar (nX (i:=4) (cO [3,1] ["_law_own",oA]) rfl uf.nd rfl rfl (iB rfl T.eh (ae (aD bW (ao (aa 0) af) af) ag)) (λC s2 H2 ex pn=>⟨df,(aK (K7 T) hr (ae (aa 1) (ae (aa 2) (ae aQ (ae (aa 0) ag)))))⟩)) (ar (nX (i:=5) (cO [1] [oA]) rfl uf.nd rfl rfl (iB rfl T.eh (ae (ao (aa 0) af) ag)) (λC s2 H2 ex pn=>⟨df,(aK (K7 T) hr (ae (aM (ae bG (ae bG ag))) (ae (aa 1) (ae aQ (ae (aa 0) ag)))))⟩)) (au (aA (aK (Zr T) hr (ae (aa 0) (ae (aa 4) (ae (aa 5) (ae (aa 2) (ae (cn ag) ag))))))))))),?_⟩;obtain⟨r,rfl,cc,hT⟩:=id hW;refine aC (λσ H1=>∃ p,σ=[some (.ref r),some (.ref cl),some v,some (.ref p),none,none]/\ah H H1/\H1 p=some (.tup [.int (-d),.int u])) (λN hN=>?_) ?_
 .refine ay (aj.of cc) (v:=.int d) rfl ?_;rfl';refine ay (aj.of cc) (v:=.int u) rfl ⟨aX,λp hp=>hN _ _ ⟨p,rfl,ak hp,?_⟩⟩;rw[aq,Int.zero_sub]
 rintro y yR σ H1 ⟨p,rfl,s1,hp⟩;subst yR;refine aC (λσ H2=>∃ s ys,σ=[some (.ref r),some (.ref cl),some v,some (.ref p),some (.ref s),none]/\ah H H2/\H2 s=some (.lst ys)/\ax (λv x=>aO H2 v x.1 x.2) ys ((ab2 (t-1).toNat).map (λ(k:Nat)=>bj (some (-d),some u) (sel ps "step" (k:Int))))) (λN hN=>?_) ?_
 .rfl';refine ay (aj.of (s1 _ _ cc)) (v:=.int t) rfl ?_;refine⟨by lia,by lia,cJ gW (by rw[abT,ab5];exact ab3 (by lia:_<=12) (by decide)) (gJ (R:=λ_ x (k:Nat)=>x=V.int ((0:Int)+k)) (R':=λH v (x:S2)=>aO H v x.1 x.2) (f:=λ(k:Nat)=>bj (some (-d),some u) (sel ps "step" (k:Int))) (λy y y y y h=>h) (λy y y y s' h=>h.same s') (ax.fI _) (bs:=[]) trivial (λy y=>trivial) (λx k y H2 s2 r Q h=>?_) (λx k y H2 s2 r Q h=>?_) λH2 zs s2 hz=>?_)⟩
  .exact h
  .subst r;refine⟨p,cl,some (-d),some u,xs,ps,"step",_,rfl,aj.of (s2 _ _ hp),(s1.trans s2).seq hX,hP.same (s1.trans s2),by lia,λv H3 s3 hv=>h _ _ s3 ?_⟩;rw[agw] at hv;exact hv
  .intro l hl;rw[aci] at hz;exact hN _ _ ⟨l,zs,rfl,s1.trans (s2.trans (ak hl)),aq,hz.imp λy y r=>r.same (ak hl)⟩
 rintro y yR σ H2 ⟨s,ys,rfl,s2,hs,hS⟩;subst yR;refine aC (λσ H3=>∃ gl zs,σ=[some (.ref r),some (.ref cl),some v,some (.ref p),some (.ref s),some (.ref gl)]/\ah H2 H3/\H3 gl=some (.lst zs)/\ax (λv x=>aO H3 v x.1 x.2) zs ((ab2 t.toNat).map (λ(k:Nat)=>bj (none,none) (sel ps "at" (k:Int))))) (λN hN=>?_) ?_
 .rfl';refine ay (aj.of (s2 _ _ cc)) (v:=.int t) rfl ?_;rfl';refine⟨by lia,by lia,cJ gW (by rw[abT,ab5];exact ab3 (by lia:_<=12) (by decide)) (gJ (R:=λ_ x (k:Nat)=>x=V.int ((0:Int)+k)) (R':=λH v (x:S2)=>aO H v x.1 x.2) (f:=λ(k:Nat)=>bj (none,none) (sel ps "at" (k:Int))) (λy y y y y h=>h) (λy y y y s' h=>h.same s') (ax.fI _) (bs:=[]) trivial (λy y=>trivial) (λx k y H4 s4 r Q h=>?_) (λx k y H4 s4 r Q h=>?_) λH4 zs s4 hz=>?_)⟩
  .exact h
  .subst r;rfl';refine⟨aX,λp2 dY=>?_⟩;have u2:=ak (o:=.tup [.non,.non]) dY;have U:=s2.trans (s4.trans u2);refine⟨p2,cl,none,none,xs,ps,"at",_,rfl,aj.of aq,U.seq hX,hP.same U,by lia,λv H3 s3 hv=>h _ _ (u2.trans s3) ?_⟩;rw[agw] at hv;exact hv
  .intro l hl;rw[aci] at hz;exact hN _ _ ⟨l,zs,rfl,s4.trans (ak hl),aq,hz.imp λy y r=>r.same (ak hl)⟩
 rintro y yR σ H3 ⟨gl,zs,rfl,s3,hg,hG⟩;subst yR;rfl';refine⟨by decide,λp9 Ci=>?_⟩;have u9:=ak (o:=.lst []) Ci;have U:=s2.trans (s3.trans u9);refine⟨.ref r,v,w,s,gl,p9,e,t,u,d,m,_,_,tb,[],rfl,by decide,by decide,⟨ys,zs,hW.same U,(s3.trans u9) _ _ hs,hS.imp λy y x=>x.same (s3.trans u9),u9 _ _ hg,hG.imp λy y x=>x.same u9,?_,?_,az.1,λx hx=>?_⟩,aq,by decide,?_,λH' s'=>q _ (U.trans s')⟩
 .rw[abT,abT,ab5,ab5];lia
 .rw[abT,ab5];lia
 .rw[abT,ab5];obtain⟨⟨b1,b2⟩,b3,b4⟩:=az.2 x hx;lia
 .rw[Zs,Zt];exact hR.same U
def bP(i j:Int):Prop:=0<=i/\i<=j/\j<=11
inductive Zv(N:ab6)(vs:List V)(H:Hp)(Q:VK)(E:XK):Prop
 | mk(x C dx:ab6)(i j:Int)(_:vs=[.ref x,.int i,.int j])(_:H x=some (.ins C dx []))(_:cN K C)(_:bQ K C "first")(_:bQ K C "last")(_:(¬ bP i j->E (.ref N) none H))(_:(bP i j->Q .non (upd H x (.ins C dx [("first",.int i),("last",.int j)]))))
theorem uL(T:aB):cj 1 T.nr (Zv T.j9):=by
 refine iN JA ?_;rintro v v v v H v v E v ⟨x,C,dx,i,j,rfl,hx,hc,n1,n2,q0,q⟩;refine⟨_,(ar (aH (bZ (TC fK fK fK af (aa 1) (aa 2) (wD T.KL rfl))) (au (i5 i6 rfl T.Bm T.B4 rfl (ae aQ ag))) aG) (ar (gN (aa 0) (aa 1) rfl) (au (gN (aa 0) (aa 2) rfl)))),?_⟩;rfl';have no:∀ D σ,¬ bP i j->∀ y,vQ T.j9 E (rW (tC (.str y)) pJ) D σ H:=λD σ z y=>⟨by show 1<=aco;decide,q0 z⟩
 refine aU (λh1=>aU (λh2=>aU (λh3=>no _ _ (λz=>h3 z.2.2) _) λh3=>?_) λh2=>no _ _ (λz=>h2 z.2.1) _) λh1=>no _ _ (λz=>h1 z.1) _;refine⟨_,_,_,hx,hc,n1,(by show 0<1000;decide),_,_,_,aq,hc,n2,(by show 1<1000;decide),?_⟩;rw[jA];exact q ⟨h1,h2,by lia⟩
inductive Zw(C N:ab6)(vs:List V)(H:Hp)(Q:VK)(E:XK):Prop
 | mk(x dx:ab6)(i j:Int)(v:V)(_:vs=[.ref x,.int i,.int j,v])(_:H x=some (.ins C dx []))(_:(¬ bP i j->E (.ref N) none H))(_:(bP i j->Q .non (upd H x (.ins C dx [("first",.int i),("last",.int j),("stretch",v)]))))
theorem Zx(T:aB):cj 2 T.Bp (Zw T.dB T.j9):=by refine iN JD ?_;rintro y y y y y y y y hr ⟨x,dx,i,j,v,rfl,hx,q0,q⟩;refine⟨_,(ar (dm (sT rfl T.ui T.ux (uL T) hr.m T.nr.b .nil gF (ae (aa 0) (ae (aa 1) (ae (aa 2) ag))))) (au (gN (aa 0) (aa 3) rfl))),?_⟩;refine⟨x,T.dB,dx,i,j,rfl,hx,T.jt,T.BN,T.xG,q0,λhk=>?_⟩;refine⟨_,_,_,aq,T.jt,T.BO,(by show 2<1000;decide),?_⟩;rw[jA];exact q hk
inductive Zy(C N:ab6)(vs:List V)(H:Hp)(Q:VK)(E:XK):Prop
 | mk(x dx:ab6)(i j:Int)(v:V)(_:vs=[.ref x,.int i,.int j,v])(_:H x=some (.ins C dx []))(_:(¬ bP i j->E (.ref N) none H))(_:(bP i j->Q .non (upd H x (.ins C dx [("first",.int i),("last",.int j),("sill",v)]))))
theorem Zz(T:aB):cj 2 T.Bs (Zy T.dC T.j9):=by refine iN JG ?_;rintro y y y y y y y y hr ⟨x,dx,i,j,v,rfl,hx,q0,q⟩;refine⟨_,(ar (dm (sT rfl T.ui T.ux (uL T) hr.m T.nr.b .nil gF (ae (aa 0) (ae (aa 1) (ae (aa 2) ag))))) (au (gN (aa 0) (aa 3) rfl))),?_⟩;refine⟨x,T.dC,dx,i,j,rfl,hx,T.ju,T.BP,T.xH,q0,λhk=>?_⟩;refine⟨_,_,_,aq,T.ju,T.BQ,(by show 2<1000;decide),?_⟩;rw[jA];exact q hk
inductive ZA(C N:ab6)(vs:List V)(H:Hp)(Q:VK)(E:XK):Prop
 | mk(x dx:ab6)(i j:Int)(v:V)(_:vs=[.ref x,.int i,.int j,v])(_:H x=some (.ins C dx []))(_:(¬ bP i j->E (.ref N) none H))(_:(bP i j->Q .non (upd H x (.ins C dx [("first",.int i),("last",.int j),("sill",v)]))))
theorem ZC(T:aB):cj 2 T.Bw (ZA T.dD T.j9):=by refine iN JJ ?_;rintro y y y y y y y y hr ⟨x,dx,i,j,v,rfl,hx,q0,q⟩;refine⟨_,(ar (dm (sT rfl T.ui T.ux (uL T) hr.m T.nr.b .nil gF (ae (aa 0) (ae (aa 1) (ae (aa 2) ag))))) (au (gN (aa 0) (aa 3) rfl))),?_⟩;refine⟨x,T.dD,dx,i,j,rfl,hx,T.jv,T.BR,T.xI,q0,λhk=>?_⟩;refine⟨_,_,_,aq,T.jv,T.BS,(by show 2<1000;decide),?_⟩;rw[jA];exact q hk
inductive ZD(C N:ab6)(vs:List V)(H:Hp)(Q:VK)(E:XK):Prop
 | mk(x dx:ab6)(i j:Int)(v:V)(_:vs=[.ref x,.int i,.int j,v])(_:H x=some (.ins C dx []))(_:(¬ bP i j->E (.ref N) none H))(_:(bP i j->Q .non (upd H x (.ins C dx [("first",.int i),("last",.int j),("stretch",v)]))))
theorem ZE(T:aB):cj 2 T.BC (ZD T.dj T.j9):=by refine iN JO ?_;rintro y y y y y y y y hr ⟨x,dx,i,j,v,rfl,hx,q0,q⟩;refine⟨_,(ar (dm (sT rfl T.ui T.ux (uL T) hr.m T.nr.b .nil gF (ae (aa 0) (ae (aa 1) (ae (aa 2) ag))))) (au (gN (aa 0) (aa 3) rfl))),?_⟩;refine⟨x,T.dj,dx,i,j,rfl,hx,T.ke,T.Kz,T.BW,q0,λhk=>?_⟩;refine⟨_,_,_,aq,T.ke,T.KA,(by show 2<1000;decide),?_⟩;rw[jA];exact q hk
inductive ZF(C N:ab6)(vs:List V)(H:Hp)(Q:VK)(E:XK):Prop
 | mk(x dx:ab6)(i j l h:Int)(_:vs=[.ref x,.int i,.int j,.int l,.int h])(_:H x=some (.ins C dx []))(_:(¬ (bP i j/\l<h)->∀ H',SameBut x H H'->E (.ref N) none H'))(_:(bP i j/\l<h->Q .non (upd H x (.ins C dx [("first",.int i),("last",.int j),("low",.int l),("high",.int h)]))))
theorem ZG(T:aB):cj 2 T.Bz (ZF T.dQ T.j9):=by refine iN JM ?_;rintro v v v v v v v v hr ⟨x,dx,i,j,l,h,rfl,hx,q0,q⟩;refine⟨_,(ar (dm (sT rfl T.ui T.ux (uL T) hr.m T.nr.b .nil gF (ae (aa 0) (ae (aa 1) (ae (aa 2) ag))))) (ar (aH (A4 (aa 3) (aa 4)) (au (i5 i6 rfl T.Bm T.B4 rfl (ae aQ ag))) aG) (ar (gN (aa 0) (aa 3) rfl) (au (gN (aa 0) (aa 4) rfl))))),?_⟩;refine⟨x,T.dQ,dx,i,j,rfl,hx,T.fE,T.xJ,T.qS,λz=>q0 (λy=>z y.1) _ λv v v e=>e,λhk=>?_⟩;refine aU (λh1=>⟨by decide,q0 (λy=>by lia) _ λb o hb e=>by rw[aF hb];exact e⟩) λh1=>?_;refine⟨_,_,_,aq,T.fE,T.BU,(by show 2<1000;decide),_,_,_,aq,T.fE,T.BV,(by show 3<1000;decide),?_⟩;rw[jA,jA];exact q ⟨hk,by lia⟩
inductive ZH(C N:ab6)(vs:List V)(H:Hp)(Q:VK)(E:XK):Prop
 | mk(x dx:ab6)(i:Int)(_:vs=[.ref x,.int i])(_:H x=some (.ins C dx []))(_:(¬ (0<i/\i<11)->E (.ref N) none H))(_:(0<i/\i<11->Q .non (upd H x (.ins C dx [("turn",.int i)]))))
theorem ZI(T:aB):cj 1 T.BF (ZH T.fe T.j9):=by
 refine iN JS ?_;rintro v v v v H v v E v ⟨x,dx,i,rfl,hx,q0,q⟩;refine⟨_,(ar (aH (bZ (wY nJ nJ af (aa 1) (wD T.KL rfl))) (au (i5 i6 rfl T.Bm T.B4 rfl (ae aQ ag))) aG) (au (gN (aa 0) (aa 1) rfl))),?_⟩;rfl';have no:∀ D σ,¬ (0<i/\i<11)->∀ y,vQ T.j9 E (rW (tC (.str y)) pJ) D σ H:=λD σ z y=>⟨by show 1<=aco;decide,q0 z⟩
 refine aU (λh1=>aU (λh2=>?_) λh2=>no _ _ (λz=>h2 z.2) _) λh1=>no _ _ (λz=>h1 z.1) _;exact⟨_,_,_,hx,T.l6,T.xK,(by show 0<1000;decide),q ⟨h1,h2⟩⟩
inductive ZJ(vs:List V)(H:Hp)(Q:VK)(aN:XK):Prop
 | mk(x C dx:ab6)(fs:List (Str × V))(j:Int)(_:vs=[.ref x])(_:H x=some (.ins C dx fs))(_:cN K C)(_:bQ K C "last")(_:fs.lookup ("last" : Str)=some (.int j))(_:Q (.int j) H)
theorem uM(T:aB):cj 1 T.jr ZJ:=by refine fb JB ?_;rintro y y y y y y y y y ⟨x,C,dx,fs,j,rfl,hx,hc,n1,hl,q⟩;refine⟨_,(au (aA (bz rfl (aa 0) rfl))),?_⟩;exact⟨_,_,_,hx,hc,n1,_,hl,q⟩
inductive ZK(vs:List V)(H:Hp)(Q:VK)(aN:XK):Prop
 | mk(x C dx:ab6)(fs:List (Str × V))(j:Int)(_:vs=[.ref x])(_:H x=some (.ins C dx fs))(_:cN K C)(_:bQ K C "turn")(_:fs.lookup ("turn" : Str)=some (.int j))(_:Q (.int (j+1)) H)
theorem ZL(T:aB):cj 1 T.BG ZK:=by refine fb JT ?_;rintro y y y y y y y y y ⟨x,C,dx,fs,j,rfl,hx,hc,n1,hl,q⟩;refine⟨_,(au (aA (aD bb (bz rfl (aa 0) rfl) af))),?_⟩;exact⟨_,_,_,hx,hc,n1,_,hl,q⟩
noncomputable def LN(lo:En):List S2:=match lo with|none=>[]|some l=>[(none,some (l-1))]
noncomputable def LO(hi:En):List S2:=match hi with|none=>[]|some h=>[(some (h+1),none)]
theorem ZM(lo hi:En):gk (lo,hi)=LN lo++LO hi:=by cases lo<;>cases hi<;>rfl
inductive ZN(vs:List V)(H:Hp)(Q:VK)(aN:XK):Prop
 | mk(p:ab6)(s:S2)(_:vs=[.ref p])(_:H p=some (.tup [ev s.1,ev s.2]))(_:∀ l xs H',ah H H'->H l=none->H' l=some (.lst xs)->lG H' xs (gk s)->Q (.ref l) H')
theorem ZO(T:aB):aP 1 T.Vz ZN:=by
 refine bA xb ?_;rintro y y y s H y y y y ⟨p,⟨lo,hi⟩,rfl,hp,q⟩;refine⟨_,(ar (aJ 1 xb.nd (mw (ee (ao (aa 0) af)) (cn ag) (cn (ae (aM (ae bG (ae (aD bW (ao (aa 0) af) af) ag))) ag)))) (ar (aJ 2 xb.nd (mw (ee (ao (aa 0) af)) (cn ag) (cn (ae (aM (ae (aD bb (ao (aa 0) af) af) (ae bG ag))) ag)))) (au (aA (aD mF (aa 1) (aa 2)))))),?_⟩;replace hp:H p=some (.tup [ev lo,ev hi]):=hp;rw[ZM] at q;refine aC (λσ H1=>∃ a xs,σ=[some (.ref p),some (.ref a),none]/\ah H H1/\H1 a=some (.lst xs)/\xs.length<=1/\ax (λv (s:S2)=>aO H1 v s.1 s.2) xs (LN lo)) (λN hN=>?_) ?_
 .clear q;rcases lo with y|lo
  .refine aI hp ?_;exact⟨by decide,λa ha=>hN _ _ ⟨a,[],rfl,ak ha,aq,by decide,trivial⟩⟩
  .refine aI hp ?_;refine aI hp ?_;rfl';exact⟨aX,λta CI=>⟨by decide,λa ha=>hN _ _ ⟨a,[.ref ta],rfl,(ak CI).trans (ak ha),aq,ab4 _,⟨ta,rfl,(ak ha) _ _ aq⟩,trivial⟩⟩⟩
 rintro y yR σ H1 ⟨a,xs,rfl,s1,ha,xl,hx⟩;subst yR;refine aC (λσ H2=>∃ b ys,σ=[some (.ref p),some (.ref a),some (.ref b)]/\ah H1 H2/\H2 b=some (.lst ys)/\ys.length<=1/\ax (λv (s:S2)=>aO H2 v s.1 s.2) ys (LO hi)) (λN hN=>?_) ?_
 .clear q;replace hp:=s1 _ _ hp;rcases hi with y|hi
  .rfl';refine aI hp ?_;exact⟨by decide,λa ha=>hN _ _ ⟨a,[],rfl,ak ha,aq,by decide,trivial⟩⟩
  .rfl';refine aI hp ?_;refine aI hp ?_;exact⟨aX,λta CI=>⟨by decide,λa ha=>hN _ _ ⟨a,[.ref ta],rfl,(ak CI).trans (ak ha),aq,ab4 _,⟨ta,rfl,(ak ha) _ _ aq⟩,trivial⟩⟩⟩
 rintro y yR σ H2 ⟨b,ys,rfl,s2,hb,yl,hy⟩;subst yR;rfl';exact⟨_,s2 _ _ ha,_,hb,ab3 (by lia:xs.length+ys.length<=2) (by decide),λc hc=>q c _ _ (s1.trans (s2.trans (ak hc))) ((s1.trans s2).free hc) aq (kN.mpr (ax.app (hx.imp λy y z=>aO.same z (s2.trans (ak hc))) (hy.imp λy y z=>aO.same z (ak hc))))⟩
inductive ZP(vs:List V)(H:Hp)(Q:VK)(aN:XK):Prop
 | mk(a:ab6)(xs:List V)(ps:List Pa)(_:vs=[.ref a])(_:ai K H a xs)(_:dw H xs ps)(_:ps.length<=100)(_:∀ l ys H',ah H H'->H l=none->H' l=some (.lst ys)->ax (cu H H') ys (b8 ps)->Q (.ref l) H')
inductive ZQ(H:Hp)(a l:ab6)(ps:List Pa)(i:Nat)(σ:St)(H1:Hp):Prop
 | mk(ys:List V)(e:Option V)(_:σ=[some (.ref a),some (.ref l),e])(_:ah H H1)(_:H1 l=some (.lst ys))(_:ax (ji H l H1) ys (b8 (ps.take i)))(_:ys.length<=2 * i)
theorem uN(T:aB):aP 2 T.VA ZP:=by
 refine bA xf ?_;rintro y y y s H y Q y hr ⟨a,xs,ps,rfl,hS,hP,hn,q⟩;refine⟨_,(ar (aJ 1 xf.nd (cn ag)) (ar (cU acH rfl (cE (aa 0)) (cv 2 xf.nd) (au (dm (lA ac3 agZ ag0 ET (aa 1) (ae (dg (cO [2] ["part"]) rfl (cE (aK (ZO T) hr (ae (ao (aa 2) af) ag))) (λC s2 H2 ex pn=>⟨df,(cn (ae (aM (ae (b0 (K:=K) (aa 1) af) (ae (b0 (K:=K) (aa 1) af) (ae (aa 0) ag)))) ag))⟩)) ag))))) (au (aA (aa 1))))),?_⟩;have hl:=hP.len;rfl';refine⟨by decide,λl ft=>?_⟩;have s1:=ak (o:=.lst []) ft;have e1:upd H l (.lst []) l=some (.lst []):=aq;generalize upd H l (.lst [])=H1 at s1 e1 ⊢;refine⟨⟨_,s1.seq hS⟩,gD (xs:=xs) (ZQ H a l ps) ⟨[],_,rfl,s1,e1,trivial,acr _⟩ ?_ ?_ ?_⟩
 .rintro i σ H2 y ⟨y,y,y,s2,y⟩;exact s2.seq hS
 .rintro i x σ H2 hx ⟨ys,e,rfl,s2,a7,hy,hlen⟩;obtain⟨p,hp,tp,sp,rfl,h1,h2⟩:=hP.get hx;have qe:=s2 _ _ h1;have sR:=s2 _ _ h2;rfl';refine⟨.inl ⟨rfl,_,ai.of a7⟩,aI qe ?_⟩;refine⟨sp,p.2.2,rfl,sR,λo os H3 s3 y ho nU=>?_⟩;rfl';have tI:=kN.mp nU;have Ii:=tI.len;have h2o:=sY p.2.2;refine⟨⟨_,ai.of ho⟩,cJ i8 (ab3 (by lia:os.length<=2) (by decide)) (gJ (R:=λH x (s:S2)=>aO H x s.1 s.2) (R':=ji H l) (f:=λs=>[((p.1,p.2.1,s):Pa)]) (λy y y y s' h=>h.same s') (λy y y y s' h=>h.same s') tI (bs:=[]) trivial (λH' s'=>ai.of (s' _ _ ho)) (λx k y H4 s4 r Q h=>?_) (λx k y H4 s4 r Q h=>?_) λH4 zs s4 hz=>?_)⟩
  .exact h
  .obtain⟨xo,rfl,hxo⟩:=r;have S4:=s3.trans s4;rfl';refine ay (aj.of (S4 _ _ qe)) rfl (ay (aj.of (S4 _ _ qe)) rfl ⟨by decide,λt ht=>⟨by decide,λc hc=>?_⟩⟩);have u1:=ak (o:=.tup [.str p.1,.int p.2.1,.ref xo]) ht;have u2:=ak (o:=.lst [.ref t]) hc;have cl:c≠l:=λz=>by rw[z,u1 _ _ (S4 _ _ a7)] at hc;cases hc
   exact h _ _ (u1.trans u2) ⟨c,[.ref t],rfl,cl,(s2.trans (S4.trans u1)).free hc,aq,⟨t,xo,rfl,u2 _ _ aq,(u1.trans u2) _ _ hxo⟩,trivial⟩
  .intro b hb;rw[aci] at hz;have S4:=s3.trans s4;have u:=ak (o:=.lst zs) hb;have CJ:=hz.len;rw[abT] at CJ;have hi:i<xs.length:=(ab0.mp hx).1;refine⟨l,b,_,_,rfl,rfl,u _ _ (S4 _ _ a7),aq,ab3 (by lia:ys.length+zs.length<=300) (by decide),ys++zs,_,rfl,jK ft (s2.trans (S4.trans u)),aq,?_,by rw[acj];lia⟩;rw[TJ hp];have a1:=(hy.imp λy y r=>(r.same (S4.trans u)).put (o:=.lst (ys++zs)) (u _ _ (S4 _ _ a7)))
   have a2:=(hz.imp λy y r=>(r.same u).put (o:=.lst (ys++zs)) (u _ _ (S4 _ _ a7)))
   exact a1.app a2
 .rintro σ H2 ⟨ys,e,rfl,s2,a7,hy,hlen⟩;rw[hl,acU] at hy;exact q l ys H2 s2 ft a7 (hy.imp λy y r=>r.Ip)
inductive ZR(vs:List V)(H:Hp)(Q:VK)(aN:XK):Prop
 | mk(i j:Int)(p:ab6)(s:S2)(_:vs=[.int i,.int j,.ref p])(_:H p=some (.tup [ev s.1,ev s.2]))(_:(0<=i/\i<=12))(_:(-1<=j/\j<=11))(_:∀ l xs H',ah H H'->H l=none->H' l=some (.lst xs)->dw H' xs (bp i j s)->Q (.ref l) H')
theorem ya(T:aB):aP 1 T.VB ZR:=by
 refine bA Jz ?_;rintro y y y s y y Q y y ⟨i,j,p,s,rfl,hp,hi,hj,q⟩;refine⟨_,(au (aA (dg (cO [2] [fU]) rfl (my rfl T.eh (ae (aa 0) (ae (aD bb (aa 1) af) ag))) (λC s2 H2 ex pn=>⟨df,(aM (ae aQ (ae (aa 0) (ae (aa 1) ag))))⟩)))),?_⟩;rfl';refine⟨by lia,by lia,by lia,by lia,cJ gW (by rw[abT,ab5];exact ab3 (by lia:_<=20) (by decide)) (gJ (R:=λ_ x (k:Nat)=>x=V.int (i+k)) (R':=je) (f:=λ(k:Nat)=>(("at",i+(k:Int),s):Pa)) (λy y y y y h=>h) (λy y y y s' h=>h.same s') (ax.fI _) (bs:=[]) trivial (λy y=>trivial) (λx k y H2 s2 r Q h=>?_) (λx k y H2 s2 r Q h=>?_) λH2 zs s2 hz=>?_)⟩
 .exact h
 .subst r;rfl';exact⟨by decide,λt ht=>h _ _ (ak ht) ⟨t,p,rfl,aq,(ak ht) _ _ (s2 _ _ hp)⟩⟩
 .intro l hl;refine q l zs _ (s2.trans (ak hl)) (s2.free hl) aq ?_;rw[aci] at hz;exact hz.imp λy y r=>r.same (ak hl)
inductive ZS(vs:List V)(H:Hp)(Q:VK)(aN:XK):Prop
 | mk(x C dx p:ab6)(fs:List (Str × V))(i j:Int)(s:S2)(_:vs=[.ref x,.ref p])(_:H x=some (.ins C dx fs))(_:cN K C)(_:bQ K C "first")(_:bQ K C "last")(_:fs.lookup ("first" : Str)=some (.int i))(_:fs.lookup ("last" : Str)=some (.int j))(_:bP i j)(_:H p=some (.tup [ev s.1,ev s.2]))(_:∀ l xs H',ah H H'->H l=none->H' l=some (.lst xs)->dw H' xs (bp i j s)->Q (.ref l) H')
theorem rf(T:aB):cj 2 T.iR ZS:=by refine fb JC ?_;rintro y y y s y y y y hr ⟨x,C,dx,p,fs,i,j,s,rfl,hx,hc,n1,n2,l1,l2,hk,hp,q⟩;refine⟨_,(au (aA (aK (ya T) hr (ae (bz rfl (aa 0) rfl) (ae (bz rfl (aa 0) rfl) (ae (aa 1) ag)))))),?_⟩;obtain⟨k1,k2,k3⟩:=hk;refine⟨_,_,_,hx,hc,n1,_,l1,_,_,_,hx,hc,n2,_,l2,?_⟩;exact⟨i,j,p,s,rfl,hp,by lia,by lia,q⟩
inductive ZT(C:ab6)(vs:List V)(H:Hp)(Q:VK)(aN:XK):Prop
 | mk(x dx p:ab6)(i j:Int)(s:S2)(_:vs=[.ref x])(_:H x=some (.ins C dx [("first",.int i),("last",.int j),("stretch",.ref p)]))(_:bP i j)(_:H p=some (.tup [ev s.1,ev s.2]))(_:∀ l ys H',ah H H'->H l=none->H' l=some (.lst ys)->ax (cu H H') ys [bp i j s]->Q (.ref l) H')
theorem ZU(T:aB):cj 3 T.Bq (ZT T.dB):=by refine fb JE ?_;rintro y y y s y y y y hr ⟨x,dx,p,i,j,s,rfl,hx,hk,hp,q⟩;refine⟨_,(au (aA (cn (ae (eV (aa 0) T.jt T.KC (rf T) hr.m T.iR.b .nil bB (ae (bz rfl (aa 0) rfl) ag)) ag)))),?_⟩;rfl';refine⟨_,_,hx,rfl,_,_,_,hx,T.jt,T.BO,_,rfl,?_⟩;exact⟨x,T.dB,dx,p,_,i,j,s,rfl,hx,T.jt,T.BN,T.xG,rfl,rfl,hk,hp,λl xs H1 s1 fl hl hP=>⟨by decide,λc hc=>q c _ _ (s1.trans (ak hc)) (s1.free hc) aq ⟨⟨l,xs,rfl,fl,(ak hc) _ _ hl,hP.same (ak hc)⟩,trivial⟩⟩⟩
inductive ZV(C:ab6)(vs:List V)(H:Hp)(Q:VK)(aN:XK):Prop
 | mk(x dx:ab6)(i j z:Int)(_:vs=[.ref x])(_:H x=some (.ins C dx [("first",.int i),("last",.int j),("sill",.int z)]))(_:bP i j)(_:∀ l ys H',ah H H'->H l=none->H' l=some (.lst ys)->ax (cu H H') ys (b8 (bp i j (none,some (z-1))))->Q (.ref l) H')
theorem ZW(T:aB):cj 3 T.Bu (ZV T.dC):=by refine fb JH ?_;rintro y y y y y y y y hr ⟨x,dx,i,j,z,rfl,hx,hk,q⟩;refine⟨_,(au (aA (aK (uN T) hr (ae (eV (aa 0) T.ju T.KD (rf T) hr.m T.iR.b .nil bB (ae (aM (ae bG (ae (aD bW (bz rfl (aa 0) rfl) af) ag))) ag)) ag)))),?_⟩;rfl';refine⟨_,_,hx,rfl,_,_,_,hx,T.ju,T.BQ,_,rfl,aX,λt ht=>?_⟩;have s0:=ak (o:=.tup [.non,.int (z-1)]) ht;refine⟨x,T.dC,dx,t,_,i,j,(none,some (z-1)),rfl,s0 _ _ hx,T.ju,T.BP,T.xH,rfl,rfl,hk,aq,λl xs H1 s1 y hl hP=>?_⟩;have hlen:=jk i j (none,some (z-1));obtain⟨k1,k2,k3⟩:=id hk;exact⟨l,xs,_,rfl,ai.of hl,hP,by lia,λc ys H2 s2 fc hc hy=>q c ys H2 (s0.trans (s1.trans s2)) ((s0.trans s1).free fc) hc (hy.imp λy y r=>r.back (s0.trans s1))⟩
inductive ZX(C:ab6)(vs:List V)(H:Hp)(Q:VK)(aN:XK):Prop
 | mk(x dx:ab6)(i j z:Int)(_:vs=[.ref x])(_:H x=some (.ins C dx [("first",.int i),("last",.int j),("sill",.int z)]))(_:bP i j)(_:∀ l ys H',ah H H'->H l=none->H' l=some (.lst ys)->ax (cu H H') ys (b8 (bp i j (some (z+1),none)))->Q (.ref l) H')
theorem ZY(T:aB):cj 3 T.Bx (ZX T.dD):=by refine fb JK ?_;rintro y y y y y y y y hr ⟨x,dx,i,j,z,rfl,hx,hk,q⟩;refine⟨_,(au (aA (aK (uN T) hr (ae (eV (aa 0) T.jv T.KG (rf T) hr.m T.iR.b .nil bB (ae (aM (ae (aD bb (bz rfl (aa 0) rfl) af) (ae bG ag))) ag)) ag)))),?_⟩;rfl';refine⟨_,_,hx,rfl,_,_,_,hx,T.jv,T.BS,_,rfl,aX,λt ht=>?_⟩;have s0:=ak (o:=.tup [.int (z+1),.non]) ht;refine⟨x,T.dD,dx,t,_,i,j,(some (z+1),none),rfl,s0 _ _ hx,T.jv,T.BR,T.xI,rfl,rfl,hk,aq,λl xs H1 s1 y hl hP=>?_⟩;have hlen:=jk i j (some (z+1),none);obtain⟨k1,k2,k3⟩:=id hk;exact⟨l,xs,_,rfl,ai.of hl,hP,by lia,λc ys H2 s2 fc hc hy=>q c ys H2 (s0.trans (s1.trans s2)) ((s0.trans s1).free fc) hc (hy.imp λy y r=>r.back (s0.trans s1))⟩
inductive ZZ(C:ab6)(vs:List V)(H:Hp)(Q:VK)(aN:XK):Prop
 | mk(x dx p:ab6)(i j:Int)(s:S2)(_:vs=[.ref x])(_:H x=some (.ins C dx [("first",.int i),("last",.int j),("stretch",.ref p)]))(_:bP i j)(_:H p=some (.tup [ev s.1,ev s.2]))(_:∀ l xs H',ah H H'->H l=none->H' l=some (.lst xs)->dw H' xs (ib i j s)->Q (.ref l) H')
theorem LP(T:aB):cj 1 T.xB (ZZ T.dj):=by
 refine fb JP ?_;rintro y y y s y y Q y y ⟨x,dx,p,i,j,s,rfl,hx,hk,hp,q⟩;refine⟨_,(au (aA (dg (cO [0] [aS]) rfl (my rfl T.eh (ae (bz rfl (aa 0) rfl) (ae (bz rfl (aa 0) rfl) ag))) (λC s2 H2 ex pn=>⟨df,(aM (ae aQ (ae (aa 0) (ae (bz (K:=K) rfl (aa 1) rfl) ag))))⟩)))),?_⟩;obtain⟨k1,k2,k3⟩:=hk;rfl';refine⟨_,_,_,hx,T.ke,T.Kz,_,rfl,_,_,_,hx,T.ke,T.BW,_,rfl,_,rfl,_,rfl,by lia,by lia,by lia,by lia,?_⟩;refine cJ gW (by rw[abT,ab5];exact ab3 (by lia:_<=20) (by decide)) (gJ (R:=λ_ x (k:Nat)=>x=V.int (i+k)) (R':=je) (f:=λ(k:Nat)=>(("step",i+(k:Int),s):Pa)) (λy y y y y h=>h) (λy y y y s' h=>h.same s') (ax.fI _) (bs:=[]) trivial (λy y=>trivial) (λx k y H2 s2 r Q h=>?_) (λy k y H2 s2 r Q h=>?_) λH2 zs s2 hz=>?_)
 .exact h
 .subst r;rfl';refine⟨_,_,_,s2 _ _ hx,T.ke,T.KA,_,rfl,by decide,λt ht=>h _ _ (ak ht) ⟨t,p,rfl,aq,(ak ht) _ _ (s2 _ _ hp)⟩⟩
 .intro l hl;refine q l zs _ (s2.trans (ak hl)) (s2.free hl) aq ?_;rw[aci] at hz;exact hz.imp λy y r=>r.same (ak hl)
inductive Z0(C:ab6)(vs:List V)(H:Hp)(Q:VK)(aN:XK):Prop
 | mk(x dx p:ab6)(i j:Int)(s:S2)(_:vs=[.ref x])(_:H x=some (.ins C dx [("first",.int i),("last",.int j),("stretch",.ref p)]))(_:bP i j)(_:H p=some (.tup [ev s.1,ev s.2]))(_:∀ l ys H',ah H H'->H l=none->H' l=some (.lst ys)->ax (cu H H') ys [ib i j s]->Q (.ref l) H')
theorem Z1(T:aB):cj 2 T.BD (Z0 T.dj):=by refine fb JQ ?_;rintro y y y s y y y y hr ⟨x,dx,p,i,j,s,rfl,hx,hk,hp,q⟩;refine⟨_,(au (aA (cn (ae (nN (aa 0) T.ke T.KH (LP T) hr.m T.xB.b .nil bB) ag)))),?_⟩;rfl';refine⟨_,_,hx,rfl,?_⟩;exact⟨x,dx,p,i,j,s,rfl,hx,hk,hp,λl xs H1 s1 fl hl hP=>⟨by decide,λc hc=>q c _ _ (s1.trans (ak hc)) (s1.free hc) aq ⟨⟨l,xs,rfl,fl,(ak hc) _ _ hl,hP.same (ak hc)⟩,trivial⟩⟩⟩
noncomputable def ki(t:Int):List Pa:=[("step",t-1,some 1,none),("step",t,none,some (-1))]
inductive Z2(C:ab6)(vs:List V)(H:Hp)(Q:VK)(aN:XK):Prop
 | mk(x dx:ab6)(t:Int)(_:vs=[.ref x])(_:H x=some (.ins C dx [("turn",.int t)]))(_:∀ l xs H',ah H H'->H l=none->H' l=some (.lst xs)->dw H' xs (ki t)->Q (.ref l) H')
theorem LQ(T:aB):cj 1 T.xC (Z2 T.fe):=by refine fb JU ?_;rintro y y y y y y y y y ⟨x,dx,t,rfl,hx,q⟩;refine⟨_,(au (aA (cn (ae (aM (ae aQ (ae (aD bW (bz rfl (aa 0) rfl) af) (ae (aM (ae af (ae bG ag))) ag)))) (ae (aM (ae aQ (ae (bz rfl (aa 0) rfl) (ae (aM (ae bG (ae (iD iM af) ag))) ag)))) ag))))),?_⟩;rfl';refine⟨_,_,_,hx,T.l6,T.xK,_,rfl,aX,λa ha=>⟨by decide,λb hb=>?_⟩⟩;have sa:=ak (o:=.tup [.int 1,.non]) ha;have sb:=ak (o:=.tup [.str "step",.int (t-1),.ref a]) hb;refine⟨_,_,_,(sa.trans sb) _ _ hx,T.l6,T.xK,_,rfl,aX,λc hc=>⟨by decide,λd hd=>⟨by decide,λe he=>?_⟩⟩⟩;have sc:=ak (o:=.tup [.non,.int (-1)]) hc;have sd:=ak (o:=.tup [.str "step",.int t,.ref c]) hd;have se:=ak (o:=.lst [.ref b,.ref d]) he;have zd:=sd.trans se;have zc:=sc.trans zd;have zb:=sb.trans zc;exact q e _ _ (sa.trans zb) ((sa.trans (sb.trans (sc.trans sd))).free he) aq ⟨⟨b,a,rfl,zc _ _ aq,zb _ _ aq⟩,⟨d,c,rfl,se _ _ aq,zd _ _ aq⟩,trivial⟩
inductive Z3(C:ab6)(vs:List V)(H:Hp)(Q:VK)(aN:XK):Prop
 | mk(x dx:ab6)(t:Int)(_:vs=[.ref x])(_:H x=some (.ins C dx [("turn",.int t)]))(_:∀ l ys H',ah H H'->H l=none->H' l=some (.lst ys)->ax (cu H H') ys [ki t]->Q (.ref l) H')
theorem Z4(T:aB):cj 2 T.BH (Z3 T.fe):=by refine fb JV ?_;rintro y y y y y y y y hr ⟨x,dx,t,rfl,hx,q⟩;refine⟨_,(au (aA (cn (ae (nN (aa 0) T.l6 T.KI (LQ T) hr.m T.xC.b .nil bB) ag)))),?_⟩;rfl';refine⟨_,_,hx,rfl,?_⟩;exact⟨x,dx,t,rfl,hx,λl xs H1 s1 fl hl hP=>⟨by decide,λc hc=>q c _ _ (s1.trans (ak hc)) (s1.free hc) aq ⟨⟨l,xs,rfl,fl,(ak hc) _ _ hl,hP.same (ak hc)⟩,trivial⟩⟩⟩
noncomputable def yb(i j l h:Int)(n:Nat):List (List Pa):=(ab2 n).flatMap λk=>(bp (i+(k:Nat)+1) j (some h,none)).map λp=>[(("at",i+(k:Nat),none,some l):Pa),p]
theorem Z5(i j l h:Int)(n:Nat):yb i j l h (n+1)=yb i j l h n++(bp (i+(n:Nat)+1) j (some h,none)).map λp=>[(("at",i+(n:Nat),none,some l):Pa),p]:=by unfold yb;rw[ajE,aij];simp
inductive Z6(H:Hp)(x r:ab6)(i j l h:Int)(n:Nat)(σ:St)(H1:Hp):Prop
 | mk(ys:List V)(e1 e2:Option V)(_:σ=[some (.ref x),some (.ref r),e1,e2])(_:ah H H1)(_:H1 r=some (.lst ys))(_:ax (ji H r H1) ys (yb i j l h n))(_:ys.length<=12 * n)
inductive Z7(C:ab6)(vs:List V)(H:Hp)(Q:VK)(aN:XK):Prop
 | mk(x dx:ab6)(i j l h:Int)(_:vs=[.ref x])(_:H x=some (.ins C dx [("first",.int i),("last",.int j),("low",.int l),("high",.int h)]))(_:bP i j)(_:∀ r ys H',ah H H'->H r=none->H' r=some (.lst ys)->ax (cu H H') ys (jm i j l h)->Q (.ref r) H')
theorem Z8(T:aB):cj 2 T.BA (Z7 T.dQ):=by
 refine fb t7 ?_;rintro v v v s H v Q v hr ⟨x,dx,i,j,l,h,rfl,hx,hk,q⟩;refine⟨_,(ar (aJ 1 t7.nd (cn ag)) (ar (cU acH rfl (my rfl T.eh (ae (bz rfl (aa 0) rfl) (ae (bz rfl (aa 0) rfl) ag))) (cv 2 t7.nd) (ar (aJ 3 t7.nd (cn (ae (aM (ae aQ (ae (aa 2) (ae (aM (ae bG (ae (bz rfl (aa 0) rfl) ag))) ag)))) ag))) (au (dm (lA ac3 agZ ag0 ET (aa 1) (ae (dg (cO [3] ["lows"]) rfl (cE (aK (ya T) hr (ae (aD bb (aa 2) af) (ae (bz rfl (aa 0) rfl) (ae (aM (ae (bz rfl (aa 0) rfl) (ae bG ag))) ag))))) (λC s2 H2 ex pn=>⟨df,(aD mF (aa 1) (cn (ae (aa 0) ag)))⟩)) ag)))))) (au (aA (aa 1))))),?_⟩;obtain⟨k1,k2,k3⟩:=id hk;rfl';refine⟨by decide,λr cc=>?_⟩;have s1:=ak (o:=.lst []) cc;have e1:upd H r (.lst []) r=some (.lst []):=aq;generalize upd H r (.lst [])=H1 at s1 e1 ⊢;refine⟨_,_,_,s1 _ _ hx,T.fE,T.xJ,_,rfl,_,_,_,s1 _ _ hx,T.fE,T.qS,_,rfl,_,rfl,_,rfl,by lia,by lia,by lia,by lia,?_⟩;refine pR (Z6 H x r i j l h) ⟨[],_,_,rfl,s1,e1,trivial,acr _⟩ ?_ ?_
 .rintro k σ H2 jn ⟨ys,v,v,rfl,s2,jy,hy,hlen⟩;rfl';refine⟨_,_,_,s2 _ _ hx,T.fE,T.BU,_,rfl,aX,λa ha=>⟨by decide,λb hb=>⟨by decide,λlo Z9=>?_⟩⟩⟩;have sa:=ak (o:=.tup [.non,.int l]) ha;have sb:=ak (o:=.tup [.str "at",.int (i+(k:Int)),.ref a]) hb;have sl:=ak (o:=.lst [.ref b]) Z9;have S3:=sa.trans (sb.trans sl);have eb:je (upd (upd (upd H2 a (.tup [.non,.int l])) b (.tup [.str "at",.int (i+(k:Int)),.ref a])) lo (.lst [.ref b])) (.ref b) (("at",i+(k:Int),none,some l):Pa):=⟨b,a,rfl,sl _ _ aq,(sb.trans sl) _ _ aq⟩
  have LR:(upd (upd (upd H2 a (.tup [.non,.int l])) b (.tup [.str "at",.int (i+(k:Int)),.ref a])) lo (.lst [.ref b])) lo=some (.lst [.ref b]):=aq;generalize upd (upd (upd H2 a (.tup [.non,.int l])) b (.tup [.str "at",.int (i+(k:Int)),.ref a])) lo (.lst [.ref b])=H3 at S3 eb LR ⊢;have iA:=S3 _ _ jy;have uO:=S3 _ _ (s2 _ _ hx);refine⟨.inl ⟨rfl,_,ai.of iA⟩,_,_,_,uO,T.fE,T.qS,_,rfl,_,_,_,uO,T.fE,T.BV,_,rfl,aX,λc hc=>?_⟩;have sc:=ak (o:=.tup [.int h,.non]) hc;refine⟨_,_,c,(some h,none),rfl,aq,by lia,by lia,λg gs H4 s4 v hg hG=>?_⟩;have S4:=sc.trans s4;have gO:=hG.len;rw[jk] at gO;rfl';refine⟨⟨_,ai.of hg⟩,cJ i8 (ab3 (by lia:gs.length<=12) (by decide)) (gJ (R:=je) (R':=ji H r) (f:=λp=>[(("at",i+(k:Int),none,some l):Pa),p]) (λv v v v s' h=>h.same s') (λv v v v s' h=>h.same s') hG (bs:=[]) trivial (λH' s'=>ai.of (s' _ _ hg)) (λx k v H5 s5 r Q h=>?_) (λy p v H5 s5 ry Q h=>?_) λH5 zs s5 hz=>?_)⟩
  .exact h
  .have S5:=S4.trans s5;rfl';refine⟨by decide,λd hd=>?_⟩;have sd:=ak (o:=.lst [y]) hd;refine⟨_,sd _ _ (S5 _ _ LR),_,aq,(show 2<=aco by decide),λm hm=>?_⟩;have sm:=ak (o:=.lst ([.ref b]++[y])) hm;have mr:m≠r:=λz=>by rw[z,sd _ _ (S5 _ _ iA)] at hm;cases hm
   exact h _ _ (sd.trans sm) ⟨m,[.ref b,y],rfl,mr,(s2.trans (S3.trans (S5.trans sd))).free hm,aq,(eb.same (S5.trans (sd.trans sm))),ry.same (sd.trans sm),trivial⟩
  .intro d hd;rw[aci] at hz;have u:=(S4.trans s5).trans (ak (o:=.lst zs) hd);have CJ:=hz.len;rw[abT,jk] at CJ;refine⟨r,d,_,_,rfl,rfl,u _ _ iA,aq,ab3 (by lia:ys.length+zs.length<=300) (by decide),ys++zs,_,_,rfl,jK cc (s2.trans (S3.trans u)),aq,?_,by rw[acj];lia⟩;rw[Z5];have a1:=(hy.imp λv v z=>(z.same (S3.trans u)).put (o:=.lst (ys++zs)) (u _ _ iA))
   have a2:=(hz.imp λv v z=>(z.same (ak (o:=.lst zs) hd)).put (o:=.lst (ys++zs)) (u _ _ iA))
   exact a1.app a2
 .rintro σ H2 ⟨ys,v,v,rfl,s2,jy,hy,hlen⟩;exact q r ys H2 s2 cc jy (hy.imp λv v z=>z.Ip)
inductive aaa(C:ab6)(vs:List V)(H:Hp)(Q:VK)(aN:XK):Prop
 | mk(x dx p:ab6)(i j:Int)(s:S2)(_:vs=[.ref x])(_:H x=some (.ins C dx [("first",.int i),("last",.int j),("stretch",.ref p)]))(_:bP i j)(_:H p=some (.tup [ev s.1,ev s.2]))(_:∀ l ys H',ah H H'->H l=none->H' l=some (.lst ys)->ax (cu H H') ys (b8 (bp i j s))->Q (.ref l) H')
theorem aab(T:aB):cj 3 T.Br (aaa T.dB):=by refine fb JF ?_;rintro y y y s y y y y hr ⟨x,dx,p,i,j,s,rfl,hx,hk,hp,q⟩;refine⟨_,(au (aA (aK (uN T) hr (ae (eV (aa 0) T.jt T.KC (rf T) hr.m T.iR.b .nil bB (ae (bz rfl (aa 0) rfl) ag)) ag)))),?_⟩;rfl';refine⟨_,_,hx,rfl,_,_,_,hx,T.jt,T.BO,_,rfl,?_⟩;have hlen:=jk i j s;obtain⟨k1,k2,k3⟩:=id hk;exact⟨x,T.dB,dx,p,_,i,j,s,rfl,hx,T.jt,T.BN,T.xG,rfl,rfl,hk,hp,λl xs H1 s1 y hl hP=>⟨l,xs,_,rfl,ai.of hl,hP,by lia,λc ys H2 s2 fc hc hy=>q c ys H2 (s1.trans s2) (s1.free fc) hc (hy.imp λy y r=>r.back s1)⟩⟩
inductive aac(C:ab6)(vs:List V)(H:Hp)(Q:VK)(aN:XK):Prop
 | mk(x dx:ab6)(i j z:Int)(_:vs=[.ref x])(_:H x=some (.ins C dx [("first",.int i),("last",.int j),("sill",.int z)]))(_:bP i j)(_:∀ l ys H',ah H H'->H l=none->H' l=some (.lst ys)->ax (cu H H') ys [bp i j (none,some (z-1))]->Q (.ref l) H')
theorem aad(T:aB):cj 3 T.Bv (aac T.dC):=by refine fb JI ?_;rintro y y y y y y y y hr ⟨x,dx,i,j,z,rfl,hx,hk,q⟩;refine⟨_,(au (aA (cn (ae (eV (aa 0) T.ju T.KD (rf T) hr.m T.iR.b .nil bB (ae (aM (ae bG (ae (aD bW (bz rfl (aa 0) rfl) af) ag))) ag)) ag)))),?_⟩;rfl';refine⟨_,_,hx,rfl,_,_,_,hx,T.ju,T.BQ,_,rfl,aX,λt ht=>?_⟩;have s0:=ak (o:=.tup [.non,.int (z-1)]) ht;exact⟨x,T.dC,dx,t,_,i,j,(none,some (z-1)),rfl,s0 _ _ hx,T.ju,T.BP,T.xH,rfl,rfl,hk,aq,λl xs H1 s1 fl hl hP=>⟨by decide,λc hc=>q c _ _ (s0.trans (s1.trans (ak hc))) ((s0.trans s1).free hc) aq ⟨⟨l,xs,rfl,s0.free fl,(ak hc) _ _ hl,hP.same (ak hc)⟩,trivial⟩⟩⟩
inductive aae(C:ab6)(vs:List V)(H:Hp)(Q:VK)(aN:XK):Prop
 | mk(x dx:ab6)(i j z:Int)(_:vs=[.ref x])(_:H x=some (.ins C dx [("first",.int i),("last",.int j),("sill",.int z)]))(_:bP i j)(_:∀ l ys H',ah H H'->H l=none->H' l=some (.lst ys)->ax (cu H H') ys [bp i j (some (z+1),none)]->Q (.ref l) H')
theorem aaf(T:aB):cj 3 T.By (aae T.dD):=by refine fb JL ?_;rintro y y y y y y y y hr ⟨x,dx,i,j,z,rfl,hx,hk,q⟩;refine⟨_,(au (aA (cn (ae (eV (aa 0) T.jv T.KG (rf T) hr.m T.iR.b .nil bB (ae (aM (ae (aD bb (bz rfl (aa 0) rfl) af) (ae bG ag))) ag)) ag)))),?_⟩;rfl';refine⟨_,_,hx,rfl,_,_,_,hx,T.jv,T.BS,_,rfl,aX,λt ht=>?_⟩;have s0:=ak (o:=.tup [.int (z+1),.non]) ht;exact⟨x,T.dD,dx,t,_,i,j,(some (z+1),none),rfl,s0 _ _ hx,T.jv,T.BR,T.xI,rfl,rfl,hk,aq,λl xs H1 s1 fl hl hP=>⟨by decide,λc hc=>q c _ _ (s0.trans (s1.trans (ak hc))) ((s0.trans s1).free hc) aq ⟨⟨l,xs,rfl,s0.free fl,(ak hc) _ _ hl,hP.same (ak hc)⟩,trivial⟩⟩⟩
theorem LS(i j:Int)(s:S2):(ib i j s).length=(j-i).toNat:=by unfold ib;rw[abT,ab5]
inductive aag(C:ab6)(vs:List V)(H:Hp)(Q:VK)(aN:XK):Prop
 | mk(x dx p:ab6)(i j:Int)(s:S2)(_:vs=[.ref x])(_:H x=some (.ins C dx [("first",.int i),("last",.int j),("stretch",.ref p)]))(_:bP i j)(_:H p=some (.tup [ev s.1,ev s.2]))(_:∀ l ys H',ah H H'->H l=none->H' l=some (.lst ys)->ax (cu H H') ys (b8 (ib i j s))->Q (.ref l) H')
theorem aah(T:aB):cj 3 T.BE (aag T.dj):=by refine fb JR ?_;rintro y y y s y y y y hr ⟨x,dx,p,i,j,s,rfl,hx,hk,hp,q⟩;refine⟨_,(au (aA (aK (uN T) hr (ae (nN (aa 0) T.ke T.KH (LP T) hr.m T.xB.b .nil bB) ag)))),?_⟩;rfl';refine⟨_,_,hx,rfl,?_⟩;have hlen:=LS i j s;obtain⟨k1,k2,k3⟩:=id hk;exact⟨x,dx,p,i,j,s,rfl,hx,hk,hp,λl xs H1 s1 y hl hP=>⟨l,xs,_,rfl,ai.of hl,hP,by lia,λc ys H2 s2 fc hc hy=>q c ys H2 (s1.trans s2) (s1.free fc) hc (hy.imp λy y r=>r.back s1)⟩⟩
inductive aai(C:ab6)(vs:List V)(H:Hp)(Q:VK)(aN:XK):Prop
 | mk(x dx:ab6)(t:Int)(_:vs=[.ref x])(_:H x=some (.ins C dx [("turn",.int t)]))(_:∀ l ys H',ah H H'->H l=none->H' l=some (.lst ys)->ax (cu H H') ys (b8 (ki t))->Q (.ref l) H')
theorem aaj(T:aB):cj 3 T.BI (aai T.fe):=by refine fb JW ?_;rintro y y y y y y y y hr ⟨x,dx,t,rfl,hx,q⟩;refine⟨_,(au (aA (aK (uN T) hr (ae (nN (aa 0) T.l6 T.KI (LQ T) hr.m T.xC.b .nil bB) ag)))),?_⟩;rfl';refine⟨_,_,hx,rfl,?_⟩;exact⟨x,dx,t,rfl,hx,λl xs H1 s1 y hl hP=>⟨l,xs,_,rfl,ai.of hl,hP,(show 2<=100 by decide),λc ys H2 s2 fc hc hy=>q c ys H2 (s1.trans s2) (s1.free fc) hc (hy.imp λy y r=>r.back s1)⟩⟩
noncomputable def md(i j l h:Int):List (List Pa):=(ab2 (j+1-i).toNat).map λk=>bp i (i+(k:Nat)-1) (some (l+1),none)++bp (i+(k:Nat)+1) j (none,some (h-1))
inductive aak(C:ab6)(vs:List V)(H:Hp)(Q:VK)(aN:XK):Prop
 | mk(x dx:ab6)(i j l h:Int)(_:vs=[.ref x])(_:H x=some (.ins C dx [("first",.int i),("last",.int j),("low",.int l),("high",.int h)]))(_:bP i j)(_:∀ r ys H',ah H H'->H r=none->H' r=some (.lst ys)->ax (cu H H') ys (md i j l h)->Q (.ref r) H')
theorem aal(T:aB):cj 2 T.BB (aak T.dQ):=by
 refine fb JN ?_;rintro y y y s H y Q y hr ⟨x,dx,i,j,l,h,rfl,hx,hk,q⟩;refine⟨_,(au (aA (dg (cO [0] [aS]) rfl (my rfl T.eh (ae (bz rfl (aa 0) rfl) (ae (aD bb (bz rfl (aa 0) rfl) af) ag))) (λC s2 H2 ex pn=>⟨df,(aD mF (aK (ya T) hr (ae (bz (K:=K) rfl (aa 1) rfl) (ae (aD bW (aa 0) af) (ae (aM (ae (aD bb (bz (K:=K) rfl (aa 1) rfl) af) (ae bG ag))) ag)))) (aK (ya T) hr (ae (aD bb (aa 0) af) (ae (bz (K:=K) rfl (aa 1) rfl) (ae (aM (ae bG (ae (aD bW (bz (K:=K) rfl (aa 1) rfl) af) ag))) ag)))))⟩)))),?_⟩;obtain⟨k1,k2,k3⟩:=id hk;rfl';refine⟨_,_,_,hx,T.fE,T.xJ,_,rfl,_,_,_,hx,T.fE,T.qS,_,rfl,_,rfl,by lia,by lia,by lia,by lia,?_⟩;refine cJ gW (by rw[abT,ab5];exact ab3 (by lia:_<=20) (by decide)) (gJ (R:=λ_ x (k:Nat)=>x=V.int (i+k)) (R':=cu H) (f:=λ(k:Nat)=>bp i (i+(k:Int)-1) (some (l+1),none)++bp (i+(k:Int)+1) j (none,some (h-1))) (λy y y y y h=>h) (λy y y y s' h=>h.same s') (ax.fI _) (bs:=[]) trivial (λy y=>trivial) (λx k y H2 s2 r Q h=>?_) (λy k LU H2 s2 r Q hq=>?_) λH2 zs s2 hz=>?_)
 .exact h
 .subst r;have LU:=acp.mp LU;have mI:=s2 _ _ hx;refine⟨_,_,_,mI,T.fE,T.xJ,_,rfl,_,_,_,mI,T.fE,T.BU,_,rfl,aX,λa ha=>?_⟩;have sa:=ak (o:=.tup [.int (l+1),.non]) ha;refine⟨_,_,a,(some (l+1),none),rfl,aq,by lia,by lia,λg gs H3 s3 y hg hG=>?_⟩;have uO:=(sa.trans s3) _ _ mI;refine⟨_,_,_,uO,T.fE,T.qS,_,rfl,_,_,_,uO,T.fE,T.BV,_,rfl,aX,λb hb=>?_⟩;have sb:=ak (o:=.tup [.non,.int (h-1)]) hb;refine⟨_,_,b,(none,some (h-1)),rfl,aq,by lia,by lia,λd ds H4 s4 y hd hD=>?_⟩;have S4:=sb.trans s4;have l1:=hG.len;have l2:=hD.len;rw[jk] at l1 l2;rfl';refine⟨gs,S4 _ _ hg,ds,hd,ab3 (by lia:gs.length+ds.length<=40) (by decide),λc hc=>?_⟩;have sc:=ak (o:=.lst (gs++ds)) hc;exact hq _ _ ((sa.trans s3).trans (S4.trans sc)) ⟨c,gs++ds,rfl,(s2.trans ((sa.trans s3).trans S4)).free hc,aq,ax.app (dw.same hG (S4.trans sc)) (dw.same hD sc)⟩
 .intro c hc;refine q c zs _ (s2.trans (ak hc)) (s2.free hc) aq ?_;rw[aci] at hz;exact hz.imp λy y r=>r.same (ak hc)
theorem yc:(dF u d ps n).length=n:=by unfold dF;rw[abT,ab5]
theorem kj:(eQ ps n).length=n:=by unfold eQ;rw[abT,ab5]
theorem yd{G H:Hp}{v:V}{sw gw:List W2}{tb:Tb}{m:Int}(hl:gw.length=sw.length+1)(ht:∀ r∈tb,r.1.2.toNat<gw.length)(A:Cz G H v sw gw tb m):∃ r,v = .ref r/\((∃ z,H r=some (.tup [.str "never",z])/\∀ L c,¬ gP sw gw tb m L c) ∨ ∃ k cs L,H r=some (.tup [.str "may",.ref k])/\H k=some (.lst (cs.map V.int))/\G k=none/\cs.length=gw.length/\gP sw gw tb m L (bO cs)):=by
 rcases A with ⟨r,k,j,rfl,h1,h2,h3⟩|⟨r,k,j,rfl,h1,h2,h3⟩|⟨r,k,p,pp,gs,rfl,h1,h2,h3,e1,e2,h4⟩|⟨r,k,cs,pp,gs,es,rfl,h1,h2,h3,h4,e1,e2,h5,h6,h7,h8⟩
 .exact⟨r,rfl,.inl ⟨_,h1,λL c z=>by obtain⟨s,e,y⟩:=z.2.1 j none h3;cases e⟩⟩
 .exact⟨r,rfl,.inl ⟨_,h1,λL c z=>by obtain⟨s,e,y⟩:=z.2.2.1 j none h3;cases e⟩⟩
 .refine⟨r,rfl,.inl ⟨_,h1,λL c z=>?_⟩⟩;subst e1 e2;rw[abT] at hl ht;rw[abT] at hl;exact absurd h4 (Jr z.1 (A9.mp z.2.1) (Ba.mp z.2.2.1) (by lia) (A8.mpr z.2.2.2) (λr hr=>by have:=ht r hr;lia) p [] .nil (λx hx=>by cases hx))
 .subst e1 e2;exact⟨r,rfl,.inr ⟨k,cs,es,h1,h2,h3,h4,h7,A9.mpr h5,Ba.mpr h6,A8.mp h8⟩⟩
theorem CK{u d t m:Int}{ps:List Pa}{tb:Tb}{gw:List W2}{L cs:List Int}(hl:cs.length=t.toNat)(F:gP (dF u d ps (t-1).toNat) gw tb m L (bO cs))(k:Nat)(hk:k+1<cs.length) : -d<=fz cs (k+1)-fz cs k/\fz cs (k+1)-fz cs k<=u:=by have h:=F.2.1 k (fQ (none,none) ((some (-d),some u)::sel ps "step" (k:Int))) (by unfold dF;rw[aca,acV (by lia)];rfl);have:=wI.mp h _ (.head _);exact⟨this.1 _ rfl,this.2 _ rfl⟩
theorem CL{m:Int}{tb:Tb}{sw gw:List W2}{L cs:List Int}(F:gP sw gw tb m L (bO cs))(zs:List Int)(hn:zs.Nodup)(hz:∀ i,i∈zs↔Ck tb cs i):(zs.length:Int)<=m:=by
 have:=wZ (ys:=L) hn λi hi=>by obtain⟨r,hr,rfl,hb⟩:=(hz i).mp hi;refine Decidable.byContradiction λhc=>?_;have:=Ah.mp (F.2.2.2 r hr hc);unfold Gz.hs at hb;exact absurd (this.symm.trans hb) (by decide)
 have:=F.1;lia
theorem LV(h:p∈ps):p.2.2∈sel ps p.1 p.2.1:=ab7.mpr ⟨p,acv.mpr ⟨h,by simp[kO]⟩,rfl⟩
theorem LW{G H:Hp}{v:V}{sw gw:List W2}{tb:Tb}{m:Int}(A:Cz G H v sw gw tb m)(bC:∀ L c,¬ gP sw gw tb m L c):∃ r k,v = .ref r/\H r=some (.tup [.str "never",k])/\gv H k sw gw tb m [] 10:=by
 rcases A with ⟨r,k,j,rfl,h1,h2,h3⟩|⟨r,k,j,rfl,h1,h2,h3⟩|⟨r,k,p,pp,gs,rfl,h1,h2,h3,e1,e2,h4⟩|⟨r,k,cs,pp,gs,es,rfl,h1,h2,h3,h4,e1,e2,h5,h6,h7,h8⟩
 .exact⟨r,_,rfl,h1,.nC k j rfl h2 h3⟩
 .exact⟨r,_,rfl,h1,.gol k j rfl h2 h3⟩
 .exact⟨r,_,rfl,h1,.pap p pp gs h2 (by lia) e1 e2 h4⟩
 .subst e1 e2;exact absurd ⟨h7,A9.mpr h5,Ba.mpr h6,A8.mp h8⟩ (bC es (bO cs))
def cR(u d t m:Int)(tb:Tb)(ps:List Pa):Prop:=∃ L c,gP (dF u d ps (t-1).toNat) (eQ ps t.toNat) tb m L c
def CM(H:Hp)(v:V)(ps:List Pa):Prop:=∃ c xs,v = .ref c/\H c=some (.lst xs)/\dw H xs ps
def dG(u d t m:Int)(tb:Tb)(H:Hp)(v:V)(ps:List Pa):Prop:=gv H v (dF u d ps (t-1).toNat) (eQ ps t.toNat) tb m [] 10
def ye(H H':Hp):Prop:=∀ a xs,H a=some (.tup xs)->H' a=some (.tup xs)
theorem gq.tp(s:ye H H'):∀ {t:Pp} {v:V},gq H v t->gq H' v t
 | .nil,_,h=>h
 | .full,_,⟨r,e,h1⟩=>⟨r,e,s _ _ h1⟩
 | .cls _ _ _,_,⟨r,p,q,x,y,e,h1,h2,h3,h4,h5⟩=>⟨r,p,q,x,y,e,s _ _ h1,s _ _ h2,s _ _ h3,gq.tp s h4,gq.tp s h5⟩
theorem dG.tp(h:dG u d t m tb H v ps)(s:ye H H'):dG u d t m tb H' v ps:=by
 rcases h with ⟨k,j,e,h1,h2⟩|⟨k,j,e,h1,h2⟩|⟨t,pp,gs,h1,h2,h3,h4,h5⟩
 .exact .nC k j e (s _ _ h1) h2
 .exact .gol k j e (s _ _ h1) h2
 .exact .pap t pp gs (h1.tp s) h2 h3 h4 h5
theorem zj(h:H l=some (.lst xs)):ye H (upd H l o):=λa us e=>by rw[aF λz=>by rw[z,h] at e;cases e];exact e
inductive aam(B:ab6)(vs:List V)(H:Hp)(Q:VK)(aN:XK):Prop
 | mk(x p l:ab6)(e t u d m:Int)(tb:Tb)(ys:List V)(cl:List (List Pa))(_:vs=[.ref x,.ref l])(_:cf B H x e t u d m p tb)(_:c7 e t u d m)(_:bK e t tb)(_:tb.length<=60)(_:H l=some (.lst ys))(_:ax (CM H) ys cl)(_:cl.length<=200)(_:(∀ ps∈cl,ps.length<=900/\c6 t ps))(_:(∀ r k cs L ps H',ah H H'->ps∈cl->H' r=some (.tup [.str "may",.ref k])->H' k=some (.lst (cs.map V.int))->cs.length=t.toNat->gP (dF u d ps (t-1).toNat) (eQ ps t.toNat) tb m L (bO cs)->Q (.ref r) H'))(_:(∀ r k zs H',ah H H'->H' r=some (.tup [.str "never",.ref k])->H' k=some (.lst zs)->ax (dG u d t m tb H') zs cl->(∀ ps∈cl,¬ cR u d t m tb ps)->Q (.ref r) H'))
inductive aan(H:Hp)(x l pa:ab6)(u d t m:Int)(tb:Tb)(cl:List (List Pa))(i:Nat)(σ:St)(H1:Hp):Prop
 | mk(zs:List V)(e1 e2:Option V)(_:σ=[some (.ref x),some (.ref l),some (.ref pa),e1,e2])(_:ah H H1)(_:H1 pa=some (.lst zs))(_:ax (dG u d t m tb H1) zs (cl.take i))(_:(∀ ps∈cl.take i,¬ cR u d t m tb ps))
theorem CN(T:aB):aP 21 T.VR (aam T.aT):=by
 refine ig ua ?_;rintro y A y y H y y y hr ⟨x,p,l,e,t,u,d,m,tb,ys,cl,rfl,hB,bH,hot,b6,hl,hC,br,az,q1,q2⟩;refine⟨_,(ar (aJ 2 ua.nd (cn ag)) (ar (cU adV rfl (cE (aa 1)) (cv 3 ua.nd) (ar (aJ 4 ua.nd (dO (x5 T) hr (ae (aa 0) (ae (aa 3) ag)))) (ar (aH (bq (ao (aa 4) af) aQ) (au (aA (aa 4))) aG) (au (dm (lA ac3 adL adM sx (aa 2) (ae (ao (aa 4) af) ag))))))) (au (aA (aM (ae aQ (ae (aa 2) ag))))))),?_⟩;obtain⟨⟨e1,e7⟩,⟨t1,t2⟩,u0,d0,m0,me⟩:=id bH;have yl:=hC.len;refine aC (λσ H1=>∃ pa,σ=[some (.ref x),some (.ref l),some (.ref pa),none,none]/\ah H H1/\H pa=none/\H1 pa=some (.lst [])) (λN hN=>?_) ?_
 .exact⟨acr _,λpa l8=>hN _ _ ⟨pa,rfl,ak l8,l8,aq⟩⟩
 rintro y yR σ H1 ⟨pa,rfl,s1,fpa,l8⟩;subst yR;rfl';refine⟨⟨_,ai.of (s1 _ _ hl)⟩,gD (aan H x l pa u d t m tb cl) ⟨[],_,_,rfl,s1,l8,trivial,λy z=>by simp at z⟩ (λi σ H2 _ ⟨_,_,_,_,s2,_,_,_⟩=>ai.of (s2 _ _ hl)) ?_ ?_⟩
 .rintro i v σ H2 hv ⟨zs,z1,z2,rfl,s2,CO,hZ,bC⟩;obtain⟨ps,hps,c,xs,rfl,hc,hP⟩:=hC.get hv;have pin:=ace hps;obtain⟨pl,k6⟩:=az ps pin;rfl';refine⟨x,p,c,e,t,u,d,m,xs,ps,tb,rfl,hB.same s2,hot,b6,t1,t2,by lia,e7,m0,by lia,ai.of (s2 _ _ hc),hP.same s2,pl,λz=>absurd k6 z,λy v H3 s3 A=>?_⟩;have S3:=s2.trans s3;by_cases hh:cR u d t m tb ps
  .obtain⟨L0,c0,F0⟩:=hh;obtain⟨rr,rfl,⟨z,hrr,hn⟩|⟨k9,cs,L,hrr,fV,y,hcs,F⟩⟩:=yd (by rw[yc,kj];lia) (λr hr=>by rw[kj];have:=(hot.2 r hr).2;lia) A
   .exact absurd F0 (hn _ _)
   rw[kj] at hcs;refine aI hrr ?_;exact q1 rr k9 cs L ps H3 S3 pin hrr fV hcs F
  .obtain⟨rr,z,rfl,hrr,hR⟩:=LW A λL c F=>hh ⟨L,c,F⟩;refine aI hrr ?_;rfl';have yf:=s3 _ _ CO;have zl:=hZ.len;have il:=(ab0.mp hps).1;rw[adC] at zl;rw[if_neg (by decide)];refine⟨.inl ⟨rfl,_,ai.of yf⟩,ay (aj.of hrr) rfl ⟨zs,yf,ac5 (by lia:_<=200) (by decide),_,_,_,rfl,jK fpa S3,aq,?_,λqs hq=>?_⟩⟩
   .rw[acR,hps];exact ax.snoc (hZ.imp λy y h=>dG.tp (gv.same h s3) (zj yf)) (dG.tp hR (zj yf))
   .rw[acR,hps] at hq;rcases acw.mp hq with z|z
    .exact bC qs z
    .obtain rfl:qs=ps:=by simpa using z
     exact hh
 .rintro σ H2 ⟨zs,z1,z2,rfl,s2,CO,hZ,bC⟩;rw[yl,acU] at hZ bC;exact⟨aX,λr hr=>q2 r pa zs _ (s2.trans (ak hr)) aq ((ak hr) _ _ CO) (hZ.imp λy y h=>gv.same h (ak hr)) bC⟩
inductive Tr where
 | stay (i j:Int) (l h:En)|over (i j s:Int)|under (i j s:Int)|rose (i j l h:Int)|pace (i j:Int) (l h:En)|turn (t:Int)
noncomputable def nD:Tr->List V
 | .stay i j l h=>[.str "stay",.int i,.int j,ev l,ev h]
 | .over i j s=>[.str "over",.int i,.int j,.int s]
 | .under i j s=>[.str "under",.int i,.int j,.int s]
 | .rose i j l h=>[.str "rose",.int i,.int j,.int l,.int h]
 | .pace i j l h=>[.str "pace",.int i,.int j,ev l,ev h]
 | .turn t=>[.str "turn",.int t]
def dS:Tr->Prop
 | .stay i j l h=>bP i j
 | .over i j s=>bP i j
 | .under i j s=>bP i j
 | .rose i j l h=>bP i j/\l<h
 | .pace i j l h=>bP i j
 | .turn t=>0<t/\t<11
noncomputable def ck:Tr->Int
 | .stay i j l h=>j
 | .over i j s=>j
 | .under i j s=>j
 | .rose i j l h=>j
 | .pace i j l h=>j
 | .turn t=>t+1
noncomputable def cy:Tr->List (List Pa)
 | .stay i j l h=>[bp i j (l,h)]
 | .over i j s=>b8 (bp i j (none,some (s-1)))
 | .under i j s=>b8 (bp i j (some (s+1),none))
 | .rose i j l h=>jm i j l h
 | .pace i j l h=>[ib i j (l,h)]
 | .turn t=>[ki t]
noncomputable def bL:Tr->List (List Pa)
 | .stay i j l h=>b8 (bp i j (l,h))
 | .over i j s=>[bp i j (none,some (s-1))]
 | .under i j s=>[bp i j (some (s+1),none)]
 | .rose i j l h=>md i j l h
 | .pace i j l h=>b8 (ib i j (l,h))
 | .turn t=>b8 (ki t)
def eF(T:aB)(H:Hp)(x:ab6):Tr->Prop
 | .stay i j l h=>∃ dx p,H x=some (.ins T.dB dx [("first",.int i),("last",.int j),("stretch",.ref p)])/\H p=some (.tup [ev l,ev h])
 | .over i j s=>∃ dx,H x=some (.ins T.dC dx [("first",.int i),("last",.int j),("sill",.int s)])
 | .under i j s=>∃ dx,H x=some (.ins T.dD dx [("first",.int i),("last",.int j),("sill",.int s)])
 | .rose i j l h=>∃ dx,H x=some (.ins T.dQ dx [("first",.int i),("last",.int j),("low",.int l),("high",.int h)])
 | .pace i j l h=>∃ dx p,H x=some (.ins T.dj dx [("first",.int i),("last",.int j),("stretch",.ref p)])/\H p=some (.tup [ev l,ev h])
 | .turn t=>∃ dx,H x=some (.ins T.fe dx [("turn",.int t)])
theorem eF.same{T:aB}{H H':Hp}{x:ab6}{tr:Tr}(h:eF T H x tr)(s:ah H H'):eF T H' x tr:=by
 cases tr
 case stay=>obtain⟨dx,p,a,b⟩:=h;exact⟨dx,p,s _ _ a,s _ _ b⟩
 case pace=>obtain⟨dx,p,a,b⟩:=h;exact⟨dx,p,s _ _ a,s _ _ b⟩
 all_goals (obtain⟨dx,a⟩:=h;exact⟨dx,s _ _ a⟩)
inductive yg(T:aB)(f:Tr->List (List Pa))(x:V)(H:Hp)(Q:VK):Prop
 | mk(a:ab6)(tr:Tr)(_:x = .ref a)(_:eF T H a tr)(_:dS tr)(_:∀ l ys H',ah H H'->H l=none->H' l=some (.lst ys)->ax (cu H H') ys (f tr)->Q (.ref l) H')
inductive LX(T:aB)(x:V)(H:Hp)(Q:VK):Prop
 | mk(a:ab6)(tr:Tr)(_:x = .ref a)(_:eF T H a tr)(_:dS tr)(_:∀ H',ah H H'->Q (.int (ck tr)) H')
theorem LY(T:aB)(hr:bI n A)(hn:3<=n:=by decide)(x:V)(H:Hp)(Q:VK)(h:yg T cy x H Q):qN P w K mg base A "ways" x H Q:=by
 obtain⟨x,tr,rfl,he,hg,cont⟩:=h;replace hr:=hr.mono hn;cases tr with
 | stay i j l h =>
  obtain⟨dx,p,hx,hp⟩:=id he;exact .of hx T.jt T.Wt (ZU T) hr T.Bq.b ⟨x,dx,p,i,j,(l,h),rfl,hx,hg,hp,cont⟩
 | over i j s =>
  obtain⟨dx,hx⟩:=id he;exact .of hx T.ju T.Ww (ZW T) hr T.Bu.b ⟨x,dx,i,j,s,rfl,hx,hg,cont⟩
 | under i j s =>
  obtain⟨dx,hx⟩:=id he;exact .of hx T.jv T.Wz (ZY T) hr T.Bx.b ⟨x,dx,i,j,s,rfl,hx,hg,cont⟩
 | rose i j l h =>
  obtain⟨dx,hx⟩:=id he;exact .of hx T.fE T.WC (Z8 T) hr T.BA.b ⟨x,dx,i,j,l,h,rfl,hx,hg.1,cont⟩
 | pace i j l h =>
  obtain⟨dx,p,hx,hp⟩:=id he;exact .of hx T.ke T.WG (Z1 T) hr T.BD.b ⟨x,dx,p,i,j,(l,h),rfl,hx,hg,hp,cont⟩
 | turn t =>
  obtain⟨dx,hx⟩:=id he;exact .of hx T.l6 T.WJ (Z4 T) hr T.BH.b ⟨x,dx,t,rfl,hx,cont⟩
theorem LZ(T:aB){H:Hp}{x:ab6}{tr:Tr}(he:eF T H x tr)(hg:dS tr)(Q:VK)(cont:∀ l ys H',ah H H'->H l=none->H' l=some (.lst ys)->ax (cu H H') ys (cy tr)->Q (.ref l) H'):yg T cy (.ref x) H Q:=⟨x,tr,rfl,he,hg,cont⟩
theorem yh(T:aB)(hr:bI n A)(hn:3<=n:=by decide)(x:V)(H:Hp)(Q:VK)(h:yg T bL x H Q):qN P w K mg base A "breaks" x H Q:=by
 obtain⟨x,tr,rfl,he,hg,cont⟩:=h;replace hr:=hr.mono hn;cases tr with
 | stay i j l h =>
  obtain⟨dx,p,hx,hp⟩:=id he;exact .of hx T.jt T.Wu (aab T) hr T.Br.b ⟨x,dx,p,i,j,(l,h),rfl,hx,hg,hp,cont⟩
 | over i j s =>
  obtain⟨dx,hx⟩:=id he;exact .of hx T.ju T.Wx (aad T) hr T.Bv.b ⟨x,dx,i,j,s,rfl,hx,hg,cont⟩
 | under i j s =>
  obtain⟨dx,hx⟩:=id he;exact .of hx T.jv T.WA (aaf T) hr T.By.b ⟨x,dx,i,j,s,rfl,hx,hg,cont⟩
 | rose i j l h =>
  obtain⟨dx,hx⟩:=id he;exact .of hx T.fE T.WD (aal T) hr T.BB.b ⟨x,dx,i,j,l,h,rfl,hx,hg.1,cont⟩
 | pace i j l h =>
  obtain⟨dx,p,hx,hp⟩:=id he;exact .of hx T.ke T.WH (aah T) hr T.BE.b ⟨x,dx,p,i,j,(l,h),rfl,hx,hg,hp,cont⟩
 | turn t =>
  obtain⟨dx,hx⟩:=id he;exact .of hx T.l6 T.WK (aaj T) hr T.BI.b ⟨x,dx,t,rfl,hx,cont⟩
theorem yi(T:aB){H:Hp}{x:ab6}{tr:Tr}(he:eF T H x tr)(hg:dS tr)(Q:VK)(cont:∀ l ys H',ah H H'->H l=none->H' l=some (.lst ys)->ax (cu H H') ys (bL tr)->Q (.ref l) H'):yg T bL (.ref x) H Q:=⟨x,tr,rfl,he,hg,cont⟩
theorem CP(T:aB)(hr:bI n A)(hn:1<=n:=by decide)(x:V)(H:Hp)(Q:VK)(h:LX T x H Q):qN P w K mg base A "far" x H Q:=by
 obtain⟨x,tr,rfl,he,hg,cont⟩:=h;replace hr:=hr.mono hn;cases tr with
 | stay i j l h =>
  obtain⟨dx,p,hx,hp⟩:=id he;exact .of hx T.jt T.Ws (uM T) hr T.jr.b ⟨x,T.dB,dx,_,j,rfl,hx,T.jt,T.xG,rfl,cont _ (ah.refl _)⟩
 | over i j s =>
  obtain⟨dx,hx⟩:=id he;exact .of hx T.ju T.Wv (uM T) hr T.jr.b ⟨x,T.dC,dx,_,j,rfl,hx,T.ju,T.xH,rfl,cont _ (ah.refl _)⟩
 | under i j s =>
  obtain⟨dx,hx⟩:=id he;exact .of hx T.jv T.Wy (uM T) hr T.jr.b ⟨x,T.dD,dx,_,j,rfl,hx,T.jv,T.xI,rfl,cont _ (ah.refl _)⟩
 | rose i j l h =>
  obtain⟨dx,hx⟩:=id he;exact .of hx T.fE T.WB (uM T) hr T.jr.b ⟨x,T.dQ,dx,_,j,rfl,hx,T.fE,T.qS,rfl,cont _ (ah.refl _)⟩
 | pace i j l h =>
  obtain⟨dx,p,hx,hp⟩:=id he;exact .of hx T.ke T.WE (uM T) hr T.jr.b ⟨x,T.dj,dx,_,j,rfl,hx,T.ke,T.BW,rfl,cont _ (ah.refl _)⟩
 | turn t =>
  obtain⟨dx,hx⟩:=id he;exact .of hx T.l6 T.WI (ZL T) hr T.BG.b ⟨x,T.fe,dx,_,t,rfl,hx,T.l6,T.xK,rfl,cont _ (ah.refl _)⟩
theorem CQ(T:aB){H:Hp}{x:ab6}{tr:Tr}(he:eF T H x tr)(hg:dS tr)(Q:VK)(cont:∀ H',ah H H'->Q (.int (ck tr)) H'):LX T (.ref x) H Q:=⟨x,tr,rfl,he,hg,cont⟩
theorem Iu(ps:List Pa):(b8 ps).length<=2 * ps.length:=by
 unfold b8;rw[aik];have:∀ l:List Pa,(l.map λp=>((gk p.2.2).map λo=>[((p.1,p.2.1,o):Pa)]).length).sum<=2 * l.length:=by
  intro l
  induction l with
  | nil=>exact ab4 _
  | cons p l ih =>
   rw[acs,ahb,abT,acB];have:=sY p.2.2;lia
 exact this ps
theorem yj(h:p∈bp i j s):p.1 = "at" /\ i<=p.2.1/\p.2.1<=j:=by unfold bp at h;obtain⟨k,hk,rfl⟩:=ab7.mp h;have:=acp.mp hk;exact⟨rfl,by show i<=i+(k:Int);lia,by show i+(k:Int)<=j;lia⟩
theorem CS{t:Int}{ps:List Pa}(h:∀ p∈ps,p.1 = "at" /\ 0<=p.2.1/\p.2.1<t):c6 t ps:=λp hp=>by obtain⟨e,h1,h2⟩:=h p hp;rw[e];exact (Hm (show (adq "at")≠adq "step" by decide)).mpr ⟨rfl,h1,h2⟩
theorem aao(hk:bP i j)(hj:j<t):∀ ps∈md i j l h,ps.length<=900/\c6 t ps:=λps hp=>by
 obtain⟨k0,k1,k2⟩:=hk;unfold md at hp;obtain⟨k,hk,rfl⟩:=ab7.mp hp;have:=acp.mp hk;refine⟨by rw[acj,jk,jk];lia,CS λp hp=>?_⟩;rcases acw.mp hp with z|z
 .obtain⟨a,b,c⟩:=yj z;exact⟨a,by lia,by lia⟩
 .obtain⟨a,b,c⟩:=yj z;exact⟨a,by lia,by lia⟩
theorem aap(hk:bP i j)(hj:j<t):∀ ps∈jm i j l h,ps.length<=900/\c6 t ps:=λps hp=>by
 obtain⟨k0,k1,k2⟩:=hk;unfold jm at hp;obtain⟨k,hk,hq⟩:=ad8.mp hp;obtain⟨p0,hp0,rfl⟩:=ab7.mp hq;have:=acp.mp hk;obtain⟨a,b,c⟩:=yj hp0;refine⟨(show 2<=900 by decide),CS λp hp=>?_⟩;rcases acd.mp hp with rfl|z
 .exact⟨rfl,by show 0<=i+(k:Int);lia,by show i+(k:Int)<t;lia⟩
 .rw[acx.mp z];exact⟨a,by lia,by lia⟩
theorem L3:∀ {l:List Nat},(∀ x∈l,x<=n)->l.sum<=n * l.length
 | [],_=>ab4 _
 | x::l,h=>by have a:=h x (.head _);have b:=L3 λy hy=>h y (.tail _ hy);rw[ahb,acB,Nat.mul_succ];lia
theorem aaq(hk:bP i j):(jm i j l h).length<=200:=by
 obtain⟨k0,k1,k2⟩:=hk;unfold jm;rw[aik];refine ab3 (L3 (n:=11) λx hx=>?_) ?_
 .obtain⟨k,hk,rfl⟩:=ab7.mp hx;rw[abT,jk];have:=acp.mp hk;lia
 .rw[abT,ab5];lia
theorem CT(h:0<=i)(hj:j<t):c6 t (bp i j s):=CS λp hp=>by obtain⟨a,b,c⟩:=yj hp;exact⟨a,by lia,by lia⟩
theorem aar(h:0<=i)(hj:j<t):c6 t (ib i j s):=λp hp=>by unfold ib at hp;obtain⟨k,hk,rfl⟩:=ab7.mp hp;have:=acp.mp hk;exact wH.mpr ⟨by lia,by lia⟩
theorem aas(h:0<k)(hj:k+1<t):c6 t (ki k):=λp hp=>by
 unfold ki at hp;rcases acd.mp hp with rfl|z
 .exact wH.mpr ⟨by lia,by lia⟩
 .rw[acx.mp z];exact wH.mpr ⟨by lia,by lia⟩
theorem uP(h:c6 t ps)(hl:ps.length<=60):(∀ qs∈b8 ps,qs.length<=900/\c6 t qs)/\(∀ qs∈[ps],qs.length<=900/\c6 t qs)/\(b8 ps).length<=200/\[ps].length<=200:=by
 refine⟨λqs hq=>?_,λqs hq=>?_,?_,(show 1<=200 by decide)⟩
 .unfold b8 at hq;obtain⟨p,hp,hq⟩:=ad8.mp hq;obtain⟨o,y,rfl⟩:=ab7.mp hq;refine⟨(show 1<=900 by decide),λz hz=>?_⟩;rw[acx.mp hz];exact h p hp
 .rw[acx.mp hq];exact⟨by lia,h⟩
 .have:=Iu ps;lia
theorem rg(hg:dS tr)(hj:ck tr<t):(∀ ps∈bL tr,ps.length<=900/\c6 t ps)/\(∀ ps∈cy tr,ps.length<=900/\c6 t ps)/\(bL tr).length<=200/\(cy tr).length<=200:=by
 cases tr with
 | stay i j l h =>
  obtain⟨k0,k1,k2⟩:=id hg;replace hj:j<t:=hj;exact uP (CT (s:=(l,h)) k0 hj) (by rw[jk];lia)
 | over i j s =>
  obtain⟨k0,k1,k2⟩:=id hg;replace hj:j<t:=hj;obtain⟨a,b,c,d⟩:=uP (CT (s:=(none,some (s-1))) k0 hj) (by rw[jk];lia);exact⟨b,a,d,c⟩
 | under i j s =>
  obtain⟨k0,k1,k2⟩:=id hg;replace hj:j<t:=hj;obtain⟨a,b,c,d⟩:=uP (CT (s:=(some (s+1),none)) k0 hj) (by rw[jk];lia);exact⟨b,a,d,c⟩
 | rose i j l h =>
  refine⟨aao hg.1 hj,aap hg.1 hj,?_,aaq hg.1⟩;show (md i j l h).length<=200;obtain⟨⟨y,y,y⟩,y⟩:=hg;unfold md;rw[abT,ab5];lia
 | pace i j l h =>
  obtain⟨k0,k1,k2⟩:=id hg;replace hj:j<t:=hj;exact uP (aar (s:=(l,h)) k0 hj) (by rw[LS];lia)
 | turn k=>exact uP (aas hg.1 hj) (show 2<=60 by decide)
theorem aat(hg:dS tr):0<=ck tr:=by
 cases tr with
 | over i j s=>obtain⟨y,y,y⟩:=hg;show 0<=j;lia
 | under i j s=>obtain⟨y,y,y⟩:=hg;show 0<=j;lia
 | rose i j l h=>obtain⟨⟨y,y,y⟩,y⟩:=hg;show 0<=j;lia
 | turn k=>obtain⟨y,y⟩:=hg;show 0<=k+1;lia
 | stay i j l h=>obtain⟨y,y,y⟩:=hg;show 0<=j;lia
 | pace i j l h=>obtain⟨y,y,y⟩:=hg;show 0<=j;lia
theorem cu.cm(h:cu G H v ps):CM H v ps:=let ⟨c,xs,e,_,a,b⟩:=h;⟨c,xs,e,a,b⟩
def fG(u d t m:Int)(tb:Tb)(cl:List (List Pa)):Prop:=cR u d t m tb []/\∀ ps∈cl,¬ cR u d t m tb ps
def fW(u d t m:Int)(tb:Tb)(cl:List (List Pa))(H:Hp)(k:ab6):Prop:=∃ cs L ps,ps∈cl/\H k=some (.lst (cs.map V.int))/\cs.length=t.toNat/\gP (dF u d ps (t-1).toNat) (eQ ps t.toNat) tb m L (bO cs)
theorem fW.same(h:fW u d t m tb cl H k)(s:ah H H'):fW u d t m tb cl H' k:=let ⟨cs,L,ps,a,b,c⟩:=h;⟨cs,L,ps,a,s _ _ b,c⟩
theorem fW.un(h:fW u d t m tb cl H k):¬ fG u d t m tb cl:=λz=>let ⟨cs,L,ps,a,_,_,c⟩:=h;z.2 ps a ⟨L,_,c⟩
inductive aau(T:aB)(vs:List V)(H:Hp)(Q:VK)(E:XK):Prop
 | mk(x p v:ab6)(e t u d m:Int)(tr:Tr)(tb:Tb)(_:vs=[.ref x,.ref v])(_:cf T.aT H x e t u d m p tb)(_:c7 e t u d m)(_:bK e t tb)(_:tb.length<=60)(_:eF T H v tr)(_:dS tr)(_:(¬ ck tr<t->∀ H',ah H H'->E (.ref T.fD) none H'))(_:(ck tr<t->(¬ fG u d t m tb (bL tr)->∀ r z H',ah H H'->H' r=some (.tup [.str "none",z])->dG u d t m tb H' z []->Q (.ref r) H')/\(fG u d t m tb (bL tr)->∀ r k zs H',ah H H'->H' r=some (.tup [.str "yes",.ref k])->H' k=some (.lst zs)->ax (dG u d t m tb H') zs (bL tr)->Q (.ref r) H')/\(¬ fG u d t m tb (bL tr)->cR u d t m tb []->∀ r k zs H',ah H H'->H' r=some (.tup [.str "no",.ref k])->H' k=some (.lst zs)->ax (dG u d t m tb H') zs (cy tr)->Q (.ref r) H')/\(¬ fG u d t m tb (bL tr)->∀ r k1 k2 H',ah H H'->H' r=some (.tup [.str "open",.ref k1,.ref k2])->fW u d t m tb (cy tr) H' k1->fW u d t m tb (bL tr) H' k2->Q (.ref r) H')))
theorem CU(T:aB):aP 22 T.VS (aau T):=by
 refine ig uc ?_;rintro n A n n H n n n hr ⟨x,p,v,e,t,u,d,m,tr,tb,rfl,hB,bH,hot,b6,hv,hg,q0,q⟩;refine⟨_,(ar (aH (bZ (b9 (eV (aa 0) T.bF T.uw (uz T) hr.m T.oT.b .nil bB (ae (lW (CP T hr) (aa 1)) ag)))) (au (i5 i6 rfl T.xt T.xO rfl (ae aQ ag))) aG) (ar (aJ 2 uc.nd (dO (x5 T) hr (ae (aa 0) (ae (cn ag) ag)))) (ar (aH (bq (ao (aa 2) af) aQ) (au (aA (aM (ae aQ (ae (ao (aa 2) af) ag))))) aG) (ar (aJ 3 uc.nd (dO (CN T) hr (ae (aa 0) (ae (lW (yh T hr) (aa 1)) ag)))) (ar (aH (bq (ao (aa 3) af) aQ) (au (aA (aM (ae aQ (ae (ao (aa 3) af) ag))))) aG) (ar (aJ 4 uc.nd (dO (CN T) hr (ae (aa 0) (ae (lW (LY T hr) (aa 1)) ag)))) (ar (aH (bq (ao (aa 4) af) aQ) (au (aA (aM (ae aQ (ae (ao (aa 4) af) ag))))) aG) (au (aA (aM (ae aQ (ae (ao (aa 4) af) (ae (ao (aa 3) af) ag))))))))))))),?_⟩;obtain⟨⟨e1,e7⟩,⟨t1,t2⟩,u0,d0,m0,me⟩:=id bH;refine aC (λσ H1=>σ=[some (.ref x),some (.ref v),none,none,none]/\ah H H1/\ck tr<t) (λN hN=>?_) ?_
 .obtain⟨⟨bx,hx⟩,hT⟩:=id hB;obtain⟨kvs,hkv,n⟩:=hT;rfl';refine⟨_,_,hx,rfl,CQ T hv hg _ λH1 s1=>?_⟩;refine⟨x,p,e,t,u,d,m,_,kvs,rfl,⟨⟨bx,s1 _ _ hx⟩,s1 _ _ hkv⟩,?_⟩;by_cases hf:ck tr<t
  .rw[decide_eq_true ⟨aat hg,hf⟩];exact hN _ _ ⟨rfl,s1,hf⟩
  .rw[decide_eq_false λz=>hf z.2];exact⟨by show 1<=aco;decide,q0 hf _ s1⟩
 rintro n yR σ H1 ⟨rfl,rh,hf⟩;subst yR;replace hB:=hB.same rh;replace hv:=hv.same rh;obtain⟨qn,qy,qo,qp⟩:=q hf;replace qn:=λa r z H' s b c=>qn a r z H' (rh.trans s) b c;replace qy:=λa r k zs H' s b c d=>qy a r k zs H' (rh.trans s) b c d;replace qo:=λa a2 r k zs H' s b c d=>qo a a2 r k zs H' (rh.trans s) b c d;replace qp:=λa r k1 k2 H' s b c d=>qp a r k1 k2 H' (rh.trans s) b c d;obtain⟨bo,wo,bl,wl⟩:=rg hg hf;refine aC (λσ H2=>∃ a z y,σ=[some (.ref x),some (.ref v),some (.ref a),none,none]/\ah H1 H2/\H2 a=some (.tup [.str y,z])/\((cR u d t m tb []/\y = "may")∨(¬ cR u d t m tb []/\y = "never" /\ dG u d t m tb H2 z []))) (λN hN=>?_) ?_
 .rfl';refine⟨acr _,λb hb=>?_⟩;have sb:=ak (o:=.lst []) hb;have k6:c6 t []:=λp hp=>by cases hp
  refine⟨x,p,b,e,t,u,d,m,[],[],tb,rfl,hB.same sb,hot,b6,t1,t2,by lia,e7,m0,by lia,ai.of aq,trivial,acr _,λz=>absurd k6 z,λn a H2 s2 A=>?_⟩;by_cases hh:cR u d t m tb []
  .obtain⟨L0,c0,F0⟩:=id hh;obtain⟨rr,rfl,⟨z,hrr,hn⟩|⟨k9,cs,L,hrr,fV,n,hcs,F⟩⟩:=yd (by rw[yc,kj];lia) (λr hr=>by rw[kj];have:=(hot.2 r hr).2;lia) A
   .exact absurd F0 (hn _ _)
   .exact hN _ _ ⟨rr,_,_,rfl,sb.trans s2,hrr,.inl ⟨hh,rfl⟩⟩
  .obtain⟨rr,z,rfl,hrr,hR⟩:=LW A λL c F=>hh ⟨L,c,F⟩;exact hN _ _ ⟨rr,_,_,rfl,sb.trans s2,hrr,.inr ⟨hh,rfl,hR⟩⟩
 rintro n yR σ H2 ⟨a,z,y,rfl,s2,ha,ca⟩;subst yR;refine aC (λσ H3=>σ=[some (.ref x),some (.ref v),some (.ref a),none,none]/\H3=H2/\cR u d t m tb []) (λN hN=>?_) ?_
 .rfl';refine aI ha ?_;rcases ca with ⟨hh,rfl⟩|⟨hh,rfl,hR⟩
  .rfl';rw[if_neg (by decide)];exact hN _ _ ⟨rfl,rfl,hh⟩
  .refine ay (aj.of ha) rfl ⟨aX,λr hr=>qn (λz=>hh z.1) r _ _ (s2.trans (ak hr)) aq (gv.same hR (ak hr))⟩
 rintro n yR σ H3 ⟨rfl,rfl,hh⟩;subst yR;refine aC (λσ H4=>∃ w,σ=[some (.ref x),some (.ref v),some (.ref a),some (.ref w),none]/\ah H1 H4/\((∃ k,H4 w=some (.tup [.str "may",.ref k])/\fW u d t m tb (bL tr) H4 k)∨(∃ k zs,H4 w=some (.tup [.str "never",.ref k])/\H4 k=some (.lst zs)/\ax (dG u d t m tb H4) zs (bL tr)/\∀ ps∈bL tr,¬ cR u d t m tb ps))) (λN hN=>?_) ?_
 .rfl';refine yi T (hv.same s2) hg _ λb ys H4 s4 n hb hC=>?_;refine⟨x,p,b,e,t,u,d,m,tb,ys,_,rfl,(hB.same s2).same s4,bH,hot,b6,hb,hC.imp λn n r=>cu.cm r,bl,bo,λr k9 cs L ps H5 s5 pin hr hk br F=>hN _ _ ⟨r,rfl,s2.trans (s4.trans s5),.inl ⟨k9,hr,cs,L,ps,pin,hk,br,F⟩⟩,λr k9 zs H5 s5 hr fV hR bC=>hN _ _ ⟨r,rfl,s2.trans (s4.trans s5),.inr ⟨k9,zs,hr,fV,hR,bC⟩⟩⟩
 rintro n yR σ H4 ⟨w,rfl,s4,cw⟩;subst yR;refine aC (λσ H5=>σ=[some (.ref x),some (.ref v),some (.ref a),some (.ref w),none]/\H5=H4/\∃ k,H4 w=some (.tup [.str "may",.ref k])/\fW u d t m tb (bL tr) H4 k) (λN hN=>?_) ?_
 .rfl';rcases cw with ⟨k,hw,hf⟩|⟨k9,zs,hw,fV,hR,bC⟩
  .refine aI hw ?_;rfl';rw[if_neg (by decide)];exact hN _ _ ⟨rfl,rfl,k,hw,hf⟩
  .refine aI hw ?_;refine ay (aj.of hw) rfl ⟨aX,λr hr=>qy ⟨hh,bC⟩ r k9 zs _ (s4.trans (ak hr)) aq ((ak hr) _ _ fV) (hR.imp λn n h=>gv.same h (ak hr))⟩
 rintro n yR σ H5 ⟨rfl,rfl,k2,hw,pd⟩;subst yR;refine aC (λσ H6=>∃ b,σ=[some (.ref x),some (.ref v),some (.ref a),some (.ref w),some (.ref b)]/\ah H5 H6/\((∃ k,H6 b=some (.tup [.str "may",.ref k])/\fW u d t m tb (cy tr) H6 k)∨(∃ k zs,H6 b=some (.tup [.str "never",.ref k])/\H6 k=some (.lst zs)/\ax (dG u d t m tb H6) zs (cy tr)))) (λN hN=>?_) ?_
 .rfl';refine LZ T (hv.same s4) hg _ λb ys H6 s6 n hb hC=>?_;refine⟨x,p,b,e,t,u,d,m,tb,ys,_,rfl,(hB.same s4).same s6,bH,hot,b6,hb,hC.imp λn n r=>cu.cm r,wl,wo,λr k9 cs L ps H7 s7 pin hr hk br F=>hN _ _ ⟨r,rfl,s6.trans s7,.inl ⟨k9,hr,cs,L,ps,pin,hk,br,F⟩⟩,λr k9 zs H7 s7 hr fV hR bC=>hN _ _ ⟨r,rfl,s6.trans s7,.inr ⟨k9,zs,hr,fV,hR⟩⟩⟩
 rintro n yR σ H6 ⟨b,rfl,s6,cb⟩;subst yR;have S6:=s4.trans s6;have un:=pd.un;rfl';rcases cb with ⟨k1,hb,rj⟩|⟨k9,zs,hb,fV,hR⟩
 .refine aI hb ?_;rfl';rw[if_neg (by decide)];refine ay (aj.of hb) rfl (ay (aj.of (s6 _ _ hw)) rfl ⟨by decide,λr hr=>?_⟩);have ur:=ak (o:=.tup [.str "open",.ref k1,.ref k2]) hr;exact qp un r k1 k2 _ (S6.trans ur) aq (rj.same ur) (pd.same (s6.trans ur))
 .refine aI hb ?_;refine ay (aj.of hb) rfl ⟨aX,λr hr=>qo un hh r k9 zs _ (S6.trans (ak hr)) aq ((ak hr) _ _ fV) (hR.imp λn n h=>gv.same h (ak hr))⟩
theorem L6{X:Cx}{K:abU}(h:X.K=K)(hu:X.A.units+64<af0):bf X (acX .NotEq) (wg K true):=h ▸ Qx hu
theorem L8(a b:P2):aeA (.tuple [.int a.1,.int a.2]) (.tuple [.int b.1,.int b.2])=decide (a=b):=by obtain⟨a1,a2⟩:=a;obtain⟨b1,b2⟩:=b;simp only[aeA,af2];by_cases h1:a1=b1<;>by_cases h2:a2=b2<;>simp[h1,h2]
noncomputable def dH(tb:Tb):List P2:=(kM tb).map (·.1)
theorem cR.of(h:cR u d t m tb ps)(s:∀ r∈eL,r∈tb):cR u d t m eL ps:=let ⟨L,c,F⟩:=h;⟨L,c,F.of s⟩
theorem uQ:r∈c8 tb ss↔r.1∈ss/\r.2=(cQ tb r.1).getD (none,none):=by
 have gen:∀ (ss:List P2) (acc:Tb),r∈ss.foldl (λacc s=>e9 acc s ((cQ tb s).getD (none,none))) acc↔(r.1∈ss/\r.2=(cQ tb r.1).getD (none,none))∨(r∈acc/\r.1∉ss):=by
  intro ss
  induction ss with
  | nil=>intro acc;simp
  | cons s ss ih =>
   intro acc;rw[agb,ih,Vj];obtain⟨r1,r2⟩:=r;by_cases e:r1=s
   .subst e;by_cases h2:r1∈ss
    .simp[h2]
    .simp only[h2,false_and,not_false_eq_true,and_true,false_or,acd,true_or,true_and,Prod.mk.injEq,ne_eq,not_true_eq_false,and_false,or_false]
   .have e':¬ ((r1,r2):P2 × S2)=(s,(cQ tb s).getD (none,none)):=λz=>e (congrArg (·.1) z);simp only[e',e,acd,false_or,ne_eq,not_false_eq_true,and_true]
 have:=gen ss [];unfold c8;simpa using this
theorem aav(h:∀ s∈ss,s∈ss'):∀ r∈c8 tb ss,r∈c8 tb ss':=λr hr=>uQ.mpr ⟨h _ (uQ.mp hr).1,(uQ.mp hr).2⟩
theorem uR(h:s∈dH tb):∃ w,(s,w)∈tb:=by obtain⟨r,hr,rfl⟩:=ab7.mp h;exact⟨r.2,tq hr⟩
theorem CV(hn:(tb.map (·.1)).Nodup)(h:s∈dH tb):cQ tb s≠none:=λz=>by obtain⟨w,hw⟩:=uR h;have:=jd hn hw;rw[z] at this;cases this
theorem aaw(hn:(tb.map (·.1)).Nodup)(hs:∀ s∈ss,s∈dH tb):∀ r∈c8 tb ss,r∈tb:=λr hr=>by
 obtain⟨h1,h2⟩:=uQ.mp hr;obtain⟨w,hw⟩:=uR (hs _ h1);rw[jd hn hw] at h2;have:r=(r.1,w):=by rw[show w=r.2 from h2.symm]
 rw[this];exact hw
theorem aax(hn:(tb.map (·.1)).Nodup):∀ r∈tb,r∈c8 tb (dH tb):=λr hr=>uQ.mpr ⟨ab7.mpr ⟨r,qA.mem_iff.mpr hr,rfl⟩,by rw[jd hn hr];rfl⟩
theorem CW(h:bK e t tb)(hs:∀ s∈ss,s∈dH tb):bK e t (c8 tb ss):=by
 have gen:∀ (ss:List P2) (acc:Tb),bK e t acc->(∀ s∈ss,s∈dH tb)->bK e t (ss.foldl (λacc s=>e9 acc s ((cQ tb s).getD (none,none))) acc):=by
  intro ss
  induction ss with
  | nil=>intro acc ha y;exact ha
  | cons s ss ih =>
   intro acc ha hs;obtain⟨w,hw⟩:=uR (hs s (.head _));exact ih _ (ha.put (h.2 _ hw)) λz hz=>hs z (.tail _ hz)
 exact gen ss [] bK.nil hs
structure rk(u d t m:Int)(tb:Tb)(cl:List (List Pa))(ss:List P2):Prop where
 sub:ss.Sublist (dH tb)
 no:∀ ps∈cl,¬ cR u d t m (c8 tb ss) ps
 least:∀ s∈ss,∃ ps∈cl,cR u d t m (c8 tb (ss.filter λo=>decide (o≠s))) ps
structure jz(u d t m:Int)(tb:Tb)(cl:List (List Pa))(i:Nat)(ss:List P2):Prop where
 sub:ss.Sublist (dH tb)
 no:∀ ps∈cl,¬ cR u d t m (c8 tb ss) ps
 least:∀ s∈ss,s∈(dH tb).take i->∃ ps∈cl,cR u d t m (c8 tb (ss.filter λo=>decide (o≠s))) ps
theorem jz.zero(hn:(tb.map (·.1)).Nodup)(h:∀ ps∈cl,¬ cR u d t m tb ps):jz u d t m tb cl 0 (dH tb):=⟨List.Sublist.refl _,λps hp z=>h ps hp (z.of (aax hn)),λs y z=>by simp at z⟩
theorem jz.skip(h:jz u d t m tb cl i ss)(hs:(dH tb)[i]?=some s)(hf:∃ ps∈cl,cR u d t m (c8 tb (ss.filter λo=>decide (o≠s))) ps):jz u d t m tb cl (i+1) ss:=⟨h.sub,h.no,λz hz hm=>by
 rw[acR,hs] at hm;rcases acw.mp hm with y|y
 .exact h.least z hz y
 .obtain rfl:z=s:=by simpa using y
  exact hf⟩
theorem jz.drop(h:jz u d t m tb cl i ss)(hs:(dH tb)[i]?=some s)(hf:∀ ps∈cl,¬ cR u d t m (c8 tb (ss.filter λo=>decide (o≠s))) ps):jz u d t m tb cl (i+1) (ss.filter λo=>decide (o≠s)):=⟨agf.trans h.sub,hf,λz hz hm=>by
 obtain⟨h1,h2⟩:=acv.mp hz;rw[acR,hs] at hm;rcases acw.mp hm with y|y
 .obtain⟨ps,hp,hh⟩:=h.least z h1 y;exact⟨ps,hp,hh.of (aav λa ha=>acv.mpr ⟨(acv.mp (acv.mp ha).1).1,(acv.mp ha).2⟩)⟩
 .obtain rfl:z=s:=by simpa using y
  simp at h2⟩
theorem jz.fin(h:jz u d t m tb cl (dH tb).length ss):rk u d t m tb cl ss:=⟨h.sub,h.no,λs hs=>h.least s hs (by rw[acU];exact h.sub.subset hs)⟩
theorem uS:(dH tb).length=tb.length:=by unfold dH;rw[abT,mS]
inductive aay(T:aB)(vs:List V)(H:Hp)(Q:VK)(E:XK):Prop
 | mk(x p v:ab6)(e t u d m:Int)(tr:Tr)(tb:Tb)(_:vs=[.ref x,.ref v])(_:cf T.aT H x e t u d m p tb)(_:c7 e t u d m)(_:bK e t tb)(_:tb.length<=60)(_:eF T H v tr)(_:dS tr)(_:(¬ ck tr<t->∀ H',ah H H'->E (.ref T.fD) none H'))(_:(ck tr<t->(¬ fG u d t m tb (bL tr)->∀ H',ah H H'->E (.ref T.iQ) none H')/\(fG u d t m tb (bL tr)->∀ k ys ss H',ah H H'->H k=none->H' k=some (.lst ys)->bR H' ys ss->rk u d t m tb (bL tr) ss->Q (.ref k) H')))
def aaz(H G:Hp)(x v sl:ab6)(u d t m:Int)(tb:Tb)(cl:List (List Pa))(i:Nat)(σ:St)(H1:Hp):Prop:=(∃ (kp:ab6) (ys:List V) (ss:List P2) (e1 e2:Option V),σ=[some (.ref x),some (.ref v),some (.ref sl),some (.ref kp),e1,e2]/\H kp=none/\H1 kp=some (.lst ys)/\bR H1 ys ss/\jz u d t m tb cl i ss)/\ah G H1
theorem CY(T:aB):aP 23 T.oP (aay T):=by
 refine ig oH ?_;rintro c c c s H c Q c hr ⟨x,p,v,e,t,u,d,m,tr,tb,rfl,hB,bH,hot,b6,hv,hg,q0,q⟩;refine⟨_,(ar (aH (jo (ao (dO (CU T) hr (ae (aa 0) (ae (aa 1) ag))) af) aQ) (au (i5 i6 rfl T.Bn T.B5 rfl (ae aQ ag))) aG) (ar (PZ (g:=ky K 3 (cX (cA 0) (cX (cA 1) (cX (cA 2) jF)))) (i:=2) (jN.mk (own:=["eye","turn","word"]) (fr:=[]) (ys:=[]) rfl (by decide +kernel) rfl (by decide +kernel) rfl .nil .nil rfl) rfl oH.nd rfl rfl (cE (nN (aa 0) T.bF T.B0 (Cb T) hr.m T.um.b .nil bB)) (λC s2 H2 ex pn=>kz (n:=3) rfl (dI (gB (i:=0) (show (["eye","turn","word"]:List Str).Nodup by decide) rfl (.inl (ach rfl)) (.inr (ach rfl))) (dI (gB (i:=1) (show (["eye","turn","word"]:List Str).Nodup by decide) rfl (.inl (ach rfl)) (.inr (ach rfl))) (dI (gB (i:=2) (show (["eye","turn","word"]:List Str).Nodup by decide) rfl (.inl (ach rfl)) (.inr (ach rfl))) kx)))) (λC s2 H2 ex pn=>⟨df,(aM (ae (aa 0) (ae (aa 1) ag)))⟩)) (ar (aJ 3 oH.nd (aa 2)) (ar (cU adV rfl (cE (aa 2)) (cv 4 oH.nd) (ar (nX (i:=5) (cO [4] ["spot"]) rfl oH.nd rfl rfl (cE (aa 3)) (λC s2 H2 ex pn=>⟨(jM (lq ((L6 (K:=K) rfl) hr.units) (aa 0) (aa 1) (cI _))),(aa 0)⟩)) (au (aH (bq (ao (dO (CN T) hr (ae (eV (aa 0) T.bF T.B1 (Cc T) hr.m T.uo.b .nil gF (ae (aa 5) ag)) (ae (lW (yh T hr) (aa 1)) ag))) af) aQ) (au (aJ 3 oH.nd (aa 5))) aG)))) (au (aA (aa 3))))))),?_⟩;refine aC (λσ H1=>σ=[some (.ref x),some (.ref v),none,none,none,none]/\ah H H1/\ck tr<t/\fG u d t m tb (bL tr)) (λN hN=>?_) ?_
 .rfl';refine⟨x,p,v,e,t,u,d,m,tr,tb,rfl,hB,bH,hot,b6,hv,hg,q0,λhf=>⟨λhs r z H1 s1 hr c=>?_,λhs r k zs H1 s1 hr c c=>?_,λhs c r k zs H1 s1 hr c c=>?_,λhs r k1 k2 H1 s1 hr c c=>?_⟩⟩
  .refine aI hr ?_;exact⟨by show 1<=aco;decide,(q hf).1 hs _ s1⟩
  .refine aI hr ?_;exact hN _ _ ⟨rfl,s1,hf,hs⟩
  .refine aI hr ?_;exact⟨by show 1<=aco;decide,(q hf).1 hs _ s1⟩
  .refine aI hr ?_;exact⟨by show 1<=aco;decide,(q hf).1 hs _ s1⟩
 rintro c yR σ H1 ⟨rfl,s1,hf,hs⟩;subst yR;replace q:=(q hf).2 hs;obtain⟨bo,wo,bl,wl⟩:=rg hg hf;refine aC (λσ H2=>∃ sl ys,σ=[some (.ref x),some (.ref v),some (.ref sl),none,none,none]/\ah H H2/\H sl=none/\H2 sl=some (.lst ys)/\bR H2 ys (dH tb)) (λN hN=>?_) ?_
 .obtain⟨⟨dx,hx⟩,htb⟩:=id hB;rfl';refine⟨_,_,s1 _ _ hx,rfl,x,p,e,t,u,d,m,tb,rfl,hB.same s1,hot.1,by lia,λl xs H2 s2 c hl hT=>?_⟩;have tl:=hT.len;rw[mS] at tl;refine⟨l,rfl,⟨_,ai.of hl⟩,Au (row:=rowOf H2) (ab3 (by lia:xs.length<=64) (by decide)) (gJ (R:=λ_ x (r:P2 × S2)=>jV H2 x r) (R':=cV) (f:=λr=>r.1) (λc c c c c h=>h) (λc c c c s' h=>h.same s') hT (bs:=[]) trivial (λH' s'=>Ax hl hT s') (λx r c H3 s3 h1 Q h=>?_) (λx r c H3 s3 h1 Q h=>?_) λH3 zs s3 hz=>?_)⟩
  .exact h
  .obtain⟨ta,w,rfl,ha,hw⟩:=h1;unfold mT;dsimp only;rw[qx ha];exact⟨aX,λt1 kg=>h _ _ (ak kg) ⟨t1,rfl,aq⟩⟩
  .rw[aci] at hz;intro l2 a7;exact hN _ _ ⟨l2,zs,rfl,(s1.trans (s2.trans s3)).trans (ak a7),(s1.trans (s2.trans s3)).free a7,aq,bR.same hz (ak a7)⟩
 rintro c yR σ H2 ⟨sl,ys,rfl,s2,fsl,cP,hP⟩;subst yR;have yl:=ax.len hP;rw[uS] at yl;rfl';refine⟨⟨_,ai.of cP⟩,gD (xs:=ys) (aaz H H2 x v sl u d t m tb (bL tr)) ⟨⟨sl,ys,_,_,_,rfl,fsl,cP,hP,jz.zero hot.1 hs.2⟩,ah.refl _⟩ (λi σ H3 _ ⟨_,s3⟩=>ai.of (s3 _ _ cP)) ?_ ?_⟩
 .rintro i y σ H3 hy ⟨⟨kp,ws,ss,e1,e2,rfl,fkp,hkp,hW,hI⟩,s3⟩;obtain⟨s,es,hpt⟩:=ax.get hP hy;have S3:=s2.trans s3;have aaA:=hpt.same s3;have wl2:=ax.len hW;have CZ:=hI.sub.length_le;rw[uS] at CZ;rfl';refine⟨⟨_,ai.of hkp⟩,cJ i8 (ab3 (by lia:ws.length<=64) (by decide)) (qz (R:=λH x (o:P2)=>cV H x o) (R':=cV) (p:=λo=>decide (o≠s)) (f:=λo=>o) (λc c c c s' h=>h.same s') (λc c c c s' h=>h.same s') hW (bs:=[]) trivial (λH' s'=>ai.of (s' _ _ hkp)) (λz o c H4 s4 r Q h=>?_) (λz o c c H4 s4 r Q h=>?_) λH4 zs s4 hz=>?_)⟩
  .obtain⟨pa,rfl,ha⟩:=r;obtain⟨pb,rfl,hb⟩:=aaA.same s4;refine⟨.tuple [.int o.1,.int o.2],.tuple [.int s.1,.int s.2],.tup (aj.of ha) (.cons (.int _) (.cons (.int _) .nil)),.tup (aj.of hb) (.cons (.int _) (.cons (.int _) .nil)),rfl,rfl,by simp[PyData.depth,aeJ],?_⟩;rw[L8];by_cases h0:o=s
   .rw[decide_eq_false λz=>z h0] at h;rw[decide_eq_true h0];rfl';exact h
   .rw[decide_eq_true h0] at h;rw[decide_eq_false h0];rfl';exact h
  .exact h _ _ (ah.refl _) r
  .rw[aci,ahQ] at hz;intro l2 a7;have u4:=s4.trans (ak (o:=.lst zs) a7);have fl2:=(S3.trans s4).free a7;have kh:bR (upd H4 l2 (.lst zs)) zs (ss.filter λo=>decide (o≠s)):=bR.same hz (ak a7);have oZ:upd H4 l2 (.lst zs) l2=some (.lst zs):=aq;generalize upd H4 l2 (.lst zs)=H5 at u4 kh oZ;have S5:=S3.trans u4;obtain⟨⟨dx,hx⟩,htb⟩:=id hB;have fin:∀ o∈ss.filter (λo=>decide (o≠s)),o∈dH tb:=λo ho=>hI.sub.subset (acv.mp ho).1;have fl:=acE (λo=>decide (o≠s)) ss;refine⟨_,_,S5 _ _ hx,rfl,x,p,l2,e,t,u,d,m,tb,zs,_,rfl,hB.same S5,bH,ai.of oZ,kh,by lia,λ⟨o,ho,hn⟩=>absurd hn (CV hot.1 (fin o ho)),λc x2 p2 H6 s6 c c hB6=>?_⟩;refine yi T (hv.same (S5.trans s6)) hg _ λb bs H7 s7 c hb hC=>?_;have kl:=uC tb (ss.filter λo=>decide (o≠s));have S7:=u4.trans (s6.trans s7);refine⟨x2,p2,b,e,t,u,d,m,_,bs,_,rfl,hB6.same s7,bH,CW hot fin,by lia,hb,hC.imp λc c r=>cu.cm r,bl,bo,λr k9 cs L ps H8 s8 pin hr hk br F=>?_,λr k9 rs H8 s8 hr fV hR bC=>?_⟩
   .refine aI hr ?_;rfl';rw[if_neg (by decide)];exact⟨⟨kp,ws,ss,_,_,rfl,fkp,(S7.trans s8) _ _ hkp,bR.same hW (S7.trans s8),hI.skip es ⟨ps,pin,L,_,F⟩⟩,s3.trans (S7.trans s8)⟩
   .refine aI hr ?_;exact⟨⟨l2,zs,_,_,_,rfl,fl2,(s6.trans (s7.trans s8)) _ _ oZ,bR.same kh (s6.trans (s7.trans s8)),hI.drop es bC⟩,s3.trans (S7.trans s8)⟩
 .rintro σ H3 ⟨⟨kp,ws,ss,e1,e2,rfl,fkp,hkp,hW,hI⟩,s3⟩;rw[yl,<- uS] at hI;exact q kp ws ss H3 (s2.trans s3) fkp hkp hW hI.fin
def aaB(H:Hp)(wr sl wd:ab6)(tb:Tb)(ss:List P2)(i:Nat)(σ:St)(H1:Hp):Prop:=(∃ e1,σ=[some (.ref wr),some (.ref sl),some (.ref wd),e1])/\ah H H1/\TabAt H1 wd (c8 tb (ss.take i))
inductive aaC(vs:List V)(H:Hp)(Q:VK)(aN:XK):Prop
 | mk(w sl:ab6)(wv:V)(e t u d m:Int)(tb:Tb)(ys:List V)(ss:List P2)(_:vs=[wv,.ref sl])(_:dE H wv w e t u d m tb)(_:bK e t tb)(_:tb.length<=60)(_:H sl=some (.lst ys))(_:bR H ys ss)(_:(∀ s∈ss,s∈dH tb))(_:ss.length<=60)(_:∀ r w' H',ah H H'->H w'=none->dE H' (.ref r) w' e t u d m (c8 tb ss)->Q (.ref r) H')
theorem L9(T:aB):aP 1 T.Wd aaC:=by
 refine bA xn ?_;rintro c c c s H c c c hr ⟨w,sl,c,e,t,u,d,m,tb,ys,ss,rfl,⟨wr,rfl,hwr,hT⟩,hot,b6,cP,hP,cg,hl,q⟩;refine⟨_,(ar (aJ 2 xn.nd Af) (ar (cU acH rfl (cE (aa 1)) (cv 3 xn.nd) (au (wB (dW hr) (aa 2) (aa 3) (qj (dW hr) (ao (aa 0) af) (aa 3) (λc c=>rfl)) rfl))) (au (aA (aM (ae (ao (aa 0) af) (ae (ao (aa 0) af) (ae (ao (aa 0) af) (ae (ao (aa 0) af) (ae (ao (aa 0) af) (ae (aa 2) ag))))))))))),?_⟩;have yl:=ax.len hP;obtain⟨kvs,hw,hA⟩:=id hT;refine aC (λσ H1=>∃ wd,σ=[some (.ref wr),some (.ref sl),some (.ref wd),none]/\ah H H1/\H wd=none/\H1 wd=some (.dT [])) (λN hN=>?_) ?_
 .exact λwd yk=>hN _ _ ⟨wd,rfl,ak yk,yk,aq⟩
 rintro c yR σ H1 ⟨wd,rfl,s1,fwd,yk⟩;subst yR;rfl';refine⟨⟨_,ai.of (s1 _ _ cP)⟩,gD (xs:=ys) (aaB H wr sl wd tb ss) ⟨⟨_,rfl⟩,s1,⟨_,yk,trivial⟩⟩ (λi σ H2 _ ⟨_,s2,_⟩=>ai.of (s2 _ _ cP)) ?_ ?_⟩
 .rintro i y σ H2 hy ⟨⟨z,rfl⟩,s2,kv2,C0,Ma⟩;obtain⟨s,es,hpt⟩:=hP.get hy;obtain⟨ad,rfl,had⟩:=id hpt;have et:ss.take (i+1)=ss.take i++[s]:=by rw[acR,es];rfl
  have hi:i<ss.length:=(ab0.mp es).1;obtain⟨wt,hwt⟩:=uR (cg s (ace es));have vt:=jd hot.1 hwt;obtain⟨v9,C1,xU⟩:=((hA.imp λc c c z=>aO.same z s2).val s).2 wt vt;have kl:=Ma.len;have kk:=uC tb (ss.take i);rw[adC] at kk;have kf:=s2 _ _ had;rfl';refine ay (aj.of (s2 _ _ hwr)) (v:=.ref w) rfl ⟨w,rfl,v9,by rw[<- C1];exact eZ.t (k:=spot s.1 s.2) (s2 _ _ hw) kf,_,mR.t (k:=spot s.1 s.2) C0 kf (ac5 (by lia:kv2.length<=60) (by decide)),⟨_,rfl⟩,jK fwd s2,?_⟩;rw[et,K0,vt];exact⟨_,aq,bh.put (s:=s) (w:=wt) (Ma.imp λc c c z=>z.fr (qr C0)) (xU.fr (qr C0))⟩
 .rintro σ H2 ⟨⟨z,rfl⟩,s2,oV⟩;rw[yl,acU] at oV;have uT:=s2 _ _ hwr;rfl';refine ay (aj.of uT) rfl (ay (aj.of uT) rfl (ay (aj.of uT) rfl (ay (aj.of uT) rfl (ay (aj.of uT) rfl ⟨by decide,λr hr=>?_⟩))));have ur:=ak (o:=.tup [.int e,.int t,.int u,.int d,.int m,.ref wd]) hr;exact q r wd _ (s2.trans ur) fwd ⟨r,rfl,aq,oV.same ur⟩
theorem aaD{X:Cx}{K:abU}(h:X.K=K)(hu:X.A.units<af0):bf X (acX .Lt) (EE K):=h ▸ NU hu
theorem lex_lt{a b:P2}(h:HT.lexLt [b.1,b.2] [a.1,a.2]=false)(ne:a≠b):HT.lexLt [a.1,a.2] [b.1,b.2]=true:=by
 obtain⟨a1,a2⟩:=a;obtain⟨b1,b2⟩:=b;simp only[HT.lexLt] at h ⊢;by_cases h1:a1=b1
 .subst h1;have:a2≠b2:=λz=>ne (by rw[z]);simp at h ⊢;lia
 .have:¬ b1=a1:=λz=>h1 z.symm;simp[h1,this] at h ⊢;lia
theorem aaE(hn:(tb.map (·.1)).Nodup):(dH tb).Pairwise λa b=>HT.lexLt [a.1,a.2] [b.1,b.2]=true:=by have nd:(dH tb).Nodup:=(qA.map _).nodup_iff.mpr hn;have so:(dH tb).Pairwise λa b=>HT.lexLt [b.1,b.2] [a.1,a.2]=false:=agU.mpr Sf;exact (so.and nd).imp λh=>lex_lt h.1 h.2
def aaF(H:Hp)(wr sl:ab6)(_:Nat)(σ:St)(H1:Hp):Prop:=(∃ e1,σ=[some (.ref wr),some (.ref sl),e1])/\ah H H1
inductive aaG(vs:List V)(H:Hp)(Q:VK)(aN:XK):Prop
 | mk(w sl:ab6)(wv:V)(e t u d m:Int)(tb:Tb)(ys:List V)(ss:List P2)(_:vs=[wv,.ref sl])(_:dE H wv w e t u d m tb)(_:bK e t tb)(_:tb.length<=60)(_:H sl=some (.lst ys))(_:bR H ys ss)(_:ss.Sublist (dH tb))(_:∀ H',ah H H'->Q (.bl true) H')
theorem aaH(T:aB):aP 2 T.We aaG:=by
 refine bA Bj ?_;rintro c c c s H c Q c hr ⟨w,sl,c,e,t,u,d,m,tb,ys,ss,rfl,⟨wr,rfl,hwr,hT⟩,hot,b6,cP,hP,mV,q⟩;refine⟨_,(ar (aH (bZ (b9 (bT lB (by rfl) T.iS iH (ae (aa 1) (ae (lj (v:=.ty "list") rfl T.nu mH rfl) ag))))) (au (aA cM)) aG) (ar (cU acH rfl (cE (aa 1)) (cv 2 Bj.nd) (ar (aH (PW.pt (cD (bZ (b9 (bT lB (by rfl) T.iS iH (ae (aa 2) (ae (lj (v:=.ty "tuple") rfl T.xF vL rfl) ag))))) (cD (jo (cW T.cH (ae (aa 2) ag)) af) (cD (bZ (b9 (aK (qT T) hr (ae (ao (aa 2) af) ag)))) (eS (bZ (b9 (aK (qT T) hr (ae (ao (aa 2) af) ag))))))))) (au (aA cM)) aG) (au (aH (rK (z7 (dW hr) (aa 2) (ao (aa 0) af))) (au (aA cM)) aG)))) (au (aA (bT (sN rfl) (by rfl) T.uq sC (ae (dg (cO [1] [ni]) rfl (iB rfl T.eh (ae (aD bW (cW T.cH (ae (aa 1) ag)) af) ag)) (λC s2 H2 ex pn=>⟨df,(eG (aaD (K:=K) rfl (ac5 (ajb _ 64) hr.units)) (b0 (K:=K) (aa 1) (aa 0)) (b0 (K:=K) (aa 1) (aD bb (aa 0) af)) (cI _))⟩)) ag)))))),?_⟩;have yl:=ax.len hP;have sl6:=mV.length_le;rw[uS] at sl6;have up:=(aaE hot.1).sublist mV;obtain⟨kvs,hw,hA⟩:=id hT;rfl';refine zi cP ?_;refine⟨⟨_,ai.of cP⟩,gD (xs:=ys) (aaF H wr sl) ⟨⟨_,rfl⟩,ah.refl _⟩ (λi σ H2 _ ⟨_,s2⟩=>ai.of (s2 _ _ cP)) ?_ ?_⟩
 .rintro i y σ H2 hy ⟨⟨z,rfl⟩,s2⟩;obtain⟨s,es,hpt⟩:=hP.get hy;obtain⟨ad,rfl,had⟩:=id hpt;obtain⟨wt,hwt⟩:=uR (mV.subset (ace es));have vt:=jd hot.1 hwt;obtain⟨v9,C1,xU⟩:=(hA.val s).2 wt vt;have kf:=s2 _ _ had;rfl';refine vM kf ?_;refine⟨_,nR (aj.of kf),?_⟩;refine ay (aj.of kf) (v:=.int s.1) rfl ⟨_,rfl,.inr ⟨_,rfl⟩,?_⟩;simp only[isWhole];refine ay (aj.of kf) (v:=.int s.2) rfl ⟨_,rfl,.inr ⟨_,rfl⟩,?_⟩;simp only[isWhole];refine ay (aj.of (s2 _ _ hwr)) (v:=.ref w) rfl ⟨w,rfl,_,eZ.t (k:=spot s.1 s.2) (s2 _ _ hw) kf,?_⟩;rw[C1];exact aU (λh0=>nomatch h0) λc=>⟨⟨_,rfl⟩,s2⟩
 .rintro σ H2 ⟨⟨z,rfl⟩,s2⟩;rfl';have C2:=s2 _ _ cP;refine⟨_,eW (ai.of C2),by lia,by lia,cJ gW (by rw[abT,ab5];exact ab3 (by lia:_<=60) (by decide)) (mP (R:=λx (k:Nat)=>x=V.int ((0:Int)+k)) (p:=λc=>true) (f:=λc=>V.bl true) trivial (ax.fI _) (λx k c r Q h=>?_) (λx k hk c r Q h=>?_) ?_)⟩
  .exact h
  .subst r;have hk:=acp.mp hk;have ix:k+1<ss.length:=by lia
   obtain⟨y1,tD⟩:∃ y,ys[k]?=some y:=⟨_,abW (by lia)⟩
   obtain⟨y2,o4⟩:∃ y,ys[k+1]?=some y:=⟨_,abW (by lia)⟩
   obtain⟨p1,ep1,a1,rfl,ha1⟩:=hP.get tD;obtain⟨p2,ep2,a2,rfl,ha2⟩:=hP.get o4;have lt:HT.lexLt [p1.1,p1.2] [p2.1,p2.2]=true:=by obtain⟨l1,e1⟩:=ab0.mp ep1;obtain⟨l2,e2⟩:=ab0.mp ep2;have:=agz.mp up k (k+1) l1 l2 (aex _);rw[e1,e2] at this;exact this
   rw[show (0:Int)+(k:Int)=(k:Int) by lia];rfl';refine bJ (ai.of C2) (dq tD) ?_;rw[show (k:Int)+1=((k+1:Nat):Int) by lia];refine bJ (ai.of C2) (dq o4) ⟨a1,a2,[p1.1,p1.2],[p2.1,p2.2],rfl,rfl,aj.of (s2 _ _ ha1),aj.of (s2 _ _ ha2),?_⟩;rw[lt];exact h
  .rw[aci,filter_tt];intro d9 hd9;refine⟨d9,rfl,(ab2 ((ys.length:Int)-1).toNat).map λc=>true,ai.of ?_,?_⟩
   .rw[aq,ac1];rfl
   .rw[show ((ab2 ((ys.length:Int)-1).toNat).map λc=>true).all id=true by rw[aer];exact adi.mpr λc c=>rfl];exact q _ (s2.trans (ak hd9))
theorem aaI(s:S2)(n:Int):(gk s).any (λo=>hold o.1 o.2 n) = !hold s.1 s.2 n:=by
 obtain⟨a,b⟩:=s;rcases a with y|a<;>rcases b with y|b
 .simp[gk,hold,ba]
 all_goals (rw[adg];simp[gk,hold,ba];lia)
theorem uU(cs:List Int)(ps:List Pa):(b8 ps).any (aV cs) = !aV cs ps:=by
 unfold b8;rw[List.any_flatMap]
 induction ps with
 | nil=>rfl
 | cons p ps ih =>
  rw[adm,ih,ai3];have e:((gk p.2.2).any (aV cs ∘ λo=>[((p.1,p.2.1,o):Pa)])) = !hold p.2.2.1 p.2.2.2 (lK cs p.1 p.2.1):=by
   rw[<- aaI]
   congr 1
   funext o;simp[aV]
  rw[e];simp only[aV,aea,Bool.not_and]
theorem aaJ(gX:i<=j):((md i j l h).any (aV cs))=true↔¬ ∃ a b,a<b/\b<(j+1-i).toNat/\aY cs i a<=l/\h<=aY cs i b:=by
 have one:∀ k:Nat,k<(j+1-i).toNat->(aV cs (bp i (i+(k:Nat)-1) (some (l+1),none)++bp (i+(k:Nat)+1) j (none,some (h-1)))=true↔(∀ a,a<k->l<aY cs i a)/\∀ b,k<b->b<(j+1-i).toNat->aY cs i b<h):=λk hk=>by
  have e:aV cs (bp i (i+(k:Nat)-1) (some (l+1),none)++bp (i+(k:Nat)+1) j (none,some (h-1)))=(aV cs (bp i (i+(k:Nat)-1) (some (l+1),none)) && aV cs (bp (i+(k:Nat)+1) j (none,some (h-1)))):=by unfold aV;rw[List.all_append]
  rw[e,acT,AM,AM,adi,adi];refine and_congr ⟨λz a ha=>?_,λz a ha=>?_⟩ ⟨λz b hb hn=>?_,λz b hb=>?_⟩
  .have:=(gK.mp (z a (acp.mpr (by lia)))).1 _ rfl;lia
  .have ha:=acp.mp ha;refine gK.mpr ⟨λx hx=>?_,λx hx=>(nomatch hx)⟩;cases hx;have:=z a (by lia);lia
  .have:=(gK.mp (z (b-k-1) (acp.mpr (by lia)))).2 _ rfl;unfold aY at *;rw[show i+(k:Int)+1+((b-k-1:Nat):Int)=i+(b:Int) by lia] at this;lia
  .have hb:=acp.mp hb;refine gK.mpr ⟨λx hx=>(nomatch hx),λx hx=>?_⟩;cases hx;have:=z (k+1+b) (by lia) (by lia);unfold aY at *;rw[show i+((k+1+b:Nat):Int)=i+(k:Int)+1+(b:Int) by lia] at this;lia
 unfold md;rw[ai3,acM];constructor
 .rintro ⟨k,hk,hm⟩ ⟨a,b,fh,hb,h1,h2⟩;have hk:=acp.mp hk;obtain⟨m1,m2⟩:=(one k hk).mp hm;by_cases ha:a<k
  .have:=m1 a ha;lia
  .have:=m2 b (by lia) hb;lia
 .intro bC;by_cases hex:∃ a,a<(j+1-i).toNat/\aY cs i a<=l
  .obtain⟨a,⟨ha,hl⟩,hmin⟩:∃ a,(a<(j+1-i).toNat/\aY cs i a<=l)/\∀ b,b<a->¬ (b<(j+1-i).toNat/\aY cs i b<=l):=by
    obtain⟨a,ha⟩:=hex
    induction a using Nat.strongRecOn with
    | _ a ih =>
     by_cases h9:∃ b,b<a/\(b<(j+1-i).toNat/\aY cs i b<=l)
     .obtain⟨b,hb,z⟩:=h9;exact ih b hb z
     .exact⟨a,ha,λb hb z=>h9 ⟨b,hb,z⟩⟩
   refine⟨a,acp.mpr ha,(one a ha).mpr ⟨λb hb=>?_,λb hb hn=>?_⟩⟩
   .have:=hmin b hb;by_cases hz:aY cs i b<=l
    .exact absurd ⟨by lia,hz⟩ this
    .lia
   .by_cases hz:h<=aY cs i b
    .exact absurd ⟨a,b,hb,hn,hl,hz⟩ bC
    .lia
  .have hn:(j+1-i).toNat-1<(j+1-i).toNat:=by lia
   refine⟨(j+1-i).toNat-1,acp.mpr hn,(one _ hn).mpr ⟨λb hb=>?_,λb hb hn=>by lia⟩⟩;by_cases hz:aY cs i b<=l
   .exact absurd ⟨b,by lia,hz⟩ hex
   .lia
theorem aaK(hg:dS tr)(cs:List Int):(bL tr).any (aV cs) = !(cy tr).any (aV cs):=by
 have one:∀ ps:List Pa,([ps].any (aV cs))=aV cs ps:=λps=>af1 _;cases tr with
 | stay i j l h =>
  show ((b8 (bp i j (l,h))).any (aV cs)) = !([bp i j (l,h)].any (aV cs));rw[one,uU]
 | over i j s =>
  show ([bp i j (none,some (s-1))].any (aV cs)) = !((b8 (bp i j (none,some (s-1)))).any (aV cs));rw[one,uU,akl]
 | under i j s =>
  show ([bp i j (some (s+1),none)].any (aV cs)) = !((b8 (bp i j (some (s+1),none))).any (aV cs));rw[one,uU,akl]
 | rose i j l h =>
  have e:=aaJ (cs:=cs) (l:=l) (h:=h) (hg.1:bP i j).2.1;have f:=Iv (cs:=cs) (i:=i) (j:=j) (l:=l) (h:=h);show ((md i j l h).any (aV cs)) = !((jm i j l h).any (aV cs));rw[adg,e,<- f];cases (jm i j l h).any (aV cs)<;>simp
 | pace i j l h =>
  show ((b8 (ib i j (l,h))).any (aV cs)) = !([ib i j (l,h)].any (aV cs));rw[one,uU]
 | turn t =>
  show ((b8 (ki t)).any (aV cs)) = !([ki t].any (aV cs));rw[one,uU]
theorem aaL{u d t m:Int}{tb:Tb}{ps:List Pa}{L:List Int}{c:Nat->Int}(F:gP (dF u d ps (t-1).toNat) (eQ ps t.toNat) tb m L c){k:Nat}{s:S2}(hk:(k:Int)<t)(hm:(("at",(k:Int),s):Pa)∈ps):(∀ a,s.1=some a->a<=c k)/\∀ a,s.2=some a->c k<=a:=wI.mp (F.2.2.1 k (fQ (none,none) (sel _ "at" (k:Int))) (by unfold eQ;rw[aca,acV (by lia)];rfl)) s (LV (p:=("at",(k:Int),s)) hm)
theorem Mb(k6:c6 t ps)(F:gP (dF u d ps (t-1).toNat) (eQ ps t.toNat) tb m L (bO cs)):aV cs ps=true:=by
 unfold aV;refine adi.mpr λp hp=>?_;obtain⟨kd,j,s⟩:=p;have ok:=k6 _ hp;refine gK.mpr ?_;unfold lK;by_cases e:kd = "step"
 .subst e;obtain⟨j0,j1⟩:=wH.mp ok;rw[if_pos rfl];obtain⟨n,rfl⟩:∃ n:Nat,j=n:=⟨j.toNat,by lia⟩
  have:=wI.mp (F.2.1 n (fQ (none,none) ((some (-d),some u)::sel ps "step" (n:Int))) (by unfold dF;rw[aca,acV (by lia)];rfl)) s (.tail _ (LV (p:=("step",(n:Int),s)) hp));exact this
 .obtain⟨rfl,j0,j1⟩:=(Hm e).mp ok;rw[if_neg e];obtain⟨n,rfl⟩:∃ n:Nat,j=n:=⟨j.toNat,by lia⟩
  exact aaL F (k:=n) (s:=s) (by lia) hp
theorem aaM(hg:dS tr)(hf:ck tr<t)(hp:ps∈cy tr)(F:gP (dF u d ps (t-1).toNat) (eQ ps t.toNat) tb m L (bO cs)):(cy tr).any (aV cs)=true:=acM.mpr ⟨ps,hp,Mb ((rg hg hf).2.1 ps hp).2 F⟩
theorem Mc(hg:dS tr)(hf:ck tr<t)(hp:ps∈bL tr)(F:gP (dF u d ps (t-1).toNat) (eQ ps t.toNat) tb m L (bO cs)):(cy tr).any (aV cs)=false:=by have h:(bL tr).any (aV cs)=true:=acM.mpr ⟨ps,hp,Mb ((rg hg hf).1 ps hp).2 F⟩;rw[aaK hg] at h;simpa using h
inductive aaN(B:ab6)(vs:List V)(H:Hp)(Q:VK)(aN:XK):Prop
 | mk(x p w:ab6)(wv:V)(e t u d m:Int)(tb:Tb)(_:vs=[wv,.ref x])(_:cf B H x e t u d m p tb)(_:dE H wv w e t u d m tb)(_:c7 e t u d m)(_:bK e t tb)(_:tb.length<=60)(_:cR u d t m tb [])(_:∀ H',ah H H'->Q (.bl true) H')
theorem aaO(T:aB):aP 21 T.V8 (aaN T.aT):=by
 refine ig Bi ?_;rintro y A y y y y y y hr ⟨x,p,w,wv,e,t,u,d,m,tb,rfl,hB,hW,bH,hot,b6,hh,q⟩;refine⟨_,(ar (aJ 2 Bi.nd (dO (x5 T) hr (ae (aa 1) (ae (cn ag) ag)))) (ar (aH (bq (ao (aa 2) af) aQ) (au (aA (aK (x8 T) hr (ae (aa 0) (ae (ao (aa 2) af) ag))))) aG) (au (aA cM)))),?_⟩;obtain⟨⟨e1,e7⟩,⟨t1,t2⟩,u0,d0,m0,me⟩:=id bH;rfl';refine⟨acr _,λb hb=>?_⟩;have sb:=ak (o:=.lst []) hb;have k6:c6 t []:=λp hp=>by cases hp
 refine⟨x,p,b,e,t,u,d,m,[],[],tb,rfl,hB.same sb,hot,b6,t1,t2,by lia,e7,m0,by lia,ai.of aq,trivial,acr _,λz=>absurd k6 z,λy a H2 s2 A=>?_⟩;obtain⟨L0,c0,F0⟩:=id hh;obtain⟨rr,rfl,⟨z,hrr,hn⟩|⟨k9,cs,L,hrr,fV,y,hcs,F⟩⟩:=yd (by rw[yc,kj];lia) (λr hr=>by rw[kj];have:=(hot.2 r hr).2;lia) A
 .exact absurd F0 (hn _ _)
 rw[kj] at hcs;have S2:=sb.trans s2;refine aI hrr ?_;exact ay (aj.of hrr) rfl ⟨wv,w,k9,e,t,u,d,m,tb,cs,rfl,hW.same S2,t1,t2,hot,b6,fV,hcs,CK hcs F,CL F,λH3 s3=>q _ (S2.trans s3)⟩
theorem aaP(h:0<t):(cy (.turn t)).any (aV cs)=true↔cs.getD (t-1).toNat 0<cs.getD t.toNat 0/\cs.getD (t+1).toNat 0<cs.getD t.toNat 0:=by
 rw[show (cy (.turn t)).any (aV cs)=aV cs (ki t) from af1 _];unfold aV ki;simp only[aea,afQ,aeP,acT,gK];unfold lK;rw[if_pos rfl,if_pos rfl,show t-1+1=t by lia];constructor
 .rintro ⟨⟨h1,y⟩,y,h2⟩;have a:=h1 _ rfl;have b:=h2 _ rfl;lia
 .rintro ⟨h1,h2⟩;refine⟨⟨λx hx=>?_,λx hx=>(nomatch hx)⟩,λx hx=>(nomatch hx),λx hx=>?_⟩
  .cases hx;lia
  .cases hx;lia
inductive aaQ(vs:List V)(H:Hp)(Q:VK)(aN:XK):Prop
 | mk(p a:ab6)(tr:Tr)(cs:List Int)(_:vs=[.ref p,.ref a])(_:H p=some (.tup (nD tr)))(_:dS tr)(_:ai K H a (cs.map V.int))(_:cs.length<=100)(_:ck tr<(cs.length:Int))(_:∀ H',ah H H'->Q (.bl ((cy tr).any (aV cs))) H')
theorem C3(T:aB):aP 2 T.V1 aaQ:=by
 refine bA ue ?_;rintro y y y s H y Q y hr ⟨p,a,tr,cs,rfl,hp,hg,hS,hn,hf,q⟩;refine⟨_,(ar (aJ 2 ue.nd (ao (aa 0) af)) (ar (aH (bq (aa 2) aQ) (au (aA (fk (eG (gM nJ) (ao (aa 1) (aD bW (ao (aa 0) af) af)) (ao (aa 1) (ao (aa 0) af)) (cI _)) (ff (eG (gM nJ) (ao (aa 1) (aD bb (ao (aa 0) af) af)) (ao (aa 1) (ao (aa 0) af)) (cI _)))))) aG) (ar (aH (bq (aa 2) aQ) (ar (nX (i:=3) (cO [1] [ik]) rfl ue.nd rfl rfl (my rfl T.eh (ae (ao (aa 0) af) (ae (ao (aa 0) af) ag))) (λC s2 H2 ex pn=>⟨df,(aD bW (b0 (K:=K) (aa 1) (aD bb (aa 0) af)) (b0 (K:=K) (aa 1) (aa 0)))⟩)) (au (aA (bT (sN rfl) (by rfl) T.uq sC (ae (dg (cO [0] [gp]) rfl (cE (aa 3)) (λC s2 H2 ex pn=>⟨df,(aK (xQ T) hr (ae (aM (ae (b0 (K:=K) (aa 1) af) (ae (b0 (K:=K) (aa 1) af) ag))) (ae (aa 0) ag)))⟩)) ag))))) aG) (ar (aJ 4 ue.nd (pO sk (aa 1) (mD (ao (aa 0) af)) (mD (aD bb (ao (aa 0) af) af)))) (ar (aH (bq (aa 2) aQ) (au (aA (bT (sN rfl) (by rfl) T.uq sC (ae (dg (cO [0] [gp]) rfl (cE (aa 4)) (λC s2 H2 ex pn=>⟨df,(aK (xQ T) hr (ae (aM (ae (b0 (K:=K) (aa 1) af) (ae (b0 (K:=K) (aa 1) af) ag))) (ae (aa 0) ag)))⟩)) ag)))) aG) (ar (aH (bq (aa 2) aQ) (au (aA (eG (gM yM) (bT (zE rfl) (by rfl) T.uu sA (ae (aa 4) ag)) (ao (aa 0) af) (cI _)))) aG) (ar (aH (bq (aa 2) aQ) (au (aA (eG (gM fK) (bT (zF rfl) (by rfl) T.nv mG (ae (aa 4) ag)) (ao (aa 0) af) (cI _)))) aG) (au (aA (bT (Ge rfl) (by rfl) T.Ku E3 (ae (dg (cO [0,4] [gp,"_law_seen"]) rfl (iB rfl T.eh (ae (aD bW (cW T.cH (ae (aa 4) ag)) af) ag)) (λC s2 H2 ex pn=>⟨df,(fk (eG (gM fK) (bT (TM (K:=K) rfl rfl) (by rfl) T.nv mG (ae (pO (Gf (K:=K) rfl) (aa 2) vD (mD (aD bb (aa 0) af))) ag)) (b0 (K:=K) (aa 1) af) (cI _)) (ff (eG (gM yM) (bT (TL (K:=K) rfl rfl) (by rfl) T.uu sA (ae (pO (Gf (K:=K) rfl) (aa 2) (mD (aD bb (aa 0) af)) vD) ag)) (b0 (K:=K) (aa 1) af) (cI _))))⟩)) ag))))))))))),?_⟩;cases tr with
 | turn t =>
  obtain⟨g1,g2⟩:=(hg:0<t/\t<11)
  simp only[ck] at hf;refine aI hp ?_;refine aI hp ?_;refine bJ hS (int_at (by lia) (by lia)) (ay (aj.of hp) rfl (bJ hS (int_at (by lia) (by lia)) ?_));rfl';have tm:=aaP (cs:=cs) g1;refine aU (λhc=>?_) λhc=>?_
  .refine aI hp ?_;refine bJ hS (int_at (by lia) (by lia)) (ay (aj.of hp) rfl (bJ hS (int_at (by lia) (by lia)) ?_));rfl';have:=q _ (ah.refl _);rw[show decide (cs.getD (t+1).toNat 0<cs.getD t.toNat 0)=(cy (.turn t)).any (aV cs) from by
    rw[adg,decide_eq_true_eq,tm];exact⟨λz=>⟨hc,z⟩,λz=>z.2⟩]
   exact this
  .have:=q _ (ah.refl _);rw[show (cy (.turn t)).any (aV cs)=false from agP.mpr λz=>hc (tm.mp z).1] at this;exact this
 | stay i j l h =>
  obtain⟨g1,g2,g3⟩:=(hg:bP i j)
  simp only[ck] at hf;rfl';refine aI hp ?_;rfl';refine aI hp ?_;rfl';refine aI hp ?_;refine⟨_,hS,?_⟩;rw[tN g1 g2 hf];intro d hd;have sd:=ak (o:=.lst (((ab2 (j+1-i).toNat).map (aY cs i)).map V.int)) hd;have ed:upd H d (.lst (((ab2 (j+1-i).toNat).map (aY cs i)).map V.int)) d=some (.lst (((ab2 (j+1-i).toNat).map (aY cs i)).map V.int)):=aq;generalize upd H d (.lst (((ab2 (j+1-i).toNat).map (aY cs i)).map V.int))=H1 at sd ed ⊢;refine⟨⟨_,ai.of ed⟩,cJ i8 (by rw[abT,abT,ab5];exact ab3 (by lia:_<=12) (by decide)) (sQ (R:=λ_ x (n:Int)=>x=V.int n) (p:=λy=>true) (f:=λn=>.bl (hold l h n)) (λy y y y y h=>h) (Gz.ax.ints _) (λH' s'=>ai.of (s' _ _ ed)) (λx n y H2 s2 r Q h=>?_) (λx n y y H2 s2 r Q h=>?_) λH2 s2=>?_)⟩
  .exact h _ (ah.refl _)
  .subst r;rfl';refine ay (aj.of ((sd.trans s2) _ _ hp)) rfl (ay (aj.of ((sd.trans s2) _ _ hp)) rfl ⟨aX,λt ht=>?_⟩);exact⟨t,l,_,n,rfl,aj.of aq,h _ (ak ht)⟩
  .rw[aci,filter_tt];intro m hm;refine⟨m,rfl,((ab2 (j+1-i).toNat).map (aY cs i)).map (hold l h),ai.of ?_,?_⟩
   .rw[aq];simp only[ac1,ag1]
   .rw[aer,aer];have e:(cy (.stay i j l h)).any (aV cs)=(ab2 (j+1-i).toNat).all ((id ∘ hold l h) ∘ aY cs i):=by rw[show (cy (.stay i j l h)).any (aV cs)=aV cs (bp i j (l,h)) from af1 _,AM];rfl
    rw[<- e];exact q _ (sd.trans (s2.trans (ak hm)))
 | pace i j l h =>
  obtain⟨g1,g2,g3⟩:=(hg:bP i j)
  simp only[ck] at hf;rfl';refine aI hp ?_;refine aI hp (aI hp ?_);rfl';refine⟨by lia,by lia,by lia,by lia,cJ gW (by rw[abT,ab5];exact ab3 (by lia:_<=12) (by decide)) (mP (R:=λx (k:Nat)=>x=V.int (i+k)) (p:=λy=>true) (f:=λk=>.int (cs.getD (i+(k:Int)+1).toNat 0-aY cs i k)) trivial (ax.fI _) (λx k y r Q h=>?_) (λx k hk y r Q h=>?_) ?_)⟩
  .exact h
  .subst r;have hk:=acp.mp hk;refine bJ hS (int_at (by lia) (by lia)) (bJ hS (int_at (by lia) (by lia)) ?_);exact h
  rw[aci,filter_tt];intro d hd;rw[show ((ab2 (j-i).toNat).map λ(k:Nat)=>V.int (cs.getD (i+(k:Int)+1).toNat 0-aY cs i k))=((ab2 (j-i).toNat).map λ(k:Nat)=>cs.getD (i+(k:Int)+1).toNat 0-aY cs i k).map V.int by rw[ac1];rfl];generalize eg:((ab2 (j-i).toNat).map λ(k:Nat)=>cs.getD (i+(k:Int)+1).toNat 0-aY cs i k)=gs;have sd:=ak (o:=.lst (gs.map V.int)) hd;have ed:upd H d (.lst (gs.map V.int)) d=some (.lst (gs.map V.int)):=aq;have gO:gs.length<=12:=by rw[<- eg,abT,ab5];lia
  generalize upd H d (.lst (gs.map V.int))=H1 at sd ed ⊢;refine⟨d,rfl,⟨_,ai.of ed⟩,cJ i8 (by rw[abT];exact ab3 gO (by decide)) (sQ (R:=λ_ x (n:Int)=>x=V.int n) (p:=λy=>true) (f:=λn=>.bl (hold l h n)) (λy y y y y h=>h) (Gz.ax.ints _) (λH' s'=>ai.of (s' _ _ ed)) (λx n y H2 s2 r Q h=>?_) (λx n y y H2 s2 r Q h=>?_) λH2 s2=>?_)⟩
  .exact h _ (ah.refl _)
  .subst r;rfl';refine ay (aj.of ((sd.trans s2) _ _ hp)) rfl (ay (aj.of ((sd.trans s2) _ _ hp)) rfl ⟨aX,λt ht=>?_⟩);exact⟨t,l,_,n,rfl,aj.of aq,h _ (ak ht)⟩
  .rw[aci,filter_tt];intro m hm;refine⟨m,rfl,gs.map (hold l h),ai.of ?_,?_⟩
   .rw[aq];simp only[ac1,ag1]
   .have e:(cy (.pace i j l h)).any (aV cs)=(gs.map (hold l h)).all id:=by rw[show (cy (.pace i j l h)).any (aV cs)=aV cs (ib i j (l,h)) from af1 _,TN,aer,<- eg,aer];rfl
    rw[<- e];exact q _ (sd.trans (s2.trans (ak hm)))
 | over i j s =>
  obtain⟨g1,g2,g3⟩:=(hg:bP i j)
  simp only[ck] at hf;rfl';refine aI hp ?_;rfl';refine aI hp ?_;rfl';refine aI hp ?_;refine⟨_,hS,?_⟩;rw[tN g1 g2 hf];intro d hd;have sd:=ak (o:=.lst (((ab2 (j+1-i).toNat).map (aY cs i)).map V.int)) hd;refine⟨_,ai.of aq,by simp;lia,aI (sd _ _ hp) ?_⟩;rfl';have:=q _ sd;rw[show decide (s<=gH ((ab2 (j+1-i).toNat).map (aY cs i)))=(cy (.over i j s)).any (aV cs) from by
   rw[adg,decide_eq_true_eq,TU (by lia)];exact TQ.symm]
  exact this
 | under i j s =>
  obtain⟨g1,g2,g3⟩:=(hg:bP i j)
  simp only[ck] at hf;rfl';refine aI hp ?_;rfl';refine aI hp ?_;rfl';refine aI hp ?_;refine⟨_,hS,?_⟩;rw[tN g1 g2 hf];intro d hd;have sd:=ak (o:=.lst (((ab2 (j+1-i).toNat).map (aY cs i)).map V.int)) hd;refine⟨_,ai.of aq,by simp;lia,aI (sd _ _ hp) ?_⟩;rfl';have:=q _ sd;rw[show decide (gI ((ab2 (j+1-i).toNat).map (aY cs i))<=s)=(cy (.under i j s)).any (aV cs) from by
   rw[adg,decide_eq_true_eq,AN (by lia)];exact TR.symm]
  exact this
 | rose i j l h =>
  obtain⟨g1,g2,g3⟩:=(hg.1:bP i j)
  simp only[ck] at hf;rfl';refine aI hp ?_;rfl';refine aI hp ?_;rfl';refine aI hp ?_;refine⟨_,hS,?_⟩;rw[tN g1 g2 hf];intro d hd;obtain⟨n,hn1,yP⟩:∃ n,(j+1-i).toNat=n/\n<=12:=⟨_,rfl,by lia⟩
  have vB:=Iv (cs:=cs) (i:=i) (j:=j) (l:=l) (h:=h);rw[hn1] at vB ⊢;have n1:1<=n:=by lia
  have sd:=ak (o:=.lst (((ab2 n).map (aY cs i)).map V.int)) hd;have ed:upd H d (.lst (((ab2 n).map (aY cs i)).map V.int)) d=some (.lst (((ab2 n).map (aY cs i)).map V.int)):=aq;generalize upd H d (.lst (((ab2 n).map (aY cs i)).map V.int))=H1 at sd ed ⊢;refine⟨_,eW (ai.of ed),?_⟩;rw[abT,abT,ab5];refine⟨by lia,by lia,?_⟩;rw[show ((n:Int)-1).toNat=n-1 by lia];refine cJ gW (by rw[abT,ab5];exact ab3 (by lia:_<=12) (by decide)) (sQ (R:=λ_ x (k:Nat)=>x=V.int ((0:Int)+k)) (p:=λy=>true) (f:=λk=>.bl (decide (gI (((ab2 n).map (aY cs i)).take (k+1))<=l) && decide (h<=gH (((ab2 n).map (aY cs i)).drop (k+1))))) (λy y y y y h=>h) (ax.fI _) (λy y=>trivial) (λx k y H2 s2 r Q h=>?_) (λx k hk y H2 s2 r Q h=>?_) λH2 s2=>?_)
  .exact h _ (ah.refl _)
  .subst r;have hk:=acp.mp hk;have len:((ab2 n).map (aY cs i)).length=n:=by rw[abT,ab5]
   have ne1:((ab2 n).map (aY cs i)).take (k+1)≠[]:=λz=>by have:=congrArg List.length z;rw[adC,len] at this;simp at this;lia
   have ne2:((ab2 n).map (aY cs i)).drop (k+1)≠[]:=λz=>by have:=congrArg List.length z;rw[aey,len] at this;simp at this;lia
   rfl';rw[show (0:Int)+(k:Int)+1=((k+1:Nat):Int) by lia];refine⟨_,ai.of (s2 _ _ ed),?_⟩;rw[QG,<- aiB];intro p1 fF;have u1:=ak (o:=.lst ((((ab2 n).map (aY cs i)).take (k+1)).map V.int)) fF;refine⟨_,ai.of aq,ne1,ay (aj.of ((sd.trans (s2.trans u1)) _ _ hp)) rfl ?_⟩;refine aU (λhc=>?_) λhc=>?_
   .refine⟨_,ai.of ((s2.trans u1) _ _ ed),?_⟩;rw[zS,<- aj3];intro p2 dY;have u2:=ak (o:=.lst ((((ab2 n).map (aY cs i)).drop (k+1)).map V.int)) dY;refine⟨_,ai.of aq,ne2,ay (aj.of ((sd.trans (s2.trans (u1.trans u2))) _ _ hp)) rfl ?_⟩;have:=h _ (u1.trans u2);rw[decide_eq_true hc,ahe] at this;exact this
   .have:=h _ u1;rw[decide_eq_false hc,afD] at this;exact this
  .rw[aci,filter_tt];intro m hm;refine⟨m,rfl,(ab2 (n-1)).map λk=>decide (gI (((ab2 n).map (aY cs i)).take (k+1))<=l) && decide (h<=gH (((ab2 n).map (aY cs i)).drop (k+1))),ai.of ?_,?_⟩
   .rw[aq];simp only[ac1,ag1]
   .rw[ai3];have e:(cy (.rose i j l h)).any (aV cs)=((ab2 (n-1)).any λk=>decide (gI (((ab2 n).map (aY cs i)).take (k+1))<=l) && decide (h<=gH (((ab2 n).map (aY cs i)).drop (k+1)))):=by rw[adg,TV];exact vB
    exact (congrArg (λb=>Q (V.bl b) _) e).mp (q _ (sd.trans (s2.trans (ak hm))))
def aaR(G:Hp)(wv:V)(x tp v:ab6)(u d t m:Int)(tb:Tb)(cl:List (List Pa))(i:Nat)(σ:St)(H1:Hp):Prop:=(∃ e1 e2,σ=[some wv,some (.ref x),some (.ref tp),some (.ref v),e1,e2])/\ah G H1/\∀ ps∈cl.take i,¬ cR u d t m tb ps
inductive aaS(T:aB)(vs:List V)(H:Hp)(Q:VK)(aN:XK):Prop
 | mk(x p w v tp:ab6)(wv:V)(e t u d m:Int)(tr:Tr)(tb:Tb)(_:vs=[wv,.ref x,.ref tp,.ref v])(_:cf T.aT H x e t u d m p tb)(_:dE H wv w e t u d m tb)(_:c7 e t u d m)(_:bK e t tb)(_:tb.length<=60)(_:H tp=some (.tup (nD tr)))(_:eF T H v tr)(_:dS tr)(_:ck tr<t)(_:(∃ ps∈bL tr,cR u d t m tb ps))(_:∀ H',ah H H'->Q (.bl true) H')
theorem aaT(T:aB):aP 21 T.Wa (aaS T):=by
 refine ig xm ?_;rintro n A n n n n n n hr ⟨x,p,w,v,tp,wv,e,t,u,d,m,tr,tb,rfl,hB,hW,bH,hot,b6,gf,hv,hg,hf,hh,q⟩;refine⟨_,(ar (cU adV rfl (cE (lW (yh T hr) (aa 3))) (cv 4 xm.nd) (ar (aJ 5 xm.nd (dO (x5 T) hr (ae (aa 1) (ae (aa 4) ag)))) (au (aH (bq (ao (aa 5) af) aQ) (au (aA (fk (aK (x8 T) hr (ae (aa 0) (ae (ao (aa 5) af) ag))) (ff (tX (aK (C3 T) hr (ae (aa 2) (ae (ao (aa 5) af) ag)))))))) aG)))) (au (aA cM))),?_⟩;obtain⟨⟨e1,e7⟩,⟨t1,t2⟩,u0,d0,m0,me⟩:=id bH;obtain⟨bo,wo,bl,wl⟩:=rg hg hf;rfl';refine yi T hv hg _ λb ys H1 s1 n hb hC=>?_;have yl:=hC.len;rfl';refine⟨⟨_,ai.of hb⟩,gD (xs:=ys) (aaR H1 wv x tp v u d t m tb (bL tr)) ⟨⟨_,_,rfl⟩,ah.refl _,λn z=>by simp at z⟩ (λi σ H2 _ ⟨_,s2,_⟩=>ai.of (s2 _ _ hb)) ?_ ?_⟩
 .rintro i y σ H2 hy ⟨⟨z1,z2,rfl⟩,s2,bC⟩;obtain⟨ps,hps,r⟩:=hC.get hy;obtain⟨c,xs,rfl,hc,hP⟩:=cu.cm r;have pin:=ace hps;obtain⟨pl,k6⟩:=bo ps pin;have S2:=s1.trans s2;rfl';refine⟨x,p,c,e,t,u,d,m,xs,ps,tb,rfl,hB.same S2,hot,b6,t1,t2,by lia,e7,m0,by lia,ai.of (s2 _ _ hc),hP.same s2,pl,λz=>absurd k6 z,λn a H3 s3 A=>?_⟩;have S3:=S2.trans s3;obtain⟨rr,rfl,⟨z,hrr,hn⟩|⟨k9,cs,L,hrr,fV,n,hcs,F⟩⟩:=yd (by rw[yc,kj];lia) (λr hr=>by rw[kj];have:=(hot.2 r hr).2;lia) A
  .refine aI hrr ?_;rfl';rw[if_neg (by decide)];refine⟨⟨_,_,rfl⟩,s2.trans s3,λqs hq=>?_⟩;rw[acR,hps] at hq;rcases acw.mp hq with y|y
   .exact bC qs y
   .obtain rfl:qs=ps:=by simpa using y
    exact λ⟨L,c,F⟩=>hn L c F
  .rw[kj] at hcs;refine aI hrr ?_;refine ay (aj.of hrr) rfl ⟨wv,w,k9,e,t,u,d,m,tb,cs,rfl,hW.same S3,t1,t2,hot,b6,fV,hcs,CK hcs F,CL F,λH4 s4=>?_⟩;refine ay (aj.of (s4 _ _ hrr)) rfl ⟨tp,k9,tr,cs,rfl,(S3.trans s4) _ _ gf,hg,ai.of (s4 _ _ fV),by lia,by lia,λH5 s5=>?_⟩;rw[Mc hg hf pin F];exact q _ (S3.trans (s4.trans s5))
 .rintro σ H2 ⟨n,n,bC⟩;rw[yl,acU] at bC;obtain⟨ps,hp,h⟩:=hh;exact absurd h (bC ps hp)
theorem Md:∀ {zs:List V} {bs:List Bool},ax (λv (b:Bool)=>v=V.bl b) zs bs->zs=bs.map V.bl
 | [],[],_=>rfl
 | _::_,_::_,h=>by rw[h.1,Md h.2];rfl
inductive aaU(vs:List V)(H:Hp)(Q:VK)(aN:XK):Prop
 | mk(w b k:ab6)(wv:V)(e t u d m:Int)(tb:Tb)(ys zs:List V)(cl:List (List Pa))(_:vs=[wv,.ref b,.ref k])(_:dE H wv w e t u d m tb)(_:(1<=t/\t<=12))(_:bK e t tb)(_:H b=some (.lst ys))(_:ax (CM H) ys cl)(_:H k=some (.lst zs))(_:ax (dG u d t m tb H) zs cl)(_:cl.length<=200)(_:(∀ ps∈cl,ps.length<=900/\c6 t ps))(_:∀ H',ah H H'->Q (.bl true) H')
theorem Me(T:aB):aP 35 T.V7 aaU:=by
 refine bA Kr ?_;rintro y y y s H y Q y hr ⟨w,b,k,wv,e,t,u,d,m,tb,ys,zs,cl,rfl,hW,ht,hot,C4,Mf,uV,eB,bl,bo,q⟩;refine⟨_,(ar (aH (PW.pt (cD (bZ (b9 (bT lB (by rfl) T.iS iH (ae (aa 2) (ae (lj (v:=.ty "list") rfl T.nu mH rfl) ag))))) (eS (jo (cW T.cH (ae (aa 2) ag)) (cW T.cH (ae (aa 1) ag)))))) (au (aA cM)) aG) (au (aA (bT (sN rfl) (by rfl) T.uq sC (ae (zA (g:=ky K 2 (cX (cA 0) (cX (cA 1) jF))) (jN.mk (own:=["_law_claim","_law_paper"]) (fr:=[0]) (ys:=["_law_world_here"]) rfl (by decide +kernel) rfl (by decide +kernel) rfl (.cons rfl .nil) (.cons rfl rfl rfl rfl .nil) rfl) rfl (Ga rfl T.Ky (ae (aa 1) (ae (aa 2) ag))) (λC s2 H2 ex pn=>kz (n:=2) rfl (dI (gB (i:=0) (show (["_law_claim","_law_paper","_law_world_here"]:List Str).Nodup by decide) rfl (.inl (ach rfl)) (.inr (ach rfl))) (dI (gB (i:=1) (show (["_law_claim","_law_paper","_law_world_here"]:List Str).Nodup by decide) rfl (.inl (ach rfl)) (.inr (ach rfl))) kx))) (λC s2 H2 ex pn=>⟨df,(aK (LM T) hr (ae (aa 2) (ae (aa 0) (ae (aa 1) ag))))⟩)) ag))))),?_⟩;have yl:=Mf.len;have zl:=eB.len;rfl';refine zi uV ?_;refine⟨_,eW (ai.of uV),_,eW (ai.of C4),?_⟩;rw[if_neg (by rw[yl,zl];simp)];refine⟨⟨_,ai.of C4⟩,⟨_,ai.of uV⟩,?_⟩;refine Qv (xs:=ys) (ys:=zs) (ab3 (by rw[ajs];lia:_<=200) (by decide)) (Av (R':=λ_ v (b:Bool)=>v=V.bl b) (p:=λy=>true) (f:=λy=>true) (bs:=[]) (λy y y y y h=>h) trivial (λH' s'=>⟨ai.of (s' _ _ C4),ai.of (s' _ _ uV)⟩) (λr cc H' s' Q h=>?_) (λr cc y H' s' Q h=>?_) λH' ws s' hw=>?_)
 .exact h
 .obtain⟨n,hn⟩:=ac2.mp cc;rw[List.getElem?_zip_eq_some] at hn;obtain⟨ps,hps,c,xs,e1,hc,hP⟩:=Mf.get hn.1;obtain⟨ps',Mg,hR⟩:=eB.get hn.2;obtain rfl:ps=ps':=by rw[hps] at Mg;exact Option.some.inj Mg
  obtain⟨pl,k6⟩:=bo ps (ace hps);rfl';rw[e1];exact⟨wv,r.2,w,c,e,t,u,d,m,tb,xs,ps,rfl,hW.same s',ht.1,ht.2,hot,ai.of (s' _ _ hc),hP.same s',pl,gv.same hR s',λH4 s4=>h _ _ s4 rfl⟩
 .intro l2 a7;rw[aci] at hw;have ez:=Md hw;refine⟨l2,rfl,_,by rw[ez];exact ai.of aq,?_⟩;rw[show ((((ys.zip zs).filter λy=>true).map λy=>true).all id)=true by rw[aer];exact adi.mpr λy y=>rfl];exact q _ (s'.trans (ak a7))
structure C5(u d t m:Int)(tb:Tb)(tr:Tr)(H:Hp)(r:ab6):Prop where
 h:(¬ fG u d t m tb (bL tr)/\∃ z,H r=some (.tup [.str "none",z])/\dG u d t m tb H z [])∨(fG u d t m tb (bL tr)/\∃ k zs,H r=some (.tup [.str "yes",.ref k])/\H k=some (.lst zs)/\ax (dG u d t m tb H) zs (bL tr))∨(¬ fG u d t m tb (bL tr)/\cR u d t m tb []/\∃ k zs,H r=some (.tup [.str "no",.ref k])/\H k=some (.lst zs)/\ax (dG u d t m tb H) zs (cy tr))∨(¬ fG u d t m tb (bL tr)/\∃ k1 k2,H r=some (.tup [.str "open",.ref k1,.ref k2])/\fW u d t m tb (cy tr) H k1/\fW u d t m tb (bL tr) H k2)
inductive aaV(T:aB)(vs:List V)(H:Hp)(Q:VK)(aN:XK):Prop
 | mk(x p w v tp r:ab6)(wv:V)(e t u d m:Int)(tr:Tr)(tb:Tb)(_:vs=[wv,.ref x,.ref tp,.ref v,.ref r])(_:cf T.aT H x e t u d m p tb)(_:dE H wv w e t u d m tb)(_:c7 e t u d m)(_:bK e t tb)(_:tb.length<=60)(_:H tp=some (.tup (nD tr)))(_:eF T H v tr)(_:dS tr)(_:ck tr<t)(_:C5 u d t m tb tr H r)(_:∀ H',ah H H'->Q (.bl true) H')
theorem Mh:de (a::r) 0=some a:=dq (j:=0) rfl
theorem Mi(T:aB):aP 36 T.V9 (aaV T):=by
 refine ig Ks ?_;rintro c c c c H c c c hr ⟨x,p,w,v,tp,r,wv,e,t,u,d,m,tr,tb,rfl,hB,hW,bH,hot,b6,gf,hv,hg,hf,hF,q⟩;refine⟨_,(ar (aH (PW.pt (cD (bZ (b9 (bT lB (by rfl) T.iS iH (ae (aa 4) (ae (lj (v:=.ty "tuple") rfl T.xF vL rfl) ag))))) (eS (j4 (cW T.cH (ae (aa 4) ag)) af)))) (au (aA cM)) aG) (ar (aH (bq (ao (aa 4) af) aQ) (au (aA (fk (eG nI (cW T.cH (ae (aa 4) ag)) af (cI _)) (ff (aK (LM T) hr (ae (aa 0) (ae (cn ag) (ae (ao (aa 4) af) ag)))))))) aG) (ar (aH (bq (ao (aa 4) af) aQ) (ar (aH (PW.pt (cD (jo (cW T.cH (ae (aa 4) ag)) af) (cD (bZ (b9 (aK (x8 T) hr (ae (aa 0) (ae (ao (aa 4) af) ag))))) (eS (bZ (b9 (aK (x8 T) hr (ae (aa 0) (ae (ao (aa 4) af) ag))))))))) (au (aA cM)) aG) (au (aA (fk (aK (C3 T) hr (ae (aa 2) (ae (ao (aa 4) af) ag))) (ff (tX (aK (C3 T) hr (ae (aa 2) (ae (ao (aa 4) af) ag))))))))) aG) (ar (aH (PW.pt (cD (jo (cW T.cH (ae (aa 4) ag)) af) (eS (bZ (b9 (dO (aaO T) hr (ae (aa 0) (ae (aa 1) ag)))))))) (au (aA cM)) aG) (ar (aH (bq (ao (aa 4) af) aQ) (au (aA (aK (Me T) hr (ae (aa 0) (ae (lW (yh T hr) (aa 3)) (ae (ao (aa 4) af) ag)))))) aG) (au (aA (fk (eG nI (ao (aa 4) af) aQ (cI _)) (ff (aK (Me T) hr (ae (aa 0) (ae (lW (LY T hr) (aa 3)) (ae (ao (aa 4) af) ag))))))))))))),?_⟩;obtain⟨⟨e1,e7⟩,⟨t1,t2⟩,u0,d0,m0,me⟩:=id bH;obtain⟨bo,wo,bl,wl⟩:=rg hg hf;have FT:∀ (H1:Hp) (k:ab6) (cl:List (List Pa)) (R:VK),ah H H1->fW u d t m tb cl H1 k->(∀ H2,ah H1 H2->R (.bl true) H2)->LG [wv,.ref k] H1 R E0:=λH1 k cl R s1 hf hr=>by obtain⟨cs,L,ps,pin,hk,hcs,F⟩:=hf;exact⟨wv,w,k,e,t,u,d,m,tb,cs,rfl,hW.same s1,t1,t2,hot,b6,hk,hcs,CK hcs F,CL F,hr⟩
 obtain⟨y,zs,hr,z1,cas⟩:∃ (y:Str) (zs:List V),H r=some (.tup (.str y::zs))/\1<=zs.length/\((y = "none" /\ ∃ z,zs=[z]/\dG u d t m tb H z [])∨(y = "open" /\ ∃ k1 k2,zs=[.ref k1,.ref k2]/\fW u d t m tb (cy tr) H k1/\fW u d t m tb (bL tr) H k2)∨((y = "yes" ∨ y = "no")/\cR u d t m tb []/\∃ k ws,zs=[.ref k]/\H k=some (.lst ws)/\(y = "yes" -> ax (dG u d t m tb H) ws (bL tr))/\(y = "no" -> ax (dG u d t m tb H) ws (cy tr)))):=by
  rcases hF.h with ⟨c,z,hr,hR⟩|⟨⟨hh,bC⟩,k,zs,hr,hk,hR⟩|⟨c,hh,k,zs,hr,hk,hR⟩|⟨c,k1,k2,hr,rj,pd⟩
  .exact⟨_,_,hr,afo _ _,.inl ⟨rfl,z,rfl,hR⟩⟩
  .exact⟨_,_,hr,afo _ _,.inr (.inr ⟨.inl rfl,hh,k,zs,rfl,hk,λc=>hR,λz=>absurd z (by decide)⟩)⟩
  .exact⟨_,_,hr,afo _ _,.inr (.inr ⟨.inr rfl,hh,k,zs,rfl,hk,λz=>absurd z (by decide),λc=>hR⟩)⟩
  .exact⟨_,_,hr,afo _ _,.inr (.inl ⟨rfl,k1,k2,rfl,rj,pd⟩)⟩
 clear hF;refine aC (λσ H1=>σ=[some wv,some (.ref x),some (.ref tp),some (.ref v),some (.ref r)]/\H=H1) (λN hN=>?_) ?_
 .rfl';refine vM hr ?_;refine⟨_,.inr ⟨_,aj.of hr,rfl⟩,?_⟩;rw[if_neg (by rw[acB];lia)];exact hN _ _ ⟨rfl,rfl⟩
 rintro c yR σ c ⟨rfl,rfl⟩;subst yR;refine aC (λσ H1=>σ=[some wv,some (.ref x),some (.ref tp),some (.ref v),some (.ref r)]/\H=H1/\((y = "open" /\ ∃ k1 k2,zs=[.ref k1,.ref k2]/\fW u d t m tb (cy tr) H k1/\fW u d t m tb (bL tr) H k2)∨((y = "yes" ∨ y = "no")/\cR u d t m tb []/\∃ k ws,zs=[.ref k]/\H k=some (.lst ws)/\(y = "yes" -> ax (dG u d t m tb H) ws (bL tr))/\(y = "no" -> ax (dG u d t m tb H) ws (cy tr))))) (λN hN=>?_) ?_
 .rfl';refine ay (aj.of hr) Mh ?_;rcases cas with ⟨rfl,z,rfl,hR⟩|cas
  .refine⟨_,.inr ⟨_,aj.of hr,rfl⟩,?_⟩;rw[if_pos (by simp)];refine⟨acr _,λb hb=>?_⟩;have u1:=ak (o:=.lst []) hb;refine ay (aj.of (u1 _ _ hr)) rfl ⟨wv,z,w,b,e,t,u,d,m,tb,[],[],rfl,hW.same u1,t1,t2,hot,ai.of aq,trivial,acr _,gv.same hR u1,λH2 s2=>q _ (u1.trans s2)⟩
  .have ne:y ≠ "none" := by rcases cas with ⟨rfl,c⟩|⟨rfl|rfl,c⟩<;>decide
   rfl';rw[if_neg ne];exact hN _ _ ⟨rfl,rfl,cas⟩
 clear cas;rintro c yR σ c ⟨rfl,rfl,cas⟩;subst yR;refine aC (λσ H1=>σ=[some wv,some (.ref x),some (.ref tp),some (.ref v),some (.ref r)]/\H=H1/\(y = "yes" ∨ y = "no")/\cR u d t m tb []/\∃ k ws,zs=[.ref k]/\H k=some (.lst ws)/\(y = "yes" -> ax (dG u d t m tb H) ws (bL tr))/\(y = "no" -> ax (dG u d t m tb H) ws (cy tr))) (λN hN=>?_) ?_
 .rfl';refine ay (aj.of hr) Mh ?_;rcases cas with ⟨rfl,k1,k2,rfl,rj,pd⟩|cas
  .refine⟨_,.inr ⟨_,aj.of hr,rfl⟩,?_⟩;rw[if_neg (by simp)];refine ay (aj.of hr) rfl (FT H k1 _ _ (ah.refl _) rj λH2 s2=>?_);refine ay (aj.of (s2 _ _ hr)) rfl (FT H2 k2 _ _ s2 (pd.same s2) λH3 s3=>?_);have S3:=s2.trans s3;obtain⟨cs1,L1,ps1,aaW,ix,abQ,F1⟩:=rj;obtain⟨cs2,L2,ps2,aaX,jn,abR,F2⟩:=pd;refine ay (aj.of (S3 _ _ hr)) rfl ⟨tp,k1,tr,cs1,rfl,S3 _ _ gf,hg,ai.of (S3 _ _ ix),by lia,by lia,λH4 s4=>?_⟩;have S4:=S3.trans s4;rw[aaM hg hf aaW F1];refine ay (aj.of (S4 _ _ hr)) rfl ⟨tp,k2,tr,cs2,rfl,S4 _ _ gf,hg,ai.of (S4 _ _ jn),by lia,by lia,λH5 s5=>?_⟩;rw[Mc hg hf aaX F2];exact q _ (S4.trans s5)
  .have ne:y ≠ "open" := by rcases cas with ⟨rfl|rfl,c⟩<;>decide
   rfl';rw[if_neg ne];exact hN _ _ ⟨rfl,rfl,cas⟩
 clear cas;rintro c yR σ c ⟨rfl,rfl,hy,hh,k,ws,rfl,hk,C6,hR2⟩;subst yR;refine aC (λσ H3=>σ=[some wv,some (.ref x),some (.ref tp),some (.ref v),some (.ref r)]/\ah H H3) (λN hN=>?_) ?_
 .rfl';refine⟨_,.inr ⟨_,aj.of hr,rfl⟩,?_⟩;rw[if_neg (by simp)];refine⟨x,p,w,wv,e,t,u,d,m,tb,rfl,hB,hW,bH,hot,b6,hh,λH3 s3=>?_⟩;exact hN _ _ ⟨rfl,s3⟩
 rintro c yR σ H3 ⟨rfl,s3⟩;subst yR;have iA:=s3 _ _ hr;have uV:=s3 _ _ hk;refine aC (λσ H4=>σ=[some wv,some (.ref x),some (.ref tp),some (.ref v),some (.ref r)]/\H3=H4/\y = "no") (λN hN=>?_) ?_
 .rfl';refine aI iA ?_;rcases hy with rfl|rfl
  .refine yi T (hv.same s3) hg _ λb4 C7 H4 s4 c C8 C9=>?_;have S4:=s3.trans s4;refine ay (aj.of (s4 _ _ iA)) rfl ⟨w,b4,k,wv,e,t,u,d,m,tb,C7,ws,_,rfl,hW.same S4,⟨t1,t2⟩,hot,C8,C9.imp λc c r=>cu.cm r,S4 _ _ hk,(C6 rfl).imp λc c r=>gv.same r S4,bl,bo,λH5 s5=>q _ (S4.trans s5)⟩
  .rfl';rw[if_neg (by decide)];exact hN _ _ ⟨rfl,rfl,rfl⟩
 rintro c yR σ c ⟨rfl,rfl,rfl⟩;subst yR;rfl';refine aI iA ?_;refine⟨rfl,LZ T (hv.same s3) hg _ λb4 C7 H4 s4 c C8 C9=>?_⟩;have S4:=s3.trans s4;refine ay (aj.of (s4 _ _ iA)) rfl ⟨w,b4,k,wv,e,t,u,d,m,tb,C7,ws,_,rfl,hW.same S4,⟨t1,t2⟩,hot,C8,C9.imp λc c r=>cu.cm r,S4 _ _ hk,(hR2 rfl).imp λc c r=>gv.same r S4,wl,wo,λH5 s5=>q _ (S4.trans s5)⟩
inductive aaY(T:aB)(vs:List V)(H:Hp)(Q:VK)(aN:XK):Prop
 | mk(x p v:ab6)(e t u d m:Int)(tr:Tr)(tb:Tb)(_:vs=[.ref x,.ref v])(_:cf T.aT H x e t u d m p tb)(_:c7 e t u d m)(_:bK e t tb)(_:tb.length<=60)(_:eF T H v tr)(_:dS tr)(_:ck tr<t)(_:¬ fG u d t m tb (bL tr))(_:∀ H',ah H H'->Q (.bl true) H')
theorem aaZ(T:aB):aP 24 T.Wc (aaY T):=by
 refine bA ug ?_;rintro y A y s H y y y hr ⟨x,p,v,e,t,u,d,m,tr,tb,rfl,hB,bH,hot,b6,hv,hg,hf,hs,q⟩;refine⟨_,(ar (aJ 2 ug.nd cM) (ar (Fi (λcls y H1=>cls = .ref T.iQ/\ah H H1) 3 rfl rfl rfl T.Bn ug.nd rfl rfl (λF pn hx=>(au (dm (eJ (CY T) hr.m rfl T.oP.m T.oP.F.kp T.oP.b .nil hx (ae (aa 0) (ae (aa 1) ag)))))) (λA' pn=>(au (aJ 2 ug.nd (fk (bT (vO (K:=K) rfl) (by rfl) T.iS iH (ae (aa 3) (ae (pE (v:=.ref T.uh) rfl T.Kt rfl) ag))) (ff (tX (bT (vO (K:=K) rfl) (by rfl) T.iS iH (ae (aa 3) (ae (pE (v:=.ref T.fD) rfl T.xt rfl) ag)))))))))) (au (aA (aa 2))))),?_⟩;rfl';refine⟨?_,?_⟩
 .rfl';exact⟨x,p,v,e,t,u,d,m,tr,tb,rfl,hB,bH,hot,b6,hv,hg,λz=>absurd hf z,λy=>⟨λy H' s=>⟨rfl,s⟩,λz=>absurd z hs⟩⟩
 .rintro cls H' ⟨rfl,hs⟩;refine⟨_,rfl,T.WQ,λa ha=>?_⟩;have X0:=aq (H:=H') (a:=a) (o:=gE a T.iQ);have S0:=hs.trans (ak (o:=gE a T.iQ) ha);generalize upd H' a (gE a T.iQ)=Hx at X0 S0 ⊢;rfl';refine vP X0 T.B5 (λz=>nomatch z) T.WS ?_;rfl';refine vP X0 T.B5 (λz=>nomatch z) T.WT ?_;exact q _ S0
theorem rk.sure(h:rk u d t m tb cl ss)(hn:(tb.map (·.1)).Nodup)(hs:fG u d t m tb cl):fG u d t m (c8 tb ss) cl:=⟨hs.1.of (aaw hn λy z=>h.sub.subset z),h.no⟩
def aa0(G:Hp)(wv:V)(x tp v sl al x2 r:ab6)(_:Nat)(σ:St)(H1:Hp):Prop:=(∃ e1 e2,σ=[some wv,some (.ref x),some (.ref tp),some (.ref v),some (.ref sl),some (.ref al),some (.ref x2),some (.ref r),e1,e2])/\ah G H1
inductive aa1(T:aB)(vs:List V)(H:Hp)(Q:VK)(aN:XK):Prop
 | mk(x p w v tp sl:ab6)(wv:V)(e t u d m:Int)(tr:Tr)(tb:Tb)(ys:List V)(ss:List P2)(_:vs=[wv,.ref x,.ref tp,.ref v,.ref sl])(_:cf T.aT H x e t u d m p tb)(_:dE H wv w e t u d m tb)(_:c7 e t u d m)(_:bK e t tb)(_:tb.length<=60)(_:H tp=some (.tup (nD tr)))(_:eF T H v tr)(_:dS tr)(_:ck tr<t)(_:H sl=some (.lst ys))(_:bR H ys ss)(_:fG u d t m tb (bL tr))(_:rk u d t m tb (bL tr) ss)(_:∀ H',ah H H'->Q (.bl true) H')
theorem aa2(T:aB):aP 37 T.Wf (aa1 T):=by
 refine ig oK ?_;rintro c c c s H c Q c hr ⟨x,p,w,v,tp,sl,wv,e,t,u,d,m,tr,tb,ys,ss,rfl,hB,hW,bH,hot,b6,gf,hv,hg,hf,cP,hP,hsu,hR,q⟩;refine⟨_,(ar (aH (bZ (b9 (aK (aaH T) hr (ae (aa 0) (ae (aa 4) ag))))) (au (aA cM)) aG) (ar (aJ 5 oK.nd (aK (L9 T) hr (ae (aa 0) (ae (aa 4) ag)))) (ar (aJ 6 oK.nd (eV (aa 1) T.bF T.B1 (Cc T) hr.m T.uo.b .nil gF (ae (vA EM (by rfl) T.nu mH (ae (aa 4) ag)) ag))) (ar (aJ 7 oK.nd (dO (CU T) hr (ae (aa 6) (ae (aa 3) ag)))) (ar (aH (PW.pt (cD (bZ (b9 (dO (Mi T) hr (ae (aa 5) (ae (aa 6) (ae (aa 2) (ae (aa 3) (ae (aa 7) ag)))))))) (eS (jo (ao (aa 7) af) aQ)))) (au (aA cM)) aG) (ar (cU adV rfl (cE (aa 4)) (cv 8 oK.nd) (ar (nX (i:=9) (cO [8] [nc]) rfl oK.nd rfl rfl (cE (aa 4)) (λC s2 H2 ex pn=>⟨(jM (lq ((L6 (K:=K) rfl) hr.units) (aa 0) (aa 1) (cI _))),(aa 0)⟩)) (au (aH (bZ (b9 (dO (aaT T) hr (ae (aK (L9 T) hr (ae (aa 0) (ae (aa 9) ag))) (ae (eV (aa 1) T.bF T.B1 (Cc T) hr.m T.uo.b .nil gF (ae (aa 9) ag)) (ae (aa 2) (ae (aa 3) ag))))))) (au (aA cM)) aG)))) (au (aA cM)))))))),?_⟩;have yl:=ax.len hP;have CZ:=hR.sub.length_le;rw[uS] at CZ;have iV:∀ s∈ss,s∈dH tb:=λc z=>hR.sub.subset z;have Dc:=hR.sure hot.1 hsu;have Mj:=CW hot iV;have kl:=uC tb ss;obtain⟨⟨dx,hx⟩,htb⟩:=id hB;refine aC (λσ H1=>σ=[some wv,some (.ref x),some (.ref tp),some (.ref v),some (.ref sl),none,none,none,none,none]/\ah H H1) (λN hN=>?_) ?_
 .refine⟨w,sl,wv,e,t,u,d,m,tb,ys,ss,rfl,hW,hot,b6,cP,hP,hR.sub,λH1 s1=>?_⟩;exact hN _ _ ⟨rfl,s1⟩
 rintro c yR σ H1 ⟨rfl,s1⟩;subst yR;refine aC (λσ H2=>∃ al w1,σ=[some wv,some (.ref x),some (.ref tp),some (.ref v),some (.ref sl),some (.ref al),none,none,none,none]/\ah H H2/\dE H2 (.ref al) w1 e t u d m (c8 tb ss)) (λN hN=>?_) ?_
 .exact⟨w,sl,wv,e,t,u,d,m,tb,ys,ss,rfl,hW.same s1,hot,b6,s1 _ _ cP,hP.same s1,iV,by lia,λal w1 H2 s2 c o9=>hN _ _ ⟨al,w1,rfl,s1.trans s2,o9⟩⟩
 rintro c yR σ H2 ⟨al,w1,rfl,s2,o9⟩;subst yR;refine aC (λσ H3=>∃ x2 p2,σ=[some wv,some (.ref x),some (.ref tp),some (.ref v),some (.ref sl),some (.ref al),some (.ref x2),none,none,none]/\ah H H3/\ah H2 H3/\cf T.aT H3 x2 e t u d m p2 (c8 tb ss)) (λN hN=>?_) ?_
 .rfl';refine⟨_,_,s2 _ _ hx,rfl,_,.inl (ai.of (s2 _ _ cP)),λl hl=>?_⟩;have ul:=ak (o:=.lst ys) hl;exact⟨x,p,l,e,t,u,d,m,tb,ys,ss,rfl,hB.same (s2.trans ul),bH,ai.of aq,hP.same (s2.trans ul),by lia,λ⟨o,ho,hn⟩=>absurd hn (CV hot.1 (iV o ho)),λc x2 p2 H3 s3 c c oW=>hN _ _ ⟨x2,p2,rfl,s2.trans (ul.trans s3),ul.trans s3,oW⟩⟩
 rintro c yR σ H3 ⟨x2,p2,rfl,s3,s23,oW⟩;subst yR;refine aC (λσ H4=>∃ r,σ=[some wv,some (.ref x),some (.ref tp),some (.ref v),some (.ref sl),some (.ref al),some (.ref x2),some (.ref r),none,none]/\ah H H4/\ah H3 H4/\C5 u d t m (c8 tb ss) tr H4 r/\∃ k,H4 r=some (.tup [.str "yes",.ref k])) (λN hN=>?_) ?_
 .rfl';exact⟨x2,p2,v,e,t,u,d,m,tr,_,rfl,oW,bH,Mj,by lia,hv.same s3,hg,λz=>absurd hf z,λc=>⟨λz=>absurd Dc z,λhs r k zs H4 s4 hr hk hz=>hN _ _ ⟨r,rfl,s3.trans s4,s4,⟨.inr (.inl ⟨hs,k,zs,hr,hk,hz⟩)⟩,k,hr⟩,λz=>absurd Dc z,λz=>absurd Dc z⟩⟩
 rintro c yR σ H4 ⟨r,rfl,s4,Ml,hF4,k,uH⟩;subst yR;refine aC (λσ H5=>σ=[some wv,some (.ref x),some (.ref tp),some (.ref v),some (.ref sl),some (.ref al),some (.ref x2),some (.ref r),none,none]/\ah H H5) (λN hN=>?_) ?_
 .refine⟨x2,p2,w1,v,tp,r,.ref al,e,t,u,d,m,tr,_,rfl,oW.same Ml,o9.same (s23.trans Ml),bH,Mj,by lia,s4 _ _ gf,hv.same s4,hg,hf,hF4,λH5 s5=>?_⟩;rfl';refine aI (s5 _ _ uH) ?_;exact hN _ _ ⟨rfl,s4.trans s5⟩
 rintro c yR σ H5 ⟨rfl,s5⟩;subst yR;rfl';refine⟨⟨_,ai.of (s5 _ _ cP)⟩,gD (xs:=ys) (aa0 H5 wv x tp v sl al x2 r) ⟨⟨_,_,rfl⟩,ah.refl _⟩ (λi σ H6 _ ⟨_,s6⟩=>ai.of ((s5.trans s6) _ _ cP)) ?_ ?_⟩
 .rintro i y σ H6 hy ⟨⟨z1,z2,rfl⟩,s6⟩;obtain⟨s,es,hpt⟩:=hP.get hy;have sin:=ace es;have S6:=s5.trans s6;have aa3:=hpt.same S6;have hW6:=hP.same S6;have Mm:=S6 _ _ cP;rfl';refine⟨⟨_,ai.of Mm⟩,cJ i8 (ab3 (by lia:ys.length<=64) (by decide)) (qz (R:=λH x (o:P2)=>cV H x o) (R':=cV) (p:=λo=>decide (o≠s)) (f:=λo=>o) (λc c c c s' h=>h.same s') (λc c c c s' h=>h.same s') hW6 (bs:=[]) trivial (λH' s'=>ai.of (s' _ _ Mm)) (λz o c H7 s7 r Q h=>?_) (λz o c c H7 s7 r Q h=>?_) λH7 zs s7 hz=>?_)⟩
  .obtain⟨pa,rfl,ha⟩:=r;obtain⟨pb,rfl,hb⟩:=aa3.same s7;refine⟨.tuple [.int o.1,.int o.2],.tuple [.int s.1,.int s.2],.tup (aj.of ha) (.cons (.int _) (.cons (.int _) .nil)),.tup (aj.of hb) (.cons (.int _) (.cons (.int _) .nil)),rfl,rfl,by simp[PyData.depth,aeJ],?_⟩;rw[L8];by_cases h0:o=s
   .rw[decide_eq_false λz=>z h0] at h;rw[decide_eq_true h0];rfl';exact h
   .rw[decide_eq_true h0] at h;rw[decide_eq_false h0];rfl';exact h
  .exact h _ _ (ah.refl _) r
  .rw[aci,ahQ] at hz;intro l2 a7;have u7:=s7.trans (ak (o:=.lst zs) a7);have Dd:bR (upd H7 l2 (.lst zs)) zs (ss.filter λo=>decide (o≠s)):=bR.same hz (ak a7);have De:upd H7 l2 (.lst zs) l2=some (.lst zs):=aq;generalize upd H7 l2 (.lst zs)=H8 at u7 Dd De;have S8:=S6.trans u7;have fin:∀ o∈ss.filter (λo=>decide (o≠s)),o∈dH tb:=λo ho=>iV o (acv.mp ho).1;have fl:=acE (λo=>decide (o≠s)) ss;have kl2:=uC tb (ss.filter λo=>decide (o≠s));refine⟨w,l2,wv,e,t,u,d,m,tb,zs,_,rfl,hW.same S8,hot,b6,De,Dd,fin,by lia,λa9 w9 H9 s9 c hW9=>?_⟩;have S9:=S8.trans s9;refine⟨_,_,S9 _ _ hx,rfl,x,p,l2,e,t,u,d,m,tb,zs,_,rfl,hB.same S9,bH,ai.of (s9 _ _ De),Dd.same s9,by lia,λ⟨o,ho,hn⟩=>absurd hn (CV hot.1 (fin o ho)),λc x3 p3 rm mf c c ym=>?_⟩;have mh:=S9.trans mf;refine⟨x3,p3,w9,v,tp,.ref a9,e,t,u,d,m,tr,_,rfl,ym,hW9.same mf,bH,CW hot fin,by lia,mh _ _ gf,hv.same mh,hg,hf,hR.least s sin,λnE s11=>?_⟩;exact⟨⟨_,_,rfl⟩,s6.trans (u7.trans (s9.trans (mf.trans s11)))⟩
 .rintro σ H6 ⟨⟨z1,z2,rfl⟩,s6⟩;exact q _ (s5.trans s6)
inductive aa4(T:aB)(vs:List V)(H:Hp)(Q:VK)(aN:XK):Prop
 | mk(x p w v tp:ab6)(wv:V)(e t u d m:Int)(tr:Tr)(tb:Tb)(_:vs=[wv,.ref x,.ref tp,.ref v])(_:cf T.aT H x e t u d m p tb)(_:dE H wv w e t u d m tb)(_:c7 e t u d m)(_:bK e t tb)(_:tb.length<=60)(_:H tp=some (.tup (nD tr)))(_:eF T H v tr)(_:dS tr)(_:ck tr<t)(_:∀ r k ys ss H',ah H H'->H' r=some (.tup [.bl true,.ref k])->H' k=some (.lst ys)->bR H' ys ss->Q (.ref r) H')
theorem Mn(T:aB):aP 38 T.Wg (aa4 T):=by
 refine ig xq ?_;rintro c c c c H c c c hr ⟨x,p,w,v,tp,wv,e,t,u,d,m,tr,tb,rfl,hB,hW,bH,hot,b6,gf,hv,hg,hf,q⟩;refine⟨_,(ar (aJ 4 xq.nd (dO (CU T) hr (ae (aa 1) (ae (aa 3) ag)))) (ar (aH (bZ (b9 (dO (Mi T) hr (ae (aa 0) (ae (aa 1) (ae (aa 2) (ae (aa 3) (ae (aa 4) ag)))))))) (au (aA (aM (ae cM (ae (cn ag) ag))))) aG) (ar (aH (jo (ao (aa 4) af) aQ) (au (aA (aM (ae (aK (aaZ T) hr (ae (aa 1) (ae (aa 3) ag))) (ae (cn ag) ag))))) aG) (ar (aJ 5 xq.nd (dO (CY T) hr (ae (aa 1) (ae (aa 3) ag)))) (au (aA (aM (ae (dO (aa2 T) hr (ae (aa 0) (ae (aa 1) (ae (aa 2) (ae (aa 3) (ae (aa 5) ag)))))) (ae (aa 5) ag))))))))),?_⟩;refine aC (λσ H1=>∃ r y zs,σ=[some wv,some (.ref x),some (.ref tp),some (.ref v),some (.ref r),none]/\ah H H1/\C5 u d t m tb tr H1 r/\H1 r=some (.tup (.str y::zs))/\((fG u d t m tb (bL tr)/\y = "yes")∨(¬ fG u d t m tb (bL tr)/\y ≠ "yes"))) (λN hN=>?_) ?_
 .exact⟨x,p,v,e,t,u,d,m,tr,tb,rfl,hB,bH,hot,b6,hv,hg,λz=>absurd hf z,λc=>⟨λhs r z H1 s1 hr hR=>hN _ _ ⟨r,_,_,rfl,s1,⟨.inl ⟨hs,z,hr,hR⟩⟩,hr,.inr ⟨hs,by decide⟩⟩,λhs r k zs H1 s1 hr hk hR=>hN _ _ ⟨r,_,_,rfl,s1,⟨.inr (.inl ⟨hs,k,zs,hr,hk,hR⟩)⟩,hr,.inl ⟨hs,rfl⟩⟩,λhs hh r k zs H1 s1 hr hk hR=>hN _ _ ⟨r,_,_,rfl,s1,⟨.inr (.inr (.inl ⟨hs,hh,k,zs,hr,hk,hR⟩))⟩,hr,.inr ⟨hs,by decide⟩⟩,λhs r k1 k2 H1 s1 hr h1 h2=>hN _ _ ⟨r,_,_,rfl,s1,⟨.inr (.inr (.inr ⟨hs,k1,k2,hr,h1,h2⟩))⟩,hr,.inr ⟨hs,by decide⟩⟩⟩⟩
 rintro c yR σ H1 ⟨r,y,zs,rfl,s1,hF,hr,cas⟩;subst yR;refine aC (λσ H2=>σ=[some wv,some (.ref x),some (.ref tp),some (.ref v),some (.ref r),none]/\ah H1 H2) (λN hN=>?_) ?_
 .refine⟨x,p,w,v,tp,r,wv,e,t,u,d,m,tr,tb,rfl,hB.same s1,hW.same s1,bH,hot,b6,s1 _ _ gf,hv.same s1,hg,hf,hF,λH2 s2=>?_⟩;exact hN _ _ ⟨rfl,s2⟩
 rintro c yR σ H2 ⟨rfl,Mo⟩;subst yR;have s2:=s1.trans Mo;have jy:=Mo _ _ hr;rcases cas with ⟨hs,rfl⟩|⟨hs,hy⟩
 .refine aC (λσ H3=>σ=[some wv,some (.ref x),some (.ref tp),some (.ref v),some (.ref r),none]/\H3=H2) (λN hN=>?_) ?_
  .rfl';refine ay (aj.of jy) (dq (rfl:(V.str "yes" :: zs)[0]?=some (.str "yes"))) ?_;exact hN _ _ ⟨rfl,rfl⟩
  rintro c yR σ H3 ⟨rfl,rfl⟩;subst yR;refine aC (λσ H4=>∃ k ys ss,σ=[some wv,some (.ref x),some (.ref tp),some (.ref v),some (.ref r),some (.ref k)]/\ah H H4/\H4 k=some (.lst ys)/\bR H4 ys ss/\rk u d t m tb (bL tr) ss) (λN hN=>?_) ?_
  .rfl';exact⟨x,p,v,e,t,u,d,m,tr,tb,rfl,hB.same s2,bH,hot,b6,hv.same s2,hg,λz=>absurd hf z,λc=>⟨λz=>absurd hs z,λc k ys ss H4 s4 c hk hP hR=>hN _ _ ⟨k,ys,ss,rfl,s2.trans s4,hk,hP,hR⟩⟩⟩
  rintro c yR σ H4 ⟨k,ys,ss,rfl,s4,hk,hP,hR⟩;subst yR;rfl';refine⟨x,p,w,v,tp,k,wv,e,t,u,d,m,tr,tb,ys,ss,rfl,hB.same s4,hW.same s4,bH,hot,b6,s4 _ _ gf,hv.same s4,hg,hf,hk,hP,hs,hR,λH5 s5=>⟨aX,λr9 rn=>?_⟩⟩;exact q r9 k ys ss _ (s4.trans (s5.trans (ak rn))) aq ((s5.trans (ak rn)) _ _ hk) (hP.same (s5.trans (ak rn)))
 .refine ay (aj.of jy) (dq (rfl:(V.str y::zs)[0]?=some (.str y))) ?_;rfl';rw[if_pos hy];refine⟨x,p,v,e,t,u,d,m,tr,tb,rfl,hB.same s2,bH,hot,b6,hv.same s2,hg,hf,hs,λH3 s3=>⟨acr _,λl hl=>⟨aX,λr9 rn=>?_⟩⟩⟩;exact q r9 l [] [] _ (s2.trans (s3.trans ((ak hl).trans (ak rn)))) aq ((ak rn) _ _ aq) trivial
inductive aa5(vs:List V)(H:Hp)(Q:VK)(aN:XK):Prop
 | mk(a c:ab6)(ns cs:List Int)(f:Int)(_:vs=[.ref a,.ref c,.int f])(_:ai K H a (ns.map V.int))(_:jT ns)(_:H c=some (.lst (cs.map V.int)))(_:(1<=cs.length/\cs.length<=12))(_:(1<=f/\f<=1000000000000000000000000000000))(_:∀ r tr H',ah H H'->H' r=some (.tup (nD tr))->dS tr->ck tr<(cs.length:Int)->Q (.ref r) H')
theorem aa6(T:aB):aP 2 T.Wb aa5:=by
 refine bA kY ?_;rintro y y y y H y y y hr ⟨a,c,ns,cs,f,rfl,hS,hn,hc,⟨c1,c12⟩,⟨k1,k2⟩,q⟩;refine⟨_,(ar (aJ 3 kY.nd (cW T.cH (ae (aa 1) ag))) (ar (aJ 4 kY.nd (aK (dR T) hr (ae (aa 0) (ae af (ae af (ae af ag)))))) (ar (aJ 5 kY.nd (aK (dR T) hr (ae (aa 0) (ae af (ae af (ae (aa 3) ag)))))) (ar (aJ 6 kY.nd (aD bb (aa 5) (aK (dR T) hr (ae (aa 0) (ae af (ae af (ae (bT (yO rfl) (by rfl) T.nv mG (ae af (ae (aD bW (aa 3) (aa 5)) ag))) ag))))))) (ar (aJ 7 kY.nd (aD m8 (aa 2) (aK (dR T) hr (ae (aa 0) (ae af (ae af (ae af ag))))))) (ar (aJ 8 kY.nd (pO sk (aa 1) (mD (aa 5)) (mD (aD bb (aa 6) af)))) (ar (aH (bq (aa 4) af) (au (aA (aM (ae aQ (ae (aa 5) (ae (aa 6) (ae (aD bb (bT (zF rfl) (by rfl) T.nv mG (ae (aa 8) ag)) (aa 7)) ag))))))) aG) (ar (aH (PW.pt (iW (bq (aa 4) af) (jE (tW (aa 3) af)))) (au (aA (aM (ae aQ (ae (aD bb af (aD oy (aa 5) (aD bW (aa 3) af))) ag))))) aG) (ar (aH (PW.pt (iW (bq (aa 4) af) (jE (j4 (aa 5) (aD bW (aa 3) af))))) (ar (aJ 9 kY.nd (aD bb (ao (aa 1) (aa 5)) (aa 7))) (au (aA (aM (ae aQ (ae (aa 5) (ae (aD bb (aa 5) af) (ae (aa 9) (ae (bT (Nk rfl) (by rfl) T.uu sA (ae (aD bb (aa 9) af) (ae (aD bW (ao (aa 1) (aD bb (aa 5) af)) (aa 7)) ag))) ag))))))))) aG) (ar (aH (bq (aa 4) af) (au (aA (aM (ae aQ (ae (aa 5) (ae (aa 5) (ae (aD bW (ao (aa 1) (aa 5)) (aa 7)) (ae (aD bb (ao (aa 1) (aa 5)) (aD E1 (aa 7) af)) ag)))))))) aG) (ar (aH (PW.pt (iW (bq (aa 4) af) (jE (j4 (aa 5) (aD bW (aa 3) af))))) (ar (aJ 10 kY.nd (aD bW (ao (aa 1) (aD bb (aa 5) af)) (ao (aa 1) (aa 5)))) (au (aA (aM (ae aQ (ae (aa 5) (ae (aD bb (aa 5) af) (ae (aD bW (aa 10) (aa 7)) (ae (aD bb (aa 10) (aa 2)) ag))))))))) aG) (au (aA (aM (ae aQ (ae (aa 5) (ae (aa 6) (ae (aD bW (bT (zE rfl) (by rfl) T.uu sA (ae (aa 8) ag)) (aa 7)) ag)))))))))))))))))),?_⟩;refine aC (λσ H2=>∃ tu:Int,σ=[some (.ref a),some (.ref c),some (.int f),some (.int tu),none,none,none,none,none,none,none]/\H=H2/\tu=(cs.length:Int)) (λN hN=>?_) ?_
 .rfl';refine⟨_,eW (ai.of hc),?_⟩;rw[abT];exact hN _ _ ⟨_,rfl,rfl,rfl⟩
 rintro y yR σ y ⟨tu,rfl,rfl,et⟩;subst yR;refine aC (λσ H2=>∃ so:Int,σ=[some (.ref a),some (.ref c),some (.int f),some (.int tu),some (.int so),none,none,none,none,none,none]/\H=H2) (λN hN=>?_) ?_
 .refine⟨a,ns,_,_,_,rfl,hS,hn,⟨by decide,by decide⟩,by decide,by lia,λp p1 p2=>?_⟩;exact hN _ _ ⟨_,rfl,rfl⟩
 rintro y yR σ y ⟨so,rfl,rfl⟩;subst yR;refine aC (λσ H2=>∃ fi:Int,σ=[some (.ref a),some (.ref c),some (.int f),some (.int tu),some (.int so),some (.int fi),none,none,none,none,none]/\H=H2/\0<=fi/\fi<tu) (λN hN=>?_) ?_
 .refine⟨a,ns,_,_,_,rfl,hS,hn,⟨by decide,by decide⟩,by decide,by lia,λp p1 p2=>?_⟩;exact hN _ _ ⟨_,rfl,rfl,p1,p2⟩
 rintro y yR σ y ⟨fi,rfl,rfl,f0,f1⟩;subst yR;refine aC (λσ H2=>∃ la:Int,σ=[some (.ref a),some (.ref c),some (.int f),some (.int tu),some (.int so),some (.int fi),some (.int la),none,none,none,none]/\H=H2/\fi<=la/\la<tu) (λN hN=>?_) ?_
 .rfl';generalize en:(if tu-fi<3 then tu-fi else 3)=mi;have mi1:1<=mi/\mi<=tu-fi/\mi<=3:=by rw[<- en];split<;>lia
  refine⟨a,ns,_,_,_,rfl,hS,hn,⟨by decide,by decide⟩,by decide,by lia,λp p1 p2=>?_⟩;exact hN _ _ ⟨_,rfl,rfl,by lia,by lia⟩
 rintro y yR σ y ⟨la,rfl,rfl,l0,l1⟩;subst yR;refine aC (λσ H2=>∃ of:Int,σ=[some (.ref a),some (.ref c),some (.int f),some (.int tu),some (.int so),some (.int fi),some (.int la),some (.int of),none,none,none]/\H=H2) (λN hN=>?_) ?_
 .refine⟨a,ns,_,_,_,rfl,hS,hn,⟨by decide,by decide⟩,by decide,by lia,λp p1 p2=>?_⟩;exact⟨O4 (by lia) (by lia),hN _ _ ⟨_,rfl,rfl⟩⟩
 rintro y yR σ y ⟨of,rfl,rfl⟩;subst yR;rw[<- et] at q;have t12:1<=tu/\tu<=12:=by lia
 obtain⟨sl,esl⟩:∃ sl,sl=(ab2 (la+1-fi).toNat).map (aY cs fi):=⟨_,rfl⟩
 have sq:=tN (cs:=cs) f0 l0 (by lia);have Mp:sl≠[]:=λz=>by have:=congrArg List.length (esl.symm.trans z);rw[abT,ab5] at this;have:(la+1-fi).toNat=0:=this;lia
 rw[<- esl] at sq;refine aC (λσ H2=>∃ sn,σ=[some (.ref a),some (.ref c),some (.int f),some (.int tu),some (.int so),some (.int fi),some (.int la),some (.int of),some (.ref sn),none,none]/\ah H H2/\H2 sn=some (.lst (sl.map V.int))) (λN hN=>?_) ?_
 .rfl';refine⟨_,ai.of hc,λsn hsn=>?_⟩;rw[sq];exact hN _ _ ⟨sn,rfl,ak hsn,by rw[<- sq];exact aq⟩
 rintro y yR σ H1 ⟨sn,rfl,us,es⟩;subst yR;have vY:=us _ _ hc;have me:2<tu->0<=fi % (tu-2)/\fi % (tu-2)<tu-2:=λz=>⟨ahI _ (by lia),agt _ (by lia)⟩
 have ou:bP fi la:=⟨f0,l0,by lia⟩
 clear sq esl hn hS;rfl'
 repeat' (refine aU (λy=>?_) λy=>?_)
 all_goals first
  | exact⟨_,ai.of es,Mp,by decide,λp hp=>q p (.under fi la _) _ (us.trans (ak hp)) aq ou l1⟩
  | exact⟨_,ai.of es,Mp,by decide,λp hp=>q p (.over fi la _) _ (us.trans (ak hp)) aq ou l1⟩
  | (obtain⟨m1,m2⟩:=me (by assumption)
     exact⟨by lia,by decide,λp hp=>q p (.turn (1+fi % (tu-2))) _ (us.trans (ak hp)) aq ⟨by lia,by lia⟩ (by show 1+fi % (tu-2)+1<_;lia)⟩)
  | (refine bJ (ai.of vY) (int_at (by lia) (by lia)) ?_
     refine bJ (ai.of vY) (int_at (by lia) (by lia)) ?_
     first
     | exact⟨by decide,λp hp=>q p (.rose fi (fi+1) _ _) _ (us.trans (ak hp)) aq ⟨⟨f0,by lia,by lia⟩,by split<;>lia⟩ (by show fi+1<_;lia)⟩
     | exact⟨vN (by decide),by decide,λp hp=>q p (.stay fi fi (some _) (some _)) _ (us.trans (ak hp)) aq ⟨f0,by lia,by lia⟩ f1⟩
     | exact⟨by decide,λp hp=>q p (.pace fi (fi+1) (some _) (some _)) _ (us.trans (ak hp)) aq ⟨f0,by lia,by lia⟩ (by show fi+1<_;lia)⟩)
theorem aa7(hg:dS tr):ck tr<=11:=by
 cases tr with
 | over i j s=>obtain⟨y,y,y⟩:=hg;show j<=11;lia
 | under i j s=>obtain⟨y,y,y⟩:=hg;show j<=11;lia
 | rose i j l h=>obtain⟨⟨y,y,y⟩,y⟩:=hg;show j<=11;lia
 | turn k=>obtain⟨y,y⟩:=hg;show k+1<=11;lia
 | stay i j l h=>obtain⟨y,y,y⟩:=hg;show j<=11;lia
 | pace i j l h=>obtain⟨y,y,y⟩:=hg;show j<=11;lia
inductive aa8(T:aB)(vs:List V)(H:Hp)(Q:VK)(aN:XK):Prop
 | mk(w v:ab6)(wv:V)(e t u d m:Int)(tr:Tr)(tb:Tb)(_:vs=[.ref v,wv])(_:dE H wv w e t u d m tb)(_:0<=u)(_:0<=d)(_:eF T H v tr)(_:dS tr)(_:∀ H',ah H H'->Q (.bl true) H')
theorem aa9(T:aB):aP 24 T.Wh (aa8 T):=by
 refine ig qQ ?_;rintro y A y y H y y y hr ⟨w,v,y,e,t,u,d,m,tr,tb,rfl,⟨wr,rfl,hwr,hT⟩,u0,d0,hv,hg,q⟩;refine⟨_,(ar (aH (j4 (lW (CP T hr) (aa 0)) af) (au (aA cM)) aG) (ar (aJ 2 qQ.nd (lr T.BZ (B7 T) hr.m rfl T.Bo T.uk.b .nil gF (ae af (ae (lW (CP T hr) (aa 0)) (ae (ao (aa 1) af) (ae (ao (aa 1) af) (ae af ag))))))) (ar (aJ 3 qQ.nd cM) (ar (Fi (λcls y H1=>cls = .ref T.fD/\ah H H1) 4 rfl rfl rfl T.xt qQ.nd rfl rfl (λF pn hx=>(au (dm (eJ (CY T) hr.m rfl T.oP.m T.oP.F.kp T.oP.b .nil hx (ae (aa 2) (ae (aa 0) ag)))))) (λA' pn=>(au (aJ 3 qQ.nd (fk (bT (vO (K:=K) rfl) (by rfl) T.iS iH (ae (aa 4) (ae (pE (v:=.ref T.uh) rfl T.Kt rfl) ag))) (ff (tX (bT (vO (K:=K) rfl) (by rfl) T.iS iH (ae (aa 4) (ae (pE (v:=.ref T.iQ) rfl T.Bn rfl) ag)))))))))) (au (aA (aa 3))))))),?_⟩;have f11:=aa7 hg;refine aC (λσ H1=>σ=[some (.ref v),some (.ref wr),none,none,none]/\ah H H1/\1<=ck tr) (λN hN=>?_) ?_
 .refine CQ T hv hg _ λH1 s1=>?_;exact aU (λy=>q _ s1) λh=>hN _ _ ⟨rfl,s1,by lia⟩
 rintro y yR σ H1 ⟨rfl,s0,f1⟩;subst yR;replace hv:=hv.same s0;replace hwr:=s0 _ _ hwr;refine aC (λσ H2=>∃ x p,σ=[some (.ref v),some (.ref wr),some (.ref x),none,none]/\ah H1 H2/\cf T.aT H2 x 1 (ck tr) u d 1 p []) (λN hN=>?_) ?_
 .rfl';refine CQ T hv hg _ λHf sf=>ay (aj.of (sf _ _ hwr)) rfl (ay (aj.of (sf _ _ hwr)) rfl λx' Cd cB Ce cC=>?_);have bH:c7 1 (ck tr) u d 1:=⟨⟨by decide,by decide⟩,⟨f1,by lia⟩,u0,d0,by decide,by decide⟩
  refine⟨x',Cd,1,ck tr,u,d,1,rfl,aq,λz=>absurd bH z,λy p' H3 dX s3 X3 P3=>⟨rfl,?_⟩⟩;have M:=z8 (C:=T.aT) (fs:=[]) cB Ce cC;exact hN _ _ ⟨x',p',rfl,sf.trans (λb o e=>s3 b o (λz=>by rw[z,cB] at e;cases e) (M _ _ e)),⟨⟨_,X3⟩,_,P3,trivial⟩⟩
 rintro y yR σ H2 ⟨x,p,rfl,s2,Cj⟩;subst yR;have bH:c7 1 (ck tr) u d 1:=⟨⟨by decide,by decide⟩,⟨f1,by lia⟩,u0,d0,by decide,by decide⟩
 rfl';refine⟨?_,?_⟩
 .rfl';exact⟨x,p,v,1,_,u,d,1,tr,[],rfl,Cj,bH,bK.nil,acr _,hv.same s2,hg,λy H' s'=>⟨rfl,s0.trans (s2.trans s')⟩,λz=>absurd z (by lia)⟩
 .rintro cls H' ⟨rfl,hs⟩;refine⟨_,rfl,T.WR,λa ha=>?_⟩;have X0:=aq (H:=H') (a:=a) (o:=gE a T.fD);have S0:=hs.trans (ak (o:=gE a T.fD) ha);generalize upd H' a (gE a T.fD)=Hx at X0 S0 ⊢;rfl';refine vP X0 T.xO (λz=>nomatch z) T.WU ?_;rfl';refine vP X0 T.xO (λz=>nomatch z) T.WV ?_;exact q _ S0
inductive aba(T:aB)(vs:List V)(H:Hp)(Q:VK)(E:XK):Prop
 | mk(p:ab6)(tr:Tr)(_:vs=[.ref p])(_:H p=some (.tup (nD tr)))(_:dS tr)(_:(∀ x H',ah H H'->eF T H' x tr->Q (.ref x) H'))
theorem abb(T:aB):aP 4 T.V2 (aba T):=by
 refine bA Bf ?_;rintro v v v s H v v v hr ⟨p,tr,rfl,hp,hg,q⟩;refine⟨_,(ar (aJ 1 Bf.nd (ao (aa 0) af)) (ar (aH (bq (aa 1) aQ) (au (aA (lr T.Wr (ZI T) hr.m rfl T.Vq T.BF.b .nil bB (ae (ao (aa 0) af) ag)))) aG) (ar (aH (bq (aa 1) aQ) (au (aA (lr T.Wq (ZE T) hr.m rfl T.Vp T.BC.b .nil bB (ae (ao (aa 0) af) (ae (ao (aa 0) af) (ae (aM (ae (ao (aa 0) af) (ae (ao (aa 0) af) ag))) ag)))))) aG) (ar (aH (bq (aa 1) aQ) (au (aA (lr T.Wl (Zx T) hr.m rfl T.Vl T.Bp.b .nil bB (ae (ao (aa 0) af) (ae (ao (aa 0) af) (ae (aM (ae (ao (aa 0) af) (ae (ao (aa 0) af) ag))) ag)))))) aG) (ar (aH (bq (aa 1) aQ) (au (aA (lr T.Wm (Zz T) hr.m rfl T.Vm T.Bs.b .nil bB (ae (ao (aa 0) af) (ae (ao (aa 0) af) (ae (ao (aa 0) af) ag)))))) aG) (ar (aH (bq (aa 1) aQ) (au (aA (lr T.Wn (ZC T) hr.m rfl T.Vn T.Bw.b .nil bB (ae (ao (aa 0) af) (ae (ao (aa 0) af) (ae (ao (aa 0) af) ag)))))) aG) (au (aA (lr T.Wo (ZG T) hr.m rfl T.Vo T.Bz.b .nil bB (ae (ao (aa 0) af) (ae (ao (aa 0) af) (ae (ao (aa 0) af) (ae (ao (aa 0) af) ag))))))))))))),?_⟩;cases tr with
 | turn t =>
  rfl';refine aI hp ?_;refine aI hp ?_;intro x dx hx iT cC;have mk:=qu (C:=T.fe) (fs:=[]) hx iT cC;refine⟨x,dx,t,rfl,aq,λz=>absurd hg z,λhk=>⟨rfl,?_⟩⟩;refine q x _ (λb o e=>?_) ⟨dx,aq⟩;have e2:=(ah.refl H:ah H _) _ _ e;rw[aF (λz=>by rw[z,hx] at e2;cases e2)];exact mk _ _ e2
 | pace i j l h =>
  rfl';refine aI hp ?_;refine aI hp ?_;refine aI hp ?_;refine aI hp ?_;refine aI hp ?_;refine⟨aX,λy hy=>?_⟩;have sy:=ak (o:=.tup [ev l,ev h]) hy;have ey:upd H y (.tup [ev l,ev h]) y=some (.tup [ev l,ev h]):=aq;intro x dx hx iT cC;have mk:=qu (C:=T.dj) (fs:=[]) hx iT cC;refine⟨x,dx,i,j,_,rfl,aq,λz=>absurd hg z,λhk=>⟨rfl,?_⟩⟩;refine q x _ (λb o e=>?_) ⟨dx,y,aq,by rw[aF (λz=>by rw[<- z,ey] at hx;cases hx)];exact mk _ _ ey⟩;have e2:=(sy:ah H _) _ _ e;rw[aF (λz=>by rw[z,hx] at e2;cases e2)];exact mk _ _ e2
 | stay i j l h =>
  rfl';refine aI hp ?_;refine aI hp ?_;refine aI hp ?_;refine aI hp ?_;refine aI hp ?_;refine⟨aX,λy hy=>?_⟩;have sy:=ak (o:=.tup [ev l,ev h]) hy;have ey:upd H y (.tup [ev l,ev h]) y=some (.tup [ev l,ev h]):=aq;intro x dx hx iT cC;have mk:=qu (C:=T.dB) (fs:=[]) hx iT cC;refine⟨x,dx,i,j,_,rfl,aq,λz=>absurd hg z,λhk=>⟨rfl,?_⟩⟩;refine q x _ (λb o e=>?_) ⟨dx,y,aq,by rw[aF (λz=>by rw[<- z,ey] at hx;cases hx)];exact mk _ _ ey⟩;have e2:=(sy:ah H _) _ _ e;rw[aF (λz=>by rw[z,hx] at e2;cases e2)];exact mk _ _ e2
 | over i j s =>
  rfl';refine aI hp ?_;refine aI hp ?_;refine aI hp ?_;refine aI hp ?_;intro x dx hx iT cC;have mk:=qu (C:=T.dC) (fs:=[]) hx iT cC;refine⟨x,dx,i,j,_,rfl,aq,λz=>absurd hg z,λhk=>⟨rfl,?_⟩⟩;refine q x _ (λb o e=>?_) ⟨dx,aq⟩;have e2:=(ah.refl H:ah H _) _ _ e;rw[aF (λz=>by rw[z,hx] at e2;cases e2)];exact mk _ _ e2
 | under i j s =>
  rfl';refine aI hp ?_;refine aI hp ?_;refine aI hp ?_;refine aI hp ?_;intro x dx hx iT cC;have mk:=qu (C:=T.dD) (fs:=[]) hx iT cC;refine⟨x,dx,i,j,_,rfl,aq,λz=>absurd hg z,λhk=>⟨rfl,?_⟩⟩;refine q x _ (λb o e=>?_) ⟨dx,aq⟩;have e2:=(ah.refl H:ah H _) _ _ e;rw[aF (λz=>by rw[z,hx] at e2;cases e2)];exact mk _ _ e2
 | rose i j l h =>
  rfl';refine aI hp ?_;refine aI hp ?_;refine aI hp ?_;refine aI hp ?_;refine aI hp ?_;intro x dx hx iT cC;have mk:=qu (C:=T.dQ) (fs:=[]) hx iT cC;refine⟨x,dx,i,j,l,h,rfl,aq,λz=>absurd hg z,λhk=>⟨rfl,?_⟩⟩;refine q x _ (λb o e=>?_) ⟨dx,aq⟩;have e2:=(ah.refl H:ah H _) _ _ e;rw[aF (λz=>by rw[z,hx] at e2;cases e2)];exact mk _ _ e2
theorem cf.abc{B:ab6}{H H':Hp}{y p:ab6}{e t u d m:Int}{tb:Tb}{kvs:List (List Key × V)}{s:P2}(ob:∃ dx,H y=some (.ins B dx (xP e t u d m p)))(hp:H p=some (.dT kvs))(hA:bh H kvs tb)(sb:SameBut p H H')(dX:H' p=some (.dT (iI kvs (spot s.1 s.2)))):cf B H' y e t u d m p (jU tb s) :=
 let ⟨dx,hx⟩:=ob
 ⟨⟨dx,sb y _ (λz=>by rw[z,hp] at hx;cases hx) hx⟩,_,dX,bh.drop (hA.imp λv a b z=>z.fr (SameBut.fr sb hp))⟩
theorem abd{K:abU}{H:Hp}{v:V}{o:P2}(h:cV H v o):Dat K H v (.tuple [.int o.1,.int o.2]):=let ⟨a,e,ha⟩:=h;e ▸ .tup (aj.of ha) (.cons (.int _) (.cons (.int _) .nil))
theorem abe(qs:List P2):Gd 2 (.list (qs.map λo=>PyData.tuple [.int o.1,.int o.2])):=.lst λd hd=>by obtain⟨o,y,rfl⟩:=ab7.mp hd;exact .of rfl
theorem Mq{K:abU}{H:Hp}{l:ab6}{zs:List V}{qs:List P2}(h:H l=some (.lst zs))(p:bR H zs qs):Dat K H (.ref l) (.list (qs.map λo=>PyData.tuple [.int o.1,.int o.2])):=.lst (ai.of h) (lF.Hn (λy y r=>abd r) p)
theorem eF.fr{T:aB}{H H':Hp}{x:ab6}{tr:Tr}(h:eF T H x tr)(F:Fr H H'):eF T H' x tr:=by
 cases tr
 case stay=>obtain⟨dx,p,a,b⟩:=h;exact⟨dx,p,F _ (.ins _ _ _) (λy z=>nomatch z) a,F _ (.tup _) (λy z=>nomatch z) b⟩
 case pace=>obtain⟨dx,p,a,b⟩:=h;exact⟨dx,p,F _ (.ins _ _ _) (λy z=>nomatch z) a,F _ (.tup _) (λy z=>nomatch z) b⟩
 all_goals (obtain⟨dx,a⟩:=h;exact⟨dx,F _ (.ins _ _ _) (λy z=>nomatch z) a⟩)
def abf(G:Hp)(w:ab6)(e t:Int)(tb:Tb)(ss:List P2)(σ0:Option V->St)(i:Nat)(σ:St)(H1:Hp):Prop:=(∃ z,σ=σ0 z)/\lJ [w] G H1/\∃ eL,TabAt H1 w eL/\bK e t eL/\(∀ r∈eL,r∈tb)/\∀ s∈ss.drop i,s∈eL.map (·.1)
theorem abg(T:aB):aP 39 T.qR (oU K):=by
 refine ig ir ?_;rintro g g g s H g g g hr ⟨a,ns,rfl,hS,hn,q⟩;refine⟨_,(ar (aJ 1 ir.nd (aK (Xm T) hr (ae (aa 0) ag))) (ar (aJ 1 ir.nd (aM (ae (ao (aa 1) af) (ae (ao (aa 1) af) (ae (ao (aa 1) af) (ae (ao (aa 1) af) (ae (bT (yO rfl) (by rfl) T.nv mG (ae af (ae (ao (aa 1) af) ag))) (ae (ao (aa 1) af) ag)))))))) (ar (aJ 2 ir.nd (aK (Xo T) hr (ae (aa 0) (ae (aa 1) (ae (aK (Xi T) hr (ae (aa 0) ag)) ag))))) (ar (aJ 3 ir.nd (aK (Xu T) hr (ae (aa 0) (ae (aa 1) (ae (aa 2) ag))))) (ar (cU adV rfl (cE (pO sk (vA (Hb rfl) (by rfl) T.nu mH (ae (ao (aa 3) af) ag)) (mD (aD bW af (aD E1 (ao (aa 1) af) af))) vD)) (cv 4 ir.nd) (au (dm (Ae (dW hr) (ao (aa 3) af) (aa 4) ⟨rfl,rfl,rfl,rfl⟩)))) (ar (aJ 5 ir.nd (aK (X5 T) hr (ae (aa 3) ag))) (ar (aJ 6 ir.nd (aK (aa6 T) hr (ae (aa 0) (ae (aa 2) (ae (ao (aa 1) af) ag))))) (ar (aJ 7 ir.nd (aK (abb T) hr (ae (aa 6) ag))) (ar (aJ 8 ir.nd (dO (Mn T) hr (ae (aa 3) (ae (aa 5) (ae (aa 6) (ae (aa 7) ag)))))) (ar (aH (bZ (b9 (ao (aa 8) af))) (au (aA cM)) aG) (ar (aJ 9 ir.nd (vA EM (by rfl) T.nu mH (ae (ao (aa 8) af) ag))) (ar (aH (tW (bT He (by rfl) T.cH vK (ae (ao (aa 3) af) ag)) af) (ar (aJ 4 ir.nd (ao (vA (Hb rfl) (by rfl) T.nu mH (ae (ao (aa 3) af) ag)) (aK (dR T) hr (ae (aa 0) (ae af (ae af (ae (bT He (by rfl) T.cH vK (ae (ao (aa 3) af) ag)) ag))))))) (ar (dm (eV (aa 5) T.bF T.WN (XA T) hr.m T.BL.b .nil gF (ae (ao (aa 4) af) (ae (ao (aa 4) af) ag)))) (ar (dm (Ae (dW hr) (ao (aa 3) af) (aa 4) ⟨rfl,rfl,rfl,rfl⟩)) (au (aH (bZ (b9 (ao (dO (Mn T) hr (ae (aa 3) (ae (aa 5) (ae (aa 6) (ae (aa 7) ag))))) af))) (au (aA cM)) aG))))) aG) (au (aA (fk (eG (Qw hr.units) (ao (aa 8) af) (aa 9) (cI _)) (ff (dO (aa9 T) hr (ae (aa 7) (ae (aa 3) ag))))))))))))))))))),?_⟩;refine aC (λσ H1=>∃ (r:ab6) (e t u d m f:Int),σ=[some (.ref a),some (.ref r),none,none,none,none,none,none,none,none]/\ah H H1/\H1 r=some (.tup (uA e t u d m f))/\qU e t u d m f) (λN hN=>?_) ?_
 .exact⟨a,ns,rfl,hS,hn,λr e t u d m f H1 s1 dk sh=>hN _ _ ⟨r,e,t,u,d,m,f,rfl,s1,dk,sh⟩⟩
 rintro g yR σ H0 ⟨r0,e,t,u,d,m0,f,rfl,s0,cc,mj⟩;subst yR;refine aC (λσ H1=>∃ (r:ab6) (m:Int),σ=[some (.ref a),some (.ref r),none,none,none,none,none,none,none,none]/\ah H H1/\H1 r=some (.tup (uA e t u d m f))/\qU e t u d m f) (λN hN=>?_) ?_
 .rfl';refine ay (aj.of cc) rfl (ay (aj.of cc) rfl (ay (aj.of cc) rfl (ay (aj.of cc) rfl (ay (aj.of cc) rfl ⟨_,rfl,ay (aj.of cc) rfl ⟨by decide,λp hp=>?_⟩⟩))));obtain⟨z1,z2⟩:=mj.hm;have:=mj.he;exact hN _ _ ⟨p,_,rfl,s0.trans (ak hp),aq,mj.he,mj.ht,mj.het,mj.hu,mj.hd,by split<;>lia,mj.hf⟩
 clear mj cc s0;rintro g yR σ H1 ⟨r,m,rfl,s1,dk,sh⟩;subst yR;refine aC (λσ H2=>∃ (c:ab6) (cs:List Int),σ=[some (.ref a),some (.ref r),some (.ref c),none,none,none,none,none,none,none]/\ah H1 H2/\H2 c=some (.lst (cs.map V.int))/\cs.length=t.toNat) (λN hN=>?_) ?_
 .rfl';refine⟨a,ns,rfl,s1.seq hS,hn,λn H2 s2=>?_⟩;exact⟨a,r,ns,e,t,u,d,m,f,n,rfl,(s1.trans s2).seq hS,hn,aj.of (s2 _ _ dk),sh,λc cs H3 s3 g hc br g=>hN _ _ ⟨c,cs,rfl,s2.trans s3,hc,br⟩⟩
 rintro g yR σ H2 ⟨c,cs,rfl,s2,mC,br⟩;subst yR;have S2:=s1.trans s2;refine aC (λσ H3=>∃ (wr w:ab6) (tb:Tb),σ=[some (.ref a),some (.ref r),some (.ref c),some (.ref wr),none,none,none,none,none,none]/\ah H2 H3/\H3 wr=some (.tup [.int e,.int t,.int (f * u),.int (f * d),.int m,.ref w])/\TabAt H3 w tb/\bK e t tb/\∀ r∈tb,ba r.2.1 r.2.2=false) (λN hN=>?_) ?_
 .rfl';refine⟨a,r,c,ns,cs,e,t,u,d,m,f,rfl,S2.seq hS,hn,aj.of (s2 _ _ dk),sh,ai.of mC,br,λv w tb H3 s3 g hW az g el=>?_⟩;obtain⟨wr,rfl,h1,h2⟩:=hW;exact hN _ _ ⟨wr,w,tb,rfl,s3,h1,h2,az,el⟩
 rintro g yR σ H3 ⟨wr,w,tb,rfl,s3,hwr,hT,hot,el⟩;subst yR;have S3:=S2.trans s3;have et:=KW sh;have hff:=sh.hf;have bH:c7 e t (f * u) (f * d) m:=⟨sh.he,sh.ht,aeB (by lia) sh.hu.1,aeB (by lia) sh.hd.1,sh.hm.1,sh.hm.2⟩
 obtain⟨he,ht,u0,d0,m0,me⟩:=id bH;have kZ:=Ju hot (by lia) (by lia);have iA:=(s2.trans s3) _ _ dk;have uF:=s3 _ _ mC;have Mr:=S3.seq hS;generalize f * u=U at bH hwr u0;generalize f * d=D at bH hwr d0;clear s1 s2 s3 S2 S3 hS mC dk;refine aC (λσ H4=>∃ z gx,σ=[some (.ref a),some (.ref r),some (.ref c),some (.ref wr),z,none,none,none,none,none]/\lJ [w] H3 H4/\TabAt H4 w gx/\bK e t gx/\∀ r∈gx,ba r.2.1 r.2.2=false) (λN hN=>?_) ?_
 .obtain⟨kw,hkw,pf⟩:=id hT;rfl';refine ay (aj.of hwr) (v:=.ref w) rfl ⟨w,rfl,kw,hkw,λl1 ys h1 jx=>?_⟩;have u1:=ak (o:=.lst ys) h1;refine ay (aj.of (u1 _ _ iA)) (v:=.int t) rfl ⟨_,rfl,vN (by decide),_,ai.of aq,λp1 fF=>?_⟩;obtain⟨n,en⟩:∃ n:Nat,6-t / 6=(n:Int):=⟨(6-t / 6).toNat,by lia⟩
  rw[en,zS];have P0:bR H3 ys (tb.map (·.1)):=pf.qq jx;have us:=u1.trans (ak (o:=.lst (ys.drop n)) fF);have dY:upd (upd H3 l1 (.lst ys)) p1 (.lst (ys.drop n)) p1=some (.lst (ys.drop n)):=aq;have pw:p1≠w:=λz=>by rw[z,u1 _ _ hkw] at fF;cases fF
  generalize upd (upd H3 l1 (.lst ys)) p1 (.lst (ys.drop n))=G at us dY;have pG:∀ H1,lJ [w] G H1->ai K H1 p1 (ys.drop n):=λH1 b=>ai.of (b p1 _ (by simpa using pw) dY);have nt:∀ (z:ab6) (zs:List V),G z=some (.tup zs)->z∉[w]:=λz zs hz=>by simpa using λy=>by rw[y,us _ _ hkw] at hz;cases hz
  refine⟨⟨_,ai.of dY⟩,gD (xs:=ys.drop n) (abf G w e t tb ((tb.map (·.1)).drop n) (λz=>[some (.ref a),some (.ref r),some (.ref c),some (.ref wr),z,none,none,none,none,none])) ⟨⟨_,rfl⟩,λg g g z=>z,tb,hT.same us,hot,λg z=>z,λs hs=>List.mem_of_mem_drop (by simpa using hs)⟩ (λi σ H1 _ ⟨_,b,_⟩=>pG H1 b) ?_ ?_⟩
  .rintro i v σ H5 hv ⟨⟨z,rfl⟩,b5,Df,⟨k5,Dg,Ms⟩,yn,Dh,Di⟩;rw[aef] at hv;obtain⟨s,hs,ka,rfl,hka⟩:=P0.get hv;have qk:((tb.map (·.1)).drop n)[i]?=some s:=by rw[aef];exact hs
   obtain⟨il,ei⟩:=ab0.mp qk;have ed:((tb.map (·.1)).drop n).drop i=s::((tb.map (·.1)).drop n).drop (i+1):=by rw[acQ il,ei]
   have nd:(((tb.map (·.1)).drop n).drop i).Nodup:=List.Sublist.nodup ((aiV _ _).trans (aiV _ _)) hot.1;rw[ed] at nd Di;have abh:=b5 ka _ (nt _ _ (us _ _ hka)) (us _ _ hka);have abi:=b5 wr _ (nt _ _ (us _ _ hwr)) (us _ _ hwr);obtain⟨rw5,nA,ers⟩:=ab7.mp (Di s (.head _));obtain⟨vw,hvw,g⟩:=(Ms.val s).2 _ (by rw[<- ers];exact jd yn.1 nA);rfl';refine ay (aj.of abi) (v:=.ref w) rfl ⟨w,rfl,.inr ⟨k5,.inl Dg⟩,k5,Dg,spot s.1 s.2,abh,vw,hvw,?_⟩;have F6:Fr H5 (upd H5 w (.dT (iI k5 (spot s.1 s.2)))):=qr Dg;refine⟨⟨_,rfl⟩,λz o hz ez=>?_,jU Df s,⟨_,aq,bh.drop (s:=s) (Ms.imp λg g g z=>z.fr F6)⟩,yn.drop,λr hr=>Dh r (acv.mp (by unfold jU at hr;exact hr)).1,λs2 h2=>?_⟩
   .rw[aF (by simpa using hz)];exact b5 z o hz ez
   .obtain⟨r2,jy,e2⟩:=ab7.mp (Di s2 (.tail _ h2));refine ab7.mpr ⟨r2,?_,e2⟩;unfold jU;refine acv.mpr ⟨jy,?_⟩;have:r2.1≠s:=λz=>(ac9.mp nd).1 (by rw[<- z,e2];exact h2);simpa using this
  .rintro σ H5 ⟨⟨z,rfl⟩,b5,Df,hT5,yn,Dh,g⟩;exact hN _ _ ⟨_,Df,rfl,λz o hz ez=>b5 z o hz (us _ _ ez),hT5,yn,λr hr=>el r (Dh r hr)⟩
 rintro g yR σ H4 ⟨z4,gx,rfl,b4,o7,rq,cr4⟩;subst yR;have D3:Ag H3 [w]:=by obtain⟨ks,jx,g⟩:=hT;exact Hi jx
 have F4:=b4.fr D3;have Dj:=F4 _ (.tup _) (λg z=>nomatch z) hwr;have uH:=F4 _ (.tup _) (λg z=>nomatch z) iA;have hc4:=F4 _ (.lst _) (λg z=>nomatch z) uF;have Dk:ai K H4 a (ns.map V.int):=Rz Mr F4;have l2:=Ju rq (by lia) (by lia);clear b4 D3 F4 hwr iA uF Mr hT hot el kZ;refine aC (λσ H5=>∃ (x p:ab6),σ=[some (.ref a),some (.ref r),some (.ref c),some (.ref wr),z4,some (.ref x),none,none,none,none]/\ah H4 H5/\H4 p=none/\cf T.aT H5 x e t U D m p gx) (λN hN=>?_) ?_
 .exact⟨.ref wr,w,e,t,U,D,m,gx,rfl,⟨wr,rfl,Dj,o7⟩,bH,rq,by lia,cr4,λx p H5 s5 g fp hB=>hN _ _ ⟨x,p,rfl,s5,fp,hB⟩⟩
 rintro g yR σ H5 ⟨x,p,rfl,s5,fp,Mt⟩;subst yR;have wp:w≠p:=λz=>by obtain⟨ks,jx,g⟩:=o7;rw[z,fp] at jx;cases jx
 refine aC (λσ H6=>∃ tp tr,σ=[some (.ref a),some (.ref r),some (.ref c),some (.ref wr),z4,some (.ref x),some (.ref tp),none,none,none]/\ah H4 H6/\ah H5 H6/\H6 tp=some (.tup (nD tr))/\dS tr/\ck tr<t) (λN hN=>?_) ?_
 .rfl';refine ay (aj.of (s5 _ _ uH)) rfl ⟨a,c,ns,cs,f,rfl,s5.seq Dk,hn,s5 _ _ hc4,⟨by lia,by lia⟩,hff,λtp tr H6 s6 gf hg hf=>hN _ _ ⟨tp,tr,rfl,s5.trans s6,s6,gf,hg,by lia⟩⟩
 rintro g yR σ H6 ⟨tp,tr,rfl,s6,Mu,Dl,hg,hf⟩;subst yR;refine aC (λσ H7=>∃ v,σ=[some (.ref a),some (.ref r),some (.ref c),some (.ref wr),z4,some (.ref x),some (.ref tp),some (.ref v),none,none]/\ah H4 H7/\ah H6 H7/\eF T H7 v tr) (λN hN=>?_) ?_
 .exact⟨tp,tr,rfl,Dl,hg,λv H7 s7 hv=>hN _ _ ⟨v,rfl,s6.trans s7,s7,hv⟩⟩
 rintro g yR σ H7 ⟨v,rfl,s7,Dm,Dp⟩;subst yR;have Mv:=Mu.trans Dm;have Dq:=Mt.same Mv;have Dr:dE H7 (.ref wr) w e t U D m gx:=⟨wr,rfl,s7 _ _ Dj,o7.same s7⟩
 have Ds:=Dm _ _ Dl;have Mw:=s7.seq Dk;clear Mt Dj o7 Dl Dk s5 s6 Mu Mv Dm s7 fp;refine aC (λσ H8=>∃ fo k ys ss,σ=[some (.ref a),some (.ref r),some (.ref c),some (.ref wr),z4,some (.ref x),some (.ref tp),some (.ref v),some (.ref fo),none]/\ah H7 H8/\H8 fo=some (.tup [.bl true,.ref k])/\H8 k=some (.lst ys)/\bR H8 ys ss) (λN hN=>?_) ?_
 .rfl';exact⟨x,p,w,v,tp,.ref wr,e,t,U,D,m,tr,gx,rfl,Dq,Dr,bH,rq,by lia,Ds,Dp,hg,hf,λfo k ys ss H8 s8 hfo hk hP=>hN _ _ ⟨fo,k,ys,ss,rfl,s8,hfo,hk,hP⟩⟩
 rintro g yR σ H8 ⟨fo,k,ys,ss,rfl,s8,yo,Dt,Mx⟩;subst yR;refine aC (λσ H9=>σ=[some (.ref a),some (.ref r),some (.ref c),some (.ref wr),z4,some (.ref x),some (.ref tp),some (.ref v),some (.ref fo),none]/\H9=H8) (λN hN=>?_) ?_
 .refine aI yo ?_;exact hN _ _ ⟨rfl,rfl⟩
 rintro g yR σ H9 ⟨rfl,rfl⟩;subst yR;refine aC (λσ rm=>∃ kc,σ=[some (.ref a),some (.ref r),some (.ref c),some (.ref wr),z4,some (.ref x),some (.ref tp),some (.ref v),some (.ref fo),some (.ref kc)]/\ah H9 rm/\rm kc=some (.lst ys)) (λN hN=>?_) ?_
 .rfl';exact ay (aj.of yo) rfl ⟨_,rfl,_,.inl (ai.of Dt),λkc hkc=>hN _ _ ⟨kc,rfl,ak hkc,aq⟩⟩
 rintro g yR σ rm ⟨kc,rfl,mf,Du⟩;subst yR;have mh:=s8.trans mf;have ym:=Dq.same mh;have Dv:=Dr.same mh;have My:=mh _ _ Ds;have Dw:=Dp.same mh;have Dx:=mf _ _ yo;have Dy:=mf _ _ Dt;have Dz:=bR.same Mx mf;have Mz:=mh.seq Mw;clear s8 mf mh Dq Dr Ds Dp yo Dt Mx Mw;refine aC (λσ nE=>∃ z DA,σ=[some (.ref a),some (.ref r),some (.ref c),some (.ref wr),z,some (.ref x),some (.ref tp),some (.ref v),some (.ref fo),some (.ref kc)]/\dE nE (.ref wr) w e t U D m DA/\eF T nE v tr/\nE fo=some (.tup [.bl true,.ref k])/\nE k=some (.lst ys)/\nE kc=some (.lst ys)/\bR nE ys ss) (λN hN=>?_) ?_
 .obtain⟨g,er,hR,kw,hkw,pf⟩:=id Dv;cases er;obtain⟨⟨dx,hx⟩,kp,hkp,DB⟩:=id ym;refine Jt λB hB=>?_;rfl';refine ay (aj.of hR) (v:=.ref w) rfl ⟨w,rfl,kw,hkw,aU (λh0=>?_) λg=>hN _ _ ⟨_,gx,rfl,Dv,Dw,Dx,Dy,Du,Dz⟩⟩;subst hB;refine aC (λσ G1=>∃ ka rr,σ=[some (.ref a),some (.ref r),some (.ref c),some (.ref wr),some (.ref ka),some (.ref x),some (.ref tp),some (.ref v),some (.ref fo),some (.ref kc)]/\ah rm G1/\G1 ka=some (.tup [.int rr.1.1,.int rr.1.2])/\rr∈gx) (λN2 uW=>?_) ?_
  .rfl';refine ay (aj.of hR) (v:=.ref w) rfl ⟨w,rfl,kw,hkw,λl1 zs h1 jx=>?_⟩;have u1:=ak (o:=.lst zs) h1;have P0:bR rm zs (gx.map (·.1)):=pf.qq jx;have pl:=P0.len;have wl':=pf.len;rw[abT] at pl;refine ay (aj.of (u1 _ _ hR)) (v:=.ref w) rfl ⟨w,rfl,kw,u1 _ _ hkw,a,ns,13,10177,_,rfl,u1.seq Mz,hn,⟨by decide,by decide⟩,by decide,by lia,λi i0 i1=>?_⟩;obtain⟨j,rfl⟩:=Int.eq_ofNat_of_zero_le i0;have hj:j<zs.length:=by lia
   have hv:=abW hj;obtain⟨s0,MA,ka,abj,hka⟩:=P0.get hv;rw[aca] at MA;obtain⟨rr,hrr,rfl⟩:=acC.mp MA;refine bJ (ai.of aq) (dq hv) ?_;rw[abj];exact uW _ _ ⟨ka,rr,rfl,u1,u1 _ _ hka,ace hrr⟩
  rintro g yR σ G1 ⟨ka,rr,rfl,u1,DC,nA⟩;subst yR;obtain⟨vv,hvv,g⟩:=(DB.val rr.1).2 _ (jd rq.1 nA);obtain⟨vw,hvw,g⟩:=(pf.val rr.1).2 _ (jd rq.1 nA);have C6:=u1 _ _ hR;have abk:=u1 _ _ hkw;have DD:=u1 _ _ hkp;have kG:=u1 _ _ hx;have abl:=DB.imp λv a b z=>aO.same z u1;have abm:=pf.imp λv a b z=>aO.same z u1;have abn:=u1 _ _ My;have qF:=Dw.same u1;have abo:=u1 _ _ Dx;have ix:=u1 _ _ Dy;have abp:=u1 _ _ Du;have hP1:=bR.same Dz u1;clear hR hkw hkp hx DB pf My Dw Dx Dy Du Dz ym Dv Mz u1;refine aC (λσ nF=>σ=[some (.ref a),some (.ref r),some (.ref c),some (.ref wr),some (.ref ka),some (.ref x),some (.ref tp),some (.ref v),some (.ref fo),some (.ref kc)]/\SameBut p G1 nF/\nF p=some (.dT (iI kp (spot rr.1.1 rr.1.2)))) (λN2 uW=>?_) ?_
  .rfl';exact⟨_,_,kG,rfl,ay (aj.of DC) rfl (ay (aj.of DC) rfl ⟨x,p,e,t,U,D,m,rr.1.1,rr.1.2,kp,rfl,⟨⟨dx,kG⟩,DD⟩,λz=>absurd (hvv.symm.trans z) (λz=>nomatch z),λv9 g nF sb DE=>uW _ _ ⟨rfl,sb,DE⟩⟩)⟩
  rintro g yR σ nF ⟨rfl,sb,DE⟩;subst yR;have yq:Fr G1 nF:=SameBut.fr sb DD;have MB:=cf.abc (s:=rr.1) ⟨dx,kG⟩ DD abl sb DE;have MC:=yq _ (.tup _) (λg z=>nomatch z) C6;have abq:=yq _ (.tup _) (λg z=>nomatch z) DC;have DF:=sb w _ wp abk;have abr:=abm.imp λv a b z=>z.fr yq;refine aC (λσ mn=>σ=[some (.ref a),some (.ref r),some (.ref c),some (.ref wr),some (.ref ka),some (.ref x),some (.ref tp),some (.ref v),some (.ref fo),some (.ref kc)]/\upd nF w (.dT (iI kw (spot rr.1.1 rr.1.2)))=mn) (λN2 uW=>?_) ?_
  .rfl';exact ay (aj.of MC) (v:=.ref w) rfl ⟨w,rfl,.inr ⟨kw,.inl DF⟩,kw,DF,spot rr.1.1 rr.1.2,abq,vw,hvw,uW _ _ ⟨rfl,rfl⟩⟩
  rintro g yR σ mn ⟨rfl,DG⟩;subst yR;have uX:Fr nF mn:=DG ▸ qr DF;have w13:mn w=some (.dT (iI kw (spot rr.1.1 rr.1.2))):=by rw[<- DG];exact aq
  have p13:TabAt mn p (jU gx rr.1):=MB.tb.fr uX λg z=>by rw[<- DG,aF (acY wp)];exact z
  have FF:Fr G1 mn:=yq.trans uX;have MD:ye G1 mn:=λa xs z=>FF _ (.tup _) (λg z=>nomatch z) z;have B13:=MB.now uX p13;have ME:dE mn (.ref wr) w e t U D m (jU gx rr.1):=⟨wr,rfl,uX _ (.tup _) (λg z=>nomatch z) MC,_,w13,bh.drop (s:=rr.1) (abr.imp λv a b z=>z.fr uX)⟩
  have ok2:bK e t (jU gx rr.1):=rq.drop;have n2:(jU gx rr.1).length<=gx.length:=acE _ _;have abt:bR mn ys ss:=hP1.imp λg g z=>let ⟨a,e,h⟩:=z;⟨a,e,MD _ _ h⟩;refine⟨x,p,w,v,tp,.ref wr,e,t,U,D,m,tr,_,rfl,B13,ME,bH,ok2,by lia,MD _ _ abn,qF.fr FF,hg,hf,λfo2 k2 ys2 ss2 H14 rA abu g g=>?_⟩;refine aI abu ?_;exact hN _ _ ⟨_,_,rfl,ME.same rA,(qF.fr FF).same rA,rA _ _ (FF _ (.tup _) (λg z=>nomatch z) abo),rA _ _ (FF _ (.lst _) (λg z=>nomatch z) ix),rA _ _ (FF _ (.lst _) (λg z=>nomatch z) abp),bR.same abt rA⟩
 rintro g yR σ nE ⟨z5,DA,rfl,abv,abw,abx,aby,abz,MF⟩;subst yR;rfl';refine ay (aj.of abx) rfl (RG (Mq aby MF) (Mq abz MF) (abe _) (by decide) ?_);exact⟨w,v,.ref wr,e,t,U,D,m,tr,DA,rfl,abv,u0,d0,abw,hg,λnF g=>q _⟩
end
theorem abA{K:abU}{h:aek}{mg:Str->Option ab1}{x:Str}{n:Int}{t:Tok}(X:K.In h)(G:h.Ns ady mg)(z:akk K ady x=some (some (.int n t))):∃ t,mg x=some (.int n t):=⟨t,aj5 X G z⟩
theorem fin{l:ahH}{w:ado}{K:abU}{mg:Str->Option ab1}{fa:ab6}(hfa:mg "law" = some (.ref fa))(T:Tx K mg):∃ fd:aeO,(∀ (s:ab9)(v:ab1),aiJ s fd ⟨[v],[]⟩ [("_law_script",v)])/\∀ base:aek,K.In base->base.Ns ady mg->eI l.prog w K mg base (dM l.prog w) 39 fa fd ["_law_script"] (oU K):=by cases hfa.symm.trans T.qR.m;exact⟨_,T.qR.bt ir,λy y y=>WY abg T⟩
theorem walk{l:ahH}{q:acK}{loose:List Str}{XP:(Str->Option ab1)->aek->Prop}{YP:ado->aek->Prop}{d:DefRec}{K:Params->abU}(hn:l.most=some 63)(hdf:d.params.defaults=[])
 (hY:∀ (w:ado) (h:aek),YP w h->(K w.params).In h)
 (F:∀ (w:ado) (mg:Str->Option ab1) (fa:ab6) (h:aek),(K w.params).In h->h.Ns ady mg->mg d.name=some (.ref fa) ->
   ∃ fd:aeO,(∀ (s:ab9) (u:ab1),aiJ s fd ⟨[u],[]⟩ [("_law_script",u)])/\∀ base:aek,(K w.params).In base->base.Ns ady mg->eI l.prog w (K w.params) mg base (dM l.prog w) 39 fa fd ["_law_script"] (oU (K w.params))) :
 ajX q loose XP YP l.row.toRowW d [] (λf vs=>PySem.call f vs) :=
 Gz.QY (k:=39) (x := "_law_script") (CX:=λw=>dM l.prog w) (sp:=λw=>oU (K w.params)) hn hdf ⟨rfl,by decide,by decide⟩ hY F (λy y a ns hl hS=>⟨a,ns,rfl,hS,hl,λy=>rfl⟩) λy y y y y z=>OS z
end kX
local macro_rules | `(tactic| walk_at "gzin") => `(tactic| first | (show _ = _; k_is) | (refine' And.intro ?y7 ?y8; (case y7 => walk_at "gzin"); (case y8 => walk_at "gzin")))
local macro_rules | `(tactic| walk_at "f") => `(tactic| (refine' Gz.Fb.mk ?y1 ?y2 ?y3 ?y4; (case y1 => first | (show _ = _; k_is) | (refine' ⟨?y5, ?y6⟩; (case y5 => k_is); (case y6 => k_is))); (case y2 => k_is); (case y3 => k_is); (case y4 => k_is)))
local macro_rules | `(tactic| walk_at "gzfi") => `(tactic| (refine' Gz.Fb.mk ?y1 ?y2 ?y3 ?y4; (case y1 => walk_at "gzin"); (case y2 => k_is); (case y3 => k_is); (case y4 => k_is)))
local macro_rules | `(tactic| walk_at "x") => `(tactic| (refine' Gz.XC.mk ?y1 ?y2 ?y3 ?y4 ?y5 ?y6; (case y1 => k_exc); (case y2 => k_is); (case y3 => k_is); (case y4 => k_is); (case y5 => k_is); (case y6 => k_is)))
local macro_rules | `(tactic| walk_at "gzic") => `(tactic| first | exact Gz.oz.i | (refine' Gz.j5.i ?y9; (case y9 => (intro f h; first | exact h.1 | exact h.2 | exact h.2.1 | exact h.2.2.1 | exact h.2.2.2.1 | exact h.2.2.2.2.1 | exact h.2.2.2.2.2))))
local macro_rules | `(tactic| walk_at "gzem") => `(tactic| (refine' Gz.Py ?y1 ?y2 ?y3 ?y4; (case y1 => k_is); (case y2 => k_is); (case y3 => k_is); (case y4 => k_is)))
local macro_rules | `(tactic| walk_at "gzgl") => `(tactic| (refine' kX.abA (by assumption) (by assumption) ?y0; (case y0 => k_is)))
namespace PySem.W.Fast
def Z:=Nat
def tw6681282194833602626:=Z
def tw3302326826366027908:=Z
def tw16535424845770750357:=Z
def tw7279946886223201139:=Z
def tw16189871804026615805:=Z
def tw15004819732287292443:=Z
def tw11236059331116705385:=Z
def tw18094949981705418800:=Z
def tw3604230868068062418:=Z
def tw14050431943363360959:=Z
def tw2846687154558057536:=Z
def tw3495016017438463491:=Z
def tw11753558295685610239:=Z
def tw1640388688041269086:=Z
def tw8410773236457257461:=Z
def tw15374594852074214516:=Z
def tw12219876277194085337:=Z
def tw2790286904554618488:=Z
def tw10944062600231672722:=Z
def tw17738104273296687577:=Z
def tw2021317839922732668:=Z
def tw6705899708538395051:=Z
def tw14893283296797098739:=Z
def tw2043582678996143132:=Z
def tw14945836209938696394:=Z
def tw1944126152119022350:=Z
def tw4471379870590684423:=Z
def tw17837171495807473713:=Z
def tw10021165274100365207:=Z
def tw10242942582800617506:=Z
def tw10692487603313261917:=Z
def tw16472744177713314623:=Z
def tw5833620227967608527:=Z
def tw4623890476902945378:=Z
def tw3738948324844935142:=Z
def tw13409416101894600078:=Z
def tw3070887405199150911:=Z
def tw1315190074629786115:=Z
def tw12729663320431298970:=Z
def tw13816817268234087759:=Z
def tw9902104581907662054:=Z
def tw17770592883314548537:=Z
def tw15622744344362419012:=Z
def tw5993602788664156970:=Z
def tw5200176332897523439:=Z
def tw3781178770453194908:=Z
def tw16276194963069444711:=Z
def tw2937130189816157089:=Z
def tw16809180003189282627:=Z
def tw10667916838413586453:=Z
def tw4018065659385353208:=Z
def tw6001690747376089282:=Z
def tw12118507617951548944:=Z
def tw2637164674487702903:=Z
def tw9245698892725359769:=Z
def tw17110302799275061608:=Z
def tw3713134165565114093:=Z
def tw11216218520175274260:=Z
def tw16640142875417707484:=Z
def tw6001999262530654812:=Z
def tw7476162296522830655:=Z
def tw2408384295488445275:=Z
def tw3557828026038389967:=Z
def tw17445986074848697148:=Z
def tw6227984072994363594:=Z
def tw16491817523878326634:=Z
def tw15706955649326447093:=Z
def tw10967567609291593086:=Z
def tw2944441589530665086:=Z
def tw10892076523557313670:=Z
def tw9044275158623639977:=Z
def tw1501967412615876782:=Z
def tw12744748589565750165:=Z
def tw7372279616855011732:=Z
def tw18296286710399313794:=Z
def tw17694202830003918686:=Z
def tw3150007386511240037:=Z
def tw12542073054676122561:=Z
def tw13460084083597608531:=Z
def tw18096297573043225299:=Z
def tw8931080576640240864:=Z
def tw3086464733038584113:=Z
def tw773943436913705518:=Z
def tw10857927987091939895:=Z
def tw9335380066093122971:=Z
def tw16947400376578870272:=Z
def tw487068026448688229:=Z
def tw7591109094583709910:=Z
def tw2415133268423141771:=Z
def tw12491087156777200265:=Z
def tw8090079278047511036:=Z
def tw12215846063334787761:=Z
def tw12587377831048465972:=Z
def tw1687015720569776970:=Z
def tw10363044196464892873:=Z
def tw10294562853715060993:=Z
def tw15864597295032113529:=Z
def tw10309418639621188775:=Z
def tw6669967484330460616:=Z
def tw5918979741662218289:=Z
def tw13888047164427165587:=Z
def tw9846758212913477224:=Z
def tw15965591266924430886:=Z
def tw7003654961299116030:=Z
def tw9764616297840127934:=Z
def tw6951038849524546738:=Z
def tw9587911200224345111:=Z
def tw10946084147022663598:=Z
def tw7701865278789493277:=Z
def tw12147621600320606708:=Z
def tw5397741764232915145:=Z
def tw5318084583582953717:=Z
def tw13124189544055680140:=Z
def tw11755278388423959868:=Z
def tw16908523308932752204:=Z
def tw17885370111434308230:=Z
def tw14026767165644207889:=Z
def tw16052258329147154967:=Z
def tw17246352815645584484:=Z
def tw12689931315724135390:=Z
def tw6530975363164727213:=Z
def tw17451486926320542465:=Z
def tw11662393266545360034:=Z
def tw4723549517568638005:=Z
def tw10036215964526404936:=Z
def tw1759388735451825818:=Z
def tw1543579784580360548:=Z
def tw15889708883586370413:=Z
def tw18377688144124268755:=Z
def tw16443472681183022810:=Z
def tw7115569529140881868:=Z
def tw2593342663892498465:=Z
def tw5829431919550041448:=Z
def tw3090303766211727985:=Z
def tw3072191330814086828:=Z
def tw13255145361114260011:=Z
def tw9578066090264843830:=Z
def tw6878461607898699590:=Z
def tw790220745816320733:=Z
def tw2785717153731042039:=Z
def tw9984757925399108740:=Z
def tw18234577696597675932:=Z
def tw327853805079263480:=Z
def tw8519151525048275166:=Z
def tw12238943015485273685:=Z
def tw8668251606198157835:=Z
def tw1645341158791337951:=Z
def tw5571628005336083989:=Z
def tw6976869270325566865:=Z
def tw22995330777964049:=Z
def tw6356242986250988598:=Z
def tw5753353864029654914:=Z
def tw3135693439617578133:=Z
def tw461949425942235575:=Z
def tw9522854468524666398:=Z
def tw9266553818265764446:=Z
def tw14522808708054184370:=Z
def tw3355947213820785363:=Z
def tw7530326129225898534:=Z
def tw5413703739685295712:=Z
def tw14024680713753018170:=Z
def tw13800725716846924923:=Z
def tw1341361248176490513:=Z
def tw16439547683276962159:=Z
def tw2558574691171123040:=Z
def tw17691847749009256951:=Z
def tw17533668704106349269:=Z
def tw1010634612286526636:=Z
def tw1256737394410953068:=Z
def tw9217279083913593537:=Z
def tw1242757898218738019:=Z
def tw1939922797875376284:=Z
def tw17806792124253057352:=Z
def tw15018324641803688901:=Z
def tw276896642901847914:=Z
def tw4418958247375016888:=Z
def tw13342638175481778106:=Z
def tw5787378130845308813:=Z
def tw11343234852011618543:=Z
def tw5527070023039182590:=Z
def tw5931640628728900500:=Z
def tw3784664900514951152:=Z
def tw10131288436405547948:=Z
def tw15591147446063788537:=Z
def tw1879774400428545902:=Z
def tw15335878104259026458:=Z
def tw4475734600707267808:=Z
def tw12146435326727784519:=Z
def tw5562517476418015811:=Z
def tw12942388600077895651:=Z
def tw18193259597181844246:=Z
def tw1667624560839100805:=Z
def tw5565020268466973727:=Z
def tw5565603356421605661:=Z
def tw16676462025368713686:=Z
def tw17441537671670527011:=Z
def tw3906367495427895751:=Z
def tw4955630622457546916:=Z
def tw16674868844104688378:=Z
def tw8496602401703617721:=Z
def tw3777030287459392884:=Z
def tw11627072218322490501:=Z
def tw8517745536903398752:=Z
def tw723126778151818476:=Z
def tw15874186076216806637:=Z
def tw13855055031073340391:=Z
def tw13378731714790846420:=Z
def tw15043644735655122556:=Z
def tw6341330617395303123:=Z
def tw4430956101384733095:=Z
def tw12504520630650711300:=Z
def tw6316407028996825482:=Z
def tw14564069237563801085:=Z
def tw2527032133453338442:=Z
def tw2563826203323858893:=Z
def tw7407423828878501304:=Z
def tw12075892313600236788:=Z
def tw12485820475371910568:=Z
def tw3895472041152299003:=Z
def tw17506118624774867233:=Z
def tw6247230886527385583:=Z
def tw10372089836793456480:=Z
def tw15362447590745758450:=Z
def tw17718357778468736333:=Z
def tw1358452092292636021:=Z
def tw1028708046807800780:=Z
def tw17955717749182663262:=Z
def tw6054460643355295451:=Z
def tw12576287288691581506:=Z
def tw6410868509680981456:=Z
def tw8030766185694004935:=Z
def tw2201856153410432623:=Z
def tw1414210758337553337:=Z
def tw5910525978499966259:=Z
def tw13074286481617060673:=Z
def tw14114616157357336133:=Z
def tw7138709453002037549:=Z
def tw11354735584030605905:=Z
def tw6071139515477623678:=Z
def tw5007724002680494144:=Z
def tw9048275030637000430:=Z
def tw8640992274213480724:=Z
def tw11034081957002558042:=Z
def tw18438677109196425493:=Z
def tw10477478264188568394:=Z
def tw1473792846979162101:=Z
def tw10084575309261162477:=Z
def tw15070583452180370346:=Z
def tw13413769499906653024:=Z
def tw8729106291920858206:=Z
def tw3535856949661868884:=Z
def tw5182848900328420347:=Z
def tw15823801362079828724:=Z
def tw12165084927128318732:=Z
def tw487483008109934726:=Z
def tw12288162166383428466:=Z
def tw16752871516468819207:=Z
def tw13916596381614282675:=Z
def tw4094383202372862634:=Z
def tw11889674012259229662:=Z
def tw2829778672284393452:=Z
def tw2233649024670436929:=Z
def tw4949103016512331400:=Z
def tw5946059549434743927:=Z
def tw4016348011838689361:=Z
def tw5077632375668544473:=Z
def tw5311533583972066181:=Z
def tw16185709110046004013:=Z
def tw3429853777221663872:=Z
def tw12511237435396932377:=Z
def tw314358409012177876:=Z
def tw561833821664277114:=Z
def tw9726068793509831793:=Z
def tw11999255544512079059:=Z
def tw14714811374567247993:=Z
def tw10315009674013618655:=Z
def tw14822795148801945688:=Z
def tw11161152141432159023:=Z
def tw4347989278240907563:=Z
def tw14472359619160530397:=Z
def tw10437284553595925151:=Z
def tw7093595350756683153:=Z
def tw11735952657158317157:=Z
def tw17816431719326272036:=Z
def tw6530033247728887743:=Z
def tw9373430461403385376:=Z
def tw1475967871046821581:=Z
def tw13694525161964651373:=Z
def tw15204902537677161440:=Z
def tw4980520131875657630:=Z
def tw1626544961995177423:=Z
def tw7415327898767452561:=Z
def tw8123865729244492068:=Z
def tw6058456452526507884:=Z
def tw9037246575242807634:=Z
def tw4491676738561261796:=Z
def tw4563736512878958580:=Z
def tw6119982403414958498:=Z
def tw10560996368580030003:=Z
def tw16953476949028121327:=Z
def tw12693337455639771825:=Z
def tw8998772276260448074:=Z
def tw17083041539713115432:=Z
def tw4321152256954526833:=Z
def tw1950747294961600490:=Z
def tw12212222129445034186:=Z
def tw17487715232229009407:=Z
def tw8559629837876866942:=Z
def tw3235587948047172270:=Z
def tw14740072604354269374:=Z
def tw6892509788224721031:=Z
def tw4770983869023236035:=Z
def tw9266469659348854910:=Z
def tw18211213562187599706:=Z
def tw8953232382122804577:=Z
def tw3199135364785917344:=Z
def tw365599231268831705:=Z
def tw9814255899268307517:=Z
def tw18404610169295975055:=Z
def tw5049023737578032927:=Z
def tw11306730748831031423:=Z
def tw9561009768708800451:=Z
def tw5285728244808822587:=Z
def tw7019869759055548179:=Z
def tw15400165014421542340:=Z
def tw15498266733457617942:=Z
def tw15970081827484266950:=Z
def tw13394419854024740507:=Z
def tw2710382601632139464:=Z
def tw10559496523527615552:=Z
def tw1312511120796970644:=Z
def tw2407797040798831987:=Z
def tw11534304051308398104:=Z
def tw1878482132190824578:=Z
def tw7622589106947163254:=Z
def tw12573859042416739230:=Z
def tw17601090773552466529:=Z
def tw8791324429782885809:=Z
def tw5348933582737103516:=Z
def tw14332476308533401947:=Z
def tw16226802016652952350:=Z
def tw13239924232951866417:=Z
def tw2992262467123942463:=Z
def tw9469576801901138205:=Z
def tw7280195873595604952:=Z
def tw1529743543725915749:=Z
def tw15131674326158676447:=Z
def tw18194084117444828797:=Z
def tw2439088747911254253:=Z
def tw3714047521580581628:=Z
def tw16956725596764726007:=Z
def tw3681858908618272011:=Z
def tw16735621278606528933:=Z
def tw9033927294858520093:=Z
def tw12073504687873724553:=Z
def tw4091152363977204785:=Z
def tw939495453977291383:=Z
def tw8761418971568427820:=Z
def tw1701744559548386454:=Z
def tw17218667788766661571:=Z
def tw2238875299649302845:=Z
def tw4557269748925172816:=Z
def tw6333320332205804484:=Z
def tw4766355662115889339:=Z
def tw18245948904880586374:=Z
def tw13430575004801049858:=Z
def tw13681549225550390743:=Z
def tw1478048853982064206:=Z
def tw1841604389879657741:=Z
def tw7193675612017417054:=Z
def tw1634325853615439981:=Z
def tw2955708691240673250:=Z
def tw421125147121616368:=Z
def tw623752704635939545:=Z
def tw574185378863918046:=Z
def tw14532797298392682303:=Z
def tw7427135696999824496:=Z
def tw172302094980295906:=Z
def tw4798309602918684478:=Z
def tw11743921952569354121:=Z
def tw3205375140941691175:=Z
def tw10517808807313471471:=Z
def tw1917057442574863992:=Z
def tw2092032511168494707:=Z
def tw9070325116303414180:=Z
def tw10370368625749661512:=Z
def tw2037849546818585631:=Z
def tw6980162223198039344:=Z
def tw3155005138507993119:=Z
def tw14174294801902193607:=Z
def tw10723356565560144306:=Z
def tw13580066459515040911:=Z
def tw1515937098728746401:=Z
def tw6558050261593110826:=Z
def tw12367342104012654612:=Z
def tw4161253572068902854:=Z
def tw3379087455156595410:=Z
def tw4167655738342623592:=Z
def tw15793080415748804650:=Z
def tw5151656381026962454:=Z
def tw17777767845997110832:=Z
def tw8807016715002392577:=Z
def tw6678702929300182542:=Z
def tw17277457856981775283:=Z
def tw778292115783233548:=Z
def tw14410237396506639602:=Z
def tw4100574017893395702:=Z
def tw2698988753404913577:=Z
def tw9107168394319945873:=Z
def tw7662765487516442340:=Z
def tw14089570863507560719:=Z
def tw5412491838119725315:=Z
def tw17253478393177165706:=Z
def tw657321714195750688:=Z
def tw1630731968038355664:=Z
def tw11093632699836370793:=Z
def tw10555501528434519910:=Z
def tw1447965470313106208:=Z
def tw7422943295007832662:=Z
def tw9022676005990332820:=Z
def tw17957054813620727566:=Z
def tw5474056502021927803:=Z
def tw689688653925408099:=Z
def tw17880109527173773421:=Z
def tw708588431376812881:=Z
def tw16777977051191970605:=Z
def tw2322379790232994149:=Z
def tw16391494446580759398:=Z
def tw7505230187845212153:=Z
def tw1471509681658967587:=Z
def tw9093288272411453702:=Z
def tw12185619191802842481:=Z
def tw5170998650086161238:=Z
def tw1920371467669275660:=Z
def tw12575375161289393186:=Z
def tw13082419626446944454:=Z
def tw12803730893980001425:=Z
def tw11720174333429669890:=Z
def tw5182031576165525042:=Z
def tw6274176159391264748:=Z
def tw5426759192473961520:=Z
def tw16895273583051217185:=Z
def tw9608734440041773842:=Z
def tw4822222135497105473:=Z
def tw16792755614225219802:=Z
def tw4398401619655186097:=Z
def tw15066288315809285542:=Z
def tw10926197331122513032:=Z
def tw16397659562418456912:=Z
def tw3631270415336457698:=Z
def tw15481232726375588978:=Z
def tw7873851289250916916:=Z
def tw5273684579378012562:=Z
def tw5955715923296717738:=Z
def tw4842942473500763397:=Z
def tw8520909183292133083:=Z
def tw13106754238614878156:=Z
def tw1696887260628862571:=Z
def tw16174836089738476633:=Z
def tw9128083915579627390:=Z
def tw16346051600633107952:=Z
def tw17753635847603942186:=Z
def tw13757621582941790827:=Z
def tw9929954187342332628:=Z
def tw13743458828100678739:=Z
def tw13079632845608801922:=Z
def tw390268974634062784:=Z
def tw15591196632665238402:=Z
def tw17601418501373421395:=Z
def tw8763752373910937349:=Z
def tw13302244876925854604:=Z
def tw9483585363147814875:=Z
def tw9559840760648645824:=Z
def tw500462273158268704:=Z
def tw11972308776548708193:=Z
def tw6992833676297564550:=Z
def tw9126195276820253610:=Z
def tw9243379485354897278:=Z
def tw10119353647011852748:=Z
def tw5654631785241924888:=Z
def tw6403446405111164509:=Z
def tw3095971682331968694:=Z
def tw3541793343073011050:=Z
def tw17728324189723306650:=Z
def tw9138558354498422528:=Z
def tw10644947015610484760:=Z
def tw7699738748998685022:=Z
def tw4246380934140122743:=Z
def tw14176662756570303330:=Z
def tw4117209012295917356:=Z
def tw5244455193057121669:=Z
def tw8234046071087749685:=Z
def tw14676269451753704002:=Z
def tw11901486118583329131:=Z
def tw16053743522709140018:=Z
def tw4513755360270230524:=Z
def tw3451005404983559620:=Z
def tw6750576208155042264:=Z
def tw301814263873668680:=Z
def tw8529755745855863238:=Z
def tw588558777337406835:=Z
def tw7452823580399364855:=Z
def tw13964146386249289123:=Z
def tw7813710200798965950:=Z
def tw1474164654819898313:=Z
def tw7859346276977177979:=Z
def tw16922549881951845797:=Z
def tw8343249535130837129:=Z
def tw14221090620502619995:=Z
def tw14327236481525964508:=Z
def tw15078521758594484606:=Z
def tw432797850644561886:=Z
def tw2236701697251819679:=Z
def tw15522294024743905328:=Z
def tw11572851066697068758:=Z
def tw11013013698185545125:=Z
def tw1642078931159249098:=Z
def tw5188630432776743711:=Z
def tw23157982417072723:=Z
def tw16997844649969091671:=Z
def tw15653812242281896754:=Z
def tw3490608983447933028:=Z
def tw10775921692031098266:=Z
def tw1016645619457369723:=Z
def tw9270431583116418940:=Z
def tw14245199984644201155:=Z
def tw17254047846225377599:=Z
def tw16164044236533156440:=Z
def tw14621492155378994327:=Z
def tw8869076152374344919:=Z
def tw6650927664897761599:=Z
def tw16197878333515749774:=Z
def tw3323079404140055328:=Z
def tw12830955597118325068:=Z
def tw12048589774583930913:=Z
def tw4256429141420350621:=Z
def tw12533624208481799442:=Z
def tw9206549265465737759:=Z
def tw11860121658106219656:=Z
def tw2438840210114568947:=Z
def tw14816745806469543956:=Z
def tw11196943638027095472:=Z
def tw7056499292384408760:=Z
def tw4240128351661376665:=Z
def tw15578426392660831974:=Z
def tw4578397253123651827:=Z
def tw9335611977862813118:=Z
def tw12908006612029518054:=Z
def tw13641293549816328335:=Z
def tw457876245307231277:=Z
end PySem.W.Fast
open PySem PySem.W PyProof.Rows
set_option maxRecDepth 100000 in
set_option maxHeartbeats 0 in
theorem PySem.Challenge.cw_gaze_k66_whole_reasons_holds : PySem.Challenge.rw_gaze_k66_whole_reasons.Holds := by
 w_on;o_law;k_head;(case hw=>w_witness2)
 k_fill
 refine kX.walk (l:=PySem.Challenge.rw_gaze_k66_whole_reasons) rfl rfl (λw h Y=>PySem.W.kIn_of Y) ?F
 case F =>
  intro w mg fa h KX G hmg;refine' kX.fin hmg (kX.Tx.mk ..)
  rotate_left 15
  iterate 15 (refine' PySem.W.mg_of (by assumption) (by assumption) ?_; k_is)
  iterate 67 (refine' Gz.A7.c ?_ (by assumption) (by assumption); walk_at "f")
  iterate 30 (refine' Gz.oz.c ?_; walk_at "f")
  iterate 3 (refine' Gz.j5.c ?_; walk_at "gzfi")
  iterate 17 (refine' PySem.W.mg_none_of (by assumption) (by assumption) ?_; k_is)
  iterate 8 (refine' L2.cN.mk ?_ ?_ ?_ ?_ <;> k_is)
  iterate 25 (show _ = _; k_is)
  iterate 8 (refine' Gz.Vh ?_ ?_ ?_; k_is; walk_at "gzic"; k_is)
  iterate 35 (refine' Gz.Vg ?_; walk_at "gzic")
  (refine' Gz.Vi ?_ ?_ ?_; k_is; k_is; refine' Gz.j5.j ?_; intro f h; first | exact h.1 | exact h.2 | exact h.2.1 | exact h.2.2.1 | exact h.2.2.2.1 | exact h.2.2.2.2.1 | exact h.2.2.2.2.2)
  iterate 5 walk_at "x"
  iterate 2 walk_at "gzem"
  iterate 4 kit_is
  iterate 3 walk_at "gzgl"
#print axioms PySem.Challenge.cw_gaze_k66_whole_reasons_holds
