import PyProof.Rows.All
import Wide.All
import OpenK.AllK
import Wide.FinOn
import Lean
import PyProof.EqAt
import PyProof.EqKinds
import PyProof.TupleCall
import KE.KSortAsk
import KE.KSortTup
import KE.KRevIter
import KE.LcSums
import KE.KDictSum
import KE.KDictList
import PyProof.AttrMissHeap
import PySem.Challenge.RW_gaze_k42_suspects
set_option Elab.async false
set_option linter.all false
set_option maxRecDepth 100000
set_option maxHeartbeats 4000000
set_option exponentiation.threshold 2000
open PySem renaming wpAny_bind → acA, Value → acC, wpAny_pure → acD, Shared → acF, Addr → acJ, mainGlobals → acR, wpAny → ac0, Program → ac2, sizeLine → adb, FuncData → adg, lookup_relabel_local → ado, codeAny_builtin → ads, starEach → adv, World → adw, wpAny_mono → adz, Around → adD, wpAny_truthy_bool → adF, wpAny_holding → adK, wpAny_newObj_type → adN, bootBuiltins → adR, plainId_quiet → adT, wpAny_tryCatch → ad0, wpAny_seqItems → ad9, intItems → aed, wpAny_call_entry → aek, compareOp → aem, Heap → aer, wpAny_Call_Name_kw → aeu, wpAny_letGo → aew, sysModules → aeA, wpAny_setState_of → aeD, wpAny_updateSeq → aeG, wpAny_ite_split → aeI, wpAny_comprehension_free → aeJ, wpAny_typeNameOfWhole_keyiter → aeK, wpAny_callSpecial?_slot → aeP, wpAny_dictEntries → aeU, letOwnedTupleGo → aeW, sizeLine_eq → aeY, mem_of_lookup → aeZ, DictEntry → ae0, argBest → ae1, Expr → ae4, wpAny_missedRemoval_other → aff, compEnvC → afg, foldedSetIterable → afh, codeAny → afi, wpAny_typeNameOf_keyiter → afm, behindInMarks → afr, richCompare → afw, wpAny_isInstance → afA, tupleKind_room_in1 → afE, SetTable → afF, Builtin → afH, seqItems? → afI, size_of_entries → afK, codeAny_call_builtin → afS, Stmt → afU, backTo → afV, pyNext → afW, PyData → afX, wpAny_fieldsOf → afZ, wpAny_eqBool_int → af4, wpAny_askSetting → af8, cLine → age, wpAny_passesOwn → agg, attributeBase → agh, codeAny_compStart_list → ago, wpAny_pyIter_list → agr, list_append → agv, wpAny_rule → agw, newFunctionEnv → agA, wpAny_setField → agB, isSubtype_type → agD, tupleKind → agE, rawInt → agF, codeAny_mono → agG, wpAny_isOneOf_keyiter → agJ, Scope → agN, wpAny_forIn_list → agR, wpAny_of_eq → agZ, wpAny_setEntries_of → ag4, wpAny_richCompare_same_room → ag5, firstArgMember → ahi, assignEach → ahm, Result → ahp, wpAny_call → ahq, wpAny_pyIter_slot → ahw, searchCouldBeSeen → ahz, wpAny_standAt → ahC, binaryOp → ahD, NameKind → ahE, wpAny_attempt → ahJ, wpAny_newList → ahK, wpAny_pyNext_range_end → ahT, wpAny_pyIter_rangeiter → ahU, numAt → ahX, codeAny_compLoop_tests → ahY, wpAny_isTrue_Compare1 → ah3, wpAny_execs_nil → ah4, swapsWith → ah5, wpAny_specialOf → aia, updateSeq → aib, exec_Assign_Name_used → aif, wpAny_notOrdered_dict → aii, wpAny_dictEpoch → aik, builtinLookup_eq_fast → aio, typeIs_int → ais, call_meets → ait, wpAny_newFunctionEnv → aiw, wpAny_pyIter_keyiter → aiz, argsOk → aiB, IsRangeIter → aiH, keywordEach → aiI, atKey → aiK, intItems_at → aiM, wpAny_pyIter_tuple → aiT, wpAny_pyIter_range → aiU, eval_ListComp → aiX, wpAny_tupleItemsOf → ai3, entryOfKey → ai7, builtinsNs → ai8, valueAt → ajb, newList → aje, wpAny_pyIter_enum → ajf, ofAClassStatement → ajj, wpAny_storeSet_of → ajk, richCompare_gives → ajl, Within → ajo, seqIndex_neg → ajr, wpAny_execs_cons → ajt, checkBuiltinCall → ajw, compPost → ajK, getMethod → ajN, BindsTo → ajO, seqIndex_of → ajP, callerA → ajR, notedBy → ajW, typeLookup_type → aj3, codeAny_of_tree → aj4, ItemsAre → aj8, isTrue → akb, wpAny_Name → akc, closureFor → ake, setsByText → akh, reduceHash → aki, isInstance → akj, intKind → akl, GenState → akm, backToKw → akn, Keyword → ako, getItem → akp, entryFor → aks, Paired → akw, CmpOp → akx, pyIter → aky, pickOrder → akG, hashInt → akI, standAt → akK, bindL → akL, bindC → akM, setNext → akN, Fin → akR
open PySem.W renaming Frag → acB, keepIn → acO, codeIn → acS, nsIn → acU, fnOf → acW, mg_of → acY, findIn → ac6, mg_none_of → adO, kia_one → aeg, emptyDict → aen, kitOne → aet, isFn → aeQ, instObj → aeV, mroIn → afM, plainGet → af5, hasDictIn → ags, plainGet_of → agV, callWith_K → aha, lookIn → ahf, methodObj → ahl, plainOver → aho, cellsFrom_some → ahV, hideAll → ah1, takerIn → ah6, makesIn → ah7, methodCall_KW → ah8, OpenLaw → aih, KdlSrc → aiC, hideAll_get → aiG, of_hideAll → aiR, excIn → ai4, kitx_list → ai9, kitx_dict → aja, handedIn → aju, kas_sort → ajC, kas_item → ajD, kat_snds → ajE, kitMeta → ajS, KatTups → ajT, kas_ask → ajY, kat_run → ajZ, WalkO → akt
open PySem.Heap renaming get?_push_of_some → acE, lt_size → acK, get?_update_other → acM, get?_push_size → acT, get?_update_self → adB, size_push → aeE, size_update → ajF
open List renaming getElem?_eq_getElem → acG, getD_eq_getElem?_getD → acH, length_map → acI, mem_append_right → acL, mem_cons → acN, mem_map → acQ, getElem?_eq_some_iff → acX, mem_of_getElem? → acZ, size_toArray → ac4, mem_cons_of_mem → ac5, map_cons → ac7, range → adh, mem_append → adj, all_eq_true → adk, length_append → adl, getElem?_map → adn, mem_filter → adp, nil_append → adq, getElem?_toArray → adt, mem_range → ady, filterMap_cons → adA, length_singleton → adC, mem_cons_self → adE, mem_singleton → adG, filter_cons → adI, nodup_cons → adP, getElem_of_mem → adQ, replicate → adU, mem_append_left → adW, pairwise_cons → adY, getElem_mem → adZ, pairwise_iff_getElem → ad1, getElem?_eq_none_iff → ad2, length_filter_le → ad5, length_cons → ad8, take_succ → aea, take_length → aeb, getElem?_cons_succ → aee, getElem?_append_left → aeh, toArray → aep, length_range → aeq, find?_cons → aev, lookup_cons → aex, getElem?_append_right → aez, filter_sublist → aeB, map_append → aeH, not_mem_nil → aeL, any_cons → aeN, length_eq_zero_iff → aeO, map_map → aeR, append_assoc → aeT, length_pos_of_mem → ae3, any_eq_true → ae9, length_replicate → afa, getElem?_eq_none → afb, take_append_drop → afc, drop_eq_getElem_cons → afe, length_nil → afk, length_erase_of_mem → afp, lookup → aft, getElem?_replicate → afu, map_congr_left → afy, mem_iff_getElem? → afJ, mem_erase_of_ne → afT, ext_getElem → af7, mem_filterMap → agf, range_succ → agm, reverse_cons → agu, ext_getElem? → agy, nodup_nil → agC, contains_iff_mem → agL, map_id' → agM, length_take → agO, pairwise_append → agT, append_nil → agW, map_nil → ahb, getElem?_drop → ahc, contains_cons → ahd, getElem?_zip_eq_some → ahh, mem_drop_iff_getElem → ahj, mem_take_iff_getElem → ahk, any_eq_false → ahn, pairwise_map → aht, push_toArray → ahv, nodup_append → ahA, eraseIdx_cons_succ → ahI, getElem_inj → ahN, cons_append → ahO, mem_flatMap → ahR, getElem?_set_self → ahS, drop_eq_nil_of_le → ah0, of_mem_zip → ah9, foldl_cons → aic, filterMap_append → aim, perm_append_comm → ain, getElem?_set_ne → aiu, mem_of_mem_take → aiA, length_reverse → aiJ, getElem?_range → aiN, filter_eq_self → aiO, toList_toArray → aiP, filter_append → ai2, foldl_append → ajg, reverse_perm → ajm, all_eq_false → ajn, all_map → ajs, drop_length → ajy, map_snd_zip → ajB, getElem_map → ajG, perm_middle → ajH, map_reverse → ajI, mem_reverse → ajJ, length_set → ajQ, all_append → aj6, all_cons → akq, map → akv
open Bool renaming false_eq_true → acP, false_ne_true → ac9, and_eq_true → aej, eq_iff_iff → aeX, not_true → afd, or_eq_true → afl, false_and → ahe, eq_false_iff → ahu, and_self → ahH, true_and → ahM, not_false → aiE, and_true → aiY, false_or → akr
open Nat renaming le_trans → acV, le_refl → ac1, lt_of_lt_of_le → ac8, ne_of_lt → ade, zero_le → adf, lt_of_le_of_lt → adX, lt_irrefl → aec, le_of_lt_succ → afn, pow_le_pow_right → afR, lt_succ_self → af6, le_of_lt → agb, lt_succ_of_lt → agz, mod_lt → agU, le_succ → agX, ne_of_gt → ag9, lt_trichotomy → ahx, le_add_right → ahQ, le_succ_of_le → ajh, le_of_not_lt → ajv, mul_le_mul → aj9, le_of_eq → akz, add_zero → akC, lt_trans → akD, pow_succ → akE
open PySem.Value renaming ref → ac3, bool → ae6, type → agq, str → aiQ, isInt_shape → ai6, isInt → ajL, float → ajM, isStrOf → akk, bytes → akJ
open PySem.Around renaming under_plainId → ada, under → ajq
open Or renaming inl → adi, inr → aiV
open PySem.F renaming plain_min_loop → adm, plain_max_loop → ad3, entry_min_loop → aef, slot_dict_keyiterator_next → aes, plainAttrs_list → afz, entry_max_loop → afC, args_list_append_2 → afQ, args_dict_keyiterator_next_1 → afY, entry_list_append → af9, entry_dict_keyiterator_next → aga, slot_list_append → agc, type_list_append → agd, slot_list_append → agj, excBase_ValueError → ag7, slot_dict_iter → ahZ, slot_dict_pop → aij, slot_dict_len → ail, plain_set_new → aip, slot_tuple_lt → air, plain_min → ajc, entry_min → ajd, kind_min → ajx, slot_set_iter → aj5
open PySem.PassesOwn renaming never → adu
open Int renaming toNat_natCast → adx, toNat_of_nonneg → ad7, emod_lt_of_pos → agk, emod_nonneg → agY, le_refl → ahF, le_trans → aid, le_antisymm → aie, toNat → aiq, mul_nonneg → aiF, ediv_le_self → ajz, ediv_nonneg → ajU, mul_le_mul → aka, zero_add → akH, mul_sub → akO, neg_mul → akP
open Option renaming map_eq_some_iff → adH, isSome_iff_exists → aeo, getD_some → agQ, isSome_map → ahs, isSome_some → aiW
open PySem.MeetsSeq3 renaming plain_eq_loop → adJ, entry_eq_loop → aeM
open Array renaming getElem?_eq_getElem → adL, length_toList → afs, getD_eq_getD_getElem? → afG, getElem?_eq_none → agp, getElem?_toList → agK, append_assoc → ag8, mem_toList_iff → aiv, forIn_toList → ai0, toList → ajp, toList_inj → ajA, replicate → aj2, ext' → akQ
open PyProof.Rows renaming listItems_at → adM, callWith_type1 → ad4, seqObj → aey, envOfC → ae5, IntsAre → afP, listUpdate_at → agl, callWith_builtin1 → agH, get?_update_seq → ag1, seqEpoch_at → ag2, kindOf → ahr, subscriptTail_builtinR → ahW, AllBare → ah2, mirror_perm → aiL, Constant_none → aiS, list_sort_plain → ajX, entry_list_sort → aj0, mulOk_of_bits → aj7, boot_range → akd, bits_add → akA, bits_mul → akB
open PySem.Builtin.Range renaming rangeSize → adS, rangeFitsLong → ajV
open Ne renaming symm → adV
open PySem.Builtin.Builtins renaming bindParams → ad6
open PySem.SetTable renaming runEnd → aei, leap → ael, insertAt → afq, turns → afB, Probe → af1, advance → ahP, grown → aiD, sizeAbove → ai1, layClean → aji, slot → aku, has → akF
open PySem.Heap.SameBut renaming update → aeC
open Classical renaming byContradiction → aeF, propDecidable → ahL
open PyProof.Rows.F renaming plain_set_update_loop → aeS, entry_set_update_loop → af2
open ForInStep renaming yield → ae2
open False renaming elim → ae7
open PySem.Obj renaming mapSeq → ae8, mapFields → afO, data_mapDictKeys → aiy, data_mapFields → aiZ, putSet → akg
open True renaming intro → afj
open PySem.SetTable.probe renaming go → afo
open PySem.Builtin.Int renaming intBits → afv
open PySem.W.WData renaming weightAll → afx, layable → agI, weight → aix, layableAll → akf
open PySem.Builtin.List renaming listItems → afD, listLengthHint → ag3, listExtendWith → aj1
open PySem.Str renaming ofString → afL
open PySem.PyData renaming eqv → afN, canLayAll0 → agx, depthAll → ag0, canLay0 → ahg, eqvAll → ahG
open PySem.Calls renaming call_function_entry → af0, spliced_cons → agi, callWith_builtin → agn, spliced_nil → agt, evalArgs_plain → agS, Name_function_global → ag6
open PySem.Builtin.Tuple renaming tupleHashOf → af3
open PySem.IsL renaming update → agP
open Function renaming comp_def → ahy
open Sum renaming inl → ahB, inr → ai5
namespace L2
open PySem PySem.Spec PyProof.Rows
noncomputable abbrev Key := Sum Int Str
noncomputable def nj : Key -> acC -> Bool
 | .inl k, v => ajL k v
 | .inr x, v => akk x v
noncomputable def M5 (w : adw) : Key -> Int
 | .inl k => akI k
 | .inr x => hashStr w x
theorem ix : ∀ {k : Key} {v : acC}, nj k v = true -> (∃ i t, k = ahB i /\ v = Value.int i t) ∨ (∃ x t, k = ai5 x /\ v = aiQ x t)
 | .inl i, v, h => by
  obtain ⟨t, e⟩ := ai6 (k := i) (v := v) h
  exact .inl ⟨i, t, rfl, e⟩
 | .inr x, v, h => by
  obtain ⟨t, e⟩ := Value.isStrOf_shape (x := x) (v := v) h
  exact .inr ⟨x, t, rfl, e⟩
theorem M6 (i : Int) (t : Tok) : nj (.inl i) (.int i t) = true := by simp [nj, ajL]
theorem M7 (x : Str) (t : Tok) : nj (.inr x) (.str x t) = true := by simp [nj, akk]
theorem M8 (a b : Int) : decide ((ahB a : Key) = ahB b) = (a == b) := by
 by_cases e : a = b
 ·subst e; simp
 ·have h : ¬ (ahB a : Key) = ahB b := fun q => e (Sum.inl.inj q)
  rw [decide_eq_false h]
  exact (beq_eq_false_iff_ne.mpr e).symm
theorem M9 (a b : Str) : decide ((ai5 a : Key) = ai5 b) = decide (a = b) := by
 by_cases e : a = b
 ·subst e; simp
 ·have h : ¬ (ai5 a : Key) = ai5 b := fun q => e (Sum.inr.inj q)
  rw [decide_eq_false h, decide_eq_false e]
theorem Na (a : Int) (b : Str) : decide ((ahB a : Key) = ai5 b) = false := decide_eq_false (fun q => nomatch q)
theorem Nb (a : Str) (b : Int) : decide ((ai5 a : Key) = ahB b) = false := decide_eq_false (fun q => nomatch q)
noncomputable def dq (prog : ac2) (w : adw) : PySem.KeyKind prog w Key where
 is := nj
 hash := M5 w
 inj := fun v a b ha hb => by
  rcases ix ha with ⟨i, t, rfl, rfl⟩ | ⟨x, t, rfl, rfl⟩
  ·rcases ix hb with ⟨j, u, rfl, e⟩ | ⟨y, u, rfl, e⟩
   ·injection e with e1 _; rw [e1]
   ·exact nomatch e
  ·rcases ix hb with ⟨j, u, rfl, e⟩ | ⟨y, u, rfl, e⟩
   ·exact nomatch e
   ·injection e with e1 _; rw [e1]
 byValue := fun k v h => by
  rcases ix h with ⟨i, t, rfl, rfl⟩ | ⟨x, t, rfl, rfl⟩ <;> rfl
 pyHash := fun hv h => by
  rcases ix hv with ⟨i, t, rfl, rfl⟩ | ⟨x, t, rfl, rfl⟩
  ·exact wpAny_pyHash_int h
  ·exact wpAny_pyHash_str h
 eqBool := fun hu hv h => by
  rcases ix hu with ⟨i, t, rfl, rfl⟩ | ⟨x, t, rfl, rfl⟩
  ·rcases ix hv with ⟨j, u, rfl, rfl⟩ | ⟨y, u, rfl, rfl⟩
   ·rw [M8] at h; exact af4 h
   ·rw [Na] at h; exact SeqAt.EqAt.int_str i t y u _ _ _ _ h
  ·rcases ix hv with ⟨j, u, rfl, rfl⟩ | ⟨y, u, rfl, rfl⟩
   ·rw [Nb] at h; exact SeqAt.EqAt.str_int x t j u _ _ _ _ h
   ·rw [M9] at h; exact wpAny_eqBool_str h
 «strs» := fun k x t v h => by
  rcases ix h with ⟨i, u, rfl, e⟩ | ⟨y, u, rfl, e⟩
  ·exact nomatch e
  ·injection e with e1 _
   subst e1
   cases v <;> rfl
theorem Nc (prog : ac2) (w : adw) (i : Int) (t : Tok) : (dq prog w).is (.inl i) (.int i t) = true := M6 i t
theorem Nd (prog : ac2) (w : adw) (x : Str) (t : Tok) : (dq prog w).is (.inr x) (.str x t) = true := M7 x t
end L2
namespace L2
open PySem PySem.Spec PyProof.Rows
inductive V where
 | non | bl (b : Bool) | int (i : Int) | str (x : Str) | byt (b : Array UInt8) | flt (b : UInt64) | ref (a : acJ) | ty (n : String)
 deriving DecidableEq
noncomputable def RelV : V -> acC -> Prop
 | .non, u => u = Value.none
 | .bl b, u => u = ae6 b
 | .int i, u => ∃ t, u = Value.int i t
 | .str x, u => ∃ t, u = aiQ x t
 | .byt b, u => ∃ t, u = akJ b t
 | .flt b, u => ∃ t, u = ajM b t
 | .ref a, u => u = ac3 a
 | .ty n, u => u = agq n
noncomputable abbrev Vals : List V -> List acC -> Prop := akw RelV
theorem Vals.length {xs : List V} {us : List acC} (r : Vals xs us) : xs.length = us.length := Paired.length r
theorem Vals.get : ∀ {xs : List V} {us : List acC} {i : Nat} {x : V}, Vals xs us -> xs[i]? = some x -> ∃ u, us[i]? = some u /\ RelV x u
 | _, _, _, _, .nil, e => by simp at e
 | _, _, 0, _, .cons r _, e => by simp at e; subst e; exact ⟨_, rfl, r⟩
 | _, _, i + 1, x, .cons _ t, e => by
  obtain ⟨u, h1, h2⟩ := Vals.get (i := i) (x := x) t (by simpa using e)
  exact ⟨u, by simpa using h1, h2⟩
theorem Vals.set {x : V} {u : acC} (r : RelV x u) : ∀ {xs : List V} {us : List acC} (i : Nat), Vals xs us -> Vals (xs.set i x) (us.set i u)
 | _, _, _, .nil => .nil
 | _, _, 0, .cons _ t => .cons r t
 | _, _, i + 1, .cons q t => .cons q (Vals.set r i t)
theorem Vals.append : ∀ {xs ys : List V} {us ws : List acC}, Vals xs us -> Vals ys ws -> Vals (xs ++ ys) (us ++ ws)
 | _, _, _, _, .nil, s => s
 | _, _, _, _, .cons r t, s => .cons r (Vals.append t s)
theorem Vals.take : ∀ {xs : List V} {us : List acC} (n : Nat), Vals xs us -> Vals (xs.take n) (us.take n)
 | _, _, 0, _ => .nil
 | _, _, _ + 1, .nil => .nil
 | _, _, n + 1, .cons r t => .cons r (Vals.take n t)
theorem Vals.drop : ∀ {xs : List V} {us : List acC} (n : Nat), Vals xs us -> Vals (xs.drop n) (us.drop n)
 | _, _, 0, r => r
 | _, _, _ + 1, .nil => .nil
 | _, _, n + 1, .cons _ t => Vals.drop n t
noncomputable def cT : Option V -> Option acC -> Prop
 | some v, some u => RelV v u
 | none, none => True
 | _, _ => False
noncomputable def KV {κ : Type} : List (κ × V) -> List (κ × acC) -> Prop := akw fun (p : κ × V) (q : κ × acC) => p.1 = q.1 /\ RelV p.2 q.2
noncomputable def kV : Key -> V
 | .inl i => .int i
 | .inr x => .str x
inductive HO where
 | lst (xs : List V)
 | tup (xs : List V)
 | dK (kvs : List (Key × V)) | dT (kvs : List (List Key × V))
 | set (S : Int -> Bool) (n : Nat)
 | ins (C dx : acJ) (fs : List (Str × V))
 | own (x : acJ)
 | xd (fs : List (Str × V))
 | met (f x : acJ)
 | iy (lo hi : Int)
 | aM (o : Obj) (u : HO)
 | tbl (ps : Array acC)
 | ext (φ : aer -> Prop)
noncomputable abbrev Hp := acJ -> Option HO
noncomputable def upd (H : Hp) (a : acJ) (o : HO) : Hp := fun b => if b = a then some o else H b
theorem aq {H : Hp} {a : acJ} {o : HO} : upd H a o a = some o := by unfold upd; rw [if_pos rfl]
theorem aA {H : Hp} {a b : acJ} {o : HO} (h : b ≠ a) : upd H a o b = H b := by unfold upd; rw [if_neg h]
theorem uO {H : Hp} {a : acJ} {o u : HO} : upd (upd H a o) a u = upd H a u := by
 funext b; unfold upd; split <;> rfl
theorem Ad {H : Hp} {a b : acJ} {o u : HO} (h : H a = some o) (h' : H b = some u) (d : o ≠ u) : a ≠ b := by
 intro e; subst e; rw [h] at h'; exact d (Option.some.inj h')
theorem jc {H : Hp} {a b : acJ} {o : HO} (h : H a = some o) (h' : H b = none) : a ≠ b := by
 intro e; subst e; rw [h] at h'; cases h'
section
variable (P : ac2) (w : adw)
noncomputable def bp (H : Hp) (h : aer) (a : acJ) : HO -> Prop
 | .lst xs => xs.length <= adb /\ ∃ (af : List acC) (n : Nat), Vals xs af /\ h.get? a = some { cls := .type "list", data := .seq af.toArray n }
 | .tup xs => xs.length <= adb /\ ∃ af : List acC, Vals xs af /\ IsTup h a af.toArray
 | .dK kvs => kvs.length <= adb /\ (a == aeA) = false /\ ∃ vs, KV kvs vs /\ h.DictOf (dq P w) a vs
 | .dT kvs => kvs.length <= adb /\ (a == aeA) = false /\ ∃ xs : List (List Key × acJ × acC),
  akw (fun (p : List Key × V) (q : List Key × acJ × acC) => p.1 = q.1 /\ H q.2.1 = some (.tup (p.1.map kV)) /\ RelV p.2 q.2.2) kvs xs /\
  ∃ o es ep, h.get? a = some o /\ o.ExactDict /\ o.data = .dict es ep /\ es.toList = xs.map (ai7 (agE (dq P w))) /\ (xs.map (·.1)).Nodup
 | .set S n => h.SetOf (akl P w) a S n
 | .ins C dx fs => H dx = some (.own a) /\ fs.length <= 1000 /\ dx ≠ a /\ h.get? a = some (aeV C dx) /\
  ∃ mA, h.Ns1 dx mA /\ (∀ f, cT (fs.lookup f) (mA f)) /\ ajo mA (fs.map (·.1))
 | .own _ => ∃ o, h.get? a = some o
 | .xd fs => ∃ mA, h.Ns1 a mA /\ ∀ f, cT (fs.lookup f) (mA f)
 | .iy lo hi => ∃ t u v, h.get? a = some { cls := .type "range", data := .fields #[.int lo t, .int hi u, .int 1 v] }
 | .aM o u => h.get? a = some o /\ bp H h a u
 | .tbl ps => h.get? a = some { cls := .none, data := .fields ps }
 | .met f x => h.get? a = some (ahl (.ref f) (.ref x))
 | .ext φ => φ h /\ (∃ o, h.get? a = some o) /\ ∀ h1 h2 : aer, φ h1 -> (∀ o, h1.get? a = some o -> h2.get? a = some o) -> φ h2
noncomputable def bz (H : Hp) (h : aer) : Prop := ∀ a o, H a = some o -> bp P w H h a o
end
section
variable {P : ac2} {w : adw} {H H' : Hp} {h h' : aer} {a : acJ} {o : HO}
theorem bp.lt (x : bp P w H h a o) : a < h.objs.size := by
 cases o with
 | lst xs => obtain ⟨_, _, _, _, e⟩ := x; exact acK e
 | tup xs => obtain ⟨_, _, _, p⟩ := x; exact p.lt
 | dK kvs => obtain ⟨_, _, _, _, o, _, _, e, _⟩ := x; exact acK e
 | dT kvs => obtain ⟨_, _, _, _, o, _, _, e, _⟩ := x; exact acK e
 | set S n => obtain ⟨o, _, _, _, e, _⟩ := x; exact acK e
 | ins C dx fs => obtain ⟨_, _, _, e, _⟩ := x; exact acK e
 | own y => obtain ⟨_, e⟩ := x; exact acK e
 | xd fs => obtain ⟨_, ⟨_, _, _, e, _⟩, _⟩ := x; exact acK e
 | iy lo hi => obtain ⟨_, _, _, e⟩ := x; exact acK e
 | aM ob u => obtain ⟨e, _⟩ := x; exact acK e
 | tbl ps => exact acK (show h.get? a = some _ from x)
 | met f y => exact acK (show h.get? a = some _ from x)
 | ext φ => obtain ⟨_, ⟨_, e⟩, _⟩ := x; exact acK e
theorem Paired.Ae {α β : Type} {F G : α -> β -> Prop} : ∀ {l₁ : List α} {l₂ : List β}, akw F l₁ l₂ -> (∀ a b, F a b -> G a b) -> akw G l₁ l₂
 | _, _, .nil, _ => .nil
 | _, _, .cons r t, f => .cons (f _ _ r) (Paired.Ae t f)
theorem bp.eE (x : bp P w H h a o) (k : ∀ b u, (b = a ∨ H b = some (.own a)) -> h.get? b = some u -> h'.get? b = some u)
 (ho : ∀ b, H b = some (.own a) -> H' b = some (.own a)) (ht : ∀ b xs, H b = some (.tup xs) -> H' b = some (.tup xs)) : bp P w H' h' a o := by
 induction o with
 | lst xs => obtain ⟨z, af, n, r, e⟩ := x; exact ⟨z, af, n, r, k _ _ (.inl rfl) e⟩
 | tup xs => obtain ⟨z, af, r, ob, e, c⟩ := x; exact ⟨z, af, r, ob, k _ _ (.inl rfl) e, c⟩
 | dK kvs => obtain ⟨z, y, vs, r, ob, es, ep, e, c⟩ := x; exact ⟨z, y, vs, r, ob, es, ep, k _ _ (.inl rfl) e, c⟩
 | dT kvs =>
  obtain ⟨z, y, xs, r, ob, es, ep, e, c⟩ := x
  exact ⟨z, y, xs, Paired.Ae r fun p q z => ⟨z.1, ht _ _ z.2.1, z.2.2⟩, ob, es, ep, k _ _ (.inl rfl) e, c⟩
 | set S n => obtain ⟨ob, es, ep, t, e, c⟩ := x; exact ⟨ob, es, ep, t, k _ _ (.inl rfl) e, c⟩
 | ins C dx fs =>
  obtain ⟨d, z, ne, e, mA, ⟨od, es, ep, e2, c⟩, r⟩ := x
  exact ⟨ho _ d, z, ne, k _ _ (.inl rfl) e, mA, ⟨od, es, ep, k _ _ (.inr d) e2, c⟩, r⟩
 | own y => obtain ⟨ob, e⟩ := x; exact ⟨ob, k _ _ (.inl rfl) e⟩
 | xd fs => obtain ⟨mA, ⟨od, es, ep, e, c⟩, r⟩ := x; exact ⟨mA, ⟨od, es, ep, k _ _ (.inl rfl) e, c⟩, r⟩
 | iy lo hi => obtain ⟨t, u, v, e⟩ := x; exact ⟨t, u, v, k _ _ (.inl rfl) e⟩
 | aM ob u ih => obtain ⟨e, q⟩ := x; exact ⟨k _ _ (.inl rfl) e, ih q⟩
 | tbl ps =>
  have e : h.get? a = some { cls := .none, data := .fields ps } := x
  show h'.get? a = some { cls := .none, data := .fields ps }
  exact k a _ (.inl rfl) e
 | met f y =>
  have e : h.get? a = some (ahl (.ref f) (.ref y)) := x
  show h'.get? a = some (ahl (.ref f) (.ref y))
  exact k a _ (.inl rfl) e
 | ext φ => obtain ⟨p, ⟨o, e⟩, st⟩ := x; exact ⟨st _ _ p fun o q => k _ _ (.inl rfl) q, ⟨o, k _ _ (.inl rfl) e⟩, st⟩
theorem bz.lt (x : bz P w H h) (e : H a = some o) : a < h.objs.size := (x a o e).lt
theorem bz.fresh (x : bz P w H h) (e : h.objs.size <= a) : H a = none := by
 cases q : H a with
 | none => rfl
 | some u => exact absurd (ac8 (x.lt q) e) (aec _)
theorem bz.kept (x : bz P w H h) (k : ∀ b u, h.get? b = some u -> h'.get? b = some u) : bz P w H h' := fun a o e =>
 (x a o e).eE (fun b u _ q => k b u q) (fun _ q => q) fun _ _ q => q
theorem bz.laid (x : bz P w H h) (k : ∀ b u, h.get? b = some u -> h'.get? b = some u) (hp : h.objs.size <= a) (new : bp P w (upd H a o) h' a o) : bz P w (upd H a o) h' := fun b u e => by
 have hn := x.fresh hp
 by_cases hb : b = a
 ·subst hb; rw [aq] at e; cases e; exact new
 ·rw [aA hb] at e
  exact (x b u e).eE (fun c v _ q => k c v q) (fun c q => by rw [aA (jc q hn)]; exact q) fun c xs q => by rw [aA (jc q hn)]; exact q
end
noncomputable def Rd (H : Hp) (a : acJ) (u : HO) : Prop := H a = some u ∨ ∃ o, H a = some (.aM o u)
theorem Rd.of {H : Hp} {a : acJ} {u : HO} (h : H a = some u) : Rd H a u := .inl h
theorem Rd.ok {P : ac2} {w : adw} {H : Hp} {h : aer} {a : acJ} {u : HO} (r : Rd H a u) (x : bz P w H h) : bp P w H h a u := by
 rcases r with r | ⟨o, r⟩
 ·exact x a u r
 ·obtain ⟨_, q⟩ := x a _ r
  exact q
noncomputable def qM : Option HO -> Prop
 | some (.lst _) => True
 | some (.dK _) => True
 | some (.dT _) => True
 | some (.set _ _) => True
 | some (.ins _ _ _) => True
 | some (.ext _) => True
 | _ => False
section
variable {P : ac2} {w : adw} {H : Hp} {h h' : aer} {x e : acJ} {o' : HO}
theorem bz.write (ok : bz P w H h) (mu : qM (H x)) (he : e = x ∨ H e = some (.own x)) (k : ∀ b u, b ≠ e -> h.get? b = some u -> h'.get? b = some u) (nk : ∃ u, h'.get? e = some u)
 (new : bp P w (upd H x o') h' x o') : bz P w (upd H x o') h' := fun b u q => by
 have Gw : ∀ c y, H c = some (.own y) -> c ≠ x := fun c y r z => by subst z; rw [r] at mu; exact mu
 have Nf : ∀ c xs, H c = some (.tup xs) -> c ≠ x := fun c xs r z => by subst z; rw [r] at mu; exact mu
 by_cases hb : b = x
 ·subst hb; rw [aq] at q; cases q; exact new
 ·rw [aA hb] at q
  by_cases hbe : b = e
  ·have q' : H b = some (.own x) := by
    rcases he with z | z
    ·exact absurd (hbe.trans z) hb
    ·rw [hbe]; exact z
   rw [q] at q'; cases q'
   obtain ⟨v, hv⟩ := nk
   exact ⟨v, by rw [hbe]; exact hv⟩
  ·refine (ok b u q).eE (fun c v hc r => k c v ?_ r) (fun c r => by rw [aA (Gw c b r)]; exact r) fun c xs r => by rw [aA (Nf c xs r)]; exact r
   rcases hc with rfl | hc
   ·exact hbe
   ·rintro rfl
    rcases he with z | z
    ·exact Gw c b hc z
    ·rw [hc] at z; cases z; exact hb rfl
end
structure Un (fs ex : List acJ) (H H' : Hp) (h h' : aer) : Prop where
 keep : ∀ b o, h.get? b = some o -> H b = none -> b ∉ fs -> b ∉ ex -> h'.get? b = some o
 slot : ∀ b o, h.get? b = some o -> H b = none -> b ∈ fs -> b ∉ ex -> ∃ sl, h'.get? b = some { o with slots := sl }
 free : ∀ b o, h.get? b = some o -> H b = none -> b ∉ ex -> H' b = none
 there : ∀ b o, h.get? b = some o -> b ∉ ex -> ∃ o', h'.get? b = some o'
 cH : ∀ b xs, H b = some (.tup xs) -> H' b = some (.tup xs)
 cI : ∀ b o u, H b = some (.aM o u) -> H' b = some (.aM o u)
 cU : ∀ b ps, H b = some (.tbl ps) -> ∃ more, H' b = some (.tbl (ps ++ more))
section
variable {fs Ng ex ex' : List acJ} {H H1 H2 : Hp} {h h1 h2 h' : aer} {a x e : acJ} {o : HO}
theorem Un.any (u : Un fs ex H H1 h h1) {b : acJ} {ob : Obj} (q : h.get? b = some ob) (n : H b = none) (hx : b ∉ ex) : ∃ sl, h1.get? b = some { ob with slots := sl } := by
 by_cases hb : b ∈ fs
 ·exact u.slot b ob q n hb hx
 ·exact ⟨ob.slots, u.keep b ob q n hb hx⟩
theorem Un.trans (a : Un fs ex H H1 h h1) (b : Un fs ex H1 H2 h1 h2) : Un fs ex H H2 h h2 where
 keep := fun c ob q n hc hx => b.keep c ob (a.keep c ob q n hc hx) (a.free c ob q n hx) hc hx
 slot := fun c ob q n hc hx => by
  obtain ⟨sl, e1⟩ := a.slot c ob q n hc hx
  obtain ⟨dc, e2⟩ := b.slot c _ e1 (a.free c ob q n hx) hc hx
  exact ⟨dc, e2⟩
 free := fun c ob q n hx => by
  obtain ⟨o', e1⟩ := a.there c ob q hx
  exact b.free c o' e1 (a.free c ob q n hx) hx
 there := fun c ob q hx => by
  obtain ⟨o', e1⟩ := a.there c ob q hx
  exact b.there c o' e1 hx
 cH := fun c xs q => b.cH c xs (a.cH c xs q)
 cI := fun c ob xs q => b.cI c ob xs (a.cI c ob xs q)
 cU := fun c ps q => by
  obtain ⟨m1, e1⟩ := a.cU c ps q
  obtain ⟨m2, e2⟩ := b.cU c _ e1
  exact ⟨m1 ++ m2, by rw [e2, ag8]⟩
theorem Un.kept (k : ∀ b u, h.get? b = some u -> h'.get? b = some u) : Un fs ex H H h h' :=
 ⟨fun b ob q _ _ _ => k b ob q, fun b ob q _ _ _ => ⟨ob.slots, k b ob q⟩, fun _ _ _ n _ => n, fun b ob q _ => ⟨ob, k b ob q⟩, fun _ _ q => q, fun _ _ _ q => q, fun _ ps q => ⟨#[], by rw [q]; simp⟩⟩
theorem Un.refl : Un fs ex H H h h := Un.kept fun _ _ q => q
theorem Un.laid (k : ∀ b u, h.get? b = some u -> h'.get? b = some u) (hp : h.objs.size <= a) (hn : H a = none) : Un fs ex H (upd H a o) h h' where
 keep := fun b u q _ _ _ => k b u q
 slot := fun b u q _ _ _ => ⟨u.slots, k b u q⟩
 free := fun b u q n _ => by rw [aA (ade (ac8 (acK q) hp))]; exact n
 there := fun b u q _ => ⟨u, k b u q⟩
 cH := fun b xs q => by rw [aA (jc q hn)]; exact q
 cI := fun b u xs q => by rw [aA (jc q hn)]; exact q
 cU := fun b ps q => ⟨#[], by rw [aA (jc q hn), q]; simp⟩
theorem Un.write (mu : qM (H x)) (he : e = x ∨ H e = some (.own x)) (k : ∀ b u, b ≠ e -> h.get? b = some u -> h'.get? b = some u) (nk : ∃ u, h'.get? e = some u) : Un fs ex H (upd H x o) h h' := by
 have hx : ∀ b, H b = none -> b ≠ x := fun b n z => by subst z; rw [n] at mu; exact mu
 have hb : ∀ b, H b = none -> b ≠ e := fun b n z => by
  subst z
  rcases he with r | r
  ·exact hx b n r
  ·rw [n] at r; cases r
 have hm : ∀ b u, H b = some u -> ¬ qM (some u) -> b ≠ x := fun b u q nm z => by subst z; rw [q] at mu; exact nm mu
 refine ⟨fun b u q n _ _ => k b u (hb b n) q, fun b u q n _ _ => ⟨u.slots, k b u (hb b n) q⟩, fun b u q n _ => by rw [aA (hx b n)]; exact n, fun b u q _ => ?_,
  fun b xs q => by rw [aA (hm b _ q fun z => z)]; exact q, fun b u xs q => by rw [aA (hm b _ q fun z => z)]; exact q, fun b ps q => ⟨#[], by rw [aA (hm b _ q fun z => z), q]; simp⟩⟩
 by_cases hbe : b = e
 ·subst hbe; exact nk
 ·exact ⟨u, k b u hbe q⟩
end
noncomputable def cV (h : aer) (H : Hp) : List acJ := (adh h.objs.size).filter fun a => (H a).isSome
noncomputable def iz (h : aer) (H : Hp) : aer := ah1 h (cV h H)
theorem Nh (h : aer) (H : Hp) : (iz h H).objs.size = h.objs.size := PySem.W.hideAll_size _ _
theorem Ni {h : aer} {H : Hp} {b : acJ} {o : Obj} (e : h.get? b = some o) (n : H b = none) : (iz h H).get? b = some o :=
 aiG _ e fun hm => by
  have q : (H b).isSome = true := (adp.mp hm).2
  rw [n] at q; simp at q
theorem Nj {h : aer} {H : Hp} {b : acJ} {o : Obj} (e : (iz h H).get? b = some o) : h.get? b = some o /\ H b = none := by
 have e' : h.get? b = some o := aiR (cV h H) e
 refine ⟨e', ?_⟩
 cases q : H b with
 | none => rfl
 | some x =>
  have hm : b ∈ cV h H := adp.mpr ⟨ady.mpr (acK e'), by simp [q]⟩
  have z : (iz h H).get? b = none := PySem.W.hideAll_none (cV h H) hm
  rw [z] at e; cases e
noncomputable def Nk (g h : aer) (L : acJ) : List (acJ × Obj) := (adh h.objs.size).filterMap fun a => if a = L ∨ (g.get? a).isSome = true then none else (h.get? a).map fun o => (a, o)
noncomputable def rest (g h : aer) (L d : acJ) : List (acJ × Obj) := (Nk g h L).filter fun p => decide (p.1 ≠ d)
end L2
namespace L2
open PySem PySem.Spec PyProof.Rows
structure Mod (K : acB) (mg : Str -> Option acC) (base : aer) : Prop where
 kin : K.In base
 glob : base.Ns acR mg
 blt : ∃ mb, base.Ns ai8 mb /\ ∀ x : Str, x ≠ "__name__" -> mb x = adR x
 nolimit : base.NoLimit
structure Cx where
 prog : ac2
 w : adw
 K : acB
 mg : Str -> Option acC
 base : aer
 A : adD
 N : List Str
 s₀ : acF
 H₀ : Hp
 env : Env
 outer : List Env
 stack : List Env
 ex : List acJ
 fn : Str -> Bool
 calm : Bool
 pn : List (acJ × Obj)
 xe : acC -> acF -> Prop
noncomputable def aO (l : List Env) : List acJ := l.filterMap (·.frame)
noncomputable abbrev Cx.fs (X : Cx) : List acJ := aO X.outer
noncomputable def Af (sc : agN) (x : Str) : Prop := sc.names.lookup x = some .local ∨ sc.names.lookup x = some .cell ∨ sc.names.lookup x = some .free
noncomputable def Loc (sc : agN) (x : Str) : Prop := sc.names.lookup x = some .local ∨ sc.names.lookup x = some .cell
noncomputable def Look (env : Env) (h : aer) (m : Str -> Option acC) (x : Str) (u : acC) : Prop :=
 (env.kindOf x = some .local /\ m x = some u) ∨ ((env.kindOf x = some .cell ∨ env.kindOf x = some .free) /\ ∃ c, env.cells.lookup x = some c /\ h.IsCell c (some u))
structure Cx.Ok (X : Cx) : Prop where
 mod : Mod X.K X.mg X.base
 kind : X.env.scope.kind = .function
 glob : X.env.globals = acR
 blt : X.env.builtins = ai8
 above : X.s₀.heap.objs.size <= X.env.locals
 inj : ∀ x y c, X.env.cells.lookup x = some c -> X.env.cells.lookup y = some c -> x = y
 has : ∀ x, (X.env.kindOf x = some .cell ∨ X.env.kindOf x = some .free) -> ∃ c, X.env.cells.lookup x = some c
 cab : ∀ x c, X.fn x = true -> X.env.cells.lookup x = some c -> X.s₀.heap.objs.size <= c
 hd : X.calm = true -> X.A.handled = none
 frames : X.A.frames = some X.stack
 stk : X.stack = X.outer ∨ (X.stack = X.env :: X.outer /\ X.env.frame = some X.env.locals)
 exf : ∀ b ∈ X.ex, b ≠ X.env.locals /\ ∀ x c, X.env.cells.lookup x = some c -> c ≠ b
 bs : ∀ b o, X.base.get? b = some o -> X.s₀.heap.get? b = some o /\ X.H₀ b = none
 bsz : X.base.objs.size <= X.s₀.heap.objs.size
 noex : ∀ b o, X.base.get? b = some o -> b ∉ X.ex
 exfs : ∀ b ∈ X.ex, b ∉ X.fs
 fo : X.s₀.heap.FunFrames X.base X.outer
 frf : ∀ b ∈ X.fs, X.H₀ b = none
structure Inv (X : Cx) (pins : List (acJ × Obj)) (σ : List (Option V)) (H : Hp) (s : acF) : Prop where
 ok : X.Ok
 os : s.os = X.s₀.os
 bare : ah2 s.gens
 base : Un X.fs X.ex X.H₀ H X.s₀.heap s.heap
 loc : ∃ m, s.heap.Ns X.env.locals m /\ ∀ (i : Nat) (x : Str) (v : V), X.N[i]? = some x -> σ[i]? = some (some v) -> Af X.env.scope x -> ∃ u, RelV v u /\ Look X.env s.heap m x u
 cell : ∀ x c, X.env.cells.lookup x = some c -> ∃ v, s.heap.IsCell c v
 free : H X.env.locals = none
 eF : ∀ x c, X.env.cells.lookup x = some c -> H c = none
 pin : ∀ p ∈ X.pn ++ pins, s.heap.get? p.1 = some p.2 /\ H p.1 = none /\ p.1 ≠ X.env.locals /\ p.1 ∉ X.fs /\ ∀ v, p.2.data ≠ .cell v
 ai : bz X.prog X.w H s.heap
 len : σ.length = X.N.length
section
variable {X : Cx} {pins : List (acJ × Obj)} {σ : List (Option V)} {H H' : Hp} {s : acF} {h' : aer}
theorem Cx.Ok.iA (ok : X.Ok) {b : acJ} {o : Obj} (e : X.base.get? b = some o) : b ∉ X.fs := fun hb => by
 have := (ok.fo.mem hb).1
 rw [e] at this; cases this
theorem Inv.bs (I : Inv X pins σ H s) : ∀ b o, X.base.get? b = some o -> s.heap.get? b = some o /\ H b = none := fun b o e =>
 ⟨I.base.keep b o (I.ok.bs b o e).1 (I.ok.bs b o e).2 (I.ok.iA e) (I.ok.noex b o e), I.base.free b o (I.ok.bs b o e).1 (I.ok.bs b o e).2 (I.ok.noex b o e)⟩
theorem Inv.bk (I : Inv X pins σ H s) : ∀ b o, X.base.get? b = some o -> s.heap.get? b = some o := fun b o e => (I.bs b o e).1
theorem Inv.mod (I : Inv X pins σ H s) : Mod X.K X.mg X.base := I.ok.mod
theorem Inv.b0 (I : Inv X pins σ H s) : X.K.In s.heap := I.ok.mod.kin.keeps I.bk
theorem Inv.lt (I : Inv X pins σ H s) : X.env.locals < s.heap.objs.size := let ⟨_, hn, _⟩ := I.loc; hn.lt
theorem Inv.sz (I : Inv X pins σ H s) : X.s₀.heap.objs.size <= s.heap.objs.size := acV I.ok.above (agb I.lt)
theorem Inv.uP (I : Inv X pins σ H s) {a : acJ} (h : s.heap.objs.size <= a) : a ∉ X.fs := fun hb => by
 obtain ⟨_, o, ho, _⟩ := I.ok.fo.mem hb
 exact absurd (ac8 (acK ho) (acV I.sz h)) (aec _)
theorem Inv.lq (I : Inv X pins σ H s) : ∀ x c, X.env.cells.lookup x = some c -> c ≠ X.env.locals := fun x c e z => by
 obtain ⟨v, o, ho, hd⟩ := I.cell x c e
 obtain ⟨m, ⟨o', es, ep, cJ, fW, _⟩, _⟩ := I.loc
 rw [z, cJ] at ho; cases ho; rw [fW] at hd; cases hd
theorem Inv.fo (I : Inv X pins σ H s) : s.heap.FunFrames X.base X.outer := by
 have all : ∀ (l : List Env), (∀ b ∈ aO l, b ∈ X.fs) -> X.s₀.heap.FunFrames X.base l -> s.heap.FunFrames X.base l := by
  intro l
  induction l with
  | nil => intro _ _; trivial
  | cons env r ih =>
   intro hs hl
   obtain ⟨hk, ⟨L, o, hf, hn, ho, hd⟩, hr⟩ := hl
   have hL : L ∈ X.fs := hs L (by unfold aO; rw [adA, hf]; exact adE)
   obtain ⟨sl, e⟩ := I.base.slot L o ho (I.ok.frf L hL) hL fun z => I.ok.exfs L z hL
   exact ⟨hk, ⟨L, _, hf, hn, e, hd⟩, ih (fun b hb => hs b (by unfold aO; rw [adA, hf]; exact ac5 _ hb)) hr⟩
 exact all X.outer (fun _ hb => hb) I.ok.fo
theorem Inv.stack (I : Inv X pins σ H s) : s.heap.FunFrames X.base X.stack := by
 rcases I.ok.stk with e | ⟨e, hf⟩
 ·rw [e]; exact I.fo
 ·rw [e]
  obtain ⟨m, hn, _⟩ := I.loc
  refine .cons (by rw [I.ok.kind]; decide) hf hn ?_ I.fo
  exact Heap.get?_none_of_le (acV I.ok.bsz I.ok.above)
theorem Inv.dR (I : Inv X pins σ H s) : ∀ b ∈ aO X.stack, b ∈ X.env.locals :: X.fs := fun b hb => by
 rcases I.ok.stk with e | ⟨e, hf⟩
 ·rw [e] at hb; exact ac5 _ hb
 ·rw [e] at hb
  unfold aO at hb
  rw [adA, hf] at hb
  exact hb
theorem Inv.nq (I : Inv X pins σ H s) : ∀ b ∈ aO X.stack, H b = none := fun b hb => by
 rcases acN.mp (I.dR b hb) with e | hb
 ·rw [e]; exact I.free
 ·obtain ⟨_, o, ho, _⟩ := I.ok.fo.mem hb
  exact I.base.free b o ho (I.ok.frf b hb) fun z => I.ok.exfs b z hb
theorem Inv.step {g' : Array akm} {t' : Nat} {d' : Drawn} {ch : List acJ} (I : Inv X pins σ H s)
 (gG : ∀ b ∈ ch, (b ∈ X.ex ∨ X.s₀.heap.objs.size <= b) /\ b ≠ X.env.locals /\ (∀ x c, X.env.cells.lookup x = some c -> c ≠ b) /\ ∀ p ∈ X.pn ++ pins, p.1 ≠ b)
 (keep : ∀ b o, b ≠ X.env.locals -> b ∉ X.fs -> b ∉ ch -> s.heap.get? b = some o -> H b = none -> h'.get? b = some o)
 (slot : ∀ b o, b ≠ X.env.locals -> b ∈ X.fs -> b ∉ ch -> s.heap.get? b = some o -> H b = none -> ∃ sl, h'.get? b = some { o with slots := sl }) (free : ∀ b o, b ∉ ch -> s.heap.get? b = some o -> H b = none -> H' b = none)
 (there : ∀ b o, b ∉ ch -> s.heap.get? b = some o -> ∃ o', h'.get? b = some o')
 (cH : ∀ b xs, H b = some (.tup xs) -> H' b = some (.tup xs)) (cI : ∀ b o u, H b = some (.aM o u) -> H' b = some (.aM o u)) (cU : ∀ b ps, H b = some (.tbl ps) -> ∃ more, H' b = some (.tbl (ps ++ more)))
 (ns : ∀ m, s.heap.Ns X.env.locals m -> h'.Ns X.env.locals m) (ai : bz X.prog X.w H' h') (hg : ah2 g') :
 Inv X pins σ H' { s with heap := h', gens := g', drawn := d', toks := t' } := by
 have nr : ∀ b o, X.s₀.heap.get? b = some o -> b ≠ X.env.locals := fun b o e => ade (ac8 (acK e) I.ok.above)
 have uQ : ∀ b o, X.s₀.heap.get? b = some o -> b ∉ X.ex -> b ∉ ch := fun b o e hx hb => by
  rcases (gG b hb).1 with z | z
  ·exact hx z
  ·exact absurd (ac8 (acK e) z) (aec _)
 have cellK : ∀ x c, X.env.cells.lookup x = some c -> ∀ v, s.heap.IsCell c v -> h'.IsCell c v := fun x c e v ⟨o, ho, hd⟩ => by
  have jd : c ∉ ch := fun z => (gG c z).2.2.1 x c e rfl
  by_cases hc : c ∈ X.fs
  ·obtain ⟨sl, q⟩ := slot c o (I.lq x c e) hc jd ho (I.eF x c e)
   exact ⟨_, q, hd⟩
  ·exact ⟨o, keep c o (I.lq x c e) hc jd ho (I.eF x c e), hd⟩
 refine ⟨I.ok, I.os, hg, ⟨fun b o e n hb hx => ?_, fun b o e n hb hx => ?_, fun b o e n hx => ?_, fun b o e hx => ?_, fun b xs e => cH b xs (I.base.cH b xs e), fun b o xs e => cI b o xs (I.base.cI b o xs e), fun b ps e => ?_⟩, ?_, fun x c e => ?_, ?_, fun x c e => ?_, fun p hp => ?_, ai, I.len⟩
 ·exact keep b o (nr b o e) hb (uQ b o e hx) (I.base.keep b o e n hb hx) (I.base.free b o e n hx)
 ·obtain ⟨sl, e1⟩ := I.base.slot b o e n hb hx
  obtain ⟨dc, e2⟩ := slot b _ (nr b o e) hb (uQ b o e hx) e1 (I.base.free b o e n hx)
  exact ⟨dc, e2⟩
 ·obtain ⟨o', e1⟩ := I.base.there b o e hx
  exact free b o' (uQ b o e hx) e1 (I.base.free b o e n hx)
 ·obtain ⟨o', e1⟩ := I.base.there b o e hx
  exact there b o' (uQ b o e hx) e1
 ·obtain ⟨m1, e1⟩ := I.base.cU b ps e
  obtain ⟨m2, e2⟩ := cU b _ e1
  exact ⟨m1 ++ m2, by rw [e2, ag8]⟩
 ·obtain ⟨m, hn, hl⟩ := I.loc
  refine ⟨m, ns m hn, fun i x v e1 e2 e3 => ?_⟩
  obtain ⟨u, r, l⟩ := hl i x v e1 e2 e3
  refine ⟨u, r, ?_⟩
  rcases l with l | ⟨k, c, e, z⟩
  ·exact .inl l
  ·exact .inr ⟨k, c, e, cellK x c e _ z⟩
 ·obtain ⟨v, z⟩ := I.cell x c e
  exact ⟨v, cellK x c e v z⟩
 ·obtain ⟨m, ⟨o, _, _, ho, _⟩, _⟩ := I.loc
  exact free _ o (fun z => (gG _ z).2.1 rfl) ho I.free
 ·obtain ⟨v, o, ho, hd⟩ := I.cell x c e
  exact free c o (fun z => (gG c z).2.2.1 x c e rfl) ho (I.eF x c e)
 ·obtain ⟨e, n, ne, nf, d⟩ := I.pin p hp
  have jd : p.1 ∉ ch := fun z => (gG p.1 z).2.2.2 p hp rfl
  exact ⟨keep p.1 p.2 ne nf jd e n, free p.1 p.2 jd e n, ne, nf, d⟩
theorem Inv.un {t' : Nat} (I : Inv X pins σ H s) (u : Un X.fs [] H H' s.heap h') (ai : bz X.prog X.w H' h') : Inv X pins σ H' { s with heap := h', toks := t' } := by
 obtain ⟨m, ⟨o, es, ep, ho, r⟩, _⟩ := id I.loc
 obtain ⟨sl, hL⟩ := u.any ho I.free (by simp)
 exact I.step (g' := s.gens) (d' := s.drawn) (ch := []) (fun _ z => nomatch z) (fun b o _ hb _ e n => u.keep b o e n hb (by simp)) (fun b o _ hb _ e n => u.slot b o e n hb (by simp)) (fun b o _ e n => u.free b o e n (by simp)) (fun b o _ e => u.there b o e (by simp)) u.cH u.cI u.cU (fun m' hm => by
  obtain ⟨o', es', je, cJ, r'⟩ := hm
  rw [ho] at cJ; cases cJ
  exact ⟨_, es', je, hL, r'⟩) ai I.bare
theorem Inv.call {g' : Array akm} {t' : Nat} {d' : Drawn} {ch : List acJ} (I : Inv X pins σ H s) (u : Un (aO X.stack) ch H H' s.heap h') (ai : bz X.prog X.w H' h') (hg : ah2 g')
 (gG : ∀ b ∈ ch, (b ∈ X.ex ∨ X.s₀.heap.objs.size <= b) /\ b ≠ X.env.locals /\ (∀ x c, X.env.cells.lookup x = some c -> c ≠ b) /\ ∀ p ∈ X.pn ++ pins, p.1 ≠ b) :
 Inv X pins σ H' { s with heap := h', gens := g', drawn := d', toks := t' } := by
 obtain ⟨m, ⟨o, es, ep, ho, r⟩, _⟩ := id I.loc
 obtain ⟨sl, hL⟩ := u.any ho I.free fun z => (gG _ z).2.1 rfl
 exact I.step (ch := ch) gG (fun b o hL hb hc e n => u.keep b o e n (fun z => (acN.mp (I.dR b z)).elim hL hb) hc) (fun b o _ _ hc e n => u.any e n hc) (fun b o hc e n => u.free b o e n hc) (fun b o hc e => u.there b o e hc) u.cH u.cI u.cU (fun m' hm => by
  obtain ⟨o', es', je, cJ, r'⟩ := hm
  rw [ho] at cJ; cases cJ
  exact ⟨_, es', je, hL, r'⟩) ai hg
theorem Inv.turned {t' : Nat} {it : acJ} (I : Inv X pins σ H s) (k : ∀ b o, b ≠ it -> s.heap.get? b = some o -> h'.get? b = some o) (hn : H it = none) (hL : it ≠ X.env.locals)
 (h1 : it ∈ X.ex ∨ X.s₀.heap.objs.size <= it) (h2 : ∀ x c, X.env.cells.lookup x = some c -> c ≠ it) (h3 : ∀ p ∈ X.pn ++ pins, p.1 ≠ it) : Inv X pins σ H { s with heap := h', toks := t' } := by
 have Gx : ∀ b u, H b = some u -> b ≠ it := fun b u e z => by rw [z, hn] at e; cases e
 refine I.step (g' := s.gens) (d' := s.drawn) (ch := [it]) (fun b hb => ?_) (fun b o _ _ hc e _ => k b o (fun z => hc (by simp [z])) e) (fun b o _ _ hc e _ => ⟨o.slots, k b o (fun z => hc (by simp [z])) e⟩) (fun _ _ _ _ n => n)
  (fun b o hc e => ⟨o, k b o (fun z => hc (by simp [z])) e⟩) (fun _ _ e => e) (fun _ _ _ e => e) (fun b ps e => ⟨#[], by rw [e]; simp⟩) (fun m hm => ?_) (fun b u e => ?_) I.bare
 ·have e : b = it := by simpa using hb
  subst e
  exact ⟨h1, hL, h2, h3⟩
 ·obtain ⟨o, es, ep, ho, r⟩ := hm
  exact ⟨o, es, ep, k _ o (adV hL) ho, r⟩
 ·refine (I.ai b u e).eE (fun c v hc q => k c v ?_ q) (fun _ q => q) fun _ _ q => q
  rcases hc with z | z
  ·rw [z]; exact Gx b u e
  ·exact Gx c _ z
theorem Inv.tok (I : Inv X pins σ H s) (t : Nat) : Inv X pins σ H { s with toks := t } := I.un (h' := s.heap) (t' := t) Un.refl I.ai
theorem Inv.kept {t' : Nat} (I : Inv X pins σ H s) (k : ∀ b u, s.heap.get? b = some u -> h'.get? b = some u) : Inv X pins σ H { s with heap := h', toks := t' } := I.un (Un.kept k) (I.ai.kept k)
theorem Inv.laid {a : acJ} {o : HO} {t' : Nat} (I : Inv X pins σ H s) (k : ∀ b u, s.heap.get? b = some u -> h'.get? b = some u) (hp : s.heap.objs.size <= a) (new : bp X.prog X.w (upd H a o) h' a o) :
 Inv X pins σ (upd H a o) { s with heap := h', toks := t' } := I.un (Un.laid k hp (I.ai.fresh hp)) (I.ai.laid k hp new)
theorem Inv.write {x e : acJ} {o : HO} {t' : Nat} (I : Inv X pins σ H s) (mu : qM (H x)) (he : e = x ∨ H e = some (.own x)) (k : ∀ b u, b ≠ e -> s.heap.get? b = some u -> h'.get? b = some u) (nk : ∃ u, h'.get? e = some u)
 (new : bp X.prog X.w (upd H x o) h' x o) : Inv X pins σ (upd H x o) { s with heap := h', toks := t' } := I.un (Un.write mu he k nk) (I.ai.write mu he k nk new)
theorem Inv.gH {Gy : List (acJ × Obj)} (I : Inv X pins σ H s) (h : ∀ p ∈ Gy, s.heap.get? p.1 = some p.2 /\ H p.1 = none /\ p.1 ≠ X.env.locals /\ p.1 ∉ X.fs /\ ∀ v, p.2.data ≠ .cell v) : Inv X Gy σ H s :=
 ⟨I.ok, I.os, I.bare, I.base, I.loc, I.cell, I.free, I.eF, fun p hp => (adj.mp hp).elim (fun z => I.pin p (adW _ z)) (h p), I.ai, I.len⟩
theorem GA {N : List Str} (hN : N.Nodup) {i j : Nat} {x : Str} (a : N[i]? = some x) (b : N[j]? = some x) : i = j := by
 obtain ⟨h1, e1⟩ := acX.mp a
 obtain ⟨h2, e2⟩ := acX.mp b
 exact (ahN hN).mp (e1.trans e2.symm)
theorem Nl {M : Model} {A : adD} {E : acC -> acF -> Prop} {i : Nat} {x : Str} {v : V} {u : acC} {Q : Unit -> acF -> Prop} (I : Inv X pins σ H s) (hN : X.N.Nodup) (hi : X.N[i]? = some x) (hx : Loc X.env.scope x) (r : RelV v u)
 (h : ∀ s', Inv X pins (σ.set i (some v)) H s' -> (∃ a, Heap.SameBut a s.heap s'.heap /\ (a = X.env.locals ∨ X.env.cells.lookup x = some a)) -> Q () s') (hf : X.fn x = true ∨ X.env.scope.names.lookup x = some .local := by first | exact .inl rfl | exact .inr rfl | assumption) : ac0 M A (storeName X.env x u) Q E s := by
 obtain ⟨m, hn, hl⟩ := id I.loc
 have Nm : (X.env.scope.kind == .class || (X.env.scope.kind == .module && X.env.locals != X.env.globals)) = false := by rw [I.ok.kind]; rfl
 have GB : i < σ.length := by rw [I.len]; exact (acX.mp hi).1
 have lq := I.lq
 have tracked : ∀ {a : acJ} {h' : aer}, (∃ o, s.heap.get? a = some o /\ H a = none) -> Heap.SameBut a s.heap h' -> bz X.prog X.w H h' := fun {a h'} ha hs b ob e => by
  obtain ⟨_, _, hfree⟩ := ha
  refine (I.ai b ob e).eE (fun c w' hc q => (hs.2 c ?_).trans q) (fun _ q => q) fun _ _ q => q
  rintro rfl
  rcases hc with rfl | hc
  ·rw [hfree] at e; cases e
  ·rw [hfree] at hc; cases hc
 rcases hx with hk | hk
 ·refine wpAny_storeName_local hk hn (fun h' qN hs => ?_) Nm
  obtain ⟨oL, _, _, Nn, _⟩ := id hn
  refine h _ ⟨I.ok, I.os, I.bare, ⟨fun b o e n hb hx => ?_, fun b o e n hb hx => ?_, I.base.free, fun b o e hx => ?_, I.base.cH, I.base.cI, I.base.cU⟩, ⟨_, qN, fun j y v' e1 e2 e3 => ?_⟩, fun y c e => ?_, I.free, I.eF, fun p hp => ?_, tracked ⟨oL, Nn, I.free⟩ hs, by simpa using I.len⟩ ⟨_, hs, .inl rfl⟩
  ·exact (hs.2 b (ade (ac8 (acK e) I.ok.above))).trans (I.base.keep b o e n hb hx)
  ·obtain ⟨sl, e1⟩ := I.base.slot b o e n hb hx
   exact ⟨sl, (hs.2 b (ade (ac8 (acK e) I.ok.above))).trans e1⟩
  ·obtain ⟨o', e1⟩ := I.base.there b o e hx
   exact ⟨o', (hs.2 b (ade (ac8 (acK e) I.ok.above))).trans e1⟩
  ·by_cases hj : j = i
   ·subst hj
    rw [hi] at e1; cases e1
    rw [ahS GB] at e2
    cases e2
    exact ⟨u, r, .inl ⟨hk, by simp⟩⟩
   ·rw [aiu (adV hj)] at e2
    obtain ⟨u', r', q⟩ := hl j y v' e1 e2 e3
    refine ⟨u', r', ?_⟩
    rcases q with ⟨k, e⟩ | ⟨k, c, e, z⟩
    ·refine .inl ⟨k, ?_⟩
     have : y ≠ x := fun e => hj (GA hN e1 (e ▸ hi))
     simp [this, e]
    ·exact .inr ⟨k, c, e, z.sameBut hs (lq y c e)⟩
  ·obtain ⟨w', z⟩ := I.cell y c e
   exact ⟨w', z.sameBut hs (lq y c e)⟩
  ·obtain ⟨e, n, ne, nf, d⟩ := I.pin p hp
   exact ⟨(hs.2 p.1 ne).trans e, n, ne, nf, d⟩
 ·have Ag : X.fn x = true := by
   rcases hf with z | z
   ·exact z
   ·rw [z] at hk; cases hk
  obtain ⟨c, hc⟩ := I.ok.has x (.inl hk)
  obtain ⟨w', z⟩ := I.cell x c hc
  refine wpAny_storeName_cell I.ok.kind hk hc z (fun h' GC hs => ?_)
  obtain ⟨oc, hoc, hocd⟩ := id z
  refine h { s with heap := h' } ⟨I.ok, I.os, I.bare, ⟨fun b o e n hb hx => ?_, fun b o e n hb hx => ?_, I.base.free, fun b o e hx => ?_, I.base.cH, I.base.cI, I.base.cU⟩, ⟨m, hn.sameBut hs (adV (lq x c hc)), fun j y v' e1 e2 e3 => ?_⟩, fun y c' e => ?_, I.free, I.eF, fun p hp => ?_, tracked ⟨oc, hoc, I.eF x c hc⟩ hs, by simpa using I.len⟩ ⟨c, hs, .inr hc⟩
  ·exact (hs.2 b (ade (ac8 (acK e) (I.ok.cab x c Ag hc)))).trans (I.base.keep b o e n hb hx)
  ·obtain ⟨sl, e1⟩ := I.base.slot b o e n hb hx
   exact ⟨sl, (hs.2 b (ade (ac8 (acK e) (I.ok.cab x c Ag hc)))).trans e1⟩
  ·obtain ⟨o', e1⟩ := I.base.there b o e hx
   exact ⟨o', (hs.2 b (ade (ac8 (acK e) (I.ok.cab x c Ag hc)))).trans e1⟩
  ·by_cases hj : j = i
   ·subst hj
    rw [hi] at e1; cases e1
    rw [ahS GB] at e2
    cases e2
    exact ⟨u, r, .inr ⟨.inl hk, c, hc, GC⟩⟩
   ·rw [aiu (adV hj)] at e2
    obtain ⟨u', r', q⟩ := hl j y v' e1 e2 e3
    refine ⟨u', r', ?_⟩
    rcases q with q | ⟨k, c', e, z'⟩
    ·exact .inl q
    ·refine .inr ⟨k, c', e, z'.sameBut hs ?_⟩
     rintro rfl
     exact hj (GA hN e1 (I.ok.inj _ _ _ e hc ▸ hi))
  ·by_cases hcc : c' = c
   ·subst hcc; exact ⟨_, GC⟩
   ·obtain ⟨w2, z2⟩ := I.cell y c' e
    exact ⟨w2, z2.sameBut hs hcc⟩
  ·obtain ⟨e, n, ne, nf, d⟩ := I.pin p hp
   refine ⟨(hs.2 p.1 ?_).trans e, n, ne, nf, d⟩
   intro q
   rw [q, hoc] at e
   have q' : oc = p.2 := Option.some.inj e
   exact d w' (by rw [<- q']; exact hocd)
theorem GD {M : Model} {A : adD} {E : acC -> acF -> Prop} {i : Nat} {x : Str} {v : V} {u : acC} {Q : Unit -> acF -> Prop} (I : Inv X pins σ H s) (hN : X.N.Nodup) (hi : X.N[i]? = some x) (hx : Loc X.env.scope x) (r : RelV v u)
 (h : ∀ s', Inv X pins (σ.set i (some v)) H s' -> Q () s') (hf : X.fn x = true ∨ X.env.scope.names.lookup x = some .local := by first | exact .inl rfl | exact .inr rfl | assumption) : ac0 M A (storeName X.env x u) Q E s :=
 Nl I hN hi hx r (fun s' I' _ => h s' I') hf
theorem Inv.Ah {s' : acF} {ch : List acJ} (I : Inv X pins σ H s) (ho : s'.os = s.os) (u : Un (aO X.stack) ch H H' s.heap s'.heap) (ai : bz X.prog X.w H' s'.heap) (hg : ah2 s'.gens)
 (gG : ∀ b ∈ ch, (b ∈ X.ex ∨ X.s₀.heap.objs.size <= b) /\ b ≠ X.env.locals /\ (∀ x c, X.env.cells.lookup x = some c -> c ≠ b) /\ ∀ p ∈ X.pn ++ pins, p.1 ≠ b) : Inv X pins σ H' s' := by
 obtain ⟨h', g', d', t', o'⟩ := s'
 have e : o' = s.os := ho
 subst e
 exact I.call (g' := g') (t' := t') (d' := d') u ai hg gG
end
noncomputable abbrev XK := acC -> Option acJ -> Hp -> Prop
noncomputable abbrev St := List (Option V)
noncomputable abbrev VK := V -> Hp -> Prop
noncomputable abbrev TE := St -> Hp -> VK -> Prop
noncomputable abbrev TT := St -> Hp -> (Bool -> Hp -> Prop) -> Prop
noncomputable abbrev TA := St -> Hp -> (List V -> Hp -> Prop) -> Prop
structure Ends where
 nx : St -> Hp -> Prop
 rt : VK
 bk : St -> Hp -> Prop := fun _ _ => False
 ct : St -> Hp -> Prop := fun _ _ => False
noncomputable abbrev TS := Ends -> St -> Hp -> Prop
noncomputable def EP (X : Cx) (pins : List (acJ × Obj)) (σ : St) (Q : VK) (u : acC) (s' : acF) : Prop := ∃ v H', Inv X pins σ H' s' /\ RelV v u /\ Q v H'
noncomputable def TP (X : Cx) (pins : List (acJ × Obj)) (σ : St) (Q : Bool -> Hp -> Prop) (b : Bool) (s' : acF) : Prop := ∃ H', Inv X pins σ H' s' /\ Q b H'
noncomputable def AP (X : Cx) (pins : List (acJ × Obj)) (σ : St) (Q : List V -> Hp -> Prop) (us : List acC) (s' : acF) : Prop := ∃ vs H', Inv X pins σ H' s' /\ Vals vs us /\ Q vs H'
noncomputable def SP (X : Cx) (pins : List (acJ × Obj)) (D : Ends) (f : Flow) (s' : acF) : Prop :=
 match f with
 | .next => ∃ σ' H', Inv X pins σ' H' s' /\ D.nx σ' H'
 | .brk => ∃ σ' H', Inv X pins σ' H' s' /\ D.bk σ' H'
 | .cont => ∃ σ' H', Inv X pins σ' H' s' /\ D.ct σ' H'
 | .ret u => ∃ v σ' H', Inv X pins σ' H' s' /\ RelV v u /\ D.rt v H'
noncomputable def PE (X : Cx) (e : ae4) (t : TE) : Prop :=
 ∀ (pins : List (acJ × Obj)) (s : acF) (σ : St) (H : Hp) (Q : VK), Inv X pins σ H s -> t σ H Q -> ac0 (model X.prog X.w) X.A (eval e X.env) (EP X pins σ Q) X.xe s
noncomputable def PT (X : Cx) (e : ae4) (t : TT) : Prop :=
 ∀ (pins : List (acJ × Obj)) (s : acF) (σ : St) (H : Hp) (Q : Bool -> Hp -> Prop), Inv X pins σ H s -> t σ H Q -> ac0 (model X.prog X.w) X.A (akb e X.env (eval e X.env)) (TP X pins σ Q) X.xe s
noncomputable def PW (X : Cx) (e : ae4) (t : TT) : Prop :=
 ∀ (whole : Sem acC) (pins : List (acJ × Obj)) (s : acF) (σ : St) (H : Hp) (Q : Bool -> Hp -> Prop), Inv X pins σ H s -> t σ H Q -> ac0 (model X.prog X.w) X.A (akb e X.env whole) (TP X pins σ Q) X.xe s
theorem PW.pt {X : Cx} {e : ae4} {t : TT} (h : PW X e t) : PT X e t := h _
noncomputable def PA (X : Cx) (es : List ae4) (t : TA) : Prop :=
 ∀ (pos : Pos) (pins : List (acJ × Obj)) (s : acF) (σ : St) (H : Hp) (Q : List V -> Hp -> Prop), Inv X pins σ H s -> t σ H Q -> ac0 (model X.prog X.w) X.A (spliced (afV pos (adv es X.env))) (AP X pins σ Q) X.xe s
noncomputable def PS (X : Cx) (st : afU) (t : TS) : Prop :=
 ∀ (pins : List (acJ × Obj)) (s : acF) (σ : St) (H : Hp) (D : Ends), Inv X pins σ H s -> t D σ H -> ac0 (model X.prog X.w) X.A (exec st X.env) (SP X pins D) X.xe s
noncomputable def bq (X : Cx) (st : List afU) (t : TS) : Prop :=
 ∀ (pins : List (acJ × Obj)) (s : acF) (σ : St) (H : Hp) (D : Ends), Inv X pins σ H s -> t D σ H -> ac0 (model X.prog X.w) X.A (execs st X.env) (SP X pins D) X.xe s
theorem au {α : Type} {t : Sem α} {Q Q' : α -> acF -> Prop} {M : Model} {A : adD} {E : acC -> acF -> Prop} {s : acF} (h : ac0 M A t Q E s) (hQ : ∀ a s, Q a s -> Q' a s) : ac0 M A t Q' E s := adz h hQ fun _ _ x => x
end L2
namespace L2
open PySem PySem.Spec PyProof.Rows
section
variable {X : Cx}
noncomputable def nu (i : Nat) : TE := fun σ H Q => ∃ v, σ[i]? = some (some v) /\ Q v H
noncomputable def tC (v : V) : TE := fun _ H Q => Q v H
theorem Np {i : Nat} {x : Str} {pos : Pos} (hN : X.N[i]? = some x) (hv : Af X.env.scope x) (hd : (x == ("__debug__" : Str)) = false := by decide) (fq : (x == ("__classdict__" : Str)) = false := by decide) : PE X (.Name x pos) (nu i) := by
 intro pins s σ H Q I h
 obtain ⟨v, e, h⟩ := h
 obtain ⟨m, hn, hl⟩ := I.loc
 obtain ⟨u, r, l⟩ := hl i x v hN e hv
 have fin : EP X pins σ Q u s := ⟨v, H, I, r, h⟩
 rcases l with ⟨hk, hm⟩ | ⟨hk, c, hc, qO⟩
 ·exact akc (wpAny_loadName_local I.ok.kind hk hn hm fin) hd
 ·rcases hk with hk | hk
  ·exact akc (wpAny_loadName_cell I.ok.kind hk hc qO fin) hd
  ·exact akc (wpAny_loadName_free I.ok.kind hk hc qO fin fq) hd
theorem ae {i j pos} : PE X (.Constant (.int i) j pos) (tC (.int i)) := fun _ _ _ H _ I h => wpAny_Constant_int ⟨.int i, H, I.tok _, ⟨_, rfl⟩, h⟩
theorem cg {b j pos} : PE X (.Constant (.bool b) j pos) (tC (.bl b)) := fun _ _ _ H _ I h => Constant_bool ⟨.bl b, H, I, rfl, h⟩
theorem fX {j pos} : PE X (.Constant .none j pos) (tC .non) := fun _ _ _ H _ I h => aiS ⟨.non, H, I, rfl, h⟩
theorem gI {x j pos} : PE X (.Constant (.str x) j pos) (tC (.str x)) := fun _ _ _ H _ I h => Calls.Constant_str ⟨.str x, H, I.tok _, ⟨_, rfl⟩, h⟩
noncomputable def Gl (X : Cx) (x : Str) : Prop := X.env.kindOf x = some .globalImplicit
theorem uR {E : acC -> acF -> Prop} {pins : List (acJ × Obj)} {s : acF} {σ : St} {H : Hp} {x : Str} {u : acC} {pos : Pos} {Q : acC -> acF -> Prop} (I : Inv X pins σ H s) (hg : Gl X x) (hm : X.mg x = some u) (h : Q u s)
 (hd : (x == ("__debug__" : Str)) = false := by decide) : ac0 (model X.prog X.w) X.A (eval (.Name x pos) X.env) Q E s :=
 ag6 I.ok.kind hg (Calls.loadGlobal_global (by rw [I.ok.glob]; exact I.mod.glob.keeps I.bk) hm h) hd
theorem fY {E : acC -> acF -> Prop} {pins : List (acJ × Obj)} {s : acF} {σ : St} {H : Hp} {x : Str} {u : acC} {pos : Pos} {Q : acC -> acF -> Prop} (I : Inv X pins σ H s) (hg : Gl X x) (hm : X.mg x = none) (hv : adR x = some u) (h : Q u s)
 (hn : x ≠ "__name__" := by decide) (hd : (x == ("__debug__" : Str)) = false := by decide) : ac0 (model X.prog X.w) X.A (eval (.Name x pos) X.env) Q E s := by
 obtain ⟨mb, h1, h2⟩ := I.mod.blt
 exact ag6 I.ok.kind hg (Calls.loadGlobal_builtin (by rw [I.ok.glob]; exact I.mod.glob.keeps I.bk) hm (by rw [I.ok.blt]; exact h1.keeps I.bk) ((h2 x hn).trans hv) h) hd
theorem Nq {x : Str} {v : V} {u : acC} {pos : Pos} (hg : Gl X x) (hm : X.mg x = some u) (r : RelV v u) (hd : (x == ("__debug__" : Str)) = false := by decide) : PE X (.Name x pos) (tC v) :=
 fun _ _ _ H _ I h => uR I hg hm ⟨v, H, I, r, h⟩ hd
theorem uS {x : Str} {v : V} {u : acC} {pos : Pos} (hg : Gl X x) (hm : X.mg x = none) (hv : adR x = some u) (r : RelV v u) (hn : x ≠ "__name__" := by decide) (hd : (x == ("__debug__" : Str)) = false := by decide) : PE X (.Name x pos) (tC v) :=
 fun _ _ _ H _ I h => fY I hg hm hv ⟨v, H, I, r, h⟩ hn hd
variable {a b : ae4} {ta tb : TE} {pos : Pos}
noncomputable def PC (X : Cx) (op : akx) (a b : ae4) (t : TE) : Prop :=
 ∀ (pins : List (acJ × Obj)) (s : acF) (σ : St) (H : Hp) (Q : VK), Inv X pins σ H s -> t σ H Q ->
  ac0 (model X.prog X.w) X.A (eval a X.env) (fun v s₁ => ac0 (model X.prog X.w) X.A (eval b X.env) (fun u s₂ => ac0 (model X.prog X.w) X.A (aem op v u) (EP X pins σ Q) X.xe s₂) X.xe s₁) X.xe s
theorem GF (b : ae4) {op : akx} (h : op ≠ .In) (h2 : op ≠ .NotIn) : afr op b = false := by
 have e1 : (op == CmpOp.In) = false := by cases op <;> first | rfl | exact absurd rfl h
 have e2 : (op == CmpOp.NotIn) = false := by cases op <;> first | rfl | exact absurd rfl h2
 cases b <;> simp [afr, e1, e2]
noncomputable def qP (ta : TE) : TE := fun σ H Q => ta σ H fun x H1 => Q (.bl (decide (x = .non))) H1
noncomputable def qQ (ta : TE) : TE := fun σ H Q => ta σ H fun x H1 => Q (.bl (!decide (x = .non))) H1
theorem RelV.GG {x : V} {v : acC} (r : RelV x v) : (v == Value.none) = decide (x = .non) := by
 cases x with
 | non => cases r; rfl
 | bl _ => cases r; rfl
 | int _ => obtain ⟨t, rfl⟩ := r; rfl
 | str _ => obtain ⟨t, rfl⟩ := r; rfl
 | byt _ => obtain ⟨t, rfl⟩ := r; rfl
 | flt _ => obtain ⟨t, rfl⟩ := r; rfl
 | ref _ => cases r; rfl
 | ty _ => cases r; rfl
theorem lr {j pos'} (ha : PE X a ta) : PC X .Is a (.Constant .none j pos') (qP ta) := by
 intro pins s σ H Q I h
 refine au (ha pins s σ H _ I h) fun v s1 ⟨x, H1, I1, r1, q1⟩ => ?_
 exact aiS (is_none_gen ⟨.bl _, H1, I1, by rw [r1.GG]; rfl, q1⟩)
theorem jf {j pos'} (ha : PE X a ta) : PC X .IsNot a (.Constant .none j pos') (qQ ta) := by
 intro pins s σ H Q I h
 refine au (ha pins s σ H _ I h) fun v s1 ⟨x, H1, I1, r1, q1⟩ => ?_
 exact aiS (isnot_none_gen ⟨.bl _, H1, I1, by rw [r1.GG]; rfl, q1⟩)
noncomputable def tB (t : TE) : TT := fun σ H Q => t σ H fun x H1 => ∃ c, x = .bl c /\ Q c H1
theorem GH {op : akx} {t : TE} (h : PC X op a b t) (h1 : afr op b = false := by first | exact GF _ (by decide) (by decide) | rfl) : PE X (.Compare a [op] [b] pos) t := fun pins s σ H Q I hw => wpAny_Compare1 (h pins s σ H Q I hw) h1
theorem dH {op : akx} {t : TE} (h : PC X op a b t) (h1 : afr op b = false := by first | exact GF _ (by decide) (by decide) | rfl) : PT X (.Compare a [op] [b] pos) (tB t) := by
 intro pins s σ H Q I hw
 refine ah3 (au (h pins s σ H _ I hw) fun v s1 h1 => au h1 fun u s2 h2 => au h2 fun c s3 ⟨x, H1, I1, r1, q1⟩ => ?_) h1
 obtain ⟨d, rfl, q⟩ := q1
 cases r1
 exact adF ⟨H1, I1, q⟩
theorem de {e : ae4} {t : TE} (h : PE X e t) (he : ∀ whole, akb e X.env whole = (do let v <- whole; akK e.pos; holding [v] (truthy v)) := by intro _; rfl) : PT X e (tB t) := by
 intro pins s σ H Q I hw
 refine isTrue_plain (au (h pins s σ H _ I hw) fun v s1 ⟨x, H1, I1, r1, q1⟩ => ?_) (he _)
 obtain ⟨d, rfl, q⟩ := q1
 cases r1
 exact adF ⟨H1, I1, q⟩
variable {tA uT : TT} {rest : List ae4}
noncomputable def qR (t u : TT) : TT := fun σ H Q => t σ H fun c H1 => if c = true then u σ H1 Q else Q false H1
noncomputable def qS (t u : TT) : TT := fun σ H Q => t σ H fun c H1 => if c = true then Q true H1 else u σ H1 Q
noncomputable def qT (t : TT) : TT := fun σ H Q => t σ H fun c H1 => Q (!c) H1
theorem jg (ha : PT X a tA) : PW X (.BoolOp .And [a] pos) tA := by
 intro wh pins s σ H Q I h
 refine isTrue_and (au (ha pins s σ H Q I h) fun c s1 e => ?_)
 cases c with
 | true => exact isTrue_and_nil e
 | false => exact e
theorem gJ (ha : PT X a tA) : PW X (.BoolOp .Or [a] pos) tA := by
 intro wh pins s σ H Q I h
 refine isTrue_or (au (ha pins s σ H Q I h) fun c s1 e => ?_)
 cases c with
 | false => exact isTrue_or_nil e
 | true => exact e
theorem iB (ha : PT X a tA) (hb : PW X (.BoolOp .And (b :: rest) pos) uT) : PW X (.BoolOp .And (a :: b :: rest) pos) (qR tA uT) := by
 intro wh pins s σ H Q I h
 refine isTrue_and (au (ha pins s σ H _ I h) fun c s1 ⟨H1, I1, q1⟩ => ?_)
 cases c with
 | true => exact hb wh pins s1 σ H1 Q I1 q1
 | false => exact ⟨H1, I1, q1⟩
theorem eG (ha : PT X a tA) (hb : PW X (.BoolOp .Or (b :: rest) pos) uT) : PW X (.BoolOp .Or (a :: b :: rest) pos) (qS tA uT) := by
 intro wh pins s σ H Q I h
 refine isTrue_or (au (ha pins s σ H _ I h) fun c s1 ⟨H1, I1, q1⟩ => ?_)
 cases c with
 | true => exact ⟨H1, I1, q1⟩
 | false => exact hb wh pins s1 σ H1 Q I1 q1
theorem eI (ha : PT X a tA) : PT X (.UnaryOp .Not a pos) (qT tA) := by
 intro pins s σ H Q I h
 exact isTrue_not (ha pins s σ H (fun c H1 => Q (!c) H1) I h)
noncomputable def qU (ta tb : TE) : TE := fun σ H Q => ta σ H fun x H1 => ∃ c, x = .bl c /\ if c = true then tb σ H1 Q else Q (.bl false) H1
noncomputable def qV (ta tb : TE) : TE := fun σ H Q => ta σ H fun x H1 => ∃ c, x = .bl c /\ if c = true then Q (.bl true) H1 else tb σ H1 Q
noncomputable def qW (ta : TE) : TE := fun σ H Q => ta σ H fun x H1 => ∃ c, x = .bl c /\ Q (.bl (!c)) H1
theorem nv {op} {t : TE} (h : PE X a t) : PE X (.BoolOp op [a] pos) t := fun pins s σ H Q I hw => BoolOp_one (h pins s σ H Q I hw)
theorem ny (ha : PE X a ta) (hb : PE X (.BoolOp .And (b :: rest) pos) tb) : PE X (.BoolOp .And (a :: b :: rest) pos) (qU ta tb) := by
 intro pins s σ H Q I h
 refine BoolOp_and (au (ha pins s σ H _ I h) fun v s1 ⟨x, H1, I1, r1, q1⟩ => ?_)
 obtain ⟨c, rfl, q1⟩ := q1
 cases r1
 refine adF ?_
 cases c with
 | true => exact hb pins s1 σ H1 Q I1 q1
 | false => exact ⟨.bl false, H1, I1, rfl, q1⟩
theorem Nr (ha : PE X a ta) (hb : PE X (.BoolOp .Or (b :: rest) pos) tb) : PE X (.BoolOp .Or (a :: b :: rest) pos) (qV ta tb) := by
 intro pins s σ H Q I h
 refine BoolOp_or (au (ha pins s σ H _ I h) fun v s1 ⟨x, H1, I1, r1, q1⟩ => ?_)
 obtain ⟨c, rfl, q1⟩ := q1
 cases r1
 refine adF ?_
 cases c with
 | false => exact hb pins s1 σ H1 Q I1 q1
 | true => exact ⟨.bl true, H1, I1, rfl, q1⟩
theorem GI (ha : PE X a ta) : PE X (.UnaryOp .Not a pos) (qW ta) := by
 intro pins s σ H Q I h
 refine UnaryOp_ (au (ha pins s σ H _ I h) fun v s1 ⟨x, H1, I1, r1, q1⟩ => ?_)
 obtain ⟨c, rfl, q1⟩ := q1
 cases r1
 exact not_of (adF ⟨.bl (!c), H1, I1, rfl, q1⟩)
noncomputable def qX (t : TT) (ta tb : TE) : TE := fun σ H Q => t σ H fun c H1 => if c = true then ta σ H1 Q else tb σ H1 Q
theorem GJ {c : ae4} (hc : PT X c tA) (ha : PE X a ta) (hb : PE X b tb) : PE X (.IfExp c a b pos) (qX tA ta tb) := by
 intro pins s σ H Q I h
 refine wpAny_IfExp (au (hc pins s σ H _ I h) fun d s1 ⟨H1, I1, q1⟩ => ?_)
 cases d with
 | true => exact ha pins s1 σ H1 Q I1 q1
 | false => exact hb pins s1 σ H1 Q I1 q1
end
end L2
namespace L2
open PySem PySem.Spec PyProof.Rows
noncomputable def ag (K : acB) (H : Hp) (a : acJ) (xs : List V) : Prop :=
 Rd H a (.lst xs) ∨
  ∃ (o : Obj) (af : Array acC) (n : Nat), K.lookup a = some o /\ o.cls = .type "list" /\ o.dict = none /\ o.data = .seq af n /\ af.size <= adb /\ Vals xs af.toList
noncomputable def az (K : acB) (H : Hp) (a : acJ) (xs : List V) : Prop :=
 Rd H a (.tup xs) ∨
  ∃ (o : Obj) (af : Array acC) (n : Nat), K.lookup a = some o /\ o.cls = .type "tuple" /\ o.data = .seq af n /\ af.size <= adb /\ Vals xs af.toList
noncomputable def Nt : acC -> Option V
 | .none => some .non
 | .bool b => some (.bl b)
 | .int i _ => some (.int i)
 | .str x _ => some (.str x)
 | .bytes b _ => some (.byt b)
 | .float b _ => some (.flt b)
 | .ref a => some (.ref a)
 | .type n => some (.ty n)
 | _ => none
theorem RelV.abs {x : V} {u : acC} (r : RelV x u) : Nt u = some x := by
 cases x with
 | non => cases r; rfl
 | bl _ => cases r; rfl
 | int _ => obtain ⟨t, rfl⟩ := r; rfl
 | str _ => obtain ⟨t, rfl⟩ := r; rfl
 | byt _ => obtain ⟨t, rfl⟩ := r; rfl
 | flt _ => obtain ⟨t, rfl⟩ := r; rfl
 | ref _ => cases r; rfl
 | ty _ => cases r; rfl
theorem RelV.inj {x y : V} {u : acC} (r : RelV x u) (q : RelV y u) : x = y := Option.some.inj (r.abs.symm.trans q.abs)
theorem Vals.inj : ∀ {xs ys : List V} {us : List acC}, Vals xs us -> Vals ys us -> xs = ys
 | _, _, _, .nil, .nil => rfl
 | _, _, _, .cons r t, .cons r' t' => by rw [r.inj r', Vals.inj t t']
section
variable {X : Cx} {pins : List (acJ × Obj)} {σ : St} {H : Hp} {s : acF} {a : acJ} {xs ys : List V}
theorem ag.of {K : acB} (h : H a = some (.lst xs)) : ag K H a xs := .inl (.inl h)
theorem az.of {K : acB} (h : H a = some (.tup xs)) : az K H a xs := .inl (.inl h)
theorem Inv.list (I : Inv X pins σ H s) (h : ag X.K H a xs) : ∃ af : List acC, Vals xs af /\ PlainL s.heap a af.toArray /\ xs.length <= adb := by
 rcases h with h | ⟨o, af, n, hk, hc, hd, hs, hz, r⟩
 ·obtain ⟨z, af, n, r, e⟩ := h.ok I.ai
  exact ⟨af, r, ⟨_, n, e, rfl, rfl, rfl⟩, z⟩
 ·refine ⟨af.toList, r, ⟨o, n, I.b0 a o hk, hc, hd, by simpa using hs⟩, ?_⟩
  have e := r.length
  simp only [afs] at e
  omega
theorem Inv.tuple (I : Inv X pins σ H s) (h : az X.K H a xs) : ∃ af : List acC, Vals xs af /\ IsTup s.heap a af.toArray /\ xs.length <= adb := by
 rcases h with h | ⟨o, af, n, hk, hc, hs, hz, r⟩
 ·obtain ⟨z, af, r, p⟩ := h.ok I.ai
  exact ⟨af, r, p, z⟩
 ·refine ⟨af.toList, r, ⟨o, I.b0 a o hk, hc, n, by simpa using hs⟩, ?_⟩
  have e := r.length
  simp only [afs] at e
  omega
theorem Inv.GK (I : Inv X pins σ H s) (h : ag X.K H a xs) (h' : ag X.K H a ys) : xs = ys := by
 obtain ⟨af, r, ⟨o, n, e, _, _, d⟩, _⟩ := I.list h
 obtain ⟨its', r', ⟨o', n', e', _, _, d'⟩, _⟩ := I.list h'
 rw [e] at e'; cases e'
 rw [d] at d'
 injection d' with d1 _
 have : af = its' := by simpa using congrArg ajp d1
 subst this
 exact r.inj r'
theorem Inv.Nu (I : Inv X pins σ H s) (h : az X.K H a xs) (h' : az X.K H a ys) : xs = ys := by
 obtain ⟨af, r, ⟨o, e, _, n, d⟩, _⟩ := I.tuple h
 obtain ⟨its', r', ⟨o', e', _, n', d'⟩, _⟩ := I.tuple h'
 rw [e] at e'; cases e'
 rw [d] at d'
 injection d' with d1 _
 have : af = its' := by simpa using congrArg ajp d1
 subst this
 exact r.inj r'
end
noncomputable abbrev Cx.gK (X : Cx) (E : acC -> acF -> Prop) : Cx := { X with xe := E }
noncomputable abbrev Cx.uU (X : Cx) : Cx := X.gK fun _ _ => False
theorem Cx.Ok.gK {X : Cx} (ok : X.Ok) (E : acC -> acF -> Prop) : (X.gK E).Ok :=
 ⟨ok.mod, ok.kind, ok.glob, ok.blt, ok.above, ok.inj, ok.has, ok.cab, ok.hd, ok.frames, ok.stk, ok.exf, ok.bs, ok.bsz, ok.noex, ok.exfs, ok.fo, ok.frf⟩
theorem Cx.Ok.jh {X : Cx} {E : acC -> acF -> Prop} (ok : (X.gK E).Ok) : X.Ok :=
 ⟨ok.mod, ok.kind, ok.glob, ok.blt, ok.above, ok.inj, ok.has, ok.cab, ok.hd, ok.frames, ok.stk, ok.exf, ok.bs, ok.bsz, ok.noex, ok.exfs, ok.fo, ok.frf⟩
section
variable {X : Cx} {pins : List (acJ × Obj)} {σ : St} {H : Hp} {s : acF} {E : acC -> acF -> Prop}
theorem Inv.gK (I : Inv X pins σ H s) (E : acC -> acF -> Prop) : Inv (X.gK E) pins σ H s := ⟨I.ok.gK E, I.os, I.bare, I.base, I.loc, I.cell, I.free, I.eF, I.pin, I.ai, I.len⟩
theorem Inv.jh (I : Inv (X.gK E) pins σ H s) : Inv X pins σ H s := ⟨I.ok.jh, I.os, I.bare, I.base, I.loc, I.cell, I.free, I.eF, I.pin, I.ai, I.len⟩
theorem SP.jh {D : Ends} {f : Flow} {s' : acF} (h : SP (X.gK E) pins D f s') : SP X pins D f s' := by
 cases f with
 | next => obtain ⟨σ', H', I, q⟩ := h; exact ⟨σ', H', I.jh, q⟩
 | brk => obtain ⟨σ', H', I, q⟩ := h; exact ⟨σ', H', I.jh, q⟩
 | cont => obtain ⟨σ', H', I, q⟩ := h; exact ⟨σ', H', I.jh, q⟩
 | ret u => obtain ⟨v, σ', H', I, r, q⟩ := h; exact ⟨v, σ', H', I.jh, r, q⟩
theorem bq.uU {st : List afU} {t : TS} (h : bq X.uU st t) : bq X st t := fun pins s σ H D I hw =>
 adz (h pins s σ H D (I.gK _) hw) (fun _ _ q => q.jh) fun _ _ z => ae7 z
end
section
variable {X : Cx} {st : afU} {rest : List afU} {t u : TS} {e : ae4} {te : TE} {pos : Pos}
noncomputable def qY : TS := fun D σ H => D.nx σ H
noncomputable def nz (t u : TS) : TS := fun D σ H => t { D with nx := u D } σ H
theorem a7 : bq X [] qY := fun _ _ σ H _ I h => ah4 ⟨σ, H, I, h⟩
theorem ao (h1 : PS X st t) (h2 : bq X rest u) : bq X (st :: rest) (nz t u) := by
 intro pins s σ H D I h
 refine ajt (au (h1 pins s σ H { D with nx := u D } I h) fun f s1 q => ?_)
 cases f with
 | next =>
  obtain ⟨σ', H', I', q⟩ := q
  exact h2 pins s1 σ' H' D I' q
 | ret v => exact q
 | brk => exact q
 | cont => exact q
theorem ar (h1 : PS X st t) : bq X [st] t := by
 intro pins s σ H D I h
 refine ajt (au (h1 pins s σ H D I h) fun f s1 q => ?_)
 cases f with
 | next => exact ah4 q
 | ret v => exact q
 | brk => exact q
 | cont => exact q
theorem Inv.quiet {pins : List (acJ × Obj)} {σ : St} {H : Hp} {s : acF} (I : Inv X pins σ H s) : interactive X.env = false := by simp [interactive, I.ok.kind]
noncomputable def qZ (te : TE) : TS := fun D σ H => te σ H fun _ H1 => D.nx σ H1
theorem eJ (he : PE X e te) (hs : ah5 e none pos.line X.env = pure false := by rfl) : PS X (.Expr e pos) (qZ te) := by
 intro pins s σ H D I h
 exact wpAny_Expr_any (au (he pins s σ H _ I h) fun v s1 ⟨x, H1, I1, r1, q1⟩ => ⟨σ, H1, I1, q1⟩) I.quiet hs
noncomputable def q8 (te : TE) : TS := fun D σ H => te σ H D.rt
theorem aI (he : PE X e te) : PS X (.Return (some e) pos) (q8 te) := by
 intro pins s σ H D I h
 exact wpAny_Return_some (au (he pins s σ H _ I h) fun v s1 ⟨x, H1, I1, r1, q1⟩ => ⟨x, σ, H1, I1, r1, q1⟩)
noncomputable def q9 (c : TT) (t u : TS) : TS := fun D σ H => c σ H fun b H1 => if b = true then t D σ H1 else u D σ H1
theorem aY {c : ae4} {a b : List afU} {tc : TT} (hc : PT X c tc) (ha : bq X a t) (hb : bq X b u) : PS X (.If c a b pos) (q9 tc t u) := by
 intro pins s σ H D I h
 refine wpAny_If (au (hc pins s σ H _ I h) fun d s1 ⟨H1, I1, q1⟩ => ?_)
 cases d with
 | true => exact ha pins s1 σ H1 D I1 q1
 | false => exact hb pins s1 σ H1 D I1 q1
end
noncomputable abbrev TG := V -> St -> Hp -> (St -> Hp -> Prop) -> Prop
noncomputable abbrev lx := List V -> St -> Hp -> (St -> Hp -> Prop) -> Prop
noncomputable def PG (X : Cx) (target : ae4) (t : TG) : Prop :=
 ∀ (pins : List (acJ × Obj)) (s : acF) (σ : St) (H : Hp) (v : V) (u : acC) (Q : St -> Hp -> Prop), Inv X pins σ H s -> RelV v u -> t v σ H Q ->
  ac0 (model X.prog X.w) X.A (assign target X.env u) (fun _ s' => ∃ σ' H', Inv X pins σ' H' s' /\ Q σ' H') X.xe s
noncomputable def uV (X : Cx) (ts : List ae4) (t : lx) : Prop :=
 ∀ (pins : List (acJ × Obj)) (s : acF) (σ : St) (H : Hp) (vs : List V) (us : List acC) (Q : St -> Hp -> Prop), Inv X pins σ H s -> Vals vs us -> t vs σ H Q ->
  ac0 (model X.prog X.w) X.A (assignInOrder ((ahm ts X.env).map (·.2)) us) (fun _ s' => ∃ σ' H', Inv X pins σ' H' s' /\ Q σ' H') X.xe s
noncomputable abbrev Ai := V -> V -> V -> Hp -> (Hp -> Prop) -> Prop
noncomputable def GL (X : Cx) (t : Ai) : Prop :=
 ∀ (pins : List (acJ × Obj)) (s : acF) (σ : St) (H : Hp) (o i v : V) (ov iv u : acC) (Q : Hp -> Prop), Inv X pins σ H s -> RelV o ov -> RelV i iv -> RelV v u -> t o i v H Q ->
  ac0 (model X.prog X.w) X.A (setItem ov iv u) (fun _ s' => ∃ H', Inv X pins σ H' s' /\ Q H') X.xe s
section
variable {X : Cx} {pos : Pos}
noncomputable def bM (i : Nat) : TG := fun v σ H Q => Q (σ.set i (some v)) H
theorem bb {i : Nat} {x : Str} (hN : X.N.Nodup) (hi : X.N[i]? = some x) (hx : Loc X.env.scope x) (hf : X.fn x = true ∨ X.env.scope.names.lookup x = some .local := by first | exact .inl rfl | exact .inr rfl | assumption) : PG X (.Name x pos) (bM i) := by
 intro pins s σ H v u Q I r h
 exact wpAny_assign_Name (GD I hN hi hx r (fun s' I' => ⟨_, H, I', h⟩) hf)
noncomputable def gL : lx := fun vs σ H Q => vs = [] /\ Q σ H
noncomputable def ck (t : TG) (u : lx) : lx := fun vs σ H Q => ∃ v r, vs = v :: r /\ t v σ H fun σ' H' => u r σ' H' Q
theorem iC : uV X [] gL := by
 intro pins s σ H vs us Q I r h
 obtain ⟨e, h⟩ := h
 subst e
 cases r
 exact assignInOrder_nil ⟨σ, H, I, h⟩
theorem cP {e : ae4} {es : List ae4} {t : TG} {u : lx} (h1 : PG X e t) (h2 : uV X es u)
 (hs : (ahm (e :: es) X.env).map (·.2) = assign e X.env :: (ahm es X.env).map (·.2) := by rfl) : uV X (e :: es) (ck t u) := by
 intro pins s σ H vs us Q I r h
 obtain ⟨v, vr, e1, h⟩ := h
 subst e1
 cases r with
 | cons r rr =>
  rw [hs]
  refine assignInOrder_cons (au (h1 pins s σ H _ _ _ I r h) fun _ s1 ⟨σ1, H1, I1, q1⟩ => ?_)
  exact h2 pins s1 σ1 H1 _ _ Q I1 rr q1
noncomputable def gM (K : acB) (n : Nat) (t : lx) : TG := fun v σ H Q => ∃ a xs, v = .ref a /\ az K H a xs /\ xs.length = n /\ t xs σ H Q
theorem iD {es : List ae4} {k : Nat} {t : lx} {n : Nat} (hc : X.calm = true) (h : uV X es t)
 (hn : (ahm es X.env).length = n := by rfl) (eL : (ahm es X.env).findIdx? (·.1) = none := by rfl) : PG X (.Tuple es k pos) (gM X.K n t) := by
 intro pins s σ H v u Q I r hw
 obtain ⟨a, xs, e1, hq, hl, hw⟩ := hw
 subst e1
 cases r
 obtain ⟨af, rv, ht, hz⟩ := I.tuple hq
 refine assign_Tuple_tuple (I.ok.hd hc) ht (by simp [hn, <- hl, rv.length]) eL fun h' hx => ?_
 have I1 : Inv X pins σ H { s with heap := h' } := I.kept (t' := s.toks) fun b o e => hx b o (ade (acK e)) e
 exact h pins _ σ H xs _ Q I1 (by simpa using rv) hw
noncomputable def iE (to ti : TE) (t : Ai) : TG := fun v σ H Q => to σ H fun o H1 => ti σ H1 fun i H2 => t o i v H2 fun H3 => Q σ H3
theorem Aj {o i : ae4} {to ti : TE} {t : Ai} (ho : PE X o to) (hi : PE X i ti) (hs : GL X t)
 (ha : ∀ v, assign (.Subscript o i pos) X.env v = (do
   let ov <- holding [v] (eval o X.env)
   let iv <- holding [v, ov] (eval i X.env)
   akK pos
   holding [v, ov, iv] (setItem ov iv v)
   release [v, ov, iv] []) := by intro _; rfl) : PG X (.Subscript o i pos) (iE to ti t) := by
 intro pins s σ H v u Q I r h
 rw [ha]
 refine acA (adK (au (ho pins s σ H _ I h) fun ov s1 ⟨x, H1, I1, r1, q1⟩ => ?_))
 refine acA (adK (au (hi pins s1 σ H1 _ I1 q1) fun iv s2 ⟨y, H2, I2, r2, q2⟩ => ?_))
 refine acA (ahC (acA (adK (au (hs pins s2 σ H2 x y v ov iv u _ I2 r1 r2 r q2) fun _ s3 ⟨H3, I3, q3⟩ => ?_))))
 exact wpAny_release ⟨σ, H3, I3, q3⟩
noncomputable def nA (te : TE) (g : TG) : TS := fun D σ H => te σ H fun x H1 => g x σ H1 D.nx
theorem Ak {tg e : ae4} {te : TE} {g : TG} (he : PE X e te) (hg : PG X tg g) (hs : swapsWithSole [tg] e pos.line X.env = pure false := by rfl) (hw : swappedStores [tg] e X.env = pure none := by rfl)
 (h1 : (ahm [tg] X.env).map (·.2) = [assign tg X.env] := by rfl) : PS X (.Assign [tg] e pos) (nA te g) := by
 intro pins s σ H D I h
 refine wpAny_Assign_stores (au (he pins s σ H _ I h) fun v s1 ⟨x, H1, I1, r1, q1⟩ => ?_) hs hw
 rw [h1]
 exact au (hg pins s1 σ H1 x v _ I1 r1 q1) fun _ s2 q => q
theorem aG {i : Nat} {x : Str} {e : ae4} {te : TE} {pos' : Pos} (hN : X.N.Nodup) (hi : X.N[i]? = some x) (hx : Loc X.env.scope x) (he : PE X e te) (hs : ah5 e (some (.Name x pos')) pos.line X.env = pure false := by rfl) (hf : X.fn x = true ∨ X.env.scope.names.lookup x = some .local := by first | exact .inl rfl | exact .inr rfl | assumption) :
 PS X (.Assign [.Name x pos'] e pos) (nA te (bM i)) := by
 intro pins s σ H D I h
 refine wpAny_Assign_Name (au (he pins s σ H _ I h) fun v s1 ⟨y, H1, I1, r1, q1⟩ => ?_) hs
 exact GD I1 hN hi hx r1 (fun s2 I2 => ⟨_, H1, I2, q1⟩) hf
end
section
variable {X : Cx} {pos : Pos}
end
structure It where
 go : Nat -> Hp -> Prop
 yld : Nat -> Hp -> V -> Hp -> Prop
 stop : Nat -> Hp -> Prop
noncomputable def cA (X : Cx) (pins : List (acJ × Obj)) (H : Hp) (b : acJ) : Prop :=
 H b = none /\ b ≠ X.env.locals /\ b ∉ X.fs /\ (b ∈ X.ex ∨ X.s₀.heap.objs.size <= b) /\ (∀ x c, X.env.cells.lookup x = some c -> c ≠ b) /\ ∀ p ∈ X.pn ++ pins, p.1 ≠ b
theorem Inv.gN {X : Cx} {pins : List (acJ × Obj)} {σ : St} {H H' : Hp} {s : acF} {b : acJ} (I : Inv X pins σ H s) (hb : s.heap.objs.size <= b) (hn : H' b = none) : cA X pins H' b := by
 refine ⟨hn, ag9 (ac8 I.lt hb), I.uP hb, .inr (acV I.sz hb), fun x c e z => ?_, fun p hp z => ?_⟩
 ·obtain ⟨v, q⟩ := I.cell x c e
  exact absurd (ac8 q.lt (by rw [z]; exact hb)) (aec _)
 ·exact absurd (ac8 (acK (I.pin p hp).1) (by rw [z]; exact hb)) (aec _)
structure Turn (P : ac2) (w : adw) (K : acB) (tg : ae4) (J : It) (fp : List acJ) (it : acJ) (tn : Nat -> aer -> Prop) : Prop where
 mem : it ∈ fp
 obj : ∀ i h, tn i h -> ∀ b ∈ fp, ∃ o, h.get? b = some o /\ ∀ v, o.data ≠ .cell v
 keep : ∀ i h h', tn i h -> (∀ b ∈ fp, ∀ o, h.get? b = some o -> h'.get? b = some o) -> tn i h'
 item : ∀ (X : Cx), X.prog = P -> X.w = w -> X.K = K -> X.calm = true -> ∀ (i : Nat) (pins : List (acJ × Obj)) (s : acF) (σ : St) (H : Hp) (E : acC -> acF -> Prop), Inv X pins σ H s -> (∀ b ∈ fp, cA X pins H b) -> tn i s.heap -> J.go i H ->
  ac0 (model P w) X.A (afW (.ref it)) (fun r s1 => ∃ u, r = some u /\
   ac0 (model P w) X.A (aeW tg (.ref it) u) (fun _ s2 => ∃ x H', Inv X pins σ H' s2 /\ RelV x u /\ J.yld i H x H' /\ tn (i + 1) s2.heap /\ ∀ b ∈ fp, H' b = none) E s1) E s
 done : ∀ (X : Cx), X.prog = P -> X.w = w -> X.K = K -> X.calm = true -> ∀ (i : Nat) (pins : List (acJ × Obj)) (s : acF) (σ : St) (H : Hp) (E : acC -> acF -> Prop), Inv X pins σ H s -> (∀ b ∈ fp, cA X pins H b) -> tn i s.heap -> J.stop i H ->
  ac0 (model P w) X.A (afW (.ref it)) (fun r s1 => r = none /\ Inv X pins σ H s1) E s
 self : ∀ (A : adD) (i : Nat) (s : acF) (Q : acC -> acF -> Prop) (E : acC -> acF -> Prop), tn i s.heap -> Q (.ref it) s -> ac0 (model P w) A (aky (.ref it)) Q E s
noncomputable abbrev TI := St -> Hp -> (It -> Hp -> Prop) -> Prop
noncomputable def GN (X : Cx) (pins : List (acJ × Obj)) (σ : St) (tg : ae4) (R : It -> Hp -> Prop) (ly : acC) (s2 : acF) : Prop :=
 ∃ (it : acJ) (fp : List acJ) (tn : Nat -> aer -> Prop) (J : It) (H' : Hp), ly = .ref it /\ Inv X pins σ H' s2 /\ Turn X.prog X.w X.K tg J fp it tn /\ tn 0 s2.heap /\ (∀ b ∈ fp, cA X pins H' b) /\ R J H'
noncomputable def PI (X : Cx) (tg iter : ae4) (wi : TI) : Prop :=
 ∀ (pins : List (acJ × Obj)) (s : acF) (σ : St) (H : Hp) (R : It -> Hp -> Prop), Inv X pins σ H s -> wi σ H R ->
  ac0 (model X.prog X.w) X.A (eval iter X.env) (fun v s1 => ac0 (model X.prog X.w) X.A (aky v) (GN X pins σ tg R) X.xe s1) X.xe s
theorem rf {M : Model} {A : adD} {E : acC -> acF -> Prop} {s : acF} {tg : ae4} {it : acJ} {u : acC} {o : Obj} {n : String} {vs : Array acC} {Q : Unit -> acF -> Prop} (ho : s.heap.get? it = some o) (hc : o.cls = .type n) (hd : o.data = .fields vs)
 (hn : ["enumerate", "zip", "dict_itemiterator", "dict_reverseitemiterator", "odict_iterator", "itertools.zip_longest", "itertools.pairwise"].contains n = false) (hQ : Q () s) : ac0 M A (aeW tg (.ref it) u) Q E s := by
 unfold aeW
 cases tg <;> first
  | exact acD hQ
  | (cases u <;> first
      | exact acD hQ
      | (refine acA (wpAny_load ho ?_)
         rw [hc, hd]
         show ac0 M A (if (["enumerate", "zip", "dict_itemiterator", "dict_reverseitemiterator", "odict_iterator", "itertools.zip_longest", "itertools.pairwise"].contains n && vs[0]? == some (agF _)) = true then _ else _) Q E s
         rw [if_neg (by intro h; rw [hn, ahe] at h; cases h)]
         exact acD hQ))
noncomputable def fZ (K : acB) (a : acJ) : It :=
 ⟨fun i H => ∃ xs x, ag K H a xs /\ xs[i]? = some x, fun i H x H' => H' = H /\ ∀ xs, ag K H a xs -> xs[i]? = some x, fun i H => ∃ xs, ag K H a xs /\ xs.length <= i⟩
noncomputable def rg (K : acB) (a : acJ) : It :=
 ⟨fun i H => ∃ xs x, az K H a xs /\ xs[i]? = some x, fun i H x H' => H' = H /\ ∀ xs, az K H a xs -> xs[i]? = some x, fun i H => ∃ xs, az K H a xs /\ xs.length <= i⟩
noncomputable def f6 (lo : Int) (n : Nat) : It := ⟨fun i _ => i < n, fun i H x H' => H' = H /\ x = .int (lo + i), fun i _ => n <= i⟩
theorem Nv {P : ac2} {w : adw} {K : acB} {tg : ae4} (a it : acJ) : Turn P w K tg (fZ K a) [it] it (fun i h => h.IsListIter it a i) where
 mem := by simp
 obj := fun i h st b hb => by
  have e : b = it := by simpa using hb
  subst e
  obtain ⟨o, e, c, d⟩ := st
  exact ⟨o, e, fun v z => by rw [d] at z; cases z⟩
 keep := fun i h h' st k => st.at fun o e => k it (by simp) o e
 item := by
  intro X hP hw hK hc i pins s σ H E I hf st hg
  subst hP hw hK
  obtain ⟨xs, x, hq, hx⟩ := hg
  obtain ⟨af, rv, p, hz⟩ := I.list hq
  obtain ⟨u, hu, ru⟩ := rv.get hx
  obtain ⟨f0, f1, f2, f3, f4, f5⟩ := hf it (by simp)
  refine wpAny_pyNext_list_item st p.isList (x := u) (by simpa using hu) fun h' dS sb => ?_
  have I1 : Inv X pins σ H { s with heap := h' } := I.turned (t' := s.toks) (fun b o hb e => (sb.2 b hb).trans e) f0 f1 f3 f4 f5
  obtain ⟨o, e, c, d⟩ := id dS
  exact ⟨u, rfl, rf (s := { s with heap := h' }) e c d (by decide) ⟨x, H, I1, ru, ⟨rfl, fun ys hy => by rw [I.GK hy hq]; exact hx⟩, dS, fun b hb => (hf b hb).1⟩⟩
 done := by
  intro X hP hw hK hc i pins s σ H E I hf st hg
  subst hP hw hK
  obtain ⟨xs, hq, hx⟩ := hg
  obtain ⟨af, rv, p, hz⟩ := I.list hq
  obtain ⟨f0, f1, f2, f3, f4, f5⟩ := hf it (by simp)
  have hl := rv.length
  exact wpAny_pyNext_list_end (I.ok.hd hc) st p.isList (by simp; omega) fun h' eb => ⟨rfl, I.turned (t' := s.toks) (fun b o hb e => eb b o hb e) f0 f1 f3 f4 f5⟩
 self := fun _ _ _ _ _ st h => wpAny_pyIter_listiter st h
theorem Nw {P : ac2} {w : adw} {K : acB} {tg : ae4} (a it : acJ) : Turn P w K tg (rg K a) [it] it (fun i h => h.IsTupleIter it a i) where
 mem := by simp
 obj := fun i h st b hb => by
  have e : b = it := by simpa using hb
  subst e
  obtain ⟨o, e, c, d⟩ := st
  exact ⟨o, e, fun v z => by rw [d] at z; cases z⟩
 keep := fun i h h' st k => st.at fun o e => k it (by simp) o e
 item := by
  intro X hP hw hK hc i pins s σ H E I hf st hg
  subst hP hw hK
  obtain ⟨xs, x, hq, hx⟩ := hg
  obtain ⟨af, rv, p, hz⟩ := I.tuple hq
  obtain ⟨u, hu, ru⟩ := rv.get hx
  obtain ⟨f0, f1, f2, f3, f4, f5⟩ := hf it (by simp)
  refine wpAny_pyNext_tuple_item st (show s.heap.IsTuple a af.toArray from p) (x := u) (by simpa using hu) fun h' dS sb => ?_
  have I1 : Inv X pins σ H { s with heap := h' } := I.turned (t' := s.toks) (fun b o hb e => (sb.2 b hb).trans e) f0 f1 f3 f4 f5
  obtain ⟨o, e, c, d⟩ := id dS
  exact ⟨u, rfl, rf (s := { s with heap := h' }) e c d (by decide) ⟨x, H, I1, ru, ⟨rfl, fun ys hy => by rw [I.Nu hy hq]; exact hx⟩, dS, fun b hb => (hf b hb).1⟩⟩
 done := by
  intro X hP hw hK hc i pins s σ H E I hf st hg
  subst hP hw hK
  obtain ⟨xs, hq, hx⟩ := hg
  obtain ⟨af, rv, p, hz⟩ := I.tuple hq
  obtain ⟨f0, f1, f2, f3, f4, f5⟩ := hf it (by simp)
  have hl := rv.length
  exact wpAny_pyNext_tuple_end (I.ok.hd hc) st (show s.heap.IsTuple a af.toArray from p) (by simp; omega) fun h' eb => ⟨rfl, I.turned (t' := s.toks) (fun b o hb e => eb b o hb e) f0 f1 f3 f4 f5⟩
 self := fun _ _ _ _ _ st h => wpAny_pyIter_tupleiter st h
theorem Nx {P : ac2} {w : adw} {K : acB} {tg : ae4} (it : acJ) (lo : Int) (n : Nat) : Turn P w K tg (f6 lo n) [it] it (fun i h => aiH h it (lo + (i : Nat) * 1) ((n : Int) - (i : Nat)) 1) where
 mem := by simp
 obj := fun i h st b hb => by
  have e : b = it := by simpa using hb
  subst e
  exact ⟨_, st, fun v z => by
   have z' : Data.fields _ = Data.cell v := z
   cases z'⟩
 keep := fun i h h' st k => k it (by simp) _ st
 item := by
  intro X hP hw hK hc i pins s σ H E I hf st hg
  subst hP hw hK
  obtain ⟨f0, f1, f2, f3, f4, f5⟩ := hf it (by simp)
  have W := Walks.range (prog := X.prog) (w := X.w) (I.ok.hd hc) it lo 1 n
  refine W.item i s _ _ hg st fun v h' tk hv dS kk => ?_
  obtain ⟨t, rfl⟩ := hv
  have I1 : Inv X pins σ H { s with heap := h', toks := tk } := I.turned (fun b o hb e => kk b o (by simpa using hb) e) f0 f1 f3 f4 f5
  refine ⟨_, rfl, rf (s := { s with heap := h', toks := tk }) (n := "range_iterator") dS rfl rfl (by decide) ⟨.int (lo + i), H, I1, ⟨t, ?_⟩, ⟨rfl, rfl⟩, dS, fun b hb => (hf b hb).1⟩⟩
  rw [Int.mul_one]
 done := by
  intro X hP hw hK hc i pins s σ H E I hf st hg
  subst hP hw hK
  obtain ⟨f0, f1, f2, f3, f4, f5⟩ := hf it (by simp)
  exact ahT (I.ok.hd hc) st (by have : n <= i := hg; omega) fun h' eb => ⟨rfl, I.turned (t' := s.toks) (fun b o hb e => eb b o hb e) f0 f1 f3 f4 f5⟩
 self := fun _ _ _ _ _ st h => ahU st h
end L2
namespace L2
open PySem PySem.Spec PyProof.Rows
section
variable {X : Cx} {tg : ae4}
noncomputable def lz (K : acB) (tl : TE) : TI := fun σ H R => tl σ H fun x H1 => ∃ a, x = .ref a /\ (∃ xs, ag K H1 a xs) /\ R (fZ K a) H1
noncomputable def nB (K : acB) (tl : TE) : TI := fun σ H R => tl σ H fun x H1 => ∃ a, x = .ref a /\ (∃ xs, az K H1 a xs) /\ R (rg K a) H1
theorem b5 {l : ae4} {tl : TE} (hl : PE X l tl) : PI X tg l (lz X.K tl) := by
 intro pins s σ H R I h
 refine au (hl pins s σ H _ I h) fun v s1 ⟨x, H1, I1, r1, q1⟩ => ?_
 obtain ⟨a, e, ⟨xs, hq⟩, q⟩ := q1
 subst e
 cases r1
 obtain ⟨af, rv, p, hz⟩ := I1.list hq
 refine agr p.isList ?_
 refine ⟨s1.heap.objs.size, [s1.heap.objs.size], _, _, H1, rfl, I1.kept (t' := s1.toks) fun b o e => acE _ e, Nv a _, ⟨_, acT _ rfl, rfl, rfl⟩, fun b hb => ?_, q⟩
 have e : b = s1.heap.objs.size := by simpa using hb
 subst e
 exact I1.gN (ac1 _) (I1.ai.fresh (ac1 _))
theorem GO {l : ae4} {tl : TE} (hl : PE X l tl) : PI X tg l (nB X.K tl) := by
 intro pins s σ H R I h
 refine au (hl pins s σ H _ I h) fun v s1 ⟨x, H1, I1, r1, q1⟩ => ?_
 obtain ⟨a, e, ⟨xs, hq⟩, q⟩ := q1
 subst e
 cases r1
 obtain ⟨af, rv, p, hz⟩ := I1.tuple hq
 refine aiT (show s1.heap.IsTuple a af.toArray from p) ?_
 refine ⟨s1.heap.objs.size, [s1.heap.objs.size], _, _, H1, rfl, I1.kept (t' := s1.toks) fun b o e => acE _ e, Nw a _, ⟨_, acT _ rfl, rfl, rfl⟩, fun b hb => ?_, q⟩
 have e : b = s1.heap.objs.size := by simpa using hb
 subst e
 exact I1.gN (ac1 _) (I1.ai.fresh (ac1 _))
theorem GP {pins : List (acJ × Obj)} {σ : St} {H : Hp} {s : acF} {R : It -> Hp -> Prop} {E : acC -> acF -> Prop} {lo hi : Int} {t u v : Tok} {tk : Nat} (I : Inv X pins σ H s) (h1 : -(2 ^ 62) <= lo) (h2 : lo < 2 ^ 62) (h3 : -(2 ^ 62) <= hi) (h4 : hi < 2 ^ 62)
 (q : R (f6 lo (hi - lo).toNat) H) : ac0 (model X.prog X.w) X.A (aky (.ref s.heap.objs.size)) (GN X pins σ tg R) E { s with heap := s.heap.push { cls := .type "range", data := .fields #[.int lo t, .int hi u, .int 1 v] }, toks := tk } := by
 refine aiU (IsRange.new ..) (small_one h1 h2 h3 h4) ?_
 have I1 : Inv X pins σ H { s with heap := s.heap.push { cls := .type "range", data := .fields #[.int lo t, .int hi u, .int 1 v] }, toks := tk } := I.kept fun b o e => acE _ e
 refine ⟨(s.heap.push { cls := .type "range", data := .fields #[.int lo t, .int hi u, .int 1 v] }).objs.size, [(s.heap.push { cls := .type "range", data := .fields #[.int lo t, .int hi u, .int 1 v] }).objs.size], _, _, H, rfl,
  I1.kept (t' := tk) fun b o e => acE _ e, Nx _ lo (hi - lo).toNat, ?_, fun b hb => ?_, q⟩
 ·have e1 : lo + ((0 : Nat) : Int) * 1 = lo := by simp
  have e2 : (((hi - lo).toNat : Nat) : Int) - ((0 : Nat) : Int) = adS lo hi 1 := by rw [rangeSize_one]; split <;> omega
  show aiH _ _ (lo + ((0 : Nat) : Int) * 1) ((((hi - lo).toNat : Nat) : Int) - ((0 : Nat) : Int)) 1
  rw [e1, e2]
  exact acT _ rfl
 ·have e : b = (s.heap.push { cls := .type "range", data := .fields #[.int lo t, .int hi u, .int 1 v] }).objs.size := by simpa using hb
  subst e
  exact I1.gN (ac1 _) (I1.ai.fresh (ac1 _))
noncomputable def nC (ta : TA) : TI := fun σ H R => ta σ H fun vs H1 => ∃ j : Int, vs = [.int j] /\ -(2 ^ 62) <= j /\ j < 2 ^ 62 /\ R (f6 0 j.toNat) H1
noncomputable def nD (ta : TA) : TI := fun σ H R => ta σ H fun vs H1 => ∃ i j : Int, vs = [.int i, .int j] /\ (-(2 ^ 62) <= i /\ i < 2 ^ 62 /\ -(2 ^ 62) <= j /\ j < 2 ^ 62) /\ R (f6 i (j - i).toNat) H1
theorem gO {a : ae4} {ta : TA} {p pos : Pos} (hg : Gl X "range") (hm : X.mg "range" = none) (ha : PA X [a] ta) (hs : adv [a] X.env = [(false, eval a X.env)] := by rfl) : PI X tg (.Call (.Name "range" p) [a] [] pos) (nC ta) := by
 intro pins s σ H R I h
 refine Call_ (fY I hg hm akd (ad4 (au (ha pos pins s σ H _ I h) fun us s1 ⟨vs, H1, I1, r1, q1⟩ => ?_) hs rfl))
 obtain ⟨j, e, q1, q2, q⟩ := q1
 subst e
 cases r1 with
 | cons r rr =>
  cases rr
  obtain ⟨t, rfl⟩ := r
  exact call_range_1 (GP I1 (by omega) (by omega) q1 q2 (by simpa using q))
theorem Ny {a b : ae4} {ta : TA} {p pos : Pos} (hg : Gl X "range") (hm : X.mg "range" = none) (ha : PA X [a, b] ta) (hs : adv [a, b] X.env = [(false, eval a X.env), (false, eval b X.env)] := by rfl) (cB : adv [b] X.env = [(false, eval b X.env)] := by rfl) :
 PI X tg (.Call (.Name "range" p) [a, b] [] pos) (nD ta) := by
 intro pins s σ H R I h
 refine Call_ (fY I hg hm akd (ad4 (au (ha pos pins s σ H _ I h) fun us s1 ⟨vs, H1, I1, r1, q1⟩ => ?_) (by rw [hs, cB]) (by rw [cB]; rfl)))
 obtain ⟨i, j, e, ⟨q1, q2, q3, q4⟩, q⟩ := q1
 subst e
 cases r1 with
 | cons r rr =>
  cases rr with
  | cons r' rr =>
   cases rr
   obtain ⟨t, rfl⟩ := r
   obtain ⟨t', rfl⟩ := r'
   exact call_range_2 (GP I1 q1 q2 q3 q4 q)
noncomputable def gP (wi : TI) (g : TG) (tb : TS) : TS := fun D σ H => wi σ H fun J H1 => ∃ W : Nat -> Nat -> St -> Hp -> Prop, (∃ m, W 0 m σ H1) /\ ∀ i m σ H, W i m σ H ->
 (J.stop i H /\ D.nx σ H) ∨ (J.go i H /\ ∃ N : St -> Hp -> Prop, (∀ σ' H', N σ' H' -> ∃ m', m' < m /\ W (i + 1) m' σ' H') /\ ∀ x H', J.yld i H x H' -> g x σ H' fun σ2 H2 => tb { D with nx := N, ct := N, bk := D.nx } σ2 H2)
noncomputable def lA (fp : List acJ) (h : aer) : List (acJ × Obj) := fp.filterMap fun b => (h.get? b).map fun o => (b, o)
theorem ji {fp : List acJ} {h : aer} {b : acJ} {o : Obj} (hb : b ∈ fp) (e : h.get? b = some o) : (b, o) ∈ lA fp h := agf.mpr ⟨b, hb, by rw [e]; rfl⟩
theorem Nz {fp : List acJ} {h : aer} {p : acJ × Obj} (hp : p ∈ lA fp h) : p.1 ∈ fp /\ h.get? p.1 = some p.2 := by
 obtain ⟨b, hb, e⟩ := agf.mp hp
 cases q : h.get? b with
 | none => rw [q] at e; cases e
 | some o =>
  rw [q] at e
  have e' : (b, o) = p := Option.some.inj e
  subst e'
  exact ⟨hb, q⟩
theorem Inv.pinned {pins : List (acJ × Obj)} {σ : St} {H : Hp} {s : acF} {fp : List acJ} (I : Inv X pins σ H s) (hf : ∀ b ∈ fp, cA X pins H b) (ho : ∀ b ∈ fp, ∃ o, s.heap.get? b = some o /\ ∀ v, o.data ≠ .cell v) : Inv X (pins ++ lA fp s.heap) σ H s :=
 I.gH fun p hp => (adj.mp hp).elim (fun z => I.pin p (acL _ z)) fun z => by
  obtain ⟨hb, e⟩ := Nz z
  obtain ⟨f0, f1, f2, _⟩ := hf p.1 hb
  obtain ⟨o, e', d⟩ := ho p.1 hb
  rw [e] at e'; cases e'
  exact ⟨e, f0, f1, f2, d⟩
theorem Inv.rh {pins pl : List (acJ × Obj)} {σ : St} {H : Hp} {s : acF} (I : Inv X (pins ++ pl) σ H s) : Inv X pins σ H s := I.gH fun p hp => I.pin p (acL _ (adW _ hp))
theorem cu {iter : ae4} {body : List afU} {wi : TI} {g : TG} {tb : TS} {pos : Pos} (hp : PassesOwn (model X.prog X.w) X.A X.env X.xe) (hc : X.calm = true) (hi : PI X tg iter wi) (hg : PG X tg g) (hb : bq X body tb)
 (hs : ∀ x, afh iter X.env x = pure x := by intro _; rfl) : PS X (.For tg iter body [] pos) (gP wi g tb) := by
 intro pins s σ H D I h
 refine wpAny_For (au (hi pins s σ H _ I h) fun v s1 h1 => au h1 fun ly s2 h2 => ?_) hs
 obtain ⟨it, fp, tn, J, H2, e, I2, T, cv, f2, W, ⟨m0, w0⟩, turn⟩ := h2
 subst e
 have Al : ∀ {H' : Hp}, (∀ b ∈ fp, H' b = none) -> ∀ b ∈ fp, cA X pins H' b := fun hn b hb => ⟨hn b hb, (f2 b hb).2⟩
 refine codeAny_forLoop_any (fun n s' => ∃ i σ' H', Inv X pins σ' H' s' /\ tn i s'.heap /\ (∀ b ∈ fp, H' b = none) /\ W i n σ' H') ?_ m0 ⟨0, σ, H2, I2, cv, fun b hb => (f2 b hb).1, w0⟩
 rintro n s3 ⟨i, σ3, H3, I3, f9, gb, w3⟩
 rcases turn i n σ3 H3 w3 with ⟨stop, qn⟩ | ⟨go, N, hN, step⟩
 ·refine agg hp (au (T.done X rfl rfl rfl hc i pins s3 σ3 H3 X.xe I3 (Al gb) f9 stop) fun r s4 ⟨hr, I4⟩ => ?_)
  subst hr
  exact ah4 ⟨σ3, H3, I4, qn⟩
 ·refine agg hp (au (T.item X rfl rfl rfl hc i pins s3 σ3 H3 X.xe I3 (Al gb) f9 go) fun r s4 ⟨u, hr, h4⟩ => ?_)
  subst hr
  refine agg hp (au h4 fun _ s5 ⟨x, H5, I5, r5, y5, dI, lB⟩ => ?_)
  have lC := I5.pinned (Al lB) (T.obj _ _ dI)
  refine agg hp (au (hg _ s5 σ3 H5 x u _ lC r5 (step x H5 y5)) fun _ s6 ⟨σ6, H6, I6, q6⟩ => ?_)
  refine agg hp (au (hb _ s6 σ6 H6 _ I6 q6) fun f s7 q7 => ?_)
  have again : ∀ {σ7 : St} {H7 : Hp}, Inv X (pins ++ lA fp s5.heap) σ7 H7 s7 -> N σ7 H7 -> ∃ m, m < n /\ ∃ i σ' H', Inv X pins σ' H' s7 /\ tn i s7.heap /\ (∀ b ∈ fp, H' b = none) /\ W i m σ' H' := fun {σ7 H7} I7 n7 => by
   obtain ⟨m', hm, w7⟩ := hN σ7 H7 n7
   refine ⟨m', hm, i + 1, σ7, H7, I7.rh, T.keep _ _ _ dI fun b hb o e => (I7.pin (b, o) (acL _ (acL _ (ji hb e)))).1, fun b hb => ?_, w7⟩
   obtain ⟨o, e, d⟩ := T.obj _ _ dI b hb
   exact (I7.pin (b, o) (acL _ (acL _ (ji hb e)))).2.1
  cases f with
  | next => obtain ⟨σ7, H7, I7, n7⟩ := q7; exact again I7 n7
  | cont => obtain ⟨σ7, H7, I7, n7⟩ := q7; exact again I7 n7
  | brk => obtain ⟨σ7, H7, I7, q7⟩ := q7; exact ⟨σ7, H7, I7.rh, q7⟩
  | ret v => obtain ⟨x7, σ7, H7, I7, r7, q7⟩ := q7; exact ⟨x7, σ7, H7, I7.rh, r7, q7⟩
end
theorem NA {K : acB} {a : acJ} {xs : List V} {g : TG} {tb : TS} {D : Ends} {σ : St} {H : Hp} (Pv : Nat -> St -> Hp -> Prop) (h0 : Pv 0 σ H) (hl : ∀ i σ H, i <= xs.length -> Pv i σ H -> ag K H a xs)
 (hs : ∀ i x σ H, xs[i]? = some x -> Pv i σ H -> g x σ H fun σ2 H2 => tb { D with nx := Pv (i + 1), ct := Pv (i + 1), bk := D.nx } σ2 H2) (hd : ∀ σ H, Pv xs.length σ H -> D.nx σ H) :
 ∃ W : Nat -> Nat -> St -> Hp -> Prop, (∃ m, W 0 m σ H) /\ ∀ i m σ H, W i m σ H ->
  ((fZ K a).stop i H /\ D.nx σ H) ∨ ((fZ K a).go i H /\ ∃ N : St -> Hp -> Prop, (∀ σ' H', N σ' H' -> ∃ m', m' < m /\ W (i + 1) m' σ' H') /\ ∀ x H', (fZ K a).yld i H x H' -> g x σ H' fun σ2 H2 => tb { D with nx := N, ct := N, bk := D.nx } σ2 H2) := by
 refine ⟨fun i m σ H => m = xs.length - i /\ i <= xs.length /\ Pv i σ H, ⟨xs.length, by simp, adf _, h0⟩, ?_⟩
 rintro i m σ H ⟨rfl, hi, p⟩
 have q := hl i σ H hi p
 by_cases aT : i < xs.length
 ·refine .inr ⟨⟨xs, xs[i], q, by simp [aT]⟩, Pv (i + 1), fun σ' H' p' => ⟨xs.length - (i + 1), by omega, rfl, aT, p'⟩, fun x H' y => ?_⟩
  obtain ⟨e, y⟩ := y
  subst e
  exact hs i x σ _ (y xs q) p
 ·have e : i = xs.length := by omega
  subst e
  exact .inl ⟨⟨xs, q, ac1 _⟩, hd σ H p⟩
theorem NB {lo : Int} {n : Nat} {g : TG} {tb : TS} {D : Ends} {σ : St} {H : Hp} (Pv : Nat -> St -> Hp -> Prop) (h0 : Pv 0 σ H)
 (hs : ∀ i σ H, i < n -> Pv i σ H -> g (.int (lo + i)) σ H fun σ2 H2 => tb { D with nx := Pv (i + 1), ct := Pv (i + 1), bk := D.nx } σ2 H2) (hd : ∀ σ H, Pv n σ H -> D.nx σ H) :
 ∃ W : Nat -> Nat -> St -> Hp -> Prop, (∃ m, W 0 m σ H) /\ ∀ i m σ H, W i m σ H ->
  ((f6 lo n).stop i H /\ D.nx σ H) ∨ ((f6 lo n).go i H /\ ∃ N : St -> Hp -> Prop, (∀ σ' H', N σ' H' -> ∃ m', m' < m /\ W (i + 1) m' σ' H') /\ ∀ x H', (f6 lo n).yld i H x H' -> g x σ H' fun σ2 H2 => tb { D with nx := N, ct := N, bk := D.nx } σ2 H2) := by
 refine ⟨fun i m σ H => m = n - i /\ i <= n /\ Pv i σ H, ⟨n, by simp, adf _, h0⟩, ?_⟩
 rintro i m σ H ⟨rfl, hi, p⟩
 by_cases aT : i < n
 ·refine .inr ⟨aT, Pv (i + 1), fun σ' H' p' => ⟨n - (i + 1), by omega, rfl, aT, p'⟩, fun x H' y => ?_⟩
  obtain ⟨e, y⟩ := y
  subst e y
  exact hs i σ _ aT p
 ·have e : i = n := by omega
  subst e
  exact .inl ⟨ac1 _, hd σ H p⟩
end L2
namespace L2
open PySem PySem.Spec PyProof.Rows
noncomputable abbrev R2 := V -> V -> Hp -> VK -> Prop
noncomputable def bJ (X : Cx) (f : acC -> acC -> Sem acC) (r : R2) : Prop :=
 ∀ (pins : List (acJ × Obj)) (s : acF) (σ : St) (H : Hp) (x y : V) (v u : acC) (Q : VK), Inv X pins σ H s -> RelV x v -> RelV y u -> r x y H Q ->
  ac0 (model X.prog X.w) X.A (f v u) (EP X pins σ Q) X.xe s
noncomputable def Am (X : Cx) (f : acC -> Sem acC) (r : V -> Hp -> VK -> Prop) : Prop :=
 ∀ (pins : List (acJ × Obj)) (s : acF) (σ : St) (H : Hp) (x : V) (v : acC) (Q : VK), Inv X pins σ H s -> RelV x v -> r x H Q ->
  ac0 (model X.prog X.w) X.A (f v) (EP X pins σ Q) X.xe s
noncomputable def cW (X : Cx) (f : acC) (r : List V -> Hp -> VK -> Prop) : Prop :=
 ∀ (pins : List (acJ × Obj)) (s : acF) (σ : St) (H : Hp) (xs : List V) (us : List acC) (Q : VK), Inv X pins σ H s -> Vals xs us -> r xs H Q ->
  ac0 (model X.prog X.w) X.A (call f us) (EP X pins σ Q) X.xe s
noncomputable def jk (r : R2) (ta tb : TE) : TE := fun σ H Q => ta σ H fun x H1 => tb σ H1 fun y H2 => r x y H2 Q
noncomputable def rj (r : V -> Hp -> VK -> Prop) (ta : TE) : TE := fun σ H Q => ta σ H fun x H1 => r x H1 Q
noncomputable def rI (C : Int -> Int -> Prop) (g : Int -> Int -> V) : R2 := fun x y H Q => ∃ i j, x = .int i /\ y = .int j /\ C i j /\ Q (g i j) H
noncomputable def ft (g : Int -> Int -> V) : R2 := fun x y H Q => ∃ i j, x = .int i /\ y = .int j /\ Q (g i j) H
noncomputable def rU (g : Int -> V) : V -> Hp -> VK -> Prop := fun x H Q => ∃ i, x = .int i /\ Q (g i) H
section
variable {X : Cx} {a b c : ae4} {ta tb tc : TE} {pos : Pos}
theorem An (ha : PE X a ta) (hb : PE X b tb) {pins : List (acJ × Obj)} {s : acF} {σ : St} {H : Hp} {R : V -> V -> Hp -> Prop} (I : Inv X pins σ H s)
 (h : ta σ H fun x H1 => tb σ H1 fun y H2 => R x y H2) {Q : acC -> acF -> Prop} {f : acC -> acC -> Sem acC}
 (hf : ∀ v u s2 x y H2, Inv X pins σ H2 s2 -> RelV x v -> RelV y u -> R x y H2 -> ac0 (model X.prog X.w) X.A (f v u) Q X.xe s2) :
 ac0 (model X.prog X.w) X.A (eval a X.env) (fun v s₁ => ac0 (model X.prog X.w) X.A (eval b X.env) (fun u s₂ => ac0 (model X.prog X.w) X.A (f v u) Q X.xe s₂) X.xe s₁) X.xe s := by
 refine au (ha pins s σ H _ I h) fun v s1 ⟨x, H1, I1, r1, q1⟩ => ?_
 refine au (hb pins s1 σ H1 _ I1 q1) fun u s2 ⟨y, H2, I2, r2, q2⟩ => ?_
 exact hf v u s2 x y H2 I2 r1 r2 q2
theorem aC {op : Operator} {r : R2} (ho : bJ X (ahD op) r) (ha : PE X a ta) (hb : PE X b tb) : PE X (.BinOp a op b pos) (jk r ta tb) := by
 intro pins s σ H Q I h
 exact wpAny_BinOp (An ha hb I h fun v u s2 x y H2 I2 rx ry q => ho pins s2 σ H2 x y v u Q I2 rx ry q)
theorem uW {op : UnaryOp} {r : V -> Hp -> VK -> Prop} (ho : Am X (unaryOp op) r) (ha : PE X a ta) : PE X (.UnaryOp op a pos) (rj r ta) := by
 intro pins s σ H Q I h
 exact UnaryOp_ (au (ha pins s σ H _ I h) fun v s1 ⟨x, H1, I1, r1, q1⟩ => ho pins s1 σ H1 x v Q I1 r1 q1)
theorem uX {f : acC -> acC -> Sem acC} {C : Int -> Int -> Prop} {g : Int -> Int -> Int}
 (rule : ∀ (i j : Int) (t u : Tok) (s : acF) (Q : acC -> acF -> Prop) (E : acC -> acF -> Prop), C i j -> Q (.int (g i j) s.toks) { s with toks := s.toks + 1 } -> ac0 (model X.prog X.w) X.A (f (.int i t) (.int j u)) Q E s) :
 bJ X f (rI C fun i j => .int (g i j)) := by
 intro pins s σ H x y v u Q I rx ry h
 obtain ⟨i, j, rfl, rfl, hc, q⟩ := h
 obtain ⟨t, rfl⟩ := rx
 obtain ⟨t', rfl⟩ := ry
 exact rule i j t t' s _ _ hc ⟨.int (g i j), H, I.tok _, ⟨_, rfl⟩, q⟩
theorem GQ {f : acC -> acC -> Sem acC} {g : Int -> Int -> Int}
 (rule : ∀ (i j : Int) (t u : Tok) (s : acF) (Q : acC -> acF -> Prop) (E : acC -> acF -> Prop), Q (.int (g i j) s.toks) { s with toks := s.toks + 1 } -> ac0 (model X.prog X.w) X.A (f (.int i t) (.int j u)) Q E s) :
 bJ X f (ft fun i j => .int (g i j)) := by
 intro pins s σ H x y v u Q I rx ry h
 obtain ⟨i, j, rfl, rfl, q⟩ := h
 obtain ⟨t, rfl⟩ := rx
 obtain ⟨t', rfl⟩ := ry
 exact rule i j t t' s _ _ ⟨.int (g i j), H, I.tok _, ⟨_, rfl⟩, q⟩
theorem uY {f : acC -> acC -> Sem acC} {g : Int -> Int -> Bool}
 (rule : ∀ (i j : Int) (t u : Tok) (s : acF) (Q : acC -> acF -> Prop) (E : acC -> acF -> Prop), Q (.bool (g i j)) s -> ac0 (model X.prog X.w) X.A (f (.int i t) (.int j u)) Q E s) :
 bJ X f (ft fun i j => .bl (g i j)) := by
 intro pins s σ H x y v u Q I rx ry h
 obtain ⟨i, j, rfl, rfl, q⟩ := h
 obtain ⟨t, rfl⟩ := rx
 obtain ⟨t', rfl⟩ := ry
 exact rule i j t t' s _ _ ⟨.bl (g i j), H, I, rfl, q⟩
noncomputable def NC (i j : Int) : Prop := 0 <= j /\ j <= 1000000 /\ i.natAbs < 2 ^ 64
theorem bh : bJ X (ahD .Add) (ft fun i j => .int (i + j)) := GQ fun _ _ _ _ _ _ _ q => add_int q
theorem eM : bJ X (ahD .Sub) (ft fun i j => .int (i - j)) := GQ fun _ _ _ _ _ _ _ q => sub_int q
theorem iF : bJ X (ahD .Mod) (rI (fun _ j => 0 < j) fun i j => .int (i % j)) := uX fun i j _ _ _ _ _ hc q => by
 have h1 : (0 : Int) < j := hc
 exact mod_int' (by omega) (by rw [Int.fmod_eq_emod_of_nonneg i (by omega)]; exact q)
theorem rk : bJ X (ahD .Pow) (rI NC fun i j => .int (i ^ j.toNat)) := uX fun _ _ _ _ _ _ _ hc q => pow_int_small hc.1 hc.2.1 hc.2.2 q
theorem ND {f : acC -> Sem acC} {g : Int -> Int}
 (rule : ∀ (i : Int) (t : Tok) (s : acF) (Q : acC -> acF -> Prop) (E : acC -> acF -> Prop), Q (.int (g i) s.toks) { s with toks := s.toks + 1 } -> ac0 (model X.prog X.w) X.A (f (.int i t)) Q E s) :
 Am X f (rU fun i => .int (g i)) := by
 intro pins s σ H x v Q I rx h
 obtain ⟨i, rfl, q⟩ := h
 obtain ⟨t, rfl⟩ := rx
 exact rule i t s _ _ ⟨.int (g i), H, I.tok _, ⟨_, rfl⟩, q⟩
theorem uZ : Am X (unaryOp .USub) (rU fun i => .int (-i)) := ND fun _ _ _ _ _ q => neg_int q
end
noncomputable def lD : V -> V -> Bool
 | .non, .non => true | .non, .int _ => true | .int _, .non => true | .non, .bl _ => true | .bl _, .non => true | .non, .str _ => true | .str _, .non => true
 | .int _, .int _ => true | .bl _, .bl _ => true | .str _, .str _ => true | .byt _, .byt _ => true
 | .int _, .str _ => true | .str _, .int _ => true | .bl _, .str _ => true | .str _, .bl _ => true
 | _, _ => false
noncomputable def rn : R2 := fun x y H Q => lD x y = true /\ Q (.bl (decide (x = y))) H
noncomputable def rp : R2 := fun x y H Q => lD x y = true /\ Q (.bl (!decide (x = y))) H
theorem GR {i j : Int} : decide (V.int i = V.int j) = (i == j) := by
 rw [aeX]
 simp
theorem GS {i j : Bool} : decide (V.bl i = V.bl j) = (i == j) := by
 rw [aeX]
 simp
theorem GU {i j : Str} : decide (V.str i = V.str j) = (i == j) := by
 rw [aeX]
 simp
theorem GV {i j : Array UInt8} : decide (V.byt i = V.byt j) = (i.toList == j.toList) := by
 rw [aeX]
 cases i
 cases j
 simp
section
variable {X : Cx} {a b c : ae4} {ta tb tc : TE} {pos : Pos}
theorem bE {pins : List (acJ × Obj)} {σ : St} {H : Hp} {s : acF} {Q : VK} {k k' : Bool} (I : Inv X pins σ H s) (q : Q (.bl k) H) (e : k = k') : EP X pins σ Q (.bool k') s := by
 subst e
 exact ⟨.bl k, H, I, rfl, q⟩
theorem dr : bJ X (aem .Eq) rn := by
 intro pins s σ H x y v u Q I rx ry h
 obtain ⟨hs, q⟩ := h
 cases x with
 | non =>
  cases rx
  cases y with
  | non => cases ry; exact PySem.EqNone.eq_none_none (bE I q (by simp))
  | bl j => cases ry; exact PySem.EqNone.eq_none_bool (bE I q (by simp))
  | int j => obtain ⟨t', rfl⟩ := ry; exact PySem.EqNone.eq_none_int (bE I q (by simp))
  | str j => obtain ⟨t', rfl⟩ := ry; exact PySem.EqNone.eq_none_str (bE I q (by simp))
  | _ => exact absurd (show false = true from hs) ac9
 | bl i =>
  cases rx
  cases y with
  | non => cases ry; exact PySem.EqNone.eq_bool_none (bE I q (by simp))
  | bl j => cases ry; exact eq_bool (bE I q GS)
  | str j => obtain ⟨t', rfl⟩ := ry; exact PySem.EqMixed.eq_bool_str (bE I q (by simp))
  | _ => exact absurd (show false = true from hs) ac9
 | int i =>
  obtain ⟨t, rfl⟩ := rx
  cases y with
  | non => cases ry; exact PySem.EqNone.eq_int_none (bE I q (by simp))
  | int j => obtain ⟨t', rfl⟩ := ry; exact eq_int (bE I q GR)
  | str j => obtain ⟨t', rfl⟩ := ry; exact PySem.EqMixed.eq_int_str (bE I q (by simp))
  | _ => exact absurd (show false = true from hs) ac9
 | str i =>
  obtain ⟨t, rfl⟩ := rx
  cases y with
  | non => cases ry; exact PySem.EqNone.eq_str_none (bE I q (by simp))
  | bl j => cases ry; exact PySem.EqMixed.eq_str_bool (bE I q (by simp))
  | int j => obtain ⟨t', rfl⟩ := ry; exact PySem.EqMixed.eq_str_int (bE I q (by simp))
  | str j => obtain ⟨t', rfl⟩ := ry; exact eq_str (bE I q GU)
  | _ => exact absurd (show false = true from hs) ac9
 | byt i =>
  obtain ⟨t, rfl⟩ := rx
  cases y with
  | byt j => obtain ⟨t', rfl⟩ := ry; exact PySem.W.eq_bytes (bE I q GV)
  | _ => exact absurd (show false = true from hs) ac9
 | _ => cases y <;> exact absurd (show false = true from hs) ac9
theorem GW : bJ X (aem .NotEq) rp := by
 intro pins s σ H x y v u Q I rx ry h
 obtain ⟨hs, q⟩ := h
 cases x with
 | non =>
  cases rx
  cases y with
  | non => cases ry; exact PySem.EqNone.ne_none_none (bE I q (by simp))
  | bl j => cases ry; exact PySem.EqNone.ne_none_bool (bE I q (by simp))
  | int j => obtain ⟨t', rfl⟩ := ry; exact PySem.EqNone.ne_none_int (bE I q (by simp))
  | str j => obtain ⟨t', rfl⟩ := ry; exact PySem.EqNone.ne_none_str (bE I q (by simp))
  | _ => exact absurd (show false = true from hs) ac9
 | bl i =>
  cases rx
  cases y with
  | non => cases ry; exact PySem.EqNone.ne_bool_none (bE I q (by simp))
  | bl j => cases ry; exact ne_bool (bE I q (congrArg not GS))
  | str j => obtain ⟨t', rfl⟩ := ry; exact PySem.EqMixed.ne_bool_str (bE I q (by simp))
  | _ => exact absurd (show false = true from hs) ac9
 | int i =>
  obtain ⟨t, rfl⟩ := rx
  cases y with
  | non => cases ry; exact PySem.EqNone.ne_int_none (bE I q (by simp))
  | int j => obtain ⟨t', rfl⟩ := ry; exact ne_int (bE I q (congrArg not GR))
  | str j => obtain ⟨t', rfl⟩ := ry; exact PySem.EqMixed.ne_int_str (bE I q (by simp))
  | _ => exact absurd (show false = true from hs) ac9
 | str i =>
  obtain ⟨t, rfl⟩ := rx
  cases y with
  | non => cases ry; exact PySem.EqNone.ne_str_none (bE I q (by simp))
  | bl j => cases ry; exact PySem.EqMixed.ne_str_bool (bE I q (by simp))
  | int j => obtain ⟨t', rfl⟩ := ry; exact PySem.EqMixed.ne_str_int (bE I q (by simp))
  | str j => obtain ⟨t', rfl⟩ := ry; exact ne_str (bE I q (congrArg not GU))
  | _ => exact absurd (show false = true from hs) ac9
 | byt i =>
  obtain ⟨t, rfl⟩ := rx
  cases y with
  | byt j => obtain ⟨t', rfl⟩ := ry; exact PySem.W.ne_bytes (bE I q (congrArg not GV))
  | _ => exact absurd (show false = true from hs) ac9
 | _ => cases y <;> exact absurd (show false = true from hs) ac9
theorem lE : bJ X (aem .Lt) (ft fun i j => .bl (decide (i < j))) := uY fun _ _ _ _ _ _ _ q => lt_int q
theorem gd : bJ X (aem .LtE) (ft fun i j => .bl (decide (i <= j))) := uY fun _ _ _ _ _ _ _ q => le_int q
theorem gQ : bJ X (aem .Gt) (ft fun i j => .bl (decide (j < i))) := uY fun _ _ _ _ _ _ _ q => gt_int q
theorem NF : bJ X (aem .GtE) (ft fun i j => .bl (decide (j <= i))) := uY fun _ _ _ _ _ _ _ q => ge_int q
theorem a9 (b : ae4) {op : akx} (h : op ≠ .In := by decide) (h2 : op ≠ .NotIn := by decide) : afr op b = false := by
 have e1 : (op == CmpOp.In) = false := by cases op <;> first | rfl | exact absurd rfl h
 have e2 : (op == CmpOp.NotIn) = false := by cases op <;> first | rfl | exact absurd rfl h2
 cases b <;> simp [afr, e1, e2]
theorem iG {op : akx} {r : R2} (ho : bJ X (aem op) r) (ha : PE X a ta) (hb : PE X b tb) (hm : afr op b = false) : PE X (.Compare a [op] [b] pos) (jk r ta tb) := by
 intro pins s σ H Q I h
 exact wpAny_Compare1 (An ha hb I h fun v u s2 x y H2 I2 rx ry q => ho pins s2 σ H2 x y v u Q I2 rx ry q) hm
noncomputable def nE (t : TE) : TT := fun σ H Q => t σ H fun x H' => ∃ k, x = .bl k /\ Q k H'
theorem ba {op : akx} {r : R2} (ho : bJ X (aem op) r) (ha : PE X a ta) (hb : PE X b tb) (hm : afr op b = false) : PT X (.Compare a [op] [b] pos) (nE (jk r ta tb)) := by
 intro pins s σ H Q I h
 refine ah3 (au (ha pins s σ H _ I h) fun v s1 ⟨x, H1, I1, r1, q1⟩ => au (hb pins s1 σ H1 _ I1 q1) fun u s2 ⟨y, H2, I2, r2, q2⟩ =>
  au (ho pins s2 σ H2 x y v u _ I2 r1 r2 q2) fun c s3 ⟨z, H3, I3, r3, k, e, q3⟩ => ?_) hm
 subst e
 cases r3
 exact adF ⟨H3, I3, q3⟩
noncomputable def nF (r r' : R2) (ta tb tc : TE) : TE := fun σ H Q => ta σ H fun x H1 => tb σ H1 fun y H2 => r x y H2 fun z H3 => ∃ k, z = .bl k /\
 (if k = true then tc σ H3 fun w' H4 => r' y w' H4 Q else Q (.bl false) H3)
theorem GX {op lF : akx} {r r' : R2} (ho : bJ X (aem op) r) (cJ : bJ X (aem lF) r') (ha : PE X a ta) (hb : PE X b tb) (hc : PE X c tc)
 (hm : lastMarks [op, lF] [b, c] = false := by with_unfolding_all rfl) : PE X (.Compare a [op, lF] [b, c] pos) (nF r r' ta tb tc) := by
 intro pins s σ H Q I h
 refine Compare_chain (au (ha pins s σ H _ I h) fun v s1 ⟨x, H1, I1, r1, q1⟩ => chain_link (au (hb pins s1 σ H1 _ I1 q1) fun u s2 ⟨y, H2, I2, r2, q2⟩ =>
  au (ho pins s2 σ H2 x y v u _ I2 r1 r2 q2) fun d s3 ⟨z, H3, I3, r3, k, e, q3⟩ => ?_)) hm
 subst e
 cases r3
 refine adF ?_
 cases k with
 | false => exact ite_ff ⟨.bl false, H3, I3, rfl, q3⟩
 | true => exact ite_tt (chain_last (au (hc pins s3 σ H3 _ I3 q3) fun w' s4 ⟨z', H4, I4, r4, q4⟩ => cJ pins s4 σ H4 y z' u w' Q I4 r2 r4 q4))
theorem Ao {op lF : akx} {r r' : R2} (ho : bJ X (aem op) r) (cJ : bJ X (aem lF) r') (ha : PE X a ta) (hb : PE X b tb) (hc : PE X c tc)
 (hm : lastMarks [op, lF] [b, c] = false := by with_unfolding_all rfl) : PT X (.Compare a [op, lF] [b, c] pos) (nE (nF r r' ta tb tc)) := by
 intro pins s σ H Q I h
 refine isTrue_chain (au (ha pins s σ H _ I h) fun v s1 ⟨x, H1, I1, r1, q1⟩ => test_link (au (hb pins s1 σ H1 _ I1 q1) fun u s2 ⟨y, H2, I2, r2, q2⟩ =>
  au (ho pins s2 σ H2 x y v u _ I2 r1 r2 q2) fun d s3 ⟨z, H3, I3, r3, k, e, q3⟩ => ?_)) hm
 subst e
 cases r3
 refine adF ?_
 cases k with
 | false =>
  obtain ⟨k', e', q'⟩ := q3
  cases e'
  exact ite_ff ⟨H3, I3, q'⟩
 | true =>
  refine ite_tt (test_last (au (hc pins s3 σ H3 _ I3 q3) fun w' s4 ⟨z', H4, I4, r4, q4⟩ => au (cJ pins s4 σ H4 y z' u w' _ I4 r2 r4 q4) fun d' s5 ⟨z2, H5, I5, r5, k2, e2, q5⟩ => ?_))
  subst e2
  cases r5
  exact adF ⟨H5, I5, q5⟩
theorem rq : (adb : Nat) < 2 ^ 63 := by rw [aeY]; decide
theorem vals1 {x : V} {us : List acC} (r : Vals [x] us) : ∃ u, us = [u] /\ RelV x u := by
 cases r with
 | cons r1 r2 => cases r2; exact ⟨_, rfl, r1⟩
theorem vals2 {x y : V} {us : List acC} (r : Vals [x, y] us) : ∃ u w', us = [u, w'] /\ RelV x u /\ RelV y w' := by
 cases r with
 | cons r1 r2 =>
  cases r2 with
  | cons r3 r4 => cases r4; exact ⟨_, _, rfl, r1, r3⟩
theorem GY (hc : X.calm = true) : cW X (.builtin "max") (fun xs H Q => ∃ i j, xs = [.int i, .int j] /\ Q (.int (if j > i then j else i)) H) := by
 intro pins s σ H xs us Q I r h
 obtain ⟨i, j, rfl, q⟩ := h
 obtain ⟨u, w', rfl, ⟨t, rfl⟩, ⟨t', rfl⟩⟩ := vals2 r
 refine max_two_ints (I.ok.hd hc) fun h' tk k => ⟨_, H, I.kept k, ?_, q⟩
 by_cases hj : j > i
 ·rw [if_pos hj, if_pos hj]; exact ⟨_, rfl⟩
 ·rw [if_neg hj, if_neg hj]; exact ⟨_, rfl⟩
theorem rz (hc : X.calm = true) : cW X (.builtin "min") (fun xs H Q => ∃ i j, xs = [.int i, .int j] /\ Q (.int (if j < i then j else i)) H) := by
 intro pins s σ H xs us Q I r h
 obtain ⟨i, j, rfl, q⟩ := h
 obtain ⟨u, w', rfl, ⟨t, rfl⟩, ⟨t', rfl⟩⟩ := vals2 r
 refine min_two_ints (I.ok.hd hc) fun h' tk k => ⟨_, H, I.kept k, ?_, q⟩
 by_cases hj : j < i
 ·rw [if_pos hj, if_pos hj]; exact ⟨_, rfl⟩
 ·rw [if_neg hj, if_neg hj]; exact ⟨_, rfl⟩
noncomputable def Ap (K : acB) (x : V) (H : Hp) (n : Nat) : Prop :=
 match x with
 | .str y => y.length <= adb /\ n = y.length
 | .byt y => y.size <= adb /\ n = y.size
 | .ref p => (∃ xs, ag K H p xs /\ n = xs.length) ∨ ∃ xs, az K H p xs /\ n = xs.length
 | _ => False
theorem fu : cW X (.builtin "len") (fun xs H Q => ∃ x n, xs = [x] /\ Ap X.K x H n /\ Q (.int n) H) := by
 intro pins s σ H xs us Q I r h
 obtain ⟨x, n, rfl, e, q⟩ := h
 obtain ⟨u, rfl, rx⟩ := vals1 r
 have hl := rq
 have hs : adb = 16777216 := aeY
 cases x with
 | str y =>
  obtain ⟨t, rfl⟩ := rx
  obtain ⟨hy, e'⟩ : y.length <= adb /\ n = y.length := e
  subst e'
  exact len_str (by omega) ⟨.int _, H, I.tok _, ⟨_, rfl⟩, q⟩
 | byt y =>
  obtain ⟨t, rfl⟩ := rx
  obtain ⟨hy, e'⟩ : y.size <= adb /\ n = y.size := e
  subst e'
  exact PySem.W.len_bytes (by omega) ⟨.int _, H, I.tok _, ⟨_, rfl⟩, q⟩
 | ref p =>
  cases rx
  have e' : (∃ xs, ag X.K H p xs /\ n = xs.length) ∨ ∃ xs, az X.K H p xs /\ n = xs.length := e
  rcases e' with ⟨xs, hx, e'⟩ | ⟨xs, hx, e'⟩
  ·subst e'
   obtain ⟨af, r', pl, hz⟩ := I.list hx
   have hlen := r'.length
   exact Calls.call_len_list pl.isList (by simp only [ac4]; omega) ⟨.int xs.length, H, I.tok _, ⟨_, by simp only [ac4]; rw [hlen]⟩, q⟩
  ·subst e'
   obtain ⟨af, r', pl, hz⟩ := I.tuple hx
   have hlen := r'.length
   exact len_tuple pl (by simp only [ac4]; omega) ⟨.int xs.length, H, I.tok _, ⟨_, by simp only [ac4]; rw [hlen]⟩, q⟩
 | _ => exact (show False from e).elim
end
end L2
namespace L2
open PySem PySem.Spec PyProof.Rows
structure lH (h : aer) (x dx C : acJ) (mA : Str -> Option acC) : Prop where
 obj : h.get? x = some (aeV C dx)
 ns : h.Ns1 dx mA
 ne : dx ≠ x
theorem NG {h : aer} {dx : acJ} {mA : Str -> Option acC} (n : h.Ns1 dx mA) : ∃ od, h.get? dx = some od /\ ∀ name, ahf name od = some (mA name) := by
 obtain ⟨o, es, ep, ho, hd, hk, _, hm⟩ := n
 refine ⟨o, ho, fun name => ?_⟩
 have e := hm name
 unfold nsFind findBy at e
 rw [<- Array.find?_toList] at e
 unfold ahf
 rw [hd]
 dsimp only
 split
 ·rename_i y q
  rw [q] at e
  exact congrArg some e
 ·rename_i q
  rw [q] at e
  have a : es.toList.any (·.refKey) = false := by
   rw [ahn]
   intro y hy
   obtain ⟨z, t, eN⟩ := hk y (aiv.mp hy)
   simp [DictEntry.refKey, eN]
  have a' : ¬ es.toList.any (·.refKey) = true := by rw [a]; exact ac9
  rw [if_neg a']
  exact congrArg some e
theorem lH.look {h : aer} {x dx C : acJ} {mA : Str -> Option acC} (I : lH h x dx C mA) : ∃ od, PySem.W.InstAt h x (aeV C dx) C (some od) /\ ∀ name, ahf name od = some (mA name) :=
 let ⟨od, ho, hl⟩ := NG I.ns
 ⟨od, ⟨I.obj, rfl, rfl, ho⟩, hl⟩
section
variable {prog : ac2} {w : adw} {A : adD} {E : acC -> acF -> Prop} {s : acF} {K : acB} {x dx C f : acJ} {mA : Str -> Option acC} {name : Str} {v : acC}
theorem get_map {expr : Bool} {Q : acC -> acF -> Prop} (X : K.In s.heap) (I : lH s.heap x dx C mA) (hg : af5 K C name = true) (hh : ags K C = true)
 (ha : ac6 K (.ref C) name = some none) (hv : mA name = some v) (NH : aju v = true) (h : Q v { s with toks := s.toks + 1 }) :
 ac0 (model prog w) A (getAttr (.ref x) name expr) Q E s := by
 obtain ⟨od, J, hl⟩ := I.look
 exact PySem.W.get_value X J (agV hg).1 (PySem.W.findObj_own hh ha rfl (by rw [hl, hv])) NH h
theorem NI {pl : Sem Bool} {Q : acC × List acC -> acF -> Prop} (X : K.In s.heap) (I : lH s.heap x dx C mA) (hg : af5 K C name = true)
 (hf : ac6 K (.ref C) name = some (some (.ref f))) (ht : aeQ K (.ref f) = true) (hv : mA name = none) (h : Q (.ref f, [.ref x]) s) :
 ac0 (model prog w) A (ajN (.ref x) name pl) Q E s := by
 obtain ⟨od, J, hl⟩ := I.look
 exact PySem.W.method_fn X J (agV hg).1 (agV hg).2 hf (beq_iff_eq.mp ht) (by show (ahf name od).map (·.isSome) = some false; rw [hl, hv]; rfl) h
theorem NJ {ns : List Str} {Q : Unit -> acF -> Prop} (X : K.In s.heap) (I : lH s.heap x dx C mA)
 (hs : ac6 K (.ref C) "__setattr__" = some (some (.builtin "object.__setattr__"))) (hp : aho K C = true) (ht : ah6 K C name = some none) (hh : ags K C = true)
 (hw : ajo mA ns) (hsz : ns.length <= adb)
 (h : ∀ h', lH h' x dx C (fun y => if y = name then some v else mA y) -> Heap.SameBut dx s.heap h' -> Q () { s with heap := h', toks := s.toks + 2 }) :
 ac0 (model prog w) A (setAttr (.ref x) name v) Q E s := by
 obtain ⟨od, J, hl⟩ := I.look
 refine PySem.W.set_plain X J hs (PySem.W.osa_open (s := { s with toks := s.toks + 1 }) (r := none) X J hp ht fun b => ?_)
 obtain ⟨cd, hc, fW⟩ := PySem.W.any_some hh
 have hx : s.heap.get? x = some ⟨.ref C, some dx, .plain, #[]⟩ := I.obj
 refine acA (acD (acA (acA (wpAny_loadPart hx (acA (PySem.W.Looks.here (s := { s with toks := s.toks + 1 }) (PySem.W.looks_clsIn X hc) ?_))))))
 rw [fW]
 refine acD (a := some dx) (acA (acD (acA ?_)))
 refine wpAny_nsSet1 (s := { s with toks := s.toks + 1 }) I.ns fun h' GZ cB => ?_
 obtain ⟨oD, esD, epD, NK, NL, NM⟩ := GZ.count (PySem.Within.cons name v hw)
 refine acA (wpAny_lookBehind NK (by rw [NL]; exact pastItsLine_dict (acV NM (by rw [ad8]; omega))) ?_)
 exact acD (h _ ⟨(cB.2 _ (adV I.ne)).trans I.obj, GZ, I.ne⟩ cB)
theorem NN {R : ahp -> acF -> Prop} {vs : List acC} {kw : List (Str × acC)} (X : K.In s.heap) (hm : ah7 K C = true)
 (hi : ac6 K (.ref C) "__init__" = some (some (.ref f))) (hf : PySem.W.typeIn K (.ref f) = some (.type "function"))
 (h : afi (model prog w) (A.under (.builtin "type.__call__" ⟨.ref C :: vs, kw⟩)) (.call (.ref f) ⟨.ref (s.heap.objs.size + 1) :: vs, kw⟩) (PySem.W.InitBack (s.heap.objs.size + 1) R)
   { s with heap := (s.heap.push aen).push (aeV C s.heap.objs.size) }) :
 afi (model prog w) A (.call (.ref C) ⟨vs, kw⟩) R s := by
 obtain ⟨hh, g, d, t, os⟩ := s
 exact PySem.W.make_core (PySem.W.makes_of X hm) (PySem.W.looks_findIn X hi) (fun self => PySem.W.bind_fn X self hf) (.inl rfl) h
end
noncomputable def dt (f : Str) (v : V) : List (Str × V) -> List (Str × V)
 | [] => [(f, v)]
 | (g, x) :: r => if g = f then (g, v) :: r else (g, x) :: dt f v r
theorem G0 (f g : Str) (v : V) : ∀ fs : List (Str × V), (dt f v fs).lookup g = if g = f then some v else fs.lookup g
 | [] => by
  show aft g [(f, v)] = _
  by_cases h : g = f
  ·have hb : (g == f) = true := beq_iff_eq.mpr h
   simp only [aft, hb, if_pos h]
  ·have hb : (g == f) = false := beq_eq_false_iff_ne.mpr h
   simp only [aft, hb, if_neg h]
 | (k, x) :: r => by
  have ih := G0 f g v r
  rw [show dt f v ((k, x) :: r) = (if k = f then (k, v) :: r else (k, x) :: dt f v r) from rfl]
  by_cases hk : k = f
  ·rw [if_pos hk]
   by_cases h : g = k
   ·have hb : (g == k) = true := beq_iff_eq.mpr h
    simp only [aft, hb, if_pos (h.trans hk)]
   ·have hb : (g == k) = false := beq_eq_false_iff_ne.mpr h
    simp only [aft, hb, if_neg (fun e : g = f => h (e.trans hk.symm))]
  ·rw [if_neg hk]
   by_cases h : g = k
   ·have hb : (g == k) = true := beq_iff_eq.mpr h
    simp only [aft, hb, if_neg (fun e : g = f => hk (h.symm.trans e))]
   ·have hb : (g == k) = false := beq_eq_false_iff_ne.mpr h
    simp only [aft, hb]
    exact ih
theorem Aq (f : Str) (v : V) : ∀ fs : List (Str × V), f ∈ (dt f v fs).map (·.1) /\ ∀ g, g ∈ fs.map (·.1) -> g ∈ (dt f v fs).map (·.1)
 | [] => ⟨by simp [dt], fun g h => by simp at h⟩
 | (k, x) :: r => by
  obtain ⟨i1, i2⟩ := Aq f v r
  rw [show dt f v ((k, x) :: r) = (if k = f then (k, v) :: r else (k, x) :: dt f v r) from rfl]
  by_cases hk : k = f
  ·rw [if_pos hk]
   subst hk
   exact ⟨by simp, fun g h => by simpa using h⟩
  ·rw [if_neg hk]
   refine ⟨?_, fun g h => ?_⟩
   ·rw [ac7]
    exact ac5 _ i1
   ·rw [ac7] at h ⊢
    rcases acN.mp h with e | e
    ·exact acN.mpr (.inl e)
    ·exact ac5 _ (i2 g e)
theorem G1 (f : Str) (v : V) : ∀ fs : List (Str × V), (dt f v fs).length <= fs.length + 1
 | [] => by simp [dt]
 | (k, x) :: r => by
  have ih := G1 f v r
  rw [show dt f v ((k, x) :: r) = (if k = f then (k, v) :: r else (k, x) :: dt f v r) from rfl]
  by_cases hk : k = f
  ·rw [if_pos hk, ad8, ad8]; omega
  ·rw [if_neg hk, ad8, ad8]; omega
theorem cT.some_of {v : V} {o : Option acC} (r : cT (some v) o) : ∃ u, o = some u /\ RelV v u := by
 cases o with
 | none => exact (show False from r).elim
 | some u => exact ⟨u, rfl, r⟩
theorem cT.none_of {o : Option acC} (r : cT none o) : o = none := by
 cases o with
 | none => rfl
 | some u => exact (show False from r).elim
theorem NO {v : V} {u : acC} (r : RelV v u) : aju u = true := by
 cases v with
 | non => cases (show u = Value.none from r); rfl
 | bl b => cases (show u = ae6 b from r); rfl
 | int i => obtain ⟨t, e⟩ := (show ∃ t, u = Value.int i t from r); cases e; rfl
 | str x => obtain ⟨t, e⟩ := (show ∃ t, u = aiQ x t from r); cases e; rfl
 | byt b => obtain ⟨t, e⟩ := (show ∃ t, u = akJ b t from r); cases e; rfl
 | flt b => obtain ⟨t, e⟩ := (show ∃ t, u = ajM b t from r); cases e; rfl
 | ref a => cases (show u = ac3 a from r); rfl
 | ty n => cases (show u = agq n from r); rfl
section
variable {P : ac2} {w : adw} {H H' : Hp} {h h' : aer} {a C dx : acJ} {fs Ng : List (Str × V)}
theorem u9 (ai : bz P w H h) (e : H a = some (.ins C dx fs)) : ∃ mA, lH h a dx C mA /\ (∀ f, cT (fs.lookup f) (mA f)) /\ ajo mA (fs.map (·.1)) /\ fs.length <= 1000 /\ H dx = some (.own a) := by
 obtain ⟨d, z, ne, ob, mA, n, r, q⟩ := (show bp P w H h a (.ins C dx fs) from ai a _ e)
 exact ⟨mA, ⟨ob, n, ne⟩, r, q, z, d⟩
end
structure fz (K : acB) (C : acJ) : Prop where
 pg : af5 K C Str.empty = true
 hd : ags K C = true
 po : aho K C = true
 sa : ac6 K (.ref C) "__setattr__" = some (some (.builtin "object.__setattr__"))
theorem fz.get {K : acB} {C : acJ} (c : fz K C) (f : Str) : af5 K C f = true := c.pg
noncomputable def fA (K : acB) (C : acJ) (f : Str) : Prop := ac6 K (.ref C) f = some none
theorem fA.NP {K : acB} {C : acJ} {f : Str} (n : fA K C f) : ah6 K C f = some none := by
 unfold ah6
 rw [show ac6 K (.ref C) f = some none from n]
 rfl
structure Meth (K : acB) (C : acJ) (m : Str) (f : acJ) : Prop where
 at_ : ac6 K (.ref C) m = some (some (.ref f))
 fn : aeQ K (.ref f) = true
 kp : acO K (.ref f) = true
section
variable {X : Cx} {pins : List (acJ × Obj)} {σ : St} {H : Hp} {s : acF} {a C dx : acJ} {fs : List (Str × V)} {f : Str} {v : V} {A : adD} {E : acC -> acF -> Prop}
theorem NQ {b : Bool} {Q : acC -> acF -> Prop} (I : Inv X pins σ H s) (e : H a = some (.ins C dx fs)) (c : fz X.K C) (n : fA X.K C f) (l : fs.lookup f = some v)
 (h : ∀ u s', Inv X pins σ H s' -> RelV v u -> Q u s') : ac0 (model X.prog X.w) A (getAttr (.ref a) f b) Q E s := by
 obtain ⟨mA, O, r, _, _, _⟩ := u9 I.ai e
 obtain ⟨u, hu, ru⟩ := cT.some_of (v := v) (o := mA f) (by rw [<- l]; exact r f)
 exact get_map I.b0 O (c.get f) c.hd n hu (NO ru) (h u _ (I.tok _) ru)
theorem G2 {m : Str} {g : acJ} {pl : Sem Bool} {Q : acC × List acC -> acF -> Prop} (I : Inv X pins σ H s) (e : H a = some (.ins C dx fs)) (c : fz X.K C) (k : Meth X.K C m g) (l : fs.lookup m = none)
 (h : Q (.ref g, [.ref a]) s) : ac0 (model X.prog X.w) A (ajN (.ref a) m pl) Q E s := by
 obtain ⟨mA, O, r, _, _, _⟩ := u9 I.ai e
 have hn : mA m = none := cT.none_of (by rw [<- l]; exact r m)
 exact NI I.b0 O (c.get m) k.at_ k.fn hn h
theorem NR {y : V} {u : acC} {Q : Unit -> acF -> Prop} (I : Inv X pins σ H s) (e : H a = some (.ins C dx fs)) (c : fz X.K C) (n : fA X.K C f) (hl : fs.length < 1000) (ry : RelV y u)
 (h : ∀ s', Inv X pins σ (upd H a (.ins C dx (dt f y fs))) s' -> Q () s') : ac0 (model X.prog X.w) A (setAttr (.ref a) f u) Q E s := by
 obtain ⟨mA, O, r, wi, _, ho⟩ := u9 I.ai e
 have hz : (fs.map (·.1)).length <= adb := by rw [acI, aeY]; omega
 refine NJ I.b0 O c.sa c.po n.NP c.hd wi hz fun h' O' sb => h _ ?_
 have hd : ∃ o, h'.get? dx = some o := let ⟨o, _, _, e', _⟩ := O'.ns; ⟨o, e'⟩
 refine I.write (x := a) (e := dx) (by rw [e]; exact afj) (.inr ho) (fun b q hb z => (sb.2 b hb).trans z) hd ?_
 refine ⟨by rw [aA O.ne]; exact ho, ?_, O.ne, O'.obj, _, O'.ns, fun g => ?_, fun g hg => ?_⟩
 ·have := G1 f y fs; omega
 ·show cT ((dt f y fs).lookup g) (if g = f then some u else mA g)
  rw [G0]
  by_cases q : g = f
  ·rw [if_pos q, if_pos q]; exact ry
  ·rw [if_neg q, if_neg q]; exact r g
 ·by_cases q : g = f
  ·rw [q]; exact (Aq f y fs).1
  ·refine (Aq f y fs).2 g (wi g fun z => hg ?_)
   show (if g = f then some u else mA g) = none
   rw [if_neg q]; exact z
theorem Inv.made (I : Inv X pins σ H s) : Inv X pins σ (upd (upd H s.heap.objs.size (.own (s.heap.objs.size + 1))) (s.heap.objs.size + 1) (.ins C s.heap.objs.size []))
 { s with heap := (s.heap.push aen).push (aeV C s.heap.objs.size) } := by
 have e1 : (s.heap.push aen).get? s.heap.objs.size = some aen := acT s.heap rfl
 have e2 : ((s.heap.push aen).push (aeV C s.heap.objs.size)).get? (s.heap.objs.size + 1) = some (aeV C s.heap.objs.size) := by
  have := acT (s.heap.push aen) (o := aeV C s.heap.objs.size) rfl
  rwa [aeE] at this
 have e3 : (s.heap.push aen).Ns s.heap.objs.size (fun _ => none) := ⟨aen, #[], _, e1, rfl, (fun e he => absurd he (by simp)), fun _ => rfl⟩
 have I1 := I.laid (a := s.heap.objs.size) (o := .own (s.heap.objs.size + 1)) (h' := s.heap.push aen) (t' := s.toks) (fun b u q => acE _ q) (ac1 _) ⟨_, e1⟩
 refine I1.laid (a := s.heap.objs.size + 1) (o := .ins C s.heap.objs.size []) (t' := s.toks) (fun b u q => acE _ q) (akz (aeE _ _)) ?_
 have ne : s.heap.objs.size ≠ s.heap.objs.size + 1 := ade (af6 _)
 refine ⟨by rw [aA ne, aq], adf _, ne, e2, fun _ => none, (Heap.Ns1.of_empty e3).at fun o q => acE _ q, fun _ => afj, fun y hy => absurd rfl hy⟩
theorem NS {prog : ac2} {w : adw} {env : Env} {e : ae4} {f : Str} {pos : Pos} {s : acF} {Q : acC -> acF -> Prop} (hb : agh e f env (eval e env) = eval e env)
 (h : ac0 (model prog w) A (eval e env) (fun o s₁ => ac0 (model prog w) A (getAttr o f true) Q E s₁) E s) : ac0 (model prog w) A (eval (.Attribute e f pos) env) Q E s :=
 Attribute_any_ h (by rw [arm_eval_Attribute, hb])
end
noncomputable def nG (K : acB) (ta : TE) (f : Str) : TE := fun σ H Q => ta σ H fun x H1 => ∃ a C dx fs v, x = .ref a /\ H1 a = some (.ins C dx fs) /\ fz K C /\ fA K C f /\ fs.lookup f = some v /\ Q v H1
noncomputable def rA (K : acB) (ta tv : TE) (f : Str) : TS := fun D σ H => tv σ H fun y H1 => ta σ H1 fun x H2 => ∃ a C dx fs, x = .ref a /\ H2 a = some (.ins C dx fs) /\ fz K C /\ fA K C f /\ fs.length < 1000 /\
 D.nx σ (upd H2 a (.ins C dx (dt f y fs)))
section
variable {X : Cx} {o e value : ae4} {f : Str} {pos pos' NT : Pos} {ta tv : TE}
theorem fB (he : PE X e ta) (hb : agh e f X.env (eval e X.env) = eval e X.env) : PE X (.Attribute e f pos) (nG X.K ta f) := by
 intro pins s σ H Q I h
 refine NS hb (au (he pins s σ H _ I h) fun u s1 ⟨x, H1, I1, rx, a, C, dx, fs, v, ex, ea, c, n, l, q⟩ => ?_)
 subst ex
 obtain rfl : u = ac3 a := rx
 exact NQ I1 ea c n l fun u' s2 I2 ru => ⟨v, H1, I2, ru, q⟩
theorem nH (ha : PE X o ta) (hv : PE X value tv) (hs : ah5 value (some (.Attribute o f pos')) pos.line X.env = pure false) : PS X (.Assign [.Attribute o f pos'] value pos) (rA X.K ta tv f) := by
 intro pins s σ H D I h
 refine plainObj_wpAny_Assign_Attribute (au (hv pins s σ H _ I h) fun u s1 ⟨y, H1, I1, ry, q⟩ => au (ha pins s1 σ H1 _ I1 q) fun ov s2 ⟨x, H2, I2, rx, a, C, dx, fs, ex, ea, c, n, l, q2⟩ => ?_) hs
 subst ex
 obtain rfl : ov = ac3 a := rx
 exact NR I2 ea c n l ry fun s3 I3 => ⟨σ, _, I3, q2⟩
end
section
variable {X : Cx} {pins : List (acJ × Obj)} {σ : St} {H : Hp} {s : acF} {A : adD} {E : acC -> acF -> Prop} {Q : acC -> acF -> Prop} {c : acC} {b : Bool}
inductive cC (K : acB) (H : Hp) : V -> acC -> Prop where
 | non : cC K H .non (.type "NoneType")
 | bl (x : Bool) : cC K H (.bl x) (.type "bool")
 | int (i : Int) : cC K H (.int i) (.type "int")
 | str (x : Str) : cC K H (.str x) (.type "str")
 | flt (x : UInt64) : cC K H (.flt x) (.type "float")
 | lst {a : acJ} {xs : List V} (e : H a = some (.lst xs)) : cC K H (.ref a) (.type "list")
 | aM {a : acJ} {o : Obj} {xs : List V} (e : H a = some (.aM o (.lst xs))) : cC K H (.ref a) (.type "list")
 | tup {a : acJ} {xs : List V} (e : H a = some (.tup xs)) : cC K H (.ref a) (.type "tuple")
 | dK {a : acJ} {kvs : List (Key × V)} (e : H a = some (.dK kvs)) : cC K H (.ref a) (.type "dict")
 | dT {a : acJ} {kvs : List (List Key × V)} (e : H a = some (.dT kvs)) : cC K H (.ref a) (.type "dict")
 | ins {a C dx : acJ} {fs : List (Str × V)} (e : H a = some (.ins C dx fs)) (cl : fz K C) (ha : ac6 K (.ref C) "__class__" = some (some (.builtin "object.__class__")))
  (hn : PySem.W.specialIn K (.builtin "object.__class__") "__get__" = some (some (.builtin "getset_descriptor.__get__"))) (rB : PySem.W.takesIn K (.builtin "object.__class__") = some true)
  (hm : afM K C (.type "object") = some true) : cC K H (.ref a) (.ref C)
theorem NU {x : V} {u t : acC} (I : Inv X pins σ H s) (rx : RelV x u) (ty : cC X.K H x t) (e : aet X.K t c = some b) (h : ∀ tk, Q (.bool b) { s with toks := tk }) :
 ac0 (model X.prog X.w) A (call (.builtin "isinstance") [u, c]) Q E s := by
 cases ty with
 | non => cases (show u = Value.none from rx); exact aeg PySem.W.kitx_none I.b0 afj e (fun z => nomatch z) h
 | bl y => cases (show u = ae6 y from rx); exact aeg PySem.W.kitx_bool I.b0 afj e (fun z => nomatch z) h
 | int i => obtain ⟨t, q⟩ := (show ∃ t, u = Value.int i t from rx); cases q; exact aeg PySem.W.kitx_int I.b0 afj e (fun z => nomatch z) h
 | str y => obtain ⟨t, q⟩ := (show ∃ t, u = aiQ y t from rx); cases q; exact aeg PySem.W.kitx_str I.b0 afj e (fun z => nomatch z) h
 | flt y => obtain ⟨t, q⟩ := (show ∃ t, u = ajM y t from rx); cases q; exact aeg PySem.W.kitx_float I.b0 afj e (fun z => nomatch z) h
 | @lst a xs ea =>
  cases (show u = ac3 a from rx)
  obtain ⟨_, _, n, _, h1⟩ := (show bp X.prog X.w H s.heap a (.lst xs) from I.ai a _ ea)
  exact aeg ai9 I.b0 ⟨_, h1, rfl⟩ e (fun z => nomatch z) h
 | @aM a ob xs ea =>
  cases (show u = ac3 a from rx)
  obtain ⟨_, _, _, n, _, h1⟩ := (show bp X.prog X.w H s.heap a (.aM ob (.lst xs)) from I.ai a _ ea)
  exact aeg ai9 I.b0 ⟨_, h1, rfl⟩ e (fun z => nomatch z) h
 | @tup a xs ea =>
  cases (show u = ac3 a from rx)
  obtain ⟨_, _, _, p⟩ := (show bp X.prog X.w H s.heap a (.tup xs) from I.ai a _ ea)
  obtain ⟨o, h1, h2, _⟩ := p
  exact aeg PySem.W.kitx_tuple I.b0 ⟨o, h1, h2⟩ e (fun z => nomatch z) h
 | @dK a kvs ea =>
  cases (show u = ac3 a from rx)
  obtain ⟨_, _, vs, _, p⟩ := (show bp X.prog X.w H s.heap a (.dK kvs) from I.ai a _ ea)
  obtain ⟨o, es, ep, h1, h2, _⟩ := p
  exact aeg aja I.b0 ⟨o, h1, h2.1⟩ e (fun z => nomatch z) h
 | @dT a kvs ea =>
  cases (show u = ac3 a from rx)
  obtain ⟨_, _, xs, _, o, es, ep, h1, h2, _⟩ := (show bp X.prog X.w H s.heap a (.dT kvs) from I.ai a _ ea)
  exact aeg aja I.b0 ⟨o, h1, h2.1⟩ e (fun z => nomatch z) h
 | @ins a C dx fs ea cl ha hn rB hm =>
  cases (show u = ac3 a from rx)
  obtain ⟨mA, O, _⟩ := u9 I.ai ea
  obtain ⟨od, J, _⟩ := O.look
  exact aeg (PySem.W.kitx_own (cl.get _) cl.hd ha hn rB hm) I.b0 J e (fun z => nomatch z) h
end
end L2
namespace L2
open PySem PySem.Spec PyProof.Rows
structure bW (k : Nat) (A : adD) : Prop where
 hd : A.handled = none
 dp : A.depth + 3 * k + 5 < recursionLimit
 un : A.units + 16 * k + 200 < age
theorem bW.mono {j k : Nat} {A : adD} (r : bW k A) (h : j <= k) : bW j A := ⟨r.hd, by have := r.dp; omega, by have := r.un; omega⟩
theorem bW.deeper {k : Nat} {A : adD} (r : bW (k + 1) A) (env : Env) : bW k (A.deeper env) :=
 ⟨r.hd, by have := r.dp; show A.depth + 1 + 3 * k + 5 < _; omega, by have := r.un; show A.units + 3 + 16 * k + 200 < _; omega⟩
theorem NV {A : adD} {C : acJ} {us : List acC} {kw : List (Str × acC)} : (A.under (.builtin "type.__call__" ⟨.ref C :: us, kw⟩)).depth = A.depth + 1 := by
 first | rfl | simp [ajq, Code.weight, Code.isCreation, Code.isGuard, Code.isCaller, Code.frames, Code.isFrame, guardIds]
theorem NW {A : adD} {C : acJ} {us : List acC} {kw : List (Str × acC)} : (A.under (.builtin "type.__call__" ⟨.ref C :: us, kw⟩)).units = A.units + 1 := by
 first | rfl | simp [ajq, Code.cUnits, Code.frames, Code.isFrame]
theorem bW.make {k : Nat} {A : adD} (r : bW (k + 1) A) (C : acJ) (us : List acC) (kw : List (Str × acC)) : bW k (A.under (.builtin "type.__call__" ⟨.ref C :: us, kw⟩)) :=
 ⟨r.hd, by have := r.dp; rw [NV]; omega, by have := r.un; rw [NW]; omega⟩
theorem bW.depth {k : Nat} {A : adD} (r : bW k A) : A.depth < recursionLimit := by have := r.dp; omega
theorem bW.units {k : Nat} {A : adD} (r : bW k A) : A.units + 64 < age := by have := r.un; omega
noncomputable def lJ : TA := fun _ H Q => Q [] H
noncomputable def nI (ta : TE) (tr : TA) : TA := fun σ H Q => ta σ H fun x H1 => tr σ H1 fun xs H2 => Q (x :: xs) H2
section
variable {X : Cx} {e : ae4} {es : List ae4} {te : TE} {t : TA} {pos : Pos}
theorem ah : PA X [] lJ := fun _ _ _ _ H Q I h => agt ⟨[], H, I, .nil, h⟩
theorem aa (ha : PE X e te) (hr : PA X es t) (hs : adv (e :: es) X.env = (false, eval e X.env) :: adv es X.env := by rfl) : PA X (e :: es) (nI te t) := by
 intro pos pins s σ H Q I h
 rw [hs]
 show ac0 _ _ (spliced ((false, eval e X.env) :: afV pos (adv es X.env))) _ _ s
 refine agi (au (ha pins s σ H _ I h) fun u s1 ⟨x, H1, I1, r1, q1⟩ => ?_)
 exact au (hr pos pins s1 σ H1 _ I1 q1) fun us s2 ⟨xs, H2, I2, r2, q2⟩ => ⟨x :: xs, H2, I2, .cons r1 r2, q2⟩
noncomputable def rC (t : TA) : TE := fun σ H Q => t σ H fun xs H1 => xs.length <= adb /\ ∀ p, H1 p = none -> Q (.ref p) (upd H1 p (.tup xs))
noncomputable def rD (t : TA) : TE := fun σ H Q => t σ H fun xs H1 => xs.length <= adb /\ ∀ p, H1 p = none -> Q (.ref p) (upd H1 p (.lst xs))
theorem bX {x1} (h : PA X es t) : PE X (.Tuple es x1 pos) (rC t) := by
 intro pins s σ H Q I hq
 refine wpAny_Tuple_spliced (au (h pos pins s σ H _ I hq) fun us s1 ⟨xs, H1, I1, r, z, q⟩ => ⟨by rw [<- r.length]; exact z, ?_⟩)
 have hf : H1 s1.heap.objs.size = none := I1.ai.fresh (ac1 _)
 refine ⟨.ref s1.heap.objs.size, upd H1 s1.heap.objs.size (.tup xs), I1.laid (t' := s1.toks) (fun b u e => acE _ e) (ac1 _) ?_, rfl, q _ hf⟩
 exact ⟨z, us, r, ⟨_, acT _ rfl, rfl, _, rfl⟩⟩
theorem dU (h : PA X es t) : PE X (.List es pos) (rD t) := by
 intro pins s σ H Q I hq
 refine wpAny_List_spliced (au (h pos pins s σ H _ I hq) fun us s1 ⟨xs, H1, I1, r, z, q⟩ => ⟨by rw [<- r.length]; exact z, ?_⟩)
 have hf : H1 s1.heap.objs.size = none := I1.ai.fresh (ac1 _)
 refine ⟨.ref s1.heap.objs.size, upd H1 s1.heap.objs.size (.lst xs), I1.laid (t' := s1.toks) (fun b u e => acE _ e) (ac1 _) ?_, rfl, q _ hf⟩
 exact ⟨z, us, 0, r, acT _ rfl⟩
end
noncomputable abbrev Sp := List V -> Hp -> VK -> XK -> Prop
noncomputable abbrev dv := List Env -> Hp -> acF -> XK -> acC -> acF -> Prop
structure lK (P : ac2) (w : adw) (K : acB) (mg : Str -> Option acC) (base : aer) (A : adD) (outer : List Env) (s : acF) (H : Hp) : Prop where
 frames : A.frames = some outer
 mod : Mod K mg base
 bs : ∀ b o, base.get? b = some o -> s.heap.get? b = some o /\ H b = none
 bsz : base.objs.size <= s.heap.objs.size
 fo : s.heap.FunFrames base outer
 frf : ∀ b ∈ aO outer, H b = none
 ai : bz P w H s.heap
 bare : ah2 s.gens
noncomputable def CE (outer : List Env) (P : ac2) (w : adw) (H : Hp) (s : acF) (Q : VK) (u : acC) (s' : acF) : Prop :=
 ∃ v H', s'.os = s.os /\ ah2 s'.gens /\ Un (aO outer) [] H H' s.heap s'.heap /\ bz P w H' s'.heap /\ RelV v u /\ Q v H'
noncomputable def CR (CX : dv) (outer : List Env) (P : ac2) (w : adw) (H : Hp) (s : acF) (Q : VK) (E : XK) (r : ahp) (s' : acF) : Prop :=
 match r with
 | .ok (.ret u) => CE outer P w H s Q u s'
 | .ok _ => False
 | .error e => CX outer H s E e s'
structure aK (P : ac2) (w : adw) (K : acB) (mg : Str -> Option acC) (base : aer) (CX : dv) (k : Nat) (f : acJ) (fd : adg) (ps : List Str) (sp : Sp) : Prop where
 len : ∀ vs H Q E, sp vs H Q E -> vs.length = ps.length
 run : ∀ (A : adD) (outer : List Env) (s : acF) (H : Hp) (args : Args) (us : List acC) (vs : List V) (Q : VK) (E : XK), bW k A -> lK P w K mg base A outer s H -> ajO s fd args (ps.zip us) -> Vals vs us -> sp vs H Q E ->
  afi (model P w) A (.call (.ref f) args) (CR CX outer P w H s Q E) s
theorem lK.make {P : ac2} {w : adw} {K : acB} {mg : Str -> Option acC} {base : aer} {A : adD} {outer : List Env} {s : acF} {H : Hp} (e : lK P w K mg base A outer s H) (C : acJ) (us : List acC) (kw : List (Str × acC)) :
 lK P w K mg base (A.under (.builtin "type.__call__" ⟨.ref C :: us, kw⟩)) outer s H := ⟨by first | exact e.frames | (simpa [ajq, Code.envs, Code.isFrame, pushEnvs] using e.frames), e.mod, e.bs, e.bsz, e.fo, e.frf, e.ai, e.bare⟩
section
variable {X : Cx} {pins : List (acJ × Obj)} {σ : St} {H : Hp} {s s' : acF}
theorem Inv.G3 (I : Inv X pins σ H s) : lK X.prog X.w X.K X.mg X.base X.A X.stack s H :=
 ⟨I.ok.frames, I.ok.mod, I.bs, acV I.ok.bsz I.sz, I.stack, I.nq, I.ai, I.bare⟩
theorem Inv.after {Q : VK} {u : acC} (I : Inv X pins σ H s) (h : CE X.stack X.prog X.w H s Q u s') : EP X pins σ Q u s' := by
 obtain ⟨v, H', os, bare, un, ai, r, q⟩ := h
 obtain ⟨hh, g, d, t, nJ⟩ := s'
 obtain rfl : nJ = s.os := os
 exact ⟨v, H', I.call (h' := hh) (g' := g) (d' := d) (t' := t) (ch := []) un ai bare (fun b z => absurd z (by simp)), r, q⟩
end
noncomputable def rE (sp : Sp) (b6 : List V) (E : XK) (t : TA) : TE := fun σ H Q => t σ H fun vs H1 => sp (vs ++ b6) H1 Q E
noncomputable def nK (C : acJ) (m : Str) (sp : Sp) (b6 : List V) (E : XK) (ta : TE) (t : TA) : TE := fun σ H Q => ta σ H fun x H1 => ∃ a dx fs, x = .ref a /\ H1 a = some (.ins C dx fs) /\ fs.lookup m = none /\
 t σ H1 fun vs H2 => sp (x :: (vs ++ b6)) H2 Q E
noncomputable def rF (C : acJ) (sp : Sp) (b6 : List V) (E : XK) (t : TA) : TE := fun σ H Q => t σ H fun vs H1 => ∀ x dx, H1 x = none -> H1 dx = none -> dx ≠ x ->
 sp (.ref x :: (vs ++ b6)) (upd (upd H1 dx (.own x)) x (.ins C dx [])) (fun v H2 => v = .non /\ Q (.ref x) H2) E
noncomputable def Binds (K : acB) (fd : adg) (ps : List Str) (ds : List acC) : Prop :=
 ∀ (s : acF) (us : List acC), K.In s.heap -> (us ++ ds).length = ps.length -> ajO s fd ⟨us, []⟩ (ps.zip (us ++ ds))
theorem Binds.all {K : acB} {fd : adg} {ps : List Str} (h : ∀ us : List acC, us.length = ps.length -> bindArgs fd ⟨us, []⟩ = pure (ps.zip us)) : Binds K fd ps [] := fun s us _ hl => by
 rw [agW] at hl ⊢
 exact .of_eq (h us hl)
noncomputable def Passes (CX : dv) (X : Cx) (E : XK) : Prop := ∀ (pins : List (acJ × Obj)) (σ : St) (H : Hp) (s : acF) (e : acC) (s' : acF), Inv X pins σ H s -> CX X.stack H s E e s' -> X.xe e s'
section
variable {X : Cx} {CX : dv} {k : Nat} {f C : acJ} {fd : adg} {ps : List Str} {sp : Sp} {b6 : List V} {ds : List acC} {E : XK} {x m : Str} {p pos apos : Pos} {e o : ae4} {es : List ae4} {ta : TE} {t : TA}
theorem Ar {pins : List (acJ × Obj)} {σ : St} {H : Hp} {s : acF} {Q : VK} {us : List acC} {vs : List V} (F : aK X.prog X.w X.K X.mg X.base CX k f fd ps sp) (hr : bW k X.A) (hb : Binds X.K fd ps ds) (hd : Vals b6 ds) (hx : Passes CX X E)
 (I : Inv X pins σ H s) (r : Vals vs us) (h : sp (vs ++ b6) H Q E) : ac0 (model X.prog X.w) X.A (call (.ref f) us) (EP X pins σ Q) X.xe s := by
 have r2 : Vals (vs ++ b6) (us ++ ds) := r.append hd
 have hl : (us ++ ds).length = ps.length := by rw [<- r2.length]; exact F.len _ _ _ _ h
 refine ahq (agG (F.run X.A X.stack s H ⟨us, []⟩ (us ++ ds) (vs ++ b6) Q E hr I.G3 (hb s us I.b0 hl) r2 h) fun r s' hq => ?_)
 cases r with
 | error e => exact hx pins σ H s e s' I hq
 | ok fl =>
  cases fl with
  | ret u => exact I.after hq
  | next => exact ae7 hq
  | brk => exact ae7 hq
  | cont => exact ae7 hq
theorem aE (F : aK X.prog X.w X.K X.mg X.base CX k f fd ps sp) (hr : bW k X.A) (hg : Gl X x) (hm : X.mg x = some (.ref f)) (hk : acO X.K (.ref f) = true) (hb : Binds X.K fd ps ds) (hd : Vals b6 ds) (hx : Passes CX X E)
 (ha : PA X (e :: es) t) (iH : (x == ("__debug__" : Str)) = false := by decide) (he : adv (e :: es) X.env = (false, eval e X.env) :: adv es X.env := by rfl) (cX : (afV pos (adv es X.env)).any (·.1) = false := by rfl) :
 PE X (.Call (.Name x p) (e :: es) [] pos) (rE sp b6 E t) := by
 intro pins s σ H Q I h
 refine aeu (uR I hg hm ?_ iH)
 refine aha (h₀ := X.base) I.ok.mod.kin hk (au (ha pos pins s σ H _ I h) fun us s1 ⟨vs, H1, I1, r, q⟩ => ⟨I1.b0, ?_⟩) he cX
 exact Ar F hr hb hd hx I1 r q
theorem gR {pl : Sem Bool} (he : PE X o ta) (c : fz X.K C) (hm : Meth X.K C m f) (F : aK X.prog X.w X.K X.mg X.base CX k f fd ps sp) (hr : bW k X.A) (hb : Binds X.K fd ps ds) (hd : Vals b6 ds) (hx : Passes CX X E) (ha : PA X (e :: es) t)
 (eL : adv (e :: es) X.env = (false, eval e X.env) :: adv es X.env := by rfl) (cX : (afV pos (adv es X.env)).any (·.1) = false := by rfl)
 (ht : eval (.Call (.Attribute o m apos) (e :: es) [] pos) X.env = (do
   let ov <- eval o X.env
   akK apos.atName
   let (f, first) <- holding [ov] (ajN ov m pl)
   callWith pos f first (afV pos (adv (e :: es) X.env)) (akn pos (aiI [] X.env))) := by rfl) :
 PE X (.Call (.Attribute o m apos) (e :: es) [] pos) (nK C m sp b6 E ta t) := by
 intro pins s σ H Q I h
 refine ah8 (pl := pl) (au (he pins s σ H _ I h) fun u s1 ⟨x, H1, I1, rx, a, dx, fs, ex, ea, l, q⟩ => ?_) ht
 subst ex
 obtain rfl : u = ac3 a := rx
 refine G2 I1 ea c hm l ?_
 refine aha (first := [.ref a]) (h₀ := X.base) I.ok.mod.kin hm.kp (au (ha pos pins s1 σ H1 _ I1 q) fun us s2 ⟨vs, H2, I2, r, q2⟩ => ⟨I2.b0, ?_⟩) eL cX
 exact Ar (us := .ref a :: us) (vs := .ref a :: vs) F hr hb hd hx I2 (.cons rfl r) q2
theorem G4 {pl : Sem Bool} (he : PE X o ta) (c : fz X.K C) (hm : Meth X.K C m f) (F : aK X.prog X.w X.K X.mg X.base CX k f fd ps sp) (hr : bW k X.A) (hb : Binds X.K fd ps ds) (hd : Vals b6 ds) (hx : Passes CX X E)
 (ht : eval (.Call (.Attribute o m apos) [] [] pos) X.env = (do
   let ov <- eval o X.env
   akK apos.atName
   let (f, first) <- holding [ov] (ajN ov m pl)
   callWith pos f first (afV pos (adv [] X.env)) (akn pos (aiI [] X.env))) := by rfl) :
 PE X (.Call (.Attribute o m apos) [] [] pos) (nK C m sp b6 E ta lJ) := by
 intro pins s σ H Q I h
 refine ah8 (pl := pl) (au (he pins s σ H _ I h) fun u s1 ⟨x, H1, I1, rx, a, dx, fs, ex, ea, l, q⟩ => ?_) ht
 subst ex
 obtain rfl : u = ac3 a := rx
 refine G2 I1 ea c hm l ?_
 exact PySem.W.callWith_K0 (first := [.ref a]) I1.b0 hm.kp (Ar (us := [.ref a]) (vs := [.ref a]) F hr hb hd hx I1 (.cons rfl .nil) q)
structure Mk (K : acB) (C f : acJ) : Prop where
 makes : ah7 K C = true
 init : ac6 K (.ref C) "__init__" = some (some (.ref f))
 fn : aeQ K (.ref f) = true
 kp : acO K (.ref C) = true
theorem NX {pins : List (acJ × Obj)} {σ : St} {H : Hp} {s : acF} {Q : VK} {us : List acC} {vs : List V} (M : Mk X.K C f) (F : aK X.prog X.w X.K X.mg X.base CX k f fd ps sp) (hr : bW (k + 1) X.A) (hb : Binds X.K fd ps ds) (hd : Vals b6 ds)
 (hx : Passes CX X E) (I : Inv X pins σ H s) (r : Vals vs us)
 (h : ∀ x dx, H x = none -> H dx = none -> dx ≠ x -> sp (.ref x :: (vs ++ b6)) (upd (upd H dx (.own x)) x (.ins C dx [])) (fun v H2 => v = .non /\ Q (.ref x) H2) E) :
 ac0 (model X.prog X.w) X.A (call (.ref C) us) (EP X pins σ Q) X.xe s := by
 have hq := h (s.heap.objs.size + 1) s.heap.objs.size (I.ai.fresh (agX _)) (I.ai.fresh (ac1 _)) (ade (af6 _))
 have I2 := Inv.made (C := C) I
 have r2 : Vals (V.ref (s.heap.objs.size + 1) :: (vs ++ b6)) (ac3 (s.heap.objs.size + 1) :: (us ++ ds)) := .cons rfl (r.append hd)
 have hl : (ac3 (s.heap.objs.size + 1) :: us ++ ds).length = ps.length := by
  have e := r2.length
  rw [F.len _ _ _ _ hq] at e
  exact e.symm
 refine ahq (NN (f := f) I.b0 M.makes M.init (beq_iff_eq.mp M.fn) (agG (F.run _ X.stack _ _ ⟨ac3 (s.heap.objs.size + 1) :: us, []⟩ (ac3 (s.heap.objs.size + 1) :: (us ++ ds)) _ _ E (hr.make C us [])
  (I2.G3.make C us []) (hb _ (ac3 (s.heap.objs.size + 1) :: us) I2.b0 hl) r2 hq) fun r s' fD => ?_))
 cases r with
 | error e => exact hx pins σ _ _ e s' I2 fD
 | ok fl =>
  cases fl with
  | ret u =>
   obtain ⟨v, H', I3, rv, ev, q3⟩ := I2.after fD
   subst ev
   exact ⟨rv, ⟨V.ref (s.heap.objs.size + 1), H', I3, rfl, q3⟩⟩
  | next => exact ae7 fD
  | brk => exact ae7 fD
  | cont => exact ae7 fD
theorem NY (M : Mk X.K C f) (F : aK X.prog X.w X.K X.mg X.base CX k f fd ps sp) (hr : bW (k + 1) X.A) (hg : Gl X x) (hm : X.mg x = some (.ref C)) (hb : Binds X.K fd ps ds) (hd : Vals b6 ds) (hx : Passes CX X E)
 (ha : PA X (e :: es) t) (iH : (x == ("__debug__" : Str)) = false := by decide) (he : adv (e :: es) X.env = (false, eval e X.env) :: adv es X.env := by rfl) (cX : (afV pos (adv es X.env)).any (·.1) = false := by rfl) :
 PE X (.Call (.Name x p) (e :: es) [] pos) (rF C sp b6 E t) := by
 intro pins s σ H Q I h
 refine aeu (uR I hg hm ?_ iH)
 refine aha (h₀ := X.base) I.ok.mod.kin M.kp (au (ha pos pins s σ H _ I h) fun us s1 ⟨vs, H1, I1, r, q⟩ => ⟨I1.b0, ?_⟩) he cX
 exact NX M F hr hb hd hx I1 r q
end
section
variable {X : Cx} {CX : dv} {k : Nat} {f C : acJ} {fd : adg} {ps ks : List Str} {sp : Sp} {E : XK} {x m : Str} {p pos apos acr : Pos} {e o : ae4} {es : List ae4} {kws : List ako} {te ta : TE} {t tk : TA} {nm : Option Str}
variable {g : List acC -> List acC -> List acC} {gV : List V -> List V -> List V}
end
structure aV (N P : List Str) (sc : agN) : Prop where
 kind : sc.kind = .function
 co : sc.isCoroutine = false
 gen : sc.isGenerator = false
 nd : N.Nodup
 pre : N.take P.length = P
 par : ∀ x ∈ P, sc.names.lookup x = some .local ∨ sc.names.lookup x = some .cell
 nofree : ∀ y ∈ sc.names, y.2 ≠ .free
theorem G5 {ahr : Str -> Option ahE} {x : Str} : ∀ {binds : List (Str × acC)} {m : Str -> Option acC}, (∀ v, (x, v) ∉ binds) -> akL ahr binds m x = m x
 | [], _, _ => rfl
 | (n, v) :: r, m, h => by
  unfold akL
  rw [G5 fun w hw => h w (ac5 _ hw)]
  split
  ·have : x ≠ n := by rintro rfl; exact h v adE
   simp [this]
  ·rfl
theorem G6 {ahr : Str -> Option ahE} {x : Str} : ∀ {binds : List (Str × acC)} {m : Str -> Option acC}, (∀ v, (x, v) ∉ binds) -> akM ahr binds m x = m x
 | [], _, _ => rfl
 | (n, v) :: r, m, h => by
  unfold akM
  rw [G6 fun w hw => h w (ac5 _ hw)]
  split
  ·rfl
  ·have : x ≠ n := by rintro rfl; exact h v adE
   simp [this]
theorem G7 {ahr : Str -> Option ahE} {x : Str} {v : acC} : ∀ {P : List Str} {vs : List acC} {i : Nat} {m : Str -> Option acC}, P.Nodup -> P[i]? = some x -> vs[i]? = some v -> ahr x = some .local ->
 akL ahr (P.zip vs) m x = some v
 | [], _, _, _, _, h, _, _ => by simp at h
 | _ :: _, [], _, _, _, _, h, _ => by simp at h
 | p :: P, w :: vs, 0, m, nd, h1, h2, hk => by
  simp at h1 h2; subst h1; subst h2
  show akL ahr ((p, w) :: P.zip vs) m p = _
  unfold akL
  rw [G5 fun v hv => (adP.mp nd).1 (ah9 hv).1, if_pos hk]
  simp
 | p :: P, w :: vs, i + 1, m, nd, h1, h2, hk => by
  show akL ahr ((p, w) :: P.zip vs) m x = _
  unfold akL
  exact G7 (i := i) (adP.mp nd).2 (by simpa using h1) (by simpa using h2) hk
theorem G8 {ahr : Str -> Option ahE} {x : Str} {v : acC} : ∀ {P : List Str} {vs : List acC} {i : Nat} {m : Str -> Option acC}, P.Nodup -> P[i]? = some x -> vs[i]? = some v -> ahr x ≠ some .local ->
 akM ahr (P.zip vs) m x = some v
 | [], _, _, _, _, h, _, _ => by simp at h
 | _ :: _, [], _, _, _, _, h, _ => by simp at h
 | p :: P, w :: vs, 0, m, nd, h1, h2, hk => by
  simp at h1 h2; subst h1; subst h2
  show akM ahr ((p, w) :: P.zip vs) m p = _
  unfold akM
  rw [G6 fun v hv => (adP.mp nd).1 (ah9 hv).1, if_neg hk]
  simp
 | p :: P, w :: vs, i + 1, m, nd, h1, h2, hk => by
  show akM ahr ((p, w) :: P.zip vs) m x = _
  unfold akM
  exact G8 (i := i) (adP.mp nd).2 (by simpa using h1) (by simpa using h2) hk
noncomputable def start (N : List Str) (vs : List V) : St := vs.map some ++ adU (N.length - vs.length) none
noncomputable def eO (CX : dv) (P : ac2) (w : adw) (K : acB) (mg : Str -> Option acC) (base : aer) (N : List Str) (qual : Str) (scope : agN) (f : acJ) (cd : acC) (A : adD) (outer : List Env) (s : acF) (H : Hp) (E : XK) : Cx where
 prog := P
 w := w
 K := K
 mg := mg
 base := base
 A := A.deeper (ae5 qual scope s.heap.objs.size f cd)
 N := N
 s₀ := s
 H₀ := H
 env := ae5 qual scope s.heap.objs.size f cd
 outer := outer
 stack := ae5 qual scope s.heap.objs.size f cd :: outer
 ex := []
 calm := true
 fn := fun _ => true
 pn := []
 xe := fun e s' => ac0 (model P w) (A.deeper (ae5 qual scope s.heap.objs.size f cd)) (leaving (ae5 qual scope s.heap.objs.size f cd) e) (fun _ rG => CX outer H s E e rG) (fun e' rG => CX outer H s E e' rG) s'
theorem G9 {sc : agN} {n : Nat} {x : Str} (h : sc.names.lookup x = some .cell) : ∃ c, (cellsFrom n sc.names []).lookup x = some c := by
 have q := ahV sc.names n [] (.inl h)
 exact aeo.mp q
theorem NZ {CX : dv} {P : ac2} {w : adw} {K : acB} {mg : Str -> Option acC} {base : aer} {N ps : List Str} {qual : Str} {scope : agN} {f : acJ} {cd : acC} {A : adD} {outer : List Env} {s s1 : acF} {H : Hp} {E : XK} {us : List acC} {vs : List V}
 (S : aV N ps scope) (hd : A.handled = none) (e0 : lK P w K mg base A outer s H) (hl : vs.length = ps.length) (r : Vals vs us)
 (x : InCallC s s.heap.objs.size (akL (ae5 qual scope s.heap.objs.size f cd).kindOf (ps.zip us) fun _ => none) (cellsFrom (s.heap.objs.size + 1) scope.names []) (akM (ae5 qual scope s.heap.objs.size f cd).kindOf (ps.zip us) fun _ => none) s1) :
 Inv (eO CX P w K mg base N qual scope f cd A outer s H E) [] (start N vs) H s1 := by
 have cX : ps.length <= N.length := by have := congrArg List.length S.pre; rw [agO] at this; omega
 obtain ⟨h1, tk, rfl, hk⟩ := x.done
 have rH : ∀ b : acJ, b ∉ (eO CX P w K mg base N qual scope f cd A outer s H E).ex := fun b z => absurd (show b ∈ ([] : List acJ) from z) (by simp)
 refine ⟨⟨e0.mod, S.kind, rfl, rfl, ac1 _, fun y z c h1 h2 => ?_, fun y hy => ?_, fun y c _ h => ?_, fun _ => hd, Around.frames_deeper e0.frames, .inr ⟨rfl, rfl⟩, fun b z => absurd z (rH b), e0.bs, e0.bsz, fun b _ _ => rH b, fun b z => absurd z (rH b), e0.fo, e0.frf⟩,
  rfl, e0.bare, Un.kept hk, ⟨_, x.toInCall.ns, fun i y v h1 h2 h3 => ?_⟩, fun y c h => ⟨_, x.cell y c h⟩, e0.ai.fresh (ac1 _), fun y c h => ?_, fun p hp => absurd (show p ∈ ([] : List (acJ × Obj)) from hp) (by simp), e0.ai.kept hk, ?_⟩
 ·exact name_of_addr x.apart (aeZ h1) (aeZ h2)
 ·have hy : scope.names.lookup y = some .cell ∨ scope.names.lookup y = some .free := hy
  rcases hy with hy | hy
  ·exact G9 hy
  ·exact absurd rfl (S.nofree _ (aeZ hy))
 ·exact agb (x.above y c (aeZ h))
 ·have hi : i < vs.length := by
   unfold start at h2
   by_cases hi : i < vs.length
   ·exact hi
   ·rw [aez (by simpa using hi)] at h2
    rw [afu] at h2
    split at h2 <;> cases h2
  have ha : vs[i]? = some v := by
   unfold start at h2
   rw [aeh (by simpa using hi), adn] at h2
   cases e : vs[i]? with
   | none => rw [e] at h2; cases h2
   | some a => rw [e] at h2; cases h2; rfl
  obtain ⟨u, hu, rv⟩ := r.get ha
  have hp : ps[i]? = some y := by
   rw [<- S.pre, List.getElem?_take_of_lt (by omega)]; exact h1
  have Ha : ps.Nodup := by rw [<- S.pre]; exact S.nd.sublist (List.take_sublist _ _)
  refine ⟨u, rv, ?_⟩
  rcases S.par y (acZ hp) with k | k
  ·exact .inl ⟨k, G7 Ha hp hu k⟩
  ·obtain ⟨c, e⟩ := G9 (n := s.heap.objs.size + 1) k
   refine .inr ⟨.inl k, c, e, ?_⟩
   have q := x.cell y c e
   rw [G8 Ha hp hu (by show scope.names.lookup y ≠ _; rw [k]; decide)] at q
   exact q
 ·exact e0.ai.fresh (agb (x.above y c (aeZ h)))
 ·unfold start
  show _ = N.length
  rw [adl, acI, afa]
  omega
theorem Hb {CX : dv} {P : ac2} {w : adw} {K : acB} {mg : Str -> Option acC} {base : aer} {k : Nat} {f : acJ} {name qual : Str} {params : Arguments} {body : List afU} {scope : agN} {dV kV doc pm aF ct oc : acC} {an od : Option acJ}
 {iI : Array (Option acC)} {N ps : List Str} {sp : Sp} (lk : K.lookup f = some ⟨oc, od, .func (acW name qual params body scope dV kV doc pm an aF ct), iI⟩) (fq : acS K aF qual = true) (S : aV N ps scope)
 (len : ∀ vs H Q E, sp vs H Q E -> vs.length = ps.length)
 (rJ : ∀ (A : adD) (outer : List Env) (s : acF) (H : Hp) (vs : List V) (Q : VK) (E : XK), bW k (A.deeper (ae5 qual scope s.heap.objs.size f aF)) -> sp vs H Q E ->
   ∃ t, bq (eO CX P w K mg base N qual scope f aF A outer s H E) body t /\ t { nx := fun _ H' => Q .non H', rt := Q } (start N vs) H) :
 aK P w K mg base CX (k + 1) f (acW name qual params body scope dV kV doc pm an aF ct) ps sp := by
 refine ⟨len, fun A outer s H args us vs Q E hr e0 hb r jl => ?_⟩
 have hl := len _ _ _ _ jl
 have KX : K.In s.heap := e0.mod.kin.keeps fun b o e => (e0.bs b o e).1
 have lim : s.heap.NoLimit := e0.mod.nolimit.keeps fun b o e => (e0.bs b o e).1
 have N0 : ∀ y ∈ ps.zip us, scope.names.lookup y.1 = some .local ∨ (scope.names.lookup y.1 = some .cell /\ ((cellsFrom (s.heap.objs.size + 1) scope.names []).lookup y.1).isSome = true) := fun ⟨n, v⟩ hy => by
  rcases S.par n (ah9 hy).1 with q | q
  ·exact .inl q
  ·exact .inr ⟨q, ahV _ _ _ (.inl q)⟩
 refine codeAny_call_function hr.depth (KX _ _ lk) rfl S.co S.gen rfl (PySem.W.codeRec_of KX fq) (hb _ _ _ _ ?_)
 refine wpAny_newFunctionEnv_cells S.kind N0 fun env he s1 x => ?_
 subst he
 refine ⟨lim.keeps x.toInCall.keep, codeAny_func ?_⟩
 obtain ⟨t, ht, hq⟩ := rJ A outer s H vs Q E (hr.deeper _) jl
 have I : Inv (eO CX P w K mg base N qual scope f aF A outer s H E) [] (start N vs) H s1 := NZ S hr.hd e0 hl r x
 refine adz (ht [] s1 (start N vs) H _ I hq) (fun fl s' hs => ?_) fun e s' hs => hs
 have fin : ∀ {σ' : St} {H' : Hp} {v : V} {u : acC}, Inv (eO CX P w K mg base N qual scope f aF A outer s H E) [] σ' H' s' -> RelV v u -> Q v H' -> CE outer P w H s Q u s' :=
  fun {σ' H' v u} J rv q => ⟨v, H', J.os, J.bare, J.base, J.ai, rv, q⟩
 cases fl with
 | ret u =>
  obtain ⟨v, σ', H', J, rv, q⟩ := hs
  exact fin J rv q
 | next =>
  obtain ⟨σ', H', J, q⟩ := hs
  exact fin (v := V.non) (u := Value.none) J rfl q
 | brk =>
  obtain ⟨_, _, _, q⟩ := hs
  exact ae7 q
 | cont =>
  obtain ⟨_, _, _, q⟩ := hs
  exact ae7 q
end L2
namespace L2
open PySem PySem.Spec PyProof.Rows
section
variable {X : Cx} {x : Str} {p pos : Pos} {e : ae4} {es : List ae4} {t : TA} {id T : String} {r : List V -> Hp -> VK -> Prop}
noncomputable def nM (r : List V -> Hp -> VK -> Prop) (t : TA) : TE := fun σ H Q => t σ H fun vs H1 => r vs H1 Q
theorem bC (hc : cW X (.builtin id) r) (hg : Gl X x) (hm : X.mg x = none) (hv : adR x = some (.builtin id)) (ha : PA X (e :: es) t) (hn : x ≠ "__name__" := by decide) (iH : (x == ("__debug__" : Str)) = false := by decide)
 (he : adv (e :: es) X.env = (false, eval e X.env) :: adv es X.env := by rfl) (cX : (afV pos (adv es X.env)).any (·.1) = false := by rfl) : PE X (.Call (.Name x p) (e :: es) [] pos) (nM r t) := by
 intro pins s σ H Q I h
 refine aeu (fY I hg hm hv ?_ hn iH)
 exact agH (au (ha pos pins s σ H _ I h) fun us s1 ⟨vs, H1, I1, r1, q1⟩ => hc pins s1 σ H1 vs us Q I1 r1 q1) he cX
theorem vc (hc : cW X (.type T) r) (hg : Gl X x) (hm : X.mg x = none) (hv : adR x = some (.type T)) (ha : PA X (e :: es) t) (hn : x ≠ "__name__" := by decide) (iH : (x == ("__debug__" : Str)) = false := by decide)
 (he : adv (e :: es) X.env = (false, eval e X.env) :: adv es X.env := by rfl) (cX : (afV pos (adv es X.env)).any (·.1) = false := by rfl) : PE X (.Call (.Name x p) (e :: es) [] pos) (nM r t) := by
 intro pins s σ H Q I h
 refine aeu (fY I hg hm hv ?_ hn iH)
 exact ad4 (au (ha pos pins s σ H _ I h) fun us s1 ⟨vs, H1, I1, r1, q1⟩ => hc pins s1 σ H1 vs us Q I1 r1 q1) he cX
end
end L2
namespace HT
open PySem PyProof.Rows
noncomputable def lexLt : List Int -> List Int -> Bool
 | [], [] => false
 | [], _ :: _ => true
 | _ :: _, [] => false
 | x :: xs, y :: ys => if x = y then lexLt xs ys else decide (x < y)
theorem lL (x y : Int) (xs ys : List Int) : lexLt (x :: xs) (y :: ys) = if x = y then lexLt xs ys else decide (x < y) := rfl
section
open PySem.SeqAt
open PySem.AutoSeq1 (wpAny_loadPart')
open PySem.MeetsSeq PySem.MeetsSeq2 PySem.MeetsSeq3
end
section
variable {prog : ac2} {w : adw} {A : adD} {E : acC -> acF -> Prop} {s : acF}
noncomputable def As (n d : Nat) : Option Int -> Nat
 | none => d
 | some v => if v < 0 then (v + (n : Int)).toNat else min v.toNat n
end
end HT
namespace L2
open PySem PySem.Spec PyProof.Rows
noncomputable abbrev TO := St -> Hp -> (Option Int -> Hp -> Prop) -> Prop
noncomputable def vd : TO := fun _ H Q => Q none H
noncomputable def ve (t : TE) : TO := fun σ H Q => t σ H fun x H1 => ∃ i, x = .int i /\ Q (some i) H1
theorem intsAre_of {ns : List Int} : ∀ {us : List acC}, Vals (ns.map V.int) us -> afP us ns := by
 induction ns with
 | nil => intro us r; rw [ahb] at r; cases r; exact .nil
 | cons n ns ih =>
  intro us r
  rw [ac7] at r
  cases r with
  | cons r1 r2 =>
   obtain ⟨t, e⟩ := r1
   subst e
   exact .cons n t (ih r2)
section
variable {X : Cx} {e : ae4} {te : TE} {lo hi : Option ae4} {tl th : TO} {pos p2 : Pos}
noncomputable def vf (r : V -> Option Int -> Option Int -> Hp -> VK -> Prop) (te : TE) (tl th : TO) : TE := fun σ H Q => te σ H fun x H1 => tl σ H1 fun l H2 => th σ H2 fun u H3 => r x l u H3 Q
noncomputable def N1 (xs : List V) (lo hi : Option Int) : List V := (xs.drop (HT.As xs.length 0 lo)).take (HT.As xs.length xs.length hi - HT.As xs.length 0 lo)
end
end L2
namespace L2
open PySem PySem.Spec PyProof.Rows
noncomputable def iJ (n : Nat) (i : Int) : Option Nat := if 0 <= i then (if i < n then some i.toNat else none) else if -(n : Int) <= i then some (i + n).toNat else none
noncomputable def dw {α : Type} (xs : List α) (i : Int) : Option α := (iJ xs.length i).bind fun j => xs[j]?
theorem Hc {n : Nat} {i : Int} {j : Nat} (h : iJ n i = some j) : seqIndex? i n = some j /\ j < n /\ -(n : Int) <= i /\ i < n := by
 unfold iJ at h
 by_cases h0 : 0 <= i
 ·rw [if_pos h0] at h
  by_cases h1 : i < n
  ·rw [if_pos h1] at h
   have e : i.toNat = j := Option.some.inj h
   exact ⟨by rw [ajP h0 h1, e], by omega, by omega, h1⟩
  ·rw [if_neg h1] at h; cases h
 ·rw [if_neg h0] at h
  by_cases h1 : -(n : Int) <= i
  ·rw [if_pos h1] at h
   have e : (i + n).toNat = j := Option.some.inj h
   exact ⟨by rw [ajr (by omega) h1, e], by omega, h1, by omega⟩
  ·rw [if_neg h1] at h; cases h
theorem Au {α : Type} {xs : List α} {i : Int} {v : α} (h : dw xs i = some v) : ∃ j, seqIndex? i xs.length = some j /\ xs[j]? = some v /\ j < xs.length /\ -(xs.length : Int) <= i /\ i < xs.length := by
 unfold dw at h
 cases e : iJ xs.length i with
 | none => rw [e] at h; cases h
 | some j =>
  rw [e] at h
  obtain ⟨h1, h2, h3, h4⟩ := Hc e
  exact ⟨j, h1, h, h2, h3, h4⟩
theorem dz {α : Type} {xs : List α} {j : Nat} {v : α} (h : xs[j]? = some v) : dw xs (j : Int) = some v := by
 have hj : j < xs.length := (acX.mp h).1
 have e : iJ xs.length (j : Int) = some j := by
  unfold iJ
  rw [if_pos (by omega), if_pos (by omega)]; simp
 unfold dw; rw [e]; exact h
noncomputable def N2 (b : ae4) : Prop := ∀ o i, subscripted b false o i = operate [o, i] (akp o i)
noncomputable def gT (X : Cx) (r : R2) : Prop :=
 ∀ (value slice : ae4) (pins : List (acJ × Obj)) (s : acF) (σ : St) (H : Hp) (x y : V) (v u : acC) (Q : VK), Inv X pins σ H s -> RelV x v -> RelV y u -> r x y H Q ->
  subscripted slice false v u = operate [v, u] (akp v u) -> ac0 (model X.prog X.w) X.A (subscriptTail value slice v u) (EP X pins σ Q) X.xe s
noncomputable def Hd (X : Cx) (id : String) (r : V -> List V -> Hp -> VK -> Prop) : Prop :=
 ∀ (pins : List (acJ × Obj)) (s : acF) (σ : St) (H : Hp) (x : V) (xs : List V) (v : acC) (us : List acC) (Q : VK), Inv X pins σ H s -> RelV x v -> Vals xs us -> r x xs H Q ->
  ac0 (model X.prog X.w) X.A (call (.builtin id) (v :: us)) (EP X pins σ Q) X.xe s
section
variable {X : Cx} {a b : ae4} {ta tb : TE} {pos : Pos}
theorem gT.or {r r' : R2} (h : gT X r) (h' : gT X r') : gT X (fun x y H Q => r x y H Q ∨ r' x y H Q) := by
 intro value slice pins s σ H x y v u Q I rx ry q hs
 rcases q with q | q
 ·exact h value slice pins s σ H x y v u Q I rx ry q hs
 ·exact h' value slice pins s σ H x y v u Q I rx ry q hs
theorem ax {r : R2} (hr : gT X r) (ha : PE X a ta) (hb : PE X b tb) (hs : N2 b) : PE X (.Subscript a b pos) (jk r ta tb) := by
 intro pins s σ H Q I h
 exact Subscript_ (An ha hb I h fun v u s2 x y H2 I2 rx ry q => hr a b pins s2 σ H2 x y v u Q I2 rx ry q (hs _ _))
noncomputable def He (K : acB) : R2 := fun x y H Q => ∃ p xs i v, x = .ref p /\ y = .int i /\ ag K H p xs /\ dw xs i = some v /\ Q v H
noncomputable def Hf (K : acB) : R2 := fun x y H Q => ∃ p xs i v, x = .ref p /\ y = .int i /\ az K H p xs /\ dw xs i = some v /\ Q v H
noncomputable def Hg : R2 := fun x y H Q => ∃ z i c, x = .str z /\ y = .int i /\ z.length <= adb /\ dw z.cps.toList i = some c /\ Q (.str ⟨#[c]⟩) H
theorem N3 : gT X (He X.K) := by
 intro value slice pins s σ H x y v u Q I rx ry h hs
 obtain ⟨p, xs, i, z, rfl, rfl, hq, he, q⟩ := h
 cases rx
 obtain ⟨t, rfl⟩ := ry
 obtain ⟨af, r, pl, hz⟩ := I.list hq
 obtain ⟨j, h1, h2, h3, h4, h5⟩ := Au he
 obtain ⟨w, ew, gf⟩ := r.get h2
 have hl := r.length
 have hn := rq
 have fin : EP X pins σ Q w s := ⟨z, H, I, gf, q⟩
 by_cases h0 : 0 <= i
 ·have hj : i.toNat = j := by
   rw [ajP h0 h5] at h1
   exact Option.some.inj h1
  exact item_listR pl.isList h0 (by omega) (by rw [hj]; simpa using ew) fin hs
 ·have hj : (i + (af.toArray.size : Int)).toNat = j := by
   rw [ajr (by omega) h4] at h1
   rw [ac4, <- hl]
   exact Option.some.inj h1
  exact ahW (x := w) pl.isList.typeIs slot_list_getitem.lookup
   (wpAny_getItem_list_neg (Q := fun r s' => r = w /\ EP X pins σ Q r s') pl.isList (by omega) (by rw [ac4] <;> omega) (by omega) (by rw [hj]; simpa using ew) ⟨rfl, fin⟩) hs
theorem N4 : gT X (Hf X.K) := by
 intro value slice pins s σ H x y v u Q I rx ry h hs
 obtain ⟨p, xs, i, z, rfl, rfl, hq, he, q⟩ := h
 cases rx
 obtain ⟨t, rfl⟩ := ry
 obtain ⟨af, r, pl, hz⟩ := I.tuple hq
 obtain ⟨j, h1, h2, h3, h4, h5⟩ := Au he
 obtain ⟨w, ew, gf⟩ := r.get h2
 have hl := r.length
 have hn := rq
 have fin : EP X pins σ Q w s := ⟨z, H, I, gf, q⟩
 exact ahW (x := w) pl.typeIs slot_tuple_getitem.lookup
  (getItem_tuple (j := j) (Q := fun r s' => r = w /\ EP X pins σ Q r s') pl (by omega) (by omega) (by rw [ac4, <- hl]; exact h1) (by simpa using ew) ⟨rfl, fin⟩) hs
theorem N5 : gT X Hg := by
 intro value slice pins s σ H x y v u Q I rx ry h hs
 obtain ⟨z, i, c, rfl, rfl, hz, he, q⟩ := h
 obtain ⟨t, rfl⟩ := rx
 obtain ⟨t', rfl⟩ := ry
 obtain ⟨j, h1, h2, h3, h4, h5⟩ := Au he
 have hl : z.cps.toList.length = z.length := by simp [Str.length]
 rw [hl] at h1 h4 h5
 have hn := rq
 exact tail_any (typeIs_str s z t) slot_str_getitem.lookup (getItem_str (c := c) (by
  have e1 : decide (i < -(2 ^ 63 : Int)) = false := decide_eq_false (by omega)
  have e2 : decide (i ≥ 2 ^ 63) = false := decide_eq_false (by omega)
  rw [e1, e2, Bool.or_false]) (by rw [h1]; simpa using h2) ⟨.str ⟨#[c]⟩, H, I.tok _, ⟨_, rfl⟩, q⟩) hs
noncomputable def dJ (K : acB) : R2 := fun x y H Q => He K x y H Q ∨ Hf K x y H Q ∨ Hg x y H Q
theorem aB : gT X (dJ X.K) := N3.or (N4.or N5)
theorem N6 (af : List acC) (n j : Nat) (u : acC) : ae8 (·.setIfInBounds j u) { cls := .type "list", data := .seq af.toArray n } = { cls := .type "list", data := .seq (af.set j u).toArray n } := by
 simp [ae8]
theorem Inv.lst {pins : List (acJ × Obj)} {σ : St} {H : Hp} {s : acF} {p : acJ} {xs : List V} (I : Inv X pins σ H s) (h : H p = some (.lst xs)) :
 ∃ (af : List acC) (n : Nat), Vals xs af /\ s.heap.get? p = some { cls := .type "list", data := .seq af.toArray n } /\ xs.length <= adb := by
 obtain ⟨z, af, n, r, e⟩ := I.ai p _ h
 exact ⟨af, n, r, e, z⟩
theorem Inv.N7 {pins : List (acJ × Obj)} {σ : St} {H : Hp} {s : acF} {p : acJ} {xs ys : List V} {af its' : List acC} {n n' : Nat} {f : Obj -> Obj} (I : Inv X pins σ H s) (h : H p = some (.lst xs))
 (ho : s.heap.get? p = some { cls := .type "list", data := .seq af.toArray n }) (hf : f { cls := .type "list", data := .seq af.toArray n } = { cls := .type "list", data := .seq its'.toArray n' }) (r : Vals ys its') (hz : ys.length <= adb) (t : Nat) :
 Inv X pins σ (upd H p (.lst ys)) { s with heap := s.heap.update p f, toks := t } := by
 have e : (s.heap.update p f).get? p = some { cls := .type "list", data := .seq its'.toArray n' } := by
  rw [adB f ho (by rw [hf] <;> rfl), hf]
 refine I.write (x := p) (e := p) (by rw [h]; trivial) (.inl rfl) (fun b u hb q => (acM _ _ (adV hb)).trans q) ⟨_, e⟩ ?_
 exact ⟨hz, its', n', r, e⟩
noncomputable def iK : V -> V -> V -> Hp -> (Hp -> Prop) -> Prop := fun o i v H Q => ∃ p xs k j, o = .ref p /\ i = .int k /\ H p = some (.lst xs) /\ iJ xs.length k = some j /\ Q (upd H p (.lst (xs.set j v)))
theorem set_list : GL X iK := by
 intro pins s σ H o i v ov iv u Q I ro ri rv h
 obtain ⟨p, xs, k, j, rfl, rfl, hp, hj, q⟩ := h
 cases ro
 obtain ⟨t, rfl⟩ := ri
 obtain ⟨af, n, r, ho, hz⟩ := I.lst hp
 obtain ⟨h1, h2, h3, h4⟩ := Hc hj
 have hl := r.length
 have hn := rq
 have I' : Inv X pins σ (upd H p (.lst (xs.set j v))) { s with heap := s.heap.update p (ae8 (·.setIfInBounds j u)) } :=
  I.N7 hp ho (N6 af n j u) (r.set rv j) (by rw [ajQ]; exact hz) s.toks
 by_cases h0 : 0 <= k
 ·have hk : k.toNat = j := by
   rw [ajP h0 h4] at h1
   exact Option.some.inj h1
  exact PySem.W.ki_setAt ho h0 (by omega) (by rw [ac4, <- hl]; exact h4) (by rw [hk]; exact ⟨_, I', q⟩)
 ·have hk : (k + (af.toArray.size : Int)).toNat = j := by
   rw [ajr (by omega) h3] at h1
   rw [ac4, <- hl]
   exact Option.some.inj h1
  exact PySem.W.ki_setBack ho (by omega) (by rw [ac4, <- hl]; exact h3) (by omega) (by rw [hk]; exact ⟨_, I', q⟩)
noncomputable def vg (K : acB) : V -> Option Int -> Option Int -> Hp -> VK -> Prop := fun x lo hi H Q => ∃ a xs, x = .ref a /\ ag K H a xs /\ ∀ p, H p = none -> Q (.ref p) (upd H p (.lst (N1 xs lo hi)))
noncomputable def gU : V -> Bool
 | .non => true
 | .bl _ => true
 | .int _ => true
 | .str _ => true
 | _ => false
noncomputable def jm : V -> V -> Bool
 | .non, .non => true
 | .bl a, .bl b => a == b
 | .bl a, .int b => (if a then 1 else 0) == b
 | .int a, .bl b => a == (if b then 1 else 0)
 | .int a, .int b => a == b
 | .str a, .str b => a == b
 | _, _ => false
theorem N8 {A : adD} {s : acF} {y x : V} {u v : acC} (ry : RelV y u) (rx : RelV x v) (fy : gU y = true) (fx : gU x = true) : SeqAt.EqAt A s u v (jm y x) := by
 cases y with
 | non =>
  cases ry
  cases x with
  | non => cases rx; exact SeqAt.EqAt.same _
  | bl b => cases rx; exact SeqAt.EqAt.none_bool b
  | int b => obtain ⟨t, rfl⟩ := rx; exact SeqAt.EqAt.none_int b t
  | str b => obtain ⟨t, rfl⟩ := rx; exact SeqAt.EqAt.none_str b t
  | _ => exact absurd (show false = true from fx) ac9
 | bl a =>
  cases ry
  cases x with
  | non => cases rx; exact SeqAt.EqAt.bool_none a
  | bl b => cases rx; exact SeqAt.EqAt.bool_bool a b
  | int b => obtain ⟨t, rfl⟩ := rx; exact SeqAt.EqAt.bool_int a b t
  | str b => obtain ⟨t, rfl⟩ := rx; exact SeqAt.EqAt.bool_str a b t
  | _ => exact absurd (show false = true from fx) ac9
 | int a =>
  obtain ⟨t', rfl⟩ := ry
  cases x with
  | non => cases rx; exact SeqAt.EqAt.int_none a t'
  | bl b => cases rx; exact SeqAt.EqAt.int_bool a t' b
  | int b => obtain ⟨t, rfl⟩ := rx; exact SeqAt.EqAt.int_int a t' b t
  | str b => obtain ⟨t, rfl⟩ := rx; exact SeqAt.EqAt.int_str a t' b t
  | _ => exact absurd (show false = true from fx) ac9
 | str a =>
  obtain ⟨t', rfl⟩ := ry
  cases x with
  | non => cases rx; exact SeqAt.EqAt.str_none a t'
  | bl b => cases rx; exact SeqAt.EqAt.str_bool a t' b
  | int b => obtain ⟨t, rfl⟩ := rx; exact SeqAt.EqAt.str_int a t' b t
  | str b => obtain ⟨t, rfl⟩ := rx; exact SeqAt.EqAt.str_str a t' b t
  | _ => exact absurd (show false = true from fx) ac9
 | _ => exact absurd (show false = true from fy) ac9
noncomputable def dM (x : V) (u : acC) : Bool := match u with
 | .none => jm .non x
 | .bool b => jm (.bl b) x
 | .int i _ => jm (.int i) x
 | .str z _ => jm (.str z) x
 | _ => false
theorem Hh {x y : V} {u : acC} (r : RelV y u) (f : gU y = true) : dM x u = jm y x := by
 cases y with
 | non => cases r; rfl
 | bl b => cases r; rfl
 | int i => obtain ⟨t, rfl⟩ := r; rfl
 | str z => obtain ⟨t, rfl⟩ := r; rfl
 | _ => exact absurd (show false = true from f) ac9
theorem rK {x : V} : ∀ {xs : List V} {us : List acC}, Vals xs us -> xs.all gU = true -> us.any (dM x) = xs.any fun y => jm y x
 | _, _, .nil, _ => rfl
 | y :: xs, u :: us, .cons r t, f => by
  rw [akq, aej] at f
  rw [aeN, aeN, Hh r f.1, rK t f.2]
theorem rL {A : adD} {s : acF} {x : V} {v : acC} (rx : RelV x v) (fx : gU x = true) : ∀ {xs : List V} {us : List acC}, Vals xs us -> xs.all gU = true -> ∀ u ∈ us, SeqAt.EqAt A s u v (dM x u)
 | _, _, .nil, _ => fun u hu => by cases hu
 | y :: xs, u :: us, .cons r t, f => fun u' hu => by
  rw [akq, aej] at f
  rcases acN.mp hu with rfl | hu
  ·rw [Hh r f.1]; exact N8 r rx f.1 fx
  ·exact rL rx fx t f.2 u' hu
noncomputable def nN (x : V) (xs : List V) : Bool := xs.any fun y => jm y x
noncomputable def Av (K : acB) (neg : Bool) : R2 := fun x y H Q => ∃ p xs, y = .ref p /\ (ag K H p xs ∨ az K H p xs) /\ gU x = true /\ xs.all gU = true /\ Q (.bl (if neg then !nN x xs else nN x xs)) H
theorem Aw : bJ X (aem .In) (Av X.K false) := by
 intro pins s σ H x y v u Q I rx ry h
 obtain ⟨p, xs, rfl, hq, fx, fs, q⟩ := h
 cases ry
 rcases hq with hq | hq
 ·obtain ⟨af, r, pl, hz⟩ := I.list hq
  refine SeqAt.in_listAt (dM x) pl.isList (fun w hw => rL rx fx r fs w (by simpa using hw)) ⟨.bl _, H, I, rfl, ?_⟩
  rw [show af.toArray.any (dM x) = af.any (dM x) by simp, rK r fs]
  exact q
 ·obtain ⟨af, r, pl, hz⟩ := I.tuple hq
  refine SeqAt.in_tupleAt (dM x) pl (fun w hw => rL rx fx r fs w (by simpa using hw)) ⟨.bl _, H, I, rfl, ?_⟩
  rw [show af.toArray.any (dM x) = af.any (dM x) by simp, rK r fs]
  exact q
theorem vh : bJ X (aem .NotIn) (Av X.K true) := by
 intro pins s σ H x y v u Q I rx ry h
 obtain ⟨p, xs, rfl, hq, fx, fs, q⟩ := h
 cases ry
 rcases hq with hq | hq
 ·obtain ⟨af, r, pl, hz⟩ := I.list hq
  refine SeqAt.notIn_listAt (dM x) pl.isList (fun w hw => rL rx fx r fs w (by simpa using hw)) ⟨.bl _, H, I, rfl, ?_⟩
  rw [show af.toArray.any (dM x) = af.any (dM x) by simp, rK r fs]
  exact q
 ·obtain ⟨af, r, pl, hz⟩ := I.tuple hq
  refine SeqAt.notIn_tupleAt (dM x) pl (fun w hw => rL rx fx r fs w (by simpa using hw)) ⟨.bl _, H, I, rfl, ?_⟩
  rw [show af.toArray.any (dM x) = af.any (dM x) by simp, rK r fs]
  exact q
theorem N9 : cW X (.type "list") (fun xs H Q => ∃ p ys, xs = [.ref p] /\ (ag X.K H p ys ∨ az X.K H p ys) /\ ∀ l, H l = none -> Q (.ref l) (upd H l (.lst ys))) := by
 intro pins s σ H xs us Q I r h
 obtain ⟨p, ys, rfl, hq, q⟩ := h
 obtain ⟨u, rfl, rx⟩ := vals1 r
 cases rx
 have fin : ∀ (af : List acC), Vals ys af -> ys.length <= adb -> ∀ (h' : aer) (c' : Nat), (∀ b o', s.heap.get? b = some o' -> h'.get? b = some o') ->
  h'.get? s.heap.objs.size = some { cls := .type "list", dict := none, data := .seq af.toArray c', slots := #[] } -> EP X pins σ Q (.ref s.heap.objs.size) { s with heap := h' } := fun af r' hz h' c' kp e =>
  ⟨.ref s.heap.objs.size, _, I.laid (t' := s.toks) kp (ac1 _) (show bp X.prog X.w _ h' _ (.lst ys) from ⟨hz, af, c', r', e⟩), rfl, q _ (I.ai.fresh (ac1 _))⟩
 rcases hq with hq | hq
 ·obtain ⟨af, r', pl, hz⟩ := I.list hq
  have hlen := r'.length
  obtain ⟨o, ho, hc, n, hd⟩ := pl.isList
  exact call_list_seq p (.inl rfl) ho hc hd (fun h' c' kp e => fin af r' hz h' c' kp e) (by simp only [ac4] <;> omega)
 ·obtain ⟨af, r', pl, hz⟩ := I.tuple hq
  have hlen := r'.length
  obtain ⟨o, ho, hc, n, hd⟩ := pl
  exact call_list_seq p (.inr rfl) ho hc hd (fun h' c' kp e => fin af r' hz h' c' kp e) (by simp only [ac4] <;> omega)
noncomputable def Ax (K : acB) (T : String) (x : V) (H : Hp) : Prop := match x with
 | .str _ => T = "str"
 | .int _ => T = "int"
 | .ref p => (T = "list" /\ ∃ xs, ag K H p xs) ∨ (T = "tuple" /\ ∃ o, K.lookup p = some o /\ o.cls = .type "tuple" /\ o.dict = none) ∨
  (T = "dict" /\ ((∃ kvs, H p = some (.dK kvs)) ∨ ∃ kvs, H p = some (.dT kvs))) ∨ (T = "set" /\ ∃ S n, H p = some (.set S n))
 | _ => False
theorem Hi {pins : List (acJ × Obj)} {σ : St} {H : Hp} {s : acF} {T : String} {x : V} {v : acC} (I : Inv X pins σ H s) (r : RelV x v) (ty : Ax X.K T x H) :
 s.TypeIs v T /\ ∀ a, v = .ref a -> ∃ ob, s.heap.get? a = some ob /\ ob.dict = none := by
 cases x with
 | str z =>
  obtain ⟨t, rfl⟩ := r
  cases (show T = "str" from ty)
  exact ⟨typeIs_str s z t, fun _ e => nomatch e⟩
 | int i =>
  obtain ⟨t, rfl⟩ := r
  cases (show T = "int" from ty)
  exact ⟨ais s i t, fun _ e => nomatch e⟩
 | ref p =>
  cases r
  rcases ty with ⟨rfl, xs, hq⟩ | ⟨rfl, o, hk, hc, hd⟩ | ⟨rfl, hk⟩ | ⟨rfl, S, n, hk⟩
  ·obtain ⟨af, _, pl, _⟩ := I.list hq
   refine ⟨pl.isList.typeIs, fun a e => ?_⟩
   cases e
   obtain ⟨o, n, e, c, hd, _⟩ := pl
   exact ⟨o, e, hd⟩
  ·refine ⟨⟨o, I.b0 p o hk, hc⟩, fun a e => ?_⟩
   cases e
   exact ⟨o, I.b0 _ o hk, hd⟩
  ·have z : ∃ o, s.heap.get? p = some o /\ o.ExactDict := by
    rcases hk with ⟨kvs, hk⟩ | ⟨kvs, hk⟩
    ·obtain ⟨_, _, _, _, o, _, _, e, ex, _⟩ := I.ai p _ hk
     exact ⟨o, e, ex⟩
    ·obtain ⟨_, _, _, _, o, _, _, e, ex, _⟩ := I.ai p _ hk
     exact ⟨o, e, ex⟩
   obtain ⟨o, e, ex⟩ := z
   refine ⟨⟨o, e, ex.1⟩, fun a e2 => ?_⟩
   cases e2
   exact ⟨o, e, ex.2.1⟩
  ·obtain ⟨o, _, _, _, e, ex, _⟩ := I.ai p _ hk
   refine ⟨⟨o, e, ex.1⟩, fun a e2 => ?_⟩
   cases e2
   exact ⟨o, e, ex.2.1⟩
 | _ => exact ae7 ty
noncomputable def iL (K : acB) (T : String) (r : V -> List V -> Hp -> VK -> Prop) (to : TE) : TE := fun σ H Q => to σ H fun x H1 => Ax K T x H1 /\ r x [] H1 Q
noncomputable def rM (K : acB) (T : String) (r : V -> List V -> Hp -> VK -> Prop) (to : TE) (t : TA) : TE := fun σ H Q => to σ H fun x H1 => Ax K T x H1 /\ t σ H1 fun xs H2 => r x xs H2 Q
variable {o e : ae4} {es : List ae4} {to : TE} {t : TA} {name : Str} {apos cm : Pos} {T id : String} {r : V -> List V -> Hp -> VK -> Prop}
theorem Oa (pa : PlainAttrs T) (slot : Slot T name id) (lM : typeOf (.builtin id) = pure (.type "method_descriptor")) (hm : Hd X id r) (ho : PE X o to)
 (Ay : agh o name X.env (eval o X.env) = eval o X.env := by rfl) (Az : (apos.endLine == cm.line) = true := by rfl) : PE X (.Call (.Attribute o name apos) [] [] cm) (iL X.K T r to) := by
 intro pins s σ H Q I h
 refine wpAny_Call_method0_late Ay Az (au (ho pins s σ H _ I h) fun v s1 ⟨x, H1, I1, r1, ty, q1⟩ => ?_)
 obtain ⟨h1, h2⟩ := Hi I1 r1 ty
 exact ⟨T, id, pa, slot, lM, h1, h2, agn rfl (PySem.evalArgs_none (hm pins s1 σ H1 x [] v [] Q I1 r1 .nil q1))⟩
theorem AA (pa : PlainAttrs T) (slot : Slot T name id) (lM : typeOf (.builtin id) = pure (.type "method_descriptor")) (hm : Hd X id r) (ho : PE X o to) (ha : PA X (e :: es) t)
 (Ay : agh o name X.env (eval o X.env) = eval o X.env := by rfl)
 (Ob : ((afV cm (adv (e :: es) X.env)).all (fun x => !x.1) && (akn cm (aiI [] X.env)).all (fun x => x.1.isSome)
   && decide ((e :: es).length + ([] : List ako).length + (if ([] : List ako).isEmpty then 0 else 1) < 30)) = true := by rfl)
 (Az : (apos.endLine == cm.line) = true := by rfl) (hs : adv (e :: es) X.env = (false, eval e X.env) :: adv es X.env := by rfl) (Oc : (afV cm (adv es X.env)).any (·.1) = false := by rfl) :
 PE X (.Call (.Attribute o name apos) (e :: es) [] cm) (rM X.K T r to t) := by
 intro pins s σ H Q I h
 refine wpAny_Call_method_late Ay Ob Az rfl (au (ho pins s σ H _ I h) fun v s1 ⟨x, H1, I1, r1, ty, q1⟩ => ?_)
 obtain ⟨h1, h2⟩ := Hi I1 r1 ty
 refine ⟨T, id, pa, slot, lM, h1, h2, ?_⟩
 have hA := ha cm pins s1 σ H1 _ I1 q1
 rw [hs] at hA ⊢
 refine agn (by show (false || (afV cm (adv es X.env)).any (·.1)) = false; rw [Oc] <;> rfl) (agS ?_)
 exact au hA fun us s2 ⟨vs, H2, I2, r2, q2⟩ => hm pins s2 σ H2 x vs v us Q I2 r1 r2 q2
end
end L2
namespace L2
open PySem PySem.Spec PyProof.Rows
noncomputable def Hj (X : Cx) (id : String) (r : V -> List V -> Hp -> VK -> Prop) : Prop :=
 ∀ (pins : List (acJ × Obj)) (s : acF) (σ : St) (H : Hp) (x : V) (xs : List V) (v : acC) (us : List acC) (Q : VK), Inv X pins σ H s -> RelV x v -> Vals xs us -> r x xs H Q ->
  ac0 (model X.prog X.w) X.A (call (.builtin id) (v :: us)) (EP X pins σ Q) X.xe s
theorem Vals.one : ∀ {x : V} {us : List acC}, Vals [x] us -> ∃ u, us = [u] /\ RelV x u
 | _, _, .cons r .nil => ⟨_, rfl, r⟩
theorem Vals.zero : ∀ {us : List acC}, Vals [] us -> us = []
 | _, .nil => rfl
theorem Vals.reverse {xs : List V} {us : List acC} (h : Vals xs us) : Vals xs.reverse us.reverse := by
 induction h with
 | nil => exact .nil
 | cons r t ih => rw [agu, agu]; exact Vals.append ih (.cons r .nil)
section
variable {X : Cx} {pins : List (acJ × Obj)} {σ : St} {H : Hp} {s : acF} {l b : acJ} {xs ys zs : List V}
theorem Inv.Hk {af its' : List acC} {n : Nat} {f : Array acC -> Array acC} {t' : Nat} (I : Inv X pins σ H s) (hH : H l = some (.lst xs))
 (e : s.heap.get? l = some { cls := .type "list", data := .seq af.toArray n }) (hf : f af.toArray = its'.toArray) (hv : Vals ys its') (hz : ys.length <= adb) :
 Inv X pins σ (upd H l (.lst ys)) { s with heap := s.heap.update l (ae8 f), toks := t' } := by
 have q := agP e f
 rw [hf] at q
 refine I.write (x := l) (e := l) (by rw [hH]; exact trivial) (.inl rfl) (fun b' u hb hu => (acM s.heap (ae8 f) (adV hb)).trans hu) ⟨_, q⟩ ?_
 exact ⟨hz, its', _, hv, q⟩
theorem Inv.Od {af : List acC} {t' : Nat} (I : Inv X pins σ H s) (hv : Vals ys af) (hz : ys.length <= adb) :
 Inv X pins σ (upd H s.heap.objs.size (.lst ys)) { s with heap := s.heap.push { cls := .type "list", data := .seq af.toArray }, toks := t' } :=
 I.laid (fun _ _ q => acE _ q) (ac1 _) ⟨hz, af, 0, hv, acT _ rfl⟩
theorem Inv.fresh (I : Inv X pins σ H s) : H s.heap.objs.size = none := I.ai.fresh (ac1 _)
theorem Inv.vk (I : Inv X pins σ H s) (hH : H l = some (.lst xs)) : xs.length <= adb /\ ∃ (af : List acC) (n : Nat), Vals xs af /\ xs.length = af.length /\ s.heap.get? l = some { cls := .type "list", data := .seq af.toArray n } := by
 obtain ⟨z, af, n, r, e⟩ := I.ai l _ hH
 exact ⟨z, af, n, r, r.length, e⟩
end
section
variable {X : Cx}
noncomputable def rN : V -> List V -> Hp -> VK -> Prop := fun x vs H Q => ∃ l xs y, x = .ref l /\ vs = [y] /\ H l = some (.lst xs) /\ xs.length < adb /\ Q .non (upd H l (.lst (xs ++ [y])))
theorem AB : Hj X "list.append" rN := by
 intro pins s σ H x vs v us Q I rx rv h
 obtain ⟨l, xs, y, rfl, rfl, hH, hz, q⟩ := h
 cases rx
 obtain ⟨u, rfl, ru⟩ := rv.one
 obtain ⟨z, af, n, r, hl, e⟩ := I.vk hH
 refine ait agj ⟨_, e, rfl⟩ af9 (afQ _ _) (agv l af.toArray n u (by rw [ac4]; omega)) ⟨e, ?_⟩
 refine ⟨.non, _, I.Hk (its' := af ++ [u]) hH e (by simp) (r.append (.cons ru .nil)) ?_, rfl, q⟩
 rw [adl, adC]
 omega
noncomputable def vl : V -> List V -> Hp -> VK -> Prop := fun x vs H Q => ∃ l b xs zs, x = .ref l /\ vs = [.ref b] /\ H l = some (.lst xs) /\ H b = some (.lst zs) /\ xs.length + zs.length <= adb /\ Q .non (upd H l (.lst (xs ++ zs)))
noncomputable def rO : V -> List V -> Hp -> VK -> Prop := fun x vs H Q => ∃ l xs, x = .ref l /\ vs = [] /\ H l = some (.lst xs) /\ Q .non (upd H l (.lst xs.reverse))
theorem Oe : Hj X "list.reverse" rO := by
 intro pins s σ H x vs v us Q I rx rv h
 obtain ⟨l, xs, rfl, rfl, hH, q⟩ := h
 cases rx
 have Of := rv.zero
 subst Of
 obtain ⟨z, af, n, r, hl, e⟩ := I.vk hH
 refine ait F.slot_list_reverse ⟨_, e, rfl⟩ F.entry_list_reverse (F.args_list_reverse_1 _) (AutoSeq1.list_reverse_list_0 l af.toArray n (by rw [ac4]; omega)) ⟨e, ?_⟩
 refine ⟨.non, _, I.Hk (its' := af.reverse) hH e (by simp) r.reverse ?_, rfl, q⟩
 rw [aiJ]
 omega
noncomputable def rP : R2 := fun x y H Q => ∃ l b xs zs, x = .ref l /\ y = .ref b /\ H l = some (.lst xs) /\ H b = some (.lst zs) /\ xs.length + zs.length <= adb /\ ∀ p, H p = none -> Q (.ref p) (upd H p (.lst (xs ++ zs)))
theorem rQ : bJ X (ahD .Add) rP := by
 intro pins s σ H x y v u Q I rx ry h
 obtain ⟨l, b, xs, zs, rfl, rfl, hH, hB, hz, q⟩ := h
 cases rx
 cases ry
 obtain ⟨z, af, n, r, hl, e⟩ := I.vk hH
 obtain ⟨z2, Hl, n2, r2, bR, e2⟩ := I.vk hB
 refine PySem.P.add_list e e2 ?_ (by rw [ac4, ac4]; omega)
 have ea : af.toArray ++ Hl.toArray = (af ++ Hl).toArray := by simp
 rw [ea]
 exact ⟨.ref _, _, I.Od (t' := s.toks) (r.append r2) (by rw [adl]; omega), rfl, q _ I.fresh⟩
end
section
variable {prog : ac2} {w : adw} {A : adD} {E : acC -> acF -> Prop} {s : acF}
set_option maxRecDepth 100000 in
end
section
variable {X : Cx}
end
end L2
namespace AD
open PySem PySem.W PySem.Calls PyProof.Rows
theorem Og {P : Params} {h : aer} : ∀ (ns : List Int) (vs : List acC), WellAll P h vs (ns.map WData.int) -> afP vs ns := by
 intro ns
 induction ns with
 | nil =>
  intro vs w
  rw [ahb] at w
  cases w
  exact .nil
 | cons n ns ih =>
  intro vs w
  rw [ac7] at w
  cases w with
  | cons a b =>
   cases a
   exact .cons _ _ (ih _ b)
theorem Oh {l : OpenLaw} {n : Nat} (hn : l.most = some n) {P : Params} {h : aer} {args : List WData} {vals : List acC}
 (Hm : l.row.toRowW.claim.pre args = true) (Oi : WellAll P h vals args) :
 ∃ a vs ns, vals = [ac3 a] /\ args = [WData.list (ns.map WData.int)] /\ h.get? a = some { cls := .type "list", data := .seq vs.toArray } /\ afP vs ns /\ ns.length <= n := by
 have bD : WShape.hasAll [] args [.list .int] = true := (pre_splitW Hm).1
 have hc : l.pre.holds [] { args := args } = true := (pre_splitW Hm).2
 obtain ⟨d, r, rfl, h1, h2⟩ := hasAllW_cons bD
 obtain rfl := hasAllW_nil h2
 obtain ⟨xs, rfl, h3⟩ := hasW_list h1
 obtain ⟨ns, rfl⟩ := items_int h3
 have hlen : ns.length <= n := by
  unfold OpenLaw.pre at hc
  have h4 : (WTm.not (.lt (.lit (.int (n : Int))) (.len (.arg 0)))).holds [] { args := [.list (ns.map .int)] } = true := by
   have h4 := (holds_andW hc).1
   rw [hn] at h4
   exact h4
  have h5 := condW_of h4 (w_not (w_lt w_lit (w_len_list (w_arg rfl))))
  rw [acI] at h5
  refine ajv fun q => ?_
  have q' : (n : Int) < ((ns.length : Nat) : Int) := by omega
  first
   | (rw [decide_eq_true q'] at h5; exact absurd h5 (by decide))
   | (simp at h5; omega)
 cases Oi with
 | cons w1 w2 =>
  cases w2
  cases w1 with
  | list ho hall => exact ⟨_, _, ns, rfl, rfl, ho, Og ns _ hall, hlen⟩
theorem Oj (l : OpenLaw) (args : List WData) : l.row.toRowW.claim.post args (.bool true) args = true :=
 postW_of (r := l.row.toRowW) (X := (true == true))
  (show WShape.has [] (.bool true) .bool = true by first | rfl | decide | simp [WShape.has, WShape.arms, WShape.armsAll])
  (show (WTm.eq .res (.lit (.bool true))).value [] { args := args, res := some (.bool true), after := args } = some (.bool (true == true)) from w_eq_bool (w_res rfl) w_lit) rfl
section
variable {prog : ac2} {w : adw} {A : adD} {E : acC -> acF -> Prop} {s : acF} {K : Frag}
end
end AD
namespace L2
open PySem PySem.Spec PyProof.Rows
theorem AE : ∀ {vs : List acC} {ns : List Int}, afP vs ns -> Vals (ns.map V.int) vs
 | _, _, .nil => .nil
 | _, _, .cons n t h => .cons ⟨t, rfl⟩ (AE h)
noncomputable def Hn (H : Hp) : Prop := ∀ b, H b = none ∨ ∃ o xs, H b = some (.aM o (.lst xs))
theorem Ol {P : ac2} {w : adw} {K : acB} {mg mb : Str -> Option acC} {CX : dv} {k : Nat} {fa a : acJ} {fd : adg} {x : Str} {sp : Sp} {s₁ : acF} {vs : List acC} {ns : List Int}
 (KX : K.In s₁.heap) (dN : s₁.heap.Ns acR mg) (hb : s₁.heap.Ns ai8 mb) (Om : ∀ x : Str, x ≠ "__name__" -> mb x = adR x) (Oo : s₁.heap.NoLimit) (hg : s₁.gens = #[])
 (ha : s₁.heap.get? a = some { cls := .type "list", data := .seq vs.toArray }) (hi : afP vs ns) (hl : ns.length <= adb) (hr : bW k ajR)
 (F : ∀ base : aer, K.In base -> base.Ns acR mg -> aK P w K mg base CX k fa fd [x] sp) (Oq : ∀ (s : acF) (u : acC), ajO s fd ⟨[u], []⟩ [(x, u)])
 (jl : ∀ H : Hp, Hn H -> ag K H a (ns.map V.int) -> sp [.ref a] H (fun v _ => v = .bl true) fun _ _ _ => False)
 (Ot : ∀ H e s', CX [] H s₁ (fun _ _ _ => False) e s' -> False) :
 afi (model P w) ajR (.call (.ref fa) ⟨[.ref a], []⟩) (fun r s' => r = .ok (.ret (.bool true)) /\ OldK s₁.heap s'.heap /\ s'.os = s₁.os /\ ah2 s'.gens) s₁ := by
 have rv := AE hi
 have Ou := hi.length
 have core : ∀ H : Hp, Hn H -> ag K H a (ns.map V.int) -> bz P w H s₁.heap -> (∀ b, H b ≠ none -> b = a) -> (H a ≠ none -> K.lookup a = none) ->
  afi (model P w) ajR (.call (.ref fa) ⟨[.ref a], []⟩) (fun r s' => r = .ok (.ret (.bool true)) /\ OldK s₁.heap s'.heap /\ s'.os = s₁.os /\ ah2 s'.gens) s₁ := by
  intro H hO hS ai hA hK
  have Ho : ∀ {b : acJ} {o : Obj}, s₁.heap.get? b = some o -> H b = none -> (iz s₁.heap H).get? b = some o := fun e n => Ni e n
  have rH : ∀ {b : acJ} {o : Obj} {es : Array ae0} {ep : Nat}, s₁.heap.get? b = some o -> o.data = .dict es ep -> H b = none := fun {b o es ep} e d => by
   cases q : H b with
   | none => rfl
   | some u =>
    have e' : b = a := hA b (by rw [q]; simp)
    subst e'
    rw [ha] at e; cases e
    have d' : Data.seq vs.toArray _ = Data.dict es ep := d
    cases d'
  have vm : ∀ {b : acJ} {m : Str -> Option acC}, s₁.heap.Ns b m -> (iz s₁.heap H).Ns b m := fun {b m} ⟨o, es, ep, e, d, r⟩ => ⟨o, es, ep, Ho e (rH e d), d, r⟩
  have Hq : K.In (iz s₁.heap H) := fun b o e => Ho (KX b o e) (by
   cases q : H b with
   | none => rfl
   | some u =>
    have e' : b = a := hA b (by rw [q]; simp)
    subst e'
    rw [hK (by rw [q]; simp)] at e; cases e)
  have hM : Mod K mg (iz s₁.heap H) := ⟨Hq, vm dN, ⟨mb, vm hb, Om⟩, let ⟨mc, h1, h2⟩ := Oo; ⟨mc, vm h1, h2⟩⟩
  have e0 : lK P w K mg (iz s₁.heap H) ajR [] s₁ H := ⟨rfl, hM, fun b o e => Nj e, akz (Nh _ _), trivial, fun b hb => absurd (show b ∈ ([] : List acJ) from hb) (by simp), ai, .of_eq hg⟩
  refine agG ((F _ Hq (vm dN)).run ajR [] s₁ H ⟨[.ref a], []⟩ [.ref a] [.ref a] _ _ hr e0 (Oq s₁ (.ref a)) (.cons rfl .nil) (jl H hO hS)) fun r s' h => ?_
  cases r with
  | error e => exact (Ot H e s' h).elim
  | ok fl =>
   cases fl with
   | next => exact ae7 h
   | brk => exact ae7 h
   | cont => exact ae7 h
   | ret u =>
    obtain ⟨v, H', os, bare, un, Ov, r', q⟩ := h
    have q' : v = .bl true := q
    subst q'
    obtain rfl : u = ae6 true := r'
    refine ⟨rfl, OldK.of_keep fun b o e => ?_, os, bare⟩
    cases q : H b with
    | none => exact un.keep b o e q (by intro z; exact absurd (show b ∈ ([] : List acJ) from z) (by simp)) (by simp)
    | some u =>
     rcases hO b with z | ⟨ob, xs, z⟩
     ·rw [q] at z; cases z
     ·have z2 := un.cI b ob _ z
      obtain ⟨e1, _⟩ := ai b _ z
      obtain ⟨e2, _⟩ := Ov b _ z2
      rw [e] at e1; cases e1
      exact e2
 cases hk : K.lookup a with
 | some o =>
  have e := KX a o hk
  rw [ha] at e
  cases e
  refine core (fun _ => none) (fun _ => .inl rfl) (.inr ⟨_, vs.toArray, _, hk, rfl, rfl, rfl, by rw [ac4, Ou]; exact hl, by simpa using rv⟩) (fun b u z => by have z' : (none : Option HO) = some u := z; cases z') (fun b z => absurd rfl z) fun z => absurd rfl z
 | none =>
  refine core (fun b => if b = a then some (.aM { cls := .type "list", data := .seq vs.toArray } (.lst (ns.map V.int))) else none) (fun b => ?_) (.inl (.inr ⟨{ cls := .type "list", data := .seq vs.toArray }, if_pos rfl⟩)) (fun b u z => ?_) (fun b z => ?_) fun _ => hk
  ·by_cases hb : b = a
   ·exact .inr ⟨_, _, if_pos hb⟩
   ·exact .inl (if_neg hb)
  ·by_cases hb : b = a
   ·have z' := (if_pos hb).symm.trans z
    cases z'
    subst hb
    exact ⟨ha, by rw [acI]; exact hl, vs, _, rv, ha⟩
   ·have z' := (if_neg hb).symm.trans z
    cases z'
  ·by_cases hb : b = a
   ·exact hb
   ·exact absurd (if_neg hb) z
end L2
namespace L2
open PySem PySem.Spec PyProof.Rows
end L2
namespace L2
open PySem PySem.Spec PyProof.Rows
noncomputable def inClass (s : afU) (j : Nat) : afU := match s with
 | .ClassDef _ _ _ body _ _ _ _ _ _ _ => body.getD j (.Pass ⟨0, 0, 0, 0⟩)
 | _ => .Pass ⟨0, 0, 0, 0⟩
noncomputable def aS (s : afU) : Arguments := match s with
 | .FunctionDef _ a _ _ _ _ _ _ _ _ => a
 | _ => { posonlyargs := [], args := [], vararg := none, kwonlyargs := [], kw_defaults := [], kwarg := none, defaults := [] }
noncomputable def aQ (s : afU) : List afU := match s with
 | .FunctionDef _ _ b _ _ _ _ _ _ _ => b
 | _ => []
noncomputable def aw (s : afU) : agN := match s with
 | .FunctionDef _ _ _ _ _ _ sc _ _ _ => sc
 | _ => { kind := .function, names := [], isGenerator := false, isCoroutine := false }
noncomputable abbrev E0 : XK := fun _ _ _ => False
structure aU (K : acB) (x qual : Str) (st : afU) (f : acJ) (fd : adg) : Prop where
 ex : ∃ (oc : acC) (od : Option acJ) (kV doc pm : acC) (an : Option acJ) (aF ct : acC) (iI : Array (Option acC)),
  fd = acW x qual (aS st) (aQ st) (aw st) .none kV doc pm an aF ct /\ K.lookup f = some ⟨oc, od, .func fd, iI⟩ /\ acS K aF qual = true
 kp : acO K (.ref f) = true
section
variable {P : ac2} {w : adw} {K : acB} {mg : Str -> Option acC} {base : aer}
theorem aU.binds {x qual : Str} {st : afU} {f : acJ} {fd : adg} {ps : List Str} (F : aU K x qual st f fd)
 (h : ∀ (kV doc pm : acC) (an : Option acJ) (aF ct : acC) (us : List acC), us.length = ps.length -> bindArgs (acW x qual (aS st) (aQ st) (aw st) .none kV doc pm an aF ct) ⟨us, []⟩ = pure (ps.zip us)) : Binds K fd ps [] := by
 obtain ⟨oc, od, kV, doc, pm, an, aF, ct, iI, rfl, lk, fq⟩ := F.ex
 exact .all (h kV doc pm an aF ct)
theorem aZ {x qual : Str} {st : afU} {f : acJ} {oc : acC} {od an : Option acJ} {iI : Array (Option acC)} {kV doc pm aF ct : acC} (l : K.lookup f = some ⟨oc, od, .func (acW x qual (aS st) (aQ st) (aw st) .none kV doc pm an aF ct), iI⟩)
 (c : acS K aF qual = true) (k : acO K (.ref f) = true) : aU K x qual st f (acW x qual (aS st) (aQ st) (aw st) .none kV doc pm an aF ct) := ⟨⟨oc, od, kV, doc, pm, an, aF, ct, iI, rfl, l, c⟩, k⟩
end
theorem df {A : adD} {k : Nat} (hr : bW k A) : A.units + 1 < age := adX (Nat.add_le_add_left (by decide : 1 <= 64) _) hr.units
section
variable {X : Cx}
theorem pv (i : Nat) {x : Str} {pos : Pos} (hN : X.N[i]? = some x := by rfl) (hv : Af X.env.scope x := by first | exact adi rfl | exact aiV (adi rfl) | exact aiV (aiV rfl)) (hd : (x == ("__debug__" : Str)) = false := by decide)
 (fq : (x == ("__classdict__" : Str)) = false := by decide) : PE X (.Name x pos) (nu i) := Np hN hv hd fq
end
noncomputable def aj (H H' : Hp) : Prop := ∀ b o, H b = some o -> H' b = some o
theorem aj.refl (H : Hp) : aj H H := fun _ _ h => h
theorem aj.trans {H H1 H2 : Hp} (a : aj H H1) (b : aj H1 H2) : aj H H2 := fun c o h => b c o (a c o h)
theorem aj.free {H H' : Hp} (e : aj H H') {l : acJ} (h : H' l = Option.none) : H l = Option.none := by
 cases q : H l with
 | none => rfl
 | some o =>
  rw [e l o q] at h
  cases h
theorem aj.seq {K : acB} {H H' : Hp} {a : acJ} {xs : List V} (e : aj H H') (h : ag K H a xs) : ag K H' a xs := by
 rcases h with (h | ⟨o, h⟩) | h
 ·exact .inl (.inl (e _ _ h))
 ·exact .inl (.inr ⟨o, e _ _ h⟩)
 ·exact .inr h
end L2
namespace L2
open PySem PySem.Spec PyProof.Rows
section
variable {κ : Type} [DecidableEq κ]
noncomputable def bc (kvs : List (κ × V)) (k : κ) : Option V := (kvs.find? fun kv => decide (kv.1 = k)).map (·.2)
noncomputable def putK (kvs : List (κ × V)) (k : κ) (v : V) : List (κ × V) :=
 if (kvs.any fun kv => decide (kv.1 = k)) = true then kvs.map (fun kv => if kv.1 = k then (kv.1, v) else kv) else kvs ++ [(k, v)]
noncomputable def fE (kvs : List (κ × V)) (k : κ) : List (κ × V) := kvs.filter fun kv => decide (kv.1 ≠ k)
theorem fF {p : κ × V} {r : List (κ × V)} {k : κ} (e : p.1 = k) : bc (p :: r) k = some p.2 := by simp [bc, aev, e]
theorem fG {p : κ × V} {r : List (κ × V)} {k : κ} (e : ¬ p.1 = k) : bc (p :: r) k = bc r k := by simp [bc, aev, e]
theorem vn (k : κ) : ∀ kvs : List (κ × V), (kvs.any fun kv => decide (kv.1 = k)) = (bc kvs k).isSome
 | [] => rfl
 | p :: r => by
  rw [aeN]
  by_cases e : p.1 = k
  ·simp only [fF e, decide_eq_true e, Bool.true_or, aiW]
  ·rw [fG e, decide_eq_false e, akr]; exact vn k r
theorem Hr (k j : κ) (y : V) : ∀ kvs : List (κ × V), bc (kvs.map fun kv => if kv.1 = k then (kv.1, y) else kv) j = (bc kvs j).map fun x => if j = k then y else x
 | [] => rfl
 | p :: r => by
  have ih := Hr k j y r
  rw [ac7]
  by_cases h : p.1 = k
  ·rw [if_pos h]
   by_cases e : p.1 = j
   ·rw [fF (p := (p.1, y)) e, fF e, Option.map_some, if_pos (e.symm.trans h)]
   ·rw [fG (p := (p.1, y)) e, fG e, ih]
  ·rw [if_neg h]
   by_cases e : p.1 = j
   ·rw [fF (p := p) e, fF e, Option.map_some, if_neg (fun z => h (e.trans z))]
   ·rw [fG (p := p) e, fG e, ih]
theorem Hs (k j : κ) (y : V) : ∀ kvs : List (κ × V), bc kvs k = none -> bc (kvs ++ [(k, y)]) j = if j = k then some y else bc kvs j
 | [], _ => by
  by_cases e : k = j
  ·rw [if_pos e.symm]; exact fF (p := (k, y)) e
  ·rw [if_neg (fun z => e z.symm)]; exact fG (p := (k, y)) e
 | p :: r, hn => by
  rw [ahO]
  have hk : ¬ p.1 = k := fun z => by rw [fF z] at hn; cases hn
  rw [fG hk] at hn
  have ih := Hs k j y r hn
  by_cases e : p.1 = j
  ·rw [fF e, fF e, if_neg (fun z => hk (e.trans z))]
  ·rw [fG e, fG e, ih]
theorem Ow (kvs : List (κ × V)) (k j : κ) (y : V) : bc (putK kvs k y) j = if j = k then some y else bc kvs j := by
 unfold putK
 by_cases a : (kvs.any fun kv => decide (kv.1 = k)) = true
 ·rw [if_pos a, Hr]
  rw [vn] at a
  by_cases e : j = k
  ·obtain ⟨x, hx⟩ := aeo.mp a
   rw [if_pos e, e, hx, Option.map_some, if_pos rfl]
  ·rw [if_neg e]
   cases bc kvs j with
   | none => rfl
   | some x => rw [Option.map_some, if_neg e]
 ·rw [if_neg a]
  refine Hs k j y kvs ?_
  rw [vn] at a
  cases q : bc kvs k with
  | none => rfl
  | some x => rw [q] at a; exact (a rfl).elim
theorem Ht (kvs : List (κ × V)) (k : κ) (v : V) : (putK kvs k v).length <= kvs.length + 1 := by
 unfold putK
 split
 ·rw [acI]; omega
 ·rw [adl, ad8, afk]; omega
theorem cT.rR {o : Option V} {u : Option acC} (r : cT o u) : o.isSome = u.isSome := by
 cases o with
 | none => cases u with
  | none => rfl
  | some _ => exact (show False from r).elim
 | some _ => cases u with
  | none => exact (show False from r).elim
  | some _ => rfl
theorem cT.getD {o : Option V} {u : Option acC} {d : V} {d' : acC} (r : cT o u) (rd : RelV d d') : RelV (o.getD d) (u.getD d') := by
 cases o with
 | none => cases u with
  | none => exact rd
  | some _ => exact (show False from r).elim
 | some _ => cases u with
  | none => exact (show False from r).elim
  | some _ => exact r
theorem KV.val {kvs : List (κ × V)} {vs : List (κ × acC)} (r : KV kvs vs) (k : κ) : cT (bc kvs k) (ajb vs k) := by
 unfold KV at r
 induction r with
 | nil => exact afj
 | @cons p q ps qs h t ih =>
  obtain ⟨h1, h2⟩ := h
  by_cases e : p.1 = k
  ·have e' : q.1 = k := h1.symm.trans e
   have b : ajb (q :: qs) k = some q.2 := by simp [ajb, aev, e']
   rw [fF e, b]; exact h2
  ·have e' : ¬ q.1 = k := fun z => e (h1.trans z)
   have b : ajb (q :: qs) k = ajb qs k := by simp [ajb, aev, e']
   rw [fG e, b]; exact ih
theorem KV.any {kvs : List (κ × V)} {vs : List (κ × acC)} (r : KV kvs vs) (k : κ) : (kvs.any fun kv => decide (kv.1 = k)) = vs.any fun kv => decide (kv.1 = k) := by
 unfold KV at r
 induction r with
 | nil => rfl
 | cons h t ih => rw [aeN, aeN, ih, h.1]
theorem KV.nO {kvs : List (κ × V)} {vs : List (κ × acC)} (r : KV kvs vs) (k : κ) {y : V} {u : acC} (ry : RelV y u) :
 KV (kvs.map fun kv => if kv.1 = k then (kv.1, y) else kv) (vs.map fun kv => if kv.1 = k then (kv.1, u) else kv) := by
 unfold KV at r ⊢
 induction r with
 | nil => exact .nil
 | @cons p q ps qs h t ih =>
  rw [ac7, ac7]
  refine .cons ?_ ih
  obtain ⟨h1, h2⟩ := h
  by_cases e : p.1 = k
  ·rw [if_pos e, if_pos (h1.symm.trans e)]; exact ⟨h1, ry⟩
  ·rw [if_neg e, if_neg (fun z => e (h1.trans z))]; exact ⟨h1, h2⟩
theorem KV.put {kvs : List (κ × V)} {vs : List (κ × acC)} (r : KV kvs vs) (k : κ) {y : V} {u : acC} (ry : RelV y u) : KV (putK kvs k y) (stored vs k u) := by
 unfold putK stored
 rw [r.any k]
 by_cases e : (vs.any fun kv => decide (kv.1 = k)) = true
 ·rw [if_pos e, if_pos e]; exact r.nO k ry
 ·rw [if_neg e, if_neg e]; exact Paired.snoc r ⟨rfl, ry⟩
theorem KV.drop {kvs : List (κ × V)} {vs : List (κ × acC)} (r : KV kvs vs) (k : κ) : KV (fE kvs k) (without vs k) := by
 unfold KV at r ⊢
 unfold fE without
 induction r with
 | nil => exact .nil
 | @cons p q ps qs h t ih =>
  obtain ⟨h1, h2⟩ := h
  rw [adI, adI]
  by_cases e : p.1 = k
  ·have a : ¬ decide (p.1 ≠ k) = true := by simp [e]
   have b : ¬ decide (q.1 ≠ k) = true := by simp [h1.symm.trans e]
   rw [if_neg a, if_neg b]; exact ih
  ·have e' : ¬ q.1 = k := fun z => e (h1.trans z)
   have a : decide (p.1 ≠ k) = true := by simp [e]
   have b : decide (q.1 ≠ k) = true := by simp [e']
   rw [if_pos a, if_pos b]; exact .cons ⟨h1, h2⟩ ih
theorem KV.length {kvs : List (κ × V)} {vs : List (κ × acC)} (r : KV kvs vs) : kvs.length = vs.length := Paired.length r
theorem Ox (kvs : List (κ × V)) (k : κ) : (fE kvs k).length <= kvs.length := ad5 _ _
end
theorem rS {P : ac2} {w : adw} {k : Key} {u : acC} (r : RelV (kV k) u) : (dq P w).is k u = true := by
 cases k with
 | inl i => obtain ⟨t, e⟩ := (show ∃ t, u = Value.int i t from r); subst e; exact Nc P w i t
 | inr x => obtain ⟨t, e⟩ := (show ∃ t, u = aiQ x t from r); subst e; exact Nd P w x t
theorem Hu {P : ac2} {w : adw} : ∀ {ks : List Key} {us : List acC}, Vals (ks.map kV) us -> ItemsAre (dq P w) ks us
 | [], _, r => by rw [ahb] at r; cases r; exact .nil
 | k :: ks, _, r => by
  rw [ac7] at r
  cases r with
  | cons h t => exact .cons (rS h) (Hu t)
noncomputable abbrev KT (H : Hp) : List (List Key × V) -> List (List Key × acJ × acC) -> Prop := akw fun p q => p.1 = q.1 /\ H q.2.1 = some (.tup (p.1.map kV)) /\ RelV p.2 q.2.2
theorem KT.val {H : Hp} {kvs : List (List Key × V)} {xs : List (List Key × acJ × acC)} (r : KT H kvs xs) (k : List Key) : cT (bc kvs k) ((aiK xs k).map (·.2)) := by
 induction r with
 | nil => exact afj
 | @cons p q ps qs h t ih =>
  obtain ⟨h1, _, h2⟩ := h
  by_cases e : p.1 = k
  ·have e' : q.1 = k := h1.symm.trans e
   have b : aiK (q :: qs) k = some q.2 := by simp [aiK, aev, e']
   rw [fF e, b]; exact h2
  ·have e' : ¬ q.1 = k := fun z => e (h1.trans z)
   have b : aiK (q :: qs) k = aiK qs k := by simp [aiK, aev, e']
   rw [fG e, b]; exact ih
theorem KT.nO {H : Hp} {kvs : List (List Key × V)} {xs : List (List Key × acJ × acC)} (r : KT H kvs xs) (k : List Key) {y : V} {u : acC} (ry : RelV y u) :
 KT H (kvs.map fun kv => if kv.1 = k then (kv.1, y) else kv) (xs.map (putAt k u)) := by
 induction r with
 | nil => exact .nil
 | @cons p q ps qs h t ih =>
  rw [ac7, ac7]
  refine .cons ?_ ih
  obtain ⟨h1, h2, h3⟩ := h
  unfold putAt
  by_cases e : p.1 = k
  ·rw [if_pos e, if_pos (h1.symm.trans e)]; exact ⟨h1, h2, ry⟩
  ·rw [if_neg e, if_neg (fun z => e (h1.trans z))]; exact ⟨h1, h2, h3⟩
theorem KT.put {H : Hp} {kvs : List (List Key × V)} {xs : List (List Key × acJ × acC)} (r : KT H kvs xs) (k : List Key) {b : acJ} {y : V} {u : acC} (hb : H b = some (.tup (k.map kV))) (ry : RelV y u) :
 KT H (putK kvs k y) (storedH xs k b u) := by
 have e : (kvs.any fun kv => decide (kv.1 = k)) = (aiK xs k).isSome := by
  rw [vn, (r.val k).rR, ahs]
 unfold putK storedH
 rw [e]
 by_cases q : (aiK xs k).isSome = true
 ·rw [if_pos q, if_pos q]; exact r.nO k ry
 ·rw [if_neg q, if_neg q]; exact Paired.snoc r ⟨rfl, hb, ry⟩
theorem KT.keeps {H H' : Hp} {kvs : List (List Key × V)} {xs : List (List Key × acJ × acC)} (r : KT H kvs xs) (ht : ∀ b ys, H b = some (.tup ys) -> H' b = some (.tup ys)) : KT H' kvs xs :=
 Paired.Ae r fun _ _ z => ⟨z.1, ht _ _ z.2.1, z.2.2⟩
section
variable {P : ac2} {w : adw} {H : Hp} {h : aer} {a : acJ}
theorem Hv {u : HO} (ok : bz P w H h) (e : Rd H a u) : bp P w H h a u := e.ok ok
theorem nP {kvs : List (Key × V)} (ok : bz P w H h) (e : Rd H a (.dK kvs)) : kvs.length <= adb /\ (a == aeA) = false /\ ∃ vs, KV kvs vs /\ h.DictOf (dq P w) a vs :=
 show bp P w H h a (.dK kvs) from Hv ok e
theorem Oy {kvs : List (Key × V)} (ok : bz P w H h) (e : H a = some (.dK kvs)) : kvs.length <= adb /\ (a == aeA) = false /\ ∃ vs, KV kvs vs /\ h.DictOf (dq P w) a vs := nP ok (.inl e)
theorem nQ {ks : List Key} (ok : bz P w H h) (e : H a = some (.tup (ks.map kV))) : (agE (dq P w)).is h ks a := by
 obtain ⟨_, af, r, o, h1, h2, n, h3⟩ := (show bp P w H h a (.tup (ks.map kV)) from ok a _ e)
 exact ⟨o, af.toArray, n, h1, h2, h3, by simpa using Hu r⟩
theorem nR {kvs : List (List Key × V)} (ok : bz P w H h) (e : Rd H a (.dT kvs)) : kvs.length <= adb /\ (a == aeA) = false /\
 ∃ xs, KT H kvs xs /\ h.DictOfH (agE (dq P w)) a xs := by
 obtain ⟨z, y, xs, r, o, es, ep, h1, h2, h3, h4, h5⟩ := (show bp P w H h a (.dT kvs) from Hv ok e)
 refine ⟨z, y, xs, r, o, es, ep, h1, h2, h3, h4, fun x hx => ?_, h5⟩
 have all : ∀ {l : List (List Key × V)} {m : List (List Key × acJ × acC)}, KT H l m -> ∀ x ∈ m, (agE (dq P w)).is h x.1 x.2.1 := by
  intro l m q
  induction q with
  | nil => intro x hx; exact nomatch hx
  | @cons p q ps qs hq t ih =>
   intro x hx
   rcases acN.mp hx with e | hx
   ·subst e
    exact nQ ok (by rw [<- hq.1]; exact hq.2.1)
   ·exact ih x hx
 exact all r x hx
theorem vo {kvs : List (List Key × V)} (ok : bz P w H h) (e : H a = some (.dT kvs)) : kvs.length <= adb /\ (a == aeA) = false /\
 ∃ xs, KT H kvs xs /\ h.DictOfH (agE (dq P w)) a xs := nR ok (.inl e)
end
noncomputable def bN (H : Hp) (a : acJ) (y : V) (r : Option V) : Prop :=
 (∃ kvs k, Rd H a (.dK kvs) /\ y = kV k /\ r = bc kvs k) ∨ ∃ kvs k b, Rd H a (.dT kvs) /\ y = .ref b /\ H b = some (.tup (k.map kV)) /\ r = bc kvs k
noncomputable def fH (H : Hp) (a : acJ) (y v : V) (H' : Hp) : Prop :=
 (∃ kvs k, H a = some (.dK kvs) /\ y = kV k /\ kvs.length < adb /\ H' = upd H a (.dK (putK kvs k v))) ∨
 ∃ kvs k b, H a = some (.dT kvs) /\ y = .ref b /\ H b = some (.tup (k.map kV)) /\ kvs.length < adb /\ H' = upd H a (.dT (putK kvs k v))
theorem bN.k {H : Hp} {a : acJ} {kvs : List (Key × V)} {k : Key} (e : H a = some (.dK kvs)) : bN H a (kV k) (bc kvs k) := .inl ⟨kvs, k, .inl e, rfl, rfl⟩
theorem bN.t {H : Hp} {a b : acJ} {kvs : List (List Key × V)} {k : List Key} (e : H a = some (.dT kvs)) (eb : H b = some (.tup (k.map kV))) : bN H a (.ref b) (bc kvs k) := .inr ⟨kvs, k, b, .inl e, rfl, eb, rfl⟩
theorem fH.k {H : Hp} {a : acJ} {kvs : List (Key × V)} {k : Key} {v : V} (e : H a = some (.dK kvs)) (hl : kvs.length < adb) : fH H a (kV k) v (upd H a (.dK (putK kvs k v))) := .inl ⟨kvs, k, e, rfl, hl, rfl⟩
theorem fH.t {H : Hp} {a b : acJ} {kvs : List (List Key × V)} {k : List Key} {v : V} (e : H a = some (.dT kvs)) (eb : H b = some (.tup (k.map kV))) (hl : kvs.length < adb) :
 fH H a (.ref b) v (upd H a (.dT (putK kvs k v))) := .inr ⟨kvs, k, b, e, rfl, eb, hl, rfl⟩
section
variable {X : Cx} {pins : List (acJ × Obj)} {σ : St} {H : Hp} {s : acF} {a : acJ} {y v : V} {u r : acC} {o : Option V} {A : adD} {E : acC -> acF -> Prop}
theorem Oz {Q : acC -> acF -> Prop} (hu : A.units + 1 < age) (I : Inv X pins σ H s) (g : bN H a y (some v)) (ry : RelV y u) (h : ∀ w' s', Inv X pins σ H s' -> RelV v w' -> Q w' s') :
 ac0 (model X.prog X.w) A (akp (.ref a) u) Q E s := by
 rcases g with ⟨kvs, k, e, ey, l⟩ | ⟨kvs, k, b, e, ey, eb, l⟩
 ·subst ey
  obtain ⟨z, hd, vs, rel, dd⟩ := nP I.ai e
  obtain ⟨w', hw, gf⟩ := cT.some_of (v := v) (o := ajb vs k) (by rw [l]; exact rel.val k)
  exact wpAny_getItem_of (rS ry) dd.mapOf hw (h w' _ (I.tok _) gf)
 ·subst ey
  cases (show u = ac3 b from ry)
  obtain ⟨z, hd, xs, rel, dd⟩ := nR I.ai e
  obtain ⟨w', hw, gf⟩ := cT.some_of (v := v) (o := (aiK xs k).map (·.2)) (by rw [l]; exact rel.val k)
  obtain ⟨p, hp, lN⟩ := adH.mp hw
  refine wpAny_getItem_heap (afE hu) (nQ I.ai eb) dd hp ?_
  rw [lN]
  exact h w' _ (I.tok _) gf
theorem OA {Q : acC -> acF -> Prop} (hu : A.units + 1 < age) (I : Inv X pins σ H s) (g : bN H a y o) (ry : RelV y u) (h : ∀ s', Inv X pins σ H s' -> Q (.bool o.isSome) s') :
 ac0 (model X.prog X.w) A (aem .In u (.ref a)) Q E s := by
 rcases g with ⟨kvs, k, e, ey, l⟩ | ⟨kvs, k, b, e, ey, eb, l⟩
 ·subst ey
  obtain ⟨z, hd, vs, rel, dd⟩ := nP I.ai e
  refine wpAny_in_of (rS ry) hd dd.mapOf ?_
  rw [<- (rel.val k).rR, <- l]
  exact h _ (I.tok _)
 ·subst ey
  cases (show u = ac3 b from ry)
  obtain ⟨z, hd, xs, rel, dd⟩ := nR I.ai e
  refine wpAny_in_heap (afE hu) (nQ I.ai eb) hd dd ?_
  have q := (rel.val k).rR
  rw [ahs] at q
  rw [<- q, <- l]
  exact h _ (I.tok _)
theorem OB {Q : acC -> acF -> Prop} (hu : A.units + 1 < age) (I : Inv X pins σ H s) (g : bN H a y o) (ry : RelV y u) (h : ∀ s', Inv X pins σ H s' -> Q (.bool (!o.isSome)) s') :
 ac0 (model X.prog X.w) A (aem .NotIn u (.ref a)) Q E s := by
 rcases g with ⟨kvs, k, e, ey, l⟩ | ⟨kvs, k, b, e, ey, eb, l⟩
 ·subst ey
  obtain ⟨z, hd, vs, rel, dd⟩ := nP I.ai e
  refine wpAny_notIn_of (rS ry) hd dd.mapOf ?_
  rw [<- (rel.val k).rR, <- l]
  exact h _ (I.tok _)
 ·subst ey
  cases (show u = ac3 b from ry)
  obtain ⟨z, hd, xs, rel, dd⟩ := nR I.ai e
  refine wpAny_notIn_heap (afE hu) (nQ I.ai eb) hd dd ?_
  have q := (rel.val k).rR
  rw [ahs] at q
  rw [<- q, <- l]
  exact h _ (I.tok _)
theorem AF {h' : aer} {t' : Nat} {ob : HO} (I : Inv X pins σ H s) (mu : qM (H a)) (hs : Heap.SameBut a s.heap h') (he : ∃ q, h'.get? a = some q) (new : bp X.prog X.w (upd H a ob) h' a ob) :
 Inv X pins σ (upd H a ob) { s with heap := h', toks := t' } :=
 I.write (x := a) (e := a) mu (.inl rfl) (fun b q hb z => (hs.2 b hb).trans z) he new
theorem Hw {P : ac2} {w : adw} {H' : Hp} {h' : aer} {kvs : List (Key × V)} {vs : List (Key × acC)} (z : kvs.length <= adb) (hd : (a == aeA) = false) (rel : KV kvs vs) (dd : h'.DictOf (dq P w) a vs) :
 bp P w H' h' a (.dK kvs) := ⟨z, hd, vs, rel, dd⟩
theorem OD {H' : Hp} {Q : Unit -> acF -> Prop} (hu : A.units + 1 < age) (I : Inv X pins σ H s) (g : fH H a y v H') (ry : RelV y u) (rv : RelV v r) (h : ∀ s', Inv X pins σ H' s' -> Q () s') :
 ac0 (model X.prog X.w) A (setItem (.ref a) u r) Q E s := by
 rcases g with ⟨kvs, k, e, ey, l, eH⟩ | ⟨kvs, k, b, e, ey, eb, l, eH⟩
 ·subst ey eH
  obtain ⟨z, hd, vs, rel, dd⟩ := Oy I.ai e
  have hz : vs.length <= adb := by rw [<- rel.length]; exact z
  have hl : (putK kvs k v).length <= adb := by have := Ht kvs k v; omega
  refine wpAny_setItem_pairs (hsz := hz) (rS ry) dd fun h' lO hs => h _ ?_
  have he : ∃ q, h'.get? a = some q := let ⟨q, _, _, hq, _⟩ := lO; ⟨q, hq⟩
  exact AF I (by rw [e]; exact afj) hs he (Hw hl hd (rel.put k rv) lO)
 ·subst ey eH
  cases (show u = ac3 b from ry)
  obtain ⟨z, hd, xs, rel, dd⟩ := vo I.ai e
  have hz : xs.length <= adb := by rw [<- Paired.length rel]; exact z
  have hl : (putK kvs k v).length <= adb := by have := Ht kvs k v; omega
  refine wpAny_setItem_heap (hsz := hz) (afE hu) (nQ I.ai eb) dd fun h' lO hs => h _ ?_
  obtain ⟨q, es, ep, hq, h2, h3, h4, _, h5⟩ := lO
  refine AF I (by rw [e]; exact afj) hs ⟨q, hq⟩ ⟨hl, hd, _, (rel.put k eb rv).keeps fun c ys ec => ?_, q, es, ep, hq, h2, h3, h4, h5⟩
  rw [aA (Ad ec e (fun z => nomatch z))]
  exact ec
end
section
variable {X : Cx} {pins : List (acJ × Obj)} {σ : St} {H : Hp} {s : acF} {a : acJ} {kvs : List (Key × V)} {k : Key} {u : acC} {A : adD} {E : acC -> acF -> Prop}
end
noncomputable def AG (i : ae4) : Prop := ∀ ov iv, subscripted i false ov iv = operate [ov, iv] (akp ov iv)
theorem OE {prog : ac2} {w : adw} {A : adD} {E : acC -> acF -> Prop} {s : acF} {env : Env} {value slice : ae4} {pos : Pos} {T id : String} {Q : acC -> acF -> Prop}
 (hl : typeLookup (.type T) "__getitem__" = pure (some (.builtin id))) (hs : AG slice)
 (h : ac0 (model prog w) A (eval value env) (fun o s₁ => ac0 (model prog w) A (eval slice env) (fun i s₂ => s₂.TypeIs o T /\ ac0 (model prog w) A (akp o i) Q E s₂) E s₁) E s) :
 ac0 (model prog w) A (eval (.Subscript value slice pos) env) Q E s := by
 refine Subscript_ (adz h (fun o s₁ h₁ => adz h₁ (fun i s₂ h₂ => ?_) fun _ _ x => x) fun _ _ x => x)
 obtain ⟨hT, h₂⟩ := h₂
 unfold subscriptTail
 refine acA ?_
 rw [getitemInPython_of_ne hT.not_modules]
 refine acA (aia hT hl ?_)
 have fin : ac0 (model prog w) A (subscripted slice false o i) (fun r s₃ => ac0 (model prog w) A (letTemporaryGo value o r >>= fun _ => pure r) Q E s₃) E s₂ := by
  rw [hs o i]
  exact wpAny_operating (adz h₂ (fun r s₃ h₃ => acA (wpAny_letTemporaryGo (acD h₃))) fun _ _ x => x)
 first
  | exact acD (acA fin)
  | exact acA (acD (acA fin))
  | exact acA fin
theorem OF {X : Cx} {pins : List (acJ × Obj)} {σ : St} {H : Hp} {s : acF} {a : acJ} {y : V} {o : Option V} (I : Inv X pins σ H s) (g : bN H a y o) : s.TypeIs (.ref a) "dict" := by
 rcases g with ⟨kvs, k, e, _, _⟩ | ⟨kvs, k, b, e, _, _, _⟩
 ·obtain ⟨_, _, vs, _, dd⟩ := nP I.ai e
  exact dd.typeIs
 ·obtain ⟨_, _, xs, _, dd⟩ := nR I.ai e
  exact dd.typeIs
noncomputable def nT (td ty : TE) : TE := fun σ H Q => td σ H fun x H1 => ty σ H1 fun y H2 => ∃ a v, x = .ref a /\ bN H2 a y (some v) /\ Q v H2
noncomputable def rT (ty td : TE) : TE := fun σ H Q => ty σ H fun y H1 => td σ H1 fun x H2 => ∃ a o, x = .ref a /\ bN H2 a y o /\ Q (.bl o.isSome) H2
noncomputable def rV (ty td : TE) : TE := fun σ H Q => ty σ H fun y H1 => td σ H1 fun x H2 => ∃ a o, x = .ref a /\ bN H2 a y o /\ Q (.bl (!o.isSome)) H2
noncomputable def rW (td ty tv : TE) : TS := fun D σ H => tv σ H fun v H1 => td σ H1 fun x H2 => ty σ H2 fun y H3 => ∃ a H4, x = .ref a /\ fH H3 a y v H4 /\ D.nx σ H4
section
variable {X : Cx} {o i e value : ae4} {pos pos' NT : Pos} {td ty tv : TE}
theorem lP (hu : X.A.units + 1 < age) (ho : PE X o td) (hi : PE X i ty) (hs : AG i) : PE X (.Subscript o i pos) (nT td ty) := by
 intro pins s σ H Q I h
 refine OE PySem.F.slot_dict_getitem.lookup hs (au (ho pins s σ H _ I h) fun u s1 ⟨x, H1, I1, rx, q1⟩ => au (hi pins s1 σ H1 _ I1 q1) fun iv s2 ⟨y, H2, I2, ry, a, v, ex, g, q2⟩ => ?_)
 subst ex
 obtain rfl : u = ac3 a := rx
 exact ⟨OF I2 g, Oz hu I2 g ry fun w' s3 I3 gf => ⟨v, H2, I3, gf, q2⟩⟩
theorem OG (hu : X.A.units + 1 < age) (hi : PE X i ty) (ho : PE X o td) : PC X .In i o (rT ty td) := by
 intro pins s σ H Q I h
 refine au (hi pins s σ H _ I h) fun iv s1 ⟨y, H1, I1, ry, q1⟩ => au (ho pins s1 σ H1 _ I1 q1) fun u s2 ⟨x, H2, I2, rx, a, ov, ex, g, q2⟩ => ?_
 subst ex
 obtain rfl : u = ac3 a := rx
 exact OA hu I2 g ry fun s3 I3 => ⟨.bl ov.isSome, H2, I3, rfl, q2⟩
theorem OH (hu : X.A.units + 1 < age) (hi : PE X i ty) (ho : PE X o td) : PC X .NotIn i o (rV ty td) := by
 intro pins s σ H Q I h
 refine au (hi pins s σ H _ I h) fun iv s1 ⟨y, H1, I1, ry, q1⟩ => au (ho pins s1 σ H1 _ I1 q1) fun u s2 ⟨x, H2, I2, rx, a, ov, ex, g, q2⟩ => ?_
 subst ex
 obtain rfl : u = ac3 a := rx
 exact OB hu I2 g ry fun s3 I3 => ⟨.bl (!ov.isSome), H2, I3, rfl, q2⟩
theorem vq (hu : X.A.units + 1 < age) (ho : PE X o td) (hi : PE X i ty) (hv : PE X value tv) (hs : ah5 value (some (.Subscript o i pos')) pos.line X.env = pure false) :
 PS X (.Assign [.Subscript o i pos'] value pos) (rW td ty tv) := by
 intro pins s σ H D I h
 refine wpAny_Assign_Subscript (au (hv pins s σ H _ I h) fun r s1 ⟨v, H1, I1, rv, q1⟩ => au (ho pins s1 σ H1 _ I1 q1) fun u s2 ⟨x, H2, I2, rx, q2⟩ => au (hi pins s2 σ H2 _ I2 q2) fun iv s3 ⟨y, H3, I3, ry, a, H4, ex, g, q3⟩ => ?_) hs
 subst ex
 obtain rfl : u = ac3 a := rx
 exact OD hu I3 g ry rv fun s4 I4 => ⟨σ, H4, I4, q3⟩
end
section
variable {X : Cx} {pos : Pos}
end
structure M1 (X : Cx) (o : ae4) (m : Str) (apos : Pos) (e : ae4) (cm : Pos) : Prop where
 base : agh o m X.env (eval o X.env) = eval o X.env
 few : ((afV cm (adv [e] X.env)).all (fun x => !x.1) && (akn cm (aiI [] X.env)).all (fun x => x.1.isSome)
  && decide (([e] : List ae4).length + ([] : List ako).length + (if ([] : List ako).isEmpty then 0 else 1) < 30)) = true
 line : (apos.endLine == cm.line) = true
 trees : afV cm (adv [e] X.env) = [(false, eval e X.env)]
noncomputable def vu (H : Hp) (a : acJ) : Prop := (∃ kvs, Rd H a (.dK kvs)) ∨ ∃ kvs, Rd H a (.dT kvs)
theorem OI {X : Cx} {pins : List (acJ × Obj)} {σ : St} {H : Hp} {s : acF} {a : acJ} (I : Inv X pins σ H s) (d : vu H a) :
 s.TypeIs (.ref a) "dict" /\ (∀ b, ac3 a = .ref b -> ∃ ob, s.heap.get? b = some ob /\ ob.dict = none) /\ (a == aeA) = false := by
 rcases d with ⟨kvs, e⟩ | ⟨kvs, e⟩
 ·obtain ⟨_, hd, vs, _, dd⟩ := nP I.ai e
  refine ⟨dd.typeIs, fun b q => ?_, hd⟩
  cases q
  obtain ⟨ob, _, _, h1, h2, _⟩ := dd
  exact ⟨ob, h1, h2.2.1⟩
 ·obtain ⟨_, hd, xs, _, dd⟩ := nR I.ai e
  refine ⟨dd.typeIs, fun b q => ?_, hd⟩
  cases q
  obtain ⟨ob, _, _, h1, h2, _⟩ := dd
  exact ⟨ob, h1, h2.2.1⟩
section
variable {X : Cx} {pins : List (acJ × Obj)} {σ : St} {H : Hp} {s : acF} {a : acJ} {y d : V} {u r : acC} {o : Option V} {A : adD} {E : acC -> acF -> Prop}
end
noncomputable def vw (td ty : TE) : TE := fun σ H Q => td σ H fun x H1 => ∃ a, x = .ref a /\ vu H1 a /\ ty σ H1 fun y H2 => ∃ o, bN H2 a y o /\ Q (o.getD .non) H2
section
variable {X : Cx} {o e f : ae4} {apos cm : Pos} {td ty tx : TE}
end
section
variable {X : Cx} {pins : List (acJ × Obj)} {σ : St} {H : Hp} {s : acF} {a : acJ} {kvs : List (Key × V)} {A : adD} {E : acC -> acF -> Prop}
end
section
variable {X : Cx} {pins : List (acJ × Obj)} {σ : St} {H : Hp} {s : acF} {a : acJ} {y : V} {u : acC} {A : adD} {E : acC -> acF -> Prop}
end
end L2
namespace L2
open PySem PySem.Spec PyProof.Rows
section
variable {κ : Type} [DecidableEq κ]
theorem Hy : ∀ {l : List κ} {k : κ}, l.Nodup -> ¬ k ∈ l -> (l ++ [k]).Nodup
 | [], k, _, _ => by simp
 | a :: r, k, h, hk => by
  obtain ⟨h1, h2⟩ := adP.mp h
  show (a :: (r ++ [k])).Nodup
  refine adP.mpr ⟨fun m => ?_, Hy h2 fun m => hk (acN.mpr (aiV m))⟩
  rcases adj.mp m with q | q
  ·exact h1 q
  ·exact hk (acN.mpr (adi (adG.mp q).symm))
end
end L2
namespace Gz
open PySem PySem.Spec PyProof.Rows L2
noncomputable def Bd (n : Nat) (x : Int) : Prop := x.natAbs < 2 ^ n
theorem Bd.of {n : Nat} {x : Int} (h1 : -((2 ^ n : Nat) : Int) < x) (h2 : x < ((2 ^ n : Nat) : Int)) : Bd n x := by
 unfold Bd; omega
theorem Bd.up {n m : Nat} {x : Int} (h : Bd n x) (hm : n <= m) : Bd m x := ac8 h (afR (by decide) hm)
theorem Bd.bits {n : Nat} {x : Int} (h : Bd n x) : afv x <= n := by
 unfold afv
 by_cases e : x = 0
 ·subst e; simp
 ·have e0 : ¬ ((x == 0) = true) := by simpa using e
  rw [if_neg e0]
  have hn : x.natAbs ≠ 0 := by omega
  have := (Nat.log2_lt hn).mpr h
  omega
noncomputable def rX (i j : Int) : Prop := Bd 4000 i /\ Bd 4000 j
theorem rX.ok {i j : Int} (h : rX i j) : IntMulOk i j :=
 IntMulOk.of_bits (acV h.1.bits (by decide)) (acV h.2.bits (by decide))
section
variable {X : Cx}
theorem fI : bJ X (ahD .Mult) (rI rX fun i j => .int (i * j)) := uX fun _ _ _ _ _ _ _ hc q => mul_int q hc.ok
noncomputable def rY : V -> acC
 | .ref a => .ref a
 | .ty n => .type n
 | _ => .none
theorem OJ : cW X (.builtin "isinstance") (fun xs H Q => ∃ x c t b, xs = [x, c] /\ cC X.K H x t /\ rY c ≠ .none /\ aet X.K t (rY c) = some b /\ Q (.bl b) H) := by
 intro pins s σ H xs us Q I r h
 obtain ⟨x, c, t, b, rfl, ty, hc, e, q⟩ := h
 obtain ⟨u, v, rfl, rx, rc⟩ := vals2 r
 have ev : v = rY c := by
  cases c with
  | ref a => exact rc
  | ty n => exact rc
  | non => exact absurd rfl hc
  | bl _ => exact absurd rfl hc
  | int _ => exact absurd rfl hc
  | str _ => exact absurd rfl hc
  | byt _ => exact absurd rfl hc
  | flt _ => exact absurd rfl hc
 subst ev
 exact NU I rx ty e fun tk => ⟨.bl b, H, I.tok tk, rfl, q⟩
end
theorem AH {K : acB} {t : acC} : aet K t t = some true := by
 unfold aet
 rw [if_pos (by simp)]
theorem vx {K : acB} {a c : String} {b : Bool} (h : ajS c = true) (h2 : (PySem.fastBuiltinMro a).map (·.contains (.type c)) = some b) (h3 : (a == c) = false) : aet K (.type a) (.type c) = some b := by
 unfold aet
 have e : ¬ ((agq a == agq c) = true) := by
  simp only [beq_iff_eq, Value.type.injEq]
  simpa using h3
 rw [if_neg e]
 show (if ajS c = true then PySem.W.subIn K (.type a) (.type c) else none) = some b
 rw [if_pos h]
 exact h2
theorem OL {K : acB} : aet K (.type "int") (.type "bool") = some false := vx (by decide +kernel) (by decide +kernel) (by decide)
theorem OM {K : acB} : aet K (.type "bool") (.type "int") = some true := vx (by decide +kernel) (by decide +kernel) (by decide)
theorem ON {K : acB} : aet K (.type "NoneType") (.type "int") = some false := vx (by decide +kernel) (by decide +kernel) (by decide)
theorem OO {K : acB} : aet K (.type "NoneType") (.type "tuple") = some false := vx (by decide +kernel) (by decide +kernel) (by decide)
theorem eQ : adR "len" = some (.builtin "len") := by decide +kernel
theorem lQ : adR "min" = some (.builtin "min") := by decide +kernel
theorem AI : adR "max" = some (.builtin "max") := by decide +kernel
theorem vy : adR "isinstance" = some (.builtin "isinstance") := by decide +kernel
theorem rZ : adR "sorted" = some (.builtin "sorted") := by decide +kernel
theorem OP : adR "any" = some (.builtin "any") := by decide +kernel
theorem OQ : adR "all" = some (.builtin "all") := by decide +kernel
theorem OR : adR "int" = some (.type "int") := by decide +kernel
theorem OS : adR "bool" = some (.type "bool") := by decide +kernel
theorem nU : adR "list" = some (.type "list") := by decide +kernel
theorem OT : adR "enumerate" = some (.type "enumerate") := by decide +kernel
noncomputable def AJ : V -> V -> Option Bool
 | .int _, .ty n => if n = "int" then some true else if n = "bool" then some false else none
 | .bl _, .ty n => if n = "int" then some true else if n = "bool" then some true else none
 | .non, .ty n => if n = "int" then some false else if n = "tuple" then some false else none
 | _, _ => none
noncomputable def gW (K : acB) (x c : V) (H : Hp) (Q : VK) : Prop := match AJ x c with
 | some b => Q (.bl b) H
 | none => ∃ t b, cC K H x t /\ rY c ≠ .none /\ aet K t (rY c) = some b /\ Q (.bl b) H
section
variable {X : Cx}
theorem vz : cW X (.builtin "isinstance") (fun xs H Q => ∃ x c, xs = [x, c] /\ gW X.K x c H Q) := by
 intro pins s σ H xs us Q I r h
 obtain ⟨x, c, rfl, h⟩ := h
 refine OJ pins s σ H _ us Q I r ?_
 cases e : AJ x c with
 | none =>
  unfold gW at h
  rw [e] at h
  obtain ⟨t, b, h1, h2, h3, h4⟩ := h
  exact ⟨x, c, t, b, rfl, h1, h2, h3, h4⟩
 | some b =>
  unfold gW at h
  rw [e] at h
  unfold AJ at e
  split at e
  ·rename_i i n
   split at e
   ·rename_i z; subst z; cases e
    exact ⟨_, _, _, _, rfl, cC.int i, (fun z => nomatch z), AH, h⟩
   ·split at e
    ·rename_i z; subst z; cases e
     exact ⟨_, _, _, _, rfl, cC.int i, (fun z => nomatch z), OL, h⟩
    ·cases e
  ·rename_i i n
   split at e
   ·rename_i z; subst z; cases e
    exact ⟨_, _, _, _, rfl, cC.bl i, (fun z => nomatch z), OM, h⟩
   ·split at e
    ·rename_i z; subst z; cases e
     exact ⟨_, _, _, _, rfl, cC.bl i, (fun z => nomatch z), AH, h⟩
    ·cases e
  ·rename_i n
   split at e
   ·rename_i z; subst z; cases e
    exact ⟨_, _, _, _, rfl, cC.non, (fun z => nomatch z), ON, h⟩
   ·split at e
    ·rename_i z; subst z; cases e
     exact ⟨_, _, _, _, rfl, cC.non, (fun z => nomatch z), OO, h⟩
    ·cases e
  ·cases e
end
section
variable {K : acB} {H : Hp} {Q : VK} {i : Int} {b : Bool} {p : acJ} {xs : List V}
theorem vA : gW K (.int i) (.ty "int") H Q = Q (.bl true) H := rfl
theorem vB : gW K (.int i) (.ty "bool") H Q = Q (.bl false) H := rfl
theorem vC : gW K (.bl b) (.ty "int") H Q = Q (.bl true) H := rfl
theorem vD : gW K (.bl b) (.ty "bool") H Q = Q (.bl true) H := rfl
theorem vE : gW K .non (.ty "int") H Q = Q (.bl false) H := rfl
theorem vF : gW K .non (.ty "tuple") H Q = Q (.bl false) H := rfl
theorem Hz (h : H p = some (.lst xs)) (q : Q (.bl true) H) : gW K (.ref p) (.ty "list") H Q := ⟨_, _, cC.lst h, (fun z => nomatch z), AH, q⟩
end
end Gz
namespace Gz
open PySem PySem.Spec PyProof.Rows L2
noncomputable def aJ (P : ac2) (w : adw) : dv := fun outer H s E e s' =>
 ∃ (x : acJ) (cls a0 : acC) (H' : Hp) (B : aer), e = .ref x /\ s'.os = s.os /\ ah2 s'.gens /\ Un (aO outer) [] H H' s.heap s'.heap /\
  (∀ b o, s.heap.get? b = some o -> H b = none -> b ∉ aO outer -> B.get? b = some o) /\ (∀ b o, s.heap.get? b = some o -> b ∉ aO outer -> ∃ o', B.get? b = some o') /\ bz P w H' B /\ H' x = none /\ s.heap.get? x = none /\
  Heap.FlyingW B outer x cls a0 s'.heap /\ E cls none H'
theorem aD {P : ac2} {w : adw} {X : Cx} : Passes (aJ P w) X E0 := fun _ _ _ _ _ _ _ ⟨_, _, _, _, _, _, _, _, _, _, _, _, _, _, _, h⟩ => h.elim
theorem OU {P : ac2} {w : adw} {outer : List Env} {H : Hp} {s s' : acF} {e : acC} (h : aJ P w outer H s (fun _ _ _ => False) e s') : False := by
 obtain ⟨_, _, _, _, _, _, _, _, _, _, _, _, _, _, _, h⟩ := h
 exact h
section
variable {P : ac2} {w : adw} {K : acB} {mg : Str -> Option acC} {base : aer}
theorem okN {x qual : Str} {st : afU} {f : acJ} {fd : adg} {N ps : List Str} {k : Nat} {sp : Sp} (F : aU K x qual st f fd) (S : aV N ps (aw st)) (len : ∀ vs H Q E, sp vs H Q E -> vs.length = ps.length)
 (rJ : ∀ (aF : acC) (A : adD) (outer : List Env) (s : acF) (H : Hp) (vs : List V) (Q : VK) (E : XK), bW k (A.deeper (ae5 qual (aw st) s.heap.objs.size f aF)) -> sp vs H Q E ->
   ∃ t, bq (eO (aJ P w) P w K mg base N qual (aw st) f aF A outer s H E).uU (aQ st) t /\ t { nx := fun _ H' => Q .non H', rt := Q } (start N vs) H) : aK P w K mg base (aJ P w) (k + 1) f fd ps sp := by
 obtain ⟨oc, od, kV, doc, pm, an, aF, ct, iI, rfl, lk, fq⟩ := F.ex
 refine Hb lk fq S len fun A outer s H vs Q E hr jl => ?_
 obtain ⟨t, h, q⟩ := rJ aF A outer s H vs Q E hr jl
 exact ⟨t, h.uU, q⟩
end
theorem vG (a b : Int) : lD (.int a) (.int b) = true := rfl
theorem vH (a b : Bool) : lD (.bl a) (.bl b) = true := rfl
theorem vI (a : Int) : lD (.int a) .non = true := rfl
theorem vJ (a : Int) : lD .non (.int a) = true := rfl
theorem vK : lD .non .non = true := rfl
theorem ite_tt {A B : Prop} : (if true = true then A else B) = A := if_pos rfl
theorem ite_ff {A B : Prop} : (if false = true then A else B) = B := if_neg ac9
end Gz
namespace Gz
open PySem PySem.Spec PyProof.Rows L2
theorem vL {CX : dv} {P : ac2} {w : adw} {K : acB} {mg : Str -> Option acC} {base : aer} {N : List Str} {qual : Str} {scope : agN} {f : acJ} {cd : acC} {A : adD} {outer : List Env} {s : acF} {H : Hp} {E : XK} :
 (eO CX P w K mg base N qual scope f cd A outer s H E).K = K := rfl
theorem vM {CX : dv} {P : ac2} {w : adw} {K : acB} {mg : Str -> Option acC} {base : aer} {N : List Str} {qual : Str} {scope : agN} {f : acJ} {cd : acC} {A : adD} {outer : List Env} {s : acF} {H : Hp} {E : XK} :
 (eO CX P w K mg base N qual scope f cd A outer s H E).N = N := rfl
section
variable {K : acB} {H H' : Hp} {a p : acJ} {xs ys : List V} {i : Int} {v : V} {Q : VK}
theorem av {o : HO} (h : H p = none) : aj H (upd H p o) := fun b u e => by rw [aA (jc e h)]; exact e
theorem aP (h : az K H p xs) (e : dw xs i = some v) (q : Q v H) : dJ K (.ref p) (.int i) H Q := .inr (.inl ⟨p, xs, i, v, rfl, rfl, h, e, q⟩)
theorem aW (h : ag K H p xs) (e : dw xs i = some v) (q : Q v H) : dJ K (.ref p) (.int i) H Q := .inl ⟨p, xs, i, v, rfl, rfl, h, e, q⟩
theorem fJ (h : ag K H p xs) : Ap K (.ref p) H xs.length := .inl ⟨xs, h, rfl⟩
end
noncomputable def isWhole : V -> Bool
 | .int _ => true
 | _ => false
end Gz
namespace Gz
open PySem PySem.Spec PyProof.Rows L2
noncomputable def FJ (J : It) (g : TG) (tb : TS) (D : Ends) (σ : L2.St) (H : Hp) : Prop := ∃ W : Nat -> Nat -> L2.St -> Hp -> Prop, (∃ m, W 0 m σ H) /\ ∀ i m σ H, W i m σ H ->
 (J.stop i H /\ D.nx σ H) ∨ (J.go i H /\ ∃ N : L2.St -> Hp -> Prop, (∀ σ' H', N σ' H' -> ∃ m', m' < m /\ W (i + 1) m' σ' H') /\ ∀ x H', J.yld i H x H' -> g x σ H' fun σ2 H2 => tb { D with nx := N, ct := N, bk := D.nx } σ2 H2)
section
variable {K : acB} {g : TG} {tb : TS} {D : Ends} {σ : L2.St} {H : Hp} {a : acJ} {xs : List V} {lo : Int} {n : Nat}
theorem vN {ta : TA} : gP (nC ta) g tb D σ H = ta σ H (fun vs H1 => ∃ j : Int, vs = [.int j] /\ -(2 ^ 62) <= j /\ j < 2 ^ 62 /\ FJ (f6 0 j.toNat) g tb D σ H1) := rfl
theorem vO {tl : TE} : gP (lz K tl) g tb D σ H = tl σ H (fun x H1 => ∃ a, x = .ref a /\ (∃ xs, ag K H1 a xs) /\ FJ (fZ K a) g tb D σ H1) := rfl
theorem vP {tl : TE} : gP (nB K tl) g tb D σ H = tl σ H (fun x H1 => ∃ a, x = .ref a /\ (∃ xs, az K H1 a xs) /\ FJ (rg K a) g tb D σ H1) := rfl
theorem lR (Pv : Nat -> L2.St -> Hp -> Prop) (h0 : Pv 0 σ H)
 (hs : ∀ i σ H, i < n -> Pv i σ H -> g (.int (lo + i)) σ H fun σ2 H2 => tb { D with nx := Pv (i + 1), ct := Pv (i + 1), bk := D.nx } σ2 H2) (hd : ∀ σ H, Pv n σ H -> D.nx σ H) : FJ (f6 lo n) g tb D σ H := NB Pv h0 hs hd
theorem gX (Pv : Nat -> L2.St -> Hp -> Prop) (h0 : Pv 0 σ H) (hl : ∀ i σ H, i <= xs.length -> Pv i σ H -> ag K H a xs)
 (hs : ∀ i x σ H, xs[i]? = some x -> Pv i σ H -> g x σ H fun σ2 H2 => tb { D with nx := Pv (i + 1), ct := Pv (i + 1), bk := D.nx } σ2 H2) (hd : ∀ σ H, Pv xs.length σ H -> D.nx σ H) : FJ (fZ K a) g tb D σ H := NA Pv h0 hl hs hd
end
theorem b7 : (2 : Nat) <= adb := by decide
theorem vQ {x : Int} (h : x.natAbs < 2 ^ 200) : Bd 4000 x := Bd.up (n := 200) h (by decide)
theorem HA {x y : Int} (h : x.natAbs < 2 ^ 200) (h' : y.natAbs < 2 ^ 200) : rX x y := ⟨vQ h, vQ h'⟩
end Gz
namespace Gz
open PySem PySem.Spec PyProof.Rows L2
section
variable {X : Cx}
end
section
variable {K : acB} {H H1 : Hp} {l p : acJ} {xs ys : List V} {o : HO}
theorem lS (hl : H l = none) (s : aj H H1) : aj H (upd H1 l o) := fun b u e => by
 rw [aA (jc e hl)]; exact s b u e
noncomputable def OV (K : acB) (H : Hp) (v : V) (a b : Int) : Prop := ∃ p, v = .ref p /\ az K H p [.int a, .int b]
end
end Gz
namespace Gz
open PySem PySem.W PySem.Spec PySem.Calls PyProof.Rows Builtin Builtin.ObjectAttr Builtin.Getset_descriptor
section
variable {prog : ac2} {w : adw} {A : adD} {E : acC -> acF -> Prop} {s : acF} {K : Frag} {x C : acJ} {oe : Obj} {R : ahp -> acF -> Prop}
end
structure XC (K : Frag) (C : acJ) : Prop where
 ex : excIn K C [.type "ValueError", .type "Exception", .type "BaseException", .type "object"] "ValueError.__new__" = true
 mo : mroIn K C (.type "object") = some true
 mb : mroIn K C (.type "BaseException") = some true
 ga : findIn K (.ref C) "__getattribute__" = some (some (.builtin "BaseException.__getattribute__"))
 gr : findIn K (.ref C) "__getattr__" = some none
 gc : findIn K (.ref C) "__class__" = some (some (.builtin "object.__class__"))
theorem XC.cls {K : Frag} {C : acJ} (x : XC K C) : ∃ c d cd sl, K.lookup C = some ⟨c, d, .cls cd, sl⟩ := by
 have q := x.ex
 unfold excIn at q
 split at q
 ·rename_i dd cd sl ho
  exact ⟨_, _, _, _, ho⟩
 ·cases q
theorem OW {K : Frag} {h : aer} {C : acJ} (X : K.In h) (c : XC K C) :
 ∃ bm N nm q bs hdct sn sub ab col dd k0 k1 k2 k3 k5 mN, h.get? C = some (excClassObj nm q C N bs bm hdct sn sub ab col dd k0 k1 k2 k3 k5 "ValueError.__new__") /\ h.Ns N mN /\ mN "__init__" = none /\
  OwnTail h [.type "ValueError", .type "Exception", .type "BaseException", .type "object"] bm := by
 have q := c.ex
 unfold excIn at q
 split at q
 ·rename_i dd cd sl ho
  split at q
  ·rename_i C' bm k0 k1 k2 k3 n k5 hm hs
   simp only [aej, beq_iff_eq, Bool.not_eq_true'] at q
   obtain ⟨⟨⟨⟨⟨rfl, rfl⟩, hdel⟩, ht⟩, ai⟩, hni⟩ := q
   obtain ⟨nm, bs, mro, ns, qn, hd, sn, sub, ab, col, del⟩ := cd
   dsimp only at hm hdel ai hni
   subst hm hdel
   have nV : sl = #[k0, k1, k2, k3, some (.builtin "ValueError.__new__"), k5] := by
    obtain ⟨l⟩ := sl
    simp only at hs
    rw [hs]
   subst nV
   exact ⟨bm, ns, nm, qn, bs, hd, sn, sub, ab, col, dd, k0, k1, k2, k3, k5, _, X _ _ ho, .of_isNs (isNs_of_in X ai), nsMap_none_of_in X ai hni, tail_of_in X ht⟩
  ·cases q
 ·cases q
end Gz
namespace Gz
open PySem PySem.Spec PyProof.Rows L2
section
variable {X : Cx}
end
end Gz
namespace Gz
open PySem PySem.Spec PyProof.Rows L2
theorem bp.some {P : ac2} {w : adw} {H : Hp} {h : aer} {a : acJ} {o : HO} (x : bp P w H h a o) : ∃ ob, h.get? a = some ob := by
 cases o with
 | lst xs => obtain ⟨_, _, _, _, e⟩ := x; exact ⟨_, e⟩
 | tup xs => obtain ⟨_, _, _, o, e, _⟩ := x; exact ⟨_, e⟩
 | dK kvs => obtain ⟨_, _, _, _, o, _, _, e, _⟩ := x; exact ⟨_, e⟩
 | dT kvs => obtain ⟨_, _, _, _, o, _, _, e, _⟩ := x; exact ⟨_, e⟩
 | set S n => obtain ⟨o, _, _, _, e, _⟩ := x; exact ⟨_, e⟩
 | ins C dx fs => obtain ⟨_, _, _, e, _⟩ := x; exact ⟨_, e⟩
 | own y => exact x
 | xd fs => obtain ⟨_, ⟨_, _, _, e, _⟩, _⟩ := x; exact ⟨_, e⟩
 | iy lo hi => obtain ⟨_, _, _, e⟩ := x; exact ⟨_, e⟩
 | aM ob u => obtain ⟨e, _⟩ := x; exact ⟨_, e⟩
 | tbl ps => exact ⟨_, x⟩
 | met f y => exact ⟨_, x⟩
 | ext φ => exact x.2.1
noncomputable def HB (X : Cx) (E : XK) : Prop := ∀ (pins : List (acJ × Obj)) (σ : L2.St) (H : Hp) (s : acF) (e C : acJ) (vs : List acC) (h' : aer), Inv X pins σ H s -> Heap.MadeExcOf s.heap h' e (.ref C) vs -> E (.ref C) none H -> X.xe (.ref e) { s with heap := h' }
noncomputable def HC (C : acJ) (E : XK) (ta : TA) : TS := fun D σ H => ta σ H fun vs H1 => vs.length <= adb /\ E (.ref C) none H1
section
variable {X : Cx}
theorem lT {x : Str} {np cm pos : Pos} {e₀ : ae4} {rest : List ae4} {ta : TA} {C : acJ} {E : XK} (hx : HB X E) (hg : Gl X x) (hm : X.mg x = some (.ref C)) (xc : XC X.K C) (hc : X.calm = true) (ha : PA X (e₀ :: rest) ta)
 (hd : (x == ("__debug__" : Str)) = false := by decide) (he : adv (e₀ :: rest) X.env = (false, eval e₀ X.env) :: adv rest X.env := by rfl)
 (cX : (afV cm (adv rest X.env)).any (·.1) = false := by rfl) :
 PS X (.Raise (some (.Call (.Name x np) (e₀ :: rest) [] cm)) none pos) (HC C E ta) := by
 intro pins s σ H D I h
 obtain ⟨tl, N, nm, q, bs, hdct, sn, sub, ab, col, dd, k0, k1, k2, k3, k5, mN, hC, hN, hni, T⟩ := OW I.ok.mod.kin xc
 refine wpAny_Raise_call_subU (C := C) (nm := nm) (q := q) (N := N) (bs := bs) (bm := tl) (hdct := hdct) (sn := sn) (sub := sub) (ab := ab) (col := col) (dd := dd) (k0 := k0) (k1 := k1) (k2 := k2) (k3 := k3) (k5 := k5)
  ag7 (by decide +kernel) ag7 (mN := mN) (T.hasType PySem.F.excBase_ValueError.hasBase) (I.ok.hd hc) (by rw [he]; show (false || (afV cm (adv rest X.env)).any (·.1)) = false; rw [cX]; rfl) hni (uR I hg hm ⟨rfl, ?_⟩ hd)
 have r9 := ha cm pins s σ H _ I h
 rw [he] at r9 ⊢
 refine agS (adz r9 (fun us s₂ h₂ => ?_) fun _ _ y => y)
 obtain ⟨vs, H1, I1, r, hl, hE⟩ := h₂
 exact ⟨rfl, by rw [<- r.length]; exact hl, I1.bk _ _ hC, hN.keeps I1.bk, T.keeps I1.bk, fun h' e hm => hx pins σ H1 s₂ e C us h' I1 hm hE⟩
end
section
variable {P : ac2} {w : adw} {K : acB} {mg : Str -> Option acC} {base : aer} {N : List Str} {qual : Str} {scope : agN} {f : acJ} {cd : acC} {A : adD} {outer : List Env} {s : acF} {H : Hp} {E : XK}
theorem HD {env : Env} {b L : acJ} (hf : env.frame = some L) (h : b ∈ aO (env :: outer)) : b = L ∨ b ∈ aO outer := by
 unfold aO at h
 rw [adA, hf] at h
 exact acN.mp h
theorem lU : HB (eO (aJ P w) P w K mg base N qual scope f cd A outer s H E) E := by
 intro pins σ H1 s1 e C vs h1 I hx hE
 have AK : (eO (aJ P w) P w K mg base N qual scope f cd A outer s H E).A.frames = some (ae5 qual scope s.heap.objs.size f cd :: outer) := I.ok.frames
 have hF : s1.heap.FunFrames base (ae5 qual scope s.heap.objs.size f cd :: outer) := I.stack
 have cD : ∀ env ∈ (ae5 qual scope s.heap.objs.size f cd :: outer), ∀ b, env.frame = some b -> b ∈ aO (ae5 qual scope s.heap.objs.size f cd :: outer) := fun env he b hb => agf.mpr ⟨env, he, hb⟩
 have OX : ∀ b ∈ aO (ae5 qual scope s.heap.objs.size f cd :: outer), H1 b = none := I.nq
 have nr : ∀ b o, s.heap.get? b = some o -> b ≠ s.heap.objs.size := fun b o e => ade (acK e)
 have iA : ∀ b o, s.heap.get? b = some o -> b ∉ aO outer -> b ∉ aO (ae5 qual scope s.heap.objs.size f cd :: outer) := fun b o e hb z => by
  rcases HD rfl z with z | z
  ·exact nr b o e z
  ·exact hb z
 have ub : Un (aO outer) [] H H1 s.heap s1.heap := I.base
 refine wpAny_leaves_madeW (base := ah1 s1.heap (aO (ae5 qual scope s.heap.objs.size f cd :: outer))) AK rfl (fun b o q => aiR _ q) (PySem.W.funFrames_hide hF cD) hx fun h' t fl tup bt up => ?_
 have stays := fl.1
 have nW : ∀ b o, s1.heap.get? b = some o -> b ∉ aO (ae5 qual scope s.heap.objs.size f cd :: outer) -> (ah1 s1.heap (aO (ae5 qual scope s.heap.objs.size f cd :: outer))).get? b = some o := fun b o q hb => aiG _ q hb
 have se : ∀ b ∈ aO (ae5 qual scope s.heap.objs.size f cd :: outer), ∀ o, s1.heap.get? b = some o -> ∃ sl, h'.get? b = some { o with slots := sl } := fun b hb o q => by
  obtain ⟨_, o', cJ, hnf⟩ := hF.mem hb
  rw [q] at cJ; cases cJ
  exact up b o (hx.keeps b o q) hnf
 refine ⟨e, .ref C, .ref t, H1, _, rfl, I.os, I.bare, ⟨fun b o q n hb dO => ?_, fun b o q n hb dO => ?_, ub.free, fun b o q dO => ?_, ub.cH, ub.cI, ub.cU⟩, fun b o q n hb => ?_, fun b o q hb => ?_, fun a o q => ?_, ?_, ?_, fl, hE⟩
 ·exact stays b o (nW b o (ub.keep b o q n hb dO) (iA b o q hb))
 ·obtain ⟨sl, e1⟩ := ub.slot b o q n hb dO
  obtain ⟨dc, e2⟩ := se b (by unfold aO; rw [adA]; exact ac5 _ hb) _ e1
  exact ⟨dc, e2⟩
 ·obtain ⟨o', e1⟩ := ub.there b o q dO
  by_cases hb : b ∈ aO (ae5 qual scope s.heap.objs.size f cd :: outer)
  ·obtain ⟨sl, e2⟩ := se b hb o' e1
   exact ⟨_, e2⟩
  ·exact ⟨o', stays b o' (nW b o' e1 hb)⟩
 ·exact nW b o (ub.keep b o q n hb (by simp)) (iA b o q hb)
 ·obtain ⟨o', e1⟩ := ub.there b o q (by simp)
  exact ⟨o', nW b o' e1 (iA b o q hb)⟩
 ·refine (I.ai a o q).eE (fun b u hb z => nW b u z fun hm => ?_) (fun _ z => z) fun _ _ z => z
  have := OX b hm
  rcases hb with hb | hb
  ·rw [hb, q] at this; cases this
  ·rw [hb] at this; cases this
 ·cases q : H1 e with
  | none => rfl
  | some u =>
   obtain ⟨ob, z⟩ := bp.some (I.ai e u q)
   rw [hx.new] at z; cases z
 ·cases q : s.heap.get? e with
  | none => rfl
  | some u =>
   obtain ⟨o', z⟩ := ub.there e u q (by simp)
   rw [hx.new] at z; cases z
theorem AL : Passes (aJ P w) (eO (aJ P w) P w K mg base N qual scope f cd A outer s H E) E := by
 intro pins σ H1 s1 ev s2 I cx
 obtain ⟨x, cls, a0, H', B, rfl, os, bare, un, kb, tb, ai, hx, hn, fl, hE⟩ := cx
 have AK : (eO (aJ P w) P w K mg base N qual scope f cd A outer s H E).A.frames = some (ae5 qual scope s.heap.objs.size f cd :: outer) := I.ok.frames
 have hF : s1.heap.FunFrames base (ae5 qual scope s.heap.objs.size f cd :: outer) := I.stack
 have nr : ∀ b o, s.heap.get? b = some o -> b ≠ s.heap.objs.size := fun b o e => ade (acK e)
 have iA : ∀ b o, s.heap.get? b = some o -> b ∉ aO outer -> b ∉ aO (ae5 qual scope s.heap.objs.size f cd :: outer) := fun b o e hb z => by
  rcases HD rfl z with z | z
  ·exact nr b o e z
  ·exact hb z
 have OY : ∀ b, b ∈ aO outer -> b ∈ aO (ae5 qual scope s.heap.objs.size f cd :: outer) := fun b hb => by
  unfold aO; rw [adA]; exact ac5 _ hb
 have ub : Un (aO outer) [] H H1 s.heap s1.heap := I.base
 have HE : Un (aO (ae5 qual scope s.heap.objs.size f cd :: outer)) [] H1 H' s1.heap s2.heap := un
 have HF : ∀ b o, s1.heap.get? b = some o -> H1 b = none -> b ∉ aO (ae5 qual scope s.heap.objs.size f cd :: outer) -> B.get? b = some o := kb
 have bO : ∀ b o, s1.heap.get? b = some o -> b ∉ aO (ae5 qual scope s.heap.objs.size f cd :: outer) -> ∃ o', B.get? b = some o' := tb
 have OZ : ∀ b ∈ aO (ae5 qual scope s.heap.objs.size f cd :: outer), H1 b = none := I.nq
 refine wpAny_leaves_onW AK rfl fl fun h' AM up => ?_
 have stays := AM.1
 have se : ∀ b ∈ aO (ae5 qual scope s.heap.objs.size f cd :: outer), ∀ o, s1.heap.get? b = some o -> ∃ sl, h'.get? b = some { o with slots := sl } := fun b hb o q => by
  obtain ⟨_, o', cJ, hnf⟩ := hF.mem hb
  rw [q] at cJ; cases cJ
  obtain ⟨sl, e1⟩ := HE.slot b o q (OZ b hb) hb (by simp)
  obtain ⟨dc, e2⟩ := up b _ e1 hnf
  exact ⟨dc, e2⟩
 refine ⟨x, cls, a0, H', B, rfl, os.trans I.os, bare, ⟨fun b o q n hb dO => ?_, fun b o q n hb dO => ?_, fun b o q n dO => ?_, fun b o q dO => ?_, fun b xs q => un.cH _ _ (ub.cH _ _ q), fun b o u q => un.cI _ _ _ (ub.cI _ _ _ q), fun b ps q => ?_⟩, fun b o q n hb => ?_, fun b o q hb => ?_, ai, hx, ?_, AM, hE⟩
 ·exact stays b o (HF b o (ub.keep b o q n hb dO) (ub.free b o q n dO) (iA b o q hb))
 ·obtain ⟨sl, e1⟩ := ub.slot b o q n hb dO
  obtain ⟨dc, e2⟩ := se b (OY b hb) _ e1
  exact ⟨dc, e2⟩
 ·obtain ⟨o', e1⟩ := ub.there b o q dO
  exact HE.free b o' e1 (ub.free b o q n dO) (by simp)
 ·obtain ⟨o', e1⟩ := ub.there b o q dO
  by_cases hb : b ∈ aO (ae5 qual scope s.heap.objs.size f cd :: outer)
  ·obtain ⟨sl, e2⟩ := se b hb o' e1
   exact ⟨_, e2⟩
  ·obtain ⟨o2, e2⟩ := bO b o' e1 hb
   exact ⟨o2, stays b o2 e2⟩
 ·obtain ⟨m1, e1⟩ := ub.cU b ps q
  obtain ⟨m2, e2⟩ := un.cU b _ e1
  exact ⟨m1 ++ m2, by rw [e2, ag8]⟩
 ·exact HF b o (ub.keep b o q n hb (by simp)) (ub.free b o q n (by simp)) (iA b o q hb)
 ·obtain ⟨o', e1⟩ := ub.there b o q (by simp)
  exact bO b o' e1 (iA b o q hb)
 ·cases q : s.heap.get? x with
  | none => rfl
  | some u =>
   obtain ⟨o', z⟩ := ub.there x u q (by simp)
   rw [hn] at z; cases z
theorem lV {x qual : Str} {st : afU} {f : acJ} {fd : adg} {N ps : List Str} {k : Nat} {sp : Sp} (F : aU K x qual st f fd) (S : aV N ps (aw st)) (len : ∀ vs H Q E, sp vs H Q E -> vs.length = ps.length)
 (rJ : ∀ (aF : acC) (A : adD) (outer : List Env) (s : acF) (H : Hp) (vs : List V) (Q : VK) (E : XK), bW k (A.deeper (ae5 qual (aw st) s.heap.objs.size f aF)) -> sp vs H Q E ->
   ∃ t, bq (eO (aJ P w) P w K mg base N qual (aw st) f aF A outer s H E) (aQ st) t /\ t { nx := fun _ H' => Q .non H', rt := Q } (start N vs) H) : aK P w K mg base (aJ P w) (k + 1) f fd ps sp := by
 obtain ⟨oc, od, kV, doc, pm, an, aF, ct, iI, rfl, lk, fq⟩ := F.ex
 refine Hb lk fq S len fun A outer s H vs Q E hr jl => ?_
 exact rJ aF A outer s H vs Q E hr jl
end
end Gz
namespace Gz
open PySem PySem.Spec PyProof.Rows L2
section
variable {X : Cx} {F : acC -> acF -> Prop} {pins pn : List (acJ × Obj)} {σ : L2.St} {H : Hp} {s : acF} {A' : adD}
end
end Gz
namespace Gz
noncomputable def vR (a b : Int) : Int := ((Nat.gcd a.natAbs b.natAbs : Nat) : Int)
noncomputable def sg (t b : Int) : Int := if b < 0 then -vR t b else vR t b
noncomputable def rt (t b : Int) : Int := t.fdiv (sg t b)
noncomputable def rb (t b : Int) : Int := b.fdiv (sg t b)
theorem O0 (x : Int) : (x % 1000000000000000000000000000000).natAbs < 2 ^ 200 := by
 have h1 := agY x (show (1000000000000000000000000000000 : Int) ≠ 0 by decide)
 have h2 := agk x (show (0 : Int) < 1000000000000000000000000000000 by decide)
 omega
end Gz
namespace Gz
open PySem PySem.W PyProof.Rows
noncomputable def cK {α : Type} (lt : Nat -> Nat -> Bool) (n : Nat) : KasT α -> (α -> Prop) -> Prop
 | .ret a, P => P a
 | .ask i j k, P => i < n /\ j < n /\ cK lt n (k (lt i j)) P
section
variable {lt : Nat -> Nat -> Bool} {n : Nat}
theorem nX {α β : Type} {f : α -> KasT β} {P : β -> Prop} : ∀ (t : KasT α), cK lt n t (fun a => cK lt n (f a) P) -> cK lt n (t.bind f) P
 | .ret _, h => h
 | .ask _ _ k, h => ⟨h.1, h.2.1, nX (k _) h.2.2⟩
theorem HG {α : Type} {P P' : α -> Prop} (h : ∀ a, P a -> P' a) : ∀ (t : KasT α), cK lt n t P -> cK lt n t P'
 | .ret _, q => h _ q
 | .ask _ _ k, q => ⟨q.1, q.2.1, HG h (k _) q.2.2⟩
theorem AN {α : Type} {cmp : Nat -> Nat -> (Bool -> acF -> Prop) -> acF -> Prop} {Ok : acF -> Prop} (hc : ∀ i j C s, i < n -> j < n -> Ok s -> (∀ s', Ok s' -> C (lt i j) s') -> cmp i j C s) {P : α -> Prop} {Q : α -> acF -> Prop} (hQ : ∀ a s, Ok s -> P a -> Q a s) :
 ∀ (t : KasT α) (s : acF), Ok s -> cK lt n t P -> t.kasWp cmp Q s
 | .ret a, s, o, h => hQ a s o h
 | .ask i j k, s, o, h => hc i j _ s h.1 h.2.1 o fun s' o' => AN hc hQ (k (lt i j)) s' o' h.2.2
structure Ord (lt : Nat -> Nat -> Bool) : Prop where
 asym : ∀ {a b}, lt a b = true -> lt b a = false
 tr : ∀ {a b c}, lt b a = false -> lt c b = false -> lt c a = false
theorem Ord.rfl' (O : Ord lt) (a : Nat) : lt a a = false := by
 cases h : lt a a with
 | false => rfl
 | true => rw [O.asym h] at h; cases h
noncomputable def cL (lt : Nat -> Nat -> Bool) (p : Array Nat) (k : Nat) : Prop := ∀ i j, i <= j -> j < k -> lt (p.getD j 0) (p.getD i 0) = false
noncomputable def dA (lt : Nat -> Nat -> Bool) (p : Array Nat) (k : Nat) : Prop := ∀ i j, i <= j -> j < k -> lt (p.getD i 0) (p.getD j 0) = false
noncomputable def bK (n : Nat) (p : Array Nat) : Prop := p.toList.Perm (adh n)
theorem bK.size {p : Array Nat} (h : bK n p) : p.size = n := by
 have := h.length_eq
 simpa using this
theorem bK.below {p : Array Nat} (h : bK n p) {i : Nat} (hi : i < n) : p.getD i 0 < n := by
 have hs := h.size
 have bf : i < p.size := by omega
 have e : p.getD i 0 = p[i] := by simp [Array.getD, bf]
 rw [e]
 have m : p[i] ∈ p.toList := by simp
 simpa using h.mem_iff.mp m
theorem bK.of {p q : Array Nat} (h : bK n p) (hq : q.Perm p) : bK n q := (Array.perm_iff_toList_perm.mp hq).trans h
theorem cL.one (O : Ord lt) {p : Array Nat} : cL lt p 1 := fun i j eR hj => by
 have : i = j := by omega
 subst this; exact O.rfl' _
theorem dA.one (O : Ord lt) {p : Array Nat} : dA lt p 1 := fun i j eR hj => by
 have : i = j := by omega
 subst this; exact O.rfl' _
theorem cL.succ (O : Ord lt) {p : Array Nat} {k : Nat} (h : cL lt p k) (hk : 1 <= k) (hn : lt (p.getD k 0) (p.getD (k - 1) 0) = false) : cL lt p (k + 1) := fun i j eR hj => by
 by_cases e : j = k
 ·subst e
  by_cases ei : i = j
  ·subst ei; exact O.rfl' _
  ·exact O.tr (h i (j - 1) (by omega) (by omega)) hn
 ·exact h i j eR (by omega)
theorem dA.succ (O : Ord lt) {p : Array Nat} {k : Nat} (h : dA lt p k) (hk : 1 <= k) (hn : lt (p.getD (k - 1) 0) (p.getD k 0) = false) : dA lt p (k + 1) := fun i j eR hj => by
 by_cases e : j = k
 ·subst e
  by_cases ei : i = j
  ·subst ei; exact O.rfl' _
  ·exact O.tr hn (h i (j - 1) (by omega) (by omega))
 ·exact h i j eR (by omega)
theorem jn {p : Array Nat} {i j : Nat} (hj : j <= p.size) (k : Nat) : (kas_rev p i j).getD k 0 = if i <= k /\ k < j then p.getD (i + j - 1 - k) 0 else p.getD k 0 := by
 simp only [afG]
 unfold kas_rev
 rw [getElem?_mirror_all hj]
 split <;> rfl
theorem HH {p : Array Nat} {k l : Nat} (hk : k < p.size) (hl : l <= k) (i : Nat) : (bubble p k (k - l)).getD i 0 = if i = l then p.getD k 0 else if l < i /\ i <= k then p.getD (i - 1) 0 else p.getD i 0 := by
 simp only [afG]
 rw [getElem?_bubble hk _ (by omega)]
 have e : k - (k - l) = l := by omega
 rw [e]
 split
 ·rfl
 ·split <;> rfl
theorem HI (O : Ord lt) {p : Array Nat} (hp : bK n p) {P : Nat -> Prop} : ∀ (f a : Nat), 1 <= a -> a + f <= n -> cL lt p a -> (∀ m, a <= m -> m <= a + f -> cL lt p m -> P m) -> cK lt n (kas_asc p f a) P
 | 0, a, h1, h2, hs, q => q a (ac1 _) (by omega) hs
 | f + 1, a, h1, h2, hs, q => by
  refine ⟨hp.below (by omega), hp.below (by omega), ?_⟩
  cases c : lt (p.getD a 0) (p.getD (a - 1) 0) with
  | true =>
   simp only [↓reduceIte]
   exact q a (ac1 _) (by omega) hs
  | false =>
   simp only [acP, ↓reduceIte]
   exact HI O hp f (a + 1) (by omega) (by omega) (hs.succ O h1 c) fun m m1 m2 => q m (by omega) (by omega)
theorem dA.rev {p : Array Nat} {k i : Nat} (h : dA lt p k) (hk : k <= p.size) (hi : i <= k) (he : ∀ j, i <= j -> j < k -> lt (p.getD (k - 1) 0) (p.getD j 0) = false) (O : Ord lt) : dA lt (kas_rev p i k) k := fun a b cw hb => by
 rw [jn hk, jn hk]
 have eqv : ∀ x y, i <= x -> x < k -> i <= y -> y < k -> lt (p.getD x 0) (p.getD y 0) = false := fun x y x1 x2 y1 y2 => O.tr (he y y1 y2) (h x (k - 1) (by omega) (by omega))
 split
 ·split
  ·exact eqv _ _ (by omega) (by omega) (by omega) (by omega)
  ·exfalso; omega
 ·split
  ·exact h _ _ (by omega) (by omega)
  ·exact h _ _ cw hb
theorem vS (O : Ord lt) {P : Array Nat × Nat × Nat -> Prop} : ∀ (f : Nat) (p : Array Nat) (k q : Nat), bK n p -> 1 <= k -> k + f <= n -> q + 1 <= k -> dA lt p k -> (∀ j, k - (q + 1) <= j -> j < k -> lt (p.getD (k - 1) 0) (p.getD j 0) = false) ->
 (∀ p' k' q', bK n p' -> k <= k' -> k' <= k + f -> q' + 1 <= k' -> dA lt p' k' -> (∀ j, k' - (q' + 1) <= j -> j < k' -> lt (p'.getD (k' - 1) 0) (p'.getD j 0) = false) -> P (p', k', q')) -> cK lt n (kas_desc f p k q) P
 | 0, p, k, q, hp, h1, h2, h3, hd, he, fin => fin p k q hp (ac1 _) (by omega) h3 hd he
 | f + 1, p, k, q, hp, h1, h2, h3, hd, he, fin => by
  have hs := hp.size
  have one : ∀ (p' : Array Nat), ∀ j, (k + 1) - (0 + 1) <= j -> j < k + 1 -> lt (p'.getD (k + 1 - 1) 0) (p'.getD j 0) = false := fun p' j j1 j2 => by
   have : j = k := by omega
   subst this; exact O.rfl' _
  refine ⟨hp.below (by omega), hp.below (by omega), ?_⟩
  cases c : lt (p.getD k 0) (p.getD (k - 1) 0) with
  | true =>
   simp only [↓reduceIte]
   have c' := O.asym c
   by_cases hq : q > 0
   ·rw [if_pos hq]
    have bF : bK n (kas_rev p (k - (q + 1)) k) := hp.of (aiL _ _ _ _)
    have fW : dA lt (kas_rev p (k - (q + 1)) k) k := hd.rev (by omega) (by omega) he O
    refine vS O f _ (k + 1) 0 bF (by omega) (by omega) (by omega) (fW.succ O h1 ?_) (one _) fun p2 k2 q2 a1 a2 a3 a4 a5 a6 => fin p2 k2 q2 a1 (by omega) (by omega) a4 a5 a6
    rw [jn (by omega), jn (by omega), if_pos (by omega), if_neg (by omega)]
    have e1 : k - (q + 1) + k - 1 - (k - 1) = k - (q + 1) := by omega
    rw [e1]
    exact O.tr c' (hd _ (k - 1) (by omega) (by omega))
   ·rw [if_neg hq]
    exact vS O f p (k + 1) 0 hp (by omega) (by omega) (by omega) (hd.succ O h1 c') (one _) fun p2 k2 q2 a1 a2 a3 a4 a5 a6 => fin p2 k2 q2 a1 (by omega) (by omega) a4 a5 a6
  | false =>
   simp only [acP, ↓reduceIte]
   refine ⟨hp.below (by omega), hp.below (by omega), ?_⟩
   cases d : lt (p.getD (k - 1) 0) (p.getD k 0) with
   | true =>
    simp only [↓reduceIte]
    exact fin p k q hp (ac1 _) (by omega) h3 hd he
   | false =>
    simp only [acP, ↓reduceIte]
    refine vS O f p (k + 1) (q + 1) hp (by omega) (by omega) (by omega) (hd.succ O h1 d) (fun j j1 j2 => ?_) fun p2 k2 q2 a1 a2 a3 a4 a5 a6 => fin p2 k2 q2 a1 (by omega) (by omega) a4 a5 a6
    have ek : k + 1 - 1 = k := by omega
    rw [ek]
    by_cases ej : j = k
    ·subst ej; exact O.rfl' _
    ·exact O.tr (he j (by omega) (by omega)) c
theorem dA.whole {p : Array Nat} {k : Nat} (h : dA lt p k) (hk : k <= p.size) : cL lt (kas_rev p 0 k) k := fun a b cw hb => by
 rw [jn hk, jn hk, if_pos (by omega), if_pos (by omega)]
 exact h _ _ (by omega) (by omega)
theorem HJ (O : Ord lt) {P : Nat × Array Nat -> Prop} {p : Array Nat} {k : Nat} (hp : bK n p) (h1 : 1 <= k) (h2 : k <= n) (hd : dA lt p k) (fin : ∀ m p', bK n p' -> 1 <= m -> m <= n -> cL lt p' m -> P (m, p')) : cK lt n (kas_tail3 k n p) P := by
 have bF : bK n (kas_rev p 0 k) := hp.of (aiL _ _ _ _)
 have hs := hp.size
 unfold kas_tail3
 refine nX _ (HI O bF (n - k) k h1 (by omega) (hd.whole (by omega)) fun m m1 m2 ms => ?_)
 exact fin m _ bF (by omega) (by omega) ms
theorem HK (O : Ord lt) {P : Nat × Array Nat -> Prop} {p : Array Nat} {k : Nat} (hp : bK n p) (h1 : 1 <= k) (h2 : k + 1 <= n) (hd : dA lt p (k + 1)) (fin : ∀ m p', bK n p' -> 1 <= m -> m <= n -> cL lt p' m -> P (m, p')) : cK lt n (kas_descPart k n p) P := by
 unfold kas_descPart
 refine nX _ (vS O (n - (k + 1)) p (k + 1) 0 hp (by omega) (by omega) (by omega) hd (fun j j1 j2 => ?_) fun p2 k2 q2 a1 a2 a3 a4 a5 a6 => ?_)
 ·have : j = k := by omega
  subst this; exact O.rfl' _
 ·have hs := a1.size
  dsimp only
  by_cases hq : q2 > 0
  ·rw [if_pos hq]
   exact HJ O (a1.of (aiL _ _ _ _)) (by omega) (by omega) (a5.rev (by omega) (by omega) a6 O) fin
  ·rw [if_neg hq]
   exact HJ O a1 (by omega) (by omega) a5 fin
theorem O2 (O : Ord lt) {P : Nat × Array Nat -> Prop} {p : Array Nat} (hp : bK n p) (hn : 1 <= n) (fin : ∀ m p', bK n p' -> 1 <= m -> m <= n -> cL lt p' m -> P (m, p')) : cK lt n (kas_count n p) P := by
 have hs := hp.size
 unfold kas_count
 have key : cK lt n (kas_asc p (n - 1) 1) (fun m => 1 <= m /\ m <= n /\ cL lt p m /\ (m < n -> lt (p.getD m 0) (p.getD (m - 1) 0) = true)) := by
  have gen : ∀ (f a : Nat), 1 <= a -> a + f = n -> cL lt p a -> cK lt n (kas_asc p f a) (fun m => 1 <= m /\ m <= n /\ cL lt p m /\ (m < n -> lt (p.getD m 0) (p.getD (m - 1) 0) = true)) := by
   intro f
   induction f with
   | zero => intro a h1 h2 hs; exact ⟨h1, by omega, hs, fun z => absurd z (by omega)⟩
   | succ f ih =>
    intro a h1 h2 hs
    refine ⟨hp.below (by omega), hp.below (by omega), ?_⟩
    cases c : lt (p.getD a 0) (p.getD (a - 1) 0) with
    | true =>
     simp only [↓reduceIte]
     exact ⟨h1, by omega, hs, fun _ => c⟩
    | false =>
     simp only [acP, ↓reduceIte]
     exact ih (a + 1) (by omega) (by omega) (hs.succ O h1 c)
  exact gen (n - 1) 1 (ac1 _) (by omega) (cL.one O)
 refine nX _ (HG (fun m hm => ?_) _ key)
 obtain ⟨m1, m2, ms, mc⟩ := hm
 by_cases e : (m == n) = true
 ·rw [if_pos e]
  exact fin m p hp m1 m2 ms
 ·rw [if_neg e]
  have O3 : m < n := by
   have : m ≠ n := by simpa using e
   omega
  have mc := mc O3
  by_cases h2 : m > 1
  ·rw [if_pos h2]
   refine ⟨hp.below (by omega), hp.below (by omega), ?_⟩
   cases c : lt (p.getD 0 0) (p.getD (m - 1) 0) with
   | true =>
    simp only [↓reduceIte]
    exact fin m p hp m1 m2 ms
   | false =>
    simp only [acP, ↓reduceIte]
    have eqv : ∀ x y, x < m -> y < m -> lt (p.getD x 0) (p.getD y 0) = false := fun x y hx hy =>
     O.tr (ms y (m - 1) (by omega) (by omega)) (O.tr c (ms 0 x (by omega) hx))
    have bF : bK n (kas_rev p 0 m) := hp.of (aiL _ _ _ _)
    refine HK O bF m1 (by omega) (fun i j eR hj => ?_) fin
    rw [jn (by omega), jn (by omega)]
    by_cases ej : j = m
    ·subst ej
     rw [if_neg (show ¬ (0 <= j /\ j < j) by omega)]
     split
     ·exact O.tr (O.asym mc) (eqv _ _ (by omega) (by omega))
     ·have : i = j := by omega
      subst this; exact O.rfl' _
    ·rw [if_pos (by omega), if_pos (by omega)]
     exact eqv _ _ (by omega) (by omega)
  ·rw [if_neg h2]
   have e1 : m = 1 := by omega
   subst e1
   exact HK O hp (ac1 _) (by omega) ((dA.one O).succ O (ac1 _) (O.asym mc)) fin
theorem AO {p : Array Nat} {k : Nat} {P : Nat -> Prop} (O : Ord lt) (hp : bK n p) (hk : k < n) (hs : cL lt p k) (fin : ∀ m, m <= k -> (∀ i, i < m -> lt (p.getD k 0) (p.getD i 0) = false) -> (∀ i, m <= i -> i < k -> lt (p.getD i 0) (p.getD k 0) = false) -> P m) :
 ∀ (f l r : Nat), r - l <= f -> l <= r -> r <= k -> (∀ i, i < l -> lt (p.getD k 0) (p.getD i 0) = false) -> (∀ i, r <= i -> i < k -> lt (p.getD i 0) (p.getD k 0) = false) -> cK lt n (kas_place p k f l r) P
 | 0, l, r, h1, h2, h3, a, b => by
  have : l = r := by omega
  subst this
  exact fin l h3 a b
 | f + 1, l, r, h1, h2, h3, a, b => by
  unfold kas_place
  by_cases hlr : l ≥ r
  ·rw [if_pos hlr]
   have : l = r := by omega
   subst this
   exact fin l h3 a b
  ·rw [if_neg hlr]
   refine ⟨hp.below hk, hp.below (by omega), ?_⟩
   cases c : lt (p.getD k 0) (p.getD ((l + r) / 2) 0) with
   | true =>
    simp only [↓reduceIte]
    refine AO O hp hk hs fin f l ((l + r) / 2) (by omega) (by omega) (by omega) a fun i i1 i2 => ?_
    exact O.tr (O.asym c) (hs _ _ i1 i2)
   | false =>
    simp only [acP, ↓reduceIte]
    refine AO O hp hk hs fin f ((l + r) / 2 + 1) r (by omega) (by omega) h3 (fun i i1 => ?_) b
    exact O.tr (hs i ((l + r) / 2) (by omega) (by omega)) c
theorem HL (O : Ord lt) {P : Array Nat -> Prop} (fin : ∀ p, bK n p -> cL lt p n -> P p) : ∀ (f : Nat) (p : Array Nat) (k : Nat), k + f = n -> bK n p -> cL lt p k -> cK lt n (kas_bin f p k) P
 | 0, p, k, h, hp, hs => fin p hp (by rw [<- h]; exact hs)
 | f + 1, p, k, h, hp, hs => by
  have sz := hp.size
  unfold kas_bin
  refine nX _ (AO O hp (by omega) hs (fun m m1 ma mb => ?_) k 0 k (by omega) (by omega) (ac1 _) (fun _ z => absurd z (by omega)) fun _ z1 z2 => absurd z2 (by omega))
  refine HL O fin f _ (k + 1) (by omega) (hp.of (bubble_perm _ _ _)) fun i j eR hj => ?_
  rw [HH (by omega) m1, HH (by omega) m1]
  by_cases ei : i = m
  ·rw [if_pos ei]
   by_cases ej : j = m
   ·rw [if_pos ej]; exact O.rfl' _
   ·rw [if_neg ej, if_pos (by omega)]
    exact mb _ (by omega) (by omega)
  ·rw [if_neg ei]
   by_cases ej : j = m
   ·rw [if_pos ej, if_neg (by omega)]
    exact ma _ (by omega)
   ·rw [if_neg ej]
    split
    ·split
     ·exact hs _ _ (by omega) (by omega)
     ·exact hs _ _ (by omega) (by omega)
    ·split
     ·exfalso; omega
     ·exact hs _ _ (by omega) (by omega)
theorem AQ (O : Ord lt) (hn : 1 <= n) : cK lt n (kas_sort n) (fun p => bK n p /\ cL lt p n) := by
 unfold kas_sort
 have h0 : bK n (aep (adh n)) := by unfold bK; simp
 refine nX _ (O2 O h0 hn fun m p hp m1 m2 ms => ?_)
 dsimp only
 by_cases h : m < n
 ·rw [if_pos h]
  have e : max m 1 = m := by omega
  rw [e]
  exact HL O (fun p hp hs => ⟨hp, hs⟩) (n - m) p m (by omega) hp ms
 ·rw [if_neg h]
  have e : m = n := by omega
  subst e
  exact ⟨hp, ms⟩
noncomputable def vT {α : Type} (lt : Nat -> Nat -> Bool) : KasT α -> α
 | .ret a => a
 | .ask i j k => vT lt (k (lt i j))
theorem HM {α : Type} {P : α -> Prop} : ∀ (t : KasT α), cK lt n t P -> P (vT lt t)
 | .ret _, h => h
 | .ask i j k, h => HM (k (lt i j)) h.2.2
theorem AR {α : Type} {P : α -> Prop} : ∀ (t : KasT α), cK lt n t P -> cK lt n t (fun a => a = vT lt t)
 | .ret _, _ => rfl
 | .ask i j k, h => ⟨h.1, h.2.1, AR (k (lt i j)) h.2.2⟩
noncomputable def br (lt : Nat -> Nat -> Bool) (n : Nat) : Array Nat := if n < 2 then aep (adh n) else vT lt (kas_sort n)
theorem nY (O : Ord lt) : bK n (br lt n) /\ cL lt (br lt n) n := by
 unfold br
 split
 ·rename_i h
  refine ⟨by unfold bK; simp, fun i j eR hj => ?_⟩
  have : i = j := by omega
  subst this; exact O.rfl' _
 ·rename_i h
  exact HM _ (AQ O (by omega))
end
end Gz
namespace Gz
open PySem PySem.Spec PyProof.Rows L2
local macro_rules | `(tactic| walk_at "om") => `(tactic| ((try simp only [PySem.Addr] at *); omega))
theorem HN {prog : ac2} {w : adw} {A : adD} {E : acC -> acF -> Prop} {s : acF} {id : String} {b : afH} {args : List acC} {kw : List (Str × acC)} {Q : acC -> acF -> Prop} (hk : builtinKind id = none) (hp : plainId id = true)
 (hb : aks table id = some b) (ha : aiB id ⟨args, kw⟩)
 (hc : ac0 (model prog w) A.in1 (b ⟨args, kw⟩) (fun fin s' => match fin with
   | .done f => (match (Except.ok f : ahp) with | .ok (.ret v) => Q v s' | .ok _ => False | .error e => E e s')
   | .again c' => c'.quiet = true /\ afi (model prog w) A c' (fun r s' => match r with | .ok (.ret v) => Q v s' | .ok _ => False | .error e => E e s') s') E s) :
 ac0 (model prog w) A (call (.builtin id) args kw) Q E s := by
 refine ahq (afS hp hb ?_)
 simp only [ajw, hk]
 cases hsig : Manifest.signature? id with
 | none => exact acD hc
 | some sig =>
  have r9 : Bind.checkArgs id sig ⟨args, kw⟩ = pure () := by simpa only [aiB, hsig] using ha
  simp only [r9]
  exact acD hc
theorem O4 {prog : ac2} {w : adw} {A : adD} {R : ahp -> acF -> Prop} {I S : acJ} {fp wr : List acJ} {n : Nat} {P : Nat -> acC -> Prop} {St : Nat -> aer -> Prop} {bt : Nat -> Nat -> Bool} {kw : List (Str × acC)}
 (W : Walks prog w A.in1 I fp wr n P St) (lW : CmpOf prog w A.in1 .Gt P bt) (hS : S ∉ fp) : ∀ (k j : Nat) (s : acF) (vb : acC) (c : Nat), k + (j + 1) = n -> St (j + 1) s.heap -> P (ae1 bt j) vb ->
  s.heap.get? S = some { cls := .type "list", dict := none, data := .seq #[vb, vb] c, slots := #[] } ->
  (∀ v h' tk, P (ae1 bt (n - 1)) v -> (∀ b o, b ∉ wr -> b ≠ S -> s.heap.get? b = some o -> h'.get? b = some o) -> R (.ok (.ret v)) { s with heap := h', toks := tk }) ->
  afi (model prog w) A (.builtin "max.loop" ⟨[.ref I, .none, .ref S], kw⟩) R s := by
 have nS : S ∉ wr := fun z => hS (W.sub _ z)
 have nm : (toString "max" ++ toString ".loop" : String) = "max.loop" := by decide
 intro k
 induction k with
 | zero =>
  intro j s vb c e st pb oS fin
  have e' : j + 1 = n := by walk_at "om"
  refine ads afC ?_
  rw [ada ad3 _]
  show ac0 _ A.in1 (afI (.ref S) >>= _) _ _ s
  refine acA (ad9 oS rfl ?_)
  show ac0 _ A.in1 (tryCatch (afW (.ref I)) _ >>= _) _ _ s
  refine acA (ad0 (W.done s _ _ (e' ▸ st) fun h1 tk kp => ?_))
  have bY := kp S _ nS oS
  show ac0 _ A.in1 (aib S (fun _ => #[]) >>= _) _ _ _
  refine acA ?_
  refine aeG bY rfl (acA (aew (acD ?_)))
  exact fin vb _ tk (by rw [<- e']; exact pb) fun b o hw hb q => (acM _ _ (adV hb)).trans (kp b o hw q)
 | succ k ih =>
  intro j s vb c e st pb oS fin
  have lt : j + 1 < n := by walk_at "om"
  refine ads afC ?_
  rw [ada ad3 _]
  show ac0 _ A.in1 (afI (.ref S) >>= _) _ _ s
  refine acA (ad9 oS rfl ?_)
  show ac0 _ A.in1 (tryCatch (afW (.ref I)) _ >>= _) _ _ s
  refine acA (ad0 (W.item (j + 1) s _ _ lt st fun v h1 tk pv dW kp => ?_))
  have bY := kp S _ nS oS
  show ac0 _ A.in1 (tryCatch (holding [v, v] (afw .Gt v vb >>= _)) _ >>= _) _ _ _
  refine acA (ad0 (adK (acA (lW (j + 1) (ae1 bt j) v vb _ _ _ pv pb ?_))))
  refine acA (adK (adF ?_))
  refine acA (aew (acD ?_))
  cases hb : bt (j + 1) (ae1 bt j) with
  | true =>
   simp only [if_true]
   refine acA ?_
   refine aeG bY rfl (acA (aew ?_))
   rw [nm]
   refine acD ⟨adT ad3 _, ih (j + 1) _ v _ (by walk_at "om") (W.frame _ _ _ dW fun b hf o q => ?_) (by simp only [ae1, hb, if_true]; exact pv) (adB _ bY rfl) fun v2 h2 fK p2 k2 => ?_⟩
   ·exact (acM _ _ (fun z : S = b => hS (by rw [z]; exact hf))).trans q
   ·exact fin v2 h2 fK p2 fun b o hw cY q => k2 b o hw cY ((acM _ _ (adV cY)).trans (kp b o hw q))
  | false =>
   simp only [acP, if_false]
   refine acA (aew ?_)
   rw [nm]
   refine acD ⟨adT ad3 _, ih (j + 1) _ vb c (by walk_at "om") dW (by simp only [ae1, hb, acP, if_false]; exact pb) bY fun v2 h2 fK p2 k2 => ?_⟩
   exact fin v2 h2 fK p2 fun b o hw cY q => k2 b o hw cY (kp b o hw q)
theorem O5 (a d : acC) : aiB "max" ⟨[a], [("default", d)]⟩ := by unfold aiB; kernel_rfl
theorem O6 {prog : ac2} {w : adw} {A : adD} {E : acC -> acF -> Prop} {s : acF} {l : acJ} {xs : Array (Int × Tok)} {d : acC} {Q : acC -> acF -> Prop} (hh : A.handled = none) (hl : s.heap.IsList l (aed xs))
 (h0 : xs.size = 0 -> ∀ h' tk, (∀ b o, s.heap.get? b = some o -> h'.get? b = some o) -> Q d { s with heap := h', toks := tk })
 (h1 : 0 < xs.size -> ∀ v h' tk, (aed xs)[ae1 (fun i j => decide (ahX xs i > ahX xs j)) (xs.size - 1)]? = some v -> (∀ b o, s.heap.get? b = some o -> h'.get? b = some o) -> Q v { s with heap := h', toks := tk }) :
 ac0 (model prog w) A (call (.builtin "max") [.ref l] [("default", d)]) Q E s := by
 have nm : (toString "max" ++ toString ".loop" : String) = "max.loop" := by decide
 refine HN PySem.F.kind_max PySem.F.plain_max PySem.F.entry_max (O5 _ _) ?_
 show ac0 _ A.in1 (ad6 "max" ["key", "default"] 0 ⟨[], [("default", d)]⟩ >>= _) _ _ s
 refine acA (agZ (show ad6 "max" ["key", "default"] 0 ⟨[], [("default", d)]⟩ = pure [none, some d] from rfl) ?_)
 refine acA (acD ?_)
 refine acA (iter_intList hl fun s2 e2 st cM AS => ?_)
 subst e2
 refine acA (adN ?_)
 have W := Walks.list (prog := prog) (w := w) (A := A.in1) hh s.heap.objs.size l AS (aed xs)
 generalize eP : (s.heap.push { cls := .type "list_iterator", data := .fields #[.ref l, .int 0 0] }) = P2 at st cM ⊢
 have gY : P2.objs.size ∉ [s.heap.objs.size, l] := fun z => aec _ (cM _ z)
 have up : ∀ b o, s.heap.get? b = some o -> b ≠ P2.objs.size /\ b ∉ [s.heap.objs.size] /\ (P2.push { cls := .type "list", dict := none, data := .seq ([] : List acC).toArray }).get? b = some o := fun b o q => by
  have lt := acK q
  have q2 : P2.get? b = some o := by rw [<- eP]; exact acE _ q
  refine ⟨ade (acK q2), fun z => ?_, acE _ q2⟩
  have : b = s.heap.objs.size := by simpa using z
  walk_at "om"
 rw [nm]
 refine acD ⟨adT ad3 _, ?_⟩
 have oS : (P2.push { cls := .type "list", dict := none, data := .seq ([] : List acC).toArray }).get? P2.objs.size = some { cls := .type "list", dict := none, data := .seq #[] 0, slots := #[] } := acT _ rfl
 have dS := W.frame 0 P2 (P2.push { cls := .type "list", dict := none, data := .seq ([] : List acC).toArray }) st fun b _ o q => acE _ q
 have nS : P2.objs.size ∉ [s.heap.objs.size] := fun z => gY (by simp at z; simp [z])
 by_cases hz : xs.size = 0
 ·have sf : (P2.push { cls := .type "list", dict := none, data := .seq ([] : List acC).toArray }).IsListIter s.heap.objs.size l (aed xs).size /\ (P2.push { cls := .type "list", dict := none, data := .seq ([] : List acC).toArray }).IsList l (aed xs) := by
   have : (aed xs).size = 0 := by simpa [aed] using hz
   rw [this]; exact dS
  refine ads afC ?_
  rw [ada ad3 _]
  show ac0 _ A.in1 (afI (.ref P2.objs.size) >>= _) _ _ _
  refine acA (ad9 oS rfl ?_)
  show ac0 _ A.in1 (tryCatch (afW (.ref s.heap.objs.size)) _ >>= _) _ _ _
  refine acA (ad0 (W.done _ _ _ sf fun h2 tk kp => ?_))
  refine acA (agw (acD ?_))
  exact h0 hz h2 tk fun b o q => kp b o (up b o q).2.1 (up b o q).2.2
 ·have hp : 0 < xs.size := by walk_at "om"
  have hn : 0 < (aed xs).size := by simpa [aed] using hp
  refine ads afC ?_
  rw [ada ad3 _]
  show ac0 _ A.in1 (afI (.ref P2.objs.size) >>= _) _ _ _
  refine acA (ad9 oS rfl ?_)
  show ac0 _ A.in1 (tryCatch (afW (.ref s.heap.objs.size)) _ >>= _) _ _ _
  refine acA (ad0 (W.item 0 _ _ _ hn dS fun v h2 tk pv dW kp => ?_))
  have bY := kp _ _ nS oS
  show ac0 _ A.in1 (aib P2.objs.size (fun _ => #[v, v]) >>= _) _ _ _
  refine acA ?_
  refine aeG bY rfl ?_
  rw [nm]
  refine acD ⟨adT ad3 _, O4 W (CmpOf.ints_gt (ahX xs) (fun _ _ => aiM)) gY ((aed xs).size - 1) 0 _ v _ (by walk_at "om") (W.frame _ _ _ dW fun b hf o q => ?_) pv (adB _ bY rfl) fun v2 h3 si p3 k3 => ?_⟩
  ·exact (acM _ _ (fun z : P2.objs.size = b => gY (by rw [z]; exact hf))).trans q
  ·refine h1 hp v2 h3 si (by simpa [aed] using p3) fun b o q => ?_
   exact k3 b o (up b o q).2.1 (up b o q).1 ((acM _ _ (adV (up b o q).1)).trans (kp b o (up b o q).2.1 (up b o q).2.2))
theorem O7 {prog : ac2} {w : adw} {A : adD} {R : ahp -> acF -> Prop} {I S : acJ} {fp wr : List acJ} {n : Nat} {P : Nat -> acC -> Prop} {St : Nat -> aer -> Prop} {bt : Nat -> Nat -> Bool} {kw : List (Str × acC)}
 (W : Walks prog w A.in1 I fp wr n P St) (lW : CmpOf prog w A.in1 .Lt P bt) (hS : S ∉ fp) : ∀ (k j : Nat) (s : acF) (vb : acC) (c : Nat), k + (j + 1) = n -> St (j + 1) s.heap -> P (ae1 bt j) vb ->
  s.heap.get? S = some { cls := .type "list", dict := none, data := .seq #[vb, vb] c, slots := #[] } ->
  (∀ v h' tk, P (ae1 bt (n - 1)) v -> (∀ b o, b ∉ wr -> b ≠ S -> s.heap.get? b = some o -> h'.get? b = some o) -> R (.ok (.ret v)) { s with heap := h', toks := tk }) ->
  afi (model prog w) A (.builtin "min.loop" ⟨[.ref I, .none, .ref S], kw⟩) R s := by
 have nS : S ∉ wr := fun z => hS (W.sub _ z)
 have nm : (toString "min" ++ toString ".loop" : String) = "min.loop" := by decide
 intro k
 induction k with
 | zero =>
  intro j s vb c e st pb oS fin
  have e' : j + 1 = n := by walk_at "om"
  refine ads aef ?_
  rw [ada adm _]
  show ac0 _ A.in1 (afI (.ref S) >>= _) _ _ s
  refine acA (ad9 oS rfl ?_)
  show ac0 _ A.in1 (tryCatch (afW (.ref I)) _ >>= _) _ _ s
  refine acA (ad0 (W.done s _ _ (e' ▸ st) fun h1 tk kp => ?_))
  have bY := kp S _ nS oS
  show ac0 _ A.in1 (aib S (fun _ => #[]) >>= _) _ _ _
  refine acA ?_
  refine aeG bY rfl (acA (aew (acD ?_)))
  exact fin vb _ tk (by rw [<- e']; exact pb) fun b o hw hb q => (acM _ _ (adV hb)).trans (kp b o hw q)
 | succ k ih =>
  intro j s vb c e st pb oS fin
  have lt : j + 1 < n := by walk_at "om"
  refine ads aef ?_
  rw [ada adm _]
  show ac0 _ A.in1 (afI (.ref S) >>= _) _ _ s
  refine acA (ad9 oS rfl ?_)
  show ac0 _ A.in1 (tryCatch (afW (.ref I)) _ >>= _) _ _ s
  refine acA (ad0 (W.item (j + 1) s _ _ lt st fun v h1 tk pv dW kp => ?_))
  have bY := kp S _ nS oS
  show ac0 _ A.in1 (tryCatch (holding [v, v] (afw .Lt v vb >>= _)) _ >>= _) _ _ _
  refine acA (ad0 (adK (acA (lW (j + 1) (ae1 bt j) v vb _ _ _ pv pb ?_))))
  refine acA (adK (adF ?_))
  refine acA (aew (acD ?_))
  cases hb : bt (j + 1) (ae1 bt j) with
  | true =>
   simp only [if_true]
   refine acA ?_
   refine aeG bY rfl (acA (aew ?_))
   rw [nm]
   refine acD ⟨adT adm _, ih (j + 1) _ v _ (by walk_at "om") (W.frame _ _ _ dW fun b hf o q => ?_) (by simp only [ae1, hb, if_true]; exact pv) (adB _ bY rfl) fun v2 h2 fK p2 k2 => ?_⟩
   ·exact (acM _ _ (fun z : S = b => hS (by rw [z]; exact hf))).trans q
   ·exact fin v2 h2 fK p2 fun b o hw cY q => k2 b o hw cY ((acM _ _ (adV cY)).trans (kp b o hw q))
  | false =>
   simp only [acP, if_false]
   refine acA (aew ?_)
   rw [nm]
   refine acD ⟨adT adm _, ih (j + 1) _ vb c (by walk_at "om") dW (by simp only [ae1, hb, acP, if_false]; exact pb) bY fun v2 h2 fK p2 k2 => ?_⟩
   exact fin v2 h2 fK p2 fun b o hw cY q => k2 b o hw cY (kp b o hw q)
theorem O8 (a d : acC) : aiB "min" ⟨[a], [("default", d)]⟩ := by unfold aiB; kernel_rfl
theorem O9 {prog : ac2} {w : adw} {A : adD} {E : acC -> acF -> Prop} {s : acF} {l : acJ} {xs : Array (Int × Tok)} {d : acC} {Q : acC -> acF -> Prop} (hh : A.handled = none) (hl : s.heap.IsList l (aed xs))
 (h0 : xs.size = 0 -> ∀ h' tk, (∀ b o, s.heap.get? b = some o -> h'.get? b = some o) -> Q d { s with heap := h', toks := tk })
 (h1 : 0 < xs.size -> ∀ v h' tk, (aed xs)[ae1 (fun i j => decide (ahX xs i < ahX xs j)) (xs.size - 1)]? = some v -> (∀ b o, s.heap.get? b = some o -> h'.get? b = some o) -> Q v { s with heap := h', toks := tk }) :
 ac0 (model prog w) A (call (.builtin "min") [.ref l] [("default", d)]) Q E s := by
 have nm : (toString "min" ++ toString ".loop" : String) = "min.loop" := by decide
 refine HN ajx ajc ajd (O8 _ _) ?_
 show ac0 _ A.in1 (ad6 "min" ["key", "default"] 0 ⟨[], [("default", d)]⟩ >>= _) _ _ s
 refine acA (agZ (show ad6 "min" ["key", "default"] 0 ⟨[], [("default", d)]⟩ = pure [none, some d] from rfl) ?_)
 refine acA (acD ?_)
 refine acA (iter_intList hl fun s2 e2 st cM AS => ?_)
 subst e2
 refine acA (adN ?_)
 have W := Walks.list (prog := prog) (w := w) (A := A.in1) hh s.heap.objs.size l AS (aed xs)
 generalize eP : (s.heap.push { cls := .type "list_iterator", data := .fields #[.ref l, .int 0 0] }) = P2 at st cM ⊢
 have gY : P2.objs.size ∉ [s.heap.objs.size, l] := fun z => aec _ (cM _ z)
 have up : ∀ b o, s.heap.get? b = some o -> b ≠ P2.objs.size /\ b ∉ [s.heap.objs.size] /\ (P2.push { cls := .type "list", dict := none, data := .seq ([] : List acC).toArray }).get? b = some o := fun b o q => by
  have lt := acK q
  have q2 : P2.get? b = some o := by rw [<- eP]; exact acE _ q
  refine ⟨ade (acK q2), fun z => ?_, acE _ q2⟩
  have : b = s.heap.objs.size := by simpa using z
  walk_at "om"
 rw [nm]
 refine acD ⟨adT adm _, ?_⟩
 have oS : (P2.push { cls := .type "list", dict := none, data := .seq ([] : List acC).toArray }).get? P2.objs.size = some { cls := .type "list", dict := none, data := .seq #[] 0, slots := #[] } := acT _ rfl
 have dS := W.frame 0 P2 (P2.push { cls := .type "list", dict := none, data := .seq ([] : List acC).toArray }) st fun b _ o q => acE _ q
 have nS : P2.objs.size ∉ [s.heap.objs.size] := fun z => gY (by simp at z; simp [z])
 by_cases hz : xs.size = 0
 ·have sf : (P2.push { cls := .type "list", dict := none, data := .seq ([] : List acC).toArray }).IsListIter s.heap.objs.size l (aed xs).size /\ (P2.push { cls := .type "list", dict := none, data := .seq ([] : List acC).toArray }).IsList l (aed xs) := by
   have : (aed xs).size = 0 := by simpa [aed] using hz
   rw [this]; exact dS
  refine ads aef ?_
  rw [ada adm _]
  show ac0 _ A.in1 (afI (.ref P2.objs.size) >>= _) _ _ _
  refine acA (ad9 oS rfl ?_)
  show ac0 _ A.in1 (tryCatch (afW (.ref s.heap.objs.size)) _ >>= _) _ _ _
  refine acA (ad0 (W.done _ _ _ sf fun h2 tk kp => ?_))
  refine acA (agw (acD ?_))
  exact h0 hz h2 tk fun b o q => kp b o (up b o q).2.1 (up b o q).2.2
 ·have hp : 0 < xs.size := by walk_at "om"
  have hn : 0 < (aed xs).size := by simpa [aed] using hp
  refine ads aef ?_
  rw [ada adm _]
  show ac0 _ A.in1 (afI (.ref P2.objs.size) >>= _) _ _ _
  refine acA (ad9 oS rfl ?_)
  show ac0 _ A.in1 (tryCatch (afW (.ref s.heap.objs.size)) _ >>= _) _ _ _
  refine acA (ad0 (W.item 0 _ _ _ hn dS fun v h2 tk pv dW kp => ?_))
  have bY := kp _ _ nS oS
  show ac0 _ A.in1 (aib P2.objs.size (fun _ => #[v, v]) >>= _) _ _ _
  refine acA ?_
  refine aeG bY rfl ?_
  rw [nm]
  refine acD ⟨adT adm _, O7 W (CmpOf.ints_lt (ahX xs) (fun _ _ => aiM)) gY ((aed xs).size - 1) 0 _ v _ (by walk_at "om") (W.frame _ _ _ dW fun b hf o q => ?_) pv (adB _ bY rfl) fun v2 h3 si p3 k3 => ?_⟩
  ·exact (acM _ _ (fun z : P2.objs.size = b => gY (by rw [z]; exact hf))).trans q
  ·refine h1 hp v2 h3 si (by simpa [aed] using p3) fun b o q => ?_
   exact k3 b o (up b o q).2.1 (up b o q).1 ((acM _ _ (adV (up b o q).1)).trans (kp b o (up b o q).2.1 (up b o q).2.2))
noncomputable def jo : List Int -> Int
 | [] => 0
 | x :: r => r.foldl (fun b y => if y > b then y else b) x
noncomputable def jq : List Int -> Int
 | [] => 0
 | x :: r => r.foldl (fun b y => if y < b then y else b) x
theorem HP : ∀ (r : List Int) (b : Int), b <= r.foldl (fun b y => if y > b then y else b) b /\ (∀ y ∈ r, y <= r.foldl (fun b y => if y > b then y else b) b) /\ (r.foldl (fun b y => if y > b then y else b) b = b ∨ r.foldl (fun b y => if y > b then y else b) b ∈ r)
 | [], b => ⟨ahF _, fun _ z => (nomatch z), .inl rfl⟩
 | x :: r, b => by
  simp only [aic]
  obtain ⟨h1, h2, h3⟩ := HP r (if x > b then x else b)
  refine ⟨?_, fun y hy => ?_, ?_⟩
  ·refine aid ?_ h1; split <;> omega
  ·rcases acN.mp hy with rfl | hy
   ·refine aid ?_ h1; split <;> omega
   ·exact h2 y hy
  ·rcases h3 with h3 | h3
   ·rw [h3]; split
    ·right; simp
    ·left; rfl
   ·right; exact ac5 _ h3
theorem HQ : ∀ (r : List Int) (b : Int), r.foldl (fun b y => if y < b then y else b) b <= b /\ (∀ y ∈ r, r.foldl (fun b y => if y < b then y else b) b <= y) /\ (r.foldl (fun b y => if y < b then y else b) b = b ∨ r.foldl (fun b y => if y < b then y else b) b ∈ r)
 | [], b => ⟨ahF _, fun _ z => (nomatch z), .inl rfl⟩
 | x :: r, b => by
  simp only [aic]
  obtain ⟨h1, h2, h3⟩ := HQ r (if x < b then x else b)
  refine ⟨?_, fun y hy => ?_, ?_⟩
  ·refine aid h1 ?_; split <;> omega
  ·rcases acN.mp hy with rfl | hy
   ·refine aid h1 ?_; split <;> omega
   ·exact h2 y hy
  ·rcases h3 with h3 | h3
   ·rw [h3]; split
    ·right; simp
    ·left; rfl
   ·right; exact ac5 _ h3
theorem Pb {ns : List Int} (h : ns ≠ []) : jo ns ∈ ns /\ ∀ y ∈ ns, y <= jo ns := by
 cases ns with
 | nil => exact absurd rfl h
 | cons x r =>
  obtain ⟨h1, h2, h3⟩ := HP r x
  refine ⟨?_, fun y hy => ?_⟩
  ·rcases h3 with h3 | h3
   ·show r.foldl _ x ∈ _
    rw [h3]; exact .head _
   ·exact .tail _ h3
  ·rcases acN.mp hy with rfl | hy
   ·exact h1
   ·exact h2 y hy
theorem Pc {ns : List Int} (h : ns ≠ []) : jq ns ∈ ns /\ ∀ y ∈ ns, jq ns <= y := by
 cases ns with
 | nil => exact absurd rfl h
 | cons x r =>
  obtain ⟨h1, h2, h3⟩ := HQ r x
  refine ⟨?_, fun y hy => ?_⟩
  ·rcases h3 with h3 | h3
   ·show r.foldl _ x ∈ _
    rw [h3]; exact .head _
   ·exact .tail _ h3
  ·rcases acN.mp hy with rfl | hy
   ·exact h1
   ·exact h2 y hy
theorem AU : ∀ {ns : List Int} {af : List acC}, Vals (ns.map V.int) af -> ∃ xs : Array (Int × Tok), af.toArray = aed xs /\ xs.toList.map (·.1) = ns
 | [], _, .nil => ⟨#[], by simp [aed], rfl⟩
 | n :: ns, _, .cons (l₂ := af) r t => by
  obtain ⟨xs, e1, e2⟩ := AU (ns := ns) t
  obtain ⟨tk, rfl⟩ := r
  refine ⟨((n, tk) :: xs.toList).toArray, ?_, ?_⟩
  ·have : af = xs.toList.map (fun p => Value.int p.1 p.2) := by
    have := congrArg ajp e1
    simpa [aed] using this
   simp [aed, this]
  ·simp [e2]
theorem HR {xs : Array (Int × Tok)} {ns : List Int} (e : xs.toList.map (·.1) = ns) {i : Nat} (hi : i < xs.size) : ahX xs i ∈ ns /\ ahX xs i = ns.getD i 0 := by
 subst e
 unfold ahX
 rw [adL hi]
 refine ⟨acQ.mpr ⟨xs[i], by simp, rfl⟩, ?_⟩
 simp [hi]
theorem HS {xs : Array (Int × Tok)} {ns : List Int} (e : xs.toList.map (·.1) = ns) {y : Int} (hy : y ∈ ns) : ∃ i, i < xs.size /\ ahX xs i = y := by
 subst e
 obtain ⟨p, hp, rfl⟩ := acQ.mp hy
 obtain ⟨i, hi, e⟩ := List.mem_iff_getElem.mp hp
 refine ⟨i, by simpa using hi, ?_⟩
 unfold ahX
 have bf : i < xs.size := by simpa using hi
 rw [adL bf]
 have : xs[i] = p := by simpa using e
 rw [this]; rfl
theorem Pd {xs : Array (Int × Tok)} {ns : List Int} (e : xs.toList.map (·.1) = ns) (h : 0 < xs.size) : ahX xs (ae1 (fun i j => decide (ahX xs i > ahX xs j)) (xs.size - 1)) = jo ns := by
 obtain ⟨h1, h2⟩ := argBest_gt (ahX xs) (xs.size - 1)
 have eS : ns ≠ [] := by
  intro z; subst z
  have q := congrArg List.length e
  rw [acI, afs, afk] at q
  omega
 obtain ⟨m1, m2⟩ := Pb eS
 refine aie (m2 _ (HR e (by omega)).1) ?_
 obtain ⟨i, hi, ei⟩ := HS e m1
 rw [<- ei]; exact h2 i (by omega)
theorem Pe {xs : Array (Int × Tok)} {ns : List Int} (e : xs.toList.map (·.1) = ns) (h : 0 < xs.size) : ahX xs (ae1 (fun i j => decide (ahX xs i < ahX xs j)) (xs.size - 1)) = jq ns := by
 obtain ⟨h1, h2⟩ := argBest_lt (ahX xs) (xs.size - 1)
 have eS : ns ≠ [] := by
  intro z; subst z
  have q := congrArg List.length e
  rw [acI, afs, afk] at q
  omega
 obtain ⟨m1, m2⟩ := Pc eS
 refine aie ?_ (m2 _ (HR e (by omega)).1)
 obtain ⟨i, hi, ei⟩ := HS e m1
 rw [<- ei]; exact h2 i (by omega)
noncomputable def AV (R : V -> Hp -> Prop) : List V -> Hp -> Prop
 | [x], H => R x H
 | _, _ => False
theorem HU {R : V -> Hp -> Prop} : ∀ {vs : List V} {H : Hp}, AV R vs H -> ∃ x, vs = [x] /\ R x H
 | [x], _, h => ⟨x, rfl, h⟩
section
variable {X : Cx} {e d : ae4} {te td : TE} {p pos kp : Pos}
noncomputable def jr (f : List Int -> Int) : List Int -> V -> V
 | [], y => y
 | n :: ns, _ => .int (f (n :: ns))
theorem HV {f : List Int -> Int} {ns : List Int} {y : V} (h : ns ≠ []) : jr f ns y = .int (f ns) := by
 cases ns with
 | nil => exact absurd rfl h
 | cons _ _ => rfl
noncomputable def nZ (K : acB) (f : List Int -> Int) (te td : TE) : TE := fun σ H Q => te σ H fun x H1 => td σ H1 fun y H2 => ∃ a ns, x = .ref a /\ ag K H2 a (ns.map V.int) /\ Q (jr f ns y) H2
theorem Pf (hc : X.calm = true) (hg : Gl X "max") (hm : X.mg "max" = none) (he : PE X e te) (hd : PE X d td)
 (hs : adv [e] X.env = (false, eval e X.env) :: adv [] X.env := by rfl) (hq : afV pos (adv [e] X.env) = (false, eval e X.env) :: afV pos (adv [] X.env) := by rfl) :
 PE X (.Call (.Name "max" p) [e] [⟨some "default", d, kp⟩] pos) (nZ X.K jo te td) := by
 intro pins s σ H Q I h
 refine aeu (fY I hg hm AI ?_ (by decide))
 refine callWith_kw (au ((aa he ah hs) pos pins s σ H (AV fun x H1 => td σ H1 fun y H2 => ∃ (a : acJ) (ns : List Int), x = .ref a /\ ag X.K H2 a (ns.map V.int) /\ Q (jr jo ns y) H2) I h) fun us s1 ⟨vs, H1, I1, r, q⟩ => ?_) hq (by rw [hs]; rfl)
 ·obtain ⟨x, rfl, q⟩ := HU q
  obtain ⟨u, rfl, ru⟩ := vals1 r
  refine kws_cons (au (hd pins s1 σ H1 _ I1 q) fun w s2 ⟨y, H2, I2, ry, a, ns, ex, hS, q1⟩ => kws_nil ?_)
  subst ex
  cases ru
  obtain ⟨af, rv, hp, _⟩ := I2.list hS
  obtain ⟨xs, e1, e2⟩ := AU rv
  obtain ⟨o, n, ho, cN, _, hdt⟩ := hp
  have hl : s2.heap.IsList a (aed xs) := ⟨o, ho, cN, n, by rw [hdt, e1]⟩
  have len : xs.size = ns.length := by rw [<- e2, acI]; simp
  show ac0 _ X.A (call (.builtin "max") [.ref a] [("default", w)]) _ _ s2
  refine O6 (I2.ok.hd hc) hl (fun hz h' tk hk => ⟨y, H2, I2.kept hk, ry, ?_⟩) fun hp v h' tk hv hk => ⟨.int (jo ns), H2, I2.kept hk, ?_, ?_⟩
  ·have z : ns = [] := aeO.mp (by walk_at "om")
   rw [z] at q1
   exact q1
  ·obtain ⟨t, rfl⟩ := aiM hv
   exact ⟨t, by rw [Pd e2 hp]⟩
  ·rw [HV (fun z => by subst z; rw [afk] at len; omega)] at q1
   exact q1
theorem Pg (hc : X.calm = true) (hg : Gl X "min") (hm : X.mg "min" = none) (he : PE X e te) (hd : PE X d td)
 (hs : adv [e] X.env = (false, eval e X.env) :: adv [] X.env := by rfl) (hq : afV pos (adv [e] X.env) = (false, eval e X.env) :: afV pos (adv [] X.env) := by rfl) :
 PE X (.Call (.Name "min" p) [e] [⟨some "default", d, kp⟩] pos) (nZ X.K jq te td) := by
 intro pins s σ H Q I h
 refine aeu (fY I hg hm lQ ?_ (by decide))
 refine callWith_kw (au ((aa he ah hs) pos pins s σ H (AV fun x H1 => td σ H1 fun y H2 => ∃ (a : acJ) (ns : List Int), x = .ref a /\ ag X.K H2 a (ns.map V.int) /\ Q (jr jq ns y) H2) I h) fun us s1 ⟨vs, H1, I1, r, q⟩ => ?_) hq (by rw [hs]; rfl)
 ·obtain ⟨x, rfl, q⟩ := HU q
  obtain ⟨u, rfl, ru⟩ := vals1 r
  refine kws_cons (au (hd pins s1 σ H1 _ I1 q) fun w s2 ⟨y, H2, I2, ry, a, ns, ex, hS, q1⟩ => kws_nil ?_)
  subst ex
  cases ru
  obtain ⟨af, rv, hp, _⟩ := I2.list hS
  obtain ⟨xs, e1, e2⟩ := AU rv
  obtain ⟨o, n, ho, cN, _, hdt⟩ := hp
  have hl : s2.heap.IsList a (aed xs) := ⟨o, ho, cN, n, by rw [hdt, e1]⟩
  have len : xs.size = ns.length := by rw [<- e2, acI]; simp
  show ac0 _ X.A (call (.builtin "min") [.ref a] [("default", w)]) _ _ s2
  refine O9 (I2.ok.hd hc) hl (fun hz h' tk hk => ⟨y, H2, I2.kept hk, ry, ?_⟩) fun hp v h' tk hv hk => ⟨.int (jq ns), H2, I2.kept hk, ?_, ?_⟩
  ·have z : ns = [] := aeO.mp (by walk_at "om")
   rw [z] at q1
   exact q1
  ·obtain ⟨t, rfl⟩ := aiM hv
   exact ⟨t, by rw [Pe e2 hp]⟩
  ·rw [HV (fun z => by subst z; rw [afk] at len; omega)] at q1
   exact q1
end
end Gz
namespace Gz
open PySem PySem.Spec PyProof.Rows L2
local macro_rules | `(tactic| walk_at "om") => `(tactic| ((try simp only [PySem.Addr] at *); omega))
theorem HW : ∀ {a b : List Int}, HT.lexLt a b = true -> HT.lexLt b a = false
 | [], [], h => by cases h
 | [], _ :: _, _ => rfl
 | _ :: _, [], h => by cases h
 | x :: a, y :: b, h => by
  rw [HT.lL] at h ⊢
  by_cases e : x = y
  ·subst e
   rw [if_pos rfl] at h ⊢
   exact HW h
  ·rw [if_neg e] at h
   rw [if_neg (adV e)]
   have : x < y := by simpa using h
   simpa using (by walk_at "om" : ¬ y < x)
theorem HX : ∀ {a b c : List Int}, HT.lexLt b a = false -> HT.lexLt c b = false -> HT.lexLt c a = false
 | [], [], [], _, _ => rfl
 | [], [], _ :: _, _, _ => rfl
 | [], _ :: _, [], _, h => by cases h
 | [], _ :: _, _ :: _, _, _ => rfl
 | _ :: _, [], _, h, _ => by cases h
 | _ :: _, _ :: _, [], _, h => by cases h
 | x :: a, y :: b, z :: c, h1, h2 => by
  rw [HT.lL] at h1 h2 ⊢
  by_cases e1 : y = x
  ·subst e1
   rw [if_pos rfl] at h1
   by_cases e2 : z = y
   ·subst e2
    rw [if_pos rfl] at h2 ⊢
    exact HX h1 h2
   ·rw [if_neg e2] at h2 ⊢
    exact h2
  ·rw [if_neg e1] at h1
   have HY : ¬ y < x := by simpa using h1
   by_cases e2 : z = y
   ·subst e2
    rw [if_neg e1]; exact h1
   ·rw [if_neg e2] at h2
    have sj : ¬ z < y := by simpa using h2
    rw [if_neg (by walk_at "om")]
    simpa using (by walk_at "om" : ¬ z < x)
section
variable {prog : ac2} {w : adw} {A : adD} {E : acC -> acF -> Prop} {s : acF}
theorem Ph {a b : Int} {t u : Tok} {Q : Bool -> acF -> Prop} (h : Q (a == b) s) : ac0 (model prog w) A (eqBool (.int a t) (.int b u)) Q E s := SeqAt.EqAt.int_int a t b u prog w E Q h
theorem Pj {b fin : Bool} {Q : Bool -> acF -> Prop} : ∀ {ns ms : List Int} {us ws : List acC} {i : Nat}, afP us ns -> afP ws ms -> fin = decide (ns.length < ms.length) -> Q (HT.lexLt ns ms) s -> PySem.W.KatLex prog w A b fin Q (us.zip ws) i s := by
 intro ns
 induction ns with
 | nil =>
  intro ms us ws i r q e h
  cases r
  cases q with
  | nil => subst e; exact h
  | cons => subst e; exact h
 | cons n ns ih =>
  intro ms us ws i r q e h
  cases r with
  | cons _ t r =>
   cases q with
   | nil => subst e; exact h
   | cons m t' q =>
    rw [List.zip_cons_cons]
    refine PySem.W.kat_cons (Ph (PySem.W.kat_go (fun hh => PySem.W.kat_yes ?_) fun hh => PySem.W.kat_no ?_))
    ·have e1 : n = m := by simpa using hh
     subst e1
     rw [HT.lL, if_pos rfl] at h
     exact ih r q (by subst e; simp) h
    ·have e1 : n ≠ m := by simpa using hh
     rw [HT.lL, if_neg e1] at h
     cases (b && i == 0) with
     | true => exact oneLt_int h
     | false => exact PySem.W.kat_one _ _ (lt_int h)
end
noncomputable def HZ (sp : Sp) : List V -> List V -> Hp -> (List V -> Hp -> Prop) -> Prop
 | [], ks, H, Q => Q ks H
 | x :: r, ks, H, Q => sp [x] H (fun k H1 => HZ sp r (ks ++ [k]) H1 Q) E0
noncomputable def cQ (K : acB) (H : Hp) : List V -> List (List Int) -> Prop
 | [], [] => True
 | k :: ks, n :: ns => (∃ p, k = .ref p /\ az K H p (n.map V.int) /\ n ≠ []) /\ cQ K H ks ns
 | _, _ => False
theorem cQ.len {K : acB} {H : Hp} : ∀ {ks : List V} {ns : List (List Int)}, cQ K H ks ns -> ks.length = ns.length
 | [], [], _ => rfl
 | _ :: _, _ :: _, h => by simp [cQ.len h.2]
 | [], _ :: _, h => h.elim
 | _ :: _, [], h => h.elim
theorem cQ.get {K : acB} {H : Hp} : ∀ {ks : List V} {ns : List (List Int)} {i : Nat} {k : V}, cQ K H ks ns -> ks[i]? = some k -> ∃ p, k = .ref p /\ az K H p ((ns.getD i []).map V.int)
 | [], [], _, _, _, e => by simp at e
 | k :: _, n :: _, 0, _, h, e => by
  simp at e; subst e
  obtain ⟨⟨p, a, b, _⟩, _⟩ := h
  exact ⟨p, a, b⟩
 | _ :: _, _ :: _, i + 1, _, h, e => by
  have := cQ.get (i := i) h.2 (by simpa using e)
  simpa using this
 | [], _ :: _, _, _, h, _ => h.elim
 | _ :: _, [], _, _, h, _ => h.elim
section
variable {X : Cx} {pins : List (acJ × Obj)} {σ : L2.St} {H : Hp} {s : acF}
theorem cQ.cH (I : Inv X pins σ H s) : ∀ {ks : List V} {ns : List (List Int)} {us : List acC}, cQ X.K H ks ns -> Vals ks us -> ∃ fs, ajT s.heap us fs /\ fs.length = us.length /\ ∀ v ∈ fs, ∃ i t, v = .int i t
 | [], [], _, _, .nil => ⟨[], trivial, rfl, fun _ z => (nomatch z)⟩
 | k :: ks, n :: ns, _, h, .cons r rs => by
  obtain ⟨⟨p, rfl, hp, hn⟩, h⟩ := h
  cases r
  obtain ⟨fs, a, b, c⟩ := cQ.cH I h rs
  obtain ⟨af, rv, ⟨o, ho, hc, m, hd⟩, _⟩ := I.tuple hp
  cases n with
  | nil => exact absurd rfl hn
  | cons z zs =>
   cases rv with
   | cons r1 r2 =>
    obtain ⟨t, rfl⟩ := r1
    refine ⟨.int z t :: fs, PySem.W.KatTups.cons ho hc hd (by simp) a, by simp [b], fun v hv => ?_⟩
    rcases acN.mp hv with rfl | hv
    ·exact ⟨_, _, rfl⟩
    ·exact c v hv
 | [], _ :: _, _, h, _ => h.elim
 | _ :: _, [], _, h, _ => h.elim
noncomputable def bG (kis : List (List Int)) (i j : Nat) : Bool := HT.lexLt (kis.getD i []) (kis.getD j [])
theorem jt (kis : List (List Int)) : Ord (bG kis) := ⟨fun h => HW h, fun h1 h2 => HX h1 h2⟩
noncomputable def bL {α : Type} (kis : List (List Int)) (d : α) (as : List α) : List α := (br (bG kis) as.length).toList.map fun i => as.getD i d
theorem ju {α : Type} {kis : List (List Int)} {d : α} {as : List α} : (bL kis d as).Perm as := by
 have h := (nY (n := as.length) (jt kis)).1
 have q := h.map (fun i => as.getD i d)
 have self : (adh as.length).map (fun i => as.getD i d) = as := by
  apply af7
  ·simp
  ·intro i h1 h2
   simp [acH, h2]
 rw [self] at q
 exact q
theorem sk {α : Type} {kis : List (List Int)} {d : α} {as : List α} : (bL kis d as).length = as.length := ju.length_eq
theorem vU {α : Type} {kis : List (List Int)} {d : α} {as : List α} {f : α -> List Int} (hk : kis = as.map f) : (bL kis d as).Pairwise (fun a b => HT.lexLt (f b) (f a) = false) := by
 obtain ⟨hp, hs⟩ := nY (n := as.length) (jt kis)
 have sz := hp.size
 unfold bL
 rw [aht]
 refine ad1.mpr fun i j hi hj eR => ?_
 have bf : i < (br (bG kis) as.length).size := by simpa using hi
 have AW : j < (br (bG kis) as.length).size := by simpa using hj
 have q := hs i j (by omega) (by omega)
 have e1 : (br (bG kis) as.length).getD i 0 = (br (bG kis) as.length)[i] := by simp [Array.getD, bf]
 have e2 : (br (bG kis) as.length).getD j 0 = (br (bG kis) as.length)[j] := by simp [Array.getD, AW]
 have l1 := bK.below hp (i := i) (by omega)
 have l2 := bK.below hp (i := j) (by omega)
 rw [e1, e2] at q
 rw [e1] at l1
 rw [e2] at l2
 have q2 : HT.lexLt (kis.getD (br (bG kis) as.length)[j] []) (kis.getD (br (bG kis) as.length)[i] []) = false := q
 have g : ∀ k, k < as.length -> kis.getD k [] = f (as.getD k d) := fun k gh => by
  subst hk
  simp [acH, gh]
 simp only [Array.getElem_toList]
 rw [g _ l1, g _ l2] at q2
 exact q2
theorem Pk {xs : List V} {vs : List acC} {kis : List (List Int)} (r : Vals xs vs) : Vals (bL kis .non xs) ((br (bG kis) xs.length).toList.map fun i => vs.getD i Value.none) := by
 have hp := (nY (n := xs.length) (jt kis)).1
 have gen : ∀ l : List Nat, (∀ i ∈ l, i < xs.length) -> Vals (l.map fun i => xs.getD i .non) (l.map fun i => vs.getD i Value.none) := by
  intro l
  induction l with
  | nil => intro _; exact .nil
  | cons i l ih =>
   intro h
   have hi := h i (.head _)
   refine .cons ?_ (ih fun j hj => h j (.tail _ hj))
   have e : xs[i]? = some xs[i] := acG hi
   obtain ⟨u, eu, ru⟩ := r.get e
   show RelV (xs.getD i .non) (vs.getD i Value.none)
   rw [acH, acH, eu, e]
   exact ru
 exact gen _ fun i hi => by simpa using hp.mem_iff.mp hi
end
section
variable {X : Cx} {pins : List (acJ × Obj)} {σ : L2.St} {H : Hp} {s : acF} {CX : dv} {k : Nat} {fa a : acJ} {fd : adg} {y : Str} {sp : Sp} {xs : List V} {Q : VK}
noncomputable def Pl (K : acB) (sp : Sp) (x : V) (H1 : Hp) (Q : VK) : Prop := ∃ (a : acJ) (xs : List V), x = .ref a /\ ag K H1 a xs /\ xs.length < 64 /\ HZ sp xs [] H1 fun ks H2 => ∃ kis, cQ K H2 ks kis /\ ∀ l, H2 l = none -> Q (.ref l) (upd H2 l (.lst (bL kis .non xs)))
noncomputable def vV (K : acB) (sp : Sp) (te : TE) : TE := fun σ H Q => te σ H fun x H1 => Pl K sp x H1 Q
end
end Gz
namespace Gz
open PySem PySem.Spec PyProof.Rows L2
local macro_rules | `(tactic| walk_at "om") => `(tactic| ((try simp only [PySem.Addr] at *); omega))
inductive gZ (X : Cx) (scope : agN) (cl : List (Str × acJ)) : List Nat -> List Str -> Prop where
 | nil : gZ X scope cl [] []
 | cons {j : Nat} {y : Str} {c : acJ} {js : List Nat} {ys : List Str} (hN : X.N[j]? = some y) (hk : X.env.kindOf y = some .cell) (h1 : cl.lookup y = some c) (h2 : X.env.cells.lookup y = some c) (h : gZ X scope cl js ys) : gZ X scope cl (j :: js) (y :: ys)
inductive jv (X : Cx) : List (Str × acJ) -> Prop where
 | nil : jv X []
 | cons {n : Str} {a : acJ} {r : List (Str × acJ)} (h : X.env.cells.lookup n = some a) (t : jv X r) : jv X ((n, a) :: r)
theorem jv.get {X : Cx} : ∀ {cl : List (Str × acJ)}, jv X cl -> ∀ y c, cl.lookup y = some c -> X.env.cells.lookup y = some c
 | _, .nil, y, c, e => by simp at e
 | _, .cons (n := n) h t, y, c, e => by
  rw [aex] at e
  by_cases hy : (y == n) = true
  ·rw [hy] at e
   have e1 : y = n := by simpa using hy
   cases e
   rw [e1]; exact h
  ·rw [ahu.mpr hy] at e
   exact t.get y c e
theorem gZ.get {X : Cx} {scope : agN} {cl : List (Str × acJ)} {σ : L2.St} : ∀ {js : List Nat} {ys : List Str}, gZ X scope cl js ys -> ∀ (i : Nat) (y : Str) (v : V), ys[i]? = some y -> (js.map fun j => (σ[j]?).join)[i]? = some (some v) ->
 ∃ (j : Nat) (c : acJ), X.N[j]? = some y /\ σ[j]? = some (some v) /\ X.env.kindOf y = some .cell /\ cl.lookup y = some c /\ X.env.cells.lookup y = some c
 | _, _, .nil, i, y, v, e, _ => by simp at e
 | _, _, .cons (j := j) hN hk h1 h2 h, 0, y, v, e, q => by
  simp at e q
  subst e
  refine ⟨j, _, hN, ?_, hk, h1, h2⟩
  cases z : σ[j]? with
  | none => rw [z] at q; simp at q
  | some o => rw [z] at q; simp at q; rw [q]
 | _, _, .cons hN hk h1 h2 h, i + 1, y, v, e, q => by
  simp only [aee, ac7] at e q
  exact h.get i y v e q
theorem gZ.len {X : Cx} {scope : agN} {cl : List (Str × acJ)} : ∀ {js : List Nat} {ys : List Str}, gZ X scope cl js ys -> js.length = ys.length
 | _, _, .nil => rfl
 | _, _, .cons _ _ _ _ h => by simp [h.len]
noncomputable def bg (X : Cx) (N' : List Str) (scope : agN) (cl : List (Str × acJ)) (C : acJ) (s2 : acF) (H2 : Hp) (ex : List acJ) (pn : List (acJ × Obj)) : Cx :=
 { X with N := N', s₀ := s2, H₀ := H2, env := afg scope cl C X.env, outer := X.stack, ex := ex, fn := fun _ => false, pn := pn, xe := fun _ _ => False }
structure cE (X : Cx) (x : Str) (scope : agN) (cl : List (Str × acJ)) (fr : List Nat) (ys : List Str) : Prop where
 clos : ake scope X.env = pure cl
 nocell : (scope.names.all fun p => p.2 != .cell) = true
 kind : scope.kind = .function
 names : (scope.names.all fun p => p.2 != .local || scope.names.lookup p.1 == some .local) = true
 own : scope.names.lookup x = some .local
 kinds : ((relabel scope X.env).names.all fun p => (p.2 != .cell && p.2 != .free) || (cl.lookup p.1).isSome) = true
 cls : jv X cl
 aO : gZ X scope cl fr ys
 nd : (x :: ys).Nodup
 kfr : (ys.all fun y => (relabel scope X.env).names.lookup y == some .cell) = true
noncomputable def g8 (X : Cx) (ifs : List ae4) (t : TT) : Prop :=
 ∀ (pins : List (acJ × Obj)) (s : acF) (σ : L2.St) (H : Hp) (Q : Bool -> Hp -> Prop), Inv X pins σ H s -> t σ H Q ->
  ac0 (model X.prog X.w) X.A (forIn ifs true fun c r => if r = true then do let ok <- akb c X.env (eval c X.env); pure (ae2 ok) else pure (ae2 r)) (TP X pins σ Q) X.xe s
noncomputable def sm : TT := fun _ H Q => Q true H
theorem dX {X : Cx} : g8 X [] sm := fun _ _ _ H _ I h => wpAny_tests_nil ⟨H, I, h⟩
theorem jw {X : Cx} {c : ae4} {t : TT} (hc : PT X c t) : g8 X [c] t := fun pins s σ H Q I h => wpAny_tests_one (hc pins s σ H Q I h)
noncomputable def so (J : It) (ρ : L2.St) (tt : TT) (te : TE) (H : Hp) (Q : VK) : Prop := ∃ W : Nat -> Nat -> List V -> Hp -> Prop, (∃ m, W 0 m [] H) /\ ∀ i m ys H, W i m ys H ->
 (J.stop i H /\ ys.length <= adb /\ ∀ l, H l = none -> Q (.ref l) (upd H l (.lst ys))) ∨ (J.go i H /\ ys.length < adb /\ ∃ N : List V -> Hp -> Prop, (∀ zs H', N zs H' -> ∃ m', m' < m /\ W (i + 1) m' zs H') /\
  ∀ x H', J.yld i H x H' -> tt (some x :: ρ) H' fun b H1 => if b = true then te (some x :: ρ) H1 fun y H2 => N (ys ++ [y]) H2 else N ys H1)
noncomputable def lX (wi : TI) (fr : List Nat) (tt : TT) (te : TE) : TE := fun σ H Q => wi σ H fun J H1 => so J (fr.map fun j => (σ[j]?).join) tt te H1 Q
section
variable {X : Cx} {pins : List (acJ × Obj)} {σ : L2.St} {H2 : Hp} {s2 : acF} {x : Str} {px pos : Pos} {elt iter : ae4} {ifs : List ae4} {scope : agN} {cl : List (Str × acJ)} {fr : List Nat} {ys : List Str} {tt : TT} {te : TE}
theorem n3 {l : List (Str × ahE)} {p : Str × ahE -> Bool} (h : l.all p = true) {y : Str} {k : ahE} (e : l.lookup y = some k) : p (y, k) = true := by
 exact adk.mp h _ (aeZ e)
theorem Pm {C : acJ} {ex : List acJ} {pn : List (acJ × Obj)} (S : cE X x scope cl fr ys) (I2 : Inv X pins σ H2 s2) (f2 : ∀ b ∈ ex, cA X pins H2 b) (hC : s2.heap.objs.size <= C) (hex : ∀ b ∈ ex, b < s2.heap.objs.size) : (bg X (x :: ys) scope cl C s2 H2 ex pn).Ok := by
 refine ⟨I2.ok.mod, S.kind, I2.ok.glob, I2.ok.blt, hC, fun a b c h1 h2 => ?_, fun y hy => ?_, fun _ _ z => (nomatch z), I2.ok.hd, I2.ok.frames, .inl rfl, fun b hb => ⟨?_, fun y c e z => ?_⟩, I2.bs, acV I2.ok.bsz I2.sz, fun b o e hb => ?_, fun b hb z => ?_, I2.stack, I2.nq⟩
 ·exact I2.ok.inj a b c (S.cls.get a c h1) (S.cls.get b c h2)
 ·have sq : (relabel scope X.env).names.lookup y = some .cell ∨ (relabel scope X.env).names.lookup y = some .free := hy
  have q : (cl.lookup y).isSome = true := by
   rcases sq with e | e
   ·simpa using n3 S.kinds e
   ·simpa using n3 S.kinds e
  exact aeo.mp q
 ·exact ade (ac8 (hex b hb) hC)
 ·exact (f2 b hb).2.2.2.2.1 y c (S.cls.get y c e) z
 ·obtain ⟨_, _, _, d, _, _⟩ := f2 b hb
  rcases d with d | d
  ·exact I2.ok.noex b o e d
  ·exact absurd (ac8 (acK e) (acV I2.ok.bsz d)) (aec _)
 ·obtain ⟨_, d1, d2, _⟩ := f2 b hb
  rcases acN.mp (I2.dR b z) with q | q
  ·exact d1 q
  ·exact d2 q
theorem Ia {J : It} {fp : List acJ} {it : acJ} {tn : Nat -> aer -> Prop} {E : acC -> acF -> Prop} {Q : VK} {RR : acC -> acJ -> ahp -> acF -> Prop}
 (S : cE X x scope cl fr ys) (hc : X.calm = true)
 (hb : ∀ (C : acJ) (s : acF) (H : Hp) (ex : List acJ) (pn : List (acJ × Obj)), g8 (bg X (x :: ys) scope cl C s H ex pn) ifs tt /\ PE (bg X (x :: ys) scope cl C s H ex pn) elt te)
 (I2 : Inv X pins σ H2 s2) (T : Turn X.prog X.w X.K (.Name x px) J fp it tn) (cv : tn 0 s2.heap) (f2 : ∀ b ∈ fp, cA X pins H2 b)
 (h : so J (fr.map fun j => (σ[j]?).join) tt te H2 Q)
 (sr : ∀ D C s' H', Inv X pins σ H' s' -> (∃ m, s'.heap.Ns C m) -> cA X pins H' C -> Q (.ref D) H' -> RR (.ref D) C (.ok .next) s') :
 ac0 (model X.prog X.w) X.A (aje []) (fun acc s3 => ac0 (model X.prog X.w) X.A (agA scope X.env.globals cl [] X.env.qual none .none (some X.env)) (fun jx s4 =>
  afi (model X.prog X.w) X.A (.compStart (.ListComp elt [⟨.Name x px, iter, ifs, 0⟩] scope pos) 0 (.ref it) acc { jx with scope := relabel scope X.env }) (RR acc jx.locals) s4) E s3) E s2 := by
 obtain ⟨W, ⟨m0, w0⟩, turn⟩ := h
 refine adN (aiw (fun y hy => by simpa using adk.mp S.nocell y hy) (fun y hy => absurd hy (by simp)) (fun h1 dN dg => ?_) S.kind)
 dsimp only at dN dg ⊢
 generalize eP : s2.heap.push { cls := .type "list", dict := none, data := .seq ([] : List acC).toArray } = P2 at dN dg ⊢
 have sz : P2.objs.size = s2.heap.objs.size + 1 := by rw [<- eP, aeE]
 have cR : s2.heap.objs.size ≠ P2.objs.size := by walk_at "om"
 have keep : ∀ b o, s2.heap.get? b = some o -> h1.get? b = some o := fun b o e => by
  have lt := acK e
  exact dg.extBut b o (by walk_at "om") (acE _ (eP ▸ acE _ e))
 have hD : h1.get? s2.heap.objs.size = some { cls := .type "list", data := .seq ([] : List acC).toArray 0 } :=
  dg.extBut _ _ cR (acE _ (eP ▸ acT _ rfl))
 have cM : ∀ b ∈ fp, b < s2.heap.objs.size := fun b hb => by
  obtain ⟨o, e, _⟩ := T.obj 0 _ cv b hb
  exact acK e
 have jy : ∀ b, s2.heap.objs.size <= b -> b ∉ aO X.stack := fun b hle z => by
  rcases acN.mp (I2.dR b z) with q | q
  ·have := I2.lt; walk_at "om"
  ·exact I2.uP hle q
 generalize eC : P2.objs.size = C at dN dg cR ⊢
 generalize eD : s2.heap.objs.size = D at cR hD cM jy
 have gk : s2.heap.objs.size <= C := by walk_at "om"
 have jz : s2.heap.objs.size <= D := by walk_at "om"
 have su : (bg X (x :: ys) scope cl C s2 H2 fp (X.pn ++ pins)).Ok := Pm S I2 f2 gk (fun b hb => by have := cM b hb; walk_at "om")
 have jA : ∀ p ∈ X.pn ++ pins, p.1 ≠ C /\ p.1 ≠ D /\ p.1 ∉ aO X.stack /\ ∀ b ∈ fp, p.1 ≠ b := fun p hp => by
  obtain ⟨e, n, nL, nf, _⟩ := I2.pin p hp
  have lt := acK e
  refine ⟨by walk_at "om", by walk_at "om", fun z => ?_, fun b hb => (f2 b hb).2.2.2.2.2 p hp⟩
  rcases acN.mp (I2.dR _ z) with q | q
  ·exact nL q
  ·exact nf q
 have I4 : Inv (bg X (x :: ys) scope cl C s2 H2 fp (X.pn ++ pins)) [] (none :: fr.map fun j => (σ[j]?).join) H2 { s2 with heap := h1, toks := s2.toks + ([] : List (Str × acC)).length } := by
  refine ⟨su, rfl, I2.bare, Un.kept keep, ⟨_, dN, fun i y v e1 e2 e3 => ?_⟩, fun y c e => ?_, I2.ai.fresh gk, fun y c e => I2.eF y c (S.cls.get y c e), fun p hp => ?_, I2.ai.kept keep, ?_⟩
  ·cases i with
   | zero => simp at e2
   | succ i =>
    simp only [aee] at e1 e2
    have iM : ys[i]? = some y := e1
    obtain ⟨j, c, hN, hσ, hk, sy, sA⟩ := S.aO.get i y v iM e2
    obtain ⟨m, hm, hl⟩ := I2.loc
    obtain ⟨u, ru, lu⟩ := hl j y v hN hσ (.inr (.inl hk))
    refine ⟨u, ru, .inr ⟨.inl ?_, c, sy, ?_⟩⟩
    ·have z := adk.mp S.kfr y (acZ iM)
     exact (by simpa using z : (relabel scope X.env).names.lookup y = some .cell)
    ·rcases lu with ⟨z, _⟩ | ⟨_, c', e', q'⟩
     ·rw [hk] at z; cases z
     ·rw [sA] at e'; cases e'
      obtain ⟨o, ho, hd⟩ := q'
      exact ⟨o, keep _ _ ho, hd⟩
  ·obtain ⟨v, o, ho, hd⟩ := I2.cell y c (S.cls.get y c e)
   exact ⟨v, o, keep _ _ ho, hd⟩
  ·have bF : p ∈ X.pn ++ pins := by
    have : p ∈ (X.pn ++ pins) ++ [] := hp
    simpa using this
   obtain ⟨e, n, _, _, d⟩ := I2.pin p bF
   obtain ⟨p1, _, p3, _⟩ := jA p bF
   exact ⟨keep _ _ e, n, p1, p3, d⟩
  ·show (none :: fr.map fun j => (σ[j]?).join).length = (x :: ys).length
   simp [S.aO.len]
 have jB : tn 0 h1 := T.keep 0 _ _ cv fun b _ o e => keep b o e
 have gm : ∀ (H' : Hp) (o : Obj), (∀ b ∈ fp, H' b = none) -> ∀ b ∈ fp, cA (bg X (x :: ys) scope cl C s2 H2 fp (X.pn ++ pins)) [(D, o)] H' b := fun H' o hn b hb => by
  obtain ⟨_, d1, d2, d3, d4, d5⟩ := f2 b hb
  have lt := cM b hb
  refine ⟨hn b hb, ?_, fun z => ?_, .inl hb, fun y c e => d4 y c (S.cls.get y c e), fun p hp => ?_⟩
  ·show b ≠ C
   walk_at "om"
  ·rcases acN.mp (I2.dR b z) with q | q
   ·exact d1 q
   ·exact d2 q
  ·have bF : p ∈ (X.pn ++ pins) ++ [(D, o)] := hp
   rcases adj.mp bF with z | z
   ·exact d5 p z
   ·have : p = (D, o) := by simpa using z
    subst this
    show D ≠ b
    walk_at "om"
 have loop : ∀ s' : acF, s' = { s2 with heap := h1, toks := s2.toks + ([] : List (Str × acC)).length } ->
  afi (model X.prog X.w) X.A (.compLoop (.ListComp elt [⟨.Name x px, iter, ifs, 0⟩] scope pos) 0 (.ref it) (.ref D) (afg scope cl C X.env)) (RR (.ref D) C) s' := by
  rintro s' rfl
  refine ahY (fun n s' => ∃ i zs H' o af nn, Inv (bg X (x :: ys) scope cl C s2 H2 fp (X.pn ++ pins)) [] (o :: fr.map fun j => (σ[j]?).join) H' s' /\ tn i s'.heap /\ (∀ b ∈ fp, H' b = none) /\ H' D = none /\
   s'.heap.get? D = some { cls := .type "list", data := .seq (af : List acC).toArray nn } /\ Vals zs af /\ W i n zs H') ?_ m0 ⟨0, [], H2, none, [], 0, I4, jB, fun b hb => (f2 b hb).1, I2.ai.fresh jz, hD, .nil, w0⟩
  rintro n s3 ⟨i, zs, H3, o3, af, nn, I3, f9, gb, gp, sC, r3, w3⟩
  have jC : Inv (bg X (x :: ys) scope cl C s2 H2 fp (X.pn ++ pins)) [(D, { cls := .type "list", data := .seq af.toArray nn })] (o3 :: fr.map fun j => (σ[j]?).join) H3 s3 := I3.gH fun p hp => by
   have : p = (D, { cls := .type "list", data := .seq af.toArray nn }) := by simpa using hp
   subst this
   exact ⟨sC, gp, cR, jy D (ac1 _), fun v z => nomatch z⟩
  rcases turn i n zs H3 w3 with ⟨stop, hlen, q⟩ | ⟨go, hlen, N, jD, step⟩
  ·refine adz (T.done (bg X (x :: ys) scope cl C s2 H2 fp (X.pn ++ pins)) rfl rfl rfl hc i _ s3 _ H3 (fun _ _ => False) jC (gm H3 _ gb) f9 stop) (fun r s4 ⟨hr, J4⟩ => ?_) fun _ _ z => z.elim
   subst hr
   have un := J4.base
   have sD : ∀ b o, s2.heap.get? b = some o -> b ≠ D := fun b o e => by have := acK e; walk_at "om"
   have cS : ∀ b u, H3 b = some u -> b ≠ D := fun b u e z => by rw [z, gp] at e; cases e
   refine sr D C s4 (upd H3 D (.lst zs)) ?_ ?_ ?_ (q D gp)
   ·refine I2.Ah (ch := fp) J4.os ⟨un.keep, un.slot, fun b o e nn hx => ?_, un.there, fun b xs e => ?_, fun b o u e => ?_, fun b ps e => ?_⟩ (fun a o e => ?_) J4.bare fun b hb => ?_
    ·rw [aA (sD b o e)]; exact un.free b o e nn hx
    ·have := un.cH b xs e; rw [aA (cS b _ this)]; exact this
    ·have := un.cI b o u e; rw [aA (cS b _ this)]; exact this
    ·obtain ⟨more, this⟩ := un.cU b ps e
     exact ⟨more, by rw [aA (cS b _ this)]; exact this⟩
    ·by_cases ha : a = D
     ·subst ha
      rw [aq] at e; cases e
      exact ⟨hlen, af, nn, r3, (J4.pin (a, _) (acL _ (adG.mpr rfl))).1⟩
     ·rw [aA ha] at e
      exact (J4.ai a o e).eE (fun _ _ _ z => z) (fun b z => by rw [aA (cS b _ z)]; exact z) fun b xs z => by rw [aA (cS b _ z)]; exact z
    ·obtain ⟨_, d1, d2, d3, d4, d5⟩ := f2 b hb
     exact ⟨d3, d1, d4, d5⟩
   ·obtain ⟨m, hm, _⟩ := J4.loc
    exact ⟨m, hm⟩
   ·exact I2.gN gk (by rw [aA (adV cR)]; exact J4.free)
  ·refine adz (T.item (bg X (x :: ys) scope cl C s2 H2 fp (X.pn ++ pins)) rfl rfl rfl hc i _ s3 _ H3 (fun _ _ => False) jC (gm H3 _ gb) f9 go) (fun r s4 ⟨u, hr, h4⟩ => ?_) fun _ _ z => z.elim
   subst hr
   have go' : ac0 (model X.prog X.w) X.A (aeW (.Name x px) (.ref it) u >>= fun _ => assign (.Name x px) (afg scope cl C X.env) u) (fun _ s5 =>
    ac0 (model X.prog X.w) X.A (forIn ifs true fun c r => if r = true then do let ok <- akb c (afg scope cl C X.env) (eval c (afg scope cl C X.env)); pure (ae2 ok) else pure (ae2 r)) (fun ok s6 =>
     if ok = true then ac0 (model X.prog X.w) X.A (eval elt (afg scope cl C X.env)) (fun y s7 =>
      ac0 (model X.prog X.w) X.A (call (.builtin "list.append") [.ref D, y]) (fun _ s8 => ∃ m, m < n /\ ∃ i zs H' o af nn, Inv (bg X (x :: ys) scope cl C s2 H2 fp (X.pn ++ pins)) [] (o :: fr.map fun j => (σ[j]?).join) H' s8 /\ tn i s8.heap /\ (∀ b ∈ fp, H' b = none) /\ H' D = none /\
       s8.heap.get? D = some { cls := .type "list", data := .seq (af : List acC).toArray nn } /\ Vals zs af /\ W i m zs H') (fun _ _ => False) s7) (fun _ _ => False) s6
     else ∃ m, m < n /\ ∃ i zs H' o af nn, Inv (bg X (x :: ys) scope cl C s2 H2 fp (X.pn ++ pins)) [] (o :: fr.map fun j => (σ[j]?).join) H' s6 /\ tn i s6.heap /\ (∀ b ∈ fp, H' b = none) /\ H' D = none /\
      s6.heap.get? D = some { cls := .type "list", data := .seq (af : List acC).toArray nn } /\ Vals zs af /\ W i m zs H') (fun _ _ => False) s5) (fun _ _ => False) s4 := by
    refine acA (au h4 fun _ s5 ⟨y5, H5, I5, r5, yl, dI, lB⟩ => ?_)
    have lC := I5.pinned (gm H5 _ lB) (T.obj _ _ dI)
    refine au (bb (X := bg X (x :: ys) scope cl C s2 H2 fp (X.pn ++ pins)) (i := 0) S.nd rfl (.inl (ado S.own)) (.inr (ado S.own)) _ s5 _ H5 y5 u (fun σ' H' => σ' = (some y5 :: fr.map fun j => (σ[j]?).join) /\ H' = H5) lC r5 ⟨rfl, rfl⟩) fun _ s6 ⟨σ6, H6, I6, e6, AX⟩ => ?_
    subst e6 AX
    have after : ∀ (s7 : acF) (H7 : Hp), Inv (bg X (x :: ys) scope cl C s2 H2 fp (X.pn ++ pins)) ([(D, { cls := .type "list", data := .seq af.toArray nn })] ++ lA fp s5.heap) (some y5 :: fr.map fun j => (σ[j]?).join) H7 s7 ->
     Inv (bg X (x :: ys) scope cl C s2 H2 fp (X.pn ++ pins)) [] (some y5 :: fr.map fun j => (σ[j]?).join) H7 s7 /\ tn (i + 1) s7.heap /\ (∀ b ∈ fp, H7 b = none) /\ H7 D = none /\ s7.heap.get? D = some { cls := .type "list", data := .seq af.toArray nn } := fun s7 H7 I7 => by
     have pD := I7.pin (D, { cls := .type "list", data := .seq af.toArray nn }) (acL _ (adW _ (adG.mpr rfl)))
     refine ⟨I7.gH fun p hp => absurd hp (by simp), T.keep _ _ _ dI fun b hb o e => (I7.pin (b, o) (acL _ (acL _ (ji hb e)))).1, fun b hb => ?_, pD.2.1, pD.1⟩
     obtain ⟨o, e, _⟩ := T.obj _ _ dI b hb
     exact (I7.pin (b, o) (acL _ (acL _ (ji hb e)))).2.1
    refine au ((hb C s2 H2 fp (X.pn ++ pins)).1 _ s6 _ H6 _ I6 (step y5 H6 yl)) fun ok s7 ⟨H7, I7, q7⟩ => ?_
    dsimp only at q7
    by_cases ai : ok = true
    ·rw [if_pos ai] at q7 ⊢
     refine au ((hb C s2 H2 fp (X.pn ++ pins)).2 _ s7 _ H7 _ I7 q7) fun yv s8 ⟨y8, H8, I8, r8, n8⟩ => ?_
     obtain ⟨m', eU, w8⟩ := jD _ _ n8
     obtain ⟨J8, sE, sF, jE, gu⟩ := after s8 H8 I8
     have hl := r3.length
     refine ait agj ⟨_, gu, rfl⟩ af9 (afQ _ _) (agv D af.toArray nn yv (by rw [ac4]; walk_at "om")) ⟨gu, ?_⟩
     have jF := agP gu (fun a => a.push yv)
     rw [ahv] at jF
     refine ⟨m', eU, i + 1, zs ++ [y8], H8, some y5, af ++ [yv], _, J8.turned (it := D) (fun b o bS e => (acM _ _ (adV bS)).trans e) jE cR (.inr jz) (fun y c e z => ?_) (fun p hp => ?_), T.keep _ _ _ sE fun b bS o e => ?_, sF, jE, jF, r3.append (.cons r8 .nil), w8⟩
     ·obtain ⟨v, o, ho, _⟩ := I2.cell y c (S.cls.get y c e)
      have := acK ho
      walk_at "om"
     ·have bF : p ∈ X.pn ++ pins := by
       have : p ∈ (X.pn ++ pins) ++ [] := hp
       simpa using this
      exact (jA p bF).2.1
     ·have := cM b bS
      exact (acM _ _ (by walk_at "om")).trans e
    ·rw [if_neg ai] at q7 ⊢
     obtain ⟨m', eU, w7⟩ := jD _ _ q7
     obtain ⟨J7, sH, sI, sJ, sL⟩ := after s7 H7 I7
     exact ⟨m', eU, i + 1, zs, H7, some y5, af, nn, J7, sH, sI, sJ, sL, r3, w7⟩
   have e0 : (aeW (.Name x px) (.ref it) u >>= fun _ => assign (.Name x px) (afg scope cl C X.env) u) = assign (.Name x px) (afg scope cl C X.env) u := rfl
   rw [e0] at go'
   refine adz go' (fun _ s5 h5 => adz h5 (fun ok s6 h6 => ?_) fun _ _ z => z.elim) fun _ _ z => z.elim
   by_cases ai : ok = true
   ·rw [if_pos ai] at h6 ⊢
    exact adz h6 (fun y s7 h7 => adz h7 (fun _ _ z => z) fun _ _ z => z.elim) fun _ _ z => z.elim
   ·rw [if_neg ai] at h6 ⊢
    exact h6
 exact ago (loop _ rfl) (T.self X.A 0 _ _ _ jB (loop _ rfl))
theorem dY {wi : TI} (S : cE X x scope cl fr ys) (hc : X.calm = true) (hi : PI X (.Name x px) iter wi)
 (hb : ∀ (C : acJ) (s : acF) (H : Hp) (ex : List acJ) (pn : List (acJ × Obj)), g8 (bg X (x :: ys) scope cl C s H ex pn) ifs tt /\ PE (bg X (x :: ys) scope cl C s H ex pn) elt te)
 (hs : ∀ z, afh iter X.env z = pure z := by intro _; rfl) : PE X (.ListComp elt [⟨.Name x px, iter, ifs, 0⟩] scope pos) (lX wi fr tt te) := by
 intro pins s σ H Q I h
 rw [aiX]
 refine aeJ (use := none) rfl hs S.clos S.kind (fun y hy hl => ?_) (au (hi pins s σ H _ I h) fun xv s1 h1 => au h1 fun ly s2 h2 => ?_)
 ·have z := adk.mp S.names y hy
  rw [hl] at z
  simpa using z
 ·obtain ⟨it, fp, tn, J, H2, rfl, I2, T, cv, f2, hB⟩ := h2
  refine Ia (RR := fun acc C => ajK (model X.prog X.w) X.A X.xe none (EP X pins σ Q) acc C) S hc hb I2 T cv f2 hB fun D C s' H' J' hn fC q => ?_
  obtain ⟨m, hm⟩ := hn
  obtain ⟨c0, c1, c2, c3, c4, c5⟩ := fC
  exact ⟨m, hm, fun h' sb => ⟨.ref D, H', J'.turned (it := C) (fun b o hb e => sb.extBut b o hb e) c0 c1 c3 c4 c5, rfl, q⟩⟩
noncomputable def n4 (i : Nat) (te : TE) : TS := fun D σ H => te σ H fun v H1 => D.nx (σ.set i (some v)) H1
theorem AY {wi : TI} {y : Str} {py sM : Pos} {i : Nat} (S : cE X x scope cl fr ys) (hc : X.calm = true) (hN : X.N.Nodup) (hy : X.N[i]? = some y) (hl : X.env.scope.names.lookup y = some .local) (hi : PI X (.Name x px) iter wi)
 (hb : ∀ (C : acJ) (s : acF) (H : Hp) (ex : List acJ) (pn : List (acJ × Obj)), g8 (bg X (x :: ys) scope cl C s H ex pn) ifs tt /\ PE (bg X (x :: ys) scope cl C s H ex pn) elt te)
 (AZ : ah5 (.ListComp elt [⟨.Name x px, iter, ifs, 0⟩] scope pos) (some (.Name y py)) sM.line X.env = pure true := by rfl)
 (hs : ∀ z, afh iter X.env z = pure z := by intro _; rfl) : PS X (.Assign [.Name y py] (.ListComp elt [⟨.Name x px, iter, ifs, 0⟩] scope pos) sM) (n4 i (lX wi fr tt te)) := by
 intro pins s σ H Dn I h
 rw [aif _ _ _ _ AZ]
 refine acA (ahC (acA ?_))
 show ac0 _ X.A (do let _ <- comprehension (.ListComp elt [⟨.Name x px, iter, ifs, 0⟩] scope pos) scope X.env _ (aje []) false (eval iter X.env) (some (assign (.Name y py) X.env))) _ _ s
 refine acA (au (aeJ (use := some (assign (.Name y py) X.env)) (Q := fun _ s' => SP X pins Dn .next s') rfl hs S.clos S.kind (fun z hz hl => ?_) (au (hi pins s σ H _ I h) fun xv s1 h1 => au h1 fun ly s2 h2 => ?_)) fun _ s' hq => acD (acD hq))
 ·have z' := adk.mp S.names z hz
  rw [hl] at z'
  simpa using z'
 ·obtain ⟨it, fp, tn, J, H2, rfl, I2, T, cv, f2, hB⟩ := h2
  refine Ia (RR := fun acc C => ajK (model X.prog X.w) X.A X.xe (some (assign (.Name y py) X.env)) (fun _ s' => SP X pins Dn .next s') acc C) S hc hb I2 T cv f2 hB fun D C s' H' J' hn fC q => ?_
  obtain ⟨m, oC, es, ep, ho, hd, hr⟩ := hn
  obtain ⟨c0, c1, c2, c3, c4, c5⟩ := fC
  have J2 : Inv X (pins ++ [(C, oC)]) σ H' s' := J'.gH fun p hp => by
   rcases adj.mp hp with z | z
   ·exact J'.pin p (acL _ z)
   ·have : p = (C, oC) := by simpa using z
    subst this
    exact ⟨ho, c0, c1, c2, fun v z => by rw [hd] at z; cases z⟩
  show ac0 _ X.A (assign (.Name y py) X.env (.ref D)) _ _ _
  refine au (bb (X := X) hN hy (.inl hl) (.inr hl) _ s' σ H' (.ref D) (.ref D) (fun σ' g9 => σ' = σ.set i (some (.ref D)) /\ g9 = H') J2 rfl ⟨rfl, rfl⟩) fun _ s3 ⟨σ3, H3, J3, e1, e2⟩ => ?_
  subst e1 e2
  obtain ⟨pc, Pn, _⟩ := J3.pin (C, oC) (acL _ (acL _ (adG.mpr rfl)))
  refine ⟨m, ⟨oC, es, ep, pc, hd, hr⟩, fun h' sb => ⟨_, H3, J3.rh.turned (it := C) (fun b o hb e => sb.extBut b o hb e) c0 c1 c3 c4 c5, q⟩⟩
end
noncomputable def dP (Ok : Hp -> Prop) (ρ : L2.St) (tt : TT) (te : TE) : List V -> List V -> Hp -> (List V -> Hp -> Prop) -> Prop
 | [], ys, H, Q => Ok H /\ Q ys H
 | x :: r, ys, H, Q => Ok H /\ tt (some x :: ρ) H fun b H1 => if b = true then te (some x :: ρ) H1 fun y H2 => dP Ok ρ tt te r (ys ++ [y]) H2 Q else dP Ok ρ tt te r ys H1 Q
structure vW (J : It) (Ok : Hp -> Prop) (xs : List V) : Prop where
 go : ∀ i H x, Ok H -> xs[i]? = some x -> J.go i H
 yld : ∀ i H x H', Ok H -> J.yld i H x H' -> H' = H /\ (i < xs.length -> xs[i]? = some x)
 stop : ∀ i H, Ok H -> xs.length <= i -> J.stop i H
section
variable {J : It} {Ok : Hp -> Prop} {xs : List V} {ρ : L2.St} {tt : TT} {te : TE} {H : Hp} {Q : VK} {K : acB} {a : acJ}
theorem cZ (O : vW J Ok xs) (hn : xs.length <= adb) (h : dP Ok ρ tt te xs [] H fun ys H' => ∀ l, H' l = none -> Q (.ref l) (upd H' l (.lst ys))) : so J ρ tt te H Q := by
 refine ⟨fun i m ys H => m = xs.length - i /\ i <= xs.length /\ ys.length <= i /\ dP Ok ρ tt te (xs.drop i) ys H fun ys H' => ∀ l, H' l = none -> Q (.ref l) (upd H' l (.lst ys)), ⟨_, rfl, adf _, ac1 _, h⟩, ?_⟩
 rintro i m ys H ⟨rfl, hi, hy, g⟩
 by_cases aT : i < xs.length
 ·have e := afe aT
  rw [e] at g
  obtain ⟨g0, g1⟩ := g
  refine .inr ⟨O.go i H _ g0 (acG aT), by walk_at "om", fun zs H' => zs.length <= i + 1 /\ dP Ok ρ tt te (xs.drop (i + 1)) zs H' fun ys H' => ∀ l, H' l = none -> Q (.ref l) (upd H' l (.lst ys)), fun zs H' q => ⟨_, by walk_at "om", rfl, aT, q.1, q.2⟩, fun x H' y => ?_⟩
  obtain ⟨rfl, ex⟩ := O.yld i H x H' g0 y
  have ex := ex aT
  rw [acG aT] at ex
  cases ex
  have l1 : ∀ y : V, (ys ++ [y]).length <= i + 1 := fun y => by rw [adl, adC]; walk_at "om"
  have l2 : ys.length <= i + 1 := by walk_at "om"
  simp only [l1, l2, true_and]
  exact g1
 ·have e : i = xs.length := by walk_at "om"
  subst e
  rw [ajy] at g
  exact .inl ⟨O.stop _ H g.1 (ac1 _), by walk_at "om", g.2⟩
theorem eV : vW (fZ K a) (fun H => ag K H a xs) xs :=
 ⟨fun _ _ _ h e => ⟨xs, _, h, e⟩, fun _ _ _ _ h y => ⟨y.1, fun _ => y.2 xs h⟩, fun _ _ h hi => ⟨xs, h, hi⟩⟩
theorem Po : vW (rg K a) (fun H => az K H a xs) xs :=
 ⟨fun _ _ _ h e => ⟨xs, _, h, e⟩, fun _ _ _ _ h y => ⟨y.1, fun _ => y.2 xs h⟩, fun _ _ h hi => ⟨xs, h, hi⟩⟩
theorem vX {lo : Int} {n : Nat} : vW (f6 lo n) (fun _ => True) ((adh n).map fun k => V.int (lo + (k : Nat))) :=
 ⟨fun i _ _ _ e => by
  have := (acX.mp e).1
  show i < n
  simpa using this, fun i _ _ _ _ y => ⟨y.1, fun hi => by
   have bf : i < n := by simpa using hi
   rw [y.2, adn, aiN bf]; rfl⟩, fun i _ _ hi => by
   show n <= i
   simpa using hi⟩
theorem vY {p : V -> Bool} {f : V -> V} {Q' : List V -> Hp -> Prop} (b8 : Ok H) : ∀ {xs ys : List V}, (∀ x ∈ xs, ∀ Q, Q (p x) H -> tt (some x :: ρ) H Q) -> (∀ x ∈ xs, p x = true -> ∀ Q, Q (f x) H -> te (some x :: ρ) H Q) -> Q' (ys ++ (xs.filter p).map f) H -> dP Ok ρ tt te xs ys H Q'
 | [], ys, _, _, q => ⟨b8, by simpa using q⟩
 | x :: r, ys, ht, he, q => by
  refine ⟨b8, ht x (.head _) _ ?_⟩
  by_cases hb : p x = true
  ·rw [if_pos hb]
   refine he x (.head _) hb _ (vY b8 (fun y hy => ht y (.tail _ hy)) (fun y hy => he y (.tail _ hy)) ?_)
   rw [adI, if_pos hb] at q
   simpa using q
  ·rw [if_neg hb]
   refine vY b8 (fun y hy => ht y (.tail _ hy)) (fun y hy => he y (.tail _ hy)) ?_
   rw [adI, if_neg hb] at q
   exact q
end
section
variable {X : Cx} {K : acB}
theorem eW (h : X.K = K) : gT X (dJ K) := h ▸ aB
theorem Pp (h : X.K = K) : cW X (.builtin "len") (fun xs H Q => ∃ x n, xs = [x] /\ Ap K x H n /\ Q (.int n) H) := h ▸ fu
theorem Ib (h : X.K = K) : bJ X (aem .In) (Av K false) := h ▸ Aw
end
end Gz
namespace Gz
open PySem PySem.Spec PyProof.Rows L2
mutual
inductive Dat (K : acB) (H : Hp) : V -> afX -> Prop where
 | non : Dat K H .non .none
 | bl (b : Bool) : Dat K H (.bl b) (.bool b)
 | int (i : Int) : Dat K H (.int i) (.int i)
 | str (x : Str) : Dat K H (.str x) (.str x)
 | tup {a : acJ} {xs : List V} {ds : List afX} (h : az K H a xs) (r : eX K H xs ds) : Dat K H (.ref a) (.tuple ds)
 | lst {a : acJ} {xs : List V} {ds : List afX} (h : ag K H a xs) (r : eX K H xs ds) : Dat K H (.ref a) (.list ds)
inductive eX (K : acB) (H : Hp) : List V -> List afX -> Prop where
 | nil : eX K H [] []
 | cons {x : V} {d : afX} {xs : List V} {ds : List afX} (h : Dat K H x d) (r : eX K H xs ds) : eX K H (x :: xs) (d :: ds)
end
section
variable {X : Cx} {pins : List (acJ × Obj)} {σ : L2.St} {H : Hp} {s : acF}
mutual
theorem Dat.reads (I : Inv X pins σ H s) : ∀ (d : afX) {v : V} {u : acC}, Dat X.K H v d -> RelV v u -> ∃ as, Reads s.heap u d as
 | .none, _, _, .non, r => by cases r; exact ⟨_, .none⟩
 | .bool b, _, _, .bl _, r => by cases r; exact ⟨_, .bool b⟩
 | .int i, _, _, .int _, r => by obtain ⟨t, rfl⟩ := r; exact ⟨_, .int i t⟩
 | .str x, _, _, .str _, r => by obtain ⟨t, rfl⟩ := r; exact ⟨_, .str x t⟩
 | .tuple ds, _, _, .tup h q, r => by
  cases r
  obtain ⟨af, rv, ⟨o, ho, hc, n, hd⟩, _⟩ := I.tuple h
  obtain ⟨as, ra⟩ := eX.reads I ds q rv
  exact ⟨_, .tuple ho hc hd (by simpa using ra)⟩
 | .list ds, _, _, .lst h q, r => by
  cases r
  obtain ⟨af, rv, ⟨o, n, ho, hc, _, hd⟩, _⟩ := I.list h
  obtain ⟨as, ra⟩ := eX.reads I ds q rv
  exact ⟨_, .list ho hc hd (by simpa using ra)⟩
theorem eX.reads (I : Inv X pins σ H s) : ∀ (ds : List afX) {vs : List V} {us : List acC}, eX X.K H vs ds -> Vals vs us -> ∃ as, ReadsAll s.heap us ds as
 | [], _, _, .nil, r => by cases r; exact ⟨_, .nil⟩
 | d :: ds, _, _, .cons h q, r => by
  cases r with
  | cons r1 r2 =>
   obtain ⟨as, ra⟩ := Dat.reads I d h r1
   obtain ⟨bs, rb⟩ := eX.reads I ds q r2
   exact ⟨_, .cons ra rb⟩
end
noncomputable def A0 (K : acB) (neg : Bool) : R2 := fun x y H Q => ∃ d e, Dat K H x d /\ Dat K H y e /\ d.canLay0 = true /\ e.canLay0 = true /\ d.depth <= 60 /\ Q (.bl (if neg = true then !afN d e else afN d e)) H
theorem Ic (hu : X.A.units + 64 < age) : bJ X (aem .Eq) (A0 X.K false) := by
 intro pins s σ H x y v u Q I rx ry h
 obtain ⟨d, e, dx, dy, c1, c2, dd, q⟩ := h
 obtain ⟨as, ra⟩ := Dat.reads I d dx rx
 obtain ⟨bs, rb⟩ := Dat.reads I e dy ry
 exact SeqAt.compareEq_reads ra rb c1 c2 (by omega) ⟨.bl _, H, I, rfl, q⟩
theorem Ie (hu : X.A.units + 64 < age) : bJ X (aem .NotEq) (A0 X.K true) := by
 intro pins s σ H x y v u Q I rx ry h
 obtain ⟨d, e, dx, dy, c1, c2, dd, q⟩ := h
 obtain ⟨as, ra⟩ := Dat.reads I d dx rx
 obtain ⟨bs, rb⟩ := Dat.reads I e dy ry
 exact SeqAt.compareNe_reads ra rb c1 c2 (by omega) ⟨.bl _, H, I, rfl, q⟩
end
end Gz
namespace Gz
open PySem PySem.Spec PyProof.Rows L2
noncomputable abbrev En := Option Int
noncomputable def ev : En -> V
 | none => .non
 | some i => .int i
theorem vZ : ev none = .non := rfl
theorem v3 (i : Int) : ev (some i) = .int i := rfl
noncomputable def bx : En -> En -> Bool
 | some x, some y => decide (y < x)
 | _, _ => false
noncomputable def a8 (H : Hp) (v : V) (a b : En) : Prop := ∃ p, v = .ref p /\ H p = some (.tup [ev a, ev b])
theorem a8.same {H H1 : Hp} {v : V} {a b : En} (h : a8 H v a b) (s : aj H H1) : a8 H1 v a b := by
 obtain ⟨p, e, h⟩ := h
 exact ⟨p, e, s _ _ h⟩
theorem a8.new {H : Hp} {p : acJ} {a b : En} : a8 (upd H p (.tup [ev a, ev b])) (.ref p) a b := ⟨p, rfl, aq⟩
noncomputable def hold (a b : En) (n : Int) : Bool := !bx a (some n) && !bx (some n) b
theorem Pq {a b : En} {n : Int} : hold a b n = true ↔ (∀ x, a = some x -> x <= n) /\ (∀ y, b = some y -> n <= y) := by
 unfold hold
 rcases a with _ | x <;> rcases b with _ | y <;> simp [bx]
noncomputable def iN : En -> En -> En
 | some x, some y => some (if y > x then y else x)
 | some x, none => some x
 | none, b => b
noncomputable def iO : En -> En -> En
 | some x, some y => some (if y < x then y else x)
 | some x, none => some x
 | none, b => b
noncomputable def nums (a b : En) : List Int := [a, b].filterMap id
noncomputable def v5 (v : V) : Bool := !decide (v = .non)
theorem Pr (a b : En) : ([ev a, ev b].filter v5).map (fun v => v) = (nums a b).map V.int := by
 rcases a with _ | x <;> rcases b with _ | y <;> simp [ev, nums, v5]
theorem Pt (a b : En) : jr jo (nums a b) .non = ev (iN a b) := by
 rcases a with _ | x <;> rcases b with _ | y <;> simp [nums, iN, jo, jr, ev]
theorem Pu (a b : En) : jr jq (nums a b) .non = ev (iO a b) := by
 rcases a with _ | x <;> rcases b with _ | y <;> simp [nums, iO, jq, jr, ev]
noncomputable def Ig (H : Hp) (v : V) (lo hi : En) : Prop := (bx lo hi = true -> v = .non) /\ (bx lo hi = false -> a8 H v lo hi)
theorem Ih {K : acB} {H : Hp} {p : acJ} {a b : En} {Q : VK} {tt : TT} {te : TE} (hp : H p = some (.tup [ev a, ev b])) (ht : ∀ x H Q, Q (v5 x) H -> tt [some x] H Q) (he : ∀ x H Q, Q x H -> te [some x] H Q)
 (q : ∀ l, H l = none -> Q (.ref l) (upd H l (.lst ((nums a b).map V.int)))) : so (rg K p) [] tt te H Q := by
 refine cZ (xs := [ev a, ev b]) Po b7 (vY (p := v5) (f := fun v => v) (az.of hp) (fun x _ Q h => ht x H Q h) (fun x _ _ Q h => he x H Q h) ?_)
 rw [adq, Pr]
 exact q
end Gz
namespace Gz
open L2
noncomputable abbrev S2 := En × En
noncomputable def hs (s : S2) (n : Int) : Bool := hold s.1 s.2 n
noncomputable def Ii (s : S2) : Prop := bx s.1 s.2 = false
noncomputable def v7 (a b : En) : Prop := a = none ∨ ∃ x y, a = some x /\ b = some y /\ x <= y
theorem v7.trans {a b c : En} (h : v7 a b) (h' : v7 b c) : v7 a c := by
 rcases h with rfl | ⟨x, y, rfl, rfl, h1⟩
 ·exact .inl rfl
 ·rcases h' with h' | ⟨x', y', e, rfl, h2⟩
  ·cases h'
  ·cases e; exact .inr ⟨_, _, rfl, rfl, by omega⟩
noncomputable def v8 (p q : S2) : Prop := ∃ h l, p.2 = some h /\ q.1 = some l /\ h + 2 <= l
noncomputable def wa (a b : En) : Prop := b = none ∨ ∃ x y, a = some x /\ b = some y /\ x <= y
theorem wa.trans {a b c : En} (h : wa a b) (h' : wa b c) : wa a c := by
 rcases h' with rfl | ⟨x', y', rfl, rfl, h2⟩
 ·exact .inl rfl
 ·rcases h with h | ⟨x, y, rfl, e, h1⟩
  ·cases h
  ·cases e; exact .inr ⟨_, _, rfl, rfl, by omega⟩
noncomputable abbrev iP := Option (List S2 × S2)
open PySem in
noncomputable def lY (H : Hp) : List V -> List S2 -> Prop
 | [], [] => True
 | v :: vs, s :: ss => a8 H v s.1 s.2 /\ lY H vs ss
 | _, _ => False
section
variable {H H1 : Hp} {K : acB}
open PySem
noncomputable def A1 : En -> afX
 | none => .none
 | some i => .int i
noncomputable def A2 (s : S2) : afX := .tuple [A1 s.1, A1 s.2]
theorem Ij (e : En) : Dat K H (ev e) (A1 e) := by
 rcases e with _ | x
 ·exact .non
 ·exact .int x
theorem a8.dat {v : V} {a b : En} (h : a8 H v a b) : Dat K H v (A2 (a, b)) := by
 obtain ⟨p, rfl, h⟩ := h
 exact .tup (az.of h) (.cons (Ij a) (.cons (Ij b) .nil))
end
end Gz
namespace Gz
open PySem PySem.Spec PyProof.Rows L2
noncomputable def wb (lo st : Int) (n : Nat) : It := ⟨fun i _ => i < n, fun i H x H' => H' = H /\ x = .int (lo + (i : Int) * st), fun i _ => n <= i⟩
theorem Pw {P : ac2} {w : adw} {K : acB} {tg : ae4} (it : acJ) (lo st : Int) (n : Nat) : Turn P w K tg (wb lo st n) [it] it (fun i h => aiH h it (lo + (i : Nat) * st) ((n : Int) - (i : Nat)) st) where
 mem := by simp
 obj := fun i h q b hb => by
  have e : b = it := by simpa using hb
  subst e
  exact ⟨_, q, fun v z => by
   have z' : Data.fields _ = Data.cell v := z
   cases z'⟩
 keep := fun i h h' q k => k it (by simp) _ q
 item := by
  intro X hP hw hK hc i pins s σ H E I hf q hg
  subst hP hw hK
  obtain ⟨f0, f1, f2, f3, f4, f5⟩ := hf it (by simp)
  have W := Walks.range (prog := X.prog) (w := X.w) (I.ok.hd hc) it lo st n
  refine W.item i s _ _ hg q fun v h' tk hv q' kk => ?_
  obtain ⟨t, rfl⟩ := hv
  have I1 : Inv X pins σ H { s with heap := h', toks := tk } := I.turned (fun b o hb e => kk b o (by simpa using hb) e) f0 f1 f3 f4 f5
  exact ⟨_, rfl, rf (s := { s with heap := h', toks := tk }) (n := "range_iterator") q' rfl rfl (by decide) ⟨.int (lo + (i : Int) * st), H, I1, ⟨t, rfl⟩, ⟨rfl, rfl⟩, q', fun b hb => (hf b hb).1⟩⟩
 done := by
  intro X hP hw hK hc i pins s σ H E I hf q hg
  subst hP hw hK
  obtain ⟨f0, f1, f2, f3, f4, f5⟩ := hf it (by simp)
  exact ahT (I.ok.hd hc) q (by have : n <= i := hg; omega) fun h' eb => ⟨rfl, I.turned (t' := s.toks) (fun b o hb e => eb b o hb e) f0 f1 f3 f4 f5⟩
 self := fun _ _ _ _ _ q h => ahU q h
noncomputable def jG (lo hi st : Int) : Nat := (adS lo hi st).toNat
noncomputable def n5 (ta : TA) : TI := fun σ H R => ta σ H fun vs H1 => ∃ i j c : Int, vs = [.int i, .int j, .int c] /\ (-1000000 <= i /\ i <= 1000000 /\ -1000000 <= j /\ j <= 1000000 /\ -1000000 <= c /\ c <= 1000000 /\ c ≠ 0) /\ R (wb i c (jG i j c)) H1
theorem Ik (i j c : Int) (h : c ≠ 0) : 0 <= adS i j c := by
 unfold adS
 split
 ·rename_i hc
  split
  ·have := ajU (show 0 <= j - i - 1 by omega) (show 0 <= c by omega); omega
  ·omega
 ·split
  ·have := ajU (show 0 <= i - j - 1 by omega) (show 0 <= -c by omega); omega
  ·omega
theorem size_le (i j c : Int) (h : -1000000 <= i /\ i <= 1000000 /\ -1000000 <= j /\ j <= 1000000 /\ c ≠ 0) : adS i j c <= 2000000 := by
 unfold adS
 split
 ·split
  ·have := ajz (c) (show 0 <= j - i - 1 by omega); omega
  ·omega
 ·split
  ·have := ajz (-c) (show 0 <= i - j - 1 by omega); omega
  ·omega
theorem Px {i j c : Int} (h : -1000000 <= i /\ i <= 1000000 /\ -1000000 <= j /\ j <= 1000000 /\ -1000000 <= c /\ c <= 1000000 /\ c ≠ 0) : Builtin.Range.small i j c = true := by
 have h1 := Ik i j c h.2.2.2.2.2.2
 have h2 := size_le i j c ⟨h.1, h.2.1, h.2.2.1, h.2.2.2.1, h.2.2.2.2.2.2⟩
 unfold Builtin.Range.small
 generalize adS i j c = n at h1 h2 ⊢
 simp only [ajV, aej, afl, decide_eq_true_eq, beq_iff_eq]
 refine ⟨by omega, .inr ?_⟩
 split <;> simp only [aej, decide_eq_true_eq] <;> omega
theorem Py {X : Cx} {tg a b c : ae4} {ta : TA} {p pos : Pos} (hg : Gl X "range") (hm : X.mg "range" = none) (ha : PA X [a, b, c] ta) (hs : adv [a, b, c] X.env = (false, eval a X.env) :: adv [b, c] X.env := by rfl) (cB : adv [b, c] X.env = [(false, eval b X.env), (false, eval c X.env)] := by rfl) :
 PI X tg (.Call (.Name "range" p) [a, b, c] [] pos) (n5 ta) := by
 intro pins s σ H R I h
 refine Call_ (fY I hg hm akd (ad4 (au (ha pos pins s σ H _ I h) fun us s1 ⟨vs, H1, I1, r1, q1⟩ => ?_) (by rw [hs]) (by rw [cB]; rfl)))
 obtain ⟨i, j, k, e, hb, q⟩ := q1
 subst e
 cases r1 with
 | cons r rr =>
  cases rr with
  | cons r' rr =>
   cases rr with
   | cons Pz rr =>
    cases rr
    obtain ⟨t, rfl⟩ := r
    obtain ⟨t', rfl⟩ := r'
    obtain ⟨Il, rfl⟩ := Pz
    have hk : k ≠ 0 := hb.2.2.2.2.2.2
    refine call_range_3 hk ?_ (.inl (PyProof.noPylong_small (by omega)))
    refine aiU (IsRange.new ..) (Px hb) ?_
    have I2 : Inv X pins σ H1 { s1 with heap := s1.heap.push { cls := .type "range", data := .fields #[.int i t, .int j t', .int k Il] }, toks := s1.toks } := I1.kept fun b o e => acE _ e
    refine ⟨_, [_], _, _, H1, rfl, I2.kept (t' := s1.toks) fun b o e => acE _ e, Pw _ i k (jG i j k), ?_, fun b hb => ?_, q⟩
    ·have e1 : i + ((0 : Nat) : Int) * k = i := by simp
     have e2 : ((jG i j k : Nat) : Int) - ((0 : Nat) : Int) = adS i j k := by
      have := Ik i j k hk
      unfold jG; omega
     show aiH _ _ (i + ((0 : Nat) : Int) * k) (((jG i j k : Nat) : Int) - ((0 : Nat) : Int)) k
     rw [e1, e2]
     exact acT _ rfl
    ·have e : b = (s1.heap.push { cls := .type "range", data := .fields #[.int i t, .int j t', .int k Il] }).objs.size := by simpa using hb
     subst e
     exact I2.gN (ac1 _) (I2.ai.fresh (ac1 _))
section
variable {g : TG} {tb : TS} {D : Ends} {σ : L2.St} {H : Hp} {lo st : Int} {n : Nat}
theorem wc {ta : TA} : gP (nD ta) g tb D σ H = ta σ H (fun vs H1 => ∃ i j : Int, vs = [.int i, .int j] /\ (-(2 ^ 62) <= i /\ i < 2 ^ 62 /\ -(2 ^ 62) <= j /\ j < 2 ^ 62) /\ FJ (f6 i (j - i).toNat) g tb D σ H1) := rfl
theorem wd {ta : TA} : gP (n5 ta) g tb D σ H = ta σ H (fun vs H1 => ∃ i j c : Int, vs = [.int i, .int j, .int c] /\ (-1000000 <= i /\ i <= 1000000 /\ -1000000 <= j /\ j <= 1000000 /\ -1000000 <= c /\ c <= 1000000 /\ c ≠ 0) /\ FJ (wb i c (jG i j c)) g tb D σ H1) := rfl
theorem PB (Pv : Nat -> L2.St -> Hp -> Prop) (h0 : Pv 0 σ H)
 (hs : ∀ i σ H, i < n -> Pv i σ H -> g (.int (lo + (i : Int) * st)) σ H fun σ2 H2 => tb { D with nx := Pv (i + 1), ct := Pv (i + 1), bk := D.nx } σ2 H2) (hd : ∀ σ H, Pv n σ H -> D.nx σ H) : FJ (wb lo st n) g tb D σ H := by
 refine ⟨fun i m σ H => m = n - i /\ i <= n /\ Pv i σ H, ⟨n, by simp, adf _, h0⟩, ?_⟩
 rintro i m σ H ⟨rfl, hi, p⟩
 by_cases aT : i < n
 ·refine .inr ⟨aT, Pv (i + 1), fun σ' H' p' => ⟨n - (i + 1), by omega, rfl, aT, p'⟩, fun x H' y => ?_⟩
  obtain ⟨e, y⟩ := y
  subst e y
  exact hs i σ _ aT p
 ·have e : i = n := by omega
  subst e
  exact .inl ⟨ac1 _, hd σ H p⟩
end
end Gz
namespace Gz
open PySem PySem.Spec PyProof.Rows L2
local macro_rules | `(tactic| walk_at "om") => `(tactic| ((try simp only [PySem.Addr] at *); omega))
section
variable {X : Cx} {pins : List (acJ × Obj)} {σ : L2.St} {H : Hp} {s : acF} {h' : aer}
theorem Im {ch : List acJ} (I : Inv X pins σ H s) (k : ∀ b o, b ∉ ch -> s.heap.get? b = some o -> h'.get? b = some o) (hf : ∀ b ∈ ch, cA X pins H b) {H' : Hp} (up : ∀ b u, H b = some u -> H' b = some u) : ∀ b u, H b = some u -> bp X.prog X.w H' h' b u := by
 have jd : ∀ b u, H b = some u -> b ∉ ch := fun b u e z => by rw [(hf b z).1] at e; cases e
 intro b u e
 refine (I.ai b u e).eE (fun c v hc q => k c v ?_ q) (fun c q => up c _ q) fun c xs q => up c _ q
 rcases hc with z | z
 ·rw [z]; exact jd b u e
 ·exact jd c _ z
theorem PD {t' : Nat} {ch : List acJ} (I : Inv X pins σ H s) (k : ∀ b o, b ∉ ch -> s.heap.get? b = some o -> h'.get? b = some o) (hf : ∀ b ∈ ch, cA X pins H b) : Inv X pins σ H { s with heap := h', toks := t' } := by
 refine I.step (g' := s.gens) (d' := s.drawn) (ch := ch) (fun b hb => ?_) (fun b o _ _ hc e _ => k b o hc e) (fun b o _ _ hc e _ => ⟨o.slots, k b o hc e⟩) (fun _ _ _ _ n => n)
  (fun b o hc e => ⟨o, k b o hc e⟩) (fun _ _ e => e) (fun _ _ _ e => e) (fun b ps e => ⟨#[], by rw [e]; simp⟩) (fun m hm => ?_) (fun b u e => Im I k hf (fun _ _ q => q) b u e) I.bare
 ·obtain ⟨_, d1, d2, d3, d4, d5⟩ := hf b hb
  exact ⟨d3, d1, d4, d5⟩
 ·obtain ⟨o, es, ep, ho, r⟩ := hm
  exact ⟨o, es, ep, k _ o (fun z => (hf _ z).2.1 rfl) ho, r⟩
theorem PF {t' : Nat} {ch : List acJ} {T : acJ} {o : HO} (I : Inv X pins σ H s) (k : ∀ b o, b ∉ ch -> s.heap.get? b = some o -> h'.get? b = some o) (hf : ∀ b ∈ ch, cA X pins H b) (hT : s.heap.objs.size <= T)
 (new : bp X.prog X.w (upd H T o) h' T o) : Inv X pins σ (upd H T o) { s with heap := h', toks := t' } := by
 have hn := I.ai.fresh hT
 have neT : ∀ b u, s.heap.get? b = some u -> b ≠ T := fun b u e => ade (ac8 (acK e) hT)
 have cS : ∀ b u, H b = some u -> b ≠ T := fun b u e => jc e hn
 have up : ∀ b u, H b = some u -> upd H T o b = some u := fun b u e => by rw [aA (cS b u e)]; exact e
 refine I.step (g' := s.gens) (d' := s.drawn) (ch := ch) (fun b hb => ?_) (fun b o _ _ hc e _ => k b o hc e) (fun b o _ _ hc e _ => ⟨o.slots, k b o hc e⟩) (fun b u _ e n => by rw [aA (neT b u e)]; exact n)
  (fun b o hc e => ⟨o, k b o hc e⟩) (fun b xs e => up b _ e) (fun b _ _ e => up b _ e) (fun b ps e => ⟨#[], by rw [up b _ e]; simp⟩) (fun m hm => ?_) (fun b u e => ?_) I.bare
 ·obtain ⟨_, d1, d2, d3, d4, d5⟩ := hf b hb
  exact ⟨d3, d1, d4, d5⟩
 ·obtain ⟨o, es, ep, ho, r⟩ := hm
  exact ⟨o, es, ep, k _ o (fun z => (hf _ z).2.1 rfl) ho, r⟩
 ·by_cases hb : b = T
  ·subst hb; rw [aq] at e; cases e; exact new
  ·rw [aA hb] at e
   exact Im I k hf up b u e
end
noncomputable def Io (K : acB) (a : acJ) (n : Nat) : It :=
 ⟨fun i H => ∃ xs x, ag K H a xs /\ xs.length = n /\ xs.reverse[i]? = some x, fun i H x H' => H' = H /\ ∀ xs, ag K H a xs -> xs.length = n -> xs.reverse[i]? = some x, fun i _ => i = n⟩
noncomputable def sN (K : acB) (ta : TA) : TI := fun σ H R => ta σ H fun vs H1 => ∃ a xs, vs = [.ref a] /\ ag K H1 a xs /\ R (Io K a xs.length) H1
noncomputable def we (K : acB) (a : acJ) : It :=
 ⟨fun i H => ∃ xs x, ag K H a xs /\ xs[i]? = some x, fun i H v H' => ∃ (p : acJ) (x : V), v = .ref p /\ H p = none /\ H' = upd H p (.tup [.int i, x]) /\ ∀ xs, ag K H a xs -> xs[i]? = some x, fun i H => ∃ xs, ag K H a xs /\ xs.length <= i⟩
theorem PH : 2 <= adb := by decide
theorem PJ {P : ac2} {w : adw} {K : acB} {es : List ae4} {k : Nat} {tp : Pos} (a e it : acJ) (Ip : e ≠ it) : Turn P w K (.Tuple es k tp) (we K a) [e, it] e (fun i h => (∃ old, IsEnum h e it (i : Nat) old) /\ h.IsListIter it a i) where
 mem := by simp
 obj := fun i h st b hb => by
  obtain ⟨⟨old, he⟩, o, ho, c, d⟩ := st
  have bS : b = e ∨ b = it := by simpa using hb
  rcases bS with rfl | rfl
  ·exact ⟨_, he, fun v z => by
    have z' : Data.fields _ = Data.cell v := z
    cases z'⟩
  ·exact ⟨o, ho, fun v z => by rw [d] at z; cases z⟩
 keep := fun i h h' st kk => by
  obtain ⟨⟨old, he⟩, hi⟩ := st
  exact ⟨⟨old, kk e (by simp) _ he⟩, hi.at fun o e => kk it (by simp) o e⟩
 item := by
  intro X hP hw hK hc i pins s σ H E I hf st hg
  subst hP hw hK
  obtain ⟨xs, x, hq, hx⟩ := hg
  obtain ⟨⟨old, he⟩, hit⟩ := st
  obtain ⟨af, rv, p, hz⟩ := I.list hq
  obtain ⟨u, hu, ru⟩ := rv.get hx
  refine wpAny_pyNext_enum_item he hit p.isList (x := u) (by simpa using hu) Ip fun h1 ho PK hT hsz hk => ?_
  refine ⟨_, rfl, wpAny_letOwnedTupleGo_enum ho fun h2 PL cB => ?_⟩
  have A3 : Heap.SameBut e h1 h2 := cB
  have neT : s.heap.objs.size ≠ e := ag9 (acK he)
  have up : ∀ b o, b ∉ [e, it] -> s.heap.get? b = some o -> h2.get? b = some o := fun b o hb q => by
   have bS : b ≠ e /\ b ≠ it := by simpa using hb
   exact A3.extBut b o bS.1 (hk b o bS.1 bS.2 q)
  have hn : H s.heap.objs.size = none := I.ai.fresh (ac1 _)
  refine ⟨.ref s.heap.objs.size, upd H s.heap.objs.size (.tup [.int i, x]), PF (s := s) (h' := h2) (t' := s.toks + 1) I up hf (ac1 _) ⟨PH, [.int i s.toks, u], .cons ⟨_, rfl⟩ (.cons ru .nil), ?_⟩, rfl, ⟨_, x, rfl, hn, rfl, fun ys hy => by rw [I.GK hy hq]; exact hx⟩, ⟨⟨u, ?_⟩, ?_⟩, fun b hb => ?_⟩
  ·have := A3.extBut _ _ neT hT
   exact ⟨_, this, rfl, _, rfl⟩
  ·have : ((i : Int) + 1) = ((i + 1 : Nat) : Int) := by omega
   rw [<- this]; exact PL
  ·exact PK.at fun o q => A3.extBut _ _ (adV Ip) q
  ·rw [aA]
   ·exact (hf b hb).1
   ·have bS : b = e ∨ b = it := by simpa using hb
    rcases bS with rfl | rfl
    ·exact adV neT
    ·obtain ⟨o, q, _⟩ := hit
     exact ade (acK q)
 done := by
  intro X hP hw hK hc i pins s σ H E I hf st hg
  subst hP hw hK
  obtain ⟨xs, hq, hx⟩ := hg
  obtain ⟨⟨old, he⟩, hit⟩ := st
  obtain ⟨af, rv, p, hz⟩ := I.list hq
  have hl := rv.length
  refine wpAny_pyNext_enum_end (I.ok.hd hc) he hit p.isList (by simp; omega) fun h' eb => ⟨rfl, PD (t' := s.toks) I (fun b o hb q => ?_) hf⟩
  have bS : b ≠ e /\ b ≠ it := by simpa using hb
  exact eb b o bS.2 q
 self := fun _ i s Q E st h => by
  obtain ⟨⟨old, he⟩, _⟩ := st
  exact ajf he h
noncomputable def n6 (K : acB) (ta : TA) : TI := fun σ H R => ta σ H fun vs H1 => ∃ a, vs = [.ref a] /\ (∃ xs, ag K H1 a xs) /\ R (we K a) H1
theorem Iq {X : Cx} {es : List ae4} {k : Nat} {tp : Pos} {e : ae4} {ta : TA} {p pos : Pos} (hg : Gl X "enumerate") (hm : X.mg "enumerate" = none) (ha : PA X [e] ta) (hs : adv [e] X.env = [(false, eval e X.env)] := by rfl) : PI X (.Tuple es k tp) (.Call (.Name "enumerate" p) [e] [] pos) (n6 X.K ta) := by
 intro pins s σ H R I h
 refine Call_ (fY I hg hm OT (ad4 (au (ha pos pins s σ H _ I h) fun us s1 ⟨vs, H1, I1, r1, q1⟩ => ?_) hs rfl))
 obtain ⟨a, rfl, ⟨xs, hq⟩, q⟩ := q1
 obtain ⟨u, rfl, ru⟩ := vals1 r1
 cases ru
 obtain ⟨af, rv, p, hz⟩ := I1.list hq
 refine call_enumerate_list p.isList fun h' he hit hsz hk => ?_
 refine ajf he ?_
 have I2 : Inv X pins σ H1 { s1 with heap := h' } := I1.kept (t' := s1.toks) hk
 refine ⟨s1.heap.objs.size + 1, [s1.heap.objs.size + 1, s1.heap.objs.size], _, _, H1, rfl, I2, PJ a _ _ (by walk_at "om"), ⟨⟨.none, he⟩, hit⟩, fun b hb => ?_, q⟩
 have bS : b = s1.heap.objs.size + 1 ∨ b = s1.heap.objs.size := by simpa using hb
 rcases bS with rfl | rfl
 ·exact I1.gN (agX _) (I1.ai.fresh (agX _))
 ·exact I1.gN (ac1 _) (I1.ai.fresh (ac1 _))
noncomputable def Ir (K : acB) (a b : acJ) : It :=
 ⟨fun i H => ∃ xs ys x y, ag K H a xs /\ ag K H b ys /\ xs[i]? = some x /\ ys[i]? = some y, fun i H v H' => ∃ (p : acJ) (x y : V), v = .ref p /\ H p = none /\ H' = upd H p (.tup [x, y]) /\ (∀ xs, ag K H a xs -> xs[i]? = some x) /\ ∀ ys, ag K H b ys -> ys[i]? = some y,
  fun i H => ∃ xs ys, ag K H a xs /\ ag K H b ys /\ (xs.length <= i ∨ ys.length <= i)⟩
noncomputable def sO (K : acB) (ta : TA) : TI := fun σ H R => ta σ H fun vs H1 => ∃ a b, vs = [.ref a, .ref b] /\ (∃ xs, ag K H1 a xs) /\ (∃ ys, ag K H1 b ys) /\ R (Ir K a b) H1
section
variable {X : Cx}
theorem A4 : ∀ {bs : List Bool} {af : List acC}, Vals (bs.map V.bl) af -> af = bs.map ae6
 | [], af, r => by cases r; rfl
 | b :: bs, af, r => by
  cases r with
  | cons r1 r2 =>
   cases r1
   rw [A4 r2]; rfl
theorem PM (hc : X.calm = true) : cW X (.builtin "all") (fun xs H Q => ∃ (a : acJ) (bs : List Bool), xs = [.ref a] /\ ag X.K H a (bs.map V.bl) /\ Q (.bl (bs.all id)) H) := by
 intro pins s σ H xs us Q I r h
 obtain ⟨a, bs, rfl, hS, q⟩ := h
 obtain ⟨u, rfl, ru⟩ := vals1 r
 cases ru
 obtain ⟨af, rv, hp, _⟩ := I.list hS
 have e := A4 rv
 subst e
 have hl := hp.isList
 have aT : a < s.heap.objs.size := by obtain ⟨_, e, _⟩ := hl; exact acK e
 refine call_all_walk (agr hl ?_)
 refine ⟨s.heap.objs.size, [s.heap.objs.size, a], [s.heap.objs.size], (bs.map ae6).toArray.size, _, _, fun i => (bs[i]?).getD true, rfl, Walks.list (A := X.A.in1) (I.ok.hd hc) _ a (ade aT) (bs.map ae6).toArray, ⟨⟨_, acT _ rfl, rfl, rfl⟩, hl.push _⟩, fun i v s' Q' E' hP hQ => ?_, fun h' tk hk => ?_⟩
 ·have iQ : (bs[i]?).map ae6 = some v := by simpa using hP
  cases e : bs[i]? with
  | none => rw [e] at iQ; cases iQ
  | some b =>
   rw [e] at iQ; cases iQ
   simp only [e, agQ] at hQ
   exact adF hQ
 ·have e : ((adh (bs.map ae6).toArray.size).all fun i => (bs[i]?).getD true) = bs.all id := by
   rw [ac4, acI]; exact PyProof.Rows.LSm.range_all bs
  rw [e]
  exact ⟨.bl (bs.all id), H, I.kept (fun b o q => hk b o (fun z => by
   have : b = s.heap.objs.size := by simpa using z
   rw [this] at q; exact aec _ (acK q)) (acE _ q)), rfl, q⟩
theorem PN (hc : X.calm = true) : cW X (.builtin "any") (fun xs H Q => ∃ (a : acJ) (bs : List Bool), xs = [.ref a] /\ ag X.K H a (bs.map V.bl) /\ Q (.bl (bs.any id)) H) := by
 intro pins s σ H xs us Q I r h
 obtain ⟨a, bs, rfl, hS, q⟩ := h
 obtain ⟨u, rfl, ru⟩ := vals1 r
 cases ru
 obtain ⟨af, rv, hp, _⟩ := I.list hS
 have e := A4 rv
 subst e
 have hl := hp.isList
 have aT : a < s.heap.objs.size := by obtain ⟨_, e, _⟩ := hl; exact acK e
 refine call_any_walk (agr hl ?_)
 refine ⟨s.heap.objs.size, [s.heap.objs.size, a], [s.heap.objs.size], (bs.map ae6).toArray.size, _, _, fun i => (bs[i]?).getD false, rfl, Walks.list (A := X.A.in1) (I.ok.hd hc) _ a (ade aT) (bs.map ae6).toArray, ⟨⟨_, acT _ rfl, rfl, rfl⟩, hl.push _⟩, fun i v s' Q' E' hP hQ => ?_, fun h' tk hk => ?_⟩
 ·have iQ : (bs[i]?).map ae6 = some v := by simpa using hP
  cases e : bs[i]? with
  | none => rw [e] at iQ; cases iQ
  | some b =>
   rw [e] at iQ; cases iQ
   simp only [e, agQ] at hQ
   exact adF hQ
 ·have e : ((adh (bs.map ae6).toArray.size).any fun i => (bs[i]?).getD false) = bs.any id := by
   rw [ac4, acI]; exact PyProof.Rows.LSm.range_any bs
  rw [e]
  exact ⟨.bl (bs.any id), H, I.kept (fun b o q => hk b o (fun z => by
   have : b = s.heap.objs.size := by simpa using z
   rw [this] at q; exact aec _ (acK q)) (acE _ q)), rfl, q⟩
end
section
variable {K : acB} {g : TG} {tb : TS} {D : Ends} {σ : L2.St} {H : Hp} {a b : acJ} {xs ys : List V}
theorem wg {ta : TA} : gP (sN K ta) g tb D σ H = ta σ H (fun vs H1 => ∃ a xs, vs = [.ref a] /\ ag K H1 a xs /\ FJ (Io K a xs.length) g tb D σ H1) := rfl
theorem wj {ta : TA} : gP (n6 K ta) g tb D σ H = ta σ H (fun vs H1 => ∃ a, vs = [.ref a] /\ (∃ xs, ag K H1 a xs) /\ FJ (we K a) g tb D σ H1) := rfl
theorem wk {ta : TA} : gP (sO K ta) g tb D σ H = ta σ H (fun vs H1 => ∃ a b, vs = [.ref a, .ref b] /\ (∃ xs, ag K H1 a xs) /\ (∃ ys, ag K H1 b ys) /\ FJ (Ir K a b) g tb D σ H1) := rfl
theorem Iu (Pv : Nat -> L2.St -> Hp -> Prop) (h0 : Pv 0 σ H) (hl : ∀ i σ H, i <= xs.length -> Pv i σ H -> ag K H a xs)
 (hs : ∀ i x σ H p, xs[i]? = some x -> Pv i σ H -> H p = none -> g (.ref p) σ (upd H p (.tup [.int i, x])) fun σ2 H2 => tb { D with nx := Pv (i + 1), ct := Pv (i + 1), bk := D.nx } σ2 H2) (hd : ∀ σ H, Pv xs.length σ H -> D.nx σ H) : FJ (we K a) g tb D σ H := by
 refine ⟨fun i m σ H => m = xs.length - i /\ i <= xs.length /\ Pv i σ H, ⟨_, rfl, adf _, h0⟩, ?_⟩
 rintro i m σ H ⟨rfl, hi, p⟩
 have q := hl i σ H hi p
 by_cases aT : i < xs.length
 ·refine .inr ⟨⟨xs, xs[i], q, by simp [aT]⟩, Pv (i + 1), fun σ' H' p' => ⟨xs.length - (i + 1), by omega, rfl, aT, p'⟩, fun v H' y => ?_⟩
  obtain ⟨w, x, rfl, hw, rfl, y⟩ := y
  exact hs i x σ _ w (y xs q) p hw
 ·have e : i = xs.length := by omega
  subst e
  exact .inl ⟨⟨xs, q, ac1 _⟩, hd σ H p⟩
end
theorem lZ {K : acB} {i j : Nat} {p : acJ} {x y : V} {σ : L2.St} {H : Hp} {Q : L2.St -> Hp -> Prop} (h : az K H p [x, y]) (q : Q ((σ.set i (some x)).set j (some y)) H) : gM K 2 (ck (bM i) (ck (bM j) gL)) (.ref p) σ H Q :=
 ⟨p, [x, y], rfl, h, rfl, x, [y], rfl, y, [], rfl, rfl, q⟩
end Gz
namespace Gz
open PySem PySem.Spec PyProof.Rows L2
local macro_rules | `(tactic| walk_at "om") => `(tactic| ((try simp only [PySem.Addr] at *); omega))
structure l5 (X : Cx) (own : List Str) (scope : agN) (cl : List (Str × acJ)) (fr : List Nat) (ys : List Str) : Prop where
 clos : ake scope X.env = pure cl
 nocell : (scope.names.all fun p => p.2 != .cell) = true
 kind : scope.kind = .function
 names : (scope.names.all fun p => p.2 != .local || scope.names.lookup p.1 == some .local) = true
 kinds : ((relabel scope X.env).names.all fun p => (p.2 != .cell && p.2 != .free) || (cl.lookup p.1).isSome) = true
 cls : jv X cl
 aO : gZ X scope cl fr ys
 kfr : (ys.all fun y => (relabel scope X.env).names.lookup y == some .cell) = true
noncomputable def sP (k : Nat) (J : It) (g : TG) (ρ : L2.St) (tt : TT) (te : TE) (H : Hp) (Q : VK) : Prop := ∃ W : Nat -> Nat -> List V -> Hp -> Prop, (∃ m, W 0 m [] H) /\ ∀ i m ys H, W i m ys H ->
 (J.stop i H /\ ys.length <= adb /\ ∀ l, H l = none -> Q (.ref l) (upd H l (.lst ys))) ∨ (J.go i H /\ ys.length < adb /\ ∃ N : List V -> Hp -> Prop, (∀ zs H', N zs H' -> ∃ m', m' < m /\ W (i + 1) m' zs H') /\
  ∀ os : List (Option V), os.length = k -> ∀ x H', J.yld i H x H' -> g x (os ++ ρ) H' fun σ2 H2 => ∃ nJ, nJ.length = k /\ σ2 = nJ ++ ρ /\ tt σ2 H2 fun b H1 => if b = true then te σ2 H1 fun y H2 => N (ys ++ [y]) H2 else N ys H1)
noncomputable def n9 (k : Nat) (wi : TI) (g : TG) (fr : List Nat) (tt : TT) (te : TE) : TE := fun σ H Q => wi σ H fun J H1 => sP k J g (fr.map fun j => (σ[j]?).join) tt te H1 Q
theorem PO {prog : ac2} {w : adw} {A : adD} {s : acF} {R : ahp -> acF -> Prop} {elt target iter : ae4} {ifs : List ae4} {scope : agN} {pos : Pos} {it acc : acC} {env : Env} (I : Nat -> acF -> Prop)
 (turn : ∀ n s, I n s -> ac0 (model prog w) A (afW it) (fun r s₁ => match r with
   | none => R (.ok .next) s₁
   | some v => ac0 (model prog w) A (aeW target it v) (fun _ Iv => ac0 (model prog w) A (assign target env v) (fun _ s₂ =>
    ac0 (model prog w) A (forIn ifs true fun c r => if r = true then do let ok <- akb c env (eval c env); pure (ae2 ok) else pure (ae2 r)) (fun ok s₃ =>
     if ok = true then ac0 (model prog w) A (eval elt env) (fun x s₄ =>
      ac0 (model prog w) A (call (.builtin "list.append") [acc, x]) (fun _ s₅ => ∃ m, m < n /\ I m s₅) (ajW (model prog w) A env fun e s' => R (.error e) s') s₄) (ajW (model prog w) A env fun e s' => R (.error e) s') s₃
     else ∃ m, m < n /\ I m s₃) (ajW (model prog w) A env fun e s' => R (.error e) s') s₂) (ajW (model prog w) A env fun e s' => R (.error e) s') Iv) (ajW (model prog w) A env fun e s' => R (.error e) s') s₁) (ajW (model prog w) A env fun e s' => R (.error e) s') s)
 (n : Nat) (h : I n s) :
 afi (model prog w) A (.compLoop (.ListComp elt [⟨target, iter, ifs, 0⟩] scope pos) 0 it acc env) R s := by
 refine codeAny_loop rfl I (fun n s hI => ?_) n h
 show ac0 _ A ((compTurn (.ListComp elt [⟨target, iter, ifs, 0⟩] scope pos) 0 it acc env).onRaise (fun x => do noteFrame x env; theTreesLotGoes x)) _ _ s
 refine wpAny_noted ?_
 rw [compTurn_list]
 refine acA (ahC (acA (adz (turn n s hI) (fun r s₁ h₁ => ?_) fun _ _ h' => h')))
 cases r with
 | none => exact acD h₁
 | some v =>
  refine acA (adz h₁ (fun _ Iv PQ => ?_) fun _ _ h' => h')
  refine acA (adz PQ (fun _ s₂ h₂ => acA (adz h₂ (fun ok s₃ h₃ => ?_) fun _ _ h' => h')) fun _ _ h' => h')
  cases ok with
  | false => exact acD ⟨rfl, h₃⟩
  | true =>
   exact acA (acA (adz h₃ (fun x s₄ h₄ => acA (adz h₄ (fun _ s₅ h₅ => acD (acD ⟨rfl, h₅⟩)) fun _ _ h' => h')) fun _ _ h' => h'))
section
variable {X : Cx} {pins : List (acJ × Obj)} {σ : L2.St} {H2 : Hp} {s2 : acF} {own : List Str} {tg : ae4} {g : TG} {pos : Pos} {elt iter : ae4} {ifs : List ae4} {scope : agN} {cl : List (Str × acJ)} {fr : List Nat} {ys : List Str} {tt : TT} {te : TE}
theorem PR {C : acJ} {ex : List acJ} {pn : List (acJ × Obj)} (S : l5 X own scope cl fr ys) (I2 : Inv X pins σ H2 s2) (f2 : ∀ b ∈ ex, cA X pins H2 b) (hC : s2.heap.objs.size <= C) (hex : ∀ b ∈ ex, b < s2.heap.objs.size) : (bg X (own ++ ys) scope cl C s2 H2 ex pn).Ok := by
 refine ⟨I2.ok.mod, S.kind, I2.ok.glob, I2.ok.blt, hC, fun a b c h1 h2 => ?_, fun y hy => ?_, fun _ _ z => (nomatch z), I2.ok.hd, I2.ok.frames, .inl rfl, fun b hb => ⟨?_, fun y c e z => ?_⟩, I2.bs, acV I2.ok.bsz I2.sz, fun b o e hb => ?_, fun b hb z => ?_, I2.stack, I2.nq⟩
 ·exact I2.ok.inj a b c (S.cls.get a c h1) (S.cls.get b c h2)
 ·have sq : (relabel scope X.env).names.lookup y = some .cell ∨ (relabel scope X.env).names.lookup y = some .free := hy
  have q : (cl.lookup y).isSome = true := by
   rcases sq with e | e
   ·simpa using n3 S.kinds e
   ·simpa using n3 S.kinds e
  exact aeo.mp q
 ·exact ade (ac8 (hex b hb) hC)
 ·exact (f2 b hb).2.2.2.2.1 y c (S.cls.get y c e) z
 ·obtain ⟨_, _, _, d, _, _⟩ := f2 b hb
  rcases d with d | d
  ·exact I2.ok.noex b o e d
  ·exact absurd (ac8 (acK e) (acV I2.ok.bsz d)) (aec _)
 ·obtain ⟨_, d1, d2, _⟩ := f2 b hb
  rcases acN.mp (I2.dR b z) with q | q
  ·exact d1 q
  ·exact d2 q
theorem Iw {J : It} {fp : List acJ} {it : acJ} {tn : Nat -> aer -> Prop} {E : acC -> acF -> Prop} {Q : VK} {RR : acC -> acJ -> ahp -> acF -> Prop}
 (S : l5 X own scope cl fr ys) (hc : X.calm = true) (hg : ∀ (C : acJ) (s : acF) (H : Hp) (ex : List acJ) (pn : List (acJ × Obj)), PG (bg X (own ++ ys) scope cl C s H ex pn) tg g)
 (hb : ∀ (C : acJ) (s : acF) (H : Hp) (ex : List acJ) (pn : List (acJ × Obj)), g8 (bg X (own ++ ys) scope cl C s H ex pn) ifs tt /\ PE (bg X (own ++ ys) scope cl C s H ex pn) elt te)
 (I2 : Inv X pins σ H2 s2) (T : Turn X.prog X.w X.K tg J fp it tn) (cv : tn 0 s2.heap) (f2 : ∀ b ∈ fp, cA X pins H2 b)
 (h : sP own.length J g (fr.map fun j => (σ[j]?).join) tt te H2 Q)
 (sr : ∀ D C s' H', Inv X pins σ H' s' -> (∃ m, s'.heap.Ns C m) -> cA X pins H' C -> Q (.ref D) H' -> RR (.ref D) C (.ok .next) s') :
 ac0 (model X.prog X.w) X.A (aje []) (fun acc s3 => ac0 (model X.prog X.w) X.A (agA scope X.env.globals cl [] X.env.qual none .none (some X.env)) (fun jx s4 =>
  afi (model X.prog X.w) X.A (.compStart (.ListComp elt [⟨tg, iter, ifs, 0⟩] scope pos) 0 (.ref it) acc { jx with scope := relabel scope X.env }) (RR acc jx.locals) s4) E s3) E s2 := by
 obtain ⟨W, ⟨m0, w0⟩, turn⟩ := h
 refine adN (aiw (fun y hy => by simpa using adk.mp S.nocell y hy) (fun y hy => absurd hy (by simp)) (fun h1 dN dg => ?_) S.kind)
 dsimp only at dN dg ⊢
 generalize eP : s2.heap.push { cls := .type "list", dict := none, data := .seq ([] : List acC).toArray } = P2 at dN dg ⊢
 have sz : P2.objs.size = s2.heap.objs.size + 1 := by rw [<- eP, aeE]
 have cR : s2.heap.objs.size ≠ P2.objs.size := by walk_at "om"
 have keep : ∀ b o, s2.heap.get? b = some o -> h1.get? b = some o := fun b o e => by
  have lt := acK e
  exact dg.extBut b o (by walk_at "om") (acE _ (eP ▸ acE _ e))
 have hD : h1.get? s2.heap.objs.size = some { cls := .type "list", data := .seq ([] : List acC).toArray 0 } :=
  dg.extBut _ _ cR (acE _ (eP ▸ acT _ rfl))
 have cM : ∀ b ∈ fp, b < s2.heap.objs.size := fun b hb => by
  obtain ⟨o, e, _⟩ := T.obj 0 _ cv b hb
  exact acK e
 have jy : ∀ b, s2.heap.objs.size <= b -> b ∉ aO X.stack := fun b hle z => by
  rcases acN.mp (I2.dR b z) with q | q
  ·have := I2.lt; walk_at "om"
  ·exact I2.uP hle q
 generalize eC : P2.objs.size = C at dN dg cR ⊢
 generalize eD : s2.heap.objs.size = D at cR hD cM jy
 have gk : s2.heap.objs.size <= C := by walk_at "om"
 have jz : s2.heap.objs.size <= D := by walk_at "om"
 have su : (bg X (own ++ ys) scope cl C s2 H2 fp (X.pn ++ pins)).Ok := PR S I2 f2 gk (fun b hb => by have := cM b hb; walk_at "om")
 have jA : ∀ p ∈ X.pn ++ pins, p.1 ≠ C /\ p.1 ≠ D /\ p.1 ∉ aO X.stack /\ ∀ b ∈ fp, p.1 ≠ b := fun p hp => by
  obtain ⟨e, n, nL, nf, _⟩ := I2.pin p hp
  have lt := acK e
  refine ⟨by walk_at "om", by walk_at "om", fun z => ?_, fun b hb => (f2 b hb).2.2.2.2.2 p hp⟩
  rcases acN.mp (I2.dR _ z) with q | q
  ·exact nL q
  ·exact nf q
 have I4 : Inv (bg X (own ++ ys) scope cl C s2 H2 fp (X.pn ++ pins)) [] ((own.map fun _ => none) ++ fr.map fun j => (σ[j]?).join) H2 { s2 with heap := h1, toks := s2.toks + ([] : List (Str × acC)).length } := by
  refine ⟨su, rfl, I2.bare, Un.kept keep, ⟨_, dN, fun i y v e1 e2 e3 => ?_⟩, fun y c e => ?_, I2.ai.fresh gk, fun y c e => I2.eF y c (S.cls.get y c e), fun p hp => ?_, I2.ai.kept keep, ?_⟩
  ·by_cases hio : i < own.length
   ·rw [aeh (by simpa using hio)] at e2
    simp [hio] at e2
   ·rw [aez (by simp; omega)] at e2
    have iM : ys[i - own.length]? = some y := by
     have : (own ++ ys)[i]? = some y := e1
     rwa [aez (by omega)] at this
    rw [acI] at e2
    obtain ⟨j, c, hN, hσ, hk, sy, sA⟩ := S.aO.get (i - own.length) y v iM e2
    obtain ⟨m, hm, hl⟩ := I2.loc
    obtain ⟨u, ru, lu⟩ := hl j y v hN hσ (.inr (.inl hk))
    refine ⟨u, ru, .inr ⟨.inl ?_, c, sy, ?_⟩⟩
    ·have z := adk.mp S.kfr y (acZ iM)
     exact (by simpa using z : (relabel scope X.env).names.lookup y = some .cell)
    ·rcases lu with ⟨z, _⟩ | ⟨_, c', e', q'⟩
     ·rw [hk] at z; cases z
     ·rw [sA] at e'; cases e'
      obtain ⟨o, ho, hd⟩ := q'
      exact ⟨o, keep _ _ ho, hd⟩
  ·obtain ⟨v, o, ho, hd⟩ := I2.cell y c (S.cls.get y c e)
   exact ⟨v, o, keep _ _ ho, hd⟩
  ·have bF : p ∈ X.pn ++ pins := by
    have : p ∈ (X.pn ++ pins) ++ [] := hp
    simpa using this
   obtain ⟨e, n, _, _, d⟩ := I2.pin p bF
   obtain ⟨p1, _, p3, _⟩ := jA p bF
   exact ⟨keep _ _ e, n, p1, p3, d⟩
  ·show ((own.map fun _ => (none : Option V)) ++ fr.map fun j => (σ[j]?).join).length = (own ++ ys).length
   simp [S.aO.len]
 have jB : tn 0 h1 := T.keep 0 _ _ cv fun b _ o e => keep b o e
 have gm : ∀ (H' : Hp) (o : Obj), (∀ b ∈ fp, H' b = none) -> ∀ b ∈ fp, cA (bg X (own ++ ys) scope cl C s2 H2 fp (X.pn ++ pins)) [(D, o)] H' b := fun H' o hn b hb => by
  obtain ⟨_, d1, d2, d3, d4, d5⟩ := f2 b hb
  have lt := cM b hb
  refine ⟨hn b hb, ?_, fun z => ?_, .inl hb, fun y c e => d4 y c (S.cls.get y c e), fun p hp => ?_⟩
  ·show b ≠ C
   walk_at "om"
  ·rcases acN.mp (I2.dR b z) with q | q
   ·exact d1 q
   ·exact d2 q
  ·have bF : p ∈ (X.pn ++ pins) ++ [(D, o)] := hp
   rcases adj.mp bF with z | z
   ·exact d5 p z
   ·have : p = (D, o) := by simpa using z
    subst this
    show D ≠ b
    walk_at "om"
 have loop : ∀ s' : acF, s' = { s2 with heap := h1, toks := s2.toks + ([] : List (Str × acC)).length } ->
  afi (model X.prog X.w) X.A (.compLoop (.ListComp elt [⟨tg, iter, ifs, 0⟩] scope pos) 0 (.ref it) (.ref D) (afg scope cl C X.env)) (RR (.ref D) C) s' := by
  rintro s' rfl
  refine PO (fun n s' => ∃ i zs H' os af nn, os.length = own.length /\ Inv (bg X (own ++ ys) scope cl C s2 H2 fp (X.pn ++ pins)) [] (os ++ fr.map fun j => (σ[j]?).join) H' s' /\ tn i s'.heap /\ (∀ b ∈ fp, H' b = none) /\ H' D = none /\
   s'.heap.get? D = some { cls := .type "list", data := .seq (af : List acC).toArray nn } /\ Vals zs af /\ W i n zs H') ?_ m0 ⟨0, [], H2, own.map fun _ => none, [], 0, by simp, I4, jB, fun b hb => (f2 b hb).1, I2.ai.fresh jz, hD, .nil, w0⟩
  rintro n s3 ⟨i, zs, H3, Iy, af, nn, PU, I3, f9, gb, gp, sC, r3, w3⟩
  have jC : Inv (bg X (own ++ ys) scope cl C s2 H2 fp (X.pn ++ pins)) [(D, { cls := .type "list", data := .seq af.toArray nn })] (Iy ++ fr.map fun j => (σ[j]?).join) H3 s3 := I3.gH fun p hp => by
   have : p = (D, { cls := .type "list", data := .seq af.toArray nn }) := by simpa using hp
   subst this
   exact ⟨sC, gp, cR, jy D (ac1 _), fun v z => nomatch z⟩
  rcases turn i n zs H3 w3 with ⟨stop, hlen, q⟩ | ⟨go, hlen, N, jD, step⟩
  ·refine adz (T.done (bg X (own ++ ys) scope cl C s2 H2 fp (X.pn ++ pins)) rfl rfl rfl hc i _ s3 _ H3 (fun _ _ => False) jC (gm H3 _ gb) f9 stop) (fun r s4 ⟨hr, J4⟩ => ?_) fun _ _ z => z.elim
   subst hr
   have un := J4.base
   have sD : ∀ b o, s2.heap.get? b = some o -> b ≠ D := fun b o e => by have := acK e; walk_at "om"
   have cS : ∀ b u, H3 b = some u -> b ≠ D := fun b u e z => by rw [z, gp] at e; cases e
   refine sr D C s4 (upd H3 D (.lst zs)) ?_ ?_ ?_ (q D gp)
   ·refine I2.Ah (ch := fp) J4.os ⟨un.keep, un.slot, fun b o e nn hx => ?_, un.there, fun b xs e => ?_, fun b o u e => ?_, fun b ps e => ?_⟩ (fun a o e => ?_) J4.bare fun b hb => ?_
    ·rw [aA (sD b o e)]; exact un.free b o e nn hx
    ·have := un.cH b xs e; rw [aA (cS b _ this)]; exact this
    ·have := un.cI b o u e; rw [aA (cS b _ this)]; exact this
    ·obtain ⟨more, this⟩ := un.cU b ps e
     exact ⟨more, by rw [aA (cS b _ this)]; exact this⟩
    ·by_cases ha : a = D
     ·subst ha
      rw [aq] at e; cases e
      exact ⟨hlen, af, nn, r3, (J4.pin (a, _) (acL _ (adG.mpr rfl))).1⟩
     ·rw [aA ha] at e
      exact (J4.ai a o e).eE (fun _ _ _ z => z) (fun b z => by rw [aA (cS b _ z)]; exact z) fun b xs z => by rw [aA (cS b _ z)]; exact z
    ·obtain ⟨_, d1, d2, d3, d4, d5⟩ := f2 b hb
     exact ⟨d3, d1, d4, d5⟩
   ·obtain ⟨m, hm, _⟩ := J4.loc
    exact ⟨m, hm⟩
   ·exact I2.gN gk (by rw [aA (adV cR)]; exact J4.free)
  ·refine adz (T.item (bg X (own ++ ys) scope cl C s2 H2 fp (X.pn ++ pins)) rfl rfl rfl hc i _ s3 _ H3 (fun _ _ => False) jC (gm H3 _ gb) f9 go) (fun r s4 ⟨u, hr, h4⟩ => ?_) fun _ _ z => z.elim
   subst hr
   refine adz h4 (fun _ s5 ⟨y5, H5, I5, r5, yl, dI, lB⟩ => ?_) fun _ _ z => z.elim
   have lC := I5.pinned (gm H5 _ lB) (T.obj _ _ dI)
   refine adz (hg C s2 H2 fp (X.pn ++ pins) _ s5 _ H5 y5 u _ lC r5 (step Iy PU y5 H5 yl)) (fun _ s6 ⟨σ6, H6, I6, wm, Iz, e6, q6⟩ => ?_) fun _ _ z => z.elim
   subst e6
   have after : ∀ (s7 : acF) (H7 : Hp), Inv (bg X (own ++ ys) scope cl C s2 H2 fp (X.pn ++ pins)) ([(D, { cls := .type "list", data := .seq af.toArray nn })] ++ lA fp s5.heap) (wm ++ fr.map fun j => (σ[j]?).join) H7 s7 ->
    Inv (bg X (own ++ ys) scope cl C s2 H2 fp (X.pn ++ pins)) [] (wm ++ fr.map fun j => (σ[j]?).join) H7 s7 /\ tn (i + 1) s7.heap /\ (∀ b ∈ fp, H7 b = none) /\ H7 D = none /\ s7.heap.get? D = some { cls := .type "list", data := .seq af.toArray nn } := fun s7 H7 I7 => by
    have pD := I7.pin (D, { cls := .type "list", data := .seq af.toArray nn }) (acL _ (adW _ (adG.mpr rfl)))
    refine ⟨I7.gH fun p hp => absurd hp (by simp), T.keep _ _ _ dI fun b hb o e => (I7.pin (b, o) (acL _ (acL _ (ji hb e)))).1, fun b hb => ?_, pD.2.1, pD.1⟩
    obtain ⟨o, e, _⟩ := T.obj _ _ dI b hb
    exact (I7.pin (b, o) (acL _ (acL _ (ji hb e)))).2.1
   refine adz ((hb C s2 H2 fp (X.pn ++ pins)).1 _ s6 _ H6 _ I6 q6) (fun ok s7 ⟨H7, I7, q7⟩ => ?_) fun _ _ z => z.elim
   dsimp only at q7
   by_cases ai : ok = true
   ·rw [if_pos ai] at q7 ⊢
    refine adz ((hb C s2 H2 fp (X.pn ++ pins)).2 _ s7 _ H7 _ I7 q7) (fun yv s8 ⟨y8, H8, I8, r8, n8⟩ => ?_) fun _ _ z => z.elim
    obtain ⟨m', eU, w8⟩ := jD _ _ n8
    obtain ⟨J8, sE, sF, jE, gu⟩ := after s8 H8 I8
    have hl := r3.length
    refine ait agj ⟨_, gu, rfl⟩ af9 (afQ _ _) (agv D af.toArray nn yv (by rw [ac4]; walk_at "om")) ⟨gu, ?_⟩
    have jF := agP gu (fun a => a.push yv)
    rw [ahv] at jF
    refine ⟨m', eU, i + 1, zs ++ [y8], H8, wm, af ++ [yv], _, Iz, J8.turned (it := D) (fun b o bS e => (acM _ _ (adV bS)).trans e) jE cR (.inr jz) (fun y c e z => ?_) (fun p hp => ?_), T.keep _ _ _ sE fun b bS o e => ?_, sF, jE, jF, r3.append (.cons r8 .nil), w8⟩
    ·obtain ⟨v, o, ho, _⟩ := I2.cell y c (S.cls.get y c e)
     have := acK ho
     walk_at "om"
    ·have bF : p ∈ X.pn ++ pins := by
      have : p ∈ (X.pn ++ pins) ++ [] := hp
      simpa using this
     exact (jA p bF).2.1
    ·have := cM b bS
     exact (acM _ _ (by walk_at "om")).trans e
   ·rw [if_neg ai] at q7 ⊢
    obtain ⟨m', eU, w7⟩ := jD _ _ q7
    obtain ⟨J7, sH, sI, sJ, sL⟩ := after s7 H7 I7
    exact ⟨m', eU, i + 1, zs, H7, wm, af, nn, Iz, J7, sH, sI, sJ, sL, r3, w7⟩
 exact ago (loop _ rfl) (T.self X.A 0 _ _ _ jB (loop _ rfl))
theorem IA {wi : TI} (S : l5 X own scope cl fr ys) (hc : X.calm = true) (hi : PI X tg iter wi) (hg : ∀ (C : acJ) (s : acF) (H : Hp) (ex : List acJ) (pn : List (acJ × Obj)), PG (bg X (own ++ ys) scope cl C s H ex pn) tg g)
 (hb : ∀ (C : acJ) (s : acF) (H : Hp) (ex : List acJ) (pn : List (acJ × Obj)), g8 (bg X (own ++ ys) scope cl C s H ex pn) ifs tt /\ PE (bg X (own ++ ys) scope cl C s H ex pn) elt te)
 (hs : ∀ z, afh iter X.env z = pure z := by intro _; rfl) : PE X (.ListComp elt [⟨tg, iter, ifs, 0⟩] scope pos) (n9 own.length wi g fr tt te) := by
 intro pins s σ H Q I h
 rw [aiX]
 refine aeJ (use := none) rfl hs S.clos S.kind (fun y hy hl => ?_) (au (hi pins s σ H _ I h) fun xv s1 h1 => au h1 fun ly s2 h2 => ?_)
 ·have z := adk.mp S.names y hy
  rw [hl] at z
  simpa using z
 ·obtain ⟨it, fp, tn, J, H2, rfl, I2, T, cv, f2, hB⟩ := h2
  refine Iw (RR := fun acc C => ajK (model X.prog X.w) X.A X.xe none (EP X pins σ Q) acc C) S hc hg hb I2 T cv f2 hB fun D C s' H' J' hn fC q => ?_
  obtain ⟨m, hm⟩ := hn
  obtain ⟨c0, c1, c2, c3, c4, c5⟩ := fC
  exact ⟨m, hm, fun h' sb => ⟨.ref D, H', J'.turned (it := C) (fun b o hb e => sb.extBut b o hb e) c0 c1 c3 c4 c5, rfl, q⟩⟩
theorem PV {wi : TI} {y : Str} {py sM : Pos} {i : Nat} (S : l5 X own scope cl fr ys) (hc : X.calm = true) (hN : X.N.Nodup) (hy : X.N[i]? = some y) (hl : X.env.scope.names.lookup y = some .local) (hi : PI X tg iter wi) (hg : ∀ (C : acJ) (s : acF) (H : Hp) (ex : List acJ) (pn : List (acJ × Obj)), PG (bg X (own ++ ys) scope cl C s H ex pn) tg g)
 (hb : ∀ (C : acJ) (s : acF) (H : Hp) (ex : List acJ) (pn : List (acJ × Obj)), g8 (bg X (own ++ ys) scope cl C s H ex pn) ifs tt /\ PE (bg X (own ++ ys) scope cl C s H ex pn) elt te)
 (AZ : ah5 (.ListComp elt [⟨tg, iter, ifs, 0⟩] scope pos) (some (.Name y py)) sM.line X.env = pure true := by rfl)
 (hs : ∀ z, afh iter X.env z = pure z := by intro _; rfl) : PS X (.Assign [.Name y py] (.ListComp elt [⟨tg, iter, ifs, 0⟩] scope pos) sM) (n4 i (n9 own.length wi g fr tt te)) := by
 intro pins s σ H Dn I h
 rw [aif _ _ _ _ AZ]
 refine acA (ahC (acA ?_))
 show ac0 _ X.A (do let _ <- comprehension (.ListComp elt [⟨tg, iter, ifs, 0⟩] scope pos) scope X.env _ (aje []) false (eval iter X.env) (some (assign (.Name y py) X.env))) _ _ s
 refine acA (au (aeJ (use := some (assign (.Name y py) X.env)) (Q := fun _ s' => SP X pins Dn .next s') rfl hs S.clos S.kind (fun z hz hl => ?_) (au (hi pins s σ H _ I h) fun xv s1 h1 => au h1 fun ly s2 h2 => ?_)) fun _ s' hq => acD (acD hq))
 ·have z' := adk.mp S.names z hz
  rw [hl] at z'
  simpa using z'
 ·obtain ⟨it, fp, tn, J, H2, rfl, I2, T, cv, f2, hB⟩ := h2
  refine Iw (RR := fun acc C => ajK (model X.prog X.w) X.A X.xe (some (assign (.Name y py) X.env)) (fun _ s' => SP X pins Dn .next s') acc C) S hc hg hb I2 T cv f2 hB fun D C s' H' J' hn fC q => ?_
  obtain ⟨m, oC, es, ep, ho, hd, hr⟩ := hn
  obtain ⟨c0, c1, c2, c3, c4, c5⟩ := fC
  have J2 : Inv X (pins ++ [(C, oC)]) σ H' s' := J'.gH fun p hp => by
   rcases adj.mp hp with z | z
   ·exact J'.pin p (acL _ z)
   ·have : p = (C, oC) := by simpa using z
    subst this
    exact ⟨ho, c0, c1, c2, fun v z => by rw [hd] at z; cases z⟩
  show ac0 _ X.A (assign (.Name y py) X.env (.ref D)) _ _ _
  refine au (bb (X := X) hN hy (.inl hl) (.inr hl) _ s' σ H' (.ref D) (.ref D) (fun σ' g9 => σ' = σ.set i (some (.ref D)) /\ g9 = H') J2 rfl ⟨rfl, rfl⟩) fun _ s3 ⟨σ3, H3, J3, e1, e2⟩ => ?_
  subst e1 e2
  obtain ⟨pc, Pn, _⟩ := J3.pin (C, oC) (acL _ (acL _ (adG.mpr rfl)))
  refine ⟨m, ⟨oC, es, ep, pc, hd, hr⟩, fun h' sb => ⟨_, H3, J3.rh.turned (it := C) (fun b o hb e => sb.extBut b o hb e) c0 c1 c3 c4 c5, q⟩⟩
end
end Gz
namespace Gz
open PySem PySem.Spec PyProof.Rows L2
section
variable {X : Cx} {K : acB}
variable {ρ : L2.St} {tt : TT} {te : TE} {H : Hp} {Q : VK} {a b : acJ} {xs ys : List V}
end
end Gz
namespace Gz
open PySem PySem.Spec PyProof.Rows L2
mutual
noncomputable def fL : Nat -> afX -> Bool
 | _, .none => true
 | _, .bool _ => true
 | _, .int _ => true
 | n + 1, .tuple ds => og n ds
 | n + 1, .list ds => og n ds
 | _, _ => false
noncomputable def og : Nat -> List afX -> Bool
 | _, [] => true
 | n, d :: ds => fL n d && og n ds
end
mutual
theorem IB : ∀ (d : afX) {n : Nat}, fL n d = true -> afN d d = true /\ d.canLay0 = true /\ d.depth <= n
 | .none, n, _ => ⟨rfl, rfl, adf _⟩
 | .bool b, n, _ => ⟨by simp [afN], rfl, adf _⟩
 | .int i, n, _ => ⟨by simp [afN], rfl, adf _⟩
 | .str x, 0, h => by simp [fL] at h
 | .str x, n + 1, h => by simp [fL] at h
 | .dict x, 0, h => by simp [fL] at h
 | .dict x, n + 1, h => by simp [fL] at h
 | .tuple ds, 0, h => by simp [fL] at h
 | .list ds, 0, h => by simp [fL] at h
 | .tuple ds, n + 1, h => by
  obtain ⟨a, b, c⟩ := A5 ds (n := n) (by simpa [fL] using h)
  exact ⟨by simpa only [afN] using a, by simpa only [ahg] using b, by simp only [PyData.depth]; omega⟩
 | .list ds, n + 1, h => by
  obtain ⟨a, b, c⟩ := A5 ds (n := n) (by simpa [fL] using h)
  exact ⟨by simpa only [afN] using a, by simpa only [ahg] using b, by simp only [PyData.depth]; omega⟩
theorem A5 : ∀ (ds : List afX) {n : Nat}, og n ds = true -> ahG ds ds = true /\ agx ds = true /\ ag0 ds <= n
 | [], n, _ => ⟨rfl, rfl, adf _⟩
 | d :: ds, n, h => by
  have h' : fL n d = true /\ og n ds = true := by simpa [og] using h
  obtain ⟨a, b, c⟩ := IB d h'.1
  obtain ⟨a', b', c'⟩ := A5 ds h'.2
  exact ⟨by simp only [ahG, a, a', ahH], by simp only [agx, b, b', ahH], by simp only [ag0]; omega⟩
end
end Gz
namespace Gz
open PySem PySem.Spec PyProof.Rows L2
end Gz
namespace Gz
open PySem PySem.Spec PyProof.Rows L2
noncomputable def ak {α : Type} (R : V -> α -> Prop) : List V -> List α -> Prop
 | [], [] => True
 | x :: xs, a :: as => R x a /\ ak R xs as
 | _, _ => False
section
variable {α : Type} {R R' : V -> α -> Prop}
theorem ak.len : ∀ {xs : List V} {as : List α}, ak R xs as -> xs.length = as.length
 | [], [], _ => rfl
 | _ :: _, _ :: _, h => by simp [ak.len h.2]
 | [], _ :: _, h => h.elim
 | _ :: _, [], h => h.elim
theorem ak.imp (f : ∀ x a, R x a -> R' x a) : ∀ {xs : List V} {as : List α}, ak R xs as -> ak R' xs as
 | [], [], _ => trivial
 | _ :: _, _ :: _, h => ⟨f _ _ h.1, ak.imp f h.2⟩
 | [], _ :: _, h => h.elim
 | _ :: _, [], h => h.elim
theorem ak.get : ∀ {xs : List V} {as : List α}, ak R xs as -> ∀ {i : Nat} {x : V}, xs[i]? = some x -> ∃ a, as[i]? = some a /\ R x a
 | [], [], _, i, x, e => by simp at e
 | _ :: _, a :: _, h, 0, x, e => by simp at e; subst e; exact ⟨a, by simp, h.1⟩
 | _ :: _, _ :: _, h, i + 1, x, e => by
  simp only [aee] at e ⊢
  exact ak.get h.2 e
 | [], _ :: _, h, _, _, _ => h.elim
 | _ :: _, [], h, _, _, _ => h.elim
theorem ak.at : ∀ {xs : List V} {as : List α}, ak R xs as -> ∀ {i : Nat} {a : α}, as[i]? = some a -> ∃ x, xs[i]? = some x /\ R x a
 | [], [], _, i, x, e => by simp at e
 | x :: _, _ :: _, h, 0, a, e => by simp at e; subst e; exact ⟨x, by simp, h.1⟩
 | _ :: _, _ :: _, h, i + 1, a, e => by
  simp only [aee] at e ⊢
  exact ak.at h.2 e
 | [], _ :: _, h, _, _, _ => h.elim
 | _ :: _, [], h, _, _, _ => h.elim
theorem ak.app : ∀ {xs ys : List V} {as bs : List α}, ak R xs as -> ak R ys bs -> ak R (xs ++ ys) (as ++ bs)
 | [], _, [], _, _, h => h
 | _ :: _, _, _ :: _, _, h, h' => ⟨h.1, ak.app h.2 h'⟩
 | [], _, _ :: _, _, h, _ => h.elim
 | _ :: _, _, [], _, h, _ => h.elim
theorem ak.snoc {xs : List V} {as : List α} {x : V} {a : α} (h : ak R xs as) (h' : R x a) : ak R (xs ++ [x]) (as ++ [a]) := h.app ⟨h', trivial⟩
theorem ak.take : ∀ {xs : List V} {as : List α} (n : Nat), ak R xs as -> ak R (xs.take n) (as.take n)
 | [], [], n, _ => by simp [ak]
 | _ :: _, _ :: _, 0, _ => by simp [ak]
 | _ :: _, _ :: _, n + 1, h => by simpa [ak] using ⟨h.1, ak.take n h.2⟩
 | [], _ :: _, _, h => h.elim
 | _ :: _, [], _, h => h.elim
theorem ak.drop : ∀ {xs : List V} {as : List α} (n : Nat), ak R xs as -> ak R (xs.drop n) (as.drop n)
 | [], [], n, _ => by simp [ak]
 | _ :: _, _ :: _, 0, h => by simpa using h
 | _ :: _, _ :: _, n + 1, h => by simpa using ak.drop n h.2
 | [], _ :: _, _, h => h.elim
 | _ :: _, [], _, h => h.elim
theorem ak.iy {lo : Int} (n : Nat) : ak (fun x (k : Nat) => x = V.int (lo + k)) ((adh n).map fun k => V.int (lo + (k : Nat))) (adh n) := by
 suffices ∀ l : List Nat, ak (fun x (k : Nat) => x = V.int (lo + k)) (l.map fun k => V.int (lo + (k : Nat))) l from this _
 intro l
 induction l with
 | nil => trivial
 | cons a l ih => exact ⟨rfl, ih⟩
end
theorem filter_tt {α : Type} (l : List α) : l.filter (fun _ => true) = l := aiO.mpr fun _ _ => rfl
noncomputable abbrev P2 := Int × Int
noncomputable def aX (H : Hp) (v : V) (p : P2) : Prop := ∃ a, v = .ref a /\ H a = some (.tup [.int p.1, .int p.2])
theorem aX.same {H H' : Hp} {v : V} {p : P2} (h : aX H v p) (s : aj H H') : aX H' v p := let ⟨a, e, q⟩ := h; ⟨a, e, s _ _ q⟩
theorem aX.new {H : Hp} {a : acJ} {x y : Int} : aX (upd H a (.tup [.int x, .int y])) (.ref a) (x, y) := ⟨a, rfl, aq⟩
theorem aX.put {H : Hp} {v : V} {p : P2} {r : acJ} {ys zs : List V} (h : aX H v p) (hr : H r = some (.lst ys)) : aX (upd H r (.lst zs)) v p := by
 obtain ⟨a, e, q⟩ := h
 refine ⟨a, e, ?_⟩
 rw [aA (Ad q hr (fun z => nomatch z))]; exact q
noncomputable abbrev dZ (H : Hp) : List V -> List P2 -> Prop := ak (aX H)
theorem dZ.same {H H' : Hp} {xs : List V} {ps : List P2} (h : dZ H xs ps) (s : aj H H') : dZ H' xs ps := ak.imp (fun _ _ r => r.same s) h
theorem dZ.put {H : Hp} {xs : List V} {ps : List P2} {r : acJ} {ys zs : List V} (h : dZ H xs ps) (hr : H r = some (.lst ys)) : dZ (upd H r (.lst zs)) xs ps := ak.imp (fun _ _ x => x.put hr) h
noncomputable def wo (ns : List Int) : Bool := (ns.zip (ns.drop 1)).all fun r => decide (r.1 < r.2)
theorem PX {ns : List Int} : wo ns = true ↔ ∀ i, i + 1 < ns.length -> ns.getD i 0 < ns.getD (i + 1) 0 := by
 unfold wo
 rw [adk]
 constructor
 ·intro h i hi
  have e : (ns.zip (ns.drop 1))[i]? = some (ns.getD i 0, ns.getD (i + 1) 0) := by
   rw [ahh, ahc, acH, acH, acG (show i < ns.length by omega), show 1 + i = i + 1 by omega, acG hi]
   exact ⟨rfl, rfl⟩
  simpa using h _ (acZ e)
 ·intro h r hr
  obtain ⟨i, hi⟩ := afJ.mp hr
  rw [ahh, ahc] at hi
  have h1 := (acX.mp hi.2).1
  have := h i (by omega)
  rw [acH, acH, hi.1, show i + 1 = 1 + i by omega, hi.2] at this
  simpa using this
noncomputable def bo (ps : List P2) (i : Nat) : P2 := ps.getD i (0, 0)
end Gz
namespace Gz
open PySem PySem.Spec PyProof.Rows L2
end Gz
namespace Gz
open PySem PySem.Spec PyProof.Rows L2
end Gz
namespace Gz
open PySem PySem.Spec PyProof.Rows L2
noncomputable def sQ (s e : P2) (p q t b : Int) : Prop := (t - s.2 * b) * (e.1 - s.1) * q = (p - s.1 * q) * (e.2 - s.2) * b
noncomputable def wt (ks : List P2) (p q : Int) (i : Nat) : Prop := i + 1 < ks.length /\ (bo ks i).1 * q <= p /\ p <= (bo ks (i + 1)).1 * q
noncomputable def hit (ks : List P2) (p q : Int) : Prop := ∃ i, wt ks p q i
structure Led (ks : List P2) (p q t b : Int) : Prop where
 pos : 1 <= b
 low : vR t b = 1
 on : ∀ i, wt ks p q i -> sQ (bo ks i) (bo ks (i + 1)) p q t b
theorem IC {ks : List P2} {i : Nat} (h : i < ks.length) : (ks.map (·.1)).getD i 0 = (bo ks i).1 := by
 unfold bo
 rw [acH, adn, acH, acG h]; rfl
theorem ID {ks : List P2} (h : wo (ks.map (·.1)) = true) : ∀ {i j : Nat}, i < j -> j < ks.length -> (bo ks i).1 < (bo ks j).1 := by
 rw [PX] at h
 have st : ∀ i, i + 1 < ks.length -> (bo ks i).1 < (bo ks (i + 1)).1 := fun i hi => by
  have := h i (by rw [acI]; exact hi)
  rwa [IC (by omega), IC hi] at this
 intro i j eR hj
 induction j with
 | zero => omega
 | succ j ih =>
  by_cases e : i = j
  ·subst e; exact st i hj
  ·exact Int.lt_trans (ih (by omega) (by omega)) (st j hj)
theorem PY {a b c : P2} {p q t w : Int} (hq : 0 < q) (cw : a.1 < b.1) (h1 : p = b.1 * q) (h : sQ a b p q t w) : sQ b c p q t w := by
 unfold sQ at *
 subst h1
 have e : (t - b.2 * w) * ((b.1 - a.1) * q) = 0 := by grind
 have n : (b.1 - a.1) * q ≠ 0 := Int.mul_ne_zero (by omega) (by omega)
 have := (Int.mul_eq_zero.mp e).resolve_right n
 have e2 : t - b.2 * w = 0 := this
 rw [e2]; grind
theorem Led.of {ks : List P2} {p q t b : Int} {i : Nat} (hr : wo (ks.map (·.1)) = true) (hq : 0 < q) (h1 : 1 <= b) (h2 : vR t b = 1) (hi : wt ks p q i) (first : ∀ j, j < i -> ¬ wt ks p q j) (h : sQ (bo ks i) (bo ks (i + 1)) p q t b) : Led ks p q t b := by
 refine ⟨h1, h2, fun j hj => ?_⟩
 by_cases e : j = i
 ·rw [e]; exact h
 by_cases lt : j < i
 ·exact absurd hj (first j lt)
 by_cases e1 : j = i + 1
 ·subst e1
  have l1 := ID hr (i := i) (j := i + 1) (by omega) (by have := hj.1; omega)
  exact PY hq l1 (by have := hi.2.2; have := hj.2.1; omega) h
 ·have l1 := ID hr (i := i + 1) (j := j) (by omega) (by have := hj.1; omega)
  have : (bo ks (i + 1)).1 * q < (bo ks j).1 * q := Int.mul_lt_mul_of_pos_right l1 hq
  have a1 := hi.2.2
  have a2 := hj.2.1
  omega
noncomputable def IE (H : Hp) (v : V) (t b : Int) : Prop := ∃ a, v = .ref a /\ H a = some (.tup [.int t, .int b])
theorem IE.p {K : acB} {H : Hp} {v : V} {t b : Int} (h : IE H v t b) : OV K H v t b := let ⟨a, e, q⟩ := h; ⟨a, e, az.of q⟩
noncomputable def SameBut (x : acJ) (H H' : Hp) : Prop := ∀ b o, b ≠ x -> H b = some o -> H' b = some o
end Gz
namespace Gz
open PySem PySem.Spec PyProof.Rows L2
theorem IF {ps : List P2} {i : Nat} (hi : i < ps.length) : bo ps i ∈ ps := by
 unfold bo; rw [acH, acG hi]; exact adZ hi
end Gz
namespace Gz
open PySem PySem.Spec PyProof.Rows L2
theorem d6 {α β : Type} {R : Hp -> V -> α -> Prop} {R' : Hp -> V -> β -> Prop} {Ok : Hp -> Prop} {ρ : L2.St} {tt : TT} {te : TE} {f : α -> β} {Q' : List V -> Hp -> Prop} (mono : ∀ H H' x a, aj H H' -> R H x a -> R H' x a) (oh : ∀ H H' x a, aj H H' -> R' H x a -> R' H' x a) :
 ∀ {xs : List V} {as : List α} {ys : List V} {bs : List β} {H : Hp}, ak (R H) xs as -> ak (R' H) ys bs -> (∀ H', aj H H' -> Ok H') -> (∀ x a, a ∈ as -> ∀ H', aj H H' -> R H' x a -> ∀ Q, Q true H' -> tt (some x :: ρ) H' Q) ->
 (∀ x a, a ∈ as -> ∀ H', aj H H' -> R H' x a -> ∀ Q : VK, (∀ g9 y, aj H' g9 -> R' g9 y (f a) -> Q y g9) -> te (some x :: ρ) H' Q) ->
 (∀ H' zs, aj H H' -> ak (R' H') zs (bs ++ as.map f) -> Q' zs H') -> dP Ok ρ tt te xs ys H Q'
 | [], [], ys, bs, H, _, hy, b8, _, _, q => ⟨b8 H (aj.refl H), q H ys (aj.refl H) (by simpa using hy)⟩
 | x :: xs, a :: as, ys, bs, H, h, hy, b8, ht, he, q => by
  refine ⟨b8 H (aj.refl H), ht x a (.head _) H (aj.refl H) h.1 _ ?_⟩
  rw [if_pos rfl]
  refine he x a (.head _) H (aj.refl H) h.1 _ fun H2 y s2 r2 => ?_
  refine d6 mono oh (bs := bs ++ [f a]) (h.2.imp fun x a r => mono _ _ _ _ s2 r) ((hy.imp fun x a r => oh _ _ _ _ s2 r).snoc r2) (fun H' s' => b8 H' (s2.trans s')) (fun x a ha H' s' => ht x a (.tail _ ha) H' (s2.trans s')) (fun x a ha H' s' => he x a (.tail _ ha) H' (s2.trans s')) fun H' zs s' hz => ?_
  refine q H' zs (s2.trans s') ?_
  rw [ac7]
  rwa [aeT] at hz
 | [], _ :: _, _, _, _, h, _, _, _, _, _ => h.elim
 | _ :: _, [], _, _, _, h, _, _, _, _, _ => h.elim
end Gz
namespace Gz
open PySem PySem.Spec PyProof.Rows L2
end Gz
namespace Gz
open PySem PySem.Spec PyProof.Rows L2
theorem AE {us : List acC} {ns : List Int} (h : afP us ns) : Vals (ns.map V.int) us := by
 induction h with
 | nil => exact .nil
 | cons n t r ih => exact .cons ⟨t, rfl⟩ ih
theorem A6 {α : Type} {R : Hp -> V -> α -> Prop} {Ok : Hp -> Prop} {ρ : L2.St} {tt : TT} {te : TE} {p : α -> Bool} {Q' : List V -> Hp -> Prop} (mono : ∀ H H' x a, aj H H' -> R H x a -> R H' x a) : ∀ {xs : List V} {as : List α} {ys : List V} {H : Hp}, ak (R H) xs as -> (∀ H', aj H H' -> Ok H') ->
 (∀ x a, a ∈ as -> ∀ H', aj H H' -> R H' x a -> ∀ Q, (∀ g9, aj H' g9 -> Q (p a) g9) -> tt (some x :: ρ) H' Q) -> (∀ x H', aj H H' -> ∀ Q : VK, Q x H' -> te (some x :: ρ) H' Q) ->
 (∀ H' zs, aj H H' -> ak (R H') zs (as.filter p) -> Q' (ys ++ zs) H') -> dP Ok ρ tt te xs ys H Q'
 | [], [], ys, H, _, b8, _, _, q => ⟨b8 H (aj.refl H), by simpa using q H [] (aj.refl H) trivial⟩
 | x :: xs, a :: as, ys, H, h, b8, ht, he, q => by
  refine ⟨b8 H (aj.refl H), ht x a (.head _) H (aj.refl H) h.1 _ fun H1 s1 => ?_⟩
  have go := fun (ws : List V) (q2 : ∀ H' zs, aj H1 H' -> ak (R H') zs (as.filter p) -> Q' (ws ++ zs) H') => A6 (ys := ws) mono (h.2.imp fun x a r => mono _ _ _ _ s1 r) (fun H' s' => b8 H' (s1.trans s')) (fun x a ha H' s' => ht x a (.tail _ ha) H' (s1.trans s')) (fun x H' s' => he x H' (s1.trans s')) q2
  by_cases hb : p a = true
  ·rw [if_pos hb]
   refine he x H1 s1 _ (go _ fun H' zs s' hz => ?_)
   have := q H' (x :: zs) (s1.trans s') (by rw [adI, if_pos hb]; exact ⟨mono _ _ _ _ (s1.trans s') h.1, hz⟩)
   simpa using this
  ·rw [if_neg hb]
   refine go _ fun H' zs s' hz => q H' zs (s1.trans s') ?_
   rw [adI, if_neg hb]; exact hz
 | [], _ :: _, _, _, h, _, _, _, _ => h.elim
 | _ :: _, [], _, _, h, _, _, _, _ => h.elim
noncomputable abbrev PZ (H : Hp) (v : V) (s : S2) : Prop := a8 H v s.1 s.2
theorem lY.all : ∀ {H : Hp} {xs : List V} {ss : List S2}, lY H xs ss -> ak (PZ H) xs ss
 | _, [], [], _ => trivial
 | _, _ :: _, _ :: _, h => ⟨h.1, lY.all h.2⟩
 | _, [], _ :: _, h => h.elim
 | _, _ :: _, [], h => h.elim
noncomputable def cellsFrom : En -> List Int -> List S2
 | lo, [] => [(lo, none)]
 | lo, z :: zs => (lo, some (z - 1)) :: cellsFrom (some z) zs
end Gz
namespace Gz
open PySem PySem.Spec PyProof.Rows L2
end Gz
namespace Gz
open PySem PySem.Spec PyProof.Rows L2
end Gz
namespace Gz
open PySem PySem.Spec PyProof.Rows L2
section
variable {X : Cx} {CX : dv} {k : Nat} {f C : acJ} {fd : adg} {ps : List Str} {ds : List acC} {b6 : List V} {sp : Sp} {E : XK} {x m : Str} {p pos apos : Pos} {e : ae4} {es : List ae4} {t : TA}
end
section
variable {X : Cx}
noncomputable def wu (ta : TA) : TE := fun σ H Q => ta σ H fun vs H1 => ∃ j : Int, vs = [.int j] /\ 0 <= j /\ j <= 1000 /\ ∀ r, H1 r = none -> Q (.ref r) (upd H1 r (.iy 0 j))
end
section
variable {X : Cx} {CX : dv} {k : Nat} {f : acJ} {fd : adg} {ps : List Str} {ds : List acC} {b6 : List V} {sp : Sp} {E : XK} {m : Str} {pos apos : Pos} {o e : ae4} {es : List ae4} {ta : TE} {t : TA}
noncomputable def wx (K : acB) (m : Str) (f : acJ) (sp : Sp) (b6 : List V) (E : XK) (ta : TE) (t : TA) : TE := fun σ H Q => ta σ H fun x H1 => ∃ a C dx fs, x = .ref a /\ H1 a = some (.ins C dx fs) /\ fz K C /\ Meth K C m f /\ fs.lookup m = none /\
 t σ H1 fun vs H2 => sp (.ref a :: (vs ++ b6)) H2 Q E
end
noncomputable abbrev W2 := Option S2
noncomputable def jH (H : Hp) (v : V) : W2 -> Prop
 | none => v = .non
 | some s => a8 H v s.1 s.2
theorem jH.same {H H' : Hp} {v : V} {w : W2} (h : jH H v w) (s : aj H H') : jH H' v w := by
 cases w with
 | none => exact h
 | some a => exact a8.same h s
end Gz
namespace Gz
open PySem L2 PySem.W PySem.Spec PyProof.Rows
noncomputable def Bt (n : Nat) (x : Int) : Prop := afv x <= n
theorem Bt.add {n : Nat} {x y : Int} (h : Bt n x) (h' : Bt n y) : Bt (n + 1) (x + y) := by
 have := akA h h'
 rwa [Nat.max_self] at this
theorem Bt.mul {n m : Nat} {x y : Int} (h : Bt n x) (h' : Bt m y) : Bt (n + m) (x * y) := akB h h'
theorem Bt.up {n m : Nat} {x : Int} (h : Bt n x) (hm : n <= m) : Bt m x := acV h hm
theorem Bt.small {x : Int} (h1 : -(2 ^ 64) < x) (h2 : x < 2 ^ 64) : Bt 64 x := PySem.intBits_le_64 h1 h2
noncomputable def jI (i j : Int) : Prop := Bt 40000000 i /\ Bt 40000000 j
theorem jI.ok {i j : Int} (h : jI i j) : IntMulOk i j := aj7 h.1 h.2 (by decide)
theorem sR {X : Cx} : bJ X (ahD .Mult) (rI jI fun i j => .int (i * j)) := uX fun _ _ _ _ _ _ _ hc q => mul_int q hc.ok
noncomputable def eY (ns : List Int) : Prop := ns.length <= 63 /\ ∀ x ∈ ns, Bt 1048576 x
theorem weigh : ∀ (ns : List Int) (x : Int), x ∈ ns -> afv x <= afx (ns.map PySem.W.WData.int)
 | [], x, h => by simp at h
 | y :: ns, x, h => by
  have e : afx ((y :: ns).map PySem.W.WData.int) = (if y == 0 then 0 else y.natAbs.log2 + 1) + 1 + afx (ns.map PySem.W.WData.int) := by
   rw [ac7]
   simp only [afx, aix]
  rw [e]
  rcases acN.mp h with rfl | h
  ·unfold afv
   omega
  ·have := weigh ns x h
   omega
theorem P4 {ns : List Int} (h : akf [PySem.W.WData.list (ns.map PySem.W.WData.int)] = true) : ∀ x ∈ ns, Bt 1048576 x := by
 intro x hx
 have h1 : agI (PySem.W.WData.list (ns.map PySem.W.WData.int)) = true := by
  have : (agI (PySem.W.WData.list (ns.map PySem.W.WData.int)) && true) = true := h
  rwa [aiY] at this
 unfold agI at h1
 rw [aej] at h1
 have h2 := of_decide_eq_true h1.2
 have h3 := weigh ns x hx
 simp only [aix] at h2
 unfold Bt
 omega
theorem P5 {l : aih} {k : Nat} {q : ac2} {loose : List Str} {XP : (Str -> Option acC) -> aer -> Prop} {YP : adw -> aer -> Prop} {d : DefRec} {K : Params -> acB} {CX : adw -> dv} {sp : adw -> Sp} {x : Str}
 (most : l.most = some 63) (plain : d.params.defaults = []) (room : bW k ajR)
 (P6 : ∀ (w : adw) (h : aer), YP w h -> (K w.params).In h)
 (F : ∀ (w : adw) (mg : Str -> Option acC) (fa : acJ) (h : aer), (K w.params).In h -> h.Ns acR mg -> mg d.name = some (.ref fa) ->
   ∃ fd : adg, (∀ (s : acF) (u : acC), ajO s fd ⟨[u], []⟩ [(x, u)]) /\
    ∀ base : aer, (K w.params).In base -> base.Ns acR mg -> aK l.prog w (K w.params) mg base (CX w) k fa fd [x] (sp w))
 (law : ∀ (w : adw) (H : Hp) (a : acJ) (ns : List Int), eY ns -> ag (K w.params) H a (ns.map V.int) -> sp w [.ref a] H (fun v _ => v = .bl true) fun _ _ _ => False)
 (calm : ∀ (w : adw) (H : Hp) (s : acF) (e : acC) (s' : acF), CX w [] H s (fun _ _ _ => False) e s' -> False) :
 akt q loose XP YP l.row.toRowW d [] (fun f vs => PySem.call f vs) := by
 intro w t₀ t mg mb G Y f ob pm cd doc dV kV look data code defs at_ gens args vals as pre lay _ well _
 have e1 : dV = .none := Dflts.none defs plain
 have e2 : kV = .none := Dflts.noKw defs
 cases e1
 cases e2
 obtain ⟨a, vs, ns, e3, e4, obj, are, len⟩ := AD.Oh most pre well
 cases e3
 cases e4
 have KX := P6 w _ Y
 obtain ⟨fd, bind, ok⟩ := F w mg f _ KX G.T.g at_
 have run := Ol KX G.T.g G.T.b G.T.builtins G.T.nolimit gens obj are (acV len (by decide)) room ok bind
  (fun H _ S => law w H a ns ⟨len, P4 lay⟩ S) fun H e s' => calm w H t e s'
 refine enter_call (agG run ?_)
 rintro r s' ⟨rfl, old, os, bare⟩
 exact ⟨.inl ⟨.bool true, .bool true, [], rfl, fun _ => rfl, .bool true, AD.Oj l _, fun _ => ⟨List.Pairwise.nil, fun _ z => (nomatch z)⟩⟩, old, os, bare⟩
noncomputable def d7 (ns : List Int) (k : Int) : Int := if 0 < (ns.length : Int) then ns.getD (k % (ns.length : Int)).toNat 0 else 0
theorem IG {ns : List Int} (h : eY ns) (k : Int) : Bt 1048576 (d7 ns k) := by
 unfold d7
 split
 ·rw [acH]
  cases e : ns[(k % (ns.length : Int)).toNat]? with
  | none => exact (Bt.small (by decide) (by decide)).up (by decide)
  | some n => exact h.2 _ (acZ e)
 ·exact (Bt.small (by decide) (by decide)).up (by decide)
theorem IH {ns : List Int} {k : Int} (h : 0 < (ns.length : Int)) : dw (ns.map V.int) (k % (ns.length : Int)) = some (.int (d7 ns k)) := by
 have h1 := agY k (show (ns.length : Int) ≠ 0 by omega)
 have h2 := agk k h
 unfold d7
 rw [if_pos h]
 have ek : k % (ns.length : Int) = (((k % (ns.length : Int)).toNat : Nat) : Int) := by omega
 refine (congrArg (dw _) ek).trans (dz ?_)
 rw [adn, acH, acG (by omega)]
 rfl
theorem P7 {ns : List Int} (h : eY ns) {k : Int} (hk : -1000000 <= k /\ k <= 1000000) : jI k k /\ jI (d7 ns k + 1009) (d7 ns k + 48271 + k * k) := by
 have c := IG h k
 have k1 : Bt 64 k := Bt.small (by omega) (by omega)
 have k2 : Bt 128 (k * k) := k1.mul k1
 have n1 : Bt 1048576 1009 := (Bt.small (by decide) (by decide)).up (by decide)
 have n2 : Bt 1048576 48271 := (Bt.small (by decide) (by decide)).up (by decide)
 exact ⟨⟨k1.up (by decide), k1.up (by decide)⟩, (c.add n1).up (by decide), ((c.add n2).add (k2.up (by decide))).up (by decide)⟩
theorem P8 {ns : List Int} (h : eY ns) (k : Int) : jI 2147483629 (d7 ns k) /\ jI (2147483629 * d7 ns k) (d7 ns k) /\ jI (2147483629 * d7 ns k * d7 ns k) (d7 ns k) := by
 have c := IG h k
 have n1 : Bt 64 2147483629 := Bt.small (by decide) (by decide)
 have c1 := n1.mul c
 have c2 := c1.mul c
 exact ⟨⟨n1.up (by decide), c.up (by decide)⟩, ⟨c1.up (by decide), c.up (by decide)⟩, c2.up (by decide), c.up (by decide)⟩
end Gz
namespace Gz
open PySem PySem.Spec PyProof.Rows L2
end Gz
namespace Gz
open PySem PySem.Spec PyProof.Rows L2
theorem A7 {vs : List Int} {p : Int} (h0 : 0 <= p) (h1 : p < (vs.length : Int)) : ∃ v, v ∈ vs /\ dw (vs.map V.int) p = some (.int v) := by
 have e : p = ((p.toNat : Nat) : Int) := by omega
 refine ⟨vs[p.toNat]'(by omega), adZ _, ?_⟩
 refine (congrArg (dw _) e).trans (dz ?_)
 rw [adn, acG (by omega)]
 rfl
theorem II {x : Int} (h : x.natAbs < 2 ^ 600) : Bd 4000 x := Bd.up (n := 600) h (by decide)
theorem gx {x y : Int} (h : x.natAbs < 2 ^ 600) (h' : y.natAbs < 2 ^ 600) : rX x y := ⟨II h, II h'⟩
end Gz
namespace Gz
end Gz
namespace Gz
open PySem L2
theorem aN {a b : TS} {D : Ends} {σ : L2.St} {H : Hp} (I : L2.St -> Hp -> Prop) (h1 : ∀ N : L2.St -> Hp -> Prop, (∀ σ H, I σ H -> N σ H) -> a { D with nx := N } σ H) (h2 : ∀ σ H, I σ H -> b D σ H) : nz a b D σ H := h1 _ h2
end Gz
namespace Gz
open PySem L2 PySem.W PySem.Spec PyProof.Rows
noncomputable def pre (f : P2 -> Int) (ps : List P2) (i : Nat) : Int := ((ps.take i).map f).sum
theorem l7 (f : P2 -> Int) (ps : List P2) {i : Nat} (h : i < ps.length) : pre f ps (i + 1) = pre f ps i + f (bo ps i) := by
 unfold pre bo
 rw [aea, aeH, List.sum_append, acH, acG h]
 simp only [Option.toList_some, ac7, ahb, List.sum_cons, List.sum_nil, Int.add_zero, agQ]
noncomputable def c6 (ps : List P2) (i j : Nat) : Int := if i <= j then pre (·.2) ps j - pre (·.2) ps i else pre (·.1) ps j - pre (·.1) ps i
noncomputable def jJ (ps : List P2) : Prop := ∀ p ∈ ps, p.1 <= p.2
theorem IJ {ps : List P2} (h : jJ ps) (i : Nat) : ∀ n, i + n <= ps.length -> pre (·.1) ps (i + n) - pre (·.1) ps i <= pre (·.2) ps (i + n) - pre (·.2) ps i
 | 0, _ => by simp
 | n + 1, hn => by
  have ih := IJ h i n (by omega)
  rw [show i + (n + 1) = (i + n) + 1 by omega, l7 _ ps (by omega), l7 _ ps (by omega)]
  have := h _ (IF (ps := ps) (i := i + n) (by omega))
  omega
theorem oi {ps : List P2} (h : jJ ps) {i j : Nat} (eR : i <= j) (hj : j <= ps.length) : pre (·.1) ps j - pre (·.1) ps i <= pre (·.2) ps j - pre (·.2) ps i := by
 have := IJ h i (j - i) (by omega)
 rwa [show i + (j - i) = j by omega] at this
theorem P9 {ps : List P2} (h : jJ ps) {i j k : Nat} (hi : i <= ps.length) (hj : j <= ps.length) (hk : k <= ps.length) : c6 ps i j <= c6 ps i k + c6 ps k j := by
 have a := fun h' => oi h (i := i) (j := j) h' hj
 have b := fun h' => oi h (i := j) (j := i) h' hi
 have c := fun h' => oi h (i := i) (j := k) h' hk
 have d := fun h' => oi h (i := k) (j := i) h' hi
 have e := fun h' => oi h (i := j) (j := k) h' hk
 have f := fun h' => oi h (i := k) (j := j) h' hj
 unfold c6
 split <;> split <;> split <;> omega
noncomputable def part (ps : List P2) (i j k : Nat) : Int := if i < j then pre (·.2) ps (min i j + k) - pre (·.2) ps i else pre (·.1) ps j - pre (·.1) ps (min i j + k)
end Gz
namespace Gz
open PySem PySem.Spec PyProof.Rows L2
noncomputable def bits (bs : List Int) : Prop := ∀ x ∈ bs, x = 0 ∨ x = 1
theorem Qa {H : Hp} {x dx C : acJ} {fs : List (Str × V)} (hx : H x = none) (hd : H dx = none) (hn : dx ≠ x) : aj H (upd (upd H dx (.own x)) x (.ins C dx fs)) :=
 (av hd).trans (av (by rw [aA (adV hn)]; exact hx))
theorem Qb {X : Cx} {K : acB} (h : X.K = K) : cW X (.type "list") (fun xs H Q => ∃ p ys, xs = [.ref p] /\ (ag K H p ys ∨ az K H p ys) /\ ∀ l, H l = none -> Q (.ref l) (upd H l (.lst ys))) := by
 subst h; exact N9
noncomputable abbrev Lk := Option (List Int)
noncomputable def A8 (xs : List acJ) (H : Hp) (v : V) : Lk -> Prop
 | none => v = .non
 | some bs => ∃ l, v = .ref l /\ l ∉ xs /\ H l = some (.lst (bs.map V.int))
noncomputable abbrev IsL := A8 []
theorem A8.l {xs : List acJ} {H : Hp} {v : V} {k : Lk} (h : A8 xs H v k) : IsL H v k := by
 cases k with
 | none => exact h
 | some bs => obtain ⟨l, a, b, c⟩ := h; exact ⟨l, a, (fun z => nomatch z), c⟩
end Gz
namespace Gz
open PySem PySem.Spec PyProof.Rows L2
local macro_rules | `(tactic| walk_at "om") => `(tactic| ((try simp only [PySem.Addr] at *); omega))
section
variable {κ : Type} [DecidableEq κ]
noncomputable def dQ (xs : List (κ × acJ × acC)) (k : κ) : List (κ × acJ × acC) := xs.filter fun x => decide (x.1 ≠ k)
theorem Qc {xs : List (κ × acJ × acC)} {k : κ} (h : k ∉ xs.map (·.1)) : dQ xs k = xs := by
 unfold dQ
 rw [aiO]
 intro x hx
 rw [decide_eq_true_eq]
 exact fun z => h (acQ.mpr ⟨x, hx, z⟩)
theorem IK : ∀ {xs : List (κ × acJ × acC)} {k : κ} {j : Nat} {p : acJ × acC}, (xs.map (·.1)).Nodup -> xs[j]? = some (k, p) -> xs.eraseIdx j = dQ xs k
 | [], _, _, _, _, h => by simp at h
 | x :: r, k, 0, p, hn, h => by
  rw [ac7, adP] at hn
  simp at h
  subst h
  have e : dQ ((k, p) :: r) k = dQ r k := by unfold dQ; rw [adI, if_neg (by simp)]
  rw [e, Qc hn.1]; rfl
 | x :: r, k, j + 1, p, hn, h => by
  rw [ac7, adP] at hn
  rw [aee] at h
  have ne : ¬ x.1 = k := fun z => hn.1 (z ▸ acQ.mpr ⟨_, acZ h, rfl⟩)
  have e : dQ (x :: r) k = x :: dQ r k := by unfold dQ; rw [adI, if_pos (by simpa using ne)]
  rw [e, ahI, IK hn.2 h]
theorem IL {α β : Type} (f : α -> β) : ∀ (l : List α) (j : Nat), (l.map f).eraseIdx j = (l.eraseIdx j).map f
 | [], _ => rfl
 | _ :: _, 0 => rfl
 | x :: l, j + 1 => by rw [ac7, ahI, IL f l j]; rfl
theorem Qd {xs : List (κ × acJ × acC)} {k : κ} (hn : (xs.map (·.1)).Nodup) : ((dQ xs k).map (·.1)).Nodup := hn.sublist ((aeB).map _)
end
theorem IM {prog : ac2} {w : adw} {K : Type} [DecidableEq K] {knd : HeapKind prog w K} {es : Array ae0} {xs : List (K × acJ × acC)} {k : K} (he : es.toList = xs.map (ai7 knd)) (h : es.isEmpty = true) : aiK xs k = none := by
 have e : es.size = 0 := by simpa using h
 have l := afK he
 have : xs = [] := aeO.mp (by omega)
 rw [this]; rfl
theorem KT.out {H : Hp} {kvs : List (List Key × V)} {xs : List (List Key × acJ × acC)} (r : KT H kvs xs) (k : List Key) : KT H (fE kvs k) (dQ xs k) := by
 unfold fE dQ
 induction r with
 | nil => exact .nil
 | @cons p q ps qs h t ih =>
  rw [adI, adI]
  by_cases e : p.1 = k
  ·rw [if_neg (by simp [e]), if_neg (by simp [h.1.symm.trans e])]; exact ih
  ·rw [if_pos (by simp [e]), if_pos (by rw [decide_eq_true_eq]; exact fun z => e (h.1.trans z))]; exact .cons h ih
section
variable {prog : ac2} {w : adw} {K : Type} [DecidableEq K] {knd : HeapKind prog w K} {A : adD} {E : acC -> acF -> Prop} {s : acF}
theorem IP {d a : acJ} {xs : List (K × acJ × acC)} {k : K} {Q : Option ae0 -> acF -> Prop} (hu : knd.room A) (eN : knd.is s.heap k a) (hm : s.heap.DictOfH knd d xs) (hsz : xs.length <= adb)
 (h0 : aiK xs k = none -> Q none { s with toks := s.toks + knd.draws k })
 (h1 : ∀ p e, aiK xs k = some p -> e.val = p.2 -> ∀ h', h'.DictOfH knd d (dQ xs k) -> Heap.SameBut d s.heap h' -> Q (some e) { s with heap := h', toks := s.toks + knd.draws k }) : ac0 (model prog w) A (Builtin.Dict.takeOut d (.ref a)) Q E s := by
 obtain ⟨o, es, ep, ho, hc, hd, he, his, hn⟩ := hm
 have Qe : es.size <= adb := by have e := afK he; omega
 unfold Builtin.Dict.takeOut
 try with_reducible refine adK ?_
 refine acA (knd.pyHash hu eN ?_)
 refine acA (wpAny_dictFind_heap (s := { s with toks := s.toks + knd.draws k }) hu eN ho hd he his hn (fun jK => ?_) fun j p hj => ?_)
 ·exact acD (h0 (atKey_none_of_get jK))
 ·refine acA (aeU (s := { s with toks := s.toks + knd.draws k }) ho hd ?_)
  have ej := entry_at he j
  rw [hj] at ej
  rw [ej]
  refine acA (wpAny_updateDictKeys (hz := Qe) (s := { s with toks := s.toks + knd.draws k }) ho hd (acD (h1 p (ai7 knd (k, p)) (atKey_of_get hn hj) rfl _ ⟨_, _, ep + 1, adB _ ho (Obj.isFreed_of_dict (aiy hd _)), hc.mapDictKeys _, aiy hd _, ?_, ?_, Qd hn⟩ (aeC ..))))
  ·rw [<- IK hn hj]
   have lt : j < es.size := by rw [afK he]; exact (acX.mp hj).1
   rw [Array.eraseIdxIfInBounds, dif_pos lt, Array.toList_eraseIdx, he, IL]
  ·exact fun x hx => knd.keeps (his x (adp.mp hx).1) ho hd (aeC ..)
theorem Qf {d a : acJ} {more : List acC} {Q : acC -> acF -> Prop} {xs : List (K × acJ × acC)} {k : K} (hu : knd.room A.in1) (eN : knd.is s.heap k a) (hd : (d == aeA) = false) (hm : s.heap.DictOfH knd d xs) (hsz : xs.length <= adb) (IQ : more = [] ∨ ∃ x, more = [x])
 (h1 : ∀ p, aiK xs k = some p -> ∀ h' tk, h'.DictOfH knd d (dQ xs k) -> Heap.SameBut d s.heap h' -> Q p.2 { s with heap := h', toks := tk })
 (h0 : aiK xs k = none -> ∃ x, more = [x] /\ ∀ tk, Q x { s with toks := tk }) : ac0 (model prog w) A (call (.builtin "dict.pop") (.ref d :: .ref a :: more)) Q E s := by
 have ha : aiB "dict.pop" ⟨.ref d :: .ref a :: more, []⟩ := by
  rcases IQ with q | ⟨x, q⟩
  ·subst q; exact PySem.F.args_dict_pop_2 _ _
  ·subst q; exact PySem.F.args_dict_pop_3 _ _ _
 have g : MeetsIn prog w (afH.«dict.pop» ⟨.ref d :: .ref a :: more, []⟩) (fun A R s => knd.room A.in1 /\ knd.is s.heap k a /\ s.heap.DictOfH knd d xs /\ (∀ p, aiK xs k = some p -> ∀ h' tk, h'.DictOfH knd d (dQ xs k) -> Heap.SameBut d s.heap h' -> R (.ok (.ret p.2)) { s with heap := h', toks := tk }) /\
  (aiK xs k = none -> ∃ x, more = [x] /\ ∀ tk, R (.ok (.ret x)) { s with toks := tk })) := .of_wp fun A R s ⟨hu, eN, hm, h1, h0⟩ => by
  obtain ⟨o, es, ep, ho, hc, hda, he, his, hn⟩ := id hm
  unfold afH.«dict.pop»
  refine acA ?_
  unfold Builtin.Dict.keyAndDefault
  refine acA (aii hm.typeIs ?_)
  rcases IQ with rfl | ⟨dflt, rfl⟩
  ·show ac0 _ _ (pure (d, ac3 a, none)) _ _ s
   refine acD ?_
   dsimp only
   rw [if_neg (show ¬ (keyPart (ac3 a)).isSome = true from fun z => nomatch z)]
   refine acA (aeU ho hda (acA (acD ?_)))
   by_cases hemp : es.isEmpty = true
   ·rw [if_pos hemp]
    refine acA (agw (acA (acD ?_)))
    rw [if_pos (show (none : Option ae0).isNone = true from rfl)]
    refine acA (aff hd ?_)
    obtain ⟨x, ex, hq⟩ := h0 (IM he hemp)
    cases ex
   ·rw [if_neg hemp]
    refine acA (IP hu eN hm hsz (fun A9 => ?_) fun p e hp Ba h' dd hs => ?_)
    ·rw [if_pos (show (none : Option ae0).isNone = true from rfl)]
     refine acA (aff hd ?_)
     obtain ⟨x, ex, hq⟩ := h0 A9
     cases ex
    ·rw [if_neg (show ¬ (some e).isNone = true from by simp)]
     exact acA (aew (acD ⟨e.val, rfl, by rw [Ba]; exact h1 p hp h' _ dd hs⟩))
  ·show ac0 _ _ (pure (d, ac3 a, some dflt)) _ _ s
   refine acD ?_
   dsimp only
   rw [if_neg (show ¬ (keyPart (ac3 a)).isSome = true from fun z => nomatch z)]
   refine acA (aeU ho hda (acA (acD ?_)))
   by_cases hemp : es.isEmpty = true
   ·rw [if_pos hemp]
    refine acA (agw (acA (acD ?_)))
    rw [if_pos (show (none : Option ae0).isNone = true from rfl)]
    refine acA (aff hd ?_)
    obtain ⟨x, ex, hq⟩ := h0 (IM he hemp)
    cases ex; exact acA (agw (acD ⟨dflt, rfl, hq _⟩))
   ·rw [if_neg hemp]
    refine acA (IP hu eN hm hsz (fun A9 => ?_) fun p e hp Ba h' dd hs => ?_)
    ·rw [if_pos (show (none : Option ae0).isNone = true from rfl)]
     refine acA (aff hd ?_)
     obtain ⟨x, ex, hq⟩ := h0 A9
     cases ex; exact acA (agw (acD ⟨dflt, rfl, hq _⟩))
    ·rw [if_neg (show ¬ (some e).isNone = true from by simp)]
     exact acA (aew (acD ⟨e.val, rfl, by rw [Ba]; exact h1 p hp h' _ dd hs⟩))
 exact call_meetsIn aij hm.typeIs PySem.F.entry_dict_pop ha g ⟨hu, eN, hm, h1, h0⟩
end
noncomputable def d8 (h : aer) (d : acJ) (es : Array ae0) (ep : Nat) : Prop := ∃ o, h.get? d = some o /\ o.ExactDict /\ o.data = .dict es ep
theorem d8.at {h h' : aer} {d : acJ} {es : Array ae0} {ep : Nat} (x : d8 h d es ep) (e : ∀ o, h.get? d = some o -> h'.get? d = some o) : d8 h' d es ep := let ⟨o, ho, r⟩ := x; ⟨o, e o ho, r⟩
theorem d8.lt {h : aer} {d : acJ} {es : Array ae0} {ep : Nat} (x : d8 h d es ep) : d < h.objs.size := let ⟨_, ho, _⟩ := x; acK ho
theorem d8.ty {s : acF} {d : acJ} {es : Array ae0} {ep : Nat} (x : d8 s.heap d es ep) : s.TypeIs (.ref d) "dict" := let ⟨o, ho, hc, _⟩ := x; ⟨o, ho, hc.1⟩
section
variable {prog : ac2} {w : adw} {A : adD} {E : acC -> acF -> Prop} {s : acF} {d it : acJ} {es : Array ae0} {i ep : Nat}
theorem IS {Q : acC -> acF -> Prop} (lo : (d == aeA) = false) (x : d8 s.heap d es ep)
 (q : Q (.ref s.heap.objs.size) { s with heap := s.heap.push { cls := .type "dict_keyiterator", data := .fields #[.ref d, .int 0 0, .int es.size 0, .int ep 0] } }) : ac0 (model prog w) A (aky (.ref d)) Q E s := by
 have T := x.ty
 obtain ⟨o, ho, hc, hq⟩ := x
 refine ahw T ahZ (aek ahZ T PySem.F.entry_dict_iter ?_ (PySem.F.args_dict_iter_1 _))
 unfold afH.«dict.__iter__»; refine acA ?_
 unfold Builtin.Dict.dictSlotNone; refine acA (aii T ?_)
 refine acD (a := ac3 d) ?_
 show ac0 _ A.in1 (Builtin.Dict.showsAll d >>= _) _ _ s
 unfold Builtin.Dict.showsAll; rw [if_neg (by rw [lo]; exact ac9)]
 refine acA (acD (acA (aeU ho hq (acA (aik ho hq ?_)))))
 refine acA (adN (acD ⟨_, rfl, "dict_keyiterator", _, ⟨_, acT _ rfl, rfl⟩, PySem.F.slot_dict_keyiterator_next.lookup, ?_⟩))
 simpa [agF] using q
theorem IT {Q : Option acC -> acF -> Prop} (hit : s.heap.IsKeyIter it d i es.size ep) (x : d8 s.heap d es ep) (hi : i < es.size)
 (q : ∀ h', h'.IsKeyIter it d (i + 1) es.size ep -> Heap.SameBut it s.heap h' -> Q (some es[i].key) { s with heap := h' }) : ac0 (model prog w) A (afW (.ref it)) Q E s := by
 obtain ⟨o, ho, hc, hd⟩ := id hit
 obtain ⟨od, hod, fq, hdd⟩ := x
 have T := hit.typeIs
 unfold afW
 refine acA (ahJ (aeP (name := afL "__next__") T aes (aek aes T aga ?_ (afY _))))
 refine acA (acD (acA (acA ?_)))
 first | refine acA (aeK T (acD (acA (afZ ho hd ?_)))) | refine acA (afm T (acD (acA (afZ ho hd ?_))))
 have ow : Builtin.Dict_items.ownsTuple "dict_keyiterator" = false := by decide
 simp only [ow, acP, if_false]; show ac0 _ A.in1 (if (ac3 d == Value.none) = true then _ else _) _ _ s
 rw [if_neg (show ¬ (ac3 d == Value.none) = true from ac9)]
 refine acA (acD (acA (aeU hod hdd ?_)))
 rw [if_neg (by simp)]; refine acA (acD (acA (aik hod hdd ?_)))
 rw [if_neg (by simp)]; refine acD ?_
 simp only [show ¬ (i : Int) < 0 by omega, if_false, adx, adL hi]; refine acA ?_
 first | refine acA (aeK T (acD (acA (agJ T ?_)))) | refine acA (afm T (acD (acA (agJ T ?_))))
 show ac0 _ A.in1 (setField (.ref it) 1 (agF ((i : Int) + 1)) >>= _) _ _ s
 refine acA (agB ho hd (by simp) ?_)
 have l8 : (s.heap.update it (afO (·.setIfInBounds 1 (agF ((i : Int) + 1))))).IsKeyIter it d (i + 1) es.size ep := ⟨_, adB _ ho (Obj.isFreed_of_fields (aiZ hd _)), (Obj.cls_mapFields ..).trans hc, by rw [aiZ hd]; simp [agF]⟩
 refine acA (adK (acA (agJ (s := { s with heap := s.heap.update it (afO (·.setIfInBounds 1 (agF ((i : Int) + 1)))) }) l8.typeIs ?_)))
 show ac0 _ A.in1 (pure es[i].key) _ _ _
 exact acD (acD ⟨_, rfl, acD (q _ l8 (aeC ..))⟩)
theorem IU {Q : Option acC -> acF -> Prop} (hh : A.handled = none) (hit : s.heap.IsKeyIter it d es.size es.size ep) (x : d8 s.heap d es ep)
 (q : ∀ h', Heap.ExtBut it s.heap h' -> Q none { s with heap := h' }) : ac0 (model prog w) A (afW (.ref it)) Q E s := by
 obtain ⟨o, ho, hc, hd⟩ := id hit
 obtain ⟨od, hod, fq, hdd⟩ := x
 have T := hit.typeIs
 unfold afW
 refine acA (ahJ (aeP (name := afL "__next__") T aes (aek aes T aga ?_ (afY _))))
 refine acA (acD (acA (acA ?_)))
 first | refine acA (aeK T (acD (acA (afZ ho hd ?_)))) | refine acA (afm T (acD (acA (afZ ho hd ?_))))
 have ow : Builtin.Dict_items.ownsTuple "dict_keyiterator" = false := by decide
 simp only [ow, acP, if_false]; show ac0 _ A.in1 (if (ac3 d == Value.none) = true then _ else _) _ _ s
 rw [if_neg (show ¬ (ac3 d == Value.none) = true from ac9)]
 refine acA (acD (acA (aeU hod hdd ?_)))
 rw [if_neg (by simp)]; refine acA (acD (acA (aik hod hdd ?_)))
 rw [if_neg (by simp)]; refine acD ?_
 simp only [show ¬ (es.size : Int) < 0 by omega, if_false, adx, agp (ac1 es.size)]; refine acA ?_
 first | refine acA (aeK T (acD ?_)) | refine acA (afm T (acD ?_))
 show ac0 _ A.in1 (setField (.ref it) 0 .none >>= _) _ _ s
 refine acA (agB ho hd (by simp) ?_); show ac0 _ A.in1 (newExc (.type "StopIteration") [] >>= _) _ _ _
 refine acA ?_; simp only [newExc, newTuple]
 refine acA (adN ?_ (by size_fits)); refine acA (m := ahi _ _) (agZ (a := Value.none) (by first | rfl | (simp only [ahi]; rfl)) ?_)
 refine adN ?_ (by size_fits); simp only [raiseNew]
 refine acA (wpAny_handled ?_); rw [show A.in1.handled = none from hh]
 refine acA (acD (wpAny_throw ?_)); refine acA (afA (T := "StopIteration") (b := true) ⟨_, acT _ rfl, rfl⟩ isSubtype_stop ?_)
 exact acD (q _ (((aeC ..).extBut.push _).push _))
theorem Qg (hh : A.handled = none) (I d : acJ) (eS : d ≠ I) (es : Array ae0) (ep : Nat) :
 Walks prog w A I [I, d] [I] es.size (fun i v => ∃ e, es[i]? = some e /\ v = e.key) (fun i h => h.IsKeyIter I d i es.size ep /\ d8 h d es ep) where
 sub := fun b hb => by simp at hb; simp [hb]
 frame := fun _ _ _ st hk => ⟨st.1.at fun o e => hk I (by simp) o e, st.2.at fun o e => hk d (by simp) o e⟩
 item := fun i s Q E hi st hQ => by
  refine IT st.1 st.2 hi fun h' l8 oj => ?_
  exact hQ _ h' s.toks ⟨es[i], adL hi, rfl⟩ ⟨l8, st.2.at fun o e => oj.extBut d o eS e⟩ fun b o hb e => oj.extBut b o (fun h => hb (by simp [h])) e
 done := fun s Q E st hQ => IU hh st.1 st.2 fun h' jL => hQ h' s.toks fun b o hb e => jL b o (fun h => hb (by simp [h])) e
 self := fun _ _ _ _ st hQ => aiz st.1 hQ
theorem IV (lo : (d == aeA) = false) : aiC prog w "dict" d d es.size (fun i v => ∃ e, es[i]? = some e /\ v = e.key) (fun h => d8 h d es ep) where
 type := fun _ x => x.ty
 there := fun _ x => ⟨x.lt, x.lt⟩
 keep := fun _ _ x hk => x.at fun o e => hk d (.inl rfl) o e
 notList := by decide
 notTuple := by decide
 hint := fun _ _ _ _ x hq => PySem.W.kdl_hint_dict x.ty hq
 iter := fun _ _ hh x => ⟨_, _, (fun _ _ hq => IS lo x hq), Qg hh _ d (ade x.lt) es ep, ⟨⟨_, acT _ rfl, rfl, rfl⟩, x.at fun o e => acE _ e⟩⟩
end
section
variable {prog : ac2} {w : adw} {A : adD} {E : acC -> acF -> Prop} {s : acF}
noncomputable def hJ (h : aer) (vs : List acC) (kis : List (List Int)) (i : Nat) : Prop := ∃ (p : acJ) (o : Obj) (af : List acC) (m : Nat), vs[i]? = some (.ref p) /\ h.get? p = some o /\ o.cls = .type "tuple" /\ o.data = .seq af.toArray m /\ afP af (kis.getD i []) /\ af ≠ []
theorem hJ.keep {h h' : aer} {vs : List acC} {kis : List (List Int)} {i : Nat} (x : hJ h vs kis i) (k : ∀ b o, h.get? b = some o -> (∀ n xs, o ≠ aey "list" xs n) -> h'.get? b = some o) : hJ h' vs kis i := by
 obtain ⟨p, o, af, m, h1, h2, h3, r⟩ := x
 exact ⟨p, o, af, m, h1, k p o h2 (fun n xs z => by rw [z] at h3; exact absurd (Value.type.inj h3) (by decide)), h3, r⟩
theorem Qh {af : List acC} {ns : List Int} (h : afP af ns) (hn : af ≠ []) : ∃ i t, af[0]? = some (.int i t) := by
 cases h with
 | nil => exact absurd rfl hn
 | cons => exact ⟨_, _, rfl⟩
theorem IW {h : aer} : ∀ (vs : List acC) (kis : List (List Int)), kis.length = vs.length -> (∀ i, i < vs.length -> hJ h vs kis i) -> ∃ fs, ajT h vs fs /\ fs.length = vs.length /\ ∀ v ∈ fs, ∃ i t, v = .int i t
 | [], _, _, _ => ⟨[], PySem.W.KatTups.nil, rfl, fun v z => by simp at z⟩
 | v :: vs, [], e, _ => by simp at e
 | v :: vs, k :: kis, e, hh => by
  obtain ⟨p, o, af, m, h1, h2, h3, h4, h5, h6⟩ := hh 0 (by simp)
  have HY : v = .ref p := by simpa using h1
  subst HY
  obtain ⟨i, t, hf⟩ := Qh h5 h6
  obtain ⟨fs, a1, a2, a3⟩ := IW vs kis (by simpa using e) fun i hi => by
   obtain ⟨p, o, af, m, h1, r⟩ := hh (i + 1) (by simpa using hi)
   exact ⟨p, o, af, m, by simpa using h1, by simpa using r⟩
  refine ⟨.int i t :: fs, PySem.W.KatTups.cons h2 h3 h4 (by simpa using hf) a1, by simp [a2], fun v hv => ?_⟩
  rcases acN.mp hv with z | z
  ·exact ⟨i, t, z⟩
  ·exact a3 v z
theorem Qi {a : acJ} {vs : List acC} {kis : List (List Int)} {n : Nat} {P : akR -> acF -> Prop} (ho : s.heap.get? a = some (aey "list" vs.toArray n)) (hl : kis.length = vs.length) (b9 : vs.length < 64) (hk : ∀ i, i < vs.length -> hJ s.heap vs kis i)
 (fin : ∀ h', (∀ b o, b ≠ a -> s.heap.get? b = some o -> h'.get? b = some o) -> (∃ c, h'.get? a = some (aey "list" (aep ((br (bG kis) vs.length).toList.map fun i => vs.getD i Value.none)) c)) -> P (.done (.ret .none)) { s with heap := h' }) :
 ac0 (model prog w) A (afH.«list.sort» ⟨[.ref a], []⟩) P E s := by
 rw [ajX]
 have la : a < s.heap.objs.size := acK ho
 refine acA (adM ho rfl (acA (agl ho rfl ?_ (by rw [ac4, aeY]; walk_at "om") (adf _))))
 obtain ⟨e1, oa⟩ : ∃ e1, (s.heap.update a (ae8 fun _ => (#[] : Array acC))).get? a = some (aey "list" #[] e1) := ⟨_, ag1 ho fun _ => #[]⟩
 have keep : ∀ b o, b ≠ a -> s.heap.get? b = some o -> (s.heap.update a (ae8 fun _ => (#[] : Array acC))).get? b = some o := fun b o z e => (acM _ _ (adV z)).trans e
 refine acA (ag2 oa rfl ?_)
 generalize s.heap.update a (ae8 fun _ => (#[] : Array acC)) = g at oa keep ⊢
 refine acA (wpAny_newTuple ?_ (by show vs.length <= _; rw [aeY]; walk_at "om")); refine acA (ahK ?_ (adf _))
 refine adK ?_
 show ac0 (model prog w) A _ P E { s with heap := (g.push (aey "tuple" vs.toArray 0)).push (aey "list" #[] 0) }
 have eZ : ((g.push (aey "tuple" vs.toArray 0)).push (aey "list" #[] 0)).get? a = some (aey "list" #[] e1) := acE _ (acE _ oa)
 have l9 : ∀ b o, b ≠ a -> s.heap.get? b = some o -> ((g.push (aey "tuple" vs.toArray 0)).push (aey "list" #[] 0)).get? b = some o := fun b o z e => acE _ (acE _ (keep b o z e))
 generalize (g.push (aey "tuple" vs.toArray 0)).push (aey "list" #[] 0) = g2 at eZ l9 ⊢
 dsimp only
 have neT : ∀ b o, s.heap.get? b = some o -> (∀ n xs, o ≠ aey "list" xs n) -> b ≠ a := fun b o e z y => by rw [y, ho] at e; cases e; exact z _ _ rfl
 have Bb : ((br (bG kis) vs.length).toList.map fun i => vs.getD i Value.none).length = vs.length := by
  rw [acI, (nY (n := vs.length) (jt kis)).1.length_eq, aeq]
 have sz : (aep ((br (bG kis) vs.length).toList.map fun i => vs.getD i Value.none)).size <= adb + 1 := by rw [ac4, Bb, aeY]; walk_at "om"
 have done : P (.done (.ret .none)) { s with heap := g2.update a (ae8 fun _ => aep ((br (bG kis) vs.length).toList.map fun i => vs.getD i Value.none)) } :=
  fin _ (fun b o z e => (acM _ _ (adV z)).trans (l9 b o z e)) ⟨_, ag1 eZ fun _ => _⟩
 by_cases h2 : vs.toArray.size < 2
 ·rw [if_pos h2, if_pos h2]
  refine acA (acD ?_)
  rw [StateT.run_pure]
  refine acA (acD ?_)
  dsimp only
  have self : (adh vs.length).map (fun i => vs.getD i Value.none) = vs := by
   apply af7
   ·simp
   ·intro i h1 h2
    simp [acH, h2]
  have e0 : (arrOf (SortSt.mk' general' (vs.toArray.zip vs.toArray) #[] 7 none)).map (·.2) = aep ((br (bG kis) vs.length).toList.map fun i => vs.getD i Value.none) := by
   unfold br
   rw [if_pos (by simpa using h2)]
   apply ajA.mp
   rw [show (adh vs.length).toArray.toList = adh vs.length from rfl, self]
   show ((vs.toArray.zip vs.toArray).map (·.2)).toList = _
   simp [ajB]
  rw [e0]
  refine acA (ag2 eZ rfl (acA (agl eZ rfl ?_ (adf _) sz)))
  simp only [bne_self_eq_false, acP, if_false]
  exact acD done
 ·rw [if_neg h2, if_neg h2]
  have sj : 2 <= vs.length := by rw [ac4] at h2; walk_at "om"
  have dB : ∀ i, i < vs.length -> hJ g2 vs kis i := fun i hi => (hk i hi).keep fun b o e z => l9 b o (neT b o e z) e
  obtain ⟨fs, ht, lf, hi⟩ := IW vs kis hl dB
  have eT : (agq "int" != agq "tuple") = true := by decide
  refine acA (PySem.W.kat_kind (s := { s with heap := g2 }) (T := .type "int") ht (by walk_at "om") (fun v hv => ?_) (by decide) ?_)
  ·obtain ⟨i, t, rfl⟩ := hi v hv
   exact PySem.W.Looks.now
  rw [eT]
  have ask : (ajC vs.length).kasWp (ajY prog w A (tuples' true) vs) (fun p s' => s' = { s with heap := g2 } /\ p = br (bG kis) vs.length) { s with heap := g2 } := by
   have pv := AR _ (AQ (n := vs.length) (jt kis) (by walk_at "om"))
   refine AN (lt := bG kis) (n := vs.length) (Ok := fun s' => s' = { s with heap := g2 }) (fun i j C s' hi hj e q => ?_) (fun p s' e q => ⟨e, ?_⟩) _ _ rfl pv
   ·subst e
    obtain ⟨p1, o1, i1, m1, a1, b1, _, c1, d1, _⟩ := dB i hi
    obtain ⟨p2, o2, i2, m2, a2, b2, _, c2, d2, _⟩ := dB j hj
    show ac0 _ _ (keyLt' (tuples' true) (vs.getD i Value.none) (vs.getD j Value.none)) C _ _
    rw [acH, acH, a1, a2]
    have z1 := d1.length
    have z2 := d2.length
    exact PySem.W.kat_lt b1 c1 b2 c2 (by simpa using Pj (b := true) (i := 0) d1 d2 (by simp [z1, z2]) (q _ rfl))
   ·rw [q]; unfold br; rw [if_neg (by walk_at "om")]
  refine acA (adz (ajZ (κ := tuples' true) (ks := vs) (vs := vs) (Q := fun st s' => s' = { s with heap := g2 } /\ arrOf st = (br (bG kis) vs.length).map (ajD (vs.toArray.zip vs.toArray)) /\ failedOf st = none)
   rfl sj b9 (fun p st s' b1 b2 b3 b4 => ⟨b4.1, by rw [b2, b4.2], b3⟩) ask) ?_ fun _ _ z => z)
  rintro ⟨⟨⟩, st⟩ s' ⟨rfl, har, hf⟩
  dsimp only
  rw [ajE rfl har]
  refine acA (ag2 eZ rfl (acA (agl eZ rfl ?_ (adf _) sz)))
  rw [hf]
  simp only [bne_self_eq_false, acP, if_false]
  exact acD done
theorem Bc {r : acJ} {vs : List acC} {kis : List (List Int)} {Q : acC -> acF -> Prop} (hl : kis.length = vs.length) (b9 : vs.length < 64) (hk : ∀ i, i < vs.length -> hJ s.heap vs kis i)
 (Be : ∀ (A' : adD) (Q' : List acC -> acF -> Prop) (E' : acC -> acF -> Prop), A'.handled = A.handled -> (∀ h' tk, (∀ b o, s.heap.get? b = some o -> h'.get? b = some o) -> s.heap.objs.size <= h'.objs.size -> Q' vs { s with heap := h', toks := tk }) -> ac0 (model prog w) A' (collect (.ref r)) Q' E' s)
 (q : ∀ l h' tk, s.heap.objs.size <= l -> (∀ b o, s.heap.get? b = some o -> h'.get? b = some o) -> (∃ c, h'.get? l = some (aey "list" (aep ((br (bG kis) vs.length).toList.map fun i => vs.getD i Value.none)) c)) -> Q (.ref l) { s with heap := h', toks := tk }) :
 ac0 (model prog w) A (call (.builtin "sorted") [.ref r]) Q E s := by
 refine af0 kind_sorted plain_sorted entry_sorted (args_sorted1 _) ?_
 unfold afH.«sorted»
 refine acA (m := checkCount "sorted" 1 1 _) (acD (acA (Be _ _ _ rfl fun h1 tk keep hsz => ?_)))
 refine acA (ahK ?_ (by rw [aeY]; walk_at "om"))
 have oL : (h1.push (aey "list" vs.toArray 0)).get? h1.objs.size = some (aey "list" vs.toArray 0) := acT _ rfl
 have fM : ∀ b o, s.heap.get? b = some o -> b ≠ h1.objs.size /\ (h1.push (aey "list" vs.toArray 0)).get? b = some o := fun b o e => by
  have := acK e
  exact ⟨by walk_at "om", acE _ (keep b o e)⟩
 show ac0 _ A.in1 (holding [.ref h1.objs.size] (call (.builtin "list.sort") [.ref h1.objs.size]) >>= _) _ _ { s with heap := h1.push (aey "list" vs.toArray 0), toks := tk }
 generalize h1.push (aey "list" vs.toArray 0) = h2 at oL fM ⊢
 generalize h1.objs.size = l at oL fM hsz ⊢
 refine acA (adK (aek slot_list_sort ⟨_, oL, rfl⟩ aj0 ?body (args_list_sort _)))
 case body =>
  refine Qi (s := { s with heap := h2, toks := tk }) oL hl b9 (fun i hi => (hk i hi).keep fun b o e _ => (fM b o e).2) fun h' k c => ⟨_, rfl, acD ⟨_, rfl, q l h' tk hsz (fun b o e => k b o (fM b o e).1 (fM b o e).2) c⟩⟩
theorem IX {T : String} {r d : acJ} {n : Nat} {P : Nat -> acC -> Prop} {OK : aer -> Prop} {Q : List acC -> acF -> Prop} (K : aiC prog w T r d n P OK) (hh : A.handled = none) (ai : OK s.heap) (hn : n <= adb)
 (q : ∀ h' tk acc, (∀ b o, s.heap.get? b = some o -> h'.get? b = some o) -> s.heap.objs.size <= h'.objs.size -> ItemsOf P acc n -> Q acc.toList { s with heap := h', toks := tk }) : ac0 (model prog w) A (collect (.ref r)) Q E s := by
 have lt := K.there _ ai
 unfold collect
 refine acA (wpAny_runValue (ads entry_proto_collect' ?_))
 rw [ada PySem.F.plain_proto_collect _]
 show ac0 _ A.in1 (aje [] >>= fun l => again (.builtin "list.__iadd__" ⟨[l, .ref r], []⟩)) _ _ s
 refine acA (adN (acD ⟨Code.quiet_builtin _ (by decide +kernel), ads entry_list_iadd' ?_⟩))
 rw [ada PySem.F.plain_list_iadd _]
 have oS : (s.heap.push { cls := .type "list", data := .seq ([] : List acC).toArray }).get? s.heap.objs.size = some { cls := .type "list", data := .seq #[] 0 } := acT _ rfl
 show ac0 _ A.in1 (aj1 (.ref s.heap.objs.size) (.ref r) (.ref s.heap.objs.size)) _ _ { s with heap := s.heap.push { cls := .type "list", data := .seq ([] : List acC).toArray } }
 refine PySem.W.kdl_extend (R := fun r s' => match r with
  | .ok (.ret v) => ac0 (model prog w) A (match v with | .ref a => (do match (<- load a).data with | .seq xs _ => pure xs.toList | _ => unsupported "internal:collect") | _ => unsupported "internal:collect") Q E s'
  | .ok _ => False
  | .error e => E e s') (s := { s with heap := s.heap.push { cls := .type "list", data := .seq ([] : List acC).toArray } }) K hh (K.keep _ _ ai fun b _ o e => acE _ e) s.heap.objs.size (ag9 lt.1) (ag9 lt.2) (.ref s.heap.objs.size) 0 oS (fun h' tk acc c hk hS sS => ?_) hn
 show ac0 _ A (load s.heap.objs.size >>= _) _ _ _
 refine acA (wpAny_load hS (acD ?_))
 exact q h' tk acc (fun b o e => hk b o (ade (acK e)) (acE _ e)) (agb (acK hS)) sS
end
noncomputable def fb (H : Hp) (xs : List V) (kvs : List (List Key × V)) : Prop := ak (fun x (kv : List Key × V) => ∃ a, x = .ref a /\ H a = some (.tup (kv.1.map kV))) xs kvs
theorem KT.IY {H : Hp} {kvs : List (List Key × V)} {xs : List (List Key × acJ × acC)} (r : KT H kvs xs) : fb H ((xs.map (·.2.1)).map V.ref) kvs := by
 induction r with
 | nil => exact trivial
 | cons h t ih => exact ⟨⟨_, rfl, h.2.1⟩, ih⟩
theorem fb.IZ {K : acB} {H : Hp} : ∀ {ys : List V} {kvs : List (List Key × V)} {kis : List (List Int)}, fb H ys kvs -> kvs.map (·.1) = kis.map (fun k => k.map ahB) -> (∀ k ∈ kis, k ≠ []) -> cQ K H ys kis
 | [], [], [], _, _, _ => trivial
 | [], [], _ :: _, _, e, _ => by simp at e
 | _ :: _, kv :: kvs, [], _, e, _ => by simp at e
 | y :: ys, kv :: kvs, k :: kis, h, e, hn => by
  rw [ac7, ac7] at e
  injection e with e1 e2
  obtain ⟨⟨a, rfl, ha⟩, t⟩ := h
  refine ⟨⟨a, rfl, ?_, hn k (.head _)⟩, fb.IZ t e2 fun k hk => hn k (.tail _ hk)⟩
  rw [e1, aeR] at ha
  exact .inl (.inl ha)
 | [], _ :: _, _, h, _, _ => h.elim
 | _ :: _, [], _, h, _, _ => h.elim
theorem wy : ∀ (as : List acJ), Vals (as.map V.ref) (as.map ac3)
 | [] => .nil
 | _ :: as => .cons rfl (wy as)
section
variable {X : Cx} {pins : List (acJ × Obj)} {σ : L2.St} {H : Hp} {s : acF} {p : acJ} {kvs : List (List Key × V)}
theorem I0 (I : Inv X pins σ H s) (e : H p = some (.dT kvs)) : ∃ (as : List acJ) (es : Array ae0) (ep : Nat), fb H (as.map V.ref) kvs /\ (p == aeA) = false /\ d8 s.heap p es ep /\ es.size = as.length /\ (∀ acc : Array acC, ItemsOf (fun i v => ∃ e, es[i]? = some e /\ v = e.key) acc es.size -> acc.toList = as.map ac3) /\ as.length <= adb := by
 obtain ⟨z, hd, xs, rel, o, es, ep, ho, hc, hdt, he, his, hn⟩ := vo I.ai e
 have hl : xs.length = kvs.length := (Paired.length rel).symm
 have hs : es.size = xs.length := afK he
 refine ⟨xs.map (·.2.1), es, ep, KT.IY rel, hd, ⟨o, ho, hc, hdt⟩, by rw [acI]; exact hs, fun acc ha => ?_, by rw [acI, hl]; exact z⟩
 refine agy fun i => ?_
 rw [adn, adn]
 have la : acc.toList.length = es.size := by rw [afs]; exact ha.1
 by_cases hi : i < es.size
 ·obtain ⟨v, hv⟩ : ∃ v, acc.toList[i]? = some v := ⟨_, acG (by omega)⟩
  obtain ⟨en, h1, h2⟩ := ha.2 i v (by rw [<- agK]; exact hv)
  rw [entry_at he i] at h1
  cases hx : xs[i]? with
  | none => rw [hx] at h1; cases h1
  | some y => rw [hx] at h1; cases h1; rw [hv, h2]; rfl
 ·rw [afb (by omega), afb (by omega)]; rfl
theorem Bf (hc : X.calm = true) : cW X (.type "list") (fun xs H Q => ∃ p kvs, xs = [.ref p] /\ H p = some (.dT kvs) /\ ∀ l ys, H l = none -> fb H ys kvs -> Q (.ref l) (upd H l (.lst ys))) := by
 intro pins s σ H xs us Q I r h
 obtain ⟨p, kvs, rfl, e, q⟩ := h
 obtain ⟨u, rfl, rx⟩ := vals1 r
 cases rx
 obtain ⟨as, es, ep, hk, lo, ra, hs, sS, hz⟩ := I0 I e
 refine PySem.W.kdl_call (IV lo) (I.ok.hd hc) ra (by rw [hs]; exact hz) fun h' tk acc c keep hD ha => ?_
 have ea := sS acc ha
 exact ⟨.ref s.heap.objs.size, _, I.laid (t' := tk) keep (ac1 _) (show bp X.prog X.w _ h' _ (.lst (as.map V.ref)) from ⟨by rw [acI]; exact hz, as.map ac3, c, wy as, by rw [<- ea, Array.toArray_toList]; exact hD⟩), rfl, q _ _ (I.ai.fresh (ac1 _)) hk⟩
theorem Bg (I : Inv X pins σ H s) {ks : List V} {kis : List (List Int)} {us : List acC} (h : cQ X.K H ks kis) (r : Vals ks us) : ∀ i, i < us.length -> hJ s.heap us kis i := fun i hi => by
 have hk : i < ks.length := by rw [r.length]; exact hi
 have Qj : i < kis.length := by rw [<- h.len]; exact hk
 obtain ⟨p, ep, hp⟩ := h.get (acG hk)
 obtain ⟨u, eu, ru⟩ := r.get (acG hk)
 rw [ep] at ru
 cases ru
 obtain ⟨af, rv, ⟨o, ho, hc, m, hd⟩, _⟩ := I.tuple hp
 refine ⟨p, o, af, m, eu, ho, hc, hd, intsAre_of rv, fun z => ?_⟩
 have nn : kis.getD i [] ≠ [] := by
  have all : ∀ {ks : List V} {ns : List (List Int)}, cQ X.K H ks ns -> ∀ n ∈ ns, n ≠ [] := by
   intro ks
   induction ks with
   | nil => intro ns h n hn; cases ns with
    | nil => simp at hn
    | cons _ _ => exact h.elim
   | cons k ks ih => intro ns h n hn; cases ns with
    | nil => exact h.elim
    | cons m ns =>
     obtain ⟨⟨_, _, _, eS⟩, t⟩ := h
     rcases acN.mp hn with z | z
     ·rw [z]; exact eS
     ·exact ih t n z
  rw [acH, acG Qj]
  exact all h _ (adZ _)
 have := rv.length
 rw [acI, z] at this
 exact nn (aeO.mp this)
theorem wz (I : Inv X pins σ H s) {ks : List V} {kis : List (List Int)} {us : List acC} {Q : VK} {l : acJ} {h' : aer} {tk : Nat} (r : Vals ks us) (hz : ks.length <= adb) (hl : s.heap.objs.size <= l) (keep : ∀ b o, s.heap.get? b = some o -> h'.get? b = some o)
 (hD : ∃ c, h'.get? l = some (aey "list" (aep ((br (bG kis) us.length).toList.map fun i => us.getD i Value.none)) c)) (q : ∀ l, H l = none -> Q (.ref l) (upd H l (.lst (bL kis .non ks)))) : EP X pins σ Q (.ref l) { s with heap := h', toks := tk } := by
 obtain ⟨c, hD⟩ := hD
 have sv := Pk (kis := kis) r
 rw [r.length] at sv
 exact ⟨.ref l, _, I.laid (t' := tk) keep hl (show bp X.prog X.w _ h' _ (.lst (bL kis .non ks)) from ⟨by rw [sk]; exact hz, _, c, sv, hD⟩), rfl, q l (I.ai.fresh hl)⟩
theorem I9 : cW X (.builtin "sorted") (fun xs H Q => ∃ (a : acJ) (ks : List V) (kis : List (List Int)), xs = [.ref a] /\ ag X.K H a ks /\ cQ X.K H ks kis /\ ks.length < 64 /\ ∀ l, H l = none -> Q (.ref l) (upd H l (.lst (bL kis .non ks)))) := by
 intro pins s σ H xs us Q I r h
 obtain ⟨a, ks, kis, rfl, hS, hK, b9, q⟩ := h
 obtain ⟨u, rfl, ru⟩ := vals1 r
 cases ru
 obtain ⟨af, rv, hp, hz⟩ := I.list hS
 have hl : af.length = ks.length := rv.length.symm
 refine Bc (kis := kis) (by rw [<- hK.len, hl]) (by omega) (Bg I hK rv) (fun A' Q' E' _ hq => collect_list hp.isList (hq _ s.toks (fun b o e => ?_) ?_) (by rw [hl]; exact hz)) fun l h' tk h1 h2 h3 => wz I rv hz h1 h2 h3 q
 ·have := acK e
  exact (acM _ _ (by walk_at "om")).trans (acE _ e)
 ·rw [ajF, size_push']; exact agX _
theorem Qk (hc : X.calm = true) : cW X (.builtin "sorted") (fun xs H Q => ∃ (p : acJ) (kvs : List (List Key × V)) (kis : List (List Int)), xs = [.ref p] /\ H p = some (.dT kvs) /\ kvs.map (·.1) = kis.map (fun k => k.map ahB) /\ (∀ k ∈ kis, k ≠ []) /\ kvs.length < 64 /\
 ∀ l ys, H l = none -> fb H ys kvs -> Q (.ref l) (upd H l (.lst (bL kis .non ys)))) := by
 intro pins s σ H xs us Q I r h
 obtain ⟨p, kvs, kis, rfl, e, ek, eS, b9, q⟩ := h
 obtain ⟨u, rfl, rx⟩ := vals1 r
 cases rx
 obtain ⟨as, es, ep, hk, lo, ra, hs, sS, hz⟩ := I0 I e
 have la : as.length = kvs.length := by have := hk.len; rwa [acI] at this
 have lk : kis.length = kvs.length := by have := congrArg List.length ek; simpa using this.symm
 have hK : cQ X.K H (as.map V.ref) kis := hk.IZ ek eS
 have rv := wy as
 refine Bc (kis := kis) (vs := as.map ac3) (by rw [acI]; omega) (by rw [acI]; omega) (Bg I hK rv) (fun A' Q' E' hA hq => IX (IV lo) (hA.trans (I.ok.hd hc)) ra (by rw [hs]; exact hz) fun h' tk acc k1 k2 ha => ?_) fun l h' tk h1 h2 h3 => wz I rv (by rw [acI]; exact hz) h1 h2 h3 fun l hl => q l _ hl hk
 rw [sS acc ha]
 exact hq h' tk k1 k2
end
theorem Ql {P : ac2} {w : adw} {H' : Hp} {h' : aer} {a : acJ} {kvs : List (List Key × V)} {xs : List (List Key × acJ × acC)} (z : kvs.length <= adb) (lo : (a == aeA) = false) (rel : KT H' kvs xs) (dd : h'.DictOfH (agE (dq P w)) a xs) : bp P w H' h' a (.dT kvs) := by
 obtain ⟨o, es, ep, h1, h2, h3, h4, _, h5⟩ := dd
 exact ⟨z, lo, xs, rel, o, es, ep, h1, h2, h3, h4, h5⟩
section
variable {X : Cx} {pins : List (acJ × Obj)} {σ : L2.St} {H : Hp} {s : acF} {p b : acJ} {kvs : List (List Key × V)} {k : List Key} {A : adD} {E : acC -> acF -> Prop}
theorem Qm {ob : HO} {xs : List (List Key × acJ × acC)} (e : H p = some (.dT kvs)) {oo : List (List Key × V)} (r : KT H oo xs) : KT (upd H p ob) oo xs :=
 KT.keeps r fun b ys z => by rw [aA (fun y => by rw [y, e] at z; cases z)]; exact z
theorem Qn {more : List acC} {Q : acC -> acF -> Prop} (hu : A.units + 1 < age) (I : Inv X pins σ H s) (e : H p = some (.dT kvs)) (eb : H b = some (.tup (k.map kV))) (hm : more = [] ∨ ∃ x, more = [x])
 (h1 : ∀ v, bc kvs k = some v -> ∀ w' s', Inv X pins σ (upd H p (.dT (fE kvs k))) s' -> RelV v w' -> Q w' s') (h0 : bc kvs k = none -> ∃ x, more = [x] /\ ∀ s', Inv X pins σ H s' -> Q x s') :
 ac0 (model X.prog X.w) A (call (.builtin "dict.pop") (.ref p :: .ref b :: more)) Q E s := by
 obtain ⟨z, lo, xs, rel, dd⟩ := vo I.ai e
 have hl : xs.length = kvs.length := (Paired.length rel).symm
 refine Qf (afE hu) (nQ I.ai eb) lo dd (by rw [hl]; exact z) hm (fun y hy h' tk lO hs => ?_) fun hn => ?_
 ·have rv := rel.val k
  rw [hy] at rv
  cases hv : bc kvs k with
  | none => rw [hv] at rv; exact (show False from rv).elim
  | some v =>
   rw [hv] at rv
   have he : ∃ q, h'.get? p = some q := let ⟨q, _, _, hq, _⟩ := lO; ⟨q, hq⟩
   exact h1 v hv _ _ (AF (t' := tk) I (by rw [e]; exact afj) hs he (Ql (acV (Ox kvs k) z) lo (Qm e (KT.out rel k)) lO)) rv
 ·have rv := rel.val k
  rw [hn] at rv
  cases hv : bc kvs k with
  | some v => rw [hv] at rv; exact (show False from rv).elim
  | none =>
   obtain ⟨x, ex, q⟩ := h0 hv
   exact ⟨x, ex, fun tk => q _ (I.tok tk)⟩
end
noncomputable def sT (td ty : TE) : TE := fun σ H Q => td σ H fun x H1 => ∃ a, x = .ref a /\ vu H1 a /\ ty σ H1 fun y H2 => ∃ b kvs k v, y = .ref b /\ H2 a = some (.dT kvs) /\ H2 b = some (.tup (k.map kV)) /\ bc kvs k = some v /\ Q v (upd H2 a (.dT (fE kvs k)))
noncomputable def wA (td ty tx : TE) : TE := fun σ H Q => td σ H fun x H1 => ∃ a, x = .ref a /\ vu H1 a /\ ty σ H1 fun y H2 => tx σ H2 fun z H3 => ∃ b kvs k, y = .ref b /\ H3 a = some (.dT kvs) /\ H3 b = some (.tup (k.map kV)) /\
 (∀ v, bc kvs k = some v -> Q v (upd H3 a (.dT (fE kvs k)))) /\ (bc kvs k = none -> Q z H3)
section
variable {X : Cx} {o e f : ae4} {td ty tx : TE} {apos cm : Pos}
theorem Ja (hu : X.A.units + 1 < age) (ho : PE X o td) (he : PE X e ty) (m : M1 X o "pop" apos e cm) : PE X (.Call (.Attribute o "pop" apos) [e] [] cm) (sT td ty) := by
 intro pins s σ H Q I h
 refine wpAny_Call_method m.base m.few m.line PySem.F.plainAttrs_dict aij PySem.F.type_dict_pop (au (ho pins s σ H _ I h) fun u s1 ⟨x, H1, I1, rx, a, ex, d, q1⟩ => ?_)
 subst ex; obtain rfl : u = ac3 a := rx
 obtain ⟨t1, t2, _⟩ := OI I1 d
 refine ⟨t1, t2, ?_⟩; rw [m.trees]
 refine agn rfl (agS (agi (au (he pins s1 σ H1 _ I1 q1) fun iv s2 ⟨y, H2, I2, ry, b, kvs, k, v, ey, ea, eb, l, q2⟩ => agt ?_)))
 subst ey; obtain rfl : iv = ac3 b := ry
 exact Qn hu I2 ea eb (.inl rfl) (fun v' l' w' s3 I3 gf => ⟨v', _, I3, gf, by rw [l] at l'; cases l'; exact q2⟩) fun l' => by rw [l] at l'; cases l'
theorem Qo : cW X (.builtin "len") (fun xs H Q => ∃ p kvs, xs = [.ref p] /\ H p = some (.dT kvs) /\ Q (.int kvs.length) H) := by
 intro pins s σ H xs us Q I r h
 obtain ⟨p, kvs, rfl, e, q⟩ := h
 obtain ⟨u, rfl, rx⟩ := vals1 r
 cases rx
 obtain ⟨z, lo, xs, rel, o, es, ep, ho, hc, hdt, he, his, hn⟩ := vo I.ai e
 have hs : es.size = kvs.length := (afK he).trans (Paired.length rel).symm
 have T : s.TypeIs (.ref p) "dict" := ⟨o, ho, hc.1⟩
 have g : MeetsIn X.prog X.w (afH.«dict.__len__» ⟨[.ref p], []⟩) (fun _ R s => s.heap.get? p = some o /\ R (.ok (.ret (.int kvs.length s.toks))) { s with toks := s.toks + 1 }) := .of_wp fun A R s ⟨ho, h⟩ => by
  show ac0 _ _ (dictSize p >>= _) _ _ s
  unfold dictSize
  refine acA (acA (aeU ho hdt (acD ?_))); show ac0 _ _ (Builtin.Dict.pendingCount p >>= _) _ _ s
  refine acA (wpAny_pendingCount_other lo (wpAny_ret_mkInt ?_))
  rw [akC, hs]; exact h
 refine af0 kind_len plain_len entry_len (args_len1 _) ?_
 unfold afH.«len»
 refine acA (m := oneArg "len" _) (acD (acA (m := callSpecial? (.ref p) (afL "__len__")) (aeP (name := afL "__len__") T ail (call_meetsIn ail T PySem.F.entry_dict_len (PySem.F.args_dict_len_1 _) g ⟨ho, ?_⟩))))
 show ac0 _ _ _ _ _ { s with toks := s.toks + 1 }
 refine acA (adK (acD (acA (aew ?_))))
 show ac0 _ _ (if ((kvs.length : Nat) : Int) < 0 then _ else _) _ _ _; rw [if_neg (by omega)]
 rw [aeY] at z
 show ac0 _ _ (if ((kvs.length : Nat) : Int) ≥ 2 ^ 63 then _ else _) _ _ _; rw [if_neg (by omega)]
 exact acA (wpAny_mkInt (acD ⟨_, rfl, .int kvs.length, H, I.tok _, ⟨_, rfl⟩, q⟩))
end
section
variable {prog : ac2} {w : adw} {K : Type} [DecidableEq K] {knd : KeyKind prog w K} {A : adD} {E : acC -> acF -> Prop} {s : acF} {o d : acJ} {es : Array ae0} {ep : Nat}
end
end Gz
namespace Gz
open PySem PySem.Spec PyProof.Rows L2
local macro_rules | `(tactic| walk_at "om") => `(tactic| ((try simp only [PySem.Addr] at *); omega))
section
variable {prog : ac2} {w : adw} {A : adD} {E : acC -> acF -> Prop} {s : acF}
end
noncomputable abbrev KD (prog : ac2) (w : adw) := agE (dq prog w)
noncomputable abbrev Row := acJ × List Key × acJ × acC
section
variable {prog : ac2} {w : adw} {A : adD} {E : acC -> acF -> Prop} {s : acF}
theorem Qp {h h' : aer} {k : List Key} {a : acJ} (x : (KD prog w).is h k a) (e : ∀ o, h.get? a = some o -> h'.get? a = some o) : (KD prog w).is h' k a :=
 let ⟨o, af, n, h1, r⟩ := x; ⟨o, af, n, e o h1, r⟩
noncomputable def Bh (prog : ac2) (w : adw) (h : aer) (r : Row) : Prop := (∃ o m, h.get? r.1 = some o /\ o.cls = .type "tuple" /\ o.data = .seq #[.ref r.2.2.1, r.2.2.2] m) /\ (KD prog w).is h r.2.1 r.2.2.1
theorem Bh.keep {h h' : aer} {r : Row} (x : Bh prog w h r) (e1 : ∀ o, h.get? r.1 = some o -> h'.get? r.1 = some o) (e2 : ∀ o, h.get? r.2.2.1 = some o -> h'.get? r.2.2.1 = some o) : Bh prog w h' r :=
 let ⟨⟨o, m, a, b⟩, c⟩ := x; ⟨⟨o, m, e1 o a, b⟩, Qp c e2⟩
end
section
variable {X : Cx} {pins : List (acJ × Obj)} {σ : L2.St} {H : Hp} {s : acF}
end
end Gz
namespace Gz
open PySem PySem.Spec PyProof.Rows L2
theorem bA {c : Prop} [Decidable c] {a b : Prop} (h : c -> a) (h' : ¬ c -> b) : if c then a else b := by
 by_cases z : c
 ·rw [if_pos z]; exact h z
 ·rw [if_neg z]; exact h' z
theorem Hw {P : ac2} {w : adw} {H : Hp} (h : aer) (hb : aeA < h.objs.size) : bp P w H (h.push { cls := .type "dict", data := .dict #[] }) h.objs.size (.dK []) :=
 ⟨adf _, beq_eq_false_iff_ne.mpr (adV (ade hb)), [], .nil, Heap.DictOf.new h⟩
section
variable {X : Cx} {pos : Pos}
theorem Inv.Qq {pins : List (acJ × Obj)} {σ : L2.St} {H : Hp} {s : acF} (I : Inv X pins σ H s) : aeA < s.heap.objs.size := by
 have h : acR < s.heap.objs.size := (I.mod.glob.keeps I.bk).lt
 exact akD (by decide) h
noncomputable def sU : TE := fun _ H Q => ∀ p, H p = none -> Q (.ref p) (upd H p (.dT []))
theorem Bi : PE X (.Dict [] [] pos) sU := fun pins s σ H Q I h => wpAny_Dict_empty
 ⟨.ref s.heap.objs.size, _, I.laid (a := s.heap.objs.size) (o := .dT []) (t' := s.toks) (fun _ _ z => acE _ z) (ac1 _)
  ⟨adf _, beq_eq_false_iff_ne.mpr (adV (ade (Inv.Qq I))), [], .nil, _, #[], 0, acT _ rfl, ⟨rfl, rfl, rfl⟩, rfl, rfl, agC⟩, rfl, h _ (I.ai.fresh (ac1 _))⟩
theorem Jb {x : Str} {n : Int} (h : ∃ t, X.mg x = some (.int n t)) (hg : Gl X x) (hd : (x == ("__debug__" : Str)) = false := by decide) : PE X (.Name x pos) (tC (.int n)) := by
 obtain ⟨t, ht⟩ := h
 exact Nq (v := .int n) hg ht ⟨t, rfl⟩ hd
end
end Gz
namespace Gz
open PySem PySem.Spec PyProof.Rows L2
local macro_rules | `(tactic| walk_at "om") => `(tactic| ((try simp only [PySem.Addr] at *); omega))
section
variable {M : Model} {A : adD} {E : acC -> acF -> Prop} {s : acF} {B : aer} {l outer : List Env} {env : Env} {L x C : acJ} {cls a0 mk : acC} {Q : Unit -> acF -> Prop}
end
section
variable {P : ac2} {w : adw} {K : acB} {mg : Str -> Option acC} {base : aer} {N : List Str} {qual : Str} {scope : agN} {f : acJ} {cd : acC} {A : adD} {outer : List Env} {s : acF} {H : Hp} {E : XK}
end
section
variable {X : Cx} {pins : List (acJ × Obj)} {σ : L2.St} {H2 : Hp} {s2 : acF} {x : Str} {px pos : Pos} {elt iter : ae4} {ifs : List ae4} {scope : agN} {cl : List (Str × acJ)} {fr : List Nat} {ys : List Str} {tt : TT} {te : TE}
end
section
variable {X : Cx} {F : acC -> acF -> Prop} {pins pn : List (acJ × Obj)} {σ : L2.St} {H : Hp} {s : acF} {A' : adD}
end
end Gz
namespace Gz
open PySem PySem.Spec PyProof.Rows L2
noncomputable def nW (ks : List P2) (r : Int) (i : Nat) : Bool := decide ((bo ks i).1 <= r) && decide (r <= (bo ks (i + 1)).1)
end Gz
namespace Gz
open PySem PySem.Spec PyProof.Rows L2
local macro_rules | `(tactic| walk_at "om") => `(tactic| ((try simp only [PySem.Addr] at *); omega))
theorem Jc {X : Cx} {A : adD} {o i : ae4} {pos : Pos} {td ty : TE} (hu : A.units + 1 < age) (ho : PE X o td) (hi : PE X i ty) (hs : AG i) (eA : X.A = A := by rfl) : PE X (.Subscript o i pos) (nT td ty) := by
 subst eA; exact lP hu ho hi hs
theorem Jd {X : Cx} {K : acB} {e : ae4} {f : Str} {pos : Pos} {ta : TE} (he : PE X e ta) (hb : agh e f X.env (eval e X.env) = eval e X.env) (eK : X.K = K := by rfl) : PE X (.Attribute e f pos) (nG K ta f) := by
 subst eK; exact fB he hb
noncomputable abbrev Tb := List (P2 × S2)
noncomputable def aL (i j : Int) : List Key := [.inl i, .inl j]
theorem sV {a b : P2} (h : aL a.1 a.2 = aL b.1 b.2) : a = b := by
 unfold aL at h
 injection h with h1 h2
 injection h2 with h2 _
 exact Prod.ext (Sum.inl.inj h1) (Sum.inl.inj h2)
noncomputable def dC (tb : Tb) (s : P2) : Option S2 := (tb.find? fun r => decide (r.1 = s)).map (·.2)
noncomputable def cO (tb : Tb) (s : P2) (w : S2) : Tb := if (tb.any fun r => decide (r.1 = s)) = true then tb.map (fun r => if r.1 = s then (r.1, w) else r) else tb ++ [(s, w)]
noncomputable def md (tb : Tb) (s : P2) : Tb := tb.filter fun r => decide (r.1 ≠ s)
noncomputable def aR (H : Hp) : List (List Key × V) -> Tb -> Prop
 | [], [] => True
 | kv :: kvs, r :: tb => (kv.1 = aL r.1.1 r.1.2 /\ a8 H kv.2 r.2.1 r.2.2) /\ aR H kvs tb
 | _, _ => False
section
variable {H H' : Hp} {kvs : List (List Key × V)} {tb : Tb}
theorem aR.len : ∀ {kvs : List (List Key × V)} {tb : Tb}, aR H kvs tb -> kvs.length = tb.length
 | [], [], _ => rfl
 | _ :: kvs, _ :: tb, h => congrArg (· + 1) (aR.len (kvs := kvs) (tb := tb) h.2)
 | [], _ :: _, h => h.elim
 | _ :: _, [], h => h.elim
theorem aR.imp (f : ∀ v a b, a8 H v a b -> a8 H' v a b) : ∀ {kvs : List (List Key × V)} {tb : Tb}, aR H kvs tb -> aR H' kvs tb
 | [], [], _ => trivial
 | _ :: kvs, _ :: tb, h => ⟨⟨h.1.1, f _ _ _ h.1.2⟩, aR.imp f (kvs := kvs) (tb := tb) h.2⟩
 | [], _ :: _, h => h.elim
 | _ :: _, [], h => h.elim
theorem aR.app : ∀ {kvs oo : List (List Key × V)} {tb bO : Tb}, aR H kvs tb -> aR H oo bO -> aR H (kvs ++ oo) (tb ++ bO)
 | [], _, [], _, _, h => h
 | _ :: kvs, oo, _ :: tb, bO, h, h' => ⟨h.1, aR.app (kvs := kvs) (tb := tb) h.2 h'⟩
 | [], _, _ :: _, _, h, _ => h.elim
 | _ :: _, _, [], _, h, _ => h.elim
theorem aR.keys : ∀ {kvs : List (List Key × V)} {tb : Tb}, aR H kvs tb -> kvs.map (·.1) = tb.map fun r => aL r.1.1 r.1.2
 | [], [], _ => rfl
 | kv :: kvs, r :: tb, h => by rw [ac7, ac7, h.1.1, aR.keys (kvs := kvs) (tb := tb) h.2]
 | [], _ :: _, h => h.elim
 | _ :: _, [], h => h.elim
theorem aR.any (s : P2) : ∀ {kvs : List (List Key × V)} {tb : Tb}, aR H kvs tb -> (kvs.any fun kv => decide (kv.1 = aL s.1 s.2)) = tb.any fun r => decide (r.1 = s)
 | [], [], _ => rfl
 | kv :: kvs, r :: tb, h => by
  rw [aeN, aeN, aR.any s (kvs := kvs) (tb := tb) h.2, h.1.1]
  congr 1
  by_cases e : r.1 = s
  ·rw [e, decide_eq_true rfl, decide_eq_true rfl]
  ·rw [decide_eq_false e, decide_eq_false fun z => e (sV z)]
 | [], _ :: _, h => h.elim
 | _ :: _, [], h => h.elim
theorem aR.val (s : P2) : ∀ {kvs : List (List Key × V)} {tb : Tb}, aR H kvs tb -> (dC tb s = none -> bc kvs (aL s.1 s.2) = none) /\ ∀ w, dC tb s = some w -> ∃ v, bc kvs (aL s.1 s.2) = some v /\ a8 H v w.1 w.2
 | [], [], _ => ⟨fun _ => rfl, fun w h => by cases h⟩
 | kv :: kvs, r :: tb, h => by
  have ih := aR.val s (kvs := kvs) (tb := tb) h.2
  by_cases e : r.1 = s
  ·have e1 : dC (r :: tb) s = some r.2 := by simp [dC, aev, e]
   rw [e1, fF (h.1.1.trans (by rw [e]))]
   exact ⟨fun z => (by cases z), fun w z => (by cases z; exact ⟨_, rfl, h.1.2⟩)⟩
  ·have e1 : dC (r :: tb) s = dC tb s := by simp [dC, aev, e]
   rw [e1, fG (fun z => e (sV (h.1.1.symm.trans z)))]
   exact ih
 | [], _ :: _, h => h.elim
 | _ :: _, [], h => h.elim
theorem aR.nO {s : P2} {v : V} {w : S2} (hv : a8 H v w.1 w.2) : ∀ {kvs : List (List Key × V)} {tb : Tb}, aR H kvs tb -> aR H (kvs.map fun kv => if kv.1 = aL s.1 s.2 then (kv.1, v) else kv) (tb.map fun r => if r.1 = s then (r.1, w) else r)
 | [], [], _ => trivial
 | kv :: kvs, r :: tb, h => by
  rw [ac7, ac7]
  refine ⟨?_, aR.nO hv (kvs := kvs) (tb := tb) h.2⟩
  by_cases e : r.1 = s
  ·rw [if_pos e, if_pos (h.1.1.trans (by rw [e]))]; exact ⟨h.1.1, hv⟩
  ·rw [if_neg e, if_neg (fun z => e (sV (h.1.1.symm.trans z)))]; exact h.1
 | [], _ :: _, h => h.elim
 | _ :: _, [], h => h.elim
theorem aR.put {s : P2} {v : V} {w : S2} (h : aR H kvs tb) (hv : a8 H v w.1 w.2) : aR H (putK kvs (aL s.1 s.2) v) (cO tb s w) := by
 unfold putK cO
 rw [h.any s]
 split
 ·exact h.nO hv
 ·exact h.app ⟨⟨rfl, hv⟩, trivial⟩
theorem aR.drop {s : P2} : ∀ {kvs : List (List Key × V)} {tb : Tb}, aR H kvs tb -> aR H (fE kvs (aL s.1 s.2)) (md tb s)
 | [], [], _ => trivial
 | kv :: kvs, r :: tb, h => by
  have ih := aR.drop (s := s) (kvs := kvs) (tb := tb) h.2
  unfold fE md at *
  rw [adI, adI]
  by_cases e : r.1 = s
  ·have e2 : kv.1 = aL s.1 s.2 := h.1.1.trans (by rw [e])
   rw [if_neg (by simp [e2]), if_neg (by simp [e])]; exact ih
  ·have e2 : ¬ kv.1 = aL s.1 s.2 := fun z => e (sV (h.1.1.symm.trans z))
   rw [if_pos (by simp [e2]), if_pos (by simp [e])]; exact ⟨h.1, ih⟩
 | [], _ :: _, h => h.elim
 | _ :: _, [], h => h.elim
theorem aR.sW : ∀ {ys : List V} {kvs : List (List Key × V)} {tb : Tb}, aR H kvs tb -> fb H ys kvs -> dZ H ys (tb.map (·.1))
 | [], [], [], _, _ => trivial
 | y :: ys, kv :: kvs, r :: tb, h, ⟨⟨a, e, ha⟩, t⟩ => ⟨⟨a, e, by rw [h.1.1] at ha; exact ha⟩, aR.sW (ys := ys) (kvs := kvs) (tb := tb) h.2 t⟩
 | [], _ :: _, _, _, h => h.elim
 | _ :: _, [], _, _, h => h.elim
 | _, [], _ :: _, h, _ => h.elim
 | _, _ :: _, [], h, _ => h.elim
end
noncomputable def TabAt (H : Hp) (p : acJ) (tb : Tb) : Prop := ∃ kvs, H p = some (.dT kvs) /\ aR H kvs tb
noncomputable def Fr (H H' : Hp) : Prop := ∀ b o, (∀ kvs, o ≠ HO.dT kvs) -> H b = some o -> H' b = some o
noncomputable def dD (ps : List acJ) (H H' : Hp) : Prop := ∀ b o, b ∉ ps -> H b = some o -> H' b = some o
noncomputable def Je (H : Hp) (ps : List acJ) : Prop := ∀ p ∈ ps, ∃ kvs, H p = some (.dT kvs)
section
variable {H H' H2 : Hp} {ps qs : List acJ} {p q : acJ} {tb : Tb}
theorem Fr.trans (a : Fr H H') (b : Fr H' H2) : Fr H H2 := fun c o h e => b c o h (a c o h e)
theorem _root_.L2.aj.fr (s : aj H H') : Fr H H' := fun b o _ e => s b o e
theorem dD.trans (a : dD ps H H') (b : dD ps H' H2) : dD ps H H2 := fun c o h e => b c o h (a c o h e)
theorem SameBut.but (a : SameBut p H H') (h : p ∈ ps) : dD ps H H' := fun c o z e => a c o (fun y => z (y ▸ h)) e
theorem dD.fr (a : dD ps H H') (d : Je H ps) : Fr H H' := fun b o ho e => by
 by_cases hb : b ∈ ps
 ·obtain ⟨kvs, hk⟩ := d b hb
  rw [hk] at e
  exact absurd (Option.some.inj e).symm (ho kvs)
 ·exact a b o hb e
theorem Bj {kvs : List (List Key × V)} {o : HO} (h : H p = some (.dT kvs)) : Fr H (upd H p o) := fun b u hu e => by
 rw [aA (fun z => by rw [z, h] at e; exact hu _ (Option.some.inj e).symm)]; exact e
theorem Qr {kvs : List (List Key × V)} (h : H p = some (.dT kvs)) : Je H [p] := fun b hb => ⟨kvs, (adG.mp hb) ▸ h⟩
theorem SameBut.fr {kvs : List (List Key × V)} (a : SameBut p H H') (h : H p = some (.dT kvs)) : Fr H H' := dD.fr (SameBut.but a (.head _)) (Qr h)
theorem dD.new (s : aj H H') (a : dD ps H' H2) (h : ∀ b ∈ ps, b ∉ qs -> H b = none) : dD qs H H2 := fun b o hb e => by
 by_cases hp : b ∈ ps
 ·have := h b hp hb; rw [this] at e; cases e
 ·exact a b o hp (s b o e)
theorem a8.fr {v : V} {a b : En} (h : a8 H v a b) (f : Fr H H') : a8 H' v a b := let ⟨p, e, hp⟩ := h; ⟨p, e, f _ _ (fun _ z => nomatch z) hp⟩
theorem TabAt.fr (h : TabAt H p tb) (f : Fr H H') (e : ∀ kvs, H p = some (.dT kvs) -> H' p = some (.dT kvs)) : TabAt H' p tb := let ⟨kvs, a, b⟩ := h; ⟨kvs, e _ a, b.imp fun _ _ _ z => z.fr f⟩
theorem TabAt.same (h : TabAt H p tb) (s : aj H H') : TabAt H' p tb := h.fr s.fr fun _ e => s _ _ e
theorem TabAt.Jf (h : TabAt H p tb) : ∃ kvs, H p = some (.dT kvs) := let ⟨kvs, a, _⟩ := h; ⟨kvs, a⟩
theorem TabAt.ne (h : TabAt H p tb) (hq : H q = none) : p ≠ q := fun z => by obtain ⟨kvs, a, _⟩ := h; rw [z, hq] at a; cases a
end
theorem oq {tb : Tb} {r : P2 × S2} (hn : (tb.map (·.1)).Nodup) (h : r ∈ tb) : dC tb r.1 = some r.2 := by
 induction tb with
 | nil => cases h
 | cons x l ih =>
  rw [ac7, adP] at hn
  rcases acN.mp h with z | z
  ·rw [<- z]; simp [dC, aev]
  ·have e : ¬ x.1 = r.1 := fun y => hn.1 (y ▸ acQ.mpr ⟨r, z, rfl⟩)
   have : dC (x :: l) r.1 = dC l r.1 := by simp [dC, aev, e]
   rw [this, ih hn.2 z]
theorem Qs {tb : Tb} {s : P2} {w : S2} (h : dC tb s = some w) : (s, w) ∈ tb := by
 unfold dC at h
 obtain ⟨r, h1, h2⟩ := adH.mp h
 have := List.mem_of_find?_eq_some h1
 have e := List.find?_some h1
 have e : r.1 = s := by simpa using e
 rw [<- h2, <- e]; exact this
noncomputable def me (e t : Int) (s : P2) : Prop := (0 <= s.1 /\ s.1 < e) /\ 0 <= s.2 /\ s.2 < t
instance (e t : Int) (s : P2) : Decidable (me e t s) := by unfold me; infer_instance
noncomputable def bT (e t : Int) (tb : Tb) : Prop := (tb.map (·.1)).Nodup /\ ∀ r ∈ tb, me e t r.1
theorem Jg (tb : Tb) (s : P2) (w : S2) : (cO tb s w).length <= tb.length + 1 := by
 unfold cO; split <;> simp
theorem bT.put {e t : Int} {tb : Tb} {s : P2} {w : S2} (h : bT e t tb) (hs : me e t s) : bT e t (cO tb s w) := by
 unfold cO
 split
 ·refine ⟨?_, fun r hr => ?_⟩
  ·have : (tb.map fun r => if r.1 = s then (r.1, w) else r).map (·.1) = tb.map (·.1) := by
    rw [aeR]
    refine afy fun r _ => ?_
    show (if r.1 = s then (r.1, w) else r).1 = r.1
    split <;> rfl
   rw [this]; exact h.1
  ·obtain ⟨x, hx, rfl⟩ := acQ.mp hr
   have := h.2 x hx
   split <;> exact this
 ·rename_i z
  refine ⟨?_, fun r hr => ?_⟩
  ·rw [aeH]
   refine Hy h.1 fun y => z ?_
   obtain ⟨x, hx, e⟩ := acQ.mp y
   rw [ae9]
   exact ⟨x, hx, by simpa using e⟩
  ·rcases adj.mp hr with y | y
   ·exact h.2 r y
   ·rw [adG.mp y]; exact hs
theorem bT.drop {e t : Int} {tb : Tb} {s : P2} (h : bT e t tb) : bT e t (md tb s) :=
 ⟨h.1.sublist ((aeB).map _), fun r hr => h.2 r (adp.mp hr).1⟩
theorem bT.nil {e t : Int} : bT e t [] := ⟨agC, fun r h => by cases h⟩
noncomputable def fc (tb : Tb) : List (List Int) := tb.map fun r => [r.1.1, r.1.2]
noncomputable def iR (tb : Tb) : Tb := bL (fc tb) ((0, 0), (none, none)) tb
theorem sX {tb : Tb} {r : P2 × S2} (h : r ∈ iR tb) : r ∈ tb := ju.mem_iff.mp h
theorem wB {tb : Tb} : (iR tb).length = tb.length := sk
theorem ak.sort {α : Type} {R : V -> α -> Prop} {xs : List V} {as : List α} {d : α} {kis : List (List Int)} (h : ak R xs as) : ak R (bL kis .non xs) (bL kis d as) := by
 have hl := h.len
 have hp := (nY (n := xs.length) (jt kis)).1
 unfold bL
 rw [<- hl]
 have gen : ∀ l : List Nat, (∀ i ∈ l, i < xs.length) -> ak R (l.map fun i => xs.getD i .non) (l.map fun i => as.getD i d) := by
  intro l
  induction l with
  | nil => intro _; exact trivial
  | cons i l ih =>
   intro q
   have hi := q i (.head _)
   obtain ⟨s, es, hs⟩ := h.get (acG hi)
   refine ⟨?_, ih fun j hj => q j (.tail _ hj)⟩
   show R (xs.getD i .non) (as.getD i d)
   rw [acH, acH, es, acG hi]
   exact hs
 exact gen _ fun i hi => by simpa using hp.mem_iff.mp hi
theorem ak.bind {α β : Type} {R : V -> α -> Prop} {f : β -> α} : ∀ {xs : List V} {bs : List β}, ak R xs (bs.map f) -> ak (fun x b => R x (f b)) xs bs
 | [], [], _ => trivial
 | _ :: _, _ :: _, h => ⟨h.1, ak.bind h.2⟩
 | [], _ :: _, h => h.elim
 | _ :: _, [], h => h.elim
theorem Qt {H : Hp} {kvs : List (List Key × V)} {tb : Tb} (h : aR H kvs tb) : kvs.map (·.1) = (fc tb).map fun k => k.map ahB := by
 rw [h.keys]; unfold fc; rw [aeR]; rfl
theorem Qu {tb : Tb} : ∀ k ∈ fc tb, k ≠ [] := fun k hk => by
 obtain ⟨r, _, rfl⟩ := acQ.mp hk
 exact fun z => nomatch z
theorem Jh {H : Hp} {kvs : List (List Key × V)} {ys : List V} {tb : Tb} (h : aR H kvs tb) (hk : fb H ys kvs) : ak (fun x (r : P2 × S2) => aX H x r.1) (bL (fc tb) .non ys) (iR tb) := ak.sort (ak.bind (h.sW hk))
theorem Ji {K : acB} {H : Hp} : ∀ {ys : List V} {tb : Tb}, ak (fun x (r : P2 × S2) => aX H x r.1) ys tb -> cQ K H ys (fc tb)
 | [], [], _ => trivial
 | y :: ys, r :: tb, ⟨⟨a, e, ha⟩, t⟩ => ⟨⟨a, e, .inl (.inl ha), fun z => nomatch z⟩, Ji (ys := ys) (tb := tb) t⟩
 | [], _ :: _, h => h.elim
 | _ :: _, [], h => h.elim
noncomputable def d9 (H : Hp) (v : V) (r : P2 × S2) : Prop := ∃ a w, v = .ref a /\ H a = some (.tup [.int r.1.1, .int r.1.2, w]) /\ a8 H w r.2.1 r.2.2
theorem d9.same {H H' : Hp} {v : V} {r : P2 × S2} (h : d9 H v r) (s : aj H H') : d9 H' v r := let ⟨a, w, e, ha, hw⟩ := h; ⟨a, w, e, s _ _ ha, hw.same s⟩
noncomputable def Jj (r : P2 × S2) : afX := .tuple [.int r.1.1, .int r.1.2, A2 r.2]
theorem Bk {K : acB} {H : Hp} : ∀ {xs : List V} {tb : Tb}, ak (d9 H) xs tb -> eX K H xs (tb.map Jj)
 | [], [], _ => .nil
 | x :: xs, r :: tb, ⟨⟨a, w, e, ha, hw⟩, t⟩ => by
  subst e
  exact .cons (.tup (az.of ha) (.cons (.int _) (.cons (.int _) (.cons (a8.dat hw) .nil)))) (Bk t)
 | [], _ :: _, h => h.elim
 | _ :: _, [], h => h.elim
end Gz
namespace Gz
open PySem PySem.Spec PyProof.Rows L2
theorem Qv {a b c d : En} (h : bx a b = true) : bx (iN a c) (iO b d) = true := by
 rcases a with _ | x <;> rcases b with _ | y <;> rcases c with _ | z <;> rcases d with _ | w <;> simp [bx, iN, iO] at h ⊢ <;> omega
noncomputable def bU (e : S2) (ss : List S2) : S2 := ss.foldl (fun e s => (iN e.1 s.1, iO e.2 s.2)) e
theorem Qw (e s : S2) (ss : List S2) : bU e (s :: ss) = bU (iN e.1 s.1, iO e.2 s.2) ss := rfl
theorem Jk : ∀ (ss : List S2) {e : S2}, bx e.1 e.2 = true -> bx (bU e ss).1 (bU e ss).2 = true
 | [], _, h => h
 | s :: ss, e, h => by
  rw [Qw]
  exact Jk ss (Qv h)
theorem Qx {ss : List S2} {e : S2} {i : Nat} (h : bx (bU e (ss.take i)).1 (bU e (ss.take i)).2 = true) : bx (bU e ss).1 (bU e ss).2 = true := by
 have : bU e ss = bU (bU e (ss.take i)) (ss.drop i) := by
  unfold bU
  rw [<- ajg, afc]
 rw [this]
 exact Jk _ h
theorem Qy {ss : List S2} {e s : S2} {i : Nat} (h : ss[i]? = some s) : bU e (ss.take (i + 1)) = (iN (bU e (ss.take i)).1 s.1, iO (bU e (ss.take i)).2 s.2) := by
 unfold bU
 rw [aea, h, ajg]
 rfl
noncomputable def mf (e : S2) (ss : List S2) : W2 := if bx (bU e ss).1 (bU e ss).2 = true then none else some (bU e ss)
theorem ot {H : Hp} : ∀ {xs : List V} {ss : List S2}, lY H xs ss ↔ ak (fun x s => a8 H x s.1 s.2) xs ss
 | [], [] => Iff.rfl
 | _ :: _, _ :: _ => and_congr Iff.rfl ot
 | [], _ :: _ => Iff.rfl
 | _ :: _, [] => Iff.rfl
noncomputable abbrev Pa := Str × Int × S2
noncomputable def sY (H : Hp) (v : V) (p : Pa) : Prop := ∃ (t q : acJ), v = .ref t /\ H t = some (.tup [.str p.1, .int p.2.1, .ref q]) /\ H q = some (.tup [ev p.2.2.1, ev p.2.2.2])
theorem sY.same {H H' : Hp} {v : V} {p : Pa} (h : sY H v p) (s : aj H H') : sY H' v p := let ⟨t, q, e, a, b⟩ := h; ⟨t, q, e, s _ _ a, s _ _ b⟩
noncomputable abbrev ou (H : Hp) : List V -> List Pa -> Prop := ak (sY H)
theorem ou.same {H H' : Hp} {xs : List V} {ps : List Pa} (h : ou H xs ps) (s : aj H H') : ou H' xs ps := ak.imp (fun _ _ r => r.same s) h
noncomputable def Bl (k : Str) (t : Int) (p : Pa) : Bool := decide (p.1 = k) && decide (p.2.1 = t)
noncomputable def sel (ps : List Pa) (k : Str) (t : Int) : List S2 := (ps.filter (Bl k t)).map (·.2.2)
noncomputable def hasB (n : Int) (k : Str) (t : Int) : Bool := if k = "step" then decide (0 <= t /\ t < n) && decide (0 <= t + 1 /\ t + 1 < n) else decide (k = "at") && decide (0 <= t /\ t < n)
noncomputable def sZ (n : Int) (ps : List Pa) : Prop := ∀ p ∈ ps, hasB n p.1 p.2.1 = true
theorem int_at {cs : List Int} {t : Int} (h0 : 0 <= t) (h1 : t < (cs.length : Int)) : dw (cs.map V.int) t = some (.int (cs.getD t.toNat 0)) := by
 have e : t = ((t.toNat : Nat) : Int) := by omega
 refine (congrArg (dw _) e).trans (dz ?_)
 rw [adn, acH, acG (by omega)]
 rfl
structure Gd (n : Nat) (d : afX) : Prop where
 eqv : afN d d = true
 lay : d.canLay0 = true
 dep : d.depth <= n
theorem Gd.up {n m : Nat} {d : afX} (h : Gd n d) (hm : n <= m) : Gd m d := ⟨h.eqv, h.lay, acV h.dep hm⟩
theorem Gd.of {n : Nat} {d : afX} (h : fL n d = true) : Gd n d := let ⟨a, b, c⟩ := IB d h; ⟨a, b, c⟩
theorem Gd.int (i : Int) : Gd 0 (.int i) := .of rfl
theorem Gd.all : ∀ {ds : List afX} {n : Nat}, (∀ d ∈ ds, Gd n d) -> ahG ds ds = true /\ agx ds = true /\ ag0 ds <= n
 | [], n, _ => ⟨rfl, rfl, adf _⟩
 | d :: ds, n, h => by
  obtain ⟨a, b, c⟩ := h d (.head _)
  obtain ⟨a', b', c'⟩ := Gd.all (ds := ds) fun x hx => h x (.tail _ hx)
  exact ⟨by simp only [ahG, a, a', ahH], by simp only [agx, b, b', ahH], by simp only [ag0]; omega⟩
theorem Gd.lst {ds : List afX} {n : Nat} (h : ∀ d ∈ ds, Gd n d) : Gd (n + 1) (.list ds) := by
 obtain ⟨a, b, c⟩ := Gd.all h
 exact ⟨by simpa only [afN] using a, by simpa only [ahg] using b, by simp only [PyData.depth]; omega⟩
theorem Gd.tup {ds : List afX} {n : Nat} (h : ∀ d ∈ ds, Gd n d) : Gd (n + 1) (.tuple ds) := by
 obtain ⟨a, b, c⟩ := Gd.all h
 exact ⟨by simpa only [afN] using a, by simpa only [ahg] using b, by simp only [PyData.depth]; omega⟩
theorem wC {K : acB} {H : Hp} {x y : V} {d : afX} {n : Nat} {neg : Bool} {Q : VK} (hx : Dat K H x d) (hy : Dat K H y d) (g : Gd n d) (hn : n <= 60) (q : Q (.bl (!neg)) H) : A0 K neg x y H Q := by
 refine ⟨d, d, hx, hy, g.lay, g.lay, acV g.dep hn, ?_⟩
 rw [g.eqv]
 cases neg <;> exact q
theorem Qz (s : S2) : Gd 1 (A2 s) := .of (by
 obtain ⟨a, b⟩ := s
 cases a <;> cases b <;> rfl)
end Gz
namespace Gz
open PySem PySem.Spec PyProof.Rows L2
theorem Bm {α β : Type} {R : V -> α -> Prop} {R' : V -> β -> Prop} {Ok : Hp -> Prop} {ρ : L2.St} {tt : TT} {te : TE} {p : α -> Bool} {f : α -> β} {Q' : List V -> Hp -> Prop} {H : Hp} (b8 : Ok H) : ∀ {xs : List V} {as : List α} {ys : List V}, ak R xs as ->
 (∀ x a, R x a -> ∀ Q, Q (p a) H -> tt (some x :: ρ) H Q) -> (∀ x a, p a = true -> R x a -> ∀ Q : VK, (∀ y, R' y (f a) -> Q y H) -> te (some x :: ρ) H Q) -> (∀ zs, ak R' zs ((as.filter p).map f) -> Q' (ys ++ zs) H) -> dP Ok ρ tt te xs ys H Q'
 | [], [], ys, _, _, _, q => ⟨b8, by simpa using q [] trivial⟩
 | x :: xs, a :: as, ys, h, ht, he, q => by
  refine ⟨b8, ht x a h.1 _ ?_⟩
  by_cases hb : p a = true
  ·rw [if_pos hb]
   refine he x a hb h.1 _ fun y ry => Bm b8 h.2 ht he fun zs hz => ?_
   have := q (y :: zs) (by rw [adI, if_pos hb]; exact ⟨ry, hz⟩)
   simpa using this
  ·rw [if_neg hb]
   refine Bm b8 h.2 ht he fun zs hz => q zs ?_
   rw [adI, if_neg hb]
   exact hz
 | [], _ :: _, _, h, _, _, _ => h.elim
 | _ :: _, [], _, h, _, _, _ => h.elim
end Gz
namespace Gz
open PySem PySem.Spec PyProof.Rows L2
theorem QA {K : acB} {i j k : Nat} {p : acJ} {x y z : V} {σ : L2.St} {H : Hp} {Q : L2.St -> Hp -> Prop} (h : az K H p [x, y, z]) (q : Q (((σ.set i (some x)).set j (some y)).set k (some z)) H) : gM K 3 (ck (bM i) (ck (bM j) (ck (bM k) gL))) (.ref p) σ H Q :=
 ⟨p, _, rfl, h, rfl, _, _, rfl, _, _, rfl, _, _, rfl, rfl, q⟩
end Gz
namespace Gz
open PySem PySem.Spec PyProof.Rows L2
end Gz
namespace Gz
open PySem L2
end Gz
namespace Gz
open PySem L2
noncomputable def tf (s : S2) (x : Int) : Prop := (∀ a, s.1 = some a -> a <= x) /\ ∀ b, s.2 = some b -> x <= b
noncomputable abbrev Mk := Nat × S2
structure mh (ps : List P2) (ms : List Mk) (tp : Nat -> Option P2) : Prop where
 val : ∀ t v k, t <= ps.length -> tp t = some (v, k) -> ∃ (i : Nat) (m : Mk) (h : Int), k = (i : Int) /\ ms[i]? = some m /\ m.2.2 = some h /\ h + c6 ps m.1 t <= v
 top : ∀ m ∈ ms, ∀ h, m.2.2 = some h -> ∃ v k, tp m.1 = some (v, k) /\ v <= h
 fwd : ∀ t v k, t < ps.length -> tp t = some (v, k) -> ∃ v' k', tp (t + 1) = some (v', k') /\ v' <= v + (bo ps t).2
 bwd : ∀ t v k, t < ps.length -> tp (t + 1) = some (v, k) -> ∃ v' k', tp t = some (v', k') /\ v' <= v - (bo ps t).1
noncomputable def wD (ms : List Mk) (tp : Nat -> Option P2) : Prop := ∀ m ∈ ms, ∀ l v k, m.2.1 = some l -> tp m.1 = some (v, k) -> l <= v
noncomputable def iS (ps : List P2) (a b : Mk) : Prop := ∃ h l, a.2.2 = some h /\ b.2.1 = some l /\ h + c6 ps a.1 b.1 < l
noncomputable def dE (a b : P2) : Bool := decide (a.1 < b.1) || (decide (a.1 = b.1) && decide (a.2 < b.2))
noncomputable def dF (a b : P2) : P2 := if dE b a = true then b else a
noncomputable def hU : Option P2 -> Option P2 -> Option P2
 | none, b => b
 | some a, none => some a
 | some a, some b => some (dF a b)
theorem Bn (a b : P2) : (dF a b = a ∨ dF a b = b) /\ (dF a b).1 <= a.1 /\ (dF a b).1 <= b.1 := by
 unfold dF dE
 split
 ·rename_i h
  simp only [afl, aej, decide_eq_true_eq] at h
  exact ⟨.inr rfl, by omega, by omega⟩
 ·rename_i h
  simp only [afl, aej, decide_eq_true_eq, not_or, not_and] at h
  exact ⟨.inl rfl, by omega, by omega⟩
theorem Jl (a b : Option P2) : hU a b = a ∨ hU a b = b := by
 rcases a with _ | a <;> rcases b with _ | b
 ·exact .inl rfl
 ·exact .inr rfl
 ·exact .inl rfl
 ·show some (dF a b) = some a ∨ some (dF a b) = some b
  rcases (Bn a b).1 with h | h <;> rw [h]
  ·exact .inl rfl
  ·exact .inr rfl
noncomputable def dh (a : Option P2) (v : Int) : Prop := ∃ w k, a = some (w, k) /\ w <= v
theorem QB {a b : Option P2} {v : Int} (h : dh a v) : dh (hU a b) v := by
 obtain ⟨w, k, rfl, hw⟩ := h
 rcases b with _ | b
 ·exact ⟨w, k, rfl, hw⟩
 ·have := (Bn (w, k) b).2.1
  exact ⟨(dF (w, k) b).1, (dF (w, k) b).2, rfl, by dsimp only at this; omega⟩
theorem Bo {a b : Option P2} {v : Int} (h : dh b v) : dh (hU a b) v := by
 obtain ⟨w, k, rfl, hw⟩ := h
 rcases a with _ | a
 ·exact ⟨w, k, rfl, hw⟩
 ·have := (Bn a (w, k)).2.2
  exact ⟨(dF a (w, k)).1, (dF a (w, k)).2, rfl, by dsimp only at this; omega⟩
noncomputable def ox (a : Option P2) (QC : Int) : Option P2 := a.map fun q => (q.1 + QC, q.2)
theorem Jm {a : Option P2} {v b : Int} (h : dh a v) : dh (ox a b) (v + b) := by
 obtain ⟨w, k, rfl, hw⟩ := h
 exact ⟨w + b, k, rfl, by omega⟩
noncomputable def ed (ps : List P2) (ms : List Mk) (t : Nat) (a : Option P2) : Prop := ∀ v k, a = some (v, k) -> ∃ (i : Nat) (m : Mk) (h : Int), k = (i : Int) /\ ms[i]? = some m /\ m.2.2 = some h /\ h + c6 ps m.1 t <= v
theorem ed.Bp {ps : List P2} {ms : List Mk} {t : Nat} {a b : Option P2} (ha : ed ps ms t a) (hb : ed ps ms t b) : ed ps ms t (hU a b) := by
 rcases Jl a b with h | h <;> rw [h]
 ·exact ha
 ·exact hb
theorem QD (ps : List P2) (t : Nat) : c6 ps t t = 0 := by unfold c6; rw [if_pos (ac1 _)]; omega
theorem QE {ps : List P2} {t : Nat} (h : t < ps.length) : c6 ps t (t + 1) = (bo ps t).2 := by
 unfold c6
 rw [if_pos (agX _), l7 _ ps h]
 omega
theorem QF {ps : List P2} {t : Nat} (h : t < ps.length) : c6 ps (t + 1) t = -(bo ps t).1 := by
 unfold c6
 rw [if_neg (by omega), l7 _ ps h]
 omega
theorem ed.lift {ps : List P2} {ms : List Mk} (hp : jJ ps) (hm : ∀ m ∈ ms, m.1 <= ps.length) {t u : Nat} (ht : t <= ps.length) (hu : u <= ps.length) {a : Option P2} {b : Int} (hb : c6 ps t u = b) (h : ed ps ms t a) : ed ps ms u (ox a b) := by
 intro v k e
 obtain ⟨⟨w, q⟩, ea, e⟩ := adH.mp e
 cases e
 obtain ⟨i, m, x, e1, e2, e3, hx⟩ := h w q ea
 refine ⟨i, m, x, e1, e2, e3, ?_⟩
 have := P9 hp (hm m (acZ e2)) hu ht
 dsimp only
 omega
noncomputable def hV (tp : Nat -> Option P2) (i : Nat) (x : Option P2) : Nat -> Option P2 := fun t => if t = i then x else tp t
theorem mi {tp : Nat -> Option P2} {i : Nat} {x : Option P2} : hV tp i x i = x := if_pos rfl
theorem iT {tp : Nat -> Option P2} {i t : Nat} {x : Option P2} (h : t ≠ i) : hV tp i x t = tp t := if_neg h
theorem Jn {ps : List P2} {ms : List Mk} {tp : Nat -> Option P2} {i : Nat} {x : Option P2} (h : ∀ t, t <= ps.length -> ed ps ms t (tp t)) (hx : ed ps ms i x) : ∀ t, t <= ps.length -> ed ps ms t (hV tp i x t) := fun t ht => by
 by_cases e : t = i
 ·subst e; rw [mi]; exact hx
 ·rw [iT e]; exact h t ht
theorem wF {tp : Nat -> Option P2} {i t : Nat} {b : Option P2} {v : Int} (h : dh (tp t) v) : dh (hV tp i (hU (tp i) b) t) v := by
 by_cases e : t = i
 ·subst e; rw [mi]; exact QB h
 ·rw [iT e]; exact h
structure T1 (ps : List P2) (ms : List Mk) (j : Nat) (tp : Nat -> Option P2) : Prop where
 val : ∀ t, t <= ps.length -> ed ps ms t (tp t)
 top : ∀ m ∈ ms.take j, ∀ h, m.2.2 = some h -> dh (tp m.1) h
theorem T1.nil {ps : List P2} {ms : List Mk} : T1 ps ms 0 fun _ => none := ⟨fun _ _ _ _ e => (nomatch e), fun _ h => by simp at h⟩
theorem T1.skip {ps : List P2} {ms : List Mk} {j : Nat} {tp : Nat -> Option P2} {m : Mk} (T : T1 ps ms j tp) (hm : ms[j]? = some m) (hn : m.2.2 = none) : T1 ps ms (j + 1) tp := ⟨T.val, fun q hq h e => by
 rw [aea, hm] at hq
 rcases adj.mp hq with z | z
 ·exact T.top q z h e
 ·obtain rfl : q = m := by simpa using z
  rw [hn] at e; cases e⟩
theorem T1.put {ps : List P2} {ms : List Mk} {j : Nat} {tp : Nat -> Option P2} {m : Mk} {h : Int} (T : T1 ps ms j tp) (hm : ms[j]? = some m) (hh : m.2.2 = some h) : T1 ps ms (j + 1) (hV tp m.1 (hU (tp m.1) (some (h, (j : Int))))) := by
 have hv : ed ps ms m.1 (some (h, (j : Int))) := fun v k e => by
  cases e
  exact ⟨j, m, h, rfl, hm, hh, by rw [QD]; omega⟩
 refine ⟨fun t ht => ?_, fun q hq x e => ?_⟩
 ·by_cases e : t = m.1
  ·subst e; rw [mi]; exact (T.val _ ht).Bp hv
  ·rw [iT e]; exact T.val t ht
 ·rw [aea, hm] at hq
  rcases adj.mp hq with z | z
  ·exact wF (T.top q z x e)
  ·obtain rfl : q = m := by simpa using z
   rw [hh] at e
   cases e
   rw [mi]
   exact Bo ⟨h, j, rfl, ahF _⟩
structure T2 (ps : List P2) (ms : List Mk) (j : Nat) (tp : Nat -> Option P2) : Prop where
 val : ∀ t, t <= ps.length -> ed ps ms t (tp t)
 top : ∀ m ∈ ms, ∀ h, m.2.2 = some h -> dh (tp m.1) h
 fwd : ∀ t, t < j -> ∀ v, dh (tp t) v -> dh (tp (t + 1)) (v + (bo ps t).2)
theorem T1.two {ps : List P2} {ms : List Mk} {tp : Nat -> Option P2} (T : T1 ps ms ms.length tp) : T2 ps ms 0 tp := ⟨T.val, fun m h => T.top m (by rw [aeb]; exact h), fun _ h => absurd h (Nat.not_lt_zero _)⟩
theorem T2.step {ps : List P2} {ms : List Mk} {j : Nat} {tp : Nat -> Option P2} (hp : jJ ps) (hm : ∀ m ∈ ms, m.1 <= ps.length) (hj : j < ps.length) (T : T2 ps ms j tp) : T2 ps ms (j + 1) (hV tp (j + 1) (hU (tp (j + 1)) (ox (tp j) (bo ps j).2))) := by
 refine ⟨Jn T.val ((T.val _ (by omega)).Bp ((T.val j (by omega)).lift hp hm (by omega) (by omega) (QE hj))), fun m h x e => wF (T.top m h x e), fun t ht v hv => ?_⟩
 rw [iT (by omega)] at hv
 by_cases e : t = j
 ·subst e
  rw [mi]
  exact Bo (Jm hv)
 ·rw [iT (by omega)]
  exact T.fwd t (by omega) v hv
structure T3 (ps : List P2) (ms : List Mk) (j : Nat) (tp : Nat -> Option P2) : Prop where
 val : ∀ t, t <= ps.length -> ed ps ms t (tp t)
 top : ∀ m ∈ ms, ∀ h, m.2.2 = some h -> dh (tp m.1) h
 fwd : ∀ t, t < ps.length -> ∀ v, dh (tp t) v -> dh (tp (t + 1)) (v + (bo ps t).2)
 bwd : ∀ t, j <= t -> t < ps.length -> ∀ v, dh (tp (t + 1)) v -> dh (tp t) (v - (bo ps t).1)
theorem T2.three {ps : List P2} {ms : List Mk} {tp : Nat -> Option P2} (T : T2 ps ms ps.length tp) : T3 ps ms ps.length tp := ⟨T.val, T.top, T.fwd, fun t h1 h2 => absurd h2 (by omega)⟩
theorem T3.step {ps : List P2} {ms : List Mk} {j : Nat} {tp : Nat -> Option P2} (hp : jJ ps) (hm : ∀ m ∈ ms, m.1 <= ps.length) (hj : j < ps.length) (T : T3 ps ms (j + 1) tp) : T3 ps ms j (hV tp j (hU (tp j) (ox (tp (j + 1)) (-(bo ps j).1)))) := by
 have h1 := hp _ (IF hj)
 refine ⟨Jn T.val ((T.val _ (by omega)).Bp ((T.val (j + 1) (by omega)).lift hp hm (by omega) (by omega) (QF hj))), fun m h x e => wF (T.top m h x e), fun t ht v hv => ?_, fun t h2 h3 v hv => ?_⟩
 ·by_cases e : t = j
  ·subst e
   rw [mi] at hv
   rw [iT (by omega)]
   rcases Jl (tp t) (ox (tp (t + 1)) (-(bo ps t).1)) with z | z
   ·rw [z] at hv; exact T.fwd t ht v hv
   ·rw [z] at hv
    obtain ⟨w, k, e, hw⟩ := hv
    obtain ⟨⟨w', k'⟩, e1, e2⟩ := adH.mp e
    cases e2
    exact ⟨w', k', e1, by dsimp only at hw; omega⟩
  ·rw [iT e] at hv
   exact wF (T.fwd t ht v hv)
 ·rw [iT (by omega)] at hv
  by_cases e : t = j
  ·subst e
   rw [mi]
   refine Bo ?_
   have := Jm (b := -(bo ps t).1) hv
   rwa [show v + -(bo ps t).1 = v - (bo ps t).1 by omega] at this
  ·rw [iT e]
   exact T.bwd t (by omega) h3 v hv
theorem T3.tops {ps : List P2} {ms : List Mk} {tp : Nat -> Option P2} (T : T3 ps ms 0 tp) : mh ps ms tp :=
 ⟨fun t v k ht e => T.val t ht v k e, T.top, fun t v k ht e => T.fwd t ht v ⟨v, k, e, ahF _⟩, fun t v k ht e => T.bwd t (adf _) ht v ⟨v, k, e, ahF _⟩⟩
theorem mh.iS {ps : List P2} {ms : List Mk} {tp : Nat -> Option P2} (T : mh ps ms tp) {b : Mk} {v k l : Int} (hb : b.1 <= ps.length) (e : tp b.1 = some (v, k)) (hl : b.2.1 = some l) (hv : v < l) : ∃ (i : Nat) (a : Mk), k = (i : Int) /\ ms[i]? = some a /\ iS ps a b := by
 obtain ⟨i, m, h, e1, e2, e3, h4⟩ := T.val _ v k hb e
 exact ⟨i, m, e1, e2, h, l, e3, hl, by omega⟩
noncomputable def cF (ts : List (Option P2)) (t : Nat) : Option P2 := ts.getD t none
theorem QG {ts : List (Option P2)} {i : Nat} {x : Option P2} (h : i < ts.length) : cF (ts.set i x) = hV (cF ts) i x := by
 funext t
 unfold cF hV
 rw [acH, List.getElem?_set]
 by_cases e : t = i
 ·subst e; rw [if_pos rfl, if_pos rfl, if_pos h]; rfl
 ·rw [if_neg (fun z => e z.symm), if_neg e]
  exact (acH ..).symm
theorem QH (n : Nat) : cF (adU n none) = fun _ => none := by
 funext t
 unfold cF
 rw [acH, afu]
 split <;> rfl
end Gz
namespace Gz
open PySem L2
end Gz
namespace Gz
open PySem PySem.Spec PyProof.Rows L2
noncomputable def rowOf (H : Hp) : V -> List V
 | .ref p => match H p with
  | some (.tup xs) => xs
  | _ => []
 | _ => []
theorem iU {H : Hp} {p : acJ} {xs : List V} (h : H p = some (.tup xs)) : rowOf H (.ref p) = xs := by
 show (match H p with
  | some (.tup xs) => xs
  | _ => []) = xs
 rw [h]
noncomputable def fN (row : V -> List V) (tt : TT) : TT := fun σ H Q => match σ with
 | some v :: ρ => tt ((row v).map some ++ ρ) H Q
 | _ => False
noncomputable def fO (row : V -> List V) (te : TE) : TE := fun σ H Q => match σ with
 | some v :: ρ => te ((row v).map some ++ ρ) H Q
 | _ => False
section
variable {K : acB} {ρ : L2.St} {tt : TT} {te : TE} {H : Hp} {Q : VK} {a : acJ} {xs : List V} {row : V -> List V}
noncomputable def jM (K : acB) (a : acJ) (xs : List V) (row : V -> List V) (k : Nat) (H : Hp) : Prop := ag K H a xs /\ ∀ x ∈ xs, ∃ p, x = .ref p /\ az K H p (row x) /\ (row x).length = k
theorem Jo {k : Nat} {g : TG} (hg : ∀ (p : acJ) (ys : List V) (os : List (Option V)) (H : Hp) (Q : L2.St -> Hp -> Prop), os.length = k -> ys.length = k -> az K H p ys -> Q (ys.map some ++ ρ) H -> g (.ref p) (os ++ ρ) H Q)
 (hn : xs.length <= adb) (h : dP (jM K a xs row k) ρ (fN row tt) (fO row te) xs [] H fun zs H' => ∀ l, H' l = none -> Q (.ref l) (upd H' l (.lst zs))) :
 sP k (fZ K a) g ρ tt te H Q := by
 refine ⟨fun i m ys H => m = xs.length - i /\ i <= xs.length /\ ys.length <= i /\ dP (jM K a xs row k) ρ (fN row tt) (fO row te) (xs.drop i) ys H fun ys H' => ∀ l, H' l = none -> Q (.ref l) (upd H' l (.lst ys)), ⟨_, rfl, adf _, ac1 _, h⟩, ?_⟩
 rintro i m ys H ⟨rfl, hi, hy, c⟩
 by_cases aT : i < xs.length
 ·have e := afe aT
  rw [e] at c
  obtain ⟨⟨c0, c1⟩, c2⟩ := c
  have l1 : ∀ y : V, (ys ++ [y]).length <= i + 1 := fun y => by rw [adl, adC]; omega
  have l2 : ys.length <= i + 1 := by omega
  refine .inr ⟨⟨xs, _, c0, acG aT⟩, by omega, fun zs H' => zs.length <= i + 1 /\ dP (jM K a xs row k) ρ (fN row tt) (fO row te) (xs.drop (i + 1)) zs H' fun ys H' => ∀ l, H' l = none -> Q (.ref l) (upd H' l (.lst ys)), fun zs H' q => ⟨_, by omega, rfl, aT, q.1, q.2⟩, fun os QI v H' y => ?_⟩
  obtain ⟨rfl, ex⟩ := y
  have ex := ex xs c0
  rw [acG aT] at ex
  obtain ⟨p, ep, hp, hl⟩ := c1 xs[i] (adZ _)
  cases ex
  rw [ep] at hp hl c2 ⊢
  refine hg p _ os _ _ QI hl hp ⟨(row (.ref p)).map some, by rw [acI]; exact hl, rfl, ?_⟩
  simp only [l1, l2, true_and]
  exact c2
 ·have e : i = xs.length := by omega
  subst e
  rw [ajy] at c
  exact .inl ⟨⟨xs, c.1.1, ac1 _⟩, by omega, c.2⟩
theorem QJ {p : acJ} {ys : List V} {os : List (Option V)} {H : Hp} {Q : L2.St -> Hp -> Prop} (ho : os.length = 2) (hy : ys.length = 2) (h : az K H p ys) (q : Q (ys.map some ++ ρ) H) : gM K 2 (ck (bM 0) (ck (bM 1) gL)) (.ref p) (os ++ ρ) H Q := by
 match os, ho, ys, hy with
 | [o1, o2], _, [x, y], _ => exact lZ h q
theorem QK {p : acJ} {ys : List V} {os : List (Option V)} {H : Hp} {Q : L2.St -> Hp -> Prop} (ho : os.length = 3) (hy : ys.length = 3) (h : az K H p ys) (q : Q (ys.map some ++ ρ) H) : gM K 3 (ck (bM 0) (ck (bM 1) (ck (bM 2) gL))) (.ref p) (os ++ ρ) H Q := by
 match os, ho, ys, hy with
 | [o1, o2, o3], _, [x, y, z], _ => exact QA h q
theorem Jp (hn : xs.length <= adb) (h : dP (jM K a xs row 2) ρ (fN row tt) (fO row te) xs [] H fun zs H' => ∀ l, H' l = none -> Q (.ref l) (upd H' l (.lst zs))) :
 sP 2 (fZ K a) (gM K 2 (ck (bM 0) (ck (bM 1) gL))) ρ tt te H Q := Jo (fun _ _ _ _ _ ho hy h q => QJ ho hy h q) hn h
theorem QL (hn : xs.length <= adb) (h : dP (jM K a xs row 3) ρ (fN row tt) (fO row te) xs [] H fun zs H' => ∀ l, H' l = none -> Q (.ref l) (upd H' l (.lst zs))) :
 sP 3 (fZ K a) (gM K 3 (ck (bM 0) (ck (bM 1) (ck (bM 2) gL)))) ρ tt te H Q := Jo (fun _ _ _ _ _ ho hy h q => QK ho hy h q) hn h
end
end Gz
namespace Gz
open PySem PySem.Spec PyProof.Rows L2
theorem tj {α β : Type} {R : Hp -> V -> α -> Prop} {R' : Hp -> V -> β -> Prop} {Ok : Hp -> Prop} {ρ : L2.St} {tt : TT} {te : TE} {p : α -> Bool} {f : α -> β} {Q' : List V -> Hp -> Prop} (mono : ∀ H H' x a, aj H H' -> R H x a -> R H' x a) (oh : ∀ H H' x a, aj H H' -> R' H x a -> R' H' x a) : ∀ {xs : List V} {as : List α} {zs : List V} {bs : List β} {H : Hp}, ak (R H) xs as -> ak (R' H) zs bs -> (∀ H', aj H H' -> Ok H') ->
 (∀ x a, a ∈ as -> ∀ H', aj H H' -> R H' x a -> ∀ Q : Bool -> Hp -> Prop, Q (p a) H' -> tt (some x :: ρ) H' Q) -> (∀ x a, a ∈ as -> p a = true -> ∀ H', aj H H' -> R H' x a -> ∀ Q : VK, (∀ H2 y, aj H' H2 -> R' H2 y (f a) -> Q y H2) -> te (some x :: ρ) H' Q) -> (∀ H' ws, aj H H' -> ak (R' H') ws (bs ++ (as.filter p).map f) -> Q' ws H') -> dP Ok ρ tt te xs zs H Q'
 | [], [], zs, bs, H, _, hz, b8, _, _, q => ⟨b8 H (aj.refl H), q H zs (aj.refl H) (by simpa using hz)⟩
 | x :: xs, a :: as, zs, bs, H, h, hz, b8, ht, he, q => by
  refine ⟨b8 H (aj.refl H), ht x a (.head _) H (aj.refl H) h.1 _ ?_⟩
  by_cases hp : p a = true
  ·rw [if_pos hp]
   refine he x a (.head _) hp H (aj.refl H) h.1 _ fun H2 y s2 ry => ?_
   refine tj mono oh (bs := bs ++ [f a]) (h.2.imp fun _ _ r => mono _ _ _ _ s2 r) ((hz.imp fun _ _ r => oh _ _ _ _ s2 r).snoc ry) (fun H' s' => b8 H' (s2.trans s')) (fun x b hb H' s' => ht x b (.tail _ hb) H' (s2.trans s')) (fun x b hb hp H' s' => he x b (.tail _ hb) hp H' (s2.trans s')) fun H' ws s' hw => q H' ws (s2.trans s') ?_
   rw [adI, if_pos hp]
   simpa using hw
  ·rw [if_neg hp]
   refine tj mono oh h.2 hz b8 (fun x b hb => ht x b (.tail _ hb)) (fun x b hb hp => he x b (.tail _ hb) hp) fun H' ws s' hw => q H' ws s' ?_
   rw [adI, if_neg hp]
   exact hw
 | [], _ :: _, _, _, _, h, _, _, _, _, _ => h.elim
 | _ :: _, [], _, _, _, h, _, _, _, _, _ => h.elim
end Gz
namespace Gz
open PySem PySem.Spec PyProof.Rows L2
section
variable {X : Cx} {e st : ae4} {te ts : TE} {p2 pos : Pos}
noncomputable def wH (K : acB) (te ts : TE) : TE := fun σ H Q => te σ H fun x H1 => ts σ H1 fun y H2 => y = .int (-1) /\ ∃ a xs, x = .ref a /\ ag K H2 a xs /\ ∀ p, H2 p = none -> Q (.ref p) (upd H2 p (.lst xs.reverse))
end
end Gz
namespace Gz
open PySem PySem.Spec PyProof.Rows L2
theorem tm (es : List Int) : (es.map V.int).all gU = true := by
 rw [ajs]
 exact adk.mpr fun _ _ => rfl
theorem oy (a : Int) : ∀ (es : List Int), nN (.int a) (es.map V.int) = es.contains a
 | [] => rfl
 | e :: es => by
  have ih := oy a es
  unfold nN at *
  rw [ac7, aeN, ih, ahd]
  congr 1
  show (e == a) = (a == e)
  rw [aeX]
  simp only [beq_iff_eq]
  exact eq_comm
theorem QM {K : acB} {H1 H' : Hp} {l : acJ} {ys : List V} {tb : Tb} (hl : H1 l = some (.lst ys)) (hM : ak (d9 H1) ys tb) (s : aj H1 H') : jM K l ys (rowOf H1) 3 H' := by
 refine ⟨ag.of (s _ _ hl), fun x hx => ?_⟩
 obtain ⟨i, hi⟩ := afJ.mp hx
 obtain ⟨m, _, t, p, rfl, h1, h2⟩ := hM.get hi
 rw [iU h1]
 exact ⟨t, rfl, az.of (s _ _ h1), rfl⟩
noncomputable def bH : Nat -> List (List Int)
 | 0 => [[]]
 | n + 1 => bH n ++ (bH n).map fun s => s ++ [((n : Nat) : Int)]
theorem ml : ∀ n, (bH n).length = 2 ^ n
 | 0 => rfl
 | n + 1 => by rw [bH, adl, acI, ml n, akE]; omega
theorem mq : ∀ (n : Nat) (s : List Int), s ∈ bH n -> s.length <= n
 | 0, s, h => by
  obtain rfl : s = [] := by simpa [bH] using h
  exact ac1 _
 | n + 1, s, h => by
  rw [bH] at h
  rcases adj.mp h with h | h
  ·exact ajh (mq n s h)
  ·obtain ⟨s', h', rfl⟩ := acQ.mp h
   have := mq n s' h'
   rw [adl, adC]
   omega
noncomputable def di (H : Hp) (v : V) (s : List Int) : Prop := ∃ l, v = .ref l /\ H l = some (.lst (s.map V.int))
theorem di.same {H H' : Hp} {v : V} {s : List Int} (h : di H v s) (u : aj H H') : di H' v s := let ⟨l, e, a⟩ := h; ⟨l, e, u _ _ a⟩
theorem map_some {α β : Type} {f : α -> Option β} : ∀ (l : List α), (l.map f).filterMap id = l.filterMap f
 | [] => rfl
 | a :: l => by
  rw [ac7, adA, adA, map_some l]
  rfl
end Gz
namespace Gz
open PySem PySem.Spec PyProof.Rows L2
theorem v8.trans {p q r : S2} (hq : Ii q) (h : v8 p q) (h' : v8 q r) : v8 p r := by
 obtain ⟨a, b, e1, e2, h1⟩ := h
 obtain ⟨c, d, e3, e4, h2⟩ := h'
 unfold Ii at hq
 rw [e2, e3] at hq
 have : b <= c := by simpa [bx] using hq
 exact ⟨a, d, e1, e4, by omega⟩
theorem eG {α : Type} {R : α -> α -> Prop} : ∀ {l : List α}, l.Pairwise R -> ∀ {p q : α}, p ∈ l -> q ∈ l -> p = q ∨ R p q ∨ R q p
 | [], _, _, _, h, _ => by cases h
 | x :: l, h, p, q, hp, hq => by
  have h1 := adY.mp h
  rcases acN.mp hp with e1 | i1 <;> rcases acN.mp hq with e2 | i2
  ·exact .inl (e1.trans e2.symm)
  ·rw [e1]; exact .inr (.inl (h1.1 q i2))
  ·rw [e2]; exact .inr (.inr (h1.1 p i1))
  ·exact eG h1.2 i1 i2
theorem wI : ∀ {a b : List Int}, HT.lexLt a b = false -> HT.lexLt b a = false -> a = b
 | [], [], _, _ => rfl
 | [], _ :: _, h, _ => by cases h
 | _ :: _, [], _, h => by cases h
 | x :: a, y :: b, h1, h2 => by
  rw [HT.lL] at h1 h2
  by_cases e : x = y
  ·subst e
   rw [if_pos rfl] at h1 h2
   rw [wI h1 h2]
  ·rw [if_neg e] at h1
   rw [if_neg (adV e)] at h2
   have a1 : ¬ x < y := by simpa using h1
   have a2 : ¬ y < x := by simpa using h2
   exact absurd (aie (Int.not_lt.mp a2) (Int.not_lt.mp a1)) e
theorem Jq {α : Type} {R : α -> α -> Prop} : ∀ {as bs : List α}, (∀ x ∈ as, ∀ y ∈ as, R x y -> R y x -> x = y) -> as.Pairwise R -> bs.Pairwise R -> as.Perm bs -> as = bs
 | [], bs, _, _, _, h => h.nil_eq
 | a :: as, [], _, _, _, h => by cases h.length_eq
 | a :: as, b :: bs, ha, s1, s2, h => by
  have e : a = b := by
   have m1 : a ∈ b :: bs := h.mem_iff.mp (.head _)
   have m2 : b ∈ a :: as := h.mem_iff.mpr (.head _)
   rcases acN.mp m1 with z | z
   ·exact z
   ·rcases acN.mp m2 with y | y
    ·exact y.symm
    ·exact ha a (.head _) b (.tail _ y) ((adY.mp s1).1 b y) ((adY.mp s2).1 a z)
  subst e
  rw [Jq (fun x hx y hy => ha x (.tail _ hx) y (.tail _ hy)) (adY.mp s1).2 (adY.mp s2).2 (List.Perm.cons_inv h)]
theorem wJ {tb : Tb} : (iR tb).Perm tb := ju
theorem Jr {tb : Tb} : (iR tb).Pairwise fun a b => HT.lexLt [b.1.1, b.1.2] [a.1.1, a.1.2] = false := vU (f := fun r : P2 × S2 => [r.1.1, r.1.2]) rfl
theorem QN {tb : Tb} (hn : (tb.map (·.1)).Nodup) {x y : P2 × S2} (hx : x ∈ tb) (hy : y ∈ tb) (e : x.1 = y.1) : x = y := by
 induction tb with
 | nil => cases hx
 | cons r tb ih =>
  rw [ac7, adP] at hn
  rcases acN.mp hx with a | a <;> rcases acN.mp hy with b | b
  ·rw [a, b]
  ·exact absurd (acQ.mpr ⟨y, b, by rw [<- e, a]⟩) hn.1
  ·exact absurd (acQ.mpr ⟨x, a, by rw [e, b]⟩) hn.1
  ·exact ih hn.2 a b
theorem QO {tb bO : Tb} (hn : (tb.map (·.1)).Nodup) (h : tb.Perm bO) : iR tb = iR bO := by
 refine Jq (fun x hx y hy r1 r2 => QN hn (sX hx) (sX hy) ?_) Jr Jr (wJ.trans (h.trans wJ.symm))
 have := wI r1 r2
 injection this with e1 e2
 injection e2 with e2 _
 exact Prod.ext e1.symm e2.symm
end Gz
namespace Gz
open PySem PySem.Spec PyProof.Rows L2
local macro_rules | `(tactic| walk_at "om") => `(tactic| ((try simp only [PySem.Addr] at *); omega))
section
variable {prog : ac2} {w : adw} {A : adD} {E : acC -> acF -> Prop} {s : acF}
end
end Gz
namespace Gz
open PySem PySem.Spec PyProof.Rows L2
local macro_rules | `(tactic| walk_at "om") => `(tactic| ((try simp only [PySem.Addr] at *); omega))
section
variable {X : Cx} {pins : List (acJ × Obj)} {σ : L2.St} {H : Hp} {s : acF} {a : acJ} {kvs : List (List Key × V)} {o : Obj} {u u' : HO}
noncomputable def Loose : HO -> Prop
 | .dT _ => True
 | .aM _ (.dT _) => True
 | _ => False
theorem Js (I : Inv X pins σ H s) (e : H a = some u) (lu : Loose u) (h0 : ∀ o v, X.H₀ a ≠ some (.aM o v)) (new : bp X.prog X.w (upd H a u') s.heap a u') : Inv X pins σ (upd H a u') s := by
 have nn : ∀ b, H b = none -> b ≠ a := fun b h z => by rw [z, e] at h; cases h
 have nt : ∀ b xs, H b = some (.tup xs) -> b ≠ a := fun b xs h z => by rw [z, e] at h; cases h; exact lu
 have no : ∀ b x, H b = some (.own x) -> b ≠ a := fun b x h z => by rw [z, e] at h; cases h; exact lu
 have nb : ∀ b ps, H b = some (.tbl ps) -> b ≠ a := fun b ps h z => by rw [z, e] at h; cases h; exact lu
 refine ⟨I.ok, I.os, I.bare, ⟨I.base.keep, I.base.slot, fun b o e1 n hx => ?_, I.base.there, fun b xs e1 => ?_, fun b o v e1 => ?_, fun b ps e1 => ?_⟩, I.loc, I.cell, ?_, fun x c e1 => ?_, fun p hp => ?_, fun b ob e1 => ?_, I.len⟩
 ·have := I.base.free b o e1 n hx
  rw [aA (nn b this)]; exact this
 ·have := I.base.cH b xs e1
  rw [aA (nt b xs this)]; exact this
 ·have := I.base.cI b o v e1
  rw [aA (show b ≠ a from fun z => h0 o v (by rw [<- z]; exact e1))]; exact this
 ·obtain ⟨more, this⟩ := I.base.cU b ps e1
  exact ⟨more, by rw [aA (nb b _ this)]; exact this⟩
 ·rw [aA (nn _ I.free)]; exact I.free
 ·have := I.eF x c e1
  rw [aA (nn c this)]; exact this
 ·obtain ⟨p1, p2, p3⟩ := I.pin p hp
  exact ⟨p1, by rw [aA (nn _ p2)]; exact p2, p3⟩
 ·by_cases hb : b = a
  ·subst hb
   rw [aq] at e1
   cases e1
   exact new
  ·rw [aA hb] at e1
   exact (I.ai b ob e1).eE (fun _ _ _ q => q) (fun c h => by rw [aA (no c _ h)]; exact h) fun c xs h => by rw [aA (nt c xs h)]; exact h
theorem QP (I : Inv X pins σ H s) (e : H a = some (.dT kvs)) : ∃ o, Inv X pins σ (upd H a (.aM o (.dT kvs))) s /\ ∀ o v, X.H₀ a ≠ some (.aM o v) := by
 have h0 : ∀ o v, X.H₀ a ≠ some (.aM o v) := fun o v z => by
  have := I.base.cI a o v z
  rw [e] at this; cases this
 have ok := I.ai a _ e
 obtain ⟨_, _, _, _, o, _, _, ho, _⟩ := id ok
 refine ⟨o, Js I e trivial h0 ⟨ho, ok.eE (fun _ _ _ q => q) (fun c h => ?_) fun c xs h => ?_⟩, h0⟩
 ·rw [aA fun z => by rw [z, e] at h; cases h]; exact h
 ·rw [aA fun z => by rw [z, e] at h; cases h]; exact h
theorem wK (I : Inv X pins σ H s) (e : H a = some (.aM o (.dT kvs))) (h0 : ∀ o v, X.H₀ a ≠ some (.aM o v)) : Inv X pins σ (upd H a (.dT kvs)) s := by
 obtain ⟨_, ok⟩ := I.ai a _ e
 refine Js I e trivial h0 (ok.eE (fun _ _ _ q => q) (fun c h => ?_) fun c xs h => ?_)
 ·rw [aA fun z => by rw [z, e] at h; cases h]; exact h
 ·rw [aA fun z => by rw [z, e] at h; cases h]; exact h
noncomputable def tq (a : acJ) (o : Obj) (kvs : List (List Key × V)) (D : Ends) : Ends where
 nx := fun σ H => H a = some (.aM o (.dT kvs)) /\ D.nx σ (upd H a (.dT kvs))
 rt := fun v H => H a = some (.aM o (.dT kvs)) /\ D.rt v (upd H a (.dT kvs))
 bk := fun σ H => H a = some (.aM o (.dT kvs)) /\ D.bk σ (upd H a (.dT kvs))
 ct := fun σ H => H a = some (.aM o (.dT kvs)) /\ D.ct σ (upd H a (.dT kvs))
noncomputable def tu (t : TS) : TS := fun D σ H => ∃ a kvs, H a = some (.dT kvs) /\ ∀ o, t (tq a o kvs D) σ (upd H a (.aM o (.dT kvs)))
theorem QQ {st : afU} {t : TS} (h : PS X st t) : PS X st (tu t) := by
 rintro pins s σ H D I ⟨a, kvs, e, q⟩
 obtain ⟨o, I1, h0⟩ := QP I e
 refine au (h pins s σ _ _ I1 (q o)) fun f s' hf => ?_
 cases f with
 | next => obtain ⟨σ', H', I', e', q'⟩ := hf; exact ⟨σ', _, wK I' e' h0, q'⟩
 | brk => obtain ⟨σ', H', I', e', q'⟩ := hf; exact ⟨σ', _, wK I' e' h0, q'⟩
 | cont => obtain ⟨σ', H', I', e', q'⟩ := hf; exact ⟨σ', _, wK I' e' h0, q'⟩
 | ret v => obtain ⟨v', σ', H', I', r', e', q'⟩ := hf; exact ⟨v', σ', _, wK I' e' h0, r', q'⟩
noncomputable def wL (t : TE) : TE := fun σ H Q => ∃ a kvs, H a = some (.dT kvs) /\ ∀ o, t σ (upd H a (.aM o (.dT kvs))) fun v H' => H' a = some (.aM o (.dT kvs)) /\ Q v (upd H' a (.dT kvs))
noncomputable def fP (o : Obj) : List V := match o.data with
 | .dict es _ => es.toList.map fun e => match e.key with
  | .ref a => V.ref a
  | _ => V.non
 | _ => []
noncomputable def wM (a : acJ) (o : Obj) (kvs : List (List Key × V)) : It where
 go i H := H a = some (.aM o (.dT kvs)) /\ i < kvs.length
 yld i H x H' := H' = H /\ (fP o)[i]? = some x
 stop i H := H a = some (.aM o (.dT kvs)) /\ kvs.length <= i
noncomputable def oz (tl : TE) : TI := fun σ H R => tl σ H fun x H1 => ∃ a o kvs, x = .ref a /\ H1 a = some (.aM o (.dT kvs)) /\ (fb H1 (fP o) kvs -> R (wM a o kvs) H1)
theorem Bq {P : ac2} {w : adw} {h : aer} (ok : bz P w H h) (e : H a = some (.aM o (.dT kvs))) : ∃ (as : List acJ) (es : Array ae0) (ep : Nat), fb H (fP o) kvs /\ (a == aeA) = false /\ d8 h a es ep /\ o.data = .dict es ep /\ es.size = kvs.length /\ kvs.length <= adb /\ ∀ i (hi : i < es.size), ∃ b, es[i].key = .ref b /\ (fP o)[i]? = some (.ref b) := by
 obtain ⟨ho, z, lo, xs, rel, o', es, ep, cJ, hc, hd, he, hn⟩ := ok a _ e
 rw [ho] at cJ
 cases cJ
 have hl : xs.length = kvs.length := (Paired.length rel).symm
 have hs : es.size = xs.length := afK he
 have ek : fP o = (xs.map (·.2.1)).map V.ref := by
  unfold fP
  rw [hd]
  show es.toList.map _ = _
  rw [he, aeR, aeR]
  exact afy fun x _ => rfl
 refine ⟨xs.map (·.2.1), es, ep, ?_, lo, ⟨o, ho, hc, hd⟩, hd, hs.trans hl, z, fun i hi => ?_⟩
 ·rw [ek]; exact KT.IY rel
 ·have hx : i < xs.length := by omega
  have e1 := entry_at he i
  rw [adL hi, acG hx] at e1
  have e2 : es[i] = ai7 (agE (dq P w)) xs[i] := by simpa using e1
  refine ⟨xs[i].2.1, by rw [e2]; rfl, ?_⟩
  rw [ek, adn, adn, acG hx]
  rfl
theorem QR {P : ac2} {w : adw} {K : acB} {tg : ae4} (a it : acJ) (o : Obj) (kvs : List (List Key × V)) (eS : a ≠ it) : Turn P w K tg (wM a o kvs) [it] it (fun i h => ∃ es ep, o.data = .dict es ep /\ i <= es.size /\ h.IsKeyIter it a i es.size ep) where
 mem := by simp
 obj := fun i h st b hb => by
  have e : b = it := by simpa using hb
  subst e
  obtain ⟨es, ep, _, _, ob, e, c, d⟩ := st
  exact ⟨ob, e, fun v z => by rw [d] at z; cases z⟩
 keep := fun i h h' st k => by
  obtain ⟨es, ep, h1, h2, ob, e, c, d⟩ := st
  exact ⟨es, ep, h1, h2, ob, k it (by simp) ob e, c, d⟩
 item := by
  intro X hP hw hK hc i pins s σ H E I hf st hg
  subst hP hw hK
  obtain ⟨e, hi⟩ := hg
  obtain ⟨es, ep, hd, hle, hit⟩ := st
  obtain ⟨as, es', je, hk, lo, raw, fW, hs, hz, eN⟩ := Bq I.ai e
  rw [hd] at fW
  cases fW
  obtain ⟨f0, f1, f2, f3, f4, f5⟩ := hf it (by simp)
  have bf : i < es.size := by omega
  obtain ⟨b, eb, kb⟩ := eN i bf
  refine IT hit raw bf fun h' l8 sb => ?_
  have I1 : Inv X pins σ H { s with heap := h' } := I.turned (t' := s.toks) (fun b o hb e => (sb.2 b hb).trans e) f0 f1 f3 f4 f5
  obtain ⟨ob, e1, c1, d1⟩ := id l8
  exact ⟨es[i].key, rfl, rf (s := { s with heap := h' }) e1 c1 d1 (by decide) ⟨.ref b, H, I1, eb, ⟨rfl, kb⟩, ⟨es, ep, hd, bf, l8⟩, fun b hb => (hf b hb).1⟩⟩
 done := by
  intro X hP hw hK hc i pins s σ H E I hf st hg
  subst hP hw hK
  obtain ⟨e, hi⟩ := hg
  obtain ⟨es, ep, hd, hle, hit⟩ := st
  obtain ⟨as, es', je, hk, lo, raw, fW, hs, hz, eN⟩ := Bq I.ai e
  rw [hd] at fW
  cases fW
  obtain ⟨f0, f1, f2, f3, f4, f5⟩ := hf it (by simp)
  have ei : i = es.size := by omega
  subst ei
  exact IU (I.ok.hd hc) hit raw fun h' eb => ⟨rfl, I.turned (t' := s.toks) (fun b o hb e => eb b o hb e) f0 f1 f3 f4 f5⟩
 self := fun _ _ _ _ _ st h => by
  obtain ⟨es, ep, _, _, hit⟩ := st
  exact aiz hit h
theorem Jt {tg l : ae4} {tl : TE} (hl : PE X l tl) : PI X tg l (oz tl) := by
 intro pins s σ H R I h
 refine au (hl pins s σ H _ I h) fun v s1 ⟨x, H1, I1, r1, q1⟩ => ?_
 obtain ⟨a, o, kvs, e, hf, q⟩ := q1
 subst e
 cases r1
 obtain ⟨as, es, ep, hk, lo, raw, hd, hs, hz, eN⟩ := Bq I1.ai hf
 refine IS lo raw ?_
 refine ⟨s1.heap.objs.size, [s1.heap.objs.size], _, _, H1, rfl, I1.kept (t' := s1.toks) fun b o e => acE _ e, QR a _ o kvs (ade raw.lt), ⟨es, ep, hd, adf _, _, acT _ rfl, rfl, rfl⟩, fun b hb => ?_, q hk⟩
 have e : b = s1.heap.objs.size := by simpa using hb
 subst e
 exact I1.gN (ac1 _) (I1.ai.fresh (ac1 _))
theorem wN {tl : TE} {g : TG} {tb : TS} {D : Ends} : gP (oz tl) g tb D σ H = tl σ H (fun x H1 => ∃ a o kvs, x = .ref a /\ H1 a = some (.aM o (.dT kvs)) /\ (fb H1 (fP o) kvs -> FJ (wM a o kvs) g tb D σ H1)) := rfl
theorem Ju {g : TG} {tb : TS} {D : Ends} {xs : List V} (Pv : Nat -> L2.St -> Hp -> Prop) (hk : fP o = xs) (hxl : xs.length = kvs.length) (h0 : Pv 0 σ H) (hl : ∀ i σ H, i <= xs.length -> Pv i σ H -> H a = some (.aM o (.dT kvs)))
 (hs : ∀ i x σ H, xs[i]? = some x -> Pv i σ H -> g x σ H fun σ2 H2 => tb { D with nx := Pv (i + 1), ct := Pv (i + 1), bk := D.nx } σ2 H2) (hd : ∀ σ H, Pv xs.length σ H -> D.nx σ H) : FJ (wM a o kvs) g tb D σ H := by
 refine ⟨fun i m σ H => m = xs.length - i /\ i <= xs.length /\ Pv i σ H, ⟨xs.length, by simp, adf _, h0⟩, ?_⟩
 rintro i m σ H ⟨rfl, hi, p⟩
 have q := hl i σ H hi p
 by_cases aT : i < xs.length
 ·refine .inr ⟨⟨q, by omega⟩, Pv (i + 1), fun σ' H' p' => ⟨xs.length - (i + 1), by omega, rfl, aT, p'⟩, fun x H' y => ?_⟩
  obtain ⟨e, y⟩ := y
  subst e
  rw [hk] at y
  exact hs i x σ _ y p
 ·have e : i = xs.length := by omega
  subst e
  exact .inl ⟨⟨q, by omega⟩, hd σ H p⟩
end
theorem Br {H : Hp} {a p : acJ} {u v w : HO} (e : H a = some u) (h : H p = some v) (ne : v ≠ u) : upd H a w p = some v := by rw [aA (Ad h e ne)]; exact h
section
variable {H H0 H1 : Hp} {a p : acJ} {kvs : List (List Key × V)} {o : Obj}
theorem QS (e : H0 a = some (.dT kvs)) (s : aj (upd H0 a (.aM o (.dT kvs))) H1) : aj H0 (upd H1 a (.dT kvs)) := fun b u h => by
 by_cases hb : b = a
 ·subst hb; rw [e] at h; cases h; exact aq
 ·rw [aA hb]; exact s b u (by rw [aA hb]; exact h)
theorem QT {xs : List V} (e : H a = some (.dT kvs)) (h : H p = some (.tup xs)) {u : HO} : upd H a u p = some (.tup xs) := Br e h fun z => nomatch z
theorem QU {xs : List V} (e : H a = some (.dT kvs)) (h : H p = some (.lst xs)) {u : HO} : upd H a u p = some (.lst xs) := Br e h fun z => nomatch z
theorem a8.aM {v : V} {x y : En} (h : a8 H v x y) (e : H a = some (.dT kvs)) {u : HO} : a8 (upd H a u) v x y := let ⟨t, e1, h1⟩ := h; ⟨t, e1, QT e h1⟩
theorem aR.aM {tb : Tb} (h : aR H kvs tb) (e : H a = some (.dT kvs)) {u : HO} : aR (upd H a u) kvs tb := h.imp fun _ _ _ z => z.aM e
theorem QV {K : acB} {xs : List V} (e : H a = some (.dT kvs)) (h : ag K H p xs) : ag K (upd H a (.aM o (.dT kvs))) p xs := by
 rcases h with (h | ⟨z, h⟩) | h
 ·exact .inl (.inl (QU e h))
 ·exact .inl (.inr ⟨z, Br e h fun z => nomatch z⟩)
 ·exact .inr h
end
theorem bN.z {H : Hp} {a b : acJ} {kvs : List (List Key × V)} {k : List Key} {o : Obj} (e : H a = some (.aM o (.dT kvs))) (eb : H b = some (.tup (k.map kV))) : bN H a (.ref b) (bc kvs k) := .inr ⟨kvs, k, b, .inr ⟨o, e⟩, rfl, eb, rfl⟩
end Gz
namespace Gz
open PySem PySem.Spec PyProof.Rows L2
noncomputable def jN (tb : Tb) (i : Int) : List Mk := ((iR tb).filter fun r => decide (r.1.1 = i)).map fun r => (r.1.2.toNat, r.2)
noncomputable def Jv (cs : List Int) (t : Nat) : Int := cs.getD t 0
theorem QW {cs : List Int} {t : Nat} (h : t < cs.length) : (cs.map V.int)[t]? = some (V.int (Jv cs t)) := by
 rw [adn, acG h]
 unfold Jv
 rw [acH, acG h]
 rfl
theorem QX {tb rs : Tb} {s : P2} {w : S2} (h : tb.Perm rs) : (cO tb s w).Perm (cO rs s w) := by
 have e : (tb.any fun r => decide (r.1 = s)) = rs.any fun r => decide (r.1 = s) := by
  rw [aeX, ae9, ae9]
  exact ⟨fun ⟨x, h1, h2⟩ => ⟨x, h.mem_iff.mp h1, h2⟩, fun ⟨x, h1, h2⟩ => ⟨x, h.mem_iff.mpr h1, h2⟩⟩
 unfold cO
 rw [e]
 split
 ·exact h.map _
 ·exact h.append_right _
theorem QY {tb rs : Tb} {s : P2} (h : tb.Perm rs) : (md tb s).Perm (md rs s) := h.filter _
theorem QZ {tb : Tb} {s : P2} {w : S2} {r : P2 × S2} (h : r ∈ cO tb s w) : r ∈ tb ∨ r = (s, w) := by
 unfold cO at h
 split at h
 ·obtain ⟨x, hx, rfl⟩ := acQ.mp h
  by_cases e : x.1 = s
  ·rw [if_pos e, e]; exact .inr rfl
  ·rw [if_neg e]; exact .inl hx
 ·rcases adj.mp h with z | z
  ·exact .inl z
  ·exact .inr (adG.mp z)
end Gz
namespace Gz
open PySem PySem.Spec PyProof.Rows L2
local macro_rules | `(tactic| walk_at "om") => `(tactic| ((try simp only [PySem.Addr] at *); omega))
noncomputable def dj (X : Cx) (x : Str) (N' : List Str) (scope : agN) (cl : List (Str × acJ)) (C : acJ) (s2 : acF) (H2 : Hp) (ex : List acJ) (pn : List (acJ × Obj)) : Cx :=
 { X with N := N', s₀ := s2, H₀ := H2, env := afg scope ((x, (C + 1 : Nat)) :: cl) C X.env, outer := X.stack, ex := ex, fn := fun y => y == x, pn := pn, xe := fun _ _ => False }
structure mr (X : Cx) (x : Str) (scope : agN) (cl : List (Str × acJ)) (fr : List Nat) (ys : List Str) : Prop where
 clos : ake scope X.env = pure cl
 one : ∀ n acc, PySem.cellsFrom n scope.names acc = (x, n) :: acc
 push : ∀ h, pushCells h scope.names = h.push { cls := .type "cell", data := .cell none }
 kind : scope.kind = .function
 names : (scope.names.all fun p => p.2 != .local || scope.names.lookup p.1 == some .local) = true
 own : scope.names.lookup x = some .cell
 kinds : ((relabel scope X.env).names.all fun p => (p.2 != .cell && p.2 != .free) || p.1 == x || (cl.lookup p.1).isSome) = true
 cls : jv X cl
 aO : gZ X scope cl fr ys
 nd : (x :: ys).Nodup
 kfr : (ys.all fun y => (relabel scope X.env).names.lookup y == some .cell) = true
theorem Jw {env : Env} : ∀ {names : List (Str × ahE)} {x : Str}, names.lookup x = some .cell ->
 (names.map fun (n, k) => if (k == NameKind.free && env.scope.kind == .function && env.kindOf n == some .cell) then (n, NameKind.cell) else (n, k)).lookup x = some .cell
 | [], _, h => by simp at h
 | (n, k) :: r, x, h => by
  have ih := @Jw env r x
  show aft x ((if (k == NameKind.free && env.scope.kind == .function && env.kindOf n == some .cell) = true then (n, NameKind.cell) else (n, k)) :: _) = _
  cases hx : x == n with
  | true =>
   simp only [aex, hx] at h
   cases h
   simp [aex, hx]
  | false =>
   simp only [aex, hx] at h
   by_cases hc : (k == NameKind.free && env.scope.kind == .function && env.kindOf n == some .cell) = true
   ·rw [if_pos hc]; simp only [aex, hx]; exact ih h
   ·rw [if_neg hc]; simp only [aex, hx]; exact ih h
theorem jO {x y : Str} {a c : acJ} {cl : List (Str × acJ)} (h : ((x, a) :: cl).lookup y = some c) : (y = x /\ c = a) ∨ (y ≠ x /\ cl.lookup y = some c) := by
 rw [aex] at h
 by_cases hy : (y == x) = true
 ·rw [hy] at h
  cases h
  exact .inl ⟨by simpa using hy, rfl⟩
 ·rw [ahu.mpr hy] at h
  exact .inr ⟨by simpa using hy, h⟩
theorem Q0 {x y : Str} {a c : acJ} {cl : List (Str × acJ)} (h : cl.lookup y = some c) (hy : y ≠ x) : ((x, a) :: cl).lookup y = some c := by
 rw [aex, beq_eq_false_iff_ne.mpr hy]
 exact h
theorem Q1 {M : Model} {A : adD} {E : acC -> acF -> Prop} {s : acF} {scope : agN} {globals : acJ} {cl : List (Str × acJ)} {qual : Str} {x : Str} {env : Env} {Q : Env -> acF -> Prop}
 (one : ∀ n acc, PySem.cellsFrom n scope.names acc = (x, n) :: acc) (push : ∀ h, pushCells h scope.names = h.push { cls := .type "cell", data := .cell none })
 (hQ : Q (newEnv scope s.heap.objs.size globals ((x, (s.heap.objs.size + 1 : Nat)) :: cl) qual none .none (some env) ai8) { s with heap := (s.heap.push { cls := .type "dict", data := .dict #[] }).push { cls := .type "cell", data := .cell none } }) :
 ac0 M A (agA scope globals cl [] qual none .none (some env)) Q E s := by
 simp only [agA, aiW, if_true]
 refine acA (wpAny_alloc ?_)
 refine acA (wpAny_layCells _ (fun name kind cells => by cases hkc : kind == NameKind.cell <;> simp [hkc]) _ _ _ _ ?_)
 rw [one, push, show ({ s with heap := s.heap.push { cls := .type "dict", data := .dict #[] } } : acF).heap.objs.size = s.heap.objs.size + 1 from aeE ..]
 refine acA ?_
 rw [List.forIn_nil]
 exact acD (acD hQ)
theorem Jx {X : Cx} {K : acB} {tg l : ae4} {tl : TE} (h : X.K = K) (hl : PE X l tl) : PI X tg l (lz K tl) := h ▸ b5 hl
section
variable {X : Cx} {pins : List (acJ × Obj)} {σ : L2.St} {H2 : Hp} {s2 : acF} {x : Str} {px pos : Pos} {elt iter : ae4} {ifs : List ae4} {scope : agN} {cl : List (Str × acJ)} {fr : List Nat} {ys : List Str} {tt : TT} {te : TE}
theorem mr.low (S : mr X x scope cl fr ys) (I2 : Inv X pins σ H2 s2) {y : Str} {c : acJ} (e : cl.lookup y = some c) : c < s2.heap.objs.size := by
 obtain ⟨v, o, ho, _⟩ := I2.cell y c (S.cls.get y c e)
 exact acK ho
theorem Q2 {C : acJ} {ex : List acJ} {pn : List (acJ × Obj)} (S : mr X x scope cl fr ys) (I2 : Inv X pins σ H2 s2) (f2 : ∀ b ∈ ex, cA X pins H2 b) (hC : s2.heap.objs.size <= C) (hex : ∀ b ∈ ex, b < s2.heap.objs.size) : (dj X x (x :: ys) scope cl C s2 H2 ex pn).Ok := by
 refine ⟨I2.ok.mod, S.kind, I2.ok.glob, I2.ok.blt, hC, fun a b c h1 h2 => ?_, fun y hy => ?_, fun y c hy h1 => ?_, I2.ok.hd, I2.ok.frames, .inl rfl, fun b hb => ⟨?_, fun y c e z => ?_⟩, I2.bs, acV I2.ok.bsz I2.sz, fun b o e hb => ?_, fun b hb z => ?_, I2.stack, I2.nq⟩
 ·rcases jO h1 with ⟨e1, e2⟩ | ⟨_, e1⟩ <;> rcases jO h2 with ⟨e3, e4⟩ | ⟨_, e3⟩
  ·rw [e1, e3]
  ·have := S.low I2 e3; walk_at "om"
  ·have := S.low I2 e1; walk_at "om"
  ·exact I2.ok.inj a b c (S.cls.get a c e1) (S.cls.get b c e3)
 ·have sq : (relabel scope X.env).names.lookup y = some .cell ∨ (relabel scope X.env).names.lookup y = some .free := hy
  have q : (y == x) = true ∨ (cl.lookup y).isSome = true := by
   rcases sq with e | e
   ·simpa using n3 S.kinds e
   ·simpa using n3 S.kinds e
  show ∃ c, ((x, (C + 1 : Nat)) :: cl).lookup y = some c
  rw [aex]
  by_cases hyx : (y == x) = true
  ·rw [hyx]; exact ⟨_, rfl⟩
  ·rw [ahu.mpr hyx]
   exact aeo.mp (q.resolve_left hyx)
 ·have e : y = x := by
   have : (y == x) = true := hy
   simpa using this
  rcases jO h1 with ⟨_, e2⟩ | ⟨n, _⟩
  ·show s2.heap.objs.size <= c
   walk_at "om"
  ·exact absurd e n
 ·exact ade (ac8 (hex b hb) hC)
 ·have := hex b hb
  rcases jO e with ⟨_, e2⟩ | ⟨_, e2⟩
  ·walk_at "om"
  ·exact (f2 b hb).2.2.2.2.1 y c (S.cls.get y c e2) z
 ·obtain ⟨_, _, _, d, _, _⟩ := f2 b hb
  rcases d with d | d
  ·exact I2.ok.noex b o e d
  ·exact absurd (ac8 (acK e) (acV I2.ok.bsz d)) (aec _)
 ·obtain ⟨_, d1, d2, _⟩ := f2 b hb
  rcases acN.mp (I2.dR b z) with q | q
  ·exact d1 q
  ·exact d2 q
theorem Q3 {J : It} {fp : List acJ} {it : acJ} {tn : Nat -> aer -> Prop} {E : acC -> acF -> Prop} {Q : VK} {RR : acC -> acJ -> ahp -> acF -> Prop}
 (S : mr X x scope cl fr ys) (hc : X.calm = true)
 (hb : ∀ (C : acJ) (s : acF) (H : Hp) (ex : List acJ) (pn : List (acJ × Obj)), g8 (dj X x (x :: ys) scope cl C s H ex pn) ifs tt /\ PE (dj X x (x :: ys) scope cl C s H ex pn) elt te)
 (I2 : Inv X pins σ H2 s2) (T : Turn X.prog X.w X.K (.Name x px) J fp it tn) (cv : tn 0 s2.heap) (f2 : ∀ b ∈ fp, cA X pins H2 b)
 (h : so J (fr.map fun j => (σ[j]?).join) tt te H2 Q)
 (sr : ∀ D C s' H', Inv X pins σ H' s' -> (∃ m, s'.heap.Ns C m) -> cA X pins H' C -> Q (.ref D) H' -> RR (.ref D) C (.ok .next) s') :
 ac0 (model X.prog X.w) X.A (aje []) (fun acc s3 => ac0 (model X.prog X.w) X.A (agA scope X.env.globals cl [] X.env.qual none .none (some X.env)) (fun jx s4 =>
  afi (model X.prog X.w) X.A (.compStart (.ListComp elt [⟨.Name x px, iter, ifs, 0⟩] scope pos) 0 (.ref it) acc { jx with scope := relabel scope X.env }) (RR acc jx.locals) s4) E s3) E s2 := by
 obtain ⟨W, ⟨m0, w0⟩, turn⟩ := h
 refine adN (Q1 S.one S.push ?_)
 dsimp only
 generalize eP : s2.heap.push { cls := .type "list", dict := none, data := .seq ([] : List acC).toArray } = P2
 have sz : P2.objs.size = s2.heap.objs.size + 1 := by rw [<- eP, aeE]
 have cR : s2.heap.objs.size ≠ P2.objs.size := by walk_at "om"
 generalize eh : (P2.push { cls := .type "dict", data := .dict #[] }).push { cls := .type "cell", data := .cell none } = h1
 have Jy : ∀ b o, P2.get? b = some o -> h1.get? b = some o := fun b o e => by
  rw [<- eh]; exact acE _ (acE _ e)
 have keep : ∀ b o, s2.heap.get? b = some o -> h1.get? b = some o := fun b o e => Jy b o (eP ▸ acE _ e)
 have hD : h1.get? s2.heap.objs.size = some { cls := .type "list", data := .seq ([] : List acC).toArray 0 } := Jy _ _ (eP ▸ acT _ rfl)
 have dN : h1.Ns P2.objs.size fun _ => none := by
  rw [<- eh]
  exact (Heap.Ns.new P2 (.type "dict")).keeps fun b o e => acE _ e
 have qO : h1.IsCell (P2.objs.size + 1 : Nat) none := by
  have e := acT (P2.push { cls := .type "dict", data := .dict #[] }) (o := { cls := .type "cell", data := .cell none }) rfl
  rw [aeE, eh] at e
  exact ⟨_, e, rfl⟩
 have cM : ∀ b ∈ fp, b < s2.heap.objs.size := fun b hb => by
  obtain ⟨o, e, _⟩ := T.obj 0 _ cv b hb
  exact acK e
 have jy : ∀ b, s2.heap.objs.size <= b -> b ∉ aO X.stack := fun b hle z => by
  rcases acN.mp (I2.dR b z) with q | q
  ·have := I2.lt; walk_at "om"
  ·exact I2.uP hle q
 generalize eC : P2.objs.size = C at dN qO cR ⊢
 generalize eD : s2.heap.objs.size = D at cR hD cM jy
 have gk : s2.heap.objs.size <= C := by walk_at "om"
 have jz : s2.heap.objs.size <= D := by walk_at "om"
 have su : (dj X x (x :: ys) scope cl C s2 H2 fp (X.pn ++ pins)).Ok := Q2 S I2 f2 gk (fun b hb => by have := cM b hb; walk_at "om")
 have jA : ∀ p ∈ X.pn ++ pins, p.1 ≠ C /\ p.1 ≠ D /\ p.1 ∉ aO X.stack /\ ∀ b ∈ fp, p.1 ≠ b := fun p hp => by
  obtain ⟨e, n, nL, nf, _⟩ := I2.pin p hp
  have lt := acK e
  refine ⟨by walk_at "om", by walk_at "om", fun z => ?_, fun b hb => (f2 b hb).2.2.2.2.2 p hp⟩
  rcases acN.mp (I2.dR _ z) with q | q
  ·exact nL q
  ·exact nf q
 have I4 : Inv (dj X x (x :: ys) scope cl C s2 H2 fp (X.pn ++ pins)) [] (none :: fr.map fun j => (σ[j]?).join) H2 { s2 with heap := h1 } := by
  refine ⟨su, rfl, I2.bare, Un.kept keep, ⟨_, dN, fun i y v e1 e2 e3 => ?_⟩, fun y c e => ?_, I2.ai.fresh gk, fun y c e => ?_, fun p hp => ?_, I2.ai.kept keep, ?_⟩
  ·cases i with
   | zero => simp at e2
   | succ i =>
    simp only [aee] at e1 e2
    have iM : ys[i]? = some y := e1
    obtain ⟨j, c, hN, hσ, hk, sy, sA⟩ := S.aO.get i y v iM e2
    obtain ⟨m, hm, hl⟩ := I2.loc
    obtain ⟨u, ru, lu⟩ := hl j y v hN hσ (.inr (.inl hk))
    have yx : y ≠ x := fun z => (adP.mp S.nd).1 (z ▸ acZ iM)
    refine ⟨u, ru, .inr ⟨.inl ?_, c, Q0 sy yx, ?_⟩⟩
    ·have z := adk.mp S.kfr y (acZ iM)
     exact (by simpa using z : (relabel scope X.env).names.lookup y = some .cell)
    ·rcases lu with ⟨z, _⟩ | ⟨_, c', e', q'⟩
     ·rw [hk] at z; cases z
     ·rw [sA] at e'; cases e'
      obtain ⟨o, ho, hd⟩ := q'
      exact ⟨o, keep _ _ ho, hd⟩
  ·rcases jO e with ⟨_, rfl⟩ | ⟨_, e⟩
   ·exact ⟨_, qO⟩
   ·obtain ⟨v, o, ho, hd⟩ := I2.cell y c (S.cls.get y c e)
    exact ⟨v, o, keep _ _ ho, hd⟩
  ·rcases jO e with ⟨_, rfl⟩ | ⟨_, e⟩
   ·exact I2.ai.fresh (by walk_at "om")
   ·exact I2.eF y c (S.cls.get y c e)
  ·have bF : p ∈ X.pn ++ pins := by
    have : p ∈ (X.pn ++ pins) ++ [] := hp
    simpa using this
   obtain ⟨e, n, _, _, d⟩ := I2.pin p bF
   obtain ⟨p1, _, p3, _⟩ := jA p bF
   exact ⟨keep _ _ e, n, p1, p3, d⟩
  ·show (none :: fr.map fun j => (σ[j]?).join).length = (x :: ys).length
   simp [S.aO.len]
 have jB : tn 0 h1 := T.keep 0 _ _ cv fun b _ o e => keep b o e
 have gm : ∀ (H' : Hp) (o : Obj), (∀ b ∈ fp, H' b = none) -> ∀ b ∈ fp, cA (dj X x (x :: ys) scope cl C s2 H2 fp (X.pn ++ pins)) [(D, o)] H' b := fun H' o hn b hb => by
  obtain ⟨_, d1, d2, d3, d4, d5⟩ := f2 b hb
  have lt := cM b hb
  refine ⟨hn b hb, ?_, fun z => ?_, .inl hb, fun y c e => ?_, fun p hp => ?_⟩
  ·show b ≠ C
   walk_at "om"
  ·rcases acN.mp (I2.dR b z) with q | q
   ·exact d1 q
   ·exact d2 q
  ·rcases jO e with ⟨_, e2⟩ | ⟨_, e2⟩
   ·walk_at "om"
   ·exact d4 y c (S.cls.get y c e2)
  ·have bF : p ∈ (X.pn ++ pins) ++ [(D, o)] := hp
   rcases adj.mp bF with z | z
   ·exact d5 p z
   ·have : p = (D, o) := by simpa using z
    subst this
    show D ≠ b
    walk_at "om"
 have loop : ∀ s' : acF, s' = { s2 with heap := h1 } ->
  afi (model X.prog X.w) X.A (.compLoop (.ListComp elt [⟨.Name x px, iter, ifs, 0⟩] scope pos) 0 (.ref it) (.ref D) (afg scope ((x, (C + 1 : Nat)) :: cl) C X.env)) (RR (.ref D) C) s' := by
  rintro s' rfl
  refine ahY (fun n s' => ∃ i zs H' o af nn, Inv (dj X x (x :: ys) scope cl C s2 H2 fp (X.pn ++ pins)) [] (o :: fr.map fun j => (σ[j]?).join) H' s' /\ tn i s'.heap /\ (∀ b ∈ fp, H' b = none) /\ H' D = none /\
   s'.heap.get? D = some { cls := .type "list", data := .seq (af : List acC).toArray nn } /\ Vals zs af /\ W i n zs H') ?_ m0 ⟨0, [], H2, none, [], 0, I4, jB, fun b hb => (f2 b hb).1, I2.ai.fresh jz, hD, .nil, w0⟩
  rintro n s3 ⟨i, zs, H3, o3, af, nn, I3, f9, gb, gp, sC, r3, w3⟩
  have jC : Inv (dj X x (x :: ys) scope cl C s2 H2 fp (X.pn ++ pins)) [(D, { cls := .type "list", data := .seq af.toArray nn })] (o3 :: fr.map fun j => (σ[j]?).join) H3 s3 := I3.gH fun p hp => by
   have : p = (D, { cls := .type "list", data := .seq af.toArray nn }) := by simpa using hp
   subst this
   exact ⟨sC, gp, cR, jy D (ac1 _), fun v z => nomatch z⟩
  rcases turn i n zs H3 w3 with ⟨stop, hlen, q⟩ | ⟨go, hlen, N, jD, step⟩
  ·refine adz (T.done (dj X x (x :: ys) scope cl C s2 H2 fp (X.pn ++ pins)) rfl rfl rfl hc i _ s3 _ H3 (fun _ _ => False) jC (gm H3 _ gb) f9 stop) (fun r s4 ⟨hr, J4⟩ => ?_) fun _ _ z => z.elim
   subst hr
   have un := J4.base
   have sD : ∀ b o, s2.heap.get? b = some o -> b ≠ D := fun b o e => by have := acK e; walk_at "om"
   have cS : ∀ b u, H3 b = some u -> b ≠ D := fun b u e z => by rw [z, gp] at e; cases e
   refine sr D C s4 (upd H3 D (.lst zs)) ?_ ?_ ?_ (q D gp)
   ·refine I2.Ah (ch := fp) J4.os ⟨un.keep, un.slot, fun b o e nn hx => ?_, un.there, fun b xs e => ?_, fun b o u e => ?_, fun b ps e => ?_⟩ (fun a o e => ?_) J4.bare fun b hb => ?_
    ·rw [aA (sD b o e)]; exact un.free b o e nn hx
    ·have := un.cH b xs e; rw [aA (cS b _ this)]; exact this
    ·have := un.cI b o u e; rw [aA (cS b _ this)]; exact this
    ·obtain ⟨more, this⟩ := un.cU b ps e
     exact ⟨more, by rw [aA (cS b _ this)]; exact this⟩
    ·by_cases ha : a = D
     ·subst ha
      rw [aq] at e; cases e
      exact ⟨hlen, af, nn, r3, (J4.pin (a, _) (acL _ (adG.mpr rfl))).1⟩
     ·rw [aA ha] at e
      exact (J4.ai a o e).eE (fun _ _ _ z => z) (fun b z => by rw [aA (cS b _ z)]; exact z) fun b xs z => by rw [aA (cS b _ z)]; exact z
    ·obtain ⟨_, d1, d2, d3, d4, d5⟩ := f2 b hb
     exact ⟨d3, d1, d4, d5⟩
   ·obtain ⟨m, hm, _⟩ := J4.loc
    exact ⟨m, hm⟩
   ·exact I2.gN gk (by rw [aA (adV cR)]; exact J4.free)
  ·refine adz (T.item (dj X x (x :: ys) scope cl C s2 H2 fp (X.pn ++ pins)) rfl rfl rfl hc i _ s3 _ H3 (fun _ _ => False) jC (gm H3 _ gb) f9 go) (fun r s4 ⟨u, hr, h4⟩ => ?_) fun _ _ z => z.elim
   subst hr
   have go' : ac0 (model X.prog X.w) X.A (aeW (.Name x px) (.ref it) u >>= fun _ => assign (.Name x px) (afg scope ((x, (C + 1 : Nat)) :: cl) C X.env) u) (fun _ s5 =>
    ac0 (model X.prog X.w) X.A (forIn ifs true fun c r => if r = true then do let ok <- akb c (afg scope ((x, (C + 1 : Nat)) :: cl) C X.env) (eval c (afg scope ((x, (C + 1 : Nat)) :: cl) C X.env)); pure (ae2 ok) else pure (ae2 r)) (fun ok s6 =>
     if ok = true then ac0 (model X.prog X.w) X.A (eval elt (afg scope ((x, (C + 1 : Nat)) :: cl) C X.env)) (fun y s7 =>
      ac0 (model X.prog X.w) X.A (call (.builtin "list.append") [.ref D, y]) (fun _ s8 => ∃ m, m < n /\ ∃ i zs H' o af nn, Inv (dj X x (x :: ys) scope cl C s2 H2 fp (X.pn ++ pins)) [] (o :: fr.map fun j => (σ[j]?).join) H' s8 /\ tn i s8.heap /\ (∀ b ∈ fp, H' b = none) /\ H' D = none /\
       s8.heap.get? D = some { cls := .type "list", data := .seq (af : List acC).toArray nn } /\ Vals zs af /\ W i m zs H') (fun _ _ => False) s7) (fun _ _ => False) s6
     else ∃ m, m < n /\ ∃ i zs H' o af nn, Inv (dj X x (x :: ys) scope cl C s2 H2 fp (X.pn ++ pins)) [] (o :: fr.map fun j => (σ[j]?).join) H' s6 /\ tn i s6.heap /\ (∀ b ∈ fp, H' b = none) /\ H' D = none /\
      s6.heap.get? D = some { cls := .type "list", data := .seq (af : List acC).toArray nn } /\ Vals zs af /\ W i m zs H') (fun _ _ => False) s5) (fun _ _ => False) s4 := by
    refine acA (au h4 fun _ s5 ⟨y5, H5, I5, r5, yl, dI, lB⟩ => ?_)
    have lC := I5.pinned (gm H5 _ lB) (T.obj _ _ dI)
    refine au (bb (X := dj X x (x :: ys) scope cl C s2 H2 fp (X.pn ++ pins)) (i := 0) S.nd rfl (.inr (Jw S.own)) (.inl (beq_self_eq_true x)) _ s5 _ H5 y5 u (fun σ' H' => σ' = (some y5 :: fr.map fun j => (σ[j]?).join) /\ H' = H5) lC r5 ⟨rfl, rfl⟩) fun _ s6 ⟨σ6, H6, I6, e6, AX⟩ => ?_
    subst e6 AX
    have after : ∀ (s7 : acF) (H7 : Hp), Inv (dj X x (x :: ys) scope cl C s2 H2 fp (X.pn ++ pins)) ([(D, { cls := .type "list", data := .seq af.toArray nn })] ++ lA fp s5.heap) (some y5 :: fr.map fun j => (σ[j]?).join) H7 s7 ->
     Inv (dj X x (x :: ys) scope cl C s2 H2 fp (X.pn ++ pins)) [] (some y5 :: fr.map fun j => (σ[j]?).join) H7 s7 /\ tn (i + 1) s7.heap /\ (∀ b ∈ fp, H7 b = none) /\ H7 D = none /\ s7.heap.get? D = some { cls := .type "list", data := .seq af.toArray nn } := fun s7 H7 I7 => by
     have pD := I7.pin (D, { cls := .type "list", data := .seq af.toArray nn }) (acL _ (adW _ (adG.mpr rfl)))
     refine ⟨I7.gH fun p hp => absurd hp (by simp), T.keep _ _ _ dI fun b hb o e => (I7.pin (b, o) (acL _ (acL _ (ji hb e)))).1, fun b hb => ?_, pD.2.1, pD.1⟩
     obtain ⟨o, e, _⟩ := T.obj _ _ dI b hb
     exact (I7.pin (b, o) (acL _ (acL _ (ji hb e)))).2.1
    refine au ((hb C s2 H2 fp (X.pn ++ pins)).1 _ s6 _ H6 _ I6 (step y5 H6 yl)) fun ok s7 ⟨H7, I7, q7⟩ => ?_
    dsimp only at q7
    by_cases ai : ok = true
    ·rw [if_pos ai] at q7 ⊢
     refine au ((hb C s2 H2 fp (X.pn ++ pins)).2 _ s7 _ H7 _ I7 q7) fun yv s8 ⟨y8, H8, I8, r8, n8⟩ => ?_
     obtain ⟨m', eU, w8⟩ := jD _ _ n8
     obtain ⟨J8, sE, sF, jE, gu⟩ := after s8 H8 I8
     have hl := r3.length
     refine ait agj ⟨_, gu, rfl⟩ af9 (afQ _ _) (agv D af.toArray nn yv (by rw [ac4]; walk_at "om")) ⟨gu, ?_⟩
     have jF := agP gu (fun a => a.push yv)
     rw [ahv] at jF
     refine ⟨m', eU, i + 1, zs ++ [y8], H8, some y5, af ++ [yv], _, J8.turned (it := D) (fun b o bS e => (acM _ _ (adV bS)).trans e) jE cR (.inr jz) (fun y c e z => ?_) (fun p hp => ?_), T.keep _ _ _ sE fun b bS o e => ?_, sF, jE, jF, r3.append (.cons r8 .nil), w8⟩
     ·rcases jO e with ⟨_, e2⟩ | ⟨_, e2⟩
      ·walk_at "om"
      ·have := S.low I2 e2
       walk_at "om"
     ·have bF : p ∈ X.pn ++ pins := by
       have : p ∈ (X.pn ++ pins) ++ [] := hp
       simpa using this
      exact (jA p bF).2.1
     ·have := cM b bS
      exact (acM _ _ (by walk_at "om")).trans e
    ·rw [if_neg ai] at q7 ⊢
     obtain ⟨m', eU, w7⟩ := jD _ _ q7
     obtain ⟨J7, sH, sI, sJ, sL⟩ := after s7 H7 I7
     exact ⟨m', eU, i + 1, zs, H7, some y5, af, nn, J7, sH, sI, sJ, sL, r3, w7⟩
   have e0 : (aeW (.Name x px) (.ref it) u >>= fun _ => assign (.Name x px) (afg scope ((x, (C + 1 : Nat)) :: cl) C X.env) u) = assign (.Name x px) (afg scope ((x, (C + 1 : Nat)) :: cl) C X.env) u := rfl
   rw [e0] at go'
   refine adz go' (fun _ s5 h5 => adz h5 (fun ok s6 h6 => ?_) fun _ _ z => z.elim) fun _ _ z => z.elim
   by_cases ai : ok = true
   ·rw [if_pos ai] at h6 ⊢
    exact adz h6 (fun y s7 h7 => adz h7 (fun _ _ z => z) fun _ _ z => z.elim) fun _ _ z => z.elim
   ·rw [if_neg ai] at h6 ⊢
    exact h6
 exact ago (loop _ rfl) (T.self X.A 0 _ _ _ jB (loop _ rfl))
theorem Jz {wi : TI} (S : mr X x scope cl fr ys) (hc : X.calm = true) (hi : PI X (.Name x px) iter wi)
 (hb : ∀ (C : acJ) (s : acF) (H : Hp) (ex : List acJ) (pn : List (acJ × Obj)), g8 (dj X x (x :: ys) scope cl C s H ex pn) ifs tt /\ PE (dj X x (x :: ys) scope cl C s H ex pn) elt te)
 (hs : ∀ z, afh iter X.env z = pure z := by intro _; rfl) : PE X (.ListComp elt [⟨.Name x px, iter, ifs, 0⟩] scope pos) (lX wi fr tt te) := by
 intro pins s σ H Q I h
 rw [aiX]
 refine aeJ (use := none) rfl hs S.clos S.kind (fun y hy hl => ?_) (au (hi pins s σ H _ I h) fun xv s1 h1 => au h1 fun ly s2 h2 => ?_)
 ·have z := adk.mp S.names y hy
  rw [hl] at z
  simpa using z
 ·obtain ⟨it, fp, tn, J, H2, rfl, I2, T, cv, f2, hB⟩ := h2
  refine Q3 (RR := fun acc C => ajK (model X.prog X.w) X.A X.xe none (EP X pins σ Q) acc C) S hc hb I2 T cv f2 hB fun D C s' H' J' hn fC q => ?_
  obtain ⟨m, hm⟩ := hn
  obtain ⟨c0, c1, c2, c3, c4, c5⟩ := fC
  exact ⟨m, hm, fun h' sb => ⟨.ref D, H', J'.turned (it := C) (fun b o hb e => sb.extBut b o hb e) c0 c1 c3 c4 c5, rfl, q⟩⟩
end
end Gz
namespace tD
open PySem
noncomputable def fe (mask i : Nat) : List Nat := (adh (aei mask i + 1 - i)).map (i + ·)
noncomputable def cV (mask : Nat) : Nat -> Nat -> Nat -> List Nat
 | 0, _, _ => []
 | n + 1, i, p => fe mask i ++ cV mask n (ael mask i p).1 (ael mask i p).2
noncomputable def road (mask : Nat) (h : Int) : List Nat := cV mask (afB mask) (SetTable.bits h % (mask + 1)) (SetTable.bits h)
noncomputable def Bs (mask : Nat) : Nat -> Nat -> List Nat
 | 0, _ => []
 | n + 1, i => i :: Bs mask n ((i * 5 + 1) % (mask + 1))
noncomputable def wO (l : List Nat) : Nat := l.foldr (fun x a => a ||| 2 ^ x) 0
theorem JA (j : Nat) : ∀ l : List Nat, (wO l).testBit j = true -> j ∈ l
 | [], h => by simp [wO] at h
 | x :: l, h => by
  have h' : ((wO l) ||| 2 ^ x).testBit j = true := h
  rw [Nat.testBit_or, afl] at h'
  rcases h' with h' | h'
  ·exact ac5 _ (JA j l h')
  ·rw [Nat.testBit_two_pow] at h'
   rw [of_decide_eq_true h']; exact adE
theorem Q4 (mask i : Nat) : i ∈ fe mask i := by
 unfold fe
 refine acQ.mpr ⟨0, ady.mpr ?_, rfl⟩
 unfold aei; split <;> omega
theorem JB (mask : Nat) : ∀ (n i : Nat), ∀ x ∈ Bs mask n i, x ∈ cV mask n i 0
 | 0, _, x, h => by cases h
 | n + 1, i, x, h => by
  rcases acN.mp h with rfl | h
  ·exact adW _ (Q4 _ _)
  ·refine acL _ ?_
   have := JB mask n _ x h
   simpa [ael] using this
theorem JC (mask : Nat) : ∀ (k n i p : Nat), i <= mask -> ∃ i', i' <= mask /\ ∀ x ∈ cV mask n i' (p / 32 ^ k), x ∈ cV mask (k + n) i p
 | 0, n, i, p, hi => ⟨i, hi, fun x h => by simpa using h⟩
 | k + 1, n, i, p, hi => by
  obtain ⟨i', hi, h⟩ := JC mask k n (ael mask i p).1 (ael mask i p).2 (afn (agU _ (by omega)))
  refine ⟨i', hi, fun x hx => ?_⟩
  rw [show k + 1 + n = (k + n) + 1 from by omega]
  refine acL _ (h x ?_)
  have : (ael mask i p).2 / 32 ^ k = p / 32 ^ (k + 1) := by
   show p / 32 / 32 ^ k = _
   rw [Nat.div_div_eq_div_mul, akE, Nat.mul_comm]
  rw [this]; exact hx
noncomputable def hW (m : Nat) : Prop := m = 7 ∨ m = 31 ∨ m = 127
theorem Q5 {m : Nat} (hm : hW m) : ((adh (m + 1)).all fun i => wO (Bs m (m + 2) i) == 2 ^ (m + 1) - 1) = true := by
 rcases hm with rfl | rfl | rfl <;> decide +kernel
theorem Q6 {m : Nat} (hm : hW m) (h : Int) {j : Nat} (hj : j <= m) : j ∈ road m h := by
 unfold road
 have hb : SetTable.bits h < 2 ^ 64 := by unfold SetTable.bits; omega
 obtain ⟨i', hi, k⟩ := JC m 13 (m + 2) (SetTable.bits h % (m + 1)) (SetTable.bits h) (afn (agU _ (by omega)))
 rw [show afB m = 13 + (m + 2) from by unfold afB; omega]
 refine k j ?_
 rw [Nat.div_eq_of_lt (ac8 hb (by decide))]
 refine JB m _ _ j (JA j _ ?_)
 have := adk.mp (Q5 hm) i' (ady.mpr (by omega))
 rw [eq_of_beq this, Nat.testBit_two_pow_sub_one]
 simp; omega
theorem Q7 {m i x : Nat} (hi : i <= m) (h : x ∈ fe m i) : x <= m := by
 unfold fe at h
 obtain ⟨k, hk, rfl⟩ := acQ.mp h
 have := ady.mp hk
 unfold aei at this; split at this <;> omega
theorem JD {m : Nat} : ∀ (n i p : Nat), i <= m -> ∀ x ∈ cV m n i p, x <= m
 | 0, _, _, _, x, h => by cases h
 | n + 1, i, p, hi, x, h => by
  rcases adj.mp h with h | h
  ·exact Q7 hi h
  ·exact JD n _ _ (afn (agU _ (by omega))) x h
theorem wQ {m : Nat} {h : Int} {x : Nat} (hx : x ∈ road m h) : x <= m := JD _ _ _ (afn (agU _ (by omega))) x hx
theorem Bu {α : Type} [DecidableEq α] (p : α -> Prop) [DecidablePred p] : ∀ l : List α, (∃ x ∈ l, p x) -> ∃ a x b, l = a ++ x :: b /\ p x /\ ∀ y ∈ a, ¬ p y
 | [], ⟨x, h, _⟩ => by cases h
 | y :: l, ⟨x, h, px⟩ => by
  by_cases py : p y
  ·exact ⟨[], y, l, rfl, py, fun _ h => by cases h⟩
  ·rcases acN.mp h with rfl | h
   ·exact absurd px py
   ·obtain ⟨a, z, b, e, pz, k⟩ := Bu p l ⟨x, h, px⟩
    exact ⟨y :: a, z, b, by rw [e]; rfl, pz, fun q hq => (acN.mp hq).elim (fun e => e ▸ py) (k q)⟩
noncomputable def iV (t : afF) : Nat -> af1 -> List Nat
 | 0, _ => []
 | n + 1, p => p.j :: iV t n (t.advance p)
theorem JE (t : afF) : ∀ (k n : Nat) (p : af1), p.more + 1 = k -> ∃ p', iV t (k + n) p = (adh k).map (p.j + ·) ++ iV t n p' /\
 p'.i = (ael t.mask p.i p.perturb).1 /\ p'.j = p'.i /\ p'.more = aei t.mask p'.i - p'.i /\ p'.perturb = (ael t.mask p.i p.perturb).2 /\ p'.dummy = p.dummy
 | 0, n, p, h => by omega
 | 1, n, p, h => by
  refine ⟨t.advance p, ?_, ?_⟩
  ·rw [Nat.add_comm]; simp [iV, agm]
  ·have : p.more = 0 := by omega
   simp [ahP, this, ael]
 | k + 2, n, p, h => by
  have hm : p.more > 0 := by omega
  have ha : t.advance p = { p with j := p.j + 1, more := p.more - 1 } := by simp [ahP, hm]
  obtain ⟨p', e, r⟩ := JE t (k + 1) n (t.advance p) (by rw [ha]; show p.more - 1 + 1 = k + 1; omega)
  rw [ha] at e r
  refine ⟨p', ?_, r⟩
  rw [show k + 2 + n = (k + 1 + n) + 1 from by omega]
  show p.j :: iV t (k + 1 + n) (t.advance p) = _
  rw [ha, e, List.range_succ_eq_map (n := k + 1)]
  simp only [ac7, aeR, akC, ahO, List.cons.injEq, true_and]
  congr 1
  apply afy
  intro a _
  simp; omega
theorem JF (t : afF) : ∀ (n m : Nat) (p : af1), p.j = p.i -> p.more = aei t.mask p.i - p.i -> 10 * n <= m -> ∃ r, iV t m p = cV t.mask n p.i p.perturb ++ r
 | 0, m, p, _, _, _ => ⟨_, rfl⟩
 | n + 1, m, p, hj, hm, hl => by
  have hk : p.more + 1 <= 10 := by rw [hm]; unfold aei; split <;> omega
  obtain ⟨p', e, e1, e2, e3, e4, e5⟩ := JE t (p.more + 1) (m - (p.more + 1)) p rfl
  rw [show p.more + 1 + (m - (p.more + 1)) = m from by omega] at e
  obtain ⟨r, er⟩ := JF t n (m - (p.more + 1)) p' e2 e3 (by omega)
  refine ⟨r, ?_⟩
  rw [e, er, e1, e4, <- aeT]
  congr 1
  show _ = fe t.mask p.i ++ _
  congr 1
  unfold fe
  rw [hj, show aei t.mask p.i + 1 - p.i = p.more + 1 from by rw [hm]; unfold aei; split <;> omega]
theorem JG (t : afF) (h : Int) : ∃ r, iV t (10 * afB t.mask) (t.probeStart h) = road t.mask h ++ r :=
 JF t _ _ _ rfl rfl (ac1 _)
theorem Q8 (t : afF) (p : af1) : (t.advance p).dummy = p.dummy := by unfold ahP; split <;> rfl
theorem JH (t : afF) (f : Nat -> Int) (h : Int) (j : Nat) (r : List Nat) (hj : t.slot j = .empty) : ∀ (l : List Nat) (n : Nat) (p : af1), iV t n p = l ++ j :: r ->
 (∀ q ∈ l, ∃ i, t.slot q = .live i /\ f i ≠ h) -> afo t f h n p = some (.empty j p.dummy)
 | l, 0, p, e, _ => by cases l <;> cases e
 | [], n + 1, p, e, _ => by
  obtain ⟨e1, _⟩ := List.cons.inj e
  simp only [afo, e1, hj]
 | q :: l, n + 1, p, e, hl => by
  obtain ⟨e1, e2⟩ := List.cons.inj e
  obtain ⟨i, hi, hf⟩ := hl q adE
  simp only [afo, e1, hi, beq_iff_eq, hf, if_false]
  rw [JH t f h j r hj l n _ e2 (fun q hq => hl q (ac5 _ hq)), Q8]
theorem JI (t : afF) (f : Nat -> Int) (h : Int) (j i₀ : Nat) (r : List Nat) (hj : t.slot j = .live i₀) (hf : f i₀ = h) : ∀ (l : List Nat) (n : Nat) (p : af1), iV t n p = l ++ j :: r ->
 (∀ q ∈ l, ∃ i, t.slot q = .live i /\ f i ≠ h) -> ∃ nx, afo t f h n p = some (.candidate j i₀ nx)
 | l, 0, p, e, _ => by cases l <;> cases e
 | [], n + 1, p, e, _ => by
  obtain ⟨e1, _⟩ := List.cons.inj e
  exact ⟨t.advance p, by simp only [afo, e1, hj, hf, beq_self_eq_true, if_true]⟩
 | q :: l, n + 1, p, e, hl => by
  obtain ⟨e1, e2⟩ := List.cons.inj e
  obtain ⟨i, hi, wR⟩ := hl q adE
  simp only [afo, e1, hi, beq_iff_eq, wR, if_false]
  exact JI t f h j i₀ r hj hf l n _ e2 (fun q hq => hl q (ac5 _ hq))
theorem Bv (xs : Array Nat) (j : Nat) : ∀ (n lo hi : Nat), hi - lo <= n -> lo <= hi -> hi <= xs.size -> (∀ k, k < lo -> xs.getD k j < j) -> (∀ k, hi <= k -> k < xs.size -> ¬ xs.getD k j < j) ->
 (∀ a b, a < b -> b < xs.size -> xs.getD a j < xs.getD b j) ->
 let r := SetTable.below.go xs j n lo hi
 r <= xs.size /\ (∀ k, k < r -> xs.getD k j < j) /\ (∀ k, r <= k -> k < xs.size -> ¬ xs.getD k j < j)
 | 0, lo, hi, hn, hl, hs, h1, h2, hr => by
  obtain rfl : lo = hi := by omega
  exact ⟨hs, h1, h2⟩
 | n + 1, lo, hi, hn, hl, hs, h1, h2, hr => by
  dsimp only
  unfold SetTable.below.go
  by_cases aT : lo < hi
  ·simp only [aT, if_true]
   by_cases hm : xs.getD ((lo + hi) / 2) j < j
   ·simp only [hm, if_true]
    exact Bv xs j n _ hi (by omega) (by omega) hs (fun k hk => by
     by_cases e : k = (lo + hi) / 2
     ·rw [e]; exact hm
     ·have := hr k ((lo + hi) / 2) (by omega) (by omega)
      omega) h2 hr
   ·simp only [hm, if_false]
    exact Bv xs j n lo _ (by omega) (by omega) (by omega) h1 (fun k hk dB => by
     by_cases e : k = (lo + hi) / 2
     ·rw [e]; exact hm
     ·have := hr ((lo + hi) / 2) k (by omega) dB
      omega) hr
  ·simp only [aT, if_false]
   obtain rfl : lo = hi := by omega
   exact ⟨hs, h1, h2⟩
noncomputable def iP (l : List Nat) : Prop := l.Pairwise (· < ·)
theorem Q9 {l : List Nat} (h : iP l) (j : Nat) {a b : Nat} (cw : a < b) (hb : b < l.toArray.size) : l.toArray.getD a j < l.toArray.getD b j := by
 have bS : b < l.length := by simpa using hb
 have := ad1.mp h a b (by omega) bS cw
 simpa [Array.getD, bS, show a < l.length from by omega] using this
theorem wU {l : List Nat} (h : iP l) (j : Nat) : let r := SetTable.below l.toArray j
 r <= l.length /\ (∀ x ∈ l.take r, x < j) /\ (∀ x ∈ l.drop r, j <= x) := by
 have k := Bv l.toArray j l.toArray.size 0 l.toArray.size (by omega) (by omega) (by omega) (fun k hk => by omega) (fun k JJ dB => by omega) (fun a b cw hb => Q9 h j cw hb)
 dsimp only at k ⊢
 rw [show SetTable.below.go l.toArray j l.toArray.size 0 l.toArray.size = SetTable.below l.toArray j from rfl] at k
 obtain ⟨k1, k2, k3⟩ := k
 have Ra : SetTable.below l.toArray j <= l.length := by simpa using k1
 refine ⟨Ra, fun x hx => ?_, fun x hx => ?_⟩
 ·obtain ⟨i, hi, rfl⟩ := adQ hx
  have bf : i < SetTable.below l.toArray j := by simp at hi; omega
  have := k2 i bf
  have hl : i < l.length := by omega
  simpa [Array.getD, hl] using this
 ·obtain ⟨i, hi, rfl⟩ := adQ hx
  have bf : SetTable.below l.toArray j + i < l.length := by simp at hi; omega
  have := k3 (SetTable.below l.toArray j + i) (by omega) (by simpa using bf)
  simpa [Array.getD, bf] using this
theorem below_at {l : List Nat} (h : iP l) {i : Nat} {j : Nat} (hi : l[i]? = some j) : SetTable.below l.toArray j = i := by
 have hb := wU h j
 dsimp only at hb
 generalize SetTable.below l.toArray j = r at hb
 obtain ⟨hr, h1, h2⟩ := hb
 obtain ⟨hil, eR⟩ := acX.mp hi
 rcases ahx r i with aT | rfl | hgt
 ·exfalso
  have := h2 l[r] (ahj.mpr ⟨0, by omega, by simp⟩)
  have := ad1.mp h r i (by omega) hil aT
  omega
 ·rfl
 ·exfalso
  have := h1 l[i] (ahk.mpr ⟨i, by omega, rfl⟩)
  omega
theorem Rb {l : List Nat} (h : iP l) {i : Nat} {j : Nat} (hi : l[i]? = some j) : SetTable.below l.toArray (j + 1) = i + 1 := by
 have hb := wU h (j + 1)
 dsimp only at hb
 generalize SetTable.below l.toArray (j + 1) = r at hb
 obtain ⟨hr, h1, h2⟩ := hb
 obtain ⟨hil, eR⟩ := acX.mp hi
 rcases ahx r (i + 1) with aT | rfl | hgt
 ·exfalso
  have acs : r <= i := by omega
  have h3 := h2 l[i] (ahj.mpr ⟨i - r, by omega, by congr 1; omega⟩)
  omega
 ·rfl
 ·exfalso
  have h3 := h1 l[i + 1] (ahk.mpr ⟨i + 1, by omega, rfl⟩)
  have := ad1.mp h i (i + 1) hil (by omega) (by omega)
  omega
noncomputable def iW (m : Nat) (h : Int) (occ : List Nat) (s : Nat) : Prop := ∃ l r, road m h = l ++ s :: r /\ s ∉ l /\ ∀ q ∈ l, q ∈ occ
theorem iW.mono {m : Nat} {h : Int} {occ JK : List Nat} {s : Nat} (k : ∀ q ∈ occ, q ∈ JK) : iW m h occ s -> iW m h JK s
 | ⟨l, r, e, n, a⟩ => ⟨l, r, e, n, fun q hq => k q (a q hq)⟩
theorem JL : ∀ (n : Nat) (l : List Nat), (∀ j, j < n -> j ∈ l) -> n <= l.length
 | 0, _, _ => adf _
 | n + 1, l, h => by
  have := JL n (l.erase n) fun j hj => (afT (by omega)).mpr (h j (by omega))
  rw [afp (h n (by omega))] at this
  have := ae3 (h n (by omega))
  omega
theorem JM {m : Nat} (hm : hW m) (h : Int) {occ : List Nat} (hn : occ.length <= m) : ∃ s, iW m h occ s /\ s ∉ occ /\ s <= m := by
 have hex : ∃ x ∈ road m h, x ∉ occ := by
  refine aeF fun hc => ?_
  have all : ∀ j, j <= m -> j ∈ occ := fun j hj => aeF fun Bw => hc ⟨j, Q6 hm h hj, Bw⟩
  have := JL (m + 1) occ fun j hj => all j (by omega)
  omega
 obtain ⟨a, x, b, e, px, k⟩ := Bu (fun x => x ∉ occ) (road m h) hex
 exact ⟨x, ⟨a, b, e, fun hx => k x hx px, fun q hq => aeF (k q hq)⟩, px, wQ (by rw [e]; simp)⟩
structure Tok {β : Type} (t : afF) (L : List (Nat × Int × β)) : Prop where
 pl : t.place = (L.map (·.1)).toArray
 du : t.dummies = #[]
 ri : iP (L.map (·.1))
 le : ∀ e ∈ L, e.1 <= t.mask
 om : hW t.mask
 rm : L.length <= t.mask
 ro : ∀ e ∈ L, iW t.mask e.2.1 (L.map (·.1)) e.1
section
variable {β : Type} {t : afF} {L : List (Nat × Int × β)}
theorem Tok.live (k : Tok t L) {i q : Nat} (h : (L.map (·.1))[i]? = some q) : t.slot q = .live i := by
 unfold aku
 rw [k.pl, below_at k.ri h]
 simp [h] at h ⊢
theorem Tok.empty (k : Tok t L) {q : Nat} (h : q ∉ L.map (·.1)) : t.slot q = .empty := by
 unfold aku
 have h1 : ((t.place[SetTable.below t.place q]? == some q)) = false := by
  rw [k.pl]
  cases hb : ((L.map (·.1)).toArray[SetTable.below (L.map (·.1)).toArray q]? == some q) with
  | false => rfl
  | true =>
   have := eq_of_beq hb
   rw [adt] at this
   exact absurd (acZ this) h
 have h2 : akF t.dummies q = false := by rw [k.du]; rfl
 simp only [h1, h2, acP, if_false]
theorem Tok.hit (k : Tok t L) {f : Nat -> Int} (hf : ∀ i e, L[i]? = some e -> f i = e.2.1) {e : Nat × Int × β} (he : e ∈ L) (hu : ∀ e' ∈ L, e'.2.1 = e.2.1 -> e' = e) :
 ∃ j i nx, t.probe f e.2.1 (t.probeStart e.2.1) = some (.candidate j i nx) /\ L[i]? = some e := by
 obtain ⟨l, r, e1, e2, e3⟩ := k.ro e he
 obtain ⟨i, hi, hie⟩ := adQ he
 have hL : L[i]? = some e := acX.mpr ⟨hi, hie⟩
 obtain ⟨r', er⟩ := JG t e.2.1
 rw [e1, aeT] at er
 obtain ⟨nx, hx⟩ := JI t f e.2.1 e.1 i (r ++ r') (k.live (by simp [hL])) (hf i e hL) l _ _ er fun q hq => by
  obtain ⟨i', bf, fD⟩ := adQ (e3 q hq)
  have hl : i' < L.length := by simpa using bf
  refine ⟨i', k.live (acX.mpr ⟨bf, fD⟩), fun hc => ?_⟩
  rw [hf i' L[i'] (acG hl)] at hc
  have := hu _ (adZ hl) hc
  have Rc : q = e.1 := by rw [<- fD, ajG, this]
  exact e2 (Rc ▸ hq)
 exact ⟨e.1, i, nx, hx, hL⟩
theorem Tok.miss (k : Tok t L) {f : Nat -> Int} (hf : ∀ i e, L[i]? = some e -> f i = e.2.1) {h : Int} (hu : ∀ e' ∈ L, e'.2.1 ≠ h) :
 ∃ j, t.probe f h (t.probeStart h) = some (.empty j none) /\ j ∉ L.map (·.1) /\ j <= t.mask /\ iW t.mask h (L.map (·.1)) j := by
 obtain ⟨j, ⟨l, r, e1, e2, e3⟩, hj, hm⟩ := JM k.om h (occ := L.map (·.1)) (by have := k.rm; simp; omega)
 obtain ⟨r', er⟩ := JG t h
 rw [e1, aeT] at er
 have := JH t f h j (r ++ r') (k.empty hj) l _ _ er fun q hq => by
  obtain ⟨i', bf, fD⟩ := adQ (e3 q hq)
  have hl : i' < L.length := by simpa using bf
  refine ⟨i', k.live (acX.mpr ⟨bf, fD⟩), fun hc => ?_⟩
  rw [hf i' L[i'] (acG hl)] at hc
  exact hu _ (adZ hl) hc
 exact ⟨j, this, hj, hm, l, r, e1, e2, e3⟩
noncomputable def c7 (L : List (Nat × Int × β)) (p : Nat) (e : Nat × Int × β) : List (Nat × Int × β) := L.take p ++ e :: L.drop p
theorem tE (p : Nat) (e : Nat × Int × β) : (c7 L p e).Perm (e :: L) := by
 unfold c7
 refine ajH.trans ?_
 rw [afc]
theorem Bx {α : Type} (l : List α) (p : Nat) (x : α) : afq l.toArray p x = (l.take p ++ x :: l.drop p).toArray := by
 unfold afq
 apply akQ
 simp [Array.toList_extract, List.extract]
 exact List.take_of_length_le (by simp)
theorem Tok.put (k : Tok t L) {j : Nat} {h : Int} {x : β} (hj : j ∉ L.map (·.1)) (hm : j <= t.mask) (ho : iW t.mask h (L.map (·.1)) j) (hs : L.length < t.mask) :
 ∃ t' p, t.put j = (t', p) /\ Tok t' (c7 L p (j, h, x)) /\ afq (L.map (·.2)).toArray p (h, x) = ((c7 L p (j, h, x)).map (·.2)).toArray /\
  t'.mask = t.mask /\ t'.led = t.led /\ t'.plain = t.plain /\ t'.fill = L.length + 1 := by
 have hb := wU k.ri j
 dsimp only at hb
 obtain ⟨h0, h1, h2⟩ := hb
 have hd : akF t.dummies j = false := by rw [k.du]; rfl
 generalize hp : SetTable.below (L.map (·.1)).toArray j = p at h0 h1 h2
 have e1 : (c7 L p (j, h, x)).map (·.1) = (L.map (·.1)).take p ++ j :: (L.map (·.1)).drop p := by simp [c7]
 have mem : ∀ q ∈ L.map (·.1), q ∈ (c7 L p (j, h, x)).map (·.1) := fun q hq => ((tE p (j, h, x)).map (·.1)).mem_iff.mpr (ac5 _ hq)
 refine ⟨{ t with place := afq (L.map (·.1)).toArray p j }, p, by unfold SetTable.put; simp only [k.pl, hp, hd, acP, if_false], ?_, ?_, rfl, rfl, rfl, ?_⟩
 ·refine ⟨?_, k.du, ?_, fun e he => ?_, k.om, ?_, fun e he => ?_⟩
  ·show afq (L.map (·.1)).toArray p j = _
   rw [Bx, e1]
  ·rw [e1]
   have hr := k.ri
   unfold iP at hr ⊢
   rw [<- afc p (L.map (·.1)), agT] at hr
   refine agT.mpr ⟨hr.1, adY.mpr ⟨fun y hy => ?_, hr.2.1⟩, fun a ha b hb => ?_⟩
   ·have := h2 y hy
    have : y ≠ j := fun e => hj (e ▸ List.mem_of_mem_drop hy)
    omega
   ·rcases acN.mp hb with rfl | hb
    ·exact h1 a ha
    ·exact hr.2.2 a ha b hb
  ·rcases acN.mp ((tE p (j, h, x)).mem_iff.mp he) with rfl | he
   ·exact hm
   ·exact k.le e he
  ·rw [(tE p (j, h, x)).length_eq]; exact hs
  ·rcases acN.mp ((tE p (j, h, x)).mem_iff.mp he) with rfl | he
   ·exact ho.mono mem
   ·exact (k.ro e he).mono mem
 ·rw [Bx]; simp [c7]
 ·show (afq _ _ _).size + t.dummies.size = _
  rw [Bx, k.du]
  simp
  simp at h0
  omega
theorem JN (f : Nat -> Bool) : ∀ n, (∃ k, (adh n).find? f = some k /\ k < n /\ f k = true /\ ∀ i, i < k -> f i = false) ∨ ((adh n).find? f = none /\ ∀ i, i < n -> f i = false)
 | 0 => .inr ⟨rfl, fun i h => by omega⟩
 | n + 1 => by
  rw [agm, List.find?_append]
  rcases JN f n with ⟨k, e, h1, h2, h3⟩ | ⟨e, h1⟩
  ·exact .inl ⟨k, by rw [e]; rfl, by omega, h2, h3⟩
  ·by_cases hf : f n = true
   ·exact .inl ⟨n, by rw [e]; simp [hf], by omega, hf, h1⟩
   ·have wR : f n = false := by simpa using hf
    refine .inr ⟨by rw [e]; simp [wR], fun i hi => ?_⟩
    by_cases cD : i = n
    ·rw [cD]; exact wR
    ·exact h1 i (by omega)
theorem JO (m : Nat) (o : Array (Option Nat)) : ∀ (n i p : Nat), i <= m -> (∃ x ∈ cV m n i p, o.getD x (some 0) = none) ->
 ∃ j l r, SetTable.layClean.free m o n i p = some j /\ cV m n i p = l ++ j :: r /\ o.getD j (some 0) = none /\ ∀ q ∈ l, o.getD q (some 0) ≠ none
 | 0, i, p, _, ⟨x, h, _⟩ => by cases h
 | n + 1, i, p, hi, hx => by
  unfold SetTable.layClean.free
  rcases JN (fun k => (o.getD (i + k) (some 0)).isNone) (aei m i + 1 - i) with ⟨k, e, h1, h2, h3⟩ | ⟨e, h1⟩
  ·rw [e]
   refine ⟨i + k, (adh k).map (i + ·), ((adh (aei m i + 1 - i)).map (i + ·)).drop (k + 1) ++ cV m n (ael m i p).1 (ael m i p).2, rfl, ?_, Option.isNone_iff_eq_none.mp h2, fun q hq => ?_⟩
   ·show fe m i ++ _ = _
    unfold fe
    generalize aei m i + 1 - i = N at h1 ⊢
    have : (adh N).map (i + ·) = (adh k).map (i + ·) ++ (i + k) :: ((adh N).map (i + ·)).drop (k + 1) := by
     refine agy fun a => ?_
     rcases ahx a k with h | h | h
     ·rw [aeh (by simpa using h)]
      simp [h, show a < N from by omega]
     ·subst h
      rw [aez (by simp)]
      simp [h1]
     ·rw [aez (by simp; omega)]
      simp only [acI, aeq]
      obtain ⟨d, rfl⟩ : ∃ d, a = k + 1 + d := ⟨a - (k + 1), by omega⟩
      rw [show k + 1 + d - k = d + 1 from by omega, aee, ahc]
    conv => lhs; rw [this]
    simp
   ·obtain ⟨d, hd, rfl⟩ := acQ.mp hq
    have := h3 d (ady.mp hd)
    intro hc
    rw [hc] at this
    cases this
  ·rw [e]
   have JP : ∀ q ∈ fe m i, o.getD q (some 0) ≠ none := fun q hq hc => by
    unfold fe at hq
    obtain ⟨d, hd, rfl⟩ := acQ.mp hq
    have := h1 d (ady.mp hd)
    rw [hc] at this
    cases this
   obtain ⟨x, mw, JQ⟩ := hx
   rcases adj.mp mw with mw | mw
   ·exact absurd JQ (JP x mw)
   ·obtain ⟨j, l, r, f1, f2, f3, f4⟩ := JO m o n (ael m i p).1 (ael m i p).2 (afn (agU _ (by omega))) ⟨x, mw, JQ⟩
    exact ⟨j, fe m i ++ l, r, f1, by show fe m i ++ _ = _; rw [f2, aeT], f3, fun q hq => (adj.mp hq).elim (JP q) (f4 q)⟩
noncomputable def cj (m : Nat) (o : Array (Option Nat)) : List (Nat × Nat) := (adh (m + 1)).filterMap fun j => (o.getD j none).map (j, ·)
theorem JR {α : Type} {f g : Nat -> Option α} {j : Nat} {a : α} (h1 : f j = none) (h2 : g j = some a) (h3 : ∀ i, i ≠ j -> g i = f i) : ∀ n, j < n -> ((adh n).filterMap g).Perm (a :: (adh n).filterMap f)
 | 0, h => by omega
 | n + 1, h => by
  rw [agm, aim, aim]
  by_cases e : j = n
  ·subst e
   have e1 : (adh j).filterMap g = (adh j).filterMap f := by
    have : ∀ l : List Nat, (∀ i ∈ l, i ≠ j) -> l.filterMap g = l.filterMap f := fun l => by
     induction l with
     | nil => intro _; rfl
     | cons x l ih => intro hl; rw [adA, adA, h3 x (hl x adE), ih fun i hi => hl i (ac5 _ hi)]
    exact this _ fun i hi => by have := ady.mp hi; omega
   rw [e1]
   rw [adA, h2, adA, h1]
   show (_ ++ [a]).Perm (a :: (_ ++ []))
   rw [agW]
   exact ain (l₂ := [a])
  ·have e2 : [n].filterMap g = [n].filterMap f := by simp [adA, h3 n (adV e)]
   rw [e2]
   exact (JR h1 h2 h3 n (by omega)).append_right _
theorem By {m : Nat} {o : Array (Option Nat)} {q : Nat} : q ∈ (cj m o).map (·.1) ↔ q <= m /\ o.getD q none ≠ none := by
 unfold cj
 simp only [acQ, agf, ady, adH]
 constructor
 ·rintro ⟨e, ⟨a, ha, k, hk, rfl⟩, rfl⟩
  exact ⟨by show a <= m; omega, by show o.getD a none ≠ none; rw [hk]; simp⟩
 ·rintro ⟨h1, h2⟩
  obtain ⟨k, hk⟩ := Option.ne_none_iff_exists'.mp h2
  exact ⟨(q, k), ⟨q, by omega, k, hk, rfl⟩, rfl⟩
theorem Rf (m : Nat) (o : Array (Option Nat)) : iP ((cj m o).map (·.1)) := by
 unfold iP cj
 rw [aht, List.pairwise_filterMap]
 refine List.pairwise_lt_range.imp fun {a b} cw x hx y hy => ?_
 simp only [adH] at hx hy
 obtain ⟨_, _, rfl⟩ := hx
 obtain ⟨_, _, rfl⟩ := hy
 exact cw
structure Own (m : Nat) (o : Array (Option Nat)) (hs : List Int) : Prop where
 sz : o.size = m + 1
 pm : ((cj m o).map (·.2)).Perm (adh hs.length)
 on : ∀ e ∈ cj m o, ∃ h, hs[e.2]? = some h /\ iW m h ((cj m o).map (·.1)) e.1
theorem Own.step {m : Nat} {o : Array (Option Nat)} {hs : List Int} (hm : hW m) (k : Own m o hs) (hn : hs.length <= m) (h : Int) :
 ∃ j, SetTable.layClean.free m o (afB m) (SetTable.bits h % (m + 1)) (SetTable.bits h) = some j /\ Own m (o.setIfInBounds j (some hs.length)) (hs ++ [h]) := by
 have hlen : ((cj m o).map (·.1)).length = hs.length := by have := k.pm.length_eq; simpa using this
 have Bz : ∀ q, q <= m -> o.getD q (some 0) = o.getD q none := fun q hq => by simp [Array.getD, show q < o.size from by rw [k.sz]; omega]
 obtain ⟨j0, ⟨l0, r0, g1, g2, g3⟩, g4, g5⟩ := JM hm h (occ := (cj m o).map (·.1)) (by omega)
 have Rg : o.getD j0 (some 0) = none := by
  rw [Bz j0 g5]
  exact aeF fun hc => g4 (By.mpr ⟨g5, hc⟩)
 obtain ⟨j, l, r, f1, f2, f3, f4⟩ := JO m o (afB m) (SetTable.bits h % (m + 1)) (SetTable.bits h) (afn (agU _ (by omega))) ⟨j0, by show j0 ∈ road m h; rw [g1]; simp, Rg⟩
 have Rh : j <= m := wQ (h := h) (by show j ∈ cV _ _ _ _; rw [f2]; simp)
 have Ri : ∀ q ∈ l, q <= m := fun q hq => wQ (h := h) (by show q ∈ cV _ _ _ _; rw [f2]; simp [hq])
 have Rj : o.getD j none = none := by rw [<- Bz j Rh]; exact f3
 refine ⟨j, f1, ?_⟩
 have Rk : j < o.size := by rw [k.sz]; omega
 have gj : (o.setIfInBounds j (some hs.length)).getD j none = some hs.length := by simp [Array.getD, Rk]
 have gi : ∀ i, i ≠ j -> (o.setIfInBounds j (some hs.length)).getD i none = o.getD i none := fun i hi => by
  simp only [afG]
  rw [Array.getElem?_setIfInBounds_ne (adV hi)]
 have hp : (cj m (o.setIfInBounds j (some hs.length))).Perm ((j, hs.length) :: cj m o) := by
  unfold cj
  exact JR (j := j) (a := (j, hs.length)) (by simp only [Rj, Option.map_none]) (by simp only [gj, Option.map_some]) (fun i hi => by simp only [gi i hi]) (m + 1) (by omega)
 have mem : ∀ q ∈ (cj m o).map (·.1), q ∈ (cj m (o.setIfInBounds j (some hs.length))).map (·.1) := fun q hq => (hp.map (·.1)).mem_iff.mpr (ac5 _ hq)
 refine ⟨by simp [k.sz], ?_, fun e he => ?_⟩
 ·refine (hp.map (·.2)).trans ?_
  simp only [ac7, adl, ad8, afk, Nat.zero_add, agm]
  exact (List.Perm.cons _ k.pm).trans (ain (l₁ := [hs.length]))
 ·rcases acN.mp (hp.mem_iff.mp he) with rfl | he
  ·refine ⟨h, by simp, ?_⟩
   obtain ⟨a, x, b, e1, e2, e3⟩ := Bu (fun x => x = j) (road m h) ⟨j, by show j ∈ cV _ _ _ _; rw [f2]; simp, rfl⟩
   subst e2
   refine ⟨a, b, e1, fun hx => e3 x hx rfl, fun q hq => mem q (By.mpr ⟨wQ (h := h) (by rw [e1]; simp [hq]), ?_⟩)⟩
   have JS : road m h = l ++ x :: r := f2
   have JT : q ∈ l := by
    rw [e1] at JS
    rcases List.append_eq_append_iff.mp JS with ⟨c, c1, c2⟩ | ⟨c, c1, c2⟩
    ·rw [c1]; exact adW _ hq
    ·cases c with
     | nil => simp at c1; rw [c1] at hq; exact hq
     | cons z c =>
      simp only [ahO, List.cons.injEq] at c2
      exact absurd rfl (e3 x (by rw [c1, <- c2.1]; simp))
   rw [<- Bz q (Ri q JT)]
   exact f4 q JT
  ·obtain ⟨h', q1, q2⟩ := k.on e he
   exact ⟨h', by rw [aeh (acX.mp q1).1]; exact q1, q2.mono mem⟩
theorem JU {m : Nat} (hm : hW m) : ∀ (hs done : List Int) (o : Array (Option Nat)), Own m o done -> (done ++ hs).length <= m + 1 ->
 ∃ o', hs.foldl (fun (acc : Option (Array (Option Nat) × Nat)) h => do
  let (owner, k) <- acc
  let j <- SetTable.layClean.free m owner (afB m) (SetTable.bits h % (m + 1)) (SetTable.bits h)
  pure (owner.setIfInBounds j (some k), k + 1)) (some (o, done.length)) = some (o', (done ++ hs).length) /\ Own m o' (done ++ hs)
 | [], done, o, k, _ => ⟨o, by simp, by simpa using k⟩
 | h :: hs, done, o, k, hn => by
  obtain ⟨j, e, k'⟩ := k.step hm (by simp at hn; omega) h
  obtain ⟨o', e', Rl⟩ := JU hm hs (done ++ [h]) _ k' (by simpa using hn)
  refine ⟨o', ?_, by simpa using Rl⟩
  rw [aic]
  simp only [Option.bind_eq_bind, Option.bind_some, e, Option.pure_def]
  simpa using e'
theorem Rm (m : Nat) : Own m (aj2 (m + 1) none) [] := by
 have e : cj m (aj2 (m + 1) none) = [] := by
  unfold cj
  rw [List.filterMap_eq_nil_iff]
  intro a ha
  have := ady.mp ha
  simp [Array.getD, this]
 exact ⟨by simp, by rw [e]; exact .nil, fun x hx => by rw [e] at hx; cases hx⟩
theorem Rn {m : Nat} (hm : hW m) (hs : List Int) (hn : hs.length <= m) : ∃ o, aji m hs.toArray = some o /\ Own m o hs := by
 obtain ⟨o, e, k⟩ := JU hm hs [] _ (Rm m) (by simp; omega)
 refine ⟨o, ?_, k⟩
 unfold aji
 rw [<- Array.foldl_toList]
 simp only [afk, adq] at e
 exact congrArg (Option.map (·.1)) e
theorem Ro {m : Nat} (hm : hW m) (L : List (Nat × Int × β)) (d : Nat × Int × β) (hn : L.length <= m) (fin mv : Nat) (led plain : Bool) :
 ∃ t' order L', SetTable.laid m fin mv led plain (L.map (·.2.1)).toArray = some (t', order) /\ Tok t' L' /\ order.filterMap ((L.map (·.2)).toArray[·]?) = (L'.map (·.2)).toArray /\
  (L'.map (·.2)).Perm (L.map (·.2)) /\ t'.mask = m /\ t'.led = led /\ t'.plain = plain := by
 obtain ⟨o, e, k⟩ := Rn hm (L.map (·.2.1)) (by simpa using hn)
 have aT : ∀ e ∈ cj m o, e.2 < L.length := fun e he => by
  have := k.pm.mem_iff.mp (acQ.mpr ⟨e, he, rfl⟩)
  simpa using this
 have e1 : ((cj m o).map fun e => (e.1, (L.getD e.2 d).2)).map (·.1) = (cj m o).map (·.1) := by simp [aeR, ahy]
 have e2 : (((cj m o).map (·.2)).map fun i => (L.getD i d).2) = (((cj m o).map fun e => (e.1, (L.getD e.2 d).2)).map (·.2)) := by simp [aeR, ahy]
 have e3 : (adh L.length).map (fun i => (L.getD i d).2) = L.map (·.2) := by
  refine af7 (by simp) fun i h1 h2 => ?_
  have : i < L.length := by simpa using h1
  simp [List.getD, this]
 refine ⟨_, _, (cj m o).map fun e => (e.1, (L.getD e.2 d).2), by unfold SetTable.laid; rw [e]; rfl, ⟨?_, rfl, ?_, fun x hx => ?_, hm, ?_, fun x hx => ?_⟩, ?_, ?_, rfl, rfl, rfl⟩
 ·show ((cj m o).map (·.1)).toArray = _
  rw [e1]
 ·rw [e1]; exact Rf m o
 ·obtain ⟨y, hy, rfl⟩ := acQ.mp hx
  exact (By.mp (acQ.mpr ⟨y, hy, rfl⟩)).1
 ·have := k.pm.length_eq
  simp at this ⊢
  omega
 ·obtain ⟨y, hy, rfl⟩ := acQ.mp hx
  obtain ⟨h, q1, q2⟩ := k.on y hy
  rw [e1]
  have : (L.getD y.2 d).2.1 = h := by
   have hl := aT y hy
   simp [hl] at q1
   simp [List.getD, hl, q1]
  rw [this]; exact q2
 ·show ((cj m o).map (·.2)).toArray.filterMap _ = _
  rw [<- e2]
  apply akQ
  simp only [Array.toList_filterMap, aiP]
  have : ∀ l : List Nat, (∀ i ∈ l, i < L.length) -> l.filterMap (fun i => (L.map (·.2)).toArray[i]?) = l.map fun i => (L.getD i d).2 := fun l => by
   induction l with
   | nil => intro _; rfl
   | cons x l ih =>
    intro hl
    have hx := hl x adE
    rw [adA, ih fun i hi => hl i (ac5 _ hi)]
    simp [hx, List.getD]
  exact this _ fun i hi => by
   obtain ⟨y, hy, rfl⟩ := acQ.mp hi
   exact aT y hy
 ·rw [<- e2, <- e3]
  have := k.pm
  rw [acI] at this
  exact this.map _
end
end tD
namespace Gz
open PySem PySem.Spec PyProof.Rows L2
theorem JV : Manifest.owners.lookup (String.ofList ['r', 'o', 't', 'a', 'r', 'e', 't', 'i', '_', 't', 'e', 's'].reverse) = some Manifest.sig_set_iterator := by kernel_rfl
theorem oA : Slot "set_iterator" "__next__" "set_iterator.__next__" :=
 .of (owner := "set_iterator") (n := "__next__") (by rw [aj3, aio]; kernel_rfl) (by decide +kernel) (by decide +kernel) (by decide +kernel)
  (by first | exact .inl (by decide +kernel) | exact .inr (by decide +kernel)) (by rw [agD]; kernel_rfl)
theorem JW : aks table "set_iterator.__next__" = some afH.«set_iterator.__next__» := entryFor_of_tree (by kernel_rfl)
theorem JX (a : acC) : aiB "set_iterator.__next__" ⟨[a], []⟩ := by
 unfold aiB; rw [signature?_of (id := "set_iterator.__next__") (n := ['_', '_', 't', 'x', 'e', 'n', '_', '_']) (o := ['r', 'o', 't', 'a', 'r', 'e', 't', 'i', '_', 't', 'e', 's']) (by kernel_rfl) JV]; kernel_rfl
theorem Rp : aks table "set.__iter__" = some afH.«frozenset.__iter__» :=
 entryFor_alias (id' := "frozenset.__iter__") (by kernel_rfl) (by first | rfl | decide +kernel) (by decide +kernel) (by kernel_rfl)
section
variable {prog : ac2} {w : adw} {A : adD} {E : acC -> acF -> Prop} {s : acF} {d I : acJ} {ep : Nat} {t : afF}
theorem Rq {Q : Bool -> acF -> Prop} (hT : s.TypeIs (.ref d) "set") (q : Q false s) : ac0 (model prog w) A (ag3 (.ref d)) Q E s := by
 unfold ag3
 refine acA (aia hT PySem.F.slot_set_len.lookup ?_)
 generalize hid : ("set.__len__" : String) = Rr
 wp_delta
 rw [show splitId Rr = some ("set", "__len__") from by subst hid; decide +kernel]
 subst hid
 refine acA (afA (T := "set") (b := true) hT (by rw [agD]; kernel_rfl) ?_)
 refine aeI (fun cw => absurd cw (by decide)) (fun _ => ?_)
 refine aeI (fun _ => ?_) (fun cw => absurd (by decide +kernel) cw)
 refine acA (wpAny_typeOf hT ?_)
 exact acD q
end
section
variable {X : Cx}
theorem Rt : adR "set" = some (.type "set") := by decide +kernel
end
end Gz
namespace Gz
open PySem PySem.Spec PyProof.Rows L2 tD
section
variable {prog : ac2} {w : adw} {A : adD} {E : acC -> acF -> Prop} {s : acF}
noncomputable abbrev tK (prog : ac2) (w : adw) : HeapKind prog w (List Int) := agE (akl prog w)
noncomputable def bD (prog : ac2) (w : adw) (k : List Int) : Int := (tK prog w).hash k
noncomputable abbrev iX (prog : ac2) (w : adw) (m : List Int × acJ) : Int × acC := (bD prog w m.1, .ref m.2)
noncomputable def iY (prog : ac2) (w : adw) (h : aer) (S : acJ) (M : List (List Int × acJ)) (led : Bool) : Prop :=
 ∃ o ep t L, h.get? S = some o /\ o.cls = .type "set" /\ o.data = .set (L.map (·.2)).toArray ep t /\ Tok t L /\ t.led = led /\ t.plain = true /\ L.length * 5 < t.mask * 3 /\ L.map (·.2) = M.map (iX prog w)
theorem fits_of {β : Type} {t : afF} {L : List (Nat × Int × β)} (k : Tok t L) : t.fits (L.map (·.2)).toArray.size = true := by
 unfold SetTable.fits SetTable.fill
 rw [k.pl, k.du]
 have := k.rm
 simp
 omega
theorem ints_of {k : List Int} {vs : List acC} (h : aj8 (akl prog w) k vs) : ∀ v ∈ vs, ∃ n t, v = Value.int n t := by
 induction h with
 | nil => intro v hv; cases hv
 | @cons k v' ks vs h1 _ ih =>
  intro v hv
  rcases acN.mp hv with rfl | hv
  ·obtain ⟨t, e⟩ := ai6 h1
   exact ⟨k, t, e⟩
  ·exact ih v hv
theorem Ru {k : List Int} {a : acJ} {Q : Bool -> acF -> Prop} (hk : (tK prog w).is s.heap k a) (q : Q true s) : ac0 (model prog w) A (hashByValue 8 (.ref a)) Q E s := by
 obtain ⟨o, af, n, h1, h2, h3, h4⟩ := hk
 unfold hashByValue
 refine acA (aia ⟨o, h1, h2⟩ PySem.F.slot_tuple_hash.lookup ?_)
 show ac0 _ _ (afI (.ref a) >>= _) _ _ _
 refine acA (ad9 h1 h3 ?_)
 refine acA ?_
 show ac0 _ _ (forIn af _ _) _ _ s
 rw [<- ai0]
 refine agR _ (fun rest r s' => r.1 = none /\ s' = s /\ ∀ v ∈ rest, ∃ n t, v = Value.int n t) _ ?_ ?_ _ _ ⟨rfl, rfl, ints_of h4⟩
 ·rintro v rest r s' ⟨hr, rfl, hall⟩
  obtain ⟨m, tt, rfl⟩ := hall v adE
  refine acA (acD ?_)
  simp only [afd, acP, if_false]
  exact acD ⟨rfl, rfl, fun u mx => hall u (ac5 _ mx)⟩
 ·rintro ⟨r1, r2⟩ s' ⟨hr, rfl, _⟩
  simp only at hr
  subst hr
  exact acD q
theorem JY {k : List Int} {a : acJ} {Q : Bool -> acF -> Prop} (hk : (tK prog w).is s.heap k a) (q : Q false s) : ac0 (model prog w) A (ajj 8 (.ref a)) Q E s := by
 obtain ⟨o, af, n, h1, h2, h3, h4⟩ := hk
 unfold ajj
 refine acA (wpAny_typeOf (T := "tuple") ⟨o, h1, h2⟩ ?_)
 show ac0 _ _ (pure true >>= _) _ _ _
 refine acA (acD ?_)
 simp only [afd, acP, if_false]
 refine acA (ad9 h1 h3 ?_)
 dsimp only
 refine acA ?_
 show ac0 _ _ (forIn af _ _) _ _ s
 rw [<- ai0]
 refine agR _ (fun rest r s' => r.1 = none /\ s' = s /\ ∀ v ∈ rest, ∃ n t, v = Value.int n t) _ ?_ ?_ _ _ ⟨rfl, rfl, ints_of h4⟩
 ·rintro v rest r s' ⟨hr, rfl, hall⟩
  obtain ⟨m, tt, rfl⟩ := hall v adE
  refine acA (acD ?_)
  simp only [acP, if_false]
  exact acD ⟨rfl, rfl, fun u mx => hall u (ac5 _ mx)⟩
 ·rintro ⟨r1, r2⟩ s' ⟨hr, rfl, _⟩
  simp only at hr
  subst hr
  exact acD q
theorem Rv {k : List Int} {a : acJ} {ys : List acC} {Q : Bool -> acF -> Prop} (hk : (tK prog w).is s.heap k a) (hy : ∀ y ∈ ys, ∃ k' b, y = .ref b /\ (tK prog w).is s.heap k' b) (q : Q false s) :
 ac0 (model prog w) A (ahz (.ref a) ys) Q E s := by
 unfold ahz
 refine acA ?_
 refine agR _ (fun rest r s' => r.1 = none /\ s' = s /\ ∀ y ∈ rest, ∃ k' b, y = .ref b /\ (tK prog w).is s.heap k' b) _ ?_ ?_ _ _ ⟨rfl, rfl, hy⟩
 ·rintro v rest r s' ⟨hr, rfl, hall⟩
  obtain ⟨k', b, rfl, hb⟩ := hall v adE
  have fin : ∀ u ∈ rest, ∃ k' b, u = .ref b /\ (tK prog w).is s'.heap k' b := fun u mx => hall u (ac5 _ mx)
  refine aeI (fun _ => acD ⟨rfl, rfl, fin⟩) (fun _ => ?_)
  refine acA ((tK prog w).quiet hk ?_)
  simp only [afd, acP, if_false]
  refine acA ((tK prog w).quiet hb ?_)
  simp only [afd, acP, if_false]
  refine acA (JY hk ?_)
  simp only [acP, if_false]
  refine acA (JY hb ?_)
  simp only [acP, if_false]
  exact acD ⟨rfl, rfl, fin⟩
 ·rintro ⟨r1, r2⟩ s' ⟨hr, rfl, _⟩
  simp only at hr
  subst hr
  exact acD q
theorem Rw {S a : acJ} {k : List Int} {M : List (List Int × acJ)} {Q : SetFound -> acF -> Prop} (hu : A.units < age) {o : Obj} {ep : Nat} {t : afF} {L : List (Nat × Int × acC)}
 (g1 : s.heap.get? S = some o) (g3 : o.data = .set (L.map (·.2)).toArray ep t) (tk : Tok t L) (g7 : L.map (·.2) = M.map (iX prog w)) (hM : ∀ m ∈ M, (tK prog w).is s.heap m.1 m.2) (hk : (tK prog w).is s.heap k a)
 (jP : ∀ m ∈ M, bD prog w m.1 = bD prog w k -> m.1 = k) (c8 : (M.map (·.1)).Nodup)
 (h0 : k ∈ M.map (·.1) -> Q (.there none) s)
 (h1 : k ∉ M.map (·.1) -> ∀ j, j ∉ L.map (·.1) -> j <= t.mask -> iW t.mask (bD prog w k) (L.map (·.1)) j -> Q (.free j false) s) :
 ac0 (model prog w) A (setSearch S (.ref a) (bD prog w k) (adding := true)) Q E s := by
 have gw : t.gaveWay = false := by
  unfold SetTable.gaveWay
  rcases tk.om with e | e | e <;> rw [e] <;> rfl
 have hf : ∀ (i : Nat) (e : Nat × Int × acC), L[i]? = some e -> ((((L.map (·.2)).toArray[i]?).map (·.1)).getD 0) = e.2.1 := fun i e he => by simp [he]
 have hlen : L.length = M.length := by have := congrArg List.length g7; simpa using this
 unfold setSearch setSearchFrom
 refine acA (aeD g1 g3 (fits_of tk) ?_)
 simp only [gw, acP, if_false, Option.getD_none]
 generalize hF : t.probe _ (bD prog w k) (t.probeStart (bD prog w k)) = pr
 by_cases cD : k ∈ M.map (·.1)
 ·obtain ⟨m, hm, rfl⟩ := acQ.mp cD
  obtain ⟨i, hi, hie⟩ := adQ hm
  have JZ : i < L.length := by omega
  have e2 : L[i].2 = iX prog w m := by
   have := congrArg (·[i]?) g7
   simp [hi, JZ, hie] at this
   exact this
  obtain ⟨j, i', nx, p1, p2⟩ := tk.hit hf (e := L[i]) (adZ JZ) (fun e' jL hh => by
   obtain ⟨i2, my, rfl⟩ := adQ jL
   have mz : i2 < M.length := by omega
   have e3 : L[i2].2 = iX prog w M[i2] := by
    have := congrArg (·[i2]?) g7
    simp [my, mz] at this
    exact this
   rw [e2, e3] at hh
   have BA := jP _ (adZ mz) hh
   have : i2 = i := by
    refine (ahN (h₀ := by simpa using mz) (h₁ := by simpa using hi) c8).mp ?_
    simp [BA, hie]
   subst this; rfl)
  rw [e2] at p1
  have BB : pr = some (.candidate j i' nx) := hF.symm.trans p1
  subst BB
  have e4 : (L.map (·.2)).toArray[i']? = some (iX prog w m) := by simp [p2, e2]
  dsimp only
  have fin : ∀ y ∈ ((L.map (·.2)).toArray.filter (fun x => x.fst == bD prog w m.1)).toList.map (fun x => x.snd), ∃ k' b, y = .ref b /\ (tK prog w).is s.heap k' b := fun y hy => by
   obtain ⟨e, he, rfl⟩ := acQ.mp hy
   have jL : e ∈ L.map (·.2) := by
    have := aiv.mp he
    have := (Array.mem_filter.mp this).1
    simpa using this
   rw [g7] at jL
   obtain ⟨m', eU, rfl⟩ := acQ.mp jL
   exact ⟨m'.1, m'.2, rfl, hM m' eU⟩
  have jp : ∀ (f : Sem SetFound) , (ac0 (model prog w) A f Q E s) -> ac0 (model prog w) A (if (!t.led) = true then do
   let r <- ahz (ac3 a) (((L.map (·.2)).toArray.filter (fun x => x.fst == bD prog w m.1)).toList.map (fun x => x.snd))
   if r = true then do
    let _ <- (unsupported "set:the-search-would-show-the-table" : Sem PUnit)
    f
   else f
   else f) Q E s := fun f hf => by
   refine aeI (fun _ => acA (Rv hk fin ?_)) (fun _ => hf)
   simp only [acP, if_false]
   exact hf
  refine jp _ ?_
  simp only [e4]
  refine acA (adK ((tK prog w).eqBool hu (hM m hm) hk ?_))
  refine acA (aeD g1 g3 (fits_of tk) ?_)
  simp only [decide_true, aiY, if_true]
  exact acD (h0 cD)
 ·obtain ⟨j, p1, p2, p3, p4⟩ := tk.miss hf (h := bD prog w k) (fun e' jL hh => by
   obtain ⟨i2, my, rfl⟩ := adQ jL
   have mz : i2 < M.length := by omega
   have e3 : L[i2].2 = iX prog w M[i2] := by
    have := congrArg (·[i2]?) g7
    simp [my, mz] at this
    exact this
   rw [e3] at hh
   exact cD (acQ.mpr ⟨_, adZ mz, jP _ (adZ mz) hh⟩))
  have BB : pr = some (.empty j none) := hF.symm.trans p1
  subst BB
  exact acD (h1 cD j p2 p3 p4)
theorem J0 {h : aer} {S : acJ} {o : Obj} {es es' : Array (Int × acC)} {ep : Nat} {t t' : afF} (g1 : h.get? S = some o) (g3 : o.data = .set es ep t) :
 (h.update S (akg es' t')).get? S = some { o with data := .set es' (ep + 1) t' } := by
 have := adB (akg es' t') g1 (by rw [putSet_of es' t' g3]; rfl)
 rw [putSet_of es' t' g3] at this
 exact this
theorem Rx {n m : Nat} (hm : hW m) (hn : n < 77) (h1 : (n - 1) * 5 < m * 3) (h2 : n * 5 ≥ m * 3) : ∃ m', ai1 (aiD n) - 1 = m' /\ hW m' /\ n <= m' /\ n * 5 < m' * 3 := by
 rcases hm with rfl | rfl | rfl
 ·obtain rfl : n = 5 := by omega
  exact ⟨31, by decide, .inr (.inl rfl), by omega, by omega⟩
 ·obtain rfl : n = 19 := by omega
  exact ⟨127, by decide, .inr (.inr rfl), by omega, by omega⟩
 ·omega
theorem BC {α β : Type} {f : α -> β} : ∀ {xs : List α} {l : List β}, l.Perm (xs.map f) -> ∃ ys : List α, l = ys.map f /\ ys.Perm xs := by
 intro xs l h
 generalize hz : xs.map f = z at h
 induction h generalizing xs with
 | nil => exact ⟨[], rfl, by cases xs with | nil => exact .nil | cons => cases hz⟩
 | @cons a l1 l2 p ih =>
  cases xs with
  | nil => cases hz
  | cons x xs =>
   obtain ⟨e1, e2⟩ := List.cons.inj hz
   obtain ⟨ys, rfl, q⟩ := ih e2
   exact ⟨x :: ys, by rw [<- e1]; rfl, q.cons x⟩
 | swap a b l =>
  cases xs with
  | nil => cases hz
  | cons x xs =>
   cases xs with
   | nil => simp at hz
   | cons y xs =>
    simp only [ac7, List.cons.injEq] at hz
    obtain ⟨e1, e2, e3⟩ := hz
    exact ⟨y :: x :: xs, by simp [e1, e2, e3], .swap x y xs⟩
 | trans p q Ry Rz =>
  obtain ⟨ys, e, r⟩ := Rz hz
  obtain ⟨zs, e', r'⟩ := Ry e.symm
  exact ⟨zs, e', r'.trans r⟩
theorem RA {S a : acJ} {k : List Int} {M : List (List Int × acJ)} {led : Bool} {Q : Bool -> acF -> Prop} (hu : A.units < age) (hS : iY prog w s.heap S M led) (hM : ∀ m ∈ M, (tK prog w).is s.heap m.1 m.2) (hk : (tK prog w).is s.heap k a)
 (jP : ∀ m ∈ M, bD prog w m.1 = bD prog w k -> m.1 = k) (c8 : (M.map (·.1)).Nodup) (hlen : M.length < 63)
 (h0 : k ∈ M.map (·.1) -> Q false s)
 (h1 : k ∉ M.map (·.1) -> ∀ h' M', Heap.SameBut S s.heap h' -> iY prog w h' S M' led -> M'.Perm ((k, a) :: M) -> Q true { s with heap := h' }) :
 ac0 (model prog w) A (setAddHashed S (.ref a) (bD prog w k)) Q E s := by
 obtain ⟨o, ep, t, L, g1, g2, g3, tk, g4, g5, g6, g7⟩ := hS
 have hlM : L.length = M.length := by have := congrArg List.length g7; simpa using this
 unfold setAddHashed setAddHashedIn
 refine adK (acA (aeD g1 g3 (fits_of tk) ?_))
 dsimp only
 rw [show byScan (.ref a) (L.map (·.2)).toArray = false from rfl]
 simp only [acP, if_false]
 refine acA (Rw hu g1 g3 tk g7 hM hk jP c8 (fun cD => acD (h0 cD)) fun cD j j1 j2 j3 => ?_)
 dsimp only
 refine acA (aeD g1 g3 (fits_of tk) ?_)
 obtain ⟨t', p, p1, p2, p3, p4, p5, p6, p7⟩ := tk.put (x := ac3 a) j1 j2 j3 (by omega)
 simp only [p1, p6, g5, if_true]
 have wV := tE (L := L) p (j, bD prog w k, ac3 a)
 refine acA (Ru hk ?_)
 simp only [if_true]
 rw [p3]
 have hsz : ((c7 L p (j, bD prog w k, ac3 a)).map (·.2)).toArray.size <= adb := by
  have := wV.length_eq
  simp at this ⊢
  rw [this]
  exact acV (show _ <= 64 by omega) (by decide)
 refine acA (ajk g1 g3 ?_ hsz)
 have gS := J0 (es' := ((c7 L p (j, bD prog w k, ac3 a)).map (·.2)).toArray) (t' := t') g1 g3
 have J1 := aeC s.heap S (akg ((c7 L p (j, bD prog w k, ac3 a)).map (·.2)).toArray t')
 have cn : ((c7 L p (j, bD prog w k, ac3 a)).map (·.2)).Perm (((k, a) :: M).map (iX prog w)) := by
  refine (wV.map (·.2)).trans ?_
  simp only [ac7, g7]
  exact .refl _
 have RB : t'.tooFull = decide ((L.length + 1) * 5 ≥ t.mask * 3) := by unfold SetTable.tooFull; rw [p7, p4]
 rw [RB]
 by_cases hfull : (L.length + 1) * 5 ≥ t.mask * 3
 ·simp only [hfull, decide_true, aiE, aiY, if_true]
  refine acA ?_
  unfold setRelay
  refine acA (aeD gS rfl (fits_of p2) ?_)
  dsimp only
  obtain ⟨m', q1, q2, q3, q4⟩ := Rx (n := L.length + 1) (m := t.mask) tk.om (by omega) (by simpa using g6) hfull
  rw [show (L.map (·.2)).toArray.size + 1 = L.length + 1 from by simp]
  have hq : ai1 (aiD (L.length + 1)) <= 128 := by rcases q2 with rfl | rfl | rfl <;> omega
  rw [if_neg (Nat.not_lt.mpr (acV hq (by decide)))]
  have RC : (c7 L p (j, bD prog w k, ac3 a)).length = L.length + 1 := by simpa using wV.length_eq
  obtain ⟨t2, order, L2, r1, r2, r3, r4, r5, r6, r7⟩ := Ro q2 (c7 L p (j, bD prog w k, ac3 a)) (j, bD prog w k, ac3 a) (by omega) t'.finger (t'.movedTo m') t'.led t'.plain
  have RD : t'.relaid (Array.map (fun x => x.fst) (akv (fun x => x.snd) (c7 L p (j, bD prog w k, ac3 a))).toArray) (aiD (L.length + 1)) = some (t2, order) := by
   unfold SetTable.relaid
   rw [q1, <- r1]
   congr 1
   simp
  rw [RD]
  have cB : L2.length = L.length + 1 := by have := r4.length_eq; simp only [acI] at this; omega
  refine acA ?_
  show ac0 _ _ (if ((order.filterMap (fun i => (akv (fun x => x.snd) (c7 L p (j, bD prog w k, ac3 a))).toArray[i]?)).size != (akv (fun x => x.snd) (c7 L p (j, bD prog w k, ac3 a))).toArray.size) = true then _ else pure (order.filterMap (fun i => (akv (fun x => x.snd) (c7 L p (j, bD prog w k, ac3 a))).toArray[i]?), t2)) _ _ _
  rw [r3]
  rw [if_neg (by simp [cB, RC])]
  refine acD ?_
  refine ajk gS rfl ?_ (by simp only [ac4, acI]; rw [cB]; exact acV (show _ <= 64 by omega) (by decide))
  have RE := J0 (es' := (L2.map (·.2)).toArray) (t' := t2) gS rfl
  obtain ⟨M', e1, e2⟩ := BC (r4.trans cn)
  refine acD (h1 cD _ M' (J1.trans (aeC _ S _)) ⟨_, _, t2, L2, RE, g2, rfl, r2, r6.trans (p5.trans g4), r7.trans (p6.trans g5), ?_, e1⟩ e2)
  rw [cB, r5]
  exact q4
 ·simp only [hfull, decide_false, Bool.and_false, acP, if_false]
  obtain ⟨M', e1, e2⟩ := BC cn
  refine acD (h1 cD _ M' J1 ⟨_, _, t', _, gS, g2, rfl, p2, p5.trans g4, p6.trans g5, ?_, e1⟩ e2)
  rw [wV.length_eq, p4]
  simp
  omega
end
end Gz
namespace Gz
open PySem PySem.Spec PyProof.Rows L2 tD
noncomputable def tF (key : Nat -> List Int) (ad : Nat -> acJ) (i : Nat) (M : List (List Int × acJ)) : Prop :=
 (M.map (·.1)).Nodup /\ (∀ m ∈ M, ∃ j, j < i /\ m = (key j, ad j)) /\ (∀ j, j < i -> key j ∈ M.map (·.1)) /\ M.length <= i
noncomputable def mB (w : adw) : Bool := !(w.params.followText "set-order")
theorem BD {prog : ac2} {w : adw} {h h' : aer} {k : List Int} {a : acJ} (x : (tK prog w).is h k a) (e : ∀ o, h.get? a = some o -> h'.get? a = some o) : (tK prog w).is h' k a := by
 obtain ⟨o, af, n, h1, h2, h3, h4⟩ := x
 exact ⟨o, af, n, e o h1, h2, h3, h4⟩
section
variable {prog : ac2} {w : adw} {A : adD} {R : ahp -> acF -> Prop} {I : acJ} {fp wr : List acJ} {G : Array akm -> Array akm -> Prop} {n : Nat} {P : Nat -> acC -> Prop} {St : Nat -> acF -> Prop}
theorem RF (W : WalksS prog w A.in1 I fp wr G n P St) (S : acJ) (gY : S ∉ fp) {key : Nat -> List Int} {ad : Nat -> acJ} {led : Bool} (RG : ∀ i v, P i v -> v = .ref (ad i)) (hu : A.in1.units < age)
 (J5 : ∀ i, i < n -> ad i ∉ S :: wr) (jP : ∀ i j, i < n -> j < n -> bD prog w (key i) = bD prog w (key j) -> key i = key j) (hn : n <= 63) :
 ∀ (k i : Nat) (s : acF) (M : List (List Int × acJ)), n - i = k -> i <= n -> St i s -> (∀ j, j < n -> (tK prog w).is s.heap (key j) (ad j)) -> iY prog w s.heap S M led -> tF key ad i M ->
  (∀ s' M', Moved (S :: wr) G s s' -> iY prog w s'.heap S M' led -> tF key ad n M' -> R (.ok (.ret .none)) s') ->
  afi (model prog w) A (.builtin "set.update.loop" ⟨[.ref S, .ref I], []⟩) R s := by
 have J6 : S ∉ wr := fun h => gY (W.sub _ h)
 have h9 : ∀ b ∈ wr, b ∈ S :: wr := fun b hb => ac5 _ hb
 intro k
 induction k with
 | zero =>
  intro i s M hk hi eL tG hS hM hR
  have cD : i = n := by omega
  subst cD
  refine ads af2 ?_
  rw [ada aeS _]
  show ac0 _ A.in1 (afW (.ref I) >>= _) _ _ s
  refine acA (W.done s _ _ eL fun s' hm => ?_)
  show ac0 _ A.in1 (ret Value.none) _ _ s'
  exact acD (hR s' M (hm.mono h9) (by
   obtain ⟨o, ep, t, L, ho, rest⟩ := hS
   exact ⟨o, ep, t, L, hm.heap S _ J6 ho, rest⟩) hM)
 | succ k ih =>
  intro i s M hk hi eL tG hS hM hR
  have aT : i < n := by omega
  refine ads af2 ?_
  rw [ada aeS _]
  show ac0 _ A.in1 (afW (.ref I) >>= _) _ _ s
  refine acA (W.item i s _ _ aT eL fun v s' hP RH hm => ?_)
  obtain rfl := RG i v hP
  have oB : iY prog w s'.heap S M led := by
   obtain ⟨o, ep, t, L, ho, rest⟩ := hS
   exact ⟨o, ep, t, L, hm.heap S _ J6 ho, rest⟩
  have wW : ∀ j, j < n -> (tK prog w).is s'.heap (key j) (ad j) := fun j hj => BD (tG j hj) fun o e => hm.heap _ o (fun hb => J5 j hj (h9 _ hb)) e
  show ac0 _ A.in1 (holding [ac3 (ad i)] (setAdd S (.ref (ad i))) >>= _) _ _ s'
  refine acA (adK ?_)
  unfold setAdd
  refine adK ?_
  refine acA ((tK prog w).pyHash (k := key i) hu (wW i aT) ?_)
  have go : ∀ (tk : Nat) (h' : aer) (M' : List (List Int × acJ)) (b : Bool), s'.toks <= tk -> Heap.SameBut S s'.heap h' -> iY prog w h' S M' led -> tF key ad (i + 1) M' ->
   ac0 (model prog w) A.in1 (again (.builtin "set.update.loop" ⟨[.ref S, .ref I], []⟩)) (fun fin s' => match fin with | .done f => R (.ok f) s' | .again c' => c'.quiet = true /\ afi (model prog w) A c' R s') (fun e s' => R (.error e) s') { s' with heap := h', toks := tk } := by
   intro tk h' M' b rB dg BE RI
   refine acD ⟨adT aeS _, ih (i + 1) _ M' (by omega) aT (W.frame _ s' _ _ RH rB fun b hb o e => ?_) (fun j hj => BD (wW j hj) fun o e => ?_) BE RI fun rG RJ RK RL RM => ?_⟩
   ·rw [dg.2 b (fun h : b = S => gY (by rw [<- h]; exact hb))]; exact e
   ·show h'.get? _ = _
    rw [dg.2 _ (fun h : ad j = S => J5 j hj (by rw [h]; exact adE))]; exact e
   ·refine hR rG RJ (Moved.trans W.gtrans ((hm.mono h9).then_heap rB fun b o hb e => ?_) RK) RL RM
    rw [dg.2 b (fun h : b = S => hb (by rw [h]; exact adE))]; exact e
  refine RA (s := { s' with toks := s'.toks + (tK prog w).draws (key i) }) (M := M) hu oB (fun m hm => ?_) (wW i aT) (fun m hm he => ?_) hM.1 (by have := hM.2.2.2; omega) (fun cD => ?_) (fun cD h' M' dg BE cn => ?_)
  ·obtain ⟨j, hj, rfl⟩ := hM.2.1 m hm
   exact wW j (by omega)
  ·obtain ⟨j, hj, rfl⟩ := hM.2.1 m hm
   exact jP j i (by omega) aT he
  ·refine go _ s'.heap M false (ahQ _ _) (Heap.SameBut.refl S s'.heap) oB ⟨hM.1, fun m hm => ?_, fun j hj => ?_, by have := hM.2.2.2; omega⟩
   ·obtain ⟨j, hj, e⟩ := hM.2.1 m hm
    exact ⟨j, by omega, e⟩
   ·by_cases e : j = i
    ·rw [e]; exact cD
    ·exact hM.2.2.1 j (by omega)
  ·refine go _ h' M' true (ahQ _ _) dg BE ⟨((cn.map (·.1)).nodup_iff).mpr (adP.mpr ⟨cD, hM.1⟩), fun m hm => ?_, fun j hj => ?_, by have := cn.length_eq; have := hM.2.2.2; simp at *; omega⟩
   ·rcases acN.mp (cn.mem_iff.mp hm) with rfl | hm
    ·exact ⟨i, by omega, rfl⟩
    ·obtain ⟨j, hj, e⟩ := hM.2.1 m hm
     exact ⟨j, by omega, e⟩
   ·refine ((cn.map (·.1)).mem_iff).mpr ?_
    by_cases e : j = i
    ·rw [e]; exact adE
    ·exact ac5 _ (hM.2.2.1 j (by omega))
end
section
variable {prog : ac2} {w : adw} {A : adD} {E : acC -> acF -> Prop} {s : acF}
noncomputable abbrev gA (w : adw) : Obj := { cls := .type "set", dict := none, data := .set #[] 0 (.fresh 0 0 (mB w)) }
theorem RN (a : acC) {Q₁ : acC -> acF -> Prop} (h : Q₁ (.ref s.heap.objs.size) { s with heap := s.heap.push (gA w) }) :
 afi (model prog w) A (.call (.builtin "set.__new__") ⟨[.type "set", a], []⟩) (wants Q₁ E) s := by
 refine aj4 (show ac0 _ A.in1 (do ajw "set.__new__" ⟨[.type "set", a], []⟩; again (.builtin "set.__new__" ⟨[.type "set", a], []⟩)) _ _ s from ?_)
 refine acA (agZ (PySem.F.newCall_set_1 a) (acD ⟨adT aip _, ads PySem.F.entry_set_new ?_⟩)); rw [ada aip _]
 unfold afH.«set.__new__» Builtin.Frozenset.newClass; have h9 := PySem.sub_set_self
 obtain ⟨hp, g, d, tk, os⟩ := s
 dsimp only; wp_walk
 refine af8 (acD ?_); dsimp only; simp only [newObj]
 exact acA (wpAny_alloc (acD (acD h)))
theorem RO (prog : ac2) {h : aer} {S : acJ} (e : h.get? S = some (gA w)) : iY prog w h S [] (mB w) :=
 ⟨_, 0, _, ([] : List (Nat × Int × acC)), e, rfl, rfl, ⟨rfl, rfl, List.Pairwise.nil, (fun _ hx => nomatch hx), adi rfl, adf _, (fun _ hx => nomatch hx)⟩, rfl, rfl, (show 0 * 5 < 7 * 3 by decide), rfl⟩
theorem RP {l : acJ} {items : Array acC} {Q : acC -> acF -> Prop} {key : Nat -> List Int} {ad : Nat -> acJ} (hh : A.handled = none) (hl : s.heap.IsList l items) (hu : A.units + 64 < age) (hn : items.size <= 63)
 (hit : ∀ (i : Nat) (v : acC), items[i]? = some v -> v = .ref (ad i)) (tG : ∀ j, j < items.size -> (tK prog w).is s.heap (key j) (ad j)) (jP : ∀ i j, i < items.size -> j < items.size -> bD prog w (key i) = bD prog w (key j) -> key i = key j)
 (h : ∀ (h' : aer) (tk : Nat) (M : List (List Int × acJ)), iY prog w h' s.heap.objs.size M (mB w) -> tF key ad items.size M -> (∀ b o, b < s.heap.objs.size -> s.heap.get? b = some o -> h'.get? b = some o) -> Q (.ref s.heap.objs.size) { s with heap := h', toks := tk }) :
 ac0 (model prog w) A (call (.type "set") [.ref l]) Q E s := by
 obtain ⟨c, tl, hmro⟩ := PySem.F.called_set.mro; have acu := PySem.F.called_set.made; have h9 := PySem.F.called_set.sub
 refine ahq (aj4 (show ac0 _ _ (callAny (.type "set") _) _ _ _ from acD ⟨Code.quiet_builtin _ (by decide +kernel), ads PySem.F.entry_type_call ?_⟩))
 rw [Around.under_plain (weight_type_call_type "set" [.ref l] []) rfl]; have h1 := PySem.F.called_set.notType; have h2 := PySem.F.called_set.canCreate
 have hct := PySem.F.typeCall_set_1 (.ref l); repeat (any_goals (first | assumption | wp_step))
 refine agG (RN (.ref l) (E := E) (Q₁ := fun obj s₁ => obj = .ref s.heap.objs.size /\ s₁ = { s with heap := s.heap.push (gA w) }) ⟨rfl, rfl⟩) fun r s₁ hr => ?_
 cases r with
 | error e => exact hr
 | ok fl =>
  cases fl with
  | ret obj =>
   obtain ⟨rfl, rfl⟩ := hr
   have gS : (s.heap.push (gA w)).get? s.heap.objs.size = some (gA w) := acT _ rfl
   have hT : Shared.TypeIs { s with heap := s.heap.push (gA w) } (.ref s.heap.objs.size) "set" := ⟨_, gS, rfl⟩
   have hli := PySem.F.called_set.init.lookup; have hbi := PySem.F.called_set.init.bind (.ref s.heap.objs.size)
   repeat (any_goals (first | assumption | wp_step))
   refine agG (afS (R := wants (fun r s₂ => r = .none /\ ∃ h' tk M, s₂ = { s with heap := h', toks := tk } /\ iY prog w h' s.heap.objs.size M (mB w) /\ tF key ad items.size M /\
    (∀ b o, b < s.heap.objs.size -> s.heap.get? b = some o -> h'.get? b = some o)) E) PySem.F.called_set.init.plain PySem.F.entry_set_init (check_set_init_1 hT ?_)) fun r₂ s₂ BF => ?_
   ·have RQ : ∀ j, j < items.size -> ad j < s.heap.objs.size := fun j hj => let ⟨o, _, _, e, _⟩ := tG j hj; acK e
    have lt : l < s.heap.objs.size := let ⟨_, e, _⟩ := hl; acK e
    obtain ⟨ol, hol, cN, nl, hdl⟩ := id hl
    obtain ⟨ocls, odict, odata, oslots⟩ := ol
    obtain rfl : ocls = .type "list" := cN
    obtain rfl : odata = .seq items nl := hdl
    have RS : (s.heap.push (gA w)).get? l = some { cls := .type "list", dict := odict, data := .seq items nl, slots := oslots } := acE _ hol
    have acv := PySem.F.sub_list_set; have acw := PySem.F.sub_list_frozenset; have eS : (agq "list" == agq "dict") = false := by decide
    have wX : (s.heap.push (gA w)).IsList l items := ⟨_, RS, rfl, nl, rfl⟩
    unfold afH.«set.__init__» noKeywords Builtin.Frozenset.updateFrom
    generalize RT : aky = PI; wp_walk; subst RT
    refine agr wX (acA (wpAny_runValue ?_))
    have RU : A.in1.in1.in1.handled = none := by simp [hh]
    have wY : (s.heap.push (gA w)).objs.size = s.heap.objs.size + 1 := aeE _ _
    have lI : l ≠ (s.heap.push (gA w)).objs.size := by rw [wY]; exact ade (agz lt)
    have SI : s.heap.objs.size ∉ [(s.heap.push (gA w)).objs.size, l] := by
     rw [wY]; simp only [acN, aeL, or_false, not_or]
     exact ⟨ade (af6 _), ag9 lt⟩
    refine RF ((Walks.list RU _ l lI items).toS) s.heap.objs.size SI (key := key) (ad := ad) (led := mB w) hit ?_ (fun i hi => ?_) jP hn (items.size - 0) 0 _ [] (by omega) (adf _)
     ⟨⟨_, acT _ rfl, rfl, rfl⟩, (wX.push _)⟩ (fun j hj => BD (tG j hj) fun o e => acE _ (acE _ e)) (RO prog (acE _ gS))
     ⟨agC, fun _ hx => (by cases hx), fun j hj => (by omega), adf _⟩ fun s' M hm oB hM => ?_
    ·exact adX (show A.units + 1 + 1 + 1 <= A.units + 64 by omega) hu
    ·have := RQ i hi
     rw [wY]
     simp only [acN, aeL, or_false, not_or]
     exact ⟨ade this, ade (agz this)⟩
    ·obtain ⟨h', g', d', BG, nJ⟩ := s'
     obtain rfl : g' = s.gens := hm.gens
     obtain rfl : d' = s.drawn := hm.drawn
     obtain rfl : nJ = s.os := hm.os
     show ac0 _ _ _ _ _ _
     refine acD (show ac0 _ _ (ret Value.none) _ _ _ from acD ⟨rfl, h', BG, M, rfl, oB, hM, fun b o hb e => ?_⟩)
     refine hm.heap b o ?_ (acE _ (acE _ e))
     simp only [acN, aeL, or_false, not_or, wY]
     exact ⟨ade hb, ade (agz hb)⟩
   ·cases r₂ with
    | error e => exact BF
    | ok RV =>
     cases RV with
     | ret r =>
      obtain ⟨rfl, h', tk, M, rfl, oB, hM, gh⟩ := BF
      repeat (any_goals (first | assumption | wp_step))
      exact h _ _ M oB hM gh
     | _ => exact BF.elim
  | _ => exact hr.elim
end
end Gz
namespace Gz
open PySem PySem.Spec PyProof.Rows L2 tD
theorem J9 : Slot "set_iterator" "__iter__" "set_iterator.__iter__" :=
 .of (owner := "set_iterator") (n := "__iter__") (by rw [aj3, aio]; kernel_rfl) (by decide +kernel) (by decide +kernel) (by decide +kernel)
  (by first | exact .inl (by decide +kernel) | exact .inr (by decide +kernel)) (by rw [agD]; kernel_rfl)
theorem RW : aks table "set_iterator.__iter__" = some afH.«dict_keyiterator.__iter__» :=
 entryFor_alias (id' := "dict_keyiterator.__iter__") (by kernel_rfl) (by first | rfl | decide +kernel) (by decide +kernel) (by kernel_rfl)
theorem RX (a : acC) : aiB "set_iterator.__iter__" ⟨[a], []⟩ := by
 unfold aiB; rw [signature?_of (id := "set_iterator.__iter__") (n := ['_', '_', 'r', 'e', 't', 'i', '_', '_']) (o := ['r', 'o', 't', 'a', 'r', 'e', 't', 'i', '_', 't', 'e', 's']) (by kernel_rfl) JV]; kernel_rfl
theorem Ka {α : Type} (f : Nat -> Nat) : ∀ (n k : Nat) (left : List α) (out : Array α), left.length = n -> (pickOrder.go f n k left out).toList.Perm (out.toList ++ left)
 | 0, k, left, out, h => by
  obtain rfl : left = [] := aeO.mp h
  unfold pickOrder.go; simp
 | n + 1, k, left, out, h => by
  have hl : f k % left.length < left.length := agU _ (by omega)
  unfold pickOrder.go
  rw [acG hl]
  refine (Ka f n (k + 1) _ _ (by rw [List.length_eraseIdx_of_lt hl]; omega)).trans ?_
  rw [Array.toList_push, aeT]
  refine List.Perm.append_left _ ?_
  have := ajH (a := left[f k % left.length]) (l₁ := left.take (f k % left.length)) (l₂ := left.drop (f k % left.length + 1))
  rw [List.eraseIdx_eq_take_drop_succ]
  refine .trans ?_ (.of_eq (afc (f k % left.length) left))
  rw [afe hl]
  exact this.symm
theorem RY {α : Type} (f : Nat -> Nat) (xs : Array α) : (akG f xs).toList.Perm xs.toList := by
 unfold akG
 simpa using Ka f xs.size 0 xs.toList #[] (by simp)
section
variable {prog : ac2} {w : adw} {A : adD} {E : acC -> acF -> Prop} {s : acF} {S I : acJ} {o : Obj} {ep : Nat} {t : afF} {L : List (Nat × Int × acC)}
noncomputable def gB (w : adw) (S : acJ) (ep : Nat) (es : Array (Int × acC)) : Array (Int × acC) := if w.params.followText "set-order" then akG (w.params.setOrder S ep) es else es
theorem BH (w : adw) (S : acJ) (ep : Nat) (es : Array (Int × acC)) : (gB w S ep es).toList.Perm es.toList := by
 unfold gB
 split
 ·exact RY _ _
 ·exact .refl _
structure oE (w : adw) (S : acJ) (o : Obj) (ep : Nat) (t : afF) (L : List (Nat × Int × acC)) : Prop where
 cls : o.cls = .type "set"
 dat : o.data = .set (L.map (·.2)).toArray ep t
 tok : Tok t L
 led : t.led = mB w
 pln : t.plain = true
theorem RZ {Q : Bool -> acF -> Prop} (x : oE w S o ep t L) (h : s.heap.get? S = some o) (q : Q false s) : ac0 (model prog w) A (setDrawn S) Q E s := by
 unfold setDrawn akh
 refine acA (aeD h x.dat (fits_of x.tok) ?_)
 dsimp only
 refine acA (acA (af8 (acD (acD ?_))))
 refine cast (congrArg (fun b => Q b s) ?_) q
 symm
 rw [Bool.and_eq_false_iff]
 right
 show (!t.plain && _) = false
 rw [x.pln]; rfl
noncomputable abbrev BI (S : acJ) (n ep : Nat) (sl i : Int) : Obj := { cls := .type "set_iterator", data := .fields #[agF sl, agF i, .ref S, agF n, agF ep] }
theorem R0 {Q : acC -> acF -> Prop} (x : oE w S o ep t L) (h : s.heap.get? S = some o) (hQ : Q (.ref s.heap.objs.size) { s with heap := s.heap.push (BI S L.length ep 0 0) }) : ac0 (model prog w) A (aky (.ref S)) Q E s := by
 have hT : s.TypeIs (.ref S) "set" := ⟨o, h, x.cls⟩
 refine ahw hT aj5 (aek aj5 hT Rp ?_ (F.args_set_iter_1 _))
 unfold afH.«frozenset.__iter__»
 refine acA (m := Builtin.Frozenset.slot0 _ _) (acD ?_)
 refine acA (m := Builtin.Frozenset.sizeOf _) (acA (ag4 h x.dat (fits_of x.tok) (acD ?_)))
 refine acA (RZ x h ?_)
 simp only [acP, if_false]
 refine acA (acD ?_)
 refine acA (wpAny_setEpoch_of h x.dat (fits_of x.tok) ?_)
 refine acA (adN (acD ⟨_, rfl, "set_iterator", _, ⟨_, acT _ rfl, rfl⟩, oA.lookup, ?_⟩))
 refine cast (congrArg (fun b => Q _ { s with heap := s.heap.push b }) ?_) hQ
 simp [BI]
theorem Kb {sl i : Nat} {Q : Option (acC × Nat) -> acF -> Prop} (x : oE w S o ep t L) (h : s.heap.get? S = some o) (hb : w.params.followText "set-order" = false -> SetTable.below t.place sl = i)
 (q : ∀ dc, (w.params.followText "set-order" = false -> i < L.length -> SetTable.below t.place dc = i + 1) -> Q (((gB w S ep (L.map (·.2)).toArray)[i]?).map fun e => (e.2, dc)) s) : ac0 (model prog w) A (akN S sl i ep) Q E s := by
 unfold akN akh
 refine acA (aeD h x.dat (fits_of x.tok) ?_)
 dsimp only
 refine acA (acA (af8 (acD ?_)))
 unfold gB at q
 cases hf : w.params.followText "set-order" with
 | true =>
  simp only [hf, if_true] at q
  rw [if_pos (show (model prog w).w.params.followText "set-order" = true from hf), if_neg (by simp)]
  unfold setWalk akh
  refine acA (acA (aeD h x.dat (fits_of x.tok) ?_))
  refine acA (acA (af8 (acD ?_)))
  rw [if_pos (show (model prog w).w.params.followText "set-order" = true from hf)]
  exact acA (af8 (acD (acD (q sl (fun hz => nomatch hz)))))
 | false =>
  simp only [hf, acP, if_false] at q
  rw [if_neg (show ¬ (model prog w).w.params.followText "set-order" = true from by rw [show (model prog w).w.params.followText "set-order" = false from hf]; decide)]
  refine aeI (fun z => absurd (show (!t.plain && _) = true from z) (by rw [x.pln]; simp)) (fun _ => ?_)
  have hl : t.led = true := by rw [x.led]; unfold mB; rw [hf]; rfl
  refine acA ?_
  show ac0 _ _ (if (!t.led && !(L.map (·.2)).toArray.isEmpty) = true then _ else pure _) _ _ _
  rw [if_neg (by rw [hl]; simp)]
  refine acD (acD ?_)
  rw [hb hf]
  by_cases hi : i < L.length
  ·have e1 : (L.map (·.2)).toArray[i]? = some L[i].2 := by simp [hi]
   have e2 : t.place[i]? = some L[i].1 := by rw [x.tok.pl]; simp [hi]
   have := q (L[i].1 + 1) fun _ _ => by rw [x.tok.pl]; exact Rb x.tok.ri (by simp [hi])
   rw [e1] at this ⊢
   rw [e2]
   exact this
  ·have e1 : (L.map (·.2)).toArray[i]? = none := by simp; omega
   have := q 0 fun _ hz => absurd hz hi
   rw [e1] at this ⊢
   exact this
theorem R1 (hh : A.handled = none) (x : oE w S o ep t L) (eS : S ≠ I) : Walks prog w A I [I, S] [I] L.length (fun i v => ((gB w S ep (L.map (·.2)).toArray)[i]?).map (·.2) = some v)
 (fun i h => h.get? S = some o /\ ∃ sl : Nat, h.get? I = some (BI S L.length ep sl i) /\ (w.params.followText "set-order" = false -> SetTable.below t.place sl = i)) where
 sub := fun b hb => by simp at hb; simp [hb]
 frame := fun _ _ _ st hk => ⟨hk S (by simp) _ st.1, let ⟨sl, a, b⟩ := st.2; ⟨sl, hk I (by simp) _ a, b⟩⟩
 item := fun i s Q E hi st hQ => by
  obtain ⟨h1, sl, hI, hb⟩ := st
  have hT : s.TypeIs (.ref I) "set_iterator" := ⟨_, hI, rfl⟩
  have hlen : (gB w S ep (L.map (·.2)).toArray).size = L.length := by
   have := (BH w S ep (L.map (·.2)).toArray).length_eq
   simpa using this
  have bf : i < (gB w S ep (L.map (·.2)).toArray).size := by omega
  unfold afW
  refine acA (ahJ (aeP (name := afL "__next__") hT oA
   (aek oA hT JW ?_ (JX _))))
  unfold afH.«set_iterator.__next__»
  refine acA (acD (acA (afZ hI rfl ?_)))
  show ac0 _ _ (setEntries S >>= _) _ _ _
  refine acA (ag4 h1 x.dat (fits_of x.tok) ?_)
  refine aeI (fun z => absurd z (by simp)) (fun _ => ?_)
  show ac0 _ _ (akN S (aiq (sl : Int)) (aiq (i : Int)) (aiq (ep : Int)) >>= _) _ _ _
  rw [adx, adx, adx]
  refine acA (Kb x h1 hb fun dc nV => ?_)
  rw [adL bf]
  dsimp only [Option.map_some]
  refine acA (agB hI rfl (by simp) ?_)
  have Kc := adB (afO (·.setIfInBounds 0 (agF (dc : Int)))) hI rfl
  refine acA (agB Kc rfl (by simp [afO]) ?_)
  have R4 := adB (afO (·.setIfInBounds 1 (agF ((i : Int) + 1)))) Kc rfl
  have Kd : ∀ (b : acJ) (u : Obj), b ≠ I -> s.heap.get? b = some u -> ((s.heap.update I (afO (·.setIfInBounds 0 (agF (dc : Int))))).update I (afO (·.setIfInBounds 1 (agF ((i : Int) + 1))))).get? b = some u := fun b u hb e =>
   (acM _ _ (adV hb)).trans ((acM _ _ (adV hb)).trans e)
  refine acD ⟨_, rfl, acD (hQ _ _ s.toks (by rw [adL bf]; rfl) ⟨Kd S o eS h1, dc, R4, fun hf => nV hf hi⟩ fun b u hb e => Kd b u (by simpa using hb) e)⟩
 done := fun s Q E st hQ => by
  obtain ⟨h1, sl, hI, hb⟩ := st
  have hT : s.TypeIs (.ref I) "set_iterator" := ⟨_, hI, rfl⟩
  have hlen : (gB w S ep (L.map (·.2)).toArray).size = L.length := by
   have := (BH w S ep (L.map (·.2)).toArray).length_eq
   simpa using this
  unfold afW
  refine acA (ahJ (aeP (name := afL "__next__") hT oA
   (aek oA hT JW ?_ (JX _))))
  unfold afH.«set_iterator.__next__»
  refine acA (acD (acA (afZ hI rfl ?_)))
  show ac0 _ _ (setEntries S >>= _) _ _ _
  refine acA (ag4 h1 x.dat (fits_of x.tok) ?_)
  refine aeI (fun z => absurd z (by simp)) (fun _ => ?_)
  show ac0 _ _ (akN S (aiq (sl : Int)) (aiq (L.length : Int)) (aiq (ep : Int)) >>= _) _ _ _
  rw [adx, adx, adx]
  refine acA (Kb x h1 hb fun dc nV => ?_)
  rw [agp (by omega)]
  show ac0 _ _ (setField (.ref I) 2 .none >>= _) _ _ s
  refine acA (agB hI rfl (by simp) ?_); show ac0 _ _ (newExc (.type "StopIteration") [] >>= _) _ _ _
  refine acA ?_; simp only [newExc, newTuple]
  refine acA (adN ?_ (by size_fits)); refine acA (m := ahi _ _) (agZ (a := Value.none) (by first | rfl | (simp only [ahi]; rfl)) ?_)
  refine adN ?_ (by size_fits); simp only [raiseNew]
  refine acA (wpAny_handled ?_); rw [show A.in1.handled = none from hh]
  refine acA (acD (wpAny_throw ?_)); refine acA (afA (T := "StopIteration") (b := true) ⟨_, acT _ rfl, rfl⟩ isSubtype_stop ?_)
  refine acD (hQ _ s.toks fun b u hb e => (((aeC ..).extBut.push _).push _) b u (by simpa using hb) e)
 self := fun _ s _ _ st hQ => by
  obtain ⟨h1, sl, hI, hb⟩ := st
  have hT : s.TypeIs (.ref I) "set_iterator" := ⟨_, hI, rfl⟩
  refine ahw hT J9 (aek J9 hT RW ?_ (RX _))
  show ac0 _ _ (ret (.ref I)) _ _ s
  exact acD ⟨_, rfl, "set_iterator", _, hT, oA.lookup, hQ⟩
theorem R5 (x : oE w S o ep t L) : aiC prog w "set" S S L.length (fun i v => ((gB w S ep (L.map (·.2)).toArray)[i]?).map (·.2) = some v) (fun h => h.get? S = some o) where
 type := fun _ h => ⟨o, h, x.cls⟩
 there := fun _ h => ⟨acK h, acK h⟩
 keep := fun _ _ h hk => hk S (.inl rfl) o h
 notList := by decide
 notTuple := by decide
 hint := fun _ _ _ _ h hq => Rq ⟨o, h, x.cls⟩ hq
 iter := fun _ _ hh h => ⟨_, _, (fun _ _ hq => R0 x h hq), R1 hh x (ade (acK h)),
  ⟨acE _ h, 0, acT _ rfl, fun _ => Nat.le_zero.mp (by
   have hb := wU x.tok.ri 0
   dsimp only at hb
   rw [x.tok.pl]
   refine ajv fun aT => ?_
   generalize SetTable.below (L.map (·.1)).toArray 0 = r at hb aT
   cases hL : L.map (·.1) with
   | nil => rw [hL] at hb; simp at hb; omega
   | cons a l =>
    have := hb.2.1 a (by rw [hL]; cases r with | zero => omega | succ r => simp)
    omega)⟩⟩
end
end Gz
namespace Gz
open PySem PySem.Spec PyProof.Rows L2 tD
theorem R6 {prog : ac2} {w : adw} {af : List acC} {ns : List Int} (h : afP af ns) : aj8 (akl prog w) ns af := by
 induction h with
 | nil => exact .nil
 | cons n t _ ih => exact .cons (by simp [akl, ajL]) ih
noncomputable def jQ (us : List acC) (i : Nat) : acJ := match us[i]? with | some (.ref p) => p | _ => 0
theorem BJ {prog : ac2} {w : adw} {h : aer} {us : List acC} {kis : List (List Int)} {i : Nat} (x : hJ h us kis i) : us[i]? = some (.ref (jQ us i)) /\ (tK prog w).is h (kis.getD i []) (jQ us i) := by
 obtain ⟨p, o, af, m, h1, h2, h3, h4, h5, h6⟩ := x
 have e : jQ us i = p := by unfold jQ; rw [h1]
 rw [e]
 exact ⟨h1, o, af.toArray, m, h2, h3, h4, R6 h5⟩
noncomputable def Ke (kis : List (List Int)) : Prop := ∀ k ∈ kis, ∀ k' ∈ kis, aki (af3 (k.map akI)) = aki (af3 (k'.map akI)) -> k = k'
noncomputable def tH (K : acB) (t : TE) : TE := fun σ H Q => t σ H fun v H1 => ∃ (a : acJ) (ks : List V) (kis : List (List Int)), v = V.ref a /\ ag K H1 a ks /\ cQ K H1 ks kis /\ ks.length <= 63 /\ Ke kis /\
 ∀ M : List (List Int × acJ), (M.map (·.1)).Nodup -> (∀ k, k ∈ M.map (·.1) ↔ k ∈ kis) -> (∀ m ∈ M, ∃ j : Nat, ks[j]? = some (V.ref m.2) /\ kis[j]? = some m.1) -> ∀ l, H1 l = none -> Q (.ref l) (upd H1 l (.lst (bL (M.map (·.1)) .non (M.map fun m => V.ref m.2))))
section
variable {X : Cx}
theorem R7 {e : ae4} {t : TE} {p1 p2 pos tI : Pos} (hc : X.calm = true) (hu : X.A.units + 64 < age) (he : PE X e t) (BK : Gl X "sorted") (R8 : X.mg "sorted" = none) (iZ : adR "sorted" = some (.builtin "sorted"))
 (BL : Gl X "set") (wZ : X.mg "set" = none) (mC : adR "set" = some (.type "set"))
 (cB : adv [e] X.env = [(false, eval e X.env)] := by rfl) (i0 : adv [.Call (.Name "set" p2) [e] [] tI] X.env = [(false, eval (.Call (.Name "set" p2) [e] [] tI) X.env)] := by rfl) :
 PE X (.Call (.Name "sorted" p1) [.Call (.Name "set" p2) [e] [] tI] [] pos) (tH X.K t) := by
 intro pins s σ H Q I h
 refine aeu (fY I BK R8 iZ ?_ (by decide) (by decide))
 refine agH ?_ (by rw [i0]; rfl) rfl
 rw [i0]
 show ac0 _ _ (spliced ((false, eval (.Call (.Name "set" p2) [e] [] tI) X.env) :: afV pos [])) _ _ s
 refine agi ?_
 refine aeu (fY I BL wZ mC ?_ (by decide) (by decide))
 refine ad4 ?_ (by rw [cB]; rfl) rfl
 rw [cB]
 show ac0 _ _ (spliced ((false, eval e X.env) :: afV tI [])) _ _ s
 refine agi (au (he pins s σ H _ I h) fun u s1 ⟨x, H1, I1, r1, q1⟩ => ?_)
 obtain ⟨a, ks, kis, rfl, hS, hK, hn, hh, q⟩ := q1
 cases r1
 refine agt ?_
 obtain ⟨us, rv, pl, hz⟩ := I1.list hS
 have hl : us.length = ks.length := rv.length.symm
 have mD : ks.length = kis.length := hK.len
 have ht := Bg I1 hK rv
 refine RP (items := us.toArray) (key := fun i => kis.getD i []) (ad := jQ us) (I1.ok.hd hc) pl.isList hu (by simp; omega) (fun i v hv => ?_) (fun j hj => (BJ (ht j (by simpa using hj))).2) (fun i j hi hj R9 => ?_) fun h2 tk M Sa hM hk => ?_
 ·rw [adt] at hv
  have hi : i < us.length := (acX.mp hv).1
  have := (BJ (prog := X.prog) (w := X.w) (ht i hi)).1
  rw [hv] at this
  exact Option.some.inj this
 ·have bf : i < kis.length := by simp at hi; omega
  have AW : j < kis.length := by simp at hj; omega
  exact hh _ (by simp [List.getD, bf]) _ (by simp [List.getD, AW]) R9
 refine agt ?_
 obtain ⟨o, ep, tb, L, g1, g2, g3, BG, g4, g5, g6, g7⟩ := Sa
 have hx : oE X.w s1.heap.objs.size o ep tb L := ⟨g2, g3, BG, g4, g5⟩
 have hsz : us.toArray.size = us.length := by simp
 rw [hsz] at hM
 obtain ⟨m1, m2, m3, m4⟩ := hM
 have Sb : L.length = M.length := by have := congrArg List.length g7; simpa using this
 have hp : ((gB X.w s1.heap.objs.size ep (L.map (·.2)).toArray).toList).Perm (M.map (iX X.prog X.w)) := by
  have := BH X.w s1.heap.objs.size ep (L.map (·.2)).toArray
  rw [aiP, g7] at this
  rw [g7]; exact this
 obtain ⟨M', e1, e2⟩ := BC hp
 have acx : M'.length = L.length := e2.length_eq.trans Sb.symm
 have i3 : ∀ m ∈ M', ∃ j, j < us.length /\ m = (kis.getD j [], jQ us j) := fun m hm => m2 m (e2.mem_iff.mp hm)
 have c8 : (M'.map (·.1)).Nodup := ((e2.map (·.1)).nodup_iff).mpr m1
 have Sd := wy (M'.map (·.2))
 have Se : ∀ j, j < us.length -> hJ h2 us kis j := fun j hj => (ht j hj).keep fun b u e _ => hk b u (acK e) e
 refine Bc (s := { s1 with heap := h2, toks := tk }) (kis := M'.map (·.1)) (vs := (M'.map (·.2)).map ac3) (by simp) (by simp; omega) (fun i hi => ?_) (fun A' Q' E' hA hq => ?_) fun l h' fK k1 k2 k3 => ?_
 ·have bf : i < M'.length := by simpa using hi
  obtain ⟨j, hj, ej⟩ := i3 M'[i] (adZ bf)
  obtain ⟨p, o', af, mm, t1, t2, t3, t4, t5, t6⟩ := Se j hj
  have ea : jQ us j = p := by unfold jQ; rw [t1]
  refine ⟨p, o', af, mm, by simp [bf, ej, ea], t2, t3, t4, ?_, t6⟩
  have : (M'.map (·.1)).getD i [] = kis.getD j [] := by simp [List.getD, bf, ej]
  rw [this]; exact t5
 ·refine IX (s := { s1 with heap := h2, toks := tk }) (R5 hx) (hA.trans (I1.ok.hd hc)) g1 (acV (show L.length <= 64 by omega) (by decide)) fun h3 si acc b1 b2 b3 => ?_
  have Sf : acc.toList = (M'.map (·.2)).map ac3 := by
   refine agy fun i => ?_
   rw [agK]
   by_cases hi : i < L.length
   ·have bf : i < acc.size := by rw [b3.1]; exact hi
    have my : i < M'.length := by omega
    have := b3.2 i acc[i] (adL bf)
    dsimp only at this
    have e3 : (gB X.w s1.heap.objs.size ep (L.map (·.2)).toArray)[i]? = some (iX X.prog X.w M'[i]) := by
     rw [<- agK, e1]
     simp [my]
    rw [e3] at this
    rw [adL bf, <- this]
    simp [my]
   ·rw [agp (by rw [b3.1]; omega)]
    rw [eq_comm, ad2]
    simp only [acI]
    omega
  rw [Sf]
  exact hq h3 si b1 b2
 ·refine wz (s := s1) (ks := (M'.map (·.2)).map V.ref) (kis := M'.map (·.1)) (us := (M'.map (·.2)).map ac3) I1 Sd ?_ ?_ (fun b u e => k2 b u (hk b u (acK e) e)) k3 fun l' jR => ?_
  ·simp only [acI]
   exact acV (show _ <= 64 by omega) (by decide)
  ·exact acV (agb (acK g1)) k1
  ·have := q M' c8 (fun k => ?_) (fun m hm => ?_) l' jR
   ·simpa [aeR, ahy] using this
   ·rw [(e2.map (·.1)).mem_iff]
    constructor
    ·intro gh
     obtain ⟨m, hm, rfl⟩ := acQ.mp gh
     obtain ⟨j, hj, rfl⟩ := m2 m hm
     have : j < kis.length := by omega
     simp [List.getD, this]
    ·intro gh
     obtain ⟨j, hj, rfl⟩ := adQ gh
     have := m3 j (by omega)
     simpa [List.getD, hj] using this
   ·obtain ⟨j, hj, rfl⟩ := i3 m hm
    have BM : j < ks.length := by omega
    have Bw : j < kis.length := by omega
    refine ⟨j, ?_, by simp [List.getD, Bw]⟩
    obtain ⟨p, je, bF⟩ := hK.get (acG BM)
    have mx := (BJ (prog := X.prog) (w := X.w) (ht j hj)).1
    obtain ⟨u0, Kf, hr⟩ := rv.get (acG BM)
    rw [mx] at Kf
    cases Kf
    rw [je] at hr
    cases hr
    rw [acG BM, je]
end
end Gz
namespace Gz
open PySem
noncomputable def Kg : List (List Int) := (adh 7).flatMap fun (a : Nat) => (adh 7).map fun (b : Nat) => [(a : Int), (b : Int)]
theorem Sg : (Kg.map fun k => aki (af3 (k.map akI))).Nodup := by decide +kernel
theorem Sh {kis : List (List Int)} (h : ∀ k ∈ kis, ∃ a b : Nat, a < 7 /\ b < 7 /\ k = [(a : Int), (b : Int)]) : Ke kis := by
 have mem : ∀ k ∈ kis, k ∈ Kg := fun k hk => by
  obtain ⟨a, b, ha, hb, rfl⟩ := h k hk
  exact ahR.mpr ⟨a, ady.mpr ha, acQ.mpr ⟨b, ady.mpr hb, rfl⟩⟩
 intro k hk k' gh e
 obtain ⟨i, hi, rfl⟩ := adQ (mem k hk)
 obtain ⟨j, hj, rfl⟩ := adQ (mem k' gh)
 have := (ahN (h₀ := by simpa using hi) (h₁ := by simpa using hj) Sg).mp (by simpa using e)
 subst this; rfl
end Gz
namespace Gz
open PySem PySem.Spec PyProof.Rows L2
section
variable {X : Cx} {pos : Pos}
end
end Gz
namespace Gz
open PySem PySem.Spec PyProof.Rows L2
noncomputable def Kh (p : P2) : W2 := some (some p.1, some p.2)
theorem Ki {H : Hp} : ∀ {ys : List V} {pp : List P2}, ak (jH H) ys (pp.map Kh) -> dZ H ys pp
 | [], [], _ => trivial
 | _ :: _, _ :: _, h => ⟨h.1, Ki h.2⟩
 | [], _ :: _, h => h.elim
 | _ :: _, [], h => h.elim
end Gz
namespace Gz
open PySem PySem.Spec PyProof.Rows L2
theorem mh.reach {ps : List P2} {ms : List Mk} {tp : Nat -> Option P2} (T : mh ps ms tp) : ∀ (n t : Nat) {v k : Int}, t + n <= ps.length ->
 (tp t = some (v, k) -> ∃ v' k', tp (t + n) = some (v', k') /\ v' <= v + (pre (·.2) ps (t + n) - pre (·.2) ps t)) /\
 (tp (t + n) = some (v, k) -> ∃ v' k', tp t = some (v', k') /\ v' <= v + (pre (·.1) ps t - pre (·.1) ps (t + n)))
 | 0, t, v, k, _ => ⟨fun h => ⟨v, k, h, by simp⟩, fun h => ⟨v, k, h, by simp⟩⟩
 | n + 1, t, v, k, hn => by
  refine ⟨fun h => ?_, fun h => ?_⟩
  ·obtain ⟨v1, k1, e1, h1⟩ := (T.reach n t (by omega)).1 h
   obtain ⟨v2, k2, e2, h2⟩ := T.fwd (t + n) v1 k1 (by omega) e1
   refine ⟨v2, k2, e2, ?_⟩
   rw [show t + (n + 1) = (t + n) + 1 by omega, l7 _ ps (by omega)]
   omega
  ·obtain ⟨v1, k1, e1, h1⟩ := T.bwd (t + n) v k (by omega) h
   obtain ⟨v2, k2, e2, h2⟩ := (T.reach n t (by omega)).2 e1
   refine ⟨v2, k2, e2, ?_⟩
   rw [show t + (n + 1) = (t + n) + 1 by omega, l7 _ ps (by omega)]
   omega
theorem Si {ps : List P2} {ms ns : List Mk} {tp : Nat -> Option P2} (T : mh ps ms tp) (hm : ∀ m ∈ ms, m.1 <= ps.length) (hn : ∀ m ∈ ns, m.1 <= ps.length) (h0 : wD ns tp) {a b : Mk} (ha : a ∈ ms) (hb : b ∈ ns) : ¬ iS ps a b := by
 rintro ⟨h, l, e1, e2, aT⟩
 obtain ⟨v, k, e3, h3⟩ := T.top a ha h e1
 have r9 := hm a ha
 have bS := hn b hb
 have key : ∃ v' k', tp b.1 = some (v', k') /\ v' <= v + c6 ps a.1 b.1 := by
  unfold c6
  by_cases hle : a.1 <= b.1
  ·rw [if_pos hle]
   obtain ⟨n, qN⟩ : ∃ n, b.1 = a.1 + n := ⟨b.1 - a.1, by omega⟩
   rw [qN]
   exact (T.reach n a.1 (by omega)).1 e3
  ·rw [if_neg hle]
   obtain ⟨n, qN⟩ : ∃ n, a.1 = b.1 + n := ⟨a.1 - b.1, by omega⟩
   rw [qN] at e3 ⊢
   exact (T.reach n b.1 (by omega)).2 e3
 obtain ⟨v', k', e4, h4⟩ := key
 have := h0 b hb l v' k' e2 e4
 omega
theorem tJ (f : P2 -> Int) (p : P2) (n : Nat) : ∀ i, i <= n -> pre f (adU n p) i = f p * i
 | 0, _ => by simp [pre]
 | i + 1, h => by
  rw [l7 f _ (by rw [afa]; omega), tJ f p n i (by omega)]
  have : bo (adU n p) i = p := by simp [bo, List.getD, afu, show i < n by omega]
  rw [this, Int.natCast_add, Int.mul_add]
  simp
noncomputable def oF (u d a b : Int) : Int := if a < b then u * (b - a) else d * (a - b)
theorem Sj (u d : Int) {n i j : Nat} (hi : i <= n) (hj : j <= n) : c6 (adU n (-d, u)) i j = oF u d i j := by
 unfold c6 oF
 rw [tJ _ _ n i hi, tJ _ _ n j hj, tJ _ _ n i hi, tJ _ _ n j hj]
 dsimp only
 by_cases h : i < j
 ·rw [if_pos (agb h), if_pos (by omega), akO]
 ·by_cases e : i = j
  ·subst e
   rw [if_pos (ac1 _), if_neg (by omega)]
   simp
  ·rw [if_neg (by omega), if_neg (by omega), akO]
   rw [akP, akP]
   omega
noncomputable def jS (u d : Int) (r s : P2 × S2) : Prop := ∃ h l, r.2.2 = some h /\ s.2.1 = some l /\ h + oF u d r.1.2 s.1.2 < l
noncomputable def ee (u d : Int) (tb : Tb) (p : P2) : Prop := ∃ r ∈ tb, ∃ s ∈ tb, jS u d r s /\ p = (min r.1.1 s.1.1, max r.1.1 s.1.1)
theorem Sk {u d : Int} {tb bO : Tb} (h : tb.Perm bO) (p : P2) : ee u d tb p ↔ ee u d bO p := by
 unfold ee
 constructor
 ·rintro ⟨r, hr, s, hs, x⟩
  exact ⟨r, h.mem_iff.mp hr, s, h.mem_iff.mp hs, x⟩
 ·rintro ⟨r, hr, s, hs, x⟩
  exact ⟨r, h.mem_iff.mpr hr, s, h.mem_iff.mpr hs, x⟩
theorem tL {tb : Tb} {i : Int} {m : Mk} : m ∈ jN tb i ↔ ∃ r ∈ tb, r.1.1 = i /\ m = (r.1.2.toNat, r.2) := by
 unfold jN
 simp only [acQ, adp, decide_eq_true_eq]
 constructor
 ·rintro ⟨r, ⟨h1, h2⟩, rfl⟩
  exact ⟨r, wJ.mem_iff.mp h1, h2, rfl⟩
 ·rintro ⟨r, h1, h2, rfl⟩
  exact ⟨r, ⟨wJ.mem_iff.mpr h1, h2⟩, rfl⟩
noncomputable def gC (ks : List P2) : List (List Int) := ks.map fun p => [p.1, p.2]
noncomputable def bV (ks : List P2) : List P2 := bL (gC ks) (0, 0) ks
theorem Kj : ∀ {as bs : List P2}, as.Pairwise (fun a b => HT.lexLt [b.1, b.2] [a.1, a.2] = false) -> bs.Pairwise (fun a b => HT.lexLt [b.1, b.2] [a.1, a.2] = false) -> as.Perm bs -> as = bs
 | [], bs, _, _, h => (List.Perm.nil_eq h)
 | a :: as, [], _, _, h => by cases h.symm.nil_eq
 | a :: as, b :: bs, s1, s2, h => by
  have e : a = b := by
   have m1 : a ∈ b :: bs := h.mem_iff.mp (.head _)
   have m2 : b ∈ a :: as := h.mem_iff.mpr (.head _)
   rcases acN.mp m1 with z | z
   ·exact z
   ·rcases acN.mp m2 with y | y
    ·exact y.symm
    ·have := wI ((adY.mp s1).1 b y) ((adY.mp s2).1 a z)
     injection this with e1 e2
     injection e2 with e2 _
     exact Prod.ext (by omega) (by omega)
  subst e
  rw [Kj (adY.mp s1).2 (adY.mp s2).2 (List.Perm.cons_inv h)]
theorem Sl {ks i4 : List P2} (h1 : ks.Nodup) (h2 : i4.Nodup) (h : ∀ p, p ∈ ks ↔ p ∈ i4) : bV ks = bV i4 :=
 Kj (vU (f := fun p : P2 => [p.1, p.2]) rfl) (vU (f := fun p : P2 => [p.1, p.2]) rfl) (ju.trans (((List.perm_ext_iff_of_nodup h1 h2).mpr h).trans ju.symm))
noncomputable def w5 (ps : List P2) (a b : List Mk) : Bool := @decide (∃ m ∈ a, ∃ n ∈ b, iS ps m n) (ahL _)
noncomputable def ff (ps : List P2) (g : Int × List Mk) (l : List (Int × List Mk)) : List P2 := (l.filter fun h => w5 ps g.2 h.2).map fun h => (g.1, h.1)
noncomputable def ef (ps : List P2) (gs l : List (Int × List Mk)) : List P2 := l.flatMap fun g => ff ps g gs
theorem BN {ps : List P2} {a b : List Mk} : w5 ps a b = true ↔ ∃ m ∈ a, ∃ n ∈ b, iS ps m n := @decide_eq_true_iff _ (ahL _)
theorem Kk {ps : List P2} {g h : Int × List Mk} {l : List (Int × List Mk)} {j : Nat} (e : l[j]? = some h) : ff ps g (l.take (j + 1)) = ff ps g (l.take j) ++ if w5 ps g.2 h.2 then [(g.1, h.1)] else [] := by
 unfold ff
 rw [aea, e, ai2, aeH]
 congr 1
 by_cases hc : w5 ps g.2 h.2 = true <;> simp [hc]
theorem Sm {ps : List P2} {gs l : List (Int × List Mk)} {g : Int × List Mk} {i : Nat} (e : l[i]? = some g) : ef ps gs (l.take (i + 1)) = ef ps gs (l.take i) ++ ff ps g gs := by
 unfold ef
 rw [aea, e, List.flatMap_append]
 simp
theorem BO {ps : List P2} {gs : List (Int × List Mk)} {p : P2} : p ∈ ef ps gs gs ↔ ∃ g ∈ gs, ∃ h ∈ gs, p = (g.1, h.1) /\ ∃ m ∈ g.2, ∃ n ∈ h.2, iS ps m n := by
 unfold ef ff
 simp only [ahR, acQ, adp, BN]
 constructor
 ·rintro ⟨g, hg, h, ⟨hh, hc⟩, rfl⟩
  exact ⟨g, hg, h, hh, rfl, hc⟩
 ·rintro ⟨g, hg, h, hh, rfl, hc⟩
  exact ⟨g, hg, h, ⟨hh, hc⟩, rfl⟩
theorem BP (ps : List P2) (gs : List (Int × List Mk)) : ∀ l, (ef ps gs l).length <= l.length * gs.length
 | [] => by simp [ef]
 | g :: l => by
  have ih := BP ps gs l
  have : ef ps gs (g :: l) = ff ps g gs ++ ef ps gs l := rfl
  rw [this, adl, ad8, Nat.succ_mul]
  have : (ff ps g gs).length <= gs.length := by unfold ff; rw [acI]; exact ad5 _ _
  omega
noncomputable def fQ (e : Nat) (tb : Tb) : List (Int × List Mk) := (adh e).map fun (i : Nat) => ((i : Int), jN tb (i : Int))
theorem Sn {e t u d : Int} {tb : Tb} (ai : bT e t tb) (ht : 1 <= t) {p : P2} : ee u d tb p ↔ ∃ q ∈ ef (adU (t - 1).toNat (-d, u)) (fQ e.toNat tb) (fQ e.toNat tb), p = (min q.1 q.2, max q.1 q.2) := by
 have on : ∀ r ∈ tb, 0 <= r.1.1 /\ r.1.1 < e /\ 0 <= r.1.2 /\ r.1.2 < t := fun r hr => by
  have := ai.2 r hr
  unfold me at this
  omega
 have cl : ∀ r ∈ tb, ∀ s ∈ tb, iS (adU (t - 1).toNat (-d, u)) (r.1.2.toNat, r.2) (s.1.2.toNat, s.2) ↔ jS u d r s := fun r hr s hs => by
  have h1 := on r hr
  have h2 := on s hs
  unfold iS jS
  dsimp only
  rw [Sj u d (by omega) (by omega), ad7 h1.2.2.1, ad7 h2.2.2.1]
 unfold ee
 constructor
 ·rintro ⟨r, hr, s, hs, ha, rfl⟩
  have h1 := on r hr
  have h2 := on s hs
  refine ⟨(r.1.1, s.1.1), BO.mpr ⟨(r.1.1, jN tb r.1.1), ?_, (s.1.1, jN tb s.1.1), ?_, rfl, _, tL.mpr ⟨r, hr, rfl, rfl⟩, _, tL.mpr ⟨s, hs, rfl, rfl⟩, (cl r hr s hs).mpr ha⟩, rfl⟩
  ·exact acQ.mpr ⟨r.1.1.toNat, ady.mpr (by omega), by rw [ad7 h1.1]⟩
  ·exact acQ.mpr ⟨s.1.1.toNat, ady.mpr (by omega), by rw [ad7 h2.1]⟩
 ·rintro ⟨q, hq, rfl⟩
  obtain ⟨g, hg, h, hh, rfl, m, hm, n, hn, hc⟩ := BO.mp hq
  obtain ⟨i, _, rfl⟩ := acQ.mp hg
  obtain ⟨j, _, rfl⟩ := acQ.mp hh
  obtain ⟨r, hr, e1, rfl⟩ := tL.mp hm
  obtain ⟨s, hs, e2, rfl⟩ := tL.mp hn
  exact ⟨r, hr, s, hs, (cl r hr s hs).mp hc, by rw [e1, e2]⟩
end Gz
namespace Gz
open PySem PySem.Spec PyProof.Rows L2
noncomputable def gD (h : aer) (a : acJ) (p : P2) : Prop := ∃ o t u n, h.get? a = some o /\ o.cls = .type "tuple" /\ o.data = .seq #[.int p.1 t, .int p.2 u] n
theorem gD.keep {h h' : aer} {a : acJ} {p : P2} (x : gD h a p) (k : ∀ o, h.get? a = some o -> h'.get? a = some o) : gD h' a p := let ⟨o, t, u, n, e, r⟩ := x; ⟨o, t, u, n, k o e, r⟩
section
variable {prog : ac2} {w : adw} {A : adD} {E : acC -> acF -> Prop} {s : acF}
theorem BQ {x y : Int} {t u : Tok} {Q : acC -> acF -> Prop} (h : Q (.bool (decide (x < y))) s) : ac0 (model prog w) A (afw .Lt (.int x t) (.int y u)) Q E s :=
 ajl (op := .Lt) (ais s _ t) (ais s _ u) PySem.F.slot_int_lt PySem.F.entry_int_lt (PySem.F.args_int_lt_2 _ _) (gives_int_lt _ _ t u) (fun x => nomatch x) h
theorem w6 {Q : acC -> acF -> Prop} {a b : acJ} {p q : P2} (ha : gD s.heap a p) (hb : gD s.heap b q) (hu : A.units < age) (h : Q (.bool (dE p q)) s) : ac0 (model prog w) A (afw .Lt (.ref a) (.ref b)) Q E s := by
 obtain ⟨oa, t1, u1, n1, hoa, hca, hda⟩ := ha
 obtain ⟨ob, t2, u2, n2, hob, hcb, iH⟩ := hb
 have Ta : s.TypeIs (.ref a) "tuple" := ⟨oa, hoa, hca⟩
 have Tb : s.TypeIs (.ref b) "tuple" := ⟨ob, hob, hcb⟩
 refine ag5 Ta Tb air (aek air Ta PySem.F.entry_tuple_lt ?_ (PySem.F.args_tuple_lt_2 _ _)) hu
 show ac0 _ _ (akj (.ref b) (.type "tuple") >>= _) _ _ s
 refine acA (afA Tb isSubtype_tuple_tuple ?_)
 simp only [afd, acP, if_false]
 refine acA (ai3 hoa hda ?_)
 refine acA (ai3 hob iH ?_)
 refine acA ?_
 refine agR _ (fun rest r s' => r.1 = none /\ s' = s /\ (rest = [(.int p.1 t1, .int q.1 t2), (.int p.2 u1, .int q.2 u2)] ∨ (rest = [(.int p.2 u1, .int q.2 u2)] /\ p.1 = q.1) ∨ (rest = [] /\ p.1 = q.1 /\ p.2 = q.2))) _ ?_ ?_ _ _ ⟨rfl, rfl, .inl rfl⟩
 ·rintro ⟨u, v⟩ rest r s' ⟨hr, rfl, hz⟩
  rcases hz with hz | ⟨hz, e1⟩ | ⟨hz, _⟩
  ·cases hz
   refine acA (af4 ?_)
   by_cases e : p.1 = q.1
   ·rw [show (p.1 == q.1) = true by simpa using e]
    simp only [afd, acP, if_false]
    exact acD ⟨rfl, rfl, .inr (.inl ⟨trivial, e⟩)⟩
   ·rw [show (p.1 == q.1) = false by simpa using e]
    simp only [aiE, if_true]
    refine acA (agw (acA (BQ (acA (acD (acD (acD ⟨_, rfl, fun z => (nomatch z), ?_⟩)))))))
    have e2 : dE p q = decide (p.1 < q.1) := by unfold dE; rw [decide_eq_false e]; simp
    rw [<- e2]
    exact h
  ·cases hz
   refine acA (af4 ?_)
   by_cases e : p.2 = q.2
   ·rw [show (p.2 == q.2) = true by simpa using e]
    simp only [afd, acP, if_false]
    exact acD ⟨rfl, rfl, .inr (.inr ⟨trivial, e1, e⟩)⟩
   ·rw [show (p.2 == q.2) = false by simpa using e]
    simp only [aiE, if_true]
    refine acA (agw (acA (BQ (acA (acD (acD (acD ⟨_, rfl, fun z => (nomatch z), ?_⟩)))))))
    have e2 : dE p q = decide (p.2 < q.2) := by unfold dE; rw [e1]; simp
    rw [<- e2]
    exact h
  ·cases hz
 ·rintro ⟨r1, r2⟩ s' ⟨hr, rfl, hz⟩
  simp only at hr
  subst hr
  rcases hz with hz | ⟨hz, _⟩ | ⟨_, e1, e2⟩
  ·cases hz
  ·cases hz
  ·refine acD ⟨_, rfl, fun z => (nomatch z), ?_⟩
   have e3 : dE p q = false := by unfold dE; rw [e1, e2]; simp
   rw [e3] at h
   exact h
theorem So {R : ahp -> acF -> Prop} {I S : acJ} {fp wr : List acJ} {n : Nat} {P : Nat -> acC -> Prop} {St : Nat -> aer -> Prop} {G : aer -> Prop} {bt : Nat -> Nat -> Bool} {kw : List (Str × acC)}
 (W : Walks prog w A.in1 I fp wr n P St) (hG : ∀ h h', G h -> (∀ b o, b ∉ wr -> b ≠ S -> h.get? b = some o -> h'.get? b = some o) -> G h')
 (lW : ∀ i j vi vj (s : acF) (Q : acC -> acF -> Prop) (E : acC -> acF -> Prop), P i vi -> P j vj -> G s.heap -> Q (.bool (bt i j)) s -> ac0 (model prog w) A.in1 (afw .Lt vi vj) Q E s) (hS : S ∉ fp) : ∀ (k j : Nat) (s : acF) (vb : acC) (c : Nat), k + (j + 1) = n -> St (j + 1) s.heap -> G s.heap -> P (ae1 bt j) vb ->
  s.heap.get? S = some { cls := .type "list", dict := none, data := .seq #[vb, vb] c, slots := #[] } ->
  (∀ v h' tk, P (ae1 bt (n - 1)) v -> (∀ b o, b ∉ wr -> b ≠ S -> s.heap.get? b = some o -> h'.get? b = some o) -> R (.ok (.ret v)) { s with heap := h', toks := tk }) ->
  afi (model prog w) A (.builtin "min.loop" ⟨[.ref I, .none, .ref S], kw⟩) R s := by
 have nS : S ∉ wr := fun z => hS (W.sub _ z)
 have nm : (toString "min" ++ toString ".loop" : String) = "min.loop" := by decide
 intro k
 induction k with
 | zero =>
  intro j s vb c e st g pb oS fin
  have e' : j + 1 = n := by omega
  refine ads aef ?_
  rw [ada adm _]
  show ac0 _ A.in1 (afI (.ref S) >>= _) _ _ s
  refine acA (ad9 oS rfl ?_)
  show ac0 _ A.in1 (tryCatch (afW (.ref I)) _ >>= _) _ _ s
  refine acA (ad0 (W.done s _ _ (e' ▸ st) fun h1 tk kp => ?_))
  have bY := kp S _ nS oS
  show ac0 _ A.in1 (aib S (fun _ => #[]) >>= _) _ _ _
  refine acA ?_
  refine aeG bY rfl (acA (aew (acD ?_)))
  exact fin vb _ tk (by rw [<- e']; exact pb) fun b o hw hb q => (acM _ _ (adV hb)).trans (kp b o hw q)
 | succ k ih =>
  intro j s vb c e st g pb oS fin
  have lt : j + 1 < n := by omega
  refine ads aef ?_
  rw [ada adm _]
  show ac0 _ A.in1 (afI (.ref S) >>= _) _ _ s
  refine acA (ad9 oS rfl ?_)
  show ac0 _ A.in1 (tryCatch (afW (.ref I)) _ >>= _) _ _ s
  refine acA (ad0 (W.item (j + 1) s _ _ lt st fun v h1 tk pv dW kp => ?_))
  have bY := kp S _ nS oS
  have g1 : G h1 := hG _ _ g fun b o hw _ q => kp b o hw q
  show ac0 _ A.in1 (tryCatch (holding [v, v] (afw .Lt v vb >>= _)) _ >>= _) _ _ _
  refine acA (ad0 (adK (acA (lW (j + 1) (ae1 bt j) v vb _ _ _ pv pb g1 ?_))))
  refine acA (adK (adF ?_))
  refine acA (aew (acD ?_))
  cases hb : bt (j + 1) (ae1 bt j) with
  | true =>
   simp only [if_true]
   refine acA ?_
   refine aeG bY rfl (acA (aew ?_))
   rw [nm]
   refine acD ⟨adT adm _, ih (j + 1) _ v _ (by omega) (W.frame _ _ _ dW fun b hf o q => ?_) (hG _ _ g1 fun b o _ cY q => (acM _ _ (adV cY)).trans q) (by simp only [ae1, hb, if_true]; exact pv) (adB _ bY rfl) fun v2 h2 fK p2 k2 => ?_⟩
   ·exact (acM _ _ (fun z : S = b => hS (by rw [z]; exact hf))).trans q
   ·exact fin v2 h2 fK p2 fun b o hw cY q => k2 b o hw cY ((acM _ _ (adV cY)).trans (kp b o hw q))
  | false =>
   simp only [acP, if_false]
   refine acA (aew ?_)
   rw [nm]
   refine acD ⟨adT adm _, ih (j + 1) _ vb c (by omega) dW g1 (by simp only [ae1, hb, acP, if_false]; exact pb) bY fun v2 h2 fK p2 k2 => ?_⟩
   exact fin v2 h2 fK p2 fun b o hw cY q => k2 b o hw cY (kp b o hw q)
theorem Sq {Q : acC -> acF -> Prop} {a b : acJ} {p q : P2} (hh : A.handled = none) (ha : gD s.heap a p) (hb : gD s.heap b q) (hu : A.in1.units < age)
 (h : ∀ h' tk, (∀ c o, s.heap.get? c = some o -> h'.get? c = some o) -> Q (.ref (if dE q p = true then b else a)) { s with heap := h', toks := tk }) : ac0 (model prog w) A (call (.builtin "min") [.ref a, .ref b]) Q E s := by
 have nm : (toString "min" ++ toString ".loop" : String) = "min.loop" := by decide
 refine call_function_tree ajx ajc ajd (PySem.F.args_min2 _ _) ?_
 show ac0 _ A.in1 (ad6 "min" ["key", "default"] 0 ⟨[], []⟩ >>= _) _ _ s
 refine acA (agZ (show ad6 "min" ["key", "default"] 0 ⟨[], []⟩ = pure [none, none] from rfl) ?_)
 show ac0 _ A.in1 (newTuple [.ref a, .ref b] >>= _) _ _ s
 refine acA (adN ?_)
 have hT : (s.heap.push { cls := .type "tuple", data := .seq #[.ref a, .ref b] }).IsTuple s.heap.objs.size #[.ref a, .ref b] := ⟨_, acT _ rfl, rfl, 0, rfl⟩
 refine acA (aiT hT ?_)
 show ac0 _ A.in1 (aje [] >>= _) _ _ _
 refine acA (adN ?_)
 generalize e1 : s.heap.push { cls := .type "tuple", data := .seq #[.ref a, .ref b] } = h1 at hT
 have z1 : h1.objs.size = s.heap.objs.size + 1 := by rw [<- e1]; exact aeE ..
 have k1 : ∀ c o, s.heap.get? c = some o -> h1.get? c = some o := fun c o e => by rw [<- e1]; exact acE _ e
 dsimp only
 generalize e2 : h1.push { cls := .type "tuple_iterator", data := .fields #[.ref s.heap.objs.size, .int 0 0] } = h2
 have z2 : h2.objs.size = h1.objs.size + 1 := by rw [<- e2]; exact aeE ..
 have k2 : ∀ c o, h1.get? c = some o -> h2.get? c = some o := fun c o e => by rw [<- e2]; exact acE _ e
 have W := Walks.tuple (prog := prog) (w := w) (A := A.in1) hh h1.objs.size s.heap.objs.size (by rw [z1]; exact ade (af6 _)) #[.ref a, .ref b]
 have sf : h2.IsTupleIter h1.objs.size s.heap.objs.size 0 /\ h2.IsTuple s.heap.objs.size #[.ref a, .ref b] := ⟨⟨_, by rw [<- e2]; exact acT _ rfl, rfl, rfl⟩, by rw [<- e2]; exact hT.push _⟩
 have zs : h2.objs.size ∉ [h1.objs.size, s.heap.objs.size] := fun z => by
  simp only [acN, aeL, or_false] at z
  rcases z with z | z
  ·rw [z2] at z; exact Nat.succ_ne_self _ z
  ·rw [z2, z1] at z
   exact absurd z (by intro z; have : s.heap.objs.size < s.heap.objs.size + 1 + 1 := agz (af6 _); rw [z] at this; exact aec _ this)
 have nS : h2.objs.size ∉ [h1.objs.size] := fun z => zs (by simp at z; simp [z])
 have up : ∀ c o, s.heap.get? c = some o -> c ∉ [h1.objs.size] /\ c ≠ h2.objs.size /\ (h2.push { cls := .type "list", data := .seq #[] }).get? c = some o := fun c o e => by
  have l1 := acK (k1 c o e)
  have l2 := acK (k2 c o (k1 c o e))
  exact ⟨fun z => by simp at z; rw [z] at l1; exact aec _ l1, ade l2, acE _ (k2 c o (k1 c o e))⟩
 let G : aer -> Prop := fun h => gD h a p /\ gD h b q
 have tf : ∀ (x : acJ) (r : P2), gD s.heap x r -> x ∉ [h1.objs.size] /\ x ≠ h2.objs.size := fun x r hx => by
  obtain ⟨o, _, _, _, e, _⟩ := hx
  exact ⟨(up x o e).1, (up x o e).2.1⟩
 have hG : ∀ h h', G h -> (∀ b o, b ∉ [h1.objs.size] -> b ≠ h2.objs.size -> h.get? b = some o -> h'.get? b = some o) -> G h' := fun h h' g k => ⟨g.1.keep fun o e => k a o (tf a p ha).1 (tf a p ha).2 e, g.2.keep fun o e => k b o (tf b q hb).1 (tf b q hb).2 e⟩
 let bt : Nat -> Nat -> Bool := fun i j => dE (if i = 0 then p else q) (if j = 0 then p else q)
 have Kl : ∀ i v, (#[ac3 a, ac3 b] : Array acC)[i]? = some v -> (i = 0 /\ v = .ref a) ∨ (i = 1 /\ v = .ref b) := fun i v e => by
  match i, e with
  | 0, e => cases e; exact .inl ⟨rfl, rfl⟩
  | 1, e => cases e; exact .inr ⟨rfl, rfl⟩
  | i + 2, e => simp at e
 have lW : ∀ i j vi vj (s : acF) (Q : acC -> acF -> Prop) (E : acC -> acF -> Prop), (#[ac3 a, ac3 b] : Array acC)[i]? = some vi -> (#[ac3 a, ac3 b] : Array acC)[j]? = some vj -> G s.heap -> Q (.bool (bt i j)) s -> ac0 (model prog w) A.in1 (afw .Lt vi vj) Q E s := by
  intro i j vi vj s Q E ei ej g hq
  rcases Kl i vi ei with ⟨rfl, rfl⟩ | ⟨rfl, rfl⟩ <;> rcases Kl j vj ej with ⟨rfl, rfl⟩ | ⟨rfl, rfl⟩
  ·exact w6 g.1 g.1 hu hq
  ·exact w6 g.1 g.2 hu hq
  ·exact w6 g.2 g.1 hu hq
  ·exact w6 g.2 g.2 hu hq
 have g0 : G (h2.push { cls := .type "list", data := .seq #[] }) := ⟨ha.keep fun o e => (up a o e).2.2, hb.keep fun o e => (up b o e).2.2⟩
 have oS : (h2.push { cls := .type "list", data := .seq #[] }).get? h2.objs.size = some { cls := .type "list", dict := none, data := .seq #[] 0, slots := #[] } := acT _ rfl
 have dW := W.frame 0 h2 (h2.push { cls := .type "list", data := .seq #[] }) sf fun b _ o q => acE _ q
 rw [nm]
 refine acD ⟨adT adm _, ?_⟩
 refine ads aef ?_
 rw [ada adm _]
 show ac0 _ A.in1 (afI (.ref h2.objs.size) >>= _) _ _ _
 refine acA (ad9 oS rfl ?_)
 show ac0 _ A.in1 (tryCatch (afW (.ref h1.objs.size)) _ >>= _) _ _ _
 refine acA (ad0 (W.item 0 _ _ _ (by simp) dW fun v h3 tk pv cv kp => ?_))
 have bY := kp _ _ nS oS
 show ac0 _ A.in1 (aib h2.objs.size (fun _ => #[v, v]) >>= _) _ _ _
 refine acA ?_
 refine aeG bY rfl ?_
 rw [nm]
 have g3 : G h3 := hG _ _ g0 fun b o hw _ e => kp b o hw e
 refine acD ⟨adT adm _, So W hG lW zs 1 0 _ v _ (by simp) (W.frame _ _ _ cv fun b hf o e => ?_) (hG _ _ g3 fun b o _ cY e => (acM _ _ (adV cY)).trans e) pv (adB _ bY rfl) fun v2 h4 Sr p4 k4 => ?_⟩
 ·exact (acM _ _ (fun z : h2.objs.size = b => zs (by rw [z]; exact hf))).trans e
 ·have ev : v2 = .ref (if dE q p = true then b else a) := by
   have e4 : (#[ac3 a, ac3 b] : Array acC)[ae1 bt 1]? = some v2 := by simpa using p4
   have Ss : ae1 bt 1 = if dE q p = true then 1 else 0 := by
    show (if bt 1 0 then 1 else 0) = _
    rfl
   rw [Ss] at e4
   by_cases hl : dE q p = true
   ·rw [if_pos hl] at e4 ⊢; cases e4; rfl
   ·rw [if_neg hl] at e4 ⊢; cases e4; rfl
  subst ev
  refine h h4 Sr fun c o e => ?_
  obtain ⟨u1, u2, u3⟩ := up c o e
  exact k4 c o u1 u2 ((acM _ _ (adV u2)).trans (kp c o u1 u3))
end
section
variable {X : Cx}
noncomputable def tM (H : Hp) (Q : VK) (xs : List V) : Prop := ∃ (a b : acJ) (p q : P2), xs = [.ref a, .ref b] /\ H a = some (.tup [.int p.1, .int p.2]) /\ H b = some (.tup [.int q.1, .int q.2]) /\ Q (.ref (if dE q p = true then b else a)) H
theorem Su (hc : X.calm = true) (hu : X.A.units + 1 < age) : cW X (.builtin "min") (fun xs H Q => tM H Q xs) := by
 intro pins s σ H xs us Q I r h
 obtain ⟨a, b, p, q, rfl, ha, hb, hq⟩ := h
 obtain ⟨u, v, rfl, ru, rv⟩ := vals2 r
 cases ru
 cases rv
 have pr : ∀ (x : acJ) (r : P2), H x = some (.tup [.int r.1, .int r.2]) -> gD s.heap x r := fun x r hx => by
  obtain ⟨_, af, hv, hi⟩ := (show bp X.prog X.w H s.heap x (.tup [.int r.1, .int r.2]) from I.ai x _ hx)
  obtain ⟨u1, u2, rfl, ⟨t1, rfl⟩, ⟨t2, rfl⟩⟩ := vals2 hv
  obtain ⟨o, ho, cN, n, hd⟩ := hi
  exact ⟨o, t1, t2, n, ho, cN, hd⟩
 exact Sq (I.ok.hd hc) (pr a p ha) (pr b q hb) (show X.A.units + 1 < age from hu) fun h' tk k => ⟨.ref _, H, I.kept k, rfl, hq⟩
end
end Gz
namespace Gz
open PySem PySem.Spec PyProof.Rows L2
local macro_rules | `(tactic| walk_at "om") => `(tactic| ((try simp only [PySem.Addr] at *); omega))
section
variable {prog : ac2} {w : adw} {A : adD} {E : acC -> acF -> Prop} {s : acF}
theorem Sv {x y : Int} {t u : Tok} {Q : acC -> acF -> Prop} (h : Q (.bool (decide (x <= y))) s) : ac0 (model prog w) A (afw .LtE (.int x t) (.int y u)) Q E s :=
 ajl (op := .LtE) (ais s _ t) (ais s _ u) PySem.F.slot_int_le PySem.F.entry_int_le (PySem.F.args_int_le_2 _ _) (gives_int_le _ _ t u) (fun x => nomatch x) h
theorem oG {vs : List acC} {ns : List Int} (h : afP vs ns) : ∀ i, (vs[i]? = none /\ ns.drop i = []) ∨ ∃ n t, vs[i]? = some (.int n t) /\ ns.drop i = n :: ns.drop (i + 1) := by
 induction h with
 | nil => intro i; exact .inl ⟨by simp, by simp⟩
 | cons n t _ ih =>
  intro i
  cases i with
  | zero => exact .inr ⟨n, t, by simp, by simp⟩
  | succ i => simpa using ih i
theorem Sw {a b : acJ} {oa ob : Obj} {n1 n2 : Nat} {xs ys : List acC} {ns ms : List Int} (ha : s.heap.get? a = some oa) (da : oa.data = .seq xs.toArray n1) (hb : s.heap.get? b = some ob) (db : ob.data = .seq ys.toArray n2) (hi : afP xs ns) (hj : afP ys ms) {R : ahp -> acF -> Prop} :
 ∀ (k i : Nat), xs.length - i = k -> i <= xs.length -> R (.ok (.ret (.bool (HT.lexLt (ns.drop i) (ms.drop i))))) s -> afi (model prog w) A (.builtin "list.__eq__.loop" ⟨[.ref a, .ref b, agF i, agF 0], []⟩) R s := by
 have Sx : xs.length = ns.length := hi.length
 have Sy : ys.length = ms.length := hj.length
 intro k
 induction k with
 | zero =>
  intro i hk hle q
  refine ads aeM ?_
  rw [ada adJ _]
  show ac0 _ A.in1 (afD (.ref a) >>= _) _ _ s
  refine acA (adM ha da (acA (adM hb db ?_)))
  rw [adx, adt, adt, afb (by omega : xs.length <= i)]
  dsimp only
  refine acA (adM ha da (acA (adM hb db ?_)))
  refine acD ?_
  show R (.ok (.ret (.bool (decide (xs.toArray.size < ys.toArray.size))))) s
  have e : decide (xs.toArray.size < ys.toArray.size) = HT.lexLt (ns.drop i) (ms.drop i) := by
   rw [ah0 (by omega : ns.length <= i)]
   rcases oG hj i with ⟨e2, d2⟩ | ⟨y, ty, e2, d2⟩
   ·have := ad2.mp e2
    rw [d2]
    simp [HT.lexLt]
    omega
   ·have := (acX.mp e2).1
    rw [d2]
    simp [HT.lexLt]
    omega
  rw [e]; exact q
 | succ k ih =>
  intro i hk hle q
  refine ads aeM ?_
  rw [ada adJ _]
  show ac0 _ A.in1 (afD (.ref a) >>= _) _ _ s
  refine acA (adM ha da (acA (adM hb db ?_)))
  rw [adx, adt, adt]
  rcases oG hi i with ⟨e1, _⟩ | ⟨x, tx, e1, d1⟩
  ·have := ad2.mp e1
   omega
  rw [e1]
  rcases oG hj i with ⟨e2, d2⟩ | ⟨y, ty, e2, d2⟩
  ·rw [e2]
   dsimp only
   refine acA (adM ha da (acA (adM hb db ?_)))
   refine acD ?_
   show R (.ok (.ret (.bool (decide (xs.toArray.size < ys.toArray.size))))) s
   rw [d1, d2] at q
   have := ad2.mp e2
   rw [show decide (xs.toArray.size < ys.toArray.size) = false by simp; omega]
   exact q
  ·rw [e2]
   dsimp only
   refine acA (af4 ?_)
   rw [d1, d2, HT.lL] at q
   by_cases e : x = y
   ·rw [if_pos e] at q
    rw [show (x == y) = true by simpa using e, if_pos rfl]
    exact acD ⟨adT adJ _, ih (i + 1) (by omega) (by omega) q⟩
   ·rw [if_neg e] at q
    rw [show (x == y) = false by simpa using e, if_neg (by decide)]
    refine acA (adM ha da (acA (adM hb db ?_)))
    rw [adt, adt, e1, e2]
    dsimp only
    exact acA (BQ (acD q))
theorem Sz {a b : acJ} {oa ob : Obj} {n1 n2 : Nat} {xs ys : List acC} {ns ms : List Int} (ha : s.heap.get? a = some oa) (da : oa.data = .seq xs.toArray n1) (hb : s.heap.get? b = some ob) (db : ob.data = .seq ys.toArray n2) (hi : afP xs ns) (hj : afP ys ms) {R : ahp -> acF -> Prop} :
 ∀ (k i : Nat), xs.length - i = k -> i <= xs.length -> i <= ys.length -> R (.ok (.ret (.bool (!HT.lexLt (ms.drop i) (ns.drop i))))) s -> afi (model prog w) A (.builtin "list.__eq__.loop" ⟨[.ref a, .ref b, agF i, agF 1], []⟩) R s := by
 have Sx : xs.length = ns.length := hi.length
 have Sy : ys.length = ms.length := hj.length
 intro k
 induction k with
 | zero =>
  intro i hk hle SA q
  refine ads aeM ?_
  rw [ada adJ _]
  show ac0 _ A.in1 (afD (.ref a) >>= _) _ _ s
  refine acA (adM ha da (acA (adM hb db ?_)))
  rw [adx, adt, adt, afb (by omega : xs.length <= i)]
  dsimp only
  refine acA (adM ha da (acA (adM hb db ?_)))
  refine acD ?_
  show R (.ok (.ret (.bool (decide (xs.toArray.size <= ys.toArray.size))))) s
  have e : decide (xs.toArray.size <= ys.toArray.size) = !HT.lexLt (ms.drop i) (ns.drop i) := by
   rw [ah0 (by omega : ns.length <= i)]
   rcases oG hj i with ⟨e2, d2⟩ | ⟨y, ty, e2, d2⟩
   ·have := ad2.mp e2
    rw [d2]
    simp [HT.lexLt]
    omega
   ·have := (acX.mp e2).1
    rw [d2]
    simp [HT.lexLt]
    omega
  rw [e]; exact q
 | succ k ih =>
  intro i hk hle SA q
  refine ads aeM ?_
  rw [ada adJ _]
  show ac0 _ A.in1 (afD (.ref a) >>= _) _ _ s
  refine acA (adM ha da (acA (adM hb db ?_)))
  rw [adx, adt, adt]
  rcases oG hi i with ⟨e1, _⟩ | ⟨x, tx, e1, d1⟩
  ·have := ad2.mp e1
   omega
  rw [e1]
  rcases oG hj i with ⟨e2, d2⟩ | ⟨y, ty, e2, d2⟩
  ·rw [e2]
   dsimp only
   refine acA (adM ha da (acA (adM hb db ?_)))
   refine acD ?_
   show R (.ok (.ret (.bool (decide (xs.toArray.size <= ys.toArray.size))))) s
   rw [d1, d2] at q
   have := ad2.mp e2
   rw [show decide (xs.toArray.size <= ys.toArray.size) = false by simp; omega]
   exact q
  ·rw [e2]
   dsimp only
   refine acA (af4 ?_)
   rw [d1, d2, HT.lL] at q
   by_cases e : x = y
   ·rw [if_pos e.symm] at q
    rw [show (x == y) = true by simpa using e, if_pos rfl]
    exact acD ⟨adT adJ _, ih (i + 1) (by omega) (by omega) (by have := (acX.mp e2).1; omega) q⟩
   ·rw [if_neg (adV e)] at q
    rw [show (x == y) = false by simpa using e, if_neg (by decide)]
    refine acA (adM ha da (acA (adM hb db ?_)))
    rw [adt, adt, e1, e2]
    dsimp only
    refine acA (Sv (acD ?_))
    rw [show decide (x <= y) = !decide (y < x) by rw [aeX]; simp]
    exact q
noncomputable def ia (h : aer) (a : acJ) (ns : List Int) : Prop := ∃ o xs n, h.get? a = some o /\ o.cls = .type "list" /\ o.data = .seq (aep xs) n /\ afP xs ns
theorem SD {a b : acJ} {ns ms : List Int} {Q : acC -> acF -> Prop} (ha : ia s.heap a ns) (hb : ia s.heap b ms) (q : Q (.bool (HT.lexLt ns ms)) s) : ac0 (model prog w) A (call (.builtin "list.__lt__") [.ref a, .ref b]) Q E s := by
 obtain ⟨oa, xs, n1, h1, h2, h3, h4⟩ := ha
 obtain ⟨ob, ys, n2, g1, g2, g3, g4⟩ := hb
 refine ahq (afS PySem.F.slot_list_lt.plain PySem.F.entry_list_lt (PySem.F.slot_list_lt.check _ _ _ _ _ _ _ _ ⟨oa, h1, h2⟩ (PySem.F.args_list_lt_2 _ _) ?_))
 show ac0 _ A.in1 (akj (.ref b) (.type "list") >>= _) _ _ s
 refine acA (afA (T := "list") (b := true) ⟨ob, g1, g2⟩ (by rw [agD]; kernel_rfl) ?_)
 simp only [afd, acP, if_false]
 refine aeI (fun z => absurd z (by decide)) (fun _ => ?_)
 exact acD ⟨adT adJ _, Sw h1 h3 g1 g3 h4 g4 _ 0 rfl (adf _) q⟩
theorem SE {a b : acJ} {ns ms : List Int} {Q : acC -> acF -> Prop} (ha : ia s.heap a ns) (hb : ia s.heap b ms) (q : Q (.bool (!HT.lexLt ms ns)) s) : ac0 (model prog w) A (call (.builtin "list.__le__") [.ref a, .ref b]) Q E s := by
 obtain ⟨oa, xs, n1, h1, h2, h3, h4⟩ := ha
 obtain ⟨ob, ys, n2, g1, g2, g3, g4⟩ := hb
 refine ahq (afS PySem.F.slot_list_le.plain PySem.F.entry_list_le (PySem.F.slot_list_le.check _ _ _ _ _ _ _ _ ⟨oa, h1, h2⟩ (PySem.F.args_list_le_2 _ _) ?_))
 show ac0 _ A.in1 (akj (.ref b) (.type "list") >>= _) _ _ s
 refine acA (afA (T := "list") (b := true) ⟨ob, g1, g2⟩ (by rw [agD]; kernel_rfl) ?_)
 simp only [afd, acP, if_false]
 refine aeI (fun z => absurd z (by decide)) (fun _ => ?_)
 exact acD ⟨adT adJ _, Sz h1 h3 g1 g3 h4 g4 _ 0 rfl (adf _) (adf _) q⟩
theorem SF {a b : acJ} {ns ms : List Int} {Q : Bool -> acF -> Prop} (hu : A.units < age) (ha : ia s.heap a ns) (hb : ia s.heap b ms) (q : Q (HT.lexLt ns ms) s) : ac0 (model prog w) A (oneLt' true (.ref a) (.ref b)) Q E s := by
 rw [oneLt'_eq]
 simp only [if_true]
 refine acA (wpAny_cRoomFor hu ?_)
 refine acA (wpAny_callSpecialIfBound?_slot (let ⟨o, _, _, e, c, _⟩ := ha; ⟨o, e, c⟩) PySem.F.slot_list_lt (SD ha hb ?_))
 exact adF q
theorem SG {a b : acJ} {ns ms : List Int} {Q : acC -> acF -> Prop} (hu : A.units < age) (ha : ia s.heap a ns) (hb : ia s.heap b ms) (q : Q (.bool (!HT.lexLt ms ns)) s) : ac0 (model prog w) A (afw .LtE (.ref a) (.ref b)) Q E s :=
 ag5 (let ⟨o, _, _, e, c, _⟩ := ha; ⟨o, e, c⟩) (let ⟨o, _, _, e, c, _⟩ := hb; ⟨o, e, c⟩) PySem.F.slot_list_le (SE ha hb ⟨(fun z => nomatch z), q⟩) hu
noncomputable def w9 (h : aer) (vs : List acC) (kis : List (List Int)) (i : Nat) : Prop := ∃ p, vs[i]? = some (.ref p) /\ ia h p (kis.getD i [])
theorem SH {a : acJ} {vs : List acC} {kis : List (List Int)} {n : Nat} {P : akR -> acF -> Prop} (ho : s.heap.get? a = some (aey "list" vs.toArray n)) (hl : kis.length = vs.length) (b9 : vs.length < 64) (hu : A.units < age) (hk : ∀ i, i < vs.length -> w9 s.heap vs kis i) (SJ : ∀ i : Nat, vs[i]? ≠ some (ac3 a))
 (fin : ∀ h', (∀ b o, b ≠ a -> s.heap.get? b = some o -> h'.get? b = some o) -> (∃ c, h'.get? a = some (aey "list" (aep ((br (bG kis) vs.length).toList.map fun i => vs.getD i Value.none)) c)) -> P (.done (.ret .none)) { s with heap := h' }) :
 ac0 (model prog w) A (afH.«list.sort» ⟨[.ref a], []⟩) P E s := by
 rw [ajX]
 have la : a < s.heap.objs.size := acK ho
 refine acA (adM ho rfl (acA (agl ho rfl ?_ (by rw [ac4, aeY]; walk_at "om") (adf _))))
 obtain ⟨e1, oa⟩ : ∃ e1, (s.heap.update a (ae8 fun _ => (#[] : Array acC))).get? a = some (aey "list" #[] e1) := ⟨_, ag1 ho fun _ => #[]⟩
 have keep : ∀ b o, b ≠ a -> s.heap.get? b = some o -> (s.heap.update a (ae8 fun _ => (#[] : Array acC))).get? b = some o := fun b o z e => (acM _ _ (adV z)).trans e
 refine acA (ag2 oa rfl ?_)
 generalize s.heap.update a (ae8 fun _ => (#[] : Array acC)) = g at oa keep ⊢
 refine acA (wpAny_newTuple ?_ (by show vs.length <= _; rw [aeY]; walk_at "om")); refine acA (ahK ?_ (adf _))
 refine adK ?_
 show ac0 (model prog w) A _ P E { s with heap := (g.push (aey "tuple" vs.toArray 0)).push (aey "list" #[] 0) }
 have eZ : ((g.push (aey "tuple" vs.toArray 0)).push (aey "list" #[] 0)).get? a = some (aey "list" #[] e1) := acE _ (acE _ oa)
 have l9 : ∀ b o, b ≠ a -> s.heap.get? b = some o -> ((g.push (aey "tuple" vs.toArray 0)).push (aey "list" #[] 0)).get? b = some o := fun b o z e => acE _ (acE _ (keep b o z e))
 generalize (g.push (aey "tuple" vs.toArray 0)).push (aey "list" #[] 0) = g2 at eZ l9 ⊢
 dsimp only
 have Bb : ((br (bG kis) vs.length).toList.map fun i => vs.getD i Value.none).length = vs.length := by
  rw [acI, (nY (n := vs.length) (jt kis)).1.length_eq, aeq]
 have sz : (aep ((br (bG kis) vs.length).toList.map fun i => vs.getD i Value.none)).size <= adb + 1 := by rw [ac4, Bb, aeY]; walk_at "om"
 have done : P (.done (.ret .none)) { s with heap := g2.update a (ae8 fun _ => aep ((br (bG kis) vs.length).toList.map fun i => vs.getD i Value.none)) } :=
  fin _ (fun b o z e => (acM _ _ (adV z)).trans (l9 b o z e)) ⟨_, ag1 eZ fun _ => _⟩
 by_cases h2 : vs.toArray.size < 2
 ·rw [if_pos h2, if_pos h2]
  refine acA (acD ?_)
  rw [StateT.run_pure]
  refine acA (acD ?_)
  dsimp only
  have self : (adh vs.length).map (fun i => vs.getD i Value.none) = vs := by
   apply af7
   ·simp
   ·intro i h1 h2
    simp [acH, h2]
  have e0 : (arrOf (SortSt.mk' general' (vs.toArray.zip vs.toArray) #[] 7 none)).map (·.2) = aep ((br (bG kis) vs.length).toList.map fun i => vs.getD i Value.none) := by
   unfold br
   rw [if_pos (by simpa using h2)]
   apply ajA.mp
   rw [show (adh vs.length).toArray.toList = adh vs.length from rfl, self]
   show ((vs.toArray.zip vs.toArray).map (·.2)).toList = _
   simp [ajB]
  rw [e0]
  refine acA (ag2 eZ rfl (acA (agl eZ rfl ?_ (adf _) sz)))
  simp only [bne_self_eq_false, acP, if_false]
  exact acD done
 ·rw [if_neg h2, if_neg h2]
  have sj : 2 <= vs.length := by rw [ac4] at h2; walk_at "om"
  have dB : ∀ i, i < vs.length -> w9 g2 vs kis i := fun i hi => by
   obtain ⟨p, e, o, xs, m, h1, r⟩ := hk i hi
   exact ⟨p, e, o, xs, m, l9 p o (fun z => SJ i (by rw [e, z])) h1, r⟩
  refine acA (PySem.W.kas_kind (s := { s with heap := g2 }) (T := .type "list") sj (fun v hv => ?_) (by decide) (by decide) ?_)
  ·obtain ⟨i, hi, rfl⟩ := adQ hv
   obtain ⟨p, e, o, xs, m, h1, hc, _⟩ := dB i hi
   rw [acG hi] at e
   rw [Option.some.inj e, <- hc]
   exact (PySem.W.Looks.ld h1).andThen .now
  have ask : (ajC vs.length).kasWp (ajY prog w A (oneType') vs) (fun p s' => s' = { s with heap := g2 } /\ p = br (bG kis) vs.length) { s with heap := g2 } := by
   have pv := AR _ (AQ (n := vs.length) (jt kis) (by walk_at "om"))
   refine AN (lt := bG kis) (n := vs.length) (Ok := fun s' => s' = { s with heap := g2 }) (fun i j C s' hi hj e q => ?_) (fun p s' e q => ⟨e, ?_⟩) _ _ rfl pv
   ·subst e
    obtain ⟨p1, a1, l1⟩ := dB i hi
    obtain ⟨p2, a2, l2⟩ := dB j hj
    show ac0 _ _ (keyLt' oneType' (vs.getD i Value.none) (vs.getD j Value.none)) C _ _
    rw [acH, acH, a1, a2, keyLt'_oneType]
    exact SF (s := { s with heap := g2 }) hu l1 l2 (q _ rfl)
   ·rw [q]; unfold br; rw [if_neg (by walk_at "om")]
  refine acA (adz (ajZ (κ := oneType') (ks := vs) (vs := vs) (Q := fun st s' => s' = { s with heap := g2 } /\ arrOf st = (br (bG kis) vs.length).map (ajD (vs.toArray.zip vs.toArray)) /\ failedOf st = none)
   rfl sj b9 (fun p st s' b1 b2 b3 b4 => ⟨b4.1, by rw [b2, b4.2], b3⟩) ask) ?_ fun _ _ z => z)
  rintro ⟨⟨⟩, st⟩ s' ⟨rfl, har, hf⟩
  dsimp only
  rw [ajE rfl har]
  refine acA (ag2 eZ rfl (acA (agl eZ rfl ?_ (adf _) sz)))
  rw [hf]
  simp only [bne_self_eq_false, acP, if_false]
  exact acD done
theorem SK {r : acJ} {vs : List acC} {kis : List (List Int)} {Q : acC -> acF -> Prop} (hl : kis.length = vs.length) (b9 : vs.length < 64) (hu : A.units + 64 < age) (hk : ∀ i, i < vs.length -> w9 s.heap vs kis i)
 (Be : ∀ (A' : adD) (Q' : List acC -> acF -> Prop) (E' : acC -> acF -> Prop), A'.handled = A.handled -> (∀ h' tk, (∀ b o, s.heap.get? b = some o -> h'.get? b = some o) -> s.heap.objs.size <= h'.objs.size -> Q' vs { s with heap := h', toks := tk }) -> ac0 (model prog w) A' (collect (.ref r)) Q' E' s)
 (q : ∀ l h' tk, s.heap.objs.size <= l -> (∀ b o, s.heap.get? b = some o -> h'.get? b = some o) -> (∃ c, h'.get? l = some (aey "list" (aep ((br (bG kis) vs.length).toList.map fun i => vs.getD i Value.none)) c)) -> Q (.ref l) { s with heap := h', toks := tk }) :
 ac0 (model prog w) A (call (.builtin "sorted") [.ref r]) Q E s := by
 refine af0 kind_sorted plain_sorted entry_sorted (args_sorted1 _) ?_
 unfold afH.«sorted»
 refine acA (m := checkCount "sorted" 1 1 _) (acD (acA (Be _ _ _ rfl fun h1 tk keep hsz => ?_)))
 refine acA (ahK ?_ (by rw [aeY]; walk_at "om"))
 have oL : (h1.push (aey "list" vs.toArray 0)).get? h1.objs.size = some (aey "list" vs.toArray 0) := acT _ rfl
 have fM : ∀ b o, s.heap.get? b = some o -> b ≠ h1.objs.size /\ (h1.push (aey "list" vs.toArray 0)).get? b = some o := fun b o e => by
  have := acK e
  exact ⟨by walk_at "om", acE _ (keep b o e)⟩
 show ac0 _ A.in1 (holding [.ref h1.objs.size] (call (.builtin "list.sort") [.ref h1.objs.size]) >>= _) _ _ { s with heap := h1.push (aey "list" vs.toArray 0), toks := tk }
 generalize h1.push (aey "list" vs.toArray 0) = h2 at oL fM ⊢
 generalize h1.objs.size = l at oL fM hsz ⊢
 refine acA (adK (aek slot_list_sort ⟨_, oL, rfl⟩ aj0 ?body (args_list_sort _)))
 case body =>
  refine SH (s := { s with heap := h2, toks := tk }) oL hl b9 ?_ (fun i hi => let ⟨p, e, o, xs, m, h1, r⟩ := hk i hi; ⟨p, e, o, xs, m, (fM p o h1).2, r⟩) (fun i z => ?_) fun h' k c => ⟨_, rfl, acD ⟨_, rfl, q l h' tk hsz (fun b o e => k b o (fM b o e).1 (fM b o e).2) c⟩⟩
  ·exact adX (show A.units + 1 + 1 <= A.units + 64 by omega) hu
  ·have hi : i < vs.length := (acX.mp z).1
   obtain ⟨p, e, o, xs, m, h1, _⟩ := hk i hi
   rw [e] at z
   cases z
   exact (fM _ o h1).1 rfl
end
end Gz
namespace Gz
open PySem PySem.Spec PyProof.Rows L2
local macro_rules | `(tactic| walk_at "om") => `(tactic| ((try simp only [PySem.Addr] at *); omega))
section
variable {X : Cx} {pins : List (acJ × Obj)} {σ : L2.St} {H : Hp} {s : acF}
theorem BR (I : Inv X pins σ H s) {p : acJ} {ns : List Int} (h : H p = some (.lst (ns.map V.int))) : ia s.heap p ns := by
 obtain ⟨af, rv, pl, _⟩ := I.list (ag.of h)
 obtain ⟨o, ho, hc, m, hd⟩ := pl.isList
 exact ⟨o, af, m, ho, hc, hd, intsAre_of rv⟩
theorem SM (I : Inv X pins σ H s) {ks : List V} {kis : List (List Int)} {us : List acC} (h : ak (di H) ks kis) (r : Vals ks us) : ∀ i, i < us.length -> w9 s.heap us kis i := fun i hi => by
 have hk : i < ks.length := by rw [r.length]; exact hi
 obtain ⟨k, ek, p, ep, hp⟩ := h.get (acG hk)
 obtain ⟨u, eu, ru⟩ := r.get (acG hk)
 rw [ep] at ru
 cases ru
 refine ⟨p, eu, ?_⟩
 rw [acH, ek]
 exact BR I hp
noncomputable def SN (K : acB) (H : Hp) (Q : VK) (xs : List V) : Prop := ∃ (a : acJ) (ks : List V) (kis : List (List Int)), xs = [.ref a] /\ ag K H a ks /\ ak (di H) ks kis /\ ks.length < 64 /\ ∀ l, H l = none -> Q (.ref l) (upd H l (.lst (bL kis .non ks)))
theorem SO (hu : X.A.units + 64 < age) : cW X (.builtin "sorted") (fun xs H Q => SN X.K H Q xs) := by
 intro pins s σ H xs us Q I r h
 obtain ⟨a, ks, kis, rfl, hS, hK, b9, q⟩ := h
 obtain ⟨u, rfl, ru⟩ := vals1 r
 cases ru
 obtain ⟨af, rv, hp, hz⟩ := I.list hS
 have hl : af.length = ks.length := rv.length.symm
 refine SK (kis := kis) (by rw [<- hK.len, hl]) (by omega) hu (SM I hK rv) (fun A' Q' E' _ hq => collect_list hp.isList (hq _ s.toks (fun b o e => ?_) ?_) (by rw [hl]; exact hz)) fun l h' tk h1 h2 h3 => wz I rv hz h1 h2 h3 q
 ·have := acK e
  exact (acM _ _ (by walk_at "om")).trans (acE _ e)
 ·rw [ajF, size_push']; exact agX _
noncomputable def SQ (x y : V) (H : Hp) (Q : VK) : Prop := ∃ ns ms, di H x ns /\ di H y ms /\ Q (.bl (!HT.lexLt ms ns)) H
theorem SR (hu : X.A.units + 64 < age) : bJ X (aem .LtE) SQ := by
 rintro pins s σ H x y v u Q I rx ry ⟨ns, ms, ⟨p, rfl, hp⟩, ⟨r, rfl, hr⟩, q⟩
 cases rx
 cases ry
 show ac0 _ _ (afw .LtE _ _) _ _ _
 exact SG (adX (ahQ _ _) hu) (BR I hp) (BR I hr) ⟨.bl _, H, I, rfl, q⟩
end
end Gz
namespace Gz
open PySem PySem.Spec PyProof.Rows L2
theorem tN {α : Type} [DecidableEq α] : ∀ {l s : List α}, l.Nodup -> (∀ x ∈ l, x ∈ s) -> l.length <= s.length
 | [], _, _, _ => adf _
 | a :: l, s, hn, h => by
  have h1 := adP.mp hn
  have ih := tN (l := l) (s := s.erase a) h1.2 fun x hx => (afT (fun (e : x = a) => h1.1 (by rw [<- e]; exact hx))).mpr (h x (.tail _ hx))
  have := afp (h a (.head _))
  have := ae3 (h a (.head _))
  rw [ad8]
  omega
theorem Km (P : Int -> Bool) : ∀ n : Nat, ((adh n).map fun (i : Nat) => (i : Int)).filter P ∈ bH n
 | 0 => by simp [bH]
 | n + 1 => by
  have ih := Km P n
  rw [agm, aeH, ai2, bH]
  by_cases h : P n = true
  ·refine acL _ (acQ.mpr ⟨_, ih, ?_⟩)
   simp [h]
  ·refine adW _ ?_
   simpa [h] using ih
end Gz
namespace Gz
noncomputable def cp (ps : List P2) (s : List Int) : Bool := ps.all fun p => s.contains p.1 || s.contains p.2
noncomputable def jT (ps : List P2) (s : List Int) : Bool := !(s.any fun x => cp ps (s.filter fun y => decide (y ≠ x)))
noncomputable def bw (e : Nat) (m : Int) (ps : List P2) : List (List Int) := ((bH e).filter fun s => decide ((s.length : Int) <= m)).filter fun s => cp ps s && jT ps s
theorem fR : ∀ {n : Nat} {s : List Int}, s ∈ bH n -> s.Pairwise (· < ·) /\ ∀ x ∈ s, 0 <= x /\ x < (n : Int)
 | 0, s, h => by
  obtain rfl : s = [] := by simpa [bH] using h
  exact ⟨.nil, fun x hx => by cases hx⟩
 | n + 1, s, h => by
  rw [bH] at h
  rcases adj.mp h with h | h
  ·obtain ⟨a, b⟩ := fR h
   exact ⟨a, fun x hx => ⟨(b x hx).1, by have := (b x hx).2; omega⟩⟩
  ·obtain ⟨s', h', rfl⟩ := acQ.mp h
   obtain ⟨a, b⟩ := fR h'
   refine ⟨agT.mpr ⟨a, List.pairwise_singleton _ _, fun x hx y hy => ?_⟩, fun x hx => ?_⟩
   ·obtain rfl : y = (n : Int) := by simpa using hy
    exact (b x hx).2
   ·rcases adj.mp hx with z | z
    ·exact ⟨(b x z).1, by have := (b x z).2; omega⟩
    ·obtain rfl : x = (n : Int) := by simpa using z
     omega
theorem BS : ∀ {s t : List Int}, s.Pairwise (· < ·) -> t.Pairwise (· < ·) -> (∀ x, x ∈ s ↔ x ∈ t) -> s = t
 | [], [], _, _, _ => rfl
 | [], y :: t, _, _, h => by have := (h y).mpr (.head _); cases this
 | x :: s, [], _, _, h => by have := (h x).mp (.head _); cases this
 | x :: s, y :: t, hs, ht, h => by
  rw [adY] at hs ht
  have e : x = y := by
   rcases acN.mp ((h x).mp (.head _)) with z | z
   ·exact z
   ·rcases acN.mp ((h y).mpr (.head _)) with w | w
    ·exact w.symm
    ·have := ht.1 x z
     have := hs.1 y w
     omega
  subst e
  congr 1
  refine BS hs.2 ht.2 fun z => ?_
  constructor
  ·intro hz
   rcases acN.mp ((h z).mp (.tail _ hz)) with w | w
   ·have := hs.1 z hz; omega
   ·exact w
  ·intro hz
   rcases acN.mp ((h z).mpr (.tail _ hz)) with w | w
   ·have := ht.1 z hz; omega
   ·exact w
theorem Kn {n : Nat} {s : List Int} (h1 : s.Pairwise (· < ·)) (h2 : ∀ x ∈ s, 0 <= x /\ x < (n : Int)) : s ∈ bH n := by
 have hc := Km (fun x => s.contains x) n
 have e : ((adh n).map fun (i : Nat) => (i : Int)).filter (fun x => s.contains x) = s := by
  refine BS (fR hc).1 h1 fun x => ?_
  rw [adp, agL]
  constructor
  ·exact fun z => z.2
  ·intro z
   have := h2 x z
   exact ⟨acQ.mpr ⟨x.toNat, ady.mpr (by omega), by omega⟩, z⟩
 rw [e] at hc
 exact hc
theorem xa : ∀ n, (bH n).Nodup
 | 0 => by simp [bH]
 | n + 1 => by
  rw [bH, ahA]
  refine ⟨xa n, ?_, fun a ha b hb z => ?_⟩
  ·refine List.Pairwise.map _ (fun a b cw z => cw (List.append_cancel_right z)) (xa n)
  ·obtain ⟨s', _, rfl⟩ := acQ.mp hb
   have := (fR ha).2 (n : Int) (by rw [z]; simp)
   omega
theorem SU {n : Nat} {s : List Int} (h : s ∈ bH n) (P : Int -> Bool) : s.filter P ∈ bH n :=
 Kn ((fR h).1.sublist aeB) fun x hx => (fR h).2 x (adp.mp hx).1
theorem SV {ps : List P2} {s t : List Int} (h : ∀ x ∈ s, x ∈ t) (hs : cp ps s = true) : cp ps t = true := by
 unfold cp at *
 rw [adk] at *
 intro p hp
 have := hs p hp
 rw [afl, agL, agL] at *
 exact this.imp (h _) (h _)
theorem Ko {e : Nat} {m : Int} {ps : List P2} : ∀ (k : Nat) {s : List Int}, s.length <= k -> s ∈ bH e -> (s.length : Int) <= m -> cp ps s = true -> ∃ t ∈ bw e m ps, ∀ x ∈ t, x ∈ s
 | k, s, hk, hs, hm, he => by
  by_cases hl : jT ps s = true
  ·exact ⟨s, adp.mpr ⟨adp.mpr ⟨hs, decide_eq_true hm⟩, by rw [he, hl]; rfl⟩, fun x hx => hx⟩
  ·have : (s.any fun x => cp ps (s.filter fun y => decide (y ≠ x))) = true := by
    unfold jT at hl
    simpa using hl
   obtain ⟨x, hx, fg⟩ := ae9.mp this
   have aT : (s.filter fun y => decide (y ≠ x)).length < s.length := by
    refine Nat.lt_of_le_of_ne (ad5 _ _) fun z => ?_
    have := List.length_filter_eq_length_iff.mp z x hx
    simp at this
   match k, hk with
   | 0, hk => have := ae3 hx; omega
   | k + 1, hk =>
    obtain ⟨t, ht, h1⟩ := Ko (e := e) (m := m) (ps := ps) k (by omega) (SU hs _) (by omega) fg
    exact ⟨t, ht, fun y hy => (adp.mp (h1 y hy)).1⟩
theorem Kp {e : Nat} {m : Int} {ps : List P2} {s t : List Int} (hs : s ∈ bw e m ps) (ht : t ∈ bw e m ps) (h : ∀ x ∈ s, x ∈ t) : s = t := by
 unfold bw at hs ht
 obtain ⟨i0, cB⟩ := adp.mp hs
 obtain ⟨jU, Kq⟩ := adp.mp ht
 rw [aej] at cB Kq
 have cs := (adp.mp i0).1
 have ct := (adp.mp jU).1
 refine BS (fR cs).1 (fR ct).1 fun x => ⟨h x, fun hx => ?_⟩
 refine aeF fun hn => ?_
 have hl := Kq.2
 unfold jT at hl
 have hl : (t.any fun x => cp ps (t.filter fun y => decide (y ≠ x))) = false := by simpa using hl
 have := ahn.mp hl x hx
 refine this (SV (fun y hy => adp.mpr ⟨h y hy, decide_eq_true fun z => hn (z ▸ hy)⟩) cB.1)
noncomputable def tO (s : List Int) : Nat :=
 (if s.contains 0 then 1 else 0) + (if s.contains 1 then 2 else 0) + (if s.contains 2 then 4 else 0) + (if s.contains 3 then 8 else 0) +
 16 * (if s.contains 4 then (if s.contains 6 then (if s.contains 5 then 0 else 2) else 0) else if s.contains 5 then 1 else if s.contains 6 then 2 else 0)
theorem SW : ((bH 7).all fun s => (bH 7).all fun t => tO s != tO t || s.all (t.contains ·) || t.all (s.contains ·)) = true := by decide +kernel
theorem SX : ((bH 7).all fun s => tO s < 48) = true := by decide +kernel
theorem Kr {α : Type} [DecidableEq α] : ∀ (l L : List α), l.Nodup -> (∀ x ∈ l, x ∈ L) -> l.length <= L.length
 | [], _, _, _ => adf _
 | x :: l, L, hn, h => by
  rw [adP] at hn
  have := Kr l (L.erase x) hn.2 fun y hy => (afT (fun z => hn.1 (by rw [<- z]; exact hy))).mpr (h y (.tail _ hy))
  rw [afp (h x (.head _))] at this
  have := ae3 (h x (.head _))
  rw [ad8]
  omega
theorem BV {e : Nat} (he : e <= 7) (m : Int) (ps : List P2) : (bw e m ps).length <= 48 := by
 have nd : (bw e m ps).Nodup := (xa e).sublist (aeB.trans aeB)
 have sub : ∀ s ∈ bw e m ps, s ∈ bH 7 := fun s hs => by
  have := (adp.mp (adp.mp hs).1).1
  exact Kn (fR this).1 fun x hx => ⟨((fR this).2 x hx).1, by have := ((fR this).2 x hx).2; omega⟩
 have SY : ((bw e m ps).map tO).Nodup := by
  refine aht.mpr ?_
  refine List.Pairwise.imp_of_mem (fun {a b} ha hb cw z => ?_) nd
  have h1 := adk.mp (adk.mp SW a (sub a ha)) b (sub b hb)
  rw [afl, afl] at h1
  rcases h1 with (h1 | h1) | h1
  ·simp [z] at h1
  ·exact cw (Kp ha hb fun x hx => by simpa using adk.mp h1 x hx)
  ·exact cw (Kp hb ha fun x hx => by simpa using adk.mp h1 x hx).symm
 have := Kr ((bw e m ps).map tO) (adh 48) SY fun x hx => by
  obtain ⟨s, hs, rfl⟩ := acQ.mp hx
  exact ady.mpr (by simpa using adk.mp SX s (sub s hs))
 simpa using this
end Gz
namespace BW
open PySem L2 Gz
local macro_rules | `(tactic| walk_at "gzs") => `(tactic| simp only [vZ, v3, wx, wu, sU, nT, rT, rV, rW, vw, sT, wA, wH, rO, iL, fN, fO, List.map_cons, List.map_nil, tu, wL, tq, oz, wN, tM, iE, iK, tH, nz, q9, nE, jk, rj, nu, tC, q8, qY, nA, bM, nM, nI, lJ, rE, qP, qQ, tB, qR, qS, qT, qU, qV, qW, qX, qZ, rI, ft, rU, rn, rp, vG, vH, vI, vJ, vK, vA, vB, vC, vD, vE, vF, ite_tt, ite_ff, L2.start, vL, vM, List.map_cons, List.map_nil, List.length_cons, List.length_nil, List.replicate, List.append_nil, List.nil_append, List.cons_append, List.getElem?_cons_zero, List.getElem?_cons_succ, List.set_cons_zero, List.set_cons_succ, Option.some.injEq, V.int.injEq, V.bl.injEq, V.ref.injEq, List.cons.injEq, exists_eq_left, exists_eq_left', exists_and_left, true_and, and_true, decide_eq_true_eq, Nat.zero_add, Nat.sub_self, Nat.add_one_sub_one, Nat.reduceAdd, Nat.reduceSub, reduceCtorEq, decide_true, decide_false, Bool.not_true, Bool.not_false, Bool.not_eq_true', decide_eq_false_iff_not, false_and, exists_false, and_assoc, rC, rD, rM, iL, rN, vl, vN, vO, vP, ↓reduceIte, not_false_eq_true, not_true_eq_false, lX, nZ, vV, n4, nB, lz, sm, iE, iK, n5, nD, nC, wc, wd, nG, rA, nK, rF, vf, vd, ve, vg, rP, wg, wj, wk, nF, n9, sN, n6, sO, Option.join_some])
local macro_rules | `(tactic| walk_at "gzd") => `(tactic| dsimp only [vZ, v3, wx, wu, sU, nT, rT, rV, rW, vw, sT, wA, wH, rO, iL, fN, fO, List.map_cons, List.map_nil, tu, wL, tq, oz, wN, tM, iE, iK, tH, nz, q9, nE, jk, rj, nu, tC, q8, qY, nA, bM, nM, nI, lJ, rE, qP, qQ, tB, qR, qS, qT, qU, qV, qW, qX, qZ, rI, ft, rU, rn, rp, vG, vH, vI, vJ, vK, vA, vB, vC, vD, vE, vF, ite_tt, ite_ff, L2.start, vL, vM, List.map_cons, List.map_nil, List.length_cons, List.length_nil, List.replicate, List.append_nil, List.nil_append, List.cons_append, List.getElem?_cons_zero, List.getElem?_cons_succ, List.set_cons_zero, List.set_cons_succ, Option.some.injEq, V.int.injEq, V.bl.injEq, V.ref.injEq, List.cons.injEq, exists_eq_left, exists_eq_left', exists_and_left, true_and, and_true, decide_eq_true_eq, Nat.zero_add, Nat.sub_self, Nat.add_one_sub_one, Nat.reduceAdd, Nat.reduceSub, reduceCtorEq, decide_true, decide_false, Bool.not_true, Bool.not_false, Bool.not_eq_true', decide_eq_false_iff_not, false_and, exists_false, and_assoc, rC, rD, rM, iL, rN, vl, vN, vO, vP, ↓reduceIte, not_false_eq_true, not_true_eq_false, lX, nZ, vV, n4, nB, lz, sm, iE, iK, n5, nD, nC, wc, wd, nG, rA, nK, rF, vf, vd, ve, vg, rP, wg, wj, wk, nF, n9, sN, n6, sO, Option.join_some])
local macro_rules | `(tactic| walk_at "gzp") => `(tactic| first | (walk_at "gzd"; try walk_at "gzs") | walk_at "gzs")
local macro_rules | `(tactic| walk_at "gz") => `(tactic| try walk_at "gzp")
local macro_rules | `(tactic| walk_at "gza") => `(tactic| simp only [vZ, v3, wx, wu, sU, nT, rT, rV, rW, vw, sT, wA, wH, rO, iL, fN, fO, List.map_cons, List.map_nil, tu, wL, tq, oz, wN, tM, iE, iK, tH, nz, q9, nE, jk, rj, nu, tC, q8, qY, nA, bM, nM, nI, lJ, rE, qP, qQ, tB, qR, qS, qT, qU, qV, qW, qX, qZ, rI, ft, rU, rn, rp, vG, vH, vI, vJ, vK, vA, vB, vC, vD, vE, vF, ite_tt, ite_ff, L2.start, vL, vM, List.map_cons, List.map_nil, List.length_cons, List.length_nil, List.replicate, List.append_nil, List.nil_append, List.cons_append, List.getElem?_cons_zero, List.getElem?_cons_succ, List.set_cons_zero, List.set_cons_succ, Option.some.injEq, V.int.injEq, V.bl.injEq, V.ref.injEq, List.cons.injEq, exists_eq_left, exists_eq_left', exists_and_left, true_and, and_true, decide_eq_true_eq, Nat.zero_add, Nat.sub_self, Nat.add_one_sub_one, Nat.reduceAdd, Nat.reduceSub, reduceCtorEq, decide_true, decide_false, Bool.not_true, Bool.not_false, Bool.not_eq_true', decide_eq_false_iff_not, false_and, exists_false, and_assoc, rC, rD, rM, iL, rN, vl, vN, vO, vP, ↓reduceIte, not_false_eq_true, not_true_eq_false, lX, nZ, vV, n4, nB, lz, sm, iE, iK, n5, nD, nC, wc, wd, nG, rA, nK, rF, vf, vd, ve, vg, rP, wg, wj, wk, nF, n9, sN, n6, sO, Option.join_some] at *)
local macro_rules | `(tactic| walk_at "sd") => `(tactic| (and_intros <;> first | assumption | exact vQ (by decide) | exact vQ (O0 _) | exact HA (by decide) (by decide) | exact ⟨by decide, by decide, by decide⟩ | decide | omega))
local macro_rules | `(tactic| walk_at "gzn") => `(tactic| ((try walk_at "gzd"); (try simp only [vZ, v3, wx, wu, sU, nT, rT, rV, rW, vw, sT, wA, wH, rO, iL, fN, fO, List.map_cons, List.map_nil, tu, wL, tq, oz, wN, tM, iE, iK, tH, nz, q9, nE, jk, rj, nu, tC, q8, qY, nA, bM, nM, nI, lJ, rE, qP, qQ, tB, qR, qS, qT, qU, qV, qW, qX, qZ, rI, ft, rU, rn, rp, vG, vH, vI, vJ, vK, vA, vB, vC, vD, vE, vF, ite_tt, ite_ff, L2.start, vL, vM, List.map_cons, List.map_nil, List.length_cons, List.length_nil, List.replicate, List.append_nil, List.nil_append, List.cons_append, List.getElem?_cons_zero, List.getElem?_cons_succ, List.set_cons_zero, List.set_cons_succ, Option.some.injEq, V.int.injEq, V.bl.injEq, V.ref.injEq, List.cons.injEq, exists_eq_left, exists_eq_left', exists_and_left, true_and, and_true, decide_eq_true_eq, Nat.zero_add, Nat.sub_self, Nat.add_one_sub_one, Nat.reduceAdd, Nat.reduceSub, reduceCtorEq, decide_true, decide_false, Bool.not_true, Bool.not_false, Bool.not_eq_true', decide_eq_false_iff_not, false_and, exists_false, and_assoc, rC, rD, rM, iL, rN, vl, vN, vO, vP, ↓reduceIte, not_false_eq_true, not_true_eq_false, lX, nZ, vV, n4, nB, lz, sm, iE, iK, n5, nD, nC, wc, wd, nG, rA, nK, rF, vf, vd, ve, vg, rP, wg, wj, wk, nF, n9, sN, n6, sO, Option.join_some, Int.reducePow, Int.reduceToNat, Int.reduceMul, Int.reduceAdd])))
noncomputable def ib (H : Hp) (v : V) (m : Mk) : Prop := ∃ (t p : acJ), v = .ref t /\ H t = some (.tup [.int m.1, .ref p]) /\ H p = some (.tup [ev m.2.1, ev m.2.2])
theorem ib.same {H H' : Hp} {v : V} {m : Mk} (h : ib H v m) (s : aj H H') : ib H' v m := let ⟨t, p, e, a, b⟩ := h; ⟨t, p, e, s _ _ a, s _ _ b⟩
noncomputable def top (i : Nat) : afU := PySem.Challenge.pw_gaze_k42_suspects.main.body.getD i (.Pass ⟨0, 0, 0, 0⟩)
noncomputable abbrev oH : afU := top 7
noncomputable abbrev oI : afU := top 8
noncomputable abbrev oJ : afU := top 9
noncomputable abbrev oK : afU := top 11
noncomputable abbrev oM : afU := top 12
noncomputable abbrev oN : afU := top 13
noncomputable abbrev oO : afU := top 14
noncomputable abbrev oP : afU := top 16
noncomputable abbrev oQ : afU := top 17
noncomputable abbrev oR : afU := top 18
noncomputable abbrev oT : afU := top 19
noncomputable abbrev oU : afU := top 21
noncomputable abbrev oV : afU := top 22
noncomputable abbrev oW : afU := top 23
noncomputable abbrev oX : afU := top 24
noncomputable abbrev oY : afU := top 25
noncomputable abbrev oZ : afU := top 26
noncomputable abbrev o4 : afU := top 27
noncomputable abbrev o5 : afU := top 28
noncomputable abbrev o6 : afU := inClass (top 32) 0
noncomputable abbrev o7 : afU := inClass (top 32) 1
noncomputable abbrev o8 : afU := inClass (top 32) 2
noncomputable abbrev o9 : afU := inClass (top 32) 3
noncomputable abbrev pd : afU := inClass (top 32) 4
noncomputable abbrev pe : afU := inClass (top 32) 6
noncomputable abbrev pf : afU := inClass (top 32) 10
noncomputable abbrev ph : afU := inClass (top 32) 11
noncomputable abbrev pj : afU := top 34
noncomputable abbrev pk : afU := top 35
noncomputable abbrev pq : afU := top 36
noncomputable abbrev pw : afU := top 37
noncomputable abbrev pA : afU := top 38
noncomputable abbrev pB : afU := top 39
noncomputable abbrev pC : afU := top 40
noncomputable abbrev pE : afU := top 41
noncomputable abbrev pF : afU := top 42
noncomputable abbrev pG : afU := top 43
noncomputable abbrev pH : afU := top 44
noncomputable abbrev pI : afU := top 45
noncomputable abbrev pJ : afU := top 46
noncomputable abbrev pK : afU := top 47
noncomputable abbrev pL : afU := top 48
noncomputable abbrev pM : afU := top 49
noncomputable abbrev pN : afU := top 50
noncomputable abbrev pO : afU := top 51
noncomputable abbrev fS : afU := top 52
theorem S0 : aV ["lo", "hi"] ["lo", "hi"] (aw oH) := ⟨rfl, rfl, rfl, by decide +kernel, rfl, by decide +kernel, by decide +kernel⟩
theorem BX : aV ["one", "other", "lo", "hi"] ["one", "other"] (aw oI) := ⟨rfl, rfl, rfl, by decide +kernel, rfl, by decide +kernel, by decide +kernel⟩
theorem xb : aV ["some", "whole", "one"] ["some"] (aw oJ) := ⟨rfl, rfl, rfl, by decide +kernel, rfl, by decide +kernel, by decide +kernel⟩
theorem S6 : aV ["one", "other"] ["one", "other"] (aw oK) := ⟨rfl, rfl, rfl, by decide +kernel, rfl, by decide +kernel, by decide +kernel⟩
theorem S7 : aV ["one", "by"] ["one", "by"] (aw oM) := ⟨rfl, rfl, rfl, by decide +kernel, rfl, by decide +kernel, by decide +kernel⟩
theorem pP : aV ["steps", "marks", "tops", "number", "mark", "turn"] ["steps", "marks"] (aw oN) := ⟨rfl, rfl, rfl, by decide +kernel, rfl, by decide +kernel, by decide +kernel⟩
theorem xf : aV ["tops", "marks", "number", "mark", "top"] ["tops", "marks"] (aw oO) := ⟨rfl, rfl, rfl, by decide +kernel, rfl, by decide +kernel, by decide +kernel⟩
theorem S8 : aV ["board", "kind", "turn"] ["board", "kind", "turn"] (aw oP) := ⟨rfl, rfl, rfl, by decide +kernel, rfl, by decide +kernel, by decide +kernel⟩
theorem Ks : aV ["board", "claim", "part"] ["board", "claim"] (aw oQ) := ⟨rfl, rfl, rfl, by decide +kernel, rfl, by decide +kernel, by decide +kernel⟩
theorem S9 : aV ["claim", "kind", "turn"] ["claim", "kind", "turn"] (aw oR) := ⟨rfl, rfl, rfl, by decide +kernel, rfl, by decide +kernel, by decide +kernel⟩
theorem Kt : aV ["board", "claim", "own"] ["board", "claim"] (aw oT) := ⟨rfl, rfl, rfl, by decide +kernel, rfl, by decide +kernel, by decide +kernel⟩
theorem Tc : aV ["board", "eye"] ["board", "eye"] (aw oU) := ⟨rfl, rfl, rfl, by decide +kernel, rfl, by decide +kernel, by decide +kernel⟩
theorem Td : aV ["board"] ["board"] (aw oV) := ⟨rfl, rfl, rfl, by decide +kernel, rfl, by decide +kernel, by decide +kernel⟩
theorem jV : aV ["steps", "groups", "found", "name", "marks", "tops", "beside", "others", "pair"] ["steps", "groups"] (aw oW) := ⟨rfl, rfl, rfl, by decide +kernel, rfl, by decide +kernel, by decide +kernel⟩
theorem BY : aV ["board", "found", "pairs"] ["board"] (aw oX) := ⟨rfl, rfl, rfl, by decide +kernel, rfl, by decide +kernel, by decide +kernel⟩
theorem xg : aV ["eyes", "some", "eye"] ["eyes"] (aw oY) := ⟨rfl, rfl, rfl, by decide +kernel, rfl, by decide +kernel, by decide +kernel⟩
theorem Te : aV ["pairs", "some"] ["pairs", "some"] (aw oZ) := ⟨rfl, rfl, rfl, by decide +kernel, rfl, by decide +kernel, by decide +kernel⟩
theorem Tf : aV ["pairs", "some"] ["pairs", "some"] (aw o4) := ⟨rfl, rfl, rfl, by decide +kernel, rfl, by decide +kernel, by decide +kernel⟩
theorem BZ : aV ["board", "pairs", "few"] ["board"] (aw o5) := ⟨rfl, rfl, rfl, by decide +kernel, rfl, by decide +kernel, by decide +kernel⟩
theorem Tg : aV ["self", "eyes", "turns", "up", "down", "most"] ["self", "eyes", "turns", "up", "down", "most"] (aw o6) := ⟨rfl, rfl, rfl, by decide +kernel, rfl, by decide +kernel, by decide +kernel⟩
theorem Th : aV ["self", "eye"] ["self", "eye"] (aw o7) := ⟨rfl, rfl, rfl, by decide +kernel, rfl, by decide +kernel, by decide +kernel⟩
theorem Ti : aV ["self", "turn"] ["self", "turn"] (aw o8) := ⟨rfl, rfl, rfl, by decide +kernel, rfl, by decide +kernel, by decide +kernel⟩
theorem Tj : aV ["self", "eye", "turn", "lo", "hi"] ["self", "eye", "turn", "lo", "hi"] (aw o9) := ⟨rfl, rfl, rfl, by decide +kernel, rfl, by decide +kernel, by decide +kernel⟩
theorem Tn : aV ["self", "eye", "turn"] ["self", "eye", "turn"] (aw pd) := ⟨rfl, rfl, rfl, by decide +kernel, rfl, by decide +kernel, by decide +kernel⟩
theorem To : aV ["self"] ["self"] (aw pe) := ⟨rfl, rfl, rfl, by decide +kernel, rfl, by decide +kernel, by decide +kernel⟩
theorem Tp : aV ["self", "eye", "turn"] ["self", "eye", "turn"] (aw pf) := ⟨rfl, rfl, rfl, by decide +kernel, rfl, by decide +kernel, by decide +kernel⟩
theorem Tq : aV ["self", "eye", "turn"] ["self", "eye", "turn"] (aw ph) := ⟨rfl, rfl, rfl, by decide +kernel, rfl, by decide +kernel, by decide +kernel⟩
theorem B0 : aV ["_law_script", "_law_k", "_law_many", "_law_cell"] ["_law_script", "_law_k", "_law_many"] (aw pj) := ⟨rfl, rfl, rfl, by decide +kernel, rfl, by decide +kernel, by decide +kernel⟩
theorem B2 : aV ["_law_script", "_law_k", "_law_many", "_law_cell"] ["_law_script", "_law_k", "_law_many"] (aw pk) := ⟨rfl, rfl, rfl, by decide +kernel, rfl, by decide +kernel, by decide +kernel⟩
theorem cz : aV ["_law_script", "_law_way", "_law_eyes_here", "_law_turns", "_law_most", "_law_far", "_law_up", "_law_down"] ["_law_script"] (aw pq) := ⟨rfl, rfl, rfl, by decide +kernel, rfl, by decide +kernel, by decide +kernel⟩
theorem pQ : aV ["_law_script", "_law_shape_here", "_law_size", "_law_number", "_law_course_here", "_law_k"] ["_law_script", "_law_shape_here"] (aw pw) := ⟨rfl, rfl, rfl, by decide +kernel, rfl, by decide +kernel, by decide +kernel⟩
theorem ic : aV ["_law_script", "_law_k", "_law_far", "_law_number", "_law_false", "_law_by", "_law_lo", "_law_hi", "_law_end"] ["_law_script", "_law_k", "_law_far", "_law_number", "_law_false"] (aw pA) := ⟨rfl, rfl, rfl, by decide +kernel, rfl, by decide +kernel, by decide +kernel⟩
theorem ie : aV ["_law_script", "_law_shape_here", "_law_course_here", "_law_told_here", "_law_dense", "_law_limit", "_law_eye", "_law_false", "_law_turn", "_law_k"] ["_law_script", "_law_shape_here", "_law_course_here"] (aw pB) := ⟨rfl, rfl, rfl, by decide +kernel, rfl, by decide +kernel, by decide +kernel⟩
theorem tP : aV ["_law_script", "_law_shape_here", "_law_told_here", "_law_board_here", "_law_spots", "_law_eye", "_law_turn"] ["_law_script", "_law_shape_here", "_law_told_here"] (aw pC) := ⟨rfl, rfl, rfl, by decide +kernel, rfl, by decide +kernel, by decide +kernel⟩
theorem Tr : aV ["_law_found"] ["_law_found"] (aw pE) := ⟨rfl, rfl, rfl, by decide +kernel, rfl, by decide +kernel, by decide +kernel⟩
theorem Ku : aV ["_law_board_here", "_law_told_here", "_law_spots"] ["_law_board_here", "_law_told_here"] (aw pF) := ⟨rfl, rfl, rfl, by decide +kernel, rfl, by decide +kernel, by decide +kernel⟩
theorem Kv : aV ["_law_script", "_law_shape_here", "_law_course_here", "_law_told_here", "_law_board_here", "_law_spot"] ["_law_script", "_law_shape_here", "_law_course_here", "_law_told_here", "_law_board_here"] (aw pG) := ⟨rfl, rfl, rfl, by decide +kernel, rfl, by decide +kernel, by decide +kernel⟩
theorem Ts : aV ["_law_shape_here", "_law_one", "_law_other"] ["_law_shape_here", "_law_one", "_law_other"] (aw pH) := ⟨rfl, rfl, rfl, by decide +kernel, rfl, by decide +kernel, by decide +kernel⟩
theorem B3 : aV ["_law_shape_here", "_law_told_here", "_law_one", "_law_other", "_law_hi", "_law_lo"] ["_law_shape_here", "_law_told_here", "_law_one", "_law_other"] (aw pI) := ⟨rfl, rfl, rfl, by decide +kernel, rfl, by decide +kernel, by decide +kernel⟩
theorem xh : aV ["_law_shape_here", "_law_told_here", "_law_pairs_here", "_law_one", "_law_other"] ["_law_shape_here", "_law_told_here"] (aw pJ) := ⟨rfl, rfl, rfl, by decide +kernel, rfl, by decide +kernel, by decide +kernel⟩
theorem B4 : aV ["_law_some", "_law_pairs_here", "_law_one", "_law_other"] ["_law_some", "_law_pairs_here"] (aw pK) := ⟨rfl, rfl, rfl, by decide +kernel, rfl, by decide +kernel, by decide +kernel⟩
theorem Kw : aV ["_law_some", "_law_more", "_law_eye"] ["_law_some", "_law_more"] (aw pL) := ⟨rfl, rfl, rfl, by decide +kernel, rfl, by decide +kernel, by decide +kernel⟩
theorem xi : aV ["_law_many", "_law_lists_here", "_law_eye"] ["_law_many"] (aw pM) := ⟨rfl, rfl, rfl, by decide +kernel, rfl, by decide +kernel, by decide +kernel⟩
theorem Kx : aV ["_law_some", "_law_shape_here", "_law_k"] ["_law_some", "_law_shape_here"] (aw pN) := ⟨rfl, rfl, rfl, by decide +kernel, rfl, by decide +kernel, by decide +kernel⟩
theorem B5 : aV ["_law_found", "_law_shape_here", "_law_pairs_here", "_law_some", "_law_more"] ["_law_found", "_law_shape_here", "_law_pairs_here"] (aw pO) := ⟨rfl, rfl, rfl, by decide +kernel, rfl, by decide +kernel, by decide +kernel⟩
theorem ig : aV ["_law_script", "_law_shape_here", "_law_course_here", "_law_told_here", "_law_board_here", "_law_pairs_here", "_law_found", "_law_kept", "_law_again", "_law_some"] ["_law_script"] (aw fS) := ⟨rfl, rfl, rfl, by decide +kernel, rfl, by decide +kernel, by decide +kernel⟩
set_option genInjectivity false
set_option genSizeOf false
structure Tx (K : acB) (mg : Str -> Option acC) where
 jW : acJ
 xj : adg
 mE : aU K "is_crossed" "is_crossed" oH jW xj
 B6 : mg "is_crossed" = some (.ref jW)
 tQ : Binds K xj ["lo", "hi"] []
 jX : acJ
 xk : adg
 pR : aU K "meet" "meet" oI jX xk
 Ky : mg "meet" = some (.ref jX)
 xl : Binds K xk ["one", "other"] []
 jY : acJ
 xm : adg
 pS : aU K "common" "common" oJ jY xm
 Kz : mg "common" = some (.ref jY)
 xn : Binds K xm ["some"] []
 jZ : acJ
 xo : adg
 j4 : aU K "lesser" "lesser" oK jZ xo
 xq : mg "lesser" = some (.ref jZ)
 pT : Binds K xo ["one", "other"] []
 j5 : acJ
 xr : adg
 mF : aU K "lifted" "lifted" oM j5 xr
 B7 : mg "lifted" = some (.ref j5)
 tR : Binds K xr ["one", "by"] []
 j6 : acJ
 xt : adg
 pU : aU K "ceilings" "ceilings" oN j6 xt
 KA : mg "ceilings" = some (.ref j6)
 xu : Binds K xt ["steps", "marks"] []
 j7 : acJ
 xx : adg
 pV : aU K "crossing" "crossing" oO j7 xx
 KC : mg "crossing" = some (.ref j7)
 xy : Binds K xx ["tops", "marks"] []
 j8 : acJ
 xA : adg
 pW : aU K "has_part" "has_part" oP j8 xA
 KG : mg "has_part" = some (.ref j8)
 xB : Binds K xA ["board", "kind", "turn"] []
 j9 : acJ
 xC : adg
 pX : aU K "check_claim" "check_claim" oQ j9 xC
 KH : mg "check_claim" = some (.ref j9)
 xD : Binds K xC ["board", "claim"] []
 kc : acJ
 xE : adg
 pY : aU K "stretches_of" "stretches_of" oR kc xE
 KI : mg "stretches_of" = some (.ref kc)
 xF : Binds K xE ["claim", "kind", "turn"] []
 kd : acJ
 xG : adg
 pZ : aU K "paces" "paces" oT kd xG
 KJ : mg "paces" = some (.ref kd)
 xH : Binds K xG ["board", "claim"] []
 ke : acJ
 xI : adg
 p0 : aU K "marks_of" "marks_of" oU ke xI
 KL : mg "marks_of" = some (.ref ke)
 xJ : Binds K xI ["board", "eye"] []
 kf : acJ
 xK : adg
 p8 : aU K "groups_of" "groups_of" oV kf xK
 KN : mg "groups_of" = some (.ref kf)
 xM : Binds K xK ["board"] []
 kg : acJ
 xN : adg
 p9 : aU K "clashes" "clashes" oW kg xN
 KO : mg "clashes" = some (.ref kg)
 xO : Binds K xN ["steps", "groups"] []
 kh : acJ
 xP : adg
 qb : aU K "quarrels" "quarrels" oX kh xP
 KP : mg "quarrels" = some (.ref kh)
 xQ : Binds K xP ["board"] []
 ki : acJ
 xR : adg
 qc : aU K "choices" "choices" oY ki xR
 KQ : mg "choices" = some (.ref ki)
 xS : Binds K xR ["eyes"] []
 kj : acJ
 xT : adg
 mG : aU K "is_enough" "is_enough" oZ kj xT
 B8 : mg "is_enough" = some (.ref kj)
 tS : Binds K xT ["pairs", "some"] []
 ko : acJ
 xU : adg
 qd : aU K "is_lean" "is_lean" o4 ko xU
 KR : mg "is_lean" = some (.ref ko)
 xV : Binds K xU ["pairs", "some"] []
 kr : acJ
 xW : adg
 i5 : aU K "suspects" "suspects" o5 kr xW
 tT : mg "suspects" = some (.ref kr)
 mH : Binds K xW ["board"] []
 ku : acJ
 xX : adg
 tU : aU K "__init__" "Board.__init__" o6 ku xX
 xY : Binds K xX ["self", "eyes", "turns", "up", "down", "most"] []
 kx : acJ
 xZ : adg
 tV : aU K "has_eye" "Board.has_eye" o7 kx xZ
 x3 : Binds K xZ ["self", "eye"] []
 kz : acJ
 x4 : adg
 tW : aU K "has_turn" "Board.has_turn" o8 kz x4
 mI : Binds K x4 ["self", "turn"] []
 kA : acJ
 x5 : adg
 tX : aU K "tell" "Board.tell" o9 kA x5
 tY : Binds K x5 ["self", "eye", "turn", "lo", "hi"] []
 kB : acJ
 x6 : adg
 tZ : aU K "hush" "Board.hush" pd kB x6
 x8 : Binds K x6 ["self", "eye", "turn"] []
 kC : acJ
 x9 : adg
 t7 : aU K "tellings" "Board.tellings" pe kC x9
 t8 : Binds K x9 ["self"] []
 kD : acJ
 ya : adg
 t9 : aU K "check_spot" "Board.check_spot" pf kD ya
 yb : Binds K ya ["self", "eye", "turn"] []
 kE : acJ
 yc : adg
 ua : aU K "check_word" "Board.check_word" ph kE yc
 yd : Binds K yc ["self", "eye", "turn"] []
 kF : acJ
 ye : adg
 bI : aU K "_law_pick" "_law_pick" pj kF ye
 bZ : mg "_law_pick" = some (.ref kF)
 bP : Binds K ye ["_law_script", "_law_k", "_law_many"] []
 kG : acJ
 yf : adg
 kH : aU K "_law_wide" "_law_wide" pk kG yf
 yg : mg "_law_wide" = some (.ref kG)
 qe : Binds K yf ["_law_script", "_law_k", "_law_many"] []
 kI : acJ
 yh : adg
 qf : aU K "_law_shape" "_law_shape" pq kI yh
 KS : mg "_law_shape" = some (.ref kI)
 yi : Binds K yh ["_law_script"] []
 kJ : acJ
 yj : adg
 qg : aU K "_law_course" "_law_course" pw kJ yj
 KU : mg "_law_course" = some (.ref kJ)
 yk : Binds K yj ["_law_script", "_law_shape_here"] []
 kK : acJ
 ym : adg
 mJ : aU K "_law_word" "_law_word" pA kK ym
 B9 : mg "_law_word" = some (.ref kK)
 ue : Binds K ym ["_law_script", "_law_k", "_law_far", "_law_number", "_law_false"] []
 kL : acJ
 yn : adg
 qh : aU K "_law_words" "_law_words" pB kL yn
 KW : mg "_law_words" = some (.ref kL)
 yo : Binds K yn ["_law_script", "_law_shape_here", "_law_course_here"] []
 kM : acJ
 yp : adg
 qi : aU K "_law_board" "_law_board" pC kM yp
 KY : mg "_law_board" = some (.ref kM)
 yq : Binds K yp ["_law_script", "_law_shape_here", "_law_told_here"] []
 kN : acJ
 yr : adg
 qj : aU K "_law_whole" "_law_whole" pE kN yr
 KZ : mg "_law_whole" = some (.ref kN)
 yt : Binds K yr ["_law_found"] []
 kO : acJ
 yu : adg
 qk : aU K "_law_same" "_law_same" pF kO yu
 K0 : mg "_law_same" = some (.ref kO)
 yw : Binds K yu ["_law_board_here", "_law_told_here"] []
 kP : acJ
 yy : adg
 ql : aU K "_law_deed" "_law_deed" pG kP yy
 K1 : mg "_law_deed" = some (.ref kP)
 yz : Binds K yy ["_law_script", "_law_shape_here", "_law_course_here", "_law_told_here", "_law_board_here"] []
 kQ : acJ
 yA : adg
 qm : aU K "_law_above" "_law_above" pH kQ yA
 K2 : mg "_law_above" = some (.ref kQ)
 yB : Binds K yA ["_law_shape_here", "_law_one", "_law_other"] []
 kR : acJ
 yC : adg
 qo : aU K "_law_against" "_law_against" pI kR yC
 K3 : mg "_law_against" = some (.ref kR)
 yD : Binds K yC ["_law_shape_here", "_law_told_here", "_law_one", "_law_other"] []
 kS : acJ
 yE : adg
 mK : aU K "_law_pairs" "_law_pairs" pJ kS yE
 Ca : mg "_law_pairs" = some (.ref kS)
 uf : Binds K yE ["_law_shape_here", "_law_told_here"] []
 kT : acJ
 yF : adg
 kU : aU K "_law_covers" "_law_covers" pK kT yF
 yG : mg "_law_covers" = some (.ref kT)
 qp : Binds K yF ["_law_some", "_law_pairs_here"] []
 kW : acJ
 yH : adg
 qq : aU K "_law_within" "_law_within" pL kW yH
 K4 : mg "_law_within" = some (.ref kW)
 yI : Binds K yH ["_law_some", "_law_more"] []
 kX : acJ
 yJ : adg
 qr : aU K "_law_lists" "_law_lists" pM kX yJ
 K5 : mg "_law_lists" = some (.ref kX)
 yK : Binds K yJ ["_law_many"] []
 kY : acJ
 yL : adg
 qt : aU K "_law_eyes" "_law_eyes" pN kY yL
 K6 : mg "_law_eyes" = some (.ref kY)
 yM : Binds K yL ["_law_some", "_law_shape_here"] []
 kZ : acJ
 yN : adg
 mL : aU K "_law_told" "_law_told" pO kZ yN
 Cb : mg "_law_told" = some (.ref kZ)
 ug : Binds K yN ["_law_found", "_law_shape_here", "_law_pairs_here"] []
 ij : acJ
 uh : adg
 ui : aU K "law" "law" fS ij uh
 Tt : mg "law" = some (.ref ij)
 Cc : Binds K uh ["_law_script"] []
 K7 : mg "all" = none
 K8 : mg "any" = none
 K9 : mg "bool" = none
 Cd : mg "enumerate" = none
 La : mg "int" = none
 uj : mg "isinstance" = none
 eg : mg "len" = none
 mM : mg "list" = none
 yO : mg "max" = none
 k6 : mg "min" = none
 fh : mg "range" = none
 Lb : mg "set" = none
 qu : mg "sorted" = none
 uk : acJ
 Tu : mg "GazeError" = some (.ref uk)
 el : acJ
 yP : mg "NoBoard" = some (.ref el)
 c9 : acJ
 yQ : mg "NoTelling" = some (.ref c9)
 eo : acJ
 Lc : mg "NoClaim" = some (.ref eo)
 aH : acJ
 Ld : mg "Board" = some (.ref aH)
 bB : fz K aH
 i6 : fA K aH "eyes"
 k7 : fA K aH "turns"
 mO : fA K aH "up"
 mP : fA K aH "down"
 mQ : fA K aH "most"
 gE : fA K aH "told"
 qv : Mk K aH ku
 Le : Meth K aH "has_eye" kx
 um : Meth K aH "has_turn" kz
 Ce : Meth K aH "tell" kA
 Lf : Meth K aH "hush" kB
 Cf : Meth K aH "tellings" kC
 Lg : Meth K aH "check_spot" kD
 Lh : Meth K aH "check_word" kE
 yR : XC K el
 yS : XC K c9
 Li : XC K eo
 Lj : ∃ t, mg "EYES_AT_MOST" = some (.int 7 t)
 Ll : ∃ t, mg "TURNS_AT_MOST" = some (.int 12 t)
set_option genInjectivity true
set_option genSizeOf true
section
seal L2.PE L2.PS L2.bq L2.PA
variable {P : ac2} {w : adw} {K : acB} {mg : Str -> Option acC} {base : aer}
noncomputable def Tv (K : acB) : Sp := fun vs H Q _ => ∃ (a : acJ) (ns : List Int) (k m : Int), vs = [.ref a, .int k, .int m] /\ ag K H a (ns.map V.int) /\ eY ns /\ (-1000000 <= k /\ k <= 1000000) /\ 0 < m /\ ∀ p : Int, 0 <= p -> p < m -> Q (.int p) H
theorem cb (T : Tx K mg) : aK P w K mg base (aJ P w) 1 T.kF T.ye ["_law_script", "_law_k", "_law_many"] (Tv K) := by
 refine okN T.bI B0 (fun vs H Q E h => ?_) (fun aF A outer s H vs Q E hr h => ?_)
 ·obtain ⟨a, ns, k, m, rfl, _⟩ := h
  rfl
 ·obtain ⟨a, ns, k, m, rfl, hS, hn, hk, hm, q⟩ := h
  refine ⟨_, (ao (aG (i := 3) B0.nd rfl (adi rfl) ae)
  (ao (aY (ba gQ (bC fu (by rfl) T.eg eQ (aa (pv 0) ah)) ae (a9 _)) (ar (aG (i := 3) B0.nd rfl (adi rfl) (ax aB (pv 0) (aC iF (pv 1) (bC fu (by rfl) T.eg eQ (aa (pv 0) ah))) (fun _ _ => rfl)))) a7)
  (ar (aI (aC iF (aC iF (aC iF (aC sR (aC bh (pv 3) ae) (aC bh (aC bh (pv 3) ae) (aC sR (pv 1) (pv 1)))) ae) ae) (pv 2)))))), ?_⟩
  walk_at "gz"
  refine ⟨_, fJ hS, ?_⟩
  rw [acI]
  have pm := P7 hn hk
  have fin : ∀ x : Int, Q (.int (x % 2147483629 % 999983 % m)) H := fun x => q _ (agY _ (by omega)) (agk _ hm)
  split
  ·rename_i h
   refine ⟨_, fJ hS, ?_⟩
   rw [acI]
   refine ⟨h, aW hS (IH h) ?_⟩
   walk_at "gz"
   exact ⟨pm.1, pm.2, by decide, by decide, hm, fin _⟩
  ·rename_i h
   have e : d7 ns k = 0 := if_neg h
   rw [e] at pm
   exact ⟨pm.1, pm.2, by decide, by decide, hm, fin _⟩
noncomputable def Tw (K : acB) : Sp := fun vs H Q _ => ∃ (a : acJ) (ns : List Int) (k m : Int), vs = [.ref a, .int k, .int m] /\ ag K H a (ns.map V.int) /\ eY ns /\ (-1000000 <= k /\ k <= 1000000) /\ 0 < m /\ ∀ p : Int, 0 <= p -> p < m -> Q (.int p) H
theorem Cg (T : Tx K mg) : aK P w K mg base (aJ P w) 2 T.kG T.yf ["_law_script", "_law_k", "_law_many"] (Tw K) := by
 refine okN T.kH B2 (fun vs H Q E h => ?_) (fun aF A outer s H vs Q E hr h => ?_)
 ·obtain ⟨a, ns, k, m, rfl, _⟩ := h
  rfl
 ·obtain ⟨a, ns, k, m, rfl, hS, hn, hk, hm, q⟩ := h
  refine ⟨_, (ao (aG (i := 3) B2.nd rfl (adi rfl) ae)
  (ao (aY (ba gQ (bC fu (by rfl) T.eg eQ (aa (pv 0) ah)) ae (a9 _)) (ar (aG (i := 3) B2.nd rfl (adi rfl) (ax aB (pv 0) (aC iF (pv 1) (bC fu (by rfl) T.eg eQ (aa (pv 0) ah))) (fun _ _ => rfl)))) a7)
  (ar (aI (aC iF (aC bh (aE (cb T) (hr.mono (by decide)) rfl T.bZ T.bI.kp T.bP .nil aD (aa (pv 0) (aa (pv 1) (aa ae ah)))) (aC sR (aC sR (aC sR ae (pv 3)) (pv 3)) (pv 3))) (pv 2)))))), ?_⟩
  walk_at "gz"
  refine ⟨_, fJ hS, ?_⟩
  rw [acI]
  have pm := P8 hn k
  have fin : ∀ x : Int, Q (.int (x % m)) H := fun x => q _ (agY _ (by omega)) (agk _ hm)
  split
  ·rename_i h
   refine ⟨_, fJ hS, ?_⟩
   rw [acI]
   refine ⟨h, aW hS (IH h) ?_⟩
   walk_at "gz"
   refine ⟨a, ns, k, 999983, rfl, hS, hn, hk, by decide, fun p _ _ => ?_⟩
   walk_at "gz"
   exact ⟨pm.1, pm.2.1, pm.2.2, hm, fin _⟩
  ·rename_i h
   have e : d7 ns k = 0 := if_neg h
   rw [e] at pm
   refine ⟨a, ns, k, 999983, rfl, hS, hn, hk, by decide, fun p _ _ => ?_⟩
   walk_at "gz"
   exact ⟨pm.1, pm.2.1, pm.2.2, hm, fin _⟩
noncomputable def Tz : Sp := fun vs H Q _ => ∃ (v : V), vs = [v] /\ (v = .non ∨ ∃ i, v = .int i) /\ Q (.bl (isWhole v)) H
theorem TB (T : Tx K mg) : aK P w K mg base (aJ P w) 1 T.kN T.yr ["_law_found"] Tz := by
 refine okN T.qj Tr (fun vs H Q E h => ?_) (fun aF A outer s H vs Q E hr h => ?_)
 ·obtain ⟨v, rfl, _⟩ := h
  rfl
 ·obtain ⟨v, rfl, hv, q⟩ := h
  refine ⟨_, (ar (aI (ny (bC vz (by rfl) T.uj vy (aa (pv 0) (aa (uS (v := .ty "int") rfl T.La OR rfl) ah))) (nv (GI (bC vz (by rfl) T.uj vy (aa (pv 0) (aa (uS (v := .ty "bool") rfl T.K9 OS rfl) ah)))))))), ?_⟩
  rcases hv with rfl | ⟨i, rfl⟩
  ·walk_at "gz"
   exact q
  ·walk_at "gz"
   exact q
noncomputable def TC : Sp := fun vs H Q _ => ∃ (a b : En), vs = [ev a, ev b] /\ Q (.bl (bx a b)) H
theorem Lm (T : Tx K mg) : aK P w K mg base (aJ P w) 1 T.jW T.xj ["lo", "hi"] TC := by
 refine okN T.mE S0 (fun vs H Q E h => ?_) (fun aF A outer s H vs Q E hr h => ?_)
 ·obtain ⟨a, b, rfl, _⟩ := h
  rfl
 ·obtain ⟨a, b, rfl, q⟩ := h
  refine ⟨_, (ar (aI (ny (GH (jf (pv 0))) (ny (GH (jf (pv 1))) (nv (iG gQ (pv 0) (pv 1) (a9 _))))))), ?_⟩
  rcases a with _ | x
  ·walk_at "gz"
   exact q
  rcases b with _ | y
  ·walk_at "gz"
   exact q
  walk_at "gz"
  exact q
noncomputable def TF : Sp := fun vs H Q _ => ∃ (v u : V) (a b c d : En), vs = [v, u] /\ a8 H v a b /\ a8 H u c d /\ ∀ x H', aj H H' -> Ig H' x (iN a c) (iO b d) -> Q x H'
theorem TH (T : Tx K mg) : aK P w K mg base (aJ P w) 2 T.jX T.xk ["one", "other"] TF := by
 refine okN T.pR BX (fun vs H Q E h => ?_) (fun aF A outer s H vs Q E hr h => ?_)
 ·obtain ⟨v, u, a, b, c, d, rfl, _⟩ := h
  rfl
 ·obtain ⟨v, u, a, b, c, d, rfl, ⟨p, rfl, hp⟩, ⟨r, rfl, bQ⟩, q⟩ := h
  refine ⟨_, (ao (aG (i := 2) BX.nd rfl (adi rfl) (Pf rfl rfl T.yO (dY (cE.mk (fr := []) (ys := []) rfl (by decide +kernel) rfl (by decide +kernel) rfl rfl .nil .nil (by decide) rfl) rfl (GO (bX (aa (ax aB (pv 0) ae (fun _ _ => rfl)) (aa (ax aB (pv 1) ae (fun _ _ => rfl)) ah)))) (fun C s2 H2 ex pn => ⟨(jw (dH (jf (pv 0)))), (pv 0)⟩)) fX))
  (ao (aG (i := 3) BX.nd rfl (adi rfl) (Pg rfl rfl T.k6 (dY (cE.mk (fr := []) (ys := []) rfl (by decide +kernel) rfl (by decide +kernel) rfl rfl .nil .nil (by decide) rfl) rfl (GO (bX (aa (ax aB (pv 0) ae (fun _ _ => rfl)) (aa (ax aB (pv 1) ae (fun _ _ => rfl)) ah)))) (fun C s2 H2 ex pn => ⟨(jw (dH (jf (pv 0)))), (pv 0)⟩)) fX))
  (ao (aY (de (aE (Lm T) (hr.mono (by decide)) rfl T.B6 T.mE.kp T.tQ .nil aD (aa (pv 2) (aa (pv 3) ah)))) (ar (aI fX)) a7)
  (ar (aI (bX (aa (pv 2) (aa (pv 3) ah)))))))), ?_⟩
  walk_at "gz"
  refine aP (az.of hp) rfl (aP (az.of bQ) rfl ?_)
  walk_at "gz"
  refine ⟨b7, fun t ht => ⟨⟨_, az.of aq⟩, Ih aq (fun x H Q h => ?_) (fun x H Q h => ?_) fun l hl => ?_⟩⟩
  ·walk_at "gz"
   exact h
  ·walk_at "gz"
   exact h
  refine ⟨l, rfl, nums a c, ag.of aq, ?_⟩
  rw [Pt]
  have s2 := (av (o := .tup [ev a, ev c]) ht).trans (av (o := .lst ((nums a c).map V.int)) hl)
  generalize upd (upd H t (.tup [ev a, ev c])) l (.lst ((nums a c).map V.int)) = H2 at s2 ⊢
  refine aP (az.of (s2 _ _ hp)) rfl (aP (az.of (s2 _ _ bQ)) rfl ?_)
  walk_at "gz"
  refine ⟨b7, fun t' TJ => ⟨⟨_, az.of aq⟩, Ih aq (fun x H Q h => ?_) (fun x H Q h => ?_) fun l' jR => ?_⟩⟩
  ·walk_at "gz"
   exact h
  ·walk_at "gz"
   exact h
  refine ⟨l', rfl, nums b d, ag.of aq, ?_⟩
  rw [Pu]
  have s3 := s2.trans ((av (o := .tup [ev b, ev d]) TJ).trans (av (o := .lst ((nums b d).map V.int)) jR))
  generalize upd (upd H2 t' (.tup [ev b, ev d])) l' (.lst ((nums b d).map V.int)) = H3 at s3 ⊢
  refine ⟨_, _, rfl, ?_⟩
  cases hc : bx (iN a c) (iO b d) with
  | true =>
   walk_at "gz"
   exact q _ _ s3 ⟨fun _ => rfl, fun z => nomatch hc.symm.trans z⟩
  | false =>
   walk_at "gz"
   exact ⟨b7, fun p' bF => q _ _ (s3.trans (av bF)) ⟨fun z => (nomatch hc.symm.trans z), fun _ => a8.new⟩⟩
noncomputable def fi (e t u d m : Int) : Prop := (1 <= e /\ e <= 7) /\ (1 <= t /\ t <= 12) /\ 0 <= u /\ 0 <= d /\ 0 <= m /\ m <= e
noncomputable def yT (e t u d m : Int) (p : acJ) : List (Str × V) := [("eyes", .int e), ("turns", .int t), ("up", .int u), ("down", .int d), ("most", .int m), ("told", .ref p)]
noncomputable def TK (B C : acJ) : Sp := fun vs H Q E => ∃ (x dx : acJ) (e t u d m : Int), vs = [.ref x, .int e, .int t, .int u, .int d, .int m] /\ H x = some (.ins B dx []) /\ (¬ fi e t u d m -> E (.ref C) none H) /\
 (fi e t u d m -> ∀ p H', H p = none -> SameBut x H H' -> H' x = some (.ins B dx (yT e t u d m p)) -> H' p = some (.dT []) -> Q .non H')
theorem TL (T : Tx K mg) : aK P w K mg base (aJ P w) 1 T.ku T.xX ["self", "eyes", "turns", "up", "down", "most"] (TK T.aH T.el) := by
 refine lV T.tU Tg (fun vs H Q E h => ?_) (fun aF A outer s H vs Q E hr h => ?_)
 ·obtain ⟨x, dx, e, t, u, d, m, rfl, _⟩ := h
  rfl
 ·obtain ⟨x, dx, e, t, u, d, m, rfl, hx, q0, q⟩ := h
  refine ⟨_, (ao (aY (PW.pt (eG (eI (Ao gd gd ae (pv 1) (Jb T.Lj rfl))) (gJ (eI (Ao gd gd ae (pv 2) (Jb T.Ll rfl)))))) (ar (lT lU rfl T.yP T.yR rfl (aa gI ah))) a7)
  (ao (aY (PW.pt (eG (ba lE (pv 3) ae (a9 _)) (gJ (ba lE (pv 4) ae (a9 _))))) (ar (lT lU rfl T.yP T.yR rfl (aa gI ah))) a7)
  (ao (aY (eI (Ao gd gd ae (pv 5) (pv 1))) (ar (lT lU rfl T.yP T.yR rfl (aa gI ah))) a7)
  (ao (nH (pv 0) (pv 1) rfl)
  (ao (nH (pv 0) (pv 2) rfl)
  (ao (nH (pv 0) (pv 3) rfl)
  (ao (nH (pv 0) (pv 4) rfl)
  (ao (nH (pv 0) (pv 5) rfl)
  (ar (nH (pv 0) Bi rfl)))))))))), ?_⟩
  walk_at "gz"
  have no : ∀ D σ, ¬ fi e t u d m -> ∀ x, HC T.el E (nI (tC (.str x)) lJ) D σ H := fun D σ z x => ⟨by show 1 <= adb; decide, q0 z⟩
  refine bA (fun h1 => bA (fun h2 => no _ _ (fun z => by unfold fi at z; omega) _) fun h2 => ?_) fun h1 => no _ _ (fun z => by unfold fi at z; omega) _
  refine bA (fun h3 => bA (fun h4 => no _ _ (fun z => by unfold fi at z; omega) _) fun h4 => ?_) fun h3 => no _ _ (fun z => by unfold fi at z; omega) _
  refine bA (fun h5 => no _ _ (fun z => by unfold fi at z; omega) _) fun h5 => bA (fun h6 => no _ _ (fun z => by unfold fi at z; omega) _) fun h6 => ?_
  refine bA (fun h7 => bA (fun h8 => no _ _ (fun z => by unfold fi at z; omega) _) fun h8 => ?_) fun h7 => no _ _ (fun z => by unfold fi at z; omega) _
  replace q := q (by unfold fi; omega)
  refine ⟨_, _, _, hx, T.bB, T.i6, (by show 0 < 1000; decide), _, _, _, aq, T.bB, T.k7, (by show 1 < 1000; decide), _, _, _, aq, T.bB, T.mO, (by show 2 < 1000; decide), _, _, _, aq, T.bB, T.mP, (by show 3 < 1000; decide), _, _, _, aq, T.bB, T.mQ, (by show 4 < 1000; decide), ?_⟩
  rw [uO, uO, uO, uO]
  intro p hp
  have Ln : p ≠ x := fun z => by rw [z, aq] at hp; cases hp
  refine ⟨_, _, _, (av hp) _ _ aq, T.bB, T.gE, (by show 5 < 1000; decide), q p _ (by rw [aA Ln] at hp; exact hp) (fun b o hb e => ?_) aq ?_⟩
  ·rw [aA hb]
   exact (av hp) _ _ (by rw [aA hb]; exact e)
  ·rw [aA Ln, aq]
structure i7 (B : acJ) (H : Hp) (x : acJ) (e t u d m : Int) (p : acJ) (kvs : List (List Key × V)) : Prop where
 ob : ∃ dx, H x = some (.ins B dx (yT e t u d m p))
 tb : H p = some (.dT kvs)
noncomputable def TM (B : acJ) : Sp := fun vs H Q _ => ∃ (x p : acJ) (e t u d m i : Int) (kvs : List (List Key × V)), vs = [.ref x, .int i] /\ i7 B H x e t u d m p kvs /\ Q (.bl (decide (0 <= i /\ i < e))) H
noncomputable def TN (B : acJ) : Sp := fun vs H Q _ => ∃ (x p : acJ) (e t u d m i : Int) (kvs : List (List Key × V)), vs = [.ref x, .int i] /\ i7 B H x e t u d m p kvs /\ Q (.bl (decide (0 <= i /\ i < t))) H
theorem TQ (T : Tx K mg) : aK P w K mg base (aJ P w) 1 T.kx T.xZ ["self", "eye"] (TM T.aH) := by
 refine okN T.tV Th (fun vs H Q E h => ?_) (fun aF A outer s H vs Q E hr h => ?_)
 ·obtain ⟨x, p, e, t, u, d, m, i, kvs, rfl, _⟩ := h
  rfl
 ·obtain ⟨x, p, e, t, u, d, m, i, kvs, rfl, ⟨⟨dx, hx⟩, hp⟩, q⟩ := h
  refine ⟨_, (ar (aI (GX gd lE ae (pv 1) (fB (pv 0) rfl)))), ?_⟩
  walk_at "gz"
  refine bA (fun h1 => ?_) fun h1 => ?_
  ·refine ⟨_, _, _, hx, T.bB, T.i6, _, rfl, ?_⟩
   walk_at "gz"
   rw [show decide (0 <= i /\ i < e) = decide (i < e) by simp [h1]] at q
   exact q
  ·rw [show decide (0 <= i /\ i < e) = false by simp [h1]] at q
   exact q
theorem yU (T : Tx K mg) : aK P w K mg base (aJ P w) 1 T.kz T.x4 ["self", "turn"] (TN T.aH) := by
 refine okN T.tW Ti (fun vs H Q E h => ?_) (fun aF A outer s H vs Q E hr h => ?_)
 ·obtain ⟨x, p, e, t, u, d, m, i, kvs, rfl, _⟩ := h
  rfl
 ·obtain ⟨x, p, e, t, u, d, m, i, kvs, rfl, ⟨⟨dx, hx⟩, hp⟩, q⟩ := h
  refine ⟨_, (ar (aI (GX gd lE ae (pv 1) (fB (pv 0) rfl)))), ?_⟩
  walk_at "gz"
  refine bA (fun h1 => ?_) fun h1 => ?_
  ·refine ⟨_, _, _, hx, T.bB, T.k7, _, rfl, ?_⟩
   walk_at "gz"
   rw [show decide (0 <= i /\ i < t) = decide (i < t) by simp [h1]] at q
   exact q
  ·rw [show decide (0 <= i /\ i < t) = false by simp [h1]] at q
   exact q
noncomputable def TR (B C : acJ) : Sp := fun vs H Q E => ∃ (x p : acJ) (e t u d m i j : Int) (kvs : List (List Key × V)), vs = [.ref x, .int i, .int j] /\ i7 B H x e t u d m p kvs /\ (¬ ((0 <= i /\ i < e) /\ 0 <= j /\ j < t) -> E (.ref C) none H) /\ ((0 <= i /\ i < e) /\ 0 <= j /\ j < t -> Q .non H)
theorem TU (T : Tx K mg) : aK P w K mg base (aJ P w) 2 T.kD T.ya ["self", "eye", "turn"] (TR T.aH T.c9) := by
 refine lV T.t9 Tp (fun vs H Q E h => ?_) (fun aF A outer s H vs Q E hr h => ?_)
 ·obtain ⟨x, p, e, t, u, d, m, i, j, kvs, rfl, _⟩ := h
  rfl
 ·obtain ⟨x, p, e, t, u, d, m, i, j, kvs, rfl, hb, q0, q⟩ := h
  refine ⟨_, (ar (aY (PW.pt (eG (eI (de (gR (pv 0) T.bB T.Le (TQ T) (hr.mono (by decide)) T.x3 .nil aD (aa (pv 1) ah)))) (gJ (eI (de (gR (pv 0) T.bB T.um (yU T) (hr.mono (by decide)) T.mI .nil aD (aa (pv 2) ah))))))) (ar (lT lU rfl T.yQ T.yS rfl (aa gI ah))) a7)), ?_⟩
  obtain ⟨⟨dx, hx⟩, hp⟩ := id hb
  walk_at "gz"
  refine ⟨_, _, hx, rfl, x, p, e, t, u, d, m, i, kvs, rfl, hb, ?_⟩
  by_cases h1 : 0 <= i /\ i < e
  ·rw [decide_eq_true h1]
   walk_at "gz"
   refine ⟨_, _, hx, rfl, x, p, e, t, u, d, m, j, kvs, rfl, hb, ?_⟩
   by_cases h2 : 0 <= j /\ j < t
   ·rw [decide_eq_true h2]
    walk_at "gz"
    exact q ⟨h1, h2⟩
   ·rw [decide_eq_false h2]
    walk_at "gz"
    exact ⟨by decide, q0 fun z => h2 z.2⟩
  ·rw [decide_eq_false h1]
   walk_at "gz"
   exact ⟨by decide, q0 fun z => h1 z.1⟩
noncomputable def TV (B C : acJ) : Sp := fun vs H Q E => ∃ (x p : acJ) (e t u d m i j : Int) (kvs : List (List Key × V)), vs = [.ref x, .int i, .int j] /\ i7 B H x e t u d m p kvs /\ (bc kvs (aL i j) = none -> ∀ H', aj H H' -> E (.ref C) none H') /\ (∀ v, bc kvs (aL i j) = some v -> ∀ H', aj H H' -> Q .non H')
theorem TX (T : Tx K mg) : aK P w K mg base (aJ P w) 1 T.kE T.yc ["self", "eye", "turn"] (TV T.aH T.c9) := by
 refine lV T.ua Tq (fun vs H Q E h => ?_) (fun aF A outer s H vs Q E hr h => ?_)
 ·obtain ⟨x, p, e, t, u, d, m, i, j, kvs, rfl, _⟩ := h
  rfl
 ·obtain ⟨x, p, e, t, u, d, m, i, j, kvs, rfl, hb, q0, q⟩ := h
  refine ⟨_, (ar (aY (dH (OH (df hr) (bX (aa (pv 1) (aa (pv 2) ah))) (fB (pv 0) rfl))) (ar (lT lU rfl T.yQ T.yS rfl (aa gI ah))) a7)), ?_⟩
  obtain ⟨⟨dx, hx⟩, hp⟩ := id hb
  walk_at "gz"
  refine ⟨b7, fun k hk => ⟨_, _, _, (av hk) _ _ hx, T.bB, T.gE, _, rfl, p, rfl, bc kvs (aL i j), bN.t (k := aL i j) ((av hk) _ _ hp) aq, ?_⟩⟩
  cases hv : bc kvs (aL i j) with
  | none => exact ⟨by decide, q0 hv _ (av hk)⟩
  | some v => exact q v hv _ (av hk)
noncomputable def Ci (B C : acJ) : Sp := fun vs H Q E => ∃ (x p : acJ) (e t u d m i j : Int) (lo hi : En) (kvs : List (List Key × V)), vs = [.ref x, .int i, .int j, ev lo, ev hi] /\ i7 B H x e t u d m p kvs /\ kvs.length < 1000 /\ (¬ (((0 <= i /\ i < e) /\ 0 <= j /\ j < t) /\ bx lo hi = false) -> E (.ref C) none H) /\
 (((0 <= i /\ i < e) /\ 0 <= j /\ j < t) /\ bx lo hi = false -> ∀ v H', SameBut p H H' -> H' p = some (.dT (putK kvs (aL i j) v)) -> a8 H' v lo hi -> Q .non H')
theorem Lo (T : Tx K mg) : aK P w K mg base (aJ P w) 3 T.kA T.x5 ["self", "eye", "turn", "lo", "hi"] (Ci T.aH T.c9) := by
 refine lV T.tX Tj (fun vs H Q E h => ?_) (fun aF A outer s H vs Q E hr h => ?_)
 ·obtain ⟨x, p, e, t, u, d, m, i, j, lo, hi, kvs, rfl, _⟩ := h
  rfl
 ·obtain ⟨x, p, e, t, u, d, m, i, j, lo, hi, kvs, rfl, hb, hl, q0, q⟩ := h
  refine ⟨_, (ao (eJ (gR (pv 0) T.bB T.Lg (TU T) (hr.mono (by decide)) T.yb .nil AL (aa (pv 1) (aa (pv 2) ah))))
  (ao (aY (de (aE (Lm T) (hr.mono (by decide)) rfl T.B6 T.mE.kp T.tQ .nil aD (aa (pv 3) (aa (pv 4) ah)))) (ar (lT lU rfl T.yQ T.yS rfl (aa gI ah))) a7)
  (ar (vq (df hr) (fB (pv 0) rfl) (bX (aa (pv 1) (aa (pv 2) ah))) (bX (aa (pv 3) (aa (pv 4) ah))) rfl)))), ?_⟩
  obtain ⟨⟨dx, hx⟩, hp⟩ := id hb
  walk_at "gz"
  refine ⟨_, _, hx, rfl, x, p, e, t, u, d, m, i, j, kvs, rfl, hb, fun z => q0 fun y => z y.1, fun cD => ?_⟩
  refine ⟨lo, hi, rfl, ?_⟩
  cases hc : bx lo hi with
  | true =>
   walk_at "gz"
   exact ⟨by decide, q0 fun z => by rw [hc] at z; cases z.2⟩
  | false =>
   walk_at "gz"
   refine ⟨b7, fun v hv => ⟨_, _, _, (av hv) _ _ hx, T.bB, T.gE, _, rfl, b7, fun k hk => ?_⟩⟩
   have s2 := (av (o := .tup [ev lo, ev hi]) hv).trans (av (o := .tup [.int i, .int j]) hk)
   refine ⟨p, rfl, _, fH.t (k := aL i j) (s2 _ _ hp) aq (akD hl (by decide)), q ⟨cD, hc⟩ (.ref v) _ (fun b o ik e => ?_) aq ⟨v, rfl, ?_⟩⟩
   ·rw [aA ik]; exact s2 _ _ e
   ·have vp : v ≠ p := fun z => by rw [z] at hv; rw [hp] at hv; cases hv
    rw [aA vp]; exact (av hk) _ _ aq
end
section
seal L2.PE L2.PS L2.bq L2.PA
variable {P : ac2} {w : adw} {K : acB} {mg : Str -> Option acC} {base : aer}
structure dk (B : acJ) (H : Hp) (x : acJ) (e t u d m : Int) (p : acJ) (tb : Tb) : Prop where
 ob : ∃ dx, H x = some (.ins B dx (yT e t u d m p))
 tb : TabAt H p tb
theorem dk.same {B : acJ} {H H' : Hp} {x p : acJ} {e t u d m : Int} {tb : Tb} (h : dk B H x e t u d m p tb) (s : aj H H') : dk B H' x e t u d m p tb := let ⟨⟨dx, a⟩, b⟩ := h; ⟨⟨dx, s _ _ a⟩, b.same s⟩
noncomputable def TY (B C : acJ) : Sp := fun vs H Q E => ∃ (x p : acJ) (e t u d m i j : Int) (kvs : List (List Key × V)), vs = [.ref x, .int i, .int j] /\ i7 B H x e t u d m p kvs /\ (bc kvs (aL i j) = none -> ∀ H', aj H H' -> E (.ref C) none H') /\
 (∀ v, bc kvs (aL i j) = some v -> ∀ H', SameBut p H H' -> H' p = some (.dT (fE kvs (aL i j))) -> Q .non H')
theorem TZ (T : Tx K mg) : aK P w K mg base (aJ P w) 2 T.kB T.x6 ["self", "eye", "turn"] (TY T.aH T.c9) := by
 refine lV T.tZ Tn (fun vs H Q E h => ?_) (fun aF A outer s H vs Q E hr h => ?_)
 ·obtain ⟨x, p, e, t, u, d, m, i, j, kvs, rfl, _⟩ := h
  rfl
 ·obtain ⟨x, p, e, t, u, d, m, i, j, kvs, rfl, hb, q0, q⟩ := h
  refine ⟨_, (ao (eJ (gR (pv 0) T.bB T.Lh (TX T) (hr.mono (by decide)) T.yd .nil AL (aa (pv 1) (aa (pv 2) ah))))
  (ar (eJ (Ja (df hr) (fB (pv 0) rfl) (bX (aa (pv 1) (aa (pv 2) ah))) ⟨rfl, rfl, rfl, rfl⟩)))), ?_⟩
  obtain ⟨⟨dx, hx⟩, hp⟩ := id hb
  walk_at "gz"
  refine ⟨_, _, hx, rfl, x, p, e, t, u, d, m, i, j, kvs, rfl, hb, q0, fun v hv H1 s1 => ?_⟩
  have mw := s1 _ _ hx
  have yV := s1 _ _ hp
  walk_at "gz"
  refine ⟨_, _, _, mw, T.bB, T.gE, _, rfl, p, rfl, .inr ⟨kvs, .inl yV⟩, b7, fun k hk => ?_⟩
  refine ⟨kvs, (av hk) _ _ yV, aL i j, aq, v, hv, q v hv _ (fun b o ik e => ?_) aq⟩
  rw [aA ik]; exact (av hk) _ _ (s1 _ _ e)
noncomputable def T5 (B : acJ) : Sp := fun vs H Q _ => ∃ (x p : acJ) (e t u d m : Int) (tb : Tb), vs = [.ref x] /\ dk B H x e t u d m p tb /\ (tb.map (·.1)).Nodup /\ tb.length < 64 /\ ∀ l xs H', aj H H' -> H l = none -> H' l = some (.lst xs) -> ak (d9 H') xs (iR tb) -> Q (.ref l) H'
theorem Lp (T : Tx K mg) : aK P w K mg base (aJ P w) 1 T.kC T.x9 ["self"] (T5 T.aH) := by
 refine okN T.t7 To (fun vs H Q E h => ?_) (fun aF A outer s H vs Q E hr h => ?_)
 ·obtain ⟨x, p, e, t, u, d, m, tb, rfl, _⟩ := h
  rfl
 ·obtain ⟨x, p, e, t, u, d, m, tb, rfl, ⟨⟨dx, hx⟩, kvs, hp, hT⟩, hn, b9, q⟩ := h
  refine ⟨_, (ar (aI (dY (cE.mk (fr := [0]) (ys := ["self"]) rfl (by decide +kernel) rfl (by decide +kernel) rfl rfl (.cons rfl .nil) (.cons rfl rfl rfl rfl .nil) (by decide) rfl) rfl (b5 (bC (Qk rfl) (by rfl) T.qu rZ (aa (fB (pv 0) rfl) ah))) (fun C s2 H2 ex pn => ⟨dX, (bX (aa (ax (eW (K := K) rfl) (pv 0) ae (fun _ _ => rfl)) (aa (ax (eW (K := K) rfl) (pv 0) ae (fun _ _ => rfl)) (aa (Jc (df hr) (Jd (K := K) (pv 1) rfl) (pv 0) (fun _ _ => rfl)) ah))))⟩)))), ?_⟩
  walk_at "gz"
  refine ⟨_, _, _, hx, T.bB, T.gE, _, rfl, p, rfl, kvs, hp, fc tb, Qt hT, Qu, by rw [hT.len]; exact b9, fun l ys hl hk => ?_⟩
  have PS := Jh hT hk
  have s1 := av (o := .lst (bL (fc tb) .non ys)) hl
  have L1 : upd H l (.lst (bL (fc tb) .non ys)) l = some (.lst (bL (fc tb) .non ys)) := aq
  generalize upd H l (.lst (bL (fc tb) .non ys)) = H1 at s1 L1 ⊢
  refine ⟨⟨_, ag.of L1⟩, cZ eV (acV (by rw [PS.len, wB]; exact agb b9 : _ <= 64) (by decide)) (d6 (R := fun H x (r : P2 × S2) => aX H x r.1) (R' := fun H y (r : P2 × S2) => d9 H y r) (f := fun r => r) (bs := []) (fun _ _ _ _ s r => aX.same r s) (fun _ _ _ _ s r => d9.same r s) (PS.imp fun x r z => aX.same z s1) trivial (fun H' s' => ag.of (s' _ _ L1)) (fun x r _ H' s' bQ Q h => ?_) (fun x r bQ H' s' h0 Q h => ?_) fun H2 zs s2 hz => ?_)⟩
  ·walk_at "gz"
   exact h
  ·obtain ⟨a, rfl, ha⟩ := id h0
   have S := s1.trans s'
   have T6 := hT.imp fun v a b z => a8.same z S
   obtain ⟨w, hw, iw⟩ := (T6.val r.1).2 _ (oq hn (sX bQ))
   walk_at "gz"
   refine aP (az.of ha) rfl (aP (az.of ha) rfl ⟨_, _, _, S _ _ hx, T.bB, T.gE, _, rfl, p, rfl, w, ?_, ?_⟩)
   ·rw [<- hw]; exact bN.t (k := aL r.1.1 r.1.2) (S _ _ hp) ha
   ·exact ⟨by decide, fun z hz => h _ _ (av hz) ⟨z, w, rfl, aq, a8.same iw (av hz)⟩⟩
  rw [adq, agM] at hz
  exact fun l2 bR => q l2 zs _ (s1.trans (s2.trans (av bR))) ((s1.trans s2).free bR) aq (hz.imp fun x r z => d9.same z (av bR))
noncomputable def T7 (K : acB) : Sp := fun vs H Q _ => ∃ (a : acJ) (xs : List V) (ss : List S2), vs = [.ref a] /\ ag K H a xs /\ lY H xs ss /\ xs.length <= 1000 /\ ∀ v H', aj H H' -> jH H' v (mf (none, none) ss) -> Q v H'
noncomputable def T8 (K : acB) (H : Hp) (a : acJ) (xs : List V) (ss : List S2) (i : Nat) (σ : St) (H1 : Hp) : Prop := ∃ (v : V) (e : Option V), σ = [some (.ref a), some v, e] /\ aj H H1 /\ a8 H1 v (bU (none, none) (ss.take i)).1 (bU (none, none) (ss.take i)).2 /\ bx (bU (none, none) (ss.take i)).1 (bU (none, none) (ss.take i)).2 = false
theorem T9 (T : Tx K mg) : aK P w K mg base (aJ P w) 3 T.jY T.xm ["some"] (T7 K) := by
 refine okN T.pS xb (fun vs H Q E h => ?_) (fun aF A outer s H vs Q E hr h => ?_)
 ·obtain ⟨a, xs, ss, rfl, _⟩ := h
  rfl
 ·obtain ⟨a, xs, ss, rfl, hS, hP, hn, q⟩ := h
  refine ⟨_, (ao (aG (i := 1) xb.nd rfl (adi rfl) (bX (aa fX (aa fX ah))))
  (ao (cu adu rfl (b5 (pv 0)) (bb (i := 2) xb.nd rfl (adi rfl)) (ao (aG (i := 1) xb.nd rfl (adi rfl) (aE (TH T) (hr.mono (by decide)) rfl T.Ky T.pR.kp T.xl .nil aD (aa (pv 1) (aa (pv 2) ah))))
    (ar (aY (dH (lr (pv 1))) (ar (aI fX)) a7))))
  (ar (aI (pv 1))))), ?_⟩
  have hA := ot.mp hP
  have hl := hA.len
  walk_at "gz"
  refine ⟨b7, fun p hp => ?_⟩
  have s0 := av (o := .tup [.non, .non]) hp
  refine ⟨⟨_, s0.seq hS⟩, gX (xs := xs) (T8 K H a xs ss) ⟨_, _, rfl, s0, ⟨p, rfl, aq⟩, rfl⟩ ?_ ?_ ?_⟩
  ·rintro i σ H1 _ ⟨_, _, _, s1, _⟩
   exact s1.seq hS
  ·rintro i x σ H1 hx ⟨v, e, rfl, s1, hv, hc⟩
   obtain ⟨w, hw, r⟩ := hA.get hx
   have e1 := Qy (e := (none, none)) hw
   walk_at "gz"
   refine ⟨v, x, _, _, w.1, w.2, rfl, hv, r.same s1, fun y H2 s2 hm => ?_⟩
   have wZ : Ig H2 y (bU (none, none) (ss.take (i + 1))).1 (bU (none, none) (ss.take (i + 1))).2 := by rw [e1]; exact hm
   cases hk : bx (bU (none, none) (ss.take (i + 1))).1 (bU (none, none) (ss.take (i + 1))).2 with
   | true =>
    have ey := wZ.1 hk
    subst ey
    walk_at "gz"
    refine q _ _ (s1.trans s2) ?_
    unfold mf
    rw [if_pos (Qx hk)]
    rfl
   | false =>
    have hy := wZ.2 hk
    obtain ⟨t, rfl, ht⟩ := id hy
    walk_at "gz"
    exact ⟨_, _, rfl, s1.trans s2, hy, hk⟩
  ·rintro σ H1 ⟨v, e, rfl, s1, hv, hc⟩
   walk_at "gz"
   rw [hl, aeb] at hv hc
   refine q _ _ s1 ?_
   unfold mf
   rw [if_neg (by rw [hc]; simp)]
   exact hv
noncomputable def Ua (B : acJ) : Sp := fun vs H Q _ => ∃ (x p : acJ) (e t u d m i : Int) (k : Str) (kvs : List (List Key × V)), vs = [.ref x, .str k, .int i] /\ i7 B H x e t u d m p kvs /\ Q (.bl (hasB t k i)) H
theorem Ub (T : Tx K mg) : aK P w K mg base (aJ P w) 2 T.j8 T.xA ["board", "kind", "turn"] (Ua T.aH) := by
 refine okN T.pW S8 (fun vs H Q E h => ?_) (fun aF A outer s H vs Q E hr h => ?_)
 ·obtain ⟨x, p, e, t, u, d, m, i, k, kvs, rfl, _⟩ := h
  rfl
 ·obtain ⟨x, p, e, t, u, d, m, i, k, kvs, rfl, hb, q⟩ := h
  refine ⟨_, (ao (aY (ba dr (pv 1) gI (a9 _)) (ar (aI (ny (gR (pv 0) T.bB T.um (yU T) (hr.mono (by decide)) T.mI .nil aD (aa (pv 2) ah)) (nv (gR (pv 0) T.bB T.um (yU T) (hr.mono (by decide)) T.mI .nil aD (aa (aC bh (pv 2) ae) ah)))))) a7)
  (ar (aI (ny (iG dr (pv 1) gI (a9 _)) (nv (gR (pv 0) T.bB T.um (yU T) (hr.mono (by decide)) T.mI .nil aD (aa (pv 2) ah))))))), ?_⟩
  obtain ⟨⟨dx, hx⟩, hp⟩ := id hb
  unfold hasB at q
  walk_at "gz"
  try refine ⟨rfl, ?_⟩
  by_cases hk : k = "step"
  ·subst hk
   rw [if_pos rfl] at q ⊢
   refine ⟨_, _, hx, rfl, x, p, e, t, u, d, m, i, kvs, rfl, hb, ?_⟩
   by_cases h1 : 0 <= i /\ i < t
   ·rw [decide_eq_true h1] at q ⊢
    walk_at "gz"
    refine ⟨_, _, hx, rfl, x, p, e, t, u, d, m, _, kvs, rfl, hb, ?_⟩
    rw [ahM] at q
    exact q
   ·rw [decide_eq_false h1] at q ⊢
    walk_at "gz"
    exact q
  ·rw [if_neg hk] at q
   rw [if_neg fun z => hk (V.str.inj z)]
   try refine ⟨rfl, ?_⟩
   by_cases dB : k = "at"
   ·subst dB
    rw [decide_eq_true rfl, ahM] at q
    rw [if_pos rfl]
    refine ⟨_, _, hx, rfl, x, p, e, t, u, d, m, i, kvs, rfl, hb, ?_⟩
    exact q
   ·rw [decide_eq_false dB, ahe] at q
    rw [if_neg fun z => dB (V.str.inj z)]
    exact q
noncomputable def Uc (K : acB) (B C : acJ) : Sp := fun vs H Q E => ∃ (x p b : acJ) (e t u d m : Int) (kvs : List (List Key × V)) (xs : List V) (ps : List Pa), vs = [.ref x, .ref b] /\ i7 B H x e t u d m p kvs /\ ag K H b xs /\ ou H xs ps /\ (¬ sZ t ps -> E (.ref C) none H) /\ (sZ t ps -> Q .non H)
noncomputable def Ud (H : Hp) (x b : acJ) (t : Int) (ps : List Pa) (i : Nat) (σ : St) (H1 : Hp) : Prop := ∃ (e : Option V), σ = [some (.ref x), some (.ref b), e] /\ H1 = H /\ sZ t (ps.take i)
theorem Ue (T : Tx K mg) : aK P w K mg base (aJ P w) 3 T.j9 T.xC ["board", "claim"] (Uc K T.aH T.eo) := by
 refine lV T.pX Ks (fun vs H Q E h => ?_) (fun aF A outer s H vs Q E hr h => ?_)
 ·obtain ⟨x, p, b, e, t, u, d, m, kvs, xs, ps, rfl, _⟩ := h
  rfl
 ·obtain ⟨x, p, b, e, t, u, d, m, kvs, xs, ps, rfl, hb, hX, hP, q0, q⟩ := h
  refine ⟨_, (ar (cu PassesOwn.leaving rfl (b5 (pv 1)) (bb (i := 2) Ks.nd rfl (adi rfl)) (ar (aY (eI (de (aE (Ub T) (hr.mono (by decide)) rfl T.KG T.pW.kp T.xB .nil aD (aa (pv 0) (aa (ax aB (pv 2) ae (fun _ _ => rfl)) (aa (ax aB (pv 2) ae (fun _ _ => rfl)) ah)))))) (ar (lT lU rfl T.Lc T.Li rfl (aa gI ah))) a7)))), ?_⟩
  have hl := hP.len
  walk_at "gz"
  refine ⟨⟨_, hX⟩, gX (xs := xs) (Ud H x b t ps) ⟨_, rfl, rfl, fun _ h => by simp at h⟩ ?_ ?_ ?_⟩
  ·rintro i σ H1 _ ⟨_, _, rfl, _⟩
   exact hX
  ·rintro i y σ H1 hy ⟨e1, rfl, rfl, hk⟩
   obtain ⟨pa, hpa, ta, qa, rfl, h1, h2⟩ := hP.get hy
   walk_at "gz"
   refine aP (az.of h1) rfl (aP (az.of h1) rfl ?_)
   refine ⟨x, p, e, t, u, d, m, pa.2.1, pa.1, kvs, rfl, hb, ?_⟩
   cases hc : hasB t pa.1 pa.2.1 with
   | true =>
    walk_at "gz"
    refine ⟨_, rfl, rfl, fun z hz => ?_⟩
    rw [aea, hpa] at hz
    rcases adj.mp hz with h | h
    ·exact hk z h
    ·have : z = pa := by simpa using h
     rw [this]; exact hc
   | false =>
    walk_at "gz"
    refine ⟨by decide, q0 fun z => ?_⟩
    rw [z pa (acZ hpa)] at hc
    cases hc
  ·rintro σ H1 ⟨e1, rfl, rfl, hk⟩
   rw [hl, aeb] at hk
   walk_at "gz"
   exact q hk
noncomputable def Ug (K : acB) : Sp := fun vs H Q _ => ∃ (b : acJ) (xs : List V) (ps : List Pa) (k : Str) (t : Int), vs = [.ref b, .str k, .int t] /\ ag K H b xs /\ ou H xs ps /\ ps.length <= 1000 /\ ∀ l ys H', aj H H' -> H l = none -> H' l = some (.lst ys) -> lY H' ys (sel ps k t) -> Q (.ref l) H'
theorem Uh (T : Tx K mg) : aK P w K mg base (aJ P w) 1 T.kc T.xE ["claim", "kind", "turn"] (Ug K) := by
 refine okN T.pY S9 (fun vs H Q E h => ?_) (fun aF A outer s H vs Q E hr h => ?_)
 ·obtain ⟨b, xs, ps, k, t, rfl, _⟩ := h
  rfl
 ·obtain ⟨b, xs, ps, k, t, rfl, hX, hP, hn, q⟩ := h
  refine ⟨_, (ar (aI (dY (cE.mk (fr := [1, 2]) (ys := ["kind", "turn"]) rfl (by decide +kernel) rfl (by decide +kernel) rfl rfl (.cons rfl (.cons rfl .nil)) (.cons rfl rfl rfl rfl (.cons rfl rfl rfl rfl .nil)) (by decide) rfl) rfl (b5 (pv 0)) (fun C s2 H2 ex pn => ⟨(jw (PW.pt (iB (ba dr (ax (eW (K := K) rfl) (pv 0) ae (fun _ _ => rfl)) (pv 1) (a9 _)) (jg (ba dr (ax (eW (K := K) rfl) (pv 0) ae (fun _ _ => rfl)) (pv 2) (a9 _)))))), (ax (eW (K := K) rfl) (pv 0) ae (fun _ _ => rfl))⟩)))), ?_⟩
  have hl := hP.len
  walk_at "gz"
  refine ⟨⟨_, hX⟩, cZ eV (acV (by omega : xs.length <= 1000) (by decide)) (Bm (R := fun x p => sY H x p) (R' := fun y (s : S2) => a8 H y s.1 s.2) (p := Bl k t) (f := fun p => p.2.2) hX hP (fun x p r Q h => ?_) (fun x p _ r Q h => ?_) fun zs hz => ?_)⟩
  ·obtain ⟨tt, u, rfl, ht, hu⟩ := r
   unfold Bl at h
   walk_at "gz"
   refine aP (az.of ht) rfl ?_
   walk_at "gz"
   try refine ⟨rfl, ?_⟩
   by_cases hk : p.1 = k
   ·rw [decide_eq_true hk, ahM] at h
    rw [if_pos (by rw [hk])]
    refine aP (az.of ht) rfl ?_
    walk_at "gz"
    exact h
   ·rw [decide_eq_false hk, ahe] at h
    rw [if_neg fun z => hk (V.str.inj z)]
    exact h
  ·obtain ⟨tt, u, rfl, ht, hu⟩ := r
   walk_at "gz"
   exact aP (az.of ht) rfl (h _ ⟨u, rfl, hu⟩)
  ·rw [adq]
   intro l bR
   exact q l zs _ (av bR) bR aq (ot.mpr (hz.imp fun _ _ r => r.same (av bR)))
noncomputable def yW (u d : Int) (ps : List Pa) (n : Nat) : List W2 := (adh n).map fun (k : Nat) => mf (none, none) ((some (-d), some u) :: sel ps "step" (k : Int))
noncomputable def Ui (K : acB) (B C : acJ) : Sp := fun vs H Q E => ∃ (x p b : acJ) (e t u d m : Int) (kvs : List (List Key × V)) (xs : List V) (ps : List Pa), vs = [.ref x, .ref b] /\ i7 B H x e t u d m p kvs /\ 1 <= t /\ t <= 12 /\ ag K H b xs /\ ou H xs ps /\ ps.length <= 900 /\ (¬ sZ t ps -> E (.ref C) none H) /\ (sZ t ps -> ∀ l ys H', aj H H' -> H l = none -> H' l = some (.lst ys) -> ak (jH H') ys (yW u d ps (t - 1).toNat) -> Q (.ref l) H')
theorem Uj (T : Tx K mg) : aK P w K mg base (aJ P w) 4 T.kd T.xG ["board", "claim"] (Ui K T.aH T.eo) := by
 refine lV T.pZ Kt (fun vs H Q E h => ?_) (fun aF A outer s H vs Q E hr h => ?_)
 ·obtain ⟨x, p, b, e, t, u, d, m, kvs, xs, ps, rfl, _⟩ := h
  rfl
 ·obtain ⟨x, p, b, e, t, u, d, m, kvs, xs, ps, rfl, hb, t1, t2, hX, hP, hn, q0, q⟩ := h
  refine ⟨_, (ao (eJ (aE (Ue T) (hr.mono (by decide)) rfl T.KH T.pX.kp T.xD .nil AL (aa (pv 0) (aa (pv 1) ah))))
  (ao (aG (i := 2) Kt.nd rfl (aiV rfl) (dU (aa (bX (aa (uW uZ (fB (pv 0) rfl)) (aa (fB (pv 0) rfl) ah))) ah)))
  (ar (aI (dY (cE.mk (fr := [2, 1]) (ys := ["own", "claim"]) rfl (by decide +kernel) rfl (by decide +kernel) rfl rfl (.cons rfl (.cons rfl .nil)) (.cons rfl rfl rfl rfl (.cons rfl rfl rfl rfl .nil)) (by decide) rfl) rfl (gO rfl T.fh (aa (aC eM (fB (pv 0) rfl) ae) ah)) (fun C s2 H2 ex pn => ⟨dX, (aE (T9 T) (hr.mono (by decide)) rfl T.Kz T.pS.kp T.xn .nil aD (aa (aC rQ (pv 1) (aE (Uh T) (hr.mono (by decide)) rfl T.KI T.pY.kp T.xF .nil aD (aa (pv 2) (aa gI (aa (pv 0) ah))))) ah))⟩)))))), ?_⟩
  obtain ⟨⟨dx, hx⟩, hp⟩ := id hb
  walk_at "gz"
  refine ⟨x, p, b, e, t, u, d, m, kvs, xs, ps, rfl, hb, hX, hP, q0, fun hk => ?_⟩
  walk_at "gz"
  refine ⟨_, _, _, hx, T.bB, T.mP, _, rfl, _, rfl, _, _, _, hx, T.bB, T.mO, _, rfl, b7, fun o ho => ⟨by decide, fun l hl => ?_⟩⟩
  have s1 := (av (o := .tup [.int (-d), .int u]) ho).trans (av (o := .lst [.ref o]) hl)
  have O1 : a8 (upd (upd H o (.tup [.int (-d), .int u])) l (.lst [.ref o])) (.ref o) (some (-d)) (some u) := ⟨o, rfl, (av hl) _ _ aq⟩
  have L1 : (upd (upd H o (.tup [.int (-d), .int u])) l (.lst [.ref o])) l = some (.lst [.ref o]) := aq
  generalize upd (upd H o (.tup [.int (-d), .int u])) l (.lst [.ref o]) = H1 at s1 O1 L1 ⊢
  refine ⟨_, _, _, s1 _ _ hx, T.bB, T.k7, _, rfl, _, rfl, by omega, by omega, ?_⟩
  refine cZ vX (by rw [acI, aeq]; exact acV (by omega : _ <= 12) (by decide)) (d6 (R := fun _ x (k : Nat) => x = V.int ((0 : Int) + k)) (R' := jH) (f := fun (k : Nat) => mf (none, none) ((some (-d), some u) :: sel ps "step" (k : Int))) (fun _ _ _ _ _ h => h) (fun _ _ _ _ s' h => h.same s') (ak.iy _) (bs := []) trivial (fun _ _ => trivial) (fun x k _ H2 s2 r Q h => ?_) (fun x k _ H2 s2 r Q h => ?_) fun H2 zs s2 hz => ?_)
  ·walk_at "gz"
   exact h
  ·subst r
   have S2 := s1.trans s2
   walk_at "gz"
   refine ⟨b, xs, ps, "step", _, rfl, S2.seq hX, hP.same S2, by omega, fun r ys H3 s3 _ R3 hR => ?_⟩
   rw [akH] at hR
   walk_at "gz"
   have hlen : ys.length <= 900 := by
    have := (ot.mp hR).len
    have h2 : (sel ps "step" (k : Int)).length <= ps.length := by
     unfold sel
     rw [acI]
     exact ad5 _ _
    omega
   refine ⟨[.ref o], s3 _ _ (s2 _ _ L1), ys, R3, acV (by show 1 + ys.length <= 1000; omega) (by decide), fun c hc => ?_⟩
   have s4 := av (o := .lst ([.ref o] ++ ys)) hc
   refine ⟨c, _, (some (-d), some u) :: sel ps "step" (k : Int), rfl, ag.of aq, ⟨(O1.same (s2.trans s3)).same s4, ?_⟩, by rw [adl, adC]; omega, fun v H5 s5 hv => h _ _ ((s3.trans s4).trans s5) hv⟩
   exact ot.mpr ((ot.mp hR).imp fun _ _ r => r.same s4)
  ·intro c hc
   refine q hk c zs _ ((s1.trans s2).trans (av hc)) ((s1.trans s2).free hc) aq ?_
   rw [adq] at hz
   exact hz.imp fun _ _ r => r.same (av hc)
end
section
seal L2.PE L2.PS L2.bq L2.PA
variable {P : ac2} {w : adw} {K : acB} {mg : Str -> Option acC} {base : aer}
noncomputable def Uk (K : acB) (B : acJ) : Sp := fun vs H Q _ => ∃ (x p : acJ) (e t u d m i : Int) (tb : Tb), vs = [.ref x, .int i] /\ dk B H x e t u d m p tb /\ (tb.map (·.1)).Nodup /\ tb.length < 64 /\ (∀ r ∈ tb, 0 <= r.1.2) /\ ∀ l ys H', aj H H' -> H l = none -> H' l = some (.lst ys) -> ak (ib H') ys (jN tb i) -> Q (.ref l) H'
theorem Ul (T : Tx K mg) : aK P w K mg base (aJ P w) 2 T.ke T.xI ["board", "eye"] (Uk K T.aH) := by
 refine okN T.p0 Tc (fun vs H Q E h => ?_) (fun aF A outer s H vs Q E hr h => ?_)
 ·obtain ⟨x, p, e, t, u, d, m, i, tb, rfl, _⟩ := h
  rfl
 ·obtain ⟨x, p, e, t, u, d, m, i, tb, rfl, hb, c8, b9, h0, q⟩ := h
  refine ⟨_, (ar (aI (IA (g := gM K 3 (ck (bM 0) (ck (bM 1) (ck (bM 2) gL)))) (l5.mk (own := ["teller", "turn", "word"]) (fr := [1]) (ys := ["eye"]) rfl (by decide +kernel) rfl (by decide +kernel) rfl (.cons rfl .nil) (.cons rfl rfl rfl rfl .nil) rfl) rfl (b5 (G4 (pv 0) T.bB T.Cf (Lp T) (hr.mono (by decide)) T.t8 .nil aD)) (fun C s2 H2 ex pn => iD (n := 3) rfl (cP (bb (i := 0) (show (["teller", "turn", "word", "eye"] : List Str).Nodup by decide) rfl (.inl (ado rfl)) (.inr (ado rfl))) (cP (bb (i := 1) (show (["teller", "turn", "word", "eye"] : List Str).Nodup by decide) rfl (.inl (ado rfl)) (.inr (ado rfl))) (cP (bb (i := 2) (show (["teller", "turn", "word", "eye"] : List Str).Nodup by decide) rfl (.inl (ado rfl)) (.inr (ado rfl))) iC)))) (fun C s2 H2 ex pn => ⟨(jw (ba dr (pv 0) (pv 3) (a9 _))), (bX (aa (pv 1) (aa (pv 2) ah)))⟩)))), ?_⟩
  obtain ⟨⟨dx, hx⟩, htb⟩ := id hb
  walk_at "gzn"
  refine ⟨_, _, hx, rfl, x, p, e, t, u, d, m, tb, rfl, hb, c8, b9, fun l xs H1 s1 _ hl hT => ?_⟩
  have tl := hT.len
  rw [wB] at tl
  refine ⟨l, rfl, ⟨_, ag.of hl⟩, QL (row := rowOf H1) (acV (by omega : xs.length <= 64) (by decide)) (tj (R := fun _ x (r : P2 × S2) => d9 H1 x r) (R' := ib) (p := fun r => decide (r.1.1 = i)) (f := fun r => (r.1.2.toNat, r.2)) (fun _ _ _ _ _ h => h) (fun _ _ _ _ s' h => h.same s') hT (bs := []) trivial (fun H' s' => QM hl hT s') (fun x r _ H2 s2 h1 Q h => ?_) (fun x r bQ hp H2 s2 h1 Q h => ?_) fun H2 zs s2 hz => ?_)⟩
  ·obtain ⟨ta, w, rfl, ha, hw⟩ := h1
   unfold fN
   dsimp only
   rw [iU ha]
   walk_at "gzn"
   exact h
  ·obtain ⟨ta, w, rfl, ha, wp, rfl, hw⟩ := h1
   unfold fO
   dsimp only
   rw [iU ha]
   walk_at "gzn"
   have eB := h0 r (sX bQ)
   refine ⟨b7, fun t1 jU => h _ _ (av jU) ⟨t1, wp, rfl, ?_, (av jU) _ _ (s2 _ _ hw)⟩⟩
   rw [aq]
   show some (HO.tup [.int r.1.2, .ref wp]) = some (.tup [.int ((r.1.2.toNat : Nat) : Int), .ref wp])
   rw [ad7 eB]
  ·rw [adq] at hz
   intro l2 bR
   exact q l2 zs _ (s1.trans (s2.trans (av bR))) ((s1.trans s2).free bR) aq (hz.imp fun _ _ r => r.same (av bR))
end
section
seal L2.PE L2.PS L2.bq L2.PA
variable {P : ac2} {w : adw} {K : acB} {mg : Str -> Option acC} {base : aer}
theorem Lq {ps : List P2} {i : Nat} (h : i < ps.length) : ps[i]? = some (bo ps i) := by unfold bo; rw [acH, acG h]; rfl
noncomputable def cG (H : Hp) (v : V) : Option P2 -> Prop
 | none => v = .non
 | some p => aX H v p
theorem cG.same {H H' : Hp} {v : V} {o : Option P2} (h : cG H v o) (s : aj H H') : cG H' v o := by
 cases o with
 | none => exact h
 | some p => exact aX.same h s
noncomputable def Um (K : acB) : Sp := fun vs H Q _ => ∃ (v u : V) (a b : Option P2), vs = [v, u] /\ cG H v a /\ cG H u b /\ ∀ x, cG H x (hU a b) -> (x = v ∨ x = u) -> Q x H
theorem Cj (T : Tx K mg) : aK P w K mg base (aJ P w) 1 T.jZ T.xo ["one", "other"] (Um K) := by
 refine okN T.j4 S6 (fun vs H Q E h => ?_) (fun aF A outer s H vs Q E hr h => ?_)
 ·obtain ⟨v, u, a, b, rfl, _⟩ := h
  rfl
 ·obtain ⟨v, u, a, b, rfl, ha, hb, q⟩ := h
  refine ⟨_, (ao (aY (PW.pt (eG (dH (lr (pv 0))) (gJ (dH (lr (pv 1)))))) (ar (aI (GJ (dH (lr (pv 0))) (pv 1) (pv 0)))) a7)
  (ar (aI (bC (Su rfl (df hr)) (by rfl) T.k6 lQ (aa (pv 0) (aa (pv 1) ah)))))), ?_⟩
  rcases a with _ | a <;> rcases b with _ | b
  ·obtain rfl : v = .non := ha
   obtain rfl : u = .non := hb
   walk_at "gzn"
   exact q _ rfl (.inl rfl)
  ·obtain rfl : v = .non := ha
   obtain ⟨r, rfl, eB⟩ := id hb
   walk_at "gzn"
   exact q _ hb (.inr rfl)
  ·obtain rfl : u = .non := hb
   obtain ⟨r, rfl, eB⟩ := id ha
   walk_at "gzn"
   exact q _ ha (.inl rfl)
  ·obtain ⟨r, rfl, eB⟩ := id ha
   obtain ⟨r2, rfl, Uo⟩ := id hb
   walk_at "gzn"
   refine ⟨a, eB, b, Uo, ?_⟩
   by_cases hl : dE b a = true
   ·rw [if_pos hl]
    exact q _ (by show aX H _ (dF a b); unfold dF; rw [if_pos hl]; exact hb) (.inr rfl)
   ·rw [if_neg hl]
    exact q _ (by show aX H _ (dF a b); unfold dF; rw [if_neg hl]; exact ha) (.inl rfl)
noncomputable def Up (K : acB) : Sp := fun vs H Q _ => ∃ (v : V) (a : Option P2) (b : Int), vs = [v, .int b] /\ cG H v a /\ ∀ x H', aj H H' -> cG H' x (ox a b) -> Q x H'
theorem Lr (T : Tx K mg) : aK P w K mg base (aJ P w) 1 T.j5 T.xr ["one", "by"] (Up K) := by
 refine okN T.mF S7 (fun vs H Q E h => ?_) (fun aF A outer s H vs Q E hr h => ?_)
 ·obtain ⟨v, a, b, rfl, _⟩ := h
  rfl
 ·obtain ⟨v, a, b, rfl, ha, q⟩ := h
  refine ⟨_, (ar (aI (GJ (dH (lr (pv 0))) fX (bX (aa (aC bh (ax aB (pv 0) ae (fun _ _ => rfl)) (pv 1)) (aa (ax aB (pv 0) ae (fun _ _ => rfl)) ah)))))), ?_⟩
  rcases a with _ | a
  ·obtain rfl : v = .non := ha
   walk_at "gzn"
   exact q _ _ (aj.refl _) rfl
  ·obtain ⟨r, rfl, eB⟩ := id ha
   walk_at "gzn"
   refine aP (az.of eB) rfl ?_
   walk_at "gzn"
   refine aP (az.of eB) rfl ⟨b7, fun p hp => q _ _ (av hp) ⟨p, rfl, aq⟩⟩
noncomputable def Uq (K : acB) : Sp := fun vs H Q _ => ∃ (a b : acJ) (xs ys : List V) (ps : List P2) (ms : List Mk), vs = [.ref a, .ref b] /\ ag K H a xs /\ dZ H xs ps /\ ag K H b ys /\ ak (ib H) ys ms /\ jJ ps /\ ps.length <= 900 /\ ms.length <= 1000 /\ (∀ m ∈ ms, m.1 <= ps.length) /\
 ∀ l zs ts H', aj H H' -> H l = none -> H' l = some (.lst zs) -> ak (cG H') zs ts -> ts.length = ps.length + 1 -> mh ps ms (cF ts) -> Q (.ref l) H'
noncomputable def mR (P : Nat -> (Nat -> Option P2) -> Prop) (H : Hp) (a b l : acJ) (n : Nat) (i : Nat) (σ : St) (H1 : Hp) : Prop := ∃ (zs : List V) (ts : List (Option P2)) (e1 e2 e3 : Option V), σ = [some (.ref a), some (.ref b), some (.ref l), e1, e2, e3] /\ aj H H1 /\ H1 l = some (.lst zs) /\ ak (cG H1) zs ts /\ ts.length = n + 1 /\ P i (cF ts)
theorem cG.put {H : Hp} {v : V} {o : Option P2} {l : acJ} {ys zs : List V} (h : cG H v o) (hl : H l = some (.lst ys)) : cG (upd H l (.lst zs)) v o := by
 cases o with
 | none => exact h
 | some p => exact aX.put h hl
theorem ak.Ls {α : Type} {R : V -> α -> Prop} {x : V} {a : α} (r : R x a) : ∀ {xs : List V} {as : List α} (j : Nat), ak R xs as -> ak R (xs.set j x) (as.set j a)
 | [], [], _, _ => trivial
 | _ :: _, _ :: _, 0, h => ⟨r, h.2⟩
 | _ :: _, _ :: _, j + 1, h => ⟨h.1, ak.Ls r j h.2⟩
 | [], _ :: _, _, h => h.elim
 | _ :: _, [], _, h => h.elim
theorem qw {H : Hp} {zs : List V} {ts : List (Option P2)} {t : Nat} (h : ak (cG H) zs ts) (ht : t < ts.length) : ∃ v, dw zs (t : Int) = some v /\ cG H v (cF ts t) := by
 obtain ⟨v, hv, r⟩ := h.at (acG ht)
 refine ⟨v, dz hv, ?_⟩
 unfold cF
 rw [acH, acG ht]
 exact r
theorem Ck {n t : Nat} (h : t < n) : iJ n (t : Int) = some t := by
 unfold iJ
 rw [if_pos (by omega), if_pos (by omega), adx]
theorem Cm {P : Nat -> (Nat -> Option P2) -> Prop} {H : Hp} {a b l : acJ} {n i : Nat} {zs : List V} {ts : List (Option P2)} {H1 : Hp} {v : V} {x : Option P2} {t : Nat} {d1 d2 d3 : Option V} (i8 : H l = none) (s : aj H H1) (hl : H1 l = some (.lst zs)) (hz : ak (cG H1) zs ts) (hlen : ts.length = n + 1) (hv : cG H1 v x) (ht : t < n + 1) (hP : P i (hV (cF ts) t x)) : mR P H a b l n i [some (.ref a), some (.ref b), some (.ref l), d1, d2, d3] (upd H1 l (.lst (zs.set t v))) :=
 ⟨zs.set t v, ts.set t x, d1, d2, d3, rfl, lS i8 s, aq, (ak.Ls hv t hz).imp fun _ _ r => r.put hl, by rw [ajQ]; exact hlen, by rw [QG (by omega)]; exact hP⟩
theorem Ur (n : Nat) : jG ((n : Int) - 1) (-1) (-1) = n := by
 unfold jG adS
 simp only [show ¬ ((-1 : Int) > 0) by omega, if_false, show (- (-1 : Int)) = 1 by omega, Int.ediv_one]
 split <;> omega
theorem Us (T : Tx K mg) : aK P w K mg base (aJ P w) 2 T.j6 T.xt ["steps", "marks"] (Uq K) := by
 refine okN T.pU pP (fun vs H Q E h => ?_) (fun aF A outer s H vs Q E hr h => ?_)
 ·obtain ⟨a, b, xs, ys, ps, ms, rfl, _⟩ := h
  rfl
 ·obtain ⟨a, b, xs, ys, ps, ms, rfl, hS, hP, hT, hM, ai, hn, hm, ht, q⟩ := h
  refine ⟨_, (ao (AY (i := 2) (cE.mk (fr := []) (ys := []) rfl (by decide +kernel) rfl (by decide +kernel) rfl rfl .nil .nil (by decide) rfl) rfl pP.nd rfl rfl (gO rfl T.fh (aa (aC bh (bC fu (by rfl) T.eg eQ (aa (pv 0) ah)) ae) ah)) (fun C s2 H2 ex pn => ⟨dX, fX⟩))
  (ao (cu adu rfl (Iq rfl T.Cd (aa (pv 1) ah)) (iD rfl (cP (bb (i := 3) pP.nd rfl (adi rfl)) (cP (bb (i := 4) pP.nd rfl (adi rfl)) iC))) (ar (aY (dH (jf (ax aB (ax aB (pv 4) ae (fun _ _ => rfl)) ae (fun _ _ => rfl)))) (ar (Ak (aE (Cj T) (hr.mono (by decide)) rfl T.xq T.j4.kp T.pT .nil aD (aa (ax aB (pv 2) (ax aB (pv 4) ae (fun _ _ => rfl)) (fun _ _ => rfl)) (aa (bX (aa (ax aB (ax aB (pv 4) ae (fun _ _ => rfl)) ae (fun _ _ => rfl)) (aa (pv 3) ah))) ah))) (Aj (pv 2) (ax aB (pv 4) ae (fun _ _ => rfl)) set_list))) a7)))
  (ao (cu adu rfl (gO rfl T.fh (aa (bC fu (by rfl) T.eg eQ (aa (pv 0) ah)) ah)) (bb (i := 5) pP.nd rfl (adi rfl)) (ar (Ak (aE (Cj T) (hr.mono (by decide)) rfl T.xq T.j4.kp T.pT .nil aD (aa (ax aB (pv 2) (aC bh (pv 5) ae) (fun _ _ => rfl)) (aa (aE (Lr T) (hr.mono (by decide)) rfl T.B7 T.mF.kp T.tR .nil aD (aa (ax aB (pv 2) (pv 5) (fun _ _ => rfl)) (aa (ax aB (ax aB (pv 0) (pv 5) (fun _ _ => rfl)) ae (fun _ _ => rfl)) ah))) ah))) (Aj (pv 2) (aC bh (pv 5) ae) set_list))))
  (ao (cu adu rfl (Py rfl T.fh (aa (aC eM (bC fu (by rfl) T.eg eQ (aa (pv 0) ah)) ae) (aa (uW uZ ae) (aa (uW uZ ae) ah)))) (bb (i := 5) pP.nd rfl (adi rfl)) (ar (Ak (aE (Cj T) (hr.mono (by decide)) rfl T.xq T.j4.kp T.pT .nil aD (aa (ax aB (pv 2) (pv 5) (fun _ _ => rfl)) (aa (aE (Lr T) (hr.mono (by decide)) rfl T.B7 T.mF.kp T.tR .nil aD (aa (ax aB (pv 2) (aC bh (pv 5) ae) (fun _ _ => rfl)) (aa (uW uZ (ax aB (ax aB (pv 0) (pv 5) (fun _ _ => rfl)) ae (fun _ _ => rfl))) ah))) ah))) (Aj (pv 2) (pv 5) set_list))))
  (ar (aI (pv 2))))))), ?_⟩
  have l1 := hP.len
  have l2 := hM.len
  refine aN (fun σ H1 => ∃ l, σ = [some (.ref a), some (.ref b), some (.ref l), none, none, none] /\ aj H H1 /\ H l = none /\ H1 l = some (.lst (adU (ps.length + 1) .non))) (fun N hN => ?_) ?_
  ·walk_at "gzn"
   refine ⟨_, fJ hS, by omega, by omega, ?_⟩
   rw [l1, show ((ps.length : Int) + 1).toNat = ps.length + 1 by omega]
   refine cZ vX (by rw [acI, aeq]; exact acV (by omega : _ <= 901) (by decide)) (vY (p := fun _ => true) (f := fun _ => .non) trivial (fun x _ Q h => ?_) (fun x _ _ Q h => ?_) ?_)
   ·walk_at "gzn"
    exact h
   ·walk_at "gzn"
    exact h
   rw [adq, filter_tt]
   intro l hl
   refine hN _ _ ⟨l, rfl, av hl, hl, ?_⟩
   rw [aq]
   congr 2
   refine agy fun k => ?_
   rw [adn, adn, afu]
   by_cases hk : k < ps.length + 1
   ·rw [aiN hk, if_pos hk]; rfl
   ·rw [afb (by rw [aeq]; omega), if_neg hk]; rfl
  rintro σ H1 ⟨l, rfl, s1, i8, wX⟩
  refine aN (mR (T1 ps ms) H a b l ps.length ms.length) (fun N hN => ?_) ?_
  ·walk_at "gzn"
   refine ⟨⟨_, s1.seq hT⟩, Iu (xs := ys) (mR (T1 ps ms) H a b l ps.length) ⟨_, adU (ps.length + 1) none, _, _, _, rfl, s1, wX, ?_, by rw [afa], by rw [QH]; exact T1.nil⟩ ?_ ?_ ?_⟩
   ·have : ∀ k, ak (cG H1) (adU k .non) (adU k none) := fun k => by
     induction k with
     | zero => exact trivial
     | succ k ih => exact ⟨rfl, ih⟩
    exact this _
   ·rintro i σ H2 _ ⟨_, _, _, _, _, _, s2, _⟩
    exact s2.seq hT
   ·rintro i x σ H2 p hx ⟨zs, ts, d1, d2, d3, rfl, s2, bR, hz, dG, qx⟩ hp
    obtain ⟨m, mS, tp, sp, rfl, h1, h2⟩ := hM.get hx
    have uo := ht m (acZ mS)
    have up := av (o := .tup [.int i, .ref tp]) hp
    refine lZ (az.of aq) ?_
    generalize upd H2 p (.tup [.int i, .ref tp]) = H3 at up ⊢
    have s3 := s2.trans up
    have g1 := s3 _ _ h1
    have g2 := s3 _ _ h2
    have cc := up _ _ bR
    have fj := hz.imp fun _ _ r => r.same up
    obtain ⟨mt, lo, hi⟩ := m
    walk_at "gzn"
    refine aP (az.of g1) rfl (aP (az.of g2) rfl ?_)
    cases hi with
    | none =>
     walk_at "gzn"
     exact ⟨zs, ts, _, _, _, rfl, s3, cc, fj, dG, qx.skip mS rfl⟩
    | some h =>
     walk_at "gzn"
     obtain ⟨v, hv, rv⟩ := qw fj (t := mt) (by dsimp only at uo; omega)
     refine aP (az.of g1) rfl (aW (ag.of cc) hv (aP (az.of g1) rfl (aP (az.of g2) rfl ?_)))
     walk_at "gzn"
     refine ⟨b7, fun t1 jU => ?_⟩
     have ut := av (o := .tup [.int h, .int i]) jU
     have S4 := s3.trans ut
     refine ⟨v, .ref t1, _, some (h, (i : Int)), rfl, rv.same ut, ⟨t1, rfl, aq⟩, fun y hy _ => ?_⟩
     refine aP (az.of (ut _ _ g1)) rfl ?_
     exact ⟨zs, _, rfl, ut _ _ cc, mt, Ck (by rw [hz.len, dG]; dsimp only at uo; omega), Cm i8 S4 (ut _ _ cc) (fj.imp fun _ _ r => r.same ut) dG hy (by dsimp only at uo; omega) (qx.put mS rfl)⟩
   ·rintro σ H2 h
    rw [l2] at h
    exact hN _ _ h
  rintro σ H2 h2
  refine aN (mR (T2 ps ms) H a b l ps.length ps.length) (fun N hN => ?_) ?_
  ·obtain ⟨zs, ts, d1, d2, d3, rfl, s2, bR, hz, dG, qx⟩ := h2
   walk_at "gzn"
   refine ⟨_, fJ (s2.seq hS), ?_⟩
   rw [l1]
   refine ⟨by omega, by omega, ?_⟩
   rw [adx]
   refine lR (mR (T2 ps ms) H a b l ps.length) ⟨zs, ts, d1, d2, d3, rfl, s2, bR, hz, dG, qx.two⟩ ?_ (fun σ H3 h => hN _ _ h)
   rintro i σ H3 hi ⟨zs, ts, d1, d2, d3, rfl, s3, cc, fj, dG, Ut⟩
   have zl := fj.len
   obtain ⟨v, hv, rv⟩ := qw fj (t := i + 1) (by omega)
   obtain ⟨u, hu, ru⟩ := qw fj (t := i) (by omega)
   obtain ⟨w, hw, tw, rfl, mT⟩ := hP.at (Lq hi)
   walk_at "gzn"
   rw [show (0 : Int) + (i : Int) = ((i : Nat) : Int) by omega, show ((i : Nat) : Int) + 1 = ((i + 1 : Nat) : Int) by omega]
   refine aW (ag.of cc) hv (aW (ag.of cc) hu (aW (s3.seq hS) (dz hw) (aP (az.of (s3 _ _ mT)) rfl ?_)))
   refine ⟨u, _, _, rfl, ru, fun y H4 s4 hy => ?_⟩
   refine ⟨v, y, _, _, rfl, rv.same s4, hy, fun z mU _ => ?_⟩
   exact ⟨zs, s4 _ _ cc, i + 1, Ck (by omega), Cm i8 (s3.trans s4) (s4 _ _ cc) (fj.imp fun _ _ r => r.same s4) dG mU (by omega) (Ut.step ai ht hi)⟩
  rintro σ H3 h3
  refine aN (mR (fun i => T3 ps ms (ps.length - i)) H a b l ps.length ps.length) (fun N hN => ?_) ?_
  ·obtain ⟨zs, ts, d1, d2, d3, rfl, s2, bR, hz, dG, qx⟩ := h3
   walk_at "gzn"
   refine ⟨_, fJ (s2.seq hS), ?_⟩
   rw [l1, Ur]
   refine ⟨by omega, by omega, by decide, by decide, by decide, by decide, by decide, PB (mR (fun i => T3 ps ms (ps.length - i)) H a b l ps.length) ⟨zs, ts, d1, d2, d3, rfl, s2, bR, hz, dG, qx.three⟩ ?_ (fun σ H3 h => hN _ _ h)⟩
   rintro i σ H3 hi ⟨zs, ts, d1, d2, d3, rfl, s3, cc, fj, dG, mV⟩
   have zl := fj.len
   obtain ⟨j, hj⟩ : ∃ j, ps.length = j + 1 + i := ⟨ps.length - 1 - i, by omega⟩
   obtain ⟨v, hv, rv⟩ := qw fj (t := j + 1) (by omega)
   obtain ⟨u, hu, ru⟩ := qw fj (t := j) (by omega)
   obtain ⟨w, hw, tw, rfl, mT⟩ := hP.at (Lq (ps := ps) (i := j) (by omega))
   walk_at "gzn"
   rw [show (ps.length : Int) - 1 + (i : Int) * -1 = ((j : Nat) : Int) by omega, show ((j : Nat) : Int) + 1 = ((j + 1 : Nat) : Int) by omega]
   refine aW (ag.of cc) hu (aW (ag.of cc) hv (aW (s3.seq hS) (dz hw) (aP (az.of (s3 _ _ mT)) rfl ?_)))
   walk_at "gzn"
   refine ⟨v, _, _, rfl, rv, fun y H4 s4 hy => ?_⟩
   refine ⟨u, y, _, _, rfl, ru.same s4, hy, fun z mU _ => ?_⟩
   refine ⟨zs, s4 _ _ cc, j, Ck (by omega), Cm i8 (s3.trans s4) (s4 _ _ cc) (fj.imp fun _ _ r => r.same s4) dG mU (by omega) ?_⟩
   show T3 ps ms (ps.length - (i + 1)) _
   rw [show ps.length - (i + 1) = j by omega]
   have mV : T3 ps ms (ps.length - i) (cF ts) := mV
   rw [show ps.length - i = j + 1 by omega] at mV
   exact mV.step ai ht (by omega)
  rintro σ H4 ⟨zs, ts, d1, d2, d3, rfl, s4, ip, mW, dG, Lu⟩
  rw [Nat.sub_self] at Lu
  walk_at "gzn"
  exact q l zs ts H4 s4 i8 ip mW dG Lu.tops
end
section
seal L2.PE L2.PS L2.bq L2.PA
variable {P : ac2} {w : adw} {K : acB} {mg : Str -> Option acC} {base : aer}
noncomputable def Uu (K : acB) : Sp := fun vs H Q _ => ∃ (a b : acJ) (zs ys : List V) (ts : List (Option P2)) (ms : List Mk), vs = [.ref a, .ref b] /\ ag K H a zs /\ ak (cG H) zs ts /\ ag K H b ys /\ ak (ib H) ys ms /\ (∀ m ∈ ms, m.1 < ts.length) /\
 (wD ms (cF ts) -> ∀ H', aj H H' -> Q .non H') /\
 (∀ (j : Nat) m l v k, ms[j]? = some m -> m.2.1 = some l -> cF ts m.1 = some (v, k) -> v < l -> ∀ p H', aj H H' -> H p = none -> H' p = some (.tup [.int k, .int j]) -> Q (.ref p) H')
noncomputable def Uv (H : Hp) (a b : acJ) (ts : List (Option P2)) (ms : List Mk) (i : Nat) (σ : St) (H1 : Hp) : Prop := ∃ (e1 e2 e3 : Option V), σ = [some (.ref a), some (.ref b), e1, e2, e3] /\ aj H H1 /\ wD (ms.take i) (cF ts)
theorem Uw (T : Tx K mg) : aK P w K mg base (aJ P w) 1 T.j7 T.xx ["tops", "marks"] (Uu K) := by
 refine okN T.pV xf (fun vs H Q E h => ?_) (fun aF A outer s H vs Q E hr h => ?_)
 ·obtain ⟨a, b, zs, ys, ts, ms, rfl, _⟩ := h
  rfl
 ·obtain ⟨a, b, zs, ys, ts, ms, rfl, hA, hZ, hT, hM, ht, q0, q⟩ := h
  refine ⟨_, (ao (cu adu rfl (Iq rfl T.Cd (aa (pv 1) ah)) (iD rfl (cP (bb (i := 2) xf.nd rfl (adi rfl)) (cP (bb (i := 3) xf.nd rfl (adi rfl)) iC))) (ao (aG (i := 4) xf.nd rfl (adi rfl) (ax aB (pv 0) (ax aB (pv 3) ae (fun _ _ => rfl)) (fun _ _ => rfl)))
   (ar (aY (PW.pt (iB (dH (jf (pv 4))) (iB (dH (jf (ax aB (ax aB (pv 3) ae (fun _ _ => rfl)) ae (fun _ _ => rfl)))) (jg (ba gQ (ax aB (ax aB (pv 3) ae (fun _ _ => rfl)) ae (fun _ _ => rfl)) (ax aB (pv 4) ae (fun _ _ => rfl)) (a9 _)))))) (ar (aI (bX (aa (ax aB (pv 4) ae (fun _ _ => rfl)) (aa (pv 2) ah))))) a7))))
  (ar (aI fX))), ?_⟩
  have l1 := hZ.len
  have l2 := hM.len
  walk_at "gzn"
  refine ⟨⟨_, hT⟩, Iu (xs := ys) (Uv H a b ts ms) ⟨_, _, _, rfl, aj.refl _, fun m h => by simp at h⟩ ?_ ?_ ?_⟩
  ·rintro i σ H2 _ ⟨_, _, _, _, s2, _⟩
   exact s2.seq hT
  ·rintro i x σ H2 p hx ⟨d1, d2, d3, rfl, s2, jK⟩ hp
   obtain ⟨m, mS, tp, sp, rfl, h1, h2⟩ := hM.get hx
   have uo := ht m (acZ mS)
   have up := av (o := .tup [.int i, .ref tp]) hp
   refine lZ (az.of aq) ?_
   generalize upd H2 p (.tup [.int i, .ref tp]) = H3 at up ⊢
   have s3 := s2.trans up
   have g1 := s3 _ _ h1
   have g2 := s3 _ _ h2
   have next : (∀ l v k, m.2.1 = some l -> cF ts m.1 = some (v, k) -> l <= v) -> wD (ms.take (i + 1)) (cF ts) := fun hh n hn => by
    rw [aea, mS] at hn
    rcases adj.mp hn with z | z
    ·exact jK n z
    ·obtain rfl : n = m := by simpa using z
     exact hh
   obtain ⟨v, hv, rv⟩ := qw hZ uo
   obtain ⟨mt, lo, hi⟩ := m
   walk_at "gzn"
   refine aP (az.of g1) rfl (aW (s3.seq hA) hv ?_)
   cases et : cF ts mt with
   | none =>
    rw [show cF ts (mt, lo, hi).1 = none from et] at rv
    obtain rfl : v = .non := rv
    walk_at "gzn"
    exact ⟨_, _, _, rfl, s3, next fun l v k _ e => by rw [show cF ts (mt, lo, hi).1 = none from et] at e; cases e⟩
   | some q2 =>
    obtain ⟨w, k⟩ := q2
    rw [show cF ts (mt, lo, hi).1 = some (w, k) from et] at rv
    obtain ⟨rt, rfl, hrt⟩ := rv
    walk_at "gzn"
    refine aP (az.of g1) rfl (aP (az.of g2) rfl ?_)
    cases lo with
    | none =>
     walk_at "gzn"
     exact ⟨_, _, _, rfl, s3, next fun l v k e _ => by cases e⟩
    | some l =>
     walk_at "gzn"
     refine aP (az.of g1) rfl (aP (az.of g2) rfl (aP (az.of (s3 _ _ hrt)) rfl ?_))
     walk_at "gzn"
     refine bA (fun hc => ?_) fun hc => ?_
     ·exact aP (az.of (s3 _ _ hrt)) rfl ⟨b7, fun r bQ => q i _ l w k mS rfl et hc r _ (s3.trans (av bQ)) (s3.free bQ) aq⟩
     ·exact ⟨_, _, _, rfl, s3, next fun l' v' k' e1 e2 => by
       cases e1
       rw [show cF ts (mt, some l, hi).1 = some (w, k) from et] at e2
       cases e2
       omega⟩
  ·rintro σ H2 ⟨d1, d2, d3, rfl, s2, jK⟩
   walk_at "gzn"
   rw [l2, aeb] at jK
   exact q0 jK _ s2
end
section
seal L2.PE L2.PS L2.bq L2.PA
variable {P : ac2} {w : adw} {K : acB} {mg : Str -> Option acC} {base : aer}
noncomputable def qy (H : Hp) (v : V) (r : Int × List Mk) : Prop := ∃ (g k : acJ) (zs : List V), v = .ref g /\ H g = some (.tup [.int r.1, .ref k]) /\ H k = some (.lst zs) /\ ak (ib H) zs r.2
theorem qy.same {H H' : Hp} {v : V} {r : Int × List Mk} (h : qy H v r) (s : aj H H') : qy H' v r := let ⟨g, k, zs, e, a, b, c⟩ := h; ⟨g, k, zs, e, s _ _ a, s _ _ b, c.imp fun _ _ x => x.same s⟩
noncomputable def Ux (K : acB) (B : acJ) : Sp := fun vs H Q _ => ∃ (x p : acJ) (e t u d m : Int) (tb : Tb), vs = [.ref x] /\ dk B H x e t u d m p tb /\ (tb.map (·.1)).Nodup /\ tb.length < 64 /\ (∀ r ∈ tb, 0 <= r.1.2) /\ 0 <= e /\ e <= 7 /\ ∀ l ys H', aj H H' -> H l = none -> H' l = some (.lst ys) -> ak (qy H') ys (fQ e.toNat tb) -> Q (.ref l) H'
theorem Uy (T : Tx K mg) : aK P w K mg base (aJ P w) 3 T.kf T.xK ["board"] (Ux K T.aH) := by
 refine okN T.p8 Td (fun vs H Q E h => ?_) (fun aF A outer s H vs Q E hr h => ?_)
 ·obtain ⟨x, p, e, t, u, d, m, tb, rfl, _⟩ := h
  rfl
 ·obtain ⟨x, p, e, t, u, d, m, tb, rfl, hb, c8, b9, bQ, h0, h7, q⟩ := h
  refine ⟨_, (ar (aI (dY (cE.mk (fr := [0]) (ys := ["board"]) rfl (by decide +kernel) rfl (by decide +kernel) rfl rfl (.cons rfl .nil) (.cons rfl rfl rfl rfl .nil) (by decide) rfl) rfl (gO rfl T.fh (aa (fB (pv 0) rfl) ah)) (fun C s2 H2 ex pn => ⟨dX, (bX (aa (pv 0) (aa (aE (Ul T) (hr.mono (by decide)) rfl T.KL T.p0.kp T.xJ .nil aD (aa (pv 1) (aa (pv 0) ah))) ah)))⟩)))), ?_⟩
  obtain ⟨⟨dx, hx⟩, hp⟩ := id hb
  walk_at "gzn"
  refine ⟨_, _, _, hx, T.bB, T.i6, _, rfl, ?_⟩
  refine ⟨e, rfl, by omega, by omega, cZ vX (by rw [acI, aeq]; exact acV (by omega : _ <= 12) (by decide)) (d6 (R := fun _ x (k : Nat) => x = V.int ((0 : Int) + k)) (R' := qy) (f := fun (k : Nat) => ((k : Int), jN tb (k : Int))) (fun _ _ _ _ _ h => h) (fun _ _ _ _ s' h => h.same s') (ak.iy _) (bs := []) trivial (fun _ _ => trivial) (fun x k _ H2 s2 r Q h => ?_) (fun x k _ H2 s2 r Q h => ?_) fun H2 zs s2 hz => ?_)⟩
  ·walk_at "gz"
   exact h
  ·subst r
   walk_at "gz"
   rw [akH]
   refine ⟨x, p, e, t, u, d, m, (k : Int), tb, rfl, hb.same s2, c8, b9, bQ, fun l ys H3 s3 _ hl hM => ⟨b7, fun g hg => ?_⟩⟩
   have u1 := av (o := .tup [.int (k : Int), .ref l]) hg
   exact h _ _ (s3.trans u1) ⟨g, l, ys, rfl, aq, u1 _ _ hl, hM.imp fun _ _ x => x.same u1⟩
  ·intro l hl
   rw [adq] at hz
   exact q l zs _ (s2.trans (av hl)) (s2.free hl) aq (hz.imp fun _ _ r => r.same (av hl))
end
section
seal L2.PE L2.PS L2.bq L2.PA
variable {P : ac2} {w : adw} {K : acB} {mg : Str -> Option acC} {base : aer}
noncomputable def gF (H : Hp) (v : V) (r : P2) : Prop := ∃ (t a b : acJ) (x y : V), v = .ref t /\ H t = some (.tup [.ref a, .ref b]) /\ H a = some (.tup [.int r.1, x]) /\ H b = some (.tup [.int r.2, y])
theorem gF.same {H H' : Hp} {v : V} {r : P2} (h : gF H v r) (s : aj H H') : gF H' v r := let ⟨t, a, b, x, y, e, h1, h2, h3⟩ := h; ⟨t, a, b, x, y, e, s _ _ h1, s _ _ h2, s _ _ h3⟩
theorem gF.put {H : Hp} {v : V} {r : P2} {l : acJ} {ys : List V} {o : HO} (h : gF H v r) (hl : H l = some (.lst ys)) : gF (upd H l o) v r := by
 obtain ⟨t, a, b, x, y, e, h1, h2, h3⟩ := h
 have nl : ∀ (z : acJ) (vs : List V), H z = some (.tup vs) -> z ≠ l := fun z vs e1 e2 => by rw [e2, hl] at e1; cases e1
 exact ⟨t, a, b, x, y, e, by rw [aA (nl _ _ h1)]; exact h1, by rw [aA (nl _ _ h2)]; exact h2, by rw [aA (nl _ _ h3)]; exact h3⟩
theorem Uz {H H' : Hp} {v : V} {o : Option P2} {l : acJ} {ys : List V} (h : cG H v o) (hl : H l = some (.lst ys)) (k : ∀ b o, b ≠ l -> H b = some o -> H' b = some o) : cG H' v o := by
 cases o with
 | none => exact h
 | some p =>
  obtain ⟨t, e, a⟩ := h
  exact ⟨t, e, k _ _ (fun z => by rw [z, hl] at a; cases a) a⟩
noncomputable def qz (H : Hp) (l : acJ) (rs : List P2) : Prop := ∃ zs, H l = some (.lst zs) /\ ak (gF H) zs rs
theorem qz.same {H H' : Hp} {l : acJ} {rs : List P2} (h : qz H l rs) (s : aj H H') : qz H' l rs := let ⟨zs, a, b⟩ := h; ⟨zs, s _ _ a, b.imp fun _ _ x => x.same s⟩
noncomputable def UA (K : acB) : Sp := fun vs H Q _ => ∃ (a b : acJ) (xs ys : List V) (ps : List P2) (gs : List (Int × List Mk)), vs = [.ref a, .ref b] /\ ag K H a xs /\ dZ H xs ps /\ jJ ps /\ ps.length <= 900 /\ ag K H b ys /\ ak (qy H) ys gs /\ gs.length <= 7 /\ (∀ g ∈ gs, g.2.length <= 1000 /\ ∀ m ∈ g.2, m.1 <= ps.length) /\ ∀ l zs H', aj H H' -> H l = none -> H' l = some (.lst zs) -> ak (gF H') zs (ef ps gs gs) -> Q (.ref l) H'
noncomputable def Lv (H : Hp) (a b l : acJ) (ps : List P2) (gs : List (Int × List Mk)) (i : Nat) (σ : St) (H1 : Hp) : Prop := ∃ (e1 e2 e3 e4 e5 e6 : Option V), σ = [some (.ref a), some (.ref b), some (.ref l), e1, e2, e3, e4, e5, e6] /\ aj H H1 /\ qz H1 l (ef ps gs (gs.take i))
noncomputable def UB (H H0 : Hp) (a b l : acJ) (nm mk tp : V) (ps : List P2) (gs : List (Int × List Mk)) (g : Int × List Mk) (i j : Nat) (σ : St) (H1 : Hp) : Prop := ∃ (e4 e5 e6 : Option V), σ = [some (.ref a), some (.ref b), some (.ref l), some nm, some mk, some tp, e4, e5, e6] /\ aj H H1 /\ (∀ b o, b ≠ l -> H0 b = some o -> H1 b = some o) /\ qz H1 l (ef ps gs (gs.take i) ++ ff ps g (gs.take j))
theorem UC (T : Tx K mg) : aK P w K mg base (aJ P w) 3 T.kg T.xN ["steps", "groups"] (UA K) := by
 refine okN T.p9 jV (fun vs H Q E h => ?_) (fun aF A outer s H vs Q E hr h => ?_)
 ·obtain ⟨a, b, xs, ys, ps, gs, rfl, _⟩ := h
  rfl
 ·obtain ⟨a, b, xs, ys, ps, gs, rfl, hS, hP, ai, hn, hG, hA, h7, hm, q⟩ := h
  refine ⟨_, (ao (aG (i := 2) jV.nd rfl (adi rfl) (dU ah))
  (ao (cu adu rfl (b5 (pv 1)) (iD rfl (cP (bb (i := 3) jV.nd rfl (adi rfl)) (cP (bb (i := 4) jV.nd rfl (adi rfl)) iC))) (ao (aG (i := 5) jV.nd rfl (adi rfl) (aE (Us T) (hr.mono (by decide)) rfl T.KA T.pU.kp T.xu .nil aD (aa (pv 0) (aa (pv 4) ah))))
    (ar (cu adu rfl (b5 (pv 1)) (iD rfl (cP (bb (i := 6) jV.nd rfl (adi rfl)) (cP (bb (i := 7) jV.nd rfl (adi rfl)) iC))) (ao (aG (i := 8) jV.nd rfl (adi rfl) (aE (Uw T) (hr.mono (by decide)) rfl T.KC T.pV.kp T.xy .nil aD (aa (pv 5) (aa (pv 7) ah))))
      (ar (aY (dH (jf (pv 8))) (ar (eJ (AA afz agc agd AB (pv 2) (aa (bX (aa (bX (aa (pv 3) (aa (ax aB (ax aB (pv 4) (ax aB (pv 8) ae (fun _ _ => rfl)) (fun _ _ => rfl)) ae (fun _ _ => rfl)) ah))) (aa (bX (aa (pv 6) (aa (ax aB (ax aB (pv 7) (ax aB (pv 8) ae (fun _ _ => rfl)) (fun _ _ => rfl)) ae (fun _ _ => rfl)) ah))) ah))) ah)))) a7)))))))
  (ar (aI (pv 2))))), ?_⟩
  have yl := hA.len
  refine aN (fun σ H1 => ∃ l, σ = [some (.ref a), some (.ref b), some (.ref l), none, none, none, none, none, none] /\ aj H H1 /\ H l = none /\ H1 l = some (.lst [])) (fun N hN => ?_) ?_
  ·walk_at "gzn"
   exact ⟨by decide, fun l hl => hN _ _ ⟨l, rfl, av hl, hl, aq⟩⟩
  rintro σ H1 ⟨l, rfl, s1, fl, hl⟩
  refine aN (fun σ H2 => Lv H a b l ps gs ys.length σ H2) (fun N hN => ?_) ?_
  ·walk_at "gzn"
   refine ⟨⟨_, s1.seq hG⟩, gX (xs := ys) (Lv H a b l ps gs) ⟨_, _, _, _, _, _, rfl, s1, [], hl, trivial⟩ ?_ ?_ (fun σ H' h => hN _ _ h)⟩
   ·rintro i σ H2 _ ⟨_, _, _, _, _, _, _, s2, _⟩
    exact s2.seq hG
   ·rintro i x σ H2 hx ⟨_, _, _, _, _, _, rfl, s2, h2⟩
    obtain ⟨r, hr, gg, k, zs, rfl, h3, h4, h5⟩ := hA.get hx
    have Cn := hm r (acZ hr)
    refine lZ (az.of (s2 _ _ h3)) ?_
    walk_at "gzn"
    refine ⟨a, k, xs, zs, ps, r.2, rfl, s2.seq hS, hP.same s2, ag.of (s2 _ _ h4), h5.imp fun _ _ x => x.same s2, ai, hn, Cn.1, Cn.2, fun tp us ts H3 s3 Lw UD UE dG TT => ?_⟩
    have S3 := s2.trans s3
    walk_at "gzn"
    refine ⟨⟨_, S3.seq hG⟩, gX (xs := ys) (UB H H3 a b l (.int r.1) (.ref k) (.ref tp) ps gs r i) ⟨_, _, _, rfl, S3, fun _ _ _ e => e, ?_⟩ ?_ ?_ ?_⟩
    ·rw [show ff ps r (gs.take 0) = [] from rfl, agW]
     exact h2.same s3
    ·rintro j σ H4 _ ⟨_, _, _, _, s4, _, _⟩
     exact s4.seq hG
    ·rintro j y σ H4 hy ⟨_, _, _, rfl, s4, b4, ws, h6, Co⟩
     obtain ⟨r', uq, gg', k', Cp, rfl, g3, g4, g5⟩ := hA.get hy
     have Cq := hm r' (acZ uq)
     obtain ⟨ls, hls, _⟩ := h2
     have UG : tp ≠ l := fun z => by rw [z, hls] at Lw; cases Lw
     have yX := b4 _ _ UG UD
     have mW := UE.imp fun _ _ x => Uz x (s3 _ _ hls) b4
     refine lZ (az.of (s4 _ _ g3)) ?_
     walk_at "gzn"
     refine ⟨tp, k', us, Cp, ts, r'.2, rfl, ag.of yX, mW, ag.of (s4 _ _ g4), g5.imp fun _ _ x => x.same s4, fun m fk => by have := Cq.2 m fk; omega, fun jK H5 s5 => ?_, fun jj m lo v kk e1 e2 e3 e4 p H5 s5 fp hp => ?_⟩
     ·walk_at "gzn"
      refine ⟨_, _, _, rfl, s4.trans s5, fun b o hb e => s5 _ _ (b4 b o hb e), ?_⟩
      rw [Kk uq, if_neg (fun hc => by
       obtain ⟨x1, m1, x2, m2, hc⟩ := BN.mp hc
       exact Si TT Cn.2 Cq.2 jK m1 m2 hc), agW]
      exact qz.same ⟨ws, h6, Co⟩ s5
     ·obtain ⟨i', a', rfl, bf, hc⟩ := TT.iS (Cq.2 m (acZ e1)) e3 e2 e4
      have mX := s5 _ _ h6
      have S5 := s4.trans s5
      obtain ⟨v1, iZ, t1, w1, rfl, m1, _⟩ := (h5.imp fun _ _ x => ib.same x S5).at bf
      obtain ⟨v2, mC, t2, w2, rfl, m2, _⟩ := (g5.imp fun _ _ x => ib.same x S5).at e1
      walk_at "gzn"
      refine ⟨.inl ⟨rfl, _, ag.of mX⟩, aP (az.of hp) (v := .int i') rfl (aW (ag.of (S5 _ _ h4)) (dz iZ) (aP (az.of m1) (v := .int a'.1) rfl ⟨b7, fun p1 yV => ?_⟩))⟩
      have u1 := av (o := .tup [.int r.1, .int a'.1]) yV
      refine aP (az.of (u1 _ _ hp)) (v := .int jj) rfl (aW (ag.of (u1 _ _ (S5 _ _ g4))) (dz mC) (aP (az.of (u1 _ _ m2)) (v := .int m.1) rfl ⟨b7, fun p2 lN => ⟨b7, fun p3 yY => ?_⟩⟩))
      have u2 := av (o := .tup [.int r'.1, .int m.1]) lN
      have u3 := av (o := .tup [.ref p1, .ref p2]) yY
      have U := u1.trans (u2.trans u3)
      have ur := U _ _ mX
      have cq : gF (upd (upd (upd H5 p1 (.tup [.int r.1, .int a'.1])) p2 (.tup [.int r'.1, .int m.1])) p3 (.tup [.ref p1, .ref p2])) (.ref p3) (r.1, r'.1) := ⟨p3, p1, p2, _, _, rfl, aq, u3 _ _ (u2 _ _ aq), u3 _ _ aq⟩
      have wl : ws.length <= 100 := by
       have e8 := Co.len
       have l1 := BP ps gs (gs.take i)
       have l2 : (ff ps r (gs.take j)).length <= 7 := by
        unfold ff
        rw [acI]
        exact acV (ad5 _ _) (by rw [agO]; omega)
       have l3 : (gs.take i).length * gs.length <= 7 * 7 := aj9 (by rw [agO]; omega) h7
       rw [adl] at e8
       omega
      refine ⟨ws, ur, adX wl (by decide), _, _, _, rfl, lS fl (S5.trans U), fun b o hb e => by rw [aA hb]; exact U _ _ (s5 _ _ (b4 b o hb e)), _, aq, ?_⟩
      rw [Kk uq, if_pos (BN.mpr ⟨a', acZ bf, m, acZ e1, hc⟩), <- aeT]
      exact ak.app (Co.imp fun _ _ x => (x.same (s5.trans U)).put ur) ⟨cq.put ur, trivial⟩
    ·rintro σ H4 ⟨_, _, _, rfl, s4, _, h6⟩
     refine ⟨_, _, _, _, _, _, rfl, s4, ?_⟩
     rw [Sm hr]
     rw [yl, aeb] at h6
     exact h6
  rintro σ H2 ⟨_, _, _, _, _, _, rfl, s2, h2⟩
  walk_at "gzn"
  rw [yl, aeb] at h2
  obtain ⟨zs, a1, a2⟩ := h2
  exact q l zs H2 s2 fl a1 a2
end
section
seal L2.PE L2.PS L2.bq L2.PA
variable {P : ac2} {w : adw} {K : acB} {mg : Str -> Option acC} {base : aer}
theorem UH {H : Hp} {u d : Int} (h : -d <= u) {n : Nat} {ys : List V} (hy : ak (jH H) ys (yW u d [] n)) : dZ H ys (adU n (-d, u)) := by
 have e : yW u d [] n = (adU n (-d, u)).map Kh := by
  rw [List.map_replicate]
  unfold yW
  refine af7 (by simp) fun k h1 h2 => ?_
  rw [ajG, List.getElem_replicate]
  show mf (none, none) [(some (-d), some u)] = some (some (-d), some u)
  unfold mf
  rw [if_neg]
  ·rfl
  ·show ¬ (bx (some (-d)) (some u)) = true
   simp [bx]
   omega
 rw [e] at hy
 exact Ki hy
theorem UI {K : acB} {H1 H' : Hp} {l : acJ} {ys : List V} {rs : List P2} (hl : H1 l = some (.lst ys)) (hM : ak (gF H1) ys rs) (s : aj H1 H') : jM K l ys (rowOf H1) 2 H' := by
 refine ⟨ag.of (s _ _ hl), fun x hx => ?_⟩
 obtain ⟨i, hi⟩ := afJ.mp hx
 obtain ⟨m, _, t, a, b, y, z, rfl, h1, _⟩ := hM.get hi
 rw [iU h1]
 exact ⟨t, rfl, az.of (s _ _ h1), rfl⟩
theorem Cr {K : acB} {H : Hp} : ∀ {zs : List V} {rs : List P2}, ak (aX H) zs rs -> cQ K H zs (gC rs)
 | [], [], _ => trivial
 | _ :: _, _ :: _, h => ⟨let ⟨t, e, a⟩ := h.1; ⟨t, e, az.of a, fun z => nomatch z⟩, Cr h.2⟩
 | [], _ :: _, h => h.elim
 | _ :: _, [], h => h.elim
noncomputable def i9 (k : List Int) : P2 := (k.getD 0 0, k.getD 1 0)
noncomputable def iq (r : P2) : P2 := (if r.2 < r.1 then r.2 else r.1, if r.1 < r.2 then r.2 else r.1)
noncomputable def UJ (K : acB) (B : acJ) : Sp := fun vs H Q _ => ∃ (x p : acJ) (e t u d m : Int) (tb : Tb), vs = [.ref x] /\ dk B H x e t u d m p tb /\ bT e t tb /\ tb.length < 64 /\ 0 <= e /\ e <= 7 /\ 1 <= t /\ t <= 12 /\ 0 <= u /\ 0 <= d /\ ∀ l ys ks H', aj H H' -> H l = none -> H' l = some (.lst ys) -> ks.Nodup -> (∀ p, p ∈ ks ↔ ee u d tb p) -> ak (aX H') ys (bV ks) -> Q (.ref l) H'
theorem UK (T : Tx K mg) : aK P w K mg base (aJ P w) 5 T.kh T.xP ["board"] (UJ K T.aH) := by
 refine okN T.qb BY (fun vs H Q E h => ?_) (fun aF A outer s H vs Q E hr h => ?_)
 ·obtain ⟨x, p, e, t, u, d, m, tb, rfl, _⟩ := h
  rfl
 ·obtain ⟨x, p, e, t, u, d, m, tb, rfl, hb, ai, b9, e0, e7, t1, Cs, u0, d0, q⟩ := h
  refine ⟨_, (ao (aG (i := 1) BY.nd rfl (adi rfl) (aE (UC T) (hr.mono (by decide)) rfl T.KO T.p9.kp T.xO .nil aD (aa (aE (Uj T) (hr.mono (by decide)) rfl T.KJ T.pZ.kp T.xH .nil aD (aa (pv 0) (aa (dU ah) ah))) (aa (aE (Uy T) (hr.mono (by decide)) rfl T.KN T.p8.kp T.xM .nil aD (aa (pv 0) ah)) ah))))
  (ao (PV (g := gM K 2 (ck (bM 0) (ck (bM 1) gL))) (i := 2) (l5.mk (own := ["one", "other"]) (fr := []) (ys := []) rfl (by decide +kernel) rfl (by decide +kernel) rfl .nil .nil rfl) rfl BY.nd rfl rfl (b5 (pv 1)) (fun C s2 H2 ex pn => iD (n := 2) rfl (cP (bb (i := 0) (show (["one", "other"] : List Str).Nodup by decide) rfl (.inl (ado rfl)) (.inr (ado rfl))) (cP (bb (i := 1) (show (["one", "other"] : List Str).Nodup by decide) rfl (.inl (ado rfl)) (.inr (ado rfl))) iC))) (fun C s2 H2 ex pn => ⟨dX, (bX (aa (bC (rz rfl) (by rfl) T.k6 lQ (aa (ax (eW (K := K) rfl) (pv 0) ae (fun _ _ => rfl)) (aa (ax (eW (K := K) rfl) (pv 1) ae (fun _ _ => rfl)) ah))) (aa (bC (GY rfl) (by rfl) T.yO AI (aa (ax (eW (K := K) rfl) (pv 0) ae (fun _ _ => rfl)) (aa (ax (eW (K := K) rfl) (pv 1) ae (fun _ _ => rfl)) ah))) ah)))⟩))
  (ar (aI (R7 rfl hr.units (pv 2) (by rfl) T.qu rZ (by rfl) T.Lb Rt))))), ?_⟩
  obtain ⟨⟨dx, hx⟩, htb⟩ := id hb
  walk_at "gzn"
  obtain ⟨kvs, mY, hTA⟩ := id htb
  refine ⟨adf _, fun r bQ => ?_⟩
  have u1 := av (o := .lst []) bQ
  refine ⟨x, p, r, e, t, u, d, m, kvs, [], [], rfl, ⟨⟨dx, u1 _ _ hx⟩, u1 _ _ mY⟩, t1, Cs, ag.of aq, trivial, by decide, fun z => absurd (fun _ h => (nomatch h)) z, fun _ st sv H1 s1 _ eL hy => ?_⟩
  have S1 := u1.trans s1
  refine ⟨x, p, e, t, u, d, m, tb, rfl, hb.same S1, ai.1, b9, fun r hr => (ai.2 r hr).2.1, e0, e7, fun gl gv H2 s2 _ UL UM => ?_⟩
  have S2 := S1.trans s2
  have UN := (UH (n := (t - 1).toNat) (by omega) hy).same s2
  have gn : (fQ e.toNat tb).length <= 7 := by unfold fQ; rw [acI, aeq]; omega
  refine ⟨st, gl, sv, gv, adU (t - 1).toNat (-d, u), fQ e.toNat tb, rfl, ag.of (s2 _ _ eL), UN, fun pp UO => by rw [List.eq_of_mem_replicate UO]; show -d <= u; omega, by rw [afa]; omega, ag.of UL, UM, gn, fun gq UP => ?_, fun fl fv H3 s3 _ mZ yZ => ?_⟩
  ·obtain ⟨i, _, rfl⟩ := acQ.mp UP
   refine ⟨acV (by unfold jN; rw [acI]; exact acV (ad5 _ _) (by rw [wB]; exact ac1 _)) (by omega : tb.length <= 1000), fun mm fk => ?_⟩
   obtain ⟨r, hr, _, rfl⟩ := tL.mp fk
   have UQ := ai.2 r hr
   unfold me at UQ
   rw [afa]
   show r.1.2.toNat <= _
   omega
  have S3 := S2.trans s3
  have ol := BP (adU (t - 1).toNat (-d, u)) (fQ e.toNat tb) (fQ e.toNat tb)
  have ol2 : (fQ e.toNat tb).length * (fQ e.toNat tb).length <= 7 * 7 := aj9 gn gn
  have UR := yZ.len
  generalize Lx : ef (adU (t - 1).toNat (-d, u)) (fQ e.toNat tb) (fQ e.toNat tb) = OC at ol yZ UR
  refine ⟨fl, rfl, ⟨_, ag.of mZ⟩, Jp (row := rowOf H3) (acV (by omega : fv.length <= 64) (by decide)) (d6 (R := fun _ x (r : P2) => gF H3 x r) (R' := aX) (f := iq) (fun _ _ _ _ _ h => h) (fun _ _ _ _ s' h => h.same s') yZ (bs := []) trivial (fun H' s' => UI mZ yZ s') (fun v k _ H4 s4 h1 Q h => ?_) (fun v k _ H4 s4 h1 Q h => ?_) fun H4 zs s4 hz => ?_)⟩
  ·obtain ⟨ta, a1, b1, y1, z1, rfl, ha, _⟩ := h1
   unfold fN
   dsimp only
   rw [iU ha]
   walk_at "gzn"
   exact h
  ·obtain ⟨ta, a1, b1, y1, z1, rfl, ha, y3, Ly⟩ := h1
   unfold fO
   dsimp only
   rw [iU ha]
   walk_at "gzn"
   refine aP (az.of (s4 _ _ y3)) (v := .int k.1) rfl (aP (az.of (s4 _ _ Ly)) (v := .int k.2) rfl ⟨_, rfl, _, rfl, aP (az.of (s4 _ _ y3)) (v := .int k.1) rfl (aP (az.of (s4 _ _ Ly)) (v := .int k.2) rfl ⟨_, rfl, _, rfl, b7, fun t1 jU => h _ _ (av jU) ⟨t1, rfl, aq⟩⟩)⟩)
  rw [adq] at hz
  have zl := hz.len
  rw [acI] at zl
  intro pl cX
  have u5 := av (o := .lst zs) cX
  have mU := hz.imp fun _ _ r => r.same u5
  have S5 := S3.trans (s4.trans u5)
  generalize US : upd H4 pl (.lst zs) = H5 at u5 mU S5
  have UT : H5 pl = some (.lst zs) := by rw [<- US]; exact aq
  have UU : ∀ r ∈ OC, ∃ a b : Nat, a < 7 /\ b < 7 /\ r = ((a : Int), (b : Int)) := fun r hr => by
   rw [<- Lx] at hr
   obtain ⟨g1, BK, g2, BL, rfl, _⟩ := BO.mp hr
   obtain ⟨i, hi, rfl⟩ := acQ.mp BK
   obtain ⟨j, hj, rfl⟩ := acQ.mp BL
   have := ady.mp hi
   have := ady.mp hj
   exact ⟨i, j, by omega, by omega, rfl⟩
  refine ⟨pl, rfl, zs, ag.of UT, gC (OC.map iq), Cr mU, by omega, Sh fun k hk => ?_, fun M mn mk mj l hl => ?_⟩
  ·obtain ⟨r, hr, rfl⟩ := acQ.mp hk
   obtain ⟨r0, bQ, rfl⟩ := acQ.mp hr
   obtain ⟨a, b, ha, hb, rfl⟩ := UU r0 bQ
   unfold iq
   dsimp only
   by_cases cw : (b : Int) < (a : Int)
   ·exact ⟨b, a, hb, ha, by rw [if_pos cw, if_neg (by omega)]⟩
   ·by_cases hba : (a : Int) < (b : Int)
    ·exact ⟨a, b, ha, hb, by rw [if_neg cw, if_pos hba]⟩
    ·exact ⟨a, a, ha, ha, by rw [if_neg cw, if_neg hba]⟩
  have k2 : ∀ mm ∈ M, [(i9 mm.1).1, (i9 mm.1).2] = mm.1 := fun mm fk => by
   obtain ⟨r, hr, e1⟩ := acQ.mp ((mk mm.1).mp (acQ.mpr ⟨mm, fk, rfl⟩))
   rw [<- e1]
   rfl
  have kk : gC (M.map fun mm => i9 mm.1) = M.map (·.1) := by
   unfold gC
   rw [aeR]
   exact afy fun mm fk => k2 mm fk
  refine q l _ (M.map fun mm => i9 mm.1) _ (S5.trans (av hl)) (S5.free hl) aq ?_ (fun p2 => ?_) ?_
  ·have : (gC (M.map fun mm => i9 mm.1)).Nodup := by rw [kk]; exact mn
   exact List.Pairwise.of_map _ (fun a b h e => h (by rw [e])) this
  ·rw [Sn ai t1, Lx]
   constructor
   ·intro lN
    obtain ⟨mm, fk, e2⟩ := acQ.mp lN
    obtain ⟨r, hr, e1⟩ := acQ.mp ((mk mm.1).mp (acQ.mpr ⟨mm, fk, rfl⟩))
    obtain ⟨r0, bQ, rfl⟩ := acQ.mp hr
    refine ⟨r0, bQ, ?_⟩
    rw [<- e2, <- e1]
    unfold i9 iq
    refine Prod.ext ?_ ?_
    ·show (if r0.2 < r0.1 then r0.2 else r0.1) = min r0.1 r0.2
     omega
    ·show (if r0.1 < r0.2 then r0.2 else r0.1) = max r0.1 r0.2
     omega
   ·rintro ⟨r0, bQ, rfl⟩
    have hk : [(iq r0).1, (iq r0).2] ∈ gC (OC.map iq) := acQ.mpr ⟨iq r0, acQ.mpr ⟨r0, bQ, rfl⟩, rfl⟩
    obtain ⟨mm, fk, e1⟩ := acQ.mp ((mk _).mpr hk)
    refine acQ.mpr ⟨mm, fk, ?_⟩
    rw [e1]
    unfold i9 iq
    refine Prod.ext ?_ ?_
    ·show (if r0.2 < r0.1 then r0.2 else r0.1) = min r0.1 r0.2
     omega
    ·show (if r0.1 < r0.2 then r0.2 else r0.1) = max r0.1 r0.2
     omega
  ·unfold bV
   rw [kk]
   have u6 := av (o := .lst (bL (M.map (·.1)) V.non (M.map fun mm => V.ref mm.2))) hl
   refine ak.sort ?_
   have all : ∀ mm ∈ M, aX (upd H5 l (.lst (bL (M.map (·.1)) V.non (M.map fun mm => V.ref mm.2)))) (V.ref mm.2) (i9 mm.1) := fun mm fk => by
    obtain ⟨j, j1, j2⟩ := mj mm fk
    obtain ⟨r, hr, hpt⟩ := mU.get j1
    have : mm.1 = [r.1, r.2] := by
     have e3 : (gC (OC.map iq))[j]? = some [r.1, r.2] := by unfold gC; rw [adn, hr]; rfl
     rw [e3] at j2
     exact (Option.some.inj j2).symm
    rw [this]
    exact hpt.same u6
   have go : ∀ M' : List (List Int × acJ), (∀ mm ∈ M', mm ∈ M) -> ak (aX (upd H5 l (.lst (bL (M.map (·.1)) V.non (M.map fun mm => V.ref mm.2))))) (M'.map fun mm => V.ref mm.2) (M'.map fun mm => i9 mm.1) := fun M' => by
    induction M' with
    | nil => intro _; exact trivial
    | cons mm M' ih => intro h9; exact ⟨all mm (h9 mm (.head _)), ih fun x hx => h9 x (.tail _ hx)⟩
   exact go M fun _ h => h
end
section
seal L2.PE L2.PS L2.bq L2.PA
variable {P : ac2} {w : adw} {K : acB} {mg : Str -> Option acC} {base : aer}
structure ir (e t u d m f : Int) : Prop where
 he : 1 <= e /\ e <= 7
 ht : 1 <= t /\ t <= 12
 hu : 0 <= u /\ u <= 6 * 1000000000000000000000000000000000000000000000000000000000
 hd : 0 <= d /\ d <= 6 * 1000000000000000000000000000000000000000000000000000000000
 hm : 0 <= m /\ m <= e
 hf : 1 <= f /\ f <= 1000000000000000000000000000000000000000000000000000000000
noncomputable def fT (e t u d m f : Int) : List V := [.int e, .int t, .int u, .int d, .int m, .int f]
noncomputable def UW (K : acB) : Sp := fun vs H Q _ => ∃ (a : acJ) (ns : List Int), vs = [.ref a] /\ ag K H a (ns.map V.int) /\ eY ns /\ ∀ (l : acJ) (e t u d m f : Int) (H' : Hp), aj H H' -> H l = none -> H' l = some (.lst (fT e t u d m f)) -> ir e t u d m f -> Q (.ref l) H'
noncomputable def UX (w e t m : Int) : Prop := (1 <= t /\ t <= 12) /\ (1 <= e /\ e <= 7) /\ (0 <= m /\ m <= e) /\ (w = 1 ∨ w = 3 ∨ e <= 4)
noncomputable def y4 (e t m : Int) : Prop := (1 <= t /\ t <= 12) /\ (1 <= e /\ e <= 7) /\ (0 <= m /\ m <= e)
noncomputable def y6 (a : acJ) (H : Hp) (σ : St) (H' : Hp) : Prop := ∃ w e t m : Int, σ = [some (.ref a), some (.int w), some (.int e), some (.int t), some (.int m), none, none, none] /\ H' = H /\ UX w e t m
noncomputable def UY (a : acJ) (H : Hp) (σ : St) (H' : Hp) : Prop := ∃ w e t m : Int, σ = [some (.ref a), some (.int w), some (.int e), some (.int t), some (.int m), none, none, none] /\ H' = H /\ y4 e t m
noncomputable def UZ (a : acJ) (H : Hp) (σ : St) (H' : Hp) : Prop := ∃ w e t m f : Int, σ = [some (.ref a), some (.int w), some (.int e), some (.int t), some (.int m), some (.int f), none, none] /\ aj H H' /\ y4 e t m /\ 1 <= f /\ f <= 1000000000000000000000000000000000000000000000000000000000
noncomputable def U0 (a : acJ) (H : Hp) (σ : St) (H' : Hp) : Prop := ∃ w e t m f u : Int, σ = [some (.ref a), some (.int w), some (.int e), some (.int t), some (.int m), some (.int f), some (.int u), none] /\ aj H H' /\ y4 e t m /\ (1 <= f /\ f <= 1000000000000000000000000000000000000000000000000000000000) /\ 0 <= u /\ u <= 6 * 1000000000000000000000000000000000000000000000000000000000
noncomputable def Lz (a : acJ) (H : Hp) (σ : St) (H' : Hp) : Prop := ∃ w e t m f u d : Int, σ = [some (.ref a), some (.int w), some (.int e), some (.int t), some (.int m), some (.int f), some (.int u), some (.int d)] /\ aj H H' /\ y4 e t m /\ (1 <= f /\ f <= 1000000000000000000000000000000000000000000000000000000000) /\ (0 <= u /\ u <= 6 * 1000000000000000000000000000000000000000000000000000000000) /\ 0 <= d /\ d <= 6 * 1000000000000000000000000000000000000000000000000000000000
theorem LA {p f : Int} (h0 : 0 <= p) (h1 : p < 7) (f1 : 1 <= f) (f2 : f <= 1000000000000000000000000000000000000000000000000000000000) : 0 <= p * f /\ p * f <= 6 * 1000000000000000000000000000000000000000000000000000000000 := by
 have a := aka (show p <= 6 by omega) f2 (by omega) (by decide)
 exact ⟨aiF h0 (by omega), a⟩
theorem U1 (T : Tx K mg) : aK P w K mg base (aJ P w) 3 T.kI T.yh ["_law_script"] (UW K) := by
 refine okN T.qf cz (fun vs H Q E h => ?_) (fun aF A outer s H vs Q E hr h => ?_)
 ·obtain ⟨a, ns, rfl, _⟩ := h
  rfl
 ·obtain ⟨a, ns, rfl, hS, hn, q⟩ := h
  refine ⟨_, (ao (aG (i := 1) cz.nd rfl (adi rfl) (aE (cb T) (hr.mono (by decide)) rfl T.bZ T.bI.kp T.bP .nil aD (aa (pv 0) (aa ae (aa ae ah)))))
  (ao (aG (i := 2) cz.nd rfl (adi rfl) (aC bh ae (aE (cb T) (hr.mono (by decide)) rfl T.bZ T.bI.kp T.bP .nil aD (aa (pv 0) (aa ae (aa ae ah))))))
  (ao (aG (i := 3) cz.nd rfl (adi rfl) (aC bh ae (aE (cb T) (hr.mono (by decide)) rfl T.bZ T.bI.kp T.bP .nil aD (aa (pv 0) (aa ae (aa ae ah))))))
  (ao (aG (i := 4) cz.nd rfl (adi rfl) (bC (rz rfl) (by rfl) T.k6 lQ (aa (pv 2) (aa (aE (cb T) (hr.mono (by decide)) rfl T.bZ T.bI.kp T.bP .nil aD (aa (pv 0) (aa ae (aa ae ah)))) ah))))
  (ao (aY (ba dr (pv 1) ae (a9 _)) (ao (aG (i := 2) cz.nd rfl (adi rfl) ae)
    (ao (aG (i := 3) cz.nd rfl (adi rfl) (aC bh ae (aC iF (pv 3) ae)))
    (ar (aG (i := 4) cz.nd rfl (adi rfl) (aE (cb T) (hr.mono (by decide)) rfl T.bZ T.bI.kp T.bP .nil aD (aa (pv 0) (aa ae (aa ae ah)))))))) a7)
  (ao (aY (ba dr (pv 1) ae (a9 _)) (ao (aG (i := 2) cz.nd rfl (adi rfl) (aC bh ae (aC iF (pv 2) ae)))
    (ao (aG (i := 3) cz.nd rfl (adi rfl) (aC bh ae (aE (cb T) (hr.mono (by decide)) rfl T.bZ T.bI.kp T.bP .nil aD (aa (pv 0) (aa ae (aa ae ah))))))
    (ar (aG (i := 4) cz.nd rfl (adi rfl) (bC (rz rfl) (by rfl) T.k6 lQ (aa (pv 2) (aa (pv 4) ah))))))) a7)
  (ao (aY (ba dr (pv 1) ae (a9 _)) (ao (aG (i := 2) cz.nd rfl (adi rfl) (aC bh ae (aC iF (pv 2) ae)))
    (ao (aG (i := 3) cz.nd rfl (adi rfl) ae)
    (ar (aG (i := 4) cz.nd rfl (adi rfl) (aE (cb T) (hr.mono (by decide)) rfl T.bZ T.bI.kp T.bP .nil aD (aa (pv 0) (aa ae (aa (aC bh (pv 2) ae) ah)))))))) a7)
  (ao (aY (ba dr (pv 1) ae (a9 _)) (ao (aG (i := 2) cz.nd rfl (adi rfl) (aC bh ae (pv 2)))
    (ao (aG (i := 3) cz.nd rfl (adi rfl) (aC bh ae (aE (cb T) (hr.mono (by decide)) rfl T.bZ T.bI.kp T.bP .nil aD (aa (pv 0) (aa ae (aa ae ah))))))
    (ar (aG (i := 4) cz.nd rfl (adi rfl) (bC (rz rfl) (by rfl) T.k6 lQ (aa (pv 4) (aa ae ah))))))) a7)
  (ao (aG (i := 5) cz.nd rfl (adi rfl) (ax aB (dU (aa ae (aa ae (aa ae (aa ae (aa (aC bh (aC rk ae ae) ae) (aa (aC bh ae (aE (Cg T) (hr.mono (by decide)) rfl T.yg T.kH.kp T.qe .nil aD (aa (pv 0) (aa ae (aa (aC rk ae ae) ah))))) ah))))))) (aE (cb T) (hr.mono (by decide)) rfl T.bZ T.bI.kp T.bP .nil aD (aa (pv 0) (aa ae (aa ae ah)))) (fun _ _ => rfl)))
  (ao (aG (i := 6) cz.nd rfl (adi rfl) (aC fI (aE (cb T) (hr.mono (by decide)) rfl T.bZ T.bI.kp T.bP .nil aD (aa (pv 0) (aa ae (aa ae ah)))) (pv 5)))
  (ao (aG (i := 7) cz.nd rfl (adi rfl) (aC fI (aE (cb T) (hr.mono (by decide)) rfl T.bZ T.bI.kp T.bP .nil aD (aa (pv 0) (aa ae (aa ae ah)))) (pv 5)))
  (ao (aY (ba dr (aE (cb T) (hr.mono (by decide)) rfl T.bZ T.bI.kp T.bP .nil aD (aa (pv 0) (aa ae (aa ae ah)))) ae (a9 _)) (ao (aG (i := 6) cz.nd rfl (adi rfl) ae)
    (ar (aG (i := 7) cz.nd rfl (adi rfl) ae))) a7)
  (ar (aI (dU (aa (pv 2) (aa (pv 3) (aa (pv 6) (aa (pv 7) (aa (pv 4) (aa (pv 5) ah))))))))))))))))))))), ?_⟩
  refine aN (fun σ H' => ∃ w : Int, σ = [some (.ref a), some (.int w), none, none, none, none, none, none] /\ H' = H) (fun N hN => ?_) ?_
  ·walk_at "gzn"
   refine ⟨a, ns, _, _, rfl, hS, hn, by omega, by omega, fun p p1 p2 => ?_⟩
   walk_at "gzn"
   exact hN _ _ ⟨_, rfl, rfl⟩
  rintro σ H' ⟨w, rfl, rfl⟩
  refine aN (fun σ H1 => ∃ e : Int, σ = [some (.ref a), some (.int w), some (.int e), none, none, none, none, none] /\ H1 = H' /\ 1 <= e /\ e <= 4) (fun N hN => ?_) ?_
  ·walk_at "gzn"
   refine ⟨a, ns, _, _, rfl, hS, hn, by omega, by omega, fun p p1 p2 => ?_⟩
   walk_at "gzn"
   exact hN _ _ ⟨_, rfl, rfl, by omega, by omega⟩
  rintro σ H ⟨e, rfl, rfl, e1, e2⟩
  refine aN (fun σ H1 => ∃ t : Int, σ = [some (.ref a), some (.int w), some (.int e), some (.int t), none, none, none, none] /\ H1 = H /\ 1 <= t /\ t <= 4) (fun N hN => ?_) ?_
  ·walk_at "gzn"
   refine ⟨a, ns, _, _, rfl, hS, hn, by omega, by omega, fun p p1 p2 => ?_⟩
   walk_at "gzn"
   exact hN _ _ ⟨_, rfl, rfl, by omega, by omega⟩
  rintro σ H' ⟨t, rfl, rfl, t1, t2⟩
  refine aN (y6 a H') (fun N hN => ?_) ?_
  ·walk_at "gzn"
   refine ⟨a, ns, _, _, rfl, hS, hn, by omega, by omega, fun p p1 p2 => ?_⟩
   walk_at "gzn"
   refine hN _ _ ⟨_, _, _, _, rfl, rfl, by omega, by omega, ?_, .inr (.inr e2)⟩
   split <;> omega
  rintro σ H ⟨w, e, t, m, rfl, rfl, hA⟩
  refine aN (y6 a H) (fun N hN => ?_) ?_
  ·obtain ⟨a1, a2, a3, a4⟩ := id hA
   walk_at "gzn"
   refine bA (fun hw => ?_) fun hw => ?_
   ·subst hw
    refine ⟨by decide, ?_⟩
    refine ⟨a, ns, _, _, rfl, hS, hn, by omega, by omega, fun p p1 p2 => ?_⟩
    walk_at "gzn"
    exact hN _ _ ⟨_, _, _, _, rfl, rfl, by omega, by omega, by omega, .inl rfl⟩
   ·exact hN _ _ ⟨_, _, _, _, rfl, rfl, hA⟩
  rintro σ H' ⟨w, e, t, m, rfl, rfl, hA⟩
  refine aN (y6 a H') (fun N hN => ?_) ?_
  ·obtain ⟨a1, a2, a3, a4⟩ := id hA
   walk_at "gzn"
   refine bA (fun hw => ?_) fun hw => ?_
   ·subst hw
    refine ⟨by decide, ?_⟩
    refine ⟨a, ns, _, _, rfl, hS, hn, by omega, by omega, fun p p1 p2 => ?_⟩
    walk_at "gzn"
    refine hN _ _ ⟨_, _, _, _, rfl, rfl, by omega, by omega, ?_, .inr (.inr (by omega))⟩
    split <;> omega
   ·exact hN _ _ ⟨_, _, _, _, rfl, rfl, hA⟩
  rintro σ H ⟨w, e, t, m, rfl, rfl, hA⟩
  refine aN (y6 a H) (fun N hN => ?_) ?_
  ·obtain ⟨a1, a2, a3, a4⟩ := id hA
   walk_at "gzn"
   refine bA (fun hw => ?_) fun hw => ?_
   ·subst hw
    refine ⟨by decide, ?_⟩
    refine ⟨a, ns, _, _, rfl, hS, hn, by omega, by omega, fun p p1 p2 => ?_⟩
    walk_at "gzn"
    exact hN _ _ ⟨_, _, _, _, rfl, rfl, by omega, by omega, by omega, .inr (.inl rfl)⟩
   ·exact hN _ _ ⟨_, _, _, _, rfl, rfl, hA⟩
  rintro σ H' ⟨w, e, t, m, rfl, rfl, hA⟩
  refine aN (UY a H') (fun N hN => ?_) ?_
  ·obtain ⟨a1, a2, a3, a4⟩ := id hA
   walk_at "gzn"
   refine bA (fun hw => ?_) fun hw => ?_
   ·subst hw
    refine ⟨a, ns, _, _, rfl, hS, hn, by omega, by omega, fun p p1 p2 => ?_⟩
    walk_at "gzn"
    refine hN _ _ ⟨_, _, _, _, rfl, rfl, by omega, by omega, ?_⟩
    split <;> omega
   ·exact hN _ _ ⟨_, _, _, _, rfl, rfl, a1, a2, a3⟩
  rintro σ H ⟨w, e, t, m, rfl, rfl, hA⟩
  refine aN (UZ a H) (fun N hN => ?_) ?_
  ·walk_at "gzn"
   refine ⟨⟨by decide, by decide, by decide⟩, ⟨by decide, by decide, by decide⟩, ?_⟩
   refine ⟨a, ns, _, _, rfl, hS, hn, by omega, by omega, fun f f1 f2 => ?_⟩
   walk_at "gzn"
   refine ⟨by decide, fun l hl => ?_⟩
   refine ⟨a, ns, _, _, rfl, (av hl).seq hS, hn, by omega, by omega, fun p p1 p2 => ?_⟩
   obtain ⟨v, hv, ev⟩ := A7 (vs := [1, 1, 1, 1, 1000000007, 1 + f]) p1 p2
   refine aW (ag.of aq) ev ?_
   walk_at "gzn"
   refine hN _ _ ⟨_, _, _, _, _, rfl, av hl, hA, ?_⟩
   simp only [acN, aeL, or_false] at hv
   omega
  rintro σ H1 ⟨w, e, t, m, f, rfl, s1, hA, f1, f2⟩
  refine aN (U0 a H) (fun N hN => ?_) ?_
  ·walk_at "gzn"
   refine ⟨a, ns, _, _, rfl, s1.seq hS, hn, by omega, by omega, fun p p1 p2 => ?_⟩
   walk_at "gzn"
   refine ⟨gx (by omega) (by omega), ?_⟩
   exact hN _ _ ⟨_, _, _, _, _, _, rfl, s1, hA, ⟨f1, f2⟩, LA p1 p2 f1 f2⟩
  rintro σ H2 ⟨w, e, t, m, f, u, rfl, s2, hA, ⟨f1, f2⟩, hu⟩
  refine aN (Lz a H) (fun N hN => ?_) ?_
  ·walk_at "gzn"
   refine ⟨a, ns, _, _, rfl, s2.seq hS, hn, by omega, by omega, fun p p1 p2 => ?_⟩
   walk_at "gzn"
   refine ⟨gx (by omega) (by omega), ?_⟩
   exact hN _ _ ⟨_, _, _, _, _, _, _, rfl, s2, hA, ⟨f1, f2⟩, hu, LA p1 p2 f1 f2⟩
  rintro σ H3 ⟨w, e, t, m, f, u, d, rfl, s3, hA, ⟨f1, f2⟩, hu, hd⟩
  refine aN (Lz a H) (fun N hN => ?_) ?_
  ·walk_at "gzn"
   refine ⟨a, ns, _, _, rfl, s3.seq hS, hn, by omega, by omega, fun p p1 p2 => ?_⟩
   walk_at "gzn"
   refine bA (fun hw => ?_) fun hw => ?_
   ·exact hN _ _ ⟨_, _, _, _, _, _, _, rfl, s3, hA, ⟨f1, f2⟩, by decide, by decide⟩
   ·exact hN _ _ ⟨_, _, _, _, _, _, _, rfl, s3, hA, ⟨f1, f2⟩, hu, hd⟩
  rintro σ H4 ⟨w, e, t, m, f, u, d, rfl, s4, hA, hf, hu, hd⟩
  walk_at "gzn"
  refine ⟨by decide, fun l hl => ?_⟩
  obtain ⟨a1, a2, a3⟩ := hA
  exact q l e t u d m f _ (s4.trans (av hl)) (s4.free hl) aq ⟨a2, a1, hu, hd, a3, hf⟩
noncomputable def uu (u d : Int) (cs : List Int) : Prop := ∀ i, i + 1 < cs.length -> -d <= cs.getD (i + 1) 0 - cs.getD i 0 /\ cs.getD (i + 1) 0 - cs.getD i 0 <= u
theorem uu.snoc {u d n k : Int} {cs : List Int} (h : uu u d (cs ++ [n])) (h1 : -d <= k - n) (h2 : k - n <= u) : uu u d (cs ++ [n] ++ [k]) := by
 intro i hi
 rw [adl, adl, adC, adC] at hi
 by_cases e : i + 1 < (cs ++ [n]).length
 ·have := h i e
  simp only [acH] at this ⊢
  rw [aeh (l₁ := cs ++ [n]) e, aeh (l₁ := cs ++ [n]) (by omega)]
  exact this
 ·rw [adl, adC] at e
  have ei : i = cs.length := by omega
  subst ei
  have a1 : (cs ++ [n] ++ [k])[cs.length + 1]? = some k := by simp
  have a2 : (cs ++ [n] ++ [k])[cs.length]? = some n := by simp
  simp only [acH, a1, a2, agQ]
  exact ⟨h1, h2⟩
noncomputable def U2 (K : acB) : Sp := fun vs H Q _ => ∃ (a b : acJ) (ns : List Int) (e t u d m f : Int), vs = [.ref a, .ref b] /\ ag K H a (ns.map V.int) /\ eY ns /\ ag K H b (fT e t u d m f) /\ ir e t u d m f /\ ∀ (l : acJ) (cs : List Int) (H' : Hp), aj H H' -> H l = none -> H' l = some (.lst (cs.map V.int)) -> cs.length = t.toNat -> uu u d cs -> Q (.ref l) H'
noncomputable def U3 (H : Hp) (a b l : acJ) (z u d : Int) (i : Nat) (σ : St) (H1 : Hp) : Prop := ∃ (cs : List Int) (n : Int) (e1 : Option V), σ = [some (.ref a), some (.ref b), some (.int z), some (.int n), some (.ref l), e1] /\ aj H H1 /\ H1 l = some (.lst ((cs ++ [n]).map V.int)) /\ cs.length = i /\ uu u d (cs ++ [n])
theorem U4 (T : Tx K mg) : aK P w K mg base (aJ P w) 3 T.kJ T.yj ["_law_script", "_law_shape_here"] (U2 K) := by
 refine okN T.qg pQ (fun vs H Q E h => ?_) (fun aF A outer s H vs Q E hr h => ?_)
 ·obtain ⟨a, b, ns, e, t, u, d, m, f, rfl, _⟩ := h
  rfl
 ·obtain ⟨a, b, ns, e, t, u, d, m, f, rfl, hS, hn, hb, sh, q⟩ := h
  refine ⟨_, (ao (aG (i := 2) pQ.nd rfl (adi rfl) (ax aB (dU (aa ae (aa ae (aa (aC rk ae ae) (aa (aC fI (aC rk ae ae) (aC rk ae ae)) ah))))) (aE (cb T) (hr.mono (by decide)) rfl T.bZ T.bI.kp T.bP .nil aD (aa (pv 0) (aa ae (aa ae ah)))) (fun _ _ => rfl)))
  (ao (aG (i := 3) pQ.nd rfl (adi rfl) (aC eM (aE (Cg T) (hr.mono (by decide)) rfl T.yg T.kH.kp T.qe .nil aD (aa (pv 0) (aa ae (aa (aC bh (aC fI ae (pv 2)) ae) ah)))) (pv 2)))
  (ao (aG (i := 4) pQ.nd rfl (adi rfl) (dU (aa (pv 3) ah)))
  (ao (cu adu rfl (gO rfl T.fh (aa (aC eM (ax aB (pv 1) ae (fun _ _ => rfl)) ae) ah)) (bb (i := 5) pQ.nd rfl (adi rfl)) (ao (aG (i := 3) pQ.nd rfl (adi rfl) (aC eM (aC bh (pv 3) (aE (Cg T) (hr.mono (by decide)) rfl T.yg T.kH.kp T.qe .nil aD (aa (pv 0) (aa (aC bh ae (pv 5)) (aa (aC bh (aC bh (ax aB (pv 1) ae (fun _ _ => rfl)) (ax aB (pv 1) ae (fun _ _ => rfl))) ae) ah))))) (ax aB (pv 1) ae (fun _ _ => rfl))))
    (ar (eJ (AA afz agc agd AB (pv 4) (aa (pv 3) ah))))))
  (ar (aI (pv 4))))))), ?_⟩
  obtain ⟨⟨e1, e2⟩, ⟨t1, t2⟩, ⟨u1, u2⟩, ⟨d1, d2⟩, -, -⟩ := id sh
  walk_at "gzn"
  refine ⟨⟨by decide, by decide, by decide⟩, ⟨by decide, by decide, by decide⟩, ⟨by decide, by decide, by decide⟩, HA (by decide) (by decide), by decide, fun r bQ => ?_⟩
  have P1 : upd H r (.lst [V.int 9, V.int 1000, V.int 1000000000000000000, V.int 1000000000000000000000000000000000000000000000000000000000000000000000000000000000000000000000000000000000000000000000000]) r = some (.lst (([9, 1000, 1000000000000000000, 1000000000000000000000000000000000000000000000000000000000000000000000000000000000000000000000000000000000000000000000000] : List Int).map V.int)) := aq
  have s1 := av (o := .lst [V.int 9, V.int 1000, V.int 1000000000000000000, V.int 1000000000000000000000000000000000000000000000000000000000000000000000000000000000000000000000000000000000000000000000000]) bQ
  refine ⟨a, ns, _, _, rfl, s1.seq hS, hn, by decide, by decide, fun k h1 h2 => ?_⟩
  obtain ⟨z, hz, ez⟩ := A7 (vs := ([9, 1000, 1000000000000000000, 1000000000000000000000000000000000000000000000000000000000000000000000000000000000000000000000000000000000000000000000000] : List Int)) h1 h2
  have hz : 0 <= z /\ z <= 1000000000000000000000000000000000000000000000000000000000000000000000000000000000000000000000000000000000000000000000000 := by
   simp only [acN, aeL, or_false] at hz
   omega
  refine aW (ag.of P1) ez ?_
  walk_at "gzn"
  generalize upd H r (.lst [V.int 9, V.int 1000, V.int 1000000000000000000, V.int 1000000000000000000000000000000000000000000000000000000000000000000000000000000000000000000000000000000000000000000000000]) = H1 at s1 ⊢
  refine ⟨gx (by decide) (by omega), ?_⟩
  refine ⟨a, ns, _, _, rfl, s1.seq hS, hn, by decide, by omega, fun n0 _ _ => ?_⟩
  walk_at "gzn"
  refine ⟨by decide, fun l hl => ?_⟩
  have i8 : H l = none := s1.free hl
  have s2 := s1.trans (av (o := .lst [V.int (n0 - z)]) hl)
  refine aW (s2.seq hb) (v := .int t) rfl ?_
  walk_at "gzn"
  refine ⟨by omega, by omega, lR (U3 H a b l z u d) ⟨[], _, _, rfl, s2, aq, rfl, fun i hi => ?_⟩ ?_ ?_⟩
  ·simp at hi
  ·rintro i σ H3 hi ⟨cs, n, e1, rfl, s3, L3, hlen, eL⟩
   walk_at "gzn"
   refine aW (s3.seq hb) (v := .int u) rfl (aW (s3.seq hb) (v := .int d) rfl ?_)
   walk_at "gzn"
   refine ⟨a, ns, _, _, rfl, s3.seq hS, hn, by omega, by omega, fun k k1 k2 => ?_⟩
   walk_at "gzn"
   refine aW (s3.seq hb) (v := .int d) rfl ?_
   walk_at "gzn"
   refine ⟨.inl ⟨rfl, _, ag.of L3⟩, _, L3, ?_, cs ++ [n], _, _, rfl, lS i8 s3, ?_, ?_, ?_⟩
   ·rw [acI, adl, adC]
    exact adX (by omega : _ <= 13) (by decide)
   ·simp only [aq, aeH, ac7, ahb]
   ·rw [adl, adC, hlen]
   ·exact eL.snoc (by omega) (by omega)
  ·rintro σ H3 ⟨cs, n, e1, rfl, s3, L3, hlen, eL⟩
   walk_at "gzn"
   exact q l _ H3 s3 i8 L3 (by rw [adl, adC]; omega) eL
noncomputable def LB (K : acB) : Sp := fun vs H Q _ => ∃ (a : acJ) (ns : List Int) (k f n : Int) (b : Bool), vs = [.ref a, .int k, .int f, .int n, .bl b] /\ ag K H a (ns.map V.int) /\ eY ns /\ (-900000 <= k /\ k <= 900000) /\ (1 <= f /\ f <= 1000000000000000000000000000000000000000000000000000000000) /\ ∀ (p : acJ) (lo hi : En) (H' : Hp), aj H H' -> H p = none -> H' p = some (.tup [ev lo, ev hi]) -> bx lo hi = false -> (b = false -> hold lo hi n = true) -> Q (.ref p) H'
noncomputable def U5 (a : acJ) (H : Hp) (k f n : Int) (b : Bool) (σ : St) (H' : Hp) : Prop := ∃ y lo hi : Int, σ = [some (.ref a), some (.int k), some (.int f), some (.int n), some (.bl b), some (.int y), some (.int lo), some (.int hi), none] /\ aj H H' /\ (1 <= y /\ y <= 1000000000000000000000000000000000000000000000000000000000) /\ lo <= hi /\ (b = false -> lo <= n /\ n <= hi)
noncomputable def U6 (a : acJ) (H : Hp) (k f n : Int) (b : Bool) (σ : St) (H' : Hp) : Prop := ∃ y lo hi : Int, σ = [some (.ref a), some (.int k), some (.int f), some (.int n), some (.bl b), some (.int y), some (.int lo), some (.int hi), none] /\ aj H H' /\ lo <= hi /\ (b = false -> lo <= n /\ n <= hi)
noncomputable def Ct (a : acJ) (H : Hp) (k f n : Int) (b : Bool) (σ : St) (H' : Hp) : Prop := ∃ (y g lo : Int) (l h : En) (hi : Int), σ = [some (.ref a), some (.int k), some (.int f), some (.int n), some (.bl b), some (.int y), some (ev l), some (ev h), some (.int g)] /\ aj H H' /\ (l = none ∨ l = some lo) /\ (h = none ∨ h = some hi) /\ lo <= hi /\ (b = false -> lo <= n /\ n <= hi)
theorem LC {p y : Int} (h0 : 0 <= p) (y0 : 0 <= y) : 0 <= p * y := aiF h0 y0
theorem LD (T : Tx K mg) : aK P w K mg base (aJ P w) 2 T.kK T.ym ["_law_script", "_law_k", "_law_far", "_law_number", "_law_false"] (LB K) := by
 refine okN T.mJ ic (fun vs H Q E h => ?_) (fun aF A outer s H vs Q E hr h => ?_)
 ·obtain ⟨a, ns, k, f, n, b, rfl, _⟩ := h
  rfl
 ·obtain ⟨a, ns, k, f, n, b, rfl, hS, hn, hk, hf, q⟩ := h
  refine ⟨_, (ao (aG (i := 5) ic.nd rfl (adi rfl) (ax aB (dU (aa ae (aa (pv 2) ah))) (aE (cb T) (hr.mono (by decide)) rfl T.bZ T.bI.kp T.bP .nil aD (aa (pv 0) (aa (pv 1) (aa ae ah)))) (fun _ _ => rfl)))
  (ao (aG (i := 6) ic.nd rfl (adi rfl) (aC eM (pv 3) (aC fI (aE (cb T) (hr.mono (by decide)) rfl T.bZ T.bI.kp T.bP .nil aD (aa (pv 0) (aa (aC bh (pv 1) ae) (aa ae ah)))) (pv 5))))
  (ao (aG (i := 7) ic.nd rfl (adi rfl) (aC bh (pv 3) (aC fI (aE (cb T) (hr.mono (by decide)) rfl T.bZ T.bI.kp T.bP .nil aD (aa (pv 0) (aa (aC bh (pv 1) ae) (aa ae ah)))) (pv 5))))
  (ao (aY (de (pv 4)) (ao (aG (i := 5) ic.nd rfl (adi rfl) (aC fI (aC eM (aE (cb T) (hr.mono (by decide)) rfl T.bZ T.bI.kp T.bP .nil aD (aa (pv 0) (aa (aC bh (pv 1) ae) (aa ae ah)))) ae) (pv 5)))
    (ao (aG (i := 6) ic.nd rfl (adi rfl) (aC bh (pv 6) (pv 5)))
    (ar (aG (i := 7) ic.nd rfl (adi rfl) (aC bh (pv 7) (pv 5)))))) a7)
  (ao (aG (i := 8) ic.nd rfl (adi rfl) (aE (cb T) (hr.mono (by decide)) rfl T.bZ T.bI.kp T.bP .nil aD (aa (pv 0) (aa (aC bh (pv 1) ae) (aa ae ah)))))
  (ao (aY (PW.pt (eG (ba dr (pv 8) ae (a9 _)) (gJ (ba dr (pv 8) ae (a9 _))))) (ar (aG (i := 6) ic.nd rfl (adi rfl) fX)) a7)
  (ao (aY (PW.pt (eG (ba dr (pv 8) ae (a9 _)) (gJ (ba dr (pv 8) ae (a9 _))))) (ar (aG (i := 7) ic.nd rfl (adi rfl) fX)) a7)
  (ar (aI (bX (aa (pv 6) (aa (pv 7) ah)))))))))))), ?_⟩
  refine aN (fun σ H' => ∃ y : Int, σ = [some (.ref a), some (.int k), some (.int f), some (.int n), some (.bl b), some (.int y), none, none, none] /\ aj H H' /\ 1 <= y /\ y <= 1000000000000000000000000000000000000000000000000000000000) (fun N hN => ?_) ?_
  ·walk_at "gzn"
   refine ⟨by decide, fun l hl => ?_⟩
   refine ⟨a, ns, _, _, rfl, (av hl).seq hS, hn, by omega, by omega, fun p p1 p2 => ?_⟩
   obtain ⟨v, hv, ev⟩ := A7 (vs := [1, f]) p1 p2
   refine aW (ag.of aq) ev ?_
   walk_at "gzn"
   refine hN _ _ ⟨_, rfl, av hl, ?_⟩
   simp only [acN, aeL, or_false] at hv
   omega
  rintro σ H1 ⟨y, rfl, s1, y1, y2⟩
  refine aN (fun σ H' => ∃ lo : Int, σ = [some (.ref a), some (.int k), some (.int f), some (.int n), some (.bl b), some (.int y), some (.int lo), none, none] /\ H' = H1 /\ lo <= n) (fun N hN => ?_) ?_
  ·walk_at "gzn"
   refine ⟨a, ns, _, _, rfl, s1.seq hS, hn, by omega, by omega, fun p p1 p2 => ?_⟩
   walk_at "gzn"
   have := LC p1 (show 0 <= y by omega)
   exact ⟨gx (by omega) (by omega), hN _ _ ⟨_, rfl, rfl, by omega⟩⟩
  rintro σ H2 ⟨lo, rfl, rfl, l1⟩
  refine aN (U5 a H k f n b) (fun N hN => ?_) ?_
  ·walk_at "gzn"
   refine ⟨a, ns, _, _, rfl, s1.seq hS, hn, by omega, by omega, fun p p1 p2 => ?_⟩
   walk_at "gzn"
   have := LC p1 (show 0 <= y by omega)
   exact ⟨gx (by omega) (by omega), hN _ _ ⟨_, _, _, rfl, s1, ⟨y1, y2⟩, by omega, fun _ => by omega⟩⟩
  rintro σ H3 ⟨y, lo, hi, rfl, s3, hy, h1, h2⟩
  refine aN (U6 a H k f n b) (fun N hN => ?_) ?_
  ·cases b with
   | true =>
    walk_at "gzn"
    refine ⟨a, ns, _, _, rfl, s3.seq hS, hn, by omega, by omega, fun p p1 p2 => ?_⟩
    walk_at "gzn"
    exact ⟨gx (by omega) (by omega), hN _ _ ⟨_, _, _, rfl, s3, by omega, fun z => nomatch z⟩⟩
   | false =>
    walk_at "gzn"
    exact hN _ _ ⟨_, _, _, rfl, s3, h1, h2⟩
  rintro σ H4 ⟨y, lo, hi, rfl, s4, h1, h2⟩
  refine aN (Ct a H k f n b) (fun N hN => ?_) ?_
  ·walk_at "gzn"
   refine ⟨a, ns, _, _, rfl, s4.seq hS, hn, by omega, by omega, fun p p1 p2 => ?_⟩
   walk_at "gzn"
   exact hN _ _ ⟨_, _, lo, some lo, some hi, hi, rfl, s4, .inr rfl, .inr rfl, h1, h2⟩
  rintro σ H5 ⟨y, g, lo, l, h, hi, rfl, s5, hl, hh, h1, h2⟩
  refine aN (Ct a H k f n b) (fun N hN => ?_) ?_
  ·walk_at "gzn"
   have none_ := hN _ _ ⟨y, g, lo, none, h, hi, rfl, s5, .inl rfl, hh, h1, h2⟩
   have Cu := hN _ _ ⟨y, g, lo, l, h, hi, rfl, s5, hl, hh, h1, h2⟩
   exact bA (fun _ => none_) fun _ => bA (fun _ => none_) fun _ => Cu
  rintro σ H6 ⟨y, g, lo, l, h, hi, rfl, s6, hl, hh, h1, h2⟩
  refine aN (Ct a H k f n b) (fun N hN => ?_) ?_
  ·walk_at "gzn"
   have none_ := hN _ _ ⟨y, g, lo, l, none, hi, rfl, s6, hl, .inl rfl, h1, h2⟩
   have Cu := hN _ _ ⟨y, g, lo, l, h, hi, rfl, s6, hl, hh, h1, h2⟩
   exact bA (fun _ => none_) fun _ => bA (fun _ => none_) fun _ => Cu
  rintro σ H7 ⟨y, g, lo, l, h, hi, rfl, s7, hl, hh, h1, h2⟩
  walk_at "gzn"
  refine ⟨b7, fun p hp => q p l h _ (s7.trans (av hp)) (s7.free hp) aq ?_ fun hb => Pq.mpr ⟨?_, ?_⟩⟩
  ·rcases hl with rfl | rfl <;> rcases hh with rfl | rfl <;> simp [bx] <;> omega
  ·intro x hx
   rcases hl with rfl | rfl <;> cases hx
   exact (h2 hb).1
  ·intro x hx
   rcases hh with rfl | rfl <;> cases hx
   exact (h2 hb).2
end
section
seal L2.PE L2.PS L2.bq L2.PA
variable {P : ac2} {w : adw} {K : acB} {mg : Str -> Option acC} {base : aer}
theorem U7 {tb : Tb} {s : P2} {w : S2} {r : P2 × S2} (h : r ∈ cO tb s w) : r ∈ tb ∨ r.2 = w := by
 unfold cO at h
 split at h
 ·obtain ⟨x, hx, rfl⟩ := acQ.mp h
  by_cases e : x.1 = s
  ·rw [if_pos e]; exact .inr rfl
  ·rw [if_neg e]; exact .inl hx
 ·rcases adj.mp h with z | z
  ·exact .inl z
  ·rw [adG.mp z]; exact .inr rfl
noncomputable def U8 (K : acB) : Sp := fun vs H Q _ => ∃ (a b c : acJ) (ns cs : List Int) (e t u d m f : Int), vs = [.ref a, .ref b, .ref c] /\ ag K H a (ns.map V.int) /\ eY ns /\ ag K H b (fT e t u d m f) /\ ir e t u d m f /\ ag K H c (cs.map V.int) /\ cs.length = t.toNat /\ ∀ (q : acJ) (tb : Tb) (H' : Hp), aj H H' -> H q = none -> TabAt H' q tb -> bT e t tb -> tb.length <= 24 -> (∀ r ∈ tb, bx r.2.1 r.2.2 = false) -> Q (.ref q) H'
noncomputable def LF (H : Hp) (e t : Int) (q : acJ) (H1 : Hp) : Prop := ∃ tb, aj H H1 /\ H q = none /\ TabAt H1 q tb /\ bT e t tb /\ tb.length <= 24 /\ ∀ r ∈ tb, bx r.2.1 r.2.2 = false
noncomputable def Cv (σ0 : Option V -> Option V -> Option V -> Option V -> St) (H : Hp) (e t : Int) (q : acJ) (_ : Nat) (σ : St) (H1 : Hp) : Prop := ∃ e1 e2 e3 e4, σ = σ0 e1 e2 e3 e4 /\ LF H e t q H1
theorem U9 (T : Tx K mg) : aK P w K mg base (aJ P w) 3 T.kL T.yn ["_law_script", "_law_shape_here", "_law_course_here"] (U8 K) := by
 refine okN T.qh ie (fun vs H Q E h => ?_) (fun aF A outer s H vs Q E hr h => ?_)
 ·obtain ⟨a, b, c, ns, cs, e, t, u, d, m, f, rfl, _⟩ := h
  rfl
 ·obtain ⟨a, b, c, ns, cs, e, t, u, d, m, f, rfl, hS, hn, hb, sh, hc, cN, q⟩ := h
  refine ⟨_, (ao (aG (i := 3) ie.nd rfl (adi rfl) Bi)
  (ao (aG (i := 4) ie.nd rfl (adi rfl) ae)
  (ao (aG (i := 5) ie.nd rfl (adi rfl) ae)
  (ao (aY (ba gQ (aC fI (ax aB (pv 1) ae (fun _ _ => rfl)) (ax aB (pv 1) ae (fun _ _ => rfl))) ae (a9 _)) (ao (aG (i := 4) ie.nd rfl (adi rfl) ae)
    (ar (aG (i := 5) ie.nd rfl (adi rfl) ae))) a7)
  (ao (cu adu rfl (gO rfl T.fh (aa (ax aB (pv 1) ae (fun _ _ => rfl)) ah)) (bb (i := 6) ie.nd rfl (adi rfl)) (ao (aG (i := 7) ie.nd rfl (adi rfl) (iG dr (aE (cb T) (hr.mono (by decide)) rfl T.bZ T.bI.kp T.bP .nil aD (aa (pv 0) (aa (aC bh ae (pv 6)) (aa ae ah)))) ae (a9 _)))
    (ar (cu adu rfl (gO rfl T.fh (aa (ax aB (pv 1) ae (fun _ _ => rfl)) ah)) (bb (i := 8) ie.nd rfl (adi rfl)) (ao (aG (i := 9) ie.nd rfl (adi rfl) (aC bh ae (aC fI ae (aC bh (aC fI (pv 6) (ax aB (pv 1) ae (fun _ _ => rfl))) (pv 8)))))
      (ar (aY (PW.pt (iB (ba lE (bC Qo (by rfl) T.eg eQ (aa (pv 3) ah)) (pv 5) (a9 _)) (jg (ba gQ (aE (cb T) (hr.mono (by decide)) rfl T.bZ T.bI.kp T.bP .nil aD (aa (pv 0) (aa (pv 9) (aa (pv 4) ah)))) (aC eM (pv 4) ae) (a9 _))))) (ar (vq (df hr) (pv 3) (bX (aa (pv 6) (aa (pv 8) ah))) (aE (LD T) (hr.mono (by decide)) rfl T.B9 T.mJ.kp T.ue .nil aD (aa (pv 0) (aa (aC bh (pv 9) ae) (aa (ax aB (pv 1) ae (fun _ _ => rfl)) (aa (ax aB (pv 2) (pv 8) (fun _ _ => rfl)) (aa (pv 7) ah)))))) rfl)) a7)))))))
  (ar (aI (pv 3)))))))), ?_⟩
  obtain ⟨⟨e1, e2⟩, ⟨t1, t2⟩, -, -, -, hf⟩ := id sh
  refine aN (fun σ H1 => ∃ w, σ = [some (.ref a), some (.ref b), some (.ref c), some (.ref w), none, none, none, none, none, none] /\ LF H e t w H1) (fun N hN => ?_) ?_
  ·walk_at "gzn"
   exact fun w m5 => hN _ _ ⟨w, rfl, [], av m5, m5, ⟨[], aq, trivial⟩, bT.nil, adf _, fun _ h => (nomatch h)⟩
  rintro σ H1 ⟨w, rfl, hw⟩
  obtain ⟨_, s1, _⟩ := id hw
  refine aN (fun σ H2 => σ = [some (.ref a), some (.ref b), some (.ref c), some (.ref w), some (.int 4), none, none, none, none, none] /\ H2 = H1) (fun N hN => ?_) ?_
  ·walk_at "gzn"
   exact hN _ _ ⟨rfl, rfl⟩
  rintro σ H2 ⟨rfl, rfl⟩
  refine aN (fun σ H3 => σ = [some (.ref a), some (.ref b), some (.ref c), some (.ref w), some (.int 4), some (.int 24), none, none, none, none] /\ H3 = H2) (fun N hN => ?_) ?_
  ·walk_at "gzn"
   exact hN _ _ ⟨rfl, rfl⟩
  rintro σ H3 ⟨rfl, rfl⟩
  refine aN (fun σ H4 => ∃ dn lm : Int, σ = [some (.ref a), some (.ref b), some (.ref c), some (.ref w), some (.int dn), some (.int lm), none, none, none, none] /\ H4 = H3 /\ (dn = 4 ∨ dn = 16) /\ 0 <= lm /\ lm <= 24) (fun N hN => ?_) ?_
  ·walk_at "gzn"
   refine aW (s1.seq hb) (v := .int e) rfl (aW (s1.seq hb) (v := .int t) rfl ?_)
   walk_at "gzn"
   refine ⟨gx (by omega) (by omega), bA (fun _ => hN _ _ ⟨16, 16, rfl, rfl, .inr rfl, by decide, by decide⟩) fun _ => hN _ _ ⟨4, 24, rfl, rfl, .inl rfl, by decide, by decide⟩⟩
  rintro σ H4 ⟨dn, lm, rfl, rfl, hdn, hlm⟩
  refine aN (Cv (fun e1 e2 e3 e4 => [some (.ref a), some (.ref b), some (.ref c), some (.ref w), some (.int dn), some (.int lm), e1, e2, e3, e4]) H e t w 0) (fun N hN => ?_) ?_
  ·walk_at "gzn"
   refine aW (s1.seq hb) (v := .int e) rfl ?_
   walk_at "gzn"
   refine ⟨by omega, by omega, lR (Cv (fun e1 e2 e3 e4 => [some (.ref a), some (.ref b), some (.ref c), some (.ref w), some (.int dn), some (.int lm), e1, e2, e3, e4]) H e t w) ⟨_, _, _, _, rfl, hw⟩ ?_ (fun σ H' h => hN _ _ h)⟩
   rintro i σ H5 hi ⟨e1, e2, e3, e4, rfl, LG⟩
   obtain ⟨_, s5, _⟩ := id LG
   walk_at "gzn"
   refine ⟨a, ns, _, _, rfl, s5.seq hS, hn, by omega, by omega, fun p p1 p2 => ?_⟩
   walk_at "gzn"
   refine aW (s5.seq hb) (v := .int t) rfl ?_
   walk_at "gzn"
   refine ⟨by omega, by omega, lR (Cv (fun e1 e2 e3 e4 => [some (.ref a), some (.ref b), some (.ref c), some (.ref w), some (.int dn), some (.int lm), some (.int (0 + (i : Int))), some (.bl (decide (p = 1))), e3, e4]) H e t w) ⟨none, none, _, _, rfl, LG⟩ ?_ ?_⟩
   ·rintro j σ H6 hj ⟨_, _, e3, e4, rfl, k8⟩
    obtain ⟨tb, s6, m5, ⟨kvs, hk, hT⟩, ai, uv, fm⟩ := id k8
    have bi : (i : Int) < e := by omega
    have bj : (j : Int) < t := by omega
    have tl := hT.len
    have bm : 0 <= (0 + (i : Int)) * t /\ (0 + (i : Int)) * t <= 6 * 12 := ⟨aiF (by omega) (by omega), aka (by omega) t2 (by omega) (by decide)⟩
    walk_at "gzn"
    refine aW (s6.seq hb) (v := .int t) rfl ⟨_, rfl, gx (by omega) (by omega), gx (by decide) (by omega), kvs, hk, bA (fun aT => ?_) fun _ => ⟨none, none, _, _, rfl, k8⟩⟩
    refine ⟨a, ns, _, _, rfl, s6.seq hS, hn, by omega, by omega, fun r r1 r2 => ⟨_, rfl, bA (fun _ => ?_) fun _ => ⟨none, none, _, _, rfl, k8⟩⟩⟩
    refine aW (s6.seq hb) (v := .int f) rfl (aW (s6.seq hc) (int_at (by omega) (by omega)) ?_)
    refine ⟨a, ns, _, _, _, _, rfl, s6.seq hS, hn, by omega, hf, fun wp lo hi H7 s7 _ Va qA _ => ⟨b7, fun k m6 => ?_⟩⟩
    have u := av (o := .tup [.int (0 + (i : Int)), .int (0 + (j : Int))]) m6
    have LH := (s7.trans u) _ _ hk
    refine ⟨_, fH.t (k := aL (0 + (i : Int)) (0 + (j : Int))) LH aq (adX (by omega : kvs.length <= 24) (by decide)), none, none, _, _, rfl, cO tb (0 + (i : Int), 0 + (j : Int)) (lo, hi), lS m5 (s6.trans (s7.trans u)), m5, ⟨_, aq, ?_⟩, ai.put ⟨⟨by show 0 <= 0 + (i : Int); omega, by show 0 + (i : Int) < e; omega⟩, by show 0 <= 0 + (j : Int); omega, by show 0 + (j : Int) < t; omega⟩, ?_, fun r hr => ?_⟩
    ·have F : Fr _ (upd _ w (.dT (putK kvs (aL (0 + (i : Int)) (0 + (j : Int))) (.ref wp)))) := Bj LH
     exact aR.put (s := (0 + (i : Int), 0 + (j : Int))) (w := (lo, hi)) (hT.imp fun v a b z => (a8.same z (s7.trans u)).fr F) (a8.fr ⟨wp, rfl, u _ _ Va⟩ F)
    ·have := Jg tb (0 + (i : Int), 0 + (j : Int)) (lo, hi)
     omega
    ·rcases U7 hr with z | z
     ·exact fm r z
     ·rw [z]; exact qA
   ·rintro σ H6 ⟨_, _, e3, e4, rfl, k8⟩
    exact ⟨_, _, _, _, rfl, k8⟩
  rintro σ H5 ⟨e1, e2, e3, e4, rfl, tb, s5, m5, hT, ai, uv, fm⟩
  walk_at "gzn"
  exact q w tb H5 s5 m5 hT ai uv fm
end
section
seal L2.PE L2.PS L2.bq L2.PA
variable {P : ac2} {w : adw} {K : acB} {mg : Str -> Option acC} {base : aer}
theorem ak.rev {α : Type} {R : V -> α -> Prop} : ∀ {xs : List V} {as : List α}, ak R xs as -> ak R xs.reverse as.reverse
 | [], [], _ => trivial
 | x :: xs, a :: as, h => by rw [agu, agu]; exact (ak.rev h.2).app ⟨h.1, trivial⟩
 | [], _ :: _, h => h.elim
 | _ :: _, [], h => h.elim
theorem Vb {tb : Tb} {s : P2} {w : S2} (h : s ∉ tb.map (·.1)) : cO tb s w = tb ++ [(s, w)] := by
 unfold cO
 rw [if_neg]
 intro z
 obtain ⟨r, hr, e⟩ := ae9.mp z
 exact h (acQ.mpr ⟨r, hr, by simpa using e⟩)
theorem Vc {α β : Type} {f : α -> β} {l : List α} {i : Nat} {a : α} (h : (l.map f).Nodup) (ha : l[i]? = some a) : f a ∉ (l.take i).map f := by
 have hi := (acX.mp ha).1
 have e : l = l.take i ++ a :: l.drop (i + 1) := by
  have := afc i l
  rw [afe hi] at this
  rw [acG hi] at ha
  cases ha
  exact this.symm
 intro hm
 have h2 : ((l.take i).map f ++ f a :: (l.drop (i + 1)).map f).Nodup := by
  rw [<- ac7, <- aeH, <- e]
  exact h
 exact (ahA.mp h2).2.2 _ hm _ (.head _) rfl
noncomputable def Vd (B : acJ) (H3 : Hp) (a b w x l p : acJ) (e t u d m : Int) (rs : Tb) (i : Nat) (σ : St) (H4 : Hp) : Prop := (∃ e1 e2, σ = [some (.ref a), some (.ref b), some (.ref w), some (.ref x), some (.ref l), e1, e2]) /\ dD [p] H3 H4 /\ dk B H4 x e t u d m p (rs.take i)
noncomputable def Ve (K : acB) (B : acJ) : Sp := fun vs H Q _ => ∃ (a b q : acJ) (ns : List Int) (e t u d m f : Int) (tb : Tb), vs = [.ref a, .ref b, .ref q] /\ ag K H a (ns.map V.int) /\ eY ns /\ ag K H b (fT e t u d m f) /\ ir e t u d m f /\ TabAt H q tb /\ bT e t tb /\ tb.length <= 30 /\ (∀ r ∈ tb, bx r.2.1 r.2.2 = false) /\ ∀ (x p : acJ) (rs : Tb) (H' : Hp), aj H H' -> H x = none -> H p = none -> dk B H' x e t u d m p rs -> (rs = tb ∨ rs = tb.reverse) -> Q (.ref x) H'
theorem Vf (T : Tx K mg) : aK P w K mg base (aJ P w) 4 T.kM T.yp ["_law_script", "_law_shape_here", "_law_told_here"] (Ve K T.aH) := by
 refine okN T.qi tP (fun vs H Q E h => ?_) (fun aF A outer s H vs Q E hr h => ?_)
 ·obtain ⟨a, b, q, ns, e, t, u, d, m, f, tb, rfl, _⟩ := h
  rfl
 ·obtain ⟨a, b, w, ns, e, t, u, d, m, f, tb, rfl, hS, hn, hb, sh, hT, ai, LI, fm, q⟩ := h
  refine ⟨_, (ao (aG (i := 3) tP.nd rfl (adi rfl) (NY T.qv (TL T) (hr.mono (by decide)) rfl T.Ld T.xY .nil aD (aa (ax aB (pv 1) ae (fun _ _ => rfl)) (aa (ax aB (pv 1) ae (fun _ _ => rfl)) (aa (ax aB (pv 1) ae (fun _ _ => rfl)) (aa (ax aB (pv 1) ae (fun _ _ => rfl)) (aa (ax aB (pv 1) ae (fun _ _ => rfl)) ah)))))))
  (ao (aG (i := 4) tP.nd rfl (adi rfl) (vc (Bf rfl) (by rfl) T.mM nU (aa (pv 2) ah)))
  (ao (aY (ba dr (aE (cb T) (hr.mono (by decide)) rfl T.bZ T.bI.kp T.bP .nil aD (aa (pv 0) (aa ae (aa ae ah)))) ae (a9 _)) (ar (eJ (Oa afz PySem.F.slot_list_reverse PySem.F.type_list_reverse Oe (pv 4)))) a7)
  (ao (cu adu rfl (b5 (pv 4)) (iD rfl (cP (bb (i := 5) tP.nd rfl (adi rfl)) (cP (bb (i := 6) tP.nd rfl (adi rfl)) iC))) (ar (eJ (gR (pv 3) T.bB T.Ce (Lo T) (hr.mono (by decide)) T.tY .nil aD (aa (pv 5) (aa (pv 6) (aa (ax aB (lP (df hr) (pv 2) (bX (aa (pv 5) (aa (pv 6) ah))) (fun _ _ => rfl)) ae (fun _ _ => rfl)) (aa (ax aB (lP (df hr) (pv 2) (bX (aa (pv 5) (aa (pv 6) ah))) (fun _ _ => rfl)) ae (fun _ _ => rfl)) ah))))))))
  (ar (aI (pv 3))))))), ?_⟩
  obtain ⟨⟨e1, e2⟩, ⟨t1, t2⟩, ⟨u1, _⟩, ⟨d1, _⟩, ⟨m1, m2⟩, hf⟩ := id sh
  refine aN (fun σ H1 => ∃ x p, σ = [some (.ref a), some (.ref b), some (.ref w), some (.ref x), none, none, none] /\ aj H H1 /\ H x = none /\ H p = none /\ dk T.aH H1 x e t u d m p []) (fun N hN => ?_) ?_
  ·walk_at "gzn"
   refine aW hb (v := .int e) rfl (aW hb (v := .int t) rfl (aW hb (v := .int u) rfl (aW hb (v := .int d) rfl (aW hb (v := .int m) rfl fun x dx hx Vg c8 => ?_))))
   have Vh : fi e t u d m := ⟨⟨e1, e2⟩, ⟨t1, t2⟩, u1, d1, m1, m2⟩
   refine ⟨x, dx, e, t, u, d, m, rfl, aq, fun z => absurd Vh z, fun _ p H1 hp s1 X1 P1 => ⟨rfl, ?_⟩⟩
   have M := Qa (C := T.aH) (fs := []) hx Vg c8
   have S1 : aj H H1 := fun b o e => s1 b o (fun z => by rw [z, hx] at e; cases e) (M _ _ e)
   exact hN _ _ ⟨x, p, rfl, S1, hx, M.free hp, ⟨⟨_, X1⟩, [], P1, trivial⟩⟩
  rintro σ H1 ⟨x, p, rfl, s1, fx, fp, hB⟩
  obtain ⟨kvs, hk, hA⟩ := hT
  refine aN (fun σ H2 => ∃ l ys, σ = [some (.ref a), some (.ref b), some (.ref w), some (.ref x), some (.ref l), none, none] /\ aj H1 H2 /\ H1 l = none /\ H2 l = some (.lst ys) /\ dZ H2 ys (tb.map (·.1))) (fun N hN => ?_) ?_
  ·walk_at "gzn"
   refine ⟨kvs, s1 _ _ hk, fun l ys hl m7 => hN _ _ ⟨l, ys, rfl, av hl, hl, aq, ?_⟩⟩
   exact ((aR.imp (fun v a b z => a8.same z s1) hA).sW m7).imp fun _ _ r => r.same (av hl)
  rintro σ H2 ⟨l, ys, rfl, s2, fl, hl, hY⟩
  refine aN (fun σ H3 => ∃ (ys : List V) (rs : Tb), σ = [some (.ref a), some (.ref b), some (.ref w), some (.ref x), some (.ref l), none, none] /\ aj H1 H3 /\ H3 l = some (.lst ys) /\ dZ H3 ys (rs.map (·.1)) /\ (rs = tb ∨ rs = tb.reverse)) (fun N hN => ?_) ?_
  ·walk_at "gzn"
   refine ⟨a, ns, _, _, rfl, (s1.trans s2).seq hS, hn, by omega, by omega, fun pp pp1 pp2 => ?_⟩
   walk_at "gzn"
   refine bA (fun _ => ?_) fun _ => hN _ _ ⟨ys, tb, rfl, s2, hl, hY, .inl rfl⟩
   refine ⟨.inl ⟨rfl, _, ag.of hl⟩, _, hl, hN _ _ ⟨ys.reverse, tb.reverse, rfl, lS fl s2, aq, ?_, .inr rfl⟩⟩
   rw [ajI]
   exact dZ.put (ak.rev hY) hl
  rintro σ H3 ⟨ys, rs, rfl, s3, cc, LJ, qB⟩
  have Cw : bT e t rs := by
   rcases qB with rfl | rfl
   ·exact ai
   ·refine ⟨?_, fun r hr => ai.2 r (ajJ.mp hr)⟩
    rw [ajI]
    exact (ajm _).nodup_iff.mpr ai.1
  have Vi : ∀ r ∈ rs, r ∈ tb := fun r hr => by
   rcases qB with rfl | rfl
   ·exact hr
   ·exact ajJ.mp hr
  have acy : rs.length <= 30 := by
   rcases qB with rfl | rfl
   ·exact LI
   ·rw [aiJ]; exact LI
  have yl := LJ.len
  rw [acI] at yl
  refine aN (fun σ H4 => (∃ e1 e2, σ = [some (.ref a), some (.ref b), some (.ref w), some (.ref x), some (.ref l), e1, e2]) /\ aj H H4 /\ dk T.aH H4 x e t u d m p rs) (fun N hN => ?_) ?_
  ·walk_at "gzn"
   have S3 := s1.trans s3
   have LK := hB.same s3
   obtain ⟨⟨dx, hx3⟩, kp, yY, hA3⟩ := id LK
   have lp : l ≠ p := fun z => by rw [z, yY] at cc; cases cc
   have wp : w ≠ p := fun z => by rw [z, fp] at hk; cases hk
   refine ⟨⟨_, ag.of cc⟩, gX (xs := ys) (Vd T.aH H3 a b w x l p e t u d m rs) ⟨⟨_, _, rfl⟩, fun _ _ _ z => z, LK⟩ ?_ ?_ ?_⟩
   ·rintro i σ H4 _ ⟨_, bu, _⟩
    exact ag.of (bu l _ (by simpa using lp) cc)
   ·rintro i y σ H4 hy ⟨⟨e1, e2, rfl⟩, bu, qC⟩
    obtain ⟨r1, eB, ty, rfl, lM⟩ := LJ.get hy
    rw [adn] at eB
    obtain ⟨r, hr, rfl⟩ := adH.mp eB
    have typ : ty ≠ p := fun z => by rw [z, yY] at lM; cases lM
    have m8 := Vi r (acZ hr)
    have LL := bu w _ (by simpa using wp) (S3 _ _ hk)
    obtain ⟨⟨LM, uw⟩, kq, Cy, LN⟩ := id qC
    obtain ⟨v, hv, iv⟩ := (hA.val r.1).2 _ (oq ai.1 m8)
    obtain ⟨va, rfl, hva⟩ := id iv
    have Vj : va ≠ p := fun z => by rw [z, fp] at hva; cases hva
    have LO := bu va _ (by simpa using Vj) (S3 _ _ hva)
    refine lZ (az.of (bu ty _ (by simpa using typ) lM)) ?_
    walk_at "gzn"
    refine ⟨_, _, uw, rfl, b7, fun k1 JJ => ?_⟩
    have v1 := av (o := .tup [.int r.1.1, .int r.1.2]) JJ
    refine ⟨.ref va, by rw [<- hv]; exact bN.t (k := aL r.1.1 r.1.2) (v1 _ _ LL) aq, aP (az.of (v1 _ _ LO)) rfl ⟨b7, fun k2 dB => ?_⟩⟩
    have v2 := av (o := .tup [.int r.1.1, .int r.1.2]) dB
    have k9 := v1.trans v2
    refine ⟨.ref va, by rw [<- hv]; exact bN.t (k := aL r.1.1 r.1.2) (k9 _ _ LL) aq, aP (az.of (k9 _ _ LO)) rfl ?_⟩
    have y7 := Cw.2 r (acZ hr)
    have kl := LN.len
    rw [agO] at kl
    have xp : x ≠ p := fun z => by rw [z, Cy] at uw; cases uw
    refine ⟨x, p, e, t, u, d, m, r.1.1, r.1.2, r.2.1, r.2.2, kq, rfl, ⟨⟨LM, k9 _ _ uw⟩, k9 _ _ Cy⟩, by omega, fun z => absurd ⟨y7, fm r m8⟩ z, fun _ v9 H9 sb Cz CA => ⟨⟨_, _, rfl⟩, fun c o hc ec => sb c o (by simpa using hc) (k9 c o (bu c o hc ec)), ?_⟩⟩
    have ek : rs.take (i + 1) = cO (rs.take i) r.1 r.2 := by
     rw [Vb (Vc Cw.1 hr), aea, hr]
     rfl
    rw [ek]
    exact ⟨⟨LM, sb x _ xp (k9 _ _ uw)⟩, _, Cz, aR.put (LN.imp fun v a b z => (a8.same z k9).fr (SameBut.fr sb (k9 _ _ Cy))) CA⟩
   ·rintro σ H4 ⟨⟨e1, e2, rfl⟩, bu, qC⟩
    rw [yl, aeb] at qC
    exact hN _ _ ⟨⟨_, _, rfl⟩, fun c o ec => bu c o (by simpa using fun z => by rw [z, fp] at ec; cases ec) (S3 c o ec), qC⟩
  rintro σ H4 ⟨⟨e1, e2, rfl⟩, s4, qC⟩
  walk_at "gzn"
  exact q x p rs H4 s4 fx fp qC qB
end
section
seal L2.PE L2.PS L2.bq L2.PA
variable {P : ac2} {w : adw} {K : acB} {mg : Str -> Option acC} {base : aer}
noncomputable def Vk (K : acB) (B : acJ) : Sp := fun vs H Q _ => ∃ (a b c w x p : acJ) (ns cs : List Int) (e t u d m f : Int) (tb rs : Tb), vs = [.ref a, .ref b, .ref c, .ref w, .ref x] /\ ag K H a (ns.map V.int) /\ eY ns /\ ag K H b (fT e t u d m f) /\ ir e t u d m f /\ ag K H c (cs.map V.int) /\ cs.length = t.toNat /\ TabAt H w tb /\ dk B H x e t u d m p rs /\ w ≠ p /\ rs.Perm tb /\ bT e t tb /\ tb.length <= 60 /\ (∀ r ∈ tb, bx r.2.1 r.2.2 = false) /\ ∀ (bO iu : Tb) (H' : Hp), dD [w, p] H H' -> TabAt H' w bO -> dk B H' x e t u d m p iu -> iu.Perm bO -> bT e t bO -> bO.length <= tb.length + 1 -> (∀ r ∈ bO, bx r.2.1 r.2.2 = false) -> Q .non H'
theorem Vl (T : Tx K mg) : aK P w K mg base (aJ P w) 4 T.kP T.yy ["_law_script", "_law_shape_here", "_law_course_here", "_law_told_here", "_law_board_here"] (Vk K T.aH) := by
 refine okN T.ql Kv (fun vs H Q E h => ?_) (fun aF A outer s H vs Q E hr h => ?_)
 ·obtain ⟨a, b, c, w, x, p, ns, cs, e, t, u, d, m, f, tb, rs, rfl, _⟩ := h
  rfl
 ·obtain ⟨a, b, c, w, x, p, ns, cs, e, t, u, d, m, f, tb, rs, rfl, hS, hn, hb, sh, hc, cN, hT, hB, wp, cn, ai, Vm, fm, q⟩ := h
  refine ⟨_, (ao (aG (i := 5) Kv.nd rfl (adi rfl) (bX (aa (aE (cb T) (hr.mono (by decide)) rfl T.bZ T.bI.kp T.bP .nil aD (aa (pv 0) (aa ae (aa (ax aB (pv 1) ae (fun _ _ => rfl)) ah)))) (aa (aE (cb T) (hr.mono (by decide)) rfl T.bZ T.bI.kp T.bP .nil aD (aa (pv 0) (aa ae (aa (ax aB (pv 1) ae (fun _ _ => rfl)) ah)))) ah))))
  (ar (aY (PW.pt (iB (dH (OG (df hr) (pv 5) (pv 3))) (jg (ba gQ (aE (cb T) (hr.mono (by decide)) rfl T.bZ T.bI.kp T.bP .nil aD (aa (pv 0) (aa ae (aa ae ah)))) ae (a9 _))))) (ao (eJ (gR (pv 4) T.bB T.Lf (TZ T) (hr.mono (by decide)) T.x8 .nil aD (aa (ax aB (pv 5) ae (fun _ _ => rfl)) (aa (ax aB (pv 5) ae (fun _ _ => rfl)) ah))))
    (ar (eJ (Ja (df hr) (pv 3) (pv 5) ⟨rfl, rfl, rfl, rfl⟩)))) (ao (vq (df hr) (pv 3) (pv 5) (aE (LD T) (hr.mono (by decide)) rfl T.B9 T.mJ.kp T.ue .nil aD (aa (pv 0) (aa ae (aa (ax aB (pv 1) ae (fun _ _ => rfl)) (aa (ax aB (pv 2) (ax aB (pv 5) ae (fun _ _ => rfl)) (fun _ _ => rfl)) (aa cg ah)))))) rfl)
    (ar (eJ (gR (pv 4) T.bB T.Ce (Lo T) (hr.mono (by decide)) T.tY .nil aD (aa (ax aB (pv 5) ae (fun _ _ => rfl)) (aa (ax aB (pv 5) ae (fun _ _ => rfl)) (aa (ax aB (lP (df hr) (pv 3) (pv 5) (fun _ _ => rfl)) ae (fun _ _ => rfl)) (aa (ax aB (lP (df hr) (pv 3) (pv 5) (fun _ _ => rfl)) ae (fun _ _ => rfl)) ah))))))))))), ?_⟩
  obtain ⟨he, ht, -, -, -, hf⟩ := id sh
  refine aN (fun σ H1 => ∃ (z : acJ) (i j : Nat), σ = [some (.ref a), some (.ref b), some (.ref c), some (.ref w), some (.ref x), some (.ref z)] /\ aj H H1 /\ H1 z = some (.tup [.int i, .int j]) /\ (i : Int) < e /\ (j : Int) < t) (fun N hN => ?_) ?_
  ·walk_at "gzn"
   refine aW hb (v := .int e) rfl ?_
   refine ⟨a, ns, _, _, rfl, hS, hn, by omega, by omega, fun p1 p11 p12 => ?_⟩
   refine aW hb (v := .int t) rfl ?_
   refine ⟨a, ns, _, _, rfl, hS, hn, by omega, by omega, fun p2 p21 p22 => ?_⟩
   refine ⟨b7, fun z hz => hN _ _ ⟨z, p1.toNat, p2.toNat, rfl, av hz, ?_, by omega, by omega⟩⟩
   rw [aq, show ((p1.toNat : Nat) : Int) = p1 by omega, show ((p2.toNat : Nat) : Int) = p2 by omega]
  rintro σ H1 ⟨z, i, j, rfl, s1, hz, hi, hj⟩
  have T1 := hT.same s1
  have B1 := hB.same s1
  obtain ⟨kw, hkw, y9⟩ := id T1
  obtain ⟨⟨dx, hx⟩, kp, hkp, za⟩ := id B1
  have ux : (rs.map (·.1)).Nodup := (cn.map _).nodup_iff.mpr ai.1
  have Cw : bT e t rs := ⟨ux, fun r hr => ai.2 r (cn.mem_iff.mp hr)⟩
  have wl := y9.len
  have pl := za.len
  have rl := cn.length_eq
  have y7 : me e t ((i : Int), (j : Int)) := ⟨⟨by show (0 : Int) <= (i : Int); omega, hi⟩, by show (0 : Int) <= (j : Int); omega, hj⟩
  have zw : z ≠ w := fun h => by rw [h, hkw] at hz; cases hz
  have zp : z ≠ p := fun h => by rw [h, hkp] at hz; cases hz
  have xw : x ≠ w := fun h => by rw [h, hkw] at hx; cases hx
  have xp : x ≠ p := fun h => by rw [h, hkp] at hx; cases hx
  have Vn : ∀ (R : V -> Hp -> Prop), R = (fun _ H' => Q .non H') -> ∀ (v : V) (wq : acJ) (lo hi : En) (H7 : Hp), v = .ref wq -> aj H1 H7 -> H7 wq = some (.tup [ev lo, ev hi]) -> bx lo hi = false -> ∃ m9, fH H7 w (.ref z) v m9 /\ ∃ CB uy, m9 x = some (HO.ins T.aH CB uy) /\ aft (afL "tell") uy = none /\ dJ K (.ref z) (.int 0) m9 fun CC H1 => dJ K (.ref z) (.int 1) H1 fun CD H1 => ∃ uz, bN H1 w (.ref z) (some uz) /\ dJ K uz (.int 0) H1 fun CF H1 => ∃ uA, bN H1 w (.ref z) (some uA) /\ dJ K uA (.int 1) H1 fun CG H1 => Ci T.aH T.c9 [.ref x, CC, CD, CF, CG] H1 R E0 := by
   rintro R rfl v wq lo hi H7 rfl s7 uB qA
   have CH := s7 _ _ hkw
   have F8 : Fr H7 (upd H7 w (.dT (putK kw (aL (i : Int) (j : Int)) (.ref wq)))) := Bj CH
   have z8 : upd H7 w (.dT (putK kw (aL (i : Int) (j : Int)) (.ref wq))) z = some (.tup [.int (i : Int), .int (j : Int)]) := by rw [aA zw]; exact s7 _ _ hz
   have Vo : wq ≠ w := fun h => by rw [h, CH] at uB; cases uB
   have zb : upd H7 w (.dT (putK kw (aL (i : Int) (j : Int)) (.ref wq))) wq = some (.tup [ev lo, ev hi]) := by rw [aA Vo]; exact uB
   have w8 : upd H7 w (.dT (putK kw (aL (i : Int) (j : Int)) (.ref wq))) w = some (.dT (putK kw (aL (i : Int) (j : Int)) (.ref wq))) := aq
   have zc : upd H7 w (.dT (putK kw (aL (i : Int) (j : Int)) (.ref wq))) x = some (.ins T.aH dx (yT e t u d m p)) := by rw [aA xw]; exact s7 _ _ hx
   have CI : upd H7 w (.dT (putK kw (aL (i : Int) (j : Int)) (.ref wq))) p = some (.dT kp) := by rw [aA (adV wp)]; exact s7 _ _ hkp
   have TW : aR (upd H7 w (.dT (putK kw (aL (i : Int) (j : Int)) (.ref wq)))) (putK kw (aL (i : Int) (j : Int)) (.ref wq)) (cO tb ((i : Int), (j : Int)) (lo, hi)) := aR.put (s := ((i : Int), (j : Int))) (w := (lo, hi)) (y9.imp fun _ _ _ zz => (a8.same zz s7).fr F8) ⟨wq, rfl, zb⟩
   have LP : aR (upd H7 w (.dT (putK kw (aL (i : Int) (j : Int)) (.ref wq)))) kp rs := za.imp fun _ _ _ zz => (a8.same zz s7).fr F8
   have vv : bc (putK kw (aL (i : Int) (j : Int)) (.ref wq)) (aL (i : Int) (j : Int)) = some (.ref wq) := by rw [Ow, if_pos rfl]
   have BU : dD [w, p] H (upd H7 w (.dT (putK kw (aL (i : Int) (j : Int)) (.ref wq)))) := fun b o hb h => by
    have ik : b ≠ w /\ b ≠ p := by simpa using hb
    rw [aA ik.1]; exact s7 _ _ (s1 _ _ h)
   refine ⟨_, fH.t (k := aL (i : Int) (j : Int)) CH (s7 _ _ hz) (adX (by omega : kw.length <= 60) (by decide)), _, _, zc, rfl, aP (az.of z8) rfl (aP (az.of z8) rfl ⟨.ref wq, by rw [<- vv]; exact bN.t (k := aL (i : Int) (j : Int)) w8 z8, aP (az.of zb) rfl ⟨.ref wq, by rw [<- vv]; exact bN.t (k := aL (i : Int) (j : Int)) w8 z8, aP (az.of zb) rfl ?_⟩⟩)⟩
   generalize upd H7 w (.dT (putK kw (aL (i : Int) (j : Int)) (.ref wq))) = H8 at z8 zb w8 zc CI TW LP BU
   refine ⟨x, p, e, t, u, d, m, (i : Int), (j : Int), lo, hi, kp, rfl, ⟨⟨dx, zc⟩, CI⟩, by omega, fun zz => absurd ⟨y7, qA⟩ zz, fun _ v9 H9 sb Cz CA => ?_⟩
   have F9 : Fr H8 H9 := SameBut.fr sb CI
   refine q (cO tb ((i : Int), (j : Int)) (lo, hi)) (cO rs ((i : Int), (j : Int)) (lo, hi)) H9 (fun b o hb h => ?_) ⟨_, sb w _ wp w8, TW.imp fun _ _ _ zz => zz.fr F9⟩ ⟨⟨dx, sb x _ xp zc⟩, _, Cz, aR.put (s := ((i : Int), (j : Int))) (w := (lo, hi)) (LP.imp fun _ _ _ zz => zz.fr F9) CA⟩ (QX cn) (ai.put y7) (Jg _ _ _) fun r hr => ?_
   ·have ik : b ≠ w /\ b ≠ p := by simpa using hb
    exact sb b o ik.2 (BU b o hb h)
   ·rcases QZ hr with zz | zz
    ·exact fm r zz
    ·rw [zz]; exact qA
  have PW : dJ K (V.ref b) (V.int 5) H1 fun Vp H1 => dJ K (V.ref z) (V.int 1) H1 fun y H2 => dJ K (V.ref c) y H2 fun Vq H1 => LB K [V.ref a, V.int 230, Vp, Vq, V.bl true] H1 (fun v H1 => ∃ m9, fH H1 w (V.ref z) v m9 /\ ∃ CB uy, m9 x = some (HO.ins T.aH CB uy) /\ aft (afL "tell") uy = none /\ dJ K (V.ref z) (V.int 0) m9 fun CC H1 => dJ K (V.ref z) (V.int 1) H1 fun CD H1 => ∃ uz, bN H1 w (V.ref z) (some uz) /\ dJ K uz (V.int 0) H1 fun CF H1 => ∃ uA, bN H1 w (V.ref z) (some uA) /\ dJ K uA (V.int 1) H1 fun CG H1 => Ci T.aH T.c9 [V.ref x, CC, CD, CF, CG] H1 (fun x H1 => Q V.non H1) E0) E0 := by
   refine aW (s1.seq hb) (v := .int f) rfl (aP (az.of hz) rfl (aW (s1.seq hc) (dz (QW (by omega))) ?_))
   exact ⟨a, ns, _, _, _, _, rfl, s1.seq hS, hn, by omega, hf, fun wq lo hi H7 s7 _ uB qA _ => Vn _ rfl _ wq lo hi H7 rfl s7 uB qA⟩
  walk_at "gzn"
  refine ⟨_, bN.t (k := aL (i : Int) (j : Int)) hkw hz, bA (fun h1 => ?_) fun h1 => ?_⟩
  ·refine ⟨a, ns, _, _, rfl, s1.seq hS, hn, by omega, by omega, fun p3 p31 p32 => ?_⟩
   refine ⟨_, rfl, bA (fun h2 => ?_) fun h2 => ?_⟩
   ·obtain ⟨v1, iZ⟩ := aeo.mp h1
    have vt : ∃ w1, dC tb ((i : Int), (j : Int)) = some w1 := by
     cases hh : dC tb ((i : Int), (j : Int)) with
     | none => rw [(y9.val ((i : Int), (j : Int))).1 hh] at iZ; cases iZ
     | some w1 => exact ⟨w1, rfl⟩
    obtain ⟨w1, Vr⟩ := vt
    have m8 : (((i : Int), (j : Int)), w1) ∈ rs := cn.mem_iff.mpr (Qs Vr)
    obtain ⟨v2, mC, _⟩ := (za.val ((i : Int), (j : Int))).2 _ (oq ux m8)
    refine ⟨_, _, hx, rfl, aP (az.of hz) rfl (aP (az.of hz) rfl ⟨x, p, e, t, u, d, m, (i : Int), (j : Int), kp, rfl, ⟨⟨dx, hx⟩, hkp⟩, fun zz => absurd (mC.symm.trans zz) (fun h => nomatch h), fun v' _ H2 sb lN => ?_⟩)⟩
    have F2 : Fr H1 H2 := SameBut.fr sb hkp
    have mT := sb w _ wp hkw
    refine ⟨.inr ⟨kw, .inl mT⟩, kw, mT, aL (i : Int) (j : Int), sb z _ zp hz, v1, iZ, ?_⟩
    have F3 : Fr H2 (upd H2 w (.dT (fE kw (aL (i : Int) (j : Int))))) := Bj mT
    refine q (md tb ((i : Int), (j : Int))) (md rs ((i : Int), (j : Int))) _ (fun b o hb h => ?_) ⟨_, aq, aR.drop (s := ((i : Int), (j : Int))) ((y9.imp fun _ _ _ zz => zz.fr F2).imp fun _ _ _ zz => zz.fr F3)⟩ ⟨⟨dx, by rw [aA xw]; exact sb x _ xp hx⟩, _, by rw [aA (adV wp)]; exact lN, aR.drop (s := ((i : Int), (j : Int))) ((za.imp fun _ _ _ zz => zz.fr F2).imp fun _ _ _ zz => zz.fr F3)⟩ (QY cn) ai.drop (ajh (ad5 _ _)) fun r hr => fm r (adp.mp hr).1
    have ik : b ≠ w /\ b ≠ p := by simpa using hb
    rw [aA ik.1]
    exact sb b o ik.2 (s1 _ _ h)
   ·exact PW
  ·exact PW
end
section
seal L2.PE L2.PS L2.bq L2.PA
variable {P : ac2} {w : adw} {K : acB} {mg : Str -> Option acC} {base : aer}
theorem Vs (tb : Tb) : Gd 3 (.list (tb.map Jj)) := .lst fun d hd => by
 obtain ⟨r, _, rfl⟩ := acQ.mp hd
 refine .tup fun d hd => ?_
 simp only [acN, aeL, or_false] at hd
 rcases hd with rfl | rfl | rfl
 ·exact (Gd.int _).up (by decide)
 ·exact (Gd.int _).up (by decide)
 ·exact Qz r.2
noncomputable def Vt (K : acB) (B : acJ) : Sp := fun vs H Q _ => ∃ (x p w : acJ) (e t u d m : Int) (tb rs : Tb), vs = [.ref x, .ref w] /\ dk B H x e t u d m p rs /\ TabAt H w tb /\ bT e t tb /\ rs.Perm tb /\ tb.length < 64 /\ ∀ H', aj H H' -> Q (.bl true) H'
theorem Vu (T : Tx K mg) : aK P w K mg base (aJ P w) 2 T.kO T.yu ["_law_board_here", "_law_told_here"] (Vt K T.aH) := by
 refine okN T.qk Ku (fun vs H Q E h => ?_) (fun aF A outer s H vs Q E hr h => ?_)
 ·obtain ⟨x, p, w, e, t, u, d, m, tb, rs, rfl, _⟩ := h
  rfl
 ·obtain ⟨x, p, w, e, t, u, d, m, tb, rs, rfl, hB, hT, ai, cn, b9, q⟩ := h
  refine ⟨_, (ao (aG (i := 2) Ku.nd rfl (adi rfl) (bC I9 (by rfl) T.qu rZ (aa (vc (Bf rfl) (by rfl) T.mM nU (aa (pv 1) ah)) ah)))
  (ar (aI (iG (Ic hr.units) (G4 (pv 0) T.bB T.Cf (Lp T) (hr.mono (by decide)) T.t8 .nil aD) (dY (cE.mk (fr := [1]) (ys := ["_law_told_here"]) rfl (by decide +kernel) rfl (by decide +kernel) rfl rfl (.cons rfl .nil) (.cons rfl rfl rfl rfl .nil) (by decide) rfl) rfl (b5 (pv 2)) (fun C s2 H2 ex pn => ⟨dX, (bX (aa (ax (eW (K := K) rfl) (pv 0) ae (fun _ _ => rfl)) (aa (ax (eW (K := K) rfl) (pv 0) ae (fun _ _ => rfl)) (aa (Jc (df hr) (pv 1) (pv 0) (fun _ _ => rfl)) ah))))⟩)) (a9 _))))), ?_⟩
  obtain ⟨kvs, mY, hA⟩ := id hT
  obtain ⟨⟨dx, hx⟩, _⟩ := id hB
  have ux : (rs.map (·.1)).Nodup := (cn.map _).nodup_iff.mpr ai.1
  walk_at "gzn"
  refine ⟨kvs, mY, fun l ys hl m7 => ?_⟩
  have P0 : ak (fun v (r : P2 × S2) => aX H v r.1) ys tb := ak.bind (hA.sW m7)
  have u1 := av (o := .lst ys) hl
  refine ⟨ys, ag.of aq, fc tb, Ji (P0.imp fun _ _ r => aX.same r u1), by rw [P0.len]; exact b9, fun l2 bR => ?_⟩
  have PS := Jh hA m7
  have pl := PS.len
  rw [wB] at pl
  generalize bL (fc tb) .non ys = zs at PS pl
  have u2 := av (o := .lst zs) bR
  have SS := u1.trans u2
  have z2 : upd (upd H l (.lst ys)) l2 (.lst zs) l2 = some (.lst zs) := aq
  generalize upd (upd H l (.lst ys)) l2 (.lst zs) = H2 at SS z2
  refine ⟨_, _, SS _ _ hx, rfl, x, p, e, t, u, d, m, rs, rfl, hB.same SS, ux, by rw [cn.length_eq]; exact b9, fun l3 xs3 H3 s3 _ cc mV => ⟨⟨_, ag.of (s3 _ _ z2)⟩, cZ eV (acV (by omega : zs.length <= 64) (by decide)) (d6 (R := fun Hx v (r : P2 × S2) => aX Hx v r.1) (R' := fun Hx v (r : P2 × S2) => d9 Hx v r) (f := fun r => r) (bs := []) (fun _ _ _ _ s r => aX.same r s) (fun _ _ _ _ s r => d9.same r s) (PS.imp fun _ _ r => aX.same r (SS.trans s3)) trivial (fun H' s' => ag.of ((s3.trans s') _ _ z2)) (fun v r _ H4 s4 h0 Q h => ?_) (fun v r bQ H4 s4 h0 Q h => ?_) fun H4 ts s4 yX => ?_)⟩⟩
  ·walk_at "gzn"
   exact h
  ·obtain ⟨ka, rfl, ja⟩ := id h0
   have S4 := SS.trans (s3.trans s4)
   obtain ⟨v, hv, iv⟩ := (hA.val r.1).2 _ (oq ai.1 (sX bQ))
   walk_at "gzn"
   refine aP (az.of ja) rfl (aP (az.of ja) rfl ⟨v, ?_, ?_⟩)
   ·rw [<- hv]; exact bN.t (k := aL r.1.1 r.1.2) (S4 _ _ mY) ja
   ·exact ⟨by decide, fun z hz => h _ _ (av hz) ⟨z, v, rfl, aq, a8.same iv (S4.trans (av hz))⟩⟩
  rw [adq, agM] at yX
  rw [QO ux cn] at mV
  intro l4 ip
  have u4 := av (o := .lst ts) ip
  exact wC (.lst (ag.of ((s4.trans u4) _ _ cc)) (Bk (mV.imp fun _ _ r => d9.same r (s4.trans u4)))) (.lst (ag.of aq) (Bk (yX.imp fun _ _ r => d9.same r u4))) (Vs _) (by decide) (q _ (SS.trans (s3.trans (s4.trans u4))))
end
section
seal L2.PE L2.PS L2.bq L2.PA
variable {P : ac2} {w : adw} {K : acB} {mg : Str -> Option acC} {base : aer}
noncomputable def Vv (K : acB) : Sp := fun vs H Q _ => ∃ (b : acJ) (e t u d m f x y : Int), vs = [.ref b, .int x, .int y] /\ ag K H b (fT e t u d m f) /\ ir e t u d m f /\ (0 <= x /\ x < 12) /\ (0 <= y /\ y < 12) /\ Q (.int (oF u d x y)) H
theorem Vw (T : Tx K mg) : aK P w K mg base (aJ P w) 1 T.kQ T.yA ["_law_shape_here", "_law_one", "_law_other"] (Vv K) := by
 refine okN T.qm Ts (fun vs H Q E h => ?_) (fun aF A outer s H vs Q E hr h => ?_)
 ·obtain ⟨b, e, t, u, d, m, f, x, y, rfl, _⟩ := h
  rfl
 ·obtain ⟨b, e, t, u, d, m, f, x, y, rfl, hb, sh, hx, hy, q⟩ := h
  refine ⟨_, (ao (aY (ba lE (pv 1) (pv 2) (a9 _)) (ar (aI (aC fI (ax aB (pv 0) ae (fun _ _ => rfl)) (aC eM (pv 2) (pv 1))))) a7)
  (ar (aI (aC fI (ax aB (pv 0) ae (fun _ _ => rfl)) (aC eM (pv 1) (pv 2)))))), ?_⟩
  obtain ⟨he, ht, ⟨u1, u2⟩, ⟨d1, d2⟩, -, hf⟩ := id sh
  unfold oF at q
  walk_at "gzn"
  refine bA (fun hc => ?_) fun hc => ?_
  ·rw [if_pos hc] at q
   exact aW hb (v := .int u) rfl ⟨_, rfl, gx (by omega) (by omega), q⟩
  ·rw [if_neg hc] at q
   exact aW hb (v := .int d) rfl ⟨_, rfl, gx (by omega) (by omega), q⟩
noncomputable def zd (u d : Int) (r s : P2 × S2) : Bool := match r.2.2, s.2.1 with
 | some h, some l => decide (l - h > oF u d r.1.2 s.1.2)
 | _, _ => false
theorem LQ {u d : Int} {r s : P2 × S2} : zd u d r s = true ↔ jS u d r s := by
 obtain ⟨p, lo, hi⟩ := r
 obtain ⟨p', Vx, bf⟩ := s
 unfold zd jS
 cases hi with
 | none => simp
 | some h =>
  cases Vx with
  | none => simp
  | some l =>
   simp
   omega
noncomputable def Vy (K : acB) : Sp := fun vs H Q _ => ∃ (b w k1 k2 : acJ) (e t u d m f : Int) (o : Obj) (kvs : List (List Key × V)) (tb : Tb) (r s : P2 × S2), vs = [.ref b, .ref w, .ref k1, .ref k2] /\ ag K H b (fT e t u d m f) /\ ir e t u d m f /\ H w = some (.aM o (.dT kvs)) /\ aR H kvs tb /\ bT e t tb /\ r ∈ tb /\ s ∈ tb /\ H k1 = some (.tup [.int r.1.1, .int r.1.2]) /\ H k2 = some (.tup [.int s.1.1, .int s.1.2]) /\ Q (.bl (zd u d r s)) H
theorem Vz (T : Tx K mg) : aK P w K mg base (aJ P w) 2 T.kR T.yC ["_law_shape_here", "_law_told_here", "_law_one", "_law_other"] (Vy K) := by
 refine okN T.qo B3 (fun vs H Q E h => ?_) (fun aF A outer s H vs Q E hr h => ?_)
 ·obtain ⟨b, w, k1, k2, e, t, u, d, m, f, o, kvs, tb, r, s, rfl, _⟩ := h
  rfl
 ·obtain ⟨b, w, k1, k2, e, t, u, d, m, f, o, kvs, tb, r, s, rfl, hb, sh, hw, hA, ai, eB, i0, h1, h2, q⟩ := h
  refine ⟨_, (ao (aG (i := 4) B3.nd rfl (adi rfl) (ax aB (lP (df hr) (pv 1) (pv 2) (fun _ _ => rfl)) ae (fun _ _ => rfl)))
  (ao (aG (i := 5) B3.nd rfl (adi rfl) (ax aB (lP (df hr) (pv 1) (pv 3) (fun _ _ => rfl)) ae (fun _ _ => rfl)))
  (ao (aY (PW.pt (eG (dH (lr (pv 4))) (gJ (dH (lr (pv 5)))))) (ar (aI cg)) a7)
  (ar (aI (iG gQ (aC eM (pv 5) (pv 4)) (aE (Vw T) (hr.mono (by decide)) rfl T.K2 T.qm.kp T.yB .nil aD (aa (pv 0) (aa (ax aB (pv 2) ae (fun _ _ => rfl)) (aa (ax aB (pv 3) ae (fun _ _ => rfl)) ah)))) (a9 _))))))), ?_⟩
  obtain ⟨he, ht, ⟨u1, u2⟩, ⟨d1, d2⟩, -, hf⟩ := id sh
  obtain ⟨⟨_, _⟩, r3, r4⟩ := ai.2 r eB
  obtain ⟨⟨_, _⟩, s3, s4⟩ := ai.2 s i0
  obtain ⟨v1, iZ, a1, rfl, y3⟩ := (hA.val r.1).2 _ (oq ai.1 eB)
  obtain ⟨v2, mC, a2, rfl, lb⟩ := (hA.val s.1).2 _ (oq ai.1 i0)
  unfold zd at q
  walk_at "gzn"
  refine ⟨_, by rw [<- iZ]; exact bN.z (k := aL r.1.1 r.1.2) hw h1, aP (az.of y3) (v := ev r.2.2) rfl ⟨_, by rw [<- mC]; exact bN.z (k := aL s.1.1 s.1.2) hw h2, aP (az.of lb) (v := ev s.2.1) rfl ?_⟩⟩
  obtain ⟨p1, lo1, VA⟩ := r
  obtain ⟨p2, VB, my⟩ := s
  dsimp only at *
  cases VA with
  | none =>
   walk_at "gzn"
   exact q
  | some hh =>
   cases VB with
   | none =>
    walk_at "gzn"
    exact q
   | some ll =>
    walk_at "gzn"
    exact aP (az.of h1) (v := .int p1.2) rfl (aP (az.of h2) (v := .int p2.2) rfl ⟨b, e, t, u, d, m, f, _, _, rfl, hb, sh, ⟨r3, by omega⟩, ⟨s3, by omega⟩, _, rfl, q⟩)
end
section
seal L2.PE L2.PS L2.bq L2.PA
variable {P : ac2} {w : adw} {K : acB} {mg : Str -> Option acC} {base : aer}
theorem tN {α : Type} [DecidableEq α] : ∀ (l L : List α), l.Nodup -> (∀ x ∈ l, x ∈ L) -> l.length <= L.length
 | [], _, _, _ => adf _
 | x :: l, L, hn, h => by
  rw [adP] at hn
  have := tN l (L.erase x) hn.2 fun y hy => (afT (fun z => hn.1 (by rw [<- z]; exact hy))).mpr (h y (.tail _ hy))
  rw [afp (h x (.head _))] at this
  have := ae3 (h x (.head _))
  rw [ad8]
  omega
noncomputable def CJ : List P2 := (adh 7).flatMap fun (a : Nat) => (adh 7).map fun (b : Nat) => ((a : Int), (b : Int))
theorem LR {p : P2} (h1 : 0 <= p.1 /\ p.1 < 7) (h2 : 0 <= p.2 /\ p.2 < 7) : p ∈ CJ :=
 ahR.mpr ⟨p.1.toNat, ady.mpr (by omega), acQ.mpr ⟨p.2.toNat, ady.mpr (by omega), Prod.ext (ad7 h1.1) (ad7 h2.1)⟩⟩
noncomputable def fU (p : P2) : List Key × V := (aL p.1 p.2, .bl true)
noncomputable def nc (ks : List P2) (p : P2) : List P2 := if p ∈ ks then ks else ks ++ [p]
theorem VC {ks : List P2} {p x : P2} : x ∈ nc ks p ↔ x ∈ ks ∨ x = p := by
 unfold nc
 by_cases h : p ∈ ks
 ·rw [if_pos h]
  exact ⟨.inl, fun z => z.elim id fun z => z ▸ h⟩
 ·rw [if_neg h, adj, adG]
theorem VD {ks : List P2} {p : P2} (h : ks.Nodup) : (nc ks p).Nodup := by
 unfold nc
 by_cases hp : p ∈ ks
 ·rw [if_pos hp]; exact h
 ·rw [if_neg hp]
  refine ahA.mpr ⟨h, adP.mpr ⟨by simp, agC⟩, fun a ha b hb => ?_⟩
  obtain rfl : b = p := by simpa using hb
  exact fun z => hp (z ▸ ha)
theorem VE (ks : List P2) (p : P2) : putK (ks.map fU) (aL p.1 p.2) (.bl true) = (nc ks p).map fU := by
 unfold putK nc
 have e1 : ((ks.map fU).any fun kv => decide (kv.1 = aL p.1 p.2)) = decide (p ∈ ks) := by
  rw [aeX, ae9, decide_eq_true_eq]
  constructor
  ·rintro ⟨kv, hk, h⟩
   obtain ⟨r, hr, rfl⟩ := acQ.mp hk
   have := sV (of_decide_eq_true h)
   rw [<- this]; exact hr
  ·exact fun h => ⟨fU p, acQ.mpr ⟨p, h, rfl⟩, decide_eq_true rfl⟩
 rw [e1]
 by_cases h : p ∈ ks
 ·rw [if_pos (decide_eq_true h), if_pos h, aeR]
  refine afy fun r _ => ?_
  show (if (fU r).1 = aL p.1 p.2 then ((fU r).1, V.bl true) else fU r) = fU r
  by_cases hh : (fU r).1 = aL p.1 p.2
  ·rw [if_pos hh]; rfl
  ·rw [if_neg hh]
 ·rw [if_neg (by simpa using h), if_neg h, aeH]
  rfl
noncomputable def qD (u d : Int) (tb : Tb) (i : Nat) (p : P2) : Prop := ∃ r ∈ tb.take i, ∃ s ∈ tb, jS u d r s /\ p = (min r.1.1 s.1.1, max r.1.1 s.1.1)
noncomputable def qE (u d : Int) (tb : Tb) (r : P2 × S2) (j : Nat) (p : P2) : Prop := ∃ s ∈ tb.take j, jS u d r s /\ p = (min r.1.1 s.1.1, max r.1.1 s.1.1)
theorem VF {u d : Int} {tb : Tb} {i : Nat} {r : P2 × S2} (h : tb[i]? = some r) (p : P2) : qD u d tb (i + 1) p ↔ qD u d tb i p ∨ qE u d tb r tb.length p := by
 unfold qD qE
 rw [aea, h, aeb]
 constructor
 ·rintro ⟨r', hr, x⟩
  rcases adj.mp hr with z | z
  ·exact .inl ⟨r', z, x⟩
  ·obtain rfl : r' = r := by simpa using z
   exact .inr x
 ·rintro (⟨r', hr, x⟩ | x)
  ·exact ⟨r', adW _ hr, x⟩
  ·exact ⟨r, acL _ (by simp), x⟩
theorem LS {u d : Int} {tb : Tb} {j : Nat} {r s : P2 × S2} (h : tb[j]? = some s) (p : P2) : qE u d tb r (j + 1) p ↔ qE u d tb r j p ∨ (jS u d r s /\ p = (min r.1.1 s.1.1, max r.1.1 s.1.1)) := by
 unfold qE
 rw [aea, h]
 constructor
 ·rintro ⟨r', hr, x⟩
  rcases adj.mp hr with z | z
  ·exact .inl ⟨r', z, x⟩
  ·obtain rfl : r' = s := by simpa using z
   exact .inr x
 ·rintro (⟨r', hr, x⟩ | x)
  ·exact ⟨r', adW _ hr, x⟩
  ·exact ⟨s, acL _ (by simp), x⟩
noncomputable def VG (K : acB) : Sp := fun vs H Q _ => ∃ (b w : acJ) (e t u d m f : Int) (tb : Tb), vs = [.ref b, .ref w] /\ ag K H b (fT e t u d m f) /\ ir e t u d m f /\ TabAt H w tb /\ bT e t tb /\ tb.length <= 60 /\ ∀ l ys ks H', aj H H' -> H l = none -> H' l = some (.lst ys) -> ks.Nodup -> (∀ p, p ∈ ks ↔ ee u d tb p) -> ak (aX H') ys (bV ks) -> Q (.ref l) H'
noncomputable def LU (G H3 : Hp) (b w p : acJ) (X : P2 -> Prop) (e3 e4 : Option V) (σ : St) (H4 : Hp) : Prop := ∃ (ks : List P2), σ = [some (.ref b), some (.ref w), some (.ref p), e3, e4] /\ aj G H4 /\ SameBut p H3 H4 /\ H4 p = some (.dT (ks.map fU)) /\ ks.Nodup /\ (∀ q, q ∈ ks ↔ X q)
theorem LV {H : Hp} : ∀ {ys : List V} {ks : List P2}, fb H ys (ks.map fU) -> ak (aX H) ys ks
 | [], [], _ => trivial
 | _ :: _, _ :: _, h => ⟨h.1, LV h.2⟩
 | [], _ :: _, h => h.elim
 | _ :: _, [], h => h.elim
theorem LW (T : Tx K mg) : aK P w K mg base (aJ P w) 3 T.kS T.yE ["_law_shape_here", "_law_told_here"] (VG K) := by
 refine okN T.mK xh (fun vs H Q E h => ?_) (fun aF A outer s H vs Q E hr h => ?_)
 ·obtain ⟨b, w, e, t, u, d, m, f, tb, rfl, _⟩ := h
  rfl
 ·obtain ⟨b, w, e, t, u, d, m, f, tb, rfl, hb, sh, hT, ai, Vm, q⟩ := h
  refine ⟨_, (ao (aG (i := 2) xh.nd rfl (adi rfl) Bi)
  (ao (QQ (cu adu rfl (Jt (pv 1)) (bb (i := 3) xh.nd rfl (adi rfl)) (ar (cu adu rfl (Jt (pv 1)) (bb (i := 4) xh.nd rfl (adi rfl)) (ar (aY (de (aE (Vz T) (hr.mono (by decide)) rfl T.K3 T.qo.kp T.yD .nil aD (aa (pv 0) (aa (pv 1) (aa (pv 3) (aa (pv 4) ah)))))) (ar (vq (df hr) (pv 2) (bX (aa (bC (rz rfl) (by rfl) T.k6 lQ (aa (ax aB (pv 3) ae (fun _ _ => rfl)) (aa (ax aB (pv 4) ae (fun _ _ => rfl)) ah))) (aa (bC (GY rfl) (by rfl) T.yO AI (aa (ax aB (pv 3) ae (fun _ _ => rfl)) (aa (ax aB (pv 4) ae (fun _ _ => rfl)) ah))) ah))) cg rfl)) a7))))))
  (ar (aI (bC I9 (by rfl) T.qu rZ (aa (vc (Bf rfl) (by rfl) T.mM nU (aa (pv 2) ah)) ah)))))), ?_⟩
  obtain ⟨he, ht, ⟨u1, u2⟩, ⟨d1, d2⟩, -, hf⟩ := id sh
  have LX : ∀ (X : P2 -> Prop) (ks : List P2), ks.Nodup -> (∀ q, q ∈ ks -> ∃ r ∈ tb, ∃ s ∈ tb, q = (min r.1.1 s.1.1, max r.1.1 s.1.1)) -> ks.length <= 49 := fun X ks hn hq => by
   refine tN ks CJ hn fun x hx => ?_
   obtain ⟨r, hr, s, hs, rfl⟩ := hq x hx
   obtain ⟨⟨_, _⟩, _, _⟩ := ai.2 r hr
   obtain ⟨⟨_, _⟩, _, _⟩ := ai.2 s hs
   refine LR ⟨?_, ?_⟩ ⟨?_, ?_⟩
   ·show 0 <= min r.1.1 s.1.1; omega
   ·show min r.1.1 s.1.1 < 7; omega
   ·show 0 <= max r.1.1 s.1.1; omega
   ·show max r.1.1 s.1.1 < 7; omega
  refine aN (fun σ H1 => ∃ p, σ = [some (.ref b), some (.ref w), some (.ref p), none, none] /\ aj H H1 /\ H p = none /\ H1 p = some (.dT [])) (fun N hN => ?_) ?_
  ·walk_at "gzn"
   exact fun p hp => hN _ _ ⟨p, rfl, av hp, hp, aq⟩
  rintro σ H1 ⟨p, rfl, s1, fl, hl⟩
  obtain ⟨kvs, m6, hA⟩ := id hT
  have mY := s1 _ _ m6
  refine aN (fun σ H2 => ∃ (ks : List P2) (e3 e4 : Option V), σ = [some (.ref b), some (.ref w), some (.ref p), e3, e4] /\ aj H H2 /\ H2 p = some (.dT (ks.map fU)) /\ ks.Nodup /\ (∀ q, q ∈ ks ↔ ee u d tb q)) (fun N hN => ?_) ?_
  ·walk_at "gzn"
   refine ⟨w, kvs, mY, fun o => ⟨o, kvs, aq, fun m7 => ?_⟩⟩
   have LY := hA.aM m6 (u := .aM o (.dT kvs))
   have PT := (aR.aM (hA.imp fun _ _ _ z => a8.same z s1) mY (u := .aM o (.dT kvs))).sW m7
   have kl := PT.len
   rw [acI] at kl
   have wl : p ≠ w := fun z => by rw [z, m6] at fl; cases fl
   have jR : upd H1 w (.aM o (.dT kvs)) p = some (.dT []) := by rw [aA wl]; exact hl
   have LZ : ag K (upd H w (.aM o (.dT kvs))) b (fT e t u d m f) := QV m6 hb
   have lG : upd H w (.aM o (.dT kvs)) p = none := by rw [aA wl]; exact fl
   have wG : upd H w (.aM o (.dT kvs)) w = some (.aM o (.dT kvs)) := aq
   have sG : aj (upd H w (.aM o (.dT kvs))) (upd H1 w (.aM o (.dT kvs))) := fun b u h => by
    by_cases hb : b = w
    ·subst hb; rw [aq] at h ⊢; exact h
    ·rw [aA hb] at h ⊢; exact s1 _ _ h
   have L0 : ∀ H4, aj (upd H w (.aM o (.dT kvs))) H4 -> aj H (upd H4 w (.dT kvs)) := fun H4 s4 => QS m6 s4
   generalize upd H1 w (.aM o (.dT kvs)) = H3 at PT jR sG m7
   generalize upd H w (.aM o (.dT kvs)) = G at LY LZ lG wG sG L0
   refine Ju (xs := fP o) (fun i σ H4 => ∃ e3 e4, LU G H3 b w p (qD u d tb i) e3 e4 σ H4) rfl (by rw [kl, hA.len]) ⟨_, _, [], rfl, sG, fun _ _ _ z => z, jR, agC, fun q => ⟨fun z => (nomatch z), fun ⟨r, hr, _⟩ => by simp at hr⟩⟩ ?_ ?_ ?_
   ·rintro i σ H4 _ ⟨e3, e4, ks, _, s4, _⟩
    exact s4 _ _ wG
   ·rintro i v σ H4 hv ⟨e3, e4, ks, rfl, s4, sb, ip, c8, i3⟩
    obtain ⟨s0, uC, ka, rfl, ja⟩ := PT.get hv
    rw [adn] at uC
    obtain ⟨r, hr, rfl⟩ := adH.mp uC
    have m8 := acZ hr
    walk_at "gzn"
    refine ⟨o, kvs, s4 _ _ wG, fun acz => Ju (xs := fP o) (fun j σ H5 => ∃ e4, LU G H3 b w p (fun q => qD u d tb i q ∨ qE u d tb r j q) (some (.ref ka)) e4 σ H5) rfl (by rw [kl, hA.len]) ⟨_, ks, rfl, s4, sb, ip, c8, fun q => ?_⟩ ?_ ?_ ?_⟩
    ·rw [i3 q]
     exact ⟨.inl, fun z => z.elim id fun ⟨s, hs, _⟩ => by simp at hs⟩
    ·rintro j σ H5 _ ⟨e4, ks, _, s5, _⟩
     exact s5 _ _ wG
    ·rintro j v σ H5 hv ⟨e4, ks, rfl, s5, qF, mX, uD, uE⟩
     obtain ⟨s0, uC, kb, rfl, hkb⟩ := PT.get hv
     rw [adn] at uC
     obtain ⟨ss, hss, rfl⟩ := adH.mp uC
     have sin := acZ hss
     have CK := qF ka _ (fun z => by rw [z, jR] at ja; cases ja) ja
     have CL := qF kb _ (fun z => by rw [z, jR] at hkb; cases hkb) hkb
     walk_at "gzn"
     refine ⟨b, w, ka, kb, e, t, u, d, m, f, o, kvs, tb, r, ss, rfl, s5.seq LZ, sh, s5 _ _ wG, LY.imp fun _ _ _ z => a8.same z s5, ai, m8, sin, CK, CL, ⟨_, rfl, bA (fun hc => ?_) fun hc => ?_⟩⟩
     ·have VH := LQ.mp hc
      walk_at "gzn"
      refine aP (az.of CK) (v := .int r.1.1) rfl (aP (az.of CL) (v := .int ss.1.1) rfl ⟨_, rfl, _, rfl, aP (az.of CK) (v := .int r.1.1) rfl (aP (az.of CL) (v := .int ss.1.1) rfl ⟨_, rfl, _, rfl, b7, fun kk BA => ?_⟩)⟩)
      have e1 : (if ss.1.1 < r.1.1 then ss.1.1 else r.1.1) = min r.1.1 ss.1.1 := by omega
      have e2 : (if ss.1.1 > r.1.1 then ss.1.1 else r.1.1) = max r.1.1 ss.1.1 := by omega
      rw [e1, e2]
      have up := av (o := .tup [.int (min r.1.1 ss.1.1), .int (max r.1.1 ss.1.1)]) BA
      have kp : upd H5 kk (.tup [.int (min r.1.1 ss.1.1), .int (max r.1.1 ss.1.1)]) kk = some (.tup [.int (min r.1.1 ss.1.1), .int (max r.1.1 ss.1.1)]) := aq
      have l6 := up _ _ mX
      generalize upd H5 kk (.tup [.int (min r.1.1 ss.1.1), .int (max r.1.1 ss.1.1)]) = H6 at up kp l6
      have kl5 := LX (fun _ => True) ks uD fun q hq => by
       rcases (uE q).mp hq with ⟨r', uq, s', oj, _, e⟩ | ⟨s', oj, _, e⟩
       ·exact ⟨r', aiA uq, s', oj, e⟩
       ·exact ⟨r, m8, s', aiA oj, e⟩
      refine ⟨_, fH.t (k := aL (min r.1.1 ss.1.1) (max r.1.1 ss.1.1)) l6 kp (adX (by rw [acI]; omega : _ <= 49) (by decide)), _, nc ks (min r.1.1 ss.1.1, max r.1.1 ss.1.1), rfl, lS lG (s5.trans up), fun b o hb h => by rw [aA hb]; exact up _ _ (qF b o hb h), ?_, VD uD, fun q => ?_⟩
      ·rw [aq]
       exact congrArg (fun z => some (HO.dT z)) (VE ks (min r.1.1 ss.1.1, max r.1.1 ss.1.1))
      ·rw [VC, uE q]
       dsimp only
       rw [LS hss]
       constructor
       ·rintro ((z | z) | z)
        ·exact .inl z
        ·exact .inr (.inl z)
        ·exact .inr (.inr ⟨VH, z⟩)
       ·rintro (z | z | ⟨_, z⟩)
        ·exact .inl (.inl z)
        ·exact .inl (.inr z)
        ·exact .inr z
     ·refine ⟨_, ks, rfl, s5, qF, mX, uD, fun q => ?_⟩
      rw [uE q]
      dsimp only
      rw [LS hss]
      constructor
      ·rintro (z | z)
       ·exact .inl z
       ·exact .inr (.inl z)
      ·rintro (z | z | ⟨z, _⟩)
       ·exact .inl z
       ·exact .inr z
       ·exact absurd (LQ.mpr z) hc
    ·rintro σ H5 ⟨e4, ks, rfl, s5, qF, mX, uD, uE⟩
     refine ⟨_, _, ks, rfl, s5, qF, mX, uD, fun q => ?_⟩
     rw [uE q, VF hr, show (fP o).length = tb.length from kl]
   ·rintro σ H4 ⟨e3, e4, ks, rfl, s4, sb, ip, c8, i3⟩
    have w4 := s4 _ _ wG
    refine ⟨w4, hN _ _ ⟨ks, e3, e4, rfl, L0 _ s4, by rw [aA wl]; exact ip, c8, fun q => ?_⟩⟩
    rw [i3 q, show (fP o).length = tb.length from kl]
    unfold qD ee
    rw [aeb]
  rintro σ H2 ⟨ks, e3, e4, rfl, s2, bR, c8, i3⟩
  have kl := LX (fun _ => True) ks c8 fun q hq => by
   obtain ⟨r, hr, s, hs, _, e⟩ := (i3 q).mp hq
   exact ⟨r, hr, s, hs, e⟩
  walk_at "gzn"
  refine ⟨_, bR, fun l ys hl ja => ?_⟩
  have P0 := LV ja
  have u5 := av (o := .lst ys) hl
  refine ⟨ys, ag.of aq, gC ks, Cr (P0.imp fun _ _ r => aX.same r u5), by have := P0.len; omega, fun l2 bR => ?_⟩
  have u6 := av (o := .lst (bL (gC ks) V.non ys)) bR
  exact q l2 _ ks _ (s2.trans (u5.trans u6)) ((s2.trans u5).free bR) aq c8 i3 (ak.sort (P0.imp fun _ _ r => aX.same r (u5.trans u6)))
end
section
seal L2.PE L2.PS L2.bq L2.PA
variable {P : ac2} {w : adw} {K : acB} {mg : Str -> Option acC} {base : aer}
noncomputable def dm (H0 H : Hp) (v : V) (s : List Int) : Prop := ∃ l, v = .ref l /\ H0 l = none /\ H l = some (.lst (s.map V.int))
theorem dm.same {H0 H H' : Hp} {v : V} {s : List Int} (h : dm H0 H v s) (u : aj H H') : dm H0 H' v s := let ⟨l, e, f, a⟩ := h; ⟨l, e, f, u _ _ a⟩
theorem dm.is {H0 H : Hp} {v : V} {s : List Int} (h : dm H0 H v s) : di H v s := let ⟨l, e, f, a⟩ := h; ⟨l, e, a⟩
noncomputable def L4 (K : acB) : Sp := fun vs H Q _ => ∃ n : Nat, vs = [.int n] /\ n <= 7 /\ ∀ l ys H', aj H H' -> H' l = some (.lst ys) -> ak (dm H H') ys (bH n) -> Q (.ref l) H'
noncomputable def L5 (H : Hp) (n i : Nat) (σ : St) (H1 : Hp) : Prop := ∃ (l : acJ) (ys : List V) (e : Option V), σ = [some (.int n), some (.ref l), e] /\ aj H H1 /\ H1 l = some (.lst ys) /\ ak (dm H H1) ys (bH i)
theorem VI (T : Tx K mg) : aK P w K mg base (aJ P w) 1 T.ki T.xR ["eyes"] (L4 K) := by
 refine okN T.qc xg (fun vs H Q E h => ?_) (fun aF A outer s H vs Q E hr h => ?_)
 ·obtain ⟨n, rfl, _⟩ := h
  rfl
 ·obtain ⟨n, rfl, hn, q⟩ := h
  refine ⟨_, (ao (aG (i := 1) xg.nd rfl (adi rfl) (dU (aa (dU ah) ah)))
  (ao (cu adu rfl (gO rfl T.fh (aa (pv 0) ah)) (bb (i := 2) xg.nd rfl (aiV rfl)) (ar (aG (i := 1) xg.nd rfl (adi rfl) (aC rQ (pv 1) (dY (cE.mk (fr := [2]) (ys := ["eye"]) rfl (by decide +kernel) rfl (by decide +kernel) rfl rfl (.cons rfl .nil) (.cons rfl rfl rfl rfl .nil) (by decide) rfl) rfl (b5 (pv 1)) (fun C s2 H2 ex pn => ⟨dX, (aC rQ (pv 0) (dU (aa (pv 1) ah)))⟩))))))
  (ar (aI (pv 1))))), ?_⟩
  walk_at "gzn"
  refine ⟨adf _, fun p hp => ⟨by decide, fun r bQ => ⟨by omega, by omega, ?_⟩⟩⟩
  have u1 := av (o := .lst []) hp
  have u2 := av (o := .lst [.ref p]) bQ
  rw [adx]
  refine lR (L5 H n) ⟨r, _, _, rfl, u1.trans u2, aq, ⟨⟨p, rfl, hp, u2 _ _ aq⟩, trivial⟩⟩ ?_ ?_
  ·rintro i σ H1 hi ⟨l, ys, e, rfl, s1, hl, hy⟩
   have yl := hy.len
   rw [ml] at yl
   have p2 : 2 ^ i <= 2 ^ 7 := afR (by decide) (by omega)
   walk_at "gzn"
   refine ⟨⟨_, ag.of hl⟩, cZ eV (acV (by omega : ys.length <= 128) (by decide)) (d6 (R := dm H) (R' := dm H) (f := fun s => s ++ [((i : Nat) : Int)]) (fun _ _ _ _ s' h => h.same s') (fun _ _ _ _ s' h => h.same s') hy (bs := []) trivial (fun H' s' => ag.of (s' _ _ hl)) (fun x s _ H2 s2 r Q h => ?_) (fun x s hs H2 s2 r Q h => ?_) fun H2 zs s2 hz => ?_)⟩
   ·walk_at "gzn"
    exact h
   ·obtain ⟨a, rfl, fa, ha⟩ := r
    have sl := mq i s hs
    walk_at "gzn"
    refine ⟨by decide, fun b hb => ⟨_, (av hb) _ _ ha, _, aq, acV (by rw [acI]; show s.length + 1 <= 20; omega) (by decide), fun c hc => h _ _ ((av hb).trans (av hc)) ⟨c, rfl, ((s1.trans s2).trans (av hb)).free hc, ?_⟩⟩⟩
    rw [aq, aeH, show (0 : Int) + (i : Int) = ((i : Nat) : Int) by omega]
    rfl
   ·rw [adq] at hz
    intro d hd
    have ud := av (o := .lst zs) hd
    have zl := hz.len
    rw [acI, ml] at zl
    refine ⟨d, rfl, ys, (s2.trans ud) _ _ hl, zs, aq, acV (by omega : ys.length + zs.length <= 256) (by decide), fun c hc => ?_⟩
    have uc := av (o := .lst (ys ++ zs)) hc
    exact ⟨c, _, _, rfl, s1.trans (s2.trans (ud.trans uc)), aq, (hy.imp fun _ _ r => r.same (s2.trans (ud.trans uc))).app (hz.imp fun _ _ r => r.same (ud.trans uc))⟩
  ·rintro σ H1 ⟨l, ys, e, rfl, s1, hl, hy⟩
   walk_at "gzn"
   exact q l ys H1 s1 hl hy
end
section
seal L2.PE L2.PS L2.bq L2.PA
variable {P : ac2} {w : adw} {K : acB} {mg : Str -> Option acC} {base : aer}
theorem VJ {K : acB} {H1 H' : Hp} {l : acJ} {ys : List V} {rs : List P2} (hl : ag K H1 l ys) (hM : ak (aX H1) ys rs) (s : aj H1 H') : jM K l ys (rowOf H1) 2 H' := by
 refine ⟨s.seq hl, fun x hx => ?_⟩
 obtain ⟨i, hi⟩ := afJ.mp hx
 obtain ⟨m, _, t, rfl, h1⟩ := hM.get hi
 rw [iU h1]
 exact ⟨t, rfl, az.of (s _ _ h1), rfl⟩
theorem qG : ∀ {ws : List V} {bs : List Bool}, ak (fun v b => v = V.bl b) ws bs -> ws = bs.map V.bl
 | [], [], _ => rfl
 | _ :: _, _ :: _, h => by rw [h.1, qG h.2]; rfl
 | [], _ :: _, h => h.elim
 | _ :: _, [], h => h.elim
noncomputable def VL (K : acB) : Sp := fun vs H Q _ => ∃ (a b : acJ) (ys : List V) (ps : List P2) (s : List Int), vs = [.ref a, .ref b] /\ ag K H a ys /\ ak (aX H) ys ps /\ ps.length <= 64 /\ ag K H b (s.map V.int) /\ ∀ H', aj H H' -> Q (.bl (cp ps s)) H'
theorem L6 (T : Tx K mg) : aK P w K mg base (aJ P w) 1 T.kj T.xT ["pairs", "some"] (VL K) := by
 refine okN T.mG Te (fun vs H Q E h => ?_) (fun aF A outer s H vs Q E hr h => ?_)
 ·obtain ⟨a, b, ys, ps, s, rfl, _⟩ := h
  rfl
 ·obtain ⟨a, b, ys, ps, s, rfl, ha, hP, hn, hb, q⟩ := h
  refine ⟨_, (ar (aI (bC (PM rfl) (by rfl) T.K7 OQ (aa (IA (g := gM K 2 (ck (bM 0) (ck (bM 1) gL))) (l5.mk (own := ["one", "other"]) (fr := [1]) (ys := ["some"]) rfl (by decide +kernel) rfl (by decide +kernel) rfl (.cons rfl .nil) (.cons rfl rfl rfl rfl .nil) rfl) rfl (b5 (pv 0)) (fun C s2 H2 ex pn => iD (n := 2) rfl (cP (bb (i := 0) (show (["one", "other", "some"] : List Str).Nodup by decide) rfl (.inl (ado rfl)) (.inr (ado rfl))) (cP (bb (i := 1) (show (["one", "other", "some"] : List Str).Nodup by decide) rfl (.inl (ado rfl)) (.inr (ado rfl))) iC))) (fun C s2 H2 ex pn => ⟨dX, (Nr (iG (Ib (K := K) rfl) (pv 0) (pv 2) (by with_unfolding_all rfl)) (nv (iG (Ib (K := K) rfl) (pv 1) (pv 2) (by with_unfolding_all rfl))))⟩)) ah)))), ?_⟩
  have yl := hP.len
  walk_at "gzn"
  refine ⟨⟨_, ha⟩, Jp (row := rowOf H) (acV (by omega : ys.length <= 64) (by decide)) (d6 (R := fun _ x (r : P2) => aX H x r) (R' := fun _ v (b : Bool) => v = V.bl b) (f := fun p => s.contains p.1 || s.contains p.2) (fun _ _ _ _ _ h => h) (fun _ _ _ _ _ h => h) hP (bs := []) trivial (fun H' s' => VJ ha hP s') (fun v k _ H2 s2 h1 Q h => ?_) (fun v k _ H2 s2 h1 Q h => ?_) fun H2 zs s2 hz => ?_)⟩
  ·obtain ⟨ta, rfl, h1⟩ := h1
   unfold fN
   dsimp only
   rw [iU h1]
   walk_at "gzn"
   exact h
  ·obtain ⟨ta, rfl, h1⟩ := h1
   unfold fO
   dsimp only
   rw [iU h1]
   walk_at "gzn"
   refine ⟨b, _, rfl, .inl (s2.seq hb), rfl, tm s, ⟨_, rfl, ?_⟩⟩
   rw [if_neg (show ¬ false = true by decide), oy]
   cases hc : s.contains k.1 with
   | true =>
    rw [if_pos rfl]
    exact h _ _ (aj.refl _) (by rw [hc]; rfl)
   | false =>
    rw [if_neg (by decide)]
    refine ⟨b, _, rfl, .inl (s2.seq hb), rfl, tm s, ?_⟩
    rw [if_neg (show ¬ false = true by decide), oy]
    exact h _ _ (aj.refl _) (by rw [hc, akr])
  rw [adq] at hz
  intro l hl
  refine ⟨l, rfl, ps.map fun p => s.contains p.1 || s.contains p.2, ag.of (by rw [aq, qG hz]), ?_⟩
  rw [ajs]
  exact q _ (s2.trans (av hl))
end
section
seal L2.PE L2.PS L2.bq L2.PA
variable {P : ac2} {w : adw} {K : acB} {mg : Str -> Option acC} {base : aer}
theorem CM : ∀ {ws : List V} {bs : List Int}, ak (fun v b => v = V.int b) ws bs -> ws = bs.map V.int
 | [], [], _ => rfl
 | _ :: _, _ :: _, h => by rw [h.1, CM h.2]; rfl
 | [], _ :: _, h => h.elim
 | _ :: _, [], h => h.elim
theorem uF : ∀ (s : List Int), ak (fun v x => v = V.int x) (s.map V.int) s
 | [] => trivial
 | _ :: s => ⟨rfl, uF s⟩
noncomputable def VM (K : acB) : Sp := fun vs H Q _ => ∃ (a b : acJ) (ys : List V) (ps : List P2) (s : List Int), vs = [.ref a, .ref b] /\ ag K H a ys /\ ak (aX H) ys ps /\ ps.length <= 64 /\ ag K H b (s.map V.int) /\ s.length <= 64 /\ ∀ H', aj H H' -> Q (.bl (jT ps s)) H'
theorem VN (T : Tx K mg) : aK P w K mg base (aJ P w) 2 T.ko T.xU ["pairs", "some"] (VM K) := by
 refine okN T.qd Tf (fun vs H Q E h => ?_) (fun aF A outer s H vs Q E hr h => ?_)
 ·obtain ⟨a, b, ys, ps, s, rfl, _⟩ := h
  rfl
 ·obtain ⟨a, b, ys, ps, s, rfl, ha, hP, hn, hb, hs, q⟩ := h
  refine ⟨_, (ar (aI (GI (bC (PN rfl) (by rfl) T.K8 OP (aa (Jz (mr.mk (fr := [0, 1]) (ys := ["pairs", "some"]) rfl (fun _ _ => rfl) (fun _ => rfl) rfl (by decide +kernel) rfl rfl (.cons rfl (.cons rfl .nil)) (.cons rfl rfl rfl rfl (.cons rfl rfl rfl rfl .nil)) (by decide) rfl) rfl (b5 (pv 1)) (fun C s2 H2 ex pn => ⟨dX, (aE (L6 T) (hr.mono (by decide)) rfl T.B8 T.mG.kp T.tS .nil aD (aa (pv 1) (aa (dY (cE.mk (fr := [0]) (ys := ["spared"]) rfl (by decide +kernel) rfl (by decide +kernel) rfl rfl (.cons rfl .nil) (.cons rfl rfl rfl rfl .nil) (by decide) rfl) rfl (Jx (K := K) rfl (pv 2)) (fun C s2 H2 ex pn => ⟨(jw (ba GW (pv 0) (pv 1) (a9 _))), (pv 0)⟩)) ah)))⟩)) ah))))), ?_⟩
  have yl := hP.len
  walk_at "gzn"
  refine ⟨⟨_, hb⟩, cZ eV (acV (by rw [acI]; omega : _ <= 64) (by decide)) (d6 (R := fun _ v (x : Int) => v = V.int x) (R' := fun _ v (b : Bool) => v = V.bl b) (f := fun x => cp ps (s.filter fun y => decide (y ≠ x))) (fun _ _ _ _ _ h => h) (fun _ _ _ _ _ h => h) (as := s) (uF s) (bs := []) trivial (fun H' s' => s'.seq hb) (fun v k _ H2 s2 h1 Q h => ?_) (fun v k _ H2 s2 h1 Q h => ?_) fun H2 zs s2 hz => ?_)⟩
  ·walk_at "gzn"
   exact h
  ·subst h1
   walk_at "gzn"
   refine ⟨⟨_, s2.seq hb⟩, cZ eV (acV (by rw [acI]; omega : _ <= 64) (by decide)) (tj (R := fun _ v (x : Int) => v = V.int x) (R' := fun _ v (x : Int) => v = V.int x) (p := fun y => decide (y ≠ k)) (f := fun y => y) (fun _ _ _ _ _ h => h) (fun _ _ _ _ _ h => h) (as := s) (uF s) (bs := []) trivial (fun H' s' => (s2.trans s').seq hb) (fun v y _ H3 s3 h1 Q h => ?_) (fun v y _ hp H3 s3 h1 Q h => ?_) fun H3 zs s3 hz => ?_)⟩
   ·subst h1
    walk_at "gzn"
    exact cast (congrArg (fun b => Q b H3) decide_not) h
   ·subst h1
    walk_at "gzn"
    exact h _ _ (aj.refl _) rfl
   rw [adq, agM] at hz
   intro l hl
   have S3 := s2.trans (s3.trans (av (o := .lst zs) hl))
   exact ⟨a, l, ys, ps, _, rfl, S3.seq ha, hP.imp fun _ _ r => aX.same r S3, hn, ag.of (by rw [aq, CM hz]), fun H4 s4 => h _ _ ((s3.trans (av hl)).trans s4) rfl⟩
  rw [adq] at hz
  intro l hl
  refine ⟨l, rfl, s.map fun x => cp ps (s.filter fun y => decide (y ≠ x)), ag.of (by rw [aq, qG hz]), ?_⟩
  rw [List.any_map]
  exact q _ (s2.trans (av hl))
end
section
seal L2.PE L2.PS L2.bq L2.PA
variable {P : ac2} {w : adw} {K : acB} {mg : Str -> Option acC} {base : aer}
theorem CN {e t u d : Int} {tb : Tb} (ai : bT e t tb) (h7 : e <= 7) {ks : List P2} (hn : ks.Nodup) (hm : ∀ p, p ∈ ks ↔ ee u d tb p) : (bV ks).length <= 49 := by
 unfold bV
 rw [sk]
 refine tN ks CJ hn fun x hx => ?_
 obtain ⟨r, hr, s, hs, _, rfl⟩ := (hm x).mp hx
 obtain ⟨⟨_, _⟩, _, _⟩ := ai.2 r hr
 obtain ⟨⟨_, _⟩, _, _⟩ := ai.2 s hs
 refine LR ⟨?_, ?_⟩ ⟨?_, ?_⟩
 ·show 0 <= min r.1.1 s.1.1; omega
 ·show min r.1.1 s.1.1 < 7; omega
 ·show 0 <= max r.1.1 s.1.1; omega
 ·show max r.1.1 s.1.1 < 7; omega
noncomputable def cf (ss : List (List Int)) : List (List Int) := bL ss [] ss
noncomputable def L7 (K : acB) (B : acJ) : Sp := fun vs H Q _ => ∃ (x p : acJ) (e t u d m : Int) (tb : Tb), vs = [.ref x] /\ dk B H x e t u d m p tb /\ bT e t tb /\ tb.length < 64 /\ 0 <= e /\ e <= 7 /\ 1 <= t /\ t <= 12 /\ 0 <= u /\ 0 <= d /\ ∀ l ys ks H', aj H H' -> H l = none -> H' l = some (.lst ys) -> ks.Nodup -> (∀ p, p ∈ ks ↔ ee u d tb p) -> ak (dm H H') ys (cf (bw e.toNat m (bV ks))) -> Q (.ref l) H'
theorem ze (T : Tx K mg) : aK P w K mg base (aJ P w) 6 T.kr T.xW ["board"] (L7 K T.aH) := by
 refine okN T.i5 BZ (fun vs H Q E h => ?_) (fun aF A outer s H vs Q E hr h => ?_)
 ·obtain ⟨x, p, e, t, u, d, m, tb, rfl, _⟩ := h
  rfl
 ·obtain ⟨x, p, e, t, u, d, m, tb, rfl, hb, ai, b9, e0, e7, t1, Cs, u0, d0, q⟩ := h
  refine ⟨_, (ao (aG (i := 1) BZ.nd rfl (aiV rfl) (aE (UK T) (hr.mono (by decide)) rfl T.KP T.qb.kp T.xQ .nil aD (aa (pv 0) ah)))
  (ao (AY (i := 2) (cE.mk (fr := [0]) (ys := ["board"]) rfl (by decide +kernel) rfl (by decide +kernel) rfl rfl (.cons rfl .nil) (.cons rfl rfl rfl rfl .nil) (by decide) rfl) rfl BZ.nd rfl rfl (b5 (aE (VI T) (hr.mono (by decide)) rfl T.KQ T.qc.kp T.xS .nil aD (aa (fB (pv 0) rfl) ah))) (fun C s2 H2 ex pn => ⟨(jw (ba gd (bC (Pp (K := K) rfl) (by rfl) T.eg eQ (aa (pv 0) ah)) (Jd (K := K) (pv 1) rfl) (a9 _))), (pv 0)⟩))
  (ar (aI (bC (SO hr.units) (by rfl) T.qu rZ (aa (dY (cE.mk (fr := [1]) (ys := ["pairs"]) rfl (by decide +kernel) rfl (by decide +kernel) rfl rfl (.cons rfl .nil) (.cons rfl rfl rfl rfl .nil) (by decide) rfl) rfl (b5 (pv 2)) (fun C s2 H2 ex pn => ⟨(jw (PW.pt (iB (de (aE (L6 T) (hr.mono (by decide)) rfl T.B8 T.mG.kp T.tS .nil aD (aa (pv 1) (aa (pv 0) ah)))) (jg (de (aE (VN T) (hr.mono (by decide)) rfl T.KR T.qd.kp T.xV .nil aD (aa (pv 1) (aa (pv 0) ah)))))))), (pv 0)⟩)) ah)))))), ?_⟩
  obtain ⟨⟨dx, hx⟩, htb⟩ := id hb
  walk_at "gzn"
  refine ⟨x, p, e, t, u, d, m, tb, rfl, hb, ai, b9, e0, e7, t1, Cs, u0, d0, fun pl py ks H1 s1 _ cX kn km kp => ?_⟩
  walk_at "gzn"
  have VO := CN ai e7 kn km
  refine ⟨_, _, _, s1 _ _ hx, T.bB, T.i6, _, rfl, e.toNat, by rw [ad7 e0], by omega, fun cl cy H2 s2 cN qH => ?_⟩
  have S2 := s1.trans s2
  have qH : ak (dm H H2) cy (bH e.toNat) := qH.imp fun _ _ r => let ⟨l, a, f, b⟩ := r; ⟨l, a, s1.free f, b⟩
  have VP := qH.len
  rw [ml] at VP
  have p2 : 2 ^ e.toNat <= 2 ^ 7 := afR (by decide) (by omega)
  refine ⟨cl, rfl, ⟨_, ag.of cN⟩, cZ eV (acV (by omega : cy.length <= 128) (by decide)) (A6 (R := dm H) (p := fun s => decide ((s.length : Int) <= m)) (fun _ _ _ _ s' h => h.same s') qH (fun H' s' => ag.of (s' _ _ cN)) (fun v k _ H3 s3 h1 Q h => ?_) (fun v H3 s3 Q h => ?_) fun H3 zs s3 hz => ?_)⟩
  ·obtain ⟨l, rfl, fl, hl⟩ := h1
   walk_at "gzn"
   refine ⟨_, fJ (ag.of hl), _, _, _, (S2.trans s3) _ _ hx, T.bB, T.mQ, _, rfl, _, rfl, ?_⟩
   rw [acI]
   exact h _ (aj.refl _)
  ·walk_at "gzn"
   exact h
  rw [adq]
  intro fl mZ
  have u4 := av (o := .lst zs) mZ
  have S4 := S2.trans (s3.trans u4)
  have mW := hz.imp fun _ _ r => r.same u4
  have f4 : upd H3 fl (.lst zs) fl = some (.lst zs) := aq
  have CO := (s2.trans (s3.trans u4)) _ _ cX
  have CP := kp.imp fun _ _ r => aX.same r (s2.trans (s3.trans u4))
  generalize upd H3 fl (.lst zs) = H4 at S4 mW f4 CO CP u4
  have zl := mW.len
  have VQ := ad5 (fun s : List Int => decide ((s.length : Int) <= m)) (bH e.toNat)
  rw [ml] at VQ
  refine ⟨fl, rfl, ⟨_, ag.of f4⟩, cZ eV (acV (by omega : zs.length <= 128) (by decide)) (A6 (R := dm H) (p := fun s => cp (bV ks) s && jT (bV ks) s) (fun _ _ _ _ s' h => h.same s') mW (fun H' s' => ag.of (s' _ _ f4)) (fun v k hk H5 s5 h1 Q h => ?_) (fun v H5 s5 Q h => ?_) fun H5 ws s5 hw => ?_)⟩
  ·obtain ⟨l, rfl, AM, hl⟩ := h1
   have kle := mq e.toNat k (adp.mp hk).1
   walk_at "gzn"
   refine ⟨pl, l, py, bV ks, k, rfl, ag.of (s5 _ _ CO), CP.imp fun _ _ r => aX.same r s5, by omega, ag.of hl, fun H6 s6 => ⟨_, rfl, bA (fun fg => ?_) fun fg => ?_⟩⟩
   ·refine ⟨pl, l, py, bV ks, k, rfl, ag.of ((s5.trans s6) _ _ CO), CP.imp fun _ _ r => aX.same r (s5.trans s6), by omega, ag.of (s6 _ _ hl), by omega, fun H7 s7 => ⟨_, rfl, ?_⟩⟩
    have := h H7 (s6.trans s7)
    rw [fg, ahM] at this
    exact this
   ·have := h H6 s6
    rw [show cp (bV ks) k = false by simpa using fg, ahe] at this
    exact this
  ·walk_at "gzn"
   exact h
  rw [adq]
  intro sl nV
  have u6 := av (o := .lst ws) nV
  have wl := hw.len
  have few := BV (e := e.toNat) (by omega) m (bV ks)
  have k8 := hw.imp fun _ _ r => r.same u6
  refine ⟨sl, ws, bw e.toNat m (bV ks), rfl, ag.of aq, k8.imp fun _ _ r => r.is, ?_, fun l hl => ?_⟩
  ·rw [wl]
   exact adX few (by decide)
  ·have u7 := av (o := .lst (bL (bw e.toNat m (bV ks)) V.non ws)) hl
   exact q l _ ks _ (S4.trans (s5.trans (u6.trans u7))) ((S4.trans (s5.trans u6)).free hl) aq kn km (ak.sort (k8.imp fun _ _ r => r.same u7))
end
section
seal L2.PE L2.PS L2.bq L2.PA
variable {P : ac2} {w : adw} {K : acB} {mg : Str -> Option acC} {base : aer}
noncomputable def VR (K : acB) : Sp := fun vs H Q _ => ∃ (a b : acJ) (ys : List V) (ps : List P2) (s : List Int), vs = [.ref b, .ref a] /\ ag K H a ys /\ ak (aX H) ys ps /\ ag K H b (s.map V.int) /\ Q (.bl (cp ps s)) H
theorem VS {ps : List P2} {s : List Int} {i : Nat} {p : P2} (h : ps[i]? = some p) : cp (ps.take (i + 1)) s = (cp (ps.take i) s && (s.contains p.1 || s.contains p.2)) := by
 unfold cp
 rw [aea, h, aj6]
 simp
theorem VT {ps : List P2} {s : List Int} {p : P2} (hp : p ∈ ps) (h : (s.contains p.1 || s.contains p.2) = false) : cp ps s = false := by
 unfold cp
 rw [ajn]
 exact ⟨p, hp, by rw [h]; decide⟩
theorem CQ (T : Tx K mg) : aK P w K mg base (aJ P w) 1 T.kT T.yF ["_law_some", "_law_pairs_here"] (VR K) := by
 refine okN T.kU B4 (fun vs H Q E h => ?_) (fun aF A outer s H vs Q E hr h => ?_)
 ·obtain ⟨a, b, ys, ps, s, rfl, _⟩ := h
  rfl
 ·obtain ⟨a, b, ys, ps, s, rfl, ha, hP, hb, q⟩ := h
  refine ⟨_, (ao (cu adu rfl (b5 (pv 1)) (iD rfl (cP (bb (i := 2) B4.nd rfl (adi rfl)) (cP (bb (i := 3) B4.nd rfl (adi rfl)) iC))) (ar (aY (PW.pt (iB (ba vh (pv 2) (pv 0) (by with_unfolding_all rfl)) (jg (ba vh (pv 3) (pv 0) (by with_unfolding_all rfl))))) (ar (aI cg)) a7)))
  (ar (aI cg))), ?_⟩
  have yl := hP.len
  walk_at "gzn"
  refine ⟨⟨_, ha⟩, gX (xs := ys) (fun i σ H1 => ∃ (e1 e2 : Option V), σ = [some (.ref b), some (.ref a), e1, e2] /\ H1 = H /\ cp (ps.take i) s = true) ⟨_, _, rfl, rfl, rfl⟩ ?_ ?_ ?_⟩
  ·rintro i σ H1 _ ⟨_, _, _, rfl, _⟩
   exact ha
  ·rintro i v σ H1 hv ⟨e1, e2, rfl, rfl, fg⟩
   obtain ⟨p, hp, t, rfl, ht⟩ := hP.get hv
   refine lZ (az.of ht) ?_
   walk_at "gzn"
   refine ⟨b, _, rfl, .inl hb, rfl, tm s, ⟨_, rfl, ?_⟩⟩
   rw [if_pos rfl, oy]
   have snoc := VS (s := s) hp
   have pin := acZ hp
   cases h1 : s.contains p.1 with
   | true =>
    rw [if_neg (by decide)]
    exact ⟨rfl, by rw [snoc, fg, h1]; rfl⟩
   | false =>
    rw [if_pos (by decide)]
    refine ⟨b, _, rfl, .inl hb, rfl, tm s, ⟨_, rfl, ?_⟩⟩
    rw [if_pos rfl, oy]
    cases h2 : s.contains p.2 with
    | true =>
     rw [if_neg (by decide)]
     exact ⟨rfl, by rw [snoc, fg, h1, h2]; rfl⟩
    | false =>
     rw [if_pos (by decide)]
     rw [VT pin (by rw [h1, h2]; rfl)] at q
     exact q
  ·rintro σ H1 ⟨e1, e2, rfl, rfl, fg⟩
   walk_at "gzn"
   rw [yl, aeb] at fg
   rw [fg] at q
   exact q
noncomputable def ng (s t : List Int) : Bool := s.all fun x => t.contains x
noncomputable def VU (K : acB) : Sp := fun vs H Q _ => ∃ (a b : acJ) (s t : List Int), vs = [.ref a, .ref b] /\ ag K H a (s.map V.int) /\ ag K H b (t.map V.int) /\ Q (.bl (ng s t)) H
theorem VV (T : Tx K mg) : aK P w K mg base (aJ P w) 1 T.kW T.yH ["_law_some", "_law_more"] (VU K) := by
 refine okN T.qq Kw (fun vs H Q E h => ?_) (fun aF A outer s H vs Q E hr h => ?_)
 ·obtain ⟨a, b, s, t, rfl, _⟩ := h
  rfl
 ·obtain ⟨a, b, s, t, rfl, ha, hb, q⟩ := h
  refine ⟨_, (ao (cu adu rfl (b5 (pv 0)) (bb (i := 2) Kw.nd rfl (adi rfl)) (ar (aY (ba vh (pv 2) (pv 1) (by with_unfolding_all rfl)) (ar (aI cg)) a7)))
  (ar (aI cg))), ?_⟩
  walk_at "gzn"
  refine ⟨⟨_, ha⟩, gX (xs := s.map V.int) (fun i σ H1 => ∃ (e1 : Option V), σ = [some (.ref a), some (.ref b), e1] /\ H1 = H /\ ng (s.take i) t = true) ⟨_, rfl, rfl, rfl⟩ ?_ ?_ ?_⟩
  ·rintro i σ H1 _ ⟨_, _, rfl, _⟩
   exact ha
  ·rintro i v σ H1 hv ⟨e1, rfl, rfl, hwi⟩
   rw [adn] at hv
   obtain ⟨x, hx, rfl⟩ := adH.mp hv
   walk_at "gzn"
   refine ⟨b, _, rfl, .inl hb, rfl, tm t, ⟨_, rfl, ?_⟩⟩
   rw [if_pos rfl, oy]
   cases h1 : t.contains x with
   | true =>
    rw [if_neg (by decide)]
    refine ⟨rfl, ?_⟩
    unfold ng at *
    rw [aea, hx, aj6, hwi]
    simpa using h1
   | false =>
    rw [if_pos (by decide)]
    have : ng s t = false := by
     unfold ng
     rw [ajn]
     exact ⟨x, acZ hx, by rw [h1]; decide⟩
    rw [this] at q
    exact q
  ·rintro σ H1 ⟨e1, rfl, rfl, hwi⟩
   walk_at "gzn"
   rw [acI, aeb] at hwi
   rw [hwi] at q
   exact q
end
section
seal L2.PE L2.PS L2.bq L2.PA
variable {P : ac2} {w : adw} {K : acB} {mg : Str -> Option acC} {base : aer}
theorem VW (T : Tx K mg) : aK P w K mg base (aJ P w) 1 T.kX T.yJ ["_law_many"] (L4 K) := by
 refine okN T.qr xi (fun vs H Q E h => ?_) (fun aF A outer s H vs Q E hr h => ?_)
 ·obtain ⟨n, rfl, _⟩ := h
  rfl
 ·obtain ⟨n, rfl, hn, q⟩ := h
  refine ⟨_, (ao (aG (i := 1) xi.nd rfl (adi rfl) (dU (aa (dU ah) ah)))
  (ao (cu adu rfl (gO rfl T.fh (aa (pv 0) ah)) (bb (i := 2) xi.nd rfl (aiV rfl)) (ar (aG (i := 1) xi.nd rfl (adi rfl) (aC rQ (pv 1) (dY (cE.mk (fr := [2]) (ys := ["_law_eye"]) rfl (by decide +kernel) rfl (by decide +kernel) rfl rfl (.cons rfl .nil) (.cons rfl rfl rfl rfl .nil) (by decide) rfl) rfl (b5 (pv 1)) (fun C s2 H2 ex pn => ⟨dX, (aC rQ (pv 0) (dU (aa (pv 1) ah)))⟩))))))
  (ar (aI (pv 1))))), ?_⟩
  walk_at "gzn"
  refine ⟨adf _, fun p hp => ⟨by decide, fun r bQ => ⟨by omega, by omega, ?_⟩⟩⟩
  have u1 := av (o := .lst []) hp
  have u2 := av (o := .lst [.ref p]) bQ
  rw [adx]
  refine lR (L5 H n) ⟨r, _, _, rfl, u1.trans u2, aq, ⟨⟨p, rfl, hp, u2 _ _ aq⟩, trivial⟩⟩ ?_ ?_
  ·rintro i σ H1 hi ⟨l, ys, e, rfl, s1, hl, hy⟩
   have yl := hy.len
   rw [ml] at yl
   have p2 : 2 ^ i <= 2 ^ 7 := afR (by decide) (by omega)
   walk_at "gzn"
   refine ⟨⟨_, ag.of hl⟩, cZ eV (acV (by omega : ys.length <= 128) (by decide)) (d6 (R := dm H) (R' := dm H) (f := fun s => s ++ [((i : Nat) : Int)]) (fun _ _ _ _ s' h => h.same s') (fun _ _ _ _ s' h => h.same s') hy (bs := []) trivial (fun H' s' => ag.of (s' _ _ hl)) (fun x s _ H2 s2 r Q h => ?_) (fun x s hs H2 s2 r Q h => ?_) fun H2 zs s2 hz => ?_)⟩
   ·walk_at "gzn"
    exact h
   ·obtain ⟨a, rfl, fa, ha⟩ := r
    have sl := mq i s hs
    walk_at "gzn"
    refine ⟨by decide, fun b hb => ⟨_, (av hb) _ _ ha, _, aq, acV (by rw [acI]; show s.length + 1 <= 20; omega) (by decide), fun c hc => h _ _ ((av hb).trans (av hc)) ⟨c, rfl, ((s1.trans s2).trans (av hb)).free hc, ?_⟩⟩⟩
    rw [aq, aeH, show (0 : Int) + (i : Int) = ((i : Nat) : Int) by omega]
    rfl
   ·rw [adq] at hz
    intro d hd
    have ud := av (o := .lst zs) hd
    have zl := hz.len
    rw [acI, ml] at zl
    refine ⟨d, rfl, ys, (s2.trans ud) _ _ hl, zs, aq, acV (by omega : ys.length + zs.length <= 256) (by decide), fun c hc => ?_⟩
    have uc := av (o := .lst (ys ++ zs)) hc
    exact ⟨c, _, _, rfl, s1.trans (s2.trans (ud.trans uc)), aq, (hy.imp fun _ _ r => r.same (s2.trans (ud.trans uc))).app (hz.imp fun _ _ r => r.same (ud.trans uc))⟩
  ·rintro σ H1 ⟨l, ys, e, rfl, s1, hl, hy⟩
   walk_at "gzn"
   exact q l ys H1 s1 hl hy
noncomputable def VX (K : acB) : Sp := fun vs H Q _ => ∃ (a b : acJ) (e t u d m f : Int) (s : List Int), vs = [.ref a, .ref b] /\ H a = some (.lst (s.map V.int)) /\ ag K H b (fT e t u d m f) /\ s.Pairwise (· < ·) /\ (∀ x ∈ s, 0 <= x /\ x < e) /\ (s.length : Int) <= m /\ s.length <= 64 /\ Q (.bl true) H
theorem VY (T : Tx K mg) : aK P w K mg base (aJ P w) 2 T.kY T.yL ["_law_some", "_law_shape_here"] (VX K) := by
 refine okN T.qt Kx (fun vs H Q E h => ?_) (fun aF A outer s H vs Q E hr h => ?_)
 ·obtain ⟨a, b, e, t, u, d, m, f, s, rfl, _⟩ := h
  rfl
 ·obtain ⟨a, b, e, t, u, d, m, f, s, rfl, ha, hb, i0, cB, hm, b9, q⟩ := h
  refine ⟨_, (ao (aY (PW.pt (eG (eI (de (bC vz (by rfl) T.uj vy (aa (pv 0) (aa (uS (v := .ty "list") rfl T.mM nU rfl) ah))))) (gJ (ba gQ (bC fu (by rfl) T.eg eQ (aa (pv 0) ah)) (ax aB (pv 1) ae (fun _ _ => rfl)) (a9 _))))) (ar (aI cg)) a7)
  (ao (cu adu rfl (gO rfl T.fh (aa (bC fu (by rfl) T.eg eQ (aa (pv 0) ah)) ah)) (bb (i := 2) Kx.nd rfl (adi rfl)) (ao (aY (PW.pt (eG (eI (de (aE (TB T) (hr.mono (by decide)) rfl T.KZ T.qj.kp T.yt .nil aD (aa (ax aB (pv 0) (pv 2) (fun _ _ => rfl)) ah)))) (eG (ba lE (ax aB (pv 0) (pv 2) (fun _ _ => rfl)) ae (a9 _)) (gJ (ba NF (ax aB (pv 0) (pv 2) (fun _ _ => rfl)) (ax aB (pv 1) ae (fun _ _ => rfl)) (a9 _)))))) (ar (aI cg)) a7)
    (ar (aY (PW.pt (iB (ba gQ (pv 2) ae (a9 _)) (jg (ba gd (ax aB (pv 0) (pv 2) (fun _ _ => rfl)) (ax aB (pv 0) (aC eM (pv 2) ae) (fun _ _ => rfl)) (a9 _))))) (ar (aI cg)) a7))))
  (ar (aI cg)))), ?_⟩
  have at_ : ∀ (i : Nat) (h : i < s.length), (s.map V.int)[i]? = some (V.int s[i]) := fun i h => by rw [adn, acG h]; rfl
  refine aN (fun σ H1 => σ = [some (.ref a), some (.ref b), none] /\ H1 = H) (fun N hN => ?_) ?_
  ·walk_at "gzn"
   refine Hz ha ?_
   walk_at "gzn"
   refine ⟨_, fJ (ag.of ha), aW hb (v := .int m) rfl ⟨_, rfl, ?_⟩⟩
   rw [acI, if_neg (by omega)]
   exact hN _ _ ⟨rfl, rfl⟩
  rintro σ H1 ⟨rfl, rfl⟩
  refine aN (fun σ H2 => ∃ e1, σ = [some (.ref a), some (.ref b), e1] /\ H2 = H1) (fun N hN => ?_) ?_
  ·walk_at "gzn"
   refine ⟨_, fJ (ag.of ha), by rw [acI]; omega, by rw [acI]; omega, ?_⟩
   rw [acI, adx]
   refine lR (fun _ σ H2 => ∃ e1, σ = [some (.ref a), some (.ref b), e1] /\ H2 = H1) ⟨_, rfl, rfl⟩ ?_ (fun σ H3 h => hN _ _ h)
   rintro i σ H2 hi ⟨e1, rfl, rfl⟩
   have hx := cB s[i] (adZ hi)
   walk_at "gzn"
   rw [show (0 : Int) + (i : Int) = ((i : Nat) : Int) by omega]
   refine aW (ag.of ha) (dz (at_ i hi)) ⟨_, rfl, .inr ⟨_, rfl⟩, ⟨true, rfl, ?_⟩⟩
   rw [if_neg (by decide)]
   refine aW (ag.of ha) (dz (at_ i hi)) ⟨_, rfl, ?_⟩
   rw [if_neg (by omega)]
   refine aW (ag.of ha) (dz (at_ i hi)) (aW hb (v := .int e) rfl ⟨_, rfl, _, rfl, ?_⟩)
   rw [if_neg (by omega)]
   refine bA (fun hp => ?_) fun _ => ?_
   ·rw [show (i : Int) - 1 = ((i - 1 : Nat) : Int) by omega]
    have aT := ad1.mp i0 (i - 1) i (by omega) hi (by omega)
    refine aW (ag.of ha) (dz (at_ i hi)) (aW (ag.of ha) (dz (at_ (i - 1) (by omega))) ⟨_, rfl, _, rfl, ?_⟩)
    rw [if_neg (by omega)]
   ·rfl
  rintro σ H2 ⟨e1, rfl, rfl⟩
  walk_at "gzn"
  exact q
end
section
seal L2.PE L2.PS L2.bq L2.PA
variable {P : ac2} {w : adw} {K : acB} {mg : Str -> Option acC} {base : aer}
theorem CS (bs : List Bool) : (bs.map V.bl).all gU = true := by
 rw [ajs]
 exact adk.mpr fun _ _ => rfl
theorem zf (a : Bool) : ∀ (bs : List Bool), nN (.bl a) (bs.map V.bl) = bs.contains a
 | [] => rfl
 | b :: bs => by
  have ih := zf a bs
  unfold nN at *
  rw [ac7, aeN, ih, ahd]
  congr 1
  show (b == a) = (a == b)
  cases a <;> cases b <;> rfl
theorem zg {α : Type} (f : α -> Bool) : ∀ l : List α, (l.map f).contains true = l.any f
 | [] => rfl
 | x :: l => by
  rw [ac7, ahd, aeN, zg f l]
  congr 1
  cases f x <;> rfl
theorem L8 {e : Nat} {m : Int} {ps : List P2} {s : List Int} (h : s ∈ cf (bw e m ps)) : s ∈ bH e /\ (s.length : Int) <= m /\ cp ps s = true /\ jT ps s = true := by
 have h := ju.mem_iff.mp h
 obtain ⟨h1, h2⟩ := adp.mp h
 obtain ⟨h3, h4⟩ := adp.mp h1
 rw [aej] at h2
 exact ⟨h3, of_decide_eq_true h4, h2.1, h2.2⟩
theorem VZ {e : Nat} {m : Int} {ps : List P2} {k : Nat} {s t : List Int} (h1 : (cf (bw e m ps))[k]? = some s) (h2 : (cf (bw e m ps))[k + 1]? = some t) : HT.lexLt s t = true := by
 have hs : (cf (bw e m ps)).Pairwise (fun a b => HT.lexLt b a = false) := vU (f := fun s : List Int => s) (by rw [agM])
 have hn : (cf (bw e m ps)).Nodup := ju.nodup_iff.mpr ((xa e).sublist (aeB.trans aeB))
 obtain ⟨l1, e1⟩ := acX.mp h1
 obtain ⟨l2, e2⟩ := acX.mp h2
 have a1 := ad1.mp hs k (k + 1) l1 l2 (by omega)
 have a2 := ad1.mp hn k (k + 1) l1 l2 (by omega)
 rw [e1, e2] at a1 a2
 cases hc : HT.lexLt s t with
 | true => rfl
 | false => exact absurd (wI hc a1) a2
noncomputable def V0 (K : acB) : Sp := fun vs H Q _ => ∃ (l b p : acJ) (ys py : List V) (ps : List P2) (e t u d m f : Int), vs = [.ref l, .ref b, .ref p] /\ H l = some (.lst ys) /\ ak (di H) ys (cf (bw e.toNat m ps)) /\ ag K H b (fT e t u d m f) /\ ir e t u d m f /\ ag K H p py /\ ak (aX H) py ps /\ ps.length <= 64 /\ ∀ H', aj H H' -> Q (.bl true) H'
theorem L9 (T : Tx K mg) : aK P w K mg base (aJ P w) 3 T.kZ T.yN ["_law_found", "_law_shape_here", "_law_pairs_here"] (V0 K) := by
 refine okN T.mL B5 (fun vs H Q E h => ?_) (fun aF A outer s H vs Q E hr h => ?_)
 ·obtain ⟨l, b, p, ys, py, ps, e, t, u, d, m, f, rfl, _⟩ := h
  rfl
 ·obtain ⟨l, b, p, ys, py, ps, e, t, u, d, m, f, rfl, hl, hy, hb, sh, hp, hP, hn, q⟩ := h
  refine ⟨_, (ao (aY (eI (de (bC vz (by rfl) T.uj vy (aa (pv 0) (aa (uS (v := .ty "list") rfl T.mM nU rfl) ah))))) (ar (aI cg)) a7)
  (ao (cu adu rfl (b5 (pv 0)) (bb (i := 3) B5.nd rfl (aiV rfl)) (ao (aY (PW.pt (eG (eI (de (aE (VY T) (hr.mono (by decide)) rfl T.K6 T.qt.kp T.yM .nil aD (aa (pv 3) (aa (pv 1) ah))))) (gJ (eI (de (aE (CQ T) (hr.mono (by decide)) rfl T.yG T.kU.kp T.qp .nil aD (aa (pv 3) (aa (pv 2) ah)))))))) (ar (aI cg)) a7)
    (ar (aY (ba Aw cg (Jz (mr.mk (fr := [2, 3]) (ys := ["_law_pairs_here", "_law_some"]) rfl (fun _ _ => rfl) (fun _ => rfl) rfl (by decide +kernel) rfl rfl (.cons rfl (.cons rfl .nil)) (.cons rfl rfl rfl rfl (.cons rfl rfl rfl rfl .nil)) (by decide) rfl) rfl (b5 (pv 3)) (fun C s2 H2 ex pn => ⟨dX, (aE (CQ T) (hr.mono (by decide)) rfl T.yG T.kU.kp T.qp .nil aD (aa (dY (cE.mk (fr := [0]) (ys := ["_law_eye"]) rfl (by decide +kernel) rfl (by decide +kernel) rfl rfl (.cons rfl .nil) (.cons rfl rfl rfl rfl .nil) (by decide) rfl) rfl (Jx (K := K) rfl (pv 2)) (fun C s2 H2 ex pn => ⟨(jw (ba GW (pv 0) (pv 1) (a9 _))), (pv 0)⟩)) (aa (pv 1) ah)))⟩)) (by with_unfolding_all rfl)) (ar (aI cg)) a7))))
  (ao (aY (ba Aw cg (dY (cE.mk (fr := [0]) (ys := ["_law_found"]) rfl (by decide +kernel) rfl (by decide +kernel) rfl rfl (.cons rfl .nil) (.cons rfl rfl rfl rfl .nil) (by decide) rfl) rfl (Ny rfl T.fh (aa ae (aa (bC fu (by rfl) T.eg eQ (aa (pv 0) ah)) ah))) (fun C s2 H2 ex pn => ⟨dX, (iG (SR hr.units) (ax (eW (K := K) rfl) (pv 1) (pv 0) (fun _ _ => rfl)) (ax (eW (K := K) rfl) (pv 1) (aC eM (pv 0) ae) (fun _ _ => rfl)) (a9 _))⟩)) (by with_unfolding_all rfl)) (ar (aI cg)) a7)
  (ao (cu adu rfl (b5 (aE (VW T) (hr.mono (by decide)) rfl T.K5 T.qr.kp T.yK .nil aD (aa (ax aB (pv 1) ae (fun _ _ => rfl)) ah))) (bb (i := 4) B5.nd rfl (aiV rfl)) (ar (aY (PW.pt (iB (ba gd (bC fu (by rfl) T.eg eQ (aa (pv 4) ah)) (ax aB (pv 1) ae (fun _ _ => rfl)) (a9 _)) (jg (de (aE (CQ T) (hr.mono (by decide)) rfl T.yG T.kU.kp T.qp .nil aD (aa (pv 4) (aa (pv 2) ah))))))) (ar (aY (ba vh cg (dY (cE.mk (fr := [4]) (ys := ["_law_more"]) rfl (by decide +kernel) rfl (by decide +kernel) rfl rfl (.cons rfl .nil) (.cons rfl rfl rfl rfl .nil) (by decide) rfl) rfl (b5 (pv 0)) (fun C s2 H2 ex pn => ⟨dX, (aE (VV T) (hr.mono (by decide)) rfl T.K4 T.qq.kp T.yI .nil aD (aa (pv 0) (aa (pv 1) ah)))⟩)) (by with_unfolding_all rfl)) (ar (aI cg)) a7)) a7)))
  (ar (aI cg)))))), ?_⟩
  obtain ⟨he, ht, ⟨u1, u2⟩, ⟨d1, d2⟩, ⟨m1, m2⟩, hf⟩ := id sh
  refine aN (fun σ H1 => σ = [some (.ref l), some (.ref b), some (.ref p), none, none] /\ H1 = H) (fun N hN => ?_) ?_
  ·walk_at "gzn"
   refine Hz hl ?_
   walk_at "gzn"
   exact hN _ _ ⟨rfl, rfl⟩
  rintro σ H1 ⟨rfl, rfl⟩
  have few := BV (e := e.toNat) (by omega) m ps
  have sl : (cf (bw e.toNat m ps)).length <= 48 := by unfold cf; rw [sk]; exact few
  have yl := hy.len
  refine aN (fun σ H2 => ∃ e4, σ = [some (.ref l), some (.ref b), some (.ref p), e4, none] /\ aj H1 H2) (fun N hN => ?_) ?_
  ·walk_at "gzn"
   refine ⟨⟨_, ag.of hl⟩, gX (xs := ys) (fun _ σ H2 => ∃ e4, σ = [some (.ref l), some (.ref b), some (.ref p), e4, none] /\ aj H1 H2) ⟨_, rfl, aj.refl _⟩ ?_ ?_ (fun σ H' h => hN _ _ h)⟩
   ·rintro i σ H2 _ ⟨_, _, s2⟩
    exact s2.seq (ag.of hl)
   ·rintro i v σ H2 hv ⟨e4, rfl, s2⟩
    obtain ⟨s, hs, a, rfl, ha⟩ := hy.get hv
    obtain ⟨c1, c2, c3, c4⟩ := L8 (acZ hs)
    obtain ⟨r1, r2⟩ := fR c1
    have cl := mq _ _ c1
    have lb := s2 _ _ ha
    walk_at "gzn"
    refine ⟨a, b, e, t, u, d, m, f, s, rfl, lb, s2.seq hb, r1, fun x hx => ⟨(r2 x hx).1, by have := (r2 x hx).2; omega⟩, c2, by omega, ⟨true, rfl, ?_⟩⟩
    rw [if_neg (by decide)]
    refine ⟨p, a, py, ps, s, rfl, s2.seq hp, hP.imp fun _ _ r => aX.same r s2, ag.of lb, ⟨_, rfl, ?_⟩⟩
    rw [c3, if_neg (by decide)]
    walk_at "gzn"
    refine ⟨⟨_, ag.of lb⟩, cZ eV (acV (by rw [acI]; omega : _ <= 64) (by decide)) (d6 (R := fun _ v (x : Int) => v = V.int x) (R' := fun _ v (b : Bool) => v = V.bl b) (f := fun x => cp ps (s.filter fun y => decide (y ≠ x))) (fun _ _ _ _ _ h => h) (fun _ _ _ _ _ h => h) (as := s) (uF s) (bs := []) trivial (fun H' s' => ag.of (s' _ _ lb)) (fun v k _ H3 s3 h1 Q h => ?_) (fun v k _ H3 s3 h1 Q h => ?_) fun H3 zs s3 hz => ?_)⟩
    ·walk_at "gzn"
     exact h
    ·subst h1
     walk_at "gzn"
     refine ⟨⟨_, ag.of (s3 _ _ lb)⟩, cZ eV (acV (by rw [acI]; omega : _ <= 64) (by decide)) (tj (R := fun _ v (x : Int) => v = V.int x) (R' := fun _ v (x : Int) => v = V.int x) (p := fun y => decide (y ≠ k)) (f := fun y => y) (fun _ _ _ _ _ h => h) (fun _ _ _ _ _ h => h) (as := s) (uF s) (bs := []) trivial (fun H' s' => ag.of ((s3.trans s') _ _ lb)) (fun v y _ H4 s4 h1 Q h => ?_) (fun v y _ hp H4 s4 h1 Q h => ?_) fun H4 zs s4 hz => ?_)⟩
     ·subst h1
      walk_at "gzn"
      exact cast (congrArg (fun b => Q b H4) decide_not) h
     ·subst h1
      walk_at "gzn"
      exact h _ _ (aj.refl _) rfl
     rw [adq, agM] at hz
     intro l4 ip
     have S4 := s2.trans (s3.trans (s4.trans (av (o := .lst zs) ip)))
     exact ⟨p, l4, py, ps, _, rfl, S4.seq hp, hP.imp fun _ _ r => aX.same r S4, ag.of (by rw [aq, CM hz]), h _ _ (s4.trans (av ip)) rfl⟩
    rw [adq] at hz
    intro l3 cc
    refine ⟨l3, _, rfl, .inl (ag.of (by rw [aq, qG hz])), rfl, CS _, ⟨_, rfl, ?_⟩⟩
    rw [if_neg (show ¬ false = true by decide), zf, zg]
    have CT : (s.any fun x => cp ps (s.filter fun y => decide (y ≠ x))) = false := by
     unfold jT at c4
     simpa using c4
    rw [CT, if_neg (by decide)]
    exact s2.trans (s3.trans (av cc))
  rintro σ H2 ⟨e4, rfl, s2⟩
  refine aN (fun σ H3 => ∃ e4, σ = [some (.ref l), some (.ref b), some (.ref p), e4, none] /\ aj H2 H3) (fun N hN => ?_) ?_
  ·walk_at "gzn"
   refine ⟨_, fJ (s2.seq (ag.of hl)), by decide, by decide, by omega, by omega, cZ vX (by rw [acI, aeq]; exact acV (by omega : _ <= 64) (by decide)) (d6 (R := fun _ x (k : Nat) => x = V.int ((1 : Int) + k)) (R' := fun _ v (b : Bool) => v = V.bl b) (f := fun k => !HT.lexLt ((cf (bw e.toNat m ps)).getD k []) ((cf (bw e.toNat m ps)).getD (k + 1) [])) (fun _ _ _ _ _ h => h) (fun _ _ _ _ _ h => h) (ak.iy _) (bs := []) trivial (fun _ _ => trivial) (fun x k _ H3 s3 r Q h => ?_) (fun x k hk H3 s3 r Q h => ?_) fun H3 zs s3 hz => ?_)⟩
   ·walk_at "gzn"
    exact h
   ·subst r
    have gh := ady.mp hk
    have S3 := s2.trans s3
    obtain ⟨v1, w1, a1⟩ := hy.at (i := k) (acG (by omega))
    obtain ⟨v2, w2, a2⟩ := hy.at (i := k + 1) (acG (by omega))
    walk_at "gzn"
    rw [show (1 : Int) + (k : Int) - 1 = ((k : Nat) : Int) by omega, show (1 : Int) + (k : Int) = ((k + 1 : Nat) : Int) by omega]
    refine aW (S3.seq (ag.of hl)) (dz w2) (aW (S3.seq (ag.of hl)) (dz w1) ⟨_, _, a2.same S3, a1.same S3, h _ _ (aj.refl _) ?_⟩)
    rw [acH, acH, acG (by omega), acG (by omega)]
    rfl
   rw [adq] at hz
   intro l3 cc
   refine ⟨l3, _, rfl, .inl (ag.of (by rw [aq, qG hz])), rfl, CS _, ⟨_, rfl, ?_⟩⟩
   rw [if_neg (show ¬ false = true by decide), zf, zg]
   have CT : ((adh ((ys.length : Int) - 1).toNat).any fun k => !HT.lexLt ((cf (bw e.toNat m ps)).getD k []) ((cf (bw e.toNat m ps)).getD (k + 1) [])) = false := by
    rw [ahn]
    intro k hk
    have gh := ady.mp hk
    have h1 : (cf (bw e.toNat m ps))[k]? = some (cf (bw e.toNat m ps))[k] := acG (by omega)
    have h2 : (cf (bw e.toNat m ps))[k + 1]? = some (cf (bw e.toNat m ps))[k + 1] := acG (by omega)
    rw [acH, acH, h1, h2]
    simp [VZ h1 h2]
   rw [CT, if_neg (by decide)]
   exact hN _ _ ⟨_, rfl, s3.trans (av cc)⟩
  rintro σ H3 ⟨e5, rfl, s3⟩
  have S3 := s2.trans s3
  walk_at "gzn"
  refine aW (S3.seq hb) (v := .int e) rfl ⟨e.toNat, by rw [ad7 (by omega)], by omega, fun cl cy H4 s4 cN qH => ?_⟩
  refine ⟨cl, rfl, ⟨_, ag.of cN⟩, gX (xs := cy) (fun _ σ H5 => ∃ e4, σ = [some (.ref l), some (.ref b), some (.ref p), e5, e4] /\ aj H4 H5) ⟨_, rfl, aj.refl _⟩ ?_ ?_ ?_⟩
  ·rintro i σ H5 _ ⟨_, _, s5⟩
   exact s5.seq (ag.of cN)
  ·rintro i v σ H5 hv ⟨e4, rfl, s5⟩
   obtain ⟨s, hs, a, rfl, _, ha⟩ := qH.get hv
   have S5 := S3.trans (s4.trans s5)
   have sin := acZ hs
   have CU := s5 _ _ ha
   walk_at "gzn"
   refine ⟨_, fJ (ag.of CU), aW (S5.seq hb) (v := .int m) rfl ⟨_, rfl, bA (fun hm => ?_) fun _ => s5⟩⟩
   rw [acI] at hm
   refine ⟨p, a, py, ps, s, rfl, S5.seq hp, hP.imp fun _ _ r => aX.same r S5, ag.of CU, ⟨_, rfl, bA (fun fg => ?_) fun _ => s5⟩⟩
   refine ⟨⟨_, S5.seq (ag.of hl)⟩, cZ eV (acV (by omega : ys.length <= 64) (by decide)) (d6 (R := di) (R' := fun _ v (b : Bool) => v = V.bl b) (f := fun t => ng t s) (fun _ _ _ _ s' h => h.same s') (fun _ _ _ _ _ h => h) (hy.imp fun _ _ r => r.same S5) (bs := []) trivial (fun H' s' => (S5.trans s').seq (ag.of hl)) (fun x k _ H6 s6 r Q h => ?_) (fun x k _ H6 s6 r Q h => ?_) fun H6 zs s6 hz => ?_)⟩
   ·walk_at "gzn"
    exact h
   ·obtain ⟨tl, rfl, dG⟩ := r
    walk_at "gzn"
    exact ⟨tl, a, k, s, rfl, ag.of dG, ag.of (s6 _ _ CU), h _ _ (aj.refl _) rfl⟩
   rw [adq] at hz
   intro l6 ur
   refine ⟨l6, _, rfl, .inl (ag.of (by rw [aq, qG hz])), rfl, CS _, ⟨_, rfl, ?_⟩⟩
   rw [if_pos rfl, zf, zg]
   obtain ⟨t0, V1, h9⟩ := Ko (e := e.toNat) (m := m) (ps := ps) s.length (ac1 _) sin hm fg
   have V2 : ((cf (bw e.toNat m ps)).any fun t => ng t s) = true := ae9.mpr ⟨t0, ju.mem_iff.mpr V1, adk.mpr fun x hx => by simpa using h9 x hx⟩
   rw [V2, if_neg (by decide)]
   exact s5.trans (s6.trans (av ur))
  ·rintro σ H5 ⟨e4, rfl, s5⟩
   walk_at "gzn"
   exact q _ (S3.trans (s4.trans s5))
end
section
seal L2.PE L2.PS L2.bq L2.PA
variable {P : ac2} {w : adw} {K : acB} {mg : Str -> Option acC} {base : aer}
noncomputable def V3 (H8 : Hp) (al : acJ) (ay : List V) (i : Nat) (fV : Hp) : Prop := aj H8 fV /\ fV al = some (.lst ay) /\ ∀ (j : Nat) (v : V), ay[j]? = some v -> ∃ (l : acJ) (zs : List V), v = .ref l /\ H8 l = none /\ fV l = some (.lst zs) /\ zs.length <= 7 + i /\ l ≠ al
theorem CV (ss : List (List Int)) : Gd 2 (.list (ss.map fun s => PyData.list (s.map PyData.int))) := .lst fun d hd => by
 obtain ⟨r, _, rfl⟩ := acQ.mp hd
 refine .lst fun d hd => ?_
 obtain ⟨x, _, rfl⟩ := acQ.mp hd
 exact (Gd.int _).up (by decide)
theorem Ma {K : acB} {H : Hp} : ∀ (s : List Int), eX K H (s.map V.int) (s.map PyData.int)
 | [] => .nil
 | x :: s => .cons (.int x) (Ma s)
theorem nh {K : acB} {H : Hp} : ∀ {xs : List V} {ss : List (List Int)}, ak (di H) xs ss -> eX K H xs (ss.map fun s => PyData.list (s.map PyData.int))
 | [], [], _ => .nil
 | _ :: _, _ :: _, h => by
  obtain ⟨⟨l, rfl, hl⟩, t⟩ := h
  exact .cons (.lst (ag.of hl) (Ma _)) (nh t)
 | [], _ :: _, h => h.elim
 | _ :: _, [], h => h.elim
noncomputable def zh (K : acB) : Sp := fun vs H Q _ => ∃ (a : acJ) (ns : List Int), vs = [.ref a] /\ ag K H a (ns.map V.int) /\ eY ns /\ ∀ H', Q (.bl true) H'
theorem V4 (T : Tx K mg) : aK P w K mg base (aJ P w) 7 T.ij T.uh ["_law_script"] (zh K) := by
 refine okN T.ui ig (fun vs H Q E h => ?_) (fun aF A outer s H vs Q E hr h => ?_)
 ·obtain ⟨a, ns, rfl, _⟩ := h
  rfl
 ·obtain ⟨a, ns, rfl, hS, hn, q⟩ := h
  refine ⟨_, (ao (aG (i := 1) ig.nd rfl (adi rfl) (aE (U1 T) (hr.mono (by decide)) rfl T.KS T.qf.kp T.yi .nil aD (aa (pv 0) ah)))
  (ao (aG (i := 2) ig.nd rfl (adi rfl) (aE (U4 T) (hr.mono (by decide)) rfl T.KU T.qg.kp T.yk .nil aD (aa (pv 0) (aa (pv 1) ah))))
  (ao (aG (i := 3) ig.nd rfl (adi rfl) (aE (U9 T) (hr.mono (by decide)) rfl T.KW T.qh.kp T.yo .nil aD (aa (pv 0) (aa (pv 1) (aa (pv 2) ah)))))
  (ao (aG (i := 4) ig.nd rfl (adi rfl) (aE (Vf T) (hr.mono (by decide)) rfl T.KY T.qi.kp T.yq .nil aD (aa (pv 0) (aa (pv 1) (aa (pv 3) ah)))))
  (ao (aG (i := 5) ig.nd rfl (adi rfl) (aE (LW T) (hr.mono (by decide)) rfl T.Ca T.mK.kp T.uf .nil aD (aa (pv 1) (aa (pv 3) ah))))
  (ao (aG (i := 6) ig.nd rfl (adi rfl) (aE (ze T) (hr.mono (by decide)) rfl T.tT T.i5.kp T.mH .nil aD (aa (pv 4) ah)))
  (ao (aY (eI (de (aE (L9 T) (hr.mono (by decide)) rfl T.Cb T.mL.kp T.ug .nil aD (aa (pv 6) (aa (pv 1) (aa (pv 5) ah)))))) (ar (aI cg)) a7)
  (ao (AY (i := 7) (cE.mk (fr := []) (ys := []) rfl (by decide +kernel) rfl (by decide +kernel) rfl rfl .nil .nil (by decide) rfl) rfl ig.nd rfl rfl (b5 (pv 6)) (fun C s2 H2 ex pn => ⟨dX, (vc (Qb (K := K) rfl) (by rfl) T.mM nU (aa (pv 0) ah))⟩))
  (ao (aG (i := 8) ig.nd rfl (adi rfl) (aE (ze T) (hr.mono (by decide)) rfl T.tT T.i5.kp T.mH .nil aD (aa (pv 4) ah)))
  (ao (aY (ba (Ie hr.units) (pv 8) (pv 7) (a9 _)) (ar (aI cg)) a7)
  (ao (cu adu rfl (b5 (pv 8)) (bb (i := 9) ig.nd rfl (adi rfl)) (ar (eJ (AA afz agc agd AB (pv 9) (aa ae ah)))))
  (ao (aY (ba (Ie hr.units) (aE (ze T) (hr.mono (by decide)) rfl T.tT T.i5.kp T.mH .nil aD (aa (pv 4) ah)) (pv 7) (a9 _)) (ar (aI cg)) a7)
  (ao (eJ (aE (Vl T) (hr.mono (by decide)) rfl T.K1 T.ql.kp T.yz .nil aD (aa (pv 0) (aa (pv 1) (aa (pv 2) (aa (pv 3) (aa (pv 4) ah)))))))
  (ao (aY (eI (de (aE (L9 T) (hr.mono (by decide)) rfl T.Cb T.mL.kp T.ug .nil aD (aa (aE (ze T) (hr.mono (by decide)) rfl T.tT T.i5.kp T.mH .nil aD (aa (pv 4) ah)) (aa (pv 1) (aa (aE (LW T) (hr.mono (by decide)) rfl T.Ca T.mK.kp T.uf .nil aD (aa (pv 1) (aa (pv 3) ah))) ah)))))) (ar (aI cg)) a7)
  (ar (aI (ny (aE (Vu T) (hr.mono (by decide)) rfl T.K0 T.qk.kp T.yw .nil aD (aa (pv 4) (aa (pv 3) ah))) (nv (iG (Ic hr.units) (pv 6) (pv 7) (a9 _)))))))))))))))))))), ?_⟩
  refine aN (fun σ H1 => ∃ (b : acJ) (e t u d m f : Int), σ = [some (.ref a), some (.ref b), none, none, none, none, none, none, none, none] /\ aj H H1 /\ H1 b = some (.lst (fT e t u d m f)) /\ ir e t u d m f) (fun N hN => ?_) ?_
  ·walk_at "gzn"
   exact ⟨a, ns, rfl, hS, hn, fun b e t u d m f H1 s1 _ hb sh => hN _ _ ⟨b, e, t, u, d, m, f, rfl, s1, hb, sh⟩⟩
  rintro σ H1 ⟨b, e, t, u, d, m, f, rfl, s1, hb, sh⟩
  refine aN (fun σ H2 => ∃ (c : acJ) (cs : List Int), σ = [some (.ref a), some (.ref b), some (.ref c), none, none, none, none, none, none, none] /\ aj H1 H2 /\ H2 c = some (.lst (cs.map V.int)) /\ cs.length = t.toNat) (fun N hN => ?_) ?_
  ·walk_at "gzn"
   exact ⟨a, b, ns, e, t, u, d, m, f, rfl, s1.seq hS, hn, ag.of hb, sh, fun c cs H2 s2 _ hc cN _ => hN _ _ ⟨c, cs, rfl, s2, hc, cN⟩⟩
  rintro σ H2 ⟨c, cs, rfl, s2, hc, cN⟩
  refine aN (fun σ H3 => ∃ (w : acJ) (tb : Tb), σ = [some (.ref a), some (.ref b), some (.ref c), some (.ref w), none, none, none, none, none, none] /\ aj H2 H3 /\ TabAt H3 w tb /\ bT e t tb /\ tb.length <= 24 /\ ∀ r ∈ tb, bx r.2.1 r.2.2 = false) (fun N hN => ?_) ?_
  ·walk_at "gzn"
   exact ⟨a, b, c, ns, cs, e, t, u, d, m, f, rfl, (s1.trans s2).seq hS, hn, ag.of (s2 _ _ hb), sh, ag.of hc, cN, fun w tb H3 s3 fw hT ai uv fm => hN _ _ ⟨w, tb, rfl, s3, hT, ai, uv, fm⟩⟩
  rintro σ H3 ⟨w, tb, rfl, s3, hT, ai, uv, fm⟩
  have S3 := s1.trans (s2.trans s3)
  have b3 := (s2.trans s3) _ _ hb
  have c3 := s3 _ _ hc
  refine aN (fun σ H4 => ∃ (x p : acJ) (rs : Tb), σ = [some (.ref a), some (.ref b), some (.ref c), some (.ref w), some (.ref x), none, none, none, none, none] /\ aj H3 H4 /\ H3 p = none /\ dk T.aH H4 x e t u d m p rs /\ rs.Perm tb) (fun N hN => ?_) ?_
  ·walk_at "gzn"
   refine ⟨a, b, w, ns, e, t, u, d, m, f, tb, rfl, S3.seq hS, hn, ag.of b3, sh, hT, ai, by omega, fm, fun x p rs H4 s4 fx fp hB qB => hN _ _ ⟨x, p, rs, rfl, s4, fp, hB, ?_⟩⟩
   rcases qB with rfl | rfl
   ·exact .refl _
   ·exact ajm _
  rintro σ H4 ⟨x, p, rs, rfl, s4, fp, hB, cn⟩
  obtain ⟨he, ht, ⟨u1, u2⟩, ⟨d1, d2⟩, ⟨m1, m2⟩, hf⟩ := id sh
  have wp : w ≠ p := hT.ne fp
  have T4 := hT.same s4
  have b4 := s4 _ _ b3
  have Mb : ∀ {tb rs : Tb}, rs.Perm tb -> bT e t tb -> bT e t rs := fun h1 h2 => ⟨(h1.map _).nodup_iff.mpr h2.1, fun r hr => h2.2 r (h1.mem_iff.mp hr)⟩
  have Mc : ∀ {tb rs : Tb} {ks i4 : List P2}, rs.Perm tb -> ks.Nodup -> (∀ p, p ∈ ks ↔ ee u d tb p) -> i4.Nodup -> (∀ p, p ∈ i4 ↔ ee u d rs p) -> bV i4 = bV ks := fun h0 h1 h2 h3 h4 => Sl h3 h1 fun p => (h4 p).trans ((Sk h0 p).trans (h2 p).symm)
  refine aN (fun σ H5 => ∃ (pl : acJ) (py : List V) (ks : List P2), σ = [some (.ref a), some (.ref b), some (.ref c), some (.ref w), some (.ref x), some (.ref pl), none, none, none, none] /\ aj H4 H5 /\ H5 pl = some (.lst py) /\ ks.Nodup /\ (∀ p, p ∈ ks ↔ ee u d tb p) /\ ak (aX H5) py (bV ks)) (fun N hN => ?_) ?_
  ·walk_at "gzn"
   exact ⟨b, w, e, t, u, d, m, f, tb, rfl, ag.of b4, sh, T4, ai, by omega, fun g ys ks H5 s5 _ hg hn hm hp => hN _ _ ⟨g, ys, ks, rfl, s5, hg, hn, hm, hp⟩⟩
  rintro σ H5 ⟨pl, py, ks, rfl, s5, cX, kn, km, kp⟩
  have VO := CN ai he.2 kn km
  have susp : ∀ (Hx : Hp) (Q : VK), aj H4 Hx -> (∀ l ys H', aj Hx H' -> Hx l = none -> H' l = some (.lst ys) -> ak (dm Hx H') ys (cf (bw e.toNat m (bV ks))) -> Q (.ref l) H') -> L7 K T.aH [.ref x] Hx Q E0 := fun Hx Q sx hQ => by
   refine ⟨x, p, e, t, u, d, m, rs, rfl, hB.same sx, Mb cn ai, by rw [cn.length_eq]; omega, by omega, he.2, ht.1, ht.2, u1, d1, fun l ys i4 H' s' fl hl CW CY hy => hQ l ys H' s' fl hl ?_⟩
   rw [Mc cn kn km CW CY] at hy
   exact hy
  refine aN (fun σ H6 => ∃ (fl : acJ) (fy : List V), σ = [some (.ref a), some (.ref b), some (.ref c), some (.ref w), some (.ref x), some (.ref pl), some (.ref fl), none, none, none] /\ aj H5 H6 /\ H6 fl = some (.lst fy) /\ ak (di H6) fy (cf (bw e.toNat m (bV ks)))) (fun N hN => ?_) ?_
  ·walk_at "gzn"
   exact susp H5 _ s5 fun l ys H6 s6 _ hl hy => hN _ _ ⟨l, ys, rfl, s6, hl, hy.imp fun _ _ r => r.is⟩
  rintro σ H6 ⟨fl, fy, rfl, s6, mZ, hfy⟩
  refine aN (fun σ H7 => σ = [some (.ref a), some (.ref b), some (.ref c), some (.ref w), some (.ref x), some (.ref pl), some (.ref fl), none, none, none] /\ aj H6 H7) (fun N hN => ?_) ?_
  ·walk_at "gzn"
   refine ⟨fl, b, pl, fy, py, bV ks, e, t, u, d, m, f, rfl, mZ, hfy, ag.of ((s5.trans s6) _ _ b4), sh, ag.of (s6 _ _ cX), kp.imp fun _ _ r => aX.same r s6, by omega, fun H7 s7 => ?_⟩
   walk_at "gzn"
   exact hN _ _ ⟨rfl, s7⟩
  rintro σ H7 ⟨rfl, s7⟩
  have f7 := s7 _ _ mZ
  have Md := hfy.imp fun _ _ r => r.same s7
  have sl : (cf (bw e.toNat m (bV ks))).length <= 48 := by unfold cf; rw [sk]; exact BV (by omega) m _
  have fyl := hfy.len
  have sin : ∀ s ∈ cf (bw e.toNat m (bV ks)), s.length <= 7 := fun s hs => by
   have := mq _ _ (L8 hs).1
   omega
  refine aN (fun σ H8 => ∃ (kl : acJ) (ky : List V), σ = [some (.ref a), some (.ref b), some (.ref c), some (.ref w), some (.ref x), some (.ref pl), some (.ref fl), some (.ref kl), none, none] /\ aj H7 H8 /\ H8 kl = some (.lst ky) /\ ak (di H8) ky (cf (bw e.toNat m (bV ks)))) (fun N hN => ?_) ?_
  ·walk_at "gzn"
   refine ⟨⟨_, ag.of f7⟩, cZ eV (acV (by omega : fy.length <= 64) (by decide)) (d6 (R := di) (R' := di) (f := fun s => s) (fun _ _ _ _ s' h => h.same s') (fun _ _ _ _ s' h => h.same s') Md (bs := []) trivial (fun H' s' => ag.of (s' _ _ f7)) (fun v k _ H8 s8 r Q h => ?_) (fun v k _ H8 s8 r Q h => ?_) fun H8 zs s8 hz => ?_)⟩
   ·walk_at "gzn"
    exact h
   ·obtain ⟨l, rfl, hl⟩ := r
    walk_at "gzn"
    exact ⟨_, .inl (ag.of hl), fun l2 bR => h _ _ (av bR) ⟨l2, rfl, aq⟩⟩
   rw [adq, agM] at hz
   intro kl mD
   exact hN _ _ ⟨kl, zs, rfl, s8.trans (av mD), aq, hz.imp fun _ _ r => r.same (av mD)⟩
  rintro σ H8 ⟨kl, ky, rfl, s8, mD, hky⟩
  have CZ := s5.trans (s6.trans (s7.trans s8))
  refine aN (fun σ H9 => ∃ (al : acJ) (ay : List V), σ = [some (.ref a), some (.ref b), some (.ref c), some (.ref w), some (.ref x), some (.ref pl), some (.ref fl), some (.ref kl), some (.ref al), none] /\ aj H8 H9 /\ H9 al = some (.lst ay) /\ ak (dm H8 H9) ay (cf (bw e.toNat m (bV ks)))) (fun N hN => ?_) ?_
  ·walk_at "gzn"
   exact susp H8 _ CZ fun l ys H9 s9 _ hl hy => hN _ _ ⟨l, ys, rfl, s9, hl, hy⟩
  rintro σ H9 ⟨al, ay, rfl, s9, hal, hay⟩
  refine aN (fun σ C0 => σ = [some (.ref a), some (.ref b), some (.ref c), some (.ref w), some (.ref x), some (.ref pl), some (.ref fl), some (.ref kl), some (.ref al), none] /\ C0 = H9) (fun N hN => ?_) ?_
  ·walk_at "gzn"
   refine wC (.lst (ag.of hal) (nh (hay.imp fun _ _ r => r.is))) (.lst (ag.of (s9 _ _ mD)) (nh (hky.imp fun _ _ r => r.same s9))) (CV _) (by decide) ?_
   walk_at "gzn"
   exact hN _ _ ⟨rfl, rfl⟩
  rintro σ C0 ⟨rfl, rfl⟩
  refine aN (fun σ fV => ∃ e9, σ = [some (.ref a), some (.ref b), some (.ref c), some (.ref w), some (.ref x), some (.ref pl), some (.ref fl), some (.ref kl), some (.ref al), e9] /\ aj H8 fV) (fun N hN => ?_) ?_
  ·have V5 : ∀ (i : Nat) (v : V), ay[i]? = some v -> ∃ (l : acJ) (s : List Int), v = .ref l /\ H8 l = none /\ C0 l = some (.lst (s.map V.int)) /\ s.length <= 7 /\ l ≠ al := fun i v hv => by
    obtain ⟨s, hs, l, rfl, h1, h2⟩ := hay.get hv
    refine ⟨l, s, rfl, h1, h2, sin s (acZ hs), fun z => ?_⟩
    rw [z, hal] at h2
    have e1 : ay = s.map V.int := by cases h2; rfl
    rw [e1, adn] at hv
    obtain ⟨_, _, z⟩ := adH.mp hv
    cases z
   walk_at "gzn"
   refine ⟨⟨_, ag.of hal⟩, gX (xs := ay) (fun i σ fV => ∃ e9, σ = [some (.ref a), some (.ref b), some (.ref c), some (.ref w), some (.ref x), some (.ref pl), some (.ref fl), some (.ref kl), some (.ref al), e9] /\ V3 H8 al ay i fV) ⟨_, rfl, s9, hal, fun j v hv => let ⟨l, s, h1, h2, h3, h4, h5⟩ := V5 j v hv; ⟨l, _, h1, h2, h3, by rw [acI]; omega, h5⟩⟩ ?_ ?_ ?_⟩
   ·rintro i σ fV _ ⟨_, _, _, h, _⟩
    exact ag.of h
   ·rintro i v σ fV hv ⟨e9, rfl, lg, V6, hall⟩
    obtain ⟨l, zs, rfl, h1, h2, h3, h4⟩ := hall i v hv
    have il := (acX.mp hv).1
    have ayl := hay.len
    walk_at "gzn"
    refine ⟨.inl ⟨rfl, _, ag.of h2⟩, _, h2, adX (by omega : zs.length <= 64) (by decide), lS h1 lg, by rw [aA (adV h4)]; exact V6, fun j v hv => ?_⟩
    obtain ⟨l', Cp, e1, e2, e3, e4, e5⟩ := hall j v hv
    by_cases hll : l' = l
    ·subst hll
     rw [h2] at e3
     cases e3
     exact ⟨l', _, e1, e2, aq, by rw [adl, adC]; omega, e5⟩
    ·exact ⟨l', Cp, e1, e2, by rw [aA hll]; exact e3, by omega, e5⟩
   ·rintro σ fV ⟨e9, rfl, lg, _, _⟩
    exact hN _ _ ⟨e9, rfl, lg⟩
  rintro σ fV ⟨e9, rfl, lg⟩
  refine aN (fun σ ni => σ = [some (.ref a), some (.ref b), some (.ref c), some (.ref w), some (.ref x), some (.ref pl), some (.ref fl), some (.ref kl), some (.ref al), e9] /\ aj H8 ni) (fun N hN => ?_) ?_
  ·walk_at "gzn"
   refine susp fV _ (CZ.trans lg) fun l ys ni jb _ hl hy => ?_
   walk_at "gzn"
   refine wC (.lst (ag.of hl) (nh (hy.imp fun _ _ r => r.is))) (.lst (ag.of ((lg.trans jb) _ _ mD)) (nh (hky.imp fun _ _ r => r.same (lg.trans jb)))) (CV _) (by decide) ?_
   walk_at "gzn"
   exact hN _ _ ⟨rfl, lg.trans jb⟩
  rintro σ ni ⟨rfl, jb⟩
  have qI := CZ.trans jb
  have Me := T4.same qI
  have Mf := hB.same qI
  have V7 := jb _ _ mD
  have V8 := hky.imp fun _ _ r => r.same jb
  have V9 := (s8.trans jb) _ _ f7
  have Wa := Md.imp fun _ _ r => r.same (s8.trans jb)
  refine aN (fun σ lh => ∃ (bO iu : Tb), σ = [some (.ref a), some (.ref b), some (.ref c), some (.ref w), some (.ref x), some (.ref pl), some (.ref fl), some (.ref kl), some (.ref al), e9] /\ dD [w, p] ni lh /\ TabAt lh w bO /\ dk T.aH lh x e t u d m p iu /\ iu.Perm bO /\ bT e t bO /\ bO.length <= 25) (fun N hN => ?_) ?_
  ·walk_at "gzn"
   exact ⟨a, b, c, w, x, p, ns, cs, e, t, u, d, m, f, tb, rs, rfl, (S3.trans (s4.trans qI)).seq hS, hn, ag.of (qI _ _ b4), sh, ag.of ((s4.trans qI) _ _ c3), cN, Me, Mf, wp, cn, ai, by omega, fm, fun bO iu H7 bu zi zj qJ qK Wb _ => hN _ _ ⟨bO, iu, rfl, bu, zi, zj, qJ, qK, by omega⟩⟩
  rintro σ lh ⟨bO, iu, rfl, bu, zi, zj, qJ, qK, Wb⟩
  have F : Fr ni lh := dD.fr bu fun q hq => by
   have fD : q = w ∨ q = p := by simpa using hq
   rcases fD with rfl | rfl
   ·exact Me.Jf
   ·exact Mf.tb.Jf
  have FL : ∀ (l : acJ) (zs : List V), ni l = some (.lst zs) -> lh l = some (.lst zs) := fun l zs h => F l (.lst zs) (fun _ z => nomatch z) h
  have FI : ∀ (v : V) (s : List Int), di ni v s -> di lh v s := fun v s h => let ⟨l, e1, h1⟩ := h; ⟨l, e1, FL _ _ h1⟩
  have Mg := FL _ _ (qI _ _ b4)
  refine aN (fun σ C1 => σ = [some (.ref a), some (.ref b), some (.ref c), some (.ref w), some (.ref x), some (.ref pl), some (.ref fl), some (.ref kl), some (.ref al), e9] /\ aj lh C1) (fun N hN => ?_) ?_
  ·walk_at "gzn"
   refine ⟨x, p, e, t, u, d, m, iu, rfl, zj, Mb qJ qK, by rw [qJ.length_eq]; omega, by omega, he.2, ht.1, ht.2, u1, d1, fun l ys i4 C1 lj _ hl CW CY hy => ?_⟩
   walk_at "gzn"
   refine ⟨b, w, e, t, u, d, m, f, bO, rfl, ag.of (lj _ _ Mg), sh, zi.same lj, qK, by omega, fun g gy Wc Wd qL _ hg Mh Mi We => ?_⟩
   rw [Mc qJ Mh Mi CW CY] at hy
   walk_at "gzn"
   refine ⟨l, b, g, ys, gy, bV Wc, e, t, u, d, m, f, rfl, qL _ _ hl, hy.imp fun _ _ r => (r.same qL).is, ag.of ((lj.trans qL) _ _ Mg), sh, ag.of hg, We, acV (CN qK he.2 Mh Mi) (by decide), fun H16 Wf => ?_⟩
   walk_at "gzn"
   exact hN _ _ ⟨rfl, lj.trans (qL.trans Wf)⟩
  rintro σ C1 ⟨rfl, lj⟩
  walk_at "gzn"
  refine ⟨x, p, w, e, t, u, d, m, bO, iu, rfl, zj.same lj, zi.same lj, qK, qJ, by omega, fun Wd qL => ?_⟩
  walk_at "gzn"
  have zk := lj.trans qL
  exact wC (.lst (ag.of (zk _ _ (FL _ _ V9))) (nh (Wa.imp fun _ _ r => (FI _ _ r).same zk))) (.lst (ag.of (zk _ _ (FL _ _ V7))) (nh (V8.imp fun _ _ r => (FI _ _ r).same zk))) (CV _) (by decide) (q _)
end
theorem Wg {l : aih} {w : adw} {K : acB} {h : aer} {mg : Str -> Option acC} {fa : acJ} (X : K.In h) (G : h.Ns acR mg) (Wh : mg "law" = some (.ref fa))
 {zm : acJ} {Wi Wj : Option acJ} {Wk : Array (Option acC)} {Wl Wm Wn Wo Mj Wq : acC}
 {zo : acJ} {Wr Ws : Option acJ} {Wt : Array (Option acC)} {Wu Wv Ww Wx Ml Wy : acC}
 {zq : acJ} {Wz WA : Option acJ} {WB : Array (Option acC)} {WC WD WE WG Mm WH : acC}
 {zr : acJ} {WI WJ : Option acJ} {WK : Array (Option acC)} {WL WM WN WO Mn WQ : acC}
 {zt : acJ} {WR WS : Option acJ} {WT : Array (Option acC)} {WU WV WW WX Mo WY : acC}
 {zu : acJ} {WZ W0 : Option acJ} {W3 : Array (Option acC)} {W4 W5 W6 W7 Mp W8 : acC}
 {zv : acJ} {W9 Xa : Option acJ} {Xb : Array (Option acC)} {Xc Xd Xe Xf Mq Xg : acC}
 {zx : acJ} {Xh Xi : Option acJ} {Xj : Array (Option acC)} {Xk Xl Xm Xn Mr Xo : acC}
 {zy : acJ} {Xp Xq : Option acJ} {Xr : Array (Option acC)} {Xs Xt Xu Xv Ms Xw : acC}
 {zA : acJ} {Xx Xy : Option acJ} {Xz : Array (Option acC)} {XA XB XD XE Mt XF : acC}
 {zB : acJ} {XG XH : Option acJ} {XI : Array (Option acC)} {XJ XM XN XO Mu XQ : acC}
 {zC : acJ} {XR XS : Option acJ} {XT : Array (Option acC)} {XU XW XX XY Mv XZ : acC}
 {zD : acJ} {X0 X2 : Option acJ} {X3 : Array (Option acC)} {X4 X5 X6 X7 Mw X8 : acC}
 {zE : acJ} {X9 Ya : Option acJ} {Yb : Array (Option acC)} {Yc Yd Ye Yf Mx Yg : acC}
 {zF : acJ} {Yh Yi : Option acJ} {Yj : Array (Option acC)} {Yk Yl Ym Yn My Yo : acC}
 {zG : acJ} {Yp Yq : Option acJ} {Yr : Array (Option acC)} {Ys Yt Yu Yv Mz Yw : acC}
 {zH : acJ} {Yx Yy : Option acJ} {Yz : Array (Option acC)} {YA YB YC YD MA YE : acC}
 {zI : acJ} {YF YG : Option acJ} {YH : Array (Option acC)} {YI YJ YK YL MB YM : acC}
 {zJ : acJ} {YN YO : Option acJ} {YQ : Array (Option acC)} {YR YS YT YU MC YV : acC}
 {uG : acJ} {YW YX : Option acJ} {YY : Array (Option acC)} {YZ Y0 Y1 Y2 MD Y3 : acC}
 {uH : acJ} {Y4 Y5 : Option acJ} {Y6 : Array (Option acC)} {Y7 Y8 Y9 Za ME Zb : acC}
 {uI : acJ} {Zc Zd : Option acJ} {Ze : Array (Option acC)} {Zf Zg Zh Zi MF Zj : acC}
 {uJ : acJ} {Zk Zl : Option acJ} {Zm : Array (Option acC)} {Zn Zo Zp Zq MG Zr : acC}
 {uK : acJ} {Zs Zt : Option acJ} {Zu : Array (Option acC)} {Zv Zw Zx Zy MH Zz : acC}
 {uL : acJ} {ZA ZC : Option acJ} {ZD : Array (Option acC)} {ZE ZF ZG ZH MI ZI : acC}
 {uM : acJ} {ZJ ZK : Option acJ} {ZL : Array (Option acC)} {ZM ZN ZO ZP MJ ZQ : acC}
 {uN : acJ} {ZR ZS : Option acJ} {ZT : Array (Option acC)} {ZU ZV ZW ZX MK ZY : acC}
 {zK : acJ} {ZZ Z0 : Option acJ} {Z1 : Array (Option acC)} {Z2 Z3 Z4 Z5 ML Z6 : acC}
 {zL : acJ} {Z7 Z8 : Option acJ} {Z9 : Array (Option acC)} {aaa aab aac aad MM aae : acC}
 {zM : acJ} {aaf aag : Option acJ} {aah : Array (Option acC)} {aai aaj aak aal MN aam : acC}
 {zN : acJ} {aan aao : Option acJ} {aap : Array (Option acC)} {aaq aar aas aat MO aau : acC}
 {zO : acJ} {aav aaw : Option acJ} {aax : Array (Option acC)} {aay aaz aaA aaB MP aaC : acC}
 {zP : acJ} {aaD aaE : Option acJ} {aaF : Array (Option acC)} {aaG aaH aaI aaJ MQ aaK : acC}
 {zQ : acJ} {aaL aaM : Option acJ} {aaN : Array (Option acC)} {aaO aaP aaQ aaR MR aaS : acC}
 {zR : acJ} {aaT aaU : Option acJ} {aaV : Array (Option acC)} {aaW aaX aaY aaZ MS aa0 : acC}
 {zS : acJ} {aa1 aa2 : Option acJ} {aa3 : Array (Option acC)} {aa4 aa5 aa6 aa7 MT aa8 : acC}
 {zT : acJ} {aa9 aba : Option acJ} {abb : Array (Option acC)} {abc abd abe abf MU abg : acC}
 {zU : acJ} {abh abi : Option acJ} {abj : Array (Option acC)} {abk abl abm abn MV abo : acC}
 {zV : acJ} {abp abq : Option acJ} {abr : Array (Option acC)} {abt abu abv abw MW abx : acC}
 {zW : acJ} {aby abz : Option acJ} {abA : Array (Option acC)} {abB abC abD abE MX abF : acC}
 {zX : acJ} {abG abH : Option acJ} {abI : Array (Option acC)} {abJ abK abL abM MY abN : acC}
 {zY : acJ} {abO abP : Option acJ} {abQ : Array (Option acC)} {abR abS abT abU MZ abV : acC}
 {zZ : acJ} {abW abX : Option acJ} {abY : Array (Option acC)} {abZ ab0 ab1 ab2 M0 ab3 : acC}
 {z0 : acJ} {ab4 ab5 : Option acJ} {ab6 : Array (Option acC)} {ab7 ab8 ab9 aca M3 acb : acC}
 {z3 : acJ} {acd ace : Option acJ} {acf : Array (Option acC)} {acg ach aci acj M4 ack : acC}
 {C2 : acJ} {acm C3 : Option acJ} {acn : Array (Option acC)} {aco C4 C5 C6 z4 C7 : acC}
 {uk : acJ}
 {el : acJ}
 {c9 : acJ}
 {eo : acJ}
 {aH : acJ}
 {acp : Tok}
 {acq : Tok}
 (jW : acU K acR "is_crossed" = some (some (.ref zm))) (C8 : K.lookup zm = some ⟨Wl, Wi, .func (acW "is_crossed" "is_crossed" (aS oH) (aQ oH) (aw oH) .none Wm Wn Wo Wj Mj Wq), Wk⟩) (C9 : acS K Mj "is_crossed" = true) (Dc : acO K (.ref zm) = true)
 (jX : acU K acR "meet" = some (some (.ref zo))) (Dd : K.lookup zo = some ⟨Wu, Wr, .func (acW "meet" "meet" (aS oI) (aQ oI) (aw oI) .none Wv Ww Wx Ws Ml Wy), Wt⟩) (De : acS K Ml "meet" = true) (Df : acO K (.ref zo) = true)
 (jY : acU K acR "common" = some (some (.ref zq))) (Dg : K.lookup zq = some ⟨WC, Wz, .func (acW "common" "common" (aS oJ) (aQ oJ) (aw oJ) .none WD WE WG WA Mm WH), WB⟩) (Dh : acS K Mm "common" = true) (Di : acO K (.ref zq) = true)
 (jZ : acU K acR "lesser" = some (some (.ref zr))) (Dj : K.lookup zr = some ⟨WL, WI, .func (acW "lesser" "lesser" (aS oK) (aQ oK) (aw oK) .none WM WN WO WJ Mn WQ), WK⟩) (Dk : acS K Mn "lesser" = true) (Dl : acO K (.ref zr) = true)
 (j5 : acU K acR "lifted" = some (some (.ref zt))) (Dm : K.lookup zt = some ⟨WU, WR, .func (acW "lifted" "lifted" (aS oM) (aQ oM) (aw oM) .none WV WW WX WS Mo WY), WT⟩) (Dp : acS K Mo "lifted" = true) (Dq : acO K (.ref zt) = true)
 (j6 : acU K acR "ceilings" = some (some (.ref zu))) (Dr : K.lookup zu = some ⟨W4, WZ, .func (acW "ceilings" "ceilings" (aS oN) (aQ oN) (aw oN) .none W5 W6 W7 W0 Mp W8), W3⟩) (Ds : acS K Mp "ceilings" = true) (Dt : acO K (.ref zu) = true)
 (j7 : acU K acR "crossing" = some (some (.ref zv))) (Du : K.lookup zv = some ⟨Xc, W9, .func (acW "crossing" "crossing" (aS oO) (aQ oO) (aw oO) .none Xd Xe Xf Xa Mq Xg), Xb⟩) (Dv : acS K Mq "crossing" = true) (Dw : acO K (.ref zv) = true)
 (j8 : acU K acR "has_part" = some (some (.ref zx))) (Dx : K.lookup zx = some ⟨Xk, Xh, .func (acW "has_part" "has_part" (aS oP) (aQ oP) (aw oP) .none Xl Xm Xn Xi Mr Xo), Xj⟩) (Dy : acS K Mr "has_part" = true) (Dz : acO K (.ref zx) = true)
 (j9 : acU K acR "check_claim" = some (some (.ref zy))) (DA : K.lookup zy = some ⟨Xs, Xp, .func (acW "check_claim" "check_claim" (aS oQ) (aQ oQ) (aw oQ) .none Xt Xu Xv Xq Ms Xw), Xr⟩) (DB : acS K Ms "check_claim" = true) (DC : acO K (.ref zy) = true)
 (kc : acU K acR "stretches_of" = some (some (.ref zA))) (DD : K.lookup zA = some ⟨XA, Xx, .func (acW "stretches_of" "stretches_of" (aS oR) (aQ oR) (aw oR) .none XB XD XE Xy Mt XF), Xz⟩) (DE : acS K Mt "stretches_of" = true) (DF : acO K (.ref zA) = true)
 (kd : acU K acR "paces" = some (some (.ref zB))) (DG : K.lookup zB = some ⟨XJ, XG, .func (acW "paces" "paces" (aS oT) (aQ oT) (aw oT) .none XM XN XO XH Mu XQ), XI⟩) (DH : acS K Mu "paces" = true) (DI : acO K (.ref zB) = true)
 (ke : acU K acR "marks_of" = some (some (.ref zC))) (DJ : K.lookup zC = some ⟨XU, XR, .func (acW "marks_of" "marks_of" (aS oU) (aQ oU) (aw oU) .none XW XX XY XS Mv XZ), XT⟩) (DK : acS K Mv "marks_of" = true) (DL : acO K (.ref zC) = true)
 (kf : acU K acR "groups_of" = some (some (.ref zD))) (DM : K.lookup zD = some ⟨X4, X0, .func (acW "groups_of" "groups_of" (aS oV) (aQ oV) (aw oV) .none X5 X6 X7 X2 Mw X8), X3⟩) (DN : acS K Mw "groups_of" = true) (DO : acO K (.ref zD) = true)
 (kg : acU K acR "clashes" = some (some (.ref zE))) (DP : K.lookup zE = some ⟨Yc, X9, .func (acW "clashes" "clashes" (aS oW) (aQ oW) (aw oW) .none Yd Ye Yf Ya Mx Yg), Yb⟩) (DQ : acS K Mx "clashes" = true) (DR : acO K (.ref zE) = true)
 (kh : acU K acR "quarrels" = some (some (.ref zF))) (DS : K.lookup zF = some ⟨Yk, Yh, .func (acW "quarrels" "quarrels" (aS oX) (aQ oX) (aw oX) .none Yl Ym Yn Yi My Yo), Yj⟩) (DT : acS K My "quarrels" = true) (DU : acO K (.ref zF) = true)
 (ki : acU K acR "choices" = some (some (.ref zG))) (DV : K.lookup zG = some ⟨Ys, Yp, .func (acW "choices" "choices" (aS oY) (aQ oY) (aw oY) .none Yt Yu Yv Yq Mz Yw), Yr⟩) (DW : acS K Mz "choices" = true) (DX : acO K (.ref zG) = true)
 (kj : acU K acR "is_enough" = some (some (.ref zH))) (DY : K.lookup zH = some ⟨YA, Yx, .func (acW "is_enough" "is_enough" (aS oZ) (aQ oZ) (aw oZ) .none YB YC YD Yy MA YE), Yz⟩) (DZ : acS K MA "is_enough" = true) (D0 : acO K (.ref zH) = true)
 (ko : acU K acR "is_lean" = some (some (.ref zI))) (D1 : K.lookup zI = some ⟨YI, YF, .func (acW "is_lean" "is_lean" (aS o4) (aQ o4) (aw o4) .none YJ YK YL YG MB YM), YH⟩) (D2 : acS K MB "is_lean" = true) (D3 : acO K (.ref zI) = true)
 (kr : acU K acR "suspects" = some (some (.ref zJ))) (D4 : K.lookup zJ = some ⟨YR, YN, .func (acW "suspects" "suspects" (aS o5) (aQ o5) (aw o5) .none YS YT YU YO MC YV), YQ⟩) (D5 : acS K MC "suspects" = true) (D6 : acO K (.ref zJ) = true)
 (ku : ac6 K (.ref aH) "__init__" = some (some (.ref uG))) (D7 : K.lookup uG = some ⟨YZ, YW, .func (acW "__init__" "Board.__init__" (aS o6) (aQ o6) (aw o6) .none Y0 Y1 Y2 YX MD Y3), YY⟩) (D8 : acS K MD "Board.__init__" = true) (D9 : acO K (.ref uG) = true)
 (kx : ac6 K (.ref aH) "has_eye" = some (some (.ref uH))) (Ea : K.lookup uH = some ⟨Y7, Y4, .func (acW "has_eye" "Board.has_eye" (aS o7) (aQ o7) (aw o7) .none Y8 Y9 Za Y5 ME Zb), Y6⟩) (Eb : acS K ME "Board.has_eye" = true) (z5 : acO K (.ref uH) = true)
 (kz : ac6 K (.ref aH) "has_turn" = some (some (.ref uI))) (Ec : K.lookup uI = some ⟨Zf, Zc, .func (acW "has_turn" "Board.has_turn" (aS o8) (aQ o8) (aw o8) .none Zg Zh Zi Zd MF Zj), Ze⟩) (Ed : acS K MF "Board.has_turn" = true) (z6 : acO K (.ref uI) = true)
 (kA : ac6 K (.ref aH) "tell" = some (some (.ref uJ))) (Ee : K.lookup uJ = some ⟨Zn, Zk, .func (acW "tell" "Board.tell" (aS o9) (aQ o9) (aw o9) .none Zo Zp Zq Zl MG Zr), Zm⟩) (Ef : acS K MG "Board.tell" = true) (z7 : acO K (.ref uJ) = true)
 (kB : ac6 K (.ref aH) "hush" = some (some (.ref uK))) (Eg : K.lookup uK = some ⟨Zv, Zs, .func (acW "hush" "Board.hush" (aS pd) (aQ pd) (aw pd) .none Zw Zx Zy Zt MH Zz), Zu⟩) (Eh : acS K MH "Board.hush" = true) (z9 : acO K (.ref uK) = true)
 (kC : ac6 K (.ref aH) "tellings" = some (some (.ref uL))) (Ei : K.lookup uL = some ⟨ZE, ZA, .func (acW "tellings" "Board.tellings" (aS pe) (aQ pe) (aw pe) .none ZF ZG ZH ZC MI ZI), ZD⟩) (Ej : acS K MI "Board.tellings" = true) (Aa : acO K (.ref uL) = true)
 (kD : ac6 K (.ref aH) "check_spot" = some (some (.ref uM))) (Ek : K.lookup uM = some ⟨ZM, ZJ, .func (acW "check_spot" "Board.check_spot" (aS pf) (aQ pf) (aw pf) .none ZN ZO ZP ZK MJ ZQ), ZL⟩) (El : acS K MJ "Board.check_spot" = true) (Ab : acO K (.ref uM) = true)
 (kE : ac6 K (.ref aH) "check_word" = some (some (.ref uN))) (Em : K.lookup uN = some ⟨ZU, ZR, .func (acW "check_word" "Board.check_word" (aS ph) (aQ ph) (aw ph) .none ZV ZW ZX ZS MK ZY), ZT⟩) (Eo : acS K MK "Board.check_word" = true) (Ac : acO K (.ref uN) = true)
 (kF : acU K acR "_law_pick" = some (some (.ref zK))) (Ep : K.lookup zK = some ⟨Z2, ZZ, .func (acW "_law_pick" "_law_pick" (aS pj) (aQ pj) (aw pj) .none Z3 Z4 Z5 Z0 ML Z6), Z1⟩) (Er : acS K ML "_law_pick" = true) (Es : acO K (.ref zK) = true)
 (kG : acU K acR "_law_wide" = some (some (.ref zL))) (Et : K.lookup zL = some ⟨aaa, Z7, .func (acW "_law_wide" "_law_wide" (aS pk) (aQ pk) (aw pk) .none aab aac aad Z8 MM aae), Z9⟩) (Eu : acS K MM "_law_wide" = true) (Ew : acO K (.ref zL) = true)
 (kI : acU K acR "_law_shape" = some (some (.ref zM))) (Ex : K.lookup zM = some ⟨aai, aaf, .func (acW "_law_shape" "_law_shape" (aS pq) (aQ pq) (aw pq) .none aaj aak aal aag MN aam), aah⟩) (Ey : acS K MN "_law_shape" = true) (Ez : acO K (.ref zM) = true)
 (kJ : acU K acR "_law_course" = some (some (.ref zN))) (EA : K.lookup zN = some ⟨aaq, aan, .func (acW "_law_course" "_law_course" (aS pw) (aQ pw) (aw pw) .none aar aas aat aao MO aau), aap⟩) (EB : acS K MO "_law_course" = true) (EC : acO K (.ref zN) = true)
 (kK : acU K acR "_law_word" = some (some (.ref zO))) (ED : K.lookup zO = some ⟨aay, aav, .func (acW "_law_word" "_law_word" (aS pA) (aQ pA) (aw pA) .none aaz aaA aaB aaw MP aaC), aax⟩) (EE : acS K MP "_law_word" = true) (EF : acO K (.ref zO) = true)
 (kL : acU K acR "_law_words" = some (some (.ref zP))) (EG : K.lookup zP = some ⟨aaG, aaD, .func (acW "_law_words" "_law_words" (aS pB) (aQ pB) (aw pB) .none aaH aaI aaJ aaE MQ aaK), aaF⟩) (EH : acS K MQ "_law_words" = true) (EI : acO K (.ref zP) = true)
 (kM : acU K acR "_law_board" = some (some (.ref zQ))) (EJ : K.lookup zQ = some ⟨aaO, aaL, .func (acW "_law_board" "_law_board" (aS pC) (aQ pC) (aw pC) .none aaP aaQ aaR aaM MR aaS), aaN⟩) (EK : acS K MR "_law_board" = true) (EL : acO K (.ref zQ) = true)
 (kN : acU K acR "_law_whole" = some (some (.ref zR))) (EM : K.lookup zR = some ⟨aaW, aaT, .func (acW "_law_whole" "_law_whole" (aS pE) (aQ pE) (aw pE) .none aaX aaY aaZ aaU MS aa0), aaV⟩) (EN : acS K MS "_law_whole" = true) (EO : acO K (.ref zR) = true)
 (kO : acU K acR "_law_same" = some (some (.ref zS))) (ER : K.lookup zS = some ⟨aa4, aa1, .func (acW "_law_same" "_law_same" (aS pF) (aQ pF) (aw pF) .none aa5 aa6 aa7 aa2 MT aa8), aa3⟩) (ES : acS K MT "_law_same" = true) (ET : acO K (.ref zS) = true)
 (kP : acU K acR "_law_deed" = some (some (.ref zT))) (EU : K.lookup zT = some ⟨abc, aa9, .func (acW "_law_deed" "_law_deed" (aS pG) (aQ pG) (aw pG) .none abd abe abf aba MU abg), abb⟩) (EV : acS K MU "_law_deed" = true) (EW : acO K (.ref zT) = true)
 (kQ : acU K acR "_law_above" = some (some (.ref zU))) (EX : K.lookup zU = some ⟨abk, abh, .func (acW "_law_above" "_law_above" (aS pH) (aQ pH) (aw pH) .none abl abm abn abi MV abo), abj⟩) (EY : acS K MV "_law_above" = true) (EZ : acO K (.ref zU) = true)
 (kR : acU K acR "_law_against" = some (some (.ref zV))) (E1 : K.lookup zV = some ⟨abt, abp, .func (acW "_law_against" "_law_against" (aS pI) (aQ pI) (aw pI) .none abu abv abw abq MW abx), abr⟩) (E2 : acS K MW "_law_against" = true) (E3 : acO K (.ref zV) = true)
 (kS : acU K acR "_law_pairs" = some (some (.ref zW))) (E4 : K.lookup zW = some ⟨abB, aby, .func (acW "_law_pairs" "_law_pairs" (aS pJ) (aQ pJ) (aw pJ) .none abC abD abE abz MX abF), abA⟩) (E5 : acS K MX "_law_pairs" = true) (E6 : acO K (.ref zW) = true)
 (kT : acU K acR "_law_covers" = some (some (.ref zX))) (E7 : K.lookup zX = some ⟨abJ, abG, .func (acW "_law_covers" "_law_covers" (aS pK) (aQ pK) (aw pK) .none abK abL abM abH MY abN), abI⟩) (E8 : acS K MY "_law_covers" = true) (E9 : acO K (.ref zX) = true)
 (kW : acU K acR "_law_within" = some (some (.ref zY))) (Fb : K.lookup zY = some ⟨abR, abO, .func (acW "_law_within" "_law_within" (aS pL) (aQ pL) (aw pL) .none abS abT abU abP MZ abV), abQ⟩) (Fc : acS K MZ "_law_within" = true) (Fd : acO K (.ref zY) = true)
 (kX : acU K acR "_law_lists" = some (some (.ref zZ))) (Fe : K.lookup zZ = some ⟨abZ, abW, .func (acW "_law_lists" "_law_lists" (aS pM) (aQ pM) (aw pM) .none ab0 ab1 ab2 abX M0 ab3), abY⟩) (Ff : acS K M0 "_law_lists" = true) (Fg : acO K (.ref zZ) = true)
 (kY : acU K acR "_law_eyes" = some (some (.ref z0))) (Fh : K.lookup z0 = some ⟨ab7, ab4, .func (acW "_law_eyes" "_law_eyes" (aS pN) (aQ pN) (aw pN) .none ab8 ab9 aca ab5 M3 acb), ab6⟩) (Fi : acS K M3 "_law_eyes" = true) (Fj : acO K (.ref z0) = true)
 (kZ : acU K acR "_law_told" = some (some (.ref z3))) (Fl : K.lookup z3 = some ⟨acg, acd, .func (acW "_law_told" "_law_told" (aS pO) (aQ pO) (aw pO) .none ach aci acj ace M4 ack), acf⟩) (Fm : acS K M4 "_law_told" = true) (Fn : acO K (.ref z3) = true)
 (ij : acU K acR "law" = some (some (.ref C2))) (Fo : K.lookup C2 = some ⟨aco, acm, .func (acW "law" "law" (aS fS) (aQ fS) (aw fS) .none C4 C5 C6 C3 z4 C7), acn⟩) (Fp : acS K z4 "law" = true) (Fq : acO K (.ref C2) = true)
 (Fs : acU K acR "all" = some none)
 (Ft : acU K acR "any" = some none)
 (Fu : acU K acR "bool" = some none)
 (Fv : acU K acR "enumerate" = some none)
 (Fw : acU K acR "int" = some none)
 (Fx : acU K acR "isinstance" = some none)
 (Fy : acU K acR "len" = some none)
 (Fz : acU K acR "list" = some none)
 (FA : acU K acR "max" = some none)
 (FC : acU K acR "min" = some none)
 (FD : acU K acR "range" = some none)
 (FE : acU K acR "set" = some none)
 (FF : acU K acR "sorted" = some none)
 (FG : acU K acR "GazeError" = some (some (.ref uk)))
 (FH : acU K acR "NoBoard" = some (some (.ref el)))
 (FK : acU K acR "NoTelling" = some (some (.ref c9)))
 (FN : acU K acR "NoClaim" = some (some (.ref eo)))
 (FO : acU K acR "Board" = some (some (.ref aH)))
 (FP : af5 K aH Str.empty = true) (FQ : ags K aH = true) (FR : aho K aH = true) (FT : ac6 K (.ref aH) "__setattr__" = some (some (.builtin "object.__setattr__")))
 (i6 : ac6 K (.ref aH) "eyes" = some none)
 (k7 : ac6 K (.ref aH) "turns" = some none)
 (mO : ac6 K (.ref aH) "up" = some none)
 (mP : ac6 K (.ref aH) "down" = some none)
 (mQ : ac6 K (.ref aH) "most" = some none)
 (gE : ac6 K (.ref aH) "told" = some none)
 (FU : aeQ K (.ref uG) = true)
 (qv : ah7 K aH = true) (FV : acO K (.ref aH) = true)
 (FW : aeQ K (.ref uH) = true)
 (FX : aeQ K (.ref uI) = true)
 (FY : aeQ K (.ref uJ) = true)
 (FZ : aeQ K (.ref uK) = true)
 (F0 : aeQ K (.ref uL) = true)
 (F1 : aeQ K (.ref uM) = true)
 (F4 : aeQ K (.ref uN) = true)
 (F5 : ai4 K el [.type "ValueError", .type "Exception", .type "BaseException", .type "object"] "ValueError.__new__" = true)
 (F6 : afM K el (.type "object") = some true)
 (F7 : afM K el (.type "BaseException") = some true)
 (Ga : ac6 K (.ref el) "__getattribute__" = some (some (.builtin "BaseException.__getattribute__")))
 (Gb : ac6 K (.ref el) "__getattr__" = some none)
 (Ge : ac6 K (.ref el) "__class__" = some (some (.builtin "object.__class__")))
 (Gf : ai4 K c9 [.type "ValueError", .type "Exception", .type "BaseException", .type "object"] "ValueError.__new__" = true)
 (Gg : afM K c9 (.type "object") = some true)
 (Gh : afM K c9 (.type "BaseException") = some true)
 (Gi : ac6 K (.ref c9) "__getattribute__" = some (some (.builtin "BaseException.__getattribute__")))
 (Gj : ac6 K (.ref c9) "__getattr__" = some none)
 (Gk : ac6 K (.ref c9) "__class__" = some (some (.builtin "object.__class__")))
 (Gm : ai4 K eo [.type "ValueError", .type "Exception", .type "BaseException", .type "object"] "ValueError.__new__" = true)
 (Gn : afM K eo (.type "object") = some true)
 (Gp : afM K eo (.type "BaseException") = some true)
 (Gq : ac6 K (.ref eo) "__getattribute__" = some (some (.builtin "BaseException.__getattribute__")))
 (Gr : ac6 K (.ref eo) "__getattr__" = some none)
 (Gs : ac6 K (.ref eo) "__class__" = some (some (.builtin "object.__class__")))
 (Gu : acU K acR "EYES_AT_MOST" = some (some (.int 7 acp)))
 (Gv : acU K acR "TURNS_AT_MOST" = some (some (.int 12 acq)))
 : ∃ fd : adg, (∀ (s : acF) (v : acC), ajO s fd ⟨[v], []⟩ [("_law_script", v)]) /\ ∀ base : aer, K.In base -> base.Ns acR mg -> aK l.prog w K mg base (aJ l.prog w) 7 fa fd ["_law_script"] (zh K) := by
 have e := Wh.symm.trans (acY X G ij)
 cases e
 have mE := aZ (st := oH) C8 C9 Dc
 have tQ := mE.binds (ps := ["lo", "hi"]) fun _ _ _ _ _ _ us hl => match us, hl with | [_, _], _ => rfl
 have pR := aZ (st := oI) Dd De Df
 have xl := pR.binds (ps := ["one", "other"]) fun _ _ _ _ _ _ us hl => match us, hl with | [_, _], _ => rfl
 have pS := aZ (st := oJ) Dg Dh Di
 have xn := pS.binds (ps := ["some"]) fun _ _ _ _ _ _ us hl => match us, hl with | [_], _ => rfl
 have j4 := aZ (st := oK) Dj Dk Dl
 have pT := j4.binds (ps := ["one", "other"]) fun _ _ _ _ _ _ us hl => match us, hl with | [_, _], _ => rfl
 have mF := aZ (st := oM) Dm Dp Dq
 have tR := mF.binds (ps := ["one", "by"]) fun _ _ _ _ _ _ us hl => match us, hl with | [_, _], _ => rfl
 have pU := aZ (st := oN) Dr Ds Dt
 have xu := pU.binds (ps := ["steps", "marks"]) fun _ _ _ _ _ _ us hl => match us, hl with | [_, _], _ => rfl
 have pV := aZ (st := oO) Du Dv Dw
 have xy := pV.binds (ps := ["tops", "marks"]) fun _ _ _ _ _ _ us hl => match us, hl with | [_, _], _ => rfl
 have pW := aZ (st := oP) Dx Dy Dz
 have xB := pW.binds (ps := ["board", "kind", "turn"]) fun _ _ _ _ _ _ us hl => match us, hl with | [_, _, _], _ => rfl
 have pX := aZ (st := oQ) DA DB DC
 have xD := pX.binds (ps := ["board", "claim"]) fun _ _ _ _ _ _ us hl => match us, hl with | [_, _], _ => rfl
 have pY := aZ (st := oR) DD DE DF
 have xF := pY.binds (ps := ["claim", "kind", "turn"]) fun _ _ _ _ _ _ us hl => match us, hl with | [_, _, _], _ => rfl
 have pZ := aZ (st := oT) DG DH DI
 have xH := pZ.binds (ps := ["board", "claim"]) fun _ _ _ _ _ _ us hl => match us, hl with | [_, _], _ => rfl
 have p0 := aZ (st := oU) DJ DK DL
 have xJ := p0.binds (ps := ["board", "eye"]) fun _ _ _ _ _ _ us hl => match us, hl with | [_, _], _ => rfl
 have p8 := aZ (st := oV) DM DN DO
 have xM := p8.binds (ps := ["board"]) fun _ _ _ _ _ _ us hl => match us, hl with | [_], _ => rfl
 have p9 := aZ (st := oW) DP DQ DR
 have xO := p9.binds (ps := ["steps", "groups"]) fun _ _ _ _ _ _ us hl => match us, hl with | [_, _], _ => rfl
 have qb := aZ (st := oX) DS DT DU
 have xQ := qb.binds (ps := ["board"]) fun _ _ _ _ _ _ us hl => match us, hl with | [_], _ => rfl
 have qc := aZ (st := oY) DV DW DX
 have xS := qc.binds (ps := ["eyes"]) fun _ _ _ _ _ _ us hl => match us, hl with | [_], _ => rfl
 have mG := aZ (st := oZ) DY DZ D0
 have tS := mG.binds (ps := ["pairs", "some"]) fun _ _ _ _ _ _ us hl => match us, hl with | [_, _], _ => rfl
 have qd := aZ (st := o4) D1 D2 D3
 have xV := qd.binds (ps := ["pairs", "some"]) fun _ _ _ _ _ _ us hl => match us, hl with | [_, _], _ => rfl
 have i5 := aZ (st := o5) D4 D5 D6
 have mH := i5.binds (ps := ["board"]) fun _ _ _ _ _ _ us hl => match us, hl with | [_], _ => rfl
 have tU := aZ (st := o6) D7 D8 D9
 have xY := tU.binds (ps := ["self", "eyes", "turns", "up", "down", "most"]) fun _ _ _ _ _ _ us hl => match us, hl with | [_, _, _, _, _, _], _ => rfl
 have tV := aZ (st := o7) Ea Eb z5
 have x3 := tV.binds (ps := ["self", "eye"]) fun _ _ _ _ _ _ us hl => match us, hl with | [_, _], _ => rfl
 have tW := aZ (st := o8) Ec Ed z6
 have mI := tW.binds (ps := ["self", "turn"]) fun _ _ _ _ _ _ us hl => match us, hl with | [_, _], _ => rfl
 have tX := aZ (st := o9) Ee Ef z7
 have tY := tX.binds (ps := ["self", "eye", "turn", "lo", "hi"]) fun _ _ _ _ _ _ us hl => match us, hl with | [_, _, _, _, _], _ => rfl
 have tZ := aZ (st := pd) Eg Eh z9
 have x8 := tZ.binds (ps := ["self", "eye", "turn"]) fun _ _ _ _ _ _ us hl => match us, hl with | [_, _, _], _ => rfl
 have t7 := aZ (st := pe) Ei Ej Aa
 have t8 := t7.binds (ps := ["self"]) fun _ _ _ _ _ _ us hl => match us, hl with | [_], _ => rfl
 have t9 := aZ (st := pf) Ek El Ab
 have yb := t9.binds (ps := ["self", "eye", "turn"]) fun _ _ _ _ _ _ us hl => match us, hl with | [_, _, _], _ => rfl
 have ua := aZ (st := ph) Em Eo Ac
 have yd := ua.binds (ps := ["self", "eye", "turn"]) fun _ _ _ _ _ _ us hl => match us, hl with | [_, _, _], _ => rfl
 have bI := aZ (st := pj) Ep Er Es
 have bP := bI.binds (ps := ["_law_script", "_law_k", "_law_many"]) fun _ _ _ _ _ _ us hl => match us, hl with | [_, _, _], _ => rfl
 have kH := aZ (st := pk) Et Eu Ew
 have qe := kH.binds (ps := ["_law_script", "_law_k", "_law_many"]) fun _ _ _ _ _ _ us hl => match us, hl with | [_, _, _], _ => rfl
 have qf := aZ (st := pq) Ex Ey Ez
 have yi := qf.binds (ps := ["_law_script"]) fun _ _ _ _ _ _ us hl => match us, hl with | [_], _ => rfl
 have qg := aZ (st := pw) EA EB EC
 have yk := qg.binds (ps := ["_law_script", "_law_shape_here"]) fun _ _ _ _ _ _ us hl => match us, hl with | [_, _], _ => rfl
 have mJ := aZ (st := pA) ED EE EF
 have ue := mJ.binds (ps := ["_law_script", "_law_k", "_law_far", "_law_number", "_law_false"]) fun _ _ _ _ _ _ us hl => match us, hl with | [_, _, _, _, _], _ => rfl
 have qh := aZ (st := pB) EG EH EI
 have yo := qh.binds (ps := ["_law_script", "_law_shape_here", "_law_course_here"]) fun _ _ _ _ _ _ us hl => match us, hl with | [_, _, _], _ => rfl
 have qi := aZ (st := pC) EJ EK EL
 have yq := qi.binds (ps := ["_law_script", "_law_shape_here", "_law_told_here"]) fun _ _ _ _ _ _ us hl => match us, hl with | [_, _, _], _ => rfl
 have qj := aZ (st := pE) EM EN EO
 have yt := qj.binds (ps := ["_law_found"]) fun _ _ _ _ _ _ us hl => match us, hl with | [_], _ => rfl
 have qk := aZ (st := pF) ER ES ET
 have yw := qk.binds (ps := ["_law_board_here", "_law_told_here"]) fun _ _ _ _ _ _ us hl => match us, hl with | [_, _], _ => rfl
 have ql := aZ (st := pG) EU EV EW
 have yz := ql.binds (ps := ["_law_script", "_law_shape_here", "_law_course_here", "_law_told_here", "_law_board_here"]) fun _ _ _ _ _ _ us hl => match us, hl with | [_, _, _, _, _], _ => rfl
 have qm := aZ (st := pH) EX EY EZ
 have yB := qm.binds (ps := ["_law_shape_here", "_law_one", "_law_other"]) fun _ _ _ _ _ _ us hl => match us, hl with | [_, _, _], _ => rfl
 have qo := aZ (st := pI) E1 E2 E3
 have yD := qo.binds (ps := ["_law_shape_here", "_law_told_here", "_law_one", "_law_other"]) fun _ _ _ _ _ _ us hl => match us, hl with | [_, _, _, _], _ => rfl
 have mK := aZ (st := pJ) E4 E5 E6
 have uf := mK.binds (ps := ["_law_shape_here", "_law_told_here"]) fun _ _ _ _ _ _ us hl => match us, hl with | [_, _], _ => rfl
 have kU := aZ (st := pK) E7 E8 E9
 have qp := kU.binds (ps := ["_law_some", "_law_pairs_here"]) fun _ _ _ _ _ _ us hl => match us, hl with | [_, _], _ => rfl
 have qq := aZ (st := pL) Fb Fc Fd
 have yI := qq.binds (ps := ["_law_some", "_law_more"]) fun _ _ _ _ _ _ us hl => match us, hl with | [_, _], _ => rfl
 have qr := aZ (st := pM) Fe Ff Fg
 have yK := qr.binds (ps := ["_law_many"]) fun _ _ _ _ _ _ us hl => match us, hl with | [_], _ => rfl
 have qt := aZ (st := pN) Fh Fi Fj
 have yM := qt.binds (ps := ["_law_some", "_law_shape_here"]) fun _ _ _ _ _ _ us hl => match us, hl with | [_, _], _ => rfl
 have mL := aZ (st := pO) Fl Fm Fn
 have ug := mL.binds (ps := ["_law_found", "_law_shape_here", "_law_pairs_here"]) fun _ _ _ _ _ _ us hl => match us, hl with | [_, _, _], _ => rfl
 have ui := aZ (st := fS) Fo Fp Fq
 have Cc := ui.binds (ps := ["_law_script"]) fun _ _ _ _ _ _ us hl => match us, hl with | [_], _ => rfl
 have T : ∃ T : Tx K mg, T.ij = fa /\ T.uh = acW "law" "law" (aS fS) (aQ fS) (aw fS) .none C4 C5 C6 C3 z4 C7 := ⟨{ jW := zm, xj := _, mE := mE, tQ := tQ, B6 := acY X G jW, jX := zo, xk := _, pR := pR, xl := xl, Ky := acY X G jX, jY := zq, xm := _, pS := pS, xn := xn, Kz := acY X G jY, jZ := zr, xo := _, j4 := j4, pT := pT, xq := acY X G jZ, j5 := zt, xr := _, mF := mF, tR := tR, B7 := acY X G j5, j6 := zu, xt := _, pU := pU, xu := xu, KA := acY X G j6, j7 := zv, xx := _, pV := pV, xy := xy, KC := acY X G j7, j8 := zx, xA := _, pW := pW, xB := xB, KG := acY X G j8, j9 := zy, xC := _, pX := pX, xD := xD, KH := acY X G j9, kc := zA, xE := _, pY := pY, xF := xF, KI := acY X G kc, kd := zB, xG := _, pZ := pZ, xH := xH, KJ := acY X G kd, ke := zC, xI := _, p0 := p0, xJ := xJ, KL := acY X G ke, kf := zD, xK := _, p8 := p8, xM := xM, KN := acY X G kf, kg := zE, xN := _, p9 := p9, xO := xO, KO := acY X G kg, kh := zF, xP := _, qb := qb, xQ := xQ, KP := acY X G kh, ki := zG, xR := _, qc := qc, xS := xS, KQ := acY X G ki, kj := zH, xT := _, mG := mG, tS := tS, B8 := acY X G kj, ko := zI, xU := _, qd := qd, xV := xV, KR := acY X G ko, kr := zJ, xW := _, i5 := i5, mH := mH, tT := acY X G kr, ku := uG, xX := _, tU := tU, xY := xY, kx := uH, xZ := _, tV := tV, x3 := x3, kz := uI, x4 := _, tW := tW, mI := mI, kA := uJ, x5 := _, tX := tX, tY := tY, kB := uK, x6 := _, tZ := tZ, x8 := x8, kC := uL, x9 := _, t7 := t7, t8 := t8, kD := uM, ya := _, t9 := t9, yb := yb, kE := uN, yc := _, ua := ua, yd := yd, kF := zK, ye := _, bI := bI, bP := bP, bZ := acY X G kF, kG := zL, yf := _, kH := kH, qe := qe, yg := acY X G kG, kI := zM, yh := _, qf := qf, yi := yi, KS := acY X G kI, kJ := zN, yj := _, qg := qg, yk := yk, KU := acY X G kJ, kK := zO, ym := _, mJ := mJ, ue := ue, B9 := acY X G kK, kL := zP, yn := _, qh := qh, yo := yo, KW := acY X G kL, kM := zQ, yp := _, qi := qi, yq := yq, KY := acY X G kM, kN := zR, yr := _, qj := qj, yt := yt, KZ := acY X G kN, kO := zS, yu := _, qk := qk, yw := yw, K0 := acY X G kO, kP := zT, yy := _, ql := ql, yz := yz, K1 := acY X G kP, kQ := zU, yA := _, qm := qm, yB := yB, K2 := acY X G kQ, kR := zV, yC := _, qo := qo, yD := yD, K3 := acY X G kR, kS := zW, yE := _, mK := mK, uf := uf, Ca := acY X G kS, kT := zX, yF := _, kU := kU, qp := qp, yG := acY X G kT, kW := zY, yH := _, qq := qq, yI := yI, K4 := acY X G kW, kX := zZ, yJ := _, qr := qr, yK := yK, K5 := acY X G kX, kY := z0, yL := _, qt := qt, yM := yM, K6 := acY X G kY, kZ := z3, yN := _, mL := mL, ug := ug, Cb := acY X G kZ, ij := fa, uh := _, ui := ui, Cc := Cc, Tt := acY X G ij, K7 := adO X G Fs, K8 := adO X G Ft, K9 := adO X G Fu, Cd := adO X G Fv, La := adO X G Fw, uj := adO X G Fx, eg := adO X G Fy, mM := adO X G Fz, yO := adO X G FA, k6 := adO X G FC, fh := adO X G FD, Lb := adO X G FE, qu := adO X G FF, uk := uk, Tu := acY X G FG, el := el, yP := acY X G FH, c9 := c9, yQ := acY X G FK, eo := eo, Lc := acY X G FN, aH := aH, Ld := acY X G FO, bB := ⟨FP, FQ, FR, FT⟩, i6 := i6, k7 := k7, mO := mO, mP := mP, mQ := mQ, gE := gE, qv := ⟨qv, ku, FU, FV⟩, Le := ⟨kx, FW, z5⟩, um := ⟨kz, FX, z6⟩, Ce := ⟨kA, FY, z7⟩, Lf := ⟨kB, FZ, z9⟩, Cf := ⟨kC, F0, Aa⟩, Lg := ⟨kD, F1, Ab⟩, Lh := ⟨kE, F4, Ac⟩, yR := ⟨F5, F6, F7, Ga, Gb, Ge⟩, yS := ⟨Gf, Gg, Gh, Gi, Gj, Gk⟩, Li := ⟨Gm, Gn, Gp, Gq, Gr, Gs⟩, Lj := ⟨_, acY X G Gu⟩, Ll := ⟨_, acY X G Gv⟩ }, rfl, rfl⟩
 obtain ⟨T, e1, e2⟩ := T
 refine ⟨acW "law" "law" (aS fS) (aQ fS) (aw fS) .none C4 C5 C6 C3 z4 C7, fun s v => .of_eq rfl, fun base _ _ => ?_⟩
 rw [<- e1, <- e2]
 exact V4 T
theorem walk {l : aih} {q : ac2} {loose : List Str} {XP : (Str -> Option acC) -> aer -> Prop} {YP : adw -> aer -> Prop} {d : DefRec} {K : Params -> acB} (hn : l.most = some 63) (hdf : d.params.defaults = [])
 (hY : ∀ (w : adw) (h : aer), YP w h -> (K w.params).In h)
 (F : ∀ (w : adw) (mg : Str -> Option acC) (fa : acJ) (h : aer), (K w.params).In h -> h.Ns acR mg -> mg d.name = some (.ref fa) ->
   ∃ fd : adg, (∀ (s : acF) (u : acC), ajO s fd ⟨[u], []⟩ [("_law_script", u)]) /\ ∀ base : aer, (K w.params).In base -> base.Ns acR mg -> aK l.prog w (K w.params) mg base (aJ l.prog w) 7 fa fd ["_law_script"] (zh (K w.params))) :
 akt q loose XP YP l.row.toRowW d [] (fun f vs => PySem.call f vs) :=
 Gz.P5 (k := 7) (x := "_law_script") (CX := fun w => aJ l.prog w) (sp := fun w => zh (K w.params)) hn hdf ⟨rfl, by decide, by decide⟩ hY F (fun _ _ a ns hl hS => ⟨a, ns, rfl, hS, hl, fun _ => rfl⟩) fun _ _ _ _ _ z => OU z
end BW
namespace PySem.W.Fast
theorem tw3545519211472537515:True:=⟨⟩
theorem tw6665481190817059022:True:=⟨⟩
theorem tw6582794042368894141:True:=⟨⟩
theorem tw10250898993466544797:True:=⟨⟩
theorem tw6320086575007616020:True:=⟨⟩
theorem tw1882522181179321267:True:=⟨⟩
theorem tw15424114980490411547:True:=⟨⟩
theorem tw2418668694285695731:True:=⟨⟩
theorem tw3409943205001891300:True:=⟨⟩
theorem tw7917502437451876105:True:=⟨⟩
theorem tw2414213740284898035:True:=⟨⟩
theorem tw13776414150275101265:True:=⟨⟩
theorem tw2436950082692324259:True:=⟨⟩
theorem tw15096526073613648052:True:=⟨⟩
theorem tw12037950767804448889:True:=⟨⟩
theorem tw8869315485199326967:True:=⟨⟩
theorem tw12121667166611501613:True:=⟨⟩
theorem tw124685465948035011:True:=⟨⟩
theorem tw4665744912329709504:True:=⟨⟩
theorem tw12463148487753152865:True:=⟨⟩
theorem tw8806923966472819788:True:=⟨⟩
theorem tw12977541459207943170:True:=⟨⟩
theorem tw7840845483835984489:True:=⟨⟩
theorem tw15169321313156400820:True:=⟨⟩
theorem tw6189485963322803482:True:=⟨⟩
theorem tw335737814751287107:True:=⟨⟩
theorem tw10018671096542140201:True:=⟨⟩
theorem tw18430910815043153223:True:=⟨⟩
theorem tw11142529719898429923:True:=⟨⟩
theorem tw12454656998226562506:True:=⟨⟩
theorem tw17361565076476786605:True:=⟨⟩
theorem tw5214076725286279059:True:=⟨⟩
theorem tw6674292215138001522:True:=⟨⟩
theorem tw6711240654599351674:True:=⟨⟩
theorem tw2710723939628247808:True:=⟨⟩
theorem tw7728879088341326118:True:=⟨⟩
theorem tw14362037570590508108:True:=⟨⟩
theorem tw16139508821208595339:True:=⟨⟩
theorem tw1812060425945796185:True:=⟨⟩
theorem tw17209529621267739346:True:=⟨⟩
theorem tw4373599572713620423:True:=⟨⟩
theorem tw10767743244936305414:True:=⟨⟩
theorem tw17583851152238335702:True:=⟨⟩
theorem tw8421018356310358294:True:=⟨⟩
theorem tw2970399752207651486:True:=⟨⟩
theorem tw11106109579434387827:True:=⟨⟩
theorem tw17175693594993436790:True:=⟨⟩
theorem tw15910642797605330054:True:=⟨⟩
theorem tw15698857118944820380:True:=⟨⟩
theorem tw17849433667705282181:True:=⟨⟩
theorem tw12709138949826461792:True:=⟨⟩
theorem tw10196244904933792585:True:=⟨⟩
theorem tw12784764159970252406:True:=⟨⟩
theorem tw13065762198656187418:True:=⟨⟩
theorem tw10626056900819196121:True:=⟨⟩
theorem tw17709218007731270024:True:=⟨⟩
theorem tw224516165614989321:True:=⟨⟩
theorem tw3042531207891804150:True:=⟨⟩
theorem tw2788080241453709348:True:=⟨⟩
theorem tw16555176927350995792:True:=⟨⟩
theorem tw13100236770279514262:True:=⟨⟩
theorem tw3572179388520137179:True:=⟨⟩
theorem tw16728193587669750091:True:=⟨⟩
theorem tw17221949825502469063:True:=⟨⟩
theorem tw1686123043099005178:True:=⟨⟩
theorem tw4140480689571510466:True:=⟨⟩
theorem tw12919586867496706910:True:=⟨⟩
theorem tw16758252093431300423:True:=⟨⟩
theorem tw12242552114277126957:True:=⟨⟩
theorem tw4897809408803467769:True:=⟨⟩
theorem tw11764275819503159184:True:=⟨⟩
theorem tw11057532273360486574:True:=⟨⟩
theorem tw2664336285572089149:True:=⟨⟩
theorem tw7228691454276260040:True:=⟨⟩
theorem tw5582866285236689880:True:=⟨⟩
theorem tw6330302847485635285:True:=⟨⟩
theorem tw16034834682008366957:True:=⟨⟩
theorem tw15106293473662320717:True:=⟨⟩
theorem tw3273470961590675232:True:=⟨⟩
theorem tw10032990858054222521:True:=⟨⟩
theorem tw343258514374910141:True:=⟨⟩
theorem tw10736293540512242703:True:=⟨⟩
theorem tw9724984358175907846:True:=⟨⟩
theorem tw12568293683638636883:True:=⟨⟩
theorem tw1400101859537619364:True:=⟨⟩
theorem tw14855505273643739073:True:=⟨⟩
theorem tw16725338991183094871:True:=⟨⟩
theorem tw2610806924173774134:True:=⟨⟩
theorem tw4836390156629917660:True:=⟨⟩
theorem tw9469260517844277025:True:=⟨⟩
theorem tw4834215268103082532:True:=⟨⟩
theorem tw9342386807792629868:True:=⟨⟩
theorem tw4240584772026052907:True:=⟨⟩
theorem tw7071736340127917386:True:=⟨⟩
theorem tw6346978088965204908:True:=⟨⟩
theorem tw3872663954682998164:True:=⟨⟩
theorem tw9014963612184247131:True:=⟨⟩
theorem tw82833893531308797:True:=⟨⟩
theorem tw2960580336567347110:True:=⟨⟩
theorem tw8570573976080356725:True:=⟨⟩
theorem tw12514722053627460829:True:=⟨⟩
theorem tw17534385270264783407:True:=⟨⟩
theorem tw12605745279233093474:True:=⟨⟩
theorem tw4039109970859861935:True:=⟨⟩
theorem tw8673129775853487138:True:=⟨⟩
theorem tw17772373269489627624:True:=⟨⟩
theorem tw7555279936384045674:True:=⟨⟩
theorem tw11811645050610316475:True:=⟨⟩
theorem tw14468698897500572946:True:=⟨⟩
theorem tw6328405991695648973:True:=⟨⟩
theorem tw2113955979312384004:True:=⟨⟩
theorem tw15204483918596334432:True:=⟨⟩
theorem tw4617763873428232628:True:=⟨⟩
theorem tw1128534815442902747:True:=⟨⟩
theorem tw11077509692133456621:True:=⟨⟩
theorem tw8102690408475241197:True:=⟨⟩
theorem tw14991538096323977832:True:=⟨⟩
theorem tw4406926142870237164:True:=⟨⟩
theorem tw5954212774046199700:True:=⟨⟩
theorem tw17660499775386673940:True:=⟨⟩
theorem tw16874569765118665564:True:=⟨⟩
theorem tw4206082251795934008:True:=⟨⟩
theorem tw16688783712635233578:True:=⟨⟩
theorem tw5754268854538466457:True:=⟨⟩
theorem tw5203973394595943690:True:=⟨⟩
theorem tw16355911718650338273:True:=⟨⟩
theorem tw13252668191582923080:True:=⟨⟩
theorem tw12049484569670473028:True:=⟨⟩
theorem tw12658199144033601746:True:=⟨⟩
theorem tw1513592970163480056:True:=⟨⟩
theorem tw9188332462726604221:True:=⟨⟩
theorem tw8844028033991683643:True:=⟨⟩
theorem tw13856710599166335590:True:=⟨⟩
theorem tw17786235057461299265:True:=⟨⟩
theorem tw6444328480549683966:True:=⟨⟩
theorem tw2054302334147996132:True:=⟨⟩
theorem tw3531200393497956462:True:=⟨⟩
theorem tw5546769284057250000:True:=⟨⟩
theorem tw11405970889630501469:True:=⟨⟩
theorem tw16230396310984099495:True:=⟨⟩
theorem tw10020150040168105017:True:=⟨⟩
theorem tw12421729274086702201:True:=⟨⟩
theorem tw13813850427396640365:True:=⟨⟩
theorem tw9862050077187528983:True:=⟨⟩
theorem tw5717424982228935564:True:=⟨⟩
theorem tw2005232227258639382:True:=⟨⟩
theorem tw4457828323748786648:True:=⟨⟩
theorem tw6613408884968179780:True:=⟨⟩
theorem tw1931251319472823775:True:=⟨⟩
theorem tw14999530984734392288:True:=⟨⟩
theorem tw15941880716816302710:True:=⟨⟩
theorem tw4633414006904427513:True:=⟨⟩
theorem tw3763082978005617426:True:=⟨⟩
theorem tw17358594913182082209:True:=⟨⟩
theorem tw4382290982593103626:True:=⟨⟩
theorem tw3110193688710779327:True:=⟨⟩
theorem tw8296737096287768039:True:=⟨⟩
theorem tw17727842345564415059:True:=⟨⟩
theorem tw4800717862307466296:True:=⟨⟩
theorem tw9602489716500332354:True:=⟨⟩
theorem tw8349085798530636748:True:=⟨⟩
theorem tw5698343965090768816:True:=⟨⟩
theorem tw13995384245839103632:True:=⟨⟩
theorem tw5749045948489670579:True:=⟨⟩
theorem tw10050190177803423996:True:=⟨⟩
theorem tw10398738368816829810:True:=⟨⟩
theorem tw4447215357395823904:True:=⟨⟩
theorem tw11116479807043546719:True:=⟨⟩
theorem tw14024177122550461421:True:=⟨⟩
theorem tw4254876404865215883:True:=⟨⟩
theorem tw3598185135746729307:True:=⟨⟩
theorem tw9600220166393850085:True:=⟨⟩
theorem tw18238554580100117946:True:=⟨⟩
theorem tw7111796259628281241:True:=⟨⟩
theorem tw10441568124318440978:True:=⟨⟩
theorem tw3646798719523095791:True:=⟨⟩
theorem tw15425351034641618135:True:=⟨⟩
theorem tw6169136304534457672:True:=⟨⟩
theorem tw9425140103676400763:True:=⟨⟩
theorem tw10563985565826612612:True:=⟨⟩
theorem tw1041155584693758083:True:=⟨⟩
theorem tw16831411090949544889:True:=⟨⟩
theorem tw5073335897296854448:True:=⟨⟩
theorem tw7559907621090741322:True:=⟨⟩
theorem tw10928593746612004987:True:=⟨⟩
theorem tw11768931617843114260:True:=⟨⟩
theorem tw7460021357326093860:True:=⟨⟩
theorem tw1350374813173187838:True:=⟨⟩
theorem tw13721987376547695361:True:=⟨⟩
theorem tw2802543700309643786:True:=⟨⟩
theorem tw1838427588159199191:True:=⟨⟩
theorem tw10215746914426385325:True:=⟨⟩
theorem tw13823248150824976839:True:=⟨⟩
theorem tw18299930301603268008:True:=⟨⟩
theorem tw13737173685812081674:True:=⟨⟩
theorem tw9626489617343572515:True:=⟨⟩
theorem tw12035115288348996296:True:=⟨⟩
theorem tw2935621009012975588:True:=⟨⟩
theorem tw13077405517568551879:True:=⟨⟩
theorem tw15564098388449076862:True:=⟨⟩
theorem tw14787228871051503303:True:=⟨⟩
theorem tw17077164929010645596:True:=⟨⟩
theorem tw843974829899385328:True:=⟨⟩
theorem tw4425759573481427503:True:=⟨⟩
theorem tw1845582872752444527:True:=⟨⟩
theorem tw1013755273020983988:True:=⟨⟩
theorem tw4550505914646064306:True:=⟨⟩
theorem tw5419823049751896480:True:=⟨⟩
theorem tw12791765726361544670:True:=⟨⟩
theorem tw16927628864634200528:True:=⟨⟩
theorem tw4205497706960157784:True:=⟨⟩
theorem tw5200746362266753094:True:=⟨⟩
theorem tw526913161620131678:True:=⟨⟩
theorem tw15123639306524665876:True:=⟨⟩
theorem tw17291115183387910301:True:=⟨⟩
theorem tw3778436343145033955:True:=⟨⟩
theorem tw4450068956852687246:True:=⟨⟩
theorem tw9527932672836048833:True:=⟨⟩
theorem tw4461734860474169766:True:=⟨⟩
theorem tw12625494882813619116:True:=⟨⟩
theorem tw7221111813038747112:True:=⟨⟩
theorem tw8138589697986952776:True:=⟨⟩
theorem tw17140399140053610716:True:=⟨⟩
theorem tw9268287286737249873:True:=⟨⟩
theorem tw12781013167138882002:True:=⟨⟩
theorem tw17455882436067765698:True:=⟨⟩
theorem tw17766504113270546212:True:=⟨⟩
theorem tw8608774271833598027:True:=⟨⟩
theorem tw14782579215490480927:True:=⟨⟩
theorem tw8008753986861832493:True:=⟨⟩
theorem tw3981302312893866439:True:=⟨⟩
theorem tw4876953034159745013:True:=⟨⟩
theorem tw8026070727692801834:True:=⟨⟩
theorem tw2417124275871253479:True:=⟨⟩
theorem tw7896015735362862407:True:=⟨⟩
theorem tw11221664076965820216:True:=⟨⟩
theorem tw18424439299430416122:True:=⟨⟩
theorem tw2641605678861365595:True:=⟨⟩
theorem tw10156406183365730279:True:=⟨⟩
theorem tw3349312903976392910:True:=⟨⟩
theorem tw14973113515903294609:True:=⟨⟩
theorem tw6751064366862792613:True:=⟨⟩
theorem tw5047818240670548603:True:=⟨⟩
theorem tw2972585459082983686:True:=⟨⟩
theorem tw6720131507521435010:True:=⟨⟩
theorem tw10950534084900930907:True:=⟨⟩
theorem tw8186530975229520965:True:=⟨⟩
theorem tw1795865218672622234:True:=⟨⟩
theorem tw17784799106565832091:True:=⟨⟩
theorem tw14072360018730579599:True:=⟨⟩
theorem tw8400383570878538334:True:=⟨⟩
theorem tw17064072075227201284:True:=⟨⟩
theorem tw5481492115413088624:True:=⟨⟩
theorem tw14142258520456079678:True:=⟨⟩
theorem tw14777073768368556101:True:=⟨⟩
theorem tw17933896559782737048:True:=⟨⟩
theorem tw3423605399768674343:True:=⟨⟩
theorem tw2726131213025375082:True:=⟨⟩
theorem tw917143339264735614:True:=⟨⟩
theorem tw16794675870010040847:True:=⟨⟩
theorem tw16440772761426493701:True:=⟨⟩
theorem tw12187141747889090990:True:=⟨⟩
theorem tw17019371485824450693:True:=⟨⟩
theorem tw10531406237282443668:True:=⟨⟩
theorem tw13464298244269962645:True:=⟨⟩
theorem tw1727127235164503230:True:=⟨⟩
theorem tw21254780740560786:True:=⟨⟩
theorem tw13685798334749908154:True:=⟨⟩
theorem tw13555125873567664082:True:=⟨⟩
theorem tw4475721361362708322:True:=⟨⟩
theorem tw488638052139146380:True:=⟨⟩
theorem tw14485774174463113452:True:=⟨⟩
theorem tw11243584866728600908:True:=⟨⟩
theorem tw5339256630569378925:True:=⟨⟩
theorem tw6417038680277697702:True:=⟨⟩
theorem tw5535649807099351909:True:=⟨⟩
theorem tw13616269014062906888:True:=⟨⟩
theorem tw10830269712764109514:True:=⟨⟩
theorem tw6916372374549879715:True:=⟨⟩
theorem tw2746544785374375912:True:=⟨⟩
theorem tw3503180461202870368:True:=⟨⟩
theorem tw13432182608326234792:True:=⟨⟩
theorem tw6612903400630984698:True:=⟨⟩
theorem tw2480566927121614905:True:=⟨⟩
theorem tw6686148272290875098:True:=⟨⟩
theorem tw9584460795408968072:True:=⟨⟩
theorem tw2072824116975131770:True:=⟨⟩
theorem tw14523734968794346324:True:=⟨⟩
theorem tw9447238804232379627:True:=⟨⟩
theorem tw3917211076516213710:True:=⟨⟩
theorem tw2601500923885707907:True:=⟨⟩
theorem tw14358808308053568177:True:=⟨⟩
theorem tw3580693499106283129:True:=⟨⟩
theorem tw11930811310447173381:True:=⟨⟩
theorem tw11451718606361970294:True:=⟨⟩
theorem tw1008944662821707659:True:=⟨⟩
theorem tw11119611926798082980:True:=⟨⟩
theorem tw6928899266410216302:True:=⟨⟩
theorem tw15127799930006137517:True:=⟨⟩
theorem tw6248048110022449287:True:=⟨⟩
theorem tw9015449440822200482:True:=⟨⟩
theorem tw8547675158630666521:True:=⟨⟩
theorem tw9060458080405342693:True:=⟨⟩
theorem tw6620752205764059079:True:=⟨⟩
theorem tw4452356153592832237:True:=⟨⟩
theorem tw6809051995845665919:True:=⟨⟩
theorem tw10945515832213640701:True:=⟨⟩
theorem tw165114511307659243:True:=⟨⟩
theorem tw8448345074283850189:True:=⟨⟩
theorem tw9140996467505309960:True:=⟨⟩
theorem tw13113872570843190267:True:=⟨⟩
theorem tw4412114097078745227:True:=⟨⟩
theorem tw17856595553182460731:True:=⟨⟩
theorem tw2695053237107555495:True:=⟨⟩
theorem tw5177130632888652195:True:=⟨⟩
theorem tw4127273779708869543:True:=⟨⟩
theorem tw7727146012200279251:True:=⟨⟩
theorem tw44061298070738285:True:=⟨⟩
theorem tw3445193699561134970:True:=⟨⟩
theorem tw277246823424103130:True:=⟨⟩
theorem tw5732424213876522752:True:=⟨⟩
theorem tw13575032458717733672:True:=⟨⟩
theorem tw7345014919871192303:True:=⟨⟩
theorem tw5092989617991530157:True:=⟨⟩
theorem tw17692463112669227238:True:=⟨⟩
theorem tw8942851114304738924:True:=⟨⟩
theorem tw701610145892630387:True:=⟨⟩
theorem tw9910876085288988201:True:=⟨⟩
theorem tw9237633915830094370:True:=⟨⟩
theorem tw568601240897234174:True:=⟨⟩
theorem tw10118844188127277443:True:=⟨⟩
theorem tw325027272576215598:True:=⟨⟩
theorem tw12267139373400612882:True:=⟨⟩
theorem tw7544527932001556958:True:=⟨⟩
theorem tw8421967920953085960:True:=⟨⟩
theorem tw17709838122160996291:True:=⟨⟩
theorem tw9566507850151450649:True:=⟨⟩
theorem tw5189549154010965573:True:=⟨⟩
theorem tw10761029266693119925:True:=⟨⟩
theorem tw1951519951962788140:True:=⟨⟩
theorem tw14317276641155630162:True:=⟨⟩
theorem tw1282192002038834089:True:=⟨⟩
theorem tw15288566279530090994:True:=⟨⟩
theorem tw12811493458916470666:True:=⟨⟩
theorem tw13272003189538436571:True:=⟨⟩
theorem tw6247550564843321859:True:=⟨⟩
theorem tw1767993266190468372:True:=⟨⟩
theorem tw9250558974858323322:True:=⟨⟩
theorem tw573317015648060091:True:=⟨⟩
theorem tw15793961499336477147:True:=⟨⟩
theorem tw5794529417091182443:True:=⟨⟩
theorem tw12026510406869952649:True:=⟨⟩
theorem tw8637109863427266786:True:=⟨⟩
theorem tw3973291044897120077:True:=⟨⟩
theorem tw3998485592061808444:True:=⟨⟩
theorem tw1242366499865943622:True:=⟨⟩
theorem tw3473389207613438738:True:=⟨⟩
theorem tw8023932186901148643:True:=⟨⟩
theorem tw1303690771421297841:True:=⟨⟩
theorem tw6279759861165897481:True:=⟨⟩
theorem tw9159522185555238451:True:=⟨⟩
theorem tw4221808949813581063:True:=⟨⟩
theorem tw15368945462624006915:True:=⟨⟩
theorem tw14979474827553025218:True:=⟨⟩
theorem tw17783980497659108038:True:=⟨⟩
theorem tw16645883080565382699:True:=⟨⟩
theorem tw7064369713665187437:True:=⟨⟩
end PySem.W.Fast
open PySem PySem.W PyProof.Rows
set_option maxRecDepth 100000 in
set_option maxHeartbeats 0 in
theorem PySem.Challenge.cw_gaze_k42_suspects_holds : PySem.Challenge.rw_gaze_k42_suspects.Holds := by
 w_on; o_law; k_head; (case hw => w_witness2)
 k_fill
 refine BW.walk (l := PySem.Challenge.rw_gaze_k42_suspects) rfl rfl (fun w h Y => PySem.W.kIn_of Y) ?F
 case F =>
  intro w mg fa h KX G hmg
  refine' BW.Wg KX G hmg ?jW ?C8 ?C9 ?Dc ?jX ?Dd ?De ?Df ?jY ?Dg ?Dh ?Di ?jZ ?Dj ?Dk ?Dl ?j5 ?Dm ?Dp ?Dq ?j6 ?Dr ?Ds ?Dt ?j7 ?Du ?Dv ?Dw ?j8 ?Dx ?Dy ?Dz ?j9 ?DA ?DB ?DC ?kc ?DD ?DE ?DF ?kd ?DG ?DH ?DI ?ke ?DJ ?DK ?DL ?kf ?DM ?DN ?DO ?kg ?DP ?DQ ?DR ?kh ?DS ?DT ?DU ?ki ?DV ?DW ?DX ?kj ?DY ?DZ ?D0 ?ko ?D1 ?D2 ?D3 ?kr ?D4 ?D5 ?D6 ?ku ?D7 ?D8 ?D9 ?kx ?Ea ?Eb ?z5 ?kz ?Ec ?Ed ?z6 ?kA ?Ee ?Ef ?z7 ?kB ?Eg ?Eh ?z9 ?kC ?Ei ?Ej ?Aa ?kD ?Ek ?El ?Ab ?kE ?Em ?Eo ?Ac ?kF ?Ep ?Er ?Es ?kG ?Et ?Eu ?Ew ?kI ?Ex ?Ey ?Ez ?kJ ?EA ?EB ?EC ?kK ?ED ?EE ?EF ?kL ?EG ?EH ?EI ?kM ?EJ ?EK ?EL ?kN ?EM ?EN ?EO ?kO ?ER ?ES ?ET ?kP ?EU ?EV ?EW ?kQ ?EX ?EY ?EZ ?kR ?E1 ?E2 ?E3 ?kS ?E4 ?E5 ?E6 ?kT ?E7 ?E8 ?E9 ?kW ?Fb ?Fc ?Fd ?kX ?Fe ?Ff ?Fg ?kY ?Fh ?Fi ?Fj ?kZ ?Fl ?Fm ?Fn ?ij ?Fo ?Fp ?Fq ?Fs ?Ft ?Fu ?Fv ?Fw ?Fx ?Fy ?Fz ?FA ?FC ?FD ?FE ?FF ?FG ?FH ?FK ?FN ?FO ?FP ?FQ ?FR ?FT ?i6 ?k7 ?mO ?mP ?mQ ?gE ?FU ?qv ?FV ?FW ?FX ?FY ?FZ ?F0 ?F1 ?F4 ?F5 ?F6 ?F7 ?Ga ?Gb ?Ge ?Gf ?Gg ?Gh ?Gi ?Gj ?Gk ?Gm ?Gn ?Gp ?Gq ?Gr ?Gs ?Gu ?Gv
  (case FG => k_is)
  (case FH => k_is)
  (case FK => k_is)
  (case FN => k_is)
  (case FO => k_is)
  (case jW => k_is)
  (case C8 => k_is)
  (case C9 => k_is)
  (case Dc => k_is)
  (case jX => k_is)
  (case Dd => k_is)
  (case De => k_is)
  (case Df => k_is)
  (case jY => k_is)
  (case Dg => k_is)
  (case Dh => k_is)
  (case Di => k_is)
  (case jZ => k_is)
  (case Dj => k_is)
  (case Dk => k_is)
  (case Dl => k_is)
  (case j5 => k_is)
  (case Dm => k_is)
  (case Dp => k_is)
  (case Dq => k_is)
  (case j6 => k_is)
  (case Dr => k_is)
  (case Ds => k_is)
  (case Dt => k_is)
  (case j7 => k_is)
  (case Du => k_is)
  (case Dv => k_is)
  (case Dw => k_is)
  (case j8 => k_is)
  (case Dx => k_is)
  (case Dy => k_is)
  (case Dz => k_is)
  (case j9 => k_is)
  (case DA => k_is)
  (case DB => k_is)
  (case DC => k_is)
  (case kc => k_is)
  (case DD => k_is)
  (case DE => k_is)
  (case DF => k_is)
  (case kd => k_is)
  (case DG => k_is)
  (case DH => k_is)
  (case DI => k_is)
  (case ke => k_is)
  (case DJ => k_is)
  (case DK => k_is)
  (case DL => k_is)
  (case kf => k_is)
  (case DM => k_is)
  (case DN => k_is)
  (case DO => k_is)
  (case kg => k_is)
  (case DP => k_is)
  (case DQ => k_is)
  (case DR => k_is)
  (case kh => k_is)
  (case DS => k_is)
  (case DT => k_is)
  (case DU => k_is)
  (case ki => k_is)
  (case DV => k_is)
  (case DW => k_is)
  (case DX => k_is)
  (case kj => k_is)
  (case DY => k_is)
  (case DZ => k_is)
  (case D0 => k_is)
  (case ko => k_is)
  (case D1 => k_is)
  (case D2 => k_is)
  (case D3 => k_is)
  (case kr => k_is)
  (case D4 => k_is)
  (case D5 => k_is)
  (case D6 => k_is)
  (case ku => k_is)
  (case D7 => k_is)
  (case D8 => k_is)
  (case D9 => k_is)
  (case kx => k_is)
  (case Ea => k_is)
  (case Eb => k_is)
  (case z5 => k_is)
  (case kz => k_is)
  (case Ec => k_is)
  (case Ed => k_is)
  (case z6 => k_is)
  (case kA => k_is)
  (case Ee => k_is)
  (case Ef => k_is)
  (case z7 => k_is)
  (case kB => k_is)
  (case Eg => k_is)
  (case Eh => k_is)
  (case z9 => k_is)
  (case kC => k_is)
  (case Ei => k_is)
  (case Ej => k_is)
  (case Aa => k_is)
  (case kD => k_is)
  (case Ek => k_is)
  (case El => k_is)
  (case Ab => k_is)
  (case kE => k_is)
  (case Em => k_is)
  (case Eo => k_is)
  (case Ac => k_is)
  (case kF => k_is)
  (case Ep => k_is)
  (case Er => k_is)
  (case Es => k_is)
  (case kG => k_is)
  (case Et => k_is)
  (case Eu => k_is)
  (case Ew => k_is)
  (case kI => k_is)
  (case Ex => k_is)
  (case Ey => k_is)
  (case Ez => k_is)
  (case kJ => k_is)
  (case EA => k_is)
  (case EB => k_is)
  (case EC => k_is)
  (case kK => k_is)
  (case ED => k_is)
  (case EE => k_is)
  (case EF => k_is)
  (case kL => k_is)
  (case EG => k_is)
  (case EH => k_is)
  (case EI => k_is)
  (case kM => k_is)
  (case EJ => k_is)
  (case EK => k_is)
  (case EL => k_is)
  (case kN => k_is)
  (case EM => k_is)
  (case EN => k_is)
  (case EO => k_is)
  (case kO => k_is)
  (case ER => k_is)
  (case ES => k_is)
  (case ET => k_is)
  (case kP => k_is)
  (case EU => k_is)
  (case EV => k_is)
  (case EW => k_is)
  (case kQ => k_is)
  (case EX => k_is)
  (case EY => k_is)
  (case EZ => k_is)
  (case kR => k_is)
  (case E1 => k_is)
  (case E2 => k_is)
  (case E3 => k_is)
  (case kS => k_is)
  (case E4 => k_is)
  (case E5 => k_is)
  (case E6 => k_is)
  (case kT => k_is)
  (case E7 => k_is)
  (case E8 => k_is)
  (case E9 => k_is)
  (case kW => k_is)
  (case Fb => k_is)
  (case Fc => k_is)
  (case Fd => k_is)
  (case kX => k_is)
  (case Fe => k_is)
  (case Ff => k_is)
  (case Fg => k_is)
  (case kY => k_is)
  (case Fh => k_is)
  (case Fi => k_is)
  (case Fj => k_is)
  (case kZ => k_is)
  (case Fl => k_is)
  (case Fm => k_is)
  (case Fn => k_is)
  (case ij => k_is)
  (case Fo => k_is)
  (case Fp => k_is)
  (case Fq => k_is)
  (case Fs => k_is)
  (case Ft => k_is)
  (case Fu => k_is)
  (case Fv => k_is)
  (case Fw => k_is)
  (case Fx => k_is)
  (case Fy => k_is)
  (case Fz => k_is)
  (case FA => k_is)
  (case FC => k_is)
  (case FD => k_is)
  (case FE => k_is)
  (case FF => k_is)
  (case FP => k_is)
  (case FQ => k_is)
  (case FR => k_is)
  (case FT => k_is)
  (case i6 => k_is)
  (case k7 => k_is)
  (case mO => k_is)
  (case mP => k_is)
  (case mQ => k_is)
  (case gE => k_is)
  (case FU => k_is)
  (case qv => k_is)
  (case FV => k_is)
  (case FW => k_is)
  (case FX => k_is)
  (case FY => k_is)
  (case FZ => k_is)
  (case F0 => k_is)
  (case F1 => k_is)
  (case F4 => k_is)
  (case F5 => k_exc)
  (case F6 => k_is)
  (case F7 => k_is)
  (case Ga => k_is)
  (case Gb => k_is)
  (case Ge => k_is)
  (case Gf => k_exc)
  (case Gg => k_is)
  (case Gh => k_is)
  (case Gi => k_is)
  (case Gj => k_is)
  (case Gk => k_is)
  (case Gm => k_exc)
  (case Gn => k_is)
  (case Gp => k_is)
  (case Gq => k_is)
  (case Gr => k_is)
  (case Gs => k_is)
  (case Gu => k_is)
  (case Gv => k_is)
#print axioms PySem.Challenge.cw_gaze_k42_suspects_holds
