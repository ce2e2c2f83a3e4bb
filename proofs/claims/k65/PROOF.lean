import PyProof.Rows.All
import Wide.All
import OpenK.AllK
import Wide.FinOn
import Lean
import PyProof.EqAt
import PyProof.EqKinds
import PyProof.TupleCall
import KE.KSortAsk
import KE.KSortTup
import KE.KRevIter
import KE.LcSums
import KE.KDictSum
import KE.KDictList
import PyProof.AttrMissHeap
import PySem.Challenge.RW_gaze_k65_eyes_named
set_option Elab.async false
set_option linter.all false
set_option maxRecDepth 100000
set_option maxHeartbeats 4000000
set_option exponentiation.threshold 2000
set_option compiler.extract_closed false
open PySem renaming wpAny_bind → aaZ, wpAny_pure → aa4, Value → aa9, Addr → abd, Shared → abe, wpAny → abm, sizeLine → abu, lookup_relabel_local → abx, starEach → abA, mainGlobals → abB, bootBuiltins → abP, Program → ab1, wpAny_truthy_bool → acb, codeAny_builtin → acd, wpAny_mono → aci, wpAny_newObj_type → acj, compareOp → acm, wpAny_call_entry → acp, wpAny_dictEntries → acr, wpAny_Call_Name_kw → acs, wpAny_holding → acv, World → acz, sysModules → acB, wpAny_callSpecial?_slot → acI, Stmt → acM, Around → acP, tupleKind_room_in1 → acT, wpAny_typeNameOfWhole_keyiter → acU, plainId_quiet → acW, mem_of_lookup → ac3, DictEntry → ac4, Builtin → ac5, wpAny_updateSeq → ac6, intItems → adf, backTo → adh, behindInMarks → adj, builtinLookup_eq_fast → adm, wpAny_missedRemoval_other → adq, foldedSetIterable → adt, wpAny_typeNameOf_keyiter → adw, Heap → adz, wpAny_isInstance → adI, pyNext → adP, wpAny_specialOf → adS, size_of_entries → adT, tupleKeyHash → adU, codeAny → ad0, codeAny_call_builtin → ad1, wpAny_seqItems → ad3, wpAny_tryCatch → ad4, wpAny_fieldsOf → ad6, binaryOp → ad8, FuncData → aea, wpAny_askSetting → aec, sliceBounds → aed, wpAny_rule → aei, wpAny_passesOwn → aek, attributeBase → ael, wpAny_attempt → aeo, typeLookup_type → aep, wpAny_ite_split → aeq, rawInt → aet, PyData → aew, wpAny_pyIter_list → aez, sizeLine_eq → aeA, wpAny_letGo → aeD, wpAny_setState_of → aeH, wpAny_setField → aeJ, codeAny_mono → aeM, wpAny_notOrdered_dict → aeQ, wpAny_isOneOf_keyiter → aeS, intKind → aeU, Expr → aeV, checkBuiltinCall → aeX, tupleKind → ae7, wpAny_execs_nil → ae8, swapsWith → ae9, letOwnedTupleGo → afa, argBest → aff, wpAny_dictEpoch → afj, wpAny_setEntries_of → afl, Tok → afm, wpAny_field → afo, cLine → afq, entryFor → afv, wpAny_setField_rec → afx, firstArgMember → afE, assignEach → afK, wpAny_getItem_list_slice → afO, wpAny_comprehension_free → afP, updateSeq → afQ, wpAny_pyIter_enum → afR, wpAny_pyIter_slot → afU, hashInt → afZ, keywordEach → af0, richCompare → af3, wpAny_of_eq → af4, wpAny_eqBool_int → agc, argsOk → agf, wpAny_pyNext_range_end → agi, wpAny_pyIter_rangeiter → agj, wpAny_pyNext_enum_item → agn, wpAny_isTrue_Compare1 → agv, wpAny_pyNext_enum_end → agC, entryOfKey → agM, NameKind → agN, typeLookup → agO, Scope → agP, wpAny_pyIter_revIter → agR, wpAny_pyIter_keyiter → agU, isSubtype_stop → agX, isSubtype_type → agZ, IsRangeIter → ag1, builtinKind → ag3, numAt → ag4, call_enumerate_list → ag5, atKey → ag7, wpAny_standAt → ahe, wpAny_pyIter_tuple → ahf, wpAny_pyIter_range → ahg, evalPart_none → ahi, seqItems? → ahl, wpAny_tupleItemsOf → ahu, BindsTo → ahC, wpAny_call → ahD, call_meets → ahF, list_append → ahG, valueAt → ahK, Within → ahP, Result → ahR, seqIndex_neg → ahT, wpAny_typeOf → ahX, wpAny_execs_cons → ahZ, wpAny_pyIter_zip → ah2, wpAny_forIn_list → ah5, backToKw → ah7, setField → ah8, getMethod → aia, getItem → aic, seqIndex_of → aid, slicePick → aie, Keyword → aif, callerA → aih, notedBy → aij, plainId → aik, intItems_at → ain, codeAny_of_tree → aix, builtinsNs → aiH, wpAny_Name → aiI, typeIs_int → aiK, isInstance → aiL, setsByText → aiQ, standAt → aiS, compEnvC → aiU, newTuple → aiW, SetTable → aiX, Paired → ai3, isTrue → ai4, pyIter → ai5, lastMarks → ai6, typeOf → ai8, pickOrder → ajd, bindL → ajj, bindC → ajk, newList → ajl, setNext → ajm
open PySem.W renaming Frag → aa0, mg_none_of → abH, nsIn → abM, findIn → abQ, kitOne → abW, kia_one → acn, emptyDict → acC, mg_of → acY, instObj → ac1, keepIn → ado, fnOf → adQ, subIn → aem, plainGet → aeW, plainGet_of → afb, makesIn → afc, callWith_K → afu, lookIn → afA, typeIn → afB, codeIn → afC, exmOne → afD, methodObj → afJ, hasDictIn → afL, specialIn → afM, cellsFrom_some → agk, hideAll → agt, isFn → agw, takerIn → agx, takesIn → agy, methodCall_KW → agz, OpenLaw → agD, KdlSrc → agY, hideAll_get → ag0, of_hideAll → ahb, mroIn → ahh, clsIn → ahk, plainOver → ahz, kitx_list → ahA, kitx_dict → ahB, handedIn → ah0, kitMeta → aii, WalkO → aiV
open List renaming getD_eq_getElem?_getD → aa1, length_map → aa2, getElem?_eq_getElem → aa3, getElem?_eq_some_iff → aa7, mem_map → aa8, length_append → abf, size_toArray → abg, getElem?_map → abh, mem_of_getElem? → abi, map_cons → abj, mem_cons → abl, mem_singleton → abp, nil_append → abr, length_singleton → abv, length_range → abw, mem_append_right → abC, mem_append → abD, mem_filter → abE, range → abG, filter_cons → abK, length_filter_le → abR, map_map → abS, mem_iff_getElem? → abT, length_cons → abX, mem_cons_of_mem → abY, getElem?_append_left → ab0, take_length → ab5, nodup_cons → ab7, drop_eq_getElem_cons → ab8, take_succ → ab9, getElem?_append_right → acg, filterMap_cons → ack, map_append → aco, any_cons → acw, all_eq_true → acx, any_eq_true → acy, getElem?_range → acA, getElem?_eq_none → acE, find?_cons → acH, mem_append_left → acK, length_reverse → acN, mem_range → acO, mem_flatMap → acV, length_eq_zero_iff → acX, filter_eq_self → ac8, map_congr_left → ada, getElem?_reverse → adk, toArray → adl, take_append_drop → adn, replicate → adp, map_nil → adB, getElem?_replicate → adC, getElem?_cons_succ → adE, length_take → adG, not_mem_nil → adH, mem_cons_self → adN, length_nil → adR, getElem?_set_self → aes, take_of_length_le → aev, drop_of_length_le → aex, lookup → aeB, reverse_cons → aeC, ext_getElem? → aeF, nodup_nil → aeK, length_replicate → aeN, getElem?_set_ne → ae0, toList_toArray → afn, mem_filterMap → aft, findIdx?_eq_none_iff → afF, append_assoc → afS, foldl_append → afV, length_erase_of_mem → afX, nodup_append → afY, sum_cons → af7, eraseIdx_cons_succ → af8, length_drop → agd, drop_length → age, getElem_mem → agg, ext_getElem → agh, drop_eq_nil_of_le → ago, length_pos_of_mem → ags, of_mem_zip → agA, length_set → agB, sum_append → agE, map_id' → agL, mem_erase_of_ne → agV, filter_sublist → ag8, getElem_of_mem → aha, pairwise_cons → aht, filter_append → ahw, any_eq_false → ahy, pairwise_map → ahJ, flatMap_cons → ahO, all_map → ahY, append_nil → aib, foldl_cons → ail, length_zip → aio, getD → aiz, all_cons → aiT, findIdx? → aiZ, sum_nil → ajb, any_map → ajf
open PySem.Heap renaming get?_push_of_some → aa5, lt_size → aa6, get?_push_size → abc, get?_update_other → abq, get?_update_self → abL, size_push → adJ, FlyingW → ahV, ExtBut → ait
open Nat renaming le_refl → aba, le_trans → abb, ne_of_lt → abk, lt_of_lt_of_le → abn, zero_le → abt, lt_of_le_of_lt → abV, ne_of_gt → ace, lt_irrefl → acu, not_lt_zero → acQ, lt_succ_of_lt → adY, lt_succ_self → ad9, le_of_lt → aeL, le_succ → afd, lt_of_succ_lt_succ → agq, sub_self → agK, eq_zero_or_pos → ahs, le_succ_of_le → ahL, lt_trans → ahW, min_eq_right → ah4, succ_ne_self → ah6, min_eq_left → air, le_of_eq → ai7, zero_add → aje
open Bool renaming false_ne_true → abo, false_eq_true → aby, eq_false_iff → acD, and_eq_true → acL, eq_iff_iff → adu, not_true → ae4, or_eq_true → afg, false_and → afz, and_self → af6, and_eq_false_iff → agG, and_false → agW, and_true → ahm, false_or → ahp, true_and → ahv, not_false → aiG
open PySem.Value renaming ref → abz, bool → acJ, builtin → aen, isInt → aey, type → afI, float → ah9, isStrOf → aiR, bytes → ajh
open Option renaming map_eq_some_iff → abF, isNone → adZ, getD_some → aeb, isSome_iff_exists → aeg, ne_none_iff_exists' → afs, isSome_map → afT, toList_some → aho
open PyProof.Rows renaming callWith_type1 → abI, envOfC → acS, callWith_builtin1 → adA, seqObj → adO, kindOf → afN, IntsAre → af1, subscriptTail → af2, subscriptTail_builtinR → agl, AllBare → agu, mirror_perm → ag6, Constant_none → ahd, listUpdate_at → ahr, Subscript_ → ahE, get?_update_seq → aiu, seqEpoch_at → aiv, mulOk_of_bits → aiA, boot_range → aiJ, bits_add → ai9, bits_mul → aja, Call_ → aji
open PySem.PassesOwn renaming never → abJ, leaving → ady
open Array renaming getElem?_eq_getElem → abN, length_toList → ac2, getElem?_eq_none → adM, getElem?_toList → aeT, mem_toList_iff → ae1, getD_eq_getD_getElem? → afi, append_assoc → ahc, toList_push → ahN, toList → ahQ, getD → aiM
open PySem.F renaming plainAttrs_list → abO, slot_list_append → ab2, type_list_append → ab3, slot_dict_keyiterator_next → acG, slot_enumerate_next → ade, plain_min_loop → adg, plain_extend_loop → ads, args_dict_keyiterator_next_1 → ad5, entry_dict_keyiterator_next → aee, slot_list_index → aer, entry_min_loop → aeu, args_enumerate_next_1 → aeY, entry_enumerate_next → ae5, excBase_ValueError → afr, entry_extend_loop → afG, type_list_index → agb, slot_dict_iter → agp, slot_dict_pop → agF, slot_tuple_lt → agH, plain_set_new → agI, args_list_append_2 → agQ, entry_list_append → ag2, slot_list_append → ahj, plain_min → ahH, entry_min → ahI, kind_min → ah1, slot_set_iter → aiy
open Int renaming toNat_natCast → abU, le_refl → ach, toNat_of_nonneg → adb, mul_nonneg → adL, le_trans → aej, mul_le_mul_of_nonneg_left → aeZ, zero_add → afy, mul_le_mul → afH, toNat → agJ, emod_lt_of_pos → ahn, ediv_le_self → ah3, le_antisymm → aim, ediv_nonneg → aip, emod_nonneg → ais, ediv_one → ajc, add_mul → ajn
open PySem.Around renaming under_plainId → abZ, under → ahS
open Ne renaming symm → ab4
open PySem.Builtin.Range renaming rangeSize → ab6, rangeFitsLong → aiq
open PySem.Heap.SameBut renaming update → aca
open PySem.Str renaming ofString → acf
open PySem.Obj renaming mapSeq → acq, mapFields → adX, data_mapDictKeys → ad2, isFreed_of_dict → ag9, data_mapFields → ahq, putSet → aiP
open PySem.SetTable.below renaming go → acF
open PySem.Calls renaming spliced_cons → acR, spliced_nil → ac0, evalArgs_plain → ae2, Name_function_global → afp, callWith_builtin → agm
open PyProof.Rows.F renaming plain_set_update_loop → acZ, entry_set_update_loop → ad7
open PySem.Builtin.Builtins renaming bindParams → ac7
open PySem.Builtin.List renaming listExtendWith → ac9, listLengthHint → adW, listTooLong → aeh, listSameRef → afW, listItems → agr, listUpdate → ai0, listTouch → ai2
open False renaming elim → adi
open True renaming intro → adv
open PySem.SetTable.probe renaming go → adx
open PySem.Builtin.Int renaming intBits → adD
open PySem.W.WData renaming weightAll → adF, layable → aeP, weight → agS, layableAll → aiN
open PySem.PyData renaming eqv → adK, strOk → adV, canLayAll0 → aeE, canLay0 → aeI, depthAll → afh, eqvAll → af5
open PySem.Builtin.SmallTypes renaming ownedTupleIsFree → aef
open PySem.SetTable renaming insertAt → aeG, probeStart → afk, has → afw, fill → aga, freeSlot → ahM, runEnd → aiw, probe → aiE, turns → aiF, slot → aiY
open Or renaming inl → aeO, inr → ahU
open PySem.Builtin.Dict renaming showsAll → aeR, entriesForEmpty → ae3, updateFrom → af9, takeOut → agT, keyAndDefault → aiB, dictSlotNone → aiC, readDirectly → aiD, selfAndRest → aiO, mergeDict → ai1, quietEq → ajg, merge → ajo
open Sum renaming inl → ae6, inr → ahx
open ForInStep renaming yield → afe
namespace L2
open PySem PySem.Spec PyProof.Rows
abbrev Key:=Sum Int Str
noncomputable def oI:Key->aa9->Bool
 | .inl k,v=>aey k v
 | .inr x,v=>aiR x v
noncomputable def Na(w:acz):Key->Int
 | .inl k=>afZ k
 | .inr x=>hashStr w x
theorem kH:∀ {k:Key} {v:aa9},oI k v=true->(∃ i t,k=ae6 i/\v=Value.int i t)∨(∃ x t,k=ahx x/\v=Value.str x t)
 | .inl i,v,h=>by obtain⟨t,e⟩:=Value.isInt_shape (k:=i) (v:=v) h;exact .inl ⟨i,t,rfl,e⟩
 | .inr x,v,h=>by obtain⟨t,e⟩:=Value.isStrOf_shape (x:=x) (v:=v) h;exact .inr ⟨x,t,rfl,e⟩
theorem Nb(i:Int)(t:Tok):oI (.inl i) (.int i t)=true:=by simp[oI,aey]
theorem Nc(x:Str)(t:Tok):oI (.inr x) (.str x t)=true:=by simp[oI,aiR]
theorem Nd(a b:Int):decide ((ae6 a:Key)=ae6 b)=(a == b):=by
 by_cases e:a=b
 .subst e;simp
 .have h:¬ (ae6 a:Key)=ae6 b:=λq=>e (Sum.inl.inj q);rw[decide_eq_false h];exact (beq_eq_false_iff_ne.mpr e).symm
theorem Nf(a b:Str):decide ((ahx a:Key)=ahx b)=decide (a=b):=by
 by_cases e:a=b
 .subst e;simp
 .have h:¬ (ahx a:Key)=ahx b:=λq=>e (Sum.inr.inj q);rw[decide_eq_false h,decide_eq_false e]
theorem Ng(a:Int)(b:Str):decide ((ae6 a:Key)=ahx b)=false:=decide_eq_false (λq=>nomatch q)
theorem Nh(a:Str)(b:Int):decide ((ahx a:Key)=ae6 b)=false:=decide_eq_false (λq=>nomatch q)
noncomputable def cK(prog:ab1)(w:acz):PySem.KeyKind prog w Key where
 is:=oI
 hash:=Na w
 inj:=λv a b ha hb=>by
  rcases kH ha with ⟨i,t,rfl,rfl⟩|⟨x,t,rfl,rfl⟩
  .rcases kH hb with ⟨j,u,rfl,e⟩|⟨y,u,rfl,e⟩
   .injection e with e1 _;rw[e1]
   .exact nomatch e
  .rcases kH hb with ⟨j,u,rfl,e⟩|⟨y,u,rfl,e⟩
   .exact nomatch e
   .injection e with e1 _;rw[e1]
 byValue:=λk v h=>by
  rcases kH h with ⟨i,t,rfl,rfl⟩|⟨x,t,rfl,rfl⟩<;>rfl
 pyHash:=λhv h=>by
  rcases kH hv with ⟨i,t,rfl,rfl⟩|⟨x,t,rfl,rfl⟩
  .exact wpAny_pyHash_int h
  .exact wpAny_pyHash_str h
 eqBool:=λhu hv h=>by
  rcases kH hu with ⟨i,t,rfl,rfl⟩|⟨x,t,rfl,rfl⟩
  .rcases kH hv with ⟨j,u,rfl,rfl⟩|⟨y,u,rfl,rfl⟩
   .rw[Nd] at h;exact agc h
   .rw[Ng] at h;exact SeqAt.EqAt.int_str i t y u _ _ _ _ h
  .rcases kH hv with ⟨j,u,rfl,rfl⟩|⟨y,u,rfl,rfl⟩
   .rw[Nh] at h;exact SeqAt.EqAt.str_int x t j u _ _ _ _ h
   .rw[Nf] at h;exact wpAny_eqBool_str h
 «strs»:=λk x t v h=>by
  rcases kH h with ⟨i,u,rfl,e⟩|⟨y,u,rfl,e⟩
  .exact nomatch e
  .injection e with e1 _;subst e1;cases v<;>rfl
theorem Ni(prog:ab1)(w:acz)(i:Int)(t:Tok):(cK prog w).is (.inl i) (.int i t)=true:=Nb i t
theorem Nj(prog:ab1)(w:acz)(x:Str)(t:Tok):(cK prog w).is (.inr x) (.str x t)=true:=Nc x t
inductive V where
 | non|bl (b:Bool)|int (i:Int)|str (x:Str)|byt (b:Array UInt8)|flt (b:UInt64)|ref (a:abd)|ty (n:String)
 deriving DecidableEq
def RelV:V->aa9->Prop
 | .non,u=>u=Value.none
 | .bl b,u=>u=acJ b
 | .int i,u=>∃ t,u=Value.int i t
 | .str x,u=>∃ t,u=Value.str x t
 | .byt b,u=>∃ t,u=ajh b t
 | .flt b,u=>∃ t,u=ah9 b t
 | .ref a,u=>u=abz a
 | .ty n,u=>u=afI n
abbrev Vals:List V->List aa9->Prop:=ai3 RelV
theorem Vals.length(r:Vals xs us):xs.length=us.length:=Paired.length r
theorem Vals.get:∀ {xs:List V} {us:List aa9} {i:Nat} {x:V},Vals xs us->xs[i]?=some x->∃ u,us[i]?=some u/\RelV x u
 | _,_,_,_,.nil,e=>by simp at e
 | _,_,0,_,.cons r _,e=>by simp at e;subst e;exact⟨_,rfl,r⟩
 | _,_,i+1,x,.cons _ t,e=>by obtain⟨u,h1,h2⟩:=Vals.get (i:=i) (x:=x) t (by simpa using e);exact⟨u,by simpa using h1,h2⟩
theorem Vals.set(r:RelV x u):∀ {xs:List V} {us:List aa9} (i:Nat),Vals xs us->Vals (xs.set i x) (us.set i u)
 | _,_,_,.nil=>.nil
 | _,_,0,.cons _ t=>.cons r t
 | _,_,i+1,.cons q t=>.cons q (Vals.set r i t)
theorem Vals.append:∀ {xs ys:List V} {us ws:List aa9},Vals xs us->Vals ys ws->Vals (xs++ys) (us++ws)
 | _,_,_,_,.nil,s=>s
 | _,_,_,_,.cons r t,s=>.cons r (Vals.append t s)
theorem Vals.take:∀ {xs:List V} {us:List aa9} (n:Nat),Vals xs us->Vals (xs.take n) (us.take n)
 | _,_,0,_=>.nil
 | _,_,_+1,.nil=>.nil
 | _,_,n+1,.cons r t=>.cons r (Vals.take n t)
theorem Vals.drop:∀ {xs:List V} {us:List aa9} (n:Nat),Vals xs us->Vals (xs.drop n) (us.drop n)
 | _,_,0,r=>r
 | _,_,_+1,.nil=>.nil
 | _,_,n+1,.cons _ t=>Vals.drop n t
def fE:Option V->Option aa9->Prop
 | some v,some u=>RelV v u
 | none,none=>True
 | _,_=>False
def KV{κ:Type}:List (κ × V)->List (κ × aa9)->Prop:=ai3 λ(p:κ × V) (q:κ × aa9)=>p.1=q.1/\RelV p.2 q.2
noncomputable def kV:Key->V
 | .inl i=>.int i
 | .inr x=>.str x
inductive HO where
 | lst (xs:List V)
 | tup (xs:List V)
 | dK (kvs:List (Key × V))|dT (kvs:List (List Key × V))
 | set (S:Int->Bool) (n:Nat)
 | ins (C dx:abd) (fs:List (Str × V))
 | own (x:abd)
 | xd (fs:List (Str × V))
 | met (f x:abd)
 | i0 (lo hi:Int)
 | aL (o:Obj) (u:HO)
 | tbl (ps:Array aa9)
 | ext (φ:adz->Prop)
abbrev Hp:=abd->Option HO
noncomputable def upd(H:Hp)(a:abd)(o:HO):Hp:=λb=>if b=a then some o else H b
theorem aw:upd H a o a=some o:=by unfold upd;rw[if_pos rfl]
theorem aB(h:b≠a):upd H a o b=H b:=by unfold upd;rw[if_neg h]
theorem qR:upd (upd H a o) a u=upd H a u:=by funext b;unfold upd;split<;>rfl
theorem oJ{H:Hp}{a b:abd}{o u:HO}(h:H a=some o)(h':H b=some u)(d:o≠u):a≠b:=by intro e;subst e;rw[h] at h';exact d (Option.some.inj h')
theorem i3{H:Hp}{a b:abd}{o:HO}(h:H a=some o)(h':H b=none):a≠b:=by intro e;subst e;rw[h] at h';cases h'
section
variable(P:ab1)(w:acz)
def bN(H:Hp)(h:adz)(a:abd):HO->Prop
 | .lst xs=>xs.length<=abu/\∃ (ar:List aa9) (n:Nat),Vals xs ar/\h.get? a=some { cls:=.type "list",data:=.seq ar.toArray n }
 | .tup xs=>xs.length<=abu/\∃ ar:List aa9,Vals xs ar/\IsTup h a ar.toArray
 | .dK kvs=>kvs.length<=abu/\(a == acB)=false/\∃ vs,KV kvs vs/\h.DictOf (cK P w) a vs
 | .dT kvs=>kvs.length<=abu/\(a == acB)=false/\∃ xs:List (List Key × abd × aa9),
  ai3 (λ(p:List Key × V) (q:List Key × abd × aa9)=>p.1=q.1/\H q.2.1=some (.tup (p.1.map kV))/\RelV p.2 q.2.2) kvs xs /\
  ∃ o es ep,h.get? a=some o/\o.ExactDict/\o.data = .dict es ep/\es.toList=xs.map (agM (ae7 (cK P w)))/\(xs.map (·.1)).Nodup
 | .set S n=>h.SetOf (aeU P w) a S n
 | .ins C dx fs=>H dx=some (.own a)/\fs.length<=1000/\dx≠a/\h.get? a=some (ac1 C dx) /\
  ∃ mA,h.Ns1 dx mA/\(∀ f,fE (fs.lookup f) (mA f))/\ahP mA (fs.map (·.1))
 | .own _=>∃ o,h.get? a=some o
 | .xd fs=>∃ mA,h.Ns1 a mA/\∀ f,fE (fs.lookup f) (mA f)
 | .i0 lo hi=>∃ t u v,h.get? a=some { cls:=.type "range",data:=.fields #[.int lo t,.int hi u,.int 1 v] }
 | .aL o u=>h.get? a=some o/\bN H h a u
 | .tbl ps=>h.get? a=some { cls:=.none,data:=.fields ps }
 | .met f x=>h.get? a=some (afJ (.ref f) (.ref x))
 | .ext φ=>φ h/\(∃ o,h.get? a=some o)/\∀ h1 h2:adz,φ h1->(∀ o,h1.get? a=some o->h2.get? a=some o)->φ h2
def bW(H:Hp)(h:adz):Prop:=∀ a o,H a=some o->bN P w H h a o
end
section
theorem bN.lt(x:bN P w H h a o):a<h.objs.size:=by
 cases o with
 | lst xs=>obtain⟨_,_,_,_,e⟩:=x;exact aa6 e
 | tup xs=>obtain⟨_,_,_,p⟩:=x;exact p.lt
 | dK kvs=>obtain⟨_,_,_,_,o,_,_,e,_⟩:=x;exact aa6 e
 | dT kvs=>obtain⟨_,_,_,_,o,_,_,e,_⟩:=x;exact aa6 e
 | set S n=>obtain⟨o,_,_,_,e,_⟩:=x;exact aa6 e
 | ins C dx fs=>obtain⟨_,_,_,e,_⟩:=x;exact aa6 e
 | own y=>obtain⟨_,e⟩:=x;exact aa6 e
 | xd fs=>obtain⟨_,⟨_,_,_,e,_⟩,_⟩:=x;exact aa6 e
 | i0 lo hi=>obtain⟨_,_,_,e⟩:=x;exact aa6 e
 | aL ob u=>obtain⟨e,_⟩:=x;exact aa6 e
 | tbl ps=>exact aa6 (show h.get? a=some _ from x)
 | met f y=>exact aa6 (show h.get? a=some _ from x)
 | ext φ=>obtain⟨_,⟨_,e⟩,_⟩:=x;exact aa6 e
theorem Paired.xT:∀ {l₁:List α} {l₂:List β},ai3 F l₁ l₂->(∀ a b,F a b->G a b)->ai3 G l₁ l₂
 | _,_,.nil,_=>.nil
 | _,_,.cons r t,f=>.cons (f _ _ r) (Paired.xT t f)
theorem bN.gp(x:bN P w H h a o)(k:∀ b u,(b=a∨H b=some (.own a))->h.get? b=some u->h'.get? b=some u)(ho:∀ b,H b=some (.own a)->H' b=some (.own a))(ht:∀ b xs,H b=some (.tup xs)->H' b=some (.tup xs)):bN P w H' h' a o:=by
 induction o with
 | lst xs=>obtain⟨z,ar,n,r,e⟩:=x;exact⟨z,ar,n,r,k _ _ (.inl rfl) e⟩
 | tup xs=>obtain⟨z,ar,r,ob,e,c⟩:=x;exact⟨z,ar,r,ob,k _ _ (.inl rfl) e,c⟩
 | dK kvs=>obtain⟨z,y,vs,r,ob,es,ep,e,c⟩:=x;exact⟨z,y,vs,r,ob,es,ep,k _ _ (.inl rfl) e,c⟩
 | dT kvs =>
  obtain⟨z,y,xs,r,ob,es,ep,e,c⟩:=x;exact⟨z,y,xs,Paired.xT r λp q z=>⟨z.1,ht _ _ z.2.1,z.2.2⟩,ob,es,ep,k _ _ (.inl rfl) e,c⟩
 | set S n=>obtain⟨ob,es,ep,t,e,c⟩:=x;exact⟨ob,es,ep,t,k _ _ (.inl rfl) e,c⟩
 | ins C dx fs =>
  obtain⟨d,z,ne,e,mA,⟨od,es,ep,e2,c⟩,r⟩:=x;exact⟨ho _ d,z,ne,k _ _ (.inl rfl) e,mA,⟨od,es,ep,k _ _ (.inr d) e2,c⟩,r⟩
 | own y=>obtain⟨ob,e⟩:=x;exact⟨ob,k _ _ (.inl rfl) e⟩
 | xd fs=>obtain⟨mA,⟨od,es,ep,e,c⟩,r⟩:=x;exact⟨mA,⟨od,es,ep,k _ _ (.inl rfl) e,c⟩,r⟩
 | i0 lo hi=>obtain⟨t,u,v,e⟩:=x;exact⟨t,u,v,k _ _ (.inl rfl) e⟩
 | aL ob u ih=>obtain⟨e,q⟩:=x;exact⟨k _ _ (.inl rfl) e,ih q⟩
 | tbl ps =>
  have e:h.get? a=some { cls:=.none,data:=.fields ps }:=x;show h'.get? a=some { cls:=.none,data:=.fields ps };exact k a _ (.inl rfl) e
 | met f y =>
  have e:h.get? a=some (afJ (.ref f) (.ref y)):=x;show h'.get? a=some (afJ (.ref f) (.ref y));exact k a _ (.inl rfl) e
 | ext φ=>obtain⟨p,⟨o,e⟩,st⟩:=x;exact⟨st _ _ p λo q=>k _ _ (.inl rfl) q,⟨o,k _ _ (.inl rfl) e⟩,st⟩
theorem bW.lt(x:bW P w H h)(e:H a=some o):a<h.objs.size:=(x a o e).lt
theorem bW.fresh(x:bW P w H h)(e:h.objs.size<=a):H a=none:=by
 cases q:H a with
 | none=>rfl
 | some u=>exact absurd (abn (x.lt q) e) (acu _)
theorem bW.kept(x:bW P w H h)(k:∀ b u,h.get? b=some u->h'.get? b=some u):bW P w H h':=λa o e =>
 (x a o e).gp (λb u _ q=>k b u q) (λ_ q=>q) λ_ _ q=>q
theorem bW.laid(x:bW P w H h)(k:∀ b u,h.get? b=some u->h'.get? b=some u)(hp:h.objs.size<=a)(new:bN P w (upd H a o) h' a o):bW P w (upd H a o) h':=λb u e=>by
 have hn:=x.fresh hp;by_cases hb:b=a
 .subst hb;rw[aw] at e;cases e;exact new
 .rw[aB hb] at e;exact (x b u e).gp (λc v _ q=>k c v q) (λc q=>by rw[aB (i3 q hn)];exact q) λc xs q=>by rw[aB (i3 q hn)];exact q
end
def Rd(H:Hp)(a:abd)(u:HO):Prop:=H a=some u ∨ ∃ o,H a=some (.aL o u)
theorem Rd.ok(r:Rd H a u)(x:bW P w H h):bN P w H h a u:=by
 rcases r with r|⟨o,r⟩
 .exact x a u r
 .obtain⟨_,q⟩:=x a _ r;exact q
def qS:Option HO->Prop
 | some (.lst _)=>True
 | some (.dK _)=>True
 | some (.dT _)=>True
 | some (.set _ _)=>True
 | some (.ins _ _ _)=>True
 | some (.ext _)=>True
 | _=>False
section
theorem bW.write(ok:bW P w H h)(mu:qS (H x))(he:e=x∨H e=some (.own x))(k:∀ b u,b≠e->h.get? b=some u->h'.get? b=some u)(oK:∃ u,h'.get? e=some u)(new:bN P w (upd H x o') h' x o'):bW P w (upd H x o') h':=λb u q=>by
 have DH:∀ c y,H c=some (.own y)->c≠x:=λc y r z=>by subst z;rw[r] at mu;exact mu
 have Nk:∀ c xs,H c=some (.tup xs)->c≠x:=λc xs r z=>by subst z;rw[r] at mu;exact mu
 by_cases hb:b=x
 .subst hb;rw[aw] at q;cases q;exact new
 .rw[aB hb] at q;by_cases jP:b=e
  .have q':H b=some (.own x):=by
    rcases he with z|z
    .exact absurd (jP.trans z) hb
    .rw[jP];exact z
   rw[q] at q';cases q';obtain⟨v,hv⟩:=oK;exact⟨v,by rw[jP];exact hv⟩
  .refine (ok b u q).gp (λc v hc r=>k c v ?_ r) (λc r=>by rw[aB (DH c b r)];exact r) λc xs r=>by rw[aB (Nk c xs r)];exact r
   rcases hc with rfl|hc
   .exact jP
   .rintro rfl;rcases he with z|z
    .exact DH c b hc z
    .rw[hc] at z;cases z;exact hb rfl
end
structure Un(fs ex:List abd)(H H':Hp)(h h':adz):Prop where
 keep:∀ b o,h.get? b=some o->H b=none->b∉fs->b∉ex->h'.get? b=some o
 slot:∀ b o,h.get? b=some o->H b=none->b∈fs->b∉ex->∃ sl,h'.get? b=some { o with slots:=sl }
 free:∀ b o,h.get? b=some o->H b=none->b∉ex->H' b=none
 there:∀ b o,h.get? b=some o->b∉ex->∃ o',h'.get? b=some o'
 fF:∀ b xs,H b=some (.tup xs)->H' b=some (.tup xs)
 eT:∀ b o u,H b=some (.aL o u)->H' b=some (.aL o u)
 fG:∀ b ps,H b=some (.tbl ps)->∃ more,H' b=some (.tbl (ps++more))
section
variable{fs fs' ex ex':List abd}{H H1 H2:Hp}{h h1 h2 h':adz}{a x e:abd}{o:HO}
theorem Un.any(u:Un fs ex H H1 h h1)(q:h.get? b=some ob)(n:H b=none)(hx:b∉ex):∃ sl,h1.get? b=some { ob with slots:=sl }:=by
 by_cases hb:b∈fs
 .exact u.slot b ob q n hb hx
 .exact⟨ob.slots,u.keep b ob q n hb hx⟩
theorem Un.kept(k:∀ b u,h.get? b=some u->h'.get? b=some u):Un fs ex H H h h' :=
 ⟨λb ob q _ _ _=>k b ob q,λb ob q _ _ _=>⟨ob.slots,k b ob q⟩,λ_ _ _ n _=>n,λb ob q _=>⟨ob,k b ob q⟩,λ_ _ q=>q,λ_ _ _ q=>q,λ_ ps q=>⟨#[],by rw[q];simp⟩⟩
theorem Un.refl:Un fs ex H H h h:=Un.kept λ_ _ q=>q
theorem Un.laid(k:∀ b u,h.get? b=some u->h'.get? b=some u)(hp:h.objs.size<=a)(hn:H a=none):Un fs ex H (upd H a o) h h' where
 keep:=λb u q _ _ _=>k b u q
 slot:=λb u q _ _ _=>⟨u.slots,k b u q⟩
 free:=λb u q n _=>by rw[aB (abk (abn (aa6 q) hp))];exact n
 there:=λb u q _=>⟨u,k b u q⟩
 fF:=λb xs q=>by rw[aB (i3 q hn)];exact q
 eT:=λb u xs q=>by rw[aB (i3 q hn)];exact q
 fG:=λb ps q=>⟨#[],by rw[aB (i3 q hn),q];simp⟩
theorem Un.write(mu:qS (H x))(he:e=x∨H e=some (.own x))(k:∀ b u,b≠e->h.get? b=some u->h'.get? b=some u)(oK:∃ u,h'.get? e=some u):Un fs ex H (upd H x o) h h':=by
 have hx:∀ b,H b=none->b≠x:=λb n z=>by subst z;rw[n] at mu;exact mu
 have hb:∀ b,H b=none->b≠e:=λb n z=>by
  subst z;rcases he with r|r
  .exact hx b n r
  .rw[n] at r;cases r
 have hm:∀ b u,H b=some u->¬ qS (some u)->b≠x:=λb u q nm z=>by subst z;rw[q] at mu;exact nm mu
 refine⟨λb u q n _ _=>k b u (hb b n) q,λb u q n _ _=>⟨u.slots,k b u (hb b n) q⟩,λb u q n _=>by rw[aB (hx b n)];exact n,λb u q _=>?_,
  λb xs q=>by rw[aB (hm b _ q λz=>z)];exact q,λb u xs q=>by rw[aB (hm b _ q λz=>z)];exact q,λb ps q=>⟨#[],by rw[aB (hm b _ q λz=>z),q];simp⟩⟩
 by_cases jP:b=e
 .subst jP;exact oK
 .exact⟨u,k b u jP q⟩
end
noncomputable def uV(h:adz)(H:Hp):List abd:=(abG h.objs.size).filter λa=>(H a).isSome
noncomputable def kI(h:adz)(H:Hp):adz:=agt h (uV h H)
theorem Nm(h:adz)(H:Hp):(kI h H).objs.size=h.objs.size:=PySem.W.hideAll_size _ _
theorem Nn(e:h.get? b=some o)(n:H b=none):(kI h H).get? b=some o :=
 ag0 _ e λhm=>by have q:(H b).isSome=true:=(abE.mp hm).2;rw[n] at q;simp at q
theorem Np(e:(kI h H).get? b=some o):h.get? b=some o/\H b=none:=by
 have e':h.get? b=some o:=ahb (uV h H) e;refine⟨e',?_⟩;cases q:H b with
 | none=>rfl
 | some x =>
  have hm:b∈uV h H:=abE.mpr ⟨acO.mpr (aa6 e'),by simp[q]⟩;have z:(kI h H).get? b=none:=PySem.W.hideAll_none (uV h H) hm;rw[z] at e;cases e
noncomputable def Nq(g h:adz)(L:abd):List (abd × Obj):=(abG h.objs.size).filterMap λa=>if a=L∨(g.get? a).isSome=true then none else (h.get? a).map λo=>(a,o)
noncomputable def rest(g h:adz)(L d:abd):List (abd × Obj):=(Nq g h L).filter λp=>decide (p.1≠d)
structure Mod(K:aa0)(mg:Str->Option aa9)(base:adz):Prop where
 kin:K.In base
 glob:base.Ns abB mg
 blt:∃ mb,base.Ns aiH mb/\∀ x:Str,x ≠ "__name__" -> mb x=abP x
 nolimit:base.NoLimit
structure Cx where
 prog:ab1
 w:acz
 K:aa0
 mg:Str->Option aa9
 base:adz
 A:acP
 N:List Str
 s₀:abe
 H₀:Hp
 env:Env
 outer:List Env
 stack:List Env
 ex:List abd
 fn:Str->Bool
 calm:Bool
 pn:List (abd × Obj)
 xe:aa9->abe->Prop
noncomputable def a9(l:List Env):List abd:=l.filterMap (·.frame)
noncomputable abbrev Cx.fs(X:Cx):List abd:=a9 X.outer
def uW(sc:agP)(x:Str):Prop:=sc.names.lookup x=some .local∨sc.names.lookup x=some .cell∨sc.names.lookup x=some .free
def Loc(sc:agP)(x:Str):Prop:=sc.names.lookup x=some .local∨sc.names.lookup x=some .cell
def Look(env:Env)(h:adz)(m:Str->Option aa9)(x:Str)(u:aa9):Prop :=
 (env.kindOf x=some .local/\m x=some u)∨((env.kindOf x=some .cell∨env.kindOf x=some .free)/\∃ c,env.cells.lookup x=some c/\h.IsCell c (some u))
structure Cx.Ok(X:Cx):Prop where
 mod:Mod X.K X.mg X.base
 kind:X.env.scope.kind = .function
 glob:X.env.globals=abB
 blt:X.env.builtins=aiH
 above:X.s₀.heap.objs.size<=X.env.locals
 inj:∀ x y c,X.env.cells.lookup x=some c->X.env.cells.lookup y=some c->x=y
 has:∀ x,(X.env.kindOf x=some .cell∨X.env.kindOf x=some .free)->∃ c,X.env.cells.lookup x=some c
 cab:∀ x c,X.fn x=true->X.env.cells.lookup x=some c->X.s₀.heap.objs.size<=c
 hd:X.calm=true->X.A.handled=none
 frames:X.A.frames=some X.stack
 stk:X.stack=X.outer∨(X.stack=X.env::X.outer/\X.env.frame=some X.env.locals)
 exf:∀ b∈X.ex,b≠X.env.locals/\∀ x c,X.env.cells.lookup x=some c->c≠b
 bs:∀ b o,X.base.get? b=some o->X.s₀.heap.get? b=some o/\X.H₀ b=none
 bsz:X.base.objs.size<=X.s₀.heap.objs.size
 noex:∀ b o,X.base.get? b=some o->b∉X.ex
 exfs:∀ b∈X.ex,b∉X.fs
 fV:X.s₀.heap.FunFrames X.base X.outer
 frf:∀ b∈X.fs,X.H₀ b=none
structure Inv(X:Cx)(pins:List (abd × Obj))(σ:List (Option V))(H:Hp)(s:abe):Prop where
 ok:X.Ok
 os:s.os=X.s₀.os
 bare:agu s.gens
 base:Un X.fs X.ex X.H₀ H X.s₀.heap s.heap
 loc:∃ m,s.heap.Ns X.env.locals m/\∀ (i:Nat) (x:Str) (v:V),X.N[i]?=some x->σ[i]?=some (some v)->uW X.env.scope x->∃ u,RelV v u/\Look X.env s.heap m x u
 cell:∀ x c,X.env.cells.lookup x=some c->∃ v,s.heap.IsCell c v
 free:H X.env.locals=none
 fH:∀ x c,X.env.cells.lookup x=some c->H c=none
 pin:∀ p∈X.pn++pins,s.heap.get? p.1=some p.2/\H p.1=none/\p.1≠X.env.locals/\p.1∉X.fs/\∀ v,p.2.data ≠ .cell v
 ay:bW X.prog X.w H s.heap
 len:σ.length=X.N.length
section
variable{X:Cx}{pins:List (abd × Obj)}{σ:List (Option V)}{H H':Hp}{s:abe}{h':adz}
theorem Cx.Ok.kJ(ok:X.Ok){b:abd}{o:Obj}(e:X.base.get? b=some o):b∉X.fs:=λhb=>by have:=(ok.fV.mem hb).1;rw[e] at this;cases this
theorem Inv.bs(I:Inv X pins σ H s):∀ b o,X.base.get? b=some o->s.heap.get? b=some o/\H b=none:=λb o e =>
 ⟨I.base.keep b o (I.ok.bs b o e).1 (I.ok.bs b o e).2 (I.ok.kJ e) (I.ok.noex b o e),I.base.free b o (I.ok.bs b o e).1 (I.ok.bs b o e).2 (I.ok.noex b o e)⟩
theorem Inv.bk(I:Inv X pins σ H s):∀ b o,X.base.get? b=some o->s.heap.get? b=some o:=λb o e=>(I.bs b o e).1
theorem Inv.mod(I:Inv X pins σ H s):Mod X.K X.mg X.base:=I.ok.mod
theorem Inv.cL(I:Inv X pins σ H s):X.K.In s.heap:=I.ok.mod.kin.keeps I.bk
theorem Inv.lt(I:Inv X pins σ H s):X.env.locals<s.heap.objs.size:=let ⟨_,hn,_⟩:=I.loc;hn.lt
theorem Inv.sz(I:Inv X pins σ H s):X.s₀.heap.objs.size<=s.heap.objs.size:=abb I.ok.above (aeL I.lt)
theorem Inv.DI(I:Inv X pins σ H s)(h:s.heap.objs.size<=a):a∉X.fs:=λhb=>by obtain⟨_,o,ho,_⟩:=I.ok.fV.mem hb;exact absurd (abn (aa6 ho) (abb I.sz h)) (acu _)
theorem Inv.gQ(I:Inv X pins σ H s):∀ x c,X.env.cells.lookup x=some c->c≠X.env.locals:=λx c e z=>by obtain⟨v,o,ho,hd⟩:=I.cell x c e;obtain⟨m,⟨o',es,ep,cW,i4,_⟩,_⟩:=I.loc;rw[z,cW] at ho;cases ho;rw[i4] at hd;cases hd
theorem Inv.fV(I:Inv X pins σ H s):s.heap.FunFrames X.base X.outer:=by
 have all:∀ (l:List Env),(∀ b∈a9 l,b∈X.fs)->X.s₀.heap.FunFrames X.base l->s.heap.FunFrames X.base l:=by
  intro l
  induction l with
  | nil=>intro _ _;trivial
  | cons env r ih =>
   intro hs hl;obtain⟨hk,⟨L,o,hf,hn,ho,hd⟩,hr⟩:=hl;have hL:L∈X.fs:=hs L (by unfold a9;rw[ack,hf];exact adN);obtain⟨sl,e⟩:=I.base.slot L o ho (I.ok.frf L hL) hL λz=>I.ok.exfs L z hL;exact⟨hk,⟨L,_,hf,hn,e,hd⟩,ih (λb hb=>hs b (by unfold a9;rw[ack,hf];exact abY _ hb)) hr⟩
 exact all X.outer (λ_ hb=>hb) I.ok.fV
theorem Inv.stack(I:Inv X pins σ H s):s.heap.FunFrames X.base X.stack:=by
 rcases I.ok.stk with e|⟨e,hf⟩
 .rw[e];exact I.fV
 .rw[e];obtain⟨m,hn,_⟩:=I.loc;refine .cons (by rw[I.ok.kind];decide) hf hn ?_ I.fV;exact Heap.get?_none_of_le (abb I.ok.bsz I.ok.above)
theorem Inv.oM(I:Inv X pins σ H s):∀ b∈a9 X.stack,b∈X.env.locals::X.fs:=λb hb=>by
 rcases I.ok.stk with e|⟨e,hf⟩
 .rw[e] at hb;exact abY _ hb
 .rw[e] at hb;unfold a9 at hb;rw[ack,hf] at hb;exact hb
theorem Inv.qT(I:Inv X pins σ H s):∀ b∈a9 X.stack,H b=none:=λb hb=>by
 rcases abl.mp (I.oM b hb) with e|hb
 .rw[e];exact I.free
 .obtain⟨_,o,ho,_⟩:=I.ok.fV.mem hb;exact I.base.free b o ho (I.ok.frf b hb) λz=>I.ok.exfs b z hb
theorem Inv.step{g':Array GenState}{t':Nat}{d':Drawn}{ch:List abd}(I:Inv X pins σ H s)
 (jQ:∀ b∈ch,(b∈X.ex∨X.s₀.heap.objs.size<=b)/\b≠X.env.locals/\(∀ x c,X.env.cells.lookup x=some c->c≠b)/\∀ p∈X.pn++pins,p.1≠b)
 (keep:∀ b o,b≠X.env.locals->b∉X.fs->b∉ch->s.heap.get? b=some o->H b=none->h'.get? b=some o)
 (slot:∀ b o,b≠X.env.locals->b∈X.fs->b∉ch->s.heap.get? b=some o->H b=none->∃ sl,h'.get? b=some { o with slots:=sl }) (free:∀ b o,b∉ch->s.heap.get? b=some o->H b=none->H' b=none)
 (there:∀ b o,b∉ch->s.heap.get? b=some o->∃ o',h'.get? b=some o')
 (fF:∀ b xs,H b=some (.tup xs)->H' b=some (.tup xs)) (eT:∀ b o u,H b=some (.aL o u)->H' b=some (.aL o u)) (fG:∀ b ps,H b=some (.tbl ps)->∃ more,H' b=some (.tbl (ps++more)))
 (ns:∀ m,s.heap.Ns X.env.locals m->h'.Ns X.env.locals m) (ay:bW X.prog X.w H' h') (hg:agu g') :
 Inv X pins σ H' { s with heap:=h',gens:=g',drawn:=d',toks:=t' }:=by
 have oN:∀ b o,X.s₀.heap.get? b=some o->b≠X.env.locals:=λb o e=>abk (abn (aa6 e) I.ok.above);have uX:∀ b o,X.s₀.heap.get? b=some o->b∉X.ex->b∉ch:=λb o e hx hb=>by
  rcases (jQ b hb).1 with z|z
  .exact hx z
  .exact absurd (abn (aa6 e) z) (acu _)
 have cellK:∀ x c,X.env.cells.lookup x=some c->∀ v,s.heap.IsCell c v->h'.IsCell c v:=λx c e v ⟨o,ho,hd⟩=>by
  have l4:c∉ch:=λz=>(jQ c z).2.2.1 x c e rfl;by_cases hc:c∈X.fs
  .obtain⟨sl,q⟩:=slot c o (I.gQ x c e) hc l4 ho (I.fH x c e);exact⟨_,q,hd⟩
  .exact⟨o,keep c o (I.gQ x c e) hc l4 ho (I.fH x c e),hd⟩
 refine⟨I.ok,I.os,hg,⟨λb o e n hb hx=>?_,λb o e n hb hx=>?_,λb o e n hx=>?_,λb o e hx=>?_,λb xs e=>fF b xs (I.base.fF b xs e),λb o xs e=>eT b o xs (I.base.eT b o xs e),λb ps e=>?_⟩,?_,λx c e=>?_,?_,λx c e=>?_,λp hp=>?_,ay,I.len⟩
 .exact keep b o (oN b o e) hb (uX b o e hx) (I.base.keep b o e n hb hx) (I.base.free b o e n hx)
 .obtain⟨sl,e1⟩:=I.base.slot b o e n hb hx;obtain⟨fb,e2⟩:=slot b _ (oN b o e) hb (uX b o e hx) e1 (I.base.free b o e n hx);exact⟨fb,e2⟩
 .obtain⟨o',e1⟩:=I.base.there b o e hx;exact free b o' (uX b o e hx) e1 (I.base.free b o e n hx)
 .obtain⟨o',e1⟩:=I.base.there b o e hx;exact there b o' (uX b o e hx) e1
 .obtain⟨m1,e1⟩:=I.base.fG b ps e;obtain⟨m2,e2⟩:=fG b _ e1;exact⟨m1++m2,by rw[e2,ahc]⟩
 .obtain⟨m,hn,hl⟩:=I.loc;refine⟨m,ns m hn,λi x v e1 e2 e3=>?_⟩;obtain⟨u,r,l⟩:=hl i x v e1 e2 e3;refine⟨u,r,?_⟩;rcases l with l|⟨k,c,e,z⟩
  .exact .inl l
  .exact .inr ⟨k,c,e,cellK x c e _ z⟩
 .obtain⟨v,z⟩:=I.cell x c e;exact⟨v,cellK x c e v z⟩
 .obtain⟨m,⟨o,_,_,ho,_⟩,_⟩:=I.loc;exact free _ o (λz=>(jQ _ z).2.1 rfl) ho I.free
 .obtain⟨v,o,ho,hd⟩:=I.cell x c e;exact free c o (λz=>(jQ c z).2.2.1 x c e rfl) ho (I.fH x c e)
 .obtain⟨e,n,ne,nf,d⟩:=I.pin p hp;have l4:p.1∉ch:=λz=>(jQ p.1 z).2.2.2 p hp rfl;exact⟨keep p.1 p.2 ne nf l4 e n,free p.1 p.2 l4 e n,ne,nf,d⟩
theorem Inv.un(I:Inv X pins σ H s)(u:Un X.fs [] H H' s.heap h')(ay:bW X.prog X.w H' h'):Inv X pins σ H' { s with heap:=h',toks:=t' }:=by
 obtain⟨m,⟨o,es,ep,ho,r⟩,_⟩:=id I.loc;obtain⟨sl,hL⟩:=u.any ho I.free (by simp);exact I.step (g':=s.gens) (d':=s.drawn) (ch:=[]) (λ_ z=>nomatch z) (λb o _ hb _ e n=>u.keep b o e n hb (by simp)) (λb o _ hb _ e n=>u.slot b o e n hb (by simp)) (λb o _ e n=>u.free b o e n (by simp)) (λb o _ e=>u.there b o e (by simp)) u.fF u.eT u.fG (λm' hm=>by
  obtain⟨o',es',kK,cW,r'⟩:=hm;rw[ho] at cW;cases cW;exact⟨_,es',kK,hL,r'⟩) ay I.bare
theorem Inv.call(I:Inv X pins σ H s)(u:Un (a9 X.stack) ch H H' s.heap h')(ay:bW X.prog X.w H' h')(hg:agu g')(jQ:∀ b∈ch,(b∈X.ex∨X.s₀.heap.objs.size<=b)/\b≠X.env.locals/\(∀ x c,X.env.cells.lookup x=some c->c≠b)/\∀ p∈X.pn++pins,p.1≠b) :
 Inv X pins σ H' { s with heap:=h',gens:=g',drawn:=d',toks:=t' }:=by
 obtain⟨m,⟨o,es,ep,ho,r⟩,_⟩:=id I.loc;obtain⟨sl,hL⟩:=u.any ho I.free λz=>(jQ _ z).2.1 rfl;exact I.step (ch:=ch) jQ (λb o hL hb hc e n=>u.keep b o e n (λz=>(abl.mp (I.oM b z)).elim hL hb) hc) (λb o _ _ hc e n=>u.any e n hc) (λb o hc e n=>u.free b o e n hc) (λb o hc e=>u.there b o e hc) u.fF u.eT u.fG (λm' hm=>by
  obtain⟨o',es',kK,cW,r'⟩:=hm;rw[ho] at cW;cases cW;exact⟨_,es',kK,hL,r'⟩) ay hg
theorem Inv.turned(I:Inv X pins σ H s)(k:∀ b o,b≠it->s.heap.get? b=some o->h'.get? b=some o)(hn:H it=none)(hL:it≠X.env.locals)(h1:it∈X.ex∨X.s₀.heap.objs.size<=it)(h2:∀ x c,X.env.cells.lookup x=some c->c≠it)(h3:∀ p∈X.pn++pins,p.1≠it):Inv X pins σ H { s with heap:=h',toks:=t' }:=by
 have DJ:∀ b u,H b=some u->b≠it:=λb u e z=>by rw[z,hn] at e;cases e
 refine I.step (g':=s.gens) (d':=s.drawn) (ch:=[it]) (λb hb=>?_) (λb o _ _ hc e _=>k b o (λz=>hc (by simp[z])) e) (λb o _ _ hc e _=>⟨o.slots,k b o (λz=>hc (by simp[z])) e⟩) (λ_ _ _ _ n=>n)
  (λb o hc e=>⟨o,k b o (λz=>hc (by simp[z])) e⟩) (λ_ _ e=>e) (λ_ _ _ e=>e) (λb ps e=>⟨#[],by rw[e];simp⟩) (λm hm=>?_) (λb u e=>?_) I.bare
 .have e:b=it:=by simpa using hb
  subst e;exact⟨h1,hL,h2,h3⟩
 .obtain⟨o,es,ep,ho,r⟩:=hm;exact⟨o,es,ep,k _ o (ab4 hL) ho,r⟩
 .refine (I.ay b u e).gp (λc v hc q=>k c v ?_ q) (λ_ q=>q) λ_ _ q=>q;rcases hc with z|z
  .rw[z];exact DJ b u e
  .exact DJ c _ z
theorem Inv.tok(I:Inv X pins σ H s)(t:Nat):Inv X pins σ H { s with toks:=t }:=I.un (h':=s.heap) (t':=t) Un.refl I.ay
theorem Inv.kept(I:Inv X pins σ H s)(k:∀ b u,s.heap.get? b=some u->h'.get? b=some u):Inv X pins σ H { s with heap:=h',toks:=t' }:=I.un (Un.kept k) (I.ay.kept k)
theorem Inv.laid(I:Inv X pins σ H s)(k:∀ b u,s.heap.get? b=some u->h'.get? b=some u)(hp:s.heap.objs.size<=a)(new:bN X.prog X.w (upd H a o) h' a o) :
 Inv X pins σ (upd H a o) { s with heap:=h',toks:=t' }:=I.un (Un.laid k hp (I.ay.fresh hp)) (I.ay.laid k hp new)
theorem Inv.write(I:Inv X pins σ H s)(mu:qS (H x))(he:e=x∨H e=some (.own x))(k:∀ b u,b≠e->s.heap.get? b=some u->h'.get? b=some u)(oK:∃ u,h'.get? e=some u)(new:bN X.prog X.w (upd H x o) h' x o):Inv X pins σ (upd H x o) { s with heap:=h',toks:=t' }:=I.un (Un.write mu he k oK) (I.ay.write mu he k oK new)
theorem Inv.weak(I:Inv X pins σ H s)(hl:σ'.length=σ.length)(w:∀ (i:Nat) v,σ'[i]?=some (some v)->σ[i]?=some (some v)):Inv X pins σ' H s :=
 ⟨I.ok,I.os,I.bare,I.base,let ⟨m,hn,qU⟩:=I.loc;⟨m,hn,λi x v e1 e2 e3=>qU i x v e1 (w i v e2) e3⟩,I.cell,I.free,I.fH,I.pin,I.ay,hl.trans I.len⟩
theorem Inv.qV(I:Inv X pins σ H s)(h:∀ p∈xU,s.heap.get? p.1=some p.2/\H p.1=none/\p.1≠X.env.locals/\p.1∉X.fs/\∀ v,p.2.data ≠ .cell v):Inv X xU σ H s :=
 ⟨I.ok,I.os,I.bare,I.base,I.loc,I.cell,I.free,I.fH,λp hp=>(abD.mp hp).elim (λz=>I.pin p (acK _ z)) (h p),I.ay,I.len⟩
theorem xV{N:List Str}(hN:N.Nodup){i j:Nat}{x:Str}(a:N[i]?=some x)(b:N[j]?=some x):i=j:=by obtain⟨h1,e1⟩:=aa7.mp a;obtain⟨h2,e2⟩:=aa7.mp b;exact (List.getElem_inj hN).mp (e1.trans e2.symm)
theorem Nr(I:Inv X pins σ H s)(hN:X.N.Nodup)(hi:X.N[i]?=some x)(hx:Loc X.env.scope x)(r:RelV v u)(h:∀ s',Inv X pins (σ.set i (some v)) H s'->(∃ a,Heap.SameBut a s.heap s'.heap/\(a=X.env.locals∨X.env.cells.lookup x=some a))->Q () s')(hf:X.fn x=true∨X.env.scope.names.lookup x=some .local:=by first|exact .inl rfl|exact .inr rfl|assumption):abm M A (storeName X.env x u) Q E s:=by
 obtain⟨m,hn,hl⟩:=id I.loc;have xW:(X.env.scope.kind == .class || (X.env.scope.kind == .module && X.env.locals != X.env.globals))=false:=by rw[I.ok.kind];rfl
 have DK:i<σ.length:=by rw[I.len];exact (aa7.mp hi).1
 have gQ:=I.gQ;have tracked:∀ {a:abd} {h':adz},(∃ o,s.heap.get? a=some o/\H a=none)->Heap.SameBut a s.heap h'->bW X.prog X.w H h':=λ{a h'} ha hs b ob e=>by
  obtain⟨_,_,hfree⟩:=ha;refine (I.ay b ob e).gp (λc w' hc q=>(hs.2 c ?_).trans q) (λ_ q=>q) λ_ _ q=>q;rintro rfl;rcases hc with rfl|hc
  .rw[hfree] at e;cases e
  .rw[hfree] at hc;cases hc
 rcases hx with hk|hk
 .refine wpAny_storeName_local hk hn (λh' jR hs=>?_) xW;obtain⟨oL,_,_,DL,_⟩:=id hn;refine h _ ⟨I.ok,I.os,I.bare,⟨λb o e n hb hx=>?_,λb o e n hb hx=>?_,I.base.free,λb o e hx=>?_,I.base.fF,I.base.eT,I.base.fG⟩,⟨_,jR,λj y v' e1 e2 e3=>?_⟩,λy c e=>?_,I.free,I.fH,λp hp=>?_,tracked ⟨oL,DL,I.free⟩ hs,by simpa using I.len⟩ ⟨_,hs,.inl rfl⟩
  .exact (hs.2 b (abk (abn (aa6 e) I.ok.above))).trans (I.base.keep b o e n hb hx)
  .obtain⟨sl,e1⟩:=I.base.slot b o e n hb hx;exact⟨sl,(hs.2 b (abk (abn (aa6 e) I.ok.above))).trans e1⟩
  .obtain⟨o',e1⟩:=I.base.there b o e hx;exact⟨o',(hs.2 b (abk (abn (aa6 e) I.ok.above))).trans e1⟩
  .by_cases hj:j=i
   .subst hj;rw[hi] at e1;cases e1;rw[aes DK] at e2;cases e2;exact⟨u,r,.inl ⟨hk,by simp⟩⟩
   .rw[ae0 (ab4 hj)] at e2;obtain⟨u',r',q⟩:=hl j y v' e1 e2 e3;refine⟨u',r',?_⟩;rcases q with ⟨k,e⟩|⟨k,c,e,z⟩
    .refine .inl ⟨k,?_⟩;have:y≠x:=λe=>hj (xV hN e1 (e ▸ hi));simp[this,e]
    .exact .inr ⟨k,c,e,z.sameBut hs (gQ y c e)⟩
  .obtain⟨w',z⟩:=I.cell y c e;exact⟨w',z.sameBut hs (gQ y c e)⟩
  .obtain⟨e,n,ne,nf,d⟩:=I.pin p hp;exact⟨(hs.2 p.1 ne).trans e,n,ne,nf,d⟩
 .have xX:X.fn x=true:=by
   rcases hf with z|z
   .exact z
   .rw[z] at hk;cases hk
  obtain⟨c,hc⟩:=I.ok.has x (.inl hk);obtain⟨w',z⟩:=I.cell x c hc;refine wpAny_storeName_cell I.ok.kind hk hc z (λh' kL hs=>?_);obtain⟨oc,hoc,hocd⟩:=id z;refine h { s with heap:=h' } ⟨I.ok,I.os,I.bare,⟨λb o e n hb hx=>?_,λb o e n hb hx=>?_,I.base.free,λb o e hx=>?_,I.base.fF,I.base.eT,I.base.fG⟩,⟨m,hn.sameBut hs (ab4 (gQ x c hc)),λj y v' e1 e2 e3=>?_⟩,λy c' e=>?_,I.free,I.fH,λp hp=>?_,tracked ⟨oc,hoc,I.fH x c hc⟩ hs,by simpa using I.len⟩ ⟨c,hs,.inr hc⟩
  .exact (hs.2 b (abk (abn (aa6 e) (I.ok.cab x c xX hc)))).trans (I.base.keep b o e n hb hx)
  .obtain⟨sl,e1⟩:=I.base.slot b o e n hb hx;exact⟨sl,(hs.2 b (abk (abn (aa6 e) (I.ok.cab x c xX hc)))).trans e1⟩
  .obtain⟨o',e1⟩:=I.base.there b o e hx;exact⟨o',(hs.2 b (abk (abn (aa6 e) (I.ok.cab x c xX hc)))).trans e1⟩
  .by_cases hj:j=i
   .subst hj;rw[hi] at e1;cases e1;rw[aes DK] at e2;cases e2;exact⟨u,r,.inr ⟨.inl hk,c,hc,kL⟩⟩
   .rw[ae0 (ab4 hj)] at e2;obtain⟨u',r',q⟩:=hl j y v' e1 e2 e3;refine⟨u',r',?_⟩;rcases q with q|⟨k,c',e,z'⟩
    .exact .inl q
    .refine .inr ⟨k,c',e,z'.sameBut hs ?_⟩;rintro rfl;exact hj (xV hN e1 (I.ok.inj _ _ _ e hc ▸ hi))
  .by_cases uY:c'=c
   .subst uY;exact⟨_,kL⟩
   .obtain⟨w2,z2⟩:=I.cell y c' e;exact⟨w2,z2.sameBut hs uY⟩
  .obtain⟨e,n,ne,nf,d⟩:=I.pin p hp;refine⟨(hs.2 p.1 ?_).trans e,n,ne,nf,d⟩;intro q;rw[q,hoc] at e;have q':oc=p.2:=Option.some.inj e;exact d w' (by rw[<- q'];exact hocd)
theorem xY(I:Inv X pins σ H s)(hN:X.N.Nodup)(hi:X.N[i]?=some x)(hx:Loc X.env.scope x)(r:RelV v u)(h:∀ s',Inv X pins (σ.set i (some v)) H s'->Q () s')(hf:X.fn x=true∨X.env.scope.names.lookup x=some .local:=by first|exact .inl rfl|exact .inr rfl|assumption):abm M A (storeName X.env x u) Q E s :=
 Nr I hN hi hx r (λs' I' _=>h s' I') hf
theorem Inv.xZ(I:Inv X pins σ H s)(ho:s'.os=s.os)(u:Un (a9 X.stack) ch H H' s.heap s'.heap)(ay:bW X.prog X.w H' s'.heap)(hg:agu s'.gens)(jQ:∀ b∈ch,(b∈X.ex∨X.s₀.heap.objs.size<=b)/\b≠X.env.locals/\(∀ x c,X.env.cells.lookup x=some c->c≠b)/\∀ p∈X.pn++pins,p.1≠b):Inv X pins σ H' s':=by obtain⟨h',g',d',t',o'⟩:=s';have e:o'=s.os:=ho;subst e;exact I.call (g':=g') (t':=t') (d':=d') u ay hg jQ
end
abbrev XK:=aa9->Option abd->Hp->Prop
abbrev St:=List (Option V)
abbrev VK:=V->Hp->Prop
abbrev TE:=St->Hp->VK->Prop
abbrev TT:=St->Hp->(Bool->Hp->Prop)->Prop
abbrev TA:=St->Hp->(List V->Hp->Prop)->Prop
structure Ends where
 nx:St->Hp->Prop
 rt:VK
 bk:St->Hp->Prop:=λ_ _=>False
 ct:St->Hp->Prop:=λ_ _=>False
abbrev TS:=Ends->St->Hp->Prop
def EP(X:Cx)(pins:List (abd × Obj))(σ:St)(Q:VK)(u:aa9)(s':abe):Prop:=∃ v H',Inv X pins σ H' s'/\RelV v u/\Q v H'
def TP(X:Cx)(pins:List (abd × Obj))(σ:St)(Q:Bool->Hp->Prop)(b:Bool)(s':abe):Prop:=∃ H',Inv X pins σ H' s'/\Q b H'
def AP(X:Cx)(pins:List (abd × Obj))(σ:St)(Q:List V->Hp->Prop)(us:List aa9)(s':abe):Prop:=∃ vs H',Inv X pins σ H' s'/\Vals vs us/\Q vs H'
def SP(X:Cx)(pins:List (abd × Obj))(D:Ends)(f:Flow)(s':abe):Prop :=
 match f with
 | .next=>∃ σ' H',Inv X pins σ' H' s'/\D.nx σ' H'
 | .brk=>∃ σ' H',Inv X pins σ' H' s'/\D.bk σ' H'
 | .cont=>∃ σ' H',Inv X pins σ' H' s'/\D.ct σ' H'
 | .ret u=>∃ v σ' H',Inv X pins σ' H' s'/\RelV v u/\D.rt v H'
def PE(X:Cx)(e:aeV)(t:TE):Prop :=
 ∀ (pins:List (abd × Obj)) (s:abe) (σ:St) (H:Hp) (Q:VK),Inv X pins σ H s->t σ H Q->abm (model X.prog X.w) X.A (eval e X.env) (EP X pins σ Q) X.xe s
def PT(X:Cx)(e:aeV)(t:TT):Prop :=
 ∀ (pins:List (abd × Obj)) (s:abe) (σ:St) (H:Hp) (Q:Bool->Hp->Prop),Inv X pins σ H s->t σ H Q->abm (model X.prog X.w) X.A (ai4 e X.env (eval e X.env)) (TP X pins σ Q) X.xe s
def PW(X:Cx)(e:aeV)(t:TT):Prop :=
 ∀ (whole:Sem aa9) (pins:List (abd × Obj)) (s:abe) (σ:St) (H:Hp) (Q:Bool->Hp->Prop),Inv X pins σ H s->t σ H Q->abm (model X.prog X.w) X.A (ai4 e X.env whole) (TP X pins σ Q) X.xe s
theorem PW.pt(h:PW X e t):PT X e t:=h _
def PA(X:Cx)(es:List aeV)(t:TA):Prop :=
 ∀ (pos:Pos) (pins:List (abd × Obj)) (s:abe) (σ:St) (H:Hp) (Q:List V->Hp->Prop),Inv X pins σ H s->t σ H Q->abm (model X.prog X.w) X.A (spliced (adh pos (abA es X.env))) (AP X pins σ Q) X.xe s
def PS(X:Cx)(st:acM)(t:TS):Prop :=
 ∀ (pins:List (abd × Obj)) (s:abe) (σ:St) (H:Hp) (D:Ends),Inv X pins σ H s->t D σ H->abm (model X.prog X.w) X.A (exec st X.env) (SP X pins D) X.xe s
def aR(X:Cx)(st:List acM)(t:TS):Prop :=
 ∀ (pins:List (abd × Obj)) (s:abe) (σ:St) (H:Hp) (D:Ends),Inv X pins σ H s->t D σ H->abm (model X.prog X.w) X.A (execs st X.env) (SP X pins D) X.xe s
theorem aE(h:abm M A t Q E s)(hQ:∀ a s,Q a s->Q' a s):abm M A t Q' E s:=aci h hQ λ_ _ x=>x
section
variable{X:Cx}
def x3(i:Nat):TE:=λσ H Q=>∃ v,σ[i]?=some (some v)/\Q v H
def tC(v:V):TE:=λ_ H Q=>Q v H
theorem Nt(hN:X.N[i]?=some x)(hv:uW X.env.scope x)(hd:(x == ("__debug__" : Str))=false:=by decide)(fW:(x == ("__classdict__" : Str))=false:=by decide):PE X (.Name x pos) (x3 i):=by
 intro pins s σ H Q I h;obtain⟨v,e,h⟩:=h;obtain⟨m,hn,hl⟩:=I.loc;obtain⟨u,r,l⟩:=hl i x v hN e hv;have fin:EP X pins σ Q u s:=⟨v,H,I,r,h⟩
 rcases l with ⟨hk,hm⟩|⟨hk,c,hc,hcell⟩
 .exact aiI (wpAny_loadName_local I.ok.kind hk hn hm fin) hd
 .rcases hk with hk|hk
  .exact aiI (wpAny_loadName_cell I.ok.kind hk hc hcell fin) hd
  .exact aiI (wpAny_loadName_free I.ok.kind hk hc hcell fin fW) hd
theorem af:PE X (.Constant (.int i) j pos) (tC (.int i)):=λ_ _ _ H _ I h=>wpAny_Constant_int ⟨.int i,H,I.tok _,⟨_,rfl⟩,h⟩
theorem b9:PE X (.Constant (.bool b) j pos) (tC (.bl b)):=λ_ _ _ H _ I h=>Constant_bool ⟨.bl b,H,I,rfl,h⟩
theorem b5:PE X (.Constant .none j pos) (tC .non):=λ_ _ _ H _ I h=>ahd ⟨.non,H,I,rfl,h⟩
theorem bp:PE X (.Constant (.str x) j pos) (tC (.str x)):=λ_ _ _ H _ I h=>Calls.Constant_str ⟨.str x,H,I.tok _,⟨_,rfl⟩,h⟩
def Gl(X:Cx)(x:Str):Prop:=X.env.kindOf x=some .globalImplicit
theorem qW(I:Inv X pins σ H s)(hg:Gl X x)(hm:X.mg x=some u)(h:Q u s)(hd:(x == ("__debug__" : Str))=false:=by decide):abm (model X.prog X.w) X.A (eval (.Name x pos) X.env) Q E s :=
 afp I.ok.kind hg (Calls.loadGlobal_global (by rw[I.ok.glob];exact I.mod.glob.keeps I.bk) hm h) hd
theorem fI(I:Inv X pins σ H s)(hg:Gl X x)(hm:X.mg x=none)(hv:abP x=some u)(h:Q u s)(hn:x ≠ "__name__" := by decide)(hd:(x == ("__debug__" : Str))=false:=by decide):abm (model X.prog X.w) X.A (eval (.Name x pos) X.env) Q E s:=by obtain⟨mb,h1,h2⟩:=I.mod.blt;exact afp I.ok.kind hg (Calls.loadGlobal_builtin (by rw[I.ok.glob];exact I.mod.glob.keeps I.bk) hm (by rw[I.ok.blt];exact h1.keeps I.bk) ((h2 x hn).trans hv) h) hd
theorem uZ(hg:Gl X x)(hm:X.mg x=some u)(r:RelV v u)(hd:(x == ("__debug__" : Str))=false:=by decide):PE X (.Name x pos) (tC v) :=
 λ_ _ _ H _ I h=>qW I hg hm ⟨v,H,I,r,h⟩ hd
theorem iz(hg:Gl X x)(hm:X.mg x=none)(hv:abP x=some u)(r:RelV v u)(hn:x ≠ "__name__" := by decide)(hd:(x == ("__debug__" : Str))=false:=by decide):PE X (.Name x pos) (tC v) :=
 λ_ _ _ H _ I h=>fI I hg hm hv ⟨v,H,I,r,h⟩ hn hd
variable{a b:aeV}{ta tb:TE}{pos:Pos}
def PC(X:Cx)(op:CmpOp)(a b:aeV)(t:TE):Prop :=
 ∀ (pins:List (abd × Obj)) (s:abe) (σ:St) (H:Hp) (Q:VK),Inv X pins σ H s->t σ H Q ->
  abm (model X.prog X.w) X.A (eval a X.env) (λv s₁=>abm (model X.prog X.w) X.A (eval b X.env) (λu s₂=>abm (model X.prog X.w) X.A (acm op v u) (EP X pins σ Q) X.xe s₂) X.xe s₁) X.xe s
theorem DM(b:aeV)(h:op ≠ .In)(h2:op ≠ .NotIn):adj op b=false:=by
 have e1:(op == CmpOp.In)=false:=by cases op<;>first|rfl|exact absurd rfl h
 have e2:(op == CmpOp.NotIn)=false:=by cases op<;>first|rfl|exact absurd rfl h2
 cases b<;>simp[adj,e1,e2]
def DN(ta:TE):TE:=λσ H Q=>ta σ H λx H1=>Q (.bl (decide (x = .non))) H1
def DO(ta:TE):TE:=λσ H Q=>ta σ H λx H1=>Q (.bl (!decide (x = .non))) H1
theorem RelV.DP(r:RelV x v):(v == Value.none)=decide (x = .non):=by
 cases x with
 | non=>cases r;rfl
 | bl _=>cases r;rfl
 | int _=>obtain⟨t,rfl⟩:=r;rfl
 | str _=>obtain⟨t,rfl⟩:=r;rfl
 | byt _=>obtain⟨t,rfl⟩:=r;rfl
 | flt _=>obtain⟨t,rfl⟩:=r;rfl
 | ref _=>cases r;rfl
 | ty _=>cases r;rfl
theorem nq(ha:PE X a ta):PC X .Is a (.Constant .none j pos') (DN ta):=by intro pins s σ H Q I h;refine aE (ha pins s σ H _ I h) λv s1 zq=>?_;obtain⟨x,H1,I1,r1,q1⟩:=zq;exact ahd (is_none_gen ⟨.bl _,H1,I1,by rw[r1.DP];rfl,q1⟩)
theorem qX(ha:PE X a ta):PC X .IsNot a (.Constant .none j pos') (DO ta):=by intro pins s σ H Q I h;refine aE (ha pins s σ H _ I h) λv s1 zq=>?_;obtain⟨x,H1,I1,r1,q1⟩:=zq;exact ahd (isnot_none_gen ⟨.bl _,H1,I1,by rw[r1.DP];rfl,q1⟩)
def tB(t:TE):TT:=λσ H Q=>t σ H λx H1=>∃ c,x = .bl c/\Q c H1
theorem jS(h:PC X op a b t)(h1:adj op b=false:=by first|exact DM _ (by decide) (by decide)|rfl):PE X (.Compare a [op] [b] pos) t:=λpins s σ H Q I hw=>wpAny_Compare1 (h pins s σ H Q I hw) h1
theorem qY(h:PC X op a b t)(h1:adj op b=false:=by first|exact DM _ (by decide) (by decide)|rfl):PT X (.Compare a [op] [b] pos) (tB t):=by intro pins s σ H Q I hw;refine agv (aE (h pins s σ H _ I hw) λv s1 h1=>aE h1 λu s2 h2=>aE h2 λc s3 zq=>?_) h1;obtain⟨x,H1,I1,r1,q1⟩:=zq;obtain⟨d,rfl,q⟩:=q1;cases r1;exact acb ⟨H1,I1,q⟩
theorem Nu(h:PE X e t)(he:∀ whole,ai4 e X.env whole=(do let v <- whole;aiS e.pos;holding [v] (truthy v)):=by intro _;rfl):PT X e (tB t):=by intro pins s σ H Q I hw;refine isTrue_plain (aE (h pins s σ H _ I hw) λv s1 zq=>?_) (he _);obtain⟨x,H1,I1,r1,q1⟩:=zq;obtain⟨d,rfl,q⟩:=q1;cases r1;exact acb ⟨H1,I1,q⟩
variable{tA u5:TT}{rest:List aeV}
def DQ(t u:TT):TT:=λσ H Q=>t σ H λc H1=>if c=true then u σ H1 Q else Q false H1
def DR(t u:TT):TT:=λσ H Q=>t σ H λc H1=>if c=true then Q true H1 else u σ H1 Q
def DS(t:TT):TT:=λσ H Q=>t σ H λc H1=>Q (!c) H1
theorem jT(ha:PT X a tA):PW X (.BoolOp .And [a] pos) tA:=by
 intro wh pins s σ H Q I h;refine isTrue_and (aE (ha pins s σ H Q I h) λc s1 e=>?_);cases c with
 | true=>exact isTrue_and_nil e
 | false=>exact e
theorem ck(ha:PT X a tA):PW X (.BoolOp .Or [a] pos) tA:=by
 intro wh pins s σ H Q I h;refine isTrue_or (aE (ha pins s σ H Q I h) λc s1 e=>?_);cases c with
 | false=>exact isTrue_or_nil e
 | true=>exact e
theorem i5(ha:PT X a tA)(hb:PW X (.BoolOp .And (b::rest) pos) u5):PW X (.BoolOp .And (a::b::rest) pos) (DQ tA u5):=by
 intro wh pins s σ H Q I h;refine isTrue_and (aE (ha pins s σ H _ I h) λc s1 zq=>?_);obtain⟨H1,I1,q1⟩:=zq;cases c with
 | true=>exact hb wh pins s1 σ H1 Q I1 q1
 | false=>exact⟨H1,I1,q1⟩
theorem bB(ha:PT X a tA)(hb:PW X (.BoolOp .Or (b::rest) pos) u5):PW X (.BoolOp .Or (a::b::rest) pos) (DR tA u5):=by
 intro wh pins s σ H Q I h;refine isTrue_or (aE (ha pins s σ H _ I h) λc s1 zq=>?_);obtain⟨H1,I1,q1⟩:=zq;cases c with
 | true=>exact⟨H1,I1,q1⟩
 | false=>exact hb wh pins s1 σ H1 Q I1 q1
theorem bC(ha:PT X a tA):PT X (.UnaryOp .Not a pos) (DS tA):=by intro pins s σ H Q I h;exact isTrue_not (ha pins s σ H (λc H1=>Q (!c) H1) I h)
def DT(ta tb:TE):TE:=λσ H Q=>ta σ H λx H1=>∃ c,x = .bl c/\if c=true then tb σ H1 Q else Q (.bl false) H1
def DU(ta tb:TE):TE:=λσ H Q=>ta σ H λx H1=>∃ c,x = .bl c/\if c=true then Q (.bl true) H1 else tb σ H1 Q
def DV(ta:TE):TE:=λσ H Q=>ta σ H λx H1=>∃ c,x = .bl c/\Q (.bl (!c)) H1
theorem eU(h:PE X a t):PE X (.BoolOp op [a] pos) t:=λpins s σ H Q I hw=>BoolOp_one (h pins s σ H Q I hw)
theorem Nv(ha:PE X a ta)(hb:PE X (.BoolOp .And (b::rest) pos) tb):PE X (.BoolOp .And (a::b::rest) pos) (DT ta tb):=by
 intro pins s σ H Q I h;refine BoolOp_and (aE (ha pins s σ H _ I h) λv s1 zq=>?_);obtain⟨x,H1,I1,r1,q1⟩:=zq;obtain⟨c,rfl,q1⟩:=q1;cases r1;refine acb ?_;cases c with
 | true=>exact hb pins s1 σ H1 Q I1 q1
 | false=>exact⟨.bl false,H1,I1,rfl,q1⟩
theorem Nw(ha:PE X a ta)(hb:PE X (.BoolOp .Or (b::rest) pos) tb):PE X (.BoolOp .Or (a::b::rest) pos) (DU ta tb):=by
 intro pins s σ H Q I h;refine BoolOp_or (aE (ha pins s σ H _ I h) λv s1 zq=>?_);obtain⟨x,H1,I1,r1,q1⟩:=zq;obtain⟨c,rfl,q1⟩:=q1;cases r1;refine acb ?_;cases c with
 | false=>exact hb pins s1 σ H1 Q I1 q1
 | true=>exact⟨.bl true,H1,I1,rfl,q1⟩
theorem Nx(ha:PE X a ta):PE X (.UnaryOp .Not a pos) (DV ta):=by intro pins s σ H Q I h;refine UnaryOp_ (aE (ha pins s σ H _ I h) λv s1 zq=>?_);obtain⟨x,H1,I1,r1,q1⟩:=zq;obtain⟨c,rfl,q1⟩:=q1;cases r1;exact not_of (acb ⟨.bl (!c),H1,I1,rfl,q1⟩)
def DW(t:TT)(ta tb:TE):TE:=λσ H Q=>t σ H λc H1=>if c=true then ta σ H1 Q else tb σ H1 Q
theorem l6(hc:PT X c tA)(ha:PE X a ta)(hb:PE X b tb):PE X (.IfExp c a b pos) (DW tA ta tb):=by
 intro pins s σ H Q I h;refine wpAny_IfExp (aE (hc pins s σ H _ I h) λd s1 zq=>?_);obtain⟨H1,I1,q1⟩:=zq;cases d with
 | true=>exact ha pins s1 σ H1 Q I1 q1
 | false=>exact hb pins s1 σ H1 Q I1 q1
end
def ai(K:aa0)(H:Hp)(a:abd)(xs:List V):Prop :=
 Rd H a (.lst xs) ∨
  ∃ (o:Obj) (ar:Array aa9) (n:Nat),K.lookup a=some o/\o.cls = .type "list" /\ o.dict=none/\o.data = .seq ar n/\ar.size<=abu/\Vals xs ar.toList
def ah(K:aa0)(H:Hp)(a:abd)(xs:List V):Prop :=
 Rd H a (.tup xs) ∨
  ∃ (o:Obj) (ar:Array aa9) (n:Nat),K.lookup a=some o/\o.cls = .type "tuple" /\ o.data = .seq ar n/\ar.size<=abu/\Vals xs ar.toList
noncomputable def Ny:aa9->Option V
 | .none=>some .non
 | .bool b=>some (.bl b)
 | .int i _=>some (.int i)
 | .str x _=>some (.str x)
 | .bytes b _=>some (.byt b)
 | .float b _=>some (.flt b)
 | .ref a=>some (.ref a)
 | .type n=>some (.ty n)
 | _=>none
theorem RelV.abs(r:RelV x u):Ny u=some x:=by
 cases x with
 | non=>cases r;rfl
 | bl _=>cases r;rfl
 | int _=>obtain⟨t,rfl⟩:=r;rfl
 | str _=>obtain⟨t,rfl⟩:=r;rfl
 | byt _=>obtain⟨t,rfl⟩:=r;rfl
 | flt _=>obtain⟨t,rfl⟩:=r;rfl
 | ref _=>cases r;rfl
 | ty _=>cases r;rfl
theorem RelV.inj(r:RelV x u)(q:RelV y u):x=y:=Option.some.inj (r.abs.symm.trans q.abs)
theorem Vals.inj:∀ {xs ys:List V} {us:List aa9},Vals xs us->Vals ys us->xs=ys
 | _,_,_,.nil,.nil=>rfl
 | _,_,_,.cons r t,.cons r' t'=>by rw[r.inj r',Vals.inj t t']
section
theorem ai.of{K:aa0}(h:H a=some (.lst xs)):ai K H a xs:=.inl (.inl h)
theorem ah.of{K:aa0}(h:H a=some (.tup xs)):ah K H a xs:=.inl (.inl h)
theorem Inv.list(I:Inv X pins σ H s)(h:ai X.K H a xs):∃ ar:List aa9,Vals xs ar/\PlainL s.heap a ar.toArray/\xs.length<=abu:=by
 rcases h with h|⟨o,ar,n,hk,hc,hd,hs,hz,r⟩
 .obtain⟨z,ar,n,r,e⟩:=h.ok I.ay;exact⟨ar,r,⟨_,n,e,rfl,rfl,rfl⟩,z⟩
 .refine⟨ar.toList,r,⟨o,n,I.cL a o hk,hc,hd,by simpa using hs⟩,?_⟩;have e:=r.length;simp only[ac2] at e;omega
theorem Inv.tuple(I:Inv X pins σ H s)(h:ah X.K H a xs):∃ ar:List aa9,Vals xs ar/\IsTup s.heap a ar.toArray/\xs.length<=abu:=by
 rcases h with h|⟨o,ar,n,hk,hc,hs,hz,r⟩
 .obtain⟨z,ar,r,p⟩:=h.ok I.ay;exact⟨ar,r,p,z⟩
 .refine⟨ar.toList,r,⟨o,I.cL a o hk,hc,n,by simpa using hs⟩,?_⟩;have e:=r.length;simp only[ac2] at e;omega
theorem Inv.qZ(I:Inv X pins σ H s)(h:ai X.K H a xs)(h':ai X.K H a ys):xs=ys:=by
 obtain⟨ar,r,⟨o,n,e,_,_,d⟩,_⟩:=I.list h;obtain⟨its',r',⟨o',n',e',_,_,d'⟩,_⟩:=I.list h';rw[e] at e';cases e';rw[d] at d';injection d' with d1 _;have:ar=its':=by simpa using congrArg ahQ d1
 subst this;exact r.inj r'
theorem Inv.Nz(I:Inv X pins σ H s)(h:ah X.K H a xs)(h':ah X.K H a ys):xs=ys:=by
 obtain⟨ar,r,⟨o,e,_,n,d⟩,_⟩:=I.tuple h;obtain⟨its',r',⟨o',e',_,n',d'⟩,_⟩:=I.tuple h';rw[e] at e';cases e';rw[d] at d';injection d' with d1 _;have:ar=its':=by simpa using congrArg ahQ d1
 subst this;exact r.inj r'
end
noncomputable abbrev Cx.jU(X:Cx)(E:aa9->abe->Prop):Cx:={ X with xe:=E }
noncomputable abbrev Cx.oO(X:Cx):Cx:=X.jU λ_ _=>False
theorem Cx.Ok.jU{X:Cx}(ok:X.Ok)(E:aa9->abe->Prop):(X.jU E).Ok :=
 ⟨ok.mod,ok.kind,ok.glob,ok.blt,ok.above,ok.inj,ok.has,ok.cab,ok.hd,ok.frames,ok.stk,ok.exf,ok.bs,ok.bsz,ok.noex,ok.exfs,ok.fV,ok.frf⟩
theorem Cx.Ok.l8{X:Cx}{E:aa9->abe->Prop}(ok:(X.jU E).Ok):X.Ok :=
 ⟨ok.mod,ok.kind,ok.glob,ok.blt,ok.above,ok.inj,ok.has,ok.cab,ok.hd,ok.frames,ok.stk,ok.exf,ok.bs,ok.bsz,ok.noex,ok.exfs,ok.fV,ok.frf⟩
section
theorem Inv.jU(I:Inv X pins σ H s)(E:aa9->abe->Prop):Inv (X.jU E) pins σ H s:=⟨I.ok.jU E,I.os,I.bare,I.base,I.loc,I.cell,I.free,I.fH,I.pin,I.ay,I.len⟩
theorem Inv.l8(I:Inv (X.jU E) pins σ H s):Inv X pins σ H s:=⟨I.ok.l8,I.os,I.bare,I.base,I.loc,I.cell,I.free,I.fH,I.pin,I.ay,I.len⟩
theorem SP.l8(h:SP (X.jU E) pins D f s'):SP X pins D f s':=by
 cases f with
 | next=>obtain⟨σ',H',I,q⟩:=h;exact⟨σ',H',I.l8,q⟩
 | brk=>obtain⟨σ',H',I,q⟩:=h;exact⟨σ',H',I.l8,q⟩
 | cont=>obtain⟨σ',H',I,q⟩:=h;exact⟨σ',H',I.l8,q⟩
 | ret u=>obtain⟨v,σ',H',I,r,q⟩:=h;exact⟨v,σ',H',I.l8,r,q⟩
theorem aR.oO{st:List acM}{t:TS}(h:aR X.oO st t):aR X st t:=λpins s σ H D I hw =>
 aci (h pins s σ H D (I.jU _) hw) (λ_ _ q=>q.l8) λ_ _ z=>adi z
end
section
variable{X:Cx}{st:acM}{rest:List acM}{t u:TS}{e:aeV}{te:TE}{pos:Pos}
def DX:TS:=λD σ H=>D.nx σ H
def u7(t u:TS):TS:=λD σ H=>t { D with nx:=u D } σ H
theorem aH:aR X [] DX:=λ_ _ σ H _ I h=>ae8 ⟨σ,H,I,h⟩
theorem ax(h1:PS X st t)(h2:aR X rest u):aR X (st::rest) (u7 t u):=by
 intro pins s σ H D I h;refine ahZ (aE (h1 pins s σ H { D with nx:=u D } I h) λf s1 q=>?_);cases f with
 | next =>
  obtain⟨σ',H',I',q⟩:=q;exact h2 pins s1 σ' H' D I' q
 | ret v=>exact q
 | brk=>exact q
 | cont=>exact q
theorem au(h1:PS X st t):aR X [st] t:=by
 intro pins s σ H D I h;refine ahZ (aE (h1 pins s σ H D I h) λf s1 q=>?_);cases f with
 | next=>exact ae8 q
 | ret v=>exact q
 | brk=>exact q
 | cont=>exact q
theorem Inv.quiet(I:Inv X pins σ H s):interactive X.env=false:=by simp[interactive,I.ok.kind]
def DY(te:TE):TS:=λD σ H=>te σ H λ_ H1=>D.nx σ H1
theorem d9(he:PE X e te)(hs:ae9 e none pos.line X.env=pure false:=by rfl):PS X (.Expr e pos) (DY te):=by intro pins s σ H D I h;exact wpAny_Expr_any (aE (he pins s σ H _ I h) λv s1 ⟨x,H1,I1,r1,q1⟩=>⟨σ,H1,I1,q1⟩) I.quiet hs
def DZ(te:TE):TS:=λD σ H=>te σ H D.rt
theorem aA(he:PE X e te):PS X (.Return (some e) pos) (DZ te):=by intro pins s σ H D I h;exact wpAny_Return_some (aE (he pins s σ H _ I h) λv s1 ⟨x,H1,I1,r1,q1⟩=>⟨x,σ,H1,I1,r1,q1⟩)
def D0(c:TT)(t u:TS):TS:=λD σ H=>c σ H λb H1=>if b=true then t D σ H1 else u D σ H1
theorem aG(hc:PT X c tc)(ha:aR X a t)(hb:aR X b u):PS X (.If c a b pos) (D0 tc t u):=by
 intro pins s σ H D I h;refine wpAny_If (aE (hc pins s σ H _ I h) λd s1 zq=>?_);obtain⟨H1,I1,q1⟩:=zq;cases d with
 | true=>exact ha pins s1 σ H1 D I1 q1
 | false=>exact hb pins s1 σ H1 D I1 q1
end
abbrev TG:=V->St->Hp->(St->Hp->Prop)->Prop
abbrev q8:=List V->St->Hp->(St->Hp->Prop)->Prop
def PG(X:Cx)(target:aeV)(t:TG):Prop :=
 ∀ (pins:List (abd × Obj)) (s:abe) (σ:St) (H:Hp) (v:V) (u:aa9) (Q:St->Hp->Prop),Inv X pins σ H s->RelV v u->t v σ H Q ->
  abm (model X.prog X.w) X.A (assign target X.env u) (λ_ s'=>∃ σ' H',Inv X pins σ' H' s'/\Q σ' H') X.xe s
def vc(X:Cx)(ts:List aeV)(t:q8):Prop :=
 ∀ (pins:List (abd × Obj)) (s:abe) (σ:St) (H:Hp) (vs:List V) (us:List aa9) (Q:St->Hp->Prop),Inv X pins σ H s->Vals vs us->t vs σ H Q ->
  abm (model X.prog X.w) X.A (assignInOrder ((afK ts X.env).map (·.2)) us) (λ_ s'=>∃ σ' H',Inv X pins σ' H' s'/\Q σ' H') X.xe s
abbrev D1:=V->V->V->Hp->(Hp->Prop)->Prop
def D3(X:Cx)(t:D1):Prop :=
 ∀ (pins:List (abd × Obj)) (s:abe) (σ:St) (H:Hp) (o i v:V) (ov iv u:aa9) (Q:Hp->Prop),Inv X pins σ H s->RelV o ov->RelV i iv->RelV v u->t o i v H Q ->
  abm (model X.prog X.w) X.A (setItem ov iv u) (λ_ s'=>∃ H',Inv X pins σ H' s'/\Q H') X.xe s
section
def bX(i:Nat):TG:=λv σ H Q=>Q (σ.set i (some v)) H
theorem gq(hN:X.N.Nodup)(hi:X.N[i]?=some x)(hx:Loc X.env.scope x)(hf:X.fn x=true∨X.env.scope.names.lookup x=some .local:=by first|exact .inl rfl|exact .inr rfl|assumption):PG X (.Name x pos) (bX i):=by intro pins s σ H v u Q I r h;exact wpAny_assign_Name (xY I hN hi hx r (λs' I'=>⟨_,H,I',h⟩) hf)
def gR:q8:=λvs σ H Q=>vs=[]/\Q σ H
def cB(t:TG)(u:q8):q8:=λvs σ H Q=>∃ v r,vs=v::r/\t v σ H λσ' H'=>u r σ' H' Q
theorem jV:vc X [] gR:=by intro pins s σ H vs us Q I r h;obtain⟨e,h⟩:=h;subst e;cases r;exact assignInOrder_nil ⟨σ,H,I,h⟩
theorem dw(h1:PG X e t)(h2:vc X es u)(hs:(afK (e::es) X.env).map (·.2)=assign e X.env::(afK es X.env).map (·.2):=by rfl):vc X (e::es) (cB t u):=by
 intro pins s σ H vs us Q I r h;obtain⟨v,vr,e1,h⟩:=h;subst e1;cases r with
 | cons r rr =>
  rw[hs];refine assignInOrder_cons (aE (h1 pins s σ H _ _ _ I r h) λ_ s1 zq=>?_);obtain⟨σ1,H1,I1,q1⟩:=zq;exact h2 pins s1 σ1 H1 _ _ Q I1 rr q1
def iA(K:aa0)(n:Nat)(t:q8):TG:=λv σ H Q=>∃ a xs,v = .ref a/\ah K H a xs/\xs.length=n/\t xs σ H Q
theorem jW(hc:X.calm=true)(h:vc X es t)(hn:(afK es X.env).length=n:=by rfl)(cX:(afK es X.env).findIdx? (·.1)=none:=by rfl):PG X (.Tuple es k pos) (iA X.K n t):=by intro pins s σ H v u Q I r hw;obtain⟨a,xs,e1,hq,hl,hw⟩:=hw;subst e1;cases r;obtain⟨ar,rv,ht,hz⟩:=I.tuple hq;refine assign_Tuple_tuple (I.ok.hd hc) ht (by simp[hn,<- hl,rv.length]) cX λh' hx=>?_;have I1:Inv X pins σ H { s with heap:=h' }:=I.kept (t':=s.toks) λb o e=>hx b o (abk (aa6 e)) e;exact h pins _ σ H xs _ Q I1 (by simpa using rv) hw
def D4(to ti:TE)(t:D1):TG:=λv σ H Q=>to σ H λo H1=>ti σ H1 λi H2=>t o i v H2 λH3=>Q σ H3
theorem x4(ho:PE X o to)(hi:PE X i ti)(hs:D3 X t)(ha:∀ v,assign (.Subscript o i pos) X.env v=(do
 let ov <- holding [v] (eval o X.env);let iv <- holding [v,ov] (eval i X.env)
 aiS pos
 holding [v,ov,iv] (setItem ov iv v)
 release [v,ov,iv] []):=by intro _;rfl):PG X (.Subscript o i pos) (D4 to ti t):=by
 intro pins s σ H v u Q I r h;rw[ha];refine aaZ (acv (aE (ho pins s σ H _ I h) λov s1 zq=>?_));obtain⟨x,H1,I1,r1,q1⟩:=zq;refine aaZ (acv (aE (hi pins s1 σ H1 _ I1 q1) λiv s2 zq=>?_));obtain⟨y,H2,I2,r2,q2⟩:=zq;refine aaZ (ahe (aaZ (acv (aE (hs pins s2 σ H2 x y v ov iv u _ I2 r1 r2 r q2) λ_ s3 zq=>?_))));obtain⟨H3,I3,q3⟩:=zq;exact wpAny_release ⟨σ,H3,I3,q3⟩
def vd(te:TE)(g:TG):TS:=λD σ H=>te σ H λx H1=>g x σ H1 D.nx
theorem x5(he:PE X e te)(hg:PG X tg g)(hs:swapsWithSole [tg] e pos.line X.env=pure false:=by rfl)(hw:swappedStores [tg] e X.env=pure none:=by rfl)(h1:(afK [tg] X.env).map (·.2)=[assign tg X.env]:=by rfl):PS X (.Assign [tg] e pos) (vd te g):=by intro pins s σ H D I h;refine wpAny_Assign_stores (aE (he pins s σ H _ I h) λv s1 zq=>?_) hs hw;obtain⟨x,H1,I1,r1,q1⟩:=zq;rw[h1];exact aE (hg pins s1 σ H1 x v _ I1 r1 q1) λ_ s2 q=>q
theorem i6(hN:X.N.Nodup)(hi:X.N[i]?=some x)(hx:Loc X.env.scope x)(he:PE X e te)(hs:ae9 e (some (.Name x pos')) pos.line X.env=pure false:=by rfl)(hf:X.fn x=true∨X.env.scope.names.lookup x=some .local:=by first|exact .inl rfl|exact .inr rfl|assumption) :
 PS X (.Assign [.Name x pos'] e pos) (vd te (bX i)):=by
 intro pins s σ H D I h;refine wpAny_Assign_Name (aE (he pins s σ H _ I h) λv s1 zq=>?_) hs;obtain⟨y,H1,I1,r1,q1⟩:=zq;exact xY I1 hN hi hx r1 (λs2 I2=>⟨_,H1,I2,q1⟩) hf
end
structure It where
 go:Nat->Hp->Prop
 yld:Nat->Hp->V->Hp->Prop
 stop:Nat->Hp->Prop
def ed(X:Cx)(pins:List (abd × Obj))(H:Hp)(b:abd):Prop :=
 H b=none/\b≠X.env.locals/\b∉X.fs/\(b∈X.ex∨X.s₀.heap.objs.size<=b)/\(∀ x c,X.env.cells.lookup x=some c->c≠b)/\∀ p∈X.pn++pins,p.1≠b
theorem Inv.iB(I:Inv X pins σ H s)(hb:s.heap.objs.size<=b)(hn:H' b=none):ed X pins H' b:=by
 refine⟨hn,ace (abn I.lt hb),I.DI hb,.inr (abb I.sz hb),λx c e z=>?_,λp hp z=>?_⟩
 .obtain⟨v,q⟩:=I.cell x c e;exact absurd (abn q.lt (by rw[z];exact hb)) (acu _)
 .exact absurd (abn (aa6 (I.pin p hp).1) (by rw[z];exact hb)) (acu _)
structure Turn(P:ab1)(w:acz)(K:aa0)(tg:aeV)(J:It)(fp:List abd)(it:abd)(tn:Nat->adz->Prop):Prop where
 mem:it∈fp
 obj:∀ i h,tn i h->∀ b∈fp,∃ o,h.get? b=some o/\∀ v,o.data ≠ .cell v
 keep:∀ i h h',tn i h->(∀ b∈fp,∀ o,h.get? b=some o->h'.get? b=some o)->tn i h'
 item:∀ (X:Cx),X.prog=P->X.w=w->X.K=K->X.calm=true->∀ (i:Nat) (pins:List (abd × Obj)) (s:abe) (σ:St) (H:Hp) (E:aa9->abe->Prop),Inv X pins σ H s->(∀ b∈fp,ed X pins H b)->tn i s.heap->J.go i H ->
  abm (model P w) X.A (adP (.ref it)) (λr s1=>∃ u,r=some u /\
   abm (model P w) X.A (afa tg (.ref it) u) (λ_ s2=>∃ x H',Inv X pins σ H' s2/\RelV x u/\J.yld i H x H'/\tn (i+1) s2.heap/\∀ b∈fp,H' b=none) E s1) E s
 done:∀ (X:Cx),X.prog=P->X.w=w->X.K=K->X.calm=true->∀ (i:Nat) (pins:List (abd × Obj)) (s:abe) (σ:St) (H:Hp) (E:aa9->abe->Prop),Inv X pins σ H s->(∀ b∈fp,ed X pins H b)->tn i s.heap->J.stop i H ->
  abm (model P w) X.A (adP (.ref it)) (λr s1=>r=none/\Inv X pins σ H s1) E s
 self:∀ (A:acP) (i:Nat) (s:abe) (Q:aa9->abe->Prop) (E:aa9->abe->Prop),tn i s.heap->Q (.ref it) s->abm (model P w) A (ai5 (.ref it)) Q E s
abbrev TI:=St->Hp->(It->Hp->Prop)->Prop
def D5(X:Cx)(pins:List (abd × Obj))(σ:St)(tg:aeV)(R:It->Hp->Prop)(ve:aa9)(s2:abe):Prop :=
 ∃ (it:abd) (fp:List abd) (tn:Nat->adz->Prop) (J:It) (H':Hp),ve = .ref it/\Inv X pins σ H' s2/\Turn X.prog X.w X.K tg J fp it tn/\tn 0 s2.heap/\(∀ b∈fp,ed X pins H' b)/\R J H'
def PI(X:Cx)(tg iter:aeV)(wi:TI):Prop :=
 ∀ (pins:List (abd × Obj)) (s:abe) (σ:St) (H:Hp) (R:It->Hp->Prop),Inv X pins σ H s->wi σ H R ->
  abm (model X.prog X.w) X.A (eval iter X.env) (λv s1=>abm (model X.prog X.w) X.A (ai5 v) (D5 X pins σ tg R) X.xe s1) X.xe s
theorem oP(ho:s.heap.get? it=some o)(hc:o.cls = .type n)(hd:o.data = .fields vs)(hn:["enumerate","zip","dict_itemiterator","dict_reverseitemiterator","odict_iterator","itertools.zip_longest","itertools.pairwise"].contains n=false)(hQ:Q () s):abm M A (afa tg (.ref it) u) Q E s:=by
 unfold afa;cases tg<;>first
  | exact aa4 hQ
  | (cases u<;>first
      | exact aa4 hQ
      | (refine aaZ (wpAny_load ho ?_)
         rw[hc,hd];show abm M A (if (["enumerate","zip","dict_itemiterator","dict_reverseitemiterator","odict_iterator","itertools.zip_longest","itertools.pairwise"].contains n && vs[0]? == some (aet _))=true then _ else _) Q E s;rw[if_neg (by intro h;rw[hn,afz] at h;cases h)];exact aa4 hQ))
noncomputable def i7(K:aa0)(a:abd):It :=
 ⟨λi H=>∃ xs x,ai K H a xs/\xs[i]?=some x,λi H x H'=>H'=H/\∀ xs,ai K H a xs->xs[i]?=some x,λi H=>∃ xs,ai K H a xs/\xs.length<=i⟩
noncomputable def kM(K:aa0)(a:abd):It :=
 ⟨λi H=>∃ xs x,ah K H a xs/\xs[i]?=some x,λi H x H'=>H'=H/\∀ xs,ah K H a xs->xs[i]?=some x,λi H=>∃ xs,ah K H a xs/\xs.length<=i⟩
noncomputable def iC(lo:Int)(n:Nat):It:=⟨λi _=>i<n,λi H x H'=>H'=H/\x = .int (lo+i),λi _=>n<=i⟩
theorem NA{P:ab1}{w:acz}{K:aa0}{tg:aeV}(a it:abd):Turn P w K tg (i7 K a) [it] it (λi h=>h.IsListIter it a i) where
 mem:=by simp
 obj:=λi h st b hb=>by
  have e:b=it:=by simpa using hb
  subst e;obtain⟨o,e,c,d⟩:=st;exact⟨o,e,λv z=>by rw[d] at z;cases z⟩
 keep:=λi h h' st k=>st.at λo e=>k it (by simp) o e
 item:=by intro X hP hw hK hc i pins s σ H E I hf st hg;subst hP hw hK;obtain⟨xs,x,hq,hx⟩:=hg;obtain⟨ar,rv,p,hz⟩:=I.list hq;obtain⟨u,hu,ru⟩:=rv.get hx;obtain⟨f0,f1,f2,f3,f4,f5⟩:=hf it (by simp);refine wpAny_pyNext_list_item st p.isList (x:=u) (by simpa using hu) λh' cY sb=>?_;have I1:Inv X pins σ H { s with heap:=h' }:=I.turned (t':=s.toks) (λb o hb e=>(sb.2 b hb).trans e) f0 f1 f3 f4 f5;obtain⟨o,e,c,d⟩:=id cY;exact⟨u,rfl,oP (s:={ s with heap:=h' }) e c d (by decide) ⟨x,H,I1,ru,⟨rfl,λys hy=>by rw[I.qZ hy hq];exact hx⟩,cY,λb hb=>(hf b hb).1⟩⟩
 done:=by
  intro X hP hw hK hc i pins s σ H E I hf st hg;subst hP hw hK;obtain⟨xs,hq,hx⟩:=hg;obtain⟨ar,rv,p,hz⟩:=I.list hq;obtain⟨f0,f1,f2,f3,f4,f5⟩:=hf it (by simp);have hl:=rv.length;exact wpAny_pyNext_list_end (I.ok.hd hc) st p.isList (by simp;omega) λh' eb=>⟨rfl,I.turned (t':=s.toks) (λb o hb e=>eb b o hb e) f0 f1 f3 f4 f5⟩
 self:=λ_ _ _ _ _ st h=>wpAny_pyIter_listiter st h
theorem NB{P:ab1}{w:acz}{K:aa0}{tg:aeV}(a it:abd):Turn P w K tg (kM K a) [it] it (λi h=>h.IsTupleIter it a i) where
 mem:=by simp
 obj:=λi h st b hb=>by
  have e:b=it:=by simpa using hb
  subst e;obtain⟨o,e,c,d⟩:=st;exact⟨o,e,λv z=>by rw[d] at z;cases z⟩
 keep:=λi h h' st k=>st.at λo e=>k it (by simp) o e
 item:=by intro X hP hw hK hc i pins s σ H E I hf st hg;subst hP hw hK;obtain⟨xs,x,hq,hx⟩:=hg;obtain⟨ar,rv,p,hz⟩:=I.tuple hq;obtain⟨u,hu,ru⟩:=rv.get hx;obtain⟨f0,f1,f2,f3,f4,f5⟩:=hf it (by simp);refine wpAny_pyNext_tuple_item st (show s.heap.IsTuple a ar.toArray from p) (x:=u) (by simpa using hu) λh' cY sb=>?_;have I1:Inv X pins σ H { s with heap:=h' }:=I.turned (t':=s.toks) (λb o hb e=>(sb.2 b hb).trans e) f0 f1 f3 f4 f5;obtain⟨o,e,c,d⟩:=id cY;exact⟨u,rfl,oP (s:={ s with heap:=h' }) e c d (by decide) ⟨x,H,I1,ru,⟨rfl,λys hy=>by rw[I.Nz hy hq];exact hx⟩,cY,λb hb=>(hf b hb).1⟩⟩
 done:=by
  intro X hP hw hK hc i pins s σ H E I hf st hg;subst hP hw hK;obtain⟨xs,hq,hx⟩:=hg;obtain⟨ar,rv,p,hz⟩:=I.tuple hq;obtain⟨f0,f1,f2,f3,f4,f5⟩:=hf it (by simp);have hl:=rv.length;exact wpAny_pyNext_tuple_end (I.ok.hd hc) st (show s.heap.IsTuple a ar.toArray from p) (by simp;omega) λh' eb=>⟨rfl,I.turned (t':=s.toks) (λb o hb e=>eb b o hb e) f0 f1 f3 f4 f5⟩
 self:=λ_ _ _ _ _ st h=>wpAny_pyIter_tupleiter st h
theorem NC{P:ab1}{w:acz}{K:aa0}{tg:aeV}(it:abd)(lo:Int)(n:Nat):Turn P w K tg (iC lo n) [it] it (λi h=>ag1 h it (lo+(i:Nat) * 1) ((n:Int)-(i:Nat)) 1) where
 mem:=by simp
 obj:=λi h st b hb=>by
  have e:b=it:=by simpa using hb
  subst e;exact⟨_,st,λv z=>by
   have z':Data.fields _=Data.cell v:=z;cases z'⟩
 keep:=λi h h' st k=>k it (by simp) _ st
 item:=by intro X hP hw hK hc i pins s σ H E I hf st hg;subst hP hw hK;obtain⟨f0,f1,f2,f3,f4,f5⟩:=hf it (by simp);have W:=Walks.range (prog:=X.prog) (w:=X.w) (I.ok.hd hc) it lo 1 n;refine W.item i s _ _ hg st λv h' tk hv cY kk=>?_;obtain⟨t,rfl⟩:=hv;have I1:Inv X pins σ H { s with heap:=h',toks:=tk }:=I.turned (λb o hb e=>kk b o (by simpa using hb) e) f0 f1 f3 f4 f5;refine⟨_,rfl,oP (s:={ s with heap:=h',toks:=tk }) (n := "range_iterator") cY rfl rfl (by decide) ⟨.int (lo+i),H,I1,⟨t,?_⟩,⟨rfl,rfl⟩,cY,λb hb=>(hf b hb).1⟩⟩;rw[Int.mul_one]
 done:=by
  intro X hP hw hK hc i pins s σ H E I hf st hg;subst hP hw hK;obtain⟨f0,f1,f2,f3,f4,f5⟩:=hf it (by simp);exact agi (I.ok.hd hc) st (by have:n<=i:=hg;omega) λh' eb=>⟨rfl,I.turned (t':=s.toks) (λb o hb e=>eb b o hb e) f0 f1 f3 f4 f5⟩
 self:=λ_ _ _ _ _ st h=>agj st h
section
def x6(K:aa0)(tl:TE):TI:=λσ H R=>tl σ H λx H1=>∃ a,x = .ref a/\(∃ xs,ai K H1 a xs)/\R (i7 K a) H1
def x8(K:aa0)(tl:TE):TI:=λσ H R=>tl σ H λx H1=>∃ a,x = .ref a/\(∃ xs,ah K H1 a xs)/\R (kM K a) H1
theorem cC(hl:PE X l tl):PI X tg l (x6 X.K tl):=by
 intro pins s σ H R I h;refine aE (hl pins s σ H _ I h) λv s1 zq=>?_;obtain⟨x,H1,I1,r1,q1⟩:=zq;obtain⟨a,e,⟨xs,hq⟩,q⟩:=q1;subst e;cases r1;obtain⟨ar,rv,p,hz⟩:=I1.list hq;refine aez p.isList ?_;refine⟨s1.heap.objs.size,[s1.heap.objs.size],_,_,H1,rfl,I1.kept (t':=s1.toks) λb o e=>aa5 _ e,NA a _,⟨_,abc _ rfl,rfl,rfl⟩,λb hb=>?_,q⟩;have e:b=s1.heap.objs.size:=by simpa using hb
 subst e;exact I1.iB (aba _) (I1.ay.fresh (aba _))
theorem oQ(hl:PE X l tl):PI X tg l (x8 X.K tl):=by
 intro pins s σ H R I h;refine aE (hl pins s σ H _ I h) λv s1 zq=>?_;obtain⟨x,H1,I1,r1,q1⟩:=zq;obtain⟨a,e,⟨xs,hq⟩,q⟩:=q1;subst e;cases r1;obtain⟨ar,rv,p,hz⟩:=I1.tuple hq;refine ahf (show s1.heap.IsTuple a ar.toArray from p) ?_;refine⟨s1.heap.objs.size,[s1.heap.objs.size],_,_,H1,rfl,I1.kept (t':=s1.toks) λb o e=>aa5 _ e,NB a _,⟨_,abc _ rfl,rfl,rfl⟩,λb hb=>?_,q⟩;have e:b=s1.heap.objs.size:=by simpa using hb
 subst e;exact I1.iB (aba _) (I1.ay.fresh (aba _))
theorem D6{pins:List (abd × Obj)}{σ:St}{H:Hp}{s:abe}{R:It->Hp->Prop}{E:aa9->abe->Prop}{lo hi:Int}{t u v:Tok}{tk:Nat}(I:Inv X pins σ H s)(h1 : -(2 ^ 62)<=lo)(h2:lo<2 ^ 62)(h3 : -(2 ^ 62)<=hi)(h4:hi<2 ^ 62)
 (q:R (iC lo (hi-lo).toNat) H):abm (model X.prog X.w) X.A (ai5 (.ref s.heap.objs.size)) (D5 X pins σ tg R) E { s with heap:=s.heap.push { cls:=.type "range",data:=.fields #[.int lo t,.int hi u,.int 1 v] },toks:=tk }:=by
 refine ahg (IsRange.new ..) (small_one h1 h2 h3 h4) ?_;have I1:Inv X pins σ H { s with heap:=s.heap.push { cls:=.type "range",data:=.fields #[.int lo t,.int hi u,.int 1 v] },toks:=tk }:=I.kept λb o e=>aa5 _ e;refine⟨(s.heap.push { cls:=.type "range",data:=.fields #[.int lo t,.int hi u,.int 1 v] }).objs.size,[(s.heap.push { cls:=.type "range",data:=.fields #[.int lo t,.int hi u,.int 1 v] }).objs.size],_,_,H,rfl,
  I1.kept (t':=tk) λb o e=>aa5 _ e,NC _ lo (hi-lo).toNat,?_,λb hb=>?_,q⟩
 .have e1:lo+((0:Nat):Int) * 1=lo:=by simp
  have e2:(((hi-lo).toNat:Nat):Int)-((0:Nat):Int)=ab6 lo hi 1:=by rw[rangeSize_one];split<;>omega
  show ag1 _ _ (lo+((0:Nat):Int) * 1) ((((hi-lo).toNat:Nat):Int)-((0:Nat):Int)) 1;rw[e1,e2];exact abc _ rfl
 .have e:b=(s.heap.push { cls:=.type "range",data:=.fields #[.int lo t,.int hi u,.int 1 v] }).objs.size:=by simpa using hb
  subst e;exact I1.iB (aba _) (I1.ay.fresh (aba _))
def x9(ta:TA):TI:=λσ H R=>ta σ H λvs H1=>∃ j:Int,vs=[.int j]/\-(2 ^ 62)<=j/\j<2 ^ 62/\R (iC 0 j.toNat) H1
def ya(ta:TA):TI:=λσ H R=>ta σ H λvs H1=>∃ i j:Int,vs=[.int i,.int j]/\(-(2 ^ 62)<=i/\i<2 ^ 62/\-(2 ^ 62)<=j/\j<2 ^ 62)/\R (iC i (j-i).toNat) H1
theorem gT(hg:Gl X "range")(hm:X.mg "range" = none)(ha:PA X [a] ta)(hs:abA [a] X.env=[(false,eval a X.env)]:=by rfl):PI X tg (.Call (.Name "range" p) [a] [] pos) (x9 ta):=by
 intro pins s σ H R I h;refine aji (fI I hg hm aiJ (abI (aE (ha pos pins s σ H _ I h) λus s1 zq=>?_) hs rfl));obtain⟨vs,H1,I1,r1,q1⟩:=zq;obtain⟨j,e,q1,q2,q⟩:=q1;subst e;cases r1 with
 | cons r rr =>
  cases rr;obtain⟨t,rfl⟩:=r;exact call_range_1 (D6 I1 (by omega) (by omega) q1 q2 (by simpa using q))
theorem yb(hg:Gl X "range")(hm:X.mg "range" = none)(ha:PA X [a,b] ta)(hs:abA [a,b] X.env=[(false,eval a X.env),(false,eval b X.env)]:=by rfl)(cZ:abA [b] X.env=[(false,eval b X.env)]:=by rfl) :
 PI X tg (.Call (.Name "range" p) [a,b] [] pos) (ya ta):=by
 intro pins s σ H R I h;refine aji (fI I hg hm aiJ (abI (aE (ha pos pins s σ H _ I h) λus s1 ⟨vs,H1,I1,r1,q1⟩=>?_) (by rw[hs,cZ]) (by rw[cZ];rfl)));obtain⟨i,j,e,⟨q1,q2,q3,q4⟩,q⟩:=q1;subst e;cases r1 with
 | cons r rr =>
  cases rr with
  | cons r' rr =>
   cases rr;obtain⟨t,rfl⟩:=r;obtain⟨t',rfl⟩:=r';exact call_range_2 (D6 I1 q1 q2 q3 q4 q)
def jX(wi:TI)(g:TG)(tb:TS):TS:=λD σ H=>wi σ H λJ H1=>∃ W:Nat->Nat->St->Hp->Prop,(∃ m,W 0 m σ H1)/\∀ i m σ H,W i m σ H ->
 (J.stop i H/\D.nx σ H)∨(J.go i H/\∃ N:St->Hp->Prop,(∀ σ' H',N σ' H'->∃ m',m'<m/\W (i+1) m' σ' H')/\∀ x H',J.yld i H x H'->g x σ H' λσ2 H2=>tb { D with nx:=N,ct:=N,bk:=D.nx } σ2 H2)
noncomputable def q9(fp:List abd)(h:adz):List (abd × Obj):=fp.filterMap λb=>(h.get? b).map λo=>(b,o)
theorem vf(hb:b∈fp)(e:h.get? b=some o):(b,o)∈q9 fp h:=aft.mpr ⟨b,hb,by rw[e];rfl⟩
theorem ND(hp:p∈q9 fp h):p.1∈fp/\h.get? p.1=some p.2:=by
 obtain⟨b,hb,e⟩:=aft.mp hp;cases q:h.get? b with
 | none=>rw[q] at e;cases e
 | some o =>
  rw[q] at e;have e':(b,o)=p:=Option.some.inj e;subst e';exact⟨hb,q⟩
theorem Inv.pinned(I:Inv X pins σ H s)(hf:∀ b∈fp,ed X pins H b)(ho:∀ b∈fp,∃ o,s.heap.get? b=some o/\∀ v,o.data ≠ .cell v):Inv X (pins++q9 fp s.heap) σ H s :=
 I.qV λp hp=>(abD.mp hp).elim (λz=>I.pin p (abC _ z)) λz=>by obtain⟨hb,e⟩:=ND z;obtain⟨f0,f1,f2,_⟩:=hf p.1 hb;obtain⟨o,e',d⟩:=ho p.1 hb;rw[e] at e';cases e';exact⟨e,f0,f1,f2,d⟩
theorem Inv.vg(I:Inv X (pins++pl) σ H s):Inv X pins σ H s:=I.qV λp hp=>I.pin p (abC _ (acK _ hp))
theorem cI(hp:PassesOwn (model X.prog X.w) X.A X.env X.xe)(hc:X.calm=true)(hi:PI X tg iter wi)(hg:PG X tg g)(hb:aR X body tb)(hs:∀ x,adt iter X.env x=pure x:=by intro _;rfl):PS X (.For tg iter body [] pos) (jX wi g tb):=by
 intro pins s σ H D I h;refine wpAny_For (aE (hi pins s σ H _ I h) λv s1 h1=>aE h1 λve s2 h2=>?_) hs;obtain⟨it,fp,tn,J,H2,e,I2,T,gU,f2,W,⟨m0,w0⟩,turn⟩:=h2;subst e;have yc:∀ {H':Hp},(∀ b∈fp,H' b=none)->∀ b∈fp,ed X pins H' b:=λhn b hb=>⟨hn b hb,(f2 b hb).2⟩
 refine codeAny_forLoop_any (λn s'=>∃ i σ' H',Inv X pins σ' H' s'/\tn i s'.heap/\(∀ b∈fp,H' b=none)/\W i n σ' H') ?_ m0 ⟨0,σ,H2,I2,gU,λb hb=>(f2 b hb).1,w0⟩;rintro n s3 ⟨i,σ3,H3,I3,rd,rf,w3⟩;rcases turn i n σ3 H3 w3 with ⟨stop,qn⟩|⟨go,N,hN,step⟩
 .refine aek hp (aE (T.done X rfl rfl rfl hc i pins s3 σ3 H3 X.xe I3 (yc rf) rd stop) λr s4 zq=>?_);obtain⟨hr,I4⟩:=zq;subst hr;exact ae8 ⟨σ3,H3,I4,qn⟩
 .refine aek hp (aE (T.item X rfl rfl rfl hc i pins s3 σ3 H3 X.xe I3 (yc rf) rd go) λr s4 zq=>?_);obtain⟨u,hr,h4⟩:=zq;subst hr;refine aek hp (aE h4 λ_ s5 zq=>?_);obtain⟨x,H5,I5,r5,y5,nr,yd⟩:=zq;have ye:=I5.pinned (yc yd) (T.obj _ _ nr);refine aek hp (aE (hg _ s5 σ3 H5 x u _ ye r5 (step x H5 y5)) λ_ s6 zq=>?_);obtain⟨σ6,H6,I6,q6⟩:=zq;refine aek hp (aE (hb _ s6 σ6 H6 _ I6 q6) λf s7 q7=>?_);have again:∀ {σ7:St} {H7:Hp},Inv X (pins++q9 fp s5.heap) σ7 H7 s7->N σ7 H7->∃ m,m<n/\∃ i σ' H',Inv X pins σ' H' s7/\tn i s7.heap/\(∀ b∈fp,H' b=none)/\W i m σ' H':=λ{σ7 H7} I7 n7=>by obtain⟨m',hm,w7⟩:=hN σ7 H7 n7;refine⟨m',hm,i+1,σ7,H7,I7.vg,T.keep _ _ _ nr λb hb o e=>(I7.pin (b,o) (abC _ (abC _ (vf hb e)))).1,λb hb=>?_,w7⟩;obtain⟨o,e,d⟩:=T.obj _ _ nr b hb;exact (I7.pin (b,o) (abC _ (abC _ (vf hb e)))).2.1
  cases f with
  | next=>obtain⟨σ7,H7,I7,n7⟩:=q7;exact again I7 n7
  | cont=>obtain⟨σ7,H7,I7,n7⟩:=q7;exact again I7 n7
  | brk=>obtain⟨σ7,H7,I7,q7⟩:=q7;exact⟨σ7,H7,I7.vg,q7⟩
  | ret v=>obtain⟨x7,σ7,H7,I7,r7,q7⟩:=q7;exact⟨x7,σ7,H7,I7.vg,r7,q7⟩
end
theorem NF{K:aa0}{a:abd}{xs:List V}{g:TG}{tb:TS}{D:Ends}{σ:St}{H:Hp}(Pv:Nat->St->Hp->Prop)(h0:Pv 0 σ H)(hl:∀ i σ H,i<=xs.length->Pv i σ H->ai K H a xs)
 (hs:∀ i x σ H,xs[i]?=some x->Pv i σ H->g x σ H λσ2 H2=>tb { D with nx:=Pv (i+1),ct:=Pv (i+1),bk:=D.nx } σ2 H2) (hd:∀ σ H,Pv xs.length σ H->D.nx σ H) :
 ∃ W:Nat->Nat->St->Hp->Prop,(∃ m,W 0 m σ H)/\∀ i m σ H,W i m σ H ->
  ((i7 K a).stop i H/\D.nx σ H)∨((i7 K a).go i H/\∃ N:St->Hp->Prop,(∀ σ' H',N σ' H'->∃ m',m'<m/\W (i+1) m' σ' H')/\∀ x H',(i7 K a).yld i H x H'->g x σ H' λσ2 H2=>tb { D with nx:=N,ct:=N,bk:=D.nx } σ2 H2):=by
 refine⟨λi m σ H=>m=xs.length-i/\i<=xs.length/\Pv i σ H,⟨xs.length,by simp,abt _,h0⟩,?_⟩;rintro i m σ H ⟨rfl,hi,p⟩;have q:=hl i σ H hi p;by_cases aU:i<xs.length
 .refine .inr ⟨⟨xs,xs[i],q,by simp[aU]⟩,Pv (i+1),λσ' H' p'=>⟨xs.length-(i+1),by omega,rfl,aU,p'⟩,λx H' y=>?_⟩;obtain⟨e,y⟩:=y;subst e;exact hs i x σ _ (y xs q) p
 .have e:i=xs.length:=by omega
  subst e;exact .inl ⟨⟨xs,q,aba _⟩,hd σ H p⟩
theorem NG{K:aa0}{a:abd}{xs:List V}{g:TG}{tb:TS}{D:Ends}{σ:St}{H:Hp}(Pv:Nat->St->Hp->Prop)(h0:Pv 0 σ H)(hl:∀ i σ H,i<=xs.length->Pv i σ H->ah K H a xs)
 (hs:∀ i x σ H,xs[i]?=some x->Pv i σ H->g x σ H λσ2 H2=>tb { D with nx:=Pv (i+1),ct:=Pv (i+1),bk:=D.nx } σ2 H2) (hd:∀ σ H,Pv xs.length σ H->D.nx σ H) :
 ∃ W:Nat->Nat->St->Hp->Prop,(∃ m,W 0 m σ H)/\∀ i m σ H,W i m σ H ->
  ((kM K a).stop i H/\D.nx σ H)∨((kM K a).go i H/\∃ N:St->Hp->Prop,(∀ σ' H',N σ' H'->∃ m',m'<m/\W (i+1) m' σ' H')/\∀ x H',(kM K a).yld i H x H'->g x σ H' λσ2 H2=>tb { D with nx:=N,ct:=N,bk:=D.nx } σ2 H2):=by
 refine⟨λi m σ H=>m=xs.length-i/\i<=xs.length/\Pv i σ H,⟨xs.length,by simp,abt _,h0⟩,?_⟩;rintro i m σ H ⟨rfl,hi,p⟩;have q:=hl i σ H hi p;by_cases aU:i<xs.length
 .refine .inr ⟨⟨xs,xs[i],q,by simp[aU]⟩,Pv (i+1),λσ' H' p'=>⟨xs.length-(i+1),by omega,rfl,aU,p'⟩,λx H' y=>?_⟩;obtain⟨e,y⟩:=y;subst e;exact hs i x σ _ (y xs q) p
 .have e:i=xs.length:=by omega
  subst e;exact .inl ⟨⟨xs,q,aba _⟩,hd σ H p⟩
theorem NH{lo:Int}{n:Nat}{g:TG}{tb:TS}{D:Ends}{σ:St}{H:Hp}(Pv:Nat->St->Hp->Prop)(h0:Pv 0 σ H)
 (hs:∀ i σ H,i<n->Pv i σ H->g (.int (lo+i)) σ H λσ2 H2=>tb { D with nx:=Pv (i+1),ct:=Pv (i+1),bk:=D.nx } σ2 H2) (hd:∀ σ H,Pv n σ H->D.nx σ H) :
 ∃ W:Nat->Nat->St->Hp->Prop,(∃ m,W 0 m σ H)/\∀ i m σ H,W i m σ H ->
  ((iC lo n).stop i H/\D.nx σ H)∨((iC lo n).go i H/\∃ N:St->Hp->Prop,(∀ σ' H',N σ' H'->∃ m',m'<m/\W (i+1) m' σ' H')/\∀ x H',(iC lo n).yld i H x H'->g x σ H' λσ2 H2=>tb { D with nx:=N,ct:=N,bk:=D.nx } σ2 H2):=by
 refine⟨λi m σ H=>m=n-i/\i<=n/\Pv i σ H,⟨n,by simp,abt _,h0⟩,?_⟩;rintro i m σ H ⟨rfl,hi,p⟩;by_cases aU:i<n
 .refine .inr ⟨aU,Pv (i+1),λσ' H' p'=>⟨n-(i+1),by omega,rfl,aU,p'⟩,λx H' y=>?_⟩;obtain⟨e,y⟩:=y;subst e y;exact hs i σ _ aU p
 .have e:i=n:=by omega
  subst e;exact .inl ⟨aba _,hd σ H p⟩
abbrev R2:=V->V->Hp->VK->Prop
def br(X:Cx)(f:aa9->aa9->Sem aa9)(r:R2):Prop :=
 ∀ (pins:List (abd × Obj)) (s:abe) (σ:St) (H:Hp) (x y:V) (v u:aa9) (Q:VK),Inv X pins σ H s->RelV x v->RelV y u->r x y H Q ->
  abm (model X.prog X.w) X.A (f v u) (EP X pins σ Q) X.xe s
def oR(X:Cx)(f:aa9->Sem aa9)(r:V->Hp->VK->Prop):Prop :=
 ∀ (pins:List (abd × Obj)) (s:abe) (σ:St) (H:Hp) (x:V) (v:aa9) (Q:VK),Inv X pins σ H s->RelV x v->r x H Q ->
  abm (model X.prog X.w) X.A (f v) (EP X pins σ Q) X.xe s
def fJ(X:Cx)(f:aa9)(r:List V->Hp->VK->Prop):Prop :=
 ∀ (pins:List (abd × Obj)) (s:abe) (σ:St) (H:Hp) (xs:List V) (us:List aa9) (Q:VK),Inv X pins σ H s->Vals xs us->r xs H Q ->
  abm (model X.prog X.w) X.A (call f us) (EP X pins σ Q) X.xe s
def nu(r:R2)(ta tb:TE):TE:=λσ H Q=>ta σ H λx H1=>tb σ H1 λy H2=>r x y H2 Q
def D7(r:V->Hp->VK->Prop)(ta:TE):TE:=λσ H Q=>ta σ H λx H1=>r x H1 Q
def rI(C:Int->Int->Prop)(g:Int->Int->V):R2:=λx y H Q=>∃ i j,x = .int i/\y = .int j/\C i j/\Q (g i j) H
def gu(g:Int->Int->V):R2:=λx y H Q=>∃ i j,x = .int i/\y = .int j/\Q (g i j) H
def rU(g:Int->V):V->Hp->VK->Prop:=λx H Q=>∃ i,x = .int i/\Q (g i) H
section
theorem yf(ha:PE X a ta)(hb:PE X b tb){pins:List (abd × Obj)}{s:abe}{σ:St}{H:Hp}{R:V->V->Hp->Prop}(I:Inv X pins σ H s)
 (h:ta σ H λx H1=>tb σ H1 λy H2=>R x y H2) {Q:aa9->abe->Prop} {f:aa9->aa9->Sem aa9}
 (hf:∀ v u s2 x y H2,Inv X pins σ H2 s2->RelV x v->RelV y u->R x y H2->abm (model X.prog X.w) X.A (f v u) Q X.xe s2) :
 abm (model X.prog X.w) X.A (eval a X.env) (λv s₁=>abm (model X.prog X.w) X.A (eval b X.env) (λu s₂=>abm (model X.prog X.w) X.A (f v u) Q X.xe s₂) X.xe s₁) X.xe s:=by
 refine aE (ha pins s σ H _ I h) λv s1 zq=>?_;obtain⟨x,H1,I1,r1,q1⟩:=zq;refine aE (hb pins s1 σ H1 _ I1 q1) λu s2 zq=>?_;obtain⟨y,H2,I2,r2,q2⟩:=zq;exact hf v u s2 x y H2 I2 r1 r2 q2
theorem aN(ho:br X (ad8 op) r)(ha:PE X a ta)(hb:PE X b tb):PE X (.BinOp a op b pos) (nu r ta tb):=by intro pins s σ H Q I h;exact wpAny_BinOp (yf ha hb I h λv u s2 x y H2 I2 rx ry q=>ho pins s2 σ H2 x y v u Q I2 rx ry q)
theorem gV(ho:oR X (unaryOp op) r)(ha:PE X a ta):PE X (.UnaryOp op a pos) (D7 r ta):=by intro pins s σ H Q I h;exact UnaryOp_ (aE (ha pins s σ H _ I h) λv s1 ⟨x,H1,I1,r1,q1⟩=>ho pins s1 σ H1 x v Q I1 r1 q1)
theorem vh{f:aa9->aa9->Sem aa9}{C:Int->Int->Prop}{g:Int->Int->Int}
 (rule:∀ (i j:Int) (t u:Tok) (s:abe) (Q:aa9->abe->Prop) (E:aa9->abe->Prop),C i j->Q (.int (g i j) s.toks) { s with toks:=s.toks+1 }->abm (model X.prog X.w) X.A (f (.int i t) (.int j u)) Q E s) :
 br X f (rI C λi j=>.int (g i j)):=by
 intro pins s σ H x y v u Q I rx ry h;obtain⟨i,j,rfl,rfl,hc,q⟩:=h;obtain⟨t,rfl⟩:=rx;obtain⟨t',rfl⟩:=ry;exact rule i j t t' s _ _ hc ⟨.int (g i j),H,I.tok _,⟨_,rfl⟩,q⟩
theorem D8{f:aa9->aa9->Sem aa9}{g:Int->Int->Int}
 (rule:∀ (i j:Int) (t u:Tok) (s:abe) (Q:aa9->abe->Prop) (E:aa9->abe->Prop),Q (.int (g i j) s.toks) { s with toks:=s.toks+1 }->abm (model X.prog X.w) X.A (f (.int i t) (.int j u)) Q E s) :
 br X f (gu λi j=>.int (g i j)):=by
 intro pins s σ H x y v u Q I rx ry h;obtain⟨i,j,rfl,rfl,q⟩:=h;obtain⟨t,rfl⟩:=rx;obtain⟨t',rfl⟩:=ry;exact rule i j t t' s _ _ ⟨.int (g i j),H,I.tok _,⟨_,rfl⟩,q⟩
theorem vk{f:aa9->aa9->Sem aa9}{g:Int->Int->Bool}
 (rule:∀ (i j:Int) (t u:Tok) (s:abe) (Q:aa9->abe->Prop) (E:aa9->abe->Prop),Q (.bool (g i j)) s->abm (model X.prog X.w) X.A (f (.int i t) (.int j u)) Q E s) :
 br X f (gu λi j=>.bl (g i j)):=by
 intro pins s σ H x y v u Q I rx ry h;obtain⟨i,j,rfl,rfl,q⟩:=h;obtain⟨t,rfl⟩:=rx;obtain⟨t',rfl⟩:=ry;exact rule i j t t' s _ _ ⟨.bl (g i j),H,I,rfl,q⟩
def NI(i j:Int):Prop:=0<=j/\j<=1000000/\i.natAbs<2 ^ 64
theorem NJ:br X (ad8 .Add) (gu λi j=>.int (i+j)):=D8 λ_ _ _ _ _ _ _ q=>add_int q
theorem NK:br X (ad8 .Sub) (gu λi j=>.int (i-j)):=D8 λ_ _ _ _ _ _ _ q=>sub_int q
theorem NL:br X (ad8 .Mod) (rI (λ_ j=>0<j) λi j=>.int (i % j)):=vh λi j _ _ _ _ _ hc q=>by have h1:(0:Int)<j:=hc;exact mod_int' (by omega) (by rw[Int.fmod_eq_emod_of_nonneg i (by omega)];exact q)
theorem yg:br X (ad8 .Pow) (rI NI λi j=>.int (i ^ j.toNat)):=vh λ_ _ _ _ _ _ _ hc q=>pow_int_small hc.1 hc.2.1 hc.2.2 q
theorem NM{f:aa9->Sem aa9}{g:Int->Int}
 (rule:∀ (i:Int) (t:Tok) (s:abe) (Q:aa9->abe->Prop) (E:aa9->abe->Prop),Q (.int (g i) s.toks) { s with toks:=s.toks+1 }->abm (model X.prog X.w) X.A (f (.int i t)) Q E s) :
 oR X f (rU λi=>.int (g i)):=by
 intro pins s σ H x v Q I rx h;obtain⟨i,rfl,q⟩:=h;obtain⟨t,rfl⟩:=rx;exact rule i t s _ _ ⟨.int (g i),H,I.tok _,⟨_,rfl⟩,q⟩
theorem NN:oR X (unaryOp .USub) (rU λi=>.int (-i)):=NM λ_ _ _ _ _ q=>neg_int q
end
noncomputable def kN:V->V->Bool
 | .non,.non=>true|.non,.int _=>true|.int _,.non=>true|.non,.bl _=>true|.bl _,.non=>true|.non,.str _=>true|.str _,.non=>true
 | .int _,.int _=>true|.bl _,.bl _=>true|.str _,.str _=>true|.byt _,.byt _=>true
 | .int _,.str _=>true|.str _,.int _=>true|.bl _,.str _=>true|.str _,.bl _=>true
 | _,_=>false
def D9:R2:=λx y H Q=>kN x y=true/\Q (.bl (decide (x=y))) H
def Ea:R2:=λx y H Q=>kN x y=true/\Q (.bl (!decide (x=y))) H
theorem Eb:decide (V.int i=V.int j)=(i == j):=by rw[adu];simp
theorem Ec:decide (V.bl i=V.bl j)=(i == j):=by rw[adu];simp
theorem Ed:decide (V.str i=V.str j)=(i == j):=by rw[adu];simp
theorem Ee:decide (V.byt i=V.byt j)=(i.toList == j.toList):=by rw[adu];cases i;cases j;simp
section
theorem cn(I:Inv X pins σ H s)(q:Q (.bl k) H)(e:k=k'):EP X pins σ Q (.bool k') s:=by subst e;exact⟨.bl k,H,I,rfl,q⟩
theorem md:br X (acm .Eq) D9:=by
 intro pins s σ H x y v u Q I rx ry h;obtain⟨hs,q⟩:=h;cases x with
 | non =>
  cases rx;cases y with
  | non=>cases ry;exact PySem.EqNone.eq_none_none (cn I q (by simp))
  | bl j=>cases ry;exact PySem.EqNone.eq_none_bool (cn I q (by simp))
  | int j=>obtain⟨t',rfl⟩:=ry;exact PySem.EqNone.eq_none_int (cn I q (by simp))
  | str j=>obtain⟨t',rfl⟩:=ry;exact PySem.EqNone.eq_none_str (cn I q (by simp))
  | _=>exact absurd (show false=true from hs) abo
 | bl i =>
  cases rx;cases y with
  | non=>cases ry;exact PySem.EqNone.eq_bool_none (cn I q (by simp))
  | bl j=>cases ry;exact eq_bool (cn I q Ec)
  | str j=>obtain⟨t',rfl⟩:=ry;exact PySem.EqMixed.eq_bool_str (cn I q (by simp))
  | _=>exact absurd (show false=true from hs) abo
 | int i =>
  obtain⟨t,rfl⟩:=rx;cases y with
  | non=>cases ry;exact PySem.EqNone.eq_int_none (cn I q (by simp))
  | int j=>obtain⟨t',rfl⟩:=ry;exact eq_int (cn I q Eb)
  | str j=>obtain⟨t',rfl⟩:=ry;exact PySem.EqMixed.eq_int_str (cn I q (by simp))
  | _=>exact absurd (show false=true from hs) abo
 | str i =>
  obtain⟨t,rfl⟩:=rx;cases y with
  | non=>cases ry;exact PySem.EqNone.eq_str_none (cn I q (by simp))
  | bl j=>cases ry;exact PySem.EqMixed.eq_str_bool (cn I q (by simp))
  | int j=>obtain⟨t',rfl⟩:=ry;exact PySem.EqMixed.eq_str_int (cn I q (by simp))
  | str j=>obtain⟨t',rfl⟩:=ry;exact eq_str (cn I q Ed)
  | _=>exact absurd (show false=true from hs) abo
 | byt i =>
  obtain⟨t,rfl⟩:=rx;cases y with
  | byt j=>obtain⟨t',rfl⟩:=ry;exact PySem.W.eq_bytes (cn I q Ee)
  | _=>exact absurd (show false=true from hs) abo
 | _=>cases y<;>exact absurd (show false=true from hs) abo
theorem NO:br X (acm .NotEq) Ea:=by
 intro pins s σ H x y v u Q I rx ry h;obtain⟨hs,q⟩:=h;cases x with
 | non =>
  cases rx;cases y with
  | non=>cases ry;exact PySem.EqNone.ne_none_none (cn I q (by simp))
  | bl j=>cases ry;exact PySem.EqNone.ne_none_bool (cn I q (by simp))
  | int j=>obtain⟨t',rfl⟩:=ry;exact PySem.EqNone.ne_none_int (cn I q (by simp))
  | str j=>obtain⟨t',rfl⟩:=ry;exact PySem.EqNone.ne_none_str (cn I q (by simp))
  | _=>exact absurd (show false=true from hs) abo
 | bl i =>
  cases rx;cases y with
  | non=>cases ry;exact PySem.EqNone.ne_bool_none (cn I q (by simp))
  | bl j=>cases ry;exact ne_bool (cn I q (congrArg not Ec))
  | str j=>obtain⟨t',rfl⟩:=ry;exact PySem.EqMixed.ne_bool_str (cn I q (by simp))
  | _=>exact absurd (show false=true from hs) abo
 | int i =>
  obtain⟨t,rfl⟩:=rx;cases y with
  | non=>cases ry;exact PySem.EqNone.ne_int_none (cn I q (by simp))
  | int j=>obtain⟨t',rfl⟩:=ry;exact ne_int (cn I q (congrArg not Eb))
  | str j=>obtain⟨t',rfl⟩:=ry;exact PySem.EqMixed.ne_int_str (cn I q (by simp))
  | _=>exact absurd (show false=true from hs) abo
 | str i =>
  obtain⟨t,rfl⟩:=rx;cases y with
  | non=>cases ry;exact PySem.EqNone.ne_str_none (cn I q (by simp))
  | bl j=>cases ry;exact PySem.EqMixed.ne_str_bool (cn I q (by simp))
  | int j=>obtain⟨t',rfl⟩:=ry;exact PySem.EqMixed.ne_str_int (cn I q (by simp))
  | str j=>obtain⟨t',rfl⟩:=ry;exact ne_str (cn I q (congrArg not Ed))
  | _=>exact absurd (show false=true from hs) abo
 | byt i =>
  obtain⟨t,rfl⟩:=rx;cases y with
  | byt j=>obtain⟨t',rfl⟩:=ry;exact PySem.W.ne_bytes (cn I q (congrArg not Ee))
  | _=>exact absurd (show false=true from hs) abo
 | _=>cases y<;>exact absurd (show false=true from hs) abo
theorem yh:br X (acm .Lt) (gu λi j=>.bl (decide (i<j))):=vk λ_ _ _ _ _ _ _ q=>lt_int q
theorem gW:br X (acm .LtE) (gu λi j=>.bl (decide (i<=j))):=vk λ_ _ _ _ _ _ _ q=>le_int q
theorem rg:br X (acm .Gt) (gu λi j=>.bl (decide (j<i))):=vk λ_ _ _ _ _ _ _ q=>gt_int q
theorem NP:br X (acm .GtE) (gu λi j=>.bl (decide (j<=i))):=vk λ_ _ _ _ _ _ _ q=>ge_int q
theorem da(b:aeV)(h:op ≠ .In:=by decide)(h2:op ≠ .NotIn:=by decide):adj op b=false:=by
 have e1:(op == CmpOp.In)=false:=by cases op<;>first|rfl|exact absurd rfl h
 have e2:(op == CmpOp.NotIn)=false:=by cases op<;>first|rfl|exact absurd rfl h2
 cases b<;>simp[adj,e1,e2]
theorem fe(ho:br X (acm op) r)(ha:PE X a ta)(hb:PE X b tb)(hm:adj op b=false):PE X (.Compare a [op] [b] pos) (nu r ta tb):=by intro pins s σ H Q I h;exact wpAny_Compare1 (yf ha hb I h λv u s2 x y H2 I2 rx ry q=>ho pins s2 σ H2 x y v u Q I2 rx ry q) hm
def yi(t:TE):TT:=λσ H Q=>t σ H λx H'=>∃ k,x = .bl k/\Q k H'
theorem kO(ho:br X (acm op) r)(ha:PE X a ta)(hb:PE X b tb)(hm:adj op b=false):PT X (.Compare a [op] [b] pos) (yi (nu r ta tb)):=by
 intro pins s σ H Q I h;refine agv (aE (ha pins s σ H _ I h) λv s1 ⟨x,H1,I1,r1,q1⟩=>aE (hb pins s1 σ H1 _ I1 q1) λu s2 ⟨y,H2,I2,r2,q2⟩ =>
  aE (ho pins s2 σ H2 x y v u _ I2 r1 r2 q2) λc s3 ⟨z,H3,I3,r3,k,e,q3⟩=>?_) hm
 subst e;cases r3;exact acb ⟨H3,I3,q3⟩
def yj(r r':R2)(ta tb tc:TE):TE:=λσ H Q=>ta σ H λx H1=>tb σ H1 λy H2=>r x y H2 λz H3=>∃ k,z = .bl k /\
 (if k=true then tc σ H3 λw' H4=>r' y w' H4 Q else Q (.bl false) H3)
theorem Ef(ho:br X (acm op) r)(cW:br X (acm kP) r')(ha:PE X a ta)(hb:PE X b tb)(hc:PE X c tc)(hm:ai6 [op,kP] [b,c]=false:=by with_unfolding_all rfl):PE X (.Compare a [op,kP] [b,c] pos) (yj r r' ta tb tc):=by
 intro pins s σ H Q I h;refine Compare_chain (aE (ha pins s σ H _ I h) λv s1 ⟨x,H1,I1,r1,q1⟩=>chain_link (aE (hb pins s1 σ H1 _ I1 q1) λu s2 ⟨y,H2,I2,r2,q2⟩ =>
  aE (ho pins s2 σ H2 x y v u _ I2 r1 r2 q2) λd s3 ⟨z,H3,I3,r3,k,e,q3⟩=>?_)) hm
 subst e;cases r3;refine acb ?_;cases k with
 | false=>exact ite_ff ⟨.bl false,H3,I3,rfl,q3⟩
 | true=>exact ite_tt (chain_last (aE (hc pins s3 σ H3 _ I3 q3) λw' s4 ⟨z',H4,I4,r4,q4⟩=>cW pins s4 σ H4 y z' u w' Q I4 r2 r4 q4))
theorem NQ(ho:br X (acm op) r)(cW:br X (acm kP) r')(ha:PE X a ta)(hb:PE X b tb)(hc:PE X c tc)(hm:ai6 [op,kP] [b,c]=false:=by with_unfolding_all rfl):PT X (.Compare a [op,kP] [b,c] pos) (yi (yj r r' ta tb tc)):=by
 intro pins s σ H Q I h;refine isTrue_chain (aE (ha pins s σ H _ I h) λv s1 ⟨x,H1,I1,r1,q1⟩=>test_link (aE (hb pins s1 σ H1 _ I1 q1) λu s2 ⟨y,H2,I2,r2,q2⟩ =>
  aE (ho pins s2 σ H2 x y v u _ I2 r1 r2 q2) λd s3 ⟨z,H3,I3,r3,k,e,q3⟩=>?_)) hm
 subst e;cases r3;refine acb ?_;cases k with
 | false =>
  obtain⟨k',e',q'⟩:=q3;cases e';exact ite_ff ⟨H3,I3,q'⟩
 | true =>
  refine ite_tt (test_last (aE (hc pins s3 σ H3 _ I3 q3) λw' s4 ⟨z',H4,I4,r4,q4⟩=>aE (cW pins s4 σ H4 y z' u w' _ I4 r2 r4 q4) λd' s5 zq=>?_));obtain⟨z2,H5,I5,r5,k2,e2,q5⟩:=zq;subst e2;cases r5;exact acb ⟨H5,I5,q5⟩
theorem rh:(abu:Nat)<2 ^ 63:=by rw[aeA];decide
theorem vals1(r:Vals [x] us):∃ u,us=[u]/\RelV x u:=by
 cases r with
 | cons r1 r2=>cases r2;exact⟨_,rfl,r1⟩
theorem vals2(r:Vals [x,y] us):∃ u w',us=[u,w']/\RelV x u/\RelV y w':=by
 cases r with
 | cons r1 r2 =>
  cases r2 with
  | cons r3 r4=>cases r4;exact⟨_,_,rfl,r1,r3⟩
theorem NR(hc:X.calm=true):fJ X (.builtin "min") (λxs H Q=>∃ i j,xs=[.int i,.int j]/\Q (.int (if j<i then j else i)) H):=by
 intro pins s σ H xs us Q I r h;obtain⟨i,j,rfl,q⟩:=h;obtain⟨u,w',rfl,⟨t,rfl⟩,⟨t',rfl⟩⟩:=vals2 r;refine min_two_ints (I.ok.hd hc) λh' tk k=>⟨_,H,I.kept k,?_,q⟩
 by_cases hj:j<i
 .rw[if_pos hj,if_pos hj];exact⟨_,rfl⟩
 .rw[if_neg hj,if_neg hj];exact⟨_,rfl⟩
theorem NS:fJ X (.type "int") (λxs H Q=>(∃ i,xs=[.int i]/\Q (.int i) H) ∨ ∃ k,xs=[.bl k]/\Q (.int (if k then 1 else 0)) H):=by
 intro pins s σ H xs us Q I r h;rcases h with ⟨i,rfl,q⟩|⟨k,rfl,q⟩
 .obtain⟨u,rfl,t,rfl⟩:=vals1 r;exact call_int_int ⟨.int i,H,I,⟨_,rfl⟩,q⟩
 .obtain⟨u,rfl,r1⟩:=vals1 r;cases r1;exact call_int_bool ⟨.int (if k then 1 else 0),H,I.tok _,⟨_,rfl⟩,q⟩
def yk(K:aa0)(x:V)(H:Hp)(n:Nat):Prop :=
 match x with
 | .str y=>y.length<=abu/\n=y.length
 | .byt y=>y.size<=abu/\n=y.size
 | .ref p=>(∃ xs,ai K H p xs/\n=xs.length) ∨ ∃ xs,ah K H p xs/\n=xs.length
 | _=>False
theorem cD:fJ X (.builtin "len") (λxs H Q=>∃ x n,xs=[x]/\yk X.K x H n/\Q (.int n) H):=by
 intro pins s σ H xs us Q I r h;obtain⟨x,n,rfl,e,q⟩:=h;obtain⟨u,rfl,rx⟩:=vals1 r;have hl:=rh;have hs:abu=16777216:=aeA;cases x with
 | str y =>
  obtain⟨t,rfl⟩:=rx;obtain⟨hy,e'⟩:y.length<=abu/\n=y.length:=e;subst e';exact len_str (by omega) ⟨.int _,H,I.tok _,⟨_,rfl⟩,q⟩
 | byt y =>
  obtain⟨t,rfl⟩:=rx;obtain⟨hy,e'⟩:y.size<=abu/\n=y.size:=e;subst e';exact PySem.W.len_bytes (by omega) ⟨.int _,H,I.tok _,⟨_,rfl⟩,q⟩
 | ref p =>
  cases rx;have e':(∃ xs,ai X.K H p xs/\n=xs.length) ∨ ∃ xs,ah X.K H p xs/\n=xs.length:=e;rcases e' with ⟨xs,hx,e'⟩|⟨xs,hx,e'⟩
  .subst e';obtain⟨ar,r',pl,hz⟩:=I.list hx;have hlen:=r'.length;exact Calls.call_len_list pl.isList (by simp only[abg];omega) ⟨.int xs.length,H,I.tok _,⟨_,by simp only[abg];rw[hlen]⟩,q⟩
  .subst e';obtain⟨ar,r',pl,hz⟩:=I.tuple hx;have hlen:=r'.length;exact len_tuple pl (by simp only[abg];omega) ⟨.int xs.length,H,I.tok _,⟨_,by simp only[abg];rw[hlen]⟩,q⟩
 | _=>exact (show False from e).elim
end
structure nv(h:adz)(x dx C:abd)(mA:Str->Option aa9):Prop where
 obj:h.get? x=some (ac1 C dx)
 ns:h.Ns1 dx mA
 ne:dx≠x
theorem NT{h:adz}{dx:abd}{mA:Str->Option aa9}(n:h.Ns1 dx mA):∃ od,h.get? dx=some od/\∀ name,afA name od=some (mA name):=by
 obtain⟨o,es,ep,ho,hd,hk,_,hm⟩:=n;refine⟨o,ho,λname=>?_⟩;have e:=hm name;unfold nsFind findBy at e;rw[<- Array.find?_toList] at e;unfold afA;rw[hd];dsimp only;split
 .rename_i y q;rw[q] at e;exact congrArg some e
 .rename_i q;rw[q] at e;have a:es.toList.any (·.refKey)=false:=by rw[ahy];intro y hy;obtain⟨z,t,gX⟩:=hk y (ae1.mp hy);simp[DictEntry.refKey,gX]
  have a':¬ es.toList.any (·.refKey)=true:=by rw[a];exact abo
  rw[if_neg a'];exact congrArg some e
theorem nv.look(I:nv h x dx C mA):∃ od,PySem.W.InstAt h x (ac1 C dx) C (some od)/\∀ name,afA name od=some (mA name) :=
 let ⟨od,ho,hl⟩:=NT I.ns
 ⟨od,⟨I.obj,rfl,rfl,ho⟩,hl⟩
section
variable{prog:ab1}{w:acz}{A:acP}{E:aa9->abe->Prop}{s:abe}{K:aa0}{x dx C f:abd}{mA:Str->Option aa9}{name:Str}{v:aa9}
theorem get_map{expr:Bool}{Q:aa9->abe->Prop}(X:K.In s.heap)(I:nv s.heap x dx C mA)(hg:aeW K C name=true)(hh:afL K C=true)
 (ha:abQ K (.ref C) name=some none) (hv:mA name=some v) (NU:ah0 v=true) (h:Q v { s with toks:=s.toks+1 }) :
 abm (model prog w) A (getAttr (.ref x) name expr) Q E s:=by
 obtain⟨od,J,hl⟩:=I.look;exact PySem.W.get_value X J (afb hg).1 (PySem.W.findObj_own hh ha rfl (by rw[hl,hv])) NU h
theorem NV{pl:Sem Bool}{Q:aa9 × List aa9->abe->Prop}(X:K.In s.heap)(I:nv s.heap x dx C mA)(hg:aeW K C name=true)
 (hf:abQ K (.ref C) name=some (some (.ref f))) (ht:agw K (.ref f)=true) (hv:mA name=none) (h:Q (.ref f,[.ref x]) s) :
 abm (model prog w) A (aia (.ref x) name pl) Q E s:=by
 obtain⟨od,J,hl⟩:=I.look;exact PySem.W.method_fn X J (afb hg).1 (afb hg).2 hf (beq_iff_eq.mp ht) (by show (afA name od).map (·.isSome)=some false;rw[hl,hv];rfl) h
theorem NW{ns:List Str}{Q:Unit->abe->Prop}(X:K.In s.heap)(I:nv s.heap x dx C mA)
 (hs:abQ K (.ref C) "__setattr__" = some (some (.builtin "object.__setattr__"))) (hp:ahz K C=true) (ht:agx K C name=some none) (hh:afL K C=true)
 (hw:ahP mA ns) (hsz:ns.length<=abu)
 (h:∀ h',nv h' x dx C (λy=>if y=name then some v else mA y)->Heap.SameBut dx s.heap h'->Q () { s with heap:=h',toks:=s.toks+2 }) :
 abm (model prog w) A (setAttr (.ref x) name v) Q E s:=by
 obtain⟨od,J,hl⟩:=I.look;refine PySem.W.set_plain X J hs (PySem.W.osa_open (s:={ s with toks:=s.toks+1 }) (r:=none) X J hp ht λb=>?_);obtain⟨cd,hc,i4⟩:=PySem.W.any_some hh;have hx:s.heap.get? x=some ⟨.ref C,some dx,.plain,#[]⟩:=I.obj;refine aaZ (aa4 (aaZ (aaZ (wpAny_loadPart hx (aaZ (PySem.W.Looks.here (s:={ s with toks:=s.toks+1 }) (PySem.W.looks_clsIn X hc) ?_))))));rw[i4];refine aa4 (a:=some dx) (aaZ (aa4 (aaZ ?_)));refine wpAny_nsSet1 (s:={ s with toks:=s.toks+1 }) I.ns λh' ym cZ=>?_;obtain⟨oD,esD,epD,NX,NY,NZ⟩:=ym.count (PySem.Within.cons name v hw);refine aaZ (wpAny_lookBehind NX (by rw[NY];exact pastItsLine_dict (abb NZ (by rw[abX];omega))) ?_);exact aa4 (h _ ⟨(cZ.2 _ (ab4 I.ne)).trans I.obj,ym,I.ne⟩ cZ)
theorem N0{R:ahR->abe->Prop}{vs:List aa9}{kw:List (Str × aa9)}(X:K.In s.heap)(hm:afc K C=true)
 (hi:abQ K (.ref C) "__init__" = some (some (.ref f))) (hf:afB K (.ref f)=some (.type "function"))
 (h:ad0 (model prog w) (A.under (.builtin "type.__call__" ⟨.ref C::vs,kw⟩)) (.call (.ref f) ⟨.ref (s.heap.objs.size+1)::vs,kw⟩) (PySem.W.InitBack (s.heap.objs.size+1) R)
   { s with heap:=(s.heap.push acC).push (ac1 C s.heap.objs.size) }) :
 ad0 (model prog w) A (.call (.ref C) ⟨vs,kw⟩) R s:=by
 obtain⟨hh,g,d,t,os⟩:=s;exact PySem.W.make_core (PySem.W.makes_of X hm) (PySem.W.looks_findIn X hi) (λself=>PySem.W.bind_fn X self hf) (.inl rfl) h
end
noncomputable def eV(f:Str)(v:V):List (Str × V)->List (Str × V)
 | []=>[(f,v)]
 | (g,x)::r=>if g=f then (g,v)::r else (g,x)::eV f v r
theorem Eg(f g:Str)(v:V):∀ fs:List (Str × V),(eV f v fs).lookup g=if g=f then some v else fs.lookup g
 | []=>by
  show aeB g [(f,v)]=_;by_cases h:g=f
  .have hb:(g == f)=true:=beq_iff_eq.mpr h;simp only[aeB,hb,if_pos h]
  .have hb:(g == f)=false:=beq_eq_false_iff_ne.mpr h;simp only[aeB,hb,if_neg h]
 | (k,x)::r=>by
  have ih:=Eg f g v r;rw[show eV f v ((k,x)::r)=(if k=f then (k,v)::r else (k,x)::eV f v r) from rfl];by_cases hk:k=f
  .rw[if_pos hk];by_cases h:g=k
   .have hb:(g == k)=true:=beq_iff_eq.mpr h;simp only[aeB,hb,if_pos (h.trans hk)]
   .have hb:(g == k)=false:=beq_eq_false_iff_ne.mpr h;simp only[aeB,hb,if_neg (λe:g=f=>h (e.trans hk.symm))]
  .rw[if_neg hk];by_cases h:g=k
   .have hb:(g == k)=true:=beq_iff_eq.mpr h;simp only[aeB,hb,if_neg (λe:g=f=>hk (h.symm.trans e))]
   .have hb:(g == k)=false:=beq_eq_false_iff_ne.mpr h;simp only[aeB,hb];exact ih
theorem yn(f:Str)(v:V):∀ fs:List (Str × V),f∈(eV f v fs).map (·.1)/\∀ g,g∈fs.map (·.1)->g∈(eV f v fs).map (·.1)
 | []=>⟨by simp[eV],λg h=>by simp at h⟩
 | (k,x)::r=>by
  obtain⟨i1,i2⟩:=yn f v r;rw[show eV f v ((k,x)::r)=(if k=f then (k,v)::r else (k,x)::eV f v r) from rfl];by_cases hk:k=f
  .rw[if_pos hk];subst hk;exact⟨by simp,λg h=>by simpa using h⟩
  .rw[if_neg hk];refine⟨?_,λg h=>?_⟩
   .rw[abj];exact abY _ i1
   .rw[abj] at h ⊢;rcases abl.mp h with e|e
    .exact abl.mpr (.inl e)
    .exact abY _ (i2 g e)
theorem Eh(f:Str)(v:V):∀ fs:List (Str × V),(eV f v fs).length<=fs.length+1
 | []=>by simp[eV]
 | (k,x)::r=>by
  have ih:=Eh f v r;rw[show eV f v ((k,x)::r)=(if k=f then (k,v)::r else (k,x)::eV f v r) from rfl];by_cases hk:k=f
  .rw[if_pos hk,abX,abX];omega
  .rw[if_neg hk,abX,abX];omega
theorem fE.some_of(r:fE (some v) o):∃ u,o=some u/\RelV v u:=by
 cases o with
 | none=>exact (show False from r).elim
 | some u=>exact⟨u,rfl,r⟩
theorem fE.none_of(r:fE none o):o=none:=by
 cases o with
 | none=>rfl
 | some u=>exact (show False from r).elim
theorem N1(r:RelV v u):ah0 u=true:=by
 cases v with
 | non=>cases (show u=Value.none from r);rfl
 | bl b=>cases (show u=acJ b from r);rfl
 | int i=>obtain⟨t,e⟩:=(show ∃ t,u=Value.int i t from r);cases e;rfl
 | str x=>obtain⟨t,e⟩:=(show ∃ t,u=Value.str x t from r);cases e;rfl
 | byt b=>obtain⟨t,e⟩:=(show ∃ t,u=ajh b t from r);cases e;rfl
 | flt b=>obtain⟨t,e⟩:=(show ∃ t,u=ah9 b t from r);cases e;rfl
 | ref a=>cases (show u=abz a from r);rfl
 | ty n=>cases (show u=afI n from r);rfl
section
theorem vm(ay:bW P w H h)(e:H a=some (.ins C dx fs)):∃ mA,nv h a dx C mA/\(∀ f,fE (fs.lookup f) (mA f))/\ahP mA (fs.map (·.1))/\fs.length<=1000/\H dx=some (.own a):=by
 obtain⟨d,z,ne,ob,mA,n,r,q⟩:=(show bN P w H h a (.ins C dx fs) from ay a _ e)
 exact⟨mA,⟨ob,n,ne⟩,r,q,z,d⟩
end
structure eI(K:aa0)(C:abd):Prop where
 pg:aeW K C Str.empty=true
 hd:afL K C=true
 po:ahz K C=true
 sa:abQ K (.ref C) "__setattr__" = some (some (.builtin "object.__setattr__"))
theorem eI.get{K:aa0}{C:abd}(c:eI K C)(f:Str):aeW K C f=true:=c.pg
def fX(K:aa0)(C:abd)(f:Str):Prop:=abQ K (.ref C) f=some none
theorem fX.N2{K:aa0}{C:abd}{f:Str}(n:fX K C f):agx K C f=some none:=by unfold agx;rw[show abQ K (.ref C) f=some none from n];rfl
structure Meth(K:aa0)(C:abd)(m:Str)(f:abd):Prop where
 at_:abQ K (.ref C) m=some (some (.ref f))
 fn:agw K (.ref f)=true
 kp:ado K (.ref f)=true
section
theorem N3(I:Inv X pins σ H s)(e:H a=some (.ins C dx fs))(c:eI X.K C)(n:fX X.K C f)(l:fs.lookup f=some v)(h:∀ u s',Inv X pins σ H s'->RelV v u->Q u s'):abm (model X.prog X.w) A (getAttr (.ref a) f b) Q E s:=by obtain⟨mA,O,r,_,_,_⟩:=vm I.ay e;obtain⟨u,hu,ru⟩:=fE.some_of (v:=v) (o:=mA f) (by rw[<- l];exact r f);exact get_map I.cL O (c.get f) c.hd n hu (N1 ru) (h u _ (I.tok _) ru)
theorem Ei(I:Inv X pins σ H s)(e:H a=some (.ins C dx fs))(c:eI X.K C)(k:Meth X.K C m g)(l:fs.lookup m=none)(h:Q (.ref g,[.ref a]) s):abm (model X.prog X.w) A (aia (.ref a) m pl) Q E s:=by obtain⟨mA,O,r,_,_,_⟩:=vm I.ay e;have hn:mA m=none:=fE.none_of (by rw[<- l];exact r m);exact NV I.cL O (c.get m) k.at_ k.fn hn h
theorem N4(I:Inv X pins σ H s)(e:H a=some (.ins C dx fs))(c:eI X.K C)(n:fX X.K C f)(hl:fs.length<1000)(ry:RelV y u)(h:∀ s',Inv X pins σ (upd H a (.ins C dx (eV f y fs))) s'->Q () s'):abm (model X.prog X.w) A (setAttr (.ref a) f u) Q E s:=by
 obtain⟨mA,O,r,wi,_,ho⟩:=vm I.ay e;have hz:(fs.map (·.1)).length<=abu:=by rw[aa2,aeA];omega
 refine NW I.cL O c.sa c.po n.N2 c.hd wi hz λh' O' sb=>h _ ?_;have hd:∃ o,h'.get? dx=some o:=let ⟨o,_,_,e',_⟩:=O'.ns;⟨o,e'⟩;refine I.write (x:=a) (e:=dx) (by rw[e];exact adv) (.inr ho) (λb q hb z=>(sb.2 b hb).trans z) hd ?_;refine⟨by rw[aB O.ne];exact ho,?_,O.ne,O'.obj,_,O'.ns,λg=>?_,λg hg=>?_⟩
 .have:=Eh f y fs;omega
 .show fE ((eV f y fs).lookup g) (if g=f then some u else mA g);rw[Eg];by_cases q:g=f
  .rw[if_pos q,if_pos q];exact ry
  .rw[if_neg q,if_neg q];exact r g
 .by_cases q:g=f
  .rw[q];exact (yn f y fs).1
  .refine (yn f y fs).2 g (wi g λz=>hg ?_);show (if g=f then some u else mA g)=none;rw[if_neg q];exact z
theorem Inv.made(I:Inv X pins σ H s):Inv X pins σ (upd (upd H s.heap.objs.size (.own (s.heap.objs.size+1))) (s.heap.objs.size+1) (.ins C s.heap.objs.size []))
 { s with heap:=(s.heap.push acC).push (ac1 C s.heap.objs.size) }:=by
 have e1:(s.heap.push acC).get? s.heap.objs.size=some acC:=abc s.heap rfl;have e2:((s.heap.push acC).push (ac1 C s.heap.objs.size)).get? (s.heap.objs.size+1)=some (ac1 C s.heap.objs.size):=by
  have:=abc (s.heap.push acC) (o:=ac1 C s.heap.objs.size) rfl
  rwa [adJ] at this
 have e3:(s.heap.push acC).Ns s.heap.objs.size (λ_=>none):=⟨acC,#[],_,e1,rfl,(λe he=>absurd he (by simp)),λ_=>rfl⟩
 have I1:=I.laid (a:=s.heap.objs.size) (o:=.own (s.heap.objs.size+1)) (h':=s.heap.push acC) (t':=s.toks) (λb u q=>aa5 _ q) (aba _) ⟨_,e1⟩;refine I1.laid (a:=s.heap.objs.size+1) (o:=.ins C s.heap.objs.size []) (t':=s.toks) (λb u q=>aa5 _ q) (ai7 (adJ _ _)) ?_;have ne:s.heap.objs.size≠s.heap.objs.size+1:=abk (ad9 _);refine⟨by rw[aB ne,aw],abt _,ne,e2,λ_=>none,(Heap.Ns1.of_empty e3).at λo q=>aa5 _ q,λ_=>adv,λy hy=>absurd rfl hy⟩
theorem N5(hb:ael e f env (eval e env)=eval e env)(h:abm (model prog w) A (eval e env) (λo s₁=>abm (model prog w) A (getAttr o f true) Q E s₁) E s):abm (model prog w) A (eval (.Attribute e f pos) env) Q E s :=
 Attribute_any_ h (by rw[arm_eval_Attribute,hb])
end
def Ej(K:aa0)(ta:TE)(f:Str):TE:=λσ H Q=>ta σ H λx H1=>∃ a C dx fs v,x = .ref a/\H1 a=some (.ins C dx fs)/\eI K C/\fX K C f/\fs.lookup f=some v/\Q v H1
def Ek(K:aa0)(ta tv:TE)(f:Str):TS:=λD σ H=>tv σ H λy H1=>ta σ H1 λx H2=>∃ a C dx fs,x = .ref a/\H2 a=some (.ins C dx fs)/\eI K C/\fX K C f/\fs.length<1000 /\
 D.nx σ (upd H2 a (.ins C dx (eV f y fs)))
section
theorem N6(he:PE X e ta)(hb:ael e f X.env (eval e X.env)=eval e X.env):PE X (.Attribute e f pos) (Ej X.K ta f):=by
 intro pins s σ H Q I h;refine N5 hb (aE (he pins s σ H _ I h) λu s1 zq=>?_);obtain⟨x,H1,I1,rx,a,C,dx,fs,v,ex,ea,c,n,l,q⟩:=zq;subst ex;obtain rfl:u=abz a:=rx;exact N3 I1 ea c n l λu' s2 I2 ru=>⟨v,H1,I2,ru,q⟩
theorem N7(ha:PE X o ta)(hv:PE X value tv)(hs:ae9 value (some (.Attribute o f pos')) pos.line X.env=pure false):PS X (.Assign [.Attribute o f pos'] value pos) (Ek X.K ta tv f):=by
 intro pins s σ H D I h;refine plainObj_wpAny_Assign_Attribute (aE (hv pins s σ H _ I h) λu s1 ⟨y,H1,I1,ry,q⟩=>aE (ha pins s1 σ H1 _ I1 q) λov s2 zq=>?_) hs;obtain⟨x,H2,I2,rx,a,C,dx,fs,ex,ea,c,n,l,q2⟩:=zq;subst ex;obtain rfl:ov=abz a:=rx;exact N4 I2 ea c n l ry λs3 I3=>⟨σ,_,I3,q2⟩
inductive dk(K:aa0)(H:Hp):V->aa9->Prop where
 | non:dk K H .non (.type "NoneType")
 | bl (x:Bool):dk K H (.bl x) (.type "bool")
 | int (i:Int):dk K H (.int i) (.type "int")
 | str (x:Str):dk K H (.str x) (.type "str")
 | flt (x:UInt64):dk K H (.flt x) (.type "float")
 | lst {a:abd} {xs:List V} (e:H a=some (.lst xs)):dk K H (.ref a) (.type "list")
 | aL {a:abd} {o:Obj} {xs:List V} (e:H a=some (.aL o (.lst xs))):dk K H (.ref a) (.type "list")
 | tup {a:abd} {xs:List V} (e:H a=some (.tup xs)):dk K H (.ref a) (.type "tuple")
 | dK {a:abd} {kvs:List (Key × V)} (e:H a=some (.dK kvs)):dk K H (.ref a) (.type "dict")
 | dT {a:abd} {kvs:List (List Key × V)} (e:H a=some (.dT kvs)):dk K H (.ref a) (.type "dict")
 | ins {a C dx:abd} {fs:List (Str × V)} (e:H a=some (.ins C dx fs)) (cl:eI K C) (ha:abQ K (.ref C) "__class__" = some (some (.builtin "object.__class__")))
  (hn:afM K (.builtin "object.__class__") "__get__" = some (some (.builtin "getset_descriptor.__get__"))) (El:agy K (.builtin "object.__class__")=some true)
  (hm:ahh K C (.type "object")=some true):dk K H (.ref a) (.ref C)
theorem N8(I:Inv X pins σ H s)(rx:RelV x u)(ty:dk X.K H x t)(e:abW X.K t c=some b)(h:∀ tk,Q (.bool b) { s with toks:=tk }) :
 abm (model X.prog X.w) A (call (.builtin "isinstance") [u,c]) Q E s:=by
 cases ty with
 | non=>cases (show u=Value.none from rx);exact acn PySem.W.kitx_none I.cL adv e (λz=>nomatch z) h
 | bl y=>cases (show u=acJ y from rx);exact acn PySem.W.kitx_bool I.cL adv e (λz=>nomatch z) h
 | int i=>obtain⟨t,q⟩:=(show ∃ t,u=Value.int i t from rx);cases q;exact acn PySem.W.kitx_int I.cL adv e (λz=>nomatch z) h
 | str y=>obtain⟨t,q⟩:=(show ∃ t,u=Value.str y t from rx);cases q;exact acn PySem.W.kitx_str I.cL adv e (λz=>nomatch z) h
 | flt y=>obtain⟨t,q⟩:=(show ∃ t,u=ah9 y t from rx);cases q;exact acn PySem.W.kitx_float I.cL adv e (λz=>nomatch z) h
 | @lst a xs ea =>
  cases (show u=abz a from rx);obtain⟨_,_,n,_,h1⟩:=(show bN X.prog X.w H s.heap a (.lst xs) from I.ay a _ ea)
  exact acn ahA I.cL ⟨_,h1,rfl⟩ e (λz=>nomatch z) h
 | @aL a ob xs ea =>
  cases (show u=abz a from rx);obtain⟨_,_,_,n,_,h1⟩:=(show bN X.prog X.w H s.heap a (.aL ob (.lst xs)) from I.ay a _ ea)
  exact acn ahA I.cL ⟨_,h1,rfl⟩ e (λz=>nomatch z) h
 | @tup a xs ea =>
  cases (show u=abz a from rx);obtain⟨_,_,_,p⟩:=(show bN X.prog X.w H s.heap a (.tup xs) from I.ay a _ ea)
  obtain⟨o,h1,h2,_⟩:=p;exact acn PySem.W.kitx_tuple I.cL ⟨o,h1,h2⟩ e (λz=>nomatch z) h
 | @dK a kvs ea =>
  cases (show u=abz a from rx);obtain⟨_,_,vs,_,p⟩:=(show bN X.prog X.w H s.heap a (.dK kvs) from I.ay a _ ea)
  obtain⟨o,es,ep,h1,h2,_⟩:=p;exact acn ahB I.cL ⟨o,h1,h2.1⟩ e (λz=>nomatch z) h
 | @dT a kvs ea =>
  cases (show u=abz a from rx);obtain⟨_,_,xs,_,o,es,ep,h1,h2,_⟩:=(show bN X.prog X.w H s.heap a (.dT kvs) from I.ay a _ ea)
  exact acn ahB I.cL ⟨o,h1,h2.1⟩ e (λz=>nomatch z) h
 | @ins a C dx fs ea cl ha hn El hm =>
  cases (show u=abz a from rx);obtain⟨mA,O,_⟩:=vm I.ay ea;obtain⟨od,J,_⟩:=O.look;exact acn (PySem.W.kitx_own (cl.get _) cl.hd ha hn El hm) I.cL J e (λz=>nomatch z) h
end
structure cc(k:Nat)(A:acP):Prop where
 hd:A.handled=none
 dp:A.depth+3 * k+5<recursionLimit
 un:A.units+16 * k+200<afq
theorem cc.mono(r:cc k A)(h:j<=k):cc j A:=⟨r.hd,by have:=r.dp;omega,by have:=r.un;omega⟩
theorem cc.deeper(r:cc (k+1) A)(env:Env):cc k (A.deeper env) :=
 ⟨r.hd,by have:=r.dp;show A.depth+1+3 * k+5<_;omega,by have:=r.un;show A.units+3+16 * k+200<_;omega⟩
theorem Oa{A:acP}{C:abd}{us:List aa9}{kw:List (Str × aa9)}:(A.under (.builtin "type.__call__" ⟨.ref C::us,kw⟩)).depth=A.depth+1:=by
 first|rfl|simp[ahS,Code.weight,Code.isCreation,Code.isGuard,Code.isCaller,Code.frames,Code.isFrame,guardIds]
theorem Ob{A:acP}{C:abd}{us:List aa9}{kw:List (Str × aa9)}:(A.under (.builtin "type.__call__" ⟨.ref C::us,kw⟩)).units=A.units+1:=by
 first|rfl|simp[ahS,Code.cUnits,Code.frames,Code.isFrame]
theorem cc.make(r:cc (k+1) A)(C:abd)(us:List aa9)(kw:List (Str × aa9)):cc k (A.under (.builtin "type.__call__" ⟨.ref C::us,kw⟩)) :=
 ⟨r.hd,by have:=r.dp;rw[Oa];omega,by have:=r.un;rw[Ob];omega⟩
theorem cc.depth(r:cc k A):A.depth<recursionLimit:=by have:=r.dp;omega
theorem cc.units(r:cc k A):A.units+64<afq:=by have:=r.un;omega
def vo:TA:=λ_ H Q=>Q [] H
def yo(ta:TE)(tr:TA):TA:=λσ H Q=>ta σ H λx H1=>tr σ H1 λxs H2=>Q (x::xs) H2
section
theorem ag:PA X [] vo:=λ_ _ _ _ H Q I h=>ac0 ⟨[],H,I,.nil,h⟩
theorem ae(ha:PE X e te)(hr:PA X es t)(hs:abA (e::es) X.env=(false,eval e X.env)::abA es X.env:=by rfl):PA X (e::es) (yo te t):=by
 intro pos pins s σ H Q I h;rw[hs];show abm _ _ (spliced ((false,eval e X.env)::adh pos (abA es X.env))) _ _ s;refine acR (aE (ha pins s σ H _ I h) λu s1 zq=>?_);obtain⟨x,H1,I1,r1,q1⟩:=zq;exact aE (hr pos pins s1 σ H1 _ I1 q1) λus s2 ⟨xs,H2,I2,r2,q2⟩=>⟨x::xs,H2,I2,.cons r1 r2,q2⟩
def Em(t:TA):TE:=λσ H Q=>t σ H λxs H1=>xs.length<=abu/\∀ p,H1 p=none->Q (.ref p) (upd H1 p (.tup xs))
def Eo(t:TA):TE:=λσ H Q=>t σ H λxs H1=>xs.length<=abu/\∀ p,H1 p=none->Q (.ref p) (upd H1 p (.lst xs))
theorem aS(h:PA X es t):PE X (.Tuple es x1 pos) (Em t):=by intro pins s σ H Q I hq;refine wpAny_Tuple_spliced (aE (h pos pins s σ H _ I hq) λus s1 ⟨xs,H1,I1,r,z,q⟩=>⟨by rw[<- r.length];exact z,?_⟩);have hf:H1 s1.heap.objs.size=none:=I1.ay.fresh (aba _);refine⟨.ref s1.heap.objs.size,upd H1 s1.heap.objs.size (.tup xs),I1.laid (t':=s1.toks) (λb u e=>aa5 _ e) (aba _) ?_,rfl,q _ hf⟩;exact⟨z,us,r,⟨_,abc _ rfl,rfl,_,rfl⟩⟩
theorem cO(h:PA X es t):PE X (.List es pos) (Eo t):=by intro pins s σ H Q I hq;refine wpAny_List_spliced (aE (h pos pins s σ H _ I hq) λus s1 ⟨xs,H1,I1,r,z,q⟩=>⟨by rw[<- r.length];exact z,?_⟩);have hf:H1 s1.heap.objs.size=none:=I1.ay.fresh (aba _);refine⟨.ref s1.heap.objs.size,upd H1 s1.heap.objs.size (.lst xs),I1.laid (t':=s1.toks) (λb u e=>aa5 _ e) (aba _) ?_,rfl,q _ hf⟩;exact⟨z,us,0,r,abc _ rfl⟩
end
abbrev Sp:=List V->Hp->VK->XK->Prop
abbrev gY:=List Env->Hp->abe->XK->aa9->abe->Prop
structure ny(P:ab1)(w:acz)(K:aa0)(mg:Str->Option aa9)(base:adz)(A:acP)(outer:List Env)(s:abe)(H:Hp):Prop where
 frames:A.frames=some outer
 mod:Mod K mg base
 bs:∀ b o,base.get? b=some o->s.heap.get? b=some o/\H b=none
 bsz:base.objs.size<=s.heap.objs.size
 fV:s.heap.FunFrames base outer
 frf:∀ b∈a9 outer,H b=none
 ay:bW P w H s.heap
 bare:agu s.gens
def CE(outer:List Env)(P:ab1)(w:acz)(H:Hp)(s:abe)(Q:VK)(u:aa9)(s':abe):Prop :=
 ∃ v H',s'.os=s.os/\agu s'.gens/\Un (a9 outer) [] H H' s.heap s'.heap/\bW P w H' s'.heap/\RelV v u/\Q v H'
def CR(CX:gY)(outer:List Env)(P:ab1)(w:acz)(H:Hp)(s:abe)(Q:VK)(E:XK)(r:ahR)(s':abe):Prop :=
 match r with
 | .ok (.ret u)=>CE outer P w H s Q u s'
 | .ok _=>False
 | .error e=>CX outer H s E e s'
structure ff(P:ab1)(w:acz)(K:aa0)(mg:Str->Option aa9)(base:adz)(CX:gY)(k:Nat)(f:abd)(fd:aea)(ps:List Str)(sp:Sp):Prop where
 len:∀ vs H Q E,sp vs H Q E->vs.length=ps.length
 run:∀ (A:acP) (outer:List Env) (s:abe) (H:Hp) (args:Args) (us:List aa9) (vs:List V) (Q:VK) (E:XK),cc k A->ny P w K mg base A outer s H->ahC s fd args (ps.zip us)->Vals vs us->sp vs H Q E ->
  ad0 (model P w) A (.call (.ref f) args) (CR CX outer P w H s Q E) s
theorem ny.make{P:ab1}{w:acz}{K:aa0}{mg:Str->Option aa9}{base:adz}{A:acP}{outer:List Env}{s:abe}{H:Hp}(e:ny P w K mg base A outer s H)(C:abd)(us:List aa9)(kw:List (Str × aa9)) :
 ny P w K mg base (A.under (.builtin "type.__call__" ⟨.ref C::us,kw⟩)) outer s H:=⟨by first|exact e.frames|(simpa [ahS,Code.envs,Code.isFrame,pushEnvs] using e.frames),e.mod,e.bs,e.bsz,e.fV,e.frf,e.ay,e.bare⟩
section
theorem Inv.Ep(I:Inv X pins σ H s):ny X.prog X.w X.K X.mg X.base X.A X.stack s H :=
 ⟨I.ok.frames,I.ok.mod,I.bs,abb I.ok.bsz I.sz,I.stack,I.qT,I.ay,I.bare⟩
theorem Inv.after(I:Inv X pins σ H s)(h:CE X.stack X.prog X.w H s Q u s'):EP X pins σ Q u s':=by obtain⟨v,H',os,bare,un,ay,r,q⟩:=h;obtain⟨hh,g,d,t,oT⟩:=s';obtain rfl:oT=s.os:=os;exact⟨v,H',I.call (h':=hh) (g':=g) (d':=d) (t':=t) (ch:=[]) un ay bare (λb z=>absurd z (by simp)),r,q⟩
end
def vq(sp:Sp)(ee:List V)(E:XK)(t:TA):TE:=λσ H Q=>t σ H λvs H1=>sp (vs++ee) H1 Q E
def yq(C:abd)(m:Str)(sp:Sp)(ee:List V)(E:XK)(ta:TE)(t:TA):TE:=λσ H Q=>ta σ H λx H1=>∃ a dx fs,x = .ref a/\H1 a=some (.ins C dx fs)/\fs.lookup m=none /\
 t σ H1 λvs H2=>sp (x::(vs++ee)) H2 Q E
def Er(C:abd)(sp:Sp)(ee:List V)(E:XK)(t:TA):TE:=λσ H Q=>t σ H λvs H1=>∀ x dx,H1 x=none->H1 dx=none->dx≠x ->
 sp (.ref x::(vs++ee)) (upd (upd H1 dx (.own x)) x (.ins C dx [])) (λv H2=>v = .non/\Q (.ref x) H2) E
def Binds(K:aa0)(fd:aea)(ps:List Str)(ds:List aa9):Prop :=
 ∀ (s:abe) (us:List aa9),K.In s.heap->(us++ds).length=ps.length->ahC s fd ⟨us,[]⟩ (ps.zip (us++ds))
theorem Binds.all{K:aa0}{fd:aea}{ps:List Str}(h:∀ us:List aa9,us.length=ps.length->bindArgs fd ⟨us,[]⟩=pure (ps.zip us)):Binds K fd ps []:=λs us _ hl=>by rw[aib] at hl ⊢;exact .of_eq (h us hl)
def Passes(CX:gY)(X:Cx)(E:XK):Prop:=∀ (pins:List (abd × Obj)) (σ:St) (H:Hp) (s:abe) (e:aa9) (s':abe),Inv X pins σ H s->CX X.stack H s E e s'->X.xe e s'
section
theorem yr(F:ff X.prog X.w X.K X.mg X.base CX k f fd ps sp)(hr:cc k X.A)(hb:Binds X.K fd ps ds)(hd:Vals ee ds)(hx:Passes CX X E)(I:Inv X pins σ H s)(r:Vals vs us)(h:sp (vs++ee) H Q E):abm (model X.prog X.w) X.A (call (.ref f) us) (EP X pins σ Q) X.xe s:=by
 have r2:Vals (vs++ee) (us++ds):=r.append hd;have hl:(us++ds).length=ps.length:=by rw[<- r2.length];exact F.len _ _ _ _ h
 refine ahD (aeM (F.run X.A X.stack s H ⟨us,[]⟩ (us++ds) (vs++ee) Q E hr I.Ep (hb s us I.cL hl) r2 h) λr s' hq=>?_);cases r with
 | error e=>exact hx pins σ H s e s' I hq
 | ok fl =>
  cases fl with
  | ret u=>exact I.after hq
  | next=>exact adi hq
  | brk=>exact adi hq
  | cont=>exact adi hq
theorem bR(F:ff X.prog X.w X.K X.mg X.base CX k f fd ps sp)(hr:cc k X.A)(hg:Gl X x)(hm:X.mg x=some (.ref f))(hk:ado X.K (.ref f)=true)(hb:Binds X.K fd ps ds)(hd:Vals ee ds)(hx:Passes CX X E)(ha:PA X (e::es) t)(gZ:(x == ("__debug__" : Str))=false:=by decide)(he:abA (e::es) X.env=(false,eval e X.env)::abA es X.env:=by rfl)(eJ:(adh pos (abA es X.env)).any (·.1)=false:=by rfl) :
 PE X (.Call (.Name x p) (e::es) [] pos) (vq sp ee E t):=by
 intro pins s σ H Q I h;refine acs (qW I hg hm ?_ gZ);refine afu (h₀:=X.base) I.ok.mod.kin hk (aE (ha pos pins s σ H _ I h) λus s1 ⟨vs,H1,I1,r,q⟩=>⟨I1.cL,?_⟩) he eJ;exact yr F hr hb hd hx I1 r q
theorem fY(he:PE X o ta)(c:eI X.K C)(hm:Meth X.K C m f)(F:ff X.prog X.w X.K X.mg X.base CX k f fd ps sp)(hr:cc k X.A)(hb:Binds X.K fd ps ds)(hd:Vals ee ds)(hx:Passes CX X E)(ha:PA X (e::es) t)(cX:abA (e::es) X.env=(false,eval e X.env)::abA es X.env:=by rfl)(eJ:(adh pos (abA es X.env)).any (·.1)=false:=by rfl)(ht:eval (.Call (.Attribute o m apos) (e::es) [] pos) X.env=(do
 let ov <- eval o X.env
 aiS apos.atName
 let (f,first) <- holding [ov] (aia ov m pl)
 callWith pos f first (adh pos (abA (e::es) X.env)) (ah7 pos (af0 [] X.env))):=by rfl) :
 PE X (.Call (.Attribute o m apos) (e::es) [] pos) (yq C m sp ee E ta t):=by
 intro pins s σ H Q I h;refine agz (pl:=pl) (aE (he pins s σ H _ I h) λu s1 zq=>?_) ht;obtain⟨x,H1,I1,rx,a,dx,fs,ex,ea,l,q⟩:=zq;subst ex;obtain rfl:u=abz a:=rx;refine Ei I1 ea c hm l ?_;refine afu (first:=[.ref a]) (h₀:=X.base) I.ok.mod.kin hm.kp (aE (ha pos pins s1 σ H1 _ I1 q) λus s2 ⟨vs,H2,I2,r,q2⟩=>⟨I2.cL,?_⟩) cX eJ;exact yr (us:=.ref a::us) (vs:=.ref a::vs) F hr hb hd hx I2 (.cons rfl r) q2
theorem eK(he:PE X o ta)(c:eI X.K C)(hm:Meth X.K C m f)(F:ff X.prog X.w X.K X.mg X.base CX k f fd ps sp)(hr:cc k X.A)(hb:Binds X.K fd ps ds)(hd:Vals ee ds)(hx:Passes CX X E)(ht:eval (.Call (.Attribute o m apos) [] [] pos) X.env=(do
 let ov <- eval o X.env
 aiS apos.atName
 let (f,first) <- holding [ov] (aia ov m pl)
 callWith pos f first (adh pos (abA [] X.env)) (ah7 pos (af0 [] X.env))):=by rfl) :
 PE X (.Call (.Attribute o m apos) [] [] pos) (yq C m sp ee E ta vo):=by
 intro pins s σ H Q I h;refine agz (pl:=pl) (aE (he pins s σ H _ I h) λu s1 zq=>?_) ht;obtain⟨x,H1,I1,rx,a,dx,fs,ex,ea,l,q⟩:=zq;subst ex;obtain rfl:u=abz a:=rx;refine Ei I1 ea c hm l ?_;exact PySem.W.callWith_K0 (first:=[.ref a]) I1.cL hm.kp (yr (us:=[.ref a]) (vs:=[.ref a]) F hr hb hd hx I1 (.cons rfl .nil) q)
structure Mk(K:aa0)(C f:abd):Prop where
 makes:afc K C=true
 init:abQ K (.ref C) "__init__" = some (some (.ref f))
 fn:agw K (.ref f)=true
 kp:ado K (.ref C)=true
theorem Oc(M:Mk X.K C f)(F:ff X.prog X.w X.K X.mg X.base CX k f fd ps sp)(hr:cc (k+1) X.A)(hb:Binds X.K fd ps ds)(hd:Vals ee ds)(hx:Passes CX X E)(I:Inv X pins σ H s)(r:Vals vs us)(h:∀ x dx,H x=none->H dx=none->dx≠x->sp (.ref x::(vs++ee)) (upd (upd H dx (.own x)) x (.ins C dx [])) (λv H2=>v = .non/\Q (.ref x) H2) E) :
 abm (model X.prog X.w) X.A (call (.ref C) us) (EP X pins σ Q) X.xe s:=by
 have hq:=h (s.heap.objs.size+1) s.heap.objs.size (I.ay.fresh (afd _)) (I.ay.fresh (aba _)) (abk (ad9 _));have I2:=Inv.made (C:=C) I;have r2:Vals (V.ref (s.heap.objs.size+1)::(vs++ee)) (abz (s.heap.objs.size+1)::(us++ds)):=.cons rfl (r.append hd);have hl:(abz (s.heap.objs.size+1)::us++ds).length=ps.length:=by have e:=r2.length;rw[F.len _ _ _ _ hq] at e;exact e.symm
 refine ahD (N0 (f:=f) I.cL M.makes M.init (beq_iff_eq.mp M.fn) (aeM (F.run _ X.stack _ _ ⟨abz (s.heap.objs.size+1)::us,[]⟩ (abz (s.heap.objs.size+1)::(us++ds)) _ _ E (hr.make C us [])
  (I2.Ep.make C us []) (hb _ (abz (s.heap.objs.size+1)::us) I2.cL hl) r2 hq) λr s' rj=>?_))
 cases r with
 | error e=>exact hx pins σ _ _ e s' I2 rj
 | ok fl =>
  cases fl with
  | ret u =>
   obtain⟨v,H',I3,rv,ev,q3⟩:=I2.after rj;subst ev;exact⟨rv,⟨V.ref (s.heap.objs.size+1),H',I3,rfl,q3⟩⟩
  | next=>exact adi rj
  | brk=>exact adi rj
  | cont=>exact adi rj
theorem yt(M:Mk X.K C f)(F:ff X.prog X.w X.K X.mg X.base CX k f fd ps sp)(hr:cc (k+1) X.A)(hg:Gl X x)(hm:X.mg x=some (.ref C))(hb:Binds X.K fd ps ds)(hd:Vals ee ds)(hx:Passes CX X E)(ha:PA X (e::es) t)(gZ:(x == ("__debug__" : Str))=false:=by decide)(he:abA (e::es) X.env=(false,eval e X.env)::abA es X.env:=by rfl)(eJ:(adh pos (abA es X.env)).any (·.1)=false:=by rfl) :
 PE X (.Call (.Name x p) (e::es) [] pos) (Er C sp ee E t):=by
 intro pins s σ H Q I h;refine acs (qW I hg hm ?_ gZ);refine afu (h₀:=X.base) I.ok.mod.kin M.kp (aE (ha pos pins s σ H _ I h) λus s1 ⟨vs,H1,I1,r,q⟩=>⟨I1.cL,?_⟩) he eJ;exact Oc M F hr hb hd hx I1 r q
end
structure rk(N P:List Str)(sc:agP):Prop where
 kind:sc.kind = .function
 co:sc.isCoroutine=false
 gen:sc.isGenerator=false
 nd:N.Nodup
 pre:N.take P.length=P
 par:∀ x∈P,sc.names.lookup x=some .local∨sc.names.lookup x=some .cell
 nofree:∀ y∈sc.names,y.2 ≠ .free
theorem Es{afN:Str->Option agN}{x:Str}:∀ {binds:List (Str × aa9)} {m:Str->Option aa9},(∀ v,(x,v)∉binds)->ajj afN binds m x=m x
 | [],_,_=>rfl
 | (n,v)::r,m,h=>by
  unfold ajj;rw[Es λw hw=>h w (abY _ hw)];split
  .have:x≠n:=by rintro rfl;exact h v adN
   simp[this]
  .rfl
theorem Et{afN:Str->Option agN}{x:Str}:∀ {binds:List (Str × aa9)} {m:Str->Option aa9},(∀ v,(x,v)∉binds)->ajk afN binds m x=m x
 | [],_,_=>rfl
 | (n,v)::r,m,h=>by
  unfold ajk;rw[Et λw hw=>h w (abY _ hw)];split
  .rfl
  .have:x≠n:=by rintro rfl;exact h v adN
   simp[this]
theorem Eu{afN:Str->Option agN}{x:Str}{v:aa9}:∀ {P:List Str} {vs:List aa9} {i:Nat} {m:Str->Option aa9},P.Nodup->P[i]?=some x->vs[i]?=some v->afN x=some .local ->
 ajj afN (P.zip vs) m x=some v
 | [],_,_,_,_,h,_,_=>by simp at h
 | _::_,[],_,_,_,_,h,_=>by simp at h
 | p::P,w::vs,0,m,nd,h1,h2,hk=>by simp at h1 h2;subst h1;subst h2;show ajj afN ((p,w)::P.zip vs) m p=_;unfold ajj;rw[Es λv hv=>(ab7.mp nd).1 (agA hv).1,if_pos hk];simp
 | p::P,w::vs,i+1,m,nd,h1,h2,hk=>by show ajj afN ((p,w)::P.zip vs) m x=_;unfold ajj;exact Eu (i:=i) (ab7.mp nd).2 (by simpa using h1) (by simpa using h2) hk
theorem Ew{afN:Str->Option agN}{x:Str}{v:aa9}:∀ {P:List Str} {vs:List aa9} {i:Nat} {m:Str->Option aa9},P.Nodup->P[i]?=some x->vs[i]?=some v->afN x≠some .local ->
 ajk afN (P.zip vs) m x=some v
 | [],_,_,_,_,h,_,_=>by simp at h
 | _::_,[],_,_,_,_,h,_=>by simp at h
 | p::P,w::vs,0,m,nd,h1,h2,hk=>by simp at h1 h2;subst h1;subst h2;show ajk afN ((p,w)::P.zip vs) m p=_;unfold ajk;rw[Et λv hv=>(ab7.mp nd).1 (agA hv).1,if_neg hk];simp
 | p::P,w::vs,i+1,m,nd,h1,h2,hk=>by show ajk afN ((p,w)::P.zip vs) m x=_;unfold ajk;exact Ew (i:=i) (ab7.mp nd).2 (by simpa using h1) (by simpa using h2) hk
noncomputable def start(N:List Str)(vs:List V):St:=vs.map some++adp (N.length-vs.length) none
noncomputable def fg(CX:gY)(P:ab1)(w:acz)(K:aa0)(mg:Str->Option aa9)(base:adz)(N:List Str)(qual:Str)(scope:agP)(f:abd)(cd:aa9)(A:acP)(outer:List Env)(s:abe)(H:Hp)(E:XK):Cx where
 prog:=P
 w:=w
 K:=K
 mg:=mg
 base:=base
 A:=A.deeper (acS qual scope s.heap.objs.size f cd)
 N:=N
 s₀:=s
 H₀:=H
 env:=acS qual scope s.heap.objs.size f cd
 outer:=outer
 stack:=acS qual scope s.heap.objs.size f cd::outer
 ex:=[]
 calm:=true
 fn:=λ_=>true
 pn:=[]
 xe:=λe s'=>abm (model P w) (A.deeper (acS qual scope s.heap.objs.size f cd)) (leaving (acS qual scope s.heap.objs.size f cd) e) (λ_ kQ=>CX outer H s E e kQ) (λe' kQ=>CX outer H s E e' kQ) s'
theorem Ex{sc:agP}{n:Nat}{x:Str}(h:sc.names.lookup x=some .cell):∃ c,(cellsFrom n sc.names []).lookup x=some c:=by have q:=agk sc.names n [] (.inl h);exact aeg.mp q
theorem Od{CX:gY}{P:ab1}{w:acz}{K:aa0}{mg:Str->Option aa9}{base:adz}{N ps:List Str}{qual:Str}{scope:agP}{f:abd}{cd:aa9}{A:acP}{outer:List Env}{s s1:abe}{H:Hp}{E:XK}{us:List aa9}{vs:List V}
 (S:rk N ps scope) (hd:A.handled=none) (e0:ny P w K mg base A outer s H) (hl:vs.length=ps.length) (r:Vals vs us)
 (x:InCallC s s.heap.objs.size (ajj (acS qual scope s.heap.objs.size f cd).kindOf (ps.zip us) λ_=>none) (cellsFrom (s.heap.objs.size+1) scope.names []) (ajk (acS qual scope s.heap.objs.size f cd).kindOf (ps.zip us) λ_=>none) s1) :
 Inv (fg CX P w K mg base N qual scope f cd A outer s H E) [] (start N vs) H s1:=by
 have eJ:ps.length<=N.length:=by have:=congrArg List.length S.pre;rw[adG] at this;omega
 obtain⟨h1,tk,rfl,hk⟩:=x.done;have g9:∀ b:abd,b∉(fg CX P w K mg base N qual scope f cd A outer s H E).ex:=λb z=>absurd (show b∈([]:List abd) from z) (by simp);refine⟨⟨e0.mod,S.kind,rfl,rfl,aba _,λy z c h1 h2=>?_,λy hy=>?_,λy c _ h=>?_,λ_=>hd,Around.frames_deeper e0.frames,.inr ⟨rfl,rfl⟩,λb z=>absurd z (g9 b),e0.bs,e0.bsz,λb _ _=>g9 b,λb z=>absurd z (g9 b),e0.fV,e0.frf⟩,
  rfl,e0.bare,Un.kept hk,⟨_,x.toInCall.ns,λi y v h1 h2 h3=>?_⟩,λy c h=>⟨_,x.cell y c h⟩,e0.ay.fresh (aba _),λy c h=>?_,λp hp=>absurd (show p∈([]:List (abd × Obj)) from hp) (by simp),e0.ay.kept hk,?_⟩
 .exact name_of_addr x.apart (ac3 h1) (ac3 h2)
 .have hy:scope.names.lookup y=some .cell∨scope.names.lookup y=some .free:=hy;rcases hy with hy|hy
  .exact Ex hy
  .exact absurd rfl (S.nofree _ (ac3 hy))
 .exact aeL (x.above y c (ac3 h))
 .have hi:i<vs.length:=by
   unfold start at h2;by_cases hi:i<vs.length
   .exact hi
   .rw[acg (by simpa using hi)] at h2;rw[adC] at h2;split at h2<;>cases h2
  have ha:vs[i]?=some v:=by
   unfold start at h2;rw[ab0 (by simpa using hi),abh] at h2;cases e:vs[i]? with
   | none=>rw[e] at h2;cases h2
   | some a=>rw[e] at h2;cases h2;rfl
  obtain⟨u,hu,rv⟩:=r.get ha;have hp:ps[i]?=some y:=by rw[<- S.pre,List.getElem?_take_of_lt (by omega)];exact h1
  have Ey:ps.Nodup:=by rw[<- S.pre];exact S.nd.sublist (List.take_sublist _ _)
  refine⟨u,rv,?_⟩;rcases S.par y (abi hp) with k|k
  .exact .inl ⟨k,Eu Ey hp hu k⟩
  .obtain⟨c,e⟩:=Ex (n:=s.heap.objs.size+1) k;refine .inr ⟨.inl k,c,e,?_⟩;have q:=x.cell y c e;rw[Ew Ey hp hu (by show scope.names.lookup y≠_;rw[k];decide)] at q;exact q
 .exact e0.ay.fresh (aeL (x.above y c (ac3 h)))
 .unfold start;show _=N.length;rw[abf,aa2,aeN];omega
theorem Ez{CX:gY}{P:ab1}{w:acz}{K:aa0}{mg:Str->Option aa9}{base:adz}{k:Nat}{f:abd}{name qual:Str}{params:Arguments}{body:List acM}{scope:agP}{dV kV doc pm a7 ct oc:aa9}{an od:Option abd}
 {jY:Array (Option aa9)} {N ps:List Str} {sp:Sp} (lk:K.lookup f=some ⟨oc,od,.func (adQ name qual params body scope dV kV doc pm an a7 ct),jY⟩) (fW:afC K a7 qual=true) (S:rk N ps scope)
 (len:∀ vs H Q E,sp vs H Q E->vs.length=ps.length)
 (hJ:∀ (A:acP) (outer:List Env) (s:abe) (H:Hp) (vs:List V) (Q:VK) (E:XK),cc k (A.deeper (acS qual scope s.heap.objs.size f a7))->sp vs H Q E ->
   ∃ t,aR (fg CX P w K mg base N qual scope f a7 A outer s H E) body t/\t { nx:=λ_ H'=>Q .non H',rt:=Q } (start N vs) H) :
 ff P w K mg base CX (k+1) f (adQ name qual params body scope dV kV doc pm an a7 ct) ps sp:=by
 refine⟨len,λA outer s H args us vs Q E hr e0 hb r iD=>?_⟩;have hl:=len _ _ _ _ iD;have KX:K.In s.heap:=e0.mod.kin.keeps λb o e=>(e0.bs b o e).1;have lim:s.heap.NoLimit:=e0.mod.nolimit.keeps λb o e=>(e0.bs b o e).1;have Oe:∀ y∈ps.zip us,scope.names.lookup y.1=some .local∨(scope.names.lookup y.1=some .cell/\((cellsFrom (s.heap.objs.size+1) scope.names []).lookup y.1).isSome=true):=λ⟨n,v⟩ hy=>by
  rcases S.par n (agA hy).1 with q|q
  .exact .inl q
  .exact .inr ⟨q,agk _ _ _ (.inl q)⟩
 refine codeAny_call_function hr.depth (KX _ _ lk) rfl S.co S.gen rfl (PySem.W.codeRec_of KX fW) (hb _ _ _ _ ?_);refine wpAny_newFunctionEnv_cells S.kind Oe λenv he s1 x=>?_;subst he;refine⟨lim.keeps x.toInCall.keep,codeAny_func ?_⟩;obtain⟨t,ht,hq⟩:=hJ A outer s H vs Q E (hr.deeper _) iD;have I:Inv (fg CX P w K mg base N qual scope f a7 A outer s H E) [] (start N vs) H s1:=Od S hr.hd e0 hl r x;refine aci (ht [] s1 (start N vs) H _ I hq) (λfl s' hs=>?_) λe s' hs=>hs;have fin:∀ {σ':St} {H':Hp} {v:V} {u:aa9},Inv (fg CX P w K mg base N qual scope f a7 A outer s H E) [] σ' H' s'->RelV v u->Q v H'->CE outer P w H s Q u s' :=
  λ{σ' H' v u} J rv q=>⟨v,H',J.os,J.bare,J.base,J.ay,rv,q⟩
 cases fl with
 | ret u =>
  obtain⟨v,σ',H',J,rv,q⟩:=hs;exact fin J rv q
 | next =>
  obtain⟨σ',H',J,q⟩:=hs;exact fin (v:=V.non) (u:=Value.none) J rfl q
 | brk =>
  obtain⟨_,_,_,q⟩:=hs;exact adi q
 | cont =>
  obtain⟨_,_,_,q⟩:=hs;exact adi q
section
variable{X:Cx}{x:Str}{p pos:Pos}{e:aeV}{es:List aeV}{t:TA}{id T:String}{r:List V->Hp->VK->Prop}
def yu(r:List V->Hp->VK->Prop)(t:TA):TE:=λσ H Q=>t σ H λvs H1=>r vs H1 Q
theorem aV(hc:fJ X (.builtin id) r)(hg:Gl X x)(hm:X.mg x=none)(hv:abP x=some (.builtin id))(ha:PA X (e::es) t)(hn:x ≠ "__name__" := by decide)(gZ:(x == ("__debug__" : Str))=false:=by decide)(he:abA (e::es) X.env=(false,eval e X.env)::abA es X.env:=by rfl)(eJ:(adh pos (abA es X.env)).any (·.1)=false:=by rfl):PE X (.Call (.Name x p) (e::es) [] pos) (yu r t):=by intro pins s σ H Q I h;refine acs (fI I hg hm hv ?_ hn gZ);exact adA (aE (ha pos pins s σ H _ I h) λus s1 ⟨vs,H1,I1,r1,q1⟩=>hc pins s1 σ H1 vs us Q I1 r1 q1) he eJ
theorem oU(hc:fJ X (.type T) r)(hg:Gl X x)(hm:X.mg x=none)(hv:abP x=some (.type T))(ha:PA X (e::es) t)(hn:x ≠ "__name__" := by decide)(gZ:(x == ("__debug__" : Str))=false:=by decide)(he:abA (e::es) X.env=(false,eval e X.env)::abA es X.env:=by rfl)(eJ:(adh pos (abA es X.env)).any (·.1)=false:=by rfl):PE X (.Call (.Name x p) (e::es) [] pos) (yu r t):=by intro pins s σ H Q I h;refine acs (fI I hg hm hv ?_ hn gZ);exact abI (aE (ha pos pins s σ H _ I h) λus s1 ⟨vs,H1,I1,r1,q1⟩=>hc pins s1 σ H1 vs us Q I1 r1 q1) he eJ
end
end L2
namespace HT
open PySem PyProof.Rows
noncomputable def lexLt:List Int->List Int->Bool
 | [],[]=>false
 | [],_::_=>true
 | _::_,[]=>false
 | x::xs,y::ys=>if x=y then lexLt xs ys else decide (x<y)
theorem oV(x y:Int)(xs ys:List Int):lexLt (x::xs) (y::ys)=if x=y then lexLt xs ys else decide (x<y):=rfl
section
open PySem.SeqAt
open PySem.AutoSeq1 (wpAny_loadPart')
open PySem.MeetsSeq PySem.MeetsSeq2 PySem.MeetsSeq3
end
section
noncomputable def fh(n d:Nat):Option Int->Nat
 | none=>d
 | some v=>if v<0 then (v+(n:Int)).toNat else min v.toNat n
theorem EA(n d:Nat):fh n d none=d:=rfl
theorem EB(n d k:Nat):fh n d (some (k:Int))=min k n:=by show (if (k:Int)<0 then ((k:Int)+(n:Int)).toNat else min (k:Int).toNat n)=min k n;rw[if_neg (by omega),abU]
end
end HT
namespace L2
open PySem PySem.Spec PyProof.Rows
abbrev TO:=St->Hp->(Option Int->Hp->Prop)->Prop
def PO(X:Cx)(e:Option aeV)(t:TO):Prop :=
 ∀ (pins:List (abd × Obj)) (s:abe) (σ:St) (H:Hp) (Q:Option Int->Hp->Prop),Inv X pins σ H s->t σ H Q ->
  abm (model X.prog X.w) X.A (evalPart e X.env) (λu s'=>∃ o H',Inv X pins σ H' s'/\IsPart u o/\Q o H') X.xe s
noncomputable def EC:TO:=λ_ H Q=>Q none H
noncomputable def ED(t:TE):TO:=λσ H Q=>t σ H λx H1=>∃ i,x = .int i/\Q (some i) H1
theorem intsAre_of:∀ {us:List aa9},Vals (ns.map V.int) us->af1 us ns:=by
 induction ns with
 | nil=>intro us r;rw[adB] at r;cases r;exact .nil
 | cons n ns ih =>
  intro us r;rw[abj] at r;cases r with
  | cons r1 r2 =>
   obtain⟨t,e⟩:=r1;subst e;exact .cons n t (ih r2)
section
variable{X:Cx}{e:aeV}{te:TE}{lo hi:Option aeV}{tl th:TO}{pos p2:Pos}
theorem EE:PO X none EC:=by intro pins s σ H Q I h;rw[ahi];exact aa4 ⟨none,H,I,.none,h⟩
theorem EF(h:PE X e te):PO X (some e) (ED te):=by intro pins s σ H Q I hw;rw[evalPart_some];refine aE (h pins s σ H _ I hw) λu s1 zq=>?_;obtain⟨x,H1,I1,r1,q1⟩:=zq;obtain⟨i,rfl,q⟩:=q1;obtain⟨t,rfl⟩:=r1;exact⟨some i,H1,I1,.int i t,q⟩
def EG(X:Cx)(r:V->Option Int->Option Int->Hp->VK->Prop):Prop :=
 ∀ (pins:List (abd × Obj)) (s:abe) (σ:St) (H:Hp) (x:V) (v vl vu:aa9) (lo hi:Option Int) (sl:abd) (Q:VK),Inv X pins σ H s->RelV x v->s.heap.IsSliceOf sl vl vu .none->IsPart vl lo->IsPart vu hi->r x lo hi H Q ->
  ∃ T id,agO (.type T) "__getitem__" = pure (some (.builtin id))/\s.TypeIs v T/\abm (model X.prog X.w) X.A (aic v (.ref sl)) (EP X pins σ Q) X.xe s
def EH(r:V->Option Int->Option Int->Hp->VK->Prop)(te:TE)(tl th:TO):TE:=λσ H Q=>te σ H λx H1=>tl σ H1 λl H2=>th σ H2 λu H3=>r x l u H3 Q
theorem EI{r:V->Option Int->Option Int->Hp->VK->Prop}(hr:EG X r)(he:PE X e te)(hl:PO X lo tl)(hu:PO X hi th):PE X (.Subscript e (.Slice lo hi none p2) pos) (EH r te tl th):=by intro pins s σ H Q I h;refine ahE (aE (he pins s σ H _ I h) λv s1 zq=>?_);obtain⟨x,H1,I1,r1,q1⟩:=zq;refine wpAny_Slice (aE (hl pins s1 σ H1 _ I1 q1) λvl s2 ⟨l,H2,I2,pl,q2⟩=>aE (hu pins s2 σ H2 _ I2 q2) λvu s3 zq=>?_);obtain⟨u,H3,I3,pu,q3⟩:=zq;rw[ahi];refine aa4 ?_;have I4:Inv X pins σ H3 { s3 with heap:=s3.heap.push { cls:=.type "slice",data:=.fields #[vl,vu,.none] } }:=I3.kept (t':=s3.toks) λb ob q=>aa5 _ q;obtain⟨T,id,hT,ht,hg⟩:=hr pins { s3 with heap:=s3.heap.push { cls:=.type "slice",data:=.fields #[vl,vu,.none] } } σ H3 x v vl vu l u s3.heap.objs.size Q I4 r1 (Heap.IsSliceOf.new ..) pl pu q3;show abm (model X.prog X.w) X.A (af2 e (.Slice lo hi none p2) v (.ref s3.heap.objs.size)) (EP X pins σ Q) X.xe { s3 with heap:=s3.heap.push { cls:=.type "slice",data:=.fields #[vl,vu,.none] } };exact tail_any (ops:=[.ref s3.heap.objs.size,v]) ht hT hg (by with_unfolding_all rfl)
noncomputable def jZ(xs:List V)(lo hi:Option Int):List V:=(xs.drop (HT.fh xs.length 0 lo)).take (HT.fh xs.length xs.length hi-HT.fh xs.length 0 lo)
theorem Of(xs:List V)(lo hi:Option Int):(jZ xs lo hi).length<=xs.length:=by unfold jZ;rw[adG,agd];omega
end
noncomputable def i8(n:Nat)(i:Int):Option Nat:=if 0<=i then (if i<n then some i.toNat else none) else if -(n:Int)<=i then some (i+n).toNat else none
noncomputable def dm{α:Type}(xs:List α)(i:Int):Option α:=(i8 xs.length i).bind λj=>xs[j]?
theorem EJ(h:i8 n i=some j):seqIndex? i n=some j/\j<n/\-(n:Int)<=i/\i<n:=by
 unfold i8 at h;by_cases h0:0<=i
 .rw[if_pos h0] at h;by_cases h1:i<n
  .rw[if_pos h1] at h;have e:i.toNat=j:=Option.some.inj h;exact⟨by rw[aid h0 h1,e],by omega,by omega,h1⟩
  .rw[if_neg h1] at h;cases h
 .rw[if_neg h0] at h;by_cases h1 : -(n:Int)<=i
  .rw[if_pos h1] at h;have e:(i+n).toNat=j:=Option.some.inj h;exact⟨by rw[ahT (by omega) h1,e],by omega,h1,by omega⟩
  .rw[if_neg h1] at h;cases h
theorem yw(h:dm xs i=some v):∃ j,seqIndex? i xs.length=some j/\xs[j]?=some v/\j<xs.length/\-(xs.length:Int)<=i/\i<xs.length:=by
 unfold dm at h;cases e:i8 xs.length i with
 | none=>rw[e] at h;cases h
 | some j =>
  rw[e] at h;obtain⟨h1,h2,h3,h4⟩:=EJ e;exact⟨j,h1,h,h2,h3,h4⟩
theorem eL{α:Type}{xs:List α}{j:Nat}{v:α}(h:xs[j]?=some v):dm xs (j:Int)=some v:=by
 have hj:j<xs.length:=(aa7.mp h).1;have e:i8 xs.length (j:Int)=some j:=by unfold i8;rw[if_pos (by omega),if_pos (by omega)];simp
 unfold dm;rw[e];exact h
theorem yx(xs:List α)(v:α):dm (xs++[v]) (-1)=some v:=by
 have hl:(xs++[v]).length=xs.length+1:=by simp
 have e:i8 (xs++[v]).length (-1)=some xs.length:=by
  unfold i8;rw[hl,if_neg (by decide),if_pos (by omega)]
  congr 1
  omega
 unfold dm;rw[e];show (xs++[v])[xs.length]?=some v;simp
def yy(b:aeV):Prop:=∀ o i,subscripted b false o i=operate [o,i] (aic o i)
def j4(X:Cx)(r:R2):Prop :=
 ∀ (value slice:aeV) (pins:List (abd × Obj)) (s:abe) (σ:St) (H:Hp) (x y:V) (v u:aa9) (Q:VK),Inv X pins σ H s->RelV x v->RelV y u->r x y H Q ->
  subscripted slice false v u=operate [v,u] (aic v u)->abm (model X.prog X.w) X.A (af2 value slice v u) (EP X pins σ Q) X.xe s
def EK(X:Cx)(id:String)(r:V->List V->Hp->VK->Prop):Prop :=
 ∀ (pins:List (abd × Obj)) (s:abe) (σ:St) (H:Hp) (x:V) (xs:List V) (v:aa9) (us:List aa9) (Q:VK),Inv X pins σ H s->RelV x v->Vals xs us->r x xs H Q ->
  abm (model X.prog X.w) X.A (call (.builtin id) (v::us)) (EP X pins σ Q) X.xe s
section
variable{X:Cx}{a b:aeV}{ta tb:TE}{pos:Pos}
theorem j4.or(h:j4 X r)(h':j4 X r'):j4 X (λx y H Q=>r x y H Q∨r' x y H Q):=by
 intro value slice pins s σ H x y v u Q I rx ry q hs;rcases q with q|q
 .exact h value slice pins s σ H x y v u Q I rx ry q hs
 .exact h' value slice pins s σ H x y v u Q I rx ry q hs
theorem bD(hr:j4 X r)(ha:PE X a ta)(hb:PE X b tb)(hs:yy b):PE X (.Subscript a b pos) (nu r ta tb):=by intro pins s σ H Q I h;exact ahE (yf ha hb I h λv u s2 x y H2 I2 rx ry q=>hr a b pins s2 σ H2 x y v u Q I2 rx ry q (hs _ _))
def EL(K:aa0):R2:=λx y H Q=>∃ p xs i v,x = .ref p/\y = .int i/\ai K H p xs/\dm xs i=some v/\Q v H
def EM(K:aa0):R2:=λx y H Q=>∃ p xs i v,x = .ref p/\y = .int i/\ah K H p xs/\dm xs i=some v/\Q v H
def EN:R2:=λx y H Q=>∃ z i c,x = .str z/\y = .int i/\z.length<=abu/\dm z.cps.toList i=some c/\Q (.str ⟨#[c]⟩) H
theorem Og:j4 X (EL X.K):=by
 intro value slice pins s σ H x y v u Q I rx ry h hs;obtain⟨p,xs,i,z,rfl,rfl,hq,he,q⟩:=h;cases rx;obtain⟨t,rfl⟩:=ry;obtain⟨ar,r,pl,hz⟩:=I.list hq;obtain⟨j,h1,h2,h3,h4,h5⟩:=yw he;obtain⟨w,ew,i9⟩:=r.get h2;have hl:=r.length;have hn:=rh;have fin:EP X pins σ Q w s:=⟨z,H,I,i9,q⟩
 by_cases h0:0<=i
 .have hj:i.toNat=j:=by rw[aid h0 h5] at h1;exact Option.some.inj h1
  exact item_listR pl.isList h0 (by omega) (by rw[hj];simpa using ew) fin hs
 .have hj:(i+(ar.toArray.size:Int)).toNat=j:=by rw[ahT (by omega) h4] at h1;rw[abg,<- hl];exact Option.some.inj h1
  exact agl (x:=w) pl.isList.typeIs slot_list_getitem.lookup
   (wpAny_getItem_list_neg (Q:=λr s'=>r=w/\EP X pins σ Q r s') pl.isList (by omega) (by rw[abg]<;>omega) (by omega) (by rw[hj];simpa using ew) ⟨rfl,fin⟩) hs
theorem Oh:j4 X (EM X.K):=by
 intro value slice pins s σ H x y v u Q I rx ry h hs;obtain⟨p,xs,i,z,rfl,rfl,hq,he,q⟩:=h;cases rx;obtain⟨t,rfl⟩:=ry;obtain⟨ar,r,pl,hz⟩:=I.tuple hq;obtain⟨j,h1,h2,h3,h4,h5⟩:=yw he;obtain⟨w,ew,i9⟩:=r.get h2;have hl:=r.length;have hn:=rh;have fin:EP X pins σ Q w s:=⟨z,H,I,i9,q⟩
 exact agl (x:=w) pl.typeIs slot_tuple_getitem.lookup
  (getItem_tuple (j:=j) (Q:=λr s'=>r=w/\EP X pins σ Q r s') pl (by omega) (by omega) (by rw[abg,<- hl];exact h1) (by simpa using ew) ⟨rfl,fin⟩) hs
theorem Oi:j4 X EN:=by
 intro value slice pins s σ H x y v u Q I rx ry h hs;obtain⟨z,i,c,rfl,rfl,hz,he,q⟩:=h;obtain⟨t,rfl⟩:=rx;obtain⟨t',rfl⟩:=ry;obtain⟨j,h1,h2,h3,h4,h5⟩:=yw he;have hl:z.cps.toList.length=z.length:=by simp[Str.length]
 rw[hl] at h1 h4 h5;have hn:=rh;exact tail_any (typeIs_str s z t) slot_str_getitem.lookup (getItem_str (c:=c) (by
  have e1:decide (i < -(2 ^ 63:Int))=false:=decide_eq_false (by omega);have e2:decide (i ≥ 2 ^ 63)=false:=decide_eq_false (by omega);rw[e1,e2,Bool.or_false]) (by rw[h1];simpa using h2) ⟨.str ⟨#[c]⟩,H,I.tok _,⟨_,rfl⟩,q⟩) hs
def kR(K:aa0):R2:=λx y H Q=>EL K x y H Q∨EM K x y H Q∨EN x y H Q
theorem bE:j4 X (kR X.K):=Og.or (Oh.or Oi)
theorem Oj(ar:List aa9)(n j:Nat)(u:aa9):acq (·.setIfInBounds j u) { cls:=.type "list",data:=.seq ar.toArray n } = { cls:=.type "list",data:=.seq (ar.set j u).toArray n }:=by simp[acq]
theorem Inv.lst(I:Inv X pins σ H s)(h:H p=some (.lst xs)) :
 ∃ (ar:List aa9) (n:Nat),Vals xs ar/\s.heap.get? p=some { cls:=.type "list",data:=.seq ar.toArray n }/\xs.length<=abu:=by
 obtain⟨z,ar,n,r,e⟩:=I.ay p _ h;exact⟨ar,n,r,e,z⟩
theorem Inv.Ol{pins:List (abd × Obj)}{σ:St}{H:Hp}{s:abe}{p:abd}{xs ys:List V}{ar its':List aa9}{n n':Nat}{f:Obj->Obj}(I:Inv X pins σ H s)(h:H p=some (.lst xs))
 (ho:s.heap.get? p=some { cls:=.type "list",data:=.seq ar.toArray n }) (hf:f { cls:=.type "list",data:=.seq ar.toArray n } = { cls:=.type "list",data:=.seq its'.toArray n' }) (r:Vals ys its') (hz:ys.length<=abu) (t:Nat) :
 Inv X pins σ (upd H p (.lst ys)) { s with heap:=s.heap.update p f,toks:=t }:=by
 have e:(s.heap.update p f).get? p=some { cls:=.type "list",data:=.seq its'.toArray n' }:=by rw[abL f ho (by rw[hf]<;>rfl),hf]
 refine I.write (x:=p) (e:=p) (by rw[h];trivial) (.inl rfl) (λb u hb q=>(abq _ _ (ab4 hb)).trans q) ⟨_,e⟩ ?_;exact⟨hz,its',n',r,e⟩
def EO:V->V->V->Hp->(Hp->Prop)->Prop:=λo i v H Q=>∃ p xs k j,o = .ref p/\i = .int k/\H p=some (.lst xs)/\i8 xs.length k=some j/\Q (upd H p (.lst (xs.set j v)))
theorem set_list:D3 X EO:=by
 intro pins s σ H o i v ov iv u Q I ro ri rv h;obtain⟨p,xs,k,j,rfl,rfl,hp,hj,q⟩:=h;cases ro;obtain⟨t,rfl⟩:=ri;obtain⟨ar,n,r,ho,hz⟩:=I.lst hp;obtain⟨h1,h2,h3,h4⟩:=EJ hj;have hl:=r.length;have hn:=rh;have I':Inv X pins σ (upd H p (.lst (xs.set j v))) { s with heap:=s.heap.update p (acq (·.setIfInBounds j u)) } :=
  I.Ol hp ho (Oj ar n j u) (r.set rv j) (by rw[agB];exact hz) s.toks
 by_cases h0:0<=k
 .have hk:k.toNat=j:=by rw[aid h0 h4] at h1;exact Option.some.inj h1
  exact PySem.W.ki_setAt ho h0 (by omega) (by rw[abg,<- hl];exact h4) (by rw[hk];exact⟨_,I',q⟩)
 .have hk:(k+(ar.toArray.size:Int)).toNat=j:=by rw[ahT (by omega) h3] at h1;rw[abg,<- hl];exact Option.some.inj h1
  exact PySem.W.ki_setBack ho (by omega) (by rw[abg,<- hl];exact h3) (by omega) (by rw[hk];exact⟨_,I',q⟩)
theorem Oo(lo hi:Option Int)(n:Nat):(aed lo hi none n).1=((HT.fh n 0 lo:Nat):Int)/\(aed lo hi none n).2.1=((HT.fh n n hi:Nat):Int)/\(aed lo hi none n).2.2=1:=by
 refine⟨?_,?_,rfl⟩
 .cases lo with
  | none=>simp[aed,HT.fh]
  | some i =>
   simp only[aed,HT.fh,Option.getD_none,show (1:Int) > 0 by decide,if_true];by_cases h:i<0
   .simp only[h,if_true]<;>omega
   .simp only[h,if_false]<;>omega
 .cases hi with
  | none=>simp[aed,HT.fh]
  | some i =>
   simp only[aed,HT.fh,Option.getD_none,show (1:Int) > 0 by decide,if_true];by_cases h:i<0
   .simp only[h,if_true]<;>omega
   .simp only[h,if_false]<;>omega
theorem Oq(ar:List aa9)(lo hi:Option Int):aie ar.toArray lo hi none=((ar.drop (HT.fh ar.length 0 lo)).take (HT.fh ar.length ar.length hi-HT.fh ar.length 0 lo)).toArray:=by obtain⟨h1,h2,h3⟩:=Oo lo hi ar.toArray.size;unfold aie;rw[h1,h2,h3];simp only[sliceRange_one,pick_run,abg]<;>rfl
def ER(K:aa0):V->Option Int->Option Int->Hp->VK->Prop:=λx lo hi H Q=>∃ a xs,x = .ref a/\ai K H a xs/\∀ p,H p=none->Q (.ref p) (upd H p (.lst (jZ xs lo hi)))
theorem ES:EG X (ER X.K):=by intro pins s σ H x v vl vu lo hi sl Q I rx hs pl pu h;obtain⟨a,xs,rfl,hx,q⟩:=h;cases rx;obtain⟨ar,r,ht,hz⟩:=I.list hx;have hlen:=r.length;refine⟨"list",_,slot_list_getitem.lookup,ht.isList.typeIs,?_⟩;refine afO ht.isList hs pl pu .none (by simp) ?_ (by rw[abg]<;>omega);rw[Oq,<- hlen];refine⟨.ref s.heap.objs.size,_,I.laid (t':=s.toks) (o:=.lst (jZ xs lo hi)) (λb ob q=>aa5 _ q) (aba _) ?_,rfl,q _ (I.ay.fresh (aba _))⟩;exact⟨abb (Of xs lo hi) hz,_,0,(r.drop (HT.fh xs.length 0 lo)).take (HT.fh xs.length xs.length hi-HT.fh xs.length 0 lo),abc _ rfl⟩
noncomputable def kS:V->Bool
 | .non=>true
 | .bl _=>true
 | .int _=>true
 | .str _=>true
 | _=>false
noncomputable def mf:V->V->Bool
 | .non,.non=>true
 | .bl a,.bl b=>a == b
 | .bl a,.int b=>(if a then 1 else 0) == b
 | .int a,.bl b=>a == (if b then 1 else 0)
 | .int a,.int b=>a == b
 | .str a,.str b=>a == b
 | _,_=>false
theorem Ot(ry:RelV y u)(rx:RelV x v)(fy:kS y=true)(fx:kS x=true):SeqAt.EqAt A s u v (mf y x):=by
 cases y with
 | non =>
  cases ry;cases x with
  | non=>cases rx;exact SeqAt.EqAt.same _
  | bl b=>cases rx;exact SeqAt.EqAt.none_bool b
  | int b=>obtain⟨t,rfl⟩:=rx;exact SeqAt.EqAt.none_int b t
  | str b=>obtain⟨t,rfl⟩:=rx;exact SeqAt.EqAt.none_str b t
  | _=>exact absurd (show false=true from fx) abo
 | bl a =>
  cases ry;cases x with
  | non=>cases rx;exact SeqAt.EqAt.bool_none a
  | bl b=>cases rx;exact SeqAt.EqAt.bool_bool a b
  | int b=>obtain⟨t,rfl⟩:=rx;exact SeqAt.EqAt.bool_int a b t
  | str b=>obtain⟨t,rfl⟩:=rx;exact SeqAt.EqAt.bool_str a b t
  | _=>exact absurd (show false=true from fx) abo
 | int a =>
  obtain⟨t',rfl⟩:=ry;cases x with
  | non=>cases rx;exact SeqAt.EqAt.int_none a t'
  | bl b=>cases rx;exact SeqAt.EqAt.int_bool a t' b
  | int b=>obtain⟨t,rfl⟩:=rx;exact SeqAt.EqAt.int_int a t' b t
  | str b=>obtain⟨t,rfl⟩:=rx;exact SeqAt.EqAt.int_str a t' b t
  | _=>exact absurd (show false=true from fx) abo
 | str a =>
  obtain⟨t',rfl⟩:=ry;cases x with
  | non=>cases rx;exact SeqAt.EqAt.str_none a t'
  | bl b=>cases rx;exact SeqAt.EqAt.str_bool a t' b
  | int b=>obtain⟨t,rfl⟩:=rx;exact SeqAt.EqAt.str_int a t' b t
  | str b=>obtain⟨t,rfl⟩:=rx;exact SeqAt.EqAt.str_str a t' b t
  | _=>exact absurd (show false=true from fx) abo
 | _=>exact absurd (show false=true from fy) abo
noncomputable def fZ(x:V)(u:aa9):Bool:=match u with
 | .none=>mf .non x
 | .bool b=>mf (.bl b) x
 | .int i _=>mf (.int i) x
 | .str z _=>mf (.str z) x
 | _=>false
theorem ET(r:RelV y u)(f:kS y=true):fZ x u=mf y x:=by
 cases y with
 | non=>cases r;rfl
 | bl b=>cases r;rfl
 | int i=>obtain⟨t,rfl⟩:=r;rfl
 | str z=>obtain⟨t,rfl⟩:=r;rfl
 | _=>exact absurd (show false=true from f) abo
theorem rm:∀ {xs:List V} {us:List aa9},Vals xs us->xs.all kS=true->us.any (fZ x)=xs.any λy=>mf y x
 | _,_,.nil,_=>rfl
 | y::xs,u::us,.cons r t,f=>by rw[aiT,acL] at f;rw[acw,acw,ET r f.1,rm t f.2]
theorem rn(rx:RelV x v)(fx:kS x=true):∀ {xs:List V} {us:List aa9},Vals xs us->xs.all kS=true->∀ u∈us,SeqAt.EqAt A s u v (fZ x u)
 | _,_,.nil,_=>λu hu=>by cases hu
 | y::xs,u::us,.cons r t,f=>λu' hu=>by
  rw[aiT,acL] at f;rcases abl.mp hu with rfl|hu
  .rw[ET r f.1];exact Ot r rx f.1 fx
  .exact rn rx fx t f.2 u' hu
noncomputable def rq(x:V)(xs:List V):Bool:=xs.any λy=>mf y x
def yz(K:aa0)(neg:Bool):R2:=λx y H Q=>∃ p xs,y = .ref p/\(ai K H p xs∨ah K H p xs)/\kS x=true/\xs.all kS=true/\Q (.bl (if neg then !rq x xs else rq x xs)) H
theorem Ou:br X (acm .In) (yz X.K false):=by
 intro pins s σ H x y v u Q I rx ry h;obtain⟨p,xs,rfl,hq,fx,fs,q⟩:=h;cases ry;rcases hq with hq|hq
 .obtain⟨ar,r,pl,hz⟩:=I.list hq;refine SeqAt.in_listAt (fZ x) pl.isList (λw hw=>rn rx fx r fs w (by simpa using hw)) ⟨.bl _,H,I,rfl,?_⟩;rw[show ar.toArray.any (fZ x)=ar.any (fZ x) by simp,rm r fs];exact q
 .obtain⟨ar,r,pl,hz⟩:=I.tuple hq;refine SeqAt.in_tupleAt (fZ x) pl (λw hw=>rn rx fx r fs w (by simpa using hw)) ⟨.bl _,H,I,rfl,?_⟩;rw[show ar.toArray.any (fZ x)=ar.any (fZ x) by simp,rm r fs];exact q
theorem EU:br X (acm .NotIn) (yz X.K true):=by
 intro pins s σ H x y v u Q I rx ry h;obtain⟨p,xs,rfl,hq,fx,fs,q⟩:=h;cases ry;rcases hq with hq|hq
 .obtain⟨ar,r,pl,hz⟩:=I.list hq;refine SeqAt.notIn_listAt (fZ x) pl.isList (λw hw=>rn rx fx r fs w (by simpa using hw)) ⟨.bl _,H,I,rfl,?_⟩;rw[show ar.toArray.any (fZ x)=ar.any (fZ x) by simp,rm r fs];exact q
 .obtain⟨ar,r,pl,hz⟩:=I.tuple hq;refine SeqAt.notIn_tupleAt (fZ x) pl (λw hw=>rn rx fx r fs w (by simpa using hw)) ⟨.bl _,H,I,rfl,?_⟩;rw[show ar.toArray.any (fZ x)=ar.any (fZ x) by simp,rm r fs];exact q
theorem EV:fJ X (.type "list") (λxs H Q=>∃ p ys,xs=[.ref p]/\(ai X.K H p ys∨ah X.K H p ys)/\∀ l,H l=none->Q (.ref l) (upd H l (.lst ys))):=by
 intro pins s σ H xs us Q I r h;obtain⟨p,ys,rfl,hq,q⟩:=h;obtain⟨u,rfl,rx⟩:=vals1 r;cases rx;have fin:∀ (ar:List aa9),Vals ys ar->ys.length<=abu->∀ (h':adz) (c':Nat),(∀ b o',s.heap.get? b=some o'->h'.get? b=some o') ->
  h'.get? s.heap.objs.size=some { cls:=.type "list",dict:=none,data:=.seq ar.toArray c',slots:=#[] }->EP X pins σ Q (.ref s.heap.objs.size) { s with heap:=h' }:=λar r' hz h' c' kp e =>
  ⟨.ref s.heap.objs.size,_,I.laid (t':=s.toks) kp (aba _) (show bN X.prog X.w _ h' _ (.lst ys) from ⟨hz,ar,c',r',e⟩),rfl,q _ (I.ay.fresh (aba _))⟩
 rcases hq with hq|hq
 .obtain⟨ar,r',pl,hz⟩:=I.list hq;have hlen:=r'.length;obtain⟨o,ho,hc,n,hd⟩:=pl.isList;exact call_list_seq p (.inl rfl) ho hc hd (λh' c' kp e=>fin ar r' hz h' c' kp e) (by simp only[abg]<;>omega)
 .obtain⟨ar,r',pl,hz⟩:=I.tuple hq;have hlen:=r'.length;obtain⟨o,ho,hc,n,hd⟩:=pl;exact call_list_seq p (.inr rfl) ho hc hd (λh' c' kp e=>fin ar r' hz h' c' kp e) (by simp only[abg]<;>omega)
def yA(K:aa0)(T:String)(x:V)(H:Hp):Prop:=match x with
 | .str _=>T = "str"
 | .int _=>T = "int"
 | .ref p=>(T = "list" /\ ∃ xs,ai K H p xs)∨(T = "tuple" /\ ∃ o,K.lookup p=some o/\o.cls = .type "tuple" /\ o.dict=none) ∨
  (T = "dict" /\ ((∃ kvs,H p=some (.dK kvs)) ∨ ∃ kvs,H p=some (.dT kvs)))∨(T = "set" /\ ∃ S n,H p=some (.set S n))
 | _=>False
theorem Ov(I:Inv X pins σ H s)(r:RelV x v)(ty:yA X.K T x H) :
 s.TypeIs v T/\∀ a,v = .ref a->∃ ob,s.heap.get? a=some ob/\ob.dict=none:=by
 cases x with
 | str z =>
  obtain⟨t,rfl⟩:=r;cases (show T = "str" from ty);exact⟨typeIs_str s z t,λ_ e=>nomatch e⟩
 | int i =>
  obtain⟨t,rfl⟩:=r;cases (show T = "int" from ty);exact⟨aiK s i t,λ_ e=>nomatch e⟩
 | ref p =>
  cases r;rcases ty with ⟨rfl,xs,hq⟩|⟨rfl,o,hk,hc,hd⟩|⟨rfl,hk⟩|⟨rfl,S,n,hk⟩
  .obtain⟨ar,_,pl,_⟩:=I.list hq;refine⟨pl.isList.typeIs,λa e=>?_⟩;cases e;obtain⟨o,n,e,c,hd,_⟩:=pl;exact⟨o,e,hd⟩
  .refine⟨⟨o,I.cL p o hk,hc⟩,λa e=>?_⟩;cases e;exact⟨o,I.cL _ o hk,hd⟩
  .have z:∃ o,s.heap.get? p=some o/\o.ExactDict:=by
    rcases hk with ⟨kvs,hk⟩|⟨kvs,hk⟩
    .obtain⟨_,_,_,_,o,_,_,e,ex,_⟩:=I.ay p _ hk;exact⟨o,e,ex⟩
    .obtain⟨_,_,_,_,o,_,_,e,ex,_⟩:=I.ay p _ hk;exact⟨o,e,ex⟩
   obtain⟨o,e,ex⟩:=z;refine⟨⟨o,e,ex.1⟩,λa e2=>?_⟩;cases e2;exact⟨o,e,ex.2.1⟩
  .obtain⟨o,_,_,_,e,ex,_⟩:=I.ay p _ hk;refine⟨⟨o,e,ex.1⟩,λa e2=>?_⟩;cases e2;exact⟨o,e,ex.2.1⟩
 | _=>exact adi ty
def Ow(K:aa0)(T:String)(r:V->List V->Hp->VK->Prop)(to:TE):TE:=λσ H Q=>to σ H λx H1=>yA K T x H1/\r x [] H1 Q
def EW(K:aa0)(T:String)(r:V->List V->Hp->VK->Prop)(to:TE)(t:TA):TE:=λσ H Q=>to σ H λx H1=>yA K T x H1/\t σ H1 λxs H2=>r x xs H2 Q
variable{o e:aeV}{es:List aeV}{to:TE}{t:TA}{name:Str}{apos de:Pos}{T id:String}{r:V->List V->Hp->VK->Prop}
theorem iE(pa:PlainAttrs T)(slot:Slot T name id)(Ox:ai8 (.builtin id)=pure (.type "method_descriptor"))(hm:EK X id r)(ho:PE X o to)(ha:PA X (e::es) t)(Oy:ael o name X.env (eval o X.env)=eval o X.env:=by rfl)(Oz:((adh de (abA (e::es) X.env)).all (λx=>!x.1) && (ah7 de (af0 [] X.env)).all (λx=>x.1.isSome)
 && decide ((e::es).length+([]:List aif).length+(if ([]:List aif).isEmpty then 0 else 1)<30))=true:=by rfl) (OA:(apos.endLine == de.line)=true:=by rfl) (hs:abA (e::es) X.env=(false,eval e X.env)::abA es X.env:=by rfl) (OB:(adh de (abA es X.env)).any (·.1)=false:=by rfl) :
 PE X (.Call (.Attribute o name apos) (e::es) [] de) (EW X.K T r to t):=by
 intro pins s σ H Q I h;refine wpAny_Call_method_late Oy Oz OA rfl (aE (ho pins s σ H _ I h) λv s1 zq=>?_);obtain⟨x,H1,I1,r1,ty,q1⟩:=zq;obtain⟨h1,h2⟩:=Ov I1 r1 ty;refine⟨T,id,pa,slot,Ox,h1,h2,?_⟩;have hA:=ha de pins s1 σ H1 _ I1 q1;rw[hs] at hA ⊢;refine agm (by show (false || (adh de (abA es X.env)).any (·.1))=false;rw[OB]<;>rfl) (ae2 ?_);exact aE hA λus s2 ⟨vs,H2,I2,r2,q2⟩=>hm pins s2 σ H2 x vs v us Q I2 r1 r2 q2
end
def EX(X:Cx)(id:String)(r:V->List V->Hp->VK->Prop):Prop :=
 ∀ (pins:List (abd × Obj)) (s:abe) (σ:St) (H:Hp) (x:V) (xs:List V) (v:aa9) (us:List aa9) (Q:VK),Inv X pins σ H s->RelV x v->Vals xs us->r x xs H Q ->
  abm (model X.prog X.w) X.A (call (.builtin id) (v::us)) (EP X pins σ Q) X.xe s
theorem Vals.one:∀ {x:V} {us:List aa9},Vals [x] us->∃ u,us=[u]/\RelV x u
 | _,_,.cons r .nil=>⟨_,rfl,r⟩
theorem Vals.reverse(h:Vals xs us):Vals xs.reverse us.reverse:=by
 induction h with
 | nil=>exact .nil
 | cons r t ih=>rw[aeC,aeC];exact Vals.append ih (.cons r .nil)
section
theorem Inv.EY{ar its':List aa9}{n:Nat}{f:Array aa9->Array aa9}{t':Nat}(I:Inv X pins σ H s)(hH:H l=some (.lst xs))
 (e:s.heap.get? l=some { cls:=.type "list",data:=.seq ar.toArray n }) (hf:f ar.toArray=its'.toArray) (hv:Vals ys its') (hz:ys.length<=abu) :
 Inv X pins σ (upd H l (.lst ys)) { s with heap:=s.heap.update l (acq f),toks:=t' }:=by
 have q:=PySem.IsL.update e f;rw[hf] at q;refine I.write (x:=l) (e:=l) (by rw[hH];exact trivial) (.inl rfl) (λb' u hb hu=>(abq s.heap (acq f) (ab4 hb)).trans hu) ⟨_,q⟩ ?_;exact⟨hz,its',_,hv,q⟩
theorem Inv.OC(I:Inv X pins σ H s)(hv:Vals ys ar)(hz:ys.length<=abu) :
 Inv X pins σ (upd H s.heap.objs.size (.lst ys)) { s with heap:=s.heap.push { cls:=.type "list",data:=.seq ar.toArray },toks:=t' } :=
 I.laid (λ_ _ q=>aa5 _ q) (aba _) ⟨hz,ar,0,hv,abc _ rfl⟩
theorem Inv.fresh(I:Inv X pins σ H s):H s.heap.objs.size=none:=I.ay.fresh (aba _)
theorem Inv.rA(I:Inv X pins σ H s)(hH:H l=some (.lst xs)):xs.length<=abu/\∃ (ar:List aa9) (n:Nat),Vals xs ar/\xs.length=ar.length/\s.heap.get? l=some { cls:=.type "list",data:=.seq ar.toArray n }:=by obtain⟨z,ar,n,r,e⟩:=I.ay l _ hH;exact⟨z,ar,n,r,r.length,e⟩
theorem OD(h:n<=abu):aeh n=false:=by unfold aeh;exact decide_eq_false (by omega)
def EZ:V->List V->Hp->VK->Prop:=λx vs H Q=>∃ l xs y,x = .ref l/\vs=[y]/\H l=some (.lst xs)/\xs.length<abu/\Q .non (upd H l (.lst (xs++[y])))
theorem kT:EX X "list.append" EZ:=by intro pins s σ H x vs v us Q I rx rv h;obtain⟨l,xs,y,rfl,rfl,hH,hz,q⟩:=h;cases rx;obtain⟨u,rfl,ru⟩:=rv.one;obtain⟨z,ar,n,r,hl,e⟩:=I.rA hH;refine ahF ahj ⟨_,e,rfl⟩ ag2 (agQ _ _) (ahG l ar.toArray n u (by rw[abg];omega)) ⟨e,?_⟩;refine⟨.non,_,I.EY (its':=ar++[u]) hH e (by simp) (r.append (.cons ru .nil)) ?_,rfl,q⟩;rw[abf,abv];omega
def OE:V->List V->Hp->VK->Prop:=λx vs H Q=>∃ l b xs zs,x = .ref l/\vs=[.ref b]/\H l=some (.lst xs)/\H b=some (.lst zs)/\xs.length+zs.length<=abu/\Q .non (upd H l (.lst (xs++zs)))
theorem OF:EX X "list.extend" OE:=by
 intro pins s σ H x vs v us Q I rx rv h;obtain⟨l,b,xs,zs,rfl,rfl,hH,hB,hz,q⟩:=h;cases rx;obtain⟨u,rfl,ru⟩:=rv.one;cases ru;obtain⟨z,ar,n,r,hl,e⟩:=I.rA hH;obtain⟨z2,nz,n2,r2,ba,e2⟩:=I.rA hB;have hsz:ar.toArray.size+nz.toArray.size<=abu:=by rw[abg,abg];omega
 have OG:¬ (!ar.toArray.isEmpty && aeh (ar.toArray.size+nz.toArray.size))=true:=by rw[OD hsz,agW];exact abo
 refine ahF F.slot_list_extend ⟨_,e,rfl⟩ F.entry_list_extend (F.args_list_extend_2 _ _)
  (AutoSeq1.list_extend_list_list_0 l ar.toArray n b nz.toArray n2 OG (by rw[abg];omega) (by omega)) ⟨e,e2,?_⟩
 refine⟨.non,_,I.EY (its':=ar++nz) hH e (by simp) (r.append r2) ?_,rfl,q⟩;rw[abf];omega
def OH:V->List V->Hp->VK->Prop:=λx vs H Q=>∃ l xs,x = .ref l/\vs=[]/\H l=some (.lst xs)/\Q .non (upd H l (.lst xs.reverse))
def E1:R2:=λx y H Q=>∃ l b xs zs,x = .ref l/\y = .ref b/\H l=some (.lst xs)/\H b=some (.lst zs)/\xs.length+zs.length<=abu/\∀ p,H p=none->Q (.ref p) (upd H p (.lst (xs++zs)))
theorem mh:br X (ad8 .Add) E1:=by
 intro pins s σ H x y v u Q I rx ry h;obtain⟨l,b,xs,zs,rfl,rfl,hH,hB,hz,q⟩:=h;cases rx;cases ry;obtain⟨z,ar,n,r,hl,e⟩:=I.rA hH;obtain⟨z2,nz,n2,r2,ba,e2⟩:=I.rA hB;refine PySem.P.add_list e e2 ?_ (by rw[abg,abg];omega);have ea:ar.toArray++nz.toArray=(ar++nz).toArray:=by simp
 rw[ea];exact⟨.ref _,_,I.OC (t':=s.toks) (r.append r2) (by rw[abf];omega),rfl,q _ I.fresh⟩
end
section
set_option maxRecDepth 100000 in
end
section
end
end L2
namespace yB
open PySem PySem.W PySem.Calls PyProof.Rows
theorem OI:∀ (ns:List Int) (vs:List aa9),WellAll P h vs (ns.map WData.int)->af1 vs ns:=by
 intro ns
 induction ns with
 | nil =>
  intro vs w;rw[adB] at w;cases w;exact .nil
 | cons n ns ih =>
  intro vs w;rw[abj] at w;cases w with
  | cons a b =>
   cases a;exact .cons _ _ (ih _ b)
theorem OJ{l:OpenLaw}{n:Nat}(hn:l.most=some n){P:Params}{h:adz}{args:List WData}{vals:List aa9}
 (E2:l.row.toRowW.claim.pre args=true) (E3:WellAll P h vals args) :
 ∃ a vs ns,vals=[abz a]/\args=[WData.list (ns.map WData.int)]/\h.get? a=some { cls:=.type "list",data:=.seq vs.toArray }/\af1 vs ns/\ns.length<=n:=by
 have OL:WShape.hasAll [] args [.list .int]=true:=(pre_splitW E2).1;have hc:l.pre.holds [] { args:=args }=true:=(pre_splitW E2).2;obtain⟨d,r,rfl,h1,h2⟩:=hasAllW_cons OL;obtain rfl:=hasAllW_nil h2;obtain⟨xs,rfl,h3⟩:=hasW_list h1;obtain⟨ns,rfl⟩:=items_int h3;have hlen:ns.length<=n:=by
  unfold OpenLaw.pre at hc;have h4:(WTm.not (.lt (.lit (.int (n:Int))) (.len (.arg 0)))).holds [] { args:=[.list (ns.map .int)] }=true:=by have h4:=(holds_andW hc).1;rw[hn] at h4;exact h4
  have h5:=condW_of h4 (w_not (w_lt w_lit (w_len_list (w_arg rfl))));rw[aa2] at h5;refine Nat.le_of_not_lt λq=>?_;have q':(n:Int)<((ns.length:Nat):Int):=by omega
  first
   | (rw[decide_eq_true q'] at h5;exact absurd h5 (by decide))
   | (simp at h5;omega)
 cases E3 with
 | cons w1 w2 =>
  cases w2;cases w1 with
  | list ho hall=>exact⟨_,_,ns,rfl,rfl,ho,OI ns _ hall,hlen⟩
theorem OM(l:OpenLaw)(args:List WData):l.row.toRowW.claim.post args (.bool true) args=true :=
 postW_of (r:=l.row.toRowW) (X:=(true == true))
  (show WShape.has [] (.bool true) .bool=true by first|rfl|decide|simp[WShape.has,WShape.arms,WShape.armsAll])
  (show (WTm.eq .res (.lit (.bool true))).value [] { args:=args,res:=some (.bool true),after:=args }=some (.bool (true == true)) from w_eq_bool (w_res rfl) w_lit) rfl
section
end
end yB
namespace L2
open PySem PySem.Spec PyProof.Rows
theorem yC:∀ {vs:List aa9} {ns:List Int},af1 vs ns->Vals (ns.map V.int) vs
 | _,_,.nil=>.nil
 | _,_,.cons n t h=>.cons ⟨t,rfl⟩ (yC h)
def E4(H:Hp):Prop:=∀ b,H b=none ∨ ∃ o xs,H b=some (.aL o (.lst xs))
theorem ON{P:ab1}{w:acz}{K:aa0}{mg mb:Str->Option aa9}{CX:gY}{k:Nat}{fa a:abd}{fd:aea}{x:Str}{sp:Sp}{s₁:abe}{vs:List aa9}{ns:List Int}
 (KX:K.In s₁.heap) (gb:s₁.heap.Ns abB mg) (hb:s₁.heap.Ns aiH mb) (OO:∀ x:Str,x ≠ "__name__" -> mb x=abP x) (OP:s₁.heap.NoLimit) (hg:s₁.gens = #[])
 (ha:s₁.heap.get? a=some { cls:=.type "list",data:=.seq vs.toArray }) (hi:af1 vs ns) (hl:ns.length<=abu) (hr:cc k aih)
 (F:∀ base:adz,K.In base->base.Ns abB mg->ff P w K mg base CX k fa fd [x] sp) (OQ:∀ (s:abe) (u:aa9),ahC s fd ⟨[u],[]⟩ [(x,u)])
 (iD:∀ H:Hp,E4 H->ai K H a (ns.map V.int)->sp [.ref a] H (λv _=>v = .bl true) λ_ _ _=>False)
 (OR:∀ H e s',CX [] H s₁ (λ_ _ _=>False) e s'->False) :
 ad0 (model P w) aih (.call (.ref fa) ⟨[.ref a],[]⟩) (λr s'=>r = .ok (.ret (.bool true))/\OldK s₁.heap s'.heap/\s'.os=s₁.os/\agu s'.gens) s₁:=by
 have rv:=yC hi;have OS:=hi.length;have core:∀ H:Hp,E4 H->ai K H a (ns.map V.int)->bW P w H s₁.heap->(∀ b,H b≠none->b=a)->(H a≠none->K.lookup a=none) ->
  ad0 (model P w) aih (.call (.ref fa) ⟨[.ref a],[]⟩) (λr s'=>r = .ok (.ret (.bool true))/\OldK s₁.heap s'.heap/\s'.os=s₁.os/\agu s'.gens) s₁:=by
  intro H hO hS ay hA hK;have E5:∀ {b:abd} {o:Obj},s₁.heap.get? b=some o->H b=none->(kI s₁.heap H).get? b=some o:=λe n=>Nn e n;have g9:∀ {b:abd} {o:Obj} {es:Array ac4} {ep:Nat},s₁.heap.get? b=some o->o.data = .dict es ep->H b=none:=λ{b o es ep} e d=>by
   cases q:H b with
   | none=>rfl
   | some u =>
    have e':b=a:=hA b (by rw[q];simp);subst e';rw[ha] at e;cases e;have d':Data.seq vs.toArray _=Data.dict es ep:=d;cases d'
  have vt:∀ {b:abd} {m:Str->Option aa9},s₁.heap.Ns b m->(kI s₁.heap H).Ns b m:=λ{b m} ⟨o,es,ep,e,d,r⟩=>⟨o,es,ep,E5 e (g9 e d),d,r⟩
  have E6:K.In (kI s₁.heap H):=λb o e=>E5 (KX b o e) (by
   cases q:H b with
   | none=>rfl
   | some u =>
    have e':b=a:=hA b (by rw[q];simp);subst e';rw[hK (by rw[q];simp)] at e;cases e)
  have hM:Mod K mg (kI s₁.heap H):=⟨E6,vt gb,⟨mb,vt hb,OO⟩,let ⟨mc,h1,h2⟩:=OP;⟨mc,vt h1,h2⟩⟩
  have e0:ny P w K mg (kI s₁.heap H) aih [] s₁ H:=⟨rfl,hM,λb o e=>Np e,ai7 (Nm _ _),trivial,λb hb=>absurd (show b∈([]:List abd) from hb) (by simp),ay,.of_eq hg⟩
  refine aeM ((F _ E6 (vt gb)).run aih [] s₁ H ⟨[.ref a],[]⟩ [.ref a] [.ref a] _ _ hr e0 (OQ s₁ (.ref a)) (.cons rfl .nil) (iD H hO hS)) λr s' h=>?_;cases r with
  | error e=>exact (OR H e s' h).elim
  | ok fl =>
   cases fl with
   | next=>exact adi h
   | brk=>exact adi h
   | cont=>exact adi h
   | ret u =>
    obtain⟨v,H',os,bare,un,OT,r',q⟩:=h;have q':v = .bl true:=q;subst q';obtain rfl:u=acJ true:=r';refine⟨rfl,OldK.of_keep λb o e=>?_,os,bare⟩;cases q:H b with
    | none=>exact un.keep b o e q (by intro z;exact absurd (show b∈([]:List abd) from z) (by simp)) (by simp)
    | some u =>
     rcases hO b with z|⟨ob,xs,z⟩
     .rw[q] at z;cases z
     .have z2:=un.eT b ob _ z;obtain⟨e1,_⟩:=ay b _ z;obtain⟨e2,_⟩:=OT b _ z2;rw[e] at e1;cases e1;exact e2
 cases hk:K.lookup a with
 | some o =>
  have e:=KX a o hk;rw[ha] at e;cases e;refine core (λ_=>none) (λ_=>.inl rfl) (.inr ⟨_,vs.toArray,_,hk,rfl,rfl,rfl,by rw[abg,OS];exact hl,by simpa using rv⟩) (λb u z=>by have z':(none:Option HO)=some u:=z;cases z') (λb z=>absurd rfl z) λz=>absurd rfl z
 | none =>
  refine core (λb=>if b=a then some (.aL { cls:=.type "list",data:=.seq vs.toArray } (.lst (ns.map V.int))) else none) (λb=>?_) (.inl (.inr ⟨{ cls:=.type "list",data:=.seq vs.toArray },if_pos rfl⟩)) (λb u z=>?_) (λb z=>?_) λ_=>hk
  .by_cases hb:b=a
   .exact .inr ⟨_,_,if_pos hb⟩
   .exact .inl (if_neg hb)
  .by_cases hb:b=a
   .have z':=(if_pos hb).symm.trans z;cases z';subst hb;exact⟨ha,by rw[aa2];exact hl,vs,_,rv,ha⟩
   .have z':=(if_neg hb).symm.trans z;cases z'
  .by_cases hb:b=a
   .exact hb
   .exact absurd (if_neg hb) z
def inClass(s:acM)(j:Nat):acM:=match s with
 | .ClassDef _ _ _ body _ _ _ _ _ _ _=>body.getD j (.Pass ⟨0,0,0,0⟩)
 | _=>.Pass ⟨0,0,0,0⟩
noncomputable def oW(s:acM):Arguments:=match s with
 | .FunctionDef _ a _ _ _ _ _ _ _ _=>a
 | _=>{ posonlyargs:=[],args:=[],vararg:=none,kwonlyargs:=[],kw_defaults:=[],kwarg:=none,defaults:=[] }
noncomputable def iF(s:acM):List acM:=match s with
 | .FunctionDef _ _ b _ _ _ _ _ _ _=>b
 | _=>[]
noncomputable def dM(s:acM):agP:=match s with
 | .FunctionDef _ _ _ _ _ _ sc _ _ _=>sc
 | _=>{ kind:=.function,names:=[],isGenerator:=false,isCoroutine:=false }
abbrev E0:XK:=λ_ _ _=>False
structure nA(K:aa0)(x qual:Str)(st:acM)(f:abd)(fd:aea):Prop where
 ex:∃ (oc:aa9) (od:Option abd) (kV doc pm:aa9) (an:Option abd) (a7 ct:aa9) (jY:Array (Option aa9)),
  fd=adQ x qual (oW st) (iF st) (dM st) .none kV doc pm an a7 ct/\K.lookup f=some ⟨oc,od,.func fd,jY⟩/\afC K a7 qual=true
 kp:ado K (.ref f)=true
section
variable{P:ab1}{w:acz}{K:aa0}{mg:Str->Option aa9}{base:adz}
theorem nA.binds{x qual:Str}{st:acM}{f:abd}{fd:aea}{ps:List Str}(F:nA K x qual st f fd)
 (h:∀ (kV doc pm:aa9) (an:Option abd) (a7 ct:aa9) (us:List aa9),us.length=ps.length->bindArgs (adQ x qual (oW st) (iF st) (dM st) .none kV doc pm an a7 ct) ⟨us,[]⟩=pure (ps.zip us)):Binds K fd ps []:=by
 obtain⟨oc,od,kV,doc,pm,an,a7,ct,jY,rfl,lk,fW⟩:=F.ex;exact .all (h kV doc pm an a7 ct)
theorem oX{x qual:Str}{st:acM}{f:abd}{oc:aa9}{od an:Option abd}{jY:Array (Option aa9)}{kV doc pm a7 ct:aa9}(l:K.lookup f=some ⟨oc,od,.func (adQ x qual (oW st) (iF st) (dM st) .none kV doc pm an a7 ct),jY⟩)
 (c:afC K a7 qual=true) (k:ado K (.ref f)=true):nA K x qual st f (adQ x qual (oW st) (iF st) (dM st) .none kV doc pm an a7 ct):=⟨⟨oc,od,kV,doc,pm,an,a7,ct,jY,rfl,l,c⟩,k⟩
end
theorem eh(hr:cc k A):A.units+1<afq:=abV (Nat.add_le_add_left (by decide:1<=64) _) hr.units
section
theorem pv(i:Nat)(hN:X.N[i]?=some x:=by rfl)(hv:uW X.env.scope x:=by first|exact aeO rfl|exact ahU (aeO rfl)|exact ahU (ahU rfl))(hd:(x == ("__debug__" : Str))=false:=by decide)(fW:(x == ("__classdict__" : Str))=false:=by decide):PE X (.Name x pos) (x3 i):=Nt hN hv hd fW
end
def aj(H H':Hp):Prop:=∀ b o,H b=some o->H' b=some o
theorem aj.refl(H:Hp):aj H H:=λ_ _ h=>h
theorem aj.trans(a:aj H H1)(b:aj H1 H2):aj H H2:=λc o h=>b c o (a c o h)
theorem aj.free(e:aj H H')(h:H' l=Option.none):H l=Option.none:=by
 cases q:H l with
 | none=>rfl
 | some o =>
  rw[e l o q] at h;cases h
theorem aj.seq{K:aa0}{H H':Hp}{a:abd}{xs:List V}(e:aj H H')(h:ai K H a xs):ai K H' a xs:=by
 rcases h with (h|⟨o,h⟩)|h
 .exact .inl (.inl (e _ _ h))
 .exact .inl (.inr ⟨o,e _ _ h⟩)
 .exact .inr h
end L2
namespace Gz
open PySem PySem.Spec PyProof.Rows L2
def Bd(n:Nat)(x:Int):Prop:=x.natAbs<2 ^ n
theorem Bd.up(h:Bd n x)(hm:n<=m):Bd m x:=abn h (Nat.pow_le_pow_right (by decide) hm)
theorem Bd.bits(h:Bd n x):adD x<=n:=by
 unfold adD;by_cases e:x=0
 .subst e;simp
 .have e0:¬ ((x == 0)=true):=by simpa using e
  rw[if_neg e0];have hn:x.natAbs≠0:=by lia
  have:=(Nat.log2_lt hn).mpr h;lia
def oY(i j:Int):Prop:=Bd 4000 i/\Bd 4000 j
theorem oY.ok(h:oY i j):IntMulOk i j :=
 IntMulOk.of_bits (abb h.1.bits (by decide)) (abb h.2.bits (by decide))
section
theorem OU:br X (ad8 .Mult) (rI oY λi j=>.int (i * j)):=vh λ_ _ _ _ _ _ _ hc q=>mul_int q hc.ok
noncomputable def j5:V->aa9
 | .ref a=>.ref a
 | .ty n=>.type n
 | _=>.none
theorem OV:fJ X (.builtin "isinstance") (λxs H Q=>∃ x c t b,xs=[x,c]/\dk X.K H x t/\j5 c ≠ .none/\abW X.K t (j5 c)=some b/\Q (.bl b) H):=by
 intro pins s σ H xs us Q I r h;obtain⟨x,c,t,b,rfl,ty,hc,e,q⟩:=h;obtain⟨u,v,rfl,rx,rc⟩:=vals2 r;have ev:v=j5 c:=by
  cases c with
  | ref a=>exact rc
  | ty n=>exact rc
  | non=>exact absurd rfl hc
  | bl _=>exact absurd rfl hc
  | int _=>exact absurd rfl hc
  | str _=>exact absurd rfl hc
  | byt _=>exact absurd rfl hc
  | flt _=>exact absurd rfl hc
 subst ev;exact N8 I rx ty e λtk=>⟨.bl b,H,I.tok tk,rfl,q⟩
end
theorem vx{K:aa0}{t:aa9}:abW K t t=some true:=by unfold abW;rw[if_pos (by simp)]
theorem vy{K:aa0}{a c:String}{b:Bool}(h:aii c=true)(h2:(PySem.fastBuiltinMro a).map (·.contains (.type c))=some b)(h3:(a == c)=false):abW K (.type a) (.type c)=some b:=by
 unfold abW;have e:¬ ((afI a == afI c)=true):=by simp only[beq_iff_eq,Value.type.injEq];simpa using h3
 rw[if_neg e];show (if aii c=true then aem K (.type a) (.type c) else none)=some b;rw[if_pos h];exact h2
theorem OW{K:aa0}:abW K (.type "int") (.type "bool")=some false:=vy (by decide +kernel) (by decide +kernel) (by decide)
theorem OX{K:aa0}:abW K (.type "bool") (.type "int")=some true:=vy (by decide +kernel) (by decide +kernel) (by decide)
theorem OY{K:aa0}:abW K (.type "NoneType") (.type "int")=some false:=vy (by decide +kernel) (by decide +kernel) (by decide)
theorem OZ{K:aa0}:abW K (.type "NoneType") (.type "tuple")=some false:=vy (by decide +kernel) (by decide +kernel) (by decide)
theorem cp:abP "len" = some (.builtin "len"):=by decide +kernel
theorem yD:abP "min" = some (.builtin "min"):=by decide +kernel
theorem O0:abP "max" = some (.builtin "max"):=by decide +kernel
theorem gd:abP "isinstance" = some (.builtin "isinstance"):=by decide +kernel
theorem E7:abP "sorted" = some (.builtin "sorted"):=by decide +kernel
theorem yE:abP "any" = some (.builtin "any"):=by decide +kernel
theorem vz:abP "all" = some (.builtin "all"):=by decide +kernel
theorem E8:abP "sum" = some (.builtin "sum"):=by decide +kernel
theorem E9:abP "int" = some (.type "int"):=by decide +kernel
theorem Fc:abP "bool" = some (.type "bool"):=by decide +kernel
theorem mi:abP "list" = some (.type "list"):=by decide +kernel
theorem rB:abP "tuple" = some (.type "tuple"):=by decide +kernel
theorem Fd:abP "dict" = some (.type "dict"):=by decide +kernel
theorem Fe:abP "enumerate" = some (.type "enumerate"):=by decide +kernel
theorem O2:abP "zip" = some (.type "zip"):=by decide +kernel
theorem O3:abP "reversed" = some (.type "reversed"):=by decide +kernel
noncomputable def yF:V->V->Option Bool
 | .int _,.ty n=>if n = "int" then some true else if n = "bool" then some false else none
 | .bl _,.ty n=>if n = "int" then some true else if n = "bool" then some true else none
 | .non,.ty n=>if n = "int" then some false else if n = "tuple" then some false else none
 | _,_=>none
def ja(K:aa0)(x c:V)(H:Hp)(Q:VK):Prop:=match yF x c with
 | some b=>Q (.bl b) H
 | none=>∃ t b,dk K H x t/\j5 c ≠ .none/\abW K t (j5 c)=some b/\Q (.bl b) H
section
theorem hU:fJ X (.builtin "isinstance") (λxs H Q=>∃ x c,xs=[x,c]/\ja X.K x c H Q):=by
 intro pins s σ H xs us Q I r h;obtain⟨x,c,rfl,h⟩:=h;refine OV pins s σ H _ us Q I r ?_;cases e:yF x c with
 | none =>
  unfold ja at h;rw[e] at h;obtain⟨t,b,h1,h2,h3,h4⟩:=h;exact⟨x,c,t,b,rfl,h1,h2,h3,h4⟩
 | some b =>
  unfold ja at h;rw[e] at h;unfold yF at e;split at e
  .rename_i i n;split at e
   .rename_i z;subst z;cases e;exact⟨_,_,_,_,rfl,dk.int i,(λz=>nomatch z),vx,h⟩
   .split at e
    .rename_i z;subst z;cases e;exact⟨_,_,_,_,rfl,dk.int i,(λz=>nomatch z),OW,h⟩
    .cases e
  .rename_i i n;split at e
   .rename_i z;subst z;cases e;exact⟨_,_,_,_,rfl,dk.bl i,(λz=>nomatch z),OX,h⟩
   .split at e
    .rename_i z;subst z;cases e;exact⟨_,_,_,_,rfl,dk.bl i,(λz=>nomatch z),vx,h⟩
    .cases e
  .rename_i n;split at e
   .rename_i z;subst z;cases e;exact⟨_,_,_,_,rfl,dk.non,(λz=>nomatch z),OY,h⟩
   .split at e
    .rename_i z;subst z;cases e;exact⟨_,_,_,_,rfl,dk.non,(λz=>nomatch z),OZ,h⟩
    .cases e
  .cases e
end
section
variable{K:aa0}{H:Hp}{Q:VK}{i:Int}{b:Bool}{p:abd}{xs:List V}
theorem O4:ja K (.int i) (.ty "int") H Q=Q (.bl true) H:=rfl
theorem O5:ja K (.int i) (.ty "bool") H Q=Q (.bl false) H:=rfl
theorem O6:ja K (.bl b) (.ty "int") H Q=Q (.bl true) H:=rfl
theorem O7:ja K (.bl b) (.ty "bool") H Q=Q (.bl true) H:=rfl
theorem O8:ja K .non (.ty "int") H Q=Q (.bl false) H:=rfl
theorem O9:ja K .non (.ty "tuple") H Q=Q (.bl false) H:=rfl
theorem mj(h:H p=some (.tup xs))(q:Q (.bl true) H):ja K (.ref p) (.ty "tuple") H Q:=⟨_,_,dk.tup h,(λz=>nomatch z),vx,q⟩
theorem vA(h:H p=some (.lst xs))(q:Q (.bl true) H):ja K (.ref p) (.ty "list") H Q:=⟨_,_,dk.lst h,(λz=>nomatch z),vx,q⟩
end
def dN(P:ab1)(w:acz):gY:=λouter H s E e s' =>
 ∃ (x:abd) (cls a0:aa9) (H':Hp) (B:adz),e = .ref x/\s'.os=s.os/\agu s'.gens/\Un (a9 outer) [] H H' s.heap s'.heap /\
  (∀ b o,s.heap.get? b=some o->H b=none->b∉a9 outer->B.get? b=some o)/\(∀ b o,s.heap.get? b=some o->b∉a9 outer->∃ o',B.get? b=some o')/\bW P w H' B/\H' x=none/\s.heap.get? x=none /\
  ahV B outer x cls a0 s'.heap/\E cls none H'
theorem bb:Passes (dN P w) X E0:=by rintro _ _ _ _ _ _ _ ⟨_,_,_,_,_,_,_,_,_,_,_,_,_,_,_,h⟩;exact h.elim
theorem Pb(h:dN P w outer H s (λ_ _ _=>False) e s'):False:=by obtain⟨_,_,_,_,_,_,_,_,_,_,_,_,_,_,_,h⟩:=h;exact h
section
variable{P:ab1}{w:acz}{K:aa0}{mg:Str->Option aa9}{base:adz}
theorem okN{x qual:Str}{st:acM}{f:abd}{fd:aea}{N ps:List Str}{k:Nat}{sp:Sp}(F:nA K x qual st f fd)(S:rk N ps (dM st))(len:∀ vs H Q E,sp vs H Q E->vs.length=ps.length)
 (hJ:∀ (a7:aa9) (A:acP) (outer:List Env) (s:abe) (H:Hp) (vs:List V) (Q:VK) (E:XK),cc k (A.deeper (acS qual (dM st) s.heap.objs.size f a7))->sp vs H Q E ->
   ∃ t,aR (fg (dN P w) P w K mg base N qual (dM st) f a7 A outer s H E).oO (iF st) t/\t { nx:=λ_ H'=>Q .non H',rt:=Q } (start N vs) H):ff P w K mg base (dN P w) (k+1) f fd ps sp:=by
 obtain⟨oc,od,kV,doc,pm,an,a7,ct,jY,rfl,lk,fW⟩:=F.ex;refine Ez lk fW S len λA outer s H vs Q E hr iD=>?_;obtain⟨t,h,q⟩:=hJ a7 A outer s H vs Q E hr iD;exact⟨t,h.oO,q⟩
end
theorem Pc(a b:Int):kN (.int a) (.int b)=true:=rfl
theorem Pd(a b:Bool):kN (.bl a) (.bl b)=true:=rfl
theorem Pe(a:Int):kN (.int a) .non=true:=rfl
theorem Pf(a:Int):kN .non (.int a)=true:=rfl
theorem Pg:kN .non .non=true:=rfl
theorem ite_tt:(if true=true then A else B)=A:=if_pos rfl
theorem ite_ff:(if false=true then A else B)=B:=if_neg abo
theorem Ph{CX:gY}{P:ab1}{w:acz}{K:aa0}{mg:Str->Option aa9}{base:adz}{N:List Str}{qual:Str}{scope:agP}{f:abd}{cd:aa9}{A:acP}{outer:List Env}{s:abe}{H:Hp}{E:XK} :
 (fg CX P w K mg base N qual scope f cd A outer s H E).K=K:=rfl
theorem Pj{CX:gY}{P:ab1}{w:acz}{K:aa0}{mg:Str->Option aa9}{base:adz}{N:List Str}{qual:Str}{scope:agP}{f:abd}{cd:aa9}{A:acP}{outer:List Env}{s:abe}{H:Hp}{E:XK} :
 (fg CX P w K mg base N qual scope f cd A outer s H E).N=N:=rfl
section
variable{K:aa0}{H H':Hp}{a p:abd}{xs ys:List V}{i:Int}{v:V}{Q:VK}
theorem eM(e:aj H H')(h:ah K H a xs):ah K H' a xs:=by
 rcases h with (h|⟨o,h⟩)|h
 .exact .inl (.inl (e _ _ h))
 .exact .inl (.inr ⟨o,e _ _ h⟩)
 .exact .inr h
theorem ao(h:H p=none):aj H (upd H p o):=λb u e=>by rw[aB (i3 e h)];exact e
theorem ak(h:ah K H p xs)(e:dm xs i=some v)(q:Q v H):kR K (.ref p) (.int i) H Q:=.inr (.inl ⟨p,xs,i,v,rfl,rfl,h,e,q⟩)
theorem bJ(h:ai K H p xs)(e:dm xs i=some v)(q:Q v H):kR K (.ref p) (.int i) H Q:=.inl ⟨p,xs,i,v,rfl,rfl,h,e,q⟩
theorem dO(h:ai K H p xs):yk K (.ref p) H xs.length:=.inl ⟨xs,h,rfl⟩
theorem mn(h:ah K H p xs):yk K (.ref p) H xs.length:=.inr ⟨xs,h,rfl⟩
end
noncomputable def isWhole:V->Bool
 | .int _=>true
 | _=>false
def FJ(J:It)(g:TG)(tb:TS)(D:Ends)(σ:L2.St)(H:Hp):Prop:=∃ W:Nat->Nat->L2.St->Hp->Prop,(∃ m,W 0 m σ H)/\∀ i m σ H,W i m σ H ->
 (J.stop i H/\D.nx σ H)∨(J.go i H/\∃ N:L2.St->Hp->Prop,(∀ σ' H',N σ' H'->∃ m',m'<m/\W (i+1) m' σ' H')/\∀ x H',J.yld i H x H'->g x σ H' λσ2 H2=>tb { D with nx:=N,ct:=N,bk:=D.nx } σ2 H2)
section
variable{K:aa0}{g:TG}{tb:TS}{D:Ends}{σ:L2.St}{H:Hp}{a:abd}{xs:List V}{lo:Int}{n:Nat}
theorem Pk:jX (x9 ta) g tb D σ H=ta σ H (λvs H1=>∃ j:Int,vs=[.int j]/\-(2 ^ 62)<=j/\j<2 ^ 62/\FJ (iC 0 j.toNat) g tb D σ H1):=rfl
theorem Pl{tl:TE}:jX (x6 K tl) g tb D σ H=tl σ H (λx H1=>∃ a,x = .ref a/\(∃ xs,ai K H1 a xs)/\FJ (i7 K a) g tb D σ H1):=rfl
theorem Pm{tl:TE}:jX (x8 K tl) g tb D σ H=tl σ H (λx H1=>∃ a,x = .ref a/\(∃ xs,ah K H1 a xs)/\FJ (kM K a) g tb D σ H1):=rfl
theorem oZ(Pv:Nat->L2.St->Hp->Prop)(h0:Pv 0 σ H)(hs:∀ i σ H,i<n->Pv i σ H->g (.int (lo+i)) σ H λσ2 H2=>tb { D with nx:=Pv (i+1),ct:=Pv (i+1),bk:=D.nx } σ2 H2)(hd:∀ σ H,Pv n σ H->D.nx σ H):FJ (iC lo n) g tb D σ H:=NH Pv h0 hs hd
theorem iG(Pv:Nat->L2.St->Hp->Prop)(h0:Pv 0 σ H)(hl:∀ i σ H,i<=xs.length->Pv i σ H->ai K H a xs)(hs:∀ i x σ H,xs[i]?=some x->Pv i σ H->g x σ H λσ2 H2=>tb { D with nx:=Pv (i+1),ct:=Pv (i+1),bk:=D.nx } σ2 H2)(hd:∀ σ H,Pv xs.length σ H->D.nx σ H):FJ (i7 K a) g tb D σ H:=NF Pv h0 hl hs hd
theorem Ff(Pv:Nat->L2.St->Hp->Prop)(h0:Pv 0 σ H)(hl:∀ i σ H,i<=xs.length->Pv i σ H->ah K H a xs)(hs:∀ i x σ H,xs[i]?=some x->Pv i σ H->g x σ H λσ2 H2=>tb { D with nx:=Pv (i+1),ct:=Pv (i+1),bk:=D.nx } σ2 H2)(hd:∀ σ H,Pv xs.length σ H->D.nx σ H):FJ (kM K a) g tb D σ H:=NG Pv h0 hl hs hd
end
theorem aW:(2:Nat)<=abu:=by decide
theorem Fg(h:x.natAbs<2 ^ 200):Bd 4000 x:=Bd.up (n:=200) h (by decide)
theorem Fh(h:x.natAbs<2 ^ 200)(h':y.natAbs<2 ^ 200):oY x y:=⟨Fg h,Fg h'⟩
section
end
section
variable{K:aa0}{H H1:Hp}{l p:abd}{xs ys:List V}{o:HO}
theorem j6(hl:H l=none)(s:aj H H1):aj H (upd H1 l o):=λb u e=>by rw[aB (i3 e hl)];exact s b u e
theorem yG(h:ah K H1 p xs)(hl:H1 l=some (.lst ys)):ah K (upd H1 l o) p xs:=by
 rcases h with (h|⟨z,h⟩)|h
 .exact .inl (.inl (by rw[aB (oJ h hl (λe=>nomatch e))];exact h))
 .exact .inl (.inr ⟨z,by rw[aB (oJ h hl (λe=>nomatch e))];exact h⟩)
 .exact .inr h
end
end Gz
namespace Gz
open PySem PySem.W PySem.Spec PySem.Calls PyProof.Rows Builtin Builtin.ObjectAttr Builtin.Getset_descriptor
section
variable{prog:ab1}{w:acz}{A:acP}{E:aa9->abe->Prop}{s:abe}{K:Frag}{x C:abd}{oe:Obj}{R:ahR->abe->Prop}
theorem Pn{tp:aa9}(X:K.In s.heap)(he:s.heap.get? x=some oe)(hc:oe.cls = .ref C)(hm:mroIn K C (.type "object")=some true)
 (h:R (.ok (.ret (.ref C))) s):ad0 (model prog w) A (.call (.builtin "getset_descriptor.__get__") ⟨[.builtin "object.__class__",.ref x,tp],[]⟩) R s:=by
 obtain⟨hh,g,dr,t,os⟩:=s;have L0:Looks (model prog w) hh (ai8 (.ref x)) (.ref C):=hc ▸ (Looks.ld he).andThen .now;have L1:=looks_mroIn (M:=model prog w) X hm;refine ad1 KF.slot_gs.plain KF.entry_gs (KF.slot_gs.check _ _ _ _ _ _ _ _ KF.type_class (KF.args_gs _ _ _) ?_);unfold ac5.«getset_descriptor.__get__» descrGet;rw[dga_obj];refine aaZ (aa4 ?_);unfold descrGetter descrCheckInstance descrNameAndClass aiL;simp only[KF.owner_class]
 repeat lk
 refine⟨Code.quiet_builtin _ (by decide +kernel),acd KF.entry_class ?_⟩;unfold ac5.«object.__class__» shownTypeOf
 repeat lk
 exact h
theorem Po{tk:Tok}{Q:Fin->abe->Prop}(X:K.In s.heap)(he:s.heap.get? x=some oe)(hc:oe.cls = .ref C)(hm:mroIn K C (.type "object")=some true)
 (g3:findIn K (.ref C) "__class__" = some (some (.builtin "object.__class__"))) (h:Q (.done (.ret (.ref C))) s) :
 abm (model prog w) A (ac5.«object.__getattribute__» ⟨[.ref x,.str "__class__" tk],[]⟩) Q E s:=by
 obtain⟨hh,g,dr,t,os⟩:=s;have L0:Looks (model prog w) hh (ai8 (.ref x)) (.ref C):=hc ▸ (Looks.ld he).andThen .now;have L1:=looks_findIn (M:=model prog w) X g3;have f5:=KF.type_class;have f6:=F.slot_gs_get.lookup;have f7:=F.slot_gs_set.lookup
 repeat (any_goals (first|assumption|(with_reducible refine L0.at ?_)|(with_reducible refine L1.at ?_)|wp_step))
 refine Pn X he hc hm ?_
 repeat (any_goals (first|assumption|wp_step))
theorem Pq{Fi:aa9}{Q:Unit->abe->Prop}(X:K.In s.heap)(he:s.heap.get? x=some oe)(hc:oe.cls = .ref C)(hb:mroIn K C (.type "BaseException")=some true)(h:Q () s) :
 abm (model prog w) A (aeX "BaseException.__getattribute__" ⟨[.ref x,Fi],[]⟩) Q E s:=by
 obtain⟨hh,g,dr,t,os⟩:=s;have hk:ag3 "BaseException.__getattribute__" = some .slot:=by decide +kernel
 have Pr:splitId "BaseException.__getattribute__" = some ("BaseException","__getattribute__"):=by decide +kernel
 have ha:=F.args_bexc_ga (.ref x) Fi;have L0:Looks (model prog w) hh (ai8 (.ref x)) (.ref C):=hc ▸ (Looks.ld he).andThen .now;have L1:=looks_mroIn (M:=model prog w) X hb;simp only[aeX,hk,Pr];refine aaZ ?_;unfold aiL
 repeat (first|(with_reducible refine L0.at ?_)|(with_reducible refine L1.at ?_)|wp_step)
 exact h
theorem Pt{Q:Option aa9->abe->Prop}(X:K.In s.heap)(he:s.heap.get? x=some oe)(hc:oe.cls = .ref C)(hm:mroIn K C (.type "object")=some true)(hb:mroIn K C (.type "BaseException")=some true)
 (g1:findIn K (.ref C) "__getattribute__" = some (some (.builtin "BaseException.__getattribute__"))) (g2:findIn K (.ref C) "__getattr__" = some none)
 (g3:findIn K (.ref C) "__class__" = some (some (.builtin "object.__class__"))) (h:Q (some (.ref C)) { s with toks:=s.toks+1 }) :
 abm (model prog w) A (getAttr? (.ref x) "__class__") Q E s:=by
 obtain⟨hh,g,dr,t,os⟩:=s;have L0:Looks (model prog w) hh (ai8 (.ref x)) (.ref C):=hc ▸ (Looks.ld he).andThen .now;have L1:=looks_findIn (M:=model prog w) X g1;have L2:=looks_findIn (M:=model prog w) X g2;have f3:=F.excAttr_ValueError.ga.bind (.ref x);have Pu:(aen "BaseException.__getattribute__" == aen "object.__getattribute__")=false:=by decide +kernel
 have o4:(onTheHeap (abz C) && aen "BaseException.__getattribute__" == aen "object.__getattribute__")=false:=by rw[Pu];rfl
 unfold getAttr? getAttrBy?
 repeat (any_goals (first|assumption|(with_reducible refine L0.at ?_)|(with_reducible refine L1.at ?_)|(with_reducible refine L2.at ?_)|wp_step))
 refine ad1 F.excAttr_ValueError.ga.plain F.entry_bexc_ga (Pq X he hc hb (Po X he hc hm g3 ?_))
 repeat (any_goals (first|assumption|wp_step))
end
structure XC(K:Frag)(C:abd):Prop where
 ex:excIn K C [.type "ValueError",.type "Exception",.type "BaseException",.type "object"] "ValueError.__new__" = true
 mo:mroIn K C (.type "object")=some true
 mb:mroIn K C (.type "BaseException")=some true
 ga:findIn K (.ref C) "__getattribute__" = some (some (.builtin "BaseException.__getattribute__"))
 gr:findIn K (.ref C) "__getattr__" = some none
 gc:findIn K (.ref C) "__class__" = some (some (.builtin "object.__class__"))
theorem XC.cls{K:Frag}{C:abd}(x:XC K C):∃ c d cd sl,K.lookup C=some ⟨c,d,.cls cd,sl⟩:=by
 have q:=x.ex;unfold excIn at q;split at q
 .rename_i dd cd sl ho;exact⟨_,_,_,_,ho⟩
 .cases q
theorem Pw{K:Frag}{x C:abd}(c:XC K C):KitX K (.ref x) (.ref C) (λh=>∃ oe:Obj,h.get? x=some oe/\oe.cls = .ref C) where
 ty:=λ_ _ _ ⟨oe,he,hc⟩=>hc ▸ (Looks.ld he).andThen .now
 it:=λ_ _ X _=>by obtain⟨a,b,cd,sl,ho⟩:=c.cls;intro A' Q' E' s' k q;unfold isType loadHead;exact aaZ (wpAny_loadPart (k _ _ (X _ _ ho)) (aa4 q))
 ne:=λh tp dd ar n sl X yH=>by obtain⟨a,b,cd,sl,ho⟩:=c.cls;refine acD.mpr λq=>?_;have e:C=tp:=Value.ref.inj (beq_iff_eq.mp q);subst e;have z:=(X _ _ ho).symm.trans yH;cases z
 ca:=λX ⟨oe,he,hc⟩ k=>Pt X he hc c.mo c.mb c.ga c.gr c.gc k
theorem Px{K:Frag}{h:adz}{C:abd}(X:K.In h)(c:XC K C) :
 ∃ bm N nm q bs hdct sn sub ab col dd k0 k1 k2 k3 k5 mN,h.get? C=some (excClassObj nm q C N bs bm hdct sn sub ab col dd k0 k1 k2 k3 k5 "ValueError.__new__")/\h.Ns N mN/\mN "__init__" = none /\
  OwnTail h [.type "ValueError",.type "Exception",.type "BaseException",.type "object"] bm:=by
 have q:=c.ex;unfold excIn at q;split at q
 .rename_i dd cd sl ho;split at q
  .rename_i C' bm k0 k1 k2 k3 n k5 hm hs;simp only[acL,beq_iff_eq,Bool.not_eq_true'] at q;obtain⟨⟨⟨⟨⟨rfl,rfl⟩,hdel⟩,ht⟩,ay⟩,hni⟩:=q;obtain⟨nm,bs,mro,ns,qn,hd,sn,sub,ab,col,del⟩:=cd;dsimp only at hm hdel ay hni;subst hm hdel;have kU:sl = #[k0,k1,k2,k3,some (.builtin "ValueError.__new__"),k5]:=by obtain⟨l⟩:=sl;simp only at hs;rw[hs]
   subst kU;exact⟨bm,ns,nm,qn,bs,hd,sn,sub,ab,col,dd,k0,k1,k2,k3,k5,_,X _ _ ho,.of_isNs (isNs_of_in X ay),nsMap_none_of_in X ay hni,tail_of_in X ht⟩
  .cases q
 .cases q
open L2
noncomputable def iH(a C:abd):HO:=.ext λh=>∃ oe:Obj,h.get? a=some oe/\oe.cls = .ref C
theorem Py(he:h.get? a=some oe)(hc:oe.cls = .ref C):bN P w H h a (iH a C) :=
 ⟨⟨oe,he,hc⟩,⟨oe,he⟩,λh1 h2 ⟨o,e,c⟩ k=>⟨o,k o e,c⟩⟩
section
def Fj(K:aa0)(a:abd)(c:V)(H:Hp)(Q:VK):Prop:=∃ C b,H a=some (iH a C)/\XC K C/\j5 c ≠ .none/\abW K (.ref C) (j5 c)=some b/\Q (.bl b) H
theorem Fl{K:aa0}(hK:X.K=K):fJ X (.builtin "isinstance") (λxs H Q=>∃ a c,xs=[.ref a,c]/\Fj K a c H Q):=by
 subst hK;intro pins s σ H xs us Q I r h;obtain⟨a,c,rfl,C,b,ha,xc,hc,e,q⟩:=h;obtain⟨u,v,rfl,rx,rc⟩:=vals2 r;have ev:v=j5 c:=by
  cases c with
  | ref a=>exact rc
  | ty n=>exact rc
  | non=>exact absurd rfl hc
  | bl _=>exact absurd rfl hc
  | int _=>exact absurd rfl hc
  | str _=>exact absurd rfl hc
  | byt _=>exact absurd rfl hc
  | flt _=>exact absurd rfl hc
 subst ev;cases (show u=abz a from rx);obtain⟨hp,_,_⟩:=(show bN X.prog X.w H s.heap a (iH a C) from I.ay a _ ha)
 exact acn (Pw xc) I.cL hp e (λz=>nomatch z) λtk=>⟨.bl b,H,I.tok tk,rfl,q⟩
end
theorem Fo{K:aa0}{a C:abd}{c:V}{H:Hp}{Q:VK}{b:Bool}(h:H a=some (iH a C))(xc:XC K C)(hc:j5 c ≠ .none)(e:abW K (.ref C) (j5 c)=some b)(q:Q (.bl b) H):Fj K a c H Q:=⟨C,b,h,xc,hc,e,q⟩
end Gz
namespace Gz
open PySem PySem.Spec PyProof.Rows L2
theorem bN.some(x:bN P w H h a o):∃ ob,h.get? a=some ob:=by
 cases o with
 | lst xs=>obtain⟨_,_,_,_,e⟩:=x;exact⟨_,e⟩
 | tup xs=>obtain⟨_,_,_,o,e,_⟩:=x;exact⟨_,e⟩
 | dK kvs=>obtain⟨_,_,_,_,o,_,_,e,_⟩:=x;exact⟨_,e⟩
 | dT kvs=>obtain⟨_,_,_,_,o,_,_,e,_⟩:=x;exact⟨_,e⟩
 | set S n=>obtain⟨o,_,_,_,e,_⟩:=x;exact⟨_,e⟩
 | ins C dx fs=>obtain⟨_,_,_,e,_⟩:=x;exact⟨_,e⟩
 | own y=>exact x
 | xd fs=>obtain⟨_,⟨_,_,_,e,_⟩,_⟩:=x;exact⟨_,e⟩
 | i0 lo hi=>obtain⟨_,_,_,e⟩:=x;exact⟨_,e⟩
 | aL ob u=>obtain⟨e,_⟩:=x;exact⟨_,e⟩
 | tbl ps=>exact⟨_,x⟩
 | met f y=>exact⟨_,x⟩
 | ext φ=>exact x.2.1
def Fp(X:Cx)(E:XK):Prop:=∀ (pins:List (abd × Obj)) (σ:L2.St) (H:Hp) (s:abe) (e C:abd) (vs:List aa9) (h':adz),Inv X pins σ H s->Heap.MadeExcOf s.heap h' e (.ref C) vs->E (.ref C) none H->X.xe (.ref e) { s with heap:=h' }
def Fq(C:abd)(E:XK)(ta:TA):TS:=λD σ H=>ta σ H λvs H1=>vs.length<=abu/\E (.ref C) none H1
section
theorem kW{x:Str}{np de pos:Pos}{e₀:aeV}{rest:List aeV}{ta:TA}{C:abd}{E:XK}(hx:Fp X E)(hg:Gl X x)(hm:X.mg x=some (.ref C))(xc:XC X.K C)(hc:X.calm=true)(ha:PA X (e₀::rest) ta)
 (hd:(x == ("__debug__" : Str))=false:=by decide) (he:abA (e₀::rest) X.env=(false,eval e₀ X.env)::abA rest X.env:=by rfl)
 (eJ:(adh de (abA rest X.env)).any (·.1)=false:=by rfl) :
 PS X (.Raise (some (.Call (.Name x np) (e₀::rest) [] de)) none pos) (Fq C E ta):=by
 intro pins s σ H D I h;obtain⟨tl,N,nm,q,bs,hdct,sn,sub,ab,col,dd,k0,k1,k2,k3,k5,mN,hC,hN,hni,T⟩:=Px I.ok.mod.kin xc;refine wpAny_Raise_call_subU (C:=C) (nm:=nm) (q:=q) (N:=N) (bs:=bs) (bm:=tl) (hdct:=hdct) (sn:=sn) (sub:=sub) (ab:=ab) (col:=col) (dd:=dd) (k0:=k0) (k1:=k1) (k2:=k2) (k3:=k3) (k5:=k5)
  afr (by decide +kernel) afr (mN:=mN) (T.hasType PySem.F.excBase_ValueError.hasBase) (I.ok.hd hc) (by rw[he];show (false || (adh de (abA rest X.env)).any (·.1))=false;rw[eJ];rfl) hni (qW I hg hm ⟨rfl,?_⟩ hd)
 have rC:=ha de pins s σ H _ I h;rw[he] at rC ⊢;refine ae2 (aci rC (λus s₂ h₂=>?_) λ_ _ y=>y);obtain⟨vs,H1,I1,r,hl,hE⟩:=h₂;exact⟨rfl,by rw[<- r.length];exact hl,I1.bk _ _ hC,hN.keeps I1.bk,T.keeps I1.bk,λh' e hm=>hx pins σ H1 s₂ e C us h' I1 hm hE⟩
end
section
variable{P:ab1}{w:acz}{K:aa0}{mg:Str->Option aa9}{base:adz}{N:List Str}{qual:Str}{scope:agP}{f:abd}{cd:aa9}{A:acP}{outer:List Env}{s:abe}{H:Hp}{E:XK}
theorem Fs(hf:env.frame=some L)(h:b∈a9 (env::outer)):b=L∨b∈a9 outer:=by unfold a9 at h;rw[ack,hf] at h;exact abl.mp h
theorem kX:Fp (fg (dN P w) P w K mg base N qual scope f cd A outer s H E) E:=by
 intro pins σ H1 s1 e C vs h1 I hx hE;have rD:(fg (dN P w) P w K mg base N qual scope f cd A outer s H E).A.frames=some (acS qual scope s.heap.objs.size f cd::outer):=I.ok.frames;have hF:s1.heap.FunFrames base (acS qual scope s.heap.objs.size f cd::outer):=I.stack;have bO:∀ env∈(acS qual scope s.heap.objs.size f cd::outer),∀ b,env.frame=some b->b∈a9 (acS qual scope s.heap.objs.size f cd::outer):=λenv he b hb=>aft.mpr ⟨env,he,hb⟩;have Pz:∀ b∈a9 (acS qual scope s.heap.objs.size f cd::outer),H1 b=none:=I.qT;have oN:∀ b o,s.heap.get? b=some o->b≠s.heap.objs.size:=λb o e=>abk (aa6 e);have kJ:∀ b o,s.heap.get? b=some o->b∉a9 outer->b∉a9 (acS qual scope s.heap.objs.size f cd::outer):=λb o e hb z=>by
  rcases Fs rfl z with z|z
  .exact oN b o e z
  .exact hb z
 have ub:Un (a9 outer) [] H H1 s.heap s1.heap:=I.base;refine wpAny_leaves_madeW (base:=agt s1.heap (a9 (acS qual scope s.heap.objs.size f cd::outer))) rD rfl (λb o q=>ahb _ q) (PySem.W.funFrames_hide hF bO) hx λh' t fl tup bt up=>?_;have stays:=fl.1;have o5:∀ b o,s1.heap.get? b=some o->b∉a9 (acS qual scope s.heap.objs.size f cd::outer)->(agt s1.heap (a9 (acS qual scope s.heap.objs.size f cd::outer))).get? b=some o:=λb o q hb=>ag0 _ q hb;have mq:∀ b∈a9 (acS qual scope s.heap.objs.size f cd::outer),∀ o,s1.heap.get? b=some o->∃ sl,h'.get? b=some { o with slots:=sl }:=λb hb o q=>by obtain⟨_,o',cW,hnf⟩:=hF.mem hb;rw[q] at cW;cases cW;exact up b o (hx.keeps b o q) hnf
 refine⟨e,.ref C,.ref t,H1,_,rfl,I.os,I.bare,⟨λb o q n hb cE=>?_,λb o q n hb cE=>?_,ub.free,λb o q cE=>?_,ub.fF,ub.eT,ub.fG⟩,λb o q n hb=>?_,λb o q hb=>?_,λa o q=>?_,?_,?_,fl,hE⟩
 .exact stays b o (o5 b o (ub.keep b o q n hb cE) (kJ b o q hb))
 .obtain⟨sl,e1⟩:=ub.slot b o q n hb cE;obtain⟨fb,e2⟩:=mq b (by unfold a9;rw[ack];exact abY _ hb) _ e1;exact⟨fb,e2⟩
 .obtain⟨o',e1⟩:=ub.there b o q cE;by_cases hb:b∈a9 (acS qual scope s.heap.objs.size f cd::outer)
  .obtain⟨sl,e2⟩:=mq b hb o' e1;exact⟨_,e2⟩
  .exact⟨o',stays b o' (o5 b o' e1 hb)⟩
 .exact o5 b o (ub.keep b o q n hb (by simp)) (kJ b o q hb)
 .obtain⟨o',e1⟩:=ub.there b o q (by simp);exact⟨o',o5 b o' e1 (kJ b o q hb)⟩
 .refine (I.ay a o q).gp (λb u hb z=>o5 b u z λhm=>?_) (λ_ z=>z) λ_ _ z=>z;have:=Pz b hm;rcases hb with hb|hb
  .rw[hb,q] at this;cases this
  .rw[hb] at this;cases this
 .cases q:H1 e with
  | none=>rfl
  | some u =>
   obtain⟨ob,z⟩:=bN.some (I.ay e u q);rw[hx.new] at z;cases z
 .cases q:s.heap.get? e with
  | none=>rfl
  | some u =>
   obtain⟨o',z⟩:=ub.there e u q (by simp);rw[hx.new] at z;cases z
theorem df:Passes (dN P w) (fg (dN P w) P w K mg base N qual scope f cd A outer s H E) E:=by
 intro pins σ H1 s1 ev s2 I cx;obtain⟨x,cls,a0,H',B,rfl,os,bare,un,kb,tb,ay,hx,hn,fl,hE⟩:=cx;have rD:(fg (dN P w) P w K mg base N qual scope f cd A outer s H E).A.frames=some (acS qual scope s.heap.objs.size f cd::outer):=I.ok.frames;have hF:s1.heap.FunFrames base (acS qual scope s.heap.objs.size f cd::outer):=I.stack;have oN:∀ b o,s.heap.get? b=some o->b≠s.heap.objs.size:=λb o e=>abk (aa6 e);have kJ:∀ b o,s.heap.get? b=some o->b∉a9 outer->b∉a9 (acS qual scope s.heap.objs.size f cd::outer):=λb o e hb z=>by
  rcases Fs rfl z with z|z
  .exact oN b o e z
  .exact hb z
 have PB:∀ b,b∈a9 outer->b∈a9 (acS qual scope s.heap.objs.size f cd::outer):=λb hb=>by unfold a9;rw[ack];exact abY _ hb
 have ub:Un (a9 outer) [] H H1 s.heap s1.heap:=I.base;have Ft:Un (a9 (acS qual scope s.heap.objs.size f cd::outer)) [] H1 H' s1.heap s2.heap:=un;have Fu:∀ b o,s1.heap.get? b=some o->H1 b=none->b∉a9 (acS qual scope s.heap.objs.size f cd::outer)->B.get? b=some o:=kb;have bY:∀ b o,s1.heap.get? b=some o->b∉a9 (acS qual scope s.heap.objs.size f cd::outer)->∃ o',B.get? b=some o':=tb;have yI:∀ b∈a9 (acS qual scope s.heap.objs.size f cd::outer),H1 b=none:=I.qT;refine wpAny_leaves_onW rD rfl fl λh' vB up=>?_;have stays:=vB.1;have mq:∀ b∈a9 (acS qual scope s.heap.objs.size f cd::outer),∀ o,s1.heap.get? b=some o->∃ sl,h'.get? b=some { o with slots:=sl }:=λb hb o q=>by obtain⟨_,o',cW,hnf⟩:=hF.mem hb;rw[q] at cW;cases cW;obtain⟨sl,e1⟩:=Ft.slot b o q (yI b hb) hb (by simp);obtain⟨fb,e2⟩:=up b _ e1 hnf;exact⟨fb,e2⟩
 refine⟨x,cls,a0,H',B,rfl,os.trans I.os,bare,⟨λb o q n hb cE=>?_,λb o q n hb cE=>?_,λb o q n cE=>?_,λb o q cE=>?_,λb xs q=>un.fF _ _ (ub.fF _ _ q),λb o u q=>un.eT _ _ _ (ub.eT _ _ _ q),λb ps q=>?_⟩,λb o q n hb=>?_,λb o q hb=>?_,ay,hx,?_,vB,hE⟩
 .exact stays b o (Fu b o (ub.keep b o q n hb cE) (ub.free b o q n cE) (kJ b o q hb))
 .obtain⟨sl,e1⟩:=ub.slot b o q n hb cE;obtain⟨fb,e2⟩:=mq b (PB b hb) _ e1;exact⟨fb,e2⟩
 .obtain⟨o',e1⟩:=ub.there b o q cE;exact Ft.free b o' e1 (ub.free b o q n cE) (by simp)
 .obtain⟨o',e1⟩:=ub.there b o q cE;by_cases hb:b∈a9 (acS qual scope s.heap.objs.size f cd::outer)
  .obtain⟨sl,e2⟩:=mq b hb o' e1;exact⟨_,e2⟩
  .obtain⟨o2,e2⟩:=bY b o' e1 hb;exact⟨o2,stays b o2 e2⟩
 .obtain⟨m1,e1⟩:=ub.fG b ps q;obtain⟨m2,e2⟩:=un.fG b _ e1;exact⟨m1++m2,by rw[e2,ahc]⟩
 .exact Fu b o (ub.keep b o q n hb (by simp)) (ub.free b o q n (by simp)) (kJ b o q hb)
 .obtain⟨o',e1⟩:=ub.there b o q (by simp);exact bY b o' e1 (kJ b o q hb)
 .cases q:s.heap.get? x with
  | none=>rfl
  | some u =>
   obtain⟨o',z⟩:=ub.there x u q (by simp);rw[hn] at z;cases z
theorem jb{x qual:Str}{st:acM}{f:abd}{fd:aea}{N ps:List Str}{k:Nat}{sp:Sp}(F:nA K x qual st f fd)(S:rk N ps (dM st))(len:∀ vs H Q E,sp vs H Q E->vs.length=ps.length)
 (hJ:∀ (a7:aa9) (A:acP) (outer:List Env) (s:abe) (H:Hp) (vs:List V) (Q:VK) (E:XK),cc k (A.deeper (acS qual (dM st) s.heap.objs.size f a7))->sp vs H Q E ->
   ∃ t,aR (fg (dN P w) P w K mg base N qual (dM st) f a7 A outer s H E) (iF st) t/\t { nx:=λ_ H'=>Q .non H',rt:=Q } (start N vs) H):ff P w K mg base (dN P w) (k+1) f fd ps sp:=by
 obtain⟨oc,od,kV,doc,pm,an,a7,ct,jY,rfl,lk,fW⟩:=F.ex;refine Ez lk fW S len λA outer s H vs Q E hr iD=>?_;exact hJ a7 A outer s H vs Q E hr iD
end
noncomputable abbrev Xp(X:Cx)(F:aa9->abe->Prop)(pn:List (abd × Obj)):Cx:={ X with xe:=F,pn:=pn }
noncomputable abbrev Xh(X:Cx)(A':acP)(pn:List (abd × Obj)):Cx:={ X with A:=A',calm:=false,xe:=λ_ _=>False,pn:=pn }
def PD(K:aa0)(m i:Nat)(G:abd)(tb th:TS)(E':XK):TS:=λD σ H=>tb D σ H/\∀ cls H',E' cls none H'->∃ C,cls = .ref C/\afD K (.ref C) (.ref G)=some true /\
 ∀ a,H' a=none->th { nx:=λσ' H2=>D.nx (σ'.set i none) H2,rt:=D.rt,bk:=λσ' H2=>D.bk (σ'.set i none) H2,ct:=λσ' H2=>D.ct (σ'.set i none) H2 } ((adp m none).set i (some (.ref a))) (upd H' a (iH a C))
section
theorem PF(ok:X.Ok):(Xp X F pn).Ok:=⟨ok.mod,ok.kind,ok.glob,ok.blt,ok.above,ok.inj,ok.has,ok.cab,ok.hd,ok.frames,ok.stk,ok.exf,ok.bs,ok.bsz,ok.noex,ok.exfs,ok.fV,ok.frf⟩
theorem Fv(ok:(Xp X F pn).Ok):X.Ok:=⟨ok.mod,ok.kind,ok.glob,ok.blt,ok.above,ok.inj,ok.has,ok.cab,ok.hd,ok.frames,ok.stk,ok.exf,ok.bs,ok.bsz,ok.noex,ok.exfs,ok.fV,ok.frf⟩
theorem PH(ok:X.Ok)(hA:A'.frames=X.A.frames):(Xh X A' pn).Ok:=⟨ok.mod,ok.kind,ok.glob,ok.blt,ok.above,ok.inj,ok.has,ok.cab,(λz=>nomatch z),hA.trans ok.frames,ok.stk,ok.exf,ok.bs,ok.bsz,ok.noex,ok.exfs,ok.fV,ok.frf⟩
theorem PJ(I:Inv X pins σ H s):Inv (Xp X F (X.pn++pins)) [] σ H s:=⟨PF I.ok,I.os,I.bare,I.base,I.loc,I.cell,I.free,I.fH,λp hp=>I.pin p (by simpa using hp),I.ay,I.len⟩
theorem vC(I:Inv (Xp X F (X.pn++pins)) [] σ H s):Inv X pins σ H s:=⟨Fv I.ok,I.os,I.bare,I.base,I.loc,I.cell,I.free,I.fH,λp hp=>I.pin p (by simpa using hp),I.ay,I.len⟩
theorem Fw(I:Inv (Xp X F pn) xU σ H s)(hA:A'.frames=X.A.frames):Inv (Xh X A' pn) [] σ H s :=
 ⟨PH (Fv I.ok) hA,I.os,I.bare,I.base,I.loc,I.cell,I.free,I.fH,λp hp=>I.pin p (by simp at hp;exact acK _ hp),I.ay,I.len⟩
theorem SP.PK(h:SP (Xp X F (X.pn++pins)) [] D f s'):SP X pins D f s':=by
 cases f with
 | next=>obtain⟨σ',H',I,q⟩:=h;exact⟨σ',H',vC I,q⟩
 | brk=>obtain⟨σ',H',I,q⟩:=h;exact⟨σ',H',vC I,q⟩
 | cont=>obtain⟨σ',H',I,q⟩:=h;exact⟨σ',H',vC I,q⟩
 | ret u=>obtain⟨v,σ',H',I,r,q⟩:=h;exact⟨v,σ',H',vC I,r,q⟩
theorem vD(jb:X.Ok)(I:Inv (Xh X A' (X.pn++pins)) [] σ H s)(hN:X.N.Nodup)(hi:X.N[i]?=some n)(hl:X.env.scope.names.lookup n=some .local)(h:∀ s',Inv X pins (σ.set i none) H s'->Q () s'):abm M A (do bindName X.env n .none;unbindBehindTheSuite X.env n hpos) Q E s:=by
 obtain⟨m,hn,hlk⟩:=id I.loc;have xW:(X.env.scope.kind == .class || (X.env.scope.kind == .module && X.env.locals != X.env.globals))=false:=by rw[I.ok.kind];rfl
 have gQ:∀ x c,X.env.cells.lookup x=some c->c≠X.env.locals:=I.gQ;have Fx:H X.env.locals=none:=I.free;obtain⟨oL,_,_,DL,_⟩:=id hn;refine wpAny_nameGoes_keeps hl hn xW λh' v jR hs=>?_;have tracked:bW X.prog X.w H h':=λb ob e=>by
  refine (I.ay b ob e).gp (λc w' hc q=>(hs.2 c ?_).trans q) (λ_ q=>q) λ_ _ q=>q;rintro rfl;rcases hc with hc|hc
  .rw[<- hc,Fx] at e;cases e
  .rw[Fx] at hc;cases hc
 have fK:X.s₀.heap.objs.size<=X.env.locals:=jb.above;refine h _ ⟨jb,I.os,I.bare,⟨λb o e nn hb hx=>?_,λb o e nn hb hx=>?_,I.base.free,λb o e hx=>?_,I.base.fF,I.base.eT,I.base.fG⟩,⟨_,jR,λj y v' e1 e2 e3=>?_⟩,λy c e=>?_,I.free,I.fH,λp hp=>?_,tracked,by simpa using I.len⟩
 .exact (hs.2 b (abk (abn (aa6 e) fK))).trans (I.base.keep b o e nn hb hx)
 .obtain⟨sl,e1⟩:=I.base.slot b o e nn hb hx;exact⟨sl,(hs.2 b (abk (abn (aa6 e) fK))).trans e1⟩
 .obtain⟨o',e1⟩:=I.base.there b o e hx;exact⟨o',(hs.2 b (abk (abn (aa6 e) fK))).trans e1⟩
 .have Fy:j≠i:=by
   rintro rfl;by_cases aU:j<σ.length
   .rw[aes aU] at e2;cases e2
   .rw[acE (by rw[agB];lia)] at e2;cases e2
  rw[ae0 (ab4 Fy)] at e2;obtain⟨u',r',q⟩:=hlk j y v' e1 e2 e3;refine⟨u',r',?_⟩;rcases q with ⟨k,e⟩|⟨k,c,e,z⟩
  .refine .inl ⟨k,?_⟩;have:y≠n:=λe=>Fy (xV hN e1 (e ▸ hi));simp[this,e]
  .exact .inr ⟨k,c,e,z.sameBut hs (gQ y c e)⟩
 .obtain⟨w',z⟩:=I.cell y c e;exact⟨w',z.sameBut hs (gQ y c e)⟩
 .obtain⟨e,nn,ne,nf,d⟩:=I.pin p (by simpa using hp);exact⟨(hs.2 p.1 ne).trans e,nn,ne,nf,d⟩
theorem PL(E':XK)(i:Nat)(cX:X.stack=X.env::X.outer)(PM:X.env.frame=some X.env.locals)(hg:Gl X x)(hm:X.mg x=some (.ref G))(hN:X.N.Nodup)(hi:X.N[i]?=some n)(hl:X.env.scope.names.lookup n=some .local)(hb:∀ F pn,Passes (dN X.prog X.w) (Xp X F pn) E'->aR (Xp X F pn) body tb)(hh:∀ A' pn,aR (Xh X A' pn) (b₀::suite) th)(hd:(x == ("__debug__" : Str))=false:=by decide)(hf:X.fn n=true∨X.env.scope.names.lookup n=some .local:=by first|exact .inl rfl|exact .inr rfl|assumption) :
 PS X (.Try body [.ExceptHandler (some (.Name x np)) (some n) (b₀::suite) hpos] [] [] pos) (PD X.K X.N.length i G tb th E'):=by
 intro pins s σ H D I h;obtain⟨h1,h2⟩:=h;refine wpAny_Try_except ?_;refine aci (hb (λe s₁=>abm (model X.prog X.w) X.A (noteFrame e X.env) (λ_ s₂=>abm (model X.prog X.w) X.A (setFlight e none) (λ_ s₃=>abm (model X.prog X.w) X.A (handleBy e X.env [.ExceptHandler (some (.Name x np)) (some n) (b₀::suite) hpos]) (SP X pins D) X.xe s₃) X.xe s₂) X.xe s₁) (X.pn++pins) ?_ [] s σ H D (PJ I) h1) (λf s1 q=>?_) λe s1 q=>q
 .intro xU σ' H1 s1 ev s2 I1 cx;obtain⟨xx,cls,a0,H',B,rfl,os,bare,un,kb,bY,ay,hx,hn,fl,hE⟩:=cx;obtain⟨C,rfl,iI,hth⟩:=h2 cls H' hE;have jb:=I.ok;have rD:X.A.frames=some (X.env::X.outer):=by rw[<- cX];exact jb.frames
  have vB:ahV B (X.env::X.outer) xx (.ref C) a0 s2.heap:=by have z:ahV B X.stack xx (.ref C) a0 s2.heap:=fl;rw[cX] at z;exact z
  have hF:s1.heap.FunFrames X.base X.stack:=I1.stack;have yI:∀ b∈a9 X.stack,H1 b=none:=I1.qT;have Fz:∀ h:adz,B.StaysIn h->s2.heap.UpToSlots h->Un (a9 X.stack) [] H1 H' s1.heap h:=λh stays up=>by
   have mq:∀ b∈a9 X.stack,∀ o,s1.heap.get? b=some o->∃ sl,h.get? b=some { o with slots:=sl }:=λb hb o q=>by obtain⟨_,o',cW,hnf⟩:=hF.mem hb;rw[q] at cW;cases cW;obtain⟨sl,e1⟩:=un.slot b o q (yI b hb) hb (by simp);obtain⟨fb,e2⟩:=up b _ e1 hnf;exact⟨fb,e2⟩
   refine⟨λb o q nn hb cE=>stays b o (kb b o q nn hb),λb o q nn hb cE=>mq b hb o q,un.free,λb o q cE=>?_,un.fF,un.eT,un.fG⟩;by_cases hb:b∈a9 X.stack
   .obtain⟨sl,e2⟩:=mq b hb o q;exact⟨_,e2⟩
   .obtain⟨o2,e2⟩:=bY b o q hb;exact⟨o2,stays b o2 e2⟩
  refine wpAny_looks_onW rD PM vB λh₄ PN PQ=>?_;refine wpAny_landsW PN λh₅ vE PR=>?_;have FA:s2.heap.UpToSlots h₅:=PQ.trans PR;have I5:Inv (Xh X (X.A.mark (some (.ref xx))) (X.pn++pins)) [] σ' H' { s2 with heap:=h₅ }:=by
   refine Fw (I1.xZ (s':={ s2 with heap:=h₅ }) (ch:=[]) os (Fz h₅ vE.1 FA) (ay.kept λb u q=>vE.1 b u q) bare (λb z=>absurd z (by simp))) ?_
   first|rfl|simp
  refine wpAny_handleBy_cons (codeAny_handlers_test ?_) (by intro q;cases q);refine qW (X:=Xh X (X.A.mark (some (.ref xx))) (X.pn++pins)) I5 hg hm ?_ hd;obtain⟨ob,hob,hobc⟩:=vE.there;have LT:PySem.W.Looks (model X.prog X.w) h₅ (ai8 (.ref xx)) (.ref C):=hobc ▸ (PySem.W.Looks.ld hob).andThen .now;refine (PySem.W.exm_one (M:=model X.prog X.w) (h:=h₅) I5.cL LT iI).here ?_;refine codeAny_handlers_suite_as ?_;refine lands_againW vE λh₆ yJ PU=>?_;have PV:s2.heap.UpToSlots h₆:=FA.trans PU;obtain⟨oe,hoe,hoec⟩:=yJ.there;have u6:=Fz h₆ yJ.1 PV;have PX:∀ b o,s1.heap.get? b=some o->b≠xx:=λb o q z=>by rw[z,hn] at q;cases q
  have rE:∀ b o,H' b=some o->b≠xx:=λb o q z=>by rw[z,hx] at q;cases q
  have PY:Un (a9 X.stack) [] H1 (upd H' xx (iH xx C)) s1.heap h₆:=by
   refine⟨u6.keep,u6.slot,λb o q nn cE=>?_,u6.there,λb xs q=>?_,λb o u q=>?_,λb ps q=>?_⟩
   .rw[aB (PX b o q)];exact u6.free b o q nn cE
   .have:=u6.fF b xs q;rw[aB (rE b _ this)];exact this
   .have:=u6.eT b o u q;rw[aB (rE b _ this)];exact this
   .obtain⟨more,z⟩:=u6.fG b ps q;exact⟨more,by rw[aB (rE b _ z)];exact z⟩
  have PZ:bW X.prog X.w (upd H' xx (iH xx C)) h₆:=λb u q=>by
   by_cases cf:b=xx
   .subst cf;rw[aw] at q;cases q;exact Py hoe hoec
   .rw[aB cf] at q;exact (ay b u q).gp (λc v _ z=>yJ.1 c v z) (λc z=>by rw[aB (rE c _ z)];exact z) λc xs z=>by rw[aB (rE c _ z)];exact z
  have I6:Inv (Xh X (X.A.mark (some (.ref xx))) (X.pn++pins)) [] σ' (upd H' xx (iH xx C)) { s2 with heap:=h₆ }:=by
   refine Fw (I1.xZ (s':={ s2 with heap:=h₆ }) (ch:=[]) os PY PZ bare (λb z=>absurd z (by simp))) ?_
   first|rfl|simp
  have I7:Inv (Xh X (X.A.mark (some (.ref xx))) (X.pn++pins)) [] (adp X.N.length none) (upd H' xx (iH xx C)) { s2 with heap:=h₆ } :=
   I6.weak (by rw[aeN,I6.len]) λj v z=>by rw[adC] at z;split at z<;>cases z
  refine xY (X:=Xh X (X.A.mark (some (.ref xx))) (X.pn++pins)) (v:=.ref xx) I7 hN hi (.inl hl) rfl (λs8 I8=>?_) hf;refine aci (hh (X.A.mark (some (.ref xx))) (X.pn++pins) [] s8 _ _ _ I8 (hth xx hx)) (λfl s9 q=>?_) λ_ _ z=>z.elim;cases fl with
  | next =>
   obtain⟨σ9,H9,I9,q⟩:=q;exact vD jb I9 hN hi hl λs' J=>⟨_,_,J,q⟩
  | brk =>
   obtain⟨σ9,H9,I9,q⟩:=q;exact vD jb I9 hN hi hl λs' J=>⟨_,_,J,q⟩
  | cont =>
   obtain⟨σ9,H9,I9,q⟩:=q;exact vD jb I9 hN hi hl λs' J=>⟨_,_,J,q⟩
  | ret u =>
   obtain⟨v,σ9,H9,I9,r,q⟩:=q;exact vD jb I9 hN hi hl λs' J=>⟨v,_,_,J,r,q⟩
 .have q':=SP.PK q;cases f with
  | next =>
   obtain⟨σ',H',I',q'⟩:=q';exact ae8 ⟨σ',H',I',q'⟩
  | brk=>exact q'
  | cont=>exact q'
  | ret u=>exact q'
end
theorem P4{K:aa0}{C G:abd}{cd:ClassData}{b:Bool}(h1:ahk K G=some cd)(h2:afB K (.ref G)=some (.type "type"))(h3:aem K (.ref C) (.ref G)=some b)(h4:aem K (.ref G) (.type "BaseException")=some true) :
 afD K (.ref C) (.ref G)=some b:=by
 unfold afD;rw[if_pos (by rw[h4];rfl)];show (if ((ahk K G).isSome && afB K (.ref G) == some (.type "type"))=true then aem K (.ref C) (.ref G) else none)=some b;rw[if_pos (by rw[h1,h2];rfl)];exact h3
local macro_rules | `(tactic| walk_at "o") => `(tactic| ((try simp only [PySem.Addr] at *); lia))
inductive kY(X:Cx)(scope:agP)(cl:List (Str × abd)):List Nat->List Str->Prop where
 | nil:kY X scope cl [] []
 | cons {j:Nat} {y:Str} {c:abd} {js:List Nat} {ys:List Str} (hN:X.N[j]?=some y) (hk:X.env.kindOf y=some .cell) (h1:cl.lookup y=some c) (h2:X.env.cells.lookup y=some c) (h:kY X scope cl js ys):kY X scope cl (j::js) (y::ys)
inductive nB(X:Cx):List (Str × abd)->Prop where
 | nil:nB X []
 | cons {n:Str} {a:abd} {r:List (Str × abd)} (h:X.env.cells.lookup n=some a) (t:nB X r):nB X ((n,a)::r)
theorem nB.get:∀ {cl:List (Str × abd)},nB X cl->∀ y c,cl.lookup y=some c->X.env.cells.lookup y=some c
 | _,.nil,y,c,e=>by simp at e
 | _,.cons (n:=n) h t,y,c,e=>by
  rw[List.lookup_cons] at e;by_cases hy:(y == n)=true
  .rw[hy] at e;have e1:y=n:=by simpa using hy
   cases e;rw[e1];exact h
  .rw[acD.mpr hy] at e;exact t.get y c e
theorem kY.get{X:Cx}{scope:agP}{cl:List (Str × abd)}{σ:L2.St}:∀ {js:List Nat} {ys:List Str},kY X scope cl js ys->∀ (i:Nat) (y:Str) (v:V),ys[i]?=some y->(js.map λj=>(σ[j]?).join)[i]?=some (some v) ->
 ∃ (j:Nat) (c:abd),X.N[j]?=some y/\σ[j]?=some (some v)/\X.env.kindOf y=some .cell/\cl.lookup y=some c/\X.env.cells.lookup y=some c
 | _,_,.nil,i,y,v,e,_=>by simp at e
 | _,_,.cons (j:=j) hN hk h1 h2 h,0,y,v,e,q=>by
  simp at e q;subst e;refine⟨j,_,hN,?_,hk,h1,h2⟩;cases z:σ[j]? with
  | none=>rw[z] at q;simp at q
  | some o=>rw[z] at q;simp at q;rw[q]
 | _,_,.cons hN hk h1 h2 h,i+1,y,v,e,q=>by simp only[adE,abj] at e q;exact h.get i y v e q
theorem kY.len:∀ {js:List Nat} {ys:List Str},kY X scope cl js ys->js.length=ys.length
 | _,_,.nil=>rfl
 | _,_,.cons _ _ _ _ h=>by simp[h.len]
noncomputable def dP(X:Cx)(N':List Str)(scope:agP)(cl:List (Str × abd))(C:abd)(s2:abe)(H2:Hp)(ex:List abd)(pn:List (abd × Obj)):Cx :=
 { X with N:=N',s₀:=s2,H₀:=H2,env:=aiU scope cl C X.env,outer:=X.stack,ex:=ex,fn:=λ_=>false,pn:=pn,xe:=λ_ _=>False }
structure bU(X:Cx)(x:Str)(scope:agP)(cl:List (Str × abd))(fr:List Nat)(ys:List Str):Prop where
 clos:closureFor scope X.env=pure cl
 nocell:(scope.names.all λp=>p.2 != .cell)=true
 kind:scope.kind = .function
 names:(scope.names.all λp=>p.2 != .local || scope.names.lookup p.1 == some .local)=true
 own:scope.names.lookup x=some .local
 kinds:((relabel scope X.env).names.all λp=>(p.2 != .cell && p.2 != .free) || (cl.lookup p.1).isSome)=true
 cls:nB X cl
 a9:kY X scope cl fr ys
 nd:(x::ys).Nodup
 kfr:(ys.all λy=>(relabel scope X.env).names.lookup y == some .cell)=true
def kZ(X:Cx)(ifs:List aeV)(t:TT):Prop :=
 ∀ (pins:List (abd × Obj)) (s:abe) (σ:L2.St) (H:Hp) (Q:Bool->Hp->Prop),Inv X pins σ H s->t σ H Q ->
  abm (model X.prog X.w) X.A (forIn ifs true λc r=>if r=true then do let ok <- ai4 c X.env (eval c X.env);pure (afe ok) else pure (afe r)) (TP X pins σ Q) X.xe s
def yK:TT:=λ_ H Q=>Q true H
theorem dg:kZ X [] yK:=λ_ _ _ H _ I h=>wpAny_tests_nil ⟨H,I,h⟩
theorem jc(hc:PT X c t):kZ X [c] t:=λpins s σ H Q I h=>wpAny_tests_one (hc pins s σ H Q I h)
def mr(J:It)(ρ:L2.St)(tt:TT)(te:TE)(H:Hp)(Q:VK):Prop:=∃ W:Nat->Nat->List V->Hp->Prop,(∃ m,W 0 m [] H)/\∀ i m ys H,W i m ys H ->
 (J.stop i H/\ys.length<=abu/\∀ l,H l=none->Q (.ref l) (upd H l (.lst ys)))∨(J.go i H/\ys.length<abu/\∃ N:List V->Hp->Prop,(∀ zs H',N zs H'->∃ m',m'<m/\W (i+1) m' zs H') /\
  ∀ x H',J.yld i H x H'->tt (some x::ρ) H' λb H1=>if b=true then te (some x::ρ) H1 λy H2=>N (ys++[y]) H2 else N ys H1)
def yL(wi:TI)(fr:List Nat)(tt:TT)(te:TE):TE:=λσ H Q=>wi σ H λJ H1=>mr J (fr.map λj=>(σ[j]?).join) tt te H1 Q
structure j7(X:Cx)(own:List Str)(scope:agP)(cl:List (Str × abd))(fr:List Nat)(ys:List Str):Prop where
 clos:closureFor scope X.env=pure cl
 nocell:(scope.names.all λp=>p.2 != .cell)=true
 kind:scope.kind = .function
 names:(scope.names.all λp=>p.2 != .local || scope.names.lookup p.1 == some .local)=true
 kinds:((relabel scope X.env).names.all λp=>(p.2 != .cell && p.2 != .free) || (cl.lookup p.1).isSome)=true
 cls:nB X cl
 a9:kY X scope cl fr ys
 kfr:(ys.all λy=>(relabel scope X.env).names.lookup y == some .cell)=true
def jd(k:Nat)(J:It)(g:TG)(ρ:L2.St)(tt:TT)(te:TE)(H:Hp)(Q:VK):Prop:=∃ W:Nat->Nat->List V->Hp->Prop,(∃ m,W 0 m [] H)/\∀ i m ys H,W i m ys H ->
 (J.stop i H/\ys.length<=abu/\∀ l,H l=none->Q (.ref l) (upd H l (.lst ys)))∨(J.go i H/\ys.length<abu/\∃ N:List V->Hp->Prop,(∀ zs H',N zs H'->∃ m',m'<m/\W (i+1) m' zs H') /\
  ∀ os:List (Option V),os.length=k->∀ x H',J.yld i H x H'->g x (os++ρ) H' λσ2 H2=>∃ oT,oT.length=k/\σ2=oT++ρ/\tt σ2 H2 λb H1=>if b=true then te σ2 H1 λy H2=>N (ys++[y]) H2 else N ys H1)
def FC(k:Nat)(wi:TI)(g:TG)(fr:List Nat)(tt:TT)(te:TE):TE:=λσ H Q=>wi σ H λJ H1=>jd k J g (fr.map λj=>(σ[j]?).join) tt te H1 Q
theorem P5(I:Nat->abe->Prop)(turn:∀ n s,I n s->abm (model prog w) A (adP it) (λr s₁=>match r with
 | none=>R (.ok .next) s₁
 | some v=>abm (model prog w) A (afa target it v) (λ_ FD=>abm (model prog w) A (assign target env v) (λ_ s₂ =>
  abm (model prog w) A (forIn ifs true λc r=>if r=true then do let ok <- ai4 c env (eval c env);pure (afe ok) else pure (afe r)) (λok s₃ =>
   if ok=true then abm (model prog w) A (eval elt env) (λx s₄ =>
    abm (model prog w) A (call (.builtin "list.append") [acc,x]) (λ_ s₅=>∃ m,m<n/\I m s₅) (aij (model prog w) A env λe s'=>R (.error e) s') s₄) (aij (model prog w) A env λe s'=>R (.error e) s') s₃
   else ∃ m,m<n/\I m s₃) (aij (model prog w) A env λe s'=>R (.error e) s') s₂) (aij (model prog w) A env λe s'=>R (.error e) s') FD) (aij (model prog w) A env λe s'=>R (.error e) s') s₁) (aij (model prog w) A env λe s'=>R (.error e) s') s) (n:Nat) (h:I n s) :
 ad0 (model prog w) A (.compLoop (.ListComp elt [⟨target,iter,ifs,0⟩] scope pos) 0 it acc env) R s:=by
 refine codeAny_loop rfl I (λn s hI=>?_) n h;show abm _ A ((compTurn (.ListComp elt [⟨target,iter,ifs,0⟩] scope pos) 0 it acc env).onRaise (λx=>do noteFrame x env;theTreesLotGoes x)) _ _ s;refine wpAny_noted ?_;rw[compTurn_list];refine aaZ (ahe (aaZ (aci (turn n s hI) (λr s₁ h₁=>?_) λ_ _ h'=>h')));cases r with
 | none=>exact aa4 h₁
 | some v =>
  refine aaZ (aci h₁ (λ_ FD P6=>?_) λ_ _ h'=>h');refine aaZ (aci P6 (λ_ s₂ h₂=>aaZ (aci h₂ (λok s₃ h₃=>?_) λ_ _ h'=>h')) λ_ _ h'=>h');cases ok with
  | false=>exact aa4 ⟨rfl,h₃⟩
  | true =>
   exact aaZ (aaZ (aci h₃ (λx s₄ h₄=>aaZ (aci h₄ (λ_ s₅ h₅=>aa4 (aa4 ⟨rfl,h₅⟩)) λ_ _ h'=>h')) λ_ _ h'=>h'))
theorem FE{l:List (Str × agN)}{p:Str × agN->Bool}(h:l.all p=true){y:Str}{k:agN}(e:l.lookup y=some k):p (y,k)=true:=by exact acx.mp h _ (ac3 e)
def yM(i:Nat)(te:TE):TS:=λD σ H=>te σ H λv H1=>D.nx (σ.set i (some v)) H1
section
theorem P8(S:j7 X own scope cl fr ys)(I2:Inv X pins σ H2 s2)(f2:∀ b∈ex,ed X pins H2 b)(hC:s2.heap.objs.size<=C)(hex:∀ b∈ex,b<s2.heap.objs.size):(dP X (own++ys) scope cl C s2 H2 ex pn).Ok:=by
 refine⟨I2.ok.mod,S.kind,I2.ok.glob,I2.ok.blt,hC,λa b c h1 h2=>?_,λy hy=>?_,λ_ _ z=>(nomatch z),I2.ok.hd,I2.ok.frames,.inl rfl,λb hb=>⟨?_,λy c e z=>?_⟩,I2.bs,abb I2.ok.bsz I2.sz,λb o e hb=>?_,λb hb z=>?_,I2.stack,I2.qT⟩
 .exact I2.ok.inj a b c (S.cls.get a c h1) (S.cls.get b c h2)
 .have P9:(relabel scope X.env).names.lookup y=some .cell∨(relabel scope X.env).names.lookup y=some .free:=hy;have q:(cl.lookup y).isSome=true:=by
   rcases P9 with e|e
   .simpa using FE S.kinds e
   .simpa using FE S.kinds e
  exact aeg.mp q
 .exact abk (abn (hex b hb) hC)
 .exact (f2 b hb).2.2.2.2.1 y c (S.cls.get y c e) z
 .obtain⟨_,_,_,d,_,_⟩:=f2 b hb;rcases d with d|d
  .exact I2.ok.noex b o e d
  .exact absurd (abn (aa6 e) (abb I2.ok.bsz d)) (acu _)
 .obtain⟨_,d1,d2,_⟩:=f2 b hb;rcases abl.mp (I2.oM b z) with q|q
  .exact d1 q
  .exact d2 q
noncomputable def je(X:Cx)(N':List Str)(fn:Str->Bool)(scope:agP)(cl:List (Str × abd))(C:abd)(s2:abe)(H2:Hp)(ex:List abd)(pn:List (abd × Obj)):Cx :=
 { X with N:=N',s₀:=s2,H₀:=H2,env:=aiU scope cl C X.env,outer:=X.stack,ex:=ex,fn:=fn,pn:=pn,xe:=λ_ _=>False }
theorem FF{C D:abd}{fp:List abd}(I2:Inv X pins σ H2 s2)(f2:∀ b∈fp,ed X pins H2 b)(hC:s2.heap.objs.size<=C)(hD:s2.heap.objs.size<=D):∀ p∈X.pn++pins,p.1≠C/\p.1≠D/\p.1∉a9 X.stack/\∀ b∈fp,p.1≠b:=λp hp=>by
 obtain⟨e,n,nL,nf,_⟩:=I2.pin p hp;have lt:=aa6 e;refine⟨by walk_at "o",by walk_at "o",λz=>?_,λb hb=>(f2 b hb).2.2.2.2.2 p hp⟩;rcases abl.mp (I2.oM _ z) with q|q
 .exact nL q
 .exact nf q
theorem Qa{J:It}{fp:List abd}{it C D:abd}{tn:Nat->adz->Prop}{Q:VK}{RR:aa9->abd->ahR->abe->Prop}{nm:List Str}{fn:Str->Bool}{k:Nat}{yN ρ:List (Option V)}{h1:adz}{tk:Nat}
 (hc:X.calm=true) (hg:PG (je X nm fn scope cl C s2 H2 fp (X.pn++pins)) tg g) (hb:kZ (je X nm fn scope cl C s2 H2 fp (X.pn++pins)) ifs tt/\PE (je X nm fn scope cl C s2 H2 fp (X.pn++pins)) elt te)
 (I2:Inv X pins σ H2 s2) (T:Turn X.prog X.w X.K tg J fp it tn) (gU:tn 0 s2.heap) (f2:∀ b∈fp,ed X pins H2 b)
 (h:jd k J g ρ tt te H2 Q)
 (yO:∀ D C s' H',Inv X pins σ H' s'->(∃ m,s'.heap.Ns C m)->ed X pins H' C->Q (.ref D) H'->RR (.ref D) C (.ok .next) s')
 (nC:yN.length=k) (I4:Inv (je X nm fn scope cl C s2 H2 fp (X.pn++pins)) [] (yN++ρ) H2 { s2 with heap:=h1,toks:=tk }) (keep:∀ b o,s2.heap.get? b=some o->h1.get? b=some o)
 (hD:h1.get? D=some { cls:=.type "list",data:=.seq ([]:List aa9).toArray 0 }) (eD:s2.heap.objs.size=D) (eC:s2.heap.objs.size+1=C)
 (bf:∀ y c,cl.lookup y=some c->c≠D/\∀ b∈fp,c≠b) :
 ad0 (model X.prog X.w) X.A (.compStart (.ListComp elt [⟨tg,iter,ifs,0⟩] scope pos) 0 (.ref it) (.ref D) (aiU scope cl C X.env)) (RR (.ref D) C) { s2 with heap:=h1,toks:=tk }:=by
 obtain⟨W,⟨m0,w0⟩,turn⟩:=h;have nD:D≠C:=by walk_at "o"
 have o6:s2.heap.objs.size<=C:=by walk_at "o"
 have rF:s2.heap.objs.size<=D:=by walk_at "o"
 have nE:∀ b∈fp,b<D:=λb hb=>by obtain⟨o,e,_⟩:=T.obj 0 _ gU b hb;exact eD ▸ aa6 e
 have Qb:∀ b,D<=b->b∉a9 X.stack:=λb hle z=>by
  rcases abl.mp (I2.oM b z) with q|q
  .have:=I2.lt;walk_at "o"
  .exact I2.DI (eD ▸ hle) q
 have yP:=FF I2 f2 o6 rF;have FG:tn 0 h1:=T.keep 0 _ _ gU λb _ o e=>keep b o e;have yQ:∀ (H':Hp) (o:Obj),(∀ b∈fp,H' b=none)->∀ b∈fp,ed (je X nm fn scope cl C s2 H2 fp (X.pn++pins)) [(D,o)] H' b:=λH' o hn b hb=>by
  obtain⟨_,d1,d2,d3,d4,d5⟩:=f2 b hb;have lt:=nE b hb;refine⟨hn b hb,?_,λz=>?_,.inl hb,λy c e z=>(bf y c e).2 b hb z,λp hp=>?_⟩
  .show b≠C;walk_at "o"
  .rcases abl.mp (I2.oM b z) with q|q
   .exact d1 q
   .exact d2 q
  .have cP:p∈(X.pn++pins)++[(D,o)]:=hp;rcases abD.mp cP with z|z
   .exact d5 p z
   .have:p=(D,o):=by simpa using z
    subst this;show D≠b;walk_at "o"
 have loop:∀ s':abe,s' = { s2 with heap:=h1,toks:=tk } ->
  ad0 (model X.prog X.w) X.A (.compLoop (.ListComp elt [⟨tg,iter,ifs,0⟩] scope pos) 0 (.ref it) (.ref D) (aiU scope cl C X.env)) (RR (.ref D) C) s':=by
  rintro s' rfl;refine P5 (λn s'=>∃ i zs H' os ar nn,os.length=k/\Inv (je X nm fn scope cl C s2 H2 fp (X.pn++pins)) [] (os++ρ) H' s'/\tn i s'.heap/\(∀ b∈fp,H' b=none)/\H' D=none /\
   s'.heap.get? D=some { cls:=.type "list",data:=.seq (ar:List aa9).toArray nn }/\Vals zs ar/\W i n zs H') ?_ m0 ⟨0,[],H2,yN,[],0,nC,I4,FG,λb hb=>(f2 b hb).1,I2.ay.fresh rF,hD,.nil,w0⟩
  rintro n s3 ⟨i,zs,H3,FH,ar,nn,Qc,I3,rd,rf,yS,Qd,r3,w3⟩;have FI:Inv (je X nm fn scope cl C s2 H2 fp (X.pn++pins)) [(D,{ cls:=.type "list",data:=.seq ar.toArray nn })] (FH++ρ) H3 s3:=I3.qV λp hp=>by
   have:p=(D,{ cls:=.type "list",data:=.seq ar.toArray nn }):=by simpa using hp
   subst this;exact⟨Qd,yS,nD,Qb D (aba _),λv z=>nomatch z⟩
  rcases turn i n zs H3 w3 with ⟨stop,hlen,q⟩|⟨go,hlen,N,FK,step⟩
  .refine aci (T.done (je X nm fn scope cl C s2 H2 fp (X.pn++pins)) rfl rfl rfl hc i _ s3 _ H3 (λ_ _=>False) FI (yQ H3 _ rf) rd stop) (λr s4 zq=>?_) λ_ _ z=>z.elim;obtain⟨hr,J4⟩:=zq;subst hr;have un:=J4.base;have Qe:∀ b o,s2.heap.get? b=some o->b≠D:=λb o e=>by have:=aa6 e;walk_at "o"
   have k6:∀ b u,H3 b=some u->b≠D:=λb u e z=>by rw[z,yS] at e;cases e
   refine yO D C s4 (upd H3 D (.lst zs)) ?_ ?_ ?_ (q D yS)
   .refine I2.xZ (ch:=fp) J4.os ⟨un.keep,un.slot,λb o e nn hx=>?_,un.there,λb xs e=>?_,λb o u e=>?_,λb ps e=>?_⟩ (λa o e=>?_) J4.bare λb hb=>?_
    .rw[aB (Qe b o e)];exact un.free b o e nn hx
    .have:=un.fF b xs e;rw[aB (k6 b _ this)];exact this
    .have:=un.eT b o u e;rw[aB (k6 b _ this)];exact this
    .obtain⟨more,this⟩:=un.fG b ps e;exact⟨more,by rw[aB (k6 b _ this)];exact this⟩
    .by_cases ha:a=D
     .subst ha;rw[aw] at e;cases e;exact⟨hlen,ar,nn,r3,(J4.pin (a,_) (abC _ (abp.mpr rfl))).1⟩
     .rw[aB ha] at e;exact (J4.ay a o e).gp (λ_ _ _ z=>z) (λb z=>by rw[aB (k6 b _ z)];exact z) λb xs z=>by rw[aB (k6 b _ z)];exact z
    .obtain⟨_,d1,d2,d3,d4,d5⟩:=f2 b hb;exact⟨d3,d1,d4,d5⟩
   .obtain⟨m,hm,_⟩:=J4.loc;exact⟨m,hm⟩
   .exact I2.iB o6 (by rw[aB (ab4 nD)];exact J4.free)
  .refine aci (T.item (je X nm fn scope cl C s2 H2 fp (X.pn++pins)) rfl rfl rfl hc i _ s3 _ H3 (λ_ _=>False) FI (yQ H3 _ rf) rd go) (λr s4 zq=>?_) λ_ _ z=>z.elim;obtain⟨u,hr,h4⟩:=zq;subst hr;refine aci h4 (λ_ s5 zq=>?_) λ_ _ z=>z.elim;obtain⟨y5,H5,I5,r5,yl,nr,yd⟩:=zq;have ye:=I5.pinned (yQ H5 _ yd) (T.obj _ _ nr);refine aci (hg _ s5 _ H5 y5 u _ ye r5 (step FH Qc y5 H5 yl)) (λ_ s6 zq=>?_) λ_ _ z=>z.elim;obtain⟨σ6,H6,I6,vF,FL,e6,q6⟩:=zq;subst e6;have after:∀ (s7:abe) (H7:Hp),Inv (je X nm fn scope cl C s2 H2 fp (X.pn++pins)) ([(D,{ cls:=.type "list",data:=.seq ar.toArray nn })]++q9 fp s5.heap) (vF++ρ) H7 s7 ->
    Inv (je X nm fn scope cl C s2 H2 fp (X.pn++pins)) [] (vF++ρ) H7 s7/\tn (i+1) s7.heap/\(∀ b∈fp,H7 b=none)/\H7 D=none/\s7.heap.get? D=some { cls:=.type "list",data:=.seq ar.toArray nn }:=λs7 H7 I7=>by
    have pD:=I7.pin (D,{ cls:=.type "list",data:=.seq ar.toArray nn }) (abC _ (acK _ (abp.mpr rfl)));refine⟨I7.qV λp hp=>absurd hp (by simp),T.keep _ _ _ nr λb hb o e=>(I7.pin (b,o) (abC _ (abC _ (vf hb e)))).1,λb hb=>?_,pD.2.1,pD.1⟩;obtain⟨o,e,_⟩:=T.obj _ _ nr b hb;exact (I7.pin (b,o) (abC _ (abC _ (vf hb e)))).2.1
   refine aci (hb.1 _ s6 _ H6 _ I6 q6) (λok s7 zq=>?_) λ_ _ z=>z.elim;obtain⟨H7,I7,q7⟩:=zq
   try dsimp only at q7
   by_cases ay:ok=true
   .rw[if_pos ay] at q7 ⊢;refine aci (hb.2 _ s7 _ H7 _ I7 q7) (λyv s8 zq=>?_) λ_ _ z=>z.elim;obtain⟨y8,H8,I8,r8,n8⟩:=zq;obtain⟨m',yT,w8⟩:=FK _ _ n8;obtain⟨J8,Qf,Qg,FN,yU⟩:=after s8 H8 I8;have hl:=r3.length;refine ahF ahj ⟨_,yU,rfl⟩ ag2 (agQ _ _) (ahG D ar.toArray nn yv (by rw[abg];walk_at "o")) ⟨yU,?_⟩;have FO:=PySem.IsL.update yU (λa=>a.push yv);rw[List.push_toArray] at FO;refine⟨m',yT,i+1,zs++[y8],H8,vF,ar++[yv],_,FL,J8.turned (it:=D) (λb o cf e=>(abq _ _ (ab4 cf)).trans e) FN nD (.inr rF) (λy c e z=>?_) (λp hp=>?_),T.keep _ _ _ Qf λb cf o e=>?_,Qg,FN,FO,r3.append (.cons r8 .nil),w8⟩
    .exact (bf y c e).1 z
    .have cP:p∈X.pn++pins:=by have:p∈(X.pn++pins)++[]:=hp;simpa using this
     exact (yP p cP).2.1
    .have:=nE b cf;exact (abq _ _ (by walk_at "o")).trans e
   .rw[if_neg ay] at q7 ⊢;obtain⟨m',yT,w7⟩:=FK _ _ q7;obtain⟨J7,Qh,Qi,Qj,Qk⟩:=after s7 H7 I7;exact⟨m',yT,i+1,zs,H7,vF,ar,nn,FL,J7,Qh,Qi,Qj,Qk,r3,w7⟩
 exact codeAny_compStart_list (loop _ rfl) (T.self X.A 0 _ _ _ FG (loop _ rfl))
theorem FP{J:It}{fp:List abd}{it:abd}{tn:Nat->adz->Prop}{E:aa9->abe->Prop}{Q:VK}{RR:aa9->abd->ahR->abe->Prop}
 (S:j7 X own scope cl fr ys) (hc:X.calm=true) (hg:∀ (C:abd) (s:abe) (H:Hp) (ex:List abd) (pn:List (abd × Obj)),PG (dP X (own++ys) scope cl C s H ex pn) tg g)
 (hb:∀ (C:abd) (s:abe) (H:Hp) (ex:List abd) (pn:List (abd × Obj)),kZ (dP X (own++ys) scope cl C s H ex pn) ifs tt/\PE (dP X (own++ys) scope cl C s H ex pn) elt te)
 (I2:Inv X pins σ H2 s2) (T:Turn X.prog X.w X.K tg J fp it tn) (gU:tn 0 s2.heap) (f2:∀ b∈fp,ed X pins H2 b)
 (h:jd own.length J g (fr.map λj=>(σ[j]?).join) tt te H2 Q)
 (yO:∀ D C s' H',Inv X pins σ H' s'->(∃ m,s'.heap.Ns C m)->ed X pins H' C->Q (.ref D) H'->RR (.ref D) C (.ok .next) s') :
 abm (model X.prog X.w) X.A (ajl []) (λacc s3=>abm (model X.prog X.w) X.A (newFunctionEnv scope X.env.globals cl [] X.env.qual none .none (some X.env)) (λFQ s4 =>
  ad0 (model X.prog X.w) X.A (.compStart (.ListComp elt [⟨tg,iter,ifs,0⟩] scope pos) 0 (.ref it) acc { FQ with scope:=relabel scope X.env }) (RR acc FQ.locals) s4) E s3) E s2:=by
 refine acj (wpAny_newFunctionEnv (λy hy=>by simpa using acx.mp S.nocell y hy) (λy hy=>absurd hy (by simp)) (λh1 gb j8=>?_) S.kind);dsimp only at gb j8 ⊢;generalize eP:s2.heap.push { cls:=.type "list",dict:=none,data:=.seq ([]:List aa9).toArray }=P2 at gb j8 ⊢;have sz:P2.objs.size=s2.heap.objs.size+1:=by rw[<- eP,adJ]
 have nD:s2.heap.objs.size≠P2.objs.size:=by walk_at "o"
 have keep:∀ b o,s2.heap.get? b=some o->h1.get? b=some o:=λb o e=>by have lt:=aa6 e;exact j8.extBut b o (by walk_at "o") (aa5 _ (eP ▸ aa5 _ e))
 have hD:h1.get? s2.heap.objs.size=some { cls:=.type "list",data:=.seq ([]:List aa9).toArray 0 } :=
  j8.extBut _ _ nD (aa5 _ (eP ▸ abc _ rfl))
 generalize eC:P2.objs.size=C at gb j8 nD ⊢;generalize eD:s2.heap.objs.size=D at nD hD;have o6:s2.heap.objs.size<=C:=by walk_at "o"
 have rF:s2.heap.objs.size<=D:=by walk_at "o"
 have nE:∀ b∈fp,b<s2.heap.objs.size:=λb hb=>by obtain⟨o,e,_⟩:=T.obj 0 _ gU b hb;exact aa6 e
 have Ql:(dP X (own++ys) scope cl C s2 H2 fp (X.pn++pins)).Ok:=P8 S I2 f2 o6 (λb hb=>by have:=nE b hb;walk_at "o");have yP:=FF I2 f2 o6 rF;have I4:Inv (dP X (own++ys) scope cl C s2 H2 fp (X.pn++pins)) [] ((own.map λ_=>none)++fr.map λj=>(σ[j]?).join) H2 { s2 with heap:=h1,toks:=s2.toks+([]:List (Str × aa9)).length }:=by
  refine⟨Ql,rfl,I2.bare,Un.kept keep,⟨_,gb,λi y v e1 e2 e3=>?_⟩,λy c e=>?_,I2.ay.fresh o6,λy c e=>I2.fH y c (S.cls.get y c e),λp hp=>?_,I2.ay.kept keep,?_⟩
  .by_cases hio:i<own.length
   .rw[ab0 (by simpa using hio)] at e2;simp[hio] at e2
   .rw[acg (by simp;lia)] at e2;have o7:ys[i-own.length]?=some y:=by
     have:(own++ys)[i]?=some y:=e1
     rwa [acg (by lia)] at this
    rw[aa2] at e2;obtain⟨j,c,hN,hσ,hk,Qm,rG⟩:=S.a9.get (i-own.length) y v o7 e2;obtain⟨m,hm,hl⟩:=I2.loc;obtain⟨u,ru,lu⟩:=hl j y v hN hσ (.inr (.inl hk));refine⟨u,ru,.inr ⟨.inl ?_,c,Qm,?_⟩⟩
    .have z:=acx.mp S.kfr y (abi o7);exact (by simpa using z:(relabel scope X.env).names.lookup y=some .cell)
    .rcases lu with ⟨z,_⟩|⟨_,c',e',q'⟩
     .rw[hk] at z;cases z
     .rw[rG] at e';cases e';obtain⟨o,ho,hd⟩:=q';exact⟨o,keep _ _ ho,hd⟩
  .obtain⟨v,o,ho,hd⟩:=I2.cell y c (S.cls.get y c e);exact⟨v,o,keep _ _ ho,hd⟩
  .have cP:p∈X.pn++pins:=by have:p∈(X.pn++pins)++[]:=hp;simpa using this
   obtain⟨e,n,_,_,d⟩:=I2.pin p cP;obtain⟨p1,_,p3,_⟩:=yP p cP;exact⟨keep _ _ e,n,p1,p3,d⟩
  .show ((own.map λ_=>(none:Option V))++fr.map λj=>(σ[j]?).join).length=(own++ys).length;simp[S.a9.len]
 refine Qa hc (hg C s2 H2 fp (X.pn++pins)) (hb C s2 H2 fp (X.pn++pins)) I2 T gU f2 h yO (by simp) I4 keep hD eD (sz.symm.trans eC) λy c e=>?_;obtain⟨v,o,ho,_⟩:=I2.cell y c (S.cls.get y c e);have:=aa6 ho;exact⟨by walk_at "o",λb hb z=>(f2 b hb).2.2.2.2.1 y c (S.cls.get y c e) z⟩
theorem FR{wi:TI}{B:L2.St->It->Hp->VK->Prop}(S:j7 X own scope cl fr ys)(hc:X.calm=true)(hi:PI X tg iter wi)(hg:∀ (C:abd) (s:abe) (H:Hp) (ex:List abd) (pn:List (abd × Obj)),PG (dP X (own++ys) scope cl C s H ex pn) tg g)
 (hb:∀ (C:abd) (s:abe) (H:Hp) (ex:List abd) (pn:List (abd × Obj)),kZ (dP X (own++ys) scope cl C s H ex pn) ifs tt/\PE (dP X (own++ys) scope cl C s H ex pn) elt te)
 (hB:∀ ρ J H Q,B ρ J H Q->jd own.length J g ρ tt te H Q) (hs:∀ z,adt iter X.env z=pure z:=by intro _;rfl):PE X (.ListComp elt [⟨tg,iter,ifs,0⟩] scope pos) (λσ H Q=>wi σ H λJ H1=>B (fr.map λj=>(σ[j]?).join) J H1 Q):=by
 intro pins s σ H Q I h;rw[eval_ListComp];refine afP (use:=none) rfl hs S.clos S.kind (λy hy hl=>?_) (aE (hi pins s σ H _ I h) λxv s1 h1=>aE h1 λve s2 h2=>?_)
 .have z:=acx.mp S.names y hy;rw[hl] at z;simpa using z
 .obtain⟨it,fp,tn,J,H2,rfl,I2,T,gU,f2,k7⟩:=h2;refine FP (RR:=λacc C=>compPost (model X.prog X.w) X.A X.xe none (EP X pins σ Q) acc C) S hc hg hb I2 T gU f2 (hB _ _ _ _ k7) λD C s' H' J' hn fC q=>?_;obtain⟨m,hm⟩:=hn;obtain⟨c0,c1,c2,c3,c4,c5⟩:=fC;exact⟨m,hm,λh' sb=>⟨.ref D,H',J'.turned (it:=C) (λb o hb e=>sb.extBut b o hb e) c0 c1 c3 c4 c5,rfl,q⟩⟩
theorem Qn{wi:TI}{B:L2.St->It->Hp->VK->Prop}{y:Str}{py vG:Pos}{i:Nat}(S:j7 X own scope cl fr ys)(hc:X.calm=true)(hN:X.N.Nodup)(hy:X.N[i]?=some y)(hl:X.env.scope.names.lookup y=some .local)(hi:PI X tg iter wi)(hg:∀ (C:abd) (s:abe) (H:Hp) (ex:List abd) (pn:List (abd × Obj)),PG (dP X (own++ys) scope cl C s H ex pn) tg g)
 (hb:∀ (C:abd) (s:abe) (H:Hp) (ex:List abd) (pn:List (abd × Obj)),kZ (dP X (own++ys) scope cl C s H ex pn) ifs tt/\PE (dP X (own++ys) scope cl C s H ex pn) elt te)
 (hB:∀ ρ J H Q,B ρ J H Q->jd own.length J g ρ tt te H Q) (yV:ae9 (.ListComp elt [⟨tg,iter,ifs,0⟩] scope pos) (some (.Name y py)) vG.line X.env=pure true:=by rfl)
 (hs:∀ z,adt iter X.env z=pure z:=by intro _;rfl):PS X (.Assign [.Name y py] (.ListComp elt [⟨tg,iter,ifs,0⟩] scope pos) vG) (yM i λσ H Q=>wi σ H λJ H1=>B (fr.map λj=>(σ[j]?).join) J H1 Q):=by
 intro pins s σ H Dn I h;rw[exec_Assign_Name_used _ _ _ _ yV];refine aaZ (ahe (aaZ ?_));show abm _ X.A (do let _ <- comprehension (.ListComp elt [⟨tg,iter,ifs,0⟩] scope pos) scope X.env _ (ajl []) false (eval iter X.env) (some (assign (.Name y py) X.env))) _ _ s;refine aaZ (aE (afP (use:=some (assign (.Name y py) X.env)) (Q:=λ_ s'=>SP X pins Dn .next s') rfl hs S.clos S.kind (λz hz hl=>?_) (aE (hi pins s σ H _ I h) λxv s1 h1=>aE h1 λve s2 h2=>?_)) λ_ s' hq=>aa4 (aa4 hq))
 .have z':=acx.mp S.names z hz;rw[hl] at z';simpa using z'
 .obtain⟨it,fp,tn,J,H2,rfl,I2,T,gU,f2,k7⟩:=h2;refine FP (RR:=λacc C=>compPost (model X.prog X.w) X.A X.xe (some (assign (.Name y py) X.env)) (λ_ s'=>SP X pins Dn .next s') acc C) S hc hg hb I2 T gU f2 (hB _ _ _ _ k7) λD C s' H' J' hn fC q=>?_;obtain⟨m,oC,es,ep,ho,hd,hr⟩:=hn;obtain⟨c0,c1,c2,c3,c4,c5⟩:=fC;have J2:Inv X (pins++[(C,oC)]) σ H' s':=J'.qV λp hp=>by
   rcases abD.mp hp with z|z
   .exact J'.pin p (abC _ z)
   .have:p=(C,oC):=by simpa using z
    subst this;exact⟨ho,c0,c1,c2,λv z=>by rw[hd] at z;cases z⟩
  show abm _ X.A (assign (.Name y py) X.env (.ref D)) _ _ _;refine aE (gq (X:=X) hN hy (.inl hl) (.inr hl) _ s' σ H' (.ref D) (.ref D) (λσ' dz=>σ'=σ.set i (some (.ref D))/\dz=H') J2 rfl ⟨rfl,rfl⟩) λ_ s3 zq=>?_;obtain⟨σ3,H3,J3,e1,e2⟩:=zq;subst e1 e2;obtain⟨pc,pn0,_⟩:=J3.pin (C,oC) (abC _ (abC _ (abp.mpr rfl)));refine⟨m,⟨oC,es,ep,pc,hd,hr⟩,λh' sb=>⟨_,H3,J3.vg.turned (it:=C) (λb o hb e=>sb.extBut b o hb e) c0 c1 c3 c4 c5,q⟩⟩
theorem vH(S:j7 X own scope cl fr ys)(hc:X.calm=true)(hi:PI X tg iter wi)(hg:∀ (C:abd) (s:abe) (H:Hp) (ex:List abd) (pn:List (abd × Obj)),PG (dP X (own++ys) scope cl C s H ex pn) tg g)(hb:∀ (C:abd) (s:abe) (H:Hp) (ex:List abd) (pn:List (abd × Obj)),kZ (dP X (own++ys) scope cl C s H ex pn) ifs tt/\PE (dP X (own++ys) scope cl C s H ex pn) elt te)(hs:∀ z,adt iter X.env z=pure z:=by intro _;rfl):PE X (.ListComp elt [⟨tg,iter,ifs,0⟩] scope pos) (FC own.length wi g fr tt te):=FR (B:=λρ J H Q=>jd own.length J g ρ tt te H Q) S hc hi hg hb (λ_ _ _ _ h=>h) hs
end
theorem FU(h:mr J ρ tt te H Q):jd 1 J (bX 0) ρ tt te H Q:=by
 obtain⟨W,w0,turn⟩:=h;refine⟨W,w0,λi m ys H hw=>(turn i m ys H hw).imp id λ⟨a,b,N,hN,st⟩=>⟨a,b,N,hN,λos ho x H' y=>?_⟩⟩
 match os,ho with
 | [_],_=>exact⟨[some x],rfl,rfl,st x H' y⟩
section
theorem bU.g(S:bU X x scope cl fr ys):j7 X [x] scope cl fr ys:=⟨S.clos,S.nocell,S.kind,S.names,S.kinds,S.cls,S.a9,S.kfr⟩
theorem bU.pg(S:bU X x scope cl fr ys)(C:abd)(s:abe)(H:Hp)(ex:List abd)(pn:List (abd × Obj)):PG (dP X ([x]++ys) scope cl C s H ex pn) (.Name x px) (bX 0) :=
 gq (X:=dP X (x::ys) scope cl C s H ex pn) (i:=0) S.nd rfl (.inl (abx S.own)) (.inr (abx S.own))
theorem cQ(S:bU X x scope cl fr ys)(hc:X.calm=true)(hi:PI X (.Name x px) iter wi)(hb:∀ (C:abd) (s:abe) (H:Hp) (ex:List abd) (pn:List (abd × Obj)),kZ (dP X (x::ys) scope cl C s H ex pn) ifs tt/\PE (dP X (x::ys) scope cl C s H ex pn) elt te)(hs:∀ z,adt iter X.env z=pure z:=by intro _;rfl):PE X (.ListComp elt [⟨.Name x px,iter,ifs,0⟩] scope pos) (yL wi fr tt te):=FR (B:=λρ J H Q=>mr J ρ tt te H Q) S.g hc hi S.pg hb (λ_ _ _ _ h=>FU h) hs
theorem rH(S:bU X x scope cl fr ys)(hc:X.calm=true)(hN:X.N.Nodup)(hy:X.N[i]?=some y)(hl:X.env.scope.names.lookup y=some .local)(hi:PI X (.Name x px) iter wi)(hb:∀ (C:abd) (s:abe) (H:Hp) (ex:List abd) (pn:List (abd × Obj)),kZ (dP X (x::ys) scope cl C s H ex pn) ifs tt/\PE (dP X (x::ys) scope cl C s H ex pn) elt te)(yV:ae9 (.ListComp elt [⟨.Name x px,iter,ifs,0⟩] scope pos) (some (.Name y py)) vG.line X.env=pure true:=by rfl)(hs:∀ z,adt iter X.env z=pure z:=by intro _;rfl):PS X (.Assign [.Name y py] (.ListComp elt [⟨.Name x px,iter,ifs,0⟩] scope pos) vG) (yM i (yL wi fr tt te)):=Qn (B:=λρ J H Q=>mr J ρ tt te H Q) S.g hc hN hy hl hi S.pg hb (λ_ _ _ _ h=>FU h) yV hs
end
def el(Ok:Hp->Prop)(ρ:L2.St)(tt:TT)(te:TE):List V->List V->Hp->(List V->Hp->Prop)->Prop
 | [],ys,H,Q=>Ok H/\Q ys H
 | x::r,ys,H,Q=>Ok H/\tt (some x::ρ) H λb H1=>if b=true then te (some x::ρ) H1 λy H2=>el Ok ρ tt te r (ys++[y]) H2 Q else el Ok ρ tt te r ys H1 Q
structure rJ(J:It)(Ok:Hp->Prop)(xs:List V):Prop where
 go:∀ i H x,Ok H->xs[i]?=some x->J.go i H
 yld:∀ i H x H',Ok H->J.yld i H x H'->H'=H/\(i<xs.length->xs[i]?=some x)
 stop:∀ i H,Ok H->xs.length<=i->J.stop i H
section
variable{J:It}{Ok:Hp->Prop}{xs:List V}{ρ:L2.St}{tt:TT}{te:TE}{H:Hp}{Q:VK}{K:aa0}{a:abd}
theorem cJ(O:rJ J Ok xs)(hn:xs.length<=abu)(h:el Ok ρ tt te xs [] H λys H'=>∀ l,H' l=none->Q (.ref l) (upd H' l (.lst ys))):mr J ρ tt te H Q:=by
 refine⟨λi m ys H=>m=xs.length-i/\i<=xs.length/\ys.length<=i/\el Ok ρ tt te (xs.drop i) ys H λys H'=>∀ l,H' l=none->Q (.ref l) (upd H' l (.lst ys)),⟨_,rfl,abt _,aba _,h⟩,?_⟩;rintro i m ys H ⟨rfl,hi,hy,g⟩;by_cases aU:i<xs.length
 .have e:=ab8 aU;rw[e] at g;obtain⟨g0,g1⟩:=g;refine .inr ⟨O.go i H _ g0 (aa3 aU),by walk_at "o",λzs H'=>zs.length<=i+1/\el Ok ρ tt te (xs.drop (i+1)) zs H' λys H'=>∀ l,H' l=none->Q (.ref l) (upd H' l (.lst ys)),λzs H' q=>⟨_,by walk_at "o",rfl,aU,q.1,q.2⟩,λx H' y=>?_⟩;obtain⟨rfl,ex⟩:=O.yld i H x H' g0 y;have ex:=ex aU;rw[aa3 aU] at ex;cases ex;have l1:∀ y:V,(ys++[y]).length<=i+1:=λy=>by rw[abf,abv];walk_at "o"
  have l2:ys.length<=i+1:=by walk_at "o"
  simp only[l1,l2,true_and];exact g1
 .have e:i=xs.length:=by walk_at "o"
  subst e;rw[age] at g;exact .inl ⟨O.stop _ H g.1 (aba _),by walk_at "o",g.2⟩
theorem gv:rJ (i7 K a) (λH=>ai K H a xs) xs :=
 ⟨λ_ _ _ h e=>⟨xs,_,h,e⟩,λ_ _ _ _ h y=>⟨y.1,λ_=>y.2 xs h⟩,λ_ _ h hi=>⟨xs,h,hi⟩⟩
theorem yW:rJ (kM K a) (λH=>ah K H a xs) xs :=
 ⟨λ_ _ _ h e=>⟨xs,_,h,e⟩,λ_ _ _ _ h y=>⟨y.1,λ_=>y.2 xs h⟩,λ_ _ h hi=>⟨xs,h,hi⟩⟩
theorem k8{lo:Int}{n:Nat}:rJ (iC lo n) (λ_=>True) ((abG n).map λk=>V.int (lo+(k:Nat))) :=
 ⟨λi _ _ _ e=>by
  have:=(aa7.mp e).1;show i<n;simpa using this,λi _ _ _ _ y=>⟨y.1,λhi=>by
   have cR:i<n:=by simpa using hi
   rw[y.2,abh,acA cR];rfl⟩,λi _ _ hi=>by
   show n<=i;simpa using hi⟩
theorem vI(bK:Ok H):∀ {xs ys:List V},(∀ x∈xs,∀ Q,Q (p x) H->tt (some x::ρ) H Q)->(∀ x∈xs,p x=true->∀ Q,Q (f x) H->te (some x::ρ) H Q)->Q' (ys++(xs.filter p).map f) H->el Ok ρ tt te xs ys H Q'
 | [],ys,_,_,q=>⟨bK,by simpa using q⟩
 | x::r,ys,ht,he,q=>by
  refine⟨bK,ht x (.head _) _ ?_⟩;by_cases hb:p x=true
  .rw[if_pos hb];refine he x (.head _) hb _ (vI bK (λy hy=>ht y (.tail _ hy)) (λy hy=>he y (.tail _ hy)) ?_);rw[abK,if_pos hb] at q;simpa using q
  .rw[if_neg hb];refine vI bK (λy hy=>ht y (.tail _ hy)) (λy hy=>he y (.tail _ hy)) ?_;rw[abK,if_neg hb] at q;exact q
end
section
variable{X:Cx}{K:aa0}
theorem Qo(h:X.K=K):j4 X (kR K):=h ▸ bE
theorem Qp(h:X.K=K):br X (acm .NotIn) (yz K true):=h ▸ EU
end
theorem Qq{prog:ab1}{w:acz}{A:acP}{E:aa9->abe->Prop}{s:abe}{id:String}{b:ac5}{args:List aa9}{kw:List (Str × aa9)}{Q:aa9->abe->Prop}(hk:ag3 id=none)(hp:aik id=true)
 (hb:afv table id=some b) (ha:agf id ⟨args,kw⟩)
 (hc:abm (model prog w) A.in1 (b ⟨args,kw⟩) (λfin s'=>match fin with
   | .done f=>(match (Except.ok f:ahR) with|.ok (.ret v)=>Q v s'|.ok _=>False|.error e=>E e s')
   | .again c'=>c'.quiet=true/\ad0 (model prog w) A c' (λr s'=>match r with|.ok (.ret v)=>Q v s'|.ok _=>False|.error e=>E e s') s') E s) :
 abm (model prog w) A (call (.builtin id) args kw) Q E s:=by
 refine ahD (ad1 hp hb ?_);simp only[aeX,hk];cases hsig:Manifest.signature? id with
 | none=>exact aa4 hc
 | some sig =>
  have rC:Bind.checkArgs id sig ⟨args,kw⟩=pure ():=by simpa only [agf,hsig] using ha
  simp only[rC];exact aa4 hc
noncomputable def yX:{ F:String->CmpOp->ac5 // F "max" .Gt=ac5.«max.loop»/\F "min" .Lt=ac5.«min.loop» }:=⟨_,rfl,rfl⟩
noncomputable def FV:{ F:String->ac5 // F "max" = ac5.«max»/\F "min" = ac5.«min» }:=⟨_,rfl,rfl⟩
theorem FW{nx id:String}{op:CmpOp}(nm:(toString nx++toString ".loop" : String)=id)(e1:afv table id=some (yX.1 nx op))(e2:aik id=true){prog:ab1}{w:acz}{A:acP}{R:ahR->abe->Prop}{I S:abd}{fp wr:List abd}{n:Nat}{P:Nat->aa9->Prop}{St:Nat->adz->Prop}{G:adz->Prop}{bt:Nat->Nat->Bool}{kw:List (Str × aa9)}
 (W:Walks prog w A.in1 I fp wr n P St) (hG:∀ h h',G h->(∀ b o,b∉wr->b≠S->h.get? b=some o->h'.get? b=some o)->G h')
 (rK:∀ i j vi vj (s:abe) (Q:aa9->abe->Prop) (E:aa9->abe->Prop),P i vi->P j vj->G s.heap->Q (.bool (bt i j)) s->abm (model prog w) A.in1 (af3 op vi vj) Q E s) (hS:S∉fp):∀ (k j:Nat) (s:abe) (vb:aa9) (c:Nat),k+(j+1)=n->St (j+1) s.heap->G s.heap->P (aff bt j) vb ->
  s.heap.get? S=some { cls:=.type "list",dict:=none,data:=.seq #[vb,vb] c,slots:=#[] } ->
  (∀ v h' tk,P (aff bt (n-1)) v->(∀ b o,b∉wr->b≠S->s.heap.get? b=some o->h'.get? b=some o)->R (.ok (.ret v)) { s with heap:=h',toks:=tk }) ->
  ad0 (model prog w) A (.builtin id ⟨[.ref I,.none,.ref S],kw⟩) R s:=by
 have nS:S∉wr:=λz=>hS (W.sub _ z);intro k
 induction k with
 | zero =>
  intro j s vb c e st g pb oS fin;have e':j+1=n:=by walk_at "o"
  refine acd e1 ?_;rw[abZ e2 _];show abm _ A.in1 (ahl (.ref S) >>= _) _ _ s;refine aaZ (ad3 oS rfl ?_);show abm _ A.in1 (tryCatch (adP (.ref I)) _ >>= _) _ _ s;refine aaZ (ad4 (W.done s _ _ (e' ▸ st) λh1 tk kp=>?_));have jf:=kp S _ nS oS;show abm _ A.in1 (afQ S (λ_=>#[]) >>= _) _ _ _;refine aaZ ?_;refine ac6 jf rfl (aaZ (aeD (aa4 ?_)));exact fin vb _ tk (by rw[<- e'];exact pb) λb o hw hb q=>(abq _ _ (ab4 hb)).trans (kp b o hw q)
 | succ k ih =>
  intro j s vb c e st g pb oS fin;have lt:j+1<n:=by walk_at "o"
  refine acd e1 ?_;rw[abZ e2 _];show abm _ A.in1 (ahl (.ref S) >>= _) _ _ s;refine aaZ (ad3 oS rfl ?_);show abm _ A.in1 (tryCatch (adP (.ref I)) _ >>= _) _ _ s;refine aaZ (ad4 (W.item (j+1) s _ _ lt st λv h1 tk pv o8 kp=>?_));have jf:=kp S _ nS oS;have g1:G h1:=hG _ _ g λb o hw _ q=>kp b o hw q;show abm _ A.in1 (tryCatch (holding [v,v] (af3 op v vb >>= _)) _ >>= _) _ _ _;refine aaZ (ad4 (acv (aaZ (rK (j+1) (aff bt j) v vb _ _ _ pv pb g1 ?_))));refine aaZ (acv (acb ?_));refine aaZ (aeD (aa4 ?_));cases hb:bt (j+1) (aff bt j) with
  | true =>
   simp only[if_true];refine aaZ ?_;refine ac6 jf rfl (aaZ (aeD ?_));rw[nm];refine aa4 ⟨acW e2 _,ih (j+1) _ v _ (by walk_at "o") (W.frame _ _ _ o8 λb hf o q=>?_) (hG _ _ g1 λb o _ mv q=>(abq _ _ (ab4 mv)).trans q) (by simp only[aff,hb,if_true];exact pv) (abL _ jf rfl) λv2 h2 vJ p2 k2=>?_⟩
   .exact (abq _ _ (λz:S=b=>hS (by rw[z];exact hf))).trans q
   .exact fin v2 h2 vJ p2 λb o hw mv q=>k2 b o hw mv ((abq _ _ (ab4 mv)).trans (kp b o hw q))
  | false =>
   simp only[aby,if_false];refine aaZ (aeD ?_);rw[nm];refine aa4 ⟨acW e2 _,ih (j+1) _ vb c (by walk_at "o") o8 g1 (by simp only[aff,hb,aby,if_false];exact pb) jf λv2 h2 vJ p2 k2=>?_⟩;exact fin v2 h2 vJ p2 λb o hw mv q=>k2 b o hw mv (kp b o hw q)
theorem Qr{nx id:String}{op:CmpOp}(nm:(toString nx++toString ".loop" : String)=id)(e1:afv table id=some (yX.1 nx op))(e2:aik id=true)(k0:ag3 nx=none)(k1:aik nx=true)(k2:afv table nx=some (FV.1 nx))(k3:∀ a d:aa9,agf nx ⟨[a],[("default",d)]⟩){prog:ab1}{w:acz}{A:acP}{E:aa9->abe->Prop}{s:abe}{l:abd}{xs:Array (Int × Tok)}{d:aa9}{Q:aa9->abe->Prop}{bt:Nat->Nat->Bool}(e4:CmpOf prog w A.in1 op (λi v=>(adf xs)[i]?=some v) bt)(hh:A.handled=none)(hl:s.heap.IsList l (adf xs))
 (h0:xs.size=0->∀ h' tk,(∀ b o,s.heap.get? b=some o->h'.get? b=some o)->Q d { s with heap:=h',toks:=tk })
 (h1:0<xs.size->∀ v h' tk,(adf xs)[aff bt (xs.size-1)]?=some v->(∀ b o,s.heap.get? b=some o->h'.get? b=some o)->Q v { s with heap:=h',toks:=tk }) :
 abm (model prog w) A (call (.builtin nx) [.ref l] [("default",d)]) Q E s:=by
 refine Qq k0 k1 k2 (k3 _ _) ?_;show abm _ A.in1 (ac7 _ ["key","default"] 0 ⟨[],[("default",d)]⟩ >>= _) _ _ s;refine aaZ (af4 (show ac7 _ ["key","default"] 0 ⟨[],[("default",d)]⟩=pure [none,some d] from rfl) ?_);refine aaZ (aa4 ?_);refine aaZ (iter_intList hl λs2 e2 st nE Qs=>?_);subst e2;refine aaZ (acj ?_);have W:=Walks.list (prog:=prog) (w:=w) (A:=A.in1) hh s.heap.objs.size l Qs (adf xs);generalize eP:(s.heap.push { cls:=.type "list_iterator",data:=.fields #[.ref l,.int 0 0] })=P2 at st nE ⊢;have o9:P2.objs.size∉[s.heap.objs.size,l]:=λz=>acu _ (nE _ z);have up:∀ b o,s.heap.get? b=some o->b≠P2.objs.size/\b∉[s.heap.objs.size]/\(P2.push { cls:=.type "list",dict:=none,data:=.seq ([]:List aa9).toArray }).get? b=some o:=λb o q=>by
  have lt:=aa6 q;have q2:P2.get? b=some o:=by rw[<- eP];exact aa5 _ q
  refine⟨abk (aa6 q2),λz=>?_,aa5 _ q2⟩;have:b=s.heap.objs.size:=by simpa using z
  walk_at "o"
 rw[nm];refine aa4 ⟨acW e2 _,?_⟩;have oS:(P2.push { cls:=.type "list",dict:=none,data:=.seq ([]:List aa9).toArray }).get? P2.objs.size=some { cls:=.type "list",dict:=none,data:=.seq #[] 0,slots:=#[] }:=abc _ rfl;have cY:=W.frame 0 P2 (P2.push { cls:=.type "list",dict:=none,data:=.seq ([]:List aa9).toArray }) st λb _ o q=>aa5 _ q;have nS:P2.objs.size∉[s.heap.objs.size]:=λz=>o9 (by simp at z;simp[z]);by_cases hz:xs.size=0
 .have yY:(P2.push { cls:=.type "list",dict:=none,data:=.seq ([]:List aa9).toArray }).IsListIter s.heap.objs.size l (adf xs).size/\(P2.push { cls:=.type "list",dict:=none,data:=.seq ([]:List aa9).toArray }).IsList l (adf xs):=by
   have:(adf xs).size=0:=by simpa [adf] using hz
   rw[this];exact cY
  refine acd e1 ?_;rw[abZ e2 _];show abm _ A.in1 (ahl (.ref P2.objs.size) >>= _) _ _ _;refine aaZ (ad3 oS rfl ?_);show abm _ A.in1 (tryCatch (adP (.ref s.heap.objs.size)) _ >>= _) _ _ _;refine aaZ (ad4 (W.done _ _ _ yY λh2 tk kp=>?_));refine aaZ (aei (aa4 ?_));exact h0 hz h2 tk λb o q=>kp b o (up b o q).2.1 (up b o q).2.2
 .have hp:0<xs.size:=by walk_at "o"
  have hn:0<(adf xs).size:=by simpa [adf] using hp
  refine acd e1 ?_;rw[abZ e2 _];show abm _ A.in1 (ahl (.ref P2.objs.size) >>= _) _ _ _;refine aaZ (ad3 oS rfl ?_);show abm _ A.in1 (tryCatch (adP (.ref s.heap.objs.size)) _ >>= _) _ _ _;refine aaZ (ad4 (W.item 0 _ _ _ hn cY λv h2 tk pv o8 kp=>?_));have jf:=kp _ _ nS oS;show abm _ A.in1 (afQ P2.objs.size (λ_=>#[v,v]) >>= _) _ _ _;refine aaZ ?_;refine ac6 jf rfl ?_;rw[nm];refine aa4 ⟨acW e2 _,FW nm e1 e2 (G:=λ_=>True) W (λ_ _ _ _=>trivial) (λi j vi vj s Q E h1 h2 _ q=>e4 i j vi vj s Q E h1 h2 q) o9 ((adf xs).size-1) 0 _ v _ (by walk_at "o") (W.frame _ _ _ o8 λb hf o q=>?_) trivial pv (abL _ jf rfl) λv2 h3 yZ p3 k3=>?_⟩
  .exact (abq _ _ (λz:P2.objs.size=b=>o9 (by rw[z];exact hf))).trans q
  .refine h1 hp v2 h3 yZ (by simpa [adf] using p3) λb o q=>?_;exact k3 b o (up b o q).2.1 (up b o q).1 ((abq _ _ (ab4 (up b o q).1)).trans (kp b o (up b o q).2.1 (up b o q).2.2))
noncomputable def hV:List Int->Int
 | []=>0
 | x::r=>r.foldl (λb y=>if y > b then y else b) x
noncomputable def pd:List Int->Int
 | []=>0
 | x::r=>r.foldl (λb y=>if y<b then y else b) x
theorem FX:∀ (r:List Int) (b:Int),b<=r.foldl (λb y=>if y > b then y else b) b/\(∀ y∈r,y<=r.foldl (λb y=>if y > b then y else b) b)/\(r.foldl (λb y=>if y > b then y else b) b=b∨r.foldl (λb y=>if y > b then y else b) b∈r)
 | [],b=>⟨ach _,λ_ z=>(nomatch z),.inl rfl⟩
 | x::r,b=>by
  simp only[ail];obtain⟨h1,h2,h3⟩:=FX r (if x > b then x else b);refine⟨?_,λy hy=>?_,?_⟩
  .refine aej ?_ h1;split<;>lia
  .rcases abl.mp hy with rfl|hy
   .refine aej ?_ h1;split<;>lia
   .exact h2 y hy
  .rcases h3 with h3|h3
   .rw[h3];split
    .right;simp
    .left;rfl
   .right;exact abY _ h3
theorem FY:∀ (r:List Int) (b:Int),r.foldl (λb y=>if y<b then y else b) b<=b/\(∀ y∈r,r.foldl (λb y=>if y<b then y else b) b<=y)/\(r.foldl (λb y=>if y<b then y else b) b=b∨r.foldl (λb y=>if y<b then y else b) b∈r)
 | [],b=>⟨ach _,λ_ z=>(nomatch z),.inl rfl⟩
 | x::r,b=>by
  simp only[ail];obtain⟨h1,h2,h3⟩:=FY r (if x<b then x else b);refine⟨?_,λy hy=>?_,?_⟩
  .refine aej h1 ?_;split<;>lia
  .rcases abl.mp hy with rfl|hy
   .refine aej h1 ?_;split<;>lia
   .exact h2 y hy
  .rcases h3 with h3|h3
   .rw[h3];split
    .right;simp
    .left;rfl
   .right;exact abY _ h3
theorem rL(h:ns≠[]):hV ns∈ns/\∀ y∈ns,y<=hV ns:=by
 cases ns with
 | nil=>exact absurd rfl h
 | cons x r =>
  obtain⟨h1,h2,h3⟩:=FX r x;refine⟨?_,λy hy=>?_⟩
  .rcases h3 with h3|h3
   .show r.foldl _ x∈_;rw[h3];exact .head _
   .exact .tail _ h3
  .rcases abl.mp hy with rfl|hy
   .exact h1
   .exact h2 y hy
theorem Qt(h:ns≠[]):pd ns∈ns/\∀ y∈ns,pd ns<=y:=by
 cases ns with
 | nil=>exact absurd rfl h
 | cons x r =>
  obtain⟨h1,h2,h3⟩:=FY r x;refine⟨?_,λy hy=>?_⟩
  .rcases h3 with h3|h3
   .show r.foldl _ x∈_;rw[h3];exact .head _
   .exact .tail _ h3
  .rcases abl.mp hy with rfl|hy
   .exact h1
   .exact h2 y hy
theorem y0:∀ {ns:List Int} {ar:List aa9},Vals (ns.map V.int) ar->∃ xs:Array (Int × Tok),ar.toArray=adf xs/\xs.toList.map (·.1)=ns
 | [],_,.nil=>⟨#[],by simp[adf],rfl⟩
 | n::ns,_,.cons (l₂:=ar) r t=>by
  obtain⟨xs,e1,e2⟩:=y0 (ns:=ns) t;obtain⟨tk,rfl⟩:=r;refine⟨((n,tk)::xs.toList).toArray,?_,?_⟩
  .have:ar=xs.toList.map (λp=>Value.int p.1 p.2):=by have:=congrArg ahQ e1;simpa [adf] using this
   simp[adf,this]
  .simp[e2]
theorem FZ(e:xs.toList.map (·.1)=ns)(hi:i<xs.size):ag4 xs i∈ns/\ag4 xs i=ns.getD i 0:=by subst e;unfold ag4;rw[abN hi];refine⟨aa8.mpr ⟨xs[i],by simp,rfl⟩,?_⟩;simp[hi]
theorem F7(e:xs.toList.map (·.1)=ns)(hy:y∈ns):∃ i,i<xs.size/\ag4 xs i=y:=by
 subst e;obtain⟨p,hp,rfl⟩:=aa8.mp hy;obtain⟨i,hi,e⟩:=List.mem_iff_getElem.mp hp;refine⟨i,by simpa using hi,?_⟩;unfold ag4;have cR:i<xs.size:=by simpa using hi
 rw[abN cR];have:xs[i]=p:=by simpa using e
 rw[this];rfl
theorem Qu(e:xs.toList.map (·.1)=ns)(h:0<xs.size):ag4 xs (aff (λi j=>decide (ag4 xs i > ag4 xs j)) (xs.size-1))=hV ns:=by
 obtain⟨h1,h2⟩:=argBest_gt (ag4 xs) (xs.size-1);have bV:ns≠[]:=by intro z;subst z;have q:=congrArg List.length e;rw[aa2,ac2,adR] at q;lia
 obtain⟨m1,m2⟩:=rL bV;refine aim (m2 _ (FZ e (by lia)).1) ?_;obtain⟨i,hi,ei⟩:=F7 e m1;rw[<- ei];exact h2 i (by lia)
theorem Qv(e:xs.toList.map (·.1)=ns)(h:0<xs.size):ag4 xs (aff (λi j=>decide (ag4 xs i<ag4 xs j)) (xs.size-1))=pd ns:=by
 obtain⟨h1,h2⟩:=argBest_lt (ag4 xs) (xs.size-1);have bV:ns≠[]:=by intro z;subst z;have q:=congrArg List.length e;rw[aa2,ac2,adR] at q;lia
 obtain⟨m1,m2⟩:=Qt bV;refine aim ?_ (m2 _ (FZ e (by lia)).1);obtain⟨i,hi,ei⟩:=F7 e m1;rw[<- ei];exact h2 i (by lia)
def F8(R:V->Hp->Prop):List V->Hp->Prop
 | [x],H=>R x H
 | _,_=>False
theorem Qw:∀ {vs:List V} {H:Hp},F8 R vs H->∃ x,vs=[x]/\R x H
 | [x],_,h=>⟨x,rfl,h⟩
section
noncomputable def lg(f:List Int->Int):List Int->V->V
 | [],y=>y
 | n::ns,_=>.int (f (n::ns))
theorem Qx(h:ns≠[]):lg f ns y = .int (f ns):=by
 cases ns with
 | nil=>exact absurd rfl h
 | cons _ _=>rfl
def vK(K:aa0)(f:List Int->Int)(te td:TE):TE:=λσ H Q=>te σ H λx H1=>td σ H1 λy H2=>∃ a ns,x = .ref a/\ai K H2 a (ns.map V.int)/\Q (lg f ns y) H2
theorem F9{X:Cx}{e d:aeV}{te td:TE}{p pos kp:Pos}{nx:String}{f:List Int->Int}{op:CmpOp}{id:String}(nm:(toString nx++toString ".loop" : String)=id)(e1:afv table id=some (yX.1 nx op))(e2:aik id=true)(k0:ag3 nx=none)(k1:aik nx=true)(k2:afv table nx=some (FV.1 nx))(k3:∀ a d:aa9,agf nx ⟨[a],[("default",d)]⟩)(kb:abP nx=some (.builtin nx))(kn:acf nx≠acf "__name__")(kd:(acf nx == acf "__debug__")=false)
 (kc:∀ (A:acP) (xs:Array (Int × Tok)),∃ bt,CmpOf X.prog X.w A op (λi v=>(adf xs)[i]?=some v) bt/\∀ ns:List Int,xs.toList.map (·.1)=ns->0<xs.size->ag4 xs (aff bt (xs.size-1))=f ns) (hc:X.calm=true) (hg:Gl X nx) (hm:X.mg nx=none) (he:PE X e te) (hd:PE X d td)
 (hs:abA [e] X.env=(false,eval e X.env)::abA [] X.env:=by rfl) (hq:adh pos (abA [e] X.env)=(false,eval e X.env)::adh pos (abA [] X.env):=by rfl) :
 PE X (.Call (.Name nx p) [e] [⟨some "default",d,kp⟩] pos) (vK X.K f te td):=by
 intro pins s σ H Q I h;refine acs (fI I hg hm kb ?_ kn (hd:=kd));refine callWith_kw (aE ((ae he ag hs) pos pins s σ H (F8 λx H1=>td σ H1 λy H2=>∃ (a:abd) (ns:List Int),x = .ref a/\ai X.K H2 a (ns.map V.int)/\Q (lg f ns y) H2) I h) λus s1 ⟨vs,H1,I1,r,q⟩=>?_) hq (by rw[hs];rfl)
 .obtain⟨x,rfl,q⟩:=Qw q;obtain⟨u,rfl,ru⟩:=vals1 r;refine kws_cons (aE (hd pins s1 σ H1 _ I1 q) λw s2 ⟨y,H2,I2,ry,a,ns,ex,hS,q1⟩=>kws_nil ?_);subst ex;cases ru;obtain⟨ar,rv,hp,_⟩:=I2.list hS;obtain⟨xs,o7,Ga⟩:=y0 rv;obtain⟨o,n,ho,bf,_,hdt⟩:=hp;have hl:s2.heap.IsList a (adf xs):=⟨o,ho,bf,n,by rw[hdt,o7]⟩
  have len:xs.size=ns.length:=by rw[<- Ga,aa2];simp
  show abm _ X.A (call (.builtin nx) [.ref a] [("default",w)]) _ _ s2;obtain⟨bt,Qy,Qz⟩:=kc X.A.in1 xs;refine Qr nm e1 e2 k0 k1 k2 k3 Qy (I2.ok.hd hc) hl (λhz h' tk hk=>⟨y,H2,I2.kept hk,ry,?_⟩) λhp v h' tk hv hk=>⟨.int (f ns),H2,I2.kept hk,?_,?_⟩
  .have z:ns=[]:=acX.mp (by walk_at "o");rw[z] at q1;exact q1
  .obtain⟨t,rfl⟩:=ain hv;exact⟨t,by rw[Qz _ Ga hp]⟩
  .rw[Qx (λz=>by subst z;rw[adR] at len;lia)] at q1;exact q1
theorem QA(a d:aa9):agf "max" ⟨[a],[("default",d)]⟩:=by unfold agf;kernel_rfl
theorem y9{X:Cx}{e d:aeV}{te td:TE}{p pos kp:Pos}(hc:X.calm=true)(hg:Gl X "max")(hm:X.mg "max" = none)(he:PE X e te)(hd:PE X d td)
 (hs:abA [e] X.env=(false,eval e X.env)::abA [] X.env:=by rfl) (hq:adh pos (abA [e] X.env)=(false,eval e X.env)::adh pos (abA [] X.env):=by rfl) :
 PE X (.Call (.Name "max" p) [e] [⟨some "default",d,kp⟩] pos) (vK X.K hV te td) :=
 F9 (by decide) PySem.F.entry_max_loop PySem.F.plain_max_loop PySem.F.kind_max PySem.F.plain_max PySem.F.entry_max QA O0 (by decide) (by decide) (λ_ xs=>⟨_,CmpOf.ints_gt (ag4 xs) (λ_ _=>ain),λ_ e h=>Qu e h⟩) hc hg hm he hd hs hq
theorem QC(a d:aa9):agf "min" ⟨[a],[("default",d)]⟩:=by unfold agf;kernel_rfl
theorem QD{X:Cx}{e d:aeV}{te td:TE}{p pos kp:Pos}(hc:X.calm=true)(hg:Gl X "min")(hm:X.mg "min" = none)(he:PE X e te)(hd:PE X d td)
 (hs:abA [e] X.env=(false,eval e X.env)::abA [] X.env:=by rfl) (hq:adh pos (abA [e] X.env)=(false,eval e X.env)::adh pos (abA [] X.env):=by rfl) :
 PE X (.Call (.Name "min" p) [e] [⟨some "default",d,kp⟩] pos) (vK X.K pd te td) :=
 F9 (by decide) aeu adg ah1 ahH ahI QC yD (by decide) (by decide) (λ_ xs=>⟨_,CmpOf.ints_lt (ag4 xs) (λ_ _=>ain),λ_ e h=>Qv e h⟩) hc hg hm he hd hs hq
end
section
theorem Gb{ch:List abd}(I:Inv X pins σ H s)(k:∀ b o,b∉ch->s.heap.get? b=some o->h'.get? b=some o)(hf:∀ b∈ch,ed X pins H b){H':Hp}(up:∀ b u,H b=some u->H' b=some u):∀ b u,H b=some u->bN X.prog X.w H' h' b u:=by
 have l4:∀ b u,H b=some u->b∉ch:=λb u e z=>by rw[(hf b z).1] at e;cases e
 intro b u e;refine (I.ay b u e).gp (λc v hc q=>k c v ?_ q) (λc q=>up c _ q) λc xs q=>up c _ q;rcases hc with z|z
 .rw[z];exact l4 b u e
 .exact l4 c _ z
theorem Ge{t':Nat}{ch:List abd}(I:Inv X pins σ H s)(k:∀ b o,b∉ch->s.heap.get? b=some o->h'.get? b=some o)(hf:∀ b∈ch,ed X pins H b):Inv X pins σ H { s with heap:=h',toks:=t' }:=by
 refine I.step (g':=s.gens) (d':=s.drawn) (ch:=ch) (λb hb=>?_) (λb o _ _ hc e _=>k b o hc e) (λb o _ _ hc e _=>⟨o.slots,k b o hc e⟩) (λ_ _ _ _ n=>n)
  (λb o hc e=>⟨o,k b o hc e⟩) (λ_ _ e=>e) (λ_ _ _ e=>e) (λb ps e=>⟨#[],by rw[e];simp⟩) (λm hm=>?_) (λb u e=>Gb I k hf (λ_ _ q=>q) b u e) I.bare
 .obtain⟨_,d1,d2,d3,d4,d5⟩:=hf b hb;exact⟨d3,d1,d4,d5⟩
 .obtain⟨o,es,ep,ho,r⟩:=hm;exact⟨o,es,ep,k _ o (λz=>(hf _ z).2.1 rfl) ho,r⟩
theorem Gf{t':Nat}{ch:List abd}{T:abd}{o:HO}(I:Inv X pins σ H s)(k:∀ b o,b∉ch->s.heap.get? b=some o->h'.get? b=some o)(hf:∀ b∈ch,ed X pins H b)(hT:s.heap.objs.size<=T)
 (new:bN X.prog X.w (upd H T o) h' T o):Inv X pins σ (upd H T o) { s with heap:=h',toks:=t' }:=by
 have hn:=I.ay.fresh hT;have neT:∀ b u,s.heap.get? b=some u->b≠T:=λb u e=>abk (abn (aa6 e) hT);have k6:∀ b u,H b=some u->b≠T:=λb u e=>i3 e hn;have up:∀ b u,H b=some u->upd H T o b=some u:=λb u e=>by rw[aB (k6 b u e)];exact e
 refine I.step (g':=s.gens) (d':=s.drawn) (ch:=ch) (λb hb=>?_) (λb o _ _ hc e _=>k b o hc e) (λb o _ _ hc e _=>⟨o.slots,k b o hc e⟩) (λb u _ e n=>by rw[aB (neT b u e)];exact n)
  (λb o hc e=>⟨o,k b o hc e⟩) (λb xs e=>up b _ e) (λb _ _ e=>up b _ e) (λb ps e=>⟨#[],by rw[up b _ e];simp⟩) (λm hm=>?_) (λb u e=>?_) I.bare
 .obtain⟨_,d1,d2,d3,d4,d5⟩:=hf b hb;exact⟨d3,d1,d4,d5⟩
 .obtain⟨o,es,ep,ho,r⟩:=hm;exact⟨o,es,ep,k _ o (λz=>(hf _ z).2.1 rfl) ho,r⟩
 .by_cases hb:b=T
  .subst hb;rw[aw] at e;cases e;exact new
  .rw[aB hb] at e;exact Gb I k hf up b u e
end
noncomputable def vL(K:aa0)(a:abd)(n:Nat):It :=
 ⟨λi H=>∃ xs x,ai K H a xs/\xs.length=n/\xs.reverse[i]?=some x,λi H x H'=>H'=H/\∀ xs,ai K H a xs->xs.length=n->xs.reverse[i]?=some x,λi _=>i=n⟩
theorem QE{P:ab1}{w:acz}{K:aa0}{tg:aeV}(a it:abd)(n:Nat):Turn P w K tg (vL K a n) [it] it (λi h=>i<=n/\h.IsRevIter it a ((n:Int)-1-(i:Nat))) where
 mem:=by simp
 obj:=λi h st b hb=>by
  have e:b=it:=by simpa using hb
  subst e;obtain⟨_,o,e,c,d⟩:=st;exact⟨o,e,λv z=>by rw[d] at z;cases z⟩
 keep:=λi h h' st k=>⟨st.1,st.2.at λo e=>k it (by simp) o e⟩
 item:=by
  intro X hP hw hK hc i pins s σ H E I hf st hg;subst hP hw hK;obtain⟨xs,x,hq,hn,hx⟩:=hg;obtain⟨ar,rv,p,hz⟩:=I.list hq;have hl:=rv.length;have hi:i<n:=by have:=(aa7.mp hx).1;rw[acN] at this;lia
  have cE:xs[n-1-i]?=some x:=by rw[adk (by lia),hn] at hx;exact hx
  obtain⟨u,hu,ru⟩:=rv.get cE;obtain⟨f0,f1,f2,f3,f4,f5⟩:=hf it (by simp);have cY:=st.2;rw[show (n:Int)-1-(i:Nat)=((n-1-i:Nat):Int) by lia] at cY;refine wpAny_pyNext_rev_item cY p.isList (x:=u) (by simpa using hu) λh' cY sb=>?_;have I1:Inv X pins σ H { s with heap:=h' }:=I.turned (t':=s.toks) (λb o hb e=>(sb.2 b hb).trans e) f0 f1 f3 f4 f5;obtain⟨o,e,c,d⟩:=id cY;rw[show ((n-1-i:Nat):Int)-1=(n:Int)-1-((i+1:Nat):Int) by lia] at cY;exact⟨u,rfl,oP (s:={ s with heap:=h' }) e c d (by decide) ⟨x,H,I1,ru,⟨rfl,λys hy _=>by rw[I.qZ hy hq];exact hx⟩,⟨by lia,cY⟩,λb hb=>(hf b hb).1⟩⟩
 done:=by
  intro X hP hw hK hc i pins s σ H E I hf st hg;subst hP hw hK;have QF:i=n:=hg;subst QF;obtain⟨f0,f1,f2,f3,f4,f5⟩:=hf it (by simp);have cY:=st.2;rw[show (i:Int)-1-(i:Nat) = -1 by lia] at cY;exact wpAny_pyNext_rev_end (I.ok.hd hc) cY λh' eb=>⟨rfl,I.turned (t':=s.toks) (λb o hb e=>eb b o hb e) f0 f1 f3 f4 f5⟩
 self:=λ_ _ _ _ _ st h=>agR st.2 h
def za(K:aa0)(ta:TA):TI:=λσ H R=>ta σ H λvs H1=>∃ a xs,vs=[.ref a]/\ai K H1 a xs/\R (vL K a xs.length) H1
theorem QG(hg:Gl X "reversed")(hm:X.mg "reversed" = none)(ha:PA X [e] ta)(hs:abA [e] X.env=[(false,eval e X.env)]:=by rfl):PI X tg (.Call (.Name "reversed" p) [e] [] pos) (za X.K ta):=by
 intro pins s σ H R I h;refine aji (fI I hg hm O3 (abI (aE (ha pos pins s σ H _ I h) λus s1 zq=>?_) hs rfl));obtain⟨vs,H1,I1,r1,q1⟩:=zq;obtain⟨a,xs,rfl,hq,q⟩:=q1;obtain⟨u,rfl,ru⟩:=vals1 r1;cases ru;obtain⟨ar,rv,p,hz⟩:=I1.list hq;refine call_reversed_list p.isList ?_;have hl:=rv.length;refine agR (i:=(ar.toArray.size:Int)-1) (l:=a) ⟨_,abc _ rfl,rfl,rfl⟩ ?_;refine⟨s1.heap.objs.size,[s1.heap.objs.size],_,_,H1,rfl,I1.kept (t':=s1.toks) λb o e=>aa5 _ e,QE a _ xs.length,⟨abt _,_,abc _ rfl,rfl,?_⟩,λb hb=>?_,q⟩
 .rw[abg,<- hl];simp;rfl
 .have e:b=s1.heap.objs.size:=by simpa using hb
  subst e;exact I1.iB (aba _) (I1.ay.fresh (aba _))
noncomputable def vM(K:aa0)(a:abd):It :=
 ⟨λi H=>∃ xs x,ai K H a xs/\xs[i]?=some x,λi H v H'=>∃ (p:abd) (x:V),v = .ref p/\H p=none/\H'=upd H p (.tup [.int i,x])/\∀ xs,ai K H a xs->xs[i]?=some x,λi H=>∃ xs,ai K H a xs/\xs.length<=i⟩
theorem zb:2<=abu:=by decide
theorem QH{P:ab1}{w:acz}{K:aa0}{es:List aeV}{k:Nat}{tp:Pos}(a e it:abd)(Gg:e≠it):Turn P w K (.Tuple es k tp) (vM K a) [e,it] e (λi h=>(∃ old,IsEnum h e it (i:Nat) old)/\h.IsListIter it a i) where
 mem:=by simp
 obj:=λi h st b hb=>by
  obtain⟨⟨old,he⟩,o,ho,c,d⟩:=st;have cf:b=e∨b=it:=by simpa using hb
  rcases cf with rfl|rfl
  .exact⟨_,he,λv z=>by
    have z':Data.fields _=Data.cell v:=z;cases z'⟩
  .exact⟨o,ho,λv z=>by rw[d] at z;cases z⟩
 keep:=λi h h' st kk=>by obtain⟨⟨old,he⟩,hi⟩:=st;exact⟨⟨old,kk e (by simp) _ he⟩,hi.at λo e=>kk it (by simp) o e⟩
 item:=by
  intro X hP hw hK hc i pins s σ H E I hf st hg;subst hP hw hK;obtain⟨xs,x,hq,hx⟩:=hg;obtain⟨⟨old,he⟩,hit⟩:=st;obtain⟨ar,rv,p,hz⟩:=I.list hq;obtain⟨u,hu,ru⟩:=rv.get hx;refine agn he hit p.isList (x:=u) (by simpa using hu) Gg λh1 ho QJ hT hsz hk=>?_;refine⟨_,rfl,wpAny_letOwnedTupleGo_enum ho λh2 Gh cZ=>?_⟩;have zc:Heap.SameBut e h1 h2:=cZ;have neT:s.heap.objs.size≠e:=ace (aa6 he);have up:∀ b o,b∉[e,it]->s.heap.get? b=some o->h2.get? b=some o:=λb o hb q=>by
   have cf:b≠e/\b≠it:=by simpa using hb
   exact zc.extBut b o cf.1 (hk b o cf.1 cf.2 q)
  have hn:H s.heap.objs.size=none:=I.ay.fresh (aba _);refine⟨.ref s.heap.objs.size,upd H s.heap.objs.size (.tup [.int i,x]),Gf (s:=s) (h':=h2) (t':=s.toks+1) I up hf (aba _) ⟨zb,[.int i s.toks,u],.cons ⟨_,rfl⟩ (.cons ru .nil),?_⟩,rfl,⟨_,x,rfl,hn,rfl,λys hy=>by rw[I.qZ hy hq];exact hx⟩,⟨⟨u,?_⟩,?_⟩,λb hb=>?_⟩
  .have:=zc.extBut _ _ neT hT;exact⟨_,this,rfl,_,rfl⟩
  .have:((i:Int)+1)=((i+1:Nat):Int):=by lia
   rw[<- this];exact Gh
  .exact QJ.at λo q=>zc.extBut _ _ (ab4 Gg) q
  .rw[aB]
   .exact (hf b hb).1
   .have cf:b=e∨b=it:=by simpa using hb
    rcases cf with rfl|rfl
    .exact ab4 neT
    .obtain⟨o,q,_⟩:=hit;exact abk (aa6 q)
 done:=by
  intro X hP hw hK hc i pins s σ H E I hf st hg;subst hP hw hK;obtain⟨xs,hq,hx⟩:=hg;obtain⟨⟨old,he⟩,hit⟩:=st;obtain⟨ar,rv,p,hz⟩:=I.list hq;have hl:=rv.length;refine agC (I.ok.hd hc) he hit p.isList (by simp;lia) λh' eb=>⟨rfl,Ge (t':=s.toks) I (λb o hb q=>?_) hf⟩
  have cf:b≠e/\b≠it:=by simpa using hb
  exact eb b o cf.2 q
 self:=λ_ i s Q E st h=>by obtain⟨⟨old,he⟩,_⟩:=st;exact afR he h
def zd(K:aa0)(ta:TA):TI:=λσ H R=>ta σ H λvs H1=>∃ a,vs=[.ref a]/\(∃ xs,ai K H1 a xs)/\R (vM K a) H1
theorem ze(hg:Gl X "enumerate")(hm:X.mg "enumerate" = none)(ha:PA X [e] ta)(hs:abA [e] X.env=[(false,eval e X.env)]:=by rfl):PI X (.Tuple es k tp) (.Call (.Name "enumerate" p) [e] [] pos) (zd X.K ta):=by
 intro pins s σ H R I h;refine aji (fI I hg hm Fe (abI (aE (ha pos pins s σ H _ I h) λus s1 zq=>?_) hs rfl));obtain⟨vs,H1,I1,r1,q1⟩:=zq;obtain⟨a,rfl,⟨xs,hq⟩,q⟩:=q1;obtain⟨u,rfl,ru⟩:=vals1 r1;cases ru;obtain⟨ar,rv,p,hz⟩:=I1.list hq;refine ag5 p.isList λh' he hit hsz hk=>?_;refine afR he ?_;have I2:Inv X pins σ H1 { s1 with heap:=h' }:=I1.kept (t':=s1.toks) hk;refine⟨s1.heap.objs.size+1,[s1.heap.objs.size+1,s1.heap.objs.size],_,_,H1,rfl,I2,QH a _ _ (by walk_at "o"),⟨⟨.none,he⟩,hit⟩,λb hb=>?_,q⟩;have cf:b=s1.heap.objs.size+1∨b=s1.heap.objs.size:=by simpa using hb
 rcases cf with rfl|rfl
 .exact I1.iB (afd _) (I1.ay.fresh (afd _))
 .exact I1.iB (aba _) (I1.ay.fresh (aba _))
noncomputable def rM(K:aa0)(a b:abd):It :=
 ⟨λi H=>∃ xs ys x y,ai K H a xs/\ai K H b ys/\xs[i]?=some x/\ys[i]?=some y,λi H v H'=>∃ (p:abd) (x y:V),v = .ref p/\H p=none/\H'=upd H p (.tup [x,y])/\(∀ xs,ai K H a xs->xs[i]?=some x)/\∀ ys,ai K H b ys->ys[i]?=some y,
  λi H=>∃ xs ys,ai K H a xs/\ai K H b ys/\(xs.length<=i∨ys.length<=i)⟩
theorem QK{P:ab1}{w:acz}{K:aa0}{es:List aeV}{k:Nat}{tp:Pos}(a b z TI TO i1 i2:abd)(D:ZipApart z TI TO i1 i2 a b):Turn P w K (.Tuple es k tp) (rM K a b) [z,TI,TO,i1,i2] z
 (λi h=>IsZip h z TI TO .none/\IsPair h TI (.ref i1) (.ref i2)/\(∃ a b,IsPair h TO a b)/\h.IsListIter i1 a i/\h.IsListIter i2 b i) where
 mem:=by simp
 obj:=λi h st c hc=>by
  obtain⟨hz,jg,⟨ta,tb,j9⟩,⟨o1,h1,c1,d1⟩,⟨o2,h2,c2,d2⟩⟩:=st;have kL:c=z∨c=TI∨c=TO∨c=i1∨c=i2:=by simpa using hc
  rcases kL with rfl|rfl|rfl|rfl|rfl
  .exact⟨_,hz,λv q=>by
    have q':Data.fields _=Data.cell v:=q;cases q'⟩
  .exact⟨_,jg,λv q=>by
    have q':Data.seq _ _=Data.cell v:=q;cases q'⟩
  .exact⟨_,j9,λv q=>by
    have q':Data.seq _ _=Data.cell v:=q;cases q'⟩
  .exact⟨o1,h1,λv q=>by rw[d1] at q;cases q⟩
  .exact⟨o2,h2,λv q=>by rw[d2] at q;cases q⟩
 keep:=λi h h' st kk=>by obtain⟨hz,jg,⟨ta,tb,j9⟩,h1,h2⟩:=st;exact⟨kk z (by simp) _ hz,kk TI (by simp) _ jg,⟨ta,tb,kk TO (by simp) _ j9⟩,h1.at λo e=>kk i1 (by simp) o e,h2.at λo e=>kk i2 (by simp) o e⟩
 item:=by
  intro X hP hw hK hc i pins s σ H E I hf st hg;subst hP hw hK;obtain⟨xs,ys,x,y,hqx,hqy,hx,hy⟩:=hg;obtain⟨hz,jg,⟨ta,tb,j9⟩,h1,h2⟩:=st;obtain⟨ar,rv,p1,_⟩:=I.list hqx;obtain⟨jts,vN,p2,_⟩:=I.list hqy;obtain⟨u,hu,ru⟩:=rv.get hx;obtain⟨v,hv,QL⟩:=vN.get hy;refine wpAny_pyNext_zip_item D hz jg j9 h1 h2 p1.isList p2.isList (x:=u) (y:=v) (by simpa using hu) (by simpa using hv) λh' z1 t1 l1 l2 pT hsz hk=>?_;refine⟨_,rfl,wpAny_letOwnedTupleGo_zip z1 λh3 z3 QM=>?_⟩;have pf:Heap.SameBut z h' h3:=QM;have neT:s.heap.objs.size≠z:=ace (aa6 hz);have up:∀ b o,b∉[z,TI,TO,i1,i2]->s.heap.get? b=some o->h3.get? b=some o:=λb o hb q=>by
   have cf:b≠z/\b≠TI/\b≠TO/\b≠i1/\b≠i2:=by simpa using hb
   exact pf.extBut b o cf.1 (hk b o cf.1 cf.2.2.1 cf.2.2.2.1 cf.2.2.2.2 q)
  have hn:H s.heap.objs.size=none:=I.ay.fresh (aba _);refine⟨.ref s.heap.objs.size,upd H s.heap.objs.size (.tup [x,y]),Gf (s:=s) (h':=h3) (t':=s.toks) I up hf (aba _) ⟨zb,[u,v],.cons ru (.cons QL .nil),?_⟩,rfl,⟨_,x,y,rfl,hn,rfl,λzs zf=>by rw[I.qZ zf hqx];exact hx,λzs zf=>by rw[I.qZ zf hqy];exact hy⟩,
   ⟨z3,pf.extBut _ _ D.TIz (hk _ _ D.TIz D.TITO D.TIi1 D.TIi2 jg),⟨_,_,pf.extBut _ _ D.TOz t1⟩,l1.at λo q=>pf.extBut _ _ D.i1z q,l2.at λo q=>pf.extBut _ _ D.i2z q⟩,λb hb=>?_⟩
  .have:=pf.extBut _ _ neT pT;exact⟨_,this,rfl,_,rfl⟩
  .rw[aB]
   .exact (hf b hb).1
   .have cf:b=z∨b=TI∨b=TO∨b=i1∨b=i2:=by simpa using hb
    rcases cf with rfl|rfl|rfl|rfl|rfl
    .exact ab4 neT
    .exact abk (aa6 jg)
    .exact abk (aa6 j9)
    .obtain⟨o,q,_⟩:=h1;exact abk (aa6 q)
    .obtain⟨o,q,_⟩:=h2;exact abk (aa6 q)
 done:=by
  intro X hP hw hK hc i pins s σ H E I hf st hg;subst hP hw hK;obtain⟨xs,ys,hqx,hqy,hx⟩:=hg;obtain⟨hz,jg,⟨ta,tb,j9⟩,h1,h2⟩:=st;obtain⟨ar,rv,p1,_⟩:=I.list hqx;obtain⟨jts,vN,p2,_⟩:=I.list hqy;have l1:=rv.length;have l2:=vN.length;refine wpAny_pyNext_zip_end (I.ok.hd hc) D hz jg j9 h1 h2 p1.isList p2.isList (hx.imp (λq=>by simp;lia) λq=>by simp;lia) λh' hk=>⟨rfl,Ge (t':=s.toks) I (λb o hb q=>?_) hf⟩
  have cf:b≠z/\b≠TI/\b≠TO/\b≠i1/\b≠i2:=by simpa using hb
  exact hk b o cf.1 cf.2.2.1 cf.2.2.2.1 cf.2.2.2.2 q
 self:=λ_ i s Q E st h=>ah2 st.1 h
def zg(K:aa0)(ta:TA):TI:=λσ H R=>ta σ H λvs H1=>∃ a b,vs=[.ref a,.ref b]/\(∃ xs,ai K H1 a xs)/\(∃ ys,ai K H1 b ys)/\R (rM K a b) H1
theorem Gi(hg:Gl X "zip")(hm:X.mg "zip" = none)(ha:PA X [e,f] ta)(hs:abA [e,f] X.env=(false,eval e X.env)::abA [f] X.env:=by rfl)(cZ:abA [f] X.env=[(false,eval f X.env)]:=by rfl):PI X (.Tuple es k tp) (.Call (.Name "zip" p) [e,f] [] pos) (zg X.K ta):=by
 intro pins s σ H R I h;refine aji (fI I hg hm O2 (abI (aE (ha pos pins s σ H _ I h) λus s1 ⟨vs,H1,I1,r1,q1⟩=>?_) hs (by rw[cZ];rfl)));obtain⟨a,b,rfl,⟨xs,hqx⟩,⟨ys,hqy⟩,q⟩:=q1;obtain⟨u,v,rfl,ru,QN⟩:=vals2 r1;cases ru;cases QN;obtain⟨ar,rv,p1,_⟩:=I1.list hqx;obtain⟨jts,vN,p2,_⟩:=I1.list hqy;have a1:a<s1.heap.objs.size:=by obtain⟨_,e,_⟩:=p1.isList;exact aa6 e
 have a2:b<s1.heap.objs.size:=by obtain⟨_,e,_⟩:=p2.isList;exact aa6 e
 refine call_zip_2 p1.isList p2.isList λh' hz jg j9 h1 h2 hsz hk=>?_;refine ah2 hz ?_;have I2:Inv X pins σ H1 { s1 with heap:=h' }:=I1.kept (t':=s1.toks) hk;refine⟨s1.heap.objs.size+4,[s1.heap.objs.size+4,s1.heap.objs.size+2,s1.heap.objs.size+3,s1.heap.objs.size,s1.heap.objs.size+1],_,_,H1,rfl,I2,QK a b _ _ _ _ _ (zipApart_new a1 a2),⟨hz,jg,⟨_,_,j9⟩,h1,h2⟩,λc hc=>?_,q⟩;have kL:s1.heap.objs.size<=c:=by simp only[abl,adH,or_false] at hc;walk_at "o"
 exact I1.iB kL (I1.ay.fresh kL)
section
theorem Gj(hc:X.calm=true):fJ X (.builtin "sum") (λxs H Q=>∃ (a:abd) (ns:List Int),xs=[.ref a]/\ai X.K H a (ns.map V.int)/\Q (.int ns.sum) H):=by
 intro pins s σ H xs us Q I r h;obtain⟨a,ns,rfl,hS,q⟩:=h;obtain⟨u,rfl,ru⟩:=vals1 r;cases ru;obtain⟨ar,rv,hp,_⟩:=I.list hS;obtain⟨xs,e1,e2⟩:=y0 rv;obtain⟨o,n,ho,bf,_,hdt⟩:=hp;have hl:s.heap.IsList a (adf xs):=⟨o,ho,bf,n,by rw[hdt,e1]⟩
 refine sum_intListG (I.ok.hd hc) hl λh' tk t' hk=>⟨.int ns.sum,H,I.kept hk,⟨t',?_⟩,q⟩
 rw[preSum_eq,aev (by simp),e2]
theorem zh:∀ {bs:List Bool} {ar:List aa9},Vals (bs.map V.bl) ar->ar=bs.map acJ
 | [],ar,r=>by cases r;rfl
 | b::bs,ar,r=>by
  cases r with
  | cons r1 r2 =>
   cases r1;rw[zh r2];rfl
theorem vO(hc:X.calm=true):fJ X (.builtin "all") (λxs H Q=>∃ (a:abd) (bs:List Bool),xs=[.ref a]/\ai X.K H a (bs.map V.bl)/\Q (.bl (bs.all id)) H):=by
 intro pins s σ H xs us Q I r h;obtain⟨a,bs,rfl,hS,q⟩:=h;obtain⟨u,rfl,ru⟩:=vals1 r;cases ru;obtain⟨ar,rv,hp,_⟩:=I.list hS;have e:=zh rv;subst e;have hl:=hp.isList;have aU:a<s.heap.objs.size:=by obtain⟨_,e,_⟩:=hl;exact aa6 e
 refine call_all_walk (aez hl ?_);refine⟨s.heap.objs.size,[s.heap.objs.size,a],[s.heap.objs.size],(bs.map acJ).toArray.size,_,_,λi=>(bs[i]?).getD true,rfl,Walks.list (A:=X.A.in1) (I.ok.hd hc) _ a (abk aU) (bs.map acJ).toArray,⟨⟨_,abc _ rfl,rfl,rfl⟩,hl.push _⟩,λi v s' Q' E' hP hQ=>?_,λh' tk hk=>?_⟩
 .have lh:(bs[i]?).map acJ=some v:=by simpa using hP
  cases e:bs[i]? with
  | none=>rw[e] at lh;cases lh
  | some b =>
   rw[e] at lh;cases lh;simp only[e,aeb] at hQ;exact acb hQ
 .have e:((abG (bs.map acJ).toArray.size).all λi=>(bs[i]?).getD true)=bs.all id:=by rw[abg,aa2];exact PyProof.Rows.LSm.range_all bs
  rw[e];exact⟨.bl (bs.all id),H,I.kept (λb o q=>hk b o (λz=>by
   have:b=s.heap.objs.size:=by simpa using z
   rw[this] at q;exact acu _ (aa6 q)) (aa5 _ q)),rfl,q⟩
theorem zi(hc:X.calm=true):fJ X (.builtin "any") (λxs H Q=>∃ (a:abd) (bs:List Bool),xs=[.ref a]/\ai X.K H a (bs.map V.bl)/\Q (.bl (bs.any id)) H):=by
 intro pins s σ H xs us Q I r h;obtain⟨a,bs,rfl,hS,q⟩:=h;obtain⟨u,rfl,ru⟩:=vals1 r;cases ru;obtain⟨ar,rv,hp,_⟩:=I.list hS;have e:=zh rv;subst e;have hl:=hp.isList;have aU:a<s.heap.objs.size:=by obtain⟨_,e,_⟩:=hl;exact aa6 e
 refine call_any_walk (aez hl ?_);refine⟨s.heap.objs.size,[s.heap.objs.size,a],[s.heap.objs.size],(bs.map acJ).toArray.size,_,_,λi=>(bs[i]?).getD false,rfl,Walks.list (A:=X.A.in1) (I.ok.hd hc) _ a (abk aU) (bs.map acJ).toArray,⟨⟨_,abc _ rfl,rfl,rfl⟩,hl.push _⟩,λi v s' Q' E' hP hQ=>?_,λh' tk hk=>?_⟩
 .have lh:(bs[i]?).map acJ=some v:=by simpa using hP
  cases e:bs[i]? with
  | none=>rw[e] at lh;cases lh
  | some b =>
   rw[e] at lh;cases lh;simp only[e,aeb] at hQ;exact acb hQ
 .have e:((abG (bs.map acJ).toArray.size).any λi=>(bs[i]?).getD false)=bs.any id:=by rw[abg,aa2];exact PyProof.Rows.LSm.range_any bs
  rw[e];exact⟨.bl (bs.any id),H,I.kept (λb o q=>hk b o (λz=>by
   have:b=s.heap.objs.size:=by simpa using z
   rw[this] at q;exact acu _ (aa6 q)) (aa5 _ q)),rfl,q⟩
end
section
variable{K:aa0}{g:TG}{tb:TS}{D:Ends}{σ:L2.St}{H:Hp}{a b:abd}{xs ys:List V}
theorem QO{ta:TA}:jX (za K ta) g tb D σ H=ta σ H (λvs H1=>∃ a xs,vs=[.ref a]/\ai K H1 a xs/\FJ (vL K a xs.length) g tb D σ H1):=rfl
theorem QP{ta:TA}:jX (zd K ta) g tb D σ H=ta σ H (λvs H1=>∃ a,vs=[.ref a]/\(∃ xs,ai K H1 a xs)/\FJ (vM K a) g tb D σ H1):=rfl
theorem QQ{ta:TA}:jX (zg K ta) g tb D σ H=ta σ H (λvs H1=>∃ a b,vs=[.ref a,.ref b]/\(∃ xs,ai K H1 a xs)/\(∃ ys,ai K H1 b ys)/\FJ (rM K a b) g tb D σ H1):=rfl
theorem zj(Pv:Nat->L2.St->Hp->Prop)(h0:Pv 0 σ H)(hl:∀ i σ H,i<=xs.length->Pv i σ H->ai K H a xs)(hs:∀ i x σ H p,xs[i]?=some x->Pv i σ H->H p=none->g (.ref p) σ (upd H p (.tup [.int i,x])) λσ2 H2=>tb { D with nx:=Pv (i+1),ct:=Pv (i+1),bk:=D.nx } σ2 H2)(hd:∀ σ H,Pv xs.length σ H->D.nx σ H):FJ (vM K a) g tb D σ H:=by
 refine⟨λi m σ H=>m=xs.length-i/\i<=xs.length/\Pv i σ H,⟨_,rfl,abt _,h0⟩,?_⟩;rintro i m σ H ⟨rfl,hi,p⟩;have q:=hl i σ H hi p;by_cases aU:i<xs.length
 .refine .inr ⟨⟨xs,xs[i],q,by simp[aU]⟩,Pv (i+1),λσ' H' p'=>⟨xs.length-(i+1),by lia,rfl,aU,p'⟩,λv H' y=>?_⟩;obtain⟨w,x,rfl,hw,rfl,y⟩:=y;exact hs i x σ _ w (y xs q) p hw
 .have e:i=xs.length:=by lia
  subst e;exact .inl ⟨⟨xs,q,aba _⟩,hd σ H p⟩
theorem QS(Pv:Nat->L2.St->Hp->Prop)(h0:Pv 0 σ H)(hl:∀ i σ H,Pv i σ H->ai K H a xs/\ai K H b ys)(hs:∀ i x y σ H p,xs[i]?=some x->ys[i]?=some y->Pv i σ H->H p=none->g (.ref p) σ (upd H p (.tup [x,y])) λσ2 H2=>tb { D with nx:=Pv (i+1),ct:=Pv (i+1),bk:=D.nx } σ2 H2)(hd:∀ σ H,Pv (min xs.length ys.length) σ H->D.nx σ H):FJ (rM K a b) g tb D σ H:=by
 refine⟨λi m σ H=>m=min xs.length ys.length-i/\i<=min xs.length ys.length/\Pv i σ H,⟨_,rfl,abt _,h0⟩,?_⟩;rintro i m σ H ⟨rfl,hi,p⟩;have q:=hl i σ H p;by_cases aU:i<min xs.length ys.length
 .have h1:i<xs.length:=by lia
  have h2:i<ys.length:=by lia
  refine .inr ⟨⟨xs,ys,xs[i],ys[i],q.1,q.2,by simp[h1],by simp[h2]⟩,Pv (i+1),λσ' H' p'=>⟨min xs.length ys.length-(i+1),by lia,rfl,aU,p'⟩,λv H' y=>?_⟩;obtain⟨w,x,y',rfl,hw,rfl,e1,e2⟩:=y;exact hs i x y' σ _ w (e1 xs q.1) (e2 ys q.2) p hw
 .have e:i=min xs.length ys.length:=by lia
  refine .inl ⟨⟨xs,ys,q.1,q.2,by lia⟩,hd σ H (e ▸ p)⟩
end
theorem mw{K:aa0}{i j:Nat}{p:abd}{x y:V}{σ:L2.St}{H:Hp}{Q:L2.St->Hp->Prop}(h:ah K H p [x,y])(q:Q ((σ.set i (some x)).set j (some y)) H):iA K 2 (cB (bX i) (cB (bX j) gR)) (.ref p) σ H Q :=
 ⟨p,[x,y],rfl,h,rfl,x,[y],rfl,y,[],rfl,rfl,q⟩
section
variable{X:Cx}{K:aa0}
def ph(Ok:Hp->Prop)(ρ:L2.St)(tt:TT)(te:TE):List (V × V)->List V->Hp->(List V->Hp->Prop)->Prop
 | [],zs,H,Q=>Ok H/\Q zs H
 | (x,y)::r,zs,H,Q=>Ok H/\∀ p,H p=none->tt (some x::some y::ρ) (upd H p (.tup [x,y])) λb H1=>if b=true then te (some x::some y::ρ) H1 λz H2=>ph Ok ρ tt te r (zs++[z]) H2 Q else ph Ok ρ tt te r zs H1 Q
theorem QT{os:List (Option V)}(h:os.length=2):∃ a b,os=[a,b]:=by
 match os,h with
 | [a,b],_=>exact⟨a,b,rfl⟩
theorem QU(hn:(xs.zip ys).length<=abu)(h:ph (λH=>ai K H a xs/\ai K H b ys) ρ tt te (xs.zip ys) [] H λzs H'=>∀ l,H' l=none->Q (.ref l) (upd H' l (.lst zs))) :
 jd 2 (rM K a b) (iA K 2 (cB (bX 0) (cB (bX 1) gR))) ρ tt te H Q:=by
 have hlen:(xs.zip ys).length=min xs.length ys.length:=aio;refine⟨λi m zs H=>m=(xs.zip ys).length-i/\i<=(xs.zip ys).length/\zs.length<=i/\ph (λH=>ai K H a xs/\ai K H b ys) ρ tt te ((xs.zip ys).drop i) zs H λzs H'=>∀ l,H' l=none->Q (.ref l) (upd H' l (.lst zs)),⟨_,rfl,abt _,aba _,h⟩,?_⟩;rintro i m zs H ⟨rfl,hi,hy,g⟩;by_cases aU:i<(xs.zip ys).length
 .have e:=ab8 aU;have h1:i<xs.length:=by lia
  have h2:i<ys.length:=by lia
  have e2:(xs.zip ys)[i]=(xs[i],ys[i]):=List.getElem_zip;rw[e,e2] at g;obtain⟨⟨g0,vP⟩,g1⟩:=g;have l1:∀ y:V,(zs++[y]).length<=i+1:=λy=>by rw[abf,abv];lia
  have l2:zs.length<=i+1:=by lia
  refine .inr ⟨⟨xs,ys,xs[i],ys[i],g0,vP,by simp[h1],by simp[h2]⟩,by lia,λws H'=>ws.length<=i+1/\ph (λH=>ai K H a xs/\ai K H b ys) ρ tt te ((xs.zip ys).drop (i+1)) ws H' λzs H'=>∀ l,H' l=none->Q (.ref l) (upd H' l (.lst zs)),λzs H' q=>⟨_,by lia,rfl,aU,q.1,q.2⟩,λos nC v H' y=>?_⟩;obtain⟨p,x,y',rfl,hp,rfl,ex,ey⟩:=y;have ex:=ex xs g0;have ey:=ey ys vP;rw[aa3 h1] at ex;rw[aa3 h2] at ey;cases ex;cases ey;obtain⟨o1,o2,rfl⟩:=QT nC;refine mw (ah.of aw) ⟨[some xs[i],some ys[i]],rfl,rfl,?_⟩;simp only[l1,l2,true_and];exact g1 p hp
 .have e:i=(xs.zip ys).length:=by lia
  subst e;rw[age] at g;obtain⟨⟨g0,vP⟩,g1⟩:=g;exact .inl ⟨⟨xs,ys,g0,vP,by lia⟩,by lia,g1⟩
end
mutual
inductive Dat(K:aa0)(H:Hp):V->aew->Prop where
 | non:Dat K H .non .none
 | bl (b:Bool):Dat K H (.bl b) (.bool b)
 | int (i:Int):Dat K H (.int i) (.int i)
 | str (x:Str):Dat K H (.str x) (.str x)
 | tup {a:abd} {xs:List V} {ds:List aew} (h:ah K H a xs) (r:ke K H xs ds):Dat K H (.ref a) (.tuple ds)
 | lst {a:abd} {xs:List V} {ds:List aew} (h:ai K H a xs) (r:ke K H xs ds):Dat K H (.ref a) (.list ds)
inductive ke(K:aa0)(H:Hp):List V->List aew->Prop where
 | nil:ke K H [] []
 | cons {x:V} {d:aew} {xs:List V} {ds:List aew} (h:Dat K H x d) (r:ke K H xs ds):ke K H (x::xs) (d::ds)
end
section
variable{X:Cx}{pins:List (abd × Obj)}{σ:L2.St}{H:Hp}{s:abe}
theorem Dat.reads(I:Inv X pins σ H s)(d:aew)(h:Dat X.K H v d):RelV v u->∃ as,Reads s.heap u d as:=by
 refine Dat.rec (motive_1:=λv d _=>∀ u,RelV v u->∃ as,Reads s.heap u d as) (motive_2:=λvs ds _=>∀ us,Vals vs us->∃ as,ReadsAll s.heap us ds as) ?_ ?_ ?_ ?_ ?_ ?_ ?_ ?_ h u
 .intro u r;cases r;exact⟨_,.none⟩
 .intro b u r;cases r;exact⟨_,.bool b⟩
 .rintro i u ⟨t,rfl⟩;exact⟨_,.int i t⟩
 .rintro x u ⟨t,rfl⟩;exact⟨_,.str x t⟩
 .intro a xs ds h q ih u r;cases r;obtain⟨ar,rv,⟨o,ho,hc,n,hd⟩,_⟩:=I.tuple h;obtain⟨as,ra⟩:=ih ar rv;exact⟨_,.tuple ho hc hd (by simpa using ra)⟩
 .intro a xs ds h q ih u r;cases r;obtain⟨ar,rv,⟨o,n,ho,hc,_,hd⟩,_⟩:=I.list h;obtain⟨as,ra⟩:=ih ar rv;exact⟨_,.list ho hc hd (by simpa using ra)⟩
 .intro us r;cases r;exact⟨_,.nil⟩
 .intro x d xs ds h q zk zm us r;cases r with
  | cons r1 r2 =>
   obtain⟨as,ra⟩:=zk _ r1;obtain⟨bs,rb⟩:=zm _ r2;exact⟨_,.cons ra rb⟩
def zo(K:aa0)(neg:Bool):R2:=λx y H Q=>∃ d e,Dat K H x d/\Dat K H y e/\d.canLay0=true/\e.canLay0=true/\d.depth<=60/\Q (.bl (if neg=true then !adK d e else adK d e)) H
theorem Gk(hu:X.A.units+64<afq):br X (acm .Eq) (zo X.K false):=by intro pins s σ H x y v u Q I rx ry h;obtain⟨d,e,dx,dy,c1,c2,dd,q⟩:=h;obtain⟨as,ra⟩:=Dat.reads I d dx rx;obtain⟨bs,rb⟩:=Dat.reads I e dy ry;exact SeqAt.compareEq_reads ra rb c1 c2 (by lia) ⟨.bl _,H,I,rfl,q⟩
theorem QV(hu:X.A.units+64<afq):br X (acm .NotEq) (zo X.K true):=by intro pins s σ H x y v u Q I rx ry h;obtain⟨d,e,dx,dy,c1,c2,dd,q⟩:=h;obtain⟨as,ra⟩:=Dat.reads I d dx rx;obtain⟨bs,rb⟩:=Dat.reads I e dy ry;exact SeqAt.compareNe_reads ra rb c1 c2 (by lia) ⟨.bl _,H,I,rfl,q⟩
end
noncomputable def vQ(lo st:Int)(n:Nat):It:=⟨λi _=>i<n,λi H x H'=>H'=H/\x = .int (lo+(i:Int) * st),λi _=>n<=i⟩
theorem QW{P:ab1}{w:acz}{K:aa0}{tg:aeV}(it:abd)(lo st:Int)(n:Nat):Turn P w K tg (vQ lo st n) [it] it (λi h=>ag1 h it (lo+(i:Nat) * st) ((n:Int)-(i:Nat)) st) where
 mem:=by simp
 obj:=λi h q b hb=>by
  have e:b=it:=by simpa using hb
  subst e;exact⟨_,q,λv z=>by
   have z':Data.fields _=Data.cell v:=z;cases z'⟩
 keep:=λi h h' q k=>k it (by simp) _ q
 item:=by intro X hP hw hK hc i pins s σ H E I hf q hg;subst hP hw hK;obtain⟨f0,f1,f2,f3,f4,f5⟩:=hf it (by simp);have W:=Walks.range (prog:=X.prog) (w:=X.w) (I.ok.hd hc) it lo st n;refine W.item i s _ _ hg q λv h' tk hv q' kk=>?_;obtain⟨t,rfl⟩:=hv;have I1:Inv X pins σ H { s with heap:=h',toks:=tk }:=I.turned (λb o hb e=>kk b o (by simpa using hb) e) f0 f1 f3 f4 f5;exact⟨_,rfl,oP (s:={ s with heap:=h',toks:=tk }) (n := "range_iterator") q' rfl rfl (by decide) ⟨.int (lo+(i:Int) * st),H,I1,⟨t,rfl⟩,⟨rfl,rfl⟩,q',λb hb=>(hf b hb).1⟩⟩
 done:=by
  intro X hP hw hK hc i pins s σ H E I hf q hg;subst hP hw hK;obtain⟨f0,f1,f2,f3,f4,f5⟩:=hf it (by simp);exact agi (I.ok.hd hc) q (by have:n<=i:=hg;lia) λh' eb=>⟨rfl,I.turned (t':=s.toks) (λb o hb e=>eb b o hb e) f0 f1 f3 f4 f5⟩
 self:=λ_ _ _ _ _ q h=>agj q h
noncomputable def mx(lo hi st:Int):Nat:=(ab6 lo hi st).toNat
def zp(ta:TA):TI:=λσ H R=>ta σ H λvs H1=>∃ i j c:Int,vs=[.int i,.int j,.int c]/\(-1000000<=i/\i<=1000000/\-1000000<=j/\j<=1000000/\-1000000<=c/\c<=1000000/\c≠0)/\R (vQ i c (mx i j c)) H1
theorem Gm(i j c:Int)(h:c≠0):0<=ab6 i j c:=by
 unfold ab6;split
 .rename_i hc;split
  .have:=aip (show 0<=j-i-1 by lia) (show 0<=c by lia);lia
  .lia
 .split
  .have:=aip (show 0<=i-j-1 by lia) (show 0 <= -c by lia);lia
  .lia
theorem size_le(i j c:Int)(h : -1000000<=i/\i<=1000000/\-1000000<=j/\j<=1000000/\c≠0):ab6 i j c<=2000000:=by
 unfold ab6;split
 .split
  .have:=ah3 (c) (show 0<=j-i-1 by lia);lia
  .lia
 .split
  .have:=ah3 (-c) (show 0<=i-j-1 by lia);lia
  .lia
theorem QX(h : -1000000<=i/\i<=1000000/\-1000000<=j/\j<=1000000/\-1000000<=c/\c<=1000000/\c≠0):Builtin.Range.small i j c=true:=by have h1:=Gm i j c h.2.2.2.2.2.2;have h2:=size_le i j c ⟨h.1,h.2.1,h.2.2.1,h.2.2.2.1,h.2.2.2.2.2.2⟩;unfold Builtin.Range.small;generalize ab6 i j c=n at h1 h2 ⊢;simp only[aiq,acL,afg,decide_eq_true_eq,beq_iff_eq];refine⟨by lia,.inr ?_⟩;split<;>simp only[acL,decide_eq_true_eq]<;>lia
theorem QY(hg:Gl X "range")(hm:X.mg "range" = none)(ha:PA X [a,b,c] ta)(hs:abA [a,b,c] X.env=(false,eval a X.env)::abA [b,c] X.env:=by rfl)(cZ:abA [b,c] X.env=[(false,eval b X.env),(false,eval c X.env)]:=by rfl) :
 PI X tg (.Call (.Name "range" p) [a,b,c] [] pos) (zp ta):=by
 intro pins s σ H R I h;refine aji (fI I hg hm aiJ (abI (aE (ha pos pins s σ H _ I h) λus s1 ⟨vs,H1,I1,r1,q1⟩=>?_) (by rw[hs]) (by rw[cZ];rfl)));obtain⟨i,j,k,e,hb,q⟩:=q1;subst e;cases r1 with
 | cons r rr =>
  cases rr with
  | cons r' rr =>
   cases rr with
   | cons zr rr =>
    cases rr;obtain⟨t,rfl⟩:=r;obtain⟨t',rfl⟩:=r';obtain⟨Gn,rfl⟩:=zr;have hk:k≠0:=hb.2.2.2.2.2.2;refine call_range_3 hk ?_ (.inl (PyProof.noPylong_small (by lia)));refine ahg (IsRange.new ..) (QX hb) ?_;have I2:Inv X pins σ H1 { s1 with heap:=s1.heap.push { cls:=.type "range",data:=.fields #[.int i t,.int j t',.int k Gn] },toks:=s1.toks }:=I1.kept λb o e=>aa5 _ e;refine⟨_,[_],_,_,H1,rfl,I2.kept (t':=s1.toks) λb o e=>aa5 _ e,QW _ i k (mx i j k),?_,λb hb=>?_,q⟩
    .have e1:i+((0:Nat):Int) * k=i:=by simp
     have e2:((mx i j k:Nat):Int)-((0:Nat):Int)=ab6 i j k:=by have:=Gm i j k hk;unfold mx;lia
     show ag1 _ _ (i+((0:Nat):Int) * k) (((mx i j k:Nat):Int)-((0:Nat):Int)) k;rw[e1,e2];exact abc _ rfl
    .have e:b=(s1.heap.push { cls:=.type "range",data:=.fields #[.int i t,.int j t',.int k Gn] }).objs.size:=by simpa using hb
     subst e;exact I2.iB (aba _) (I2.ay.fresh (aba _))
section
variable{g:TG}{tb:TS}{D:Ends}{σ:L2.St}{H:Hp}{lo st:Int}{n:Nat}
theorem QZ:jX (ya ta) g tb D σ H=ta σ H (λvs H1=>∃ i j:Int,vs=[.int i,.int j]/\(-(2 ^ 62)<=i/\i<2 ^ 62/\-(2 ^ 62)<=j/\j<2 ^ 62)/\FJ (iC i (j-i).toNat) g tb D σ H1):=rfl
theorem Q3:jX (zp ta) g tb D σ H=ta σ H (λvs H1=>∃ i j c:Int,vs=[.int i,.int j,.int c]/\(-1000000<=i/\i<=1000000/\-1000000<=j/\j<=1000000/\-1000000<=c/\c<=1000000/\c≠0)/\FJ (vQ i c (mx i j c)) g tb D σ H1):=rfl
theorem Q4(Pv:Nat->L2.St->Hp->Prop)(h0:Pv 0 σ H)(hs:∀ i σ H,i<n->Pv i σ H->g (.int (lo+(i:Int) * st)) σ H λσ2 H2=>tb { D with nx:=Pv (i+1),ct:=Pv (i+1),bk:=D.nx } σ2 H2)(hd:∀ σ H,Pv n σ H->D.nx σ H):FJ (vQ lo st n) g tb D σ H:=by
 refine⟨λi m σ H=>m=n-i/\i<=n/\Pv i σ H,⟨n,by simp,abt _,h0⟩,?_⟩;rintro i m σ H ⟨rfl,hi,p⟩;by_cases aU:i<n
 .refine .inr ⟨aU,Pv (i+1),λσ' H' p'=>⟨n-(i+1),by lia,rfl,aU,p'⟩,λx H' y=>?_⟩;obtain⟨e,y⟩:=y;subst e y;exact hs i σ _ aU p
 .have e:i=n:=by lia
  subst e;exact .inl ⟨aba _,hd σ H p⟩
end
theorem Q5(xs:List V)(b:Nat):jZ xs none (some (b:Int))=xs.take b:=by
 unfold jZ;rw[HT.EB,HT.EA,List.drop_zero,Nat.sub_zero];by_cases h:b<=xs.length
 .rw[air h]
 .rw[ah4 (by lia),ab5,aev (by lia)]
theorem Q6(xs:List V)(a:Nat):jZ xs (some (a:Int)) none=xs.drop a:=by
 unfold jZ;rw[HT.EB,HT.EA];by_cases h:a<=xs.length
 .rw[air h,aev (by rw[agd];lia)]
 .rw[ah4 (by lia),ago (aba _),ago (by lia)];simp
mutual
noncomputable def iJ:Nat->aew->Bool
 | _,.none=>true
 | _,.bool _=>true
 | _,.int _=>true
 | n+1,.tuple ds=>pq n ds
 | n+1,.list ds=>pq n ds
 | _,_=>false
noncomputable def pq:Nat->List aew->Bool
 | _,[]=>true
 | n,d::ds=>iJ n d && pq n ds
end
mutual
theorem Gq:∀ (d:aew) {n:Nat},iJ n d=true->adK d d=true/\d.canLay0=true/\d.depth<=n
 | .none,n,_=>⟨rfl,rfl,abt _⟩
 | .bool b,n,_=>⟨by simp[adK],rfl,abt _⟩
 | .int i,n,_=>⟨by simp[adK],rfl,abt _⟩
 | .str x,0,h=>by simp[iJ] at h
 | .str x,n+1,h=>by simp[iJ] at h
 | .dict x,0,h=>by simp[iJ] at h
 | .dict x,n+1,h=>by simp[iJ] at h
 | .tuple ds,0,h=>by simp[iJ] at h
 | .list ds,0,h=>by simp[iJ] at h
 | .tuple ds,n+1,h=>by obtain⟨a,b,c⟩:=zt ds (n:=n) (by simpa [iJ] using h);exact⟨by simpa only [adK] using a,by simpa only [aeI] using b,by simp only[PyData.depth];lia⟩
 | .list ds,n+1,h=>by obtain⟨a,b,c⟩:=zt ds (n:=n) (by simpa [iJ] using h);exact⟨by simpa only [adK] using a,by simpa only [aeI] using b,by simp only[PyData.depth];lia⟩
theorem zt:∀ (ds:List aew) {n:Nat},pq n ds=true->af5 ds ds=true/\aeE ds=true/\afh ds<=n
 | [],n,_=>⟨rfl,rfl,abt _⟩
 | d::ds,n,h=>by
  have h':iJ n d=true/\pq n ds=true:=by simpa [pq] using h
  obtain⟨a,b,c⟩:=Gq d h'.1;obtain⟨a',b',c'⟩:=zt ds h'.2;exact⟨by simp only[af5,a,a',af6],by simp only[aeE,b,b',af6],by simp only[afh];lia⟩
end
theorem Gr(bK:Ok H):∀ {xs ys:List V},(∀ x∈xs,∀ Q,Q true H->tt (some x::ρ) H Q)->(∀ x∈xs,∀ Q:VK,(∀ n:Int,Q (.int n) H)->te (some x::ρ) H Q)->(∀ ms:List Int,ms.length=xs.length->Q' (ys++ms.map V.int) H)->el Ok ρ tt te xs ys H Q'
 | [],ys,_,_,q=>⟨bK,by simpa using q [] rfl⟩
 | x::r,ys,ht,he,q=>by refine⟨bK,ht x (.head _) _ ?_⟩;rw[if_pos rfl];refine he x (.head _) _ λn=>Gr bK (λy hy=>ht y (.tail _ hy)) (λy hy=>he y (.tail _ hy)) λms hm=>?_;have:=q (n::ms) (by simp[hm]);simpa using this
end Gz
namespace Gz
noncomputable def Gs(a b:Int):Int:=((Nat.gcd a.natAbs b.natAbs:Nat):Int)
noncomputable def sg(t b:Int):Int:=if b<0 then -Gs t b else Gs t b
noncomputable def rt(t b:Int):Int:=t.fdiv (sg t b)
noncomputable def rb(t b:Int):Int:=b.fdiv (sg t b)
end Gz
namespace Gz
open PySem PySem.Spec PyProof.Rows L2
def az{α:Type}(R:V->α->Prop):List V->List α->Prop
 | [],[]=>True
 | x::xs,a::as=>R x a/\az R xs as
 | _,_=>False
section
variable{α:Type}{R R':V->α->Prop}
theorem az.len:∀ {xs:List V} {as:List α},az R xs as->xs.length=as.length
 | [],[],_=>rfl
 | _::_,_::_,h=>by simp[az.len h.2]
 | [],_::_,h=>h.elim
 | _::_,[],h=>h.elim
theorem az.imp(f:∀ x a,R x a->R' x a):∀ {xs:List V} {as:List α},az R xs as->az R' xs as
 | [],[],_=>trivial
 | _::_,_::_,h=>⟨f _ _ h.1,az.imp f h.2⟩
 | [],_::_,h=>h.elim
 | _::_,[],h=>h.elim
theorem az.get:∀ {xs:List V} {as:List α},az R xs as->∀ {i:Nat} {x:V},xs[i]?=some x->∃ a,as[i]?=some a/\R x a
 | [],[],_,i,x,e=>by simp at e
 | _::_,a::_,h,0,x,e=>by simp at e;subst e;exact⟨a,by simp,h.1⟩
 | _::_,_::_,h,i+1,x,e=>by simp only[adE] at e ⊢;exact az.get h.2 e
 | [],_::_,h,_,_,_=>h.elim
 | _::_,[],h,_,_,_=>h.elim
theorem az.at:∀ {xs:List V} {as:List α},az R xs as->∀ {i:Nat} {a:α},as[i]?=some a->∃ x,xs[i]?=some x/\R x a
 | [],[],_,i,x,e=>by simp at e
 | x::_,_::_,h,0,a,e=>by simp at e;subst e;exact⟨x,by simp,h.1⟩
 | _::_,_::_,h,i+1,a,e=>by simp only[adE] at e ⊢;exact az.at h.2 e
 | [],_::_,h,_,_,_=>h.elim
 | _::_,[],h,_,_,_=>h.elim
theorem az.app:∀ {xs ys:List V} {as bs:List α},az R xs as->az R ys bs->az R (xs++ys) (as++bs)
 | [],_,[],_,_,h=>h
 | _::_,_,_::_,_,h,h'=>⟨h.1,az.app h.2 h'⟩
 | [],_,_::_,_,h,_=>h.elim
 | _::_,_,[],_,h,_=>h.elim
theorem az.snoc(h:az R xs as)(h':R x a):az R (xs++[x]) (as++[a]):=h.app ⟨h',trivial⟩
theorem az.ints:∀ (ns:List Int),az (λx n=>x=V.int n) (ns.map V.int) ns
 | []=>trivial
 | n::ns=>⟨rfl,az.ints ns⟩
theorem az.i0{lo:Int}(n:Nat):az (λx (k:Nat)=>x=V.int (lo+k)) ((abG n).map λk=>V.int (lo+(k:Nat))) (abG n):=by
 suffices ∀ l:List Nat,az (λx (k:Nat)=>x=V.int (lo+k)) (l.map λk=>V.int (lo+(k:Nat))) l from this _
 intro l
 induction l with
 | nil=>trivial
 | cons a l ih=>exact⟨rfl,ih⟩
end
theorem rN{α:Type}{R:Hp->V->α->Prop}{Ok:Hp->Prop}{ρ:L2.St}{tt:TT}{te:TE}{p:α->Bool}{f:α->V}{Q':List V->Hp->Prop}(mono:∀ H H' x a,aj H H'->R H x a->R H' x a):∀ {xs:List V} {as:List α} {ys:List V} {H:Hp},az (R H) xs as->(∀ H',aj H H'->Ok H') ->
 (∀ x a,a∈as->∀ H',aj H H'->R H' x a->∀ Q,(∀ dz,aj H' dz->Q (p a) dz)->tt (some x::ρ) H' Q)->(∀ x a,a∈as->p a=true->∀ H',aj H H'->R H' x a->∀ Q:VK,(∀ dz,aj H' dz->Q (f a) dz)->te (some x::ρ) H' Q) ->
 (∀ H',aj H H'->Q' (ys++(as.filter p).map f) H')->el Ok ρ tt te xs ys H Q'
 | [],[],ys,H,_,bK,_,_,q=>⟨bK H (aj.refl H),by simpa using q H (aj.refl H)⟩
 | x::xs,a::as,ys,H,h,bK,ht,he,q=>by
  refine⟨bK H (aj.refl H),ht x a (.head _) H (aj.refl H) h.1 _ λH1 s1=>?_⟩;by_cases hb:p a=true
  .rw[if_pos hb];refine he x a (.head _) hb H1 s1 (mono _ _ _ _ s1 h.1) _ λH2 s2=>?_;have S:=s1.trans s2;refine rN mono (h.2.imp λx a r=>mono _ _ _ _ S r) (λH' s'=>bK H' (S.trans s')) (λx a ha H' s'=>ht x a (.tail _ ha) H' (S.trans s')) (λx a ha hb H' s'=>he x a (.tail _ ha) hb H' (S.trans s')) λH' s'=>?_;have:=q H' (S.trans s');rw[abK,if_pos hb] at this;simpa using this
  .rw[if_neg hb];refine rN mono (h.2.imp λx a r=>mono _ _ _ _ s1 r) (λH' s'=>bK H' (s1.trans s')) (λx a ha H' s'=>ht x a (.tail _ ha) H' (s1.trans s')) (λx a ha hb H' s'=>he x a (.tail _ ha) hb H' (s1.trans s')) λH' s'=>?_;have:=q H' (s1.trans s');rw[abK,if_neg hb] at this;exact this
 | [],_::_,_,_,h,_,_,_,_=>h.elim
 | _::_,[],_,_,h,_,_,_,_=>h.elim
theorem lj(bK:Ok H):∀ {xs:List V} {as:List α} {ys:List V},az R xs as ->
 (∀ x a,a∈as->R x a->∀ Q,Q (p a) H->tt (some x::ρ) H Q)->(∀ x a,a∈as->p a=true->R x a->∀ Q:VK,Q (f a) H->te (some x::ρ) H Q) ->
 Q' (ys++(as.filter p).map f) H->el Ok ρ tt te xs ys H Q'
 | [],[],ys,_,_,_,q=>⟨bK,by simpa using q⟩
 | x::xs,a::as,ys,h,ht,he,q=>by
  refine⟨bK,ht x a (.head _) h.1 _ ?_⟩;by_cases hb:p a=true
  .rw[if_pos hb];refine he x a (.head _) hb h.1 _ (lj bK h.2 (λx a ha=>ht x a (.tail _ ha)) (λx a ha=>he x a (.tail _ ha)) ?_);rw[abK,if_pos hb] at q;simpa using q
  .rw[if_neg hb];refine lj bK h.2 (λx a ha=>ht x a (.tail _ ha)) (λx a ha=>he x a (.tail _ ha)) ?_;rw[abK,if_neg hb] at q;exact q
 | [],_::_,_,h,_,_,_=>h.elim
 | _::_,[],_,h,_,_,_=>h.elim
theorem filter_tt(l:List α):l.filter (λ_=>true)=l:=ac8.mpr λ_ _=>rfl
abbrev P2:=Int × Int
def dn(H:Hp)(v:V)(p:P2):Prop:=∃ a,v = .ref a/\H a=some (.tup [.int p.1,.int p.2])
theorem dn.same(h:dn H v p)(s:aj H H'):dn H' v p:=let ⟨a,e,q⟩:=h;⟨a,e,s _ _ q⟩
theorem dn.put(h:dn H v p)(hr:H r=some (.lst ys)):dn (upd H r (.lst zs)) v p:=by obtain⟨a,e,q⟩:=h;refine⟨a,e,?_⟩;rw[aB (oJ q hr (λz=>nomatch z))];exact q
abbrev gx(H:Hp):List V->List P2->Prop:=az (dn H)
theorem gx.same(h:gx H xs ps)(s:aj H H'):gx H' xs ps:=az.imp (λ_ _ r=>r.same s) h
noncomputable def aside(s e p:P2):Int:=(p.2-s.2) * (e.1-s.1)-(p.1-s.1) * (e.2-s.2)
noncomputable def aF(ps:List P2)(i:Nat):P2:=ps.getD i (0,0)
def Q7(ks:List P2)(p q:Int)(i:Nat):Prop:=i+1<ks.length/\(aF ks i).1 * q<=p/\p<=(aF ks (i+1)).1 * q
def hit(ks:List P2)(p q:Int):Prop:=∃ i,Q7 ks p q i
def SameBut(x:abd)(H H':Hp):Prop:=∀ b o,b≠x->H b=some o->H' b=some o
theorem pw(hi:i<ps.length):aF ps i∈ps:=by unfold aF;rw[aa1,aa3 hi];exact agg hi
theorem ia{α β:Type}{R:Hp->V->α->Prop}{R':Hp->V->β->Prop}{Ok:Hp->Prop}{ρ:L2.St}{tt:TT}{te:TE}{f:α->β}{Q':List V->Hp->Prop}(mono:∀ H H' x a,aj H H'->R H x a->R H' x a)(jh:∀ H H' x a,aj H H'->R' H x a->R' H' x a) :
 ∀ {xs:List V} {as:List α} {ys:List V} {bs:List β} {H:Hp},az (R H) xs as->az (R' H) ys bs->(∀ H',aj H H'->Ok H')->(∀ x a,a∈as->∀ H',aj H H'->R H' x a->∀ Q,Q true H'->tt (some x::ρ) H' Q) ->
 (∀ x a,a∈as->∀ H',aj H H'->R H' x a->∀ Q:VK,(∀ dz y,aj H' dz->R' dz y (f a)->Q y dz)->te (some x::ρ) H' Q) ->
 (∀ H' zs,aj H H'->az (R' H') zs (bs++as.map f)->Q' zs H')->el Ok ρ tt te xs ys H Q'
 | [],[],ys,bs,H,_,hy,bK,_,_,q=>⟨bK H (aj.refl H),q H ys (aj.refl H) (by simpa using hy)⟩
 | x::xs,a::as,ys,bs,H,h,hy,bK,ht,he,q=>by
  refine⟨bK H (aj.refl H),ht x a (.head _) H (aj.refl H) h.1 _ ?_⟩;rw[if_pos rfl];refine he x a (.head _) H (aj.refl H) h.1 _ λH2 y s2 r2=>?_;refine ia mono jh (bs:=bs++[f a]) (h.2.imp λx a r=>mono _ _ _ _ s2 r) ((hy.imp λx a r=>jh _ _ _ _ s2 r).snoc r2) (λH' s'=>bK H' (s2.trans s')) (λx a ha H' s'=>ht x a (.tail _ ha) H' (s2.trans s')) (λx a ha H' s'=>he x a (.tail _ ha) H' (s2.trans s')) λH' zs s' hz=>?_;refine q H' zs (s2.trans s') ?_;rw[abj]
  rwa [afS] at hz
 | [],_::_,_,_,_,h,_,_,_,_,_=>h.elim
 | _::_,[],_,_,_,h,_,_,_,_,_=>h.elim
noncomputable def sw(ks:List P2):List P2:=ks.map λp=>(p.2,p.1)
end Gz
namespace Gz
open PySem PySem.W PyProof.Rows
def eo{α:Type}(lt:Nat->Nat->Bool)(n:Nat):KasT α->(α->Prop)->Prop
 | .ret a,P=>P a
 | .ask i j k,P=>i<n/\j<n/\eo lt n (k (lt i j)) P
section
theorem pA:∀ (t:KasT α),eo lt n t (λa=>eo lt n (f a) P)->eo lt n (t.bind f) P
 | .ret _,h=>h
 | .ask _ _ k,h=>⟨h.1,h.2.1,pA (k _) h.2.2⟩
theorem Gu{α:Type}{P P':α->Prop}(h:∀ a,P a->P' a):∀ (t:KasT α),eo lt n t P->eo lt n t P'
 | .ret _,q=>h _ q
 | .ask _ _ k,q=>⟨q.1,q.2.1,Gu h (k _) q.2.2⟩
theorem Gv{α:Type}{cmp:Nat->Nat->(Bool->abe->Prop)->abe->Prop}{Ok:abe->Prop}(hc:∀ i j C s,i<n->j<n->Ok s->(∀ s',Ok s'->C (lt i j) s')->cmp i j C s){P:α->Prop}{Q:α->abe->Prop}(hQ:∀ a s,Ok s->P a->Q a s) :
 ∀ (t:KasT α) (s:abe),Ok s->eo lt n t P->t.kasWp cmp Q s
 | .ret a,s,o,h=>hQ a s o h
 | .ask i j k,s,o,h=>hc i j _ s h.1 h.2.1 o λs' o'=>Gv hc hQ (k (lt i j)) s' o' h.2.2
structure Ord(lt:Nat->Nat->Bool):Prop where
 asym:∀ {a b},lt a b=true->lt b a=false
 tr:∀ {a b c},lt b a=false->lt c b=false->lt c a=false
theorem Ord.rfl'(O:Ord lt)(a:Nat):lt a a=false:=by
 cases h:lt a a with
 | false=>rfl
 | true=>rw[O.asym h] at h;cases h
def eB(lt:Nat->Nat->Bool)(p:Array Nat)(k:Nat):Prop:=∀ i j,i<=j->j<k->lt (p.getD j 0) (p.getD i 0)=false
def fL(lt:Nat->Nat->Bool)(p:Array Nat)(k:Nat):Prop:=∀ i j,i<=j->j<k->lt (p.getD i 0) (p.getD j 0)=false
def cF(n:Nat)(p:Array Nat):Prop:=p.toList.Perm (abG n)
theorem cF.size(h:cF n p):p.size=n:=by have:=h.length_eq;simpa using this
theorem cF.below(h:cF n p)(hi:i<n):p.getD i 0<n:=by
 have hs:=h.size;have cR:i<p.size:=by lia
 have e:p.getD i 0=p[i]:=by simp[aiM,cR]
 rw[e];have m:p[i]∈p.toList:=by simp
 simpa using h.mem_iff.mp m
theorem cF.of(h:cF n p)(hq:q.Perm p):cF n q:=(Array.perm_iff_toList_perm.mp hq).trans h
theorem eB.one(O:Ord lt):eB lt p 1:=λi j ib hj=>by
 have:i=j:=by lia
 subst this;exact O.rfl' _
theorem fL.one(O:Ord lt):fL lt p 1:=λi j ib hj=>by
 have:i=j:=by lia
 subst this;exact O.rfl' _
theorem eB.succ(O:Ord lt)(h:eB lt p k)(hk:1<=k)(hn:lt (p.getD k 0) (p.getD (k-1) 0)=false):eB lt p (k+1):=λi j ib hj=>by
 by_cases e:j=k
 .subst e;by_cases ei:i=j
  .subst ei;exact O.rfl' _
  .exact O.tr (h i (j-1) (by lia) (by lia)) hn
 .exact h i j ib (by lia)
theorem fL.succ(O:Ord lt)(h:fL lt p k)(hk:1<=k)(hn:lt (p.getD (k-1) 0) (p.getD k 0)=false):fL lt p (k+1):=λi j ib hj=>by
 by_cases e:j=k
 .subst e;by_cases ei:i=j
  .subst ei;exact O.rfl' _
  .exact O.tr hn (h i (j-1) (by lia) (by lia))
 .exact h i j ib (by lia)
theorem my(hj:j<=p.size)(k:Nat):(kas_rev p i j).getD k 0=if i<=k/\k<j then p.getD (i+j-1-k) 0 else p.getD k 0:=by simp only[afi];unfold kas_rev;rw[getElem?_mirror_all hj];split<;>rfl
theorem Gw(hk:k<p.size)(hl:l<=k)(i:Nat):(bubble p k (k-l)).getD i 0=if i=l then p.getD k 0 else if l<i/\i<=k then p.getD (i-1) 0 else p.getD i 0:=by
 simp only[afi];rw[getElem?_bubble hk _ (by lia)];have e:k-(k-l)=l:=by lia
 rw[e];split
 .rfl
 .split<;>rfl
theorem Gx(O:Ord lt)(hp:cF n p):∀ (f a:Nat),1<=a->a+f<=n->eB lt p a->(∀ m,a<=m->m<=a+f->eB lt p m->P m)->eo lt n (kas_asc p f a) P
 | 0,a,h1,h2,hs,q=>q a (aba _) (by lia) hs
 | f+1,a,h1,h2,hs,q=>by
  refine⟨hp.below (by lia),hp.below (by lia),?_⟩;cases c:lt (p.getD a 0) (p.getD (a-1) 0) with
  | true =>
   simp only[↓reduceIte];exact q a (aba _) (by lia) hs
  | false =>
   simp only[aby,↓reduceIte];exact Gx O hp f (a+1) (by lia) (by lia) (hs.succ O h1 c) λm m1 m2=>q m (by lia) (by lia)
theorem fL.rev(h:fL lt p k)(hk:k<=p.size)(hi:i<=k)(he:∀ j,i<=j->j<k->lt (p.getD (k-1) 0) (p.getD j 0)=false)(O:Ord lt):fL lt (kas_rev p i k) k:=λa b fK hb=>by
 rw[my hk,my hk];have eqv:∀ x y,i<=x->x<k->i<=y->y<k->lt (p.getD x 0) (p.getD y 0)=false:=λx y x1 x2 y1 y2=>O.tr (he y y1 y2) (h x (k-1) (by lia) (by lia));split
 .split
  .exact eqv _ _ (by lia) (by lia) (by lia) (by lia)
  .exfalso;lia
 .split
  .exact h _ _ (by lia) (by lia)
  .exact h _ _ fK hb
theorem vR(O:Ord lt):∀ (f:Nat) (p:Array Nat) (k q:Nat),cF n p->1<=k->k+f<=n->q+1<=k->fL lt p k->(∀ j,k-(q+1)<=j->j<k->lt (p.getD (k-1) 0) (p.getD j 0)=false) ->
 (∀ p' k' q',cF n p'->k<=k'->k'<=k+f->q' + 1<=k'->fL lt p' k'->(∀ j,k' - (q' + 1)<=j->j<k'->lt (p'.getD (k' - 1) 0) (p'.getD j 0)=false)->P (p',k',q'))->eo lt n (kas_desc f p k q) P
 | 0,p,k,q,hp,h1,h2,h3,hd,he,fin=>fin p k q hp (aba _) (by lia) h3 hd he
 | f+1,p,k,q,hp,h1,h2,h3,hd,he,fin=>by
  have hs:=hp.size;have one:∀ (p':Array Nat),∀ j,(k+1)-(0+1)<=j->j<k+1->lt (p'.getD (k+1-1) 0) (p'.getD j 0)=false:=λp' j j1 j2=>by
   have:j=k:=by lia
   subst this;exact O.rfl' _
  refine⟨hp.below (by lia),hp.below (by lia),?_⟩;cases c:lt (p.getD k 0) (p.getD (k-1) 0) with
  | true =>
   simp only[↓reduceIte];have c':=O.asym c;by_cases hq:q > 0
   .rw[if_pos hq];have cP:cF n (kas_rev p (k-(q+1)) k):=hp.of (ag6 _ _ _ _);have i4:fL lt (kas_rev p (k-(q+1)) k) k:=hd.rev (by lia) (by lia) he O;refine vR O f _ (k+1) 0 cP (by lia) (by lia) (by lia) (i4.succ O h1 ?_) (one _) λp2 k2 q2 a1 a2 a3 a4 a5 a6=>fin p2 k2 q2 a1 (by lia) (by lia) a4 a5 a6;rw[my (by lia),my (by lia),if_pos (by lia),if_neg (by lia)];have e1:k-(q+1)+k-1-(k-1)=k-(q+1):=by lia
    rw[e1];exact O.tr c' (hd _ (k-1) (by lia) (by lia))
   .rw[if_neg hq];exact vR O f p (k+1) 0 hp (by lia) (by lia) (by lia) (hd.succ O h1 c') (one _) λp2 k2 q2 a1 a2 a3 a4 a5 a6=>fin p2 k2 q2 a1 (by lia) (by lia) a4 a5 a6
  | false =>
   simp only[aby,↓reduceIte];refine⟨hp.below (by lia),hp.below (by lia),?_⟩;cases d:lt (p.getD (k-1) 0) (p.getD k 0) with
   | true =>
    simp only[↓reduceIte];exact fin p k q hp (aba _) (by lia) h3 hd he
   | false =>
    simp only[aby,↓reduceIte];refine vR O f p (k+1) (q+1) hp (by lia) (by lia) (by lia) (hd.succ O h1 d) (λj j1 j2=>?_) λp2 k2 q2 a1 a2 a3 a4 a5 a6=>fin p2 k2 q2 a1 (by lia) (by lia) a4 a5 a6;have ek:k+1-1=k:=by lia
    rw[ek];by_cases ej:j=k
    .subst ej;exact O.rfl' _
    .exact O.tr (he j (by lia) (by lia)) c
theorem fL.whole(h:fL lt p k)(hk:k<=p.size):eB lt (kas_rev p 0 k) k:=λa b fK hb=>by rw[my hk,my hk,if_pos (by lia),if_pos (by lia)];exact h _ _ (by lia) (by lia)
theorem Gy(O:Ord lt)(hp:cF n p)(h1:1<=k)(h2:k<=n)(hd:fL lt p k)(fin:∀ m p',cF n p'->1<=m->m<=n->eB lt p' m->P (m,p')):eo lt n (kas_tail3 k n p) P:=by have cP:cF n (kas_rev p 0 k):=hp.of (ag6 _ _ _ _);have hs:=hp.size;unfold kas_tail3;refine pA _ (Gx O cP (n-k) k h1 (by lia) (hd.whole (by lia)) λm m1 m2 ms=>?_);exact fin m _ cP (by lia) (by lia) ms
theorem GA(O:Ord lt)(hp:cF n p)(h1:1<=k)(h2:k+1<=n)(hd:fL lt p (k+1))(fin:∀ m p',cF n p'->1<=m->m<=n->eB lt p' m->P (m,p')):eo lt n (kas_descPart k n p) P:=by
 unfold kas_descPart;refine pA _ (vR O (n-(k+1)) p (k+1) 0 hp (by lia) (by lia) (by lia) hd (λj j1 j2=>?_) λp2 k2 q2 a1 a2 a3 a4 a5 a6=>?_)
 .have:j=k:=by lia
  subst this;exact O.rfl' _
 .have hs:=a1.size;dsimp only;by_cases hq:q2 > 0
  .rw[if_pos hq];exact Gy O (a1.of (ag6 _ _ _ _)) (by lia) (by lia) (a5.rev (by lia) (by lia) a6 O) fin
  .rw[if_neg hq];exact Gy O a1 (by lia) (by lia) a5 fin
theorem Q8(O:Ord lt)(hp:cF n p)(hn:1<=n)(fin:∀ m p',cF n p'->1<=m->m<=n->eB lt p' m->P (m,p')):eo lt n (kas_count n p) P:=by
 have hs:=hp.size;unfold kas_count;have key:eo lt n (kas_asc p (n-1) 1) (λm=>1<=m/\m<=n/\eB lt p m/\(m<n->lt (p.getD m 0) (p.getD (m-1) 0)=true)):=by
  have gen:∀ (f a:Nat),1<=a->a+f=n->eB lt p a->eo lt n (kas_asc p f a) (λm=>1<=m/\m<=n/\eB lt p m/\(m<n->lt (p.getD m 0) (p.getD (m-1) 0)=true)):=by
   intro f
   induction f with
   | zero=>intro a h1 h2 hs;exact⟨h1,by lia,hs,λz=>absurd z (by lia)⟩
   | succ f ih =>
    intro a h1 h2 hs;refine⟨hp.below (by lia),hp.below (by lia),?_⟩;cases c:lt (p.getD a 0) (p.getD (a-1) 0) with
    | true =>
     simp only[↓reduceIte];exact⟨h1,by lia,hs,λ_=>c⟩
    | false =>
     simp only[aby,↓reduceIte];exact ih (a+1) (by lia) (by lia) (hs.succ O h1 c)
  exact gen (n-1) 1 (aba _) (by lia) (eB.one O)
 refine pA _ (Gu (λm hm=>?_) _ key);obtain⟨m1,m2,ms,mc⟩:=hm;by_cases e:(m == n)=true
 .rw[if_pos e];exact fin m p hp m1 m2 ms
 .rw[if_neg e];have Ra:m<n:=by
   have:m≠n:=by simpa using e
   lia
  have mc:=mc Ra;by_cases h2:m > 1
  .rw[if_pos h2];refine⟨hp.below (by lia),hp.below (by lia),?_⟩;cases c:lt (p.getD 0 0) (p.getD (m-1) 0) with
   | true =>
    simp only[↓reduceIte];exact fin m p hp m1 m2 ms
   | false =>
    simp only[aby,↓reduceIte];have eqv:∀ x y,x<m->y<m->lt (p.getD x 0) (p.getD y 0)=false:=λx y hx hy =>
     O.tr (ms y (m-1) (by lia) (by lia)) (O.tr c (ms 0 x (by lia) hx))
    have cP:cF n (kas_rev p 0 m):=hp.of (ag6 _ _ _ _);refine GA O cP m1 (by lia) (λi j ib hj=>?_) fin;rw[my (by lia),my (by lia)];by_cases ej:j=m
    .subst ej;rw[if_neg (show ¬ (0<=j/\j<j) by lia)];split
     .exact O.tr (O.asym mc) (eqv _ _ (by lia) (by lia))
     .have:i=j:=by lia
      subst this;exact O.rfl' _
    .rw[if_pos (by lia),if_pos (by lia)];exact eqv _ _ (by lia) (by lia)
  .rw[if_neg h2];have e1:m=1:=by lia
   subst e1;exact GA O hp (aba _) (by lia) ((fL.one O).succ O (aba _) (O.asym mc)) fin
theorem zu(O:Ord lt)(hp:cF n p)(hk:k<n)(hs:eB lt p k)(fin:∀ m,m<=k->(∀ i,i<m->lt (p.getD k 0) (p.getD i 0)=false)->(∀ i,m<=i->i<k->lt (p.getD i 0) (p.getD k 0)=false)->P m) :
 ∀ (f l r:Nat),r-l<=f->l<=r->r<=k->(∀ i,i<l->lt (p.getD k 0) (p.getD i 0)=false)->(∀ i,r<=i->i<k->lt (p.getD i 0) (p.getD k 0)=false)->eo lt n (kas_place p k f l r) P
 | 0,l,r,h1,h2,h3,a,b=>by
  have:l=r:=by lia
  subst this;exact fin l h3 a b
 | f+1,l,r,h1,h2,h3,a,b=>by
  unfold kas_place;by_cases hlr:l ≥ r
  .rw[if_pos hlr];have:l=r:=by lia
   subst this;exact fin l h3 a b
  .rw[if_neg hlr];refine⟨hp.below hk,hp.below (by lia),?_⟩;cases c:lt (p.getD k 0) (p.getD ((l+r) / 2) 0) with
   | true =>
    simp only[↓reduceIte];refine zu O hp hk hs fin f l ((l+r) / 2) (by lia) (by lia) (by lia) a λi i1 i2=>?_;exact O.tr (O.asym c) (hs _ _ i1 i2)
   | false =>
    simp only[aby,↓reduceIte];refine zu O hp hk hs fin f ((l+r) / 2+1) r (by lia) (by lia) h3 (λi i1=>?_) b;exact O.tr (hs i ((l+r) / 2) (by lia) (by lia)) c
theorem GB(O:Ord lt)(fin:∀ p,cF n p->eB lt p n->P p):∀ (f:Nat) (p:Array Nat) (k:Nat),k+f=n->cF n p->eB lt p k->eo lt n (kas_bin f p k) P
 | 0,p,k,h,hp,hs=>fin p hp (by rw[<- h];exact hs)
 | f+1,p,k,h,hp,hs=>by
  have sz:=hp.size;unfold kas_bin;refine pA _ (zu O hp (by lia) hs (λm m1 ma mb=>?_) k 0 k (by lia) (by lia) (aba _) (λ_ z=>absurd z (by lia)) λ_ z1 z2=>absurd z2 (by lia));refine GB O fin f _ (k+1) (by lia) (hp.of (bubble_perm _ _ _)) λi j ib hj=>?_;rw[Gw (by lia) m1,Gw (by lia) m1];by_cases ei:i=m
  .rw[if_pos ei];by_cases ej:j=m
   .rw[if_pos ej];exact O.rfl' _
   .rw[if_neg ej,if_pos (by lia)];exact mb _ (by lia) (by lia)
  .rw[if_neg ei];by_cases ej:j=m
   .rw[if_pos ej,if_neg (by lia)];exact ma _ (by lia)
   .rw[if_neg ej];split
    .split
     .exact hs _ _ (by lia) (by lia)
     .exact hs _ _ (by lia) (by lia)
    .split
     .exfalso;lia
     .exact hs _ _ (by lia) (by lia)
theorem GC(O:Ord lt)(hn:1<=n):eo lt n (kas_sort n) (λp=>cF n p/\eB lt p n):=by
 unfold kas_sort;have h0:cF n (adl (abG n)):=by unfold cF;simp
 refine pA _ (Q8 O h0 hn λm p hp m1 m2 ms=>?_);dsimp only;by_cases h:m<n
 .rw[if_pos h];have e:max m 1=m:=by lia
  rw[e];exact GB O (λp hp hs=>⟨hp,hs⟩) (n-m) p m (by lia) hp ms
 .rw[if_neg h];have e:m=n:=by lia
  subst e;exact⟨hp,ms⟩
noncomputable def vS{α:Type}(lt:Nat->Nat->Bool):KasT α->α
 | .ret a=>a
 | .ask i j k=>vS lt (k (lt i j))
theorem GD:∀ (t:KasT α),eo lt n t P->P (vS lt t)
 | .ret _,h=>h
 | .ask i j k,h=>GD (k (lt i j)) h.2.2
theorem GF:∀ (t:KasT α),eo lt n t P->eo lt n t (λa=>a=vS lt t)
 | .ret _,_=>rfl
 | .ask i j k,h=>⟨h.1,h.2.1,GF (k (lt i j)) h.2.2⟩
noncomputable def cS(lt:Nat->Nat->Bool)(n:Nat):Array Nat:=if n<2 then adl (abG n) else vS lt (kas_sort n)
theorem pB(O:Ord lt):cF n (cS lt n)/\eB lt (cS lt n) n:=by
 unfold cS;split
 .rename_i h;refine⟨by unfold cF;simp,λi j ib hj=>?_⟩;have:i=j:=by lia
  subst this;exact O.rfl' _
 .rename_i h;exact GD _ (GC O (by lia))
end
end Gz
namespace Gz
open PySem PySem.Spec PyProof.Rows L2
local macro_rules | `(tactic| walk_at "o") => `(tactic| ((try simp only [PySem.Addr] at *); lia))
theorem GG:∀ {a b:List Int},HT.lexLt a b=true->HT.lexLt b a=false
 | [],[],h=>by cases h
 | [],_::_,_=>rfl
 | _::_,[],h=>by cases h
 | x::a,y::b,h=>by
  rw[HT.oV] at h ⊢;by_cases e:x=y
  .subst e;rw[if_pos rfl] at h ⊢;exact GG h
  .rw[if_neg e] at h;rw[if_neg (ab4 e)];have:x<y:=by simpa using h
   simpa using (by walk_at "o" : ¬ y<x)
theorem GH:∀ {a b c:List Int},HT.lexLt b a=false->HT.lexLt c b=false->HT.lexLt c a=false
 | [],[],[],_,_=>rfl
 | [],[],_::_,_,_=>rfl
 | [],_::_,[],_,h=>by cases h
 | [],_::_,_::_,_,_=>rfl
 | _::_,[],_,h,_=>by cases h
 | _::_,_::_,[],_,h=>by cases h
 | x::a,y::b,z::c,h1,h2=>by
  rw[HT.oV] at h1 h2 ⊢;by_cases e1:y=x
  .subst e1;rw[if_pos rfl] at h1;by_cases e2:z=y
   .subst e2;rw[if_pos rfl] at h2 ⊢;exact GH h1 h2
   .rw[if_neg e2] at h2 ⊢;exact h2
  .rw[if_neg e1] at h1;have pC:¬ y<x:=by simpa using h1
   by_cases e2:z=y
   .subst e2;rw[if_neg e1];exact h1
   .rw[if_neg e2] at h2;have rO:¬ z<y:=by simpa using h2
    rw[if_neg (by walk_at "o")];simpa using (by walk_at "o" : ¬ z<x)
section
theorem Rb(h:Q (a == b) s):abm (model prog w) A (eqBool (.int a t) (.int b u)) Q E s:=SeqAt.EqAt.int_int a t b u prog w E Q h
theorem Rc:∀ {ns ms:List Int} {us ws:List aa9} {i:Nat},af1 us ns->af1 ws ms->fin=decide (ns.length<ms.length)->Q (HT.lexLt ns ms) s->PySem.W.KatLex prog w A b fin Q (us.zip ws) i s:=by
 intro ns
 induction ns with
 | nil =>
  intro ms us ws i r q e h;cases r;cases q with
  | nil=>subst e;exact h
  | cons=>subst e;exact h
 | cons n ns ih =>
  intro ms us ws i r q e h;cases r with
  | cons _ t r =>
   cases q with
   | nil=>subst e;exact h
   | cons m t' q =>
    rw[List.zip_cons_cons];refine PySem.W.kat_cons (Rb (PySem.W.kat_go (λhh=>PySem.W.kat_yes ?_) λhh=>PySem.W.kat_no ?_))
    .have e1:n=m:=by simpa using hh
     subst e1;rw[HT.oV,if_pos rfl] at h;exact ih r q (by subst e;simp) h
    .have e1:n≠m:=by simpa using hh
     rw[HT.oV,if_neg e1] at h;cases (b && i == 0) with
     | true=>exact oneLt_int h
     | false=>exact PySem.W.kat_one _ _ (lt_int h)
end
def GI(sp:Sp):List V->List V->Hp->(List V->Hp->Prop)->Prop
 | [],ks,H,Q=>Q ks H
 | x::r,ks,H,Q=>sp [x] H (λk H1=>GI sp r (ks++[k]) H1 Q) E0
def iK(K:aa0)(H:Hp):List V->List (List Int)->Prop
 | [],[]=>True
 | k::ks,n::ns=>(∃ p,k = .ref p/\ah K H p (n.map V.int)/\n≠[])/\iK K H ks ns
 | _,_=>False
theorem iK.len{K:aa0}{H:Hp}:∀ {ks:List V} {ns:List (List Int)},iK K H ks ns->ks.length=ns.length
 | [],[],_=>rfl
 | _::_,_::_,h=>by simp[iK.len h.2]
 | [],_::_,h=>h.elim
 | _::_,[],h=>h.elim
theorem iK.get{K:aa0}{H:Hp}:∀ {ks:List V} {ns:List (List Int)} {i:Nat} {k:V},iK K H ks ns->ks[i]?=some k->∃ p,k = .ref p/\ah K H p ((ns.getD i []).map V.int)
 | [],[],_,_,_,e=>by simp at e
 | k::_,n::_,0,_,h,e=>by simp at e;subst e;obtain⟨⟨p,a,b,_⟩,_⟩:=h;exact⟨p,a,b⟩
 | _::_,_::_,i+1,_,h,e=>by have:=iK.get (i:=i) h.2 (by simpa using e);simpa using this
 | [],_::_,_,_,h,_=>h.elim
 | _::_,[],_,_,h,_=>h.elim
section
noncomputable def c6(kis:List (List Int))(i j:Nat):Bool:=HT.lexLt (kis.getD i []) (kis.getD j [])
theorem nF(kis:List (List Int)):Ord (c6 kis):=⟨λh=>GG h,λh1 h2=>GH h1 h2⟩
noncomputable def dQ{α:Type}(kis:List (List Int))(d:α)(as:List α):List α:=(cS (c6 kis) as.length).toList.map λi=>as.getD i d
theorem pE:(dQ kis d as).Perm as:=by
 have h:=(pB (n:=as.length) (nF kis)).1;have q:=h.map (λi=>as.getD i d);have self:(abG as.length).map (λi=>as.getD i d)=as:=by
  apply agh
  .simp
  .intro i h1 h2;simp[aa1,h2]
 rw[self] at q;exact q
theorem GJ:(dQ kis d as).length=as.length:=pE.length_eq
theorem Rf(hk:kis=as.map f):(dQ kis d as).Pairwise (λa b=>HT.lexLt (f b) (f a)=false):=by
 obtain⟨hp,hs⟩:=pB (n:=as.length) (nF kis);have sz:=hp.size;unfold dQ;rw[ahJ];refine List.pairwise_iff_getElem.mpr λi j hi hj ib=>?_;have cR:i<(cS (c6 kis) as.length).size:=by simpa using hi
 have zv:j<(cS (c6 kis) as.length).size:=by simpa using hj
 have q:=hs i j (by lia) (by lia);have e1:(cS (c6 kis) as.length).getD i 0=(cS (c6 kis) as.length)[i]:=by simp[aiM,cR]
 have e2:(cS (c6 kis) as.length).getD j 0=(cS (c6 kis) as.length)[j]:=by simp[aiM,zv]
 have l1:=cF.below hp (i:=i) (by lia);have l2:=cF.below hp (i:=j) (by lia);rw[e1,e2] at q;rw[e1] at l1;rw[e2] at l2;have q2:HT.lexLt (kis.getD (cS (c6 kis) as.length)[j] []) (kis.getD (cS (c6 kis) as.length)[i] [])=false:=q;have g:∀ k,k<as.length->kis.getD k []=f (as.getD k d):=λk gy=>by subst hk;simp[aa1,gy]
 simp only[Array.getElem_toList];rw[g _ l1,g _ l2] at q2;exact q2
theorem Rg(r:Vals xs vs):Vals (dQ kis .non xs) ((cS (c6 kis) xs.length).toList.map λi=>vs.getD i Value.none):=by
 have hp:=(pB (n:=xs.length) (nF kis)).1;have gen:∀ l:List Nat,(∀ i∈l,i<xs.length)->Vals (l.map λi=>xs.getD i .non) (l.map λi=>vs.getD i Value.none):=by
  intro l
  induction l with
  | nil=>intro _;exact .nil
  | cons i l ih =>
   intro h;have hi:=h i (.head _);refine .cons ?_ (ih λj hj=>h j (.tail _ hj));have e:xs[i]?=some xs[i]:=aa3 hi;obtain⟨u,eu,ru⟩:=r.get e;show RelV (xs.getD i .non) (vs.getD i Value.none);rw[aa1,aa1,eu,e];exact ru
 exact gen _ λi hi=>by simpa using hp.mem_iff.mp hi
def Rh(K:aa0)(sp:Sp)(x:V)(H1:Hp)(Q:VK):Prop:=∃ (a:abd) (xs:List V),x = .ref a/\ai K H1 a xs/\xs.length<64/\GI sp xs [] H1 λks H2=>∃ kis,iK K H2 ks kis/\∀ l,H2 l=none->Q (.ref l) (upd H2 l (.lst (dQ kis .non xs)))
def Ri(K:aa0)(sp:Sp)(te:TE):TE:=λσ H Q=>te σ H λx H1=>Rh K sp x H1 Q
end
abbrev En:=Option Int
noncomputable def ev:En->V
 | none=>.non
 | some i=>.int i
theorem pF:ev none = .non:=rfl
theorem pG(i:Int):ev (some i) = .int i:=rfl
noncomputable def aT:En->En->Bool
 | some x,some y=>decide (y<x)
 | _,_=>false
def aM(H:Hp)(v:V)(a b:En):Prop:=∃ p,v = .ref p/\H p=some (.tup [ev a,ev b])
theorem aM.same(h:aM H v a b)(s:aj H H1):aM H1 v a b:=by obtain⟨p,e,h⟩:=h;exact⟨p,e,s _ _ h⟩
theorem aM.new:aM (upd H p (.tup [ev a,ev b])) (.ref p) a b:=⟨p,rfl,aw⟩
noncomputable def hold(a b:En)(n:Int):Bool:=!aT a (some n) && !aT (some n) b
theorem vT:hold a b n=true↔(∀ x,a=some x->x<=n)/\(∀ y,b=some y->n<=y):=by unfold hold;rcases a with _|x<;>rcases b with _|y<;>simp[aT]
noncomputable def dR:En->En->En
 | some x,some y=>some (if y > x then y else x)
 | some x,none=>some x
 | none,b=>b
noncomputable def dS:En->En->En
 | some x,some y=>some (if y<x then y else x)
 | some x,none=>some x
 | none,b=>b
noncomputable def nums(a b:En):List Int:=[a,b].filterMap id
noncomputable def rP(v:V):Bool:=!decide (v = .non)
theorem Rj(a b:En):([ev a,ev b].filter rP).map (λv=>v)=(nums a b).map V.int:=by rcases a with _|x<;>rcases b with _|y<;>simp[ev,nums,rP]
theorem Rk(a b:En):lg hV (nums a b) .non=ev (dR a b):=by rcases a with _|x<;>rcases b with _|y<;>simp[nums,dR,hV,lg,ev]
theorem Rl(a b:En):lg pd (nums a b) .non=ev (dS a b):=by rcases a with _|x<;>rcases b with _|y<;>simp[nums,dS,pd,lg,ev]
def GK(H:Hp)(v:V)(lo hi:En):Prop:=(aT lo hi=true->v = .non)/\(aT lo hi=false->aM H v lo hi)
theorem GL{K:aa0}{H:Hp}{p:abd}{a b:En}{Q:VK}{tt:TT}{te:TE}(hp:H p=some (.tup [ev a,ev b]))(ht:∀ x H Q,Q (rP x) H->tt [some x] H Q)(he:∀ x H Q,Q x H->te [some x] H Q)
 (q:∀ l,H l=none->Q (.ref l) (upd H l (.lst ((nums a b).map V.int)))):mr (kM K p) [] tt te H Q:=by
 refine cJ (xs:=[ev a,ev b]) yW aW (vI (p:=rP) (f:=λv=>v) (ah.of hp) (λx _ Q h=>ht x H Q h) (λx _ _ Q h=>he x H Q h) ?_);rw[abr,Rj];exact q
end Gz
namespace Gz
open L2
abbrev S2:=En × En
noncomputable def hs(s:S2)(n:Int):Bool:=hold s.1 s.2 n
def GN(s:S2):Prop:=aT s.1 s.2=false
theorem nG:hs s n=true↔(∀ x,s.1=some x->x<=n)/\(∀ y,s.2=some y->n<=y):=vT
open PySem in
def lp(H:Hp):List V->List S2->Prop
 | [],[]=>True
 | v::vs,s::ss=>aM H v s.1 s.2/\lp H vs ss
 | _,_=>False
section
theorem aM.put(h:aM H v a b)(hl:H l=some (.lst ys)):aM (upd H l o) v a b:=by obtain⟨p,e,h⟩:=h;exact⟨p,e,by rw[aB (oJ h hl λz=>nomatch z)];exact h⟩
theorem lp.len:∀ {vs:List V} {ss:List S2},lp H vs ss->vs.length=ss.length
 | [],[],_=>rfl
 | _::_,_::_,h=>by simp[lp.len h.2]
 | [],_::_,h=>h.elim
 | _::_,[],h=>h.elim
open PySem
noncomputable def zw:En->aew
 | none=>.none
 | some i=>.int i
noncomputable def zx(s:S2):aew:=.tuple [zw s.1,zw s.2]
theorem GO(e:En):Dat K H (ev e) (zw e):=by
 rcases e with _|x
 .exact .non
 .exact .int x
theorem aM.dat(h:aM H v a b):Dat K H v (zx (a,b)):=by obtain⟨p,rfl,h⟩:=h;exact .tup (ah.of h) (.cons (GO a) (.cons (GO b) .nil))
end
end Gz
namespace Gz
open PySem PySem.Spec PyProof.Rows L2
section
end
abbrev W2:=Option S2
def gA(H:Hp)(v:V):W2->Prop
 | none=>v = .non
 | some s=>aM H v s.1 s.2
theorem gA.same(h:gA H v w)(s:aj H H'):gA H' v w:=by
 cases w with
 | none=>exact h
 | some a=>exact aM.same h s
end Gz
namespace Gz
open PySem L2 PySem.W PySem.Spec PyProof.Rows
def Bt(n:Nat)(x:Int):Prop:=adD x<=n
theorem Bt.add(h:Bt n x)(h':Bt n y):Bt (n+1) (x+y):=by
 have:=ai9 h h'
 rwa [Nat.max_self] at this
theorem Bt.mul(h:Bt n x)(h':Bt m y):Bt (n+m) (x * y):=aja h h'
theorem Bt.up(h:Bt n x)(hm:n<=m):Bt m x:=abb h hm
theorem Bt.small(h1 : -(2 ^ 64)<x)(h2:x<2 ^ 64):Bt 64 x:=PySem.intBits_le_64 h1 h2
def pH(i j:Int):Prop:=Bt 40000000 i/\Bt 40000000 j
theorem pH.ok(h:pH i j):IntMulOk i j:=aiA h.1 h.2 (by decide)
theorem Rm:br X (ad8 .Mult) (rI pH λi j=>.int (i * j)):=vh λ_ _ _ _ _ _ _ hc q=>mul_int q hc.ok
def ji(ns:List Int):Prop:=ns.length<=63/\∀ x∈ns,Bt 1048576 x
theorem weigh:∀ (ns:List Int) (x:Int),x∈ns->adD x<=adF (ns.map PySem.W.WData.int)
 | [],x,h=>by simp at h
 | y::ns,x,h=>by
  have e:adF ((y::ns).map PySem.W.WData.int)=(if y == 0 then 0 else y.natAbs.log2+1)+1+adF (ns.map PySem.W.WData.int):=by rw[abj];simp only[adF,agS]
  rw[e];rcases abl.mp h with rfl|h
  .unfold adD;lia
  .have:=weigh ns x h;lia
theorem Rn{ns:List Int}(h:aiN [PySem.W.WData.list (ns.map PySem.W.WData.int)]=true):∀ x∈ns,Bt 1048576 x:=by
 intro x hx;have h1:aeP (PySem.W.WData.list (ns.map PySem.W.WData.int))=true:=by
  have:(aeP (PySem.W.WData.list (ns.map PySem.W.WData.int)) && true)=true:=h
  rwa [ahm] at this
 unfold aeP at h1;rw[acL] at h1;have h2:=of_decide_eq_true h1.2;have h3:=weigh ns x hx;simp only[agS] at h2;unfold Bt;lia
theorem Ro{l:agD}{k:Nat}{q:ab1}{loose:List Str}{XP:(Str->Option aa9)->adz->Prop}{YP:acz->adz->Prop}{d:DefRec}{K:Params->aa0}{CX:acz->gY}{sp:acz->Sp}{x:Str}
 (most:l.most=some 63) (plain:d.params.defaults=[]) (room:cc k aih)
 (Rp:∀ (w:acz) (h:adz),YP w h->(K w.params).In h)
 (F:∀ (w:acz) (mg:Str->Option aa9) (fa:abd) (h:adz),(K w.params).In h->h.Ns abB mg->mg d.name=some (.ref fa) ->
   ∃ fd:aea,(∀ (s:abe) (u:aa9),ahC s fd ⟨[u],[]⟩ [(x,u)]) /\
    ∀ base:adz,(K w.params).In base->base.Ns abB mg->ff l.prog w (K w.params) mg base (CX w) k fa fd [x] (sp w))
 (law:∀ (w:acz) (H:Hp) (a:abd) (ns:List Int),ji ns->ai (K w.params) H a (ns.map V.int)->sp w [.ref a] H (λv _=>v = .bl true) λ_ _ _=>False)
 (calm:∀ (w:acz) (H:Hp) (s:abe) (e:aa9) (s':abe),CX w [] H s (λ_ _ _=>False) e s'->False) :
 aiV q loose XP YP l.row.toRowW d [] (λf vs=>PySem.call f vs):=by
 intro w t₀ t mg mb G Y f ob pm cd doc dV kV look data code defs at_ gens args vals as pre lay _ well _;have e1:dV = .none:=Dflts.none defs plain;have e2:kV = .none:=Dflts.noKw defs;cases e1;cases e2;obtain⟨a,vs,ns,e3,e4,obj,are,len⟩:=yB.OJ most pre well;cases e3;cases e4;have KX:=Rp w _ Y;obtain⟨fd,bind,ok⟩:=F w mg f _ KX G.T.g at_;have run:=ON KX G.T.g G.T.b G.T.builtins G.T.nolimit gens obj are (abb len (by decide)) room ok bind
  (λH _ S=>law w H a ns ⟨len,Rn lay⟩ S) λH e s'=>calm w H t e s'
 refine enter_call (aeM run ?_);rintro r s' ⟨rfl,old,os,bare⟩;exact⟨.inl ⟨.bool true,.bool true,[],rfl,λ_=>rfl,.bool true,yB.OM l _,λ_=>⟨List.Pairwise.nil,λ_ z=>(nomatch z)⟩⟩,old,os,bare⟩
noncomputable def rQ(ns:List Int)(k:Int):Int:=if 0<(ns.length:Int) then ns.getD (k % (ns.length:Int)).toNat 0 else 0
theorem Rq(h:ji ns)(k:Int):Bt 1048576 (rQ ns k):=by
 unfold rQ;split
 .rw[aa1];cases e:ns[(k % (ns.length:Int)).toNat]? with
  | none=>exact (Bt.small (by decide) (by decide)).up (by decide)
  | some n=>exact h.2 _ (abi e)
 .exact (Bt.small (by decide) (by decide)).up (by decide)
theorem Rr{ns:List Int}{k:Int}(h:0<(ns.length:Int)):dm (ns.map V.int) (k % (ns.length:Int))=some (.int (rQ ns k)):=by
 have h1:=ais k (show (ns.length:Int)≠0 by lia);have h2:=ahn k h;unfold rQ;rw[if_pos h];have ek:k % (ns.length:Int)=(((k % (ns.length:Int)).toNat:Nat):Int):=by lia
 refine (congrArg (dm _) ek).trans (eL ?_);rw[abh,aa1,aa3 (by lia)];rfl
theorem GP(h:x.natAbs<2 ^ 600):Bd 4000 x:=Bd.up (n:=600) h (by decide)
theorem nH(h:x.natAbs<2 ^ 600)(h':y.natAbs<2 ^ 600):oY x y:=⟨GP h,GP h'⟩
theorem aC(I:L2.St->Hp->Prop)(h1:∀ N:L2.St->Hp->Prop,(∀ σ H,I σ H->N σ H)->a { D with nx:=N } σ H)(h2:∀ R:TS,R=b->∀ σ H,I σ H->R D σ H):u7 a b D σ H:=h1 _ (h2 _ rfl)
noncomputable def pre(f:P2->Int)(ps:List P2)(i:Nat):Int:=((ps.take i).map f).sum
theorem gB(f:P2->Int)(ps:List P2)(h:i<ps.length):pre f ps (i+1)=pre f ps i+f (aF ps i):=by unfold pre aF;rw[ab9,aco,agE,aa1,aa3 h];simp only[aho,abj,adB,af7,ajb,Int.add_zero,aeb]
noncomputable def bM(ps:List P2)(i j:Nat):Int:=if i<=j then pre (·.2) ps j-pre (·.2) ps i else pre (·.1) ps j-pre (·.1) ps i
def eW(ps:List P2):Prop:=∀ p∈ps,p.1<=p.2
theorem GQ(h:eW ps)(i:Nat):∀ n,i+n<=ps.length->pre (·.1) ps (i+n)-pre (·.1) ps i<=pre (·.2) ps (i+n)-pre (·.2) ps i
 | 0,_=>by simp
 | n+1,hn=>by have ih:=GQ h i n (by lia);rw[show i+(n+1)=(i+n)+1 by lia,gB _ ps (by lia),gB _ ps (by lia)];have:=h _ (pw (ps:=ps) (i:=i+n) (by lia));lia
theorem pI(h:eW ps)(ib:i<=j)(hj:j<=ps.length):pre (·.1) ps j-pre (·.1) ps i<=pre (·.2) ps j-pre (·.2) ps i:=by
 have:=GQ h i (j-i) (by lia)
 rwa [show i+(j-i)=j by lia] at this
theorem Rt(h:eW ps)(hi:i<=ps.length)(hj:j<=ps.length)(hk:k<=ps.length):bM ps i j<=bM ps i k+bM ps k j:=by have a:=λh'=>pI h (i:=i) (j:=j) h' hj;have b:=λh'=>pI h (i:=j) (j:=i) h' hi;have c:=λh'=>pI h (i:=i) (j:=k) h' hk;have d:=λh'=>pI h (i:=k) (j:=i) h' hi;have e:=λh'=>pI h (i:=j) (j:=k) h' hk;have f:=λh'=>pI h (i:=k) (j:=j) h' hj;unfold bM;split<;>split<;>split<;>lia
noncomputable def part(ps:List P2)(i j k:Nat):Int:=if i<j then pre (·.2) ps (min i j+k)-pre (·.2) ps i else pre (·.1) ps j-pre (·.1) ps (min i j+k)
end Gz
namespace L2
open PySem PySem.Spec PyProof.Rows
section
variable{κ:Type}[DecidableEq κ]
noncomputable def c7(kvs:List (κ × V))(k:κ):Option V:=(kvs.find? λkv=>decide (kv.1=k)).map (·.2)
noncomputable def putK(kvs:List (κ × V))(k:κ)(v:V):List (κ × V) :=
 if (kvs.any λkv=>decide (kv.1=k))=true then kvs.map (λkv=>if kv.1=k then (kv.1,v) else kv) else kvs++[(k,v)]
noncomputable def kf(kvs:List (κ × V))(k:κ):List (κ × V):=kvs.filter λkv=>decide (kv.1≠k)
theorem vU{p:κ × V}{r:List (κ × V)}{k:κ}(e:p.1=k):c7 (p::r) k=some p.2:=by simp[c7,acH,e]
theorem vV{p:κ × V}{r:List (κ × V)}{k:κ}(e:¬ p.1=k):c7 (p::r) k=c7 r k:=by simp[c7,acH,e]
theorem GR(k:κ):∀ kvs:List (κ × V),(kvs.any λkv=>decide (kv.1=k))=(c7 kvs k).isSome
 | []=>rfl
 | p::r=>by
  rw[acw];by_cases e:p.1=k
  .simp only[vU e,decide_eq_true e,Bool.true_or,Option.isSome_some]
  .rw[vV e,decide_eq_false e,ahp];exact GR k r
theorem GS(kvs:List (κ × V))(k:κ)(v:V):(putK kvs k v).length<=kvs.length+1:=by
 unfold putK;split
 .rw[aa2];omega
 .rw[abf,abX,adR];omega
theorem fE.rR(r:fE o u):o.isSome=u.isSome:=by
 cases o with
 | none=>cases u with
  | none=>rfl
  | some _=>exact (show False from r).elim
 | some _=>cases u with
  | none=>exact (show False from r).elim
  | some _=>rfl
theorem KV.val(r:KV kvs vs)(k:κ):fE (c7 kvs k) (ahK vs k):=by
 unfold KV at r
 induction r with
 | nil=>exact adv
 | @cons p q ps qs h t ih =>
  obtain⟨h1,h2⟩:=h;by_cases e:p.1=k
  .have e':q.1=k:=h1.symm.trans e;have b:ahK (q::qs) k=some q.2:=by simp[ahK,acH,e']
   rw[vU e,b];exact h2
  .have e':¬ q.1=k:=λz=>e (h1.trans z);have b:ahK (q::qs) k=ahK qs k:=by simp[ahK,acH,e']
   rw[vV e,b];exact ih
theorem KV.any(r:KV kvs vs)(k:κ):(kvs.any λkv=>decide (kv.1=k))=vs.any λkv=>decide (kv.1=k):=by
 unfold KV at r
 induction r with
 | nil=>rfl
 | cons h t ih=>rw[acw,acw,ih,h.1]
theorem KV.pJ(r:KV kvs vs)(k:κ)(ry:RelV y u) :
 KV (kvs.map λkv=>if kv.1=k then (kv.1,y) else kv) (vs.map λkv=>if kv.1=k then (kv.1,u) else kv):=by
 unfold KV at r ⊢
 induction r with
 | nil=>exact .nil
 | @cons p q ps qs h t ih =>
  rw[abj,abj];refine .cons ?_ ih;obtain⟨h1,h2⟩:=h;by_cases e:p.1=k
  .rw[if_pos e,if_pos (h1.symm.trans e)];exact⟨h1,ry⟩
  .rw[if_neg e,if_neg (λz=>e (h1.trans z))];exact⟨h1,h2⟩
theorem KV.put(r:KV kvs vs)(k:κ)(ry:RelV y u):KV (putK kvs k y) (stored vs k u):=by
 unfold putK stored;rw[r.any k];by_cases e:(vs.any λkv=>decide (kv.1=k))=true
 .rw[if_pos e,if_pos e];exact r.pJ k ry
 .rw[if_neg e,if_neg e];exact Paired.snoc r ⟨rfl,ry⟩
theorem KV.length(r:KV kvs vs):kvs.length=vs.length:=Paired.length r
theorem Ru(kvs:List (κ × V))(k:κ):(kf kvs k).length<=kvs.length:=abR _ _
end
theorem rS(r:RelV (kV k) u):(cK P w).is k u=true:=by
 cases k with
 | inl i=>obtain⟨t,e⟩:=(show ∃ t,u=Value.int i t from r);subst e;exact Ni P w i t
 | inr x=>obtain⟨t,e⟩:=(show ∃ t,u=Value.str x t from r);subst e;exact Nj P w x t
theorem GU:∀ {ks:List Key} {us:List aa9},Vals (ks.map kV) us->ItemsAre (cK P w) ks us
 | [],_,r=>by rw[adB] at r;cases r;exact .nil
 | k::ks,_,r=>by
  rw[abj] at r;cases r with
  | cons h t=>exact .cons (rS h) (GU t)
abbrev KT(H:Hp):List (List Key × V)->List (List Key × abd × aa9)->Prop:=ai3 λp q=>p.1=q.1/\H q.2.1=some (.tup (p.1.map kV))/\RelV p.2 q.2.2
theorem KT.val(r:KT H kvs xs)(k:List Key):fE (c7 kvs k) ((ag7 xs k).map (·.2)):=by
 induction r with
 | nil=>exact adv
 | @cons p q ps qs h t ih =>
  obtain⟨h1,_,h2⟩:=h;by_cases e:p.1=k
  .have e':q.1=k:=h1.symm.trans e;have b:ag7 (q::qs) k=some q.2:=by simp[ag7,acH,e']
   rw[vU e,b];exact h2
  .have e':¬ q.1=k:=λz=>e (h1.trans z);have b:ag7 (q::qs) k=ag7 qs k:=by simp[ag7,acH,e']
   rw[vV e,b];exact ih
theorem KT.pJ(r:KT H kvs xs)(k:List Key)(ry:RelV y u) :
 KT H (kvs.map λkv=>if kv.1=k then (kv.1,y) else kv) (xs.map (putAt k u)):=by
 induction r with
 | nil=>exact .nil
 | @cons p q ps qs h t ih =>
  rw[abj,abj];refine .cons ?_ ih;obtain⟨h1,h2,h3⟩:=h;unfold putAt;by_cases e:p.1=k
  .rw[if_pos e,if_pos (h1.symm.trans e)];exact⟨h1,h2,ry⟩
  .rw[if_neg e,if_neg (λz=>e (h1.trans z))];exact⟨h1,h2,h3⟩
theorem KT.put(r:KT H kvs xs)(k:List Key)(hb:H b=some (.tup (k.map kV)))(ry:RelV y u) :
 KT H (putK kvs k y) (storedH xs k b u):=by
 have e:(kvs.any λkv=>decide (kv.1=k))=(ag7 xs k).isSome:=by rw[GR,(r.val k).rR,afT]
 unfold putK storedH;rw[e];by_cases q:(ag7 xs k).isSome=true
 .rw[if_pos q,if_pos q];exact r.pJ k ry
 .rw[if_neg q,if_neg q];exact Paired.snoc r ⟨rfl,hb,ry⟩
theorem KT.keeps(r:KT H kvs xs)(ht:∀ b ys,H b=some (.tup ys)->H' b=some (.tup ys)):KT H' kvs xs :=
 Paired.xT r λ_ _ z=>⟨z.1,ht _ _ z.2.1,z.2.2⟩
section
theorem GV(ok:bW P w H h)(e:Rd H a u):bN P w H h a u:=e.ok ok
theorem pK(ok:bW P w H h)(e:Rd H a (.dK kvs)):kvs.length<=abu/\(a == acB)=false/\∃ vs,KV kvs vs/\h.DictOf (cK P w) a vs :=
 show bN P w H h a (.dK kvs) from GV ok e
theorem Rv(ok:bW P w H h)(e:H a=some (.dK kvs)):kvs.length<=abu/\(a == acB)=false/\∃ vs,KV kvs vs/\h.DictOf (cK P w) a vs:=pK ok (.inl e)
theorem pL(ok:bW P w H h)(e:H a=some (.tup (ks.map kV))):(ae7 (cK P w)).is h ks a:=by
 obtain⟨_,ar,r,o,h1,h2,n,h3⟩:=(show bN P w H h a (.tup (ks.map kV)) from ok a _ e)
 exact⟨o,ar.toArray,n,h1,h2,h3,by simpa using GU r⟩
theorem pM(ok:bW P w H h)(e:Rd H a (.dT kvs)):kvs.length<=abu/\(a == acB)=false /\
 ∃ xs,KT H kvs xs/\h.DictOfH (ae7 (cK P w)) a xs:=by
 obtain⟨z,y,xs,r,o,es,ep,h1,h2,h3,h4,h5⟩:=(show bN P w H h a (.dT kvs) from GV ok e)
 refine⟨z,y,xs,r,o,es,ep,h1,h2,h3,h4,λx hx=>?_,h5⟩;have all:∀ {l:List (List Key × V)} {m:List (List Key × abd × aa9)},KT H l m->∀ x∈m,(ae7 (cK P w)).is h x.1 x.2.1:=by
  intro l m q
  induction q with
  | nil=>intro x hx;exact nomatch hx
  | @cons p q ps qs hq t ih =>
   intro x hx;rcases abl.mp hx with e|hx
   .subst e;exact pL ok (by rw[<- hq.1];exact hq.2.1)
   .exact ih x hx
 exact all r x hx
theorem vW(ok:bW P w H h)(e:H a=some (.dT kvs)):kvs.length<=abu/\(a == acB)=false /\
 ∃ xs,KT H kvs xs/\h.DictOfH (ae7 (cK P w)) a xs:=pM ok (.inl e)
end
def dU(H:Hp)(a:abd)(y:V)(r:Option V):Prop :=
 (∃ kvs k,Rd H a (.dK kvs)/\y=kV k/\r=c7 kvs k) ∨ ∃ kvs k b,Rd H a (.dT kvs)/\y = .ref b/\H b=some (.tup (k.map kV))/\r=c7 kvs k
def nI(H:Hp)(a:abd)(y v:V)(H':Hp):Prop :=
 (∃ kvs k,H a=some (.dK kvs)/\y=kV k/\kvs.length<abu/\H'=upd H a (.dK (putK kvs k v))) ∨
 ∃ kvs k b,H a=some (.dT kvs)/\y = .ref b/\H b=some (.tup (k.map kV))/\kvs.length<abu/\H'=upd H a (.dT (putK kvs k v))
theorem dU.t(e:H a=some (.dT kvs))(eb:H b=some (.tup (k.map kV))):dU H a (.ref b) (c7 kvs k):=.inr ⟨kvs,k,b,.inl e,rfl,eb,rfl⟩
theorem nI.t(e:H a=some (.dT kvs))(eb:H b=some (.tup (k.map kV)))(hl:kvs.length<abu) :
 nI H a (.ref b) v (upd H a (.dT (putK kvs k v))):=.inr ⟨kvs,k,b,e,rfl,eb,hl,rfl⟩
section
theorem Inv.big(I:Inv X pins σ H s):acB<s.heap.objs.size:=by have h:abB<s.heap.objs.size:=(I.mod.glob.keeps I.bk).lt;exact ahW (by decide) h
theorem Rw(hu:A.units+1<afq)(I:Inv X pins σ H s)(g:dU H a y (some v))(ry:RelV y u)(h:∀ w' s',Inv X pins σ H s'->RelV v w'->Q w' s') :
 abm (model X.prog X.w) A (aic (.ref a) u) Q E s:=by
 rcases g with ⟨kvs,k,e,ey,l⟩|⟨kvs,k,b,e,ey,eb,l⟩
 .subst ey;obtain⟨z,hd,vs,rel,dd⟩:=pK I.ay e;obtain⟨w',hw,i9⟩:=fE.some_of (v:=v) (o:=ahK vs k) (by rw[l];exact rel.val k);exact wpAny_getItem_of (rS ry) dd.mapOf hw (h w' _ (I.tok _) i9)
 .subst ey;cases (show u=abz b from ry);obtain⟨z,hd,xs,rel,dd⟩:=pM I.ay e;obtain⟨w',hw,i9⟩:=fE.some_of (v:=v) (o:=(ag7 xs k).map (·.2)) (by rw[l];exact rel.val k);obtain⟨p,hp,fM⟩:=abF.mp hw;refine wpAny_getItem_heap (acT hu) (pL I.ay eb) dd hp ?_;rw[fM];exact h w' _ (I.tok _) i9
theorem Rx(hu:A.units+1<afq)(I:Inv X pins σ H s)(g:dU H a y o)(ry:RelV y u)(h:∀ s',Inv X pins σ H s'->Q (.bool o.isSome) s') :
 abm (model X.prog X.w) A (acm .In u (.ref a)) Q E s:=by
 rcases g with ⟨kvs,k,e,ey,l⟩|⟨kvs,k,b,e,ey,eb,l⟩
 .subst ey;obtain⟨z,hd,vs,rel,dd⟩:=pK I.ay e;refine wpAny_in_of (rS ry) hd dd.mapOf ?_;rw[<- (rel.val k).rR,<- l];exact h _ (I.tok _)
 .subst ey;cases (show u=abz b from ry);obtain⟨z,hd,xs,rel,dd⟩:=pM I.ay e;refine wpAny_in_heap (acT hu) (pL I.ay eb) hd dd ?_;have q:=(rel.val k).rR;rw[afT] at q;rw[<- q,<- l];exact h _ (I.tok _)
theorem Ry(hu:A.units+1<afq)(I:Inv X pins σ H s)(g:dU H a y o)(ry:RelV y u)(h:∀ s',Inv X pins σ H s'->Q (.bool (!o.isSome)) s') :
 abm (model X.prog X.w) A (acm .NotIn u (.ref a)) Q E s:=by
 rcases g with ⟨kvs,k,e,ey,l⟩|⟨kvs,k,b,e,ey,eb,l⟩
 .subst ey;obtain⟨z,hd,vs,rel,dd⟩:=pK I.ay e;refine wpAny_notIn_of (rS ry) hd dd.mapOf ?_;rw[<- (rel.val k).rR,<- l];exact h _ (I.tok _)
 .subst ey;cases (show u=abz b from ry);obtain⟨z,hd,xs,rel,dd⟩:=pM I.ay e;refine wpAny_notIn_heap (acT hu) (pL I.ay eb) hd dd ?_;have q:=(rel.val k).rR;rw[afT] at q;rw[<- q,<- l];exact h _ (I.tok _)
theorem zy(I:Inv X pins σ H s)(mu:qS (H a))(hs:Heap.SameBut a s.heap h')(he:∃ q,h'.get? a=some q)(new:bN X.prog X.w (upd H a ob) h' a ob) :
 Inv X pins σ (upd H a ob) { s with heap:=h',toks:=t' } :=
 I.write (x:=a) (e:=a) mu (.inl rfl) (λb q hb z=>(hs.2 b hb).trans z) he new
theorem GW(z:kvs.length<=abu)(hd:(a == acB)=false)(rel:KV kvs vs)(dd:h'.DictOf (cK P w) a vs) :
 bN P w H' h' a (.dK kvs):=⟨z,hd,vs,rel,dd⟩
theorem Rz(hu:A.units+1<afq)(I:Inv X pins σ H s)(g:nI H a y v H')(ry:RelV y u)(rv:RelV v r)(h:∀ s',Inv X pins σ H' s'->Q () s') :
 abm (model X.prog X.w) A (setItem (.ref a) u r) Q E s:=by
 rcases g with ⟨kvs,k,e,ey,l,eH⟩|⟨kvs,k,b,e,ey,eb,l,eH⟩
 .subst ey eH;obtain⟨z,hd,vs,rel,dd⟩:=Rv I.ay e;have hz:vs.length<=abu:=by rw[<- rel.length];exact z
  have hl:(putK kvs k v).length<=abu:=by have:=GS kvs k v;omega
  refine wpAny_setItem_pairs (hsz:=hz) (rS ry) dd λh' nJ hs=>h _ ?_;have he:∃ q,h'.get? a=some q:=let ⟨q,_,_,hq,_⟩:=nJ;⟨q,hq⟩;exact zy I (by rw[e];exact adv) hs he (GW hl hd (rel.put k rv) nJ)
 .subst ey eH;cases (show u=abz b from ry);obtain⟨z,hd,xs,rel,dd⟩:=vW I.ay e;have hz:xs.length<=abu:=by rw[<- Paired.length rel];exact z
  have hl:(putK kvs k v).length<=abu:=by have:=GS kvs k v;omega
  refine wpAny_setItem_heap (hsz:=hz) (acT hu) (pL I.ay eb) dd λh' nJ hs=>h _ ?_;obtain⟨q,es,ep,hq,h2,h3,h4,_,h5⟩:=nJ;refine zy I (by rw[e];exact adv) hs ⟨q,hq⟩ ⟨hl,hd,_,(rel.put k eb rv).keeps λc ys ec=>?_,q,es,ep,hq,h2,h3,h4,h5⟩;rw[aB (oJ ec e (λz=>nomatch z))];exact ec
end
def zz(i:aeV):Prop:=∀ ov iv,subscripted i false ov iv=operate [ov,iv] (aic ov iv)
theorem RA{prog:ab1}{w:acz}{A:acP}{E:aa9->abe->Prop}{s:abe}{env:Env}{value slice:aeV}{pos:Pos}{T id:String}{Q:aa9->abe->Prop}
 (hl:agO (.type T) "__getitem__" = pure (some (.builtin id))) (hs:zz slice)
 (h:abm (model prog w) A (eval value env) (λo s₁=>abm (model prog w) A (eval slice env) (λi s₂=>s₂.TypeIs o T/\abm (model prog w) A (aic o i) Q E s₂) E s₁) E s) :
 abm (model prog w) A (eval (.Subscript value slice pos) env) Q E s:=by
 refine ahE (aci h (λo s₁ h₁=>aci h₁ (λi s₂ h₂=>?_) λ_ _ x=>x) λ_ _ x=>x);obtain⟨hT,h₂⟩:=h₂;unfold af2;refine aaZ ?_;rw[getitemInPython_of_ne hT.not_modules];refine aaZ (adS hT hl ?_);have fin:abm (model prog w) A (subscripted slice false o i) (λr s₃=>abm (model prog w) A (letTemporaryGo value o r >>= λ_=>pure r) Q E s₃) E s₂:=by rw[hs o i];exact wpAny_operating (aci h₂ (λr s₃ h₃=>aaZ (wpAny_letTemporaryGo (aa4 h₃))) λ_ _ x=>x)
 first
  | exact aa4 (aaZ fin)
  | exact aaZ (aa4 (aaZ fin))
  | exact aaZ fin
theorem RB(I:Inv X pins σ H s)(g:dU H a y o):s.TypeIs (.ref a) "dict" := by
 rcases g with ⟨kvs,k,e,_,_⟩|⟨kvs,k,b,e,_,_,_⟩
 .obtain⟨_,_,vs,_,dd⟩:=pK I.ay e;exact dd.typeIs
 .obtain⟨_,_,xs,_,dd⟩:=pM I.ay e;exact dd.typeIs
def zA(td ty:TE):TE:=λσ H Q=>td σ H λx H1=>ty σ H1 λy H2=>∃ a v,x = .ref a/\dU H2 a y (some v)/\Q v H2
def GX(ty td:TE):TE:=λσ H Q=>ty σ H λy H1=>td σ H1 λx H2=>∃ a o,x = .ref a/\dU H2 a y o/\Q (.bl o.isSome) H2
def GY(ty td:TE):TE:=λσ H Q=>ty σ H λy H1=>td σ H1 λx H2=>∃ a o,x = .ref a/\dU H2 a y o/\Q (.bl (!o.isSome)) H2
def GZ(td ty tv:TE):TS:=λD σ H=>tv σ H λv H1=>td σ H1 λx H2=>ty σ H2 λy H3=>∃ a H4,x = .ref a/\nI H3 a y v H4/\D.nx σ H4
section
theorem pN(hu:X.A.units+1<afq)(ho:PE X o td)(hi:PE X i ty)(hs:zz i):PE X (.Subscript o i pos) (zA td ty):=by intro pins s σ H Q I h;refine RA PySem.F.slot_dict_getitem.lookup hs (aE (ho pins s σ H _ I h) λu s1 ⟨x,H1,I1,rx,q1⟩=>aE (hi pins s1 σ H1 _ I1 q1) λiv s2 zq=>?_);obtain⟨y,H2,I2,ry,a,v,ex,g,q2⟩:=zq;subst ex;obtain rfl:u=abz a:=rx;exact⟨RB I2 g,Rw hu I2 g ry λw' s3 I3 i9=>⟨v,H2,I3,i9,q2⟩⟩
theorem RC(hu:X.A.units+1<afq)(hi:PE X i ty)(ho:PE X o td):PC X .In i o (GX ty td):=by
 intro pins s σ H Q I h;refine aE (hi pins s σ H _ I h) λiv s1 ⟨y,H1,I1,ry,q1⟩=>aE (ho pins s1 σ H1 _ I1 q1) λu s2 zq=>?_;obtain⟨x,H2,I2,rx,a,ov,ex,g,q2⟩:=zq;subst ex;obtain rfl:u=abz a:=rx;exact Rx hu I2 g ry λs3 I3=>⟨.bl ov.isSome,H2,I3,rfl,q2⟩
theorem G0(hu:X.A.units+1<afq)(hi:PE X i ty)(ho:PE X o td):PC X .NotIn i o (GY ty td):=by
 intro pins s σ H Q I h;refine aE (hi pins s σ H _ I h) λiv s1 ⟨y,H1,I1,ry,q1⟩=>aE (ho pins s1 σ H1 _ I1 q1) λu s2 zq=>?_;obtain⟨x,H2,I2,rx,a,ov,ex,g,q2⟩:=zq;subst ex;obtain rfl:u=abz a:=rx;exact Ry hu I2 g ry λs3 I3=>⟨.bl (!ov.isSome),H2,I3,rfl,q2⟩
theorem zB(hu:X.A.units+1<afq)(ho:PE X o td)(hi:PE X i ty)(hv:PE X value tv)(hs:ae9 value (some (.Subscript o i pos')) pos.line X.env=pure false) :
 PS X (.Assign [.Subscript o i pos'] value pos) (GZ td ty tv):=by
 intro pins s σ H D I h;refine wpAny_Assign_Subscript (aE (hv pins s σ H _ I h) λr s1 ⟨v,H1,I1,rv,q1⟩=>aE (ho pins s1 σ H1 _ I1 q1) λu s2 ⟨x,H2,I2,rx,q2⟩=>aE (hi pins s2 σ H2 _ I2 q2) λiv s3 zq=>?_) hs;obtain⟨y,H3,I3,ry,a,H4,ex,g,q3⟩:=zq;subst ex;obtain rfl:u=abz a:=rx;exact Rz hu I3 g ry rv λs4 I4=>⟨σ,H4,I4,q3⟩
end
structure M1(X:Cx)(o:aeV)(m:Str)(apos:Pos)(e:aeV)(de:Pos):Prop where
 base:ael o m X.env (eval o X.env)=eval o X.env
 few:((adh de (abA [e] X.env)).all (λx=>!x.1) && (ah7 de (af0 [] X.env)).all (λx=>x.1.isSome)
  && decide (([e]:List aeV).length+([]:List aif).length+(if ([]:List aif).isEmpty then 0 else 1)<30))=true
 line:(apos.endLine == de.line)=true
 trees:adh de (abA [e] X.env)=[(false,eval e X.env)]
structure M2(X:Cx)(o:aeV)(m:Str)(apos:Pos)(e f:aeV)(de:Pos):Prop where
 base:ael o m X.env (eval o X.env)=eval o X.env
 few:((adh de (abA [e,f] X.env)).all (λx=>!x.1) && (ah7 de (af0 [] X.env)).all (λx=>x.1.isSome)
  && decide (([e,f]:List aeV).length+([]:List aif).length+(if ([]:List aif).isEmpty then 0 else 1)<30))=true
 line:(apos.endLine == de.line)=true
 trees:adh de (abA [e,f] X.env)=[(false,eval e X.env),(false,eval f X.env)]
def G1(H:Hp)(a:abd):Prop:=(∃ kvs,Rd H a (.dK kvs)) ∨ ∃ kvs,Rd H a (.dT kvs)
theorem RD(I:Inv X pins σ H s)(d:G1 H a) :
 s.TypeIs (.ref a) "dict" /\ (∀ b,abz a = .ref b->∃ ob,s.heap.get? b=some ob/\ob.dict=none)/\(a == acB)=false:=by
 rcases d with ⟨kvs,e⟩|⟨kvs,e⟩
 .obtain⟨_,hd,vs,_,dd⟩:=pK I.ay e;refine⟨dd.typeIs,λb q=>?_,hd⟩;cases q;obtain⟨ob,_,_,h1,h2,_⟩:=dd;exact⟨ob,h1,h2.2.1⟩
 .obtain⟨_,hd,xs,_,dd⟩:=pM I.ay e;refine⟨dd.typeIs,λb q=>?_,hd⟩;cases q;obtain⟨ob,_,_,h1,h2,_⟩:=dd;exact⟨ob,h1,h2.2.1⟩
section
end
section
variable{κ:Type}[DecidableEq κ]
theorem G2:∀ {l:List κ} {k:κ},l.Nodup->¬ k∈l->(l++[k]).Nodup
 | [],k,_,_=>by simp
 | a::r,k,h,hk=>by
  obtain⟨h1,h2⟩:=ab7.mp h;show (a::(r++[k])).Nodup;refine ab7.mpr ⟨λm=>?_,G2 h2 λm=>hk (abl.mpr (ahU m))⟩;rcases abD.mp m with q|q
  .exact h1 q
  .exact hk (abl.mpr (aeO (abp.mp q).symm))
end
end L2
namespace Gz
open PySem PySem.Spec PyProof.Rows L2
def bits(bs:List Int):Prop:=∀ x∈bs,x=0∨x=1
theorem G3(hx:H x=none)(hd:H dx=none)(hn:dx≠x):aj H (upd (upd H dx (.own x)) x (.ins C dx fs)) :=
 (ao hd).trans (ao (by rw[aB (ab4 hn)];exact hx))
theorem G4{X:Cx}{K:aa0}(h:X.K=K):fJ X (.type "list") (λxs H Q=>∃ p ys,xs=[.ref p]/\(ai K H p ys∨ah K H p ys)/\∀ l,H l=none->Q (.ref l) (upd H l (.lst ys))):=by subst h;exact EV
abbrev Lk:=Option (List Int)
def RE(xs:List abd)(H:Hp)(v:V):Lk->Prop
 | none=>v = .non
 | some bs=>∃ l,v = .ref l/\l∉xs/\H l=some (.lst (bs.map V.int))
abbrev IsL:=RE []
local macro_rules | `(tactic| walk_at "o") => `(tactic| ((try simp only [PySem.Addr] at *); lia))
section
variable{κ:Type}[DecidableEq κ]
noncomputable def gf(xs:List (κ × abd × aa9))(k:κ):List (κ × abd × aa9):=xs.filter λx=>decide (x.1≠k)
theorem RF{xs:List (κ × abd × aa9)}{k:κ}(h:k∉xs.map (·.1)):gf xs k=xs:=by unfold gf;rw[ac8];intro x hx;rw[decide_eq_true_eq];exact λz=>h (aa8.mpr ⟨x,hx,z⟩)
theorem G5:∀ {xs:List (κ × abd × aa9)} {k:κ} {j:Nat} {p:abd × aa9},(xs.map (·.1)).Nodup->xs[j]?=some (k,p)->xs.eraseIdx j=gf xs k
 | [],_,_,_,_,h=>by simp at h
 | x::r,k,0,p,hn,h=>by
  rw[abj,ab7] at hn;simp at h;subst h;have e:gf ((k,p)::r) k=gf r k:=by unfold gf;rw[abK,if_neg (by simp)]
  rw[e,RF hn.1];rfl
 | x::r,k,j+1,p,hn,h=>by
  rw[abj,ab7] at hn;rw[adE] at h;have ne:¬ x.1=k:=λz=>hn.1 (z ▸ aa8.mpr ⟨_,abi h,rfl⟩);have e:gf (x::r) k=x::gf r k:=by unfold gf;rw[abK,if_pos (by simpa using ne)]
  rw[e,af8,G5 hn.2 h]
theorem G6(f:α->β):∀ (l:List α) (j:Nat),(l.map f).eraseIdx j=(l.eraseIdx j).map f
 | [],_=>rfl
 | _::_,0=>rfl
 | x::l,j+1=>by rw[abj,af8,G6 f l j];rfl
theorem RG{xs:List (κ × abd × aa9)}{k:κ}(hn:(xs.map (·.1)).Nodup):((gf xs k).map (·.1)).Nodup:=hn.sublist ((ag8).map _)
end
theorem G7{prog:ab1}{w:acz}{K:Type}[DecidableEq K]{knd:HeapKind prog w K}{es:Array ac4}{xs:List (K × abd × aa9)}{k:K}(he:es.toList=xs.map (agM knd))(h:es.isEmpty=true):ag7 xs k=none:=by
 have e:es.size=0:=by simpa using h
 have l:=adT he;have:xs=[]:=acX.mp (by lia);rw[this];rfl
theorem KT.out(r:KT H kvs xs)(k:List Key):KT H (kf kvs k) (gf xs k):=by
 unfold kf gf
 induction r with
 | nil=>exact .nil
 | @cons p q ps qs h t ih =>
  rw[abK,abK];by_cases e:p.1=k
  .rw[if_neg (by simp[e]),if_neg (by simp[h.1.symm.trans e])];exact ih
  .rw[if_pos (by simp[e]),if_pos (by rw[decide_eq_true_eq];exact λz=>e (h.1.trans z))];exact .cons h ih
section
variable{prog:ab1}{w:acz}{K:Type}[DecidableEq K]{knd:HeapKind prog w K}{A:acP}{E:aa9->abe->Prop}{s:abe}
theorem G8(hu:knd.room A)(gX:knd.is s.heap k a)(hm:s.heap.DictOfH knd d xs)(hsz:xs.length<=abu)(h0:ag7 xs k=none->Q none { s with toks:=s.toks+knd.draws k })(h1:∀ p e,ag7 xs k=some p->e.val=p.2->∀ h',h'.DictOfH knd d (gf xs k)->Heap.SameBut d s.heap h'->Q (some e) { s with heap:=h',toks:=s.toks+knd.draws k }):abm (model prog w) A (agT d (.ref a)) Q E s:=by
 obtain⟨o,es,ep,ho,hc,hd,he,his,hn⟩:=hm;have zC:es.size<=abu:=by have e:=adT he;lia
 unfold agT
 try with_reducible refine acv ?_
 refine aaZ (knd.pyHash hu gX ?_);refine aaZ (wpAny_dictFind_heap (s:={ s with toks:=s.toks+knd.draws k }) hu gX ho hd he his hn (λbS=>?_) λj p hj=>?_)
 .exact aa4 (h0 (atKey_none_of_get bS))
 .refine aaZ (acr (s:={ s with toks:=s.toks+knd.draws k }) ho hd ?_);have ej:=entry_at he j;rw[hj] at ej;rw[ej];refine aaZ (wpAny_updateDictKeys (hz:=zC) (s:={ s with toks:=s.toks+knd.draws k }) ho hd (aa4 (h1 p (agM knd (k,p)) (atKey_of_get hn hj) rfl _ ⟨_,_,ep+1,abL _ ho (ag9 (ad2 hd _)),hc.mapDictKeys _,ad2 hd _,?_,?_,RG hn⟩ (aca ..))))
  .rw[<- G5 hn hj];have lt:j<es.size:=by rw[adT he];exact (aa7.mp hj).1
   rw[Array.eraseIdxIfInBounds,dif_pos lt,Array.toList_eraseIdx,he,G6]
  .exact λx hx=>knd.keeps (his x (abE.mp hx).1) ho hd (aca ..)
theorem RH(hu:knd.room A.in1)(gX:knd.is s.heap k a)(hd:(d == acB)=false)(hm:s.heap.DictOfH knd d xs)(hsz:xs.length<=abu)(G9:more=[] ∨ ∃ x,more=[x])(h1:∀ p,ag7 xs k=some p->∀ h' tk,h'.DictOfH knd d (gf xs k)->Heap.SameBut d s.heap h'->Q p.2 { s with heap:=h',toks:=tk })(h0:ag7 xs k=none->∃ x,more=[x]/\∀ tk,Q x { s with toks:=tk }):abm (model prog w) A (call (.builtin "dict.pop") (.ref d :: .ref a::more)) Q E s:=by
 have ha:agf "dict.pop" ⟨.ref d :: .ref a::more,[]⟩:=by
  rcases G9 with q|⟨x,q⟩
  .subst q;exact PySem.F.args_dict_pop_2 _ _
  .subst q;exact PySem.F.args_dict_pop_3 _ _ _
 have g:MeetsIn prog w (ac5.«dict.pop» ⟨.ref d :: .ref a::more,[]⟩) (λA R s=>knd.room A.in1/\knd.is s.heap k a/\s.heap.DictOfH knd d xs/\(∀ p,ag7 xs k=some p->∀ h' tk,h'.DictOfH knd d (gf xs k)->Heap.SameBut d s.heap h'->R (.ok (.ret p.2)) { s with heap:=h',toks:=tk }) /\
  (ag7 xs k=none->∃ x,more=[x]/\∀ tk,R (.ok (.ret x)) { s with toks:=tk })):=.of_wp λA R s ⟨hu,gX,hm,h1,h0⟩=>by
  obtain⟨o,es,ep,ho,hc,hda,he,his,hn⟩:=id hm;unfold ac5.«dict.pop»;refine aaZ ?_;unfold aiB;refine aaZ (aeQ hm.typeIs ?_);rcases G9 with rfl|⟨dflt,rfl⟩
  .show abm _ _ (pure (d,abz a,none)) _ _ s;refine aa4 ?_;dsimp only;rw[if_neg (show ¬ (keyPart (abz a)).isSome=true from λz=>nomatch z)];refine aaZ (acr ho hda (aaZ (aa4 ?_)));by_cases hemp:es.isEmpty=true
   .rw[if_pos hemp];refine aaZ (aei (aaZ (aa4 ?_)));rw[if_pos (show (none:Option ac4).isNone=true from rfl)];refine aaZ (adq hd ?_);obtain⟨x,ex,hq⟩:=h0 (G7 he hemp);cases ex
   .rw[if_neg hemp];refine aaZ (G8 hu gX hm hsz (λzD=>?_) λp e hp zE h' dd hs=>?_)
    .rw[if_pos (show (none:Option ac4).isNone=true from rfl)];refine aaZ (adq hd ?_);obtain⟨x,ex,hq⟩:=h0 zD;cases ex
    .rw[if_neg (show ¬ (some e).isNone=true from by simp)];exact aaZ (aeD (aa4 ⟨e.val,rfl,by rw[zE];exact h1 p hp h' _ dd hs⟩))
  .show abm _ _ (pure (d,abz a,some dflt)) _ _ s;refine aa4 ?_;dsimp only;rw[if_neg (show ¬ (keyPart (abz a)).isSome=true from λz=>nomatch z)];refine aaZ (acr ho hda (aaZ (aa4 ?_)));by_cases hemp:es.isEmpty=true
   .rw[if_pos hemp];refine aaZ (aei (aaZ (aa4 ?_)));rw[if_pos (show (none:Option ac4).isNone=true from rfl)];refine aaZ (adq hd ?_);obtain⟨x,ex,hq⟩:=h0 (G7 he hemp);cases ex;exact aaZ (aei (aa4 ⟨dflt,rfl,hq _⟩))
   .rw[if_neg hemp];refine aaZ (G8 hu gX hm hsz (λzD=>?_) λp e hp zE h' dd hs=>?_)
    .rw[if_pos (show (none:Option ac4).isNone=true from rfl)];refine aaZ (adq hd ?_);obtain⟨x,ex,hq⟩:=h0 zD;cases ex;exact aaZ (aei (aa4 ⟨dflt,rfl,hq _⟩))
    .rw[if_neg (show ¬ (some e).isNone=true from by simp)];exact aaZ (aeD (aa4 ⟨e.val,rfl,by rw[zE];exact h1 p hp h' _ dd hs⟩))
 exact call_meetsIn agF hm.typeIs PySem.F.entry_dict_pop ha g ⟨hu,gX,hm,h1,h0⟩
end
def dW(h:adz)(d:abd)(es:Array ac4)(ep:Nat):Prop:=∃ o,h.get? d=some o/\o.ExactDict/\o.data = .dict es ep
theorem dW.at(x:dW h d es ep)(e:∀ o,h.get? d=some o->h'.get? d=some o):dW h' d es ep:=let ⟨o,ho,r⟩:=x;⟨o,e o ho,r⟩
theorem dW.lt(x:dW h d es ep):d<h.objs.size:=let ⟨_,ho,_⟩:=x;aa6 ho
theorem dW.ty{s:abe}{d:abd}{es:Array ac4}{ep:Nat}(x:dW s.heap d es ep):s.TypeIs (.ref d) "dict" := let ⟨o,ho,hc,_⟩:=x;⟨o,ho,hc.1⟩
section
variable{prog:ab1}{w:acz}{A:acP}{E:aa9->abe->Prop}{s:abe}{d it:abd}{es:Array ac4}{i ep:Nat}
theorem Hc(lo:(d == acB)=false)(x:dW s.heap d es ep)(q:Q (.ref s.heap.objs.size) { s with heap:=s.heap.push { cls:=.type "dict_keyiterator",data:=.fields #[.ref d,.int 0 0,.int es.size 0,.int ep 0] } }):abm (model prog w) A (ai5 (.ref d)) Q E s:=by have T:=x.ty;obtain⟨o,ho,hc,hq⟩:=x;refine afU T agp (acp agp T PySem.F.entry_dict_iter ?_ (PySem.F.args_dict_iter_1 _));unfold ac5.«dict.__iter__»;refine aaZ ?_;unfold aiC;refine aaZ (aeQ T ?_);refine aa4 (a:=abz d) ?_;show abm _ A.in1 (aeR d >>= _) _ _ s;unfold aeR;rw[if_neg (by rw[lo];exact abo)];refine aaZ (aa4 (aaZ (acr ho hq (aaZ (afj ho hq ?_)))));refine aaZ (acj (aa4 ⟨_,rfl,"dict_keyiterator",_,⟨_,abc _ rfl,rfl⟩,PySem.F.slot_dict_keyiterator_next.lookup,?_⟩));simpa [aet] using q
theorem Hd(hit:s.heap.IsKeyIter it d i es.size ep)(x:dW s.heap d es ep)(hi:i<es.size)(q:∀ h',h'.IsKeyIter it d (i+1) es.size ep->Heap.SameBut it s.heap h'->Q (some es[i].key) { s with heap:=h' }):abm (model prog w) A (adP (.ref it)) Q E s:=by
 obtain⟨o,ho,hc,hd⟩:=id hit;obtain⟨od,hod,fW,hdd⟩:=x;have T:=hit.typeIs;unfold adP;refine aaZ (aeo (acI (name:=acf "__next__") T acG (acp acG T aee ?_ (ad5 _))));refine aaZ (aa4 (aaZ (aaZ ?_)))
 first|refine aaZ (acU T (aa4 (aaZ (ad6 ho hd ?_))))|refine aaZ (adw T (aa4 (aaZ (ad6 ho hd ?_))))
 have ow:Builtin.Dict_items.ownsTuple "dict_keyiterator" = false:=by decide
 simp only[ow,aby,if_false];show abm _ A.in1 (if (abz d == Value.none)=true then _ else _) _ _ s;rw[if_neg (show ¬ (abz d == Value.none)=true from abo)];refine aaZ (aa4 (aaZ (acr hod hdd ?_)));rw[if_neg (by simp)];refine aaZ (aa4 (aaZ (afj hod hdd ?_)));rw[if_neg (by simp)];refine aa4 ?_;simp only[show ¬ (i:Int)<0 by lia,if_false,abU,abN hi];refine aaZ ?_
 first|refine aaZ (acU T (aa4 (aaZ (aeS T ?_))))|refine aaZ (adw T (aa4 (aaZ (aeS T ?_))))
 show abm _ A.in1 (ah8 (.ref it) 1 (aet ((i:Int)+1)) >>= _) _ _ s;refine aaZ (aeJ ho hd (by simp) ?_);have lq:(s.heap.update it (adX (·.setIfInBounds 1 (aet ((i:Int)+1))))).IsKeyIter it d (i+1) es.size ep:=⟨_,abL _ ho (Obj.isFreed_of_fields (ahq hd _)),(Obj.cls_mapFields ..).trans hc,by rw[ahq hd];simp[aet]⟩
 refine aaZ (acv (aaZ (aeS (s:={ s with heap:=s.heap.update it (adX (·.setIfInBounds 1 (aet ((i:Int)+1)))) }) lq.typeIs ?_)));show abm _ A.in1 (pure es[i].key) _ _ _;exact aa4 (aa4 ⟨_,rfl,aa4 (q _ lq (aca ..))⟩)
theorem He(hh:A.handled=none)(hit:s.heap.IsKeyIter it d es.size es.size ep)(x:dW s.heap d es ep)(q:∀ h',ait it s.heap h'->Q none { s with heap:=h' }):abm (model prog w) A (adP (.ref it)) Q E s:=by
 obtain⟨o,ho,hc,hd⟩:=id hit;obtain⟨od,hod,fW,hdd⟩:=x;have T:=hit.typeIs;unfold adP;refine aaZ (aeo (acI (name:=acf "__next__") T acG (acp acG T aee ?_ (ad5 _))));refine aaZ (aa4 (aaZ (aaZ ?_)))
 first|refine aaZ (acU T (aa4 (aaZ (ad6 ho hd ?_))))|refine aaZ (adw T (aa4 (aaZ (ad6 ho hd ?_))))
 have ow:Builtin.Dict_items.ownsTuple "dict_keyiterator" = false:=by decide
 simp only[ow,aby,if_false];show abm _ A.in1 (if (abz d == Value.none)=true then _ else _) _ _ s;rw[if_neg (show ¬ (abz d == Value.none)=true from abo)];refine aaZ (aa4 (aaZ (acr hod hdd ?_)));rw[if_neg (by simp)];refine aaZ (aa4 (aaZ (afj hod hdd ?_)));rw[if_neg (by simp)];refine aa4 ?_;simp only[show ¬ (es.size:Int)<0 by lia,if_false,abU,adM (aba es.size)];refine aaZ ?_
 first|refine aaZ (acU T (aa4 ?_))|refine aaZ (adw T (aa4 ?_))
 show abm _ A.in1 (ah8 (.ref it) 0 .none >>= _) _ _ s;refine aaZ (aeJ ho hd (by simp) ?_);show abm _ A.in1 (newExc (.type "StopIteration") [] >>= _) _ _ _;refine aaZ ?_;simp only[newExc,aiW];refine aaZ (acj ?_ (by size_fits));refine aaZ (m:=afE _ _) (af4 (a:=Value.none) (by first|rfl|(simp only[afE];rfl)) ?_);refine acj ?_ (by size_fits);simp only[raiseNew];refine aaZ (wpAny_handled ?_);rw[show A.in1.handled=none from hh];refine aaZ (aa4 (wpAny_throw ?_));refine aaZ (adI (T := "StopIteration") (b:=true) ⟨_,abc _ rfl,rfl⟩ agX ?_);exact aa4 (q _ (((aca ..).extBut.push _).push _))
theorem RI(hh:A.handled=none)(I d:abd)(bV:d≠I)(es:Array ac4)(ep:Nat) :
 Walks prog w A I [I,d] [I] es.size (λi v=>∃ e,es[i]?=some e/\v=e.key) (λi h=>h.IsKeyIter I d i es.size ep/\dW h d es ep) where
 sub:=λb hb=>by simp at hb;simp[hb]
 frame:=λ_ _ _ st hk=>⟨st.1.at λo e=>hk I (by simp) o e,st.2.at λo e=>hk d (by simp) o e⟩
 item:=λi s Q E hi st hQ=>by refine Hd st.1 st.2 hi λh' lq Hf=>?_;exact hQ _ h' s.toks ⟨es[i],abN hi,rfl⟩ ⟨lq,st.2.at λo e=>Hf.extBut d o bV e⟩ λb o hb e=>Hf.extBut b o (λh=>hb (by simp[h])) e
 done:=λs Q E st hQ=>He hh st.1 st.2 λh' pO=>hQ h' s.toks λb o hb e=>pO b o (λh=>hb (by simp[h])) e
 self:=λ_ _ _ _ st hQ=>agU st.1 hQ
theorem RJ(lo:(d == acB)=false):agY prog w "dict" d d es.size (λi v=>∃ e,es[i]?=some e/\v=e.key) (λh=>dW h d es ep) where
 type:=λ_ x=>x.ty
 there:=λ_ x=>⟨x.lt,x.lt⟩
 keep:=λ_ _ x hk=>x.at λo e=>hk d (.inl rfl) o e
 notList:=by decide
 notTuple:=by decide
 hint:=λ_ _ _ _ x hq=>PySem.W.kdl_hint_dict x.ty hq
 iter:=λ_ _ hh x=>⟨_,_,(λ_ _ hq=>Hc lo x hq),RI hh _ d (abk x.lt) es ep,⟨⟨_,abc _ rfl,rfl,rfl⟩,x.at λo e=>aa5 _ e⟩⟩
end
section
def nK(h:adz)(vs:List aa9)(kis:List (List Int))(i:Nat):Prop:=∃ (p:abd) (o:Obj) (ar:List aa9) (m:Nat),vs[i]?=some (.ref p)/\h.get? p=some o/\o.cls = .type "tuple" /\ o.data = .seq ar.toArray m/\af1 ar (kis.getD i [])/\ar≠[]
theorem nK.keep(x:nK h vs kis i)(k:∀ b o,h.get? b=some o->(∀ n xs,o≠adO "list" xs n)->h'.get? b=some o):nK h' vs kis i:=by obtain⟨p,o,ar,m,h1,h2,h3,r⟩:=x;exact⟨p,o,ar,m,h1,k p o h2 (λn xs z=>by rw[z] at h3;exact absurd (Value.type.inj h3) (by decide)),h3,r⟩
theorem RK(h:af1 ar ns)(hn:ar≠[]):∃ i t,ar[0]?=some (.int i t):=by
 cases h with
 | nil=>exact absurd rfl hn
 | cons=>exact⟨_,_,rfl⟩
theorem Hg:∀ (vs:List aa9) (kis:List (List Int)),kis.length=vs.length->(∀ i,i<vs.length->nK h vs kis i)->∃ fs,PySem.W.KatTups h vs fs/\fs.length=vs.length/\∀ v∈fs,∃ i t,v = .int i t
 | [],_,_,_=>⟨[],PySem.W.KatTups.nil,rfl,λv z=>by simp at z⟩
 | v::vs,[],e,_=>by simp at e
 | v::vs,k::kis,e,hh=>by
  obtain⟨p,o,ar,m,h1,h2,h3,h4,h5,h6⟩:=hh 0 (by simp);have pC:v = .ref p:=by simpa using h1
  subst pC;obtain⟨i,t,hf⟩:=RK h5 h6;obtain⟨fs,a1,a2,a3⟩:=Hg vs kis (by simpa using e) λi hi=>by obtain⟨p,o,ar,m,h1,r⟩:=hh (i+1) (by simpa using hi);exact⟨p,o,ar,m,by simpa using h1,by simpa using r⟩
  refine⟨.int i t::fs,PySem.W.KatTups.cons h2 h3 h4 (by simpa using hf) a1,by simp[a2],λv hv=>?_⟩;rcases abl.mp hv with z|z
  .exact⟨i,t,z⟩
  .exact a3 v z
def vX(prog:ab1)(w:acz)(h:adz)(vs:List aa9)(kis:List (List Int)):Prop :=
 2<=vs.length->∃ κ,∀ (A:acP) (E:aa9->abe->Prop) (s:abe),s.heap=h->(∀ Q:SortKind->abe->Prop,Q κ s->abm (model prog w) A (keyKind' vs.toArray) Q E s) /\
  ∀ i j,i<vs.length->j<vs.length->∀ C:Bool->abe->Prop,C (c6 kis i j) s->abm (model prog w) A (keyLt' κ (vs.getD i Value.none) (vs.getD j Value.none)) C E s
theorem RL(ho:s.heap.get? a=some (adO "list" vs.toArray n))(hl:kis.length=vs.length)(fi:vs.length<64)(hk:∀ g:adz,(∀ b o,(∀ n xs,o≠adO "list" xs n)->s.heap.get? b=some o->g.get? b=some o)->vX prog w g vs kis)(fin:∀ h',(∀ b o,b≠a->s.heap.get? b=some o->h'.get? b=some o)->(∃ c,h'.get? a=some (adO "list" (adl ((cS (c6 kis) vs.length).toList.map λi=>vs.getD i Value.none)) c))->P (.done (.ret .none)) { s with heap:=h' }) :
 abm (model prog w) A (ac5.«list.sort» ⟨[.ref a],[]⟩) P E s:=by
 rw[list_sort_plain];have la:a<s.heap.objs.size:=aa6 ho;refine aaZ (listItems_at ho rfl (aaZ (ahr ho rfl ?_ (by rw[abg,aeA];walk_at "o") (abt _))));obtain⟨e1,oa⟩:∃ e1,(s.heap.update a (acq λ_=>(#[]:Array aa9))).get? a=some (adO "list" #[] e1):=⟨_,aiu ho λ_=>#[]⟩
 have keep:∀ b o,b≠a->s.heap.get? b=some o->(s.heap.update a (acq λ_=>(#[]:Array aa9))).get? b=some o:=λb o z e=>(abq _ _ (ab4 z)).trans e;refine aaZ (aiv oa rfl ?_);generalize s.heap.update a (acq λ_=>(#[]:Array aa9))=g at oa keep ⊢;refine aaZ (wpAny_newTuple ?_ (by show vs.length<=_;rw[aeA];walk_at "o"));refine aaZ (wpAny_newList ?_ (abt _));refine acv ?_;show abm (model prog w) A _ P E { s with heap:=(g.push (adO "tuple" vs.toArray 0)).push (adO "list" #[] 0) };have pP:((g.push (adO "tuple" vs.toArray 0)).push (adO "list" #[] 0)).get? a=some (adO "list" #[] e1):=aa5 _ (aa5 _ oa);have zF:∀ b o,b≠a->s.heap.get? b=some o->((g.push (adO "tuple" vs.toArray 0)).push (adO "list" #[] 0)).get? b=some o:=λb o z e=>aa5 _ (aa5 _ (keep b o z e));generalize (g.push (adO "tuple" vs.toArray 0)).push (adO "list" #[] 0)=g2 at pP zF ⊢;dsimp only;have neT:∀ b o,s.heap.get? b=some o->(∀ n xs,o≠adO "list" xs n)->b≠a:=λb o e z y=>by rw[y,ho] at e;cases e;exact z _ _ rfl
 have pQ:((cS (c6 kis) vs.length).toList.map λi=>vs.getD i Value.none).length=vs.length:=by rw[aa2,(pB (n:=vs.length) (nF kis)).1.length_eq,abw]
 have sz:(adl ((cS (c6 kis) vs.length).toList.map λi=>vs.getD i Value.none)).size<=abu+1:=by rw[abg,pQ,aeA];walk_at "o"
 have done:P (.done (.ret .none)) { s with heap:=g2.update a (acq λ_=>adl ((cS (c6 kis) vs.length).toList.map λi=>vs.getD i Value.none)) } :=
  fin _ (λb o z e=>(abq _ _ (ab4 z)).trans (zF b o z e)) ⟨_,aiu pP λ_=>_⟩
 by_cases h2:vs.toArray.size<2
 .rw[if_pos h2,if_pos h2];refine aaZ (aa4 ?_);rw[StateT.run_pure];refine aaZ (aa4 ?_);dsimp only;have self:(abG vs.length).map (λi=>vs.getD i Value.none)=vs:=by
   apply agh
   .simp
   .intro i h1 h2;simp[aa1,h2]
  have e0:(arrOf (SortSt.mk' general' (vs.toArray.zip vs.toArray) #[] 7 none)).map (·.2)=adl ((cS (c6 kis) vs.length).toList.map λi=>vs.getD i Value.none):=by unfold cS;rw[if_pos (by simpa using h2)];apply Array.toList_inj.mp;rw[show (abG vs.length).toArray.toList=abG vs.length from rfl,self];show ((vs.toArray.zip vs.toArray).map (·.2)).toList=_;simp[List.map_snd_zip]
  rw[e0];refine aaZ (aiv pP rfl (aaZ (ahr pP rfl ?_ (abt _) sz)));simp only[bne_self_eq_false,aby,if_false];exact aa4 done
 .rw[if_neg h2,if_neg h2];have rO:2<=vs.length:=by rw[abg] at h2;walk_at "o"
  obtain⟨κ,hκ⟩:=hk g2 (λb o z e=>zF b o (neT b o e z) e) rO;refine aaZ ((hκ A E { s with heap:=g2 } rfl).1 _ ?_);have ask:(PySem.W.kas_sort vs.length).kasWp (PySem.W.kas_ask prog w A κ vs) (λp s'=>s' = { s with heap:=g2 }/\p=cS (c6 kis) vs.length) { s with heap:=g2 }:=by
   have pv:=GF _ (GC (n:=vs.length) (nF kis) (by walk_at "o"));refine Gv (lt:=c6 kis) (n:=vs.length) (Ok:=λs'=>s' = { s with heap:=g2 }) (λi j C s' hi hj e q=>?_) (λp s' e q=>⟨e,?_⟩) _ _ rfl pv
   .subst e;exact (hκ _ _ _ rfl).2 i j hi hj C (q _ rfl)
   .rw[q];unfold cS;rw[if_neg (by walk_at "o")]
  refine aaZ (aci (PySem.W.kat_run (κ:=κ) (ks:=vs) (vs:=vs) (Q:=λst s'=>s' = { s with heap:=g2 }/\arrOf st=(cS (c6 kis) vs.length).map (PySem.W.kas_item (vs.toArray.zip vs.toArray))/\failedOf st=none)
   rfl rO fi (λp st s' b1 b2 b3 b4=>⟨b4.1,by rw[b2,b4.2],b3⟩) ask) ?_ λ_ _ z=>z)
  rintro ⟨⟨⟩,st⟩ s' ⟨rfl,har,hf⟩;dsimp only;rw[PySem.W.kat_snds rfl har];refine aaZ (aiv pP rfl (aaZ (ahr pP rfl ?_ (abt _) sz)));rw[hf];simp only[bne_self_eq_false,aby,if_false];exact aa4 done
theorem Hh(hl:kis.length=vs.length)(fi:vs.length<64)(hk:∀ g:adz,(∀ b o,(∀ n xs,o≠adO "list" xs n)->s.heap.get? b=some o->g.get? b=some o)->vX prog w g vs kis)(rT:∀ (A':acP) (Q':List aa9->abe->Prop) (E':aa9->abe->Prop),A'.handled=A.handled->(∀ h' tk,(∀ b o,s.heap.get? b=some o->h'.get? b=some o)->s.heap.objs.size<=h'.objs.size->Q' vs { s with heap:=h',toks:=tk })->abm (model prog w) A' (collect (.ref r)) Q' E' s)(q:∀ l h' tk,s.heap.objs.size<=l->(∀ b o,s.heap.get? b=some o->h'.get? b=some o)->(∃ c,h'.get? l=some (adO "list" (adl ((cS (c6 kis) vs.length).toList.map λi=>vs.getD i Value.none)) c))->Q (.ref l) { s with heap:=h',toks:=tk }) :
 abm (model prog w) A (call (.builtin "sorted") [.ref r]) Q E s:=by
 refine Calls.call_function_entry kind_sorted plain_sorted entry_sorted (args_sorted1 _) ?_;unfold ac5.«sorted»;refine aaZ (m:=checkCount "sorted" 1 1 _) (aa4 (aaZ (rT _ _ _ rfl λh1 tk keep hsz=>?_)));refine aaZ (wpAny_newList ?_ (by rw[aeA];walk_at "o"));have oL:(h1.push (adO "list" vs.toArray 0)).get? h1.objs.size=some (adO "list" vs.toArray 0):=abc _ rfl;have rV:∀ b o,s.heap.get? b=some o->b≠h1.objs.size/\(h1.push (adO "list" vs.toArray 0)).get? b=some o:=λb o e=>by have:=aa6 e;exact⟨by walk_at "o",aa5 _ (keep b o e)⟩
 show abm _ A.in1 (holding [.ref h1.objs.size] (call (.builtin "list.sort") [.ref h1.objs.size]) >>= _) _ _ { s with heap:=h1.push (adO "list" vs.toArray 0),toks:=tk };generalize h1.push (adO "list" vs.toArray 0)=h2 at oL rV ⊢;generalize h1.objs.size=l at oL rV hsz ⊢;refine aaZ (acv (acp slot_list_sort ⟨_,oL,rfl⟩ entry_list_sort ?body (args_list_sort _)))
 case body =>
  refine RL (s:={ s with heap:=h2,toks:=tk }) oL hl fi (λg z=>hk g λb o n e=>z b o n (rV b o e).2) λh' k c=>⟨_,rfl,aa4 ⟨_,rfl,q l h' tk hsz (λb o e=>k b o (rV b o e).1 (rV b o e).2) c⟩⟩
theorem RM(hl:kis.length=vs.length)(hk:∀ i,i<vs.length->nK h vs kis i):vX prog w h vs kis:=λh2=>by
 obtain⟨fs,ht,lf,hi⟩:=Hg vs kis hl hk;refine⟨tuples' true,λA E s e=>?_⟩;subst e;refine⟨λQ q=>PySem.W.kat_kind (T:=.type "int") ht (by walk_at "o") (λv hv=>?_) (by decide) q,λi j hi hj C q=>?_⟩
 .obtain⟨i,t,rfl⟩:=hi v hv;exact PySem.W.Looks.now
 .obtain⟨p1,o1,i1,m1,a1,b1,_,c1,d1,_⟩:=hk i hi;obtain⟨p2,o2,i2,m2,a2,b2,_,c2,d2,_⟩:=hk j hj;rw[aa1,aa1,a1,a2];have z1:=d1.length;have z2:=d2.length;exact PySem.W.kat_lt b1 c1 b2 c2 (by simpa using Rc (b:=true) (i:=0) d1 d2 (by simp[z1,z2]) q)
theorem RN(hl:kis.length=vs.length)(fi:vs.length<64)(hk:∀ i,i<vs.length->nK s.heap vs kis i)(rT:∀ (A':acP) (Q':List aa9->abe->Prop) (E':aa9->abe->Prop),A'.handled=A.handled->(∀ h' tk,(∀ b o,s.heap.get? b=some o->h'.get? b=some o)->s.heap.objs.size<=h'.objs.size->Q' vs { s with heap:=h',toks:=tk })->abm (model prog w) A' (collect (.ref r)) Q' E' s)(q:∀ l h' tk,s.heap.objs.size<=l->(∀ b o,s.heap.get? b=some o->h'.get? b=some o)->(∃ c,h'.get? l=some (adO "list" (adl ((cS (c6 kis) vs.length).toList.map λi=>vs.getD i Value.none)) c))->Q (.ref l) { s with heap:=h',toks:=tk }) :
 abm (model prog w) A (call (.builtin "sorted") [.ref r]) Q E s :=
 Hh hl fi (λg z=>RM hl λi hi=>(hk i hi).keep λb o e n=>z b o n e) rT q
theorem Hi(K:agY prog w T r d n P OK)(hh:A.handled=none)(ay:OK s.heap)(hn:n<=abu)(q:∀ h' tk acc,(∀ b o,s.heap.get? b=some o->h'.get? b=some o)->s.heap.objs.size<=h'.objs.size->ItemsOf P acc n->Q acc.toList { s with heap:=h',toks:=tk }):abm (model prog w) A (collect (.ref r)) Q E s:=by
 have lt:=K.there _ ay;unfold collect;refine aaZ (wpAny_runValue (acd entry_proto_collect' ?_));rw[abZ PySem.F.plain_proto_collect _];show abm _ A.in1 (ajl [] >>= λl=>again (.builtin "list.__iadd__" ⟨[l,.ref r],[]⟩)) _ _ s;refine aaZ (acj (aa4 ⟨Code.quiet_builtin _ (by decide +kernel),acd entry_list_iadd' ?_⟩));rw[abZ PySem.F.plain_list_iadd _];have oS:(s.heap.push { cls:=.type "list",data:=.seq ([]:List aa9).toArray }).get? s.heap.objs.size=some { cls:=.type "list",data:=.seq #[] 0 }:=abc _ rfl;show abm _ A.in1 (ac9 (.ref s.heap.objs.size) (.ref r) (.ref s.heap.objs.size)) _ _ { s with heap:=s.heap.push { cls:=.type "list",data:=.seq ([]:List aa9).toArray } };refine PySem.W.kdl_extend (R:=λr s'=>match r with
  | .ok (.ret v)=>abm (model prog w) A (match v with|.ref a=>(do match (<- load a).data with|.seq xs _=>pure xs.toList|_=>unsupported "internal:collect")|_=>unsupported "internal:collect") Q E s'
  | .ok _=>False
  | .error e=>E e s') (s:={ s with heap:=s.heap.push { cls:=.type "list",data:=.seq ([]:List aa9).toArray } }) K hh (K.keep _ _ ay λb _ o e=>aa5 _ e) s.heap.objs.size (ace lt.1) (ace lt.2) (.ref s.heap.objs.size) 0 oS (λh' tk acc c hk hS iL=>?_) hn
 show abm _ A (load s.heap.objs.size >>= _) _ _ _;refine aaZ (wpAny_load hS (aa4 ?_));exact q h' tk acc (λb o e=>hk b o (abk (aa6 e)) (aa5 _ e)) (aeL (aa6 hS)) iL
end
def jk(H:Hp)(xs:List V)(kvs:List (List Key × V)):Prop:=az (λx (kv:List Key × V)=>∃ a,x = .ref a/\H a=some (.tup (kv.1.map kV))) xs kvs
theorem KT.keys(r:KT H kvs xs):xs.map (·.1)=kvs.map (·.1):=by
 induction r with
 | nil=>rfl
 | cons h t ih=>rw[abj,abj,ih,h.1]
theorem KT.Hj(r:KT H kvs xs):jk H ((xs.map (·.2.1)).map V.ref) kvs:=by
 induction r with
 | nil=>exact trivial
 | cons h t ih=>exact⟨⟨_,rfl,h.2.1⟩,ih⟩
theorem jk.Hk{K:aa0}{H:Hp}:∀ {ys:List V} {kvs:List (List Key × V)} {kis:List (List Int)},jk H ys kvs->kvs.map (·.1)=kis.map (λk=>k.map ae6)->(∀ k∈kis,k≠[])->iK K H ys kis
 | [],[],[],_,_,_=>trivial
 | [],[],_::_,_,e,_=>by simp at e
 | _::_,kv::kvs,[],_,e,_=>by simp at e
 | y::ys,kv::kvs,k::kis,h,e,hn=>by rw[abj,abj] at e;injection e with e1 e2;obtain⟨⟨a,rfl,ha⟩,t⟩:=h;refine⟨⟨a,rfl,?_,hn k (.head _)⟩,jk.Hk t e2 λk hk=>hn k (.tail _ hk)⟩;rw[e1,abS] at ha;exact .inl (.inl ha)
 | [],_::_,_,h,_,_=>h.elim
 | _::_,[],_,h,_,_=>h.elim
theorem Hl:∀ (as:List abd),Vals (as.map V.ref) (as.map abz)
 | []=>.nil
 | _::as=>.cons rfl (Hl as)
section
theorem RO(I:Inv X pins σ H s)(e:H p=some (.dT kvs)):∃ (as:List abd) (es:Array ac4) (ep:Nat),jk H (as.map V.ref) kvs/\(p == acB)=false/\dW s.heap p es ep/\es.size=as.length/\(∀ acc:Array aa9,ItemsOf (λi v=>∃ e,es[i]?=some e/\v=e.key) acc es.size->acc.toList=as.map abz)/\as.length<=abu:=by
 obtain⟨z,hd,xs,rel,o,es,ep,ho,hc,hdt,he,his,hn⟩:=vW I.ay e;have hl:xs.length=kvs.length:=(Paired.length rel).symm;have hs:es.size=xs.length:=adT he;refine⟨xs.map (·.2.1),es,ep,KT.Hj rel,hd,⟨o,ho,hc,hdt⟩,by rw[aa2];exact hs,λacc ha=>?_,by rw[aa2,hl];exact z⟩;refine aeF λi=>?_;rw[abh,abh];have la:acc.toList.length=es.size:=by rw[ac2];exact ha.1
 by_cases hi:i<es.size
 .obtain⟨v,hv⟩:∃ v,acc.toList[i]?=some v:=⟨_,aa3 (by lia)⟩
  obtain⟨en,h1,h2⟩:=ha.2 i v (by rw[<- aeT];exact hv);rw[entry_at he i] at h1;cases hx:xs[i]? with
  | none=>rw[hx] at h1;cases h1
  | some y=>rw[hx] at h1;cases h1;rw[hv,h2];rfl
 .rw[acE (by lia),acE (by lia)];rfl
theorem RP(I:Inv X pins σ H s)(h:iK X.K H ks kis)(r:Vals ks us):∀ i,i<us.length->nK s.heap us kis i:=λi hi=>by
 have hk:i<ks.length:=by rw[r.length];exact hi
 have RQ:i<kis.length:=by rw[<- h.len];exact hk
 obtain⟨p,ep,hp⟩:=h.get (aa3 hk);obtain⟨u,eu,ru⟩:=r.get (aa3 hk);rw[ep] at ru;cases ru;obtain⟨ar,rv,⟨o,ho,hc,m,hd⟩,_⟩:=I.tuple hp;refine⟨p,o,ar,m,eu,ho,hc,hd,intsAre_of rv,λz=>?_⟩;have nn:kis.getD i []≠[]:=by
  have all:∀ {ks:List V} {ns:List (List Int)},iK X.K H ks ns->∀ n∈ns,n≠[]:=by
   intro ks
   induction ks with
   | nil=>intro ns h n hn;cases ns with
    | nil=>simp at hn
    | cons _ _=>exact h.elim
   | cons k ks ih=>intro ns h n hn;cases ns with
    | nil=>exact h.elim
    | cons m ns =>
     obtain⟨⟨_,_,_,bV⟩,t⟩:=h;rcases abl.mp hn with z|z
     .rw[z];exact bV
     .exact ih t n z
  rw[aa1,aa3 RQ];exact all h _ (agg _)
 have:=rv.length;rw[aa2,z] at this;exact nn (acX.mp this)
theorem Hm(I:Inv X pins σ H s)(r:Vals ks us)(hz:ks.length<=abu)(hl:s.heap.objs.size<=l)(keep:∀ b o,s.heap.get? b=some o->h'.get? b=some o)(hD:∃ c,h'.get? l=some (adO "list" (adl ((cS (c6 kis) us.length).toList.map λi=>us.getD i Value.none)) c))(q:∀ l,H l=none->Q (.ref l) (upd H l (.lst (dQ kis .non ks)))):EP X pins σ Q (.ref l) { s with heap:=h',toks:=tk }:=by obtain⟨c,hD⟩:=hD;have sv:=Rg (kis:=kis) r;rw[r.length] at sv;exact⟨.ref l,_,I.laid (t':=tk) keep hl (show bN X.prog X.w _ h' _ (.lst (dQ kis .non ks)) from ⟨by rw[GJ];exact hz,_,c,sv,hD⟩),rfl,q l (I.ay.fresh hl)⟩
theorem RS(hc:X.calm=true):fJ X (.builtin "sorted") (λxs H Q=>∃ (p:abd) (kvs:List (List Key × V)) (kis:List (List Int)),xs=[.ref p]/\H p=some (.dT kvs)/\kvs.map (·.1)=kis.map (λk=>k.map ae6)/\(∀ k∈kis,k≠[])/\kvs.length<64 /\
 ∀ l ys,H l=none->jk H ys kvs->Q (.ref l) (upd H l (.lst (dQ kis .non ys)))):=by
 intro pins s σ H xs us Q I r h;obtain⟨p,kvs,kis,rfl,e,ek,bV,fi,q⟩:=h;obtain⟨u,rfl,rx⟩:=vals1 r;cases rx;obtain⟨as,es,ep,hk,lo,ra,hs,iL,hz⟩:=RO I e;have la:as.length=kvs.length:=by have:=hk.len;rwa [aa2] at this
 have lk:kis.length=kvs.length:=by have:=congrArg List.length ek;simpa using this.symm
 have hK:iK X.K H (as.map V.ref) kis:=hk.Hk ek bV;have rv:=Hl as;refine RN (kis:=kis) (vs:=as.map abz) (by rw[aa2];lia) (by rw[aa2];lia) (RP I hK rv) (λA' Q' E' hA hq=>Hi (RJ lo) (hA.trans (I.ok.hd hc)) ra (by rw[hs];exact hz) λh' tk acc k1 k2 ha=>?_) λl h' tk h1 h2 h3=>Hm I rv (by rw[aa2];exact hz) h1 h2 h3 λl hl=>q l _ hl hk;rw[iL acc ha];exact hq h' tk k1 k2
end
theorem RT(z:kvs.length<=abu)(lo:(a == acB)=false)(rel:KT H' kvs xs)(dd:h'.DictOfH (ae7 (cK P w)) a xs):bN P w H' h' a (.dT kvs):=by obtain⟨o,es,ep,h1,h2,h3,h4,_,h5⟩:=dd;exact⟨z,lo,xs,rel,o,es,ep,h1,h2,h3,h4,h5⟩
section
theorem RU(e:H p=some (.dT kvs))(r:KT H rW xs):KT (upd H p ob) rW xs :=
 KT.keeps r λb ys z=>by rw[aB (λy=>by rw[y,e] at z;cases z)];exact z
theorem RV(hu:A.units+1<afq)(I:Inv X pins σ H s)(e:H p=some (.dT kvs))(eb:H b=some (.tup (k.map kV)))(hm:more=[] ∨ ∃ x,more=[x])(h1:∀ v,c7 kvs k=some v->∀ w' s',Inv X pins σ (upd H p (.dT (kf kvs k))) s'->RelV v w'->Q w' s')(h0:c7 kvs k=none->∃ x,more=[x]/\∀ s',Inv X pins σ H s'->Q x s') :
 abm (model X.prog X.w) A (call (.builtin "dict.pop") (.ref p :: .ref b::more)) Q E s:=by
 obtain⟨z,lo,xs,rel,dd⟩:=vW I.ay e;have hl:xs.length=kvs.length:=(Paired.length rel).symm;refine RH (acT hu) (pL I.ay eb) lo dd (by rw[hl];exact z) hm (λy hy h' tk nJ hs=>?_) λhn=>?_
 .have rv:=rel.val k;rw[hy] at rv;cases hv:c7 kvs k with
  | none=>rw[hv] at rv;exact (show False from rv).elim
  | some v =>
   rw[hv] at rv;have he:∃ q,h'.get? p=some q:=let ⟨q,_,_,hq,_⟩:=nJ;⟨q,hq⟩;exact h1 v hv _ _ (zy (t':=tk) I (by rw[e];exact adv) hs he (RT (abb (Ru kvs k) z) lo (RU e (KT.out rel k)) nJ)) rv
 .have rv:=rel.val k;rw[hn] at rv;cases hv:c7 kvs k with
  | some v=>rw[hv] at rv;exact (show False from rv).elim
  | none =>
   obtain⟨x,ex,q⟩:=h0 hv;exact⟨x,ex,λtk=>q _ (I.tok tk)⟩
end
def Hn(td ty:TE):TE:=λσ H Q=>td σ H λx H1=>∃ a,x = .ref a/\G1 H1 a/\ty σ H1 λy H2=>∃ b kvs k v,y = .ref b/\H2 a=some (.dT kvs)/\H2 b=some (.tup (k.map kV))/\c7 kvs k=some v/\Q v (upd H2 a (.dT (kf kvs k)))
section
theorem Ho(hu:X.A.units+1<afq)(ho:PE X o td)(he:PE X e ty)(m:M1 X o "pop" apos e de):PE X (.Call (.Attribute o "pop" apos) [e] [] de) (Hn td ty):=by
 intro pins s σ H Q I h;refine wpAny_Call_method m.base m.few m.line PySem.F.plainAttrs_dict agF PySem.F.type_dict_pop (aE (ho pins s σ H _ I h) λu s1 zq=>?_);obtain⟨x,H1,I1,rx,a,ex,d,q1⟩:=zq;subst ex;obtain rfl:u=abz a:=rx;obtain⟨t1,t2,_⟩:=RD I1 d;refine⟨t1,t2,?_⟩;rw[m.trees];refine agm rfl (ae2 (acR (aE (he pins s1 σ H1 _ I1 q1) λiv s2 ⟨y,H2,I2,ry,b,kvs,k,v,ey,ea,eb,l,q2⟩=>ac0 ?_)));subst ey;obtain rfl:iv=abz b:=ry;exact RV hu I2 ea eb (.inl rfl) (λv' l' w' s3 I3 i9=>⟨v',_,I3,i9,by rw[l] at l';cases l';exact q2⟩) λl'=>by rw[l] at l';cases l'
end
section
variable{prog:ab1}{w:acz}{K:Type}[DecidableEq K]{knd:KeyKind prog w K}{A:acP}{E:aa9->abe->Prop}{s:abe}{o d:abd}{es:Array ac4}{ep:Nat}
def vY(h:adz)(es:Array ac4):Prop:=∀ e∈es,(es.filter (·.hash == e.hash)).size<=1/\∃ a ob,e.key = .ref a/\h.get? a=some ob/\ob.cls = .type "tuple"
theorem RW(x:dW s.heap o es ep)(hk:vY s.heap es)(q:Q es s):abm (model prog w) A (ae3 nm o) Q E s:=by
 obtain⟨ob,ho,_,hd⟩:=x;unfold ae3;refine aaZ (acr ho hd ?_);refine aaZ ?_;rw[<- Array.forIn_toList];refine ah5 _ (λrest _ s'=>s'=s/\∀ e∈rest,e∈es) _ ?_ ?_ _ _ ⟨rfl,λe he=>ae1.mp he⟩
 .rintro e rest b s' ⟨rfl,bO⟩;obtain⟨h1,a,oa,ea,ha,hc⟩:=hk e (bO e (.head _));have T:s'.TypeIs e.key "tuple" := by rw[ea];exact⟨oa,ha,hc⟩
  have nx:¬ 1<(es.filter (·.hash == e.hash)).size:=by lia
  refine aaZ ?_;rw[ea] at T ⊢;unfold ajg;refine aaZ (adS (name:=acf "__eq__") T (show agO (.type "tuple") (acf "__eq__")=pure (some (.builtin "tuple.__eq__")) from by rw[aep,adm];kernel_rfl) (aa4 ?_));have ne:(some (aen "tuple.__eq__") == some (aen "object.__eq__"))=false:=by decide +kernel
  rw[ne,if_pos (show (!false)=true from rfl),if_neg nx];exact aa4 ⟨rfl,λe he=>bO e (.tail _ he)⟩
 .rintro b s' ⟨rfl,_⟩;exact aa4 q
theorem RX(lo:(o == acB)=false)(x:dW s.heap o es ep)(hk:vY s.heap es)(hz:es.size<=abu)(q:∀ h' kK,dW h' s.heap.objs.size es kK->Heap.SameBut s.heap.objs.size (s.heap.push { cls:=.type "dict",data:=.dict #[] }) h'->Q (.ref s.heap.objs.size) { s with heap:=h' }):abm (model prog w) A (call (.type "dict") [.ref o]) Q E s:=by
 have lt:=x.lt;refine callType_codes (Q₁:=λy s₁=>y = .ref s.heap.objs.size/\s₁ = { s with heap:=s.heap.push { cls:=.type "dict",data:=.dict #[] } }) PySem.F.kt_called_dict (PySem.F.kt_typeCall_dict_1 _) PySem.F.entry_dict_init (kt_code_dict_new _ ⟨rfl,rfl⟩) ?_;rintro y s₁ ⟨rfl,rfl⟩;have xn:dW (s.heap.push { cls:=.type "dict",data:=.dict #[] }) s.heap.objs.size #[] 0:=⟨_,abc _ rfl,⟨rfl,rfl,rfl⟩,rfl⟩
 have xo:dW (s.heap.push { cls:=.type "dict",data:=.dict #[] }) o es ep:=x.at λ_ e=>aa5 _ e;have gy:vY (s.heap.push { cls:=.type "dict",data:=.dict #[] }) es:=λe he=>by obtain⟨h1,a,oa,ea,ha,hc⟩:=hk e he;exact⟨h1,a,oa,ea,aa5 _ ha,hc⟩
 have Tn:Shared.TypeIs { s with heap:=s.heap.push { cls:=.type "dict",data:=.dict #[] } } (.ref s.heap.objs.size) "dict" := dW.ty (s:={ s with heap:=s.heap.push { cls:=.type "dict",data:=.dict #[] } }) xn;have To:Shared.TypeIs { s with heap:=s.heap.push { cls:=.type "dict",data:=.dict #[] } } (.ref o) "dict" := dW.ty (s:={ s with heap:=s.heap.push { cls:=.type "dict",data:=.dict #[] } }) xo;have RY:¬ s.heap.objs.size=o:=by walk_at "o"
 refine⟨Tn,PySem.F.args_dict_init_2 _ _,?_⟩;unfold ac5.«dict.__init__»;refine aaZ ?_;unfold aiO;refine aaZ (aeQ Tn ?_);refine aa4 (a:=(s.heap.objs.size,[abz o])) ?_;show abm _ _ (af9 "dict.__init__" s.heap.objs.size (.ref o) [] .none) _ _ _;unfold af9;refine aaZ (ahX To ?_);rw[if_neg (by decide)];refine aaZ ?_;unfold ajo;refine aaZ ?_;unfold aiD;refine aaZ (adI To isSubtype_dict_dict ?_);simp only[ae4,aby,if_false];refine aaZ (adS To PySem.F.slot_dict_iter.lookup (aa4 ?_));simp only[beq_self_eq_true,if_true];refine aaZ (aa4 ?_);obtain⟨on,hon,hcn,hdn⟩:=id xn;obtain⟨oo,hoo,hco,zG⟩:=id xo;unfold ai1;rw[if_neg (by simpa using RY)];unfold aeR;rw[if_neg (by rw[lo];exact abo)];refine aaZ (aa4 (aaZ (acr hoo zG ?_)));dsimp only;by_cases hemp:es.isEmpty=true
 .have e0:es = #[]:=Array.isEmpty_iff.mp hemp;subst e0;rw[if_neg (by simp)];refine aaZ (afj hoo zG (aaZ (acr hoo zG (aaZ ?_))));rw[Std.Legacy.Range.forIn_eq_forIn_range'];refine aa4 (aa4 ?_);exact aaZ (aa4 (aa4 ⟨rfl,q _ _ xn (Heap.SameBut.refl _ _)⟩))
 .have nf:(decide (es.size<=8) && es.all λe=>(keyPart e.key).isSome)=false:=by
   rw[agG];refine .inr (acD.mpr λz=>?_);have hs:0<es.size:=by
    rcases ahs es.size with h|h
    .exact absurd (by simpa using h) hemp
    .exact h
   have z0:=(Array.all_eq_true.mp z) 0 hs;obtain⟨_,a,_,ea,_⟩:=hk es[0] (Array.getElem_mem hs);rw[ea] at z0;cases z0
  rw[nf,if_pos (show (!false)=true from rfl)];refine aaZ (acr hon hdn ?_);rw[if_pos (show (#[]:Array ac4).isEmpty=true from rfl)];refine aaZ (RW xo gy ?_);rw[if_pos (by simpa using hemp)];refine aaZ (wpAny_updateDictKeysTo hon hdn (aa4 ?_) (ahL hz));exact aaZ (aa4 (aa4 ⟨rfl,q _ _ ⟨_,abL _ hon (ag9 (ad2 hdn _)),hcn.mapDictKeys _,ad2 hdn _⟩ (aca ..)⟩))
end
theorem Hq{α:Type}{f:α->Int}:∀ {l:List α},(l.map f).Nodup->∀ c,(l.filter λx=>f x == c).length<=1
 | [],_,_=>by simp
 | x::l,h,c=>by
  rw[abj,ab7] at h;have ih:=Hq h.2 c;rw[abK];split
  .rename_i hx;have e:(l.filter λx=>f x == c)=[]:=by
    rw[List.filter_eq_nil_iff];intro y hy RZ;have e1:f x=c:=by simpa using hx
    have e2:f y=c:=by simpa using RZ
    exact h.1 (by rw[e1,<- e2];exact aa8.mpr ⟨y,hy,rfl⟩)
   rw[e];exact aba _
  .exact ih
theorem Hr:fJ X (.type "dict") (λxs H Q=>∃ p kvs,xs=[.ref p]/\H p=some (.dT kvs)/\(kvs.map λkv=>adU (cK X.prog X.w) kv.1).Nodup/\∀ l,H l=none->Q (.ref l) (upd H l (.dT kvs))):=by
 intro pins s σ H xs us Q I r h;obtain⟨p,kvs,rfl,e,hh,q⟩:=h;obtain⟨u,rfl,rx⟩:=vals1 r;cases rx;obtain⟨z,lo,xs,rel,o,es,ep,ho,hc,hdt,he,his,hn⟩:=vW I.ay e;have hl:xs.length=kvs.length:=(Paired.length rel).symm;have hs:es.size=xs.length:=adT he;have ks:xs.map (·.1)=kvs.map (·.1):=KT.keys rel;have R0:(es.toList.map (·.hash)).Nodup:=by
  have e1:es.toList.map (·.hash)=kvs.map λkv=>adU (cK X.prog X.w) kv.1:=by rw[he,abS,show (kvs.map λkv=>adU (cK X.prog X.w) kv.1)=(kvs.map (·.1)).map (adU (cK X.prog X.w)) by rw[abS];rfl,<- ks,abS];rfl
  rw[e1];exact hh
 have hk:vY s.heap es:=λen R1=>by
  refine⟨?_,?_⟩
  .have:=Hq (f:=λx:ac4=>x.hash) R0 en.hash
   rwa [<- Array.toList_filter,ac2] at this
  .have:en∈xs.map (agM (ae7 (cK X.prog X.w))):=he ▸ ae1.mpr R1;obtain⟨x,hx,rfl⟩:=aa8.mp this;obtain⟨ob,_,_,h1,h2,_⟩:=his x hx;exact⟨x.2.1,ob,rfl,h1,h2⟩
 refine RX lo ⟨o,ho,hc,hdt⟩ hk (by rw[hs,hl];exact z) λh' kK ra sb=>?_;obtain⟨on,hon,hcn,hdn⟩:=ra;have keep:∀ b q,s.heap.get? b=some q->h'.get? b=some q:=λb q hq=>(sb.2 b (abk (aa6 hq))).trans (aa5 _ hq);have fr:=I.ay.fresh (aba s.heap.objs.size);refine⟨.ref s.heap.objs.size,_,I.laid (a:=s.heap.objs.size) (o:=.dT kvs) (t':=s.toks) keep (aba _) ⟨z,beq_eq_false_iff_ne.mpr (ab4 (abk I.big)),xs,KT.keeps rel λb ys y=>?_,on,es,kK,hon,hcn,hdn,he,hn⟩,rfl,q _ fr⟩;rw[aB (λz=>by rw[z,fr] at y;cases y)];exact y
section
end
theorem aX{c:Prop}[Decidable c]{a b:Prop}(h:c->a)(h':¬ c->b):if c then a else b:=by
 by_cases z:c
 .rw[if_pos z];exact h z
 .rw[if_neg z];exact h' z
theorem GW(h:adz)(hb:acB<h.objs.size):bN P w H (h.push { cls:=.type "dict",data:=.dict #[] }) h.objs.size (.dK []) :=
 ⟨abt _,beq_eq_false_iff_ne.mpr (ab4 (abk hb)),[],.nil,Heap.DictOf.new h⟩
section
theorem Inv.R4(I:Inv X pins σ H s):acB<s.heap.objs.size:=by have h:abB<s.heap.objs.size:=(I.mod.glob.keeps I.bk).lt;exact ahW (by decide) h
def Hs:TE:=λ_ H Q=>∀ p,H p=none->Q (.ref p) (upd H p (.dT []))
theorem Ht:PE X (.Dict [] [] pos) Hs:=λpins s σ H Q I h=>wpAny_Dict_empty
 ⟨.ref s.heap.objs.size,_,I.laid (a:=s.heap.objs.size) (o:=.dT []) (t':=s.toks) (λ_ _ z=>aa5 _ z) (aba _)
  ⟨abt _,beq_eq_false_iff_ne.mpr (ab4 (abk (Inv.R4 I))),[],.nil,_,#[],0,abc _ rfl,⟨rfl,rfl,rfl⟩,rfl,rfl,aeK⟩,rfl,h _ (I.ay.fresh (aba _))⟩
theorem Hu(h:∃ t,X.mg x=some (.int n t))(hg:Gl X x)(hd:(x == ("__debug__" : Str))=false:=by decide):PE X (.Name x pos) (tC (.int n)):=by obtain⟨t,ht⟩:=h;exact uZ (v:=.int n) hg ht ⟨t,rfl⟩ hd
end
section
end
noncomputable def o5(ks:List P2)(r:Int)(i:Nat):Bool:=decide ((aF ks i).1<=r) && decide (r<=(aF ks (i+1)).1)
theorem Hv(hu:A.units+1<afq)(ho:PE X o td)(hi:PE X i ty)(hs:zz i)(eA:X.A=A:=by rfl):PE X (.Subscript o i pos) (zA td ty):=by subst eA;exact pN hu ho hi hs
abbrev Tb:=List (P2 × S2)
noncomputable def bH(i j:Int):List Key:=[.inl i,.inl j]
theorem vZ{a b:P2}(h:bH a.1 a.2=bH b.1 b.2):a=b:=by unfold bH at h;injection h with h1 h2;injection h2 with h2 _;exact Prod.ext (Sum.inl.inj h1) (Sum.inl.inj h2)
noncomputable def ic(tb:Tb)(s:P2):Option S2:=(tb.find? λr=>decide (r.1=s)).map (·.2)
noncomputable def fj(tb:Tb)(s:P2)(w:S2):Tb:=if (tb.any λr=>decide (r.1=s))=true then tb.map (λr=>if r.1=s then (r.1,w) else r) else tb++[(s,w)]
noncomputable def pR(tb:Tb)(s:P2):Tb:=tb.filter λr=>decide (r.1≠s)
def aY(H:Hp):List (List Key × V)->Tb->Prop
 | [],[]=>True
 | kv::kvs,r::tb=>(kv.1=bH r.1.1 r.1.2/\aM H kv.2 r.2.1 r.2.2)/\aY H kvs tb
 | _,_=>False
section
theorem aY.len:∀ {kvs:List (List Key × V)} {tb:Tb},aY H kvs tb->kvs.length=tb.length
 | [],[],_=>rfl
 | _::kvs,_::tb,h=>congrArg (· + 1) (aY.len (kvs:=kvs) (tb:=tb) h.2)
 | [],_::_,h=>h.elim
 | _::_,[],h=>h.elim
theorem aY.imp(f:∀ v a b,aM H v a b->aM H' v a b):∀ {kvs:List (List Key × V)} {tb:Tb},aY H kvs tb->aY H' kvs tb
 | [],[],_=>trivial
 | _::kvs,_::tb,h=>⟨⟨h.1.1,f _ _ _ h.1.2⟩,aY.imp f (kvs:=kvs) (tb:=tb) h.2⟩
 | [],_::_,h=>h.elim
 | _::_,[],h=>h.elim
theorem aY.app:∀ {kvs rW:List (List Key × V)} {tb bY:Tb},aY H kvs tb->aY H rW bY->aY H (kvs++rW) (tb++bY)
 | [],_,[],_,_,h=>h
 | _::kvs,rW,_::tb,bY,h,h'=>⟨h.1,aY.app (kvs:=kvs) (tb:=tb) h.2 h'⟩
 | [],_,_::_,_,h,_=>h.elim
 | _::_,_,[],_,h,_=>h.elim
theorem aY.keys:∀ {kvs:List (List Key × V)} {tb:Tb},aY H kvs tb->kvs.map (·.1)=tb.map λr=>bH r.1.1 r.1.2
 | [],[],_=>rfl
 | kv::kvs,r::tb,h=>by rw[abj,abj,h.1.1,aY.keys (kvs:=kvs) (tb:=tb) h.2]
 | [],_::_,h=>h.elim
 | _::_,[],h=>h.elim
theorem aY.any(s:P2):∀ {kvs:List (List Key × V)} {tb:Tb},aY H kvs tb->(kvs.any λkv=>decide (kv.1=bH s.1 s.2))=tb.any λr=>decide (r.1=s)
 | [],[],_=>rfl
 | kv::kvs,r::tb,h=>by
  rw[acw,acw,aY.any s (kvs:=kvs) (tb:=tb) h.2,h.1.1]
  congr 1
  by_cases e:r.1=s
  .rw[e,decide_eq_true rfl,decide_eq_true rfl]
  .rw[decide_eq_false e,decide_eq_false λz=>e (vZ z)]
 | [],_::_,h=>h.elim
 | _::_,[],h=>h.elim
theorem aY.val(s:P2):∀ {kvs:List (List Key × V)} {tb:Tb},aY H kvs tb->(ic tb s=none->c7 kvs (bH s.1 s.2)=none)/\∀ w,ic tb s=some w->∃ v,c7 kvs (bH s.1 s.2)=some v/\aM H v w.1 w.2
 | [],[],_=>⟨λ_=>rfl,λw h=>by cases h⟩
 | kv::kvs,r::tb,h=>by
  have ih:=aY.val s (kvs:=kvs) (tb:=tb) h.2;by_cases e:r.1=s
  .have e1:ic (r::tb) s=some r.2:=by simp[ic,acH,e]
   rw[e1,vU (h.1.1.trans (by rw[e]))];exact⟨λz=>(by cases z),λw z=>(by cases z;exact⟨_,rfl,h.1.2⟩)⟩
  .have e1:ic (r::tb) s=ic tb s:=by simp[ic,acH,e]
   rw[e1,vV (λz=>e (vZ (h.1.1.symm.trans z)))];exact ih
 | [],_::_,h=>h.elim
 | _::_,[],h=>h.elim
theorem aY.pJ(hv:aM H v w.1 w.2):∀ {kvs:List (List Key × V)} {tb:Tb},aY H kvs tb->aY H (kvs.map λkv=>if kv.1=bH s.1 s.2 then (kv.1,v) else kv) (tb.map λr=>if r.1=s then (r.1,w) else r)
 | [],[],_=>trivial
 | kv::kvs,r::tb,h=>by
  rw[abj,abj];refine⟨?_,aY.pJ hv (kvs:=kvs) (tb:=tb) h.2⟩;by_cases e:r.1=s
  .rw[if_pos e,if_pos (h.1.1.trans (by rw[e]))];exact⟨h.1.1,hv⟩
  .rw[if_neg e,if_neg (λz=>e (vZ (h.1.1.symm.trans z)))];exact h.1
 | [],_::_,h=>h.elim
 | _::_,[],h=>h.elim
theorem aY.put(h:aY H kvs tb)(hv:aM H v w.1 w.2):aY H (putK kvs (bH s.1 s.2) v) (fj tb s w):=by
 unfold putK fj;rw[h.any s];split
 .exact h.pJ hv
 .exact h.app ⟨⟨rfl,hv⟩,trivial⟩
theorem aY.drop:∀ {kvs:List (List Key × V)} {tb:Tb},aY H kvs tb->aY H (kf kvs (bH s.1 s.2)) (pR tb s)
 | [],[],_=>trivial
 | kv::kvs,r::tb,h=>by
  have ih:=aY.drop (s:=s) (kvs:=kvs) (tb:=tb) h.2;unfold kf pR at *;rw[abK,abK];by_cases e:r.1=s
  .have e2:kv.1=bH s.1 s.2:=h.1.1.trans (by rw[e]);rw[if_neg (by simp[e2]),if_neg (by simp[e])];exact ih
  .have e2:¬ kv.1=bH s.1 s.2:=λz=>e (vZ (h.1.1.symm.trans z));rw[if_pos (by simp[e2]),if_pos (by simp[e])];exact⟨h.1,ih⟩
 | [],_::_,h=>h.elim
 | _::_,[],h=>h.elim
theorem aY.nM:∀ {ys:List V} {kvs:List (List Key × V)} {tb:Tb},aY H kvs tb->jk H ys kvs->gx H ys (tb.map (·.1))
 | [],[],[],_,_=>trivial
 | y::ys,kv::kvs,r::tb,h,⟨⟨a,e,ha⟩,t⟩=>⟨⟨a,e,by rw[h.1.1] at ha;exact ha⟩,aY.nM (ys:=ys) (kvs:=kvs) (tb:=tb) h.2 t⟩
 | [],_::_,_,_,h=>h.elim
 | _::_,[],_,_,h=>h.elim
 | _,[],_::_,h,_=>h.elim
 | _,_::_,[],h,_=>h.elim
end
def TabAt(H:Hp)(p:abd)(tb:Tb):Prop:=∃ kvs,H p=some (.dT kvs)/\aY H kvs tb
def Fr(H H':Hp):Prop:=∀ b o,(∀ kvs,o≠HO.dT kvs)->H b=some o->H' b=some o
def iM(ps:List abd)(H H':Hp):Prop:=∀ b o,b∉ps->H b=some o->H' b=some o
def pS(H:Hp)(ps:List abd):Prop:=∀ p∈ps,∃ kvs,H p=some (.dT kvs)
section
theorem _root_.L2.aj.fr(s:aj H H'):Fr H H':=λb o _ e=>s b o e
theorem SameBut.but(a:SameBut p H H')(h:p∈ps):iM ps H H':=λc o z e=>a c o (λy=>z (y ▸ h)) e
theorem iM.fr(a:iM ps H H')(d:pS H ps):Fr H H':=λb o ho e=>by
 by_cases hb:b∈ps
 .obtain⟨kvs,hk⟩:=d b hb;rw[hk] at e;exact absurd (Option.some.inj e).symm (ho kvs)
 .exact a b o hb e
theorem zH(h:H p=some (.dT kvs)):Fr H (upd H p o):=λb u hu e=>by rw[aB (λz=>by rw[z,h] at e;exact hu _ (Option.some.inj e).symm)];exact e
theorem Hw(h:H p=some (.dT kvs)):pS H [p]:=λb hb=>⟨kvs,(abp.mp hb) ▸ h⟩
theorem SameBut.fr(a:SameBut p H H')(h:H p=some (.dT kvs)):Fr H H':=iM.fr (SameBut.but a (.head _)) (Hw h)
theorem aM.fr(h:aM H v a b)(f:Fr H H'):aM H' v a b:=let ⟨p,e,hp⟩:=h;⟨p,e,f _ _ (λ_ z=>nomatch z) hp⟩
theorem TabAt.fr(h:TabAt H p tb)(f:Fr H H')(e:∀ kvs,H p=some (.dT kvs)->H' p=some (.dT kvs)):TabAt H' p tb:=let ⟨kvs,a,b⟩:=h;⟨kvs,e _ a,b.imp λ_ _ _ z=>z.fr f⟩
theorem TabAt.same(h:TabAt H p tb)(s:aj H H'):TabAt H' p tb:=h.fr s.fr λ_ e=>s _ _ e
theorem TabAt.but(h:TabAt H p tb)(b:iM ps H H')(d:pS H ps)(hp:p∉ps):TabAt H' p tb:=h.fr (b.fr d) λ_ e=>b _ _ hp e
end
theorem pU(hn:(tb.map (·.1)).Nodup)(h:r∈tb):ic tb r.1=some r.2:=by
 induction tb with
 | nil=>cases h
 | cons x l ih =>
  rw[abj,ab7] at hn;rcases abl.mp h with z|z
  .rw[<- z];simp[ic,acH]
  .have e:¬ x.1=r.1:=λy=>hn.1 (y ▸ aa8.mpr ⟨r,z,rfl⟩);have:ic (x::l) r.1=ic l r.1:=by simp[ic,acH,e]
   rw[this,ih hn.2 z]
def kg(e t:Int)(s:P2):Prop:=(0<=s.1/\s.1<e)/\0<=s.2/\s.2<t
instance (e t:Int) (s:P2):Decidable (kg e t s):=by unfold kg;infer_instance
def bI(e t:Int)(tb:Tb):Prop:=(tb.map (·.1)).Nodup/\∀ r∈tb,kg e t r.1
theorem R5(tb:Tb)(s:P2)(w:S2):(fj tb s w).length<=tb.length+1:=by unfold fj;split<;>simp
theorem bI.put(h:bI e t tb)(hs:kg e t s):bI e t (fj tb s w):=by
 unfold fj;split
 .refine⟨?_,λr hr=>?_⟩
  .have:(tb.map λr=>if r.1=s then (r.1,w) else r).map (·.1)=tb.map (·.1):=by rw[abS];refine ada λr _=>?_;show (if r.1=s then (r.1,w) else r).1=r.1;split<;>rfl
   rw[this];exact h.1
  .obtain⟨x,hx,rfl⟩:=aa8.mp hr;have:=h.2 x hx;split<;>exact this
 .rename_i z;refine⟨?_,λr hr=>?_⟩
  .rw[aco];refine G2 h.1 λy=>z ?_;obtain⟨x,hx,e⟩:=aa8.mp y;rw[acy];exact⟨x,hx,by simpa using e⟩
  .rcases abD.mp hr with y|y
   .exact h.2 r y
   .rw[abp.mp y];exact hs
theorem bI.drop(h:bI e t tb):bI e t (pR tb s) :=
 ⟨h.1.sublist ((ag8).map _),λr hr=>h.2 r (abE.mp hr).1⟩
theorem bI.nil:bI e t []:=⟨aeK,λr h=>by cases h⟩
noncomputable def kh(tb:Tb):List (List Int):=tb.map λr=>[r.1.1,r.1.2]
noncomputable def mz(tb:Tb):Tb:=dQ (kh tb) ((0,0),(none,none)) tb
theorem rX(h:r∈mz tb):r∈tb:=pE.mem_iff.mp h
theorem nN:(mz tb).length=tb.length:=GJ
theorem az.sort(h:az R xs as):az R (dQ kis .non xs) (dQ kis d as):=by
 have hl:=h.len;have hp:=(pB (n:=xs.length) (nF kis)).1;unfold dQ;rw[<- hl];have gen:∀ l:List Nat,(∀ i∈l,i<xs.length)->az R (l.map λi=>xs.getD i .non) (l.map λi=>as.getD i d):=by
  intro l
  induction l with
  | nil=>intro _;exact trivial
  | cons i l ih =>
   intro q;have hi:=q i (.head _);obtain⟨s,es,hs⟩:=h.get (aa3 hi);refine⟨?_,ih λj hj=>q j (.tail _ hj)⟩;show R (xs.getD i .non) (as.getD i d);rw[aa1,aa1,es,aa3 hi];exact hs
 exact gen _ λi hi=>by simpa using hp.mem_iff.mp hi
theorem az.bind:∀ {xs:List V} {bs:List β},az R xs (bs.map f)->az (λx b=>R x (f b)) xs bs
 | [],[],_=>trivial
 | _::_,_::_,h=>⟨h.1,az.bind h.2⟩
 | [],_::_,h=>h.elim
 | _::_,[],h=>h.elim
theorem az.Hy:∀ {xs:List V} {bs:List β},az (λx b=>R x (f b)) xs bs->az R xs (bs.map f)
 | [],[],_=>trivial
 | _::_,_::_,h=>⟨h.1,az.Hy h.2⟩
 | [],_::_,h=>h.elim
 | _::_,[],h=>h.elim
theorem R6(h:aY H kvs tb):kvs.map (·.1)=(kh tb).map λk=>k.map ae6:=by rw[h.keys];unfold kh;rw[abS];rfl
theorem R7:∀ k∈kh tb,k≠[]:=λk hk=>by
 obtain⟨r,_,rfl⟩:=aa8.mp hk;exact λz=>nomatch z
theorem R8(h:aY H kvs tb)(hk:jk H ys kvs):az (λx (r:P2 × S2)=>dn H x r.1) (dQ (kh tb) .non ys) (mz tb):=az.sort (az.bind (h.nM hk))
def ki(H:Hp)(v:V)(r:P2 × S2):Prop:=∃ a w,v = .ref a/\H a=some (.tup [.int r.1.1,.int r.1.2,w])/\aM H w r.2.1 r.2.2
theorem ki.same(h:ki H v r)(s:aj H H'):ki H' v r:=let ⟨a,w,e,ha,hw⟩:=h;⟨a,w,e,s _ _ ha,hw.same s⟩
noncomputable def mC(i j:Int):Int:=reduceHash (Builtin.Tuple.tupleHashOf [afZ i,afZ j])
theorem R9(P:ab1)(w:acz)(i j:Int):adU (cK P w) (bH i j)=mC i j:=by unfold adU mC bH;rw[abj,abj,adB];rw[show (cK P w).hash (ae6 i)=afZ i from rfl,show (cK P w).hash (ae6 j)=afZ j from rfl]
theorem Sa:((abG 84).all λa=>(abG 84).all λb=>!(mC ((a / 12:Nat):Int) ((a % 12:Nat):Int) == mC ((b / 12:Nat):Int) ((b % 12:Nat):Int)) || a == b)=true:=by decide +kernel
theorem Sb(ha:kg 7 12 a)(hb:kg 7 12 b)(h:mC a.1 a.2=mC b.1 b.2):a=b:=by
 obtain⟨⟨a1,a2⟩,a3,a4⟩:=ha;obtain⟨⟨b1,b2⟩,b3,b4⟩:=hb;have h1:=acx.mp Sa (a.1.toNat * 12+a.2.toNat) (acO.mpr (by lia));have h2:=acx.mp h1 (b.1.toNat * 12+b.2.toNat) (acO.mpr (by lia));have ea:(((a.1.toNat * 12+a.2.toNat) / 12:Nat):Int)=a.1:=by lia
 have Sd:(((a.1.toNat * 12+a.2.toNat) % 12:Nat):Int)=a.2:=by lia
 have eb:(((b.1.toNat * 12+b.2.toNat) / 12:Nat):Int)=b.1:=by lia
 have Se:(((b.1.toNat * 12+b.2.toNat) % 12:Nat):Int)=b.2:=by lia
 rw[ea,Sd,eb,Se,h] at h2;simp only[beq_self_eq_true,ae4,ahp,beq_iff_eq] at h2;exact Prod.ext (by lia) (by lia)
theorem Hz:∀ {kvs:List (List Key × V)} {tb:Tb},aY H kvs tb->(kvs.map λkv=>adU (cK P w) kv.1)=tb.map λr=>mC r.1.1 r.1.2
 | [],[],_=>adB.trans adB.symm
 | kv::kvs,r::tb,h=>by have ih:=Hz (P:=P) (w:=w) (kvs:=kvs) (tb:=tb) h.2;have h1:=R9 P w r.1.1 r.1.2;rw[<- h.1.1] at h1;rw[abj,abj,ih,h1]
 | [],_::_,h=>h.elim
 | _::_,[],h=>h.elim
theorem HC(he:e<=7)(ht:t<=12):∀ {tb:Tb},bI e t tb->(tb.map λr=>mC r.1.1 r.1.2).Nodup
 | [],_=>by rw[adB];exact aeK
 | x::l,ok=>by
  have h7:∀ r∈x::l,kg 7 12 r.1:=λr hr=>by obtain⟨⟨a,b⟩,c,d⟩:=ok.2 r hr;exact⟨⟨a,by lia⟩,c,by lia⟩
  have nd:=ok.1;rw[abj,ab7] at nd;rw[abj,ab7];refine⟨λz=>?_,HC he ht (tb:=l) ⟨nd.2,λr hr=>ok.2 r (.tail _ hr)⟩⟩;obtain⟨y,hy,ey⟩:=aa8.mp z;have:=Sb (h7 y (.tail _ hy)) (h7 x (.head _)) ey;exact nd.1 (aa8.mpr ⟨y,hy,this⟩)
theorem HD(h:aY H kvs tb)(ok:bI e t tb)(he:e<=7)(ht:t<=12):(kvs.map λkv=>adU (cK P w) kv.1).Nodup:=by rw[Hz h];exact HC he ht ok
theorem Sf(h:aT a b=true):aT (dR a c) (dS b d)=true:=by rcases a with _|x<;>rcases b with _|y<;>rcases c with _|z<;>rcases d with _|w<;>simp[aT,dR,dS] at h ⊢<;>lia
noncomputable def bh(e:S2)(ss:List S2):S2:=ss.foldl (λe s=>(dR e.1 s.1,dS e.2 s.2)) e
theorem v3(e s:S2)(ss:List S2):bh e (s::ss)=bh (dR e.1 s.1,dS e.2 s.2) ss:=rfl
theorem HE:∀ (ss:List S2) {e:S2},aT e.1 e.2=true->aT (bh e ss).1 (bh e ss).2=true
 | [],_,h=>h
 | s::ss,e,h=>by rw[v3];exact HE ss (Sf h)
theorem Sg(h:aT (bh e (ss.take i)).1 (bh e (ss.take i)).2=true):aT (bh e ss).1 (bh e ss).2=true:=by
 have:bh e ss=bh (bh e (ss.take i)) (ss.drop i):=by unfold bh;rw[<- afV,adn]
 rw[this];exact HE _ h
theorem Sh{ss:List S2}{e s:S2}{i:Nat}(h:ss[i]?=some s):bh e (ss.take (i+1))=(dR (bh e (ss.take i)).1 s.1,dS (bh e (ss.take i)).2 s.2):=by unfold bh;rw[ab9,h,afV];rfl
noncomputable def fN(e:S2)(ss:List S2):W2:=if aT (bh e ss).1 (bh e ss).2=true then none else some (bh e ss)
theorem lr:∀ {xs:List V} {ss:List S2},lp H xs ss↔az (λx s=>aM H x s.1 s.2) xs ss
 | [],[]=>Iff.rfl
 | _::_,_::_=>and_congr Iff.rfl lr
 | [],_::_=>Iff.rfl
 | _::_,[]=>Iff.rfl
abbrev Pa:=Str × Int × S2
def eX(H:Hp)(v:V)(p:Pa):Prop:=∃ (t q:abd),v = .ref t/\H t=some (.tup [.str p.1,.int p.2.1,.ref q])/\H q=some (.tup [ev p.2.2.1,ev p.2.2.2])
theorem eX.same(h:eX H v p)(s:aj H H'):eX H' v p:=let ⟨t,q,e,a,b⟩:=h;⟨t,q,e,s _ _ a,s _ _ b⟩
abbrev dq(H:Hp):List V->List Pa->Prop:=az (eX H)
theorem dq.same(h:dq H xs ps)(s:aj H H'):dq H' xs ps:=az.imp (λ_ _ r=>r.same s) h
theorem eX.fr(h:eX H v p)(hr:H r=some (.lst ys)):eX (upd H r o) v p:=by
 obtain⟨t,q,e,a,b⟩:=h;have h1:t≠r:=λz=>by rw[z,hr] at a;cases a
 have h2:q≠r:=λz=>by rw[z,hr] at b;cases b
 exact⟨t,q,e,by rw[aB h1];exact a,by rw[aB h2];exact b⟩
theorem dq.put(h:dq H xs ps)(hr:H r=some (.lst ys)):dq (upd H r o) xs ps:=az.imp (λ_ _ x=>x.fr hr) h
noncomputable def kj(k:Str)(t:Int)(p:Pa):Bool:=decide (p.1=k) && decide (p.2.1=t)
noncomputable def sel(ps:List Pa)(k:Str)(t:Int):List S2:=(ps.filter (kj k t)).map (·.2.2)
noncomputable def hasB(n:Int)(k:Str)(t:Int):Bool:=if k = "step" then decide (0<=t/\t<n) && decide (0<=t+1/\t+1<n) else decide (k = "at") && decide (0<=t/\t<n)
def eY(n:Int)(ps:List Pa):Prop:=∀ p∈ps,hasB n p.1 p.2.1=true
theorem Si{n t:Int}{k:Str}(h:k ≠ "step"):hasB n k t=true↔k = "at" /\ 0<=t/\t<n:=by unfold hasB;rw[if_neg h];simp only[acL,decide_eq_true_eq]
noncomputable def fk(cs:List Int)(k:Str)(t:Int):Int:=if k = "step" then cs.getD (t+1).toNat 0-cs.getD t.toNat 0 else cs.getD t.toNat 0
noncomputable def c8(cs:List Int)(ps:List Pa):Bool:=ps.all λp=>hold p.2.2.1 p.2.2.2 (fk cs p.1 p.2.1)
theorem int_at{cs:List Int}{t:Int}(h0:0<=t)(h1:t<(cs.length:Int)):dm (cs.map V.int) t=some (.int (cs.getD t.toNat 0)):=by
 have e:t=((t.toNat:Nat):Int):=by lia
 refine (congrArg (dm _) e).trans (eL ?_);rw[abh,aa1,aa3 (by lia)];rfl
structure Gd(n:Nat)(d:aew):Prop where
 eqv:adK d d=true
 lay:d.canLay0=true
 dep:d.depth<=n
theorem Gd.up(h:Gd n d)(hm:n<=m):Gd m d:=⟨h.eqv,h.lay,abb h.dep hm⟩
theorem Gd.of(h:iJ n d=true):Gd n d:=let ⟨a,b,c⟩:=Gq d h;⟨a,b,c⟩
theorem Gd.str(h:adV x=true):Gd 0 (.str x):=⟨by simp[adK],by simpa [aeI] using h,aba _⟩
theorem Gd.int(i:Int):Gd 0 (.int i):=.of rfl
theorem Gd.all:∀ {ds:List aew} {n:Nat},(∀ d∈ds,Gd n d)->af5 ds ds=true/\aeE ds=true/\afh ds<=n
 | [],n,_=>⟨rfl,rfl,abt _⟩
 | d::ds,n,h=>by obtain⟨a,b,c⟩:=h d (.head _);obtain⟨a',b',c'⟩:=Gd.all (ds:=ds) λx hx=>h x (.tail _ hx);exact⟨by simp only[af5,a,a',af6],by simp only[aeE,b,b',af6],by simp only[afh];lia⟩
theorem Gd.lst(h:∀ d∈ds,Gd n d):Gd (n+1) (.list ds):=by obtain⟨a,b,c⟩:=Gd.all h;exact⟨by simpa only [adK] using a,by simpa only [aeI] using b,by simp only[PyData.depth];lia⟩
theorem Gd.tup(h:∀ d∈ds,Gd n d):Gd (n+1) (.tuple ds):=by obtain⟨a,b,c⟩:=Gd.all h;exact⟨by simpa only [adK] using a,by simpa only [aeI] using b,by simp only[PyData.depth];lia⟩
theorem zI{K:aa0}{H:Hp}{x y:V}{d:aew}{n:Nat}{neg:Bool}{Q:VK}(hx:Dat K H x d)(hy:Dat K H y d)(g:Gd n d)(hn:n<=60)(q:Q (.bl (!neg)) H):zo K neg x y H Q:=by refine⟨d,d,hx,hy,g.lay,g.lay,abb g.dep hn,?_⟩;rw[g.eqv];cases neg<;>exact q
theorem Sj(s:S2):Gd 1 (zx s):=.of (by
 obtain⟨a,b⟩:=s;cases a<;>cases b<;>rfl)
theorem ke.zJ{α:Type}{K:aa0}{H:Hp}{R:V->α->Prop}{f:α->aew}(h:∀ v a,R v a->Dat K H v (f a)):∀ {xs:List V} {as:List α},az R xs as->ke K H xs (as.map f)
 | [],[],_=>.nil
 | _::_,_::_,r=>.cons (h _ _ r.1) (ke.zJ h r.2)
 | [],_::_,r=>r.elim
 | _::_,[],r=>r.elim
noncomputable def zK(p:Pa):aew:=.tuple [.str p.1,.int p.2.1,zx p.2.2]
theorem eX.dat{K:aa0}{H:Hp}{v:V}{p:Pa}(h:eX H v p):Dat K H v (zK p):=by obtain⟨t,q,rfl,a,b⟩:=h;exact .tup (ah.of a) (.cons (.str _) (.cons (.int _) (.cons (aM.dat ⟨q,rfl,b⟩) .nil)))
theorem Sk(h:adV p.1=true):Gd 2 (zK p):=.tup λd hd=>by
 simp only[abl,adH,or_false] at hd;rcases hd with rfl|rfl|rfl
 .exact (Gd.str h).up (by decide)
 .exact (Gd.int _).up (by decide)
 .exact Sj _
theorem nO(bK:Ok H):∀ {xs:List V} {as:List α} {ys:List V},az R xs as ->
 (∀ x a,R x a->∀ Q,Q (p a) H->tt (some x::ρ) H Q)->(∀ x a,p a=true->R x a->∀ Q:VK,(∀ y,R' y (f a)->Q y H)->te (some x::ρ) H Q)->(∀ zs,az R' zs ((as.filter p).map f)->Q' (ys++zs) H)->el Ok ρ tt te xs ys H Q'
 | [],[],ys,_,_,_,q=>⟨bK,by simpa using q [] trivial⟩
 | x::xs,a::as,ys,h,ht,he,q=>by
  refine⟨bK,ht x a h.1 _ ?_⟩;by_cases hb:p a=true
  .rw[if_pos hb];refine he x a hb h.1 _ λy ry=>nO bK h.2 ht he λzs hz=>?_;have:=q (y::zs) (by rw[abK,if_pos hb];exact⟨ry,hz⟩);simpa using this
  .rw[if_neg hb];refine nO bK h.2 ht he λzs hz=>q zs ?_;rw[abK,if_neg hb];exact hz
 | [],_::_,_,h,_,_,_=>h.elim
 | _::_,[],_,h,_,_,_=>h.elim
theorem Sl{K:aa0}{i j k:Nat}{p:abd}{x y z:V}{σ:L2.St}{H:Hp}{Q:L2.St->Hp->Prop}(h:ah K H p [x,y,z])(q:Q (((σ.set i (some x)).set j (some y)).set k (some z)) H):iA K 3 (cB (bX i) (cB (bX j) (cB (bX k) gR))) (.ref p) σ H Q :=
 ⟨p,_,rfl,h,rfl,_,_,rfl,_,_,rfl,_,_,rfl,rfl,q⟩
end Gz
namespace Gz
open PySem L2
def bF(s:S2)(x:Int):Prop:=(∀ a,s.1=some a->a<=x)/\∀ b,s.2=some b->x<=b
def dA(w:W2)(x:Int):Prop:=∃ s,w=some s/\bF s x
theorem zL:bF s x↔hold s.1 s.2 x=true:=vT.symm
theorem zM:bF (dR a.1 b.1,dS a.2 b.2) x↔bF a x/\bF b x:=by obtain⟨a1,a2⟩:=a;obtain⟨b1,b2⟩:=b;unfold bF;rcases a1 with _|p<;>rcases a2 with _|q<;>rcases b1 with _|r<;>rcases b2 with _|s<;>simp[dR,dS]<;>(try split)<;>(try split)<;>lia
theorem HF:∀ {e:S2},bF (bh e ss) x↔bF e x/\∀ s∈ss,bF s x:=by
 induction ss with
 | nil=>intro e;exact⟨λh=>⟨h,λ_ z=>nomatch z⟩,λh=>h.1⟩
 | cons s ss ih =>
  intro e;rw[v3,ih,zM];simp only[abl,forall_eq_or_imp,and_assoc]
theorem Sm(h:aT s.1 s.2=false):∃ x,bF s x:=by
 obtain⟨a,b⟩:=s;rcases a with _|a<;>rcases b with _|b
 .exact⟨0,λ_ z=>(nomatch z),λ_ z=>(nomatch z)⟩
 .exact⟨b,λ_ z=>(nomatch z),λ_ z=>by cases z;exact ach _⟩
 .exact⟨a,λ_ z=>by cases z;exact ach _,λ_ z=>(nomatch z)⟩
 .refine⟨a,λ_ z=>by cases z;exact ach _,λ_ z=>?_⟩;cases z;simp[aT] at h;exact h
theorem HG(h:bF s x):aT s.1 s.2=false:=by
 obtain⟨a,b⟩:=s;rcases a with _|a<;>rcases b with _|b
 .rfl
 .rfl
 .rfl
 .have h1:=h.1 a rfl;have h2:=h.2 b rfl;simp[aT];lia
noncomputable def iN(a b:S2):W2:=if aT (dR a.1 b.1) (dS a.2 b.2)=true then none else some (dR a.1 b.1,dS a.2 b.2)
theorem pV:dA (iN a b) x↔bF a x/\bF b x:=by
 unfold iN;constructor
 .rintro ⟨s,e,h⟩;split at e
  .cases e
  .cases e;exact zM.mp h
 .intro h;have h:=zM.mpr h;rw[if_neg (by rw[HG h];simp)];exact⟨_,rfl,h⟩
theorem HH(h:iN a b=some s):aT s.1 s.2=false:=by
 unfold iN at h;split at h
 .cases h
 .rename_i hc;cases h;simpa using hc
theorem zN:dA (fN (none,none) ss) x ↔ ∀ s∈ss,bF s x:=by
 have e0:bF (none,none) x:=⟨λ_ z=>(nomatch z),λ_ z=>(nomatch z)⟩
 unfold fN;constructor
 .rintro ⟨s,e,h⟩;split at e
  .cases e
  .cases e;exact (HF.mp h).2
 .intro h;have h:=HF.mpr ⟨e0,h⟩;rw[if_neg (by rw[HG h];simp)];exact⟨_,rfl,h⟩
noncomputable def fo(s:S2)(p:P2):S2:=(s.1.map (· + p.1),s.2.map (· + p.2))
theorem zO(h:bF s x)(h1:p.1<=y-x)(h2:y-x<=p.2):bF (fo s p) y:=by
 obtain⟨a,b⟩:=s;refine⟨λz e=>?_,λz e=>?_⟩
 .obtain⟨a,ea,rfl⟩:=abF.mp (show a.map (· + p.1)=some z from e);have:=h.1 a ea;lia
 .obtain⟨b,eb,rfl⟩:=abF.mp (show b.map (· + p.2)=some z from e);have:=h.2 b eb;lia
theorem Sn(hs:aT s.1 s.2=false)(hp:p.1<=p.2)(h:bF (fo s p) y):∃ x,bF s x/\p.1<=y-x/\y-x<=p.2:=by
 obtain⟨a,b⟩:=s;rcases a with _|a<;>rcases b with _|b
 .exact⟨y-p.1,⟨λ_ z=>(nomatch z),λ_ z=>(nomatch z)⟩,by lia,by lia⟩
 .have h2:=h.2 (b+p.2) rfl;exact⟨y-p.2,⟨λ_ z=>(nomatch z),λ_ z=>by cases z;lia⟩,by lia,by lia⟩
 .have h1:=h.1 (a+p.1) rfl;exact⟨y-p.1,⟨λ_ z=>by cases z;lia,λ_ z=>(nomatch z)⟩,by lia,by lia⟩
 .have h1:=h.1 (a+p.1) rfl;have h2:=h.2 (b+p.2) rfl;simp[aT] at hs;by_cases hc:a<=y-p.2
  .exact⟨y-p.2,⟨λ_ z=>by cases z;lia,λ_ z=>by cases z;lia⟩,by lia,by lia⟩
  .exact⟨a,⟨λ_ z=>by cases z;lia,λ_ z=>by cases z;lia⟩,by lia,by lia⟩
noncomputable def bq(bx:Nat->W2)(st:Nat->P2):Nat->W2
 | 0=>bx 0
 | t+1=>match bx (t+1),bq bx st t with
  | some b,some k=>iN b (fo k (st t))
  | _,_=>none
def rY(w:W2):Prop:=∀ s,w=some s->aT s.1 s.2=false
theorem v5(h0:rY (bx 0)):∀ t,rY (bq bx st t)
 | 0=>h0
 | t+1=>λs e=>by
  unfold bq at e;split at e
  .exact HH e
  .cases e
theorem HI(h:bq bx st (t+1)=some s):∃ b k,bx (t+1)=some b/\bq bx st t=some k/\iN b (fo k (st t))=some s:=by
 unfold bq at h;split at h
 .rename_i b k e1 e2;exact⟨b,k,e1,e2,h⟩
 .cases h
theorem HJ{bx:Nat->W2}{st:Nat->P2}{c:Nat->Int}{n:Nat}(hb:∀ t,t<=n->dA (bx t) (c t))(hs:∀ t,t<n->(st t).1<=c (t+1)-c t/\c (t+1)-c t<=(st t).2):∀ t,t<=n->dA (bq bx st t) (c t)
 | 0,h=>hb 0 h
 | t+1,h=>by obtain⟨k,ek,hk⟩:=HJ hb hs t (by lia);obtain⟨b,eb,zP⟩:=hb (t+1) h;obtain⟨h1,h2⟩:=hs t (by lia);unfold bq;rw[eb,ek];exact pV.mpr ⟨zP,zO hk h1 h2⟩
theorem zQ:∀ {t:Nat},dA (bq bx st t) x->dA (bx t) x
 | 0,h=>h
 | t+1,⟨s,e,h⟩=>by obtain⟨b,k,e1,_,e3⟩:=HI e;exact⟨b,e1,(pV.mp ⟨s,e3,h⟩).1⟩
theorem HK(h0:rY (bx 0))(hp:(st t).1<=(st t).2)(h:dA (bq bx st (t+1)) y):∃ x,dA (bq bx st t) x/\(st t).1<=y-x/\y-x<=(st t).2:=by obtain⟨s,e,h⟩:=h;obtain⟨b,k,_,e2,e3⟩:=HI e;obtain⟨x,hx,h1,h2⟩:=Sn (v5 h0 t k e2) hp (pV.mp ⟨s,e3,h⟩).2;exact⟨x,⟨k,e2,hx⟩,h1,h2⟩
noncomputable def iO(n:Nat)(st:Nat->P2)(t:Nat):P2:=(-(st (n-1-t)).2,-(st (n-1-t)).1)
noncomputable def gC(n:Nat)(bx:Nat->W2)(st:Nat->P2)(t:Nat):W2:=bq (λk=>bq bx st (n-k)) (iO n st) (n-t)
structure v7(n:Nat)(bx:Nat->W2)(st:Nat->P2):Prop where
 ok:∀ t,t<=n->∃ s,gC n bx st t=some s/\aT s.1 s.2=false
 sub:∀ t x,t<=n->dA (gC n bx st t) x->dA (bx t) x
 next:∀ t x,t<n->dA (gC n bx st t) x->∃ y,dA (gC n bx st (t+1)) y/\(st t).1<=y-x/\y-x<=(st t).2
theorem So(h0:rY (bx 0))(hp:∀ t,t<n->(st t).1<=(st t).2)(hf:∀ t,t<=n->bq bx st t≠none):v7 n bx st:=by
 have zR:=v5 (st:=st) h0;have Sq:∀ k,k<=n->∃ s,bq (λk=>bq bx st (n-k)) (iO n st) k=some s:=by
  intro k
  induction k with
  | zero =>
   intro _;obtain⟨s,e⟩:=afs.mp (hf n (aba _));exact⟨s,e⟩
  | succ k ih =>
   intro hk;obtain⟨s,e⟩:=ih (by lia);obtain⟨y,hy⟩:=Sm (v5 (bx:=λk=>bq bx st (n-k)) (zR n) k s e);have HL:dA (bq bx st (n-k)) y:=zQ (bx:=λk=>bq bx st (n-k)) ⟨s,e,hy⟩;rw[show n-k=n-(k+1)+1 by lia] at HL;obtain⟨x,⟨f,ef,hx⟩,h1,h2⟩:=HK h0 (hp _ (by lia)) HL;have em:n-1-k=n-(k+1):=by lia
   have hm:bF (fo s (iO n st k)) x:=zO hy (by unfold iO;rw[em];dsimp only;lia) (by unfold iO;rw[em];dsimp only;lia);obtain⟨z,ez,_⟩:=pV.mpr ⟨hx,hm⟩;refine⟨z,?_⟩;unfold bq;rw[e];show (match bq bx st (n-(k+1)),some s with
    | some b,some Sr=>iN b (fo Sr (iO n st k))
    | _,_=>none)=some z
   rw[ef];exact ez
 refine⟨λt ht=>?_,λt x ht h=>?_,λt x ht h=>?_⟩
 .obtain⟨s,e⟩:=Sq (n-t) (by lia);exact⟨s,e,v5 (bx:=λk=>bq bx st (n-k)) (zR n) _ s e⟩
 .have:=zQ (bx:=λk=>bq bx st (n-k)) h;rw[show n-(n-t)=t by lia] at this;exact zQ this
 .unfold gC at h;rw[show n-t=n-(t+1)+1 by lia] at h;have hb:(iO n st (n-(t+1))).1<=(iO n st (n-(t+1))).2:=by unfold iO;have:=hp (n-1-(n-(t+1))) (by lia);dsimp only;lia
  obtain⟨y,hy,h1,h2⟩:=HK (bx:=λk=>bq bx st (n-k)) (zR n) hb h;have em:n-1-(n-(t+1))=t:=by lia
  unfold iO at h1 h2;rw[em] at h1 h2;dsimp only at h1 h2;exact⟨y,hy,by lia,by lia⟩
def iP(ps:List P2)(c:Nat->Int):Prop:=∀ k,k<ps.length->(aF ps k).1<=c (k+1)-c k/\c (k+1)-c k<=(aF ps k).2
theorem zS(h:iP ps c):∀ n,i+n<=ps.length->pre (·.1) ps (i+n)-pre (·.1) ps i<=c (i+n)-c i/\c (i+n)-c i<=pre (·.2) ps (i+n)-pre (·.2) ps i
 | 0,_=>by simp
 | n+1,hn=>by have ih:=zS h (i:=i) n (by lia);have hk:=h (i+n) (by lia);rw[show i+(n+1)=(i+n)+1 by lia,gB _ ps (by lia),gB _ ps (by lia)];lia
theorem Ss(h:iP ps c)(hi:i<=ps.length)(hj:j<=ps.length):c j-c i<=bM ps i j:=by
 unfold bM;split
 .have:=(zS h (i:=i) (j-i) (by lia)).2
  rwa [show i+(j-i)=j by lia] at this
 .have:=(zS h (i:=j) (i-j) (by lia)).1;rw[show j+(i-j)=i by lia] at this;lia
abbrev Mk:=Nat × S2
def meets(ms:List Mk)(c:Nat->Int):Prop:=∀ m∈ms,bF m.2 (c m.1)
structure lx(ps:List P2)(ms:List Mk)(tp:Nat->Option P2):Prop where
 val:∀ t v k,t<=ps.length->tp t=some (v,k)->∃ (i:Nat) (m:Mk) (h:Int),k=(i:Int)/\ms[i]?=some m/\m.2.2=some h/\h+bM ps m.1 t<=v
 top:∀ m∈ms,∀ h,m.2.2=some h->∃ v k,tp m.1=some (v,k)/\v<=h
 fwd:∀ t v k,t<ps.length->tp t=some (v,k)->∃ v' k',tp (t+1)=some (v',k')/\v'<=v+(aF ps t).2
 bwd:∀ t v k,t<ps.length->tp (t+1)=some (v,k)->∃ v' k',tp t=some (v',k')/\v'<=v-(aF ps t).1
def rZ(ms:List Mk)(tp:Nat->Option P2):Prop:=∀ m∈ms,∀ l v k,m.2.1=some l->tp m.1=some (v,k)->l<=v
theorem Su(hp:eW ps)(hm:∀ m∈ms,m.1<=ps.length)(T:lx ps ms tp)(hn:rZ ms tp):∃ c,iP ps c/\meets ms c:=by
 by_cases h0:tp 0=none
 .have Sv:∀ t,t<=ps.length->tp t=none:=by
   intro t
   induction t with
   | zero=>intro _;exact h0
   | succ t ih =>
    intro ht;cases e:tp (t+1) with
    | none=>rfl
    | some q =>
     obtain⟨v,k⟩:=q;obtain⟨v',k',e',_⟩:=T.bwd t v k (by lia) e;rw[ih (by lia)] at e';cases e'
  have Sw:∀ m∈ms,m.2.2=none:=λm dh=>by
   cases e:m.2.2 with
   | none=>rfl
   | some h =>
    obtain⟨v,k,e',_⟩:=T.top m dh h e;rw[Sv m.1 (hm m dh)] at e';cases e'
  have big:∀ (l:List Mk),∃ M:Int,∀ m∈l,∀ a,m.2.1=some a->a<=M+pre (·.1) ps m.1:=by
   intro l
   induction l with
   | nil=>exact⟨0,λ_ z=>nomatch z⟩
   | cons m l ih =>
    obtain⟨M,hM⟩:=ih;cases e:m.2.1 with
    | none =>
     refine⟨M,λq hq a ha=>?_⟩;rcases abl.mp hq with rfl|hq
     .rw[e] at ha;cases ha
     .exact hM q hq a ha
    | some b =>
     refine⟨if M<=b-pre (·.1) ps m.1 then b-pre (·.1) ps m.1 else M,λq hq a ha=>?_⟩;rcases abl.mp hq with rfl|hq
     .rw[e] at ha;cases ha;split<;>lia
     .have:=hM q hq a ha;split<;>lia
  obtain⟨M,hM⟩:=big ms;refine⟨λt=>M+pre (·.1) ps t,λk hk=>?_,λm dh=>⟨λa ha=>hM m dh a ha,λb hb=>?_⟩⟩
  .have:=hp _ (pw hk);dsimp only;rw[gB _ ps hk];lia
  .rw[Sw m dh] at hb;cases hb
 .have HM:∀ t,t<=ps.length->∃ v k,tp t=some (v,k):=by
   intro t
   induction t with
   | zero =>
    intro _;obtain⟨⟨v,k⟩,e⟩:=afs.mp h0;exact⟨v,k,e⟩
   | succ t ih =>
    intro ht;obtain⟨v,k,e⟩:=ih (by lia);obtain⟨v',k',e',_⟩:=T.fwd t v k (by lia) e;exact⟨v',k',e'⟩
  refine⟨λt=>((tp t).map (·.1)).getD 0,λk hk=>?_,λm dh=>⟨λa ha=>?_,λb hb=>?_⟩⟩
  .obtain⟨v,q,e⟩:=HM k (by lia);obtain⟨v',q',e',h1⟩:=T.fwd k v q hk e;obtain⟨v2,q2,e2,h2⟩:=T.bwd k v' q' hk e';rw[e] at e2;cases e2;dsimp only;rw[e,e'];simp only[Option.map_some,aeb];lia
  .obtain⟨v,q,e⟩:=HM m.1 (hm m dh);have:=hn m dh a v q ha e;dsimp only;rw[e];exact this
  .obtain⟨v,q,e,h1⟩:=T.top m dh b hb;dsimp only;rw[e];exact h1
def clash(ps:List P2)(a b:Mk):Prop:=∃ h l,a.2.2=some h/\b.2.1=some l/\h+bM ps a.1 b.1<l
theorem Sx(hc:iP ps c)(hm:meets ms c)(ht:∀ m∈ms,m.1<=ps.length)(ha:a∈ms)(hb:b∈ms):¬ clash ps a b:=by rintro ⟨h,l,e1,e2,aU⟩;have h1:=(hm a ha).2 h e1;have h2:=(hm b hb).1 l e2;have h3:=Ss hc (ht a ha) (ht b hb);lia
noncomputable def fO(a b:P2):Bool:=decide (a.1<b.1) || (decide (a.1=b.1) && decide (a.2<b.2))
noncomputable def fP(a b:P2):P2:=if fO b a=true then b else a
noncomputable def km:Option P2->Option P2->Option P2
 | none,b=>b
 | some a,none=>some a
 | some a,some b=>some (fP a b)
theorem zT(a b:P2):(fP a b=a∨fP a b=b)/\(fP a b).1<=a.1/\(fP a b).1<=b.1:=by
 unfold fP fO;split
 .rename_i h;simp only[afg,acL,decide_eq_true_eq] at h;exact⟨.inr rfl,by lia,by lia⟩
 .rename_i h;simp only[afg,acL,decide_eq_true_eq,not_or,not_and] at h;exact⟨.inl rfl,by lia,by lia⟩
theorem HN(a b:Option P2):km a b=a∨km a b=b:=by
 rcases a with _|a<;>rcases b with _|b
 .exact .inl rfl
 .exact .inr rfl
 .exact .inl rfl
 .show some (fP a b)=some a∨some (fP a b)=some b;rcases (zT a b).1 with h|h<;>rw[h]
  .exact .inl rfl
  .exact .inr rfl
def fq(a:Option P2)(v:Int):Prop:=∃ w k,a=some (w,k)/\w<=v
theorem Sy(h:fq a v):fq (km a b) v:=by
 obtain⟨w,k,rfl,hw⟩:=h;rcases b with _|b
 .exact⟨w,k,rfl,hw⟩
 .have:=(zT (w,k) b).2.1;exact⟨(fP (w,k) b).1,(fP (w,k) b).2,rfl,by dsimp only at this;lia⟩
theorem zU(h:fq b v):fq (km a b) v:=by
 obtain⟨w,k,rfl,hw⟩:=h;rcases a with _|a
 .exact⟨w,k,rfl,hw⟩
 .have:=(zT a (w,k)).2.2;exact⟨(fP a (w,k)).1,(fP a (w,k)).2,rfl,by dsimp only at this;lia⟩
noncomputable def pW(a:Option P2)(Sz:Int):Option P2:=a.map λq=>(q.1+Sz,q.2)
theorem HP(h:fq a v):fq (pW a b) (v+b):=by obtain⟨w,k,rfl,hw⟩:=h;exact⟨w+b,k,rfl,by lia⟩
def gD(ps:List P2)(ms:List Mk)(t:Nat)(a:Option P2):Prop:=∀ v k,a=some (v,k)->∃ (i:Nat) (m:Mk) (h:Int),k=(i:Int)/\ms[i]?=some m/\m.2.2=some h/\h+bM ps m.1 t<=v
theorem gD.zV(ha:gD ps ms t a)(hb:gD ps ms t b):gD ps ms t (km a b):=by
 rcases HN a b with h|h<;>rw[h]
 .exact ha
 .exact hb
theorem SA(ps:List P2)(t:Nat):bM ps t t=0:=by unfold bM;rw[if_pos (aba _)];lia
theorem SD(h:t<ps.length):bM ps t (t+1)=(aF ps t).2:=by unfold bM;rw[if_pos (afd _),gB _ ps h];lia
theorem SE(h:t<ps.length):bM ps (t+1) t = -(aF ps t).1:=by unfold bM;rw[if_neg (by lia),gB _ ps h];lia
theorem gD.lift(hp:eW ps)(hm:∀ m∈ms,m.1<=ps.length)(ht:t<=ps.length)(hu:u<=ps.length)(hb:bM ps t u=b)(h:gD ps ms t a):gD ps ms u (pW a b):=by intro v k e;obtain⟨⟨w,q⟩,ea,e⟩:=abF.mp e;cases e;obtain⟨i,m,x,e1,e2,e3,hx⟩:=h w q ea;refine⟨i,m,x,e1,e2,e3,?_⟩;have:=Rt hp (hm m (abi e2)) hu ht;dsimp only;lia
noncomputable def ko(tp:Nat->Option P2)(i:Nat)(x:Option P2):Nat->Option P2:=λt=>if t=i then x else tp t
theorem nQ:ko tp i x i=x:=if_pos rfl
theorem lA(h:t≠i):ko tp i x t=tp t:=if_neg h
theorem HQ(h:∀ t,t<=ps.length->gD ps ms t (tp t))(hx:gD ps ms i x):∀ t,t<=ps.length->gD ps ms t (ko tp i x t):=λt ht=>by
 by_cases e:t=i
 .subst e;rw[nQ];exact hx
 .rw[lA e];exact h t ht
theorem v8(h:fq (tp t) v):fq (ko tp i (km (tp i) b) t) v:=by
 by_cases e:t=i
 .subst e;rw[nQ];exact Sy h
 .rw[lA e];exact h
structure T1(ps:List P2)(ms:List Mk)(j:Nat)(tp:Nat->Option P2):Prop where
 val:∀ t,t<=ps.length->gD ps ms t (tp t)
 top:∀ m∈ms.take j,∀ h,m.2.2=some h->fq (tp m.1) h
theorem T1.nil:T1 ps ms 0 λ_=>none:=⟨λ_ _ _ _ e=>(nomatch e),λ_ h=>by simp at h⟩
theorem T1.skip(T:T1 ps ms j tp)(hm:ms[j]?=some m)(hn:m.2.2=none):T1 ps ms (j+1) tp:=⟨T.val,λq hq h e=>by
 rw[ab9,hm] at hq;rcases abD.mp hq with z|z
 .exact T.top q z h e
 .obtain rfl:q=m:=by simpa using z
  rw[hn] at e;cases e⟩
theorem T1.put(T:T1 ps ms j tp)(hm:ms[j]?=some m)(hh:m.2.2=some h):T1 ps ms (j+1) (ko tp m.1 (km (tp m.1) (some (h,(j:Int))))):=by
 have hv:gD ps ms m.1 (some (h,(j:Int))):=λv k e=>by cases e;exact⟨j,m,h,rfl,hm,hh,by rw[SA];lia⟩
 refine⟨λt ht=>?_,λq hq x e=>?_⟩
 .by_cases e:t=m.1
  .subst e;rw[nQ];exact (T.val _ ht).zV hv
  .rw[lA e];exact T.val t ht
 .rw[ab9,hm] at hq;rcases abD.mp hq with z|z
  .exact v8 (T.top q z x e)
  .obtain rfl:q=m:=by simpa using z
   rw[hh] at e;cases e;rw[nQ];exact zU ⟨h,j,rfl,ach _⟩
structure T2(ps:List P2)(ms:List Mk)(j:Nat)(tp:Nat->Option P2):Prop where
 val:∀ t,t<=ps.length->gD ps ms t (tp t)
 top:∀ m∈ms,∀ h,m.2.2=some h->fq (tp m.1) h
 fwd:∀ t,t<j->∀ v,fq (tp t) v->fq (tp (t+1)) (v+(aF ps t).2)
theorem T1.two(T:T1 ps ms ms.length tp):T2 ps ms 0 tp:=⟨T.val,λm h=>T.top m (by rw[ab5];exact h),λ_ h=>absurd h (acQ _)⟩
theorem T2.step(hp:eW ps)(hm:∀ m∈ms,m.1<=ps.length)(hj:j<ps.length)(T:T2 ps ms j tp):T2 ps ms (j+1) (ko tp (j+1) (km (tp (j+1)) (pW (tp j) (aF ps j).2))):=by
 refine⟨HQ T.val ((T.val _ (by lia)).zV ((T.val j (by lia)).lift hp hm (by lia) (by lia) (SD hj))),λm h x e=>v8 (T.top m h x e),λt ht v hv=>?_⟩;rw[lA (by lia)] at hv;by_cases e:t=j
 .subst e;rw[nQ];exact zU (HP hv)
 .rw[lA (by lia)];exact T.fwd t (by lia) v hv
structure T3(ps:List P2)(ms:List Mk)(j:Nat)(tp:Nat->Option P2):Prop where
 val:∀ t,t<=ps.length->gD ps ms t (tp t)
 top:∀ m∈ms,∀ h,m.2.2=some h->fq (tp m.1) h
 fwd:∀ t,t<ps.length->∀ v,fq (tp t) v->fq (tp (t+1)) (v+(aF ps t).2)
 bwd:∀ t,j<=t->t<ps.length->∀ v,fq (tp (t+1)) v->fq (tp t) (v-(aF ps t).1)
theorem T2.three(T:T2 ps ms ps.length tp):T3 ps ms ps.length tp:=⟨T.val,T.top,T.fwd,λt h1 h2=>absurd h2 (by lia)⟩
theorem T3.step(hp:eW ps)(hm:∀ m∈ms,m.1<=ps.length)(hj:j<ps.length)(T:T3 ps ms (j+1) tp):T3 ps ms j (ko tp j (km (tp j) (pW (tp (j+1)) (-(aF ps j).1)))):=by
 have h1:=hp _ (pw hj);refine⟨HQ T.val ((T.val _ (by lia)).zV ((T.val (j+1) (by lia)).lift hp hm (by lia) (by lia) (SE hj))),λm h x e=>v8 (T.top m h x e),λt ht v hv=>?_,λt h2 h3 v hv=>?_⟩
 .by_cases e:t=j
  .subst e;rw[nQ] at hv;rw[lA (by lia)];rcases HN (tp t) (pW (tp (t+1)) (-(aF ps t).1)) with z|z
   .rw[z] at hv;exact T.fwd t ht v hv
   .rw[z] at hv;obtain⟨w,k,e,hw⟩:=hv;obtain⟨⟨w',k'⟩,e1,e2⟩:=abF.mp e;cases e2;exact⟨w',k',e1,by dsimp only at hw;lia⟩
  .rw[lA e] at hv;exact v8 (T.fwd t ht v hv)
 .rw[lA (by lia)] at hv;by_cases e:t=j
  .subst e;rw[nQ];refine zU ?_;have:=HP (b:=-(aF ps t).1) hv
   rwa [show v + -(aF ps t).1=v-(aF ps t).1 by lia] at this
  .rw[lA e];exact T.bwd t (by lia) h3 v hv
theorem T3.tops(T:T3 ps ms 0 tp):lx ps ms tp :=
 ⟨λt v k ht e=>T.val t ht v k e,T.top,λt v k ht e=>T.fwd t ht v ⟨v,k,e,ach _⟩,λt v k ht e=>T.bwd t (abt _) ht v ⟨v,k,e,ach _⟩⟩
theorem lx.clash(T:lx ps ms tp)(hb:b.1<=ps.length)(e:tp b.1=some (v,k))(hl:b.2.1=some l)(hv:v<l):∃ (i:Nat) (a:Mk),k=(i:Int)/\ms[i]?=some a/\clash ps a b:=by obtain⟨i,m,h,e1,e2,e3,h4⟩:=T.val _ v k hb e;exact⟨i,m,e1,e2,h,l,e3,hl,by lia⟩
theorem zW:∀ t,(∀ k,k<=t->bx k=SF k)->(∀ k,k<t->st k=cY k)->bq bx st t=bq SF cY t
 | 0,h,_=>h 0 (aba _)
 | t+1,h,hs=>by unfold bq;rw[h (t+1) (aba _),zW t (λk hk=>h k (by lia)) (λk hk=>hs k (by lia)),hs t (by lia)]
noncomputable def ft(ws:List W2)(t:Nat):W2:=ws.getD t none
noncomputable def cg(ss:List S2)(t:Nat):S2:=ss.getD t (none,none)
noncomputable def atT(ms:List Mk)(t:Nat):List S2:=(ms.filter λm=>decide (m.1=t)).map (·.2)
noncomputable def cG(ms:List Mk)(t:Nat):W2:=fN (none,none) (atT ms t)
theorem HR:dA (cG ms t) x ↔ ∀ m∈ms,m.1=t->bF m.2 x:=by
 unfold cG;rw[zN];unfold atT;constructor
 .intro h m hm e;exact h _ (aa8.mpr ⟨m,abE.mpr ⟨hm,by simpa using e⟩,rfl⟩)
 .intro h s hs;obtain⟨m,hm,rfl⟩:=aa8.mp hs;obtain⟨h1,h2⟩:=abE.mp hm;exact h m h1 (by simpa using h2)
theorem SG(ms:List Mk)(t:Nat):rY (cG ms t):=λs e=>by
 unfold cG fN at e;split at e
 .cases e
 .rename_i h;cases e;simpa using h
theorem SH(hc:iP ps c)(hm:meets ms c):∀ t,t<=ps.length->bq (cG ms) (aF ps) t≠none:=λt ht e=>by obtain⟨s,es,_⟩:=HJ (bx:=cG ms) (st:=aF ps) (c:=c) (n:=ps.length) (λt _=>HR.mpr λm dh e=>by rw[<- e];exact hm m dh) (λt ht=>hc t ht) t ht;rw[e] at es;cases es
theorem HS(hp:eW ps)(hf:∀ t,t<=ps.length->bq (cG ms) (aF ps) t≠none):v7 ps.length (cG ms) (aF ps):=So (SG ms 0) (λt ht=>hp _ (pw ht)) hf
noncomputable def lB(ps:List P2):List P2:=ps.reverse.map λp=>(-p.2,-p.1)
theorem SJ(h:t<ps.length):aF (lB ps) t=iO ps.length (aF ps) t:=by unfold lB iO aF;rw[aa1,abh,adk h,aa1,aa3 (by lia)];rfl
theorem back_eq(hl:ss.length=ps.length+1)(h:∀ t,t<ps.length+1->bq (cG ms) (aF ps) t=some (cg ss t))(ht:t<=ps.length):bq (ft (ss.reverse.map some)) (aF (lB ps)) t=gC ps.length (cG ms) (aF ps) (ps.length-t):=by unfold gC;rw[show ps.length-(ps.length-t)=t by lia];refine zW t (λk hk=>?_) λk hk=>SJ (by lia);rw[h (ps.length-k) (by lia)];unfold ft cg;rw[aa1,abh,adk (by lia),hl,show ps.length+1-1-k=ps.length-k by lia,aa1,aa3 (by lia)];rfl
theorem SK(hl:ss.length=n+1)(ht:t<=n):cg ss.reverse t=cg ss (n-t):=by unfold cg;rw[aa1,adk (by lia),aa1,hl,show n+1-1-t=n-t by lia]
theorem SM(T:v7 ps.length (cG ms) (aF ps))(ht:t<ps.length)(hx:dA (gC ps.length (cG ms) (aF ps) t) x)(hs:gC ps.length (cG ms) (aF ps) (t+1)=some s):∃ r,iN s (fo (some x,some x) (aF ps t))=some r/\∀ y,bF r y->dA (gC ps.length (cG ms) (aF ps) (t+1)) y/\(aF ps t).1<=y-x/\y-x<=(aF ps t).2:=by
 obtain⟨y,⟨s',e',hy⟩,h1,h2⟩:=T.next t x ht hx
 rw[hs] at e';cases e';have xx:bF (some x,some x) x:=⟨λ_ z=>by cases z;exact ach _,λ_ z=>by cases z;exact ach _⟩
 obtain⟨r,er,_⟩:=pV.mpr ⟨hy,zO xx h1 h2⟩;refine⟨r,er,λz hz=>?_⟩;obtain⟨z1,z2⟩:=pV.mp ⟨r,er,hz⟩;refine⟨⟨s,hs,z1⟩,?_⟩;have a:=z2.1 (x+(aF ps t).1) rfl;have b:=z2.2 (x+(aF ps t).2) rfl;lia
noncomputable def bP(cs:List Int)(t:Nat):Int:=cs.getD t 0
theorem meets_of(T:v7 ps.length (cG ms) (aF ps))(hm:∀ m∈ms,m.1<=ps.length)(h:∀ t,t<=ps.length->dA (gC ps.length (cG ms) (aF ps) t) (c t)):meets ms c:=λm dh=>HR.mp (T.sub _ _ (hm m dh) (h _ (hm m dh))) m dh rfl
noncomputable def dX(ts:List (Option P2))(t:Nat):Option P2:=ts.getD t none
theorem SN(h:i<ts.length):dX (ts.set i x)=ko (dX ts) i x:=by
 funext t;unfold dX ko;rw[aa1,List.getElem?_set];by_cases e:t=i
 .subst e;rw[if_pos rfl,if_pos rfl,if_pos h];rfl
 .rw[if_neg (λz=>e z.symm),if_neg e];exact (aa1 ..).symm
theorem SO(n:Nat):dX (adp n none)=λ_=>none:=by funext t;unfold dX;rw[aa1,adC];split<;>rfl
end Gz
namespace Gz
open PySem PySem.Spec PyProof.Rows L2
noncomputable def rowOf(H:Hp):V->List V
 | .ref p=>match H p with
  | some (.tup xs)=>xs
  | _=>[]
 | _=>[]
theorem nR(h:H p=some (.tup xs)):rowOf H (.ref p)=xs:=by
 show (match H p with
  | some (.tup xs)=>xs
  | _=>[])=xs
 rw[h]
def mD(row:V->List V)(tt:TT):TT:=λσ H Q=>match σ with
 | some v::ρ=>tt ((row v).map some++ρ) H Q
 | _=>False
def lC(row:V->List V)(te:TE):TE:=λσ H Q=>match σ with
 | some v::ρ=>te ((row v).map some++ρ) H Q
 | _=>False
section
variable{K:aa0}{ρ:L2.St}{tt:TT}{te:TE}{H:Hp}{Q:VK}{a:abd}{xs:List V}{row:V->List V}
def nT(K:aa0)(a:abd)(xs:List V)(row:V->List V)(k:Nat)(H:Hp):Prop:=ai K H a xs/\∀ x∈xs,∃ p,x = .ref p/\ah K H p (row x)/\(row x).length=k
theorem HU{k:Nat}{g:TG}(hg:∀ (p:abd) (ys:List V) (os:List (Option V)) (H:Hp) (Q:L2.St->Hp->Prop),os.length=k->ys.length=k->ah K H p ys->Q (ys.map some++ρ) H->g (.ref p) (os++ρ) H Q)
 (hn:xs.length<=abu) (h:el (nT K a xs row k) ρ (mD row tt) (lC row te) xs [] H λzs H'=>∀ l,H' l=none->Q (.ref l) (upd H' l (.lst zs))) :
 jd k (i7 K a) g ρ tt te H Q:=by
 refine⟨λi m ys H=>m=xs.length-i/\i<=xs.length/\ys.length<=i/\el (nT K a xs row k) ρ (mD row tt) (lC row te) (xs.drop i) ys H λys H'=>∀ l,H' l=none->Q (.ref l) (upd H' l (.lst ys)),⟨_,rfl,abt _,aba _,h⟩,?_⟩;rintro i m ys H ⟨rfl,hi,hy,c⟩;by_cases aU:i<xs.length
 .have e:=ab8 aU;rw[e] at c;obtain⟨⟨c0,c1⟩,c2⟩:=c;have l1:∀ y:V,(ys++[y]).length<=i+1:=λy=>by rw[abf,abv];lia
  have l2:ys.length<=i+1:=by lia
  refine .inr ⟨⟨xs,_,c0,aa3 aU⟩,by lia,λzs H'=>zs.length<=i+1/\el (nT K a xs row k) ρ (mD row tt) (lC row te) (xs.drop (i+1)) zs H' λys H'=>∀ l,H' l=none->Q (.ref l) (upd H' l (.lst ys)),λzs H' q=>⟨_,by lia,rfl,aU,q.1,q.2⟩,λos nC v H' y=>?_⟩;obtain⟨rfl,ex⟩:=y;have ex:=ex xs c0;rw[aa3 aU] at ex;obtain⟨p,ep,hp,hl⟩:=c1 xs[i] (agg _);cases ex;rw[ep] at hp hl c2 ⊢;refine hg p _ os _ _ nC hl hp ⟨(row (.ref p)).map some,by rw[aa2];exact hl,rfl,?_⟩;simp only[l1,l2,true_and];exact c2
 .have e:i=xs.length:=by lia
  subst e;rw[age] at c;exact .inl ⟨⟨xs,c.1.1,aba _⟩,by lia,c.2⟩
theorem SQ{p:abd}{ys:List V}{os:List (Option V)}{H:Hp}{Q:L2.St->Hp->Prop}(ho:os.length=2)(hy:ys.length=2)(h:ah K H p ys)(q:Q (ys.map some++ρ) H):iA K 2 (cB (bX 0) (cB (bX 1) gR)) (.ref p) (os++ρ) H Q:=by
 match os,ho,ys,hy with
 | [o1,o2],_,[x,y],_=>exact mw h q
theorem SR{p:abd}{ys:List V}{os:List (Option V)}{H:Hp}{Q:L2.St->Hp->Prop}(ho:os.length=3)(hy:ys.length=3)(h:ah K H p ys)(q:Q (ys.map some++ρ) H):iA K 3 (cB (bX 0) (cB (bX 1) (cB (bX 2) gR))) (.ref p) (os++ρ) H Q:=by
 match os,ho,ys,hy with
 | [o1,o2,o3],_,[x,y,z],_=>exact Sl h q
theorem SS(hn:xs.length<=abu)(h:el (nT K a xs row 2) ρ (mD row tt) (lC row te) xs [] H λzs H'=>∀ l,H' l=none->Q (.ref l) (upd H' l (.lst zs))) :
 jd 2 (i7 K a) (iA K 2 (cB (bX 0) (cB (bX 1) gR))) ρ tt te H Q:=HU (λ_ _ _ _ _ ho hy h q=>SQ ho hy h q) hn h
theorem HV(hn:xs.length<=abu)(h:el (nT K a xs row 3) ρ (mD row tt) (lC row te) xs [] H λzs H'=>∀ l,H' l=none->Q (.ref l) (upd H' l (.lst zs))) :
 jd 3 (i7 K a) (iA K 3 (cB (bX 0) (cB (bX 1) (cB (bX 2) gR)))) ρ tt te H Q:=HU (λ_ _ _ _ _ ho hy h q=>SR ho hy h q) hn h
end
theorem wa{α β:Type}{R:Hp->V->α->Prop}{R':Hp->V->β->Prop}{Ok:Hp->Prop}{ρ:L2.St}{tt:TT}{te:TE}{p:α->Bool}{f:α->β}{Q':List V->Hp->Prop}(mono:∀ H H' x a,aj H H'->R H x a->R H' x a)(jh:∀ H H' x a,aj H H'->R' H x a->R' H' x a):∀ {xs:List V} {as:List α} {zs:List V} {bs:List β} {H:Hp},az (R H) xs as->az (R' H) zs bs->(∀ H',aj H H'->Ok H') ->
 (∀ x a,a∈as->∀ H',aj H H'->R H' x a->∀ Q:Bool->Hp->Prop,Q (p a) H'->tt (some x::ρ) H' Q)->(∀ x a,a∈as->p a=true->∀ H',aj H H'->R H' x a->∀ Q:VK,(∀ H2 y,aj H' H2->R' H2 y (f a)->Q y H2)->te (some x::ρ) H' Q)->(∀ H' ws,aj H H'->az (R' H') ws (bs++(as.filter p).map f)->Q' ws H')->el Ok ρ tt te xs zs H Q'
 | [],[],zs,bs,H,_,hz,bK,_,_,q=>⟨bK H (aj.refl H),q H zs (aj.refl H) (by simpa using hz)⟩
 | x::xs,a::as,zs,bs,H,h,hz,bK,ht,he,q=>by
  refine⟨bK H (aj.refl H),ht x a (.head _) H (aj.refl H) h.1 _ ?_⟩;by_cases hp:p a=true
  .rw[if_pos hp];refine he x a (.head _) hp H (aj.refl H) h.1 _ λH2 y s2 ry=>?_;refine wa mono jh (bs:=bs++[f a]) (h.2.imp λ_ _ r=>mono _ _ _ _ s2 r) ((hz.imp λ_ _ r=>jh _ _ _ _ s2 r).snoc ry) (λH' s'=>bK H' (s2.trans s')) (λx b hb H' s'=>ht x b (.tail _ hb) H' (s2.trans s')) (λx b hb hp H' s'=>he x b (.tail _ hb) hp H' (s2.trans s')) λH' ws s' hw=>q H' ws (s2.trans s') ?_;rw[abK,if_pos hp];simpa using hw
  .rw[if_neg hp];refine wa mono jh h.2 hz bK (λx b hb=>ht x b (.tail _ hb)) (λx b hb hp=>he x b (.tail _ hb) hp) λH' ws s' hw=>q H' ws s' ?_;rw[abK,if_neg hp];exact hw
 | [],_::_,_,_,_,h,_,_,_,_,_=>h.elim
 | _::_,[],_,_,_,h,_,_,_,_,_=>h.elim
theorem SU(ar:List aa9):aie ar.toArray none none (some (-1))=ar.reverse.toArray:=by
 have e1:aed none none (some (-1)) ar.toArray.size=(((ar.length:Nat):Int)-1,-1,-1):=by rw[abg];rfl
 unfold aie;rw[e1];dsimp only;have e2:sliceRange (((ar.length:Nat):Int)-1) (-1) (-1)=(abG ar.length).map λk=>ar.length-1-k:=by
  unfold sliceRange;have h1:¬ ((-1:Int) > 0):=by lia
  simp only[h1,if_false];by_cases h:ar.length=0
  .rw[h];rfl
  .rw[if_pos (by lia),show (((ar.length:Nat):Int)-1 - -1 - -1-1) / (- -1)=((ar.length:Nat):Int) by
    rw[show (- (-1:Int))=1 by lia,ajc];lia,abU]
   refine ada λk hk=>?_;have:=acO.mp hk;lia
 rw[e2]
 congr 1
 refine aeF λk=>?_;have key:((abG ar.length).map λk=>ar.length-1-k).filterMap (ar.toArray[·]?)=(abG ar.length).map λk=>ar.getD (ar.length-1-k) .none:=by
  rw[List.filterMap_map];have:∀ (l:List Nat),(∀ k∈l,k<ar.length)->l.filterMap ((λx=>ar.toArray[x]?) ∘ λk=>ar.length-1-k)=l.map λk=>ar.getD (ar.length-1-k) .none:=by
   intro l
   induction l with
   | nil=>intro _;rfl
   | cons k l ih =>
    intro h;have hk:=h k (.head _);rw[ack,abj];have e:((λx=>ar.toArray[x]?) ∘ λk=>ar.length-1-k) k=some (ar.getD (ar.length-1-k) .none):=by show ar.toArray[ar.length-1-k]?=_;rw[List.getElem?_toArray,aa1,aa3 (by lia)];rfl
    rw[e,ih λj hj=>h j (.tail _ hj)]
  exact this _ λk hk=>acO.mp hk
 rw[key];by_cases hk:k<ar.length
 .rw[abh,acA hk,adk hk];simp only[Option.map_some];rw[aa1,aa3 (by lia)];rfl
 .rw[acE (by rw[aa2,abw];lia),acE (by rw[acN];lia)]
section
variable{X:Cx}{e st:aeV}{te ts:TE}{p2 pos:Pos}
def HW(K:aa0)(te ts:TE):TE:=λσ H Q=>te σ H λx H1=>ts σ H1 λy H2=>y = .int (-1)/\∃ a xs,x = .ref a/\ai K H2 a xs/\∀ p,H2 p=none->Q (.ref p) (upd H2 p (.lst xs.reverse))
theorem HX(he:PE X e te)(hs:PE X st ts):PE X (.Subscript e (.Slice none none (some st) p2) pos) (HW X.K te ts):=by intro pins s σ H Q I h;refine ahE (aE (he pins s σ H _ I h) λv s1 zq=>?_);obtain⟨x,H1,I1,r1,q1⟩:=zq;refine wpAny_Slice ?_;rw[ahi];refine aa4 (aa4 ?_);rw[evalPart_some];refine aE (hs pins s1 σ H1 _ I1 q1) λu s2 zq=>?_;obtain⟨y,H2,I2,r2,q2⟩:=zq;obtain⟨rfl,a,xs,rfl,hx,q⟩:=q2;obtain⟨t,rfl⟩:=r2;cases r1;have I4:Inv X pins σ H2 { s2 with heap:=s2.heap.push { cls:=.type "slice",data:=.fields #[.none,.none,.int (-1) t] } }:=I2.kept (t':=s2.toks) λb ob q=>aa5 _ q;obtain⟨ar,r,ht,hz⟩:=I4.list hx;have hlen:=r.length;show abm (model X.prog X.w) X.A (af2 e (.Slice none none (some st) p2) (.ref a) (.ref s2.heap.objs.size)) (EP X pins σ Q) X.xe { s2 with heap:=s2.heap.push { cls:=.type "slice",data:=.fields #[.none,.none,.int (-1) t] } };refine tail_any (ops:=[.ref a,.ref s2.heap.objs.size]) ht.isList.typeIs slot_list_getitem.lookup ?_ (by with_unfolding_all rfl);refine afO ht.isList (Heap.IsSliceOf.new ..) .none .none (.int (-1) t) (by simp) ?_ (by rw[abg];lia);rw[SU];refine⟨.ref _,_,I4.laid (t':=s2.toks) (o:=.lst xs.reverse) (λb ob q=>aa5 _ q) (aba _) ?_,rfl,q _ (I4.ay.fresh (aba _))⟩;exact⟨by rw[acN];exact hz,_,0,r.reverse,abc _ rfl⟩
end
theorem SV{K:aa0}{a:abd}{xs:List V}{ρ:L2.St}{tt:TT}{te:TE}{H:Hp}{Q:VK}(hn:xs.length<=abu)(h:el (λH=>ai K H a xs) ρ tt te xs.reverse [] H λys H'=>∀ l,H' l=none->Q (.ref l) (upd H' l (.lst ys))):mr (vL K a xs.length) ρ tt te H Q:=by
 have hr:xs.reverse.length=xs.length:=acN;refine⟨λi m ys H=>m=xs.length-i/\i<=xs.length/\ys.length<=i/\el (λH=>ai K H a xs) ρ tt te (xs.reverse.drop i) ys H λys H'=>∀ l,H' l=none->Q (.ref l) (upd H' l (.lst ys)),⟨_,rfl,abt _,aba _,h⟩,?_⟩;rintro i m ys H ⟨rfl,hi,hy,g⟩;by_cases aU:i<xs.length
 .have e:=ab8 (show i<xs.reverse.length by lia);rw[e] at g;obtain⟨g0,g1⟩:=g;refine .inr ⟨⟨xs,_,g0,rfl,aa3 (by lia)⟩,by lia,λzs H'=>zs.length<=i+1/\el (λH=>ai K H a xs) ρ tt te (xs.reverse.drop (i+1)) zs H' λys H'=>∀ l,H' l=none->Q (.ref l) (upd H' l (.lst ys)),λzs H' q=>⟨_,by lia,rfl,aU,q.1,q.2⟩,λx H' y=>?_⟩;obtain⟨rfl,ex⟩:=y;have ex:=ex xs g0 rfl;rw[aa3 (by lia)] at ex;cases ex;have l1:∀ y:V,(ys++[y]).length<=i+1:=λy=>by rw[abf,abv];lia
  have l2:ys.length<=i+1:=by lia
  simp only[l1,l2,true_and];exact g1
 .have e:i=xs.length:=by lia
  subst e;rw[aex (by lia)] at g;exact .inl ⟨rfl,by lia,g.2⟩
theorem yC(h:af1 us ns):Vals (ns.map V.int) us:=by
 induction h with
 | nil=>exact .nil
 | cons n t r ih=>exact .cons ⟨t,rfl⟩ ih
theorem zX{β:Type}{R':Hp->V->β->Prop}{Ok:Hp->Prop}{ρ:L2.St}{tt:TT}{te:TE}{p:V × V->Bool}{f:V × V->β}{Q':List V->Hp->Prop}(jh:∀ H H' x a,aj H H'->R' H x a->R' H' x a):∀ {rows:List (V × V)} {H:Hp} {zs:List V} {bs:List β},az (R' H) zs bs->(∀ H',aj H H'->Ok H') ->
 (∀ r∈rows,∀ H',aj H H'->∀ Q,Q (p r) H'->tt (some r.1::some r.2::ρ) H' Q)->(∀ r∈rows,p r=true->∀ H',aj H H'->∀ Q:VK,(∀ dz y,aj H' dz->R' dz y (f r)->Q y dz)->te (some r.1::some r.2::ρ) H' Q) ->
 (∀ H' ws,aj H H'->az (R' H') ws (bs++(rows.filter p).map f)->Q' ws H')->ph Ok ρ tt te rows zs H Q'
 | [],H,zs,bs,hz,bK,_,_,q=>⟨bK H (aj.refl H),q H zs (aj.refl H) (by simpa using hz)⟩
 | (x,y)::r,H,zs,bs,hz,bK,ht,he,q=>by
  refine⟨bK H (aj.refl H),λw hw=>?_⟩;have s:=Gz.ao (o:=.tup [x,y]) hw;refine ht _ (.head _) _ s _ ?_;by_cases hb:p (x,y)=true
  .rw[if_pos hb];refine he _ (.head _) hb _ s _ λH2 v s2 r2=>?_;have S:=s.trans s2;refine zX jh (bs:=bs++[f (x,y)]) ((hz.imp λx a r=>jh _ _ _ _ S r).snoc r2) (λH' s'=>bK H' (S.trans s')) (λz hz H' s'=>ht z (.tail _ hz) H' (S.trans s')) (λz hz hb H' s'=>he z (.tail _ hz) hb H' (S.trans s')) λH' ws s' hw=>q H' ws (S.trans s') ?_;rw[abK,if_pos hb,abj]
   rwa [afS] at hw
  .rw[if_neg hb];refine zX jh (hz.imp λx a r=>jh _ _ _ _ s r) (λH' s'=>bK H' (s.trans s')) (λz hz H' s'=>ht z (.tail _ hz) H' (s.trans s')) (λz hz hb H' s'=>he z (.tail _ hz) hb H' (s.trans s')) λH' ws s' hw=>q H' ws (s.trans s') ?_;rw[abK,if_neg hb];exact hw
abbrev r6(H:Hp)(v:V)(s:S2):Prop:=aM H v s.1 s.2
noncomputable def cellsFrom:En->List Int->List S2
 | lo,[]=>[(lo,none)]
 | lo,z::zs=>(lo,some (z-1))::cellsFrom (some z) zs
noncomputable def lD(c:S2):Int:=match c.1,c.2 with
 | some x,_=>x
 | none,some y=>y
 | none,none=>0
theorem SW(h:GN c):hs c (lD c)=true:=by
 rw[nG];unfold GN at h;rcases c with ⟨_|x,_|y⟩
 .exact⟨λ_ e=>(nomatch e),λ_ e=>(nomatch e)⟩
 .exact⟨λ_ e=>(nomatch e),λ_ e=>by cases e;exact ach _⟩
 .exact⟨λ_ e=>by cases e;exact ach _,λ_ e=>(nomatch e)⟩
 .refine⟨λ_ e=>by cases e;exact ach _,λ_ e=>?_⟩;cases e;show x<=y;simp[aT] at h;lia
theorem HY(es:List Int):(es.map V.int).all kS=true:=by rw[ahY];exact acx.mpr λ_ _=>rfl
theorem zY(a:Int):∀ (es:List Int),rq (.int a) (es.map V.int)=es.contains a
 | []=>rfl
 | e::es=>by
  have ih:=zY a es;unfold rq at *;rw[abj,acw,ih,List.contains_cons]
  congr 1
  show (e == a)=(a == e);rw[adu];simp only[beq_iff_eq];exact eq_comm
theorem HZ{K:aa0}{H1 H':Hp}{l:abd}{ys:List V}{tb:Tb}(hl:H1 l=some (.lst ys))(hM:az (ki H1) ys tb)(s:aj H1 H'):nT K l ys (rowOf H1) 3 H':=by refine⟨ai.of (s _ _ hl),λx hx=>?_⟩;obtain⟨i,hi⟩:=abT.mp hx;obtain⟨m,_,t,p,rfl,h1,h2⟩:=hM.get hi;rw[nR h1];exact⟨t,rfl,ah.of (s _ _ h1),rfl⟩
noncomputable def eN(tb:Tb)(es:List Int):List Mk:=((mz tb).filter λr=>!es.contains r.1.1).map λr=>(r.1.2.toNat,r.2)
theorem map_some:∀ (l:List α),(l.map f).filterMap id=l.filterMap f
 | []=>rfl
 | a::l=>by rw[abj,ack,ack,map_some l];rfl
theorem bB:∀ {l:List α},l.Pairwise R->∀ {p q:α},p∈l->q∈l->p=q∨R p q∨R q p
 | [],_,_,_,h,_=>by cases h
 | x::l,h,p,q,hp,hq=>by
  have h1:=aht.mp h;rcases abl.mp hp with e1|i1<;>rcases abl.mp hq with e2|i2
  .exact .inl (e1.trans e2.symm)
  .rw[e1];exact .inr (.inl (h1.1 q i2))
  .rw[e2];exact .inr (.inr (h1.1 p i1))
  .exact bB h1.2 i1 i2
theorem pX:(mz tb).Perm tb:=pE
local macro_rules | `(tactic| walk_at "o") => `(tactic| ((try simp only [PySem.Addr] at *); lia))
section
end
noncomputable def SX(K:aa0)(a b c:abd):It :=
 ⟨λi H=>∃ xs ys zs x y z,ai K H a xs/\ai K H b ys/\ai K H c zs/\xs[i]?=some x/\ys[i]?=some y/\zs[i]?=some z,λi H v H'=>∃ (p:abd) (x y z:V),v = .ref p/\H p=none/\H'=upd H p (.tup [x,y,z])/\(∀ xs,ai K H a xs->xs[i]?=some x)/\(∀ ys,ai K H b ys->ys[i]?=some y)/\∀ zs,ai K H c zs->zs[i]?=some z,
  λi H=>∃ xs,ai K H a xs/\xs.length<=i⟩
def SY(K:aa0)(ta:TA):TI:=λσ H R=>ta σ H λvs H1=>∃ a b c,vs=[.ref a,.ref b,.ref c]/\(∃ xs,ai K H1 a xs)/\(∃ ys,ai K H1 b ys)/\(∃ zs,ai K H1 c zs)/\R (SX K a b c) H1
section
def Loose:HO->Prop
 | .dT _=>True
 | .aL _ (.dT _)=>True
 | _=>False
theorem Ia(I:Inv X pins σ H s)(e:H a=some u)(lu:Loose u)(h0:∀ o v,X.H₀ a≠some (.aL o v))(new:bN X.prog X.w (upd H a u') s.heap a u'):Inv X pins σ (upd H a u') s:=by
 have nn:∀ b,H b=none->b≠a:=λb h z=>by rw[z,e] at h;cases h
 have nt:∀ b xs,H b=some (.tup xs)->b≠a:=λb xs h z=>by rw[z,e] at h;cases h;exact lu
 have no:∀ b x,H b=some (.own x)->b≠a:=λb x h z=>by rw[z,e] at h;cases h;exact lu
 have nb:∀ b ps,H b=some (.tbl ps)->b≠a:=λb ps h z=>by rw[z,e] at h;cases h;exact lu
 refine⟨I.ok,I.os,I.bare,⟨I.base.keep,I.base.slot,λb o e1 n hx=>?_,I.base.there,λb xs e1=>?_,λb o v e1=>?_,λb ps e1=>?_⟩,I.loc,I.cell,?_,λx c e1=>?_,λp hp=>?_,λb ob e1=>?_,I.len⟩
 .have:=I.base.free b o e1 n hx;rw[aB (nn b this)];exact this
 .have:=I.base.fF b xs e1;rw[aB (nt b xs this)];exact this
 .have:=I.base.eT b o v e1;rw[aB (show b≠a from λz=>h0 o v (by rw[<- z];exact e1))];exact this
 .obtain⟨more,this⟩:=I.base.fG b ps e1;exact⟨more,by rw[aB (nb b _ this)];exact this⟩
 .rw[aB (nn _ I.free)];exact I.free
 .have:=I.fH x c e1;rw[aB (nn c this)];exact this
 .obtain⟨p1,p2,p3⟩:=I.pin p hp;exact⟨p1,by rw[aB (nn _ p2)];exact p2,p3⟩
 .by_cases hb:b=a
  .subst hb;rw[aw] at e1;cases e1;exact new
  .rw[aB hb] at e1;exact (I.ay b ob e1).gp (λ_ _ _ q=>q) (λc h=>by rw[aB (no c _ h)];exact h) λc xs h=>by rw[aB (nt c xs h)];exact h
theorem Tc(I:Inv X pins σ H s)(e:H a=some (.dT kvs)):∃ o,Inv X pins σ (upd H a (.aL o (.dT kvs))) s/\∀ o v,X.H₀ a≠some (.aL o v):=by
 have h0:∀ o v,X.H₀ a≠some (.aL o v):=λo v z=>by have:=I.base.eT a o v z;rw[e] at this;cases this
 have ok:=I.ay a _ e;obtain⟨_,_,_,_,o,_,_,ho,_⟩:=id ok;refine⟨o,Ia I e trivial h0 ⟨ho,ok.gp (λ_ _ _ q=>q) (λc h=>?_) λc xs h=>?_⟩,h0⟩
 .rw[aB λz=>by rw[z,e] at h;cases h];exact h
 .rw[aB λz=>by rw[z,e] at h;cases h];exact h
theorem wb(I:Inv X pins σ H s)(e:H a=some (.aL o (.dT kvs)))(h0:∀ o v,X.H₀ a≠some (.aL o v)):Inv X pins σ (upd H a (.dT kvs)) s:=by
 obtain⟨_,ok⟩:=I.ay a _ e;refine Ia I e trivial h0 (ok.gp (λ_ _ _ q=>q) (λc h=>?_) λc xs h=>?_)
 .rw[aB λz=>by rw[z,e] at h;cases h];exact h
 .rw[aB λz=>by rw[z,e] at h;cases h];exact h
noncomputable def Ib(a:abd)(o:Obj)(kvs:List (List Key × V))(D:Ends):Ends where
 nx:=λσ H=>H a=some (.aL o (.dT kvs))/\D.nx σ (upd H a (.dT kvs))
 rt:=λv H=>H a=some (.aL o (.dT kvs))/\D.rt v (upd H a (.dT kvs))
 bk:=λσ H=>H a=some (.aL o (.dT kvs))/\D.bk σ (upd H a (.dT kvs))
 ct:=λσ H=>H a=some (.aL o (.dT kvs))/\D.ct σ (upd H a (.dT kvs))
def Ic(t:TS):TS:=λD σ H=>∃ a kvs,H a=some (.dT kvs)/\∀ o,t (Ib a o kvs D) σ (upd H a (.aL o (.dT kvs)))
theorem sd{st:acM}{t:TS}(h:PS X st t):PS X st (Ic t):=by
 rintro pins s σ H D I ⟨a,kvs,e,q⟩;obtain⟨o,I1,h0⟩:=Tc I e;refine aE (h pins s σ _ _ I1 (q o)) λf s' hf=>?_;cases f with
 | next=>obtain⟨σ',H',I',e',q'⟩:=hf;exact⟨σ',_,wb I' e' h0,q'⟩
 | brk=>obtain⟨σ',H',I',e',q'⟩:=hf;exact⟨σ',_,wb I' e' h0,q'⟩
 | cont=>obtain⟨σ',H',I',e',q'⟩:=hf;exact⟨σ',_,wb I' e' h0,q'⟩
 | ret v=>obtain⟨v',σ',H',I',r',e',q'⟩:=hf;exact⟨v',σ',_,wb I' e' h0,r',q'⟩
def Td(t:TE):TE:=λσ H Q=>∃ a kvs,H a=some (.dT kvs)/\∀ o,t σ (upd H a (.aL o (.dT kvs))) λv H'=>H' a=some (.aL o (.dT kvs))/\Q v (upd H' a (.dT kvs))
noncomputable def eE(o:Obj):List V:=match o.data with
 | .dict es _=>es.toList.map λe=>match e.key with
  | .ref a=>V.ref a
  | _=>V.non
 | _=>[]
noncomputable def se(a:abd)(o:Obj)(kvs:List (List Key × V)):It where
 go i H:=H a=some (.aL o (.dT kvs))/\i<kvs.length
 yld i H x H':=H'=H/\(eE o)[i]?=some x
 stop i H:=H a=some (.aL o (.dT kvs))/\kvs.length<=i
def zZ(tl:TE):TI:=λσ H R=>tl σ H λx H1=>∃ a o kvs,x = .ref a/\H1 a=some (.aL o (.dT kvs))/\(jk H1 (eE o) kvs->R (se a o kvs) H1)
theorem z4(ok:bW P w H h)(e:H a=some (.aL o (.dT kvs))):∃ (as:List abd) (es:Array ac4) (ep:Nat),jk H (eE o) kvs/\(a == acB)=false/\dW h a es ep/\o.data = .dict es ep/\es.size=kvs.length/\kvs.length<=abu/\∀ i (hi:i<es.size),∃ b,es[i].key = .ref b/\(eE o)[i]?=some (.ref b):=by
 obtain⟨ho,z,lo,xs,rel,o',es,ep,cW,hc,hd,he,hn⟩:=ok a _ e;rw[ho] at cW;cases cW;have hl:xs.length=kvs.length:=(Paired.length rel).symm;have hs:es.size=xs.length:=adT he;have ek:eE o=(xs.map (·.2.1)).map V.ref:=by unfold eE;rw[hd];show es.toList.map _=_;rw[he,abS,abS];exact ada λx _=>rfl
 refine⟨xs.map (·.2.1),es,ep,?_,lo,⟨o,ho,hc,hd⟩,hd,hs.trans hl,z,λi hi=>?_⟩
 .rw[ek];exact KT.Hj rel
 .have hx:i<xs.length:=by lia
  have e1:=entry_at he i;rw[abN hi,aa3 hx] at e1;have e2:es[i]=agM (ae7 (cK P w)) xs[i]:=by simpa using e1
  refine⟨xs[i].2.1,by rw[e2];rfl,?_⟩;rw[ek,abh,abh,aa3 hx];rfl
theorem Te{P:ab1}{w:acz}{K:aa0}{tg:aeV}(a it:abd)(o:Obj)(kvs:List (List Key × V))(bV:a≠it):Turn P w K tg (se a o kvs) [it] it (λi h=>∃ es ep,o.data = .dict es ep/\i<=es.size/\h.IsKeyIter it a i es.size ep) where
 mem:=by simp
 obj:=λi h st b hb=>by
  have e:b=it:=by simpa using hb
  subst e;obtain⟨es,ep,_,_,ob,e,c,d⟩:=st;exact⟨ob,e,λv z=>by rw[d] at z;cases z⟩
 keep:=λi h h' st k=>by obtain⟨es,ep,h1,h2,ob,e,c,d⟩:=st;exact⟨es,ep,h1,h2,ob,k it (by simp) ob e,c,d⟩
 item:=by
  intro X hP hw hK hc i pins s σ H E I hf st hg;subst hP hw hK;obtain⟨e,hi⟩:=hg;obtain⟨es,ep,hd,hle,hit⟩:=st;obtain⟨as,es',kK,hk,lo,raw,i4,hs,hz,gX⟩:=z4 I.ay e;rw[hd] at i4;cases i4;obtain⟨f0,f1,f2,f3,f4,f5⟩:=hf it (by simp);have cR:i<es.size:=by lia
  obtain⟨b,eb,kb⟩:=gX i cR;refine Hd hit raw cR λh' lq sb=>?_;have I1:Inv X pins σ H { s with heap:=h' }:=I.turned (t':=s.toks) (λb o hb e=>(sb.2 b hb).trans e) f0 f1 f3 f4 f5;obtain⟨ob,e1,c1,d1⟩:=id lq;exact⟨es[i].key,rfl,oP (s:={ s with heap:=h' }) e1 c1 d1 (by decide) ⟨.ref b,H,I1,eb,⟨rfl,kb⟩,⟨es,ep,hd,cR,lq⟩,λb hb=>(hf b hb).1⟩⟩
 done:=by
  intro X hP hw hK hc i pins s σ H E I hf st hg;subst hP hw hK;obtain⟨e,hi⟩:=hg;obtain⟨es,ep,hd,hle,hit⟩:=st;obtain⟨as,es',kK,hk,lo,raw,i4,hs,hz,gX⟩:=z4 I.ay e;rw[hd] at i4;cases i4;obtain⟨f0,f1,f2,f3,f4,f5⟩:=hf it (by simp);have ei:i=es.size:=by lia
  subst ei;exact He (I.ok.hd hc) hit raw λh' eb=>⟨rfl,I.turned (t':=s.toks) (λb o hb e=>eb b o hb e) f0 f1 f3 f4 f5⟩
 self:=λ_ _ _ _ _ st h=>by obtain⟨es,ep,_,_,hit⟩:=st;exact agU hit h
theorem sf(hl:PE X l tl):PI X tg l (zZ tl):=by
 intro pins s σ H R I h;refine aE (hl pins s σ H _ I h) λv s1 zq=>?_;obtain⟨x,H1,I1,r1,q1⟩:=zq;obtain⟨a,o,kvs,e,hf,q⟩:=q1;subst e;cases r1;obtain⟨as,es,ep,hk,lo,raw,hd,hs,hz,gX⟩:=z4 I1.ay hf;refine Hc lo raw ?_;refine⟨s1.heap.objs.size,[s1.heap.objs.size],_,_,H1,rfl,I1.kept (t':=s1.toks) λb o e=>aa5 _ e,Te a _ o kvs (abk raw.lt),⟨es,ep,hd,abt _,_,abc _ rfl,rfl,rfl⟩,λb hb=>?_,q hk⟩;have e:b=s1.heap.objs.size:=by simpa using hb
 subst e;exact I1.iB (aba _) (I1.ay.fresh (aba _))
theorem Tf:jX (zZ tl) g tb D σ H=tl σ H (λx H1=>∃ a o kvs,x = .ref a/\H1 a=some (.aL o (.dT kvs))/\(jk H1 (eE o) kvs->FJ (se a o kvs) g tb D σ H1)):=rfl
theorem z5(Pv:Nat->L2.St->Hp->Prop)(hk:eE o=xs)(si:xs.length=kvs.length)(h0:Pv 0 σ H)(hl:∀ i σ H,i<=xs.length->Pv i σ H->H a=some (.aL o (.dT kvs)))(hs:∀ i x σ H,xs[i]?=some x->Pv i σ H->g x σ H λσ2 H2=>tb { D with nx:=Pv (i+1),ct:=Pv (i+1),bk:=D.nx } σ2 H2)(hd:∀ σ H,Pv xs.length σ H->D.nx σ H):FJ (se a o kvs) g tb D σ H:=by
 refine⟨λi m σ H=>m=xs.length-i/\i<=xs.length/\Pv i σ H,⟨xs.length,by simp,abt _,h0⟩,?_⟩;rintro i m σ H ⟨rfl,hi,p⟩;have q:=hl i σ H hi p;by_cases aU:i<xs.length
 .refine .inr ⟨⟨q,by lia⟩,Pv (i+1),λσ' H' p'=>⟨xs.length-(i+1),by lia,rfl,aU,p'⟩,λx H' y=>?_⟩;obtain⟨e,y⟩:=y;subst e;rw[hk] at y;exact hs i x σ _ y p
 .have e:i=xs.length:=by lia
  subst e;exact .inl ⟨⟨q,by lia⟩,hd σ H p⟩
theorem Ie(hk:eE o=xs)(si:xs.length=kvs.length):rJ (se a o kvs) (λH=>H a=some (.aL o (.dT kvs))) xs :=
 ⟨λi _ _ h e=>⟨h,by have:=(aa7.mp e).1;lia⟩,λi _ _ _ _ y=>⟨y.1,λ_=>hk ▸ y.2⟩,λi _ h hi=>⟨h,by lia⟩⟩
end
theorem wc(e:H a=some u)(h:H p=some v)(ne:v≠u):upd H a w p=some v:=by rw[aB (oJ h e ne)];exact h
section
theorem wg(e:H0 a=some (.dT kvs))(s:aj (upd H0 a (.aL o (.dT kvs))) H1):aj H0 (upd H1 a (.dT kvs)):=λb u h=>by
 by_cases hb:b=a
 .subst hb;rw[e] at h;cases h;exact aw
 .rw[aB hb];exact s b u (by rw[aB hb];exact h)
theorem z6(e:H a=some (.dT kvs))(h:H p=some (.tup xs)):upd H a u p=some (.tup xs):=wc e h λz=>nomatch z
theorem Ig(e:H a=some (.dT kvs))(h:H p=some (.lst xs)):upd H a u p=some (.lst xs):=wc e h λz=>nomatch z
theorem Tg(e:H a=some (.aL o (.dT kvs)))(h:H p=some (.lst xs)):upd H a u p=some (.lst xs):=wc e h λz=>nomatch z
theorem aM.aL(h:aM H v x y)(e:H a=some (.dT kvs)):aM (upd H a u) v x y:=let ⟨t,e1,h1⟩:=h;⟨t,e1,z6 e h1⟩
theorem aY.aL(h:aY H kvs tb)(e:H a=some (.dT kvs)):aY (upd H a u) kvs tb:=h.imp λ_ _ _ z=>z.aL e
theorem Ih{K:aa0}{xs:List V}(e:H a=some (.dT kvs))(h:ai K H p xs):ai K (upd H a (.aL o (.dT kvs))) p xs:=by
 rcases h with (h|⟨z,h⟩)|h
 .exact .inl (.inl (Ig e h))
 .exact .inl (.inr ⟨z,wc e h λz=>nomatch z⟩)
 .exact .inr h
end
theorem dU.z(e:H a=some (.aL o (.dT kvs)))(eb:H b=some (.tup (k.map kV))):dU H a (.ref b) (c7 kvs k):=.inr ⟨kvs,k,b,.inr ⟨o,e⟩,rfl,eb,rfl⟩
noncomputable def aK(tb:Tb)(i:Int):List Mk:=((mz tb).filter λr=>decide (r.1.1=i)).map λr=>(r.1.2.toNat,r.2)
theorem jm:k∈aK tb i ↔ ∃ r∈tb,r.1.1=i/\k=(r.1.2.toNat,r.2):=by
 unfold aK;rw[aa8];constructor
 .rintro ⟨r,hr,rfl⟩;obtain⟨h1,h2⟩:=abE.mp hr;exact⟨r,rX h1,by simpa using h2,rfl⟩
 .rintro ⟨r,hr,hn,rfl⟩;exact⟨r,abE.mpr ⟨pX.mem_iff.mpr hr,by simpa using hn⟩,rfl⟩
noncomputable def cM(cs:List Int)(t:Nat):Int:=cs.getD t 0
theorem Th(h:t<cs.length):(cs.map V.int)[t]?=some (V.int (cM cs t)):=by rw[abh,aa3 h];unfold cM;rw[aa1,aa3 h];rfl
section
end
end Gz
namespace Gz
open PySem
theorem slot1{t:aiX}{q:Nat}(hp:t.place = #[q])(hd:t.dummies = #[])(j:Nat):t.slot j=if q=j then .live 0 else .empty:=by
 unfold aiY afw;rw[hp,hd];simp only[SetTable.below,acF,abg,abX,adR];by_cases h:q<j
 .have:q≠j:=by lia
  simp[h,this]
 .by_cases e:q=j<;>simp[h,e]
theorem Ii(hp:t.place = #[q])(hd:t.dummies = #[])(hm:t.mask=7)(hf:∀ i,(f i == h)=false) :
 ∀ (n m:Nat) (p:SetTable.Probe),p.more=0->p.j=p.i->p.dummy=none->p.perturb<32 ^ n->p.i<=7->∃ j,j≠q/\adx t f h (n+(m+2)) p=some (.empty j none)
 | n,m,⟨j,mo,i,pe,du⟩,h1,h2,h3,h4,h5=>by
  dsimp only at h1 h2 h3 h4 h5;subst h1 h3;obtain rfl:i=j:=h2.symm;have ad:t.advance ⟨i,0,i,pe,none⟩=⟨(i * 5+1+pe / 32) % 8,0,(i * 5+1+pe / 32) % 8,pe / 32,none⟩:=by simp[SetTable.advance,SetTable.leap,hm,aiw]
  have le:(i * 5+1+pe / 32) % 8<=7:=by lia
  by_cases e:q=i
  .cases n with
   | zero =>
    have z:(i * 5+1+pe / 32) % 8≠q:=by lia
    refine⟨_,z,?_⟩;rw[show 0+(m+2)=(m+1)+1 by lia,adx,slot1 hp hd,if_pos e];simp only[hf,aby,if_false];rw[ad,adx,slot1 hp hd,if_neg (ab4 z)]
   | succ n =>
    obtain⟨j,j1,j2⟩:=Ii hp hd hm hf n m ⟨_,0,_,pe / 32,none⟩ rfl rfl rfl (by dsimp only;rw[Nat.pow_succ] at h4;exact Nat.div_lt_of_lt_mul (by lia)) le;refine⟨j,j1,?_⟩;rw[show n+1+(m+2)=(n+(m+2))+1 by lia,adx,slot1 hp hd,if_pos e];simp only[hf,aby,if_false];rw[ad];exact j2
  .refine⟨i,ab4 e,?_⟩;rw[show n+(m+2)=(n+m+1)+1 by lia,adx,slot1 hp hd,if_neg e]
structure ie(t:aiX)(L:List (Nat × Int × aa9)):Prop where
 pl:t.place=(L.map (·.1)).toArray
 du:t.dummies = #[]
 ma:t.mask=7
 sh:L=[]∨(∃ a,L=[a]) ∨ ∃ a b,L=[a,b]/\a.1<b.1
section
theorem ie.fits(k:ie t L):t.fits (L.map (·.2)).toArray.size=true:=by obtain⟨h1,h2,h3,h4⟩:=k;rcases h4 with rfl|⟨a,rfl⟩|⟨a,b,rfl,_⟩<;>simp[SetTable.fits,aga,h1,h2,h3]
theorem ie.zero(k:ie t L):SetTable.below t.place 0=0:=by obtain⟨h1,h2,h3,h4⟩:=k;rcases h4 with rfl|⟨a,rfl⟩|⟨a,b,rfl,_⟩<;>simp[h1,SetTable.below,acF]
theorem ie.next(k:ie t L)(hi:i<L.length):SetTable.below t.place (L[i].1+1)=i+1:=by
 obtain⟨h1,h2,h3,h4⟩:=k;rw[h1];rcases h4 with rfl|⟨a,rfl⟩|⟨a,b,rfl,z⟩
 .cases hi
 .obtain rfl:i=0:=by simpa using hi
  simp[SetTable.below,acF]
 .match i,hi with
  | 0,_ =>
   have:¬ b.1<a.1+1:=by lia
   simp[SetTable.below,acF,this]
  | 1,_=>simp[SetTable.below,acF]
theorem ie.free(k:ie t L)(hl:L.length<=1)(h:Int):∃ j,t.freeSlot h=some (j,false)/\j∉L.map (·.1):=by
 obtain⟨h1,h2,h3,h4⟩:=k;rcases h4 with rfl|⟨a,rfl⟩|⟨a,b,rfl,_⟩
 .refine⟨SetTable.bits h % 8,?_,λhx=>nomatch hx⟩;simp[ahM,aiE,aiF,afk,h3,adx,aiY,afw,h1,h2,SetTable.below,acF]
 .have bt:SetTable.bits h<2 ^ 64:=by unfold SetTable.bits;lia
  obtain⟨j,j1,j2⟩:=Ii (q:=a.1) h1 h2 h3 (f:=λ_=>h+1) (h:=h) (λ_=>by simp;lia) 13 205 (t.probeStart h) (by simp[afk,h3,aiw]) rfl rfl (abn bt (by decide)) (by simp only[afk,h3];lia);refine⟨j,?_,by simpa using j1⟩;unfold ahM aiE aiF;rw[h3,j2];rfl
 .simp at hl
theorem ie.put(k:ie t L)(hl:L.length<=1)(hj:j∉L.map (·.1))(h:Int)(x:aa9) :
 ∃ t' p L',t.put j=(t',p)/\ie t' L'/\aeG (L.map (·.2)).toArray p (h,x)=(L'.map (·.2)).toArray/\t'.led=t.led/\t'.plain=t.plain/\t'.fill=L.length+1/\L'.Perm ((j,h,x)::L):=by
 obtain⟨h1,h2,h3,h4⟩:=k;rcases h4 with rfl|⟨a,rfl⟩|⟨a,b,rfl,_⟩
 .refine⟨_,_,[(j,h,x)],rfl,⟨?_,?_,h3,.inr (.inl ⟨_,rfl⟩)⟩,?_,rfl,rfl,?_,.refl _⟩<;>simp[aga,afw,aeG,h1,h2,SetTable.below,acF]
 .have hj:j≠a.1:=by simpa using hj
  by_cases z:a.1<j
  .refine⟨_,_,[a,(j,h,x)],rfl,⟨?_,?_,h3,.inr (.inr ⟨_,_,rfl,z⟩)⟩,?_,rfl,rfl,?_,.swap _ _ _⟩<;>simp[aga,afw,aeG,h1,h2,SetTable.below,acF,z]
  .refine⟨_,_,[(j,h,x),a],rfl,⟨?_,?_,h3,.inr (.inr ⟨_,_,rfl,show j<a.1 by lia⟩)⟩,?_,rfl,rfl,?_,.refl _⟩<;>simp[aga,afw,aeG,h1,h2,SetTable.below,acF,z]
 .simp at hl
end
end Gz
namespace Gz
open PySem PySem.Spec PyProof.Rows L2
theorem Ij:Manifest.owners.lookup (String.ofList ['r','o','t','a','r','e','t','i','_','t','e','s'].reverse)=some Manifest.sig_set_iterator:=by kernel_rfl
theorem pY:Slot "set_iterator" "__next__" "set_iterator.__next__" :=
 .of (owner := "set_iterator") (n := "__next__") (by rw[aep,adm];kernel_rfl) (by decide +kernel) (by decide +kernel) (by decide +kernel)
  (by first|exact .inl (by decide +kernel)|exact .inr (by decide +kernel)) (by rw[agZ];kernel_rfl)
theorem Ik:afv table "set_iterator.__next__" = some ac5.«set_iterator.__next__»:=entryFor_of_tree (by kernel_rfl)
theorem Il(a:aa9):agf "set_iterator.__next__" ⟨[a],[]⟩:=by unfold agf;rw[signature?_of (id := "set_iterator.__next__") (n:=['_','_','t','x','e','n','_','_']) (o:=['r','o','t','a','r','e','t','i','_','t','e','s']) (by kernel_rfl) Ij];kernel_rfl
theorem Ti:afv table "set.__iter__" = some ac5.«frozenset.__iter__» :=
 entryFor_alias (id' := "frozenset.__iter__") (by kernel_rfl) (by first|rfl|decide +kernel) (by decide +kernel) (by kernel_rfl)
section
theorem Tj(hT:s.TypeIs (.ref d) "set")(q:Q false s):abm (model prog w) A (adW (.ref d)) Q E s:=by
 unfold adW;refine aaZ (adS hT PySem.F.slot_set_len.lookup ?_);generalize hid:("set.__len__" : String)=Tp
 wp_delta
 rw[show splitId Tp=some ("set","__len__") from by subst hid;decide +kernel];subst hid;refine aaZ (adI (T := "set") (b:=true) hT (by rw[agZ];kernel_rfl) ?_);refine aeq (λfK=>absurd fK (by decide)) (λ_=>?_);refine aeq (λ_=>?_) (λfK=>absurd (by decide +kernel) fK);refine aaZ (ahX hT ?_);exact aa4 q
theorem Im:abP "set" = some (.type "set"):=by decide +kernel
end
def jn(h:adz)(a:abd)(p:P2):Prop:=∃ o t u n,h.get? a=some o/\o.cls = .type "tuple" /\ o.data = .seq #[.int p.1 t,.int p.2 u] n
theorem jn.keep(x:jn h a p)(k:∀ o,h.get? a=some o->h'.get? a=some o):jn h' a p:=let ⟨o,t,u,n,e,r⟩:=x;⟨o,t,u,n,k o e,r⟩
section
theorem Io(h:Q (.bool (decide (x<y))) s):abm (model prog w) A (af3 .Lt (.int x t) (.int y u)) Q E s :=
 richCompare_gives (op:=.Lt) (aiK s _ t) (aiK s _ u) PySem.F.slot_int_lt PySem.F.entry_int_lt (PySem.F.args_int_lt_2 _ _) (gives_int_lt _ _ t u) (λx=>nomatch x) h
theorem wj(ha:jn s.heap a p)(hb:jn s.heap b q)(hu:A.units<afq)(h:Q (.bool (fO p q)) s):abm (model prog w) A (af3 .Lt (.ref a) (.ref b)) Q E s:=by
 obtain⟨oa,t1,u1,n1,sk,hca,hda⟩:=ha;obtain⟨ob,t2,u2,n2,hob,hcb,gZ⟩:=hb;have Ta:s.TypeIs (.ref a) "tuple" := ⟨oa,sk,hca⟩;have Tb:s.TypeIs (.ref b) "tuple" := ⟨ob,hob,hcb⟩;refine wpAny_richCompare_same_room Ta Tb agH (acp agH Ta PySem.F.entry_tuple_lt ?_ (PySem.F.args_tuple_lt_2 _ _)) hu;show abm _ _ (aiL (.ref b) (.type "tuple") >>= _) _ _ s;refine aaZ (adI Tb isSubtype_tuple_tuple ?_);simp only[ae4,aby,if_false];refine aaZ (ahu sk hda ?_);refine aaZ (ahu hob gZ ?_);refine aaZ ?_;refine ah5 _ (λrest r s'=>r.1=none/\s'=s/\(rest=[(.int p.1 t1,.int q.1 t2),(.int p.2 u1,.int q.2 u2)]∨(rest=[(.int p.2 u1,.int q.2 u2)]/\p.1=q.1)∨(rest=[]/\p.1=q.1/\p.2=q.2))) _ ?_ ?_ _ _ ⟨rfl,rfl,.inl rfl⟩
 .rintro ⟨u,v⟩ rest r s' ⟨hr,rfl,hz⟩;rcases hz with hz|⟨hz,e1⟩|⟨hz,_⟩
  .cases hz;refine aaZ (agc ?_);by_cases e:p.1=q.1
   .rw[show (p.1 == q.1)=true by simpa using e];simp only[ae4,aby,if_false];exact aa4 ⟨rfl,rfl,.inr (.inl ⟨trivial,e⟩)⟩
   .rw[show (p.1 == q.1)=false by simpa using e];simp only[aiG,if_true];refine aaZ (aei (aaZ (Io (aaZ (aa4 (aa4 (aa4 ⟨_,rfl,λz=>(nomatch z),?_⟩)))))));have e2:fO p q=decide (p.1<q.1):=by unfold fO;rw[decide_eq_false e];simp
    rw[<- e2];exact h
  .cases hz;refine aaZ (agc ?_);by_cases e:p.2=q.2
   .rw[show (p.2 == q.2)=true by simpa using e];simp only[ae4,aby,if_false];exact aa4 ⟨rfl,rfl,.inr (.inr ⟨trivial,e1,e⟩)⟩
   .rw[show (p.2 == q.2)=false by simpa using e];simp only[aiG,if_true];refine aaZ (aei (aaZ (Io (aaZ (aa4 (aa4 (aa4 ⟨_,rfl,λz=>(nomatch z),?_⟩)))))));have e2:fO p q=decide (p.2<q.2):=by unfold fO;rw[e1];simp
    rw[<- e2];exact h
  .cases hz
 .rintro ⟨r1,r2⟩ s' ⟨hr,rfl,hz⟩;simp only at hr;subst hr;rcases hz with hz|⟨hz,_⟩|⟨_,e1,e2⟩
  .cases hz
  .cases hz
  .refine aa4 ⟨_,rfl,λz=>(nomatch z),?_⟩;have e3:fO p q=false:=by unfold fO;rw[e1,e2];simp
   rw[e3] at h;exact h
theorem Tq(hh:A.handled=none)(ha:jn s.heap a p)(hb:jn s.heap b q)(hu:A.in1.units<afq)(h:∀ h' tk,(∀ c o,s.heap.get? c=some o->h'.get? c=some o)->Q (.ref (if fO q p=true then b else a)) { s with heap:=h',toks:=tk }):abm (model prog w) A (call (.builtin "min") [.ref a,.ref b]) Q E s:=by
 have nm:(toString "min" ++ toString ".loop" : String) = "min.loop" := by decide
 refine call_function_tree ah1 ahH ahI (PySem.F.args_min2 _ _) ?_;show abm _ A.in1 (ac7 "min" ["key","default"] 0 ⟨[],[]⟩ >>= _) _ _ s;refine aaZ (af4 (show ac7 "min" ["key","default"] 0 ⟨[],[]⟩=pure [none,none] from rfl) ?_);show abm _ A.in1 (aiW [.ref a,.ref b] >>= _) _ _ s;refine aaZ (acj ?_);have hT:(s.heap.push { cls:=.type "tuple",data:=.seq #[.ref a,.ref b] }).IsTuple s.heap.objs.size #[.ref a,.ref b]:=⟨_,abc _ rfl,rfl,0,rfl⟩
 refine aaZ (ahf hT ?_);show abm _ A.in1 (ajl [] >>= _) _ _ _;refine aaZ (acj ?_);generalize e1:s.heap.push { cls:=.type "tuple",data:=.seq #[.ref a,.ref b] }=h1 at hT;have z1:h1.objs.size=s.heap.objs.size+1:=by rw[<- e1];exact adJ ..
 have k1:∀ c o,s.heap.get? c=some o->h1.get? c=some o:=λc o e=>by rw[<- e1];exact aa5 _ e
 dsimp only;generalize e2:h1.push { cls:=.type "tuple_iterator",data:=.fields #[.ref s.heap.objs.size,.int 0 0] }=h2;have z2:h2.objs.size=h1.objs.size+1:=by rw[<- e2];exact adJ ..
 have k2:∀ c o,h1.get? c=some o->h2.get? c=some o:=λc o e=>by rw[<- e2];exact aa5 _ e
 have W:=Walks.tuple (prog:=prog) (w:=w) (A:=A.in1) hh h1.objs.size s.heap.objs.size (by rw[z1];exact abk (ad9 _)) #[.ref a,.ref b];have yY:h2.IsTupleIter h1.objs.size s.heap.objs.size 0/\h2.IsTuple s.heap.objs.size #[.ref a,.ref b]:=⟨⟨_,by rw[<- e2];exact abc _ rfl,rfl,rfl⟩,by rw[<- e2];exact hT.push _⟩
 have zs:h2.objs.size∉[h1.objs.size,s.heap.objs.size]:=λz=>by
  simp only[abl,adH,or_false] at z;rcases z with z|z
  .rw[z2] at z;exact ah6 _ z
  .rw[z2,z1] at z;exact absurd z (by intro z;have:s.heap.objs.size<s.heap.objs.size+1+1:=adY (ad9 _);rw[z] at this;exact acu _ this)
 have nS:h2.objs.size∉[h1.objs.size]:=λz=>zs (by simp at z;simp[z]);have up:∀ c o,s.heap.get? c=some o->c∉[h1.objs.size]/\c≠h2.objs.size/\(h2.push { cls:=.type "list",data:=.seq #[] }).get? c=some o:=λc o e=>by have l1:=aa6 (k1 c o e);have l2:=aa6 (k2 c o (k1 c o e));exact⟨λz=>by simp at z;rw[z] at l1;exact acu _ l1,abk l2,aa5 _ (k2 c o (k1 c o e))⟩
 let G:adz->Prop:=λh=>jn h a p/\jn h b q;have bF:∀ (x:abd) (r:P2),jn s.heap x r->x∉[h1.objs.size]/\x≠h2.objs.size:=λx r hx=>by obtain⟨o,_,_,_,e,_⟩:=hx;exact⟨(up x o e).1,(up x o e).2.1⟩
 have hG:∀ h h',G h->(∀ b o,b∉[h1.objs.size]->b≠h2.objs.size->h.get? b=some o->h'.get? b=some o)->G h':=λh h' g k=>⟨g.1.keep λo e=>k a o (bF a p ha).1 (bF a p ha).2 e,g.2.keep λo e=>k b o (bF b q hb).1 (bF b q hb).2 e⟩
 let bt:Nat->Nat->Bool:=λi j=>fO (if i=0 then p else q) (if j=0 then p else q);have Ip:∀ i v,(#[abz a,abz b]:Array aa9)[i]?=some v->(i=0/\v = .ref a)∨(i=1/\v = .ref b):=λi v e=>by
  match i,e with
  | 0,e=>cases e;exact .inl ⟨rfl,rfl⟩
  | 1,e=>cases e;exact .inr ⟨rfl,rfl⟩
  | i+2,e=>simp at e
 have rK:∀ i j vi vj (s:abe) (Q:aa9->abe->Prop) (E:aa9->abe->Prop),(#[abz a,abz b]:Array aa9)[i]?=some vi->(#[abz a,abz b]:Array aa9)[j]?=some vj->G s.heap->Q (.bool (bt i j)) s->abm (model prog w) A.in1 (af3 .Lt vi vj) Q E s:=by
  intro i j vi vj s Q E ei ej g hq;rcases Ip i vi ei with ⟨rfl,rfl⟩|⟨rfl,rfl⟩<;>rcases Ip j vj ej with ⟨rfl,rfl⟩|⟨rfl,rfl⟩
  .exact wj g.1 g.1 hu hq
  .exact wj g.1 g.2 hu hq
  .exact wj g.2 g.1 hu hq
  .exact wj g.2 g.2 hu hq
 have g0:G (h2.push { cls:=.type "list",data:=.seq #[] }):=⟨ha.keep λo e=>(up a o e).2.2,hb.keep λo e=>(up b o e).2.2⟩
 have oS:(h2.push { cls:=.type "list",data:=.seq #[] }).get? h2.objs.size=some { cls:=.type "list",dict:=none,data:=.seq #[] 0,slots:=#[] }:=abc _ rfl;have o8:=W.frame 0 h2 (h2.push { cls:=.type "list",data:=.seq #[] }) yY λb _ o q=>aa5 _ q;rw[nm];refine aa4 ⟨acW adg _,?_⟩;refine acd aeu ?_;rw[abZ adg _];show abm _ A.in1 (ahl (.ref h2.objs.size) >>= _) _ _ _;refine aaZ (ad3 oS rfl ?_);show abm _ A.in1 (tryCatch (adP (.ref h1.objs.size)) _ >>= _) _ _ _;refine aaZ (ad4 (W.item 0 _ _ _ (by simp) o8 λv h3 tk pv gU kp=>?_));have jf:=kp _ _ nS oS;show abm _ A.in1 (afQ h2.objs.size (λ_=>#[v,v]) >>= _) _ _ _;refine aaZ ?_;refine ac6 jf rfl ?_;rw[nm];have g3:G h3:=hG _ _ g0 λb o hw _ e=>kp b o hw e;refine aa4 ⟨acW adg _,(FW (by decide) aeu adg) W hG rK zs 1 0 _ v _ (by simp) (W.frame _ _ _ gU λb hf o e=>?_) (hG _ _ g3 λb o _ mv e=>(abq _ _ (ab4 mv)).trans e) pv (abL _ jf rfl) λv2 h4 Tr p4 k4=>?_⟩
 .exact (abq _ _ (λz:h2.objs.size=b=>zs (by rw[z];exact hf))).trans e
 .have ev:v2 = .ref (if fO q p=true then b else a):=by
   have e4:(#[abz a,abz b]:Array aa9)[aff bt 1]?=some v2:=by simpa using p4
   have zP:aff bt 1=if fO q p=true then 1 else 0:=by show (if bt 1 0 then 1 else 0)=_;rfl
   rw[zP] at e4;by_cases hl:fO q p=true
   .rw[if_pos hl] at e4 ⊢;cases e4;rfl
   .rw[if_neg hl] at e4 ⊢;cases e4;rfl
  subst ev;refine h h4 Tr λc o e=>?_;obtain⟨u1,u2,u3⟩:=up c o e;exact k4 c o u1 u2 ((abq _ _ (ab4 u2)).trans (kp c o u1 u3))
def Iq(H:Hp)(Q:VK)(xs:List V):Prop:=∃ (a b:abd) (p q:P2),xs=[.ref a,.ref b]/\H a=some (.tup [.int p.1,.int p.2])/\H b=some (.tup [.int q.1,.int q.2])/\Q (.ref (if fO q p=true then b else a)) H
theorem Ts(hc:X.calm=true)(hu:X.A.units+1<afq):fJ X (.builtin "min") (λxs H Q=>Iq H Q xs):=by
 intro pins s σ H xs us Q I r h;obtain⟨a,b,p,q,rfl,ha,hb,hq⟩:=h;obtain⟨u,v,rfl,ru,rv⟩:=vals2 r;cases ru;cases rv;have pr:∀ (x:abd) (r:P2),H x=some (.tup [.int r.1,.int r.2])->jn s.heap x r:=λx r hx=>by
  obtain⟨_,ar,hv,hi⟩:=(show bN X.prog X.w H s.heap x (.tup [.int r.1,.int r.2]) from I.ay x _ hx)
  obtain⟨u1,u2,rfl,⟨t1,rfl⟩,⟨t2,rfl⟩⟩:=vals2 hv;obtain⟨o,ho,bf,n,hd⟩:=hi;exact⟨o,t1,t2,n,ho,bf,hd⟩
 exact Tq (I.ok.hd hc) (pr a p ha) (pr b q hb) (show X.A.units+1<afq from hu) λh' tk k=>⟨.ref _,H,I.kept k,rfl,hq⟩
end
local macro_rules | `(tactic| walk_at "o") => `(tactic| ((try simp only [PySem.Addr] at *); lia))
section
end
section
def Ir(vs:List aa9)(kis:List (List Int))(i:Nat):Prop:=∃ x t,vs[i]?=some (.int x t)/\kis.getD i []=[x]
theorem Tt(hk:∀ i,i<vs.length->Ir vs kis i):vX prog w h vs kis:=λh2=>by
 refine⟨oneType',λA E s e=>⟨λQ q=>PySem.W.kas_kind (T:=.type "int") h2 (λv hv=>?_) (by decide) (by decide) q,λi j hi hj C q=>?_⟩⟩
 .obtain⟨i,hi,rfl⟩:=aha hv;obtain⟨x,tt,e,_⟩:=hk i hi;rw[aa3 hi] at e;rw[Option.some.inj e];exact PySem.W.Looks.now
 .obtain⟨x1,t1,a1,l1⟩:=hk i hi;obtain⟨x2,t2,a2,l2⟩:=hk j hj;rw[aa1,aa1,a1,a2];refine PySem.W.kat_lt_int (cast (congrArg (λb=>C b s) ?_) q);unfold c6;rw[l1,l2,HT.oV];by_cases e:x1=x2
  .rw[if_pos e,e];simp[HT.lexLt]
  .rw[if_neg e]
theorem Tu(hl:kis.length=vs.length)(fi:vs.length<64)(hk:∀ i,i<vs.length->Ir vs kis i)(rT:∀ (A':acP) (Q':List aa9->abe->Prop) (E':aa9->abe->Prop),A'.handled=A.handled->(∀ h' tk,(∀ b o,s.heap.get? b=some o->h'.get? b=some o)->s.heap.objs.size<=h'.objs.size->Q' vs { s with heap:=h',toks:=tk })->abm (model prog w) A' (collect (.ref r)) Q' E' s)(q:∀ l h' tk,s.heap.objs.size<=l->(∀ b o,s.heap.get? b=some o->h'.get? b=some o)->(∃ c,h'.get? l=some (adO "list" (adl ((cS (c6 kis) vs.length).toList.map λi=>vs.getD i Value.none)) c))->Q (.ref l) { s with heap:=h',toks:=tk }) :
 abm (model prog w) A (call (.builtin "sorted") [.ref r]) Q E s:=Hh hl fi (λg _=>Tt hk) rT q
end
noncomputable def nU(w:acz):Bool:=!(w.params.followText "set-order")
section
noncomputable abbrev jo(w:acz):Obj:={ cls:=.type "set",dict:=none,data:=.set #[] 0 (.fresh 0 0 (nU w)) }
theorem Tv(a:aa9)(h:Q₁ (.ref s.heap.objs.size) { s with heap:=s.heap.push (jo w) }) :
 ad0 (model prog w) A (.call (.builtin "set.__new__") ⟨[.type "set",a],[]⟩) (wants Q₁ E) s:=by
 refine aix (show abm _ A.in1 (do aeX "set.__new__" ⟨[.type "set",a],[]⟩;again (.builtin "set.__new__" ⟨[.type "set",a],[]⟩)) _ _ s from ?_);refine aaZ (af4 (PySem.F.newCall_set_1 a) (aa4 ⟨acW agI _,acd PySem.F.entry_set_new ?_⟩));rw[abZ agI _];unfold ac5.«set.__new__» Builtin.Frozenset.newClass;have wk:=PySem.sub_set_self;obtain⟨hp,g,d,tk,os⟩:=s;dsimp only;wp_walk;refine aec (aa4 ?_);dsimp only;simp only[newObj];exact aaZ (wpAny_alloc (aa4 (aa4 h)))
theorem Tw{h:adz}{S:abd}{o:Obj}{es es':Array (Int × aa9)}{ep:Nat}{t t':aiX}(g1:h.get? S=some o)(g3:o.data = .set es ep t) :
 (h.update S (aiP es' t')).get? S=some { o with data:=.set es' (ep+1) t' }:=by
 have:=abL (aiP es' t') g1 (by rw[putSet_of es' t' g3];rfl);rw[putSet_of es' t' g3] at this;exact this
theorem Iu:∀ {xs:List α} {l:List β},l.Perm (xs.map f)->∃ ys:List α,l=ys.map f/\ys.Perm xs:=by
 intro xs l h;generalize hz:xs.map f=z at h
 induction h generalizing xs with
 | nil=>exact⟨[],rfl,by cases xs with|nil=>exact .nil|cons=>cases hz⟩
 | @cons a l1 l2 p ih =>
  cases xs with
  | nil=>cases hz
  | cons x xs =>
   obtain⟨e1,e2⟩:=List.cons.inj hz;obtain⟨ys,rfl,q⟩:=ih e2;exact⟨x::ys,by rw[<- e1];rfl,q.cons x⟩
 | swap a b l =>
  cases xs with
  | nil=>cases hz
  | cons x xs =>
   cases xs with
   | nil=>simp at hz
   | cons y xs =>
    simp only[abj,List.cons.injEq] at hz;obtain⟨e1,e2,e3⟩:=hz;exact⟨y::x::xs,by simp[e1,e2,e3],.swap x y xs⟩
 | trans p q zk zm =>
  obtain⟨ys,e,r⟩:=zm hz;obtain⟨zs,e',r'⟩:=zk e.symm;exact⟨zs,e',r'.trans r⟩
end
theorem Iv:Slot "set_iterator" "__iter__" "set_iterator.__iter__" :=
 .of (owner := "set_iterator") (n := "__iter__") (by rw[aep,adm];kernel_rfl) (by decide +kernel) (by decide +kernel) (by decide +kernel)
  (by first|exact .inl (by decide +kernel)|exact .inr (by decide +kernel)) (by rw[agZ];kernel_rfl)
theorem Tz:afv table "set_iterator.__iter__" = some ac5.«dict_keyiterator.__iter__» :=
 entryFor_alias (id' := "dict_keyiterator.__iter__") (by kernel_rfl) (by first|rfl|decide +kernel) (by decide +kernel) (by kernel_rfl)
theorem TC(a:aa9):agf "set_iterator.__iter__" ⟨[a],[]⟩:=by unfold agf;rw[signature?_of (id := "set_iterator.__iter__") (n:=['_','_','r','e','t','i','_','_']) (o:=['r','o','t','a','r','e','t','i','_','t','e','s']) (by kernel_rfl) Ij];kernel_rfl
theorem Iw(f:Nat->Nat):∀ (n k:Nat) (left:List α) (out:Array α),left.length=n->(pickOrder.go f n k left out).toList.Perm (out.toList++left)
 | 0,k,left,out,h=>by obtain rfl:left=[]:=acX.mp h;unfold pickOrder.go;simp
 | n+1,k,left,out,h=>by have hl:f k % left.length<left.length:=Nat.mod_lt _ (by lia);unfold pickOrder.go;rw[aa3 hl];refine (Iw f n (k+1) _ _ (by rw[List.length_eraseIdx_of_lt hl];lia)).trans ?_;rw[ahN,afS];refine List.Perm.append_left _ ?_;have:=List.perm_middle (a:=left[f k % left.length]) (l₁:=left.take (f k % left.length)) (l₂:=left.drop (f k % left.length+1));rw[List.eraseIdx_eq_take_drop_succ];refine .trans ?_ (.of_eq (adn (f k % left.length) left));rw[ab8 hl];exact this.symm
theorem TF(f:Nat->Nat)(xs:Array α):(ajd f xs).toList.Perm xs.toList:=by unfold ajd;simpa using Iw f xs.size 0 xs.toList #[] (by simp)
section
noncomputable def jq(w:acz)(S:abd)(ep:Nat)(es:Array (Int × aa9)):Array (Int × aa9):=if w.params.followText "set-order" then ajd (w.params.setOrder S ep) es else es
theorem z7(w:acz)(S:abd)(ep:Nat)(es:Array (Int × aa9)):(jq w S ep es).toList.Perm es.toList:=by
 unfold jq;split
 .exact TF _ _
 .exact .refl _
structure pZ(w:acz)(S:abd)(o:Obj)(ep:Nat)(t:aiX)(L:List (Nat × Int × aa9)):Prop where
 cls:o.cls = .type "set"
 dat:o.data = .set (L.map (·.2)).toArray ep t
 tok:ie t L
 led:t.led=nU w
 pln:t.plain=true
theorem TH(x:pZ w S o ep t L)(h:s.heap.get? S=some o)(q:Q false s):abm (model prog w) A (setDrawn S) Q E s:=by unfold setDrawn aiQ;refine aaZ (aeH h x.dat x.tok.fits ?_);dsimp only;refine aaZ (aaZ (aec (aa4 (aa4 ?_))));refine cast (congrArg (λb=>Q b s) ?_) q;symm;rw[agG];right;show (!t.plain && _)=false;rw[x.pln];rfl
noncomputable abbrev z8(S:abd)(n ep:Nat)(sl i:Int):Obj:={ cls:=.type "set_iterator",data:=.fields #[aet sl,aet i,.ref S,aet n,aet ep] }
theorem TJ(x:pZ w S o ep t L)(h:s.heap.get? S=some o)(hQ:Q (.ref s.heap.objs.size) { s with heap:=s.heap.push (z8 S L.length ep 0 0) }):abm (model prog w) A (ai5 (.ref S)) Q E s:=by have hT:s.TypeIs (.ref S) "set" := ⟨o,h,x.cls⟩;refine afU hT aiy (acp aiy hT Ti ?_ (F.args_set_iter_1 _));unfold ac5.«frozenset.__iter__»;refine aaZ (m:=Builtin.Frozenset.slot0 _ _) (aa4 ?_);refine aaZ (m:=Builtin.Frozenset.sizeOf _) (aaZ (afl h x.dat x.tok.fits (aa4 ?_)));refine aaZ (TH x h ?_);simp only[aby,if_false];refine aaZ (aa4 ?_);refine aaZ (wpAny_setEpoch_of h x.dat x.tok.fits ?_);refine aaZ (acj (aa4 ⟨_,rfl,"set_iterator",_,⟨_,abc _ rfl,rfl⟩,pY.lookup,?_⟩));refine cast (congrArg (λb=>Q _ { s with heap:=s.heap.push b }) ?_) hQ;simp[z8]
theorem Iy(x:pZ w S o ep t L)(h:s.heap.get? S=some o)(hb:w.params.followText "set-order" = false->SetTable.below t.place sl=i)(q:∀ fb,(w.params.followText "set-order" = false->i<L.length->SetTable.below t.place fb=i+1)->Q (((jq w S ep (L.map (·.2)).toArray)[i]?).map λe=>(e.2,fb)) s):abm (model prog w) A (ajm S sl i ep) Q E s:=by
 unfold ajm aiQ;refine aaZ (aeH h x.dat x.tok.fits ?_);dsimp only;refine aaZ (aaZ (aec (aa4 ?_)));unfold jq at q;cases hf:w.params.followText "set-order" with
 | true =>
  simp only[hf,if_true] at q;rw[if_pos (show (model prog w).w.params.followText "set-order" = true from hf),if_neg (by simp)];unfold setWalk aiQ;refine aaZ (aaZ (aeH h x.dat x.tok.fits ?_));refine aaZ (aaZ (aec (aa4 ?_)));rw[if_pos (show (model prog w).w.params.followText "set-order" = true from hf)];exact aaZ (aec (aa4 (aa4 (q sl (λhz=>nomatch hz)))))
 | false =>
  simp only[hf,aby,if_false] at q;rw[if_neg (show ¬ (model prog w).w.params.followText "set-order" = true from by rw[show (model prog w).w.params.followText "set-order" = false from hf];decide)];refine aeq (λz=>absurd (show (!t.plain && _)=true from z) (by rw[x.pln];simp)) (λ_=>?_);have hl:t.led=true:=by rw[x.led];unfold nU;rw[hf];rfl
  refine aaZ ?_;show abm _ _ (if (!t.led && !(L.map (·.2)).toArray.isEmpty)=true then _ else pure _) _ _ _;rw[if_neg (by rw[hl];simp)];refine aa4 (aa4 ?_);rw[hb hf];by_cases hi:i<L.length
  .have e1:(L.map (·.2)).toArray[i]?=some L[i].2:=by simp[hi]
   have e2:t.place[i]?=some L[i].1:=by rw[x.tok.pl];simp[hi]
   have:=q (L[i].1+1) λ_ _=>x.tok.next hi
   rw[e1] at this ⊢;rw[e2];exact this
  .have e1:(L.map (·.2)).toArray[i]?=none:=by simp;lia
   have:=q 0 λ_ hz=>absurd hz hi;rw[e1] at this ⊢;exact this
theorem TK(hh:A.handled=none)(x:pZ w S o ep t L)(bV:S≠I):Walks prog w A I [I,S] [I] L.length (λi v=>((jq w S ep (L.map (·.2)).toArray)[i]?).map (·.2)=some v)
 (λi h=>h.get? S=some o/\∃ sl:Nat,h.get? I=some (z8 S L.length ep sl i)/\(w.params.followText "set-order" = false->SetTable.below t.place sl=i)) where
 sub:=λb hb=>by simp at hb;simp[hb]
 frame:=λ_ _ _ st hk=>⟨hk S (by simp) _ st.1,let ⟨sl,a,b⟩:=st.2;⟨sl,hk I (by simp) _ a,b⟩⟩
 item:=λi s Q E hi st hQ=>by
  obtain⟨h1,sl,hI,hb⟩:=st;have hT:s.TypeIs (.ref I) "set_iterator" := ⟨_,hI,rfl⟩;have hlen:(jq w S ep (L.map (·.2)).toArray).size=L.length:=by have:=(z7 w S ep (L.map (·.2)).toArray).length_eq;simpa using this
  have cR:i<(jq w S ep (L.map (·.2)).toArray).size:=by lia
  unfold adP;refine aaZ (aeo (acI (name:=acf "__next__") hT pY
   (acp pY hT Ik ?_ (Il _))))
  unfold ac5.«set_iterator.__next__»;refine aaZ (aa4 (aaZ (ad6 hI rfl ?_)));show abm _ _ (setEntries S >>= _) _ _ _;refine aaZ (afl h1 x.dat x.tok.fits ?_);refine aeq (λz=>absurd z (by simp)) (λ_=>?_);show abm _ _ (ajm S (agJ (sl:Int)) (agJ (i:Int)) (agJ (ep:Int)) >>= _) _ _ _;rw[abU,abU,abU];refine aaZ (Iy x h1 hb λfb kU=>?_);rw[abN cR];dsimp only [Option.map_some];refine aaZ (aeJ hI rfl (by simp) ?_);have Iz:=abL (adX (·.setIfInBounds 0 (aet (fb:Int)))) hI rfl;refine aaZ (aeJ Iz rfl (by simp[adX]) ?_);have TL:=abL (adX (·.setIfInBounds 1 (aet ((i:Int)+1)))) Iz rfl;have IA:∀ (b:abd) (u:Obj),b≠I->s.heap.get? b=some u->((s.heap.update I (adX (·.setIfInBounds 0 (aet (fb:Int))))).update I (adX (·.setIfInBounds 1 (aet ((i:Int)+1))))).get? b=some u:=λb u hb e =>
   (abq _ _ (ab4 hb)).trans ((abq _ _ (ab4 hb)).trans e)
  refine aa4 ⟨_,rfl,aa4 (hQ _ _ s.toks (by rw[abN cR];rfl) ⟨IA S o bV h1,fb,TL,λhf=>kU hf hi⟩ λb u hb e=>IA b u (by simpa using hb) e)⟩
 done:=λs Q E st hQ=>by
  obtain⟨h1,sl,hI,hb⟩:=st;have hT:s.TypeIs (.ref I) "set_iterator" := ⟨_,hI,rfl⟩;have hlen:(jq w S ep (L.map (·.2)).toArray).size=L.length:=by have:=(z7 w S ep (L.map (·.2)).toArray).length_eq;simpa using this
  unfold adP;refine aaZ (aeo (acI (name:=acf "__next__") hT pY
   (acp pY hT Ik ?_ (Il _))))
  unfold ac5.«set_iterator.__next__»;refine aaZ (aa4 (aaZ (ad6 hI rfl ?_)));show abm _ _ (setEntries S >>= _) _ _ _;refine aaZ (afl h1 x.dat x.tok.fits ?_);refine aeq (λz=>absurd z (by simp)) (λ_=>?_);show abm _ _ (ajm S (agJ (sl:Int)) (agJ (L.length:Int)) (agJ (ep:Int)) >>= _) _ _ _;rw[abU,abU,abU];refine aaZ (Iy x h1 hb λfb kU=>?_);rw[adM (by lia)];show abm _ _ (ah8 (.ref I) 2 .none >>= _) _ _ s;refine aaZ (aeJ hI rfl (by simp) ?_);show abm _ _ (newExc (.type "StopIteration") [] >>= _) _ _ _;refine aaZ ?_;simp only[newExc,aiW];refine aaZ (acj ?_ (by size_fits));refine aaZ (m:=afE _ _) (af4 (a:=Value.none) (by first|rfl|(simp only[afE];rfl)) ?_);refine acj ?_ (by size_fits);simp only[raiseNew];refine aaZ (wpAny_handled ?_);rw[show A.in1.handled=none from hh];refine aaZ (aa4 (wpAny_throw ?_));refine aaZ (adI (T := "StopIteration") (b:=true) ⟨_,abc _ rfl,rfl⟩ agX ?_);refine aa4 (hQ _ s.toks λb u hb e=>(((aca ..).extBut.push _).push _) b u (by simpa using hb) e)
 self:=λ_ s _ _ st hQ=>by obtain⟨h1,sl,hI,hb⟩:=st;have hT:s.TypeIs (.ref I) "set_iterator" := ⟨_,hI,rfl⟩;refine afU hT Iv (acp Iv hT Tz ?_ (TC _));show abm _ _ (ret (.ref I)) _ _ s;exact aa4 ⟨_,rfl,"set_iterator",_,hT,pY.lookup,hQ⟩
theorem TM(x:pZ w S o ep t L):agY prog w "set" S S L.length (λi v=>((jq w S ep (L.map (·.2)).toArray)[i]?).map (·.2)=some v) (λh=>h.get? S=some o) where
 type:=λ_ h=>⟨o,h,x.cls⟩
 there:=λ_ h=>⟨aa6 h,aa6 h⟩
 keep:=λ_ _ h hk=>hk S (.inl rfl) o h
 notList:=by decide
 notTuple:=by decide
 hint:=λ_ _ _ _ h hq=>Tj ⟨o,h,x.cls⟩ hq
 iter:=λ_ _ hh h=>⟨_,_,(λ_ _ hq=>TJ x h hq),TK hh x (abk (aa6 h)),
  ⟨aa5 _ h,0,abc _ rfl,λ_=>x.tok.zero⟩⟩
noncomputable abbrev lE(m:Int × afm):Int × aa9:=(afZ m.1,.int m.1 m.2)
def lF(h:adz)(S:abd)(M:List (Int × afm))(led:Bool):Prop :=
 ∃ o ep t L,h.get? S=some o/\o.cls = .type "set" /\ o.data = .set (L.map (·.2)).toArray ep t/\ie t L/\t.led=led/\t.plain=true/\L.map (·.2)=M.map lE
theorem TN(prog:ab1)(w:acz){M:List (Int × afm)}:ElemsOf (aeU prog w) (M.map lE):=λe he=>by obtain⟨m,_,rfl⟩:=aa8.mp he;exact⟨⟨m.1,by simp[aeU,aey],rfl⟩,rfl⟩
theorem add_int(hS:lF s.heap S M led)(hlen:M.length<2)(h0:k∈M.map (·.1)->Q false s)(h1:k∉M.map (·.1)->∀ h' M',Heap.SameBut S s.heap h'->lF h' S M' led->M'.Perm ((k,tt)::M)->Q true { s with heap:=h' }) :
 abm (model prog w) A (setAddHashed S (.int k tt) (afZ k)) Q E s:=by
 obtain⟨o,ep,t,L,g1,g2,g3,tk,g4,g5,g7⟩:=hS;have hlM:L.length=M.length:=by have:=congrArg List.length g7;simpa using this
 have sm:ElemsOf (aeU prog w) (L.map (·.2)).toArray.toList:=by rw[afn,g7];exact TN prog w
 unfold setAddHashed setAddHashedIn;refine acv (aaZ (aeH g1 g3 tk.fits ?_));dsimp only;rw[byScan_of (knd:=aeU prog w) rfl (by rw[abg,aa2];unfold scanBound;lia) sm];simp only[if_true];unfold setAddByScan;refine aaZ (aaZ (aei ?_));refine aaZ (wpAny_setScan_of (knd:=aeU prog w) (k:=k) (by simp[aeU,aey]) g1 g3 tk.fits sm ?_);rw[afn,g7];by_cases bO:k∈M.map (·.1)
 .obtain⟨m,hm,hmk⟩:=aa8.mp bO;cases hf:aiZ (λe=>(aeU prog w).is k e.2) (M.map lE) with
  | none =>
   have:=afF.mp hf (lE m) (aa8.mpr ⟨m,hm,rfl⟩);rw[<- hmk] at this;simp[aeU,aey] at this
  | some j =>
   dsimp only;exact aa4 (aa4 (h0 bO))
 .have hf:aiZ (λe=>(aeU prog w).is k e.2) (M.map lE)=none:=by refine afF.mpr λe he=>?_;obtain⟨m,hm,rfl⟩:=aa8.mp he;simp only[aeU,aey];exact beq_eq_false_iff_ne.mpr λz=>bO (aa8.mpr ⟨m,hm,z⟩)
  rw[hf];dsimp only;obtain⟨j,j0,j1⟩:=tk.free (by lia) (afZ k);obtain⟨t',p,L',p1,p2,p3,p5,p6,p7,hperm⟩:=tk.put (by lia) j1 (afZ k) (Value.int k tt);have TQ:layNew t (M.map lE).toArray (afZ k) (.int k tt)=((L'.map (·.2)).toArray,t',false,false):=by rw[<- g7];unfold layNew;rw[j0];dsimp only;rw[p1,p3];have:=p2.fits;unfold SetTable.orStandIn;rw[this];rfl
  rw[TQ];dsimp only;refine aaZ ?_;show abm _ _ (pure ()) _ _ _;refine aa4 ?_;rw[p6,g5];simp only[if_true];refine aaZ ?_;rw[hashByValue_scannable 8 (show (Value.int k tt).scannable=true from rfl)];refine aa4 ?_;rw[show plainKind (Value.int k tt)=true from rfl];simp only[if_true];have hsz:(L'.map (·.2)).toArray.size<=abu:=by have:=hperm.length_eq;simp at this ⊢;rw[this];exact abb (show _<=64 by lia) (by decide)
  refine aaZ (wpAny_storeSet_of g1 g3 ?_ hsz);have gS:=Tw (es':=(L'.map (·.2)).toArray) (t':=t') g1 g3;have TR:=aca s.heap S (aiP (L'.map (·.2)).toArray t');have p8:(L'.map (·.2)).Perm (((k,tt)::M).map lE):=by refine (hperm.map (·.2)).trans ?_;simp only[abj,g7];exact .refl _
  have TU:t'.tooFull=false:=by unfold SetTable.tooFull;rw[p7,p2.ma];simp;lia
  rw[TU];simp only[agW,aby,if_false];obtain⟨M',e1,e2⟩:=Iu p8;exact aa4 (aa4 (h1 bO _ M' TR ⟨_,_,t',_,gS,g2,rfl,p2,p5.trans g4,p6.trans g5,e1⟩ e2))
def so(key:Nat->Int)(i:Nat)(M:List (Int × afm)):Prop :=
 (M.map (·.1)).Nodup/\(∀ m∈M,∃ j,j<i/\m.1=key j)/\(∀ j,j<i->key j∈M.map (·.1))/\M.length<=i
theorem TV(e:h.get? S=some (jo w)):lF h S [] (nU w) :=
 ⟨_,0,_,([]:List (Nat × Int × aa9)),e,rfl,rfl,⟨rfl,rfl,rfl,.inl rfl⟩,rfl,rfl,rfl⟩
theorem TX{R:ahR->abe->Prop}{I:abd}{fp wr:List abd}{G:Array GenState->Array GenState->Prop}{n:Nat}{P:Nat->aa9->Prop}{St:Nat->abe->Prop}(W:WalksS prog w A.in1 I fp wr G n P St)(S:abd)(o9:S∉fp){key:Nat->Int}{led:Bool}(TY:∀ i v,P i v->∃ tt,v = .int (key i) tt)(hn:n<=2) :
 ∀ (k i:Nat) (s:abe) (M:List (Int × afm)),n-i=k->i<=n->St i s->lF s.heap S M led->so key i M ->
  (∀ s' M',Moved (S::wr) G s s'->lF s'.heap S M' led->so key n M'->R (.ok (.ret .none)) s') ->
  ad0 (model prog w) A (.builtin "set.update.loop" ⟨[.ref S,.ref I],[]⟩) R s:=by
 have IB:S∉wr:=λh=>o9 (W.sub _ h);have wk:∀ b∈wr,b∈S::wr:=λb hb=>abY _ hb;intro k
 induction k with
 | zero =>
  intro i s M hk hi cX hS hM hR;obtain rfl:i=n:=by lia
  refine acd ad7 ?_;rw[abZ acZ _];refine show abm _ A.in1 (adP (.ref I) >>= _) _ _ s from aaZ (W.done s _ _ cX λs' hm=>?_);exact show abm _ A.in1 (ret Value.none) _ _ s' from aa4 (hR s' M (hm.mono wk) (let ⟨o,ep,t,L,ho,rest⟩:=hS;⟨o,ep,t,L,hm.heap S _ IB ho,rest⟩) hM)
 | succ k ih =>
  intro i s M hk hi cX hS hM hR;have aU:i<n:=by lia
  refine acd ad7 ?_;rw[abZ acZ _];refine show abm _ A.in1 (adP (.ref I) >>= _) _ _ s from aaZ (W.item i s _ _ aU cX λv s' hP TZ hm=>?_);obtain⟨tt,rfl⟩:=TY i v hP;have lG:lF s'.heap S M led:=let ⟨o,ep,t,L,ho,rest⟩:=hS;⟨o,ep,t,L,hm.heap S _ IB ho,rest⟩;refine show abm _ A.in1 (holding [Value.int (key i) tt] (setAdd S (.int (key i) tt)) >>= _) _ _ s' from aaZ (acv ?_);unfold setAdd;refine acv (aaZ ((aeU prog w).pyHash (k:=key i) (by simp[aeU,aey]) ?_));have go:∀ (h':adz) (M':List (Int × afm)),Heap.SameBut S s'.heap h'->lF h' S M' led->so key (i+1) M' ->
   abm (model prog w) A.in1 (again (.builtin "set.update.loop" ⟨[.ref S,.ref I],[]⟩)) (λfin s'=>match fin with|.done f=>R (.ok f) s'|.again c'=>c'.quiet=true/\ad0 (model prog w) A c' R s') (λe s'=>R (.error e) s') { s' with heap:=h',toks:=s'.toks+1 }:=by
   intro h' M' j8 z9 T4;refine aa4 ⟨acW acZ _,ih (i+1) _ M' (by lia) aU (W.frame _ s' _ _ TZ (afd _) λb hb o e=>?_) z9 T4 λkQ T5 T6 T7 T8=>?_⟩
   .rw[j8.2 b (λh:b=S=>o9 (by rw[<- h];exact hb))];exact e
   .refine hR kQ T5 (Moved.trans W.gtrans ((hm.mono wk).then_heap (afd _) λb o hb e=>?_) T6) T7 T8;rw[j8.2 b (λh:b=S=>hb (by rw[h];exact adN))];exact e
  refine add_int (s:={ s' with toks:=s'.toks+1 }) (M:=M) lG (by have:=hM.2.2.2;lia) (λbO=>?_) (λbO h' M' j8 z9 p8=>?_)
  .refine go s'.heap M (Heap.SameBut.refl S s'.heap) lG ⟨hM.1,λm hm=>?_,λj hj=>?_,by have:=hM.2.2.2;lia⟩
   .obtain⟨j,hj,e⟩:=hM.2.1 m hm;exact⟨j,by lia,e⟩
   .by_cases e:j=i
    .rw[e];exact bO
    .exact hM.2.2.1 j (by lia)
  .refine go h' M' j8 z9 ⟨((p8.map (·.1)).nodup_iff).mpr (ab7.mpr ⟨bO,hM.1⟩),λm hm=>?_,λj hj=>?_,by have:=p8.length_eq;have:=hM.2.2.2;simp at *;lia⟩
   .rcases abl.mp (p8.mem_iff.mp hm) with rfl|hm
    .exact⟨i,by lia,rfl⟩
    .obtain⟨j,hj,e⟩:=hM.2.1 m hm;exact⟨j,by lia,e⟩
   .refine ((p8.map (·.1)).mem_iff).mpr ?_;by_cases e:j=i
    .rw[e];exact adN
    .exact abY _ (hM.2.2.1 j (by lia))
theorem T9(hh:A.handled=none)(hl:s.heap.IsList l items)(hn:items.size<=2)(hit:∀ (i:Nat) (v:aa9),items[i]?=some v->∃ tt,v = .int (key i) tt)(h:∀ (h':adz) (tk:Nat) (M:List (Int × afm)),lF h' s.heap.objs.size M (nU w)->so key items.size M->(∀ b o,b<s.heap.objs.size->s.heap.get? b=some o->h'.get? b=some o)->Q (.ref s.heap.objs.size) { s with heap:=h',toks:=tk }) :
 abm (model prog w) A (call (.type "set") [.ref l]) Q E s:=by
 obtain⟨c,tl,hmro⟩:=PySem.F.called_set.mro;have aaQ:=PySem.F.called_set.made;have wk:=PySem.F.called_set.sub;refine ahD (aix (show abm _ _ (callAny (.type "set") _) _ _ _ from aa4 ⟨Code.quiet_builtin _ (by decide +kernel),acd PySem.F.entry_type_call ?_⟩));rw[Around.under_plain (weight_type_call_type "set" [.ref l] []) rfl];have h1:=PySem.F.called_set.notType;have h2:=PySem.F.called_set.canCreate;have hct:=PySem.F.typeCall_set_1 (.ref l);repeat (any_goals (first|assumption|wp_step))
 refine aeM (Tv (.ref l) (E:=E) (Q₁:=λobj s₁=>obj = .ref s.heap.objs.size/\s₁ = { s with heap:=s.heap.push (jo w) }) ⟨rfl,rfl⟩) λr s₁ hr=>?_;cases r with
 | error e=>exact hr
 | ok fl =>
  cases fl with
  | ret obj =>
   obtain⟨rfl,rfl⟩:=hr;have gS:(s.heap.push (jo w)).get? s.heap.objs.size=some (jo w):=abc _ rfl;have hT:Shared.TypeIs { s with heap:=s.heap.push (jo w) } (.ref s.heap.objs.size) "set" := ⟨_,gS,rfl⟩;have mE:=PySem.F.called_set.init.lookup;have IC:=PySem.F.called_set.init.bind (.ref s.heap.objs.size)
   repeat (any_goals (first|assumption|wp_step))
   refine aeM (ad1 (R:=wants (λr s₂=>r = .none/\∃ h' tk M,s₂ = { s with heap:=h',toks:=tk }/\lF h' s.heap.objs.size M (nU w)/\so key items.size M /\
    (∀ b o,b<s.heap.objs.size->s.heap.get? b=some o->h'.get? b=some o)) E) PySem.F.called_set.init.plain PySem.F.entry_set_init (check_set_init_1 hT ?_)) λr₂ s₂ Aa=>?_
   .have lt:l<s.heap.objs.size:=let ⟨_,e,_⟩:=hl;aa6 e;obtain⟨ol,ID,bf,nl,hdl⟩:=id hl;obtain⟨ocls,odict,odata,oslots⟩:=ol;obtain rfl:ocls = .type "list" := bf;obtain rfl:odata = .seq items nl:=hdl;have Ua:(s.heap.push (jo w)).get? l=some { cls:=.type "list",dict:=odict,data:=.seq items nl,slots:=oslots }:=aa5 _ ID;have aaR:=PySem.F.sub_list_set;have aaS:=PySem.F.sub_list_frozenset;have bV:(afI "list" == afI "dict")=false:=by decide
    have qb:(s.heap.push (jo w)).IsList l items:=⟨_,Ua,rfl,nl,rfl⟩
    unfold ac5.«set.__init__» noKeywords Builtin.Frozenset.updateFrom;generalize Ub:ai5=PI;wp_walk;subst Ub;refine aez qb (aaZ (wpAny_runValue ?_));have Uc:A.in1.in1.in1.handled=none:=by simp[hh]
    have Ab:(s.heap.push (jo w)).objs.size=s.heap.objs.size+1:=adJ _ _;have lI:l≠(s.heap.push (jo w)).objs.size:=by rw[Ab];exact abk (adY lt)
    have SI:s.heap.objs.size∉[(s.heap.push (jo w)).objs.size,l]:=by rw[Ab];simp only[abl,adH,or_false,not_or];exact⟨abk (ad9 _),ace lt⟩
    refine TX ((Walks.list Uc _ l lI items).toS) s.heap.objs.size SI (key:=key) (led:=nU w) hit hn (items.size-0) 0 _ [] (by lia) (abt _)
     ⟨⟨_,abc _ rfl,rfl,rfl⟩,(qb.push _)⟩ (TV (aa5 _ gS))
     ⟨aeK,λ_ hx=>(by cases hx),λj hj=>(by lia),abt _⟩ λs' M hm lG hM=>?_
    obtain⟨h',g',d',Ac,oT⟩:=s';obtain rfl:g'=s.gens:=hm.gens;obtain rfl:d'=s.drawn:=hm.drawn;obtain rfl:oT=s.os:=hm.os;show abm _ _ _ _ _ _;refine aa4 (show abm _ _ (ret Value.none) _ _ _ from aa4 ⟨rfl,h',Ac,M,rfl,lG,hM,λb o hb e=>?_⟩);refine hm.heap b o ?_ (aa5 _ (aa5 _ e));simp only[abl,adH,or_false,not_or,Ab];exact⟨abk hb,abk (adY hb)⟩
   .cases r₂ with
    | error e=>exact Aa
    | ok Ud =>
     cases Ud with
     | ret r =>
      obtain⟨rfl,h',tk,M,rfl,lG,hM,gy⟩:=Aa
      repeat (any_goals (first|assumption|wp_step))
      exact h _ _ M lG hM gy
     | _=>exact Aa.elim
  | _=>exact hr.elim
end
theorem Ue(kis:List (List Int))(ns:List Int):dQ kis V.non (ns.map V.int)=(dQ kis 0 ns).map V.int:=by unfold dQ;rw[abS,aa2];refine ada λi hi=>?_;have hp:=(pB (n:=ns.length) (nF kis)).1;have:i<ns.length:=acO.mp (hp.mem_iff.mp hi);simp[aiz,this]
theorem IE:∀ M:List (Int × afm),Vals ((M.map (·.1)).map V.int) (M.map λm=>Value.int m.1 m.2)
 | []=>.nil
 | m::M=>.cons ⟨m.2,rfl⟩ (IE M)
def IF(K:aa0)(t:TE):TE:=λσ H Q=>t σ H λv H1=>∃ (a:abd) (ns:List Int),v=V.ref a/\ai K H1 a (ns.map V.int)/\ns.length<=2 /\
 ∀ zs:List Int,zs.Nodup->(∀ x,x∈zs↔x∈ns)->zs.Pairwise (· <= ·)->∀ l,H1 l=none->Q (.ref l) (upd H1 l (.lst (zs.map V.int)))
section
theorem Ug(hc:X.calm=true)(he:PE X e t)(nV:Gl X "sorted")(Ad:X.mg "sorted" = none)(qc:abP "sorted" = some (.builtin "sorted"))(sq:Gl X "set")(mF:X.mg "set" = none)(qd:abP "set" = some (.type "set"))(cZ:abA [e] X.env=[(false,eval e X.env)]:=by rfl)(sr:abA [.Call (.Name "set" p2) [e] [] gE] X.env=[(false,eval (.Call (.Name "set" p2) [e] [] gE) X.env)]:=by rfl) :
 PE X (.Call (.Name "sorted" p1) [.Call (.Name "set" p2) [e] [] gE] [] pos) (IF X.K t):=by
 intro pins s σ H Q I h;refine acs (fI I nV Ad qc ?_ (by decide) (by decide));refine adA ?_ (by rw[sr];rfl) rfl;rw[sr];show abm _ _ (spliced ((false,eval (.Call (.Name "set" p2) [e] [] gE) X.env)::adh pos [])) _ _ s;refine acR ?_;refine acs (fI I sq mF qd ?_ (by decide) (by decide));refine abI ?_ (by rw[cZ];rfl) rfl;rw[cZ];show abm _ _ (spliced ((false,eval e X.env)::adh gE [])) _ _ s;refine acR (aE (he pins s σ H _ I h) λu s1 zq=>?_);obtain⟨x,H1,I1,r1,q1⟩:=zq;obtain⟨a,ns,rfl,hS,hn,q⟩:=q1;cases r1;refine ac0 ?_;obtain⟨us,rv,pl,hz⟩:=I1.list hS;have hl:us.length=ns.length:=by have:=rv.length;rw[aa2] at this;lia
 have hint:=intsAre_of rv;refine T9 (items:=us.toArray) (key:=λi=>ns.getD i 0) (I1.ok.hd hc) pl.isList (by simp;lia) (λi v hv=>?_) λh2 tk M Uh hM hk=>?_
 .exact IntsAre.int_at hint i v (by simpa using hv)
 refine ac0 ?_;obtain⟨o,ep,tb,L,g1,g2,g3,Ac,g4,g5,g7⟩:=Uh;have hx:pZ X.w s1.heap.objs.size o ep tb L:=⟨g2,g3,Ac,g4,g5⟩
 have hsz:us.toArray.size=us.length:=by simp
 rw[hsz] at hM;obtain⟨m1,m2,m3,m4⟩:=hM;have Ui:L.length=M.length:=by have:=congrArg List.length g7;simpa using this
 have hp:((jq X.w s1.heap.objs.size ep (L.map (·.2)).toArray).toList).Perm (M.map lE):=by have:=z7 X.w s1.heap.objs.size ep (L.map (·.2)).toArray;rw[afn,g7] at this;rw[g7];exact this
 obtain⟨M',e1,e2⟩:=Iu hp;have aaT:M'.length=L.length:=e2.length_eq.trans Ui.symm;have fu:(M'.map (·.1)).Nodup:=((e2.map (·.1)).nodup_iff).mpr m1;have Uj:=IE M';refine Tu (s:={ s1 with heap:=h2,toks:=tk }) (kis:=M'.map λm=>[m.1]) (vs:=M'.map λm=>Value.int m.1 m.2) (by simp) (by simp;lia) (λi hi=>?_) (λA' Q' E' hA hq=>?_) λl h' vJ k1 k2 k3=>?_
 .have cR:i<M'.length:=by simpa using hi
  exact⟨M'[i].1,M'[i].2,by simp[cR],by simp[aiz,cR]⟩
 .refine Hi (s:={ s1 with heap:=h2,toks:=tk }) (TM hx) (hA.trans (I1.ok.hd hc)) g1 (abb (show L.length<=64 by lia) (by decide)) λh3 yZ acc b1 b2 b3=>?_;have Uk:acc.toList=M'.map λm=>Value.int m.1 m.2:=by
   refine aeF λi=>?_;rw[aeT];by_cases hi:i<L.length
   .have cR:i<acc.size:=by rw[b3.1];exact hi
    have IG:i<M'.length:=by lia
    have:=b3.2 i acc[i] (abN cR);dsimp only at this;have e3:(jq X.w s1.heap.objs.size ep (L.map (·.2)).toArray)[i]?=some (lE M'[i]):=by rw[<- aeT,e1];simp[IG]
    rw[e3] at this;rw[abN cR,<- this];simp[IG]
   .rw[adM (by rw[b3.1];lia)];rw[eq_comm,List.getElem?_eq_none_iff];simp only[aa2];lia
  rw[Uk];exact hq h3 yZ b1 b2
 .refine Hm (s:=s1) (ks:=(M'.map (·.1)).map V.int) (kis:=M'.map λm=>[m.1]) (us:=M'.map λm=>Value.int m.1 m.2) I1 Uj ?_ ?_ (λb u e=>k2 b u (hk b u (aa6 e) e)) k3 λl' qU=>?_
  .simp only[aa2];exact abb (show _<=64 by lia) (by decide)
  .exact abb (aeL (aa6 g1)) k1
  .rw[Ue];refine q _ ((pE.nodup_iff).mpr fu) (λx=>?_) ?_ l' qU
   .rw[pE.mem_iff,(e2.map (·.1)).mem_iff];constructor
    .intro gy;obtain⟨m,hm,rfl⟩:=aa8.mp gy;obtain⟨j,hj,ej⟩:=m2 m hm;have:j<ns.length:=by lia
     rw[ej];simp[aiz,this]
    .intro gy;obtain⟨j,hj,rfl⟩:=aha gy;have:=m3 j (by lia);simpa [aiz,hj] using this
   .have:=Rf (kis:=M'.map λm=>[m.1]) (d:=(0:Int)) (as:=M'.map (·.1)) (f:=λx=>[x]) (by rw[abS];rfl);refine this.imp λ{a b} fK=>?_;rw[HT.oV] at fK;by_cases e:b=a
    .lia
    .rw[if_neg e] at fK;have:=of_decide_eq_false fK;lia
def Ul(r r' zr:R2)(ta tb tc td:TE):TE:=λσ H Q=>ta σ H λx H1=>tb σ H1 λy H2=>r x y H2 λz H3=>∃ k,z = .bl k /\
 (if k=true then tc σ H3 λw' H4=>r' y w' H4 λz2 H5=>∃ k2,z2 = .bl k2/\(if k2=true then td σ H5 λw2 H6=>zr w' w2 H6 Q else Q (.bl false) H5) else Q (.bl false) H3)
end
noncomputable def eO:S2->List S2
 | (none,none)=>[]
 | (some l,none)=>[(none,some (l-1))]
 | (none,some h)=>[(some (h+1),none)]
 | (some l,some h)=>[(none,some (l-1)),(some (h+1),none)]
noncomputable def bw(ps:List Pa):List (List Pa):=ps.flatMap λp=>(eO p.2.2).map λo=>[((p.1,p.2.1,o):Pa)]
def b6(H:Hp)(v:V)(ps:List Pa):Prop:=∃ l xs,v = .ref l/\H l=some (.lst xs)/\dq H xs ps
theorem b6.same(h:b6 H v ps)(s:aj H H'):b6 H' v ps:=let ⟨l,xs,e,a,b⟩:=h;⟨l,xs,e,s _ _ a,b.same s⟩
def cN(H0 H:Hp)(v:V)(ps:List Pa):Prop:=∃ c xs,v = .ref c/\H0 c=none/\H c=some (.lst xs)/\dq H xs ps
theorem cN.same(h:cN H0 H v ps)(s:aj H H'):cN H0 H' v ps:=let ⟨c,xs,e,n,a,b⟩:=h;⟨c,xs,e,n,s _ _ a,b.same s⟩
theorem cN.back(h:cN H1 H v ps)(s:aj H0 H1):cN H0 H v ps:=let ⟨c,xs,e,n,a,b⟩:=h;⟨c,xs,e,s.free n,a,b⟩
theorem cN.cl(h:cN H0 H v ps):b6 H v ps:=let ⟨c,xs,e,_,a,b⟩:=h;⟨c,xs,e,a,b⟩
def kr(H0:Hp)(l:abd)(H:Hp)(v:V)(ps:List Pa):Prop:=∃ c xs,v = .ref c/\c≠l/\H0 c=none/\H c=some (.lst xs)/\dq H xs ps
theorem kr.same(h:kr H0 l H v ps)(s:aj H H'):kr H0 l H' v ps:=let ⟨c,xs,e,m,n,a,b⟩:=h;⟨c,xs,e,m,n,s _ _ a,b.same s⟩
theorem kr.put(h:kr H0 l H v ps)(hl:H l=some (.lst ys)):kr H0 l (upd H l o) v ps:=let ⟨c,xs,e,m,n,a,b⟩:=h;⟨c,xs,e,m,n,by rw[aB m];exact a,b.put hl⟩
theorem kr.Um(h:kr H0 l H v ps):cN H0 H v ps:=let ⟨c,xs,e,_,n,a,b⟩:=h;⟨c,xs,e,n,a,b⟩
def Kp(P:abd->Prop)(H H':Hp):Prop:=∀ a o,¬ P a->H a=some o->H' a=some o
def Nl(H H':Hp):Prop:=∀ a o,(∀ xs,o ≠ .lst xs)->H a=some o->H' a=some o
theorem Kp.refl:Kp P H H:=λ_ _ _ h=>h
theorem Kp.same(h:Kp P H H1)(s:aj H1 H2):Kp P H H2:=λa o n e=>s _ _ (h a o n e)
theorem Kp.put(h:Kp P H H1)(hc:P c):Kp P H (upd H1 c o):=λa o n e=>by
 have ne:a≠c:=λz=>by rw[z] at n;exact n hc
 rw[aB ne];exact h a o n e
theorem Kp.nl(h:Kp P H H1)(hP:∀ a,P a->∃ xs,H a=some (.lst xs)):Nl H H1:=λa o n e=>h a o (λz=>by
 obtain⟨xs,hx⟩:=hP a z;rw[hx] at e;cases e;exact n xs rfl) e
theorem Kp.new(h:Kp P H H1)(s:aj H0 H)(hP:∀ a,P a->H0 a=none):aj H0 H1:=λa o e=>h a o (λz=>by rw[hP a z] at e;cases e) (s a o e)
theorem eX.nl(h:eX H v p)(s:Nl H H'):eX H' v p:=let ⟨t,q,e,a,b⟩:=h;⟨t,q,e,s _ _ (λ_ z=>nomatch z) a,s _ _ (λ_ z=>nomatch z) b⟩
theorem cN.kp(h:cN H0 H v ps)(k:Kp P H H')(s:Nl H H')(hP:∀ a,P a->H0 a≠none):b6 H' v ps:=by obtain⟨c,xs,e,n,a,b⟩:=h;exact⟨c,xs,e,k _ _ (λz=>hP c z n) a,b.imp λ_ _ r=>r.nl s⟩
noncomputable def wm(ps:List Pa):aew:=.list (ps.map zK)
theorem b6.dat{K:aa0}{H:Hp}{v:V}{ps:List Pa}(h:b6 H v ps):Dat K H v (wm ps):=by obtain⟨l,xs,rfl,a,b⟩:=h;exact .lst (ai.of a) (ke.zJ (λ_ _ r=>eX.dat r) b)
theorem Uo(h:∀ p∈ps,adV p.1=true):Gd 3 (wm ps):=.lst λd hd=>by obtain⟨p,hp,rfl⟩:=aa8.mp hd;exact Sk (h p hp)
theorem wt{K:aa0}{H:Hp}{l:abd}{ys:List V}{cls:List (List Pa)}(hl:H l=some (.lst ys))(hy:az (b6 H) ys cls):Dat K H (.ref l) (.list (cls.map wm)):=.lst (ai.of hl) (ke.zJ (λ_ _ r=>b6.dat r) hy)
theorem IH{cls:List (List Pa)}(h:∀ ps∈cls,∀ p∈ps,adV p.1=true):Gd 4 (.list (cls.map wm)):=.lst λd hd=>by obtain⟨ps,hp,rfl⟩:=aa8.mp hd;exact Uo (h ps hp)
theorem Up{ps:List Pa}{i:Nat}{p:Pa}(h:ps[i]?=some p):bw (ps.take (i+1))=bw (ps.take i)++(eO p.2.2).map λo=>[((p.1,p.2.1,o):Pa)]:=by unfold bw;rw[ab9,h,List.flatMap_append];simp
theorem pQ(s:S2):(eO s).length<=2:=by obtain⟨a,b⟩:=s;cases a<;>cases b<;>simp[eO]
theorem II{α β:Type}{f:α->List β}{c:Nat}:∀ (l:List α),(∀ a∈l,(f a).length<=c)->(l.flatMap f).length<=c * l.length
 | [],_=>by simp
 | a::l,h=>by have h1:=h a (.head _);have h2:=II l λb hb=>h b (.tail _ hb);rw[ahO,abf,abX,Nat.mul_add,Nat.mul_one];omega
theorem su(ps:List Pa):(bw ps).length<=2 * ps.length:=II ps λp _=>by rw[aa2];exact pQ _
noncomputable def ku(u:aa9):Bool:=match u with|.none=>true|_=>false
noncomputable def lH(v:V):Bool:=decide (v = .non)
def qe(H:Hp)(xs:List V):Prop:=∀ v∈xs,v = .non ∨ ∃ a ys,v = .ref a/\H a=some (.tup ys)
section
theorem IJ{x:V}{u:aa9}{H:Hp}(r:RelV x u)(h:x = .non ∨ ∃ a ys,x = .ref a/\H a=some (.tup ys)):ku u=lH x:=by
 rcases h with rfl|⟨a,ys,rfl,_⟩
 .cases r;rfl
 .cases r;rfl
theorem IK:∀ {xs:List V} {us:List aa9},Vals xs us->qe H xs->us.any ku=xs.any lH
 | _,_,.nil,_=>rfl
 | x::xs,u::us,.cons r t,f=>by rw[acw,acw,IJ r (f x (.head _)),IK t λv hv=>f v (.tail _ hv)]
theorem Ae:∀ {xs:List V} {us:List aa9},Vals xs us->qe H xs->∀ (m:Nat) (h:m<us.length),ku us[m]=lH (xs.getD m .non)
 | _,_,.nil,_,m,h=>absurd h (acQ _)
 | x::xs,u::us,.cons r t,f,0,h=>IJ r (f x (.head _))
 | x::xs,u::us,.cons r t,f,m+1,h=>Ae t (λv hv=>f v (.tail _ hv)) m (agq h)
theorem Af(I:Inv X pins σ H s)(hu:A.units<afq):∀ {xs:List V} {us:List aa9},Vals xs us->qe H xs->∀ u∈us,SeqAt.EqAt A s u .none (ku u)
 | _,_,.nil,_=>λu hu=>by cases hu
 | x::xs,u::us,.cons r t,f=>λu' Ag=>by
  rcases abl.mp Ag with rfl|Ag
  .rcases f x (.head _) with rfl|⟨a,ys,rfl,ha⟩
   .cases r;exact SeqAt.EqAt.same _
   .cases r;obtain⟨_,ar,r',o',k1,k2,n,k3⟩:=(show bN X.prog X.w H s.heap a (.tup ys) from I.ay a _ ha)
    exact SeqAt.EqAt.tuple_none ⟨o',k1,k2,n,k3⟩ hu
  .exact Af I hu t (λv hv=>f v (.tail _ hv)) u' Ag
def Uq(K:aa0):R2:=λx y H Q=>∃ a xs,x = .non/\y = .ref a/\ai K H a xs/\qe H xs/\Q (.bl (xs.any lH)) H
theorem IL(hu:X.A.units+1<afq):br X (acm .In) (Uq X.K):=by intro pins s σ H x y v u Q I rx ry h;obtain⟨a,xs,rfl,rfl,hq,hn,q⟩:=h;cases rx;cases ry;obtain⟨ar,r,pl,hz⟩:=I.list hq;refine SeqAt.in_listAt ku pl.isList (λw hw=>Af I (A:=X.A.in1) (acT (knd:=cK X.prog X.w) hu) r hn w (by simpa using hw)) ⟨.bl _,H,I,rfl,?_⟩;rw[show ar.toArray.any ku=ar.any ku by simp,IK r hn];exact q
def Ur(K:aa0)(x:V)(ys:List V)(H:Hp)(Q:VK):Prop:=∃ a xs j,x = .ref a/\ys=[.non]/\ai K H a xs/\qe H xs/\j<xs.length/\xs.length<=1000/\lH (xs.getD j .non)=true/\(∀ m,m<j->lH (xs.getD m .non)=false)/\Q (.int (j:Nat)) H
theorem IM(hu:X.A.units+1<afq):EK X "list.index" (Ur X.K):=by
 intro pins s σ H x xs v us Q I rx r h;obtain⟨a,xs,j,rfl,rfl,hq,hn,hj,hl,h1,h2,q⟩:=h;cases rx;obtain⟨u,rfl,ru⟩:=vals1 r;cases ru;obtain⟨ar,r,pl,hz⟩:=I.list hq;obtain⟨⟨cls,dd,data,sl⟩,ho,hc,n,hd⟩:=id pl.isList;simp only at hc hd;subst hc hd;have hlen:ar.length=xs.length:=(Vals.length r).symm;refine ahF aer ⟨_,ho,rfl⟩ PySem.F.entry_list_index (PySem.F.args_list_index_2 _ _)
  (SeqAt.list_indexAt a ar.toArray n dd sl .none ku j (by simpa [hlen] using hj) (by lia) ?_ ?_) ⟨ho,λy hy=>Af I (A:=X.A.in1) (acT (knd:=cK X.prog X.w) hu) r hn y (by simpa using hy),?_⟩
 .show ku ar[j]=true;rw[Ae r hn];exact h1
 .intro m hm aU;show ku ar[m]=false;rw[Ae r hn];exact h2 m aU
 .exact⟨.int j,H,I.tok _,⟨_,rfl⟩,q⟩
end
noncomputable def gF(p:P2):W2:=some (some p.1,some p.2)
theorem IP:∀ (ss:List S2) (a b:Int),∃ a' b',bh (some a,some b) ss=(some a',some b')
 | [],a,b=>⟨a,b,rfl⟩
 | s::ss,a,b=>by
  rw[v3];have h1:∃ x,dR (some a) s.1=some x:=by rcases s.1 with _|c<;>exact⟨_,rfl⟩
  have h2:∃ x,dS (some b) s.2=some x:=by rcases s.2 with _|c<;>exact⟨_,rfl⟩
  obtain⟨x,hx⟩:=h1;obtain⟨y,hy⟩:=h2;rw[hx,hy];exact IP ss x y
theorem Us(h:fN (none,none) ((some a,some b)::ss)=some s):∃ p:P2,some s=gF p/\p.1<=p.2:=by
 unfold fN at h;rw[v3] at h;obtain⟨x,y,e⟩:=IP ss a b;rw[show (dR (none,none).1 (some a,some b).1,dS (none,none).2 (some a,some b).2)=((some a,some b):S2) from rfl,e] at h;split at h
 .cases h
 .rename_i hc;cases h;exact⟨(x,y),rfl,by simpa [aT] using hc⟩
theorem IQ(hf:∀ k s,f k=some s->∃ p:P2,some s=gF p/\p.1<=p.2):∀ (ks:List Nat),(∀ k∈ks,f k≠none)->∃ pp:List P2,ks.map f=pp.map gF/\eW pp
 | [],_=>⟨[],rfl,λ_ h=>nomatch h⟩
 | k::ks,h=>by
  obtain⟨pp,e,ho⟩:=IQ hf ks λj hj=>h j (.tail _ hj);cases hk:f k with
  | none=>exact absurd hk (h k (.head _))
  | some s =>
   obtain⟨p,e1,e2⟩:=hf k s hk;refine⟨p::pp,by rw[abj,abj,e,hk,e1],λq hq=>?_⟩;rcases abl.mp hq with rfl|hq
   .exact e2
   .exact ho q hq
theorem all_some:∀ (ws:List W2),(∀ w∈ws,w≠none)->∃ gs:List S2,ws=gs.map some
 | [],_=>⟨[],rfl⟩
 | w::ws,h=>by
  obtain⟨gs,e⟩:=all_some ws λj hj=>h j (.tail _ hj);cases w with
  | none=>exact absurd rfl (h none (.head _))
  | some s=>exact⟨s::gs,by rw[e];rfl⟩
theorem Ah:∀ {ys:List V} {ws:List W2},az (gA H) ys ws->qe H ys/\(ys.any lH=ws.any adZ)/\∀ m,lH (ys.getD m .non)=(ws.getD m none).isNone
 | [],[],_=>⟨(λ_ h=>nomatch h),rfl,λ_=>rfl⟩
 | y::ys,w::ws,h=>by
  obtain⟨h1,h2⟩:=h;obtain⟨a,b,c⟩:=Ah h2;have key:(y = .non ∨ ∃ a ys,y = .ref a/\H a=some (.tup ys))/\lH y=w.isNone:=by
   cases w with
   | none =>
    obtain rfl:y = .non:=h1;exact⟨.inl rfl,rfl⟩
   | some s =>
    obtain⟨p,rfl,hp⟩:=h1;exact⟨.inr ⟨p,_,rfl,hp⟩,rfl⟩
  refine⟨λv hv=>?_,by rw[acw,acw,b,key.2],λm=>?_⟩
  .rcases abl.mp hv with rfl|hv
   .exact key.1
   .exact a v hv
  .cases m with
   | zero=>exact key.2
   | succ m=>exact c m
 | [],_::_,h=>h.elim
 | _::_,[],h=>h.elim
theorem Ai:∀ {xs:List α},xs.any p=true->∃ j,j<xs.length/\p (xs.getD j d)=true/\∀ m,m<j->p (xs.getD m d)=false
 | [],h=>by cases h
 | x::xs,h=>by
  cases hx:p x with
  | true=>exact⟨0,Nat.zero_lt_succ _,hx,λm hm=>absurd hm (acQ _)⟩
  | false =>
   rw[acw,hx,ahp] at h;obtain⟨j,h1,h2,h3⟩:=Ai (d:=d) h;refine⟨j+1,Nat.succ_lt_succ h1,h2,λm hm=>?_⟩;cases m with
   | zero=>exact hx
   | succ m=>exact h3 m (agq hm)
theorem IS{ws:List W2}(h:ws.any adZ=false):∀ w∈ws,w≠none:=λw hw e=>by have:=ahy.mp h w hw;rw[e] at this;exact this rfl
theorem IT:∀ {ys:List V} {pp:List P2},az (gA H) ys (pp.map gF)->gx H ys pp
 | [],[],_=>trivial
 | _::_,_::_,h=>⟨h.1,IT h.2⟩
 | [],_::_,h=>h.elim
 | _::_,[],h=>h.elim
theorem lx.reach(T:lx ps ms tp):∀ (n t:Nat) {v k:Int},t+n<=ps.length ->
 (tp t=some (v,k)->∃ v' k',tp (t+n)=some (v',k')/\v'<=v+(pre (·.2) ps (t+n)-pre (·.2) ps t)) /\
 (tp (t+n)=some (v,k)->∃ v' k',tp t=some (v',k')/\v'<=v+(pre (·.1) ps t-pre (·.1) ps (t+n)))
 | 0,t,v,k,_=>⟨λh=>⟨v,k,h,by simp⟩,λh=>⟨v,k,h,by simp⟩⟩
 | n+1,t,v,k,hn=>by
  refine⟨λh=>?_,λh=>?_⟩
  .obtain⟨v1,k1,e1,h1⟩:=(T.reach n t (by lia)).1 h;obtain⟨v2,k2,e2,h2⟩:=T.fwd (t+n) v1 k1 (by lia) e1;refine⟨v2,k2,e2,?_⟩;rw[show t+(n+1)=(t+n)+1 by lia,gB _ ps (by lia)];lia
  .obtain⟨v1,k1,e1,h1⟩:=T.bwd (t+n) v k (by lia) h;obtain⟨v2,k2,e2,h2⟩:=(T.reach n t (by lia)).2 e1;refine⟨v2,k2,e2,?_⟩;rw[show t+(n+1)=(t+n)+1 by lia,gB _ ps (by lia)];lia
theorem Ut(T:lx ps ms tp)(hm:∀ m∈ms,m.1<=ps.length)(hn:∀ m∈ns,m.1<=ps.length)(h0:rZ ns tp)(ha:a∈ms)(hb:b∈ns):¬ clash ps a b:=by
 rintro ⟨h,l,e1,e2,aU⟩;obtain⟨v,k,e3,h3⟩:=T.top a ha h e1;have rC:=hm a ha;have cf:=hn b hb;have key:∃ v' k',tp b.1=some (v',k')/\v'<=v+bM ps a.1 b.1:=by
  unfold bM;by_cases hle:a.1<=b.1
  .rw[if_pos hle];obtain⟨n,jR⟩:∃ n,b.1=a.1+n:=⟨b.1-a.1,by lia⟩
   rw[jR];exact (T.reach n a.1 (by lia)).1 e3
  .rw[if_neg hle];obtain⟨n,jR⟩:∃ n,a.1=b.1+n:=⟨a.1-b.1,by lia⟩
   rw[jR] at e3 ⊢;exact (T.reach n b.1 (by lia)).2 e3
 obtain⟨v',k',e4,h4⟩:=key;have:=h0 b hb l v' k' e2 e4;lia
theorem Aj:m∈aK tb i ↔ ∃ r∈tb,r.1.1=i/\m=(r.1.2.toNat,r.2):=by
 unfold aK;simp only[aa8,abE,decide_eq_true_eq];constructor
 .rintro ⟨r,⟨h1,h2⟩,rfl⟩;exact⟨r,pX.mem_iff.mp h1,h2,rfl⟩
 .rintro ⟨r,h1,h2,rfl⟩;exact⟨r,⟨pX.mem_iff.mpr h1,h2⟩,rfl⟩
noncomputable def sx(e:Nat)(tb:Tb):List (Int × List Mk):=(abG e).map λ(i:Nat)=>((i:Int),aK tb (i:Int))
theorem Uu(hp:eW ps)(ht:t<ps.length):bM ps i (t+1)<=bM ps i t+(aF ps t).2:=by
 have h:=hp _ (pw ht);have e1:=gB (·.1) ps ht;have e2:=gB (·.2) ps ht;unfold bM;split<;>split<;>first|lia|(have z:i=t+1:=(by lia);subst z;lia)
theorem Uv(hp:eW ps)(ht:t<ps.length):bM ps i t<=bM ps i (t+1)-(aF ps t).1:=by
 have h:=hp _ (pw ht);have e1:=gB (·.1) ps ht;have e2:=gB (·.2) ps ht;unfold bM;split<;>split<;>first|lia|(have z:i=t+1:=(by lia);subst z;lia)
theorem Uw(ps:List P2)(i:Nat):bM ps i i<=0:=by unfold bM;split<;>lia
theorem IU(hp:eW ps)(ms:List Mk):∀ n,n<=ms.length->∃ tp,lx ps (ms.take n) tp
 | 0,_=>⟨λ_=>none,⟨λ_ _ _ _ e=>(nomatch e),λ_ h=>(nomatch h),λ_ _ _ _ e=>(nomatch e),λ_ _ _ _ e=>(nomatch e)⟩⟩
 | n+1,hn=>by
  obtain⟨tp,T⟩:=IU hp ms n (by lia);have hm:ms[n]?=some ms[n]:=aa3 (by lia);generalize ms[n]=m at hm;have et:ms.take (n+1)=ms.take n++[m]:=by rw[ab9,hm];rfl
  have tl:(ms.take n).length=n:=by rw[adG];lia
  cases hi:m.2.2 with
  | none =>
   refine⟨tp,⟨λt v k ht e=>?_,λa ha h e=>?_,T.fwd,T.bwd⟩⟩
   .obtain⟨i,a,h,h1,h2,h3⟩:=T.val t v k ht e;have:=(aa7.mp h2).1;exact⟨i,a,h,h1,by rw[et,ab0 this];exact h2,h3⟩
   .rw[et] at ha;rcases abD.mp ha with z|z
    .exact T.top a z h e
    .rw[abp.mp z,hi] at e;cases e
  | some h0 =>
   have one:∀ t v k,(match tp t with|some (v,k)=>if h0+bM ps m.1 t<v then some (h0+bM ps m.1 t,(n:Int)) else some (v,k)|none=>some (h0+bM ps m.1 t,(n:Int)))=some (v,k) ->
    v<=h0+bM ps m.1 t/\(∀ v' k',tp t=some (v',k')->v<=v')/\((v=h0+bM ps m.1 t/\k=(n:Int))∨tp t=some (v,k)):=by
    intro t v k e;cases h1:tp t with
    | none =>
     rw[h1] at e;cases e;exact⟨ach _,λ_ _ z=>(nomatch z),.inl ⟨rfl,rfl⟩⟩
    | some q =>
     obtain⟨v1,k1⟩:=q;rw[h1] at e;dsimp only at e;split at e
     .cases e;refine⟨ach _,λv' k' z=>?_,.inl ⟨rfl,rfl⟩⟩;cases z;lia
     .cases e;refine⟨by lia,λv' k' z=>?_,.inr rfl⟩;cases z;exact ach _
   have ex:∀ t,∃ v k,(match tp t with|some (v,k)=>if h0+bM ps m.1 t<v then some (h0+bM ps m.1 t,(n:Int)) else some (v,k)|none=>some (h0+bM ps m.1 t,(n:Int)))=some (v,k):=λt=>by
    cases h1:tp t with
    | none=>exact⟨_,_,rfl⟩
    | some q =>
     obtain⟨v1,k1⟩:=q;dsimp only;split<;>exact⟨_,_,rfl⟩
   refine⟨λt=>match tp t with|some (v,k)=>if h0+bM ps m.1 t<v then some (h0+bM ps m.1 t,(n:Int)) else some (v,k)|none=>some (h0+bM ps m.1 t,(n:Int)),⟨λt v k ht e=>?_,λa ha h e=>?_,λt v k ht e=>?_,λt v k ht e=>?_⟩⟩
   .obtain⟨_,_,⟨rfl,rfl⟩|e1⟩:=one t v k e
    .exact⟨n,m,h0,rfl,by rw[et,acg (by lia),tl,agK];rfl,hi,ach _⟩
    .obtain⟨i,a,h,h1,h2,h3⟩:=T.val t v k ht e1;have:=(aa7.mp h2).1;exact⟨i,a,h,h1,by rw[et,ab0 this];exact h2,h3⟩
   .obtain⟨v,k,e1⟩:=ex a.1;obtain⟨o1,o2,_⟩:=one _ _ _ e1;refine⟨v,k,e1,?_⟩;rw[et] at ha;rcases abD.mp ha with z|z
    .obtain⟨v',k',e2,h2⟩:=T.top a z h e;have:=o2 v' k' e2;lia
    .rw[abp.mp z] at e o1;rw[hi] at e;cases e;have:=Uw ps m.1;lia
   .obtain⟨v',k',e1⟩:=ex (t+1);obtain⟨o1,o2,_⟩:=one _ _ _ e1;refine⟨v',k',e1,?_⟩;obtain⟨_,_,⟨rfl,rfl⟩|e3⟩:=one t v k e
    .have:=Uu hp (i:=m.1) ht;lia
    .obtain⟨v2,k2,e4,h4⟩:=T.fwd t v k ht e3;have:=o2 _ _ e4;lia
   .obtain⟨v',k',e1⟩:=ex t;obtain⟨o1,o2,_⟩:=one _ _ _ e1;refine⟨v',k',e1,?_⟩;obtain⟨_,_,⟨rfl,rfl⟩|e3⟩:=one (t+1) v k e
    .have:=Uv hp (i:=m.1) ht;lia
    .obtain⟨v2,k2,e4,h4⟩:=T.bwd t v k ht e3;have:=o2 _ _ e4;lia
theorem Ux(hp:eW ps)(hm:∀ m∈ms,m.1<=ps.length)(hc:∀ a∈ms,∀ b∈ms,¬ clash ps a b):∃ c,iP ps c/\meets ms c:=by
 obtain⟨tp,T⟩:=IU hp ms ms.length (aba _);rw[ab5] at T;refine Su hp hm T λm dh l v k e1 e2=>?_;rcases Int.lt_or_le v l with h|h
 .obtain⟨i,a,_,h2,h3⟩:=T.clash (hm m dh) e2 e1 h;exact absurd h3 (hc a (abi h2) m dh)
 .exact h
abbrev Cl:=(En × Nat) × (En × Nat)
noncomputable def ig(e:Int)(c:Cl):Bool:=decide (c.1.1=some e) || decide (c.2.1=some e)
noncomputable def wo(e:Int)(cs:List Cl):List Cl:=cs.filter λc=>!ig e c
def g9:Nat->List Cl->Prop
 | 0,_=>True
 | _+1,[]=>False
 | n+1,c::cs=>∀ e,ig e c=true->g9 n (wo e (c::cs))
def sy(es:List Int)(cs:List Cl):Prop:=∀ c∈cs,∃ e∈es,ig e c=true
theorem Uy(h:sy es (wo e cs)):sy (e::es) cs:=λc hc=>by
 cases hb:ig e c with
 | true=>exact⟨e,.head _,hb⟩
 | false =>
  obtain⟨x,hx,h1⟩:=h c (abE.mpr ⟨hc,by rw[hb];rfl⟩);exact⟨x,.tail _ hx,h1⟩
inductive Pp where
 | nil:Pp
 | full:Pp
 | cls:Cl->Pp->Pp->Pp
noncomputable def mG:Nat->List Cl->Pp
 | 0,_=>.full
 | _+1,[]=>.full
 | n+1,c::cs=>.cls c (match c.1.1 with|none=>.nil|some e=>mG n (wo e (c::cs))) (if c.1.1=c.2.1 then .nil else match c.2.1 with|none=>.nil|some e=>mG n (wo e (c::cs)))
def jr(gs:List S2)(tb:Tb)(as:List Int)(s:En × Nat)(m:Mk):Prop:=m.1=s.2/\match s.1 with|none=>gs[s.2]?=some m.2|some e=>e∉as/\((e,(s.2:Int)),m.2)∈tb
def Val(ps:List P2)(gs:List S2)(tb:Tb)(mo:Int):Pp->List Int->Prop
 | .nil,_=>False
 | .full,as=>mo<as.length
 | .cls c a b,as=>(∃ m n,jr gs tb as c.1 m/\jr gs tb as c.2 n/\clash ps m n)/\(match c.1.1 with|none=>a = .nil|some e=>Val ps gs tb mo a (as++[e]))/\(match c.2.1 with|none=>b = .nil|some e=>if c.1.1=some e then b = .nil else Val ps gs tb mo b (as++[e]))
theorem nW:ig e c=true↔c.1.1=some e∨c.2.1=some e:=by unfold ig;rw[afg,decide_eq_true_eq,decide_eq_true_eq]
theorem IV:∀ (n:Nat) (cs:List Cl) (as:List Int),g9 n cs->(as.length:Int)+n=mo+1->(∀ c∈cs,∃ m n,jr gs tb as c.1 m/\jr gs tb as c.2 n/\clash ps m n)->Val ps gs tb mo (mG n cs) as
 | 0,_,as,_,h,_=>by show mo<as.length;lia
 | n+1,[],_,h,_,_=>h.elim
 | n+1,c::cs,as,h,hl,hs=>by
  have sub:∀ e,ig e c=true->Val ps gs tb mo (mG n (wo e (c::cs))) (as++[e]):=λe he=>by
   refine IV n _ _ (h e he) (by rw[abf,abv];lia) λc' kL=>?_;obtain⟨h1,h2⟩:=abE.mp kL;obtain⟨m,k,a1,a2,a3⟩:=hs c' h1;have h3:ig e c'=false:=by cases hh:ig e c' with|false=>rfl|true=>rw[hh] at h2;cases h2
   have h4:∀ x,c'.1.1=some x∨c'.2.1=some x->x≠e:=λx hx z=>by subst z;rw[nW.mpr hx] at h3;cases h3
   refine⟨m,k,⟨a1.1,?_⟩,⟨a2.1,?_⟩,a3⟩
   .have:=a1.2;cases hx:c'.1.1 with
    | none=>rw[hx] at this;exact this
    | some x =>
     rw[hx] at this;refine⟨λz=>?_,this.2⟩;rcases abD.mp z with z|z
     .exact this.1 z
     .exact h4 x (.inl hx) (abp.mp z)
   .have:=a2.2;cases hx:c'.2.1 with
    | none=>rw[hx] at this;exact this
    | some x =>
     rw[hx] at this;refine⟨λz=>?_,this.2⟩;rcases abD.mp z with z|z
     .exact this.1 z
     .exact h4 x (.inr hx) (abp.mp z)
  refine⟨hs c (.head _),?_,?_⟩
  .cases hx:c.1.1 with
   | none=>rfl
   | some e=>exact sub e (nW.mpr (.inl hx))
  .cases hx:c.2.1 with
   | none=>dsimp only;split<;>rfl
   | some e =>
    dsimp only;by_cases he:c.1.1=some e
    .rw[if_pos he,if_pos he]
    .rw[if_neg he,if_neg he];exact sub e (nW.mpr (.inr hx))
abbrev Gp:=En × List Mk
def wu(ps:List P2)(gs:List Gp)(cs:List Cl):Prop:=∀ c∈cs,∃ g∈gs,∃ h∈gs,∃ m∈g.2,∃ n∈h.2,c=((g.1,m.1),(h.1,n.1))/\clash ps m n
def kx(ps:List P2)(g h:Gp)(cs:List Cl):Prop:=∀ m∈g.2,∀ n∈h.2,clash ps m n->∃ c∈cs,c.1.1=g.1/\c.2.1=h.1
theorem kx.more(x:kx ps g h cs):kx ps g h (cs++ds):=λm hm n hn hc=>let ⟨c,h1,h2⟩:=x m hm n hn hc;⟨c,acK _ h1,h2⟩
noncomputable def ky(gs:List Mk)(e:Nat)(tb:Tb):List Gp:=(none,gs)::(sx e tb).map λr=>(some r.1,r.2)
theorem Ak:m∈eN tb es ↔ ∃ r∈tb,r.1.1∉es/\m=(r.1.2.toNat,r.2):=by
 unfold eN;constructor
 .intro h;obtain⟨r,hr,rfl⟩:=aa8.mp h;obtain⟨h1,h2⟩:=abE.mp hr;exact⟨r,rX h1,by simpa using h2,rfl⟩
 .rintro ⟨r,hr,h1,rfl⟩;exact aa8.mpr ⟨r,abE.mpr ⟨pE.mem_iff.mpr hr,by simpa using h1⟩,rfl⟩
theorem IW(ay:bI e t tb)(h:m∈gm++eN tb es):∃ g∈ky gm e.toNat tb,m∈g.2/\∀ x,g.1=some x->x∉es:=by
 rcases abD.mp h with z|z
 .exact⟨_,.head _,z,λx hx=>nomatch hx⟩
 .obtain⟨r,hr,h1,rfl⟩:=Ak.mp z;have ho:=ay.2 r hr;unfold kg at ho;refine⟨(some r.1.1,aK tb r.1.1),.tail _ (aa8.mpr ⟨(r.1.1,aK tb r.1.1),aa8.mpr ⟨r.1.1.toNat,acO.mpr (by lia),by rw[adb ho.1.1]⟩,rfl⟩),Aj.mpr ⟨r,hr,rfl,rfl⟩,λx hx=>?_⟩;cases hx;exact h1
theorem Uz(ay:bI e t tb)(hp:eW ps)(hm:∀ m∈gm++eN tb es,m.1<=ps.length)(hc:sy es cs)(hx:∀ g∈ky gm e.toNat tb,∀ h∈ky gm e.toNat tb,kx ps g h cs):∃ c,iP ps c/\meets (gm++eN tb es) c :=
 Ux hp hm λa ha b hb fK=>by
  obtain⟨g,h1,h2,h3⟩:=IW ay ha;obtain⟨h,k1,k2,k3⟩:=IW ay hb;obtain⟨c,c1,c2,c3⟩:=hx g h1 h k1 a h2 b k2 fK;obtain⟨x,x1,x2⟩:=hc c c1;rcases nW.mp x2 with z|z
  .exact h3 x (c2.symm.trans z) x1
  .exact k3 x (c3.symm.trans z) x1
theorem snd_mk(ay:bI e t tb)(hg:∀ m∈gm,gs[m.1]?=some m.2)(h:wu ps (ky gm e.toNat tb) cs):∀ c∈cs,∃ m n,jr gs tb [] c.1 m/\jr gs tb [] c.2 n/\clash ps m n:=λc hc=>by
 obtain⟨g,h1,k,h2,m,h3,n,h4,rfl,h5⟩:=h c hc;have one:∀ g∈ky gm e.toNat tb,∀ m∈g.2,jr gs tb [] (g.1,m.1) m:=λg nV m hm=>by
  rcases abl.mp nV with rfl|z
  .exact⟨rfl,hg m hm⟩
  .obtain⟨q,hq,rfl⟩:=aa8.mp z;obtain⟨i,_,rfl⟩:=aa8.mp hq;obtain⟨r,hr,e1,rfl⟩:=Aj.mp hm;have ho:=ay.2 r hr;unfold kg at ho;refine⟨rfl,adH,?_⟩;show (((i:Int),((r.1.2.toNat:Nat):Int)),r.2)∈tb;rw[adb ho.2.1,<- e1];exact hr
 exact⟨m,n,one g h1 m h3,one k h2 n h4,h5⟩
section
end
abbrev kz(h:adz)(e it:abd)(i:Int)(old:aa9)(a:abd)(f:Bool):Prop :=
 h.get? e=some { cls:=.type "enumerate",dict:=none,data:=.fields #[aet a,.bool f,.ref it,aet i,.none,old],slots:=#[] }
section
theorem UA{e it l a:abd}{f:Bool}{oa:Obj}{i:Nat}{items:Array aa9}{x old:aa9}{Q:Option aa9->abe->Prop}
 (he:kz s.heap e it i old a f) (ha:s.heap.get? a=some oa) (UB:a≠e) (UC:a≠it) (hit:s.heap.IsListIter it l i) (hl:s.heap.IsList l items) (hx:items[i]?=some x) (bV:e≠it)
 (hQ:∀ h',kz h' e it ((i:Int)+1) old a true->h'.IsListIter it l (i+1) ->
   h'.get? s.heap.objs.size=some { cls:=.type "tuple",data:=.seq #[.int i s.toks,x] }->h'.objs.size=s.heap.objs.size+1 ->
   (∀ b o,b≠e->b≠it->s.heap.get? b=some o->h'.get? b=some o)->Q (some (.ref s.heap.objs.size)) { s with heap:=h',toks:=s.toks+1 }) :
 abm (model prog w) A (adP (.ref e)) Q E s:=by
 have hT:s.TypeIs (.ref e) "enumerate" := ⟨_,he,rfl⟩;obtain⟨hp,g,d,tk,os⟩:=s;unfold adP;refine aaZ (aeo (acI (name:=acf "__next__") hT ade
  (acp ade hT ae5 ?_ (aeY _))))
 show abm _ _ (field (.ref e) 2 >>= _) _ _ _;refine aaZ (afo he rfl (x:=.ref it) rfl ?_);refine aaZ (wpAny_nextOf_list_item hit hl hx λh₁ IX qf=>?_);replace qf:Heap.SameBut it hp h₁:=qf;have wx:kz h₁ e it i old a f:=(qf.2 e bV).trans he;show abm _ _ (field (.ref e) 3 >>= _) _ _ ⟨h₁,g,d,tk,os⟩;refine aaZ (afo wx rfl (x:=aet i) rfl ?_);show abm _ _ (field (.ref e) 4 >>= _) _ _ ⟨h₁,g,d,tk,os⟩;refine aaZ (afo wx rfl (x:=.none) rfl ?_);show abm _ _ (mkInt i >>= _) _ _ ⟨h₁,g,d,tk,os⟩;refine aaZ (wpAny_mkInt ?_);show abm _ _ (ah8 (.ref e) 3 (aet ((i:Int)+1)) >>= _) _ _ ⟨h₁,g,d,tk+1,os⟩;refine aaZ (afx wx (by simp) λh₂ wy qg=>?_);replace qg:Heap.SameBut e h₁ h₂:=qg;replace wy:kz h₂ e it ((i:Int)+1) old a f:=wy;show abm _ _ (ah8 (.ref e) 4 .none >>= _) _ _ ⟨h₂,g,d,tk+1,os⟩;refine aaZ (afx wy (by simp) λh₃ wz qh=>?_);replace qh:Heap.SameBut e h₂ h₃:=qh;replace wz:kz h₃ e it ((i:Int)+1) old a f:=wz;show abm _ _ (aiW [.int i tk,x] >>= _) _ _ ⟨h₃,g,d,tk+1,os⟩;refine aaZ (wpAny_newTuple ?_);have sA:kz (h₃.push { cls:=.type "tuple",data:=.seq #[.int i tk,x] }) e it ((i:Int)+1) old a f:=aa5 _ wz;generalize sC:h₃.push { cls:=.type "tuple",data:=.seq #[.int i tk,x] }=h₄ at sA;have hsz:h₃.objs.size=hp.objs.size:=by rw[qh.1,qg.1,qf.1]
 have sm:e<hp.objs.size:=aa6 he;have UD:h₄.get? hp.objs.size=some { cls:=.type "tuple",data:=.seq #[.int i tk,x] }:=by rw[<- sC,<- hsz];exact abc _ rfl
 have UE:h₄.objs.size=hp.objs.size+1:=by rw[<- sC,adJ,hsz]
 have IY:∀ b o,b≠e->b≠it->hp.get? b=some o->h₄.get? b=some o:=λb o jP IC hb=>by rw[<- sC];exact aa5 _ (qh.extBut b o jP (qg.extBut b o jP (qf.extBut b o IC hb)))
 have UG:h₄.IsListIter it l (i+1):=by rw[<- sC];obtain⟨o,ho,r⟩:=(IX.extBut qg.extBut (ab4 bV)).extBut qh.extBut (ab4 bV);exact⟨o,aa5 _ ho,r⟩
 show abm _ _ (aef (.ref e) >>= _) _ _ ⟨h₄,g,d,tk+1,os⟩;rw[hsz];clear sC wz qh wy qg wx qf IX hsz h₃ h₂ h₁;have UH:h₄.get? a=some oa:=IY a oa UB UC ha;refine aaZ ?_;unfold aef;refine aaZ (afo sA rfl (x:=aet a) rfl ?_);show abm _ _ (loadIfAlive ((a:Int).toNat) >>= _) _ _ _;rw[abU];refine aaZ (PySem.W.kdx_alive UH ?_);simp only[Option.isNone_some,aby,if_false];refine aaZ (afo sA rfl (x:=.bool f) rfl ?_);have fin:∀ h₅:adz,kz h₅ e it ((i:Int)+1) old a true->Heap.SameBut e h₄ h₅->Q (some (.ref hp.objs.size)) ⟨h₅,g,d,tk+1,os⟩:=λh₅ sD mH =>
  hQ h₅ sD (UG.extBut mH.extBut (ab4 bV)) (mH.extBut _ _ (ace sm) UD) (by show h₅.objs.size=hp.objs.size+1;rw[mH.1,UE]) λb o IZ k7 q=>mH.extBut b o IZ (IY b o IZ k7 q)
 cases f with
 | true =>
  rw[if_neg (show ¬ ((acJ true != acJ true)=true) from abo)];refine aa4 ?_;simp only[aby,if_false];exact aa4 ⟨_,rfl,aa4 (fin h₄ sA (Heap.SameBut.refl _ _))⟩
 | false =>
  rw[if_pos (show (acJ false != acJ true)=true from rfl)];refine aaZ (afx sA (by simp) λh₅ sD mH=>?_);replace mH:Heap.SameBut e h₄ h₅:=mH;replace sD:kz h₅ e it ((i:Int)+1) old a true:=sD;refine aa4 ?_;simp only[aby,if_false];exact aa4 ⟨_,rfl,aa4 (fin h₅ sD mH)⟩
theorem UI{e it l a:abd}{f:Bool}{i:Nat}{items:Array aa9}{old:aa9}{Q:Option aa9->abe->Prop}(hh:A.handled=none)
 (he:kz s.heap e it i old a f) (hit:s.heap.IsListIter it l i) (hl:s.heap.IsList l items) (hx:items[i]?=none)
 (hQ:∀ h',ait it s.heap h'->Q none { s with heap:=h' }):abm (model prog w) A (adP (.ref e)) Q E s:=by
 have hT:s.TypeIs (.ref e) "enumerate" := ⟨_,he,rfl⟩;unfold adP;refine aaZ (aeo (acI (name:=acf "__next__") hT ade
  (acp ade hT ae5 ?_ (aeY _))))
 show abm _ _ (field (.ref e) 2 >>= _) _ _ _;refine aaZ (afo he rfl (x:=.ref it) rfl ?_);refine aaZ (wpAny_nextOf_list_end hh hit hl hx λh' x pO cE=>?_);obtain⟨o,ho,hc⟩:=cE;refine aaZ (adI (T := "StopIteration") (b:=true) ⟨o,ho,hc⟩ agX ?_);exact aa4 (hQ _ pO)
def nX(h:adz)(e it S:abd)(i:Nat):Prop :=
 (∃ old,IsEnum h e it i old) ∨ ∃ old a f oa,kz h e it i old a f/\h.get? a=some oa/\a≠e/\a≠it/\a≠S
theorem nX.keep(x:nX h e it S i)(hk:∀ b o,b≠S->h.get? b=some o->h'.get? b=some o)(hI:e≠S):nX h' e it S i:=by
 rcases x with ⟨old,q⟩|⟨old,a,f,oa,q,ha,h1,h2,h3⟩
 .exact .inl ⟨old,hk _ _ hI q⟩
 .exact .inr ⟨old,a,f,oa,hk _ _ hI q,hk _ _ h3 ha,h1,h2,h3⟩
theorem UJ(st:nX s.heap e it S i)(hS:S<s.heap.objs.size)(hit:s.heap.IsListIter it l i)(hl:s.heap.IsList l items)(hx:items[i]?=some x)(bV:e≠it)(hQ:∀ h',nX h' e it S (i+1)->h'.IsListIter it l (i+1) ->
 h'.get? s.heap.objs.size=some { cls:=.type "tuple",data:=.seq #[.int i s.toks,x] }->h'.objs.size=s.heap.objs.size+1 ->
 (∀ b o,b≠e->b≠it->s.heap.get? b=some o->h'.get? b=some o)->Q (some (.ref s.heap.objs.size)) { s with heap:=h',toks:=s.toks+1 }) :
 abm (model prog w) A (adP (.ref e)) Q E s:=by
 have ce:((i:Int)+1)=((i+1:Nat):Int):=by lia
 have hi:it<s.heap.objs.size:=let ⟨_,q,_⟩:=hit;aa6 q;rcases st with ⟨old,he⟩|⟨old,a,f,oa,he,ha,h1,h2,h3⟩
 .exact agn he hit hl hx bV λh' q1 q2 q3 q4 q5=>hQ h' (.inr ⟨x,_,false,_,by rw[<- ce];exact q1,q3,ace (aa6 he),ace hi,ace hS⟩) q2 q3 q4 q5
 .exact UA he ha h1 h2 hit hl hx bV λh' q1 q2 q3 q4 q5=>hQ h' (.inr ⟨old,a,true,oa,by rw[<- ce];exact q1,q5 a oa h1 h2 ha,h1,h2,h3⟩) q2 q3 q4 q5
theorem UK(hh:A.handled=none)(st:nX s.heap e it S i)(hit:s.heap.IsListIter it l i)(hl:s.heap.IsList l items)(hx:items[i]?=none)(hQ:∀ h',ait it s.heap h'->Q none { s with heap:=h' }):abm (model prog w) A (adP (.ref e)) Q E s:=by
 rcases st with ⟨old,he⟩|⟨old,a,f,oa,he,_⟩
 .exact agC hh he hit hl hx hQ
 .exact UI hh he hit hl hx hQ
end
structure lJ(items:Array aa9)(lo:abd)(h:adz)(as:List abd):Prop where
 rise:as.Pairwise (· < ·)
 above:∀ a∈as,lo<=a
 pairs:∀ (j:Nat) (a:abd),as[j]?=some a->∃ t x,items[j]?=some x/\h.get? a=some { cls:=.type "tuple",data:=.seq #[.int j t,x] }
theorem lJ.there{items:Array aa9}{lo:abd}{h:adz}{as:List abd}(g:lJ items lo h as){a:abd}(ha:a∈as):a<h.objs.size:=by obtain⟨j,hj⟩:=abT.mp ha;obtain⟨_,_,_,e⟩:=g.pairs j a hj;exact aa6 e
theorem lJ.keep{items:Array aa9}{lo:abd}{h h':adz}{as:List abd}(g:lJ items lo h as)(k:∀ b o,lo<=b->h.get? b=some o->h'.get? b=some o):lJ items lo h' as :=
 ⟨g.rise,g.above,λj a hj=>let ⟨t,x,e1,e2⟩:=g.pairs j a hj;⟨t,x,e1,k a _ (g.above a (abi hj)) e2⟩⟩
section
variable{prog:ab1}{w:acz}{A:acP}{s:abe}{R:ahR->abe->Prop}{items:Array aa9}
theorem UL{S e it l lo:abd}(hh:A.handled=none)(bV:e≠it)(qi:S≠e)(qj:S≠it)(wA:l≠S)(hle:l≠e)(mE:l≠it)(I0:S<lo)(UM:e<lo)(Ja:it<lo)(hn:items.size<=abu)(res:aa9){h₁:adz}
 (hR:∀ h' tk acc c as,(∀ b o,b≠S->b≠e->b≠it->h₁.get? b=some o->h'.get? b=some o)->h'.get? S=some { cls:=.type "list",dict:=none,data:=.seq acc c,slots:=#[] }->as.length=items.size->lJ items lo h' as ->
   acc.toList=as.map abz->R (.ok (.ret res)) { s with heap:=h',toks:=tk }) :
 ∀ (k i:Nat) (h:adz) (tk c:Nat) (acc:Array aa9) (as:List abd),items.size-i=k->i<=items.size->nX h e it S i->h.IsListIter it l i->h.IsList l items->(∀ b o,b≠S->b≠e->b≠it->h₁.get? b=some o->h.get? b=some o) ->
  h.get? S=some { cls:=.type "list",dict:=none,data:=.seq acc c,slots:=#[] }->acc.toList=as.map abz->as.length=i->lJ items lo h as->lo<=h.objs.size ->
  ad0 (model prog w) A (.builtin "list.extend.loop" ⟨[.ref S,.ref e,res],[]⟩) R { s with heap:=h,toks:=tk }:=by
 intro k
 induction k with
 | zero =>
  intro i h tk c acc as hk hi cX hit hl Al hS iL mI hG hz;have bO:i=items.size:=by lia
  refine acd afG ?_;rw[abZ ads _];show abm _ A.in1 (adP (.ref e) >>= _) _ _ _;refine aaZ (UK (s:={ s with heap:=h,toks:=tk }) (A:=A.in1) hh cX hit hl (adM (by lia)) λh' he=>?_);exact aa4 (hR h' tk acc c as (λb o h1 h2 h3 q=>he b o h3 (Al b o h1 h2 h3 q)) (he S _ qj hS) (by lia) (hG.keep λb o hb q=>he b o (ace (abn Ja hb)) q) iL)
 | succ k ih =>
  intro i h tk c acc as hk hi cX hit hl Al hS iL mI hG hz;have aU:i<items.size:=by lia
  refine acd afG ?_;rw[abZ ads _];show abm _ A.in1 (adP (.ref e) >>= _) _ _ _;refine aaZ (UJ (s:={ s with heap:=h,toks:=tk }) (A:=A.in1) cX (aa6 hS) hit hl (abN aU) bV λh' cY lq hT hsz gy=>?_);have lG:=gy S _ qi qj hS;have Jb:acc.size=i:=by
   have:acc.toList.length=i:=by rw[iL,aa2,mI]
   simpa using this
  show abm _ A.in1 (afQ S (·.push (.ref h.objs.size)) >>= _) _ _ _;refine aaZ ?_;have Jc:lo<=h.objs.size:=hz;have sb:∀ b o,b≠S->h'.get? b=some o->(h'.update S (acq (·.push (.ref h.objs.size)))).get? b=some o:=λb o hb q=>(abq _ _ (ab4 hb)).trans q;refine ac6 lG rfl (aa4 ⟨acW ads _,ih (i+1) _ (tk+1) _ (acc.push (.ref h.objs.size)) (as++[h.objs.size]) (by lia) aU
   (cY.keep sb (ab4 qi)) (lq.at λo q=>sb it o (ab4 qj) q) ((hl.at λo q=>gy l o hle mE q).at λo q=>sb l o wA q)
   (λb o h1 h2 h3 q=>sb b o h1 (gy b o h2 h3 (Al b o h1 h2 h3 q))) (abL _ lG rfl) (by rw[ahN,iL];simp) (by rw[abf,mI];rfl) ?_ ?_⟩)
   (by rw[Jb];lia) (by show (acc.push _).size<=abu+1;rw[Array.size_push,Jb];lia)
  .have up:∀ b o,lo<=b->h.get? b=some o->(h'.update S (acq (·.push (.ref h.objs.size)))).get? b=some o:=λb o hb q =>
    sb b o (ace (abn I0 hb)) (gy b o (ace (abn UM hb)) (ace (abn Ja hb)) q)
   have G':=hG.keep up;refine⟨?_,?_,?_⟩
   .refine List.pairwise_append.mpr ⟨hG.rise,List.pairwise_singleton _ _,λa ha b hb=>?_⟩;rw[abp.mp hb];exact hG.there ha
   .intro a ha;rcases abD.mp ha with ha|ha
    .exact hG.above a ha
    .rw[abp.mp ha];exact Jc
   .intro j a hj;by_cases hjl:j<as.length
    .rw[ab0 hjl] at hj;exact G'.pairs j a hj
    .rw[acg (by lia)] at hj;have UN:j-as.length=0:=by
      rcases ahs (j-as.length) with z|z
      .exact z
      .rw[acE (by rw[abv];exact z)] at hj;cases hj
     rw[UN] at hj;cases hj;obtain rfl:j=i:=by lia
     exact⟨_,_,abN aU,sb _ _ (ace (abn I0 Jc)) hT⟩
  .rw[(aca ..).1];show lo<=h'.objs.size;rw[hsz];exact ahL hz
end
theorem UO:agO (.type "enumerate") "__len__" = pure none:=by rw[aep,adm];kernel_rfl
theorem UP:agO (.type "enumerate") "__length_hint__" = pure none:=by rw[aep,adm];kernel_rfl
section
theorem UQ(hh:A.handled=none)(old:aa9)(he:IsEnum s.heap e it 0 old)(hit:s.heap.IsListIter it l 0)(hl:s.heap.IsList l items)(bV:e≠it)(hle:l≠e)(mE:l≠it)(S:abd)(qi:S≠e)(qj:S≠it)(wA:l≠S)(res:aa9)(c:Nat)(hS:s.heap.get? S=some { cls:=.type "list",data:=.seq #[] c })(hn:items.size<=abu)(hR:∀ g tk acc c' as,(∀ b o,b≠S->b≠e->b≠it->s.heap.get? b=some o->g.get? b=some o)->g.get? S=some { cls:=.type "list",dict:=none,data:=.seq acc c',slots:=#[] }->as.length=items.size->lJ items s.heap.objs.size g as ->
 acc.toList=as.map abz->R (.ok (.ret res)) { s with heap:=g,toks:=tk }) :
 abm (model prog w) A.in1 (ac9 (.ref S) (.ref e) res)
  (λf u=>match f with|.done f=>R (.ok f) u|.again k=>k.quiet=true/\ad0 (model prog w) A k R u) (λe u=>R (.error e) u) s:=by
 have h1:afW (.ref S) (.ref e)=false:=by simp[afW,qi]
 have hT:s.TypeIs (.ref e) "enumerate" := ⟨_,he,rfl⟩;unfold ac9;refine aaZ (ahX hT ?_);rw[if_neg (by rw[h1];decide)];refine aaZ (afR he ?_);refine aaZ (acv ?_);unfold adW;refine aaZ (adS hT UO ?_);show abm _ A.in1 (specialOf (abz e) (acf "__length_hint__") >>= _) _ _ _;refine aaZ (adS hT UP ?_);refine aa4 ?_;show abm _ A.in1 (rule "list.extend.makes-room" >>= λ_=>ai2 (.ref S) >>= λ_=>again (.builtin "list.extend.loop" ⟨[.ref S,.ref e,res],[]⟩)) _ _ _;refine aaZ (aei ?_);refine aaZ ?_;show abm _ A.in1 (afQ S (·.push .none) >>= λ_=>afQ S (·.pop)) _ _ _;refine aaZ (ac6 hS rfl ?_);have Jd:=abL (acq (·.push Value.none)) hS rfl;refine ac6 Jd rfl ?_;have UR:=abL (acq (·.pop)) Jd rfl;have lK:∀ b o,b≠S->s.heap.get? b=some o->((s.heap.update S (acq (·.push Value.none))).update S (acq (·.pop))).get? b=some o :=
  λb o hb e=>(abq _ _ (ab4 hb)).trans ((abq _ _ (ab4 hb)).trans e)
 have sz:((s.heap.update S (acq (·.push Value.none))).update S (acq (·.pop))).objs.size=s.heap.objs.size:=by rw[(aca ..).1,(aca ..).1]
 refine aa4 ⟨acW ads _,UL (s:=s) (l:=l) (it:=it) (lo:=s.heap.objs.size) (items:=items) (h₁:=s.heap) hh bV qi qj wA hle mE (aa6 hS) (aa6 he) (let ⟨_,q,_⟩:=hit;aa6 q) hn res hR
  items.size 0 _ s.toks _ #[] [] rfl (abt _) (.inl ⟨old,lK _ _ (ab4 qi) he⟩) (hit.at λo q=>lK it o (ab4 qj) q) (hl.at λo q=>lK l o wA q) (λb o h1 _ _ q=>lK b o h1 q) UR rfl rfl ⟨.nil,(λ_ h=>nomatch h),λj a h=>by cases h⟩ (by rw[sz];exact aba _)⟩
theorem US(hh:A.handled=none)(old:aa9)(he:IsEnum s.heap e it 0 old)(hit:s.heap.IsListIter it l 0)(hl:s.heap.IsList l items)(bV:e≠it)(hle:l≠e)(mE:l≠it)(hn:items.size<=abu)(hQ:∀ g tk acc c as,(∀ b o,b≠e->b≠it->s.heap.get? b=some o->g.get? b=some o)->g.get? s.heap.objs.size=some { cls:=.type "list",dict:=none,data:=.seq acc c,slots:=#[] }->as.length=items.size->lJ items (s.heap.objs.size+1) g as ->
 acc.toList=as.map abz->Q (.ref s.heap.objs.size) { s with heap:=g,toks:=tk }) :
 abm (model prog w) A (call (.type "list") [.ref e]) Q E s:=by
 have le:e<s.heap.objs.size:=aa6 he;have li:it<s.heap.objs.size:=let ⟨_,q,_⟩:=hit;aa6 q;have ll:l<s.heap.objs.size:=let ⟨_,q,_⟩:=hl;aa6 q;refine callType_codes (Q₁:=λy s₁=>y = .ref s.heap.objs.size/\s₁ = { s with heap:=s.heap.push { cls:=.type "list",data:=.seq #[] } }) PySem.F.called_list (PySem.F.typeCall_list_1 _) PySem.F.entry_list_init (code_list_new _ ⟨rfl,rfl⟩) λy s₁ h₁=>?_;obtain⟨rfl,rfl⟩:=h₁;have e0:(s.heap.push { cls:=.type "list",data:=.seq #[] }).get? s.heap.objs.size=some { cls:=.type "list",data:=.seq #[] }:=abc _ rfl;refine⟨⟨_,e0,rfl⟩,PySem.F.args_list_init_2 _ _,?_⟩;show abm _ A.in1.in1 (do let z <- agr (.ref s.heap.objs.size);ai0 (.ref s.heap.objs.size) (λ_=>#[]);letGo z.toList.reverse;ac9 (.ref s.heap.objs.size) (.ref e) .none) _ _ _;refine aaZ ?_;unfold agr;refine aaZ (ad3 e0 rfl (aa4 ?_));refine aaZ (m:=afQ s.heap.objs.size (λ_=>#[])) (ac6 e0 rfl ?_);have e1:=abL (acq (λ_=>(#[]:Array aa9))) e0 rfl;have lK:∀ b o,b≠s.heap.objs.size->s.heap.get? b=some o->((s.heap.push { cls:=.type "list",data:=.seq #[] }).update s.heap.objs.size (acq (λ_=>(#[]:Array aa9)))).get? b=some o :=
  λb o hb e=>(abq _ _ (ab4 hb)).trans (aa5 _ e)
 have sz:((s.heap.push { cls:=.type "list",data:=.seq #[] }).update s.heap.objs.size (acq (λ_=>(#[]:Array aa9)))).objs.size=s.heap.objs.size+1:=by rw[(aca ..).1,size_push']
 refine aaZ (aeD ?_);exact UQ (A:=A.in1) hh old (lK e _ (abk le) he) (hit.at λo q=>lK it o (abk li) q) (hl.at λo q=>lK l o (abk ll) q) bV hle mE s.heap.objs.size (ace le) (ace li) (abk ll) .none _ e1 hn
  λg tk acc c as hk hS mI hG iL=>⟨rfl,hQ g tk acc c as (λb o h1 h2 q=>hk b o (abk (aa6 q)) h1 h2 (lK b o (abk (aa6 q)) q)) hS mI (by rw[<- sz];exact hG) iL⟩
theorem Inv.Je(I:Inv X pins σ H s)(hf:ed X pins H T)(new:bN X.prog X.w (upd H T o) s.heap T o):Inv X pins σ (upd H T o) s:=by
 have k6:∀ b u,H b=some u->b≠T:=λb u e=>i3 e hf.1;have up:∀ b u,H b=some u->upd H T o b=some u:=λb u e=>by rw[aB (k6 b u e)];exact e
 refine I.step (g':=s.gens) (t':=s.toks) (d':=s.drawn) (h':=s.heap) (ch:=[T]) (λb hb=>?_) (λb o _ _ hc e _=>e) (λb o _ _ hc e _=>⟨o.slots,e⟩) (λb u hc e n=>by rw[aB (by simpa using hc)];exact n)
  (λb o hc e=>⟨o,e⟩) (λb xs e=>up b _ e) (λb _ _ e=>up b _ e) (λb ps e=>⟨#[],by rw[up b _ e];simp⟩) (λm hm=>hm) (λb u e=>?_) I.bare
 .obtain rfl:b=T:=by simpa using hb
  obtain⟨_,d1,d2,d3,d4,d5⟩:=hf;exact⟨d3,d1,d4,d5⟩
 .by_cases hb:b=T
  .subst hb;rw[aw] at e;cases e;exact new
  .rw[aB hb] at e;exact (I.ay b u e).gp (λc v hc q=>q) (λc q=>up c _ q) λc xs q=>up c _ q
theorem UT(h:ed X pins H b)(hb:b≠T):ed X pins (upd H T o) b:=⟨by rw[aB hb];exact h.1,h.2⟩
theorem Jf:∀ (as:List abd) (xs:List V) (us:List aa9) (i:Nat) (H:Hp),Inv X pins σ H s->Vals xs us->as.length=xs.length->as.Pairwise (· < ·)->(∀ a∈as,ed X pins H a) ->
 (∀ j a u,as[j]?=some a->us[j]?=some u->∃ t,s.heap.get? a=some { cls:=.type "tuple",data:=.seq #[.int ((i+j:Nat):Int) t,u] }) ->
 ∃ H',aj H H'/\Inv X pins σ H' s/\(∀ b,b∉as->H' b=H b)/\∀ j a x,as[j]?=some a->xs[j]?=some x->H' a=some (.tup [.int ((i+j:Nat):Int),x])
 | [],[],us,i,H,I,r,hl,hp,hf,ht=>⟨H,λ_ _ e=>e,I,λ_ _=>rfl,λj a x h=>by cases h⟩
 | [],_::_,us,i,H,I,r,hl,hp,hf,ht=>by cases hl
 | _::_,[],us,i,H,I,r,hl,hp,hf,ht=>by cases hl
 | a::as,x::xs,us,i,H,I,r,hl,hp,hf,ht=>by
  cases us with
  | nil=>cases r
  | cons u us =>
  cases r with
  | cons r rs =>
  obtain⟨aU,cP⟩:=aht.mp hp;have na:∀ b∈as,b≠a:=λb hb=>ace (aU b hb);obtain⟨t,h0⟩:=ht 0 a u rfl rfl;have I1:=Inv.Je (o:=.tup [.int ((i+0:Nat):Int),x]) I (hf a (.head _)) ⟨zb,[.int ((i+0:Nat):Int) t,u],.cons ⟨_,rfl⟩ (.cons r .nil),⟨_,h0,rfl,_,rfl⟩⟩;obtain⟨H',s1,I2,k1,k2⟩:=Jf as xs us (i+1) _ I1 rs (by simpa using hl) cP (λb hb=>UT (hf b (.tail _ hb)) (na b hb)) λj b v e1 e2=>by obtain⟨t',q⟩:=ht (j+1) b v e1 e2;exact⟨t',by rw[show i+1+j=i+(j+1) by lia];exact q⟩
  refine⟨H',λb v e=>s1 b v (by rw[aB (i3 e (hf a (.head _)).1)];exact e),I2,λb hb=>?_,λj b y e1 e2=>?_⟩
  .rw[k1 b (λz=>hb (.tail _ z)),aB (λz=>hb (by rw[z];exact .head _))]
  .cases j with
   | zero =>
    cases e1;cases e2;rw[k1 a (λz=>na a z rfl),aw]
   | succ j =>
    have:=k2 j b y e1 e2;rw[show i+1+j=i+(j+1) by lia] at this;exact this
end
theorem Jg:∀ as:List abd,Vals (as.map V.ref) (as.map abz)
 | []=>.nil
 | _::as=>.cons rfl (Jg as)
def Jh(K:aa0)(ta:TA):TE:=λσ H Q=>ta σ H λvs H1=>∃ a xs,vs=[.ref a]/\ai K H1 a xs/\∀ l ys H',aj H1 H'->H1 l=none->H' l=some (.lst ys)->ys.length=xs.length ->
 (∀ j y x,ys[j]?=some y->xs[j]?=some x->∃ p,y = .ref p/\H1 p=none/\H' p=some (.tup [.int (j:Nat),x]))->Q (.ref l) H'
theorem UU(hc:X.calm=true)(hg:Gl X "list")(hm:X.mg "list" = none)(sq:Gl X "enumerate")(mF:X.mg "enumerate" = none)(ha:PA X [e] ta)(hs:abA [.Call (.Name "enumerate" p2) [e] [] gE] X.env=[(false,eval (.Call (.Name "enumerate" p2) [e] [] gE) X.env)]:=by rfl)(cZ:abA [e] X.env=[(false,eval e X.env)]:=by rfl) :
 PE X (.Call (.Name "list" p) [.Call (.Name "enumerate" p2) [e] [] gE] [] pos) (Jh X.K ta):=by
 intro pins s σ H Q I h;refine aji (fI I hg hm mi (abI ?_ hs rfl));rw[hs];show abm _ _ (spliced ((false,eval (.Call (.Name "enumerate" p2) [e] [] gE) X.env)::adh pos [])) _ _ s;refine acR (aji (fI I sq mF Fe (abI (aE (ha gE pins s σ H _ I h) λus s1 zq=>?_) cZ rfl)));obtain⟨vs,H1,I1,r1,q1⟩:=zq;obtain⟨a,xs,rfl,hq,q⟩:=q1;obtain⟨u,rfl,ru⟩:=vals1 r1;cases ru;obtain⟨ar,rv,pl,hz⟩:=I1.list hq;refine ag5 pl.isList λh' he hit hsz hk=>?_;refine ac0 ?_;have la:a<s1.heap.objs.size:=let ⟨_,e,_⟩:=pl.isList;aa6 e;refine US (s:={ s1 with heap:=h' }) (l:=a) (items:=ar.toArray) (I1.ok.hd hc) .none he hit (pl.isList.at λo e=>hk a o e) (ah6 _) (abk (adY la)) (abk la) (by rw[abg,<- rv.length];exact hz) λg tk acc c as jt hD mI hG iL=>?_;have up:∀ b o,s1.heap.get? b=some o->g.get? b=some o:=λb o e=>jt b o (abk (adY (aa6 e))) (abk (aa6 e)) (hk b o e);have I2:Inv X pins σ H1 { s1 with heap:=g,toks:=tk }:=I1.kept (t':=tk) up;have Am:∀ b∈as,s1.heap.objs.size<=b:=λb hb=>by have:=hG.above b hb;have e:({ s1 with heap:=h' }:abe).heap.objs.size=s1.heap.objs.size+2:=hsz;walk_at "o"
 obtain⟨H',s2,I3,k1,k2⟩:=Jf as xs ar 0 H1 I2 rv (by rw[mI,abg];exact rv.length.symm) hG.rise (λb hb=>I1.iB (Am b hb) (I1.ay.fresh (Am b hb))) λj b v e1 e2=>by
  obtain⟨t,x,e3,e4⟩:=hG.pairs j b e1;have:x=v:=by simpa [e2] using e3.symm
  subst this;exact⟨t,by rw[aje];exact e4⟩
 have hl:s1.heap.objs.size<=h'.objs.size:=by rw[hsz];exact Nat.le_add_right _ _
 have nl:h'.objs.size∉as:=λz=>absurd (hG.above _ z) (Nat.not_succ_le_self _);have f0:=I1.ay.fresh hl;have Ji:as.length=xs.length:=by rw[mI,abg];exact rv.length.symm
 refine⟨.ref h'.objs.size,upd H' h'.objs.size (.lst (as.map V.ref)),Inv.Je I3 (I1.iB hl (by rw[k1 _ nl];exact f0)) ⟨by rw[aa2,Ji];exact hz,acc.toList,c,?_,by rw[Array.toArray_toList];exact hD⟩,rfl,q _ (as.map V.ref) _ (λb v e=>?_) f0 (aw ..) (by rw[aa2,Ji]) λj y x e1 e2=>?_⟩
 .rw[iL];exact Jg as
 .rw[aB (i3 e f0)];exact s2 b v e
 .rw[abh] at e1;obtain⟨b,hb,rfl⟩:=abF.mp e1;have hm:=abi hb;refine⟨b,rfl,I1.ay.fresh (Am b hm),?_⟩;rw[aB (λz=>nl (by rw[<- z];exact hm))];have:=k2 j b x hb e2;rw[aje] at this;exact this
def mJ:L2.St->Nat->(V->Prop)->Prop
 | [],_,_=>False
 | x::_,0,Q=>match x with|some v=>Q v|none=>False
 | _::σ,n+1,Q=>mJ σ n Q
def cu(x:V)(Q:Int->Prop):Prop:=match x with|.int i=>Q i|_=>False
def nY(x:V)(Q:Bool->Prop):Prop:=match x with|.bl i=>Q i|_=>False
def sE(x:V)(Q:abd->Prop):Prop:=match x with|.ref i=>Q i|_=>False
def UW(xs:List V)(Q:V->Prop):Prop:=match xs with|[x]=>Q x|_=>False
def UX(xs:List V)(Q:V->V->Prop):Prop:=match xs with|[x,y]=>Q x y|_=>False
def mK(x:V)(Q:Bool->Prop):Prop:=match x with|.non=>Q true|_=>Q false
def kA(x:V)(Q:Bool->Prop):Prop:=match x with|.non=>Q false|_=>Q true
section
theorem UY:mJ (some v::σ) 0 Q=Q v:=rfl
theorem UZ:mJ (o::σ) (n+1) Q=mJ σ n Q:=rfl
theorem U0:cu (.int i) QI=QI i:=rfl
theorem U1:nY (.bl b) QB=QB b:=rfl
theorem U2:sE (.ref a) QR=QR a:=rfl
theorem U3:UW [x] Q=Q x:=rfl
theorem U4:UX [x,y] Q2=Q2 x y:=rfl
theorem U5:mK .non QB=QB true:=rfl
theorem U6:mK (.int i) QB=QB false:=rfl
theorem U7:mK (.bl b) QB=QB false:=rfl
theorem U8:mK (.ref a) QB=QB false:=rfl
theorem U9:kA .non QB=QB false:=rfl
theorem Va:kA (.int i) QB=QB true:=rfl
theorem Vb:kA (.bl b) QB=QB true:=rfl
theorem Vc:kA (.ref a) QB=QB true:=rfl
theorem Vd:kA (.str s) QB=QB true:=rfl
theorem Ve:mK (.str s) QB=QB false:=rfl
theorem mJ.ex:∀ {σ:L2.St} {n:Nat},mJ σ n Q->∃ v,σ[n]?=some (some v)/\Q v
 | [],_,h=>h.elim
 | some v::_,0,h=>⟨v,rfl,h⟩
 | none::_,0,h=>h.elim
 | _::σ,n+1,h=>mJ.ex (σ:=σ) (n:=n) h
theorem cu.ex(h:cu x QI):∃ i,x = .int i/\QI i:=by cases x<;>first|exact⟨_,rfl,h⟩|exact h.elim
theorem nY.ex(h:nY x QB):∃ i,x = .bl i/\QB i:=by cases x<;>first|exact⟨_,rfl,h⟩|exact h.elim
theorem sE.ex(h:sE x QR):∃ i,x = .ref i/\QR i:=by cases x<;>first|exact⟨_,rfl,h⟩|exact h.elim
theorem kA.ex(h:kA x QB):QB (!decide (x = .non)):=by cases x<;>exact h
theorem mK.ex(h:mK x QB):QB (decide (x = .non)):=by cases x<;>exact h
end
section
variable{X:Cx}{e a b c:aeV}{pos:Pos}{ta tb tc:TE}{op kP:CmpOp}
theorem Jj(h:Q (rP x)):kA x Q:=by cases x<;>exact h
theorem An{c:Prop}[Decidable c]{Q:Bool->Prop}(h:Q (decide c)):if c then Q true else Q false:=by
 by_cases z:c
 .rw[decide_eq_true z] at h;exact (show _=_ from if_pos z).mpr h
 .rw[decide_eq_false z] at h;exact (show _=_ from if_neg z).mpr h
def Vf(t:TE):TE:=λσ H Q=>∃ Q':VK,(∀ v H1,Q' v H1->Q v H1)/\t σ H Q'
theorem eZ(h:PE X e ta):PE X e (Vf ta):=λpins s σ H Q I ⟨Q',k,q⟩=>aE (h pins s σ H Q' I q) λ_ _ ⟨x,H1,I1,r1,q1⟩=>⟨x,H1,I1,r1,k _ _ q1⟩
theorem sF(h:PE X e ta)(k:∀ σ H Q,t' σ H Q->ta σ H Q):PE X e t':=λpins s σ H Q I q=>h pins s σ H Q I (k σ H Q q)
theorem nZ(h:PT X e t)(k:∀ σ H Q,t' σ H Q->t σ H Q):PT X e t':=λpins s σ H Q I q=>h pins s σ H Q I (k σ H Q q)
theorem Ao(h:br X f r)(k:∀ x y H Q,r' x y H Q->r x y H Q):br X f r':=λpins s σ H x y v u Q I rx ry q=>h pins s σ H x y v u Q I rx ry (k _ _ _ _ q)
def Jk(i:Nat):TE:=λσ H Q=>mJ σ i λv=>Q v H
theorem aa(i:Nat)(hN:X.N[i]?=some x:=by rfl)(hv:uW X.env.scope x:=by first|exact aeO rfl|exact ahU (aeO rfl)|exact ahU (ahU rfl))(hd:(x == ("__debug__" : Str))=false:=by decide)(fW:(x == ("__classdict__" : Str))=false:=by decide):PE X (.Name x pos) (Jk i):=sF (pv i hN hv hd fW) λ_ _ _ h=>h.ex
def sG(C:Int->Int->Prop)(g:Int->Int->V):R2:=λx y H Q=>cu x λi=>cu y λj=>C i j/\Q (g i j) H
def wB(g:Int->Int->V):R2:=λx y H Q=>cu x λi=>cu y λj=>Q (g i j) H
def Ap(g:Int->V):V->Hp->VK->Prop:=λx H Q=>cu x λi=>Q (g i) H
def Aq(p:Int->Int->Prop)[∀ i j,Decidable (p i j)]:R2:=λx y H Q=>cu x λi=>cu y λj=>if p i j then Q (.bl true) H else Q (.bl false) H
theorem Ar(h:br X f (rI C g)):br X f (sG C g):=Ao h λx y H Q q=>by obtain⟨i,rfl,q1⟩:=cu.ex q;obtain⟨j,rfl,q5⟩:=cu.ex q1;exact⟨i,j,rfl,rfl,q5⟩
theorem kB(h:br X f (gu g)):br X f (wB g):=Ao h λx y H Q q=>by obtain⟨i,rfl,q1⟩:=cu.ex q;obtain⟨j,rfl,q5⟩:=cu.ex q1;exact⟨i,j,rfl,rfl,q5⟩
theorem As[∀ i j,Decidable (p i j)](h:br X f (gu λi j=>.bl (decide (p i j)))):br X f (Aq p):=Ao h λx y H Q q=>by
 obtain⟨i,rfl,q1⟩:=cu.ex q;obtain⟨j,rfl,q5⟩:=cu.ex q1;clear q q1;refine⟨i,j,rfl,rfl,?_⟩;by_cases z:p i j
 .rw[if_pos z] at q5;show Q (.bl (decide (p i j))) H;rw[decide_eq_true z];exact q5
 .rw[if_neg z] at q5;show Q (.bl (decide (p i j))) H;rw[decide_eq_false z];exact q5
theorem Vg(h:oR X f (rU g)):oR X f (Ap g):=λpins s σ H x v Q I rx q=>h pins s σ H x v Q I rx q.ex
theorem bZ:br X (ad8 .Add) (wB λi j=>.int (i+j)):=kB NJ
theorem dB:br X (ad8 .Sub) (wB λi j=>.int (i-j)):=kB NK
theorem qk:br X (ad8 .Mod) (sG (λ_ j=>0<j) λi j=>.int (i % j)):=Ar NL
theorem lL:br X (ad8 .Mult) (sG oY λi j=>.int (i * j)):=Ar OU
theorem Jl:br X (ad8 .Mult) (sG pH λi j=>.int (i * j)):=Ar Rm
theorem ij:oR X (unaryOp .USub) (Ap λi=>.int (-i)):=Vg NN
def Jm(t:TE):TT:=λσ H Q=>t σ H λx H'=>nY x λk=>Q k H'
theorem bz(h:PE X e ta)(he:∀ whole,ai4 e X.env whole=(do let v <- whole;aiS e.pos;holding [v] (truthy v)):=by intro _;rfl):PT X e (Jm ta):=nZ (Nu (eZ h) he) λσ H Q q=>⟨_,λ_ _ h=>h.ex,q⟩
def ql(p:Int->Int->Prop)[∀ i j,Decidable (p i j)](ta tb:TE):TT:=λσ H Q=>ta σ H λx H1=>tb σ H1 λy H2=>cu x λi=>cu y λj=>if p i j then Q true H2 else Q false H2
theorem Jn{p:Int->Int->Prop}[∀ i j,Decidable (p i j)]{x y:V}{H:Hp}{Q:Bool->Hp->Prop}(q:cu x λi=>cu y λj=>if p i j then Q true H else Q false H):Aq p x y H (λz H'=>∃ k,z = .bl k/\Q k H'):=by
 obtain⟨i,rfl,q1⟩:=cu.ex q;obtain⟨j,rfl,q5⟩:=cu.ex q1;clear q q1;by_cases z:p i j
 .rw[if_pos z] at q5;exact (show _=_ from if_pos z).mpr ⟨_,rfl,q5⟩
 .rw[if_neg z] at q5;exact (show _=_ from if_neg z).mpr ⟨_,rfl,q5⟩
theorem wC[∀ i j,Decidable (p i j)](ho:br X (acm op) (gu λi j=>.bl (decide (p i j))))(ha:PE X a ta)(hb:PE X b tb)(hm:adj op b=false):PT X (.Compare a [op] [b] pos) (ql p ta tb) :=
 nZ (kO (As ho) (eZ ha) (eZ hb) hm) λσ H Q q=>⟨_,λx H1 q1=>⟨_,λy H2 q2=>Jn q2,q1⟩,q⟩
theorem lM(ha:PE X a ta)(hb:PE X b tb):PT X (.Compare a [.Lt] [b] pos) (ql (λi j=>i<j) ta tb):=wC yh ha hb (da _)
theorem Vh(ha:PE X a ta)(hb:PE X b tb):PT X (.Compare a [.LtE] [b] pos) (ql (λi j=>i<=j) ta tb):=wC gW ha hb (da _)
theorem wD(ha:PE X a ta)(hb:PE X b tb):PT X (.Compare a [.Gt] [b] pos) (ql (λi j=>j<i) ta tb):=wC rg ha hb (da _)
theorem Jo(ha:PE X a ta)(hb:PE X b tb):PT X (.Compare a [.GtE] [b] pos) (ql (λi j=>j<=i) ta tb):=wC NP ha hb (da _)
def eqT(x y:V)(Q:Bool->Prop):Prop:=match x with
 | .int i=>(match y with|.int j=>if i=j then Q true else Q false|.non=>Q false|.str _=>Q false|_=>False)
 | .str i=>(match y with|.str j=>if i=j then Q true else Q false|.non=>Q false|.int _=>Q false|_=>False)
 | .bl i=>(match y with|.bl j=>if i=j then Q true else Q false|.non=>Q false|_=>False)
 | .non=>(match y with|.non=>Q true|.int _=>Q false|.bl _=>Q false|.str _=>Q false|_=>False)
 | _=>False
def neT(x y:V)(Q:Bool->Prop):Prop:=match x with
 | .int i=>(match y with|.int j=>if ¬ i=j then Q true else Q false|.non=>Q true|.str _=>Q true|_=>False)
 | .str i=>(match y with|.str j=>if ¬ i=j then Q true else Q false|.non=>Q true|.int _=>Q true|_=>False)
 | .bl i=>(match y with|.bl j=>if ¬ i=j then Q true else Q false|.non=>Q true|_=>False)
 | .non=>(match y with|.non=>Q false|.int _=>Q true|.bl _=>Q true|.str _=>Q true|_=>False)
 | _=>False
section
theorem Vi:eqT (.int i) (.int j) Q=if i=j then Q true else Q false:=rfl
theorem Vj:eqT (.str s) (.str t) Q=if s=t then Q true else Q false:=rfl
theorem Jp:eqT (.bl b') (.bl b1) Q=if b'=b1 then Q true else Q false:=rfl
theorem Vk:eqT .non .non Q=Q true:=rfl
theorem Vl:eqT .non (.int j) Q=Q false:=rfl
theorem Vm:eqT (.int i) .non Q=Q false:=rfl
theorem Vn:eqT (.int i) (.str s) Q=Q false:=rfl
theorem Vo:eqT .non (.str s) Q=Q false:=rfl
theorem Vp:neT (.int i) (.int j) Q=if ¬ i=j then Q true else Q false:=rfl
theorem Vq:neT (.str s) (.str t) Q=if ¬ s=t then Q true else Q false:=rfl
theorem Vr:neT .non .non Q=Q false:=rfl
theorem Vs:neT .non (.int j) Q=Q true:=rfl
theorem Vt:neT (.int i) .non Q=Q true:=rfl
theorem Jq{c:Prop}[Decidable c]{Q:Bool->Prop}(q:if c then Q true else Q false):Q (decide c):=by
 by_cases z:c
 .rw[if_pos z] at q;rw[decide_eq_true z];exact q
 .rw[if_neg z] at q;rw[decide_eq_false z];exact q
theorem eqT.ex(h:eqT x y Q):kN x y=true/\Q (decide (x=y)):=by
 cases x<;>cases y<;>first
  | exact h.elim
  | exact⟨rfl,h⟩
  | (refine⟨rfl,?_⟩;have:=Jq h;simpa using this)
theorem neT.ex(h:neT x y Q):kN x y=true/\Q (!decide (x=y)):=by
 cases x<;>cases y<;>first
  | exact h.elim
  | exact⟨rfl,h⟩
  | (refine⟨rfl,?_⟩;have:=Jq h;simpa using this)
end
def Jr(ta tb:TE):TT:=λσ H Q=>ta σ H λx H1=>tb σ H1 λy H2=>eqT x y λk=>Q k H2
def Js(ta tb:TE):TT:=λσ H Q=>ta σ H λx H1=>tb σ H1 λy H2=>neT x y λk=>Q k H2
theorem bT(ha:PE X a ta)(hb:PE X b tb):PT X (.Compare a [.Eq] [b] pos) (Jr ta tb) :=
 nZ (kO md (eZ ha) (eZ hb) (da _)) λσ H Q q=>⟨_,λx H1 q1=>⟨_,λy H2 q2=>⟨(eqT.ex q2).1,_,rfl,(eqT.ex q2).2⟩,q1⟩,q⟩
theorem fQ(ha:PE X a ta)(hb:PE X b tb):PT X (.Compare a [.NotEq] [b] pos) (Js ta tb) :=
 nZ (kO NO (eZ ha) (eZ hb) (da _)) λσ H Q q=>⟨_,λx H1 q1=>⟨_,λy H2 q2=>⟨(neT.ex q2).1,_,rfl,(neT.ex q2).2⟩,q1⟩,q⟩
def Jt(ta:TE):TT:=λσ H Q=>ta σ H λx H1=>mK x λk=>Q k H1
def Ju(ta:TE):TT:=λσ H Q=>ta σ H λx H1=>kA x λk=>Q k H1
theorem dC(ha:PE X a ta):PT X (.Compare a [.Is] [.Constant .none j pos'] pos) (Jt ta):=nZ (qY (nq (eZ ha))) λσ H Q q=>⟨_,λx H1 q1=>⟨_,rfl,q1.ex⟩,q⟩
theorem fR(ha:PE X a ta):PT X (.Compare a [.IsNot] [.Constant .none j pos'] pos) (Ju ta):=nZ (qY (qX (eZ ha))) λσ H Q q=>⟨_,λx H1 q1=>⟨_,rfl,kA.ex q1⟩,q⟩
def Jv(p q:Int->Int->Prop)[∀ i j,Decidable (p i j)][∀ i j,Decidable (q i j)](ta tb tc:TE):TT:=λσ H Q=>ta σ H λx H1=>tb σ H1 λy H2=>cu x λi=>cu y λj=>if p i j then (tc σ H2 λz H3=>cu z λk=>if q j k then Q true H3 else Q false H3) else Q false H2
theorem Au[∀ i j,Decidable (p i j)][∀ i j,Decidable (q i j)](ho:br X (acm op) (gu λi j=>.bl (decide (p i j))))(cW:br X (acm kP) (gu λi j=>.bl (decide (q i j))))(ha:PE X a ta)(hb:PE X b tb)(hc:PE X c tc)(hm:ai6 [op,kP] [b,c]=false:=by with_unfolding_all rfl):PT X (.Compare a [op,kP] [b,c] pos) (Jv p q ta tb tc) :=
 nZ (NQ (As ho) (As cW) (eZ ha) (eZ hb) (eZ hc) hm) λσ H Q q=>⟨_,λx H1 q1=>⟨_,λy H2 q2=>by
  obtain⟨i,rfl,q3⟩:=cu.ex q2;obtain⟨j,rfl,q5⟩:=cu.ex q3;clear q2 q3;by_cases z:p i j
  .rw[if_pos z] at q5;exact (show _=_ from if_pos z).mpr ⟨_,rfl,_,λw' H4 q4=>by
    obtain⟨k,rfl,_⟩:=cu.ex q4;exact Jn (x:=.int j) q4,q5⟩
  .rw[if_neg z] at q5;exact (show _=_ from if_neg z).mpr ⟨_,rfl,⟨_,rfl,q5⟩⟩,q1⟩,q⟩
variable{rest:List aeV}
def Jw(ta tb:TE):TE:=λσ H Q=>ta σ H λx H1=>nY x λc=>if c=true then tb σ H1 Q else Q (.bl false) H1
def Jx(ta tb:TE):TE:=λσ H Q=>ta σ H λx H1=>nY x λc=>if c=true then Q (.bl true) H1 else tb σ H1 Q
def Jy(ta:TE):TE:=λσ H Q=>ta σ H λx H1=>nY x λc=>Q (.bl (!c)) H1
theorem fv(ha:PE X a ta)(hb:PE X (.BoolOp .And (b::rest) pos) tb):PE X (.BoolOp .And (a::b::rest) pos) (Jw ta tb):=sF (Nv (eZ ha) hb) λσ H Q q=>⟨_,λx H1 q1=>q1.ex,q⟩
theorem wF(ha:PE X a ta)(hb:PE X (.BoolOp .Or (b::rest) pos) tb):PE X (.BoolOp .Or (a::b::rest) pos) (Jx ta tb):=sF (Nw (eZ ha) hb) λσ H Q q=>⟨_,λx H1 q1=>q1.ex,q⟩
theorem sH(ha:PE X a ta):PE X (.UnaryOp .Not a pos) (Jy ta):=sF (Nx (eZ ha)) λσ H Q q=>⟨_,λx H1 q1=>q1.ex,q⟩
def Jz(K:aa0)(ta:TE)(f:Str):TE:=λσ H Q=>ta σ H λx H1=>sE x λa=>∃ C dx fs,H1 a=some (.ins C dx fs)/\eI K C/\fX K C f/\∃ v,fs.lookup f=some v/\Q v H1
theorem dD{f:Str}{K:aa0}(hK:X.K=K)(he:PE X e ta)(hb:ael e f X.env (eval e X.env)=eval e X.env):PE X (.Attribute e f pos) (Jz K ta f):=by
 subst hK;exact sF (N6 (eZ he) hb) λσ H Q q=>⟨_,λx H1 q1=>by
  obtain⟨a,rfl,C,dx,fs,h1,h2,h3,v,h4,q2⟩:=q1.ex;exact⟨a,C,dx,fs,v,rfl,h1,h2,h3,h4,q2⟩,q⟩
def JA(K:aa0)(ta tv:TE)(f:Str):TS:=λD σ H=>tv σ H λy H1=>ta σ H1 λx H2=>sE x λa=>∃ C dx fs,H2 a=some (.ins C dx fs)/\eI K C/\fX K C f/\fs.length<1000 /\
 D.nx σ (upd H2 a (.ins C dx (eV f y fs)))
theorem mL(ha:PE X o ta)(hv:PE X value tv)(hs:ae9 value (some (.Attribute o f pos')) pos.line X.env=pure false):PS X (.Assign [.Attribute o f pos'] value pos) (JA X.K ta tv f):=λpins s σ H D I h =>
 N7 (eZ ha) (eZ hv) hs pins s σ H D I ⟨_,λy H1 q1=>⟨_,λx H2 q2=>by
  obtain⟨a,rfl,C,dx,fs,h⟩:=q2.ex;exact⟨a,C,dx,fs,rfl,h⟩,q1⟩,h⟩
end
section
variable{X:Cx}{K:aa0}{a b e:aeV}{es:List aeV}{ta tb:TE}{t:TA}{pos p:Pos}
theorem aq(ha:PE X a ta)(hb:PE X b tb)(hs:yy b:=by exact λ_ _=>rfl):PE X (.Subscript a b pos) (nu (kR X.K) ta tb):=bD bE ha hb hs
theorem b7(ha:PE X a ta)(hb:PE X b tb)(h:X.K=K:=by rfl)(hs:yy b:=by exact λ_ _=>rfl):PE X (.Subscript a b pos) (nu (kR K) ta tb):=bD (Qo h) ha hb hs
end
structure Fn(K:aa0)(mg:Str->Option aa9)(x:Str)(st:acM)(ps:List Str) where
 a:abd
 fd:aea
 F:nA K x x st a fd
 m:mg x=some (.ref a)
 b:Binds K fd ps []
structure Fm(K:aa0)(x q:Str)(st:acM)(ps:List Str) where
 a:abd
 fd:aea
 F:nA K x q st a fd
 b:Binds K fd ps []
section
theorem Vu{CX:gY}{k n:Nat}{ps:List Str}{sp:Sp}{x:Str}{st:acM}(N:Fn X.K X.mg x st ps)(F:ff X.prog X.w X.K X.mg X.base CX k N.a N.fd ps sp)(hr:cc n X.A)(hx:Passes CX X E0)(ha:PA X (e::es) t)
 (hk:k<=n:=by decide) (hg:Gl X x:=by rfl) (gZ:(x == ("__debug__" : Str))=false:=by decide) (he:abA (e::es) X.env=(false,eval e X.env)::abA es X.env:=by rfl) (eJ:(adh pos (abA es X.env)).any (·.1)=false:=by rfl) :
 PE X (.Call (.Name x p) (e::es) [] pos) (vq sp [] E0 t):=bR F (hr.mono hk) hg N.m N.F.kp N.b .nil hx ha gZ he eJ
end
theorem Vv{α:Type}{n:Nat}{p:List α->Prop}(h:∀ u vs,vs.length=n->p (u::vs)):∀ us:List α,us.length=n+1->p us
 | u::vs,e=>h u vs (Nat.succ.inj e)
theorem Vw{α:Type}{p:List α->Prop}(h:p []):∀ us:List α,us.length=0->p us
 | [],_=>h
structure Sc(N ps:List Str)(st:acM):Prop extends rk N ps (dM st) where
 b:∀ (x q:Str) (kV doc pm:aa9) (an:Option abd) (a7 ct:aa9) (us:List aa9),us.length=ps.length->bindArgs (adQ x q (oW st) (iF st) (dM st) .none kV doc pm an a7 ct) ⟨us,[]⟩=pure (ps.zip us)
section
variable{P:ab1}{w:acz}{K:aa0}{mg:Str->Option aa9}{base h:adz}{x q:Str}{st:acM}{N ps:List Str}{k:Nat}{sp:Sp}{C:abd}
inductive Fb(K:aa0)(x q:Str)(st:acM)(p:abd->Prop):Prop
 | mk {f:abd} {od an:Option abd} {sl:Array (Option aa9)} {oc kV dc pm cd ct:aa9} (_:p f) (_:K.lookup f=some ⟨oc,od,.func (adQ x q (oW st) (iF st) (dM st) .none kV dc pm an cd ct),sl⟩) (_:afC K cd q=true) (_:ado K (.ref f)=true)
def aQ(K:aa0)(x:Str)(f:abd):Prop:=abM K abB x=some (some (.ref f))
def dY(K:aa0)(C:abd)(x:Str)(f:abd):Prop:=abQ K (.ref C) x=some (some (.ref f))/\agw K (.ref f)=true
theorem Fb.fn(b:Fb K x x st (aQ K x))(X:K.In h)(G:h.Ns abB mg)(S:Sc N ps st):Nonempty (Fn K mg x st ps) :=
 let ⟨a,l,c,k⟩:=b;⟨⟨_,_,oX l c k,acY X G a,(oX l c k).binds (S.b x x)⟩⟩
theorem Fb.fm(b:Fb K x q st (dY K C x))(S:Sc N ps st):∃ F:Fm K x q st ps,dY K C x F.a :=
 let ⟨a,l,c,k⟩:=b;⟨⟨_,_,oX l c k,(oX l c k).binds (S.b x q)⟩,a⟩
theorem Fn.bt{y:Str}(F:Fn K mg x st [y])(S:Sc N [y] st)(s:abe)(v:aa9):ahC s F.fd ⟨[v],[]⟩ [(y,v)]:=by obtain⟨oc,od,kV,doc,pm,an,a7,ct,jY,e,lk,fW⟩:=F.F.ex;rw[e];exact .of_eq (S.b _ _ _ _ _ _ _ _ [v] rfl)
abbrev Ok(P:ab1)(w:acz){K:aa0}{mg:Str->Option aa9}(base:adz)(k:Nat){x:Str}{st:acM}{ps:List Str}(F:Fn K mg x st ps)(sp:Sp):Prop:=ff P w K mg base (dN P w) k F.a F.fd ps sp
abbrev Om(P:ab1)(w:acz){K:aa0}(mg:Str->Option aa9)(base:adz)(k:Nat){x q:Str}{st:acM}{ps:List Str}(F:Fm K x q st ps)(sp:Sp):Prop:=ff P w K mg base (dN P w) k F.a F.fd ps sp
theorem bc{F:Fn K mg x st ps}(S:Sc N ps st)
 (hJ:∀ (a7:aa9) (A:acP) (outer:List Env) (s:abe) (H:Hp) (vs:List V) (Q:VK) (E:XK),cc k (A.deeper (acS x (dM st) s.heap.objs.size F.a a7))->sp vs H Q E ->
   ∃ t,aR (fg (dN P w) P w K mg base N x (dM st) F.a a7 A outer s H E).oO (iF st) t/\t { nx:=λ_ H'=>Q .non H',rt:=Q } (start N vs) H)
 (len:∀ vs H Q E,sp vs H Q E->vs.length=ps.length:=by intro _ _ _ _ h;cases h;subst_vars;rfl):Ok P w base (k+1) F sp:=okN F.F S.1 len hJ
theorem ju{F:Fn K mg x st ps}(S:Sc N ps st)
 (hJ:∀ (a7:aa9) (A:acP) (outer:List Env) (s:abe) (H:Hp) (vs:List V) (Q:VK) (E:XK),cc k (A.deeper (acS x (dM st) s.heap.objs.size F.a a7))->sp vs H Q E ->
   ∃ t,aR (fg (dN P w) P w K mg base N x (dM st) F.a a7 A outer s H E) (iF st) t/\t { nx:=λ_ H'=>Q .non H',rt:=Q } (start N vs) H)
 (len:∀ vs H Q E,sp vs H Q E->vs.length=ps.length:=by intro _ _ _ _ h;cases h;subst_vars;rfl):Ok P w base (k+1) F sp:=jb F.F S.1 len hJ
theorem jv{F:Fm K x q st ps}(S:Sc N ps st)
 (hJ:∀ (a7:aa9) (A:acP) (outer:List Env) (s:abe) (H:Hp) (vs:List V) (Q:VK) (E:XK),cc k (A.deeper (acS q (dM st) s.heap.objs.size F.a a7))->sp vs H Q E ->
   ∃ t,aR (fg (dN P w) P w K mg base N q (dM st) F.a a7 A outer s H E).oO (iF st) t/\t { nx:=λ_ H'=>Q .non H',rt:=Q } (start N vs) H)
 (len:∀ vs H Q E,sp vs H Q E->vs.length=ps.length:=by intro _ _ _ _ h;cases h;subst_vars;rfl):Om P w mg base (k+1) F sp:=okN F.F S.1 len hJ
theorem qm{F:Fm K x q st ps}(S:Sc N ps st)
 (hJ:∀ (a7:aa9) (A:acP) (outer:List Env) (s:abe) (H:Hp) (vs:List V) (Q:VK) (E:XK),cc k (A.deeper (acS q (dM st) s.heap.objs.size F.a a7))->sp vs H Q E ->
   ∃ t,aR (fg (dN P w) P w K mg base N q (dM st) F.a a7 A outer s H E) (iF st) t/\t { nx:=λ_ H'=>Q .non H',rt:=Q } (start N vs) H)
 (len:∀ vs H Q E,sp vs H Q E->vs.length=ps.length:=by intro _ _ _ _ h;cases h;subst_vars;rfl):Om P w mg base (k+1) F sp:=jb F.F S.1 len hJ
end
section
theorem aI(i:Nat)(hN:X.N.Nodup)(he:PE X e te)(hi:X.N[i]?=some x:=by rfl)(hx:Loc X.env.scope x:=by first|exact aeO rfl|exact ahU rfl)(hs:ae9 e (some (.Name x pos')) pos.line X.env=pure false:=by rfl)(hf:X.fn x=true∨X.env.scope.names.lookup x=some .local:=by first|exact .inl rfl|exact .inr rfl) :
 PS X (.Assign [.Name x pos'] e pos) (vd te (bX i)):=i6 hN hi hx he hs hf
theorem b8(i:Nat)(hN:X.N.Nodup)(hi:X.N[i]?=some x:=by rfl)(hx:Loc X.env.scope x:=by first|exact aeO rfl|exact ahU rfl)(hf:X.fn x=true∨X.env.scope.names.lookup x=some .local:=by first|exact .inl rfl|exact .inr rfl):PG X (.Name x pos) (bX i):=gq hN hi hx hf
theorem aD{k n:Nat}{ps:List Str}{sp:Sp}{st:acM}{CX:gY}{N:Fn X.K X.mg x st ps}(F:ff X.prog X.w X.K X.mg X.base CX k N.a N.fd ps sp)(hr:cc n X.A)(ha:PA X (e::es) t)(hx:Passes CX X E0:=by exact bb)
 (hk:k<=n:=by decide) (hg:Gl X x:=by rfl) (gZ:(x == ("__debug__" : Str))=false:=by decide) (he:abA (e::es) X.env=(false,eval e X.env)::abA es X.env:=by rfl) (eJ:(adh pos (abA es X.env)).any (·.1)=false:=by rfl) :
 PE X (.Call (.Name x p) (e::es) [] pos) (vq sp [] E0 t):=Vu N F hr hx ha hk hg gZ he eJ
end
end Gz
namespace Gz
open PySem L2
theorem wH:∀ {xs ys:List Int},xs.Nodup->(∀ x∈xs,x∈ys)->xs.length<=ys.length
 | [],_,_,_=>abt _
 | x::xs,ys,h,k=>by obtain⟨h1,h2⟩:=ab7.mp h;have hx:=k x (.head _);have ih:=wH (ys:=ys.erase x) h2 λy hy=>(agV (λz=>h1 (by rw[<- z];exact hy))).mpr (k y (.tail _ hy));rw[afX hx] at ih;have:=ags hx;rw[abX];omega
end Gz
namespace Gz
open PySem PySem.Spec PyProof.Rows L2
theorem JB(hL:(L.length:Int)<=mo)(hc:iP ps c)(hg:∀ k s,gs[k]?=some s->bF s (c k))(jw:gs.length<=ps.length+1)(hw:meets (eN tb L) c)(ht:∀ r∈tb,r.1.2.toNat<=ps.length) :
 ∀ (t:Pp) (as:List Int),as.Nodup->(∀ x∈as,x∈L)->¬ Val ps gs tb mo t as
 | .nil,_,_,_,h=>h
 | .full,as,hn,hs,h=>by have:=wH hn hs;have h:mo<as.length:=h;lia
 | .cls x a b,as,hn,hs,h=>by
  obtain⟨⟨m,n,hm,jR,bf⟩,ha,hb⟩:=h;have met:∀ (s:En × Nat) (k:Mk),jr gs tb as s k->(∀ e,s.1=some e->e∉L)->bF k.2 (c k.1)/\k.1<=ps.length:=λs k hk hl=>by
   obtain⟨h1,h2⟩:=hk;obtain⟨o,j⟩:=s;cases o with
   | none =>
    have h2:gs[j]?=some k.2:=h2;have:=(aa7.mp h2).1;have h1:k.1=j:=h1;rw[h1];exact⟨hg _ _ h2,by lia⟩
   | some e =>
    have h2:e∉as/\((e,(j:Int)),k.2)∈tb:=h2;have h1:k.1=j:=h1;have jt:(j,k.2)∈eN tb L:=Ak.mpr ⟨_,h2.2,hl e rfl,by simp⟩;have:=ht _ h2.2;rw[h1];exact⟨hw _ jt,by simpa using this⟩
  have step:∀ (e:Int) (t:Pp) (s:En × Nat) (k:Mk),jr gs tb as s k->s.1=some e->e∈L->Val ps gs tb mo t (as++[e])->sizeOf t<1+sizeOf x+sizeOf a+sizeOf b->False:=λe t s k hk es hl hv aU=>by
   have Av:e∉as:=by obtain⟨_,h2⟩:=hk;rw[es] at h2;exact h2.1
   refine JB hL hc hg jw hw ht t (as++[e]) (afY.mpr ⟨hn,by simp,λy hy z hz=>?_⟩) (λy hy=>?_) hv
   .obtain rfl:z=e:=by simpa using hz
    exact λq=>Av (q ▸ hy)
   .rcases abD.mp hy with z|z
    .exact hs y z
    .obtain rfl:y=e:=by simpa using z
     exact hl
  by_cases h1:∃ e,x.1.1=some e/\e∈L
  .obtain⟨e,e1,e2⟩:=h1;rw[e1] at ha;exact step e a x.1 m hm e1 e2 ha (by lia)
  by_cases h2:∃ e,x.2.1=some e/\e∈L
  .obtain⟨e,e1,e2⟩:=h2;have hb:if x.1.1=some e then b = .nil else Val ps gs tb mo b (as++[e]):=by rw[e1] at hb;exact hb
   rw[if_neg (λz=>h1 ⟨e,z,e2⟩)] at hb;exact step e b x.2 n jR e1 e2 hb (by lia)
  have m1:=met x.1 m hm λe he z=>h1 ⟨e,he,z⟩;have m2:=met x.2 n jR λe he z=>h2 ⟨e,he,z⟩;refine Sx (ms:=[m,n]) hc (λq hq=>?_) (λq hq=>?_) (.head _) (.tail _ (.head _)) bf
  .rcases abl.mp hq with rfl|hq
   .exact m1.1
   .obtain rfl:q=n:=by simpa using hq
    exact m2.1
  .rcases abl.mp hq with rfl|hq
   .exact m1.2
   .obtain rfl:q=n:=by simpa using hq
    exact m2.2
termination_by t=>sizeOf t
decreasing_by simp_wf;lia
theorem Aw(f:Nat->Int):∀ i,(firstMet f i).Nodup
 | 0=>aeK
 | i+1=>by
  rw[firstMet_succ];unfold step_dedup;split
  .exact Aw f i
  .rename_i h;refine afY.mpr ⟨Aw f i,by simp,λa ha b hb z=>h ?_⟩;obtain rfl:b=f i:=by simpa using hb
   exact acy.mpr ⟨a,ha,by simpa using z⟩
theorem Vx(ns:List Int)(x:Int):x∈firstMet (λi=>ns.getD i 0) ns.length↔x∈ns:=by
 have h:=firstMet_any (λi=>ns.getD i 0) ns.length x;have e:(abG ns.length).map (λi=>ns.getD i 0)=ns:=by refine agh (by simp) λi h1 h2=>?_;simp[h2]
 rw[e] at h;constructor
 .intro z;have:ns.any (· == x)=true:=by rw[<- h];exact acy.mpr ⟨x,z,by simp⟩
  obtain⟨y,hy,e⟩:=acy.mp this;exact (by simpa using e:y=x) ▸ hy
 .intro z;have:(firstMet (λi=>ns.getD i 0) ns.length).any (· == x)=true:=by rw[h];exact acy.mpr ⟨x,z,by simp⟩
  obtain⟨y,hy,e⟩:=acy.mp this;exact (by simpa using e:y=x) ▸ hy
def JC(K:aa0)(t:TE):TE:=λσ H Q=>t σ H λv H1=>∃ (a:abd) (ns:List Int),v=V.ref a/\ai K H1 a (ns.map V.int)/\ns.length<=1000/\∀ zs:List Int,zs.Nodup->(∀ x,x∈zs↔x∈ns)->Q (.int zs.length) H1
theorem Vy(hc:X.calm=true)(he:PE X e t)(Ad:X.mg "len" = none)(mF:X.mg "set" = none)(nV:Gl X "len" := by rfl)(sq:Gl X "set" := by rfl)(cZ:abA [e] X.env=[(false,eval e X.env)]:=by rfl)(sr:abA [.Call (.Name "set" p2) [e] [] gE] X.env=[(false,eval (.Call (.Name "set" p2) [e] [] gE) X.env)]:=by rfl) :
 PE X (.Call (.Name "len" p1) [.Call (.Name "set" p2) [e] [] gE] [] pos) (JC X.K t):=by
 intro pins s σ H Q I h;refine acs (fI I nV Ad cp ?_ (by decide) (by decide));refine adA ?_ (by rw[sr];rfl) rfl;rw[sr];show abm _ _ (spliced ((false,eval (.Call (.Name "set" p2) [e] [] gE) X.env)::adh pos [])) _ _ s;refine acR ?_;refine acs (fI I sq mF Im ?_ (by decide) (by decide));refine abI ?_ (by rw[cZ];rfl) rfl;rw[cZ];show abm _ _ (spliced ((false,eval e X.env)::adh gE [])) _ _ s;refine acR (aE (he pins s σ H _ I h) λu s1 zq=>?_);obtain⟨x,H1,I1,r1,q1⟩:=zq;obtain⟨a,ns,rfl,hS,hn,q⟩:=q1;cases r1;refine ac0 ?_;obtain⟨us,rv,pl,hz⟩:=I1.list hS;have hl:us.length=ns.length:=by have:=rv.length;rw[aa2] at this;lia
 refine call_set_list (items:=us.toArray) (ns:=ns) (I1.ok.hd hc) pl.isList (intsAre_of rv) (by simp;rw[hl];exact abV (Nat.succ_le_succ hn) (by decide)) λh2 tk Vz hk=>?_;refine ac0 ?_;obtain⟨o,es,ep,tb,g1,g2,g3,g4,g5,g6,g7,g8⟩:=Vz;have VA:us.toArray.size=ns.length:=by simp[hl]
 rw[VA] at g8;refine call_len_set g1 g2 g3 g7 (by rw[g8];have:=firstMet_length_le (λi=>ns.getD i 0) ns.length;lia) ?_;refine⟨.int es.size,H1,I1.kept λb o hb=>hk b o (aa6 hb) hb,⟨_,rfl⟩,?_⟩;rw[g8];exact q _ (Aw _ _) (Vx ns)
def jx(sw gw:List W2)(tb:Tb)(m:Int)(L:List Int)(c:Nat->Int):Prop:=(L.length:Int)<=m/\(∀ (j:Nat) w,sw[j]?=some w->dA w (c (j+1)-c j))/\(∀ (j:Nat) w,gw[j]?=some w->dA w (c j))/\∀ r∈tb,r.1.1∉L->bF r.2 (c r.1.2.toNat)
theorem Ax:meets (eN tb L) c ↔ ∀ r∈tb,r.1.1∉L->bF r.2 (c r.1.2.toNat):=by
 unfold meets eN;constructor
 .intro h r hr hn;exact h (r.1.2.toNat,r.2) (aa8.mpr ⟨r,abE.mpr ⟨pX.mem_iff.mpr hr,by simpa using hn⟩,rfl⟩)
 .intro h m hm;obtain⟨r,hr,rfl⟩:=aa8.mp hm;obtain⟨h1,h2⟩:=abE.mp hr;exact h r (pX.mem_iff.mp h1) (by simpa using h2)
theorem Ay:(∀ (j:Nat) w,(pp.map gF)[j]?=some w->dA w (c (j+1)-c j))↔iP pp c:=by
 constructor
 .intro h k hk;obtain⟨s,e,h1,h2⟩:=h k (gF (aF pp k)) (by rw[abh,aa3 hk];unfold aF;rw[aa1,aa3 hk];rfl);unfold gF at e;cases e;exact⟨h1 _ rfl,h2 _ rfl⟩
 .intro h j w hw;rw[abh] at hw;obtain⟨p,hp,rfl⟩:=abF.mp hw;have hj:=(aa7.mp hp).1;have:=h j hj;unfold aF at this;rw[aa1,hp] at this;exact⟨_,rfl,λa z=>by cases z;exact this.1,λa z=>by cases z;exact this.2⟩
theorem Az{gs:List S2}{c:Nat->Int}:(∀ (j:Nat) w,(gs.map some)[j]?=some w->dA w (c j)) ↔ ∀ (j:Nat) s,gs[j]?=some s->bF s (c j):=by
 constructor
 .intro h j s hs;obtain⟨s',e,z⟩:=h j (some s) (by rw[abh,hs];rfl);cases e;exact z
 .intro h j w hw;rw[abh] at hw;obtain⟨s,hs,rfl⟩:=abF.mp hw;exact⟨s,rfl,h j s hs⟩
theorem VB:r∈fj tb s w↔r=(s,w)∨(r∈tb/\r.1≠s):=by
 unfold fj;split
 .rename_i h;rw[acy] at h;constructor
  .intro hr;obtain⟨x,hx,rfl⟩:=aa8.mp hr;by_cases e:x.1=s
   .rw[if_pos e,e];exact .inl rfl
   .rw[if_neg e];exact .inr ⟨hx,e⟩
  .rintro (rfl|⟨h1,h2⟩)
   .obtain⟨x,hx,e⟩:=h;have e:=of_decide_eq_true e;exact aa8.mpr ⟨x,hx,by rw[if_pos e,e]⟩
   .exact aa8.mpr ⟨r,h1,by rw[if_neg h2]⟩
 .rename_i h;rw[abD,abp];constructor
  .rintro (h1|rfl)
   .refine .inr ⟨h1,λe=>h (acy.mpr ⟨r,h1,decide_eq_true e⟩)⟩
   .exact .inl rfl
  .rintro (rfl|⟨h1,_⟩)
   .exact .inr rfl
   .exact .inl h1
theorem JD(h:bI e t tb)(he:0<=e)(ht:0<=t):(tb.length:Int)<=e * t:=by
 have z:∀ {i i' j j':Int},i<i'->j<t->0<=j'->i * t+j<i' * t+j':=λ{i i' j j'} a b c=>by have:=Int.mul_le_mul_of_nonneg_right (show i+1<=i' by lia) ht;rw[ajn,Int.one_mul] at this;lia
 have:=wH (xs:=tb.map λr=>r.1.1 * t+r.1.2) (ys:=(abG (e * t).toNat).map λn:Nat=>(n:Int)) ?_ ?_
 .rw[aa2,aa2,abw] at this;have:=adL he ht;lia
 .have hn:=h.1;unfold List.Nodup at hn ⊢;rw[ahJ] at hn ⊢;refine hn.imp_of_mem λ{a b} ha hb bV q=>bV ?_;obtain⟨⟨a1,a2⟩,a3,a4⟩:=h.2 a ha;obtain⟨⟨b1,b2⟩,b3,b4⟩:=h.2 b hb;rcases Int.lt_trichotomy a.1.1 b.1.1 with c|c|c
  .have:=z c a4 b3;lia
  .rw[c] at q;exact Prod.ext c (by lia)
  .have:=z c b4 a3;lia
 .intro x hx;obtain⟨r,hr,rfl⟩:=aa8.mp hx;obtain⟨⟨a1,a2⟩,a3,a4⟩:=h.2 r hr;have q:=z a2 a4 (ach 0);have q0:=adL a1 ht;exact aa8.mpr ⟨(r.1.1 * t+r.1.2).toNat,acO.mpr (by lia),by lia⟩
end Gz
namespace AA
open PySem L2 Gz
local macro_rules | `(tactic| walk_at "d") => `(tactic| dsimp only [seval, Nat.reduceAdd, Nat.reduceSub, ↓reduceIte, u7, D0, yi, nu, D7, x3, tC, DZ, DX, vd, bX, yu, yo, vo, vq, DN, DO, tB, DQ, DR, DS, DT, DU, DV, DW, DY, rI, gu, rU, D9, Ea, Pc, Pd, Pe, Pf, Pg, O4, O5, O6, O7, O8, O9, ite_tt, ite_ff, L2.start, Ph, Pj, List.map_cons, List.map_nil, List.length_cons, List.length_nil, List.replicate, List.nil_append, List.cons_append, List.getElem?_cons_zero, List.getElem?_cons_succ, List.set_cons_zero, List.set_cons_succ, Bool.not_true, Bool.not_false, Em, Eo, EW, Ow, EZ, Pk, Pl, Pm, yL, vK, Ri, yM, x8, x6, yK, D4, EO, zp, ya, x9, QZ, Q3, Ej, Ek, yq, Er, EH, EC, ED, ER, E1, QO, QP, QQ, yj, FC, za, zd, zg, Jk, UY, UZ, U0, U1, U2, U3, U4, U5, U6, U7, U8, Ve, U9, Va, Vb, Vc, Vd, sG, wB, Ap, Aq, Jm, ql, Jr, Js, Vi, Vj, Jp, Vk, Vl, Vm, Vn, Vo, Vp, Vq, Vr, Vs, Vt, Jt, Ju, Jv, Jw, Jx, Jy, Jz, JA, pF, pG, Hs, zA, GX, GY, GZ, Hn, HW, OH, mD, lC, cB, gR, Jh, Ic, Td, Ib, zZ, Tf, Iq, IF, SY, JC, Ul])
local macro_rules | `(tactic| walk_at "s") => `(tactic| simp only [seval, Nat.reduceAdd, Nat.reduceSub, reduceCtorEq, ↓reduceIte, ite_tt, ite_ff, List.map_cons, List.map_nil, List.length_cons, List.length_nil, List.nil_append, List.cons_append, Option.some.injEq, V.int.injEq, V.bl.injEq, V.ref.injEq, List.cons.injEq, exists_eq_left, exists_eq_left', exists_and_left, true_and, and_true, decide_eq_true_eq, Nat.zero_add, Nat.sub_self, Nat.add_one_sub_one, decide_true, decide_false, Bool.not_eq_true', decide_eq_false_iff_not, false_and, exists_false, and_assoc, not_false_eq_true, not_true_eq_false, List.append_nil, Option.join_some])
local macro_rules | `(tactic| walk_at "p") => `(tactic| first | (walk_at "d"; repeat (first | walk_at "s" | walk_at "d")) | (walk_at "s"; repeat (first | walk_at "d" | walk_at "s")))
local macro_rules | `(tactic| walk_at "g") => `(tactic| try walk_at "p")
local macro_rules|`(tactic|rfl')=>`(tactic|walk_at "g")
local macro_rules | `(tactic| walk_at "c") => `(tactic| (refine ⟨⟨rfl, rfl, rfl, by decide +kernel, rfl, by decide +kernel, by decide +kernel⟩, fun _ _ _ _ _ _ _ _ => ?_⟩; (repeat (refine Vv fun _ => ?_)); exact Vw rfl))
theorem Fb.fp(b:Fb K x q st p)(S:Sc N ps st):∃ F:Fm K x q st ps,p F.a :=
 let ⟨a,l,c,k⟩:=b;⟨⟨_,_,oX l c k,(oX l c k).binds (S.b x q)⟩,a⟩
inductive cT(H:Hp)(v:V)(m:Mk):Prop
 | mk(t p:abd)(_:v = .ref t)(_:H t=some (.tup [.int m.1,.ref p]))(_:H p=some (.tup [ev m.2.1,ev m.2.2]))
theorem cT.same(h:cT H v m)(s:aj H H'):cT H' v m:=let ⟨t,p,e,a,b⟩:=h;⟨t,p,e,s _ _ a,s _ _ b⟩
def top(i:Nat):acM:=PySem.Challenge.pw_gaze_k65_eyes_named.main.body.getD i (.Pass ⟨0,0,0,0⟩)
abbrev AB:acM:=top 7
abbrev AD:acM:=top 8
abbrev AE:acM:=top 9
abbrev AF:acM:=top 10
abbrev AG:acM:=top 12
abbrev AH:acM:=top 13
abbrev AI:acM:=top 14
abbrev AJ:acM:=top 15
abbrev AK:acM:=top 16
abbrev AL:acM:=top 17
abbrev AM:acM:=top 18
abbrev AN:acM:=top 20
abbrev AO:acM:=top 21
abbrev AQ:acM:=inClass (top 22) 0
abbrev AR:acM:=inClass (top 22) 1
abbrev AS:acM:=inClass (top 23) 0
abbrev AU:acM:=inClass (top 23) 1
abbrev AV:acM:=inClass (top 23) 2
abbrev AW:acM:=inClass (top 23) 3
abbrev AX:acM:=inClass (top 23) 4
abbrev AY:acM:=top 25
abbrev AZ:acM:=top 27
abbrev A0:acM:=top 28
abbrev A1:acM:=top 29
abbrev A2:acM:=top 30
abbrev A3:acM:=top 31
abbrev A4:acM:=top 32
abbrev A5:acM:=top 33
abbrev A6:acM:=top 34
abbrev A7:acM:=top 35
abbrev A8:acM:=top 37
abbrev A9:acM:=top 38
abbrev Ba:acM:=top 39
abbrev Bb:acM:=top 40
abbrev Bc:acM:=top 42
abbrev Be:acM:=top 43
abbrev Bf:acM:=top 44
abbrev Bg:acM:=top 45
abbrev Bh:acM:=top 46
abbrev Bi:acM:=top 47
abbrev Bj:acM:=top 49
abbrev Bk:acM:=top 50
abbrev Bl:acM:=top 51
abbrev Bm:acM:=inClass (top 55) 0
abbrev Bo:acM:=inClass (top 55) 1
abbrev Bp:acM:=inClass (top 55) 2
abbrev Bq:acM:=inClass (top 55) 3
abbrev Br:acM:=inClass (top 55) 4
abbrev Bs:acM:=inClass (top 55) 6
abbrev Bu:acM:=inClass (top 55) 7
abbrev Bv:acM:=inClass (top 55) 9
abbrev Bw:acM:=inClass (top 55) 10
abbrev Bx:acM:=inClass (top 55) 11
abbrev By:acM:=top 57
abbrev Bz:acM:=top 58
abbrev BA:acM:=top 59
abbrev BC:acM:=top 60
abbrev BD:acM:=top 61
abbrev BE:acM:=top 62
abbrev BF:acM:=top 63
abbrev BG:acM:=top 64
abbrev BH:acM:=top 65
abbrev BI:acM:=top 66
abbrev BJ:acM:=top 67
abbrev BK:acM:=top 68
abbrev BL:acM:=top 69
abbrev BM:acM:=top 70
abbrev BN:acM:=top 71
abbrev BO:acM:=top 72
abbrev BP:acM:=top 73
abbrev BQ:acM:=top 74
abbrev BR:acM:=top 75
abbrev BS:acM:=top 76
abbrev BU:acM:=top 77
abbrev BV:acM:=top 78
abbrev BW:acM:=top 79
abbrev BX:acM:=top 80
abbrev BY:acM:=top 81
abbrev BZ:acM:=top 82
abbrev B0:acM:=top 83
abbrev B1:acM:=top 84
abbrev B2:acM:=top 85
abbrev B3:acM:=top 86
abbrev B6:acM:=top 87
theorem JE:Sc ["lo","hi"] ["lo","hi"] AB:=by walk_at "c"
theorem JF:Sc ["one","number"] ["one","number"] AD:=by walk_at "c"
theorem wI:Sc ["one","other","lo","hi"] ["one","other"] AE:=by walk_at "c"
theorem sI:Sc ["some","whole","one"] ["some"] AF:=by walk_at "c"
theorem JG:Sc ["course","kind","turn"] ["course","kind","turn"] AG:=by walk_at "c"
theorem JH:Sc ["course","claim"] ["course","claim"] AH:=by walk_at "c"
theorem JI:Sc ["board","kind","turn"] ["board","kind","turn"] AI:=by walk_at "c"
theorem B7:Sc ["board","claim","part"] ["board","claim"] AJ:=by walk_at "c"
theorem JJ:Sc ["claim","kind","turn"] ["claim","kind","turn"] AK:=by walk_at "c"
theorem B8:Sc ["board","claim","own"] ["board","claim"] AL:=by walk_at "c"
theorem JK:Sc ["board","claim"] ["board","claim"] AM:=by walk_at "c"
theorem wJ:Sc ["one","below","above"] ["one"] AN:=by walk_at "c"
theorem wK:Sc ["claim","found","part"] ["claim"] AO:=by walk_at "c"
theorem JL:Sc ["self","course"] ["self","course"] AQ:=by walk_at "c"
theorem JM:Sc ["self"] ["self"] AR:=by walk_at "c"
theorem JN:Sc ["self","marks"] ["self","marks"] AS:=by walk_at "c"
theorem JO:Sc ["self"] ["self"] AU:=by walk_at "c"
theorem JP:Sc ["self"] ["self"] AV:=by walk_at "c"
theorem JQ:Sc ["self"] ["self"] AW:=by walk_at "c"
theorem JR:Sc ["self"] ["self"] AX:=by walk_at "c"
theorem JS:Sc ["cell"] ["cell"] AY:=by walk_at "c"
theorem wL:Sc ["one","step","lo","hi"] ["one","step"] AZ:=by walk_at "c"
theorem n0:Sc ["boxes","steps","kept","turn","box","left"] ["boxes","steps"] A0:=by walk_at "c"
theorem JT:Sc ["marks","turn"] ["marks","turn"] A1:=by walk_at "c"
theorem wM:Sc ["steps","marks","forth","backward"] ["steps","marks"] A2:=by walk_at "c"
theorem qq:Sc ["steps","marks","boxes","course","step","box"] ["steps","marks"] A3:=by walk_at "c"
theorem JU:Sc ["one","other"] ["one","other"] A4:=by walk_at "c"
theorem JV:Sc ["one","by"] ["one","by"] A5:=by walk_at "c"
theorem n4:Sc ["steps","marks","tops","number","mark","turn"] ["steps","marks"] A6:=by walk_at "c"
theorem sJ:Sc ["tops","marks","number","mark","top"] ["tops","marks"] A7:=by walk_at "c"
theorem JW:Sc ["board","eye"] ["board","eye"] A8:=by walk_at "c"
theorem JX:Sc ["board","some"] ["board","some"] A9:=by walk_at "c"
theorem JY:Sc ["board"] ["board"] Ba:=by walk_at "c"
theorem lN:Sc ["steps","groups","found","name","marks","tops","beside","others","pair"] ["steps","groups"] Bb:=by walk_at "c"
theorem JZ:Sc ["pairs","eye"] ["pairs","eye"] Bc:=by walk_at "c"
theorem J0:Sc ["pair"] ["pair"] Be:=by walk_at "c"
theorem sL:Sc ["pairs","most","eye","others"] ["pairs","most"] Bf:=by walk_at "c"
theorem J1:Sc ["pairs","eye","most"] ["pairs","eye","most"] Bg:=by walk_at "c"
theorem n5:Sc ["pairs","most","one","other","first","second"] ["pairs","most"] Bh:=by walk_at "c"
theorem n6:Sc ["board","claim","steps","goals","marks","pairs","aside"] ["board","claim"] Bi:=by walk_at "c"
theorem sM:Sc ["board","claims","papers","claim","answer"] ["board","claims"] Bj:=by walk_at "c"
theorem sN:Sc ["board","event","fitting","without","having"] ["board","event"] Bk:=by walk_at "c"
theorem J5:Sc ["board","eye"] ["board","eye"] Bl:=by walk_at "c"
theorem J6:Sc ["self","eyes","turns","up","down","most"] ["self","eyes","turns","up","down","most"] Bm:=by walk_at "c"
theorem J9:Sc ["self","eye"] ["self","eye"] Bo:=by walk_at "c"
theorem Ka:Sc ["self","turn"] ["self","turn"] Bp:=by walk_at "c"
theorem Kb:Sc ["self","eye","turn","lo","hi"] ["self","eye","turn","lo","hi"] Bq:=by walk_at "c"
theorem Kc:Sc ["self","eye","turn"] ["self","eye","turn"] Br:=by walk_at "c"
theorem Kd:Sc ["self"] ["self"] Bs:=by walk_at "c"
theorem Ke:Sc ["self"] ["self"] Bu:=by walk_at "c"
theorem B9:Sc ["self","most","board"] ["self","most"] Bv:=by walk_at "c"
theorem Kf:Sc ["self","eye","turn"] ["self","eye","turn"] Bw:=by walk_at "c"
theorem Kg:Sc ["self","eye","turn"] ["self","eye","turn"] Bx:=by walk_at "c"
theorem Kh:Sc ["_law_script","_law_k","_law_prime","_law_many"] ["_law_script","_law_k","_law_prime","_law_many"] By:=by walk_at "c"
theorem Ca:Sc ["_law_script","_law_great"] ["_law_script"] Bz:=by walk_at "c"
theorem Ki:Sc ["_law_found"] ["_law_found"] BA:=by walk_at "c"
theorem Kj:Sc ["_law_span_here","_law_number"] ["_law_span_here","_law_number"] BC:=by walk_at "c"
theorem gG:Sc ["_law_script","_law_sort","_law_eyes","_law_turns","_law_unit","_law_ups","_law_downs"] ["_law_script"] BD:=by walk_at "c"
theorem sO:Sc ["_law_script","_law_shape_here","_law_base_here","_law_course","_law_turn","_law_step"] ["_law_script","_law_shape_here","_law_base_here"] BE:=by walk_at "c"
theorem n9:Sc ["_law_script","_law_k","_law_number","_law_unit","_law_lo","_law_hi","_law_open_end"] ["_law_script","_law_k","_law_number","_law_unit"] BF:=by walk_at "c"
theorem jy:Sc ["_law_script","_law_shape_here","_law_course","_law_words","_law_wrong","_law_eye","_law_turn","_law_k","_law_number","_law_silent"] ["_law_script","_law_shape_here","_law_course"] BG:=by walk_at "c"
theorem wN:Sc ["_law_world_here","_law_board_here","_law_spot"] ["_law_world_here"] BH:=by walk_at "c"
theorem Kk:Sc ["_law_world_here","_law_course"] ["_law_world_here","_law_course"] BI:=by walk_at "c"
theorem Cb:Sc ["_law_world_here","_law_course","_law_turn"] ["_law_world_here","_law_course"] BJ:=by walk_at "c"
theorem og:Sc ["_law_begin","_law_claim","_law_sort","_law_turn","_law_lo","_law_hi","_law_part_here"] ["_law_begin","_law_claim","_law_sort","_law_turn"] BK:=by walk_at "c"
theorem Kl:Sc ["_law_span_here"] ["_law_span_here"] BL:=by walk_at "c"
theorem Cc:Sc ["_law_steps","_law_one","_law_other","_law_up"] ["_law_steps","_law_one","_law_other"] BM:=by walk_at "c"
theorem Km:Sc ["_law_world_here","_law_goals","_law_spot","_law_aside"] ["_law_world_here","_law_goals","_law_spot","_law_aside"] BN:=by walk_at "c"
theorem Kn:Sc ["_law_world_here","_law_steps","_law_goals","_law_paper","_law_eye","_law_aside"] ["_law_world_here","_law_steps","_law_goals","_law_paper","_law_eye","_law_aside"] BO:=by walk_at "c"
theorem wO:Sc ["_law_world_here","_law_steps","_law_goals","_law_paper","_law_aside","_law_one","_law_other"] ["_law_world_here","_law_steps","_law_goals","_law_paper","_law_aside"] BP:=by walk_at "c"
theorem qr:Sc ["_law_world_here","_law_steps","_law_goals","_law_paper","_law_aside","_law_spans"] ["_law_world_here","_law_steps","_law_goals","_law_paper","_law_aside"] BQ:=by walk_at "c"
theorem sP:Sc ["_law_world_here","_law_claim","_law_paper","_law_own","_law_steps","_law_goals"] ["_law_world_here","_law_claim","_law_paper"] BR:=by walk_at "c"
theorem sQ:Sc ["_law_course","_law_claim","_law_part_here","_law_number"] ["_law_course","_law_claim"] BS:=by walk_at "c"
theorem Cd:Sc ["_law_span_here","_law_end"] ["_law_span_here"] BU:=by walk_at "c"
theorem Ko:Sc ["_law_part_here","_law_far"] ["_law_part_here","_law_far"] BV:=by walk_at "c"
theorem Ce:Sc ["_law_some","_law_many","_law_far","_law_claim"] ["_law_some","_law_many","_law_far"] BW:=by walk_at "c"
theorem Cf:Sc ["_law_words","_law_eye","_law_course","_law_spot"] ["_law_words","_law_eye","_law_course"] BX:=by walk_at "c"
theorem Kq:Sc ["_law_world_here","_law_claims_here","_law_papers"] ["_law_world_here","_law_claims_here","_law_papers"] BY:=by walk_at "c"
theorem wQ:Sc ["_law_world_here","_law_board_here","_law_words","_law_eye","_law_event","_law_found","_law_beside"] ["_law_world_here","_law_board_here","_law_words","_law_eye","_law_event"] BZ:=by walk_at "c"
theorem sR:Sc ["_law_words","_law_eye","_law_ends_here","_law_spot"] ["_law_words","_law_eye"] B0:=by walk_at "c"
theorem jz:Sc ["_law_words","_law_eye","_law_event","_law_courses","_law_far","_law_told","_law_due","_law_ways","_law_breaks","_law_course","_law_had_here","_law_kept","_law_claim"] ["_law_words","_law_eye","_law_event","_law_courses"] B1:=by walk_at "c"
theorem sS:Sc ["_law_board_here","_law_eye","_law_caught","e"] ["_law_board_here","_law_eye"] B2:=by walk_at "c"
theorem qt:Sc ["_law_script","_law_world_here","_law_board_here","_law_eye","_law_number","_law_unit","_law_words","_law_spot","_law_word_here","_law_turn"] ["_law_script","_law_world_here","_law_board_here","_law_eye","_law_number","_law_unit"] B3:=by walk_at "c"
theorem gH:Sc ["_law_script","_law_shape_here","_law_course","_law_world_here","_law_board_here","_law_eye","_law_courses","_law_k","_law_bent","_law_event","_law_twin","_law_after_here"] ["_law_script"] B6:=by walk_at "c"
set_option genInjectivity false
set_option genSizeOf false
structure Tx(K:aa0)(mg:Str->Option aa9) where
 sT:Fn K mg "is_crossed" AB ["lo","hi"]
 sU:Fn K mg "holds" AD ["one","number"]
 sV:Fn K mg "meet" AE ["one","other"]
 sW:Fn K mg "common" AF ["some"]
 sX:Fn K mg "number_at" AG ["course","kind","turn"]
 sY:Fn K mg "meets" AH ["course","claim"]
 sZ:Fn K mg "has_part" AI ["board","kind","turn"]
 jA:Fn K mg "check_claim" AJ ["board","claim"]
 tf:Fn K mg "stretches_of" AK ["claim","kind","turn"]
 mM:Fn K mg "paces" AL ["board","claim"]
 mO:Fn K mg "wanted" AM ["board","claim"]
 tj:Fn K mg "outside" AN ["one"]
 tm:Fn K mg "failures" AO ["claim"]
 jB:Fm K "held" "Event.held" AQ ["self","course"]
 kC:Fm K "sizes" "Event.sizes" AR ["self"]
 oh:Fm K "__init__" "Lying.__init__" AS ["self","marks"]
 lO:Fm K "far" "Lying.far" AU ["self"]
 lP:Fm K "all_right" "Lying.all_right" AV ["self"]
 ik:Fm K "ways" "Lying.ways" AW ["self"]
 iQ:Fm K "breaks" "Lying.breaks" AX ["self"]
 tq:Fn K mg "number_in" AY ["cell"]
 tu:Fn K mg "moved" AZ ["one","step"]
 tx:Fn K mg "narrowed" A0 ["boxes","steps"]
 tD:Fn K mg "stretches_at" A1 ["marks","turn"]
 tE:Fn K mg "tube" A2 ["steps","marks"]
 tF:Fn K mg "course_in" A3 ["steps","marks"]
 tG:Fn K mg "lesser" A4 ["one","other"]
 tH:Fn K mg "lifted" A5 ["one","by"]
 tI:Fn K mg "ceilings" A6 ["steps","marks"]
 tJ:Fn K mg "crossing" A7 ["tops","marks"]
 tK:Fn K mg "marks_of" A8 ["board","eye"]
 tL:Fn K mg "marks_without" A9 ["board","some"]
 tM:Fn K mg "groups_of" Ba ["board"]
 tN:Fn K mg "clashes" Bb ["steps","groups"]
 jC:Fn K mg "without" Bc ["pairs","eye"]
 mP:Fn K mg "eyes_of" Be ["pair"]
 jD:Fn K mg "put_aside" Bf ["pairs","most"]
 iR:Fn K mg "branch" Bg ["pairs","eye","most"]
 iS:Fn K mg "paper" Bh ["pairs","most"]
 x_ask:Fn K mg "ask" Bi ["board","claim"]
 jE:Fn K mg "seek" Bj ["board","claims"]
 mQ:Fn K mg "verdict" Bk ["board","event"]
 gI:Fn K mg "lying" Bl ["board","eye"]
 mR:Fm K "__init__" "Board.__init__" Bm ["self","eyes","turns","up","down","most"]
 lQ:Fm K "has_eye" "Board.has_eye" Bo ["self","eye"]
 iT:Fm K "has_turn" "Board.has_turn" Bp ["self","turn"]
 lR:Fm K "tell" "Board.tell" Bq ["self","eye","turn","lo","hi"]
 mS:Fm K "hush" "Board.hush" Br ["self","eye","turn"]
 lS:Fm K "tellings" "Board.tellings" Bs ["self"]
 mT:Fm K "twin" "Board.twin" Bu ["self"]
 mU:Fm K "allowing" "Board.allowing" Bv ["self","most"]
 mV:Fm K "check_spot" "Board.check_spot" Bw ["self","eye","turn"]
 mW:Fm K "check_word" "Board.check_word" Bx ["self","eye","turn"]
 tO:Fn K mg "_law_draw" By ["_law_script","_law_k","_law_prime","_law_many"]
 tP:Fn K mg "_law_base" Bz ["_law_script"]
 mX:Fn K mg "_law_whole" BA ["_law_found"]
 tQ:Fn K mg "_law_within" BC ["_law_span_here","_law_number"]
 tR:Fn K mg "_law_shape" BD ["_law_script"]
 tS:Fn K mg "_law_true_course" BE ["_law_script","_law_shape_here","_law_base_here"]
 tT:Fn K mg "_law_word" BF ["_law_script","_law_k","_law_number","_law_unit"]
 tU:Fn K mg "_law_world" BG ["_law_script","_law_shape_here","_law_course"]
 tV:Fn K mg "_law_board" BH ["_law_world_here"]
 tW:Fn K mg "_law_liars" BI ["_law_world_here","_law_course"]
 tX:Fn K mg "_law_fits" BJ ["_law_world_here","_law_course"]
 tY:Fn K mg "_law_common" BK ["_law_begin","_law_claim","_law_sort","_law_turn"]
 jF:Fn K mg "_law_empty" BL ["_law_span_here"]
 mY:Fn K mg "_law_climb" BM ["_law_steps","_law_one","_law_other"]
 jG:Fn K mg "_law_mark" BN ["_law_world_here","_law_goals","_law_spot","_law_aside"]
 iU:Fn K mg "_law_branch" BO ["_law_world_here","_law_steps","_law_goals","_law_paper","_law_eye","_law_aside"]
 lT:Fn K mg "_law_clash" BP ["_law_world_here","_law_steps","_law_goals","_law_paper","_law_aside"]
 ip:Fn K mg "_law_refuted" BQ ["_law_world_here","_law_steps","_law_goals","_law_paper","_law_aside"]
 tZ:Fn K mg "_law_refutes" BR ["_law_world_here","_law_claim","_law_paper"]
 t4:Fn K mg "_law_met" BS ["_law_course","_law_claim"]
 t5:Fn K mg "_law_span" BU ["_law_span_here"]
 t6:Fn K mg "_law_part" BV ["_law_part_here","_law_far"]
 t7:Fn K mg "_law_claims" BW ["_law_some","_law_many","_law_far"]
 t8:Fn K mg "_law_lies" BX ["_law_words","_law_eye","_law_course"]
 t9:Fn K mg "_law_all_refuted" BY ["_law_world_here","_law_claims_here","_law_papers"]
 gJ:Fn K mg "_law_right" BZ ["_law_world_here","_law_board_here","_law_words","_law_eye","_law_event"]
 uc:Fn K mg "_law_ends" B0 ["_law_words","_law_eye"]
 gK:Fn K mg "_law_had" B1 ["_law_words","_law_eye","_law_event","_law_courses"]
 ud:Fn K mg "_law_refused" B2 ["_law_board_here","_law_eye"]
 mZ:Fn K mg "_law_after" B3 ["_law_script","_law_world_here","_law_board_here","_law_eye","_law_number","_law_unit"]
 oi:Fn K mg "law" B6 ["_law_script"]
 wR:mg "all" = none
 Cg:mg "any" = none
 Kr:mg "bool" = none
 Ks:mg "dict" = none
 wU:mg "enumerate" = none
 Kt:mg "int" = none
 gh:mg "isinstance" = none
 cA:mg "len" = none
 m5:mg "list" = none
 Ci:mg "max" = none
 Cj:mg "min" = none
 fw:mg "range" = none
 VC:mg "reversed" = none
 Ku:mg "set" = none
 Kv:mg "sorted" = none
 Kw:mg "sum" = none
 ue:mg "tuple" = none
 Kx:mg "zip" = none
 oj:abd
 VD:mg "GazeError" = some (.ref oj)
 lU:abd
 Ck:mg "NoBoard" = some (.ref lU)
 cU:abd
 uf:mg "NoTelling" = some (.ref cU)
 iq:abd
 Cm:mg "NoClaim" = some (.ref iq)
 ir:abd
 VE:mg "Event" = some (.ref ir)
 bG:abd
 VF:mg "Lying" = some (.ref bG)
 aO:abd
 Ky:mg "Board" = some (.ref aO)
 Kz:eI K ir
 aaU:Meth K ir "held" jB.a
 aaV:Meth K ir "sizes" kC.a
 di:eI K bG
 ug:fX K bG "marks"
 KA:Meth K bG "held" jB.a
 VG:Meth K bG "sizes" kC.a
 Cn:Mk K bG oh.a
 KC:Meth K bG "far" lO.a
 KD:Meth K bG "all_right" lP.a
 qu:Meth K bG "ways" ik.a
 uh:Meth K bG "breaks" iQ.a
 bA:eI K aO
 qv:fX K aO "eyes"
 oq:fX K aO "turns"
 ui:fX K aO "up"
 uj:fX K aO "down"
 qw:fX K aO "most"
 kD:fX K aO "told"
 wV:Mk K aO mR.a
 KG:Meth K aO "has_eye" lQ.a
 uk:Meth K aO "has_turn" iT.a
 KH:Meth K aO "tell" lR.a
 VH:Meth K aO "hush" mS.a
 KI:Meth K aO "tellings" lS.a
 VI:Meth K aO "twin" mT.a
 VJ:Meth K aO "allowing" mU.a
 VL:Meth K aO "check_spot" mV.a
 VM:Meth K aO "check_word" mW.a
 um:XC K lU
 m6:XC K cU
 wW:XC K iq
 VN:afD K (.ref cU) (.ref cU)=some true
 VO:abW K (.ref cU) (.ref oj)=some true
 VP:abW K (.ref cU) (.ref iq)=some false
 VQ:abW K (.ref bG) (.ref ir)=some true
 Co:abQ K (.ref bG) "__class__" = some (some (.builtin "object.__class__"))
 Cp:ahh K bG (.type "object")=some true
 Cq:afM K (.builtin "object.__class__") "__get__" = some (some (.builtin "getset_descriptor.__get__"))
 Cr:agy K (.builtin "object.__class__")=some true
 VR:∃ t,mg "EYES_AT_MOST" = some (.int 7 t)
 VS:∃ t,mg "TURNS_AT_MOST" = some (.int 12 t)
set_option genInjectivity true
set_option genSizeOf true
section
seal L2.PE L2.PS L2.aR L2.PA
inductive VT(vs:List V)(H:Hp)(Q:VK)(aP:XK):Prop
 | mk(v:V)(_:vs=[v])(_:(v = .non ∨ ∃ i,v = .int i))(_:Q (.bl (isWhole v)) H)
theorem ot(T:Tx K mg):Ok P w base 1 T.mX VT:=by
 refine bc Ki ?_;rintro _ _ _ _ _ _ _ _ _ ⟨v,rfl,hv,q⟩;refine⟨_,(au (aA (fv (aV hU (by rfl) T.gh gd (ae (aa 0) (ae (iz (v:=.ty "int") rfl T.Kt E9 rfl) ag))) (eU (sH (aV hU (by rfl) T.gh gd (ae (aa 0) (ae (iz (v:=.ty "bool") rfl T.Kr Fc rfl) ag)))))))),?_⟩;rcases hv with rfl|⟨i,rfl⟩
 .rfl';exact q
 .rfl';exact q
inductive VU(vs:List V)(H:Hp)(Q:VK)(aP:XK):Prop
 | mk(a b:En)(_:vs=[ev a,ev b])(_:Q (.bl (aT a b)) H)
theorem wX(T:Tx K mg):Ok P w base 1 T.sT VU:=by
 refine bc JE ?_;rintro _ _ _ _ _ _ _ _ _ ⟨a,b,rfl,q⟩;refine⟨_,(au (aA (fv (jS (qX (aa 0))) (fv (jS (qX (aa 1))) (eU (fe (kB rg) (aa 0) (aa 1) (da _))))))),?_⟩;rcases a with _|x
 .rfl';exact q
 rcases b with _|y
 .rfl';exact q
 rfl';exact q
inductive VV(vs:List V)(H:Hp)(Q:VK)(aP:XK):Prop
 | mk(v:V)(a b:En)(n:Int)(_:vs=[v,.int n])(_:aM H v a b)(_:Q (.bl (hold a b n)) H)
theorem VW(T:Tx K mg):Ok P w base 2 T.sU VV:=by
 refine bc JF ?_;rintro _ _ _ _ _ _ _ _ hr ⟨v,a,b,n,rfl,⟨p,rfl,hp⟩,q⟩;refine⟨_,(au (aA (fv (sH (aD (wX T) hr (ae (aq (aa 0) af) (ae (aa 1) ag)))) (eU (sH (aD (wX T) hr (ae (aa 1) (ae (aq (aa 0) af) ag)))))))),?_⟩;rfl';refine ak (ah.of hp) rfl ⟨a,some n,rfl,?_⟩;unfold hold at q;rfl';cases hc:aT a (some n) with
 | true =>
  rw[hc] at q;rfl';exact q
 | false =>
  rw[hc] at q;rfl';refine ak (ah.of hp) rfl ⟨some n,b,rfl,?_⟩;rfl';exact q
inductive VX(vs:List V)(H:Hp)(Q:VK)(aP:XK):Prop
 | mk(v u:V)(a b c d:En)(_:vs=[v,u])(_:aM H v a b)(_:aM H u c d)(_:∀ x H',aj H H'->GK H' x (dR a c) (dS b d)->Q x H')
theorem Cs(T:Tx K mg):Ok P w base 2 T.sV VX:=by
 refine bc wI ?_;rintro _ _ _ _ H _ Q _ hr ⟨v,u,a,b,c,d,rfl,⟨p,rfl,hp⟩,⟨r,rfl,dE⟩,q⟩;refine⟨_,(ax (aI 2 wI.nd (y9 rfl rfl T.Ci (cQ (bU.mk (fr:=[]) (ys:=[]) rfl (by decide +kernel) rfl (by decide +kernel) rfl rfl .nil .nil (by decide) rfl) rfl (oQ (aS (ae (aq (aa 0) af) (ae (aq (aa 1) af) ag)))) (λC s2 H2 ex pn=>⟨(jc (fR (aa 0))),(aa 0)⟩)) b5))
  (ax (aI 3 wI.nd (QD rfl rfl T.Cj (cQ (bU.mk (fr:=[]) (ys:=[]) rfl (by decide +kernel) rfl (by decide +kernel) rfl rfl .nil .nil (by decide) rfl) rfl (oQ (aS (ae (aq (aa 0) af) (ae (aq (aa 1) af) ag)))) (λC s2 H2 ex pn=>⟨(jc (fR (aa 0))),(aa 0)⟩)) b5))
  (ax (aG (bz (aD (wX T) hr (ae (aa 2) (ae (aa 3) ag)))) (au (aA b5)) aH)
  (au (aA (aS (ae (aa 2) (ae (aa 3) ag)))))))),?_⟩
 rfl';refine ak (ah.of hp) rfl (ak (ah.of dE) rfl ?_);rfl';refine⟨aW,λt ht=>⟨⟨_,ah.of aw⟩,GL aw (λx H Q h=>?_) (λx H Q h=>?_) λl hl=>?_⟩⟩
 .rfl';exact Jj (Q:=λk=>Q k H) h
 .rfl';exact h
 refine⟨l,rfl,nums a c,ai.of aw,?_⟩;rw[Rk];have s2:=(ao (o:=.tup [ev a,ev c]) ht).trans (ao (o:=.lst ((nums a c).map V.int)) hl);generalize upd (upd H t (.tup [ev a,ev c])) l (.lst ((nums a c).map V.int))=H2 at s2 ⊢;refine ak (ah.of (s2 _ _ hp)) rfl (ak (ah.of (s2 _ _ dE)) rfl ?_);rfl';refine⟨aW,λt' VY=>⟨⟨_,ah.of aw⟩,GL aw (λx H Q h=>?_) (λx H Q h=>?_) λl' qU=>?_⟩⟩
 .rfl';exact Jj (Q:=λk=>Q k H) h
 .rfl';exact h
 refine⟨l',rfl,nums b d,ai.of aw,?_⟩;rw[Rl];have s3:=s2.trans ((ao (o:=.tup [ev b,ev d]) VY).trans (ao (o:=.lst ((nums b d).map V.int)) qU));generalize upd (upd H2 t' (.tup [ev b,ev d])) l' (.lst ((nums b d).map V.int))=H3 at s3 ⊢;refine⟨_,_,rfl,?_⟩;cases hc:aT (dR a c) (dS b d) with
 | true =>
  rfl';exact q _ _ s3 ⟨λ_=>rfl,λz=>nomatch hc.symm.trans z⟩
 | false =>
  rfl';exact⟨aW,λp' cP=>q _ _ (s3.trans (ao cP)) ⟨λz=>(nomatch hc.symm.trans z),λ_=>aM.new⟩⟩
def dZ(e t u d m:Int):Prop:=(1<=e/\e<=7)/\(1<=t/\t<=12)/\0<=u/\0<=d/\0<=m/\m<=e
noncomputable def qx(e t u d m:Int)(p:abd):List (Str × V):=[("eyes",.int e),("turns",.int t),("up",.int u),("down",.int d),("most",.int m),("told",.ref p)]
inductive VZ(B C:abd)(vs:List V)(H:Hp)(Q:VK)(E:XK):Prop
 | mk(x dx:abd)(e t u d m:Int)(_:vs=[.ref x,.int e,.int t,.int u,.int d,.int m])(_:H x=some (.ins B dx []))(_:(¬ dZ e t u d m->E (.ref C) none H))(_:(dZ e t u d m->∀ p H',H p=none->SameBut x H H'->H' x=some (.ins B dx (qx e t u d m p))->H' p=some (.dT [])->Q .non H'))
theorem KJ(T:Tx K mg):Om P w mg base 1 T.mR (VZ T.aO T.lU):=by
 refine qm J6 ?_;rintro _ _ _ _ H _ _ E _ ⟨x,dx,e,t,u,d,m,rfl,hx,q0,q⟩;refine⟨_,(ax (aG (PW.pt (bB (bC (Au gW gW af (aa 1) (Hu T.VR rfl))) (ck (bC (Au gW gW af (aa 2) (Hu T.VS rfl)))))) (au (kW kX rfl T.Ck T.um rfl (ae bp ag))) aH)
  (ax (aG (PW.pt (bB (lM (aa 3) af) (ck (lM (aa 4) af)))) (au (kW kX rfl T.Ck T.um rfl (ae bp ag))) aH)
  (ax (aG (bC (Au gW gW af (aa 5) (aa 1))) (au (kW kX rfl T.Ck T.um rfl (ae bp ag))) aH)
  (ax (mL (aa 0) (aa 1) rfl)
  (ax (mL (aa 0) (aa 2) rfl)
  (ax (mL (aa 0) (aa 3) rfl)
  (ax (mL (aa 0) (aa 4) rfl)
  (ax (mL (aa 0) (aa 5) rfl)
  (au (mL (aa 0) Ht rfl)))))))))),?_⟩
 rfl';have no:∀ D σ,¬ dZ e t u d m->∀ x,Fq T.lU E (yo (tC (.str x)) vo) D σ H:=λD σ z x=>⟨by show 1<=abu;decide,q0 z⟩
 refine aX (λh1=>aX (λh2=>?_) λh2=>no _ _ (λz=>by unfold dZ at z;lia) _) λh1=>no _ _ (λz=>by unfold dZ at z;lia) _;refine aX (λh3=>aX (λh4=>?_) λh4=>no _ _ (λz=>by unfold dZ at z;lia) _) λh3=>no _ _ (λz=>by unfold dZ at z;lia) _;refine aX (λh5=>no _ _ (λz=>by unfold dZ at z;lia) _) λh5=>aX (λh6=>no _ _ (λz=>by unfold dZ at z;lia) _) λh6=>?_;refine aX (λh7=>aX (λh8=>?_) λh8=>no _ _ (λz=>by unfold dZ at z;lia) _) λh7=>no _ _ (λz=>by unfold dZ at z;lia) _;replace q:=q (by unfold dZ;lia);refine⟨_,_,_,hx,T.bA,T.qv,(by show 0<1000;decide),_,_,_,aw,T.bA,T.oq,(by show 1<1000;decide),_,_,_,aw,T.bA,T.ui,(by show 2<1000;decide),_,_,_,aw,T.bA,T.uj,(by show 3<1000;decide),_,_,_,aw,T.bA,T.qw,(by show 4<1000;decide),?_⟩;rw[qR,qR,qR,qR];intro p hp;have KL:p≠x:=λz=>by rw[z,aw] at hp;cases hp
 refine⟨_,_,_,(ao hp) _ _ aw,T.bA,T.kD,(by show 5<1000;decide),q p _ (by rw[aB KL] at hp;exact hp) (λb o hb e=>?_) aw ?_⟩
 .rw[aB hb];exact (ao hp) _ _ (by rw[aB hb];exact e)
 .rw[aB KL,aw]
structure gL(B:abd)(H:Hp)(x:abd)(e t u d m:Int)(p:abd)(kvs:List (List Key × V)):Prop where
 ob:∃ dx,H x=some (.ins B dx (qx e t u d m p))
 tb:H p=some (.dT kvs)
theorem gL.same(h:gL B H x e t u d m p kvs)(s:aj H H'):gL B H' x e t u d m p kvs:=let ⟨⟨dx,a⟩,b⟩:=h;⟨⟨dx,s _ _ a⟩,s _ _ b⟩
inductive V0(B:abd)(vs:List V)(H:Hp)(Q:VK)(aP:XK):Prop
 | mk(x p:abd)(e t u d m i:Int)(kvs:List (List Key × V))(_:vs=[.ref x,.int i])(_:gL B H x e t u d m p kvs)(_:Q (.bl (decide (0<=i/\i<e))) H)
inductive V1(B:abd)(vs:List V)(H:Hp)(Q:VK)(aP:XK):Prop
 | mk(x p:abd)(e t u d m i:Int)(kvs:List (List Key × V))(_:vs=[.ref x,.int i])(_:gL B H x e t u d m p kvs)(_:Q (.bl (decide (0<=i/\i<t))) H)
theorem KN(T:Tx K mg):Om P w mg base 1 T.lQ (V0 T.aO):=by
 refine jv J9 ?_;rintro _ _ _ _ _ _ _ _ _ ⟨x,p,e,t,u,d,m,i,kvs,rfl,⟨⟨dx,hx⟩,hp⟩,q⟩;refine⟨_,(au (aA (Ef gW yh af (aa 1) (dD rfl (aa 0) rfl)))),?_⟩;rfl';refine aX (λh1=>?_) λh1=>?_
 .refine⟨_,_,_,hx,T.bA,T.qv,_,rfl,?_⟩;rfl';rw[show decide (0<=i/\i<e)=decide (i<e) by simp[h1]] at q;exact q
 .rw[show decide (0<=i/\i<e)=false by simp[h1]] at q;exact q
theorem uo(T:Tx K mg):Om P w mg base 1 T.iT (V1 T.aO):=by
 refine jv Ka ?_;rintro _ _ _ _ _ _ _ _ _ ⟨x,p,e,t,u,d,m,i,kvs,rfl,⟨⟨dx,hx⟩,hp⟩,q⟩;refine⟨_,(au (aA (Ef gW yh af (aa 1) (dD rfl (aa 0) rfl)))),?_⟩;rfl';refine aX (λh1=>?_) λh1=>?_
 .refine⟨_,_,_,hx,T.bA,T.oq,_,rfl,?_⟩;rfl';rw[show decide (0<=i/\i<t)=decide (i<t) by simp[h1]] at q;exact q
 .rw[show decide (0<=i/\i<t)=false by simp[h1]] at q;exact q
inductive V2(B C:abd)(vs:List V)(H:Hp)(Q:VK)(E:XK):Prop
 | mk(x p:abd)(e t u d m i j:Int)(kvs:List (List Key × V))(_:vs=[.ref x,.int i,.int j])(_:gL B H x e t u d m p kvs)(_:(¬ ((0<=i/\i<e)/\0<=j/\j<t)->E (.ref C) none H))(_:((0<=i/\i<e)/\0<=j/\j<t->Q .non H))
theorem V3(T:Tx K mg):Om P w mg base 2 T.mV (V2 T.aO T.cU):=by
 refine qm Kf ?_;rintro _ _ _ _ _ _ _ _ hr ⟨x,p,e,t,u,d,m,i,j,kvs,rfl,hb,q0,q⟩;refine⟨_,(au (aG (PW.pt (bB (bC (bz (fY (aa 0) T.bA T.KG (KN T) (hr.mono (by decide)) T.lQ.b .nil bb (ae (aa 1) ag)))) (ck (bC (bz (fY (aa 0) T.bA T.uk (uo T) (hr.mono (by decide)) T.iT.b .nil bb (ae (aa 2) ag))))))) (au (kW kX rfl T.uf T.m6 rfl (ae bp ag))) aH)),?_⟩;obtain⟨⟨dx,hx⟩,hp⟩:=id hb;rfl';refine⟨_,_,hx,rfl,x,p,e,t,u,d,m,i,kvs,rfl,hb,?_⟩;by_cases h1:0<=i/\i<e
 .rw[decide_eq_true h1];rfl';refine⟨_,_,hx,rfl,x,p,e,t,u,d,m,j,kvs,rfl,hb,?_⟩;by_cases h2:0<=j/\j<t
  .rw[decide_eq_true h2];rfl';exact q ⟨h1,h2⟩
  .rw[decide_eq_false h2];rfl';exact⟨by decide,q0 λz=>h2 z.2⟩
 .rw[decide_eq_false h1];rfl';exact⟨by decide,q0 λz=>h1 z.1⟩
inductive V4(B C:abd)(vs:List V)(H:Hp)(Q:VK)(E:XK):Prop
 | mk(x p:abd)(e t u d m i j:Int)(kvs:List (List Key × V))(_:vs=[.ref x,.int i,.int j])(_:gL B H x e t u d m p kvs)(_:(c7 kvs (bH i j)=none->∀ H',aj H H'->E (.ref C) none H'))(_:(∀ v,c7 kvs (bH i j)=some v->∀ H',aj H H'->Q .non H'))
theorem V5(T:Tx K mg):Om P w mg base 1 T.mW (V4 T.aO T.cU):=by
 refine qm Kg ?_;rintro _ _ _ _ _ _ _ _ hr ⟨x,p,e,t,u,d,m,i,j,kvs,rfl,hb,q0,q⟩;refine⟨_,(au (aG (qY (G0 (eh hr) (aS (ae (aa 1) (ae (aa 2) ag))) (dD rfl (aa 0) rfl))) (au (kW kX rfl T.uf T.m6 rfl (ae bp ag))) aH)),?_⟩;obtain⟨⟨dx,hx⟩,hp⟩:=id hb;rfl';refine⟨aW,λk hk=>⟨_,_,_,(ao hk) _ _ hx,T.bA,T.kD,_,rfl,p,rfl,c7 kvs (bH i j),dU.t (k:=bH i j) ((ao hk) _ _ hp) aw,?_⟩⟩;cases hv:c7 kvs (bH i j) with
 | none=>exact⟨by decide,q0 hv _ (ao hk)⟩
 | some v=>exact q v hv _ (ao hk)
inductive V6(B C:abd)(vs:List V)(H:Hp)(Q:VK)(E:XK):Prop
 | mk(x p:abd)(e t u d m i j:Int)(lo hi:En)(kvs:List (List Key × V))(_:vs=[.ref x,.int i,.int j,ev lo,ev hi])(_:gL B H x e t u d m p kvs)(_:kvs.length<1000)(_:(¬ (((0<=i/\i<e)/\0<=j/\j<t)/\aT lo hi=false)->E (.ref C) none H))(_:(((0<=i/\i<e)/\0<=j/\j<t)/\aT lo hi=false->∀ v H',SameBut p H H'->H' p=some (.dT (putK kvs (bH i j) v))->aM H' v lo hi->Q .non H'))
theorem KO(T:Tx K mg):Om P w mg base 3 T.lR (V6 T.aO T.cU):=by
 refine qm Kb ?_;rintro _ _ _ _ _ _ _ _ hr ⟨x,p,e,t,u,d,m,i,j,lo,hi,kvs,rfl,hb,hl,q0,q⟩;refine⟨_,(ax (d9 (fY (aa 0) T.bA T.VL (V3 T) (hr.mono (by decide)) T.mV.b .nil df (ae (aa 1) (ae (aa 2) ag))))
  (ax (aG (bz (aD (wX T) hr (ae (aa 3) (ae (aa 4) ag)))) (au (kW kX rfl T.uf T.m6 rfl (ae bp ag))) aH)
  (au (zB (eh hr) (dD rfl (aa 0) rfl) (aS (ae (aa 1) (ae (aa 2) ag))) (aS (ae (aa 3) (ae (aa 4) ag))) rfl)))),?_⟩
 obtain⟨⟨dx,hx⟩,hp⟩:=id hb;rfl';refine⟨_,_,hx,rfl,x,p,e,t,u,d,m,i,j,kvs,rfl,hb,λz=>q0 λy=>z y.1,λbO=>?_⟩;refine⟨lo,hi,rfl,?_⟩;cases hc:aT lo hi with
 | true =>
  rfl';exact⟨by decide,q0 λz=>by rw[hc] at z;cases z.2⟩
 | false =>
  rfl';refine⟨aW,λv hv=>⟨_,_,_,(ao hv) _ _ hx,T.bA,T.kD,_,rfl,aW,λk hk=>?_⟩⟩;have s2:=(ao (o:=.tup [ev lo,ev hi]) hv).trans (ao (o:=.tup [.int i,.int j]) hk);refine⟨p,rfl,_,nI.t (k:=bH i j) (s2 _ _ hp) aw (ahW hl (by decide)),q ⟨bO,hc⟩ (.ref v) _ (λb o k7 e=>?_) aw ⟨v,rfl,?_⟩⟩
  .rw[aB k7];exact s2 _ _ e
  .have vp:v≠p:=λz=>by rw[z] at hv;rw[hp] at hv;cases hv
   rw[aB vp];exact (ao hk) _ _ aw
inductive V7(K:aa0)(vs:List V)(H:Hp)(Q:VK)(aP:XK):Prop
 | mk(a:abd)(ns:List Int)(k pr m:Int)(_:vs=[.ref a,.int k,.int pr,.int m])(_:ai K H a (ns.map V.int))(_:ji ns)(_:(-1000000<=k/\k<=1000000))(_:0<pr)(_:0<m)(_:∀ p:Int,0<=p->p<m->Q (.int p) H)
theorem V8(h:ji ns)(hk : -1000000<=k/\k<=1000000):pH k k/\pH (rQ ns k+k * k) 48271:=by have c:=Rq h k;have k1:Bt 64 k:=Bt.small (by lia) (by lia);have k2:Bt 128 (k * k):=k1.mul k1;have n2:Bt 64 48271:=Bt.small (by decide) (by decide);exact⟨⟨k1.up (by decide),k1.up (by decide)⟩,(c.add (k2.up (by decide))).up (by decide),n2.up (by decide)⟩
theorem dj(T:Tx K mg):Ok P w base 1 T.tO (V7 K):=by
 refine bc Kh ?_;rintro _ _ _ _ _ _ _ _ _ ⟨a,ns,k,pr,m,rfl,hS,hn,hk,hpr,hm,q⟩;refine⟨_,(ax (aG (bT (aV cD (by rfl) T.cA cp (ae (aa 0) ag)) af) (au (aA af)) aH)
  (au (aA (aN qk (aN qk (aN Jl (aN bZ (aq (aa 0) (aN qk (aa 1) (aV cD (by rfl) T.cA cp (ae (aa 0) ag)))) (aN Jl (aa 1) (aa 1))) af) (aa 2)) (aa 3))))),?_⟩
 rfl';refine⟨_,dO hS,?_⟩;rw[aa2];have pm:=V8 hn hk;refine aX (λh=>?_) λh=>?_
 .exact q 0 (by decide) hm
 .have h:0<(ns.length:Int):=by have:ns.length≠0:=λz=>h (by rw[z];rfl);lia
  refine⟨_,dO hS,?_⟩;rw[aa2];refine⟨h,bJ hS (Rr h) ?_⟩;rfl';exact⟨pm.1,pm.2,hpr,hm,q _ (ais _ (by lia)) (ahn _ hm)⟩
inductive V9(K:aa0)(vs:List V)(H:Hp)(Q:VK)(aP:XK):Prop
 | mk(a:abd)(ns:List Int)(_:vs=[.ref a])(_:ai K H a (ns.map V.int))(_:ji ns)(_:∀ (p:Int) (H':Hp),aj H H'->Q (.int p) H')
theorem Wa(T:Tx K mg):Ok P w base 2 T.tP (V9 K):=by
 refine bc Ca ?_;rintro _ _ _ _ _ _ _ _ hr ⟨a,ns,rfl,hS,hn,q⟩;refine⟨_,(ax (aG (bT (aV cD (by rfl) T.cA cp (ae (aa 0) ag)) af) (au (aA af)) aH)
  (ax (aI 1 Ca.nd (aN qk (aq (aa 0) af) (aN yg af af)))
  (au (aA (aq (aS (ae af (ae (aa 1) (ae (aN dB af (aa 1)) (ae (aN dB (aN yg af af) (aa 1)) ag))))) (aD (dj T) hr (ae (aa 0) (ae af (ae af (ae af ag)))))))))),?_⟩
 rfl';refine⟨_,dO hS,?_⟩;rw[aa2];refine aX (λh=>q _ _ (aj.refl _)) λh=>?_;have h:0<(ns.length:Int):=by have:ns.length≠0:=λz=>h (by rw[z];rfl);lia
 have h0:dm (ns.map V.int) 0=some (.int (ns.getD 0 0)):=eL (j:=0) (by rw[abh,aa1,aa3 (by lia)];rfl);refine bJ hS h0 ?_;rfl';refine⟨⟨by decide,by decide,by decide⟩,⟨by decide,by decide,by decide⟩,by decide,λt ht=>?_⟩;refine⟨a,ns,_,_,_,rfl,(ao ht).seq hS,hn,by lia,by lia,by lia,λp p1 p2=>?_⟩;rcases (by lia:p=0∨p=1∨p=2∨p=3) with rfl|rfl|rfl|rfl
 all_goals exact ak (ah.of aw) rfl (q _ _ (ao ht))
inductive Wb(K:aa0)(vs:List V)(H:Hp)(Q:VK)(aP:XK):Prop
 | mk(p:abd)(lo hi:En)(n:Int)(_:vs=[.ref p,.int n])(_:ah K H p [ev lo,ev hi])(_:Q (.bl (hold lo hi n)) H)
theorem wY(T:Tx K mg):Ok P w base 1 T.tQ (Wb K):=by
 refine bc Kj ?_;rintro _ _ _ _ H _ Q _ _ ⟨p,lo,hi,n,rfl,hp,q⟩;refine⟨_,(au (aA (fv (wF (jS (nq (aq (aa 0) af))) (eU (fe (kB gW) (aq (aa 0) af) (aa 1) (da _)))) (eU (wF (jS (nq (aq (aa 0) af))) (eU (fe (kB gW) (aa 1) (aq (aa 0) af) (da _)))))))),?_⟩;rcases lo with _|lo<;>rcases hi with _|hi
 all_goals simp only[pF,pG] at hp
 all_goals
  rfl'
  repeat' first
  | refine ak hp rfl ?_
  | (walk_at "p")
  | (refine aX (λhc=>?_) λhc=>?_)
 all_goals first
  | exact q
  | exact (congrArg (λb=>Q (V.bl b) H) (show hold _ _ n=_ by rw[adu,vT];simp<;>lia)).mp q
inductive Wc(K:aa0)(vs:List V)(H:Hp)(Q:VK)(aP:XK):Prop
 | mk(p:abd)(lo hi:En)(_:vs=[.ref p])(_:ah K H p [ev lo,ev hi])(_:Q (.bl (aT lo hi)) H)
theorem Ct(T:Tx K mg):Ok P w base 1 T.jF (Wc K):=by
 refine bc Kl ?_;rintro _ _ _ _ _ _ _ _ _ ⟨p,lo,hi,rfl,hp,q⟩;refine⟨_,(au (aA (fv (jS (qX (aq (aa 0) af))) (fv (jS (qX (aq (aa 0) af))) (eU (fe (kB rg) (aq (aa 0) af) (aq (aa 0) af) (da _))))))),?_⟩;rcases lo with _|lo<;>rcases hi with _|hi
 all_goals simp only[pF,pG] at hp
 all_goals
  rfl'
  repeat' first
  | exact q
  | refine ak hp rfl ?_
  | (walk_at "p")
structure uu(e t u d m f:Int):Prop where
 he:1<=e/\e<=7
 ht:1<=t/\t<=12
 het:(e<=3/\t<=4)∨(e<=7/\t<=2)∨(e<=2/\t<=12)
 hu:0<=u/\u<=13
 hd:0<=d/\d<=13
 hm:0<=m/\m<=e
 hf:1<=f/\f<=1000000000000000000000000000000
noncomputable def wZ(e t u d m f:Int):List V:=[.int e,.int t,.int u,.int d,.int m,.int f]
inductive Wd(K:aa0)(vs:List V)(H:Hp)(Q:VK)(aP:XK):Prop
 | mk(a:abd)(ns:List Int)(_:vs=[.ref a])(_:ai K H a (ns.map V.int))(_:ji ns)(_:∀ (r:abd) (e t u d m f:Int) (H':Hp),aj H H'->H' r=some (.tup (wZ e t u d m f))->uu e t u d m f->Q (.ref r) H')
def KP(e t:Int):Prop:=(1<=e/\1<=t)/\((e<=3/\t<=4)∨(e<=7/\t<=2)∨(e<=2/\t<=12))
theorem We(T:Tx K mg):Ok P w base 2 T.tR (Wd K):=by
 refine bc gG ?_;rintro _ _ _ _ H _ _ _ hr ⟨a,ns,rfl,hS,hn,q⟩;refine⟨_,(ax (aI 1 gG.nd (aD (dj T) hr (ae (aa 0) (ae af (ae af (ae af ag))))))
  (ax (aI 2 gG.nd (aN bZ af (aD (dj T) hr (ae (aa 0) (ae af (ae af (ae af ag)))))))
  (ax (aI 3 gG.nd (aN bZ af (aD (dj T) hr (ae (aa 0) (ae af (ae af (ae af ag)))))))
  (ax (aG (bT (aa 1) af) (ax (aI 2 gG.nd af)
    (au (aI 3 gG.nd af))) aH)
  (ax (aG (bT (aa 1) af) (ax (aI 2 gG.nd af)
    (au (aI 3 gG.nd af))) aH)
  (ax (aI 4 gG.nd (aq (aS (ae af (ae af (ae af (ae (aN yg af af) ag))))) (aD (dj T) hr (ae (aa 0) (ae af (ae af (ae af ag)))))))
  (ax (aI 5 gG.nd (aD (dj T) hr (ae (aa 0) (ae af (ae af (ae af ag))))))
  (ax (aI 6 gG.nd (aD (dj T) hr (ae (aa 0) (ae af (ae af (ae af ag))))))
  (ax (aG (bT (aa 1) af) (ax (aI 5 gG.nd af)
    (au (aI 6 gG.nd af))) aH)
  (au (aA (aS (ae (aa 2) (ae (aa 3) (ae (aa 5) (ae (aa 6) (ae (aV (NR rfl) (by rfl) T.Cj yD (ae (aa 2) (ae (aD (dj T) hr (ae (aa 0) (ae af (ae af (ae af ag))))) ag))) (ae (aa 4) ag)))))))))))))))))),?_⟩
 refine aC (λσ H1=>∃ w:Int,σ=[some (.ref a),some (.int w),none,none,none,none,none]/\H1=H) (λN hN=>?_) ?_
 .rfl';refine⟨a,ns,_,_,_,rfl,hS,hn,by lia,by lia,by lia,λp p1 p2=>?_⟩;rfl';exact hN _ _ ⟨_,rfl,rfl⟩
 rintro _ yR σ H1 ⟨w,rfl,rfl⟩;subst yR;refine aC (λσ H2=>∃ e:Int,σ=[some (.ref a),some (.int w),some (.int e),none,none,none,none]/\H2=H1/\1<=e/\e<=3) (λN hN=>?_) ?_
 .rfl';refine⟨a,ns,_,_,_,rfl,hS,hn,by lia,by lia,by lia,λp p1 p2=>?_⟩;rfl';exact hN _ _ ⟨_,rfl,rfl,by lia,by lia⟩
 rintro _ yR σ H ⟨e,rfl,rfl,e1,e2⟩;subst yR;refine aC (λσ H2=>∃ t:Int,σ=[some (.ref a),some (.int w),some (.int e),some (.int t),none,none,none]/\H2=H/\1<=t/\t<=4) (λN hN=>?_) ?_
 .rfl';refine⟨a,ns,_,_,_,rfl,hS,hn,by lia,by lia,by lia,λp p1 p2=>?_⟩;rfl';exact hN _ _ ⟨_,rfl,rfl,by lia,by lia⟩
 rintro _ yR σ H1 ⟨t,rfl,rfl,t1,t2⟩;subst yR;refine aC (λσ H2=>∃ e t:Int,σ=[some (.ref a),some (.int w),some (.int e),some (.int t),none,none,none]/\H2=H1/\KP e t) (λN hN=>?_) ?_
 .rfl';exact aX (λ_=>hN _ _ ⟨7,2,rfl,rfl,by decide,.inr (.inl (by decide))⟩) λ_=>hN _ _ ⟨e,t,rfl,rfl,⟨e1,t1⟩,.inl ⟨e2,t2⟩⟩
 rintro _ yR σ H ⟨e,t,rfl,rfl,hE⟩;subst yR;refine aC (λσ H2=>∃ e t:Int,σ=[some (.ref a),some (.int w),some (.int e),some (.int t),none,none,none]/\H2=H/\KP e t) (λN hN=>?_) ?_
 .rfl';exact aX (λ_=>hN _ _ ⟨2,12,rfl,rfl,by decide,.inr (.inr (by decide))⟩) λ_=>hN _ _ ⟨e,t,rfl,rfl,hE⟩
 rintro _ yR σ H1 ⟨e,t,rfl,rfl,⟨e1,t1⟩,hE⟩;subst yR;refine aC (λσ H2=>∃ f:Int,σ=[some (.ref a),some (.int w),some (.int e),some (.int t),some (.int f),none,none]/\aj H1 H2/\1<=f/\f<=1000000000000000000000000000000) (λN hN=>?_) ?_
 .rfl';refine⟨⟨by decide,by decide,by decide⟩,by decide,λl hl=>?_⟩;refine⟨a,ns,_,_,_,rfl,(ao hl).seq hS,hn,by lia,by lia,by lia,λp p1 p2=>?_⟩;rcases (by lia:p=0∨p=1∨p=2∨p=3) with rfl|rfl|rfl|rfl
  all_goals exact ak (ah.of aw) rfl (hN _ _ ⟨_,rfl,ao hl,by decide,by decide⟩)
 rintro _ yR σ H2 ⟨f,rfl,s2,f1,f2⟩;subst yR;refine aC (λσ H3=>∃ u:Int,σ=[some (.ref a),some (.int w),some (.int e),some (.int t),some (.int f),some (.int u),none]/\H3=H2/\0<=u/\u<=13) (λN hN=>?_) ?_
 .rfl';refine⟨a,ns,_,_,_,rfl,s2.seq hS,hn,by lia,by lia,by lia,λp p1 p2=>?_⟩;rfl';exact hN _ _ ⟨_,rfl,rfl,by lia,by lia⟩
 rintro _ yR σ H3 ⟨u,rfl,rfl,hu⟩;subst yR;refine aC (λσ H4=>∃ d:Int,σ=[some (.ref a),some (.int w),some (.int e),some (.int t),some (.int f),some (.int u),some (.int d)]/\H4=H3/\0<=d/\d<=13) (λN hN=>?_) ?_
 .rfl';refine⟨a,ns,_,_,_,rfl,s2.seq hS,hn,by lia,by lia,by lia,λp p1 p2=>?_⟩;rfl';exact hN _ _ ⟨_,rfl,rfl,by lia,by lia⟩
 rintro _ yR σ H4 ⟨d,rfl,rfl,hd⟩;subst yR;refine aC (λσ H5=>∃ u d:Int,σ=[some (.ref a),some (.int w),some (.int e),some (.int t),some (.int f),some (.int u),some (.int d)]/\H5=H4/\(0<=u/\u<=13)/\0<=d/\d<=13) (λN hN=>?_) ?_
 .rfl';exact aX (λ_=>hN _ _ ⟨0,0,rfl,rfl,by decide,by decide⟩) λ_=>hN _ _ ⟨u,d,rfl,rfl,hu,hd⟩
 rintro _ yR σ H5 ⟨u,d,rfl,rfl,hu,hd⟩;subst yR;rfl';refine⟨a,ns,_,_,_,rfl,s2.seq hS,hn,by lia,by lia,by lia,λp p1 p2=>?_⟩;rfl';refine⟨by decide,λr hr=>q r e t u d _ f _ (s2.trans (ao hr)) aw ⟨by lia,by lia,hE,hu,hd,?_,f1,f2⟩⟩;split<;>lia
def uv(u d:Int)(cs:List Int):Prop:=∀ i,i+1<cs.length->-d<=cs.getD (i+1) 0-cs.getD i 0/\cs.getD (i+1) 0-cs.getD i 0<=u
theorem uv.snoc(h:uv u d (cs++[n]))(h1 : -d<=k-n)(h2:k-n<=u):uv u d (cs++[n]++[k]):=by
 intro i hi;rw[abf,abf,abv,abv] at hi;by_cases e:i+1<(cs++[n]).length
 .have:=h i e;simp only[aa1] at this ⊢;rw[ab0 (l₁:=cs++[n]) e,ab0 (l₁:=cs++[n]) (by lia)];exact this
 .rw[abf,abv] at e;have ei:i=cs.length:=by lia
  subst ei;have a1:(cs++[n]++[k])[cs.length+1]?=some k:=by simp
  have a2:(cs++[n]++[k])[cs.length]?=some n:=by simp
  simp only[aa1,a1,a2,aeb];exact⟨h1,h2⟩
inductive Wf(K:aa0)(vs:List V)(H:Hp)(Q:VK)(aP:XK):Prop
 | mk(a b:abd)(ns:List Int)(e t u d m f n:Int)(_:vs=[.ref a,.ref b,.int n])(_:ai K H a (ns.map V.int))(_:ji ns)(_:ah K H b (wZ e t u d m f))(_:uu e t u d m f)(_:∀ (l:abd) (cs:List Int) (H':Hp),aj H H'->H l=none->H' l=some (.lst (cs.map V.int))->cs.length=t.toNat->uv (f * u) (f * d) cs->Q (.ref l) H')
inductive KQ(H:Hp)(a b l:abd)(u d f n:Int)(i:Nat)(σ:St)(H1:Hp):Prop
 | mk(cs:List Int)(y:Int)(d4 d5:Option V)(_:σ=[some (.ref a),some (.ref b),some (.int n),some (.ref l),d4,d5])(_:aj H H1)(_:H1 l=some (.lst ((cs++[y]).map V.int)))(_:cs.length=i)(_:uv (f * u) (f * d) (cs++[y]))
theorem Wg(T:Tx K mg):Ok P w base 2 T.tS (Wf K):=by
 refine bc sO ?_;rintro _ _ _ _ H _ _ _ hr ⟨a,b,ns,e,t,u,d,m,f,n,rfl,hS,hn,hb,sh,q⟩;refine⟨_,(ax (aI 3 sO.nd (cO (ae (aa 2) ag)))
  (ax (cI abJ rfl (yb rfl T.fw (ae af (ae (aq (aa 1) af) ag))) (b8 4 sO.nd) (ax (aI 5 sO.nd (aN dB (aD (dj T) hr (ae (aa 0) (ae (aN bZ af (aa 4)) (ae af (ae (aN bZ (aN bZ (aq (aa 1) af) (aq (aa 1) af)) af) ag))))) (aq (aa 1) af)))
    (au (d9 (iE abO ab2 ab3 kT (aa 3) (ae (aN bZ (aq (aa 3) (gV ij af)) (aN lL (aq (aa 1) af) (aa 5))) ag))))))
  (au (aA (aa 3))))),?_⟩
 obtain⟨-,⟨t1,t2⟩,-,⟨u1,u2⟩,⟨d1,d2⟩,-,f1,f2⟩:=id sh;refine aC (λσ H1=>∃ l,σ=[some (.ref a),some (.ref b),some (.int n),some (.ref l),none,none]/\aj H H1/\H l=none/\H1 l=some (.lst ([n].map V.int))) (λN hN=>?_) ?_
 .rfl';exact⟨by decide,λl hl=>hN _ _ ⟨l,rfl,ao hl,hl,aw⟩⟩
 rintro _ yR σ H1 ⟨l,rfl,s1,f0,hl⟩;subst yR;refine aC (KQ H a b l u d f n (t-1).toNat) (λN hN=>?_) ?_
 .rfl';refine ak (eM s1 hb) (v:=.int t) rfl ?_;rfl';refine⟨by lia,by lia,oZ (KQ H a b l u d f n) ⟨[],n,_,_,rfl,s1,hl,rfl,λk h=>absurd h (by show ¬ k+1<1;lia)⟩ ?_ (λσ H' h=>hN _ _ h)⟩;rintro i σ H2 hi ⟨cs,y,d4,d5,rfl,s2,ba,bf,cX⟩;rfl';refine ak (eM s2 hb) (v:=.int u) rfl (ak (eM s2 hb) (v:=.int d) rfl ?_);rfl';refine⟨a,ns,_,_,_,rfl,s2.seq hS,hn,by lia,by lia,by lia,λp p1 p2=>?_⟩;rfl';refine ak (eM s2 hb) (v:=.int d) rfl ?_;rfl';refine⟨.inl ⟨rfl,_,ai.of ba⟩,bJ (ai.of ba) (v:=.int y) (by rw[aco];exact yx _ _) (ak (eM s2 hb) (v:=.int f) rfl ?_)⟩;rfl';have m1:=aeZ (show p-d<=u by lia) (show 0<=f by lia);have m2:=aeZ (show -d<=p-d by lia) (show 0<=f by lia);rw[Int.mul_neg] at m2;refine⟨nH (by lia) (by lia),_,ba,abV (by rw[aa2,abf,bf];show i+1<=20;lia:_<=20) (by decide),cs++[y],y+f * (p-d),_,_,rfl,j6 f0 s2,?_,by rw[abf,bf];rfl,cX.snoc (by lia) (by lia)⟩;rw[aw,aco (l₁:=cs++[y])];rfl
 rintro _ yR σ H2 ⟨cs,y,d4,d5,rfl,s2,ba,bf,cX⟩;subst yR;rfl';exact q l _ H2 s2 f0 ba (by rw[abf,bf];show (t-1).toNat+1=_;lia) cX
inductive Wh(K:aa0)(vs:List V)(H:Hp)(Q:VK)(aP:XK):Prop
 | mk(a:abd)(ns:List Int)(k n f:Int)(_:vs=[.ref a,.int k,.int n,.int f])(_:ai K H a (ns.map V.int))(_:ji ns)(_:(-900000<=k/\k<=900000))(_:(1<=f/\f<=1000000000000000000000000000000))(_:∀ (p:abd) (lo hi:En) (H':Hp),aj H H'->H' p=some (.tup [ev lo,ev hi])->aT lo hi=false->hold lo hi n=true->Q (.ref p) H')
inductive Cu(H:Hp)(a:abd)(k n f:Int)(σ:St)(H1:Hp):Prop
 | mk(lo hi:En)(o:Int)(_:σ=[some (.ref a),some (.int k),some (.int n),some (.int f),some (ev lo),some (ev hi),some (.int o)])(_:H1=H)(_:bF (lo,hi) n)
theorem KR(T:Tx K mg):Ok P w base 2 T.tT (Wh K):=by
 refine bc n9 ?_;rintro _ _ _ _ H _ _ _ hr ⟨a,ns,k,n,f,rfl,hS,hn,hk,⟨f1,f2⟩,q⟩;refine⟨_,(ax (aI 4 n9.nd (aN dB (aN dB (aa 2) (aN lL (aa 3) (aD (dj T) hr (ae (aa 0) (ae (aa 1) (ae af (ae af ag))))))) (aD (dj T) hr (ae (aa 0) (ae (aa 1) (ae af (ae af ag)))))))
  (ax (aI 5 n9.nd (aN bZ (aa 2) (aN lL (aa 3) (aD (dj T) hr (ae (aa 0) (ae (aa 1) (ae af (ae af ag))))))))
  (ax (aI 6 n9.nd (aD (dj T) hr (ae (aa 0) (ae (aa 1) (ae af (ae af ag))))))
  (ax (aG (bT (aa 6) af) (au (aI 4 n9.nd b5)) aH)
  (ax (aG (bT (aa 6) af) (au (aI 5 n9.nd b5)) aH)
  (au (aA (aS (ae (aa 4) (ae (aa 5) ag)))))))))),?_⟩
 refine aC (λσ H1=>∃ lo:Int,σ=[some (.ref a),some (.int k),some (.int n),some (.int f),some (.int lo),none,none]/\H1=H/\lo<=n) (λN hN=>?_) ?_
 .rfl';refine⟨a,ns,_,_,_,rfl,hS,hn,by lia,by lia,by lia,λp p1 p2=>?_⟩;rfl';have:=adL (show 0<=f by lia) p1;refine⟨nH (by lia) (by lia),?_⟩;refine⟨a,ns,_,_,_,rfl,hS,hn,by lia,by lia,by lia,λr r1 r2=>?_⟩;rfl';exact hN _ _ ⟨_,rfl,rfl,by lia⟩
 rintro _ yR σ H1 ⟨lo,rfl,rfl,h1⟩;subst yR;refine aC (λσ H2=>∃ hi:Int,σ=[some (.ref a),some (.int k),some (.int n),some (.int f),some (.int lo),some (.int hi),none]/\H2=H1/\n<=hi) (λN hN=>?_) ?_
 .rfl';refine⟨a,ns,_,_,_,rfl,hS,hn,by lia,by lia,by lia,λp p1 p2=>?_⟩;rfl';have:=adL (show 0<=f by lia) p1;exact⟨nH (by lia) (by lia),hN _ _ ⟨_,rfl,rfl,by lia⟩⟩
 rintro _ yR σ H ⟨hi,rfl,rfl,h2⟩;subst yR;refine aC (Cu H a k n f) (λN hN=>?_) ?_
 .rfl';refine⟨a,ns,_,_,_,rfl,hS,hn,by lia,by lia,by lia,λp p1 p2=>?_⟩;rfl';exact hN _ _ ⟨some lo,some hi,p,rfl,rfl,λx z=>by cases z;exact h1,λy z=>by cases z;exact h2⟩
 rintro _ yR σ H1 ⟨lo,hi,o,rfl,rfl,bO⟩;subst yR;refine aC (Cu H1 a k n f) (λN hN=>?_) ?_
 .rfl';exact aX (λ_=>hN _ _ ⟨none,hi,o,rfl,rfl,λx z=>(nomatch z),bO.2⟩) λ_=>hN _ _ ⟨lo,hi,o,rfl,rfl,bO⟩
 rintro _ yR σ H ⟨lo,hi,o,rfl,rfl,bO⟩;subst yR;refine aC (Cu H a k n f) (λN hN=>?_) ?_
 .rfl';exact aX (λ_=>hN _ _ ⟨lo,none,o,rfl,rfl,bO.1,λx z=>(nomatch z)⟩) λ_=>hN _ _ ⟨lo,hi,o,rfl,rfl,bO⟩
 rintro _ yR σ H1 ⟨lo,hi,o,rfl,rfl,bO⟩;subst yR;rfl';refine⟨aW,λp hp=>q p lo hi _ (ao hp) aw ?_ (zL.mp bO)⟩;rcases lo with _|x<;>rcases hi with _|y
 .rfl
 .rfl
 .rfl
 .have h1:=bO.1 x rfl;have h2:=bO.2 y rfl;simp only[aT];exact decide_eq_false (by lia)
theorem Wi(h:r∈fj tb s w):r∈tb∨r.2=w:=by
 unfold fj at h;split at h
 .obtain⟨x,hx,rfl⟩:=aa8.mp h;by_cases e:x.1=s
  .rw[if_pos e];exact .inr rfl
  .rw[if_neg e];exact .inl hx
 .rcases abD.mp h with z|z
  .exact .inl z
  .rw[abp.mp z];exact .inr rfl
inductive iu(H:Hp)(v:V)(w:abd)(e t u d m:Int)(tb:Tb):Prop
 | mk(r:abd)(_:v = .ref r)(_:H r=some (.tup [.int e,.int t,.int u,.int d,.int m,.ref w]))(_:TabAt H w tb)
theorem iu.same(h:iu H v w e t u d m tb)(s:aj H H'):iu H' v w e t u d m tb:=let ⟨r,e,a,b⟩:=h;⟨r,e,s _ _ a,b.same s⟩
inductive KS(H:Hp)(e t:Int)(q:abd)(n:Int)(H1:Hp):Prop
 | mk(tb:Tb)(_:aj H H1)(_:H q=none)(_:TabAt H1 q tb)(_:bI e t tb)(_:(tb.length:Int)<=n)(_:∀ r∈tb,aT r.2.1 r.2.2=false)
inductive Wj(K:aa0)(vs:List V)(H:Hp)(Q:VK)(aP:XK):Prop
 | mk(a b c:abd)(ns cs:List Int)(e t u d m f:Int)(_:vs=[.ref a,.ref b,.ref c])(_:ai K H a (ns.map V.int))(_:ji ns)(_:ah K H b (wZ e t u d m f))(_:uu e t u d m f)(_:ai K H c (cs.map V.int))(_:cs.length=t.toNat)(_:∀ (v:V) (w:abd) (tb:Tb) (H':Hp),aj H H'->H w=none->iu H' v w e t (f * u) (f * d) m tb->bI e t tb->tb.length<=24->(∀ r∈tb,aT r.2.1 r.2.2=false)->Q v H')
def Cv(σ0:Option V->Option V->Option V->Option V->Option V->St)(H:Hp)(e t:Int)(q:abd)(n:Nat->Int)(i:Nat)(σ:St)(H1:Hp):Prop:=∃ e1 e2 e3 e4 e5,σ=σ0 e1 e2 e3 e4 e5/\KS H e t q (n i) H1
theorem KU(h:uu e t u d m f):e * t<=24:=by
 obtain⟨he,ht,h,-⟩:=h;rcases h with ⟨h1,h2⟩|⟨h1,h2⟩|⟨h1,h2⟩
 .exact aej (afH h1 h2 (by lia) (by decide)) (by decide)
 .exact aej (afH h1 h2 (by lia) (by decide)) (by decide)
 .exact afH h1 h2 (by lia) (by decide)
theorem Wk(T:Tx K mg):Ok P w base 3 T.tU (Wj K):=by
 refine bc jy ?_;rintro _ _ _ s H _ _ _ hr ⟨a,b,c,ns,cs,e,t,u,d,m,f,rfl,hS,hn,hb,sh,hc,bf,q⟩;refine⟨_,(ax (aI 3 jy.nd Ht)
  (ax (aI 4 jy.nd (aD (dj T) hr (ae (aa 0) (ae af (ae af (ae (aN bZ (aq (aa 1) af) af) ag))))))
  (ax (cI abJ rfl (gT rfl T.fw (ae (aq (aa 1) af) ag)) (b8 5 jy.nd) (au (cI abJ rfl (gT rfl T.fw (ae (aq (aa 1) af) ag)) (b8 6 jy.nd) (ax (aI 7 jy.nd (aN bZ (aN bZ af (aN lL af (aa 5))) (aa 6)))
    (ax (aI 8 jy.nd (aq (aa 2) (aa 6)))
    (ax (aG (lM (aN qk (aN bZ (aa 5) (aD (dj T) hr (ae (aa 0) (ae af (ae af (ae af ag)))))) (aq (aa 1) af)) (aa 4)) (au (aI 8 jy.nd (aN bZ (aa 8) (aN lL (aq (aa 1) af) (aN dB (aD (dj T) hr (ae (aa 0) (ae (aa 7) (ae af (ae af ag))))) af))))) aH)
    (ax (aI 9 jy.nd (fe md (aD (dj T) hr (ae (aa 0) (ae (aa 7) (ae af (ae af ag))))) af (da _)))
    (ax (aG (bT (aq (aa 1) af) af) (au (aI 9 jy.nd (fe (kB rg) (aN qk (aN bZ (aN bZ (aa 5) (aa 6)) (aD (dj T) hr (ae (aa 0) (ae af (ae af (ae af ag)))))) af) af (da _)))) aH)
    (au (aG (bC (bz (aa 9))) (au (zB (eh hr) (aa 3) (aS (ae (aa 5) (ae (aa 6) ag))) (aD (KR T) hr (ae (aa 0) (ae (aa 7) (ae (aa 8) (ae (aq (aa 1) af) ag))))) rfl)) aH))))))))))
  (au (aA (aS (ae (aq (aa 1) af) (ae (aq (aa 1) af) (ae (aN lL (aq (aa 1) af) (aq (aa 1) af)) (ae (aN lL (aq (aa 1) af) (aq (aa 1) af)) (ae (aq (aa 1) af) (ae (aa 3) ag)))))))))))),?_⟩
 obtain⟨⟨e1,e2⟩,⟨t1,t2⟩,-,⟨u1,u2⟩,⟨d1,d2⟩,⟨m1,m2⟩,hf⟩:=id sh;have et:=KU sh;refine aC (λσ H1=>∃ w,σ=[some (.ref a),some (.ref b),some (.ref c),some (.ref w),none,none,none,none,none,none]/\KS H e t w 0 H1) (λN hN=>?_) ?_
 .rfl';exact λw iV=>hN _ _ ⟨w,rfl,[],ao iV,iV,⟨[],aw,trivial⟩,bI.nil,ach _,λ_ h=>(nomatch h)⟩
 rintro _ yR σ H1 ⟨w,rfl,hw⟩;subst yR;obtain⟨_,s1,_⟩:=id hw;refine aC (λσ H2=>∃ wr:Int,σ=[some (.ref a),some (.ref b),some (.ref c),some (.ref w),some (.int wr),none,none,none,none,none]/\H2=H1) (λN hN=>?_) ?_
 .rfl';refine ak (eM s1 hb) (v:=.int m) rfl ?_;rfl';refine⟨a,ns,_,_,_,rfl,s1.seq hS,hn,by lia,by lia,by lia,λp p1 p2=>?_⟩;exact hN _ _ ⟨_,rfl,rfl⟩
 rintro _ yR σ H2 ⟨wr,rfl,rfl⟩;subst yR;refine aC (Cv (λe1 e2 e3 e4 e5=>[some (.ref a),some (.ref b),some (.ref c),some (.ref w),some (.int wr),e1,e2,e3,e4,e5]) H e t w (λ_=>e * t) 0) (λN hN=>?_) ?_
 .rfl';refine ak (eM s1 hb) (v:=.int e) rfl ?_;rfl';refine⟨by lia,by lia,oZ (Cv (λe1 e2 e3 e4 e5=>[some (.ref a),some (.ref b),some (.ref c),some (.ref w),some (.int wr),e1,e2,e3,e4,e5]) H e t w λi=>(i:Int) * t) ⟨_,_,_,_,_,rfl,by simpa using hw⟩ ?_ (λσ H' h=>hN _ _ ?_)⟩
  .rintro i σ H5 hi ⟨e1,e2,e3,e4,e5,rfl,uw⟩;obtain⟨_,s5,_⟩:=id uw;rfl';refine ak (eM s5 hb) (v:=.int t) rfl ?_;rfl';refine⟨by lia,by lia,oZ (Cv (λe2 e3 e4 e5 _=>[some (.ref a),some (.ref b),some (.ref c),some (.ref w),some (.int wr),some (.int (0+(i:Int))),e2,e3,e4,e5]) H e t w λj=>(i:Int) * t+j) ⟨_,_,_,_,none,rfl,by simpa using uw⟩ ?_ ?_⟩
   .rintro j σ H6 hj ⟨e2,e3,e4,e5,_,rfl,Wl⟩;obtain⟨tb,s6,iV,⟨kvs,hk,hT⟩,ay,iW,cH⟩:=id Wl;have bi:(i:Int)<e:=by lia
    have bj:(j:Int)<t:=by lia
    have tl:=hT.len;show u7 _ _ _ _ _;refine aC (λσ H7=>∃ kk:Int,σ=[some (.ref a),some (.ref b),some (.ref c),some (.ref w),some (.int wr),some (.int (0+(i:Int))),some (.int (0+(j:Int))),some (.int kk),e4,e5]/\H7=H6/\0<=kk/\kk<=1000) (λN hN=>?_) ?_
    .rfl';exact⟨nH (by lia) (by lia),hN _ _ ⟨_,rfl,rfl,by lia,by lia⟩⟩
    rintro _ yR σ H7 ⟨kk,rfl,rfl,k1,k2⟩;subst yR;refine aC (λσ H8=>∃ nn:Int,σ=[some (.ref a),some (.ref b),some (.ref c),some (.ref w),some (.int wr),some (.int (0+(i:Int))),some (.int (0+(j:Int))),some (.int kk),some (.int nn),e5]/\H8=H7) (λN hN=>?_) ?_
    .rfl';exact bJ (s6.seq hc) (int_at (by lia) (by lia)) (hN _ _ ⟨_,rfl,rfl⟩)
    rintro _ yR σ H6 ⟨nn,rfl,rfl⟩;subst yR;refine aC (λσ H8=>∃ nn:Int,σ=[some (.ref a),some (.ref b),some (.ref c),some (.ref w),some (.int wr),some (.int (0+(i:Int))),some (.int (0+(j:Int))),some (.int kk),some (.int nn),e5]/\H8=H6) (λN hN=>?_) ?_
    .rfl';refine⟨a,ns,_,_,_,rfl,s6.seq hS,hn,by lia,by lia,by lia,λp p1 p2=>?_⟩;rfl';refine ak (eM s6 hb) (v:=.int e) rfl ?_;rfl';refine⟨by lia,aX (λ_=>?_) λ_=>hN _ _ ⟨nn,rfl,rfl⟩⟩;refine ak (eM s6 hb) (v:=.int f) rfl ?_;refine⟨a,ns,_,_,_,rfl,s6.seq hS,hn,by lia,by lia,by lia,λr r1 r2=>?_⟩;rfl';exact⟨nH (by lia) (by lia),hN _ _ ⟨_,rfl,rfl⟩⟩
    rintro _ yR σ H7 ⟨nn,rfl,rfl⟩;subst yR;refine aC (λσ H8=>∃ o:Bool,σ=[some (.ref a),some (.ref b),some (.ref c),some (.ref w),some (.int wr),some (.int (0+(i:Int))),some (.int (0+(j:Int))),some (.int kk),some (.int nn),some (.bl o)]/\H8=H7) (λN hN=>?_) ?_
    .rfl';refine⟨a,ns,_,_,_,rfl,s6.seq hS,hn,by lia,by lia,by lia,λp p1 p2=>?_⟩;rfl';exact hN _ _ ⟨_,rfl,rfl⟩
    rintro _ yR σ H6 ⟨o,rfl,rfl⟩;subst yR;refine aC (λσ H8=>∃ o:Bool,σ=[some (.ref a),some (.ref b),some (.ref c),some (.ref w),some (.int wr),some (.int (0+(i:Int))),some (.int (0+(j:Int))),some (.int kk),some (.int nn),some (.bl o)]/\H8=H6) (λN hN=>?_) ?_
    .rfl';refine ak (eM s6 hb) (v:=.int t) rfl ?_;rfl';refine aX (λ_=>?_) λ_=>hN _ _ ⟨o,rfl,rfl⟩;refine⟨a,ns,_,_,_,rfl,s6.seq hS,hn,by lia,by lia,by lia,λp p1 p2=>?_⟩;rfl';exact hN _ _ ⟨_,rfl,rfl⟩
    rintro _ yR σ H7 ⟨o,rfl,rfl⟩;subst yR;have le:(i:Int) * t+(j:Int)<=(i:Int) * t+((j+1:Nat):Int):=by lia
    have bm:0<=(i:Int) * t/\(i:Int) * t<=6 * 12:=⟨adL (by lia) (by lia),afH (by lia) t2 (by lia) (by decide)⟩
    cases o with
    | true =>
     rfl';exact⟨_,_,_,_,none,rfl,tb,s6,iV,⟨kvs,hk,hT⟩,ay,aej iW le,cH⟩
    | false =>
     rfl';refine ak (eM s6 hb) (v:=.int f) rfl ?_;rfl';refine⟨a,ns,_,_,_,rfl,s6.seq hS,hn,by lia,hf,λwp lo hi H8 s7 Wm Wn _=>⟨aW,λk qz=>?_⟩⟩;have u:=ao (o:=.tup [.int (0+(i:Int)),.int (0+(j:Int))]) qz;have KW:=(s7.trans u) _ _ hk;refine⟨_,nI.t (k:=bH (0+(i:Int)) (0+(j:Int))) KW aw (abV (by lia:kvs.length<=100) (by decide)),_,_,_,_,none,rfl,fj tb (0+(i:Int),0+(j:Int)) (lo,hi),j6 iV (s6.trans (s7.trans u)),iV,⟨_,aw,?_⟩,ay.put ⟨⟨by show 0<=0+(i:Int);lia,by show 0+(i:Int)<e;lia⟩,by show 0<=0+(j:Int);lia,by show 0+(j:Int)<t;lia⟩,?_,λr hr=>?_⟩
     .have F:Fr _ (upd _ w (.dT (putK kvs (bH (0+(i:Int)) (0+(j:Int))) (.ref wp)))):=zH KW;exact aY.put (s:=(0+(i:Int),0+(j:Int))) (w:=(lo,hi)) (hT.imp λv a b z=>(aM.same z (s7.trans u)).fr F) (aM.fr ⟨wp,rfl,u _ _ Wm⟩ F)
     .have:=R5 tb (0+(i:Int),0+(j:Int)) (lo,hi);show ((fj tb (0+(i:Int),0+(j:Int)) (lo,hi)).length:Int)<=(i:Int) * t+((j+1:Nat):Int);lia
     .rcases Wi hr with z|z
      .exact cH r z
      .rw[z];exact Wn
   .rintro σ H6 ⟨e2,e3,e4,e5,_,rfl,tb,s6,iV,hT,ay,iW,cH⟩;refine⟨_,_,_,_,_,rfl,tb,s6,iV,hT,ay,?_,cH⟩;have iW:(tb.length:Int)<=(i:Int) * t+((t.toNat:Nat):Int):=iW;show (tb.length:Int)<=((i+1:Nat):Int) * t;rw[Int.natCast_add,ajn];lia
  .obtain⟨e1,e2,e3,e4,e5,rfl,tb,s6,iV,hT,ay,iW,cH⟩:=h;refine⟨_,_,_,_,_,rfl,tb,s6,iV,hT,ay,?_,cH⟩;have iW:(tb.length:Int)<=((e.toNat:Nat):Int) * t:=iW;rw[adb (by lia)] at iW;exact iW
 rintro _ yR σ H5 ⟨e1,e2,e3,e4,e5,rfl,tb,s5,iV,hT,ay,iW,cH⟩;subst yR;rfl';refine ak (eM s5 hb) (v:=.int e) rfl (ak (eM s5 hb) (v:=.int t) rfl (ak (eM s5 hb) (v:=.int f) rfl (ak (eM s5 hb) (v:=.int u) rfl ?_)));rfl';refine⟨nH (by lia) (by lia),ak (eM s5 hb) (v:=.int f) rfl (ak (eM s5 hb) (v:=.int d) rfl ?_)⟩;rfl';refine⟨nH (by lia) (by lia),ak (eM s5 hb) (v:=.int m) rfl ⟨by decide,λr hr=>?_⟩⟩;exact q (.ref r) w tb _ (s5.trans (ao hr)) iV ⟨r,rfl,aw,hT.same (ao hr)⟩ ay (by lia) cH
structure bL(B:abd)(H:Hp)(x:abd)(e t u d m:Int)(p:abd)(tb:Tb):Prop where
 ob:∃ dx,H x=some (.ins B dx (qx e t u d m p))
 tb:TabAt H p tb
theorem bL.same{B:abd}{H H':Hp}{x p:abd}{e t u d m:Int}{tb:Tb}(h:bL B H x e t u d m p tb)(s:aj H H'):bL B H' x e t u d m p tb:=let ⟨⟨dx,a⟩,b⟩:=h;⟨⟨dx,s _ _ a⟩,b.same s⟩
theorem bL.but{B:abd}{H H':Hp}{x p:abd}{e t u d m:Int}{tb:Tb}{ps:List abd}(h:bL B H x e t u d m p tb)(s:iM ps H H')(c:pS H ps)(hp:p∉ps):bL B H' x e t u d m p tb:=let ⟨⟨dx,a⟩,b⟩:=h;⟨⟨dx,s.fr c _ _ (λ_ z=>nomatch z) a⟩,b.but s c hp⟩
theorem bL.now{B:abd}{H H':Hp}{x p:abd}{e t u d m:Int}{tb bY:Tb}(h:bL B H x e t u d m p tb)(s:Fr H H')(hp:TabAt H' p bY):bL B H' x e t u d m p bY:=let ⟨⟨dx,a⟩,_⟩:=h;⟨⟨dx,s _ _ (λ_ z=>nomatch z) a⟩,hp⟩
inductive Wo(B C:abd)(vs:List V)(H:Hp)(Q:VK)(E:XK):Prop
 | mk(x p:abd)(e t u d m i j:Int)(kvs:List (List Key × V))(_:vs=[.ref x,.int i,.int j])(_:gL B H x e t u d m p kvs)(_:(c7 kvs (bH i j)=none->∀ H',aj H H'->E (.ref C) none H'))(_:(∀ v,c7 kvs (bH i j)=some v->∀ H',SameBut p H H'->H' p=some (.dT (kf kvs (bH i j)))->Q .non H'))
theorem Wq(T:Tx K mg):Om P w mg base 2 T.mS (Wo T.aO T.cU):=by
 refine qm Kc ?_;rintro _ _ _ _ _ _ _ _ hr ⟨x,p,e,t,u,d,m,i,j,kvs,rfl,hb,q0,q⟩;refine⟨_,(ax (d9 (fY (aa 0) T.bA T.VM (V5 T) (hr.mono (by decide)) T.mW.b .nil df (ae (aa 1) (ae (aa 2) ag))))
  (au (d9 (Ho (eh hr) (dD rfl (aa 0) rfl) (aS (ae (aa 1) (ae (aa 2) ag))) ⟨rfl,rfl,rfl,rfl⟩)))),?_⟩
 obtain⟨⟨dx,hx⟩,hp⟩:=id hb;rfl';refine⟨_,_,hx,rfl,x,p,e,t,u,d,m,i,j,kvs,rfl,hb,q0,λv hv H1 s1=>?_⟩;have o4:=s1 _ _ hx;have gM:=s1 _ _ hp;rfl';refine⟨_,_,_,o4,T.bA,T.kD,_,rfl,p,rfl,.inr ⟨kvs,.inl gM⟩,aW,λk hk=>?_⟩;refine⟨kvs,(ao hk) _ _ gM,bH i j,aw,v,hv,q v hv _ (λb o k7 e=>?_) aw⟩;rw[aB k7];exact (ao hk) _ _ (s1 _ _ e)
inductive Wr(B:abd)(vs:List V)(H:Hp)(Q:VK)(aP:XK):Prop
 | mk(x p:abd)(e t u d m:Int)(tb:Tb)(_:vs=[.ref x])(_:bL B H x e t u d m p tb)(_:(tb.map (·.1)).Nodup)(_:tb.length<64)(_:∀ l xs H',aj H H'->H l=none->H' l=some (.lst xs)->az (ki H') xs (mz tb)->Q (.ref l) H')
theorem KY(T:Tx K mg):Om P w mg base 1 T.lS (Wr T.aO):=by
 refine jv Kd ?_;rintro _ _ _ s H _ Q _ hr ⟨x,p,e,t,u,d,m,tb,rfl,⟨⟨dx,hx⟩,kvs,hp,hT⟩,hn,fi,q⟩;refine⟨_,(au (aA (cQ (bU.mk (fr:=[0]) (ys:=["self"]) rfl (by decide +kernel) rfl (by decide +kernel) rfl rfl (.cons rfl .nil) (.cons rfl rfl rfl rfl .nil) (by decide) rfl) rfl (cC (aV (RS rfl) (by rfl) T.Kv E7 (ae (dD rfl (aa 0) rfl) ag))) (λC s2 H2 ex pn=>⟨dg,(aS (ae (b7 (K:=K) (aa 0) af) (ae (b7 (K:=K) (aa 0) af) (ae (Hv (eh hr) (dD (K:=K) rfl (aa 1) rfl) (aa 0) (λ_ _=>rfl)) ag))))⟩)))),?_⟩;rfl';refine⟨_,_,_,hx,T.bA,T.kD,_,rfl,p,rfl,kvs,hp,kh tb,R6 hT,R7,by rw[hT.len];exact fi,λl ys hl hk=>?_⟩;have PS:=R8 hT hk;have s1:=ao (o:=.lst (dQ (kh tb) .non ys)) hl;have L1:upd H l (.lst (dQ (kh tb) .non ys)) l=some (.lst (dQ (kh tb) .non ys)):=aw;generalize upd H l (.lst (dQ (kh tb) .non ys))=H1 at s1 L1 ⊢;refine⟨⟨_,ai.of L1⟩,cJ gv (abb (by rw[PS.len,nN];exact aeL fi:_<=64) (by decide)) (ia (R:=λH x (r:P2 × S2)=>dn H x r.1) (R':=λH y (r:P2 × S2)=>ki H y r) (f:=λr=>r) (bs:=[]) (λ_ _ _ _ s r=>dn.same r s) (λ_ _ _ _ s r=>ki.same r s) (PS.imp λx r z=>dn.same z s1) trivial (λH' s'=>ai.of (s' _ _ L1)) (λx r _ H' s' dE Q h=>?_) (λx r dE H' s' h0 Q h=>?_) λH2 zs s2 hz=>?_)⟩
 .rfl';exact h
 .obtain⟨a,rfl,ha⟩:=id h0;have S:=s1.trans s';have Ws:=hT.imp λv a b z=>aM.same z S;obtain⟨w,hw,iw⟩:=(Ws.val r.1).2 _ (pU hn (rX dE));rfl';refine ak (ah.of ha) rfl (ak (ah.of ha) rfl ⟨_,_,_,S _ _ hx,T.bA,T.kD,_,rfl,p,rfl,w,?_,?_⟩)
  .rw[<- hw];exact dU.t (k:=bH r.1.1 r.1.2) (S _ _ hp) ha
  .exact⟨by decide,λz hz=>h _ _ (ao hz) ⟨z,w,rfl,aw,aM.same iw (ao hz)⟩⟩
 rw[abr,agL] at hz;exact λl2 ba=>q l2 zs _ (s1.trans (s2.trans (ao ba))) ((s1.trans s2).free ba) aw (hz.imp λx r z=>ki.same z (ao ba))
inductive Wt(B N:abd)(vs:List V)(H:Hp)(Q:VK)(E:XK):Prop
 | mk(x p:abd)(e t u d m mo:Int)(tb:Tb)(_:vs=[.ref x,.int mo])(_:bL B H x e t u d m p tb)(_:bI e t tb)(_:(¬ dZ e t u d mo->∀ H',aj H H'->E (.ref N) none H'))(_:(dZ e t u d mo->∀ x' p' H',aj H H'->H x'=none->H p'=none->bL B H' x' e t u d mo p' tb->Q (.ref x') H'))
theorem Wu(T:Tx K mg):Om P w mg base 3 T.mU (Wt T.aO T.lU):=by
 refine qm B9 ?_;rintro _ _ _ _ H _ _ _ hr ⟨x,p,e,t,u,d,m,mo,tb,rfl,hb,ay,q0,q⟩;refine⟨_,(ax (aI 2 B9.nd (yt T.wV (KJ T) (hr.mono (by decide)) rfl T.Ky T.mR.b .nil df (ae (dD rfl (aa 0) rfl) (ae (dD rfl (aa 0) rfl) (ae (dD rfl (aa 0) rfl) (ae (dD rfl (aa 0) rfl) (ae (aa 1) ag)))))))
  (ax (mL (aa 2) (oU Hr (by rfl) T.Ks Fd (ae (dD rfl (aa 0) rfl) ag)) rfl)
  (au (aA (aa 2))))),?_⟩
 obtain⟨⟨dx,hx⟩,kvs,hp,hT⟩:=id hb;rfl';refine⟨_,_,_,hx,T.bA,T.qv,_,rfl,_,_,_,hx,T.bA,T.oq,_,rfl,_,_,_,hx,T.bA,T.ui,_,rfl,_,_,_,hx,T.bA,T.uj,_,rfl,λx' KZ cE Wv fu=>?_⟩;have M:=G3 (C:=T.aO) (fs:=[]) cE Wv fu;refine⟨x',KZ,e,t,u,d,mo,rfl,aw,λz=>q0 z _ M,λhk p' H1 cP s1 X1 P1=>⟨rfl,?_⟩⟩;have S1:aj H H1:=λb o e=>s1 b o (λz=>by rw[z,cE] at e;cases e) (M _ _ e);have k1:=hk.1;have k2:=hk.2.1;refine⟨_,_,_,S1 _ _ hx,T.bA,T.kD,_,rfl,p,rfl,kvs,S1 _ _ hp,HD hT ay (by lia) (by lia),λl hl=>?_⟩;have s2:=ao (o:=.dT kvs) hl;refine⟨_,_,_,s2 _ _ X1,T.bA,T.kD,(by show 6<1000;decide),?_⟩;have nl:l≠x':=λz=>by rw[z,X1] at hl;cases hl
 have S2:aj H (upd (upd H1 l (.dT kvs)) x' (.ins T.aO KZ (eV "told" (.ref l) (qx e t u d mo p')))):=j6 cE (S1.trans s2);exact q hk x' l _ S2 cE (S1.free hl) ⟨⟨_,aw⟩,kvs,by rw[aB nl];exact aw,hT.imp λv a b z=>aM.same z S2⟩
inductive Ww(B:abd)(vs:List V)(H:Hp)(Q:VK)(aP:XK):Prop
 | mk(x p:abd)(e t u d m:Int)(tb:Tb)(_:vs=[.ref x])(_:bL B H x e t u d m p tb)(_:bI e t tb)(_:dZ e t u d m)(_:∀ x' p' H',aj H H'->H x'=none->H p'=none->bL B H' x' e t u d m p' tb->Q (.ref x') H')
theorem Wx(T:Tx K mg):Om P w mg base 4 T.mT (Ww T.aO):=by refine jv Ke ?_;rintro _ _ _ _ _ _ _ _ hr ⟨x,p,e,t,u,d,m,tb,rfl,hb,ay,hk,q⟩;refine⟨_,(au (aA (fY (aa 0) T.bA T.VJ (Wu T) (hr.mono (by decide)) T.mU.b .nil bb (ae (dD rfl (aa 0) rfl) ag)))),?_⟩;obtain⟨⟨dx,hx⟩,kvs,hp,hT⟩:=id hb;rfl';exact⟨_,_,hx,rfl,_,_,_,hx,T.bA,T.qw,_,rfl,x,p,e,t,u,d,m,m,tb,rfl,hb,ay,λz=>absurd hk z,λ_=>q⟩
inductive Wy(K:aa0)(vs:List V)(H:Hp)(Q:VK)(aP:XK):Prop
 | mk(a:abd)(xs:List V)(ss:List S2)(_:vs=[.ref a])(_:ai K H a xs)(_:lp H xs ss)(_:xs.length<=1000)(_:∀ v H',aj H H'->gA H' v (fN (none,none) ss)->Q v H')
inductive Wz(K:aa0)(H:Hp)(a:abd)(xs:List V)(ss:List S2)(i:Nat)(σ:St)(H1:Hp):Prop
 | mk(v:V)(e:Option V)(_:σ=[some (.ref a),some v,e])(_:aj H H1)(_:aM H1 v (bh (none,none) (ss.take i)).1 (bh (none,none) (ss.take i)).2)(_:aT (bh (none,none) (ss.take i)).1 (bh (none,none) (ss.take i)).2=false)
theorem Cw(T:Tx K mg):Ok P w base 3 T.sW (Wy K):=by
 refine bc sI ?_;rintro _ _ _ _ H _ _ _ hr ⟨a,xs,ss,rfl,hS,hP,hn,q⟩;refine⟨_,(ax (aI 1 sI.nd (aS (ae b5 (ae b5 ag))))
  (ax (cI abJ rfl (cC (aa 0)) (b8 2 sI.nd) (ax (aI 1 sI.nd (aD (Cs T) hr (ae (aa 1) (ae (aa 2) ag))))
    (au (aG (dC (aa 1)) (au (aA b5)) aH))))
  (au (aA (aa 1))))),?_⟩
 have hA:=lr.mp hP;have hl:=hA.len;rfl';refine⟨aW,λp hp=>?_⟩;have s0:=ao (o:=.tup [.non,.non]) hp;refine⟨⟨_,s0.seq hS⟩,iG (xs:=xs) (Wz K H a xs ss) ⟨_,_,rfl,s0,⟨p,rfl,aw⟩,rfl⟩ ?_ ?_ ?_⟩
 .rintro i σ H1 _ ⟨_,_,_,s1,_⟩;exact s1.seq hS
 .rintro i x σ H1 hx ⟨v,e,rfl,s1,hv,hc⟩;obtain⟨w,hw,r⟩:=hA.get hx;have e1:=Sh (e:=(none,none)) hw;rfl';refine⟨v,x,_,_,w.1,w.2,rfl,hv,r.same s1,λy H2 s2 hm=>?_⟩;have mF:GK H2 y (bh (none,none) (ss.take (i+1))).1 (bh (none,none) (ss.take (i+1))).2:=by rw[e1];exact hm
  cases hk:aT (bh (none,none) (ss.take (i+1))).1 (bh (none,none) (ss.take (i+1))).2 with
  | true =>
   have ey:=mF.1 hk;subst ey;rfl';refine q _ _ (s1.trans s2) ?_;unfold fN;rw[if_pos (Sg hk)];rfl
  | false =>
   have hy:=mF.2 hk;obtain⟨t,rfl,ht⟩:=id hy;rfl';exact⟨_,_,rfl,s1.trans s2,hy,hk⟩
 .rintro σ H1 ⟨v,e,rfl,s1,hv,hc⟩;rfl';rw[hl,ab5] at hv hc;refine q _ _ s1 ?_;unfold fN;rw[if_neg (by rw[hc];simp)];exact hv
def qA(cs:List Int)(k:Str)(t:Int):Prop:=0<=t/\t<(cs.length:Int)/\(k = "step" -> t+1<(cs.length:Int))
inductive WA(K:aa0)(vs:List V)(H:Hp)(Q:VK)(aP:XK):Prop
 | mk(a:abd)(cs:List Int)(k:Str)(t:Int)(_:vs=[.ref a,.str k,.int t])(_:ai K H a (cs.map V.int))(_:qA cs k t)(_:Q (.int (fk cs k t)) H)
theorem WB(T:Tx K mg):Ok P w base 1 T.sX (WA K):=by
 refine bc JG ?_;rintro _ _ _ _ _ _ _ _ _ ⟨a,cs,k,t,rfl,hS,hk,q⟩;refine⟨_,(ax (aG (bT (aa 1) bp) (au (aA (aN dB (aq (aa 0) (aN bZ (aa 2) af)) (aq (aa 0) (aa 2))))) aH)
  (au (aA (aq (aa 0) (aa 2))))),?_⟩
 obtain⟨h0,h1,h2⟩:=hk;unfold fk at q;rfl'
 try refine⟨rfl,?_⟩
 by_cases hk:k = "step"
 .subst hk;rw[if_pos rfl] at q ⊢;refine bJ hS (int_at (by lia) (h2 rfl)) (bJ hS (int_at h0 h1) ?_);rfl';exact q
 .rw[if_neg hk] at q;rw[if_neg hk];exact bJ hS (int_at h0 h1) q
inductive WC(K:aa0)(vs:List V)(H:Hp)(Q:VK)(aP:XK):Prop
 | mk(a b:abd)(cs:List Int)(xs:List V)(ps:List Pa)(_:vs=[.ref a,.ref b])(_:ai K H a (cs.map V.int))(_:ai K H b xs)(_:dq H xs ps)(_:ps.length<=1000)(_:(∀ p∈ps,qA cs p.1 p.2.1))(_:∀ H',aj H H'->Q (.bl (c8 cs ps)) H')
theorem WD(T:Tx K mg):Ok P w base 3 T.sY (WC K):=by
 refine bc JH ?_;rintro _ _ _ _ H _ Q _ hr ⟨a,b,cs,xs,ps,rfl,hS,hX,hP,hn,hk,q⟩;refine⟨_,(au (aA (aV (vO rfl) (by rfl) T.wR vz (ae (cQ (bU.mk (fr:=[0]) (ys:=["course"]) rfl (by decide +kernel) rfl (by decide +kernel) rfl rfl (.cons rfl .nil) (.cons rfl rfl rfl rfl .nil) (by decide) rfl) rfl (cC (aa 1)) (λC s2 H2 ex pn=>⟨dg,(aD (VW T) hr (ae (b7 (K:=K) (aa 0) af) (ae (aD (WB T) hr (ae (aa 1) (ae (b7 (K:=K) (aa 0) af) (ae (b7 (K:=K) (aa 0) af) ag)))) ag)))⟩)) ag)))),?_⟩;have hl:=hP.len;rfl';refine⟨⟨_,hX⟩,cJ gv (abb (by lia:xs.length<=1000) (by decide)) (lj (R:=eX H) (p:=λ_=>true) (f:=λp=>.bl (hold p.2.2.1 p.2.2.2 (fk cs p.1 p.2.1))) hX hP (λx p _ r Q h=>?_) (λx p hp _ r Q h=>?_) ?_)⟩
 .rfl';exact h
 .obtain⟨t,u,rfl,ht,hu⟩:=r;rfl';refine ak (ah.of ht) rfl (ak (ah.of ht) rfl (ak (ah.of ht) rfl ?_));refine⟨a,cs,_,_,rfl,hS,hk p hp,?_⟩;rfl';exact⟨_,_,_,_,rfl,⟨u,rfl,hu⟩,h⟩
 .rw[abr,filter_tt];intro l ba;refine⟨l,rfl,ps.map λp=>hold p.2.2.1 p.2.2.2 (fk cs p.1 p.2.1),ai.of ?_,?_⟩
  .rw[aw,abS];rfl
  .rw[ahY];exact q _ (ao ba)
inductive WE(B:abd)(vs:List V)(H:Hp)(Q:VK)(aP:XK):Prop
 | mk(x p:abd)(e t u d m i:Int)(k:Str)(kvs:List (List Key × V))(_:vs=[.ref x,.str k,.int i])(_:gL B H x e t u d m p kvs)(_:Q (.bl (hasB t k i)) H)
theorem WG(T:Tx K mg):Ok P w base 2 T.sZ (WE T.aO):=by
 refine bc JI ?_;rintro _ _ _ _ _ _ _ _ hr ⟨x,p,e,t,u,d,m,i,k,kvs,rfl,hb,q⟩;refine⟨_,(ax (aG (bT (aa 1) bp) (au (aA (fv (fY (aa 0) T.bA T.uk (uo T) (hr.mono (by decide)) T.iT.b .nil bb (ae (aa 2) ag)) (eU (fY (aa 0) T.bA T.uk (uo T) (hr.mono (by decide)) T.iT.b .nil bb (ae (aN bZ (aa 2) af) ag)))))) aH)
  (au (aA (fv (fe md (aa 1) bp (da _)) (eU (fY (aa 0) T.bA T.uk (uo T) (hr.mono (by decide)) T.iT.b .nil bb (ae (aa 2) ag))))))),?_⟩
 obtain⟨⟨dx,hx⟩,hp⟩:=id hb;unfold hasB at q;rfl'
 try refine⟨rfl,?_⟩
 by_cases hk:k = "step"
 .subst hk;rw[if_pos rfl] at q ⊢;refine⟨_,_,hx,rfl,x,p,e,t,u,d,m,i,kvs,rfl,hb,?_⟩;by_cases h1:0<=i/\i<t
  .rw[decide_eq_true h1] at q ⊢;rfl';refine⟨_,_,hx,rfl,x,p,e,t,u,d,m,_,kvs,rfl,hb,?_⟩;rw[ahv] at q;exact q
  .rw[decide_eq_false h1] at q ⊢;rfl';exact q
 .rw[if_neg hk] at q;rw[if_neg hk]
  try refine⟨rfl,?_⟩
  by_cases jt:k = "at"
  .subst jt;rw[decide_eq_true rfl,ahv] at q;rw[if_pos rfl];refine⟨_,_,hx,rfl,x,p,e,t,u,d,m,i,kvs,rfl,hb,?_⟩;exact q
  .rw[decide_eq_false jt,afz] at q;rw[if_neg λz=>jt (V.str.inj z)];exact q
inductive WH(K:aa0)(B C:abd)(vs:List V)(H:Hp)(Q:VK)(E:XK):Prop
 | mk(x p b:abd)(e t u d m:Int)(kvs:List (List Key × V))(xs:List V)(ps:List Pa)(_:vs=[.ref x,.ref b])(_:gL B H x e t u d m p kvs)(_:ai K H b xs)(_:dq H xs ps)(_:(¬ eY t ps->E (.ref C) none H))(_:(eY t ps->Q .non H))
inductive WI(H:Hp)(x b:abd)(t:Int)(ps:List Pa)(i:Nat)(σ:St)(H1:Hp):Prop
 | mk(e:Option V)(_:σ=[some (.ref x),some (.ref b),e])(_:H1=H)(_:eY t (ps.take i))
theorem K0(T:Tx K mg):Ok P w base 3 T.jA (WH K T.aO T.iq):=by
 refine ju B7 ?_;rintro _ _ _ _ H _ _ _ hr ⟨x,p,b,e,t,u,d,m,kvs,xs,ps,rfl,hb,hX,hP,q0,q⟩;refine⟨_,(au (cI ady rfl (cC (aa 1)) (b8 2 B7.nd) (au (aG (bC (bz (aD (WG T) hr (ae (aa 0) (ae (aq (aa 2) af) (ae (aq (aa 2) af) ag)))))) (au (kW kX rfl T.Cm T.wW rfl (ae bp ag))) aH)))),?_⟩;have hl:=hP.len;rfl';refine⟨⟨_,hX⟩,iG (xs:=xs) (WI H x b t ps) ⟨_,rfl,rfl,λ_ h=>by simp at h⟩ ?_ ?_ ?_⟩
 .rintro i σ H1 _ ⟨_,_,rfl,_⟩;exact hX
 .rintro i y σ H1 hy ⟨e1,rfl,rfl,hk⟩;obtain⟨pa,lV,ta,qa,rfl,h1,h2⟩:=hP.get hy;rfl';refine ak (ah.of h1) rfl (ak (ah.of h1) rfl ?_);refine⟨x,p,e,t,u,d,m,pa.2.1,pa.1,kvs,rfl,hb,?_⟩;cases hc:hasB t pa.1 pa.2.1 with
  | true =>
   rfl';refine⟨_,rfl,rfl,λz hz=>?_⟩;rw[ab9,lV] at hz;rcases abD.mp hz with h|h
   .exact hk z h
   .have:z=pa:=by simpa using h
    rw[this];exact hc
  | false =>
   rfl';refine⟨by decide,q0 λz=>?_⟩;rw[z pa (abi lV)] at hc;cases hc
 .rintro σ H1 ⟨e1,rfl,rfl,hk⟩;rw[hl,ab5] at hk;rfl';exact q hk
inductive WJ(K:aa0)(vs:List V)(H:Hp)(Q:VK)(aP:XK):Prop
 | mk(b:abd)(xs:List V)(ps:List Pa)(k:Str)(t:Int)(_:vs=[.ref b,.str k,.int t])(_:ai K H b xs)(_:dq H xs ps)(_:ps.length<=1000)(_:∀ l ys H',aj H H'->H l=none->H' l=some (.lst ys)->lp H' ys (sel ps k t)->Q (.ref l) H')
theorem K1(T:Tx K mg):Ok P w base 1 T.tf (WJ K):=by
 refine bc JJ ?_;rintro _ _ _ s H _ Q _ _ ⟨b,xs,ps,k,t,rfl,hX,hP,hn,q⟩;refine⟨_,(au (aA (cQ (bU.mk (fr:=[1,2]) (ys:=["kind","turn"]) rfl (by decide +kernel) rfl (by decide +kernel) rfl rfl (.cons rfl (.cons rfl .nil)) (.cons rfl rfl rfl rfl (.cons rfl rfl rfl rfl .nil)) (by decide) rfl) rfl (cC (aa 0)) (λC s2 H2 ex pn=>⟨(jc (PW.pt (i5 (bT (b7 (K:=K) (aa 0) af) (aa 1)) (jT (bT (b7 (K:=K) (aa 0) af) (aa 2)))))),(b7 (K:=K) (aa 0) af)⟩)))),?_⟩;have hl:=hP.len;rfl';refine⟨⟨_,hX⟩,cJ gv (abb (by lia:xs.length<=1000) (by decide)) (nO (R:=λx p=>eX H x p) (R':=λy (s:S2)=>aM H y s.1 s.2) (p:=kj k t) (f:=λp=>p.2.2) hX hP (λx p r Q h=>?_) (λx p _ r Q h=>?_) λzs hz=>?_)⟩
 .obtain⟨tt,u,rfl,ht,hu⟩:=r;unfold kj at h;rfl';refine ak (ah.of ht) rfl ?_;rfl'
  try refine⟨rfl,?_⟩
  by_cases hk:p.1=k
  .rw[decide_eq_true hk,ahv] at h;rw[if_pos (by rw[hk])];refine ak (ah.of ht) rfl ?_;rfl';exact An (Q:=λk=>Q k H) h
  .rw[decide_eq_false hk,afz] at h;rw[if_neg hk];exact h
 .obtain⟨tt,u,rfl,ht,hu⟩:=r;rfl';exact ak (ah.of ht) rfl (h _ ⟨u,rfl,hu⟩)
 .rw[abr];intro l ba;exact q l zs _ (ao ba) ba aw (lr.mpr (hz.imp λ_ _ r=>r.same (ao ba)))
noncomputable def dF(u d:Int)(ps:List Pa)(n:Nat):List W2:=(abG n).map λ(k:Nat)=>fN (none,none) ((some (-d),some u)::sel ps "step" (k:Int))
inductive WK(K:aa0)(B C:abd)(vs:List V)(H:Hp)(Q:VK)(E:XK):Prop
 | mk(x p b:abd)(e t u d m:Int)(kvs:List (List Key × V))(xs:List V)(ps:List Pa)(_:vs=[.ref x,.ref b])(_:gL B H x e t u d m p kvs)(_:1<=t)(_:t<=12)(_:ai K H b xs)(_:dq H xs ps)(_:ps.length<=900)(_:(¬ eY t ps->E (.ref C) none H))(_:(eY t ps->∀ l ys H',aj H H'->H l=none->H' l=some (.lst ys)->az (gA H') ys (dF u d ps (t-1).toNat)->Q (.ref l) H'))
theorem WL(T:Tx K mg):Ok P w base 4 T.mM (WK K T.aO T.iq):=by
 refine ju B8 ?_;rintro _ _ _ s H _ Q _ hr ⟨x,p,b,e,t,u,d,m,kvs,xs,ps,rfl,hb,t1,t2,hX,hP,hn,q0,q⟩;refine⟨_,(ax (d9 (bR (K0 T) (hr.mono (by decide)) rfl T.jA.m T.jA.F.kp T.jA.b .nil df (ae (aa 0) (ae (aa 1) ag))))
  (ax (aI 2 B8.nd (cO (ae (aS (ae (gV ij (dD rfl (aa 0) rfl)) (ae (dD rfl (aa 0) rfl) ag))) ag)))
  (au (aA (cQ (bU.mk (fr:=[2,1]) (ys:=["own","claim"]) rfl (by decide +kernel) rfl (by decide +kernel) rfl rfl (.cons rfl (.cons rfl .nil)) (.cons rfl rfl rfl rfl (.cons rfl rfl rfl rfl .nil)) (by decide) rfl) rfl (gT rfl T.fw (ae (aN dB (dD rfl (aa 0) rfl) af) ag)) (λC s2 H2 ex pn=>⟨dg,(aD (Cw T) hr (ae (aN mh (aa 1) (aD (K1 T) hr (ae (aa 2) (ae bp (ae (aa 0) ag))))) ag))⟩)))))),?_⟩
 obtain⟨⟨dx,hx⟩,hp⟩:=id hb;rfl';refine⟨x,p,b,e,t,u,d,m,kvs,xs,ps,rfl,hb,hX,hP,q0,λhk=>?_⟩;rfl';refine⟨_,_,_,hx,T.bA,T.uj,_,rfl,_,_,_,hx,T.bA,T.ui,_,rfl,aW,λo ho=>⟨by decide,λl hl=>?_⟩⟩;have s1:=(ao (o:=.tup [.int (-d),.int u]) ho).trans (ao (o:=.lst [.ref o]) hl);have O1:aM (upd (upd H o (.tup [.int (-d),.int u])) l (.lst [.ref o])) (.ref o) (some (-d)) (some u):=⟨o,rfl,(ao hl) _ _ aw⟩
 have L1:(upd (upd H o (.tup [.int (-d),.int u])) l (.lst [.ref o])) l=some (.lst [.ref o]):=aw;generalize upd (upd H o (.tup [.int (-d),.int u])) l (.lst [.ref o])=H1 at s1 O1 L1 ⊢;refine⟨_,_,_,s1 _ _ hx,T.bA,T.oq,_,rfl,by lia,by lia,?_⟩;refine cJ k8 (by rw[aa2,abw];exact abb (by lia:_<=12) (by decide)) (ia (R:=λ_ x (k:Nat)=>x=V.int ((0:Int)+k)) (R':=gA) (f:=λ(k:Nat)=>fN (none,none) ((some (-d),some u)::sel ps "step" (k:Int))) (λ_ _ _ _ _ h=>h) (λ_ _ _ _ s' h=>h.same s') (az.i0 _) (bs:=[]) trivial (λ_ _=>trivial) (λx k _ H2 s2 r Q h=>?_) (λx k _ H2 s2 r Q h=>?_) λH2 zs s2 hz=>?_)
 .rfl';exact h
 .subst r;have S2:=s1.trans s2;rfl';refine⟨b,xs,ps,"step",_,rfl,S2.seq hX,hP.same S2,by lia,λr ys H3 s3 _ R3 hR=>?_⟩;rw[afy] at hR;rfl';have hlen:ys.length<=900:=by
   have:=(lr.mp hR).len;have h2:(sel ps "step" (k:Int)).length<=ps.length:=by unfold sel;rw[aa2];exact abR _ _
   lia
  refine⟨[.ref o],s3 _ _ (s2 _ _ L1),ys,R3,abb (by show 1+ys.length<=1000;lia) (by decide),λc hc=>?_⟩;have s4:=ao (o:=.lst ([.ref o]++ys)) hc;refine⟨c,_,(some (-d),some u)::sel ps "step" (k:Int),rfl,ai.of aw,⟨(O1.same (s2.trans s3)).same s4,?_⟩,by rw[abf,abv];lia,λv H5 s5 hv=>h _ _ ((s3.trans s4).trans s5) hv⟩;exact lr.mpr ((lr.mp hR).imp λ_ _ r=>r.same s4)
 .intro c hc;refine q hk c zs _ ((s1.trans s2).trans (ao hc)) ((s1.trans s2).free hc) aw ?_;rw[abr] at hz;exact hz.imp λ_ _ r=>r.same (ao hc)
noncomputable def eF(ps:List Pa)(n:Nat):List W2:=(abG n).map λ(k:Nat)=>fN (none,none) (sel ps "at" (k:Int))
inductive WM(K:aa0)(B C:abd)(vs:List V)(H:Hp)(Q:VK)(E:XK):Prop
 | mk(x p b:abd)(e t u d m:Int)(kvs:List (List Key × V))(xs:List V)(ps:List Pa)(_:vs=[.ref x,.ref b])(_:gL B H x e t u d m p kvs)(_:1<=t)(_:t<=12)(_:ai K H b xs)(_:dq H xs ps)(_:ps.length<=900)(_:(¬ eY t ps->E (.ref C) none H))(_:(eY t ps->∀ l ys H',aj H H'->H l=none->H' l=some (.lst ys)->az (gA H') ys (eF ps t.toNat)->Q (.ref l) H'))
theorem WN(T:Tx K mg):Ok P w base 4 T.mO (WM K T.aO T.iq):=by
 refine ju JK ?_;rintro _ _ _ s _ _ Q _ hr ⟨x,p,b,e,t,u,d,m,kvs,xs,ps,rfl,hb,t1,t2,hX,hP,hn,q0,q⟩;refine⟨_,(ax (d9 (bR (K0 T) (hr.mono (by decide)) rfl T.jA.m T.jA.F.kp T.jA.b .nil df (ae (aa 0) (ae (aa 1) ag))))
  (au (aA (cQ (bU.mk (fr:=[1]) (ys:=["claim"]) rfl (by decide +kernel) rfl (by decide +kernel) rfl rfl (.cons rfl .nil) (.cons rfl rfl rfl rfl .nil) (by decide) rfl) rfl (gT rfl T.fw (ae (dD rfl (aa 0) rfl) ag)) (λC s2 H2 ex pn=>⟨dg,(aD (Cw T) hr (ae (aD (K1 T) hr (ae (aa 1) (ae bp (ae (aa 0) ag)))) ag))⟩))))),?_⟩
 obtain⟨⟨dx,hx⟩,hp⟩:=id hb;rfl';refine⟨x,p,b,e,t,u,d,m,kvs,xs,ps,rfl,hb,hX,hP,q0,λhk=>?_⟩;rfl';refine⟨_,_,_,hx,T.bA,T.oq,_,rfl,_,rfl,by lia,by lia,?_⟩;refine cJ k8 (by rw[aa2,abw];exact abb (by lia:_<=12) (by decide)) (ia (R:=λ_ x (k:Nat)=>x=V.int ((0:Int)+k)) (R':=gA) (f:=λ(k:Nat)=>fN (none,none) (sel ps "at" (k:Int))) (λ_ _ _ _ _ h=>h) (λ_ _ _ _ s' h=>h.same s') (az.i0 _) (bs:=[]) trivial (λ_ _=>trivial) (λx k _ H2 s2 r Q h=>?_) (λx k _ H2 s2 r Q h=>?_) λH2 zs s2 hz=>?_)
 .rfl';exact h
 .subst r;rfl';refine⟨b,xs,ps,"at",_,rfl,s2.seq hX,hP.same s2,by lia,λr ys H3 s3 _ R3 hR=>?_⟩;rw[afy] at hR;rfl';have hlen:ys.length<=900:=by
   have:=(lr.mp hR).len;have h2:(sel ps "at" (k:Int)).length<=ps.length:=by unfold sel;rw[aa2];exact abR _ _
   lia
  exact⟨r,ys,_,rfl,ai.of R3,hR,by lia,λv H5 s5 hv=>h _ _ (s3.trans s5) hv⟩
 .intro c hc;refine q hk c zs _ (s2.trans (ao hc)) (s2.free hc) aw ?_;rw[abr] at hz;exact hz.imp λ_ _ r=>r.same (ao hc)
inductive WO(vs:List V)(H:Hp)(Q:VK)(aP:XK):Prop
 | mk(v:V)(c:S2)(_:vs=[v])(_:r6 H v c)(_:Q (.int (lD c)) H)
theorem K2(T:Tx K mg):Ok P w base 1 T.tq WO:=by
 refine bc JS ?_;rintro _ _ _ _ _ _ _ _ _ ⟨v,⟨e1,e2⟩,rfl,⟨p,rfl,hp⟩,q⟩;refine⟨_,(ax (aG (fR (aq (aa 0) af)) (au (aA (aq (aa 0) af))) aH)
  (ax (aG (fR (aq (aa 0) af)) (au (aA (aq (aa 0) af))) aH)
  (au (aA af)))),?_⟩
 rfl';refine ak (ah.of hp) rfl ?_;rcases e1 with _|x
 .rfl';refine ak (ah.of hp) rfl ?_;rcases e2 with _|y
  .rfl';exact q
  .rfl';exact ak (ah.of hp) rfl q
 .rfl';exact ak (ah.of hp) rfl q
theorem WQ(h:s∉tb.map (·.1)):fj tb s w=tb++[(s,w)]:=by unfold fj;rw[if_neg];intro z;obtain⟨r,hr,e⟩:=acy.mp z;exact h (aa8.mpr ⟨r,hr,by simpa using e⟩)
theorem WR{α β:Type}{f:α->β}{l:List α}{i:Nat}{a:α}(h:(l.map f).Nodup)(ha:l[i]?=some a):f a∉(l.take i).map f:=by
 have hi:=(aa7.mp ha).1;have e:l=l.take i++a::l.drop (i+1):=by have:=adn i l;rw[ab8 hi] at this;rw[aa3 hi] at ha;cases ha;exact this.symm
 intro hm;have h2:((l.take i).map f++f a::(l.drop (i+1)).map f).Nodup:=by rw[<- abj,<- aco,<- e];exact h
 exact (afY.mp h2).2.2 _ hm _ (.head _) rfl
def WS(B:abd)(H3:Hp)(v:V)(x p:abd)(e t u d m:Int)(tb:Tb)(i:Nat)(σ:St)(H4:Hp):Prop:=(∃ e1,σ=[some v,some (.ref x),e1])/\iM [p] H3 H4/\bL B H4 x e t u d m p (tb.take i)
inductive WT(K:aa0)(B:abd)(vs:List V)(H:Hp)(Q:VK)(aP:XK):Prop
 | mk(v:V)(w:abd)(e t u d m:Int)(tb:Tb)(_:vs=[v])(_:iu H v w e t u d m tb)(_:dZ e t u d m)(_:bI e t tb)(_:tb.length<=60)(_:(∀ r∈tb,aT r.2.1 r.2.2=false))(_:∀ (x p:abd) (H':Hp),aj H H'->H x=none->H p=none->bL B H' x e t u d m p tb->Q (.ref x) H')
theorem WU(T:Tx K mg):Ok P w base 4 T.tV (WT K T.aO):=by
 refine bc wN ?_;rintro _ _ _ _ H _ _ _ hr ⟨_,w,e,t,u,d,m,tb,rfl,⟨wr,rfl,hwr,hT⟩,dG,ay,cj,cH,q⟩;refine⟨_,(ax (aI 1 wN.nd (yt T.wV (KJ T) (hr.mono (by decide)) rfl T.Ky T.mR.b .nil bb (ae (aq (aa 0) af) (ae (aq (aa 0) af) (ae (aq (aa 0) af) (ae (aq (aa 0) af) (ae (aq (aa 0) af) ag)))))))
  (ax (sd (cI abJ rfl (sf (aq (aa 0) af)) (b8 2 wN.nd) (au (d9 (fY (aa 1) T.bA T.KH (KO T) (hr.mono (by decide)) T.lR.b .nil bb (ae (aq (aa 2) af) (ae (aq (aa 2) af) (ae (aq (pN (eh hr) (aq (aa 0) af) (aa 2) (λ_ _=>rfl)) af) (ae (aq (pN (eh hr) (aq (aa 0) af) (aa 2) (λ_ _=>rfl)) af) ag)))))))))
  (au (aA (aa 1))))),?_⟩
 obtain⟨kvs,hk,hA⟩:=id hT;refine aC (λσ H1=>∃ x p,σ=[some (.ref wr),some (.ref x),none]/\aj H H1/\H x=none/\H p=none/\bL T.aO H1 x e t u d m p []) (λN hN=>?_) ?_
 .rfl';refine ak (ah.of hwr) (v:=.int e) rfl (ak (ah.of hwr) (v:=.int t) rfl (ak (ah.of hwr) (v:=.int u) rfl (ak (ah.of hwr) (v:=.int d) rfl (ak (ah.of hwr) (v:=.int m) rfl λx dx hx WV fu=>?_))));refine⟨x,dx,e,t,u,d,m,rfl,aw,λz=>absurd dG z,λ_ p H1 hp s1 X1 P1=>⟨rfl,?_⟩⟩;have M:=G3 (C:=T.aO) (fs:=[]) hx WV fu;have S1:aj H H1:=λb o e=>s1 b o (λz=>by rw[z,hx] at e;cases e) (M _ _ e);exact hN _ _ ⟨x,p,rfl,S1,hx,M.free hp,⟨⟨_,X1⟩,[],P1,trivial⟩⟩
 rintro _ yR σ H1 ⟨x,p,rfl,s1,fx,fp,hB⟩;subst yR;have gi:=s1 _ _ hk;have wp:w≠p:=λz=>by rw[z,fp] at hk;cases hk
 refine aC (λσ H2=>(∃ e1,σ=[some (.ref wr),some (.ref x),e1])/\aj H H2/\bL T.aO H2 x e t u d m p tb) (λN hN=>?_) ?_
 .rfl';refine⟨w,kvs,gi,λo=>?_⟩;obtain⟨⟨dx,o4⟩,kp,gM,ux⟩:=id hB;have xw:x≠w:=λz=>by rw[z,gi] at o4;cases o4
  have m8:=z6 gi (s1 _ _ hwr) (u:=.aL o (.dT kvs));have w3:upd H1 w (.aL o (.dT kvs)) w=some (.aL o (.dT kvs)):=aw;have p3:upd H1 w (.aL o (.dT kvs)) p=some (.dT kp):=by rw[aB (ab4 wp)];exact gM
  have ou:bL T.aO (upd H1 w (.aL o (.dT kvs))) x e t u d m p []:=⟨⟨dx,by rw[aB xw];exact o4⟩,kp,p3,ux.imp λ_ _ _ z=>z.aL gi⟩
  have gN:=aY.aL (hA.imp λ_ _ _ z=>aM.same z s1) gi (u:=.aL o (.dT kvs));have gj:∀ H4,iM [p] (upd H1 w (.aL o (.dT kvs))) H4->aj H (upd H4 w (.dT kvs)):=λH4 bu b u hb=>by
   by_cases hbw:b=w
   .subst hbw;rw[aw];rw[hk] at hb;exact hb
   .rw[aB hbw];exact bu b u (by simpa using λz=>by rw[z,fp] at hb;cases hb) (by rw[aB hbw];exact s1 _ _ hb)
  refine ak (ah.of m8) (v:=.ref w) rfl ⟨w,rfl,o,kvs,w3,λeQ=>?_⟩;have PT:=gN.nM eQ;have kl:=PT.len;rw[aa2] at kl;generalize upd H1 w (.aL o (.dT kvs))=H3 at m8 w3 p3 ou gN gj PT;have np:∀ (z:abd) (us:List V),H3 z=some (.tup us)->z∉[p]:=λz us hz=>by simpa using λy=>by rw[y,p3] at hz;cases hz
  refine z5 (xs:=eE o) (WS T.aO H3 (.ref wr) x p e t u d m tb) rfl (by rw[kl,hA.len]) ⟨⟨_,rfl⟩,λ_ _ _ z=>z,ou⟩ ?_ ?_ ?_
  .rintro i σ H4 _ ⟨_,bu,_⟩;exact bu w _ (by simpa using wp) w3
  .rintro i v σ H4 hv ⟨⟨e1,rfl⟩,bu,jH⟩;obtain⟨r1,c9,ka,rfl,fz⟩:=PT.get hv;rw[abh] at c9;obtain⟨r,hr,rfl⟩:=abF.mp c9;have kE:=abi hr;obtain⟨⟨w5,ox⟩,kq,lW,w6⟩:=id jH;obtain⟨vv,hvv,va,rfl,hva⟩:=(gN.val r.1).2 _ (pU ay.1 kE);have kF:=bu ka _ (np _ _ fz) fz;have K3:=bu wr _ (np _ _ m8) m8;have w4:=bu w _ (by simpa using wp) w3;have K4:=bu va _ (np _ _ hva) hva;have gt:dU H4 w (.ref ka) (some (.ref va)):=by rw[<- hvv];exact dU.z (k:=bH r.1.1 r.1.2) w4 kF
   rfl';refine⟨_,_,ox,rfl,ak (ah.of kF) (v:=.int r.1.1) rfl (ak (ah.of kF) (v:=.int r.1.2) rfl (ak (ah.of K3) (v:=.ref w) rfl ⟨w,rfl,.ref va,gt,ak (ah.of K4) rfl (ak (ah.of K3) (v:=.ref w) rfl ⟨w,rfl,.ref va,gt,ak (ah.of K4) rfl ?_⟩)⟩))⟩;have WW:=ay.2 r kE;have WX:=w6.len;rw[adG] at WX;have xp:x≠p:=λz=>by rw[z,lW] at ox;cases ox
   refine⟨x,p,e,t,u,d,m,r.1.1,r.1.2,r.2.1,r.2.2,kq,rfl,⟨⟨w5,ox⟩,lW⟩,by lia,λz=>absurd ⟨WW,cH r kE⟩ z,λ_ v9 H9 sb Cy WY=>⟨⟨_,rfl⟩,λc o hc ec=>sb c o (by simpa using hc) (bu c o hc ec),?_⟩⟩;have ek:tb.take (i+1)=fj (tb.take i) r.1 r.2:=by rw[WQ (WR ay.1 hr),ab9,hr];rfl
   rw[ek];exact⟨⟨w5,sb x _ xp ox⟩,_,Cy,aY.put (w6.imp λv a b z=>z.fr (SameBut.fr sb lW)) WY⟩
  .rintro σ H4 ⟨⟨e1,rfl⟩,bu,jH⟩;rw[kl,ab5] at jH;have w4:=bu w _ (by simpa using wp) w3;obtain⟨⟨w5,ox⟩,kq,lW,w6⟩:=jH;refine⟨w4,hN _ _ ⟨⟨_,rfl⟩,gj _ bu,⟨w5,by rw[aB xw];exact ox⟩,kq,by rw[aB (ab4 wp)];exact lW,w6.imp λv a b ⟨pt,e,h⟩=>⟨pt,e,?_⟩⟩⟩;rw[aB (λz=>by rw[z,w4] at h;cases h)];exact h
 rintro _ yR σ H2 ⟨⟨e1,rfl⟩,s2,Cz⟩;subst yR;rfl';exact q x p H2 s2 fx fp Cz
def fS(tb:Tb)(cs:List Int)(i:Int):Prop:=∃ r∈tb,r.1.1=i/\hs r.2 (cM cs r.1.2.toNat)=false
inductive WZ(K:aa0)(vs:List V)(H:Hp)(Q:VK)(aP:XK):Prop
 | mk(v:V)(w c:abd)(e t u d m:Int)(tb:Tb)(cs:List Int)(_:vs=[v,.ref c])(_:iu H v w e t u d m tb)(_:bI e t tb)(_:tb.length<=60)(_:ai K H c (cs.map V.int))(_:cs.length=t.toNat)(_:∀ (zs:List Int) (H':Hp),aj H H'->zs.Nodup->(∀ i,i∈zs↔fS tb cs i)->Q (.int zs.length) H')
theorem W0(T:Tx K mg):Ok P w base 2 T.tW (WZ K):=by
 refine bc Kk ?_;rintro _ _ _ _ H _ Q _ hr ⟨_,w,c,e,t,u,d,m,tb,cs,rfl,⟨wr,rfl,hwr,hT⟩,ay,cj,hc,bf,q⟩;refine⟨_,(au (sd (aA (Vy rfl (cQ (bU.mk (fr:=[1,0]) (ys:=["_law_course","_law_world_here"]) rfl (by decide +kernel) rfl (by decide +kernel) rfl rfl (.cons rfl (.cons rfl .nil)) (.cons rfl rfl rfl rfl (.cons rfl rfl rfl rfl .nil)) (by decide) rfl) rfl (sf (aq (aa 0) af)) (λC s2 H2 ex pn=>⟨(jc (bC (bz (aD (wY T) hr (ae (Hv (eh hr) (b7 (K:=K) (aa 2) af) (aa 0) (λ_ _=>rfl)) (ae (b7 (K:=K) (aa 1) (b7 (K:=K) (aa 0) af)) ag)))))),(b7 (K:=K) (aa 0) af)⟩)) T.cA T.Ku)))),?_⟩;obtain⟨kvs,hk,hA⟩:=id hT;rfl';refine⟨w,kvs,hk,λo=>?_⟩;have m8:=z6 hk hwr (u:=.aL o (.dT kvs));have w3:upd H w (.aL o (.dT kvs)) w=some (.aL o (.dT kvs)):=aw;have gN:=hA.aL hk (u:=.aL o (.dT kvs));have K5:ai K (upd H w (.aL o (.dT kvs))) c (cs.map V.int):=Ih hk hc;have gj:∀ H4,aj (upd H w (.aL o (.dT kvs))) H4->aj H (upd H4 w (.dT kvs)):=λH4 s4=>wg hk s4;refine ak (ah.of m8) (v:=.ref w) rfl ⟨w,rfl,o,kvs,w3,λeQ=>?_⟩;have PT:=gN.nM eQ;have kl:=PT.len;rw[aa2] at kl;generalize upd H w (.aL o (.dT kvs))=H3 at m8 w3 gN K5 gj PT;have P0:az (λv (r:P2 × S2)=>dn H3 v r.1) (eE o) tb:=az.bind PT;refine cJ (Ie (xs:=eE o) rfl (by rw[kl,hA.len])) (abb (by lia:(eE o).length<=64) (by decide)) (lj (R:=λv (r:P2 × S2)=>dn H3 v r.1) (p:=λr=>!hs r.2 (cM cs r.1.2.toNat)) (f:=λr=>.int r.1.1) w3 P0 (λv r hr rv Q h=>?_) (λv r hr hp rv Q h=>?_) ?_)
 .obtain⟨ka,rfl,fz⟩:=rv;obtain⟨⟨b1,b2⟩,b3,b4⟩:=ay.2 r hr;obtain⟨vv,hvv,va,rfl,hva⟩:=(gN.val r.1).2 _ (pU ay.1 hr);rfl';refine ak (ah.of m8) (v:=.ref w) rfl ⟨w,rfl,.ref va,by rw[<- hvv];exact dU.z (k:=bH r.1.1 r.1.2) w3 fz,ak (ah.of fz) (v:=.int r.1.2) rfl (bJ K5 ((congrArg (dm _) (show r.1.2=((r.1.2.toNat:Nat):Int) by lia)).trans (eL (Th (by lia)))) ⟨va,r.2.1,r.2.2,cM cs r.1.2.toNat,rfl,ah.of hva,?_⟩)⟩;rfl';exact h
 .obtain⟨ka,rfl,fz⟩:=rv;rfl';exact ak (ah.of fz) (v:=.int r.1.1) rfl h
 .rw[abr,show ((tb.filter λr=>!hs r.2 (cM cs r.1.2.toNat)).map λr=>V.int r.1.1)=((tb.filter λr=>!hs r.2 (cM cs r.1.2.toNat)).map λr=>r.1.1).map V.int by rw[abS];rfl];intro l hl;have u:=ao (o:=.lst (((tb.filter λr=>!hs r.2 (cM cs r.1.2.toNat)).map λr=>r.1.1).map V.int)) hl;have fl:=abR (λr:P2 × S2=>!hs r.2 (cM cs r.1.2.toNat)) tb;refine⟨l,rfl,_,ai.of aw,by rw[aa2];lia,λzs hz hm=>⟨u _ _ w3,q zs _ (gj _ u) hz λi=>?_⟩⟩;rw[hm,aa8];constructor
  .rintro ⟨r,hr,e⟩;obtain⟨h1,h2⟩:=abE.mp hr;exact⟨r,h1,e,by simpa using h2⟩
  .rintro ⟨r,hr,e,h⟩;exact⟨r,abE.mpr ⟨hr,by simpa using h⟩,e⟩
theorem W3{ps:List Pa}{i:Nat}{p:Pa}{k:Str}{t:Int}(h:ps[i]?=some p):sel (ps.take (i+1)) k t=sel (ps.take i) k t++(if kj k t p=true then [p.2.2] else []):=by
 unfold sel;rw[ab9,h,ahw,aco]
 congr 1
 simp only[aho,abK,List.filter_nil];split<;>rfl
theorem W4(e:S2)(ss:List S2)(s:S2):bh e (ss++[s])=(dR (bh e ss).1 s.1,dS (bh e ss).2 s.2):=by unfold bh;rw[afV];rfl
inductive W5(K:aa0)(vs:List V)(H:Hp)(Q:VK)(aP:XK):Prop
 | mk(bg b:abd)(lo hi:En)(xs:List V)(ps:List Pa)(k:Str)(t:Int)(_:vs=[.ref bg,.ref b,.str k,.int t])(_:ah K H bg [ev lo,ev hi])(_:ai K H b xs)(_:dq H xs ps)(_:ps.length<=1000)(_:∀ v H',aj H H'->aM H' v (bh (lo,hi) (sel ps k t)).1 (bh (lo,hi) (sel ps k t)).2->Q v H')
inductive uy(H:Hp)(bg b:abd)(lo hi:En)(ps:List Pa)(k:Str)(t:Int)(i:Nat)(σ:St)(H1:Hp):Prop
 | mk(e1:Option V)(_:σ=[some (.ref bg),some (.ref b),some (.str k),some (.int t),some (ev (bh (lo,hi) (sel (ps.take i) k t)).1),some (ev (bh (lo,hi) (sel (ps.take i) k t)).2),e1])(_:H1=H)
theorem K6(T:Tx K mg):Ok P w base 1 T.tY (W5 K):=by
 refine bc og ?_;rintro _ _ _ _ H _ _ _ _ ⟨bg,b,lo,hi,xs,ps,k,t,rfl,hg,hX,hP,hn,q⟩;refine⟨_,(ax (aI 4 og.nd (aq (aa 0) af))
  (ax (aI 5 og.nd (aq (aa 0) af))
  (ax (cI abJ rfl (cC (aa 1)) (b8 6 og.nd) (au (aG (PW.pt (i5 (bT (aq (aa 6) af) (aa 2)) (jT (bT (aq (aa 6) af) (aa 3))))) (ax (aG (PW.pt (bB (dC (aa 4)) (ck (PW.pt (i5 (fR (aq (aq (aa 6) af) af)) (jT (wD (aq (aq (aa 6) af) af) (aa 4)))))))) (au (aI 4 og.nd (aq (aq (aa 6) af) af))) aH)
    (au (aG (PW.pt (bB (dC (aa 5)) (ck (PW.pt (i5 (fR (aq (aq (aa 6) af) af)) (jT (lM (aq (aq (aa 6) af) af) (aa 5)))))))) (au (aI 5 og.nd (aq (aq (aa 6) af) af))) aH))) aH)))
  (au (aA (aS (ae (aa 4) (ae (aa 5) ag)))))))),?_⟩
 have hl:=hP.len;refine aC (λσ H1=>σ=[some (.ref bg),some (.ref b),some (.str k),some (.int t),some (ev lo),none,none]/\H1=H) (λN hN=>?_) ?_
 .rfl';exact ak hg rfl (hN _ _ ⟨rfl,rfl⟩)
 rintro _ yR σ H1 ⟨rfl,rfl⟩;subst yR;refine aC (uy H1 bg b lo hi ps k t 0) (λN hN=>?_) ?_
 .rfl';exact ak hg rfl (hN _ _ ⟨_,rfl,rfl⟩)
 rintro _ yR σ H ⟨e1,rfl,rfl⟩;subst yR;refine aC (uy H bg b lo hi ps k t xs.length) (λN hN=>?_) ?_
 .rfl';refine⟨⟨_,hX⟩,iG (xs:=xs) (uy H bg b lo hi ps k t) ⟨_,rfl,rfl⟩ ?_ ?_ ?_⟩
  .rintro i σ H1 _ ⟨_,_,rfl⟩;exact hX
  .rintro i x σ H1 hx ⟨e1,rfl,rfl⟩;obtain⟨p,hp,tp,sp,rfl,h1,h2⟩:=hP.get hx;have es:=W3 (k:=k) (t:=t) hp;rfl';refine ak (ah.of h1) (v:=.str p.1) rfl ?_;rfl';have skip:kj k t p=false->uy H1 bg b lo hi ps k t (i+1) [some (.ref bg),some (.ref b),some (.str k),some (.int t),some (ev (bh (lo,hi) (sel (ps.take i) k t)).1),some (ev (bh (lo,hi) (sel (ps.take i) k t)).2),some (.ref tp)] H1:=λhz=>⟨_,by rw[es,hz,if_neg abo,aib],rfl⟩
   by_cases hk:p.1=k
   .rw[if_pos (by rw[hk])];refine ak (ah.of h1) (v:=.int p.2.1) rfl ?_;rfl';refine aX (λht=>?_) λht=>?_
    .have hz:kj k t p=true:=by unfold kj;rw[decide_eq_true hk,decide_eq_true ht];rfl
     rw[hz,if_pos rfl] at es;have fin:uy H1 bg b lo hi ps k t (i+1) [some (.ref bg),some (.ref b),some (.str k),some (.int t),some (ev (dR (bh (lo,hi) (sel (ps.take i) k t)).1 p.2.2.1)),some (ev (dS (bh (lo,hi) (sel (ps.take i) k t)).2 p.2.2.2)),some (.ref tp)] H1:=⟨_,by rw[es,W4],rfl⟩
     generalize (bh (lo,hi) (sel (ps.take i) k t)).1=x at fin ⊢;generalize (bh (lo,hi) (sel (ps.take i) k t)).2=y at fin ⊢;obtain⟨pk,pt,pa,pc⟩:=p;dsimp only at fin h1 h2 ⊢;rcases pa with _|pa<;>rcases pc with _|pc<;>rcases x with _|x<;>rcases y with _|y
     all_goals repeat' first
      | exact fin
      | refine ak (ah.of h2) rfl ?_
      | refine ak (ah.of h1) (v:=.ref sp) rfl ?_
      | (walk_at "p")
      | (refine aX (λhc=>?_) λhc=>?_)
     all_goals (simp only[dR,dS] at fin;repeat' split at fin)
     all_goals first|exact fin|(exfalso;lia)
    .refine skip ?_;unfold kj;rw[decide_eq_false ht,agW]
   .rw[if_neg hk];refine skip ?_;unfold kj;rw[decide_eq_false hk,afz]
  .rintro σ H1 h;exact hN _ _ h
 rintro _ yR σ H1 ⟨e1,rfl,rfl⟩;subst yR;rw[hl,ab5];rfl';exact⟨aW,λp hp=>q _ _ (ao hp) ⟨p,rfl,aw⟩⟩
inductive W6(K:aa0)(B:abd)(vs:List V)(H:Hp)(Q:VK)(aP:XK):Prop
 | mk(x p:abd)(e t u d m i:Int)(tb:Tb)(_:vs=[.ref x,.int i])(_:bL B H x e t u d m p tb)(_:(tb.map (·.1)).Nodup)(_:tb.length<64)(_:(∀ r∈tb,0<=r.1.2))(_:∀ l ys H',aj H H'->H l=none->H' l=some (.lst ys)->az (cT H') ys (aK tb i)->Q (.ref l) H')
theorem K7(T:Tx K mg):Ok P w base 2 T.tK (W6 K T.aO):=by
 refine bc JW ?_;rintro _ _ _ s H _ Q _ hr ⟨x,p,e,t,u,d,m,i,tb,rfl,hb,fu,fi,h0,q⟩;refine⟨_,(au (aA (vH (g:=iA K 3 (cB (bX 0) (cB (bX 1) (cB (bX 2) gR)))) (j7.mk (own:=["teller","turn","word"]) (fr:=[1]) (ys:=["eye"]) rfl (by decide +kernel) rfl (by decide +kernel) rfl (.cons rfl .nil) (.cons rfl rfl rfl rfl .nil) rfl) rfl (cC (eK (aa 0) T.bA T.KI (KY T) (hr.mono (by decide)) T.lS.b .nil bb)) (λC s2 H2 ex pn=>jW (n:=3) rfl (dw (gq (i:=0) (show (["teller","turn","word","eye"]:List Str).Nodup by decide) rfl (.inl (abx rfl)) (.inr (abx rfl))) (dw (gq (i:=1) (show (["teller","turn","word","eye"]:List Str).Nodup by decide) rfl (.inl (abx rfl)) (.inr (abx rfl))) (dw (gq (i:=2) (show (["teller","turn","word","eye"]:List Str).Nodup by decide) rfl (.inl (abx rfl)) (.inr (abx rfl))) jV)))) (λC s2 H2 ex pn=>⟨(jc (bT (aa 0) (aa 3))),(aS (ae (aa 1) (ae (aa 2) ag)))⟩)))),?_⟩;obtain⟨⟨dx,hx⟩,uz⟩:=id hb;rfl';refine⟨_,_,hx,rfl,x,p,e,t,u,d,m,tb,rfl,hb,fu,fi,λl xs H1 s1 _ hl hT=>?_⟩;have tl:=hT.len;rw[nN] at tl;refine⟨l,rfl,⟨_,ai.of hl⟩,HV (row:=rowOf H1) (abb (by lia:xs.length<=64) (by decide)) (wa (R:=λ_ x (r:P2 × S2)=>ki H1 x r) (R':=cT) (p:=λr=>decide (r.1.1=i)) (f:=λr=>(r.1.2.toNat,r.2)) (λ_ _ _ _ _ h=>h) (λ_ _ _ _ s' h=>h.same s') hT (bs:=[]) trivial (λH' s'=>HZ hl hT s') (λx r _ H2 s2 h1 Q h=>?_) (λx r dE hp H2 s2 h1 Q h=>?_) λH2 zs s2 hz=>?_)⟩
 .obtain⟨ta,w,rfl,ha,hw⟩:=h1;unfold mD;dsimp only;rw[nR ha];rfl';exact An (Q:=λk=>Q k H2) h
 .obtain⟨ta,w,rfl,ha,wp,rfl,hw⟩:=h1;unfold lC;dsimp only;rw[nR ha];rfl';have c9:=h0 r (rX dE);refine⟨aW,λt1 jI=>h _ _ (ao jI) ⟨t1,wp,rfl,?_,(ao jI) _ _ (s2 _ _ hw)⟩⟩;rw[aw];show some (HO.tup [.int r.1.2,.ref wp])=some (.tup [.int ((r.1.2.toNat:Nat):Int),.ref wp]);rw[adb c9]
 .rw[abr] at hz;intro l2 ba;exact q l2 zs _ (s1.trans (s2.trans (ao ba))) ((s1.trans s2).free ba) aw (hz.imp λ_ _ r=>r.same (ao ba))
inductive W7(K:aa0)(B:abd)(vs:List V)(H:Hp)(Q:VK)(aP:XK):Prop
 | mk(x p o:abd)(e t u d m:Int)(tb:Tb)(es:List Int)(_:vs=[.ref x,.ref o])(_:bL B H x e t u d m p tb)(_:(tb.map (·.1)).Nodup)(_:tb.length<64)(_:(∀ r∈tb,0<=r.1.2))(_:ai K H o (es.map V.int))(_:es.length<=100)(_:∀ l ys H',aj H H'->H' l=some (.lst ys)->az (cT H') ys (((mz tb).filter λr=>!es.contains r.1.1).map λr=>(r.1.2.toNat,r.2))->Q (.ref l) H')
theorem W8(T:Tx K mg):Ok P w base 2 T.tL (W7 K T.aO):=by
 refine bc JX ?_;rintro _ _ _ s H _ Q _ hr ⟨x,p,o,e,t,u,d,m,tb,es,rfl,hb,fu,fi,h0,ho,sm,q⟩;refine⟨_,(au (aA (vH (g:=iA K 3 (cB (bX 0) (cB (bX 1) (cB (bX 2) gR)))) (j7.mk (own:=["teller","turn","word"]) (fr:=[1]) (ys:=["some"]) rfl (by decide +kernel) rfl (by decide +kernel) rfl (.cons rfl .nil) (.cons rfl rfl rfl rfl .nil) rfl) rfl (cC (eK (aa 0) T.bA T.KI (KY T) (hr.mono (by decide)) T.lS.b .nil bb)) (λC s2 H2 ex pn=>jW (n:=3) rfl (dw (gq (i:=0) (show (["teller","turn","word","some"]:List Str).Nodup by decide) rfl (.inl (abx rfl)) (.inr (abx rfl))) (dw (gq (i:=1) (show (["teller","turn","word","some"]:List Str).Nodup by decide) rfl (.inl (abx rfl)) (.inr (abx rfl))) (dw (gq (i:=2) (show (["teller","turn","word","some"]:List Str).Nodup by decide) rfl (.inl (abx rfl)) (.inr (abx rfl))) jV)))) (λC s2 H2 ex pn=>⟨(jc (kO (Qp (K:=K) rfl) (aa 0) (aa 3) (by with_unfolding_all rfl))),(aS (ae (aa 1) (ae (aa 2) ag)))⟩)))),?_⟩;obtain⟨⟨dx,hx⟩,uz⟩:=id hb;rfl';refine⟨_,_,hx,rfl,x,p,e,t,u,d,m,tb,rfl,hb,fu,fi,λl xs H1 s1 _ hl hT=>?_⟩;have tl:=hT.len;rw[nN] at tl;refine⟨l,rfl,⟨_,ai.of hl⟩,HV (row:=rowOf H1) (abb (by lia:xs.length<=64) (by decide)) (wa (R:=λ_ x (r:P2 × S2)=>ki H1 x r) (R':=cT) (p:=λr=>!es.contains r.1.1) (f:=λr=>(r.1.2.toNat,r.2)) (λ_ _ _ _ _ h=>h) (λ_ _ _ _ s' h=>h.same s') hT (bs:=[]) trivial (λH' s'=>HZ hl hT s') (λx r _ H2 s2 h1 Q h=>?_) (λx r dE hp H2 s2 h1 Q h=>?_) λH2 zs s2 hz=>?_)⟩
 .obtain⟨ta,w,rfl,ha,hw⟩:=h1;unfold mD;dsimp only;rw[nR ha];rfl';refine⟨o,_,rfl,.inl ((s1.trans s2).seq ho),rfl,HY es,_,rfl,?_⟩;rw[zY,if_pos rfl];exact h
 .obtain⟨ta,w,rfl,ha,wp,rfl,hw⟩:=h1;unfold lC;dsimp only;rw[nR ha];rfl';have c9:=h0 r (rX dE);refine⟨aW,λt1 jI=>h _ _ (ao jI) ⟨t1,wp,rfl,?_,(ao jI) _ _ (s2 _ _ hw)⟩⟩;rw[aw];show some (HO.tup [.int r.1.2,.ref wp])=some (.tup [.int ((r.1.2.toNat:Nat):Int),.ref wp]);rw[adb c9]
 .rw[abr] at hz;intro l2 ba;exact q l2 zs _ (s1.trans (s2.trans (ao ba))) aw (hz.imp λ_ _ r=>r.same (ao ba))
inductive qB(H:Hp)(v:V)(r:Gp):Prop
 | mk(g k:abd)(zs:List V)(_:v = .ref g)(_:H g=some (.tup [ev r.1,.ref k]))(_:H k=some (.lst zs))(_:az (cT H) zs r.2)
theorem qB.same(h:qB H v r)(s:aj H H'):qB H' v r:=let ⟨g,k,zs,e,a,b,c⟩:=h;⟨g,k,zs,e,s _ _ a,s _ _ b,c.imp λ_ _ x=>x.same s⟩
inductive W9(K:aa0)(B:abd)(vs:List V)(H:Hp)(Q:VK)(aP:XK):Prop
 | mk(x p:abd)(e t u d m:Int)(tb:Tb)(_:vs=[.ref x])(_:bL B H x e t u d m p tb)(_:(tb.map (·.1)).Nodup)(_:tb.length<64)(_:(∀ r∈tb,0<=r.1.2))(_:0<=e)(_:e<=7)(_:∀ l ys H',aj H H'->H l=none->H' l=some (.lst ys)->az (qB H') ys ((sx e.toNat tb).map λr=>(some r.1,r.2))->Q (.ref l) H')
theorem Xa(T:Tx K mg):Ok P w base 3 T.tM (W9 K T.aO):=by
 refine bc JY ?_;rintro _ _ _ s _ _ Q _ hr ⟨x,p,e,t,u,d,m,tb,rfl,hb,fu,fi,dE,h0,h7,q⟩;refine⟨_,(au (aA (cQ (bU.mk (fr:=[0]) (ys:=["board"]) rfl (by decide +kernel) rfl (by decide +kernel) rfl rfl (.cons rfl .nil) (.cons rfl rfl rfl rfl .nil) (by decide) rfl) rfl (gT rfl T.fw (ae (dD rfl (aa 0) rfl) ag)) (λC s2 H2 ex pn=>⟨dg,(aS (ae (aa 0) (ae (aD (K7 T) hr (ae (aa 1) (ae (aa 0) ag))) ag)))⟩)))),?_⟩;obtain⟨⟨dx,hx⟩,hp⟩:=id hb;rfl';refine⟨_,_,_,hx,T.bA,T.qv,_,rfl,?_⟩;refine⟨e,rfl,by lia,by lia,cJ k8 (by rw[aa2,abw];exact abb (by lia:_<=12) (by decide)) (ia (R:=λ_ x (k:Nat)=>x=V.int ((0:Int)+k)) (R':=qB) (f:=λ(k:Nat)=>((some (k:Int),aK tb (k:Int)):Gp)) (λ_ _ _ _ _ h=>h) (λ_ _ _ _ s' h=>h.same s') (az.i0 _) (bs:=[]) trivial (λ_ _=>trivial) (λx k _ H2 s2 r Q h=>?_) (λx k _ H2 s2 r Q h=>?_) λH2 zs s2 hz=>?_)⟩
 .rfl';exact h
 .subst r;rfl';rw[afy];refine⟨x,p,e,t,u,d,m,(k:Int),tb,rfl,hb.same s2,fu,fi,dE,λl ys H3 s3 _ hl hM=>⟨aW,λg hg=>?_⟩⟩;have u1:=ao (o:=.tup [.int (k:Int),.ref l]) hg;exact h _ _ (s3.trans u1) ⟨g,l,ys,rfl,aw,u1 _ _ hl,hM.imp λ_ _ x=>x.same u1⟩
 .intro l hl;rw[abr] at hz;refine q l zs _ (s2.trans (ao hl)) (s2.free hl) aw ?_;unfold sx;rw[abS];exact hz.imp λ_ _ r=>r.same (ao hl)
inductive Xb(K:aa0)(vs:List V)(H:Hp)(Q:VK)(aP:XK):Prop
 | mk(v u:V)(s:S2)(p:P2)(_:vs=[v,u])(_:aM H v s.1 s.2)(_:dn H u p)(_:∀ r H',aj H H'->H r=none->H' r=some (.tup [ev (fo s p).1,ev (fo s p).2])->Q (.ref r) H')
theorem K8(T:Tx K mg):Ok P w base 1 T.tu (Xb K):=by
 refine bc wL ?_;rintro _ _ _ _ _ _ _ _ hr ⟨v,u,⟨lo,hi⟩,⟨p1,p2⟩,rfl,⟨a,rfl,ha⟩,⟨b,rfl,hb⟩,q⟩;refine⟨_,(ax (aI 2 wL.nd (l6 (dC (aq (aa 0) af)) b5 (aN bZ (aq (aa 0) af) (aq (aa 1) af))))
  (ax (aI 3 wL.nd (l6 (dC (aq (aa 0) af)) b5 (aN bZ (aq (aa 0) af) (aq (aa 1) af))))
  (au (aA (aS (ae (aa 2) (ae (aa 3) ag))))))),?_⟩
 rcases lo with _|lo<;>rcases hi with _|hi
 all_goals simp only[pF,pG] at ha
 all_goals
  rfl'
  repeat' first
  | refine ak (ah.of ha) rfl ?_
  | refine ak (ah.of hb) rfl ?_
  | (walk_at "p")
 all_goals exact⟨aW,λr hr=>q r _ (ao hr) hr aw⟩
theorem Xc(h:az (λv (s:S2)=>aM H v s.1 s.2) zs ss)(h0:0<ss.length):∃ v,dm zs (-1)=some v/\aM H v (cg ss (ss.length-1)).1 (cg ss (ss.length-1)).2:=by
 have hl:=h.len;obtain⟨v,hv,r⟩:=h.at (aa3 (l:=ss) (i:=ss.length-1) (by lia));have e:zs=zs.take (ss.length-1)++[v]:=by have:=adn (ss.length-1) zs;rw[ab8 (by lia),aex (by lia)] at this;rw[aa3 (by lia)] at hv;cases hv;exact this.symm
 refine⟨v,by rw[e];exact yx _ _,?_⟩;unfold cg;rw[aa1,aa3 (by lia)];exact r
inductive Xd(K:aa0)(vs:List V)(H:Hp)(Q:VK)(aP:XK):Prop
 | mk(a b:abd)(xs ys:List V)(ws:List W2)(ps:List P2)(_:vs=[.ref a,.ref b])(_:ai K H a xs)(_:az (gA H) xs ws)(_:ai K H b ys)(_:gx H ys ps)(_:ws.length<=ps.length+1)(_:ws.length<=1000)(_:(∀ t,t<ws.length->bq (ft ws) (aF ps) t=none->∀ H',aj H H'->Q .non H'))(_:((∀ t,t<ws.length->bq (ft ws) (aF ps) t≠none)->∀ l zs ss H',aj H H'->H l=none->H' l=some (.lst zs)->az (r6 H') zs ss->ss.length=ws.length->(∀ t,t<ws.length->bq (ft ws) (aF ps) t=some (cg ss t))->Q (.ref l) H'))
inductive K9(H:Hp)(a b l:abd)(ws:List W2)(ps:List P2)(i:Nat)(σ:St)(H1:Hp):Prop
 | mk(zs:List V)(ss:List S2)(e1 e2 e3:Option V)(_:σ=[some (.ref a),some (.ref b),some (.ref l),e1,e2,e3])(_:aj H H1)(_:H1 l=some (.lst zs))(_:az (r6 H1) zs ss)(_:ss.length=i)(_:∀ t,t<i->bq (ft ws) (aF ps) t=some (cg ss t))
theorem La(T:Tx K mg):Ok P w base 3 T.tx (Xd K):=by
 refine bc n0 ?_;rintro _ _ _ _ H _ _ _ hr ⟨a,b,xs,ys,ws,ps,rfl,hS,hW,hT,hP,hl,hn,q0,q⟩;refine⟨_,(ax (aI 2 n0.nd (cO ag))
  (ax (cI abJ rfl (ze rfl T.wU (ae (aa 0) ag)) (jW rfl (dw (b8 3 n0.nd) (dw (b8 4 n0.nd) jV))) (ax (aI 5 n0.nd (aa 4))
    (ax (aG (PW.pt (i5 (wD (aa 3) af) (jT (fR (aa 4))))) (au (aI 5 n0.nd (aD (Cs T) hr (ae (aa 4) (ae (aD (K8 T) hr (ae (aq (aa 2) (gV ij af)) (ae (aq (aa 1) (aN dB (aa 3) af)) ag))) ag))))) aH)
    (ax (aG (dC (aa 5)) (au (aA b5)) aH)
    (au (d9 (iE abO ab2 ab3 kT (aa 2) (ae (aa 5) ag))))))))
  (au (aA (aa 2))))),?_⟩
 have l1:=hW.len;have l2:=hP.len;rfl';refine⟨by decide,λl eR=>?_⟩;have s1:=ao (o:=.lst []) eR;have e1:upd H l (.lst []) l=some (.lst []):=aw;generalize upd H l (.lst [])=H1 at s1 e1 ⊢;rfl';refine⟨⟨_,s1.seq hS⟩,zj (xs:=xs) (K9 H a b l ws ps) ⟨[],[],_,_,_,rfl,s1,e1,trivial,rfl,λt h=>absurd h (acQ _)⟩ ?_ ?_ ?_⟩
 .rintro i σ H2 _ ⟨_,_,_,_,_,_,s2,_⟩;exact s2.seq hS
 .rintro i x σ H2 p hx ⟨zs,ss,d1,d2,d3,rfl,s2,ba,hz,hlen,ix⟩ hp;obtain⟨w,hw,r⟩:=hW.get hx;have sp:=ao (o:=.tup [.int i,x]) hp;refine mw (ah.of aw) ?_;generalize upd H2 p (.tup [.int i,x])=H3 at sp ⊢;have s3:=s2.trans sp;have r3:=r.same s3;have dH:=sp _ _ ba;have dI:=hz.imp λ_ _ r=>aM.same r sp;have zl:=hz.len;have ew:ft ws i=w:=by unfold ft;rw[aa1,hw];rfl
  have hi:=(aa7.mp hx).1;have add:∀ (v:V) (k:S2) (H4:Hp) (d1 d2 d3:Option V),aj H3 H4->aM H4 v k.1 k.2->bq (ft ws) (aF ps) i=some k->K9 H a b l ws ps (i+1) [some (.ref a),some (.ref b),some (.ref l),d1,d2,d3] (upd H4 l (.lst (zs++[v]))):=λv k H4 d1 d2 d3 s4 hv ek=>by
   have m9:=s4 _ _ dH;refine⟨zs++[v],ss++[k],d1,d2,d3,rfl,j6 eR (s3.trans s4),aw,?_,by rw[abf,abv,hlen],λt ht=>?_⟩
   .exact ((dI.imp λ_ _ r=>aM.same r s4).snoc hv).imp λ_ _ r=>aM.put r m9
   .unfold cg;rw[aa1];by_cases e:t=i
    .subst e;rw[ek,acg (by lia),hlen,agK];rfl
    .rw[ix t (by lia),ab0 (by lia)];unfold cg;rw[aa1]
  cases w with
  | none =>
   obtain rfl:x = .non:=r3;have e0:bq (ft ws) (aF ps) i=none:=by
    cases i with
    | zero=>exact ew
    | succ i=>unfold bq;rw[ew]
   rfl';have fin:=q0 i (by lia) e0 _ s3;exact aX (λ_=>fin) λ_=>fin
  | some k =>
   obtain⟨rp,rfl,hrp⟩:=id (show aM H3 x k.1 k.2 from r3);cases i with
   | zero =>
    rfl';exact⟨.inl ⟨rfl,_,ai.of dH⟩,_,dH,abV (by lia:zs.length<=1000) (by decide),add _ k _ _ _ _ (aj.refl _) r3 ew⟩
   | succ i =>
    rfl';rw[if_pos (by lia)];obtain⟨v,hv,rv⟩:=Xc (ss:=ss) dI (by lia);obtain⟨u,hu,ru⟩:=hP.at (aa3 (l:=ps) (i:=i) (by lia));have ep:ps[i]'(by lia)=aF ps i:=by unfold aF;rw[aa1,aa3 (by lia)];rfl
    rw[ep] at ru;rw[show (((i+1:Nat):Int)-1)=((i:Nat):Int) by lia];refine bJ (ai.of dH) hv (bJ (s3.seq hT) (eL hu) ?_);rw[hlen,Nat.add_sub_cancel] at rv;refine⟨v,u,cg ss i,aF ps i,rfl,rv,ru.same s3,λr H4 s4 _ uA=>?_⟩;refine⟨_,_,k.1,k.2,_,_,rfl,⟨rp,rfl,s4 _ _ hrp⟩,⟨r,rfl,uA⟩,λy H5 s5 hy=>?_⟩;have ek:=ix i (by lia);have en:bq (ft ws) (aF ps) (i+1)=iN k (fo (cg ss i) (aF ps i)):=by
     show (match ft ws (i+1),bq (ft ws) (aF ps) i with
      | some b,some k=>iN b (fo k (aF ps i))
      | _,_=>none)=_
     rw[ew,ek]
    have oy:=(s4.trans s5) _ _ dH;unfold iN at en;cases hc:aT (dR k.1 (fo (cg ss i) (aF ps i)).1) (dS k.2 (fo (cg ss i) (aF ps i)).2) with
    | true =>
     rw[if_pos hc] at en;obtain rfl:=hy.1 hc;rfl';exact q0 (i+1) (by lia) en _ (s3.trans (s4.trans s5))
    | false =>
     rw[if_neg (by rw[hc];simp)] at en;have w9:=hy.2 hc;obtain⟨yp,rfl,hyp⟩:=id w9;rfl';exact⟨.inl ⟨rfl,_,ai.of oy⟩,_,oy,abV (by lia:zs.length<=1000) (by decide),add _ _ _ _ _ _ (s4.trans s5) w9 en⟩
 .rintro σ H2 ⟨zs,ss,d1,d2,d3,rfl,s2,ba,hz,hlen,ix⟩;rfl';rw[l1] at hlen ix;exact q (λt ht=>by rw[ix t ht];simp) l zs ss H2 s2 eR ba hz hlen ix
inductive Xe(K:aa0)(vs:List V)(H:Hp)(Q:VK)(aP:XK):Prop
 | mk(a:abd)(xs:List V)(ms:List Mk)(t:Nat)(_:vs=[.ref a,.int t])(_:ai K H a xs)(_:az (cT H) xs ms)(_:ms.length<=1000)(_:∀ l ys H',aj H H'->H' l=some (.lst ys)->lp H' ys (atT ms t)->Q (.ref l) H')
theorem Xf(T:Tx K mg):Ok P w base 1 T.tD (Xe K):=by
 refine bc JT ?_;rintro _ _ _ s H _ Q _ _ ⟨a,xs,ms,t,rfl,hS,hM,hn,q⟩;refine⟨_,(au (aA (cQ (bU.mk (fr:=[1]) (ys:=["turn"]) rfl (by decide +kernel) rfl (by decide +kernel) rfl rfl (.cons rfl .nil) (.cons rfl rfl rfl rfl .nil) (by decide) rfl) rfl (cC (aa 0)) (λC s2 H2 ex pn=>⟨(jc (bT (b7 (K:=K) (aa 0) af) (aa 1))),(b7 (K:=K) (aa 0) af)⟩)))),?_⟩;have hl:=hM.len;rfl';refine⟨⟨_,hS⟩,cJ gv (abb (by lia:xs.length<=1000) (by decide)) (nO (R:=cT H) (R':=λv (s:S2)=>aM H v s.1 s.2) (p:=λm=>decide (m.1=t)) (f:=λm=>m.2) hS hM (λx m r Q h=>?_) (λx m hp r Q h=>?_) λzs hz=>?_)⟩
 .obtain⟨tp,sp,rfl,h1,h2⟩:=r;rfl';refine ak (ah.of h1) rfl ?_;rfl';refine An (Q:=λk=>Q k H) ?_;rw[show decide ((m.1:Int)=(t:Int))=decide (m.1=t) from decide_eq_decide.mpr (by lia)];exact h
 .obtain⟨tp,sp,rfl,h1,h2⟩:=r;rfl';exact ak (ah.of h1) rfl (h _ ⟨sp,rfl,h2⟩)
 .rw[abr];intro l hl;exact q l zs _ (ao hl) aw (lr.mpr (hz.imp λ_ _ r=>r.same (ao hl)))
theorem az.rev:∀ {xs:List V} {as:List α},az R xs as->az R xs.reverse as.reverse
 | [],[],_=>trivial
 | x::xs,a::as,h=>by rw[aeC,aeC];exact (az.rev h.2).app ⟨h.1,trivial⟩
 | [],_::_,h=>h.elim
 | _::_,[],h=>h.elim
inductive Xg(K:aa0)(vs:List V)(H:Hp)(Q:VK)(aP:XK):Prop
 | mk(a b:abd)(xs ys:List V)(ps:List P2)(ms:List Mk)(_:vs=[.ref a,.ref b])(_:ai K H a xs)(_:gx H xs ps)(_:ai K H b ys)(_:az (cT H) ys ms)(_:eW ps)(_:ps.length<=900)(_:ms.length<=1000)(_:(∀ t,t<=ps.length->bq (cG ms) (aF ps) t=none->∀ H',aj H H'->Q .non H'))(_:((∀ t,t<=ps.length->bq (cG ms) (aF ps) t≠none)->∀ l zs ss H',aj H H'->H l=none->H' l=some (.lst zs)->az (r6 H') zs ss->ss.length=ps.length+1->(∀ t,t<=ps.length->gC ps.length (cG ms) (aF ps) t=some (cg ss t))->Q (.ref l) H'))
theorem Xi(T:Tx K mg):Ok P w base 4 T.tE (Xg K):=by
 refine bc wM ?_;rintro _ _ _ s H _ Q _ hr ⟨a,b,xs,ys,ps,ms,rfl,hS,hP,hT,hM,ay,hn,hm,q0,q⟩;refine⟨_,(ax (aI 2 wM.nd (aD (La T) hr (ae (cQ (bU.mk (fr:=[1]) (ys:=["marks"]) rfl (by decide +kernel) rfl (by decide +kernel) rfl rfl (.cons rfl .nil) (.cons rfl rfl rfl rfl .nil) (by decide) rfl) rfl (gT rfl T.fw (ae (aN bZ (aV cD (by rfl) T.cA cp (ae (aa 0) ag)) af) ag)) (λC s2 H2 ex pn=>⟨dg,(aD (Cw T) hr (ae (aD (Xf T) hr (ae (aa 1) (ae (aa 0) ag))) ag))⟩)) (ae (aa 0) ag))))
  (ax (aG (dC (aa 2)) (au (aA b5)) aH)
  (ax (rH (i:=3) (bU.mk (fr:=[]) (ys:=[]) rfl (by decide +kernel) rfl (by decide +kernel) rfl rfl .nil .nil (by decide) rfl) rfl wM.nd rfl rfl (QG rfl T.VC (ae (aa 0) ag)) (λC s2 H2 ex pn=>⟨dg,(aS (ae (gV ij (b7 (K:=K) (aa 0) af)) (ae (gV ij (b7 (K:=K) (aa 0) af)) ag)))⟩))
  (au (aA (HX (aD (La T) hr (ae (HX (aa 2) (gV ij af)) (ae (aa 3) ag))) (gV ij af))))))),?_⟩
 have l1:=hP.len;rfl';refine⟨_,dO hS,by lia,by lia,?_⟩;rw[l1,show ((ps.length:Int)+1).toNat=ps.length+1 by lia];refine cJ k8 (by rw[aa2,abw];exact abb (by lia:_<=901) (by decide)) (ia (R:=λ_ x (k:Nat)=>x=V.int ((0:Int)+k)) (R':=gA) (f:=λ(k:Nat)=>cG ms k) (λ_ _ _ _ _ h=>h) (λ_ _ _ _ s' h=>h.same s') (az.i0 _) (bs:=[]) trivial (λ_ _=>trivial) (λx k _ H2 s2 r Q h=>?_) (λx k _ H2 s2 r Q h=>?_) λH2 zs s2 hz=>?_)
 .rfl';exact h
 .subst r;rfl';rw[show (0:Int)+(k:Nat)=((k:Nat):Int) by lia];refine⟨b,ys,ms,k,rfl,s2.seq hT,hM.imp λ_ _ r=>r.same s2,hm,λl zs H3 s3 hl hs=>?_⟩;refine⟨l,zs,_,rfl,ai.of hl,hs,?_,λv H4 s4 hv=>h H4 v (s3.trans s4) hv⟩;rw[hs.len];unfold atT;rw[aa2];exact abb (abR _ _) hm
 rw[abr] at hz;intro c hc;have s3:=s2.trans (ao (o:=.lst zs) hc);have c3:upd H2 c (.lst zs) c=some (.lst zs):=aw;have dI:=hz.imp λ_ _ r=>r.same (ao (o:=.lst zs) hc);generalize upd H2 c (.lst zs)=H3 at s3 c3 dI ⊢;clear hz hc s2;have wl:((abG (ps.length+1)).map λ(k:Nat)=>cG ms k).length=ps.length+1:=by rw[aa2,abw]
 have we:∀ t,t<=ps.length->ft ((abG (ps.length+1)).map λ(k:Nat)=>cG ms k) t=cG ms t:=λt ht=>by unfold ft;rw[aa1,abh,acA (by lia)];rfl
 have ne:∀ t,t<=ps.length->bq (ft ((abG (ps.length+1)).map λ(k:Nat)=>cG ms k)) (aF ps) t=bq (cG ms) (aF ps) t:=λt ht=>zW t (λk hk=>we k (by lia)) λk _=>rfl;refine⟨c,a,zs,xs,_,ps,rfl,ai.of c3,dI,s3.seq hS,hP.same s3,by rw[wl];exact aba _,by rw[wl];lia,λt ht en H4 s4=>?_,λbV l nc ss H4 s4 _ hl Xj kU ix=>?_⟩
 .rw[wl] at ht;rw[ne t (by lia)] at en;rfl';exact q0 t (by lia) en _ (s3.trans s4)
 rw[wl] at bV ix kU;have Lb:∀ t,t<=ps.length->bq (cG ms) (aF ps) t≠none:=λt ht z=>bV t (by lia) (by rw[ne t ht];exact z);have Xk:∀ t,t<ps.length+1->bq (cG ms) (aF ps) t=some (cg ss t):=λt ht=>by rw[<- ne t (by lia)];exact ix t ht
 have TB:=HS ay Lb;have S4:=s3.trans s4;rfl';refine⟨xs,S4.seq hS,SV (abb (by lia:_<=900) (by decide)) (ia (R:=dn) (R':=dn) (f:=λp=>(-p.2,-p.1)) (λ_ _ _ _ s' h=>h.same s') (λ_ _ _ _ s' h=>h.same s') (az.rev (hP.same S4)) (bs:=[]) trivial (λH' s'=>(S4.trans s').seq hS) (λx k _ H2 s2 r Q h=>?_) (λx k _ H2 s2 r Q h=>?_) λH5 bs s5 hb=>?_)⟩
 .rfl';exact h
 .obtain⟨t,rfl,ht⟩:=r;rfl';refine ak (ah.of ht) rfl ?_;rfl';refine ak (ah.of ht) rfl ?_;rfl';exact⟨aW,λp hp=>h _ _ (ao hp) ⟨p,rfl,aw⟩⟩
 rw[abr] at hb;intro d hd;have s6:=s5.trans (ao (o:=.lst bs) hd);have d6:upd H5 d (.lst bs) d=some (.lst bs):=aw;have Lc:gx (upd H5 d (.lst bs)) bs (lB ps):=hb.imp λ_ _ r=>r.same (ao (o:=.lst bs) hd);generalize upd H5 d (.lst bs)=H6 at s6 d6 Lc ⊢;clear hb hd s5;refine⟨nc,ai.of (s6 _ _ hl),λp hp=>?_⟩;have s7:=s6.trans (ao (o:=.lst nc.reverse) hp);have p7:upd H6 p (.lst nc.reverse) p=some (.lst nc.reverse):=aw;have d7:=(ao (o:=.lst nc.reverse) hp) _ _ d6;have Ld:gx (upd H6 p (.lst nc.reverse)) bs (lB ps):=Lc.same (ao (o:=.lst nc.reverse) hp);generalize upd H6 p (.lst nc.reverse)=H7 at s7 p7 d7 Ld ⊢;have rl:(ss.reverse.map some).length=ps.length+1:=by rw[aa2,acN,kU]
 have bl:(lB ps).length=ps.length:=by unfold lB;rw[aa2,acN]
 have be:∀ t,t<=ps.length->bq (ft (ss.reverse.map some)) (aF (lB ps)) t=gC ps.length (cG ms) (aF ps) (ps.length-t):=λt ht=>back_eq kU Xk ht;refine⟨p,d,_,bs,ss.reverse.map some,lB ps,rfl,ai.of p7,az.Hy (az.rev (Xj.imp λ_ _ r=>aM.same r s7)),ai.of d7,Ld,by rw[rl,bl];exact aba _,by rw[rl];lia,λt ht en H8 s8=>?_,λ_ l3 Xl Xm H8 s8 fl3 dH Xn CA Le=>?_⟩
 .rw[rl] at ht;rw[be t (by lia)] at en;obtain⟨z,ez,_⟩:=TB.ok (ps.length-t) (by lia);rw[en] at ez;cases ez
 rw[rl] at CA Le;have S8:=S4.trans (s7.trans s8);refine⟨l3,rfl,Xl,ai.of dH,λp3 uB=>q Lb p3 _ Xm.reverse _ (S8.trans (ao uB)) (S8.free uB) aw (az.rev (Xn.imp λ_ _ r=>aM.same r (ao uB))) (by rw[acN,CA]) λt ht=>?_⟩;rw[SK CA ht,<- Le (ps.length-t) (by lia),be _ (by lia),show ps.length-(ps.length-t)=t by lia]
inductive Xo(K:aa0)(vs:List V)(H:Hp)(Q:VK)(aP:XK):Prop
 | mk(a b:abd)(xs ys:List V)(ps:List P2)(ms:List Mk)(_:vs=[.ref a,.ref b])(_:ai K H a xs)(_:gx H xs ps)(_:ai K H b ys)(_:az (cT H) ys ms)(_:eW ps)(_:ps.length<=900)(_:ms.length<=1000)(_:(∀ m∈ms,m.1<=ps.length))(_:((¬ ∃ c,iP ps c/\meets ms c)->∀ H',aj H H'->Q .non H'))(_:(∀ l cs H',aj H H'->H l=none->H' l=some (.lst (cs.map V.int))->cs.length=ps.length+1->iP ps (bP cs)->meets ms (bP cs)->Q (.ref l) H'))
inductive Xq(H:Hp)(a b x l c:abd)(zs:List V)(ss:List S2)(ps:List P2)(ms:List Mk)(i:Nat)(σ:St)(H1:Hp):Prop
 | mk(cs:List Int)(e1 e2:Option V)(_:σ=[some (.ref a),some (.ref b),some (.ref x),some (.ref l),e1,e2])(_:aj H H1)(_:H1 l=some (.lst (cs.map V.int)))(_:H1 c=some (.lst (zs.drop 1)))(_:az (r6 H1) zs ss)(_:cs.length=i+1)(_:(∀ t,t<=i->dA (gC ps.length (cG ms) (aF ps) t) (bP cs t)))(_:∀ k,k<i->(aF ps k).1<=bP cs (k+1)-bP cs k/\bP cs (k+1)-bP cs k<=(aF ps k).2)
theorem xa(h:t<cs.length):bP (cs++[n]) t=bP cs t:=by unfold bP;rw[aa1,aa1,ab0 h]
theorem Lf(h:cs.length=t):bP (cs++[n]) t=n:=by unfold bP;rw[aa1,acg (by lia),h,agK];rfl
theorem Xr{cs:List Int}{i:Nat}(h:cs.length=i+1):dm (cs.map V.int) (-1)=some (.int (bP cs i)):=by
 have e:cs=cs.take i++[bP cs i]:=by have:=adn i cs;rw[ab8 (by lia),aex (by lia)] at this;unfold bP;rw[aa1,aa3 (by lia)];exact this.symm
 have e2:cs.map V.int=(cs.take i).map V.int++[V.int (bP cs i)]:=(congrArg (List.map V.int) e).trans (by rw[aco];rfl);rw[e2];exact yx _ _
theorem Lg(h:aT s.1 s.2=false):bF s (lD s):=zL.mpr (SW h)
theorem Lh(h:i<ss.length):ss[i]?=some (cg ss i):=by unfold cg;rw[aa1,aa3 h];rfl
theorem CB(h:i<ps.length):ps[i]?=some (aF ps i):=by unfold aF;rw[aa1,aa3 h];rfl
theorem Xs(T:Tx K mg):Ok P w base 5 T.tF (Xo K):=by
 refine bc qq ?_;rintro _ _ _ s H _ _ _ hr ⟨a,b,xs,ys,ps,ms,rfl,hS,hP,hT,hM,ay,hn,hm,ht,q0,q⟩;refine⟨_,(ax (aI 2 qq.nd (aD (Xi T) hr (ae (aa 0) (ae (aa 1) ag))))
  (ax (aG (dC (aa 2)) (au (aA b5)) aH)
  (ax (aI 3 qq.nd (cO (ae (aD (K2 T) hr (ae (aq (aa 2) af) ag)) ag)))
  (ax (cI abJ rfl (Gi rfl T.Kx (ae (aa 0) (ae (EI ES (aa 2) (EF af) EE) ag))) (jW rfl (dw (b8 4 qq.nd) (dw (b8 5 qq.nd) jV))) (au (d9 (iE abO ab2 ab3 kT (aa 3) (ae (aD (K2 T) hr (ae (aD (Cs T) hr (ae (aa 5) (ae (aD (K8 T) hr (ae (aS (ae (aq (aa 3) (gV ij af)) (ae (aq (aa 3) (gV ij af)) ag))) (ae (aa 4) ag))) ag))) ag)) ag)))))
  (au (aA (aa 3))))))),?_⟩
 have l1:=hP.len;rfl';refine⟨a,b,xs,ys,ps,ms,rfl,hS,hP,hT,hM,ay,hn,hm,λt ht en H1 s1=>?_,λbV x zs ss H1 s1 fx hx hz kU ix=>?_⟩
 .rfl';refine q0 ?_ _ s1;rintro ⟨c,hc,iI⟩;exact SH hc iI t ht en
 have TB:=HS ay bV;have zl:=hz.len;have Xt:∀ t,t<=ps.length->aT (cg ss t).1 (cg ss t).2=false:=λt ht=>by obtain⟨s,es,hs⟩:=TB.ok t ht;rw[ix t ht] at es;cases es;exact hs
 rfl';obtain⟨v0,CC,r0⟩:=hz.at (Lh (ss:=ss) (i:=0) (by lia));refine bJ (ai.of hx) (eL (j:=0) CC) ?_;refine⟨v0,cg ss 0,rfl,r0,by decide,λl eR=>?_⟩;have u1:=ao (o:=.lst [.int (lD (cg ss 0))]) eR;have L1:upd H1 l (.lst [.int (lD (cg ss 0))]) l=some (.lst ([lD (cg ss 0)].map V.int)):=aw;have fl:=s1.free eR;generalize upd H1 l (.lst [.int (lD (cg ss 0))])=H2 at u1 L1 ⊢;refine⟨zs,ai.of (u1 _ _ hx),λc hc=>?_⟩;rw[show jZ zs (some 1) none=zs.drop 1 from Q6 zs 1];have u2:=ao (o:=.lst (zs.drop 1)) hc;have c3:upd H2 c (.lst (zs.drop 1)) c=some (.lst (zs.drop 1)):=aw;have lc:l≠c:=λz=>by rw[<- z,L1] at hc;cases hc
 generalize upd H2 c (.lst (zs.drop 1))=H3 at u2 c3 ⊢;have S3:=s1.trans (u1.trans u2);refine⟨⟨_,S3.seq hS⟩,⟨_,ai.of c3⟩,QS (xs:=xs) (ys:=zs.drop 1) (Xq H a b x l c zs ss ps ms) ⟨[lD (cg ss 0)],_,_,rfl,S3,u2 _ _ L1,c3,hz.imp λ_ _ r=>aM.same r (u1.trans u2),rfl,λt ht=>?_,λk hk=>absurd hk (acQ _)⟩ ?_ ?_ ?_⟩
 .obtain rfl:t=0:=by lia
  exact⟨_,ix 0 (by lia),Lg (Xt 0 (by lia))⟩
 .rintro i σ H4 ⟨_,_,_,_,s4,_,c4,_⟩;exact⟨s4.seq hS,ai.of c4⟩
 .rintro i u v σ H4 p hu hv ⟨cs,d1,d2,rfl,s4,L4,c4,oz,bf,bO,cX⟩ hp;have hi:i<ps.length:=by have:=(aa7.mp hu).1;lia
  obtain⟨pt,ept,ru⟩:=hP.get hu;rw[CB hi] at ept;cases ept;rw[List.getElem?_drop,Nat.add_comm 1 i] at hv;obtain⟨sv,esv,rv⟩:=oz.get hv;rw[Lh (by lia)] at esv;cases esv;refine mw (ah.of aw) ?_;have up:=ao (o:=.tup [u,v]) hp;generalize upd H4 p (.tup [u,v])=H5 at up ⊢;have L5:=up _ _ L4;rfl';have lst:=Xr bf;refine⟨.inl ⟨rfl,_,ai.of L5⟩,bJ (ai.of L5) lst (bJ (ai.of L5) lst ⟨aW,λt1 jI=>?_⟩)⟩;have ut:=ao (o:=.tup [.int (bP cs i),.int (bP cs i)]) jI;refine⟨.ref t1,u,(some (bP cs i),some (bP cs i)),aF ps i,rfl,⟨t1,rfl,aw⟩,ru.same (s4.trans (up.trans ut)),λr H6 s6 _ Xu=>?_⟩;obtain⟨m,em,dh⟩:=SM TB hi (bO i (aba _)) (ix (i+1) (by lia));have Xv:=aM.same rv (up.trans (ut.trans s6));refine⟨v,.ref r,_,_,_,_,rfl,Xv,⟨r,rfl,Xu⟩,λy H7 s7 hy=>?_⟩;have cm:=HH em;have Li:aT (dR (cg ss (i+1)).1 (fo (some (bP cs i),some (bP cs i)) (aF ps i)).1) (dS (cg ss (i+1)).2 (fo (some (bP cs i),some (bP cs i)) (aF ps i)).2)=false/\m=(dR (cg ss (i+1)).1 (fo (some (bP cs i),some (bP cs i)) (aF ps i)).1,dS (cg ss (i+1)).2 (fo (some (bP cs i),some (bP cs i)) (aF ps i)).2):=by
   unfold iN at em;split at em
   .cases em
   .rename_i hc;cases em;exact⟨by simpa using hc,rfl⟩
  have w9:=hy.2 Li.1;refine⟨y,m,rfl,by rw[Li.2];exact w9,?_⟩;have S7:=up.trans (ut.trans (s6.trans s7));have L7:=S7 _ _ L4;obtain⟨n1,n2,n3⟩:=dh _ (Lg cm);refine⟨_,L7,by rw[aa2];exact abV (by lia:_<=1000) (by decide),cs++[lD m],_,_,rfl,j6 fl (s4.trans S7),by rw[aw,aco];rfl,by rw[aB (ab4 lc)];exact S7 _ _ c4,oz.imp λ_ _ r=>aM.put (aM.same r S7) L7,by rw[abf,abv];lia,λt ht=>?_,λk hk=>?_⟩
  .by_cases e:t=i+1
   .subst e;rw[Lf bf];exact n1
   .rw[xa (by lia)];exact bO t (by lia)
  .by_cases e:k=i
   .subst e;rw[Lf bf,xa (by lia)];exact⟨n2,n3⟩
   .rw[xa (by lia),xa (by lia)];exact cX k (by lia)
 .rintro σ H4 ⟨cs,d1,d2,rfl,s4,L4,c4,oz,bf,bO,cX⟩;rfl';rw[agd,show min xs.length (zs.length-1)=ps.length by lia] at bf bO cX;exact q l cs H4 s4 fl L4 bf cX (meets_of TB ht bO)
def d8(H:Hp)(v:V):Option P2->Prop
 | none=>v = .non
 | some p=>dn H v p
theorem d8.same(h:d8 H v o)(s:aj H H'):d8 H' v o:=by
 cases o with
 | none=>exact h
 | some p=>exact dn.same h s
inductive Xw(K:aa0)(vs:List V)(H:Hp)(Q:VK)(aP:XK):Prop
 | mk(v u:V)(a b:Option P2)(_:vs=[v,u])(_:d8 H v a)(_:d8 H u b)(_:∀ x,d8 H x (km a b)->(x=v∨x=u)->Q x H)
theorem CD(T:Tx K mg):Ok P w base 1 T.tG (Xw K):=by
 refine bc JU ?_;rintro _ _ _ _ H _ _ _ hr ⟨v,u,a,b,rfl,ha,hb,q⟩;refine⟨_,(ax (aG (PW.pt (bB (dC (aa 0)) (ck (dC (aa 1))))) (au (aA (l6 (dC (aa 0)) (aa 1) (aa 0)))) aH)
  (au (aA (aV (Ts rfl (eh hr)) (by rfl) T.Cj yD (ae (aa 0) (ae (aa 1) ag)))))),?_⟩
 rcases a with _|a<;>rcases b with _|b
 .obtain rfl:v = .non:=ha;obtain rfl:u = .non:=hb;rfl';exact q _ rfl (.inl rfl)
 .obtain rfl:v = .non:=ha;obtain⟨r,rfl,c9⟩:=id hb;rfl';exact q _ hb (.inr rfl)
 .obtain rfl:u = .non:=hb;obtain⟨r,rfl,c9⟩:=id ha;rfl';exact q _ ha (.inl rfl)
 .obtain⟨r,rfl,c9⟩:=id ha;obtain⟨r2,rfl,iX⟩:=id hb;rfl';refine⟨a,c9,b,iX,?_⟩;by_cases hl:fO b a=true
  .rw[if_pos hl];exact q _ (by show dn H _ (fP a b);unfold fP;rw[if_pos hl];exact hb) (.inr rfl)
  .rw[if_neg hl];exact q _ (by show dn H _ (fP a b);unfold fP;rw[if_neg hl];exact ha) (.inl rfl)
inductive Xx(K:aa0)(vs:List V)(H:Hp)(Q:VK)(aP:XK):Prop
 | mk(v:V)(a:Option P2)(b:Int)(_:vs=[v,.int b])(_:d8 H v a)(_:∀ x H',aj H H'->d8 H' x (pW a b)->Q x H')
theorem Lj(T:Tx K mg):Ok P w base 1 T.tH (Xx K):=by
 refine bc JV ?_;rintro _ _ _ _ _ _ _ _ _ ⟨v,a,b,rfl,ha,q⟩;refine⟨_,(au (aA (l6 (dC (aa 0)) b5 (aS (ae (aN bZ (aq (aa 0) af) (aa 1)) (ae (aq (aa 0) af) ag)))))),?_⟩;rcases a with _|a
 .obtain rfl:v = .non:=ha;rfl';exact q _ _ (aj.refl _) rfl
 .obtain⟨r,rfl,c9⟩:=id ha;rfl';refine ak (ah.of c9) rfl ?_;rfl';refine ak (ah.of c9) rfl ⟨aW,λp hp=>q _ _ (ao hp) ⟨p,rfl,aw⟩⟩
inductive Xy(K:aa0)(vs:List V)(H:Hp)(Q:VK)(aP:XK):Prop
 | mk(a b:abd)(xs ys:List V)(ps:List P2)(ms:List Mk)(_:vs=[.ref a,.ref b])(_:ai K H a xs)(_:gx H xs ps)(_:ai K H b ys)(_:az (cT H) ys ms)(_:eW ps)(_:ps.length<=900)(_:ms.length<=1000)(_:(∀ m∈ms,m.1<=ps.length))(_:∀ l zs ts H',aj H H'->H l=none->H' l=some (.lst zs)->az (d8 H') zs ts->ts.length=ps.length+1->lx ps ms (dX ts)->Q (.ref l) H')
inductive oA(P:Nat->(Nat->Option P2)->Prop)(H:Hp)(a b l:abd)(n:Nat)(i:Nat)(σ:St)(H1:Hp):Prop
 | mk(zs:List V)(ts:List (Option P2))(e1 e2 e3:Option V)(_:σ=[some (.ref a),some (.ref b),some (.ref l),e1,e2,e3])(_:aj H H1)(_:H1 l=some (.lst zs))(_:az (d8 H1) zs ts)(_:ts.length=n+1)(_:P i (dX ts))
theorem d8.put(h:d8 H v o)(hl:H l=some (.lst ys)):d8 (upd H l (.lst zs)) v o:=by
 cases o with
 | none=>exact h
 | some p=>exact dn.put h hl
theorem az.Ll{α:Type}{R:V->α->Prop}{x:V}{a:α}(r:R x a):∀ {xs:List V} {as:List α} (j:Nat),az R xs as->az R (xs.set j x) (as.set j a)
 | [],[],_,_=>trivial
 | _::_,_::_,0,h=>⟨r,h.2⟩
 | _::_,_::_,j+1,h=>⟨h.1,az.Ll r j h.2⟩
 | [],_::_,_,h=>h.elim
 | _::_,[],_,h=>h.elim
theorem qC(h:az (d8 H) zs ts)(ht:t<ts.length):∃ v,dm zs (t:Int)=some v/\d8 H v (dX ts t):=by obtain⟨v,hv,r⟩:=h.at (aa3 ht);refine⟨v,eL hv,?_⟩;unfold dX;rw[aa1,aa3 ht];exact r
theorem CF(h:t<n):i8 n (t:Int)=some t:=by unfold i8;rw[if_pos (by lia),if_pos (by lia),abU]
theorem CG(eR:H l=none)(s:aj H H1)(hl:H1 l=some (.lst zs))(hz:az (d8 H1) zs ts)(hlen:ts.length=n+1)(hv:d8 H1 v x)(ht:t<n+1)(hP:P i (ko (dX ts) t x)):oA P H a b l n i [some (.ref a),some (.ref b),some (.ref l),d1,d2,d3] (upd H1 l (.lst (zs.set t v))) :=
 ⟨zs.set t v,ts.set t x,d1,d2,d3,rfl,j6 eR s,aw,(az.Ll hv t hz).imp λ_ _ r=>r.put hl,by rw[agB];exact hlen,by rw[SN (by lia)];exact hP⟩
theorem Xz(n:Nat):mx ((n:Int)-1) (-1) (-1)=n:=by unfold mx ab6;simp only[show ¬ ((-1:Int) > 0) by lia,if_false,show (- (-1:Int))=1 by lia,ajc];split<;>lia
theorem XA(T:Tx K mg):Ok P w base 2 T.tI (Xy K):=by
 refine bc n4 ?_;rintro _ _ _ _ H _ Q _ hr ⟨a,b,xs,ys,ps,ms,rfl,hS,hP,hT,hM,ay,hn,hm,ht,q⟩;refine⟨_,(ax (rH (i:=2) (bU.mk (fr:=[]) (ys:=[]) rfl (by decide +kernel) rfl (by decide +kernel) rfl rfl .nil .nil (by decide) rfl) rfl n4.nd rfl rfl (gT rfl T.fw (ae (aN bZ (aV cD (by rfl) T.cA cp (ae (aa 0) ag)) af) ag)) (λC s2 H2 ex pn=>⟨dg,b5⟩))
  (ax (cI abJ rfl (ze rfl T.wU (ae (aa 1) ag)) (jW rfl (dw (b8 3 n4.nd) (dw (b8 4 n4.nd) jV))) (au (aG (fR (aq (aq (aa 4) af) af)) (au (x5 (aD (CD T) hr (ae (aq (aa 2) (aq (aa 4) af)) (ae (aS (ae (aq (aq (aa 4) af) af) (ae (aa 3) ag))) ag))) (x4 (aa 2) (aq (aa 4) af) set_list))) aH)))
  (ax (cI abJ rfl (gT rfl T.fw (ae (aV cD (by rfl) T.cA cp (ae (aa 0) ag)) ag)) (b8 5 n4.nd) (au (x5 (aD (CD T) hr (ae (aq (aa 2) (aN bZ (aa 5) af)) (ae (aD (Lj T) hr (ae (aq (aa 2) (aa 5)) (ae (aq (aq (aa 0) (aa 5)) af) ag))) ag))) (x4 (aa 2) (aN bZ (aa 5) af) set_list))))
  (ax (cI abJ rfl (QY rfl T.fw (ae (aN dB (aV cD (by rfl) T.cA cp (ae (aa 0) ag)) af) (ae (gV ij af) (ae (gV ij af) ag)))) (b8 5 n4.nd) (au (x5 (aD (CD T) hr (ae (aq (aa 2) (aa 5)) (ae (aD (Lj T) hr (ae (aq (aa 2) (aN bZ (aa 5) af)) (ae (gV ij (aq (aq (aa 0) (aa 5)) af)) ag))) ag))) (x4 (aa 2) (aa 5) set_list))))
  (au (aA (aa 2))))))),?_⟩
 have l1:=hP.len;have l2:=hM.len;refine aC (λσ H1=>∃ l,σ=[some (.ref a),some (.ref b),some (.ref l),none,none,none]/\aj H H1/\H l=none/\H1 l=some (.lst (adp (ps.length+1) .non))) (λN hN=>?_) ?_
 .rfl';refine⟨_,dO hS,by lia,by lia,?_⟩;rw[l1,show ((ps.length:Int)+1).toNat=ps.length+1 by lia];refine cJ k8 (by rw[aa2,abw];exact abb (by lia:_<=901) (by decide)) (vI (p:=λ_=>true) (f:=λ_=>.non) trivial (λx _ Q h=>?_) (λx _ _ Q h=>?_) ?_)
  .rfl';exact h
  .rfl';exact h
  rw[abr,filter_tt];intro l hl;refine hN _ _ ⟨l,rfl,ao hl,hl,?_⟩;rw[aw]
  congr 2
  refine aeF λk=>?_;rw[abh,abh,adC];by_cases hk:k<ps.length+1
  .rw[acA hk,if_pos hk];rfl
  .rw[acE (by rw[abw];lia),if_neg hk];rfl
 rintro _ yR σ H1 ⟨l,rfl,s1,eR,qb⟩;subst yR;refine aC (oA (T1 ps ms) H a b l ps.length ms.length) (λN hN=>?_) ?_
 .rfl';refine⟨⟨_,s1.seq hT⟩,zj (xs:=ys) (oA (T1 ps ms) H a b l ps.length) ⟨_,adp (ps.length+1) none,_,_,_,rfl,s1,qb,?_,by rw[aeN],by rw[SO];exact T1.nil⟩ ?_ ?_ ?_⟩
  .have:∀ k,az (d8 H1) (adp k .non) (adp k none):=λk=>by
    induction k with
    | zero=>exact trivial
    | succ k ih=>exact⟨rfl,ih⟩
   exact this _
  .rintro i σ H2 _ ⟨_,_,_,_,_,_,s2,_⟩;exact s2.seq hT
  .rintro i x σ H2 p hx ⟨zs,ts,d1,d2,d3,rfl,s2,ba,hz,gO,qD⟩ hp;obtain⟨m,oB,tp,sp,rfl,h1,h2⟩:=hM.get hx;have iI:=ht m (abi oB);have up:=ao (o:=.tup [.int i,.ref tp]) hp;refine mw (ah.of aw) ?_;generalize upd H2 p (.tup [.int i,.ref tp])=H3 at up ⊢;have s3:=s2.trans up;have g1:=s3 _ _ h1;have g2:=s3 _ _ h2;have dH:=up _ _ ba;have dI:=hz.imp λ_ _ r=>r.same up;obtain⟨mt,lo,hi⟩:=m;rfl';refine ak (ah.of g1) rfl (ak (ah.of g2) rfl ?_);cases hi with
   | none =>
    rfl';exact⟨zs,ts,_,_,_,rfl,s3,dH,dI,gO,qD.skip oB rfl⟩
   | some h =>
    rfl';obtain⟨v,hv,rv⟩:=qC dI (t:=mt) (by dsimp only at iI;lia);refine ak (ah.of g1) rfl (bJ (ai.of dH) hv (ak (ah.of g1) rfl (ak (ah.of g2) rfl ?_)));rfl';refine⟨aW,λt1 jI=>?_⟩;have ut:=ao (o:=.tup [.int h,.int i]) jI;have S4:=s3.trans ut;refine⟨v,.ref t1,_,some (h,(i:Int)),rfl,rv.same ut,⟨t1,rfl,aw⟩,λy hy _=>?_⟩;refine ak (ah.of (ut _ _ g1)) rfl ?_;exact⟨zs,_,rfl,ut _ _ dH,mt,CF (by rw[hz.len,gO];dsimp only at iI;lia),CG eR S4 (ut _ _ dH) (dI.imp λ_ _ r=>r.same ut) gO hy (by dsimp only at iI;lia) (qD.put oB rfl)⟩
  .rintro σ H2 h;rw[l2] at h;exact hN _ _ h
 rintro _ yR σ H2 h2;subst yR;refine aC (oA (T2 ps ms) H a b l ps.length ps.length) (λN hN=>?_) ?_
 .obtain⟨zs,ts,d1,d2,d3,rfl,s2,ba,hz,gO,qD⟩:=h2;rfl';refine⟨_,dO (s2.seq hS),?_⟩;rw[l1];refine⟨by lia,by lia,?_⟩;rw[abU];refine oZ (oA (T2 ps ms) H a b l ps.length) ⟨zs,ts,d1,d2,d3,rfl,s2,ba,hz,gO,qD.two⟩ ?_ (λσ H3 h=>hN _ _ h);rintro i σ H3 hi ⟨zs,ts,d1,d2,d3,rfl,s3,dH,dI,gO,qE⟩;have zl:=dI.len;obtain⟨v,hv,rv⟩:=qC dI (t:=i+1) (by lia);obtain⟨u,hu,ru⟩:=qC dI (t:=i) (by lia);obtain⟨w,hw,tw,rfl,CH⟩:=hP.at (CB hi);rfl';rw[show (0:Int)+(i:Int)=((i:Nat):Int) by lia,show ((i:Nat):Int)+1=((i+1:Nat):Int) by lia];refine bJ (ai.of dH) hv (bJ (ai.of dH) hu (bJ (s3.seq hS) (eL hw) (ak (ah.of (s3 _ _ CH)) rfl ?_)));refine⟨u,_,_,rfl,ru,λy H4 s4 hy=>?_⟩;refine⟨v,y,_,_,rfl,rv.same s4,hy,λz uC _=>?_⟩;exact⟨zs,s4 _ _ dH,i+1,CF (by lia),CG eR (s3.trans s4) (s4 _ _ dH) (dI.imp λ_ _ r=>r.same s4) gO uC (by lia) (qE.step ay ht hi)⟩
 rintro _ yR σ H3 h3;subst yR;refine aC (oA (λi=>T3 ps ms (ps.length-i)) H a b l ps.length ps.length) (λN hN=>?_) ?_
 .obtain⟨zs,ts,d1,d2,d3,rfl,s2,ba,hz,gO,qD⟩:=h3;rfl';refine⟨_,dO (s2.seq hS),?_⟩;rw[l1,Xz];refine⟨by lia,by lia,Q4 (oA (λi=>T3 ps ms (ps.length-i)) H a b l ps.length) ⟨zs,ts,d1,d2,d3,rfl,s2,ba,hz,gO,qD.three⟩ ?_ (λσ H3 h=>hN _ _ h)⟩;rintro i σ H3 hi ⟨zs,ts,d1,d2,d3,rfl,s3,dH,dI,gO,lX⟩;have zl:=dI.len;obtain⟨j,hj⟩:∃ j,ps.length=j+1+i:=⟨ps.length-1-i,by lia⟩
  obtain⟨v,hv,rv⟩:=qC dI (t:=j+1) (by lia);obtain⟨u,hu,ru⟩:=qC dI (t:=j) (by lia);obtain⟨w,hw,tw,rfl,CH⟩:=hP.at (CB (ps:=ps) (i:=j) (by lia));rfl';rw[show (ps.length:Int)-1+(i:Int) * -1=((j:Nat):Int) by lia,show ((j:Nat):Int)+1=((j+1:Nat):Int) by lia];refine bJ (ai.of dH) hu (bJ (ai.of dH) hv (bJ (s3.seq hS) (eL hw) (ak (ah.of (s3 _ _ CH)) rfl ?_)));rfl';refine⟨v,_,_,rfl,rv,λy H4 s4 hy=>?_⟩;refine⟨u,y,_,_,rfl,ru.same s4,hy,λz uC _=>?_⟩;refine⟨zs,s4 _ _ dH,j,CF (by lia),CG eR (s3.trans s4) (s4 _ _ dH) (dI.imp λ_ _ r=>r.same s4) gO uC (by lia) ?_⟩;show T3 ps ms (ps.length-(i+1)) _;rw[show ps.length-(i+1)=j by lia];have lX:T3 ps ms (ps.length-i) (dX ts):=lX;rw[show ps.length-i=j+1 by lia] at lX;exact lX.step ay ht (by lia)
 rintro _ yR σ H4 ⟨zs,ts,d1,d2,d3,rfl,s4,m9,oz,gO,uD⟩;subst yR;rw[agK] at uD;rfl';exact q l zs ts H4 s4 eR m9 oz gO uD.tops
inductive XB(K:aa0)(vs:List V)(H:Hp)(Q:VK)(aP:XK):Prop
 | mk(a b:abd)(zs ys:List V)(ts:List (Option P2))(ms:List Mk)(_:vs=[.ref a,.ref b])(_:ai K H a zs)(_:az (d8 H) zs ts)(_:ai K H b ys)(_:az (cT H) ys ms)(_:(∀ m∈ms,m.1<ts.length))(_:(rZ ms (dX ts)->∀ H',aj H H'->Q .non H'))(_:(∀ (j:Nat) m l v k,ms[j]?=some m->m.2.1=some l->dX ts m.1=some (v,k)->v<l->∀ p H',aj H H'->H p=none->H' p=some (.tup [.int k,.int j])->Q (.ref p) H'))
inductive XD(H:Hp)(a b:abd)(ts:List (Option P2))(ms:List Mk)(i:Nat)(σ:St)(H1:Hp):Prop
 | mk(e1 e2 e3:Option V)(_:σ=[some (.ref a),some (.ref b),e1,e2,e3])(_:aj H H1)(_:rZ (ms.take i) (dX ts))
theorem XE(T:Tx K mg):Ok P w base 1 T.tJ (XB K):=by
 refine bc sJ ?_;rintro _ _ _ _ H _ _ _ _ ⟨a,b,zs,ys,ts,ms,rfl,hA,hZ,hT,hM,ht,q0,q⟩;refine⟨_,(ax (cI abJ rfl (ze rfl T.wU (ae (aa 1) ag)) (jW rfl (dw (b8 2 sJ.nd) (dw (b8 3 sJ.nd) jV))) (ax (aI 4 sJ.nd (aq (aa 0) (aq (aa 3) af)))
  (au (aG (PW.pt (i5 (fR (aa 4)) (i5 (fR (aq (aq (aa 3) af) af)) (jT (wD (aq (aq (aa 3) af) af) (aq (aa 4) af)))))) (au (aA (aS (ae (aq (aa 4) af) (ae (aa 2) ag))))) aH))))
  (au (aA b5))),?_⟩
 have l1:=hZ.len;have l2:=hM.len;rfl';refine⟨⟨_,hT⟩,zj (xs:=ys) (XD H a b ts ms) ⟨_,_,_,rfl,aj.refl _,λm h=>by simp at h⟩ ?_ ?_ ?_⟩
 .rintro i σ H2 _ ⟨_,_,_,_,s2,_⟩;exact s2.seq hT
 .rintro i x σ H2 p hx ⟨d1,d2,d3,rfl,s2,bS⟩ hp;obtain⟨m,oB,tp,sp,rfl,h1,h2⟩:=hM.get hx;have iI:=ht m (abi oB);have up:=ao (o:=.tup [.int i,.ref tp]) hp;refine mw (ah.of aw) ?_;generalize upd H2 p (.tup [.int i,.ref tp])=H3 at up ⊢;have s3:=s2.trans up;have g1:=s3 _ _ h1;have g2:=s3 _ _ h2;have next:(∀ l v k,m.2.1=some l->dX ts m.1=some (v,k)->l<=v)->rZ (ms.take (i+1)) (dX ts):=λhh n hn=>by
   rw[ab9,oB] at hn;rcases abD.mp hn with z|z
   .exact bS n z
   .obtain rfl:n=m:=by simpa using z
    exact hh
  obtain⟨v,hv,rv⟩:=qC hZ iI;obtain⟨mt,lo,hi⟩:=m;rfl';refine ak (ah.of g1) rfl (bJ (s3.seq hA) hv ?_);cases et:dX ts mt with
  | none =>
   rw[show dX ts (mt,lo,hi).1=none from et] at rv;obtain rfl:v = .non:=rv;rfl';exact⟨_,_,_,rfl,s3,next λl v k _ e=>by rw[show dX ts (mt,lo,hi).1=none from et] at e;cases e⟩
  | some q2 =>
   obtain⟨w,k⟩:=q2;rw[show dX ts (mt,lo,hi).1=some (w,k) from et] at rv;obtain⟨rt,rfl,hrt⟩:=rv;rfl';refine ak (ah.of g1) rfl (ak (ah.of g2) rfl ?_);cases lo with
   | none =>
    rfl';exact⟨_,_,_,rfl,s3,next λl v k e _=>by cases e⟩
   | some l =>
    rfl';refine ak (ah.of g1) rfl (ak (ah.of g2) rfl (ak (ah.of (s3 _ _ hrt)) rfl ?_));rfl';refine aX (λhc=>?_) λhc=>?_
    .exact ak (ah.of (s3 _ _ hrt)) rfl ⟨aW,λr dE=>q i _ l w k oB rfl et hc r _ (s3.trans (ao dE)) (s3.free dE) aw⟩
    .exact⟨_,_,_,rfl,s3,next λl' v' k' e1 e2=>by
      cases e1;rw[show dX ts (mt,some l,hi).1=some (w,k) from et] at e2;cases e2;lia⟩
 .rintro σ H2 ⟨d1,d2,d3,rfl,s2,bS⟩;rfl';rw[l2,ab5] at bS;exact q0 bS _ s2
inductive b6(H:Hp)(v:V)(c:Cl):Prop
 | mk(t a b:abd)(_:v = .ref t)(_:H t=some (.tup [.ref a,.ref b]))(_:H a=some (.tup [ev c.1.1,.int c.1.2]))(_:H b=some (.tup [ev c.2.1,.int c.2.2]))
theorem b6.same(h:b6 H v r)(s:aj H H'):b6 H' v r:=let ⟨t,a,b,e,h1,h2,h3⟩:=h;⟨t,a,b,e,s _ _ h1,s _ _ h2,s _ _ h3⟩
theorem b6.put(h:b6 H v r)(hl:H l=some (.lst ys)):b6 (upd H l o) v r:=by
 obtain⟨t,a,b,e,h1,h2,h3⟩:=h;have nl:∀ (z:abd) (vs:List V),H z=some (.tup vs)->z≠l:=λz vs e1 e2=>by rw[e2,hl] at e1;cases e1
 exact⟨t,a,b,e,by rw[aB (nl _ _ h1)];exact h1,by rw[aB (nl _ _ h2)];exact h2,by rw[aB (nl _ _ h3)];exact h3⟩
theorem XF(h:d8 H v o)(hl:H l=some (.lst ys))(k:∀ b o,b≠l->H b=some o->H' b=some o):d8 H' v o:=by
 cases o with
 | none=>exact h
 | some p =>
  obtain⟨t,e,a⟩:=h;exact⟨t,e,k _ _ (λz=>by rw[z,hl] at a;cases a) a⟩
inductive qF(ps:List P2)(gs:List Gp)(i j:Nat)(H:Hp)(l:abd):Prop
 | mk(zs:List V)(cs:List Cl)(_:H l=some (.lst zs))(_:az (b6 H) zs cs)(_:cs.length<=8 * i+j)(_:wu ps gs cs)(_:∀ i' j' g h,gs[i']?=some g->gs[j']?=some h->(i'<i∨(i'=i/\j'<j))->kx ps g h cs)
theorem qF.same(h:qF ps gs i j H l)(s:aj H H'):qF ps gs i j H' l:=let ⟨zs,cs,a,b,c1,c2,c3⟩:=h;⟨zs,cs,s _ _ a,b.imp λ_ _ x=>x.same s,c1,c2,c3⟩
inductive XG(K:aa0)(vs:List V)(H:Hp)(Q:VK)(aP:XK):Prop
 | mk(a b:abd)(xs ys:List V)(ps:List P2)(gs:List Gp)(_:vs=[.ref a,.ref b])(_:ai K H a xs)(_:gx H xs ps)(_:eW ps)(_:ps.length<=900)(_:ai K H b ys)(_:az (qB H) ys gs)(_:gs.length<=8)(_:(∀ g∈gs,g.2.length<=1000/\∀ m∈g.2,m.1<=ps.length))(_:∀ l zs cs H',aj H H'->H l=none->H' l=some (.lst zs)->az (b6 H') zs cs->cs.length<=64->wu ps gs cs->(∀ g∈gs,∀ h∈gs,kx ps g h cs)->Q (.ref l) H')
inductive Lm(H:Hp)(a b l:abd)(ps:List P2)(gs:List Gp)(i:Nat)(σ:St)(H1:Hp):Prop
 | mk(e1 e2 e3 e4 e5 e6:Option V)(_:σ=[some (.ref a),some (.ref b),some (.ref l),e1,e2,e3,e4,e5,e6])(_:aj H H1)(_:qF ps gs i 0 H1 l)
inductive XH(H H0:Hp)(a b l:abd)(nm mk tp:V)(ps:List P2)(gs:List Gp)(i j:Nat)(σ:St)(H1:Hp):Prop
 | mk(e4 e5 e6:Option V)(_:σ=[some (.ref a),some (.ref b),some (.ref l),some nm,some mk,some tp,e4,e5,e6])(_:aj H H1)(_:(∀ b o,b≠l->H0 b=some o->H1 b=some o))(_:qF ps gs i j H1 l)
theorem XI(T:Tx K mg):Ok P w base 3 T.tN (XG K):=by
 refine bc lN ?_;rintro _ _ _ _ H _ _ _ hr ⟨a,b,xs,ys,ps,gs,rfl,hS,hP,ay,hn,hG,hA,h7,hm,q⟩;refine⟨_,(ax (aI 2 lN.nd (cO ag))
  (ax (cI abJ rfl (cC (aa 1)) (jW rfl (dw (b8 3 lN.nd) (dw (b8 4 lN.nd) jV))) (ax (aI 5 lN.nd (aD (XA T) hr (ae (aa 0) (ae (aa 4) ag))))
    (au (cI abJ rfl (cC (aa 1)) (jW rfl (dw (b8 6 lN.nd) (dw (b8 7 lN.nd) jV))) (ax (aI 8 lN.nd (aD (XE T) hr (ae (aa 5) (ae (aa 7) ag))))
      (au (aG (fR (aa 8)) (au (d9 (iE abO ab2 ab3 kT (aa 2) (ae (aS (ae (aS (ae (aa 3) (ae (aq (aq (aa 4) (aq (aa 8) af)) af) ag))) (ae (aS (ae (aa 6) (ae (aq (aq (aa 7) (aq (aa 8) af)) af) ag))) ag))) ag)))) aH)))))))
  (au (aA (aa 2))))),?_⟩
 have yl:=hA.len;refine aC (λσ H1=>∃ l,σ=[some (.ref a),some (.ref b),some (.ref l),none,none,none,none,none,none]/\aj H H1/\H l=none/\H1 l=some (.lst [])) (λN hN=>?_) ?_
 .rfl';exact⟨by decide,λl hl=>hN _ _ ⟨l,rfl,ao hl,hl,aw⟩⟩
 rintro _ yR σ H1 ⟨l,rfl,s1,fl,hl⟩;subst yR;refine aC (λσ H2=>Lm H a b l ps gs ys.length σ H2) (λN hN=>?_) ?_
 .rfl';refine⟨⟨_,s1.seq hG⟩,iG (xs:=ys) (Lm H a b l ps gs) ⟨_,_,_,_,_,_,rfl,s1,[],[],hl,trivial,abt _,λ_ h=>(nomatch h),λ_ _ _ _ _ _ h=>by lia⟩ ?_ ?_ (λσ H' h=>hN _ _ h)⟩
  .rintro i σ H2 _ ⟨_,_,_,_,_,_,_,s2,_⟩;exact s2.seq hG
  .rintro i x σ H2 hx ⟨_,_,_,_,_,_,rfl,s2,h2⟩;obtain⟨r,hr,gg,k,zs,rfl,h3,h4,h5⟩:=hA.get hx;have CI:=hm r (abi hr);refine mw (ah.of (s2 _ _ h3)) ?_;rfl';refine⟨a,k,xs,zs,ps,r.2,rfl,s2.seq hS,hP.same s2,ai.of (s2 _ _ h4),h5.imp λ_ _ x=>x.same s2,ay,hn,CI.1,CI.2,λtp us ts H3 s3 Ln yH XJ gO TT=>?_⟩;have S3:=s2.trans s3;rfl';refine⟨⟨_,S3.seq hG⟩,iG (xs:=ys) (XH H H3 a b l (ev r.1) (.ref k) (.ref tp) ps gs i) ⟨_,_,_,rfl,S3,λ_ _ _ e=>e,h2.same s3⟩ ?_ ?_ ?_⟩
   .rintro j σ H4 _ ⟨_,_,_,_,s4,_,_⟩;exact s4.seq hG
   .rintro j y σ H4 hy ⟨_,_,_,rfl,s4,b4,ws,cs,h6,oE,h8,h9,qG⟩;obtain⟨r',xb,gg',k',XM,rfl,g3,g4,g5⟩:=hA.get hy;have CJ:=hm r' (abi xb);obtain⟨ls,_,hls,_⟩:=h2;have XN:tp≠l:=λz=>by rw[z,hls] at Ln;cases Ln
    have XO:=b4 _ _ XN yH;have oz:=XJ.imp λ_ _ x=>XF x (s3 _ _ hls) b4;have ng:∀ xf:List Cl,(∀ i' j' g h,gs[i']?=some g->gs[j']?=some h->(i'<i∨(i'=i/\j'<j))->kx ps g h xf)->kx ps r r' xf->∀ i' j' g h,gs[i']?=some g->gs[j']?=some h->(i'<i∨(i'=i/\j'<j+1))->kx ps g h xf:=λxf XQ XR i' j' g h a1 a2 a3=>by
     by_cases hz:i'=i/\j'=j
     .obtain⟨rfl,rfl⟩:=hz;rw[hr] at a1;rw[xb] at a2;cases a1;cases a2;exact XR
     .exact XQ i' j' g h a1 a2 (by lia)
    refine mw (ah.of (s4 _ _ g3)) ?_;rfl';refine⟨tp,k',us,XM,ts,r'.2,rfl,ai.of XO,oz,ai.of (s4 _ _ g4),g5.imp λ_ _ x=>x.same s4,λm dh=>by have:=CJ.2 m dh;lia,λbS H5 s5=>?_,λjj m lo v kk e1 e2 e3 e4 p H5 s5 fp hp=>?_⟩
    .rfl';exact⟨_,_,_,rfl,s4.trans s5,λb o hb e=>s5 _ _ (b4 b o hb e),qF.same ⟨ws,cs,h6,oE,by lia,h9,ng cs qG λm m1 n n1 hc=>absurd hc (Ut TT CI.2 CJ.2 bS m1 n1)⟩ s5⟩
    .obtain⟨i',a',rfl,cR,hc⟩:=TT.clash (CJ.2 m (abi e1)) e3 e2 e4;have oy:=s5 _ _ h6;have S5:=s4.trans s5;obtain⟨v1,qc,t1,w1,rfl,m1,_⟩:=(h5.imp λ_ _ x=>cT.same x S5).at cR;obtain⟨v2,qd,t2,w2,rfl,m2,_⟩:=(g5.imp λ_ _ x=>cT.same x S5).at e1;rfl';refine⟨.inl ⟨rfl,_,ai.of oy⟩,ak (ah.of hp) (v:=.int i') rfl (bJ (ai.of (S5 _ _ h4)) (eL qc) (ak (ah.of m1) (v:=.int a'.1) rfl ⟨aW,λp1 gM=>?_⟩))⟩;have u1:=ao (o:=.tup [ev r.1,.int a'.1]) gM;refine ak (ah.of (u1 _ _ hp)) (v:=.int jj) rfl (bJ (ai.of (u1 _ _ (S5 _ _ g4))) (eL qd) (ak (ah.of (u1 _ _ m2)) (v:=.int m.1) rfl ⟨aW,λp2 fM=>⟨aW,λp3 uB=>?_⟩⟩));have u2:=ao (o:=.tup [ev r'.1,.int m.1]) fM;have u3:=ao (o:=.tup [.ref p1,.ref p2]) uB;have U:=u1.trans (u2.trans u3);have kG:=U _ _ oy;have cq:b6 (upd (upd (upd H5 p1 (.tup [ev r.1,.int a'.1])) p2 (.tup [ev r'.1,.int m.1])) p3 (.tup [.ref p1,.ref p2])) (.ref p3) ((r.1,a'.1),(r'.1,m.1)):=⟨p3,p1,p2,rfl,aw,u3 _ _ (u2 _ _ aw),u3 _ _ aw⟩
     have wl:ws.length<=100:=by have e8:=oE.len;have b1:=(aa7.mp hr).1;have b2:=(aa7.mp xb).1;lia
     refine⟨ws,kG,abV wl (by decide),_,_,_,rfl,j6 fl (S5.trans U),λb o hb e=>by rw[aB hb];exact U _ _ (s5 _ _ (b4 b o hb e)),_,cs++[((r.1,a'.1),(r'.1,m.1))],aw,az.app (oE.imp λ_ _ x=>(x.same (s5.trans U)).put kG) ⟨cq.put kG,trivial⟩,by rw[abf,abv];lia,λc uY=>?_,ng _ (λi' j' g h a1 a2 a3=>(qG i' j' g h a1 a2 a3).more) λ_ _ _ _ _=>⟨_,abC _ (.head _),rfl,rfl⟩⟩;rcases abD.mp uY with z|z
     .exact h9 c z
     .rw[abp.mp z];exact⟨r,abi hr,r',abi xb,a',abi cR,m,abi e1,rfl,hc⟩
   .rintro σ H4 ⟨_,_,_,rfl,s4,_,ws,cs,h6,oE,h8,h9,qG⟩;exact⟨_,_,_,_,_,_,rfl,s4,ws,cs,h6,oE,by lia,h9,λi' j' g h a1 a2 a3=>qG i' j' g h a1 a2 (by have:=(aa7.mp a2).1;lia)⟩
 rintro _ yR σ H2 ⟨_,_,_,_,_,_,rfl,s2,ws,cs,h6,oE,h8,h9,qG⟩;subst yR;rfl';exact q l ws cs H2 s2 fl h6 oE (by lia) h9 λg hg h hh=>by obtain⟨i',cR⟩:=abT.mp hg;obtain⟨j',zv⟩:=abT.mp hh;exact qG i' j' g h cR zv (.inl (by have:=(aa7.mp cR).1;lia))
theorem Lo(h:Q (!decide (o=some e))):neT (.int e) (ev o) Q:=by
 cases o with
 | none=>exact h
 | some x =>
  show if ¬ e=x then Q true else Q false
  by_cases z:e=x
  .subst z;rw[if_neg (λh=>h rfl)];simpa using h
  .rw[if_pos z];have:(some x:En)≠some e:=λh=>z (Option.some.inj h).symm;simpa [this] using h
theorem Lp(h:Q (decide (o=o'))):eqT (ev o) (ev o') Q:=by
 cases o with
 | none=>cases o'<;>exact h
 | some x =>
  cases o' with
  | none=>exact h
  | some y =>
   show if x=y then Q true else Q false
   by_cases z:x=y
   .subst z;rw[if_pos rfl];simpa using h
   .rw[if_neg z];have:(some x:En)≠some y:=λh=>z (Option.some.inj h);simpa [this] using h
inductive XS(H:Hp)(v:V)(s:En × Nat):Prop
 | mk(r:abd)(_:v = .ref r)(_:H r=some (.tup [ev s.1,.int s.2]))
theorem az.ints(h:az (λv (n:Int)=>v=V.int n) zs ns):zs=ns.map V.int:=by
 induction zs generalizing ns with
 | nil=>cases ns with|nil=>rfl|cons _ _=>exact h.elim
 | cons z zs ih=>cases ns with
  | nil=>exact h.elim
  | cons n ns=>rw[abj,<- ih h.2,h.1]
theorem Lq:∀ {xs ys:List Int},xs.Nodup->(∀ x∈xs,x∈ys)->xs.length<=ys.length
 | [],_,_,_=>abt _
 | x::xs,ys,h,k=>by obtain⟨h1,h2⟩:=ab7.mp h;have hx:=k x (.head _);have ih:=Lq (ys:=ys.erase x) h2 λy hy=>(agV (λz=>h1 (by rw[<- z];exact hy))).mpr (k y (.tail _ hy));rw[afX hx] at ih;have:=ags hx;rw[abX];lia
inductive XT(K:aa0)(vs:List V)(H:Hp)(Q:VK)(aP:XK):Prop
 | mk(l:abd)(e:Int)(zs:List V)(cs:List Cl)(_:vs=[.ref l,.int e])(_:H l=some (.lst zs))(_:az (b6 H) zs cs)(_:cs.length<=64)(_:∀ r ys H',aj H H'->H r=none->H' r=some (.lst ys)->az (b6 H') ys (wo e cs)->Q (.ref r) H')
theorem Lr(T:Tx K mg):Ok P w base 1 T.jC (XT K):=by
 refine bc JZ ?_;rintro _ _ _ _ H _ Q _ hr ⟨l,e,zs,cs,rfl,hl,hC,hn,q⟩;refine⟨_,(au (aA (cQ (bU.mk (fr:=[1]) (ys:=["eye"]) rfl (by decide +kernel) rfl (by decide +kernel) rfl rfl (.cons rfl .nil) (.cons rfl rfl rfl rfl .nil) (by decide) rfl) rfl (cC (aa 0)) (λC s2 H2 ex pn=>⟨(jc (PW.pt (i5 (fQ (aa 1) (b7 (K:=K) (b7 (K:=K) (aa 0) af) af)) (jT (fQ (aa 1) (b7 (K:=K) (b7 (K:=K) (aa 0) af) af)))))),(aa 0)⟩)))),?_⟩;have zl:=hC.len;rfl';refine⟨⟨_,ai.of hl⟩,cJ gv (abb (by lia:zs.length<=64) (by decide)) (nO (R:=b6 H) (R':=b6 H) (p:=λc=>!ig e c) (f:=λc=>c) (ai.of hl) hC (λx c r Q h=>?_) (λx c hp r Q h=>?_) λys hy=>?_)⟩
 .obtain⟨t,a,b,rfl,h1,h2,h3⟩:=r;rfl';refine ak (ah.of h1) (v:=.ref a) rfl (ak (ah.of h2) (v:=ev c.1.1) rfl (Lo ?_));unfold ig at h;by_cases z:c.1.1=some e
  .rw[decide_eq_true z] at h ⊢;exact h
  .rw[decide_eq_false z] at h ⊢;refine ak (ah.of h1) (v:=.ref b) rfl (ak (ah.of h3) (v:=ev c.2.1) rfl (Lo ?_));exact h
 .rfl';exact h _ r
 .rw[abr];intro r hr;rw[agL] at hy;exact q r ys _ (ao hr) hr aw (hy.imp λ_ _ x=>x.same (ao hr))
inductive XU(K:aa0)(vs:List V)(H:Hp)(Q:VK)(aP:XK):Prop
 | mk(v:V)(c:Cl)(_:vs=[v])(_:b6 H v c)(_:∀ l (es:List Int) H',aj H H'->H l=none->H' l=some (.lst (es.map V.int))->(∀ e,e∈es↔ig e c=true)->es.length<=2->Q (.ref l) H')
theorem XW(T:Tx K mg):Ok P w base 1 T.mP (XU K):=by
 refine bc J0 ?_;rintro _ _ _ s H _ Q _ hr ⟨v,c,rfl,⟨t,a,b,rfl,h1,h2,h3⟩,q⟩;refine⟨_,(au (aA (Ug rfl (cQ (bU.mk (fr:=[]) (ys:=[]) rfl (by decide +kernel) rfl (by decide +kernel) rfl rfl .nil .nil (by decide) rfl) rfl (oQ (aa 0)) (λC s2 H2 ex pn=>⟨(jc (fR (b7 (K:=K) (aa 0) af))),(b7 (K:=K) (aa 0) af)⟩)) (by rfl) T.Kv E7 (by rfl) T.Ku Im))),?_⟩;rfl';refine⟨⟨_,ah.of h1⟩,cJ (xs:=[.ref a,.ref b]) yW aW (nO (R:=XS H) (R':=λv (n:Int)=>v=V.int n) (p:=λs=>s.1.isSome) (f:=λs=>s.1.getD 0) (as:=[c.1,c.2]) (ah.of h1) ⟨⟨a,rfl,h2⟩,⟨b,rfl,h3⟩,trivial⟩ (λx s r Q h=>?_) (λx s hp r Q h=>?_) λzs hz=>?_)⟩
 .obtain⟨r,rfl,h4⟩:=r;rfl';refine ak (ah.of h4) (v:=ev s.1) rfl ?_;cases hs:s.1 with
  | none=>rw[hs] at h;exact h
  | some x=>rw[hs] at h;exact h
 .obtain⟨r,rfl,h4⟩:=r;rfl';refine ak (ah.of h4) (v:=ev s.1) rfl (h _ ?_);cases hs:s.1 with
  | none=>rw[hs] at hp;cases hp
  | some x=>rfl
 .rw[abr];intro l hl;rw[az.ints hz];have u1:=ao (o:=.lst ((([c.1,c.2].filter λs=>s.1.isSome).map λs=>s.1.getD 0).map V.int)) hl;have hn:(([c.1,c.2].filter λs=>s.1.isSome).map λs=>s.1.getD 0).length<=2:=by rw[aa2];exact abR _ _
  have hi:∀ e,e∈(([c.1,c.2].filter λs=>s.1.isSome).map λs=>s.1.getD 0)↔ig e c=true:=λe=>by
   rw[nW];constructor
   .intro h;obtain⟨s,hs,rfl⟩:=aa8.mp h;obtain⟨m1,m2⟩:=abE.mp hs;obtain⟨x,hx⟩:=aeg.mp m2;rw[hx];rcases abl.mp m1 with rfl|m1
    .exact .inl hx
    .rw[abp.mp m1] at hx;exact .inr hx
   .rintro (h|h)
    .exact aa8.mpr ⟨c.1,abE.mpr ⟨.head _,by rw[h];rfl⟩,by rw[h];rfl⟩
    .exact aa8.mpr ⟨c.2,abE.mpr ⟨.tail _ (.head _),by rw[h];rfl⟩,by rw[h];rfl⟩
  refine⟨l,rfl,_,ai.of aw,by lia,λws nd mem _ r hr=>?_⟩;exact q r ws _ (u1.trans (ao hr)) (u1.free hr) aw (λe=>(mem e).trans (hi e)) (abb (Lq nd λx hx=>(mem x).mp hx) hn)
inductive Ls(K:aa0)(N:Nat)(vs:List V)(H:Hp)(Q:VK)(aP:XK):Prop
 | mk(l:abd)(zs:List V)(cs:List Cl)(n:Nat)(_:vs=[.ref l,.int n])(_:n<N)(_:n<=7)(_:H l=some (.lst zs))(_:az (b6 H) zs cs)(_:cs.length<=64)(_:(∀ H',aj H H'->g9 (n+1) cs->Q .non H'))(_:∀ r (es:List Int) H',aj H H'->H r=none->H' r=some (.lst (es.map V.int))->sy es cs->es.length<=n->Q (.ref r) H')
inductive cu(H:Hp)(l:abd)(n:Nat)(cs:List Cl)(es:List Int)(i:Nat)(σ:St)(H1:Hp):Prop
 | mk(e1 e2:Option V)(_:σ=[some (.ref l),some (.int ((n+1:Nat):Int)),e1,e2])(_:aj H H1)(_:∀ e∈es.take i,g9 (n+1) (wo e cs))
theorem XX(T:Tx K mg):∀ N,Ok P w base (N+2) T.jD (Ls K N):=by
 intro N
 induction N with
 | zero =>
  refine okN T.jD.F sL.1 (λvs H Q E h=>?_) (λa7 A outer s H vs Q E hr h=>?_)
  .obtain⟨l,zs,cs,n,rfl,hN,_⟩:=h;exact absurd hN (acQ _)
  .obtain⟨l,zs,cs,n,rfl,hN,_⟩:=h;exact absurd hN (acQ _)
 | succ N ih =>
  refine okN T.jD.F sL.1 (λvs H Q E h=>?_) (λa7 A outer s H vs Q E hr h=>?_)
  .obtain⟨l,zs,cs,n,rfl,_⟩:=h;rfl
  .obtain⟨l,zs,cs,n,rfl,hN,n7,hl,hC,hn,q0,q⟩:=h;refine⟨_,(ax (aG (bT (aV cD (by rfl) T.cA cp (ae (aa 0) ag)) af) (au (aA (cO ag))) aH)
    (ax (aG (bT (aa 1) af) (au (aA b5)) aH)
    (ax (cI abJ rfl (cC (bR (XW T) (hr.mono (by lia)) rfl T.mP.m T.mP.F.kp T.mP.b .nil bb (ae (bD bE (aa 0) af (λ_ _=>rfl)) ag))) (gq (i:=2) sL.nd rfl (aeO rfl)) (ax (i6 (i:=3) sL.nd rfl (aeO rfl) (bR ih (hr.mono (by lia)) rfl T.jD.m T.jD.F.kp T.jD.b .nil bb (ae (bR (Lr T) (hr.mono (by lia)) rfl T.jC.m T.jC.F.kp T.jC.b .nil bb (ae (aa 0) (ae (aa 2) ag))) (ae (aN dB (aa 1) af) ag))))
      (au (aG (fR (aa 3)) (au (aA (aN mh (cO (ae (aa 2) ag)) (aa 3)))) aH))))
    (au (aA b5))))),?_⟩
   have zl:=hC.len;cases cs with
   | nil =>
    obtain rfl:zs=[]:=acX.mp zl;rfl';refine⟨_,dO (ai.of hl),?_⟩;rfl';exact⟨by decide,λr hr=>q r [] _ (ao hr) hr aw (λc hc=>(nomatch hc)) (abt _)⟩
   | cons c cs =>
    obtain⟨z,zs,rfl⟩:∃ z z',zs=z::z':=by cases zs with|nil=>cases zl|cons z zs=>exact⟨z,zs,rfl⟩
    cases n with
    | zero =>
     rfl';refine⟨_,dO (ai.of hl),?_⟩;refine aX (λh0=>absurd h0 (by rw[abX];lia)) λ_=>?_;rfl';exact q0 _ (aj.refl _) λ_ _=>trivial
    | succ n =>
     rfl';refine⟨_,dO (ai.of hl),?_⟩;refine aX (λh0=>absurd h0 (by rw[abX];lia)) λ_=>aX (λh0=>absurd h0 (by lia)) λ_=>?_;refine bJ (ai.of hl) (v:=z) (show dm (z::zs) ((0:Nat):Int)=some z from eL rfl) ⟨z,c,rfl,hC.1,λk es H1 s1 _ hk zC Gh=>?_⟩;rfl';refine⟨⟨_,ai.of hk⟩,iG (xs:=es.map V.int) (cu H1 l n (c::cs) es) ⟨_,_,rfl,aj.refl _,λ_ h=>(nomatch h)⟩ ?_ ?_ ?_⟩
     .rintro i σ H2 _ ⟨_,_,rfl,s2,_⟩;exact ai.of (s2 _ _ hk)
     .rintro i x σ H2 hx ⟨e1,e2,rfl,s2,bS⟩;rw[abh] at hx;obtain⟨e,he,rfl⟩:=abF.mp hx;have S2:=s1.trans s2;rfl';refine⟨l,e,_,c::cs,rfl,S2 _ _ hl,hC.imp λ_ _ x=>x.same S2,hn,λr ys H3 s3 _ hr hy=>?_⟩;refine⟨r,ys,wo e (c::cs),n,by rw[show (((n+1:Nat):Int)-1)=(n:Int) by lia],by lia,by lia,hr,hy,abb (abR _ _) hn,λH4 s4 h4=>?_,λr2 XY H4 s4 f4 iX CK hle=>?_⟩
      .rfl';refine⟨_,_,rfl,s2.trans (s3.trans s4),λe' pO=>?_⟩;rw[ab9,he] at pO;rcases abD.mp pO with z|z
       .exact bS e' z
       .obtain rfl:e'=e:=by simpa using z
        exact h4
      .rfl';refine⟨by decide,λp hp=>⟨_,aw,_,(ao hp) _ _ iX,abb (by rw[aa2,abv];lia:_<=20) (by decide),λp1 gM=>?_⟩⟩;have W:=s1.trans (s2.trans (s3.trans (s4.trans (ao (o:=.lst [.int e]) hp))));exact q p1 (e::XY) _ (W.trans (ao gM)) (W.free gM) aw (Uy CK) (by rw[abX];lia)
     .rintro σ H2 ⟨e1,e2,rfl,s2,bS⟩;rfl';refine q0 _ (s1.trans s2) λe he=>bS e ?_;rw[aa2,ab5];exact (zC e).mpr he
def e9(H:Hp):V->Pp->Prop
 | v,.nil=>v = .non
 | v,.full=>∃ r,v = .ref r/\H r=some (.tup [.str "full"])
 | v,.cls c a b=>∃ r p q x y,v = .ref r/\H r=some (.tup [.str "clash",.ref p,.ref q,x,y])/\H p=some (.tup [ev c.1.1,.int c.1.2])/\H q=some (.tup [ev c.2.1,.int c.2.2])/\e9 H x a/\e9 H y b
theorem e9.same(s:aj H H'):∀ {t:Pp} {v:V},e9 H v t->e9 H' v t
 | .nil,_,h=>h
 | .full,_,⟨r,e,h⟩=>⟨r,e,s _ _ h⟩
 | .cls _ _ _,_,⟨r,p,q,x,y,e,h1,h2,h3,h4,h5⟩=>⟨r,p,q,x,y,e,s _ _ h1,s _ _ h2,s _ _ h3,e9.same s h4,e9.same s h5⟩
noncomputable def uE(n:Nat)(cs:List Cl)(o:En):Pp:=match o with|none=>.nil|some e=>mG n (wo e cs)
theorem Lu(n:Nat)(c:Cl)(cs:List Cl):mG (n+1) (c::cs) = .cls c (uE n (c::cs) c.1.1) (if c.1.1=c.2.1 then .nil else uE n (c::cs) c.2.1):=rfl
inductive CL(K:aa0)(N:Nat)(vs:List V)(H:Hp)(Q:VK)(aP:XK):Prop
 | mk(l:abd)(m:Int)(zs:List V)(cs:List Cl)(n:Nat)(_:vs=[.ref l,.int m])(_:m+1=(n:Int))(_:n<N)(_:H l=some (.lst zs))(_:az (b6 H) zs cs)(_:cs.length<=64)(_:g9 n cs)(_:∀ v H',aj H H'->e9 H' v (mG n cs)->Q v H')
inductive XZ(K:aa0)(N:Nat)(vs:List V)(H:Hp)(Q:VK)(aP:XK):Prop
 | mk(l:abd)(m:Int)(o:En)(zs:List V)(cs:List Cl)(n:Nat)(_:vs=[.ref l,ev o,.int m])(_:m=(n:Int))(_:n<N)(_:H l=some (.lst zs))(_:az (b6 H) zs cs)(_:cs.length<=64)(_:(∀ e,o=some e->g9 n (wo e cs)))(_:∀ v H',aj H H'->e9 H' v (uE n cs o)->Q v H')
theorem Lv(T:Tx K mg)(N:Nat)(ih:Ok P w base (2 * N+1) T.iS (CL K N)):Ok P w base (2 * N+2) T.iR (XZ K N):=by
 refine okN T.iR.F J1.1 (λvs H Q E h=>?_) (λa7 A outer s H vs Q E hr h=>?_)
 .obtain⟨l,m,o,zs,cs,n,rfl,_⟩:=h;rfl
 .obtain⟨l,m,o,zs,cs,n,rfl,hm,hN,hl,hC,hn,bS,q⟩:=h;refine⟨_,(au (aA (l6 (dC (aa 1)) b5 (bR ih (hr.mono (by lia)) rfl T.iS.m T.iS.F.kp T.iS.b .nil bb (ae (bR (Lr T) (hr.mono (by lia)) rfl T.jC.m T.jC.F.kp T.jC.b .nil bb (ae (aa 0) (ae (aa 1) ag))) (ae (aN dB (aa 2) af) ag)))))),?_⟩;cases o with
  | none =>
   rfl';exact q _ _ (aj.refl _) rfl
  | some e =>
   rfl';refine⟨l,e,zs,cs,rfl,hl,hC,hn,λr ys H1 s1 _ c9 hy=>?_⟩;exact⟨r,_,ys,wo e cs,n,rfl,by lia,hN,c9,hy,abb (abR _ _) hn,bS e rfl,λv H2 s2 h2=>q v H2 (s1.trans s2) h2⟩
theorem X2(T:Tx K mg):∀ N,Ok P w base (2 * N+1) T.iS (CL K N):=by
 intro N
 induction N with
 | zero =>
  refine okN T.iS.F n5.1 (λvs H Q E h=>?_) (λa7 A outer s H vs Q E hr h=>?_)
  .obtain⟨l,m,zs,cs,n,rfl,hm,hN,_⟩:=h;exact absurd hN (acQ _)
  .obtain⟨l,m,zs,cs,n,rfl,hm,hN,_⟩:=h;exact absurd hN (acQ _)
 | succ N ih =>
  refine okN T.iS.F n5.1 (λvs H Q E h=>?_) (λa7 A outer s H vs Q E hr h=>?_)
  .obtain⟨l,m,zs,cs,n,rfl,_⟩:=h;rfl
  .obtain⟨l,m,zs,cs,n,rfl,hm,hN,hl,hC,hn,bS,q⟩:=h;refine⟨_,(ax (aG (lM (aa 1) af) (au (aA (aS (ae bp ag)))) aH)
    (ax (i6 (i:=2) n5.nd rfl (aeO rfl) (bD bE (bD bE (aa 0) af (λ_ _=>rfl)) af (λ_ _=>rfl)))
    (ax (i6 (i:=3) n5.nd rfl (aeO rfl) (bD bE (bD bE (aa 0) af (λ_ _=>rfl)) af (λ_ _=>rfl)))
    (ax (i6 (i:=4) n5.nd rfl (aeO rfl) (bR (Lv T N ih) (hr.mono (by lia)) rfl T.iR.m T.iR.F.kp T.iR.b .nil bb (ae (aa 0) (ae (bD bE (aa 2) af (λ_ _=>rfl)) (ae (aa 1) ag)))))
    (ax (i6 (i:=5) n5.nd rfl (aeO rfl) (l6 (bT (bD bE (aa 2) af (λ_ _=>rfl)) (bD bE (aa 3) af (λ_ _=>rfl))) b5 (bR (Lv T N ih) (hr.mono (by lia)) rfl T.iR.m T.iR.F.kp T.iR.b .nil bb (ae (aa 0) (ae (bD bE (aa 3) af (λ_ _=>rfl)) (ae (aa 1) ag))))))
    (au (aA (aS (ae bp (ae (aa 2) (ae (aa 3) (ae (aa 4) (ae (aa 5) ag))))))))))))),?_⟩
   have zl:=hC.len;cases n with
   | zero =>
    rfl';refine aX (λ_=>?_) λh0=>absurd (show m<0 by lia) h0;exact⟨by decide,λr hr=>q _ _ (ao hr) ⟨r,rfl,aw⟩⟩
   | succ n =>
    cases cs with
    | nil=>exact bS.elim
    | cons c cs =>
     obtain⟨z,zs,rfl⟩:∃ z z',zs=z::z':=by cases zs with|nil=>cases zl|cons z zs=>exact⟨z,zs,rfl⟩
     obtain⟨t,a,b,rfl,ht,ha,hb⟩:=id hC.1;have z0:dm (V.ref t::zs) ((0:Nat):Int)=some (.ref t):=eL rfl;rfl';refine aX (λh0=>absurd h0 (by lia)) λ_=>?_;refine bJ (ai.of hl) z0 (ak (ah.of ht) (v:=.ref a) rfl ?_);refine bJ (ai.of hl) z0 (ak (ah.of ht) (v:=.ref b) rfl (ak (ah.of ha) (v:=ev c.1.1) rfl ?_));refine⟨l,m,c.1.1,_,c::cs,n,rfl,by lia,by lia,hl,hC,hn,λe he=>bS e (nW.mpr (.inl he)),λv1 H1 s1 h1=>?_⟩;refine ak (ah.of (s1 _ _ ha)) (v:=ev c.1.1) rfl (ak (ah.of (s1 _ _ hb)) (v:=ev c.2.1) rfl (Lp ?_));rw[Lu] at q;by_cases he:c.1.1=c.2.1
     .rw[decide_eq_true he];rw[if_pos he] at q;refine⟨by decide,λp hp=>?_⟩;have u1:=ao (o:=.tup [.str "clash",.ref a,.ref b,v1,.non]) hp;have U:=s1.trans u1;exact q _ _ U ⟨p,a,b,v1,_,rfl,aw,U _ _ ha,U _ _ hb,h1.same u1,rfl⟩
     .rw[decide_eq_false he];rw[if_neg he] at q;refine ak (ah.of (s1 _ _ hb)) (v:=ev c.2.1) rfl ⟨l,m,c.2.1,_,c::cs,n,rfl,by lia,by lia,s1 _ _ hl,hC.imp λ_ _ x=>x.same s1,hn,λe he=>bS e (nW.mpr (.inr he)),λv2 H2 s2 h2=>⟨by decide,λp hp=>?_⟩⟩;have u1:=ao (o:=.tup [.str "clash",.ref a,.ref b,v1,v2]) hp;have U:=s1.trans (s2.trans u1);exact q _ _ U ⟨p,a,b,v1,v2,rfl,aw,U _ _ ha,U _ _ hb,h1.same (s2.trans u1),h2.same u1⟩
theorem X4(T:Tx K mg):Ok P w base 10 T.jD (Ls K 8):=XX T 8
theorem X6(T:Tx K mg):Ok P w base 19 T.iS (CL K 9):=X2 T 9
noncomputable def dJ:Pp->Nat
 | .nil=>0
 | .full=>1
 | .cls _ a b=>(if dJ a<=dJ b then dJ b else dJ a)+1
theorem Lw:∀ (n:Nat) (cs:List Cl),dJ (mG n cs)<=n+1
 | 0,_=>aba _
 | n+1,[]=>Nat.le_add_left _ _
 | n+1,c::cs=>by
  have one:∀ o,dJ (uE n (c::cs) o)<=n+1:=λo=>by
   cases o with
   | none=>exact abt _
   | some e=>exact Lw n _
  have two:dJ (if c.1.1=c.2.1 then .nil else uE n (c::cs) c.2.1)<=n+1:=by
   split
   .exact abt _
   .exact one _
  rw[Lu];show (if _<=_ then _ else _)+1<=n+1+1;have:=one c.1.1;split<;>lia
inductive CM(G H:Hp)(v:V)(sw gw:List W2)(tb:Tb)(mo:Int):Prop
 | ng (r k:abd) (j:Nat) (_:v = .ref r) (_:H r=some (.tup [.str "never",.ref k])) (_:H k=some (.tup [.str "step",.int (j:Int)])) (_:sw[j]?=some none)
 | gol (r k:abd) (j:Nat) (_:v = .ref r) (_:H r=some (.tup [.str "never",.ref k])) (_:H k=some (.tup [.str "at",.int (j:Int)])) (_:gw[j]?=some none)
 | pap (r:abd) (k:V) (t:Pp) (pp:List P2) (gs:List S2) (_:v = .ref r) (_:H r=some (.tup [.str "never",k])) (_:e9 H k t) (_:dJ t<=9) (_:sw=pp.map gF) (_:gw=gs.map some) (_:Val pp gs tb mo t [])
 | may (r k:abd) (cs:List Int) (pp:List P2) (gs:List S2) (es:List Int) (_:v = .ref r) (_:H r=some (.tup [.str "may",.ref k])) (_:H k=some (.lst (cs.map V.int))) (_:G k=none) (_:cs.length=gw.length) (_:sw=pp.map gF) (_:gw=gs.map some) (_:iP pp (bP cs)) (_:∀ t s,gs[t]?=some s->bF s (bP cs t)) (_:(es.length:Int)<=mo) (_:meets (eN tb es) (bP cs))
noncomputable def fT(gs:List S2):List Mk:=(abG gs.length).map λi=>(i,gs.getD i (none,none))
theorem Lx{gs:List S2}{i:Nat}{m:Mk}(h:(fT gs)[i]?=some m):m.1=i/\gs[i]?=some m.2:=by
 unfold fT at h;rw[abh] at h;obtain⟨k,hk,rfl⟩:=abF.mp h;have hi:i<gs.length:=by
  have:=(aa7.mp hk).1
  rwa [abw] at this
 rw[acA hi] at hk;cases hk;exact⟨rfl,by show gs[i]?=some (gs.getD i _);rw[aa1,aa3 hi];rfl⟩
theorem Ly(h:m∈fT gs):m.1<gs.length/\gs[m.1]?=some m.2:=by obtain⟨i,hi⟩:=abT.mp h;obtain⟨e1,e2⟩:=Lx hi;rw[<- e1] at e2;exact⟨(aa7.mp e2).1,e2⟩
theorem xg(gs:List S2):(fT gs).length=gs.length:=by unfold fT;rw[aa2,abw]
theorem az.xh:∀ {xs:List V} {as:List α},xs.length=as.length->(∀ (i:Nat) x a,xs[i]?=some x->as[i]?=some a->R x a)->az R xs as
 | [],[],_,_=>trivial
 | _::_,_::_,h,k=>⟨k 0 _ _ rfl rfl,az.xh (by simpa using h) λi x a h1 h2=>k (i+1) x a h1 h2⟩
 | [],_::_,h,_=>by cases h
 | _::_,[],h,_=>by cases h
theorem getD_none{ws:List W2}{j:Nat}(h:j<ws.length)(e:adZ (ws.getD j none)=true):ws[j]?=some none:=by
 rw[aa1,aa3 h] at e;rw[aa3 h];cases hw:ws[j] with
 | none=>rfl
 | some s=>rw[hw] at e;cases e
inductive X7(K:aa0)(B C:abd)(vs:List V)(H:Hp)(Q:VK)(E:XK):Prop
 | mk(x p b:abd)(e t u d m:Int)(xs:List V)(ps:List Pa)(tb:Tb)(_:vs=[.ref x,.ref b])(_:bL B H x e t u d m p tb)(_:bI e t tb)(_:tb.length<=60)(_:1<=t)(_:t<=12)(_:0<=e)(_:e<=7)(_:0<=m)(_:m<=7)(_:ai K H b xs)(_:dq H xs ps)(_:ps.length<=900)(_:(¬ eY t ps->E (.ref C) none H))(_:(eY t ps->∀ v H',aj H H'->CM H H' v (dF u d ps (t-1).toNat) (eF ps t.toNat) tb m->Q v H'))
theorem CN(T:Tx K mg):Ok P w base 20 T.x_ask (X7 K T.aO T.iq):=by
 refine ju n6 ?_;rintro _ _ _ s H vs _ _ hr ⟨x,p,b,e,t,u,d,m,xs,ps,tb,rfl,hb,aZ,cj,t1,t2,e0,e7,m0,m7,hX,hP,hn,Q0,Q9⟩;refine⟨_,(ax (aI 2 n6.nd (bR (WL T) (hr.mono (by decide)) rfl T.mM.m T.mM.F.kp T.mM.b .nil df (ae (aa 0) (ae (aa 1) ag))))
  (ax (aI 3 n6.nd (bR (WN T) (hr.mono (by decide)) rfl T.mO.m T.mO.F.kp T.mO.b .nil df (ae (aa 0) (ae (aa 1) ag))))
  (ax (aG (kO (IL (eh hr)) b5 (aa 2) (by with_unfolding_all rfl)) (au (aA (aS (ae bp (ae (aS (ae bp (ae (iE abO aer agb (IM (eh hr)) (aa 2) (ae b5 ag)) ag))) ag))))) aH)
  (ax (aG (kO (IL (eh hr)) b5 (aa 3) (by with_unfolding_all rfl)) (au (aA (aS (ae bp (ae (aS (ae bp (ae (iE abO aer agb (IM (eh hr)) (aa 3) (ae b5 ag)) ag))) ag))))) aH)
  (ax (aI 4 n6.nd (UU rfl (by rfl) T.m5 (by rfl) T.wU (ae (aa 3) ag)))
  (ax (aI 5 n6.nd (aD (XI T) hr (ae (aa 2) (ae (aN mh (cO (ae (aS (ae b5 (ae (aa 4) ag))) ag)) (aD (Xa T) hr (ae (aa 0) ag))) ag))))
  (ax (aI 6 n6.nd (aD (X4 T) hr (ae (aa 5) (ae (dD rfl (aa 0) rfl) ag))))
  (ax (aG (dC (aa 6)) (au (aA (aS (ae bp (ae (aD (X6 T) hr (ae (aa 5) (ae (dD rfl (aa 0) rfl) ag))) ag))))) aH)
  (au (aA (aS (ae bp (ae (aD (Xs T) hr (ae (aa 2) (ae (aN mh (aa 4) (aD (W8 T) hr (ae (aa 0) (ae (aa 6) ag)))) ag))) ag))))))))))))),?_⟩
 obtain⟨⟨dx,hx⟩,kvs,hkv,hTA⟩:=id hb;have CO:gL T.aO H x e t u d m p kvs:=⟨⟨dx,hx⟩,hkv⟩
 by_cases hk:eY t ps
 case neg =>
  refine aC (λ_ _=>False) (λN hN=>?_) (λ_ _ _ _ h=>h.elim);rfl';exact⟨x,p,b,e,t,u,d,m,kvs,xs,ps,rfl,CO,t1,t2,hX,hP,hn,λ_=>Q0 hk,λz=>absurd z hk⟩
 have Q1:=Q9 hk;refine aC (λσ H1=>∃ s ys,σ=[some (.ref x),some (.ref b),some (.ref s),none,none,none,none]/\aj H H1/\H1 s=some (.lst ys)/\az (gA H1) ys (dF u d ps (t-1).toNat)) (λN hN=>?_) ?_
 .rfl';exact⟨x,p,b,e,t,u,d,m,kvs,xs,ps,rfl,CO,t1,t2,hX,hP,hn,λz=>absurd hk z,λ_ l ys H1 s1 _ hl hW=>hN _ _ ⟨l,ys,rfl,s1,hl,hW⟩⟩
 rintro _ yR σ H1 ⟨s,ys,rfl,s1,hs,hW⟩;subst yR;refine aC (λσ H2=>∃ gl zs,σ=[some (.ref x),some (.ref b),some (.ref s),some (.ref gl),none,none,none]/\aj H1 H2/\H2 gl=some (.lst zs)/\az (gA H2) zs (eF ps t.toNat)) (λN hN=>?_) ?_
 .rfl';exact⟨x,p,b,e,t,u,d,m,kvs,xs,ps,rfl,CO.same s1,t1,t2,s1.seq hX,hP.same s1,hn,λz=>absurd hk z,λ_ l ys H2 s2 _ hl hW=>hN _ _ ⟨l,ys,rfl,s2,hl,hW⟩⟩
 rintro _ yR σ H2 ⟨gl,zs,rfl,s2,jw,hG⟩;subst yR;have CP:=s1.trans s2;have cZ:=s2 _ _ hs;have CQ:=hW.imp λ_ _ r=>r.same s2;have wl:(dF u d ps (t-1).toNat).length=(t-1).toNat:=by unfold dF;rw[aa2,abw]
 have gw:(eF ps t.toNat).length=t.toNat:=by unfold eF;rw[aa2,abw]
 have yl:=hW.len;have zl:=hG.len;obtain⟨n1,n2,n3⟩:=Ah CQ;obtain⟨k1,k2,k3⟩:=Ah hG;refine aC (λσ H3=>σ=[some (.ref x),some (.ref b),some (.ref s),some (.ref gl),none,none,none]/\H3=H2/\(dF u d ps (t-1).toNat).any adZ=false) (λN hN=>?_) ?_
 .rfl';refine⟨s,ys,rfl,rfl,ai.of cZ,n1,?_⟩;rw[n2];cases hA:(dF u d ps (t-1).toNat).any adZ with
  | false =>
   rfl';exact hN _ _ ⟨rfl,rfl,hA⟩
  | true =>
   rfl';obtain⟨j,j1,j2,j3⟩:=Ai (d:=V.non) (n2.trans hA);refine⟨.inl ⟨rfl,_,ai.of cZ⟩,s,ys,j,rfl,rfl,ai.of cZ,n1,j1,by lia,j2,j3,aW,λk gi=>⟨aW,λr hr=>?_⟩⟩;have u1:=ao (o:=.tup [.str "step",.int (j:Int)]) gi;have u2:=ao (o:=.tup [.str "never",.ref k]) hr;rw[n3] at j2;exact Q1 _ _ (CP.trans (u1.trans u2)) (.ng r k j rfl aw (u2 _ _ aw) (getD_none (by lia) j2))
 rintro _ yR σ H3 ⟨rfl,rfl,hA⟩;subst yR;refine aC (λσ H4=>σ=[some (.ref x),some (.ref b),some (.ref s),some (.ref gl),none,none,none]/\H4=H3/\(eF ps t.toNat).any adZ=false) (λN hN=>?_) ?_
 .rfl';refine⟨gl,zs,rfl,rfl,ai.of jw,k1,?_⟩;rw[k2];cases hB:(eF ps t.toNat).any adZ with
  | false =>
   rfl';exact hN _ _ ⟨rfl,rfl,hB⟩
  | true =>
   rfl';obtain⟨j,j1,j2,j3⟩:=Ai (d:=V.non) (k2.trans hB);refine⟨.inl ⟨rfl,_,ai.of jw⟩,gl,zs,j,rfl,rfl,ai.of jw,k1,j1,by lia,j2,j3,aW,λk gi=>⟨aW,λr hr=>?_⟩⟩;have u1:=ao (o:=.tup [.str "at",.int (j:Int)]) gi;have u2:=ao (o:=.tup [.str "never",.ref k]) hr;rw[k3] at j2;exact Q1 _ _ (CP.trans (u1.trans u2)) (.gol r k j rfl aw (u2 _ _ aw) (getD_none (by lia) j2))
 rintro _ yR σ H4 ⟨rfl,rfl,hB⟩;subst yR;obtain⟨pp,ep,ay⟩:=IQ (f:=λ(k:Nat)=>fN (none,none) ((some (-d),some u)::sel ps "step" (k:Int))) (λk s h=>Us h) (abG (t-1).toNat) λk hk e=>IS hA _ (aa8.mpr ⟨k,hk,rfl⟩) e;replace ep:dF u d ps (t-1).toNat=pp.map gF:=ep;obtain⟨gs,eg⟩:=all_some _ (IS hB);have ppl:pp.length=(t-1).toNat:=by rw[<- wl,ep,aa2]
 have gsl:gs.length=t.toNat:=by rw[<- gw,eg,aa2]
 rw[ep] at CQ;have Lz:=IT CQ;have CS:=hG;rw[eg] at CS;have M1:∀ mm∈fT gs,mm.1<=pp.length:=λmm hm=>by have:=(Ly hm).1;lia
 have M2:∀ r∈tb,r.1.2.toNat<=pp.length:=λr hr=>by have ho:=aZ.2 r hr;unfold kg at ho;lia
 refine aC (λσ H5=>∃ k vs,σ=[some (.ref x),some (.ref b),some (.ref s),some (.ref gl),some (.ref k),none,none]/\aj H4 H5/\H5 k=some (.lst vs)/\az (cT H5) vs (fT gs)) (λN hN=>?_) ?_
 .rfl';refine⟨zs,ai.of jw,λl vs H5 s5 _ hl Ya hv=>hN _ _ ⟨l,vs,rfl,s5,hl,az.xh (by rw[Ya,xg,CS.len,aa2]) λi y mk e1 e2=>?_⟩⟩;obtain⟨f1,f2⟩:=Lx e2;obtain⟨z,hz,rz⟩:=CS.at (i:=i) (by rw[abh,f2];rfl);obtain⟨p0,rfl,_,h5⟩:=hv i y z e1 hz;obtain⟨pz,rfl,hpz⟩:=rz;exact⟨p0,pz,rfl,by rw[h5,f1],s5 _ _ hpz⟩
 rintro _ yR σ H5 ⟨k,vs,rfl,s5,hkl,hM⟩;subst yR;have vl:=hM.len;rw[xg] at vl;have S5:=CP.trans s5;have vn:vs.length<=12:=by lia
 refine aC (λσ H6=>∃ c ws cs,σ=[some (.ref x),some (.ref b),some (.ref s),some (.ref gl),some (.ref k),some (.ref c),none]/\aj H5 H6/\H6 c=some (.lst ws)/\az (b6 H6) ws cs/\cs.length<=64/\wu pp (ky (fT gs) e.toNat tb) cs/\∀ g∈ky (fT gs) e.toNat tb,∀ h∈ky (fT gs) e.toNat tb,kx pp g h cs) (λN hN=>?_) ?_
 .rfl';refine⟨aW,λt0 Yb=>⟨by decide,λl0 eR=>?_⟩⟩;have u1:=ao (o:=.tup [.non,.ref k]) Yb;have u2:=ao (o:=.lst [.ref t0]) eR;have U:=u1.trans u2;refine⟨x,p,e,t,u,d,m,tb,rfl,hb.same (S5.trans U),aZ.1,by lia,λr hr=>(aZ.2 r hr).2.1,e0,e7,λl ws H6 s6 _ hl LA=>?_⟩;have LB:=LA.len;unfold sx at LB;rw[aa2,aa2,abw] at LB;refine⟨l,rfl,[.ref t0],s6 _ _ aw,ws,hl,abb (by show 1+ws.length<=30;lia) (by decide),λc hc=>?_⟩;have u3:=ao (o:=.lst ([.ref t0]++ws)) hc;have S6:=s5.trans (U.trans (s6.trans u3));refine⟨s,c,ys,.ref t0::ws,pp,ky (fT gs) e.toNat tb,rfl,ai.of (S6 _ _ cZ),Lz.same S6,ay,by lia,ai.of aw,⟨⟨t0,k,vs,rfl,(u2.trans (s6.trans u3)) _ _ aw,(U.trans (s6.trans u3)) _ _ hkl,hM.imp λ_ _ r=>r.same (U.trans (s6.trans u3))⟩,LA.imp λ_ _ r=>r.same u3⟩,?_,λg hg=>?_,λl7 Yc Yd H7 s7 _ a1 a2 a3 a4 a5=>hN _ _ ⟨l7,Yc,Yd,rfl,U.trans (s6.trans (u3.trans s7)),a1,a2,a3,a4,a5⟩⟩
  .unfold ky sx;rw[abX,aa2,aa2,abw];lia
  .rcases abl.mp hg with rfl|z
   .exact⟨by show (fT gs).length<=1000;rw[xg];lia,M1⟩
   .obtain⟨g1,nV,rfl⟩:=aa8.mp z;obtain⟨i,_,rfl⟩:=aa8.mp nV;refine⟨abb (by unfold aK;rw[aa2];exact abb (abR _ _) (by rw[nN];exact aba _)) (by lia:tb.length<=1000),λmm dh=>?_⟩;obtain⟨r,hr,_,rfl⟩:=Aj.mp dh;exact M2 r hr
 rintro _ yR σ H6 ⟨c,ws,cs,rfl,s6,hc,hC,bf,hsnd,rK⟩;subst yR;have S6:=S5.trans s6;refine aC (λσ H7=>∃ av,σ=[some (.ref x),some (.ref b),some (.ref s),some (.ref gl),some (.ref k),some (.ref c),some av]/\aj H6 H7/\((av = .non/\g9 (m.toNat+1) cs) ∨ ∃ f es,av = .ref f/\H7 f=some (.lst (es.map V.int))/\sy es cs/\es.length<=m.toNat)) (λN hN=>?_) ?_
 .rfl';refine⟨_,_,_,S6 _ _ hx,T.bA,T.qw,_,rfl,?_⟩;exact⟨c,ws,cs,m.toNat,by rw[adb m0],by lia,by lia,hc,hC,bf,λH7 s7 h7=>hN _ _ ⟨_,rfl,s7,.inl ⟨rfl,h7⟩⟩,λr es H7 s7 _ hr h1 h2=>hN _ _ ⟨_,rfl,s7,.inr ⟨r,es,rfl,hr,h1,h2⟩⟩⟩
 rintro _ yR σ H7 ⟨av,rfl,s7,⟨rfl,bS⟩|⟨f,es,rfl,hf,hcov,hle⟩⟩<;>subst yR
 .have S7:=S6.trans s7;rfl';refine⟨_,_,_,S7 _ _ hx,T.bA,T.qw,_,rfl,?_⟩;refine⟨c,m,ws,cs,m.toNat+1,rfl,by lia,by lia,s7 _ _ hc,hC.imp λ_ _ r=>r.same s7,bf,bS,λv H8 s8 h8=>⟨aW,λz hz=>?_⟩⟩;have u1:=ao (o:=.tup [.str "never",v]) hz;exact Q1 _ _ (S7.trans (s8.trans u1)) (.pap z v _ pp gs rfl aw (h8.same u1) (abb (Lw _ _) (by lia)) ep eg (IV _ _ _ bS (by rw[adR];lia) (snd_mk aZ (λmm hm=>(Ly hm).2) hsnd)))
 .have S7:=S6.trans s7;have M3:∀ mm∈fT gs++eN tb es,mm.1<=pp.length:=λmm hm=>by
   rcases abD.mp hm with z|z
   .exact M1 mm z
   .obtain⟨r,hr,_,rfl⟩:=Ak.mp z;exact M2 r hr
  have Ye:=Uz aZ ay M3 hcov rK;rfl';refine⟨x,p,f,e,t,u,d,m,tb,es,rfl,hb.same S7,aZ.1,by lia,λr hr=>(aZ.2 r hr).2.1,ai.of hf,by lia,λr rs H8 s8 hr qH=>⟨r,rfl,vs,(s6.trans (s7.trans s8)) _ _ hkl,rs,hr,?_,λk2 jt=>?_⟩⟩
  .replace qH:az (cT H8) rs (eN tb es):=qH;have e1:=qH.len;have e2:(eN tb es).length<=tb.length:=by unfold eN;rw[aa2];exact abb (abR _ _) (by rw[nN];exact aba _)
   exact abb (by lia:_<=100) (by decide)
  replace qH:az (cT H8) rs (eN tb es):=qH;have u1:=ao (o:=.lst (vs++rs)) jt;have W:=s5.trans (s6.trans (s7.trans (s8.trans u1)));have X8:=S7.trans (s8.trans u1);have ml:(fT gs++eN tb es).length<=1000:=by
   rw[abf,xg];have e2:(eN tb es).length<=tb.length:=by unfold eN;rw[aa2];exact abb (abR _ _) (by rw[nN];exact aba _)
   lia
  refine⟨s,k2,ys,vs++rs,pp,fT gs++eN tb es,rfl,ai.of (W _ _ cZ),Lz.same W,ai.of aw,az.app (hM.imp λ_ _ r=>r.same (s6.trans (s7.trans (s8.trans u1)))) (qH.imp λ_ _ r=>r.same u1),ay,by lia,ml,M3,λbS=>absurd Ye bS,λl9 co H9 s9 f9 xi CT cH LC=>⟨aW,λz hz=>?_⟩⟩;have u9:=ao (o:=.tup [.str "may",.ref l9]) hz;refine Q1 _ _ (X8.trans (s9.trans u9)) (.may z l9 co pp gs es rfl aw (u9 _ _ xi) (X8.free f9) (by lia) ep eg cH (λtt ss hh=>?_) (by lia) λmm hm=>LC mm (abC _ hm));refine LC (tt,ss) (acK _ (abT.mpr ⟨tt,?_⟩));have Yf:=(aa7.mp hh).1;unfold fT;rw[abh,acA Yf];show some (tt,gs.getD tt _)=_;rw[aa1,hh];rfl
theorem CU(f:P2->Int):∀ {n:Nat},i+n<=ps.length->((abG n).map λk=>f (aF ps (i+k))).sum=pre f ps (i+n)-pre f ps i
 | 0,_=>by simp
 | n+1,h=>by rw[List.range_succ,aco,agE,CU f (by lia),show i+(n+1)=i+n+1 by lia,gB _ _ (by lia)];simp only[abj,adB,af7,ajb];lia
theorem LD{H:Hp}{ps:List P2}{i n:Nat}{f:P2->Int}{te:TE}{ρ:St}{Q:VK}(h9:n<=900)(he:∀ k:Nat,k<n->∀ Q:VK,Q (.int (f (aF ps (i+k)))) H->te (some (.int ((i:Int)+(k:Nat)))::ρ) H Q)
 (q:∀ l,H l=none->Q (.ref l) (upd H l (.lst (((abG n).map λk=>f (aF ps (i+k))).map V.int)))):mr (iC (i:Int) n) ρ yK te H Q:=by
 refine cJ k8 (by rw[aa2,abw];exact abb h9 (by decide)) (lj (R:=λx (k:Nat)=>x=V.int ((i:Int)+(k:Nat))) (as:=abG n) (p:=λ_=>true) (f:=λk=>.int (f (aF ps (i+k)))) trivial ?_ (λ_ _ _ _ Q h=>h) (λx k hk _ r Q h=>?_) ?_)
 .exact az.xh (by rw[aa2]) λj x a h1 h2=>by rw[abh,h2] at h1;cases h1;rfl
 .subst r;exact he k (acO.mp hk) Q h
 .rw[abr,ac8.mpr λ_ _=>rfl];rw[abS] at q;exact q
inductive Yg(K:aa0)(vs:List V)(H:Hp)(Q:VK)(aP:XK):Prop
 | mk(s:abd)(zs:List V)(ps:List P2)(i j:Nat)(_:vs=[.ref s,.int i,.int j])(_:ai K H s zs)(_:gx H zs ps)(_:ps.length<=900)(_:i<=ps.length)(_:j<=ps.length)(_:∀ H',aj H H'->Q (.int (bM ps i j)) H')
theorem Yh(T:Tx K mg):Ok P w base 1 T.mY (Yg K):=by
 refine bc Cc ?_;rintro _ _ _ s H _ Q _ _ ⟨s,zs,ps,i,j,rfl,hs,hP,h9,hi,hj,q⟩;refine⟨_,(ax (aI 3 Cc.nd (aV (Gj rfl) (by rfl) T.Kw E8 (ae (cQ (bU.mk (fr:=[0]) (ys:=["_law_steps"]) rfl (by decide +kernel) rfl (by decide +kernel) rfl rfl (.cons rfl .nil) (.cons rfl rfl rfl rfl .nil) (by decide) rfl) rfl (yb rfl T.fw (ae (aa 1) (ae (aa 2) ag))) (λC s2 H2 ex pn=>⟨dg,(b7 (K:=K) (b7 (K:=K) (aa 1) (aa 0)) af)⟩)) ag)))
  (au (aA (aN dB (aa 3) (aV (Gj rfl) (by rfl) T.Kw E8 (ae (cQ (bU.mk (fr:=[0]) (ys:=["_law_steps"]) rfl (by decide +kernel) rfl (by decide +kernel) rfl rfl (.cons rfl .nil) (.cons rfl rfl rfl rfl .nil) (by decide) rfl) rfl (yb rfl T.fw (ae (aa 2) (ae (aa 1) ag))) (λC s2 H2 ex pn=>⟨dg,(b7 (K:=K) (b7 (K:=K) (aa 1) (aa 0)) af)⟩)) ag)))))),?_⟩
 have hl:=hP.len;have row:∀ (H':Hp) (k:Nat),aj H H'->k<ps.length->∃ p,dm zs (k:Int)=some (.ref p)/\H' p=some (.tup [.int (aF ps k).1,.int (aF ps k).2]):=λH' k s' hk=>by obtain⟨v,hv,p,rfl,hp⟩:=hP.at (aa3 (l:=ps) (i:=k) hk);refine⟨p,eL hv,?_⟩;rw[show ps[k]=aF ps k by unfold aF;rw[aa1,aa3 hk];rfl] at hp;exact s' _ _ hp
 rfl';refine⟨by lia,by lia,by lia,by lia,LD (ps:=ps) (f:=λp=>p.2) (by lia) (λk hk Q h=>?_) λl qb=>?_⟩
 .obtain⟨p,e,hp⟩:=row H (i+k) (aj.refl _) (by lia);rfl';exact bJ hs (by rw[<- e];congr 1) (ak (ah.of hp) rfl h)
 have u1:=ao (o:=.lst (((abG (((j:Int)-(i:Int)).toNat)).map λk=>(aF ps (i+k)).2).map V.int)) qb;refine⟨l,rfl,_,ai.of aw,by lia,by lia,by lia,by lia,LD (ps:=ps) (f:=λp=>p.1) (by lia) (λk hk Q h=>?_) λl2 ba=>?_⟩
 .obtain⟨p,e,hp⟩:=row _ (j+k) u1 (by lia);rfl';exact bJ (u1.seq hs) (by rw[<- e];congr 1) (ak (ah.of hp) rfl h)
 refine⟨l2,rfl,_,ai.of aw,?_⟩;have fin:=q _ (u1.trans (ao (o:=.lst (((abG (((i:Int)-(j:Int)).toNat)).map λk=>(aF ps (j+k)).1).map V.int)) ba));have e:bM ps i j=((abG (((j:Int)-(i:Int)).toNat)).map λk=>(aF ps (i+k)).2).sum-((abG (((i:Int)-(j:Int)).toNat)).map λk=>(aF ps (j+k)).1).sum:=by
  unfold bM;by_cases ib:i<=j
  .rw[if_pos ib,show ((i:Int)-(j:Int)).toNat=0 by lia,CU (λp=>p.2) (by lia),show i+((j:Int)-(i:Int)).toNat=j by lia];simp
  .rw[if_neg ib,show ((j:Int)-(i:Int)).toNat=0 by lia,CU (λp=>p.1) (by lia),show j+((i:Int)-(j:Int)).toNat=i by lia];simp;lia
 rw[e] at fin;exact fin
inductive Yi(K:aa0)(vs:List V)(H:Hp)(Q:VK)(aP:XK):Prop
 | mk(v:V)(w a b z:abd)(e t u d mo:Int)(zs:List V)(gs:List S2)(tb:Tb)(as:List Int)(s:En × Nat)(m:Mk)(_:vs=[v,.ref b,.ref a,.ref z])(_:iu H v w e t u d mo tb)(_:(tb.map (·.1)).Nodup)(_:H a=some (.tup [ev s.1,.int (s.2:Int)]))(_:ai K H b zs)(_:az (λv x=>aM H v x.1 x.2) zs gs)(_:(∀ x∈gs,aT x.1 x.2=false))(_:H z=some (.lst (as.map V.int)))(_:jr gs tb as s m)(_:(∀ r∈tb,r.1.2.toNat<gs.length))(_:∀ v,aM H v m.2.1 m.2.2->Q v H)
theorem LF(T:Tx K mg):Ok P w base 2 T.jG (Yi K):=by
 refine bc Km ?_;rintro _ _ _ _ _ _ _ _ hr ⟨v,w,a,b,z,e,t,u,d,mo,zs,gs,tb,as,⟨o,k⟩,⟨k2,wd⟩,rfl,⟨r,rfl,hR,hT⟩,fu,ha,hb,hG,cH,hz,⟨hk,hm⟩,aU,q⟩;refine⟨_,(ax (aG (PW.pt (bB (bC (bz (aV hU (by rfl) T.gh gd (ae (aa 2) (ae (iz (v:=.ty "tuple") rfl T.ue rB rfl) ag))))) (ck (fQ (aV cD (by rfl) T.cA cp (ae (aa 2) ag)) af)))) (au (aA b5)) aH)
  (ax (aG (PW.pt (bB (bC (bz (aD (ot T) hr (ae (aq (aa 2) af) ag)))) (bB (lM (aq (aa 2) af) af) (ck (Jo (aq (aa 2) af) (aV cD (by rfl) T.cA cp (ae (aa 1) ag))))))) (au (aA b5)) aH)
  (ax (aG (dC (aq (aa 2) af)) (ax (aG (bz (aD (Ct T) hr (ae (aq (aa 1) (aq (aa 2) af)) ag))) (au (aA b5)) aH)
    (au (aA (aq (aa 1) (aq (aa 2) af))))) aH)
  (ax (aG (PW.pt (bB (bC (bz (aD (ot T) hr (ae (aq (aa 2) af) ag)))) (bB (kO Ou (aq (aa 2) af) (aa 3) (by with_unfolding_all rfl)) (ck (qY (G0 (eh hr) (aa 2) (aq (aa 0) af))))))) (au (aA b5)) aH)
  (au (aA (pN (eh hr) (aq (aa 0) af) (aa 2) (λ_ _=>rfl)))))))),?_⟩
 obtain rfl:k2=k:=hk;have jw:=hG.len;have gk:k2<zs.length:=by
  cases o with
  | none =>
   have:=(aa7.mp (show gs[k2]?=some wd from hm)).1;lia
  | some x =>
   have:=aU _ hm.2;rw[abU] at this;lia
 rfl';refine mj ha ?_;rfl';refine⟨_,mn (ah.of ha),?_⟩;rfl';refine ak (ah.of ha) (v:=.int k2) rfl ⟨_,rfl,.inr ⟨_,rfl⟩,?_⟩;simp only[isWhole];rfl';refine ak (ah.of ha) (v:=.int k2) rfl ?_;rfl';refine aX (λh0=>absurd h0 (by lia)) λ_=>ak (ah.of ha) (v:=.int k2) rfl ⟨_,dO hb,?_⟩;rfl';refine aX (λh0=>absurd h0 (by lia)) λ_=>ak (ah.of ha) (v:=ev o) rfl ?_;cases o with
 | none =>
  obtain⟨v,hv,pz,rfl,hp⟩:=hG.at (i:=k2) (a:=wd) hm;rfl';refine ak (ah.of ha) (v:=.int k2) rfl (bJ hb (eL hv) ⟨pz,wd.1,wd.2,rfl,ah.of hp,?_⟩);rw[cH wd (abT.mpr ⟨_,hm⟩)];rfl';exact ak (ah.of ha) (v:=.int k2) rfl (bJ hb (eL hv) (q _ ⟨pz,rfl,hp⟩))
 | some e =>
  rfl';refine ak (ah.of ha) (v:=.int e) rfl ⟨_,rfl,.inr ⟨_,rfl⟩,?_⟩;simp only[isWhole];rfl';refine ak (ah.of ha) (v:=.int e) rfl ?_;rfl';obtain⟨Av,bO⟩:e∉as/\((e,((k2:Nat):Int)),wd)∈tb:=hm;obtain⟨kvs,hkv,hA⟩:=id hT;obtain⟨vv,hvv,va,rfl,hva⟩:=(hA.val (e,((k2:Nat):Int))).2 _ (pU fu bO);refine⟨z,_,rfl,.inl (ai.of hz),rfl,HY as,⟨_,rfl,?_⟩⟩;rw[zY];refine aX (λh0=>absurd h0 (by simpa using Av)) λ_=>?_;refine ak (ah.of hR) (v:=.ref w) rfl ?_;rfl';refine⟨_,dU.t (k:=bH e (k2:Int)) hkv ha,?_⟩;rw[hvv];refine aX (λh0=>nomatch h0) λ_=>?_;refine ak (ah.of hR) (v:=.ref w) rfl ?_;exact⟨w,rfl,.ref va,by rw[<- hvv];exact dU.t (k:=bH e (k2:Int)) hkv ha,q _ ⟨va,rfl,hva⟩⟩
inductive Yj(K:aa0)(vs:List V)(H:Hp)(Q:VK)(aP:XK):Prop
 | mk(a b:abd)(cs:List Int)(xs:List V)(ps:List Pa)(_:vs=[.ref a,.ref b])(_:ai K H a (cs.map V.int))(_:ai K H b xs)(_:dq H xs ps)(_:(∀ p∈ps,qA cs p.1 p.2.1))(_:Q (.bl (c8 cs ps)) H)
inductive Yk(H:Hp)(a b:abd)(cs:List Int)(ps:List Pa)(i:Nat)(σ:St)(H1:Hp):Prop
 | mk(e1 e2:Option V)(_:σ=[some (.ref a),some (.ref b),e1,e2])(_:H1=H)(_:c8 cs (ps.take i)=true)
theorem Yl(h:p∈ps)(hf:hold p.2.2.1 p.2.2.2 (fk cs p.1 p.2.1)=false):c8 cs ps=false:=by unfold c8;exact List.all_eq_false.mpr ⟨p,h,by rw[hf];simp⟩
theorem LG{cs:List Int}{ps:List Pa}{p:Pa}{i:Nat}(h:ps[i]?=some p)(ht:c8 cs (ps.take i)=true)(hf:hold p.2.2.1 p.2.2.2 (fk cs p.1 p.2.1)=true):c8 cs (ps.take (i+1))=true:=by unfold c8 at *;rw[ab9,h,List.all_append,ht];simp[hf]
theorem LH(T:Tx K mg):Ok P w base 2 T.t4 (Yj K):=by
 refine bc sQ ?_;rintro _ _ _ _ H _ Q _ hr ⟨a,b,cs,xs,ps,rfl,hS,hX,hP,hk,q⟩;refine⟨_,(ax (cI abJ rfl (cC (aa 1)) (b8 2 sQ.nd) (ax (aI 3 sQ.nd (aq (aa 0) (aq (aa 2) af)))
  (ax (aG (bT (aq (aa 2) af) bp) (au (aI 3 sQ.nd (aN dB (aq (aa 0) (aN bZ (aq (aa 2) af) af)) (aq (aa 0) (aq (aa 2) af))))) aH)
  (au (aG (bC (bz (aD (wY T) hr (ae (aq (aa 2) af) (ae (aa 3) ag))))) (au (aA b9)) aH)))))
  (au (aA b9))),?_⟩
 have hl:=hP.len;rfl';refine⟨⟨_,hX⟩,iG (xs:=xs) (Yk H a b cs ps) ⟨_,_,rfl,rfl,rfl⟩ ?_ ?_ ?_⟩
 .rintro i σ H1 _ ⟨_,_,_,rfl,_⟩;exact hX
 .rintro i x σ H1 hx ⟨e1,e2,rfl,rfl,hm⟩;obtain⟨p,hp,tp,sp,rfl,h1,h2⟩:=hP.get hx;have Ym:=hk p (abi hp);obtain⟨o1,o2,o3⟩:=id Ym;rfl';refine ak (ah.of h1) (v:=.int p.2.1) rfl (bJ hS (int_at o1 o2) ?_);rfl';refine ak (ah.of h1) (v:=.str p.1) rfl ?_;rfl';have fin:hold p.2.2.1 p.2.2.2 (fk cs p.1 p.2.1)=false->Q (V.bl false) H1:=λhf=>by rw[Yl (abi hp) hf] at q;exact q
  by_cases hs:p.1 = "step"
  .rw[if_pos (by rw[hs])];have en:fk cs p.1 p.2.1=cs.getD (p.2.1+1).toNat 0-cs.getD p.2.1.toNat 0:=if_pos hs;refine ak (ah.of h1) (v:=.int p.2.1) rfl ?_;rfl';refine bJ hS (int_at (by lia) (o3 hs)) (ak (ah.of h1) (v:=.int p.2.1) rfl (bJ hS (int_at o1 o2) ?_));rfl';refine ak (ah.of h1) (v:=.ref sp) rfl ?_;rw[<- en];refine⟨sp,_,_,_,rfl,ah.of h2,aX (λhc=>fin hc) λhc=>⟨_,_,rfl,rfl,LG hp hm (by simpa using hc)⟩⟩
  .rw[if_neg hs];have en:fk cs p.1 p.2.1=cs.getD p.2.1.toNat 0:=if_neg hs;refine ak (ah.of h1) (v:=.ref sp) rfl ?_;rw[<- en];refine⟨sp,_,_,_,rfl,ah.of h2,aX (λhc=>fin hc) λhc=>⟨_,_,rfl,rfl,LG hp hm (by simpa using hc)⟩⟩
 .rintro σ H1 ⟨e1,e2,rfl,rfl,hm⟩;rw[hl,ab5] at hm;rw[hm] at q;rfl';exact q
inductive LJ(K:aa0)(vs:List V)(H:Hp)(Q:VK)(aP:XK):Prop
 | mk(v:V)(w c:abd)(e t u d m:Int)(tb:Tb)(cs:List Int)(_:vs=[v,.ref c])(_:iu H v w e t u d m tb)(_:1<=t)(_:t<=12)(_:bI e t tb)(_:tb.length<=60)(_:H c=some (.lst (cs.map V.int)))(_:cs.length=t.toNat)(_:(∀ k,k+1<cs.length->-d<=cM cs (k+1)-cM cs k/\cM cs (k+1)-cM cs k<=u))(_:(∀ zs:List Int,zs.Nodup->(∀ i,i∈zs↔fS tb cs i)->(zs.length:Int)<=m))(_:∀ H',aj H H'->Q (.bl true) H')
inductive xj(H:Hp)(v:V)(c:abd)(_:Nat)(σ:St)(H1:Hp):Prop
 | mk(e1:Option V)(_:σ=[some v,some (.ref c),e1])(_:aj H H1)
theorem CV(T:Tx K mg):Ok P w base 3 T.tX (LJ K):=by
 refine bc Cb ?_;rintro _ _ _ _ H _ Q _ hr ⟨v,w,c,e,t,u,d,m,tb,cs,rfl,hW,t1,t2,ay,cj,hc,bf,cX,mE,q⟩;refine⟨_,(ax (aG (PW.pt (bB (bC (bz (aV hU (by rfl) T.gh gd (ae (aa 1) (ae (iz (v:=.ty "list") rfl T.m5 mi rfl) ag))))) (ck (fQ (aV cD (by rfl) T.cA cp (ae (aa 1) ag)) (aq (aa 0) af))))) (au (aA b9)) aH)
  (ax (aG (bC (bz (aV (vO rfl) (by rfl) T.wR vz (ae (cQ (bU.mk (fr:=[]) (ys:=[]) rfl (by decide +kernel) rfl (by decide +kernel) rfl rfl .nil .nil (by decide) rfl) rfl (cC (aa 1)) (λC s2 H2 ex pn=>⟨dg,(aD (ot T) hr (ae (aa 0) ag))⟩)) ag)))) (au (aA b9)) aH)
  (ax (cI abJ rfl (gT rfl T.fw (ae (aN dB (aq (aa 0) af) af) ag)) (b8 2 Cb.nd) (au (aG (bC (bz (aD (wY T) hr (ae (aS (ae (aN dB af (aq (aa 0) af)) (ae (aq (aa 0) af) ag))) (ae (aN dB (aq (aa 1) (aN bZ (aa 2) af)) (aq (aa 1) (aa 2))) ag))))) (au (aA b9)) aH)))
  (au (aA (fe (kB gW) (aD (W0 T) hr (ae (aa 0) (ae (aa 1) ag))) (aq (aa 0) af) (da _))))))),?_⟩
 obtain⟨r,rfl,hR,hT⟩:=id hW;refine aC (xj H (.ref r) c 0) (λN hN=>?_) ?_
 .rfl';refine vA hc ?_;rfl';refine⟨_,dO (ai.of hc),ak (ah.of hR) (v:=.int t) rfl ?_⟩;rw[aa2,bf];rfl';rw[if_neg (λz=>z (by lia))];exact hN _ _ ⟨_,rfl,aj.refl _⟩
 rintro _ yR σ H1 ⟨e1,rfl,s1⟩;subst yR;refine aC (xj H (.ref r) c 0) (λN hN=>?_) ?_
 .rfl';refine⟨⟨_,ai.of (s1 _ _ hc)⟩,cJ gv (abb (by rw[aa2];lia:(cs.map V.int).length<=100) (by decide)) (lj (R:=λx (n:Int)=>x=V.int n) (as:=cs) (p:=λ_=>true) (f:=λ_=>.bl true) (ai.of (s1 _ _ hc)) ?_ (λ_ _ _ _ Q h=>h) (λx n _ _ r Q h=>?_) λl hl=>?_)⟩
  .exact az.xh (by rw[aa2]) λj x a h1 h2=>by rw[abh,h2] at h1;cases h1;rfl
  .subst r;rfl';refine⟨_,rfl,.inr ⟨_,rfl⟩,?_⟩;simp only[isWhole];exact h
  .rw[abr,ac8.mpr λ_ _=>rfl];refine⟨l,rfl,cs.map λ_=>true,ai.of (by rw[aw,abS];rfl),?_⟩;rw[if_neg (by simp)];exact hN _ _ ⟨_,rfl,s1.trans (ao hl)⟩
 rintro _ yR σ H2 ⟨e1,rfl,s2⟩;subst yR;refine aC (xj H (.ref r) c 0) (λN hN=>?_) ?_
 .rfl';refine ak (ah.of (s2 _ _ hR)) (v:=.int t) rfl ?_;rfl';refine⟨by lia,by lia,oZ (xj H (.ref r) c) ⟨_,rfl,s2⟩ ?_ (λσ H3 ⟨e1,h1,h2⟩=>hN _ _ ⟨e1,h1,h2⟩)⟩;rintro i σ H3 hi ⟨e1,rfl,s3⟩;rfl';refine ak (ah.of (s3 _ _ hR)) (v:=.int d) rfl (ak (ah.of (s3 _ _ hR)) (v:=.int u) rfl ⟨aW,λp hp=>?_⟩);have u4:=ao (o:=.tup [.int (0-d),.int u]) hp;have S4:=s3.trans u4;have bi:i+1<cs.length:=by lia
  refine bJ (ai.of (S4 _ _ hc)) (int_at (by lia) (by lia)) (bJ (ai.of (S4 _ _ hc)) (int_at (by lia) (by lia)) ⟨p,some (0-d),some u,_,rfl,ah.of aw,?_⟩);have hs:=cX i bi;unfold cM at hs;rw[show ((0:Int)+(i:Int)+1).toNat=i+1 by lia,show ((0:Int)+(i:Int)).toNat=i by lia,vT.mpr ⟨λx hx=>by cases hx;lia,λx hx=>by cases hx;lia⟩];rfl';exact⟨_,rfl,S4⟩
 rintro _ yR σ H3 ⟨e1,rfl,s3⟩;subst yR;rfl';refine⟨.ref r,w,c,e,t,u,d,m,tb,cs,rfl,hW.same s3,ay,cj,ai.of (s3 _ _ hc),bf,λzs H4 s4 hz hm=>?_⟩;rfl';refine ak (ah.of ((s3.trans s4) _ _ hR)) (v:=.int m) rfl ?_;rfl';rw[decide_eq_true (mE zs hz hm)];exact q _ (s3.trans s4)
noncomputable def gP(s:S2):W2:=if aT s.1 s.2=true then none else some s
theorem Yn(h:gP s=some x):s=x/\aT s.1 s.2=false:=by
 unfold gP at h;split at h
 .cases h
 .rename_i hc;exact⟨Option.some.inj h,by simpa using hc⟩
theorem LK(h:gP s=none):aT s.1 s.2=true:=by
 unfold gP at h;split at h
 .rename_i hc;exact hc
 .cases h
theorem CW:∀ {gs:List S2} {fs:List S2},gs.map gP=fs.map some->gs=fs/\∀ x∈gs,aT x.1 x.2=false
 | [],[],_=>⟨rfl,λ_ h=>nomatch h⟩
 | [],_::_,h=>nomatch h
 | _::_,[],h=>nomatch h
 | g::gs,f::fs,h=>by
  obtain⟨h1,h2⟩:=List.cons.inj h;obtain⟨rfl,h3⟩:=Yn h1;obtain⟨rfl,h4⟩:=CW h2;refine⟨rfl,λx hx=>?_⟩;rcases abl.mp hx with rfl|hx
  .exact h3
  .exact h4 x hx
theorem Yo(h:az (λv x=>aM H v x.1 x.2) ys sl)(e:sl.map gP=pp.map gF):gx H ys pp/\(∀ x∈sl,aT x.1 x.2=false)/\sl.length=pp.length:=by obtain⟨rfl,h2⟩:=CW (fs:=pp.map λp=>(some p.1,some p.2)) (by rw[e,abS];rfl);refine⟨?_,h2,by rw[aa2]⟩;exact (az.bind h:az (λv (p:P2)=>aM H v (some p.1) (some p.2)) ys pp)
inductive qI(H:Hp)(wv:V)(w s gl:abd)(sl gs:List S2)(e t u d m:Int)(tb:Tb):Prop
 | mk(ys zs:List V)(_:iu H wv w e t u d m tb)(_:H s=some (.lst ys))(_:az (λv x=>aM H v x.1 x.2) ys sl)(_:H gl=some (.lst zs))(_:az (λv x=>aM H v x.1 x.2) zs gs)(_:gs.length=sl.length+1)(_:sl.length<=900)(_:(tb.map (·.1)).Nodup)(_:∀ r∈tb,r.1.2.toNat<=sl.length)
theorem qI.same(h:qI H wv w s gl sl gs e t u d m tb)(x:aj H H'):qI H' wv w s gl sl gs e t u d m tb:=let ⟨ys,zs,a,b,c,d,e,f,g,i,j⟩:=h;⟨ys,zs,a.same x,x _ _ b,c.imp λ_ _ r=>r.same x,x _ _ d,e.imp λ_ _ r=>r.same x,f,g,i,j⟩
inductive fU(H:Hp)(v:V)(sw gw:List W2)(tb:Tb)(m:Int)(as:List Int)(N:Nat):Prop
 | ng (k:abd) (j:Nat) (_:v = .ref k) (_:H k=some (.tup [.str "step",.int (j:Int)])) (_:sw[j]?=some none)
 | gol (k:abd) (j:Nat) (_:v = .ref k) (_:H k=some (.tup [.str "at",.int (j:Int)])) (_:gw[j]?=some none)
 | pap (t:Pp) (pp:List P2) (gs:List S2) (_:e9 H v t) (_:dJ t<N) (_:sw=pp.map gF) (_:gw=gs.map some) (_:Val pp gs tb m t as)
theorem fU.same{H H':Hp}{v:V}{sw gw:List W2}{tb:Tb}{m:Int}{as:List Int}{N:Nat}(h:fU H v sw gw tb m as N)(s:aj H H'):fU H' v sw gw tb m as N:=by
 rcases h with ⟨k,j,e,h1,h2⟩|⟨k,j,e,h1,h2⟩|⟨t,pp,gs,h1,h2,h3,h4,h5⟩
 .exact .ng k j e (s _ _ h1) h2
 .exact .gol k j e (s _ _ h1) h2
 .exact .pap t pp gs (h1.same s) h2 h3 h4 h5
inductive xk(K:aa0)(N:Nat)(vs:List V)(H:Hp)(Q:VK)(aP:XK):Prop
 | mk(wv v:V)(w s gl z:abd)(e t u d m:Int)(sl gs:List S2)(tb:Tb)(as:List Int)(_:vs=[wv,.ref s,.ref gl,v,.ref z])(_:0<N)(_:N<=10)(_:qI H wv w s gl sl gs e t u d m tb)(_:H z=some (.lst (as.map V.int)))(_:as.length+N<=30)(_:fU H v (sl.map gP) (gs.map gP) tb m as N)(_:∀ H',aj H H'->Q (.bl true) H')
def LL(pp:List P2)(fs:List S2)(tb:Tb)(m:Int)(a:Pp)(as:List Int)(o:En):Prop:=match o with|none=>a = .nil|some e=>Val pp fs tb m a (as++[e])
inductive LM(K:aa0)(N:Nat)(vs:List V)(H:Hp)(Q:VK)(aP:XK):Prop
 | mk(wv v:V)(w s gl z:abd)(e t u d m:Int)(sl gs fs:List S2)(pp:List P2)(tb:Tb)(as:List Int)(o:En)(a:Pp)(_:vs=[wv,.ref s,.ref gl,v,ev o,.ref z])(_:N<=10)(_:qI H wv w s gl sl gs e t u d m tb)(_:H z=some (.lst (as.map V.int)))(_:as.length+1+N<=30)(_:e9 H v a)(_:dJ a<N)(_:sl.map gP=pp.map gF)(_:gs.map gP=fs.map some)(_:LL pp fs tb m a as o)(_:∀ H',aj H H'->Q (.bl true) H')
inductive Yp(K:aa0)(N:Nat)(vs:List V)(H:Hp)(Q:VK)(aP:XK):Prop
 | mk(wv v:V)(w s gl z:abd)(e t u d m:Int)(sl gs fs:List S2)(pp:List P2)(tb:Tb)(as:List Int)(c:Cl)(a b:Pp)(_:vs=[wv,.ref s,.ref gl,v,.ref z])(_:N<=10)(_:qI H wv w s gl sl gs e t u d m tb)(_:H z=some (.lst (as.map V.int)))(_:as.length+1+N<=30)(_:e9 H v (.cls c a b))(_:dJ a<N)(_:dJ b<N)(_:sl.map gP=pp.map gF)(_:gs.map gP=fs.map some)(_:Val pp fs tb m (.cls c a b) as)(_:∀ H',aj H H'->Q (.bl true) H')
theorem LN(T:Tx K mg)(N:Nat)(ih:Ok P w base (3 * N+3) T.ip (xk K N)):Ok P w base (3 * N+4) T.iU (LM K N):=by
 refine okN T.iU.F Kn.1 (λvs H Q E h=>?_) (λa7 A outer s H vs Q E hr h=>?_)
 .obtain⟨wv,v,w,s,gl,z,e,t,u,d,m,sl,gs,fs,pp,tb,as,o,a,rfl,_⟩:=h;rfl
 .obtain⟨wv,v,w,s,gl,z,e,t,u,d,m,sl,gs,fs,pp,tb,as,o,a,rfl,hN,hK,hz,hl,ha,la,e1,e2,hv,q⟩:=h;refine⟨_,(ax (aG (dC (aa 4)) (au (aA (jS (nq (aa 3))))) aH)
  (au (aA (bR ih (hr.mono (by lia)) rfl T.ip.m T.ip.F.kp T.ip.b .nil bb (ae (aa 0) (ae (aa 1) (ae (aa 2) (ae (aa 3) (ae (aN mh (aa 5) (cO (ae (aa 4) ag))) ag))))))))),?_⟩
  rfl';cases o with
  | none =>
   obtain rfl:a = .nil:=hv;obtain rfl:v = .non:=ha;rfl';exact q _ (aj.refl _)
  | some x =>
   rfl';refine⟨by decide,λp1 gM=>?_⟩;have u1:=ao (o:=.lst [.int x]) gM;refine⟨_,u1 _ _ hz,_,aw,abb (by rw[aa2,abv];lia:_<=100) (by decide),λp2 fM=>?_⟩;have u2:=ao (o:=.lst (as.map V.int++[.int x])) fM;have U:=u1.trans u2;exact⟨wv,v,w,s,gl,p2,e,t,u,d,m,sl,gs,tb,as++[x],rfl,by lia,hN,hK.same U,by rw[aco];exact aw,by rw[abf,abv];lia,.pap a pp fs (ha.same U) la e1 e2 hv,λH' s'=>q _ (U.trans s')⟩
theorem LO(h:jr gs tb as s m)(hg:gs.length=n+1)(ht:∀ r∈tb,r.1.2.toNat<=n):m.1<=n:=by
 obtain⟨e,h⟩:=h;rw[e];obtain⟨o,k⟩:=s;cases o with
 | none =>
  have:=(aa7.mp (show gs[k]?=some m.2 from h)).1;show k<=n;lia
 | some x=>exact ht _ h.2
theorem Yq(T:Tx K mg)(N:Nat)(ih:Ok P w base (3 * N+3) T.ip (xk K N)):Ok P w base (3 * N+5) T.lT (Yp K N):=by
 refine okN T.lT.F wO.1 (λvs H Q E h=>?_) (λa7 A outer s H vs Q E hr h=>?_)
 .obtain⟨wv,v,w,s,gl,z,e,t,u,d,m,sl,gs,fs,pp,tb,as,c,a,b,rfl,_⟩:=h;rfl
 .obtain⟨wv,v,w,s,gl,z,e,t,u,d,m,sl,gs,fs,pp,tb,as,⟨⟨o,i⟩,⟨o2,i2⟩⟩,a,b,rfl,hM,hK,hz,hl,⟨k,p,p2,x,y,rfl,hk,hp,fM,hx,hy⟩,la,lb,e1,e2,⟨⟨mm,nn,mA,mB,bf⟩,va,vb⟩,q⟩:=h;refine⟨_,(ax (i6 (i:=5) wO.nd rfl (aeO rfl) (bR (LF T) (hr.mono (by lia)) rfl T.jG.m T.jG.F.kp T.jG.b .nil bb (ae (aa 0) (ae (aa 2) (ae (bD bE (aa 3) af (λ_ _=>rfl)) (ae (aa 4) ag))))))
  (ax (i6 (i:=6) wO.nd rfl (aeO rfl) (bR (LF T) (hr.mono (by lia)) rfl T.jG.m T.jG.F.kp T.jG.b .nil bb (ae (aa 0) (ae (aa 2) (ae (bD bE (aa 3) af (λ_ _=>rfl)) (ae (aa 4) ag))))))
  (ax (aG (PW.pt (bB (dC (aa 5)) (bB (dC (aa 6)) (ck (bz (aV (zi rfl) (by rfl) T.Cg yE (ae (cQ (bU.mk (fr:=[]) (ys:=[]) rfl (by decide +kernel) rfl (by decide +kernel) rfl rfl .nil .nil (by decide) rfl) rfl (cC (aa 1)) (λC s2 H2 ex pn=>⟨dg,(bR (Ct T) (hr.mono (by lia)) rfl T.jF.m T.jF.F.kp T.jF.b .nil bb (ae (aa 0) ag))⟩)) ag))))))) (au (aA b9)) aH)
  (ax (aG (PW.pt (bB (dC (bD bE (aa 5) af (λ_ _=>rfl))) (ck (dC (bD bE (aa 6) af (λ_ _=>rfl)))))) (au (aA b9)) aH)
  (ax (aG (Vh (bD bE (aa 6) af (λ_ _=>rfl)) (aN bZ (bD bE (aa 5) af (λ_ _=>rfl)) (bR (Yh T) (hr.mono (by lia)) rfl T.mY.m T.mY.F.kp T.mY.b .nil bb (ae (aa 1) (ae (bD bE (bD bE (aa 3) af (λ_ _=>rfl)) af (λ_ _=>rfl)) (ae (bD bE (bD bE (aa 3) af (λ_ _=>rfl)) af (λ_ _=>rfl)) ag)))))) (au (aA b9)) aH)
  (ax (aG (bC (bz (bR (LN T N ih) (hr.mono (by lia)) rfl T.iU.m T.iU.F.kp T.iU.b .nil bb (ae (aa 0) (ae (aa 1) (ae (aa 2) (ae (bD bE (aa 3) af (λ_ _=>rfl)) (ae (bD bE (bD bE (aa 3) af (λ_ _=>rfl)) af (λ_ _=>rfl)) (ae (aa 4) ag))))))))) (au (aA b9)) aH)
  (ax (aG (PW.pt (i5 (fR (bD bE (bD bE (aa 3) af (λ_ _=>rfl)) af (λ_ _=>rfl))) (jT (bT (bD bE (bD bE (aa 3) af (λ_ _=>rfl)) af (λ_ _=>rfl)) (bD bE (bD bE (aa 3) af (λ_ _=>rfl)) af (λ_ _=>rfl)))))) (au (aA (jS (nq (bD bE (aa 3) af (λ_ _=>rfl)))))) aH)
  (au (aA (bR (LN T N ih) (hr.mono (by lia)) rfl T.iU.m T.iU.F.kp T.iU.b .nil bb (ae (aa 0) (ae (aa 1) (ae (aa 2) (ae (bD bE (aa 3) af (λ_ _=>rfl)) (ae (bD bE (bD bE (aa 3) af (λ_ _=>rfl)) af (λ_ _=>rfl)) (ae (aa 4) ag)))))))))))))))),?_⟩
  obtain⟨ys,zs,hW,hs,hS,hg,hG,jw,hn,fu,hle⟩:=id hK;obtain⟨rfl,cH⟩:=CW e2;obtain⟨hP,hcs,eJ⟩:=Yo hS e1;dsimp only at va vb hp fM;have lt:∀ r∈tb,r.1.2.toNat<gs.length:=λr hr=>by have:=hle r hr;lia
  refine aC (λσ H1=>∃ v1,σ=[some wv,some (.ref s),some (.ref gl),some (.ref k),some (.ref z),some v1,none]/\H1=H/\aM H v1 mm.2.1 mm.2.2) (λN hN=>?_) ?_
  .rfl';exact ak (ah.of hk) (v:=.ref p) rfl ⟨wv,w,p,gl,z,e,t,u,d,m,zs,gs,tb,as,(o,i),mm,rfl,hW,fu,hp,ai.of hg,hG,cH,hz,mA,lt,λv1 h1=>hN _ _ ⟨v1,rfl,rfl,h1⟩⟩
  rintro _ yR σ H1 ⟨v1,rfl,rfl,q1,rfl,uF⟩;subst yR;refine aC (λσ H2=>∃ v2,σ=[some wv,some (.ref s),some (.ref gl),some (.ref k),some (.ref z),some (.ref q1),some v2]/\H2=H1/\aM H1 v2 nn.2.1 nn.2.2) (λN hN=>?_) ?_
  .rfl';exact ak (ah.of hk) (v:=.ref p2) rfl ⟨wv,w,p2,gl,z,e,t,u,d,m,zs,gs,tb,as,(o2,i2),nn,rfl,hW,fu,fM,ai.of hg,hG,cH,hz,mB,lt,λv1 h1=>hN _ _ ⟨v1,rfl,rfl,h1⟩⟩
  rintro _ yR σ H2 ⟨v2,rfl,rfl,q2,rfl,CY⟩;subst yR;refine aC (λσ H3=>σ=[some wv,some (.ref s),some (.ref gl),some (.ref k),some (.ref z),some (.ref q1),some (.ref q2)]/\aj H2 H3) (λN hN=>?_) ?_
  .rfl';refine⟨⟨_,ai.of hs⟩,cJ gv (abb (by rw[hS.len];lia:ys.length<=1000) (by decide)) (lj (R:=λx (n:S2)=>aM H2 x n.1 n.2) (as:=sl) (p:=λ_=>true) (f:=λ_=>.bl false) (ai.of hs) hS (λ_ _ _ _ Q h=>h) (λx n hn _ r Q h=>?_) λl hl=>?_)⟩
   .obtain⟨pa,rfl,lV⟩:=r;rfl';refine⟨pa,n.1,n.2,rfl,ah.of lV,?_⟩;rw[hcs n hn];exact h
   .rw[abr,ac8.mpr λ_ _=>rfl];refine⟨l,rfl,sl.map λ_=>false,ai.of (by rw[aw,abS];rfl),?_⟩;rw[if_neg (by simp)];exact hN _ _ ⟨rfl,ao hl⟩
  rintro _ yR σ H3 ⟨rfl,s3⟩;subst yR;obtain⟨hh,ll,h1,h2,h3⟩:=bf;rw[h1] at uF;rw[h2] at CY;refine aC (λσ H4=>σ=[some wv,some (.ref s),some (.ref gl),some (.ref k),some (.ref z),some (.ref q1),some (.ref q2)]/\H4=H3) (λN hN=>?_) ?_
  .rfl';refine ak (ah.of (s3 _ _ uF)) (v:=.int hh) rfl ?_;rfl';refine ak (ah.of (s3 _ _ CY)) (v:=.int ll) rfl ?_;rfl';exact hN _ _ ⟨rfl,rfl⟩
  rintro _ yR σ H4 ⟨rfl,rfl⟩;subst yR;refine aC (λσ H5=>σ=[some wv,some (.ref s),some (.ref gl),some (.ref k),some (.ref z),some (.ref q1),some (.ref q2)]/\aj H2 H5) (λN hN=>?_) ?_
  .rfl';refine ak (ah.of (s3 _ _ CY)) (v:=.int ll) rfl (ak (ah.of (s3 _ _ uF)) (v:=.int hh) rfl (ak (ah.of (s3 _ _ hk)) (v:=.ref p) rfl (ak (ah.of (s3 _ _ hp)) (v:=.int i) rfl (ak (ah.of (s3 _ _ hk)) (v:=.ref p2) rfl (ak (ah.of (s3 _ _ fM)) (v:=.int i2) rfl ?_)))));have ma:=LO mA jw hle;have mb:=LO mB jw hle;have ea:mm.1=i:=mA.1;have eb:nn.1=i2:=mB.1;rw[ea] at ma h3;rw[eb] at mb h3;refine⟨s,ys,pp,i,i2,rfl,ai.of (s3 _ _ hs),hP.imp λ_ _ r=>r.same s3,by lia,by lia,by lia,λH5 s5=>?_⟩;rfl';rw[if_neg (by lia)];exact hN _ _ ⟨rfl,s3.trans s5⟩
  rintro _ yR σ H5 ⟨rfl,s5⟩;subst yR;refine aC (λσ H6=>σ=[some wv,some (.ref s),some (.ref gl),some (.ref k),some (.ref z),some (.ref q1),some (.ref q2)]/\aj H2 H6) (λN hN=>?_) ?_
  .rfl';refine ak (ah.of (s5 _ _ hk)) (v:=x) rfl (ak (ah.of (s5 _ _ hk)) (v:=.ref p) rfl (ak (ah.of (s5 _ _ hp)) (v:=ev o) rfl ?_));refine⟨wv,x,w,s,gl,z,e,t,u,d,m,sl,gs,gs,pp,tb,as,o,a,rfl,hM,hK.same s5,s5 _ _ hz,hl,hx.same s5,la,e1,e2,va,λH6 s6=>?_⟩;rfl';exact hN _ _ ⟨rfl,s5.trans s6⟩
  rintro _ yR σ H6 ⟨rfl,s6⟩;subst yR;rfl';have last:∀ R:V->Hp->Prop,(∀ H',aj H2 H'->R (.bl true) H')->LL pp gs tb m b as o2->kR K (.ref k) (.int 4) H6 λx H1=>kR K (.ref k) (.int 2) H1 λYr H1=>kR K Yr (.int 0) H1 λYs H1=>LM K N [wv,.ref s,.ref gl,x,Ys,.ref z] H1 R E0:=λR hR hv =>
   ak (ah.of (s6 _ _ hk)) (v:=y) rfl (ak (ah.of (s6 _ _ hk)) (v:=.ref p2) rfl (ak (ah.of (s6 _ _ fM)) (v:=ev o2) rfl ⟨wv,y,w,s,gl,z,e,t,u,d,m,sl,gs,gs,pp,tb,as,o2,b,rfl,hM,hK.same s6,s6 _ _ hz,hl,hy.same s6,lb,e1,e2,hv,λH7 s7=>hR _ (s6.trans s7)⟩))
  refine ak (ah.of (s6 _ _ hk)) (v:=.ref p) rfl (ak (ah.of (s6 _ _ hp)) (v:=ev o) rfl ?_);cases o with
  | none =>
   rfl';refine last _ q ?_;cases o2 with
   | none=>exact vb
   | some x=>exact vb
  | some x0 =>
   rfl';refine ak (ah.of (s6 _ _ hk)) (v:=.ref p) rfl (ak (ah.of (s6 _ _ hp)) (v:=.int x0) rfl (ak (ah.of (s6 _ _ hk)) (v:=.ref p2) rfl (ak (ah.of (s6 _ _ fM)) (v:=ev o2) rfl ?_)));refine Lp (o:=some x0) (o':=o2) ?_;cases o2 with
   | none=>exact last _ q vb
   | some x2 =>
    replace vb:if (some x0:En)=some x2 then b = .nil else Val pp gs tb m b (as++[x2]):=vb
    by_cases he:(some x0:En)=some x2
    .rw[decide_eq_true he];rw[if_pos he] at vb;subst vb;obtain rfl:y = .non:=hy;exact ak (ah.of (s6 _ _ hk)) (v:=.non) rfl (q _ s6)
    .rw[decide_eq_false he];rw[if_neg he] at vb;exact last _ q vb
theorem Yt(T:Tx K mg):∀ N,Ok P w base (3 * N+3) T.ip (xk K N):=by
 intro N
 induction N with
 | zero =>
  refine okN T.ip.F qr.1 (λvs H Q E h=>?_) (λa7 A outer s H vs Q E hr h=>?_)
  .obtain⟨wv,v,w,s,gl,z,e,t,u,d,m,sl,gs,tb,as,rfl,hN,_⟩:=h;exact absurd hN (acu _)
  .obtain⟨wv,v,w,s,gl,z,e,t,u,d,m,sl,gs,tb,as,rfl,hN,_⟩:=h;exact absurd hN (acu _)
 | succ N ih =>
  refine okN T.ip.F qr.1 (λvs H Q E h=>?_) (λa7 A outer s H vs Q E hr h=>?_)
  .obtain⟨wv,v,w,s,gl,z,e,t,u,d,m,sl,gs,tb,as,rfl,_⟩:=h;rfl
  .obtain⟨wv,v,w,s,gl,z,e,t,u,d,m,sl,gs,tb,as,rfl,_,hM,hK,hz,hl,hR,q⟩:=h;refine⟨_,(ax (aG (PW.pt (bB (bC (bz (aV hU (by rfl) T.gh gd (ae (aa 3) (ae (iz (v:=.ty "tuple") rfl T.ue rB rfl) ag))))) (ck (bT (aV cD (by rfl) T.cA cp (ae (aa 3) ag)) af)))) (au (aA b9)) aH)
    (ax (aG (bT (bD bE (aa 3) af (λ_ _=>rfl)) bp) (au (aA (fv (fe md (aV cD (by rfl) T.cA cp (ae (aa 3) ag)) af (da _)) (eU (fe (kB rg) (aV cD (by rfl) T.cA cp (ae (aa 4) ag)) (bD bE (aa 0) af (λ_ _=>rfl)) (da _)))))) aH)
    (ax (aG (bT (bD bE (aa 3) af (λ_ _=>rfl)) bp) (au (aA (fv (fe md (aV cD (by rfl) T.cA cp (ae (aa 3) ag)) af (da _)) (eU (bR (Yq T N ih) (hr.mono (by lia)) rfl T.lT.m T.lT.F.kp T.lT.b .nil bb (ae (aa 0) (ae (aa 1) (ae (aa 2) (ae (aa 3) (ae (aa 4) ag)))))))))) aH)
    (ax (i6 (i:=5) qr.nd rfl (aeO rfl) (cO ag))
    (ax (aG (bT (bD bE (aa 3) af (λ_ _=>rfl)) bp) (au (i6 (i:=5) qr.nd rfl (aeO rfl) (aa 1))) aH)
    (ax (aG (bT (bD bE (aa 3) af (λ_ _=>rfl)) bp) (au (i6 (i:=5) qr.nd rfl (aeO rfl) (aa 2))) aH)
    (ax (aG (PW.pt (bB (fQ (aV cD (by rfl) T.cA cp (ae (aa 3) ag)) af) (bB (bC (bz (bR (ot T) (hr.mono (by lia)) rfl T.mX.m T.mX.F.kp T.mX.b .nil bb (ae (bD bE (aa 3) af (λ_ _=>rfl)) ag)))) (bB (lM (bD bE (aa 3) af (λ_ _=>rfl)) af) (ck (Jo (bD bE (aa 3) af (λ_ _=>rfl)) (aV cD (by rfl) T.cA cp (ae (aa 5) ag)))))))) (au (aA b9)) aH)
    (au (aA (bR (Ct T) (hr.mono (by lia)) rfl T.jF.m T.jF.F.kp T.jF.b .nil bb (ae (bD bE (aa 5) (bD bE (aa 3) af (λ_ _=>rfl)) (λ_ _=>rfl)) ag))))))))))),?_⟩
   obtain⟨ys,zs,hW,hs,hS,hg,hG,jw,hn,fu,hle⟩:=id hK;have CC:∃ (k:abd) (u:V) (us:List V),v = .ref k/\H k=some (.tup (u::us)):=by
    rcases hR with ⟨k,j,rfl,hk,hj⟩|⟨k,j,rfl,hk,hj⟩|⟨t,pp,fs,hp,hh,e1,e2,hv⟩
    .exact⟨k,_,_,rfl,hk⟩
    .exact⟨k,_,_,rfl,hk⟩
    .cases t with
     | nil=>exact hv.elim
     | full=>obtain⟨r,rfl,h⟩:=hp;exact⟨r,_,_,rfl,h⟩
     | cls c a b=>obtain⟨r,_,_,_,_,rfl,h,_⟩:=hp;exact⟨r,_,_,rfl,h⟩
   obtain⟨k,u0,us,rfl,hku⟩:=CC;refine aC (λσ H2=>σ=[some wv,some (.ref s),some (.ref gl),some (.ref k),some (.ref z),none]/\H2=H) (λN hN=>?_) ?_
   .rfl';refine mj hku ?_;rfl';refine⟨_,mn (ah.of hku),?_⟩;refine aX (λh0=>absurd h0 (by rw[abX];lia)) λ_=>hN _ _ ⟨rfl,rfl⟩
   rintro _ yR σ H2 ⟨rfl,rfl⟩;subst yR;rcases hR with ⟨k2,j,e1,hk,hj⟩|⟨k2,j,e1,hk,hj⟩|⟨tt,pp,fs,hp,hh,e1,e2,hv⟩
   .cases e1;refine aC (λσ H3=>σ=[some wv,some (.ref s),some (.ref gl),some (.ref k),some (.ref z),none]/\H3=H2) (λN hN=>?_) ?_
    .rfl';refine ak (ah.of hk) (v:=.str "step") rfl ?_;rfl'
     first|exact hN _ _ ⟨rfl,rfl⟩|exact aX (λh=>absurd h (by decide)) λ_=>hN _ _ ⟨rfl,rfl⟩
    rintro _ yR σ H3 ⟨rfl,rfl⟩;subst yR;refine aC (λσ H4=>σ=[some wv,some (.ref s),some (.ref gl),some (.ref k),some (.ref z),none]/\H4=H3) (λN hN=>?_) ?_
    .rfl';refine ak (ah.of hk) (v:=.str "step") rfl ?_;rfl'
     first|exact hN _ _ ⟨rfl,rfl⟩|exact aX (λh=>absurd h (by decide)) λ_=>hN _ _ ⟨rfl,rfl⟩
    rintro _ yR σ H4 ⟨rfl,rfl⟩;subst yR;refine aC (λσ H5=>∃ l0,σ=[some wv,some (.ref s),some (.ref gl),some (.ref k),some (.ref z),some (.ref l0)]/\aj H4 H5) (λN hN=>?_) ?_
    .rfl';exact⟨by decide,λp hp=>hN _ _ ⟨p,rfl,ao hp⟩⟩
    rintro _ yR σ H5 ⟨l0,rfl,s5⟩;subst yR;refine aC (λσ H6=>σ=[some wv,some (.ref s),some (.ref gl),some (.ref k),some (.ref z),some (.ref s)]/\H6=H5) (λN hN=>?_) ?_
    .rfl';refine ak (ah.of (s5 _ _ hk)) (v:=.str "step") rfl ?_;rfl'
     first|exact hN _ _ ⟨rfl,rfl⟩|exact aX (λh=>absurd h (by decide)) λ_=>hN _ _ ⟨rfl,rfl⟩
    rintro _ yR σ H6 ⟨rfl,rfl⟩;subst yR;refine aC (λσ H7=>σ=[some wv,some (.ref s),some (.ref gl),some (.ref k),some (.ref z),some (.ref s)]/\H7=H6) (λN hN=>?_) ?_
    .rfl';refine ak (ah.of (s5 _ _ hk)) (v:=.str "step") rfl ?_;rfl'
     first|exact hN _ _ ⟨rfl,rfl⟩|exact aX (λh=>absurd h (by decide)) λ_=>hN _ _ ⟨rfl,rfl⟩
    rintro _ yR σ H7 ⟨rfl,rfl⟩;subst yR;rw[abh] at hj;obtain⟨sj,hsj,hcj⟩:=abF.mp hj;obtain⟨vj,hvj,pj,rfl,hpj⟩:=hS.at hsj;have jl:=(aa7.mp hvj).1;refine aC (λσ H8=>σ=[some wv,some (.ref s),some (.ref gl),some (.ref k),some (.ref z),some (.ref s)]/\H8=H7) (λN hN=>?_) ?_
    .rfl';refine⟨_,mn (ah.of (s5 _ _ hk)),?_⟩;rfl';refine ak (ah.of (s5 _ _ hk)) (v:=.int j) rfl ⟨_,rfl,.inr ⟨_,rfl⟩,?_⟩;simp only[isWhole];rfl';refine ak (ah.of (s5 _ _ hk)) (v:=.int j) rfl ?_;rfl';refine aX (λh0=>absurd h0 (by lia)) λ_=>ak (ah.of (s5 _ _ hk)) (v:=.int j) rfl ⟨_,dO (ai.of (s5 _ _ hs)),?_⟩;rfl';exact aX (λh0=>absurd h0 (by lia)) λ_=>hN _ _ ⟨rfl,rfl⟩
    rintro _ yR σ H8 ⟨rfl,rfl⟩;subst yR;rfl';refine ak (ah.of (s5 _ _ hk)) (v:=.int j) rfl (bJ (ai.of (s5 _ _ hs)) (eL hvj) ⟨pj,sj.1,sj.2,rfl,ah.of (s5 _ _ hpj),?_⟩);rw[LK hcj];exact q _ s5
   .cases e1;refine aC (λσ H3=>σ=[some wv,some (.ref s),some (.ref gl),some (.ref k),some (.ref z),none]/\H3=H2) (λN hN=>?_) ?_
    .rfl';refine ak (ah.of hk) (v:=.str "at") rfl ?_;rfl'
     first|exact hN _ _ ⟨rfl,rfl⟩|exact aX (λh=>absurd h (by decide)) λ_=>hN _ _ ⟨rfl,rfl⟩
    rintro _ yR σ H3 ⟨rfl,rfl⟩;subst yR;refine aC (λσ H4=>σ=[some wv,some (.ref s),some (.ref gl),some (.ref k),some (.ref z),none]/\H4=H3) (λN hN=>?_) ?_
    .rfl';refine ak (ah.of hk) (v:=.str "at") rfl ?_;rfl'
     first|exact hN _ _ ⟨rfl,rfl⟩|exact aX (λh=>absurd h (by decide)) λ_=>hN _ _ ⟨rfl,rfl⟩
    rintro _ yR σ H4 ⟨rfl,rfl⟩;subst yR;refine aC (λσ H5=>∃ l0,σ=[some wv,some (.ref s),some (.ref gl),some (.ref k),some (.ref z),some (.ref l0)]/\aj H4 H5) (λN hN=>?_) ?_
    .rfl';exact⟨by decide,λp hp=>hN _ _ ⟨p,rfl,ao hp⟩⟩
    rintro _ yR σ H5 ⟨l0,rfl,s5⟩;subst yR;refine aC (λσ H6=>σ=[some wv,some (.ref s),some (.ref gl),some (.ref k),some (.ref z),some (.ref l0)]/\H6=H5) (λN hN=>?_) ?_
    .rfl';refine ak (ah.of (s5 _ _ hk)) (v:=.str "at") rfl ?_;rfl'
     first|exact hN _ _ ⟨rfl,rfl⟩|exact aX (λh=>absurd h (by decide)) λ_=>hN _ _ ⟨rfl,rfl⟩
    rintro _ yR σ H6 ⟨rfl,rfl⟩;subst yR;refine aC (λσ H7=>σ=[some wv,some (.ref s),some (.ref gl),some (.ref k),some (.ref z),some (.ref gl)]/\H7=H6) (λN hN=>?_) ?_
    .rfl';refine ak (ah.of (s5 _ _ hk)) (v:=.str "at") rfl ?_;rfl'
     first|exact hN _ _ ⟨rfl,rfl⟩|exact aX (λh=>absurd h (by decide)) λ_=>hN _ _ ⟨rfl,rfl⟩
    rintro _ yR σ H7 ⟨rfl,rfl⟩;subst yR;rw[abh] at hj;obtain⟨sj,hsj,hcj⟩:=abF.mp hj;obtain⟨vj,hvj,pj,rfl,hpj⟩:=hG.at hsj;have jl:=(aa7.mp hvj).1;refine aC (λσ H8=>σ=[some wv,some (.ref s),some (.ref gl),some (.ref k),some (.ref z),some (.ref gl)]/\H8=H7) (λN hN=>?_) ?_
    .rfl';refine⟨_,mn (ah.of (s5 _ _ hk)),?_⟩;rfl';refine ak (ah.of (s5 _ _ hk)) (v:=.int j) rfl ⟨_,rfl,.inr ⟨_,rfl⟩,?_⟩;simp only[isWhole];rfl';refine ak (ah.of (s5 _ _ hk)) (v:=.int j) rfl ?_;rfl';refine aX (λh0=>absurd h0 (by lia)) λ_=>ak (ah.of (s5 _ _ hk)) (v:=.int j) rfl ⟨_,dO (ai.of (s5 _ _ hg)),?_⟩;rfl';exact aX (λh0=>absurd h0 (by lia)) λ_=>hN _ _ ⟨rfl,rfl⟩
    rintro _ yR σ H8 ⟨rfl,rfl⟩;subst yR;rfl';refine ak (ah.of (s5 _ _ hk)) (v:=.int j) rfl (bJ (ai.of (s5 _ _ hg)) (eL hvj) ⟨pj,sj.1,sj.2,rfl,ah.of (s5 _ _ hpj),?_⟩);rw[LK hcj];exact q _ s5
   .cases tt with
    | nil=>exact hv.elim
    | full =>
     obtain⟨r,er,c9⟩:=hp;cases er;refine aC (λ_ _=>False) (λN hN=>?_) (λ_ _ _ _ h=>h.elim);rfl';refine ak (ah.of c9) (v:=.str "full") rfl ?_;rfl';refine⟨_,mn (ah.of c9),aX (λ_=>?_) λh0=>absurd rfl h0⟩;obtain⟨r9,rfl,Yu,_⟩:=hW;refine⟨_,dO (ai.of hz),ak (ah.of Yu) (v:=.int m) rfl ?_⟩;rfl';rw[aa2,decide_eq_true (show m<((as.length:Nat):Int) from hv)];exact q _ (aj.refl _)
    | cls c a b =>
     obtain⟨r,p,p2,x,y,er,hk,gM,fM,hx,hy⟩:=id hp;cases er;refine aC (λσ H3=>σ=[some wv,some (.ref s),some (.ref gl),some (.ref k),some (.ref z),none]/\H3=H2) (λN hN=>?_) ?_
     .rfl';refine ak (ah.of hk) (v:=.str "clash") rfl ?_;rfl'
      first|exact hN _ _ ⟨rfl,rfl⟩|exact aX (λh=>absurd h (by decide)) λ_=>hN _ _ ⟨rfl,rfl⟩
     rintro _ yR σ H3 ⟨rfl,rfl⟩;subst yR;have HA:dJ a<N:=by have h2:(if dJ a<=dJ b then dJ b else dJ a)+1<N+1:=hh;split at h2<;>lia
     have HB:dJ b<N:=by have h2:(if dJ a<=dJ b then dJ b else dJ a)+1<N+1:=hh;split at h2<;>lia
     refine aC (λ_ _=>False) (λN9 hN=>?_) (λ_ _ _ _ h=>h.elim);rfl';refine ak (ah.of hk) (v:=.str "clash") rfl ?_;rfl';exact⟨_,mn (ah.of hk),aX (λ_=>⟨wv,_,w,s,gl,z,e,t,u,d,m,sl,gs,fs,pp,tb,as,c,a,b,rfl,by lia,hK,hz,by lia,hp,HA,HB,e1,e2,hv,q⟩) λh0=>absurd rfl h0⟩
theorem Yv(T:Tx K mg):Ok P w base 33 T.ip (xk K 10):=Yt T 10
theorem Yw(u d:Int)(ps:List Pa)(n:Nat):((abG n).map (λ(k:Nat)=>bh (some (-d),some u) (sel ps "step" (k:Int)))).map gP=dF u d ps n:=by unfold dF;rw[abS];exact ada λk _=>rfl
theorem Yx(ps:List Pa)(n:Nat):((abG n).map (λ(k:Nat)=>bh (none,none) (sel ps "at" (k:Int)))).map gP=eF ps n:=by unfold eF;rw[abS];exact ada λk _=>rfl
inductive Yy(K:aa0)(vs:List V)(H:Hp)(Q:VK)(aP:XK):Prop
 | mk(wv v:V)(w cl:abd)(e t u d m:Int)(tb:Tb)(xs:List V)(ps:List Pa)(_:vs=[wv,.ref cl,v])(_:iu H wv w e t u d m tb)(_:1<=t)(_:t<=12)(_:bI e t tb)(_:ai K H cl xs)(_:dq H xs ps)(_:ps.length<=900)(_:fU H v (dF u d ps (t-1).toNat) (eF ps t.toNat) tb m [] 10)(_:∀ H',aj H H'->Q (.bl true) H')
theorem LP(T:Tx K mg):Ok P w base 34 T.tZ (Yy K):=by
 refine bc sP ?_;rintro _ _ _ s H _ Q _ hr ⟨wv,v,w,cl,e,t,u,d,m,tb,xs,ps,rfl,hW,t1,t2,ay,hX,hP,hn,hR,q⟩;refine⟨_,(ax (aI 3 sP.nd (aS (ae (aN dB af (aq (aa 0) af)) (ae (aq (aa 0) af) ag))))
  (ax (rH (i:=4) (bU.mk (fr:=[3,1]) (ys:=["_law_own","_law_claim"]) rfl (by decide +kernel) rfl (by decide +kernel) rfl rfl (.cons rfl (.cons rfl .nil)) (.cons rfl rfl rfl rfl (.cons rfl rfl rfl rfl .nil)) (by decide) rfl) rfl sP.nd rfl rfl (gT rfl T.fw (ae (aN dB (aq (aa 0) af) af) ag)) (λC s2 H2 ex pn=>⟨dg,(aD (K6 T) hr (ae (aa 1) (ae (aa 2) (ae bp (ae (aa 0) ag)))))⟩))
  (ax (rH (i:=5) (bU.mk (fr:=[1]) (ys:=["_law_claim"]) rfl (by decide +kernel) rfl (by decide +kernel) rfl rfl (.cons rfl .nil) (.cons rfl rfl rfl rfl .nil) (by decide) rfl) rfl sP.nd rfl rfl (gT rfl T.fw (ae (aq (aa 0) af) ag)) (λC s2 H2 ex pn=>⟨dg,(aD (K6 T) hr (ae (aS (ae b5 (ae b5 ag))) (ae (aa 1) (ae bp (ae (aa 0) ag)))))⟩))
  (au (aA (aD (Yv T) hr (ae (aa 0) (ae (aa 4) (ae (aa 5) (ae (aa 2) (ae (cO ag) ag))))))))))),?_⟩
 obtain⟨r,rfl,dE,hT⟩:=id hW;refine aC (λσ H1=>∃ p,σ=[some (.ref r),some (.ref cl),some v,some (.ref p),none,none]/\aj H H1/\H1 p=some (.tup [.int (-d),.int u])) (λN hN=>?_) ?_
 .rfl';refine ak (ah.of dE) (v:=.int d) rfl ?_;rfl';refine ak (ah.of dE) (v:=.int u) rfl ⟨aW,λp hp=>hN _ _ ⟨p,rfl,ao hp,?_⟩⟩;rw[aw,Int.zero_sub]
 rintro _ yR σ H1 ⟨p,rfl,s1,hp⟩;subst yR;refine aC (λσ H2=>∃ s ys,σ=[some (.ref r),some (.ref cl),some v,some (.ref p),some (.ref s),none]/\aj H H2/\H2 s=some (.lst ys)/\az (λv x=>aM H2 v x.1 x.2) ys ((abG (t-1).toNat).map (λ(k:Nat)=>bh (some (-d),some u) (sel ps "step" (k:Int))))) (λN hN=>?_) ?_
 .rfl';refine ak (ah.of (s1 _ _ dE)) (v:=.int t) rfl ?_;rfl';refine⟨by lia,by lia,cJ k8 (by rw[aa2,abw];exact abb (by lia:_<=12) (by decide)) (ia (R:=λ_ x (k:Nat)=>x=V.int ((0:Int)+k)) (R':=λH v (x:S2)=>aM H v x.1 x.2) (f:=λ(k:Nat)=>bh (some (-d),some u) (sel ps "step" (k:Int))) (λ_ _ _ _ _ h=>h) (λ_ _ _ _ s' h=>h.same s') (az.i0 _) (bs:=[]) trivial (λ_ _=>trivial) (λx k _ H2 s2 r Q h=>?_) (λx k _ H2 s2 r Q h=>?_) λH2 zs s2 hz=>?_)⟩
  .rfl';exact h
  .subst r;rfl';refine⟨p,cl,some (-d),some u,xs,ps,"step",_,rfl,ah.of (s2 _ _ hp),(s1.trans s2).seq hX,hP.same (s1.trans s2),by lia,λv H3 s3 hv=>h _ _ s3 ?_⟩;rw[afy] at hv;exact hv
  .intro l hl;rw[abr] at hz;exact hN _ _ ⟨l,zs,rfl,s1.trans (s2.trans (ao hl)),aw,hz.imp λ_ _ r=>r.same (ao hl)⟩
 rintro _ yR σ H2 ⟨s,ys,rfl,s2,hs,hS⟩;subst yR;refine aC (λσ H3=>∃ gl zs,σ=[some (.ref r),some (.ref cl),some v,some (.ref p),some (.ref s),some (.ref gl)]/\aj H2 H3/\H3 gl=some (.lst zs)/\az (λv x=>aM H3 v x.1 x.2) zs ((abG t.toNat).map (λ(k:Nat)=>bh (none,none) (sel ps "at" (k:Int))))) (λN hN=>?_) ?_
 .rfl';refine ak (ah.of (s2 _ _ dE)) (v:=.int t) rfl ?_;rfl';refine⟨by lia,by lia,cJ k8 (by rw[aa2,abw];exact abb (by lia:_<=12) (by decide)) (ia (R:=λ_ x (k:Nat)=>x=V.int ((0:Int)+k)) (R':=λH v (x:S2)=>aM H v x.1 x.2) (f:=λ(k:Nat)=>bh (none,none) (sel ps "at" (k:Int))) (λ_ _ _ _ _ h=>h) (λ_ _ _ _ s' h=>h.same s') (az.i0 _) (bs:=[]) trivial (λ_ _=>trivial) (λx k _ H4 s4 r Q h=>?_) (λx k _ H4 s4 r Q h=>?_) λH4 zs s4 hz=>?_)⟩
  .rfl';exact h
  .subst r;rfl';refine⟨aW,λp2 fM=>?_⟩;have u2:=ao (o:=.tup [.non,.non]) fM;have U:=s2.trans (s4.trans u2);refine⟨p2,cl,none,none,xs,ps,"at",_,rfl,ah.of aw,U.seq hX,hP.same U,by lia,λv H3 s3 hv=>h _ _ (u2.trans s3) ?_⟩;rw[afy] at hv;exact hv
  .intro l hl;rw[abr] at hz;exact hN _ _ ⟨l,zs,rfl,s4.trans (ao hl),aw,hz.imp λ_ _ r=>r.same (ao hl)⟩
 rintro _ yR σ H3 ⟨gl,zs,rfl,s3,hg,hG⟩;subst yR;rfl';refine⟨by decide,λp9 Cy=>?_⟩;have u9:=ao (o:=.lst []) Cy;have U:=s2.trans (s3.trans u9);refine⟨.ref r,v,w,s,gl,p9,e,t,u,d,m,_,_,tb,[],rfl,by decide,by decide,⟨ys,zs,hW.same U,(s3.trans u9) _ _ hs,hS.imp λ_ _ x=>x.same (s3.trans u9),u9 _ _ hg,hG.imp λ_ _ x=>x.same u9,?_,?_,ay.1,λx hx=>?_⟩,aw,by decide,?_,λH' s'=>q _ (U.trans s')⟩
 .rw[aa2,aa2,abw,abw];lia
 .rw[aa2,abw];lia
 .rw[aa2,abw];obtain⟨⟨b1,b2⟩,b3,b4⟩:=ay.2 x hx;lia
 .rw[Yw,Yx];exact hR.same U
inductive Yz(K:aa0)(vs:List V)(H:Hp)(Q:VK)(aP:XK):Prop
 | mk(p:abd)(s:S2)(_:vs=[.ref p])(_:H p=some (.tup [ev s.1,ev s.2]))(_:∀ l xs H',aj H H'->H l=none->H' l=some (.lst xs)->lp H' xs (eO s)->Q (.ref l) H')
theorem YA(T:Tx K mg):Ok P w base 1 T.tj (Yz K):=by
 refine bc wJ ?_;rintro _ _ _ _ H _ _ _ _ ⟨p,⟨lo,hi⟩,rfl,hp,q⟩;refine⟨_,(ax (aI 1 wJ.nd (l6 (dC (aq (aa 0) af)) (cO ag) (cO (ae (aS (ae b5 (ae (aN dB (aq (aa 0) af) af) ag))) ag))))
  (ax (aI 2 wJ.nd (l6 (dC (aq (aa 0) af)) (cO ag) (cO (ae (aS (ae (aN bZ (aq (aa 0) af) af) (ae b5 ag))) ag))))
  (au (aA (aN mh (aa 1) (aa 2)))))),?_⟩
 rcases lo with _|lo<;>rcases hi with _|hi
 all_goals simp only[pF,pG] at hp
 .rfl';refine ak (ah.of hp) rfl ?_;rfl';refine⟨by decide,λa ha=>?_⟩;have sa:=ao (o:=.lst []) ha;have ea:upd H a (.lst []) a=some (.lst []):=aw;generalize upd H a (.lst [])=Ha at sa ea ⊢;refine ak (ah.of (sa _ _ hp)) rfl ?_;rfl';refine⟨by decide,λb hb=>?_⟩;have sb:=ao (o:=.lst []) hb;have eb:upd Ha b (.lst []) b=some (.lst []):=aw;generalize upd Ha b (.lst [])=Hb at sb eb ⊢;exact⟨_,sb _ _ ea,_,eb,(show 0<=abu by decide),λc hc=>q c _ _ (sa.trans (sb.trans (ao hc))) ((sa.trans sb).free hc) aw trivial⟩
 .rfl';refine ak (ah.of hp) rfl ?_;rfl';refine⟨by decide,λa ha=>?_⟩;have sa:=ao (o:=.lst []) ha;have ea:upd H a (.lst []) a=some (.lst []):=aw;generalize upd H a (.lst [])=Ha at sa ea ⊢;refine ak (ah.of (sa _ _ hp)) rfl ?_;rfl';refine ak (ah.of (sa _ _ hp)) rfl ?_;rfl';refine⟨aW,λtb uz=>⟨by decide,λb hb=>?_⟩⟩;have sb:=(ao (o:=.tup [.int (hi+1),.non]) uz).trans (ao (o:=.lst [.ref tb]) hb);have eb:upd (upd Ha tb (.tup [.int (hi+1),.non])) b (.lst [.ref tb]) b=some (.lst [.ref tb]):=aw;have kb:aM (upd (upd Ha tb (.tup [.int (hi+1),.non])) b (.lst [.ref tb])) (.ref tb) (some (hi+1)) none:=⟨tb,rfl,(ao hb) _ _ aw⟩
  generalize upd (upd Ha tb (.tup [.int (hi+1),.non])) b (.lst [.ref tb])=Hb at sb eb kb ⊢;exact⟨_,sb _ _ ea,_,eb,(show 1<=abu by decide),λc hc=>q c _ _ (sa.trans (sb.trans (ao hc))) ((sa.trans sb).free hc) aw ⟨kb.same (ao hc),trivial⟩⟩
 .rfl';refine ak (ah.of hp) rfl ?_;rfl';refine ak (ah.of (hp)) rfl ?_;rfl';refine⟨aW,λta CZ=>⟨by decide,λa ha=>?_⟩⟩;have sa:=(ao (o:=.tup [.non,.int (lo-1)]) CZ).trans (ao (o:=.lst [.ref ta]) ha);have ea:upd (upd H ta (.tup [.non,.int (lo-1)])) a (.lst [.ref ta]) a=some (.lst [.ref ta]):=aw;have ka:aM (upd (upd H ta (.tup [.non,.int (lo-1)])) a (.lst [.ref ta])) (.ref ta) none (some (lo-1)):=⟨ta,rfl,(ao ha) _ _ aw⟩
  generalize upd (upd H ta (.tup [.non,.int (lo-1)])) a (.lst [.ref ta])=Ha at sa ea ka ⊢;refine ak (ah.of (sa _ _ hp)) rfl ?_;rfl';refine⟨by decide,λb hb=>?_⟩;have sb:=ao (o:=.lst []) hb;have eb:upd Ha b (.lst []) b=some (.lst []):=aw;generalize upd Ha b (.lst [])=Hb at sb eb ⊢;exact⟨_,sb _ _ ea,_,eb,(show 1<=abu by decide),λc hc=>q c _ _ (sa.trans (sb.trans (ao hc))) ((sa.trans sb).free hc) aw ⟨(ka.same sb).same (ao hc),trivial⟩⟩
 .rfl';refine ak (ah.of hp) rfl ?_;rfl';refine ak (ah.of (hp)) rfl ?_;rfl';refine⟨aW,λta CZ=>⟨by decide,λa ha=>?_⟩⟩;have sa:=(ao (o:=.tup [.non,.int (lo-1)]) CZ).trans (ao (o:=.lst [.ref ta]) ha);have ea:upd (upd H ta (.tup [.non,.int (lo-1)])) a (.lst [.ref ta]) a=some (.lst [.ref ta]):=aw;have ka:aM (upd (upd H ta (.tup [.non,.int (lo-1)])) a (.lst [.ref ta])) (.ref ta) none (some (lo-1)):=⟨ta,rfl,(ao ha) _ _ aw⟩
  generalize upd (upd H ta (.tup [.non,.int (lo-1)])) a (.lst [.ref ta])=Ha at sa ea ka ⊢;refine ak (ah.of (sa _ _ hp)) rfl ?_;rfl';refine ak (ah.of (sa _ _ hp)) rfl ?_;rfl';refine⟨aW,λtb uz=>⟨by decide,λb hb=>?_⟩⟩;have sb:=(ao (o:=.tup [.int (hi+1),.non]) uz).trans (ao (o:=.lst [.ref tb]) hb);have eb:upd (upd Ha tb (.tup [.int (hi+1),.non])) b (.lst [.ref tb]) b=some (.lst [.ref tb]):=aw;have kb:aM (upd (upd Ha tb (.tup [.int (hi+1),.non])) b (.lst [.ref tb])) (.ref tb) (some (hi+1)) none:=⟨tb,rfl,(ao hb) _ _ aw⟩
  generalize upd (upd Ha tb (.tup [.int (hi+1),.non])) b (.lst [.ref tb])=Hb at sb eb kb ⊢;exact⟨_,sb _ _ ea,_,eb,(show 2<=abu by decide),λc hc=>q c _ _ (sa.trans (sb.trans (ao hc))) ((sa.trans sb).free hc) aw ⟨(ka.same sb).same (ao hc),kb.same (ao hc),trivial⟩⟩
inductive YB(K:aa0)(vs:List V)(H:Hp)(Q:VK)(aP:XK):Prop
 | mk(a:abd)(xs:List V)(ps:List Pa)(_:vs=[.ref a])(_:ai K H a xs)(_:dq H xs ps)(_:ps.length<=100)(_:∀ l ys H',aj H H'->H l=none->H' l=some (.lst ys)->az (cN H H') ys (bw ps)->Q (.ref l) H')
inductive YC(H:Hp)(a l:abd)(ps:List Pa)(i:Nat)(σ:St)(H1:Hp):Prop
 | mk(ys:List V)(e:Option V)(_:σ=[some (.ref a),some (.ref l),e])(_:aj H H1)(_:H1 l=some (.lst ys))(_:az (kr H l H1) ys (bw (ps.take i)))(_:ys.length<=2 * i)
theorem YD(T:Tx K mg):Ok P w base 2 T.tm (YB K):=by
 refine bc wK ?_;rintro _ _ _ s H _ Q _ hr ⟨a,xs,ps,rfl,hS,hP,hn,q⟩;refine⟨_,(ax (aI 1 wK.nd (cO ag))
  (ax (cI abJ rfl (cC (aa 0)) (b8 2 wK.nd) (au (d9 (iE abO PySem.F.slot_list_extend PySem.F.type_list_extend OF (aa 1) (ae (cQ (bU.mk (fr:=[2]) (ys:=["part"]) rfl (by decide +kernel) rfl (by decide +kernel) rfl rfl (.cons rfl .nil) (.cons rfl rfl rfl rfl .nil) (by decide) rfl) rfl (cC (aD (YA T) hr (ae (aq (aa 2) af) ag))) (λC s2 H2 ex pn=>⟨dg,(cO (ae (aS (ae (b7 (K:=K) (aa 1) af) (ae (b7 (K:=K) (aa 1) af) (ae (aa 0) ag)))) ag))⟩)) ag)))))
  (au (aA (aa 1))))),?_⟩
 have hl:=hP.len;rfl';refine⟨by decide,λl eR=>?_⟩;have s1:=ao (o:=.lst []) eR;have e1:upd H l (.lst []) l=some (.lst []):=aw;generalize upd H l (.lst [])=H1 at s1 e1 ⊢;refine⟨⟨_,s1.seq hS⟩,iG (xs:=xs) (YC H a l ps) ⟨[],_,rfl,s1,e1,trivial,abt _⟩ ?_ ?_ ?_⟩
 .rintro i σ H2 _ ⟨_,_,_,s2,_⟩;exact s2.seq hS
 .rintro i x σ H2 hx ⟨ys,e,rfl,s2,ba,hy,hlen⟩;obtain⟨p,hp,tp,sp,rfl,h1,h2⟩:=hP.get hx;have pC:=s2 _ _ h1;have rO:=s2 _ _ h2;rfl';refine⟨.inl ⟨rfl,_,ai.of ba⟩,ak (ah.of pC) rfl ?_⟩;refine⟨sp,p.2.2,rfl,rO,λo os H3 s3 _ ho nC=>?_⟩;rfl';have sk:=lr.mp nC;have ID:=sk.len;have h2o:=pQ p.2.2;refine⟨⟨_,ai.of ho⟩,cJ gv (abb (by lia:os.length<=2) (by decide)) (ia (R:=λH x (s:S2)=>aM H x s.1 s.2) (R':=kr H l) (f:=λs=>[((p.1,p.2.1,s):Pa)]) (λ_ _ _ _ s' h=>h.same s') (λ_ _ _ _ s' h=>h.same s') sk (bs:=[]) trivial (λH' s'=>ai.of (s' _ _ ho)) (λx k _ H4 s4 r Q h=>?_) (λx k _ H4 s4 r Q h=>?_) λH4 zs s4 hz=>?_)⟩
  .rfl';exact h
  .obtain⟨xo,rfl,hxo⟩:=r;have S4:=s3.trans s4;rfl';refine ak (ah.of (S4 _ _ pC)) rfl (ak (ah.of (S4 _ _ pC)) rfl ⟨by decide,λt ht=>⟨by decide,λc hc=>?_⟩⟩);have u1:=ao (o:=.tup [.str p.1,.int p.2.1,.ref xo]) ht;have u2:=ao (o:=.lst [.ref t]) hc;have cl:c≠l:=λz=>by rw[z,u1 _ _ (S4 _ _ ba)] at hc;cases hc
   exact h _ _ (u1.trans u2) ⟨c,[.ref t],rfl,cl,(s2.trans (S4.trans u1)).free hc,aw,⟨t,xo,rfl,u2 _ _ aw,(u1.trans u2) _ _ hxo⟩,trivial⟩
  .intro b hb;rw[abr] at hz;have S4:=s3.trans s4;have u:=ao (o:=.lst zs) hb;have YE:=hz.len;rw[aa2] at YE;have hi:i<xs.length:=(aa7.mp hx).1;refine⟨l,b,_,_,rfl,rfl,u _ _ (S4 _ _ ba),aw,abb (by lia:ys.length+zs.length<=300) (by decide),ys++zs,_,rfl,j6 eR (s2.trans (S4.trans u)),aw,?_,by rw[abf];lia⟩;rw[Up hp];have a1:=(hy.imp λ_ _ r=>(r.same (S4.trans u)).put (o:=.lst (ys++zs)) (u _ _ (S4 _ _ ba)))
   have a2:=(hz.imp λ_ _ r=>(r.same u).put (o:=.lst (ys++zs)) (u _ _ (S4 _ _ ba)))
   exact a1.app a2
 .rintro σ H2 ⟨ys,e,rfl,s2,ba,hy,hlen⟩;rfl';rw[hl,ab5] at hy;exact q l ys H2 s2 eR ba (hy.imp λ_ _ r=>r.Um)
theorem YF(hl:H1 l=some (.lst ys))(hM:az (cT H1) ys ms)(s:aj H1 H'):nT K l ys (rowOf H1) 2 H':=by refine⟨ai.of (s _ _ hl),λx hx=>?_⟩;obtain⟨i,hi⟩:=abT.mp hx;obtain⟨m,_,t,p,rfl,h1,h2⟩:=hM.get hi;rw[nR h1];exact⟨t,rfl,ah.of (s _ _ h1),rfl⟩
noncomputable def a8(ms:List Mk):List Pa:=ms.map λm=>("at",(m.1:Int),m.2)
noncomputable def bQ:List Mk->Int
 | []=>0
 | ms=>hV (ms.map λm=>(m.1:Int))
inductive fA(C:abd)(H:Hp)(v:abd)(ms:List Mk):Prop
 | mk(dx l:abd)(ys:List V)(_:H v=some (.ins C dx [("marks",.ref l)]))(_:H l=some (.lst ys))(_:az (cT H) ys ms)
theorem fA.same(h:fA C H v ms)(s:aj H H'):fA C H' v ms:=let ⟨dx,l,ys,a,b,c⟩:=h;⟨dx,l,ys,s _ _ a,s _ _ b,c.imp λ_ _ r=>r.same s⟩
inductive YG(C:abd)(vs:List V)(H:Hp)(Q:VK)(aP:XK):Prop
 | mk(x dx:abd)(v:V)(_:vs=[.ref x,v])(_:H x=some (.ins C dx []))(_:Q .non (upd H x (.ins C dx [("marks",v)])))
theorem YH(T:Tx K mg):Om P w mg base 1 T.oh (YG T.bG):=by refine jv JN ?_;rintro _ _ _ _ _ _ _ _ _ ⟨x,dx,v,rfl,hx,q⟩;refine⟨_,(au (mL (aa 0) (aa 1) rfl)),?_⟩;rfl';exact⟨_,_,_,hx,T.di,T.ug,(by show 0<1000;decide),q⟩
theorem LQ(ms:List Mk):lg hV (ms.map λm=>(m.1:Int)) (.int 0) = .int (bQ ms):=by
 cases ms with
 | nil=>rfl
 | cons m ms=>rfl
inductive YI(C:abd)(vs:List V)(H:Hp)(Q:VK)(aP:XK):Prop
 | mk(v:abd)(ms:List Mk)(_:vs=[.ref v])(_:fA C H v ms)(_:ms.length<=60)(_:∀ H',aj H H'->Q (.int (bQ ms)) H')
theorem LR(T:Tx K mg):Om P w mg base 1 T.lO (YI T.bG):=by
 refine jv JO ?_;rintro _ _ _ _ H _ Q _ _ ⟨v,ms,rfl,⟨dx,l,ys,hv,hl,hY⟩,cj,q⟩;refine⟨_,(au (aA (y9 rfl rfl T.Ci (cQ (bU.mk (fr:=[]) (ys:=[]) rfl (by decide +kernel) rfl (by decide +kernel) rfl rfl .nil .nil (by decide) rfl) rfl (cC (dD rfl (aa 0) rfl)) (λC s2 H2 ex pn=>⟨dg,(b7 (K:=K) (aa 0) af)⟩)) af))),?_⟩;have yl:=hY.len;rfl';refine⟨_,_,_,hv,T.di,T.ug,_,rfl,l,rfl,⟨_,ai.of hl⟩,cJ gv (abb (by lia:_<=60) (by decide)) (lj (R:=cT H) (p:=λ_=>true) (f:=λm=>V.int (m.1:Int)) (ys:=[]) (ai.of hl) hY (λv m _ r Q h=>?_) (λv m _ _ r Q h=>?_) (λl2 ba=>?_))⟩
 .rfl';exact h
 .obtain⟨t,p,rfl,ht,hp⟩:=r;rfl';exact ak (ah.of ht) rfl h
 .have ef:([]:List V)++(ms.filter λ_=>true).map (λm=>V.int (m.1:Int))=(ms.map λm=>(m.1:Int)).map V.int:=by rw[abr,ac8.mpr λ_ _=>rfl,abS];rfl
  rw[ef];refine⟨l2,rfl,_,ai.of aw,?_⟩;rw[LQ];exact q _ (ao ba)
inductive YJ(K:aa0)(C:abd)(vs:List V)(H:Hp)(Q:VK)(aP:XK):Prop
 | mk(v:abd)(ms:List Mk)(_:vs=[.ref v])(_:fA C H v ms)(_:ms.length<=60)(_:∀ l xs H',aj H H'->H l=none->H' l=some (.lst xs)->dq H' xs (a8 ms)->Q (.ref l) H')
theorem LS(T:Tx K mg):Om P w mg base 1 T.lP (YJ K T.bG):=by
 refine jv JP ?_;rintro _ _ _ s H _ Q _ _ ⟨v,ms,rfl,⟨dx,l,ys,hv,hl,hY⟩,cj,q⟩;refine⟨_,(au (aA (vH (g:=iA K 2 (cB (bX 0) (cB (bX 1) gR))) (j7.mk (own:=["turn","word"]) (fr:=[]) (ys:=[]) rfl (by decide +kernel) rfl (by decide +kernel) rfl .nil .nil rfl) rfl (cC (dD rfl (aa 0) rfl)) (λC s2 H2 ex pn=>jW (n:=2) rfl (dw (gq (i:=0) (show (["turn","word"]:List Str).Nodup by decide) rfl (.inl (abx rfl)) (.inr (abx rfl))) (dw (gq (i:=1) (show (["turn","word"]:List Str).Nodup by decide) rfl (.inl (abx rfl)) (.inr (abx rfl))) jV))) (λC s2 H2 ex pn=>⟨dg,(aS (ae bp (ae (aa 0) (ae (aa 1) ag))))⟩)))),?_⟩;have yl:=hY.len;rfl';refine⟨_,_,_,hv,T.di,T.ug,_,rfl,l,rfl,⟨_,ai.of hl⟩,SS (row:=rowOf H) (abb (by lia:_<=60) (by decide)) (ia (R:=λ_ x (m:Mk)=>cT H x m) (R':=eX) (f:=λm=>(("at",(m.1:Int),m.2):Pa)) (λ_ _ _ _ _ h=>h) (λ_ _ _ _ s' h=>h.same s') hY (bs:=[]) trivial (λH' s'=>YF hl hY s') (λx m _ H2 s2 r Q h=>?_) (λx m _ H2 s2 r Q h=>?_) λH2 zs s2 hz=>?_)⟩
 .exact h
 .obtain⟨t,p,rfl,h1,h2⟩:=r;show _;unfold lC;dsimp only;rw[nR h1];rfl';exact⟨by decide,λb hb=>h _ _ (ao hb) ⟨b,p,rfl,aw,(ao hb) _ _ (s2 _ _ h2)⟩⟩
 .rw[abr] at hz;intro b hb;exact q b zs _ (s2.trans (ao hb)) (s2.free hb) aw (hz.imp λ_ _ r=>r.same (ao hb))
theorem nh(ms:List Mk):(a8 ms).length=ms.length:=aa2 _
inductive YK(C:abd)(vs:List V)(H:Hp)(Q:VK)(aP:XK):Prop
 | mk(v:abd)(ms:List Mk)(_:vs=[.ref v])(_:fA C H v ms)(_:ms.length<=60)(_:∀ l ys H',aj H H'->H l=none->H' l=some (.lst ys)->az (cN H H') ys (bw (a8 ms))->Q (.ref l) H')
theorem qJ(T:Tx K mg):Om P w mg base 3 T.ik (YK T.bG):=by refine jv JQ ?_;rintro _ _ _ _ _ _ _ _ hr ⟨v,ms,rfl,hL,cj,q⟩;refine⟨_,(au (aA (aD (YD T) hr (ae (eK (aa 0) T.di T.KD (LS T) (hr.mono (by decide)) T.lP.b .nil bb) ag)))),?_⟩;obtain⟨dx,l0,ni,hv,_,_⟩:=id hL;rfl';exact⟨_,_,hv,rfl,v,ms,rfl,hL,cj,λl xs H1 s1 _ hl hP=>⟨l,xs,_,rfl,ai.of hl,hP,by rw[nh];lia,λc ys H2 s2 fc hc hy=>q c ys H2 (s1.trans s2) (s1.free fc) hc (hy.imp λ_ _ r=>r.back s1)⟩⟩
inductive YL(C:abd)(vs:List V)(H:Hp)(Q:VK)(aP:XK):Prop
 | mk(v:abd)(ms:List Mk)(_:vs=[.ref v])(_:fA C H v ms)(_:ms.length<=60)(_:∀ l ys H',aj H H'->H l=none->H' l=some (.lst ys)->az (cN H H') ys [a8 ms]->Q (.ref l) H')
theorem uG(T:Tx K mg):Om P w mg base 2 T.iQ (YL T.bG):=by refine jv JR ?_;rintro _ _ _ _ _ _ _ _ hr ⟨v,ms,rfl,hL,cj,q⟩;refine⟨_,(au (aA (cO (ae (eK (aa 0) T.di T.KD (LS T) (hr.mono (by decide)) T.lP.b .nil bb) ag)))),?_⟩;obtain⟨dx,l0,ni,hv,_,_⟩:=id hL;rfl';exact⟨_,_,hv,rfl,v,ms,rfl,hL,cj,λl xs H1 s1 fl hl hP=>⟨by decide,λc hc=>q c _ _ (s1.trans (ao hc)) (s1.free hc) aw ⟨⟨l,xs,rfl,fl,(ao hc) _ _ hl,hP.same (ao hc)⟩,trivial⟩⟩⟩
theorem su(ps:List Pa):(bw ps).length<=2 * ps.length:=by
 unfold bw;rw[List.length_flatMap];have:∀ l:List Pa,(l.map λp=>((eO p.2.2).map λo=>[((p.1,p.2.1,o):Pa)]).length).sum<=2 * l.length:=by
  intro l
  induction l with
  | nil=>exact aba _
  | cons p l ih =>
   rw[abj,af7,aa2,abX];have:=pQ p.2.2;lia
 exact this ps
theorem LU(h:∀ p∈ps,qA cs p.1 p.2.1):∀ qs∈bw ps,∀ q∈qs,qA cs q.1 q.2.1:=λqs hq q hm=>by unfold bw at hq;obtain⟨p,hp,hq⟩:=acV.mp hq;obtain⟨o,_,rfl⟩:=aa8.mp hq;rw[abp.mp hm];exact h p hp
theorem C0(h:∀ m∈ms,m.1<cs.length):∀ p∈a8 ms,qA cs p.1 p.2.1:=λp hp=>by obtain⟨m,hm,rfl⟩:=aa8.mp hp;have:=h m hm;exact⟨by show (0:Int)<=(m.1:Int);lia,by show (m.1:Int)<_;lia,λz=>absurd z (show (acf "at")≠acf "step" by decide)⟩
inductive YM(K:aa0)(C:abd)(vs:List V)(H:Hp)(Q:VK)(aP:XK):Prop
 | mk(v a:abd)(ms:List Mk)(cs:List Int)(_:vs=[.ref v,.ref a])(_:fA C H v ms)(_:ms.length<=60)(_:ai K H a (cs.map V.int))(_:(∀ m∈ms,m.1<cs.length))(_:∀ H',aj H H'->Q (.bl ((bw (a8 ms)).any (c8 cs))) H')
theorem LV(T:Tx K mg):Om P w mg base 4 T.jB (YM K T.bG):=by
 refine jv JL ?_;rintro _ _ _ s H _ Q _ hr ⟨v,a,ms,cs,rfl,hL,cj,hS,hm,q⟩;refine⟨_,(au (aA (aV (zi rfl) (by rfl) T.Cg yE (ae (cQ (bU.mk (fr:=[1]) (ys:=["course"]) rfl (by decide +kernel) rfl (by decide +kernel) rfl rfl (.cons rfl .nil) (.cons rfl rfl rfl rfl .nil) (by decide) rfl) rfl (cC (eK (aa 0) T.di T.qu (qJ T) (hr.mono (by decide)) T.ik.b .nil bb)) (λC s2 H2 ex pn=>⟨dg,(aD (WD T) hr (ae (aa 1) (ae (aa 0) ag)))⟩)) ag)))),?_⟩;obtain⟨dx,l0,ni,hv,_,_⟩:=id hL;rfl';refine⟨_,_,hv,rfl,v,ms,rfl,hL,cj,λl ys H1 s1 _ hl YN=>?_⟩;have hy:=YN.imp λ_ _ r=>r.cl;have hlen:=hy.len;have hw:=su (a8 ms);rw[nh] at hw;refine⟨l,rfl,⟨_,ai.of hl⟩,cJ gv (abb (by lia:ys.length<=200) (by decide)) (rN (R:=Gz.b6) (p:=λ_=>true) (f:=λps=>.bl (c8 cs ps)) (λ_ _ _ _ s h=>h.same s) hy (λH' s'=>ai.of (s' _ _ hl)) (λx ps _ H2 s2 r Q h=>?_) (λx ps dt _ H2 s2 r Q h=>?_) λH2 s2=>?_)⟩
 .rfl';exact h _ (aj.refl _)
 .obtain⟨c,xs,rfl,hc,hP⟩:=r;have eJ:ps.length<=1000:=by unfold bw at dt;obtain⟨p,_,hq⟩:=acV.mp dt;obtain⟨o,_,rfl⟩:=aa8.mp hq;exact (show 1<=1000 by decide)
  rfl';exact⟨a,c,cs,xs,ps,rfl,(s1.trans s2).seq hS,ai.of hc,hP,eJ,LU (C0 hm) ps dt,λH3 s3=>h H3 s3⟩
 .rw[abr,filter_tt];intro m hm;refine⟨m,rfl,(bw (a8 ms)).map (c8 cs),ai.of ?_,?_⟩
  .rw[aw,abS];rfl
  .rw[ajf];exact q _ (s1.trans (s2.trans (ao hm)))
inductive YO(C:abd)(vs:List V)(H:Hp)(Q:VK)(aP:XK):Prop
 | mk(v:abd)(ms:List Mk)(_:vs=[.ref v])(_:fA C H v ms)(_:ms.length<=60)(_:∀ p H',aj H H'->H' p=some (.tup [.int (bw (a8 ms)).length,.int 1])->Q (.ref p) H')
theorem YQ(T:Tx K mg):Om P w mg base 4 T.kC (YO T.bG):=by refine jv JM ?_;rintro _ _ _ _ _ _ _ _ hr ⟨v,ms,rfl,hL,cj,q⟩;refine⟨_,(au (aA (aS (ae (aV cD (by rfl) T.cA cp (ae (eK (aa 0) T.di T.qu (qJ T) (hr.mono (by decide)) T.ik.b .nil bb) ag)) (ae (aV cD (by rfl) T.cA cp (ae (eK (aa 0) T.di T.uh (uG T) (hr.mono (by decide)) T.iQ.b .nil bb) ag)) ag))))),?_⟩;obtain⟨dx,l0,ni,hv,_,_⟩:=id hL;rfl';refine⟨_,_,hv,rfl,v,ms,rfl,hL,cj,λl ys H1 s1 _ hl hy=>⟨_,dO (ai.of hl),?_⟩⟩;rfl';refine⟨_,_,s1 _ _ hv,rfl,v,ms,rfl,hL.same s1,cj,λl2 zs H2 s2 _ ba hz=>⟨_,dO (ai.of ba),aW,λp hp=>q p _ (s1.trans (s2.trans (ao hp))) ?_⟩⟩;rw[aw,hy.len,hz.len];rfl
theorem xq:(dF u d ps n).length=n:=by unfold dF;rw[aa2,abw]
theorem jJ:(eF ps n).length=n:=by unfold eF;rw[aa2,abw]
theorem xr{G H:Hp}{v:V}{sw gw:List W2}{tb:Tb}{m:Int}(hl:gw.length=sw.length+1)(ht:∀ r∈tb,r.1.2.toNat<gw.length)(A:CM G H v sw gw tb m):∃ r,v = .ref r/\((∃ z,H r=some (.tup [.str "never",z])/\∀ L c,¬ jx sw gw tb m L c) ∨ ∃ k cs L,H r=some (.tup [.str "may",.ref k])/\H k=some (.lst (cs.map V.int))/\G k=none/\cs.length=gw.length/\jx sw gw tb m L (bP cs)):=by
 rcases A with ⟨r,k,j,rfl,h1,h2,h3⟩|⟨r,k,j,rfl,h1,h2,h3⟩|⟨r,k,p,pp,gs,rfl,h1,h2,h3,e1,e2,h4⟩|⟨r,k,cs,pp,gs,es,rfl,h1,h2,h3,h4,e1,e2,h5,h6,h7,h8⟩
 .exact⟨r,rfl,.inl ⟨_,h1,λL c z=>by obtain⟨s,e,_⟩:=z.2.1 j none h3;cases e⟩⟩
 .exact⟨r,rfl,.inl ⟨_,h1,λL c z=>by obtain⟨s,e,_⟩:=z.2.2.1 j none h3;cases e⟩⟩
 .refine⟨r,rfl,.inl ⟨_,h1,λL c z=>?_⟩⟩;subst e1 e2;rw[aa2] at hl ht;rw[aa2] at hl;exact absurd h4 (JB z.1 (Ay.mp z.2.1) (Az.mp z.2.2.1) (by lia) (Ax.mpr z.2.2.2) (λr hr=>by have:=ht r hr;lia) p [] .nil (λx hx=>by cases hx))
 .subst e1 e2;exact⟨r,rfl,.inr ⟨k,cs,es,h1,h2,h3,h4,h7,Ay.mpr h5,Az.mpr h6,Ax.mp h8⟩⟩
theorem YR{u d t m:Int}{ps:List Pa}{tb:Tb}{gw:List W2}{L cs:List Int}(hl:cs.length=t.toNat)(F:jx (dF u d ps (t-1).toNat) gw tb m L (bP cs))(k:Nat)(hk:k+1<cs.length) : -d<=cM cs (k+1)-cM cs k/\cM cs (k+1)-cM cs k<=u:=by have h:=F.2.1 k (fN (none,none) ((some (-d),some u)::sel ps "step" (k:Int))) (by unfold dF;rw[abh,acA (by lia)];rfl);have:=zN.mp h _ (.head _);exact⟨this.1 _ rfl,this.2 _ rfl⟩
theorem YS{m:Int}{tb:Tb}{sw gw:List W2}{L cs:List Int}(F:jx sw gw tb m L (bP cs))(zs:List Int)(hn:zs.Nodup)(hz:∀ i,i∈zs↔fS tb cs i):(zs.length:Int)<=m:=by
 have:=wH (ys:=L) hn λi hi=>by obtain⟨r,hr,rfl,hb⟩:=(hz i).mp hi;refine Decidable.byContradiction λhc=>?_;have:=zL.mp (F.2.2.2 r hr hc);unfold Gz.hs at hb;exact absurd (this.symm.trans hb) (by decide)
 have:=F.1;lia
theorem YT(h:p∈ps):p.2.2∈sel ps p.1 p.2.1:=aa8.mpr ⟨p,abE.mpr ⟨h,by simp[kj]⟩,rfl⟩
theorem LW{G H:Hp}{v:V}{sw gw:List W2}{tb:Tb}{m:Int}(A:CM G H v sw gw tb m)(bS:∀ L c,¬ jx sw gw tb m L c):∃ r k,v = .ref r/\H r=some (.tup [.str "never",k])/\fU H k sw gw tb m [] 10:=by
 rcases A with ⟨r,k,j,rfl,h1,h2,h3⟩|⟨r,k,j,rfl,h1,h2,h3⟩|⟨r,k,p,pp,gs,rfl,h1,h2,h3,e1,e2,h4⟩|⟨r,k,cs,pp,gs,es,rfl,h1,h2,h3,h4,e1,e2,h5,h6,h7,h8⟩
 .exact⟨r,_,rfl,h1,.ng k j rfl h2 h3⟩
 .exact⟨r,_,rfl,h1,.gol k j rfl h2 h3⟩
 .exact⟨r,_,rfl,h1,.pap p pp gs h2 (by lia) e1 e2 h4⟩
 .subst e1 e2;exact absurd ⟨h7,Ay.mpr h5,Az.mpr h6,Ax.mp h8⟩ (bS es (bP cs))
def iY(u d t m:Int)(tb:Tb)(ps:List Pa):Prop:=∃ L c,jx (dF u d ps (t-1).toNat) (eF ps t.toNat) tb m L c
def C1(H:Hp)(v:V)(ps:List Pa):Prop:=∃ c xs,v = .ref c/\H c=some (.lst xs)/\dq H xs ps
def fB(u d t m:Int)(tb:Tb)(H:Hp)(v:V)(ps:List Pa):Prop:=fU H v (dF u d ps (t-1).toNat) (eF ps t.toNat) tb m [] 10
def C2(H H':Hp):Prop:=∀ a xs,H a=some (.tup xs)->H' a=some (.tup xs)
theorem e9.tp(s:C2 H H'):∀ {t:Pp} {v:V},e9 H v t->e9 H' v t
 | .nil,_,h=>h
 | .full,_,⟨r,e,h1⟩=>⟨r,e,s _ _ h1⟩
 | .cls _ _ _,_,⟨r,p,q,x,y,e,h1,h2,h3,h4,h5⟩=>⟨r,p,q,x,y,e,s _ _ h1,s _ _ h2,s _ _ h3,e9.tp s h4,e9.tp s h5⟩
theorem fB.tp(h:fB u d t m tb H v ps)(s:C2 H H'):fB u d t m tb H' v ps:=by
 rcases h with ⟨k,j,e,h1,h2⟩|⟨k,j,e,h1,h2⟩|⟨t,pp,gs,h1,h2,h3,h4,h5⟩
 .exact .ng k j e (s _ _ h1) h2
 .exact .gol k j e (s _ _ h1) h2
 .exact .pap t pp gs (h1.tp s) h2 h3 h4 h5
theorem yG(h:H l=some (.lst xs)):C2 H (upd H l o):=λa us e=>by rw[aB λz=>by rw[z,h] at e;cases e];exact e
inductive YU(K:aa0)(B:abd)(vs:List V)(H:Hp)(Q:VK)(aP:XK):Prop
 | mk(x p l:abd)(e t u d m:Int)(tb:Tb)(ys:List V)(cl:List (List Pa))(_:vs=[.ref x,.ref l])(_:bL B H x e t u d m p tb)(_:dZ e t u d m)(_:bI e t tb)(_:tb.length<=60)(_:H l=some (.lst ys))(_:az (C1 H) ys cl)(_:cl.length<=200)(_:(∀ ps∈cl,ps.length<=900/\eY t ps))(_:(∀ r k cs L ps H',aj H H'->ps∈cl->H' r=some (.tup [.str "may",.ref k])->H' k=some (.lst (cs.map V.int))->cs.length=t.toNat->jx (dF u d ps (t-1).toNat) (eF ps t.toNat) tb m L (bP cs)->Q (.ref r) H'))(_:(∀ r k zs H',aj H H'->H' r=some (.tup [.str "never",.ref k])->H' k=some (.lst zs)->az (fB u d t m tb H') zs cl->(∀ ps∈cl,¬ iY u d t m tb ps)->Q (.ref r) H'))
inductive YV(H:Hp)(x l pa:abd)(u d t m:Int)(tb:Tb)(cl:List (List Pa))(i:Nat)(σ:St)(H1:Hp):Prop
 | mk(zs:List V)(e1 e2:Option V)(_:σ=[some (.ref x),some (.ref l),some (.ref pa),e1,e2])(_:aj H H1)(_:H1 pa=some (.lst zs))(_:az (fB u d t m tb H1) zs (cl.take i))(_:(∀ ps∈cl.take i,¬ iY u d t m tb ps))
theorem LX(T:Tx K mg):Ok P w base 21 T.jE (YU K T.aO):=by
 refine ju sM ?_;rintro _ A _ _ H _ _ _ hr ⟨x,p,l,e,t,u,d,m,tb,ys,cl,rfl,hB,dG,aZ,cj,hl,hC,bf,ay,q1,q2⟩;refine⟨_,(ax (aI 2 sM.nd (cO ag))
  (ax (cI ady rfl (cC (aa 1)) (b8 3 sM.nd) (ax (aI 4 sM.nd (bR (CN T) (hr.mono (by decide)) rfl T.x_ask.m T.x_ask.F.kp T.x_ask.b .nil df (ae (aa 0) (ae (aa 3) ag))))
    (ax (aG (bT (aq (aa 4) af) bp) (au (aA (aa 4))) aH)
    (au (d9 (iE abO ab2 ab3 kT (aa 2) (ae (aq (aa 4) af) ag)))))))
  (au (aA (aS (ae bp (ae (aa 2) ag))))))),?_⟩
 obtain⟨⟨e1,e7⟩,⟨t1,t2⟩,u0,d0,m0,me⟩:=id dG;have yl:=hC.len;refine aC (λσ H1=>∃ pa,σ=[some (.ref x),some (.ref l),some (.ref pa),none,none]/\aj H H1/\H pa=none/\H1 pa=some (.lst [])) (λN hN=>?_) ?_
 .rfl';exact⟨abt _,λpa lV=>hN _ _ ⟨pa,rfl,ao lV,lV,aw⟩⟩
 rintro _ yR σ H1 ⟨pa,rfl,s1,fpa,lV⟩;subst yR;rfl';refine⟨⟨_,ai.of (s1 _ _ hl)⟩,iG (YV H x l pa u d t m tb cl) ⟨[],_,_,rfl,s1,lV,trivial,λ_ z=>by simp at z⟩ (λi σ H2 _ ⟨_,_,_,_,s2,_,_,_⟩=>ai.of (s2 _ _ hl)) ?_ ?_⟩
 .rintro i v σ H2 hv ⟨zs,z1,z2,rfl,s2,C3,hZ,bS⟩;obtain⟨ps,dt,c,xs,rfl,hc,hP⟩:=hC.get hv;have pin:=abi dt;obtain⟨pl,nj⟩:=ay ps pin;rfl';refine⟨x,p,c,e,t,u,d,m,xs,ps,tb,rfl,hB.same s2,aZ,cj,t1,t2,by lia,e7,m0,by lia,ai.of (s2 _ _ hc),hP.same s2,pl,λz=>absurd nj z,λ_ v H3 s3 A=>?_⟩;have S3:=s2.trans s3;by_cases hh:iY u d t m tb ps
  .obtain⟨L0,c0,F0⟩:=hh;obtain⟨rr,rfl,⟨z,hrr,hn⟩|⟨k9,cs,L,hrr,gk,_,hcs,F⟩⟩:=xr (by rw[xq,jJ];lia) (λr hr=>by rw[jJ];have:=(aZ.2 r hr).2;lia) A
   .exact absurd F0 (hn _ _)
   rw[jJ] at hcs;refine ak (ah.of hrr) rfl ?_;rfl';exact q1 rr k9 cs L ps H3 S3 pin hrr gk hcs F
  .obtain⟨rr,z,rfl,hrr,hR⟩:=LW A λL c F=>hh ⟨L,c,F⟩;refine ak (ah.of hrr) rfl ?_;rfl';have xt:=s3 _ _ C3;have zl:=hZ.len;have il:=(aa7.mp dt).1;rw[adG] at zl;rw[if_neg (by decide)];refine⟨.inl ⟨rfl,_,ai.of xt⟩,ak (ah.of hrr) rfl ⟨zs,xt,abV (by lia:_<=200) (by decide),_,_,_,rfl,j6 fpa S3,aw,?_,λqs hq=>?_⟩⟩
   .rw[ab9,dt];exact az.snoc (hZ.imp λ_ _ h=>fB.tp (fU.same h s3) (yG xt)) (fB.tp hR (yG xt))
   .rw[ab9,dt] at hq;rcases abD.mp hq with z|z
    .exact bS qs z
    .obtain rfl:qs=ps:=by simpa using z
     exact hh
 .rintro σ H2 ⟨zs,z1,z2,rfl,s2,C3,hZ,bS⟩;rw[yl,ab5] at hZ bS;rfl';exact⟨aW,λr hr=>q2 r pa zs _ (s2.trans (ao hr)) aw ((ao hr) _ _ C3) (hZ.imp λ_ _ h=>fU.same h (ao hr)) bS⟩
theorem cN.cm(h:cN G H v ps):C1 H v ps:=let ⟨c,xs,e,_,a,b⟩:=h;⟨c,xs,e,a,b⟩
theorem C4{t:Int}{ps:List Pa}(h:∀ p∈ps,p.1 = "at" /\ 0<=p.2.1/\p.2.1<t):eY t ps:=λp hp=>by obtain⟨e,h1,h2⟩:=h p hp;rw[e];exact (Si (show (acf "at")≠acf "step" by decide)).mpr ⟨rfl,h1,h2⟩
theorem xu(h:∀ m∈ms,(m.1:Int)<t):∀ p∈a8 ms,p.1 = "at" /\ 0<=p.2.1/\p.2.1<t:=λp hp=>by obtain⟨m,hm,rfl⟩:=aa8.mp hp;have:=h m hm;exact⟨rfl,by show (0:Int)<=(m.1:Int);lia,this⟩
theorem LY{t:Int}{ps:List Pa}(h:∀ p∈ps,p.1 = "at" /\ 0<=p.2.1/\p.2.1<t):∀ qs∈bw ps,qs.length<=900/\eY t qs:=λqs hq=>by unfold bw at hq;obtain⟨p,hp,hq⟩:=acV.mp hq;obtain⟨o,_,rfl⟩:=aa8.mp hq;refine⟨(show 1<=900 by decide),C4 λz hz=>?_⟩;rw[abp.mp hz];exact h p hp
def jK(u d t m:Int)(tb:Tb)(cl:List (List Pa))(H:Hp)(k:abd):Prop:=∃ cs L ps,ps∈cl/\H k=some (.lst (cs.map V.int))/\cs.length=t.toNat/\jx (dF u d ps (t-1).toNat) (eF ps t.toNat) tb m L (bP cs)
theorem jK.same(h:jK u d t m tb cl H k)(s:aj H H'):jK u d t m tb cl H' k:=let ⟨cs,L,ps,a,b,c⟩:=h;⟨cs,L,ps,a,s _ _ b,c⟩
inductive YW(K:aa0)(B C:abd)(vs:List V)(H:Hp)(Q:VK)(aP:XK):Prop
 | mk(x p v:abd)(e t u d m:Int)(ms:List Mk)(tb:Tb)(_:vs=[.ref x,.ref v])(_:bL B H x e t u d m p tb)(_:dZ e t u d m)(_:bI e t tb)(_:tb.length<=60)(_:fA C H v ms)(_:ms.length<=60)(_:0<=bQ ms)(_:bQ ms<t)(_:(∀ k∈ms,(k.1:Int)<t))(_:(¬ iY u d t m tb []->∀ r z H',aj H H'->H' r=some (.tup [.str "none",z])->fB u d t m tb H' z []->Q (.ref r) H'))(_:(iY u d t m tb []->∀ r k zs H',aj H H'->H' r=some (.tup [.str "yes",.ref k])->H' k=some (.lst zs)->az (fB u d t m tb H') zs [a8 ms]->Q (.ref r) H'))(_:(iY u d t m tb []->∀ r k zs H',aj H H'->H' r=some (.tup [.str "no",.ref k])->H' k=some (.lst zs)->az (fB u d t m tb H') zs (bw (a8 ms))->Q (.ref r) H'))(_:(∀ r k1 k2 H',aj H H'->H' r=some (.tup [.str "open",.ref k1,.ref k2])->jK u d t m tb (bw (a8 ms)) H' k1->jK u d t m tb [a8 ms] H' k2->Q (.ref r) H'))
theorem YX(T:Tx K mg):Ok P w base 22 T.mQ (YW K T.aO T.bG):=by
 refine ju sN ?_;rintro _ A _ _ H _ _ _ hr ⟨x,p,v,e,t,u,d,m,ms,tb,rfl,hB,dG,aZ,cj,hL,hml,f0,f1,iI,qn,qy,qo,qp⟩;refine⟨_,(ax (aG (bC (bz (fY (aa 0) T.bA T.uk (uo T) (hr.mono (by decide)) T.iT.b .nil bb (ae (eK (aa 1) T.di T.KC (LR T) (hr.mono (by decide)) T.lO.b .nil bb) ag)))) (au (kW kX rfl T.Cm T.wW rfl (ae bp ag))) aH)
  (ax (aI 2 sN.nd (bR (CN T) (hr.mono (by decide)) rfl T.x_ask.m T.x_ask.F.kp T.x_ask.b .nil df (ae (aa 0) (ae (cO ag) ag))))
  (ax (aG (bT (aq (aa 2) af) bp) (au (aA (aS (ae bp (ae (aq (aa 2) af) ag))))) aH)
  (ax (aI 3 sN.nd (bR (LX T) (hr.mono (by decide)) rfl T.jE.m T.jE.F.kp T.jE.b .nil df (ae (aa 0) (ae (eK (aa 1) T.di T.uh (uG T) (hr.mono (by decide)) T.iQ.b .nil bb) ag))))
  (ax (aG (bT (aq (aa 3) af) bp) (au (aA (aS (ae bp (ae (aq (aa 3) af) ag))))) aH)
  (ax (aI 4 sN.nd (bR (LX T) (hr.mono (by decide)) rfl T.jE.m T.jE.F.kp T.jE.b .nil df (ae (aa 0) (ae (eK (aa 1) T.di T.qu (qJ T) (hr.mono (by decide)) T.ik.b .nil bb) ag))))
  (ax (aG (bT (aq (aa 4) af) bp) (au (aA (aS (ae bp (ae (aq (aa 4) af) ag))))) aH)
  (au (aA (aS (ae bp (ae (aq (aa 4) af) (ae (aq (aa 3) af) ag))))))))))))),?_⟩
 obtain⟨⟨e1,e7⟩,⟨t1,t2⟩,u0,d0,m0,me⟩:=id dG;obtain⟨dv,l0,ni,hv,_,_⟩:=id hL;refine aC (λσ H1=>σ=[some (.ref x),some (.ref v),none,none,none]/\aj H H1) (λN hN=>?_) ?_
 .obtain⟨⟨bx,hx⟩,hT⟩:=id hB;obtain⟨kvs,hkv,_⟩:=hT;rfl';refine⟨_,_,hx,rfl,_,_,hv,rfl,v,ms,rfl,hL,hml,λH1 s1=>?_⟩;refine⟨x,p,e,t,u,d,m,_,kvs,rfl,⟨⟨bx,s1 _ _ hx⟩,s1 _ _ hkv⟩,?_⟩;rw[decide_eq_true ⟨f0,f1⟩];exact hN _ _ ⟨rfl,s1⟩
 rintro _ yR σ H1 ⟨rfl,s1⟩;subst yR;refine aC (λσ H2=>∃ a z y,σ=[some (.ref x),some (.ref v),some (.ref a),none,none]/\aj H H2/\H2 a=some (.tup [.str y,z])/\((iY u d t m tb []/\y = "may")∨(¬ iY u d t m tb []/\y = "never" /\ fB u d t m tb H2 z []))) (λN hN=>?_) ?_
 .rfl';refine⟨abt _,λb hb=>?_⟩;have sb:=s1.trans (ao (o:=.lst []) hb);have nj:eY t []:=λp hp=>by cases hp
  refine⟨x,p,b,e,t,u,d,m,[],[],tb,rfl,hB.same sb,aZ,cj,t1,t2,by lia,e7,m0,by lia,ai.of aw,trivial,abt _,λz=>absurd nj z,λ_ a H2 s2 A=>?_⟩;by_cases hh:iY u d t m tb []
  .obtain⟨L0,c0,F0⟩:=id hh;obtain⟨rr,rfl,⟨z,hrr,hn⟩|⟨k9,cs,L,hrr,gk,_,hcs,F⟩⟩:=xr (by rw[xq,jJ];lia) (λr hr=>by rw[jJ];have:=(aZ.2 r hr).2;lia) A
   .exact absurd F0 (hn _ _)
   .exact hN _ _ ⟨rr,_,_,rfl,sb.trans s2,hrr,.inl ⟨hh,rfl⟩⟩
  .obtain⟨rr,z,rfl,hrr,hR⟩:=LW A λL c F=>hh ⟨L,c,F⟩;exact hN _ _ ⟨rr,_,_,rfl,sb.trans s2,hrr,.inr ⟨hh,rfl,hR⟩⟩
 rintro _ yR σ H2 ⟨a,z,y,rfl,s2,ha,ca⟩;subst yR;refine aC (λσ H3=>σ=[some (.ref x),some (.ref v),some (.ref a),none,none]/\H3=H2/\iY u d t m tb []) (λN hN=>?_) ?_
 .rfl';refine ak (ah.of ha) rfl ?_;rcases ca with ⟨hh,rfl⟩|⟨hh,rfl,hR⟩
  .rfl';rw[if_neg (by decide)];exact hN _ _ ⟨rfl,rfl,hh⟩
  .rfl';refine ak (ah.of ha) rfl ⟨aW,λr hr=>qn hh r _ _ (s2.trans (ao hr)) aw (fU.same hR (ao hr))⟩
 rintro _ yR σ H3 ⟨rfl,rfl,hh⟩;subst yR;have bo:∀ ps∈[a8 ms],ps.length<=900/\eY t ps:=λps hp=>by rw[abp.mp hp];exact⟨by rw[nh];lia,C4 (xu iI)⟩
 refine aC (λσ H4=>∃ w,σ=[some (.ref x),some (.ref v),some (.ref a),some (.ref w),none]/\aj H H4/\((∃ k,H4 w=some (.tup [.str "may",.ref k])/\jK u d t m tb [a8 ms] H4 k)∨(∃ k zs,H4 w=some (.tup [.str "never",.ref k])/\H4 k=some (.lst zs)/\az (fB u d t m tb H4) zs [a8 ms]))) (λN hN=>?_) ?_
 .rfl';refine⟨_,_,s2 _ _ hv,rfl,v,ms,rfl,hL.same s2,hml,λb ys H4 s4 _ hb hC=>?_⟩;refine⟨x,p,b,e,t,u,d,m,tb,ys,_,rfl,(hB.same s2).same s4,dG,aZ,cj,hb,hC.imp λ_ _ r=>cN.cm r,(show 1<=200 by decide),bo,λr k9 cs L ps H5 s5 pin hr hk bf F=>hN _ _ ⟨r,rfl,s2.trans (s4.trans s5),.inl ⟨k9,hr,cs,L,ps,pin,hk,bf,F⟩⟩,λr k9 zs H5 s5 hr gk hR bS=>hN _ _ ⟨r,rfl,s2.trans (s4.trans s5),.inr ⟨k9,zs,hr,gk,hR⟩⟩⟩
 rintro _ yR σ H4 ⟨w,rfl,s4,cw⟩;subst yR;refine aC (λσ H5=>σ=[some (.ref x),some (.ref v),some (.ref a),some (.ref w),none]/\H5=H4/\∃ k,H4 w=some (.tup [.str "may",.ref k])/\jK u d t m tb [a8 ms] H4 k) (λN hN=>?_) ?_
 .rfl';rcases cw with ⟨k,hw,hf⟩|⟨k9,zs,hw,gk,hR⟩
  .refine ak (ah.of hw) rfl ?_;rfl';rw[if_neg (by decide)];exact hN _ _ ⟨rfl,rfl,k,hw,hf⟩
  .refine ak (ah.of hw) rfl ?_;rfl';refine ak (ah.of hw) rfl ⟨aW,λr hr=>qy hh r k9 zs _ (s4.trans (ao hr)) aw ((ao hr) _ _ gk) (hR.imp λ_ _ h=>fU.same h (ao hr))⟩
 rintro _ yR σ H5 ⟨rfl,rfl,k2,hw,xy⟩;subst yR;refine aC (λσ H6=>∃ b,σ=[some (.ref x),some (.ref v),some (.ref a),some (.ref w),some (.ref b)]/\aj H5 H6/\((∃ k,H6 b=some (.tup [.str "may",.ref k])/\jK u d t m tb (bw (a8 ms)) H6 k)∨(∃ k zs,H6 b=some (.tup [.str "never",.ref k])/\H6 k=some (.lst zs)/\az (fB u d t m tb H6) zs (bw (a8 ms))))) (λN hN=>?_) ?_
 .rfl';refine⟨_,_,s4 _ _ hv,rfl,v,ms,rfl,hL.same s4,hml,λb ys H6 s6 _ hb hC=>?_⟩;have fl:=su (a8 ms);rw[nh] at fl;refine⟨x,p,b,e,t,u,d,m,tb,ys,_,rfl,(hB.same s4).same s6,dG,aZ,cj,hb,hC.imp λ_ _ r=>cN.cm r,by lia,LY (xu iI),λr k9 cs L ps H7 s7 pin hr hk bf F=>hN _ _ ⟨r,rfl,s6.trans s7,.inl ⟨k9,hr,cs,L,ps,pin,hk,bf,F⟩⟩,λr k9 zs H7 s7 hr gk hR bS=>hN _ _ ⟨r,rfl,s6.trans s7,.inr ⟨k9,zs,hr,gk,hR⟩⟩⟩
 rintro _ yR σ H6 ⟨b,rfl,s6,cb⟩;subst yR;have S6:=s4.trans s6;rfl';rcases cb with ⟨k1,hb,xA⟩|⟨k9,zs,hb,gk,hR⟩
 .refine ak (ah.of hb) rfl ?_;rfl';rw[if_neg (by decide)];refine ak (ah.of hb) rfl (ak (ah.of (s6 _ _ hw)) rfl ⟨by decide,λr hr=>?_⟩);have ur:=ao (o:=.tup [.str "open",.ref k1,.ref k2]) hr;exact qp r k1 k2 _ (S6.trans ur) aw (xA.same ur) (xy.same (s6.trans ur))
 .refine ak (ah.of hb) rfl ?_;rfl';refine ak (ah.of hb) rfl ⟨aW,λr hr=>qo hh r k9 zs _ (S6.trans (ao hr)) aw ((ao hr) _ _ gk) (hR.imp λ_ _ h=>fU.same h (ao hr))⟩
theorem LZ:∀ {zs:List V} {bs:List Bool},az (λv (b:Bool)=>v=V.bl b) zs bs->zs=bs.map V.bl
 | [],[],_=>rfl
 | _::_,_::_,h=>by rw[h.1,LZ h.2];rfl
inductive YY(K:aa0)(vs:List V)(H:Hp)(Q:VK)(aP:XK):Prop
 | mk(w b k:abd)(wv:V)(e t u d m:Int)(tb:Tb)(ys zs:List V)(cl:List (List Pa))(_:vs=[wv,.ref b,.ref k])(_:iu H wv w e t u d m tb)(_:(1<=t/\t<=12))(_:bI e t tb)(_:H b=some (.lst ys))(_:az (C1 H) ys cl)(_:H k=some (.lst zs))(_:az (fB u d t m tb H) zs cl)(_:cl.length<=200)(_:(∀ ps∈cl,ps.length<=900/\eY t ps))(_:∀ H',aj H H'->Q (.bl true) H')
theorem L3(T:Tx K mg):Ok P w base 35 T.t9 (YY K):=by
 refine bc Kq ?_;rintro _ _ _ s H _ Q _ hr ⟨w,b,k,wv,e,t,u,d,m,tb,ys,zs,cl,rfl,hW,ht,aZ,C5,L6,xB,dI,bl,bo,q⟩;refine⟨_,(ax (aG (PW.pt (bB (bC (bz (aV hU (by rfl) T.gh gd (ae (aa 2) (ae (iz (v:=.ty "list") rfl T.m5 mi rfl) ag))))) (ck (fQ (aV cD (by rfl) T.cA cp (ae (aa 2) ag)) (aV cD (by rfl) T.cA cp (ae (aa 1) ag)))))) (au (aA b9)) aH)
  (au (aA (aV (vO rfl) (by rfl) T.wR vz (ae (vH (g:=iA K 2 (cB (bX 0) (cB (bX 1) gR))) (j7.mk (own:=["_law_claim","_law_paper"]) (fr:=[0]) (ys:=["_law_world_here"]) rfl (by decide +kernel) rfl (by decide +kernel) rfl (.cons rfl .nil) (.cons rfl rfl rfl rfl .nil) rfl) rfl (Gi rfl T.Kx (ae (aa 1) (ae (aa 2) ag))) (λC s2 H2 ex pn=>jW (n:=2) rfl (dw (gq (i:=0) (show (["_law_claim","_law_paper","_law_world_here"]:List Str).Nodup by decide) rfl (.inl (abx rfl)) (.inr (abx rfl))) (dw (gq (i:=1) (show (["_law_claim","_law_paper","_law_world_here"]:List Str).Nodup by decide) rfl (.inl (abx rfl)) (.inr (abx rfl))) jV))) (λC s2 H2 ex pn=>⟨dg,(aD (LP T) hr (ae (aa 2) (ae (aa 0) (ae (aa 1) ag))))⟩)) ag))))),?_⟩
 have yl:=L6.len;have zl:=dI.len;rfl';refine vA xB ?_;rfl';refine⟨_,dO (ai.of xB),_,dO (ai.of C5),?_⟩;rw[if_neg (by rw[yl,zl];simp)];refine⟨⟨_,ai.of C5⟩,⟨_,ai.of xB⟩,?_⟩;refine QU (xs:=ys) (ys:=zs) (abb (by rw[aio];lia:_<=200) (by decide)) (zX (R':=λ_ v (b:Bool)=>v=V.bl b) (p:=λ_=>true) (f:=λ_=>true) (bs:=[]) (λ_ _ _ _ _ h=>h) trivial (λH' s'=>⟨ai.of (s' _ _ C5),ai.of (s' _ _ xB)⟩) (λr dE H' s' Q h=>?_) (λr dE _ H' s' Q h=>?_) λH' ws s' hw=>?_)
 .rfl';exact h
 .obtain⟨n,hn⟩:=abT.mp dE;rw[List.getElem?_zip_eq_some] at hn;obtain⟨ps,dt,c,xs,e1,hc,hP⟩:=L6.get hn.1;obtain⟨YZ,L8,hR⟩:=dI.get hn.2;obtain rfl:ps=YZ:=by rw[dt] at L8;exact Option.some.inj L8
  obtain⟨pl,nj⟩:=bo ps (abi dt);rfl';rw[e1];exact⟨wv,r.2,w,c,e,t,u,d,m,tb,xs,ps,rfl,hW.same s',ht.1,ht.2,aZ,ai.of (s' _ _ hc),hP.same s',pl,fU.same hR s',λH4 s4=>h _ _ s4 rfl⟩
 .intro l2 ba;rw[abr] at hw;have ez:=LZ hw;refine⟨l2,rfl,_,by rw[ez];exact ai.of aw,?_⟩;rw[show ((((ys.zip zs).filter λ_=>true).map λ_=>true).all id)=true by rw[ahY];exact acx.mpr λ_ _=>rfl];exact q _ (s'.trans (ao ba))
inductive L9(K:aa0)(vs:List V)(H:Hp)(Q:VK)(aP:XK):Prop
 | mk(w c:abd)(e t i:Int)(tb:Tb)(cs:List Int)(_:vs=[.ref w,.int i,.ref c])(_:TabAt H w tb)(_:bI e t tb)(_:tb.length<=60)(_:ai K H c (cs.map V.int))(_:(∀ r∈tb,r.1.2<(cs.length:Int)))(_:(fS tb cs i->∀ H',aj H H'->Q (.bl true) H'))(_:(¬ fS tb cs i->∀ H',aj H H'->Q (.bl false) H'))
def Y0(G:Hp)(w c:abd)(i:Int)(tb:Tb)(cs:List Int)(n:Nat)(σ:St)(H4:Hp):Prop:=(∃ e1,σ=[some (.ref w),some (.int i),some (.ref c),e1])/\aj G H4/\¬ fS (tb.take n) cs i
theorem Ma{tb:Tb}{cs:List Int}{r:P2 × S2}{i:Nat}(h:tb[i]?=some r)(j:Int):fS (tb.take (i+1)) cs j↔fS (tb.take i) cs j∨(r.1.1=j/\hs r.2 (cM cs r.1.2.toNat)=false):=by
 unfold fS;rw[ab9,h];constructor
 .rintro ⟨q,hq,h1,h2⟩;rcases abD.mp hq with z|z
  .exact .inl ⟨q,z,h1,h2⟩
  .obtain rfl:q=r:=by simpa using z
   exact .inr ⟨h1,h2⟩
 .rintro (⟨q,hq,h1,h2⟩|⟨h1,h2⟩)
  .exact⟨q,acK _ hq,h1,h2⟩
  .exact⟨r,abC _ (by simp),h1,h2⟩
theorem C6(T:Tx K mg):Ok P w base 2 T.t8 (L9 K):=by
 refine bc Cf ?_;rintro _ _ _ _ H _ _ _ hr ⟨w,c,e,t,i,tb,cs,rfl,hT,ay,cj,hc,bf,q1,q0⟩;refine⟨_,(ax (sd (cI abJ rfl (sf (aa 0)) (b8 3 Cf.nd) (au (aG (PW.pt (i5 (bT (aq (aa 3) af) (aa 1)) (jT (bC (bz (aD (wY T) hr (ae (pN (eh hr) (aa 0) (aa 3) (λ_ _=>rfl)) (ae (aq (aa 2) (aq (aa 3) af)) ag)))))))) (au (aA b9)) aH))))
  (au (aA b9))),?_⟩
 obtain⟨kvs,hkv,hA⟩:=id hT;rfl';refine⟨w,kvs,hkv,λo=>⟨o,kvs,aw,λeQ=>?_⟩⟩;have uH:=hA.aL hkv (u:=.aL o (.dT kvs));have PT:=(hA.aL hkv (u:=.aL o (.dT kvs))).nM eQ;have kl:=PT.len;rw[aa2] at kl;have Mb:ai K (upd H w (.aL o (.dT kvs))) c (cs.map V.int):=Ih hkv hc;have wG:upd H w (.aL o (.dT kvs)) w=some (.aL o (.dT kvs)):=aw;have gj:∀ H4,aj (upd H w (.aL o (.dT kvs))) H4->aj H (upd H4 w (.dT kvs)):=λH4 s4=>wg hkv s4;generalize upd H w (.aL o (.dT kvs))=G at uH PT Mb wG gj eQ;refine z5 (xs:=eE o) (Y0 G w c i tb cs) rfl (by rw[kl,hA.len]) ⟨⟨_,rfl⟩,aj.refl _,λ⟨r,hr,_⟩=>by simp at hr⟩ ?_ ?_ ?_
 .rintro n σ H4 _ ⟨_,s4,_⟩;exact s4 _ _ wG
 .rintro n v σ H4 hv ⟨⟨e1,rfl⟩,s4,bS⟩;obtain⟨s0,uI,ka,rfl,fz⟩:=PT.get hv;rw[abh] at uI;obtain⟨r,hr,rfl⟩:=abF.mp uI;have kE:=abi hr;obtain⟨⟨b1,b2⟩,b3,b4⟩:=ay.2 r kE;have C7:=bf r kE;obtain⟨vv,hvv,va,rfl,hva⟩:=(uH.val r.1).2 _ (pU ay.1 kE);have kF:=s4 _ _ fz;rfl';refine ak (ah.of kF) rfl ?_;rfl';refine aX (λh1=>?_) λh1=>⟨⟨_,rfl⟩,s4,λz=>((Ma hr i).mp z).elim bS λy=>h1 y.1⟩
  refine⟨.ref va,by rw[<- hvv];exact dU.z (k:=bH r.1.1 r.1.2) (s4 _ _ wG) kF,ak (ah.of kF) rfl (bJ (s4.seq Mb) (int_at b3 C7) ⟨va,r.2.1,r.2.2,_,rfl,ah.of (s4 _ _ hva),?_⟩)⟩;rfl';cases hb:hold r.2.1 r.2.2 (cs.getD r.1.2.toNat 0) with
  | false =>
   rfl';exact⟨s4 _ _ wG,q1 ⟨r,kE,h1,hb⟩ _ (gj _ s4)⟩
  | true =>
   rfl';exact⟨⟨_,rfl⟩,s4,λz=>((Ma hr i).mp z).elim bS λy=>by have:hold r.2.1 r.2.2 (cs.getD r.1.2.toNat 0)=false:=y.2;rw[hb] at this;cases this⟩
 .rintro σ H4 ⟨⟨e1,rfl⟩,s4,bS⟩;have tl:(eE o).length=tb.length:=kl;rw[tl,ab5] at bS;have w4:=s4 _ _ wG;refine⟨w4,?_⟩;rfl';exact q0 bS _ (gj _ s4)
theorem Mc{u d t m:Int}{tb:Tb}{ps:List Pa}{L:List Int}{c:Nat->Int}(F:jx (dF u d ps (t-1).toNat) (eF ps t.toNat) tb m L c){k:Nat}{s:S2}(hk:(k:Int)<t)(hm:(("at",(k:Int),s):Pa)∈ps):(∀ a,s.1=some a->a<=c k)/\∀ a,s.2=some a->c k<=a:=zN.mp (F.2.2.1 k (fN (none,none) (sel _ "at" (k:Int))) (by unfold eF;rw[abh,acA (by lia)];rfl)) s (YT (p:=("at",(k:Int),s)) hm)
theorem Md(h:o∈eO s)(h1:bF o x)(h2:bF s x):False:=by
 obtain⟨lo,hi⟩:=s;unfold eO at h;cases lo<;>cases hi<;>simp at h
 .subst h;have a:=h1.1 _ rfl;have b:=h2.2 _ rfl;lia
 .subst h;have a:=h1.2 _ rfl;have b:=h2.1 _ rfl;lia
 .rcases h with rfl|rfl
  .have a:=h1.2 _ rfl;have b:=h2.1 _ rfl;lia
  .have a:=h1.1 _ rfl;have b:=h2.2 _ rfl;lia
theorem Me(aZ:bI e t tb):∀ k∈aK tb i,(k.1:Int)<t:=λk hk=>by obtain⟨r,hr,_,rfl⟩:=jm.mp hk;have:=(aZ.2 r hr).2;show ((r.1.2.toNat:Nat):Int)<t;lia
theorem Mf:(aK tb i).length<=tb.length:=by unfold aK;rw[aa2];exact abb (abR _ _) (by rw[nN];exact aba _)
theorem Mg(ht:1<=t)(h:∀ k∈ms,(k.1:Int)<t):0<=bQ ms/\bQ ms<t:=by
 cases ms with
 | nil=>exact⟨ach _,by show (0:Int)<t;lia⟩
 | cons m ms =>
  obtain⟨a,_⟩:=rL (ns:=(m::ms).map λk=>(k.1:Int)) (by simp);obtain⟨k,hk,e⟩:=aa8.mp a;have e:hV ((m::ms).map λk=>(k.1:Int))=(k.1:Int):=e.symm;have:=h k hk;have ef:bQ (m::ms)=hV ((m::ms).map λk=>(k.1:Int)):=rfl;rw[ef];exact⟨by lia,by lia⟩
theorem Y1(h0:∀ k∈aK aJ i,(k.1:Int)<t)(hp:ps∈bw (a8 (aK aJ i)))(F:jx (dF u d ps (t-1).toNat) (eF ps t.toNat) tb m L (bP cs)):fS aJ cs i:=by unfold bw at hp;obtain⟨p,cP,hq⟩:=acV.mp hp;obtain⟨o,ho,rfl⟩:=aa8.mp hq;obtain⟨k,hk,rfl⟩:=aa8.mp cP;have Y2:=h0 k hk;obtain⟨r,hr,e,rfl⟩:=jm.mp hk;refine⟨r,hr,e,acD.mpr λz=>Md ho (Mc F (k:=r.1.2.toNat) (s:=o) Y2 (.head _)) (nG.mp z)⟩
theorem Y3(h0:∀ k∈aK aJ i,(k.1:Int)<t)(F:jx (dF u d (a8 (aK aJ i)) (t-1).toNat) (eF (a8 (aK aJ i)) t.toNat) tb m L (bP cs)):¬ fS aJ cs i:=by rintro ⟨r,hr,e,z⟩;have hm:((r.1.2.toNat,r.2):Mk)∈aK aJ i:=jm.mpr ⟨r,hr,e,rfl⟩;have:hs r.2 (cM cs r.1.2.toNat)=true:=nG.mpr (Mc F (k:=r.1.2.toNat) (s:=r.2) (h0 _ hm) (aa8.mpr ⟨_,hm,rfl⟩));rw[this] at z;cases z
inductive Y4(K:aa0)(B C:abd)(vs:List V)(H:Hp)(Q:VK)(aP:XK):Prop
 | mk(x p w w0 v:abd)(wv:V)(e t u d m i:Int)(tb aJ:Tb)(_:vs=[wv,.ref x,.ref w0,.int i,.ref v])(_:bL B H x e t u d m p tb)(_:iu H wv w e t u d m tb)(_:dZ e t u d m)(_:bI e t tb)(_:tb.length<=60)(_:TabAt H w0 aJ)(_:bI e t aJ)(_:aJ.length<=60)(_:fA C H v (aK aJ i))(_:∀ H',aj H H'->Q (.bl true) H')
theorem C8(T:Tx K mg):Ok P w base 36 T.gJ (Y4 K T.aO T.bG):=by
 refine ju wQ ?_;rintro _ A _ _ H _ _ _ hr ⟨x,p,w,w0,v,wv,e,t,u,d,m,i,tb,aJ,rfl,hB,hW,dG,aZ,cj,qK,jL,uJ,hL,q⟩;refine⟨_,(ax (aI 5 wQ.nd (bR (YX T) (hr.mono (by decide)) rfl T.mQ.m T.mQ.F.kp T.mQ.b .nil df (ae (aa 1) (ae (aa 4) ag))))
  (ax (aG (PW.pt (bB (bC (bz (aV hU (by rfl) T.gh gd (ae (aa 5) (ae (iz (v:=.ty "tuple") rfl T.ue rB rfl) ag))))) (ck (lM (aV cD (by rfl) T.cA cp (ae (aa 5) ag)) af)))) (au (aA b9)) aH)
  (ax (aG (bT (aq (aa 5) af) bp) (au (aA (fv (fe md (aV cD (by rfl) T.cA cp (ae (aa 5) ag)) af (da _)) (eU (aD (LP T) hr (ae (aa 0) (ae (cO ag) (ae (aq (aa 5) af) ag)))))))) aH)
  (ax (aG (bT (aq (aa 5) af) bp) (ax (aG (PW.pt (bB (fQ (aV cD (by rfl) T.cA cp (ae (aa 5) ag)) af) (bB (bC (bz (aD (CV T) hr (ae (aa 0) (ae (aq (aa 5) af) ag))))) (ck (bC (bz (aD (CV T) hr (ae (aa 0) (ae (aq (aa 5) af) ag))))))))) (au (aA b9)) aH)
    (au (aA (fv (aD (C6 T) hr (ae (aa 2) (ae (aa 3) (ae (aq (aa 5) af) ag)))) (eU (sH (aD (C6 T) hr (ae (aa 2) (ae (aa 3) (ae (aq (aa 5) af) ag)))))))))) aH)
  (ax (aI 6 wQ.nd (bR (CN T) (hr.mono (by decide)) rfl T.x_ask.m T.x_ask.F.kp T.x_ask.b .nil df (ae (aa 1) (ae (cO ag) ag))))
  (ax (aG (PW.pt (bB (fQ (aV cD (by rfl) T.cA cp (ae (aa 5) ag)) af) (bB (fQ (aq (aa 6) af) bp) (ck (bC (bz (aD (CV T) hr (ae (aa 0) (ae (aq (aa 6) af) ag))))))))) (au (aA b9)) aH)
  (ax (aG (bT (aq (aa 5) af) bp) (au (aA (aD (L3 T) hr (ae (aa 0) (ae (eK (aa 4) T.di T.uh (uG T) (hr.mono (by decide)) T.iQ.b .nil bb) (ae (aq (aa 5) af) ag)))))) aH)
  (au (aA (fv (fe md (aq (aa 5) af) bp (da _)) (eU (aD (L3 T) hr (ae (aa 0) (ae (eK (aa 4) T.di T.qu (qJ T) (hr.mono (by decide)) T.ik.b .nil bb) (ae (aq (aa 5) af) ag))))))))))))))),?_⟩
 obtain⟨⟨e1,e7⟩,⟨t1,t2⟩,u0,d0,m0,me⟩:=id dG;have mt:=Me (i:=i) jL;have ml:=Mf (i:=i) (tb:=aJ);obtain⟨f0,f1⟩:=Mg t1 mt;have FT:∀ (H1:Hp) (k:abd) (cl:List (List Pa)) (R:VK),aj H H1->jK u d t m tb cl H1 k->(∀ H2,aj H1 H2->R (.bl true) H2)->LJ K [wv,.ref k] H1 R E0:=λH1 k cl R s1 hf hr=>by obtain⟨cs,L,ps,pin,hk,hcs,F⟩:=hf;exact⟨wv,w,k,e,t,u,d,m,tb,cs,rfl,hW.same s1,t1,t2,aZ,cj,hk,hcs,YR hcs F,YS F,hr⟩
 refine aC (λσ H1=>∃ r,σ=[some wv,some (.ref x),some (.ref w0),some (.int i),some (.ref v),some (.ref r),none]/\aj H H1/\((∃ z,H1 r=some (.tup [.str "none",z])/\fB u d t m tb H1 z [])∨(iY u d t m tb []/\∃ k zs,H1 r=some (.tup [.str "yes",.ref k])/\H1 k=some (.lst zs)/\az (fB u d t m tb H1) zs [a8 (aK aJ i)])∨(iY u d t m tb []/\∃ k zs,H1 r=some (.tup [.str "no",.ref k])/\H1 k=some (.lst zs)/\az (fB u d t m tb H1) zs (bw (a8 (aK aJ i)))) ∨ ∃ k1 k2,H1 r=some (.tup [.str "open",.ref k1,.ref k2])/\jK u d t m tb (bw (a8 (aK aJ i))) H1 k1/\jK u d t m tb [a8 (aK aJ i)] H1 k2)) (λN hN=>?_) ?_
 .rfl';exact⟨x,p,v,e,t,u,d,m,_,tb,rfl,hB,dG,aZ,cj,hL,by lia,f0,f1,mt,λ_ r z H1 s1 hr hR=>hN _ _ ⟨r,rfl,s1,.inl ⟨z,hr,hR⟩⟩,λhh r k zs H1 s1 hr hk hR=>hN _ _ ⟨r,rfl,s1,.inr (.inl ⟨hh,k,zs,hr,hk,hR⟩)⟩,λhh r k zs H1 s1 hr hk hR=>hN _ _ ⟨r,rfl,s1,.inr (.inr (.inl ⟨hh,k,zs,hr,hk,hR⟩))⟩,λr k1 k2 H1 s1 hr h1 h2=>hN _ _ ⟨r,rfl,s1,.inr (.inr (.inr ⟨k1,k2,hr,h1,h2⟩))⟩⟩
 rintro _ yR σ H1 ⟨r,rfl,s1,cas⟩;subst yR;rcases cas with ⟨z,hr,hR⟩|⟨hh,k,zs,hr,hk,hR⟩|⟨hh,k,zs,hr,hk,hR⟩|⟨k1,k2,hr,xA,xy⟩
 .rfl';refine mj hr ?_;rfl';refine⟨_,.inr ⟨_,ah.of hr,rfl⟩,?_⟩;rw[if_neg (by simp)];refine ak (ah.of hr) rfl ?_;rfl';refine⟨_,.inr ⟨_,ah.of hr,rfl⟩,?_⟩;rw[if_pos (by simp)];refine⟨abt _,λb hb=>?_⟩;have u1:=ao (o:=.lst []) hb;refine ak (ah.of (u1 _ _ hr)) rfl ⟨wv,z,w,b,e,t,u,d,m,tb,[],[],rfl,hW.same (s1.trans u1),t1,t2,aZ,ai.of aw,trivial,abt _,fU.same hR u1,λH2 s2=>q _ (s1.trans (u1.trans s2))⟩
 .rfl';refine mj hr ?_;rfl';refine⟨_,.inr ⟨_,ah.of hr,rfl⟩,?_⟩;rw[if_neg (by simp)];refine ak (ah.of hr) rfl ?_;rfl';rw[if_neg (by decide)];refine ak (ah.of hr) rfl ?_;rfl';rw[if_neg (by decide)];refine⟨abt _,λb hb=>?_⟩;have sb:=ao (o:=.lst []) hb;have nj:eY t []:=λp hp=>by cases hp
  refine⟨x,p,b,e,t,u,d,m,[],[],tb,rfl,hB.same (s1.trans sb),aZ,cj,t1,t2,by lia,e7,m0,by lia,ai.of aw,trivial,abt _,λz=>absurd nj z,λ_ a H2 s2 A=>?_⟩;obtain⟨L0,c0,F0⟩:=id hh;obtain⟨rr,rfl,⟨z,hrr,hn⟩|⟨k9,cs,L,hrr,gk,_,hcs,F⟩⟩:=xr (by rw[xq,jJ];lia) (λr hr=>by rw[jJ];have:=(aZ.2 r hr).2;lia) A
  .exact absurd F0 (hn _ _)
  rw[jJ] at hcs;have S2:=sb.trans s2;have iX:=S2 _ _ hr;refine⟨_,.inr ⟨_,ah.of iX,rfl⟩,?_⟩;rw[if_neg (by simp)];refine ak (ah.of hrr) rfl ?_;rfl';refine ak (ah.of hrr) rfl (FT H2 k9 [[]] _ (s1.trans S2) ⟨cs,L,[],.head _,gk,hcs,F⟩ λH3 s3=>?_);have S3:=S2.trans s3;have X3:=s1.trans S3;have qL:=S3 _ _ hr;have uK:=hL.same X3;obtain⟨dv,l0,ni,C9,_,_⟩:=id uK;rfl';refine ak (ah.of qL) rfl ?_;rfl';refine⟨_,_,C9,rfl,v,_,rfl,uK,by lia,λb4 Dc H4 s4 _ Dd De=>?_⟩;have S4:=S3.trans s4;refine ak (ah.of (s4 _ _ qL)) rfl ⟨w,b4,k,wv,e,t,u,d,m,tb,Dc,zs,_,rfl,hW.same (s1.trans S4),⟨t1,t2⟩,aZ,Dd,De.imp λ_ _ r=>cN.cm r,S4 _ _ hk,hR.imp λ_ _ r=>fU.same r S4,(show 1<=200 by decide),λps hp=>by rw[abp.mp hp];exact⟨by rw[nh];lia,C4 (xu mt)⟩,λH5 s5=>q _ (s1.trans (S4.trans s5))⟩
 .rfl';refine mj hr ?_;rfl';refine⟨_,.inr ⟨_,ah.of hr,rfl⟩,?_⟩;rw[if_neg (by simp)];refine ak (ah.of hr) rfl ?_;rfl';rw[if_neg (by decide)];refine ak (ah.of hr) rfl ?_;rfl';rw[if_neg (by decide)];refine⟨abt _,λb hb=>?_⟩;have sb:=ao (o:=.lst []) hb;have nj:eY t []:=λp hp=>by cases hp
  refine⟨x,p,b,e,t,u,d,m,[],[],tb,rfl,hB.same (s1.trans sb),aZ,cj,t1,t2,by lia,e7,m0,by lia,ai.of aw,trivial,abt _,λz=>absurd nj z,λ_ a H2 s2 A=>?_⟩;obtain⟨L0,c0,F0⟩:=id hh;obtain⟨rr,rfl,⟨z,hrr,hn⟩|⟨k9,cs,L,hrr,gk,_,hcs,F⟩⟩:=xr (by rw[xq,jJ];lia) (λr hr=>by rw[jJ];have:=(aZ.2 r hr).2;lia) A
  .exact absurd F0 (hn _ _)
  rw[jJ] at hcs;have S2:=sb.trans s2;have iX:=S2 _ _ hr;refine⟨_,.inr ⟨_,ah.of iX,rfl⟩,?_⟩;rw[if_neg (by simp)];refine ak (ah.of hrr) rfl ?_;rfl';refine ak (ah.of hrr) rfl (FT H2 k9 [[]] _ (s1.trans S2) ⟨cs,L,[],.head _,gk,hcs,F⟩ λH3 s3=>?_);have S3:=S2.trans s3;have X3:=s1.trans S3;have qL:=S3 _ _ hr;have uK:=hL.same X3;obtain⟨dv,l0,ni,C9,_,_⟩:=id uK;rfl';refine ak (ah.of qL) rfl ?_;rfl';rw[if_neg (by decide)];refine ak (ah.of qL) rfl ?_;rfl';refine⟨rfl,_,_,C9,rfl,v,_,rfl,uK,by lia,λb4 Dc H4 s4 _ Dd De=>?_⟩;have S4:=S3.trans s4;refine ak (ah.of (s4 _ _ qL)) rfl ⟨w,b4,k,wv,e,t,u,d,m,tb,Dc,zs,_,rfl,hW.same (s1.trans S4),⟨t1,t2⟩,aZ,Dd,De.imp λ_ _ r=>cN.cm r,S4 _ _ hk,hR.imp λ_ _ r=>fU.same r S4,by have:=su (a8 (aK aJ i));rw[nh] at this;lia,LY (xu mt),λH5 s5=>q _ (s1.trans (S4.trans s5))⟩
 .rfl';refine mj hr ?_;rfl';refine⟨_,.inr ⟨_,ah.of hr,rfl⟩,?_⟩;rw[if_neg (by simp)];refine ak (ah.of hr) rfl ?_;rfl';rw[if_neg (by decide)];refine ak (ah.of hr) rfl ?_;rfl';refine⟨_,.inr ⟨_,ah.of hr,rfl⟩,?_⟩;rw[if_neg (by simp)];refine ak (ah.of hr) rfl (FT H1 k1 _ _ s1 xA λH2 s2=>?_);rfl';refine ak (ah.of (s2 _ _ hr)) rfl (FT H2 k2 _ _ (s1.trans s2) (xy.same s2) λH3 s3=>?_);have S3:=s2.trans s3;obtain⟨Y5,L1,ps1,Y6,gi,aaW,F1⟩:=xA;obtain⟨Y7,L2,ps2,Y8,jt,aaX,F2⟩:=xy;obtain rfl:=abp.mp Y8;rfl';refine ak (ah.of (S3 _ _ hr)) rfl ⟨w0,k1,e,t,i,aJ,Y5,rfl,qK.same (s1.trans S3),jL,uJ,ai.of (S3 _ _ gi),λr hr=>by have:=(jL.2 r hr).2;lia,λ_ H4 s4=>?_,λz=>absurd (Y1 mt Y6 F1) z⟩;have S4:=S3.trans s4;rfl';refine ak (ah.of (S4 _ _ hr)) rfl ⟨w0,k2,e,t,i,aJ,Y7,rfl,qK.same (s1.trans S4),jL,uJ,ai.of (S4 _ _ jt),λr hr=>by have:=(jL.2 r hr).2;lia,λz=>absurd z (Y3 mt F2),λ_ H5 s5=>?_⟩;rfl';exact q _ (s1.trans (S4.trans s5))
noncomputable def endsN(tb:Tb)(i:Int):Nat:=((tb.filter λr=>decide (r.1.1=i)).map λr=>(eO r.2).length).sum
theorem Y9(s:S2):(([s.1,s.2].filter λq=>q.isSome).map λq=>q.getD 0).length=(eO s).length:=by obtain⟨lo,hi⟩:=s;cases lo<;>cases hi<;>rfl
theorem Za{tb:Tb}{r:P2 × S2}{n:Nat}{i:Int}(h:tb[n]?=some r):endsN (tb.take (n+1)) i=endsN (tb.take n) i+if r.1.1=i then (eO r.2).length else 0:=by
 unfold endsN;rw[ab9,h,ahw,aco,agE]
 congr 1
 by_cases z:r.1.1=i
 .rw[if_pos z];simp[z]
 .rw[if_neg z];simp[z]
theorem Zb(i:Int):(bw (a8 (aK tb i))).length=endsN tb i:=by
 have a:∀ l:List (P2 × S2),(bw (a8 (l.map λr=>(r.1.2.toNat,r.2)))).length=(l.map λr=>(eO r.2).length).sum:=by
  intro l
  induction l with
  | nil=>rfl
  | cons r l ih =>
   rw[abj,abj,af7,<- ih];unfold a8 bw;rw[abj,ahO,abf,aa2]
 unfold aK endsN;rw[a];exact ((pX.filter _).map _).sum_nat
theorem Mh:∀ {zs:List V} {bs:List Int},az (λv (b:Int)=>v=V.int b) zs bs->zs=bs.map V.int
 | [],[],_=>rfl
 | _::_,_::_,h=>by rw[h.1,Mh h.2];rfl
inductive Zc(K:aa0)(vs:List V)(H:Hp)(Q:VK)(aP:XK):Prop
 | mk(w:abd)(e t i:Int)(tb:Tb)(_:vs=[.ref w,.int i])(_:TabAt H w tb)(_:bI e t tb)(_:tb.length<=60)(_:∀ H',aj H H'->Q (.int (endsN tb i)) H')
inductive Zd(G:Hp)(w:abd)(i:Int)(tb:Tb)(n:Nat)(σ:St)(H4:Hp):Prop
 | mk(l:abd)(ns:List Int)(e1:Option V)(_:σ=[some (.ref w),some (.int i),some (.ref l),e1])(_:aj G H4)(_:H4 l=some (.lst (ns.map V.int)))(_:ns.length=endsN (tb.take n) i)(_:ns.length<=2 * n)
theorem Ze(T:Tx K mg):Ok P w base 1 T.uc (Zc K):=by
 refine bc sR ?_;rintro _ _ _ _ H _ Q _ hr ⟨w,e,t,i,tb,rfl,hT,ay,cj,q⟩;refine⟨_,(ax (aI 2 sR.nd (cO ag))
  (ax (sd (cI abJ rfl (sf (aa 0)) (b8 3 sR.nd) (au (aG (bT (aq (aa 3) af) (aa 1)) (au (aI 2 sR.nd (aN mh (aa 2) (cQ (bU.mk (fr:=[]) (ys:=[]) rfl (by decide +kernel) rfl (by decide +kernel) rfl rfl .nil .nil (by decide) rfl) rfl (oQ (pN (eh hr) (aa 0) (aa 3) (λ_ _=>rfl))) (λC s2 H2 ex pn=>⟨(jc (fR (aa 0))),(aa 0)⟩))))) aH))))
  (au (aA (aV cD (by rfl) T.cA cp (ae (aa 2) ag)))))),?_⟩
 refine aC (λσ H1=>∃ l,σ=[some (.ref w),some (.int i),some (.ref l),none]/\aj H H1/\H1 l=some (.lst [])) (λN hN=>?_) ?_
 .rfl';exact⟨abt _,λl hl=>hN _ _ ⟨l,rfl,ao hl,aw⟩⟩
 rintro _ yR σ H1 ⟨l,rfl,s1,hl⟩;subst yR;obtain⟨kvs,hkv,hA⟩:=id (hT.same s1);refine aC (λσ H2=>∃ (l:abd) (ns:List Int) (e1:Option V),σ=[some (.ref w),some (.int i),some (.ref l),e1]/\aj H H2/\H2 l=some (.lst (ns.map V.int))/\ns.length=endsN tb i) (λN hN=>?_) ?_
 .rfl';refine⟨w,kvs,hkv,λo=>⟨o,kvs,aw,λeQ=>?_⟩⟩;have uH:=hA.aL hkv (u:=.aL o (.dT kvs));have PT:=(hA.aL hkv (u:=.aL o (.dT kvs))).nM eQ;have kl:=PT.len;rw[aa2] at kl;have wG:upd H1 w (.aL o (.dT kvs)) w=some (.aL o (.dT kvs)):=aw;have Mi:upd H1 w (.aL o (.dT kvs)) l=some (.lst []):=Ig hkv hl;have gj:∀ H4,aj (upd H1 w (.aL o (.dT kvs))) H4->aj H1 (upd H4 w (.dT kvs)):=λH4 s4=>wg hkv s4;generalize upd H1 w (.aL o (.dT kvs))=G at uH PT wG Mi gj eQ;refine z5 (xs:=eE o) (Zd G w i tb) rfl (by rw[kl,hA.len]) ⟨l,[],_,rfl,aj.refl _,Mi,rfl,aba _⟩ ?_ ?_ ?_
  .rintro n σ H4 _ ⟨_,_,_,_,s4,_⟩;exact s4 _ _ wG
  .rintro n v σ H4 hv ⟨l,ns,e1,rfl,s4,m9,gb,ym⟩;obtain⟨s0,uI,ka,rfl,fz⟩:=PT.get hv;rw[abh] at uI;obtain⟨r,hr,rfl⟩:=abF.mp uI;have kE:=abi hr;have hil:=(aa7.mp hr).1;obtain⟨vv,hvv,va,rfl,hva⟩:=(uH.val r.1).2 _ (pU ay.1 kE);have kF:=s4 _ _ fz;have es:=Za (i:=i) hr;rfl';refine ak (ah.of kF) rfl ?_;rfl';refine aX (λh1=>?_) λh1=>⟨l,ns,_,rfl,s4,m9,by rw[es,if_neg h1,gb];rfl,by lia⟩
   rw[if_pos h1] at es;refine⟨.ref va,by rw[<- hvv];exact dU.z (k:=bH r.1.1 r.1.2) (s4 _ _ wG) kF,va,rfl,⟨_,ah.of (s4 _ _ hva)⟩,cJ (xs:=[ev r.2.1,ev r.2.2]) yW aW (nO (R:=λv (q:En)=>v=ev q) (R':=λv (n:Int)=>v=V.int n) (p:=λq=>q.isSome) (f:=λq=>q.getD 0) (as:=[r.2.1,r.2.2]) (ah.of (s4 _ _ hva)) ⟨rfl,rfl,trivial⟩ (λv q r Q h=>?_) (λv q hp r Q h=>?_) λzs uC=>?_)⟩
   .subst r;rfl';cases q with
    | none=>exact h
    | some y=>exact h
   .subst r;rfl';cases q with
    | none=>cases hp
    | some y=>exact h _ rfl
   .intro l5 oy;rw[abr,Mh uC];have op:=Y9 r.2;have o2:=pQ r.2;have s5:=ao (o:=.lst ((([r.2.1,r.2.2].filter λq=>q.isSome).map λq=>q.getD 0).map V.int)) oy;refine⟨l5,rfl,_,s5 _ _ m9,_,aw,abb (by rw[aa2,aa2];lia:_<=200) (by decide),λp6 Zf=>⟨p6,_,_,rfl,s4.trans (s5.trans (ao Zf)),by rw[<- aco];exact aw,?_,?_⟩⟩
    .rw[abf,op,es,gb]
    .rw[abf,op];lia
  .rintro σ H4 ⟨l,ns,e1,rfl,s4,m9,gb,_⟩;have tl:(eE o).length=tb.length:=kl;rw[tl,ab5] at gb;have w4:=s4 _ _ wG;exact⟨w4,hN _ _ ⟨l,ns,_,rfl,s1.trans (gj _ s4),Tg w4 m9,gb⟩⟩
 rintro _ yR σ H2 ⟨l,ns,e1,rfl,s2,ba,gb⟩;subst yR;rfl';refine⟨_,dO (ai.of ba),?_⟩;rw[aa2,gb];exact q _ s2
end
section
seal L2.PE L2.PS L2.aR L2.PA
variable{P:ab1}{w:acz}{K:aa0}{mg:Str->Option aa9}{base:adz}
inductive Zg(K:aa0)(vs:List V)(H:Hp)(Q:VK)(aP:XK):Prop
 | mk(p:abd)(lo hi:En)(_:vs=[.ref p])(_:H p=some (.tup [ev lo,ev hi]))(_:aT lo hi=false)(_:Q (.bl true) H)
inductive Zh(H:Hp)(p:abd)(_:Nat)(σ:St)(H1:Hp):Prop
 | mk(e:Option V)(_:σ=[some (.ref p),e])(_:H1=H)
theorem Zi(T:Tx K mg):Ok P w base 2 T.t5 (Zg K):=by
 refine bc Cd ?_;rintro _ _ _ _ H _ _ _ hr ⟨p,lo,hi,rfl,hp,hc,q⟩;refine⟨_,(ax (aG (PW.pt (bB (bC (bz (aV hU (by rfl) T.gh gd (ae (aa 0) (ae (iz (v:=.ty "tuple") rfl T.ue rB rfl) ag))))) (ck (fQ (aV cD (by rfl) T.cA cp (ae (aa 0) ag)) af)))) (au (aA b9)) aH)
  (ax (cI abJ rfl (oQ (aa 0)) (b8 1 Cd.nd) (au (aG (PW.pt (i5 (fR (aa 1)) (jT (bC (bz (aD (ot T) hr (ae (aa 1) ag))))))) (au (aA b9)) aH)))
  (au (aA (wF (jS (nq (aq (aa 0) af))) (wF (jS (nq (aq (aa 0) af))) (eU (fe (kB gW) (aq (aa 0) af) (aq (aa 0) af) (da _))))))))),?_⟩
 rfl';refine mj hp ?_;rfl';refine⟨_,mn (ah.of hp),?_⟩;rfl';refine⟨⟨_,ah.of hp⟩,Ff (xs:=[ev lo,ev hi]) (Zh H p) ⟨_,rfl,rfl⟩ ?_ ?_ ?_⟩
 .rintro i σ H1 _ ⟨_,_,rfl⟩;exact ah.of hp
 .rintro i x σ H1 hx ⟨e,rfl,rfl⟩;obtain⟨n,rfl⟩:∃ n:En,x=ev n:=by
   match i,hx with
   | 0,hx=>cases hx;exact⟨lo,rfl⟩
   | 1,hx=>cases hx;exact⟨hi,rfl⟩
  rfl';cases n with
  | none =>
   rfl';exact⟨_,rfl,rfl⟩
  | some n =>
   rfl';refine⟨_,rfl,.inr ⟨_,rfl⟩,?_⟩;simp only[isWhole];rfl';exact⟨_,rfl,rfl⟩
 .rintro σ H1 ⟨e,rfl,rfl⟩;rcases lo with _|lo<;>rcases hi with _|hi
  all_goals simp only[pF,pG] at hp
  all_goals
   rfl'
   repeat' first
   | exact q
   | refine ak (ah.of hp) rfl ?_
   | (walk_at "p")
  all_goals
   have hle:lo<=hi:=by simpa [aT] using hc
   rw[decide_eq_true hle];exact q
def xC(far:Int)(p:Pa):Prop:=(p.1 = "at" /\ p.2.1<=far∨p.1 = "step" /\ p.2.1+1<=far)/\0<=p.2.1/\aT p.2.2.1 p.2.2.2=false
inductive Zj(K:aa0)(vs:List V)(H:Hp)(Q:VK)(aP:XK):Prop
 | mk(v:V)(far:Int)(p:Pa)(_:vs=[v,.int far])(_:eX H v p)(_:xC far p)(_:∀ H',aj H H'->Q (.bl true) H')
theorem Zk(T:Tx K mg):Ok P w base 3 T.t6 (Zj K):=by
 refine bc Ko ?_;rintro _ _ _ _ H _ _ _ hr ⟨v,far,⟨kd,t,lo,hi⟩,rfl,⟨tp,sp,rfl,h1,h2⟩,⟨hk,h0,hc⟩,q⟩;refine⟨_,(ax (aG (PW.pt (bB (bC (bz (aV hU (by rfl) T.gh gd (ae (aa 0) (ae (iz (v:=.ty "tuple") rfl T.ue rB rfl) ag))))) (bB (fQ (aV cD (by rfl) T.cA cp (ae (aa 0) ag)) af) (ck (kO EU (aq (aa 0) af) (aS (ae bp (ae bp ag))) (by with_unfolding_all rfl)))))) (au (aA b9)) aH)
  (ax (aG (PW.pt (bB (bC (bz (aD (ot T) hr (ae (aq (aa 0) af) ag)))) (bB (lM (aq (aa 0) af) af) (ck (wD (aN bZ (aq (aa 0) af) (oU NS (by rfl) T.Kt E9 (ae (fe md (aq (aa 0) af) bp (da _)) ag))) (aa 1)))))) (au (aA b9)) aH)
  (au (aA (aD (Zi T) hr (ae (aq (aa 0) af) ag)))))),?_⟩
 rfl';refine mj h1 ?_;rfl';refine⟨_,mn (ah.of h1),?_⟩;rfl';refine ak (ah.of h1) rfl ?_;rfl';refine⟨aW,λc Zl=>?_⟩;have sc:=ao (o:=.tup [.str "at",.str "step"]) Zl;refine⟨c,_,rfl,.inr (ah.of aw),rfl,rfl,?_⟩;have bO:rq (V.str kd) [V.str "at",V.str "step"]=true:=by
  rcases hk with ⟨rfl,_⟩|⟨rfl,_⟩<;>decide
 generalize upd H c (.tup [.str "at",.str "step"])=H1 at sc ⊢;rw[bO];rfl';refine ak (ah.of (sc _ _ h1)) rfl ?_;refine⟨_,rfl,.inr ⟨_,rfl⟩,?_⟩;simp only[isWhole];rfl';refine ak (ah.of (sc _ _ h1)) rfl ?_;rfl';rw[if_neg (by dsimp only at h0;lia)];refine ak (ah.of (sc _ _ h1)) rfl (ak (ah.of (sc _ _ h1)) rfl ?_);rfl';have hn:¬ far<t+(if V.str kd=V.str "step" then 1 else 0):=by
  rcases hk with ⟨e,h⟩|⟨e,h⟩
  .rw[if_neg (by rw[show kd = "at" from e];decide)];dsimp only at h;lia
  .rw[if_pos (by rw[show kd = "step" from e])];dsimp only at h;lia
 rw[if_neg hn];refine⟨rfl,.inr (ak (ah.of (sc _ _ h1)) rfl ?_)⟩;exact⟨sp,lo,hi,rfl,sc _ _ h2,hc,q _ sc⟩
inductive Zm(K:aa0)(vs:List V)(H:Hp)(Q:VK)(aP:XK):Prop
 | mk(l:abd)(n far:Int)(ys:List V)(cls:List (List Pa))(_:vs=[.ref l,.int n,.int far])(_:H l=some (.lst ys))(_:az (Gz.b6 H) ys cls)(_:(cls.length:Int)=n)(_:(∀ ps∈cls,ps.length<=100/\∀ p∈ps,xC far p))(_:∀ H',aj H H'->Q (.bl true) H')
inductive Zn(H:Hp)(l:abd)(n far:Int)(_:Nat)(σ:St)(H1:Hp):Prop
 | mk(e:Option V)(_:σ=[some (.ref l),some (.int n),some (.int far),e])(_:aj H H1)
theorem Mj(T:Tx K mg):Ok P w base 4 T.t7 (Zm K):=by
 refine bc Ce ?_;rintro _ _ _ s H _ Q _ hr ⟨l,n,far,ys,cls,rfl,hl,hy,hn,hk,q⟩;refine⟨_,(ax (aG (PW.pt (bB (bC (bz (aV hU (by rfl) T.gh gd (ae (aa 0) (ae (iz (v:=.ty "list") rfl T.m5 mi rfl) ag))))) (ck (fQ (aV cD (by rfl) T.cA cp (ae (aa 0) ag)) (aa 1))))) (au (aA b9)) aH)
  (ax (cI abJ rfl (cC (aa 0)) (b8 3 Ce.nd) (au (aG (PW.pt (bB (bC (bz (aV hU (by rfl) T.gh gd (ae (aa 3) (ae (iz (v:=.ty "list") rfl T.m5 mi rfl) ag))))) (ck (bC (bz (aV (vO rfl) (by rfl) T.wR vz (ae (cQ (bU.mk (fr:=[2]) (ys:=["_law_far"]) rfl (by decide +kernel) rfl (by decide +kernel) rfl rfl (.cons rfl .nil) (.cons rfl rfl rfl rfl .nil) (by decide) rfl) rfl (cC (aa 3)) (λC s2 H2 ex pn=>⟨dg,(aD (Zk T) hr (ae (aa 0) (ae (aa 1) ag)))⟩)) ag))))))) (au (aA b9)) aH)))
  (au (aA b9)))),?_⟩
 have hlen:=hy.len;rfl';refine vA hl ?_;rfl';refine⟨_,dO (ai.of hl),?_⟩;rfl';rw[if_neg (by lia)];refine⟨⟨_,ai.of hl⟩,iG (xs:=ys) (Zn H l n far) ⟨_,rfl,aj.refl _⟩ ?_ ?_ ?_⟩
 .rintro i σ H1 _ ⟨_,_,s1⟩;exact ai.of (s1 _ _ hl)
 .rintro i x σ H1 hx ⟨e,rfl,s1⟩;obtain⟨ps,dt,r⟩:=hy.get hx;obtain⟨c,xs,rfl,hc,hP⟩:=r.same s1;obtain⟨k1,k2⟩:=hk ps (abi dt);have pl:=hP.len;rfl';refine vA hc ?_;rfl';refine⟨⟨_,ai.of hc⟩,cJ gv (abb (by lia:xs.length<=100) (by decide)) (rN (R:=eX) (p:=λ_=>true) (f:=λ_=>.bl true) (λ_ _ _ _ s h=>h.same s) hP (λH' s'=>ai.of (s' _ _ hc)) (λx p _ H2 s2 r Q h=>?_) (λx p hp _ H2 s2 r Q h=>?_) λH2 s2=>?_)⟩
  .rfl';exact h _ (aj.refl _)
  .rfl';exact⟨x,far,p,rfl,r,k2 p hp,λH3 s3=>h H3 s3⟩
  .rw[abr,filter_tt];intro m hm;refine⟨m,rfl,ps.map λ_=>true,ai.of ?_,?_⟩
   .rw[aw,abS];rfl
   .rw[show (ps.map λ_=>true).all id=true by simp];rfl';exact⟨_,rfl,s1.trans (s2.trans (ao hm))⟩
 .rintro σ H1 ⟨e,rfl,s1⟩;rfl';exact q _ s1
end
section
seal L2.PE L2.PS L2.aR L2.PA
inductive Zo(K:aa0)(B C N:abd)(vs:List V)(H:Hp)(Q:VK)(E:XK):Prop
 | mk(x p:abd)(e t u d m i:Int)(tb:Tb)(_:vs=[.ref x,.int i])(_:bL B H x e t u d m p tb)(_:bI e t tb)(_:tb.length<=60)(_:(¬ (0<=i/\i<e)->E (.ref N) none H))(_:(0<=i/\i<e->∀ v H',aj H H'->H v=none->fA C H' v (aK tb i)->Q (.ref v) H'))
theorem Df(T:Tx K mg):Ok P w base 3 T.gI (Zo K T.aO T.bG T.cU):=by
 refine ju J5 ?_;rintro _ _ _ _ _ _ _ _ hr ⟨x,p,e,t,u,d,m,i,tb,rfl,hB,aZ,cj,q0,q⟩;refine⟨_,(ax (aG (bC (bz (fY (aa 0) T.bA T.KG (KN T) (hr.mono (by decide)) T.lQ.b .nil bb (ae (aa 1) ag)))) (au (kW kX rfl T.uf T.m6 rfl (ae bp ag))) aH)
  (au (aA (yt T.Cn (YH T) (hr.mono (by decide)) rfl T.VF T.oh.b .nil bb (ae (aD (K7 T) hr (ae (aa 0) (ae (aa 1) ag))) ag))))),?_⟩
 obtain⟨⟨bx,hx⟩,kvs,hkv,hA⟩:=id hB;rfl';refine⟨_,_,hx,rfl,x,p,e,t,u,d,m,i,kvs,rfl,⟨⟨bx,hx⟩,hkv⟩,?_⟩;by_cases hi:0<=i/\i<e
 .rw[decide_eq_true hi];rfl';refine⟨x,p,e,t,u,d,m,i,tb,rfl,hB,aZ.1,by lia,λr hr=>(aZ.2 r hr).2.1,λl ys H1 s1 _ hl hY y dy hy Zp ne=>?_⟩;refine⟨y,dy,.ref l,rfl,aw,rfl,?_⟩;rw[qR];have s2:aj H1 (upd (upd H1 dy (.own y)) y (.ins T.bG dy [("marks",.ref l)])):=(ao Zp).trans (ao (by rw[aB (ab4 ne)];exact hy));exact q hi y _ (s1.trans s2) (s1.free hy) ⟨dy,l,ys,aw,s2 _ _ hl,hY.imp λ_ _ r=>r.same s2⟩
 .rw[decide_eq_false hi];rfl';exact⟨by decide,q0 hi⟩
theorem Zq(h:∀ x,x∈xs↔x∈ys)(hx:xs≠[]):hV xs=hV ys:=by
 have hy:ys≠[]:=λz=>by
  cases xs with
  | nil=>exact hx rfl
  | cons a r=>have:=(h a).mp (.head _);rw[z] at this;cases this
 obtain⟨a,b⟩:=rL hx;obtain⟨c,d⟩:=rL hy;have:=d _ ((h _).mp a);have:=b _ ((h _).mpr c);lia
theorem Zr(aZ:bI e t tb):lg hV ((tb.filter λr=>decide (r.1.1=i)).map λr=>r.1.2) (.int 0) = .int (bQ (aK tb i)):=by
 have hm:∀ x,x∈((tb.filter λr=>decide (r.1.1=i)).map λr=>r.1.2)↔x∈(aK tb i).map λk=>(k.1:Int):=λx=>by
  rw[aa8,aa8];constructor
  .rintro ⟨r,hr,rfl⟩;obtain⟨h1,h2⟩:=abE.mp hr;have:=(aZ.2 r h1).2;exact⟨(r.1.2.toNat,r.2),jm.mpr ⟨r,h1,by simpa using h2,rfl⟩,by show ((r.1.2.toNat:Nat):Int)=r.1.2;lia⟩
  .rintro ⟨k,hk,rfl⟩;obtain⟨r,h1,h2,rfl⟩:=jm.mp hk;have:=(aZ.2 r h1).2;exact⟨r,abE.mpr ⟨h1,by simpa using h2⟩,by show r.1.2=((r.1.2.toNat:Nat):Int);lia⟩
 rw[<- LQ];generalize ((tb.filter λr=>decide (r.1.1=i)).map λr=>r.1.2)=xs at hm;generalize ((aK tb i).map λk=>(k.1:Int))=ys at hm;cases xs with
 | nil =>
  cases ys with
  | nil=>rfl
  | cons y r=>have:=(hm y).mpr (.head _);cases this
 | cons x r =>
  have e:=Zq hm (by simp);cases ys with
  | nil=>have:=(hm x).mp (.head _);cases this
  | cons y s=>exact congrArg V.int e
theorem xD:∀ k∈ms,(k.1:Int)<=bQ ms:=λk hk=>by
 cases ms with
 | nil=>cases hk
 | cons m ms=>exact (rL (ns:=(m::ms).map λk=>(k.1:Int)) (by simp)).2 _ (aa8.mpr ⟨k,hk,rfl⟩)
theorem Zs(h:¬ bF s x):∃ o∈eO s,bF o x:=by
 obtain⟨lo,hi⟩:=s;have lo1:∀ l,lo=some l->x<l->∃ o∈eO (lo,hi),bF o x:=λl e hx=>by subst e;exact⟨(none,some (l-1)),by cases hi<;>simp[eO],⟨λa ha=>(nomatch ha),λa ha=>by cases ha;lia⟩⟩
 have uL:∀ u,hi=some u->u<x->∃ o∈eO (lo,hi),bF o x:=λu e hx=>by subst e;exact⟨(some (u+1),none),by cases lo<;>simp[eO],⟨λa ha=>by cases ha;lia,λa ha=>(nomatch ha)⟩⟩
 refine Classical.byContradiction λz=>h ⟨λa ha=>?_,λa ha=>?_⟩
 .exact Int.not_lt.mp λy=>z (lo1 a ha y)
 .exact Int.not_lt.mp λy=>z (uL a ha y)
theorem xE(cs:List Int)(k:Nat):fk cs "at" (k:Int)=cM cs k:=by unfold fk cM;rw[if_neg (by decide),abU]
theorem qM:(bw (a8 (aK tb i))).any (c8 cs)=true↔fS tb cs i:=by
 rw[acy];constructor
 .rintro ⟨qs,hq,hm⟩;unfold bw at hq;obtain⟨p,hp,hq⟩:=acV.mp hq;obtain⟨o,ho,rfl⟩:=aa8.mp hq;obtain⟨k,hk,rfl⟩:=aa8.mp hp;obtain⟨r,hr,e,rfl⟩:=jm.mp hk;have hm:hold o.1 o.2 (fk cs "at" ((r.1.2.toNat:Nat):Int))=true:=by
   have:(hold o.1 o.2 (fk cs "at" ((r.1.2.toNat:Nat):Int)) && true)=true:=hm
   rwa [ahm] at this
  rw[xE] at hm;exact⟨r,hr,e,acD.mpr λz=>Md ho (nG.mp hm) (nG.mp z)⟩
 .rintro ⟨r,hr,e,z⟩;obtain⟨o,ho,hx⟩:=Zs (s:=r.2) (x:=cM cs r.1.2.toNat) λy=>by rw[nG.mpr y] at z;cases z
  have hm:((r.1.2.toNat,r.2):Mk)∈aK tb i:=jm.mpr ⟨r,hr,e,rfl⟩;refine⟨[(("at",((r.1.2.toNat:Nat):Int),o):Pa)],acV.mpr ⟨("at",((r.1.2.toNat:Nat):Int),r.2),aa8.mpr ⟨_,hm,rfl⟩,aa8.mpr ⟨o,ho,rfl⟩⟩,?_⟩;show (hold o.1 o.2 (fk cs "at" ((r.1.2.toNat:Nat):Int)) && true)=true;rw[xE,ahm];exact nG.mpr hx
theorem Ml:c8 cs (a8 (aK tb i))=true↔¬ fS tb cs i:=by
 unfold c8;rw[acx];constructor
 .rintro h ⟨r,hr,e,z⟩;have hm:((r.1.2.toNat,r.2):Mk)∈aK tb i:=jm.mpr ⟨r,hr,e,rfl⟩;have:=h _ (aa8.mpr ⟨_,hm,rfl⟩);have this:hold r.2.1 r.2.2 (fk cs "at" ((r.1.2.toNat:Nat):Int))=true:=this;rw[xE] at this;have z:hold r.2.1 r.2.2 (cM cs r.1.2.toNat)=false:=z;rw[this] at z;cases z
 .intro h p hp;obtain⟨k,hk,rfl⟩:=aa8.mp hp;obtain⟨r,hr,e,rfl⟩:=jm.mp hk;show hold r.2.1 r.2.2 (fk cs "at" ((r.1.2.toNat:Nat):Int))=true;rw[xE];exact Classical.byContradiction λz=>h ⟨r,hr,e,acD.mpr z⟩
theorem Zt(h:∀ r∈tb,r.1.1=i->r.1.2.toNat<n):fS tb (cs.take n) i↔fS tb cs i:=by
 have e:∀ r∈tb,r.1.1=i->cM (cs.take n) r.1.2.toNat=cM cs r.1.2.toNat:=λr hr he=>by unfold cM;rw[aa1,aa1,List.getElem?_take,if_pos (h r hr he)]
 constructor
 .rintro ⟨r,hr,he,z⟩;exact⟨r,hr,he,by rw[<- e r hr he];exact z⟩
 .rintro ⟨r,hr,he,z⟩;exact⟨r,hr,he,by rw[e r hr he];exact z⟩
theorem Mm(h:H d=some (.tup [.int m,.int n])):Dat K H (.ref d) (.tuple [.int m,.int n]):=.tup (ah.of h) (.cons (.int _) (.cons (.int _) .nil))
theorem Zu(m n:Int):Gd 1 (.tuple [.int m,.int n]):=.of rfl
theorem Mn(h:az (cN H0 H) ys cls)(ha:V.ref a∈ys):∃ xs ps,ps∈cls/\H0 a=none/\H a=some (.lst xs)/\dq H xs ps:=by obtain⟨i,hi⟩:=abT.mp ha;obtain⟨ps,hp,c,xs,e,n,hx,hP⟩:=h.get hi;cases e;exact⟨xs,ps,abi hp,n,hx,hP⟩
def chg(ys zs:List V)(l m a:abd):Prop:=V.ref a∈ys++zs∨a=l∨a=m
def Zv(H1:Hp)(σ0:Option V->St)(P:abd->Prop)(i:Nat)(σ:St)(H2:Hp):Prop:=∃ e,σ=σ0 e/\Kp P H1 H2/\∀ a,P a->∃ xs,H2 a=some (.lst xs)/\xs.length<=150+i
theorem Dg:neT (.bl a) (.bl b) Q=if ¬ a=b then Q true else Q false:=rfl
def Zw(H:Hp)(σ0:Option V->Option V->St)(_:Nat)(σ:St)(H1:Hp):Prop:=∃ e1 e2,σ=σ0 e1 e2/\aj H H1
theorem Zx(h:o∈eO s):aT o.1 o.2=false:=by
 obtain⟨lo,hi⟩:=s;cases lo<;>cases hi<;>simp[eO] at h
 .subst h;rfl
 .subst h;rfl
 .rcases h with rfl|rfl<;>rfl
theorem Zy(h:∀ p∈ps,adV p.1=true):∀ qs∈bw ps,∀ q∈qs,adV q.1=true:=λqs hq q hm=>by unfold bw at hq;obtain⟨p,hp,hq⟩:=acV.mp hq;obtain⟨o,_,rfl⟩:=aa8.mp hq;rw[abp.mp hm];exact h p hp
def jM(t:Int)(H:Hp)(v:V)(cs:List Int):Prop:=∃ a,v = .ref a/\H a=some (.lst (cs.map V.int))/\cs.length=t.toNat
inductive Zz(K:aa0)(C:abd)(vs:List V)(H:Hp)(Q:VK)(aP:XK):Prop
 | mk(w0 v cl:abd)(e t i:Int)(aJ:Tb)(zs:List V)(iy:List (List Int))(_:vs=[.ref w0,.int i,.ref v,.ref cl])(_:TabAt H w0 aJ)(_:bI e t aJ)(_:aJ.length<=60)(_:(1<=t/\t<=12))(_:(∀ r∈aJ,aT r.2.1 r.2.2=false))(_:fA C H v (aK aJ i))(_:H cl=some (.lst zs))(_:az (jM t H) zs iy)(_:∀ H',aj H H'->Q (.bl true) H')
theorem Dh(T:Tx K mg):Ok P w base 5 T.gK (Zz K T.bG):=by
 refine ju jz ?_;rintro _ _ _ s H vs Q _ hr ⟨w0,v,cl,e,t,i,aJ,zs,iy,rfl,qK,jL,uJ,⟨t1,t2⟩,cH,hL,bf,hZ,q⟩;refine⟨_,(ax (sd (aI 4 jz.nd (y9 rfl rfl T.Ci (cQ (bU.mk (fr:=[1]) (ys:=["_law_eye"]) rfl (by decide +kernel) rfl (by decide +kernel) rfl rfl (.cons rfl .nil) (.cons rfl rfl rfl rfl .nil) (by decide) rfl) rfl (sf (aa 0)) (λC s2 H2 ex pn=>⟨(jc (bT (b7 (K:=K) (aa 0) af) (aa 1))),(b7 (K:=K) (aa 0) af)⟩)) af)))
  (ax (aI 5 jz.nd (eK (aa 2) T.di T.KC (LR T) (hr.mono (by decide)) T.lO.b .nil bb))
  (ax (aI 6 jz.nd (aS (ae (aD (Ze T) hr (ae (aa 0) (ae (aa 1) ag))) (ae af ag))))
  (ax (aG (PW.pt (bB (bC (bz (aV hU (by rfl) T.gh gd (ae (aa 2) (ae (uZ (v:=.ref T.ir) rfl T.VE rfl) ag))))) (bB (bC (bz (aD (ot T) hr (ae (aa 5) ag)))) (bB (fQ (aa 5) (aa 4)) (ck (kO (QV hr.units) (eK (aa 2) T.di T.VG (YQ T) (hr.mono (by decide)) T.kC.b .nil bb) (aa 6) (da _))))))) (au (aA b9)) aH)
  (ax (aI 7 jz.nd (eK (aa 2) T.di T.qu (qJ T) (hr.mono (by decide)) T.ik.b .nil bb))
  (ax (aI 8 jz.nd (eK (aa 2) T.di T.uh (uG T) (hr.mono (by decide)) T.iQ.b .nil bb))
  (ax (aG (PW.pt (bB (bC (bz (aD (Mj T) hr (ae (aa 7) (ae (aq (aa 6) af) (ae (aa 4) ag)))))) (ck (bC (bz (aD (Mj T) hr (ae (aa 8) (ae af (ae (aa 4) ag))))))))) (au (aA b9)) aH)
  (ax (cI ady rfl (cC (aa 3)) (b8 9 jz.nd) (ax (aI 10 jz.nd (fY (aa 2) T.di T.KA (LV T) (hr.mono (by decide)) T.jB.b .nil bb (ae (oU EV (by rfl) T.m5 mi (ae (aa 9) ag)) ag)))
    (ax (aG (PW.pt (bB (bC (bz (aV hU (by rfl) T.gh gd (ae (aa 10) (ae (iz (v:=.ty "bool") rfl T.Kr Fc rfl) ag))))) (bB (fQ (aa 10) (aD (C6 T) hr (ae (aa 0) (ae (aa 1) (ae (aa 9) ag))))) (ck (fQ (fY (aa 2) T.di T.KA (LV T) (hr.mono (by decide)) T.jB.b .nil bb (ae (EI ES (aa 9) EE (EF (aN bZ (aa 4) af))) ag)) (aa 10)))))) (au (aA b9)) aH)
    (au (aG (PW.pt (bB (fQ (aV (zi rfl) (by rfl) T.Cg yE (ae (cQ (bU.mk (fr:=[9]) (ys:=["_law_course"]) rfl (by decide +kernel) rfl (by decide +kernel) rfl rfl (.cons rfl .nil) (.cons rfl rfl rfl rfl .nil) (by decide) rfl) rfl (cC (aa 7)) (λC s2 H2 ex pn=>⟨dg,(aD (LH T) hr (ae (aa 1) (ae (aa 0) ag)))⟩)) ag)) (aa 10)) (ck (bT (aD (LH T) hr (ae (aa 9) (ae (aq (aa 8) af) ag))) (aa 10))))) (au (aA b9)) aH)))))
  (ax (aI 11 jz.nd (aS (ae (cQ (bU.mk (fr:=[]) (ys:=[]) rfl (by decide +kernel) rfl (by decide +kernel) rfl rfl .nil .nil (by decide) rfl) rfl (cC (aa 7)) (λC s2 H2 ex pn=>⟨dg,(oU (G4 (K:=K) rfl) (by rfl) T.m5 mi (ae (aa 0) ag))⟩)) (ae (cQ (bU.mk (fr:=[]) (ys:=[]) rfl (by decide +kernel) rfl (by decide +kernel) rfl rfl .nil .nil (by decide) rfl) rfl (cC (aa 8)) (λC s2 H2 ex pn=>⟨dg,(oU (G4 (K:=K) rfl) (by rfl) T.m5 mi (ae (aa 0) ag))⟩)) ag))))
  (ax (cI ady rfl (cC (aN mh (aa 7) (aa 8))) (b8 12 jz.nd) (au (d9 (iE abO ab2 ab3 kT (aa 12) (ae (aS (ae bp (ae af (ae (aS (ae af (ae af ag))) ag)))) ag)))))
  (ax (d9 (iE abO ab2 ab3 kT (aa 7) (ae (cO ag) ag)))
  (ax (d9 (iE abO ab2 ab3 kT (aa 8) (ae (cO ag) ag)))
  (au (aA (fv (fe (Gk hr.units) (eK (aa 2) T.di T.qu (qJ T) (hr.mono (by decide)) T.ik.b .nil bb) (aq (aa 11) af) (da _)) (eU (fe (Gk hr.units) (eK (aa 2) T.di T.uh (uG T) (hr.mono (by decide)) T.iQ.b .nil bb) (aq (aa 11) af) (da _)))))))))))))))))),?_⟩
 have mt:=Me (i:=i) jL;have ml:=Mf (i:=i) (tb:=aJ);obtain⟨f0,f1⟩:=Mg t1 mt;refine aC (λσ H1=>σ=[some (.ref w0),some (.int i),some (.ref v),some (.ref cl),some (.int (bQ (aK aJ i))),none,none,none,none,none,none,none,none]/\aj H H1) (λN hN=>?_) ?_
 .obtain⟨kvs,hk,hA⟩:=id qK;rfl';refine⟨w0,kvs,hk,λo=>⟨o,kvs,aw,λeQ=>?_⟩⟩;have w3:upd H w0 (.aL o (.dT kvs)) w0=some (.aL o (.dT kvs)):=aw;have gN:=hA.aL hk (u:=.aL o (.dT kvs));have gj:∀ H4,aj (upd H w0 (.aL o (.dT kvs))) H4->aj H (upd H4 w0 (.dT kvs)):=λH4 s4=>wg hk s4;have PT:=gN.nM eQ;have kl:=PT.len;rw[aa2] at kl;generalize upd H w0 (.aL o (.dT kvs))=H3 at w3 gN gj PT;have P0:az (λv (r:P2 × S2)=>dn H3 v r.1) (eE o) aJ:=az.bind PT;refine cJ (Ie (xs:=eE o) rfl (by rw[kl,hA.len])) (abb (by lia:(eE o).length<=64) (by decide)) (lj (R:=λv (r:P2 × S2)=>dn H3 v r.1) (p:=λr=>decide (r.1.1=i)) (f:=λr=>.int r.1.2) w3 P0 (λv r hr rv Q h=>?_) (λv r hr hp rv Q h=>?_) ?_)
  .obtain⟨ka,rfl,fz⟩:=rv;rfl';refine ak (ah.of fz) rfl ?_;rfl';by_cases z:r.1.1=i
   .rw[if_pos z];rw[decide_eq_true z] at h;exact h
   .rw[if_neg z];rw[decide_eq_false z] at h;exact h
  .obtain⟨ka,rfl,fz⟩:=rv;rfl';exact ak (ah.of fz) rfl h
  .rw[abr,show ((aJ.filter λr=>decide (r.1.1=i)).map λr=>V.int r.1.2)=((aJ.filter λr=>decide (r.1.1=i)).map λr=>r.1.2).map V.int by rw[abS];rfl];intro l hl;have u:=ao (o:=.lst (((aJ.filter λr=>decide (r.1.1=i)).map λr=>r.1.2).map V.int)) hl;refine⟨l,rfl,_,ai.of aw,u _ _ w3,?_⟩;rw[Zr jL];exact hN _ _ ⟨rfl,gj _ u⟩
 rintro _ yR σ H1 ⟨rfl,s1⟩;subst yR;obtain⟨dv,l0,ni,hv,_,_⟩:=id hL;refine aC (λσ H2=>σ=[some (.ref w0),some (.int i),some (.ref v),some (.ref cl),some (.int (bQ (aK aJ i))),some (.int (bQ (aK aJ i))),none,none,none,none,none,none,none]/\aj H H2) (λN hN=>?_) ?_
 .rfl';exact⟨_,_,s1 _ _ hv,rfl,v,_,rfl,hL.same s1,by lia,λH2 s2=>hN _ _ ⟨rfl,s1.trans s2⟩⟩
 clear s1;rintro _ yR σ H2 ⟨rfl,s2⟩;subst yR;refine aC (λσ H3=>∃ d,σ=[some (.ref w0),some (.int i),some (.ref v),some (.ref cl),some (.int (bQ (aK aJ i))),some (.int (bQ (aK aJ i))),some (.ref d),none,none,none,none,none,none]/\aj H H3/\H3 d=some (.tup [.int (endsN aJ i),.int 1])) (λN hN=>?_) ?_
 .rfl';exact⟨w0,e,t,i,aJ,rfl,qK.same s2,jL,uJ,λH3 s3=>⟨aW,λd hd=>hN _ _ ⟨d,rfl,s2.trans (s3.trans (ao hd)),aw⟩⟩⟩
 clear s2;rintro _ yR σ H3 ⟨d,rfl,S3,Di⟩;subst yR;have ef:=Zb (tb:=aJ) i;refine aC (λσ H4=>σ=[some (.ref w0),some (.int i),some (.ref v),some (.ref cl),some (.int (bQ (aK aJ i))),some (.int (bQ (aK aJ i))),some (.ref d),none,none,none,none,none,none]/\aj H3 H4) (λN hN=>?_) ?_
 .rfl';refine⟨_,_,dk.ins (S3 _ _ hv) T.di T.Co T.Cq T.Cr T.Cp,(λz=>nomatch z),T.VQ,?_⟩;rfl';refine⟨_,rfl,.inr ⟨_,rfl⟩,?_⟩;rfl';refine⟨_,_,S3 _ _ hv,rfl,v,_,rfl,hL.same S3,by lia,λf H4 s4 hf=>?_⟩;rw[ef] at hf;exact zI (Mm hf) (Mm (s4 _ _ Di)) (Zu _ _) (by decide) ⟨false,rfl,hN _ _ ⟨rfl,s4⟩⟩
 rintro _ yR σ H4 ⟨rfl,Dj⟩;subst yR;replace S3:=S3.trans Dj;have ZA:=Dj _ _ Di;clear Di Dj;have Mo:∀ p∈a8 (aK aJ i),adV p.1=true:=λp hp=>by obtain⟨k,_,rfl⟩:=aa8.mp hp;exact (show adV (acf "at")=true by decide +kernel)
 have Mp:∀ ps∈bw (a8 (aK aJ i)),ps.length<=100/\∀ p∈ps,xC (bQ (aK aJ i)) p:=λps hp=>by unfold bw at hp;obtain⟨p,cP,hq⟩:=acV.mp hp;obtain⟨o,ho,rfl⟩:=aa8.mp hq;obtain⟨k,hk,rfl⟩:=aa8.mp cP;refine⟨(show 1<=100 by decide),λp hp=>?_⟩;rw[abp.mp hp];exact⟨.inl ⟨rfl,xD k hk⟩,by show (0:Int)<=(k.1:Int);lia,Zx ho⟩
 have Mq:∀ ps∈[a8 (aK aJ i)],ps.length<=100/\∀ p∈ps,xC (bQ (aK aJ i)) p:=λps hp=>by rw[abp.mp hp];refine⟨by rw[nh];lia,λp hp=>?_⟩;obtain⟨k,hk,rfl⟩:=aa8.mp hp;obtain⟨r,hr,_,rfl⟩:=jm.mp hk;exact⟨.inl ⟨rfl,xD _ hk⟩,by show (0:Int)<=((r.1.2.toNat:Nat):Int);lia,cH r hr⟩
 have wl:=su (a8 (aK aJ i));rw[nh] at wl;refine aC (λσ H5=>∃ l ys,σ=[some (.ref w0),some (.int i),some (.ref v),some (.ref cl),some (.int (bQ (aK aJ i))),some (.int (bQ (aK aJ i))),some (.ref d),some (.ref l),none,none,none,none,none]/\aj H4 H5/\H4 l=none/\H5 l=some (.lst ys)/\az (cN H4 H5) ys (bw (a8 (aK aJ i)))) (λN hN=>?_) ?_
 .rfl';exact⟨_,_,S3 _ _ hv,rfl,v,_,rfl,hL.same S3,by lia,λl ys H5 s5 fl hl hy=>hN _ _ ⟨l,ys,rfl,s5,fl,hl,hy⟩⟩
 rintro _ yR σ H5 ⟨l,ys,rfl,s5,fl,hl,hy⟩;subst yR;refine aC (λσ H6=>∃ m zs,σ=[some (.ref w0),some (.int i),some (.ref v),some (.ref cl),some (.int (bQ (aK aJ i))),some (.int (bQ (aK aJ i))),some (.ref d),some (.ref l),some (.ref m),none,none,none,none]/\aj H5 H6/\H5 m=none/\H6 m=some (.lst zs)/\az (cN H5 H6) zs [a8 (aK aJ i)]) (λN hN=>?_) ?_
 .rfl';have X5:=S3.trans s5;exact⟨_,_,X5 _ _ hv,rfl,v,_,rfl,hL.same X5,by lia,λm zs H6 s6 fm hm hz=>hN _ _ ⟨m,zs,rfl,s6,fm,hm,hz⟩⟩
 rintro _ yR σ H7 ⟨m,zs,rfl,s6,fm,hm,hz⟩;subst yR;have S6:aj H4 H7:=s5.trans s6;have kG:=s6 _ _ hl;have Dk:=hy.imp λ_ _ r=>r.same s6;have Dl:=hz.imp λ_ _ r=>r.back s5;have ZC:=s5.free fm;have ZD:=S6 _ _ ZA;clear hy hz hl fm s5 s6;have S7:=S3.trans S6;have cy:=Dk.imp λ_ _ r=>r.cl;have cz:=Dl.imp λ_ _ r=>r.cl;have ly:=cy.len;have lz:=cz.len;rw[abv] at lz;refine aC (λσ H8=>σ=[some (.ref w0),some (.int i),some (.ref v),some (.ref cl),some (.int (bQ (aK aJ i))),some (.int (bQ (aK aJ i))),some (.ref d),some (.ref l),some (.ref m),none,none,none,none]/\aj H7 H8) (λN hN=>?_) ?_
 .rfl';refine ak (ah.of ZD) rfl ?_;refine⟨l,_,_,ys,_,rfl,kG,cy,by rw[ef],Mp,λH8 s8=>?_⟩;rfl';refine⟨m,_,_,zs,_,rfl,s8 _ _ hm,cz.imp λ_ _ r=>r.same s8,rfl,Mq,λH9 s9=>?_⟩;rfl';exact hN _ _ ⟨rfl,s8.trans s9⟩
 rintro _ yR σ H8 ⟨rfl,s8⟩;subst yR;refine aC (λσ H9=>∃ e1 e2,σ=[some (.ref w0),some (.int i),some (.ref v),some (.ref cl),some (.int (bQ (aK aJ i))),some (.int (bQ (aK aJ i))),some (.ref d),some (.ref l),some (.ref m),e1,e2,none,none]/\aj H7 H9) (λN hN=>?_) ?_
 .rfl';refine⟨⟨_,ai.of ((S7.trans s8) _ _ bf)⟩,iG (Zw H7 (λe1 e2=>[some (.ref w0),some (.int i),some (.ref v),some (.ref cl),some (.int (bQ (aK aJ i))),some (.int (bQ (aK aJ i))),some (.ref d),some (.ref l),some (.ref m),e1,e2,none,none])) ⟨_,_,rfl,s8⟩ (λn σ H9 _ ⟨_,_,_,s9⟩=>ai.of ((S7.trans s9) _ _ bf)) ?_ λσ H9 h=>hN _ _ h⟩;rintro n cv σ H9 CK ⟨z1,z2,rfl,s9⟩;obtain⟨cs,hcs,c,rfl,hc,aaY⟩:=hZ.get CK;have X9:=S7.trans s9;have Dm:=X9 _ _ hc;have mlt:∀ k∈aK aJ i,k.1<cs.length:=λk hk=>by have:=mt k hk;lia
  have C7:∀ r∈aJ,r.1.2<(cs.length:Int):=λr hr=>by have:=(jL.2 r hr).2;lia
  have LI:∀ (H':Hp) (R:VK),aj H H'->(∀ dz,aj H' dz->R (.bl ((bw (a8 (aK aJ i))).any (c8 cs))) dz)->L9 K [.ref w0,.int i,.ref c] H' R E0:=λH' R s r=>by
   refine⟨w0,c,e,t,i,aJ,cs,rfl,qK.same s,jL,uJ,ai.of (s _ _ hc),C7,λhb dz kQ=>?_,λhb dz kQ=>?_⟩
   .have:=r dz kQ;rw[qM.mpr hb] at this;exact this
   .have:=r dz kQ;rw[acD.mpr λz=>hb (qM.mp z)] at this;exact this
  have Bt:(bw (a8 (aK aJ i))).any (c8 (cs.take (bQ (aK aJ i)+1).toNat))=(bw (a8 (aK aJ i))).any (c8 cs):=adu.mpr (qM.trans ((Zt λr hr he=>by
   have:=xD _ (jm.mpr ⟨r,hr,he,rfl⟩);have this:((r.1.2.toNat:Nat):Int)<=bQ (aK aJ i):=this;lia).trans qM.symm))
  have Bn:c8 cs (a8 (aK aJ i)) = !(bw (a8 (aK aJ i))).any (c8 cs):=by
   by_cases hb:fS aJ cs i
   .rw[qM.mpr hb,acD.mpr λz=>Ml.mp z hb];rfl
   .rw[Ml.mpr hb,acD.mpr λz=>hb (qM.mp z)];rfl
  have al:((bw (a8 (aK aJ i))).map (c8 cs)).any id=(bw (a8 (aK aJ i))).any (c8 cs):=by rw[ajf];rfl
  generalize ZE:(bw (a8 (aK aJ i))).any (c8 cs)=BB at LI Bt Bn al;rfl';refine⟨_,_,X9 _ _ hv,rfl,_,.inl (ai.of Dm),λl1 h1=>?_⟩;have u1:=ao (o:=.lst (cs.map V.int)) h1;refine⟨v,l1,_,cs,rfl,hL.same (X9.trans u1),by lia,ai.of aw,mlt,λeS cV=>?_⟩;rw[ZE];have Mr:=X9.trans (u1.trans cV);rfl';refine LI _ _ Mr λeG jN=>?_;have xF:=Mr.trans jN;rw[Dg,if_neg (by simp)];rfl';refine⟨_,_,xF _ _ hv,rfl,_,ai.of (xF _ _ hc),λl2 h2=>?_⟩;have ec:jZ (cs.map V.int) none (some (bQ (aK aJ i)+1))=(cs.take (bQ (aK aJ i)+1).toNat).map V.int:=by
   rw[List.map_take,<- Q5]
   congr 2
   lia
  rw[ec];have u2:=ao (o:=.lst ((cs.take (bQ (aK aJ i)+1).toNat).map V.int)) h2;refine⟨v,l2,_,_,rfl,hL.same (xF.trans u2),by lia,ai.of aw,λk hk=>by rw[adG];have:=xD k hk;have:=mlt k hk;lia,λjO fD=>?_⟩;rw[Bt,Dg,if_neg (by simp)];have ZF:=xF.trans (u2.trans fD);have xG:aj H7 jO:=s9.trans (u1.trans (cV.trans (jN.trans (u2.trans fD))));rfl';refine⟨⟨_,ai.of (xG _ _ kG)⟩,cJ gv (abb (by lia:ys.length<=150) (by decide)) (rN (R:=Gz.b6) (p:=λ_=>true) (f:=λps=>.bl (c8 cs ps)) (λ_ _ _ _ s h=>h.same s) (cy.imp λ_ _ r=>r.same xG) (λH' s'=>ai.of ((xG.trans s') _ _ kG)) (λx ps _ H2 s2 r Q h=>?_) (λx ps dt _ H2 s2 r Q h=>?_) λoF lY=>?_)⟩
  .rfl';exact h _ (aj.refl _)
  .obtain⟨b,xs,rfl,hb,hP⟩:=r;rfl';exact⟨c,b,cs,xs,ps,rfl,ai.of ((ZF.trans s2) _ _ hc),ai.of hb,hP,LU (C0 mlt) ps dt,h _ (aj.refl _)⟩
  .rw[abr,filter_tt];intro l3 h3;have u3:=ao (o:=.lst ((bw (a8 (aK aJ i))).map λps=>V.bl (c8 cs ps))) h3;refine⟨l3,rfl,(bw (a8 (aK aJ i))).map (c8 cs),ai.of (by rw[aw,abS];rfl),?_⟩;rw[al,Dg,if_neg (by simp)];have uM:aj H7 _:=xG.trans (lY.trans u3);obtain⟨b0,ZG,ZH,ZI,ZJ⟩:∃ b xs,zs[0]?=some (.ref b)/\H7 b=some (.lst xs)/\dq H7 xs (a8 (aK aJ i)):=by have hg:=aa3 (l:=zs) (i:=0) (by lia);obtain⟨ps,dt,b,xs,eb,hb,hP⟩:=cz.get hg;cases dt;exact⟨b,xs,by rw[hg,eb],hb,hP⟩
   rfl';refine bJ (ai.of (uM _ _ hm)) (eL ZH) ?_;refine⟨c,b0,cs,ZG,_,rfl,ai.of ((S7.trans uM) _ _ hc),ai.of (uM _ _ ZI),ZJ.same uM,C0 mlt,?_⟩;rw[Bn,Jp,if_neg (by cases BB<;>simp)];exact⟨_,_,rfl,uM⟩
 rintro _ yR σ H9 ⟨z1,z2,rfl,S9⟩;subst yR;have xi:=S9 _ _ kG;have Ms:=S9 _ _ hm;have ZK:=cy.imp λ_ _ r=>r.same S9;have ZL:=cz.imp λ_ _ r=>r.same S9;refine aC (λσ eS=>∃ k k0 k1 us vs,σ=[some (.ref w0),some (.int i),some (.ref v),some (.ref cl),some (.int (bQ (aK aJ i))),some (.int (bQ (aK aJ i))),some (.ref d),some (.ref l),some (.ref m),z1,z2,some (.ref k),none]/\aj H9 eS/\eS k=some (.tup [.ref k0,.ref k1])/\H9 k0=none/\eS k0=some (.lst us)/\az (cN H9 eS) us (bw (a8 (aK aJ i)))/\H9 k1=none/\eS k1=some (.lst vs)/\az (cN H9 eS) vs [a8 (aK aJ i)]) (λN hN=>?_) ?_
 .rfl';refine⟨⟨_,ai.of xi⟩,cJ gv (abb (by lia:ys.length<=150) (by decide)) (ia (R:=Gz.b6) (R':=cN H9) (f:=λps=>ps) (λ_ _ _ _ s' h=>h.same s') (λ_ _ _ _ s' h=>h.same s') ZK (bs:=[]) trivial (λH' s'=>ai.of (s' _ _ xi)) (λx k _ H2 s2 r Q h=>?_) (λx ps _ H2 s2 r Q h=>?_) λH2 us s2 hu=>?_)⟩
  .rfl';exact h
  .obtain⟨c,xs,rfl,hc,hP⟩:=r;rfl';exact⟨_,.inl (ai.of hc),λk hk=>h _ _ (ao hk) ⟨k,xs,rfl,s2.free hk,aw,hP.same (ao hk)⟩⟩
  rw[abr,agL] at hu;intro k0 qz;have t1:=s2.trans (ao (o:=.lst us) qz);have e0:upd H2 k0 (.lst us) k0=some (.lst us):=aw;have Mt:=hu.imp λ_ _ r=>r.same (ao (o:=.lst us) qz);have f0:=s2.free qz;generalize upd H2 k0 (.lst us)=H3 at t1 e0 Mt ⊢;clear hu s2 qz;rfl';refine⟨⟨_,ai.of (t1 _ _ Ms)⟩,cJ gv (abb (by lia:zs.length<=150) (by decide)) (ia (R:=Gz.b6) (R':=cN H9) (f:=λps=>ps) (λ_ _ _ _ s' h=>h.same s') (λ_ _ _ _ s' h=>h.same s') (ZL.imp λ_ _ r=>r.same t1) (bs:=[]) trivial (λH' s'=>ai.of (s' _ _ (t1 _ _ Ms))) (λx k _ H2 s2 r Q h=>?_) (λx ps _ H2 s2 r Q h=>?_) λH2 vs s2 hv=>?_)⟩
  .rfl';exact h
  .obtain⟨c,xs,rfl,hc,hP⟩:=r;rfl';exact⟨_,.inl (ai.of hc),λk hk=>h _ _ (ao hk) ⟨k,xs,rfl,(t1.trans s2).free hk,aw,hP.same (ao hk)⟩⟩
  rw[abr,agL] at hv;intro k1 gi;have t2:=s2.trans (ao (o:=.lst vs) gi);have e1:upd H2 k1 (.lst vs) k1=some (.lst vs):=aw;have qc:=hv.imp λ_ _ r=>r.same (ao (o:=.lst vs) gi);have f1:=(t1.trans s2).free gi;generalize upd H2 k1 (.lst vs)=eS at t2 e1 qc ⊢;refine⟨aW,λk hk=>hN _ _ ⟨k,k0,k1,us,vs,rfl,t1.trans (t2.trans (ao hk)),aw,f0,(t2.trans (ao hk)) _ _ e0,Mt.imp λ_ _ r=>r.same (t2.trans (ao hk)),f1,(ao hk) _ _ e1,qc.imp λ_ _ r=>r.same (ao hk)⟩⟩
 rintro _ yR σ eS ⟨k,k0,k1,us,vs,rfl,cV,hk,f0,e0,hu,f1,e1,hv⟩;subst yR;have uN:aj H7 eS:=S9.trans cV;have P7:∀ c,chg ys zs l m c->H c=none/\∃ xs,H7 c=some (.lst xs)/\xs.length<=150:=λc hc=>by
  rcases hc with hc|rfl|rfl
  .rcases abD.mp hc with hc|hc
   .obtain⟨xs,ps,dt,n,h,hP⟩:=Mn Dk hc;have:=(Mp ps dt).1;have:=hP.len;exact⟨S3.free n,xs,h,by lia⟩
   .obtain⟨xs,ps,dt,n,h,hP⟩:=Mn Dl hc;have:=(Mq ps dt).1;have:=hP.len;exact⟨S3.free n,xs,h,by lia⟩
  .exact⟨S3.free fl,_,kG,by lia⟩
  .exact⟨S3.free ZC,_,hm,by lia⟩
 refine aC (λσ jO=>∃ (e:Option V) (g:abd) (eG:Hp),σ=[some (.ref w0),some (.int i),some (.ref v),some (.ref cl),some (.int (bQ (aK aJ i))),some (.int (bQ (aK aJ i))),some (.ref d),some (.ref l),some (.ref m),z1,z2,some (.ref k),e]/\aj eS eG/\Kp (chg ys zs l m) eG jO/\∀ a,chg ys zs l m a->∃ xs,jO a=some (.lst xs)/\xs.length<=500) (λN hN=>?_) ?_
 .rfl';refine⟨_,uN _ _ kG,_,uN _ _ hm,abb (by lia:ys.length+zs.length<=300) (by decide),λg Dp=>?_⟩;have sg:=ao (o:=.lst (ys++zs)) Dp;have eg:upd eS g (.lst (ys++zs)) g=some (.lst (ys++zs)):=aw;generalize upd eS g (.lst (ys++zs))=eG at sg eg ⊢;have gn:¬ chg ys zs l m g:=λz=>by obtain⟨_,xs,h,_⟩:=P7 g z;rw[uN _ _ h] at Dp;cases Dp
  refine⟨⟨_,ai.of eg⟩,iG (xs:=ys++zs) (Zv eG (λe=>[some (.ref w0),some (.int i),some (.ref v),some (.ref cl),some (.int (bQ (aK aJ i))),some (.int (bQ (aK aJ i))),some (.ref d),some (.ref l),some (.ref m),z1,z2,some (.ref k),e]) (chg ys zs l m)) ⟨_,rfl,Kp.refl,λc hc=>?_⟩ ?_ ?_ ?_⟩
  .obtain⟨_,xs,h,hl⟩:=P7 c hc;exact⟨xs,(uN.trans sg) _ _ h,hl⟩
  .rintro i σ H2 _ ⟨_,_,kp,_⟩;exact ai.of (kp _ _ gn eg)
  .rintro i v σ H2 qd ⟨e,rfl,kp,hP⟩;have bO:=abi qd;have hi:i<300:=by have:=(aa7.mp qd).1;rw[abf] at this;lia
   obtain⟨c,rfl⟩:∃ c,v = .ref c:=by
    rcases abD.mp bO with h|h
    .obtain⟨i,hi⟩:=abT.mp h;obtain⟨_,_,c,_,e,_⟩:=Dk.get hi;exact⟨c,e⟩
    .obtain⟨i,hi⟩:=abT.mp h;obtain⟨_,_,c,_,e,_⟩:=Dl.get hi;exact⟨c,e⟩
   have Mu:chg ys zs l m c:=.inl bO;obtain⟨xs,hx,si⟩:=hP c Mu;rfl';refine⟨.inl ⟨rfl,_,ai.of hx⟩,aW,λt1 jI=>⟨by decide,λt2 ZM=>?_⟩⟩;have u:=(ao (o:=.tup [.int 0,.int 0]) jI).trans (ao (o:=.tup [.str "at",.int 0,.ref t1]) ZM);refine⟨xs,u _ _ hx,abV (by lia:xs.length<=450) (by decide),_,rfl,(kp.same u).put Mu,λa2 xH=>?_⟩;by_cases e2:a2=c
   .subst e2;exact⟨_,aw,by rw[abf,abv];lia⟩
   .obtain⟨ws,hw,E3⟩:=hP a2 xH;exact⟨ws,by rw[aB e2];exact u _ _ hw,by lia⟩
  .rintro σ H2 ⟨e,rfl,kp,hP⟩;refine hN _ _ ⟨e,g,eG,rfl,sg,kp,λc hc=>?_⟩;obtain⟨xs,h1,h2⟩:=hP c hc;rw[abf] at h2;exact⟨xs,h1,by lia⟩
 rintro _ yR σ jO ⟨e,g,eG,rfl,jN,kp,hP⟩;subst yR;rfl';obtain⟨xl,si,nl⟩:=hP l (.inr (.inl rfl));refine⟨.inl ⟨rfl,_,ai.of si⟩,abt _,λp1 gM=>?_⟩;have u1:=ao (o:=.lst []) gM;refine⟨xl,u1 _ _ si,abV nl (by decide),?_⟩;have Mv:=(kp.same u1).put (o:=.lst (xl++[.ref p1])) (show chg ys zs l m l from .inr (.inl rfl));obtain⟨xm,hxm,nm⟩:∃ xs,upd (upd jO p1 (.lst [])) l (.lst (xl++[.ref p1])) m=some (.lst xs)/\xs.length<=501:=by
  by_cases e2:m=l
  .subst e2;exact⟨_,aw,by rw[abf,abv];lia⟩
  .obtain⟨xs,h1,h2⟩:=hP m (.inr (.inr rfl));exact⟨xs,by rw[aB e2];exact u1 _ _ h1,by lia⟩
 generalize upd (upd jO p1 (.lst [])) l (.lst (xl++[.ref p1]))=oF at Mv hxm ⊢;refine⟨.inl ⟨rfl,_,ai.of hxm⟩,abt _,λp2 fM=>?_⟩;have u2:=ao (o:=.lst []) fM;refine⟨xm,u2 _ _ hxm,abV nm (by decide),?_⟩;have oG:=(Mv.same u2).put (o:=.lst (xm++[.ref p2])) (show chg ys zs l m m from .inr (.inr rfl));generalize upd (upd oF p2 (.lst [])) m (.lst (xm++[.ref p2]))=xI at oG ⊢;have Mw:aj H7 eG:=uN.trans jN;have Dq:Nl eG xI:=oG.nl λc hc=>by obtain⟨_,xs,h,_⟩:=P7 c hc;exact⟨xs,Mw _ _ h⟩
 have Mx:=Dq k (.tup [.ref k0,.ref k1]) (λ_ z=>nomatch z) (jN _ _ hk);have nP:∀ c,chg ys zs l m c->H9 c≠none:=λc hc z=>by obtain⟨_,xs,h,_⟩:=P7 c hc;rw[S9 _ _ h] at z;cases z
 have ZN:=oG _ _ (λz=>nP _ z f0) (jN _ _ e0);have o7:=oG _ _ (λz=>nP _ z f1) (jN _ _ e1);have ZO:=hu.imp λ_ _ r=>(r.same jN).kp oG Dq nP;have ZP:=hv.imp λ_ _ r=>(r.same jN).kp oG Dq nP;have oH:aj H xI:=oG.new (S7.trans Mw) λc hc=>(P7 c hc).1;have Dr:=hL.same oH;obtain⟨dv,l0,ni,My,_,_⟩:=id Dr;refine⟨_,_,My,rfl,v,_,rfl,Dr,by lia,λr2 rs2 H16 lZ _ ZQ ZR=>?_⟩;rfl';refine ak (ah.of (lZ _ _ Mx)) rfl ?_;refine zI (wt ZQ (ZR.imp λ_ _ r=>r.cl)) (wt (lZ _ _ ZN) (ZO.imp λ_ _ r=>r.same lZ)) (IH (Zy Mo)) (by decide) ?_;rfl';refine⟨_,_,lZ _ _ My,rfl,v,_,rfl,Dr.same lZ,by lia,λr rs Mz qN _ ZS ZT=>?_⟩;rfl';refine ak (ah.of ((lZ.trans qN) _ _ Mx)) rfl ?_;exact zI (wt ZS (ZT.imp λ_ _ r=>r.cl)) (wt ((lZ.trans qN) _ _ o7) (ZP.imp λ_ _ r=>r.same (lZ.trans qN))) (IH λps dt=>by rw[abp.mp dt];exact Mo) (by decide) (q _ (oH.trans (lZ.trans qN)))
inductive ZU(K:aa0)(B:abd)(vs:List V)(H:Hp)(Q:VK)(aP:XK):Prop
 | mk(x p:abd)(e t u d m i:Int)(tb:Tb)(_:vs=[.ref x,.int i])(_:bL B H x e t u d m p tb)(_:bI e t tb)(_:tb.length<=60)(_:¬ (0<=i/\i<e))(_:∀ H',aj H H'->Q (.bl true) H')
theorem MA(T:Tx K mg):Ok P w base 4 T.ud (ZU K T.aO):=by
 refine bc sS ?_;rintro _ A _ _ H _ _ _ hr ⟨x,p,e,t,u,d,m,i,tb,rfl,hb,aZ,cj,aU,q⟩;refine⟨_,(ax (aI 2 sS.nd b9)
  (ax (PL (λcls _ H1=>cls = .ref T.cU/\aj H H1) 3 rfl rfl rfl T.uf sS.nd rfl rfl (λF pn hx=>(au (d9 (bR (Df T) (hr.mono (by decide)) rfl T.gI.m T.gI.F.kp T.gI.b .nil hx (ae (aa 0) (ae (aa 1) ag)))))) (λA' pn=>(au (aI 2 sS.nd (fv (aV (Fl (K:=K) rfl) (by rfl) T.gh gd (ae (aa 3) (ae (uZ (v:=.ref T.oj) rfl T.VD rfl) ag))) (eU (sH (aV (Fl (K:=K) rfl) (by rfl) T.gh gd (ae (aa 3) (ae (uZ (v:=.ref T.iq) rfl T.Cm rfl) ag))))))))))
  (au (aA (aa 2))))),?_⟩
 rfl';refine⟨?_,?_⟩
 .rfl';exact⟨x,p,e,t,u,d,m,i,tb,rfl,hb,aZ,cj,λ_=>⟨rfl,aj.refl _⟩,λz=>absurd z aU⟩
 .rintro cls H' ⟨rfl,hs⟩;refine⟨_,rfl,T.VN,λa ha=>?_⟩;have X0:=aw (H:=H') (a:=a) (o:=iH a T.cU);have S0:=hs.trans (ao (o:=iH a T.cU) ha);generalize upd H' a (iH a T.cU)=Hx at X0 S0 ⊢;rfl';refine Fo X0 T.m6 (λz=>nomatch z) T.VO ?_;rfl';refine Fo X0 T.m6 (λz=>nomatch z) T.VP ?_;rfl';exact q _ S0
theorem bL.told{B:abd}{H H':Hp}{y p:abd}{e t u d m:Int}{tb:Tb}{kvs:List (List Key × V)}{s:P2}{w:S2}{v:V}(ob:∃ dx,H y=some (.ins B dx (qx e t u d m p)))(hp:H p=some (.dT kvs))(hA:aY H kvs tb)(sb:SameBut p H H')(cP:H' p=some (.dT (putK kvs (bH s.1 s.2) v)))(iv:aM H' v w.1 w.2):bL B H' y e t u d m p (fj tb s w) :=
 let ⟨dx,hx⟩:=ob
 ⟨⟨dx,sb y _ (λz=>by rw[z,hp] at hx;cases hx) hx⟩,_,cP,aY.put (hA.imp λv a b z=>z.fr (SameBut.fr sb hp)) iv⟩
theorem bL.ZV{B:abd}{H H':Hp}{y p:abd}{e t u d m:Int}{tb:Tb}{kvs:List (List Key × V)}{s:P2}(ob:∃ dx,H y=some (.ins B dx (qx e t u d m p)))(hp:H p=some (.dT kvs))(hA:aY H kvs tb)(sb:SameBut p H H')(cP:H' p=some (.dT (kf kvs (bH s.1 s.2)))):bL B H' y e t u d m p (pR tb s) :=
 let ⟨dx,hx⟩:=ob
 ⟨⟨dx,sb y _ (λz=>by rw[z,hp] at hx;cases hx) hx⟩,_,cP,aY.drop (hA.imp λv a b z=>z.fr (SameBut.fr sb hp))⟩
def ZW(H2:Hp)(x p w1:abd)(e t u d m:Int)(B:abd)(σ0:Option V->St)(_:Nat)(σ:St)(H3:Hp):Prop:=(∃ z2,σ=σ0 z2)/\∃ bY,iM [p,w1] H2 H3/\TabAt H3 w1 bY/\bL B H3 x e t u d m p bY/\bI e t bY/\∀ r∈bY,aT r.2.1 r.2.2=false
inductive ZX(K:aa0)(B:abd)(vs:List V)(H:Hp)(Q:VK)(aP:XK):Prop
 | mk(a x p w:abd)(wv:V)(ns:List Int)(e t u d m i n f:Int)(tb:Tb)(_:vs=[.ref a,wv,.ref x,.int i,.int n,.int f])(_:ai K H a (ns.map V.int))(_:ji ns)(_:bL B H x e t u d m p tb)(_:iu H wv w e t u d m tb)(_:dZ e t u d m)(_:bI e t tb)(_:tb.length<=24)(_:e * t<=24)(_:(∀ r∈tb,aT r.2.1 r.2.2=false))(_:(0<=i/\i<e))(_:(1<=f/\f<=1000000000000000000000000000000))(_:∀ (r w':abd) (bY:Tb) (H':Hp),iM [p] H H'->H w'=none->H' r=some (.tup [.int e,.int t,.int u,.int d,.int m,.ref w'])->TabAt H' w' bY->bL B H' x e t u d m p bY->bI e t bY->(∀ r∈bY,aT r.2.1 r.2.2=false)->Q (.ref r) H')
theorem ZY(T:Tx K mg):Ok P w base 4 T.mZ (ZX K T.aO):=by
 refine ju qt ?_;rintro _ _ _ s H _ _ _ hr ⟨a,x,p,w,wv,ns,e,t,u,d,m,i,n,f,tb,rfl,hS,hn,hB,⟨wr,rfl,hwr,hT⟩,dG,aZ,iW,et,cH,hi,hf,q⟩;refine⟨_,(ax (aI 6 qt.nd (oU Hr (by rfl) T.Ks Fd (ae (aq (aa 1) af) ag)))
  (ax (aI 7 qt.nd (aS (ae (aD (dj T) hr (ae (aa 0) (ae af (ae af (ae (aq (aa 1) af) ag))))) (ae (aD (dj T) hr (ae (aa 0) (ae af (ae af (ae (aq (aa 1) af) ag))))) ag))))
  (ax (aG (bT (aD (dj T) hr (ae (aa 0) (ae af (ae af (ae af ag))))) af) (ax (aI 8 qt.nd (aD (KR T) hr (ae (aa 0) (ae af (ae (aN bZ (aa 4) (aN lL (aa 5) (aN dB (aD (dj T) hr (ae (aa 0) (ae af (ae af (ae af ag))))) af))) (ae (aa 5) ag))))))
    (ax (d9 (fY (aa 2) T.bA T.KH (KO T) (hr.mono (by decide)) T.lR.b .nil df (ae (aq (aa 7) af) (ae (aq (aa 7) af) (ae (aq (aa 8) af) (ae (aq (aa 8) af) ag))))))
    (au (zB (eh hr) (aa 6) (aa 7) (aa 8) rfl)))) (au (cI ady rfl (gT rfl T.fw (ae (aq (aa 1) af) ag)) (b8 9 qt.nd) (au (aG (qY (RC (eh hr) (aS (ae (aa 3) (ae (aa 9) ag))) (aa 6))) (ax (d9 (fY (aa 2) T.bA T.VH (Wq T) (hr.mono (by decide)) T.mS.b .nil df (ae (aa 3) (ae (aa 9) ag))))
     (au (d9 (Ho (eh hr) (aa 6) (aS (ae (aa 3) (ae (aa 9) ag))) ⟨rfl,rfl,rfl,rfl⟩)))) aH)))))
  (au (aA (aS (ae (aq (aa 1) af) (ae (aq (aa 1) af) (ae (aq (aa 1) af) (ae (aq (aa 1) af) (ae (aq (aa 1) af) (ae (aa 6) ag)))))))))))),?_⟩
 obtain⟨⟨e1,e7⟩,⟨t1,t2⟩,u0,d0,m0,me⟩:=id dG;obtain⟨kp,hkp,MB⟩:=hB.tb;refine aC (λσ H1=>∃ w1 kv,σ=[some (.ref a),some (.ref wr),some (.ref x),some (.int i),some (.int n),some (.int f),some (.ref w1),none,none,none]/\aj H H1/\H w1=none/\H1 w1=some (.dT kv)/\aY H1 kv tb) (λN hN=>?_) ?_
 .obtain⟨kw,hkw,MC⟩:=id hT;rfl';exact ak (ah.of hwr) (v:=.ref w) rfl ⟨w,rfl,kw,hkw,HD MC aZ (by lia) (by lia),λl hl=>hN _ _ ⟨l,kw,rfl,ao hl,hl,aw,MC.imp λ_ _ _ z=>aM.same z (ao hl)⟩⟩
 rintro _ yR σ H1 ⟨w1,kv,rfl,s1,xJ,Ds,ux⟩;subst yR;have wp:w1≠p:=λz=>by rw[z,hkp] at xJ;cases xJ
 refine aC (λσ H2=>∃ sp s1 s2,σ=[some (.ref a),some (.ref wr),some (.ref x),some (.int i),some (.int n),some (.int f),some (.ref w1),some (.ref sp),none,none]/\aj H1 H2/\H2 sp=some (.tup [.int s1,.int s2])/\(0<=s1/\s1<e)/\(0<=s2/\s2<t)) (λN hN=>?_) ?_
 .rfl';refine ak (ah.of (s1 _ _ hwr)) rfl ⟨a,ns,_,_,_,rfl,s1.seq hS,hn,⟨by decide,by decide⟩,by decide,by lia,λk1 ZZ Z0=>?_⟩;refine ak (ah.of (s1 _ _ hwr)) rfl ⟨a,ns,_,_,_,rfl,s1.seq hS,hn,⟨by decide,by decide⟩,by decide,by lia,λk2 Z1 Z2=>⟨aW,λsp iD=>hN _ _ ⟨sp,k1,k2,rfl,ao iD,aw,⟨ZZ,Z0⟩,Z1,Z2⟩⟩⟩
 rintro _ yR σ H2 ⟨sp,a1,a2,rfl,s2,iD,MD,xH⟩;subst yR;have S2:=s1.trans s2;refine aC (λσ H3=>(∃ z1 z2,σ=[some (.ref a),some (.ref wr),some (.ref x),some (.int i),some (.int n),some (.int f),some (.ref w1),some (.ref sp),z1,z2])/\∃ bY,iM [p,w1] H2 H3/\TabAt H3 w1 bY/\bL T.aO H3 x e t u d m p bY/\bI e t bY/\∀ r∈bY,aT r.2.1 r.2.2=false) (λN hN=>?_) ?_
 .rfl';refine⟨a,ns,_,_,_,rfl,S2.seq hS,hn,⟨by decide,by decide⟩,by decide,by decide,λk k0 k1=>?_⟩;rfl';refine aX (λ_=>?_) λ_=>?_
  .refine⟨a,ns,_,_,_,rfl,S2.seq hS,hn,⟨by decide,by decide⟩,by decide,by decide,λj j0 j1=>⟨Fh (by lia) (by lia),?_⟩⟩;refine⟨a,ns,17,_,f,rfl,S2.seq hS,hn,⟨by decide,by decide⟩,hf,λwq lo hi H3 s3 Dt hc _=>?_⟩;have X3:=S2.trans s3;obtain⟨dx,hx⟩:=hB.ob;have Du:=s3 _ _ iD;have kl:=MB.len;have k1l:=ux.len;refine⟨_,_,X3 _ _ hx,rfl,ak (ah.of Du) rfl (ak (ah.of Du) rfl (ak (ah.of Dt) rfl (ak (ah.of Dt) rfl ?_)))⟩;refine⟨x,p,e,t,u,d,m,a1,a2,lo,hi,kp,rfl,⟨⟨dx,X3 _ _ hx⟩,X3 _ _ hkp⟩,by lia,λz=>absurd ⟨⟨MD,xH⟩,hc⟩ z,λ_ v9 H4 sb lW iv=>?_⟩;have F4:Fr H3 H4:=SameBut.fr sb (X3 _ _ hkp);have uO:=sb w1 _ wp ((s2.trans s3) _ _ Ds);have Z3:=F4 _ (.tup _) (λ_ z=>nomatch z) Du;have Z4:=F4 _ (.tup _) (λ_ z=>nomatch z) Dt;have B4:=bL.told (s:=(a1,a2)) (w:=(lo,hi)) ⟨dx,X3 _ _ hx⟩ (X3 _ _ hkp) (MB.imp λ_ _ _ z=>aM.same z X3) sb lW iv;have F5:Fr H4 (upd H4 w1 (.dT (putK kv (bH a1 a2) (.ref wq)))):=zH uO;refine⟨_,nI.t (k:=bH a1 a2) uO Z3 (abV (by lia:kv.length<=60) (by decide)),hN _ _ ⟨⟨_,_,rfl⟩,fj tb (a1,a2) (lo,hi),λz o hz ez=>?_,⟨_,aw,aY.put (s:=(a1,a2)) (w:=(lo,hi)) ((ux.imp λ_ _ _ z=>aM.same z (s2.trans s3)).imp λ_ _ _ z=>(z.fr F4).fr F5) ⟨wq,rfl,F5 _ (.tup _) (λ_ z=>nomatch z) Z4⟩⟩,B4.now F5 (B4.tb.fr F5 λ_ z=>by rw[aB (ab4 wp)];exact z),aZ.put ⟨MD,xH⟩,λr hr=>?_⟩⟩
   .rw[aB λy=>hz (by rw[y];simp)];exact sb z o (λy=>hz (by rw[y];simp)) (s3 _ _ ez)
   .rcases VB.mp hr with rfl|h
    .exact hc
    .exact cH r h.1
  .have Z5:=S2 _ _ hwr;refine ak (ah.of Z5) rfl ⟨t,rfl,by lia,by lia,oZ (ZW H2 x p w1 e t u d m T.aO (λz2=>[some (.ref a),some (.ref wr),some (.ref x),some (.int i),some (.int n),some (.int f),some (.ref w1),some (.ref sp),none,z2])) ⟨⟨_,rfl⟩,tb,λ_ _ _ z=>z,⟨kv,s2 _ _ Ds,ux.imp λ_ _ _ z=>aM.same z s2⟩,hB.same S2,aZ,cH⟩ ?_ λσ H3 ⟨⟨z2,e⟩,bY,h⟩=>hN _ _ ⟨⟨_,_,e⟩,bY,h⟩⟩;rintro k σ H3 hk ⟨⟨z2,rfl⟩,bY,b3,lX,ou,xK,xM⟩;obtain⟨Dv,ME,gN⟩:=id lX;obtain⟨⟨dx,Dw⟩,Z6,Dx,MF⟩:=id ou;rfl';refine⟨aW,λka fz=>?_⟩;have ua:=ao (o:=.tup [.int i,.int (0+(k:Int))]) fz;refine⟨_,dU.t (k:=bH i (0+(k:Int))) (ua _ _ ME) aw,?_⟩;cases hv:ic bY (i,0+(k:Int)) with
   | none =>
    rw[(gN.val (i,0+(k:Int))).1 hv];rfl';exact⟨⟨_,rfl⟩,bY,λz o hz ez=>ua _ _ (b3 z o hz ez),lX.same ua,ou.same ua,xK,xM⟩
   | some ww =>
    obtain⟨vw,hvw,_⟩:=(gN.val (i,0+(k:Int))).2 _ hv;obtain⟨vp,hvp,_⟩:=(MF.val (i,0+(k:Int))).2 _ hv;rw[hvw];rfl';refine⟨_,_,ua _ _ Dw,rfl,x,p,e,t,u,d,m,i,0+(k:Int),Z6,rfl,⟨⟨dx,ua _ _ Dw⟩,ua _ _ Dx⟩,λz=>absurd (hvp.symm.trans z) (λz=>nomatch z),λv9 _ H4 sb lW=>?_⟩;have F4:=SameBut.fr sb (ua _ _ Dx);have uO:=sb w1 _ wp (ua _ _ ME);have B4:=bL.ZV (s:=(i,0+(k:Int))) ⟨dx,ua _ _ Dw⟩ (ua _ _ Dx) (MF.imp λ_ _ _ z=>aM.same z ua) sb lW;refine⟨.inr ⟨Dv,.inl uO⟩,aW,λkb Z7=>?_⟩;have ub:=ao (o:=.tup [.int i,.int (0+(k:Int))]) Z7;have uw:=ub _ _ uO;have B5:=B4.same ub;have F6:Fr (upd H4 kb (.tup [.int i,.int (0+(k:Int))])) (upd (upd H4 kb (.tup [.int i,.int (0+(k:Int))])) w1 (.dT (kf Dv (bH i (0+(k:Int)))))):=zH uw;refine⟨Dv,uw,bH i (0+(k:Int)),aw,vw,hvw,⟨_,rfl⟩,pR bY (i,0+(k:Int)),λz o hz ez=>?_,⟨_,aw,aY.drop (s:=(i,0+(k:Int))) (gN.imp λ_ _ _ z=>(((aM.same z ua).fr F4).same ub).fr F6)⟩,B5.now F6 (B5.tb.fr F6 λ_ z=>by rw[aB (ab4 wp)];exact z),xK.drop,λr hr=>xM r (abE.mp (by unfold pR at hr;exact hr)).1⟩;rw[aB λy=>hz (by rw[y];simp)];exact ub _ _ (sb z o (λy=>hz (by rw[y];simp)) (ua _ _ (b3 z o hz ez)))
 rintro _ yR σ H3 ⟨⟨z1,z2,rfl⟩,bY,b3,lX,ou,xK,xM⟩;subst yR;have D2:pS H2 [p,w1]:=λz hz=>by
  rcases abl.mp hz with rfl|hz
  .exact⟨kp,S2 _ _ hkp⟩
  .rw[abp.mp hz];exact⟨kv,s2 _ _ Ds⟩
 have F3:=b3.fr D2;have uP:=F3 _ (.tup _) (λ_ z=>nomatch z) (S2 _ _ hwr);rfl';refine ak (ah.of uP) rfl (ak (ah.of uP) rfl (ak (ah.of uP) rfl (ak (ah.of uP) rfl (ak (ah.of uP) rfl ⟨by decide,λr hr=>?_⟩))));have ur:=ao (o:=.tup [.int e,.int t,.int u,.int d,.int m,.ref w1]) hr;refine q r w1 bY _ (λz o hz ez=>ur _ _ (b3 z o (λy=>?_) (S2 _ _ ez))) xJ aw (lX.same ur) (ou.same ur) xK xM;rcases abl.mp y with rfl|y
 .exact hz (.head _)
 .rw[abp.mp y,xJ] at ez;cases ez
theorem cT.Z8(h:cT H v m)(F:Fr H H'):cT H' v m:=let ⟨t,p,e,a,b⟩:=h;⟨t,p,e,F _ (.tup _) (λ_ z=>nomatch z) a,F _ (.tup _) (λ_ z=>nomatch z) b⟩
theorem fA.fr(h:fA C H v ms)(F:Fr H H'):fA C H' v ms:=let ⟨dx,l,ys,a,b,c⟩:=h;⟨dx,l,ys,F _ (.ins _ _ _) (λ_ z=>nomatch z) a,F _ (.lst _) (λ_ z=>nomatch z) b,c.imp λ_ _ r=>r.Z8 F⟩
theorem jM.same(h:jM t H v cs)(s:aj H H'):jM t H' v cs:=let ⟨a,e,b,c⟩:=h;⟨a,e,s _ _ b,c⟩
theorem jM.fr(h:jM t H v cs)(F:Fr H H'):jM t H' v cs:=let ⟨a,e,b,c⟩:=h;⟨a,e,F _ (.lst _) (λ_ z=>nomatch z) b,c⟩
def MG(H:Hp)(t:Int)(cl q1:abd)(σ0:Option V->Option V->St)(k:Nat)(σ:St)(H1:Hp):Prop:=(∃ e1 e2,σ=σ0 e1 e2)/\aj H H1/\∃ zs iy,H1 cl=some (.lst zs)/\az (λv cs=>jM t H1 v cs/\v ≠ .ref cl) zs iy/\zs.length<=1+k/\H1 q1=some (.tup [.int 400,.int 413])
inductive xN(K:aa0)(vs:List V)(H:Hp)(Q:VK)(aP:XK):Prop
 | mk(a:abd)(ns:List Int)(_:vs=[.ref a])(_:ai K H a (ns.map V.int))(_:ji ns)(_:∀ H',Q (.bl true) H')
theorem Z9(T:Tx K mg):Ok P w base 37 T.oi (xN K):=by
 refine ju gH ?_;rintro _ _ _ _ H _ Q _ hr ⟨a,ns,rfl,hS,hn,q⟩;refine⟨_,(ax (aI 1 gH.nd (aD (We T) hr (ae (aa 0) ag)))
  (ax (aI 2 gH.nd (aD (Wg T) hr (ae (aa 0) (ae (aa 1) (ae (aD (Wa T) hr (ae (aa 0) ag)) ag)))))
  (ax (aI 3 gH.nd (aD (Wk T) hr (ae (aa 0) (ae (aa 1) (ae (aa 2) ag)))))
  (ax (aI 4 gH.nd (aD (WU T) hr (ae (aa 3) ag)))
  (ax (aI 5 gH.nd (aD (dj T) hr (ae (aa 0) (ae af (ae af (ae (aq (aa 3) af) ag))))))
  (ax (aI 6 gH.nd (cO (ae (aa 2) ag)))
  (ax (cI ady rfl (oQ (aS (ae af (ae af ag)))) (b8 7 gH.nd) (ax (rH (i:=8) (bU.mk (fr:=[2,1,0,7]) (ys:=["_law_course","_law_shape_here","_law_script","_law_k"]) rfl (by decide +kernel) rfl (by decide +kernel) rfl rfl (.cons rfl (.cons rfl (.cons rfl (.cons rfl .nil)))) (.cons rfl rfl rfl rfl (.cons rfl rfl rfl rfl (.cons rfl rfl rfl rfl (.cons rfl rfl rfl rfl .nil)))) (by decide) rfl) rfl gH.nd rfl rfl (gT rfl T.fw (ae (aq (aa 3) af) ag)) (λC s2 H2 ex pn=>⟨dg,(aN bZ (b7 (K:=K) (aa 1) (aa 0)) (aN lL (b7 (K:=K) (aa 2) af) (aN dB (aD (dj T) hr (ae (aa 3) (ae (aN bZ (aa 4) (aa 0)) (ae af (ae af ag))))) af)))⟩))
    (au (d9 (iE abO ab2 ab3 kT (aa 6) (ae (aa 8) ag))))))
  (ax (aI 9 gH.nd (bR (Df T) (hr.mono (by decide)) rfl T.gI.m T.gI.F.kp T.gI.b .nil df (ae (aa 4) (ae (aa 5) ag))))
  (ax (aI 10 gH.nd (eK (aa 4) T.bA T.VI (Wx T) (hr.mono (by decide)) T.mT.b .nil bb))
  (ax (aG (PW.pt (bB (bC (bz (bR (Dh T) (hr.mono (by decide)) rfl T.gK.m T.gK.F.kp T.gK.b .nil df (ae (aq (aa 3) af) (ae (aa 5) (ae (aa 9) (ae (aa 6) ag))))))) (ck (bC (bz (bR (C8 T) (hr.mono (by decide)) rfl T.gJ.m T.gJ.F.kp T.gJ.b .nil df (ae (aa 3) (ae (aa 4) (ae (aq (aa 3) af) (ae (aa 5) (ae (aa 9) ag))))))))))) (au (aA b9)) aH)
  (ax (aI 11 gH.nd (bR (ZY T) (hr.mono (by decide)) rfl T.mZ.m T.mZ.F.kp T.mZ.b .nil df (ae (aa 0) (ae (aa 3) (ae (aa 4) (ae (aa 5) (ae (aq (aa 2) af) (ae (aq (aa 1) af) ag))))))))
  (ax (aG (PW.pt (bB (bC (bz (bR (C8 T) (hr.mono (by decide)) rfl T.gJ.m T.gJ.F.kp T.gJ.b .nil df (ae (aa 11) (ae (aa 4) (ae (aq (aa 3) af) (ae (aa 5) (ae (aa 9) ag)))))))) (ck (bC (bz (bR (C8 T) (hr.mono (by decide)) rfl T.gJ.m T.gJ.F.kp T.gJ.b .nil df (ae (aa 3) (ae (aa 10) (ae (aq (aa 3) af) (ae (aa 5) (ae (aa 9) ag))))))))))) (au (aA b9)) aH)
  (ax (aG (PW.pt (bB (bC (bz (bR (Dh T) (hr.mono (by decide)) rfl T.gK.m T.gK.F.kp T.gK.b .nil df (ae (aq (aa 3) af) (ae (aa 5) (ae (aa 9) (ae (aa 6) ag))))))) (ck (bC (bz (bR (Dh T) (hr.mono (by decide)) rfl T.gK.m T.gK.F.kp T.gK.b .nil df (ae (aq (aa 11) af) (ae (aa 5) (ae (bR (Df T) (hr.mono (by decide)) rfl T.gI.m T.gI.F.kp T.gI.b .nil df (ae (aa 4) (ae (aa 5) ag))) (ae (aa 6) ag)))))))))) (au (aA b9)) aH)
  (au (aA (fv (aD (MA T) hr (ae (aa 4) (ae (aq (aa 3) af) ag))) (eU (aD (MA T) hr (ae (aa 4) (ae (gV ij af) ag)))))))))))))))))))),?_⟩
 refine aC (λσ H1=>∃ (r:abd) (e t u d m f:Int),σ=[some (.ref a),some (.ref r),none,none,none,none,none,none,none,none,none,none]/\aj H H1/\H1 r=some (.tup (wZ e t u d m f))/\uu e t u d m f) (λN hN=>?_) ?_
 .rfl';exact⟨a,ns,rfl,hS,hn,λr e t u d m f H1 s1 c9 sh=>hN _ _ ⟨r,e,t,u,d,m,f,rfl,s1,c9,sh⟩⟩
 rintro _ yR σ H1 ⟨r,e,t,u,d,m,f,rfl,s1,c9,sh⟩;subst yR;refine aC (λσ H2=>∃ (c:abd) (cs:List Int),σ=[some (.ref a),some (.ref r),some (.ref c),none,none,none,none,none,none,none,none,none]/\aj H1 H2/\H2 c=some (.lst (cs.map V.int))/\cs.length=t.toNat) (λN hN=>?_) ?_
 .rfl';refine⟨a,ns,rfl,s1.seq hS,hn,λn H2 s2=>?_⟩;exact⟨a,r,ns,e,t,u,d,m,f,n,rfl,(s1.trans s2).seq hS,hn,ah.of (s2 _ _ c9),sh,λc cs H3 s3 _ hc bf _=>hN _ _ ⟨c,cs,rfl,s2.trans s3,hc,bf⟩⟩
 rintro _ yR σ H2 ⟨c,cs,rfl,s2,rG,bf⟩;subst yR;have S2:=s1.trans s2;refine aC (λσ H3=>∃ (wr w:abd) (tb:Tb),σ=[some (.ref a),some (.ref r),some (.ref c),some (.ref wr),none,none,none,none,none,none,none,none]/\aj H2 H3/\H3 wr=some (.tup [.int e,.int t,.int (f * u),.int (f * d),.int m,.ref w])/\TabAt H3 w tb/\bI e t tb/\∀ r∈tb,aT r.2.1 r.2.2=false) (λN hN=>?_) ?_
 .rfl';refine⟨a,r,c,ns,cs,e,t,u,d,m,f,rfl,S2.seq hS,hn,ah.of (s2 _ _ c9),sh,ai.of rG,bf,λv w tb H3 s3 _ hW ay _ cH=>?_⟩;obtain⟨wr,rfl,h1,h2⟩:=hW;exact hN _ _ ⟨wr,w,tb,rfl,s3,h1,h2,ay,cH⟩
 rintro _ yR σ H3 ⟨wr,w,tb,rfl,s3,hwr,hT,aZ,cH⟩;subst yR;have S3:=S2.trans s3;have et:=KU sh;have hff:=sh.hf;have dG:dZ e t (f * u) (f * d) m:=⟨sh.he,sh.ht,adL (by lia) sh.hu.1,adL (by lia) sh.hd.1,sh.hm.1,sh.hm.2⟩
 generalize f * u=U at dG hwr;generalize f * d=D at dG hwr;obtain⟨he,ht,u0,d0,m0,me⟩:=id dG;have iW:=JD aZ (by lia) (by lia);have tt:(cs.length:Int)=t:=by lia
 refine aC (λσ H4=>∃ (x p:abd),σ=[some (.ref a),some (.ref r),some (.ref c),some (.ref wr),some (.ref x),none,none,none,none,none,none,none]/\aj H3 H4/\H3 p=none/\bL T.aO H4 x e t U D m p tb) (λN hN=>?_) ?_
 .rfl';exact⟨.ref wr,w,e,t,U,D,m,tb,rfl,⟨wr,rfl,hwr,hT⟩,dG,aZ,by lia,cH,λx p H4 s4 _ fp hB=>hN _ _ ⟨x,p,rfl,s4,fp,hB⟩⟩
 rintro _ yR σ H4 ⟨x,p,rfl,s4,fp,jH⟩;subst yR;have S4:=S3.trans s4;have wp:w≠p:=λz=>by obtain⟨ks,eQ,_⟩:=hT;rw[z,fp] at eQ;cases eQ
 have xO:=s4 _ _ hwr;have uD:=hT.same s4;have qO:=(s3.trans s4) _ _ rG;have uA:=(s2.trans (s3.trans s4)) _ _ c9;have xP:=S4.seq hS;clear s1 s2 s3 s4 S2 S3 S4 hwr hT rG c9 hS fp;refine aC (λσ H5=>∃ i:Int,σ=[some (.ref a),some (.ref r),some (.ref c),some (.ref wr),some (.ref x),some (.int i),none,none,none,none,none,none]/\H5=H4/\0<=i/\i<e) (λN hN=>?_) ?_
 .rfl';exact ak (ah.of xO) rfl ⟨a,ns,_,_,_,rfl,xP,hn,⟨by decide,by decide⟩,by decide,by lia,λk k0 k1=>hN _ _ ⟨k,rfl,rfl,k0,k1⟩⟩
 rintro _ yR σ H5 ⟨i,rfl,rfl,Dy,uL⟩;subst yR;refine aC (λσ H6=>∃ cl,σ=[some (.ref a),some (.ref r),some (.ref c),some (.ref wr),some (.ref x),some (.int i),some (.ref cl),none,none,none,none,none]/\aj H5 H6/\H5 cl=none/\H6 cl=some (.lst [.ref c])) (λN hN=>?_) ?_
 .rfl';exact⟨by decide,λcl h=>hN _ _ ⟨cl,rfl,ao h,h,aw⟩⟩
 rintro _ yR σ H6 ⟨cl,rfl,s6,fcl,aaa⟩;subst yR;have gQ:c≠cl:=λz=>by rw[z,fcl] at qO;cases qO
 refine aC (λσ H7=>∃ q1,MG H5 t cl q1 (λe1 e2=>[some (.ref a),some (.ref r),some (.ref c),some (.ref wr),some (.ref x),some (.int i),some (.ref cl),e1,e2,none,none,none]) 2 σ H7) (λN hN=>?_) ?_
 .rfl';refine⟨aW,λq1 uF=>?_⟩;have uq:=ao (o:=.tup [.int 400,.int 413]) uF;refine⟨⟨_,ah.of aw⟩,Ff (xs:=[.int 400,.int 413]) (MG H5 t cl q1 (λe1 e2=>[some (.ref a),some (.ref r),some (.ref c),some (.ref wr),some (.ref x),some (.int i),some (.ref cl),e1,e2,none,none,none])) ⟨⟨_,_,rfl⟩,s6.trans uq,[.ref c],[cs],uq _ _ aaa,⟨⟨⟨c,rfl,(s6.trans uq) _ _ qO,bf⟩,λz=>gQ (V.ref.inj z)⟩,trivial⟩,aba _,aw⟩ (λk σ H7 _ ⟨_,_,_,_,_,_,_,h⟩=>ah.of h) ?_ λσ H7 h=>hN _ _ ⟨q1,h⟩⟩;rintro k v σ H7 hv ⟨⟨z1,z2,rfl⟩,s7,zs,iy,qP,qQ,zl7,Dz⟩;obtain⟨kk,rfl,kk0,kk1⟩:∃ kk:Int,v = .int kk/\0<=kk/\kk<=1000:=by
   match k,hv with
   | 0,hv=>exact⟨400,by cases hv;rfl,by decide,by decide⟩
   | 1,hv=>exact⟨413,by cases hv;rfl,by decide,by decide⟩
  have k2:k<2:=(aa7.mp hv).1;rfl';refine ak (ah.of (s7 _ _ xO)) rfl ⟨t,rfl,by lia,by lia,cJ k8 (by rw[aa2,abw];exact abb (by lia:_<=12) (by decide)) (Gr (ys:=[]) trivial (λx hx Q h=>?_) (λx hx Q h=>?_) λms MH=>?_)⟩
  .rfl';exact h
  .obtain⟨j,hj,rfl⟩:=aa8.mp hx;have:=acO.mp hj;rfl';refine bJ (ai.of (s7 _ _ qO)) (int_at (by lia) (by lia)) (ak (ah.of (s7 _ _ uA)) rfl ⟨a,ns,_,_,_,rfl,s7.seq xP,hn,⟨by lia,by lia⟩,by decide,by decide,λk k0 k1=>?_⟩);exact⟨Fh (by lia) (by lia),h _⟩
  .intro l hl;rw[abr];rw[aa2,abw] at MH;have ul:=ao (o:=.lst (ms.map V.int)) hl;have MI:l≠cl:=λz=>by rw[z,qP] at hl;cases hl
   have MJ:=ul _ _ qP;rfl';refine⟨.inl ⟨rfl,_,ai.of MJ⟩,zs,MJ,abV (by lia:_<=3) (by decide),⟨_,_,rfl⟩,j6 fcl (s7.trans ul),zs++[.ref l],iy++[ms],aw,az.snoc (qQ.imp λv _ r=>?_) ⟨⟨l,rfl,by rw[aB MI];exact aw,MH⟩,λz=>MI (V.ref.inj z)⟩,by rw[abf,abv];lia,by rw[aB λz=>by rw[z,qP] at Dz;cases Dz];exact ul _ _ Dz⟩;obtain⟨⟨b,eb,hb,hbl⟩,bV⟩:=r;exact⟨⟨b,eb,by rw[aB λz=>bV (by rw[eb,z])];exact ul _ _ hb,hbl⟩,bV⟩
 rintro _ yR σ H7 ⟨q1,⟨z1,z2,rfl⟩,s7,zs,iy,qP,qQ,zl7,_⟩;subst yR;have qQ:az (jM t H7) zs iy:=qQ.imp λ_ _ r=>r.1;refine aC (λσ H8=>∃ v,σ=[some (.ref a),some (.ref r),some (.ref c),some (.ref wr),some (.ref x),some (.int i),some (.ref cl),z1,z2,some (.ref v),none,none]/\aj H7 H8/\fA T.bG H8 v (aK tb i)) (λN hN=>?_) ?_
 .rfl';exact⟨x,p,e,t,U,D,m,i,tb,rfl,jH.same s7,aZ,by lia,λz=>absurd ⟨Dy,uL⟩ z,λ_ v H8 s8 _ hL=>hN _ _ ⟨v,rfl,s8,hL⟩⟩
 rintro _ yR σ H8 ⟨v,rfl,s8,MK⟩;subst yR;have S8:=s7.trans s8;refine aC (λσ H9=>∃ y p2,σ=[some (.ref a),some (.ref r),some (.ref c),some (.ref wr),some (.ref x),some (.int i),some (.ref cl),z1,z2,some (.ref v),some (.ref y),none]/\aj H8 H9/\H8 p2=none/\bL T.aO H9 y e t U D m p2 tb) (λN hN=>?_) ?_
 .obtain⟨dx,hx⟩:=jH.ob;rfl';exact⟨_,_,S8 _ _ hx,rfl,x,p,e,t,U,D,m,tb,rfl,jH.same S8,aZ,dG,λy p2 H9 s9 _ uQ hB=>hN _ _ ⟨y,p2,rfl,s9,uQ,hB⟩⟩
 rintro _ yR σ H9 ⟨y,p2,rfl,s9,uQ,hY9⟩;subst yR;have S9:=S8.trans s9;have pp2:p2≠p:=λz=>by obtain⟨ks,eQ,_⟩:=(jH.same S8).tb;rw[z] at uQ;rw[uQ] at eQ;cases eQ
 have DA:=MK.same s9;have uR:=S9 _ _ xO;have uS:=uD.same S9;have DB:=jH.same S9;have CT:=(s8.trans s9) _ _ qP;have ML:az (jM t H9) zs iy:=qQ.imp λ_ _ r=>r.same (s8.trans s9);have hS9:=S9.seq xP;have hr9:=S9 _ _ uA;have Dm:=S9 _ _ qO;clear s6 s7 s8 s9 S8 S9 xO uD jH qP qQ xP uA qO MK uQ;refine aC (λσ eS=>σ=[some (.ref a),some (.ref r),some (.ref c),some (.ref wr),some (.ref x),some (.int i),some (.ref cl),z1,z2,some (.ref v),some (.ref y),none]/\aj H9 eS) (λN hN=>?_) ?_
 .rfl';refine ak (ah.of uR) (v:=.ref w) rfl ⟨w,v,cl,e,t,i,tb,zs,iy,rfl,uS,aZ,by lia,ht,cH,DA,CT,ML,λeS cV=>?_⟩;rfl';refine ak (ah.of (cV _ _ uR)) (v:=.ref w) rfl ⟨x,p,w,w,v,.ref wr,e,t,U,D,m,i,tb,tb,rfl,DB.same cV,⟨wr,rfl,cV _ _ uR,uS.same cV⟩,dG,aZ,by lia,uS.same cV,aZ,by lia,DA.same cV,λeG jN=>?_⟩;rfl';exact hN _ _ ⟨rfl,cV.trans jN⟩
 rintro _ yR σ eS ⟨rfl,cV⟩;subst yR;refine aC (λσ eG=>∃ r2 w2 iZ,σ=[some (.ref a),some (.ref r),some (.ref c),some (.ref wr),some (.ref x),some (.int i),some (.ref cl),z1,z2,some (.ref v),some (.ref y),some (.ref r2)]/\iM [p] eS eG/\eG r2=some (.tup [.int e,.int t,.int U,.int D,.int m,.ref w2])/\TabAt eG w2 iZ/\bL T.aO eG x e t U D m p iZ/\bI e t iZ/\∀ r∈iZ,aT r.2.1 r.2.2=false) (λN hN=>?_) ?_
 .rfl';refine bJ (ai.of (cV _ _ Dm)) (int_at (by decide) (by lia)) (ak (ah.of (cV _ _ hr9)) rfl ?_);exact⟨a,x,p,w,.ref wr,ns,e,t,U,D,m,i,_,f,tb,rfl,cV.seq hS9,hn,DB.same cV,⟨wr,rfl,cV _ _ uR,uS.same cV⟩,dG,aZ,by lia,et,cH,⟨Dy,uL⟩,hff,λr2 w2 iZ eG uT _ iX qE Cz nk DC=>hN _ _ ⟨r2,w2,iZ,rfl,uT,iX,qE,Cz,nk,DC⟩⟩
 rintro _ yR σ eG ⟨r2,w2,iZ,rfl,uT,iX,qE,xQ,nk,DC⟩;subst yR;have l2:=JD nk (by lia) (by lia);have DD:pS eS [p]:=by obtain⟨ks,eQ,_⟩:=(DB.same cV).tb;exact Hw eQ
 have xR:=uT.fr DD;have DE:=(DA.same cV).fr xR;have uU:=xR _ (.tup _) (λ_ z=>nomatch z) (cV _ _ uR);have xS:=(uS.same cV).but uT DD (by simpa using wp);have aab:=(hY9.same cV).but uT DD (by simpa using pp2);have MM:=xR _ (.lst _) (λ_ z=>nomatch z) (cV _ _ CT);have MN:az (jM t eG) zs iy:=ML.imp λ_ _ r=>(r.same cV).fr xR;refine aC (λσ jO=>σ=[some (.ref a),some (.ref r),some (.ref c),some (.ref wr),some (.ref x),some (.int i),some (.ref cl),z1,z2,some (.ref v),some (.ref y),some (.ref r2)]/\aj eG jO) (λN hN=>?_) ?_
 .rfl';refine ak (ah.of uU) (v:=.ref w) rfl ⟨x,p,w2,w,v,.ref r2,e,t,U,D,m,i,iZ,tb,rfl,xQ,⟨r2,rfl,iX,qE⟩,dG,nk,by lia,xS,aZ,by lia,DE,λjO fD=>?_⟩;rfl';refine ak (ah.of (fD _ _ uU)) (v:=.ref w) rfl ⟨y,p2,w,w,v,.ref wr,e,t,U,D,m,i,tb,tb,rfl,aab.same fD,⟨wr,rfl,fD _ _ uU,xS.same fD⟩,dG,aZ,by lia,xS.same fD,aZ,by lia,DE.same fD,λoF lY=>?_⟩;rfl';exact hN _ _ ⟨rfl,fD.trans lY⟩
 rintro _ yR σ jO ⟨rfl,fD⟩;subst yR;refine aC (λσ oF=>σ=[some (.ref a),some (.ref r),some (.ref c),some (.ref wr),some (.ref x),some (.int i),some (.ref cl),z1,z2,some (.ref v),some (.ref y),some (.ref r2)]/\aj eG oF) (λN hN=>?_) ?_
 .rfl';refine ak (ah.of (fD _ _ uU)) (v:=.ref w) rfl ⟨w,v,cl,e,t,i,tb,zs,iy,rfl,xS.same fD,aZ,by lia,ht,cH,DE.same fD,fD _ _ MM,MN.imp λ_ _ r=>r.same fD,λoF lY=>?_⟩;have DF:=fD.trans lY;rfl';refine ak (ah.of (DF _ _ iX)) (v:=.ref w2) rfl ⟨x,p,e,t,U,D,m,i,iZ,rfl,xQ.same DF,nk,by lia,λz=>absurd ⟨Dy,uL⟩ z,λ_ v2 xI DG _ hL2=>?_⟩;have oH:=DF.trans DG;refine⟨w2,v2,cl,e,t,i,iZ,zs,iy,rfl,qE.same oH,nk,by lia,ht,DC,hL2,oH _ _ MM,MN.imp λ_ _ r=>r.same oH,λMz qN=>?_⟩;rfl';exact hN _ _ ⟨rfl,oH.trans qN⟩
 rintro _ yR σ oF ⟨rfl,lY⟩;subst yR;rfl';refine ak (ah.of (lY _ _ uU)) rfl ⟨x,p,e,t,U,D,m,e,iZ,rfl,xQ.same lY,nk,by lia,by lia,λxI DG=>?_⟩;rfl';exact⟨x,p,e,t,U,D,m,_,iZ,rfl,(xQ.same lY).same DG,nk,by lia,by lia,λMz _=>q _⟩
end
theorem aac{l:agD}{w:acz}{K:aa0}{h:adz}{mg:Str->Option aa9}{fa:abd}(X:K.In h)(G:h.Ns abB mg)(hfa:mg "law" = some (.ref fa))
 {oj:abd}
 {lU:abd}
 {cU:abd}
 {iq:abd}
 {ir:abd}
 {bG:abd}
 {aO:abd}
 {aad:ClassData}
 {aae:Tok}
 {aaf:Tok}
 (aag:abM K abB "GazeError" = some (some (.ref oj)))
 (aah:abM K abB "NoBoard" = some (some (.ref lU)))
 (aai:abM K abB "NoTelling" = some (some (.ref cU)))
 (aaj:abM K abB "NoClaim" = some (some (.ref iq)))
 (aak:abM K abB "Event" = some (some (.ref ir)))
 (aal:abM K abB "Lying" = some (some (.ref bG)))
 (aam:abM K abB "Board" = some (some (.ref aO)))
 (sT:Fb K "is_crossed" "is_crossed" AB (aQ K "is_crossed"))
 (sU:Fb K "holds" "holds" AD (aQ K "holds"))
 (sV:Fb K "meet" "meet" AE (aQ K "meet"))
 (sW:Fb K "common" "common" AF (aQ K "common"))
 (sX:Fb K "number_at" "number_at" AG (aQ K "number_at"))
 (sY:Fb K "meets" "meets" AH (aQ K "meets"))
 (sZ:Fb K "has_part" "has_part" AI (aQ K "has_part"))
 (jA:Fb K "check_claim" "check_claim" AJ (aQ K "check_claim"))
 (tf:Fb K "stretches_of" "stretches_of" AK (aQ K "stretches_of"))
 (mM:Fb K "paces" "paces" AL (aQ K "paces"))
 (mO:Fb K "wanted" "wanted" AM (aQ K "wanted"))
 (tj:Fb K "outside" "outside" AN (aQ K "outside"))
 (tm:Fb K "failures" "failures" AO (aQ K "failures"))
 (jB:Fb K "held" "Event.held" AQ λf=>dY K ir "held" f/\dY K bG "held" f)
 (kC:Fb K "sizes" "Event.sizes" AR λf=>dY K ir "sizes" f/\dY K bG "sizes" f)
 (oh:Fb K "__init__" "Lying.__init__" AS (dY K bG "__init__"))
 (lO:Fb K "far" "Lying.far" AU (dY K bG "far"))
 (lP:Fb K "all_right" "Lying.all_right" AV (dY K bG "all_right"))
 (ik:Fb K "ways" "Lying.ways" AW (dY K bG "ways"))
 (iQ:Fb K "breaks" "Lying.breaks" AX (dY K bG "breaks"))
 (tq:Fb K "number_in" "number_in" AY (aQ K "number_in"))
 (tu:Fb K "moved" "moved" AZ (aQ K "moved"))
 (tx:Fb K "narrowed" "narrowed" A0 (aQ K "narrowed"))
 (tD:Fb K "stretches_at" "stretches_at" A1 (aQ K "stretches_at"))
 (tE:Fb K "tube" "tube" A2 (aQ K "tube"))
 (tF:Fb K "course_in" "course_in" A3 (aQ K "course_in"))
 (tG:Fb K "lesser" "lesser" A4 (aQ K "lesser"))
 (tH:Fb K "lifted" "lifted" A5 (aQ K "lifted"))
 (tI:Fb K "ceilings" "ceilings" A6 (aQ K "ceilings"))
 (tJ:Fb K "crossing" "crossing" A7 (aQ K "crossing"))
 (tK:Fb K "marks_of" "marks_of" A8 (aQ K "marks_of"))
 (tL:Fb K "marks_without" "marks_without" A9 (aQ K "marks_without"))
 (tM:Fb K "groups_of" "groups_of" Ba (aQ K "groups_of"))
 (tN:Fb K "clashes" "clashes" Bb (aQ K "clashes"))
 (jC:Fb K "without" "without" Bc (aQ K "without"))
 (mP:Fb K "eyes_of" "eyes_of" Be (aQ K "eyes_of"))
 (jD:Fb K "put_aside" "put_aside" Bf (aQ K "put_aside"))
 (iR:Fb K "branch" "branch" Bg (aQ K "branch"))
 (iS:Fb K "paper" "paper" Bh (aQ K "paper"))
 (x_ask:Fb K "ask" "ask" Bi (aQ K "ask"))
 (jE:Fb K "seek" "seek" Bj (aQ K "seek"))
 (mQ:Fb K "verdict" "verdict" Bk (aQ K "verdict"))
 (gI:Fb K "lying" "lying" Bl (aQ K "lying"))
 (mR:Fb K "__init__" "Board.__init__" Bm (dY K aO "__init__"))
 (lQ:Fb K "has_eye" "Board.has_eye" Bo (dY K aO "has_eye"))
 (iT:Fb K "has_turn" "Board.has_turn" Bp (dY K aO "has_turn"))
 (lR:Fb K "tell" "Board.tell" Bq (dY K aO "tell"))
 (mS:Fb K "hush" "Board.hush" Br (dY K aO "hush"))
 (lS:Fb K "tellings" "Board.tellings" Bs (dY K aO "tellings"))
 (mT:Fb K "twin" "Board.twin" Bu (dY K aO "twin"))
 (mU:Fb K "allowing" "Board.allowing" Bv (dY K aO "allowing"))
 (mV:Fb K "check_spot" "Board.check_spot" Bw (dY K aO "check_spot"))
 (mW:Fb K "check_word" "Board.check_word" Bx (dY K aO "check_word"))
 (tO:Fb K "_law_draw" "_law_draw" By (aQ K "_law_draw"))
 (tP:Fb K "_law_base" "_law_base" Bz (aQ K "_law_base"))
 (mX:Fb K "_law_whole" "_law_whole" BA (aQ K "_law_whole"))
 (tQ:Fb K "_law_within" "_law_within" BC (aQ K "_law_within"))
 (tR:Fb K "_law_shape" "_law_shape" BD (aQ K "_law_shape"))
 (tS:Fb K "_law_true_course" "_law_true_course" BE (aQ K "_law_true_course"))
 (tT:Fb K "_law_word" "_law_word" BF (aQ K "_law_word"))
 (tU:Fb K "_law_world" "_law_world" BG (aQ K "_law_world"))
 (tV:Fb K "_law_board" "_law_board" BH (aQ K "_law_board"))
 (tW:Fb K "_law_liars" "_law_liars" BI (aQ K "_law_liars"))
 (tX:Fb K "_law_fits" "_law_fits" BJ (aQ K "_law_fits"))
 (tY:Fb K "_law_common" "_law_common" BK (aQ K "_law_common"))
 (jF:Fb K "_law_empty" "_law_empty" BL (aQ K "_law_empty"))
 (mY:Fb K "_law_climb" "_law_climb" BM (aQ K "_law_climb"))
 (jG:Fb K "_law_mark" "_law_mark" BN (aQ K "_law_mark"))
 (iU:Fb K "_law_branch" "_law_branch" BO (aQ K "_law_branch"))
 (lT:Fb K "_law_clash" "_law_clash" BP (aQ K "_law_clash"))
 (ip:Fb K "_law_refuted" "_law_refuted" BQ (aQ K "_law_refuted"))
 (tZ:Fb K "_law_refutes" "_law_refutes" BR (aQ K "_law_refutes"))
 (t4:Fb K "_law_met" "_law_met" BS (aQ K "_law_met"))
 (t5:Fb K "_law_span" "_law_span" BU (aQ K "_law_span"))
 (t6:Fb K "_law_part" "_law_part" BV (aQ K "_law_part"))
 (t7:Fb K "_law_claims" "_law_claims" BW (aQ K "_law_claims"))
 (t8:Fb K "_law_lies" "_law_lies" BX (aQ K "_law_lies"))
 (t9:Fb K "_law_all_refuted" "_law_all_refuted" BY (aQ K "_law_all_refuted"))
 (gJ:Fb K "_law_right" "_law_right" BZ (aQ K "_law_right"))
 (uc:Fb K "_law_ends" "_law_ends" B0 (aQ K "_law_ends"))
 (gK:Fb K "_law_had" "_law_had" B1 (aQ K "_law_had"))
 (ud:Fb K "_law_refused" "_law_refused" B2 (aQ K "_law_refused"))
 (mZ:Fb K "_law_after" "_law_after" B3 (aQ K "_law_after"))
 (oi:Fb K "law" "law" B6 (aQ K "law"))
 (aan:abM K abB "all" = some none)
 (aao:abM K abB "any" = some none)
 (aap:abM K abB "bool" = some none)
 (aaq:abM K abB "dict" = some none)
 (aar:abM K abB "enumerate" = some none)
 (aas:abM K abB "int" = some none)
 (aat:abM K abB "isinstance" = some none)
 (aau:abM K abB "len" = some none)
 (aav:abM K abB "list" = some none)
 (aaw:abM K abB "max" = some none)
 (aax:abM K abB "min" = some none)
 (aay:abM K abB "range" = some none)
 (aaz:abM K abB "reversed" = some none)
 (aaA:abM K abB "set" = some none)
 (aaB:abM K abB "sorted" = some none)
 (aaC:abM K abB "sum" = some none)
 (aaD:abM K abB "tuple" = some none)
 (aaE:abM K abB "zip" = some none)
 (Kz:eI K ir)
 (di:eI K bG)
 (ug:abQ K (.ref bG) "marks" = some none)
 (Cn:afc K bG=true) (aaF:ado K (.ref bG)=true)
 (bA:eI K aO)
 (qv:abQ K (.ref aO) "eyes" = some none)
 (oq:abQ K (.ref aO) "turns" = some none)
 (ui:abQ K (.ref aO) "up" = some none)
 (uj:abQ K (.ref aO) "down" = some none)
 (qw:abQ K (.ref aO) "most" = some none)
 (kD:abQ K (.ref aO) "told" = some none)
 (wV:afc K aO=true) (aaG:ado K (.ref aO)=true)
 (um:XC K lU)
 (m6:XC K cU)
 (wW:XC K iq)
 (aaH:ahk K cU=some aad)
 (aaI:afB K (.ref cU)=some (.type "type"))
 (aaJ:aem K (.ref cU) (.type "BaseException")=some true)
 (aaK:aem K (.ref cU) (.ref cU)=some true)
 (aaL:abW K (.ref cU) (.ref oj)=some true)
 (aaM:abW K (.ref cU) (.ref iq)=some false)
 (aaN:abW K (.ref bG) (.ref ir)=some true)
 (Co:abQ K (.ref bG) "__class__" = some (some (.builtin "object.__class__")))
 (Cp:ahh K bG (.type "object")=some true)
 (Cq:afM K (.builtin "object.__class__") "__get__" = some (some (.builtin "getset_descriptor.__get__")))
 (Cr:agy K (.builtin "object.__class__")=some true)
 (aaO:abM K abB "EYES_AT_MOST" = some (some (.int 7 aae)))
 (aaP:abM K abB "TURNS_AT_MOST" = some (some (.int 12 aaf)))
 : ∃ fd:aea,(∀ (s:abe) (v:aa9),ahC s fd ⟨[v],[]⟩ [("_law_script",v)])/\∀ base:adz,K.In base->base.Ns abB mg->ff l.prog w K mg base (dN l.prog w) 37 fa fd ["_law_script"] (xN K):=by
 obtain⟨sT⟩:=sT.fn X G JE;obtain⟨sU⟩:=sU.fn X G JF;obtain⟨sV⟩:=sV.fn X G wI;obtain⟨sW⟩:=sW.fn X G sI;obtain⟨sX⟩:=sX.fn X G JG;obtain⟨sY⟩:=sY.fn X G JH;obtain⟨sZ⟩:=sZ.fn X G JI;obtain⟨jA⟩:=jA.fn X G B7;obtain⟨tf⟩:=tf.fn X G JJ;obtain⟨mM⟩:=mM.fn X G B8;obtain⟨mO⟩:=mO.fn X G JK;obtain⟨tj⟩:=tj.fn X G wJ;obtain⟨tm⟩:=tm.fn X G wK;obtain⟨jB,MO,MP⟩:=Fb.fp jB JL;obtain⟨kC,MQ,MR⟩:=Fb.fp kC JM;obtain⟨oh,MS⟩:=oh.fm JN;obtain⟨lO,MT⟩:=lO.fm JO;obtain⟨lP,MU⟩:=lP.fm JP;obtain⟨ik,MV⟩:=ik.fm JQ;obtain⟨iQ,MW⟩:=iQ.fm JR;obtain⟨tq⟩:=tq.fn X G JS;obtain⟨tu⟩:=tu.fn X G wL;obtain⟨tx⟩:=tx.fn X G n0;obtain⟨tD⟩:=tD.fn X G JT;obtain⟨tE⟩:=tE.fn X G wM;obtain⟨tF⟩:=tF.fn X G qq;obtain⟨tG⟩:=tG.fn X G JU;obtain⟨tH⟩:=tH.fn X G JV;obtain⟨tI⟩:=tI.fn X G n4;obtain⟨tJ⟩:=tJ.fn X G sJ;obtain⟨tK⟩:=tK.fn X G JW;obtain⟨tL⟩:=tL.fn X G JX;obtain⟨tM⟩:=tM.fn X G JY;obtain⟨tN⟩:=tN.fn X G lN;obtain⟨jC⟩:=jC.fn X G JZ;obtain⟨mP⟩:=mP.fn X G J0;obtain⟨jD⟩:=jD.fn X G sL;obtain⟨iR⟩:=iR.fn X G J1;obtain⟨iS⟩:=iS.fn X G n5;obtain⟨x_ask⟩:=x_ask.fn X G n6;obtain⟨jE⟩:=jE.fn X G sM;obtain⟨mQ⟩:=mQ.fn X G sN;obtain⟨gI⟩:=gI.fn X G J5;obtain⟨mR,MX⟩:=mR.fm J6;obtain⟨lQ,MY⟩:=lQ.fm J9;obtain⟨iT,MZ⟩:=iT.fm Ka;obtain⟨lR,M0⟩:=lR.fm Kb;obtain⟨mS,M4⟩:=mS.fm Kc;obtain⟨lS,M5⟩:=lS.fm Kd;obtain⟨mT,M6⟩:=mT.fm Ke;obtain⟨mU,M7⟩:=mU.fm B9;obtain⟨mV,M8⟩:=mV.fm Kf;obtain⟨mW,M9⟩:=mW.fm Kg;obtain⟨tO⟩:=tO.fn X G Kh;obtain⟨tP⟩:=tP.fn X G Ca;obtain⟨mX⟩:=mX.fn X G Ki;obtain⟨tQ⟩:=tQ.fn X G Kj;obtain⟨tR⟩:=tR.fn X G gG;obtain⟨tS⟩:=tS.fn X G sO;obtain⟨tT⟩:=tT.fn X G n9;obtain⟨tU⟩:=tU.fn X G jy;obtain⟨tV⟩:=tV.fn X G wN;obtain⟨tW⟩:=tW.fn X G Kk;obtain⟨tX⟩:=tX.fn X G Cb;obtain⟨tY⟩:=tY.fn X G og;obtain⟨jF⟩:=jF.fn X G Kl;obtain⟨mY⟩:=mY.fn X G Cc;obtain⟨jG⟩:=jG.fn X G Km;obtain⟨iU⟩:=iU.fn X G Kn;obtain⟨lT⟩:=lT.fn X G wO;obtain⟨ip⟩:=ip.fn X G qr;obtain⟨tZ⟩:=tZ.fn X G sP;obtain⟨t4⟩:=t4.fn X G sQ;obtain⟨t5⟩:=t5.fn X G Cd;obtain⟨t6⟩:=t6.fn X G Ko;obtain⟨t7⟩:=t7.fn X G Ce;obtain⟨t8⟩:=t8.fn X G Cf;obtain⟨t9⟩:=t9.fn X G Kq;obtain⟨gJ⟩:=gJ.fn X G wQ;obtain⟨uc⟩:=uc.fn X G sR;obtain⟨gK⟩:=gK.fn X G jz;obtain⟨ud⟩:=ud.fn X G sS;obtain⟨mZ⟩:=mZ.fn X G qt;obtain⟨oi⟩:=oi.fn X G gH;cases hfa.symm.trans oi.m;exact⟨_,oi.bt gH,λ_ _ _=>Z9 (⟨sT,sU,sV,sW,sX,sY,sZ,jA,tf,mM,mO,tj,tm,jB,kC,oh,lO,lP,ik,iQ,tq,tu,tx,tD,tE,tF,tG,tH,tI,tJ,tK,tL,tM,tN,jC,mP,jD,iR,iS,x_ask,jE,mQ,gI,mR,lQ,iT,lR,mS,lS,mT,mU,mV,mW,tO,tP,mX,tQ,tR,tS,tT,tU,tV,tW,tX,tY,jF,mY,jG,iU,lT,ip,tZ,t4,t5,t6,t7,t8,t9,gJ,uc,gK,ud,mZ,oi,abH X G aan,abH X G aao,abH X G aap,abH X G aaq,abH X G aar,abH X G aas,abH X G aat,abH X G aau,abH X G aav,abH X G aaw,abH X G aax,abH X G aay,abH X G aaz,abH X G aaA,abH X G aaB,abH X G aaC,abH X G aaD,abH X G aaE,oj,acY X G aag,lU,acY X G aah,cU,acY X G aai,iq,acY X G aaj,ir,acY X G aak,bG,acY X G aal,aO,acY X G aam,Kz,⟨MO.1,MO.2,jB.F.kp⟩,⟨MQ.1,MQ.2,kC.F.kp⟩,di,ug,⟨MP.1,MP.2,jB.F.kp⟩,⟨MR.1,MR.2,kC.F.kp⟩,⟨Cn,MS.1,MS.2,aaF⟩,⟨MT.1,MT.2,lO.F.kp⟩,⟨MU.1,MU.2,lP.F.kp⟩,⟨MV.1,MV.2,ik.F.kp⟩,⟨MW.1,MW.2,iQ.F.kp⟩,bA,qv,oq,ui,uj,qw,kD,⟨wV,MX.1,MX.2,aaG⟩,⟨MY.1,MY.2,lQ.F.kp⟩,⟨MZ.1,MZ.2,iT.F.kp⟩,⟨M0.1,M0.2,lR.F.kp⟩,⟨M4.1,M4.2,mS.F.kp⟩,⟨M5.1,M5.2,lS.F.kp⟩,⟨M6.1,M6.2,mT.F.kp⟩,⟨M7.1,M7.2,mU.F.kp⟩,⟨M8.1,M8.2,mV.F.kp⟩,⟨M9.1,M9.2,mW.F.kp⟩,um,m6,wW,P4 aaH aaI aaK aaJ,aaL,aaM,aaN,Co,Cp,Cq,Cr,⟨_,acY X G aaO⟩,⟨_,acY X G aaP⟩⟩:Tx K mg)⟩
theorem walk{l:agD}{q:ab1}{loose:List Str}{XP:(Str->Option aa9)->adz->Prop}{YP:acz->adz->Prop}{d:DefRec}{K:Params->aa0}(hn:l.most=some 63)(hdf:d.params.defaults=[])
 (hY:∀ (w:acz) (h:adz),YP w h->(K w.params).In h)
 (F:∀ (w:acz) (mg:Str->Option aa9) (fa:abd) (h:adz),(K w.params).In h->h.Ns abB mg->mg d.name=some (.ref fa) ->
   ∃ fd:aea,(∀ (s:abe) (u:aa9),ahC s fd ⟨[u],[]⟩ [("_law_script",u)])/\∀ base:adz,(K w.params).In base->base.Ns abB mg->ff l.prog w (K w.params) mg base (dN l.prog w) 37 fa fd ["_law_script"] (xN (K w.params))) :
 aiV q loose XP YP l.row.toRowW d [] (λf vs=>PySem.call f vs) :=
 Gz.Ro (k:=37) (x := "_law_script") (CX:=λw=>dN l.prog w) (sp:=λw=>xN (K w.params)) hn hdf ⟨rfl,by decide,by decide⟩ hY F (λ_ _ a ns hl hS=>⟨a,ns,rfl,hS,hl,λ_=>rfl⟩) λ_ _ _ _ _ z=>Pb z
end AA
local macro_rules | `(tactic| walk_at "gzin") => `(tactic| first | (show _ = _; k_is) | (refine' And.intro ?y7 ?y8; (case y7 => walk_at "gzin"); (case y8 => walk_at "gzin")))
local macro_rules | `(tactic| walk_at "f") => `(tactic| (refine' Gz.Fb.mk ?y1 ?y2 ?y3 ?y4; (case y1 => first | (show _ = _; k_is) | (refine' ⟨?y5, ?y6⟩; (case y5 => k_is); (case y6 => k_is))); (case y2 => k_is); (case y3 => k_is); (case y4 => k_is)))
local macro_rules | `(tactic| walk_at "gzfi") => `(tactic| (refine' Gz.Fb.mk ?y1 ?y2 ?y3 ?y4; (case y1 => walk_at "gzin"); (case y2 => k_is); (case y3 => k_is); (case y4 => k_is)))
local macro_rules | `(tactic| walk_at "l") => `(tactic| (refine' L2.eI.mk ?_ ?_ ?_ ?_ <;> k_is))
local macro_rules | `(tactic| walk_at "x") => `(tactic| (refine' Gz.XC.mk ?y1 ?y2 ?y3 ?y4 ?y5 ?y6; (case y1 => k_exc); (case y2 => k_is); (case y3 => k_is); (case y4 => k_is); (case y5 => k_is); (case y6 => k_is)))
namespace PySem.W.Fast
def tw16743774350309306433:=0
def tw14927512547638374754:=0
def tw8938656237318695087:=0
def tw11694648642957218529:=0
def tw2968621654050617096:=0
def tw15141982031346720111:=0
def tw11707189546693196887:=0
def tw290034554067094216:=0
def tw4608351030178681223:=0
def tw11613363972141424365:=0
def tw14862557610519193734:=0
def tw9100195673657371175:=0
def tw6544061165513796228:=0
def tw3333427581048610316:=0
def tw2791290694730654779:=0
def tw2152661036958536156:=0
def tw16242460461109731965:=0
def tw7170499826519284642:=0
def tw16269416234538237032:=0
def tw8249541467546627606:=0
def tw17123947779075006917:=0
def tw17450560892819849354:=0
def tw855024321249472608:=0
def tw8556042457879610127:=0
def tw18021430986250186819:=0
def tw17421366723061248558:=0
def tw8772478300874895178:=0
def tw511214116474407915:=0
def tw10459557424200908328:=0
def tw10433716653178675643:=0
def tw13894822206134454562:=0
def tw960143750382452146:=0
def tw11917194038379217844:=0
def tw16606467348930090784:=0
def tw2515437829254514920:=0
def tw12278975427486534766:=0
def tw8740548230977940334:=0
def tw4900331996535689832:=0
def tw11100205215354392826:=0
def tw3255322358593242917:=0
def tw15161566587362107228:=0
def tw516962136621563171:=0
def tw1554349924245226753:=0
def tw1840871078318324700:=0
def tw11818879053999653584:=0
def tw12766613990475195923:=0
def tw12453908392395649948:=0
def tw14104528735719238076:=0
def tw17058221802004633817:=0
def tw14773482613853154880:=0
def tw11745550675504779441:=0
def tw10718555538523178301:=0
def tw3923106802350044947:=0
def tw2910273052807220911:=0
def tw4181211810173806637:=0
def tw10845081877953703524:=0
def tw2596004294079148826:=0
def tw1713669675376366575:=0
def tw14552475873422581912:=0
def tw11080677743377204903:=0
def tw3729972333134813782:=0
def tw7870461502939393064:=0
def tw2933895147705856318:=0
def tw5271335771334943218:=0
def tw3992466590003336133:=0
def tw14143207107288493159:=0
def tw5945744226499783050:=0
def tw7702160242591130114:=0
def tw13662651208221615941:=0
def tw14040695121283643268:=0
def tw1818997556119835926:=0
def tw12701414095098162247:=0
def tw14559224730894796409:=0
def tw4473507567503705441:=0
def tw13570183780137684226:=0
def tw14010415042324372134:=0
def tw15200980028311051534:=0
def tw12655044395855824705:=0
def tw400135415349968532:=0
def tw10462669337109036782:=0
def tw5156379075816057802:=0
def tw8898115670774799287:=0
def tw17325742274051135181:=0
def tw5515082712568501274:=0
def tw3581540718516522936:=0
def tw5468258123381616391:=0
def tw9999937460258543477:=0
def tw5851149032223863767:=0
def tw2923787810086185630:=0
def tw12016228880570781866:=0
def tw16377506144349537097:=0
def tw15337713574720998813:=0
def tw623549873463900798:=0
def tw11779709918880349397:=0
def tw9761661002954949204:=0
def tw10031804540643461122:=0
def tw16235949601995208517:=0
def tw13393489500777534731:=0
def tw6986664182413828550:=0
def tw13685474640610995775:=0
def tw4488537100834464975:=0
def tw6996851320694235416:=0
def tw2301575687913013685:=0
def tw3134946912775207309:=0
def tw3959106986040863620:=0
def tw10206473185902737784:=0
def tw15404656245351461500:=0
def tw16342123063531472673:=0
def tw6349978300685739247:=0
def tw7379484633731838533:=0
def tw3681151320812078495:=0
def tw4348752702613695189:=0
def tw11695579439055984900:=0
def tw16622717257649814593:=0
def tw7387349296049771667:=0
def tw14068647472143568411:=0
def tw5533202014491580264:=0
def tw8245270252029438805:=0
def tw13255704077679078705:=0
def tw12117780414566264247:=0
def tw823104313054984167:=0
def tw5670078036703841325:=0
def tw14992790207362607352:=0
def tw17178370789513980226:=0
def tw12162888302000477360:=0
def tw11662088791267336780:=0
def tw8858074778557710238:=0
def tw7481687179704813802:=0
def tw17954438344324066058:=0
def tw17503312393326937497:=0
def tw11671439895763842599:=0
def tw6128617665251701226:=0
def tw11933479724688867043:=0
def tw5896847529025375612:=0
def tw8691807134579276016:=0
def tw18306173251635244187:=0
def tw4601304602903736341:=0
def tw7980742410491819992:=0
def tw12217035965741338924:=0
def tw17174863386068518777:=0
def tw2214169292605069931:=0
def tw17973631697011858861:=0
def tw5056771611674029003:=0
def tw12683495732327186162:=0
def tw7127406438878058388:=0
def tw16749703373453405739:=0
def tw6839031345248287587:=0
def tw630881982513494453:=0
def tw13329211620827341542:=0
def tw2604057799783332287:=0
def tw16246790086529127604:=0
def tw15353504582645540617:=0
def tw328531811133059667:=0
def tw10469329558298148766:=0
def tw15038383161721928803:=0
def tw15119165555910075699:=0
def tw1746186082531251826:=0
def tw11492092380704078992:=0
def tw16547204289439499355:=0
def tw4127162727788468226:=0
def tw12503298561602293163:=0
def tw8200638073959514814:=0
def tw15107318292251682007:=0
def tw3209275564872217810:=0
def tw10822225865666544655:=0
def tw7354039925002874829:=0
def tw18057203559886801137:=0
def tw9706427259896940980:=0
def tw1015894422743593659:=0
def tw11599306065818384036:=0
def tw8856024840259804097:=0
def tw15084788390651507079:=0
def tw4032819113041171895:=0
def tw16512976113585032109:=0
def tw6595147281746377347:=0
def tw15399158615903909603:=0
def tw5529742952312934830:=0
def tw13038990449929104776:=0
def tw7702487797584644888:=0
def tw2886753732891775280:=0
def tw10542629826269267825:=0
def tw8761002451680651569:=0
def tw57172635020192662:=0
def tw8014208118523105788:=0
def tw17947385055030116332:=0
def tw4962739845498449012:=0
def tw5429515499715023750:=0
def tw14587219076678825535:=0
def tw16807139992073872469:=0
def tw18305497935277936255:=0
def tw1672148500366993820:=0
def tw6433383388402730024:=0
def tw12321786313737982086:=0
def tw12933345698489663370:=0
def tw12684299654998858117:=0
def tw14571258065540544428:=0
def tw8070634175304454391:=0
def tw6418590467395233261:=0
def tw7987981232207146215:=0
def tw8540036268437088474:=0
def tw1163636893638033372:=0
def tw3107360272380774176:=0
def tw1348315903860413938:=0
def tw8010486141723614138:=0
def tw10519911730995074233:=0
def tw8232567933822347418:=0
def tw1452893497767557322:=0
def tw15613538941041082211:=0
def tw8353316544728483186:=0
def tw16521170354544752849:=0
def tw16556541138644814297:=0
def tw12581132156523478827:=0
def tw7632718451487004300:=0
def tw7584241798040827549:=0
def tw2305710967336700667:=0
def tw3811805939408406572:=0
def tw13968917815965796183:=0
def tw5645869122250763585:=0
def tw696659724143161666:=0
def tw14868383658544844124:=0
def tw3908723481833288691:=0
def tw5683347540542953303:=0
def tw8274678283334526102:=0
def tw8021019268248572401:=0
def tw5198779425131778547:=0
def tw6698104155960445942:=0
def tw14559732810412619455:=0
def tw7451053297069004139:=0
def tw11843272154024044602:=0
def tw2150408788470793277:=0
def tw9432214773939258002:=0
def tw15704837383297200508:=0
def tw4913383923644760628:=0
def tw12263510890580492250:=0
def tw10158576362206716289:=0
def tw4054770673873621104:=0
def tw2572887746065043151:=0
def tw10925634174383261883:=0
def tw7103318390755422405:=0
def tw4524927974316182980:=0
def tw16696300987016527410:=0
def tw11242594059062101883:=0
def tw2605735234664462837:=0
def tw8036801787131582298:=0
def tw13801189390157451739:=0
def tw9273890760045598497:=0
def tw9686288220758216326:=0
def tw4966362923375139579:=0
def tw709610751508168699:=0
def tw17035115378239604124:=0
def tw12795135937103236581:=0
def tw15857823291012259669:=0
def tw14669089789881343725:=0
def tw15274456301610220755:=0
def tw3627998301792910288:=0
def tw6756664642137120763:=0
def tw9006618961849479965:=0
def tw18439530348987222852:=0
def tw3302684773379197797:=0
def tw8005014820725976148:=0
def tw12452265431933002051:=0
def tw7029144143451957214:=0
def tw6881870765627532719:=0
def tw18189347568782257318:=0
def tw16834018969334123623:=0
def tw13039072167072060836:=0
def tw11301329675871216057:=0
def tw14225749209618262234:=0
def tw2407664752331062103:=0
def tw12228094216484045768:=0
def tw13641945857185483947:=0
def tw13152762601054487705:=0
def tw3357295640509543107:=0
def tw15461041240507577668:=0
def tw15584376776885466920:=0
def tw5569220148825520961:=0
def tw5006894995362468208:=0
def tw16342370896715615058:=0
def tw2831234710969905172:=0
def tw4754933590628531740:=0
def tw15538473688731060747:=0
def tw4417963973580445483:=0
def tw13244342929361712464:=0
def tw10367778150822761145:=0
def tw17927083634749922649:=0
def tw5310293293426883201:=0
def tw3843414177647065404:=0
def tw17988140171687813062:=0
def tw17956240010790685964:=0
def tw16427370807533193961:=0
def tw16214063305702891664:=0
def tw13940989759578779374:=0
def tw15002171906736570413:=0
def tw3895788379747648720:=0
def tw13913852997137421983:=0
def tw9363643012078768780:=0
def tw16892783486746206679:=0
def tw4620655003941176420:=0
def tw10531539316876704777:=0
def tw537387452785208725:=0
def tw15559998860154969127:=0
def tw2534821890661252296:=0
def tw1415534269057446763:=0
def tw15488681356999595994:=0
def tw12124228272883504530:=0
def tw15818431759560127254:=0
def tw17281465534434541289:=0
def tw7347404997628304213:=0
def tw2015303433851655964:=0
def tw16800575817153641271:=0
def tw5757743166534338457:=0
def tw13548114226575068100:=0
def tw16675871532407788646:=0
def tw13840414793486880068:=0
def tw18071406147346818059:=0
def tw16342187704657787398:=0
def tw7094345371075992343:=0
def tw16053515337353185039:=0
def tw2270309195617144436:=0
def tw3373639653947044202:=0
def tw17802950628432925939:=0
def tw8377931617903588717:=0
def tw3875632976432668422:=0
def tw9526304609542618673:=0
def tw6447553046438689580:=0
def tw4781078713907225452:=0
def tw5010174074363707997:=0
def tw11343944247467654373:=0
def tw15460119078402560166:=0
def tw9444062788647857331:=0
def tw8518726022278872056:=0
def tw6923907158528798342:=0
def tw16135819343763864090:=0
def tw159756109346893558:=0
def tw9137433393410328170:=0
def tw11355776484282832291:=0
def tw7278827094700986371:=0
def tw14382480077433791568:=0
def tw526941869538325255:=0
def tw4512627131795536505:=0
def tw12246429098854430565:=0
def tw17096876287189157028:=0
def tw17793364244700091381:=0
def tw1795957364838618354:=0
def tw2599063296993169244:=0
def tw11551267784461418442:=0
def tw12567554740740121709:=0
def tw16687631996665650579:=0
def tw8198522480623228837:=0
def tw14411984896941280521:=0
def tw15380966263392046317:=0
def tw1237330731129661520:=0
def tw1643221240173881260:=0
def tw3093158509959049248:=0
def tw16044835550869572853:=0
def tw12312767413470621296:=0
def tw8452994389495736280:=0
def tw5700119490680360223:=0
def tw11263378301138225358:=0
def tw8765147392326034707:=0
def tw1498354292877877502:=0
def tw5157093144161890776:=0
def tw11619809353075633575:=0
def tw15240515539791066378:=0
def tw16378930484941266352:=0
def tw13332632052747955981:=0
def tw12359755522336600592:=0
def tw7047022746401353239:=0
def tw12550149306595225294:=0
def tw1810275874961699969:=0
def tw312902946772639009:=0
def tw10769408754433101775:=0
def tw8511297782861451015:=0
def tw17776648056266955369:=0
def tw7323115451637276551:=0
def tw6613510725460855942:=0
def tw8824487482717658609:=0
def tw17305762217315386298:=0
def tw4020387524236904457:=0
def tw2835826080085441117:=0
def tw9766661781474336876:=0
def tw2777754079092075585:=0
def tw8304096792471717773:=0
def tw13618010095587973033:=0
def tw6961565477725918289:=0
def tw18256568907784906435:=0
def tw12555978196535543539:=0
def tw1568389952872964652:=0
def tw1497231874486535276:=0
def tw16739751593040394646:=0
def tw5579349832826727201:=0
def tw5340038033296621961:=0
def tw2686488368830273341:=0
def tw1073840799804818538:=0
def tw12207560769538116623:=0
def tw15531793851759059275:=0
def tw16887042131435586202:=0
def tw500964956665989051:=0
def tw9453138006424435525:=0
def tw620930982947053925:=0
def tw9935481778517117831:=0
def tw15654639038309667725:=0
def tw7665759637785721631:=0
def tw7009503541047068742:=0
def tw8967451812499862355:=0
def tw7052580308113573458:=0
def tw11041828284079399725:=0
def tw12534015220050294847:=0
def tw18426312907114734290:=0
def tw5074242656506268288:=0
def tw5177462444116045318:=0
def tw9474260786241618523:=0
def tw3720963666269002506:=0
def tw1075199092295616870:=0
def tw6935391647739772652:=0
def tw13618605190533433879:=0
def tw3590800699212257287:=0
def tw5939852099268427948:=0
def tw18372177844088390323:=0
def tw6812495294620307026:=0
def tw6516113975401953719:=0
def tw2212345509297129956:=0
def tw6488680085438218646:=0
def tw3892384330271458563:=0
def tw7958774229970981734:=0
def tw2288501606468304379:=0
def tw5235882560639888903:=0
def tw11848958428863571436:=0
def tw15403018466582496613:=0
def tw5994883855327332922:=0
def tw16020707999566359984:=0
def tw15326813261209889197:=0
def tw4783281712468327833:=0
def tw9124203776086960267:=0
def tw8520898917054218359:=0
def tw4366308482901026341:=0
def tw209159870272602783:=0
def tw3635357315661730240:=0
def tw3018178580975039835:=0
def tw407360397023754154:=0
def tw14581992744344223240:=0
def tw18201576458838002318:=0
def tw16916226232954443011:=0
def tw8248205795186326786:=0
def tw17406053307696639404:=0
def tw11495425842327111207:=0
def tw14278094458506090745:=0
def tw4545771797890988837:=0
def tw4039027645489631082:=0
def tw5499294811604989525:=0
def tw14213144291663690789:=0
def tw4616774607247861579:=0
def tw1151206880034137665:=0
def tw9168915422281937719:=0
def tw1465713193140238857:=0
def tw12415104856970525415:=0
def tw3940087424143416250:=0
def tw16753004425339528375:=0
def tw9279745150965580919:=0
def tw776622719502594497:=0
def tw5581047162338967166:=0
def tw18391823999550680482:=0
def tw10675579369163788925:=0
def tw16355732443095649635:=0
def tw15357737975393411004:=0
def tw16757366778553535043:=0
def tw17740444381093528848:=0
def tw2694821335607479731:=0
def tw11665278926103113632:=0
def tw872861799787356131:=0
def tw5745705922206619040:=0
def tw5565353072760599546:=0
def tw9534688572967468430:=0
def tw14171264178590724374:=0
def tw12014960932593583086:=0
def tw15223669454794971021:=0
def tw1259347645910316856:=0
def tw12443657413662845583:=0
def tw473675095429902995:=0
def tw17693421360114892662:=0
def tw4964085999662946649:=0
def tw17403588527307691884:=0
def tw4735177105582549426:=0
def tw160795303803994325:=0
def tw6927738980980439155:=0
def tw17736501546253033026:=0
def tw11878322426853359791:=0
def tw8122354598985712966:=0
def tw16809660525508315224:=0
def tw15804533557282427865:=0
def tw17496621211848904089:=0
def tw5104640152383369215:=0
def tw10229806703942468430:=0
def tw8128528300101924400:=0
def tw3211812801966306460:=0
def tw1330018707501548728:=0
def tw8952388519673102011:=0
def tw16764329279506342555:=0
def tw7010597209462991010:=0
def tw12962100508454343010:=0
def tw112276966532730688:=0
def tw6939426869901148911:=0
def tw8617475561241861290:=0
def tw5827844248925402508:=0
def tw15866548278305782012:=0
def tw16402921738572147858:=0
def tw384802252229132361:=0
def tw11088972182346000814:=0
def tw9656697341648402938:=0
def tw18133201310933379590:=0
def tw8098088665244152178:=0
def tw12227671526261812050:=0
def tw5957846719415613625:=0
def tw14323468512437543505:=0
def tw11176111850751006783:=0
def tw7007647759916814497:=0
def tw1379491522290202786:=0
def tw16719713043311864767:=0
def tw16099722950034915102:=0
def tw16068662969005466455:=0
def tw12356720841973098594:=0
def tw8376364257348538909:=0
def tw17222264088444825041:=0
def tw3630095093559464119:=0
def tw9310573398189506596:=0
def tw14908178978516090924:=0
def tw15237779994852101657:=0
def tw16563471072217817906:=0
def tw2194736790824525730:=0
def tw8947589508947357649:=0
def tw14464572215387081046:=0
def tw5118459529968360448:=0
def tw7500556699972694225:=0
def tw106813524698108907:=0
def tw1755272443911634154:=0
def tw17119047849518720401:=0
def tw12741911125074830784:=0
def tw3781126614467927609:=0
def tw8636197956165009710:=0
def tw10391040208832057957:=0
def tw3783963413958212448:=0
def tw3592020307106605601:=0
def tw12614505660237938142:=0
def tw12944460892432435302:=0
def tw13281042463732713841:=0
def tw8586199226324670453:=0
def tw12535646857793320803:=0
def tw13906273819774650514:=0
def tw3527332254848953130:=0
def tw16156547305816655327:=0
def tw1796361996613395132:=0
def tw7000189586282066759:=0
def tw7179149067514396617:=0
def tw5489422939608413335:=0
def tw6137700721406515248:=0
def tw3212798715099897851:=0
def tw15697363222082202158:=0
def tw10582866293976825062:=0
def tw16304803010601592289:=0
def tw10297340369485219186:=0
def tw8329770267975201434:=0
def tw18337738363555462312:=0
def tw10412506289461548599:=0
def tw12991763489006358428:=0
def tw3579823784029405012:=0
def tw6555291420233069714:=0
def tw13456584002255418138:=0
def tw14927123157749318357:=0
def tw17061899507921318930:=0
def tw14794864078097532565:=0
def tw979722732826458253:=0
def tw14057893883774999679:=0
def tw4943817022159340062:=0
def tw7788030244696925103:=0
def tw9390872948376431090:=0
def tw7038327655823779297:=0
def tw16462737139169475877:=0
def tw10922114078010863364:=0
def tw8689593413395127070:=0
def tw5099104565043724581:=0
def tw237326702809213985:=0
def tw16584272286497215963:=0
def tw15884929250795842365:=0
def tw11481912179003121074:=0
def tw17188563206082047819:=0
def tw3112783185717015678:=0
def tw13301051647936283409:=0
def tw5894655209157049066:=0
def tw12911623842837379610:=0
def tw6817023800602299168:=0
def tw2239529641459979679:=0
def tw5297955490792666853:=0
def tw1461351086793418092:=0
def tw5082533219603050012:=0
def tw18140017064797390996:=0
def tw12499789397752002043:=0
def tw15187939041736440208:=0
def tw18381678770463415340:=0
def tw5292170888177674679:=0
def tw1275872823292179669:=0
end PySem.W.Fast
open PySem PySem.W PyProof.Rows
set_option maxRecDepth 100000 in
set_option maxHeartbeats 0 in
theorem PySem.Challenge.cw_gaze_k65_eyes_named_holds : PySem.Challenge.rw_gaze_k65_eyes_named.Holds := by
 w_on;o_law;k_head;(case hw=>w_witness2)
 k_fill
 refine AA.walk (l:=PySem.Challenge.rw_gaze_k65_eyes_named) rfl rfl (λw h Y=>PySem.W.kIn_of Y) ?F
 case F =>
  intro w mg fa h KX G hmg;refine' AA.aac KX G hmg ?_ ?_ ?_ ?_ ?_ ?_ ?_ ?_ ?_ ?_ ?_ ?_ ?_ ?_ ?_ ?_ ?_ ?_ ?_ ?_ ?_ ?_ ?_ ?_ ?_ ?_ ?_ ?_ ?_ ?_ ?_ ?_ ?_ ?_ ?_ ?_ ?_ ?_ ?_ ?_ ?_ ?_ ?_ ?_ ?_ ?_ ?_ ?_ ?_ ?_ ?_ ?_ ?_ ?_ ?_ ?_ ?_ ?_ ?_ ?_ ?_ ?_ ?_ ?_ ?_ ?_ ?_ ?_ ?_ ?_ ?_ ?_ ?_ ?_ ?_ ?_ ?_ ?_ ?_ ?_ ?_ ?_ ?_ ?_ ?_ ?_ ?_ ?_ ?_ ?_ ?_ ?_ ?_ ?_ ?_ ?_ ?_ ?_ ?_ ?_ ?_ ?_ ?_ ?_ ?_ ?_ ?_ ?_ ?_ ?_ ?_ ?_ ?_ ?_ ?_ ?_ ?_ ?_ ?_ ?_ ?_ ?_ ?_ ?_ ?_ ?_ ?_ ?_ ?_ ?_ ?_ ?_ ?_ ?_ ?_ ?_ ?_ ?_ ?_
  rotate_left 10
  iterate 7 k_is
  iterate 13 walk_at "f"
  iterate 2 walk_at "gzfi"
  iterate 69 walk_at "f"
  iterate 18 k_is
  iterate 2 walk_at "l"
  iterate 3 k_is
  walk_at "l"
  iterate 8 k_is
  iterate 3 walk_at "x"
  iterate 4 k_is
  iterate 3 kit_is
  iterate 6 k_is
#print axioms PySem.Challenge.cw_gaze_k65_eyes_named_holds
